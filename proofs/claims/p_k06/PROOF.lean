import PyProof.Rows.All
import Wide.All
import OpenK.AllK
import PySem.Challenge.RW_askviews_k06_answers
set_option Elab.async false
set_option linter.all false
set_option bootstrap.genMatcherCode false
set_option maxRecDepth 100000
set_option maxHeartbeats 4000000
noncomputable section
open PySem.W (Frag findIn nsIn fnOf emptyDict keepIn instObj plainGet kitOne codeIn hasDictIn isFn lookIn)
section
open PySem
def ae:=@wpAny_bind
def af:=@PySem.Heap.get?_push_of_some
def ag:=@List.length_map
def ah:=@wpAny_pure
def ak:=@Nat.le_refl
def aq:=@List.getElem?_eq_some_iff
def ar:=@List.getElem?_eq_getElem
def ax:=@if_neg
def ay:=@List.mem_singleton
def aA:=@List.mem_cons_self
def aB:=@if_pos
def aC:=@List.mem_of_getElem?
def aD:=@List.mem_cons_of_mem
def aE:=@Nat.le_trans
def aF:=@PySem.Heap.lt_size
def aG:=@PySem.Heap.get?_push_size
def aH:=@Nat.ne_of_lt
def aI:=@List.mem_cons
def aJ:=@List.getElem?_map
def aK:=@List.length_append
def aM:=@List.mem_map
def aN:=@List.size_toArray
def aO:=@Nat.zero_le
def aQ:=@List.map_append
def aR:=@Array.length_toList
def aS:=@List.length_take
def aT:=@Bool.false_ne_true
def aU:=@decide_eq_true
def aX:=@List.map_cons
def aZ:=@List.take_add_one
def a9:=@List.take_length
def bf:=@List.mem_append
def bg:=@Nat.lt_of_lt_of_le
def bh:=@Bool.false_eq_true
def bo:=@Option.map_eq_some_iff
def br:=@of_decide_eq_true
def bt:=@decide_eq_false
def bu:=@Nat.le_of_lt
def bx:=@Nat.ne_of_gt
def bz:=@Array.getElem?_eq_getElem
def bB:=@PySem.Paired.length
def bC:=@wpAny_call_entry
def bD:=@Array.getElem?_toList
def bF:=@PySem.PassesOwn.never
def bH:=@List.length_cons
def bI:=@Option.toList_some
def bJ:=@PySem.Heap.get?_update_other
def bL:=@Option.some.inj
def bM:=@List.mem_filter
def bN:=@List.mem_append_right
def bO:=@wpAny_field
def bP:=@Ne.symm
def bR:=@wpAny_holding
def bS:=@wpAny_seqItems
def bU:=@PySem.Heap.SameBut.update
def bV:=@PySem.F.slot_dict_itemiterator_next
def bW:=@wpAny_setField_rec
def bX:=@if_false
def bY:=@PySem.F.plainAttrs_list
def bZ:=@Nat.lt_of_le_of_lt
def b6:=@PySem.Heap.size_push
def b7:=@PySem.Heap.get?_update_self
def b8:=@congrFun
def b9:=@List.append_assoc
def cj:=@List.append_nil
def cq:=@boot_len
def cv:=@sizeLine_eq
def cw:=@List.take_of_length_le
def cx:=@List.map_map
def cz:=@List.getD_eq_getElem?_getD
def cA:=@congrArg
def cB:=@PySem.W.mg_none_of
def cD:=@List.length_filter_le
def cH:=@List.map_congr_left
def cI:=@List.idxOf_lt_length_of_mem
def cK:=@PySem.F.type_list_append
def cL:=@PySem.F.slot_list_append
def cM:=@Bool.and_eq_true
def cN:=@Int.toNat_natCast
def cP:=@Array.getElem_mem
def cR:=@wpAny_mono
def cS:=@List.length_nil
def cT:=@wpAny_newObj_type
def cX:=@List.mem_append_left
def cZ:=@codeAny_builtin
def c8:=@List.take_append_drop
def dc:=@List.mem_range
def de:=@List.length_singleton
def df:=@Nat.lt_irrefl
def dh:=@List.getElem?_append_right
def dn:=@List.getElem?_append_left
def dt:=@wpAny_attempt
def du:=@List.nodup_cons
def dv:=@Bool.not_true
def dw:=@Nat.lt_succ_self
def dy:=@Nat.le_add_right
def dA:=@List.all_eq_true
def dC:=@PyProof.Rows.callWith_type1
def dD:=@Nat.lt_succ_of_lt
def dM:=@Option.map_some
def dN:=@List.mem_iff_getElem
def dO:=@PySem.F.slot_zip_next
def dQ:=@List.find?_cons_of_pos
def dR:=@List.find?_cons_of_neg
def dU:=@List.pairwise_iff_getElem
def d9:=@PySem.F.slot_dict_keyiterator_next
def eC:=@List.mem_iff_getElem?
def eE:=@PySem.W.kia_one
def eG:=@Nat.le_succ
def eK:=@List.length_eq_zero_iff
def eP:=@forall_congr'
def eT:=@wpAny_setField
def eY:=@List.nodup_append
def fb:=@beq_eq_false_iff_ne
def fg:=@wpAny_rule
def fo:=@PySem.F.args_dict_itemiterator_next_1
def fq:=@builtinLookup_eq_fast
def fu:=@wpAny_isInstance
def fA:=@PySem.F.entry_dict_itemiterator_next
def fB:=@PyProof.Rows.F.plain_set_update_loop
def fC:=@Nat.lt_trans
def fD:=@Nat.le_of_not_lt
def fE:=@List.filter_append
def fG:=@PySem.Calls.spliced_cons
def fJ:=@if_true
def fK:=@Nat.pow_le_pow_right
def fL:=@PySem.Around.under_plainId
def fP:=@List.pairwise_singleton
def fQ:=@wpAny_dictEntries
def fV:=@List.forIn_cons
def fW:=@List.filterMap_cons
def f6:=@plainId_quiet
def f7:=@Bool.true_and
def f9:=@Array.getElem?_eq_some_iff
def gj:=@List.filter_cons
def gA:=@List.getElem?_eq_none
def gD:=@PySem.F.plain_extend_loop
def gJ:=@wpAny_typeNameOfWhole_itemiter
def gK:=@wpAny_specialOf
def gR:=@Nat.not_lt_zero
def gW:=@Nat.min_eq_left
def gX:=@PySem.Heap.get?_none_of_le
def gY:=@Bool.eq_iff_iff
def gZ:=@wpAny_truthy_bool
def g6:=@decide_eq_true_eq
def g7:=@bne_self_eq_false
def g9:=@Bool.eq_false_iff
def hJ:=@wpAny_typeNameOfWhole_keyiter
def hZ:=@PySem.F.plainAttrs_dict
def ic:=@wpAny_fieldsOf
def il:=@List.cons_append
def ir:=@PySem.Calls.callWith_builtin
def iw:=@wpAny_typeOf
def iA:=@Nat.pow_succ
def iB:=@PySem.Code.quiet_builtin
def iC:=@Array.forIn_toList
def iD:=@wpAny_updateSeq
def iE:=@wpAny_passesOwn
def iF:=@wpAny_notOrdered_dict
def iG:=@typeLookup_type
def iN:=@PySem.F.slot_dict_get
def iO:=@List.perm_append_comm
def iP:=@List.nil_append
def iQ:=@List.length_replicate
def iV:=@PySem.F.slot_NoneType_hash
def iX:=@PySem.F.slot_tuple_iterator_next
def iY:=@Option.isSome_map
def iZ:=@List.length_range
def je:=@PySem.F.args_zip_next_1
def jh:=@lookup_relabel_local
def ji:=@List.pairwise_append
def jj:=@List.mem_of_mem_take
def jk:=@List.mem_of_find?_eq_some
def jl:=@List.drop_eq_getElem_cons
def jm:=@PySem.Calls.call_function_entry
def jq:=@LawfulBEq.eq_of_beq
def jt:=@isSubtype_stop
def ju:=@List.forIn_nil
def jv:=@wpAny_forIn_list
def jz:=@Option.isSome_iff_exists
def jA:=@Nat.add_zero
def jB:=@List.zipIdx_cons
def jC:=@List.mem_reverse
def jD:=@List.mem_flatten
def jE:=@List.mem_flatMap
def jF:=@List.map_nil
def jG:=@List.length_drop
def jH:=@List.getElem_mem
def jI:=@List.any_eq_true
def jJ:=@PySem.F.entry_zip_next
def jK:=@mem_of_lookup
def jL:=@wpAny_getItem_str_slice
def jR:=@Nat.mul_assoc
def jS:=@wpAny_dictEpoch
def j8:=@List.getElem_idxOf
def j9:=@List.foldl_cons
def kg:=@List.find?_cons
def kh:=@Int.emod_lt_of_pos
def kj:=@Array.getElem?_eq_none
def ko:=@wpAny_pyIter_list
def kr:=@PyProof.Rows.vals1
def kB:=@Nat.lt_trichotomy
def kD:=@List.pairwise_map
def kE:=@List.flatMap_cons
def kF:=@PySem.F.slot_tuple_hash
def kG:=@PySem.Calls.spliced_nil
def kH:=@Array.toList_push
def kI:=@wpAny_newTuple
def kK:=@codeAny_mono
def kN:=@List.pairwise_reverse
def kP:=@List.nodup_nil
def kW:=@wpAny_pyIter_zip
def k7:=@List.not_mem_nil
def k8:=@List.isEmpty_nil
def k9:=@PySem.Calls.evalArgs_plain
def lq:=@Array.mem_toList_iff
def lA:=@Array.getElem_toList
def lB:=@wpAny_onRaise
def lH:=@List.length_eraseIdx_of_lt
def lJ:=@List.any_cons
def lK:=@wpAny_letGo
def lM:=@PySem.Paired.snoc
def lQ:=@Std.Legacy.Range.forIn_eq_forIn_range'
def lR:=@List.mem_map_of_mem
def lT:=@List.map_eq_nil_iff
def lU:=@wpAny_ite_split
def mi:=@List.length_zip
def ml:=@Int.emod_nonneg
def mn:=@Classical.byContradiction
def mq:=@wpAny_Call_Name_kw
def mw:=@tupleKind_room_in1
def mx:=@sub_AttributeError
def mO:=@decide_eq_true_iff
def mS:=@PySem.F.type_tuple_index
def mT:=@PySem.F.slot_tuple_index
def mU:=@PySem.F.plainAttrs_tuple
def mV:=@PySem.F.args_tuple_add_2
def mW:=@PySem.F.args_dict_keyiterator_next_1
def mX:=@PyProof.Rows.F.entry_set_update_loop
def mY:=@PySem.Obj.data_mapFields
def mZ:=@List.getElem?_take_of_lt
def m7:=@typeIs_str
def nE:=@PySem.F.entry_dict_keyiterator_next
def nG:=@Bool.not_false
def nJ:=@Bool.false_and
def nK:=@Bool.and_false
def nO:=@PySem.F.entry_tuple_add
def nP:=@PySem.F.args_dict_get_3
def nQ:=@List.getElem?_cons_succ
def nR:=@wpAny_pyIter_slot
def nZ:=@wpAny_isOneOf_itemiter
def oF:=@PySem.F.slot_tuple_add
def oG:=@PySem.F.entry_dict_get
def oI:=@Nat.mul_add
def oO:=@PySem.W.mg_of
def oP:=@Nat.add_assoc
def oU:=@merged_length_le
def pj:=@List.Perm.append_left
def pk:=@List.eraseIdx_eq_take_drop_succ
def pq:=@wpAny_pyIter_keyiter
def pz:=@wpAny_execs_nil
def pE:=@post_val_or_str
def pY:=@codeAny_call_builtin
def pZ:=@call_meetsIn
def qa:=@PySem.Txt.slice_le
def qb:=@Nat.succ_pos
def qd:=@Nat.mod_lt
def qg:=@List.zipIdx_nil
def qh:=@List.of_mem_zip
def qj:=@Bool.and_eq_true_iff
def qm:=@Array.toList_extract
def qo:=@List.eq_nil_of_length_eq_zero
def qp:=@wpAny_dictSet_pairs
def qy:=@PySem.W.plainGet_of
def qz:=@Nat.pow_le_pow_left
def qA:=@List.filter_sublist
def qB:=@PySem.F.plain_extend_loop
def qC:=@Array.toList_append
def qS:=@PySem.F.slot_dict_setdefault
def qT:=@PySem.F.slot_dict_items_iter
def qU:=@List.dropLast_concat_getLast
def qV:=@PySem.F.args_tuple_iterator_next_1
def rA:=@wpAny_pyIter_tuple
def rU:=@PyProof.Rows.assignInOrder_cons
def rY:=@PySem.W.callWith_K
def rZ:=@List.mem_filterMap
def sd:=@List.map_singleton
def sf:=@PySem.F.entry_tuple_iterator_next
def si:=@wpAny_standAt
def su:=@PyProof.Rows.listUpdate_at
def sG:=@List.take_subset_take_left
def sH:=@List.perm_ext_iff_of_nodup
def sJ:=@Int.fdiv_eq_ediv_of_nonneg
def sL:=@PySem.Calls.Name_function_global
def sM:=@Array.perm_iff_toList_perm
def sN:=@wpAny_setState_of
def sO:=@wpAny_Call_method
def sY:=@Nat.mul_left_comm
def sZ:=@List.reverse_perm
def tf:=@List.ext_getElem?
def tm:=@List.drop_sublist
def tD:=@Function.comp_def
def tE:=@wpAny_letOwnedTupleGo_zip
def tP:=@call_meets
def tQ:=@beq_iff_eq
def tT:=@PySem.F.entry_extend_loop
def tU:=@List.rel_of_pairwise_cons
def tV:=@Decidable.byContradiction
def t7:=@wpAny_askSetting
def uv:=@noFill_tuple_add
def ux:=@merged_take_succ
def uQ:=@PySem.F.type_list_extend
def uR:=@PySem.F.slot_list_extend
def uS:=@PySem.F.slot_dict_update
def uU:=@List.lookup_cons
def uV:=@List.getElem_zip
def uW:=@List.getElem_map
def uX:=@Array.toList_inj
def uY:=@Array.getElem?_replicate
def uZ:=@meetsH_dict_get_default
def u3:=@PySem.F.slot_dict_items
def u4:=@Nat.add_sub_cancel_left
def u5:=@List.lookup_eq_some_iff
def u6:=@List.getElem?_replicate
def u7:=@List.filter_cons_of_neg
def u9:=@List.Pairwise.filterMap
def vc:=@Array.back?_eq_getElem?
def vj:=@size_of_entries
def vE:=@List.filter_nil
def vF:=@PySem.Heap.DictOf.new
def vG:=@wpAny_pyNext_list_item
def vH:=@wpAny_Assign_Subscript
def vJ:=@PyProof.Rows.subscriptTail_builtinR
def vM:=@PyProof.Rows.seqEpoch_at
def vU:=@PySem.W.cellsFrom_some
def vV:=@PySem.F.slot_dict_iter
def vW:=@Nat.mod_mul
def vX:=@List.range_succ_eq_map
def vY:=@List.pairwise_lt_range
def vZ:=@List.not_of_lt_findIdx
def v3:=@List.getElem?_set_self
def v5:=@List.drop_eq_nil_of_le
def v7:=@List.Perm.append_right
def v8:=@wpAny_tryCatch
def v9:=@wpAny_pyNext_list_end
def wb:=@wpAny_isTrue_Compare1
def wc:=@wpAny_isOneOf_keyiter
def we:=@wpAny_eqIsQuiet_tuple
def wK:=@isSubtype_type
def w4:=@entryFor_alias
def xa:=@callType_codes
def xb:=@PySem.F.type_dict_get
def xc:=@PySem.F.plain_set_new
def xf:=@PySem.Obj.isFreed_of_fields
def xh:=@wpAny_raiseAttrError
def xF:=@or_false
def yn:=@PySem.Obj.data_mapDictKeys
def yo:=@Nat.mul_le_mul_right
def yp:=@List.mem_of_mem_drop
def yq:=@List.idxOf_cons_self
def yr:=@List.getElem?_set_ne
def yt:=@PySem.F.kt_typeCall_dict_1
def yu:=@PySem.F.args_object_init_3
def yw:=@PySem.F.args_list_extend_2
def yx:=@PySem.F.args_list_append_2
def yz:=@Array.toList_reverse
def yC:=@wpAny_newList
def yE:=@seq_tuple_add
def yS:=@List.all_cons
def yT:=@Bool.or_false
def yW:=@List.flatMap_append
def yX:=@PySem.F.entry_list_extend
def yY:=@PySem.F.entry_list_append
def y0:=@wpAny_setItem_heap
def y7:=@wpAny_getItem_heap
def zg:=@seqIndex_neg
def zu:=@putSet_of
def zw:=@PyProof.Rows.plain_sorted
def zC:=@of_decide_eq_false
def zY:=@PyProof.Rows.entry_sorted
def zZ:=@concat_meets
def Ah:=@PyProof.Rows.args_sorted1
def Ak:=@PySem.SeqAt.EqAt.str_int
def Al:=@PySem.SeqAt.EqAt.int_str
def Am:=@PySem.F.called_set
def An:=@Nat.zero_add
def Ao:=@Nat.sub_self
def Ap:=@Nat.le_of_eq
def Aq:=@Nat.eq_zero_or_pos
def Ar:=@List.zip_cons_cons
def As:=@List.pairwise_cons
def Au:=@List.getElem?_drop
def Av:=@List.filterMap_map
def Aw:=@List.countP_append
def Ax:=@PySem.F.slot_list_extend
def Ay:=@PySem.F.slot_list_append
def Az:=@PySem.F.args_dict_init_2
def AD:=@Array.size_extract
def AU:=@wpAny_storeSet_of
def AV:=@wpAny_pyIter_enum
def AW:=@wpAny_assign_Name
def AY:=@eqIsQuiet_byValue
def AZ:=@PyProof.Rows.assignInOrder_nil
def A0:=@list_append
def A1:=@PySem.W.kitx_list
def A2:=@PySem.W.kitx_dict
def A3:=@PySem.Obj.cls_mapFields
def A4:=@List.take_sublist
def A5:=@List.getElem_take
def A6:=@List.foldl_append
def A7:=@PySem.Heap.SameBut.refl
def A8:=@PySem.F.plain_list_iadd
def A9:=@PySem.F.entry_dict_init
def Ba:=@wpAny_of_eq
def Bb:=@wpAny_mkInt
def Be:=@seqIndex_of
def Bp:=@PyProof.Rows.kind_sorted
def BH:=@Sum.inr.inj
def BI:=@Nat.add_mul
def BJ:=@Int.le_refl
def CJ:=@wpAny_load
def CK:=@wpAny_call
def CL:=@wpAny_Name
def DT:=@PyProof.Rows.Subscript_
def DY:=@Nat.not_lt
def D5:=@PyProof.Rows.Call_
end
namespace L2
open PySem PySem.Spec PyProof.Rows
abbrev Key:=Sum Int Str
def xQ:Key->Value->Bool
 | .inl k,v=>Value.isInt k v
 | .inr x,v=>Value.isStrOf x v
def ab7(w:World):Key->Int
 | .inl k=>hashInt k
 | .inr x=>hashStr w x
theorem gH:∀{k:Key}{v:Value},xQ k v=true->(∃i t,k=Sum.inl i/\v=Value.int i t)\/(∃x t,k=Sum.inr x/\v=Value.str x t)
 | .inl i,v,h=>by obtain⟨t,e⟩:=Value.isInt_shape (k:=i) (v:=v) h;exact .inl ⟨i,t,rfl,e⟩
 | .inr x,v,h=>by obtain⟨t,e⟩:=Value.isStrOf_shape (x:=x) (v:=v) h;exact .inr ⟨x,t,rfl,e⟩
def OG(i:Int)(t:Tok):xQ (.inl i) (.int i t)=true:=by simp[xQ,Value.isInt]
def OF(x:Str)(t:Tok):xQ (.inr x) (.str x t)=true:=by simp[xQ,Value.isStrOf]
def Yw(a b:Int):decide ((Sum.inl a:Key)=Sum.inl b)=(a==b):=by
 by_cases e:a=b
 ·subst e;simp
 ·have h:¬(Sum.inl a:Key)=Sum.inl b:=λq=>e (Sum.inl.inj q);rw[bt h];exact(fb.mpr e).symm
def Yt(a b:Str):decide ((Sum.inr a:Key)=Sum.inr b)=decide (a=b):=by
 by_cases e:a=b
 ·subst e;simp
 ·have h:¬(Sum.inr a:Key)=Sum.inr b:=λq=>e (BH q);rw[bt h,bt e]
def Yv(a:Int)(b:Str):decide ((Sum.inl a:Key)=Sum.inr b)=false:=bt (λq=>nomatch q)
def Yu(a:Str)(b:Int):decide ((Sum.inr a:Key)=Sum.inl b)=false:=bt (λq=>nomatch q)
noncomputable def bA(prog:Program)(w:World):PySem.KeyKind prog w Key where
 is:=xQ
 hash:=ab7 w
 inj:=λv a b ha hb=>by
  rcases gH ha with⟨i,t,rfl,rfl⟩|⟨x,t,rfl,rfl⟩
  ·rcases gH hb with⟨j,u,rfl,e⟩|⟨y,u,rfl,e⟩
   ·injection e with e1 _;rw[e1]
   ·exact nomatch e
  ·rcases gH hb with⟨j,u,rfl,e⟩|⟨y,u,rfl,e⟩
   ·exact nomatch e
   ·injection e with e1 _;rw[e1]
 byValue:=λk v h=>by rcases gH h with⟨i,t,rfl,rfl⟩|⟨x,t,rfl,rfl⟩<;>rfl
 pyHash:=λhv h=>by
  rcases gH hv with⟨i,t,rfl,rfl⟩|⟨x,t,rfl,rfl⟩
  ·exact wpAny_pyHash_int h
  ·exact wpAny_pyHash_str h
 eqBool:=λhu hv h=>by
  rcases gH hu with⟨i,t,rfl,rfl⟩|⟨x,t,rfl,rfl⟩
  ·rcases gH hv with⟨j,u,rfl,rfl⟩|⟨y,u,rfl,rfl⟩
   ·rw[Yw]at h;exact wpAny_eqBool_int h
   ·rw[Yv]at h;exact Al i t y u _ _ _ _ h
  ·rcases gH hv with⟨j,u,rfl,rfl⟩|⟨y,u,rfl,rfl⟩
   ·rw[Yu]at h;exact Ak x t j u _ _ _ _ h
   ·rw[Yt]at h;exact wpAny_eqBool_str h
 «strs»:=λk x t v h=>by
  rcases gH h with⟨i,u,rfl,e⟩|⟨y,u,rfl,e⟩
  ·exact nomatch e
  ·injection e with e1 _;subst e1;cases v<;>rfl
def Jo(prog:Program)(w:World)(i:Int)(t:Tok):(bA prog w).is (.inl i) (.int i t)=true:=OG i t
def Bk(prog:Program)(w:World)(x:Str)(t:Tok):(bA prog w).is (.inr x) (.str x t)=true:=OF x t
inductive V where
 |cb|bl (b:Bool)|int (i:Int)|str (x:Str)|sW (b:Array UInt8)|IF (b:UInt64)|ref (a:Addr)|ty (n:String)
 deriving DecidableEq
def RelV:V->Value->Prop
 | .cb,u=>u=Value.none
 | .bl b,u=>u=Value.bool b
 | .int i,u=>∃t,u=Value.int i t
 | .str x,u=>∃t,u=Value.str x t
 | .sW b,u=>∃t,u=Value.bytes b t
 | .IF b,u=>∃t,u=Value.float b t
 | .ref a,u=>u=Value.ref a
 | .ty n,u=>u=Value.type n
abbrev Vals:List V->List Value->Prop:=Paired RelV
def Vals.length(r:Vals xs us):xs.length=us.length:=bB r
theorem Vals.get:∀{xs:List V}{us:List Value}{i:Nat}{x:V},Vals xs us->xs[i]?=some x->∃u,us[i]?=some u/\RelV x u
 |_,_,_,_,.nil,e=>by simp at e
 |_,_,0,_,.cons r _,e=>by simp at e;subst e;exact⟨_,rfl,r⟩
 |_,_,i+1,x,.cons _ t,e=>by obtain⟨u,h1,h2⟩:=Vals.get (i:=i) (x:=x) t (by simpa using e);exact⟨u,by simpa using h1,h2⟩
theorem Vals.set(r:RelV x u):∀{xs:List V}{us:List Value}(i:Nat),Vals xs us->Vals (xs.set i x) (us.set i u)
 |_,_,_,.nil=>.nil
 |_,_,0,.cons _ t=>.cons r t
 |_,_,i+1,.cons q t=>.cons q (Vals.set r i t)
theorem Vals.append:∀{xs ys:List V}{us ws:List Value},Vals xs us->Vals ys ws->Vals (xs++ys) (us++ws)
 |_,_,_,_,.nil,s=>s
 |_,_,_,_,.cons r t,s=>.cons r (Vals.append t s)
theorem Vals.take:∀{xs:List V}{us:List Value}(n:Nat),Vals xs us->Vals (xs.take n) (us.take n)
 |_,_,0,_=>.nil
 |_,_,_+1,.nil=>.nil
 |_,_,n+1,.cons r t=>.cons r (Vals.take n t)
theorem Vals.drop:∀{xs:List V}{us:List Value}(n:Nat),Vals xs us->Vals (xs.drop n) (us.drop n)
 |_,_,0,r=>r
 |_,_,_+1,.nil=>.nil
 |_,_,n+1,.cons _ t=>Vals.drop n t
def kL:Option V->Option Value->Prop
 |some v,some u=>RelV v u
 |none,none=>True
 |_,_=>False
def KV:List (κ×V)->List (κ×Value)->Prop:=Paired λ(p:κ×V)(q:κ×Value)=>p.1=q.1/\RelV p.2 q.2
def kV:Key->V
 | .inl i=>.int i
 | .inr x=>.str x
inductive HO where
 |lst (xs:List V)
 |tup (xs:List V)
 |dK (kvs:List (Key×V))|dT (kvs:List (List Key×V))
 |set (S:Int->Bool) (n:Nat)
 |ins (C dx:Addr) (fs:List (Str×V))
 |own (x:Addr)
 |xd (fs:List (Str×V))
 |met (f x:Addr)
 |Xv (lo hi:Int)
 |cQ (o:Obj) (u:HO)
 |Gq (ps:Array Value)
 |ext (φ:Heap->Prop)
abbrev Hp:=Addr->Option HO
def upd(H:Hp)(a:Addr)(o:HO):Hp:=λb=>if b=a then some o else H b
def au:upd H a o a=some o:=by unfold upd;rw[aB rfl]
def aw(h:b≠a):upd H a o b=H b:=by unfold upd;rw[ax h]
def JN:upd (upd H a o) a u=upd H a u:=by funext b;unfold upd;split<;>rfl
def vk{H:Hp}(h:H a=some o)(h':H b=some u)(d:o≠u):a≠b:=by intro e;subst e;rw[h]at h';exact d (bL h')
def aW{H:Hp}(h:H a=some o)(h':H b=none):a≠b:=by intro e;subst e;rw[h]at h';cases h'
section
variable(P:Program)(w:World)
noncomputable def dm(H:Hp)(h:Heap)(a:Addr):HO->Prop
 | .lst xs=>xs.length<=sizeLine/\∃(aY:List Value)(n:Nat),Vals xs aY/\h.get? a=some {cls:=.type "list",data:=.seq aY.toArray n}
 | .tup xs=>xs.length<=sizeLine/\∃aY:List Value,Vals xs aY/\IsTup h a aY.toArray/\∃o,h.get? a=some o/\o.dict=none
 | .dK kvs=>kvs.length<=sizeLine/\(a==sysModules)=false/\∃vs,KV kvs vs/\h.DictOf (bA P w) a vs
 | .dT kvs=>kvs.length<=sizeLine/\(a==sysModules)=false/\∃xs:List (List Key×Addr×Value),
   Paired (λ(p:List Key×V)(q:List Key×Addr×Value)=>p.1=q.1/\H q.2.1=some (.tup (p.1.map kV))/\RelV p.2 q.2.2) kvs xs/\
   ∃o es ep,h.get? a=some o/\o.ExactDict/\o.data=.dict es ep/\es.toList=xs.map (entryOfKey (tupleKind (bA P w)))/\(xs.map (·.1)).Nodup
 | .set S n=>h.SetOf (intKind P w) a S n
 | .ins C dx fs=>H dx=some (.own a)/\fs.length<=1000/\dx≠a/\h.get? a=some (instObj C dx)/\
   ∃mA,h.Ns1 dx mA/\(∀f,kL (fs.lookup f) (mA f))/\PySem.Within mA (fs.map (·.1))
 | .own _=>∃o,h.get? a=some o
 | .xd fs=>∃mA,h.Ns1 a mA/\∀f,kL (fs.lookup f) (mA f)
 | .Xv lo hi=>∃t u v,h.get? a=some {cls:=.type "range",data:=.fields #[.int lo t,.int hi u,.int 1 v]}
 | .cQ o u=>h.get? a=some o/\dm H h a u
 | .Gq ps=>h.get? a=some {cls:=.none,data:=.fields ps}
 | .met f x=>h.get? a=some (PySem.W.methodObj (.ref f) (.ref x))
 | .ext φ=>φ h/\(∃o,h.get? a=some o)/\∀h1 h2:Heap,φ h1->(∀o,h1.get? a=some o->h2.get? a=some o)->φ h2
def jc(H:Hp)(h:Heap):Prop:=∀a o,H a=some o->dm P w H h a o
end
section
variable{P:Program}{w:World}{H H':Hp}{h h':Heap}{a:Addr}{o:HO}
def dm.lt(x:dm P w H h a o):a<h.objs.size:=by
 cases o with
 |lst xs=>obtain⟨_,_,_,_,e⟩:=x;exact aF e
 |tup xs=>obtain⟨_,_,_,p,_⟩:=x;exact p.lt
 |dK kvs=>obtain⟨_,_,_,_,o,_,_,e,_⟩:=x;exact aF e
 |dT kvs=>obtain⟨_,_,_,_,o,_,_,e,_⟩:=x;exact aF e
 |set S n=>obtain⟨o,_,_,_,e,_⟩:=x;exact aF e
 |ins C dx fs=>obtain⟨_,_,_,e,_⟩:=x;exact aF e
 |own y=>obtain⟨_,e⟩:=x;exact aF e
 |xd fs=>obtain⟨_,⟨_,_,_,e,_⟩,_⟩:=x;exact aF e
 |Xv lo hi=>obtain⟨_,_,_,e⟩:=x;exact aF e
 |cQ ob u=>obtain⟨e,_⟩:=x;exact aF e
 |Gq ps=>exact aF (show h.get? a=some _ from x)
 |met f y=>exact aF (show h.get? a=some _ from x)
 |ext φ=>obtain⟨_,⟨_,e⟩,_⟩:=x;exact aF e
theorem Paired.qJ:∀{aad:List α}{aac:List β},Paired F aad aac->(∀a b,F a b->G a b)->Paired G aad aac
 |_,_,.nil,_=>.nil
 |_,_,.cons r t,f=>.cons (f _ _ r) (Paired.qJ t f)
def Paired.imp'(f:∀a b,F a b->G a b)(r:Paired F aad aac):Paired G aad aac:=Paired.qJ r f
def dm.iS(x:dm P w H h a o)(k:∀b u,(b=a\/H b=some (.own a))->h.get? b=some u->h'.get? b=some u)
  (ho:∀b,H b=some (.own a)->H' b=some (.own a)) (ht:∀b xs,H b=some (.tup xs)->H' b=some (.tup xs)):dm P w H' h' a o:=by
 induction o with
 |lst xs=>obtain⟨z,aY,n,r,e⟩:=x;exact⟨z,aY,n,r,k _ _ (.inl rfl) e⟩
 |tup xs=>obtain⟨z,aY,r,⟨ob,e,c⟩,o2,e2,c2⟩:=x;exact⟨z,aY,r,⟨ob,k _ _ (.inl rfl) e,c⟩,o2,k _ _ (.inl rfl) e2,c2⟩
 |dK kvs=>obtain⟨z,y,vs,r,ob,es,ep,e,c⟩:=x;exact⟨z,y,vs,r,ob,es,ep,k _ _ (.inl rfl) e,c⟩
 |dT kvs=>
  obtain⟨z,y,xs,r,ob,es,ep,e,c⟩:=x;exact⟨z,y,xs,Paired.qJ r λp q z=>⟨z.1,ht _ _ z.2.1,z.2.2⟩,ob,es,ep,k _ _ (.inl rfl) e,c⟩
 |set S n=>obtain⟨ob,es,ep,t,e,c⟩:=x;exact⟨ob,es,ep,t,k _ _ (.inl rfl) e,c⟩
 |ins C dx fs=>
  obtain⟨d,z,ne,e,mA,⟨od,es,ep,e2,c⟩,r⟩:=x;exact⟨ho _ d,z,ne,k _ _ (.inl rfl) e,mA,⟨od,es,ep,k _ _ (.inr d) e2,c⟩,r⟩
 |own y=>obtain⟨ob,e⟩:=x;exact⟨ob,k _ _ (.inl rfl) e⟩
 |xd fs=>obtain⟨mA,⟨od,es,ep,e,c⟩,r⟩:=x;exact⟨mA,⟨od,es,ep,k _ _ (.inl rfl) e,c⟩,r⟩
 |Xv lo hi=>obtain⟨t,u,v,e⟩:=x;exact⟨t,u,v,k _ _ (.inl rfl) e⟩
 |cQ ob u ih=>obtain⟨e,q⟩:=x;exact⟨k _ _ (.inl rfl) e,ih q⟩
 |Gq ps=>
  have e:h.get? a=some {cls:=.none,data:=.fields ps}:=x;show h'.get? a=some {cls:=.none,data:=.fields ps};exact k a _ (.inl rfl) e
 |met f y=>
  have e:h.get? a=some (PySem.W.methodObj (.ref f) (.ref y)):=x;show h'.get? a=some (PySem.W.methodObj (.ref f) (.ref y));exact k a _ (.inl rfl) e
 |ext φ=>obtain⟨p,⟨o,e⟩,st⟩:=x;exact⟨st _ _ p λo q=>k _ _ (.inl rfl) q,⟨o,k _ _ (.inl rfl) e⟩,st⟩
def jc.lt(x:jc P w H h)(e:H a=some o):a<h.objs.size:=(x a o e).lt
def jc.fresh(x:jc P w H h)(e:h.objs.size<=a):H a=none:=by
 cases q:H a with
 |none=>rfl
 |some u=>exact absurd (bg (x.lt q) e) (df _)
def jc.kept(x:jc P w H h)(k:∀b u,h.get? b=some u->h'.get? b=some u):jc P w H h':=λa o e=>
 (x a o e).iS (λb u _ q=>k b u q) (λ_ q=>q) λ_ _ q=>q
def jc.laid(x:jc P w H h)(k:∀b u,h.get? b=some u->h'.get? b=some u)(hp:h.objs.size<=a)(new:dm P w (upd H a o) h' a o):jc P w (upd H a o) h':=λb u e=>by
 have hn:=x.fresh hp;by_cases hb:b=a
 ·subst hb;rw[au]at e;cases e;exact new
 ·rw[aw hb]at e;exact(x b u e).iS (λc v _ q=>k c v q) (λc q=>by rw[aw (aW q hn)];exact q) λc xs q=>by rw[aw (aW q hn)];exact q
end
def Rd(H:Hp)(a:Addr)(u:HO):Prop:=H a=some u\/∃o,H a=some (.cQ o u)
def Rd.ok(r:Rd H a u)(x:jc P w H h):dm P w H h a u:=by
 rcases r with r|⟨o,r⟩
 ·exact x a u r
 ·obtain⟨_,q⟩:=x a _ r;exact q
def Qg:Option HO->Prop
 |some (.lst _)=>True
 |some (.dK _)=>True
 |some (.dT _)=>True
 |some (.set _ _)=>True
 |some (.ins _ _ _)=>True
 |some (.ext _)=>True
 |_=>False
section
variable{P:Program}{w:World}{H:Hp}{h h':Heap}{x e:Addr}{o':HO}
def jc.write(ok:jc P w H h)(mu:Qg (H x))(he:e=x\/H e=some (.own x))(k:∀b u,b≠e->h.get? b=some u->h'.get? b=some u)(KR:∃u,h'.get? e=some u)
  (new:dm P w (upd H x o') h' x o'):jc P w (upd H x o') h':=λb u q=>by
 have X0:∀c y,H c=some (.own y)->c≠x:=λc y r z=>by subst z;rw[r]at mu;exact mu
 have abV:∀c xs,H c=some (.tup xs)->c≠x:=λc xs r z=>by subst z;rw[r]at mu;exact mu
 by_cases hb:b=x
 ·subst hb;rw[au]at q;cases q;exact new
 ·rw[aw hb]at q;by_cases Iu:b=e
  ·have q':H b=some (.own x):=by
    rcases he with z|z
    ·exact absurd (Iu.trans z) hb
    ·rw[Iu];exact z
   rw[q]at q';cases q';obtain⟨v,hv⟩:=KR;exact⟨v,by rw[Iu];exact hv⟩
  ·refine(ok b u q).iS (λc v hc r=>k c v ?_ r) (λc r=>by rw[aw (X0 c b r)];exact r) λc xs r=>by rw[aw (abV c xs r)];exact r
   rcases hc with rfl|hc
   ·exact Iu
   ·rintro rfl;rcases he with z|z
    ·exact X0 c b hc z
    ·rw[hc]at z;cases z;exact hb rfl
end
structure Un(fs ex:List Addr)(H H':Hp)(h h':Heap):Prop where
 keep:∀b o,h.get? b=some o->H b=none->b∉fs->b∉ex->h'.get? b=some o
 slot:∀b o,h.get? b=some o->H b=none->b∈fs->b∉ex->∃sl,h'.get? b=some {o with slots:=sl}
 free:∀b o,h.get? b=some o->H b=none->b∉ex->H' b=none
 there:∀b o,h.get? b=some o->b∉ex->∃o',h'.get? b=some o'
 lN:∀b xs,H b=some (.tup xs)->H' b=some (.tup xs)
 sA:∀b o u,H b=some (.cQ o u)->H' b=some (.cQ o u)
 xn:∀b ps,H b=some (.Gq ps)->∃more,H' b=some (.Gq (ps++more))
section
variable{fs ex:List Addr}{H H1:Hp}{h h1 h':Heap}{a x e:Addr}{o:HO}
def Un.any(u:Un fs ex H H1 h h1)(q:h.get? b=some ob)(n:H b=none)(hx:b∉ex):∃sl,h1.get? b=some {ob with slots:=sl}:=by
 by_cases hb:b∈fs
 ·exact u.slot b ob q n hb hx
 ·exact⟨ob.slots,u.keep b ob q n hb hx⟩
def Un.kept(k:∀b u,h.get? b=some u->h'.get? b=some u):Un fs ex H H h h':=
 ⟨λb ob q _ _ _=>k b ob q,λb ob q _ _ _=>⟨ob.slots,k b ob q⟩,λ_ _ _ n _=>n,λb ob q _=>⟨ob,k b ob q⟩,λ_ _ q=>q,λ_ _ _ q=>q,λ_ ps q=>⟨#[],by rw[q];simp⟩⟩
def Un.refl:Un fs ex H H h h:=Un.kept λ_ _ q=>q
def Un.laid(k:∀b u,h.get? b=some u->h'.get? b=some u)(hp:h.objs.size<=a)(hn:H a=none):Un fs ex H (upd H a o) h h' where
 keep:=λb u q _ _ _=>k b u q
 slot:=λb u q _ _ _=>⟨u.slots,k b u q⟩
 free:=λb u q n _=>by rw[aw (aH (bg (aF q) hp))];exact n
 there:=λb u q _=>⟨u,k b u q⟩
 lN:=λb xs q=>by rw[aw (aW q hn)];exact q
 sA:=λb u xs q=>by rw[aw (aW q hn)];exact q
 xn:=λb ps q=>⟨#[],by rw[aw (aW q hn),q];simp⟩
def Un.write(mu:Qg (H x))(he:e=x\/H e=some (.own x))(k:∀b u,b≠e->h.get? b=some u->h'.get? b=some u)(KR:∃u,h'.get? e=some u):Un fs ex H (upd H x o) h h':=by
 have hx:∀b,H b=none->b≠x:=λb n z=>by subst z;rw[n]at mu;exact mu
 have hb:∀b,H b=none->b≠e:=λb n z=>by
  subst z;rcases he with r|r
  ·exact hx b n r
  ·rw[n]at r;cases r
 have hm:∀b u,H b=some u->¬Qg (some u)->b≠x:=λb u q nm z=>by subst z;rw[q]at mu;exact nm mu
 refine⟨λb u q n _ _=>k b u (hb b n) q,λb u q n _ _=>⟨u.slots,k b u (hb b n) q⟩,λb u q n _=>by rw[aw (hx b n)];exact n,λb u q _=>?_,
  λb xs q=>by rw[aw (hm b _ q λz=>z)];exact q,λb u xs q=>by rw[aw (hm b _ q λz=>z)];exact q,λb ps q=>⟨#[],by rw[aw (hm b _ q λz=>z),q];simp⟩⟩
 by_cases Iu:b=e
 ·subst Iu;exact KR
 ·exact⟨u,k b u Iu q⟩
end
def SJ(h:Heap)(H:Hp):List Addr:=(List.range h.objs.size).filter λa=>(H a).isSome
def xR(h:Heap)(H:Hp):Heap:=PySem.W.hideAll h (SJ h H)
def Pk(h:Heap)(H:Hp):(xR h H).objs.size=h.objs.size:=PySem.W.hideAll_size _ _
def RM(e:h.get? b=some o)(n:H b=none):(xR h H).get? b=some o:=
 PySem.W.hideAll_get _ e λhm=>by have q:(H b).isSome=true:=(bM.mp hm).2;rw[n]at q;simp at q
def VQ(e:(xR h H).get? b=some o):h.get? b=some o/\H b=none:=by
 have e':h.get? b=some o:=PySem.W.of_hideAll (SJ h H) e;refine⟨e',?_⟩;cases q:H b with
 |none=>rfl
 |some x=>
  have hm:b∈SJ h H:=bM.mpr ⟨dc.mpr (aF e'),by simp[q]⟩;have z:(xR h H).get? b=none:=PySem.W.hideAll_none (SJ h H) hm;rw[z]at e;cases e
def WA(g h:Heap)(L:Addr):List (Addr×Obj):=(List.range h.objs.size).filterMap λa=>if a=L\/(g.get? a).isSome=true then none else(h.get? a).map λo=>(a,o)
def rest(g h:Heap)(L d:Addr):List (Addr×Obj):=(WA g h L).filter λp=>decide (p.1≠d)
structure Mod(K:Frag)(mg:Str->Option Value)(base:Heap):Prop where
 OC:K.In base
 glob:base.Ns mainGlobals mg
 blt:∃mb,base.Ns builtinsNs mb/\∀x:Str,x≠"__name__"->mb x=bootBuiltins x
 nolimit:base.NoLimit
structure Cx where
 prog:Program
 w:World
 K:Frag
 mg:Str->Option Value
 base:Heap
 A:Around
 N:List Str
 aab:Shared
 aaf:Hp
 env:Env
 outer:List Env
 stack:List Env
 ex:List Addr
 fn:Str->Bool
 calm:Bool
 pn:List (Addr×Obj)
 xe:Value->Shared->Prop
def yR(l:List Env):List Addr:=l.filterMap (·.frame)
abbrev Cx.fs(X:Cx):List Addr:=yR X.outer
def Vis(sc:Scope)(x:Str):Prop:=sc.names.lookup x=some .local\/sc.names.lookup x=some .cell\/sc.names.lookup x=some .free
def Loc(sc:Scope)(x:Str):Prop:=sc.names.lookup x=some .local\/sc.names.lookup x=some .cell
def Look(env:Env)(h:Heap)(m:Str->Option Value)(x:Str)(u:Value):Prop:=
 (env.kindOf x=some .local/\m x=some u)\/((env.kindOf x=some .cell\/env.kindOf x=some .free)/\∃c,env.cells.lookup x=some c/\h.IsCell c (some u))
structure Cx.Ok(X:Cx):Prop where
 mod:Mod X.K X.mg X.base
 kind:X.env.scope.kind=.function
 glob:X.env.globals=mainGlobals
 blt:X.env.builtins=builtinsNs
 above:X.aab.heap.objs.size<=X.env.locals
 inj:∀x y c,X.env.cells.lookup x=some c->X.env.cells.lookup y=some c->x=y
 has:∀x,(X.env.kindOf x=some .cell\/X.env.kindOf x=some .free)->∃c,X.env.cells.lookup x=some c
 Lc:∀x c,X.fn x=true->X.env.cells.lookup x=some c->X.aab.heap.objs.size<=c
 hd:X.calm=true->X.A.handled=none
 frames:X.A.frames=some X.stack
 Ni:X.stack=X.outer\/(X.stack=X.env::X.outer/\X.env.frame=some X.env.locals)
 PF:∀b∈X.ex,b≠X.env.locals/\∀x c,X.env.cells.lookup x=some c->c≠b
 bs:∀b o,X.base.get? b=some o->X.aab.heap.get? b=some o/\X.aaf b=none
 BF:X.base.objs.size<=X.aab.heap.objs.size
 Em:∀b o,X.base.get? b=some o->b∉X.ex
 Co:∀b∈X.ex,b∉X.fs
 qL:X.aab.heap.FunFrames X.base X.outer
 FA:∀b∈X.fs,X.aaf b=none
structure Inv(X:Cx)(pins:List (Addr×Obj))(Z:List (Option V))(H:Hp)(s:Shared):Prop where
 ok:X.Ok
 os:s.os=X.aab.os
 bare:AllBare s.gens
 base:Un X.fs X.ex X.aaf H X.aab.heap s.heap
 loc:∃m,s.heap.Ns X.env.locals m/\∀(i:Nat)(x:Str)(v:V),X.N[i]?=some x->Z[i]?=some (some v)->Vis X.env.scope x->∃u,RelV v u/\Look X.env s.heap m x u
 cell:∀x c,X.env.cells.lookup x=some c->∃v,s.heap.IsCell c v
 free:H X.env.locals=none
 nq:∀x c,X.env.cells.lookup x=some c->H c=none
 pin:∀p∈X.pn++pins,s.heap.get? p.1=some p.2/\H p.1=none/\p.1≠X.env.locals/\p.1∉X.fs/\∀v,p.2.data≠ .cell v
 bw:jc X.prog X.w H s.heap
 len:Z.length=X.N.length
section
variable{X:Cx}{pins:List (Addr×Obj)}{Z:List (Option V)}{H H':Hp}{s:Shared}{h':Heap}
def Cx.Ok.abX(ok:X.Ok)(e:X.base.get? b=some o):b∉X.fs:=λhb=>by have:=(ok.qL.mem hb).1;rw[e]at this;cases this
def Inv.bs(I:Inv X pins Z H s):∀b o,X.base.get? b=some o->s.heap.get? b=some o/\H b=none:=λb o e=>
 ⟨I.base.keep b o (I.ok.bs b o e).1 (I.ok.bs b o e).2 (I.ok.abX e) (I.ok.Em b o e),I.base.free b o (I.ok.bs b o e).1 (I.ok.bs b o e).2 (I.ok.Em b o e)⟩
def Inv.bk(I:Inv X pins Z H s):∀b o,X.base.get? b=some o->s.heap.get? b=some o:=λb o e=>(I.bs b o e).1
def Inv.mod(I:Inv X pins Z H s):Mod X.K X.mg X.base:=I.ok.mod
def Inv.lZ(I:Inv X pins Z H s):X.K.In s.heap:=I.ok.mod.OC.keeps I.bk
def Inv.lt(I:Inv X pins Z H s):X.env.locals<s.heap.objs.size:=let⟨_,hn,_⟩:=I.loc;hn.lt
def Inv.sz(I:Inv X pins Z H s):X.aab.heap.objs.size<=s.heap.objs.size:=aE I.ok.above (bu I.lt)
def Inv.X1(I:Inv X pins Z H s)(h:s.heap.objs.size<=a):a∉X.fs:=λhb=>by obtain⟨_,o,ho,_⟩:=I.ok.qL.mem hb;exact absurd (bg (aF ho) (aE I.sz h)) (df _)
def Inv.IM(I:Inv X pins Z H s):∀x c,X.env.cells.lookup x=some c->c≠X.env.locals:=λx c e z=>by obtain⟨v,o,ho,hd⟩:=I.cell x c e;obtain⟨m,⟨o',es,ep,qt,pS,_⟩,_⟩:=I.loc;rw[z,qt]at ho;cases ho;rw[pS]at hd;cases hd
def Inv.qL(I:Inv X pins Z H s):s.heap.FunFrames X.base X.outer:=by
 have all:∀(l:List Env),(∀b∈yR l,b∈X.fs)->X.aab.heap.FunFrames X.base l->s.heap.FunFrames X.base l:=by
  intro l
  induction l with
  |nil=>intro _ _;trivial
  |cons env r ih=>
   intro hs hl;obtain⟨hk,⟨L,o,hf,hn,ho,hd⟩,hr⟩:=hl;have hL:L∈X.fs:=hs L (by unfold yR;rw[fW,hf];exact aA);obtain⟨sl,e⟩:=I.base.slot L o ho (I.ok.FA L hL) hL λz=>I.ok.Co L z hL;exact⟨hk,⟨L,_,hf,hn,e,hd⟩,ih (λb hb=>hs b (by unfold yR;rw[fW,hf];exact aD _ hb)) hr⟩
 exact all X.outer (λ_ hb=>hb) I.ok.qL
def Inv.stack(I:Inv X pins Z H s):s.heap.FunFrames X.base X.stack:=by
 rcases I.ok.Ni with e|⟨e,hf⟩
 ·rw[e];exact I.qL
 ·rw[e];obtain⟨m,hn,_⟩:=I.loc;refine .cons (by rw[I.ok.kind];decide) hf hn ?_ I.qL;exact gX (aE I.ok.BF I.ok.above)
def Inv.Gs(I:Inv X pins Z H s):∀b∈yR X.stack,b∈X.env.locals::X.fs:=λb hb=>by
 rcases I.ok.Ni with e|⟨e,hf⟩
 ·rw[e]at hb;exact aD _ hb
 ·rw[e]at hb;unfold yR at hb;rw[fW,hf]at hb;exact hb
def Inv.JZ(I:Inv X pins Z H s):∀b∈yR X.stack,H b=none:=λb hb=>by
 rcases aI.mp (I.Gs b hb)with e|hb
 ·rw[e];exact I.free
 ·obtain⟨_,o,ho,_⟩:=I.ok.qL.mem hb;exact I.base.free b o ho (I.ok.FA b hb) λz=>I.ok.Co b z hb
def Inv.step{ch:List Addr}(I:Inv X pins Z H s)
  (By:∀b∈ch,(b∈X.ex\/X.aab.heap.objs.size<=b)/\b≠X.env.locals/\(∀x c,X.env.cells.lookup x=some c->c≠b)/\∀p∈X.pn++pins,p.1≠b)
  (keep:∀b o,b≠X.env.locals->b∉X.fs->b∉ch->s.heap.get? b=some o->H b=none->h'.get? b=some o)
  (slot:∀b o,b≠X.env.locals->b∈X.fs->b∉ch->s.heap.get? b=some o->H b=none->∃sl,h'.get? b=some {o with slots:=sl}) (free:∀b o,b∉ch->s.heap.get? b=some o->H b=none->H' b=none)
  (there:∀b o,b∉ch->s.heap.get? b=some o->∃o',h'.get? b=some o')
  (lN:∀b xs,H b=some (.tup xs)->H' b=some (.tup xs)) (sA:∀b o u,H b=some (.cQ o u)->H' b=some (.cQ o u)) (xn:∀b ps,H b=some (.Gq ps)->∃more,H' b=some (.Gq (ps++more)))
  (ns:∀m,s.heap.Ns X.env.locals m->h'.Ns X.env.locals m) (bw:jc X.prog X.w H' h') (hg:AllBare g'):
  Inv X pins Z H' {s with heap:=h',gens:=g',drawn:=d',toks:=t'}:=by
 have Kt:∀b o,X.aab.heap.get? b=some o->b≠X.env.locals:=λb o e=>aH (bg (aF e) I.ok.above);have To:∀b o,X.aab.heap.get? b=some o->b∉X.ex->b∉ch:=λb o e hx hb=>by
  rcases(By b hb).1 with z|z
  ·exact hx z
  ·exact absurd (bg (aF e) z) (df _)
 have cellK:∀x c,X.env.cells.lookup x=some c->∀v,s.heap.IsCell c v->h'.IsCell c v:=λx c e v ⟨o,ho,hd⟩=>by
  have Oh:c∉ch:=λz=>(By c z).2.2.1 x c e rfl;by_cases hc:c∈X.fs
  ·obtain⟨sl,q⟩:=slot c o (I.IM x c e) hc Oh ho (I.nq x c e);exact⟨_,q,hd⟩
  ·exact⟨o,keep c o (I.IM x c e) hc Oh ho (I.nq x c e),hd⟩
 refine⟨I.ok,I.os,hg,⟨λb o e n hb hx=>?_,λb o e n hb hx=>?_,λb o e n hx=>?_,λb o e hx=>?_,λb xs e=>lN b xs (I.base.lN b xs e),λb o xs e=>sA b o xs (I.base.sA b o xs e),λb ps e=>?_⟩,?_,λx c e=>?_,?_,λx c e=>?_,λp hp=>?_,bw,I.len⟩
 ·exact keep b o (Kt b o e) hb (To b o e hx) (I.base.keep b o e n hb hx) (I.base.free b o e n hx)
 ·obtain⟨sl,e1⟩:=I.base.slot b o e n hb hx;obtain⟨sl',e2⟩:=slot b _ (Kt b o e) hb (To b o e hx) e1 (I.base.free b o e n hx);exact⟨sl',e2⟩
 ·obtain⟨o',e1⟩:=I.base.there b o e hx;exact free b o' (To b o e hx) e1 (I.base.free b o e n hx)
 ·obtain⟨o',e1⟩:=I.base.there b o e hx;exact there b o' (To b o e hx) e1
 ·obtain⟨m1,e1⟩:=I.base.xn b ps e;obtain⟨m2,e2⟩:=xn b _ e1;exact⟨m1++m2,by rw[e2,Array.append_assoc]⟩
 ·obtain⟨m,hn,hl⟩:=I.loc;refine⟨m,ns m hn,λi x v e1 e2 e3=>?_⟩;obtain⟨u,r,l⟩:=hl i x v e1 e2 e3;refine⟨u,r,?_⟩;rcases l with l|⟨k,c,e,z⟩
  ·exact .inl l
  ·exact .inr ⟨k,c,e,cellK x c e _ z⟩
 ·obtain⟨v,z⟩:=I.cell x c e;exact⟨v,cellK x c e v z⟩
 ·obtain⟨m,⟨o,_,_,ho,_⟩,_⟩:=I.loc;exact free _ o (λz=>(By _ z).2.1 rfl) ho I.free
 ·obtain⟨v,o,ho,hd⟩:=I.cell x c e;exact free c o (λz=>(By c z).2.2.1 x c e rfl) ho (I.nq x c e)
 ·obtain⟨e,n,ne,nf,d⟩:=I.pin p hp;have Oh:p.1∉ch:=λz=>(By p.1 z).2.2.2 p hp rfl;exact⟨keep p.1 p.2 ne nf Oh e n,free p.1 p.2 Oh e n,ne,nf,d⟩
def Inv.un(I:Inv X pins Z H s)(u:Un X.fs [] H H' s.heap h')(bw:jc X.prog X.w H' h'):Inv X pins Z H' {s with heap:=h',toks:=t'}:=by
 obtain⟨m,⟨o,es,ep,ho,r⟩,_⟩:=id I.loc;obtain⟨sl,hL⟩:=u.any ho I.free (by simp);exact I.step (g':=s.gens) (d':=s.drawn) (ch:=[]) (λ_ z=>nomatch z) (λb o _ hb _ e n=>u.keep b o e n hb (by simp)) (λb o _ hb _ e n=>u.slot b o e n hb (by simp)) (λb o _ e n=>u.free b o e n (by simp)) (λb o _ e=>u.there b o e (by simp)) u.lN u.sA u.xn (λm' hm=>by obtain⟨o',fU,zX,qt,r'⟩:=hm;rw[ho]at qt;cases qt;exact⟨_,fU,zX,hL,r'⟩) bw I.bare
def Inv.call(I:Inv X pins Z H s)(u:Un (yR X.stack) ch H H' s.heap h')(bw:jc X.prog X.w H' h')(hg:AllBare g')
  (By:∀b∈ch,(b∈X.ex\/X.aab.heap.objs.size<=b)/\b≠X.env.locals/\(∀x c,X.env.cells.lookup x=some c->c≠b)/\∀p∈X.pn++pins,p.1≠b):
  Inv X pins Z H' {s with heap:=h',gens:=g',drawn:=d',toks:=t'}:=by
 obtain⟨m,⟨o,es,ep,ho,r⟩,_⟩:=id I.loc;obtain⟨sl,hL⟩:=u.any ho I.free λz=>(By _ z).2.1 rfl;exact I.step (ch:=ch) By (λb o hL hb hc e n=>u.keep b o e n (λz=>(aI.mp (I.Gs b z)).elim hL hb) hc) (λb o _ _ hc e n=>u.any e n hc) (λb o hc e n=>u.free b o e n hc) (λb o hc e=>u.there b o e hc) u.lN u.sA u.xn (λm' hm=>by obtain⟨o',fU,zX,qt,r'⟩:=hm;rw[ho]at qt;cases qt;exact⟨_,fU,zX,hL,r'⟩) bw hg
def Inv.turned(I:Inv X pins Z H s)(k:∀b o,b≠it->s.heap.get? b=some o->h'.get? b=some o)(hn:H it=none)(hL:it≠X.env.locals)
  (h1:it∈X.ex\/X.aab.heap.objs.size<=it) (h2:∀x c,X.env.cells.lookup x=some c->c≠it) (h3:∀p∈X.pn++pins,p.1≠it):Inv X pins Z H {s with heap:=h',toks:=t'}:=by
 have nit:∀b u,H b=some u->b≠it:=λb u e z=>by rw[z,hn]at e;cases e
 refine I.step (g':=s.gens) (d':=s.drawn) (ch:=[it]) (λb hb=>?_) (λb o _ _ hc e _=>k b o (λz=>hc (by simp[z])) e) (λb o _ _ hc e _=>⟨o.slots,k b o (λz=>hc (by simp[z])) e⟩) (λ_ _ _ _ n=>n)
  (λb o hc e=>⟨o,k b o (λz=>hc (by simp[z])) e⟩) (λ_ _ e=>e) (λ_ _ _ e=>e) (λb ps e=>⟨#[],by rw[e];simp⟩) (λm hm=>?_) (λb u e=>?_) I.bare
 ·have e:b=it:=by simpa using hb
  subst e;exact⟨h1,hL,h2,h3⟩
 ·obtain⟨o,es,ep,ho,r⟩:=hm;exact⟨o,es,ep,k _ o (bP hL) ho,r⟩
 ·refine(I.bw b u e).iS (λc v hc q=>k c v ?_ q) (λ_ q=>q) λ_ _ q=>q;rcases hc with z|z
  ·rw[z];exact nit b u e
  ·exact nit c _ z
def Inv.tok(I:Inv X pins Z H s)(t:Nat):Inv X pins Z H {s with toks:=t}:=I.un (h':=s.heap) (t':=t) Un.refl I.bw
def Inv.kept(I:Inv X pins Z H s)(k:∀b u,s.heap.get? b=some u->h'.get? b=some u):Inv X pins Z H {s with heap:=h',toks:=t'}:=I.un (Un.kept k) (I.bw.kept k)
def Inv.laid(I:Inv X pins Z H s)(k:∀b u,s.heap.get? b=some u->h'.get? b=some u)(hp:s.heap.objs.size<=a)(new:dm X.prog X.w (upd H a o) h' a o):
  Inv X pins Z (upd H a o) {s with heap:=h',toks:=t'}:=I.un (Un.laid k hp (I.bw.fresh hp)) (I.bw.laid k hp new)
def Inv.write(I:Inv X pins Z H s)(mu:Qg (H x))(he:e=x\/H e=some (.own x))(k:∀b u,b≠e->s.heap.get? b=some u->h'.get? b=some u)(KR:∃u,h'.get? e=some u)
  (new:dm X.prog X.w (upd H x o) h' x o):Inv X pins Z (upd H x o) {s with heap:=h',toks:=t'}:=I.un (Un.write mu he k KR) (I.bw.write mu he k KR new)
def Inv.wy(I:Inv X pins Z H s)(h:∀p∈aaV,s.heap.get? p.1=some p.2/\H p.1=none/\p.1≠X.env.locals/\p.1∉X.fs/\∀v,p.2.data≠ .cell v):Inv X aaV Z H s:=
 ⟨I.ok,I.os,I.bare,I.base,I.loc,I.cell,I.free,I.nq,λp hp=>(bf.mp hp).elim (λz=>I.pin p (cX _ z)) (h p),I.bw,I.len⟩
def Hu{N:List Str}(hN:N.Nodup){i j:Nat}(a:N[i]?=some x)(b:N[j]?=some x):i=j:=by obtain⟨h1,e1⟩:=aq.mp a;obtain⟨h2,e2⟩:=aq.mp b;exact(List.getElem_inj hN).mp (e1.trans e2.symm)
def EU(I:Inv X pins Z H s)(hN:X.N.Nodup)(hi:X.N[i]?=some x)(hx:Loc X.env.scope x)(r:RelV v u)
  (h:∀s',Inv X pins (Z.set i (some v)) H s'->(∃a,Heap.SameBut a s.heap s'.heap/\(a=X.env.locals\/X.env.cells.lookup x=some a))->Q () s') (hf:X.fn x=true\/X.env.scope.names.lookup x=some .local:=by first|exact .inl rfl|exact .inr rfl|assumption):wpAny M A (storeName X.env x u) Q E s:=by
 obtain⟨m,hn,hl⟩:=id I.loc;have ac0:(X.env.scope.kind==.class||(X.env.scope.kind==.module&&X.env.locals !=X.env.globals))=false:=by rw[I.ok.kind];rfl
 have hiZ:i<Z.length:=by rw[I.len];exact(aq.mp hi).1
 have IM:=I.IM;have tracked:∀{a:Addr}{h':Heap},(∃o,s.heap.get? a=some o/\H a=none)->Heap.SameBut a s.heap h'->jc X.prog X.w H h':=λ{a h'} ha hs b ob e=>by
  obtain⟨_,_,Uk⟩:=ha;refine(I.bw b ob e).iS (λc w' hc q=>(hs.2 c ?_).trans q) (λ_ q=>q) λ_ _ q=>q;rintro rfl;rcases hc with rfl|hc
  ·rw[Uk]at e;cases e
  ·rw[Uk]at hc;cases hc
 rcases hx with hk|hk
 ·refine wpAny_storeName_local hk hn (λh' KN hs=>?_) ac0;obtain⟨oL,_,_,Ue,_⟩:=id hn;refine h _ ⟨I.ok,I.os,I.bare,⟨λb o e n hb hx=>?_,λb o e n hb hx=>?_,I.base.free,λb o e hx=>?_,I.base.lN,I.base.sA,I.base.xn⟩,⟨_,KN,λj y v' e1 e2 e3=>?_⟩,λy c e=>?_,I.free,I.nq,λp hp=>?_,tracked ⟨oL,Ue,I.free⟩ hs,by simpa using I.len⟩ ⟨_,hs,.inl rfl⟩
  ·exact(hs.2 b (aH (bg (aF e) I.ok.above))).trans (I.base.keep b o e n hb hx)
  ·obtain⟨sl,e1⟩:=I.base.slot b o e n hb hx;exact⟨sl,(hs.2 b (aH (bg (aF e) I.ok.above))).trans e1⟩
  ·obtain⟨o',e1⟩:=I.base.there b o e hx;exact⟨o',(hs.2 b (aH (bg (aF e) I.ok.above))).trans e1⟩
  ·by_cases hj:j=i
   ·subst hj;rw[hi]at e1;cases e1;rw[v3 hiZ]at e2;cases e2;exact⟨u,r,.inl ⟨hk,by simp⟩⟩
   ·rw[yr (bP hj)]at e2;obtain⟨u',r',q⟩:=hl j y v' e1 e2 e3;refine⟨u',r',?_⟩;rcases q with⟨k,e⟩|⟨k,c,e,z⟩
    ·refine .inl ⟨k,?_⟩;have:y≠x:=λe=>hj (Hu hN e1 (e▸hi));simp[this,e]
    ·exact .inr ⟨k,c,e,z.sameBut hs (IM y c e)⟩
  ·obtain⟨w',z⟩:=I.cell y c e;exact⟨w',z.sameBut hs (IM y c e)⟩
  ·obtain⟨e,n,ne,nf,d⟩:=I.pin p hp;exact⟨(hs.2 p.1 ne).trans e,n,ne,nf,d⟩
 ·have Zx:X.fn x=true:=by
   rcases hf with z|z
   ·exact z
   ·rw[z]at hk;cases hk
  obtain⟨c,hc⟩:=I.ok.has x (.inl hk);obtain⟨w',z⟩:=I.cell x c hc;refine wpAny_storeName_cell I.ok.kind hk hc z (λh' pb hs=>?_);obtain⟨oc,hoc,acP⟩:=id z;refine h {s with heap:=h'} ⟨I.ok,I.os,I.bare,⟨λb o e n hb hx=>?_,λb o e n hb hx=>?_,I.base.free,λb o e hx=>?_,I.base.lN,I.base.sA,I.base.xn⟩,⟨m,hn.sameBut hs (bP (IM x c hc)),λj y v' e1 e2 e3=>?_⟩,λy c' e=>?_,I.free,I.nq,λp hp=>?_,tracked ⟨oc,hoc,I.nq x c hc⟩ hs,by simpa using I.len⟩ ⟨c,hs,.inr hc⟩
  ·exact(hs.2 b (aH (bg (aF e) (I.ok.Lc x c Zx hc)))).trans (I.base.keep b o e n hb hx)
  ·obtain⟨sl,e1⟩:=I.base.slot b o e n hb hx;exact⟨sl,(hs.2 b (aH (bg (aF e) (I.ok.Lc x c Zx hc)))).trans e1⟩
  ·obtain⟨o',e1⟩:=I.base.there b o e hx;exact⟨o',(hs.2 b (aH (bg (aF e) (I.ok.Lc x c Zx hc)))).trans e1⟩
  ·by_cases hj:j=i
   ·subst hj;rw[hi]at e1;cases e1;rw[v3 hiZ]at e2;cases e2;exact⟨u,r,.inr ⟨.inl hk,c,hc,pb⟩⟩
   ·rw[yr (bP hj)]at e2;obtain⟨u',r',q⟩:=hl j y v' e1 e2 e3;refine⟨u',r',?_⟩;rcases q with q|⟨k,c',e,z'⟩
    ·exact .inl q
    ·refine .inr ⟨k,c',e,z'.sameBut hs ?_⟩;rintro rfl;exact hj (Hu hN e1 (I.ok.inj _ _ _ e hc▸hi))
  ·by_cases hcc:c'=c
   ·subst hcc;exact⟨_,pb⟩
   ·obtain⟨w2,z2⟩:=I.cell y c' e;exact⟨w2,z2.sameBut hs hcc⟩
  ·obtain⟨e,n,ne,nf,d⟩:=I.pin p hp;refine⟨(hs.2 p.1 ?_).trans e,n,ne,nf,d⟩;intro q;rw[q,hoc]at e;have q':oc=p.2:=bL e;exact d w' (by rw[<-q'];exact acP)
def xp(I:Inv X pins Z H s)(hN:X.N.Nodup)(hi:X.N[i]?=some x)(hx:Loc X.env.scope x)(r:RelV v u)
  (h:∀s',Inv X pins (Z.set i (some v)) H s'->Q () s') (hf:X.fn x=true\/X.env.scope.names.lookup x=some .local:=by first|exact .inl rfl|exact .inr rfl|assumption):wpAny M A (storeName X.env x u) Q E s:=
 EU I hN hi hx r (λs' I' _=>h s' I') hf
def Inv.abr(I:Inv X pins Z H s)(ho:s'.os=s.os)(u:Un (yR X.stack) ch H H' s.heap s'.heap)(bw:jc X.prog X.w H' s'.heap)(hg:AllBare s'.gens)
  (By:∀b∈ch,(b∈X.ex\/X.aab.heap.objs.size<=b)/\b≠X.env.locals/\(∀x c,X.env.cells.lookup x=some c->c≠b)/\∀p∈X.pn++pins,p.1≠b):Inv X pins Z H' s':=by
 obtain⟨h',g',d',t',o'⟩:=s';have e:o'=s.os:=ho;subst e;exact I.call (g':=g') (t':=t') (d':=d') u bw hg By
abbrev XK:=Value->Option Addr->Hp->Prop
abbrev St:=List (Option V)
abbrev VK:=V->Hp->Prop
abbrev TE:=St->Hp->VK->Prop
abbrev TT:=St->Hp->(Bool->Hp->Prop)->Prop
abbrev TA:=St->Hp->(List V->Hp->Prop)->Prop
structure Ends where
 nx:St->Hp->Prop
 rt:VK
 bk:St->Hp->Prop:=λ_ _=>False
 ct:St->Hp->Prop:=λ_ _=>False
abbrev TS:=Ends->St->Hp->Prop
end
inductive EP(X:Cx)(pins:List (Addr×Obj))(Z:St)(Q:VK)(u:Value)(s':Shared):Prop
 |mk v H' (_:Inv X pins Z H' s') (_:RelV v u) (_:Q v H')
inductive TP(X:Cx)(pins:List (Addr×Obj))(Z:St)(Q:Bool->Hp->Prop)(b:Bool)(s':Shared):Prop
 |mk H' (_:Inv X pins Z H' s') (_:Q b H')
inductive AP(X:Cx)(pins:List (Addr×Obj))(Z:St)(Q:List V->Hp->Prop)(us:List Value)(s':Shared):Prop
 |mk vs H' (_:Inv X pins Z H' s') (_:Vals vs us) (_:Q vs H')
def SP(X:Cx)(pins:List (Addr×Obj))(D:Ends)(f:Flow)(s':Shared):Prop:=
 match f with
 | .next=>∃σ' H',Inv X pins σ' H' s'/\D.nx σ' H'
 | .brk=>∃σ' H',Inv X pins σ' H' s'/\D.bk σ' H'
 | .cont=>∃σ' H',Inv X pins σ' H' s'/\D.ct σ' H'
 | .ret u=>∃v σ' H',Inv X pins σ' H' s'/\RelV v u/\D.rt v H'
def PE(X:Cx)(e:Expr)(t:TE):Prop:=
 ∀(pins:List (Addr×Obj))(s:Shared)(Z:St)(H:Hp)(Q:VK),Inv X pins Z H s->t Z H Q->wpAny (model X.prog X.w) X.A (eval e X.env) (EP X pins Z Q) X.xe s
def PT(X:Cx)(e:Expr)(t:TT):Prop:=
 ∀(pins:List (Addr×Obj))(s:Shared)(Z:St)(H:Hp)(Q:Bool->Hp->Prop),Inv X pins Z H s->t Z H Q->wpAny (model X.prog X.w) X.A (isTrue e X.env (eval e X.env)) (TP X pins Z Q) X.xe s
def PW(X:Cx)(e:Expr)(t:TT):Prop:=
 ∀(whole:Sem Value)(pins:List (Addr×Obj))(s:Shared)(Z:St)(H:Hp)(Q:Bool->Hp->Prop),Inv X pins Z H s->t Z H Q->wpAny (model X.prog X.w) X.A (isTrue e X.env whole) (TP X pins Z Q) X.xe s
def PW.pt(h:PW X e t):PT X e t:=h _
def PA(X:Cx)(es:List Expr)(t:TA):Prop:=
 ∀(pos:Pos)(pins:List (Addr×Obj))(s:Shared)(Z:St)(H:Hp)(Q:List V->Hp->Prop),Inv X pins Z H s->t Z H Q->wpAny (model X.prog X.w) X.A (spliced (backTo pos (starEach es X.env))) (AP X pins Z Q) X.xe s
def PS(X:Cx)(st:Stmt)(t:TS):Prop:=
 ∀(pins:List (Addr×Obj))(s:Shared)(Z:St)(H:Hp)(D:Ends),Inv X pins Z H s->t D Z H->wpAny (model X.prog X.w) X.A (exec st X.env) (SP X pins D) X.xe s
def kU(X:Cx)(st:List Stmt)(t:TS):Prop:=
 ∀(pins:List (Addr×Obj))(s:Shared)(Z:St)(H:Hp)(D:Ends),Inv X pins Z H s->t D Z H->wpAny (model X.prog X.w) X.A (execs st X.env) (SP X pins D) X.xe s
def hE(h:wpAny M A t Q E s)(hQ:∀a s,Q a s->Q' a s):wpAny M A t Q' E s:=cR h hQ λ_ _ x=>x
def cV{X:Cx}{pins:List (Addr×Obj)}{Z:St}{Q:VK}{t:Sem Value}{Q':Value->Shared->Prop}{s:Shared}(h:wpAny (model X.prog X.w) X.A t (EP X pins Z Q) X.xe s)(k:∀u s x H,Inv X pins Z H s->RelV x u->Q x H->Q' u s):wpAny (model X.prog X.w) X.A t Q' X.xe s:=hE h λu s ⟨x,H,I,r,q⟩=>k u s x H I r q
def pA{X:Cx}{pins:List (Addr×Obj)}{Z:St}{Q:List V->Hp->Prop}{t:Sem (List Value)}{Q':List Value->Shared->Prop}{s:Shared}(h:wpAny (model X.prog X.w) X.A t (AP X pins Z Q) X.xe s)(k:∀u s x H,Inv X pins Z H s->Vals x u->Q x H->Q' u s):wpAny (model X.prog X.w) X.A t Q' X.xe s:=hE h λu s ⟨x,H,I,r,q⟩=>k u s x H I r q
def D9{X:Cx}{pins:List (Addr×Obj)}{Z:St}{Q:Bool->Hp->Prop}{t:Sem Bool}{Q':Bool->Shared->Prop}{s:Shared}(h:wpAny (model X.prog X.w) X.A t (TP X pins Z Q) X.xe s)(k:∀u s H,Inv X pins Z H s->Q u H->Q' u s):wpAny (model X.prog X.w) X.A t Q' X.xe s:=hE h λu s ⟨H,I,q⟩=>k u s H I q
section
variable{X:Cx}
inductive W8(i:Nat)(Z:St)(H:Hp)(Q:VK):Prop
 |mk v (_:Z[i]?=some (some v)) (_:Q v H)
def tC(v:V):TE:=λ_ H Q=>Q v H
def XM(hN:X.N[i]?=some x)(hv:Vis X.env.scope x)(hd:(x==("__debug__":Str))=false:=by decide)(zW:(x==("__classdict__":Str))=false:=by decide):PE X (.Name x pos) (W8 i):=by
 intro pins s Z H Q I h;obtain⟨v,e,h⟩:=h;obtain⟨m,hn,hl⟩:=I.loc;obtain⟨u,r,l⟩:=hl i x v hN e hv;have fin:EP X pins Z Q u s:=⟨v,H,I,r,h⟩;rcases l with⟨hk,hm⟩|⟨hk,c,hc,Uo⟩
 ·exact CL (wpAny_loadName_local I.ok.kind hk hn hm fin) hd
 ·rcases hk with hk|hk
  ·exact CL (wpAny_loadName_cell I.ok.kind hk hc Uo fin) hd
  ·exact CL (wpAny_loadName_free I.ok.kind hk hc Uo fin zW) hd
def bq{i j pos}:PE X (.Constant (.int i) j pos) (tC (.int i)):=λ_ _ _ H _ I h=>wpAny_Constant_int ⟨.int i,H,I.tok _,⟨_,rfl⟩,h⟩
def qY{b j pos}:PE X (.Constant (.bool b) j pos) (tC (.bl b)):=λ_ _ _ H _ I h=>Constant_bool ⟨.bl b,H,I,rfl,h⟩
def NS{j pos}:PE X (.Constant .none j pos) (tC .cb):=λ_ _ _ H _ I h=>Constant_none ⟨.cb,H,I,rfl,h⟩
def dE{x j pos}:PE X (.Constant (.str x) j pos) (tC (.str x)):=λ_ _ _ H _ I h=>Calls.Constant_str ⟨.str x,H,I.tok _,⟨_,rfl⟩,h⟩
def Gl(X:Cx)(x:Str):Prop:=X.env.kindOf x=some .globalImplicit
def Er(I:Inv X pins Z H s)(hg:Gl X x)(hm:X.mg x=some u)(h:Q u s)
  (hd:(x==("__debug__":Str))=false:=by decide):wpAny (model X.prog X.w) X.A (eval (.Name x pos) X.env) Q E s:=
 sL I.ok.kind hg (Calls.loadGlobal_global (by rw[I.ok.glob];exact I.mod.glob.keeps I.bk) hm h) hd
def pK(I:Inv X pins Z H s)(hg:Gl X x)(hm:X.mg x=none)(hv:bootBuiltins x=some u)(h:Q u s)
  (hn:x≠"__name__":=by decide) (hd:(x==("__debug__":Str))=false:=by decide):wpAny (model X.prog X.w) X.A (eval (.Name x pos) X.env) Q E s:=by
 obtain⟨mb,h1,h2⟩:=I.mod.blt;exact sL I.ok.kind hg (Calls.loadGlobal_builtin (by rw[I.ok.glob];exact I.mod.glob.keeps I.bk) hm (by rw[I.ok.blt];exact h1.keeps I.bk) ((h2 x hn).trans hv) h) hd
def Kl(hg:Gl X x)(hm:X.mg x=some u)(r:RelV v u)(hd:(x==("__debug__":Str))=false:=by decide):PE X (.Name x pos) (tC v):=
 λ_ _ _ H _ I h=>Er I hg hm ⟨v,H,I,r,h⟩ hd
def VD(hg:Gl X x)(hm:X.mg x=none)(hv:bootBuiltins x=some u)(r:RelV v u)(hn:x≠"__name__":=by decide)(hd:(x==("__debug__":Str))=false:=by decide):PE X (.Name x pos) (tC v):=
 λ_ _ _ H _ I h=>pK I hg hm hv ⟨v,H,I,r,h⟩ hn hd
variable{a b:Expr}{pos:Pos}
def PC(X:Cx)(op:CmpOp)(a b:Expr)(t:TE):Prop:=
 ∀(pins:List (Addr×Obj))(s:Shared)(Z:St)(H:Hp)(Q:VK),Inv X pins Z H s->t Z H Q->
  wpAny (model X.prog X.w) X.A (eval a X.env) (λv aaa=>wpAny (model X.prog X.w) X.A (eval b X.env) (λu aae=>wpAny (model X.prog X.w) X.A (compareOp op v u) (EP X pins Z Q) X.xe aae) X.xe aaa) X.xe s
inductive JW(Q:Bool->Hp->Prop)(x:V)(H1:Hp):Prop
 |mk c (_:x=.bl c) (_:Q c H1)
def tB(t:TE):TT:=λZ H Q=>t Z H λx H1=>JW Q x H1
def GZ(h:PC X op a b t)(h1:behindInMarks op b=false:=by first|exact abY _ (by decide) (by decide)|rfl):PT X (.Compare a [op] [b] pos) (tB t):=by intro pins s Z H Q I hw;refine wb (hE (h pins s Z H _ I hw) λv s1 h1=>hE h1 λu s2 h2=>hE h2 λc s3 sS=>?_) h1;obtain⟨x,H1,I1,r1,q1⟩:=sS;obtain⟨d,rfl,q⟩:=q1;cases r1;exact gZ ⟨H1,I1,q⟩
def wt(h:PE X e t)(he:∀whole,isTrue e X.env whole=(do let v<-whole;standAt e.pos;holding [v] (truthy v)):=by intro _;rfl):PT X e (tB t):=by intro pins s Z H Q I hw;refine isTrue_plain (cV (h pins s Z H _ I hw) λv s1 x H1 I1 r1 q1=>?_) (he _);obtain⟨d,rfl,q⟩:=q1;cases r1;exact gZ ⟨H1,I1,q⟩
variable{ta tb:TE}{tA JW:TT}{rest:List Expr}
def abK(t u:TT):TT:=λZ H Q=>t Z H λc H1=>if c=true then u Z H1 Q else Q false H1
def tOr(t u:TT):TT:=λZ H Q=>t Z H λc H1=>if c=true then Q true H1 else u Z H1 Q
def abD(t:TT):TT:=λZ H Q=>t Z H λc H1=>Q (!c) H1
def AH(ha:PT X a tA):PW X (.BoolOp .And [a] pos) tA:=by
 intro wh pins s Z H Q I h;refine isTrue_and (hE (ha pins s Z H Q I h) λc s1 e=>?_);cases c with
 |true=>exact isTrue_and_nil e
 |false=>exact e
def GU(ha:PT X a tA):PW X (.BoolOp .Or [a] pos) tA:=by
 intro wh pins s Z H Q I h;refine isTrue_or (hE (ha pins s Z H Q I h) λc s1 e=>?_);cases c with
 |false=>exact isTrue_or_nil e
 |true=>exact e
def CZ(ha:PT X a tA)(hb:PW X (.BoolOp .And (b::rest) pos) JW):PW X (.BoolOp .And (a::b::rest) pos) (abK tA JW):=by
 intro wh pins s Z H Q I h;refine isTrue_and (D9 (ha pins s Z H _ I h) λc s1 H1 I1 q1=>?_);cases c with
 |true=>exact hb wh pins s1 Z H1 Q I1 q1
 |false=>exact⟨H1,I1,q1⟩
def F2(ha:PT X a tA)(hb:PW X (.BoolOp .Or (b::rest) pos) JW):PW X (.BoolOp .Or (a::b::rest) pos) (tOr tA JW):=by
 intro wh pins s Z H Q I h;refine isTrue_or (D9 (ha pins s Z H _ I h) λc s1 H1 I1 q1=>?_);cases c with
 |true=>exact⟨H1,I1,q1⟩
 |false=>exact hb wh pins s1 Z H1 Q I1 q1
def GY(ha:PT X a tA):PT X (.UnaryOp .Not a pos) (abD tA):=by intro pins s Z H Q I h;exact isTrue_not (D9 (ha pins s Z H (λc H1=>Q (!c) H1) I h) λ_ _ a b c=>⟨a,b,c⟩)
inductive Xj(tb:TE)(Z:St)(Q:VK)(x:V)(H1:Hp):Prop
 |mk c (_:x=.bl c) (_:if c=true then tb Z H1 Q else Q (.bl false) H1)
def aaQ(ta tb:TE):TE:=λZ H Q=>ta Z H λx H1=>Xj tb Z Q x H1
def NR{op}(h:PE X a t):PE X (.BoolOp op [a] pos) t:=λpins s Z H Q I hw=>BoolOp_one (h pins s Z H Q I hw)
def Hg(ha:PE X a ta)(hb:PE X (.BoolOp .And (b::rest) pos) tb):PE X (.BoolOp .And (a::b::rest) pos) (aaQ ta tb):=by
 intro pins s Z H Q I h;refine BoolOp_and (cV (ha pins s Z H _ I h) λv s1 x H1 I1 r1 q1=>?_);obtain⟨c,rfl,q1⟩:=q1;cases r1;refine gZ ?_;cases c with
 |true=>exact hb pins s1 Z H1 Q I1 q1
 |false=>exact⟨.bl false,H1,I1,rfl,q1⟩
def tIf(t:TT)(ta tb:TE):TE:=λZ H Q=>t Z H λc H1=>if c=true then ta Z H1 Q else tb Z H1 Q
def Ha(hc:PT X c tA)(ha:PE X a ta)(hb:PE X b tb):PE X (.IfExp c a b pos) (tIf tA ta tb):=by
 intro pins s Z H Q I h;refine wpAny_IfExp (D9 (hc pins s Z H _ I h) λd s1 H1 I1 q1=>?_);cases d with
 |true=>exact ha pins s1 Z H1 Q I1 q1
 |false=>exact hb pins s1 Z H1 Q I1 q1
end
def bp(K:Frag)(H:Hp)(a:Addr)(xs:List V):Prop:=
 Rd H a (.lst xs)\/
  ∃(o:Obj)(aY:Array Value)(n:Nat),K.lookup a=some o/\o.cls=.type "list"/\o.dict=none/\o.data=.seq aY n/\aY.size<=sizeLine/\Vals xs aY.toList
def bE(K:Frag)(H:Hp)(a:Addr)(xs:List V):Prop:=
 Rd H a (.tup xs)\/
  ∃(o:Obj)(aY:Array Value)(n:Nat),K.lookup a=some o/\o.cls=.type "tuple"/\o.data=.seq aY n/\aY.size<=sizeLine/\Vals xs aY.toList
def adl:Value->Option V
 | .none=>some .cb
 | .bool b=>some (.bl b)
 | .int i _=>some (.int i)
 | .str x _=>some (.str x)
 | .bytes b _=>some (.sW b)
 | .float b _=>some (.IF b)
 | .ref a=>some (.ref a)
 | .type n=>some (.ty n)
 |_=>none
def RelV.abs(r:RelV x u):adl u=some x:=by
 cases x with
 |cb=>cases r;rfl
 |bl _=>cases r;rfl
 |int _=>obtain⟨t,rfl⟩:=r;rfl
 |str _=>obtain⟨t,rfl⟩:=r;rfl
 |sW _=>obtain⟨t,rfl⟩:=r;rfl
 |IF _=>obtain⟨t,rfl⟩:=r;rfl
 |ref _=>cases r;rfl
 |ty _=>cases r;rfl
def RelV.inj(r:RelV x u)(q:RelV y u):x=y:=bL (r.abs.symm.trans q.abs)
theorem Vals.inj:∀{xs ys:List V}{us:List Value},Vals xs us->Vals ys us->xs=ys
 |_,_,_,.nil,.nil=>rfl
 |_,_,_,.cons r t,.cons r' t'=>by rw[r.inj r',Vals.inj t t']
section
variable{X:Cx}{pins:List (Addr×Obj)}{Z:St}{H:Hp}{s:Shared}{a:Addr}{xs ys:List V}
def bp.of{K:Frag}(h:H a=some (.lst xs)):bp K H a xs:=.inl (.inl h)
def bE.of{K:Frag}(h:H a=some (.tup xs)):bE K H a xs:=.inl (.inl h)
def Inv.list(I:Inv X pins Z H s)(h:bp X.K H a xs):∃aY:List Value,Vals xs aY/\PlainL s.heap a aY.toArray/\xs.length<=sizeLine:=by
 rcases h with h|⟨o,aY,n,hk,hc,hd,hs,hz,r⟩
 ·obtain⟨z,aY,n,r,e⟩:=h.ok I.bw;exact⟨aY,r,⟨_,n,e,rfl,rfl,rfl⟩,z⟩
 ·refine⟨aY.toList,r,⟨o,n,I.lZ a o hk,hc,hd,by simpa using hs⟩,?_⟩;have e:=r.length;simp only[aR]at e;lia
def Inv.tuple(I:Inv X pins Z H s)(h:bE X.K H a xs):∃aY:List Value,Vals xs aY/\IsTup s.heap a aY.toArray/\xs.length<=sizeLine:=by
 rcases h with h|⟨o,aY,n,hk,hc,hs,hz,r⟩
 ·obtain⟨z,aY,r,p,_⟩:=h.ok I.bw;exact⟨aY,r,p,z⟩
 ·refine⟨aY.toList,r,⟨o,I.lZ a o hk,hc,n,by simpa using hs⟩,?_⟩;have e:=r.length;simp only[aR]at e;lia
def Inv.B8(I:Inv X pins Z H s)(h:bp X.K H a xs)(h':bp X.K H a ys):xs=ys:=by
 obtain⟨aY,r,⟨o,n,e,_,_,d⟩,_⟩:=I.list h;obtain⟨its',r',⟨o',n',e',_,_,d'⟩,_⟩:=I.list h';rw[e]at e';cases e';rw[d]at d';injection d' with d1 _;have:aY=its':=by simpa using cA Array.toList d1
 subst this;exact r.inj r'
def Inv.za(I:Inv X pins Z H s)(h:bE X.K H a xs)(h':bE X.K H a ys):xs=ys:=by
 obtain⟨aY,r,⟨o,e,_,n,d⟩,_⟩:=I.tuple h;obtain⟨its',r',⟨o',e',_,n',d'⟩,_⟩:=I.tuple h';rw[e]at e';cases e';rw[d]at d';injection d' with d1 _;have:aY=its':=by simpa using cA Array.toList d1
 subst this;exact r.inj r'
end
abbrev Cx.vI(X:Cx)(E:Value->Shared->Prop):Cx:={X with xe:=E}
abbrev Cx.Th(X:Cx):Cx:=X.vI λ_ _=>False
def Cx.Ok.vI{X:Cx}(ok:X.Ok)(E:Value->Shared->Prop):(X.vI E).Ok:=
 ⟨ok.mod,ok.kind,ok.glob,ok.blt,ok.above,ok.inj,ok.has,ok.Lc,ok.hd,ok.frames,ok.Ni,ok.PF,ok.bs,ok.BF,ok.Em,ok.Co,ok.qL,ok.FA⟩
def Cx.Ok.rB{X:Cx}(ok:(X.vI E).Ok):X.Ok:=
 ⟨ok.mod,ok.kind,ok.glob,ok.blt,ok.above,ok.inj,ok.has,ok.Lc,ok.hd,ok.frames,ok.Ni,ok.PF,ok.bs,ok.BF,ok.Em,ok.Co,ok.qL,ok.FA⟩
section
variable{X:Cx}{pins:List (Addr×Obj)}{Z:St}{H:Hp}{s:Shared}{E:Value->Shared->Prop}
def Inv.vI(I:Inv X pins Z H s)(E:Value->Shared->Prop):Inv (X.vI E) pins Z H s:=⟨I.ok.vI E,I.os,I.bare,I.base,I.loc,I.cell,I.free,I.nq,I.pin,I.bw,I.len⟩
def Inv.rB(I:Inv (X.vI E) pins Z H s):Inv X pins Z H s:=⟨I.ok.rB,I.os,I.bare,I.base,I.loc,I.cell,I.free,I.nq,I.pin,I.bw,I.len⟩
def SP.rB(h:SP (X.vI E) pins D f s'):SP X pins D f s':=by
 cases f with
 |next=>obtain⟨σ',H',I,q⟩:=h;exact⟨σ',H',I.rB,q⟩
 |brk=>obtain⟨σ',H',I,q⟩:=h;exact⟨σ',H',I.rB,q⟩
 |cont=>obtain⟨σ',H',I,q⟩:=h;exact⟨σ',H',I.rB,q⟩
 |ret u=>obtain⟨v,σ',H',I,r,q⟩:=h;exact⟨v,σ',H',I.rB,r,q⟩
def kU.Th{st:List Stmt}(h:kU X.Th st t):kU X st t:=λpins s Z H D I hw=>
 cR (h pins s Z H D (I.vI _) hw) (λ_ _ q=>q.rB) λ_ _ z=>False.elim z
end
section
variable{X:Cx}{st:Stmt}{rest:List Stmt}{t u:TS}{e:Expr}{te:TE}{pos:Pos}
def aaJ:TS:=λD Z H=>D.nx Z H
def Gr(t u:TS):TS:=λD Z H=>t {D with nx:=u D} Z H
def eU:kU X [] aaJ:=λ_ _ Z H _ I h=>pz ⟨Z,H,I,h⟩
def aP(h1:PS X st t)(h2:kU X rest u):kU X (st::rest) (Gr t u):=by
 intro pins s Z H D I h;refine wpAny_execs_cons (hE (h1 pins s Z H {D with nx:=u D} I h) λf s1 q=>?_);cases f with
 |next=>
  obtain⟨σ',H',I',q⟩:=q;exact h2 pins s1 σ' H' D I' q
 |ret v=>exact q
 |brk=>exact q
 |cont=>exact q
def bj(h1:PS X st t):kU X [st] t:=by
 intro pins s Z H D I h;refine wpAny_execs_cons (hE (h1 pins s Z H D I h) λf s1 q=>?_);cases f with
 |next=>exact pz q
 |ret v=>exact q
 |brk=>exact q
 |cont=>exact q
def Inv.quiet(I:Inv X pins Z H s):interactive X.env=false:=by simp[interactive,I.ok.kind]
def aaL(te:TE):TS:=λD Z H=>te Z H λ_ H1=>D.nx Z H1
def iI(he:PE X e te)(hs:swapsWith e none pos.line X.env=pure false:=by rfl):PS X (.Expr e pos) (aaL te):=by intro pins s Z H D I h;exact wpAny_Expr_any (cV (he pins s Z H _ I h) λv s1 x H1 I1 r1 q1=>⟨Z,H1,I1,q1⟩) I.quiet hs
def abB(te:TE):TS:=λD Z H=>te Z H D.rt
def cJ(he:PE X e te):PS X (.Return (some e) pos) (abB te):=by intro pins s Z H D I h;exact wpAny_Return_some (cV (he pins s Z H _ I h) λv s1 x H1 I1 r1 q1=>⟨x,Z,H1,I1,r1,q1⟩)
def abG(c:TT)(t u:TS):TS:=λD Z H=>c Z H λb H1=>if b=true then t D Z H1 else u D Z H1
def iq(hc:PT X c tc)(ha:kU X a t)(hb:kU X b u):PS X (.If c a b pos) (abG tc t u):=by
 intro pins s Z H D I h;refine wpAny_If (D9 (hc pins s Z H _ I h) λd s1 H1 I1 q1=>?_);cases d with
 |true=>exact ha pins s1 Z H1 D I1 q1
 |false=>exact hb pins s1 Z H1 D I1 q1
abbrev TG:=V->St->Hp->(St->Hp->Prop)->Prop
abbrev UH:=List V->St->Hp->(St->Hp->Prop)->Prop
end
def PG(X:Cx)(target:Expr)(t:TG):Prop:=
 ∀(pins:List (Addr×Obj))(s:Shared)(Z:St)(H:Hp)(v:V)(u:Value)(Q:St->Hp->Prop),Inv X pins Z H s->RelV v u->t v Z H Q->
  wpAny (model X.prog X.w) X.A (assign target X.env u) (λ_ s'=>∃σ' H',Inv X pins σ' H' s'/\Q σ' H') X.xe s
def DW(X:Cx)(ts:List Expr)(t:UH):Prop:=
 ∀(pins:List (Addr×Obj))(s:Shared)(Z:St)(H:Hp)(vs:List V)(us:List Value)(Q:St->Hp->Prop),Inv X pins Z H s->Vals vs us->t vs Z H Q->
  wpAny (model X.prog X.w) X.A (assignInOrder ((assignEach ts X.env).map (·.2)) us) (λ_ s'=>∃σ' H',Inv X pins σ' H' s'/\Q σ' H') X.xe s
abbrev aat:=V->V->V->Hp->(Hp->Prop)->Prop
def aau(X:Cx)(t:aat):Prop:=
 ∀(pins:List (Addr×Obj))(s:Shared)(Z:St)(H:Hp)(o i v:V)(ov iv u:Value)(Q:Hp->Prop),Inv X pins Z H s->RelV o ov->RelV i iv->RelV v u->t o i v H Q->
  wpAny (model X.prog X.w) X.A (setItem ov iv u) (λ_ s'=>∃H',Inv X pins Z H' s'/\Q H') X.xe s
section
variable{X:Cx}{pos:Pos}
def rh(i:Nat):TG:=λv Z H Q=>Q (Z.set i (some v)) H
def ni(hN:X.N.Nodup)(hi:X.N[i]?=some x)(hx:Loc X.env.scope x)(hf:X.fn x=true\/X.env.scope.names.lookup x=some .local:=by first|exact .inl rfl|exact .inr rfl|assumption):PG X (.Name x pos) (rh i):=by intro pins s Z H v u Q I r h;exact AW (xp I hN hi hx r (λs' I'=>⟨_,H,I',h⟩) hf)
def Z7:UH:=λvs Z H Q=>vs=[]/\Q Z H
inductive Mp(t:TG)(u:UH)(vs:List V)(Z:St)(H:Hp)(Q:St->Hp->Prop):Prop
 |mk v r (_:vs=v::r) (_:t v Z H λσ' H'=>u r σ' H' Q)
def jO:DW X [] Z7:=by intro pins s Z H vs us Q I r h;obtain⟨e,h⟩:=h;subst e;cases r;exact AZ ⟨Z,H,I,h⟩
def dk(h1:PG X e t)(h2:DW X es u)
  (hs:(assignEach (e::es) X.env).map (·.2)=assign e X.env::(assignEach es X.env).map (·.2):=by rfl):DW X (e::es) (Mp t u):=by
 intro pins s Z H vs us Q I r h;obtain⟨v,vr,e1,h⟩:=h;subst e1;cases r with
 |cons r rr=>
  rw[hs];refine rU (hE (h1 pins s Z H _ _ _ I r h) λ_ s1 wL=>?_);obtain⟨σ1,H1,I1,q1⟩:=wL;exact h2 pins s1 σ1 H1 _ _ Q I1 rr q1
inductive RU(K:Frag)(n:Nat)(t:UH)(v:V)(Z:St)(H:Hp)(Q:St->Hp->Prop):Prop
 |mk a xs (_:v=.ref a) (_:bE K H a xs) (_:xs.length=n) (_:t xs Z H Q)
def lE(hc:X.calm=true)(h:DW X es t)
  (hn:(assignEach es X.env).length=n:=by rfl) (gF:(assignEach es X.env).findIdx? (·.1)=none:=by rfl):PG X (.Tuple es k pos) (RU X.K n t):=by
 intro pins s Z H v u Q I r hw;obtain⟨a,xs,e1,hq,hl,hw⟩:=hw;subst e1;cases r;obtain⟨aY,rv,ht,hz⟩:=I.tuple hq;refine assign_Tuple_tuple (I.ok.hd hc) ht (by simp[hn,<-hl,rv.length]) gF λh' hx=>?_;have I1:Inv X pins Z H {s with heap:=h'}:=I.kept (t':=s.toks) λb o e=>hx b o (aH (aF e)) e;exact h pins _ Z H xs _ Q I1 (by simpa using rv) hw
def adb(to ti:TE)(t:aat):TG:=λv Z H Q=>to Z H λo H1=>ti Z H1 λi H2=>t o i v H2 λH3=>Q Z H3
def C3(ho:PE X o to)(hi:PE X i ti)(hs:aau X t)
  (ha:∀v,assign (.Subscript o i pos) X.env v=(do
   let ov<-holding [v] (eval o X.env)
   let iv<-holding [v,ov] (eval i X.env)
   standAt pos
   holding [v,ov,iv] (setItem ov iv v)
   release [v,ov,iv] []):=by intro _;rfl):PG X (.Subscript o i pos) (adb to ti t):=by
 intro pins s Z H v u Q I r h;rw[ha];refine ae (bR (cV (ho pins s Z H _ I h) λov s1 x H1 I1 r1 q1=>?_));refine ae (bR (cV (hi pins s1 Z H1 _ I1 q1) λiv s2 y H2 I2 r2 q2=>?_));refine ae (si (ae (bR (hE (hs pins s2 Z H2 x y v ov iv u _ I2 r1 r2 r q2) λ_ s3 HQ=>?_))));obtain⟨H3,I3,q3⟩:=HQ;exact wpAny_release ⟨Z,H3,I3,q3⟩
def QF(te:TE)(g:TG):TS:=λD Z H=>te Z H λx H1=>g x Z H1 D.nx
def ur(he:PE X e te)(hg:PG X tg g)(hs:swapsWithSole [tg] e pos.line X.env=pure false:=by rfl)(hw:swappedStores [tg] e X.env=pure none:=by rfl)
  (h1:(assignEach [tg] X.env).map (·.2)=[assign tg X.env]:=by rfl):PS X (.Assign [tg] e pos) (QF te g):=by
 intro pins s Z H D I h;refine wpAny_Assign_stores (cV (he pins s Z H _ I h) λv s1 x H1 I1 r1 q1=>?_) hs hw;rw[h1];exact hE (hg pins s1 Z H1 x v _ I1 r1 q1) λ_ s2 q=>q
def uq(hN:X.N.Nodup)(hi:X.N[i]?=some x)(hx:Loc X.env.scope x)(he:PE X e te)(hs:swapsWith e (some (.Name x pos')) pos.line X.env=pure false:=by rfl)(hf:X.fn x=true\/X.env.scope.names.lookup x=some .local:=by first|exact .inl rfl|exact .inr rfl|assumption):
  PS X (.Assign [.Name x pos'] e pos) (QF te (rh i)):=by
 intro pins s Z H D I h;refine wpAny_Assign_Name (cV (he pins s Z H _ I h) λv s1 y H1 I1 r1 q1=>?_) hs;exact xp I1 hN hi hx r1 (λs2 I2=>⟨_,H1,I2,q1⟩) hf
inductive aaI(i:Nat)(j:Nat)(D:Ends)(Z:St)(vs:List V)(H1:Hp):Prop
 |mk v w (_:vs=[v,w]) (_:D.nx ((Z.set i (some v)).set j (some w)) H1)
def abC(i j:Nat)(ta:TA):TS:=λD Z H=>ta Z H λvs H1=>aaI i j D Z vs H1
def XH{kt k2 XG}(hc:X.calm=true)(hN:X.N.Nodup)(hi:X.N[i]?=some x)(hj:X.N[j]?=some y)(Zw:i≠j)
  (hx:X.env.scope.names.lookup x=some .local) (hy:X.env.scope.names.lookup y=some .local) (ha:PA X [a,b] ta)
  (hw:swappedStores [.Tuple [.Name x px,.Name y py] kt pt] (.Tuple [a,b] k2 XG) X.env=pure (some [x,y]))
  (hs:swapsWithSole [.Tuple [.Name x px,.Name y py] kt pt] (.Tuple [a,b] k2 XG) pos.line X.env=pure false:=by rfl):
  PS X (.Assign [.Tuple [.Name x px,.Name y py] kt pt] (.Tuple [a,b] k2 XG) pos) (abC i j ta):=by
 intro pins s Z H D I h;rw[exec_Assign_arm];refine ae (si ?_);rw[hs];refine ae (ah ?_);rw[ax (by decide)];refine ae (Tuple_ (pA (ha _ pins s Z H _ I h) λus s1 vs H1 I1 r1 q1=>?_));obtain⟨v,w,e1,q1⟩:=q1;subst e1;obtain⟨u1,u2,rfl,rv,om⟩:∃u1 u2,us=[u1,u2]/\RelV v u1/\RelV w u2:=by
  cases r1 with
  |cons p q=>
   cases q with
   |cons p' q'=>
    cases q';exact⟨_,_,rfl,p,p'⟩
 refine cT ?_ (by show 2<=sizeLine;decide);have I2:Inv X pins Z H1 {s1 with heap:=s1.heap.push {cls:=.type "tuple",data:=.seq [u1,u2].toArray}}:=I1.kept (t':=s1.toks) λb o e=>af _ e;rw[hw];refine ae (ah ?_);show wpAny (model X.prog X.w) X.A (do rule "assign.swapped-stores";let items<-unpackItems (.ref s1.heap.objs.size) 2 none;assignInOrder [λv=>bindName X.env y v,λv=>bindName X.env x v] items.reverse;pure Flow.next) _ _ _;refine ae (fg (ae (unpackItems_tuple (items:=#[u1,u2]) (I.ok.hd hc) (IsTup.new s1.heap _) λh' wM=>?_)));have I3:=I2.kept (h':=h') (t':=s1.toks) λb o e=>wM b o (aH (aF e)) e;show wpAny _ _ (assignInOrder [λv=>bindName X.env y v,λv=>bindName X.env x v] [u2,u1]>>=λ_=>pure Flow.next) _ _ _;refine ae (rU (wpAny_bindName (xp I3 hN hj (.inl hy) om (λs2 I4=>?_) (.inr hy))));refine rU (wpAny_bindName (xp I4 hN hi (.inl hx) rv (λs3 I5=>AZ (ah ?_)) (.inr hx)));rw[List.set_comm _ _ (bP Zw)]at I5;exact⟨_,H1,I5,q1⟩
def W7(c:TT)(tb:TS):TS:=λD Z H=>∃W:Nat->St->Hp->Prop,(∃m,W m Z H)/\∀m Z H,W m Z H->
 c Z H λb H1=>if b=true then∃N:St->Hp->Prop,(∀σ' H',N σ' H'->∃m',m'<m/\W m' σ' H')/\tb {D with nx:=N,ct:=N,bk:=D.nx} Z H1 else D.nx Z H1
def QT(hp:PassesOwn (model X.prog X.w) X.A X.env X.xe)(hc:PT X c tc)(hb:kU X body tb):PS X (.While c body [] pos) (W7 tc tb):=by
 intro pins s Z H D I h;obtain⟨W,⟨m0,w0⟩,turn⟩:=h;refine wpAny_While (codeAny_whileLoop (λn s'=>∃σ' H',Inv X pins σ' H' s'/\W n σ' H') ?_ m0 ⟨Z,H,I,w0⟩);rintro n s1 ⟨σ1,H1,I1,w1⟩;refine iE hp (D9 (hc pins s1 σ1 H1 _ I1 (turn n σ1 H1 w1)) λb s2 H2 I2 q2=>?_);cases b with
 |true=>
  obtain⟨N,hN,q2⟩:=q2;rw[aB rfl];refine iE hp (hE (hb pins s2 σ1 H2 _ I2 q2) λf s3 q3=>?_);cases f with
  |next=>
   obtain⟨σ3,H3,I3,n3⟩:=q3;obtain⟨m',hm,w3⟩:=hN σ3 H3 n3;exact⟨m',hm,σ3,H3,I3,w3⟩
  |cont=>
   obtain⟨σ3,H3,I3,n3⟩:=q3;obtain⟨m',hm,w3⟩:=hN σ3 H3 n3;exact⟨m',hm,σ3,H3,I3,w3⟩
  |brk=>exact q3
  |ret v=>exact q3
 |false=>
  rw[ax aT];exact pz ⟨σ1,H2,I2,q2⟩
structure It where
 go:Nat->Hp->Prop
 yA:Nat->Hp->V->Hp->Prop
 stop:Nat->Hp->Prop
end
def oZ(X:Cx)(pins:List (Addr×Obj))(H:Hp)(b:Addr):Prop:=
 H b=none/\b≠X.env.locals/\b∉X.fs/\(b∈X.ex\/X.aab.heap.objs.size<=b)/\(∀x c,X.env.cells.lookup x=some c->c≠b)/\∀p∈X.pn++pins,p.1≠b
def Inv.pT(I:Inv X pins Z H s)(hb:s.heap.objs.size<=b)(hn:H' b=none):oZ X pins H' b:=by
 refine⟨hn,bx (bg I.lt hb),I.X1 hb,.inr (aE I.sz hb),λx c e z=>?_,λp hp z=>?_⟩
 ·obtain⟨v,q⟩:=I.cell x c e;exact absurd (bg q.lt (by rw[z];exact hb)) (df _)
 ·exact absurd (bg (aF (I.pin p hp).1) (by rw[z];exact hb)) (df _)
structure Turn(P:Program)(w:World)(K:Frag)(tg:Expr)(J:It)(fp:List Addr)(it:Addr)(tn:Nat->Heap->Prop):Prop where
 mem:it∈fp
 obj:∀i h,tn i h->∀b∈fp,∃o,h.get? b=some o/\∀v,o.data≠ .cell v
 keep:∀i h h',tn i h->(∀b∈fp,∀o,h.get? b=some o->h'.get? b=some o)->tn i h'
 item:∀(X:Cx),X.prog=P->X.w=w->X.K=K->X.calm=true->∀(i:Nat)(pins:List (Addr×Obj))(s:Shared)(Z:St)(H:Hp)(E:Value->Shared->Prop),Inv X pins Z H s->(∀b∈fp,oZ X pins H b)->tn i s.heap->J.go i H->
  wpAny (model P w) X.A (pyNext (.ref it)) (λr s1=>∃u,r=some u/\
   wpAny (model P w) X.A (letOwnedTupleGo tg (.ref it) u) (λ_ s2=>∃x H',Inv X pins Z H' s2/\RelV x u/\J.yA i H x H'/\tn (i+1) s2.heap/\∀b∈fp,H' b=none) E s1) E s
 done:∀(X:Cx),X.prog=P->X.w=w->X.K=K->X.calm=true->∀(i:Nat)(pins:List (Addr×Obj))(s:Shared)(Z:St)(H:Hp)(E:Value->Shared->Prop),Inv X pins Z H s->(∀b∈fp,oZ X pins H b)->tn i s.heap->J.stop i H->
  wpAny (model P w) X.A (pyNext (.ref it)) (λr s1=>r=none/\Inv X pins Z H s1) E s
 self:∀(A:Around)(i:Nat)(s:Shared)(Q:Value->Shared->Prop)(E:Value->Shared->Prop),tn i s.heap->Q (.ref it) s->wpAny (model P w) A (pyIter (.ref it)) Q E s
abbrev TI:=St->Hp->(It->Hp->Prop)->Prop
def PIE(X:Cx)(pins:List (Addr×Obj))(Z:St)(tg:Expr)(R:It->Hp->Prop)(Yz:Value)(s2:Shared):Prop:=
 ∃(it:Addr)(fp:List Addr)(tn:Nat->Heap->Prop)(J:It)(H':Hp),Yz=.ref it/\Inv X pins Z H' s2/\Turn X.prog X.w X.K tg J fp it tn/\tn 0 s2.heap/\(∀b∈fp,oZ X pins H' b)/\R J H'
def PI(X:Cx)(tg iter:Expr)(wi:TI):Prop:=
 ∀(pins:List (Addr×Obj))(s:Shared)(Z:St)(H:Hp)(R:It->Hp->Prop),Inv X pins Z H s->wi Z H R->
  wpAny (model X.prog X.w) X.A (eval iter X.env) (λv s1=>wpAny (model X.prog X.w) X.A (pyIter v) (PIE X pins Z tg R) X.xe s1) X.xe s
def AO(ho:s.heap.get? it=some o)(hc:o.cls=.type n)(hd:o.data=.fields vs)
  (hn:["enumerate","zip","dict_itemiterator","dict_reverseitemiterator","odict_iterator","itertools.zip_longest","itertools.pairwise"].contains n=false) (hQ:Q () s):wpAny M A (letOwnedTupleGo tg (.ref it) u) Q E s:=by
 unfold letOwnedTupleGo;cases tg<;>first
  |exact ah hQ
  |(cases u<;>first
    |exact ah hQ
    |(refine ae (CJ ho ?_);rw[hc,hd];show wpAny M A (if(["enumerate","zip","dict_itemiterator","dict_reverseitemiterator","odict_iterator","itertools.zip_longest","itertools.pairwise"].contains n&&vs[0]?==some (rawInt _))=true then _ else _) Q E s;rw[ax (by intro h;rw[hn,nJ]at h;cases h)];exact ah hQ))
def Lk(K:Frag)(a:Addr):It:=
 ⟨λi H=>∃xs x,bp K H a xs/\xs[i]?=some x,λi H x H'=>H'=H/\∀xs,bp K H a xs->xs[i]?=some x,λi H=>∃xs,bp K H a xs/\xs.length<=i⟩
def Li(K:Frag)(a:Addr):It:=
 ⟨λi H=>∃xs x,bE K H a xs/\xs[i]?=some x,λi H x H'=>H'=H/\∀xs,bE K H a xs->xs[i]?=some x,λi H=>∃xs,bE K H a xs/\xs.length<=i⟩
def Lj(lo:Int)(n:Nat):It:=⟨λi _=>i<n,λi H x H'=>H'=H/\x=.int (lo+i),λi _=>n<=i⟩
def Na{K:Frag}(a it:Addr):Turn P w K tg (Lk K a) [it] it (λi h=>h.IsListIter it a i) where
 mem:=by simp
 obj:=λi h st b hb=>by
  have e:b=it:=by simpa using hb
  subst e;obtain⟨o,e,c,d⟩:=st;exact⟨o,e,λv z=>by rw[d]at z;cases z⟩
 keep:=λi h h' st k=>st.at λo e=>k it (by simp) o e
 item:=by intro X hP hw hK hc i pins s Z H E I hf st hg;subst hP hw hK;obtain⟨xs,x,hq,hx⟩:=hg;obtain⟨aY,rv,p,hz⟩:=I.list hq;obtain⟨u,hu,ru⟩:=rv.get hx;obtain⟨f0,f1,f2,f3,f4,f5⟩:=hf it (by simp);refine vG st p.isList (x:=u) (by simpa using hu) λh' gM sb=>?_;have I1:Inv X pins Z H {s with heap:=h'}:=I.turned (t':=s.toks) (λb o hb e=>(sb.2 b hb).trans e) f0 f1 f3 f4 f5;obtain⟨o,e,c,d⟩:=id gM;exact⟨u,rfl,AO (s:={s with heap:=h'}) e c d (by decide) ⟨x,H,I1,ru,⟨rfl,λys hy=>by rw[I.B8 hy hq];exact hx⟩,gM,λb hb=>(hf b hb).1⟩⟩
 done:=by intro X hP hw hK hc i pins s Z H E I hf st hg;subst hP hw hK;obtain⟨xs,hq,hx⟩:=hg;obtain⟨aY,rv,p,hz⟩:=I.list hq;obtain⟨f0,f1,f2,f3,f4,f5⟩:=hf it (by simp);have hl:=rv.length;exact v9 (I.ok.hd hc) st p.isList (by simp;lia) λh' eb=>⟨rfl,I.turned (t':=s.toks) (λb o hb e=>eb b o hb e) f0 f1 f3 f4 f5⟩
 self:=λ_ _ _ _ _ st h=>wpAny_pyIter_listiter st h
def Ll{K:Frag}(a it:Addr):Turn P w K tg (Li K a) [it] it (λi h=>h.IsTupleIter it a i) where
 mem:=by simp
 obj:=λi h st b hb=>by
  have e:b=it:=by simpa using hb
  subst e;obtain⟨o,e,c,d⟩:=st;exact⟨o,e,λv z=>by rw[d]at z;cases z⟩
 keep:=λi h h' st k=>st.at λo e=>k it (by simp) o e
 item:=by intro X hP hw hK hc i pins s Z H E I hf st hg;subst hP hw hK;obtain⟨xs,x,hq,hx⟩:=hg;obtain⟨aY,rv,p,hz⟩:=I.tuple hq;obtain⟨u,hu,ru⟩:=rv.get hx;obtain⟨f0,f1,f2,f3,f4,f5⟩:=hf it (by simp);refine wpAny_pyNext_tuple_item st (show s.heap.IsTuple a aY.toArray from p) (x:=u) (by simpa using hu) λh' gM sb=>?_;have I1:Inv X pins Z H {s with heap:=h'}:=I.turned (t':=s.toks) (λb o hb e=>(sb.2 b hb).trans e) f0 f1 f3 f4 f5;obtain⟨o,e,c,d⟩:=id gM;exact⟨u,rfl,AO (s:={s with heap:=h'}) e c d (by decide) ⟨x,H,I1,ru,⟨rfl,λys hy=>by rw[I.za hy hq];exact hx⟩,gM,λb hb=>(hf b hb).1⟩⟩
 done:=by intro X hP hw hK hc i pins s Z H E I hf st hg;subst hP hw hK;obtain⟨xs,hq,hx⟩:=hg;obtain⟨aY,rv,p,hz⟩:=I.tuple hq;obtain⟨f0,f1,f2,f3,f4,f5⟩:=hf it (by simp);have hl:=rv.length;exact wpAny_pyNext_tuple_end (I.ok.hd hc) st (show s.heap.IsTuple a aY.toArray from p) (by simp;lia) λh' eb=>⟨rfl,I.turned (t':=s.toks) (λb o hb e=>eb b o hb e) f0 f1 f3 f4 f5⟩
 self:=λ_ _ _ _ _ st h=>wpAny_pyIter_tupleiter st h
def Lm{K:Frag}(it:Addr)(lo:Int)(n:Nat):Turn P w K tg (Lj lo n) [it] it (λi h=>IsRangeIter h it (lo+(i:Nat)*1) ((n:Int) -(i:Nat)) 1) where
 mem:=by simp
 obj:=λi h st b hb=>by
  have e:b=it:=by simpa using hb
  subst e;exact⟨_,st,λv z=>by have z':Data.fields _=Data.cell v:=z;cases z'⟩
 keep:=λi h h' st k=>k it (by simp) _ st
 item:=by intro X hP hw hK hc i pins s Z H E I hf st hg;subst hP hw hK;obtain⟨f0,f1,f2,f3,f4,f5⟩:=hf it (by simp);have W:=Walks.range (prog:=X.prog) (w:=X.w) (I.ok.hd hc) it lo 1 n;refine W.item i s _ _ hg st λv h' tk hv gM kk=>?_;obtain⟨t,rfl⟩:=hv;have I1:Inv X pins Z H {s with heap:=h',toks:=tk}:=I.turned (λb o hb e=>kk b o (by simpa using hb) e) f0 f1 f3 f4 f5;refine⟨_,rfl,AO (s:={s with heap:=h',toks:=tk}) (n:="range_iterator") gM rfl rfl (by decide) ⟨.int (lo+i),H,I1,⟨t,?_⟩,⟨rfl,rfl⟩,gM,λb hb=>(hf b hb).1⟩⟩;rw[Int.mul_one]
 done:=by intro X hP hw hK hc i pins s Z H E I hf st hg;subst hP hw hK;obtain⟨f0,f1,f2,f3,f4,f5⟩:=hf it (by simp);exact wpAny_pyNext_range_end (I.ok.hd hc) st (by have:n<=i:=hg;lia) λh' eb=>⟨rfl,I.turned (t':=s.toks) (λb o hb e=>eb b o hb e) f0 f1 f3 f4 f5⟩
 self:=λ_ _ _ _ _ st h=>wpAny_pyIter_rangeiter st h
section
variable{X:Cx}{tg:Expr}
inductive YG(K:Frag)(R:It->Hp->Prop)(x:V)(H1:Hp):Prop
 |mk a (_:x=.ref a) (_:(∃xs,bp K H1 a xs)) (_:R (Lk K a) H1)
def aba(K:Frag)(tl:TE):TI:=λZ H R=>tl Z H λx H1=>YG K R x H1
inductive aa7(K:Frag)(R:It->Hp->Prop)(x:V)(H1:Hp):Prop
 |mk a (_:x=.ref a) (_:(∃xs,bE K H1 a xs)) (_:R (Li K a) H1)
def ab8(K:Frag)(tl:TE):TI:=λZ H R=>tl Z H λx H1=>aa7 K R x H1
def gq(hl:PE X l tl):PI X tg l (aba X.K tl):=by
 intro pins s Z H R I h;refine cV (hl pins s Z H _ I h) λv s1 x H1 I1 r1 q1=>?_;obtain⟨a,e,⟨xs,hq⟩,q⟩:=q1;subst e;cases r1;obtain⟨aY,rv,p,hz⟩:=I1.list hq;refine ko p.isList ?_;refine⟨s1.heap.objs.size,[s1.heap.objs.size],_,_,H1,rfl,I1.kept (t':=s1.toks) λb o e=>af _ e,Na a _,⟨_,aG _ rfl,rfl,rfl⟩,λb hb=>?_,q⟩;have e:b=s1.heap.objs.size:=by simpa using hb
 subst e;exact I1.pT (ak _) (I1.bw.fresh (ak _))
def mG(hl:PE X l tl):PI X tg l (ab8 X.K tl):=by
 intro pins s Z H R I h;refine cV (hl pins s Z H _ I h) λv s1 x H1 I1 r1 q1=>?_;obtain⟨a,e,⟨xs,hq⟩,q⟩:=q1;subst e;cases r1;obtain⟨aY,rv,p,hz⟩:=I1.tuple hq;refine rA (show s1.heap.IsTuple a aY.toArray from p) ?_;refine⟨s1.heap.objs.size,[s1.heap.objs.size],_,_,H1,rfl,I1.kept (t':=s1.toks) λb o e=>af _ e,Ll a _,⟨_,aG _ rfl,rfl,rfl⟩,λb hb=>?_,q⟩;have e:b=s1.heap.objs.size:=by simpa using hb
 subst e;exact I1.pT (ak _) (I1.bw.fresh (ak _))
def QO{lo hi:Int}(I:Inv X pins Z H s)(h1:-(2^62)<=lo)(h2:lo<2^62)(h3:-(2^62)<=hi)(h4:hi<2^62)
  (q:R (Lj lo (hi -lo).toNat) H):wpAny (model X.prog X.w) X.A (pyIter (.ref s.heap.objs.size)) (PIE X pins Z tg R) E {s with heap:=s.heap.push {cls:=.type "range",data:=.fields #[.int lo t,.int hi u,.int 1 v]},toks:=tk}:=by
 refine wpAny_pyIter_range (IsRange.new ..) (small_one h1 h2 h3 h4) ?_;have I1:Inv X pins Z H {s with heap:=s.heap.push {cls:=.type "range",data:=.fields #[.int lo t,.int hi u,.int 1 v]},toks:=tk}:=I.kept λb o e=>af _ e;refine⟨(s.heap.push {cls:=.type "range",data:=.fields #[.int lo t,.int hi u,.int 1 v]}).objs.size,[(s.heap.push {cls:=.type "range",data:=.fields #[.int lo t,.int hi u,.int 1 v]}).objs.size],_,_,H,rfl,
  I1.kept (t':=tk) λb o e=>af _ e,Lm _ lo (hi -lo).toNat,?_,λb hb=>?_,q⟩
 ·have e1:lo+((0:Nat):Int)*1=lo:=by simp
  have e2:(((hi -lo).toNat:Nat):Int) -((0:Nat):Int)=Builtin.Range.rangeSize lo hi 1:=by rw[rangeSize_one];split<;>lia
  show IsRangeIter _ _ (lo+((0:Nat):Int)*1) ((((hi -lo).toNat:Nat):Int) -((0:Nat):Int)) 1;rw[e1,e2];exact aG _ rfl
 ·have e:b=(s.heap.push {cls:=.type "range",data:=.fields #[.int lo t,.int hi u,.int 1 v]}).objs.size:=by simpa using hb
  subst e;exact I1.pT (ak _) (I1.bw.fresh (ak _))
inductive YF(R:It->Hp->Prop)(vs:List V)(H1:Hp):Prop
 |mk (j:Int) (_:vs=[.int j]) (_:-(2^62)<=j) (_:j<2^62) (_:R (Lj 0 j.toNat) H1)
def aa9(ta:TA):TI:=λZ H R=>ta Z H λvs H1=>YF R vs H1
def jV(hg:Gl X "range")(hm:X.mg "range"=none)(ha:PA X [a] ta)(hs:starEach [a] X.env=[(false,eval a X.env)]:=by rfl):PI X tg (.Call (.Name "range" p) [a] [] pos) (aa9 ta):=by
 intro pins s Z H R I h;refine D5 (pK I hg hm boot_range (dC (pA (ha pos pins s Z H _ I h) λus s1 vs H1 I1 r1 q1=>?_) hs rfl));obtain⟨j,e,q1,q2,q⟩:=q1;subst e;cases r1 with
 |cons r rr=>
  cases rr;obtain⟨t,rfl⟩:=r;exact call_range_1 (QO I1 (by lia) (by lia) q1 q2 (by simpa using q))
def abH(wi:TI)(g:TG)(tb:TS):TS:=λD Z H=>wi Z H λJ H1=>∃W:Nat->Nat->St->Hp->Prop,(∃m,W 0 m Z H1)/\∀i m Z H,W i m Z H->
 (J.stop i H/\D.nx Z H)\/(J.go i H/\∃N:St->Hp->Prop,(∀σ' H',N σ' H'->∃m',m'<m/\W (i+1) m' σ' H')/\∀x H',J.yA i H x H'->g x Z H' λσ2 H2=>tb {D with nx:=N,ct:=N,bk:=D.nx} σ2 H2)
def zy(fp:List Addr)(h:Heap):List (Addr×Obj):=fp.filterMap λb=>(h.get? b).map λo=>(b,o)
def tK(hb:b∈fp)(e:h.get? b=some o):(b,o)∈zy fp h:=rZ.mpr ⟨b,hb,by rw[e];rfl⟩
def N9(hp:p∈zy fp h):p.1∈fp/\h.get? p.1=some p.2:=by
 obtain⟨b,hb,e⟩:=rZ.mp hp;cases q:h.get? b with
 |none=>rw[q]at e;cases e
 |some o=>
  rw[q]at e;have e':(b,o)=p:=bL e;subst e';exact⟨hb,q⟩
def Inv.pinned(I:Inv X pins Z H s)(hf:∀b∈fp,oZ X pins H b)(ho:∀b∈fp,∃o,s.heap.get? b=some o/\∀v,o.data≠ .cell v):Inv X (pins++zy fp s.heap) Z H s:=
 I.wy λp hp=>(bf.mp hp).elim (λz=>I.pin p (bN _ z)) λz=>by obtain⟨hb,e⟩:=N9 z;obtain⟨f0,f1,f2,_⟩:=hf p.1 hb;obtain⟨o,e',d⟩:=ho p.1 hb;rw[e]at e';cases e';exact⟨e,f0,f1,f2,d⟩
def Inv.xl(I:Inv X (pins++pl) Z H s):Inv X pins Z H s:=I.wy λp hp=>I.pin p (bN _ (cX _ hp))
def eJ(hp:PassesOwn (model X.prog X.w) X.A X.env X.xe)(hc:X.calm=true)(hi:PI X tg iter wi)(hg:PG X tg g)(hb:kU X body tb)
  (hs:∀x,foldedSetIterable iter X.env x=pure x:=by intro _;rfl):PS X (.For tg iter body [] pos) (abH wi g tb):=by
 intro pins s Z H D I h;refine wpAny_For (hE (hi pins s Z H _ I h) λv s1 h1=>hE h1 λYz s2 h2=>?_) hs;obtain⟨it,fp,tn,J,H2,e,I2,T,o9,f2,W,⟨m0,w0⟩,turn⟩:=h2;subst e;have QG:∀{H':Hp},(∀b∈fp,H' b=none)->∀b∈fp,oZ X pins H' b:=λhn b hb=>⟨hn b hb,(f2 b hb).2⟩;refine codeAny_forLoop_any (λn s'=>∃i σ' H',Inv X pins σ' H' s'/\tn i s'.heap/\(∀b∈fp,H' b=none)/\W i n σ' H') ?_ m0 ⟨0,Z,H2,I2,o9,λb hb=>(f2 b hb).1,w0⟩;rintro n s3 ⟨i,σ3,H3,I3,sP,fr3,w3⟩;rcases turn i n σ3 H3 w3 with⟨stop,qn⟩|⟨go,N,hN,step⟩
 ·refine iE hp (hE (T.done X rfl rfl rfl hc i pins s3 σ3 H3 X.xe I3 (QG fr3) sP stop) λr s4 hz4=>?_);obtain⟨hr,I4⟩:=hz4;subst hr;exact pz ⟨σ3,H3,I4,qn⟩
 ·refine iE hp (hE (T.item X rfl rfl rfl hc i pins s3 σ3 H3 X.xe I3 (QG fr3) sP go) λr s4 hz5=>?_);obtain⟨u,hr,h4⟩:=hz5;subst hr;refine iE hp (hE h4 λ_ s5 Bs=>?_);obtain⟨x,H5,I5,r5,y5,nN,fr5⟩:=Bs;have I5':=I5.pinned (QG fr5) (T.obj _ _ nN);refine iE hp (hE (hg _ s5 σ3 H5 x u _ I5' r5 (step x H5 y5)) λ_ s6 TK=>?_);obtain⟨σ6,H6,I6,q6⟩:=TK;refine iE hp (hE (hb _ s6 σ6 H6 _ I6 q6) λf s7 q7=>?_);have again:∀{σ7:St}{H7:Hp},Inv X (pins++zy fp s5.heap) σ7 H7 s7->N σ7 H7->∃m,m<n/\∃i σ' H',Inv X pins σ' H' s7/\tn i s7.heap/\(∀b∈fp,H' b=none)/\W i m σ' H':=λ{σ7 H7} I7 n7=>by obtain⟨m',hm,w7⟩:=hN σ7 H7 n7;refine⟨m',hm,i+1,σ7,H7,I7.xl,T.keep _ _ _ nN λb hb o e=>(I7.pin (b,o) (bN _ (bN _ (tK hb e)))).1,λb hb=>?_,w7⟩;obtain⟨o,e,d⟩:=T.obj _ _ nN b hb;exact(I7.pin (b,o) (bN _ (bN _ (tK hb e)))).2.1
  cases f with
  |next=>obtain⟨σ7,H7,I7,n7⟩:=q7;exact again I7 n7
  |cont=>obtain⟨σ7,H7,I7,n7⟩:=q7;exact again I7 n7
  |brk=>obtain⟨σ7,H7,I7,q7⟩:=q7;exact⟨σ7,H7,I7.xl,q7⟩
  |ret v=>obtain⟨x7,σ7,H7,I7,r7,q7⟩:=q7;exact⟨x7,σ7,H7,I7.xl,r7,q7⟩
def mM{K:Frag}{g:TG}{tb:TS}{D:Ends}(Pv:Nat->St->Hp->Prop)(h0:Pv 0 Z H)(hl:∀i Z H,i<=xs.length->Pv i Z H->bp K H a xs)
  (hs:∀i x Z H,xs[i]?=some x->Pv i Z H->g x Z H λσ2 H2=>tb {D with nx:=Pv (i+1),ct:=Pv (i+1),bk:=D.nx} σ2 H2) (hd:∀Z H,Pv xs.length Z H->D.nx Z H):
  ∃W:Nat->Nat->St->Hp->Prop,(∃m,W 0 m Z H)/\∀i m Z H,W i m Z H->
   ((Lk K a).stop i H/\D.nx Z H)\/((Lk K a).go i H/\∃N:St->Hp->Prop,(∀σ' H',N σ' H'->∃m',m'<m/\W (i+1) m' σ' H')/\∀x H',(Lk K a).yA i H x H'->g x Z H' λσ2 H2=>tb {D with nx:=N,ct:=N,bk:=D.nx} σ2 H2):=by
 refine⟨λi m Z H=>m=xs.length -i/\i<=xs.length/\Pv i Z H,⟨xs.length,by simp,aO _,h0⟩,?_⟩;rintro i m Z H ⟨rfl,hi,p⟩;have q:=hl i Z H hi p;by_cases bQ:i<xs.length
 ·refine .inr ⟨⟨xs,xs[i],q,by simp[bQ]⟩,Pv (i+1),λσ' H' p'=>⟨xs.length -(i+1),by lia,rfl,bQ,p'⟩,λx H' y=>?_⟩;obtain⟨e,y⟩:=y;subst e;exact hs i x Z _ (y xs q) p
 ·have e:i=xs.length:=by lia
  subst e;exact .inl ⟨⟨xs,q,ak _⟩,hd Z H p⟩
def AR{K:Frag}{g:TG}{tb:TS}{D:Ends}(Pv:Nat->St->Hp->Prop)(h0:Pv 0 Z H)(hl:∀i Z H,i<=xs.length->Pv i Z H->bE K H a xs)
  (hs:∀i x Z H,xs[i]?=some x->Pv i Z H->g x Z H λσ2 H2=>tb {D with nx:=Pv (i+1),ct:=Pv (i+1),bk:=D.nx} σ2 H2) (hd:∀Z H,Pv xs.length Z H->D.nx Z H):
  ∃W:Nat->Nat->St->Hp->Prop,(∃m,W 0 m Z H)/\∀i m Z H,W i m Z H->
   ((Li K a).stop i H/\D.nx Z H)\/((Li K a).go i H/\∃N:St->Hp->Prop,(∀σ' H',N σ' H'->∃m',m'<m/\W (i+1) m' σ' H')/\∀x H',(Li K a).yA i H x H'->g x Z H' λσ2 H2=>tb {D with nx:=N,ct:=N,bk:=D.nx} σ2 H2):=by
 refine⟨λi m Z H=>m=xs.length -i/\i<=xs.length/\Pv i Z H,⟨xs.length,by simp,aO _,h0⟩,?_⟩;rintro i m Z H ⟨rfl,hi,p⟩;have q:=hl i Z H hi p;by_cases bQ:i<xs.length
 ·refine .inr ⟨⟨xs,xs[i],q,by simp[bQ]⟩,Pv (i+1),λσ' H' p'=>⟨xs.length -(i+1),by lia,rfl,bQ,p'⟩,λx H' y=>?_⟩;obtain⟨e,y⟩:=y;subst e;exact hs i x Z _ (y xs q) p
 ·have e:i=xs.length:=by lia
  subst e;exact .inl ⟨⟨xs,q,ak _⟩,hd Z H p⟩
def mL{lo:Int}{g:TG}{tb:TS}{D:Ends}(Pv:Nat->St->Hp->Prop)(h0:Pv 0 Z H)
  (hs:∀i Z H,i<n->Pv i Z H->g (.int (lo+i)) Z H λσ2 H2=>tb {D with nx:=Pv (i+1),ct:=Pv (i+1),bk:=D.nx} σ2 H2) (hd:∀Z H,Pv n Z H->D.nx Z H):
  ∃W:Nat->Nat->St->Hp->Prop,(∃m,W 0 m Z H)/\∀i m Z H,W i m Z H->
   ((Lj lo n).stop i H/\D.nx Z H)\/((Lj lo n).go i H/\∃N:St->Hp->Prop,(∀σ' H',N σ' H'->∃m',m'<m/\W (i+1) m' σ' H')/\∀x H',(Lj lo n).yA i H x H'->g x Z H' λσ2 H2=>tb {D with nx:=N,ct:=N,bk:=D.nx} σ2 H2):=by
 refine⟨λi m Z H=>m=n -i/\i<=n/\Pv i Z H,⟨n,by simp,aO _,h0⟩,?_⟩;rintro i m Z H ⟨rfl,hi,p⟩;by_cases bQ:i<n
 ·refine .inr ⟨bQ,Pv (i+1),λσ' H' p'=>⟨n -(i+1),by lia,rfl,bQ,p'⟩,λx H' y=>?_⟩;obtain⟨e,y⟩:=y;subst e y;exact hs i Z _ bQ p
 ·have e:i=n:=by lia
  subst e;exact .inl ⟨ak _,hd Z H p⟩
abbrev R2:=V->V->Hp->VK->Prop
end
def jr(X:Cx)(f:Value->Value->Sem Value)(r:R2):Prop:=
 ∀(pins:List (Addr×Obj))(s:Shared)(Z:St)(H:Hp)(x y:V)(v u:Value)(Q:VK),Inv X pins Z H s->RelV x v->RelV y u->r x y H Q->
  wpAny (model X.prog X.w) X.A (f v u) (EP X pins Z Q) X.xe s
def iu(X:Cx)(f:Value)(r:List V->Hp->VK->Prop):Prop:=
 ∀(pins:List (Addr×Obj))(s:Shared)(Z:St)(H:Hp)(xs:List V)(us:List Value)(Q:VK),Inv X pins Z H s->Vals xs us->r xs H Q->
  wpAny (model X.prog X.w) X.A (call f us) (EP X pins Z Q) X.xe s
def adm(X:Cx)(r:V->Hp->(Bool->Hp->Prop)->Prop):Prop:=
 ∀(pins:List (Addr×Obj))(s:Shared)(Z:St)(H:Hp)(x:V)(v:Value)(Q:Bool->Hp->Prop),Inv X pins Z H s->RelV x v->r x H Q->
  wpAny (model X.prog X.w) X.A (truthy v) (TP X pins Z Q) X.xe s
def SO(r:R2)(ta tb:TE):TE:=λZ H Q=>ta Z H λx H1=>tb Z H1 λy H2=>r x y H2 Q
inductive rI(C:Int->Int->Prop)(g:Int->Int->V)(x:V)(y:V)(H:Hp)(Q:VK):Prop
 |mk i j (_:x=.int i) (_:y=.int j) (_:C i j) (_:Q (g i j) H)
inductive Kf(g:Int->Int->V)(x:V)(y:V)(H:Hp)(Q:VK):Prop
 |mk i j (_:x=.int i) (_:y=.int j) (_:Q (g i j) H)
section
variable{X:Cx}{a b:Expr}{ta tb:TE}{pos:Pos}
def Sn(ha:PE X a ta)(hb:PE X b tb){R:V->V->Hp->Prop}(I:Inv X pins Z H s)
  (h:ta Z H λx H1=>tb Z H1 λy H2=>R x y H2) {f:Value->Value->Sem Value}
  (hf:∀v u s2 x y H2,Inv X pins Z H2 s2->RelV x v->RelV y u->R x y H2->wpAny (model X.prog X.w) X.A (f v u) Q X.xe s2):
  wpAny (model X.prog X.w) X.A (eval a X.env) (λv aaa=>wpAny (model X.prog X.w) X.A (eval b X.env) (λu aae=>wpAny (model X.prog X.w) X.A (f v u) Q X.xe aae) X.xe aaa) X.xe s:=by
 refine cV (ha pins s Z H _ I h) λv s1 x H1 I1 r1 q1=>?_;refine cV (hb pins s1 Z H1 _ I1 q1) λu s2 y H2 I2 r2 q2=>?_;exact hf v u s2 x y H2 I2 r1 r2 q2
def d7(ho:jr X (binaryOp op) r)(ha:PE X a ta)(hb:PE X b tb):PE X (.BinOp a op b pos) (SO r ta tb):=by intro pins s Z H Q I h;exact wpAny_BinOp (Sn ha hb I h λv u s2 x y H2 I2 rx ry q=>ho pins s2 Z H2 x y v u Q I2 rx ry q)
def N3{g:Int->Int->Int}
  (rule:∀(i j:Int)(t u:Tok)(s:Shared)(Q:Value->Shared->Prop)(E:Value->Shared->Prop),C i j->Q (.int (g i j) s.toks) {s with toks:=s.toks+1}->wpAny (model X.prog X.w) X.A (f (.int i t) (.int j u)) Q E s):
  jr X f (rI C λi j=>.int (g i j)):=by
 intro pins s Z H x y v u Q I rx ry h;obtain⟨i,j,rfl,rfl,hc,q⟩:=h;obtain⟨t,rfl⟩:=rx;obtain⟨t',rfl⟩:=ry;exact rule i j t t' s _ _ hc ⟨.int (g i j),H,I.tok _,⟨_,rfl⟩,q⟩
def abT{g:Int->Int->Int}
  (rule:∀(i j:Int)(t u:Tok)(s:Shared)(Q:Value->Shared->Prop)(E:Value->Shared->Prop),Q (.int (g i j) s.toks) {s with toks:=s.toks+1}->wpAny (model X.prog X.w) X.A (f (.int i t) (.int j u)) Q E s):
  jr X f (Kf λi j=>.int (g i j)):=by
 intro pins s Z H x y v u Q I rx ry h;obtain⟨i,j,rfl,rfl,q⟩:=h;obtain⟨t,rfl⟩:=rx;obtain⟨t',rfl⟩:=ry;exact rule i j t t' s _ _ ⟨.int (g i j),H,I.tok _,⟨_,rfl⟩,q⟩
def Q2{g:Int->Int->Bool}
  (rule:∀(i j:Int)(t u:Tok)(s:Shared)(Q:Value->Shared->Prop)(E:Value->Shared->Prop),Q (.bool (g i j)) s->wpAny (model X.prog X.w) X.A (f (.int i t) (.int j u)) Q E s):
  jr X f (Kf λi j=>.bl (g i j)):=by
 intro pins s Z H x y v u Q I rx ry h;obtain⟨i,j,rfl,rfl,q⟩:=h;obtain⟨t,rfl⟩:=rx;obtain⟨t',rfl⟩:=ry;exact rule i j t t' s _ _ ⟨.bl (g i j),H,I,rfl,q⟩
def adp(i j:Int):Prop:=0<j/\j<1073741824
def ado(i j:Int):Prop:=0<=j/\j<=1000000/\i.natAbs<2^64
def Su(i j:Int):Prop:=(-(2^64)<i/\i<2^64)\/(-(2^64)<j/\j<2^64)
def Su.ok(h:Su i j):IntMulOk i j:=by
 rcases h with⟨h1,h2⟩|⟨h1,h2⟩
 ·exact .of_left (intBits_le_64 h1 h2)
 ·exact .of_right (intBits_le_64 h1 h2)
def jW:jr X (binaryOp .Add) (Kf λi j=>.int (i+j)):=abT λ_ _ _ _ _ _ _ q=>add_int q
def C5:jr X (binaryOp .Mult) (rI Su λi j=>.int (i*j)):=N3 λ_ _ _ _ _ _ _ hc q=>mul_int q hc.ok
def VF:jr X (binaryOp .FloorDiv) (rI adp λi j=>.int (i/j)):=N3 λi j _ _ _ _ _ hc q=>by have h1:(0:Int)<j:=hc.1;have h2:j<1073741824:=hc.2;exact floordiv_int (by lia) (by rw[sJ i (by lia)];exact q) (.inl (PyProof.noPylong_small (by lia)))
def rG:jr X (binaryOp .Mod) (rI (λ_ j=>0<j) λi j=>.int (i % j)):=N3 λi j _ _ _ _ _ hc q=>by have h1:(0:Int)<j:=hc;exact mod_int' (by lia) (by rw[Int.fmod_eq_emod_of_nonneg i (by lia)];exact q)
def XN:jr X (binaryOp .Pow) (rI ado λi j=>.int (i^j.toNat)):=N3 λ_ _ _ _ _ _ _ hc q=>pow_int_small hc.1 hc.2.1 hc.2.2 q
def Xn:V->V->Bool
 | .cb,.cb=>true| .cb,.int _=>true| .int _,.cb=>true| .cb,.bl _=>true| .bl _,.cb=>true| .cb,.str _=>true| .str _,.cb=>true
 | .int _,.int _=>true| .bl _,.bl _=>true| .str _,.str _=>true| .sW _,.sW _=>true
 | .int _,.str _=>true| .str _,.int _=>true| .bl _,.str _=>true| .str _,.bl _=>true
 |_,_=>false
def rEq:R2:=λx y H Q=>Xn x y=true/\Q (.bl (decide (x=y))) H
def rNe:R2:=λx y H Q=>Xn x y=true/\Q (.bl (!decide (x=y))) H
def K7:decide (V.int i=V.int j)=(i==j):=by rw[gY];simp
def PQ:decide (V.bl i=V.bl j)=(i==j):=by rw[gY];simp
def K6:decide (V.str i=V.str j)=(i==j):=by rw[gY];simp
def K8:decide (V.sW i=V.sW j)=(i.toList==j.toList):=by rw[gY];cases i;cases j;simp
variable{c:Expr}{tc:TE}
def dq(I:Inv X pins Z H s)(q:Q (.bl k) H)(e:k=k'):EP X pins Z Q (.bool k') s:=by subst e;exact⟨.bl k,H,I,rfl,q⟩
def xG:jr X (compareOp .Eq) rEq:=by
 intro pins s Z H x y v u Q I rx ry h;obtain⟨hs,q⟩:=h;cases x with
 |cb=>
  cases rx;cases y with
  |cb=>cases ry;exact PySem.EqNone.eq_none_none (dq I q (by simp))
  |bl j=>cases ry;exact PySem.EqNone.eq_none_bool (dq I q (by simp))
  |int j=>obtain⟨t',rfl⟩:=ry;exact PySem.EqNone.eq_none_int (dq I q (by simp))
  |str j=>obtain⟨t',rfl⟩:=ry;exact PySem.EqNone.eq_none_str (dq I q (by simp))
  |_=>exact absurd (show false=true from hs) aT
 |bl i=>
  cases rx;cases y with
  |cb=>cases ry;exact PySem.EqNone.eq_bool_none (dq I q (by simp))
  |bl j=>cases ry;exact eq_bool (dq I q PQ)
  |str j=>obtain⟨t',rfl⟩:=ry;exact PySem.EqMixed.eq_bool_str (dq I q (by simp))
  |_=>exact absurd (show false=true from hs) aT
 |int i=>
  obtain⟨t,rfl⟩:=rx;cases y with
  |cb=>cases ry;exact PySem.EqNone.eq_int_none (dq I q (by simp))
  |int j=>obtain⟨t',rfl⟩:=ry;exact eq_int (dq I q K7)
  |str j=>obtain⟨t',rfl⟩:=ry;exact PySem.EqMixed.eq_int_str (dq I q (by simp))
  |_=>exact absurd (show false=true from hs) aT
 |str i=>
  obtain⟨t,rfl⟩:=rx;cases y with
  |cb=>cases ry;exact PySem.EqNone.eq_str_none (dq I q (by simp))
  |bl j=>cases ry;exact PySem.EqMixed.eq_str_bool (dq I q (by simp))
  |int j=>obtain⟨t',rfl⟩:=ry;exact PySem.EqMixed.eq_str_int (dq I q (by simp))
  |str j=>obtain⟨t',rfl⟩:=ry;exact eq_str (dq I q K6)
  |_=>exact absurd (show false=true from hs) aT
 |sW i=>
  obtain⟨t,rfl⟩:=rx;cases y with
  |sW j=>obtain⟨t',rfl⟩:=ry;exact PySem.W.eq_bytes (dq I q K8)
  |_=>exact absurd (show false=true from hs) aT
 |_=>cases y<;>exact absurd (show false=true from hs) aT
def aaW:jr X (compareOp .NotEq) rNe:=by
 intro pins s Z H x y v u Q I rx ry h;obtain⟨hs,q⟩:=h;cases x with
 |cb=>
  cases rx;cases y with
  |cb=>cases ry;exact PySem.EqNone.ne_none_none (dq I q (by simp))
  |bl j=>cases ry;exact PySem.EqNone.ne_none_bool (dq I q (by simp))
  |int j=>obtain⟨t',rfl⟩:=ry;exact PySem.EqNone.ne_none_int (dq I q (by simp))
  |str j=>obtain⟨t',rfl⟩:=ry;exact PySem.EqNone.ne_none_str (dq I q (by simp))
  |_=>exact absurd (show false=true from hs) aT
 |bl i=>
  cases rx;cases y with
  |cb=>cases ry;exact PySem.EqNone.ne_bool_none (dq I q (by simp))
  |bl j=>cases ry;exact ne_bool (dq I q (cA not PQ))
  |str j=>obtain⟨t',rfl⟩:=ry;exact PySem.EqMixed.ne_bool_str (dq I q (by simp))
  |_=>exact absurd (show false=true from hs) aT
 |int i=>
  obtain⟨t,rfl⟩:=rx;cases y with
  |cb=>cases ry;exact PySem.EqNone.ne_int_none (dq I q (by simp))
  |int j=>obtain⟨t',rfl⟩:=ry;exact ne_int (dq I q (cA not K7))
  |str j=>obtain⟨t',rfl⟩:=ry;exact PySem.EqMixed.ne_int_str (dq I q (by simp))
  |_=>exact absurd (show false=true from hs) aT
 |str i=>
  obtain⟨t,rfl⟩:=rx;cases y with
  |cb=>cases ry;exact PySem.EqNone.ne_str_none (dq I q (by simp))
  |bl j=>cases ry;exact PySem.EqMixed.ne_str_bool (dq I q (by simp))
  |int j=>obtain⟨t',rfl⟩:=ry;exact PySem.EqMixed.ne_str_int (dq I q (by simp))
  |str j=>obtain⟨t',rfl⟩:=ry;exact ne_str (dq I q (cA not K6))
  |_=>exact absurd (show false=true from hs) aT
 |sW i=>
  obtain⟨t,rfl⟩:=rx;cases y with
  |sW j=>obtain⟨t',rfl⟩:=ry;exact PySem.W.ne_bytes (dq I q (cA not K8))
  |_=>exact absurd (show false=true from hs) aT
 |_=>cases y<;>exact absurd (show false=true from hs) aT
def LK:jr X (compareOp .Lt) (Kf λi j=>.bl (decide (i<j))):=Q2 λ_ _ _ _ _ _ _ q=>lt_int q
def LL:jr X (compareOp .LtE) (Kf λi j=>.bl (decide (i<=j))):=Q2 λ_ _ _ _ _ _ _ q=>le_int q
def F5:jr X (compareOp .Gt) (Kf λi j=>.bl (decide (j<i))):=Q2 λ_ _ _ _ _ _ _ q=>gt_int q
def N0:jr X (compareOp .In) (λx y H Q=>∃i j,x=.str i/\y=.str j/\Q (.bl (!(Builtin.Str.occurrences j i 0 j.length 1).isEmpty)) H):=by intro pins s Z H x y v u Q I rx ry h;obtain⟨i,j,rfl,rfl,q⟩:=h;obtain⟨t,rfl⟩:=rx;obtain⟨t',rfl⟩:=ry;exact in_str (dq I q rfl)
def XR:jr X (compareOp .Is) (λx y H Q=>y=.cb/\Q (.bl (decide (x=.cb))) H):=by
 intro pins s Z H x y v u Q I rx ry h;obtain⟨rfl,q⟩:=h;cases ry;refine is_none_gen (dq I q ?_);cases x<;>first
  |(cases rx;rfl)
  |(obtain⟨t,rfl⟩:=rx;rfl)
def fN(b:Expr)(h:op≠ .In:=by decide)(h2:op≠ .NotIn:=by decide):behindInMarks op b=false:=by
 have e1:(op==CmpOp.In)=false:=by cases op<;>first|rfl|exact absurd rfl h
 have e2:(op==CmpOp.NotIn)=false:=by cases op<;>first|rfl|exact absurd rfl h2
 cases b<;>simp[behindInMarks,e1,e2]
def Kn(ho:jr X (compareOp op) r)(ha:PE X a ta)(hb:PE X b tb)(hm:behindInMarks op b=false):PE X (.Compare a [op] [b] pos) (SO r ta tb):=by intro pins s Z H Q I h;exact wpAny_Compare1 (Sn ha hb I h λv u s2 x y H2 I2 rx ry q=>ho pins s2 Z H2 x y v u Q I2 rx ry q) hm
inductive Xb(Q:Bool->Hp->Prop)(x:V)(H':Hp):Prop
 |mk k (_:x=.bl k) (_:Q k H')
def aaG(t:TE):TT:=λZ H Q=>t Z H λx H'=>Xb Q x H'
def dj(ho:jr X (compareOp op) r)(ha:PE X a ta)(hb:PE X b tb)(hm:behindInMarks op b=false):PT X (.Compare a [op] [b] pos) (aaG (SO r ta tb)):=by intro pins s Z H Q I h;refine wb (cV (ha pins s Z H _ I h) λv s1 x H1 I1 r1 q1=>cV (hb pins s1 Z H1 _ I1 q1) λu s2 y H2 I2 r2 q2=>hE (ho pins s2 Z H2 x y v u _ I2 r1 r2 q2) λc s3 zP=>?_) hm;obtain⟨z,H3,I3,r3,k,e,q3⟩:=zP;subst e;cases r3;exact gZ ⟨H3,I3,q3⟩
def Xi(r r':R2)(ta tb tc:TE):TE:=λZ H Q=>ta Z H λx H1=>tb Z H1 λy H2=>r x y H2 λz H3=>∃k,z=.bl k/\
 (if k=true then tc Z H3 λw' H4=>r' y w' H4 Q else Q (.bl false) H3)
def QZ(ho:jr X (compareOp op) r)(qt:jr X (compareOp op') r')(ha:PE X a ta)(hb:PE X b tb)(hc:PE X c tc)
  (hm:lastMarks [op,op'] [b,c]=false:=by with_unfolding_all rfl):PE X (.Compare a [op,op'] [b,c] pos) (Xi r r' ta tb tc):=by
 intro pins s Z H Q I h;refine Compare_chain (cV (ha pins s Z H _ I h) λv s1 x H1 I1 r1 q1=>chain_link (cV (hb pins s1 Z H1 _ I1 q1) λu s2 y H2 I2 r2 q2=>hE (ho pins s2 Z H2 x y v u _ I2 r1 r2 q2) λd s3 sR=>?_)) hm;obtain⟨z,H3,I3,r3,k,e,q3⟩:=sR;subst e;cases r3;refine gZ ?_;cases k with
 |false=>exact ite_ff ⟨.bl false,H3,I3,rfl,q3⟩
 |true=>exact ite_tt (chain_last (hE (hc pins s3 Z H3 _ I3 q3) λw' s4 ⟨z',H4,I4,r4,q4⟩=>qt pins s4 Z H4 y z' u w' Q I4 r2 r4 q4))
def aas(K:Frag)(x:V)(H:Hp)(k:Bool):Prop:=
 match x with
 | .cb=>k=false
 | .bl b=>k=b
 | .int i=>k=(i !=0)
 | .str y=>y.length<=sizeLine/\k=((y.length:Int) !=0)
 | .sW y=>y.size<=sizeLine/\k=((y.size:Int) !=0)
 | .ref p=>(∃xs,bp K H p xs/\k=!xs.isEmpty)\/(∃xs,bE K H p xs/\k=!xs.isEmpty)\/∃kvs,H p=some (.dK kvs)/\k=!kvs.isEmpty
 |_=>False
def LY(r:KV kvs vs):(!vs.isEmpty)=!kvs.isEmpty:=by cases r<;>rfl
def Df(r:Vals xs aY):(!aY.toArray.isEmpty)=!xs.isEmpty:=by cases r<;>simp
def wD:(sizeLine:Nat)<2^63:=by rw[cv];decide
def W3:adm X (λx H Q=>∃k,aas X.K x H k/\Q k H):=by
 intro pins s Z H x v Q I rx h;obtain⟨k,e,q⟩:=h;have hl:=wD;have hs:sizeLine=16777216:=cv;cases x with
 |cb=>
  cases rx;have e':k=false:=e;subst e';exact truthy_none ⟨H,I,q⟩
 |bl b=>
  cases rx;have e':k=b:=e;subst e';exact gZ ⟨H,I,q⟩
 |int i=>
  obtain⟨t,rfl⟩:=rx;have e':k=(i !=0):=e;subst e';exact PySem.P.truthy_int ⟨H,I,q⟩
 |str y=>
  obtain⟨t,rfl⟩:=rx;obtain⟨hy,e'⟩:y.length<=sizeLine/\k=((y.length:Int) !=0):=e;subst e';exact PySem.P.truthy_str (by lia) ⟨H,I.tok _,q⟩
 |sW y=>
  obtain⟨t,rfl⟩:=rx;obtain⟨hy,e'⟩:y.size<=sizeLine/\k=((y.size:Int) !=0):=e;subst e';exact PySem.W.truthy_bytes (by lia) ⟨H,I.tok _,q⟩
 |ref p=>
  cases rx;have e':(∃xs,bp X.K H p xs/\k=!xs.isEmpty)\/(∃xs,bE X.K H p xs/\k=!xs.isEmpty)\/∃kvs,H p=some (.dK kvs)/\k=!kvs.isEmpty:=e;rcases e' with⟨xs,hx,e'⟩|⟨xs,hx,e'⟩|⟨kvs,hx,e'⟩
  ·subst e';obtain⟨aY,r,pl,hz⟩:=I.list hx;have hlen:=r.length;exact wpAny_truthy_list pl.isList (by simp only[aN];lia) ⟨H,I.tok _,by rw[Df r];exact q⟩
  ·subst e';obtain⟨aY,r,pl,hz⟩:=I.tuple hx;have hlen:=r.length;exact truthy_tuple pl (by simp only[aN];lia) ⟨H,I.tok _,by rw[Df r];exact q⟩
  ·subst e';obtain⟨hz,hS,vs,r,m⟩:kvs.length<=sizeLine/\(p==sysModules)=false/\∃vs,KV kvs vs/\s.heap.DictOf (bA X.prog X.w) p vs:=I.bw p _ hx;have hlen:kvs.length=vs.length:=bB r;exact wpAny_truthy_dict hS m (by lia) ⟨H,I.tok _,by rw[LY r];exact q⟩
 |_=>exact(show False from e).elim
def QS(ha:PE X a ta)(he:∀whole,isTrue a X.env whole=(do let v<-whole;standAt a.pos;holding [v] (truthy v))):
  PT X a (λZ H Q=>ta Z H λx H'=>∃k,aas X.K x H' k/\Q k H'):=by
 intro pins s Z H Q I h;exact isTrue_plain (cV (ha pins s Z H _ I h) λv s1 x H1 I1 r1 q1=>W3 pins s1 Z H1 x v Q I1 r1 q1) (he _)
def kr(r:Vals [x] us):∃u,us=[u]/\RelV x u:=by
 cases r with
 |cons r1 r2=>cases r2;exact⟨_,rfl,r1⟩
def vals2(r:Vals [x,y] us):∃u w',us=[u,w']/\RelV x u/\RelV y w':=by
 cases r with
 |cons r1 r2=>
  cases r2 with
  |cons r3 r4=>cases r4;exact⟨_,_,rfl,r1,r3⟩
def Sm:iu X (.builtin "abs") (λxs H Q=>∃i,xs=[.int i]/\Q (.int (if i<0 then -i else i)) H):=by intro pins s Z H xs us Q I r h;obtain⟨i,rfl,q⟩:=h;obtain⟨u,rfl,t,rfl⟩:=kr r;exact call_abs_int λu tk=>⟨.int (if i<0 then -i else i),H,I.tok _,⟨_,rfl⟩,q⟩
def aaw(K:Frag)(x:V)(H:Hp)(n:Nat):Prop:=
 match x with
 | .str y=>y.length<=sizeLine/\n=y.length
 | .sW y=>y.size<=sizeLine/\n=y.size
 | .ref p=>(∃xs,bp K H p xs/\n=xs.length)\/∃xs,bE K H p xs/\n=xs.length
 |_=>False
def fS:iu X (.builtin "len") (λxs H Q=>∃x n,xs=[x]/\aaw X.K x H n/\Q (.int n) H):=by
 intro pins s Z H xs us Q I r h;obtain⟨x,n,rfl,e,q⟩:=h;obtain⟨u,rfl,rx⟩:=kr r;have hl:=wD;have hs:sizeLine=16777216:=cv;cases x with
 |str y=>
  obtain⟨t,rfl⟩:=rx;obtain⟨hy,e'⟩:y.length<=sizeLine/\n=y.length:=e;subst e';exact len_str (by lia) ⟨.int _,H,I.tok _,⟨_,rfl⟩,q⟩
 |sW y=>
  obtain⟨t,rfl⟩:=rx;obtain⟨hy,e'⟩:y.size<=sizeLine/\n=y.size:=e;subst e';exact PySem.W.len_bytes (by lia) ⟨.int _,H,I.tok _,⟨_,rfl⟩,q⟩
 |ref p=>
  cases rx;have e':(∃xs,bp X.K H p xs/\n=xs.length)\/∃xs,bE X.K H p xs/\n=xs.length:=e;rcases e' with⟨xs,hx,e'⟩|⟨xs,hx,e'⟩
  ·subst e';obtain⟨aY,r',pl,hz⟩:=I.list hx;have hlen:=r'.length;exact Calls.call_len_list pl.isList (by simp only[aN];lia) ⟨.int xs.length,H,I.tok _,⟨_,by simp only[aN];rw[hlen]⟩,q⟩
  ·subst e';obtain⟨aY,r',pl,hz⟩:=I.tuple hx;have hlen:=r'.length;exact len_tuple pl (by simp only[aN];lia) ⟨.int xs.length,H,I.tok _,⟨_,by simp only[aN];rw[hlen]⟩,q⟩
 |_=>exact(show False from e).elim
structure CF(h:Heap)(x dx C:Addr)(mA:Str->Option Value):Prop where
 obj:h.get? x=some (instObj C dx)
 ns:h.Ns1 dx mA
 ne:dx≠x
def Oy{h:Heap}(n:h.Ns1 dx mA):∃od,h.get? dx=some od/\∀name,lookIn name od=some (mA name):=by
 obtain⟨o,es,ep,ho,hd,hk,_,hm⟩:=n;refine⟨o,ho,λname=>?_⟩;have e:=hm name;unfold nsFind findBy at e;rw[<-Array.find?_toList]at e;unfold lookIn;rw[hd];dsimp only;split
 ·rename_i y q;rw[q]at e;exact cA some e
 ·rename_i q;rw[q]at e;have a:es.toList.any (·.refKey)=false:=by rw[List.any_eq_false];intro y hy;obtain⟨z,t,nV⟩:=hk y (lq.mp hy);simp[DictEntry.refKey,nV]
  have a':¬es.toList.any (·.refKey)=true:=by rw[a];exact aT
  rw[ax a'];exact cA some e
def CF.look(I:CF h x dx C mA):∃od,PySem.W.InstAt h x (instObj C dx) C (some od)/\∀name,lookIn name od=some (mA name):=
 let⟨od,ho,hl⟩:=Oy I.ns
 ⟨od,⟨I.obj,rfl,rfl,ho⟩,hl⟩
variable{prog:Program}{w:World}{A:Around}{E:Value->Shared->Prop}{s:Shared}{K:Frag}{x dx C f:Addr}{mA:Str->Option Value}{name:Str}{v:Value}
def get_map(X:K.In s.heap)(I:CF s.heap x dx C mA)(hg:plainGet K C name=true)(hh:hasDictIn K C=true)
  (ha:findIn K (.ref C) name=some none) (hv:mA name=some v) (YU:PySem.W.handedIn v=true) (h:Q v {s with toks:=s.toks+1}):
  wpAny (model prog w) A (getAttr (.ref x) name expr) Q E s:=by
 obtain⟨od,J,hl⟩:=I.look;exact PySem.W.get_value X J (qy hg).1 (PySem.W.findObj_own hh ha rfl (by rw[hl,hv])) YU h
def RS(X:K.In s.heap)(I:CF s.heap x dx C mA)(hg:plainGet K C name=true)
  (hf:findIn K (.ref C) name=some (some (.ref f))) (ht:isFn K (.ref f)=true) (hv:mA name=none) (h:Q (.ref f,[.ref x]) s):
  wpAny (model prog w) A (getMethod (.ref x) name pl) Q E s:=by
 obtain⟨od,J,hl⟩:=I.look;exact PySem.W.method_fn X J (qy hg).1 (qy hg).2 hf (tQ.mp ht) (by show(lookIn name od).map (·.isSome)=some false;rw[hl,hv];rfl) h
def Va(X:K.In s.heap)(I:CF s.heap x dx C mA)
  (hs:findIn K (.ref C) "__setattr__"=some (some (.builtin "object.__setattr__"))) (hp:PySem.W.plainOver K C=true) (ht:PySem.W.takerIn K C name=some none) (hh:hasDictIn K C=true)
  (hw:PySem.Within mA ns) (hsz:ns.length<=sizeLine)
  (h:∀h',CF h' x dx C (λy=>if y=name then some v else mA y)->Heap.SameBut dx s.heap h'->Q () {s with heap:=h',toks:=s.toks+2}):
  wpAny (model prog w) A (setAttr (.ref x) name v) Q E s:=by
 obtain⟨od,J,hl⟩:=I.look;refine PySem.W.set_plain X J hs (PySem.W.osa_open (s:={s with toks:=s.toks+1}) (r:=none) X J hp ht λb=>?_);obtain⟨cd,hc,pS⟩:=PySem.W.any_some hh;have hx:s.heap.get? x=some ⟨.ref C,some dx,.plain,#[]⟩:=I.obj;refine ae (ah (ae (ae (wpAny_loadPart hx (ae (PySem.W.Looks.here (s:={s with toks:=s.toks+1}) (PySem.W.looks_clsIn X hc) ?_))))));rw[pS];refine ah (a:=some dx) (ae (ah (ae ?_)));refine wpAny_nsSet1 (s:={s with toks:=s.toks+1}) I.ns λh' Bw jY=>?_;obtain⟨oD,esD,epD,hoD,hdD,hcD⟩:=Bw.count (PySem.Within.cons name v hw);refine ae (wpAny_lookBehind hoD (by rw[hdD];exact pastItsLine_dict (aE hcD (by rw[bH];lia))) ?_);exact ah (h _ ⟨(jY.2 _ (bP I.ne)).trans I.obj,Bw,I.ne⟩ jY)
def Rb(X:K.In s.heap)(hm:PySem.W.makesIn K C=true)
  (hi:findIn K (.ref C) "__init__"=some (some (.ref f))) (hf:PySem.W.typeIn K (.ref f)=some (.type "function"))
  (h:codeAny (model prog w) (A.under (.builtin "type.__call__" ⟨.ref C::vs,kw⟩)) (.call (.ref f) ⟨.ref (s.heap.objs.size+1)::vs,kw⟩) (PySem.W.InitBack (s.heap.objs.size+1) R)
   {s with heap:=(s.heap.push emptyDict).push (instObj C s.heap.objs.size)}):
  codeAny (model prog w) A (.call (.ref C) ⟨vs,kw⟩) R s:=by
 obtain⟨hh,g,d,t,os⟩:=s;exact PySem.W.make_core (PySem.W.makes_of X hm) (PySem.W.looks_findIn X hi) (λself=>PySem.W.bind_fn X self hf) (.inl rfl) h
end
def eM(f:Str)(v:V):List (Str×V)->List (Str×V)
 |[]=>[(f,v)]
 |(g,x)::r=>if g=f then(g,v)::r else(g,x)::eM f v r
theorem Bl(f g:Str)(v:V):∀fs:List (Str×V),(eM f v fs).lookup g=if g=f then some v else fs.lookup g
 |[]=>by
  show List.lookup g [(f,v)]=_;by_cases h:g=f
  ·have hb:(g==f)=true:=tQ.mpr h;simp only[List.lookup,hb,aB h]
  ·have hb:(g==f)=false:=fb.mpr h;simp only[List.lookup,hb,ax h]
 |(k,x)::r=>by
  have ih:=Bl f g v r;rw[show eM f v ((k,x)::r)=(if k=f then(k,v)::r else(k,x)::eM f v r)from rfl];by_cases hk:k=f
  ·rw[aB hk];by_cases h:g=k
   ·have hb:(g==k)=true:=tQ.mpr h;simp only[List.lookup,hb,aB (h.trans hk)]
   ·have hb:(g==k)=false:=fb.mpr h;simp only[List.lookup,hb,ax (λe:g=f=>h (e.trans hk.symm))]
  ·rw[ax hk];by_cases h:g=k
   ·have hb:(g==k)=true:=tQ.mpr h;simp only[List.lookup,hb,ax (λe:g=f=>hk (h.symm.trans e))]
   ·have hb:(g==k)=false:=fb.mpr h;simp only[List.lookup,hb];exact ih
theorem zL(f:Str)(v:V):∀fs:List (Str×V),f∈(eM f v fs).map (·.1)/\∀g,g∈fs.map (·.1)->g∈(eM f v fs).map (·.1)
 |[]=>⟨by simp[eM],λg h=>by simp at h⟩
 |(k,x)::r=>by
  obtain⟨i1,i2⟩:=zL f v r;rw[show eM f v ((k,x)::r)=(if k=f then(k,v)::r else(k,x)::eM f v r)from rfl];by_cases hk:k=f
  ·rw[aB hk];subst hk;exact⟨by simp,λg h=>by simpa using h⟩
  ·rw[ax hk];refine⟨?_,λg h=>?_⟩
   ·rw[aX];exact aD _ i1
   ·rw[aX]at h⊢;rcases aI.mp h with e|e
    ·exact aI.mpr (.inl e)
    ·exact aD _ (i2 g e)
theorem Bm(f:Str)(v:V):∀fs:List (Str×V),(eM f v fs).length<=fs.length+1
 |[]=>by simp[eM]
 |(k,x)::r=>by
  have ih:=Bm f v r;rw[show eM f v ((k,x)::r)=(if k=f then(k,v)::r else(k,x)::eM f v r)from rfl];by_cases hk:k=f
  ·rw[aB hk,bH,bH];lia
  ·rw[ax hk,bH,bH];lia
def kL.some_of(r:kL (some v) o):∃u,o=some u/\RelV v u:=by
 cases o with
 |none=>exact(show False from r).elim
 |some u=>exact⟨u,rfl,r⟩
def kL.none_of(r:kL none o):o=none:=by
 cases o with
 |none=>rfl
 |some u=>exact(show False from r).elim
def Pr(r:RelV v u):PySem.W.handedIn u=true:=by
 cases v with
 |cb=>cases(show u=Value.none from r);rfl
 |bl b=>cases(show u=Value.bool b from r);rfl
 |int i=>obtain⟨t,e⟩:=(show∃t,u=Value.int i t from r);cases e;rfl
 |str x=>obtain⟨t,e⟩:=(show∃t,u=Value.str x t from r);cases e;rfl
 |sW b=>obtain⟨t,e⟩:=(show∃t,u=Value.bytes b t from r);cases e;rfl
 |IF b=>obtain⟨t,e⟩:=(show∃t,u=Value.float b t from r);cases e;rfl
 |ref a=>cases(show u=Value.ref a from r);rfl
 |ty n=>cases(show u=Value.type n from r);rfl
section
variable{P:Program}{w:World}{H:Hp}{h:Heap}{a C dx:Addr}{fs:List (Str×V)}
def AM(bw:jc P w H h)(e:H a=some (.ins C dx fs)):∃mA,CF h a dx C mA/\(∀f,kL (fs.lookup f) (mA f))/\PySem.Within mA (fs.map (·.1))/\fs.length<=1000/\H dx=some (.own a):=by obtain⟨d,z,ne,ob,mA,n,r,q⟩:=(show dm P w H h a (.ins C dx fs)from bw a _ e);exact⟨mA,⟨ob,n,ne⟩,r,q,z,d⟩
end
structure AB(K:Frag)(C:Addr):Prop where
 pg:plainGet K C Str.empty=true
 hd:hasDictIn K C=true
 po:PySem.W.plainOver K C=true
 sa:findIn K (.ref C) "__setattr__"=some (some (.builtin "object.__setattr__"))
def AB.get{K:Frag}(c:AB K C)(f:Str):plainGet K C f=true:=c.pg
def oH(K:Frag)(C:Addr)(f:Str):Prop:=findIn K (.ref C) f=some none
def oH.aaE{K:Frag}(n:oH K C f):PySem.W.takerIn K C f=some none:=by unfold PySem.W.takerIn;rw[show findIn K (.ref C) f=some none from n];rfl
structure Con(K:Frag)(C:Addr)(f:Str)(v:V)(u:Value):Prop where
 at_:findIn K (.ref C) f=some (some u)
 rel:RelV v u
 get:PySem.W.specialIn K u "__get__"=some none
 cp:PySem.W.copiedNames.contains f=false
structure Meth(K:Frag)(C:Addr)(m:Str)(f:Addr):Prop where
 at_:findIn K (.ref C) m=some (some (.ref f))
 fn:isFn K (.ref f)=true
 kp:keepIn K (.ref f)=true
section
variable{X:Cx}{pins:List (Addr×Obj)}{Z:St}{H:Hp}{s:Shared}{a C dx:Addr}{fs:List (Str×V)}{f:Str}{v:V}{A:Around}{E:Value->Shared->Prop}
def Mo(I:Inv X pins Z H s)(e:H a=some (.ins C dx fs))(c:AB X.K C)(n:oH X.K C f)(l:fs.lookup f=some v)
  (h:∀u s',Inv X pins Z H s'->RelV v u->Q u s'):wpAny (model X.prog X.w) A (getAttr (.ref a) f b) Q E s:=by
 obtain⟨mA,O,r,_,_,_⟩:=AM I.bw e;obtain⟨u,hu,ru⟩:=kL.some_of (v:=v) (o:=mA f) (by rw[<-l];exact r f);exact get_map I.lZ O (c.get f) c.hd n hu (Pr ru) (h u _ (I.tok _) ru)
def Mn(I:Inv X pins Z H s)(e:H a=some (.ins C dx fs))(c:AB X.K C)(k:Meth X.K C m g)(l:fs.lookup m=none)
  (h:Q (.ref g,[.ref a]) s):wpAny (model X.prog X.w) A (getMethod (.ref a) m pl) Q E s:=by
 obtain⟨mA,O,r,_,_,_⟩:=AM I.bw e;have hn:mA m=none:=kL.none_of (by rw[<-l];exact r m);exact RS I.lZ O (c.get m) k.at_ k.fn hn h
def Lv(I:Inv X pins Z H s)(e:H a=some (.ins C dx fs))(c:AB X.K C)(n:oH X.K C f)(hl:fs.length<1000)(ry:RelV y u)
  (h:∀s',Inv X pins Z (upd H a (.ins C dx (eM f y fs))) s'->Q () s'):wpAny (model X.prog X.w) A (setAttr (.ref a) f u) Q E s:=by
 obtain⟨mA,O,r,wi,_,ho⟩:=AM I.bw e;have hz:(fs.map (·.1)).length<=sizeLine:=by rw[ag,cv];lia
 refine Va I.lZ O c.sa c.po n.aaE c.hd wi hz λh' O' sb=>h _ ?_;have hd:∃o,h'.get? dx=some o:=let⟨o,_,_,e',_⟩:=O'.ns;⟨o,e'⟩
 refine I.write (x:=a) (e:=dx) (by rw[e];exact True.intro) (.inr ho) (λb q hb z=>(sb.2 b hb).trans z) hd ?_;refine⟨by rw[aw O.ne];exact ho,?_,O.ne,O'.obj,_,O'.ns,λg=>?_,λg hg=>?_⟩
 ·have:=Bm f y fs;lia
 ·show kL ((eM f y fs).lookup g) (if g=f then some u else mA g);rw[Bl];by_cases q:g=f
  ·rw[aB q,aB q];exact ry
  ·rw[ax q,ax q];exact r g
 ·by_cases q:g=f
  ·rw[q];exact(zL f y fs).1
  ·refine(zL f y fs).2 g (wi g λz=>hg ?_);show(if g=f then some u else mA g)=none;rw[ax q];exact z
def Inv.made(I:Inv X pins Z H s):Inv X pins Z (upd (upd H s.heap.objs.size (.own (s.heap.objs.size+1))) (s.heap.objs.size+1) (.ins C s.heap.objs.size []))
  {s with heap:=(s.heap.push emptyDict).push (instObj C s.heap.objs.size)}:=by
 have e1:(s.heap.push emptyDict).get? s.heap.objs.size=some emptyDict:=aG s.heap rfl;have e2:((s.heap.push emptyDict).push (instObj C s.heap.objs.size)).get? (s.heap.objs.size+1)=some (instObj C s.heap.objs.size):=by have:=aG (s.heap.push emptyDict) (o:=instObj C s.heap.objs.size) rfl;rwa [b6]at this
 have e3:(s.heap.push emptyDict).Ns s.heap.objs.size (λ_=>none):=⟨emptyDict,#[],_,e1,rfl,(λe he=>absurd he (by simp)),λ_=>rfl⟩;have I1:=I.laid (a:=s.heap.objs.size) (o:=.own (s.heap.objs.size+1)) (h':=s.heap.push emptyDict) (t':=s.toks) (λb u q=>af _ q) (ak _) ⟨_,e1⟩;refine I1.laid (a:=s.heap.objs.size+1) (o:=.ins C s.heap.objs.size []) (t':=s.toks) (λb u q=>af _ q) (Ap (b6 _ _)) ?_;have ne:s.heap.objs.size≠s.heap.objs.size+1:=aH (dw _);refine⟨by rw[aw ne,au],aO _,ne,e2,λ_=>none,(Heap.Ns1.of_empty e3).at λo q=>af _ q,λ_=>True.intro,λy hy=>absurd rfl hy⟩
def Wy(hb:attributeBase e f env (eval e env)=eval e env)
  (h:wpAny (model prog w) A (eval e env) (λo aaa=>wpAny (model prog w) A (getAttr o f true) Q E aaa) E s):wpAny (model prog w) A (eval (.Attribute e f pos) env) Q E s:=
 Attribute_any_ h (by rw[arm_eval_Attribute,hb])
end
inductive aaK(K:Frag)(f:Str)(Q:VK)(x:V)(H1:Hp):Prop
 |mk a C dx fs v (_:x=.ref a) (_:H1 a=some (.ins C dx fs)) (_:AB K C) (_:oH K C f) (_:fs.lookup f=some v) (_:Q v H1)
def QD(K:Frag)(ta:TE)(f:Str):TE:=λZ H Q=>ta Z H λx H1=>aaK K f Q x H1
inductive aaS(K:Frag)(f:Str)(D:Ends)(Z:St)(y:V)(x:V)(H2:Hp):Prop
 |mk a C dx fs (_:x=.ref a) (_:H2 a=some (.ins C dx fs)) (_:AB K C) (_:oH K C f) (_:fs.length<1000) (_:D.nx Z (upd H2 a (.ins C dx (eM f y fs))))
def abL(K:Frag)(ta tv:TE)(f:Str):TS:=λD Z H=>tv Z H λy H1=>ta Z H1 λx H2=>aaS K f D Z y x H2
section
variable{X:Cx}{o e value:Expr}{f:Str}{pos pos':Pos}{ta tv:TE}
def lF(he:PE X e ta)(hb:attributeBase e f X.env (eval e X.env)=eval e X.env):PE X (.Attribute e f pos) (QD X.K ta f):=by intro pins s Z H Q I h;refine Wy hb (cV (he pins s Z H _ I h) λu s1 x H1 I1 rx L1=>?_);obtain⟨a,C,dx,fs,v,ex,ea,c,n,l,q⟩:=L1;subst ex;obtain rfl:u=Value.ref a:=rx;exact Mo I1 ea c n l λu' s2 I2 ru=>⟨v,H1,I2,ru,q⟩
def wu(ha:PE X o ta)(hv:PE X value tv)(hs:swapsWith value (some (.Attribute o f pos')) pos.line X.env=pure false):PS X (.Assign [.Attribute o f pos'] value pos) (abL X.K ta tv f):=by intro pins s Z H D I h;refine plainObj_wpAny_Assign_Attribute (cV (hv pins s Z H _ I h) λu s1 y H1 I1 ry q=>cV (ha pins s1 Z H1 _ I1 q) λov s2 x H2 I2 rx acC=>?_) hs;obtain⟨a,C,dx,fs,ex,ea,c,n,l,q2⟩:=acC;subst ex;obtain rfl:ov=Value.ref a:=rx;exact Lv I2 ea c n l ry λs3 I3=>⟨Z,_,I3,q2⟩
end
section
variable{X:Cx}{pins:List (Addr×Obj)}{Z:St}{H:Hp}{s:Shared}{A:Around}{E Q:Value->Shared->Prop}{c:Value}{b:Bool}
inductive nX(K:Frag)(H:Hp):V->Value->Prop where
 |cb:nX K H .cb (.type "NoneType")
 |bl (x:Bool):nX K H (.bl x) (.type "bool")
 |int (i:Int):nX K H (.int i) (.type "int")
 |str (x:Str):nX K H (.str x) (.type "str")
 |IF (x:UInt64):nX K H (.IF x) (.type "float")
 |lst {a:Addr} {xs:List V} (e:H a=some (.lst xs)):nX K H (.ref a) (.type "list")
 |cQ {a:Addr} {o:Obj} {xs:List V} (e:H a=some (.cQ o (.lst xs))):nX K H (.ref a) (.type "list")
 |tup {a:Addr} {xs:List V} (e:H a=some (.tup xs)):nX K H (.ref a) (.type "tuple")
 |dK {a:Addr} {kvs:List (Key×V)} (e:H a=some (.dK kvs)):nX K H (.ref a) (.type "dict")
 |dT {a:Addr} {kvs:List (List Key×V)} (e:H a=some (.dT kvs)):nX K H (.ref a) (.type "dict")
 |ins {a C dx:Addr} {fs:List (Str×V)} (e:H a=some (.ins C dx fs)) (cl:AB K C) (ha:findIn K (.ref C) "__class__"=some (some (.builtin "object.__class__")))
   (hn:PySem.W.specialIn K (.builtin "object.__class__") "__get__"=some (some (.builtin "getset_descriptor.__get__"))) (OW:PySem.W.takesIn K (.builtin "object.__class__")=some true)
   (hm:PySem.W.mroIn K C (.type "object")=some true):nX K H (.ref a) (.ref C)
def OJ(I:Inv X pins Z H s)(rx:RelV x u)(ty:nX X.K H x t)(e:kitOne X.K t c=some b)(h:∀tk,Q (.bool b) {s with toks:=tk}):
  wpAny (model X.prog X.w) A (call (.builtin "isinstance") [u,c]) Q E s:=by
 cases ty with
 |cb=>cases(show u=Value.none from rx);exact eE PySem.W.kitx_none I.lZ True.intro e (λz=>nomatch z) h
 |bl y=>cases(show u=Value.bool y from rx);exact eE PySem.W.kitx_bool I.lZ True.intro e (λz=>nomatch z) h
 |int i=>obtain⟨t,q⟩:=(show∃t,u=Value.int i t from rx);cases q;exact eE PySem.W.kitx_int I.lZ True.intro e (λz=>nomatch z) h
 |str y=>obtain⟨t,q⟩:=(show∃t,u=Value.str y t from rx);cases q;exact eE PySem.W.kitx_str I.lZ True.intro e (λz=>nomatch z) h
 |IF y=>obtain⟨t,q⟩:=(show∃t,u=Value.float y t from rx);cases q;exact eE PySem.W.kitx_float I.lZ True.intro e (λz=>nomatch z) h
 |@lst a xs ea=>
  cases(show u=Value.ref a from rx);obtain⟨_,_,n,_,h1⟩:=(show dm X.prog X.w H s.heap a (.lst xs)from I.bw a _ ea);exact eE A1 I.lZ ⟨_,h1,rfl⟩ e (λz=>nomatch z) h
 |@cQ a ob xs ea=>
  cases(show u=Value.ref a from rx);obtain⟨_,_,_,n,_,h1⟩:=(show dm X.prog X.w H s.heap a (.cQ ob (.lst xs))from I.bw a _ ea);exact eE A1 I.lZ ⟨_,h1,rfl⟩ e (λz=>nomatch z) h
 |@tup a xs ea=>
  cases(show u=Value.ref a from rx);obtain⟨_,_,_,p,_⟩:=(show dm X.prog X.w H s.heap a (.tup xs)from I.bw a _ ea);obtain⟨o,h1,h2,_⟩:=p;exact eE PySem.W.kitx_tuple I.lZ ⟨o,h1,h2⟩ e (λz=>nomatch z) h
 |@dK a kvs ea=>
  cases(show u=Value.ref a from rx);obtain⟨_,_,vs,_,p⟩:=(show dm X.prog X.w H s.heap a (.dK kvs)from I.bw a _ ea);obtain⟨o,es,ep,h1,h2,_⟩:=p;exact eE A2 I.lZ ⟨o,h1,h2.1⟩ e (λz=>nomatch z) h
 |@dT a kvs ea=>
  cases(show u=Value.ref a from rx);obtain⟨_,_,xs,_,o,es,ep,h1,h2,_⟩:=(show dm X.prog X.w H s.heap a (.dT kvs)from I.bw a _ ea);exact eE A2 I.lZ ⟨o,h1,h2.1⟩ e (λz=>nomatch z) h
 |@ins a C dx fs ea cl ha hn OW hm=>
  cases(show u=Value.ref a from rx);obtain⟨mA,O,_⟩:=AM I.bw ea;obtain⟨od,J,_⟩:=O.look;exact eE (PySem.W.kitx_own (cl.get _) cl.hd ha hn OW hm) I.lZ J e (λz=>nomatch z) h
end
structure gh(k:Nat)(A:Around):Prop where
 hd:A.handled=none
 dp:A.depth+3*k+5<recursionLimit
 un:A.units+16*k+200<cLine
def gh.mono(r:gh k A)(h:j<=k):gh j A:=⟨r.hd,by have:=r.dp;lia,by have:=r.un;lia⟩
def gh.deeper(r:gh (k+1) A)(env:Env):gh k (A.deeper env):=
 ⟨r.hd,by have:=r.dp;show A.depth+1+3*k+5<_;lia,by have:=r.un;show A.units+3+16*k+200<_;lia⟩
def LS{A:Around}:(A.under (.builtin "type.__call__" ⟨.ref C::us,kw⟩)).depth=A.depth+1:=by
 first|rfl|simp[Around.under,Code.weight,Code.isCreation,Code.isGuard,Code.isCaller,Code.frames,Code.isFrame,guardIds]
def LR{A:Around}:(A.under (.builtin "type.__call__" ⟨.ref C::us,kw⟩)).units=A.units+1:=by
 first|rfl|simp[Around.under,Code.cUnits,Code.frames,Code.isFrame]
def gh.make(r:gh (k+1) A)(C:Addr)(us:List Value)(kw:List (Str×Value)):gh k (A.under (.builtin "type.__call__" ⟨.ref C::us,kw⟩)):=
 ⟨r.hd,by have:=r.dp;rw[LS];lia,by have:=r.un;rw[LR];lia⟩
def gh.depth(r:gh k A):A.depth<recursionLimit:=by have:=r.dp;lia
def gh.units(r:gh k A):A.units+64<cLine:=by have:=r.un;lia
def gh.M9(r:gh k A):A.units<cLine:=by have:=r.un;lia
def abE:TA:=λ_ H Q=>Q [] H
def aaP(ta:TE)(tr:TA):TA:=λZ H Q=>ta Z H λx H1=>tr Z H1 λxs H2=>Q (x::xs) H2
section
variable{X:Cx}{e:Expr}{es:List Expr}{te:TE}{t:TA}{pos:Pos}
def az:PA X [] abE:=λ_ _ _ _ H Q I h=>kG ⟨[],H,I,.nil,h⟩
def ao(ha:PE X e te)(hr:PA X es t)(hs:starEach (e::es) X.env=(false,eval e X.env)::starEach es X.env:=by rfl):PA X (e::es) (aaP te t):=by intro pos pins s Z H Q I h;rw[hs];show wpAny _ _ (spliced ((false,eval e X.env)::backTo pos (starEach es X.env))) _ _ s;refine fG (cV (ha pins s Z H _ I h) λu s1 x H1 I1 r1 q1=>?_);exact pA (hr pos pins s1 Z H1 _ I1 q1) λus s2 xs H2 I2 r2 q2=>⟨x::xs,H2,I2,.cons r1 r2,q2⟩
def abA(t:TA):TE:=λZ H Q=>t Z H λxs H1=>xs.length<=sizeLine/\∀p,H1 p=none->Q (.ref p) (upd H1 p (.tup xs))
def abF(t:TA):TE:=λZ H Q=>t Z H λxs H1=>xs.length<=sizeLine/\∀p,H1 p=none->Q (.ref p) (upd H1 p (.lst xs))
def mH{x1}(h:PA X es t):PE X (.Tuple es x1 pos) (abA t):=by intro pins s Z H Q I hq;refine wpAny_Tuple_spliced (pA (h pos pins s Z H _ I hq) λus s1 xs H1 I1 r ⟨z,q⟩=>⟨by rw[<-r.length];exact z,?_⟩);have hf:H1 s1.heap.objs.size=none:=I1.bw.fresh (ak _);refine⟨.ref s1.heap.objs.size,upd H1 s1.heap.objs.size (.tup xs),I1.laid (t':=s1.toks) (λb u e=>af _ e) (ak _) ?_,rfl,q _ hf⟩;exact⟨z,us,r,⟨_,aG _ rfl,rfl,_,rfl⟩,_,aG _ rfl,rfl⟩
def eO(h:PA X es t):PE X (.List es pos) (abF t):=by intro pins s Z H Q I hq;refine wpAny_List_spliced (pA (h pos pins s Z H _ I hq) λus s1 xs H1 I1 r ⟨z,q⟩=>⟨by rw[<-r.length];exact z,?_⟩);have hf:H1 s1.heap.objs.size=none:=I1.bw.fresh (ak _);refine⟨.ref s1.heap.objs.size,upd H1 s1.heap.objs.size (.lst xs),I1.laid (t':=s1.toks) (λb u e=>af _ e) (ak _) ?_,rfl,q _ hf⟩;exact⟨z,us,0,r,aG _ rfl⟩
abbrev Sp:=List V->Hp->VK->XK->Prop
abbrev Jc:=List Env->Hp->Shared->XK->Value->Shared->Prop
structure CH(P:Program)(w:World)(K:Frag)(mg:Str->Option Value)(base:Heap)(A:Around)(outer:List Env)(s:Shared)(H:Hp):Prop where
 frames:A.frames=some outer
 mod:Mod K mg base
 bs:∀b o,base.get? b=some o->s.heap.get? b=some o/\H b=none
 BF:base.objs.size<=s.heap.objs.size
 qL:s.heap.FunFrames base outer
 FA:∀b∈yR outer,H b=none
 bw:jc P w H s.heap
 bare:AllBare s.gens
def CE(outer:List Env)(P:Program)(w:World)(H:Hp)(s:Shared)(Q:VK)(u:Value)(s':Shared):Prop:=
 ∃v H',s'.os=s.os/\AllBare s'.gens/\Un (yR outer) [] H H' s.heap s'.heap/\jc P w H' s'.heap/\RelV v u/\Q v H'
end
def CR(CX:Jc)(outer:List Env)(P:Program)(w:World)(H:Hp)(s:Shared)(Q:VK)(E:XK)(r:Result)(s':Shared):Prop:=
 match r with
 | .ok (.ret u)=>CE outer P w H s Q u s'
 | .ok _=>False
 | .error e=>CX outer H s E e s'
structure cY(P:Program)(w:World)(K:Frag)(mg:Str->Option Value)(base:Heap)(CX:Jc)(k:Nat)(f:Addr)(fd:FuncData)(ps:List Str)(sp:Sp):Prop where
 len:∀vs H Q E,sp vs H Q E->vs.length=ps.length
 run:∀(A:Around)(outer:List Env)(s:Shared)(H:Hp)(args:Args)(us:List Value)(vs:List V)(Q:VK)(E:XK),gh k A->CH P w K mg base A outer s H->BindsTo s fd args (ps.zip us)->Vals vs us->sp vs H Q E->
  codeAny (model P w) A (.call (.ref f) args) (CR CX outer P w H s Q E) s
def CH.make{K:Frag}(e:CH P w K mg base A outer s H)(C:Addr)(us:List Value)(kw:List (Str×Value)):
  CH P w K mg base (A.under (.builtin "type.__call__" ⟨.ref C::us,kw⟩)) outer s H:=⟨by first|exact e.frames|(simpa[Around.under,Code.envs,Code.isFrame,pushEnvs]using e.frames),e.mod,e.bs,e.BF,e.qL,e.FA,e.bw,e.bare⟩
section
variable{X:Cx}{pins:List (Addr×Obj)}{Z:St}{H:Hp}{s s':Shared}
def Inv.env0(I:Inv X pins Z H s):CH X.prog X.w X.K X.mg X.base X.A X.stack s H:=
 ⟨I.ok.frames,I.ok.mod,I.bs,aE I.ok.BF I.sz,I.stack,I.JZ,I.bw,I.bare⟩
def Inv.after(I:Inv X pins Z H s)(h:CE X.stack X.prog X.w H s Q u s'):EP X pins Z Q u s':=by obtain⟨v,H',os,bare,un,bw,r,q⟩:=h;obtain⟨hh,g,d,t,NW⟩:=s';obtain rfl:NW=s.os:=os;exact⟨v,H',I.call (h':=hh) (g':=g) (d':=d) (t':=t) (ch:=[]) un bw bare (λb z=>absurd z (by simp)),r,q⟩
end
def SV(sp:Sp)(oE:List V)(E:XK)(t:TA):TE:=λZ H Q=>t Z H λvs H1=>sp (vs++oE) H1 Q E
inductive Xd(C:Addr)(m:Str)(sp:Sp)(oE:List V)(E:XK)(t:TA)(Z:St)(Q:VK)(x:V)(H1:Hp):Prop
 |mk a dx fs (_:x=.ref a) (_:H1 a=some (.ins C dx fs)) (_:fs.lookup m=none) (_:t Z H1 λvs H2=>sp (x::(vs++oE)) H2 Q E)
def SQ(C:Addr)(m:Str)(sp:Sp)(oE:List V)(E:XK)(ta:TE)(t:TA):TE:=λZ H Q=>ta Z H λx H1=>Xd C m sp oE E t Z Q x H1
def SR(C:Addr)(sp:Sp)(oE:List V)(E:XK)(t:TA):TE:=λZ H Q=>t Z H λvs H1=>∀x dx,H1 x=none->H1 dx=none->dx≠x->
 sp (.ref x::(vs++oE)) (upd (upd H1 dx (.own x)) x (.ins C dx [])) (λv H2=>v=.cb/\Q (.ref x) H2) E
def Binds(K:Frag)(fd:FuncData)(ps:List Str)(ds:List Value):Prop:=
 ∀(s:Shared)(us:List Value),K.In s.heap->(us++ds).length=ps.length->BindsTo s fd ⟨us,[]⟩ (ps.zip (us++ds))
def Binds.all{K:Frag}(h:∀us:List Value,us.length=ps.length->bindArgs fd ⟨us,[]⟩=pure (ps.zip us)):Binds K fd ps []:=λs us _ hl=>by rw[cj]at hl⊢;exact .of_eq (h us hl)
def Passes(CX:Jc)(X:Cx)(E:XK):Prop:=∀(pins:List (Addr×Obj))(Z:St)(H:Hp)(s:Shared)(e:Value)(s':Shared),Inv X pins Z H s->CX X.stack H s E e s'->X.xe e s'
section
variable{X:Cx}{CX:Jc}{k:Nat}{f C:Addr}{fd:FuncData}{ps:List Str}{sp:Sp}{oE:List V}{ds:List Value}{E:XK}{x m:Str}{p pos apos:Pos}{e o:Expr}{es:List Expr}{ta:TE}{t:TA}
def NF(F:cY X.prog X.w X.K X.mg X.base CX k f fd ps sp)(hr:gh k X.A)(hb:Binds X.K fd ps ds)(hd:Vals oE ds)(hx:Passes CX X E)
  (I:Inv X pins Z H s) (r:Vals vs us) (h:sp (vs++oE) H Q E):wpAny (model X.prog X.w) X.A (call (.ref f) us) (EP X pins Z Q) X.xe s:=by
 have r2:Vals (vs++oE) (us++ds):=r.append hd;have hl:(us++ds).length=ps.length:=by rw[<-r2.length];exact F.len _ _ _ _ h
 refine CK (kK (F.run X.A X.stack s H ⟨us,[]⟩ (us++ds) (vs++oE) Q E hr I.env0 (hb s us I.lZ hl) r2 h) λr s' hq=>?_);cases r with
 |error e=>exact hx pins Z H s e s' I hq
 |ok fl=>
  cases fl with
  |ret u=>exact I.after hq
  |next=>exact False.elim hq
  |brk=>exact False.elim hq
  |cont=>exact False.elim hq
def VC(F:cY X.prog X.w X.K X.mg X.base CX k f fd ps sp)(hr:gh k X.A)(hg:Gl X x)(hm:X.mg x=some (.ref f))(hk:keepIn X.K (.ref f)=true)(hb:Binds X.K fd ps ds)(hd:Vals oE ds)(hx:Passes CX X E)
  (ha:PA X (e::es) t) (zV:(x==("__debug__":Str))=false:=by decide) (he:starEach (e::es) X.env=(false,eval e X.env)::starEach es X.env:=by rfl) (pR:(backTo pos (starEach es X.env)).any (·.1)=false:=by rfl):
  PE X (.Call (.Name x p) (e::es) [] pos) (SV sp oE E t):=by
 intro pins s Z H Q I h;refine mq (Er I hg hm ?_ zV);refine rY (h₀:=X.base) I.ok.mod.OC hk (pA (ha pos pins s Z H _ I h) λus s1 vs H1 I1 r q=>⟨I1.lZ,?_⟩) he pR;exact NF F hr hb hd hx I1 r q
def Vy(he:PE X o ta)(c:AB X.K C)(hm:Meth X.K C m f)(F:cY X.prog X.w X.K X.mg X.base CX k f fd ps sp)(hr:gh k X.A)(hb:Binds X.K fd ps ds)(hd:Vals oE ds)(hx:Passes CX X E)(ha:PA X (e::es) t)
  (gF:starEach (e::es) X.env=(false,eval e X.env)::starEach es X.env:=by rfl) (pR:(backTo pos (starEach es X.env)).any (·.1)=false:=by rfl)
  (ht:eval (.Call (.Attribute o m apos) (e::es) [] pos) X.env=(do
   let ov<-eval o X.env
   standAt apos.atName
   let(f,first)<-holding [ov] (getMethod ov m pl)
   callWith pos f first (backTo pos (starEach (e::es) X.env)) (backToKw pos (keywordEach [] X.env))):=by rfl):
  PE X (.Call (.Attribute o m apos) (e::es) [] pos) (SQ C m sp oE E ta t):=by
 intro pins s Z H Q I h;refine PySem.W.methodCall_KW (pl:=pl) (cV (he pins s Z H _ I h) λu s1 x H1 I1 rx Rr=>?_) ht;obtain⟨a,dx,fs,ex,ea,l,q⟩:=Rr;subst ex;obtain rfl:u=Value.ref a:=rx;refine Mn I1 ea c hm l ?_;refine rY (first:=[.ref a]) (h₀:=X.base) I.ok.mod.OC hm.kp (pA (ha pos pins s1 Z H1 _ I1 q) λus s2 vs H2 I2 r q2=>⟨I2.lZ,?_⟩) gF pR;exact NF (us:=.ref a::us) (vs:=.ref a::vs) F hr hb hd hx I2 (.cons rfl r) q2
structure Mk(K:Frag)(C f:Addr):Prop where
 makes:PySem.W.makesIn K C=true
 init:findIn K (.ref C) "__init__"=some (some (.ref f))
 fn:isFn K (.ref f)=true
 kp:keepIn K (.ref C)=true
def QL(M:Mk X.K C f)(F:cY X.prog X.w X.K X.mg X.base CX k f fd ps sp)(hr:gh (k+1) X.A)(hb:Binds X.K fd ps ds)(hd:Vals oE ds)
  (hx:Passes CX X E) (I:Inv X pins Z H s) (r:Vals vs us)
  (h:∀x dx,H x=none->H dx=none->dx≠x->sp (.ref x::(vs++oE)) (upd (upd H dx (.own x)) x (.ins C dx [])) (λv H2=>v=.cb/\Q (.ref x) H2) E):
  wpAny (model X.prog X.w) X.A (call (.ref C) us) (EP X pins Z Q) X.xe s:=by
 have hq:=h (s.heap.objs.size+1) s.heap.objs.size (I.bw.fresh (eG _)) (I.bw.fresh (ak _)) (aH (dw _));have I2:=Inv.made (C:=C) I;have r2:Vals (V.ref (s.heap.objs.size+1)::(vs++oE)) (Value.ref (s.heap.objs.size+1)::(us++ds)):=.cons rfl (r.append hd);have hl:(Value.ref (s.heap.objs.size+1)::us++ds).length=ps.length:=by have e:=r2.length;rw[F.len _ _ _ _ hq]at e;exact e.symm
 refine CK (Rb (f:=f) I.lZ M.makes M.init (tQ.mp M.fn) (kK (F.run _ X.stack _ _ ⟨Value.ref (s.heap.objs.size+1)::us,[]⟩ (Value.ref (s.heap.objs.size+1)::(us++ds)) _ _ E (hr.make C us [])
  (I2.env0.make C us []) (hb _ (Value.ref (s.heap.objs.size+1)::us) I2.lZ hl) r2 hq) λr s' zS=>?_))
 cases r with
 |error e=>exact hx pins Z _ _ e s' I2 zS
 |ok fl=>
  cases fl with
  |ret u=>
   obtain⟨v,H',I3,rv,ev,q3⟩:=I2.after zS;subst ev;exact⟨rv,⟨V.ref (s.heap.objs.size+1),H',I3,rfl,q3⟩⟩
  |next=>exact False.elim zS
  |brk=>exact False.elim zS
  |cont=>exact False.elim zS
def Vz(M:Mk X.K C f)(F:cY X.prog X.w X.K X.mg X.base CX k f fd ps sp)(hr:gh (k+1) X.A)(hg:Gl X x)(hm:X.mg x=some (.ref C))(hb:Binds X.K fd ps ds)(hd:Vals oE ds)(hx:Passes CX X E)
  (ha:PA X (e::es) t) (zV:(x==("__debug__":Str))=false:=by decide) (he:starEach (e::es) X.env=(false,eval e X.env)::starEach es X.env:=by rfl) (pR:(backTo pos (starEach es X.env)).any (·.1)=false:=by rfl):
  PE X (.Call (.Name x p) (e::es) [] pos) (SR C sp oE E t):=by
 intro pins s Z H Q I h;refine mq (Er I hg hm ?_ zV);refine rY (h₀:=X.base) I.ok.mod.OC M.kp (pA (ha pos pins s Z H _ I h) λus s1 vs H1 I1 r q=>⟨I1.lZ,?_⟩) he pR;exact QL M F hr hb hd hx I1 r q
variable{ks:List Str}
structure adt(K:Frag)(fd:FuncData)(ps ks:List Str)(g:List Value->List Value->List Value)(gV:List V->List V->List V):Prop where
 to:∀(s:Shared)(us ws:List Value),K.In s.heap->(g us ws).length=ps.length->BindsTo s fd ⟨us,ks.zip ws⟩ (ps.zip (g us ws))
 rel:∀{vs:List V}{us:List Value}{zs:List V}{ws:List Value},Vals vs us->Vals zs ws->Vals (gV vs zs) (g us ws)
end
structure cu(N P:List Str)(sc:Scope):Prop where
 kind:sc.kind=.function
 co:sc.isCoroutine=false
 gen:sc.isGenerator=false
 nd:N.Nodup
 pre:N.take P.length=P
 par:∀x∈P,sc.names.lookup x=some .local\/sc.names.lookup x=some .cell
 X2:∀y∈sc.names,y.2≠ .free
def jx{N P:List Str}{sc:Scope}(h:sc.kind=.function/\sc.isCoroutine=false/\sc.isGenerator=false/\N.Nodup/\N.take P.length=P/\(∀x∈P,sc.names.lookup x=some .local\/sc.names.lookup x=some .cell)/\∀y∈sc.names,y.2≠ .free):cu N P sc:=⟨h.1,h.2.1,h.2.2.1,h.2.2.2.1,h.2.2.2.2.1,h.2.2.2.2.2.1,h.2.2.2.2.2.2⟩
def iz{X:Cx}{x:Str}{pos:Pos}{ps:List Str}{sc:Scope}(i:Nat)(S:cu X.N ps sc)(hi:X.N[i]?=some x:=by rfl)(hx:X.env.scope.names.lookup x=some .local:=by rfl):PG X (.Name x pos) (rh i):=ni S.nd hi (Or.inl hx) (Or.inr hx)
def fM{X:Cx}{x:Str}{pos pos':Pos}{e:Expr}{te:TE}{ps:List Str}{sc:Scope}(i:Nat)(S:cu X.N ps sc)(he:PE X e te)(hi:X.N[i]?=some x:=by rfl)(hx:X.env.scope.names.lookup x=some .local:=by rfl)(hs:swapsWith e (some (.Name x pos')) pos.line X.env=pure false:=by rfl):PS X (.Assign [.Name x pos'] e pos) (QF te (rh i)):=uq S.nd hi (Or.inl hx) he hs (Or.inr hx)
theorem FI{kindOf:Str->Option NameKind}:∀{binds:List (Str×Value)}{m:Str->Option Value},(∀v,(x,v)∉binds)->bindL kindOf binds m x=m x
 |[],_,_=>rfl
 |(n,v)::r,m,h=>by
  unfold bindL;rw[FI λw hw=>h w (aD _ hw)];split
  ·have:x≠n:=by rintro rfl;exact h v aA
   simp[this]
  ·rfl
theorem FK{kindOf:Str->Option NameKind}:∀{binds:List (Str×Value)}{m:Str->Option Value},(∀v,(x,v)∉binds)->bindC kindOf binds m x=m x
 |[],_,_=>rfl
 |(n,v)::r,m,h=>by
  unfold bindC;rw[FK λw hw=>h w (aD _ hw)];split
  ·rfl
  ·have:x≠n:=by rintro rfl;exact h v aA
   simp[this]
theorem FJ{kindOf:Str->Option NameKind}:∀{P:List Str}{vs:List Value}{i:Nat}{m:Str->Option Value},P.Nodup->P[i]?=some x->vs[i]?=some v->kindOf x=some .local->
  bindL kindOf (P.zip vs) m x=some v
 |[],_,_,_,_,h,_,_=>by simp at h
 |_::_,[],_,_,_,_,h,_=>by simp at h
 |p::P,w::vs,0,m,nd,h1,h2,hk=>by simp at h1 h2;subst h1;subst h2;show bindL kindOf ((p,w)::P.zip vs) m p=_;unfold bindL;rw[FI λv hv=>(du.mp nd).1 (qh hv).1,aB hk];simp
 |p::P,w::vs,i+1,m,nd,h1,h2,hk=>by show bindL kindOf ((p,w)::P.zip vs) m x=_;unfold bindL;exact FJ (i:=i) (du.mp nd).2 (by simpa using h1) (by simpa using h2) hk
theorem FL{kindOf:Str->Option NameKind}:∀{P:List Str}{vs:List Value}{i:Nat}{m:Str->Option Value},P.Nodup->P[i]?=some x->vs[i]?=some v->kindOf x≠some .local->
  bindC kindOf (P.zip vs) m x=some v
 |[],_,_,_,_,h,_,_=>by simp at h
 |_::_,[],_,_,_,_,h,_=>by simp at h
 |p::P,w::vs,0,m,nd,h1,h2,hk=>by simp at h1 h2;subst h1;subst h2;show bindC kindOf ((p,w)::P.zip vs) m p=_;unfold bindC;rw[FK λv hv=>(du.mp nd).1 (qh hv).1,ax hk];simp
 |p::P,w::vs,i+1,m,nd,h1,h2,hk=>by show bindC kindOf ((p,w)::P.zip vs) m x=_;unfold bindC;exact FL (i:=i) (du.mp nd).2 (by simpa using h1) (by simpa using h2) hk
def start(N:List Str)(vs:List V):St:=vs.map some++List.replicate (N.length -vs.length) none
noncomputable def EB(CX:Jc)(P:Program)(w:World)(K:Frag)(mg:Str->Option Value)(base:Heap)(N:List Str)(qual:Str)(scope:Scope)(f:Addr)(cd:Value)(A:Around)(outer:List Env)(s:Shared)(H:Hp)(E:XK):Cx where
 prog:=P
 w:=w
 K:=K
 mg:=mg
 base:=base
 A:=A.deeper (envOfC qual scope s.heap.objs.size f cd)
 N:=N
 aab:=s
 aaf:=H
 env:=envOfC qual scope s.heap.objs.size f cd
 outer:=outer
 stack:=envOfC qual scope s.heap.objs.size f cd::outer
 ex:=[]
 calm:=true
 fn:=λ_=>true
 pn:=[]
 xe:=λe s'=>wpAny (model P w) (A.deeper (envOfC qual scope s.heap.objs.size f cd)) (leaving (envOfC qual scope s.heap.objs.size f cd) e) (λ_ Xs=>CX outer H s E e Xs) (λe' Xs=>CX outer H s E e' Xs) s'
def IP{sc:Scope}(h:sc.names.lookup x=some .cell):∃c,(cellsFrom n sc.names []).lookup x=some c:=by have q:=vU sc.names n [] (.inl h);exact jz.mp q
def OL{K:Frag}
  (S:cu N ps scope) (hd:A.handled=none) (e0:CH P w K mg base A outer s H) (hl:vs.length=ps.length) (r:Vals vs us)
  (x:InCallC s s.heap.objs.size (bindL (envOfC qual scope s.heap.objs.size f cd).kindOf (ps.zip us) λ_=>none) (cellsFrom (s.heap.objs.size+1) scope.names []) (bindC (envOfC qual scope s.heap.objs.size f cd).kindOf (ps.zip us) λ_=>none) s1):
  Inv (EB CX P w K mg base N qual scope f cd A outer s H E) [] (start N vs) H s1:=by
 have pR:ps.length<=N.length:=by have:=cA List.length S.pre;rw[aS]at this;lia
 obtain⟨h1,tk,rfl,hk⟩:=x.done;have Of:∀b:Addr,b∉(EB CX P w K mg base N qual scope f cd A outer s H E).ex:=λb z=>absurd (show b∈([]:List Addr)from z) (by simp);refine⟨⟨e0.mod,S.kind,rfl,rfl,ak _,λy z c h1 h2=>?_,λy hy=>?_,λy c _ h=>?_,λ_=>hd,Around.frames_deeper e0.frames,.inr ⟨rfl,rfl⟩,λb z=>absurd z (Of b),e0.bs,e0.BF,λb _ _=>Of b,λb z=>absurd z (Of b),e0.qL,e0.FA⟩,
  rfl,e0.bare,Un.kept hk,⟨_,x.toInCall.ns,λi y v h1 h2 h3=>?_⟩,λy c h=>⟨_,x.cell y c h⟩,e0.bw.fresh (ak _),λy c h=>?_,λp hp=>absurd (show p∈([]:List (Addr×Obj))from hp) (by simp),e0.bw.kept hk,?_⟩
 ·exact name_of_addr x.apart (jK h1) (jK h2)
 ·have hy:scope.names.lookup y=some .cell\/scope.names.lookup y=some .free:=hy;rcases hy with hy|hy
  ·exact IP hy
  ·exact absurd rfl (S.X2 _ (jK hy))
 ·exact bu (x.above y c (jK h))
 ·have hi:i<vs.length:=by
   unfold start at h2;by_cases hi:i<vs.length
   ·exact hi
   ·rw[dh (by simpa using hi)]at h2;rw[u6]at h2;split at h2<;>cases h2
  have ha:vs[i]?=some v:=by
   unfold start at h2;rw[dn (by simpa using hi),aJ]at h2;cases e:vs[i]? with
   |none=>rw[e]at h2;cases h2
   |some a=>rw[e]at h2;cases h2;rfl
  obtain⟨u,hu,rv⟩:=r.get ha;have hp:ps[i]?=some y:=by rw[<-S.pre,mZ (by lia)];exact h1
  have ndP:ps.Nodup:=by rw[<-S.pre];exact S.nd.sublist (A4 _ _)
  refine⟨u,rv,?_⟩;rcases S.par y (aC hp)with k|k
  ·exact .inl ⟨k,FJ ndP hp hu k⟩
  ·obtain⟨c,e⟩:=IP (n:=s.heap.objs.size+1) k;refine .inr ⟨.inl k,c,e,?_⟩;have q:=x.cell y c e;rw[FL ndP hp hu (by show scope.names.lookup y≠_;rw[k];decide)]at q;exact q
 ·exact e0.bw.fresh (bu (x.above y c (jK h)))
 ·unfold start;show _=N.length;rw[aK,ag,iQ];lia
def abj{K:Frag}{dV kV doc pm c6 ct oc:Value}
     (lk:K.lookup f=some ⟨oc,od,.func (fnOf name qual params body scope dV kV doc pm an c6 ct),yF⟩) (zW:codeIn K c6 qual=true) (S:cu N ps scope)
  (len:∀vs H Q E,sp vs H Q E->vs.length=ps.length)
  (Mf:∀(A:Around)(outer:List Env)(s:Shared)(H:Hp)(vs:List V)(Q:VK)(E:XK),gh k (A.deeper (envOfC qual scope s.heap.objs.size f c6))->sp vs H Q E->
   ∃t,kU (EB CX P w K mg base N qual scope f c6 A outer s H E) body t/\t {nx:=λ_ H'=>Q .cb H',rt:=Q} (start N vs) H):
  cY P w K mg base CX (k+1) f (fnOf name qual params body scope dV kV doc pm an c6 ct) ps sp:=by
 refine⟨len,λA outer s H args us vs Q E hr e0 hb r Fq=>?_⟩;have hl:=len _ _ _ _ Fq;have KX:K.In s.heap:=e0.mod.OC.keeps λb o e=>(e0.bs b o e).1;have lim:s.heap.NoLimit:=e0.mod.nolimit.keeps λb o e=>(e0.bs b o e).1;have abe:∀y∈ps.zip us,scope.names.lookup y.1=some .local\/(scope.names.lookup y.1=some .cell/\((cellsFrom (s.heap.objs.size+1) scope.names []).lookup y.1).isSome=true):=λ⟨n,v⟩ hy=>by
  rcases S.par n (qh hy).1 with q|q
  ·exact .inl q
  ·exact .inr ⟨q,vU _ _ _ (.inl q)⟩
 refine codeAny_call_function hr.depth (KX _ _ lk) rfl S.co S.gen rfl (PySem.W.codeRec_of KX zW) (hb _ _ _ _ ?_);refine wpAny_newFunctionEnv_cells S.kind abe λenv he s1 x=>?_;subst he;refine⟨lim.keeps x.toInCall.keep,codeAny_func ?_⟩;obtain⟨t,ht,hq⟩:=Mf A outer s H vs Q E (hr.deeper _) Fq;have I:Inv (EB CX P w K mg base N qual scope f c6 A outer s H E) [] (start N vs) H s1:=OL S hr.hd e0 hl r x;refine cR (ht [] s1 (start N vs) H _ I hq) (λfl s' hs=>?_) λe s' hs=>hs;have fin:∀{σ':St}{H':Hp}{v:V}{u:Value},Inv (EB CX P w K mg base N qual scope f c6 A outer s H E) [] σ' H' s'->RelV v u->Q v H'->CE outer P w H s Q u s':=
  λ{σ' H' v u} J rv q=>⟨v,H',J.os,J.bare,J.base,J.bw,rv,q⟩
 cases fl with
 |ret u=>
  obtain⟨v,σ',H',J,rv,q⟩:=hs;exact fin J rv q
 |next=>
  obtain⟨σ',H',J,q⟩:=hs;exact fin (v:=V.cb) (u:=Value.none) J rfl q
 |brk=>
  obtain⟨_,_,_,q⟩:=hs;exact False.elim q
 |cont=>
  obtain⟨_,_,_,q⟩:=hs;exact False.elim q
section
variable{X:Cx}{x:Str}{p pos:Pos}{e:Expr}{es:List Expr}{t:TA}{id T:String}{r:List V->Hp->VK->Prop}
def tCB(r:List V->Hp->VK->Prop)(t:TA):TE:=λZ H Q=>t Z H λvs H1=>r vs H1 Q
def cE(hc:iu X (.builtin id) r)(hg:Gl X x)(hm:X.mg x=none)(hv:bootBuiltins x=some (.builtin id))(ha:PA X (e::es) t)(hn:x≠"__name__":=by decide)(zV:(x==("__debug__":Str))=false:=by decide)
  (he:starEach (e::es) X.env=(false,eval e X.env)::starEach es X.env:=by rfl) (pR:(backTo pos (starEach es X.env)).any (·.1)=false:=by rfl):PE X (.Call (.Name x p) (e::es) [] pos) (tCB r t):=by
 intro pins s Z H Q I h;refine mq (pK I hg hm hv ?_ hn zV);exact PyProof.Rows.callWith_builtin1 (pA (ha pos pins s Z H _ I h) λus s1 vs H1 I1 r1 q1=>hc pins s1 Z H1 vs us Q I1 r1 q1) he pR
def dZ(hc:iu X (.type T) r)(hg:Gl X x)(hm:X.mg x=none)(hv:bootBuiltins x=some (.type T))(ha:PA X (e::es) t)(hn:x≠"__name__":=by decide)(zV:(x==("__debug__":Str))=false:=by decide)
  (he:starEach (e::es) X.env=(false,eval e X.env)::starEach es X.env:=by rfl) (pR:(backTo pos (starEach es X.env)).any (·.1)=false:=by rfl):PE X (.Call (.Name x p) (e::es) [] pos) (tCB r t):=by
 intro pins s Z H Q I h;refine mq (pK I hg hm hv ?_ hn zV);exact dC (pA (ha pos pins s Z H _ I h) λus s1 vs H1 I1 r1 q1=>hc pins s1 Z H1 vs us Q I1 r1 q1) he pR
end
end L2
namespace HT
open PySem PyProof.Rows
section
open PySem.SeqAt
open PySem.AutoSeq1 (wpAny_loadPart')
open PySem.MeetsSeq PySem.MeetsSeq2 PySem.MeetsSeq3
end
section
variable{prog:Program}{w:World}{A:Around}{E:Value->Shared->Prop}{s:Shared}
def Ww(ht:IsTup s.heap t vs.toArray)(hb:IsTup s.heap b ws.toArray)(hv:vs≠[])
  (h1:ws=[]->Q (.ref t) s) (h2:ws≠[]->Q (.ref s.heap.objs.size) {s with heap:=s.heap.push {cls:=.type "tuple",data:=.seq (vs++ws).toArray}})
  (hsz:vs.length+ws.length<=sizeLine):wpAny (model prog w) A (binaryOp .Add (.ref t) (.ref b)) Q E s:=by
 obtain⟨⟨cls,dd,data,sl⟩,ho,hc,n,hd⟩:=id ht;obtain⟨⟨adj,La,data2,S4⟩,yL,wV,n2,hd2⟩:=id hb;simp only at hc hd wV hd2;subst hc hd wV hd2;have e:vs.toArray++ws.toArray=(vs++ws).toArray:=by simp
 by_cases hw:ws=[]
 ·exact zZ ⟨_,ho,rfl⟩ ⟨_,yL,rfl⟩ uv yE oF nO (mV _ _)
   (tuple_addW1 t b vs.toArray ws.toArray n n2 dd La sl S4 (by simpa using hv) (by simp[hw])) ⟨ho,yL,h1 hw⟩
 ·refine zZ ⟨_,ho,rfl⟩ ⟨_,yL,rfl⟩ uv yE oF nO (mV _ _)
   (tuple_addW2 t b vs.toArray ws.toArray n n2 dd La sl S4 (by simpa using hv) (by simpa using hw) (by rw[aN,aN];exact hsz)) ⟨ho,yL,?_⟩
  rw[e];exact h2 hw
def rC(n d:Nat):Option Int->Nat
 |none=>d
 |some v=>if v<0 then(v+(n:Int)).toNat else min v.toNat n
def GG(n d:Nat):rC n d none=d:=rfl
def J4(n d k:Nat):rC n d (some (k:Int))=min k n:=by show(if(k:Int)<0 then((k:Int)+(n:Int)).toNat else min (k:Int).toNat n)=min k n;rw[ax (by lia),cN]
end
end HT
namespace L2
open PySem PySem.Spec PyProof.Rows
abbrev TO:=St->Hp->(Option Int->Hp->Prop)->Prop
def PO(X:Cx)(e:Option Expr)(t:TO):Prop:=
 ∀(pins:List (Addr×Obj))(s:Shared)(Z:St)(H:Hp)(Q:Option Int->Hp->Prop),Inv X pins Z H s->t Z H Q->
  wpAny (model X.prog X.w) X.A (evalPart e X.env) (λu s'=>∃o H',Inv X pins Z H' s'/\IsPart u o/\Q o H') X.xe s
def JT:TO:=λ_ H Q=>Q none H
inductive Xc(Q:Option Int->Hp->Prop)(x:V)(H1:Hp):Prop
 |mk i (_:x=.int i) (_:Q (some i) H1)
def aaH(t:TE):TO:=λZ H Q=>t Z H λx H1=>Xc Q x H1
section
variable{X:Cx}{e:Expr}{te:TE}{lo hi:Option Expr}{tl th:TO}{pos p2:Pos}
def Ej:PO X none JT:=by intro pins s Z H Q I h;rw[evalPart_none];exact ah ⟨none,H,I,.none,h⟩
def Ei(h:PE X e te):PO X (some e) (aaH te):=by intro pins s Z H Q I hw;rw[evalPart_some];refine cV (h pins s Z H _ I hw) λu s1 x H1 I1 r1 q1=>?_;obtain⟨i,rfl,q⟩:=q1;obtain⟨t,rfl⟩:=r1;exact⟨some i,H1,I1,.int i t,q⟩
def UI(X:Cx)(r:V->Option Int->Option Int->Hp->VK->Prop):Prop:=
 ∀(pins:List (Addr×Obj))(s:Shared)(Z:St)(H:Hp)(x:V)(v vl vu:Value)(lo hi:Option Int)(sl:Addr)(Q:VK),Inv X pins Z H s->RelV x v->s.heap.IsSliceOf sl vl vu .none->IsPart vl lo->IsPart vu hi->r x lo hi H Q->
  ∃T id,typeLookup (.type T) "__getitem__"=pure (some (.builtin id))/\s.TypeIs v T/\wpAny (model X.prog X.w) X.A (getItem v (.ref sl)) (EP X pins Z Q) X.xe s
def tSl(r:V->Option Int->Option Int->Hp->VK->Prop)(te:TE)(tl th:TO):TE:=λZ H Q=>te Z H λx H1=>tl Z H1 λl H2=>th Z H2 λu H3=>r x l u H3 Q
def B2(hr:UI X r)(he:PE X e te)(hl:PO X lo tl)(hu:PO X hi th):PE X (.Subscript e (.Slice lo hi none p2) pos) (tSl r te tl th):=by intro pins s Z H Q I h;refine DT (cV (he pins s Z H _ I h) λv s1 x H1 I1 r1 q1=>?_);refine wpAny_Slice (hE (hl pins s1 Z H1 _ I1 q1) λvl s2 acB=>?_);obtain⟨l,H2,I2,pl,q2⟩:=acB;refine hE (hu pins s2 Z H2 _ I2 q2) λvu s3 acA=>?_;obtain⟨u,H3,I3,pu,q3⟩:=acA;rw[evalPart_none];refine ah ?_;have I4:Inv X pins Z H3 {s3 with heap:=s3.heap.push {cls:=.type "slice",data:=.fields #[vl,vu,.none]}}:=I3.kept (t':=s3.toks) λb ob q=>af _ q;obtain⟨T,id,hT,ht,hg⟩:=hr pins {s3 with heap:=s3.heap.push {cls:=.type "slice",data:=.fields #[vl,vu,.none]}} Z H3 x v vl vu l u s3.heap.objs.size Q I4 r1 (Heap.IsSliceOf.new ..) pl pu q3;show wpAny (model X.prog X.w) X.A (subscriptTail e (.Slice lo hi none p2) v (.ref s3.heap.objs.size)) (EP X pins Z Q) X.xe {s3 with heap:=s3.heap.push {cls:=.type "slice",data:=.fields #[vl,vu,.none]}};exact tail_any (ops:=[.ref s3.heap.objs.size,v]) ht hT hg (by with_unfolding_all rfl)
def xZ(xs:List V)(lo hi:Option Int):List V:=(xs.drop (HT.rC xs.length 0 lo)).take (HT.rC xs.length xs.length hi -HT.rC xs.length 0 lo)
def Jw(xs:List V)(lo hi:Option Int):(xZ xs lo hi).length<=xs.length:=by unfold xZ;rw[aS,jG];lia
def Vals.wB(r:Vals xs us):us=[]↔xs=[]:=by
 cases r with
 |nil=>simp
 |cons _ _=>simp
def HL(n:Nat)(i:Int):Option Nat:=if 0<=i then(if i<n then some i.toNat else none)else if -(n:Int)<=i then some (i+n).toNat else none
def rT(xs:List α)(i:Int):Option α:=(HL xs.length i).bind λj=>xs[j]?
def KA(h:HL n i=some j):seqIndex? i n=some j/\j<n/\-(n:Int)<=i/\i<n:=by
 unfold HL at h;by_cases h0:0<=i
 ·rw[aB h0]at h;by_cases h1:i<n
  ·rw[aB h1]at h;have e:i.toNat=j:=bL h;exact⟨by rw[Be h0 h1,e],by lia,by lia,h1⟩
  ·rw[ax h1]at h;cases h
 ·rw[ax h0]at h;by_cases h1:-(n:Int)<=i
  ·rw[aB h1]at h;have e:(i+n).toNat=j:=bL h;exact⟨by rw[zg (by lia) h1,e],by lia,h1,by lia⟩
  ·rw[ax h1]at h;cases h
def EK(h:rT xs i=some v):∃j,seqIndex? i xs.length=some j/\xs[j]?=some v/\j<xs.length/\-(xs.length:Int)<=i/\i<xs.length:=by
 unfold rT at h;cases e:HL xs.length i with
 |none=>rw[e]at h;cases h
 |some j=>
  rw[e]at h;obtain⟨h1,h2,h3,h4⟩:=KA e;exact⟨j,h1,h,h2,h3,h4⟩
def iM{xs:List α}{j:Nat}{v:α}(h:xs[j]?=some v):rT xs (j:Int)=some v:=by
 have hj:j<xs.length:=(aq.mp h).1;have e:HL xs.length (j:Int)=some j:=by unfold HL;rw[aB (by lia),aB (by lia)];simp
 unfold rT;rw[e];exact h
def WC(b:Expr):Prop:=∀o i,subscripted b false o i=operate [o,i] (getItem o i)
end
def Lh(X:Cx)(r:R2):Prop:=
 ∀(value slice:Expr)(pins:List (Addr×Obj))(s:Shared)(Z:St)(H:Hp)(x y:V)(v u:Value)(Q:VK),Inv X pins Z H s->RelV x v->RelV y u->r x y H Q->
  subscripted slice false v u=operate [v,u] (getItem v u)->wpAny (model X.prog X.w) X.A (subscriptTail value slice v u) (EP X pins Z Q) X.xe s
def Qh(X:Cx)(id:String)(r:V->List V->Hp->VK->Prop):Prop:=
 ∀(pins:List (Addr×Obj))(s:Shared)(Z:St)(H:Hp)(x:V)(xs:List V)(v:Value)(us:List Value)(Q:VK),Inv X pins Z H s->RelV x v->Vals xs us->r x xs H Q->
  wpAny (model X.prog X.w) X.A (call (.builtin id) (v::us)) (EP X pins Z Q) X.xe s
section
variable{X:Cx}{a b:Expr}{ta tb:TE}{pos:Pos}
def dF(hr:Lh X r)(ha:PE X a ta)(hb:PE X b tb)(hs:WC b):PE X (.Subscript a b pos) (SO r ta tb):=by intro pins s Z H Q I h;exact DT (Sn ha hb I h λv u s2 x y H2 I2 rx ry q=>hr a b pins s2 Z H2 x y v u Q I2 rx ry q (hs _ _))
inductive XD(K:Frag)(x:V)(y:V)(H:Hp)(Q:VK):Prop
 |mk p xs i v (_:x=.ref p) (_:y=.int i) (_:bp K H p xs) (_:rT xs i=some v) (_:Q v H)
inductive XC(K:Frag)(x:V)(y:V)(H:Hp)(Q:VK):Prop
 |mk p xs i v (_:x=.ref p) (_:y=.int i) (_:bE K H p xs) (_:rT xs i=some v) (_:Q v H)
inductive abN(x:V)(y:V)(H:Hp)(Q:VK):Prop
 |mk z i c (_:x=.str z) (_:y=.int i) (_:z.length<=sizeLine) (_:rT z.cps.toList i=some c) (_:Q (.str ⟨#[c]⟩) H)
def eX:Lh X (XD X.K):=by
 intro value slice pins s Z H x y v u Q I rx ry h hs;obtain⟨p,xs,i,z,rfl,rfl,hq,he,q⟩:=h;cases rx;obtain⟨t,rfl⟩:=ry;obtain⟨aY,r,pl,hz⟩:=I.list hq;obtain⟨j,h1,h2,h3,h4,h5⟩:=EK he;obtain⟨w,ew,om⟩:=r.get h2;have hl:=r.length;have hn:=wD;have fin:EP X pins Z Q w s:=⟨z,H,I,om,q⟩;by_cases h0:0<=i
 ·have hj:i.toNat=j:=by rw[Be h0 h5]at h1;exact bL h1
  exact item_listR pl.isList h0 (by lia) (by rw[hj];simpa using ew) fin hs
 ·have hj:(i+(aY.toArray.size:Int)).toNat=j:=by rw[zg (by lia) h4]at h1;rw[aN,<-hl];exact bL h1
  exact vJ (x:=w) pl.isList.typeIs slot_list_getitem.lookup
   (wpAny_getItem_list_neg (Q:=λr s'=>r=w/\EP X pins Z Q r s') pl.isList (by lia) (by rw[aN]<;>lia) (by lia) (by rw[hj];simpa using ew) ⟨rfl,fin⟩) hs
def rK:Lh X (XC X.K):=by
 intro value slice pins s Z H x y v u Q I rx ry h hs;obtain⟨p,xs,i,z,rfl,rfl,hq,he,q⟩:=h;cases rx;obtain⟨t,rfl⟩:=ry;obtain⟨aY,r,pl,hz⟩:=I.tuple hq;obtain⟨j,h1,h2,h3,h4,h5⟩:=EK he;obtain⟨w,ew,om⟩:=r.get h2;have hl:=r.length;have hn:=wD;have fin:EP X pins Z Q w s:=⟨z,H,I,om,q⟩;exact vJ (x:=w) pl.typeIs slot_tuple_getitem.lookup
  (getItem_tuple (j:=j) (Q:=λr s'=>r=w/\EP X pins Z Q r s') pl (by lia) (by lia) (by rw[aN,<-hl];exact h1) (by simpa using ew) ⟨rfl,fin⟩) hs
def OI:Lh X abN:=by
 intro value slice pins s Z H x y v u Q I rx ry h hs;obtain⟨z,i,c,rfl,rfl,hz,he,q⟩:=h;obtain⟨t,rfl⟩:=rx;obtain⟨t',rfl⟩:=ry;obtain⟨j,h1,h2,h3,h4,h5⟩:=EK he;have hl:z.cps.toList.length=z.length:=by simp[Str.length]
 rw[hl]at h1 h4 h5;have hn:=wD;exact tail_any (m7 s z t) slot_str_getitem.lookup (getItem_str (c:=c) (by
  have e1:decide (i< -(2^63:Int))=false:=bt (by lia);have e2:decide (i≥2^63)=false:=bt (by lia);rw[e1,e2,yT]) (by rw[h1];simpa using h2) ⟨.str ⟨#[c]⟩,H,I.tok _,⟨_,rfl⟩,q⟩) hs
def LQ(aY:List Value)(n j:Nat)(u:Value):Obj.mapSeq (·.setIfInBounds j u) {cls:=.type "list",data:=.seq aY.toArray n}={cls:=.type "list",data:=.seq (aY.set j u).toArray n}:=by simp[Obj.mapSeq]
def Inv.lst(I:Inv X pins Z H s)(h:H p=some (.lst xs)):
  ∃(aY:List Value)(n:Nat),Vals xs aY/\s.heap.get? p=some {cls:=.type "list",data:=.seq aY.toArray n}/\xs.length<=sizeLine:=by
 obtain⟨z,aY,n,r,e⟩:=I.bw p _ h;exact⟨aY,n,r,e,z⟩
def Inv.Yi{aY its':List Value}(I:Inv X pins Z H s)(h:H p=some (.lst xs))
  (ho:s.heap.get? p=some {cls:=.type "list",data:=.seq aY.toArray n}) (hf:f {cls:=.type "list",data:=.seq aY.toArray n}={cls:=.type "list",data:=.seq its'.toArray n'}) (r:Vals ys its') (hz:ys.length<=sizeLine) (t:Nat):
  Inv X pins Z (upd H p (.lst ys)) {s with heap:=s.heap.update p f,toks:=t}:=by
 have e:(s.heap.update p f).get? p=some {cls:=.type "list",data:=.seq its'.toArray n'}:=by rw[b7 f ho (by rw[hf]<;>rfl),hf]
 refine I.write (x:=p) (e:=p) (by rw[h];trivial) (.inl rfl) (λb u hb q=>(bJ _ _ (bP hb)).trans q) ⟨_,e⟩ ?_;exact⟨hz,its',n',r,e⟩
inductive aaU(o:V)(i:V)(v:V)(H:Hp)(Q:Hp->Prop):Prop
 |mk p xs k j (_:o=.ref p) (_:i=.int k) (_:H p=some (.lst xs)) (_:HL xs.length k=some j) (_:Q (upd H p (.lst (xs.set j v))))
def set_list:aau X aaU:=by
 intro pins s Z H o i v ov iv u Q I ro ri rv h;obtain⟨p,xs,k,j,rfl,rfl,hp,hj,q⟩:=h;cases ro;obtain⟨t,rfl⟩:=ri;obtain⟨aY,n,r,ho,hz⟩:=I.lst hp;obtain⟨h1,h2,h3,h4⟩:=KA hj;have hl:=r.length;have hn:=wD;have I':Inv X pins Z (upd H p (.lst (xs.set j v))) {s with heap:=s.heap.update p (Obj.mapSeq (·.setIfInBounds j u))}:=
  I.Yi hp ho (LQ aY n j u) (r.set rv j) (by rw[List.length_set];exact hz) s.toks
 by_cases h0:0<=k
 ·have hk:k.toNat=j:=by rw[Be h0 h4]at h1;exact bL h1
  exact PySem.W.ki_setAt ho h0 (by lia) (by rw[aN,<-hl];exact h4) (by rw[hk];exact⟨_,I',q⟩)
 ·have hk:(k+(aY.toArray.size:Int)).toNat=j:=by rw[zg (by lia) h3]at h1;rw[aN,<-hl];exact bL h1
  exact PySem.W.ki_setBack ho (by lia) (by rw[aN,<-hl];exact h3) (by lia) (by rw[hk];exact⟨_,I',q⟩)
def GC(lo hi:Option Int)(n:Nat):(sliceBounds lo hi none n).1=((HT.rC n 0 lo:Nat):Int)/\(sliceBounds lo hi none n).2.1=((HT.rC n n hi:Nat):Int)/\(sliceBounds lo hi none n).2.2=1:=by
 refine⟨?_,?_,rfl⟩
 ·cases lo with
  |none=>simp[sliceBounds,HT.rC]
  |some i=>
   simp only[sliceBounds,HT.rC,Option.getD_none,show(1:Int)>0 by decide,fJ];by_cases h:i<0
   ·simp only[h,fJ]<;>lia
   ·simp only[h,bX]<;>lia
 ·cases hi with
  |none=>simp[sliceBounds,HT.rC]
  |some i=>
   simp only[sliceBounds,HT.rC,Option.getD_none,show(1:Int)>0 by decide,fJ];by_cases h:i<0
   ·simp only[h,fJ]<;>lia
   ·simp only[h,bX]<;>lia
def FQ(aY:List Value)(lo hi:Option Int):slicePick aY.toArray lo hi none=((aY.drop (HT.rC aY.length 0 lo)).take (HT.rC aY.length aY.length hi -HT.rC aY.length 0 lo)).toArray:=by obtain⟨h1,h2,h3⟩:=GC lo hi aY.toArray.size;unfold slicePick;rw[h1,h2,h3];simp only[sliceRange_one,pick_run,aN]<;>rfl
inductive Xz(K:Frag)(x:V)(lo:Option Int)(hi:Option Int)(H:Hp)(Q:VK):Prop
 |mk a xs (_:x=.ref a) (_:bp K H a xs) (_:∀p,H p=none->Q (.ref p) (upd H p (.lst (xZ xs lo hi))))
def J3:UI X (Xz X.K):=by intro pins s Z H x v vl vu lo hi sl Q I rx hs pl pu h;obtain⟨a,xs,rfl,hx,q⟩:=h;cases rx;obtain⟨aY,r,ht,hz⟩:=I.list hx;have hlen:=r.length;refine⟨"list",_,slot_list_getitem.lookup,ht.isList.typeIs,?_⟩;refine wpAny_getItem_list_slice ht.isList hs pl pu .none (by simp) ?_ (by rw[aN]<;>lia);rw[FQ,<-hlen];refine⟨.ref s.heap.objs.size,_,I.laid (t':=s.toks) (o:=.lst (xZ xs lo hi)) (λb ob q=>af _ q) (ak _) ?_,rfl,q _ (I.bw.fresh (ak _))⟩;exact⟨aE (Jw xs lo hi) hz,_,0,(r.drop (HT.rC xs.length 0 lo)).take (HT.rC xs.length xs.length hi -HT.rC xs.length 0 lo),aG _ rfl⟩
def tM:V->Bool
 | .cb=>true
 | .bl _=>true
 | .int _=>true
 | .str _=>true
 |_=>false
def FE:V->V->Bool
 | .cb,.cb=>true
 | .bl a,.bl b=>a==b
 | .bl a,.int b=>(if a then 1 else 0)==b
 | .int a,.bl b=>a==(if b then 1 else 0)
 | .int a,.int b=>a==b
 | .str a,.str b=>a==b
 |_,_=>false
def aal(ry:RelV y u)(rx:RelV x v)(fy:tM y=true)(fx:tM x=true):SeqAt.EqAt A s u v (FE y x):=by
 cases y with
 |cb=>
  cases ry;cases x with
  |cb=>cases rx;exact SeqAt.EqAt.same _
  |bl b=>cases rx;exact SeqAt.EqAt.none_bool b
  |int b=>obtain⟨t,rfl⟩:=rx;exact SeqAt.EqAt.none_int b t
  |str b=>obtain⟨t,rfl⟩:=rx;exact SeqAt.EqAt.none_str b t
  |_=>exact absurd (show false=true from fx) aT
 |bl a=>
  cases ry;cases x with
  |cb=>cases rx;exact SeqAt.EqAt.bool_none a
  |bl b=>cases rx;exact SeqAt.EqAt.bool_bool a b
  |int b=>obtain⟨t,rfl⟩:=rx;exact SeqAt.EqAt.bool_int a b t
  |str b=>obtain⟨t,rfl⟩:=rx;exact SeqAt.EqAt.bool_str a b t
  |_=>exact absurd (show false=true from fx) aT
 |int a=>
  obtain⟨t',rfl⟩:=ry;cases x with
  |cb=>cases rx;exact SeqAt.EqAt.int_none a t'
  |bl b=>cases rx;exact SeqAt.EqAt.int_bool a t' b
  |int b=>obtain⟨t,rfl⟩:=rx;exact SeqAt.EqAt.int_int a t' b t
  |str b=>obtain⟨t,rfl⟩:=rx;exact Al a t' b t
  |_=>exact absurd (show false=true from fx) aT
 |str a=>
  obtain⟨t',rfl⟩:=ry;cases x with
  |cb=>cases rx;exact SeqAt.EqAt.str_none a t'
  |bl b=>cases rx;exact SeqAt.EqAt.str_bool a t' b
  |int b=>obtain⟨t,rfl⟩:=rx;exact Ak a t' b t
  |str b=>obtain⟨t,rfl⟩:=rx;exact SeqAt.EqAt.str_str a t' b t
  |_=>exact absurd (show false=true from fx) aT
 |_=>exact absurd (show false=true from fy) aT
def DE(x:V)(u:Value):Bool:=match u with
 | .none=>FE .cb x
 | .bool b=>FE (.bl b) x
 | .int i _=>FE (.int i) x
 | .str z _=>FE (.str z) x
 |_=>false
def PK(r:RelV y u)(f:tM y=true):DE x u=FE y x:=by
 cases y with
 |cb=>cases r;rfl
 |bl b=>cases r;rfl
 |int i=>obtain⟨t,rfl⟩:=r;rfl
 |str z=>obtain⟨t,rfl⟩:=r;rfl
 |_=>exact absurd (show false=true from f) aT
theorem EM:∀{xs:List V}{us:List Value},Vals xs us->xs.all tM=true->us.any (DE x)=xs.any λy=>FE y x
 |_,_,.nil,_=>rfl
 |y::xs,u::us,.cons r t,f=>by rw[yS,cM]at f;rw[lJ,lJ,PK r f.1,EM t f.2]
theorem B6(rx:RelV x v)(fx:tM x=true):∀{xs:List V}{us:List Value},Vals xs us->xs.all tM=true->∀u∈us,SeqAt.EqAt A s u v (DE x u)
 |_,_,.nil,_=>λu hu=>by cases hu
 |y::xs,u::us,.cons r t,f=>λu' hu=>by
  rw[yS,cM]at f;rcases aI.mp hu with rfl|hu
  ·rw[PK r f.1];exact aal r rx f.1 fx
  ·exact B6 rx fx t f.2 u' hu
def TH(x:V)(xs:List V):Bool:=xs.any λy=>FE y x
inductive rIn(K:Frag)(neg:Bool)(x:V)(y:V)(H:Hp)(Q:VK):Prop
 |mk p xs (_:y=.ref p) (_:(bp K H p xs\/bE K H p xs)) (_:tM x=true) (_:xs.all tM=true) (_:Q (.bl (if neg then !TH x xs else TH x xs)) H)
def zB:jr X (compareOp .NotIn) (rIn X.K true):=by
 intro pins s Z H x y v u Q I rx ry h;obtain⟨p,xs,rfl,hq,fx,fs,q⟩:=h;cases ry;rcases hq with hq|hq
 ·obtain⟨aY,r,pl,hz⟩:=I.list hq;refine SeqAt.notIn_listAt (DE x) pl.isList (λw hw=>B6 rx fx r fs w (by simpa using hw)) ⟨.bl _,H,I,rfl,?_⟩;rw[show aY.toArray.any (DE x)=aY.any (DE x) by simp,EM r fs];exact q
 ·obtain⟨aY,r,pl,hz⟩:=I.tuple hq;refine SeqAt.notIn_tupleAt (DE x) pl (λw hw=>B6 rx fx r fs w (by simpa using hw)) ⟨.bl _,H,I,rfl,?_⟩;rw[show aY.toArray.any (DE x)=aY.any (DE x) by simp,EM r fs];exact q
def Ab:iu X (.type "list") (λxs H Q=>∃p ys,xs=[.ref p]/\(bp X.K H p ys\/bE X.K H p ys)/\∀l,H l=none->Q (.ref l) (upd H l (.lst ys))):=by
 intro pins s Z H xs us Q I r h;obtain⟨p,ys,rfl,hq,q⟩:=h;obtain⟨u,rfl,rx⟩:=kr r;cases rx;have fin:∀(aY:List Value),Vals ys aY->ys.length<=sizeLine->∀(h':Heap)(c':Nat),(∀b o',s.heap.get? b=some o'->h'.get? b=some o')->
   h'.get? s.heap.objs.size=some {cls:=.type "list",dict:=none,data:=.seq aY.toArray c',slots:=#[]}->EP X pins Z Q (.ref s.heap.objs.size) {s with heap:=h'}:=λaY r' hz h' c' kp e=>
  ⟨.ref s.heap.objs.size,_,I.laid (t':=s.toks) kp (ak _) (show dm X.prog X.w _ h' _ (.lst ys)from⟨hz,aY,c',r',e⟩),rfl,q _ (I.bw.fresh (ak _))⟩
 rcases hq with hq|hq
 ·obtain⟨aY,r',pl,hz⟩:=I.list hq;have hlen:=r'.length;obtain⟨o,ho,hc,n,hd⟩:=pl.isList;exact call_list_seq p (.inl rfl) ho hc hd (λh' c' kp e=>fin aY r' hz h' c' kp e) (by simp only[aN]<;>lia)
 ·obtain⟨aY,r',pl,hz⟩:=I.tuple hq;have hlen:=r'.length;obtain⟨o,ho,hc,n,hd⟩:=pl;exact call_list_seq p (.inr rfl) ho hc hd (λh' c' kp e=>fin aY r' hz h' c' kp e) (by simp only[aN]<;>lia)
def eR:iu X (.type "tuple") (λxs H Q=>∃p ys,xs=[.ref p]/\((bp X.K H p ys/\∀l,H l=none->Q (.ref l) (upd H l (.tup ys)))\/(bE X.K H p ys/\Q (.ref p) H))):=by
 intro pins s Z H xs us Q I r h;obtain⟨p,ys,rfl,h⟩:=h;obtain⟨u,rfl,rx⟩:=kr r;cases rx;rcases h with⟨hq,q⟩|⟨hq,q⟩
 ·obtain⟨aY,r',pl,hz⟩:=I.list hq;have hlen:=r'.length;refine call_tuple_list pl.isList (λh' kp=>?_) (by simp only[aN]<;>lia);have I1:Inv X pins Z H {s with heap:=h'}:=I.kept (t':=s.toks) kp;have I2:Inv X pins Z (upd H h'.objs.size (.tup ys)) {s with heap:=h'.push {cls:=.type "tuple",data:=.seq aY.toArray}}:=
   I1.laid (t':=s.toks) (λb o e=>af _ e) (ak _) (show dm X.prog X.w _ _ _ (.tup ys)from⟨hz,aY,r',IsTup.new _ _,_,aG _ rfl,rfl⟩)
  exact⟨.ref h'.objs.size,_,I2,rfl,q _ (I1.bw.fresh (ak _))⟩
 ·obtain⟨aY,r',pl,hz⟩:=I.tuple hq;exact call_tuple_same pl ⟨.ref p,H,I,rfl,q⟩
noncomputable def tyV(K:Frag)(T:String)(x:V)(H:Hp):Prop:=match x with
 | .str _=>T="str"
 | .int _=>T="int"
 | .ref p=>(T="list"/\∃xs,bp K H p xs)\/(T="tuple"/\((∃xs,H p=some (.tup xs))\/∃o,K.lookup p=some o/\o.cls=.type "tuple"/\o.dict=none))\/
   (T="dict"/\((∃kvs,H p=some (.dK kvs))\/∃kvs,H p=some (.dT kvs)))\/(T="set"/\∃S n,H p=some (.set S n))
 |_=>False
def WZ(I:Inv X pins Z H s)(r:RelV x v)(ty:tyV X.K T x H):
  s.TypeIs v T/\∀a,v=.ref a->∃ob,s.heap.get? a=some ob/\ob.dict=none:=by
 cases x with
 |str z=>
  obtain⟨t,rfl⟩:=r;cases(show T="str"from ty);exact⟨m7 s z t,λ_ e=>nomatch e⟩
 |int i=>
  obtain⟨t,rfl⟩:=r;cases(show T="int"from ty);exact⟨typeIs_int s i t,λ_ e=>nomatch e⟩
 |ref p=>
  cases r;rcases ty with⟨rfl,xs,hq⟩|⟨rfl,⟨xs,hq⟩|⟨o,hk,hc,hd⟩⟩|⟨rfl,hk⟩|⟨rfl,S,n,hk⟩
  ·obtain⟨aY,_,pl,_⟩:=I.list hq;refine⟨pl.isList.typeIs,λa e=>?_⟩;cases e;obtain⟨o,n,e,c,hd,_⟩:=pl;exact⟨o,e,hd⟩
  ·obtain⟨_,_,_,⟨o1,e1,c1,_⟩,o,e,hd⟩:=I.bw p _ hq;refine⟨⟨o1,e1,c1⟩,λa e2=>?_⟩;cases e2;exact⟨o,e,hd⟩
  ·refine⟨⟨o,I.lZ p o hk,hc⟩,λa e=>?_⟩;cases e;exact⟨o,I.lZ _ o hk,hd⟩
  ·have z:∃o,s.heap.get? p=some o/\o.ExactDict:=by
    rcases hk with⟨kvs,hk⟩|⟨kvs,hk⟩
    ·obtain⟨_,_,_,_,o,_,_,e,ex,_⟩:=I.bw p _ hk;exact⟨o,e,ex⟩
    ·obtain⟨_,_,_,_,o,_,_,e,ex,_⟩:=I.bw p _ hk;exact⟨o,e,ex⟩
   obtain⟨o,e,ex⟩:=z;refine⟨⟨o,e,ex.1⟩,λa e2=>?_⟩;cases e2;exact⟨o,e,ex.2.1⟩
  ·obtain⟨o,_,_,_,e,ex,_⟩:=I.bw p _ hk;refine⟨⟨o,e,ex.1⟩,λa e2=>?_⟩;cases e2;exact⟨o,e,ex.2.1⟩
 |_=>exact False.elim ty
def tBM(K:Frag)(T:String)(r:V->List V->Hp->VK->Prop)(to:TE)(t:TA):TE:=λZ H Q=>to Z H λx H1=>tyV K T x H1/\t Z H1 λxs H2=>r x xs H2 Q
variable{o e:Expr}{es:List Expr}{to:TE}{t:TA}{name:Str}{apos dP:Pos}{T id:String}{r:V->List V->Hp->VK->Prop}
def kz(pa:PlainAttrs T)(slot:Slot T name id)(YV:typeOf (.builtin id)=pure (.type "method_descriptor"))(hm:Qh X id r)(ho:PE X o to)(ha:PA X (e::es) t)
  (Dy:attributeBase o name X.env (eval o X.env)=eval o X.env:=by rfl)
  (RN:((backTo dP (starEach (e::es) X.env)).all (λx=>!x.1)&&(backToKw dP (keywordEach [] X.env)).all (λx=>x.1.isSome)
   &&decide ((e::es).length+([]:List Keyword).length+(if([]:List Keyword).isEmpty then 0 else 1)<30))=true:=by rfl)
  (Ds:(apos.endLine==dP.line)=true:=by rfl) (hs:starEach (e::es) X.env=(false,eval e X.env)::starEach es X.env:=by rfl) (Ie:(backTo dP (starEach es X.env)).any (·.1)=false:=by rfl):
  PE X (.Call (.Attribute o name apos) (e::es) [] dP) (tBM X.K T r to t):=by
 intro pins s Z H Q I h;refine wpAny_Call_method_late Dy RN Ds rfl (cV (ho pins s Z H _ I h) λv s1 x H1 I1 r1 acz=>?_);obtain⟨ty,q1⟩:=acz;obtain⟨h1,h2⟩:=WZ I1 r1 ty;refine⟨T,id,pa,slot,YV,h1,h2,?_⟩;have hA:=ha dP pins s1 Z H1 _ I1 q1;rw[hs]at hA⊢;refine ir (by show(false||(backTo dP (starEach es X.env)).any (·.1))=false;rw[Ie]<;>rfl) (k9 ?_);exact hE hA λus s2 ⟨vs,H2,I2,r2,q2⟩=>hm pins s2 Z H2 x vs v us Q I2 r1 r2 q2
end
def Qi(X:Cx)(id:String)(r:V->List V->Hp->VK->Prop):Prop:=
 ∀(pins:List (Addr×Obj))(s:Shared)(Z:St)(H:Hp)(x:V)(xs:List V)(v:Value)(us:List Value)(Q:VK),Inv X pins Z H s->RelV x v->Vals xs us->r x xs H Q->
  wpAny (model X.prog X.w) X.A (call (.builtin id) (v::us)) (EP X pins Z Q) X.xe s
theorem Vals.one:∀{x:V}{us:List Value},Vals [x] us->∃u,us=[u]/\RelV x u
 |_,_,.cons r .nil=>⟨_,rfl,r⟩
theorem Vals.eraseIdx:∀{xs:List V}{us:List Value}(i:Nat),Vals xs us->Vals (xs.eraseIdx i) (us.eraseIdx i)
 |_,_,_,.nil=>.nil
 |_,_,0,.cons _ t=>t
 |_,_,i+1,.cons r t=>.cons r (Vals.eraseIdx i t)
theorem Fh{α:Type}:∀(l:List α)(i:Nat),(l.eraseIdx i).length<=l.length
 |[],_=>ak _
 |_::_,0=>eG _
 |_::r,i+1=>Nat.succ_le_succ (Fh r i)
section
variable{X:Cx}{pins:List (Addr×Obj)}{Z:St}{H:Hp}{s:Shared}{l:Addr}{xs ys:List V}
def Inv.LV{aY its':List Value}(I:Inv X pins Z H s)(hH:H l=some (.lst xs))
  (e:s.heap.get? l=some {cls:=.type "list",data:=.seq aY.toArray n}) (hf:f aY.toArray=its'.toArray) (hv:Vals ys its') (hz:ys.length<=sizeLine):
  Inv X pins Z (upd H l (.lst ys)) {s with heap:=s.heap.update l (Obj.mapSeq f),toks:=t'}:=by
 have q:=PySem.IsL.update e f;rw[hf]at q;refine I.write (x:=l) (e:=l) (by rw[hH];exact trivial) (.inl rfl) (λb' u hb hu=>(bJ s.heap (Obj.mapSeq f) (bP hb)).trans hu) ⟨_,q⟩ ?_;exact⟨hz,its',_,hv,q⟩
def Inv.ab2(I:Inv X pins Z H s)(hv:Vals ys aY)(hz:ys.length<=sizeLine):
  Inv X pins Z (upd H s.heap.objs.size (.lst ys)) {s with heap:=s.heap.push {cls:=.type "list",data:=.seq aY.toArray},toks:=t'}:=
 I.laid (λ_ _ q=>af _ q) (ak _) ⟨hz,aY,0,hv,aG _ rfl⟩
def Inv.fresh(I:Inv X pins Z H s):H s.heap.objs.size=none:=I.bw.fresh (ak _)
def Inv.B7(I:Inv X pins Z H s)(hH:H l=some (.lst xs)):xs.length<=sizeLine/\∃(aY:List Value)(n:Nat),Vals xs aY/\xs.length=aY.length/\s.heap.get? l=some {cls:=.type "list",data:=.seq aY.toArray n}:=by obtain⟨z,aY,n,r,e⟩:=I.bw l _ hH;exact⟨z,aY,n,r,r.length,e⟩
def Ht(h:n<=sizeLine):Builtin.List.listTooLong n=false:=by unfold Builtin.List.listTooLong;exact bt (by lia)
end
section
variable{X:Cx}
inductive Vn(x:V)(vs:List V)(H:Hp)(Q:VK):Prop
 |mk l xs y (_:x=.ref l) (_:vs=[y]) (_:H l=some (.lst xs)) (_:xs.length<sizeLine) (_:Q .cb (upd H l (.lst (xs++[y]))))
def jo:Qi X "list.append" Vn:=by intro pins s Z H x vs v us Q I rx rv h;obtain⟨l,xs,y,rfl,rfl,hH,hz,q⟩:=h;cases rx;obtain⟨u,rfl,ru⟩:=rv.one;obtain⟨z,aY,n,r,hl,e⟩:=I.B7 hH;refine tP Ay ⟨_,e,rfl⟩ yY (yx _ _) (A0 l aY.toArray n u (by rw[aN];lia)) ⟨e,?_⟩;refine⟨.cb,_,I.LV (its':=aY++[u]) hH e (by simp) (r.append (.cons ru .nil)) ?_,rfl,q⟩;rw[aK,de];lia
inductive Vm(x:V)(vs:List V)(H:Hp)(Q:VK):Prop
 |mk l b xs zs (_:x=.ref l) (_:vs=[.ref b]) (_:H l=some (.lst xs)) (_:H b=some (.lst zs)) (_:xs.length+zs.length<=sizeLine) (_:Q .cb (upd H l (.lst (xs++zs))))
def Om:Qi X "list.extend" Vm:=by
 intro pins s Z H x vs v us Q I rx rv h;obtain⟨l,b,xs,zs,rfl,rfl,hH,hB,hz,q⟩:=h;cases rx;obtain⟨u,rfl,ru⟩:=rv.one;cases ru;obtain⟨z,aY,n,r,hl,e⟩:=I.B7 hH;obtain⟨z2,oW,n2,r2,km,e2⟩:=I.B7 hB;have hsz:aY.toArray.size+oW.toArray.size<=sizeLine:=by rw[aN,aN];lia
 have L8:¬(!aY.toArray.isEmpty&&Builtin.List.listTooLong (aY.toArray.size+oW.toArray.size))=true:=by rw[Ht hsz,nK];exact aT
 refine tP Ax ⟨_,e,rfl⟩ yX (yw _ _)
  (AutoSeq1.list_extend_list_list_0 l aY.toArray n b oW.toArray n2 L8 (by rw[aN];lia) (by lia)) ⟨e,e2,?_⟩
 refine⟨.cb,_,I.LV (its':=aY++oW) hH e (by simp) (r.append r2) ?_,rfl,q⟩;rw[aK];lia
inductive XA(x:V)(vs:List V)(H:Hp)(Q:VK):Prop
 |mk l xs i k y (_:x=.ref l) (_:vs=[.int i]) (_:H l=some (.lst xs)) (_:-(2^63)<=i) (_:i<2^63) (_:seqIndex? i xs.length=some k) (_:xs[k]?=some y) (_:Q y (upd H l (.lst (xs.eraseIdx k))))
def Q9:Qi X "list.pop" XA:=by
 intro pins s Z H x vs v us Q I rx rv h;obtain⟨l,xs,i,k,y,rfl,rfl,hH,h1,h2,hk,hy,q⟩:=h;cases rx;obtain⟨u,rfl,ru⟩:=rv.one;obtain⟨t,rfl⟩:=ru;obtain⟨z,aY,n,r,hl,e⟩:=I.B7 hH;obtain⟨w,hw,om⟩:=r.get hy;refine tP F.slot_list_pop ⟨_,e,rfl⟩ F.entry_list_pop (F.args_list_pop_2 _ _)
  (MeetsSeq.list_pop_at l aY.toArray n i t k w (fitsIndex_both h1 h2) (by rw[aN,<-hl];exact hk) (by rw[<-bD];exact hw) (by rw[aN];lia)) ⟨e,?_⟩
 refine⟨y,_,I.LV (its':=aY.eraseIdx k) hH e ?_ (r.eraseIdx k) ?_,om,q⟩
 ·show aY.toArray.eraseIdxIfInBounds k=(aY.eraseIdx k).toArray;rw[List.eraseIdxIfInBounds_toArray]
 ·have:=Fh xs k;lia
inductive abS(x:V)(y:V)(H:Hp)(Q:VK):Prop
 |mk l b xs zs (_:x=.ref l) (_:y=.ref b) (_:H l=some (.lst xs)) (_:H b=some (.lst zs)) (_:xs.length+zs.length<=sizeLine) (_:∀p,H p=none->Q (.ref p) (upd H p (.lst (xs++zs))))
def Hm:jr X (binaryOp .Add) abS:=by
 intro pins s Z H x y v u Q I rx ry h;obtain⟨l,b,xs,zs,rfl,rfl,hH,hB,hz,q⟩:=h;cases rx;cases ry;obtain⟨z,aY,n,r,hl,e⟩:=I.B7 hH;obtain⟨z2,oW,n2,r2,km,e2⟩:=I.B7 hB;refine PySem.P.add_list e e2 ?_ (by rw[aN,aN];lia);have ea:aY.toArray++oW.toArray=(aY++oW).toArray:=by simp
 rw[ea];exact⟨.ref _,_,I.ab2 (t':=s.toks) (r.append r2) (by rw[aK];lia),rfl,q _ I.fresh⟩
end
section
variable{κ:Type}[DecidableEq κ]
def eI(kvs:List (κ×V))(k:κ):Option V:=(kvs.find? λkv=>decide (kv.1=k)).map (·.2)
def putK(kvs:List (κ×V))(k:κ)(v:V):List (κ×V):=
 if(kvs.any λkv=>decide (kv.1=k))=true then kvs.map (λkv=>if kv.1=k then(kv.1,v)else kv)else kvs++[(k,v)]
def gL{p:κ×V}{k:κ}(e:p.1=k):eI (p::r) k=some p.2:=by simp[eI,kg,e]
def gg{p:κ×V}{k:κ}(e:¬p.1=k):eI (p::r) k=eI r k:=by simp[eI,kg,e]
theorem oS(k:κ):∀kvs:List (κ×V),(kvs.any λkv=>decide (kv.1=k))=(eI kvs k).isSome
 |[]=>rfl
 |p::r=>by
  rw[lJ];by_cases e:p.1=k
  ·simp only[gL e,aU e,Bool.true_or,Option.isSome_some]
  ·rw[gg e,bt e,Bool.false_or];exact oS k r
theorem Gh(k j:κ)(y:V):∀kvs:List (κ×V),eI (kvs.map λkv=>if kv.1=k then(kv.1,y)else kv) j=(eI kvs j).map λx=>if j=k then y else x
 |[]=>rfl
 |p::r=>by
  have ih:=Gh k j y r;rw[aX];by_cases h:p.1=k
  ·rw[aB h];by_cases e:p.1=j
   ·rw[gL (p:=(p.1,y)) e,gL e,dM,aB (e.symm.trans h)]
   ·rw[gg (p:=(p.1,y)) e,gg e,ih]
  ·rw[ax h];by_cases e:p.1=j
   ·rw[gL (p:=p) e,gL e,dM,ax (λz=>h (e.trans z))]
   ·rw[gg (p:=p) e,gg e,ih]
theorem ER(k j:κ)(y:V):∀kvs:List (κ×V),eI kvs k=none->eI (kvs++[(k,y)]) j=if j=k then some y else eI kvs j
 |[],_=>by
  by_cases e:k=j
  ·rw[aB e.symm];exact gL (p:=(k,y)) e
  ·rw[ax (λz=>e z.symm)];exact gg (p:=(k,y)) e
 |p::r,hn=>by
  rw[il];have hk:¬p.1=k:=λz=>by rw[gL z]at hn;cases hn
  rw[gg hk]at hn;have ih:=ER k j y r hn;by_cases e:p.1=j
  ·rw[gL e,gL e,ax (λz=>hk (e.trans z))]
  ·rw[gg e,gg e,ih]
def Qt(kvs:List (κ×V))(k j:κ)(y:V):eI (putK kvs k y) j=if j=k then some y else eI kvs j:=by
 unfold putK;by_cases a:(kvs.any λkv=>decide (kv.1=k))=true
 ·rw[aB a,Gh];rw[oS]at a;by_cases e:j=k
  ·obtain⟨x,hx⟩:=jz.mp a;rw[aB e,e,hx,dM,aB rfl]
  ·rw[ax e];cases eI kvs j with
   |none=>rfl
   |some x=>rw[dM,ax e]
 ·rw[ax a];refine ER k j y kvs ?_;rw[oS]at a;cases q:eI kvs k with
  |none=>rfl
  |some x=>rw[q]at a;exact(a rfl).elim
def vQ(kvs:List (κ×V))(k:κ)(v:V):(putK kvs k v).length<=kvs.length+1:=by
 unfold putK;split
 ·rw[ag];lia
 ·rw[aK,bH,cS];lia
def GX{k:κ}(v:V)(h:eI kvs k=none):putK kvs k v=kvs++[(k,v)]:=by unfold putK;rw[oS,h];exact ax (by decide)
def kL.rL(r:kL o u):o.isSome=u.isSome:=by
 cases o with
 |none=>cases u with
  |none=>rfl
  |some _=>exact(show False from r).elim
 |some _=>cases u with
  |none=>exact(show False from r).elim
  |some _=>rfl
def kL.getD(r:kL o u)(rd:RelV d d'):RelV (o.getD d) (u.getD d'):=by
 cases o with
 |none=>cases u with
  |none=>exact rd
  |some _=>exact(show False from r).elim
 |some _=>cases u with
  |none=>exact(show False from r).elim
  |some _=>exact r
def KV.val(r:KV kvs vs)(k:κ):kL (eI kvs k) (valueAt vs k):=by
 unfold KV at r
 induction r with
 |nil=>exact True.intro
 |@cons p q ps qs h t ih=>
  obtain⟨h1,h2⟩:=h;by_cases e:p.1=k
  ·have e':q.1=k:=h1.symm.trans e;have b:valueAt (q::qs) k=some q.2:=by simp[valueAt,kg,e']
   rw[gL e,b];exact h2
  ·have e':¬q.1=k:=λz=>e (h1.trans z);have b:valueAt (q::qs) k=valueAt qs k:=by simp[valueAt,kg,e']
   rw[gg e,b];exact ih
def KV.any(r:KV kvs vs)(k:κ):(kvs.any λkv=>decide (kv.1=k))=vs.any λkv=>decide (kv.1=k):=by
 unfold KV at r
 induction r with
 |nil=>rfl
 |cons h t ih=>rw[lJ,lJ,ih,h.1]
def KV.QN(r:KV kvs vs)(k:κ)(ry:RelV y u):
  KV (kvs.map λkv=>if kv.1=k then(kv.1,y)else kv) (vs.map λkv=>if kv.1=k then(kv.1,u)else kv):=by
 unfold KV at r⊢
 induction r with
 |nil=>exact .nil
 |@cons p q ps qs h t ih=>
  rw[aX,aX];refine .cons ?_ ih;obtain⟨h1,h2⟩:=h;by_cases e:p.1=k
  ·rw[aB e,aB (h1.symm.trans e)];exact⟨h1,ry⟩
  ·rw[ax e,ax (λz=>e (h1.trans z))];exact⟨h1,h2⟩
def KV.put(r:KV kvs vs)(k:κ)(ry:RelV y u):KV (putK kvs k y) (stored vs k u):=by
 unfold putK stored;rw[r.any k];by_cases e:(vs.any λkv=>decide (kv.1=k))=true
 ·rw[aB e,aB e];exact r.QN k ry
 ·rw[ax e,ax e];exact lM r ⟨rfl,ry⟩
def KV.keys{kvs:List (κ×V)}(r:KV kvs vs):kvs.map (·.1)=vs.map (·.1):=by
 unfold KV at r
 induction r with
 |nil=>rfl
 |cons h t ih=>rw[aX,aX,ih,h.1]
def KV.length{kvs:List (κ×V)}(r:KV kvs vs):kvs.length=vs.length:=bB r
end
def tL(r:RelV (kV k) u):(bA P w).is k u=true:=by
 cases k with
 |inl i=>obtain⟨t,e⟩:=(show∃t,u=Value.int i t from r);subst e;exact Jo P w i t
 |inr x=>obtain⟨t,e⟩:=(show∃t,u=Value.str x t from r);subst e;exact Bk P w x t
theorem Fl:∀{ks:List Key}{us:List Value},Vals (ks.map kV) us->ItemsAre (bA P w) ks us
 |[],_,r=>by rw[jF]at r;cases r;exact .nil
 |k::ks,_,r=>by
  rw[aX]at r;cases r with
  |cons h t=>exact .cons (tL h) (Fl t)
abbrev KT(H:Hp):List (List Key×V)->List (List Key×Addr×Value)->Prop:=Paired λp q=>p.1=q.1/\H q.2.1=some (.tup (p.1.map kV))/\RelV p.2 q.2.2
def KT.val(r:KT H kvs xs)(k:List Key):kL (eI kvs k) ((atKey xs k).map (·.2)):=by
 induction r with
 |nil=>exact True.intro
 |@cons p q ps qs h t ih=>
  obtain⟨h1,_,h2⟩:=h;by_cases e:p.1=k
  ·have e':q.1=k:=h1.symm.trans e;have b:atKey (q::qs) k=some q.2:=by simp[atKey,kg,e']
   rw[gL e,b];exact h2
  ·have e':¬q.1=k:=λz=>e (h1.trans z);have b:atKey (q::qs) k=atKey qs k:=by simp[atKey,kg,e']
   rw[gg e,b];exact ih
def KT.QN(r:KT H kvs xs)(k:List Key)(ry:RelV y u):
  KT H (kvs.map λkv=>if kv.1=k then(kv.1,y)else kv) (xs.map (putAt k u)):=by
 induction r with
 |nil=>exact .nil
 |@cons p q ps qs h t ih=>
  rw[aX,aX];refine .cons ?_ ih;obtain⟨h1,h2,h3⟩:=h;unfold putAt;by_cases e:p.1=k
  ·rw[aB e,aB (h1.symm.trans e)];exact⟨h1,h2,ry⟩
  ·rw[ax e,ax (λz=>e (h1.trans z))];exact⟨h1,h2,h3⟩
def KT.put(r:KT H kvs xs)(k:List Key)(hb:H b=some (.tup (k.map kV)))(ry:RelV y u):
  KT H (putK kvs k y) (storedH xs k b u):=by
 have e:(kvs.any λkv=>decide (kv.1=k))=(atKey xs k).isSome:=by rw[oS,(r.val k).rL,iY]
 unfold putK storedH;rw[e];by_cases q:(atKey xs k).isSome=true
 ·rw[aB q,aB q];exact r.QN k ry
 ·rw[ax q,ax q];exact lM r ⟨rfl,hb,ry⟩
def KT.keeps(r:KT H kvs xs)(ht:∀b ys,H b=some (.tup ys)->H' b=some (.tup ys)):KT H' kvs xs:=
 Paired.qJ r λ_ _ z=>⟨z.1,ht _ _ z.2.1,z.2.2⟩
section
variable{P:Program}{w:World}{H:Hp}{h:Heap}{a:Addr}
def Ta(ok:jc P w H h)(e:Rd H a u):dm P w H h a u:=e.ok ok
def xX(ok:jc P w H h)(e:Rd H a (.dK kvs)):kvs.length<=sizeLine/\(a==sysModules)=false/\∃vs,KV kvs vs/\h.DictOf (bA P w) a vs:=
 show dm P w H h a (.dK kvs)from Ta ok e
def tN(ok:jc P w H h)(e:H a=some (.dK kvs)):kvs.length<=sizeLine/\(a==sysModules)=false/\∃vs,KV kvs vs/\h.DictOf (bA P w) a vs:=xX ok (.inl e)
def zM(ok:jc P w H h)(e:H a=some (.tup (ks.map kV))):(tupleKind (bA P w)).is h ks a:=by obtain⟨_,aY,r,⟨o,h1,h2,n,h3⟩,_⟩:=(show dm P w H h a (.tup (ks.map kV))from ok a _ e);exact⟨o,aY.toArray,n,h1,h2,h3,by simpa using Fl r⟩
def AS(ok:jc P w H h)(e:Rd H a (.dT kvs)):kvs.length<=sizeLine/\(a==sysModules)=false/\
  ∃xs,KT H kvs xs/\h.DictOfH (tupleKind (bA P w)) a xs:=by
 obtain⟨z,y,xs,r,o,es,ep,h1,h2,h3,h4,h5⟩:=(show dm P w H h a (.dT kvs)from Ta ok e);refine⟨z,y,xs,r,o,es,ep,h1,h2,h3,h4,λx hx=>?_,h5⟩;have all:∀{l:List (List Key×V)}{m:List (List Key×Addr×Value)},KT H l m->∀x∈m,(tupleKind (bA P w)).is h x.1 x.2.1:=by
  intro l m q
  induction q with
  |nil=>intro x hx;exact nomatch hx
  |@cons p q ps qs hq t ih=>
   intro x hx;rcases aI.mp hx with e|hx
   ·subst e;exact zM ok (by rw[<-hq.1];exact hq.2.1)
   ·exact ih x hx
 exact all r x hx
def abp(ok:jc P w H h)(e:H a=some (.dT kvs)):kvs.length<=sizeLine/\(a==sysModules)=false/\
  ∃xs,KT H kvs xs/\h.DictOfH (tupleKind (bA P w)) a xs:=AS ok (.inl e)
end
def ki(H:Hp)(a:Addr)(y:V)(r:Option V):Prop:=
 (∃kvs k,Rd H a (.dK kvs)/\y=kV k/\r=eI kvs k)\/∃kvs k b,Rd H a (.dT kvs)/\y=.ref b/\H b=some (.tup (k.map kV))/\r=eI kvs k
def AA(H:Hp)(a:Addr)(y v:V)(H':Hp):Prop:=
 (∃kvs k,H a=some (.dK kvs)/\y=kV k/\kvs.length<sizeLine/\H'=upd H a (.dK (putK kvs k v)))\/
 ∃kvs k b,H a=some (.dT kvs)/\y=.ref b/\H b=some (.tup (k.map kV))/\kvs.length<sizeLine/\H'=upd H a (.dT (putK kvs k v))
theorem ki.k{H:Hp}{a:Addr}{kvs:List (Key×V)}{k:Key}(e:H a=some (.dK kvs)):ki H a (kV k) (eI kvs k):=.inl ⟨kvs,k,.inl e,rfl,rfl⟩
theorem AA.k{H:Hp}{a:Addr}{kvs:List (Key×V)}{k:Key}{v:V}(e:H a=some (.dK kvs))(hl:kvs.length<sizeLine):AA H a (kV k) v (upd H a (.dK (putK kvs k v))):=.inl ⟨kvs,k,e,rfl,hl,rfl⟩
section
variable{X:Cx}{pins:List (Addr×Obj)}{Z:St}{H:Hp}{s:Shared}{a:Addr}{y v:V}{u r:Value}{o:Option V}{A:Around}{E:Value->Shared->Prop}
def Inv.big(I:Inv X pins Z H s):sysModules<s.heap.objs.size:=by have h:mainGlobals<s.heap.objs.size:=(I.mod.glob.keeps I.bk).lt;exact fC (by decide) h
def PY(hu:A.units+1<cLine)(I:Inv X pins Z H s)(g:ki H a y (some v))(ry:RelV y u)(h:∀w' s',Inv X pins Z H s'->RelV v w'->Q w' s'):
  wpAny (model X.prog X.w) A (getItem (.ref a) u) Q E s:=by
 rcases g with⟨kvs,k,e,ey,l⟩|⟨kvs,k,b,e,ey,eb,l⟩
 ·subst ey;obtain⟨z,hd,vs,rel,dd⟩:=xX I.bw e;obtain⟨w',hw,om⟩:=kL.some_of (v:=v) (o:=valueAt vs k) (by rw[l];exact rel.val k);exact wpAny_getItem_of (tL ry) dd.mapOf hw (h w' _ (I.tok _) om)
 ·subst ey;cases(show u=Value.ref b from ry);obtain⟨z,hd,xs,rel,dd⟩:=AS I.bw e;obtain⟨w',hw,om⟩:=kL.some_of (v:=v) (o:=(atKey xs k).map (·.2)) (by rw[l];exact rel.val k);obtain⟨p,hp,vv⟩:=bo.mp hw;refine y7 (mw hu) (zM I.bw eb) dd hp ?_;rw[vv];exact h w' _ (I.tok _) om
def adh(hu:A.units+1<cLine)(I:Inv X pins Z H s)(g:ki H a y o)(ry:RelV y u)(h:∀s',Inv X pins Z H s'->Q (.bool o.isSome) s'):
  wpAny (model X.prog X.w) A (compareOp .In u (.ref a)) Q E s:=by
 rcases g with⟨kvs,k,e,ey,l⟩|⟨kvs,k,b,e,ey,eb,l⟩
 ·subst ey;obtain⟨z,hd,vs,rel,dd⟩:=xX I.bw e;refine wpAny_in_of (tL ry) hd dd.mapOf ?_;rw[<-(rel.val k).rL,<-l];exact h _ (I.tok _)
 ·subst ey;cases(show u=Value.ref b from ry);obtain⟨z,hd,xs,rel,dd⟩:=AS I.bw e;refine wpAny_in_heap (mw hu) (zM I.bw eb) hd dd ?_;have q:=(rel.val k).rL;rw[iY]at q;rw[<-q,<-l];exact h _ (I.tok _)
def qO(I:Inv X pins Z H s)(mu:Qg (H a))(hs:Heap.SameBut a s.heap h')(he:∃q,h'.get? a=some q)(new:dm X.prog X.w (upd H a ob) h' a ob):
  Inv X pins Z (upd H a ob) {s with heap:=h',toks:=t'}:=
 I.write (x:=a) (e:=a) mu (.inl rfl) (λb q hb z=>(hs.2 b hb).trans z) he new
def w5(z:kvs.length<=sizeLine)(hd:(a==sysModules)=false)(rel:KV kvs vs)(dd:h'.DictOf (bA P w) a vs):
  dm P w H' h' a (.dK kvs):=⟨z,hd,vs,rel,dd⟩
def PR(hu:A.units+1<cLine)(I:Inv X pins Z H s)(g:AA H a y v H')(ry:RelV y u)(rv:RelV v r)(h:∀s',Inv X pins Z H' s'->Q () s'):
  wpAny (model X.prog X.w) A (setItem (.ref a) u r) Q E s:=by
 rcases g with⟨kvs,k,e,ey,l,eH⟩|⟨kvs,k,b,e,ey,eb,l,eH⟩
 ·subst ey eH;obtain⟨z,hd,vs,rel,dd⟩:=tN I.bw e;have hz:vs.length<=sizeLine:=by rw[<-rel.length];exact z
  have hl:(putK kvs k v).length<=sizeLine:=by have:=vQ kvs k v;lia
  refine wpAny_setItem_pairs (hsz:=hz) (tL ry) dd λh' qx hs=>h _ ?_;have he:∃q,h'.get? a=some q:=let⟨q,_,_,hq,_⟩:=qx;⟨q,hq⟩
  exact qO I (by rw[e];exact True.intro) hs he (w5 hl hd (rel.put k rv) qx)
 ·subst ey eH;cases(show u=Value.ref b from ry);obtain⟨z,hd,xs,rel,dd⟩:=abp I.bw e;have hz:xs.length<=sizeLine:=by rw[<-bB rel];exact z
  have hl:(putK kvs k v).length<=sizeLine:=by have:=vQ kvs k v;lia
  refine y0 (hsz:=hz) (mw hu) (zM I.bw eb) dd λh' qx hs=>h _ ?_;obtain⟨q,es,ep,hq,h2,h3,h4,_,h5⟩:=qx;refine qO I (by rw[e];exact True.intro) hs ⟨q,hq⟩ ⟨hl,hd,_,(rel.put k eb rv).keeps λc ys ec=>?_,q,es,ep,hq,h2,h3,h4,h5⟩;rw[aw (vk ec e (λz=>nomatch z))];exact ec
def Ss(i:Expr):Prop:=∀ov iv,subscripted i false ov iv=operate [ov,iv] (getItem ov iv)
end
def JX{T id:String}
  (hl:typeLookup (.type T) "__getitem__"=pure (some (.builtin id))) (hs:Ss slice)
  (h:wpAny (model prog w) A (eval value env) (λo aaa=>wpAny (model prog w) A (eval slice env) (λi aae=>aae.TypeIs o T/\wpAny (model prog w) A (getItem o i) Q E aae) E aaa) E s):
  wpAny (model prog w) A (eval (.Subscript value slice pos) env) Q E s:=by
 refine DT (cR h (λo aaa acb=>cR acb (λi aae aag=>?_) λ_ _ x=>x) λ_ _ x=>x);obtain⟨hT,aag⟩:=aag;unfold subscriptTail;refine ae ?_;rw[getitemInPython_of_ne hT.not_modules];refine ae (gK hT hl ?_);have fin:wpAny (model prog w) A (subscripted slice false o i) (λr aah=>wpAny (model prog w) A (letTemporaryGo value o r>>=λ_=>pure r) Q E aah) E aae:=by rw[hs o i];exact wpAny_operating (cR aag (λr aah aca=>ae (wpAny_letTemporaryGo (ah aca))) λ_ _ x=>x)
 first
  |exact ah (ae fin)
  |exact ae (ah (ae fin))
  |exact ae fin
def Ju(I:Inv X pins Z H s)(g:ki H a y o):s.TypeIs (.ref a) "dict":=by
 rcases g with⟨kvs,k,e,_,_⟩|⟨kvs,k,b,e,_,_,_⟩
 ·obtain⟨_,_,vs,_,dd⟩:=xX I.bw e;exact dd.typeIs
 ·obtain⟨_,_,xs,_,dd⟩:=AS I.bw e;exact dd.typeIs
inductive Xh(Q:VK)(x:V)(y:V)(H2:Hp):Prop
 |mk a v (_:x=.ref a) (_:ki H2 a y (some v)) (_:Q v H2)
def aaO(td ty:TE):TE:=λZ H Q=>td Z H λx H1=>ty Z H1 λy H2=>Xh Q x y H2
inductive aaN(Q:VK)(y:V)(x:V)(H2:Hp):Prop
 |mk a o (_:x=.ref a) (_:ki H2 a y o) (_:Q (.bl o.isSome) H2)
def abJ(ty td:TE):TE:=λZ H Q=>ty Z H λy H1=>td Z H1 λx H2=>aaN Q y x H2
inductive Xp(D:Ends)(Z:St)(v:V)(x:V)(y:V)(H3:Hp):Prop
 |mk a H4 (_:x=.ref a) (_:AA H3 a y v H4) (_:D.nx Z H4)
def aaT(td ty tv:TE):TS:=λD Z H=>tv Z H λv H1=>td Z H1 λx H2=>ty Z H2 λy H3=>Xp D Z v x y H3
section
variable{X:Cx}{o i value:Expr}{pos pos':Pos}{td ty tv:TE}
def AK(hu:X.A.units+1<cLine)(ho:PE X o td)(hi:PE X i ty)(hs:Ss i):PE X (.Subscript o i pos) (aaO td ty):=by intro pins s Z H Q I h;refine JX PySem.F.slot_dict_getitem.lookup hs (cV (ho pins s Z H _ I h) λu s1 x H1 I1 rx q1=>cV (hi pins s1 Z H1 _ I1 q1) λiv s2 y H2 I2 ry acy=>?_);obtain⟨a,v,ex,g,q2⟩:=acy;subst ex;obtain rfl:u=Value.ref a:=rx;exact⟨Ju I2 g,PY hu I2 g ry λw' s3 I3 om=>⟨v,H2,I3,om,q2⟩⟩
def Hh(hu:X.A.units+1<cLine)(hi:PE X i ty)(ho:PE X o td):PC X .In i o (abJ ty td):=by intro pins s Z H Q I h;refine cV (hi pins s Z H _ I h) λiv s1 y H1 I1 ry q1=>cV (ho pins s1 Z H1 _ I1 q1) λu s2 x H2 I2 rx acx=>?_;obtain⟨a,ov,ex,g,q2⟩:=acx;subst ex;obtain rfl:u=Value.ref a:=rx;exact adh hu I2 g ry λs3 I3=>⟨.bl ov.isSome,H2,I3,rfl,q2⟩
def wx(hu:X.A.units+1<cLine)(ho:PE X o td)(hi:PE X i ty)(hv:PE X value tv)(hs:swapsWith value (some (.Subscript o i pos')) pos.line X.env=pure false):
  PS X (.Assign [.Subscript o i pos'] value pos) (aaT td ty tv):=by
 intro pins s Z H D I h;refine vH (cV (hv pins s Z H _ I h) λr s1 v H1 I1 rv q1=>cV (ho pins s1 Z H1 _ I1 q1) λu s2 x H2 I2 rx q2=>cV (hi pins s2 Z H2 _ I2 q2) λiv s3 y H3 I3 ry acw=>?_) hs;obtain⟨a,H4,ex,g,q3⟩:=acw;subst ex;obtain rfl:u=Value.ref a:=rx;exact PR hu I3 g ry rv λs4 I4=>⟨Z,H4,I4,q3⟩
def Cp(h:Heap)(hb:sysModules<h.objs.size):dm P w H (h.push {cls:=.type "dict",data:=.dict #[]}) h.objs.size (.dK []):=
 ⟨aO _,fb.mpr (bP (aH hb)),[],.nil,vF h⟩
def Xf:TE:=λ_ H Q=>∀p,H p=none->Q (.ref p) (upd H p (.dK []))
def kZ:PE X (.Dict [] [] pos) Xf:=λpins s Z H Q I h=>
 wpAny_Dict_empty ⟨.ref s.heap.objs.size,_,I.laid (a:=s.heap.objs.size) (o:=.dK []) (t':=s.toks) (λ_ _ q=>af _ q) (ak _) (Cp s.heap I.big),rfl,h _ (I.bw.fresh (ak _))⟩
end
def CO:List (TE×TE)->St->Hp->(List (V×V)->Hp->Prop)->Prop
 |[],_,H,Q=>Q [] H
 |(tk,tv)::r,Z,H,Q=>tk Z H λx H1=>tv Z H1 λy H2=>CO r Z H2 λps H3=>Q ((x,y)::ps) H3
abbrev VV:List (V×V)->List (Value×Value)->Prop:=Paired λp q=>RelV p.1 q.1/\RelV p.2 q.2
def DV(X:Cx)(pos:Pos)(keys:List (Option Expr))(values:List Expr)(zb:List (TE×TE)):Prop:=
 ∀(pins:List (Addr×Obj))(s:Shared)(Z:St)(H:Hp)(Q:List (V×V)->Hp->Prop),Inv X pins Z H s->CO zb Z H Q->
  wpAny (model X.prog X.w) X.A (evalPairs (pairTrees keys values X.env pos)) (λvs s'=>∃ps H',Inv X pins Z H' s'/\VV ps vs/\Q ps H') X.xe s
def Kh:DV X pos [] [] []:=λpins s Z H Q I h=>pairTrees_nil_walk ⟨[],H,I,.nil,h⟩
def qH(hk:PE X k tk)(hv:PE X v tv)(hr:DV X pos ks vs zb):
  DV X pos (some k::ks) (v::vs) ((tk,tv)::zb):=λpins s Z H Q I h=>
 pairTrees_cons_walk (cV (hk pins s Z H _ I h) λu s1 x H1 I1 rx q1=>cV (hv pins s1 Z H1 _ I1 q1) λw2 s2 y H2 I2 ry q2=>
  hE (hr pins s2 Z H2 _ I2 q2) λws s3 ⟨ps,H3,I3,rel,q3⟩=>⟨(x,y)::ps,H3,I3,.cons ⟨rx,ry⟩ rel,q3⟩)
def dX(kvs more:List (Key×V)):List (Key×V):=more.foldl (λacc kv=>putK acc kv.1 kv.2) kvs
def KV.merge:∀{more:List (Key×V)}{rs:List (Key×Value)}{kvs:List (Key×V)}{vs:List (Key×Value)},KV more rs->KV kvs vs->KV (dX kvs more) (merged vs rs):=by
 intro more rs kvs vs r;unfold KV at r
 induction r generalizing kvs vs with
 |nil=>intro q;exact q
 |@cons p q ps qs h t ih=>
  intro r0;have e:KV (putK kvs p.1 p.2) (stored vs q.1 q.2):=by have:=r0.put p.1 h.2;rw[<-h.1];exact this
  exact ih e
theorem jQ:∀(more kvs:List (Key×V)),(dX kvs more).length<=kvs.length+more.length
 |[],kvs=>by show kvs.length<=kvs.length+0;lia
 |p::r,kvs=>by have h1:=jQ r (putK kvs p.1 p.2);have h2:=vQ kvs p.1 p.2;show(dX (putK kvs p.1 p.2) r).length<=_;rw[bH];lia
theorem DO:∀{kvs:List (Key×V)}{ws:List (Value×Value)},VV (kvs.map λkv=>(kV kv.1,kv.2)) ws->∃rs,Carries (bA P w) ws rs/\KV kvs rs
 |[],_,r=>by rw[jF]at r;cases r;exact⟨[],True.intro,.nil⟩
 |p::kvs,_,r=>by
  rw[aX]at r;cases r with
  |@cons a b as bs h t=>
   obtain⟨rs,c,q⟩:=DO (P:=P) (w:=w) t;obtain⟨b1,b2⟩:=b;exact⟨(p.1,b2)::rs,⟨tL h.1,rfl,c⟩,.cons ⟨rfl,h.2⟩ q⟩
def SU(zb:List (TE×TE)):TE:=λZ H Q=>∀p,H p=none->CO zb Z (upd H p (.dK [])) λps H2=>H2 p=some (.dK [])/\∃kvs:List (Key×V),ps=kvs.map (λkv=>(kV kv.1,kv.2))/\kvs.length<=15/\Q (.ref p) (upd H2 p (.dK (dX [] kvs)))
def VB(h:DV X pos keys values zb)(oX:keys.all (·.isSome)=true)(hl:keys.length=values.length)(h0:keys≠[])
  (Z4:keys.length<=15):PE X (.Dict keys values pos) (SU zb):=by
 intro pins s Z H Q I q;have hn:=I.bw.fresh (ak s.heap.objs.size);have I1:=I.laid (a:=s.heap.objs.size) (o:=.dK []) (h':=s.heap.push {cls:=.type "dict",data:=.dict #[]}) (t':=s.toks) (λ_ _ q=>af _ q) (ak _) (Cp s.heap I.big);refine wpAny_Dict_walk (knd:=bA X.prog X.w) oX hl h0 Z4 (hE (h pins _ Z _ _ I1 (q _ hn)) λws s2 acv=>?_);obtain⟨ps,H2,I2,rel,e,kvs,ep,lk,q2⟩:=acv;subst ep;obtain⟨rs,c,rk⟩:=DO (P:=X.prog) (w:=X.w) rel;obtain⟨z,hd,vs0,r0,dd⟩:=tN I2.bw e;cases r0;refine⟨rs,c,dd,λh' qx hs=>⟨.ref s.heap.objs.size,_,?_,rfl,q2⟩⟩;have hz:(dX [] kvs).length<=sizeLine:=by have h1:=jQ kvs [];rw[cS]at h1;rw[cv];lia
 have he:∃q,h'.get? s.heap.objs.size=some q:=let⟨q,_,_,hq,_⟩:=qx;⟨q,hq⟩
 exact qO I2 (by rw[e];exact True.intro) hs he (w5 hz hd (rk.merge .nil) qx)
structure M1(X:Cx)(o:Expr)(m:Str)(apos:Pos)(e:Expr)(dP:Pos):Prop where
 base:attributeBase o m X.env (eval o X.env)=eval o X.env
 gz:((backTo dP (starEach [e] X.env)).all (λx=>!x.1)&&(backToKw dP (keywordEach [] X.env)).all (λx=>x.1.isSome)
  &&decide (([e]:List Expr).length+([]:List Keyword).length+(if([]:List Keyword).isEmpty then 0 else 1)<30))=true
 line:(apos.endLine==dP.line)=true
 trees:backTo dP (starEach [e] X.env)=[(false,eval e X.env)]
structure M2(X:Cx)(o:Expr)(m:Str)(apos:Pos)(e f:Expr)(dP:Pos):Prop where
 base:attributeBase o m X.env (eval o X.env)=eval o X.env
 gz:((backTo dP (starEach [e,f] X.env)).all (λx=>!x.1)&&(backToKw dP (keywordEach [] X.env)).all (λx=>x.1.isSome)
  &&decide (([e,f]:List Expr).length+([]:List Keyword).length+(if([]:List Keyword).isEmpty then 0 else 1)<30))=true
 line:(apos.endLine==dP.line)=true
 trees:backTo dP (starEach [e,f] X.env)=[(false,eval e X.env),(false,eval f X.env)]
def IsD(H:Hp)(a:Addr):Prop:=(∃kvs,Rd H a (.dK kvs))\/∃kvs,Rd H a (.dT kvs)
def YA(I:Inv X pins Z H s)(d:IsD H a):
  s.TypeIs (.ref a) "dict"/\(∀b,Value.ref a=.ref b->∃ob,s.heap.get? b=some ob/\ob.dict=none)/\(a==sysModules)=false:=by
 rcases d with⟨kvs,e⟩|⟨kvs,e⟩
 ·obtain⟨_,hd,vs,_,dd⟩:=xX I.bw e;refine⟨dd.typeIs,λb q=>?_,hd⟩;cases q;obtain⟨ob,_,_,h1,h2,_⟩:=dd;exact⟨ob,h1,h2.2.1⟩
 ·obtain⟨_,hd,xs,_,dd⟩:=AS I.bw e;refine⟨dd.typeIs,λb q=>?_,hd⟩;cases q;obtain⟨ob,_,_,h1,h2,_⟩:=dd;exact⟨ob,h1,h2.2.1⟩
section
variable{X:Cx}{pins:List (Addr×Obj)}{Z:St}{H:Hp}{s:Shared}{a:Addr}{y d:V}{u r:Value}{o:Option V}{A:Around}{E:Value->Shared->Prop}
def aaq(hu:A.units+1<cLine)(I:Inv X pins Z H s)(g:ki H a y o)(ry:RelV y u)(rd:RelV d r)(h:∀w' s',Inv X pins Z H s'->RelV (o.getD d) w'->Q w' s'):
  wpAny (model X.prog X.w) A (call (.builtin "dict.get") [.ref a,u,r]) Q E s:=by
 rcases g with⟨kvs,k,e,ey,l⟩|⟨kvs,k,b,e,ey,eb,l⟩
 ·subst ey;obtain⟨z,hd,vs,rel,dd⟩:=xX I.bw e;refine pZ iN dd.typeIs oG (nP _ _ _) (meets_dict_get_default (bA X.prog X.w) a (tL ry) hd r) ⟨_,dd.mapOf,h _ _ (I.tok _) ?_⟩;rw[l];exact(rel.val k).getD rd
 ·subst ey;cases(show u=Value.ref b from ry);obtain⟨z,hd,xs,rel,dd⟩:=AS I.bw e;refine pZ iN dd.typeIs oG (nP _ _ _) (uZ (tupleKind (bA X.prog X.w)) a b hd r) ⟨mw hu,k,xs,zM I.bw eb,dd,h _ _ (I.tok _) ?_⟩;rw[l];exact(rel.val k).getD rd
end
inductive U6(ty:TE)(tx:TE)(Z:St)(Q:VK)(x:V)(H1:Hp):Prop
 |mk a (_:x=.ref a) (_:IsD H1 a) (_:ty Z H1 λy H2=>tx Z H2 λz H3=>∃o,ki H3 a y o/\Q (o.getD z) H3)
def Nh(td ty tx:TE):TE:=λZ H Q=>td Z H λx H1=>U6 ty tx Z Q x H1
section
variable{X:Cx}{o e f:Expr}{apos dP:Pos}{td ty tx:TE}
def uu(hu:X.A.units+1<cLine)(ho:PE X o td)(he:PE X e ty)(hf:PE X f tx)(m:M2 X o "get" apos e f dP):PE X (.Call (.Attribute o "get" apos) [e,f] [] dP) (Nh td ty tx):=by intro pins s Z H Q I h;refine sO m.base m.gz m.line hZ iN xb (cV (ho pins s Z H _ I h) λu s1 x H1 I1 rx acu=>?_);obtain⟨a,ex,d,q1⟩:=acu;subst ex;obtain rfl:u=Value.ref a:=rx;obtain⟨t1,t2,_⟩:=YA I1 d;refine⟨t1,t2,?_⟩;rw[m.trees];refine ir rfl (k9 (fG (cV (he pins s1 Z H1 _ I1 q1) λiv s2 y H2 I2 ry q2=>fG (cV (hf pins s2 Z H2 _ I2 q2) λfv s3 z H3 I3 rz ⟨ov,g,q3⟩=>kG ?_))));exact aaq hu I3 g ry rz λw' s4 I4 om=>⟨_,H3,I4,om,q3⟩
variable{pins:List (Addr×Obj)}{Z:St}{H:Hp}{s:Shared}{a:Addr}{kvs:List (Key×V)}{A:Around}{E:Value->Shared->Prop}
def R9(I:Inv X pins Z H s)(e:Rd H a (.dK kvs))(h:∀p s',H p=none->Inv X pins Z (upd H p (.dK kvs)) s'->Q (.ref p) s'):wpAny (model X.prog X.w) A (call (.type "dict") [.ref a]) Q E s:=by obtain⟨z,hd,vs,rel,dd⟩:=xX I.bw e;refine kt_call_dict hd dd (by rw[<-rel.length];exact z) λh' qx hs=>?_;refine h _ _ (I.bw.fresh (ak _)) (I.laid (a:=s.heap.objs.size) (o:=.dK kvs) (t':=s.toks) (λb q hq=>?_) (ak _) (w5 z (fb.mpr (bP (aH I.big))) rel qx));exact(hs.2 b (aH (aF hq))).trans (af _ hq)
end
end L2
namespace Att
open PySem PySem.W PySem.Calls PyProof.Rows
def Dh:∀(ns:List Int)(vs:List Value),WellAll P h vs (ns.map WData.int)->IntsAre vs ns:=by
 intro ns
 induction ns with
 |nil=>
  intro vs w;rw[jF]at w;cases w;exact .nil
 |cons n ns ih=>
  intro vs w;rw[aX]at w;cases w with
  |cons a b=>
   cases a;exact .cons _ _ (ih _ b)
def Ny{l:OpenLaw}(hn:l.most=some n)
  (L6:l.row.toRowW.claim.pre args=true) (HS:WellAll P h vals args):
  ∃a vs ns,vals=[Value.ref a]/\args=[WData.list (ns.map WData.int)]/\h.get? a=some {cls:=.type "list",data:=.seq vs.toArray}/\IntsAre vs ns/\ns.length<=n:=by
 have hsh:WShape.hasAll [] args [.list .int]=true:=(pre_splitW L6).1;have hc:l.pre.holds [] {args:=args}=true:=(pre_splitW L6).2;obtain⟨d,r,rfl,h1,h2⟩:=hasAllW_cons hsh;obtain rfl:=hasAllW_nil h2;obtain⟨xs,rfl,h3⟩:=hasW_list h1;obtain⟨ns,rfl⟩:=items_int h3;have hlen:ns.length<=n:=by
  unfold OpenLaw.pre at hc;have h4:(WTm.not (.lt (.lit (.int (n:Int))) (.len (.arg 0)))).holds [] {args:=[.list (ns.map .int)]}=true:=by have h4:=(holds_andW hc).1;rw[hn]at h4;exact h4
  have h5:=condW_of h4 (w_not (w_lt w_lit (w_len_list (w_arg rfl))));rw[ag]at h5;refine fD λq=>?_;have q':(n:Int)<((ns.length:Nat):Int):=by lia
  first
   |(rw[aU q']at h5;exact absurd h5 (by decide))
   |(simp at h5;lia)
 cases HS with
 |cons w1 w2=>
  cases w2;cases w1 with
  |list ho oX=>exact⟨_,_,ns,rfl,rfl,ho,Dh ns _ oX,hlen⟩
def NN(l:OpenLaw)(args:List WData):l.row.toRowW.claim.post args (.bool true) args=true:=
 postW_of (r:=l.row.toRowW) (X:=(true==true))
  (show WShape.has [] (.bool true) .bool=true by first|rfl|decide|simp[WShape.has,WShape.arms,WShape.armsAll])
  (show(WTm.eq .res (.lit (.bool true))).value [] {args:=args,res:=some (.bool true),after:=args}=some (.bool (true==true))from w_eq_bool (w_res rfl) w_lit) rfl
def Jz{l:OpenLaw}
  (hn:l.most=some n) (zU:d.params.defaults=[])
  (call:∀(w:World)(aab aaa:Shared)(mg mb:Str->Option Value)(fa:Addr)(o:Obj)(pm cd doc:Value)(a:Addr)(vs:List Value)(ns:List Int),
   Ground q loose [] XP w aab mg mb aaa.heap->YP w aaa.heap->
   aaa.heap.get? fa=some o->o.data=.func (docDef d.name d.params d.body d.scope pm cd doc)->aaa.heap.CodeRec cd d.name->mg d.name=some (.ref fa)->
   aaa.heap.get? a=some {cls:=.type "list",data:=.seq vs.toArray}->IntsAre vs ns->ns.length<=n->aaa.gens=#[]->
   codeAny (model l.prog w) callerA (.call (.ref fa) ⟨[.ref a],[]⟩) (λr s'=>r=.ok (.ret (.bool true))/\OldK aaa.heap s'.heap/\s'.os=aaa.os/\AllBare s'.gens) aaa):
  WalkO q loose XP YP l.row.toRowW d [] (λf vs=>PySem.call f vs):=by
 intro w aab aaa mg mb G Y fa o pm cd doc dV kV ho hd zW hD Pb hg args vals as L6 adC hrd HS hlo;obtain rfl:dV=.none:=Dflts.none hD zU;obtain rfl:kV=.none:=Dflts.noKw hD;obtain⟨a,vs,ns,rfl,rfl,RG,hints,hlen⟩:=Ny hn L6 HS;refine enter_call (kK (call w aab aaa mg mb fa o pm cd doc a vs ns G Y ho (fd_plain hd) zW Pb RG hints hlen hg) λr s' hq=>?_);obtain⟨rfl,h2,h3,h4⟩:=hq;exact⟨.inl ⟨.bool true,.bool true,[],rfl,λ_=>rfl,.bool true,NN l _,λ_=>⟨List.Pairwise.nil,λ_ hm=>(nomatch hm)⟩⟩,h2,h3,h4⟩
section
def ledger(h:Heap)(L d:Addr):List (Addr×Obj):=(List.range h.objs.size).filterMap λa=>if a=L\/a=d then none else(h.get? a).map λo=>(a,o)
end
end Att
namespace L2
open PySem PySem.Spec PyProof.Rows
theorem EO:∀{vs:List Value}{ns:List Int},IntsAre vs ns->Vals (ns.map V.int) vs
 |_,_,.nil=>.nil
 |_,_,.cons n t h=>.cons ⟨t,rfl⟩ (EO h)
def MT(H:Hp):Prop:=∀b,H b=none\/∃o xs,H b=some (.cQ o (.lst xs))
def Ri{K:Frag}
  (KX:K.In aaa.heap) (hns:aaa.heap.Ns mainGlobals mg) (hb:aaa.heap.Ns builtinsNs mb) (hbb:∀x:Str,x≠"__name__"->mb x=bootBuiltins x) (acT:aaa.heap.NoLimit) (hg:aaa.gens=#[])
  (ha:aaa.heap.get? a=some {cls:=.type "list",data:=.seq vs.toArray}) (hi:IntsAre vs ns) (hl:ns.length<=sizeLine) (hr:gh k callerA)
  (F:∀base:Heap,K.In base->base.Ns mainGlobals mg->cY P w K mg base CX k fa fd [x] sp) (abg:∀(s:Shared)(u:Value),BindsTo s fd ⟨[u],[]⟩ [(x,u)])
  (Fq:∀H:Hp,MT H->bp K H a (ns.map V.int)->sp [.ref a] H (λv _=>v=.bl true) λ_ _ _=>False)
  (Z2:∀H e s',CX [] H aaa (λ_ _ _=>False) e s'->False):
  codeAny (model P w) callerA (.call (.ref fa) ⟨[.ref a],[]⟩) (λr s'=>r=.ok (.ret (.bool true))/\OldK aaa.heap s'.heap/\s'.os=aaa.os/\AllBare s'.gens) aaa:=by
 have rv:=EO hi;have ab3:=hi.length;have core:∀H:Hp,MT H->bp K H a (ns.map V.int)->jc P w H aaa.heap->(∀b,H b≠none->b=a)->(H a≠none->K.lookup a=none)->
   codeAny (model P w) callerA (.call (.ref fa) ⟨[.ref a],[]⟩) (λr s'=>r=.ok (.ret (.bool true))/\OldK aaa.heap s'.heap/\s'.os=aaa.os/\AllBare s'.gens) aaa:=by
  intro H hO hS bw hA hK;have Ld:∀{b:Addr}{o:Obj},aaa.heap.get? b=some o->H b=none->(xR aaa.heap H).get? b=some o:=λe n=>RM e n;have Of:∀{b:Addr}{o:Obj}{es:Array DictEntry}{ep:Nat},aaa.heap.get? b=some o->o.data=.dict es ep->H b=none:=λ{b o es ep} e d=>by
   cases q:H b with
   |none=>rfl
   |some u=>
    have e':b=a:=hA b (by rw[q];simp);subst e';rw[ha]at e;cases e;have d':Data.seq vs.toArray _=Data.dict es ep:=d;cases d'
  have Tg:∀{b:Addr}{m:Str->Option Value},aaa.heap.Ns b m->(xR aaa.heap H).Ns b m:=λ{b m} ⟨o,es,ep,e,d,r⟩=>⟨o,es,ep,Ld e (Of e d),d,r⟩;have hKb:K.In (xR aaa.heap H):=λb o e=>Ld (KX b o e) (by
   cases q:H b with
   |none=>rfl
   |some u=>
    have e':b=a:=hA b (by rw[q];simp);subst e';rw[hK (by rw[q];simp)]at e;cases e)
  have hM:Mod K mg (xR aaa.heap H):=⟨hKb,Tg hns,⟨mb,Tg hb,hbb⟩,let⟨mc,h1,h2⟩:=acT;⟨mc,Tg h1,h2⟩⟩;have e0:CH P w K mg (xR aaa.heap H) callerA [] aaa H:=⟨rfl,hM,λb o e=>VQ e,Ap (Pk _ _),trivial,λb hb=>absurd (show b∈([]:List Addr)from hb) (by simp),bw,.of_eq hg⟩;refine kK ((F _ hKb (Tg hns)).run callerA [] aaa H ⟨[.ref a],[]⟩ [.ref a] [.ref a] _ _ hr e0 (abg aaa (.ref a)) (.cons rfl .nil) (Fq H hO hS)) λr s' h=>?_;cases r with
  |error e=>exact(Z2 H e s' h).elim
  |ok fl=>
   cases fl with
   |next=>exact False.elim h
   |brk=>exact False.elim h
   |cont=>exact False.elim h
   |ret u=>
    obtain⟨v,H',os,bare,un,acO,r',q⟩:=h;have q':v=.bl true:=q;subst q';obtain rfl:u=Value.bool true:=r';refine⟨rfl,OldK.of_keep λb o e=>?_,os,bare⟩;cases q:H b with
    |none=>exact un.keep b o e q (by intro z;exact absurd (show b∈([]:List Addr)from z) (by simp)) (by simp)
    |some u=>
     rcases hO b with z|⟨ob,xs,z⟩
     ·rw[q]at z;cases z
     ·have z2:=un.sA b ob _ z;obtain⟨e1,_⟩:=bw b _ z;obtain⟨e2,_⟩:=acO b _ z2;rw[e]at e1;cases e1;exact e2
 cases hk:K.lookup a with
 |some o=>
  have e:=KX a o hk;rw[ha]at e;cases e;refine core (λ_=>none) (λ_=>.inl rfl) (.inr ⟨_,vs.toArray,_,hk,rfl,rfl,rfl,by rw[aN,ab3];exact hl,by simpa using rv⟩) (λb u z=>by have z':(none:Option HO)=some u:=z;cases z') (λb z=>absurd rfl z) λz=>absurd rfl z
 |none=>
  refine core (λb=>if b=a then some (.cQ {cls:=.type "list",data:=.seq vs.toArray} (.lst (ns.map V.int)))else none) (λb=>?_) (.inl (.inr ⟨{cls:=.type "list",data:=.seq vs.toArray},aB rfl⟩)) (λb u z=>?_) (λb z=>?_) λ_=>hk
  ·by_cases hb:b=a
   ·exact .inr ⟨_,_,aB hb⟩
   ·exact .inl (ax hb)
  ·by_cases hb:b=a
   ·have z':=(aB hb).symm.trans z;cases z';subst hb;exact⟨ha,by rw[ag];exact hl,vs,_,rv,ha⟩
   ·have z':=(ax hb).symm.trans z;cases z'
  ·by_cases hb:b=a
   ·exact hb
   ·exact absurd (ax hb) z
abbrev KOf{K:Frag}{h:Heap}(_:K.In h):Frag:=K
def UY{l:PySem.W.OpenLaw}{K:Params->Frag}{CX:World->Jc}{sp:World->Sp}
  (hn:l.most=some n) (Bw:n<=sizeLine) (zU:d.params.defaults=[]) (hr:gh k callerA)
  (hY:∀(w:World)(h:Heap),YP w h->(K w.params).In h)
  (F:∀(w:World)(mg:Str->Option Value)(fa:Addr)(h:Heap),(K w.params).In h->h.Ns mainGlobals mg->mg d.name=some (.ref fa)->
   ∃fd:FuncData,(∀(s:Shared)(u:Value),BindsTo s fd ⟨[u],[]⟩ [(x,u)])/\
    ∀base:Heap,(K w.params).In base->base.Ns mainGlobals mg->cY l.prog w (K w.params) mg base (CX w) k fa fd [x] (sp w))
  (Fq:∀(w:World)(H:Hp)(a:Addr)(ns:List Int),ns.length<=n->MT H->bp (K w.params) H a (ns.map V.int)->sp w [.ref a] H (λv _=>v=.bl true) λ_ _ _=>False)
  (Z2:∀(w:World)(H:Hp)(s:Shared)(e:Value)(s':Shared),CX w [] H s (λ_ _ _=>False) e s'->False):
  PySem.W.WalkO q loose XP YP l.row.toRowW d [] (λf vs=>PySem.call f vs):=by
 refine Att.Jz hn zU λw aab aaa mg mb fa o pm cd doc a vs ns G Y ho hd zW Pb RG hints hlen hg=>?_;have KX:=hY w _ Y;obtain⟨fd,hb,hF⟩:=F w mg fa _ KX G.T.g Pb;exact Ri KX G.T.g G.T.b G.T.builtins G.T.nolimit hg RG hints (aE hlen Bw) hr hF hb (λH hO hS=>Fq w H a ns hlen hO hS) λH e s'=>Z2 w H aaa e s'
end L2
namespace L2
open PySem PySem.Spec PyProof.Rows
def inClass(s:Stmt)(j:Nat):Stmt:=match s with
 | .ClassDef _ _ _ body _ _ _ _ _ _ _=>body.getD j (.Pass ⟨0,0,0,0⟩)
 |_=>.Pass ⟨0,0,0,0⟩
def defArgs(s:Stmt):Arguments:=match s with
 | .FunctionDef _ a _ _ _ _ _ _ _ _=>a
 |_=>{posonlyargs:=[],args:=[],vararg:=none,kwonlyargs:=[],kw_defaults:=[],kwarg:=none,defaults:=[]}
def defBody(s:Stmt):List Stmt:=match s with
 | .FunctionDef _ _ b _ _ _ _ _ _ _=>b
 |_=>[]
def defScope(s:Stmt):Scope:=match s with
 | .FunctionDef _ _ _ _ _ _ sc _ _ _=>sc
 |_=>{kind:=.function,names:=[],isGenerator:=false,isCoroutine:=false}
abbrev fH:Jc:=λ_ _ _ _ _ _=>False
abbrev E0:XK:=λ_ _ _=>False
def LI:Passes fH X E0:=λ_ _ _ _ _ _ _ h=>h.elim
structure eZ(K:Frag)(x qual:Str)(st:Stmt)(f:Addr)(fd:FuncData):Prop where
 ex:∃(oc:Value)(od:Option Addr)(kV doc pm:Value)(an:Option Addr)(c6 ct:Value)(yF:Array (Option Value)),
  fd=fnOf x qual (defArgs st) (defBody st) (defScope st) .none kV doc pm an c6 ct/\K.lookup f=some ⟨oc,od,.func fd,yF⟩/\codeIn K c6 qual=true
 kp:keepIn K (.ref f)=true
section
variable{P:Program}{w:World}{K:Frag}{mg:Str->Option Value}{base:Heap}
def eZ.ok{st:Stmt}(F:eZ K x qual st f fd)(S:cu N ps (defScope st))(len:∀vs H Q E,sp vs H Q E->vs.length=ps.length)
  (Mf:∀(c6:Value)(A:Around)(outer:List Env)(s:Shared)(H:Hp)(vs:List V)(Q:VK)(E:XK),gh k (A.deeper (envOfC qual (defScope st) s.heap.objs.size f c6))->sp vs H Q E->
   ∃t,kU (EB fH P w K mg base N qual (defScope st) f c6 A outer s H E).Th (defBody st) t/\t {nx:=λ_ H'=>Q .cb H',rt:=Q} (start N vs) H):cY P w K mg base fH (k+1) f fd ps sp:=by
 obtain⟨oc,od,kV,doc,pm,an,c6,ct,yF,rfl,lk,zW⟩:=F.ex;refine abj lk zW S len λA outer s H vs Q E hr Fq=>?_;obtain⟨t,h,q⟩:=Mf c6 A outer s H vs Q E hr Fq;exact⟨t,h.Th,q⟩
def eZ.binds{st:Stmt}(F:eZ K x qual st f fd)
  (h:∀(kV doc pm:Value)(an:Option Addr)(c6 ct:Value)(us:List Value),us.length=ps.length->bindArgs (fnOf x qual (defArgs st) (defBody st) (defScope st) .none kV doc pm an c6 ct) ⟨us,[]⟩=pure (ps.zip us)):Binds K fd ps []:=by
 obtain⟨oc,od,kV,doc,pm,an,c6,ct,yF,rfl,lk,zW⟩:=F.ex;exact .all (h kV doc pm an c6 ct)
def Pz{st:Stmt}{kV doc pm c6 ct:Value}(l:K.lookup f=some ⟨oc,od,.func (fnOf x qual (defArgs st) (defBody st) (defScope st) .none kV doc pm an c6 ct),yF⟩)
  (c:codeIn K c6 qual=true) (k:keepIn K (.ref f)=true):eZ K x qual st f (fnOf x qual (defArgs st) (defBody st) (defScope st) .none kV doc pm an c6 ct):=⟨⟨oc,od,kV,doc,pm,an,c6,ct,yF,rfl,l,c⟩,k⟩
def iL(hr:gh k A):A.units+1<cLine:=bZ (Nat.add_le_add_left (by decide:1<=64) _) hr.units
def bK(h:n<=1000):n<sizeLine:=bZ h (by decide)
variable{X:Cx}
def pv(i:Nat)(hN:X.N[i]?=some x:=by rfl)(hv:Vis X.env.scope x:=by first|exact Or.inl rfl|exact Or.inr (Or.inl rfl)|exact Or.inr (Or.inr rfl))(hd:(x==("__debug__":Str))=false:=by decide)
  (zW:(x==("__classdict__":Str))=false:=by decide):PE X (.Name x pos) (W8 i):=XM hN hv hd zW
def qK{A B:Prop}(h:B):if false=true then A else B:=by rw[ax aT];exact h
def Es{A B:Prop}(h:A):if true=true then A else B:=by rw[aB rfl];exact h
def fm{c A B:Prop}[Decidable c](h1:c->A)(h2:¬c->B):if c then A else B:=by
 by_cases h:c
 ·rw[aB h];exact h1 h
 ·rw[ax h];exact h2 h
def bG(H H':Hp):Prop:=∀b o,H b=some o->H' b=some o
def bG.refl(H:Hp):bG H H:=λ_ _ h=>h
def bG.trans(a:bG H H1)(b:bG H1 H2):bG H H2:=λc o h=>b c o (a c o h)
def bG.free(e:bG H H')(h:H' l=Option.none):H l=Option.none:=by
 cases q:H l with
 |none=>rfl
 |some o=>
  rw[e l o q]at h;cases h
end
section
variable{κ:Type}[DecidableEq κ]
def Qu{k:κ}(h:eI kvs k=none):¬k∈kvs.map (·.1):=by intro m;obtain⟨p,hp,e⟩:=aM.mp m;have q:(kvs.any λkv=>decide (kv.1=k))=true:=jI.mpr ⟨p,hp,aU e⟩;rw[oS,h]at q;exact absurd q (by simp)
def JL{k:κ}{v:V}(h:eI kvs k=some v):k∈kvs.map (·.1):=by
 have q:(kvs.any λkv=>decide (kv.1=k))=true:=by rw[oS,h];all_goals rfl
 obtain⟨p,hp,e⟩:=jI.mp q;exact aM.mpr ⟨p,hp,br e⟩
end
def Its(z:Str):It:=⟨λi _=>i<z.cps.size,λi H x H'=>H'=H/\∃c,z.cps[i]?=some c/\x=.str ⟨#[c]⟩,λi _=>i=z.cps.size⟩
def EN(hh:A.handled=none)(I:Addr)(x:Str)(t:Tok):
  Walks prog w A I [I] [I] x.cps.size (SignAt x) (λi h=>h.IsStrIter I (strIterType x) x t i):=by
 unfold strIterType;cases x.cps.all (·<128)with
 |true=>exact Walks.strAscii hh I x t
 |false=>exact Walks.strWide hh I x t
def FP(x:Str):["enumerate","zip","dict_itemiterator","dict_reverseitemiterator","odict_iterator","itertools.zip_longest","itertools.pairwise"].contains (strIterType x)=false:=by
 unfold strIterType;cases x.cps.all (·<128)with
 |true=>decide
 |false=>decide
def Qw{K:Frag}(it:Addr)(z:Str)(t:Tok):Turn P w K tg (Its z) [it] it (λi h=>h.IsStrIter it (strIterType z) z t i) where
 mem:=by simp
 obj:=λi h st b hb=>by
  have e:b=it:=by simpa using hb
  subst e;obtain⟨o,e,c,d⟩:=st;exact⟨o,e,λv z=>by rw[d]at z;cases z⟩
 keep:=λi h h' st k=>by obtain⟨o,e,r⟩:=st;exact⟨o,k it (by simp) o e,r⟩
 item:=by intro X hP hw hK hc i pins s Z H E I hf st hg;subst hP hw hK;obtain⟨f0,f1,f2,f3,f4,f5⟩:=hf it (by simp);have W:=EN (prog:=X.prog) (w:=X.w) (I.ok.hd hc) it z t;refine W.item i s _ _ hg st λv h' tk hv gM kk=>?_;obtain⟨c,u,pb,rfl⟩:=hv;have I1:Inv X pins Z H {s with heap:=h',toks:=tk}:=I.turned (λb o hb e=>kk b o (by simpa using hb) e) f0 f1 f3 f4 f5;obtain⟨o,e,c1,d1⟩:=id gM;exact⟨_,rfl,AO (s:={s with heap:=h',toks:=tk}) e c1 d1 (FP z) ⟨.str ⟨#[c]⟩,H,I1,⟨u,rfl⟩,⟨rfl,c,pb,rfl⟩,gM,λb hb=>(hf b hb).1⟩⟩
 done:=by intro X hP hw hK hc i pins s Z H E I hf st hg;subst hP hw hK;obtain⟨f0,f1,f2,f3,f4,f5⟩:=hf it (by simp);have W:=EN (prog:=X.prog) (w:=X.w) (I.ok.hd hc) it z t;have e:i=z.cps.size:=hg;subst e;exact W.done s _ _ st λh' tk kk=>⟨rfl,I.turned (λb o hb e=>kk b o (by simpa using hb) e) f0 f1 f3 f4 f5⟩
 self:=λA i s Q E st h=>by
  unfold strIterType at st;cases hx:z.cps.all (·<128)with
  |true=>rw[hx]at st;exact wpAny_pyIter_striter_ascii st h
  |false=>rw[hx]at st;exact wpAny_pyIter_striter_wide st h
section
variable{X:Cx}{tg:Expr}
inductive aa8(R:It->Hp->Prop)(x:V)(H1:Hp):Prop
 |mk z (_:x=.str z) (_:R (Its z) H1)
def ab9(tl:TE):TI:=λZ H R=>tl Z H λx H1=>aa8 R x H1
def XJ(hl:PE X l tl):PI X tg l (ab9 tl):=by
 intro pins s Z H R I h;refine cV (hl pins s Z H _ I h) λv s1 x H1 I1 r1 q1=>?_;obtain⟨z,e,q⟩:=q1;subst e;obtain⟨t,rfl⟩:=r1;refine wpAny_pyIter_strU ?_;have I2:Inv X pins Z H1 {s1 with heap:=s1.heap.push {cls:=.type (strIterType z),data:=.fields #[.str z t,.int 0 0]}}:=I1.kept (t':=s1.toks) λb o e=>af _ e;refine⟨s1.heap.objs.size,[s1.heap.objs.size],_,Its z,H1,rfl,I2,Qw s1.heap.objs.size z t,⟨_,aG _ rfl,rfl,rfl⟩,λb hb=>?_,q⟩;have e:b=s1.heap.objs.size:=by simpa using hb
 subst e;exact I1.pT (ak _) (I1.bw.fresh (ak _))
def frees(scope:Scope):List Str:=(scope.names.filter λp=>p.2==.free).map (·.1)
def Cs(scope:Scope)(env:Env):List (Str×Addr):=(frees scope).reverse.map λn=>(n,(env.cells.lookup n).getD 0)
theorem EE(env:Env):∀(names:List (Str×NameKind))(cs:List (Str×Addr)),(∀n∈(names.filter λp=>p.2==.free).map (·.1),∃c,env.cells.lookup n=some c)->
  (forIn names cs λ(x:Str×NameKind)(r:List (Str×Addr))=>(if x.2==.free then do let c<-cellOf env x.1;pure (ForInStep.yield ((x.1,c)::r))else pure (ForInStep.yield r):Sem (ForInStep (List (Str×Addr)))))=
   pure ((((names.filter λp=>p.2==.free).map (·.1)).reverse.map λn=>(n,(env.cells.lookup n).getD 0))++cs)
 |[],cs,_=>rfl
 |(n,k)::r,cs,h=>by
  rw[fV];cases hk:(k==NameKind.free)with
  |false=>
   have h':∀m∈(r.filter λp=>p.2==.free).map (·.1),∃c,env.cells.lookup m=some c:=λm hm=>h m (by simpa[gj,hk]using hm);have ih:=EE env r cs h';simp only[hk,bh,bX,gj,pure_bind];exact ih
  |true=>
   obtain⟨c,hc⟩:=h n (by simp[gj,hk]);have h':∀m∈(r.filter λp=>p.2==.free).map (·.1),∃c,env.cells.lookup m=some c:=λm hm=>h m (by
    simp only[gj,hk,fJ,aX];exact aD _ hm)
   have ih:=EE env r ((n,c)::cs) h';have ec:cellOf env n=pure c:=by unfold cellOf;rw[hc]
   simp only[hk,fJ,gj,aX,List.reverse_cons,aQ,jF,b9,il,iP,ec,pure_bind,hc,Option.getD_some];exact ih
def DM(h:∀n∈frees scope,∃c,env.cells.lookup n=some c):closureFor scope env=pure (Cs scope env):=by have e:=EE env scope.names [] h;rw[cj]at e;have q:closureFor scope env=((forIn scope.names ([]:List (Str×Addr)) λ(x:Str×NameKind)(r:List (Str×Addr))=>(if x.2==.free then do let c<-cellOf env x.1;pure (ForInStep.yield ((x.1,c)::r))else pure (ForInStep.yield r):Sem (ForInStep (List (Str×Addr)))))>>=λr=>pure r):=rfl;rw[q,bind_pure];exact e
theorem zH{β:Type}(g:Str->β)(y:Str):∀l:List Str,(l.map λn=>(n,g n)).lookup y=if y∈l then some (g y)else none
 |[]=>by simp
 |n::r=>by
  have ih:=zH g y r;rw[aX,uU];cases e:(y==n)with
  |true=>
   have e':y=n:=jq e;subst e';simp
  |false=>
   have e':y≠n:=λq=>by rw[q]at e;simp at e
   show(r.map λn=>(n,g n)).lookup y=_;rw[ih];simp[e']
def rj(h:∀n∈frees scope,∃c,env.cells.lookup n=some c):(Cs scope env).lookup y=some c↔y∈frees scope/\env.cells.lookup y=some c:=by
 unfold Cs;rw[zH (λn=>(env.cells.lookup n).getD 0)];by_cases hy:y∈frees scope
 ·obtain⟨d,hd⟩:=h y hy;rw[aB (jC.mpr hy),hd];simp[hy]
 ·rw[ax λq=>hy (jC.mp q)];simp[hy]
theorem zI(f:Str->NameKind->NameKind)(y:Str):∀names:List (Str×NameKind),(names.map λp=>(p.1,f p.1 p.2)).lookup y=(names.lookup y).map (f y)
 |[]=>rfl
 |(n,k)::r=>by
  have ih:=zI f y r;rw[aX,uU,uU];cases e:(y==n)with
  |true=>
   have e':y=n:=jq e;subst e';rfl
  |false=>exact ih
def wo(scope:Scope)(env:Env)(y:Str):(relabel scope env).names.lookup y=(scope.names.lookup y).map λk=>if(k==.free&&env.scope.kind==.function&&env.kindOf y==some .cell)=true then NameKind.cell else k:=by
 have e:(relabel scope env).names=scope.names.map λp=>(p.1,(λ(n:Str)(k:NameKind)=>if(k==.free&&env.scope.kind==.function&&env.kindOf n==some .cell)=true then NameKind.cell else k) p.1 p.2):=by unfold relabel;refine cH λp _=>?_;obtain⟨n,k⟩:=p;show(if(k==.free&&env.scope.kind==.function&&env.kindOf n==some .cell)=true then(n,NameKind.cell)else(n,k))=_;split<;>simp_all
 rw[e];exact zI (λ(n:Str)(k:NameKind)=>if(k==.free&&env.scope.kind==.function&&env.kindOf n==some .cell)=true then NameKind.cell else k) y scope.names
end
structure qi(X:Cx)(scope:Scope)(x:Str)(fs:List Str)(fr:List Nat):Prop where
 kind:scope.kind=.function
 loc:scope.names.lookup x=some .local
 names:∀y∈scope.names,y.2=.local->scope.names.lookup y.1=some .local
 Oc:∀y∈scope.names,y.2≠ .cell
 free:∀n∈frees scope,X.env.kindOf n=some .cell/\scope.names.lookup n=some .free
 nd:(x::fs).Nodup
 len:fr.length=fs.length
 slots:∀(j:Nat)(y:Str)(k:Nat),fs[j]?=some y->fr[j]?=some k->X.N[k]?=some y/\y∈frees scope
abbrev dG(X:Cx)(N':List Str)(scope:Scope)(C:Addr)(s:Shared)(H:Hp)(ex:List Addr):Cx:=
 {X with N:=N',aab:=s,aaf:=H,env:=compEnvC scope (Cs scope X.env) C X.env,outer:=X.stack,stack:=X.stack,ex:=ex,fn:=λ_=>false,pn:=[],xe:=λ_ _=>False}
def CT(X:Cx)(ifs:List Expr)(tt:TT):Prop:=
 ∀(pins:List (Addr×Obj))(s:Shared)(Z:St)(H:Hp)(Q:Bool->Hp->Prop),Inv X pins Z H s->tt Z H Q->
  wpAny (model X.prog X.w) X.A (forIn ifs true λc r=>if r=true then do let ok<-isTrue c X.env (eval c X.env);pure (ForInStep.yield ok)else pure (ForInStep.yield r)) (TP X pins Z Q) X.xe s
def FY:TT:=λ_ H Q=>Q true H
def P1:CT X [] FY:=λ_ _ _ H _ I h=>wpAny_tests_nil ⟨H,I,h⟩
def P0(h:PT X c tc):CT X [c] tc:=λpins s Z H Q I hq=>wpAny_tests_one (h pins s Z H Q I hq)
def slotsOf(fr:List Nat)(Z:St):St:=fr.map λk=>(Z[k]?).getD none
def xo(wi:TI)(fr:List Nat)(tt:TT)(te:TE):TE:=λZ H Q=>wi Z H λJ H1=>∃W:Nat->Nat->List V->Hp->Prop,(∃m,W 0 m [] H1)/\∀i m ys H2,W i m ys H2->
 (J.stop i H2/\ys.length<=sizeLine/\∀l,H2 l=none->Q (.ref l) (upd H2 l (.lst ys)))\/
 (J.go i H2/\ys.length<sizeLine/\∀v H3,J.yA i H2 v H3->tt (some v::slotsOf fr Z) H3 λb H4=>
  if b=true then te (some v::slotsOf fr Z) H4 (λy H5=>∃m',m'<m/\W (i+1) m' (ys++[y]) H5)else∃m',m'<m/\W (i+1) m' ys H4)
section
variable{X:Cx}
def Br{h h':Heap}(k:∀b o,h.get? b=some o->h'.get? b=some o)(z:h.IsCell c v):h'.IsCell c v:=by obtain⟨o,e,d⟩:=z;exact⟨o,k _ _ e,d⟩
def Inv.adopt(I:Inv X pins Z H s)(hn:H D=none)(e:s.heap.get? D=some {cls:=.type "list",data:=.seq vs.toArray k})(r:Vals ys vs)(hz:ys.length<=sizeLine)
  (h1:X.aab.heap.objs.size<=D) (hL:D≠X.env.locals) (h2:∀x c,X.env.cells.lookup x=some c->c≠D) (h3:∀p∈X.pn++pins,p.1≠D):Inv X pins Z (upd H D (.lst ys)) s:=by
 have nD:∀b u,H b=some u->b≠D:=λb u q z=>by rw[z,hn]at q;cases q
 have bw:jc X.prog X.w (upd H D (.lst ys)) s.heap:=λb u q=>by
  by_cases hb:b=D
  ·subst hb;rw[au]at q;cases q;exact⟨hz,vs,k,r,e⟩
  ·rw[aw hb]at q;exact(I.bw b u q).iS (λ_ _ _ z=>z) (λc z=>by rw[aw (nD c _ z)];exact z) λc xs z=>by rw[aw (nD c _ z)];exact z
 have J:=I.step (H':=upd H D (.lst ys)) (h':=s.heap) (g':=s.gens) (t':=s.toks) (d':=s.drawn) (ch:=[D])
  (λb hb=>by
   have e':b=D:=by simpa using hb
   subst e';exact⟨.inr h1,hL,h2,h3⟩)
  (λb o _ _ _ q _=>q) (λb o _ _ _ q _=>⟨o.slots,q⟩) (λb o hc _ n=>by rw[aw λz=>hc (by simp[z])];exact n) (λb o _ q=>⟨o,q⟩)
  (λb xs q=>by rw[aw (nD b _ q)];exact q) (λb o u q=>by rw[aw (nD b _ q)];exact q) (λb ps q=>⟨#[],by rw[aw (nD b _ q),q];simp⟩) (λm hm=>hm) bw I.bare
 exact J
def Wu(S:qi X scope x fs fr)(I2:Inv X pins Z H s2)(I3:Inv X pins Z H s)
  (hD:D=s2.heap.objs.size) (hs:s.heap.objs.size=D+1) (bQ:∀b∈fp,b<D) (f2:∀b∈fp,oZ X pins H b):(dG X (x::fs) scope s.heap.objs.size s H (D::fp)).Ok:=by
 have yO:∀n∈frees scope,∃c,X.env.cells.lookup n=some c:=λn hn=>I3.ok.has n (.inl (S.free n hn).1);have sub:∀{y:Str}{c:Addr},(Cs scope X.env).lookup y=some c->X.env.cells.lookup y=some c:=λh=>((rj yO).mp h).2;refine⟨I3.ok.mod,S.kind,I3.ok.glob,I3.ok.blt,ak _,λa b c h1 h2=>I3.ok.inj a b c (sub h1) (sub h2),λy hy=>?_,(λ_ _ h=>by cases h),I3.ok.hd,I3.ok.frames,.inl rfl,λb hb=>?_,I3.bs,aE I3.ok.BF I3.sz,λb o e hb=>?_,λb hb hf=>?_,I3.stack,I3.JZ⟩
 ·have q:(relabel scope X.env).names.lookup y=some .cell\/(relabel scope X.env).names.lookup y=some .free:=hy;have nf:scope.names.lookup y=some .free:=by
   rw[wo]at q;cases e:scope.names.lookup y with
   |none=>rw[e]at q;simp at q
   |some k=>
    rw[e]at q;cases k with
    |free=>rfl
    |cell=>
     have hm:(y,NameKind.cell)∈scope.names:=by have:=u5.mp e;obtain⟨l1,l2,z,_⟩:=this;rw[z];simp
     exact absurd rfl (S.Oc _ hm)
    |_=>simp at q
  have hm:y∈frees scope:=by obtain⟨l1,l2,z,_⟩:=u5.mp nf;unfold frees;rw[z];simp
  obtain⟨c,hc⟩:=yO y hm;exact⟨c,(rj yO).mpr ⟨hm,hc⟩⟩
 ·rcases aI.mp hb with rfl|hb
  ·refine⟨λz=>?_,λy c h z=>?_⟩
   ·exact absurd (hs.symm.trans z.symm:b+1=b) (Nat.succ_ne_self b)
   ·obtain⟨v,q⟩:=I2.cell y c (sub h);have:=q.lt;rw[z,hD]at this;exact absurd this (df _)
  ·refine⟨λz=>?_,λy c h=>(f2 b hb).2.2.2.2.1 y c (sub h)⟩;have q:b<D+1:=dD (bQ b hb);rw[z]at q;exact absurd q (by show ¬s.heap.objs.size<D+1;rw[hs];exact df _)
 ·have jZ:b<X.base.objs.size:=aF e;have h1:=I2.ok.BF;have h2:=I2.sz;rcases aI.mp hb with rfl|hb
  ·rw[hD]at jZ;exact absurd (bg jZ (aE h1 h2)) (df _)
  ·rcases(f2 b hb).2.2.2.1 with z|z
   ·exact I2.ok.Em b o e z
   ·exact absurd (bg jZ (aE h1 z)) (df _)
 ·have wU:b∈yR X.stack:=hf;rcases aI.mp (I2.Gs b wU)with z|z
  ·rcases aI.mp hb with rfl|hb
   ·have:=I2.lt;rw[<-z,hD]at this;exact absurd this (df _)
   ·exact(f2 b hb).2.1 z
  ·rcases aI.mp hb with rfl|hb
   ·exact I2.X1 (Ap hD.symm) z
   ·exact(f2 b hb).2.2.1 z
def Sf(S:qi X scope x fs fr)(I3:Inv X pins Z H s)
  (ok:(dG X (x::fs) scope s.heap.objs.size s H ex).Ok) (hn:h4.Ns s.heap.objs.size m) (old:∀b o,s.heap.get? b=some o->h4.get? b=some o):
  Inv (dG X (x::fs) scope s.heap.objs.size s H ex) [] (none::slotsOf fr Z) H {s with heap:=h4,toks:=t}:=by
 have yO:∀n∈frees scope,∃c,X.env.cells.lookup n=some c:=λn hn=>I3.ok.has n (.inl (S.free n hn).1);have sub:∀{y:Str}{c:Addr},(Cs scope X.env).lookup y=some c->X.env.cells.lookup y=some c:=λh=>((rj yO).mp h).2;refine⟨ok,rfl,I3.bare,Un.kept old,⟨m,hn,λi y v e1 e2 e3=>?_⟩,λy c h=>?_,I3.bw.fresh (ak _),λy c h=>I3.nq y c (sub h),λp hp=>absurd hp (by simp),I3.bw.kept old,?_⟩
 ·cases i with
  |zero=>
   have FF:(none:Option V)=some v:=by simpa using e2
   cases FF
  |succ j=>
   have e1':fs[j]?=some y:=by simpa using e1
   have FF:(slotsOf fr Z)[j]?=some (some v):=by simpa using e2
   unfold slotsOf at FF;rw[aJ]at FF;cases hk:fr[j]? with
   |none=>rw[hk]at FF;cases FF
   |some k=>
    rw[hk]at FF;have e4:(Z[k]?).getD none=some v:=by simpa using FF
    have e5:Z[k]?=some (some v):=by
     cases q:Z[k]? with
     |none=>rw[q]at e4;cases e4
     |some z=>rw[q]at e4;exact cA some e4
    obtain⟨n1,n2⟩:=S.slots j y k e1' hk;obtain⟨m0,_,hl⟩:=I3.loc;obtain⟨u,ru,l⟩:=hl k y v n1 e5 (.inr (.inl (S.free y n2).1));have kc:=(S.free y n2).1;rcases l with⟨l,_⟩|⟨_,c,hc,cl⟩
    ·rw[kc]at l;cases l
    ·refine⟨u,ru,.inr ⟨.inl ?_,c,(rj yO).mpr ⟨n2,hc⟩,Br old cl⟩⟩;show(relabel scope X.env).names.lookup y=some .cell;have kf:X.env.scope.kind=.function:=I3.ok.kind;rw[wo,(S.free y n2).2,kf,kc];rfl
 ·obtain⟨v,z⟩:=I3.cell y c (sub h);exact⟨v,Br old z⟩
 ·show(none::slotsOf fr Z).length=(x::fs).length;simp[slotsOf,S.len]
abbrev lobj(vs:List Value)(k:Nat):Obj:={cls:=.type "list",data:=.seq vs.toArray k}
theorem JK:∀(xs:List V)(us:List Value),xs.length=us.length->(∀(j:Nat)(x:V)(u:Value),xs[j]?=some x->us[j]?=some u->RelV x u)->Vals xs us
 |[],[],_,_=>.nil
 |[],_::_,h,_=>by cases h
 |_::_,[],h,_=>by cases h
 |x::xs,u::us,h,f=>.cons (f 0 x u rfl rfl) (JK xs us (by simpa using h) λj a b e1 e2=>f (j+1) a b (by simpa using e1) (by simpa using e2))
def tX(h:xQ k v=true):RelV (kV k) v:=by
 rcases gH h with⟨i,t,rfl,rfl⟩|⟨x,t,rfl,rfl⟩
 ·exact⟨t,rfl⟩
 ·exact⟨t,rfl⟩
def range_all(bs:List Bool):((List.range bs.length).all λi=>(bs[i]?).getD true)=bs.all id:=by
 rw[gY,dA,dA];constructor
 ·intro h b hb;obtain⟨i,hi⟩:=eC.mp hb;have:=h i (dc.mpr (aq.mp hi).1);rw[hi]at this;exact this
 ·intro h i hi;have bQ:=dc.mp hi;rw[ar bQ];exact h _ (jH bQ)
def EG(hc:X.calm=true):iu X (.type "list") (λxs H Q=>∃a kvs,xs=[.ref a]/\H a=some (.dK kvs)/\∀l,H l=none->Q (.ref l) (upd H l (.lst (kvs.map λkv=>kV kv.1)))):=by
 intro pins s Z H xs us Q I r h;obtain⟨a,kvs,rfl,ha,q⟩:=h;obtain⟨u,rfl,ru⟩:=kr r;cases ru;obtain⟨hz,lo,vs,rel,o,es,ep,m⟩:=tN I.bw ha;have at':s.heap.DictAt (bA X.prog X.w) a vs ep:=⟨o,es,m⟩;have hl:kvs.length=vs.length:=rel.length;have hk:kvs.map (·.1)=vs.map (·.1):=rel.keys;refine PySem.W.kdl_call (PySem.W.kdl_dict lo) (I.ok.hd hc) at' (by rw[<-hl];exact hz) λh' tk sE c' kp e it=>?_;have rv:Vals (kvs.map λkv=>kV kv.1) sE.toList:=by
  refine JK _ _ (by simp[it.1,hl]) λj x v e1 e2=>?_;obtain⟨k,y,e3,e4⟩:=it.2 j v (by rw[<-bD];exact e2);have e5:(kvs.map (·.1))[j]?=some k:=by rw[hk,aJ,e3];rfl
  rw[aJ]at e1 e5;cases e6:kvs[j]? with
  |none=>rw[e6]at e1;cases e1
  |some p=>
   rw[e6]at e1 e5;obtain rfl:kV p.1=x:=bL e1;obtain rfl:p.1=k:=bL e5;exact tX e4
 exact⟨.ref s.heap.objs.size,_,I.laid (t':=tk) kp (ak _) (show dm X.prog X.w _ h' _ (.lst _)from⟨by rw[ag];exact hz,sE.toList,c',rv,by simpa using e⟩),rfl,q _ I.fresh⟩
def w6(hc:X.calm=true):iu X (.builtin "all") (λxs H Q=>∃(a:Addr)(bs:List Bool),xs=[.ref a]/\bp X.K H a (bs.map V.bl)/\Q (.bl (bs.all id)) H):=by
 intro pins s Z H xs us Q I r h;obtain⟨a,bs,rfl,ha,q⟩:=h;obtain⟨u,rfl,ru⟩:=kr r;cases ru;obtain⟨aY,rv,p,hz⟩:=I.list ha;have hl:aY.length=bs.length:=by have:=rv.length;simpa using this.symm
 have gP:a≠s.heap.objs.size:=by obtain⟨o,n,e,_⟩:=id p;exact aH (aF e)
 refine call_all_walk (ko p.isList ?_);refine⟨s.heap.objs.size,_,_,aY.toArray.size,_,_,λi=>(bs[i]?).getD true,rfl,Walks.list (A:=X.A.in1) (show X.A.in1.handled=none from I.ok.hd hc) s.heap.objs.size a gP aY.toArray,⟨⟨_,aG _ rfl,rfl,rfl⟩,p.isList.at λo e=>af _ e⟩,?_,λh' tk kp=>?_⟩
 ·intro i v s' Q' E' hP hQ;have hP':aY[i]?=some v:=by simpa using hP
  have hi:i<bs.length:=by rw[<-hl];exact(aq.mp hP').1
  have e1:(bs.map V.bl)[i]?=some (.bl bs[i]):=by rw[aJ,ar hi];rfl
  obtain⟨u,hu,ru⟩:=rv.get e1;rw[hP']at hu;cases hu;cases ru;refine gZ ?_;have e2:(bs[i]?).getD true=bs[i]:=by rw[ar hi];rfl
  rw[<-e2];exact hQ
 ·refine⟨.bl (bs.all id),H,I.kept (t':=tk) λb o e=>kp b o (by simpa using aH (aF e)) (af _ e),?_,q⟩;show Value.bool _=Value.bool _;rw[aN,hl,range_all]
def rm:iu X (.builtin "isinstance") (λxs H Q=>∃x n t b,xs=[x,.ty n]/\nX X.K H x t/\kitOne X.K t (.type n)=some b/\Q (.bl b) H):=by intro pins s Z H xs us Q I r h;obtain⟨x,n,t,b,rfl,ty,e,q⟩:=h;obtain⟨u,w',rfl,ru,om⟩:=vals2 r;cases om;exact OJ I ru ty e λtk=>⟨.bl b,H,I.tok tk,rfl,q⟩
inductive Vl(x:V)(vs:List V)(H:Hp)(Q:VK):Prop
 |mk a b (_:x=.str a) (_:vs=[.str b]) (_:Q (.bl (Txt.startswith a b)) H)
def FV:Qh X "str.startswith" Vl:=by intro pins s Z H x vs v us Q I rx rv h;obtain⟨a,b,rfl,rfl,q⟩:=h;obtain⟨t,rfl⟩:=rx;obtain⟨u,rfl,ru⟩:=rv.one;obtain⟨t',rfl⟩:=ru;exact call_gives F.slot_str_startswith (m7 s a t) F.entry_str_startswith (F.args_str_startswith_2 _ _) (gives_str_startswith a b t t') ⟨.bl _,H,I,rfl,q⟩
inductive abM(x:V)(lo:Option Int)(hi:Option Int)(H:Hp)(Q:VK):Prop
 |mk z (_:x=.str z) (_:z.length<=sizeLine) (_:Q (.str (Txt.slice z lo hi)) H)
def Xl:UI X abM:=by
 intro pins s Z H x v vl vu lo hi sl Q I rx hs pl pu h;obtain⟨z,rfl,hz,q⟩:=h;obtain⟨t,rfl⟩:=rx;cases pl with
 |none=>
  cases pu with
  |none=>exact⟨"str",_,F.slot_str_getitem.lookup,m7 _ _ _,jL (l:=none) (u:=none) (st:=none) hs rfl (pE ⟨aE (qa z _ _) hz,λt' k=>⟨.str _,H,I.tok k,⟨_,rfl⟩,q⟩⟩)⟩
  |int j tj=>exact⟨"str",_,F.slot_str_getitem.lookup,m7 _ _ _,jL (l:=none) (u:=some (j,tj)) (st:=none) hs rfl (pE ⟨aE (qa z _ _) hz,λt' k=>⟨.str _,H,I.tok k,⟨_,rfl⟩,q⟩⟩)⟩
 |int i ti=>
  cases pu with
  |none=>exact⟨"str",_,F.slot_str_getitem.lookup,m7 _ _ _,jL (l:=some (i,ti)) (u:=none) (st:=none) hs rfl (pE ⟨aE (qa z _ _) hz,λt' k=>⟨.str _,H,I.tok k,⟨_,rfl⟩,q⟩⟩)⟩
  |int j tj=>exact⟨"str",_,F.slot_str_getitem.lookup,m7 _ _ _,jL (l:=some (i,ti)) (u:=some (j,tj)) (st:=none) hs rfl (pE ⟨aE (qa z _ _) hz,λt' k=>⟨.str _,H,I.tok k,⟨_,rfl⟩,q⟩⟩)⟩
def abu(_i j:Int):Prop:=0<j/\j.natAbs.log2<9000
def Q0:jr X (binaryOp .FloorDiv) (rI abu λi j=>.int (i/j)):=N3 λi j _ _ _ _ _ hc q=>by have h1:(0:Int)<j:=hc.1;exact floordiv_int (by lia) (by rw[sJ i (by lia)];exact q) (.inl (PyProof.noPylong_of_log2 hc.2))
mutual
def Dt(K:Frag)(H:Hp):PyData->V->Prop
 | .none,x=>x=.cb
 | .bool b,x=>x=.bl b
 | .int i,x=>x=.int i
 | .str z,x=>x=.str z
 | .list ds,x=>∃a xs,x=.ref a/\bp K H a xs/\oQ K H ds xs
 | .tuple ds,x=>∃a xs,x=.ref a/\bE K H a xs/\oQ K H ds xs
 | .dict _,_=>False
def oQ(K:Frag)(H:Hp):List PyData->List V->Prop
 |[],xs=>xs=[]
 |d::ds,xs=>∃x r,xs=x::r/\Dt K H d x/\oQ K H ds r
end
mutual
theorem mF(I:Inv X pins Z H s):∀(d:PyData)(x:V)(v:Value),Dt X.K H d x->RelV x v->∃as,Reads s.heap v d as
 | .none,x,v,h,r=>by rw[Dt]at h;subst h;cases r;exact⟨_,.none⟩
 | .bool b,x,v,h,r=>by rw[Dt]at h;subst h;cases r;exact⟨_,.bool b⟩
 | .int i,x,v,h,r=>by rw[Dt]at h;subst h;obtain⟨t,rfl⟩:=r;exact⟨_,.int i t⟩
 | .str z,x,v,h,r=>by rw[Dt]at h;subst h;obtain⟨t,rfl⟩:=r;exact⟨_,.str z t⟩
 | .list ds,x,v,h,r=>by rw[Dt]at h;obtain⟨a,xs,rfl,hq,ha⟩:=h;cases r;obtain⟨aY,rv,⟨o,n,e,c,_,d⟩,_⟩:=I.list hq;obtain⟨as,ra⟩:=vP I ds xs aY ha rv;exact⟨_,.list e c d (by simpa using ra)⟩
 | .tuple ds,x,v,h,r=>by rw[Dt]at h;obtain⟨a,xs,rfl,hq,ha⟩:=h;cases r;obtain⟨aY,rv,⟨o,e,c,n,d⟩,_⟩:=I.tuple hq;obtain⟨as,ra⟩:=vP I ds xs aY ha rv;exact⟨_,.tuple e c d (by simpa using ra)⟩
 | .dict _,x,v,h,r=>by rw[Dt]at h;exact h.elim
theorem vP(I:Inv X pins Z H s):∀(ds:List PyData)(xs:List V)(vs:List Value),oQ X.K H ds xs->Vals xs vs->∃as,ReadsAll s.heap vs ds as
 |[],xs,vs,h,r=>by rw[oQ]at h;subst h;cases r;exact⟨_,.nil⟩
 |d::ds,xs,vs,h,r=>by
  rw[oQ]at h;obtain⟨x,r',rfl,h1,h2⟩:=h;cases r with
  |cons r1 r2=>
   obtain⟨as,q1⟩:=mF I d x _ h1 r1;obtain⟨bs,q2⟩:=vP I ds r' _ h2 r2;exact⟨_,.cons q1 q2⟩
end
inductive abR(K:Frag)(neg:Bool)(x:V)(y:V)(H:Hp)(Q:VK):Prop
 |mk d e (_:Dt K H d x) (_:Dt K H e y) (_:SeqAt.shaped d=true) (_:SeqAt.shaped e=true) (_:Q (.bl (if neg then !PyData.eqv d e else PyData.eqv d e)) H)
def XQ(hu:X.A.units+64<cLine):jr X (compareOp .NotEq) (abR X.K true):=by intro pins s Z H x y v u Q I rx ry h;obtain⟨d,e,h1,h2,h3,h4,q⟩:=h;obtain⟨as,r1⟩:=mF I d x v h1 rx;obtain⟨bs,r2⟩:=mF I e y u h2 ry;exact ne_dataH r1 r2 h3 h4 hu ⟨.bl _,H,I,rfl,q⟩
theorem DG{K:Frag}:∀zs:List Str,oQ K H (zs.map PyData.str) (zs.map V.str)
 |[]=>by rw[jF,oQ];rfl
 |z::r=>by rw[aX,aX,oQ];exact⟨_,_,rfl,by rw[Dt],DG r⟩
theorem BC:∀xs ys:List Str,PyData.eqvAll (xs.map PyData.str) (ys.map PyData.str)=decide (xs=ys)
 |[],[]=>by simp[PyData.eqvAll]
 |[],_::_=>by simp[PyData.eqvAll]
 |_::_,[]=>by simp[PyData.eqvAll]
 |a::r,b::t=>by simp only[aX,PyData.eqvAll,PyData.eqv,BC r t];by_cases h:a=b<;>by_cases h':r=t<;>simp[h,h']
theorem Cb:∀zs:List Str,(∀z∈zs,PyData.strOk z=true)->PyData.canLayAll0 (zs.map PyData.str)=true
 |[],_=>rfl
 |z::r,h=>by have h1:=h z aA;have h2:=Cb r λy hy=>h y (aD _ hy);simp[PyData.canLayAll0,PyData.canLay0,h1,h2]
theorem pX:∀zs:List Str,PyData.depthAll (zs.map PyData.str)=0
 |[]=>rfl
 |_::r=>by simp[PyData.depthAll,PyData.depth,pX r]
def MG(osc:Scope)(N:List Str)(scope:Scope)(x:Str)(fs:List Str)(fr:List Nat):Bool:=
 scope.kind==.function&&scope.names.lookup x==some .local&&scope.names.all (λy=>!(y.2==.local)||scope.names.lookup y.1==some .local)&&scope.names.all (λy=>!(y.2==.cell))&&
  (frees scope).all (λn=>osc.names.lookup n==some .cell&&scope.names.lookup n==some .free)&&decide ((x::fs).Nodup)&&fr.length==fs.length&&
  (List.range fs.length).all (λj=>match fs[j]?,fr[j]? with|some y,some k=>N[k]?==some y&&decide (y∈frees scope)|_,_=>false)
end
def dB(h:MG X.env.scope X.N scope x fs fr=true:=by kernel_rfl):qi X scope x fs fr:=by
 unfold MG at h;simp only[cM]at h;obtain⟨⟨⟨⟨⟨⟨⟨h1,h2⟩,h3⟩,h4⟩,h5⟩,h6⟩,h7⟩,h8⟩:=h;refine⟨jq h1,jq h2,λy hy e=>?_,λy hy e=>?_,λn hn=>?_,br h6,jq h7,λj y k e1 e2=>?_⟩
 ·have:=dA.mp h3 y hy;rw[e]at this;simpa using this
 ·have:=dA.mp h4 y hy;rw[e]at this;simp at this
 ·have:=dA.mp h5 n hn;rw[cM]at this;exact⟨jq this.1,jq this.2⟩
 ·have:=dA.mp h8 j (dc.mpr (aq.mp e1).1);rw[e1,e2]at this;simp only[cM]at this;exact⟨jq this.1,br this.2⟩
def dW(P:Program)(w:World)(K:Frag)(mg:Str->Option Value)(base:Heap)(k:Nat)(x:Str)(ps:List Str)(sp:Sp):Prop:=
 ∃f fd,cY P w K mg base fH k f fd ps sp/\mg x=some (.ref f)/\keepIn K (.ref f)=true/\Binds K fd ps []
def cl(D:dW X.prog X.w X.K X.mg X.base k x ps sp)(hr:gh j X.A)(ha:PA X (e::es) t)(hk:k<=j:=by decide)(hg:Gl X x:=by rfl)
  (zV:(x==("__debug__":Str))=false:=by decide) (he:starEach (e::es) X.env=(false,eval e X.env)::starEach es X.env:=by rfl) (pR:(backTo pos (starEach es X.env)).any (·.1)=false:=by rfl):
  PE X (.Call (.Name x p) (e::es) [] pos) (SV sp [] E0 t):=by
 obtain⟨f,fd,F,m,kp,b⟩:=D;exact VC F (hr.mono hk) hg m kp b .nil LI ha zV he pR
def De(l:Addr)(items:Array Value)(n:Nat)(b:Addr)(dd:Option Addr)(sl:Array (Option Value))(wJ:Array Value)(n2:Nat)(hs0:¬(!items.isEmpty&&Builtin.List.listTooLong (items.size+wJ.size))=true)(sU:items.size<=sizeLine)(jY:items.size+wJ.size<=sizeLine+1):
  Meets (Builtin.«list.extend» ⟨[.ref l,.ref b],[]⟩) (λ_ R s=>s.heap.get? l=some {cls:=.type "list",dict:=none,data:=.seq items n,slots:=#[]}/\s.heap.get? b=some {cls:=.type "tuple",dict:=dd,data:=.seq wJ n2,slots:=sl}/\R (.ok (.ret Value.none)) {s with heap:=s.heap.update l (Obj.mapSeq λx=>x++wJ),toks:=s.toks}):=
 .of_wp λprog w A R s h=>by
  obtain⟨hp,g,d,tk,os⟩:=s;obtain⟨hl,hb,h⟩:=h;have oo:(items++wJ).size<=sizeLine+1:=by rw[Array.size_append];exact jY
  wp_walk using(iD hl rfl (hz:=sU) (_hz':=oo)),wpAny_loadPart' hl,wpAny_loadPart' hb
  exact⟨_,rfl,h⟩
section
variable{X:Cx}
inductive QP(K:Frag)(x:V)(vs:List V)(H:Hp)(Q:VK):Prop
 |mk l b xs zs (_:x=.ref l) (_:vs=[.ref b]) (_:H l=some (.lst xs)) (_:bE K H b zs) (_:xs.length+zs.length<=sizeLine) (_:Q .cb (upd H l (.lst (xs++zs))))
def LP:Qi X "list.extend" (QP X.K):=by
 intro pins s Z H x vs v us Q I rx rv h;obtain⟨l,b,xs,zs,rfl,rfl,hH,hB,hz,q⟩:=h;cases rx;obtain⟨u,rfl,ru⟩:=rv.one;cases ru;obtain⟨z,aY,n,r,hl,e⟩:=I.B7 hH;obtain⟨oW,r2,⟨⟨cls,dd,data,sl⟩,e2,wV,n2,hd2⟩,z2⟩:=I.tuple hB;simp only at wV hd2;subst wV hd2;have km:=r2.length;have hsz:aY.toArray.size+oW.toArray.size<=sizeLine:=by rw[aN,aN];lia
 have L8:¬(!aY.toArray.isEmpty&&Builtin.List.listTooLong (aY.toArray.size+oW.toArray.size))=true:=by rw[Ht hsz,nK];exact aT
 refine tP Ax ⟨_,e,rfl⟩ yX (yw _ _)
  (De l aY.toArray n b dd sl oW.toArray n2 L8 (by rw[aN];lia) (by lia)) ⟨e,e2,?_⟩
 refine⟨.cb,_,I.LV (its':=aY++oW) hH e (by simp) (r.append r2) ?_,rfl,q⟩;rw[aK];lia
end
def cut(n:Nat)(C:St->Hp->Prop)(ht:∃t2,kU X (body.drop n) t2/\∀Z H,C Z H->t2 D Z H)
  (hh:∀t2,kU X (body.drop n) t2->∃t,kU X body t/\((∀Z H,C Z H->t2 D Z H)->t D σ0 H0)):∃t,kU X body t/\t D σ0 H0:=by
 obtain⟨t2,p,q⟩:=ht;obtain⟨t,p',q'⟩:=hh t2 p;exact⟨t,p',q' q⟩
def adi{B:St->Hp->Prop}(n:Nat)(C:St->Hp->Prop)(ht:∃t2,kU X (body.drop n) t2/\∀Z H,C Z H->t2 D Z H)
  (hh:∀t2,kU X (body.drop n) t2->∃t,kU X body t/\((∀Z H,C Z H->t2 D Z H)->∀Z H,B Z H->t D Z H)):∃t,kU X body t/\∀Z H,B Z H->t D Z H:=by
 obtain⟨t2,p,q⟩:=ht;obtain⟨t,p',q'⟩:=hh t2 p;exact⟨t,p',q' q⟩
def QW(hg:Gl X x)(hm:∃t,X.mg x=some (.int i t))(hd:(x==("__debug__":Str))=false:=by decide):PE X (.Name x pos) (tC (.int i)):=by obtain⟨t,hm⟩:=hm;exact Kl hg hm ⟨t,rfl⟩ hd
def QV(hg:Gl X x)(hm:∃t,X.mg x=some (.str z t))(hd:(x==("__debug__":Str))=false:=by decide):PE X (.Name x pos) (tC (.str z)):=by obtain⟨t,hm⟩:=hm;exact Kl hg hm ⟨t,rfl⟩ hd
section
variable{X:Cx}{K:Frag}
def HK(h:X.K=K:=by rfl):Lh X (XD K):=h▸eX
def wI(h:X.K=K:=by rfl):Lh X (XC K):=h▸rK
def Ac(h:X.K=K:=by rfl):iu X (.builtin "len") (λxs H Q=>∃x n,xs=[x]/\aaw K x H n/\Q (.int n) H):=h▸fS
def sr(h:X.K=K:=by rfl):jr X (compareOp .NotIn) (rIn K true):=h▸zB
def IT(h:X.K=K:=by rfl):iu X (.builtin "isinstance") (λxs H Q=>∃x n t b,xs=[x,.ty n]/\nX K H x t/\kitOne K t (.type n)=some b/\Q (.bl b) H):=h▸rm
def iH{A B:Hp->Prop}(h:A H):FY Z H (λb H4=>if b=true then A H4 else B H4):=by show(if true=true then A H else B H);rw[aB rfl];exact h
end
end L2
namespace HT
open PySem PySem.Spec PyProof.Rows
section
variable{prog:Program}{w:World}{A:Around}{E:Value->Shared->Prop}{s:Shared}
def Sk(ht:IsTup s.heap t vs.toArray)(hb:IsTup s.heap b ws.toArray)(h0:vs=[]->Q (.ref b) s)
  (h1:vs≠[]->ws=[]->Q (.ref t) s) (h2:vs≠[]->ws≠[]->Q (.ref s.heap.objs.size) {s with heap:=s.heap.push {cls:=.type "tuple",data:=.seq (vs++ws).toArray}})
  (hsz:vs.length+ws.length<=sizeLine):wpAny (model prog w) A (binaryOp .Add (.ref t) (.ref b)) Q E s:=by
 by_cases hv:vs=[]
 ·obtain⟨⟨cls,dd,data,sl⟩,ho,hc,n,hd⟩:=id ht;obtain⟨⟨adj,La,data2,S4⟩,yL,wV,n2,hd2⟩:=id hb;simp only at hc hd wV hd2;subst hc hd wV hd2;exact zZ ⟨_,ho,rfl⟩ ⟨_,yL,rfl⟩ uv yE oF nO (mV _ _)
   (tuple_addW0 t b vs.toArray ws.toArray n n2 dd La sl S4 (by simp[hv])) ⟨ho,yL,h0 hv⟩
 ·exact Ww ht hb hv (h1 hv) (h2 hv) hsz
end
end HT
namespace L2
open PySem PySem.Spec PyProof.Rows
section
variable{X:Cx}
inductive Tc(K:Frag)(x:V)(y:V)(H:Hp)(Q:VK):Prop
 |mk a b xs ys (_:x=.ref a) (_:y=.ref b) (_:bE K H a xs) (_:bE K H b ys) (_:xs.length+ys.length<=sizeLine) (_:(xs=[]->Q (.ref b) H)) (_:(xs≠[]->ys=[]->Q (.ref a) H)) (_:(xs≠[]->ys≠[]->∀p,H p=none->Q (.ref p) (upd H p (.tup (xs++ys)))))
def VG:jr X (binaryOp .Add) (Tc X.K):=by intro pins s Z H x y v u Q I rx ry h;obtain⟨a,b,xs,ys,rfl,rfl,ha,hb,hz,q0,q1,q2⟩:=h;cases rx;cases ry;obtain⟨aY,r1,p1,_⟩:=I.tuple ha;obtain⟨oW,r2,p2,_⟩:=I.tuple hb;refine HT.Sk p1 p2 (λz=>⟨.ref b,H,I,rfl,q0 (r1.wB.mp z)⟩) (λn z=>⟨.ref a,H,I,rfl,q1 (λz=>n (r1.wB.mpr z)) (r2.wB.mp z)⟩) (λn z=>?_) (by rw[<-r1.length,<-r2.length];exact hz);refine⟨.ref s.heap.objs.size,_,I.laid (t':=s.toks) (o:=.tup (xs++ys)) (λb ob q=>af _ q) (ak _) ?_,rfl,q2 (λz=>n (r1.wB.mpr z)) (λw=>z (r2.wB.mpr w)) _ (I.bw.fresh (ak _))⟩;exact⟨by rw[aK];exact hz,_,r1.append r2,IsTup.new _ _,_,aG _ rfl,rfl⟩
inductive XB(K:Frag)(neg:Bool)(x:V)(y:V)(H:Hp)(Q:VK):Prop
 |mk a b xs (_:x=.ref a) (_:y=.ref b) (_:bp K H a xs) (_:bp K H b []) (_:Q (.bl (if neg then !xs.isEmpty else xs.isEmpty)) H)
def XS(hu:X.A.units<cLine):jr X (compareOp .Eq) (XB X.K false):=by
 intro pins s Z H x y v u Q I rx ry h;obtain⟨a,b,xs,rfl,rfl,ha,hb,q⟩:=h;cases rx;cases ry;obtain⟨aY,r1,p1,_⟩:=I.list ha;obtain⟨oW,r2,p2,_⟩:=I.list hb;cases r2;cases xs with
 |nil=>
  cases r1;exact SeqAt.eq_listAt (e:=λ_=>true) p1.isList p2.isList rfl hu (λj h1 _=>absurd h1 (gR _)) ⟨.bl true,H,I,rfl,q⟩
 |cons c l=>
  cases r1 with
  |cons r0 r1=>exact SeqAt.eq_list_lengthsAt p1.isList p2.isList (by simp) hu ⟨.bl false,H,I,rfl,q⟩
def NZ(hu:X.A.units<cLine):jr X (compareOp .NotEq) (XB X.K true):=by
 intro pins s Z H x y v u Q I rx ry h;obtain⟨a,b,xs,rfl,rfl,ha,hb,q⟩:=h;cases rx;cases ry;obtain⟨aY,r1,p1,_⟩:=I.list ha;obtain⟨oW,r2,p2,_⟩:=I.list hb;cases r2;cases xs with
 |nil=>
  cases r1;exact SeqAt.RcNeAt.lists (e:=λ_=>true) p1.isList p2.isList rfl hu (λj h1 _=>absurd h1 (gR _)) X.prog X.w X.xe _ ⟨.bl false,H,I,rfl,q⟩
 |cons c l=>
  cases r1 with
  |cons r0 r1=>exact SeqAt.RcNeAt.lists_lengths p1.isList p2.isList (by simp) hu X.prog X.w X.xe _ ⟨.bl true,H,I,rfl,q⟩
variable{K:Frag}{a:Addr}{xs:List V}{fr:List Nat}{tt:TT}{te:TE}{Z:St}{H1:Hp}{R:Addr->List V->Hp->Prop}
abbrev yy(J:It)(fr:List Nat)(tt:TT)(te:TE)(Z:St)(H1:Hp)(R:Addr->List V->Hp->Prop):Prop:=
 ∃W:Nat->Nat->List V->Hp->Prop,(∃m,W 0 m [] H1)/\∀i m ys H2,W i m ys H2->
 (J.stop i H2/\ys.length<=sizeLine/\∀l,H2 l=none->R l ys H2)\/
 (J.go i H2/\ys.length<sizeLine/\∀v H3,J.yA i H2 v H3->tt (some v::slotsOf fr Z) H3 λb H4=>
  if b=true then te (some v::slotsOf fr Z) H4 (λy H5=>∃m',m'<m/\W (i+1) m' (ys++[y]) H5)else∃m',m'<m/\W (i+1) m' ys H4)
def uK(Pv:Nat->List V->Hp->Prop)(hx:xs.length<sizeLine)(h0:Pv 0 [] H1)(hl:∀i ys H,i<=xs.length->Pv i ys H->bE K H a xs/\ys.length<=i)
  (hs:∀(i:Nat)(x:V)(ys:List V)(H:Hp)(N:List V->Hp->Prop),xs[i]?=some x->Pv i ys H->(∀fY H',Pv (i+1) fY H'->N fY H')->
   tt (some x::slotsOf fr Z) H λb H4=>if b=true then te (some x::slotsOf fr Z) H4 (λy H5=>N (ys++[y]) H5)else N ys H4)
  (hd:∀ys H,Pv xs.length ys H->∀l,H l=none->R l ys H):yy (Li K a) fr tt te Z H1 R:=by
 refine⟨λi m ys H=>m=xs.length -i/\i<=xs.length/\Pv i ys H,⟨xs.length,by simp,aO _,h0⟩,?_⟩;rintro i m ys H ⟨rfl,hi,p⟩;obtain⟨q,hy⟩:=hl i ys H hi p;by_cases bQ:i<xs.length
 ·refine .inr ⟨⟨xs,_,q,ar bQ⟩,by lia,?_⟩;rintro v H3 ⟨rfl,hv⟩;exact hs i v ys H3 (λfY H'=>∃m',m'<xs.length -i/\m'=xs.length -(i+1)/\i+1<=xs.length/\Pv (i+1) fY H') (hv xs q) p λfY H' p'=>⟨_,by lia,rfl,bQ,p'⟩
 ·have e:i=xs.length:=by lia
  subst e;exact .inl ⟨⟨xs,q,ak _⟩,by lia,hd ys H p⟩
def j6(Pv:Nat->List V->Hp->Prop)(hx:xs.length<sizeLine)(h0:Pv 0 [] H1)(hl:∀i ys H,i<=xs.length->Pv i ys H->bp K H a xs/\ys.length<=i)
  (hs:∀(i:Nat)(x:V)(ys:List V)(H:Hp)(N:List V->Hp->Prop),xs[i]?=some x->Pv i ys H->(∀fY H',Pv (i+1) fY H'->N fY H')->
   tt (some x::slotsOf fr Z) H λb H4=>if b=true then te (some x::slotsOf fr Z) H4 (λy H5=>N (ys++[y]) H5)else N ys H4)
  (hd:∀ys H,Pv xs.length ys H->∀l,H l=none->R l ys H):yy (Lk K a) fr tt te Z H1 R:=by
 refine⟨λi m ys H=>m=xs.length -i/\i<=xs.length/\Pv i ys H,⟨xs.length,by simp,aO _,h0⟩,?_⟩;rintro i m ys H ⟨rfl,hi,p⟩;obtain⟨q,hy⟩:=hl i ys H hi p;by_cases bQ:i<xs.length
 ·refine .inr ⟨⟨xs,_,q,ar bQ⟩,by lia,?_⟩;rintro v H3 ⟨rfl,hv⟩;exact hs i v ys H3 (λfY H'=>∃m',m'<xs.length -i/\m'=xs.length -(i+1)/\i+1<=xs.length/\Pv (i+1) fY H') (hv xs q) p λfY H' p'=>⟨_,by lia,rfl,bQ,p'⟩
 ·have e:i=xs.length:=by lia
  subst e;exact .inl ⟨⟨xs,q,ak _⟩,by lia,hd ys H p⟩
variable{P:Program}{w:World}{A:Around}{E:Value->Shared->Prop}{z:Shared}
def tJ(g:z.heap.IsTupleIter j p k)(gp:z.heap.IsTuple p aY)(gy:aY[k]?=some y)
  (q:∀h',h'.IsTupleIter j p (k+1)->Heap.SameBut j z.heap h'->Q y {z with heap:=h'}):wpAny (model P w) A (Builtin.SmallTypes.nextOf (.ref j)) Q E z:=by
 obtain⟨ob,g0,g1,g2⟩:=id g;obtain⟨op,p0,_,np,p2⟩:=gp;unfold Builtin.SmallTypes.nextOf;refine ae (wpAny_callSpecial?_slot (name:=Str.ofString "__next__") g.typeIs iX (bC iX g.typeIs sf ?_ (qV _)));show wpAny _ _ (field (.ref j) 0>>=_) _ _ z;refine ae (bO g0 g2 (x:=.ref p) rfl ?_);show wpAny _ _ (if(Value.ref p==Value.none)=true then _ else _) _ _ z;rw[ax (show ¬((Value.ref p==Value.none)=true)from aT)];show wpAny _ _ (field (.ref j) 1>>=_) _ _ z;refine ae (bO g0 g2 (x:=.int k 0) rfl ?_);show wpAny _ _ (seqItems? (.ref p)>>=_) _ _ z;refine ae (bS p0 p2 ?_);simp only[cN,gy];refine ae (eT g0 g2 (by simp) (ah ⟨y,rfl,ah (q _ ?_ (bU ..))⟩));exact⟨_,b7 _ g0 (xf (mY g2 _)),(A3 ..).trans g1,by rw[mY g2];simp[rawInt]⟩
def wC(hd:A.handled=none)(g:z.heap.IsTupleIter j p k)(gp:z.heap.IsTuple p aY)(gy:aY[k]?=none)
  (q:∀h' e,Heap.ExtBut j z.heap h'->(∃o,h'.get? e=some o/\o.cls=.type "StopIteration")->E (.ref e) {z with heap:=h'}):wpAny (model P w) A (Builtin.SmallTypes.nextOf (.ref j)) Q E z:=by
 obtain⟨ob,g0,g1,g2⟩:=id g;obtain⟨op,p0,_,np,p2⟩:=gp;unfold Builtin.SmallTypes.nextOf;refine ae (wpAny_callSpecial?_slot (name:=Str.ofString "__next__") g.typeIs iX (bC iX g.typeIs sf ?_ (qV _)));show wpAny _ _ (field (.ref j) 0>>=_) _ _ z;refine ae (bO g0 g2 (x:=.ref p) rfl ?_);show wpAny _ _ (if(Value.ref p==Value.none)=true then _ else _) _ _ z;rw[ax (show ¬((Value.ref p==Value.none)=true)from aT)];show wpAny _ _ (field (.ref j) 1>>=_) _ _ z;refine ae (bO g0 g2 (x:=.int k 0) rfl ?_);show wpAny _ _ (seqItems? (.ref p)>>=_) _ _ z;refine ae (bS p0 p2 ?_);simp only[cN,gy];refine ae (fg (ae (eT g0 g2 (by simp) ?_)));show wpAny _ _ (newExc (.type "StopIteration") []>>=_) _ _ _;refine ae ?_;simp only[newExc,newTuple];refine ae (cT ?_ (by size_fits));refine ae (m:=firstArgMember _ _) (Ba (a:=Value.none) (by first|rfl|(simp only[firstArgMember];rfl)) ?_);refine cT ?_ (by size_fits);simp only[raiseNew];refine ae (wpAny_handled ?_)
 first|rw[show A.in1.handled=none from hd]|rw[hd]
 refine ae (ah (wpAny_throw ?_));exact q _ _ (((bU ..).extBut.push _).push _) ⟨_,aG _ rfl,rfl⟩
end
section
variable{X:Cx}{pins:List (Addr×Obj)}{Z:St}{H:Hp}{s:Shared}{h':Heap}
def Inv.U0(I:Inv X pins Z H s)(k:∀b o,b≠e->b≠j->s.heap.get? b=some o->h'.get? b=some o)(fe:oZ X pins H e)(fj:oZ X pins H j)
  (hp:s.heap.objs.size<=p) (ht:IsTup h' p us.toArray/\∃o,h'.get? p=some o/\o.dict=none) (r:Vals xs us) (hz:xs.length<=sizeLine):Inv X pins Z (upd H p (.tup xs)) {s with heap:=h',toks:=t'}:=by
 have hn:=I.bw.fresh hp;have fp:=I.pT hp hn;have nH:∀b u,H b=some u->b≠e/\b≠j/\b≠p:=λb u g=>⟨(λz=>by rw[z,fe.1]at g;cases g),(λz=>by rw[z,fj.1]at g;cases g),λz=>by rw[z,hn]at g;cases g⟩;refine I.step (g':=s.gens) (d':=s.drawn) (ch:=[e,j,p]) (λb hb=>?_) (λb o _ _ hc g _=>k b o (λz=>hc (by simp[z])) (λz=>hc (by simp[z])) g) (λb o _ _ hc g _=>⟨o.slots,k b o (λz=>hc (by simp[z])) (λz=>hc (by simp[z])) g⟩)
  (λb o hc g n=>by rw[aw λz=>hc (by simp[z])];exact n) (λb o hc g=>⟨o,k b o (λz=>hc (by simp[z])) (λz=>hc (by simp[z])) g⟩)
  (λb ys g=>by rw[aw (nH b _ g).2.2];exact g) (λb o u g=>by rw[aw (nH b _ g).2.2];exact g) (λb ps g=>⟨#[],by rw[aw (nH b _ g).2.2,g];simp⟩) (λm hm=>?_) (λb u g=>?_) I.bare
 ·have jZ:b=e\/b=j\/b=p:=by simpa using hb
  rcases jZ with rfl|rfl|rfl
  ·exact⟨fe.2.2.2.1,fe.2.1,fe.2.2.2.2.1,fe.2.2.2.2.2⟩
  ·exact⟨fj.2.2.2.1,fj.2.1,fj.2.2.2.2.1,fj.2.2.2.2.2⟩
  ·exact⟨fp.2.2.2.1,fp.2.1,fp.2.2.2.2.1,fp.2.2.2.2.2⟩
 ·obtain⟨o,es,ep,ho,r'⟩:=hm;exact⟨o,es,ep,k _ o (bP fe.2.1) (bP fj.2.1) ho,r'⟩
 ·by_cases hb:b=p
  ·subst hb;rw[au]at g;cases g;exact⟨hz,us,r,ht⟩
  ·rw[aw hb]at g;refine(I.bw b u g).iS (λc v hc q=>?_) (λc q=>?_) λc ys q=>?_
   ·rcases hc with z|z
    ·rw[z];rw[z]at q;exact k b v (nH b _ g).1 (nH b _ g).2.1 q
    ·exact k c v (nH c _ z).1 (nH c _ z).2.1 q
   ·rw[aw (nH c _ q).2.2];exact q
   ·rw[aw (nH c _ q).2.2];exact q
def PL{D:Addr->Prop}{E:Value->Shared->Prop}{e j:Addr}{fp:List Addr}{n i:Nat}{Pv:Nat->Value->Prop}{St':Nat->Heap->Prop}{old:Value}{elts:List Expr}{kk:Nat}{ps:Pos}{y:V}
  (W:Draws X.prog X.w X.A.in1 j fp n Pv St') (he:IsEnum s.heap e j i old) (st:St' i s.heap) (hi:i<n) (gP:e≠j) (hef:e∉fp) (I:Inv X pins Z H s) (fe:oZ X pins H e) (fj:oZ X pins H j) (hP:∀u,Pv i u->RelV y u):
  wpAny (model X.prog X.w) X.A (pyNext (.ref e)) (λr s1=>∃u,r=some u/\
   wpAny (model X.prog X.w) X.A (letOwnedTupleGo (.Tuple elts kk ps) (.ref e) u) (λ_ s2=>∃p,u=.ref p/\H p=none/\Inv X pins Z (upd H p (.tup [.int i,y])) s2/\(∃abU,IsEnum s2.heap e j ((i:Int)+1) abU)/\St' (i+1) s2.heap/\e≠p/\j≠p) E s1) E s:=by
 refine wpAny_pyNext_enum_itemD W he st hi gP hef λx h1 tk hx ho st1 hT hsz hk=>?_;refine⟨_,rfl,wpAny_letOwnedTupleGo_enum ho λh2 Dx jY=>?_⟩;have ZC:e<s.heap.objs.size:=aF he;have ma:j<s.heap.objs.size:=by obtain⟨o,z⟩:=W.live _ _ st;exact aF z
 have L3:Heap.SameBut e h1 h2:=jY;have hT2:IsTup h2 s.heap.objs.size ([.int (i:Int) tk,x]:List Value).toArray/\∃o,h2.get? s.heap.objs.size=some o/\o.dict=none:=⟨⟨_,L3.extBut _ _ (bx ZC) hT,rfl,_,rfl⟩,_,L3.extBut _ _ (bx ZC) hT,rfl⟩;refine⟨s.heap.objs.size,rfl,I.bw.fresh (ak _),I.U0 (t':=tk+1) (e:=e) (j:=j) (λb o n1 n2 g=>L3.extBut b o n1 (hk b o n1 n2 g)) fe fj (ak _) hT2 (.cons ⟨tk,rfl⟩ (.cons (hP x hx) .nil)) (by show 2<=sizeLine;decide),⟨_,Dx⟩,?_,aH ZC,aH ma⟩;exact W.frame _ _ _ st1 λb hb o g=>L3.extBut b o (λz=>hef (z▸hb)) g
end
def Qj(K:Frag)(a:Addr):It:=
 ⟨λi H=>∃xs x,bp K H a xs/\xs[i]?=some x,λi H x H'=>∃p y,x=.ref p/\H p=none/\H'=upd H p (.tup [.int i,y])/\∀xs,bp K H a xs->xs[i]?=some y,λi H=>∃xs,bp K H a xs/\xs.length=i⟩
def P6{h:Heap}(e:h.get? a=some o)(e':h.get? b=some o')(n:o.cls≠o'.cls):a≠b:=λz=>by rw[z,e']at e;cases e;exact n rfl
def Nb{K:Frag}(a e j:Addr):Turn P w K (.Tuple elts kk ps) (Qj K a) [e,j] e (λi h=>(∃old,IsEnum h e j i old)/\h.IsListIter j a i/\e≠j) where
 mem:=by simp
 obj:=λi h st b hb=>by
  obtain⟨⟨old,he⟩,⟨o,g,c,d⟩,_⟩:=st;have jZ:b=e\/b=j:=by simpa using hb
  rcases jZ with rfl|rfl
  ·exact⟨_,he,λv z=>by cases z⟩
  ·exact⟨o,g,λv z=>by rw[d]at z;cases z⟩
 keep:=λi h h' st k=>by obtain⟨⟨old,he⟩,⟨o,g,r⟩,n⟩:=st;exact⟨⟨old,k e (by simp) _ he⟩,⟨o,k j (by simp) o g,r⟩,n⟩
 item:=by
  intro X hP hw hK hc i pins s Z H E I hf st hg;subst hP hw hK;obtain⟨xs,x,hq,hx⟩:=hg;obtain⟨aY,rv,pl,hz⟩:=I.list hq;obtain⟨⟨old,he⟩,hj,gP⟩:=st;have hl:=rv.length;have hil:i<xs.length:=(aq.mp hx).1;obtain⟨o0,g0,c0,_⟩:=id pl.isList;obtain⟨o1,g1,c1,_⟩:=id hj;have nae:a≠e:=P6 g0 he (by rw[c0];show Value.type "list"≠Value.type "enumerate";decide);have naj:a≠j:=P6 g0 g1 (by rw[c0,c1];decide);have W:=Draws.list (prog:=X.prog) (w:=X.w) (A:=X.A.in1) (show X.A.in1.handled=none from I.ok.hd hc) j a naj aY.toArray;refine hE (PL (D:=λ_=>True) (y:=x) W he ⟨hj,pl.isList⟩ (by rw[aN];lia) gP (by simp[gP,nae.symm]) I (hf e (by simp)) (hf j (by simp)) λu hu=>?_) λr s1 ⟨u,er,h1⟩=>⟨u,er,hE h1 λ_ s2 ⟨p,eu,hp,I2,Dx,o9,n1,n2⟩=>?_⟩
  ·obtain⟨u',rN,ru⟩:=rv.get hx;have wO:aY[i]?=some u:=by simpa using hu
   rw[wO]at rN;cases rN;exact ru
  ·subst eu;refine⟨.ref p,_,I2,rfl,⟨p,x,rfl,hp,rfl,λys hy=>by rw[I.B8 hy hq];exact hx⟩,⟨Dx,o9.1,gP⟩,λb hb=>?_⟩;have jZ:b=e\/b=j:=by simpa using hb
   rcases jZ with rfl|rfl
   ·rw[aw n1];exact(hf b (by simp)).1
   ·rw[aw n2];exact(hf b (by simp)).1
 done:=by intro X hP hw hK hc i pins s Z H E I hf st hg;subst hP hw hK;obtain⟨xs,hq,hx⟩:=hg;obtain⟨aY,rv,pl,hz⟩:=I.list hq;obtain⟨⟨old,he⟩,hj,gP⟩:=st;have hl:=rv.length;obtain⟨f0,f1,f2,f3,f4,f5⟩:=hf j (by simp);exact wpAny_pyNext_enum_end (I.ok.hd hc) he hj pl.isList (by simp;lia) λh' eb=>⟨rfl,I.turned (t':=s.toks) (λb o hb g=>eb b o hb g) f0 f1 f3 f4 f5⟩
 self:=λ_ _ _ _ _ st h=>by obtain⟨⟨old,he⟩,_⟩:=st;exact AV he h
section
variable{X:Cx}{elts:List Expr}{kk:Nat}{ps:Pos}
inductive YJ(K:Frag)(R:It->Hp->Prop)(vs:List V)(H1:Hp):Prop
 |mk a (_:vs=[.ref a]) (_:(∃xs,bp K H1 a xs)) (_:R (Qj K a) H1)
def abb(K:Frag)(ta:TA):TI:=λZ H R=>ta Z H λvs H1=>YJ K R vs H1
def Wd(I:Inv X pins Z H s):∀b∈[s.heap.objs.size+1,s.heap.objs.size],oZ X pins H b:=λb hb=>by
 have jZ:b=s.heap.objs.size+1\/b=s.heap.objs.size:=by simpa using hb
 rcases jZ with rfl|rfl
 ·exact I.pT (eG _) (I.bw.fresh (eG _))
 ·exact I.pT (ak _) (I.bw.fresh (ak _))
def Kj(hg:Gl X "enumerate")(hm:X.mg "enumerate"=none)(ha:PA X [a] ta)(hs:starEach [a] X.env=[(false,eval a X.env)]:=by rfl):PI X (.Tuple elts kk ps) (.Call (.Name "enumerate" p) [a] [] pos) (abb X.K ta):=by intro pins s Z H R I h;refine D5 (pK I hg hm boot_enumerate (dC (pA (ha pos pins s Z H _ I h) λus s1 vs H1 I1 r1 q1=>?_) hs rfl));obtain⟨l,e,⟨xs,hq⟩,q⟩:=q1;subst e;obtain⟨u,rfl,ru⟩:=kr r1;cases ru;obtain⟨aY,rv,pl,hz⟩:=I1.list hq;refine call_enumerate_list pl.isList λh' he hj _ hk=>?_;have I2:Inv X pins Z H1 {s1 with heap:=h'}:=I1.kept (t':=s1.toks) hk;refine AV he ?_;exact⟨_,_,_,_,H1,rfl,I2,Nb l _ s1.heap.objs.size,⟨⟨_,he⟩,hj,Nat.succ_ne_self _⟩,Wd I1,q⟩
def IE{K:Frag}{g:TG}{tb:TS}{D:Ends}(Pv:Nat->St->Hp->Prop)(h0:Pv 0 Z H)(hl:∀i Z H,i<=xs.length->Pv i Z H->bp K H a xs)
  (hs:∀i x p Z H,xs[i]?=some x->Pv i Z H->H p=none->g (.ref p) Z (upd H p (.tup [.int i,x])) λσ2 H2=>tb {D with nx:=Pv (i+1),ct:=Pv (i+1),bk:=D.nx} σ2 H2) (hd:∀Z H,Pv xs.length Z H->D.nx Z H):
  ∃W:Nat->Nat->St->Hp->Prop,(∃m,W 0 m Z H)/\∀i m Z H,W i m Z H->
   ((Qj K a).stop i H/\D.nx Z H)\/((Qj K a).go i H/\∃N:St->Hp->Prop,(∀σ' H',N σ' H'->∃m',m'<m/\W (i+1) m' σ' H')/\∀x H',(Qj K a).yA i H x H'->g x Z H' λσ2 H2=>tb {D with nx:=N,ct:=N,bk:=D.nx} σ2 H2):=by
 refine⟨λi m Z H=>m=xs.length -i/\i<=xs.length/\Pv i Z H,⟨xs.length,by simp,aO _,h0⟩,?_⟩;rintro i m Z H ⟨rfl,hi,p⟩;have q:=hl i Z H hi p;by_cases bQ:i<xs.length
 ·refine .inr ⟨⟨xs,xs[i],q,by simp[bQ]⟩,Pv (i+1),λσ' H' p'=>⟨xs.length -(i+1),by lia,rfl,bQ,p'⟩,λx H' y=>?_⟩;obtain⟨r,z,rfl,hr,rfl,y⟩:=y;exact hs i z r Z H (y xs q) p hr
 ·have e:i=xs.length:=by lia
  subst e;exact .inl ⟨⟨xs,q,rfl⟩,hd Z H p⟩
def Lr(j:Nat)(t:TE):TS:=λD Z H=>t Z H λv H1=>D.nx (Z.set j (some v)) H1
variable{K:Frag}
def QJ(h:X.K=K:=by rfl):UI X (Xz K):=h▸J3
variable{prog:Program}{w:World}{A:Around}{E:Value->Shared->Prop}
def DH:typeLookup (.type "list") "__getattr__"=pure none:=by rw[iG,fq];kernel_rfl
def IJ:typeLookup (.type "list") "keys"=pure none:=by rw[iG,fq];kernel_rfl
def Wl{sl}{os:OsState}(hx:h.get? a=some {cls:=.type "list",dict:=none,data:=.seq aY n,slots:=sl})(hA:A.handled=none)
  (k:∀h' tk e,Heap.NewAttrErr h h' e (.ref a) "keys"->E (.ref e) ⟨h',g,d,tk,os⟩):
  wpAny (model prog w) A (Builtin.«object.__getattribute__» ⟨[.ref a,.str "keys" u],[]⟩) Q E ⟨h,g,d,t,os⟩:=by
 have hT:(⟨h,g,d,t,os⟩:Shared).TypeIs (.ref a) "list":=⟨_,hx,rfl⟩;have f4:=IJ;unfold Builtin.«object.__getattribute__»
 repeat (any_goals (first|(assumption)|(wp_step)))
 refine xh hA k ?_;exact attrMsg_fits (by decide+kernel) (by size_fits)
def Wo{sl}{os:OsState}(hx:h.get? a=some {cls:=.type "list",dict:=none,data:=.seq aY n,slots:=sl})(hA:A.handled=none)
  (k:∀h' tk e,Heap.NewAttrErr h h' e (.ref a) "keys"->R (.error (.ref e)) ⟨h',g,d,tk,os⟩):
  codeAny (model prog w) A (.call (.builtin "list.__getattribute__") ⟨[.ref a,.str "keys" u],[]⟩) R ⟨h,g,d,t,os⟩:=
 pY F.slot_list_getattribute.plain F.entry_list_ga (F.slot_list_getattribute.check _ _ _ _ _ _ _ _ (show(⟨h,g,d,t,os⟩:Shared).TypeIs (.ref a) "list"from⟨_,hx,rfl⟩) (F.args_list_getattribute_2 _ _) (Wl hx hA k))
def abq{sl}{os:OsState}(hx:h.get? a=some {cls:=.type "list",dict:=none,data:=.seq aY n,slots:=sl})(hA:A.handled=none)
  (k:∀h' tk e,Heap.NewAttrErr h h' e (.ref a) "keys"->E (.ref e) ⟨h',g,d,tk,os⟩):
  wpAny (model prog w) A (getAttrBy (.ref a) (.str "keys" u) false) Q E ⟨h,g,d,t,os⟩:=by
 have hT:(⟨h,g,d,t,os⟩:Shared).TypeIs (.ref a) "list":=⟨_,hx,rfl⟩;have g2:=F.slot_list_getattribute.lookup;have g3:=F.slot_list_getattribute.bind (.ref a);have f5:=DH;have f1:=mx
 repeat (any_goals (first|(assumption)|(wp_step)))
 refine Wo hx hA λh' tk e ne=>?_;obtain⟨t',u',he⟩:=ne.there;show wpAny (model prog w) A (getattributeRaised (.ref a) (.str "keys" u) _ _ _ _ _) _ _ _;unfold getattributeRaised
 repeat (any_goals (first|(assumption)|(wp_step)))
 exact k _ _ _ ne
def Wq{sl}{os:OsState}(hx:h.get? a=some {cls:=.type "list",dict:=none,data:=.seq aY n,slots:=sl})(hA:A.handled=none)
  (k:∀h' tk e,Heap.NewAttrErr h h' e (.ref a) "keys"->Q none ⟨h',g,d,tk,os⟩):
  wpAny (model prog w) A (getAttr? (.ref a) "keys") Q E ⟨h,g,d,t,os⟩:=by
 have f1:=mx;unfold getAttr? getAttrBy?
 repeat (any_goals (first|assumption|(with_reducible refine abq hx hA λh' tk e ne=>?_)|wp_step))
 obtain⟨t',u',he⟩:=ne.there
 repeat (any_goals (first|(assumption)|(wp_step)))
 exact k _ _ _ ne
theorem Paired.at':∀{aad:List α}{aac:List β}{i:Nat}{x:α},Paired F aad aac->aad[i]?=some x->∃y,aac[i]?=some y/\F x y
 |_,_,_,_,.nil,e=>by simp at e
 |_,_,0,_,.cons r _,e=>by simp at e;subst e;exact⟨_,rfl,r⟩
 |_,_,i+1,x,.cons _ t,e=>by obtain⟨y,h1,h2⟩:=Paired.at' (i:=i) (x:=x) t (by simpa using e);exact⟨y,by simpa using h1,h2⟩
def qN:entryFor table "dict.update.loop"=some Builtin.«dict.update.loop»:=entryFor_of_tree (by kernel_rfl)
def IY(prog:Program)(w:World)(h0:Heap)(x:Value)(kv:Key×Value):Prop:=∃t o n ku,x=.ref t/\h0.get? t=some o/\o.cls=.type "tuple"/\o.data=.seq #[ku,kv.2] n/\(bA prog w).is kv.1 ku=true
def Wm(hA:A.handled=none)(h9:h0.get? d=none)(hi0:h0.get? it=none)(ZH:d≠it)
  (hl:h0.IsList l items.toArray) (hp:Paired (IY prog w h0) items pairs) (hsz:pairs.length<=sizeLine) (g:Array GenState) (dr:Drawn) (os:OsState)
  (k:∀h' tk,(∀b o,h0.get? b=some o->h'.get? b=some o)->h'.DictOf (bA prog w) d (merged [] pairs)->R (.ok (.ret .none)) ⟨h',g,dr,tk,os⟩):
  ∀(m i:Nat)(h:Heap)(tk:Nat),items.length -i=m->i<=items.length->(∀b o,h0.get? b=some o->h.get? b=some o)->h.IsListIter it l i->h.DictOf (bA prog w) d (merged [] (pairs.take i))->
   codeAny (model prog w) A (.builtin "dict.update.loop" ⟨[.ref d,.ref it,rawInt i,.none],[]⟩) R ⟨h,g,dr,tk,os⟩:=by
 intro m;have lp:items.length=pairs.length:=bB hp
 induction m with
 |zero=>
  intro i h tk em hi kp hit hd;have ei:i=items.length:=by lia
  refine cZ qN ?_;unfold Builtin.«dict.update.loop»;obtain⟨ol,KJ,Zg,nl,Zf⟩:=hl;show wpAny _ _ (pyNext (.ref it)>>=_) _ _ _;refine ae (v9 (show(A.under _).handled=none from hA) hit ⟨ol,kp _ _ KJ,Zg,nl,Zf⟩ (by rw[ei];simp) λh' hs=>?_);show wpAny _ _ (Builtin.Dict.addKeywords d []>>=_) _ _ _;refine ae (ah (ah ?_));rw[ei,lp,a9]at hd;exact k h' _ (λb o hb=>hs b o (λe=>by rw[e,hi0]at hb;cases hb) (kp b o hb)) (hd.extBut hs ZH)
 |succ m ih=>
  intro i h tk em hi kp hit hd;have bQ:i<items.length:=by lia
  obtain⟨x,hx⟩:∃x,items[i]?=some x:=⟨_,ar bQ⟩;obtain⟨kv,hG,t,o,n,ku,rfl,hto,htc,Bu,Pg⟩:=Paired.at' hp hx;refine cZ qN ?_;unfold Builtin.«dict.update.loop»;obtain⟨ol,KJ,Zg,nl,Zf⟩:=hl;show wpAny _ _ (pyNext (.ref it)>>=_) _ _ _;refine ae (vG hit ⟨ol,kp _ _ KJ,Zg,nl,Zf⟩ (x:=.ref t) (by simpa using hx) λh1 acW sU=>?_);have zK:∀b o,h0.get? b=some o->h1.get? b=some o:=λb o hb=>(sU.2 b (λe=>by rw[e,hi0]at hb;cases hb)).trans (kp b o hb);have yN:=hd.sameBut sU ZH;refine ae (bR (ae (v8 ?_)));unfold Builtin.Dict.pairItems;refine ae (iw (T:="tuple") ⟨o,zK _ _ hto,htc⟩ ?_);rw[aB (by decide)];refine ae (bS (zK _ _ hto) Bu (ah ?_));show wpAny _ _ (holding [ku,kv.2] (dictSet d ku kv.2)) _ _ _;have lm:(merged [] (pairs.take i)).length<=sizeLine:=by have e1:=oU [] (pairs.take i);rw[aS]at e1;simp only[cS]at e1;lia
  refine bR (qp (hsz:=lm) Pg yN λh2 hd2 jY=>?_);refine ah ⟨iB _ (by decide+kernel),?_⟩;have Mb:h2.IsListIter it l (i+1):=by obtain⟨oi,Ft,r⟩:=acW;exact⟨oi,(jY.2 it (bP ZH)).trans Ft,r⟩
  have uB:∀b o,h0.get? b=some o->h2.get? b=some o:=λb o hb=>(jY.2 b (λe=>by rw[e,h9]at hb;cases hb)).trans (zK b o hb);exact ih (i+1) h2 _ (by lia) bQ uB Mb (by rw[ux [] pairs i kv hG];exact hd2)
def Wn(hA:A.handled=none)(pl:PlainL s.heap p items.toArray)(hp:Paired (IY prog w s.heap) items pairs)(hsz:pairs.length<=sizeLine)
  (k:∀h' tk,(∀b o,s.heap.get? b=some o->h'.get? b=some o)->h'.DictOf (bA prog w) s.heap.objs.size (merged [] pairs)->Q (.ref s.heap.objs.size) {s with heap:=h',toks:=tk}):
  wpAny (model prog w) A (call (.type "dict") [.ref p]) Q E s:=by
 refine xa (Q₁:=λv1 z1=>v1=.ref s.heap.objs.size/\z1={s with heap:=s.heap.push {cls:=.type "dict",data:=.dict #[]}}) F.kt_called_dict (yt _) A9 (kt_code_dict_new _ ⟨rfl,rfl⟩) ?_;rintro v1 z1 ⟨rfl,rfl⟩;obtain⟨oA,g,dr,tk,os⟩:=s;obtain⟨⟨oc,od,oda,yF⟩,n,ho,hc,KU,ZI⟩:=pl;have hc:oc=.type "list":=hc;have KU:od=none:=KU;have ZI:oda=.seq items.toArray n:=ZI;subst hc KU ZI;have Cf:(oA.push {cls:=.type "dict",data:=.dict #[]}).DictOf (bA prog w) oA.objs.size []:=vF oA;have Dm:=af {cls:=.type "dict",data:=.dict #[]} ho;refine⟨Cf.typeIs,Az _ _,?_⟩;unfold Builtin.«dict.__init__»;refine ae ?_;unfold Builtin.Dict.selfAndRest;refine ae (iF Cf.typeIs (ah ?_));show wpAny (model prog w) _ (Builtin.Dict.updateFrom "dict.__init__" oA.objs.size (.ref p) [] .none) _ _ _;unfold Builtin.Dict.updateFrom;refine ae (iw (T:="list") ⟨_,Dm,rfl⟩ ?_);rw[aB (by decide)];refine ae (Wq Dm hA λh2 tk2 e ne=>?_);rw[aB (by decide)];refine ae (fg ?_);have yL:=ne.keeps _ _ Dm;refine ae (ko (items:=items.toArray) ⟨_,yL,rfl,n,rfl⟩ ?_);have kp:∀b o,oA.get? b=some o->(h2.push {cls:=.type "list_iterator",data:=.fields #[.ref p,.int 0 0]}).get? b=some o:=λb o hb=>af _ (ne.keeps _ _ (af _ hb));have hd2:h2.DictOf (bA prog w) oA.objs.size []:=by obtain⟨o',es,ep,h',r⟩:=Cf;exact⟨o',es,ep,ne.keeps _ _ h',r⟩
 have ld:oA.objs.size<h2.objs.size:=by obtain⟨o',es,ep,h',r⟩:=hd2;exact aF h'
 refine ah ⟨iB _ (by decide+kernel),?_⟩;refine Wm (l:=p) (d:=oA.objs.size) (it:=h2.objs.size) (items:=items) (h0:=oA) (pairs:=pairs) (show A.in1.handled=none from hA) (gX (ak _)) (gX (bu ld)) (aH ld) ⟨_,ho,rfl,n,rfl⟩ hp hsz g dr os (λh' CN Bo pS=>⟨rfl,k h' CN Bo pS⟩) items.length 0 _ _ rfl (aO _) kp ?_ (hd2.push _);exact⟨_,aG _ rfl,rfl,rfl⟩
end
section
variable{X:Cx}
inductive XE(K:Frag)(xs:List V)(H:Hp)(Q:VK):Prop
 |mk p ys kvs (_:xs=[.ref p]) (_:bp K H p ys) (_:Paired (λ(y:V)(kv:Key×V)=>∃t,y=.ref t/\H t=some (.tup [kV kv.1,kv.2])) ys kvs) (_:∀d,H d=none->Q (.ref d) (upd H d (.dK (dX [] kvs))))
theorem Hi(ok:jc P w H h):∀{ys:List V}{us:List Value}{kvs:List (Key×V)},Vals ys us->Paired (λ(y:V)(kv:Key×V)=>∃t,y=.ref t/\H t=some (.tup [kV kv.1,kv.2])) ys kvs->∃ps,Paired (IY P w h) us ps/\KV kvs ps
 |_,_,_,.nil,.nil=>⟨[],.nil,.nil⟩
 |_,_,_,.cons (b:=u) r t,.cons (b:=kv) ⟨a,ea,ha⟩ q=>by
  obtain⟨ps,h1,h2⟩:=Hi ok t q;subst ea;cases(show u=Value.ref a from r);obtain⟨_,aY,ri,⟨o,e1,e2,n,e3⟩,_⟩:=(show dm P w H h a (.tup [kV kv.1,kv.2])from ok a _ ha)
  match aY,ri with
  |[ku,vu],.cons rk (.cons rv .nil)=>exact⟨(kv.1,vu)::ps,.cons ⟨a,o,n,ku,rfl,e1,e2,e3,tL rk⟩ h1,.cons ⟨rfl,rv⟩ h2⟩
def DQ(hA:X.A.handled=none):iu X (.type "dict") (XE X.K):=by
 intro pins s Z H xs us Q I r h;obtain⟨p,ys,kvs,rfl,hq,hk,q⟩:=h;obtain⟨u,rfl,rx⟩:=kr r;cases rx;obtain⟨aY,r',pl,hz⟩:=I.list hq;obtain⟨ps,h1,h2⟩:=Hi I.bw r' hk;have l1:aY.length=ps.length:=bB h1;have l2:=r'.length;refine Wn hA pl h1 (by lia) λh' tk kp hd=>?_;have rel:KV (dX [] kvs) (merged [] ps):=KV.merge h2 .nil;have lz:(dX [] kvs).length<=sizeLine:=by have e1:=oU [] ps;rw[rel.length];simp only[cS]at e1;lia
 exact⟨.ref s.heap.objs.size,_,I.laid (t':=tk) kp (ak _) (w5 lz (fb.mpr (bP (aH I.big))) rel hd),rfl,q _ (I.bw.fresh (ak _))⟩
variable{prog:Program}{w:World}{A:Around}{s:Shared}{R:Result->Shared->Prop}
theorem MK(Iv:Nat->Shared->Prop)
  (turn:∀n z,Iv n z->wpAny (model prog w) A (pyNext it) (λr z1=>match r with
   |none=>R (.ok .next) z1
   |some v=>wpAny (model prog w) A (letOwnedTupleGo tg it v) (λ_ y2=>wpAny (model prog w) A (assign tg env v) (λ_ z2=>
     wpAny (model prog w) A (forIn ifs true λc r=>if r=true then do let ok<-isTrue c env (eval c env);pure (ForInStep.yield ok)else pure (ForInStep.yield r)) (λok z3=>
      if ok=true then wpAny (model prog w) A (eval elt env) (λx z4=>
       wpAny (model prog w) A (call (.builtin "list.append") [acc,x]) (λ_ z5=>∃m,m<n/\Iv m z5) (notedBy (model prog w) A env λe z'=>R (.error e) z') z4) (notedBy (model prog w) A env λe z'=>R (.error e) z') z3
      else∃m,m<n/\Iv m z3) (notedBy (model prog w) A env λe z'=>R (.error e) z') z2) (notedBy (model prog w) A env λe z'=>R (.error e) z') y2) (notedBy (model prog w) A env λe z'=>R (.error e) z') z1) (notedBy (model prog w) A env λe z'=>R (.error e) z') z)
  (n:Nat) (h:Iv n s):codeAny (model prog w) A (.compLoop (.ListComp elt [⟨tg,iter,ifs,0⟩] scope pos) 0 it acc env) R s:=by
 refine codeAny_loop rfl Iv (λn z hI=>?_) n h;show wpAny (model prog w) A ((compTurn (.ListComp elt [⟨tg,iter,ifs,0⟩] scope pos) 0 it acc env).onRaise (λx=>do noteFrame x env;theTreesLotGoes x)) _ _ z;refine wpAny_noted ?_;rw[compTurn_list];refine ae (si (ae (cR (turn n z hI) (λr z1 q1=>?_) λ_ _ q=>q)));cases r with
 |none=>exact ah q1
 |some v=>
  refine ae (cR q1 (λ_ z2 q3=>ae (cR q3 (λ_ z3 q4=>ae (cR q4 (λok z4 q5=>?_) λ_ _ q=>q)) λ_ _ q=>q)) λ_ _ q=>q);cases ok with
  |false=>exact ah ⟨rfl,q5⟩
  |true=>exact ae (ae (cR q5 (λx z5 q6=>ae (cR q6 (λ_ z6 q7=>ah (ah ⟨rfl,q7⟩)) λ_ _ q=>q)) λ_ _ q=>q))
end
structure tZ(X:Cx)(scope:Scope)(x:Str)(more fs:List Str)(fr:List Nat):Prop where
 one:qi X scope x fs fr
 Ku:(x::more++fs).Nodup
def uc(wi:TI)(k:Nat)(fr:List Nat)(g:TG)(tt:TT)(te:TE):TE:=λZ H Q=>wi Z H λJ H1=>∃W:Nat->Nat->List V->Hp->Prop,(∃m,W 0 m [] H1)/\∀i m ys H2,W i m ys H2->
 (J.stop i H2/\ys.length<=sizeLine/\∀l,H2 l=none->Q (.ref l) (upd H2 l (.lst ys)))\/
 (J.go i H2/\ys.length<sizeLine/\∀v H3,J.yA i H2 v H3->∀own:St,own.length=k->g v (own++slotsOf fr Z) H3 λσ4 H4=>∃Hl,σ4=Hl++slotsOf fr Z/\Hl.length=k/\tt σ4 H4 λb H5=>
  if b=true then te σ4 H5 (λy H6=>∃m',m'<m/\W (i+1) m' (ys++[y]) H6)else∃m',m'<m/\W (i+1) m' ys H5)
section
variable{X:Cx}
def xH(N2:List Str)(h:(dG X N1 scope C s H ex).Ok):(dG X N2 scope C s H ex).Ok:=
 ⟨h.mod,h.kind,h.glob,h.blt,h.above,h.inj,h.has,h.Lc,h.hd,h.frames,h.Ni,h.PF,h.bs,h.BF,h.Em,h.Co,h.qL,h.FA⟩
def P4(S:tZ X scope x more fs fr)(I3:Inv X pins Z H s)
  (ok:(dG X (x::fs) scope s.heap.objs.size s H ex).Ok) (hn:h4.Ns s.heap.objs.size m) (old:∀b o,s.heap.get? b=some o->h4.get? b=some o):
  Inv (dG X (x::more++fs) scope s.heap.objs.size s H ex) [] (List.replicate (more.length+1) none++slotsOf fr Z) H {s with heap:=h4,toks:=t}:=by
 have J:=Sf (t:=t) S.one I3 ok hn old;refine⟨xH _ J.ok,J.os,J.bare,J.base,?_,J.cell,J.free,J.nq,J.pin,J.bw,?_⟩
 ·obtain⟨m1,Pa,hl⟩:=J.loc;refine⟨m1,Pa,λi y v e1 e2 e3=>?_⟩;by_cases hi:i<more.length+1
  ·have e2:(List.replicate (more.length+1) (none:Option V)++slotsOf fr Z)[i]?=some (some v):=e2;rw[dn (by rw[iQ];exact hi),u6,aB hi]at e2;cases e2
  ·obtain⟨j,rfl⟩:∃j,i=more.length+1+j:=⟨i -(more.length+1),by lia⟩;have e2:(List.replicate (more.length+1) (none:Option V)++slotsOf fr Z)[more.length+1+j]?=some (some v):=e2;have e1:((x::more)++fs)[more.length+1+j]?=some y:=e1;rw[dh (by rw[iQ];lia),iQ,u4]at e2;rw[dh (by rw[bH];lia),bH,u4]at e1;exact hl (j+1) y v (by simpa using e1) (by simpa using e2) e3
 ·show(List.replicate (more.length+1) none++slotsOf fr Z).length=((x::more)++fs).length;have h1:=S.one.len;simp[slotsOf,h1];lia
def FH{elt iter tg:Expr}{x:Str}{more:List Str}{g:TG}{ifs:List Expr}{scope:Scope}{pos:Pos}{wi:TI}{fs:List Str}{fr:List Nat}{tt:TT}{te:TE}{use:Option (Value->Sem Unit)}{R:Value->Shared->Prop}{pins:List (Addr×Obj)}{s:Shared}{Z:St}{H:Hp}{Q:VK}{Eh:Pos}(hc:X.calm=true)(ST:tZ X scope x more fs fr)(hi:PI X tg iter wi)(hg:∀C s H ex,PG (dG X (x::more++fs) scope C s H ex) tg g)
  (ht:∀C s H ex,CT (dG X (x::more++fs) scope C s H ex) ifs tt) (he:∀C s H ex,PE (dG X (x::more++fs) scope C s H ex) elt te) (hs:∀z,foldedSetIterable iter X.env z=pure z)
  (I:Inv X pins Z H s) (h:uc wi (more.length+1) fr g tt te Z H Q)
  (acY:∀(D C:Addr)(s':Shared)(H':Hp)(ys:List V)(vs:List Value)(k:Nat)(m:Str->Option Value),Inv X pins Z H' s'->D<C->X.aab.heap.objs.size<=D->X.env.locals<D->(∀y c,X.env.cells.lookup y=some c->c<D)->(∀p∈X.pn++pins,p.1<D)->
   s'.heap.get? D=some (lobj vs k)->H' D=none->H' C=none->s'.heap.Ns C m->Vals ys vs->ys.length<=sizeLine->(∀l,H' l=none->Q (.ref l) (upd H' l (.lst ys)))->compPost (model X.prog X.w) X.A X.xe use R (.ref D) C (.ok .next) s'):
  wpAny (model X.prog X.w) X.A (comprehension (.ListComp elt [⟨tg,iter,ifs,0⟩] scope pos) scope X.env Eh (newList []) false (eval iter X.env) use) R X.xe s:=by
 have S:=ST.one;refine wpAny_comprehension_free (use:=use) rfl hs (DM λn hn=>I.ok.has n (.inl (S.free n hn).1)) S.kind S.names ?_;refine hE (hi pins s Z H _ I h) λv s1 h1=>hE h1 λYz s2 h2=>?_;obtain⟨it,fp,tn,J,H2,e,I2,T,o9,f2,W,⟨m0,w0⟩,turn⟩:=h2;subst e;have bQ:∀b∈fp,b<s2.heap.objs.size:=λb hb=>by obtain⟨o,e,_⟩:=T.obj 0 _ o9 b hb;exact aF e
 refine cT (wpAny_newFunctionEnv S.Oc (by intro y hy;simp at hy) (λh4 RH RB=>?_) S.kind);dsimp only at RH RB⊢;generalize ZZ:s2.heap.push {cls:=.type "list",dict:=none,data:=.seq ([]:List Value).toArray}=g3 at RH RB⊢;have hC:g3.objs.size=s2.heap.objs.size+1:=by rw[<-ZZ,b6]
 have Ek:∀b o,s2.heap.get? b=some o->g3.get? b=some o:=λb o e=>ZZ▸af _ e;have I3:Inv X pins Z H2 {s2 with heap:=g3}:=I2.kept (t':=s2.toks) Ek;have adk:g3.get? s2.heap.objs.size=some (lobj [] 0):=ZZ▸aG _ rfl;have Q3:∀b o,g3.get? b=some o->h4.get? b=some o:=λb o e=>RB.extBut b o (aH (aF e)) (af _ e);have ok1:=Wu (s:={s2 with heap:=g3}) (D:=s2.heap.objs.size) (fp:=fp) S I2 I3 rfl hC bQ f2;have ok:=xH (x::more++fs) ok1;have I4:=P4 (t:=s2.toks+([]:List (Str×Value)).length) ST I3 ok1 RH Q3;have UC:=ok.PF s2.heap.objs.size aA;have dnf:=ok.Co s2.heap.objs.size aA;have RV:∀{H':Hp}{vs:List Value}{k:Nat},(∀b∈fp,H' b=none)->∀b∈fp,oZ (dG X (x::more++fs) scope g3.objs.size {s2 with heap:=g3} H2 (s2.heap.objs.size::fp)) [(s2.heap.objs.size,lobj vs k)] H' b:=λ{H' vs k} hn b hb=>by
  have q:=ok.PF b (aD _ hb);refine⟨hn b hb,q.1,ok.Co b (aD _ hb),.inl (aD _ hb),q.2,λp hp=>?_⟩;have e:p=(s2.heap.objs.size,lobj vs k):=by simpa using hp
  rw[e];exact bx (bQ b hb)
 have start:Inv (dG X (x::more++fs) scope g3.objs.size {s2 with heap:=g3} H2 (s2.heap.objs.size::fp)) [(s2.heap.objs.size,lobj [] 0)] (List.replicate (more.length+1) none++slotsOf fr Z) H2 {s2 with heap:=h4,toks:=s2.toks+([]:List (Str×Value)).length}:=
  I4.wy λp hp=>by
   have e:p=(s2.heap.objs.size,lobj [] 0):=by simpa using hp
   subst e;exact⟨Q3 _ _ adk,I2.bw.fresh (ak _),UC.1,dnf,λv z=>by cases z⟩
 have stn:tn 0 h4:=T.keep 0 _ _ o9 λb _ o e=>Q3 b o (Ek b o e);have fin:∀{i:Nat}{σ0:St}{H':Hp}{ys:List V}{vs:List Value}{k:Nat}{s':Shared},Inv (dG X (x::more++fs) scope g3.objs.size {s2 with heap:=g3} H2 (s2.heap.objs.size::fp)) [(s2.heap.objs.size,lobj vs k)] (σ0++slotsOf fr Z) H' s'->Vals ys vs->ys.length<=sizeLine->
   (∀l,H' l=none->Q (.ref l) (upd H' l (.lst ys)))->compPost (model X.prog X.w) X.A X.xe use R (.ref s2.heap.objs.size) g3.objs.size (.ok .next) s':=by
  intro i σ0 H' ys vs k s' J1 rv hz q;obtain⟨m,hn,_⟩:=id J1.loc;have below:∀y c,X.env.cells.lookup y=some c->c<s2.heap.objs.size:=λy c z=>by obtain⟨v,q⟩:=I2.cell y c z;exact q.lt
  have rF:∀p∈X.pn++pins,p.1<s2.heap.objs.size:=λp hp=>aF (I2.pin p hp).1;have I5:Inv X pins Z H' s':=I3.abr (ch:=s2.heap.objs.size::fp) J1.os J1.base J1.bw J1.bare λb hb=>by
   rcases aI.mp hb with e|hb
   ·rw[e];exact⟨.inr I2.sz,bx I2.lt,λy c z=>aH (below y c z),λp hp=>aH (rF p hp)⟩
   ·exact⟨(f2 b hb).2.2.2.1,(f2 b hb).2.1,(f2 b hb).2.2.2.2.1,(f2 b hb).2.2.2.2.2⟩
  have ud:s2.heap.objs.size<g3.objs.size:=by(first|lia|omega)
  obtain⟨eD,nD,_⟩:=J1.pin (s2.heap.objs.size,lobj vs k) (by simp);exact acY _ _ s' H' ys vs k m I5 ud I2.sz I2.lt below rF eD nD J1.free hn rv hz q
 have loop:∀s4:Shared,s4={s2 with heap:=h4,toks:=s2.toks+([]:List (Str×Value)).length}->
   codeAny (model X.prog X.w) X.A (.compLoop (.ListComp elt [⟨tg,iter,ifs,0⟩] scope pos) 0 (.ref it) (.ref s2.heap.objs.size) (compEnvC scope (Cs scope X.env) g3.objs.size X.env))
    (compPost (model X.prog X.w) X.A X.xe use R (.ref s2.heap.objs.size) g3.objs.size) s4:=by
  rintro s4 rfl;refine MK (λn s'=>∃i σ0 H' ys vs k,σ0.length=more.length+1/\Inv (dG X (x::more++fs) scope g3.objs.size {s2 with heap:=g3} H2 (s2.heap.objs.size::fp)) [(s2.heap.objs.size,lobj vs k)] (σ0++slotsOf fr Z) H' s'/\tn i s'.heap/\(∀b∈fp,H' b=none)/\Vals ys vs/\W i n ys H') ?_ m0
   ⟨0,List.replicate (more.length+1) none,H2,[],[],0,iQ,start,stn,λb hb=>(f2 b hb).1,.nil,w0⟩
  rintro n s' ⟨i,σ0,H',ys,vs,k,h0,J1,st,fr1,rv,w1⟩;rcases turn i n ys H' w1 with⟨stop,hz,q⟩|⟨go,hz,step⟩
  ·refine hE (T.done (dG X (x::more++fs) scope g3.objs.size {s2 with heap:=g3} H2 (s2.heap.objs.size::fp)) rfl rfl rfl hc i _ s' _ H' _ J1 (RV fr1) st stop) λr s5 acs=>?_;obtain⟨hr,J2⟩:=acs;subst hr;exact fin (i:=i) J2 rv hz q
  ·refine hE (T.item (dG X (x::more++fs) scope g3.objs.size {s2 with heap:=g3} H2 (s2.heap.objs.size::fp)) rfl rfl rfl hc i _ s' _ H' _ J1 (RV fr1) st go) λr s5 acr=>?_;obtain⟨u,hr,h5⟩:=acr;subst hr;refine hE h5 λ_ s6 acq=>?_;obtain⟨v,H6,J6,r6,y6,lC,Z9⟩:=acq;have J6':=J6.pinned (fp:=fp) (RV Z9) (T.obj _ _ lC);refine cR (hg _ _ _ _ _ s6 _ H6 v u _ J6' r6 (step v H6 y6 σ0 h0)) (λ_ s7 acp=>?_) (λ_ _ z=>z.elim);obtain⟨σ7,H7,J7,own,e7,l7,q7⟩:=acp;subst e7;have pfp:∀{σ8:St}{H8:Hp}{s8:Shared},Inv (dG X (x::more++fs) scope g3.objs.size {s2 with heap:=g3} H2 (s2.heap.objs.size::fp)) ([(s2.heap.objs.size,lobj vs k)]++zy fp s6.heap) σ8 H8 s8->
     tn (i+1) s8.heap/\∀b∈fp,H8 b=none:=λ{σ8 H8 s8} J8=>by
    refine⟨T.keep _ _ _ lC λb hb o e=>(J8.pin (b,o) (bN _ (bN _ (tK hb e)))).1,λb hb=>?_⟩;obtain⟨o,e,d⟩:=T.obj _ _ lC b hb;exact(J8.pin (b,o) (bN _ (bN _ (tK hb e)))).2.1
   refine cR (ht _ _ _ _ _ s7 _ H7 _ J7 q7) (λok8 s8 aco=>?_) (λ_ _ z=>z.elim);obtain⟨H8,J8,q8⟩:=aco;cases ok8 with
   |false=>
    rw[ax aT]at q8;rw[ax aT];obtain⟨m',hm,w8⟩:=q8;obtain⟨t8,n8⟩:=pfp J8;exact⟨m',hm,i+1,own,H8,ys,vs,k,l7,J8.xl,t8,n8,rv,w8⟩
   |true=>
    rw[aB rfl]at q8;rw[aB rfl];refine cR (he _ _ _ _ _ s8 _ H8 _ J8 q8) (λy s9 acn=>?_) (λ_ _ z=>z.elim);obtain⟨yv,H9,J9,r9,m',hm,w9⟩:=acn;obtain⟨t9,n9⟩:=pfp J9;obtain⟨eD,nD,_⟩:=J9.pin (s2.heap.objs.size,lobj vs k) (by simp);have hl:=rv.length;refine tP Ay ⟨_,eD,rfl⟩ yY (yx _ _) (A0 s2.heap.objs.size vs.toArray k y (by rw[aN];(first|lia|omega))) ⟨eD,?_⟩;have eN:=PySem.IsL.update (h:=s9.heap) (l:=s2.heap.objs.size) (items:=vs.toArray) (n:=k) eD (·.push y);have eV:vs.toArray.push y=(vs++[y]).toArray:=by simp
    rw[eV]at eN;obtain⟨k',eN⟩:∃k',(s9.heap.update s2.heap.objs.size (Obj.mapSeq (·.push y))).get? s2.heap.objs.size=some (lobj (vs++[y]) k'):=⟨_,eN⟩;have K9:Inv (dG X (x::more++fs) scope g3.objs.size {s2 with heap:=g3} H2 (s2.heap.objs.size::fp)) [] (own++slotsOf fr Z) H9 s9:=J9.wy λp hp=>absurd hp (by simp);have UK:Inv (dG X (x::more++fs) scope g3.objs.size {s2 with heap:=g3} H2 (s2.heap.objs.size::fp)) [] (own++slotsOf fr Z) H9 {s9 with heap:=s9.heap.update s2.heap.objs.size (Obj.mapSeq (·.push y))}:=
     K9.turned (t':=s9.toks) (it:=s2.heap.objs.size) (λb o hb e=>(bJ s9.heap (Obj.mapSeq (·.push y)) (bP hb)).trans e) nD UC.1 (.inl aA) UC.2 (λp hp=>absurd hp (by simp))
    refine⟨m',hm,i+1,own,H9,ys++[yv],vs++[y],k',l7,UK.wy λp hp=>?_,T.keep _ _ _ t9 λb hb o e=>(bJ s9.heap (Obj.mapSeq (·.push y)) (bx (bQ b hb))).trans e,n9,rv.append (.cons r9 .nil),w9⟩;have e:p=(s2.heap.objs.size,lobj (vs++[y]) k'):=ay.mp hp;rw[e];exact⟨eN,nD,UC.1,dnf,λv z=>by cases z⟩
 exact codeAny_compStart_list (loop _ rfl) (T.self X.A 0 _ _ _ stn (loop _ rfl))
def E6(hc:X.calm=true)(ST:tZ X scope x more fs fr)(hi:PI X tg iter wi)(hg:∀C s H ex,PG (dG X (x::more++fs) scope C s H ex) tg g)
  (ht:∀C s H ex,CT (dG X (x::more++fs) scope C s H ex) ifs tt) (he:∀C s H ex,PE (dG X (x::more++fs) scope C s H ex) elt te) (hs:∀z,foldedSetIterable iter X.env z=pure z:=by intro _;rfl):
  PE X (.ListComp elt [⟨tg,iter,ifs,0⟩] scope pos) (uc wi (more.length+1) fr g tt te):=by
 intro pins s Z H Q I h;rw[eval_ListComp];refine FH hc ST hi hg ht he hs I h ?_;intro D C s' H' ys vs k m I5 ud lo lt below rF eD nD nC hn rv hz q;refine⟨m,hn,λh' sb=>?_⟩;have I6:Inv X pins Z H' {s' with heap:=h'}:=I5.turned (t':=s'.toks) (it:=C) (λb o hb e=>sb.extBut b o hb e) nC (bx (fC lt ud)) (.inr (bu (bZ lo ud))) (λy c z=>aH (fC (below y c z) ud)) (λp hp=>aH (fC (rF p hp) ud));have eD':h'.get? D=some (lobj vs k):=sb.extBut _ _ (aH ud) eD;exact⟨.ref D,_,I6.adopt nD eD' rv hz lo (bx lt) (λy c z=>aH (below y c z)) (λp hp=>aH (rF p hp)),rfl,q _ nD⟩
def G1{elt iter tg:Expr}{x y:Str}{py Eb:Pos}{j:Nat}{more:List Str}{g:TG}{ifs:List Expr}{scope:Scope}{pos:Pos}{wi:TI}{fs:List Str}{fr:List Nat}{tt:TT}{te:TE}(hN:X.N.Nodup)(hj:X.N[j]?=some y)(hy:X.env.scope.names.lookup y=some .local)(hc:X.calm=true)(ST:tZ X scope x more fs fr)(hi:PI X tg iter wi)(hg:∀C s H ex,PG (dG X (x::more++fs) scope C s H ex) tg g)
  (ht:∀C s H ex,CT (dG X (x::more++fs) scope C s H ex) ifs tt) (he:∀C s H ex,PE (dG X (x::more++fs) scope C s H ex) elt te) (hs:∀z,foldedSetIterable iter X.env z=pure z:=by intro _;rfl)
  (OZ:swapsWith (.ListComp elt [⟨tg,iter,ifs,0⟩] scope pos) (some (.Name y py)) Eb.line X.env=pure true:=by rfl):PS X (.Assign [.Name y py] (.ListComp elt [⟨tg,iter,ifs,0⟩] scope pos) Eb) (Lr j (uc wi (more.length+1) fr g tt te)):=by
 intro pins s Z H D I h;obtain⟨Q,eQ⟩:∃Q:VK,Q=λv H1=>D.nx (Z.set j (some v)) H1:=⟨_,rfl⟩;have h:uc wi (more.length+1) fr g tt te Z H Q:=by rw[eQ];exact h
 have S:=ST.one;rw[exec_Assign_Name_used _ _ _ _ OZ];refine ae (si (ae ?_));show wpAny _ _ (comprehension (.ListComp elt [⟨tg,iter,ifs,0⟩] scope pos) scope X.env _ (newList []) false (eval iter X.env) (some (assign (.Name y py) X.env))>>=λ_=>pure ()) _ _ s;refine ae (cR (FH (Q:=Q) (R:=λ_ s'=>SP X pins D .next s') hc ST hi hg ht he hs I h ?_) (λ_ s' hq=>ah (ah hq)) λ_ _ e=>e);intro D1 C s' H' ys vs k m I5 ud lo lt below rF eD nD nC hn rv hz q;have I7:=I5.adopt nD eD rv hz lo (bx lt) (λy c z=>aH (below y c z)) (λp hp=>aH (rF p hp));refine AW (EU (v:=.ref D1) I7 hN hj (.inl hy) rfl (λs3 I8 sS=>?_) (.inr hy));obtain⟨a,sb,ha⟩:=sS;refine⟨m,hn.sameBut sb ?_,λh' pC=>?_⟩
 ·rcases ha with e|e
  ·rw[e];exact bx (fC lt ud)
  ·exact bx (fC (below _ _ e) ud)
 ·have nC2:upd H' D1 (.lst ys) C=none:=by rw[aw (bx ud)];exact nC
  have I9:Inv X pins (Z.set j (some (.ref D1))) (upd H' D1 (.lst ys)) {s3 with heap:=h'}:=I8.turned (t':=s3.toks) (it:=C) (λb o hb e=>pC.extBut b o hb e) nC2 (bx (fC lt ud)) (.inr (bu (bZ lo ud)))
   (λy c z=>aH (fC (below y c z) ud)) (λp hp=>aH (fC (rF p hp) ud))
  have q':=q _ nD;rw[eQ]at q';exact⟨_,_,I9,q'⟩
def ET(wi:TI)(fr:List Nat)(tt:TT)(te:TE):xo wi fr tt te=uc wi 1 fr (rh 0) tt te:=by
 funext Z H Q;unfold xo uc;congr 1;funext J H1;refine propext (exists_congr λW=>and_congr_right λ_=>?_);refine eP λi=>eP λm=>eP λys=>eP λH2=>eP λ_=>?_;refine or_congr Iff.rfl (and_congr_right λ_=>and_congr_right λ_=>eP λv=>eP λH3=>eP λ_=>?_);constructor
 ·intro h own ho
  match own,ho with
  |[o],_=>exact⟨[some v],rfl,rfl,h⟩
 ·intro h;obtain⟨o4,e,l,q⟩:=h [none] rfl;exact q
def Hc(hc:X.calm=true)(S:qi X scope x fs fr)(hi:PI X (.Name x px) iter wi)
  (ht:∀C s H ex,CT (dG X (x::fs) scope C s H ex) ifs tt) (he:∀C s H ex,PE (dG X (x::fs) scope C s H ex) elt te) (hs:∀z,foldedSetIterable iter X.env z=pure z:=by intro _;rfl):
  PE X (.ListComp elt [⟨.Name x px,iter,ifs,0⟩] scope pos) (xo wi fr tt te):=by
 rw[ET];exact E6 (more:=[]) hc ⟨S,S.nd⟩ hi (λC s H ex=>ni (i:=0) S.nd rfl (Or.inl (jh S.loc)) (.inr (jh S.loc))) ht he hs
def js(hc:X.calm=true)(S:qi X scope x fs fr)(hi:PI X (.Name x px) iter wi)
  (he:∀C s H ex,PE (dG X (x::fs) scope C s H ex) elt te) (hs:∀z,foldedSetIterable iter X.env z=pure z:=by intro _;rfl):
  PE X (.ListComp elt [⟨.Name x px,iter,[],0⟩] scope pos) (xo wi fr FY te):=Hc hc S hi (λ_ _ _ _=>P1) he hs
def rE(hc:X.calm=true)(S:qi X scope x fs fr)(hi:PI X (.Name x px) iter wi)
  (ht:∀C s H ex,PT (dG X (x::fs) scope C s H ex) c tc) (he:∀C s H ex,PE (dG X (x::fs) scope C s H ex) elt te) (hs:∀z,foldedSetIterable iter X.env z=pure z:=by intro _;rfl):
  PE X (.ListComp elt [⟨.Name x px,iter,[c],0⟩] scope pos) (xo wi fr tc te):=Hc hc S hi (λC s H ex=>P0 (ht C s H ex)) he hs
def Ji(hN:X.N.Nodup)(hj:X.N[j]?=some y)(hy:X.env.scope.names.lookup y=some .local)
  (hc:X.calm=true) (S:qi X scope x fs fr) (hi:PI X (.Name x px) iter wi)
  (ht:∀C s H ex,CT (dG X (x::fs) scope C s H ex) ifs tt) (he:∀C s H ex,PE (dG X (x::fs) scope C s H ex) elt te) (hs:∀z,foldedSetIterable iter X.env z=pure z:=by intro _;rfl)
  (OZ:swapsWith (.ListComp elt [⟨.Name x px,iter,ifs,0⟩] scope pos) (some (.Name y py)) Eb.line X.env=pure true:=by rfl):
  PS X (.Assign [.Name y py] (.ListComp elt [⟨.Name x px,iter,ifs,0⟩] scope pos) Eb) (Lr j (xo wi fr tt te)):=by
 rw[ET];exact G1 (more:=[]) hN hj hy hc ⟨S,S.nd⟩ hi (λC s H ex=>ni (i:=0) S.nd rfl (Or.inl (jh S.loc)) (.inr (jh S.loc))) ht he hs OZ
def G0(hN:X.N.Nodup)(hj:X.N[j]?=some y)(hy:X.env.scope.names.lookup y=some .local)
  (hc:X.calm=true) (S:qi X scope x fs fr) (hi:PI X (.Name x px) iter wi)
  (ht:∀C s H ex,PT (dG X (x::fs) scope C s H ex) c tc) (he:∀C s H ex,PE (dG X (x::fs) scope C s H ex) elt te) (hs:∀z,foldedSetIterable iter X.env z=pure z:=by intro _;rfl)
  (OZ:swapsWith (.ListComp elt [⟨.Name x px,iter,[c],0⟩] scope pos) (some (.Name y py)) Eb.line X.env=pure true:=by rfl):
  PS X (.Assign [.Name y py] (.ListComp elt [⟨.Name x px,iter,[c],0⟩] scope pos) Eb) (Lr j (xo wi fr tc te)):=Ji hN hj hy hc S hi (λC s H ex=>P0 (ht C s H ex)) he hs OZ
def QY(hc:X.calm=true)(S:tZ X scope x more fs fr)(hi:PI X tg iter wi)(hg:∀C s H ex,PG (dG X (x::more++fs) scope C s H ex) tg g)
  (he:∀C s H ex,PE (dG X (x::more++fs) scope C s H ex) elt te) (hs:∀z,foldedSetIterable iter X.env z=pure z:=by intro _;rfl):
  PE X (.ListComp elt [⟨tg,iter,[],0⟩] scope pos) (uc wi (more.length+1) fr g FY te):=E6 hc S hi hg (λ_ _ _ _=>P1) he hs
def MM(h:MG X.env.scope X.N scope x fs fr=true:=by kernel_rfl)(h2:decide (x::more++fs).Nodup=true:=by kernel_rfl):tZ X scope x more fs fr:=⟨dB h,br h2⟩
def Vw{K:Frag}(hc:X.calm=true)(h:DW X es t)(hK:X.K=K:=by rfl)
  (hn:(assignEach es X.env).length=n:=by rfl) (gF:(assignEach es X.env).findIdx? (·.1)=none:=by rfl):PG X (.Tuple es k pos) (RU K n t):=hK▸lE hc h hn gF
def G6(hN:decide X.N.Nodup=true:=by kernel_rfl)(hi:X.N[i]?=some x:=by rfl)(hl:X.env.scope.names.lookup x=some .local:=by first|rfl|exact jh rfl):PG X (.Name x pos) (rh i):=
 ni (br hN) hi (.inl hl) (.inr hl)
variable{K:Frag}{fr:List Nat}{tt:TT}{te:TE}{Z:St}{H1:Hp}{R:Addr->List V->Hp->Prop}
abbrev Ux(K:Frag):TG:=RU K 2 (Mp (rh 0) (Mp (rh 1) Z7))
abbrev Qm(J:It)(k:Nat)(fr:List Nat)(g:TG)(tt:TT)(te:TE)(Z:St)(H1:Hp)(R:Addr->List V->Hp->Prop):Prop:=
 ∃W:Nat->Nat->List V->Hp->Prop,(∃m,W 0 m [] H1)/\∀i m ys H2,W i m ys H2->
 (J.stop i H2/\ys.length<=sizeLine/\∀l,H2 l=none->R l ys H2)\/
 (J.go i H2/\ys.length<sizeLine/\∀v H3,J.yA i H2 v H3->∀own:St,own.length=k->g v (own++slotsOf fr Z) H3 λσ4 H4=>∃Hl,σ4=Hl++slotsOf fr Z/\Hl.length=k/\tt σ4 H4 λb H5=>
  if b=true then te σ4 H5 (λy H6=>∃m',m'<m/\W (i+1) m' (ys++[y]) H6)else∃m',m'<m/\W (i+1) m' ys H5)
def VE{v a b:V}{own rest:St}(ho:own.length=2)(ev:v=.ref p)(hp:bE K H p [a,b])(h:Q (some a::some b::rest) H):Ux K v (own++rest) H Q:=by
 match own,ho with
 |[o1,o2],_=>exact⟨p,_,ev,hp,rfl,_,_,rfl,_,_,rfl,rfl,h⟩
end
section
variable{X:Cx}
inductive abP(K:Frag)(neg:Bool)(x:V)(y:V)(H:Hp)(Q:VK):Prop
 |mk d ds (_:Dt K H d x) (_:(Dt K H (.tuple ds) y\/Dt K H (.list ds) y)) (_:PyData.canLayAll0 ds=true) (_:d.canLay0=true) (_:d.depth<=60) (_:Q (.bl (if neg then !(ds.any λe=>PyData.eqv e d)else ds.any λe=>PyData.eqv e d)) H)
def E8(hu:X.A.units+64<cLine):jr X (compareOp .NotIn) (abP X.K true):=by
 intro pins s Z H x y v u Q I rx ry h;obtain⟨d,ds,h1,h2,h3,h4,h5,q⟩:=h;obtain⟨as,r1⟩:=mF I d x v h1 rx;have hm:min (PyData.depthAll ds) d.depth<=60:=aE (Nat.min_le_right _ _) h5;rcases h2 with h2|h2
 ·obtain⟨bs,r2⟩:=mF I _ y u h2 ry;exact SeqAt.notIn_tuple_reads r2 r1 h3 h4 (by lia) ⟨.bl _,H,I,rfl,q⟩
 ·obtain⟨bs,r2⟩:=mF I _ y u h2 ry;exact SeqAt.notIn_list_reads r2 r1 h3 h4 (by lia) ⟨.bl _,H,I,rfl,q⟩
def Ts(hl:(apos.endLine==dP.line)=true:=by rfl)(hb:attributeBase (.Name d pd) "get" X.env (eval (.Name d pd) X.env)=eval (.Name d pd) X.env:=by rfl):M2 X (.Name d pd) "get" apos (.Name x px) (.Name y py) dP:=⟨hb,rfl,hl,rfl⟩
end
end L2
namespace L2
open PySem PySem.Spec PyProof.Rows PySem.W Builtin Builtin.ObjectAttr
noncomputable def PH:List Value->Bool
 | .ref _::r=>PH r
 |l=>l==[.type "ValueError",.type "Exception",.type "BaseException",.type "object"]
structure adF(K:Frag)(C:Addr):Prop where
 ga:findIn K (.ref C) "__getattribute__"=some (some (.builtin "BaseException.__getattribute__"))
 gt:findIn K (.ref C) "__getattr__"=some none
 sa:findIn K (.ref C) "__setattr__"=some (some (.builtin "object.__setattr__"))
 be:mroIn K C (.type "BaseException")=some true
 ob:mroIn K C (.type "object")=some true
 hd:hasDictIn K C=true
 tl:(clsIn K C).any (λcd=>PH cd.mro)=true
 cl:findIn K (.ref C) "__class__"=some (some (.builtin "object.__class__"))
 cg:specialIn K (.builtin "object.__class__") "__get__"=some (some (.builtin "getset_descriptor.__get__"))
 ct:takesIn K (.builtin "object.__class__")=some true
end L2
namespace L2
open PySem PySem.Spec PyProof.Rows PySem.W
abbrev ade(C:Addr)(dd:Option Addr)(t:Addr)(tb:Value):Obj:={cls:=.ref C,dict:=dd,data:=.fields #[.ref t,tb,.none,.none,.bool false,.none]}
def adn(e C:Addr)(dd:Option Addr):Heap->Prop:=λh=>∃t tb,h.get? e=some (ade C dd t tb)
def gone(H:Hp)(e C:Addr)(dd:Option Addr):Hp:=upd H e (.ext (adn e C dd))
abbrev Cx.held(X:Cx)(q:List (Addr×Obj))(E:Value->Shared->Prop):Cx:={X with pn:=q,xe:=E}
section
variable{X:Cx}{K:Frag}
def FX(h:X.K=K:=by rfl):iu X (.type "list") (λxs H Q=>∃p ys,xs=[.ref p]/\(bp K H p ys\/bE K H p ys)/\∀l,H l=none->Q (.ref l) (upd H l (.lst ys))):=h▸Ab
def He{T id:String}(pa:PlainAttrs T)(slot:Slot T name id)(YV:typeOf (.builtin id)=pure (.type "method_descriptor"))(hm:Qh X id r)(ho:PE X o to)(ha:PA X (e::es) t)
  (Dy:attributeBase o name X.env (eval o X.env)=eval o X.env:=by rfl)
  (RN:((backTo dP (starEach (e::es) X.env)).all (λx=>!x.1)&&(backToKw dP (keywordEach [] X.env)).all (λx=>x.1.isSome)&&decide ((e::es).length+([]:List Keyword).length+(if([]:List Keyword).isEmpty then 0 else 1)<30))=true:=by rfl)
  (Ds:(apos.endLine==dP.line)=true:=by rfl) (hs:starEach (e::es) X.env=(false,eval e X.env)::starEach es X.env:=by rfl) (Ie:(backTo dP (starEach es X.env)).any (·.1)=false:=by rfl) (h:X.K=K:=by rfl):
  PE X (.Call (.Attribute o name apos) (e::es) [] dP) (tBM K T r to t):=h▸kz pa slot YV hm ho ha Dy RN Ds hs Ie
end
end L2
namespace L2
open PySem PySem.Spec PyProof.Rows
section
variable{P:Program}{w:World}{A:Around}{E:Value->Shared->Prop}{v:Shared}
structure Zt(h:Heap)(z ti to i1 i2 l1 l2:Addr)(f:Value)(k:Nat):Prop where
 self:IsZip h z ti to f
 ins:IsPair h ti (.ref i1) (.ref i2)
 outs:∃a b,IsPair h to a b
 w1:h.IsTupleIter i1 l1 k
 w2:h.IsTupleIter i2 l2 k
structure Qe(z ti to i1 i2 l1 l2:Addr):Prop where
 Bh:ti≠to
 Ks:i1≠i2
 nl1:l1≠to
 nl2:l2≠to
def cy{h:Heap}(e:h.get? a=some o)(e':h.get? b=some o')(c:o.cls=.type m)(c':o'.cls=.type n)(d:m≠n):a≠b:=λg=>by rw[g,e']at e;cases e;rw[c]at c';cases c';exact d rfl
def Zt.ne(g:Zt h z ti to i1 i2 l1 l2 f k):(ti≠z/\to≠z/\i1≠z/\i2≠z)/\(ti≠i1/\ti≠i2/\to≠i1/\to≠i2):=by
 obtain⟨gs,gi,⟨a,b,go⟩,⟨o1,q1,c1,_⟩,⟨o2,q2,c2,_⟩⟩:=g;exact⟨⟨cy gi gs rfl rfl (by decide),cy go gs rfl rfl (by decide),cy q1 gs c1 rfl (by decide),cy q2 gs c2 rfl (by decide)⟩,
  cy gi q1 rfl c1 (by decide),cy gi q2 rfl c2 (by decide),cy go q1 rfl c1 (by decide),cy go q2 rfl c2 (by decide)⟩
def tup_ne(g:Zt h z ti to i1 i2 l1 l2 f k)(t:h.IsTuple l xs):l≠z/\l≠i1/\l≠i2:=by obtain⟨gs,_,_,⟨o1,q1,c1,_⟩,⟨o2,q2,c2,_⟩⟩:=g;obtain⟨o,q,c,_⟩:=t;exact⟨cy q gs c rfl (by decide),cy q q1 c c1 (by decide),cy q q2 c c2 (by decide)⟩
def iK(g:h.IsTupleIter j p k)(s:Heap.SameBut b h h')(n:j≠b):h'.IsTupleIter j p k:=by obtain⟨o,q,r⟩:=g;exact⟨o,s.extBut _ _ n q,r⟩
def m8(g:h.IsTuple l xs)(s:Heap.SameBut b h h')(n:l≠b):h'.IsTuple l xs:=by obtain⟨o,q,r⟩:=g;exact⟨o,s.extBut _ _ n q,r⟩
def xD(g:IsPair v.heap t a b)
  (q:∀h',h'.get? t=some {cls:=.type "tuple",data:=.seq ((#[a,b]:Array Value).setIfInBounds k x)}->Heap.SameBut t v.heap h'->Q () {v with heap:=h'}):
  wpAny (model P w) A (updateSeq t (·.setIfInBounds k x)) Q E v:=wpAny_updateSeq_pair g q
def UQ{Q:Value->Shared->Prop}(d:Qe z ti to i1 i2 l1 l2)(g:Zt v.heap z ti to i1 i2 l1 l2 .none k)
  (t1:v.heap.IsTuple l1 xs) (t2:v.heap.IsTuple l2 ys) (ex:xs[k]?=some x) (ey:ys[k]?=some y)
  (q:∀h',Zt h' z ti to i1 i2 l1 l2 (rawInt v.heap.objs.size) (k+1)->IsPair h' v.heap.objs.size x y->(∀c o,c≠z->c≠to->c≠i1->c≠i2->v.heap.get? c=some o->h'.get? c=some o)->Q (.ref v.heap.objs.size) {v with heap:=h'}):
  wpAny (model P w) A (Builtin.«zip.__next__» ⟨[.ref z],[]⟩) (λfin s'=>∃u,fin=.done (.ret u)/\Q u s') E v:=by
 obtain⟨⟨a1,a2,a3,a4⟩,a5,a6,a7,a8⟩:=g.ne;obtain⟨b1,b2,b3⟩:=tup_ne g t1;obtain⟨c1,c2,c3⟩:=tup_ne g t2;obtain⟨gs,gi,⟨a,b,go⟩,g1,g2⟩:=g;show wpAny _ _ (field (.ref z) 2>>=_) _ _ _;refine ae (bO gs rfl (x:=.bool false) rfl ?_);show wpAny _ _ (field (.ref z) 3>>=_) _ _ _;refine ae (bO gs rfl (x:=.ref ti) rfl ?_);refine ae (bS gi rfl ?_);show wpAny _ _ (Builtin.SmallTypes.ownedTupleIsFree (.ref z)>>=_) _ _ _;refine ae ?_;unfold Builtin.SmallTypes.ownedTupleIsFree;refine ae (bO gs rfl (x:=.none) rfl (ah ?_));simp only[fJ];refine ae (fg ?_);refine ae (bO gs rfl (x:=.ref to) rfl ?_);refine ae (bW gs (by simp) λp1 k1 r1=>?_)
 replace k1:IsZip p1 z ti to .ellipsis:=k1
 refine ae ?_;simp only[jB,qg,fV,ju];refine ae (ae (lB ?_));show wpAny _ _ (Builtin.SmallTypes.nextOf (.ref i1)>>=_) _ _ _;refine ae (tJ (iK g1 r1 a3) (m8 t1 r1 b1) ex λp2 k2 r2=>ah ?_);have o2:IsPair p2 to a b:=r2.extBut _ _ a7 (r1.extBut _ _ a2 go);refine ae (bS o2 rfl ?_);refine ae (xD o2 λp3 o3 r3=>?_)
 replace o3:IsPair p3 to x b:=o3
 refine ae (lK (ah ?_));refine ae (ae (lB ?_));show wpAny _ _ (Builtin.SmallTypes.nextOf (.ref i2)>>=_) _ _ _;refine ae (tJ (iK (iK (iK g2 r1 a4) r2 d.Ks.symm) r3 a8.symm) (m8 (m8 (m8 t2 r1 c1) r2 c2) r3 d.nl2) ey λp4 k4 r4=>ah ?_);have o4:IsPair p4 to x b:=r4.extBut _ _ a8 o3;refine ae (bS o4 rfl ?_);refine ae (xD o4 λp5 o5 r5=>?_)
 replace o5:IsPair p5 to x y:=o5
 refine ae (lK (ah (ah ?_)));refine ae (bS o5 rfl ?_);refine ae (kI ?_);have sz:p5.objs.size=v.heap.objs.size:=by rw[r5.1,r4.1,r3.1,r2.1,r1.1]
 have z5:IsZip p5 z ti to .ellipsis:=r5.extBut _ _ a2.symm (r4.extBut _ _ a4.symm (r3.extBut _ _ a2.symm (r2.extBut _ _ a3.symm k1)));have st:∀c o,c≠z->c≠to->c≠i1->c≠i2->v.heap.get? c=some o->p5.get? c=some o:=λc o m1 m2 m3 m4 e=>
  r5.extBut _ _ m2 (r4.extBut _ _ m4 (r3.extBut _ _ m2 (r2.extBut _ _ m3 (r1.extBut _ _ m1 e))))
 have j1:p5.IsTupleIter i1 l1 (k+1):=iK (iK (iK k2 r3 a7.symm) r4 d.Ks) r5 a7.symm;have j2:p5.IsTupleIter i2 l2 (k+1):=iK k4 r5 a8.symm;have lz:z<p5.objs.size:=aF z5;show wpAny _ _ (Builtin.SmallTypes.ownedTupleHandOut (.ref z) (.ref p5.objs.size)>>=_) _ _ _;refine ae ?_;unfold Builtin.SmallTypes.ownedTupleHandOut;have z6:IsZip (p5.push {cls:=.type "tuple",data:=.seq #[x,y]}) z ti to .ellipsis:=af _ z5;refine ae (bW z6 (by simp) λp7 z7 r7=>?_)
 replace z7:IsZip p7 z ti to (rawInt p5.objs.size):=z7
 refine bW z7 (by simp) λp8 z8 r8=>?_
 replace z8:IsZip p8 z ti to (rawInt p5.objs.size):=z8
 have up:∀c o,c≠z->p5.get? c=some o->p8.get? c=some o:=λc o m e=>r8.extBut _ _ m (r7.extBut _ _ m (af _ e));have n8:IsPair p8 p5.objs.size x y:=r8.extBut _ _ (bx lz) (r7.extBut _ _ (bx lz) (aG _ rfl));rw[sz]at z8 n8;refine ah ⟨_,rfl,?_⟩;show Q (.ref p5.objs.size) _;rw[sz];obtain⟨oa,ja,ra⟩:=j1;obtain⟨ob,jb,rb⟩:=j2;refine q p8 ⟨z8,?_,⟨x,y,up _ _ a2 o5⟩,⟨oa,up _ _ a3 ja,ra⟩,⟨ob,up _ _ a4 jb,rb⟩⟩ n8 λc o m1 m2 m3 m4 e=>up c o m1 (st c o m1 m2 m3 m4 e);exact up _ _ a1 (st _ _ a1 d.Bh a5 a6 gi)
def WG{z ti to i1 i2 l1 l2:Addr}{k:Nat}{xs ys:Array Value}{Q:Fin->Shared->Prop}(hh:A.handled=none)(d:Qe z ti to i1 i2 l1 l2)(g:Zt v.heap z ti to i1 i2 l1 l2 .none k)
  (t1:v.heap.IsTuple l1 xs) (ex:xs[k]?=none)
  (q:∀h' e,(∀c o,c≠z->c≠to->c≠i1->c≠i2->v.heap.get? c=some o->h'.get? c=some o)->(∃o,h'.get? e=some o/\o.cls=.type "StopIteration")->E (.ref e) {v with heap:=h'}):
  wpAny (model P w) A (Builtin.«zip.__next__» ⟨[.ref z],[]⟩) Q E v:=by
 obtain⟨⟨a1,a2,a3,a4⟩,a5,a6,a7,a8⟩:=g.ne;obtain⟨b1,b2,b3⟩:=tup_ne g t1;obtain⟨gs,gi,⟨a,b,go⟩,g1,g2⟩:=g;show wpAny _ _ (field (.ref z) 2>>=_) _ _ _;refine ae (bO gs rfl (x:=.bool false) rfl ?_);show wpAny _ _ (field (.ref z) 3>>=_) _ _ _;refine ae (bO gs rfl (x:=.ref ti) rfl ?_);refine ae (bS gi rfl ?_);show wpAny _ _ (Builtin.SmallTypes.ownedTupleIsFree (.ref z)>>=_) _ _ _;refine ae ?_;unfold Builtin.SmallTypes.ownedTupleIsFree;refine ae (bO gs rfl (x:=.none) rfl (ah ?_));simp only[fJ];refine ae (fg ?_);refine ae (bO gs rfl (x:=.ref to) rfl ?_);refine ae (bW gs (by simp) λp1 k1 r1=>?_)
 replace k1:IsZip p1 z ti to .ellipsis:=k1
 refine ae ?_;simp only[jB,qg,fV,ju];refine ae (ae (lB ?_));show wpAny _ _ (Builtin.SmallTypes.nextOf (.ref i1)>>=_) _ _ _;refine ae (wC hh (iK g1 r1 a3) (m8 t1 r1 b1) ex λp2 e r2 he=>?_);obtain⟨oe,ge,ce⟩:=he;have z2:IsZip p2 z ti to .ellipsis:=r2 _ _ a3.symm k1;have X5:e≠z:=cy ge z2 ce rfl (by decide);refine bW z2 (by simp) λp3 _ r3=>q p3 e (λc o m1 _ m3 _ e=>r3.extBut _ _ m1 (r2 _ _ m3 (r1.extBut _ _ m1 e))) ⟨oe,r3.extBut _ _ X5 ge,ce⟩
variable{X:Cx}{pins:List (Addr×Obj)}{Z:St}{H:Hp}{s:Shared}
def Inv.freeze(I:Inv X pins Z H s)(hd:H d=some (.dK kvs))(ho:s.heap.get? d=some o):Inv X pins Z (upd H d (.cQ o (.dK kvs))) s:=by
 have nd:∀b u,H b=some u->(∀l,u≠ .dK l)->b≠d:=λb u q n z=>by rw[z,hd]at q;exact n kvs (bL q).symm
 have gP:∀b,H b=none->b≠d:=λb q z=>by rw[z,hd]at q;cases q
 refine I.un (h':=s.heap) (t':=s.toks) ⟨λb u e _ _ _=>e,λb u e _ _ _=>⟨u.slots,e⟩,λb u e n _=>by rw[aw (gP b n)];exact n,λb u e _=>⟨u,e⟩,λb xs q=>by rw[aw (nd b _ q λl z=>by cases z)];exact q,λb u v q=>by rw[aw (nd b _ q λl z=>by cases z)];exact q,λb ps q=>⟨#[],by rw[aw (nd b _ q λl z=>by cases z),q];simp⟩⟩ λb u g=>?_;by_cases hb:b=d
 ·subst hb;rw[au]at g;cases g;exact⟨ho,I.bw b _ hd⟩
 ·rw[aw hb]at g;exact(I.bw b u g).iS (λc v hc q=>q) (λc q=>by rw[aw (nd c _ q λl z=>by cases z)];exact q) λc ys q=>by rw[aw (nd c _ q λl z=>by cases z)];exact q
end
def Itd(d:Addr)(o:Obj)(kvs:List (Key×V)):It:=
 ⟨λi H=>H d=some (.cQ o (.dK kvs))/\i<kvs.length,λi H x H'=>H'=H/\∃kv,kvs[i]?=some kv/\x=kV kv.1,λi H=>H d=some (.cQ o (.dK kvs))/\kvs.length<=i⟩
inductive YK(R:It->Hp->Prop)(x:V)(H1:Hp):Prop
 |mk d kvs (_:x=.ref d) (_:H1 d=some (.dK kvs)) (_:∀o,R (Itd d o kvs) (upd H1 d (.cQ o (.dK kvs))))
def abc(tl:TE):TI:=λZ H R=>tl Z H λx H1=>YK R x H1
def Nc{K:Frag}(rel:KV kvs vs)
  (m:o.ExactDict/\o.data=.dict es ep/\KeysOf (bA P w) es/\Pairs (bA P w) es.toList vs/\(vs.map (·.1)).Nodup):Turn P w K tg (Itd d o kvs) [it] it (λi h=>h.IsKeyIter it d i vs.length ep) where
 mem:=by simp
 obj:=λi h st b hb=>by
  have e:b=it:=by simpa using hb
  subst e;obtain⟨u,e,c,q⟩:=st;exact⟨u,e,λv z=>by rw[q]at z;cases z⟩
 keep:=λi h h' st k=>by obtain⟨u,e,r⟩:=st;exact⟨u,k it (by simp) u e,r⟩
 item:=by
  intro X hP hw hK hc i pins s Z H E I hf st hg;subst hP hw hK;obtain⟨hd,hi⟩:=hg;have hl:kvs.length=vs.length:=rel.length;have ga:s.heap.get? d=some o:=(I.bw d _ hd).1;have at':s.heap.DictAt (bA X.prog X.w) d vs ep:=⟨o,es,ga,m⟩;obtain⟨f0,f1,f2,f3,f4,f5⟩:=hf it (by simp);obtain⟨kv,hG⟩:∃kv,kvs[i]?=some kv:=⟨_,ar hi⟩;obtain⟨qv,hqv⟩:∃qv,vs[i]?=some qv:=⟨_,ar (by lia)⟩;have ek:kv.1=qv.1:=by obtain⟨y,hy,r⟩:=Paired.at' rel hG;rw[hqv]at hy;cases hy;exact r.1
  refine wpAny_pyNext_dict_item (k:=qv.1) (v:=qv.2) st at' hqv λkey h' hk gM sb=>?_;have I1:Inv X pins Z H {s with heap:=h'}:=I.turned (t':=s.toks) (λb o hb e=>(sb.2 b hb).trans e) f0 f1 f3 f4 f5;obtain⟨u,e,c,q⟩:=id gM;exact⟨key,rfl,AO (s:={s with heap:=h'}) e c q (by decide) ⟨kV kv.1,H,I1,tX (by rw[ek];exact hk),⟨rfl,kv,hG,rfl⟩,gM,λb hb=>(hf b hb).1⟩⟩
 done:=by intro X hP hw hK hc i pins s Z H E I hf st hg;subst hP hw hK;obtain⟨hd,hi⟩:=hg;have hl:kvs.length=vs.length:=rel.length;have ga:s.heap.get? d=some o:=(I.bw d _ hd).1;have at':s.heap.DictAt (bA X.prog X.w) d vs ep:=⟨o,es,ga,m⟩;obtain⟨f0,f1,f2,f3,f4,f5⟩:=hf it (by simp);exact wpAny_pyNext_dict_end (I.ok.hd hc) st at' (gA (by lia)) λh' eb=>⟨rfl,I.turned (t':=s.toks) (λb o hb e=>eb b o hb e) f0 f1 f3 f4 f5⟩
 self:=λ_ _ _ _ _ st h=>pq st h
def Vv(hl:PE X l tl):PI X tg l (abc tl):=by
 intro pins s Z H R I h;refine cV (hl pins s Z H _ I h) λv s1 x H1 I1 r1 q1=>?_;obtain⟨d,kvs,e,hd,q⟩:=q1;subst e;cases r1;obtain⟨hz,lo,vs,rel,o,es,ep,ga,m⟩:=tN I1.bw hd;have at':s1.heap.DictAt (bA X.prog X.w) d vs ep:=⟨o,es,ga,m⟩;refine wpAny_pyIter_dict lo at' ?_;have I2:=I1.freeze hd ga;refine⟨s1.heap.objs.size,[s1.heap.objs.size],_,_,_,rfl,I2.kept (t':=s1.toks) λb o e=>af _ e,Nc rel m,⟨_,aG _ rfl,rfl,rfl⟩,λb hb=>?_,q o⟩;have e:b=s1.heap.objs.size:=by simpa using hb
 subst e;exact I2.pT (ak _) (I2.bw.fresh (ak _))
def P5(Pv:Nat->List V->Hp->Prop)(hx:kvs.length<sizeLine)(h0:Pv 0 [] H1)(hl:∀i ys H,i<=kvs.length->Pv i ys H->H d=some (.cQ o (.dK kvs))/\ys.length<=i)
  (hs:∀(i:Nat)(kv:Key×V)(ys:List V)(H:Hp)(N:List V->Hp->Prop),kvs[i]?=some kv->Pv i ys H->(∀fY H',Pv (i+1) fY H'->N fY H')->
   tt (some (kV kv.1)::slotsOf fr Z) H λb H4=>if b=true then te (some (kV kv.1)::slotsOf fr Z) H4 (λy H5=>N (ys++[y]) H5)else N ys H4)
  (hd:∀ys H,Pv kvs.length ys H->∀l,H l=none->R l ys H):yy (Itd d o kvs) fr tt te Z H1 R:=by
 refine⟨λi m ys H=>m=kvs.length -i/\i<=kvs.length/\Pv i ys H,⟨kvs.length,by simp,aO _,h0⟩,?_⟩;rintro i m ys H ⟨rfl,hi,p⟩;obtain⟨q,hy⟩:=hl i ys H hi p;by_cases bQ:i<kvs.length
 ·refine .inr ⟨⟨q,bQ⟩,by lia,?_⟩;rintro v H3 ⟨rfl,kv,hG,rfl⟩;exact hs i kv ys H3 (λfY H'=>∃m',m'<kvs.length -i/\m'=kvs.length -(i+1)/\i+1<=kvs.length/\Pv (i+1) fY H') hG p λfY H' p'=>⟨_,by lia,rfl,bQ,p'⟩
 ·have e:i=kvs.length:=by lia
  subst e;exact .inl ⟨⟨q,ak _⟩,by lia,hd ys H p⟩
section
variable{X:Cx}
theorem ints_of:∀{ns:List Int}{us:List Value},Vals (ns.map V.int) us->IntsAre us ns
 |[],_,.nil=>.nil
 |n::ns,_,.cons ⟨t,r⟩ q=>by subst r;exact .cons _ _ (ints_of q)
def Sl(hc:X.calm=true):iu X (.builtin "sum") (λxs H Q=>∃(a:Addr)(ns:List Int),xs=[.ref a]/\bp X.K H a (ns.map V.int)/\Q (.int ns.sum) H):=by
 intro pins s Z H xs us Q I r h;obtain⟨a,ns,rfl,hq,q⟩:=h;obtain⟨u,rfl,ru⟩:=kr r;cases ru;obtain⟨aY,rv,pl,hz⟩:=I.list hq;have ia:=ints_of rv;obtain⟨ws,ex⟩:=ia.allInts.items;have en:ws.toList.map (·.1)=ns:=by rw[<-nums_intItems,<-ex];exact ia.numsOf
 refine sum_intListG (xs:=ws) (I.ok.hd hc) (by rw[<-ex];exact pl.isList) λh' tk t' hk=>?_;have e:preSum (numAt ws) ws.size=ns.sum:=by rw[preSum_eq,cw (by simp),en]
 rw[e];exact⟨.int ns.sum,H,I.kept (t':=tk) hk,⟨_,rfl⟩,q⟩
variable{pins:List (Addr×Obj)}{Z:St}{H:Hp}{s:Shared}{h':Heap}
def Inv.JO{ch:List Addr}(I:Inv X pins Z H s)(k:∀b o,b∉ch->s.heap.get? b=some o->h'.get? b=some o)(fc:∀b∈ch,oZ X pins H b)
  (hp:s.heap.objs.size<=p) (ht:IsTup h' p us.toArray/\∃o,h'.get? p=some o/\o.dict=none) (r:Vals xs us) (hz:xs.length<=sizeLine):Inv X pins Z (upd H p (.tup xs)) {s with heap:=h',toks:=t'}:=by
 have hn:=I.bw.fresh hp;have fp:=I.pT hp hn;have nH:∀b u,H b=some u->b∉ch/\b≠p:=λb u g=>⟨(λz=>by rw[(fc b z).1]at g;cases g),λz=>by rw[z,hn]at g;cases g⟩;refine I.step (g':=s.gens) (d':=s.drawn) (ch:=p::ch) (λb hb=>?_) (λb o _ _ hc g _=>k b o (λz=>hc (aD _ z)) g) (λb o _ _ hc g _=>⟨o.slots,k b o (λz=>hc (aD _ z)) g⟩)
  (λb o hc g n=>by rw[aw λz=>hc (by rw[z];exact aA)];exact n) (λb o hc g=>⟨o,k b o (λz=>hc (aD _ z)) g⟩)
  (λb ys g=>by rw[aw (nH b _ g).2];exact g) (λb o u g=>by rw[aw (nH b _ g).2];exact g) (λb ps g=>⟨#[],by rw[aw (nH b _ g).2,g];simp⟩) (λm hm=>?_) (λb u g=>?_) I.bare
 ·rcases aI.mp hb with rfl|z
  ·exact⟨fp.2.2.2.1,fp.2.1,fp.2.2.2.2.1,fp.2.2.2.2.2⟩
  ·have f:=fc b z;exact⟨f.2.2.2.1,f.2.1,f.2.2.2.2.1,f.2.2.2.2.2⟩
 ·obtain⟨o,es,ep,ho,r'⟩:=hm;exact⟨o,es,ep,k _ o (λz=>(fc _ z).2.1 rfl) ho,r'⟩
 ·by_cases hb:b=p
  ·subst hb;rw[au]at g;cases g;exact⟨hz,us,r,ht⟩
  ·rw[aw hb]at g;refine(I.bw b u g).iS (λc v hc q=>?_) (λc q=>?_) λc ys q=>?_
   ·rcases hc with z|z
    ·rw[z];rw[z]at q;exact k b v (nH b _ g).1 q
    ·exact k c v (nH c _ z).1 q
   ·rw[aw (nH c _ q).2];exact q
   ·rw[aw (nH c _ q).2];exact q
def Inv.JP{ch:List Addr}(I:Inv X pins Z H s)(k:∀b o,b∉ch->s.heap.get? b=some o->h'.get? b=some o)(fc:∀b∈ch,oZ X pins H b):Inv X pins Z H {s with heap:=h',toks:=t'}:=by
 have nH:∀b u,H b=some u->b∉ch:=λb u g z=>by rw[(fc b z).1]at g;cases g
 refine I.step (g':=s.gens) (d':=s.drawn) (ch:=ch) (λb z=>?_) (λb o _ _ hc g _=>k b o hc g) (λb o _ _ hc g _=>⟨o.slots,k b o hc g⟩) (λ_ _ _ _ n=>n) (λb o hc g=>⟨o,k b o hc g⟩)
  (λ_ _ g=>g) (λ_ _ _ g=>g) (λb ps g=>⟨#[],by rw[g];simp⟩) (λm hm=>?_) (λb u g=>?_) I.bare
 ·have f:=fc b z;exact⟨f.2.2.2.1,f.2.1,f.2.2.2.2.1,f.2.2.2.2.2⟩
 ·obtain⟨o,es,ep,ho,r'⟩:=hm;exact⟨o,es,ep,k _ o (λz=>(fc _ z).2.1 rfl) ho,r'⟩
 ·refine(I.bw b u g).iS (λc v hc q=>k c v ?_ q) (λ_ q=>q) λ_ _ q=>q;rcases hc with z|z
  ·rw[z];exact nH b _ g
  ·exact nH c _ z
end
section
variable{P:Program}{w:World}{A:Around}{E:Value->Shared->Prop}{v:Shared}
def JB(d:Qe z ti to i1 i2 l1 l2)(g:Zt v.heap z ti to i1 i2 l1 l2 .none k)
  (t1:v.heap.IsTuple l1 xs) (t2:v.heap.IsTuple l2 ys) (ex:xs[k]?=some x) (ey:ys[k]?=some y)
  (q:∀h',Zt h' z ti to i1 i2 l1 l2 (rawInt v.heap.objs.size) (k+1)->IsPair h' v.heap.objs.size x y->(∀c o,c≠z->c≠to->c≠i1->c≠i2->v.heap.get? c=some o->h'.get? c=some o)->Q (some (.ref v.heap.objs.size)) {v with heap:=h'}):
  wpAny (model P w) A (pyNext (.ref z)) Q E v:=by
 have ty:v.TypeIs (.ref z) "zip":=⟨_,g.self,rfl⟩;unfold pyNext;exact ae (dt (wpAny_callSpecial?_slot (name:=Str.ofString "__next__") ty dO (bC dO ty jJ (UQ d g t1 t2 ex ey λh' b1 b2 b3=>ah (q h' b1 b2 b3)) (je _))))
def JA(hh:A.handled=none)(d:Qe z ti to i1 i2 l1 l2)(g:Zt v.heap z ti to i1 i2 l1 l2 .none k)
  (t1:v.heap.IsTuple l1 xs) (ex:xs[k]?=none)
  (q:∀h',(∀c o,c≠z->c≠to->c≠i1->c≠i2->v.heap.get? c=some o->h'.get? c=some o)->Q none {v with heap:=h'}):
  wpAny (model P w) A (pyNext (.ref z)) Q E v:=by
 have ty:v.TypeIs (.ref z) "zip":=⟨_,g.self,rfl⟩;unfold pyNext;refine ae (dt (wpAny_callSpecial?_slot (name:=Str.ofString "__next__") ty dO (bC dO ty jJ (WG (ys:=#[]) hh d g t1 ex λh' e hk he=>?_) (je _))));obtain⟨o,ho,hc⟩:=he;exact ae (fu (T:="StopIteration") (b:=true) ⟨o,ho,hc⟩ jt (ah (q _ hk)))
abbrev SA(h:Heap)(l1:Addr):Heap:=h.push {cls:=.type "tuple_iterator",data:=.fields #[.ref l1,.int 0 0]}
abbrev Sz(h:Heap)(l1 l2:Addr):Heap:=(SA h l1).push {cls:=.type "tuple_iterator",data:=.fields #[.ref l2,.int 0 0]}
abbrev Sy(h:Heap)(l1 l2:Addr):Heap:=(Sz h l1 l2).push {cls:=.type "tuple",data:=.seq #[.ref h.objs.size,.ref (SA h l1).objs.size]}
abbrev Sx(h:Heap)(l1 l2:Addr):Heap:=(Sy h l1 l2).push {cls:=.type "tuple",data:=.seq #[.none,.none]}
abbrev JE(h:Heap)(l1 l2:Addr):Heap:=(Sx h l1 l2).push {cls:=.type "zip",data:=.fields #[.none,.bool false,.bool false,.ref (Sz h l1 l2).objs.size,.ref (Sy h l1 l2).objs.size]}
def WH(l1 l2:Addr)(xs ys:Array Value):
  Meets (Builtin.«zip.__new__» ⟨[.type "zip",.ref l1,.ref l2],[]⟩) (λ_ R s=>s.heap.IsTuple l1 xs/\s.heap.IsTuple l2 ys/\R (.ok (.ret (.ref (Sx s.heap l1 l2).objs.size))) {s with heap:=JE s.heap l1 l2}):=
 .of_wp λprog w A R s h=>by
  obtain⟨hp,g,d,tk,os⟩:=s;obtain⟨rR,km,h⟩:=h;have RA:=sub_zip;have hL1:Heap.IsTuple (Shared.heap ⟨hp,g,d,tk,os⟩) l1 xs:=rR;have hL2:Heap.IsTuple (Shared.heap ⟨hp.push {cls:=.type "tuple_iterator",data:=.fields #[.ref l1,.int 0 0]},g,d,tk,os⟩) l2 ys:=by obtain⟨o,e,r⟩:=km;exact⟨o,af _ e,r⟩
  wp_walk using rA hL1,rA hL2
  exact⟨_,rfl,h⟩
def JD(h1:v.heap.IsTuple l1 xs)(h2:v.heap.IsTuple l2 ys)
  (q:∀h' n,n=v.heap.objs.size->Zt h' (n+4) (n+2) (n+3) n (n+1) l1 l2 .none 0->(∀c o,v.heap.get? c=some o->h'.get? c=some o)->Q (.ref (n+4)) {v with heap:=h'}):
  wpAny (model P w) A (call (.type "zip") [.ref l1,.ref l2]) Q E v:=by
 refine callType_new F.called_zip (by decide) (F.typeCall_zip_2 _ _) (F.newCall_zip_2 _ _) (λobj=>yu obj _ _) F.entry_zip_new (WH l1 l2 xs ys) ⟨h1,h2,?_⟩;have e1:(SA v.heap l1).objs.size=v.heap.objs.size+1:=b6 ..;have e2:(Sz v.heap l1 l2).objs.size=v.heap.objs.size+2:=by rw[b6,e1]
 have e3:(Sy v.heap l1 l2).objs.size=v.heap.objs.size+3:=by rw[b6,e2]
 have e4:(Sx v.heap l1 l2).objs.size=v.heap.objs.size+4:=by rw[b6,e3]
 have g5:(JE v.heap l1 l2).get? (Sx v.heap l1 l2).objs.size=some _:=aG _ rfl;have g4:(JE v.heap l1 l2).get? (Sy v.heap l1 l2).objs.size=some _:=af _ (aG _ rfl);have g3:(JE v.heap l1 l2).get? (Sz v.heap l1 l2).objs.size=some _:=af _ (af _ (aG _ rfl));have g2:(JE v.heap l1 l2).get? (SA v.heap l1).objs.size=some _:=af _ (af _ (af _ (aG _ rfl)));have g1:(JE v.heap l1 l2).get? v.heap.objs.size=some _:=af _ (af _ (af _ (af _ (aG _ rfl))));show _/\_;rw[e2,e3,e4]at g5;rw[e1,e2]at g3;rw[e3]at g4;rw[e1]at g2;rw[e4];exact⟨⟨_,g5,rfl⟩,q _ _ rfl ⟨g5,g3,⟨_,_,g4⟩,⟨_,g1,rfl,rfl⟩,⟨_,g2,rfl,rfl⟩⟩ λc o x=>af _ (af _ (af _ (af _ (af _ x))))⟩
def Itz(K:Frag)(a b:Addr):It:=
 ⟨λi H=>∃xs ys x y,bE K H a xs/\bE K H b ys/\xs[i]?=some x/\ys[i]?=some y,
  λi H u H'=>∃p x y,u=.ref p/\H p=none/\H'=upd H p (.tup [x,y])/\(∀xs,bE K H a xs->xs[i]?=some x)/\∀ys,bE K H b ys->ys[i]?=some y,
  λi H=>∃xs,bE K H a xs/\xs.length=i⟩
def gc(z ti to i1 i2:Addr):List Addr:=[z,ti,to,i1,i2]
end
def Qv{K:Frag}(a b z ti to i1 i2:Addr)(dd:Qe z ti to i1 i2 a b):Turn P w K (.Tuple elts kk ps) (Itz K a b) (gc z ti to i1 i2) z (λi h=>Zt h z ti to i1 i2 a b .none i) where
 mem:=aA
 obj:=λi h st c hc=>by
  obtain⟨gs,gi,⟨u,v,go⟩,⟨o1,q1,c1,d1⟩,⟨o2,q2,c2,d2⟩⟩:=st;have pb:c=z\/c=ti\/c=to\/c=i1\/c=i2:=by simpa[gc]using hc
  rcases pb with rfl|rfl|rfl|rfl|rfl
  ·exact⟨_,gs,λv z=>by cases z⟩
  ·exact⟨_,gi,λv z=>by cases z⟩
  ·exact⟨_,go,λv z=>by cases z⟩
  ·exact⟨_,q1,λv z=>by rw[d1]at z;cases z⟩
  ·exact⟨_,q2,λv z=>by rw[d2]at z;cases z⟩
 keep:=λi h h' st k=>by obtain⟨gs,gi,⟨u,v,go⟩,⟨o1,q1,r1⟩,⟨o2,q2,r2⟩⟩:=st;exact⟨k z (by simp[gc]) _ gs,k ti (by simp[gc]) _ gi,⟨u,v,k to (by simp[gc]) _ go⟩,⟨o1,k i1 (by simp[gc]) _ q1,r1⟩,⟨o2,k i2 (by simp[gc]) _ q2,r2⟩⟩
 item:=by
  intro X hP hw hK hc i pins s Z H E I hf st hg;subst hP hw hK;obtain⟨xs,ys,x,y,ha,hb,hx,hy⟩:=hg;obtain⟨Dg,GN,C2,sS⟩:=I.tuple ha;obtain⟨zO,GL,zx,wL⟩:=I.tuple hb;obtain⟨u1,HY,GO⟩:=GN.get hx;obtain⟨u2,wO,CY⟩:=GL.get hy;refine JB dd st (show s.heap.IsTuple a Dg.toArray from C2) (show s.heap.IsTuple b zO.toArray from zx) (x:=u1) (y:=u2) (by simpa using HY) (by simpa using wO) λh1 g1 pr kp=>⟨_,rfl,?_⟩;refine tE g1.self λh2 z2 sb=>?_;have pC:Heap.SameBut z h1 h2:=sb;have lz:z<s.heap.objs.size:=aF st.self;have al:∀c∈gc z ti to i1 i2,c<s.heap.objs.size:=λc hc=>by
   obtain⟨gs,gi,⟨u,v,go⟩,⟨o1,q1,r1⟩,⟨o2,q2,r2⟩⟩:=id st;have pb:c=z\/c=ti\/c=to\/c=i1\/c=i2:=by simpa[gc]using hc
   rcases pb with rfl|rfl|rfl|rfl|rfl
   ·exact aF gs
   ·exact aF gi
   ·exact aF go
   ·exact aF q1
   ·exact aF q2
  have uB:∀c o,c∉gc z ti to i1 i2->s.heap.get? c=some o->h2.get? c=some o:=λc o hc e=>
   pC.extBut c o (λt=>hc (by simp[gc,t])) (kp c o (λt=>hc (by simp[gc,t])) (λt=>hc (by simp[gc,t])) (λt=>hc (by simp[gc,t])) (λt=>hc (by simp[gc,t])) e)
  have tp:IsTup h2 s.heap.objs.size ([u1,u2]:List Value).toArray/\∃o,h2.get? s.heap.objs.size=some o/\o.dict=none:=⟨⟨_,pC.extBut _ _ (bx lz) pr,rfl,_,rfl⟩,_,pC.extBut _ _ (bx lz) pr,rfl⟩;have I2:=I.JO (t':=s.toks) (xs:=[x,y]) uB hf (ak _) tp (.cons GO (.cons CY .nil)) (by show 2<=sizeLine;decide);obtain⟨⟨n1,n2,n3,n4⟩,n5,n6,n7,n8⟩:=g1.ne;obtain⟨gs,gi,⟨u,v,go⟩,⟨o1,q1,r1⟩,⟨o2,q2,r2⟩⟩:=g1;refine⟨.ref s.heap.objs.size,_,I2,rfl,⟨_,x,y,rfl,I.bw.fresh (ak _),rfl,λzs hz=>by rw[I.za hz ha];exact hx,λzs hz=>by rw[I.za hz hb];exact hy⟩,⟨z2,pC.extBut _ _ n1 gi,⟨u,v,pC.extBut _ _ n2 go⟩,⟨o1,pC.extBut _ _ n3 q1,r1⟩,⟨o2,pC.extBut _ _ n4 q2,r2⟩⟩,λc hc=>?_⟩;rw[aw (aH (al c hc))];exact(hf c hc).1
 done:=by intro X hP hw hK hc i pins s Z H E I hf st hg;subst hP hw hK;obtain⟨xs,ha,hx⟩:=hg;obtain⟨Dg,GN,C2,sS⟩:=I.tuple ha;have hl:=GN.length;refine JA (I.ok.hd hc) dd st (show s.heap.IsTuple a Dg.toArray from C2) (by simp;lia) λh1 kp=>⟨rfl,I.JP (t':=s.toks) (ch:=gc z ti to i1 i2) (λc o hc e=>kp c o (λt=>hc (by simp[gc,t])) (λt=>hc (by simp[gc,t])) (λt=>hc (by simp[gc,t])) (λt=>hc (by simp[gc,t])) e) hf⟩
 self:=λ_ _ _ _ _ st h=>kW st.self h
inductive YD(K:Frag)(R:It->Hp->Prop)(vs:List V)(H1:Hp):Prop
 |mk a b (_:vs=[.ref a,.ref b]) (_:(∃xs,bE K H1 a xs)) (_:(∃ys,bE K H1 b ys)) (_:R (Itz K a b) H1)
def aa5(K:Frag)(ta:TA):TI:=λZ H R=>ta Z H λvs H1=>YD K R vs H1
def Vt(hg:Gl X "zip")(hm:X.mg "zip"=none)(ha:PA X [a,b] ta)(hs:starEach [a,b] X.env=[(false,eval a X.env),(false,eval b X.env)]:=by rfl)(jY:starEach [b] X.env=[(false,eval b X.env)]:=by rfl):
  PI X (.Tuple elts kk ps) (.Call (.Name "zip" p) [a,b] [] pos) (aa5 X.K ta):=by
 intro pins s Z H R I h;refine D5 (pK I hg hm boot_zip (dC (pA (ha pos pins s Z H _ I h) λus s1 vs H1 I1 r1 q1=>?_) (by rw[hs,jY]) (by rw[jY];rfl)));obtain⟨l1,l2,e,⟨xs,ha⟩,⟨ys,hb⟩,q⟩:=q1;subst e;obtain⟨u1,u2,rfl,GO,CY⟩:=vals2 r1;cases GO;cases CY;obtain⟨Dg,GN,C2,sS⟩:=I1.tuple ha;obtain⟨zO,GL,zx,wL⟩:=I1.tuple hb;have t1:s1.heap.IsTuple l1 Dg.toArray:=C2;have t2:s1.heap.IsTuple l2 zO.toArray:=zx;have b1:l1<s1.heap.objs.size:=by obtain⟨o,e,_⟩:=t1;exact aF e
 have b2:l2<s1.heap.objs.size:=by obtain⟨o,e,_⟩:=t2;exact aF e
 refine JD t1 t2 λh' n en g kp=>?_;subst en;have I2:Inv X pins Z H1 {s1 with heap:=h'}:=I1.kept (t':=s1.toks) kp;refine kW g.self ?_;refine⟨_,_,_,_,H1,rfl,I2,Qv l1 l2 _ _ _ _ _ ⟨?_,?_,?_,?_⟩,g,λc hc=>?_,q⟩
 ·exactλt=>absurd t (aH (dw _))
 ·exactλt=>absurd t (aH (dw _))
 ·exact aH (bg b1 (dy _ _))
 ·exact aH (bg b2 (dy _ _))
 ·have pb:c=s1.heap.objs.size+4\/c=s1.heap.objs.size+2\/c=s1.heap.objs.size+3\/c=s1.heap.objs.size\/c=s1.heap.objs.size+1:=by simpa[gc]using hc
  have lc:s1.heap.objs.size<=c:=by rcases pb with e|e|e|e|e<;>rw[e]<;>first|exact ak _|exact dy _ _
  exact I1.pT lc (I1.bw.fresh lc)
section
variable{P:Program}{w:World}{A:Around}{E:Value->Shared->Prop}{v:Shared}
def Bc(h:Q (v.heap.get? a) v):wpAny M A (loadIfAlive a) Q E v:=λΓ p _=>by show Sem.wp M Γ (Sem.loadIfAlive a Sem.pure) _ _ p v;rw[Sem.wp_loadIfAlive];exact h
abbrev t4(f0:Value)(b:Bool)(ti to:Addr):Obj:={cls:=.type "zip",dict:=none,data:=.fields #[f0,.bool b,.bool false,.ref ti,.ref to],slots:=#[]}
structure Zs(h:Heap)(z ti to i1 i2 l1 l2 T:Addr)(k:Nat):Prop where
 self:∃b,h.get? z=some (t4 (rawInt T) b ti to)
 live:∃o,h.get? T=some o
 ins:IsPair h ti (.ref i1) (.ref i2)
 w1:h.IsListIter i1 l1 k
 w2:h.IsListIter i2 l2 k
def JC{z ti to T:Addr}(g:v.heap.get? z=some (t4 (rawInt T) b ti to))(l:∃o,v.heap.get? T=some o)
  (q:∀h',h'.get? z=some (t4 (rawInt T) true ti to)->Heap.SameBut z v.heap h'->Q false {v with heap:=h'}):wpAny (model P w) A (Builtin.SmallTypes.ownedTupleIsFree (.ref z)) Q E v:=by
 obtain⟨o,l⟩:=l;unfold Builtin.SmallTypes.ownedTupleIsFree;refine ae (bO g rfl (x:=rawInt T) rfl ?_);show wpAny _ _ (loadIfAlive (Int.toNat (T:Int))>>=_) _ _ _;refine ae (Bc ?_);rw[cN,l];show wpAny _ _ (field (.ref z) 1>>=_) _ _ _;refine ae (bO g rfl (x:=.bool b) rfl ?_);cases b with
 |true=>
  exact ah (q v.heap g (A7 _ _))
 |false=>
  refine ae (bW g (by simp) λh1 g1 s1=>ah (q h1 g1 s1))
variable{prog:Program}
def Mx:typeLookup (.type "zip") "__getattr__"=pure none:=by rw[iG,fq];kernel_rfl
def Wg:typeLookup (.type "zip") "keys"=pure none:=by rw[iG,fq];kernel_rfl
def abn:entryFor table "zip.__getattribute__"=some Builtin.«object.__getattribute__»:=w4 (id':="object.__getattribute__") (by kernel_rfl) (by decide+kernel) (by decide+kernel) (by kernel_rfl)
def Wf{os:OsState}(hx:h.get? a=some (t4 f0 b ti to))(hA:A.handled=none)
  (k:∀h' tk e,Heap.NewAttrErr h h' e (.ref a) "keys"->E (.ref e) ⟨h',g,d,tk,os⟩):
  wpAny (model prog w) A (Builtin.«object.__getattribute__» ⟨[.ref a,.str "keys" u],[]⟩) Q E ⟨h,g,d,t,os⟩:=by
 have hT:(⟨h,g,d,t,os⟩:Shared).TypeIs (.ref a) "zip":=⟨_,hx,rfl⟩;have f4:=Wg;unfold Builtin.«object.__getattribute__»
 repeat (any_goals (first|(assumption)|(wp_step)))
 refine xh hA k ?_;exact attrMsg_fits (by decide+kernel) (by size_fits)
def Wh{os:OsState}(hx:h.get? a=some (t4 f0 b ti to))(hA:A.handled=none)
  (k:∀h' tk e,Heap.NewAttrErr h h' e (.ref a) "keys"->R (.error (.ref e)) ⟨h',g,d,tk,os⟩):
  codeAny (model prog w) A (.call (.builtin "zip.__getattribute__") ⟨[.ref a,.str "keys" u],[]⟩) R ⟨h,g,d,t,os⟩:=
 pY F.slot_zip_getattribute.plain abn (F.slot_zip_getattribute.check _ _ _ _ _ _ _ _ (show(⟨h,g,d,t,os⟩:Shared).TypeIs (.ref a) "zip"from⟨_,hx,rfl⟩) (F.args_zip_getattribute_2 _ _) (Wf hx hA k))
def abo{os:OsState}(hx:h.get? a=some (t4 f0 b ti to))(hA:A.handled=none)
  (k:∀h' tk e,Heap.NewAttrErr h h' e (.ref a) "keys"->E (.ref e) ⟨h',g,d,tk,os⟩):
  wpAny (model prog w) A (getAttrBy (.ref a) (.str "keys" u) false) Q E ⟨h,g,d,t,os⟩:=by
 have hT:(⟨h,g,d,t,os⟩:Shared).TypeIs (.ref a) "zip":=⟨_,hx,rfl⟩;have g2:=F.slot_zip_getattribute.lookup;have g3:=F.slot_zip_getattribute.bind (.ref a);have f5:=Mx;have f1:=mx
 repeat (any_goals (first|(assumption)|(wp_step)))
 refine Wh hx hA λh' tk e ne=>?_;obtain⟨t',u',he⟩:=ne.there;show wpAny (model prog w) A (getattributeRaised (.ref a) (.str "keys" u) _ _ _ _ _) _ _ _;unfold getattributeRaised
 repeat (any_goals (first|(assumption)|(wp_step)))
 exact k _ _ _ ne
def Wj{os:OsState}(hx:h.get? a=some (t4 f0 b ti to))(hA:A.handled=none)
  (k:∀h' tk e,Heap.NewAttrErr h h' e (.ref a) "keys"->Q none ⟨h',g,d,tk,os⟩):
  wpAny (model prog w) A (getAttr? (.ref a) "keys") Q E ⟨h,g,d,t,os⟩:=by
 have f1:=mx;unfold getAttr? getAttrBy?
 repeat (any_goals (first|assumption|(with_reducible refine abo hx hA λh' tk e ne=>?_)|wp_step))
 obtain⟨t',u',he⟩:=ne.there
 repeat (any_goals (first|(assumption)|(wp_step)))
 exact k _ _ _ ne
end
section
theorem JF:∀{ks:List Key}{ys:List V}{us vs:List Value},Vals (ks.map kV) us->Vals ys vs->ks.length=ys.length->∃pairs:List (Key×Value),Paired (λ(u:Value)(p:Key×Value)=>(bA P w).is p.1 u=true) us pairs/\vs=pairs.map (·.2)/\KV (ks.zip ys) pairs/\pairs.length=ks.length
 |[],[],_,_,.nil,.nil,_=>⟨[],.nil,rfl,.nil,rfl⟩
 |k::ks,y::ys,_,_,.cons (b:=u) r1 t1,.cons (b:=v) r2 t2,h=>by obtain⟨ps,h1,h2,h3,h4⟩:=JF (P:=P) (w:=w) t1 t2 (Nat.succ.inj h);exact⟨(k,v)::ps,.cons (tL r1) h1,by rw[aX,<-h2],.cons ⟨rfl,r2⟩ h3,cA Nat.succ h4⟩
end
end L2
namespace Tb
open PySem PySem.SetTable
def S:Nat->Nat
 |0=>0
 |n+1=>5*S n+1
def F:Nat->Nat->Nat
 |0,i=>i
 |n+1,i=>5*F n i+1
theorem Ja:∀n i,F n i=i+S n*(4*i+1)
 |0,i=>by simp[F,S]
 |n+1,i=>by show 5*F n i+1=i+(5*S n+1)*(4*i+1);rw[Ja n i,BI,jR,oI];generalize S n*(4*i+1)=z;lia
def UM(m:Nat):∀n i,F (m+n) i=F m (F n i):=by
 intro n i
 induction m with
 |zero=>simp[F]
 |succ m ih=>
  rw[show m+1+n=(m+n)+1 by lia];show 5*F (m+n) i+1=5*F m (F n i)+1;rw[ih]
def abt(n:Nat):S (n+n)=2*S n*(2*S n+1):=by have h:=UM n n 0;rw[Ja,Ja n (F n 0),Ja n 0]at h;simp only[Nat.mul_zero,An,Nat.mul_one]at h;rw[h];generalize S n=x;rw[oI,oI,show x*(4*x)=2*x*(2*x) by rw[sY,show(4:Nat)=2*2 from rfl,jR,jR,sY x 2 x]];lia
theorem UJ:∀k,∃c,S (2^k)=2^k*(2*c+1)
 |0=>⟨0,rfl⟩
 |k+1=>by
  obtain⟨c,hc⟩:=UJ k;refine⟨2*c*S (2^k)+c+S (2^k),?_⟩;rw[show 2^(k+1)=2^k+2^k by rw[iA];lia,abt];generalize hs:S (2^k)=s at hc;have e:2*s*(2*s+1)=2*(2^k*(2*c+1))*(2*s+1):=by rw[<-hc]
  rw[e,<-Nat.two_mul,<-jR,jR (2*2^k)];congr 1;rw[BI,oI,oI,oI];have:2*c*(2*s)=2*(2*c*s):=by rw[sY]
  lia
theorem cover:∀(k i j:Nat),∃n,n<2^k/\F n i % 2^k=j % 2^k
 |0,i,j=>⟨0,by decide,by simp[Nat.mod_one]⟩
 |k+1,i,j=>by
  obtain⟨n,hn,e⟩:=cover k i j;have hm:0<2^k:=Nat.two_pow_pos k;rw[iA];by_cases c:F n i/2^k % 2=j/2^k % 2
  ·exact⟨n,by lia,by rw[vW,vW,e,c]⟩
  ·obtain⟨z,hz⟩:=UJ k;refine⟨2^k+n,by lia,?_⟩;have e2:F (2^k+n) i=F n i+2^k*(2*(z*(4*F n i+1)+2*F n i)+1):=by rw[UM,Ja (2^k),hz,jR];congr 2;rw[BI,Nat.one_mul,jR];generalize z*(4*F n i+1)=w;lia
   rw[e2,vW,vW,Nat.add_mul_mod_self_left,Nat.add_mul_div_left _ _ hm,e];congr 2;generalize z*(4*F n i+1)+2*F n i=y;lia
def BG(mask:Nat)(p:Probe):Probe:=
 if p.more>0 then{p with j:=p.j+1,more:=p.more -1}else
 {p with j:=(leap mask p.i p.perturb).1,more:=runEnd mask (leap mask p.i p.perturb).1 -(leap mask p.i p.perturb).1,i:=(leap mask p.i p.perturb).1,perturb:=(leap mask p.i p.perturb).2}
abbrev JY(mask i q:Nat):Probe:={j:=i,more:=runEnd mask i -i,i:=i,perturb:=q,dummy:=none}
def pr(mask:Nat)(h:Int):Nat->Probe
 |0=>JY mask (bits h %(mask+1)) (bits h)
 |d+1=>BG mask (pr mask h d)
def QH(t:SetTable)(h:Int):t.probeStart h=pr t.mask h 0:=rfl
def ps(mask:Nat)(h:Int)(d:Nat):Nat:=(pr mask h d).j
def lp(mask:Nat)(h:Int):Nat->Nat×Nat
 |0=>(bits h %(mask+1),bits h)
 |n+1=>leap mask (lp mask h n).1 (lp mask h n).2
def run(mask i:Nat):Nat:=runEnd mask i -i
def Tn(mask:Nat)(h:Int):Nat->Nat
 |0=>0
 |n+1=>Tn mask h n+run mask (lp mask h n).1+1
def Xu(mask i:Nat):run mask i<=9:=by unfold run runEnd;split<;>lia
theorem UG(mask:Nat)(h:Int):∀n,Tn mask h n<=10*n
 |0=>ak _
 |n+1=>by have:=UG mask h n;have:=Xu mask (lp mask h n).1;show Tn mask h n+run mask (lp mask h n).1+1<=_;lia
def Vs(mask:Nat)(h:Int):∀n,pr mask h (Tn mask h n)=JY mask (lp mask h n).1 (lp mask h n).2/\∀e,e<=run mask (lp mask h n).1->pr mask h (Tn mask h n+e)={j:=(lp mask h n).1+e,more:=run mask (lp mask h n).1 -e,i:=(lp mask h n).1,perturb:=(lp mask h n).2,dummy:=none}:=by
 have ND:∀n,pr mask h (Tn mask h n)=JY mask (lp mask h n).1 (lp mask h n).2->∀e,e<=run mask (lp mask h n).1->pr mask h (Tn mask h n+e)={j:=(lp mask h n).1+e,more:=run mask (lp mask h n).1 -e,i:=(lp mask h n).1,perturb:=(lp mask h n).2,dummy:=none}:=by
  intro n h0 e
  induction e with
  |zero=>intro _;rw[jA,h0];rfl
  |succ e ih=>
   intro he;rw[<-oP];show BG mask (pr mask h (Tn mask h n+e))=_;rw[ih (by lia)];unfold BG;rw[aB (show run mask (lp mask h n).1 -e>0 by lia)];show Probe.mk _ _ _ _ _=Probe.mk _ _ _ _ _;congr 1
 intro n
 induction n with
 |zero=>exact⟨rfl,ND 0 rfl⟩
 |succ n ih=>
  have h1:pr mask h (Tn mask h (n+1))=JY mask (lp mask h (n+1)).1 (lp mask h (n+1)).2:=by show BG mask (pr mask h (Tn mask h n+run mask (lp mask h n).1))=_;rw[ih.2 _ (ak _)];unfold BG;rw[ax (by simp)];rfl
  exact⟨h1,ND _ h1⟩
def C1{mask:Nat}(he:e<=run mask (lp mask h n).1):ps mask h (Tn mask h n+e)=(lp mask h n).1+e:=by unfold ps;rw[(Vs mask h n).2 e he]
theorem aa1(mask:Nat)(h:Int):∀n,(lp mask h n).1<mask+1
 |0=>qd _ (qb _)
 |n+1=>qd _ (qb _)
theorem Yj(mask:Nat)(h:Int):∀n,(lp mask h n).2=bits h/32^n
 |0=>by simp[lp]
 |n+1=>by show(lp mask h n).2/32=_;rw[Yj mask h n,Nat.div_div_eq_div_mul,iA]
def Wx(h:Int):bits h<2^64:=by unfold bits;lia
theorem Kw{mask k:Nat}(hk:mask+1=2^k)(h:Int):∀n,(lp mask h (13+n)).1=F n (lp mask h 13).1 % 2^k
 |0=>by have:=aa1 mask h 13;show(lp mask h 13).1=(lp mask h 13).1 % 2^k;rw[Nat.mod_eq_of_lt (by lia)]
 |n+1=>by
  show((lp mask h (13+n)).1*5+1+(lp mask h (13+n)).2/32) %(mask+1)=(5*F n (lp mask h 13).1+1) % 2^k;have q0:(lp mask h (13+n)).2/32=0:=by rw[Yj];have h1:=Wx h;have h2:32^13<=32^(13+n):=fK (by decide) (by lia);rw[Nat.div_eq_of_lt (show bits h<32^(13+n)from bg (fC h1 (by decide)) h2)]
  rw[q0,Kw hk h n,hk,jA,Nat.add_mod,Nat.mul_mod,Nat.mod_mod,<-Nat.mul_mod,<-Nat.add_mod,Nat.mul_comm]
def hits{mask k:Nat}(hk:mask+1=2^k)(h:Int)(hj:j<=mask):∃n,n<=13+mask/\(lp mask h n).1=j/\ps mask h (Tn mask h n)=j:=by obtain⟨n,hn,e⟩:=cover k (lp mask h 13).1 j;have e2:=Kw hk h n;rw[e,Nat.mod_eq_of_lt (by lia)]at e2;refine⟨13+n,by lia,e2,?_⟩;have:=C1 (mask:=mask) (h:=h) (n:=13+n) (e:=0) (aO _);rw[jA,jA]at this;rw[this,e2]
def LD{mask:Nat}:ps mask h d<=mask:=by
 have key:∀d,(pr mask h d).j+(pr mask h d).more<=mask:=by
  have base:∀i q,i<mask+1->(JY mask i q).j+(JY mask i q).more<=mask:=λi q hi=>by show i+(runEnd mask i -i)<=mask;unfold runEnd;split<;>lia
  intro d
  induction d with
  |zero=>exact base _ _ (qd _ (qb _))
  |succ d ih=>
   show(BG mask (pr mask h d)).j+(BG mask (pr mask h d)).more<=mask;unfold BG;split
   ·show(pr mask h d).j+1+((pr mask h d).more -1)<=mask;lia
   ·exact base _ 0 (qd _ (qb _))
 have:=key d;unfold ps;lia
def least{p:Nat->Prop}:∀{n},p n->∃m,m<=n/\p m/\∀e,e<m->¬p e:=by
 intro n
 induction n using Nat.strongRecOn with
 |ind n ih=>
  intro hn;by_cases c:∃e,e<n/\p e
  ·obtain⟨e,he,pe⟩:=c;obtain⟨m,h1,h2,h3⟩:=ih e he pe;exact⟨m,by lia,h2,h3⟩
  ·exact⟨n,ak _,hn,λe he pe=>c ⟨e,he,pe⟩⟩
def mR(xs:Array Nat):Prop:=∀i k,i<k->k<xs.size->xs.getD i 0<xs.getD k 0
def RT{xs:Array Nat}(h:i<xs.size):xs.getD i a=xs.getD i b:=by simp[Array.getD,h]
def getD_some{xs:Array Nat}:xs[i]?=some j↔i<xs.size/\xs.getD i 0=j:=by
 constructor
 ·intro e;obtain⟨h,e⟩:=f9.mp e;exact⟨h,by simp[Array.getD,h,e]⟩
 ·rintro⟨h,e⟩;rw[bz h];simpa[Array.getD,h]using e
theorem Cu(hr:mR xs)(j:Nat):∀(f lo hi:Nat),lo<=hi->hi<=xs.size->hi -lo<=f->(∀i,i<lo->xs.getD i 0<j)->(∀i,hi<=i->i<xs.size->j<=xs.getD i 0)->
  below.go xs j f lo hi<=xs.size/\(∀i,i<below.go xs j f lo hi->xs.getD i 0<j)/\∀i,below.go xs j f lo hi<=i->i<xs.size->j<=xs.getD i 0
 |0,lo,hi,h1,h2,h3,h4,h5=>by show lo<=xs.size/\(∀i,i<lo->xs.getD i 0<j)/\∀i,lo<=i->i<xs.size->j<=xs.getD i 0;exact⟨by lia,h4,λi a b=>h5 i (by lia) b⟩
 |f+1,lo,hi,h1,h2,h3,h4,h5=>by
  unfold below.go;by_cases c:lo<hi
  ·simp only[aB c];have hm:(lo+hi)/2<xs.size:=by lia
   rw[RT (b:=0) hm];by_cases d:xs.getD ((lo+hi)/2) 0<j
   ·simp only[aB d];refine Cu hr j f _ _ (by lia) h2 (by lia) (λi Pl=>?_) h5;by_cases e:i=(lo+hi)/2
    ·rw[e];exact d
    ·exact fC (hr i _ (by lia) hm) d
   ·simp only[ax d];refine Cu hr j f _ _ (by lia) (by lia) (by lia) h4 λi a b=>?_;by_cases e:i=(lo+hi)/2
    ·rw[e];lia
    ·have:=hr ((lo+hi)/2) i (by lia) b;lia
  ·simp only[ax c];exact⟨by lia,h4,λi a b=>h5 i (by lia) b⟩
def tR(hr:mR xs)(j:Nat):below xs j<=xs.size/\(∀i,i<below xs j->xs.getD i 0<j)/\∀i,below xs j<=i->i<xs.size->j<=xs.getD i 0:=
 Cu hr j xs.size 0 xs.size (aO _) (ak _) (by lia) (λi h=>absurd h (gR _)) λi a b=>by lia
def below_at(hr:mR xs)(e:xs[i]?=some j):below xs j=i:=by
 obtain⟨h1,h2,h3⟩:=tR hr j;obtain⟨hi,e⟩:=getD_some.mp e;rcases kB (below xs j) i with c|c|c
 ·have:=h3 _ (ak _) (by lia);have:=hr _ _ c hi;lia
 ·exact c
 ·have:=h2 i c;lia
def EY{t:SetTable}(hr:mR t.place)(e:t.place[i]?=some j):t.slot j=.live i:=by unfold SetTable.slot;rw[below_at hr e];simp[e]
def Nx{t:SetTable}(hd:t.dummies=#[])(e:∀i:Nat,t.place[i]?≠some j):t.slot j=.empty:=by unfold SetTable.slot;have h1:¬(t.place[below t.place j]?==some j)=true:=λh=>e _ (jq h);rw[ax h1,hd];rw[ax (by simp[has])]
def Mq{mask:Nat}(hr:mR xs)(hs:xs.size<=mask):∃j:Nat,j<=mask/\∀i:Nat,xs[i]?≠some j:=by
 by_cases c:∃j:Nat,j<=mask/\∀i:Nat,xs[i]?≠some j
 ·exact c
 ·exfalso;have all:∀j:Nat,j<=mask->∃i:Nat,xs[i]?=some j:=λj hj=>mn λn=>c ⟨j,hj,λi e=>n ⟨i,e⟩⟩;have key:∀m:Nat,m<=mask->xs[m]?=some m:=by
   intro m
   induction m using Nat.strongRecOn with
   |ind m ih=>
    intro hm;obtain⟨i,e⟩:=all m hm;rcases kB i m with q|q|q
    ·have:=ih i q (by lia);rw[this]at e;cases e;lia
    ·rw[<-q];rw[q]at e⊢;exact e
    ·obtain⟨hi,ei⟩:=getD_some.mp e;have h1:=hr m i q hi;have h2:m<=xs.getD m 0:=by
      cases m with
      |zero=>exact aO _
      |succ m=>
       obtain⟨_,e3⟩:=getD_some.mp (ih m (by lia) (by lia));have:=hr m (m+1) (by lia) (by lia);lia
     lia
  obtain⟨h,_⟩:=getD_some.mp (key mask (ak _));lia
structure Tab(t:SetTable)(hs:List Int):Prop where
 pow:∃k,t.mask+1=2^k
 big:7<=t.mask
 PN:t.dummies=#[]
 rise:mR t.place
 sz:t.place.size=hs.length
 gz:hs.length<=t.mask
 le:∀i j:Nat,t.place[i]?=some j->j<=t.mask
 reach:∀(i:Nat)(h:Int),hs[i]?=some h->∃d,t.place[i]?=some (ps t.mask h d)/\∀e,e<d->∃i':Nat,t.place[i']?=some (ps t.mask h e)
def Tab.fits(T:Tab t hs):t.fits hs.length=true:=by unfold SetTable.fits SetTable.fill;have h1:=T.sz;have h2:=T.gz;rw[T.PN,h1];simp[h2]
def Tab.way(T:Tab t hs):t.gaveWay=false:=by
 obtain⟨k,hk⟩:=T.pow;have:=T.big;unfold SetTable.gaveWay;cases k with
 |zero=>rw[Nat.pow_zero]at hk;lia
 |succ k=>rw[iA]at hk;simp;lia
def Tab.fresh(finger moves:Nat)(led:Bool):Tab (.fresh finger moves led) [] where
 pow:=⟨3,rfl⟩
 big:=ak 7
 PN:=rfl
 rise:=λi k _ h=>absurd h (gR _)
 sz:=rfl
 gz:=aO _
 le:=λi j e=>by simp[SetTable.fresh]at e
 reach:=λi h e=>by simp at e
structure MU(t:SetTable)(h:Int)(D:Nat):Prop where
 lt:D<10*turns t.mask
 no:∀i:Nat,t.place[i]?≠some (ps t.mask h D)
 ahead:∀e,e<D->∃i:Nat,t.place[i]?=some (ps t.mask h e)
def Tab.free(T:Tab t hs)(h:Int):∃D,MU t h D:=by obtain⟨k,hk⟩:=T.pow;obtain⟨j,hj,hn⟩:=Mq T.rise (show t.place.size<=t.mask by rw[T.sz];exact T.gz);obtain⟨n,Pa,_,e⟩:=hits hk h hj;obtain⟨D,h1,h2,h3⟩:=least (p:=λd=>∀i:Nat,t.place[i]?≠some (ps t.mask h d)) (n:=Tn t.mask h n) (by rw[e];exact hn);have:=UG t.mask h n;refine⟨D,by unfold turns;lia,h2,λe he=>mn λq=>h3 e he λi z=>q ⟨i,z⟩⟩
theorem G4(mask:Nat)(h:Int):∀d,(pr mask h d).dummy=none
 |0=>rfl
 |d+1=>by show(BG mask (pr mask h d)).dummy=none;unfold BG;split<;>exact G4 mask h d
def Tab.live(T:Tab t hs){i j:Nat}(e:t.place[i]?=some j):∃h,hs[i]?=some h:=by obtain⟨hi,_⟩:=getD_some.mp e;rw[T.sz]at hi;exact⟨_,ar hi⟩
theorem G3(T:Tab t hs)(fr:MU t h D)(ha:∀(i:Nat)(g:Int),hs[i]?=some g->hashAt i=g):∀(f d:Nat),d<=D->D -d<f->
  (probe.go t hashAt h f (pr t.mask h d)=some (.empty (ps t.mask h D) none)/\∀e,d<=e->e<D->∀i:Nat,t.place[i]?=some (ps t.mask h e)->hs[i]?≠some h)\/
  ∃e i,d<=e/\e<D/\t.place[i]?=some (ps t.mask h e)/\hs[i]?=some h/\probe.go t hashAt h f (pr t.mask h d)=some (.candidate (ps t.mask h e) i (pr t.mask h (e+1)))/\∀e',d<=e'->e'<e->∀i':Nat,t.place[i']?=some (ps t.mask h e')->hs[i']?≠some h
 |0,d,_,hf=>absurd hf (gR _)
 |f+1,d,hd,hf=>by
  unfold probe.go;by_cases c:d=D
  ·subst c;have e:t.slot (pr t.mask h d).j=.empty:=Nx T.PN fr.no;rw[e];refine .inl ⟨?_,λe a b=>by lia⟩;show some (Met.empty (ps t.mask h d) (pr t.mask h d).dummy)=_;rw[G4]
  ·obtain⟨i,hi⟩:=fr.ahead d (by lia);have e:t.slot (pr t.mask h d).j=.live i:=EY T.rise hi;rw[e];obtain⟨g,hg⟩:=T.live hi;have hu:∀i':Nat,t.place[i']?=some (ps t.mask h d)->i'=i:=λi' q=>by rw[<-below_at T.rise q,<-below_at T.rise hi]
   show((if(hashAt i==h)=true then _ else _)=_/\_)\/_;by_cases c2:hashAt i=h
   ·refine .inr ⟨d,i,ak _,by lia,hi,?_,?_,λe' a b=>by lia⟩
    ·rw[ha i g hg]at c2;rw[hg,c2]
    ·show(if(hashAt i==h)=true then some (Met.candidate (ps t.mask h d) i (t.advance (pr t.mask h d)))else probe.go t hashAt h f (t.advance (pr t.mask h d)))=_;rw[aB (by rw[c2];exact BEq.rfl)];rfl
   ·have no:∀i':Nat,t.place[i']?=some (ps t.mask h d)->hs[i']?≠some h:=λi' q z=>by rw[hu i' q]at z;exact c2 (ha i h z)
    have ih:=G3 T fr ha f (d+1) (by lia) (by lia);have eq:(if(hashAt i==h)=true then some (Met.candidate (ps t.mask h d) i (t.advance (pr t.mask h d)))else probe.go t hashAt h f (t.advance (pr t.mask h d)))=probe.go t hashAt h f (pr t.mask h (d+1)):=by rw[ax (by simpa using c2)];rfl
    rcases ih with⟨h1,h2⟩|⟨e,i2,h1,h2,h3,h4,h5,h6⟩
    ·refine .inl ⟨eq.trans h1,λe a b i' q=>?_⟩;by_cases z:e=d
     ·rw[z]at q;exact no i' q
     ·exact h2 e (by lia) b i' q
    ·refine .inr ⟨e,i2,by lia,h2,h3,h4,eq.trans h5,λe' a b i' q=>?_⟩;by_cases z:e'=d
     ·rw[z]at q;exact no i' q
     ·exact h6 e' (by lia) b i' q
def ig(l:List α)(p:Nat)(x:α):List α:=l.take p++x::l.drop p
def HN(l:List α)(x:α)(hp:p<=l.length)(i:Nat):(ig l p x)[i]?=if i<p then l[i]? else if i=p then some x else l[i -1]?:=by
 unfold ig;by_cases c:i<p
 ·rw[aB c,dn (by rw[aS];lia),mZ c]
 ·rw[ax c,dh (by rw[aS];lia),aS,gW hp];by_cases c2:i=p
  ·rw[aB c2,c2,Ao];rfl
  ·rw[ax c2,show i -p=(i -p -1)+1 by lia,nQ,Au];congr 1;lia
def vR(l:List α)(x:α)(hp:p<=l.length):(ig l p x).length=l.length+1:=by unfold ig;rw[aK,bH,aS,jG];lia
def OM(l:List α)(p:Nat)(x:α):(ig l p x).Perm (x::l):=by unfold ig;refine List.perm_middle.trans ?_;rw[c8]
def HM(f:α->β)(l:List α)(p:Nat)(x:α):(ig l p x).map f=ig (l.map f) p (f x):=by unfold ig;simp
def pO(xs:Array α)(p:Nat)(x:α):(insertAt xs p x).toList=ig xs.toList p x:=by unfold insertAt ig;simp[cw]
def mR.of_get(h:∀i k a b:Nat,i<k->xs[i]?=some a->xs[k]?=some b->a<b):mR xs:=λi k Ir hk=>
 h i k _ _ Ir (getD_some.mpr ⟨by lia,rfl⟩) (getD_some.mpr ⟨hk,rfl⟩)
def mR.get(h:mR xs){i k a b:Nat}(Ir:i<k)(ha:xs[i]?=some a)(hb:xs[k]?=some b):a<b:=by obtain⟨h1,e1⟩:=getD_some.mp ha;obtain⟨h2,e2⟩:=getD_some.mp hb;have:=h i k Ir h2;lia
def zr{t:SetTable}(hr:mR t.place)(j i:Nat):(t.put j).1.place[i]?=if i<below t.place j then t.place[i]? else if i=below t.place j then some j else t.place[i -1]?:=by show(insertAt t.place (below t.place j) j)[i]?=_;rw[<-bD,pO,HN _ _ (by rw[aR];exact(tR hr j).1)];simp only[bD]
def Eg{t:SetTable}(hr:mR t.place){i v:Nat}(e:t.place[i]?=some v):∃i':Nat,(t.put j).1.place[i']?=some v:=by
 by_cases c:i<below t.place j
 ·exact⟨i,by rw[zr hr,aB c,e]⟩
 ·exact⟨i+1,by rw[zr hr,ax (by lia),ax (by lia),Nat.add_sub_cancel,e]⟩
def Tab.put(T:Tab t hs)(fr:MU t h D)(room:hs.length+1<=t.mask):Tab (t.put (ps t.mask h D)).1 (ig hs (t.put (ps t.mask h D)).2 h):=by
 have hb:=tR T.rise (ps t.mask h D);have hp:(t.put (ps t.mask h D)).2=below t.place (ps t.mask h D):=rfl;have zT:below t.place (ps t.mask h D)<=hs.length:=by rw[<-T.sz];exact hb.1
 rw[hp];have pl:=λi=>zr T.rise (ps t.mask h D) i;have hl:=HN hs h zT;have at_:(t.put (ps t.mask h D)).1.place[below t.place (ps t.mask h D)]?=some (ps t.mask h D):=by rw[pl,ax (df _),aB rfl]
 have lo:∀i a:Nat,i<below t.place (ps t.mask h D)->t.place[i]?=some a->a<ps t.mask h D:=λi a c e=>by obtain⟨_,e⟩:=getD_some.mp e;have:=hb.2.1 i c;lia
 have hi:∀i a:Nat,below t.place (ps t.mask h D)<=i->t.place[i]?=some a->ps t.mask h D<a:=λi a c e=>by obtain⟨l,e'⟩:=getD_some.mp e;have:=hb.2.2 i c l;have ne:a≠ps t.mask h D:=λz=>fr.no i (by rw[e,z]);lia
 refine⟨T.pow,T.big,?_,?_,?_,?_,λi j e=>?_,λi g e=>?_⟩
 ·show(if has t.dummies (ps t.mask h D)=true then _ else t.dummies)=_;rw[T.PN];simp[has]
 ·refine mR.of_get λi k a b Ir ha jZ=>?_;rw[pl]at ha jZ;by_cases c1:i<below t.place (ps t.mask h D)
  ·rw[aB c1]at ha;by_cases c2:k<below t.place (ps t.mask h D)
   ·rw[aB c2]at jZ;exact T.rise.get Ir ha jZ
   ·rw[ax c2]at jZ;by_cases c3:k=below t.place (ps t.mask h D)
    ·rw[aB c3]at jZ;cases jZ;exact lo i a c1 ha
    ·rw[ax c3]at jZ;exact fC (lo i a c1 ha) (hi _ b (by lia) jZ)
  ·rw[ax c1]at ha;rw[ax (by lia),ax (by lia)]at jZ;by_cases c3:i=below t.place (ps t.mask h D)
   ·rw[aB c3]at ha;cases ha;exact hi _ b (by lia) jZ
   ·rw[ax c3]at ha;exact T.rise.get (by lia) ha jZ
 ·rw[vR _ _ zT,<-T.sz,<-aR];show(insertAt t.place (below t.place (ps t.mask h D)) (ps t.mask h D)).toList.length=_;rw[pO,vR _ _ (by rw[aR];exact hb.1),aR]
 ·rw[vR _ _ zT];exact room
 ·rw[pl]at e;by_cases c1:i<below t.place (ps t.mask h D)
  ·rw[aB c1]at e;exact T.le i j e
  ·rw[ax c1]at e;by_cases c3:i=below t.place (ps t.mask h D)
   ·rw[aB c3]at e;cases e;exact LD
   ·rw[ax c3]at e;exact T.le _ j e
 ·have mk:(t.put (ps t.mask h D)).1.mask=t.mask:=rfl;rw[mk];rw[hl]at e;by_cases c1:i<below t.place (ps t.mask h D)
  ·rw[aB c1]at e;obtain⟨d,h1,h2⟩:=T.reach i g e;exact⟨d,by rw[pl,aB c1];exact h1,λx hx=>let⟨_,q⟩:=h2 x hx;Eg T.rise q⟩
  ·rw[ax c1]at e;by_cases c3:i=below t.place (ps t.mask h D)
   ·rw[aB c3]at e;cases e;exact⟨D,by rw[c3];exact at_,λx hx=>let⟨_,q⟩:=fr.ahead x hx;Eg T.rise q⟩
   ·rw[ax c3]at e;obtain⟨d,h1,h2⟩:=T.reach _ g e;exact⟨d,by rw[pl,ax c1,ax c3];exact h1,λx hx=>let⟨_,q⟩:=h2 x hx;Eg T.rise q⟩
def Tab.of_eq(T:Tab t hs)(h1:t'.mask=t.mask)(h2:t'.place=t.place)(h3:t'.dummies=t.dummies):Tab t' hs:=by obtain⟨a1,a2,a3,a4,a5,a6,a7,a8⟩:=T;rw[<-h1]at a1 a2 a6 a7 a8;rw[<-h2]at a4 a5 a7 a8;rw[<-h3]at a3;exact⟨a1,a2,a3,a4,a5,a6,a7,a8⟩
structure Own(mask:Nat)(ow:Array (Option Nat))(hs:List Int):Prop where
 sz:ow.size=mask+1
 lt:∀j i:Nat,ow[j]?=some (some i)->i<hs.length
 inj:∀j j' i:Nat,ow[j]?=some (some i)->ow[j']?=some (some i)->j=j'
 at_:∀(i:Nat)(h:Int),hs[i]?=some h->∃d,ow[ps mask h d]?=some (some i)/\∀e,e<d->∃i':Nat,ow[ps mask h e]?=some (some i')
def Own.empty{mask:Nat}(O:Own mask ow hs)(gz:hs.length<=mask):∃j:Nat,j<=mask/\ow[j]?=some none:=by
 by_cases c:∃j:Nat,j<=mask/\ow[j]?=some none
 ·exact c
 ·exfalso;have all:∀j:Nat,j<=mask->ow[j]?=some (some ((ow.getD j none).getD 0)):=λj hj=>by
   have hl:j<ow.size:=by rw[O.sz];lia
   have e:ow[j]?=some (ow.getD j none):=by rw[bz hl];simp[Array.getD,hl]
   cases q:ow.getD j none with
   |none=>exact(c ⟨j,hj,by rw[e,q]⟩).elim
   |some i=>rw[e,q];rfl
  have nd:((List.range (mask+1)).map λj=>(ow.getD j none).getD 0).Nodup:=by
   refine kD.mpr (List.Pairwise.imp_of_mem (λ{a b} ha hb ne e=>ne (O.inj a b _ (all a ?_) (e▸all b ?_))) List.nodup_range)
   ·have:=dc.mp ha;lia
   ·have:=dc.mp hb;lia
  have sub:((List.range (mask+1)).map λj=>(ow.getD j none).getD 0)⊆List.range hs.length:=λx hx=>by obtain⟨j,hj,rfl⟩:=aM.mp hx;have:=dc.mp hj;exact dc.mpr (O.lt j _ (all j (by lia)))
  have:=List.Nodup.length_le_of_subset nd sub;rw[ag,iZ,iZ]at this;lia
def WB(mask:Nat)(h:Int)(hmn:m<=n):Tn mask h m<=Tn mask h n:=by
 induction n with
 |zero=>rw[Nat.le_zero.mp hmn];exact ak _
 |succ n ih=>
  by_cases c:m=n+1
  ·rw[c];exact ak _
  ·have:=ih (by lia);show _<=Tn mask h n+run mask (lp mask h n).1+1;lia
def Vf(mask i:Nat):runEnd mask i+1 -i=run mask i+1:=by unfold run runEnd;split<;>lia
theorem K3{mask:Nat}(hD:ow[ps mask h D]?=some none)(hb:∀e,e<D->∃i':Nat,ow[ps mask h e]?=some (some i'))(hn0:D<=Tn mask h n0):∀(f n:Nat),Tn mask h n<=D->n0 -n<f->layClean.free mask ow f (lp mask h n).1 (lp mask h n).2=some (ps mask h D)
 |0,n,_,hf=>absurd hf (gR _)
 |f+1,n,hn,hf=>by
  have own:∀e,e<=run mask (lp mask h n).1->Tn mask h n+e<D->(ow.getD ((lp mask h n).1+e) (some 0)).isNone=false:=λe he bQ=>by obtain⟨i',q⟩:=hb _ bQ;rw[C1 he]at q;obtain⟨l,q⟩:=f9.mp q;simp[Array.getD,l,q]
  unfold layClean.free;rw[Vf];by_cases c:D<=Tn mask h n+run mask (lp mask h n).1
  ·have e1:(List.range (run mask (lp mask h n).1+1)).find? (λk=>(ow.getD ((lp mask h n).1+k) (some 0)).isNone)=some (D -Tn mask h n):=by
    refine List.find?_range_eq_some.mpr ⟨?_,dc.mpr (by lia),λj hj=>?_⟩
    ·have q:=hD;rw[show D=Tn mask h n+(D -Tn mask h n) by lia,C1 (by lia)]at q;obtain⟨l,q⟩:=f9.mp q;simp[Array.getD,l,q]
    ·rw[own j (by lia) (by lia)];rfl
   simp only[e1];rw[<-C1 (mask:=mask) (h:=h) (n:=n) (e:=D -Tn mask h n) (by lia),show Tn mask h n+(D -Tn mask h n)=D by lia]
  ·have e1:(List.range (run mask (lp mask h n).1+1)).find? (λk=>(ow.getD ((lp mask h n).1+k) (some 0)).isNone)=none:=by refine List.find?_range_eq_none.mpr λj hj=>?_;rw[own j (by lia) (by lia)];rfl
   simp only[e1];have lt:n<n0:=by
    rcases Nat.lt_or_ge n n0 with q|q
    ·exact q
    ·have:=WB mask h q;lia
   exact K3 hD hb hn0 f (n+1) (by show Tn mask h n+run mask (lp mask h n).1+1<=D;lia) (by lia)
abbrev wF(mask:Nat)(acc:Option (Array (Option Nat)×Nat))(h:Int):Option (Array (Option Nat)×Nat):=do
  let(owner,k)<-acc
  let j<-layClean.free mask owner (turns mask) (bits h %(mask+1)) (bits h)
  pure (owner.setIfInBounds j (some k),k+1)
def Jr(mask:Nat)(hashes:Array Int):layClean mask hashes=(hashes.toList.foldl (wF mask) (some (Array.replicate (mask+1) none,0))).map (·.1):=by rw[Array.foldl_toList];rfl
def Own.step{mask k:Nat}(hk:mask+1=2^k)(O:Own mask ow hs)(gz:hs.length<mask)(h:Int):∃NU,wF mask (some (ow,hs.length)) h=some (NU,hs.length+1)/\Own mask NU (hs++[h]):=by
 obtain⟨j,hj,ej⟩:=O.empty (bu gz);obtain⟨n0,hn0,_,e0⟩:=hits hk h hj;obtain⟨D,h1,h2,h3⟩:=least (p:=λd=>ow[ps mask h d]?=some none) (n:=Tn mask h n0) (by rw[e0];exact ej);have hb:∀e,e<D->∃i':Nat,ow[ps mask h e]?=some (some i'):=λe he=>by
  have l:ps mask h e<ow.size:=by rw[O.sz];have:=LD (mask:=mask) (h:=h) (d:=e);lia
  cases q:ow[ps mask h e]with
  |none=>exact(h3 e he (by rw[bz l,q])).elim
  |some i=>exact⟨i,by rw[bz l,q]⟩
 have ef:=K3 h2 hb h1 (turns mask) 0 (aO _) (by unfold turns;lia);have ef':layClean.free mask ow (turns mask) (bits h %(mask+1)) (bits h)=some (ps mask h D):=ef;refine⟨ow.setIfInBounds (ps mask h D) (some hs.length),by simp[wF,ef'],?_⟩;have l:ps mask h D<ow.size:=by rw[O.sz];have:=LD (mask:=mask) (h:=h) (d:=D);lia
 have get:∀x:Nat,(ow.setIfInBounds (ps mask h D) (some hs.length))[x]?=if x=ps mask h D then some (some hs.length)else ow[x]?:=λx=>by
  rw[Array.getElem?_setIfInBounds];by_cases c:x=ps mask h D
  ·rw[aB c,aB c.symm,aB l]
  ·rw[ax c,ax (bP c)]
 have keep:∀x i:Nat,ow[x]?=some (some i)->(ow.setIfInBounds (ps mask h D) (some hs.length))[x]?=some (some i):=λx i e=>by rw[get,ax λz=>by rw[z,h2]at e;cases e];exact e
 refine⟨by simp[O.sz],λx i e=>?_,λx y i ex ey=>?_,λi g e=>?_⟩
 ·rw[get]at e;rw[aK,de];by_cases c:x=ps mask h D
  ·rw[aB c]at e;cases e;lia
  ·rw[ax c]at e;have:=O.lt x i e;lia
 ·rw[get]at ex ey;by_cases c:x=ps mask h D
  ·rw[aB c]at ex;cases ex;by_cases c2:y=ps mask h D
   ·rw[c,c2]
   ·rw[ax c2]at ey;exact absurd (O.lt y _ ey) (df _)
  ·rw[ax c]at ex;by_cases c2:y=ps mask h D
   ·rw[aB c2]at ey;cases ey;exact absurd (O.lt x _ ex) (df _)
   ·rw[ax c2]at ey;exact O.inj x y i ex ey
 ·by_cases c:i<hs.length
  ·rw[dn c]at e;obtain⟨d,q1,q2⟩:=O.at_ i g e;exact⟨d,keep _ _ q1,λx hx=>let⟨i',q⟩:=q2 x hx;⟨i',keep _ _ q⟩⟩
  ·rw[dh (by lia)]at e;have ei:i=hs.length:=by
    rcases kB i hs.length with q|q|q
    ·lia
    ·exact q
    ·rw[gA (by rw[de];lia)]at e;cases e
   subst ei;rw[Ao]at e;cases e;exact⟨D,by rw[get,aB rfl],λx hx=>let⟨i',q⟩:=hb x hx;⟨i',keep _ _ q⟩⟩
theorem Hk{mask k:Nat}(hk:mask+1=2^k):∀(rest:List Int)(ow:Array (Option Nat))(hs:List Int),Own mask ow hs->(hs++rest).length<=mask->∃NU,rest.foldl (wF mask) (some (ow,hs.length))=some (NU,(hs++rest).length)/\Own mask NU (hs++rest)
 |[],ow,hs,O,_=>⟨ow,by simp,by simpa using O⟩
 |h::rest,ow,hs,O,gz=>by rw[aK,bH]at gz;obtain⟨ow1,e1,O1⟩:=O.step hk (by lia) h;obtain⟨ow2,e2,O2⟩:=Hk hk rest ow1 (hs++[h]) O1 (by rw[aK,aK,de];lia);rw[b9]at e2 O2;refine⟨ow2,?_,O2⟩;rw[j9,e1];rw[aK,de]at e2;exact e2
def V3{mask k:Nat}(hk:mask+1=2^k)(big:7<=mask)(finger moves:Nat)(led plain:Bool)(hs:List Int)(gz:hs.length<=mask):
  ∃t order,laid mask finger moves led plain hs.toArray=some (t,order)/\t.mask=mask/\t.finger=finger/\t.led=led/\t.moves=moves/\t.plain=plain/\order.toList.Perm (List.range hs.length)/\Tab t (order.toList.map λi=>hs.getD i 0):=by
 have O0:Own mask (Array.replicate (mask+1) none) []:=⟨by simp,λj i e=>by simp[uY]at e,λj j' i e=>by simp[uY]at e,λi h e=>by simp at e⟩;obtain⟨ow,e,O⟩:=Hk hk hs _ _ O0 (by simpa using gz);rw[iP]at e O;have el:layClean mask hs.toArray=some ow:=by rw[Jr];have e':(hs.toArray.toList.foldl (wF mask) (some (Array.replicate (mask+1) none,0)))=some (ow,hs.length):=e;rw[e'];rfl
 obtain⟨live,Ug⟩:∃live,live=(List.range (mask+1)).filterMap λj=>(ow.getD j none).map (j,·):=⟨_,rfl⟩;have mem:∀p:Nat×Nat,p∈live↔ow[p.1]?=some (some p.2):=λp=>by
  rw[Ug,rZ];constructor
  ·rintro⟨j,hj,q⟩;have lj:j<ow.size:=by rw[O.sz];exact dc.mp hj
   obtain⟨i,q1,q2⟩:=bo.mp q;subst q2;rw[bz lj];have q3:ow[j]=some i:=by simpa[Array.getD,lj]using q1
   rw[q3]
  ·intro q;obtain⟨l,q'⟩:=f9.mp q;refine⟨p.1,dc.mpr (by rw[<-O.sz];exact l),?_⟩;have q3:ow.getD p.1 none=some p.2:=by simp[Array.getD,l,q']
   rw[q3];rfl
 have sub:∀(j:Nat)(b:Nat×Nat),(ow.getD j none).map (j,·)=some b->b.1=j/\ow[j]?=some (some b.2):=λj b q=>by
  obtain⟨i,q1,q2⟩:=bo.mp q;subst q2;refine⟨rfl,?_⟩;by_cases l:j<ow.size
  ·rw[bz l];have q3:ow[j]=some i:=by simpa[Array.getD,l]using q1
   rw[q3]
  ·simp[Array.getD,l]at q1
 have p1:live.Pairwise (λa b=>a.1<b.1):=by rw[Ug];refine u9 _ (λa a' bQ b hb b' jZ=>?_) vY;rw[(sub a b hb).1,(sub a' b' jZ).1];exact bQ
 have p2:live.Pairwise (λa b=>a.2≠b.2):=by rw[Ug];refine u9 _ (λa a' bQ b hb b' jZ ne=>?_) vY;have q1:=(sub a b hb).2;have q2:=(sub a' b' jZ).2;rw[<-ne]at q2;have:=O.inj a a' _ q1 q2;lia
 have perm:(live.map (·.2)).Perm (List.range hs.length):=by
  refine(sH (kD.mpr p2) List.nodup_range).mpr λi=>?_;rw[dc,aM];constructor
  ·rintro⟨p,hp,rfl⟩;exact O.lt _ _ ((mem p).mp hp)
  ·intro hi;obtain⟨d,q,_⟩:=O.at_ i _ (ar hi);exact⟨(_,i),(mem (_,i)).mpr q,rfl⟩
 have ll:live.length=hs.length:=by have:=perm.length_eq;rwa [ag,iZ]at this
 have pl:∀m:Nat,((live.map (·.1)).toArray)[m]?=live[m]?.map (·.1):=λm=>by simp
 refine⟨{mask,place:=(live.map (·.1)).toArray,dummies:=#[],finger,led,moves,plain},(live.map (·.2)).toArray,?_,rfl,rfl,rfl,rfl,rfl,by simpa using perm,?_⟩
 ·unfold laid;rw[el,Ug];rfl
 ·refine⟨⟨k,hk⟩,big,rfl,?_,?_,?_,λi j q=>?_,λm h q=>?_⟩
  ·refine mR.of_get λi k a b Ir ha hb=>?_;rw[pl]at ha hb;obtain⟨x,hx,rfl⟩:=bo.mp ha;obtain⟨y,hy,rfl⟩:=bo.mp hb;obtain⟨lx,ex⟩:=aq.mp hx;obtain⟨ly,ey⟩:=aq.mp hy;subst ex ey;exact dU.mp p1 i k lx ly Ir
  ·simp
  ·simp[ll,gz]
  ·rw[pl]at q;obtain⟨x,hx,rfl⟩:=bo.mp q;have:=(mem x).mp (aC hx);obtain⟨l,_⟩:=f9.mp this;rw[O.sz]at l;show x.1<=mask;lia
  ·have q':(live.map λp=>hs.getD p.2 0)[m]?=some h:=by
    have e3:(live.map (·.2)).toArray.toList.map (λi=>hs.getD i 0)=live.map λp=>hs.getD p.2 0:=by simp
    rw[<-e3];exact q
   rw[aJ]at q';obtain⟨x,hx,rfl⟩:=bo.mp q';have hw:=(mem x).mp (aC hx);have hl:=O.lt _ _ hw;have eh:hs[x.2]?=some (hs.getD x.2 0):=by rw[ar hl];simp[hl]
   obtain⟨d,d1,d2⟩:=O.at_ x.2 _ eh;have ej:=O.inj _ _ _ d1 hw;refine⟨d,?_,λe he=>?_⟩
   ·show((live.map (·.1)).toArray)[m]?=some (ps mask (hs.getD x.2 0) d);rw[pl,hx,ej];rfl
   ·obtain⟨i',q3⟩:=d2 e he;obtain⟨m',hm'⟩:=eC.mp ((mem (_,i')).mpr q3);refine⟨m',?_⟩;show((live.map (·.1)).toArray)[m']?=some (ps mask (hs.getD x.2 0) e);rw[pl,hm'];rfl
theorem zf(n:Nat):∀(f j:Nat),n<2^(j+f)->∃k,j<=k/\sizeAbove.go n f (2^j)=2^k/\n<2^k/\(k=j\/2^k<=2*n)
 |0,j,h=>⟨j,ak _,rfl,h,.inl rfl⟩
 |f+1,j,h=>by
  unfold sizeAbove.go;by_cases c:2^j<=n
  ·rw[aB c,<-iA];obtain⟨k,h1,h2,h3,h4⟩:=zf n f (j+1) (by rw[show j+1+f=j+(f+1) by lia];exact h);refine⟨k,by lia,h2,h3,.inr ?_⟩;rcases h4 with h4|h4
   ·rw[h4,iA];lia
   ·exact h4
  ·rw[ax c];exact⟨j,ak _,rfl,by lia,.inl rfl⟩
def ze(h:n<2^64):∃k,sizeAbove n=2^k/\8<=2^k/\n<2^k/\2^k<=2*n+8:=by
 obtain⟨k,h1,h2,h3,h4⟩:=zf n 64 3 (bg h (by decide));have:2^3<=2^k:=fK (by decide) h1;refine⟨k,h2,this,h3,?_⟩;rcases h4 with h4|h4
 ·rw[h4];lia
 ·lia
def NM(t:SetTable)(hs:List Int)(h:n<2^64)(gz:hs.length<n):∃t' order,t.relaid hs.toArray n=some (t',order)/\n<=t'.mask/\t'.mask<=2*n+7/\t'.finger=t.finger/\t'.led=t.led/\t'.plain=t.plain/\order.toList.Perm (List.range hs.length)/\Tab t' (order.toList.map λi=>hs.getD i 0):=by obtain⟨k,e,h1,h2,h3⟩:=ze h;obtain⟨t',order,q1,q2,q3,q4,_,q5,q6,q7⟩:=V3 (mask:=sizeAbove n -1) (k:=k) (by rw[e];lia) (by rw[e];lia) t.finger (t.movedTo (sizeAbove n -1)) t.led t.plain hs (by rw[e];lia);exact⟨t',order,q1,by rw[q2,e];lia,by rw[q2,e];lia,q3,q4,q5,q6,q7⟩
theorem zo{α:Type}:∀l:List α,(List.range l.length).filterMap (λi=>l[i]?)=l
 |[]=>rfl
 |x::l=>by rw[bH,vX,fW];show x::_=_;rw[Av];congr 1;exact zo l
def LJ{α:Type}{es:Array α}{order:Array Nat}(hp:order.toList.Perm (List.range es.size)):(order.filterMap (es[·]?)).toList.Perm es.toList/\∀(g:α->Int),(order.filterMap (es[·]?)).toList.map g=order.toList.map λi=>(es.toList.map g).getD i 0:=by
 have e1:(order.filterMap (es[·]?)).toList=order.toList.filterMap (es.toList[·]?):=by simp
 rw[e1];constructor
 ·have:=hp.filterMap (es.toList[·]?);rw[<-aR]at this;rwa [zo]at this
 ·intro g;have lt:∀i∈order.toList,i<es.toList.length:=λi hi=>by rw[aR];exact dc.mp (hp.mem_iff.mp hi)
  generalize order.toList=l at lt;clear hp e1
  induction l with
  |nil=>rfl
  |cons i l ih=>
   have li:=lt i (aA ..);rw[fW,ar li];show g _::_=_;rw[aX,ih λj hj=>lt j (aD _ hj)];congr 1;rw[cz,aJ,ar li];rfl
section
variable{prog:Program}{w:World}{K:Type}[DecidableEq K]{knd:KeyKind prog w K}{A:Around}{E:Value->Shared->Prop}{s:Shared}
abbrev ent(knd:KeyKind prog w K)(x:List K×Addr):Int×Value:=(tupleKeyHash knd x.1,Value.ref x.2)
structure mQ(knd:KeyKind prog w K)(h:Heap)(a:Addr)(o:Obj)(ep:Nat)(t:SetTable)(xs:List (List K×Addr)):Prop where
 ob:h.get? a=some o
 ex:o.ExactSet
 data:o.data=.set (xs.map (ent knd)).toArray ep t
 tab:Tab t (xs.map λx=>tupleKeyHash knd x.1)
 gz:xs.length*5<t.mask*3
 cap:t.mask<=8*xs.length+15
 nd:(xs.map (·.1)).Nodup
 is:∀x∈xs,IsTupleKey knd h x.1 x.2
def mQ.fits(S:mQ knd h a o ep t xs):t.fits ((xs.map (ent knd)).toArray).size=true:=by have:=S.tab.fits;rw[ag]at this;simpa using this
def mQ.state(S:mQ knd s.heap a o ep t xs)(h:Q ((xs.map (ent knd)).toArray,ep,t) s):wpAny (model prog w) A (setState a) Q E s:=
 sN S.ob S.data S.fits h
def mQ.ne(S:mQ knd h a o ep t xs)(hk:IsTupleKey knd h ks b):b≠a:=by rintro rfl;obtain⟨o',items,n,qt,_,pS,_⟩:=hk;obtain rfl:o'=o:=bL (qt.symm.trans S.ob);rw[S.data]at pS;cases pS
def Gf(hx:IsTupleKey knd s.heap ks b)(h:Q false s):wpAny (model prog w) A (ofAClassStatement 8 (.ref b)) Q E s:=by
 have hT:=hx.typeIs;obtain⟨o,items,n,ho,_,hd,hi⟩:=hx;unfold ofAClassStatement;refine ae (iw hT ?_);dsimp only;rw[aB (by decide)];refine ae (ah ?_);simp only[dv,bh,bX];refine ae (bS ho hd ?_);refine ae ?_;show wpAny _ _ (forIn items _ _) _ _ s;rw[<-iC];refine jv _ (λrest r s'=>r.1=none/\s'=s/\∀v∈rest,carriedByValue v=true) _ ?_ ?_ _ _ ⟨rfl,rfl,hi.byValue⟩
 ·rintro v rest r s' ⟨hr,rfl,oX⟩;have hv:=oX v aA;have e:ofAClassStatement 7 v=pure false:=by
   cases v with
   |ref a=>simp[carriedByValue]at hv
   |_=>first|rfl|(unfold ofAClassStatement;rfl)
  rw[e];refine ae (ah ?_);simp only[bh,bX];exact ah ⟨rfl,rfl,λu rN=>oX u (aD _ rN)⟩
 ·rintro⟨r1,r2⟩ s' ⟨hr,rfl,_⟩;simp only at hr;subst hr;exact ah h
def UW(hx:IsTupleKey knd s.heap x b)(l:List Value)(hl:∀v∈l,∃ks c,v=Value.ref c/\IsTupleKey knd s.heap ks c)(h:Q false s):wpAny (model prog w) A (searchCouldBeSeen (.ref b) l) Q E s:=by
 unfold searchCouldBeSeen;refine ae ?_;refine jv _ (λrest r s'=>r.1=none/\s'=s/\∀v∈rest,∃ks c,v=Value.ref c/\IsTupleKey knd s.heap ks c) _ ?_ ?_ _ _ ⟨rfl,rfl,hl⟩
 ·rintro v rest r s' ⟨hr,rfl,oX⟩;obtain⟨ks,c,rfl,hk⟩:=oX v aA;have S9:∀v∈rest,∃ks c,v=Value.ref c/\IsTupleKey knd s'.heap ks c:=λu rN=>oX u (aD _ rN);dsimp only;by_cases e:(b==c||(carriedByValue (.ref b)&&carriedByValue (.ref c)))=true
  ·rw[aB e];exact ah ⟨rfl,rfl,S9⟩
  ·rw[ax e];refine ae (we hx ?_);simp only[dv,bh,bX];refine ae (we hk ?_);simp only[dv,bh,bX];refine ae (Gf hx ?_);simp only[bh,bX];refine ae (Gf hk ?_);simp only[bh,bX];exact ah ⟨rfl,rfl,S9⟩
 ·rintro⟨r1,r2⟩ s' ⟨hr,rfl,_⟩;simp only at hr;subst hr;exact ah h
def MY(hu:A.units<cLine)(S:mQ knd s.heap a o ep t xs)(hk:IsTupleKey knd s.heap k b)(fr:MU t (tupleKeyHash knd k) D)
  (h1:(∃x∈xs,x.1=k)->Q (.there none) s) (h2:(∀x∈xs,x.1≠k)->Q (.free (ps t.mask (tupleKeyHash knd k) D) false) s):
  ∀(m fuel d:Nat)(st:Option Probe),D -d=m->d<=D->m<fuel->st.getD (t.probeStart (tupleKeyHash knd k))=pr t.mask (tupleKeyHash knd k) d->(∀e,e<d->∀(i:Nat)(x:List K×Addr),t.place[i]?=some (ps t.mask (tupleKeyHash knd k) e)->xs[i]?=some x->x.1≠k)->
   wpAny (model prog w) A (setSearchFrom a (.ref b) (tupleKeyHash knd k) true fuel st) Q E s:=by
 intro m
 induction m using Nat.strongRecOn with
 |ind m ih=>
  intro fuel d st hm hd hf gF Ii;cases fuel with
  |zero=>exact absurd hf (gR _)
  |succ fuel=>
   unfold setSearchFrom;refine ae (S.state ?_);dsimp only;rw[S.tab.way];simp only[bh,bX];rw[gF];have Y2:∀(i:Nat)(x:List K×Addr),xs[i]?=some x->(xs.map λx=>tupleKeyHash knd x.1)[i]?=some (tupleKeyHash knd x.1):=λi x e=>by rw[aJ,e];rfl
   have hsR:∀(i:Nat)(g:Int),(xs.map λx=>tupleKeyHash knd x.1)[i]?=some g->∃x,xs[i]?=some x/\tupleKeyHash knd x.1=g:=λi g e=>by rw[aJ]at e;exact bo.mp e
   rcases G3 S.tab fr (hashAt:=λi=>((((xs.map (ent knd)).toArray)[i]?).map (·.1)).getD 0) (λi g e=>by obtain⟨x,hx,rfl⟩:=hsR i g e;simp[hx]) (10*turns t.mask) d hd (by have:=fr.lt;lia)with⟨e1,e2⟩|⟨e,i,a1,a2,a3,a4,a5,a6⟩
   ·have e1':t.probe (λi=>((((xs.map (ent knd)).toArray)[i]?).map (·.1)).getD 0) (tupleKeyHash knd k) (pr t.mask (tupleKeyHash knd k) d)=some (.empty (ps t.mask (tupleKeyHash knd k) D) none):=e1;show wpAny (model prog w) A (match t.probe (λi=>((((xs.map (ent knd)).toArray)[i]?).map (·.1)).getD 0) (tupleKeyHash knd k) (pr t.mask (tupleKeyHash knd k) d)with|some met=>_|_=>_) Q E s;rw[e1'];refine ah (h2 λx hx ex=>?_);obtain⟨i,hi⟩:=eC.mp hx;obtain⟨d',q1,q2⟩:=S.tab.reach i _ (Y2 i x hi);rw[ex]at q1 q2;have lt:d'<D:=by
     rcases kB d' D with q|q|q
     ·exact q
     ·rw[q]at q1;exact(fr.no i q1).elim
     ·obtain⟨i',z⟩:=q2 D q;exact(fr.no i' z).elim
    by_cases c:d'<d
    ·exact Ii d' c i x q1 hi ex
    ·exact e2 d' (by lia) lt i q1 (by rw[Y2 i x hi,ex])
   ·obtain⟨y,hy,ey⟩:=hsR i _ a4;have a5':t.probe (λi=>((((xs.map (ent knd)).toArray)[i]?).map (·.1)).getD 0) (tupleKeyHash knd k) (pr t.mask (tupleKeyHash knd k) d)=some (.candidate (ps t.mask (tupleKeyHash knd k) e) i (pr t.mask (tupleKeyHash knd k) (e+1))):=a5;show wpAny (model prog w) A (match t.probe (λi=>((((xs.map (ent knd)).toArray)[i]?).map (·.1)).getD 0) (tupleKeyHash knd k) (pr t.mask (tupleKeyHash knd k) d)with|some met=>_|_=>_) Q E s;rw[a5'];dsimp only;have ym:=aC hy;have yk:=S.is y ym;have eL:((xs.map (ent knd)).toArray)[i]?=some (ent knd y):=by simp[hy]
    have cont:wpAny (model prog w) A (do
      let some (_,y):=((xs.map (ent knd)).toArray)[i]?|unsupported "internal:set-entry"
      let equal<-holding [y] (eqBool y (.ref b))
      let(fU,_,t')<-setState a
      if true&&equal then return .there none
      let some same:=t'.sameMemory t.moves t.mask|unsupported "set.changed-during-lookup:is-the-new-block-at-the-old-address"
      let aaR<-match(if same then t'.slot (ps t.mask (tupleKeyHash knd k) e)else .empty)with
       | .live i'=>match fU[i']? with
        |some (_,y')=>do pure (if<-isSame y' y then some i' else none)
        |none=>pure none
       |_=>pure none
      match aaR with
      |none=>rule "set.search.anew";setSearchFrom a (.ref b) (tupleKeyHash knd k) true fuel none
      |some i'=>if equal then return .there (some i')else setSearchFrom a (.ref b) (tupleKeyHash knd k) true fuel (some (pr t.mask (tupleKeyHash knd k) (e+1)))) Q E s:=by
     rw[eL];dsimp only;refine ae (bR (wpAny_eqBool_tuple hu yk hk ?_));refine ae (S.state ?_);by_cases c:y.1=k
     ·rw[aU c];simp only[Bool.and_self,fJ];exact ah (h1 ⟨y,ym,c⟩)
     ·rw[bt c];simp only[nK,bh,bX];have sm:t.sameMemory t.moves t.mask=some true:=by simp[SetTable.sameMemory]
      rw[sm];simp only[fJ];rw[EY S.tab.rise a3];dsimp only;rw[eL];dsimp only;have iss:isSame (Value.ref y.2) (Value.ref y.2)=pure true:=aB (beq_self_eq_true _);rw[iss];refine ae (ah ?_);simp only[fJ];refine ae (ah ?_);dsimp only;refine ih (D -(e+1)) (by lia) fuel (e+1) _ rfl (by lia) (by lia) rfl λe' yM i' x q1 q2 qk=>?_;by_cases c2:e'<d
      ·exact Ii e' c2 i' x q1 q2 qk
      ·by_cases c3:e'=e
       ·rw[c3]at q1;have:i'=i:=by rw[<-below_at S.tab.rise q1,<-below_at S.tab.rise a3]
        rw[this,hy]at q2;cases q2;exact c qk
       ·exact a6 e' (by lia) (by lia) i' q1 (by rw[Y2 i' x q2,qk])
    by_cases led:t.led=true
    ·rw[led];simp only[dv,bh,bX];exact cont
    ·have lf:t.led=false:=by cases q:t.led with|false=>rfl|true=>exact(led q).elim
     rw[lf];simp only[nG,fJ];refine ae (UW hk _ (λv hv=>?_) ?_)
     ·obtain⟨p,hp,rfl⟩:=aM.mp hv;have Ih:p∈xs.map (ent knd):=by have:=(Array.mem_filter.mp (lq.mp hp)).1;simpa using this
      obtain⟨x,hx,rfl⟩:=aM.mp Ih;exact⟨x.1,x.2,rfl,S.is x hx⟩
     ·simp only[bh,bX];exact cont
end
section
variable{prog:Program}{w:World}{K:Type}[DecidableEq K]{knd:KeyKind prog w K}{A:Around}{E:Value->Shared->Prop}{s:Shared}
def Js(n:Nat)(h:carriedByValue v=true):∃b,hashByValue n v=pure b:=by
 cases v with
 |ref a=>simp[carriedByValue]at h
 |_=>cases n<;>exact⟨_,rfl⟩
def WQ(hx:IsTupleKey knd s.heap ks b)(h:∀c,Q c s):wpAny (model prog w) A (hashByValue 8 (.ref b)) Q E s:=by
 have hT:=hx.typeIs;obtain⟨o,items,n,ho,_,hd,hi⟩:=hx;unfold hashByValue;refine ae (gK hT kF.lookup ?_);dsimp only;refine ae (bS ho hd ?_);refine ae ?_;show wpAny _ _ (forIn items _ _) _ _ s;rw[<-iC];refine jv _ (λrest r s'=>r.1=none/\s'=s/\∀v∈rest,carriedByValue v=true) _ ?_ ?_ _ _ ⟨rfl,rfl,hi.byValue⟩
 ·rintro v rest r s' ⟨hr,rfl,oX⟩;obtain⟨c,e⟩:=Js 7 (oX v aA);rw[e];refine ae (ah ?_);cases c with
  |false=>
   simp only[nG,fJ];exact ah (ah (h false))
  |true=>
   simp only[dv,bh,bX];exact ah ⟨rfl,rfl,λu rN=>oX u (aD _ rN)⟩
 ·rintro⟨r1,r2⟩ s' ⟨hr,rfl,_⟩;simp only at hr;subst hr;exact ah (h true)
def Qo(ob:s.heap.get? a=some o)(ex:o.ExactSet)(hd:o.data=.set (xs.map (ent knd)).toArray ep t)(tab:Tab t (xs.map λx=>tupleKeyHash knd x.1))(nd:(xs.map (·.1)).Nodup)(is:∀x∈xs,IsTupleKey knd s.heap x.1 x.2)
  (hn:xs.length*2<=n) (Zc:n<=xs.length*4) (h0:0<n) (hx:xs.length<=100000) (Bw:n<=100000) (h:∀h' ys o' zX t',Heap.SameBut a s.heap h'->mQ knd h' a o' zX t' ys->t'.led=t.led->ys.Perm xs->Q () {s with heap:=h'}):wpAny (model prog w) A (setRelay a n) Q E s:=by
 have fits:t.fits ((xs.map (ent knd)).toArray).size=true:=by have:=tab.fits;rw[ag]at this;simpa using this
 unfold setRelay;refine ae (sN ob hd fits ?_);dsimp only;obtain⟨k,e1,e2,e3,e4⟩:=ze (n:=n) (by lia);rw[ax (by rw[e1,cv];lia)];have hm:((xs.map (ent knd)).toArray).map (·.1)=(xs.map λx=>tupleKeyHash knd x.1).toArray:=by simp[tD]
 obtain⟨t',order,q1,q2,qc,q3,q4,q5,q6,q7⟩:=NM t (xs.map λx=>tupleKeyHash knd x.1) (n:=n) (by lia) (by rw[ag];lia);rw[hm,q1];rw[ag]at q6;have oz:order.toList.Perm (List.range ((xs.map (ent knd)).toArray).size):=by simpa using q6
 obtain⟨o1,o2⟩:=LJ oz;have qr:(order.filterMap (((xs.map (ent knd)).toArray)[·]?))=((order.toList.filterMap (xs[·]?)).map (ent knd)).toArray:=by apply uX.mp;simp[List.map_filterMap]
 have py:(order.toList.filterMap (xs[·]?)).Perm xs:=by have:=q6.filterMap (xs[·]?);rwa [zo]at this
 have ly:=py.length_eq;have hh:(order.toList.filterMap (xs[·]?)).map (λx=>tupleKeyHash knd x.1)=order.toList.map λi=>(xs.map λx=>tupleKeyHash knd x.1).getD i 0:=by have:=o2 (·.1);rw[qr]at this;simpa[tD]using this
 rw[<-hh]at q7;generalize order.toList.filterMap (xs[·]?)=ys at*;refine ae ?_;show wpAny (model prog w) A (if((order.filterMap (((xs.map (ent knd)).toArray)[·]?)).size !=((xs.map (ent knd)).toArray).size)=true then unsupported _ else pure (order.filterMap (((xs.map (ent knd)).toArray)[·]?),t')) _ E s;rw[qr,ax (by simp[ly])];refine ah ?_;dsimp only;refine AU ob hd ?_ (by rw[aN,ag,ly,cv];lia);have S2:mQ knd (s.heap.update a (Obj.putSet (ys.map (ent knd)).toArray t')) a {o with data:=.set (ys.map (ent knd)).toArray (ep+1) t'} (ep+1) t' ys:=by
  have sb:=bU s.heap a (Obj.putSet (ys.map (ent knd)).toArray t');refine⟨?_,ex,rfl,q7,by lia,by lia,(py.map _).nodup_iff.mpr nd,λx hx=>?_⟩
  ·have:=b7 (Obj.putSet (ys.map (ent knd)).toArray t') ob (by rw[zu _ t' hd];rfl);rw[zu _ t' hd]at this;exact this
  ·have wM:=is x (py.mem_iff.mp hx);have ne:x.2≠a:=by intro z;obtain⟨o',items,n,qt,_,pS,_⟩:=wM;rw[z]at qt;obtain rfl:o'=o:=bL (qt.symm.trans ob);rw[hd]at pS;cases pS
   obtain⟨o',items,n,qt,hc,pS,hi⟩:=wM;exact⟨o',items,n,(sb.2 _ ne).trans qt,hc,pS,hi⟩
 exact h _ ys _ _ _ (bU s.heap a _) S2 q4 py
def WR(hu:A.units<cLine)(S:mQ knd s.heap a o ep t xs)(hk:IsTupleKey knd s.heap k b)(hx:xs.length<=1000)
  (h1:(∃x∈xs,x.1=k)->Q false s) (h2:(∀x∈xs,x.1≠k)->∀h' ys o' zX t',Heap.SameBut a s.heap h'->mQ knd h' a o' zX t' ys->t'.led=t.led->ys.Perm ((k,b)::xs)->Q true {s with heap:=h'}):
  wpAny (model prog w) A (setAddHashed a (.ref b) (tupleKeyHash knd k)) Q E s:=by
 unfold setAddHashed setAddHashedIn;refine bR (ae (S.state ?_));dsimp only;have nb:byScan (.ref b) (xs.map (ent knd)).toArray=false:=by simp[byScan,Value.scannable]
 rw[nb];simp only[bh,bX];obtain⟨D,fr⟩:=S.tab.free (tupleKeyHash knd k);unfold setSearch;have bound:=fr.lt;have hm:=S.cap;unfold turns at bound;refine ae (MY hu S hk fr (λq=>ah (h1 q)) (λq=>?_) D 100000 0 none rfl (aO _) (by lia) (QH t _) λe he=>absurd he (gR _));dsimp only;refine ae (S.state ?_);dsimp only;have big:=S.tab.big;have gz:=S.gz;have room:(xs.map λx=>tupleKeyHash knd x.1).length+1<=t.mask:=by rw[ag];lia
 have tb:=S.tab.put fr room;generalize ep1:t.put (ps t.mask (tupleKeyHash knd k) D)=tp at tb;obtain⟨t1,p⟩:=tp;have Yc:t1.mask=t.mask:=by have:(t.put (ps t.mask (tupleKeyHash knd k) D)).1.mask=t.mask:=rfl;rw[ep1]at this;exact this
 have ld1:t1.led=t.led:=by have:(t.put (ps t.mask (tupleKeyHash knd k) D)).1.led=t.led:=rfl;rw[ep1]at this;exact this
 dsimp only at tb⊢;have esz:((xs.map (ent knd)).toArray).size=xs.length:=by simp
 have ins:insertAt (xs.map (ent knd)).toArray p (tupleKeyHash knd k,Value.ref b)=((ig xs p (k,b)).map (ent knd)).toArray:=by apply uX.mp;rw[pO,HM]
 have hsI:(ig xs p (k,b)).map (λx=>tupleKeyHash knd x.1)=ig (xs.map λx=>tupleKeyHash knd x.1) p (tupleKeyHash knd k):=HM _ _ _ _;have pI:=OM xs p (k,b);have nI:((ig xs p (k,b)).map (·.1)).Nodup:=by refine(pI.map _).nodup_iff.mpr ?_;rw[aX];refine du.mpr ⟨λz=>?_,S.nd⟩;obtain⟨x,hx,e⟩:=aM.mp z;exact q x hx e
 have isI:∀x∈ig xs p (k,b),IsTupleKey knd s.heap x.1 x.2:=λx hx=>by
  rcases aI.mp (pI.mem_iff.mp hx)with rfl|hx
  ·exact hk
  ·exact S.is x hx
 have lI:(ig xs p (k,b)).length=xs.length+1:=by rw[pI.length_eq];rfl
 have fin:∀t2:SetTable,t2.mask=t1.mask->t2.place=t1.place->t2.dummies=t1.dummies->t2.led=t1.led->wpAny (model prog w) A (do
   storeSet a (insertAt (xs.map (ent knd)).toArray p (tupleKeyHash knd k,Value.ref b)) t2
   if(!false&&t2.tooFull)=true then
    setRelay a (SetTable.grown (((xs.map (ent knd)).toArray).size+1))
    pure true
   else pure true) Q E s:=λt2 e1 e2 e3 e4=>by
  have SN:Tab t2 ((ig xs p (k,b)).map λx=>tupleKeyHash knd x.1):=by rw[hsI];exact tb.of_eq e1 e2 e3
  rw[ins];refine ae (AU S.ob S.data ?_ (by rw[aN,ag,lI,cv];lia));have sb:=bU s.heap a (Obj.putSet ((ig xs p (k,b)).map (ent knd)).toArray t2);have ob2:(s.heap.update a (Obj.putSet ((ig xs p (k,b)).map (ent knd)).toArray t2)).get? a=some {o with data:=.set ((ig xs p (k,b)).map (ent knd)).toArray (ep+1) t2}:=by have:=b7 (Obj.putSet ((ig xs p (k,b)).map (ent knd)).toArray t2) S.ob (by rw[zu _ t2 S.data];rfl);rw[zu _ t2 S.data]at this;exact this
  have fl:t2.tooFull=decide ((xs.length+1)*5≥t.mask*3):=by unfold SetTable.tooFull SetTable.fill;rw[SN.PN,SN.sz,ag,lI,e1,Yc];rfl
  have zO:∀x∈ig xs p (k,b),IsTupleKey knd (s.heap.update a (Obj.putSet ((ig xs p (k,b)).map (ent knd)).toArray t2)) x.1 x.2:=λx hx=>by have ne:=S.ne (isI x hx);obtain⟨o',items,n,qt,hc,pS,hi⟩:=isI x hx;exact⟨o',items,n,(sb.2 _ ne).trans qt,hc,pS,hi⟩
  by_cases c:t2.tooFull=true
  ·rw[c];simp only[nG,Bool.and_self,fJ];have g:SetTable.grown (((xs.map (ent knd)).toArray).size+1)=(xs.length+1)*4:=by unfold SetTable.grown;rw[esz,ax (by lia)]
   rw[g];refine ae (Qo (s:={s with heap:=s.heap.update a (Obj.putSet ((ig xs p (k,b)).map (ent knd)).toArray t2)}) ob2 S.ex rfl SN nI zO (by lia) (by lia) (by lia) (by lia) (by lia) λh' ys o' zX t' pC S' l' py=>?_);exact ah (h2 q h' ys o' zX t' (sb.trans pC) S' (l'.trans (e4.trans ld1)) (py.trans pI))
  ·rw[g9.mpr c];simp only[nK,bh,bX];rw[fl]at c;have c':¬(xs.length+1)*5≥t.mask*3:=λz=>c (aU z);exact ah (h2 q _ (ig xs p (k,b)) _ _ _ sb ⟨ob2,S.ex,rfl,SN,by rw[lI,e1,Yc];lia,by rw[lI,e1,Yc];lia,nI,zO⟩ (e4.trans ld1) pI)
 by_cases c:t1.plain=true
 ·rw[aB c];refine ae (WQ hk λbv=>?_);cases bv with
  |true=>exact fin t1 rfl rfl rfl rfl
  |false=>exact fin {t1 with plain:=false} rfl rfl rfl rfl
 ·rw[ax c];refine ae (ah ?_);exact fin t1 rfl rfl rfl rfl
end
end Tb
namespace Tb
open PySem
def DD{α:Type}{l:List α}(h:i<l.length):(l[i]::l.eraseIdx i).Perm l:=by rw[pk];refine List.perm_middle.symm.trans ?_;rw[List.getElem_cons_drop,c8]
theorem Ki(next:Nat->Nat):∀(f k:Nat)(left:List α)(out:Array α),f=left.length->(pickOrder.go next f k left out).toList.Perm (out.toList++left)
 |0,k,left,out,h=>by rw[eK.mp h.symm,cj];exact .refl _
 |f+1,k,left,out,h=>by
  have hl:next k % left.length<left.length:=qd _ (by lia)
  unfold pickOrder.go;rw[ar hl];refine(Ki next f (k+1) (left.eraseIdx (next k % left.length)) (out.push left[next k % left.length]) (by rw[lH hl];lia)).trans ?_;rw[kH,b9];exact(DD hl).append_left _
def NP(next:Nat->Nat)(xs:Array α):(pickOrder next xs).toList.Perm xs.toList:=by
 have:=Ki next xs.size 0 xs.toList #[] (by simp)
 rw[iP]at this;exact this
section
variable{M:Model}{A:Around}{E:Value->Shared->Prop}
theorem JI:∀(n:Nat)(xs:List α)(s:Shared){Q:List α->Shared->Prop},n=xs.length->(∀ys d,ys.Perm xs->Q ys {s with drawn:=d})->wpAny M A (drawOrder n xs) Q E s
 |0,xs,s,Q,hn,h=>by have e:xs=[]:=eK.mp hn.symm;subst e;unfold drawOrder;exact ah (h [] s.drawn (.refl _))
 |n+1,[],s,Q,hn,h=>by simp at hn
 |n+1,x::xs,s,Q,hn,h=>by
  unfold drawOrder;refine ae (λΓ p hΓ=>?_);refine⟨by simp,?_⟩;have hl:M.w.draws .order (s.drawn.get .order) %(x::xs).length<(x::xs).length:=qd _ (by simp);generalize M.w.draws .order (s.drawn.get .order) %(x::xs).length=i at hl;have key:wpAny M A (match(x::xs)[i]? with
   |some y=>do return y::(<-drawOrder n ((x::xs).eraseIdx i))
   |none=>unsupported "internal:drawOrder") Q E {s with drawn:=s.drawn.bump .order}:=by
   rw[ar hl];dsimp only;refine ae (JI n _ _ (by rw[lH hl];lia) λys d hp=>ah ?_);exact h _ d ((hp.cons _).trans (DD hl))
  exact key
end
end Tb
namespace Tb
open PySem PySem.SetTable PyProof.Rows
section
variable{prog:Program}{w:World}{K:Type}[DecidableEq K]{knd:KeyKind prog w K}
def JS(x:IsTupleKey knd h k b)(kp:∀b o,h.get? b=some o->h'.get? b=some o):IsTupleKey knd h' k b:=by obtain⟨o,aY,n,ho,r⟩:=x;exact⟨o,aY,n,kp _ _ ho,r⟩
structure CG(knd:KeyKind prog w K)(ks:List (List K))(bs:List Addr)(i:Nat)(xs:List (List K×Addr)):Prop where
 len:xs.length<=i
 mem:∀k,k∈xs.map (·.1)↔k∈ks.take i
 Ga:∀x∈xs,∃j:Nat,ks[j]?=some x.1/\bs[j]?=some x.2
section
variable{A:Around}{R:Result->Shared->Prop}{I:Addr}{fp wr:List Addr}{G:Array GenState->Array GenState->Prop}{n:Nat}{P:Nat->Value->Prop}{St:Nat->Shared->Prop}
def aa2(W:WalksS prog w A.in1 I fp wr G n P St)(S:Addr)(nS:S∉fp)(hS0:h0.get? S=none)(TM:∀b∈wr,h0.get? b=none)(ks:List (List K))(bs:List Addr)(lk:ks.length=n)(lb:bs.length=n)(hv:∀(i:Nat) v,P i v->∃b,bs[i]?=some b/\v=.ref b)
  (hk:∀(i:Nat) k b,ks[i]?=some k->bs[i]?=some b->IsTupleKey knd h0 k b) (hu:A.in1.units<cLine) (hn:n<=1000) (led:Bool) (m:Nat):
  ∀(i:Nat)(s:Shared)(o:Obj)(ep:Nat)(t:SetTable)(xs:List (List K×Addr)),n -i=m->i<=n->St i s->(∀b o,h0.get? b=some o->s.heap.get? b=some o)->mQ knd s.heap S o ep t xs->t.led=led->CG knd ks bs i xs->
   (∀s' o ep t xs,Moved (S::wr) G s s'->mQ knd s'.heap S o ep t xs->t.led=led->CG knd ks bs n xs->R (.ok (.ret .none)) s')->
   codeAny (model prog w) A (.builtin "set.update.loop" ⟨[.ref S,.ref I],[]⟩) R s:=by
 have nw:S∉wr:=λh=>nS (W.sub _ h);have sub:∀b∈wr,b∈S::wr:=λb q=>aD _ q;have iS:∀{s s':Shared}{o:Obj}{ep:Nat}{t:SetTable}{xs:List (List K×Addr)}{i:Nat},Moved wr G s s'->(∀b o,h0.get? b=some o->s.heap.get? b=some o)->mQ knd s.heap S o ep t xs->CG knd ks bs i xs->mQ knd s'.heap S o ep t xs/\∀b o,h0.get? b=some o->s'.heap.get? b=some o:=λ{s s' o ep t xs i} hm kp hS hH=>by have Bo:∀b o,h0.get? b=some o->s'.heap.get? b=some o:=λb o e=>hm.heap b o (λz=>by rw[TM b z]at e;cases e) (kp b o e);refine⟨⟨hm.heap S _ nw hS.ob,hS.ex,hS.data,hS.tab,hS.gz,hS.cap,hS.nd,λx hx=>?_⟩,Bo⟩;obtain⟨j,j1,j2⟩:=hH.Ga x hx;exact JS (hk j _ _ j1 j2) Bo
 induction m with
 |zero=>
  intro i s o ep t xs hm hi st kp hS hl hH hR;have e:i=n:=by lia
  subst e;refine cZ mX ?_;rw[fL fB _];refine ae (m:=pyNext (.ref I)) (W.done s _ _ st λs' hm=>ah (hR s' o ep t xs (hm.mono sub) (iS hm kp hS hH).1 hl hH))
 |succ m ih=>
  intro i s o ep t xs hm hi st kp hS hl hH hR;have bQ:i<n:=by lia
  refine cZ mX ?_;rw[fL fB _];refine ae (m:=pyNext (.ref I)) (W.item i s _ _ bQ st λv s' hP gM hm=>?_);obtain⟨b,hb,rfl⟩:=hv i v hP;obtain⟨k,Ip⟩:∃k,ks[i]?=some k:=⟨_,ar (by lia)⟩;obtain⟨oC,Bo⟩:=iS hm kp hS hH;have kb:IsTupleKey knd s'.heap k b:=JS (hk i k b Ip hb) Bo;have et:ks.take (i+1)=ks.take i++[k]:=by rw[aZ,Ip];rfl
  have rR:=hH.len;refine ae (m:=holding [Value.ref b] (setAdd S (.ref b))) (bR ?_);unfold setAdd;refine bR (ae (wpAny_pyHash_tuple hu kb ?_));refine WR (s:={s' with toks:=s'.toks+(k.length+1)}) hu oC kb (by lia) (λq=>?_) λq h' ys o' zX t' sb S2 ab4 py=>?_
  ·have Z0:CG knd ks bs (i+1) xs:=⟨by lia,λz=>by
    rw[et,bf,<-hH.mem,ay];exact⟨.inl,λc=>c.elim id λe=>by obtain⟨x,hx,ex⟩:=q;rw[e,<-ex];exact aM.mpr ⟨x,hx,rfl⟩⟩,hH.Ga⟩
   refine ah ⟨f6 fB _,ih (i+1) _ o ep t xs (by lia) bQ (W.frame _ s' s'.heap _ gM (dy _ _) λb q o e=>e) Bo oC hl Z0 λs2 o2 ep2 t2 WO m2 a1 a2 a3=>hR s2 o2 ep2 t2 WO (Moved.trans W.gtrans ((hm.mono sub).then_heap (h':=s'.heap) (dy _ _) λb o _ e=>e) m2) a1 a2 a3⟩
  ·have Z0:CG knd ks bs (i+1) ys:=⟨by rw[py.length_eq,bH];lia,λz=>by
    rw[et,bf,<-hH.mem,ay,(py.map (·.1)).mem_iff,aX,aI];exact Or.comm,λx hx=>by
    rcases aI.mp (py.mem_iff.mp hx)with rfl|hx
    ·exact⟨i,Ip,hb⟩
    ·exact hH.Ga x hx⟩
   refine ah ⟨f6 fB _,ih (i+1) _ o' zX t' ys (by lia) bQ (W.frame _ s' h' _ gM (dy _ _) λb q o e=>?_) (λb o e=>?_) S2 (ab4.trans hl) Z0 λs2 o2 ep2 t2 WO m2 a1 a2 a3=>hR s2 o2 ep2 t2 WO (Moved.trans W.gtrans ((hm.mono sub).then_heap (h':=h') (dy _ _) λb o q e=>?_) m2) a1 a2 a3⟩
   ·rw[sb.2 b λh:b=S=>nS (h▸q)];exact e
   ·rw[sb.2 b λh:b=S=>by rw[h,hS0]at e;cases e];exact Bo b o e
   ·rw[sb.2 b λh:b=S=>q (h▸aA)];exact e
end
section
variable{A:Around}{E:Value->Shared->Prop}{s:Shared}
abbrev oV(w:World):Bool:=!w.params.followText "set-order"
abbrev qW(led:Bool):Obj:={cls:=.type "set",dict:=none,data:=.set #[] 0 (.fresh 0 0 led)}
def code_set_new(a:Value)(h:Q₁ (.ref s.heap.objs.size) {s with heap:=s.heap.push (qW (oV w))}):
  codeAny (model prog w) A (.call (.builtin "set.__new__") ⟨[.type "set",a],[]⟩) (wants Q₁ E) s:=by
 refine codeAny_of_tree ?_;show wpAny _ A.in1 (do checkBuiltinCall "set.__new__" ⟨[.type "set",a],[]⟩;again (.builtin "set.__new__" ⟨[.type "set",a],[]⟩)) _ _ s;refine ae (Ba (PySem.F.newCall_set_1 a) (ah ⟨f6 xc _,cZ PySem.F.entry_set_new ?_⟩));rw[fL xc _];unfold Builtin.«set.__new__» Builtin.Frozenset.newClass;have RA:=sub_set_self;obtain⟨hp,g,d,tk,os⟩:=s;dsimp only
 wp_walk
 refine t7 (ah ?_);dsimp only;simp only[newObj];refine ae (wpAny_alloc (ah ?_));exact ah h
def P8(hA:A.handled=none)(hu:A.in1.in1.in1.units<cLine)(hl:s.heap.IsList l items)(hi:items.toList=bs.map Value.ref)(lb:ks.length=bs.length)(hk:∀(i:Nat) k b,ks[i]?=some k->bs[i]?=some b->IsTupleKey knd s.heap k b)(hb:bs.length<=1000)
  (k:∀(h':Heap)(tk:Nat) o ep t xs,mQ knd h' s.heap.objs.size o ep t xs->t.led=oV w->CG knd ks bs bs.length xs->(∀b o,s.heap.get? b=some o->h'.get? b=some o)->Q (.ref s.heap.objs.size) {s with heap:=h',toks:=tk}):
  wpAny (model prog w) A (call (.type "set") [.ref l]) Q E s:=by
 obtain⟨c,tl,adB⟩:=Am.mro;have ft:=Am;have adu:=ft.made;have RA:=ft.sub;refine CK (codeAny_of_tree ?_);show wpAny _ _ (callAny (.type "set") _) _ _ _;refine ah ⟨iB _ (by decide+kernel),cZ PySem.F.entry_type_call ?_⟩;rw[Around.under_plain (weight_type_call_type "set" [.ref l] []) rfl];have h1:=ft.notType;have h2:=ft.canCreate;have hct:=PySem.F.typeCall_set_1 (.ref l)
 repeat (any_goals (first|assumption|wp_step))
 refine kK (code_set_new (.ref l) (E:=E) (Q₁:=λx z=>x=.ref s.heap.objs.size/\z={s with heap:=s.heap.push (qW (oV w))}) ⟨rfl,rfl⟩) λr z hr=>?_;cases r with
 |error e=>exact hr
 |ok fl=>
  cases fl with
  |ret x=>
   obtain⟨rfl,rfl⟩:=hr;have hS:(s.heap.push (qW (oV w))).get? s.heap.objs.size=some (qW (oV w)):=aG _ rfl;have hT:Shared.TypeIs {s with heap:=s.heap.push (qW (oV w))} (.ref s.heap.objs.size) "set":=⟨_,hS,rfl⟩;have hli:=ft.init.lookup;have hbi:=ft.init.bind (.ref s.heap.objs.size)
   repeat (any_goals (first|assumption|wp_step))
   refine kK (pY (R:=wants (λr z=>r=.none/\∃h' tk o ep t xs,z={s with heap:=h',toks:=tk}/\mQ knd h' s.heap.objs.size o ep t xs/\t.led=oV w/\CG knd ks bs bs.length xs/\(∀b o,s.heap.get? b=some o->h'.get? b=some o)) E) ft.init.plain PySem.F.entry_set_init (check_set_init_1 hT ?_)) λr2 z2 uD=>?_
   ·obtain⟨⟨oc,od,oda,yF⟩,KJ,yO,nl,hdl⟩:=hl;simp only at yO hdl;subst yO hdl;have acN:=af (qW (oV w)) KJ;have ady:=PySem.F.sub_list_set;have adz:=PySem.F.sub_list_frozenset;have gP:(Value.type "list"==Value.type "dict")=false:=by decide
    have rR:(s.heap.push (qW (oV w))).IsList l items:=⟨_,acN,rfl,nl,rfl⟩;have hh3:A.in1.in1.in1.handled=none:=by simp[hA]
    unfold Builtin.«set.__init__» noKeywords Builtin.Frozenset.updateFrom;generalize hPI:pyIter=PI
    wp_walk
    subst hPI;refine ko rR (ae (wpAny_runValue ?_));have hlS:l<s.heap.objs.size:=aF KJ;have nI:l≠(s.heap.push (qW (oV w))).objs.size:=by rw[b6];exact aH (dD hlS)
    have nS:s.heap.objs.size∉[(s.heap.push (qW (oV w))).objs.size,l]:=by
     rw[b6];intro hm;rcases aI.mp hm with hm|hm
     ·exact absurd hm (aH (dw _))
     ·exact absurd (ay.mp hm) (bx hlS)
    have hsz:items.size=bs.length:=by rw[<-aR,hi,ag]
    refine aa2 (knd:=knd) (h0:=s.heap) ((Walks.list hh3 _ l nI items).toS) s.heap.objs.size nS (gX (ak _)) (λb hb=>gX (by rw[ay.mp hb,b6];exact eG _)) ks bs (by lia) (by lia) (λi v hv=>?_) hk (by first|exact hu|simpa using hu) (by lia) (oV w) items.size 0 _ (qW (oV w)) 0 (.fresh 0 0 (oV w)) [] rfl (aO _) ⟨⟨_,aG _ rfl,rfl,rfl⟩,rR.push _⟩ (λb o e=>af _ (af _ e)) ?_ rfl ⟨ak _,λk=>by simp,λx hx=>nomatch hx⟩ λs' o ep t xs hm oC oB hH=>?_
    ·have e:items.toList[i]?=some v:=by rw[bD];exact hv
     rw[hi,aJ]at e;obtain⟨b,hb,rfl⟩:=bo.mp e;exact⟨b,hb,rfl⟩
    ·exact⟨af _ hS,⟨rfl,rfl,rfl⟩,rfl,Tab.fresh 0 0 _,by show 0*5<7*3;decide,by show 7<=15;decide,kP,λx hx=>nomatch hx⟩
    ·obtain⟨h',g',d',CN,NW⟩:=s';have eg:g'=s.gens:=hm.gens;have ed:d'=s.drawn:=hm.drawn;have eo:NW=s.os:=hm.os;subst eg ed eo;rw[hsz]at hH;refine ah (ah ⟨rfl,h',CN,o,ep,t,xs,rfl,oC,oB,hH,λb o e=>hm.heap b o ?_ (af _ (af _ e))⟩);have lt:=aF e;rintro(_|⟨_,q⟩)
     ·exact df _ lt
     ·rw[ay.mp q,b6]at lt;exact absurd lt (DY.mpr (eG _))
   ·cases r2 with
    |error e=>exact uD
    |ok fl2=>
     cases fl2 with
     |ret r=>
      obtain⟨rfl,h',tk,o,ep,t,xs,rfl,oC,oB,hH,Ip⟩:=uD
      repeat (any_goals (first|assumption|wp_step))
      exact k _ _ o ep t xs oC oB hH Ip
     |_=>exact uD.elim
  |_=>exact hr.elim
end
end
end Tb
namespace Tb
open PySem PySem.SetTable
def Ey:entryFor table "set.__iter__"=some Builtin.«frozenset.__iter__»:=
 w4 (id':="frozenset.__iter__") (by kernel_rfl) rfl (by decide+kernel) (by kernel_rfl)
def eA:Slot "set_iterator" "__next__" "set_iterator.__next__":=
 .of (owner:="set_iterator") (n:="__next__") (by rw[iG,fq];kernel_rfl) (by decide+kernel) (by decide+kernel) (by decide+kernel)
  (by first|exact .inl (by decide+kernel)|exact .inr (by decide+kernel)) (by rw[wK];kernel_rfl)
def mh:entryFor table "set_iterator.__next__"=some Builtin.«set_iterator.__next__»:=entryFor_of_tree (by kernel_rfl)
def ny(a:Value):argsOk "set_iterator.__next__" ⟨[a],[]⟩:=by unfold argsOk;kernel_rfl
def wg:Slot "set_iterator" "__iter__" "set_iterator.__iter__":=
 .of (owner:="set_iterator") (n:="__iter__") (by rw[iG,fq];kernel_rfl) (by decide+kernel) (by decide+kernel) (by decide+kernel)
  (by first|exact .inl (by decide+kernel)|exact .inr (by decide+kernel)) (by rw[wK];kernel_rfl)
def DF:entryFor table "set_iterator.__iter__"=some Builtin.«dict_keyiterator.__iter__»:=
 w4 (id':="dict_keyiterator.__iter__") (by kernel_rfl) rfl (by decide+kernel) (by kernel_rfl)
def EL(a:Value):argsOk "set_iterator.__iter__" ⟨[a],[]⟩:=by unfold argsOk;kernel_rfl
def Vb:typeLookup (.type "set") "__len__"=pure (some (.builtin "set.__len__")):=by rw[iG,fq];kernel_rfl
section
variable{prog:Program}{w:World}{A:Around}{E:Value->Shared->Prop}{s:Shared}
structure Sat(w:World)(h:Heap)(S:Addr)(es:Array (Int×Value))(ep:Nat)(t:SetTable):Prop where
 ob:∃o,h.get? S=some o/\o.ExactSet/\o.data=.set es ep t
 fits:t.fits es.size=true
 led:t.led=!w.params.followText "set-order"
 rise:mR t.place
def Sat.keep{S:Addr}(x:Sat w h S es ep t)(k:∀o,h.get? S=some o->h'.get? S=some o):Sat w h' S es ep t:=by obtain⟨⟨o,ho,r⟩,a,b,c⟩:=x;exact⟨⟨o,k o ho,r⟩,a,b,c⟩
def Sat.state{S:Addr}(x:Sat w s.heap S es ep t)(h:Q (es,ep,t) s):wpAny (model prog w) A (setState S) Q E s:=by obtain⟨⟨o,ho,_,hd⟩,hf,_,_⟩:=x;exact sN ho hd hf h
def yZ(h:Q (w.params.followText "set-order") s):wpAny (model prog w) A setsByText Q E s:=by unfold setsByText;exact ae (t7 (ah h))
def qZ(w:World)(S:Addr)(es:Array (Int×Value))(ep:Nat):List (Int×Value):=if w.params.followText "set-order"=true then(pickOrder (w.params.setOrder S ep) es).toList else es.toList
def vK(w:World)(t:SetTable):Nat->Nat
 |0=>0
 |i+1=>if w.params.followText "set-order"=true then 0 else t.place.getD i 0+1
def xE(w:World)(S:Addr)(es:Array (Int×Value))(ep:Nat):(qZ w S es ep).Perm es.toList:=by
 unfold qZ;split
 ·exact NP _ _
 ·exact .refl _
def GD(t:SetTable):Nat->Nat
 |0=>0
 |i+1=>t.place.getD i 0+1
def Sq(hr:mR t.place):∀i,i<=t.place.size->below t.place (GD t i)=i:=by
 intro i hi;obtain⟨h1,h2,h3⟩:=tR hr (GD t i);generalize eb:below t.place (GD t i)=b at h1 h2 h3⊢;rcases kB b i with c|c|c
 ·cases i with
  |zero=>lia
  |succ i=>
   have:=h3 b (ak _) (by lia);rw[show GD t (i+1)=t.place.getD i 0+1 from rfl]at this;by_cases e:b=i
   ·rw[e]at this;lia
   ·have:=hr b i (by lia) (by lia);lia
 ·exact c
 ·have:=h2 i c;cases i with
  |zero=>rw[show GD t 0=0 from rfl]at this;lia
  |succ i=>
   rw[show GD t (i+1)=t.place.getD i 0+1 from rfl]at this;have:=hr i (i+1) (by lia) (by lia);lia
def JH{S:Addr}(x:Sat w s.heap S es ep t)(hi:i<=es.size)(hd:w.params.followText "set-order"=true\/(!t.plain&&decide (es.size>1))=false)
  (h:Q ((qZ w S es ep)[i]?.map λe=>(e.2,vK w t (i+1))) s):wpAny (model prog w) A (setNext S (vK w t i) i ep) Q E s:=by
 unfold setNext;refine ae (x.state ?_);dsimp only;refine ae (yZ ?_);by_cases c:w.params.followText "set-order"=true
 ·rw[aB c];rw[ax (by simp)];refine ae ?_;unfold setWalk;refine ae (x.state ?_);dsimp only;refine ae (yZ ?_);rw[aB c];refine ae (t7 (ah (ah ?_)));have e1:qZ w S es ep=(pickOrder (w.params.setOrder S ep) es).toList:=aB c;have e2:vK w t (i+1)=vK w t i:=by
   cases i with
   |zero=>exact aB c
   |succ i=>exact(aB c).trans (aB c).symm
  rw[e1,e2,bD]at h;exact h
 ·rw[ax c];have pS:=hd.resolve_left c;have cf:w.params.followText "set-order"=false:=g9.mpr c;have fz:=x.fits;have sz:t.place.size=es.size:=by unfold SetTable.fits at fz;have:=(qj.mp fz).1;exact jq this
  show wpAny (model prog w) A (if(!t.plain&&decide (es.size>1))=true then _ else _) Q E s;rw[pS];simp only[bh,bX];refine ae ?_;show wpAny (model prog w) A (if(!t.led&&!es.isEmpty)=true then _ else _) _ E s;rw[x.led,cf];simp only[nG,dv,nJ,bh,bX];refine ah (ah ?_);have e0:vK w t i=GD t i:=by
   cases i with
   |zero=>rfl
   |succ i=>exact ax c
  rw[e0,Sq x.rise i (by lia)];have e1:qZ w S es ep=es.toList:=ax c;rw[e1,bD]at h;by_cases lt:i<es.size
  ·have g1:es[i]?=some es[i]:=bz lt;have g2:t.place[i]?=some (t.place.getD i 0):=getD_some.mpr ⟨by lia,rfl⟩;have g3:vK w t (i+1)=t.place.getD i 0+1:=ax c;rw[g1]at h⊢;rw[g2];rw[dM,g3]at h;exact h
  ·have g1:es[i]?=none:=kj (by lia);rw[g1]at h⊢;exact h
def EZ(hT:s.TypeIs (.ref I) "set_iterator")(h:Q (.ref I) s):wpAny (model prog w) A (pyIter (.ref I)) Q E s:=by refine nR hT wg (bC wg hT DF ?_ (EL _));show wpAny _ _ (ret (.ref I)) _ _ s;exact ah ⟨_,rfl,"set_iterator",_,hT,eA.lookup,h⟩
abbrev kS(first:Value)(i:Nat)(S:Addr)(n ep:Nat):Obj:={cls:=.type "set_iterator",data:=.fields #[first,.int i 0,.ref S,.int n 0,.int ep 0]}
def AE(hh:A.handled=none)(k:∀(h':Heap)(e:Addr),(∀b o,h.get? b=some o->h'.get? b=some o)->(∃o,h'.get? e=some o/\o.cls=.type "StopIteration")->E (.ref e) {s with heap:=h'}):
  wpAny (model prog w) A (newExc (.type "StopIteration") []>>=λe=>(raiseNew e:Sem α)) Q E {s with heap:=h}:=by
 refine ae ?_;simp only[newExc,newTuple];refine ae (cT ?_ (by size_fits));refine ae (m:=firstArgMember _ _) (Ba (a:=Value.none) (by first|rfl|(simp only[firstArgMember];rfl)) ?_);refine cT ?_ (by size_fits);simp only[raiseNew];refine ae (wpAny_handled ?_);rw[hh];refine ae (ah (wpAny_throw ?_));exact k _ _ (λb o e=>af _ (af _ e)) ⟨_,aG _ rfl,rfl⟩
def tF{h:Heap}(ho:h.get? a=some {cls:=cls,data:=.fields vs}):(h.update a (Obj.mapFields (·.setIfInBounds i x))).get? a=some {cls:=cls,data:=.fields (vs.setIfInBounds i x)}:=b7 _ ho rfl
def aaz(hh:A.handled=none){S I:Addr}(ne:S≠I)(hd:w.params.followText "set-order"=true\/(!t.plain&&decide (es.size>1))=false):
  WalksS prog w A I [I,S] [I] (λa b=>b=a) es.size (λi v=>((qZ w S es ep).map (·.2))[i]?=some v) (λi s=>Sat w s.heap S es ep t/\s.heap.get? I=some (kS (.int (vK w t i) 0) i S es.size ep)) where
 sub:=λb hb=>by rw[ay.mp hb];exact aA
 grefl:=λ_=>rfl
 gtrans:=λ_ _ _ h1 h2=>h2.trans h1
 frame:=λi s h' tk st _ hk=>⟨st.1.keep λo e=>hk S (by simp) o e,hk I (by simp) _ st.2⟩
 item:=by
  intro i s Q E hi ⟨x,hI⟩ k;have hT:s.TypeIs (.ref I) "set_iterator":=⟨_,hI,rfl⟩;unfold pyNext;refine ae (dt (wpAny_callSpecial?_slot (name:=Str.ofString "__next__") hT eA (bC eA hT mh ?_ (ny _))));unfold Builtin.«set_iterator.__next__» slotArgs;simp only[k8,dv,bh,bX,cS,g7];refine ae (ae (ah (ah ?_)));refine ae (ic hI rfl ?_);dsimp only;refine ae ?_;unfold setEntries;refine ae (x.state (ah ?_));dsimp only;rw[ax (by simp)];simp only[cN];refine ae (JH x (bu hi) hd ?_);have lo:i<(qZ w S es ep).length:=by rw[(xE w S es ep).length_eq,aR];exact hi
  rw[ar lo,dM];dsimp only;refine ae (eT hI rfl (by simp) ?_);have K1:=tF (i:=0) (x:=rawInt (vK w t (i+1))) hI;refine ae (eT K1 rfl (by simp) ?_);have hI2:=tF (i:=1) (x:=rawInt ((i:Int)+1)) K1;refine ah ⟨_,rfl,ah ?_⟩;have wz:∀b o,b≠I->s.heap.get? b=some o->((s.heap.update I (Obj.mapFields (·.setIfInBounds 0 (rawInt (vK w t (i+1)))))).update I (Obj.mapFields (·.setIfInBounds 1 (rawInt ((i:Int)+1))))).get? b=some o:=λb o nb e=>(bJ _ _ (bP nb)).trans ((bJ _ _ (bP nb)).trans e);refine k _ _ (by rw[aJ,ar lo];rfl) ⟨x.keep λo e=>wz S o ne e,?_⟩ ⟨λb o hb e=>wz b o (λz=>hb (ay.mpr z)) e,rfl,rfl,rfl,ak _⟩;exact hI2
 done:=by intro s Q E ⟨x,hI⟩ k;have hT:s.TypeIs (.ref I) "set_iterator":=⟨_,hI,rfl⟩;unfold pyNext;refine ae (dt (wpAny_callSpecial?_slot (name:=Str.ofString "__next__") hT eA (bC eA hT mh ?_ (ny _))));unfold Builtin.«set_iterator.__next__» slotArgs;simp only[k8,dv,bh,bX,cS,g7];refine ae (ae (ah (ah ?_)));refine ae (ic hI rfl ?_);dsimp only;refine ae ?_;unfold setEntries;refine ae (x.state (ah ?_));dsimp only;rw[ax (by simp)];simp only[cN];refine ae (JH x (ak _) hd ?_);have lo:(qZ w S es ep)[es.size]?=none:=gA (by rw[(xE w S es ep).length_eq,aR];exact ak _);rw[lo,Option.map_none];dsimp only;refine ae (eT hI rfl (by simp) ?_);have wz:∀b o,b≠I->s.heap.get? b=some o->(s.heap.update I (Obj.mapFields (·.setIfInBounds 2 Value.none))).get? b=some o:=λb o nb e=>(bJ _ _ (bP nb)).trans e;refine AE (s:=s) (show A.in1.handled=none from hh) λh' e kp acm=>?_;obtain⟨o,ho,hc⟩:=acm;refine ae (fu (T:="StopIteration") (b:=true) ⟨o,ho,hc⟩ jt (ah (k _ ⟨λb o hb q=>kp b o (wz b o (λz=>hb (ay.mpr z)) q),rfl,rfl,rfl,ak _⟩)))
 self:=by intro i s Q E ⟨x,hI⟩ h;exact EZ ⟨_,hI,rfl⟩ h
def aay(hh:A.handled=none){S I T:Addr}(ne:S≠I)(nT:T≠I){ps:List Nat}(hp:ps.Perm (List.range es.size)):
  WalksS prog w A I [I,S,T] [I] (λa b=>b=a) es.size (λi v=>((ps.filterMap (es[·]?)).map (·.2))[i]?=some v) (λi s=>Sat w s.heap S es ep t/\s.heap.get? I=some (kS (.ref T) i S es.size ep)/\s.heap.get? T=some {cls:=.type "tuple",data:=.seq (ps.map λ(i:Nat)=>rawInt i).toArray}) where
 sub:=λb hb=>by rw[ay.mp hb];exact aA
 grefl:=λ_=>rfl
 gtrans:=λ_ _ _ h1 h2=>h2.trans h1
 frame:=λi s h' tk st _ hk=>⟨st.1.keep λo e=>hk S (by simp) o e,hk I (by simp) _ st.2.1,hk T (by simp) _ st.2.2⟩
 item:=by
  intro i s Q E hi ⟨x,hI,Ur⟩ k;have hT:s.TypeIs (.ref I) "set_iterator":=⟨_,hI,rfl⟩;unfold pyNext;refine ae (dt (wpAny_callSpecial?_slot (name:=Str.ofString "__next__") hT eA (bC eA hT mh ?_ (ny _))));unfold Builtin.«set_iterator.__next__» slotArgs;simp only[k8,dv,bh,bX,cS,g7];refine ae (ae (ah (ah ?_)));refine ae (ic hI rfl ?_);dsimp only;refine ae ?_;unfold setEntries;refine ae (x.state (ah ?_));dsimp only;rw[ax (by simp)];simp only[cN];refine ae (bS Ur rfl ?_);have lp:ps.length=es.size:=by rw[hp.length_eq,iZ]
  have li:i<ps.length:=by lia
  have lpi:ps[i]<es.size:=dc.mp (hp.mem_iff.mp (jH li));have e1:((ps.map λ(i:Nat)=>rawInt i).toArray)[i]?=some (.int (ps[i]:Nat) 0):=by simp[li,rawInt]
  dsimp only;rw[e1];dsimp only;refine ae ?_;unfold setNextDrawn;refine ae (x.state ?_);dsimp only;rw[ax (by simp)];simp only[cN];rw[bz lpi];refine ah ?_;refine ae (eT hI rfl (by simp) ?_);have K1:=tF (i:=1) (x:=rawInt ((i:Int)+1)) hI;refine ah ⟨_,rfl,ah ?_⟩;have wz:∀b o,b≠I->s.heap.get? b=some o->(s.heap.update I (Obj.mapFields (·.setIfInBounds 1 (rawInt ((i:Int)+1))))).get? b=some o:=λb o nb e=>(bJ _ _ (bP nb)).trans e;refine k _ _ ?_ ⟨x.keep λo e=>wz S o ne e,K1,wz T _ nT Ur⟩ ⟨λb o hb e=>wz b o (λz=>hb (ay.mpr z)) e,rfl,rfl,rfl,ak _⟩;have all:∀(l:List Nat),(∀p∈l,p<es.size)->∀j:Nat,(l.filterMap (es[·]?))[j]?=(l[j]?).bind (es[·]?):=by
   intro l
   induction l with
   |nil=>intro _ j;simp
   |cons p l ih=>
    intro hl j;have lp:=hl p aA;rw[fW,bz lp];cases j with
    |zero=>simp[lp]
    |succ j=>
     simp only[nQ];exact ih (λq hq=>hl q (aD _ hq)) j
  rw[aJ,all ps (λp hq=>dc.mp (hp.mem_iff.mp hq)) i,ar li];simp[lpi]
 done:=by
  intro s Q E ⟨x,hI,Ur⟩ k;have hT:s.TypeIs (.ref I) "set_iterator":=⟨_,hI,rfl⟩;unfold pyNext;refine ae (dt (wpAny_callSpecial?_slot (name:=Str.ofString "__next__") hT eA (bC eA hT mh ?_ (ny _))));unfold Builtin.«set_iterator.__next__» slotArgs;simp only[k8,dv,bh,bX,cS,g7];refine ae (ae (ah (ah ?_)));refine ae (ic hI rfl ?_);dsimp only;refine ae ?_;unfold setEntries;refine ae (x.state (ah ?_));dsimp only;rw[ax (by simp)];simp only[cN];refine ae (bS Ur rfl ?_);have lp:ps.length=es.size:=by rw[hp.length_eq,iZ]
  have e1:((ps.map λ(i:Nat)=>rawInt i).toArray)[es.size]?=none:=by simp[lp]
  dsimp only;rw[e1];dsimp only;refine ae (eT hI rfl (by simp) ?_);have K1:=tF (i:=0) (x:=rawInt 0) hI;refine ae (eT K1 rfl (by simp) ?_);have wz:∀b o,b≠I->s.heap.get? b=some o->((s.heap.update I (Obj.mapFields (·.setIfInBounds 0 (rawInt 0)))).update I (Obj.mapFields (·.setIfInBounds 2 Value.none))).get? b=some o:=λb o nb e=>(bJ _ _ (bP nb)).trans ((bJ _ _ (bP nb)).trans e);refine AE (s:=s) (show A.in1.handled=none from hh) λh' e kp ack=>?_;obtain⟨o,ho,hc⟩:=ack;refine ae (fu (T:="StopIteration") (b:=true) ⟨o,ho,hc⟩ jt (ah (k _ ⟨λb o hb q=>kp b o (wz b o (λz=>hb (ay.mpr z)) q),rfl,rfl,rfl,ak _⟩)))
 self:=by intro i s Q E ⟨x,hI,_⟩ h;exact EZ ⟨_,hI,rfl⟩ h
def Iq(hT:s.TypeIs (.ref r) "set")(h:Q false s):wpAny (model prog w) A (Builtin.List.listLengthHint (.ref r)) Q E s:=by
 unfold Builtin.List.listLengthHint;refine ae (gK hT Vb ?_);generalize hid:("set.__len__":String)=id0
 wp_delta
 rw[show splitId id0=some ("set","__len__")from by subst hid;decide+kernel];subst hid;refine ae (fu (T:="set") (b:=true) hT (by rw[wK];kernel_rfl) ?_);refine lU (λZO=>absurd ZO (by decide)) (λ_=>?_);refine lU (λ_=>?_) (λZO=>absurd (by decide+kernel) ZO);refine ae (iw hT ?_);exact ah h
def UX{S:Addr}(x:Sat w s.heap S es ep t)(hn:es.size<=100000)
  (h1:(w.params.followText "set-order"=true\/(!t.plain&&decide (es.size>1))=false)->Q (.ref s.heap.objs.size) {s with heap:=s.heap.push (kS (.int 0 0) 0 S es.size ep)})
  (h2:∀(ps:List Nat) d,ps.Perm (List.range es.size)->Q (.ref (s.heap.objs.size+1)) {s with heap:=(s.heap.push {cls:=.type "tuple",data:=.seq (ps.map λ(i:Nat)=>rawInt i).toArray}).push (kS (.ref s.heap.objs.size) 0 S es.size ep),drawn:=d}):
  wpAny (model prog w) A (pyIter (.ref S)) Q E s:=by
 obtain⟨o,ho,hex,hd⟩:=x.ob;have hT:s.TypeIs (.ref S) "set":=⟨o,ho,hex.1⟩;refine nR hT F.slot_set_iter (bC F.slot_set_iter hT Ey ?_ (F.args_set_iter_1 _));unfold Builtin.«frozenset.__iter__» Builtin.Frozenset.slot0 slotArgs;simp only[k8,dv,bh,bX,cS,g7];refine ae (ae (ah (ah ?_)));refine ae ?_;unfold Builtin.Frozenset.sizeOf setEntries;refine ae (ae (x.state (ah (ah ?_))));dsimp only;refine ae ?_;unfold setDrawn;refine ae (x.state ?_);dsimp only;refine ae (yZ ?_);refine ah ?_;show wpAny (model prog w) _ (if(!w.params.followText "set-order"&&(!t.plain&&decide (es.size>1)))=true then _ else _) _ _ s;by_cases c:(!w.params.followText "set-order"&&(!t.plain&&decide (es.size>1)))=true
 ·rw[aB c];refine ae (JI es.size (List.range es.size) s (by simp) λps d hp=>?_);refine ae (m:=newTuple _) (cT ?_ (by show(ps.map _).toArray.size<=_;rw[aN,ag,hp.length_eq,iZ,cv];lia));have x2:Sat w (s.heap.push {cls:=.type "tuple",data:=.seq (ps.map λ(i:Nat)=>rawInt i).toArray}) S es ep t:=x.keep λo e=>af _ e;refine ae ?_;unfold setEpoch;refine ae (Sat.state (s:={s with heap:=s.heap.push {cls:=.type "tuple",data:=.seq (ps.map λ(i:Nat)=>rawInt i).toArray},drawn:=d}) x2 (ah ?_));refine ae (cT (ah ⟨_,rfl,"set_iterator",_,⟨_,aG _ rfl,rfl⟩,eA.lookup,?_⟩));have:=h2 ps d hp;show Q (.ref (s.heap.push {cls:=.type "tuple",data:=.seq (ps.map λ(i:Nat)=>rawInt i).toArray}).objs.size) _;rw[b6];exact this
 ·rw[ax c];refine ae (ah ?_);refine ae ?_;unfold setEpoch;refine ae (x.state (ah ?_));refine ae (cT (ah ⟨_,rfl,"set_iterator",_,⟨_,aG _ rfl,rfl⟩,eA.lookup,h1 ?_⟩));cases q:w.params.followText "set-order"with
  |true=>exact .inl rfl
  |false=>
   rw[q]at c;simp only[nG,f7]at c;exact .inr (g9.mpr c)
def Kk(l:List Value)(acc:Array Value)(ha:ItemsOf (λi v=>l[i]?=some v) acc l.length):acc.toList=l:=by
 refine tf λi=>?_;by_cases c:i<l.length
 ·have ci:i<acc.size:=by rw[ha.1];exact c
  have:=ha.2 i acc[i] (bz ci);rw[this,bD,bz ci]
 ·rw[gA (by rw[aR,ha.1];lia),gA (by lia)]
theorem NL{α:Type}:∀l:List α,(List.range l.length).filterMap (λi=>l[i]?)=l
 |[]=>rfl
 |x::l=>by rw[bH,vX,fW];show x::_=_;rw[Av];congr 1;exact NL l
def Mu{S L:Addr}(hh:A.handled=none)(x:Sat w s.heap S es ep t)(hn:es.size<=100000)(Kt:L≠S)(hL:s.heap.get? L=some {cls:=.type "list",data:=.seq #[] c₀})
  (hR:∀h' tk d acc c,(∀b o,b≠L->s.heap.get? b=some o->h'.get? b=some o)->h'.get? L=some {cls:=.type "list",dict:=none,data:=.seq acc c,slots:=#[]}->acc.toList.Perm (es.toList.map (·.2))->R (.ok (.ret res)) {s with heap:=h',toks:=tk,drawn:=d}):
  wpAny (model prog w) A.in1 (Builtin.List.listExtendWith (.ref L) (.ref S) res)
   (λfin s'=>match fin with| .done f=>R (.ok f) s'| .again c'=>c'.quiet=true/\codeAny (model prog w) A c' R s') (λe s'=>R (.error e) s') s:=by
 obtain⟨o,ho,hex,hd⟩:=x.ob;have hS:S<s.heap.objs.size:=aF ho;have ZY:L<s.heap.objs.size:=aF hL;have key:∀(I:Addr)(fp:List Addr)(P:Nat->Value->Prop)(St:Nat->Shared->Prop),WalksS prog w A.in1 I fp [I] (λa b=>b=a) es.size P St->s.heap.objs.size<=I->L∉fp->(∀acc:Array Value,ItemsOf P acc es.size->acc.toList.Perm (es.toList.map (·.2)))->
   ∀(h:Heap)(d:Drawn)(c₁ tk:Nat),(∀b o,b≠L->s.heap.get? b=some o->h.get? b=some o)->h.get? L=some {cls:=.type "list",data:=.seq #[] c₁}->St 0 {s with heap:=h,toks:=tk,drawn:=d}->
   codeAny (model prog w) A (.builtin "list.extend.loop" ⟨[.ref L,.ref I,res],[]⟩) R {s with heap:=h,toks:=tk,drawn:=d}:=by
  intro I fp P St W hI nf hP h d c₁ tk hk abi st;refine codeAny_extend_loopS W (by rw[cv];lia) _ nf _ es.size 0 _ _ _ rfl (aO _) st abi (ItemsOf.nil P) λs' sE c' hm oC ac4=>?_;obtain⟨h',g',d',CN,NW⟩:=s';have eg:g'=s.gens:=hm.gens;have ed:d'=d:=hm.drawn;have eo:NW=s.os:=hm.os;subst eg ed eo;refine hR h' CN d' sE c' (λb o hb e=>hm.heap b o ?_ (hk b o hb e)) oC (hP sE ac4);have lt:=aF e;intro q;rcases aI.mp q with q|q
  ·exact hb q
  ·rw[ay.mp q]at lt;exact absurd (bg lt hI) (df _)
 have tail:∀(I:Addr)(fp:List Addr)(P:Nat->Value->Prop)(St:Nat->Shared->Prop),WalksS prog w A.in1 I fp [I] (λa b=>b=a) es.size P St->s.heap.objs.size<=I->L∉fp->(∀acc:Array Value,ItemsOf P acc es.size->acc.toList.Perm (es.toList.map (·.2)))->
   ∀(h:Heap)(d:Drawn),(∀b o,s.heap.get? b=some o->h.get? b=some o)->St 0 {s with heap:=h,drawn:=d}->
   wpAny (model prog w) A.in1 (Builtin.List.listTouch (.ref L)>>=λ_=>again (.builtin "list.extend.loop" ⟨[.ref L,.ref I,res],[]⟩)) (λfin s'=>match fin with| .done f=>R (.ok f) s'| .again c'=>c'.quiet=true/\codeAny (model prog w) A c' R s') (λe s'=>R (.error e) s') {s with heap:=h,drawn:=d}:=by
  intro I fp P St W hI nf hP h d hk st;refine ae ?_;show wpAny _ A.in1 (updateSeq L (·.push .none)>>=λ_=>updateSeq L (·.pop)) _ _ _;have Ut:=hk _ _ hL;refine ae (iD (s:={s with heap:=h,drawn:=d}) Ut rfl ?_);have Us:=b7 (Obj.mapSeq (·.push Value.none)) Ut rfl;refine iD (s:={s with heap:=h.update L (Obj.mapSeq (·.push Value.none)),drawn:=d}) Us rfl ?_;have abh:=b7 (Obj.mapSeq (·.pop)) Us rfl;have wz:∀b o,b≠L->h.get? b=some o->((h.update L (Obj.mapSeq (·.push Value.none))).update L (Obj.mapSeq (·.pop))).get? b=some o:=
   λb o hb e=>(bJ _ _ (bP hb)).trans ((bJ _ _ (bP hb)).trans e)
  exact ah ⟨f6 qB _,key I fp P St W hI nf hP _ d _ s.toks (λb o hb e=>wz b o hb (hk b o e)) abh (W.frame 0 {s with heap:=h,drawn:=d} _ s.toks st (ak _) λb hb o e=>wz b o (λz=>nf (z▸hb)) e)⟩
 have hT:s.TypeIs (.ref S) "set":=⟨o,ho,hex.1⟩;have e1:Builtin.List.listSameRef (.ref L) (.ref S)=false:=by simp[Builtin.List.listSameRef,Kt]
 have e2:(Value.type "set"==Value.type "list")=false:=by decide
 have e3:(Value.type "set"==Value.type "tuple")=false:=by decide
 unfold Builtin.List.listExtendWith;refine ae (iw (T:="set") hT ?_);simp only[e1,e2,e3,yT,bh,bX];refine ae (UX x hn (λhc=>?_) λps d hp=>?_)
 ·have W:=aaz (prog:=prog) (A:=A.in1) (ep:=ep) (by simpa using hh) (aH hS) hc;have nf:L∉[s.heap.objs.size,S]:=λhb=>by
   rcases aI.mp hb with q|q
   ·exact absurd q (aH ZY)
   ·exact Kt (ay.mp q)
  have hP:∀acc:Array Value,ItemsOf (λi v=>((qZ w S es ep).map (·.2))[i]?=some v) acc es.size->acc.toList.Perm (es.toList.map (·.2)):=λacc ha=>by
   have lo:((qZ w S es ep).map (·.2)).length=es.size:=by rw[ag,(xE w S es ep).length_eq,aR]
   rw[<-lo]at ha;rw[Kk _ acc ha];exact(xE w S es ep).map _
  have kp:∀b o,s.heap.get? b=some o->(s.heap.push (kS (.int 0 0) 0 S es.size ep)).get? b=some o:=λb o e=>af _ e;have st:Sat w (s.heap.push (kS (.int 0 0) 0 S es.size ep)) S es ep t/\(s.heap.push (kS (.int 0 0) 0 S es.size ep)).get? s.heap.objs.size=some (kS (.int (vK w t 0) 0) 0 S es.size ep):=⟨x.keep λo e=>kp _ _ e,aG _ rfl⟩;refine ae (bR (Iq ⟨o,kp _ _ ho,hex.1⟩ ?_));refine lU (λ_=>?_) (λ_=>ah ⟨f6 qB _,key _ _ _ _ W (ak _) nf hP _ s.drawn c₀ s.toks (λb o _ e=>kp b o e) (kp _ _ hL) st⟩);exact ae (fg (tail _ _ _ _ W (ak _) nf hP _ s.drawn kp st))
 ·have nT:s.heap.objs.size≠s.heap.objs.size+1:=aH (dw _);have W:=aay (prog:=prog) (w:=w) (A:=A.in1) (S:=S) (I:=s.heap.objs.size+1) (T:=s.heap.objs.size) (ep:=ep) (t:=t) (by simpa using hh) (aH (dD hS)) nT hp;have nf:L∉[s.heap.objs.size+1,S,s.heap.objs.size]:=λhb=>by
   rcases aI.mp hb with q|q
   ·exact absurd q (aH (dD ZY))
   ·rcases aI.mp q with q|q
    ·exact Kt q
    ·exact absurd (ay.mp q) (aH ZY)
  have hP:∀acc:Array Value,ItemsOf (λi v=>((ps.filterMap (es[·]?)).map (·.2))[i]?=some v) acc es.size->acc.toList.Perm (es.toList.map (·.2)):=λacc ha=>by
   have hl:(ps.filterMap (es[·]?)).Perm es.toList:=by
    have:=hp.filterMap (es.toList[·]?);rw[<-aR]at this;have e4:(ps.filterMap (es[·]?))=ps.filterMap (es.toList[·]?):=by simp
    rw[e4];rwa [NL]at this
   have lo:((ps.filterMap (es[·]?)).map (·.2)).length=es.size:=by rw[ag,hl.length_eq,aR]
   rw[<-lo]at ha;rw[Kk _ acc ha];exact hl.map _
  generalize Dw:(s.heap.push {cls:=.type "tuple",data:=.seq (ps.map λ(i:Nat)=>rawInt i).toArray}).push (kS (.ref s.heap.objs.size) 0 S es.size ep)=vv;have kp:∀b o,s.heap.get? b=some o->vv.get? b=some o:=λb o e=>by rw[<-Dw];exact af _ (af _ e)
  have gI:vv.get? (s.heap.objs.size+1)=some (kS (.ref s.heap.objs.size) 0 S es.size ep):=by have:=aG (s.heap.push {cls:=.type "tuple",data:=.seq (ps.map λ(i:Nat)=>rawInt i).toArray}) (o:=kS (.ref s.heap.objs.size) 0 S es.size ep) rfl;rw[b6]at this;rw[<-Dw];exact this
  have gT:vv.get? s.heap.objs.size=some {cls:=.type "tuple",data:=.seq (ps.map λ(i:Nat)=>rawInt i).toArray}:=by rw[<-Dw];exact af _ (aG _ rfl)
  have st:Sat w vv S es ep t/\vv.get? (s.heap.objs.size+1)=some (kS (.ref s.heap.objs.size) 0 S es.size ep)/\vv.get? s.heap.objs.size=some {cls:=.type "tuple",data:=.seq (ps.map λ(i:Nat)=>rawInt i).toArray}:=⟨x.keep λo e=>kp _ _ e,gI,gT⟩;refine ae (bR (Iq ⟨o,kp _ _ ho,hex.1⟩ ?_));refine lU (λ_=>?_) (λ_=>ah ⟨f6 qB _,key _ _ _ _ W (eG _) nf hP vv d c₀ s.toks (λb o _ e=>kp b o e) (kp _ _ hL) st⟩);exact ae (fg (tail _ _ _ _ W (eG _) nf hP vv d kp st))
def Jx{S:Addr}(hh:A.handled=none)(x:Sat w s.heap S es ep t)(hn:es.size<=100000)
  (h:∀h' tk d vs,vs.Perm (es.toList.map (·.2))->(∀b o,s.heap.get? b=some o->h'.get? b=some o)->R vs {s with heap:=h',toks:=tk,drawn:=d}):wpAny (model prog w) A (collect (.ref S)) R E s:=by
 obtain⟨o,ho,hex,hd⟩:=x.ob;have hS:S<s.heap.objs.size:=aF ho;unfold collect;refine ae (wpAny_runValue (cZ F.entry_proto_collect ?_));rw[fL F.plain_proto_collect _];show wpAny _ A.in1 (newList []>>=λl=>again (.builtin "list.__iadd__" ⟨[l,.ref S],[]⟩)) _ _ s;refine ae (cT ?_);refine ah ⟨f6 A8 _,cZ F.entry_list_iadd ?_⟩;rw[fL A8 _];show wpAny _ A.in1 (Builtin.List.listExtendWith (.ref s.heap.objs.size) (.ref S) (.ref s.heap.objs.size)) _ _ _;have k1:∀b o,s.heap.get? b=some o->(s.heap.push {cls:=.type "list",data:=.seq ([]:List Value).toArray}).get? b=some o:=λb o e=>af _ e;have hL:(s.heap.push {cls:=.type "list",data:=.seq ([]:List Value).toArray}).get? s.heap.objs.size=some {cls:=.type "list",data:=.seq #[]}:=aG _ rfl;have key:=Mu (prog:=prog) (A:=A) (s:={s with heap:=s.heap.push {cls:=.type "list",data:=.seq ([]:List Value).toArray}}) (res:=.ref s.heap.objs.size)
  (R:=λ(q:Result)(s':Shared)=>∃(h':Heap)(tk:Nat)(d:Drawn)(sE:Array Value)(c':Nat),q=.ok (.ret (.ref s.heap.objs.size))/\s'={s with heap:=h',toks:=tk,drawn:=d}/\
   (∀b o,s.heap.get? b=some o->h'.get? b=some o)/\h'.get? s.heap.objs.size=some {cls:=.type "list",dict:=none,data:=.seq sE c',slots:=#[]}/\sE.toList.Perm (es.toList.map (·.2)))
  hh (x.keep λo e=>k1 _ _ e) hn (bx hS) hL λh' tk d acc c kp g pm=>⟨h',tk,d,acc,c,rfl,rfl,λb o e=>kp b o (aH (aF e)) (k1 _ _ e),g,pm⟩
 refine cR key (λfin s' x=>?_) λe s' x=>?_
 ·cases fin with
  |done f=>
   obtain⟨h',tk,d,sE,c',e,rfl,hk,oC,pm⟩:=x;cases e;show wpAny _ A (load s.heap.objs.size>>=_) _ _ _;refine ae (CJ oC ?_);exact ah (h h' tk d sE.toList pm hk)
  |again c₁=>
   refine⟨x.1,kK x.2 λq aae y=>?_⟩;obtain⟨h',tk,d,sE,c',rfl,rfl,hk,oC,pm⟩:=y;show wpAny _ A (load s.heap.objs.size>>=_) _ _ _;refine ae (CJ oC ?_);exact ah (h h' tk d sE.toList pm hk)
 ·obtain⟨_,_,_,_,_,e',_⟩:=x;cases e'
end
end Tb
namespace Lg
open PySem PyProof.Rows
def AQ:Bool->Keyed->Array Keyed->Nat->Nat->Nat->StateT SortSt Sem (Option Nat):=sortPriv% PySem.Builtin.gallop
def Hw:Array Keyed->Array Keyed->StateT SortSt Sem (Array Keyed):=sortPriv% PySem.Builtin.mergeLo
def Hx:Array Keyed->Array Keyed->StateT SortSt Sem (Array Keyed):=sortPriv% PySem.Builtin.mergeHi
structure Ct where
 prog:Program
 w:World
 A:Around
 J:Shared->Prop
 κ:SortKind
 rk:Keyed->Nat
 In:Keyed->Prop
 lt:∀x y,In x->In y->∀s,J s->wpAny (model prog w) A (keyLt' κ x.1 y.1) (λb s'=>b=decide (rk x<rk y)/\J s') (λ_ _=>False) s
variable{C:Ct}
def W(C:Ct)(m:StateT SortSt Sem α)(Q:α->SortSt->Prop)(st:SortSt):Prop:=
 ∀s,C.J s->wpAny (model C.prog C.w) C.A (m.run st) (λr s'=>C.J s'/\Q r.1 r.2) (λ_ _=>False) s
section
variable{α β:Type}{Q:α->SortSt->Prop}{st:SortSt}
def W.pure(h:Q a st):W C (pure a) Q st:=λs j=>by rw[StateT.run_pure];exact ah ⟨j,h⟩
def W.bind(h:W C m (λb gM=>W C (f b) Q gM) st):W C (m>>=f) Q st:=λs j=>by rw[StateT.run_bind];exact ae (cR (h s j) (λr s' x=>x.2 s' x.1) λ_ _ e=>e)
def W.mono(h:W C m Q' st)(k:∀a gM,Q' a gM->Q a gM):W C m Q st:=λs j=>
 cR (h s j) (λr s' x=>⟨x.1,k _ _ x.2⟩) λ_ _ e=>e
def W.get{Q:SortSt->SortSt->Prop}(h:Q st st):W C (get:StateT SortSt Sem SortSt) Q st:=λs j=>by rw[StateT.run_get];exact ah ⟨j,h⟩
def W.modify{Q:PUnit->SortSt->Prop}(h:Q ⟨⟩ (f st)):W C (modify f:StateT SortSt Sem PUnit) Q st:=λs j=>by rw[StateT.run_modify];exact ah ⟨j,h⟩
def W.rl{Q:PUnit->SortSt->Prop}(h:Q ⟨⟩ st):W C (liftM (PySem.rule r:Sem PUnit):StateT SortSt Sem PUnit) Q st:=λs j=>by show wpAny _ _ ((StateT.lift (PySem.rule r:Sem PUnit):StateT SortSt Sem PUnit).run st) _ _ s;rw[StateT.run_lift];exact ae (fg (ah ⟨j,h⟩))
def W.lt{Q:Option Bool->SortSt->Prop}(hk:kindOf st=C.κ)(hx:C.In x)(hy:C.In y)(h:Q (some (decide (C.rk x<C.rk y))) st):W C (lt' x y) Q st:=by rw[lt'_eq];refine W.bind (W.get ?_);rw[hk];refine W.bind λs j=>?_;show wpAny _ _ ((StateT.lift _:StateT SortSt Sem _).run st) _ _ s;rw[StateT.run_lift];refine ae (dt (cR (C.lt x y hx hy s j) (λb s' q=>?_) λ_ _ e=>e.elim));obtain⟨rfl,j'⟩:=q;exact ah ⟨j',W.pure h⟩
def W.elem{Q:Keyed->SortSt->Prop}(hi:i<a.size)(h:Q a[i] st):W C (elem' a i) Q st:=by rw[elem'_eq,getElem?_pos a i hi];exact W.pure h
def W.for(I:Nat->β->SortSt->Prop){Q:β->SortSt->Prop}
  (hs:∀i c st,a<=i->i<b->I i c st->W C (f i c) (λr gM=>match r with| .done c'=>Q c' gM| .yield c'=>I (i+1) c' gM) st)
  (he:∀c st,I (max a b) c st->Q c st) (h:I a c st):W C (forIn [a:b] c f) Q st:=by
 rw[lQ];have hsz:([a:b]:Std.Legacy.Range).size=b -a:=by simp[Std.Legacy.Range.size]
 show W C (forIn (List.range' a ([a:b]:Std.Legacy.Range).size 1) c f) Q st;rw[hsz]
 suffices go:∀n i c st,a<=i->i+n=max a b->I i c st->W C (forIn (List.range' i n 1) c f) Q st from go (b -a) a c st (ak _) (by lia) h
 intro n
 induction n with
 |zero=>
  intro i c st _ e h;rw[List.range'_zero,ju];rw[show i=max a b by lia]at h;exact W.pure (he _ _ h)
 |succ n ih=>
  intro i c st ha e h;rw[List.range'_succ,fV];refine W.bind (W.mono (hs i c st ha (by lia) h) λr gM x=>?_);cases r with
  |done c'=>exact W.pure x
  |yield c'=>exact ih (i+1) c' gM (by lia) (by lia) x
end
variable{C:Ct}
def DR(C:Ct)(left:Bool)(key x:Keyed):Bool:=if left then decide (C.rk x<C.rk key)else !decide (C.rk key<C.rk x)
def aaB{st:SortSt}(hk:kindOf st=C.κ)(nV:C.In key)(hi:i<arr.size)(gG:C.In arr[i])(h:Q (some (DR C left key arr[i])) st):W C (do
  let x<-elem' arr i
  if left=true then lt' x key else do
   let r<-lt' key x
   pure (r.map (!·))) Q st:=by
 refine W.bind (W.elem hi ?_);unfold DR at h;cases left with
 |true=>exact W.lt hk gG nV h
 |false=>exact W.bind (W.lt hk nV gG (W.pure h))
def gB(C:Ct)(left:Bool)(key:Keyed)(arr:Array Keyed)(i:Nat):Bool:=(arr[i]?).elim false (DR C left key)
def Gg{st:SortSt}(hk:kindOf st=C.κ)(nV:C.In key)(gG:∀x∈arr,C.In x)(hb:base+n<=arr.size)(hh:hint<n)
  (mono:∀i j,i<=j->j<n->gB C left key arr (base+j)=true->gB C left key arr (base+i)=true)
  (h:∀k,k<=n->(∀i,i<k->gB C left key arr (base+i)=true)->(∀i,k<=i->i<n->gB C left key arr (base+i)=false)->Q (some k) st):W C (AQ left key arr base n hint) Q st:=by
 have bb:∀{i:Nat}{Q:Option Bool->SortSt->Prop}(q:i<n),Q (some (gB C left key arr (base+i))) st->W C (do
  let x<-elem' arr (base+i)
  if left=true then lt' x key else do
   let r<-lt' key x
   pure (r.map (!·))) Q st:=λ{i Q} q x=>aaB hk nV (by lia) (gG _ (cP (by lia))) (by
    unfold gB at x;rw[getElem?_pos arr (base+i) (by lia)]at x;exact x)
 have nm:∀i j,i<=j->j<n->gB C left key arr (base+i)=false->gB C left key arr (base+j)=false:=λi j h1 h2 e=>by
  cases e2:gB C left key arr (base+j)with
  |false=>rfl
  |true=>rw[mono i j h1 h2 e2]at e;cases e
 generalize gB C left key arr=B at mono h bb nm;unfold AQ;refine W.bind (bb hh ?_);have fin:∀{lo hi:Nat},lo<=hi->hi<=n->(∀i,i<lo->B (base+i)=true)->(∀i,hi<=i->i<n->B (base+i)=false)->∀{f:Nat->Option (Option Nat)×Nat×Nat->StateT SortSt Sem (ForInStep (Option (Option Nat)×Nat×Nat))}{g:Option (Option Nat)×Nat×Nat->StateT SortSt Sem (Option Nat)},
   (∀x lo hi(P:ForInStep (Option (Option Nat)×Nat×Nat)->SortSt->Prop),lo<=hi->hi<=n->(lo≥hi->P (.done (none,lo,hi)) st)->(lo<hi->(B (base+(lo+(hi -lo)/2))=true->P (.yield (none,lo+(hi -lo)/2+1,hi)) st)/\(B (base+(lo+(hi -lo)/2))=false->P (.yield (none,lo,lo+(hi -lo)/2)) st))->W C (f x (none,lo,hi)) P st)->
   (∀lo hi,W C (pure (some hi)) Q st->W C (g (none,lo,hi)) Q st)->W C (forIn [0:n] (none,lo,hi) f>>=g) Q st:=by
  intro lo hi h1 h2 h3 h4 f g hf hg;refine W.bind (W.mono (W.for (I:=λx c s'=>s'=st/\∃lo hi,c=(none,lo,hi)/\lo<=hi/\hi<=n/\hi -lo<=n -x/\(∀i,i<lo->B (base+i)=true)/\(∀i,hi<=i->i<n->B (base+i)=false))
   (Q:=λc s'=>s'=st/\∃hi,c=(none,hi,hi)/\hi<=n/\(∀i,i<hi->B (base+i)=true)/\(∀i,hi<=i->i<n->B (base+i)=false)) ?_ ?_ ⟨rfl,lo,hi,rfl,h1,h2,by lia,h3,h4⟩) ?_)
  ·rintro x c s' _ hx ⟨rfl,lo,hi,rfl,a1,a2,a3,a4,a5⟩;exact hf x lo hi _ a1 a2 (λq=>⟨rfl,hi,by rw[show lo=hi by lia],a2,λi q=>a4 i (by lia),a5⟩) λq=>⟨λe=>⟨rfl,_,_,rfl,by lia,a2,by lia,λi q=>mono i _ (by lia) (by lia) e,a5⟩,λe=>⟨rfl,_,_,rfl,by lia,by lia,by lia,a4,λi q z=>nm _ i q z e⟩⟩
  ·rintro c s' ⟨rfl,lo,hi,rfl,a1,a2,a3,a4,a5⟩;have:lo=hi:=by lia
   subst this;exact⟨rfl,_,rfl,a2,a4,a5⟩
  ·rintro c s' ⟨rfl,hi,rfl,a2,a4,a5⟩;exact hg _ _ (W.pure (h hi a2 a4 a5))
 cases e0:B (base+hint)with
 |true=>
  refine W.bind (W.mono (W.for (I:=λx c s'=>s'=st/\∃l o,c=(none,l,o)/\l<o/\x<=l/\hint+l<n/\B (base+(hint+l))=true)
   (Q:=λc s'=>s'=st/\∃l o,c=(none,l,o)/\l<o/\hint+l<n/\B (base+(hint+l))=true/\(n -hint<=o\/B (base+(hint+o))=false)) ?_ ?_ ⟨rfl,0,1,rfl,by lia,by lia,by lia,e0⟩) ?_)
  ·rintro x c s' _ hx ⟨rfl,l,o,rfl,a1,a2,a3,a4⟩;by_cases c:o≥n -hint
   ·dsimp only;rw[aB c];exact W.pure ⟨rfl,l,o,rfl,a1,a3,a4,.inl c⟩
   ·dsimp only;rw[ax c];refine W.bind (bb (by lia) ?_);cases e1:B (base+(hint+o))with
    |true=>exact W.pure ⟨rfl,o,2*o+1,rfl,by lia,by lia,by lia,e1⟩
    |false=>exact W.pure ⟨rfl,l,o,rfl,a1,a3,a4,.inr e1⟩
  ·rintro c s' ⟨rfl,l,o,rfl,a1,a2,a3,a4⟩;lia
  ·rintro c s' ⟨rfl,l,o,rfl,a1,a3,a4,a5⟩;refine fin (lo:=hint+l+1) (hi:=hint+min o (n -hint)) (by lia) (by lia) (λi q=>mono i _ (by lia) a3 a4) (λi q z=>?_) (λx lo hi P a1 a2 p1 p2=>?_) λlo hi x=>x
   ·rcases a5 with a5|a5
    ·lia
    ·exact nm _ i (by lia) z a5
   ·by_cases c:lo≥hi
    ·dsimp only;rw[aB c];exact W.pure (p1 c)
    ·dsimp only;rw[ax c];refine W.bind (bb (by lia) ?_);cases e1:B (base+(lo+(hi -lo)/2))with
     |true=>exact W.pure ((p2 (by lia)).1 e1)
     |false=>exact W.pure ((p2 (by lia)).2 e1)
 |false=>
  refine W.bind (W.mono (W.for (I:=λx c s'=>s'=st/\∃l o,c=(none,l,o)/\l<o/\x<=l/\l<=hint/\B (base+(hint -l))=false)
   (Q:=λc s'=>s'=st/\∃l o,c=(none,l,o)/\l<o/\l<=hint/\B (base+(hint -l))=false/\(hint+1<=o\/B (base+(hint -o))=true)) ?_ ?_ ⟨rfl,0,1,rfl,by lia,by lia,by lia,e0⟩) ?_)
  ·rintro x c s' _ hx ⟨rfl,l,o,rfl,a1,a2,a3,a4⟩;by_cases c:o≥hint+1
   ·dsimp only;rw[aB c];exact W.pure ⟨rfl,l,o,rfl,a1,a3,a4,.inl c⟩
   ·dsimp only;rw[ax c];refine W.bind (bb (by lia) ?_);cases e1:B (base+(hint -o))with
    |true=>exact W.pure ⟨rfl,l,o,rfl,a1,a3,a4,.inr e1⟩
    |false=>exact W.pure ⟨rfl,o,2*o+1,rfl,by lia,by lia,by lia,e1⟩
  ·rintro c s' ⟨rfl,l,o,rfl,a1,a2,a3,a4⟩;lia
  ·rintro c s' ⟨rfl,l,o,rfl,a1,a3,a4,a5⟩;refine fin (lo:=hint+1 -min o (hint+1)) (hi:=hint -l) (by lia) (by lia) (λi q=>?_) (λi q z=>nm _ i (by lia) z a4) (λx lo hi P a1 a2 p1 p2=>?_) λlo hi x=>x
   ·rcases a5 with a5|a5
    ·lia
    ·exact mono i _ (by lia) (by lia) a5
   ·by_cases c:lo≥hi
    ·dsimp only;rw[aB c];exact W.pure (p1 c)
    ·dsimp only;rw[ax c];refine W.bind (bb (by lia) ?_);cases e1:B (base+(lo+(hi -lo)/2))with
     |true=>exact W.pure ((p2 (by lia)).1 e1)
     |false=>exact W.pure ((p2 (by lia)).2 e1)
section
variable{α:Type}{r:α->α->Prop}{la lb out:List α}{ia ib:Nat}
structure Mg(r:α->α->Prop)(la lb out:List α)(ia ib:Nat):Prop where
 pm:out.Perm (la.take ia++lb.take ib)
 so:out.Pairwise r
 ga:∀x∈out,∀y∈la.drop ia,r x y
 gb:∀x∈out,∀y∈lb.drop ib,r x y
def Mg.swap(h:Mg r la lb out ia ib):Mg r lb la out ib ia:=⟨h.pm.trans iO,h.so,h.gb,h.ga⟩
def Mg.go(h:Mg r la lb out ia ib)(hs:la.Pairwise r)(k:Nat)(c:∀x∈(la.drop ia).take k,∀y∈lb.drop ib,r x y):Mg r la lb (out++(la.drop ia).take k) (ia+k) ib:=by
 have e:=c8 k (la.drop ia);have s2:=hs.sublist (tm ia la);rw[<-e]at s2;obtain⟨s3,s4,s5⟩:=ji.mp s2;rw[List.drop_drop]at s5;have m:∀y∈(la.drop ia).take k,y∈la.drop ia:=λy hy=>jj hy;have m2:∀y∈la.drop (ia+k),y∈la.drop ia:=λy hy=>by rw[<-List.drop_drop]at hy;exact yp hy
 refine⟨?_,ji.mpr ⟨h.so,s3,λx hx y hy=>h.ga x hx y (m y hy)⟩,λx hx y hy=>?_,λx hx y hy=>?_⟩
 ·rw[List.take_add];refine(h.pm.append_right _).trans ?_;rw[b9,b9];exact pj _ iO
 ·rcases bf.mp hx with hx|hx
  ·exact h.ga x hx y (m2 y hy)
  ·exact s5 x hx y hy
 ·rcases bf.mp hx with hx|hx
  ·exact h.gb x hx y hy
  ·exact c x hx y hy
def Mg.end(h:Mg r la lb out ia ib)(ha:la.Pairwise r)(hb:lb.Pairwise r)(c:∀x∈la.drop ia,∀y∈lb.drop ib,r x y):(out++la.drop ia++lb.drop ib).Perm (la++lb)/\(out++la.drop ia++lb.drop ib).Pairwise r:=by
 constructor
 ·rw[b9];refine(h.pm.append_right _).trans ?_
  conv=>rhs;rw[<-c8 ia la,<-c8 ib lb]
  rw[b9,b9];refine pj _ ?_;rw[<-b9,<-b9];exact v7 _ iO
 ·refine ji.mpr ⟨ji.mpr ⟨h.so,ha.sublist (tm _ _),h.ga⟩,hb.sublist (tm _ _),λx hx y hy=>?_⟩;rcases bf.mp hx with hx|hx
  ·exact h.gb x hx y hy
  ·exact c x hx y hy
end
variable{C:Ct}
def Res(C:Ct)(a b m:Array Keyed):Prop:=m.toList.Perm (a.toList++b.toList)/\m.toList.Pairwise λx y=>C.rk x<=C.rk y
abbrev So(C:Ct)(a:Array Keyed):Prop:=a.toList.Pairwise λx y=>C.rk x<=C.rk y
abbrev Rk(C:Ct)(x y:Keyed):Prop:=C.rk x<=C.rk y
def So.at(h:So C a)(hj:j<a.size)(q:i<=j):C.rk (a[i]'(by lia))<=C.rk a[j]:=by
 rcases Nat.lt_or_ge i j with z|z
 ·exact dU.mp h i j (by simpa using(by lia:i<a.size)) (by simpa using hj) z
 ·have:i=j:=by lia
  subst this;exact ak _
def zG{a:Array Keyed}(h:x∈a.toList.drop n):∃i,∃q:i<a.size,n<=i/\x=a[i]:=by obtain⟨i,hi,e⟩:=dN.mp h;rw[jG,aR]at hi;exact⟨n+i,by lia,by lia,by rw[<-e];simp⟩
def Oo{a:Array Keyed}(h:x∈(a.toList.drop n).take k):∃i,∃q:i<a.size,n<=i/\i<n+k/\x=a[i]:=by obtain⟨i,hi,e⟩:=dN.mp h;rw[aS,jG,aR]at hi;exact⟨n+i,by lia,by lia,by lia,by rw[<-e];simp⟩
section
variable{a b:Array Keyed}{out:List Keyed}{ia ib:Nat}
def Mg.on(m:Mg (Rk C) a.toList b.toList out ia ib)(sa:So C a)(k v:Nat)(hx:∀i,ia<=i->i<ia+k->(q:i<a.size)->C.rk a[i]<=v)(hy:∀j,ib<=j->(q:j<b.size)->v<=C.rk b[j]):Mg (Rk C) a.toList b.toList (out++(a.toList.drop ia).take k) (ia+k) ib:=
 m.go sa k λx wM y Fm=>by obtain⟨i,q,h1,h2,rfl⟩:=Oo wM;obtain⟨j,z,h3,rfl⟩:=zG Fm;exact aE (hx i h1 h2 q) (hy j h3 z)
def N4(h:ia<a.size):(a.toList.drop ia).take 1=[a[ia]]:=by rw[jl (by simpa using h)];simp
structure MI(C:Ct)(a b out:Array Keyed)(ia ib:Nat):Prop where
 mg:Mg (Rk C) a.toList b.toList out.toList ia ib
 la:ia+1<a.size
 lb:ib<b.size
end
section
variable{a b out:Array Keyed}{ia ib:Nat}
def AI(m:Mg (Rk C) a.toList b.toList out.toList ia ib)(sa:So C a)(sb:So C b)(q:ia<a.size)(c:∀z:ib<b.size,C.rk a[ia]<=C.rk b[ib]):Mg (Rk C) a.toList b.toList (out.push a[ia]).toList (ia+1) ib:=by have:=m.on sa 1 (C.rk a[ia]) (λi h1 h2 z=>sa.at q (by lia)) λj h1 z=>aE (c (by lia)) (sb.at z h1);rw[N4 q]at this;simpa using this
def F3(m:Mg (Rk C) a.toList b.toList out.toList ia ib)(sa:So C a)(sb:So C b)(q:ib<b.size)(c:∀z:ia<a.size,C.rk b[ib]<=C.rk a[ia]):Mg (Rk C) a.toList b.toList (out.push b[ib]).toList ia (ib+1):=(AI m.swap sb sa q c).swap
def Mw:(out++a.extract n (n+k)).toList=out.toList++(a.toList.drop n).take k:=by simp[List.extract_eq_drop_take]
def xV(m:Mg (Rk C) a.toList b.toList out.toList ia ib)(sa:So C a)(sb:So C b)(c:ib=b.size\/ia=a.size):Res C a b (out++a.extract ia a.size++b.extract ib b.size):=by
 have:=m.end sa sb λx hx y hy=>by obtain⟨i,q,h1,rfl⟩:=zG hx;obtain⟨j,z,h2,rfl⟩:=zG hy;lia
 unfold Res;simpa[List.extract_eq_drop_take,cw]using this
def xW(m:Mg (Rk C) a.toList b.toList out.toList ia ib)(sa:So C a)(sb:So C b)(c:ia+1=a.size)(hl:∀y∈b,C.rk y<C.rk (a[a.size -1]'(by lia))):Res C a b (out++b.extract ib b.size++a.extract ia a.size):=by
 have:=m.swap.end sb sa λx hx y hy=>by
  obtain⟨i,q,h1,rfl⟩:=zG hx;obtain⟨j,z,h2,rfl⟩:=zG hy;have:=hl _ (cP q);have e:j=a.size -1:=by lia
  subst e;lia
 unfold Res;refine⟨?_,?_⟩
 ·refine List.Perm.trans ?_ iO;simpa[List.extract_eq_drop_take,cw]using this.1
 ·simpa[List.extract_eq_drop_take,cw]using this.2
def DA(q:i<arr.size):gB C left key arr i=DR C left key arr[i]:=by unfold gB;rw[getElem?_pos arr i q];rfl
def K2(sg:∀i j,base<=i->(z:i<=j)->j<base+n->(q:j<arr.size)->C.rk (arr[i]'(by lia))<=C.rk arr[j])(hb:base+n<=arr.size):∀i j,i<=j->j<n->gB C left key arr (base+j)=true->gB C left key arr (base+i)=true:=λi j h1 h2 e=>by
 rw[DA (by lia)]at e⊢;have:=sg (base+i) (base+j) (by lia) (by lia) (by lia) (by lia);unfold DR at e⊢;cases left
 ·simp at e⊢;lia
 ·simp at e⊢;lia
def D6{st:SortSt}(hk:kindOf st=C.κ)(nV:C.In key)(gG:∀x∈arr,C.In x)(sg:∀i j,base<=i->(z:i<=j)->j<base+n->(q:j<arr.size)->C.rk (arr[i]'(by lia))<=C.rk arr[j])(hb:base+n<=arr.size)(hh:hint<n)
  (h:∀k,k<=n->(∀i,base<=i->i<base+k->(q:i<arr.size)->C.rk arr[i]<=C.rk key)->(∀i,base+k<=i->i<base+n->(q:i<arr.size)->C.rk key<C.rk arr[i])->Q (some k) st):W C (AQ false key arr base n hint) Q st:=
 Gg hk nV gG hb hh (K2 sg hb) λk hk a1 a2=>h k hk (λi q1 q2 q=>by
  have:=a1 (i -base) (by lia);rw[show base+(i -base)=i by lia,DA q]at this;unfold DR at this;simpa using this) λi q1 q2 q=>by
  have:=a2 (i -base) (by lia) (by lia);rw[show base+(i -base)=i by lia,DA q]at this;unfold DR at this;simpa using this
def w_left{st:SortSt}(hk:kindOf st=C.κ)(nV:C.In key)(gG:∀x∈arr,C.In x)(sg:∀i j,base<=i->(z:i<=j)->j<base+n->(q:j<arr.size)->C.rk (arr[i]'(by lia))<=C.rk arr[j])(hb:base+n<=arr.size)(hh:hint<n)
  (h:∀k,k<=n->(∀i,base<=i->i<base+k->(q:i<arr.size)->C.rk arr[i]<C.rk key)->(∀i,base+k<=i->i<base+n->(q:i<arr.size)->C.rk key<=C.rk arr[i])->Q (some k) st):W C (AQ true key arr base n hint) Q st:=
 Gg hk nV gG hb hh (K2 sg hb) λk hk a1 a2=>h k hk (λi q1 q2 q=>by
  have:=a1 (i -base) (by lia);rw[show base+(i -base)=i by lia,DA q]at this;unfold DR at this;simpa using this) λi q1 q2 q=>by
  have:=a2 (i -base) (by lia) (by lia);rw[show base+(i -base)=i by lia,DA q]at this;unfold DR at this;simpa using this
end
variable{C:Ct}
abbrev GS(st:SortSt)(g:Nat):SortSt:=SortSt.mk' (kindOf st) (arrOf st) (pendingOf st) g (failedOf st)
def W.ite[Decidable c]{x y:StateT SortSt Sem α}{Q:α->SortSt->Prop}{st:SortSt}(h1:c->W C x Q st)(h2:¬c->W C y Q st):W C (if c then x else y) Q st:=by
 by_cases h:c
 ·rw[aB h];exact h1 h
 ·rw[ax h];exact h2 h
def MZ{st:SortSt}(hk:kindOf st=C.κ)(ha:∀x∈a,C.In x)(hb:∀x∈b,C.In x)(sa:So C a)(sb:So C b)(a1:0<a.size)(b1:0<b.size)(h0:C.rk b[0]<C.rk a[0])(hl:∀y∈b,C.rk y<C.rk a[a.size -1])
  (h:∀m g,Res C a b m->Q m (GS st g)):W C (Hw a b) Q st:=by
 have sw:st=GS st (gallopOf st):=rfl;have HP:∀{i:Nat}(q:i<a.size),C.In a[i]:=λq=>ha _ (cP q);have OO:∀{i:Nat}(q:i<b.size),C.In b[i]:=λq=>hb _ (cP q);unfold Hw;refine W.bind (W.rl (W.bind (W.elem b1 ?_)));have m0:Mg (Rk C) a.toList b.toList (#[b[0]]:Array Keyed).toList 0 1:=by have:Mg (Rk C) a.toList b.toList (#[]:Array Keyed).toList 0 0:=⟨by simp,.nil,(λx hx=>by cases hx),(λx hx=>by cases hx)⟩;have:=F3 this sa sb b1 λz=>bu h0;simpa using this
 dsimp only;by_cases c1:1=b.size
 ·rw[aB (by simpa using c1)];refine W.pure ?_;rw[sw];exact h _ _ (xV m0 sa sb (.inl c1))
 rw[ax (by simpa using c1)];by_cases c2:0+1=a.size
 ·rw[aB (by simpa using c2)];refine W.pure ?_;rw[sw];exact h _ _ (xW m0 sa sb c2 hl)
 rw[ax (by simpa using c2)];refine W.bind (W.get (W.bind (W.mono (W.for (I:=λi c s'=>∃g out ia ib mg,s'=GS st g/\c=(none,out,ia,ib,mg)/\MI C a b out ia ib/\i+1<=ia+ib)
  (Q:=λc s'=>∃g out ia ib mg m,s'=GS st g/\c=(some m,out,ia,ib,mg)/\Res C a b m) ?_ ?_ ⟨gallopOf st,_,_,_,_,rfl,rfl,⟨m0,by lia,by lia⟩,by lia⟩) ?_)))
 ·rintro i c s' _ hi ⟨g,out,ia,ib,mg,rfl,rfl,M,n1⟩;dsimp only;refine W.bind (W.mono (W.for (I:=λx c s'=>∃out pQ pP ac bc,s'=GS st g/\c=(none,out,pQ,pP,ac,bc)/\MI C a b out pQ pP/\ia+ib+x<=pQ+pP)
   (Q:=λc s'=>∃r out pQ pP ac bc,s'=GS st g/\c=(r,out,pQ,pP,ac,bc)/\((∃m,r=some m/\Res C a b m)\/(r=none/\MI C a b out pQ pP/\ia+ib+1<=pQ+pP))) ?_ ?_ ⟨_,_,_,_,_,rfl,rfl,M,by lia⟩) ?_)
  ·rintro x c s' _ hx ⟨out,ia,ib,ac,bc,rfl,rfl,M,n2⟩;have l1:=M.la;have l2:=M.lb;dsimp only;refine W.bind (W.elem l2 (W.bind (W.elem (by lia) (W.bind (W.lt hk (OO l2) (HP (by lia)) ?_)))));by_cases e:C.rk b[ib]<C.rk a[ia]
   ·rw[aU e];dsimp only;rw[aB rfl];have m':=F3 M.mg sa sb l2 λz=>bu e;refine W.bind (W.elem l2 ?_);by_cases c:ib+1=b.size
    ·rw[aB (by simpa using c)];exact W.pure ⟨_,_,_,_,_,_,rfl,rfl,.inl ⟨_,rfl,xV m' sa sb (.inl c)⟩⟩
    rw[ax (by simpa using c)];split
    ·exact W.pure ⟨_,_,_,_,_,_,rfl,rfl,.inr ⟨rfl,⟨m',by lia,by lia⟩,by lia⟩⟩
    ·exact W.pure ⟨_,_,_,_,_,rfl,rfl,⟨m',by lia,by lia⟩,by lia⟩
   ·rw[bt e];dsimp only;rw[ax aT];have m':=AI M.mg sa sb (by lia) λz=>fD e;refine W.bind (W.elem (by lia) ?_);by_cases c:ia+1+1=a.size
    ·rw[aB (by simpa using c)];exact W.pure ⟨_,_,_,_,_,_,rfl,rfl,.inl ⟨_,rfl,xW m' sa sb c hl⟩⟩
    rw[ax (by simpa using c)];split
    ·exact W.pure ⟨_,_,_,_,_,_,rfl,rfl,.inr ⟨rfl,⟨m',by lia,by lia⟩,by lia⟩⟩
    ·exact W.pure ⟨_,_,_,_,_,rfl,rfl,⟨m',by lia,by lia⟩,by lia⟩
  ·rintro c s' ⟨out,pQ,pP,ac,bc,rfl,rfl,M',n2⟩;have:=M'.la;have:=M'.lb;lia
  rintro c s' ⟨r,out,pQ,pP,ac,bc,rfl,rfl,⟨m,rfl,R⟩|⟨rfl,M',n2⟩⟩
  ·exact W.pure ⟨_,_,_,_,_,_,rfl,rfl,R⟩
  refine W.bind (W.rl (W.bind (W.mono (W.for (I:=λx c s'=>∃g out pQ pP mg ac bc,s'=GS st g/\c=(none,out,pQ,pP,mg,ac,bc)/\MI C a b out pQ pP/\ia+ib+1+x<=pQ+pP)
   (Q:=λc s'=>∃r g out pQ pP mg ac bc,s'=GS st g/\c=(r,out,pQ,pP,mg,ac,bc)/\((∃m,r=some m/\Res C a b m)\/(r=none/\MI C a b out pQ pP/\ia+ib+1<=pQ+pP))) ?_ ?_ ⟨_,_,_,_,_,_,_,rfl,rfl,M',by lia⟩) ?_)))
  ·rintro x c s' _ hx ⟨g,out,ia,ib,mg,ac,bc,rfl,rfl,M,n3⟩;have l1:=M.la;have l2:=M.lb;refine W.ite (λ_=>?_) (λ_=>?_);all_goals
    refine W.bind (W.modify (W.bind (W.elem l2 (W.bind (D6 (base:=ia) (n:=a.size -ia) (hint:=0) hk (OO l2) ha (λ_ _ _ z _ q=>sa.at q z) (by lia) (by lia) λk q1 q2 q3=>?_)))));have M2:Mg (Rk C) a.toList b.toList (out++a.extract ia (ia+k)).toList (ia+k) ib:=by rw[Mw];exact M.mg.on sa k _ q2 λj h1 z=>sb.at z h1
    have q3:∀z:ia+k<a.size,C.rk b[ib]<=C.rk a[ia+k]:=λz=>bu (q3 _ (ak _) (by lia) z);refine W.ite (λc=>W.ite (λd=>W.pure ⟨_,_,_,_,_,_,_,_,rfl,rfl,.inl ⟨_,rfl,xW M2 sa sb (by simpa using d) hl⟩⟩) λd=>W.ite (λd2=>W.pure ⟨_,_,_,_,_,_,_,_,rfl,rfl,.inl ⟨_,rfl,xV M2 sa sb (.inr (by simpa using d2))⟩⟩) λd2=>?_) (λc=>?_)
    ·have l1:ia+k+1<a.size:=by simp at d d2;lia
     have m3:=F3 M2 sa sb l2 q3;refine W.bind (W.elem l2 (W.ite (λd=>W.pure ⟨_,_,_,_,_,_,_,_,rfl,rfl,.inl ⟨_,rfl,xV m3 sa sb (.inl (by simpa using d))⟩⟩) λd=>?_));have l3:ib+1<b.size:=by simp at d;lia
     refine W.bind (W.elem (i:=ia+k) (by lia) (W.bind (w_left (base:=ib+1) (n:=b.size -(ib+1)) (hint:=0) hk (HP (i:=ia+k) (by lia)) hb (λ_ _ _ z _ q=>sb.at q z) (by lia) (by lia) λk2 p1 p2 p3=>?_)));have M4:=(m3.swap.on sb k2 _ (λi h1 h2 z=>bu (p2 i h1 h2 z)) λj h1 z=>sa.at z h1).swap;rw[<-Mw]at M4;refine W.ite (λc=>W.ite (λd=>W.pure ⟨_,_,_,_,_,_,_,_,rfl,rfl,.inl ⟨_,rfl,xV M4 sa sb (.inl (by simpa using d))⟩⟩) λd=>?_) (λc=>?_)
     ·have l4:ib+1+k2<b.size:=by simp at d;lia
      have m5:=AI (ia:=ia+k) M4 sa sb (by lia) λz=>p3 _ (ak _) (by lia) z;exact W.bind (W.elem (i:=ia+k) (by lia) (W.ite (λd=>W.pure ⟨_,_,_,_,_,_,_,_,rfl,rfl,.inl ⟨_,rfl,xW m5 sa sb (by simpa using d) hl⟩⟩) λd=>by
       have l6:ia+k+1+1<a.size:=by simp at d;lia
       exact W.ite (λ_=>W.pure ⟨_,_,_,_,_,_,_,_,rfl,rfl,.inr ⟨rfl,⟨m5,l6,l4⟩,by dsimp only;lia⟩⟩) λ_=>W.pure ⟨_,_,_,_,_,_,_,rfl,rfl,⟨m5,l6,l4⟩,by dsimp only;lia⟩))
     ·have:k2=0:=by lia
      subst this;have m5:=AI (ia:=ia+k) m3 sa sb (by lia) λz=>p3 _ (ak _) (by lia) z;exact W.bind (W.elem (i:=ia+k) (by lia) (W.ite (λd=>W.pure ⟨_,_,_,_,_,_,_,_,rfl,rfl,.inl ⟨_,rfl,xW m5 sa sb (by simpa using d) hl⟩⟩) λd=>by
       have l6:ia+k+1+1<a.size:=by simp at d;lia
       exact W.ite (λ_=>W.pure ⟨_,_,_,_,_,_,_,_,rfl,rfl,.inr ⟨rfl,⟨m5,l6,l3⟩,by dsimp only;lia⟩⟩) λ_=>W.pure ⟨_,_,_,_,_,_,_,rfl,rfl,⟨m5,l6,l3⟩,by dsimp only;lia⟩))
    ·have:k=0:=by lia
     subst this;have M2:=M.mg;have m3:=F3 M2 sa sb l2 q3;refine W.bind (W.elem l2 (W.ite (λd=>W.pure ⟨_,_,_,_,_,_,_,_,rfl,rfl,.inl ⟨_,rfl,xV m3 sa sb (.inl (by simpa using d))⟩⟩) λd=>?_));have l3:ib+1<b.size:=by simp at d;lia
     refine W.bind (W.elem (i:=ia) (by lia) (W.bind (w_left (base:=ib+1) (n:=b.size -(ib+1)) (hint:=0) hk (HP (i:=ia) (by lia)) hb (λ_ _ _ z _ q=>sb.at q z) (by lia) (by lia) λk2 p1 p2 p3=>?_)));have M4:=(m3.swap.on sb k2 _ (λi h1 h2 z=>bu (p2 i h1 h2 z)) λj h1 z=>sa.at z h1).swap;rw[<-Mw]at M4;refine W.ite (λc=>W.ite (λd=>W.pure ⟨_,_,_,_,_,_,_,_,rfl,rfl,.inl ⟨_,rfl,xV M4 sa sb (.inl (by simpa using d))⟩⟩) λd=>?_) (λc=>?_)
     ·have l4:ib+1+k2<b.size:=by simp at d;lia
      have m5:=AI (ia:=ia) M4 sa sb (by lia) λz=>p3 _ (ak _) (by lia) z;exact W.bind (W.elem (i:=ia) (by lia) (W.ite (λd=>W.pure ⟨_,_,_,_,_,_,_,_,rfl,rfl,.inl ⟨_,rfl,xW m5 sa sb (by simpa using d) hl⟩⟩) λd=>by
       have l6:ia+1+1<a.size:=by simp at d;lia
       exact W.ite (λ_=>W.pure ⟨_,_,_,_,_,_,_,_,rfl,rfl,.inr ⟨rfl,⟨m5,l6,l4⟩,by dsimp only;lia⟩⟩) λ_=>W.pure ⟨_,_,_,_,_,_,_,rfl,rfl,⟨m5,l6,l4⟩,by dsimp only;lia⟩))
     ·have:k2=0:=by lia
      subst this;have m5:=AI (ia:=ia) m3 sa sb (by lia) λz=>p3 _ (ak _) (by lia) z;exact W.bind (W.elem (i:=ia) (by lia) (W.ite (λd=>W.pure ⟨_,_,_,_,_,_,_,_,rfl,rfl,.inl ⟨_,rfl,xW m5 sa sb (by simpa using d) hl⟩⟩) λd=>by
       have l6:ia+1+1<a.size:=by simp at d;lia
       exact W.ite (λ_=>W.pure ⟨_,_,_,_,_,_,_,_,rfl,rfl,.inr ⟨rfl,⟨m5,l6,l3⟩,by dsimp only;lia⟩⟩) λ_=>W.pure ⟨_,_,_,_,_,_,_,rfl,rfl,⟨m5,l6,l3⟩,by dsimp only;lia⟩))
  ·rintro c s' ⟨g,out,pQ,pP,mg,ac,bc,rfl,rfl,M',n3⟩;have:=M'.la;have:=M'.lb;lia
  rintro c s' ⟨r,g,out,pQ,pP,mg,ac,bc,rfl,rfl,⟨m,rfl,R⟩|⟨rfl,M',n3⟩⟩
  ·exact W.pure ⟨_,_,_,_,_,_,rfl,rfl,R⟩
  ·exact W.bind (W.modify (W.pure ⟨_,_,_,_,_,rfl,rfl,M',by dsimp only;lia⟩))
 ·rintro c s' ⟨g,out,ia,ib,mg,rfl,rfl,M,n⟩;have:=M.la;have:=M.lb;lia
 ·rintro c s' ⟨g,out,ia,ib,mg,m,rfl,rfl,R⟩;exact W.pure (h _ _ R)
variable{C:Ct}
abbrev Rg(C:Ct)(x y:Keyed):Prop:=C.rk y<=C.rk x
abbrev MH(C:Ct)(a b out:Array Keyed)(na nb:Nat):Prop:=Mg (Rg C) a.toList.reverse b.toList.reverse out.toList (a.size -na) (b.size -nb)
def qM{a:Array Keyed}(h:n<=a.size):a.toList.reverse.drop (a.size -n)=(a.toList.take n).reverse:=by rw[List.drop_reverse,aR,show a.size -(a.size -n)=n by lia]
def Hy{a:Array Keyed}(h:x∈a.toList.take n):∃i,∃q:i<a.size,i<n/\x=a[i]:=by obtain⟨i,hi,e⟩:=dN.mp h;rw[aS,aR]at hi;exact⟨i,by lia,by lia,by rw[<-e];simp⟩
section
variable{a b out:Array Keyed}{na nb:Nat}
def MH.on(m:MH C a b out na nb)(sa:So C a)(ha:na<=a.size)(hb:nb<=b.size)(at_ v:Nat)(q:at_<=na)(hx:∀i,at_<=i->i<na->(q:i<a.size)->v<=C.rk a[i])(hy:∀j,j<nb->(q:j<b.size)->C.rk b[j]<=v):MH C a b (out++(a.extract at_ na).reverse) at_ nb:=by
 have e:(a.toList.reverse.drop (a.size -na)).take (na -at_)=((a.extract at_ na).reverse).toList:=by rw[qM ha,List.take_reverse];simp[List.extract_eq_drop_take,aS,List.drop_take,gW ha];rw[show na -(na -at_)=at_ by lia]
 have:=m.go (kN.mpr sa) (na -at_) λx wM y Fm=>by rw[e]at wM;rw[qM hb]at Fm;simp only[yz,jC,qm,List.extract_eq_drop_take]at wM;obtain⟨i,q1,h1,h2,rfl⟩:=Oo wM;obtain⟨j,z,h3,rfl⟩:=Hy (jC.mp Fm);exact aE (hy j h3 z) (hx i h1 (by lia) q1)
 rw[e,show a.size -na+(na -at_)=a.size -at_ by lia,<-qC]at this;exact this
def MH.sw(m:MH C a b out na nb):MH C b a out nb na:=m.swap
def MH.put(m:MH C a b out na nb)(sa:So C a)(sb:So C b)(ha:na<=a.size)(hb:nb<=b.size)(q:0<na)(c:∀z:0<nb,C.rk (b[nb -1]'(by lia))<=C.rk (a[na -1]'(by lia))):MH C a b (out.push (a[na -1]'(by lia))) (na -1) nb:=by
 have:=m.on sa ha hb (na -1) (C.rk (a[na -1]'(by lia))) (by lia) (λi h1 h2 z=>by
  have e:i=na -1:=by lia
  subst e;exact ak _) λj h1 z=>aE (sb.at (by lia) (by lia)) (c (by lia))
 have e:out++(a.extract (na -1) na).reverse=out.push (a[na -1]'(by lia)):=by apply Array.ext';rw[qC,yz,kH,qm,List.extract_eq_drop_take,show na -(na -1)=1 by lia,N4 (by lia)];rfl
 rw[e]at this;exact this
def MH.fin(m:MH C a b out na nb)(sa:So C a)(sb:So C b)(ha:na<=a.size)(hb:nb<=b.size)(c:∀i j,i<na->j<nb->(q:i<a.size)->(z:j<b.size)->C.rk b[j]<=C.rk a[i]):Res C a b (b.extract 0 nb++a.extract 0 na++out.reverse):=by
 have:=m.end (kN.mpr sa) (kN.mpr sb) λx hx y hy=>by rw[qM ha]at hx;rw[qM hb]at hy;obtain⟨i,q,h1,rfl⟩:=Hy (jC.mp hx);obtain⟨j,z,h2,rfl⟩:=Hy (jC.mp hy);exact c i j h1 h2 q z
 rw[qM ha,qM hb]at this;have e:(b.extract 0 nb++a.extract 0 na++out.reverse).toList=(out.toList++(a.toList.take na).reverse++(b.toList.take nb).reverse).reverse:=by simp[List.extract_eq_drop_take]
 unfold Res;rw[e];refine⟨(sZ _).trans (this.1.trans ((sZ _).append (sZ _))),?_⟩;rw[kN];exact this.2
def MH.end(m:MH C a b out na nb)(sa:So C a)(sb:So C b)(ha:na<=a.size)(hb:nb<=b.size)(c:na=0\/nb=0):Res C a b (a.extract 0 na++b.extract 0 nb++out.reverse):=by
 have:=m.sw.fin sb sa hb ha λi j h1 h2=>by lia
 exact⟨this.1.trans iO,this.2⟩
end
structure MJ(C:Ct)(a b out:Array Keyed)(na nb:Nat):Prop where
 mg:MH C a b out na nb
 la:0<na/\na<=a.size
 lb:1<nb/\nb<=b.size
def M5{st:SortSt}(hk:kindOf st=C.κ)(ha:∀x∈a,C.In x)(hb:∀x∈b,C.In x)(sa:So C a)(sb:So C b)(a1:0<a.size)(b1:0<b.size)(h0:C.rk b[0]<C.rk a[0])(hl:∀y∈b,C.rk y<C.rk a[a.size -1])
  (h:∀m g,Res C a b m->Q m (GS st g)):W C (Hx a b) Q st:=by
 have sw:st=GS st (gallopOf st):=rfl;have HP:∀{i:Nat}(q:i<a.size),C.In a[i]:=λq=>ha _ (cP q);have OO:∀{i:Nat}(q:i<b.size),C.In b[i]:=λq=>hb _ (cP q);have b0:∀i j,j<1->(q:i<a.size)->(z:j<b.size)->C.rk b[j]<=C.rk a[i]:=λi j h1 q z=>by
  have e:j=0:=by lia
  subst e;exact aE (bu h0) (sa.at q (aO _))
 unfold Hx;refine W.bind (W.rl (W.bind (W.elem (i:=a.size -1) (by lia) ?_)));have m0:MH C a b (#[a[a.size -1]]:Array Keyed) (a.size -1) b.size:=by have:MH C a b (#[]:Array Keyed) a.size b.size:=⟨by simp,.nil,(λx hx=>by cases hx),(λx hx=>by cases hx)⟩;exact this.put sa sb (ak _) (ak _) a1 λz=>bu (hl _ (cP _))
 refine W.ite (λc1=>W.pure (by rw[sw];exact h _ _ (m0.end sa sb (by lia) (ak _) (.inl (by simpa using c1))))) λc1=>?_;refine W.ite (λc2=>W.pure (by rw[sw];exact h _ _ (m0.fin sa sb (by lia) (ak _) λi j h1 h2=>b0 i j (by simp at c2;lia)))) λc2=>?_;have l1:0<a.size -1:=by simp at c1;lia
 have l2:1<b.size:=by simp at c2;lia
 refine W.bind (W.get (W.bind (W.mono (W.for (I:=λi c s'=>∃g out na nb mg,s'=GS st g/\c=(none,na,nb,out,mg)/\MJ C a b out na nb/\na+nb+i+1<=a.size+b.size)
  (Q:=λc s'=>∃g out na nb mg m,s'=GS st g/\c=(some m,na,nb,out,mg)/\Res C a b m) ?_ ?_ ⟨gallopOf st,_,_,_,_,rfl,rfl,⟨m0,⟨l1,by lia⟩,⟨l2,ak _⟩⟩,by lia⟩) ?_)))
 ·rintro i c s' _ hi ⟨g,out,na,nb,mg,rfl,rfl,M,n1⟩;dsimp only;refine W.bind (W.mono (W.for (I:=λx c s'=>∃out pH pG ac bc,s'=GS st g/\c=(none,pH,pG,out,ac,bc)/\MJ C a b out pH pG/\pH+pG+x<=na+nb)
   (Q:=λc s'=>∃r out pH pG ac bc,s'=GS st g/\c=(r,pH,pG,out,ac,bc)/\((∃m,r=some m/\Res C a b m)\/(r=none/\MJ C a b out pH pG/\pH+pG+1<=na+nb))) ?_ ?_ ⟨_,_,_,_,_,rfl,rfl,M,by lia⟩) ?_)
  ·rintro x c s' _ hx ⟨out,na,nb,ac,bc,rfl,rfl,M,n2⟩;have l1:=M.la;have l2:=M.lb;refine W.bind (W.elem (i:=nb -1) (by lia) (W.bind (W.elem (i:=na -1) (by lia) (W.bind (W.lt hk (OO _) (HP _) ?_)))));by_cases e:C.rk (b[nb -1]'(by lia))<C.rk (a[na -1]'(by lia))
   ·rw[aU e];have m':=M.mg.put sa sb l1.2 l2.2 l1.1 λz=>bu e;refine W.bind (W.elem (i:=na -1) (by lia) (W.ite (λd=>W.pure ⟨_,_,_,_,_,_,rfl,rfl,.inl ⟨_,rfl,m'.end sa sb (by lia) l2.2 (.inl (by simpa using d))⟩⟩) λd=>?_));have l3:0<na -1/\na -1<=a.size:=by simp at d;lia
    exact W.ite (λ_=>W.pure ⟨_,_,_,_,_,_,rfl,rfl,.inr ⟨rfl,⟨m',l3,l2⟩,by first|lia|(dsimp only;lia)⟩⟩) λ_=>W.pure ⟨_,_,_,_,_,rfl,rfl,⟨m',l3,l2⟩,by first|lia|(dsimp only;lia)⟩
   ·rw[bt e];have m':=(M.mg.sw.put sb sa l2.2 l1.2 (by lia) λz=>fD e).sw;refine W.bind (W.elem (i:=nb -1) (by lia) (W.ite (λd=>W.pure ⟨_,_,_,_,_,_,rfl,rfl,.inl ⟨_,rfl,m'.fin sa sb l1.2 (by lia) λi j h1 h2=>b0 i j (by simp at d;lia)⟩⟩) λd=>?_));have l3:1<nb -1/\nb -1<=b.size:=by simp at d;lia
    exact W.ite (λ_=>W.pure ⟨_,_,_,_,_,_,rfl,rfl,.inr ⟨rfl,⟨m',l1,l3⟩,by first|lia|(dsimp only;lia)⟩⟩) λ_=>W.pure ⟨_,_,_,_,_,rfl,rfl,⟨m',l1,l3⟩,by first|lia|(dsimp only;lia)⟩
  ·rintro c s' ⟨out,pH,pG,ac,bc,rfl,rfl,M',n2⟩;have:=M'.la;have:=M.la;have:=M.lb;lia
  rintro c s' ⟨r,out,pH,pG,ac,bc,rfl,rfl,⟨m,rfl,R⟩|⟨rfl,M',n2⟩⟩
  ·exact W.pure ⟨_,_,_,_,_,_,rfl,rfl,R⟩
  refine W.bind (W.rl (W.bind (W.mono (W.for (I:=λx c s'=>∃g out pH pG mg ac bc,s'=GS st g/\c=(none,pH,pG,out,mg,ac,bc)/\MJ C a b out pH pG/\pH+pG+1+x<=na+nb)
   (Q:=λc s'=>∃r g out pH pG mg ac bc,s'=GS st g/\c=(r,pH,pG,out,mg,ac,bc)/\((∃m,r=some m/\Res C a b m)\/(r=none/\MJ C a b out pH pG/\pH+pG+1<=na+nb))) ?_ ?_ ⟨_,_,_,_,_,_,_,rfl,rfl,M',by lia⟩) ?_)))
  ·rintro x c s' _ hx ⟨g,out,na,nb,mg,ac,bc,rfl,rfl,M,n3⟩;have l1:=M.la;have l2:=M.lb;refine W.ite (λ_=>?_) (λ_=>?_);all_goals
    refine W.bind (W.modify (W.bind (W.elem (i:=nb -1) (by lia) (W.bind (D6 (base:=0) (n:=na) (hint:=na -1) hk (OO (i:=nb -1) (by lia)) ha (λ_ _ _ z _ q=>sa.at q z) (by lia) (by lia) λk q1 q2 q3=>?_)))));have M2:=M.mg.on sa l1.2 l2.2 k (C.rk (b[nb -1]'(by lia))) q1 (λi h1 h2 z=>bu (q3 i (by lia) (by lia) z)) λj h1 z=>sb.at (by lia) (by lia);refine W.ite (λc=>W.ite (λd=>W.pure ⟨_,_,_,_,_,_,_,_,rfl,rfl,.inl ⟨_,rfl,M2.end sa sb (by lia) l2.2 (.inl (by simpa using d))⟩⟩) λd=>?_) (λc=>?_)
    ·have l5:0<k:=by simp at d;lia
     have m3:=(M2.sw.put sb sa l2.2 (by lia) (by lia) λz=>q2 _ (by lia) (by lia) (by lia)).sw;refine W.bind (W.elem (i:=nb -1) (by lia) (W.ite (λd=>W.pure ⟨_,_,_,_,_,_,_,_,rfl,rfl,.inl ⟨_,rfl,m3.fin sa sb (by lia) (by lia) λi j h1 h2=>b0 i j (by simp at d;lia)⟩⟩) λd=>?_));have l3:1<nb -1/\nb -1<=b.size:=by simp at d;lia
     refine W.bind (W.elem (i:=k -1) (by lia) (W.bind (w_left (base:=0) (n:=nb -1) (hint:=nb -1 -1) hk (HP (i:=k -1) (by lia)) hb (λ_ _ _ z _ q=>sb.at q z) (by lia) (by lia) λk2 p1 p2 p3=>?_)));have M4:=(m3.sw.on sb (by lia) (by lia) k2 (C.rk (a[k -1]'(by lia))) p1 (λi h1 h2 z=>p3 i (by lia) (by lia) z) λj h1 z=>sa.at (by lia) (by lia)).sw;refine W.ite (λc=>W.ite (λd=>W.pure ⟨_,_,_,_,_,_,_,_,rfl,rfl,.inl ⟨_,rfl,M4.fin sa sb (by lia) (by lia) λi j h1 h2=>b0 i j (by simp at d;lia)⟩⟩) λd=>W.ite (λd2=>W.pure ⟨_,_,_,_,_,_,_,_,rfl,rfl,.inl ⟨_,rfl,M4.end sa sb (by lia) (by lia) (.inr (by simpa using d2))⟩⟩) λd2=>?_) (λc=>?_)
     ·have l4:1<k2/\k2<=b.size:=by simp at d d2;lia
      have m5:=M4.put sa sb (by lia) (by lia) (by lia) λz=>bu (p2 _ (by lia) (by lia) (by lia));exact W.bind (W.elem (i:=k -1) (by lia) (W.ite (λd=>W.pure ⟨_,_,_,_,_,_,_,_,rfl,rfl,.inl ⟨_,rfl,m5.end sa sb (by lia) (by lia) (.inl (by simpa using d))⟩⟩) λd=>by
       have l6:0<k -1/\k -1<=a.size:=by simp at d;lia
       exact W.ite (λ_=>W.pure ⟨_,_,_,_,_,_,_,_,rfl,rfl,.inr ⟨rfl,⟨m5,l6,l4⟩,by first|lia|(dsimp only;lia)⟩⟩) λ_=>W.pure ⟨_,_,_,_,_,_,_,rfl,rfl,⟨m5,l6,l4⟩,by first|lia|(dsimp only;lia)⟩))
     ·have e2:k2=nb -1:=by dsimp only at c;lia
      have m5:=m3.put sa sb (by lia) (by lia) (by lia) λz=>bu (p2 _ (by lia) (by lia) (by lia));exact W.bind (W.elem (i:=k -1) (by lia) (W.ite (λd=>W.pure ⟨_,_,_,_,_,_,_,_,rfl,rfl,.inl ⟨_,rfl,m5.end sa sb (by lia) (by lia) (.inl (by simpa using d))⟩⟩) λd=>by
       have l6:0<k -1/\k -1<=a.size:=by simp at d;lia
       exact W.ite (λ_=>W.pure ⟨_,_,_,_,_,_,_,_,rfl,rfl,.inr ⟨rfl,⟨m5,l6,l3⟩,by first|lia|(dsimp only;lia)⟩⟩) λ_=>W.pure ⟨_,_,_,_,_,_,_,rfl,rfl,⟨m5,l6,l3⟩,by first|lia|(dsimp only;lia)⟩))
    ·have e1:k=na:=by dsimp only at c;lia
     subst e1;have m3:=(M.mg.sw.put sb sa l2.2 (by lia) (by lia) λz=>q2 _ (by lia) (by lia) (by lia)).sw;refine W.bind (W.elem (i:=nb -1) (by lia) (W.ite (λd=>W.pure ⟨_,_,_,_,_,_,_,_,rfl,rfl,.inl ⟨_,rfl,m3.fin sa sb (by lia) (by lia) λi j h1 h2=>b0 i j (by simp at d;lia)⟩⟩) λd=>?_));have l3:1<nb -1/\nb -1<=b.size:=by simp at d;lia
     refine W.bind (W.elem (i:=k -1) (by lia) (W.bind (w_left (base:=0) (n:=nb -1) (hint:=nb -1 -1) hk (HP (i:=k -1) (by lia)) hb (λ_ _ _ z _ q=>sb.at q z) (by lia) (by lia) λk2 p1 p2 p3=>?_)));have M4:=(m3.sw.on sb (by lia) (by lia) k2 (C.rk (a[k -1]'(by lia))) p1 (λi h1 h2 z=>p3 i (by lia) (by lia) z) λj h1 z=>sa.at (by lia) (by lia)).sw;refine W.ite (λc=>W.ite (λd=>W.pure ⟨_,_,_,_,_,_,_,_,rfl,rfl,.inl ⟨_,rfl,M4.fin sa sb (by lia) (by lia) λi j h1 h2=>b0 i j (by simp at d;lia)⟩⟩) λd=>W.ite (λd2=>W.pure ⟨_,_,_,_,_,_,_,_,rfl,rfl,.inl ⟨_,rfl,M4.end sa sb (by lia) (by lia) (.inr (by simpa using d2))⟩⟩) λd2=>?_) (λc=>?_)
     ·have l4:1<k2/\k2<=b.size:=by simp at d d2;lia
      have m5:=M4.put sa sb (by lia) (by lia) (by lia) λz=>bu (p2 _ (by lia) (by lia) (by lia));exact W.bind (W.elem (i:=k -1) (by lia) (W.ite (λd=>W.pure ⟨_,_,_,_,_,_,_,_,rfl,rfl,.inl ⟨_,rfl,m5.end sa sb (by lia) (by lia) (.inl (by simpa using d))⟩⟩) λd=>by
       have l6:0<k -1/\k -1<=a.size:=by simp at d;lia
       exact W.ite (λ_=>W.pure ⟨_,_,_,_,_,_,_,_,rfl,rfl,.inr ⟨rfl,⟨m5,l6,l4⟩,by first|lia|(dsimp only;lia)⟩⟩) λ_=>W.pure ⟨_,_,_,_,_,_,_,rfl,rfl,⟨m5,l6,l4⟩,by first|lia|(dsimp only;lia)⟩))
     ·have e2:k2=nb -1:=by dsimp only at c;lia
      have m5:=m3.put sa sb (by lia) (by lia) (by lia) λz=>bu (p2 _ (by lia) (by lia) (by lia));exact W.bind (W.elem (i:=k -1) (by lia) (W.ite (λd=>W.pure ⟨_,_,_,_,_,_,_,_,rfl,rfl,.inl ⟨_,rfl,m5.end sa sb (by lia) (by lia) (.inl (by simpa using d))⟩⟩) λd=>by
       have l6:0<k -1/\k -1<=a.size:=by simp at d;lia
       exact W.ite (λ_=>W.pure ⟨_,_,_,_,_,_,_,_,rfl,rfl,.inr ⟨rfl,⟨m5,l6,l3⟩,by first|lia|(dsimp only;lia)⟩⟩) λ_=>W.pure ⟨_,_,_,_,_,_,_,rfl,rfl,⟨m5,l6,l3⟩,by first|lia|(dsimp only;lia)⟩))
  ·rintro c s' ⟨g,out,pH,pG,mg,ac,bc,rfl,rfl,M',n3⟩;have:=M'.la;have:=M.la;have:=M.lb;lia
  rintro c s' ⟨r,g,out,pH,pG,mg,ac,bc,rfl,rfl,⟨m,rfl,R⟩|⟨rfl,M',n3⟩⟩
  ·exact W.pure ⟨_,_,_,_,_,_,rfl,rfl,R⟩
  ·exact W.bind (W.modify (W.pure ⟨_,_,_,_,_,rfl,rfl,M',by first|lia|(dsimp only;lia)⟩))
 ·rintro c s' ⟨g,out,na,nb,mg,rfl,rfl,M,n⟩;have:=M.la;lia
 ·rintro c s' ⟨g,out,na,nb,mg,m,rfl,rfl,R⟩;exact W.pure (h _ _ R)
variable{C:Ct}
def ky(C:Ct)(a:Array Keyed)(k:Nat):Nat:=(a[k]?).elim 0 C.rk
def hX(h:k<a.size):ky C a k=C.rk a[k]:=by unfold ky;rw[getElem?_pos a k h];rfl
def xN(h:a[i]?=b[j]?):ky C a i=ky C b j:=by unfold ky;rw[h]
def Up(C:Ct)(a:Array Keyed)(lo hi:Nat):Prop:=∀i j,lo<=i->i<=j->j<hi->ky C a i<=ky C a j
def Dn(C:Ct)(a:Array Keyed)(lo hi:Nat):Prop:=∀i j,lo<=i->i<=j->j<hi->ky C a j<=ky C a i
structure Mv(a a':Array Keyed)(lo hi:Nat):Prop where
 pm:a'.Perm a
 ou:∀k,k<lo\/hi<=k->a'[k]?=a[k]?
def Mv.sz{lo hi:Nat}(m:Mv a a' lo hi):a'.size=a.size:=m.pm.size_eq
def Mv.refl{lo hi:Nat}:Mv a a lo hi:=⟨.refl _,λ_ _=>rfl⟩
def Mv.trans{lo hi:Nat}(m:Mv a b lo hi)(n:Mv b c lo hi):Mv a c lo hi:=⟨n.pm.trans m.pm,λk h=>(n.ou k h).trans (m.ou k h)⟩
def Mv.wide{lo hi Oz Pl:Nat}(m:Mv a b lo hi)(h1:Oz<=lo)(h2:hi<=Pl):Mv a b Oz Pl:=⟨m.pm,λk h=>m.ou k (by lia)⟩
def Mv.in{lo hi:Nat}(m:Mv a a' lo hi)(h:∀x∈a,C.In x):∀x∈a',C.In x:=λx hx=>h x (m.pm.mem_iff.mp hx)
def Mv.up{lo hi l h:Nat}(m:Mv a a' lo hi)(u:Up C a l h)(c:h<=lo\/hi<=l):Up C a' l h:=λi j h1 h2 h3=>by rw[xN (m.ou i (by lia)),xN (m.ou j (by lia))];exact u i j h1 h2 h3
def jX(hj:j<=a.size):Mv a (mirror a i j ((j -i)/2)) i j:=⟨mirror_perm _ _ _ _,λk h=>by rw[getElem?_mirror_all hj,ax (by lia)]⟩
def gu(hj:j<=a.size)(k:Nat):ky C (mirror a i j ((j -i)/2)) k=if i<=k/\k<j then ky C a (i+j -1 -k)else ky C a k:=by unfold ky;rw[getElem?_mirror_all hj];split<;>rfl
def Oi(hs:s<a.size)(hd:d<=s):Mv a (bubble a s (s -d)) d (s+1):=⟨bubble_perm _ _ _,λk h=>by rw[getElem?_bubble hs _ (by lia),ax (by lia),ax (by lia)]⟩
section
variable{st:SortSt}
def W.at(hk:kindOf st=C.κ)(gG:∀x∈arrOf st,C.In x)(hi:i<(arrOf st).size)(hj:j<(arrOf st).size)(h:Q (some (decide (ky C (arrOf st) i<ky C (arrOf st) j))) st):W C (ltAt' i j) Q st:=by rw[hX hi,hX hj]at h;rw[ltAt'_eq];exact W.bind (W.get (W.bind (W.elem hi (W.bind (W.elem hj (W.lt hk (gG _ (cP _)) (gG _ (cP _)) h))))))
def W.rev(h:Q ⟨⟩ (setArr st (mirror (arrOf st) i j ((j -i)/2)))):W C (reverseSlice' i j) Q st:=by rw[reverseSlice'_eq];exact W.modify h
def Up.more{lo hi:Nat}(u:Up C a lo hi)(h:lo<hi)(c:ky C a (hi -1)<=ky C a hi):Up C a lo (hi+1):=λi j h1 h2 h3=>by
 by_cases e:j=hi
 ·subst e;by_cases e2:i=j
  ·rw[e2];exact ak _
  ·exact aE (u i (j -1) h1 (by lia) (by lia)) c
 ·exact u i j h1 h2 (by lia)
def Dn.more{lo hi:Nat}(u:Dn C a lo hi)(h:lo<hi)(c:ky C a hi<=ky C a (hi -1)):Dn C a lo (hi+1):=λi j h1 h2 h3=>by
 by_cases e:j=hi
 ·subst e;by_cases e2:i=j
  ·rw[e2];exact ak _
  ·exact aE c (u i (j -1) h1 (by lia) (by lia))
 ·exact u i j h1 h2 (by lia)
def Dn.of{lo hi:Nat}(u:Dn C a lo hi)(e:∀k,ky C b k=ky C a k):Dn C b lo hi:=λi j h1 h2 h3=>by rw[e,e];exact u i j h1 h2 h3
def w_count{lo nrem:Nat}(hk:kindOf st=C.κ)(gG:∀x∈arrOf st,C.In x)(h1:1<=nrem)(hs:lo+nrem<=(arrOf st).size)
  (h:∀m a',Mv (arrOf st) a' lo (lo+nrem)->1<=m->m<=nrem->Up C a' lo (lo+m)->Q (some m) (setArr st a')):W C (countRun' lo nrem) Q st:=by
 have sw:st=setArr st (arrOf st):=rfl;unfold countRun';refine W.bind (W.mono (W.for (I:=λx c s'=>st=s'/\c=(none,x)/\Up C (arrOf st) lo (lo+x))
  (Q:=λc s'=>st=s'/\∃n,c=(none,n)/\1<=n/\n<=nrem/\Up C (arrOf st) lo (lo+n)/\(n=nrem\/ky C (arrOf st) (lo+n)<ky C (arrOf st) (lo+n -1))) ?_ ?_ ⟨rfl,rfl,?_⟩) ?_)
 ·rintro x c s' oq HR ⟨rfl,rfl,u⟩;refine W.bind (W.at hk gG (by lia) (by lia) ?_);by_cases e:ky C (arrOf st) (lo+x)<ky C (arrOf st) (lo+x -1)
  ·rw[aU e];exact W.pure ⟨rfl,x,rfl,oq,by lia,u,.inr e⟩
  ·rw[bt e];exact W.pure ⟨rfl,rfl,u.more (by lia) (fD e)⟩
 ·rintro c s' ⟨rfl,rfl,u⟩;rw[show max 1 nrem=nrem by lia]at u⊢;exact⟨rfl,nrem,rfl,by lia,ak _,u,.inl rfl⟩
 ·exactλi j q1 q2 q3=>by rw[show i=j by lia];exact ak _
 rintro c s' ⟨rfl,n,rfl,n1,n2,u,last⟩;refine W.ite (λc=>W.pure ?_) λc=>?_
 ·rw[sw];exact h n _ .refl n1 n2 u
 have last:ky C (arrOf st) (lo+n)<ky C (arrOf st) (lo+n -1):=last.resolve_left (by simpa using c);have n3:n<nrem:=by simp at c;lia
 refine W.ite (λc=>W.bind (W.at hk gG (by lia) (by lia) ?_)) λc=>?_
 ·by_cases e:ky C (arrOf st) lo<ky C (arrOf st) (lo+n -1)
  ·rw[aU e];refine W.pure ?_;rw[sw];exact h n _ .refl n1 n2 u
  rw[bt e];have al:∀k,lo<=k->k<lo+n->ky C (arrOf st) k=ky C (arrOf st) lo:=λk q1 q2=>by have:=u lo k (ak _) q1 q2;have:=u k (lo+n -1) q1 (by lia) (by lia);lia
  have kk:∀k,ky C (mirror (arrOf st) lo (lo+n) ((lo+n -lo)/2)) k=ky C (arrOf st) k:=λk=>by
   rw[gu (by lia)];split
   ·rw[al _ (by lia) (by lia),al k (by lia) (by lia)]
   ·rfl
  refine W.bind (W.rev ?_);have M0:Mv (arrOf st) (mirror (arrOf st) lo (lo+n) ((lo+n -lo)/2)) lo (lo+nrem):=(jX (by lia)).wide (ak _) (by lia);have D0:Dn C (mirror (arrOf st) lo (lo+n) ((lo+n -lo)/2)) lo (lo+n+1):=(Dn.of (a:=arrOf st) (λi j q1 q2 q3=>by rw[al i q1 (by lia),al j (by lia) q3];exact ak _) kk).more (by lia) (by rw[kk,kk];lia);generalize mirror (arrOf st) lo (lo+n) ((lo+n -lo)/2)=a0 at M0 D0;refine W.bind (W.rl (W.bind (W.mono (W.for (I:=λx c s'=>∃a' q,s'=setArr st a'/\c=(none,x,q)/\Mv (arrOf st) a' lo (lo+nrem)/\Dn C a' lo (lo+x)/\q+1<=x/\∀k,lo+x -(q+1)<=k->k<lo+x->ky C a' k=ky C a' (lo+x -1))
   (Q:=λc s'=>∃a' m q,s'=setArr st a'/\c=(none,m,q)/\n+1<=m/\m<=nrem/\Mv (arrOf st) a' lo (lo+nrem)/\Dn C a' lo (lo+m)/\q+1<=m/\∀k,lo+m -(q+1)<=k->k<lo+m->ky C a' k=ky C a' (lo+m -1)) ?_ ?_ ⟨a0,0,rfl,rfl,M0,D0,by lia,λk q1 q2=>by rw[show k=lo+(n+1) -1 by lia]⟩) ?_)))
  ·rintro x c s' oq HR ⟨a',q,rfl,rfl,M,D,q1,al⟩;dsimp only;have oq:n+1<=x:=oq;have sz:=M.sz;have kk:∀k,ky C (mirror a' (lo+x -(q+1)) (lo+x) ((lo+x -(lo+x -(q+1)))/2)) k=ky C a' k:=λk=>by
    rw[gu (by lia)];split
    ·rw[al _ (by lia) (by lia),al k (by lia) (by lia)]
    ·rfl
   refine W.bind (W.at hk (M.in gG) (by rw[sz];lia) (by rw[sz];lia) ?_);by_cases e:ky C a' (lo+x)<ky C a' (lo+x -1)
   ·rw[aU e];refine W.ite (λ_=>?_) (λz=>absurd rfl z);refine W.ite (λ_=>W.bind (W.rev (W.pure ⟨_,0,rfl,rfl,M.trans ((jX (by lia)).wide (by lia) (by lia)),(D.of kk).more (by lia) (by rw[kk,kk];lia),by lia,λk q1 q2=>by rw[show k=lo+(x+1) -1 by lia]⟩))) λ_=>W.pure ⟨_,0,rfl,rfl,M,D.more (by lia) (by lia),by lia,λk q1 q2=>by rw[show k=lo+(x+1) -1 by lia]⟩
   ·rw[bt e];refine W.bind (W.at hk (M.in gG) (by rw[sz];lia) (by rw[sz];lia) ?_);by_cases e2:ky C a' (lo+x -1)<ky C a' (lo+x)
    ·rw[aU e2];exact W.pure ⟨_,_,_,rfl,rfl,oq,by lia,M,D,q1,al⟩
    ·rw[bt e2];refine W.pure ⟨_,_,rfl,rfl,M,D.more (by lia) (by lia),by lia,λk q1 q2=>?_⟩;rw[show lo+(x+1) -1=lo+x by lia];by_cases z:k=lo+x
     ·rw[z]
     ·rw[al k (by lia) (by lia)];lia
  ·rintro c s' ⟨a',q,rfl,rfl,M,D,q1,al⟩;dsimp only at*;rw[show max (n+1) nrem=nrem by lia]at*;exact⟨_,_,_,rfl,rfl,by lia,ak _,M,D,q1,al⟩
  ·rintro c s' ⟨a',m,q,rfl,rfl,m1,m2,M,D,q1,al⟩;dsimp only;have sz:=M.sz;refine W.ite (λ_=>W.bind (W.rev ?_)) λ_=>?_
   ·have M2:=M.trans ((jX (i:=lo+m -(q+1)) (j:=lo+m) (by lia)).wide (by lia) (by lia));have D:=D.of (b:=mirror a' (lo+m -(q+1)) (lo+m) ((lo+m -(lo+m -(q+1)))/2)) λk=>by
     rw[gu (by lia)];split
     ·rw[al _ (by lia) (by lia),al k (by lia) (by lia)]
     ·rfl
    generalize mirror a' (lo+m -(q+1)) (lo+m) ((lo+m -(lo+m -(q+1)))/2)=a2 at M2 D;have sz:=M2.sz;have M3:=M2.trans ((jX (i:=lo) (j:=lo+m) (by lia)).wide (by lia) (by lia));refine W.bind (W.rev (W.bind (W.mono (W.for (I:=λx c s'=>s'=setArr st (mirror a2 lo (lo+m) ((lo+m -lo)/2))/\c=(none,x)/\Up C (mirror a2 lo (lo+m) ((lo+m -lo)/2)) lo (lo+x))
     (Q:=λc s'=>s'=setArr st (mirror a2 lo (lo+m) ((lo+m -lo)/2))/\∃n,c=(none,n)/\m<=n/\n<=nrem/\Up C (mirror a2 lo (lo+m) ((lo+m -lo)/2)) lo (lo+n)) ?_ ?_ ⟨rfl,rfl,?_⟩) ?_)))
    ·rintro x c s' oq HR ⟨rfl,rfl,u⟩;refine W.bind (W.at hk (M3.in gG) (by rw[M3.sz];lia) (by rw[M3.sz];lia) ?_);by_cases e:ky C (mirror a2 lo (lo+m) ((lo+m -lo)/2)) (lo+x)<ky C (mirror a2 lo (lo+m) ((lo+m -lo)/2)) (lo+x -1)
     ·rw[aU e];exact W.pure ⟨rfl,x,rfl,oq,by lia,u⟩
     ·rw[bt e];exact W.pure ⟨rfl,rfl,u.more (by lia) (fD e)⟩
    ·rintro c s' ⟨rfl,rfl,u⟩;rw[show max m nrem=nrem by lia]at u⊢;exact⟨rfl,nrem,rfl,by lia,ak _,u⟩
    ·exactλi j q1 q2 q3=>by rw[gu (by lia),gu (by lia),aB (by lia),aB (by lia)];exact D _ _ (by lia) (by lia) (by lia)
    ·rintro c s' ⟨rfl,r,rfl,r1,r2,u⟩;exact W.pure (h r _ M3 (by lia) r2 u)
   ·have M3:=M.trans ((jX (i:=lo) (j:=lo+m) (by lia)).wide (by lia) (by lia));refine W.bind (W.rev (W.bind (W.mono (W.for (I:=λx c s'=>s'=setArr st (mirror a' lo (lo+m) ((lo+m -lo)/2))/\c=(none,x)/\Up C (mirror a' lo (lo+m) ((lo+m -lo)/2)) lo (lo+x))
     (Q:=λc s'=>s'=setArr st (mirror a' lo (lo+m) ((lo+m -lo)/2))/\∃n,c=(none,n)/\m<=n/\n<=nrem/\Up C (mirror a' lo (lo+m) ((lo+m -lo)/2)) lo (lo+n)) ?_ ?_ ⟨rfl,rfl,?_⟩) ?_)))
    ·rintro x c s' oq HR ⟨rfl,rfl,u⟩;refine W.bind (W.at hk (M3.in gG) (by rw[M3.sz];lia) (by rw[M3.sz];lia) ?_);by_cases e:ky C (mirror a' lo (lo+m) ((lo+m -lo)/2)) (lo+x)<ky C (mirror a' lo (lo+m) ((lo+m -lo)/2)) (lo+x -1)
     ·rw[aU e];exact W.pure ⟨rfl,x,rfl,oq,by lia,u⟩
     ·rw[bt e];exact W.pure ⟨rfl,rfl,u.more (by lia) (fD e)⟩
    ·rintro c s' ⟨rfl,rfl,u⟩;rw[show max m nrem=nrem by lia]at u⊢;exact⟨rfl,nrem,rfl,by lia,ak _,u⟩
    ·exactλi j q1 q2 q3=>by rw[gu (by lia),gu (by lia),aB (by lia),aB (by lia)];exact D _ _ (by lia) (by lia) (by lia)
    ·rintro c s' ⟨rfl,r,rfl,r1,r2,u⟩;exact W.pure (h r _ M3 (by lia) r2 u)
 ·have M0:Mv (arrOf st) (arrOf st) lo (lo+nrem):=.refl;have e1:n=1:=by lia
  have D0:Dn C (arrOf st) lo (lo+n+1):=Dn.more (λi j q1 q2 q3=>by rw[show i=j by lia];exact ak _) (by lia) (bu last);obtain⟨a0,M0,D0,es⟩:∃a0,Mv (arrOf st) a0 lo (lo+nrem)/\Dn C a0 lo (lo+n+1)/\st=setArr st a0:=⟨_,M0,D0,rfl⟩
  suffices H:W C _ Q (setArr st a0)from es▸H
  refine W.bind (W.rl (W.bind (W.mono (W.for (I:=λx c s'=>∃a' q,s'=setArr st a'/\c=(none,x,q)/\Mv (arrOf st) a' lo (lo+nrem)/\Dn C a' lo (lo+x)/\q+1<=x/\∀k,lo+x -(q+1)<=k->k<lo+x->ky C a' k=ky C a' (lo+x -1))
   (Q:=λc s'=>∃a' m q,s'=setArr st a'/\c=(none,m,q)/\n+1<=m/\m<=nrem/\Mv (arrOf st) a' lo (lo+nrem)/\Dn C a' lo (lo+m)/\q+1<=m/\∀k,lo+m -(q+1)<=k->k<lo+m->ky C a' k=ky C a' (lo+m -1)) ?_ ?_ ⟨a0,0,rfl,rfl,M0,D0,by lia,λk q1 q2=>by rw[show k=lo+(n+1) -1 by lia]⟩) ?_)))
  ·rintro x c s' oq HR ⟨a',q,rfl,rfl,M,D,q1,al⟩;dsimp only;have oq:n+1<=x:=oq;have sz:=M.sz;have kk:∀k,ky C (mirror a' (lo+x -(q+1)) (lo+x) ((lo+x -(lo+x -(q+1)))/2)) k=ky C a' k:=λk=>by
    rw[gu (by lia)];split
    ·rw[al _ (by lia) (by lia),al k (by lia) (by lia)]
    ·rfl
   refine W.bind (W.at hk (M.in gG) (by rw[sz];lia) (by rw[sz];lia) ?_);by_cases e:ky C a' (lo+x)<ky C a' (lo+x -1)
   ·rw[aU e];refine W.ite (λ_=>?_) (λz=>absurd rfl z);refine W.ite (λ_=>W.bind (W.rev (W.pure ⟨_,0,rfl,rfl,M.trans ((jX (by lia)).wide (by lia) (by lia)),(D.of kk).more (by lia) (by rw[kk,kk];lia),by lia,λk q1 q2=>by rw[show k=lo+(x+1) -1 by lia]⟩))) λ_=>W.pure ⟨_,0,rfl,rfl,M,D.more (by lia) (by lia),by lia,λk q1 q2=>by rw[show k=lo+(x+1) -1 by lia]⟩
   ·rw[bt e];refine W.bind (W.at hk (M.in gG) (by rw[sz];lia) (by rw[sz];lia) ?_);by_cases e2:ky C a' (lo+x -1)<ky C a' (lo+x)
    ·rw[aU e2];exact W.pure ⟨_,_,_,rfl,rfl,oq,by lia,M,D,q1,al⟩
    ·rw[bt e2];refine W.pure ⟨_,_,rfl,rfl,M,D.more (by lia) (by lia),by lia,λk q1 q2=>?_⟩;rw[show lo+(x+1) -1=lo+x by lia];by_cases z:k=lo+x
     ·rw[z]
     ·rw[al k (by lia) (by lia)];lia
  ·rintro c s' ⟨a',q,rfl,rfl,M,D,q1,al⟩;dsimp only at*;rw[show max (n+1) nrem=nrem by lia]at*;exact⟨_,_,_,rfl,rfl,by lia,ak _,M,D,q1,al⟩
  ·rintro c s' ⟨a',m,q,rfl,rfl,m1,m2,M,D,q1,al⟩;dsimp only;have sz:=M.sz;refine W.ite (λ_=>W.bind (W.rev ?_)) λ_=>?_
   ·have M2:=M.trans ((jX (i:=lo+m -(q+1)) (j:=lo+m) (by lia)).wide (by lia) (by lia));have D:=D.of (b:=mirror a' (lo+m -(q+1)) (lo+m) ((lo+m -(lo+m -(q+1)))/2)) λk=>by
     rw[gu (by lia)];split
     ·rw[al _ (by lia) (by lia),al k (by lia) (by lia)]
     ·rfl
    generalize mirror a' (lo+m -(q+1)) (lo+m) ((lo+m -(lo+m -(q+1)))/2)=a2 at M2 D;have sz:=M2.sz;have M3:=M2.trans ((jX (i:=lo) (j:=lo+m) (by lia)).wide (by lia) (by lia));refine W.bind (W.rev (W.bind (W.mono (W.for (I:=λx c s'=>s'=setArr st (mirror a2 lo (lo+m) ((lo+m -lo)/2))/\c=(none,x)/\Up C (mirror a2 lo (lo+m) ((lo+m -lo)/2)) lo (lo+x))
     (Q:=λc s'=>s'=setArr st (mirror a2 lo (lo+m) ((lo+m -lo)/2))/\∃n,c=(none,n)/\m<=n/\n<=nrem/\Up C (mirror a2 lo (lo+m) ((lo+m -lo)/2)) lo (lo+n)) ?_ ?_ ⟨rfl,rfl,?_⟩) ?_)))
    ·rintro x c s' oq HR ⟨rfl,rfl,u⟩;refine W.bind (W.at hk (M3.in gG) (by rw[M3.sz];lia) (by rw[M3.sz];lia) ?_);by_cases e:ky C (mirror a2 lo (lo+m) ((lo+m -lo)/2)) (lo+x)<ky C (mirror a2 lo (lo+m) ((lo+m -lo)/2)) (lo+x -1)
     ·rw[aU e];exact W.pure ⟨rfl,x,rfl,oq,by lia,u⟩
     ·rw[bt e];exact W.pure ⟨rfl,rfl,u.more (by lia) (fD e)⟩
    ·rintro c s' ⟨rfl,rfl,u⟩;rw[show max m nrem=nrem by lia]at u⊢;exact⟨rfl,nrem,rfl,by lia,ak _,u⟩
    ·exactλi j q1 q2 q3=>by rw[gu (by lia),gu (by lia),aB (by lia),aB (by lia)];exact D _ _ (by lia) (by lia) (by lia)
    ·rintro c s' ⟨rfl,r,rfl,r1,r2,u⟩;exact W.pure (h r _ M3 (by lia) r2 u)
   ·have M3:=M.trans ((jX (i:=lo) (j:=lo+m) (by lia)).wide (by lia) (by lia));refine W.bind (W.rev (W.bind (W.mono (W.for (I:=λx c s'=>s'=setArr st (mirror a' lo (lo+m) ((lo+m -lo)/2))/\c=(none,x)/\Up C (mirror a' lo (lo+m) ((lo+m -lo)/2)) lo (lo+x))
     (Q:=λc s'=>s'=setArr st (mirror a' lo (lo+m) ((lo+m -lo)/2))/\∃n,c=(none,n)/\m<=n/\n<=nrem/\Up C (mirror a' lo (lo+m) ((lo+m -lo)/2)) lo (lo+n)) ?_ ?_ ⟨rfl,rfl,?_⟩) ?_)))
    ·rintro x c s' oq HR ⟨rfl,rfl,u⟩;refine W.bind (W.at hk (M3.in gG) (by rw[M3.sz];lia) (by rw[M3.sz];lia) ?_);by_cases e:ky C (mirror a' lo (lo+m) ((lo+m -lo)/2)) (lo+x)<ky C (mirror a' lo (lo+m) ((lo+m -lo)/2)) (lo+x -1)
     ·rw[aU e];exact W.pure ⟨rfl,x,rfl,oq,by lia,u⟩
     ·rw[bt e];exact W.pure ⟨rfl,rfl,u.more (by lia) (fD e)⟩
    ·rintro c s' ⟨rfl,rfl,u⟩;rw[show max m nrem=nrem by lia]at u⊢;exact⟨rfl,nrem,rfl,by lia,ak _,u⟩
    ·exactλi j q1 q2 q3=>by rw[gu (by lia),gu (by lia),aB (by lia),aB (by lia)];exact D _ _ (by lia) (by lia) (by lia)
    ·rintro c s' ⟨rfl,r,rfl,r1,r2,u⟩;exact W.pure (h r _ M3 (by lia) r2 u)
end
variable{C:Ct}{st:SortSt}
def Fj(hs:s<a.size)(hd:d<=s)(k:Nat):ky C (bubble a s (s -d)) k=if k=d then ky C a s else if d<k/\k<=s then ky C a (k -1)else ky C a k:=by
 unfold ky;rw[getElem?_bubble hs _ (by lia),show s -(s -d)=d by lia];split
 ·rfl
 ·split<;>rfl
def aaA{lo n ok:Nat}(hk:kindOf st=C.κ)(gG:∀x∈arrOf st,C.In x)(bw:ok<=n)(hs:lo+n<=(arrOf st).size)(u0:Up C (arrOf st) lo (lo+ok))
  (h:∀a',Mv (arrOf st) a' lo (lo+n)->Up C a' lo (lo+n)->Q true (setArr st a')):W C (binarySort' lo n ok) Q st:=by
 unfold binarySort';refine W.bind (W.mono (W.for (I:=λk c s'=>∃a',s'=setArr st a'/\c=(none,())/\Mv (arrOf st) a' lo (lo+n)/\Up C a' lo (lo+min k n))
  (Q:=λc s'=>∃a',s'=setArr st a'/\c=(none,())/\Mv (arrOf st) a' lo (lo+n)/\Up C a' lo (lo+n)) ?_ ?_ ⟨arrOf st,rfl,rfl,.refl,λi j q1 q2 q3=>?_⟩) ?_)
 ·rintro k c s' k1 k2 ⟨a',rfl,rfl,M,u⟩;rw[show min k n=k by lia]at u;have sz:=M.sz;refine W.bind (W.mono (W.for (I:=λx c s'=>s'=setArr st a'/\∃l r,c=(none,l,r)/\l<=r/\r<=k/\r -l<=k -x/\(∀i,lo<=i->i<lo+l->ky C a' i<=ky C a' (lo+k))/\(∀i,lo+r<=i->i<lo+k->ky C a' (lo+k)<=ky C a' i))
   (Q:=λc s'=>s'=setArr st a'/\∃l r,c=(none,l,r)/\l<=k/\(∀i,lo<=i->i<lo+l->ky C a' i<=ky C a' (lo+k))/\(∀i,lo+l<=i->i<lo+k->ky C a' (lo+k)<=ky C a' i)) ?_ ?_ ⟨rfl,0,k,rfl,by lia,by lia,by lia,λi h1 h2=>by lia,λi h1 h2=>by lia⟩) ?_)
  ·rintro x c s' _ hx ⟨rfl,l,r,rfl,b1,b2,b3,b4,b5⟩;dsimp only;refine W.ite (λc=>W.pure ⟨rfl,l,r,rfl,by lia,b4,λi q1 q2=>b5 i (by lia) q2⟩) λc=>W.bind (W.at hk (M.in gG) (by rw[sz];lia) (by rw[sz];lia) ?_);by_cases e:ky C a' (lo+k)<ky C a' (lo+(l+r)/2)
   ·rw[aU e];exact W.pure ⟨rfl,l,_,rfl,by lia,by lia,by lia,b4,λi q1 q2=>aE (bu e) (u _ _ (by lia) q1 q2)⟩
   ·rw[bt e];exact W.pure ⟨rfl,_,r,rfl,by lia,by lia,by lia,λi q1 q2=>aE (u _ (lo+(l+r)/2) q1 (by lia) (by lia)) (fD e),b5⟩
  ·rintro c s' ⟨rfl,l,r,rfl,b1,b2,b3,b4,b5⟩;exact⟨rfl,l,r,rfl,by lia,b4,λi q1 q2=>b5 i (by lia) q2⟩
  ·rintro c s' ⟨rfl,l,r,rfl,b1,b4,b5⟩;refine W.bind (W.modify (W.pure ⟨bubble a' (lo+k) (lo+k -(lo+l)),rfl,rfl,M.trans ((Oi (by lia) (by lia)).wide (by lia) (by lia)),?_⟩));rw[show min (k+1) n=k+1 by lia];intro i j q1 q2 q3;rw[Fj (by lia) (by lia),Fj (by lia) (by lia)];split
   ·split
    ·exact ak _
    ·split
     ·exact b5 _ (by lia) (by lia)
     ·lia
   ·split
    ·split
     ·lia
     ·split
      ·exact u _ _ (by lia) (by lia) (by lia)
      ·lia
    ·split
     ·exact b4 _ (by lia) (by lia)
     ·split
      ·exact u _ _ (by lia) (by lia) (by lia)
      ·exact u _ _ (by lia) (by lia) (by lia)
 ·rintro c s' ⟨a',rfl,rfl,M,u⟩;rw[show min (max (max ok 1) n) n=n by lia]at u;exact⟨a',rfl,rfl,M,u⟩
 ·by_cases z:ok=0
  ·rw[show i=j by lia];exact ak _
  ·exact u0 i j q1 q2 (by lia)
 ·rintro c s' ⟨a',rfl,rfl,M,u⟩;exact W.pure (h a' M u)
variable{C:Ct}{st:SortSt}
def W.set(h:Q ⟨⟩ s'):W C (set s':StateT SortSt Sem PUnit) Q st:=λs j=>by rw[StateT.run_set];exact ah ⟨j,h⟩
theorem GW(sa:Nat):∀(l:List Keyed)(n:Nat)(a:Array Keyed),sa+n+l.length<=a.size->∀k,((l.zipIdx n).foldl (λa(x:Keyed×Nat)=>a.setIfInBounds (sa+x.2) x.1) a)[k]?=if sa+n<=k/\k<sa+n+l.length then l[k -(sa+n)]? else a[k]?
 |[],n,a,_,k=>by rw[ax (by simp)];rfl
 |x::l,n,a,h,k=>by
  rw[bH]at h⊢;rw[jB,j9,GW sa l (n+1) _ (by rw[Array.size_setIfInBounds];lia)];by_cases e:k=sa+n
  ·subst e;rw[ax (by lia),aB (by lia),Array.getElem?_setIfInBounds_self_of_lt (by lia)];simp
  ·rw[Array.getElem?_setIfInBounds_ne (by lia)];by_cases c:sa+n<=k/\k<sa+n+(l.length+1)
   ·rw[aB c,aB (by lia),show k -(sa+n)=k -(sa+(n+1))+1 by lia,nQ]
   ·rw[ax c,ax (by lia)]
def Vq{a:Array Keyed}(h:sa+l.length<=a.size):(l.zipIdx.foldl (λa(x:Keyed×Nat)=>a.setIfInBounds (sa+x.2) x.1) a).toList=a.toList.take sa++l++a.toList.drop (sa+l.length):=by
 apply tf;intro k;rw[bD,GW sa l 0 a h,jA];by_cases c:k<sa
 ·rw[ax (by lia),b9,dn (by simp;lia),mZ c,bD]
 ·by_cases d:k<sa+l.length
  ·rw[aB ⟨by lia,d⟩,dn (by simp;lia),dh (by simp;lia)];simp[show min sa a.size=sa by lia]
  ·rw[ax (by lia),dh (by simp;lia),Au];simp[show min sa a.size=sa by lia];rw[show sa+l.length+(k -(sa+l.length))=k by lia]
def wY{a:Array Keyed}(hh:h<=a.size)(q:i<(a.extract l h).size):(a.extract l h)[i]=a[l+i]'(by rw[AD]at q;lia):=by simp
def DB{a:Array Keyed}(hh:h<=a.size):(a.extract l h).size=h -l:=by rw[AD];lia
def PD(u:Up C a l' h')(hh:h<=a.size)(c1:l'<=l)(c2:h<=h'):So C (a.extract l h):=by refine dU.mpr λi j hi hj z=>?_;rw[aR]at hi hj;rw[lA,lA,wY hh,wY hh,<-hX,<-hX];rw[DB hh]at hj;exact u _ _ (by lia) (by lia) (by lia)
def ext_mem{a:Array Keyed}(hh:h<=a.size)(m:x∈a.extract l h):∃i,∃q:i<a.size,l<=i/\i<h/\x=a[i]:=by obtain⟨i,hi,e⟩:=Array.mem_iff_getElem.mp m;have:=DB (l:=l) hh;exact⟨l+i,by lia,by lia,by lia,by rw[<-e,wY hh]⟩
def M6(hk:kindOf st=C.κ)(hf:failedOf st=none)(gG:∀x∈arrOf st,C.In x)(e1:(pendingOf st)[i]?=some (sa,na,pw))(e2:(pendingOf st)[i+1]?=some (sb,nb,x))(hsb:sb=sa+na)(na1:0<na)(nb1:0<nb)(sz:sb+nb<=(arrOf st).size)(u1:Up C (arrOf st) sa sb)(u2:Up C (arrOf st) sb (sb+nb))
  (h:∀a' g,Mv (arrOf st) a' sa (sb+nb)->Up C a' sa (sb+nb)->Q true (SortSt.mk' (kindOf st) a' (((pendingOf st).setIfInBounds i (sa,na+nb,pw)).eraseIdxIfInBounds (i+1)) g none)):W C (mergeAt' i) Q st:=by
 have rk:∀{l hi:Nat},Up C (arrOf st) l hi->∀i j,l<=i->(z:i<=j)->j<hi->(q:j<(arrOf st).size)->C.rk ((arrOf st)[i]'(by lia))<=C.rk (arrOf st)[j]:=λu i j h1 z h2 q=>by rw[<-hX,<-hX];exact u i j h1 z h2
 unfold mergeAt';refine W.bind (W.get ?_);show W C (match((pendingOf st)[i]?,(pendingOf st)[i+1]?)with|(some (sa,na,power),some (sb,nb,_))=>_|_=>_) Q st;rw[e1,e2];have nx:∀{g:Nat}{a':Array Keyed},Mv (arrOf st) a' sa (sb+nb)->Up C a' sa (sb+nb)->Q true (SortSt.mk' (kindOf st) a' (((pendingOf st).setIfInBounds i (sa,na+nb,pw)).eraseIdxIfInBounds (i+1)) g (failedOf st)):=λm u=>by rw[hf];exact h _ _ m u
 refine W.bind (W.set (W.bind (W.elem (a:=arrOf st) (i:=sb) (by lia) (W.bind (D6 (arr:=arrOf st) (base:=sa) (n:=na) (hint:=0) hk (gG _ (cP _)) gG (by rw[<-hsb];exact rk u1) (by lia) na1 λk q1 q2 q3=>?_)))));have f2:∀i,sa<=i->i<sa+k->ky C (arrOf st) i<=ky C (arrOf st) sb:=λi z1 z2=>by have:=q2 i z1 z2 (by lia);rw[<-hX,<-hX]at this;exact this
 have f3:∀i,sa+k<=i->i<sb->ky C (arrOf st) sb<ky C (arrOf st) i:=λi z1 z2=>by have:=q3 i z1 (by lia) (by lia);rw[<-hX,<-hX]at this;exact this
 refine W.ite (λc=>W.pure (nx .refl λi j z1 z2 z3=>?_)) λc=>?_
 ·have c:k=na:=by simp at c;lia
  by_cases i1:i<sb
  ·by_cases j1:j<sb
   ·exact u1 i j z1 z2 j1
   ·exact aE (f2 i z1 (by lia)) (u2 sb j (ak _) (by lia) z3)
  ·exact u2 i j (by lia) z2 z3
 have c:k<na:=by simp at c;lia
 have ix:sa+k+(na -k) -1=sb -1:=by lia
 refine W.bind (W.elem (a:=arrOf st) (i:=sa+k+(na -k) -1) (by lia) (W.bind (w_left (arr:=arrOf st) (base:=sb) (n:=nb) (hint:=nb -1) hk (gG _ (cP _)) gG (rk u2) (by lia) (by lia) λnc p1 p2 p3=>?_)));have f4:∀i,sb<=i->i<sb+nc->ky C (arrOf st) i<ky C (arrOf st) (sb -1):=λi z1 z2=>by have:=p2 i z1 z2 (by lia);rw[<-hX,<-hX,ix]at this;exact this
 have f5:∀i,sb+nc<=i->i<sb+nb->ky C (arrOf st) (sb -1)<=ky C (arrOf st) i:=λi z1 z2=>by have:=p3 i z1 z2 (by lia);rw[<-hX,<-hX,ix]at this;exact this
 refine W.ite (λc=>W.pure (nx .refl λi j z1 z2 z3=>?_)) λc2=>?_
 ·have c:nc=0:=by simpa using c
  by_cases i1:i<sb
  ·by_cases j1:j<sb
   ·exact u1 i j z1 z2 j1
   ·exact aE (u1 i (sb -1) z1 (by lia) (by lia)) (f5 j (by lia) z3)
  ·exact u2 i j (by lia) z2 z3
 have c2:0<nc:=by simp at c2;lia
 have sx:=DB (a:=arrOf st) (l:=sa+k) (h:=sb) (by lia);have sy:=DB (a:=arrOf st) (l:=sb) (h:=sb+nc) (by lia);have e0:C.rk (((arrOf st).extract sb (sb+nc))[0]'(by lia))<C.rk (((arrOf st).extract (sa+k) sb)[0]'(by lia)):=by rw[wY (by lia),wY (by lia),<-hX,<-hX];exact f3 _ (by lia) (by lia)
 have el:∀y∈(arrOf st).extract sb (sb+nc),C.rk y<C.rk (((arrOf st).extract (sa+k) sb)[((arrOf st).extract (sa+k) sb).size -1]'(by lia)):=λy hy=>by obtain⟨i,q,z1,z2,rfl⟩:=ext_mem (by lia) hy;rw[wY (by lia),<-hX,<-hX,sx,show sa+k+(sb -(sa+k) -1)=sb -1 by lia];exact f4 i z1 z2
 have hx:∀{l h:Nat},h<=(arrOf st).size->∀x∈(arrOf st).extract l h,C.In x:=λhh x hx=>by obtain⟨i,q,z1,z2,rfl⟩:=ext_mem hh hx;exact gG _ (cP _)
 have fin:∀(m:Array Keyed),Res C ((arrOf st).extract (sa+k) sb) ((arrOf st).extract sb (sb+nc)) m->Mv (arrOf st) (m.toList.zipIdx.foldl (λa(x:Keyed×Nat)=>a.setIfInBounds (sa+k+x.2) x.1) (arrOf st)) sa (sb+nb)/\Up C (m.toList.zipIdx.foldl (λa(x:Keyed×Nat)=>a.setIfInBounds (sa+k+x.2) x.1) (arrOf st)) sa (sb+nb):=by
  rintro m ⟨pm,so⟩;have lm:m.toList.length=sb+nc -(sa+k):=by rw[pm.length_eq,aK,aR,aR];lia
  have el:=GW (sa+k) m.toList 0 (arrOf st) (by lia);rw[lm,jA,show sa+k+(sb+nc -(sa+k))=sb+nc by lia]at el;have pl:=Vq (sa:=sa+k) (l:=m.toList) (a:=arrOf st) (by lia);rw[lm,show sa+k+(sb+nc -(sa+k))=sb+nc by lia]at pl;generalize m.toList.zipIdx.foldl (λa(x:Keyed×Nat)=>a.setIfInBounds (sa+k+x.2) x.1) (arrOf st)=a' at el pl⊢;have inn:∀i,sa+k<=i->i<sb+nc->∃j,sa+k<=j/\j<sb+nc/\ky C a' i=ky C (arrOf st) j:=λi z1 z2=>by
   have e:=el i;rw[aB ⟨z1,z2⟩,ar (by lia)]at e;have hm:=pm.mem_iff.mp (jH (l:=m.toList) (n:=i -(sa+k)) (by lia));have ek:ky C a' i=C.rk (m.toList[i -(sa+k)]'(by lia)):=by unfold ky;rw[e];rfl
   rw[ek];rcases bf.mp hm with hm|hm
   ·obtain⟨j,q,z3,z4,e3⟩:=ext_mem (by lia) (lq.mp hm);exact⟨j,z3,by lia,by rw[e3,hX]⟩
   ·obtain⟨j,q,z3,z4,e3⟩:=ext_mem (by lia) (lq.mp hm);exact⟨j,by lia,z4,by rw[e3,hX]⟩
  have out:∀i,i<sa+k\/sb+nc<=i->ky C a' i=ky C (arrOf st) i:=λi z=>xN (by rw[el i,ax (by lia)]);refine⟨⟨sM.mpr ?_,λi z=>by rw[el i,ax (by lia)]⟩,λi j z1 z2 z3=>?_⟩
  ·rw[pl];have e:(arrOf st).toList=(arrOf st).toList.take (sa+k)++(((arrOf st).extract (sa+k) sb).toList++((arrOf st).extract sb (sb+nc)).toList)++(arrOf st).toList.drop (sb+nc):=by
    have e':((arrOf st).extract (sa+k) sb).toList++((arrOf st).extract sb (sb+nc)).toList=((arrOf st).toList.drop (sa+k)).take (sb+nc -(sa+k)):=by rw[<-qC,Array.extract_append_extract,gW (by lia),Nat.max_eq_right (by lia),qm,List.extract_eq_drop_take]
    rw[e']
    conv=>lhs;rw[<-c8 (sb+nc) (arrOf st).toList,<-c8 (sa+k) ((arrOf st).toList.take (sb+nc))]
    rw[List.take_take,gW (by lia),List.drop_take]
   conv=>rhs;rw[e]
   exact v7 _ (pj _ pm)
  ·have lo:∀j,sa+k<=j->j<sb+nc->ky C (arrOf st) sb<=ky C (arrOf st) j:=λj y1 y2=>by
    by_cases c:j<sb
    ·exact bu (f3 j y1 c)
    ·exact u2 sb j (ak _) (by lia) (by lia)
   have hi:∀i j,sa+k<=i->i<sb+nc->sb+nc<=j->j<sb+nb->ky C (arrOf st) i<=ky C (arrOf st) j:=λi j y1 y2 y3 y4=>by
    by_cases c:i<sb
    ·exact aE (u1 i (sb -1) (by lia) (by lia) (by lia)) (f5 j y3 y4)
    ·exact u2 i j (by lia) (by lia) y4
   by_cases i1:i<sa+k
   ·rw[out i (.inl i1)];by_cases j1:j<sa+k
    ·rw[out j (.inl j1)];exact u1 i j z1 z2 (by lia)
    ·by_cases j2:j<sb+nc
     ·obtain⟨t,t1,t2,e⟩:=inn j (by lia) j2;rw[e];exact aE (f2 i z1 i1) (lo t t1 t2)
     ·rw[out j (.inr (by lia))];exact aE (f2 i z1 i1) (u2 sb j (ak _) (by lia) z3)
   ·by_cases i2:i<sb+nc
    ·by_cases j2:j<sb+nc
     ·have hso:=dU.mp so;have g:∀i,(z1:sa+k<=i)->(z2:i<sb+nc)->ky C a' i=C.rk (m.toList[i -(sa+k)]'(by lia)):=λi z1 z2=>by unfold ky;rw[el i,aB ⟨z1,z2⟩,ar (by lia)];rfl
      rw[g i (by lia) i2,g j (by lia) j2];by_cases e:i=j
      ·subst e;exact ak _
      ·exact hso _ _ _ _ (by lia)
     ·obtain⟨t,t1,t2,e⟩:=inn i (by lia) i2;rw[e,out j (.inr (by lia))];exact hi t j t1 t2 (by lia) z3
    ·rw[out i (.inr (by lia)),out j (.inr (by lia))];exact u2 i j (by lia) z2 z3
 have o1:So C ((arrOf st).extract (sa+k) sb):=PD u1 (by lia) (by lia) (ak _);have o2:So C ((arrOf st).extract sb (sb+nc)):=PD u2 (by lia) (ak _) (by lia);have h1:=hx (l:=sa+k) (h:=sb) (by lia);have h2:=hx (l:=sb) (h:=sb+nc) (by lia);have l1:0<((arrOf st).extract (sa+k) sb).size:=by lia
 have l2:0<((arrOf st).extract sb (sb+nc)).size:=by lia
 refine W.ite (λ_=>W.bind (MZ hk h1 h2 o1 o2 l1 l2 e0 el λm g R=>?_)) (λ_=>W.bind (M5 hk h1 h2 o1 o2 l1 l2 e0 el λm g R=>?_));all_goals
  refine W.bind (W.modify (W.bind (W.get (W.pure ?_))));show Q (Option.isNone (failedOf st)) _;have e9:Option.isNone (failedOf st)=true:=by rw[hf];rfl
  rw[e9];exact nx (fin m R).1 (fin m R).2
variable{C:Ct}{st:SortSt}
abbrev R3:=Nat×Nat×Nat
def Rn(C:Ct)(a:Array Keyed):Nat->List R3->Nat->Prop
 |b,[],e=>b=e
 |b,r::l,e=>r.1=b/\0<r.2.1/\Up C a b (b+r.2.1)/\Rn C a (b+r.2.1) l e
theorem Rn.le:∀{l:List R3}{b e:Nat},Rn C a b l e->b+l.length<=e
 |[],b,e,h=>by rw[show b=e from h];exact ak _
 |r::l,b,e,⟨_,h1,_,h⟩=>by have:=h.le;rw[bH];lia
theorem Rn.app:∀{l m:List R3}{b e:Nat},Rn C a b (l++m) e↔∃k,Rn C a b l k/\Rn C a k m e
 |[],m,b,e=>⟨λh=>⟨b,rfl,h⟩,λ⟨k,h1,h2⟩=>by rw[show b=k from h1];exact h2⟩
 |r::l,m,b,e=>⟨λ⟨h1,h2,h3,h4⟩=>by obtain⟨k,q1,q2⟩:=Rn.app.mp h4;exact⟨k,⟨h1,h2,h3,q1⟩,q2⟩,λ⟨k,⟨h1,h2,h3,q1⟩,q2⟩=>⟨h1,h2,h3,Rn.app.mpr ⟨k,q1,q2⟩⟩⟩
theorem Rn.mv{lo hi:Nat}(m:Mv a a' lo hi):∀{l:List R3}{b e:Nat},Rn C a b l e->(e<=lo\/hi<=b)->Rn C a' b l e
 |[],b,e,h,_=>h
 |r::l,b,e,⟨h1,h2,h3,h⟩,c=>by have:=h.le;exact⟨h1,h2,m.up h3 (by lia),Rn.mv m h (by lia)⟩
def Rn.pow(h:Rn C a b (l++[r]) e):Rn C a b (l++[(r.1,r.2.1,p)]) e:=by obtain⟨k,h1,h2⟩:=Rn.app.mp h;exact Rn.app.mpr ⟨k,h1,h2⟩
def Sr{i:Nat}{r s:R3}(h1:l[i]?=some r)(h2:l[i+1]?=some s):∃m n,l=m++r::s::n/\m.length=i:=by
 obtain⟨q1,e1⟩:=aq.mp h1;obtain⟨q2,e2⟩:=aq.mp h2;refine⟨l.take i,l.drop (i+2),?_,by rw[aS];lia⟩
 conv=>lhs;rw[<-c8 i l,jl q1,jl q2,e1,e2]
abbrev SS(st:SortSt)(a:Array Keyed)(P:Array R3)(g:Nat):SortSt:=SortSt.mk' (kindOf st) a P g none
def Qs(hk:kindOf st=C.κ)(gG:∀x∈a,C.In x)(hr:Rn C a 0 P.toList e)(he:e<=a.size)(hi:i+1<P.size)
  (h:∀a' P' g,a'.Perm a->P'.size+1=P.size->Rn C a' 0 P'.toList e->(∀k,e<=k->a'[k]?=a[k]?)->Q true (SS st a' P' g)):W C (mergeAt' i) Q (SS st a P g):=by
 have q1:P.toList[i]?=some (P[i]'(by lia)):=by rw[bD,getElem?_pos]
 have q2:P.toList[i+1]?=some (P[i+1]'hi):=by rw[bD,getElem?_pos]
 obtain⟨m,n,el,lm⟩:=Sr q1 q2;have rP:=hr;rw[el]at hr;obtain⟨b,r1,r2,r3,r4,r5,r6,r7,r8⟩:=Rn.app.mp hr;have r9:=r8.le;generalize P[i]'(by lia)=x at*;generalize P[i+1]'hi=y at*;refine M6 (sa:=x.1) (na:=x.2.1) (pw:=x.2.2) (sb:=y.1) (nb:=y.2.1) (x:=y.2.2) hk rfl gG (by rw[<-bD];exact q1) (by rw[<-bD];exact q2) (by lia) r3 r6 (by show y.1+y.2.1<=a.size;lia) (by rw[r5,r2];exact r4) (by rw[r5];exact r7) λa' g' mv u=>?_;have mv:Mv a a' x.1 (y.1+y.2.1):=mv;have el2:(((P.setIfInBounds i (x.1,x.2.1+y.2.1,x.2.2)).eraseIdxIfInBounds (i+1))).toList=m++(x.1,x.2.1+y.2.1,x.2.2)::n:=by rw[Array.toList_eraseIdxIfInBounds,Array.toList_setIfInBounds,el];subst lm;simp;rw[List.eraseIdx_append_of_length_le (by lia),show m.length+1 -m.length=1 by lia];rfl
 refine h a' _ g' mv.pm ?_ ?_ λk hk=>mv.ou k (.inr (by lia))
 ·rw[<-aR,el2,<-aR (xs:=P),el];simp;lia
 ·rw[el2];refine Rn.app.mpr ⟨b,Rn.mv mv r1 (.inl (by lia)),r2,by dsimp only;lia,?_,?_⟩
  ·rw[r2,r5]at u;rw[show b+(x.2.1+y.2.1)=b+x.2.1+y.2.1 by lia];exact u
  ·rw[show b+(x.2.1+y.2.1)=b+x.2.1+y.2.1 by lia];exact Rn.mv mv r8 (.inr (by lia))
abbrev S3(C:Ct)(a:Array Keyed)(P:Array R3)(g:Nat):SortSt:=SortSt.mk' C.κ a P g none
def Rn.push{P:Array R3}{lo n:Nat}(h:Rn C a 0 P.toList lo)(hn:0<n)(u:Up C a lo (lo+n)):Rn C a 0 (P.push (lo,n,0)).toList (lo+n):=by rw[kH];exact Rn.app.mpr ⟨lo,h,rfl,hn,u,rfl⟩
def Rn.XI{P:Array R3}{lo pw:Nat}(h:Rn C a 0 P.toList lo)(hp:0<P.size):Rn C a 0 (P.modify (P.size -1) λx=>(x.1,x.2.1,pw)).toList lo:=by
 have ne:P.toList≠[]:=λz=>by rw[<-aR,z]at hp;exact absurd hp (by decide)
 have e:(P.modify (P.size -1) λx=>(x.1,x.2.1,pw)).toList=P.toList.dropLast++[((P.toList.getLast ne).1,(P.toList.getLast ne).2.1,pw)]:=by rw[Array.toList_modify,List.modify_eq_take_cons_drop (by simpa using Nat.sub_lt hp Nat.one_pos),List.drop_of_length_le (by simp;lia),List.dropLast_eq_take,List.getLast_eq_getElem];simp
 rw[e];rw[<-qU ne]at h;exact h.pow
def WS(gG:∀x∈a0,C.In x)(h2:2<=a0.size)
  (h:∀a' P g,a'.Perm a0->Up C a' 0 a0.size->Q () (S3 C a' P g)):W C sortRuns' Q (S3 C a0 #[] g0):=by
 unfold sortRuns';refine W.bind (W.get ?_);dsimp only[S3,SortSt.mk'];generalize hN:a0.size=N at*;refine W.bind (W.mono (W.for (I:=λx c s'=>∃a P g lo,s'=S3 C a P g/\c=(none,lo)/\a.Perm a0/\Rn C a 0 P.toList lo/\x<=lo/\lo<=N)
  (Q:=λc s'=>∃a P g,s'=S3 C a P g/\c=(none,N)/\a.Perm a0/\Rn C a 0 P.toList N) ?_ ?_ ⟨a0,#[],g0,0,rfl,rfl,.refl _,rfl,by lia,by lia⟩) ?_)
 ·rintro x c s' _ hx ⟨a,P,g,lo,rfl,rfl,pm,rn,l1,l2⟩;have sz:a.size=N:=by rw[pm.size_eq,hN]
  have ia:∀x∈a,C.In x:=λx hx=>gG x (pm.mem_iff.mp hx);refine W.ite (λc=>W.pure ?_) λc=>?_
  ·have c:lo=N:=by dsimp only at c;lia
   subst c;exact⟨a,P,g,rfl,rfl,pm,rn⟩
  have c:lo<N:=by dsimp only at c;lia
  refine W.bind (w_count (st:=S3 C a P g) (lo:=lo) (nrem:=N -lo) rfl ia (by lia) (show lo+(N -lo)<=a.size by lia) λm a1 mv m1 m2 u=>?_);have mv:Mv a a1 lo (lo+(N -lo)):=mv;have sz1:=mv.sz;refine W.ite (λc1=>W.bind (W.rl (W.bind (aaA (st:=S3 C a1 P g) (lo:=lo) (n:=min (N -lo) (minRun' N N 0)) (ok:=m) rfl (mv.in ia) ?_ (show lo+min (N -lo) (minRun' N N 0)<=a1.size by lia) u λa2 mv2 u2=>?_)))) λc1=>?_
  ·have c1:m<minRun' N N 0:=c1;lia
  ·have c1:m<minRun' N N 0:=c1;have Tr:Mv a a2 lo (lo+(N -lo)):=mv.trans (Mv.wide mv2 (ak _) (by lia));have n1:0<min (N -lo) (minRun' N N 0):=by lia
   have n2:lo+min (N -lo) (minRun' N N 0)<=N:=by lia
   refine W.ite (λz=>by simp at z) λ_=>?_;show W C _ _ (S3 C a2 P g);have NG:Rn C a2 0 P.toList lo:=Rn.mv Tr rn (.inl (ak _));have NO:a2.Perm a0:=Tr.pm.trans pm;refine W.bind (W.get ?_);cases hb:P.back? with
   |none=>
    exact W.bind (W.modify (W.pure ⟨a2,P.push (lo,min (N -lo) (minRun' N N 0),0),g,lo+min (N -lo) (minRun' N N 0),rfl,rfl,NO,NG.push n1 u2,by lia,by lia⟩))
   |some r=>
    obtain⟨s1,k1,w1⟩:=r;have p0:0<P.size:=by
     rcases Aq P.size with z|z
     ·rw[vc,getElem?_neg P _ (by lia)]at hb;cases hb
     ·exact z
    refine W.bind (W.mono (W.for (I:=λy c s'=>∃b2 P2 g2,s'=S3 C b2 P2 g2/\c=(none,())/\b2.Perm a2/\(∀k,lo<=k->b2[k]?=(a2)[k]?)/\Rn C b2 0 P2.toList lo/\0<P2.size) (Q:=λc s'=>∃b2 P2 g2,s'=S3 C b2 P2 g2/\c=(none,())/\b2.Perm a2/\(∀k,lo<=k->b2[k]?=(a2)[k]?)/\Rn C b2 0 P2.toList lo/\0<P2.size) ?_ (λ_ _ h=>h) ⟨_,_,_,rfl,rfl,.refl _,λ_ _=>rfl,NG,p0⟩) ?_)
    ·rintro y c s' _ hy ⟨b2,P2,g2,rfl,rfl,lY,ou,pD,p2⟩;refine W.bind (W.get ?_);by_cases c:P2.size>1
     ·have e1:(if(pendingOf (S3 C b2 P2 g2)).size>1 then(pendingOf (S3 C b2 P2 g2))[(pendingOf (S3 C b2 P2 g2)).size -2]? else none)=some ((P2[P2.size -2]'(by lia)).1,(P2[P2.size -2]'(by lia)).2.1,(P2[P2.size -2]'(by lia)).2.2):=by rw[aB c,getElem?_pos P2 (P2.size -2) (by lia)]
      dsimp only;rw[e1];refine W.ite (λ_=>W.pure ⟨_,_,_,rfl,rfl,lY,ou,pD,p2⟩) λ_=>W.bind (Qs (st:=S3 C b2 P2 g2) (e:=lo) rfl (λx hx=>ia x (Tr.pm.mem_iff.mp (lY.mem_iff.mp hx))) pD (by rw[lY.size_eq,Tr.pm.size_eq,sz];lia) (show P2.size -2+1<P2.size by lia) λa3 P3 g3 q1 q2 q3 q4=>?_);exact W.pure ⟨a3,P3,g3,rfl,rfl,q1.trans lY,λk hk=>(q4 k hk).trans (ou k hk),q3,by lia⟩
     ·have e1:(if(pendingOf (S3 C b2 P2 g2)).size>1 then(pendingOf (S3 C b2 P2 g2))[(pendingOf (S3 C b2 P2 g2)).size -2]? else none)=none:=ax c;dsimp only;rw[e1];exact W.pure ⟨_,_,_,rfl,rfl,lY,ou,pD,p2⟩
    ·rintro c s' ⟨b2,P2,g2,rfl,rfl,lY,ou,pD,p2⟩;refine W.bind (W.modify (W.bind (W.modify (W.pure ⟨b2,_,g2,lo+min (N -lo) (minRun' N N 0),rfl,rfl,lY.trans NO,Rn.push (pD.XI p2) n1 λi j z1 z2 z3=>?_,by lia,by lia⟩))));rw[xN (ou i z1),xN (ou j (by lia))];exact u2 i j z1 z2 z3
  ·have n1:0<m:=m1;show W C _ _ (S3 C a1 P g);have NG:Rn C a1 0 P.toList lo:=Rn.mv mv rn (.inl (ak _));have NO:a1.Perm a0:=mv.pm.trans pm;refine W.bind (W.get ?_);cases hb:P.back? with
   |none=>
    exact W.bind (W.modify (W.pure ⟨a1,P.push (lo,m,0),g,lo+m,rfl,rfl,NO,NG.push n1 u,by lia,by lia⟩))
   |some r=>
    obtain⟨s1,k1,w1⟩:=r;have p0:0<P.size:=by
     rcases Aq P.size with z|z
     ·rw[vc,getElem?_neg P _ (by lia)]at hb;cases hb
     ·exact z
    refine W.bind (W.mono (W.for (I:=λy c s'=>∃a2 P2 g2,s'=S3 C a2 P2 g2/\c=(none,())/\a2.Perm a1/\(∀k,lo<=k->a2[k]?=(a1)[k]?)/\Rn C a2 0 P2.toList lo/\0<P2.size) (Q:=λc s'=>∃a2 P2 g2,s'=S3 C a2 P2 g2/\c=(none,())/\a2.Perm a1/\(∀k,lo<=k->a2[k]?=(a1)[k]?)/\Rn C a2 0 P2.toList lo/\0<P2.size) ?_ (λ_ _ h=>h) ⟨_,_,_,rfl,rfl,.refl _,λ_ _=>rfl,NG,p0⟩) ?_)
    ·rintro y c s' _ hy ⟨a2,P2,g2,rfl,rfl,lY,ou,pD,p2⟩;refine W.bind (W.get ?_);by_cases c:P2.size>1
     ·have e1:(if(pendingOf (S3 C a2 P2 g2)).size>1 then(pendingOf (S3 C a2 P2 g2))[(pendingOf (S3 C a2 P2 g2)).size -2]? else none)=some ((P2[P2.size -2]'(by lia)).1,(P2[P2.size -2]'(by lia)).2.1,(P2[P2.size -2]'(by lia)).2.2):=by rw[aB c,getElem?_pos P2 (P2.size -2) (by lia)]
      dsimp only;rw[e1];refine W.ite (λ_=>W.pure ⟨_,_,_,rfl,rfl,lY,ou,pD,p2⟩) λ_=>W.bind (Qs (st:=S3 C a2 P2 g2) (e:=lo) rfl (λx hx=>ia x (mv.pm.mem_iff.mp (lY.mem_iff.mp hx))) pD (by rw[lY.size_eq,mv.pm.size_eq,sz];lia) (show P2.size -2+1<P2.size by lia) λa3 P3 g3 q1 q2 q3 q4=>?_);exact W.pure ⟨a3,P3,g3,rfl,rfl,q1.trans lY,λk hk=>(q4 k hk).trans (ou k hk),q3,by lia⟩
     ·have e1:(if(pendingOf (S3 C a2 P2 g2)).size>1 then(pendingOf (S3 C a2 P2 g2))[(pendingOf (S3 C a2 P2 g2)).size -2]? else none)=none:=ax c;dsimp only;rw[e1];exact W.pure ⟨_,_,_,rfl,rfl,lY,ou,pD,p2⟩
    ·rintro c s' ⟨a2,P2,g2,rfl,rfl,lY,ou,pD,p2⟩;refine W.bind (W.modify (W.bind (W.modify (W.pure ⟨a2,_,g2,lo+m,rfl,rfl,lY.trans NO,Rn.push (pD.XI p2) n1 λi j z1 z2 z3=>?_,by lia,by lia⟩))));rw[xN (ou i z1),xN (ou j (by lia))];exact u i j z1 z2 z3
 ·rintro c s' ⟨a,P,g,lo,rfl,rfl,pm,rn,l1,l2⟩;have c:lo=N:=by lia
  subst c;exact⟨a,P,g,rfl,rfl,pm,rn⟩
 ·rintro c s' ⟨a,P,g,rfl,rfl,pm,rn⟩;refine W.bind (W.mono (W.for (I:=λy c s'=>∃a2 P2 g2,s'=S3 C a2 P2 g2/\c=(none,())/\a2.Perm a0/\Rn C a2 0 P2.toList N/\(P2.size+y<=N\/P2.size<=1)) (Q:=λc s'=>∃a2 P2 g2,s'=S3 C a2 P2 g2/\c=(none,())/\a2.Perm a0/\Rn C a2 0 P2.toList N/\P2.size<=1) ?_ ?_ ⟨_,_,_,rfl,rfl,pm,rn,.inl ?_⟩) ?_)
  ·rintro y c s' _ hy ⟨a2,P2,g2,rfl,rfl,lY,pD,p2⟩;refine W.bind (W.get (W.ite (λc=>W.pure ⟨_,_,_,rfl,rfl,lY,pD,c⟩) λc=>?_));have c:1<P2.size:=Nat.lt_of_not_le c;refine W.bind (Qs (st:=S3 C a2 P2 g2) (e:=N) rfl (λx hx=>gG x (lY.mem_iff.mp hx)) pD (by rw[lY.size_eq,hN];lia) ?_ λa3 P3 g3 q1 q2 q3 q4=>W.pure ⟨a3,P3,g3,rfl,rfl,q1.trans lY,q3,by lia⟩);have two:∀{c:Prop}[Decidable c],(if c then P2.size -2 -1 else P2.size -2)+1<P2.size:=λ{c} _=>by
    by_cases z:c
    ·rw[aB z];lia
    ·rw[ax z];lia
   exact two
  ·rintro c s' ⟨a2,P2,g2,rfl,rfl,lY,pD,p2⟩;exact⟨_,_,_,rfl,rfl,lY,pD,by lia⟩
  ·have:=rn.le;rw[aR]at this;lia
  ·rintro c s' ⟨a2,P2,g2,rfl,rfl,lY,pD,p2⟩;refine W.pure (h a2 P2 g2 lY ?_);rw[<-aR]at p2;generalize P2.toList=l at pD p2
   match l,p2,pD with
   |[],_,e=>exact absurd (show 0=N from e) (by lia)
   |[r],_,⟨_,_,u,e⟩=>
    have e:0+r.2.1=N:=e;rw[e]at u;exact u
end Lg
namespace DU
open PySem PySem.W PyProof.Rows PySem.Calls
section
variable{prog:Program}{w:World}{A:Around}{E:Value->Shared->Prop}{s:Shared}{vs:List Value}
def Tk(s s':Shared):Prop:=∃t,s'={s with toks:=t}
def Tk.refl(s:Shared):Tk s s:=⟨s.toks,rfl⟩
abbrev oy(h:Heap)(a:Addr)(vs:List Value):Heap:=((h.update a (Obj.mapSeq λ_=>(#[]:Array Value))).push (seqObj "tuple" vs.toArray 0)).push (seqObj "list" #[] 0)
def U9{rk:Value->Nat}(ho:s.heap.get? a=some (seqObj "list" vs.toArray n))(h2:2<=vs.length)(BB:vs.length<1000000)
  (hk:∀s',Tk {s with heap:=oy s.heap a vs} s'->wpAny (model prog w) A (keyKind' vs.toArray) (λk s2=>k=κ/\Tk {s with heap:=oy s.heap a vs} s2) (λ_ _=>False) s')
  (hc:∀x∈vs,∀y∈vs,∀s',Tk {s with heap:=oy s.heap a vs} s'->wpAny (model prog w) A (keyLt' κ x y) (λb s2=>b=decide (rk x<rk y)/\Tk {s with heap:=oy s.heap a vs} s2) (λ_ _=>False) s')
  (k:∀(us:List Value)(h':Heap)(tk c:Nat),us.Perm vs->us.Pairwise (λx y=>rk x<=rk y)->h'.get? a=some (seqObj "list" us.toArray c)->(∀b o,b≠a->s.heap.get? b=some o->h'.get? b=some o)->P (.done (.ret .none)) {s with heap:=h',toks:=tk}):
  wpAny (model prog w) A (Builtin.«list.sort» ⟨[.ref a],[]⟩) P E s:=by
 have la:a<s.heap.objs.size:=aF ho;obtain⟨e1,Dm⟩:∃e1,(s.heap.update a (Obj.mapSeq λ_=>(#[]:Array Value))).get? a=some (seqObj "list" #[] e1):=⟨_,get?_update_seq ho λ_=>#[]⟩;have Iy:(oy s.heap a vs).get? a=some (seqObj "list" #[] e1):=af _ (af _ Dm);have Ek:∀b o,b≠a->s.heap.get? b=some o->(oy s.heap a vs).get? b=some o:=λb o nb q=>af _ (af _ ((bU s.heap a _).extBut b o nb q));rw[list_sort_plain];refine ae (listItems_at ho rfl ?_);refine ae (su ho rfl ?_ (by rw[aN,cv];lia) (aO _));refine ae (vM Dm rfl ?_);refine ae (kI ?_ (by show vs.length<=_;rw[cv];lia));refine ae (yC ?_ (aO _));refine bR ?_;show wpAny (model prog w) A _ P E {s with heap:=oy s.heap a vs};dsimp only;have big:¬vs.toArray.size<2:=by rw[aN];lia
 rw[ax big,ax big];refine ae (cR (hk _ (Tk.refl _)) (λkd s0 hq=>?_) λ_ _ x=>x.elim);obtain⟨rfl,t0⟩:=hq
 let C:Lg.Ct:=⟨prog,w,A,Tk {s with heap:=oy s.heap a vs},kd,λx=>rk x.1,λx=>x.2=x.1/\x.1∈vs,λx y hx hy s' tk=>hc x.1 hx.2 y.1 hy.2 s' tk⟩
 have hz:∀x∈vs.toArray.zip vs.toArray,x.2=x.1/\x.1∈vs:=λx hx=>by
  rw[List.zip_toArray]at hx;have hx:x∈vs.zip vs:=by simpa using hx
  obtain⟨i,hi,e⟩:=dN.mp hx;rw[uV]at e;rw[<-e];exact⟨rfl,jH _⟩
 have acJ:=Lg.WS (C:=C) (a0:=vs.toArray.zip vs.toArray) (g0:=7) (Q:=λ_ gM=>∃a',arrOf gM=a'/\failedOf gM=none/\a'.Perm (vs.toArray.zip vs.toArray)/\Lg.Up C a' 0 (vs.toArray.zip vs.toArray).size) hz (by rw[Array.size_zip,aN];lia) (λa' P g p u=>⟨a',rfl,rfl,p,u⟩) s0 t0;refine ae (cR acJ ?_ λ_ _ e=>e.elim);rintro⟨⟨⟩,gM⟩ s' ⟨⟨tk,rfl⟩,a',ea,hf,pm,up⟩;have sz:a'.size=vs.length:=by rw[pm.size_eq,Array.size_zip,aN,Nat.min_self]
 obtain⟨out,eo⟩:∃out,out=a'.toList.map (·.2):=⟨_,rfl⟩;have e2:(arrOf gM).map (·.2)=out.toArray:=by have ea:arrOf gM=a':=ea;rw[ea,eo];apply Array.ext';rw[Array.toList_map]
 have lp:out.length=vs.length:=by rw[eo,ag,aR,sz]
 have gG:∀x∈a',x.2=x.1/\x.1∈vs:=λx hx=>hz x (pm.mem_iff.mp hx);have po:out.Perm vs:=by rw[eo];have:=(sM.mp pm).map (·.2);refine this.trans ?_;rw[List.zip_toArray];show(List.map (λx=>x.2) (vs.zip vs)).Perm vs;rw[List.map_snd_zip (ak _)]
 have so:out.Pairwise λx y=>rk x<=rk y:=by rw[eo];refine kD.mpr (dU.mpr λi j hi hj Zw=>?_);rw[aR]at hi hj;have:=up i j (aO _) (bu Zw) (by rw[<-pm.size_eq];exact hj);rw[Lg.hX hi,Lg.hX hj]at this;rw[lA,lA,(gG _ (cP hi)).1,(gG _ (cP hj)).1];exact this
 show wpAny _ _ _ _ _ _;dsimp only;have e3:Array.map (λx:Keyed=>x.2) (arrOf gM)=out.toArray:=e2;rw[e3];obtain⟨c2,wV⟩:∃c2,((oy s.heap a vs).update a (Obj.mapSeq λ_=>out.toArray)).get? a=some (seqObj "list" out.toArray c2):=⟨_,get?_update_seq Iy λ_=>out.toArray⟩;refine ae (vM Iy rfl ?_);refine ae (su Iy rfl ?_ (aO _) (by rw[aN,lp,cv];lia));rw[hf];simp only[g7,bh,bX];exact ah (k out _ tk c2 po so wV λb o nb q=>(bU (oy s.heap a vs) a _).extBut b o nb (Ek b o nb q))
def QI(ho:s.heap.get? a=some (seqObj "list" vs.toArray n))(h2:vs.length<2)
  (k:∀(h':Heap)(c:Nat),h'.get? a=some (seqObj "list" vs.toArray c)->(∀b o,b≠a->s.heap.get? b=some o->h'.get? b=some o)->P (.done (.ret .none)) {s with heap:=h'}):
  wpAny (model prog w) A (Builtin.«list.sort» ⟨[.ref a],[]⟩) P E s:=by
 obtain⟨e1,Dm⟩:∃e1,(s.heap.update a (Obj.mapSeq λ_=>(#[]:Array Value))).get? a=some (seqObj "list" #[] e1):=⟨_,get?_update_seq ho λ_=>#[]⟩;have Iy:(oy s.heap a vs).get? a=some (seqObj "list" #[] e1):=af _ (af _ Dm);have Ek:∀b o,b≠a->s.heap.get? b=some o->(oy s.heap a vs).get? b=some o:=λb o nb q=>af _ (af _ ((bU s.heap a _).extBut b o nb q));rw[list_sort_plain];refine ae (listItems_at ho rfl ?_);refine ae (su ho rfl ?_ (by rw[aN,cv];lia) (aO _));refine ae (vM Dm rfl ?_);refine ae (kI ?_ (by show vs.length<=_;rw[cv];lia));refine ae (yC ?_ (aO _));refine bR ?_;show wpAny (model prog w) A _ P E {s with heap:=oy s.heap a vs};dsimp only;have gz:vs.toArray.size<2:=by rw[aN];lia
 rw[aB gz,aB gz];refine ae (ah ?_);refine ae (ah ?_);dsimp only;have es:(arrOf (SortSt.mk' general' (vs.toArray.zip vs.toArray) #[] 7 none)).map (·.2)=vs.toArray:=by show(vs.toArray.zip vs.toArray).map (·.2)=vs.toArray;apply uX.mp;simp[List.map_snd_zip]
 rw[es];obtain⟨c2,wV⟩:∃c2,((oy s.heap a vs).update a (Obj.mapSeq λ_=>vs.toArray)).get? a=some (seqObj "list" vs.toArray c2):=⟨_,get?_update_seq Iy λ_=>vs.toArray⟩;refine ae (vM Iy rfl ?_);refine ae (su Iy rfl ?_ (aO _) (by rw[aN,cv];lia));simp only[g7,bh,bX];exact ah (k _ c2 wV λb o nb q=>(bU (oy s.heap a vs) a _).extBut b o nb (Ek b o nb q))
abbrev HC(a b:Str):Bool:=decide (a.cps.toList<b.cps.toList)
def d8:List Str->List Str->Bool
 |_,[]=>false
 |[],_::_=>true
 |a::r,b::q=>if a=b then d8 r q else HC a b
def LU(a:Str):HC a a=false:=bt (List.lt_irrefl _)
def Ow(h1:HC a b=true)(h2:HC b c=true):HC a c=true:=aU (List.lt_trans (br h1) (br h2))
def Ox(h:HC a b=false)(h2:HC b a=false):a=b:=by have h1:=List.not_lt.mp (zC h);have h3:=List.not_lt.mp (zC h2);exact ext_toList (List.le_antisymm h3 h1)
theorem uA:∀a,d8 a a=false
 |[]=>rfl
 |a::r=>by unfold d8;rw[aB rfl];exact uA r
theorem q9:∀{a b c:List Str},d8 a b=true->d8 b c=true->d8 a c=true
 |_,[],[],_,h=>by unfold d8 at h;cases h
 |_,_::_,[],_,h=>by unfold d8 at h;cases h
 |_,[],_::_,h,_=>by unfold d8 at h;cases h
 |[],_::_,_::_,_,_=>rfl
 |a::r,b::q,c::p,h1,h2=>by
  unfold d8 at h1 h2⊢;by_cases e1:a=b
  ·subst e1;rw[aB rfl]at h1;by_cases e2:a=c
   ·rw[aB e2]at h2⊢;exact q9 h1 h2
   ·rw[ax e2]at h2⊢;exact h2
  ·rw[ax e1]at h1;by_cases e2:b=c
   ·subst e2;rw[ax e1];exact h1
   ·rw[ax e2]at h2;have h3:=Ow h1 h2;have ne:a≠c:=λe=>by rw[e,LU]at h3;cases h3
    rw[ax ne];exact h3
theorem rf:∀{a b:List Str},d8 a b=false->d8 b a=false->a=b
 |[],[],_,_=>rfl
 |[],_::_,h,_=>by unfold d8 at h;cases h
 |_::_,[],_,h=>by unfold d8 at h;cases h
 |a::r,b::q,h1,h2=>by
  unfold d8 at h1 h2;by_cases e:a=b
  ·subst e;rw[aB rfl]at h1 h2;rw[rf h1 h2]
  ·rw[ax e]at h1;rw[ax (bP e)]at h2;exact(e (Ox h1 h2)).elim
abbrev kA(a b:List Str):Bool:=!d8 b a
def Jp(a b c:List Str)(h1:kA a b=true)(h2:kA b c=true):kA a c=true:=by
 have h1':d8 b a=false:=by simpa using h1
 have Z3:d8 c b=false:=by simpa using h2
 cases q:d8 c a with
 |false=>simp[kA,q]
 |true=>
  cases p:d8 a b with
  |true=>rw[q9 q p]at Z3;cases Z3
  |false=>rw[rf p h1',Z3]at q;cases q
def Jq(a b:List Str):(kA a b||kA b a)=true:=by
 cases q:d8 b a with
 |false=>simp[kA,q]
 |true=>
  cases p:d8 a b with
  |false=>simp[kA,p]
  |true=>have:=q9 q p;rw[uA]at this;cases this
def LW(h1:kA a b=true)(h2:kA b a=true):a=b:=rf (by simpa using h2) (by simpa using h1)
def fZ(l:List (List Str)):List (List Str):=l.mergeSort kA
def jT(l:List (List Str)):(fZ l).Perm l:=List.mergeSort_perm l kA
def CS(l:List (List Str)):(fZ l).Pairwise (λa b=>kA a b=true):=List.pairwise_mergeSort Jp Jq l
theorem G8:∀{l m:List (List Str)},l.Perm m->l.Pairwise (λa b=>kA a b=true)->m.Pairwise (λa b=>kA a b=true)->l=m
 |[],m,h,_,_=>(List.nil_perm.mp h).symm
 |a::l,[],h,_,_=>absurd h.length_eq (by simp)
 |a::l,b::m,h,h1,h2=>by
  have e:a=b:=by
   rcases aI.mp (h.mem_iff.mp (aA (a:=a) (l:=l)))with e|e
   ·exact e
   ·rcases aI.mp (h.mem_iff.mpr (aA (a:=b) (l:=m)))with q|q
    ·exact q.symm
    ·exact LW (tU h1 q) (tU h2 e)
  subst e;rw[G8 (List.perm_cons a|>.mp h) (As.mp h1).2 (As.mp h2).2]
def xt(h:l.Perm zs)(hs:l.Pairwise (λa b=>kA a b=true)):l=fZ zs:=G8 (h.trans (jT zs).symm) hs (CS zs)
def Bd(h:l.Perm m):fZ l=fZ m:=xt ((jT l).trans h) (CS l)
def Kc(rows:List (List Str))(a:List Str):Nat:=rows.countP λr=>d8 r a
def S8(ha:a∈rows)(hb:b∈rows):decide (Kc rows a<Kc rows b)=d8 a b:=by
 have strict:∀{a b:List Str},a∈rows->d8 a b=true->Kc rows a<Kc rows b:=λ{a b} hm h=>by unfold Kc;obtain⟨l1,l2,e⟩:=List.append_of_mem hm;have c1:∀l:List (List Str),(l.countP λr=>d8 r a)<=l.countP λr=>d8 r b:=λl=>List.countP_mono_left λr _ hr=>q9 hr h;rw[e,Aw,Aw,List.countP_cons,List.countP_cons,uA,h];have:=c1 l1;have:=c1 l2;simp;lia
 cases q:d8 a b with
 |true=>exact aU (strict ha q)
 |false=>
  refine bt (DY.mpr ?_);cases p:d8 b a with
  |true=>exact bu (strict hb p)
  |false=>rw[rf q p];exact ak _
end
inductive nB:List Str->List Value->Prop where
 |nil:nB [] []
 |cons {z:Str} {t:Tok} {zs:List Str} {vs:List Value}:nB zs vs->nB (z::zs) (.str z t::vs)
def TupIs(h:Heap)(v:Value)(zs:List Str):Prop:=∃a o aY n,v=.ref a/\h.get? a=some o/\o.cls=.type "tuple"/\o.data=.seq aY n/\nB zs aY.toList
def TupIs.mono(x:TupIs h v zs)(kp:∀b o,h.get? b=some o->h'.get? b=some o):TupIs h' v zs:=by obtain⟨a,o,aY,n,e,ho,r⟩:=x;exact⟨a,o,aY,n,e,kp _ _ ho,r⟩
theorem nB.one:∀{xs ys:List Str}{vs:List Value},nB xs vs->nB ys vs->xs=ys
 |_,_,_,.nil,.nil=>rfl
 |_,_,_,.cons a,.cons b=>by rw[a.one b]
def TupIs.one(a:TupIs h v xs)(b:TupIs h v ys):xs=ys:=by obtain⟨a,o,aY,n,rfl,h1,_,h2,h3⟩:=a;obtain⟨b,p,itq,m,e,q1,_,q2,q3⟩:=b;cases e;rw[h1]at q1;cases q1;rw[h2]at q2;cases q2;exact h3.one q3
open Classical in
def rowOf(h:Heap)(v:Value):List Str:=if x:∃r,TupIs h v r then Classical.choose x else[]
def qG(x:TupIs h v r):rowOf h v=r:=by unfold rowOf;rw[dif_pos ⟨r,x⟩];exact(Classical.choose_spec (⟨r,x⟩:∃r,TupIs h v r)).one x
section
variable{prog:Program}{w:World}{A:Around}{E:Value->Shared->Prop}{s:Shared}
def eq_str(h:Q (decide (a=b)) s):wpAny (model prog w) A (eqBool (.str a t) (.str b u)) Q E s:=
 (PySem.strKind prog w).eqBool (a:=a) (b:=b) (strKind_is _ _ _ _) (strKind_is _ _ _ _) h
theorem Kx:∀(xs ys:List Str)(vs us:List Value)(i:Nat)(s:Shared),nB xs vs->nB ys us->(fin=decide (xs.length<ys.length))->C (d8 xs ys) s->KatLex prog w A true fin C (vs.zip us) i s
 |[],[],_,_,i,s,.nil,.nil,hf,h=>by refine kat_nil ?_;rw[hf];exact h
 |[],_::_,_,_,i,s,.nil,.cons r,hf,h=>by refine kat_nil ?_;rw[hf];exact h
 |_::_,[],_,_,i,s,.cons r,.nil,hf,h=>by refine kat_nil ?_;rw[hf];exact h
 |a::xs,b::ys,_,_,i,s,.cons (t:=t) r1,.cons (t:=u) r2,hf,h=>by
  refine kat_cons (eq_str ?_);unfold d8 at h;by_cases e:a=b
  ·rw[aU e];rw[aB e]at h;refine kat_yes (Kx xs ys _ _ (i+1) s r1 r2 ?_ h);rw[hf];simp
  ·rw[bt e];rw[ax e]at h;refine kat_no ?_;cases i with
   |zero=>exact oneLt_str h
   |succ i=>
    have e2:(true&&(i+1==0))=false:=by simp
    rw[e2];refine kat_one _ _ ?_;exact PyProof.Rows.lt_str h
def Yh(hx:TupIs s.heap x xs)(hy:TupIs s.heap y ys)(h:C (d8 xs ys) s):wpAny (model prog w) A (keyLt' (tuples' true) x y) C E s:=by
 obtain⟨a,o,aY,n,rfl,ho,hc,hd,hr⟩:=hx;obtain⟨b,p,itq,m,rfl,hp,hpc,hpd,hq⟩:=hy;refine kat_lt ho hd hp hpd (Kx xs ys _ _ 0 s hr hq ?_ h);have len:∀{zs:List Str}{vs:List Value},nB zs vs->zs.length=vs.length:=by
  intro zs vs r
  induction r with
  |nil=>rfl
  |cons _ ih=>simp[ih]
 rw[len hr,len hq,aR,aR]
def Ro{vs:List Value}{rows:List (List Str)}(hl:vs.length=rows.length)(h2:2<=vs.length)(ht:∀(i:Nat) v r,vs[i]?=some v->rows[i]?=some r->TupIs s.heap v r)(gP:∀r∈rows,r≠[])(h:Q (tuples' true) s):wpAny (model prog w) A (keyKind' vs.toArray) Q E s:=by
 have key:∀(vs:List Value)(rows:List (List Str)),vs.length=rows.length->(∀(i:Nat) v r,vs[i]?=some v->rows[i]?=some r->TupIs s.heap v r)->(∀r∈rows,r≠[])->∃fs,KatTups s.heap vs fs/\fs.length=vs.length/\∀f∈fs,∃z t,f=Value.str z t:=by
  intro vs
  induction vs with
  |nil=>intro rows hl _ _;exact⟨[],KatTups.nil,rfl,λf hf=>nomatch hf⟩
  |cons v vs ih=>
   intro rows hl ht gP;cases rows with
   |nil=>simp at hl
   |cons r rows=>
    obtain⟨fs,h1,h2,h3⟩:=ih rows (by simpa using hl) (λi v' r' e1 e2=>ht (i+1) v' r' (by simpa using e1) (by simpa using e2)) λr' hr=>gP r' (aD _ hr);obtain⟨a,o,aY,n,rfl,ho,hc,hd,hr⟩:=ht 0 v r rfl rfl;cases r with
    |nil=>exact(gP [] aA rfl).elim
    |cons z zs=>
     generalize eL:aY.toList=L at hr;cases hr with
     |@cons _ t _ og ox=>
      have e0:aY[0]?=some (.str z t):=by rw[<-bD,eL];rfl
      refine⟨.str z t::fs,KatTups.cons ho hc hd e0 h1,by simp[h2],λf hf=>?_⟩;rcases aI.mp hf with rfl|hf
      ·exact⟨z,t,rfl⟩
      ·exact h3 f hf
 obtain⟨fs,h1,h3,h4⟩:=key vs rows hl ht gP;refine kat_kind (T:=.type "str") h1 (by lia) (λv hv=>?_) (by decide) ?_
 ·obtain⟨z,t,rfl⟩:=h4 v hv;exact Looks.of_pure rfl
 ·have e:((Value.type "str") !=Value.type "tuple")=true:=by decide
  rw[e];exact h
def Nt(ho:s.heap.get? a=some (seqObj "list" vs.toArray n))(hl:vs.length=rows.length)(ht:∀(i:Nat) v r,vs[i]?=some v->rows[i]?=some r->TupIs s.heap v r)(gP:2<=rows.length->∀r∈rows,r≠[])(BB:vs.length<1000000)
  (k:∀(h':Heap)(tk c:Nat)(us:List Value),h'.get? a=some (seqObj "list" us.toArray c)->(∀b o,b≠a->s.heap.get? b=some o->h'.get? b=some o)->us.Perm vs->(∀(i:Nat) v r,us[i]?=some v->(fZ rows)[i]?=some r->TupIs s.heap v r)->P (.done (.ret .none)) {s with heap:=h',toks:=tk}):
  wpAny (model prog w) A (Builtin.«list.sort» ⟨[.ref a],[]⟩) P E s:=by
 by_cases c2:vs.length<2
 ·refine QI ho c2 λh' c g kp=>?_;have e:fZ rows=rows:=by
   have:rows.length<2:=by lia
   match rows,this with
   |[],_=>exact(xt (.refl _) .nil).symm
   |[r],_=>exact(xt (.refl _) (by simp)).symm
   |_::_::_,q=>simp at q;lia
  rw[e]at k;exact k h' s.toks c vs g kp (.refl _) ht
 ·have na:∀v r,TupIs s.heap v r->v≠ .ref a:=λv r x z=>by obtain⟨b,o,aY,m,rfl,hb,hc,_⟩:=x;cases z;rw[ho]at hb;cases hb;have pb:Value.type "list"=Value.type "tuple":=hc;injection pb with z;exact absurd z (by decide)
  have Ia:∀s',Tk {s with heap:=oy s.heap a vs} s'->∀(i:Nat) v r,vs[i]?=some v->rows[i]?=some r->TupIs s'.heap v r:=λs' ⟨t,e⟩ i v r e1 e2=>by subst e;have x:=ht i v r e1 e2;have ne:=na v r x;obtain⟨b,o,aY,m,rfl,hb,r⟩:=x;have nb:b≠a:=λz=>ne (by rw[z]);exact⟨b,o,aY,m,rfl,af _ (af _ ((bU s.heap a _).extBut b o nb hb)),r⟩
  have mr:∀v∈vs,∃r,r∈rows/\TupIs s.heap v r/\∀s',Tk {s with heap:=oy s.heap a vs} s'->TupIs s'.heap v r:=λv hv=>by obtain⟨i,hi,rfl⟩:=dN.mp hv;have e1:=ar hi;have e2:=ar (l:=rows) (i:=i) (by lia);exact⟨_,jH _,ht i _ _ e1 e2,λs' tk=>Ia s' tk i _ _ e1 e2⟩
  refine U9 (κ:=tuples' true) (rk:=λv=>Kc rows (rowOf s.heap v)) ho (by lia) BB (λs' tk=>?_) (λx hx y hy s' tk=>?_) λus h' tk c po so g kp=>?_
  ·exact Ro hl (by lia) (Ia s' tk) (gP (by lia)) ⟨rfl,tk⟩
  ·obtain⟨r,m1,t1,k1⟩:=mr x hx;obtain⟨q,m2,t2,k2⟩:=mr y hy;refine Yh (k1 s' tk) (k2 s' tk) ⟨?_,tk⟩;rw[qG t1,qG t2,S8 m1 m2]
  ·have er:us.map (rowOf s.heap)=fZ rows:=by
    have ev:vs.map (rowOf s.heap)=rows:=by refine List.ext_getElem (by simpa using hl) λi h1 h2=>?_;rw[uW];exact qG (ht i _ _ (ar _) (ar h2))
    refine xt (by rw[<-ev];exact po.map _) (kD.mpr (so.imp_of_mem λ{x y} hx hy q=>?_));obtain⟨r,m1,t1,k1⟩:=mr x (po.mem_iff.mp hx);obtain⟨p,m2,t2,k2⟩:=mr y (po.mem_iff.mp hy);rw[qG t1,qG t2]at q⊢;have z:=S8 m2 m1;rw[bt (DY.mpr q)]at z;show(!d8 _ _)=true;rw[<-z];rfl
   refine k h' tk c us g kp po λi v r e1 e2=>?_;rw[<-er,aJ,e1]at e2;cases e2;obtain⟨r,m1,t1,k1⟩:=mr v (po.mem_iff.mp (aC e1));rw[qG t1];exact t1
end
end DU
namespace L2
open PySem PySem.Spec PyProof.Rows DU
abbrev eB(K:Frag)(H:Hp):List V->List (List Str)->Prop:=Paired λ(y:V)(zs:List Str)=>∃a,y=.ref a/\bE K H a (zs.map V.str)
theorem GQ:∀{zs:List Str}{us:List Value},Vals (zs.map V.str) us->nB zs us
 |[],_,.nil=>.nil
 |z::r,_,.cons ⟨t,e⟩ h=>by subst e;exact .cons (GQ h)
theorem OE:∀{zs:List Str}{us:List Value},Vals (zs.map V.str) us->ItemsAre (bA P w) (zs.map Sum.inr) us
 |[],_,.nil=>.nil
 |z::r,_,.cons ⟨t,e⟩ h=>by subst e;exact .cons (Bk _ _ _ _) (OE h)
section
variable{X:Cx}{pins:List (Addr×Obj)}{Z:St}{H:Hp}{s:Shared}
def Inv.row(I:Inv X pins Z H s)(h:bE X.K H a (zs.map V.str)):TupIs s.heap (.ref a) zs/\IsTupleKey (bA X.prog X.w) s.heap (zs.map Sum.inr) a:=by obtain⟨aY,r,⟨o,e,c,n,d⟩,_⟩:=I.tuple h;exact⟨⟨a,o,aY.toArray,n,rfl,e,c,d,by simpa using GQ r⟩,⟨o,aY.toArray,n,e,c,d,by simpa using OE r⟩⟩
theorem Inv.rows(I:Inv X pins Z H s):∀{ys:List V}{rows:List (List Str)}{us:List Value},eB X.K H ys rows->Vals ys us->∃bs:List Addr,us=bs.map Value.ref/\ys=bs.map V.ref/\bs.length=rows.length/\∀(i:Nat) z b,rows[i]?=some z->bs[i]?=some b->bE X.K H b (z.map V.str)
 |_,_,_,.nil,.nil=>⟨[],rfl,rfl,rfl,λi z b e=>by simp at e⟩
 |_,_,_,.cons (b:=zs) ⟨a,e,h⟩ r,.cons (b:=u) ru q=>by
  obtain⟨bs,h1,h2,h3,h4⟩:=I.rows r q;subst e;cases(show u=Value.ref a from ru);refine⟨a::bs,by rw[h1];rfl,by rw[h2];rfl,by simp[h3],λi z b e1 e2=>?_⟩;cases i with
  |zero=>cases e1;cases e2;exact h
  |succ i=>exact h4 i z b (by simpa using e1) (by simpa using e2)
end
theorem Kb{K:Frag}:∀{bs:List Addr}{rows:List (List Str)},bs.length=rows.length->(∀(i:Nat) z b,rows[i]?=some z->bs[i]?=some b->bE K H b (z.map V.str))->eB K H (bs.map V.ref) rows
 |[],[],_,_=>.nil
 |[],_::_,h,_=>by simp at h
 |_::_,[],h,_=>by simp at h
 |b::bs,z::rows,h,k=>.cons ⟨b,rfl,k 0 z b rfl rfl⟩ (Kb (by simpa using h) λi z' b' e1 e2=>k (i+1) z' b' (by simpa using e1) (by simpa using e2))
theorem JJ:∀bs:List Addr,Vals (bs.map V.ref) (bs.map Value.ref)
 |[]=>.nil
 |b::bs=>.cons rfl (JJ bs)
def aaC:Value->Addr
 | .ref a=>a
 |_=>0
def Vj(h:us.Perm (bs.map Value.ref)):∃cs:List Addr,us=cs.map Value.ref/\cs.Perm bs:=by
 have all:∀{us:List Value},(∀u∈us,∃b,u=Value.ref b)->∃cs:List Addr,us=cs.map Value.ref:=by
  intro us
  induction us with
  |nil=>intro _;exact⟨[],rfl⟩
  |cons u us ih=>
   intro hu;obtain⟨b,rfl⟩:=hu u aA;obtain⟨cs,rfl⟩:=ih λv hv=>hu v (aD _ hv);exact⟨b::cs,rfl⟩
 obtain⟨cs,rfl⟩:=all (us:=us) λu hu=>by obtain⟨b,_,e⟩:=aM.mp (h.mem_iff.mp hu);exact⟨b,e.symm⟩
 refine⟨cs,rfl,?_⟩;have e:∀l:List Addr,(l.map Value.ref).map aaC=l:=λl=>by
  induction l with
  |nil=>rfl
  |cons a l ih=>exact cA (a::·) ih
 rw[<-e cs,<-e bs];exact h.map _
def xY:List (List Str)->List (List Str)
 |[]=>[]
 |r::l=>if r∈l then xY l else r::xY l
theorem uy(x:List Str):∀l,x∈xY l↔x∈l
 |[]=>Iff.rfl
 |r::l=>by
  unfold xY;by_cases c:r∈l
  ·rw[aB c,uy x l,aI];exact⟨.inr,λh=>h.elim (λe=>e▸c) id⟩
  ·rw[ax c,aI,aI,uy x l]
theorem xI:∀l,(xY l).Nodup
 |[]=>kP
 |r::l=>by
  unfold xY;by_cases c:r∈l
  ·rw[aB c];exact xI l
  ·rw[ax c];exact du.mpr ⟨λh=>c ((uy r l).mp h),xI l⟩
def vg(l:List (List Str)):List (List Str):=fZ (xY l)
def BM(nd:l.Nodup)(h:∀r,r∈l↔r∈rows):fZ l=vg rows:=
 Bd ((sH nd (xI rows)).mpr λr=>by rw[h,uy])
def kR(x:List Str)(l:List (List Str)):x∈vg l↔x∈l:=by unfold vg;rw[(jT _).mem_iff,uy]
section
variable{prog:Program}{w:World}{A:Around}{E:Value->Shared->Prop}{s:Shared}
def Jd{Q:Value->Shared->Prop}(hl:vs.length=rows.length)(ht:∀(i:Nat) v r,vs[i]?=some v->rows[i]?=some r->TupIs s.heap v r)(gP:2<=rows.length->∀r∈rows,r≠[])(BB:vs.length<1000000)
  (k:∀(h':Heap)(tk c:Nat)(us:List Value),h'.get? s.heap.objs.size=some (seqObj "list" us.toArray c)->(∀b o,s.heap.get? b=some o->h'.get? b=some o)->us.Perm vs->(∀(i:Nat) v r,us[i]?=some v->(fZ rows)[i]?=some r->TupIs s.heap v r)->Q (.ref s.heap.objs.size) {s with heap:=h',toks:=tk}):
  wpAny (model prog w) A (newList vs>>=λl=>holding [l] (call (.builtin "list.sort") [l] [])>>=λ_=>ret l) (λfin s'=>∃v,fin=Fin.done (.ret v)/\Q v s') E s:=by
 refine ae (yC ?_ (by rw[cv];lia));have Ue:(s.heap.push (seqObj "list" vs.toArray 0)).get? s.heap.objs.size=some (seqObj "list" vs.toArray 0):=aG _ rfl;refine ae (bR (bC slot_list_sort ⟨_,Ue,rfl⟩ entry_list_sort (Nt (s:={s with heap:=s.heap.push (seqObj "list" vs.toArray 0)}) Ue hl (λi v r e1 e2=>(ht i v r e1 e2).mono λb o e=>af _ e) gP BB λh' tk c us g kp pm q=>⟨_,rfl,?_⟩) (args_list_sort _)));refine ah ⟨_,rfl,k h' tk c us g (λb o e=>kp b o (aH (aF e)) (af _ e)) pm λi v r e1 e2=>?_⟩;have x:=q i v r e1 e2;have hv:v∈vs:=pm.mem_iff.mp (aC e1);obtain⟨j,hj⟩:=eC.mp hv;have ma:j<rows.length:=by have:=(aq.mp hj).1;lia
 have y:=ht j v _ hj (ar ma);obtain⟨b,o,aY,m,rfl,hb,r1⟩:=y;obtain⟨b',o',its',m',e',jZ,r1'⟩:=x;cases e';have:o'=o:=by have:=af (seqObj "list" vs.toArray 0) hb;exact bL (jZ.symm.trans this)
 subst this;exact⟨b,o',its',m',rfl,hb,r1'⟩
variable{X:Cx}
def SortedTo(K:Frag)(H:Hp)(ys:List V)(rows:List (List Str))(Q:VK):Prop:=∀l zs,H l=none->eB K H zs (fZ rows)->(∀z∈zs,z∈ys)->Q (.ref l) (upd H l (.lst zs))
def xr{pins:List (Addr×Obj)}{Z:St}{H:Hp}{s s1:Shared}{bs:List Addr}{rows:List (List Str)}{Q:VK}(I:Inv X pins Z H s1)(lb:bs.length=rows.length)(hb:∀(i:Nat) z b,rows[i]?=some z->bs[i]?=some b->bE X.K H b (z.map V.str))(gP:2<=rows.length->∀r∈rows,r≠[])(BB:rows.length<1000000)(q:SortedTo X.K H (bs.map V.ref) rows Q){A:Around}{E:Value->Shared->Prop}:
  wpAny (model X.prog X.w) A (newList (bs.map Value.ref)>>=λl=>holding [l] (call (.builtin "list.sort") [l] [])>>=λ_=>ret l) (λfin s'=>∃v,fin=Fin.done (.ret v)/\EP X pins Z Q v s') E s1:=by
 refine Jd (rows:=rows) (by rw[ag];exact lb) (λi v r e1 e2=>?_) gP (by rw[ag];lia) λh' tk c us g kp pm srt=>?_
 ·rw[aJ]at e1;obtain⟨b,e3,rfl⟩:=bo.mp e1;exact(I.row (hb i r b e2 e3)).1
 ·obtain⟨cs,rfl,pc⟩:=Vj pm;have lc:cs.length=rows.length:=by rw[pc.length_eq,lb]
  have lz:(cs.map V.ref).length<=sizeLine:=by rw[ag,cv];lia
  refine⟨.ref s1.heap.objs.size,_,I.laid (t':=tk) kp (ak _) (show dm X.prog X.w _ _ _ (.lst (cs.map V.ref))from⟨lz,cs.map Value.ref,c,JJ cs,g⟩),rfl,q _ (cs.map V.ref) (I.bw.fresh (ak _)) (Kb (by rw[lc,(jT rows).length_eq]) λi z b e1 e2=>?_) λz hz=>(pc.map _).mem_iff.mp hz⟩;have t:=srt i (.ref b) z (by rw[aJ,e2];rfl) e1;obtain⟨j,hj⟩:=eC.mp (pc.mem_iff.mp (aC e2));have ma:j<rows.length:=by have:=(aq.mp hj).1;lia
  have hr:=hb j _ b (ar ma) hj;have t2:=(I.row hr).1;have e:rows[j]=z:=by
   obtain⟨b1,o1,i1,n1,e1,g1,c1,d1,r1⟩:=t;obtain⟨b2,o2,i2,n2,e2,g2,c2,d2,r2⟩:=t2;cases e1;cases e2;rw[g1]at g2;cases g2;rw[d1]at d2;cases d2;have inj:∀{x y:List Str}{vs:List Value},nB x vs->nB y vs->x=y:=by
    intro x y vs hx
    induction hx generalizing y with
    |nil=>intro hy;cases hy;rfl
    |cons _ ih=>intro hy;cases hy with|cons hy=>rw[ih hy]
   exact inj r2 r1
  rw[<-e];exact hr
def IQ:iu X (.builtin "sorted") (λxs H Q=>∃p ys rows,xs=[.ref p]/\bp X.K H p ys/\eB X.K H ys rows/\(2<=rows.length->∀r∈rows,r≠[])/\rows.length<1000000/\SortedTo X.K H ys rows Q):=by
 intro pins s Z H xs us Q I r h;obtain⟨p,ys,rows,rfl,hq,hr,gP,BB,q⟩:=h;obtain⟨u,rfl,rx⟩:=kr r;cases rx;obtain⟨aY,r',pl,hz⟩:=I.list hq;obtain⟨bs,rfl,rfl,lb,hb⟩:=I.rows hr r';refine jm Bp zw zY (Ah _) ?_;unfold Builtin.«sorted»;refine ae (m:=checkCount "sorted" 1 1 _) (ah ?_);refine ae (collect_list pl.isList ?_ (by rw[ag,cv];lia));have kp:∀b o,s.heap.get? b=some o->((s.heap.push (seqObj "list" #[] 0)).update s.heap.objs.size (Obj.mapSeq (·++(bs.map Value.ref).toArray))).get? b=some o:=λb o e=>by rw[Heap.get?_update_ne _ _ _ _ (aH (aF e))];exact af _ e
 exact xr (s:=s) (I.kept (t':=s.toks) kp) lb hb gP BB q
def G7{α β:Type}{f:α->β}:∀{l k:List β},l.Perm k->∀{m:List α},k=m.map f->∃m':List α,m'.Perm m/\l=m'.map f:=by
 intro l k h
 induction h with
 |nil=>intro m e;exact⟨m,.refl _,e⟩
 |@cons x l1 l2 _ ih=>
  intro m e;cases m with
  |nil=>cases e
  |cons a m=>
   rw[aX]at e;injection e with e1 e2;obtain⟨m',p,q⟩:=ih e2;exact⟨a::m',p.cons a,by rw[e1,q];rfl⟩
 |swap x y l=>
  intro m e
  match m,e with
  |a::b::m,e=>
   rw[aX,aX]at e;injection e with e1 e2;injection e2 with e2 e3;exact⟨b::a::m,.swap _ _ _,by rw[e1,e2,e3];rfl⟩
 |trans _ _ ih1 OQ=>
  intro m e;obtain⟨m1,p1,q1⟩:=OQ e;obtain⟨m2,p2,q2⟩:=ih1 q1;exact⟨m2,p2.trans p1,q2⟩
def oM:Key->Str
 | .inr z=>z
 | .inl _=>""
def vf(z:List Str):(z.map (Sum.inr:Str->Key)).map oM=z:=by
 induction z with
 |nil=>rfl
 |cons a z ih=>exact cA (a::·) ih
end
def uO(P:Program)(w:World)(a:Addr)(us:List (List Str×Addr)):Heap->Prop:=λh=>∃o ep t,h.get? a=some o/\o.ExactSet/\o.data=.set (us.map λx=>Tb.ent (bA P w) (x.1.map Sum.inr,x.2)).toArray ep t/\t.fits us.length=true/\t.led=Tb.oV w/\Tb.mR t.place
def Vc(x:uO P w a us h):dm P w H h a (.ext (uO P w a us)):=
 ⟨x,let⟨o,_,_,q,_⟩:=x;⟨o,q⟩,λ_ _ ⟨o,ep,t,q,r⟩ k=>⟨o,ep,t,k _ q,r⟩⟩
section
variable{X:Cx}{pins:List (Addr×Obj)}{Z:St}{H:Hp}{s:Shared}{h':Heap}
def Inv.aa4(I:Inv X pins Z H s)(k:∀b u,s.heap.get? b=some u->h'.get? b=some u):Inv X pins Z H {s with heap:=h',drawn:=d',toks:=t'}:=
 I.step (g':=s.gens) (ch:=[]) (λ_ z=>nomatch z) (λb o _ _ _ e _=>k b o e) (λb o _ _ _ e _=>⟨o.slots,k b o e⟩) (λ_ _ _ _ n=>n) (λb o _ e=>⟨o,k b o e⟩) (λ_ _ e=>e) (λ_ _ _ e=>e) (λb ps e=>⟨#[],by rw[e];simp⟩) (λm hm=>by obtain⟨o,es,ep,ho,r⟩:=hm;exact⟨o,es,ep,k _ _ ho,r⟩) (I.bw.kept k) I.bare
end
section
variable{X:Cx}
def P9(hA:X.A.handled=none)(hu:X.A.units+64<cLine):iu X (.type "set") (λxs H Q=>∃p ys rows,xs=[.ref p]/\bp X.K H p ys/\eB X.K H ys rows/\rows.length<=1000/\∀a us,H a=none->(us.map (·.1)).Nodup->(∀r,r∈us.map (·.1)↔r∈rows)->us.length<=rows.length->(∀x∈us,bE X.K H x.2 (x.1.map V.str)/\V.ref x.2∈ys)->Q (.ref a) (upd H a (.ext (uO X.prog X.w a us)))):=by
 intro pins s Z H xs us Q I r h;obtain⟨p,ys,rows,rfl,hq,hr,hz,q⟩:=h;obtain⟨u,rfl,rx⟩:=kr r;cases rx;obtain⟨aY,r',pl,_⟩:=I.list hq;obtain⟨bs,rfl,rfl,lb,hb⟩:=I.rows hr r';refine Tb.P8 (knd:=bA X.prog X.w) (ks:=rows.map λz=>z.map Sum.inr) (bs:=bs) hA (by show X.A.units+1+1+1<cLine;lia) pl.isList (by simp) (by rw[ag,lb]) (λi k b e1 e2=>?_) (by lia) λh' tk o ep t xs S hl hH kp=>?_
 ·rw[aJ]at e1;obtain⟨z,e3,rfl⟩:=bo.mp e1;exact(I.row (hb i z b e3 e2)).2
 ·have inj:∀x∈xs,∃(j:Nat)(z:List Str),rows[j]?=some z/\x.1=z.map Sum.inr/\bs[j]?=some x.2:=λx hx=>by obtain⟨j,j1,j2⟩:=hH.Ga x hx;rw[aJ]at j1;obtain⟨z,e3,e4⟩:=bo.mp j1;exact⟨j,z,e3,e4.symm,j2⟩
  have back:(xs.map λx=>(x.1.map oM,x.2)).map (λx=>((x.1.map Sum.inr:List Key),x.2))=xs:=by
   rw[cx];have:∀x∈xs,((λx:List Str×Addr=>((x.1.map Sum.inr:List Key),x.2))∘λx:List Key×Addr=>(x.1.map oM,x.2)) x=x:=λx hx=>by obtain⟨j,z,_,e,_⟩:=inj x hx;show((x.1.map oM).map Sum.inr,x.2)=x;rw[e,vf];exact Prod.ext e.symm rfl
   rw[cH this,List.map_id']
  have fst:∀r,r∈(xs.map λx=>(x.1.map oM,x.2)).map (·.1)↔r∈rows:=λr=>by
   rw[cx,aM];constructor
   ·rintro⟨x,hx,rfl⟩;obtain⟨j,z,e1,e,_⟩:=inj x hx;show x.1.map oM∈rows;rw[e,vf];exact aC e1
   ·intro hr;have:r.map Sum.inr∈xs.map (·.1):=(hH.mem _).mpr (by
     rw[cw (by rw[ag,lb];exact ak _)];exact aM.mpr ⟨r,hr,rfl⟩)
    obtain⟨x,hx,e⟩:=aM.mp this;exact⟨x,hx,by show x.1.map oM=r;rw[e,vf]⟩
  have nd:((xs.map λx=>(x.1.map oM,x.2)).map (·.1)).Nodup:=by
   have h1:=S.nd;rw[<-back,cx]at h1;have h2:((xs.map λx=>(x.1.map oM,x.2)).map ((·.1)∘λx:List Str×Addr=>((x.1.map Sum.inr:List Key),x.2)))=((xs.map λx=>(x.1.map oM,x.2)).map (·.1)).map λz=>z.map Sum.inr:=by simp only[cx];rfl
   rw[h2]at h1;exact(kD.mp h1).imp λne e=>ne (by rw[e])
  have hd:o.data=.set ((xs.map λx=>(x.1.map oM,x.2)).map λx=>Tb.ent (bA X.prog X.w) (x.1.map Sum.inr,x.2)).toArray ep t:=by rw[S.data];congr 2;have:=cA (List.map (Tb.ent (bA X.prog X.w))) back;rw[cx]at this;exact this.symm
  refine⟨.ref s.heap.objs.size,_,I.laid (t':=tk) kp (ak _) (Vc ⟨o,ep,t,S.ob,S.ex,hd,?_,hl,S.tab.rise⟩),rfl,q _ _ (I.bw.fresh (ak _)) nd fst ?_ λx hx=>?_⟩
  ·have:=S.fits;simpa using this
  ·rw[ag];have:=hH.len;lia
  ·obtain⟨y,hy,rfl⟩:=aM.mp hx;obtain⟨j,z,e1,e,e2⟩:=inj y hy;refine⟨?_,aM.mpr ⟨y.2,aC e2,rfl⟩⟩;show bE X.K H y.2 ((y.1.map oM).map V.str);rw[e,vf];exact hb j z y.2 e1 e2
def EF(hA:X.A.handled=none):iu X (.builtin "sorted") (λxs H Q=>∃a us ys,xs=[.ref a]/\H a=some (.ext (uO X.prog X.w a us))/\(∀x∈us,bE X.K H x.2 (x.1.map V.str)/\V.ref x.2∈ys)/\(2<=us.length->∀x∈us,x.1≠[])/\us.length<64/\SortedTo X.K H ys (us.map (·.1)) Q):=by
 intro pins s Z H xs us Q I r h;obtain⟨a,JM,ys,rfl,ha,hx,gP,BB,q⟩:=h;obtain⟨u,rfl,rx⟩:=kr r;cases rx;obtain⟨⟨o,ep,t,ho,hex,hd,hf,hl,abd⟩,_⟩:=(show dm X.prog X.w H s.heap a (.ext (uO X.prog X.w a JM))from I.bw a _ ha);refine jm Bp zw zY (Ah _) ?_;unfold Builtin.«sorted»;refine ae (m:=checkCount "sorted" 1 1 _) (ah ?_);refine ae (Tb.Jx (A:=X.A.in1) (by simpa using hA) ⟨⟨o,ho,hex,hd⟩,by simpa using hf,hl,abd⟩ (by simp;lia) λh' tk d vs pm kp=>?_);have e0:(JM.map λx=>Tb.ent (bA X.prog X.w) (x.1.map Sum.inr,x.2)).toArray.toList.map (·.2)=JM.map λx=>Value.ref x.2:=by simp[tD]
 rw[e0]at pm;obtain⟨og,pv,rfl⟩:=G7 pm rfl;have lb:(og.map (·.2)).length=(og.map (·.1)).length:=by rw[ag,ag]
 have lu:=pv.length_eq;have e1:(og.map λx=>Value.ref x.2)=(og.map (·.2)).map Value.ref:=by rw[cx];rfl
 rw[e1];have sc:fZ (og.map (·.1))=fZ (JM.map (·.1)):=Bd (pv.map _);refine xr (s:=s) (I.aa4 (t':=tk) (d':=d) kp) lb (λi z b e2 e3=>?_) (λh2 r hr=>?_) (by rw[ag];lia) λl zs km hz hm=>?_
 ·rw[aJ]at e2 e3;obtain⟨x,ex,rfl⟩:=bo.mp e2;rw[ex]at e3;cases e3;exact(hx x (pv.mem_iff.mp (aC ex))).1
 ·obtain⟨x,YO,rfl⟩:=aM.mp hr;exact gP (by rw[ag]at h2;lia) x (pv.mem_iff.mp YO)
 ·rw[sc]at hz;refine q l zs km hz λz hzm=>?_;obtain⟨b,hb,rfl⟩:=aM.mp (hm z hzm);obtain⟨x,YO,rfl⟩:=aM.mp hb;exact(hx x (pv.mem_iff.mp YO)).2
end
def Tt(hl:(apos.endLine==dP.line)=true:=by rfl)(hb:attributeBase (.Name d pd) "get" X.env (eval (.Name d pd) X.env)=eval (.Name d pd) X.env:=by rfl):M2 X (.Name d pd) "get" apos (.Name x px) (.List [] pl) dP:=⟨hb,rfl,hl,rfl⟩
section
variable{prog:Program}{w:World}{A:Around}{E:Value->Shared->Prop}{s:Shared}{d it:Addr}{o:Obj}{es:Array DictEntry}{ep i:Nat}
def Ee(lo:(d==sysModules)=false)(ho:s.heap.get? d=some o)(hx:o.ExactDict)(hd:o.data=.dict es ep)
  (q:Q (.ref s.heap.objs.size) {s with heap:=s.heap.push {cls:=.type "dict_keyiterator",data:=.fields #[.ref d,.int 0 0,.int es.size 0,.int ep 0]}}):wpAny (model prog w) A (pyIter (.ref d)) Q E s:=by
 have ty:s.TypeIs (.ref d) "dict":=⟨o,ho,hx.1⟩;refine nR ty vV (bC vV ty PySem.F.entry_dict_iter ?_ (PySem.F.args_dict_iter_1 _));unfold Builtin.«dict.__iter__» Builtin.Dict.dictSlotNone;refine ae (ae (iF ty (ah (a:=Value.ref d) ?_)));show wpAny _ _ (Builtin.Dict.showsAll d>>=_) _ _ s;unfold Builtin.Dict.showsAll;rw[lo];refine ae (ah (ae (fQ ho hd (ae (jS ho hd ?_)))));exact ae (cT (ah ⟨_,rfl,"dict_keyiterator",_,⟨_,aG _ rfl,rfl⟩,d9.lookup,q⟩))
def NC(hit:s.heap.IsKeyIter it d i es.size ep)(ho:s.heap.get? d=some o)(hd:o.data=.dict es ep)(hi:i<es.size)
  (q:∀h',h'.IsKeyIter it d (i+1) es.size ep->Heap.SameBut it s.heap h'->Q (some es[i].key) {s with heap:=h'}):wpAny (model prog w) A (pyNext (.ref it)) Q E s:=by
 obtain⟨oi,Ft,ci,di⟩:=id hit;unfold pyNext;refine ae (dt (wpAny_callSpecial?_slot (name:=Str.ofString "__next__") hit.typeIs d9 (bC d9 hit.typeIs nE ?_ (mW _))));refine ae (ah (ae (ae (ae (hJ hit.typeIs (ah ?_))))));refine ae (ic Ft di ?_);have own:Builtin.Dict_items.ownsTuple "dict_keyiterator"=false:=by decide
 simp only[own,bh,bX];show wpAny _ _ (if(Value.ref d==Value.none)=true then _ else _) _ _ s;rw[ax (show ¬((Value.ref d==Value.none)=true)from aT)];refine ae (ah (ae (fQ ho hd ?_)));rw[ax (by simp)];refine ae (ah (ae (jS ho hd ?_)));rw[ax (by simp)];refine ah ?_;simp only[show ¬((i:Int)<0)from by lia,bX,cN,bz hi];refine ae (ae (hJ hit.typeIs (ah (ae (wc hit.typeIs ?_)))));show wpAny _ _ (setField (.ref it) 1 (rawInt ((i:Int)+1))>>=_) _ _ s;refine ae (eT Ft di (by simp) ?_);have Mb:(s.heap.update it (Obj.mapFields (·.setIfInBounds 1 (rawInt ((i:Int)+1))))).IsKeyIter it d (i+1) es.size ep:=
  ⟨_,b7 _ Ft (xf (mY di _)),(A3 ..).trans ci,by rw[mY di];simp[rawInt]⟩
 refine ae (bR (ae (wc (s:={s with heap:=s.heap.update it (Obj.mapFields (·.setIfInBounds 1 (rawInt ((i:Int)+1))))}) Mb.typeIs ?_)));show wpAny _ _ (pure es[i].key) _ _ _;exact ah (ah ⟨_,rfl,ah (q _ Mb (bU ..))⟩)
def E2(hh:A.handled=none)(hit:s.heap.IsKeyIter it d i es.size ep)(ho:s.heap.get? d=some o)(hd:o.data=.dict es ep)(hi:es.size<=i)
  (q:∀h',(∀b x,b≠it->s.heap.get? b=some x->h'.get? b=some x)->Q none {s with heap:=h'}):wpAny (model prog w) A (pyNext (.ref it)) Q E s:=by
 obtain⟨oi,Ft,ci,di⟩:=id hit;unfold pyNext;refine ae (dt (wpAny_callSpecial?_slot (name:=Str.ofString "__next__") hit.typeIs d9 (bC d9 hit.typeIs nE ?_ (mW _))));refine ae (ah (ae (ae (ae (hJ hit.typeIs (ah ?_))))));refine ae (ic Ft di ?_);have own:Builtin.Dict_items.ownsTuple "dict_keyiterator"=false:=by decide
 simp only[own,bh,bX];show wpAny _ _ (if(Value.ref d==Value.none)=true then _ else _) _ _ s;rw[ax (show ¬((Value.ref d==Value.none)=true)from aT)];refine ae (ah (ae (fQ ho hd ?_)));rw[ax (by simp)];refine ae (ah (ae (jS ho hd ?_)));rw[ax (by simp)];refine ah ?_;simp only[show ¬((i:Int)<0)from by lia,bX,cN,kj hi];refine ae (ae (hJ hit.typeIs (ah ?_)));show wpAny _ _ (setField (.ref it) 0 .none>>=_) _ _ s;refine ae (eT Ft di (by simp) ?_);refine Tb.AE (s:=s) (show A.in1.handled=none from hh) λh' e kp acj=>?_;obtain⟨oe,he,ce⟩:=acj;exact ae (fu (T:="StopIteration") (b:=true) ⟨oe,he,ce⟩ jt (ah (q _ λb x nb g=>kp b x ((bJ _ _ (bP nb)).trans g))))
end
def DX(P:Program)(w:World)(d:Addr)(kvs:List (Key×V))(ok ov:V):Heap->Prop:=λh=>(d==sysModules)=false/\∃o es ep vs e,h.get? d=some o/\o.ExactDict/\o.data=.dict (es.push e) ep/\KV kvs vs/\KeysOf (bA P w) es/\Pairs (bA P w) es.toList vs/\(vs.map (·.1)).Nodup/\RelV ok e.key/\RelV ov e.val/\kvs.length<=1000
section
variable{X:Cx}{pins:List (Addr×Obj)}{Z:St}{H:Hp}{s:Shared}
def Inv.Ew(I:Inv X pins Z H s)(hd:H d=some (.ext φ))(ho:s.heap.get? d=some o):Inv X pins Z (upd H d (.cQ o (.ext φ))) s:=by
 have nd:∀b u,H b=some u->(∀l,u≠ .ext l)->b≠d:=λb u q n z=>by rw[z,hd]at q;exact n φ (bL q).symm
 have gP:∀b,H b=none->b≠d:=λb q z=>by rw[z,hd]at q;cases q
 refine I.un (h':=s.heap) (t':=s.toks) ⟨λb u e _ _ _=>e,λb u e _ _ _=>⟨u.slots,e⟩,λb u e n _=>by rw[aw (gP b n)];exact n,λb u e _=>⟨u,e⟩,λb xs q=>by rw[aw (nd b _ q λl z=>by cases z)];exact q,λb u v q=>by rw[aw (nd b _ q λl z=>by cases z)];exact q,λb ps q=>⟨#[],by rw[aw (nd b _ q λl z=>by cases z),q];simp⟩⟩ λb u g=>?_;by_cases hb:b=d
 ·subst hb;rw[au]at g;cases g;exact⟨ho,I.bw b _ hd⟩
 ·rw[aw hb]at g;exact(I.bw b u g).iS (λc v hc q=>q) (λc q=>by rw[aw (nd c _ q λl z=>by cases z)];exact q) λc ys q=>by rw[aw (nd c _ q λl z=>by cases z)];exact q
def Inv.Ln(I:Inv X pins Z H s)(hd:H d=some (.cQ o u))(hn:∀u v,X.aaf d≠some (.cQ u v)):Inv X pins Z (upd H d u) s:=by
 have nd:∀b u,H b=some u->(∀v l,u≠ .cQ v l)->b≠d:=λb u q n z=>by rw[z,hd]at q;exact n _ _ (bL q).symm
 have gP:∀b,H b=none->b≠d:=λb q z=>by rw[z,hd]at q;cases q
 refine⟨I.ok,I.os,I.bare,⟨I.base.keep,I.base.slot,λb u e n hx=>?_,I.base.there,λb xs q=>?_,λb u v q=>?_,λb ps q=>?_⟩,I.loc,I.cell,?_,λx c e=>?_,λp hp=>?_,λb v g=>?_,I.len⟩
 ·have z:=I.base.free b u e n hx;rw[aw (gP b z)];exact z
 ·have z:=I.base.lN b xs q;rw[aw (nd b _ z λv l t=>by cases t)];exact z
 ·have z:=I.base.sA b u v q;rw[aw (show b≠d fromλt=>hn u v (by rw[<-t];exact q))];exact z
 ·obtain⟨m,z⟩:=I.base.xn b ps q;exact⟨m,by rw[aw (nd b _ z λv l t=>by cases t)];exact z⟩
 ·rw[aw (gP _ I.free)];exact I.free
 ·rw[aw (gP _ (I.nq x c e))];exact I.nq x c e
 ·obtain⟨a1,a2,a3,a4,a5⟩:=I.pin p hp;exact⟨a1,by rw[aw (gP _ a2)];exact a2,a3,a4,a5⟩
 ·by_cases hb:b=d
  ·subst hb;rw[au]at g;cases g;exact((I.bw b _ hd).2).iS (λc v hc q=>q) (λc q=>by rw[aw (nd c _ q λv l z=>by cases z)];exact q) λc ys q=>by rw[aw (nd c _ q λv l z=>by cases z)];exact q
  ·rw[aw hb]at g;exact(I.bw b v g).iS (λc v hc q=>q) (λc q=>by rw[aw (nd c _ q λv l z=>by cases z)];exact q) λc ys q=>by rw[aw (nd c _ q λv l z=>by cases z)];exact q
end
inductive W9(t:TE)(Z:St)(H:Hp)(Q:VK):Prop
 |mk (d:Addr) (_:(∀u v,H d≠some (.cQ u v))) (_:t Z H λv H'=>∃o u,H' d=some (.cQ o u)/\Q v (upd H' d u))
def G9(h:PE X e t):PE X e (W9 t):=by intro pins s Z H Q I ht;obtain⟨d,hd,ht⟩:=ht;have h0:∀u v,X.aaf d≠some (.cQ u v):=λu v e=>hd u v (I.base.sA d u v e);refine cV (h pins s Z H _ I ht) λv s1 x H1 I1 r1 ⟨o,u,e,q⟩=>⟨x,_,I1.Ln e h0,r1,q⟩
def I0(d:Addr)(o:Obj)(u:HO)(kvs:List (V×V)):It:=
 ⟨λi H=>H d=some (.cQ o u)/\i<kvs.length,λi H x H'=>H'=H/\∃kv,kvs[i]?=some kv/\x=kv.1,λi H=>H d=some (.cQ o u)/\kvs.length<=i⟩
def Jb(o:Obj)(es:Array DictEntry)(ep:Nat)(kvs:List (V×V)):Prop:=o.ExactDict/\o.data=.dict es ep/\Paired (λ(p:V×V)(e:DictEntry)=>RelV p.1 e.key/\RelV p.2 e.val) kvs es.toList
def Nd{K:Frag}(m:Jb o es ep kvs):Turn P w K tg (I0 d o u kvs) [it] it (λi h=>h.IsKeyIter it d i es.size ep) where
 mem:=by simp
 obj:=λi h st b hb=>by
  have e:b=it:=by simpa using hb
  subst e;obtain⟨v,e,c,q⟩:=st;exact⟨v,e,λv z=>by rw[q]at z;cases z⟩
 keep:=λi h h' st k=>by obtain⟨v,e,r⟩:=st;exact⟨v,k it (by simp) v e,r⟩
 item:=by
  intro X hP hw hK hc i pins s Z H E I hf st hg;subst hP hw hK;obtain⟨hd,hi⟩:=hg;have hl:kvs.length=es.size:=by rw[bB m.2.2,aR]
  have ga:s.heap.get? d=some o:=(I.bw d _ hd).1;obtain⟨f0,f1,f2,f3,f4,f5⟩:=hf it (by simp);obtain⟨kv,hG⟩:∃kv,kvs[i]?=some kv:=⟨_,ar hi⟩;have Pj:i<es.size:=by lia
  obtain⟨e,he,r⟩:=Paired.at' m.2.2 hG;have ee:es[i]=e:=by rw[bD,bz Pj]at he;exact bL he
  refine NC st ga m.2.1 Pj λh' gM sb=>?_;have I1:Inv X pins Z H {s with heap:=h'}:=I.turned (t':=s.toks) (λb o hb e=>(sb.2 b hb).trans e) f0 f1 f3 f4 f5;obtain⟨v,ev,c,q⟩:=id gM;exact⟨_,rfl,AO (s:={s with heap:=h'}) ev c q (by decide) ⟨kv.1,H,I1,by rw[ee];exact r.1,⟨rfl,kv,hG,rfl⟩,gM,λb hb=>(hf b hb).1⟩⟩
 done:=by
  intro X hP hw hK hc i pins s Z H E I hf st hg;subst hP hw hK;obtain⟨hd,hi⟩:=hg;have hl:kvs.length=es.size:=by rw[bB m.2.2,aR]
  have ga:s.heap.get? d=some o:=(I.bw d _ hd).1;obtain⟨f0,f1,f2,f3,f4,f5⟩:=hf it (by simp);exact E2 (I.ok.hd hc) st ga m.2.1 (by lia) λh' eb=>⟨rfl,I.turned (t':=s.toks) (λb o hb e=>eb b o hb e) f0 f1 f3 f4 f5⟩
 self:=λ_ _ _ _ _ st h=>pq st h
def MV(P:Program)(w:World)(d:Addr)(u:HO)(kvs:List (V×V)):Prop:=(∃l,u=.dK l/\kvs=l.map λp=>(kV p.1,p.2))\/∃l ok ov,u=.ext (DX P w d l ok ov)/\kvs=(l.map λp=>(kV p.1,p.2))++[(ok,ov)]
def C4(rel:KV kvs vs)(hp:Pairs (bA P w) es vs):Paired (λ(p:V×V)(e:DictEntry)=>RelV p.1 e.key/\RelV p.2 e.val) (kvs.map λp=>(kV p.1,p.2)) es:=by
 unfold KV at rel
 induction hp generalizing kvs with
 |nil=>cases rel;exact .nil
 |@cons e kv es vs hk hv _ ih=>
  cases rel with
  |@cons p _ ps _ hr t=>exact .cons ⟨tX (by rw[hr.1];exact hk),by rw[hv];exact hr.2⟩ (ih t)
def We(x:dm P w H h d u)(hv:MV P w d u kvs):(d==sysModules)=false/\∃o es ep,h.get? d=some o/\Jb o es ep kvs:=by
 rcases hv with⟨l,rfl,rfl⟩|⟨l,ok,ov,rfl,rfl⟩
 ·obtain⟨_,lo,vs,rel,o,es,ep,ga,hx,hd,_,hp,_⟩:=x;exact⟨lo,o,es,ep,ga,hx,hd,C4 rel hp⟩
 ·obtain⟨⟨lo,o,es,ep,vs,e,ga,hx,hd,rel,_,hp,_,r1,r2,_⟩,_⟩:=x;refine⟨lo,o,_,ep,ga,hx,hd,?_⟩;rw[kH];exact lM (C4 rel hp) ⟨r1,r2⟩
def Inv.Wb(I:Inv X pins Z H s)(hd:H d=some u)(hv:MV X.prog X.w d u kvs)(ho:s.heap.get? d=some o):Inv X pins Z (upd H d (.cQ o u)) s:=by
 rcases hv with⟨l,rfl,rfl⟩|⟨l,ok,ov,rfl,rfl⟩
 ·exact I.freeze hd ho
 ·exact I.Ew hd ho
inductive V6(P:Program)(w:World)(R:It->Hp->Prop)(x:V)(H1:Hp):Prop
 |mk d u kvs (_:x=.ref d) (_:H1 d=some u) (_:MV P w d u kvs) (_:∀o,R (I0 d o u kvs) (upd H1 d (.cQ o u)))
def YH(P:Program)(w:World)(tl:TE):TI:=λZ H R=>tl Z H λx H1=>V6 P w R x H1
def G5(hl:PE X l tl):PI X tg l (YH X.prog X.w tl):=by
 intro pins s Z H R I h;refine cV (hl pins s Z H _ I h) λv s1 x H1 I1 r1 q1=>?_;obtain⟨d,u,kvs,e,hd,hv,q⟩:=q1;subst e;cases r1;obtain⟨lo,o,es,ep,ga,m⟩:=We (I1.bw d _ hd) hv;refine Ee lo ga m.1 m.2.1 ?_;have I2:=I1.Wb hd hv ga;refine⟨s1.heap.objs.size,[s1.heap.objs.size],_,_,_,rfl,I2.kept (t':=s1.toks) λb o e=>af _ e,Nd m,⟨_,aG _ rfl,rfl,rfl⟩,λb hb=>?_,q o⟩;have e:b=s1.heap.objs.size:=by simpa using hb
 subst e;exact I2.pT (ak _) (I2.bw.fresh (ak _))
def GK(hv:s.heap.IsItemsView v d)(ho:s.heap.get? d=some o)(hd:o.data=.dict es ep)
  (q:Q (.ref s.heap.objs.size) {s with heap:=s.heap.push {cls:=.type "dict_itemiterator",data:=.fields #[.none,.bool false,.ref d,.int 0 0,.int es.size 0,.int ep 0,.none,.none]}}):wpAny (model prog w) A (pyIter (.ref v)) Q E s:=by
 obtain⟨ov,hov,hcv,hdv⟩:=id hv;refine nR hv.typeIs qT (bC qT hv.typeIs PySem.F.entry_dict_items_iter ?_ (PySem.F.args_dict_items_iter_1 _));unfold Builtin.«dict_items.__iter__» Builtin.Dict_items.dictOf Builtin.Dict_items.newIterator;refine ae (ah (ae (ae (bO hov hdv (x:=.ref d) rfl (ah ?_)))));refine ae (ae (fQ ho hd (ae (jS ho hd ?_))));have own:Builtin.Dict_items.ownsTuple "dict_itemiterator"=true:=by decide
 simp only[own,fJ];refine cT (ah ⟨_,rfl,"dict_itemiterator",_,⟨_,aG _ rfl,rfl⟩,bV.lookup,?_⟩) (by simp only[sizeOk,Builtin.Dict_items.ownedTupleFields,aN,aK,bH,cS,cv];lia);simpa[rawInt,Builtin.Dict_items.ownedTupleFields]using q
inductive Xa(t:TS)(D:Ends)(Z:St)(H:Hp):Prop
 |mk (d:Addr) (_:(∀u v,H d≠some (.cQ u v))) (_:t {D with nx:=λσ' H'=>∃o u,H' d=some (.cQ o u)/\D.nx σ' (upd H' d u),rt:=λv H'=>∃o u,H' d=some (.cQ o u)/\D.rt v (upd H' d u)} Z H)
def BZ{st:Stmt}(h:PS X st t):PS X st (Xa t):=by
 intro pins s Z H D I ht;obtain⟨d,hd,ht⟩:=ht;have h0:∀u v,X.aaf d≠some (.cQ u v):=λu v e=>hd u v (I.base.sA d u v e);refine hE (h pins s Z H _ I ht) λf s1 q=>?_;cases f with
 |next=>
  obtain⟨σ',H',J,o,u,e,n⟩:=q;exact⟨σ',_,J.Ln e h0,n⟩
 |brk=>exact q
 |cont=>exact q
 |ret u=>
  obtain⟨v,σ',H',J,r,o,u',e,n⟩:=q;exact⟨v,σ',_,J.Ln e h0,r,n⟩
section
variable{d:Addr}{o:Obj}{u:HO}{kvs:List (V×V)}
def FC{g:TG}{tb:TS}{D:Ends}(Pv:Nat->St->Hp->Prop)(h0:Pv 0 Z H)(hl:∀i Z H,i<=kvs.length->Pv i Z H->H d=some (.cQ o u))
  (hs:∀i kv Z H,kvs[i]?=some kv->Pv i Z H->g kv.1 Z H λσ2 H2=>tb {D with nx:=Pv (i+1),ct:=Pv (i+1),bk:=D.nx} σ2 H2) (hd:∀Z H,Pv kvs.length Z H->D.nx Z H):
  ∃W:Nat->Nat->St->Hp->Prop,(∃m,W 0 m Z H)/\∀i m Z H,W i m Z H->
   ((I0 d o u kvs).stop i H/\D.nx Z H)\/((I0 d o u kvs).go i H/\∃N:St->Hp->Prop,(∀σ' H',N σ' H'->∃m',m'<m/\W (i+1) m' σ' H')/\∀x H',(I0 d o u kvs).yA i H x H'->g x Z H' λσ2 H2=>tb {D with nx:=N,ct:=N,bk:=D.nx} σ2 H2):=by
 refine⟨λi m Z H=>m=kvs.length -i/\i<=kvs.length/\Pv i Z H,⟨kvs.length,by simp,aO _,h0⟩,?_⟩;rintro i m Z H ⟨rfl,hi,p⟩;have q:=hl i Z H hi p;by_cases bQ:i<kvs.length
 ·refine .inr ⟨⟨q,bQ⟩,Pv (i+1),λσ' H' p'=>⟨kvs.length -(i+1),by lia,rfl,bQ,p'⟩,λx H' y=>?_⟩;obtain⟨rfl,kv,hk,rfl⟩:=y;exact hs i kv Z _ hk p
 ·have e:i=kvs.length:=by lia
  subst e;exact .inl ⟨⟨q,ak _⟩,hd Z H p⟩
def ML(Pv:Nat->List V->Hp->Prop)(hx:kvs.length<sizeLine)(h0:Pv 0 [] H1)(hl:∀i ys H,i<=kvs.length->Pv i ys H->H d=some (.cQ o u)/\ys.length<=i)
  (hs:∀(i:Nat)(kv:V×V)(ys:List V)(H:Hp)(N:List V->Hp->Prop),kvs[i]?=some kv->Pv i ys H->(∀fY H',Pv (i+1) fY H'->N fY H')->
   tt (some kv.1::slotsOf fr Z) H λb H4=>if b=true then te (some kv.1::slotsOf fr Z) H4 (λy H5=>N (ys++[y]) H5)else N ys H4)
  (hd:∀ys H,Pv kvs.length ys H->∀l,H l=none->R l ys H):yy (I0 d o u kvs) fr tt te Z H1 R:=by
 refine⟨λi m ys H=>m=kvs.length -i/\i<=kvs.length/\Pv i ys H,⟨kvs.length,by simp,aO _,h0⟩,?_⟩;rintro i m ys H ⟨rfl,hi,p⟩;obtain⟨q,hy⟩:=hl i ys H hi p;by_cases bQ:i<kvs.length
 ·refine .inr ⟨⟨q,bQ⟩,by lia,?_⟩;rintro v H3 ⟨rfl,kv,hG,rfl⟩;exact hs i kv ys H3 (λfY H'=>∃m',m'<kvs.length -i/\m'=kvs.length -(i+1)/\i+1<=kvs.length/\Pv (i+1) fY H') hG p λfY H' p'=>⟨_,by lia,rfl,bQ,p'⟩
 ·have e:i=kvs.length:=by lia
  subst e;exact .inl ⟨⟨q,ak _⟩,by lia,hd ys H p⟩
end
def IX(K:Frag)(H:Hp):List (Key×V)->List (Key×V)->Prop:=Paired λp q=>p.1=q.1/\∃d,Dt K H d p.2/\Dt K H d q.2/\SeqAt.shaped d=true/\PyData.eqv d d=true
inductive abQ(K:Frag)(neg:Bool)(x:V)(y:V)(H:Hp)(Q:VK):Prop
 |mk a b ka kb (_:x=.ref a) (_:y=.ref b) (_:H a=some (.dK ka)) (_:H b=some (.dK kb)) (_:IX K H ka kb) (_:Q (.bl (!neg)) H)
section
variable{X:Cx}
def V8(hu:X.A.units+96<cLine)(I:Inv X pins Z H s)(nd:(kb.map (·.1)).Nodup):∀{ka Yx:List (Key×V)}{va vb:List (Key×Value)},IX X.K H ka Yx->KV ka va->KV Yx vb->(∀p∈vb,p∈kb)->PySem.W.KeqHits X.A.in1 s kb va true:=by
 intro ka Yx va vb h
 induction h generalizing va vb with
 |nil=>
  intro r1 r2 _;cases r1;exact .nil
 |@cons p q ps qs hr _ ih=>
  intro r1 r2 hm;cases r1 with
  |@cons _ a _ as h1 t1=>
   cases r2 with
   |@cons _ b _ bs h2 t2=>
    obtain⟨e,d,d1,d2,sh,ev⟩:=hr;obtain⟨k,v⟩:=a;obtain⟨k',v'⟩:=b;have ek:k=k':=h1.1.symm.trans (e.trans h2.1);subst ek;obtain⟨as1,ra⟩:=mF I d p.2 v d1 h1.2;obtain⟨bs1,rb⟩:=mF I d q.2 v' d2 h2.2;have at':=PySem.W.keq_at (A:=X.A) ra rb sh sh (show X.A.units+1+64<cLine by lia);rw[ev]at at';obtain⟨i,hi⟩:=eC.mp (hm (k,v') aA);exact .hit (e:=true) (b:=true) (valueAt_of_get nd hi) at' (ih t1 t2 λx hx=>hm x (aD _ hx))
def XO(hu:X.A.units+96<cLine):jr X (compareOp .NotEq) (abQ X.K true):=by
 intro pins s Z H x y v u Q I rx ry h;obtain⟨a,b,ka,kb,rfl,rfl,ha,hb,hs,q⟩:=h;cases rx;cases ry;obtain⟨_,la,va,ra,da⟩:=tN I.bw ha;obtain⟨_,lb,vb,rb,db⟩:=tN I.bw hb;have le:va.length=vb.length:=by rw[<-ra.length,<-rb.length];exact hs.length
 refine PySem.W.keq_ne (r:=true) la lb da db (by lia) (λ_=>V8 hu I ?_ hs ra rb λ_ h=>h) ?_
 ·obtain⟨_,_,_,_,_,_,_,_,nd⟩:=db;exact nd
 ·rw[le];simp only[BEq.rfl,f7,dv];exact⟨.bl false,H,I,rfl,q⟩
def jf(r:List Str):PyData:=.tuple (r.map PyData.str)
def qX(rows:List (List Str)):PyData:=.list (rows.map jf)
def uT(rows:List (List Str)):Prop:=∀r∈rows,∀z∈r,PyData.strOk z=true
variable{K:Frag}{H:Hp}
def II(h:∃a,y=.ref a/\bE K H a (r.map V.str)):Dt K H (jf r) y:=by obtain⟨a,rfl,h⟩:=h;unfold jf;rw[Dt];exact⟨a,_,rfl,h,DG r⟩
def My:∀{ys:List V}{rows:List (List Str)},eB K H ys rows->oQ K H (rows.map jf) ys:=by
 intro ys rows h
 induction h with
 |nil=>rw[jF,oQ]
 |cons hr _ ih=>
  rw[aX,oQ];exact⟨_,_,rfl,II hr,ih⟩
def tY(h:bp K H p ys)(hr:eB K H ys rows):Dt K H (qX rows) (.ref p):=by unfold qX;rw[Dt];exact⟨p,ys,rfl,h,My hr⟩
def K4(r t:List Str):PyData.eqv (jf r) (jf t)=decide (r=t):=by unfold jf;rw[PyData.eqv,BC]
theorem BD:∀a b:List (List Str),PyData.eqvAll (a.map jf) (b.map jf)=decide (a=b)
 |[],[]=>by simp[PyData.eqvAll]
 |[],_::_=>by simp[PyData.eqvAll]
 |_::_,[]=>by simp[PyData.eqvAll]
 |a::r,b::t=>by simp only[aX,PyData.eqvAll,K4,BD r t];by_cases h:a=b<;>by_cases h':r=t<;>simp[h,h']
def IH(a b:List (List Str)):PyData.eqv (qX a) (qX b)=decide (a=b):=by unfold qX;rw[PyData.eqv,BD]
theorem xM:∀rows:List (List Str),uT rows->PyData.canLayAll0 (rows.map jf)=true
 |[],_=>rfl
 |z::r,h=>by have h1:(jf z).canLay0=true:=Cb z (h z aA);have h2:=xM r λy hy=>h y (aD _ hy);simp[PyData.canLayAll0,h1,h2]
theorem DI:∀rows:List (List Str),PyData.depthAll (rows.map jf)<=1
 |[]=>by simp[PyData.depthAll]
 |z::r=>by
  have h1:(jf z).depth=1:=by simp[jf,PyData.depth,pX]
  have:=DI r;simp[PyData.depthAll,h1];lia
def vL(h:uT rows):SeqAt.shaped (qX rows)=true:=by have:=DI rows;simp[SeqAt.shaped,qX,PyData.canLay0,PyData.depth,xM rows h];lia
def CU(h:∀z∈r,PyData.strOk z=true):SeqAt.shaped (jf r)=true:=by simp[SeqAt.shaped,jf,PyData.canLay0,PyData.depth,Cb r h,pX]
end
def eB.keep{K:Frag}(h:eB K H ys rows)(k:∀a xs,bE K H a xs->bE K H' a xs):eB K H' ys rows:=by
 induction h with
 |nil=>exact .nil
 |cons hr _ ih=>
  obtain⟨a,e,hr⟩:=hr;exact .cons ⟨a,e,k _ _ hr⟩ ih
inductive NK:Type
 |cb
 |key (k:Key)
 |tup (ks:List NK)
noncomputable instance:DecidableEq NK:=λa b=>Classical.propDecidable (a=b)
section
variable(P:Program)(w:World)
mutual
inductive kC(h:Heap):NK->Value->Prop
 |cb:kC h .cb .none
 |key {k:Key} {v:Value}:(bA P w).is k v=true->kC h (.key k) v
 |tup {ks:List NK} {a:Addr} {o:Obj} {items:Array Value} {n:Nat}:h.get? a=some o->o.cls=.type "tuple"->o.data=.seq items n->kM h ks items.toList->kC h (.tup ks) (.ref a)
inductive kM(h:Heap):List NK->List Value->Prop
 |nil:kM h [] []
 |cons {k:NK} {v:Value} {ks:List NK} {vs:List Value}:kC h k v->kM h ks vs->kM h (k::ks) (v::vs)
end
mutual
def NK.hash:NK->Int
 | .cb=>0xFCA86420
 | .key k=>(bA P w).hash k
 | .tup ks=>reduceHash (Builtin.Tuple.tupleHashOf (NK.hashes ks))
def NK.hashes:List NK->List Int
 |[]=>[]
 |k::ks=>NK.hash k::NK.hashes ks
end
mutual
def NK.draws:NK->Nat
 | .cb=>1
 | .key _=>1
 | .tup ks=>NK.mN ks+1
def NK.mN:List NK->Nat
 |[]=>0
 |k::ks=>NK.draws k+NK.mN ks
end
mutual
def NK.deep:NK->Nat
 | .cb=>0
 | .key _=>0
 | .tup ks=>NK.nv ks+1
def NK.nv:List NK->Nat
 |[]=>0
 |k::ks=>max (NK.deep k) (NK.nv ks)
end
end
section
variable{P:Program}{w:World}{A:Around}{E:Value->Shared->Prop}{s:Shared}
def Mi(q:Q 0xFCA86420 {s with toks:=s.toks+1}):wpAny (model P w) A (pyHash .none) Q E s:=by have ty:s.TypeIs .none "NoneType":=rfl;unfold pyHash pyHashByItsType;refine ae (wpAny_cRoomFor_byValue rfl (ae (gK ty iV.lookup ?_)));rw[ax (by rw[beq_builtin_none];exact aT)];refine ae (gK ty iV.lookup ?_);refine ae (wpAny_callSpecialIfBoundUnlessNone?_slot ty iV (bC iV ty PySem.F.entry_NoneType_hash (show wpAny _ _ (do ret (<-mkInt 0xFCA86420)) _ _ s from wpAny_ret_mkInt ?_) (PySem.F.args_NoneType_hash_1 _)));exact ah q
def NK.RR(ks:List NK):NK.hash P w (.tup ks)=reduceHash (Builtin.Tuple.tupleHashOf (NK.hashes P w ks)):=by rw[NK.hash]
def Pp(hu:A.units<cLine)(ho:s.heap.get? a=some o)(hc:o.cls=.type "tuple")(hd:o.data=.seq items n)(hi:kM P w s.heap ks items.toList)
  (ih:∀(A':Around)(k:NK)(v:Value)(t:Nat)(E':Value->Shared->Prop)(R:Int->Shared->Prop),A'.units<=A.units+4->k∈ks->kC P w s.heap k v->R (NK.hash P w k) {s with toks:=t+NK.draws k}->wpAny (model P w) A' (pyHash v) R E' {s with toks:=t})
  (h:Q (NK.hash P w (.tup ks)) {s with toks:=s.toks+NK.draws (.tup ks)}):wpAny (model P w) A (pyHash (.ref a)) Q E s:=by
 have hT:s.TypeIs (.ref a) "tuple":=⟨o,ho,hc⟩;unfold pyHash pyHashByItsType;refine ae (wpAny_cRoomFor_or (.inr hu) ?_);refine ae (gK hT kF.lookup ?_);rw[ax (by rw[beq_builtin_none];exact aT)];refine ae (gK hT kF.lookup ?_);refine ae (wpAny_callSpecialIfBoundUnlessNone?_slot hT kF (bC kF hT F.entry_tuple_hash ?_ (F.args_tuple_hash_1 _)));show wpAny _ _ (Builtin.Tuple.tupleItemsOf (.ref a)>>=_) _ _ s;refine ae (wpAny_tupleItemsOf ho hd ?_);refine ae ?_;rw[<-iC];refine jv _
  (λrest(b:Array Int) s'=>∃done left,ks=done++left/\kM P w s.heap left rest/\b.toList=NK.hashes P w done/\s'={s with toks:=s.toks+NK.mN done})
  _ ?_ ?_ _ _ ⟨[],ks,rfl,hi,by simp[NK.hashes],by simp[NK.mN]⟩
 ·rintro x rest b s' ⟨done,left,e,hl,hb,rfl⟩;cases hl with
  |@cons k _ Yq _ h1 oB=>
   have e2:NK.hashes P w (done++[k])=NK.hashes P w done++[NK.hash P w k]:=by
    clear e hb
    induction done with
    |nil=>simp[NK.hashes]
    |cons a r OQ=>simp only[il,NK.hashes,OQ]
   have e3:NK.mN (done++[k])=NK.mN done+NK.draws k:=by
    clear e hb e2
    induction done with
    |nil=>simp[NK.mN]
    |cons a r OQ=>simp only[il,NK.mN,OQ];lia
   refine ae (ih _ k x _ _ _ ?_ (by rw[e];simp) h1 ?_)
   ·show A.units+1<=A.units+4;lia
   ·exact ah ⟨done++[k],Yq,by rw[e];simp,oB,by simp[hb,e2],by rw[e3,oP]⟩
 ·rintro b s' ⟨done,left,rfl,hl,hb,rfl⟩;cases hl;rw[cj]at h;show wpAny _ _ (retInt (Builtin.Tuple.tupleHashOf b.toList)) _ _ _;rw[hb];refine wpAny_ret_mkInt ?_;show wpAny _ _ (if(decide (-(2:Int)^63<=Builtin.Tuple.tupleHashOf (NK.hashes P w done))&&decide (Builtin.Tuple.tupleHashOf (NK.hashes P w done)<2^63))=true then _ else _) Q E _;rw[NK.RR,NK.draws]at h;unfold reduceHash at h;by_cases hr:(decide (-(2:Int)^63<=Builtin.Tuple.tupleHashOf (NK.hashes P w done))&&decide (Builtin.Tuple.tupleHashOf (NK.hashes P w done)<2^63))=true
  ·rw[aB hr];rw[aB hr]at h;exact ah (by simpa[oP]using h)
  ·rw[ax hr];rw[ax hr]at h;exact ae (fg (ah (by simpa[oP]using h)))
mutual
theorem Pq:∀(k:NK)(A:Around)(E:Value->Shared->Prop)(s:Shared)(v:Value)(Q:Int->Shared->Prop),A.units+4*NK.deep k<cLine->kC P w s.heap k v->Q (NK.hash P w k) {s with toks:=s.toks+NK.draws k}->wpAny (model P w) A (pyHash v) Q E s
 | .cb,A,E,s,v,Q,hu,r,q=>by cases r;rw[NK.hash,NK.draws]at q;exact Mi q
 | .key k,A,E,s,v,Q,hu,r,q=>by
  cases r with
  |key h=>
   rw[NK.hash,NK.draws]at q;exact(bA P w).pyHash h q
 | .tup ks,A,E,s,v,Q,hu,r,q=>by
  cases r with
  |tup ho hc hd hi=>
   rw[NK.deep]at hu;exact Pp (by lia) ho hc hd hi (λA' k v t E' R hA hk r q=>Iw ks k hk A' E' {s with toks:=t} v R (by lia) r q) q
theorem Iw:∀(ks:List NK)(k:NK),k∈ks->∀(A:Around)(E:Value->Shared->Prop)(s:Shared)(v:Value)(Q:Int->Shared->Prop),A.units+4*NK.nv ks<cLine->kC P w s.heap k v->Q (NK.hash P w k) {s with toks:=s.toks+NK.draws k}->wpAny (model P w) A (pyHash v) Q E s
 |[],k,h,A,E,s,v,Q,hu,r,q=>by cases h
 |k0::ks,k,h,A,E,s,v,Q,hu,r,q=>by
  rw[NK.nv]at hu;rcases aI.mp h with e|h
  ·rw[e]at r q;exact Pq k0 A E s v Q (by lia) r q
  ·exact Iw ks k h A E s v Q (by lia) r q
end
end
section
variable{P:Program}{w:World}
mutual
theorem Kg:∀(k:NK)(n:Nat)(A:Around)(E:Value->Shared->Prop)(s:Shared)(v:Value)(Q:Bool->Shared->Prop),kC P w s.heap k v->NK.deep k<=n->Q true s->wpAny (model P w) A (eqIsQuiet n v) Q E s
 | .cb,n,A,E,s,v,Q,r,_,q=>by cases r;rw[AY n rfl];exact ah q
 | .key k,n,A,E,s,v,Q,r,_,q=>by
  cases r with
  |key h=>
   rw[AY n ((bA P w).byValue _ _ h)];exact ah q
 | .tup ks,0,A,E,s,v,Q,r,hn,q=>by rw[NK.deep]at hn;exact absurd hn (by lia)
 | .tup ks,n+1,A,E,s,v,Q,r,hn,q=>by
  cases r with
  |@tup _ a o items m ho hc hd hi=>
   rw[NK.deep]at hn;have hT:s.TypeIs (.ref a) "tuple":=⟨o,ho,hc⟩;unfold eqIsQuiet;refine ae (gK hT F.slot_tuple_eq.lookup ?_);show wpAny _ _ (isInstance (.ref a) (.type "tuple")>>=_) _ _ s;refine ae (fu hT isSubtype_tuple_tuple ?_);simp only[dv,bh,bX];refine ae (bS ho hd ?_);refine ae ?_;show wpAny _ _ (forIn items _ _) _ _ s;rw[<-iC];refine jv _ (λrest r s'=>r.1=none/\s'=s/\∃left,kM P w s.heap left rest/\∀k∈left,k∈ks) _ ?_ ?_ _ _ ⟨rfl,rfl,ks,hi,λ_ h=>h⟩
   ·rintro v rest r s' ⟨hr,rfl,left,hl,hm⟩;cases hl with
    |@cons k _ Yq _ h1 oB=>
     refine ae (E3 ks k (hm k aA) n _ _ _ v _ h1 (by lia) ?_);simp only[dv,bh,bX];exact ah ⟨rfl,rfl,Yq,oB,λk' Ip=>hm k' (aD _ Ip)⟩
   ·rintro⟨r1,r2⟩ s' ⟨hr,rfl,_⟩;simp only at hr;subst hr;exact ah q
theorem E3:∀(ks:List NK)(k:NK),k∈ks->∀(n:Nat)(A:Around)(E:Value->Shared->Prop)(s:Shared)(v:Value)(Q:Bool->Shared->Prop),kC P w s.heap k v->NK.nv ks<=n->Q true s->wpAny (model P w) A (eqIsQuiet n v) Q E s
 |[],k,h,n,A,E,s,v,Q,r,hn,q=>by cases h
 |k0::ks,k,h,n,A,E,s,v,Q,r,hn,q=>by
  rw[NK.nv]at hn;rcases aI.mp h with e|h
  ·rw[e]at r;exact Kg k0 n A E s v Q r (by lia) q
  ·exact E3 ks k h n A E s v Q r (by lia) q
end
mutual
def NK.toD:NK->PyData
 | .cb=>.none
 | .key (.inl i)=>.int i
 | .key (.inr z)=>.str z
 | .tup ks=>.tuple (NK.lO ks)
def NK.lO:List NK->List PyData
 |[]=>[]
 |k::ks=>NK.toD k::NK.lO ks
end
mutual
theorem Ef:∀(k:NK){h:Heap}{v:Value},kC P w h k v->∃as,Reads h v (NK.toD k) as
 | .cb,h,v,r=>by cases r;rw[NK.toD];exact⟨_,.none⟩
 | .key (.inl i),h,v,r=>by
  cases r with
  |key q=>
   obtain⟨t,rfl⟩:=(show RelV (.int i) v from tX (k:=Sum.inl i) q);rw[NK.toD];exact⟨_,.int i t⟩
 | .key (.inr z),h,v,r=>by
  cases r with
  |key q=>
   obtain⟨t,rfl⟩:=(show RelV (.str z) v from tX (k:=Sum.inr z) q);rw[NK.toD];exact⟨_,.str z t⟩
 | .tup ks,h,v,r=>by
  cases r with
  |tup ho hc hd hi=>
   obtain⟨as,q⟩:=GR ks hi;rw[NK.toD];exact⟨_,.tuple ho hc hd q⟩
theorem GR:∀(ks:List NK){h:Heap}{vs:List Value},kM P w h ks vs->∃as,ReadsAll h vs (NK.lO ks) as
 |[],h,vs,r=>by cases r;rw[NK.lO];exact⟨_,.nil⟩
 |k::ks,h,vs,r=>by
  cases r with
  |cons r1 r2=>
   obtain⟨as,q1⟩:=Ef k r1;obtain⟨bs,q2⟩:=GR ks r2;rw[NK.lO];exact⟨_,.cons q1 q2⟩
end
mutual
theorem UA:∀(x y:NK),PyData.eqv (NK.toD x) (NK.toD y)=true↔x=y
 | .cb,.cb=>by simp[NK.toD,PyData.eqv]
 | .cb,.key (.inl _)=>by simp[NK.toD,PyData.eqv]
 | .cb,.key (.inr _)=>by simp[NK.toD,PyData.eqv]
 | .cb,.tup _=>by simp[NK.toD,PyData.eqv]
 | .key (.inl _),.cb=>by simp[NK.toD,PyData.eqv]
 | .key (.inl i),.key (.inl j)=>by simp[NK.toD,PyData.eqv]
 | .key (.inl _),.key (.inr _)=>by simp[NK.toD,PyData.eqv]
 | .key (.inl _),.tup _=>by simp[NK.toD,PyData.eqv]
 | .key (.inr _),.cb=>by simp[NK.toD,PyData.eqv]
 | .key (.inr _),.key (.inl _)=>by simp[NK.toD,PyData.eqv]
 | .key (.inr a),.key (.inr b)=>by simp[NK.toD,PyData.eqv]
 | .key (.inr _),.tup _=>by simp[NK.toD,PyData.eqv]
 | .tup _,.cb=>by simp[NK.toD,PyData.eqv]
 | .tup _,.key (.inl _)=>by simp[NK.toD,PyData.eqv]
 | .tup _,.key (.inr _)=>by simp[NK.toD,PyData.eqv]
 | .tup xs,.tup ys=>by rw[NK.toD,NK.toD,PyData.eqv,PJ xs ys];exact⟨cA NK.tup,λh=>by injection h⟩
theorem PJ:∀(xs ys:List NK),PyData.eqvAll (NK.lO xs) (NK.lO ys)=true↔xs=ys
 |[],[]=>by simp[NK.lO,PyData.eqvAll]
 |[],_::_=>by simp[NK.lO,PyData.eqvAll]
 |_::_,[]=>by simp[NK.lO,PyData.eqvAll]
 |x::xs,y::ys=>by rw[NK.lO,NK.lO,PyData.eqvAll,cM,UA x y,PJ xs ys];simp
end
def Bq(h:(bA P w).is k (.ref a)=true):False:=by have:=(bA P w).byValue _ _ h;cases this
def zN(h:(bA P w).is k .none=true):False:=by
 have:=tX (k:=k) h;cases k with
 |inl i=>obtain⟨t,e⟩:=(show∃t,Value.none=Value.int i t from this);cases e
 |inr z=>obtain⟨t,e⟩:=(show∃t,Value.none=Value.str z t from this);cases e
mutual
theorem TF:∀(x y:NK){h:Heap}{v:Value},kC P w h x v->kC P w h y v->x=y
 | .cb,y,h,v,r1,r2=>by
  cases r1;cases r2 with
  |cb=>rfl
  |key q=>exact(zN q).elim
 | .key k,y,h,v,r1,r2=>by
  cases r1 with
  |key q=>
   cases r2 with
   |cb=>exact(zN q).elim
   |key q2=>rw[(bA P w).inj _ _ _ q q2]
   |tup=>exact(Bq q).elim
 | .tup ks,y,h,v,r1,r2=>by
  cases r1 with
  |tup ho hc hd hi=>
   cases r2 with
   |key q=>exact(Bq q).elim
   |@tup ks2 _ o2 wJ n2 yL wV hd2 Uh=>
    rw[ho]at yL;cases yL;rw[hd]at hd2;injection hd2 with e1 _;subst e1;rw[ON ks ks2 hi Uh]
theorem ON:∀(xs ys:List NK){h:Heap}{vs:List Value},kM P w h xs vs->kM P w h ys vs->xs=ys
 |[],ys,h,vs,r1,r2=>by cases r1;cases r2;rfl
 |x::xs,ys,h,vs,r1,r2=>by
  cases r1 with
  |cons a b=>
   cases r2 with
   |@cons y _ ys _ c d=>rw[TF x y a c,ON xs ys b d]
end
mutual
theorem OH(h h':Heap)(k:∀b o,(∀es ep,o.data≠ .dict es ep)->h.get? b=some o->h'.get? b=some o):∀(x:NK){v:Value},kC P w h x v->kC P w h' x v
 | .cb,v,r=>by cases r;exact .cb
 | .key _,v,r=>by
  cases r with
  |key q=>exact .key q
 | .tup ks,v,r=>by
  cases r with
  |tup ho hc hd hi=>exact .tup (k _ _ (λes ep e=>by rw[hd]at e;cases e) ho) hc hd (Ky h h' k ks hi)
theorem Ky(h h':Heap)(k:∀b o,(∀es ep,o.data≠ .dict es ep)->h.get? b=some o->h'.get? b=some o):∀(xs:List NK){vs:List Value},kM P w h xs vs->kM P w h' xs vs
 |[],vs,r=>by cases r;exact .nil
 |x::xs,vs,r=>by
  cases r with
  |cons a b=>exact .cons (OH h h' k x a) (Ky h h' k xs b)
end
def aav(P:Program)(w:World)(h:Heap)(k:NK)(a:Addr):Prop:=kC P w h k (.ref a)/\(NK.toD k).canLay0=true/\(NK.toD k).depth<=7/\NK.deep k<=7
noncomputable def iU(P:Program)(w:World):HeapKind P w NK where
 is:=aav P w
 hash:=NK.hash P w
 draws:=NK.draws
 room:=λA=>A.units+100<cLine
 inj:=λhx hy=>TF _ _ hx.1 hy.1
 keeps:=λx ho hd hs=>⟨OH _ _ (λb o' n e=>by refine(hs.2 b ?_).trans e;rintro rfl;rw[ho]at e;cases e;exact n _ _ hd) _ x.1,x.2⟩
 pyHash:=λhu hk h=>Pq _ _ _ _ _ _ (by have:=hk.2.2.2;lia) hk.1 h
 eqBool:=λ{A E s x y a b Q} hu hx hy h=>by
  obtain⟨as,r1⟩:=Ef x hx.1;obtain⟨bs,r2⟩:=Ef y hy.1;have e:PyData.eqv (NK.toD x) (NK.toD y)=decide (x=y):=by rw[gY,UA,mO]
  have:=SeqAt.eqAt_reads _ _ A s _ _ as bs r1 r2 hx.2.1 hy.2.1 (by have:=hx.2.2.1;have:=Nat.min_le_left (NK.toD x).depth (NK.toD y).depth;lia);rw[e]at this;exact this P w E Q h
 quiet:=λhk h=>Kg _ 8 _ _ _ _ _ hk.1 (by have:=hk.2.2.2;lia) h
end
def DN(P:Program)(w:World)(d:Addr)(kvs:List (NK×Addr×V)):Heap->Prop:=λh=>(d==sysModules)=false/\∃xs:List (NK×Addr×Value),Paired (λ(p:NK×Addr×V)(q:NK×Addr×Value)=>p.1=q.1/\p.2.1=q.2.1/\RelV p.2.2 q.2.2) kvs xs/\kvs.length<=10000000/\
 ∃o es ep,h.get? d=some o/\o.ExactDict/\o.data=.dict es ep/\es.toList=xs.map (entryOfKey (iU P w))/\(xs.map (·.1)).Nodup
def MA(x:DN P w d kvs h):dm P w H h d (.ext (DN P w d kvs)):=
 ⟨x,let⟨_,_,_,_,o,_,_,q,_⟩:=x;⟨o,q⟩,λ_ _ ⟨l,xs,p,n,o,es,ep,q,r⟩ k=>⟨l,xs,p,n,o,es,ep,k _ q,r⟩⟩
mutual
def NV(K:Frag)(H:Hp):NK->V->Prop
 | .cb,v=>v=.cb
 | .key k,v=>v=kV k
 | .tup ks,v=>∃a xs,v=.ref a/\bE K H a xs/\oJ K H ks xs
def oJ(K:Frag)(H:Hp):List NK->List V->Prop
 |[],xs=>xs=[]
 |k::ks,xs=>∃x r,xs=x::r/\NV K H k x/\oJ K H ks r
end
section
variable{X:Cx}{pins:List (Addr×Obj)}{Z:St}{H:Hp}{s:Shared}
mutual
theorem Hs(I:Inv X pins Z H s):∀(k:NK)(v:V)(u:Value),NV X.K H k v->RelV v u->kC X.prog X.w s.heap k u
 | .cb,v,u,h,r=>by rw[NV]at h;subst h;cases(show u=Value.none from r);exact .cb
 | .key k,v,u,h,r=>by rw[NV]at h;subst h;exact .key (tL r)
 | .tup ks,v,u,h,r=>by rw[NV]at h;obtain⟨a,xs,rfl,hq,ha⟩:=h;cases r;obtain⟨aY,rv,⟨o,e,c,n,d⟩,_⟩:=I.tuple hq;exact .tup e c d (by simpa using Fc I ks xs aY ha rv)
theorem Fc(I:Inv X pins Z H s):∀(ks:List NK)(xs:List V)(us:List Value),oJ X.K H ks xs->Vals xs us->kM X.prog X.w s.heap ks us
 |[],xs,us,h,r=>by rw[oJ]at h;subst h;cases r;exact .nil
 |k::ks,xs,us,h,r=>by
  rw[oJ]at h;obtain⟨x,t,rfl,h1,h2⟩:=h;cases r with
  |cons r1 r2=>exact .cons (Hs I k x _ h1 r1) (Fc I ks t _ h2 r2)
end
def UL(k:NK):Prop:=(NK.toD k).canLay0=true/\(NK.toD k).depth<=7/\NK.deep k<=7
end
def iW(K:Frag)(H:Hp)(k:NK)(a:Addr):Prop:=NV K H k (.ref a)/\UL k
def fI(P:Program)(w:World)(K:Frag)(H:Hp)(a:Addr)(kvs:List (NK×Addr×V)):Prop:=(H a=some (.ext (DN P w a kvs))\/(kvs=[]/\H a=some (.dK [])))/\∀p∈kvs,iW K H p.1 p.2.1
def valN(kvs:List (NK×Addr×V))(k:NK):Option V:=(kvs.find? λp=>decide (p.1=k)).map (·.2.2)
def putN(kvs:List (NK×Addr×V))(k:NK)(a:Addr)(v:V):List (NK×Addr×V):=if(valN kvs k).isSome then kvs.map (λp=>if p.1=k then(p.1,p.2.1,v)else p)else kvs++[(k,a,v)]
def wq(rel:Paired (λ(p:NK×Addr×V)(q:NK×Addr×Value)=>p.1=q.1/\p.2.1=q.2.1/\RelV p.2.2 q.2.2) kvs xs)(k:NK):kL (valN kvs k) ((atKey xs k).map (·.2)):=by
 unfold valN atKey
 induction rel with
 |nil=>exact trivial
 |@cons p q ps qs h _ ih=>
  by_cases c:p.1=k
  ·rw[dQ (p:=λp:NK×Addr×V=>decide (p.1=k)) (aU c),dQ (p:=λx:NK×Addr×Value=>decide (x.1=k)) (aU (h.1.symm.trans c))];exact h.2.2
  ·rw[dR (p:=λp:NK×Addr×V=>decide (p.1=k)) (λd=>c (br d)),dR (p:=λx:NK×Addr×Value=>decide (x.1=k)) (λd=>c (h.1.trans (br d)))];exact ih
section
variable{X:Cx}{pins:List (Addr×Obj)}{Z:St}{H:Hp}{s:Shared}{A:Around}{E:Value->Shared->Prop}{a b:Addr}{kvs:List (NK×Addr×V)}{k:NK}{v:V}
def Inv.Cd(I:Inv X pins Z H s)(h:iW X.K H k b):(iU X.prog X.w).is s.heap k b:=⟨Hs I k (.ref b) (.ref b) h.1 rfl,h.2⟩
def Inv.pW(I:Inv X pins Z H s)(h:fI X.prog X.w X.K H a kvs):(a==sysModules)=false/\∃xs,Paired (λ(p:NK×Addr×V)(q:NK×Addr×Value)=>p.1=q.1/\p.2.1=q.2.1/\RelV p.2.2 q.2.2) kvs xs/\kvs.length<=10000000/\s.heap.DictOfH (iU X.prog X.w) a xs:=by
 obtain⟨h1,h2⟩:=h;have keys:∀{l:List (NK×Addr×V)}{xs:List (NK×Addr×Value)},Paired (λ(p:NK×Addr×V)(q:NK×Addr×Value)=>p.1=q.1/\p.2.1=q.2.1/\RelV p.2.2 q.2.2) l xs->(∀p∈l,iW X.K H p.1 p.2.1)->∀x∈xs,(iU X.prog X.w).is s.heap x.1 x.2.1:=λr=>by
  induction r with
  |nil=>intro _ x hx;cases hx
  |@cons p q ps qs h _ ih=>
   intro hk x hx;rcases aI.mp hx with rfl|hx
   ·rw[<-h.1,<-h.2.1];exact I.Cd (hk p aA)
   ·exact ih (λp hp=>hk p (aD _ hp)) x hx
 rcases h1 with h1|⟨rfl,h1⟩
 ·obtain⟨⟨lo,xs,rel,hl,o,es,ep,g,hx,hd,he,nd⟩,_⟩:=(show dm X.prog X.w H s.heap a (.ext (DN X.prog X.w a kvs))from I.bw a _ h1);exact⟨lo,xs,rel,hl,o,es,ep,g,hx,hd,he,keys rel h2,nd⟩
 ·obtain⟨_,lo,vs,rel,o,es,ep,g,hx,hd,_,hp,_⟩:=tN I.bw h1;unfold KV at rel;cases rel;have e0:es.toList=[]:=by have:=hp.length;exact eK.mp this
  exact⟨lo,[],.nil,aO _,o,es,ep,g,hx,hd,by rw[e0];rfl,λx h=>(by cases h),kP⟩
def aap(hu:A.units+101<cLine)(I:Inv X pins Z H s)(h:fI X.prog X.w X.K H a kvs)(hk:iW X.K H k b)(hv:valN kvs k=some v)(q:∀w' s',Inv X pins Z H s'->RelV v w'->Q w' s'):wpAny (model X.prog X.w) A (getItem (.ref a) (.ref b)) Q E s:=by obtain⟨lo,xs,rel,hl,dd⟩:=I.pW h;obtain⟨w',hw,om⟩:=kL.some_of (v:=v) (o:=(atKey xs k).map (·.2)) (by rw[<-hv];exact wq rel k);obtain⟨p,hp,vv⟩:=bo.mp hw;refine y7 (knd:=iU X.prog X.w) (show A.units+1+100<cLine by lia) (I.Cd hk) dd hp ?_;rw[vv];exact q w' _ (I.tok _) om
def R4(hu:A.units+101<cLine)(I:Inv X pins Z H s)(h:fI X.prog X.w X.K H a kvs)(hk:iW X.K H k b)(q:∀s',Inv X pins Z H s'->Q (.bool (!(valN kvs k).isSome)) s'):wpAny (model X.prog X.w) A (compareOp .NotIn (.ref b) (.ref a)) Q E s:=by obtain⟨lo,xs,rel,hl,dd⟩:=I.pW h;refine wpAny_notIn_heap (knd:=iU X.prog X.w) (show A.units+1+100<cLine by lia) (I.Cd hk) lo dd ?_;have e:=(wq rel k).rL;rw[iY]at e;rw[<-e];exact q _ (I.tok _)
def BY(rel:Paired (λ(p:NK×Addr×V)(q:NK×Addr×Value)=>p.1=q.1/\p.2.1=q.2.1/\RelV p.2.2 q.2.2) kvs xs)(rv:RelV v r):Paired (λ(p:NK×Addr×V)(q:NK×Addr×Value)=>p.1=q.1/\p.2.1=q.2.1/\RelV p.2.2 q.2.2) (putN kvs k b v) (storedH xs k b r):=by
 have e:=(wq rel k).rL;rw[iY]at e;unfold putN storedH;rw[e];split
 next hs=>
  clear e hs
  induction rel with
  |nil=>exact .nil
  |@cons p q ps qs h _ ih=>
   refine .cons ?_ ih;unfold putAt;show(if p.1=k then(p.1,p.2.1,v)else p).1=(if q.1=k then(q.1,q.2.1,r)else q).1/\(if p.1=k then(p.1,p.2.1,v)else p).2.1=(if q.1=k then(q.1,q.2.1,r)else q).2.1/\RelV (if p.1=k then(p.1,p.2.1,v)else p).2.2 (if q.1=k then(q.1,q.2.1,r)else q).2.2;by_cases c:p.1=k
   ·rw[aB c,aB (h.1.symm.trans c)];exact⟨h.1,h.2.1,rv⟩
   ·rw[ax c,ax (λd=>c (h.1.trans d))];exact h
 next=>exact lM rel ⟨rfl,rfl,rv⟩
def uo:(putN kvs k b v).length<=kvs.length+1:=by
 unfold putN;split
 ·rw[ag];lia
 ·rw[aK];exact ak _
def aan(hu:A.units+101<cLine)(I:Inv X pins Z H s)(h:fI X.prog X.w X.K H a kvs)(hk:iW X.K H k b)(rR:kvs.length<10000000)(rv:RelV v r)
  (q:∀s',Inv X pins Z (upd H a (.ext (DN X.prog X.w a (putN kvs k b v)))) s'->Q () s'):wpAny (model X.prog X.w) A (setItem (.ref a) (.ref b) r) Q E s:=by
 obtain⟨lo,xs,rel,hl,dd⟩:=I.pW h;have lx:xs.length<=sizeLine:=by rw[<-rel.length,cv];lia
 refine y0 (knd:=iU X.prog X.w) (hsz:=lx) (show A.units+1+100<cLine by lia) (I.Cd hk) dd λh' qx hs=>q _ ?_;obtain⟨o,es,ep,g,h2,h3,h4,_,h5⟩:=qx;have lp:=uo (kvs:=kvs) (k:=k) (b:=b) (v:=v);refine qO I ?_ hs ⟨o,g⟩ (MA ⟨lo,_,BY rel rv,by lia,o,es,ep,g,h2,h3,h4,h5⟩);rcases h.1 with e|⟨_,e⟩<;>rw[e]<;>exact True.intro
end
inductive U5(P:Program)(w:World)(K:Frag)(Q:VK)(x:V)(y:V)(H2:Hp):Prop
 |mk a b kvs k v (_:x=.ref a) (_:y=.ref b) (_:fI P w K H2 a kvs) (_:iW K H2 k b) (_:valN kvs k=some v) (_:Q v H2)
def Xg(P:Program)(w:World)(K:Frag)(td ty:TE):TE:=λZ H Q=>td Z H λx H1=>ty Z H1 λy H2=>U5 P w K Q x y H2
inductive abO(P:Program)(w:World)(K:Frag)(neg:Bool)(x:V)(y:V)(H:Hp)(Q:VK):Prop
 |mk a b kvs k (_:x=.ref b) (_:y=.ref a) (_:fI P w K H a kvs) (_:iW K H k b) (_:Q (.bl (if neg then !(valN kvs k).isSome else(valN kvs k).isSome)) H)
inductive Ve(P:Program)(w:World)(K:Frag)(D:Ends)(Z:St)(v:V)(x:V)(y:V)(H3:Hp):Prop
 |mk a b kvs k (_:x=.ref a) (_:y=.ref b) (_:fI P w K H3 a kvs) (_:iW K H3 k b) (_:kvs.length<10000000) (_:D.nx Z (upd H3 a (.ext (DN P w a (putN kvs k b v)))))
def Xo(P:Program)(w:World)(K:Frag)(td ty tv:TE):TS:=λD Z H=>tv Z H λv H1=>td Z H1 λx H2=>ty Z H2 λy H3=>Ve P w K D Z v x y H3
section
variable{X:Cx}{o i value:Expr}{pos pos':Pos}{td ty tv:TE}
def aaD(I:Inv X pins Z H s)(h:fI X.prog X.w X.K H a kvs):s.TypeIs (.ref a) "dict":=by obtain⟨_,_,_,_,o,_,_,g,hx,_⟩:=I.pW h;exact⟨o,g,hx.1⟩
def QX(hu:X.A.units+101<cLine)(ho:PE X o td)(hi:PE X i ty)(hs:Ss i):PE X (.Subscript o i pos) (Xg X.prog X.w X.K td ty):=by intro pins s Z H Q I h;refine JX PySem.F.slot_dict_getitem.lookup hs (cV (ho pins s Z H _ I h) λu s1 x H1 I1 rx q1=>cV (hi pins s1 Z H1 _ I1 q1) λiv s2 y H2 I2 ry aci=>?_);obtain⟨a,b,kvs,k,v,ex,ey,g,hk,hv,q2⟩:=aci;subst ex ey;obtain rfl:u=Value.ref a:=rx;obtain rfl:iv=Value.ref b:=ry;exact⟨aaD I2 g,aap hu I2 g hk hv λw' s3 I3 om=>⟨v,H2,I3,om,q2⟩⟩
def NY(hu:X.A.units+101<cLine):jr X (compareOp .NotIn) (abO X.prog X.w X.K true):=by intro pins s Z H x y v u Q I rx ry h;obtain⟨a,b,kvs,k,rfl,rfl,g,hk,q⟩:=h;cases rx;cases ry;exact R4 hu I g hk λs' I'=>⟨.bl _,H,I',rfl,q⟩
def G2(hu:X.A.units+101<cLine)(ho:PE X o td)(hi:PE X i ty)(hv:PE X value tv)(hs:swapsWith value (some (.Subscript o i pos')) pos.line X.env=pure false):
  PS X (.Assign [.Subscript o i pos'] value pos) (Xo X.prog X.w X.K td ty tv):=by
 intro pins s Z H D I h;refine vH (cV (hv pins s Z H _ I h) λr s1 v H1 I1 rv q1=>cV (ho pins s1 Z H1 _ I1 q1) λu s2 x H2 I2 rx q2=>cV (hi pins s2 Z H2 _ I2 q2) λiv s3 y H3 I3 ry ach=>?_) hs;obtain⟨a,b,kvs,k,ex,ey,g,hk,hl,q⟩:=ach;subst ex ey;obtain rfl:u=Value.ref a:=rx;obtain rfl:iv=Value.ref b:=ry;exact aan hu I3 g hk hl rv λs4 I4=>⟨Z,_,I4,q⟩
def MP:iu X (.type "dict") (λxs H Q=>∃a kvs,xs=[.ref a]/\Rd H a (.dK kvs)/\∀p,H p=none->Q (.ref p) (upd H p (.dK kvs))):=by intro pins s Z H xs us Q I r h;obtain⟨a,kvs,rfl,ha,q⟩:=h;obtain⟨u,rfl,ru⟩:=kr r;cases ru;exact R9 I ha λp s' hp I'=>⟨.ref p,_,I',rfl,q p hp⟩
end
end L2
namespace L2
open PySem PySem.Spec PyProof.Rows
structure adq(X:Cx)(scope:Scope)(x:Str)(fs:List Str)(fr:List Nat):Prop where
 kind:scope.kind=.function
 loc:scope.names.lookup x=some .cell
 names:∀y∈scope.names,y.2=.local->scope.names.lookup y.1=some .local
 one:∃a b,scope.names=a++(x,.cell)::b/\(∀y∈a,y.2≠ .cell)/\∀y∈b,y.2≠ .cell
 free:∀n∈frees scope,X.env.kindOf n=some .cell/\scope.names.lookup n=some .free
 nd:(x::fs).Nodup
 len:fr.length=fs.length
 slots:∀(j:Nat)(y:Str)(k:Nat),fs[j]?=some y->fr[j]?=some k->X.N[k]?=some y/\y∈frees scope
end L2
namespace L2
open PySem PySem.Spec PyProof.Rows DU
section
variable{prog:Program}{w:World}{κ:Type}[DecidableEq κ]{kd:HeapKind prog w κ}{A:Around}{E:Value->Shared->Prop}{s:Shared}
def CV(hu:kd.room A)(nV:kd.is s.heap k a)(hm:s.heap.DictOfH kd d xs)
  (h1:∀p,atKey xs k=some p->Q p.2 {s with toks:=s.toks+kd.draws k})
  (h2:atKey xs k=none->∀h',h'.DictOfH kd d (storedH xs k a v)->Heap.SameBut d s.heap h'->Q v {s with heap:=h',toks:=s.toks+kd.draws k}) (hsz:xs.length<=sizeLine):
  wpAny (model prog w) A (dictSetDefault d (.ref a) v) Q E s:=by
 obtain⟨o,es,ep,ho,hc,hd,he,his,hn⟩:=hm;unfold dictSetDefault
 try with_reducible refine bR ?_
 have lz:=vj he;refine ae (kd.pyHash hu nV (ae (wpAny_dictFind_heap (s:={s with toks:=s.toks+kd.draws k}) hu nV ho hd he his hn (λIi=>?_) (λj p hj=>?_))))
 ·have nk:k∉xs.map (·.1):=not_mem_keys_of_get Ii;have e0:=atKey_none_of_get Ii;have e1:=storedH_new (a:=a) (v:=v) e0;refine ae (fg (ae (wpAny_updateDictKeys (hz:=by lia) (s:={s with toks:=s.toks+kd.draws k}) ho hd (ah (h2 e0 _ ⟨_,_,ep+1,b7 _ ho (Obj.isFreed_of_dict (yn hd _)),hc.mapDictKeys _,yn hd _,?_,?_,?_⟩ (bU ..))))))
  ·rw[e1,aQ,<-he];simp[entryOfKey]
  ·rw[e1];intro x hx;rcases bf.mp hx with q|q
   ·exact kd.keeps (his x q) ho hd (bU ..)
   ·rw[ay.mp q];exact kd.keeps nV ho hd (bU ..)
  ·rw[e1,aQ];refine eY.mpr ⟨hn,by simp,λx hx y hy e=>?_⟩;have Fm:y=k:=by simpa using hy
   exact nk (by rw[<-Fm,<-e];exact hx)
 ·refine ae (fQ (s:={s with toks:=s.toks+kd.draws k}) ho hd ?_);rw[PySem.entry_at he j,hj];exact ae (fg (ah (h1 p (atKey_of_get hn hj))))
def AX(kd:HeapKind prog w κ)(d a:Addr)(hd:(d==sysModules)=false)(z:Value):
  MeetsIn prog w (Builtin.«dict.setdefault» ⟨[.ref d,.ref a,z],[]⟩) (λA R s=>kd.room A.in1/\∃k xs,kd.is s.heap k a/\s.heap.DictOfH kd d xs/\xs.length<=sizeLine/\
   (∀p,atKey xs k=some p->R (.ok (.ret p.2)) {s with toks:=s.toks+kd.draws k})/\
   (atKey xs k=none->∀h',h'.DictOfH kd d (storedH xs k a z)->Heap.SameBut d s.heap h'->R (.ok (.ret z)) {s with heap:=h',toks:=s.toks+kd.draws k})):=
 .of_wp λA R s ⟨hu,k,xs,nV,hm,hz,h1,h2⟩=>by unfold Builtin.«dict.setdefault»;refine ae ?_;unfold Builtin.Dict.keyAndDefault;refine ae (iF hm.typeIs ?_);show wpAny _ _ (pure (d,Value.ref a,some z)) _ _ s;refine ah ?_;show wpAny _ _ (if(d==sysModules)=true then _ else(dictSetDefault d (.ref a) z>>=_)) _ _ s;rw[ax (by rw[hd];exact aT)];exact ae (CV hu nV hm (λp hp=>ah ⟨_,rfl,h1 p hp⟩) (λhn h' m' b'=>ah ⟨z,rfl,h2 hn h' m' b'⟩) hz)
def V1(hd:(d==sysModules)=false)(ho:s.heap.get? d=some o)(hx:o.ExactDict)(acZ:o.data=.dict es ep)(adD:(es.size:Int)<2^63)
  (h:∀t t',Q (.int es.size t) {s with toks:=t'}):wpAny (model prog w) A (call (.builtin "len") [.ref d]) Q E s:=by
 have ty:s.TypeIs (.ref d) "dict":=⟨o,ho,hx.1⟩;refine jm kind_len plain_len entry_len (args_len1 _) ?_;unfold Builtin.«len»;refine ae (m:=oneArg "len" _) (ah ?_);refine ae (m:=callSpecial? (.ref d) (Str.ofString "__len__")) (wpAny_callSpecial?_slot (name:=Str.ofString "__len__") ty F.slot_dict_len
  (bC F.slot_dict_len ty F.entry_dict_len ?_ (F.args_dict_len_1 _)))
 show wpAny _ _ (dictSize d>>=_) _ _ s;unfold dictSize;refine ae (ae (fQ ho acZ (ah ?_)));show wpAny _ _ (Builtin.Dict.pendingCount d>>=_) _ _ s;refine ae (wpAny_pendingCount_other hd ?_);refine ae (Bb (ah ⟨_,rfl,?_⟩));refine ae (bR (ah ?_));refine ae (lK ?_);rw[jA];show wpAny _ _ (if((es.size:Nat):Int)<0 then _ else _) _ _ _;rw[ax (by lia)];show wpAny _ _ (if((es.size:Nat):Int)≥2^63 then _ else _) _ _ _;rw[ax (by lia)];exact ae (Bb (ah ⟨_,rfl,h _ _⟩))
end
section
variable{X:Cx}{pins:List (Addr×Obj)}{Z:St}{H:Hp}{s:Shared}{A:Around}{E:Value->Shared->Prop}{a b:Addr}{kvs:List (NK×Addr×V)}{k:NK}{z:V}
def PU(hu:A.units+101<cLine)(I:Inv X pins Z H s)(h:fI X.prog X.w X.K H a kvs)(hk:iW X.K H k b)(rR:kvs.length<10000000)(rv:RelV z r)
  (q1:∀v w' s',valN kvs k=some v->Inv X pins Z H s'->RelV v w'->Q w' s')
  (q2:valN kvs k=none->∀s',Inv X pins Z (upd H a (.ext (DN X.prog X.w a (putN kvs k b z)))) s'->Q r s'):wpAny (model X.prog X.w) A (call (.builtin "dict.setdefault") [.ref a,.ref b,r]) Q E s:=by
 obtain⟨lo,xs,rel,hl,dd⟩:=I.pW h;have lx:xs.length<=sizeLine:=by rw[<-rel.length,cv];lia
 have e:=wq rel k;refine pZ qS dd.typeIs PySem.F.entry_dict_setdefault (PySem.F.args_dict_setdefault_3 _ _ _) (AX (iU X.prog X.w) a b lo r)
  ⟨show A.units+1+100<cLine by lia,k,xs,I.Cd hk,dd,lx,λp hp=>?_,λhn h' qx hs=>?_⟩
 ·rw[hp]at e;cases ev:valN kvs k with
  |none=>rw[ev]at e;exact e.elim
  |some v=>rw[ev]at e;exact q1 v _ _ ev (I.tok _) e
 ·rw[hn]at e;cases ev:valN kvs k with
  |some v=>rw[ev]at e;exact e.elim
  |none=>
   obtain⟨o,es,ep,g,x2,x3,x4,_,x5⟩:=qx;have lp:=uo (kvs:=kvs) (k:=k) (b:=b) (v:=z);refine q2 ev _ (qO I ?_ hs ⟨o,g⟩ (MA ⟨lo,_,BY rel rv,by lia,o,es,ep,g,x2,x3,x4,x5⟩));rcases h.1 with e|⟨_,e⟩<;>rw[e]<;>exact True.intro
def Ws(hu:A.units+101<cLine)(I:Inv X pins Z H s)(h:fI X.prog X.w X.K H a kvs)(hk:iW X.K H k b)(rv:RelV z r)(q:∀w' s',Inv X pins Z H s'->RelV ((valN kvs k).getD z) w'->Q w' s'):
  wpAny (model X.prog X.w) A (call (.builtin "dict.get") [.ref a,.ref b,r]) Q E s:=by
 obtain⟨lo,xs,rel,hl,dd⟩:=I.pW h;exact pZ iN dd.typeIs oG (nP _ _ _) (uZ (iU X.prog X.w) a b lo r)
  ⟨show A.units+1+100<cLine by lia,k,xs,I.Cd hk,dd,q _ _ (I.tok _) ((wq rel k).getD rv)⟩
def KC(I:Inv X pins Z H s)(h:fI X.prog X.w X.K H a kvs):s.TypeIs (.ref a) "dict"/\∀b,Value.ref a=.ref b->∃ob,s.heap.get? b=some ob/\ob.dict=none:=by obtain⟨lo,xs,rel,hl,dd⟩:=I.pW h;refine⟨dd.typeIs,λb q=>?_⟩;cases q;obtain⟨ob,_,_,h1,h2,_⟩:=dd;exact⟨ob,h1,h2.2.1⟩
def aao(I:Inv X pins Z H s)(h:fI X.prog X.w X.K H a kvs)(q:∀t s',Inv X pins Z H s'->Q (.int kvs.length t) s'):wpAny (model X.prog X.w) A (call (.builtin "len") [.ref a]) Q E s:=by
 obtain⟨lo,xs,rel,hl,o,es,ep,g,hx,hd,he,_⟩:=I.pW h;have l1:es.size=kvs.length:=by rw[vj he,rel.length]
 refine V1 lo g hx hd (by lia) λt t'=>?_;rw[l1];exact q t _ (I.tok _)
end
inductive Ng(P:Program)(w:World)(K:Frag)(ty:TE)(tz:TE)(Z:St)(Q:VK)(x:V)(H1:Hp):Prop
 |mk a HH (_:x=.ref a) (_:fI P w K H1 a HH) (_:ty Z H1 λy H2=>tz Z H2 λz H3=>∃b kvs k,y=.ref b/\fI P w K H3 a kvs/\iW K H3 k b/\kvs.length<10000000/\(∀v,valN kvs k=some v->Q v H3)/\(valN kvs k=none->Q z (upd H3 a (.ext (DN P w a (putN kvs k b z))))))
def QB(P:Program)(w:World)(K:Frag)(td ty tz:TE):TE:=λZ H Q=>td Z H λx H1=>Ng P w K ty tz Z Q x H1
inductive QE(P:Program)(w:World)(K:Frag)(ty:TE)(tz:TE)(Z:St)(Q:VK)(x:V)(H1:Hp):Prop
 |mk a HH (_:x=.ref a) (_:fI P w K H1 a HH) (_:ty Z H1 λy H2=>tz Z H2 λz H3=>∃b kvs k,y=.ref b/\fI P w K H3 a kvs/\iW K H3 k b/\Q ((valN kvs k).getD z) H3)
def JV(P:Program)(w:World)(K:Frag)(td ty tz:TE):TE:=λZ H Q=>td Z H λx H1=>QE P w K ty tz Z Q x H1
section
variable{X:Cx}{o e f:Expr}{apos dP:Pos}{td ty tz:TE}
def LG(hu:X.A.units+101<cLine)(ho:PE X o td)(he:PE X e ty)(hf:PE X f tz)(m:M2 X o "setdefault" apos e f dP):PE X (.Call (.Attribute o "setdefault" apos) [e,f] [] dP) (QB X.prog X.w X.K td ty tz):=by intro pins s Z H Q I h;refine sO m.base m.gz m.line hZ qS PySem.F.type_dict_setdefault (cV (ho pins s Z H _ I h) λu s1 x H1 I1 rx acg=>?_);obtain⟨a,HH,ex,d,q1⟩:=acg;subst ex;obtain rfl:u=Value.ref a:=rx;obtain⟨t1,t2⟩:=KC I1 d;refine⟨t1,t2,?_⟩;rw[m.trees];refine ir rfl (k9 (fG (cV (he pins s1 Z H1 _ I1 q1) λiv s2 y H2 I2 ry q2=>fG (cV (hf pins s2 Z H2 _ I2 q2) λfv s3 z H3 I3 rz ⟨b,kvs,k,ey,g,hk,hl,k1,k2⟩=>kG ?_))));subst ey;obtain rfl:iv=Value.ref b:=ry;exact PU hu I3 g hk hl rz (λv w' s4 ev I4 r4=>⟨v,H3,I4,r4,k1 v ev⟩) λev s4 I4=>⟨z,_,I4,rz,k2 ev⟩
def E5(hu:X.A.units+101<cLine)(ho:PE X o td)(he:PE X e ty)(hf:PE X f tz)(m:M2 X o "get" apos e f dP):PE X (.Call (.Attribute o "get" apos) [e,f] [] dP) (JV X.prog X.w X.K td ty tz):=by intro pins s Z H Q I h;refine sO m.base m.gz m.line hZ iN xb (cV (ho pins s Z H _ I h) λu s1 x H1 I1 rx acf=>?_);obtain⟨a,HH,ex,d,q1⟩:=acf;subst ex;obtain rfl:u=Value.ref a:=rx;obtain⟨t1,t2⟩:=KC I1 d;refine⟨t1,t2,?_⟩;rw[m.trees];refine ir rfl (k9 (fG (cV (he pins s1 Z H1 _ I1 q1) λiv s2 y H2 I2 ry q2=>fG (cV (hf pins s2 Z H2 _ I2 q2) λfv s3 z H3 I3 rz ⟨b,kvs,k,ey,g,hk,k1⟩=>kG ?_))));subst ey;obtain rfl:iv=Value.ref b:=ry;exact Ws hu I3 g hk rz λw' s4 I4 r4=>⟨_,H3,I4,r4,k1⟩
def Qa:iu X (.builtin "len") (λxs H Q=>∃a kvs,xs=[V.ref a]/\fI X.prog X.w X.K H a kvs/\Q (.int kvs.length) H):=by intro pins s Z H xs us Q I r h;obtain⟨a,kvs,rfl,ha,q⟩:=h;obtain⟨u,rfl,ru⟩:=kr r;cases ru;exact aao I ha λt s' I'=>⟨.int kvs.length,H,I',⟨t,rfl⟩,q⟩
inductive V7(P:Program)(w:World)(K:Frag)(R:It->Hp->Prop)(x:V)(H1:Hp):Prop
 |mk d u kvs (_:x=.ref d) (_:H1 d=some u) (_:fI P w K H1 d kvs) (_:∀o,R (I0 d o u (kvs.map λp=>(.ref p.2.1,p.2.2))) (upd H1 d (.cQ o u)))
def YI(P:Program)(w:World)(K:Frag)(tl:TE):TI:=λZ H R=>tl Z H λx H1=>V7 P w K R x H1
def QU(hl:PE X l tl):PI X tg l (YI X.prog X.w X.K tl):=by
 intro pins s Z H R I h;refine cV (hl pins s Z H _ I h) λv s1 x H1 I1 r1 q1=>?_;obtain⟨d,u,kvs,e,hd,hv,q⟩:=q1;subst e;cases r1;obtain⟨lo,xs,rel,_,o,es,ep,ga,hx,ZG,he,_⟩:=I1.pW hv;have ents:∀{l:List (NK×Addr×V)}{xs:List (NK×Addr×Value)},Paired (λ(p:NK×Addr×V)(q:NK×Addr×Value)=>p.1=q.1/\p.2.1=q.2.1/\RelV p.2.2 q.2.2) l xs->Paired (λ(p:V×V)(e:DictEntry)=>RelV p.1 e.key/\RelV p.2 e.val) (l.map λp=>(V.ref p.2.1,p.2.2)) (xs.map (entryOfKey (iU X.prog X.w))):=λr=>by
  induction r with
  |nil=>exact .nil
  |@cons p q ps qs h _ ih=>exact .cons ⟨by show Value.ref q.2.1=Value.ref p.2.1;rw[h.2.1],h.2.2⟩ ih
 have m:Jb o es ep (kvs.map λp=>(V.ref p.2.1,p.2.2)):=⟨hx,ZG,by rw[he];exact ents rel⟩;have I2:Inv X pins Z (upd H1 d (.cQ o u)) s1:=by
  rcases hv.1 with e|⟨_,e⟩
  ·rw[hd]at e;cases e;exact I1.Ew hd ga
  ·rw[hd]at e;cases e;exact I1.freeze hd ga
 refine Ee lo ga m.1 m.2.1 ?_;refine⟨s1.heap.objs.size,[s1.heap.objs.size],_,_,_,rfl,I2.kept (t':=s1.toks) λb o e=>af _ e,Nd m,⟨_,aG _ rfl,rfl,rfl⟩,λb hb=>?_,q o⟩;have e:b=s1.heap.objs.size:=by simpa using hb
 subst e;exact I2.pT (ak _) (I2.bw.fresh (ak _))
def oK(n:Nat)(k:NK):Prop:=(NK.toD k).canLay0=true/\(NK.toD k).depth<=n/\NK.deep k<=n
def good_str(h:PyData.strOk z=true):oK n (.key (.inr z)):=⟨by simp[NK.toD,PyData.canLay0,h],by simp[NK.toD,PyData.depth],by simp[NK.deep]⟩
theorem IC:∀{ks:List NK},(∀k∈ks,oK n k)->PyData.canLayAll0 (NK.lO ks)=true/\PyData.depthAll (NK.lO ks)<=n/\NK.nv ks<=n
 |[],_=>⟨by simp[NK.lO,PyData.canLayAll0],by simp[NK.lO,PyData.depthAll],by simp[NK.nv]⟩
 |k::ks,h=>by
  obtain⟨a1,a2,a3⟩:=h k aA;obtain⟨b1,b2,b3⟩:=IC λk hk=>h k (aD _ hk);refine⟨by simp[NK.lO,PyData.canLayAll0,a1,b1],?_,?_⟩
  ·simp only[NK.lO,PyData.depthAll];lia
  ·simp only[NK.nv];lia
def Cg(h:∀k∈ks,oK n k):oK (n+1) (.tup ks):=by obtain⟨b1,b2,b3⟩:=IC h;refine⟨by simp only[NK.toD,PyData.canLay0];exact b1,by simp only[NK.toD,PyData.depth];lia,by simp only[NK.deep];lia⟩
def oK.good(h:oK n k)(hn:n<=7):UL k:=⟨h.1,aE h.2.1 hn,aE h.2.2 hn⟩
def d5(zs:List Str):NK:=.tup (zs.map λz=>.key (.inr z))
def wA(h:d5 xs=d5 ys):xs=ys:=by unfold d5 at h;injection h with h;exact List.map_inj_right (f:=λz=>NK.key (.inr z)) (λa b e=>by injection e with e;injection e)|>.mp h
def Ci(h:∀z∈zs,PyData.strOk z=true):oK 1 (d5 zs):=Cg λk hk=>by obtain⟨z,hz,rfl⟩:=aM.mp hk;exact good_str (h z hz)
theorem Hq{K:Frag}:∀zs:List Str,oJ K H (zs.map λz=>NK.key (.inr z)) (zs.map V.str)
 |[]=>by rw[jF,oJ];rfl
 |z::r=>by rw[aX,oJ];exact⟨_,_,rfl,by rw[NV];rfl,Hq r⟩
def Hr{K:Frag}(h:bE K H a (zs.map V.str)):NV K H (d5 zs) (.ref a):=by unfold d5;rw[NV];exact⟨a,_,rfl,h,Hq zs⟩
def xP{K:Frag}(h:bE K H a (zs.map V.str))(hz:∀z∈zs,PyData.strOk z=true):iW K H (d5 zs) a:=⟨Hr h,(Ci hz).good (by decide)⟩
def Dc{K:Frag}(h:NV K H (d5 zs) (.ref a)):bE K H a (zs.map V.str):=by
 have all:∀{zs:List Str}{xs:List V},oJ K H (zs.map λz=>NK.key (.inr z)) xs->xs=zs.map V.str:=by
  intro zs
  induction zs with
  |nil=>intro xs h;rw[jF,oJ]at h;exact h
  |cons z r ih=>
   intro xs h;rw[aX,oJ]at h;obtain⟨x,t,rfl,h1,h2⟩:=h;rw[NV]at h1;rw[h1,ih h2];rfl
 unfold d5 at h;rw[NV]at h;obtain⟨b,xs,e,hq,h⟩:=h;cases e;rw[<-all h];exact hq
def kX(e:p.1=k):valN (p::r) k=some p.2.2:=by unfold valN;rw[dQ (p:=λp:NK×Addr×V=>decide (p.1=k)) (aU e)];rfl
def kY(e:¬p.1=k):valN (p::r) k=valN r k:=by unfold valN;rw[dR (p:=λp:NK×Addr×V=>decide (p.1=k)) (λq=>e (br q))]
theorem Gj:∀kvs:List (NK×Addr×V),valN (kvs.map λp=>if p.1=k then(p.1,p.2.1,v)else p) j=(valN kvs j).map λx=>if j=k then v else x
 |[]=>rfl
 |p::r=>by
  have ih:=Gj (k:=k) (j:=j) (v:=v) r;rw[aX];by_cases h:p.1=k
  ·rw[aB h];by_cases e:p.1=j
   ·rw[kX (p:=(p.1,p.2.1,v)) e,kX e,dM,aB (e.symm.trans h)]
   ·rw[kY (p:=(p.1,p.2.1,v)) e,kY e,ih]
  ·rw[ax h];by_cases e:p.1=j
   ·rw[kX e,kX e,dM,ax (λz=>h (e.trans z))]
   ·rw[kY e,kY e,ih]
theorem ES:∀kvs:List (NK×Addr×V),valN kvs k=none->valN (kvs++[(k,a,v)]) j=if j=k then some v else valN kvs j
 |[],_=>by
  by_cases e:k=j
  ·rw[aB e.symm];exact kX (p:=(k,a,v)) e
  ·rw[ax (λz=>e z.symm)];exact kY (p:=(k,a,v)) e
 |p::r,hn=>by
  rw[il];have hk:¬p.1=k:=λz=>by rw[kX z]at hn;cases hn
  rw[kY hk]at hn;have ih:=ES (j:=j) (a:=a) (v:=v) r hn;by_cases e:p.1=j
  ·rw[kX e,kX e,ax (λz=>hk (e.trans z))]
  ·rw[kY e,kY e,ih]
def o7:valN (putN kvs k a v) j=if j=k then some v else valN kvs j:=by
 unfold putN;split
 ·next hs=>
  rw[Gj];by_cases c:j=k
  ·obtain⟨x,hx⟩:=jz.mp hs;rw[aB c,c,hx,dM,aB rfl]
  ·rw[ax c];cases valN kvs j with
   |none=>rfl
   |some x=>rw[dM,ax c]
 ·next hs=>
  refine ES kvs ?_;cases e:valN kvs k with
  |none=>rfl
  |some x=>rw[e]at hs;exact absurd rfl hs
def Hz(h:p∈putN kvs k a v):(∃q∈kvs,p.1=q.1/\p.2.1=q.2.1)\/(p.1=k/\p.2.1=a):=by
 unfold putN at h;split at h
 ·obtain⟨q,hq,rfl⟩:=aM.mp h;refine .inl ⟨q,hq,?_⟩;split<;>exact⟨rfl,rfl⟩
 ·rcases bf.mp h with h|h
  ·exact .inl ⟨p,h,rfl,rfl⟩
  ·rw[ay.mp h];exact .inr ⟨rfl,rfl⟩
end
end L2
namespace L2
open PySem PySem.Spec PyProof.Rows PySem.W DU
section
variable{X:Cx}{pins:List (Addr×Obj)}{Z:St}{H:Hp}{s:Shared}
def Inv.IW(I:Inv X pins Z H s)(hn:H D=none)(new:dm X.prog X.w (upd H D o) s.heap D o)
  (h1:X.aab.heap.objs.size<=D) (hL:D≠X.env.locals) (h2:∀x c,X.env.cells.lookup x=some c->c≠D) (h3:∀p∈X.pn++pins,p.1≠D):Inv X pins Z (upd H D o) s:=by
 have nD:∀b u,H b=some u->b≠D:=λb u q z=>by rw[z,hn]at q;cases q
 have bw:jc X.prog X.w (upd H D o) s.heap:=λb u q=>by
  by_cases hb:b=D
  ·subst hb;rw[au]at q;cases q;exact new
  ·rw[aw hb]at q;exact(I.bw b u q).iS (λ_ _ _ z=>z) (λc z=>by rw[aw (nD c _ z)];exact z) λc xs z=>by rw[aw (nD c _ z)];exact z
 have J:=I.step (H':=upd H D o) (h':=s.heap) (g':=s.gens) (t':=s.toks) (d':=s.drawn) (ch:=[D])
  (λb hb=>by
   have e':b=D:=by simpa using hb
   subst e';exact⟨.inr h1,hL,h2,h3⟩)
  (λb o _ _ _ q _=>q) (λb o _ _ _ q _=>⟨o.slots,q⟩) (λb o hc _ n=>by rw[aw λz=>hc (by simp[z])];exact n) (λb o _ q=>⟨o,q⟩)
  (λb xs q=>by rw[aw (nD b _ q)];exact q) (λb o u q=>by rw[aw (nD b _ q)];exact q) (λb ps q=>⟨#[],by rw[aw (nD b _ q),q];simp⟩) (λm hm=>hm) bw I.bare
 exact J
def tw(r d:Addr):Heap->Prop:=λh=>h.IsItemsView r d
end
def Yy(x:tw r d h):dm P w H h r (.ext (tw r d)):=
 ⟨x,let⟨o,q,_⟩:=x;⟨o,q⟩,λ_ _ ⟨o,q,z⟩ k=>⟨o,k _ q,z⟩⟩
section
variable{X:Cx}
def qe(P:Program)(w:World)(K:Frag)(mg:Str->Option Value)(base:Heap)(C:Addr)(k:Nat)(m:Str)(ps:List Str)(sp:Sp):Prop:=
 ∃f fd,cY P w K mg base fH k f fd ps sp/\Meth K C m f/\Binds K fd ps []
def Kv(c:AB X.K C)(D:qe X.prog X.w X.K X.mg X.base C k m ps sp)(hr:gh j X.A)(ho:PE X o ta)(ha:PA X (e::es) t)(hk:k<=j:=by decide)
  (gF:starEach (e::es) X.env=(false,eval e X.env)::starEach es X.env:=by rfl) (pR:(backTo pos (starEach es X.env)).any (·.1)=false:=by rfl)
  (ht:eval (.Call (.Attribute o m apos) (e::es) [] pos) X.env=(do
   let ov<-eval o X.env
   standAt apos.atName
   let(f,first)<-holding [ov] (getMethod ov m pl)
   callWith pos f first (backTo pos (starEach (e::es) X.env)) (backToKw pos (keywordEach [] X.env))):=by rfl):
  PE X (.Call (.Attribute o m apos) (e::es) [] pos) (SQ C m sp [] E0 ta t):=by
 obtain⟨f,fd,F,me,b⟩:=D;exact Vy ho c me F (hr.mono hk) b .nil LI ha gF pR ht
def xS(hr:gh k A):A.units+101<cLine:=by have:=hr.un;lia
theorem fh{α:Type}[DecidableEq α]:∀{l m:List α},l.Nodup->(∀x∈l,x∈m)->l.length<=m.length
 |[],m,_,_=>aO _
 |x::l,m,h,s=>by obtain⟨h1,h2⟩:=du.mp h;have hx:x∈m:=s x aA;have:=fh (l:=l) (m:=m.erase x) h2 λy hy=>(List.mem_erase_of_ne (show y≠x fromλe=>h1 (by rw[<-e];exact hy))).mpr (s y (aD _ hy));rw[List.length_erase_of_mem hx]at this;have hp:0<m.length:=List.length_pos_of_mem hx;rw[bH];lia
end
end L2
namespace L2
open PySem PySem.Spec PyProof.Rows
end L2
namespace aV
section
variable{α:Type}[DecidableEq α]
abbrev Rw(α:Type):=List α
abbrev yU(α:Type):=α×List α
def gf(xs vs:List α)(t:α):α:=if t∈xs then vs.getD (xs.idxOf t) t else t
def image(xs vs ts:List α):List α:=ts.map (gf xs vs)
def sD(m:List (Rw α×Int))(r:Rw α)(c:Int):List (Rw α×Int):=if r∈m.map (·.1)then m.map (λx=>if x.1=r then(x.1,x.2+c)else x)else m++[(r,c)]
def narrowed(l:List (Rw α×Int))(xs ts:List α):List (Rw α×Int):=l.foldl (λm x=>sD m (image xs x.1 ts) x.2) []
def l9(r ts:List α):Bool:=decide (r.length=ts.length)&&(ts.zip r).all λx=>decide (r[ts.idxOf x.1]?=some x.2)
def atT(r ts:List α)(t:α):α:=r.getD (ts.idxOf t) t
def tails(rows:List (Rw α))(ts known fresh:List α)(key:Rw α):List (Rw α):=(rows.filter λr=>l9 r ts&&decide (known.map (atT r ts)=key)).map λr=>fresh.map (atT r ts)
def longer(maps:List (Rw α×Int))(rows:List (Rw α))(ts kept known fresh:List α):List (Rw α×Int):=maps.flatMap λx=>(tails rows ts known fresh (image kept x.1 known)).map λt=>(x.1++t,x.2)
def Qd{r v:Rw α}{c:Int}:v∈(sD m r c).map (·.1)↔v∈m.map (·.1)\/v=r:=by
 unfold sD;split
 ·next h=>
  have e:(m.map λx=>if x.1=r then(x.1,x.2+c)else x).map (·.1)=m.map (·.1):=by rw[cx];refine cH λx _=>?_;show(if x.1=r then(x.1,x.2+c)else x).1=x.1;split<;>rfl
  rw[e];exact⟨.inl,λz=>z.elim id λz=>z▸h⟩
 ·rw[aQ,bf,sd,ay]
def MR{r:Rw α}{c:Int}(h:(m.map (·.1)).Nodup):((sD m r c).map (·.1)).Nodup:=by
 unfold sD;split
 ·have e:(m.map λx=>if x.1=r then(x.1,x.2+c)else x).map (·.1)=m.map (·.1):=by rw[cx];refine cH λx _=>?_;show(if x.1=r then(x.1,x.2+c)else x).1=x.1;split<;>rfl
  rw[e];exact h
 ·next q=>
  rw[aQ,sd];exact eY.mpr ⟨h,fP _ _,λa ha b hb=>by rw[ay.mp hb];exactλz=>q (by rw[<-show a=r from z];exact ha)⟩
def yH{xs ts:List α}{v:Rw α}:v∈(narrowed l xs ts).map (·.1)↔∃x∈l,v=image xs x.1 ts:=by
 unfold narrowed
 suffices H:∀m:List (Rw α×Int),v∈(l.foldl (λm x=>sD m (image xs x.1 ts) x.2) m).map (·.1)↔v∈m.map (·.1)\/∃x∈l,v=image xs x.1 ts by
  rw[H []];exact⟨λh=>h.elim (λz=>by cases z) id,.inr⟩
 induction l with
 |nil=>intro m;exact⟨.inl,λh=>h.elim id λ⟨x,hx,_⟩=>by cases hx⟩
 |cons x l ih=>
  intro m;rw[j9,ih,Qd];constructor
  ·rintro((h|h)|⟨y,hy,h⟩)
   ·exact .inl h
   ·exact .inr ⟨x,aA,h⟩
   ·exact .inr ⟨y,aD _ hy,h⟩
  ·rintro(h|⟨y,hy,h⟩)
   ·exact .inl (.inl h)
   ·rcases aI.mp hy with rfl|hy
    ·exact .inl (.inr h)
    ·exact .inr ⟨y,hy,h⟩
def qI{xs ts:List α}:((narrowed l xs ts).map (·.1)).Nodup:=by
 unfold narrowed
 suffices H:∀m:List (Rw α×Int),(m.map (·.1)).Nodup->((l.foldl (λm x=>sD m (image xs x.1 ts) x.2) m).map (·.1)).Nodup from H [] .nil
 induction l with
 |nil=>intro m h;exact h
 |cons x l ih=>intro m h;exact ih _ (MR h)
def V5{g:α->α}{t:α}(h:t∈xs):gf xs (xs.map g) t=g t:=by unfold gf;have:=cI h;rw[aB h,cz,aJ,ar this,j8];rfl
def rM{g:α->α}(h:∀t∈ts,t∉xs->g t=t):image xs (xs.map g) ts=ts.map g:=by
 refine cH λt ht=>?_;by_cases c:t∈xs
 ·exact V5 c
 ·unfold gf;rw[ax c,h t ht c]
def OK{g:α->α}:l9 (ts.map g) ts=true:=by
 unfold l9;rw[ag,aU rfl,f7,dA];intro x hx;obtain⟨i,hi,e⟩:=dN.mp hx;rw[uV,uW]at e;have m:x.1∈ts:=by rw[<-e];exact jH _
 have:=cI m;refine aU ?_;rw[aJ,ar this,j8,dM,<-e]
def Le{g:α->α}{t:α}(h:t∈ts):atT (ts.map g) ts t=g t:=by unfold atT;have:=cI h;rw[cz,aJ,ar this,j8];rfl
def VU{r ts:List α}(h:l9 r ts=true):ts.map (atT r ts)=r:=by unfold l9 at h;rw[cM,dA]at h;have hl:=br h.1;refine List.ext_getElem (by rw[ag,hl]) λi h1 h2=>?_;rw[uW];have q:=br (h.2 (ts[i]'(by rw[<-hl];exact h2),r[i]) (dN.mpr ⟨i,by rw[mi];lia,by rw[uV]⟩));unfold atT;rw[cz,q];rfl
def sX(un:α->Bool)(db:α->List (Rw α))(S:List (yU α))(g:α->α):Prop:=(∀t,un t=false->g t=t)/\∀a∈S,a.2.map g∈db a.1
def Kp(un:α->Bool)(db:α->List (Rw α))(S:List (yU α))(kept:List α)(maps:List (Rw α×Int)):Prop:=∀v,v∈maps.map (·.1)↔∃g,sX un db S g/\v=kept.map g
def U2{un:α->Bool}{db:α->List (Rw α)}{S:List (yU α)}{maps:List (Rw α×Int)}{a:yU α}(h:Kp un db S kept maps)
  (hf:∀t,t∈fresh↔t∈a.2/\un t=true/\t∉kept) (hk:known=a.2.filter (λt=>decide (t∉fresh))) (hu:∀t∈kept,un t=true) (hs:∀b∈S,∀t∈b.2,t∈a.2->un t=true->t∈kept) (h':∀t∈TB,t∈kept++fresh):
  Kp un db (a::S) TB (narrowed (longer maps (db a.1) a.2 kept known fresh) (kept++fresh) TB):=by
 have kn:∀t,t∈known↔t∈a.2/\t∉fresh:=λt=>by rw[hk,bM,g6]
 have key:∀g:α->α,(∀t,un t=false->g t=t)->image kept (kept.map g) known=known.map g:=λg hg=>rM λt ht c=>by
  have⟨z1,z2⟩:=(kn t).mp ht;cases e:un t with
  |false=>exact hg t e
  |true=>exact absurd ((hf t).mpr ⟨z1,e,c⟩) z2
 intro v;rw[yH];constructor
 ·rintro⟨x,hx,rfl⟩;unfold longer at hx;obtain⟨y,hy,hx⟩:=jE.mp hx;obtain⟨tl,ht,rfl⟩:=aM.mp hx;unfold tails at ht;obtain⟨r,hr,rfl⟩:=aM.mp ht;obtain⟨hr,hc⟩:=bM.mp hr;rw[cM,g6]at hc;obtain⟨g,hg,eg⟩:=(h y.1).mp (aM.mpr ⟨y,hy,rfl⟩);rw[eg,key g hg.1]at hc
  let g2:α->α:=λt=>if t∈fresh then atT r a.2 t else g t
  have e1:kept.map g=kept.map g2:=cH λt ht=>by show g t=if t∈fresh then _ else g t;rw[ax λz=>((hf t).mp z).2.2 ht]
  have e2:fresh.map (atT r a.2)=fresh.map g2:=cH λt ht=>by show _=if t∈fresh then _ else g t;rw[aB ht]
  have e3:a.2.map g2=r:=by
   conv=>rhs;rw[<-VU hc.1]
   refine cH λt ht=>?_;show(if t∈fresh then atT r a.2 t else g t)=_;by_cases c:t∈fresh
   ·rw[aB c]
   ·rw[ax c];exact(List.map_inj_left.mp hc.2 t ((kn t).mpr ⟨ht,c⟩)).symm
  refine⟨g2,⟨λt ht=>?_,λb hb=>?_⟩,?_⟩
  ·show(if t∈fresh then atT r a.2 t else g t)=t;rw[ax λz=>by rw[((hf t).mp z).2.1]at ht;cases ht];exact hg.1 t ht
  ·rcases aI.mp hb with rfl|hb
   ·rw[e3];exact hr
   ·have:b.2.map g2=b.2.map g:=cH λt ht=>by show(if t∈fresh then _ else g t)=g t;rw[ax λz=>((hf t).mp z).2.2 (hs b hb t ht ((hf t).mp z).1 ((hf t).mp z).2.1)]
    rw[this];exact hg.2 b hb
  ·rw[eg,e1,e2,<-aQ];exact rM λt ht c=>absurd (h' t ht) c
 ·rintro⟨g,hg,rfl⟩;have hS:sX un db S g:=⟨hg.1,λb hb=>hg.2 b (aD _ hb)⟩;obtain⟨y,hy,ey⟩:=aM.mp ((h (kept.map g)).mpr ⟨g,hS,rfl⟩);refine⟨(y.1++fresh.map g,y.2),jE.mpr ⟨y,hy,aM.mpr ⟨fresh.map g,aM.mpr ⟨a.2.map g,bM.mpr ⟨hg.2 a aA,?_⟩,?_⟩,rfl⟩⟩,?_⟩
  ·rw[OK,f7,ey,key g hg.1];exact aU (cH λt ht=>Le ((kn t).mp ht).1)
  ·exact cH λt ht=>Le ((hf t).mp ht).1
  ·rw[ey,<-aQ];exact(rM λt ht c=>absurd (h' t ht) c).symm
end
end aV
namespace aV
section
variable{α:Type}[DecidableEq α]
def fits(un:α->Bool)(db:α->List (Rw α))(atoms:List (yU α))(known v:List α):Bool:=atoms.all λa=>!decide (a.2.filter (λt=>un t&&decide (t∉known))=[])||decide (image known v a.2∈db a.1)
def Cn{un:α->Bool}{atoms:List (yU α)}{known v:List α}:fits un db atoms known v=true↔∀a∈atoms,(∀t∈a.2,un t=true->t∈known)->image known v a.2∈db a.1:=by
 unfold fits;rw[dA];refine eP λa=>eP λ_=>?_;have e:(a.2.filter (λt=>un t&&decide (t∉known))=[])↔∀t∈a.2,un t=true->t∈known:=by rw[List.filter_eq_nil_iff];refine eP λt=>eP λ_=>?_;rw[cM,g6];exact⟨λh u=>tV λz=>h ⟨u,z⟩,λh z=>z.2 (h z.1)⟩
 rw[Bool.or_eq_true,Bool.not_eq_true',decide_eq_false_iff_not,g6,e];exact⟨λh q=>h.elim (λz=>absurd q z) id,λh=>Decidable.byCases (λq=>.inr (h q)) .inl⟩
def oR(un:α->Bool)(db:α->List (Rw α))(atoms:List (yU α))(us vals:List α):Nat->List (List α)
 |0=>[[]].filter (fits un db atoms (us.take 0))
 |p+1=>((oR un db atoms us vals p).flatMap λv=>vals.map λx=>v++[x]).filter (fits un db atoms (us.take (p+1)))
def OP{us v:List α}(h:t∈us.take p)(hv:v.length=p)(hp:p<=us.length)(x:α):gf (us.take (p+1)) (v++[x]) t=gf (us.take p) v t:=by
 have l:=cI h;have m:t∈us.take (p+1):=(sG us (eG p)) h;have e:(us.take (p+1)).idxOf t=(us.take p).idxOf t:=by
  conv=>lhs;rw[<-c8 p (us.take (p+1)),List.take_take,gW (eG p)]
  rw[List.idxOf_append,aB h]
 unfold gf;rw[aB h,aB m,e,cz,cz,dn];rw[aS]at l;lia
theorem B5(hu:∀t∈us,un t=true):∀(p:Nat)(v:List α),p<=us.length->(v∈oR un db atoms us vals p↔v.length=p/\(∀x∈v,x∈vals)/\∀a∈atoms,(∀t∈a.2,un t=true->t∈us.take p)->image (us.take p) v a.2∈db a.1)
 |0,v,_=>by show v∈[[]].filter _↔_;rw[bM,ay,Cn];exact⟨λ⟨h1,h2⟩=>⟨by rw[h1];rfl,(λx hx=>by rw[h1]at hx;cases hx),h2⟩,λ⟨h1,_,h2⟩=>⟨qo h1,h2⟩⟩
 |p+1,v,hp=>by
  show v∈(((oR un db atoms us vals p).flatMap λv=>vals.map λx=>v++[x]).filter _)↔_;rw[bM,Cn,jE];constructor
  ·rintro⟨⟨w,hw,hv⟩,h2⟩;obtain⟨x,hx,rfl⟩:=aM.mp hv;obtain⟨w1,w2,w3⟩:=(B5 hu p w (by lia)).mp hw;refine⟨by rw[aK,w1];rfl,λy hy=>?_,h2⟩;rcases bf.mp hy with hy|hy
   ·exact w2 y hy
   ·rw[ay.mp hy];exact hx
  ·rintro⟨h1,h2,h3⟩;have ne:v≠[]:=λz=>by rw[z]at h1;cases h1
   have ev:=qU ne;have lv:v.dropLast.length=p:=by rw[List.length_dropLast,h1];rfl
   refine⟨⟨v.dropLast,(B5 hu p _ (by lia)).mpr ⟨lv,λx hx=>h2 x (List.dropLast_subset v hx),λa ha q=>?_⟩,aM.mpr ⟨v.getLast ne,h2 _ (List.getLast_mem ne),ev⟩⟩,h3⟩;have:=h3 a ha λt ht u=>sG us (eG p) (q t ht u);rw[<-ev]at this;have e:image (us.take (p+1)) (v.dropLast++[v.getLast ne]) a.2=image (us.take p) v.dropLast a.2:=cH λt ht=>by
    cases c:un t with
    |true=>exact OP (q t ht c) lv (by lia) _
    |false=>
     have n1:∀n,t∉us.take n:=λn z=>by rw[hu t (jj z)]at c;cases c
     unfold gf;rw[ax (n1 _),ax (n1 _)]
   rw[e]at this;exact this
def Qq(hu:∀t,t∈us↔un t=true/\∃a∈atoms,t∈a.2)(nd:us.Nodup)(hv:∀a∈atoms,∀r∈db a.1,∀x∈r,x∈vals)(hh:∀t∈head,un t=true->t∈us)(row:Rw α):
  (∃v∈oR un db atoms us vals us.length,row=image us v head)↔∃g,sX un db atoms g/\row=head.map g:=by
 have m:=B5 (db:=db) (atoms:=atoms) (vals:=vals) (λt ht=>((hu t).mp ht).1) us.length;rw[a9]at m;constructor
 ·rintro⟨v,h,rfl⟩;obtain⟨h1,h2,h3⟩:=(m v (ak _)).mp h;refine⟨gf us v,⟨λt ht=>?_,λa ha=>h3 a ha λt ht u=>(hu t).mpr ⟨u,a,ha,ht⟩⟩,rfl⟩;unfold gf;rw[ax λz=>by rw[((hu t).mp z).1]at ht;cases ht]
 ·rintro⟨g,hg,rfl⟩;have im:∀ts:List α,(∀t∈ts,un t=true->t∈us)->image us (us.map g) ts=ts.map g:=λts h=>rM λt ht c=>by
   cases e:un t with
   |false=>exact hg.1 t e
   |true=>exact absurd (h t ht e) c
  refine⟨us.map g,(m _ (ak _)).mpr ⟨ag ..,λx hx=>?_,λa ha q=>by rw[im a.2 q];exact hg.2 a ha⟩,(im head hh).symm⟩;obtain⟨t,ht,rfl⟩:=aM.mp hx;obtain⟨_,a,ha,Dj⟩:=(hu t).mp ht;exact hv a ha _ (hg.2 a ha) _ (aM.mpr ⟨t,Dj,rfl⟩)
def sX.of{un:α->Bool}{S T:List (yU α)}{g:α->α}(h:sX un db S g)(e:∀a∈T,a∈S):sX un db T g:=⟨h.1,λa ha=>h.2 a (e a ha)⟩
def V2(h:Kp un db S kept maps)(hh:∀t∈head,un t=true->t∈kept)(row:Rw α):row∈(narrowed maps kept head).map (·.1)↔∃g,sX un db S g/\row=head.map g:=by
 have im:∀g,sX un db S g->image kept (kept.map g) head=head.map g:=λg hg=>rM λt ht c=>by
  cases e:un t with
  |false=>exact hg.1 t e
  |true=>exact absurd (hh t ht e) c
 rw[yH];constructor
 ·rintro⟨x,hx,rfl⟩;obtain⟨g,hg,e⟩:=(h x.1).mp (aM.mpr ⟨x,hx,rfl⟩);exact⟨g,hg,by rw[e,im g hg]⟩
 ·rintro⟨g,hg,rfl⟩;obtain⟨y,hy,ey⟩:=aM.mp ((h _).mpr ⟨g,hg,rfl⟩);exact⟨y,hy,by rw[ey,im g hg]⟩
end
end aV
namespace aV
section
variable{α:Type}[DecidableEq α]
def words(A:List α):Nat->List (List α)
 |0=>[[]]
 |k+1=>(words A k).flatMap λv=>A.map λx=>x::v
theorem Fe:∀{k:Nat}{v:List α},v.length=k->(∀x∈v,x∈A)->v∈words A k
 |0,v,h,_=>by rw[qo h];exact ay.mpr rfl
 |k+1,x::v,h,q=>jE.mpr ⟨v,Fe (Nat.succ.inj h) λy hy=>q y (aD _ hy),aM.mpr ⟨x,q x aA,rfl⟩⟩
theorem Fg{A:List α}:∀k,(words A k).length=A.length^k
 |0=>rfl
 |k+1=>by
  have e:∀l:List (List α),(l.flatMap λv=>A.map λx=>x::v).length=l.length*A.length:=λl=>by
   induction l with
   |nil=>simp
   |cons v l ih=>rw[kE,aK,ih,ag,bH,Nat.succ_mul,Nat.add_comm]
  show((words A k).flatMap _).length=_;rw[e,Fg k,iA]
def gz{A:List α}{l:List (List α)}(nd:l.Nodup)(h:∀v∈l,v.length=k/\∀x∈v,x∈A):l.length<=A.length^k:=by rw[<-Fg k];exact L2.fh nd λv hv=>Fe (h v hv).1 (h v hv).2
structure o6(un:α->Bool)(db:α->List (Rw α))(atoms:List (yU α))(head:List α)(S left:List (yU α))(kept:List α)(maps:List (Rw α×Int)):Prop where
 kp:Kp un db S kept maps
 at_:∀a,a∈atoms↔a∈S\/a∈left
 kt:∀t,t∈kept↔un t=true/\(∃b∈S,t∈b.2)/\(t∈head\/∃b∈left,t∈b.2)
 nd:kept.Nodup
 md:(maps.map (·.1)).Nodup
variable{un:α->Bool}{db:α->List (Rw α)}{atoms:List (yU α)}{head:List α}{S left:List (yU α)}{kept:List α}{maps:List (Rw α×Int)}
def o6.start:o6 un db atoms head [] atoms [] [([],1)]:=⟨λv=>⟨λh=>⟨id,⟨λ_ _=>rfl,λa ha=>by cases ha⟩,ay.mp h⟩,λ⟨_,_,e⟩=>ay.mpr e⟩,λa=>⟨.inr,λh=>h.elim (λz=>by cases z) id⟩,λt=>⟨λh=>(by cases h),λ⟨_,⟨b,hb,_⟩,_⟩=>(by cases hb)⟩,.nil,fP _ _⟩
def o6.len(h:o6 un db atoms head S left kept maps)(hx:x∈maps):x.1.length=kept.length:=by obtain⟨g,_,e⟩:=(h.kp x.1).mp (aM.mpr ⟨x,hx,rfl⟩);rw[e,ag]
theorem o6.vals{vals:List α}(h:o6 un db atoms head S left kept maps)(hv:∀a∈atoms,∀r∈db a.1,∀x∈r,x∈vals)(hx:x∈maps):∀y∈x.1,y∈vals:=λy hy=>by obtain⟨g,hg,e⟩:=(h.kp x.1).mp (aM.mpr ⟨x,hx,rfl⟩);rw[e]at hy;obtain⟨t,ht,rfl⟩:=aM.mp hy;obtain⟨_,⟨b,hb,Y0⟩,_⟩:=(h.kt t).mp ht;exact hv b ((h.at_ b).mpr (.inl hb)) _ (hg.2 b hb) _ (aM.mpr ⟨t,Y0,rfl⟩)
def o6.gz{vals:List α}(h:o6 un db atoms head S left kept maps)(hv:∀a∈atoms,∀r∈db a.1,∀x∈r,x∈vals):maps.length<=vals.length^kept.length:=by rw[<-ag (f:=(·.1))];refine aV.gz h.md λv YU=>?_;obtain⟨x,hx,rfl⟩:=aM.mp YU;exact⟨h.len hx,h.vals hv hx⟩
def o6.step(h:o6 un db atoms head S (l1++a::l2) kept maps)(hf:∀t,t∈fresh↔t∈a.2/\un t=true/\t∉kept)(fn:fresh.Nodup)(hk:known=a.2.filter (λt=>decide (t∉fresh)))
  (hn:∀t,need t=true↔t∈head\/∃b∈l1++l2,t∈b.2):
  o6 un db atoms head (a::S) (l1++l2) ((kept++fresh).filter need) (narrowed (longer maps (db a.1) a.2 kept known fresh) (kept++fresh) ((kept++fresh).filter need)):=by
 have mid:∀b,b∈l1++a::l2↔b=a\/b∈l1++l2:=λb=>by rw[bf,aI,bf];exact⟨λh=>h.elim (λz=>.inr (.inl z)) λh=>h.elim .inl λz=>.inr (.inr z),λh=>h.elim (λz=>.inr (.inl z)) λh=>h.elim .inl λz=>.inr (.inr z)⟩
 have hs:∀b∈S,∀t∈b.2,t∈a.2->un t=true->t∈kept:=λb hb t ht Dj u=>(h.kt t).mpr ⟨u,⟨b,hb,ht⟩,.inr ⟨a,(mid a).mpr (.inl rfl),Dj⟩⟩;refine⟨U2 h.kp hf hk (λt ht=>((h.kt t).mp ht).1) hs λt ht=>(bM.mp ht).1,λb=>?_,λt=>?_,?_,qI⟩
 ·rw[h.at_ b,mid b,aI];exact⟨λh=>h.elim (λz=>.inl (.inr z)) λh=>h.elim (λz=>.inl (.inl z)) .inr,λh=>h.elim (λh=>h.elim (λz=>.inr (.inl z)) .inl) λz=>.inr (.inr z)⟩
 ·rw[bM,bf,hn,hf,h.kt];constructor
  ·rintro⟨⟨u,⟨b,hb,ht⟩,_⟩|⟨ht,u,_⟩,q⟩
   ·exact⟨u,⟨b,aD _ hb,ht⟩,q⟩
   ·exact⟨u,⟨a,aA,ht⟩,q⟩
  ·rintro⟨u,⟨b,hb,ht⟩,q⟩;refine⟨?_,q⟩;have q':t∈head\/∃b∈l1++a::l2,t∈b.2:=q.imp id λ⟨b,hb,ht⟩=>⟨b,(mid b).mpr (.inr hb),ht⟩;rcases aI.mp hb with rfl|hb
   ·by_cases c:t∈kept
    ·exact .inl ((h.kt t).mp c)
    ·exact .inr ⟨ht,u,λz=>c ((h.kt t).mpr z)⟩
   ·exact .inl ⟨u,⟨b,hb,ht⟩,q'⟩
 ·refine List.Pairwise.sublist qA (eY.mpr ⟨h.nd,fn,λx hx y hy e=>?_⟩);subst e;exact((hf x).mp hy).2.2 hx
def o6.end_(h:o6 un db atoms head S [] kept maps)(hh:∀t∈head,un t=true->∃a∈atoms,t∈a.2)(row:Rw α):row∈(narrowed maps kept head).map (·.1)↔∃g,sX un db atoms g/\row=head.map g:=by
 have e:∀a,a∈atoms↔a∈S:=λa=>by rw[h.at_ a];exact⟨λz=>z.elim id (λz=>by cases z),.inl⟩
 rw[V2 h.kp λt ht u=>(h.kt t).mpr ⟨u,let⟨a,ha,q⟩:=hh t ht u;⟨a,(e a).mp ha,q⟩,.inl ht⟩];exact⟨λ⟨g,hg,q⟩=>⟨g,hg.of λa ha=>(e a).mp ha,q⟩,λ⟨g,hg,q⟩=>⟨g,hg.of λa ha=>(e a).mpr ha,q⟩⟩
end
end aV
namespace K06
open PySem PySem.Spec PyProof.Rows L2 DU
seal L2.PE L2.PT L2.PW L2.PA L2.PS L2.kU L2.PI L2.PO L2.DV L2.PG L2.DW
def top(i:Nat):Stmt:=PySem.Challenge.pw_askviews_k06_answers.main.body.getD i (.Pass ⟨0,0,0,0⟩)
abbrev xB:Stmt:=top 3
abbrev uh:Stmt:=top 4
abbrev sj:Stmt:=top 6
abbrev zk:Stmt:=top 8
abbrev zm:Stmt:=top 10
abbrev vO:Stmt:=top 11
abbrev qE:Stmt:=top 12
abbrev xv:Stmt:=top 14
abbrev vN:Stmt:=top 15
abbrev Ed:Stmt:=top 16
abbrev xC:Stmt:=top 17
abbrev qD:Stmt:=top 18
abbrev BU:Stmt:=top 20
abbrev BV:Stmt:=top 21
abbrev BR:Stmt:=top 22
abbrev zl:Stmt:=top 23
abbrev xw:Stmt:=top 24
abbrev xA:Stmt:=top 25
abbrev ug:Stmt:=top 26
abbrev xx:Stmt:=top 27
abbrev BQ:Stmt:=top 28
abbrev xy:Stmt:=top 29
abbrev BS:Stmt:=top 30
abbrev Ec:Stmt:=top 31
abbrev BW:Stmt:=top 32
abbrev Lz:Stmt:=top 33
abbrev uf:Stmt:=inClass (top 13) 0
abbrev qF:Stmt:=inClass (top 13) 1
abbrev BP:Stmt:=inClass (top 13) 2
abbrev mD:Stmt:=inClass (top 13) 3
abbrev nU:Stmt:=inClass (top 13) 4
def uP(K:Frag)(H:Hp)(a:Addr)(xs:List V):Prop:=
 (∃o,H a=some (.cQ o (.lst xs)))\/∃(o:Obj)(aY:Array Value)(n:Nat),K.lookup a=some o/\o.cls=.type "list"/\o.dict=none/\o.data=.seq aY n/\aY.size<=sizeLine/\Vals xs aY.toList
def uP.sq{K:Frag}(h:uP K H a xs):bp K H a xs:=by
 rcases h with⟨o,h⟩|h
 ·exact .inl (.inr ⟨o,h⟩)
 ·exact .inr h
def uP.but{K:Frag}(h:uP K H a xs)(hf:H f=some (.lst ys)):uP K (upd H f o) a xs:=by
 rcases h with⟨ob,h⟩|h
 ·exact .inl ⟨ob,by rw[aw (vk h hf λz=>by cases z)];exact h⟩
 ·exact .inr h
def uP.new{K:Frag}(h:uP K H a xs)(hp:H p=none):uP K (upd H p o) a xs:=by
 rcases h with⟨ob,h⟩|h
 ·exact .inl ⟨ob,by rw[aw (aW h hp)];exact h⟩
 ·exact .inr h
def dY(K:Frag)(f:Addr)(H:Hp):Prop:=
 ∃(a:Addr)(ns:List Int)(p q r:Int),H f=some (.lst [.ref a,.int p,.int q,.int r])/\0<=p/\0<=q/\0<=r/\uP K H a (ns.map V.int)/\ns.length<=63
def Ext(f:Addr)(H H':Hp):Prop:=∀b o,b≠f->H b=some o->H' b=some o
def Ext.refl(f:Addr)(H:Hp):Ext f H H:=λ_ _ _ h=>h
def Ext.trans(a:Ext f H H1)(b:Ext f H1 H2):Ext f H H2:=λc o n h=>b c o n (a c o n h)
def Ext.new(a:Ext f H H1)(h:H1 p=none)(o:HO):Ext f H (upd H1 p o):=λb u n q=>by rw[aw (aW (a b u n q) h)];exact a b u n q
def Ext.own(a:Ext f H H1)(h:H p=none)(o:HO):Ext f H (upd H1 p o):=λb u n q=>by rw[aw (aW q h)];exact a b u n q
def Ext.feed(a:Ext f H H1)(o:HO):Ext f H (upd H1 f o):=λb u n q=>by rw[aw n];exact a b u n q
def Ext.none(a:Ext f H H1)(n:p≠f)(h:H1 p=Option.none):H p=Option.none:=by
 cases q:H p with
 |none=>rfl
 |some o=>
  rw[a p o n q]at h;cases h
def dY.new{K:Frag}(h:dY K f H)(hp:H p=none)(o:HO):dY K f (upd H p o):=by obtain⟨a,ns,x,y,z,hf,h1,h2,h3,hS,hn⟩:=h;exact⟨a,ns,x,y,z,by rw[aw (aW hf hp)];exact hf,h1,h2,h3,hS.new hp,hn⟩
def dY.lst{K:Frag}(h:dY K f H)(hp:H p=some (.lst xs))(n:p≠f)(o:HO):dY K f (upd H p o):=by obtain⟨a,ns,x,y,z,hf,h1,h2,h3,hS,hn⟩:=h;exact⟨a,ns,x,y,z,by rw[aw n.symm];exact hf,h1,h2,h3,hS.but hp,hn⟩
def dY.rH{K:Frag}(h:dY K f H)(hp:H p=none):p≠f:=by obtain⟨a,ns,x,y,z,hf,_⟩:=h;exact(aW hf hp).symm
inductive Np(K:Frag)(vs:List V)(H:Hp)(Q:VK)(_x3:XK):Prop
 |mk (a:Addr) (ns:List Int) (_:vs=[.ref a]) (_:uP K H a (ns.map V.int)) (_:ns.length<=63) (_:∀(r:Addr)(H':Hp),dY K r H'->bG H H'->H r=none->Q (.ref r) H')
inductive GA(K:Frag)(vs:List V)(H:Hp)(Q:VK)(_x3:XK):Prop
 |mk (f:Addr) (many:Int) (_:vs=[.ref f,.int many]) (_:dY K f H) (_:0<many) (_:many<1073741824) (_:∀(i:Int)(H':Hp),0<=i->i<many->dY K f H'->Ext f H H'->Q (.int i) H')
inductive Nm(K:Frag)(vs:List V)(H:Hp)(Q:VK)(_x3:XK):Prop
 |mk (f pl:Addr) (many:Int) (xs:List V) (_:vs=[.ref f,.ref pl,.int many]) (_:dY K f H) (_:pl≠f) (_:H pl=some (.lst xs)) (_:0<xs.length) (_:xs.length<=100) (_:0<=many) (_:many<=100) (_:∀(r:Addr)(ys:List V)(H':Hp),dY K f H'->Ext f H H'->r≠f->H' r=some (.lst ys)->(ys.length:Int)=many->(∀y∈ys,y∈xs)->Q (.ref r) H')
inductive CP(K:Frag)(texts:List Str)(most:Nat)(vs:List V)(H:Hp)(Q:VK)(_x3:XK):Prop
 |mk (f:Addr) (_:vs=[.ref f]) (_:dY K f H) (_:∀(r:Addr)(ys:List V)(H':Hp),dY K f H'->Ext f H H'->r≠f->H' r=some (.lst ys)->1<=ys.length->ys.length<=most->(∀y∈ys,y∈texts.map V.str)->Q (.ref r) H')
noncomputable def rJ:List Str:=["r","s","rs","r1","a","tttttttt"]
noncomputable def cU:List Str:=["a","ab","12","b","a1","zzzzzzzz","r","1"]
noncomputable def iy:List Str:=["?x","?y","?a","?ab","?12","?zzzzzzzz"]
inductive BN(K:Frag)(vs:List V)(H:Hp)(Q:VK)(_x3:XK):Prop
 |mk (f:Addr) (n:Str) (_:vs=[.ref f,.str n]) (_:dY K f H) (_:∀(i:Int)(H':Hp),1<=i->i<=4->dY K f H'->Ext f H H'->Q (.int i) H')
section
variable{P:Program}{w:World}{K:Frag}{mg:Str->Option Value}{base:Heap}
structure Txt(K:Frag)(mg:Str->Option Value):Prop where
 jg:mg "len"=none
 aaZ:mg "abs"=none
 nj:mg "range"=none
 jP:mg "tuple"=none
 zF:mg "list"=none
 pJ:mg "isinstance"=none
 Tq:mg "all"=none
 Tp:mg "str"=none
 aaX:mg "sum"=none
 Dd:mg "dict"=none
 B4:mg "sorted"=none
 aaY:mg "set"=none
 Bj:mg "enumerate"=none
 F6:mg "zip"=none
 Wa:∃t,mg "SIGNS"=some (.str "abcdefghijklmnopqrstuvwxyz0123456789" t)
 ID:∃t,mg "MOST_SIGNS"=some (.int 8 t)
def u96(r:gh k A):A.units+96<cLine:=by have:=r.un;lia
def Nz:cu ["_law_script"] ["_law_script"] (defScope BU):=jx (by decide+kernel)
def VM(F:eZ K "_law_feed" "_law_feed" BU f fd):cY P w K mg base fH 1 f fd ["_law_script"] (Np K):=by
 refine F.ok Nz (λvs H Q E h=>?_) (λc6 A outer s H vs Q E hr h=>?_)
 ·obtain⟨a,ns,rfl,_⟩:=h;rfl
 obtain⟨a,ns,rfl,hS,hn,k⟩:=h;refine⟨_,(bj (cJ (eO (ao (pv 0) (ao bq (ao bq (ao bq az))))))),?_⟩;refine⟨_,rfl,(by show 4<=sizeLine;decide),λp hp=>?_⟩;have sm:bG H (upd H p (.lst [.ref a,.int 0,.int 0,.int 0])):=λb u q=>by rw[aw (aW q hp)];exact q
 exact k p _ ⟨a,ns,0,0,0,au,BJ _,BJ _,BJ _,hS.new hp,hn⟩ sm hp
def mB:cu ["_law_feed_here","_law_many","_law_script","_law_figure","_law_cell","_law_mixed"] ["_law_feed_here","_law_many"] (defScope BV):=jx (by decide+kernel)
def VN(F:eZ K "_law_draw" "_law_draw" BV f fd)(T:Txt K mg):cY P w K mg base fH 1 f fd ["_law_feed_here","_law_many"] (GA K):=by
 refine F.ok mB (λvs H Q E h=>?_) (λc6 A outer s H vs Q E hr h=>?_)
 ·obtain⟨a,ns,rfl,_⟩:=h;rfl
 obtain⟨fe,many,rfl,⟨a,ns,p,q,r,hf,hp,hq,rP,hS,hn⟩,hm,Pc,k⟩:=h;have nl:(ns.map V.int).length=ns.length:=ag _;have lo:∀(x m:Int),0<m->m<2^32->-(2^64)<x % m/\x % m<2^64:=λx m h1 h2=>by have h3:=ml x (show m≠0 by lia);have h4:=kh x h1;lia
 refine cut 3 (λZ H'=>∃p' q' r',Z=[some (.ref fe),some (.int many),some (.ref a),none,none,none]/\H' fe=some (.lst [.ref a,.int p',.int q',.int r'])/\0<=p'/\0<=q'/\0<=r'/\uP K H' a (ns.map V.int)/\Ext fe H H')
  (adi 3 (λZ H'=>∃p' q' r' c,Z=[some (.ref fe),some (.int many),some (.ref a),none,some (.int c),none]/\H' fe=some (.lst [.ref a,.int p',.int q',.int r'])/\0<=p'/\0<=q'/\0<=r'/\uP K H' a (ns.map V.int)/\Ext fe H H')
   ⟨_,(aP (fM 5 mB (d7 rG (d7 jW (d7 jW (d7 C5 (d7 rG (pv 4) bq) bq) (d7 C5 (dF eX (pv 0) bq (λ_ _=>rfl)) bq)) bq) bq))
   (aP (fM 5 mB (d7 rG (d7 C5 (pv 5) (d7 jW (pv 5) bq)) bq))
   (bj (cJ (d7 rG (d7 rG (d7 C5 (pv 5) bq) bq) (pv 1)))))),?_⟩ (λt2 ht=>⟨_,(aP (iq (dj F5 (dF eX (pv 0) bq (λ_ _=>rfl)) bq (fN _)) (aP (fM 3 mB (d7 rG (dF eX (pv 0) bq (λ_ _=>rfl)) (pv 1)))
   (aP (ur (d7 VF (dF eX (pv 0) bq (λ_ _=>rfl)) (pv 1)) (C3 (pv 0) bq set_list))
   (bj (cJ (pv 3))))) eU)
   (aP (fM 4 mB bq)
   (aP (iq (dj F5 (cE fS rfl T.jg cq (ao (pv 2) az)) bq (fN _)) (bj (fM 4 mB (dF eX (pv 2) (d7 rG (dF eX (pv 0) bq (λ_ _=>rfl)) (cE fS rfl T.jg cq (ao (pv 2) az))) (λ_ _=>rfl)))) eU) ht))),λtl=>?_⟩)) (λt2 ht=>⟨_,(aP (fM 2 mB (dF eX (pv 0) bq (λ_ _=>rfl)))
   (aP (ur (d7 jW (dF eX (pv 0) bq (λ_ _=>rfl)) bq) (C3 (pv 0) bq set_list))
   (aP (iq (PW.pt (CZ (dj xG (dF eX (pv 0) bq (λ_ _=>rfl)) bq (fN _)) (AH (dj LK (dF eX (pv 0) bq (λ_ _=>rfl)) (cE fS rfl T.jg cq (ao (pv 2) az)) (fN _))))) (aP (ur (d7 Q0 (cE Sm rfl T.aaZ (by decide+kernel) (ao (dF eX (pv 2) (dF eX (pv 0) bq (λ_ _=>rfl)) (λ_ _=>rfl)) az)) (d7 XN bq bq)) (C3 (pv 0) bq set_list))
   (bj (ur (d7 jW (dF eX (pv 0) bq (λ_ _=>rfl)) bq) (C3 (pv 0) bq set_list)))) eU) ht))),λtl=>?_⟩)
 ·--the mix
  rintro Z H' ⟨p',q',r',c,rfl,wU,Ih,zS,ox,oC,ex⟩;refine⟨_,rfl,_,_,rfl,rfl,(by show(0:Int)<2147483647;decide),_,_,rfl,rfl,.inl (lo _ _ (by decide) (by decide)),_,rfl,fe,_,_,_,rfl,rfl,bp.of wU,rfl,_,_,rfl,rfl,.inr ⟨by decide,by decide⟩,_,_,rfl,rfl,_,_,rfl,rfl,_,_,rfl,rfl,(by show(0:Int)<2147483629;decide),?_⟩;refine⟨_,rfl,_,rfl,_,_,rfl,rfl,_,_,rfl,rfl,.inl (lo _ _ (by decide) (by decide)),_,_,rfl,rfl,(by show(0:Int)<2147483587;decide),?_⟩;refine⟨_,rfl,_,_,rfl,rfl,.inl (lo _ _ (by decide) (by decide)),_,_,rfl,rfl,(by show(0:Int)<2147483563;decide),_,rfl,_,_,rfl,rfl,hm,?_⟩;exact k _ H' (ml _ (by lia)) (kh _ hm) ⟨a,ns,p',q',r',wU,Ih,zS,ox,oC,hn⟩ ex
 ·--the rest of a cell,or the cell
  rintro Z H' ⟨p',q',r',rfl,wU,Ih,zS,ox,oC,ex⟩;refine⟨_,rfl,fe,_,_,_,rfl,rfl,bp.of wU,rfl,_,_,rfl,rfl,_,rfl,?_⟩;refine fm (λc=>?_) (λc=>?_)
  ·refine⟨_,rfl,fe,_,_,_,rfl,rfl,bp.of wU,rfl,_,rfl,_,_,rfl,rfl,hm,?_⟩;refine⟨_,rfl,fe,_,_,_,rfl,rfl,bp.of wU,rfl,_,rfl,_,_,rfl,rfl,⟨hm,Pc⟩,_,rfl,fe,_,_,_,rfl,rfl,wU,rfl,?_⟩;refine⟨_,rfl,?_⟩;exact k _ _ (ml _ (by lia)) (kh _ hm) ⟨a,ns,p',q'/many,r',au,Ih,Int.ediv_nonneg zS (Int.le_of_lt hm),ox,oC.but wU,hn⟩ (ex.feed _)
  ·--cell=0;if len(ads)>0
   refine⟨_,rfl,_,_,rfl,.inl ⟨_,oC.sq,rfl⟩,_,_,rfl,rfl,_,rfl,?_⟩;refine fm (λc2=>?_) (λc2=>?_)
   ·have c3:(0:Int)<((ns.map V.int).length:Int):=br c2;have c4:=ml r' (show((ns.map V.int).length:Int)≠0 by lia);have c5:=kh r' c3;obtain⟨v,hv⟩:∃v,ns[(r' %((ns.map V.int).length:Int)).toNat]?=some v:=⟨_,ar (by rw[<-nl];lia)⟩;have ev:rT (ns.map V.int) (r' %((ns.map V.int).length:Int))=some (.int v):=by
     have e0:r' %((ns.map V.int).length:Int)=(((r' %((ns.map V.int).length:Int)).toNat:Nat):Int):=by lia
     rw[e0];exact iM (by rw[aJ,hv];rfl)
    refine⟨_,rfl,_,rfl,fe,_,_,_,rfl,rfl,bp.of wU,rfl,_,rfl,_,_,rfl,.inl ⟨_,oC.sq,rfl⟩,_,_,rfl,rfl,c3,_,_,_,_,rfl,rfl,oC.sq,ev,?_⟩;exact tl _ _ ⟨p',q',r',v,rfl,wU,Ih,zS,ox,oC,ex⟩
   ·exact tl _ _ ⟨p',q',r',0,rfl,wU,Ih,zS,ox,oC,ex⟩
 ·--feed[0];feed[3]+1
  refine⟨_,rfl,fe,_,_,_,rfl,rfl,bp.of hf,rfl,?_⟩;refine⟨_,rfl,fe,_,_,_,rfl,rfl,bp.of hf,rfl,_,_,rfl,rfl,_,rfl,fe,_,_,_,rfl,rfl,hf,rfl,?_⟩;have wR:upd H fe (.lst [.ref a,.int p,.int q,.int (r+1)]) fe=some (.lst [.ref a,.int p,.int q,.int (r+1)]):=au;have Pu:uP K (upd H fe (.lst [.ref a,.int p,.int q,.int (r+1)])) a (ns.map V.int):=hS.but hf;have ph:Ext fe H (upd H fe (.lst [.ref a,.int p,.int q,.int (r+1)])):=(Ext.refl fe H).feed _;refine⟨_,rfl,fe,_,_,_,rfl,rfl,bp.of wR,rfl,rfl,_,rfl,?_⟩;refine fm (λc=>?_) (λc=>?_)
  ·refine⟨_,rfl,fe,_,_,_,rfl,rfl,bp.of wR,rfl,_,rfl,_,_,rfl,.inl ⟨_,Pu.sq,rfl⟩,_,_,rfl,rfl,_,rfl,?_⟩;refine fm (λc2=>?_) (λc2=>?_)
   ·have c3:p<((ns.map V.int).length:Int):=br c2;obtain⟨v,hv⟩:∃v,ns[p.toNat]?=some v:=⟨_,ar (by rw[<-nl];lia)⟩;have ev:rT (ns.map V.int) p=some (.int v):=by
     have e0:p=((p.toNat:Nat):Int):=by lia
     rw[e0];exact iM (by rw[aJ,hv];rfl)
    refine⟨_,rfl,_,rfl,fe,_,_,_,rfl,rfl,bp.of wR,rfl,_,_,_,_,rfl,rfl,Pu.sq,ev,_,rfl,_,_,rfl,rfl,⟨by decide,by decide,by decide⟩,_,_,rfl,rfl,⟨by decide,by decide+kernel⟩,_,rfl,fe,_,_,_,rfl,rfl,wR,rfl,?_⟩;refine⟨_,rfl,fe,_,_,_,rfl,rfl,bp.of au,rfl,_,_,rfl,rfl,_,rfl,fe,_,_,_,rfl,rfl,au,rfl,?_⟩;refine tl _ _ ⟨p+1,_,r+1,rfl,au,by lia,Int.ediv_nonneg ?_ (by decide),by lia,?_,(ph.feed _).feed _⟩
    ·split<;>lia
    ·exact(Pu.but wR).but au
   ·exact tl _ _ ⟨p,q,r+1,rfl,wR,hp,hq,by lia,Pu,ph⟩
  ·exact tl _ _ ⟨p,q,r+1,rfl,wR,hp,hq,by lia,Pu,ph⟩
def E1:cu ["_law_feed_here","_law_pool_here","_law_many","_law_start"] ["_law_feed_here","_law_pool_here","_law_many"] (defScope BR):=jx (by decide+kernel)
structure Dr(P:Program)(w:World)(K:Frag)(mg:Str->Option Value)(base:Heap):Prop where
 gO:dW P w K mg base 1 "_law_draw" ["_law_feed_here","_law_many"] (GA K)
structure Dr2(P:Program)(w:World)(K:Frag)(mg:Str->Option Value)(base:Heap):Prop extends Dr P w K mg base where
 HG:dW P w K mg base 2 "_law_pool" ["_law_feed_here","_law_pool_here","_law_many"] (Nm K)
def VJ(F:eZ K "_law_pool" "_law_pool" BR f fd)(T:Txt K mg)(D:Dr P w K mg base):cY P w K mg base fH 2 f fd ["_law_feed_here","_law_pool_here","_law_many"] (Nm K):=by
 refine F.ok E1 (λvs H Q E h=>?_) (λc6 A outer s H vs Q E hr h=>?_)
 ·obtain⟨a,b,c,d,rfl,_⟩:=h;rfl
 obtain⟨fe,pl,many,xs,rfl,hF,npl,pR,oq,HR,hm1,Pc,k⟩:=h;refine⟨_,(aP (uq (i:=3) E1.nd rfl (Or.inr rfl) (cl D.gO hr (ao (pv 0) (ao (cE fS rfl T.jg cq (ao (pv 1) az)) az))))
   (bj (cJ (js rfl (dB (fs:=["_law_pool_here","_law_start"]) (fr:=[1,3])) (jV rfl T.nj (ao (pv 2) az)) (λ_ _ _ _=>(dF (HK (K:=K)) (pv 1) (d7 rG (d7 jW (pv 2) (pv 0)) (cE (Ac (K:=K)) rfl T.jg cq (ao (pv 1) az))) (λ_ _=>rfl))))))),?_⟩
 refine⟨_,rfl,_,rfl,_,_,rfl,.inl ⟨_,bp.of pR,rfl⟩,fe,_,rfl,hF,by lia,by lia,λi H1 i0 i1 uI ph=>?_⟩;have Y4:=ph _ _ npl pR;refine⟨_,rfl,many,rfl,by lia,by lia,λj m ys H2=>H2=H1/\j<=many.toNat/\m=many.toNat -j/\ys.length=j/\∀y∈ys,y∈xs,⟨_,rfl,aO _,rfl,rfl,λy hy=>by cases hy⟩,?_⟩;rintro j m ys H2 ⟨rfl,hj,rfl,hl,hy⟩;by_cases bQ:j<many.toNat
 ·refine .inr ⟨bQ,by rw[hl];exact bK (by lia),?_⟩;rintro v H3 ⟨rfl,rfl⟩;have q0:(0:Int)<(xs.length:Int):=by lia
  have q1:=ml (i+(0+(j:Int))) (show(xs.length:Int)≠0 by lia);have q2:=kh (i+(0+(j:Int))) q0;obtain⟨v,hv⟩:∃v,xs[((i+(0+(j:Int))) %(xs.length:Int)).toNat]?=some v:=⟨_,ar (by lia)⟩;have ev:rT xs ((i+(0+(j:Int))) %(xs.length:Int))=some v:=by
   have e0:(i+(0+(j:Int))) %(xs.length:Int)=((((i+(0+(j:Int))) %(xs.length:Int)).toNat:Nat):Int):=by lia
   rw[e0];exact iM hv
  refine iH ?_;refine⟨_,rfl,_,rfl,_,rfl,_,_,rfl,rfl,_,rfl,_,_,rfl,.inl ⟨_,bp.of Y4,rfl⟩,_,_,rfl,rfl,q0,_,_,_,_,rfl,rfl,bp.of Y4,ev,?_⟩;refine⟨many.toNat -(j+1),by lia,rfl,bQ,rfl,by rw[aK,hl];rfl,λy Fm=>?_⟩;rcases bf.mp Fm with z|z
  ·exact hy y z
  ·rw[ay.mp z];exact aC hv
 ·refine .inl ⟨by show many.toNat<=j;lia,by rw[hl];exact bu (bK (by lia)),λl oB=>?_⟩;have nl:l≠fe:=uI.rH oB;exact k l ys _ (uI.new oB _) (ph.new oB _) nl au (by lia) hy
def Lx:cu ["_law_feed_here"] ["_law_feed_here"] (defScope zl):=jx (by decide+kernel)
def xH(F:eZ K "_law_names" "_law_names" zl f fd)(T:Txt K mg)(D:Dr2 P w K mg base):cY P w K mg base fH 3 f fd ["_law_feed_here"] (CP K rJ 3):=by
 refine F.ok Lx (λvs H Q E h=>?_) (λc6 A outer s H vs Q E hr h=>?_)
 ·obtain⟨a,rfl,_⟩:=h;rfl
 obtain⟨fe,rfl,hF,k⟩:=h;refine⟨_,(bj (cJ (cl D.HG hr (ao (pv 0) (ao (eO (ao dE (ao dE (ao dE (ao dE (ao dE (ao dE az))))))) (ao (d7 jW bq (cl D.gO hr (ao (pv 0) (ao bq az)))) az)))))),?_⟩;refine⟨_,rfl,(by show 6<=sizeLine;decide),λp hp=>?_⟩;have np:=hF.rH hp;refine⟨_,rfl,fe,3,rfl,hF.new hp _,by decide,by decide,λi H1 i0 i1 uI ph=>?_⟩;have zT:=ph p _ np au;refine⟨_,_,rfl,rfl,fe,p,_,_,rfl,uI,np,zT,by decide,by decide,by lia,by lia,λr ys H2 rS sV nr uD hl hy=>?_⟩;exact k r ys H2 rS (((Ext.refl fe H).new hp _).trans (ph.trans sV)) nr uD (by lia) (by lia) hy
def Je:cu ["_law_feed_here"] ["_law_feed_here"] (defScope xw):=jx (by decide+kernel)
def N5(F:eZ K "_law_values" "_law_values" xw f fd)(T:Txt K mg)(D:Dr2 P w K mg base):cY P w K mg base fH 3 f fd ["_law_feed_here"] (CP K cU 4):=by
 refine F.ok Je (λvs H Q E h=>?_) (λc6 A outer s H vs Q E hr h=>?_)
 ·obtain⟨a,rfl,_⟩:=h;rfl
 obtain⟨fe,rfl,hF,k⟩:=h;refine⟨_,(bj (cJ (cl D.HG hr (ao (pv 0) (ao (eO (ao dE (ao dE (ao dE (ao dE (ao dE (ao dE (ao dE (ao dE az))))))))) (ao (d7 jW bq (cl D.gO hr (ao (pv 0) (ao bq az)))) az)))))),?_⟩;refine⟨_,rfl,(by show 8<=sizeLine;decide),λp hp=>?_⟩;have np:=hF.rH hp;refine⟨_,rfl,fe,4,rfl,hF.new hp _,by decide,by decide,λi H1 i0 i1 uI ph=>?_⟩;have zT:=ph p _ np au;refine⟨_,_,rfl,rfl,fe,p,_,_,rfl,uI,np,zT,by decide,by decide,by lia,by lia,λr ys H2 rS sV nr uD hl hy=>?_⟩;exact k r ys H2 rS (((Ext.refl fe H).new hp _).trans (ph.trans sV)) nr uD (by lia) (by lia) hy
def F4(hg:Gl X x)(hm:X.mg x=none)(hv:bootBuiltins x=some (.type n))(hn:x≠"__name__":=by decide)(hd:(x==("__debug__":Str))=false:=by decide):PE X (.Name x pos) (tC (.ty n)):=VD hg hm hv rfl hn hd
def SIGNS:Str:="abcdefghijklmnopqrstuvwxyz0123456789"
def sgn(c:Nat):Bool:=!(Builtin.Str.occurrences SIGNS ⟨#[c]⟩ 0 SIGNS.length 1).isEmpty
def isVal(s:Str):Bool:=decide ((1:Int)<=(s.length:Int))&&(decide ((s.length:Int)<=8)&&(s.cps.toList.map sgn).all id)
def bT(s:Str):Bool:=Txt.startswith s "?"&&isVal (Txt.slice s (some 1) none)
inductive SW(vs:List V)(H:Hp)(Q:VK)(_x3:XK):Prop
 |mk (z:Str) (_:vs=[.str z]) (_:z.length<=1000) (_:∀H',bG H H'->Q (.bl (isVal z)) H')
inductive SX(vs:List V)(H:Hp)(Q:VK)(_x3:XK):Prop
 |mk (z:Str) (_:vs=[.str z]) (_:z.length<=1000) (_:∀H',bG H H'->Q (.bl (bT z)) H')
def aL(h:H p=none)(o:HO):bG H (upd H p o):=λb u q=>by rw[aw (aW q h)];exact q
def HI(t:Value):kitOne K t t=some true:=by unfold kitOne;rw[aB (beq_self_eq_true t)]
def Jg:cu ["thing"] ["thing"] (defScope xB):=jx (by decide+kernel)
def Jm(F:eZ K "is_value" "is_value" xB f fd)(T:Txt K mg):cY P w K mg base fH 1 f fd ["thing"] SW:=by
 refine F.ok Jg (λvs H Q E h=>?_) (λc6 A outer s H vs Q E hr h=>?_)
 ·obtain⟨a,rfl,_⟩:=h;rfl
 obtain⟨z,rfl,hz,k⟩:=h;refine⟨_,(aP (iq (GY (wt (cE rm rfl T.pJ (by decide+kernel) (ao (pv 0) (ao (F4 (n:="str") rfl T.Tp (by decide+kernel)) az))))) (bj (cJ qY)) eU)
   (bj (cJ (Hg (QZ LL LL bq (cE fS rfl T.jg cq (ao (pv 0) az)) (QW rfl T.ID)) (NR (cE (w6 rfl) rfl T.Tq boot_all (ao (js rfl (dB (fs:=[]) (fr:=[])) (XJ (pv 0)) (λ_ _ _ _=>(Kn N0 (pv 0) (QV rfl T.Wa) (by with_unfolding_all rfl)))) az))))))),?_⟩
 have oo:z.length<=sizeLine:=bu (bK hz);refine⟨_,rfl,_,_,_,true,rfl,nX.str z,HI _,_,rfl,?_⟩;refine qK ?_;refine⟨_,rfl,_,_,rfl,⟨oo,rfl⟩,_,_,rfl,rfl,_,rfl,?_⟩;refine fm (λc1=>?_) (λc1=>?_)
 ·refine⟨_,_,rfl,rfl,_,rfl,?_⟩;refine fm (λc2=>?_) (λc2=>?_)
  ·refine⟨_,rfl,_,rfl,λi m ys H2=>H2=H/\i<=z.cps.size/\m=z.cps.size -i/\ys=((z.cps.toList.take i).map sgn).map V.bl,⟨_,rfl,aO _,rfl,rfl⟩,?_⟩;rintro i m ys H2 ⟨rfl,hi,rfl,rfl⟩;have hl:∀j,(((z.cps.toList.take j).map sgn).map V.bl).length<=1000:=λj=>by
    rw[ag,ag,aS];have:z.cps.toList.length=z.length:=by simp[Str.length]
    lia
   by_cases bQ:i<z.cps.size
   ·refine .inr ⟨bQ,bK (hl i),?_⟩;rintro v H3 ⟨rfl,c,hc,rfl⟩;refine iH ?_;refine⟨_,rfl,_,_,rfl,rfl,_,?_,rfl,bQ,rfl,?_⟩
    ·exact Nat.sub_lt_sub_left bQ (dw i)
    ·have pb:z.cps.toList[i]?=some c:=by simpa using hc
     rw[aZ,pb,aQ,aQ];rfl
   ·have e:i=z.cps.size:=by lia
    refine .inl ⟨e,bu (bK (hl i)),λl oB=>?_⟩;refine⟨_,(z.cps.toList.take i).map sgn,rfl,bp.of au,?_⟩;have et:z.cps.toList.take i=z.cps.toList:=cw (by rw[e];simp);have ev:isVal z=((z.cps.toList.take i).map sgn).all id:=by unfold isVal;rw[c1,c2,et,f7,f7]
    rw[<-ev];exact k _ (aL oB _)
  ·have ev:isVal z=false:=by unfold isVal;rw[g9.mpr c2,nJ,nK]
   have q:=k H (bG.refl H);rw[ev]at q;exact q
 ·have ev:isVal z=false:=by unfold isVal;rw[g9.mpr c1,nJ]
  have q:=k H (bG.refl H);rw[ev]at q;refine⟨_,rfl,?_⟩;exact qK q
structure Dv(P:Program)(w:World)(K:Frag)(mg:Str->Option Value)(base:Heap):Prop where
 is_value:dW P w K mg base 1 "is_value" ["thing"] SW
def FT:cu ["thing"] ["thing"] (defScope uh):=jx (by decide+kernel)
def slice_le(z:Str):(Txt.slice z (some 1) none).length<=z.length:=qa z _ _
def FU(F:eZ K "is_unknown" "is_unknown" uh f fd)(T:Txt K mg)(D:Dv P w K mg base):cY P w K mg base fH 2 f fd ["thing"] SX:=by
 refine F.ok FT (λvs H Q E h=>?_) (λc6 A outer s H vs Q E hr h=>?_)
 ·obtain⟨a,rfl,_⟩:=h;rfl
 obtain⟨z,rfl,hz,k⟩:=h;refine⟨_,(bj (cJ (Hg (cE rm rfl T.pJ (by decide+kernel) (ao (pv 0) (ao (F4 (n:="str") rfl T.Tp (by decide+kernel)) az))) (Hg (kz PySem.F.plainAttrs_str PySem.F.slot_str_startswith PySem.F.type_str_startswith FV (pv 0) (ao dE az)) (NR (cl D.is_value hr (ao (B2 Xl (pv 0) (Ei bq) Ej) az))))))),?_⟩;have oo:z.length<=sizeLine:=bu (bK hz);refine⟨_,rfl,_,_,_,true,rfl,nX.str z,HI _,_,rfl,?_⟩;refine Es ?_;refine⟨_,rfl,rfl,_,_,rfl,rfl,_,rfl,?_⟩;refine fm (λc1=>?_) (λc1=>?_)
 ·refine⟨_,rfl,_,rfl,_,rfl,oo,_,rfl,aE (slice_le z) hz,λH' sm=>?_⟩;have ev:bT z=isVal (Txt.slice z (some 1) none):=by unfold bT;rw[c1,f7]
  rw[<-ev];exact k H' sm
 ·have ev:bT z=false:=by unfold bT;rw[g9.mpr c1,nJ]
  have q:=k H (bG.refl H);rw[ev]at q;exact q
def Paired.Lu(h:Paired F aad aac)(q:F a b):Paired F (aad++[a]) (aac++[b]):=h.snoc q
theorem Paired.at:∀{aad:List α}{aac:List β}{i:Nat}{x:α},Paired F aad aac->aad[i]?=some x->∃y,aac[i]?=some y/\F x y
 |_,_,_,_,.nil,e=>by simp at e
 |_,_,0,_,.cons r _,e=>by simp at e;subst e;exact⟨_,rfl,r⟩
 |_,_,i+1,x,.cons _ t,e=>by obtain⟨y,h1,h2⟩:=Paired.at (i:=i) (x:=x) t (by simpa using e);exact⟨y,by simpa using h1,h2⟩
theorem AG{texts:List Str}:∀{ys:List V},(∀y∈ys,y∈texts.map V.str)->∃zs:List Str,ys=zs.map V.str/\∀z∈zs,z∈texts
 |[],_=>⟨[],rfl,λ_ h=>by cases h⟩
 |y::r,h=>by
  obtain⟨zs,e,hz⟩:=AG (ys:=r) λy hy=>h y (aD _ hy);obtain⟨z,sS,e1⟩:=aM.mp (h y aA);refine⟨z::zs,by rw[aX,e1,<-e],λw hw=>?_⟩;rcases aI.mp hw with rfl|hw
  ·exact sS
  ·exact hz w hw
def ij:List Str:=iy++cU++(["x"]:List Str)
def B1{zs:List Str}(h0:0<=i)(h1:i<(zs.length:Int)):∃z,z∈zs/\rT (zs.map V.str) i=some (.str z):=by
 obtain⟨z,hz⟩:∃z,zs[i.toNat]?=some z:=⟨_,ar (by lia)⟩;refine⟨z,aC hz,?_⟩;have e:i=((i.toNat:Nat):Int):=by lia
 rw[e];exact iM (by rw[aJ,hz];rfl)
@[irreducible] noncomputable def FO(X:Cx)(e:Expr)(t:TE):Prop:=PE X e t
def Td(h:FO X e t):PE X e t:=by unfold FO at h;exact h
def NQ:FO X (.Dict [some (.Constant (.str s0) j0 p0),some (.Constant (.str s1) j1 p1),some (.Constant (.str s2) j2 p2),some (.Constant (.str s3) j3 p3),some (.Constant (.str s4) j4 p4)] [(.Constant (.int i0) k0 q0),(.Constant (.int i1) k1 q1),(.Constant (.int i2) k2 q2),(.Constant (.int i3) k3 q3),(.Constant (.int i4) k4 q4)] pos) (SU [(tC (.str s0),tC (.int i0)),(tC (.str s1),tC (.int i1)),(tC (.str s2),tC (.int i2)),(tC (.str s3),tC (.int i3)),(tC (.str s4),tC (.int i4))]):=by unfold FO;exact VB (qH dE bq (qH dE bq (qH dE bq (qH dE bq (qH dE bq Kh))))) rfl rfl (by simp) (by show 5<=15;decide)
def Qb:attributeBase (.Dict ks vs p) m env ev=ev:=rfl
def Qx:backTo dP (starEach [.Name x p,.Constant c k q] env)=[(false,eval (.Name x p) env),(false,eval (.Constant c k q) env)]:=rfl
def aai:((backTo dP (starEach [.Name x p,.Constant c k q] env)).all (λx=>!x.1)&&(backToKw dP (keywordEach [] env)).all (λx=>x.1.isSome)
  &&decide (([.Name x p,.Constant c k q]:List Expr).length+([]:List Keyword).length+(if([]:List Keyword).isEmpty then 0 else 1)<30))=true:=rfl
def Vx(hu:X.A.units+1<cLine)(ho:FO X o td)(hx:PE X (.Name x px) tx)(line:(apos.endLine==dP.line)=true)
  (hb:∀ev:Sem Value,attributeBase o "get" X.env ev=ev):FO X (.Call (.Attribute o "get" apos) [.Name x px,.Constant (.int d) jd pd] [] dP) (Nh td tx (tC (.int d))):=by
 unfold FO;exact uu hu (Td ho) hx bq ⟨hb _,aai,line,Qx⟩
def Xw{C:L2.St->Hp->Prop}(h:FO X e te)(q:∀Z H,C Z H->te Z H D.rt):∃t2,kU X [.Return (some e) adx] t2/\∀Z H,C Z H->t2 D Z H:=
 ⟨_,bj (cJ (Td h)),q⟩
noncomputable def B9:List (Key×V):=[(.inr "r",.int 2),(.inr "s",.int 1),(.inr "rs",.int 2),(.inr "r1",.int 3),(.inr "a",.int 2)]
def V0:((dX [] B9).all λp=>match p.2 with| .int i=>decide (1<=i/\i<=4)|_=>false)=true:=by decide+kernel
def Rf(k:Key):∃i:Int,(eI (dX [] B9) k).getD (.int 1)=.int i/\1<=i/\i<=4:=by
 cases e:eI (dX [] B9) k with
 |none=>exact⟨1,rfl,by lia,by lia⟩
 |some v=>
  obtain⟨p,hp,e2⟩:=bo.mp e;have q:=dA.mp V0 p (jk hp);rw[e2]at q;cases v with
  |int i=>exact⟨i,rfl,(br q).1,(br q).2⟩
  |_=>exact absurd q aT
def Jf:cu ["_law_feed_here","_law_name"] ["_law_feed_here","_law_name"] (defScope xA):=jx (by decide+kernel)
def N8(F:eZ K "_law_length" "_law_length" xA f fd)(T:Txt K mg)(D:Dr P w K mg base):cY P w K mg base fH 2 f fd ["_law_feed_here","_law_name"] (BN K):=by
 refine F.ok Jf (λvs H Q E h=>?_) (λc6 A outer s H vs Q E hr h=>?_)
 ·obtain⟨a,b,rfl,_⟩:=h;rfl
 obtain⟨fe,n,rfl,hF,k⟩:=h;have hu:=iL hr;refine cut 1 (λZ H1=>Z=[some (.ref fe),some (.str n)]/\dY K fe H1/\Ext fe H H1) (Xw (Vx hu NQ (pv 1) rfl (λ_=>Qb)) ?_) (λt2 ht=>⟨_,(aP (iq (dj xG (cl D.gO hr (ao (pv 0) (ao bq az))) bq (fN _)) (bj (cJ (d7 jW bq (cl D.gO hr (ao (pv 0) (ao bq az)))))) eU) ht),λtl=>?_⟩)
 case refine_2=>
  refine⟨_,rfl,fe,9,rfl,hF,by decide,by decide,λi H1 i0 i1 uI ph=>?_⟩;refine⟨rfl,_,rfl,?_⟩;refine fm (λc=>?_) (λc=>?_)
  ·refine⟨_,rfl,fe,4,rfl,uI,by decide,by decide,λj H2 j0 j1 rS sV=>?_⟩;refine⟨_,_,rfl,rfl,?_⟩;exact k _ H2 (by lia) (by lia) rS (ph.trans sV)
  ·exact tl _ _ ⟨rfl,uI,ph⟩
 case refine_1=>
  rintro Z H1 ⟨rfl,uI,ph⟩;intro p hp;refine⟨au,B9,?_,?_,?_⟩
  ·show[((V.str "r",V.int 2):V×V),(.str "s",.int 1),(.str "rs",.int 2),(.str "r1",.int 3),(.str "a",.int 2)]=_;rfl
  ·show 5<=15;decide
  have e1:upd (upd H1 p (.dK [])) p (.dK (dX [] B9)) p=some (.dK (dX [] B9)):=au;refine⟨p,rfl,.inl ⟨_,.inl e1⟩,?_⟩;refine⟨_,rfl,?_⟩;refine⟨_,ki.k (k:=Sum.inr n) e1,?_⟩;obtain⟨i,e,h1,h2⟩:=Rf (Sum.inr n);show Q ((eI (dX [] B9) (Sum.inr n)).getD (.int 1)) _;rw[e];refine k i _ h1 h2 ?_ ?_
  ·rw[JN];exact uI.new hp _
  ·rw[JN];exact ph.new hp _
def Ea:List Str:=rJ++(["other"]:List Str)
def GF(h:∀R:L2.St->Hp->Prop,(∀σ' H',u D σ' H'->R σ' H')->t {D with nx:=R} Z H):Gr t u D Z H:=h (u D) λ_ _ x=>x
abbrev oN(f:Addr)(H:Hp):List V->List (List Str)->Prop:=Paired λ(y:V)(r:List Str)=>∃b,y=.ref b/\b≠f/\H b=some (.tup (r.map V.str))
def nF(r:List Str):Prop:=1<=r.length/\r.length<=4/\∀z∈r,z∈cU
def Aj(f:Addr)(H:Hp)(kv:Key×V):Prop:=∃(z:Str)(a:Addr)(ys:List V)(rows:List (List Str)),kv=(Sum.inr z,.ref a)/\z∈Ea/\a≠f/\H a=some (.lst ys)/\oN f H ys rows/\(∀r∈rows,nF r)/\rows.length<=7
def TabAt(f:Addr)(H:Hp)(d:Addr)(kvs:List (Key×V)):Prop:=d≠f/\H d=some (.dK kvs)/\(kvs.map (·.1)).Nodup/\kvs.length<=4/\∀kv∈kvs,Aj f H kv
variable{f:Addr}{H H':Hp}
def nh(h:oN f H ys rows)(e:Ext f H H'):oN f H' ys rows:=
 Paired.qJ h λy r ⟨b,e1,n,hb⟩=>⟨b,e1,n,e _ _ n hb⟩
def BX{K:Frag}(h:oN f H ys rows):eB K H ys rows:=
 Paired.qJ h λy r ⟨b,e1,n,hb⟩=>⟨b,e1,bE.of hb⟩
def Aj.keep(h:Aj f H kv)(e:Ext f H H'):Aj f H' kv:=by obtain⟨z,a,ys,rows,e1,hz,na,ha,hr,hg,hl⟩:=h;exact⟨z,a,ys,rows,e1,hz,na,e _ _ na ha,nh hr e,hg,hl⟩
def dY.dic{K:Frag}(h:dY K f H)(hp:H p=some (.dK xs))(n:p≠f)(o:HO):dY K f (upd H p o):=by
 obtain⟨a,ns,x,y,z,hf,h1,h2,h3,hS,hn⟩:=h;refine⟨a,ns,x,y,z,by rw[aw n.symm];exact hf,h1,h2,h3,?_,hn⟩;rcases hS with⟨ob,h⟩|h
 ·exact .inl ⟨ob,by rw[aw (vk h hp λz=>by cases z)];exact h⟩
 ·exact .inr h
def QR{k:Key}{v:V}:(putK kvs k v).length<=kvs.length+1:=by
 unfold putK;split
 ·rw[ag];lia
 ·rw[aK];exact ak _
def QQ{k:Key}{v:V}{p:Key×V}(h:p∈putK kvs k v):p∈kvs\/p=(k,v):=by
 unfold putK at h;split at h
 ·obtain⟨q,hq,rfl⟩:=aM.mp h;split
  next c=>exact .inr (by rw[c])
  next=>exact .inl hq
 ·rcases bf.mp h with q|q
  ·exact .inl q
  ·exact .inr (ay.mp q)
def LC{k:Key}{v:V}(h:(kvs.map (·.1)).Nodup):((putK kvs k v).map (·.1)).Nodup:=by
 unfold putK;split
 ·rw[cx];have e:((λx:Key×V=>x.1)∘λkv:Key×V=>if kv.1=k then(kv.1,v)else kv)=λkv=>kv.1:=by funext kv;show(if kv.1=k then(kv.1,v)else kv).1=kv.1;split<;>rfl
  rw[e];exact h
 ·next c=>
  rw[aQ];refine eY.mpr ⟨h,by simp,λa ha b hb=>?_⟩;rw[sd,ay]at hb;subst hb;rintro rfl;obtain⟨q,hq,e⟩:=aM.mp ha;exact c (jI.mpr ⟨q,hq,aU e⟩)
end
section
variable{P:Program}{w:World}{K:Frag}{mg:Str->Option Value}{base:Heap}
structure Dl(P:Program)(w:World)(K:Frag)(mg:Str->Option Value)(base:Heap):Prop extends Dr P w K mg base where
 Cc:dW P w K mg base 2 "_law_length" ["_law_feed_here","_law_name"] (BN K)
inductive Gu(K:Frag)(vs:List V)(H:Hp)(Q:VK)(_x3:XK):Prop
 |mk (f nl vl:Addr) (jn nM:List Str) (_:vs=[.ref f,.ref nl,.ref vl]) (_:dY K f H) (_:nl≠f) (_:vl≠f) (_:H nl=some (.lst (jn.map V.str))) (_:jn.length<=4) (_:(∀z∈jn,z∈Ea)) (_:H vl=some (.lst (nM.map V.str))) (_:1<=nM.length) (_:nM.length<=4) (_:(∀z∈nM,z∈cU)) (_:∀(d:Addr)(kvs:List (Key×V))(H':Hp),dY K f H'->Ext f H H'->TabAt f H' d kvs->H d=none->Q (.ref d) H')
def oh:cu ["_law_feed_here","_law_names_here","_law_values_here","_law_tables_here","_law_name","_law_rows","_law_k"] ["_law_feed_here","_law_names_here","_law_values_here"] (defScope xx):=jx (by decide+kernel)
def N6(F:eZ K "_law_tables" "_law_tables" xx f fd)(T:Txt K mg)(D:Dl P w K mg base):cY P w K mg base fH 3 f fd ["_law_feed_here","_law_names_here","_law_values_here"] (Gu K):=by
 refine F.ok oh (λvs H Q E h=>?_) (λc6 A outer s H vs Q E hr h=>?_)
 ·obtain⟨a,b,c,d,e,rfl,_⟩:=h;rfl
 obtain⟨fe,nl,vl,jn,nM,rfl,hF,zE,yG,Dp,Bw,Zd,Bt,hv1,HV,OV,k⟩:=h;have hu:=iL hr;refine⟨_,(aP (fM 3 oh kZ)
   (aP (eJ bF rfl (gq (pv 1)) (iz 4 oh)
   (aP (fM 5 oh (eO az))
   (aP (eJ bF rfl (jV rfl T.nj (ao (cl D.gO hr (ao (pv 0) (ao bq az))) az)) (iz 6 oh)
   (bj (iI (kz bY cL cK jo (pv 5) (ao (dZ eR rfl T.jP (by decide+kernel) (ao (js rfl (dB (fs:=["_law_values_here","_law_feed_here"]) (fr:=[2,0])) (jV rfl T.nj (ao (cl D.Cc hr (ao (pv 0) (ao (pv 4) az))) az)) (λ_ _ _ _=>(dF (HK (K:=K)) (pv 1) (cl D.gO hr (ao (pv 2) (ao (cE (Ac (K:=K)) rfl T.jg cq (ao (pv 1) az)) az))) (λ_ _=>rfl)))) az)) az)))))
   (aP (iq (PW.pt (CZ (dj F5 (cE fS rfl T.jg cq (ao (pv 5) az)) bq (fN _)) (AH (dj xG (cl D.gO hr (ao (pv 0) (ao bq az))) bq (fN _))))) (bj (iI (kz bY cL cK jo (pv 5) (ao (dF eX (pv 5) bq (λ_ _=>rfl)) az)))) eU)
   (bj (iq (PW.pt (F2 (dj F5 (cE fS rfl T.jg cq (ao (pv 5) az)) bq (fN _)) (GU (dj xG (cl D.gO hr (ao (pv 0) (ao bq az))) bq (fN _))))) (bj (wx hu (pv 3) (pv 4) (pv 5) rfl)) eU))))))
   (bj (cJ (pv 3))))),?_⟩
 intro d hd;have nd:=hF.rH hd;have lvl:(nM.map V.str).length=nM.length:=ag _;have acR:upd H d (.dK []) nl=some (.lst (jn.map V.str)):=by rw[aw (aW Dp hd)];exact Dp
 refine⟨_,rfl,nl,rfl,⟨_,bp.of acR⟩,mM (K:=K) (a:=nl) (xs:=jn.map V.str)
  (λi Z H2=>∃(x4 x5 x6:Option V)(kvs:List (Key×V)),Z=[some (.ref fe),some (.ref nl),some (.ref vl),some (.ref d),x4,x5,x6]/\dY K fe H2/\Ext fe H H2/\H2 d=some (.dK kvs)/\(kvs.map (·.1)).Nodup/\kvs.length<=i/\∀kv∈kvs,Aj fe H2 kv)
  ⟨none,none,none,[],rfl,hF.new hd _,(Ext.refl fe H).new hd _,au,kP,ak _,λkv h=>by cases h⟩ ?_ ?_ ?_⟩
 ·rintro i Z H2 hi ⟨x4,x5,x6,kvs,rfl,rS,sV,hd2,Ku,km,Dx⟩;exact bp.of (sV _ _ zE Dp)
 ·rintro i x Z H2 hx ⟨x4,x5,x6,kvs,rfl,rS,sV,hd2,Ku,km,Dx⟩;obtain⟨z,hz,rfl⟩:=bo.mp (by rw[<-aJ];exact hx);have li:i<jn.length:=(aq.mp hz).1;have zp:=Zd z (aC hz);refine⟨(by show 0<=sizeLine;decide),λrl Bv=>?_⟩;have C8:=rS.rH Bv;have rl0:H rl=none:=sV.none C8 Bv;have x3:Ext fe H2 (upd H2 rl (.lst [])):=(Ext.refl fe H2).new Bv _;refine⟨_,rfl,fe,7,rfl,rS.new Bv _,by decide,by decide,λi3 H3 j0 j1 Pw IG=>?_⟩;have adf:=x3.trans IG;have nrv:vl≠rl:=aW Bt rl0;refine⟨_,rfl,by lia,by lia,mL (lo:=0) (n:=i3.toNat)
   (λj Z H4=>∃(y6:Option V)(ys:List V)(rows:List (List Str)),Z=[some (.ref fe),some (.ref nl),some (.ref vl),some (.ref d),some (.str z),some (.ref rl),y6]/\dY K fe H4/\Ext fe H2 H4/\H4 rl=some (.lst ys)/\oN fe H4 ys rows/\(∀r∈rows,nF r)/\rows.length=j)
   ⟨x6,[],[],rfl,Pw,adf,IG _ _ C8 au,.nil,λr h=>(by cases h),rfl⟩ ?_ ?_⟩
  ·rintro j Z H4 hj ⟨y6,ys,rows,rfl,wX,wZ,Et,rO,Fx,Ph⟩;have ly:ys.length=rows.length:=rO.length;refine⟨_,rfl,.inl ⟨rfl,_,bp.of Et⟩,_,rfl,_,rfl,fe,z,rfl,wX,λi6 H6 l1 l2 yQ pV=>?_⟩;refine⟨_,rfl,by lia,by lia,λj m zs H7=>∃ts:List Str,zs=ts.map V.str/\ts.length=j/\j<=i6.toNat/\m=i6.toNat -j/\dY K fe H7/\Ext fe H6 H7/\∀t∈ts,t∈cU,⟨_,[],rfl,rfl,aO _,rfl,yQ,Ext.refl _ _,λt h=>by cases h⟩,?_⟩;rintro j5 m5 zs H7 ⟨ts,rfl,bQ,hle,rfl,vB,pU,kT⟩;have aaj:=(wZ.trans pV).trans pU;by_cases lt5:j5<i6.toNat
   ·refine .inr ⟨lt5,by rw[ag,bQ];exact bK (by lia),?_⟩;rintro v H8 ⟨rfl,rfl⟩;have YT:=(sV.trans aaj) _ _ yG Bt;refine iH ?_;refine⟨_,rfl,_,rfl,_,rfl,_,_,rfl,.inl ⟨_,bp.of YT,rfl⟩,fe,_,rfl,vB,by lia,by lia,λi8 H9 n0 n1 Iz DC=>?_⟩;obtain⟨z9,sR,ev9⟩:=B1 (zs:=nM) n0 (by lia);refine⟨_,_,_,_,rfl,rfl,bp.of (DC _ _ yG YT),ev9,?_⟩;refine⟨i6.toNat -(j5+1),by lia,ts++[z9],by rw[aQ];rfl,by rw[aK,bQ];rfl,lt5,rfl,Iz,pU.trans DC,λt h=>?_⟩;rcases bf.mp h with q|q
    ·exact kT t q
    ·rw[ay.mp q];exact OV z9 sR
   ·refine .inl ⟨by show i6.toNat<=j5;lia,by rw[ag,bQ];exact bu (bK (by lia)),λl hl=>?_⟩;refine⟨_,_,rfl,.inl ⟨bp.of au,λtt ot=>?_⟩⟩;have RD:=pU _ _ C8 (pV _ _ C8 Et);have n1:rl≠l:=aW RD hl;have acF:H7 tt=none:=by
     have:tt≠l:=λe=>by rw[e,au]at ot;cases ot
     rw[aw this]at ot;exact ot
    have n2:rl≠tt:=aW RD acF;have RC:upd (upd H7 l (.lst (ts.map V.str))) tt (.tup (ts.map V.str)) rl=some (.lst ys):=by rw[aw n2,aw n1];exact RD
    refine⟨_,_,_,rfl,rfl,RC,bK (by lia),?_⟩;have vA:=vB.new hl (.lst (ts.map V.str));have Iz:=vA.new ot (.tup (ts.map V.str));have x8:Ext fe H7 (upd H7 l (.lst (ts.map V.str))):=(Ext.refl fe H7).new hl _;have x9:Ext fe H7 (upd (upd H7 l (.lst (ts.map V.str))) tt (.tup (ts.map V.str))):=x8.new ot _;have Bh:=vA.rH ot;have O6:oN fe (upd (upd (upd H7 l (.lst (ts.map V.str))) tt (.tup (ts.map V.str))) rl (.lst (ys++[.ref tt]))) (ys++[.ref tt]) (rows++[ts]):=by
     refine Paired.Lu (Paired.qJ (nh rO ((pV.trans pU).trans x9)) λy r ⟨b,e1,nb,hb⟩=>⟨b,e1,nb,?_⟩) ⟨tt,rfl,Bh,?_⟩
     ·rw[aw (vk hb RC λz=>by cases z)];exact hb
     ·rw[aw n2.symm,au]
    refine⟨_,_,rows++[ts],rfl,Iz.lst RC C8 _,(aaj.trans x9).own Bv _,au,O6,λr h=>?_,by rw[aK,Ph];rfl⟩;rcases bf.mp h with q|q
    ·exact Fx r q
    ·rw[ay.mp q];exact⟨by lia,by lia,kT⟩
  ·rintro Z H4 ⟨y6,ys,rows,rfl,wX,wZ,Et,rO,Fx,Ph⟩;have ly:ys.length=rows.length:=rO.length;have fin:∀(H5:Hp)(ys:List V)(rows:List (List Str)),dY K fe H5->Ext fe H2 H5->H5 rl=some (.lst ys)->oN fe H5 ys rows->(∀r∈rows,nF r)->rows.length<=7->(∃(x4 x5 x6:Option V)(xO:List (Key×V)),[some (V.ref fe),some (.ref nl),some (.ref vl),some (.ref d),some (.str z),some (.ref rl),y6]=[some (.ref fe),some (.ref nl),some (.ref vl),some (.ref d),x4,x5,x6]/\dY K fe (upd H5 d (.dK (putK kvs (Sum.inr z) (.ref rl))))/\Ext fe H (upd H5 d (.dK (putK kvs (Sum.inr z) (.ref rl))))/\upd H5 d (.dK (putK kvs (Sum.inr z) (.ref rl))) d=some (.dK xO)/\(xO.map (·.1)).Nodup/\xO.length<=i+1/\∀kv∈xO,Aj fe (upd H5 d (.dK (putK kvs (Sum.inr z) (.ref rl)))) kv):=λH5 ys rows qw mf Ce zR Ui mK=>by
    have Ul:=mf _ _ nd hd2;have nrd:rl≠d:=λe=>by rw[e,Ul]at Ce;cases Ce
    have keep:∀{a:Addr}{o:HO},H5 a=some o->a≠d->upd H5 d (.dK (putK kvs (Sum.inr z) (.ref rl))) a=some o:=λh n=>by rw[aw n];exact h
    have keepR:∀{ys:List V}{rows:List (List Str)},oN fe H5 ys rows->oN fe (upd H5 d (.dK (putK kvs (Sum.inr z) (.ref rl)))) ys rows:=λh=>Paired.qJ h λy r ⟨b,e1,nb,hb⟩=>⟨b,e1,nb,keep hb λe=>by rw[e,Ul]at hb;cases hb⟩;refine⟨_,_,_,_,rfl,qw.dic Ul nd _,(sV.trans mf).own hd _,au,LC Ku,aE QR (Nat.add_le_add_right km 1),λkv hG=>?_⟩;rcases QQ hG with q|rfl
    ·obtain⟨z',a,fY,F0,e1,oo,na,ha,ox,hg',oB⟩:=(Dx kv q).keep mf;exact⟨z',a,fY,F0,e1,oo,na,keep ha (λe=>by rw[e,Ul]at ha;cases ha),keepR ox,hg',oB⟩
    ·exact⟨z,rl,ys,rows,rfl,zp,C8,keep Ce nrd,keepR zR,Ui,mK⟩
   have fin2:∀(H5:Hp)(q:L2.St),q=[some (V.ref fe),some (.ref nl),some (.ref vl),some (.ref d),some (.str z),some (.ref rl),y6]->dY K fe H5->Ext fe H2 H5->(∃(x4 x5 x6:Option V)(xO:List (Key×V)),q=[some (.ref fe),some (.ref nl),some (.ref vl),some (.ref d),x4,x5,x6]/\dY K fe H5/\Ext fe H H5/\H5 d=some (.dK xO)/\(xO.map (·.1)).Nodup/\xO.length<=i+1/\∀kv∈xO,Aj fe H5 kv):=λH5 q eq qw mf=>
    ⟨_,_,_,kvs,eq,qw,sV.trans mf,mf _ _ nd hd2,Ku,by lia,λkv h=>(Dx kv h).keep mf⟩
   with_reducible change Gr _ _ _ _ _
   refine GF λR hR=>?_;have second:∀(H5:Hp)(ys:List V)(rows:List (List Str)),dY K fe H5->Ext fe H2 H5->H5 rl=some (.lst ys)->oN fe H5 ys rows->(∀r∈rows,nF r)->rows.length<=7->R [some (V.ref fe),some (.ref nl),some (.ref vl),some (.ref d),some (.str z),some (.ref rl),y6] H5:=by
    intro H5 ys rows qw mf Ce zR Ui mK;refine hR _ _ ?_;refine⟨_,rfl,_,_,rfl,.inl ⟨_,bp.of Ce,rfl⟩,_,_,rfl,rfl,_,rfl,?_⟩;refine fm (λc=>?_) (λc=>?_)
    ·refine Es ?_;exact⟨_,rfl,_,rfl,_,rfl,d,_,rfl,.inl ⟨kvs,Sum.inr z,mf _ _ nd hd2,rfl,bK (by lia),rfl⟩,fin H5 ys rows qw mf Ce zR Ui mK⟩
    ·refine⟨_,rfl,fe,3,rfl,qw,by decide,by decide,λi6 H6 k0 k1 yQ pV=>⟨rfl,_,rfl,?_⟩⟩;have Ex:=mf.trans pV;refine fm (λc=>?_) (λc=>?_)
     ·exact⟨_,rfl,_,rfl,_,rfl,d,_,rfl,.inl ⟨kvs,Sum.inr z,Ex _ _ nd hd2,rfl,bK (by lia),rfl⟩,fin H6 ys rows yQ Ex (pV _ _ C8 Ce) (nh zR pV) Ui mK⟩
     ·exact fin2 H6 _ rfl yQ Ex
   refine⟨_,rfl,_,_,rfl,.inl ⟨_,bp.of Et,rfl⟩,_,_,rfl,rfl,_,rfl,?_⟩;refine fm (λc=>?_) (λc=>?_)
   ·have c:(1:Int)<(ys.length:Int):=br c;refine⟨_,rfl,fe,4,rfl,wX,by decide,by decide,λi6 H6 k0 k1 yQ pV=>⟨rfl,_,rfl,?_⟩⟩;have Ex:=wZ.trans pV;have uC:=pV _ _ C8 Et;have Ud:=nh rO pV;refine fm (λc=>?_) (λc=>?_)
    ·match ys,rows,Ud,uC,Fx,Ph,ly with
     |[],_,_,_,_,_,_=>simp at*
     |y::fY,r::F0,Ud,uC,Fx,Ph,ly=>
      refine⟨_,rfl,.inl ⟨rfl,_,bp.of uC⟩,_,rfl,_,_,_,_,rfl,rfl,bp.of uC,(iM (j:=0) rfl:rT (y::fY) 0=some y),_,_,_,rfl,rfl,uC,bK (by lia),?_⟩;have Fs:oN fe (upd H6 rl (.lst (y::fY++[y]))) (y::fY++[y]) (r::F0++[r]):=by
       have kp:∀(y:V)(r:List Str),(∃b,y=.ref b/\b≠fe/\H6 b=some (.tup (r.map V.str)))->∃b,y=.ref b/\b≠fe/\upd H6 rl (.lst (y::fY++[y])) b=some (.tup (r.map V.str)):=λy r ⟨b,e1,nb,hb⟩=>⟨b,e1,nb,by rw[aw (vk hb uC λz=>by cases z)];exact hb⟩;have kp:∀(o:HO)(y:V)(r:List Str),(∃b,y=.ref b/\b≠fe/\H6 b=some (.tup (r.map V.str)))->∃b,y=.ref b/\b≠fe/\upd H6 rl o b=some (.tup (r.map V.str)):=λo y r ⟨b,e1,nb,hb⟩=>⟨b,e1,nb,by rw[aw (vk hb uC λz=>by cases z)];exact hb⟩;cases Ud with
       |cons h0 ht=>exact Paired.Lu (.cons (kp _ _ _ h0) (Paired.qJ ht (kp _))) (kp _ _ _ h0)
      refine second _ _ (r::F0++[r]) (yQ.lst uC C8 _) (Ex.own Bv _) au Fs (λr' h=>?_) (by rw[aK,Ph];show i3.toNat+1<=7;lia);rcases bf.mp h with q|q
      ·exact Fx r' q
      ·rw[ay.mp q];exact Fx r aA
    ·exact second H6 ys rows yQ Ex uC Ud Fx (by lia)
   ·exact qK (second H4 ys rows wX wZ Et rO Fx (by lia))
 ·rintro Z H2 ⟨x4,x5,x6,kvs,rfl,rS,sV,hd2,Ku,km,Dx⟩;rw[ag]at km;exact⟨_,rfl,k d kvs H2 rS sV ⟨nd,hd2,Ku,by lia,Dx⟩ hd⟩
def fT(H H':Hp):Prop:=∀b xs,H b=some (.tup xs)->H' b=some (.tup xs)
def fT.trans(a:fT H H1)(b:fT H1 H2):fT H H2:=λc xs h=>b c xs (a c xs h)
def fT.refl(H:Hp):fT H H:=λ_ _ h=>h
def fT.new(a:fT H H1)(h:H1 p=none)(o:HO):fT H (upd H1 p o):=λb xs q=>by rw[aw (aW (a b xs q) h)];exact a b xs q
def fT.lst(a:fT H H1)(h:H1 p=some (.lst ys))(o:HO):fT H (upd H1 p o):=λb xs q=>by rw[aw (vk (a b xs q) h λz=>by cases z)];exact a b xs q
def fT.ext(hf:H f=some (.lst ys))(a:Ext f H H1):fT H H1:=λb xs q=>a b _ (vk q hf λz=>by cases z) q
def dY.lN{K:Frag}(h:dY K f H)(a:Ext f H H1):fT H H1:=by obtain⟨_,_,_,_,_,hf,_⟩:=h;exact fT.ext hf a
def m6(H:Hp)(v:V)(a:Str×List Str):Prop:=∃(p t:Addr),v=.ref p/\H p=some (.tup [.str a.1,.ref t])/\H t=some (.tup (a.2.map V.str))
abbrev fX(H:Hp):List V->List (Str×List Str)->Prop:=Paired (m6 H)
def m6.keep(a:fT H H')(h:m6 H v b):m6 H' v b:=by obtain⟨p,t,e,h1,h2⟩:=h;exact⟨p,t,e,a _ _ h1,a _ _ h2⟩
def fX.keep(a:fT H H')(h:fX H vs ba):fX H' vs ba:=Paired.imp' (λ_ _ q=>q.keep a) h
def rX(H:Hp)(v:V)(hz:List Str)(ba:List (Str×List Str)):Prop:=∃(q h a:Addr)(vs:List V),v=.ref q/\H q=some (.tup [.ref h,.ref a])/\H h=some (.tup (hz.map V.str))/\H a=some (.tup vs)/\fX H vs ba
def yj:List Str:=rJ
def cc(ba:List (Str×List Str)):List Str:=(ba.map (·.2)).flatten
def Mt(l:List (Str×List Str))(a:Str×List Str):cc (l++[a])=cc l++a.2:=by unfold cc;rw[aQ,List.flatten_append];simp
def xT{ba:List (Str×List Str)}(h:ba[i]?=some a):cc (ba.take (i+1))=cc (ba.take i)++a.2:=by rw[aZ,h];exact Mt _ _
def UZ:(cU.all λz=>!bT z)=true:=by decide+kernel
def xg(hz:List Str)(ba:List (Str×List Str)):Prop:=hz.length<=4/\∀z∈hz,z∈ij/\(bT z=true->z∈cc ba)
def tS(H:Hp)(p:Addr)(zs:List Str):Prop:=H p=some (.lst (zs.map V.str))/\1<=zs.length/\zs.length<=8/\∀z∈zs,z∈ij
def Good(ba:List (Str×List Str)):Prop:=∀a∈ba,a.2.length<=4/\(∀z∈a.2,z∈ij)/\1<=a.2.length/\a.1∈yj
end
inductive CQ(K:Frag)(vs:List V)(H:Hp)(Q:VK)(_x3:XK):Prop
 |mk (f nl vl:Addr) (most:Int) (jn nM:List Str) (_:vs=[.ref f,.ref nl,.ref vl,.int most]) (_:dY K f H) (_:nl≠f) (_:vl≠f) (_:H nl=some (.lst (jn.map V.str))) (_:1<=jn.length) (_:jn.length<=8) (_:(∀z∈jn,z∈yj)) (_:tS H vl nM) (_:(∀z∈nM,z∈cU)) (_:1<=most) (_:most<=8) (_:∀(r:Addr)(hz:List Str)(ba:List (Str×List Str))(H':Hp),dY K f H'->Ext f H H'->rX H' (.ref r) hz ba->1<=ba.length->ba.length<=8->Good ba->xg hz ba->Q (.ref r) H')
section
variable{P:Program}{w:World}{K:Frag}{mg:Str->Option Value}{base:Heap}
structure Dr3(P:Program)(w:World)(K:Frag)(mg:Str->Option Value)(base:Heap):Prop extends Dr2 P w K mg base where
 Cc:dW P w K mg base 2 "_law_length" ["_law_feed_here","_law_name"] (BN K)
def Ra(h:Good ba):∀z∈cc ba,z∈ij:=λz hz=>by obtain⟨ts,h1,h2⟩:=jD.mp hz;obtain⟨a,h3,rfl⟩:=aM.mp h1;exact(h a h3).2.1 z h2
theorem AL:∀l:List (Str×List Str),(∀a∈l,a.2.length<=4)->(cc l).length<=4*l.length
 |[],_=>ak _
 |a::r,q=>by have h1:=AL r λts kT=>q ts (aD _ kT);have h2:=q a aA;show(a.2++cc r).length<=_;rw[aK,bH];lia
def HE(h:Good ba)(n:Nat):(cc (ba.take n)).length<=4*n:=by
 have h1:=AL (ba.take n) λts kT=>(h ts (jj kT)).1;have h2:(ba.take n).length<=n:=by rw[aS];lia
 lia
def dJ:cu ["_law_feed_here","_law_names_here","_law_values_here","_law_most","_law_unknowns","_law_atoms","_law_k","_law_name","_law_terms","_law_j","_law_some","_law_head"] ["_law_feed_here","_law_names_here","_law_values_here","_law_most"] (defScope ug):=jx (by decide+kernel)
def jw(h:∀T,T=u->Gr t T D Z H):Gr t u D Z H:=h u rfl
def Jk(F:eZ K "_law_question" "_law_question" ug f fd)(T:Txt K mg)(D:Dr3 P w K mg base):cY P w K mg base fH 3 f fd ["_law_feed_here","_law_names_here","_law_values_here","_law_most"] (CQ K):=by
 refine F.ok dJ (λvs H Q E h=>?_) (λc6 A outer s H vs Q E hr h=>?_)
 ·obtain⟨a,b,c,d,e,g,rfl,_⟩:=h;rfl
 obtain⟨fe,nl,vl,most,jn,nM,rfl,hF,zE,yG,Dp,Pa,Bw,Zd,Bt,hvp,hm1,Pc,k⟩:=h;refine⟨_,(aP (fM 4 dJ (cl D.HG hr (ao (pv 0) (ao (eO (ao dE (ao dE (ao dE (ao dE (ao dE (ao dE az))))))) (ao (d7 jW bq (cl D.gO hr (ao (pv 0) (ao bq az)))) az)))))
   (aP (fM 5 dJ (eO az))
   (aP (eJ bF rfl (jV rfl T.nj (ao (d7 jW bq (cl D.gO hr (ao (pv 0) (ao (pv 3) az)))) az)) (iz 6 dJ)
   (aP (fM 7 dJ (dF eX (pv 1) (cl D.gO hr (ao (pv 0) (ao (cE fS rfl T.jg cq (ao (pv 1) az)) az))) (λ_ _=>rfl)))
   (aP (fM 8 dJ (eO az))
   (aP (eJ bF rfl (jV rfl T.nj (ao (cl D.Cc hr (ao (pv 0) (ao (pv 7) az))) az)) (iz 9 dJ)
   (aP (fM 10 dJ (dF eX (eO (ao (pv 4) (ao (pv 4) (ao (pv 4) (ao (pv 4) (ao (pv 2) az)))))) (cl D.gO hr (ao (pv 0) (ao bq az))) (λ_ _=>rfl)))
   (bj (iI (kz bY cL cK jo (pv 8) (ao (dF eX (pv 10) (cl D.gO hr (ao (pv 0) (ao (cE fS rfl T.jg cq (ao (pv 10) az)) az))) (λ_ _=>rfl)) az))))))
   (bj (iI (kz bY cL cK jo (pv 5) (ao (mH (ao (pv 7) (ao (dZ eR rfl T.jP (by decide+kernel) (ao (pv 8) az)) az))) az))))))))
   (aP (fM 10 dJ (eO az))
   (aP (eJ bF rfl (gq (pv 5)) (lE rfl (dk (iz 7 dJ) (dk (iz 8 dJ) jO)))
   (bj (iI (kz bY uR uQ LP (pv 10) (ao (pv 8) az)))))
   (aP (fM 11 dJ (eO az))
   (aP (eJ bF rfl (jV rfl T.nj (ao (cl D.gO hr (ao (pv 0) (ao bq az))) az)) (iz 6 dJ)
   (bj (iI (kz bY cL cK jo (pv 11) (ao (dF eX (d7 Hm (pv 10) (pv 2)) (cl D.gO hr (ao (pv 0) (ao (d7 jW (cE fS rfl T.jg cq (ao (pv 10) az)) (cE fS rfl T.jg cq (ao (pv 2) az))) az))) (λ_ _=>rfl)) az)))))
   (bj (cJ (mH (ao (dZ eR rfl T.jP (by decide+kernel) (ao (pv 11) az)) (ao (dZ eR rfl T.jP (by decide+kernel) (ao (pv 5) az)) az)))))))))))),?_⟩
 refine jw λT1 e1=>?_;refine⟨_,rfl,(by show 6<=sizeLine;decide),λp hp=>?_⟩;have np:=hF.rH hp;refine⟨_,rfl,fe,4,rfl,hF.new hp _,by decide,by decide,λi H1 i0 i1 uI ph=>?_⟩;have zT:=ph p _ np au;refine⟨_,_,rfl,rfl,fe,p,_,_,rfl,uI,np,zT,by decide,by decide,by lia,by lia,λu ys H2 rS sV nu wO hl hy=>?_⟩;obtain⟨us,rfl,TU⟩:=AG (texts:=iy) hy;rw[ag]at hl;have x2:Ext fe H H2:=((Ext.refl fe H).new hp _).trans (ph.trans sV);have ZQ:tS H2 u us:=⟨wO,by lia,by lia,λz hz=>cX _ (cX _ (TU z hz))⟩;show T1 _ _ _;subst e1;refine jw λT2 e2=>?_;refine⟨(by show 0<=sizeLine;decide),λat' Po=>?_⟩;have na:=rS.rH Po;have ac2:H at'=none:=x2.none na Po;have rg:∀{H3 H4:Hp}{q:Addr}{zs:List Str},q≠fe->Ext fe H3 H4->tS H3 q zs->tS H4 q zs:=λn e h=>⟨e _ _ n h.1,h.2⟩;have nua:u≠at':=aW ZQ.1 Po;show T2 _ _ _;subst e2;refine jw λT3 e3=>?_;refine⟨_,rfl,_,rfl,fe,most,rfl,rS.new Po _,by lia,by lia,λi3 H3 j0 j1 Pw IG=>?_⟩;refine⟨_,_,rfl,rfl,_,rfl,by lia,by lia,mL (lo:=0) (n:=(1+i3).toNat)
  (λi Z H4=>∃(x6 x7 x8 x9 yB:Option V)(fk:List V)(ba:List (Str×List Str)),Z=[some (.ref fe),some (.ref nl),some (.ref vl),some (.int most),some (.ref u),some (.ref at'),x6,x7,x8,x9,yB,none]/\dY K fe H4/\Ext fe H H4/\H4 at'=some (.lst fk)/\fX H4 fk ba/\ba.length=i/\Good ba/\tS H4 u us) ?_ ?_ ?_⟩
 ·refine⟨none,none,none,none,none,[],[],rfl,Pw,(x2.new Po _).trans IG,IG _ _ na au,.nil,rfl,λts h=>by(cases h),rg nu IG ⟨?_,ZQ.2⟩⟩;rw[aw nua];exact ZQ.1
 ·rintro i Z H4 hi ⟨x6,x7,x8,x9,yB,fk,ba,rfl,wX,wZ,Px,lP,hlen,good,hU4⟩;refine jw λT4 e4=>?_;have acQ:=wZ _ _ zE Dp;have lnm:(jn.map V.str).length=jn.length:=ag _;refine⟨_,rfl,_,rfl,_,rfl,_,_,rfl,.inl ⟨_,bp.of acQ,rfl⟩,fe,_,rfl,wX,by lia,by lia,λi5 H5 k0 k1 qw mf=>?_⟩;have RX:=wZ.trans mf;obtain⟨z,hz,ev⟩:=B1 (zs:=jn) k0 (by lia);refine⟨_,_,_,_,rfl,rfl,bp.of (RX _ _ zE Dp),ev,?_⟩;show T4 _ _ _;subst e4;refine jw λT5 e5=>?_;refine⟨(by show 0<=sizeLine;decide),λt ht=>?_⟩;have nt:=qw.rH ht;have Ua:H t=none:=RX.none nt ht;have IA:=mf _ _ na Px;have ZP:=rg nu mf hU4;have nta:at'≠t:=aW IA ht;have nut:u≠t:=aW ZP.1 ht;show T5 _ _ _;subst e5;refine jw λT6 e6=>?_;refine⟨_,rfl,_,rfl,fe,z,rfl,qw.new ht _,λi6 H6 l1 l2 yQ pV=>?_⟩;refine⟨_,rfl,by lia,by lia,mL (lo:=0) (n:=i6.toNat)
   (λj Z H7=>∃(y9 Ge:Option V)(ts:List Str),Z=[some (.ref fe),some (.ref nl),some (.ref vl),some (.int most),some (.ref u),some (.ref at'),some (.int (0+(i:Int))),some (.str z),some (.ref t),y9,Ge,none]/\dY K fe H7/\Ext fe H H7/\H7 at'=some (.lst fk)/\fX H7 fk ba/\tS H7 u us/\H7 t=some (.lst (ts.map V.str))/\ts.length=j/\∀z∈ts,z∈ij) ?_ ?_ ?_⟩
  ·have tu:fT H4 H6:=(wX.lN mf).trans (((fT.refl _).new ht _).trans ((qw.new ht _).lN pV));refine⟨x9,yB,[],rfl,yQ,(RX.new ht _).trans pV,?_,lP.keep tu,rg nu pV ⟨?_,ZP.2⟩,pV _ _ nt au,rfl,λz h=>by(cases h)⟩
   ·exact pV _ _ na (by rw[aw nta];exact IA)
   ·rw[aw nut];exact ZP.1
  ·rintro j Z H7 hj ⟨y9,Ge,ts,rfl,vB,pU,BA,F8,yP,KD,bQ,kT⟩;have hV7:tS H7 vl nM:=rg yG pU Bt;refine jw λT7 e7=>?_;refine⟨_,rfl,_,rfl,_,rfl,_,rfl,_,rfl,(by show 5<=sizeLine;decide),λp8 O7=>?_⟩;have np8:=vB.rH O7;refine⟨_,rfl,fe,5,rfl,vB.new O7 _,by decide,by decide,λi8 H8 m0 m1 vA FD=>?_⟩;have xU:Ext fe H7 H8:=((Ext.refl fe H7).new O7 _).trans FD;have tu8:fT H7 H8:=((fT.refl _).new O7 _).trans ((vB.new O7 _).lN FD);obtain⟨wa,ws,hw,nw,ev8⟩:∃wa ws,tS H8 wa ws/\wa≠fe/\rT [V.ref u,.ref u,.ref u,.ref u,.ref vl] i8=some (.ref wa):=by
    have c:i8=0\/i8=1\/i8=2\/i8=3\/i8=4:=by lia
    rcases c with rfl|rfl|rfl|rfl|rfl
    ·exact⟨u,us,rg nu xU yP,nu,rfl⟩
    ·exact⟨u,us,rg nu xU yP,nu,rfl⟩
    ·exact⟨u,us,rg nu xU yP,nu,rfl⟩
    ·exact⟨u,us,rg nu xU yP,nu,rfl⟩
    ·exact⟨vl,nM,rg yG xU hV7,yG,rfl⟩
   refine⟨_,_,_,_,rfl,rfl,bp.of (FD _ _ np8 au),ev8,?_⟩;show T7 _ _ _;subst e7;have HZ:=xU _ _ nt KD;have Ov:(ws.map V.str).length=ws.length:=ag _;have hw1:=hw.2.1;have HU:=hw.2.2.1;refine⟨_,rfl,.inl ⟨rfl,_,bp.of HZ⟩,_,rfl,_,rfl,_,rfl,_,_,rfl,.inl ⟨_,bp.of hw.1,rfl⟩,fe,_,rfl,vA,by lia,by lia,λi9 H9 n0 n1 Iz DC=>?_⟩;obtain⟨z9,sR,ev9⟩:=B1 (zs:=ws) n0 (by lia);have Y1:=DC _ _ nt HZ;refine⟨_,_,_,_,rfl,rfl,bp.of (DC _ _ nw hw.1),ev9,_,_,_,rfl,rfl,Y1,by rw[ag];exact bK (by lia),?_⟩;have tu9:fT H7 (upd H9 t (.lst (ts.map V.str++[.str z9]))):=(tu8.trans (vA.lN DC)).lst Y1 _;refine⟨_,_,ts++[z9],rfl,Iz.lst Y1 nt _,(pU.trans (xU.trans DC)).own Ua _,?_,F8.keep tu9,⟨?_,yP.2⟩,by rw[au,aQ];rfl,by rw[aK,bQ];rfl,λz h=>?_⟩
   ·rw[aw nta];exact DC _ _ na (xU _ _ na BA)
   ·rw[aw nut];exact DC _ _ nu (xU _ _ nu yP.1)
   ·rcases bf.mp h with q|q
    ·exact kT z q
    ·rw[ay.mp q];exact hw.2.2.2 z9 sR
  ·rintro Z H7 ⟨y9,Ge,ts,rfl,vB,pU,BA,F8,yP,KD,bQ,kT⟩;show T6 _ _ _;subst e6;refine⟨_,rfl,.inl ⟨rfl,_,bp.of BA⟩,_,rfl,_,rfl,_,_,rfl,.inl ⟨bp.of KD,λtt ot=>?_⟩⟩;refine⟨(by show 2<=sizeLine;decide),λap Bz=>?_⟩;have Bh:=vB.rH ot;have vA:=vB.new ot (.tup (ts.map V.str));have nap:=vA.rH Bz;have Fz:upd (upd H7 tt (.tup (ts.map V.str))) ap (.tup [.str z,.ref tt]) at'=some (.lst fk):=by rw[aw (aW (by rw[aw (aW BA ot)];exact BA) Bz),aw (aW BA ot)];exact BA
   have la:fk.length=ba.length:=bB F8;refine⟨_,_,_,rfl,rfl,Fz,bK (by lia),?_⟩;have tu:fT H7 (upd (upd (upd H7 tt (.tup (ts.map V.str))) ap (.tup [.str z,.ref tt])) at' (.lst (fk++[.ref ap]))):=(((fT.refl _).new ot _).new Bz _).lst Fz _;have ab1:tt≠at':=(aW BA ot).symm;have ab0:ap≠at':=λe=>by rw[e,aw (aW BA ot),BA]at Bz;cases Bz
   have abZ:tt≠ap:=λe=>by rw[<-e,au]at Bz;cases Bz
   refine⟨_,_,_,_,_,fk++[.ref ap],ba++[(z,ts)],rfl,(vA.new Bz _).lst Fz na _,((pU.new ot _).new Bz _).own ac2 _,au,Paired.Lu (F8.keep tu) ⟨ap,tt,rfl,?_,?_⟩,by rw[aK,hlen];rfl,λJM h=>?_,⟨?_,yP.2⟩⟩
   ·rw[aw ab0,au]
   ·rw[aw ab1,aw abZ,au]
   ·rcases bf.mp h with q|q
    ·exact good JM q
    ·rw[ay.mp q];exact⟨by show ts.length<=4;lia,kT,by show 1<=ts.length;lia,Zd z hz⟩
   ·rw[aw nua,aw (aW (by rw[aw (aW yP.1 ot)];exact yP.1) Bz),aw (aW yP.1 ot)];exact yP.1
 ·rintro Z H4 ⟨x6,x7,x8,x9,yB,fk,ba,rfl,wX,wZ,Px,lP,hlen,good,hU4⟩;have la:fk.length=ba.length:=bB lP;show T3 _ _ _;subst e3;refine jw λT8 e8=>?_;refine⟨(by show 0<=sizeLine;decide),λsm KG=>?_⟩;have Tf:=wX.rH KG;have acI:H sm=none:=wZ.none Tf KG;have XZ:at'≠sm:=aW Px KG;show T8 _ _ _;subst e8;refine jw λT11 e11=>?_;refine⟨_,rfl,at',rfl,⟨fk,bp.of (by rw[aw XZ];exact Px)⟩,mM (K:=K) (a:=at') (xs:=fk)
   (λi Z H5=>∃(x7 x8:Option V),Z=[some (.ref fe),some (.ref nl),some (.ref vl),some (.int most),some (.ref u),some (.ref at'),x6,x7,x8,x9,some (.ref sm),none]/\dY K fe H5/\Ext fe H H5/\H5 at'=some (.lst fk)/\fX H5 fk ba/\H5 sm=some (.lst ((cc (ba.take i)).map V.str)))
   ⟨x7,x8,rfl,wX.new KG _,wZ.new KG _,by rw[aw XZ];exact Px,lP.keep ((fT.refl _).new KG _),au⟩ (λi Z H5 _ hq=>by(obtain⟨_,_,_,_,_,h,_⟩:=hq;exact bp.of h)) ?_ ?_⟩
  ·rintro i x Z H5 hx ⟨x7,x8,rfl,qw,mf,IA,F9,zQ⟩;obtain⟨ta,ht,p,t,rfl,O8,TY⟩:=Paired.at F9 hx;refine⟨p,_,rfl,bE.of O8,rfl,_,_,rfl,_,_,rfl,rfl,?_⟩;have g:=good ta (aC ht);have lf:=HE good i;have hi:i<ba.length:=(aq.mp ht).1;refine⟨_,rfl,.inl ⟨rfl,_,bp.of zQ⟩,_,rfl,_,_,_,_,rfl,rfl,zQ,bE.of TY,?_,?_⟩
   ·rw[ag,ag];exact bu (bK (by lia))
   ·refine⟨_,_,rfl,qw.lst zQ Tf _,mf.own acI _,by rw[aw XZ];exact IA,F9.keep ((fT.refl _).lst zQ _),?_⟩;rw[au,xT ht,aQ]
  ·rintro Z H5 ⟨x7,x8,rfl,qw,mf,IA,F9,zQ⟩;rw[la,a9]at zQ;have lf:=HE good ba.length;rw[a9]at lf;show T11 _ _ _;subst e11;refine jw λT9 e9=>?_;refine⟨(by show 0<=sizeLine;decide),λhd uG=>?_⟩;have Tj:=qw.rH uG;have acX:H hd=none:=mf.none Tj uG;have nha:at'≠hd:=aW IA uG;have nhs:sm≠hd:=aW zQ uG;show T9 _ _ _;subst e9;refine jw λT10 e10=>?_;refine⟨_,rfl,fe,5,rfl,qw.new uG _,by decide,by decide,λi7 H7 o0 o1 vB pU=>?_⟩;have tu7:fT H5 H7:=((fT.refl _).new uG _).trans ((qw.new uG _).lN pU);refine⟨_,rfl,by lia,by lia,mL (lo:=0) (n:=i7.toNat)
    (λi Z H8=>∃(y6:Option V)(hs:List Str),Z=[some (.ref fe),some (.ref nl),some (.ref vl),some (.int most),some (.ref u),some (.ref at'),y6,x7,x8,x9,some (.ref sm),some (.ref hd)]/\dY K fe H8/\Ext fe H H8/\H8 at'=some (.lst fk)/\fX H8 fk ba/\H8 sm=some (.lst ((cc ba).map V.str))/\H8 hd=some (.lst (hs.map V.str))/\hs.length=i/\∀z∈hs,z∈ij/\(bT z=true->z∈cc ba)) ?_ ?_ ?_⟩
   ·exact⟨x6,[],rfl,vB,(mf.new uG _).trans pU,pU _ _ na (by rw[aw nha];exact IA),F9.keep tu7,pU _ _ Tf (by rw[aw nhs];exact zQ),pU _ _ Tj au,rfl,λz h=>by cases h⟩
   ·rintro i Z H8 hi ⟨y6,hs,rfl,vA,FD,Fz,Mh,Ib,Md,Pf,zP⟩;have KY:tS H8 vl nM:=rg yG FD Bt;have hv1:=KY.2.1;have HV:=KY.2.2.1;have l1:((cc ba).map V.str).length=(cc ba).length:=ag _;have l2:(nM.map V.str).length=nM.length:=ag _;refine⟨_,rfl,.inl ⟨rfl,_,bp.of Md⟩,_,rfl,_,rfl,_,_,_,_,rfl,rfl,Ib,KY.1,by rw[l1,l2];exact bu (bK (by lia)),λp9 Ig=>?_⟩;have np9:=vA.rH Ig;refine⟨_,rfl,_,rfl,_,_,rfl,.inl ⟨_,bp.of (by rw[aw (aW Ib Ig)];exact Ib),rfl⟩,_,rfl,_,_,rfl,.inl ⟨_,bp.of (by rw[aw (aW KY.1 Ig)];exact KY.1),rfl⟩,_,_,rfl,rfl,fe,_,rfl,vA.new Ig _,by lia,by lia,λTJ se r0 r1 Ml RZ=>?_⟩;have acM:=RZ _ _ np9 au;have Gb:Ext fe H8 se:=((Ext.refl fe H8).new Ig _).trans RZ;have abv:fT H8 se:=((fT.refl _).new Ig _).trans ((vA.new Ig _).lN RZ);obtain⟨v',hv⟩:∃v,((cc ba).map V.str++nM.map V.str)[TJ.toNat]?=some v:=⟨_,ar (by rw[aK];lia)⟩;obtain⟨v,rfl,Bt⟩:∃z:Str,v'=.str z/\z∈ij/\(bT z=true->z∈cc ba):=by
     rcases bf.mp (aC hv)with h|h
     ·obtain⟨z,hz,rfl⟩:=aM.mp h;exact⟨z,rfl,Ra good z hz,λ_=>hz⟩
     ·obtain⟨z,hz,rfl⟩:=aM.mp h;refine⟨z,rfl,KY.2.2.2 z hz,λhu=>?_⟩;have:=dA.mp UZ z (hvp z hz);rw[hu]at this;cases this
    have ev:rT ((cc ba).map V.str++nM.map V.str) TJ=some (.str v):=by
     have e:TJ=((TJ.toNat:Nat):Int):=by lia
     rw[e];exact iM hv
    have Me:=Gb _ _ Tj Md;refine⟨_,_,_,_,rfl,rfl,bp.of acM,ev,_,_,_,rfl,rfl,Me,by rw[ag];exact bK (by lia),?_⟩;exact⟨_,hs++[v],rfl,Ml.lst Me Tj _,(FD.trans Gb).own acX _,by rw[aw nha];exact Gb _ _ na Fz,Mh.keep (abv.lst Me _),by rw[aw nhs];exact Gb _ _ Tf Ib,by rw[au,aQ];rfl,by rw[aK,Pf];rfl,λz h=>by
     rcases bf.mp h with h|h
     ·exact zP z h
     ·rw[ay.mp h];exact Bt⟩
   ·rintro Z H8 ⟨y6,hs,rfl,vA,FD,Fz,Mh,Ib,Md,Pf,zP⟩;show T10 _ _ _;subst e10;refine⟨_,rfl,_,_,rfl,.inl ⟨bp.of Md,λth TX=>?_⟩⟩;have hA9:upd H8 th (.tup (hs.map V.str)) at'=some (.lst fk):=by rw[aw (aW Fz TX)];exact Fz
    refine⟨_,rfl,_,_,rfl,.inl ⟨bp.of hA9,λta Dj=>?_⟩⟩;refine⟨(by show 2<=sizeLine;decide),λq hq=>?_⟩;have Iz:=(vA.new TX (.tup (hs.map V.str))).new Dj (.tup fk);have n1:th≠ta:=λe=>by rw[<-e,au]at Dj;cases Dj
    have n2:ta≠q:=λe=>by rw[<-e,au]at hq;cases hq
    have n3:th≠q:=λe=>by rw[<-e,aw n1,au]at hq;cases hq
    refine k q hs ba _ (Iz.new hq _) (((FD.new TX _).new Dj _).new hq _) ⟨q,th,ta,fk,rfl,au,?_,?_,Mh.keep ((((fT.refl _).new TX _).new Dj _).new hq _)⟩ (by lia) (by lia) good ⟨by lia,zP⟩
    ·rw[aw n3,aw n1,au]
    ·rw[aw n2,au]
structure En where
 nm:Str
 ad:Addr
 ys:List V
 rows:List (List Str)
def gw(e:En):Key×V:=(Sum.inr e.nm,.ref e.ad)
def CI(f:Addr)(H:Hp)(e:En):Prop:=e.nm∈Ea/\e.ad≠f/\H e.ad=some (.lst e.ys)/\oN f H e.ys e.rows/\(∀r∈e.rows,nF r)/\e.rows.length<=7
def Ai(f:Addr)(H:Hp)(d:Addr)(es:List En):Prop:=d≠f/\H d=some (.dK (es.map gw))/\(es.map (·.nm)).Nodup/\es.length<=4/\∀e∈es,CI f H e
variable{f d:Addr}{H H':Hp}
theorem PM:∀{kvs:List (Key×V)},(∀kv∈kvs,Aj f H kv)->∃es:List En,kvs=es.map gw/\∀e∈es,CI f H e
 |[],_=>⟨[],rfl,λe h=>by cases h⟩
 |kv::r,h=>by
  obtain⟨es,e1,h1⟩:=PM (kvs:=r) λkv hk=>h kv (aD _ hk);obtain⟨z,a,ys,rows,e2,hz,na,ha,hr,hg,hl⟩:=h kv aA;refine⟨⟨z,a,ys,rows⟩::es,by rw[aX,<-e1,e2];rfl,λe he=>?_⟩;rcases aI.mp he with rfl|he
  ·exact⟨hz,na,ha,hr,hg,hl⟩
  ·exact h1 e he
def Og(es:List En):(es.map gw).map (·.1)=(es.map (·.nm)).map (Sum.inr:Str->Key):=by rw[cx,cx];rfl
def Fd{l:List Str}:(l.map (Sum.inr:Str->Key)).Nodup↔l.Nodup:=by
 induction l with
 |nil=>exact⟨λ_=>kP,λ_=>kP⟩
 |cons a r ih=>
  rw[aX,du,du,ih];refine and_congr_left λ_=>not_congr ⟨λh=>?_,λh=>lR h⟩;obtain⟨b,hb,e⟩:=aM.mp h;cases e;exact hb
def TabAt.tabs(h:TabAt f H d kvs):∃es,kvs=es.map gw/\Ai f H d es:=by obtain⟨n,hd,nd,hl,he⟩:=h;obtain⟨es,rfl,ho⟩:=PM he;rw[Og]at nd;exact⟨es,rfl,n,hd,Fd.mp nd,by rw[ag]at hl;exact hl,ho⟩
def CI.keep(h:CI f H e)(x:Ext f H H'):CI f H' e:=⟨h.1,h.2.1,x _ _ h.2.1 h.2.2.1,nh h.2.2.2.1 x,h.2.2.2.2⟩
def Ai.keep(h:Ai f H d es)(x:Ext f H H'):Ai f H' d es:=⟨h.1,x _ _ h.1 h.2.1,h.2.2.1,h.2.2.2.1,λe he=>(h.2.2.2.2 e he).keep x⟩
theorem AF:∀{es:List En},(es.map (·.nm)).Nodup->∀{e:En},e∈es->eI (es.map gw) (Sum.inr e.nm)=some (.ref e.ad)
 |[],_,e,h=>by cases h
 |a::r,nd,e,h=>by
  rw[aX,du]at nd;rcases aI.mp h with rfl|h
  ·exact gL rfl
  ·have ne:¬(gw a).1=Sum.inr e.nm:=λq=>nd.1 (by
    have:a.nm=e.nm:=by injection q
    rw[this];exact lR h)
   rw[aX,gg ne];exact AF nd.2 h
theorem Gi:∀{es:List En}{z:Str},z∉es.map (·.nm)->eI (es.map gw) (Sum.inr z:Key)=none
 |[],_,_=>rfl
 |a::r,z,h=>by rw[aX,aI]at h;have ne:¬(gw a).1=Sum.inr z:=λq=>h (.inl (by injection q with q;exact q.symm));rw[aX,gg ne];exact Gi λq=>h (.inr q)
def cW(es:List En)(z:Str):List (List Str):=match es.find? (λe=>decide (e.nm=z))with
 |some e=>e.rows
 |none=>[]
theorem GP:∀{es:List En},(es.map (·.nm)).Nodup->∀{e:En},e∈es->cW es e.nm=e.rows
 |[],_,e,h=>by cases h
 |a::r,nd,e,h=>by
  rw[aX,du]at nd;unfold cW;rcases aI.mp h with rfl|h
  ·rw[dQ (p:=λx:En=>decide (x.nm=e.nm)) (aU rfl)]
  ·have ne:¬decide (a.nm=e.nm)=true:=λq=>nd.1 (by
    rw[br q];exact lR h)
   rw[dR (p:=λx:En=>decide (x.nm=e.nm)) ne];exact GP nd.2 h
end
section
variable{P:Program}{w:World}{K:Frag}{mg:Str->Option Value}{base:Heap}
structure ik(K:Frag)(H:Hp)(p:Addr)(fs:List En):Prop where
 at_:H p=some (.dK (fs.map gw))
 nm:(fs.map (·.nm)).Nodup
 en:∀e∈fs,H e.ad=some (.lst e.ys)/\eB K H e.ys e.rows/\e.rows.length<=7/\∀r∈e.rows,nF r
def ip(h:eB K H ys rows)(s:bG H H'):eB K H' ys rows:=h.keep λa xs q=>by
 rcases q with(q|⟨o,q⟩)|q
 ·exact .inl (.inl (s _ _ q))
 ·exact .inl (.inr ⟨o,s _ _ q⟩)
 ·exact .inr q
def iT(q:bE K H a xs)(s:bG H H'):bE K H' a xs:=by
 rcases q with(q|⟨o,q⟩)|q
 ·exact .inl (.inl (s _ _ q))
 ·exact .inl (.inr ⟨o,s _ _ q⟩)
 ·exact .inr q
def ik.same(x:ik K H p fs)(s:bG H H'):ik K H' p fs:=⟨s _ _ x.at_,x.nm,λe he=>by obtain⟨h1,h2,h3⟩:=x.en e he;exact⟨s _ _ h1,ip h2 s,h3⟩⟩
def IB(x:ik K H p fs)(h0:H l0=some (.lst []))(z:Str):∃q ys,(eI (fs.map gw) (Sum.inr z:Key)).getD (.ref l0)=.ref q/\H q=some (.lst ys)/\eB K H ys (cW fs z)/\(cW fs z).length<=7/\∀r∈cW fs z,nF r:=by
 cases q:fs.find? (λe=>decide (e.nm=z))with
 |none=>
  have n:z∉fs.map (·.nm):=λh=>by obtain⟨e,he,rfl⟩:=aM.mp h;have:=List.find?_eq_none.mp q e he;exact this (aU rfl)
  have er:cW fs z=[]:=by unfold cW;rw[q]
  rw[er,Gi n];exact⟨l0,[],rfl,h0,.nil,aO _,λr h=>by cases h⟩
 |some e=>
  have he:=jk q;have e1:e.nm=z:=br (List.find?_some (p:=λe:En=>decide (e.nm=z)) q);subst e1;rw[AF x.nm he,GP x.nm he];obtain⟨h1,h2,h3,h4⟩:=x.en e he;exact⟨e.ad,e.ys,rfl,h1,h2,h3,h4⟩
inductive Gv(K:Frag)(vs:List V)(H:Hp)(Q:VK)(_x3:XK):Prop
 |mk (d:Addr) (fs:List En) (z:Str) (_:vs=[.ref d,.str z]) (_:ik K H d fs) (_:∀(l:Addr)(zs:List V)(H':Hp),bG H H'->H l=none->H' l=some (.lst zs)->eB K H' zs (vg (cW fs z))->Q (.ref l) H')
def Lw:cu ["tables","name"] ["tables","name"] (defScope zk):=jx (by decide+kernel)
def LM(F:eZ K "rows_of" "rows_of" zk f fd)(T:Txt K mg):cY P w K mg base fH 1 f fd ["tables","name"] (Gv K):=by
 refine F.ok Lw (λvs H Q E h=>?_) (λc6 A outer s H vs Q E hr h=>?_)
 ·obtain⟨a,b,c,rfl,_⟩:=h;rfl
 obtain⟨d,fs,z,rfl,hT,k⟩:=h;have hu:=iL hr;refine⟨_,(bj (cJ (cE (EF hr.hd) rfl T.B4 (by decide+kernel) (ao (dZ (P9 hr.hd hr.units) rfl T.aaY (by decide+kernel) (ao (uu hu (pv 0) (pv 1) (eO az) Tt) az)) az)))),?_⟩;refine⟨_,rfl,d,rfl,.inl ⟨_,.inl hT.at_⟩,_,rfl,(by show 0<=sizeLine;decide),λl0 qu=>?_⟩;have Nw:bG H (upd H l0 (.lst [])):=aL qu _;have h0:upd H l0 (.lst []) l0=some (.lst []):=au;generalize (upd H l0 (.lst []))=H0 at Nw h0⊢;obtain⟨q,ys,eq,hq,hR,KO,hg⟩:=IB (hT.same Nw) h0 z;refine⟨_,ki.k (k:=Sum.inr z) (Nw _ _ hT.at_),?_⟩;rw[eq];refine⟨q,ys,cW fs z,rfl,bp.of hq,hR,by lia,λa us ha0 nu mu lu TU=>?_⟩;have S1:bG H0 (upd H0 a (.ext (uO P w a us))):=aL ha0 _;have ha1:upd H0 a (.ext (uO P w a us)) a=some (.ext (uO P w a us)):=au;refine⟨a,us,ys,rfl,ha1,λx hx=>⟨iT (TU x hx).1 S1,(TU x hx).2⟩,λ_ x hx=>?_,by lia,λl zs hl uD _=>?_⟩
 ·have:=hg x.1 ((mu x.1).mp (lR hx));intro q;have:=this.1;rw[q]at this;cases this
 ·replace hl:upd H0 a (.ext (uO P w a us)) l=none:=hl
  have sm2:bG (upd H0 a (.ext (uO P w a us))) (upd (upd H0 a (.ext (uO P w a us))) l (.lst zs)):=aL hl _;have sm:=Nw.trans (S1.trans sm2);rw[BM nu mu]at uD;refine k l zs _ sm ?_ au (ip uD sm2);cases q:H l with
  |none=>rfl
  |some o=>
   rw[S1 _ _ (Nw _ _ q)]at hl;cases hl
def step(acc:List Str)(t:Str):List Str:=if bT t=true then(if t∈acc then acc else acc++[t])else acc
def dH(fl:List Str):List Str:=fl.foldl step []
def Rh(acc:List Str)(t:Str):(step acc t).length<=acc.length+1:=by
 unfold step;split
 ·split
  ·lia
  ·rw[aK];exact ak _
 ·lia
theorem HD:∀(fl acc:List Str),(fl.foldl step acc).length<=acc.length+fl.length
 |[],acc=>by simp
 |t::r,acc=>by have h1:=HD r (step acc t);have h2:=Rh acc t;rw[j9,bH];lia
def Ep(fl:List Str):(dH fl).length<=fl.length:=by have:=HD fl [];simpa[dH]using this
def Gk(fl:List Str)(t:Str):dH (fl++[t])=step (dH fl) t:=by unfold dH;rw[A6];rfl
def pN(acc:List Str):List (Key×V):=acc.map λt=>(Sum.inr t,V.bl true)
def any_keys(acc:List Str)(t:Str):((pN acc).any λkv=>decide (kv.1=(Sum.inr t:Key)))=decide (t∈acc):=by
 unfold pN;rw[List.any_map,gY,jI];constructor
 ·rintro⟨x,hx,e⟩;have e':(Sum.inr x:Key)=Sum.inr t:=br e;injection e' with e';exact aU (e'▸hx)
 ·intro h;exact⟨t,br h,aU rfl⟩
def GV(acc:List Str)(t:Str):putK (pN acc) (Sum.inr t:Key) (V.bl true)=pN (if t∈acc then acc else acc++[t]):=by
 unfold putK;rw[any_keys];by_cases h:t∈acc
 ·rw[aU h,aB rfl,aB h];unfold pN;rw[cx];refine cH λx _=>?_;show(if(Sum.inr x:Key)=Sum.inr t then((Sum.inr x:Key),V.bl true)else(Sum.inr x,V.bl true))=_;split<;>rfl
 ·rw[bt h,ax aT,ax h];unfold pN;rw[aQ];rfl
def OD(acc:List Str):((pN acc).map λkv=>kV kv.1)=acc.map V.str:=by unfold pN;rw[cx];rfl
def GoodG(ba:List (Str×List Str)):Prop:=∀a∈ba,a.2.length<=4/\∀z∈a.2,z.length<=1000
inductive Nk(vs:List V)(H:Hp)(Q:VK)(_x3:XK):Prop
 |mk (v:V) (hz:List Str) (ba:List (Str×List Str)) (_:vs=[v]) (_:rX H v hz ba) (_:GoodG ba) (_:ba.length<=100) (_:∀(r:Addr)(H':Hp),bG H H'->H r=none->H' r=some (.lst ((dH (cc ba)).map V.str))->Q (.ref r) H')
def Ot(h:z∈acc):z∈step acc t:=by
 unfold step;split
 ·split
  ·exact h
  ·exact cX _ h
 ·exact h
def Oq(h:bT z=true):z∈step acc z:=by
 unfold step;rw[aB h];split
 ·assumption
 ·exact bN _ (ay.mpr rfl)
theorem Ff:∀{fl acc:List Str},z∈acc\/(bT z=true/\z∈fl)->z∈fl.foldl step acc
 |[],acc,h=>by
  rcases h with h|⟨_,h⟩
  ·exact h
  ·cases h
 |t::r,acc,h=>by
  rw[j9];refine Ff ?_;rcases h with h|⟨hu,h⟩
  ·exact .inl (Ot h)
  ·rcases aI.mp h with e|h
   ·subst e;exact .inl (Oq hu)
   ·exact .inr ⟨hu,h⟩
def VT(hu:bT z=true)(h:z∈fl):z∈dH fl:=Ff (.inr ⟨hu,h⟩)
def AN(z:Str)(l:List Str):TH (.str z) (l.map V.str)=decide (z∈l):=by
 unfold TH;rw[List.any_map,gY,jI];constructor
 ·rintro⟨y,hy,e⟩;have e':(y==z)=true:=e;rw[jq e']at hy;exact aU hy
 ·intro h;exact⟨z,br h,by show(z==z)=true;simp⟩
def vC(acc:List Str):(acc.map V.str).all tM=true:=by rw[List.all_map];exact dA.mpr λ_ _=>rfl
def g8{zs:List Str}{i:Nat}(h:(zs.map V.str)[i]?=some y):∃z,zs[i]?=some z/\y=V.str z:=by
 rw[aJ]at h;cases e:zs[i]? with
 |none=>rw[e]at h;cases h
 |some z=>rw[e]at h;exact⟨z,rfl,(bL h).symm⟩
theorem tW:∀{fl acc:List Str},z∈fl.foldl step acc->z∈acc\/z∈fl
 |[],acc,h=>.inl h
 |t::r,acc,h=>by
  rw[j9]at h;rcases tW h with h|h
  ·unfold step at h;split at h
   ·split at h
    ·exact .inl h
    ·rcases bf.mp h with h|h
     ·exact .inl h
     ·exact .inr (aI.mpr (.inl (ay.mp h)))
   ·exact .inl h
  ·exact .inr (aD _ h)
end
structure Dv2(P:Program)(w:World)(K:Frag)(mg:Str->Option Value)(base:Heap):Prop extends Dv P w K mg base where
 is_unknown:dW P w K mg base 2 "is_unknown" ["thing"] SX
section
variable{P:Program}{w:World}{K:Frag}{mg:Str->Option Value}{base:Heap}
def m9:cu ["question","found","atom","term"] ["question"] (defScope sj):=jx (by decide+kernel)
def El(F:eZ K "unknowns_of" "unknowns_of" sj f fd)(T:Txt K mg)(D:Dv2 P w K mg base):cY P w K mg base fH 3 f fd ["question"] Nk:=by
 refine F.ok m9 (λvs H Q E h=>?_) (λc6 A outer s H vs Q E hr h=>?_)
 ·obtain⟨a,b,c,rfl,_⟩:=h;rfl
 obtain⟨v,hz0,ba,rfl,⟨q,hd,aa,fk,rfl,hq,uG,wW,lP⟩,good,hlen,k⟩:=h;have hu:=iL hr;refine⟨_,(aP (fM 1 m9 kZ)
   (aP (eJ bF rfl (mG (dF rK (pv 0) bq (λ_ _=>rfl))) (iz 2 m9)
   (bj (eJ bF rfl (mG (dF rK (pv 2) bq (λ_ _=>rfl))) (iz 3 m9)
   (bj (iq (wt (cl D.is_unknown hr (ao (pv 3) az))) (bj (wx hu (pv 1) (pv 3) qY rfl)) eU)))))
   (bj (cJ (dZ (EG rfl) rfl T.zF (by decide+kernel) (ao (pv 1) az)))))),?_⟩
 have la:fk.length=ba.length:=bB lP;intro d h9;refine⟨_,rfl,_,_,_,_,rfl,rfl,bE.of (aL h9 _ _ _ hq),rfl,aa,rfl,⟨fk,bE.of (aL h9 _ _ _ wW)⟩,AR (K:=K) (a:=aa) (xs:=fk)
  (λi Z H2=>∃(x2 x3:Option V),Z=[some (.ref q),some (.ref d),x2,x3]/\bG H H2/\H2 d=some (.dK (pN (dH (cc (ba.take i)))))) ⟨none,none,rfl,aL h9 _,au⟩ (λi Z H2 _ hq=>by(obtain⟨_,_,_,sm,_⟩:=hq;exact bE.of (sm _ _ wW))) ?_ ?_⟩
 ·rintro i x Z H2 hx ⟨x2,x3,rfl,sm,hd2⟩;obtain⟨ta,ht,p,t,rfl,hp,ot⟩:=Paired.at lP hx;have g:=good ta (aC ht);have hi:i<ba.length:=(aq.mp ht).1;have lf:=AL (ba.take i) λa ha=>(good a (jj ha)).1;have lti:(ba.take i).length<=i:=by rw[aS];lia
  refine⟨_,rfl,_,_,_,_,rfl,rfl,bE.of (sm _ _ hp),rfl,t,rfl,⟨_,bE.of (sm _ _ ot)⟩,AR (K:=K) (a:=t) (xs:=ta.2.map V.str)
   (λj Z H3=>∃(x3:Option V),Z=[some (.ref q),some (.ref d),some (.ref p),x3]/\bG H H3/\H3 d=some (.dK (pN (dH (cc (ba.take i)++ta.2.take j))))) ⟨x3,rfl,sm,by rw[List.take_zero,cj];exact hd2⟩ (λj Z H3 _ hq=>by(obtain⟨_,_,sm',_⟩:=hq;exact bE.of (sm' _ _ ot))) ?_ ?_⟩
  ·rintro j y Z H3 hy ⟨x3,rfl,yD,KW⟩;obtain⟨z,hz,rfl⟩:=g8 hy;have sR:=g.2 z (aC hz);have hj:j<ta.2.length:=(aq.mp hz).1;refine⟨_,rfl,z,rfl,by lia,λH4 Xk=>⟨_,rfl,?_⟩⟩;have Um:=Xk _ _ KW;have en:dH (cc (ba.take i)++ta.2.take (j+1))=step (dH (cc (ba.take i)++ta.2.take j)) z:=by rw[aZ,hz,<-Gk,b9];rfl
   have lu:=Ep (cc (ba.take i)++ta.2.take j);rw[aK,aS]at lu;refine fm (λc1=>?_) (λc1=>?_)
   ·refine⟨_,rfl,_,rfl,d,_,rfl,AA.k (k:=Sum.inr z) Um (by unfold pN;rw[ag];exact bK (by lia)),?_⟩;refine⟨_,rfl,λb u e=>?_,?_⟩
    ·rw[aw (aW e h9)];exact Xk _ _ (yD _ _ e)
    ·rw[au,GV,en];unfold step;rw[aB c1]
   ·refine⟨_,rfl,yD.trans Xk,?_⟩;rw[en];unfold step;rw[ax c1];exact Um
  ·rintro Z H3 ⟨x3,rfl,yD,KW⟩;refine⟨_,_,rfl,yD,?_⟩;rw[ag,a9]at KW;rw[xT ht];exact KW
 ·rintro Z H2 ⟨x2,x3,rfl,sm,hd2⟩;rw[la,a9]at hd2;refine⟨_,rfl,d,_,rfl,hd2,λl hl=>?_⟩;refine k l _ (sm.trans (aL hl _)) (sm.free hl) ?_;rw[au,OD]
def placesK(us:List Str):List (Key×V):=us.zipIdx.map λx=>(Sum.inr x.1,V.int (x.2:Int))
end
inductive Gw(K:Frag)(vs:List V)(H:Hp)(Q:VK)(_x3:XK):Prop
 |mk (l:Addr) (us:List Str) (_:vs=[.ref l]) (_:bp K H l (us.map V.str)) (_:us.Nodup) (_:us.length<=100) (_:∀(r:Addr)(H':Hp),bG H H'->H r=none->H' r=some (.dK (placesK us))->Q (.ref r) H')
def xk(nd:us.Nodup):eI (placesK us) (Sum.inr t:Key)=if t∈us then some (V.int (us.idxOf t:Int))else none:=by
 have gen:∀(us:List Str)(n:Nat),eI ((us.zipIdx n).map λx=>((Sum.inr x.1:Key),V.int (x.2:Int))) (Sum.inr t)=if t∈us then some (V.int ((us.idxOf t+n:Nat):Int))else none:=by
  intro us
  induction us with
  |nil=>intro n;rfl
  |cons u us ih=>
   intro n;rw[jB,aX];by_cases e:u=t
   ·subst e;rw[gL rfl,aB aA,yq,An]
   ·rw[gg (λz=>e (BH z)),ih (n+1)];by_cases m:t∈us
    ·rw[aB m,aB (aD _ m),List.idxOf_cons,show(u==t)=false from beq_false_of_ne e,cond_false,Nat.add_right_comm,oP]
    ·rw[ax m,ax λz=>(aI.mp z).elim (λz=>e z.symm) m]
 have:=gen us 0;rw[jA]at this;exact this
def Jj{us:List Str}(nd:us.Nodup)(h:us[i]?=some u):putK (placesK (us.take i)) (Sum.inr u:Key) (V.int (i:Int))=placesK (us.take (i+1)):=by
 obtain⟨hi,e⟩:=aq.mp h;have nm:u∉us.take i:=λz=>by obtain⟨j,hj,ej⟩:=dN.mp z;rw[aS]at hj;rw[A5]at ej;exact dU.mp nd j i (by lia) hi (by lia) (by rw[ej,e])
 rw[GX _ (by rw[xk (nd.sublist (A4 _ _)),ax nm])];unfold placesK;rw[aZ,h,bI,List.zipIdx_append,aQ,aS,gW (by lia)];simp
section
variable{P:Program}{w:World}{K:Frag}{mg:Str->Option Value}{base:Heap}
def fR(q:bp K H a xs)(s:bG H H'):bp K H' a xs:=by
 rcases q with(q|⟨o,q⟩)|q
 ·exact .inl (.inl (s _ _ q))
 ·exact .inl (.inr ⟨o,s _ _ q⟩)
 ·exact .inr q
def pB:cu ["unknowns","places","place","unknown"] ["unknowns"] (defScope vN):=jx (by decide+kernel)
def Hn(F:eZ K "places_of" "places_of" vN f fd)(T:Txt K mg):cY P w K mg base fH 1 f fd ["unknowns"] (Gw K):=by
 refine F.ok pB (λvs H Q E h=>?_) (λc6 A outer s H vs Q E hr h=>?_)
 ·obtain⟨a,b,rfl,_⟩:=h;rfl
 obtain⟨l,us,rfl,hl,nd,lu,k⟩:=h;have hu:=iL hr;refine⟨_,(aP (fM 1 pB kZ)
   (aP (eJ bF rfl (Kj rfl T.Bj (ao (pv 0) az)) (lE rfl (dk (iz 2 pB) (dk (iz 3 pB) jO)))
   (bj (wx hu (pv 1) (pv 3) (pv 2) rfl)))
   (bj (cJ (pv 1))))),?_⟩
 intro d h9;refine⟨_,rfl,l,rfl,⟨_,fR hl (aL h9 _)⟩,IE (K:=K) (a:=l) (xs:=us.map V.str)
  (λi Z H2=>∃(x2 x3:Option V),Z=[some (.ref l),some (.ref d),x2,x3]/\bG H H2/\H2 d=some (.dK (placesK (us.take i)))) ⟨none,none,rfl,aL h9 _,au⟩ (λi Z H2 _ ⟨_,_,_,sm,_⟩=>fR hl sm) ?_ ?_⟩
 ·rintro i x p Z H2 hx ⟨x2,x3,rfl,sm,hd2⟩ hp;obtain⟨z,hz,rfl⟩:=g8 hx;have hi:=(aq.mp hz).1;have yD:bG H2 (upd H2 p (.tup [.int i,.str z])):=aL hp _;refine⟨p,_,rfl,bE.of au,rfl,_,_,rfl,_,_,rfl,rfl,?_⟩;refine⟨_,rfl,_,rfl,_,rfl,d,_,rfl,AA.k (k:=Sum.inr z) (yD _ _ hd2) (by unfold placesK;rw[ag,List.length_zipIdx,aS];exact bK (by lia)),?_⟩;refine⟨_,_,rfl,λb u e=>?_,?_⟩
  ·rw[aw (aW e h9)];exact yD _ _ (sm _ _ e)
  ·rw[au,Jj nd hz]
 ·rintro Z H2 ⟨x2,x3,rfl,sm,hd2⟩;rw[ag,a9]at hd2;exact⟨_,rfl,k d H2 sm h9 hd2⟩
inductive J0(K:Frag)(vs:List V)(H:Hp)(Q:VK)(_x3:XK):Prop
 |mk (t d g:Addr) (ts us og:List Str) (_:vs=[.ref t,.ref d,.ref g]) (_:(bp K H t (ts.map V.str)\/bE K H t (ts.map V.str))) (_:H d=some (.dK (placesK us))) (_:us.Nodup) (_:bE K H g (og.map V.str)) (_:og.length=us.length) (_:ts.length<=100) (_:us.length<=100) (_:∀(r:Addr)(H':Hp),bG H H'->H r=none->H' r=some (.tup ((aV.image us og ts).map V.str))->Q (.ref r) H')
def QK:cu ["terms","places","given"] ["terms","places","given"] (defScope Ed):=jx (by decide+kernel)
def Q6(F:eZ K "image" "image" Ed f fd)(T:Txt K mg):cY P w K mg base fH 1 f fd ["terms","places","given"] (J0 K):=by
 refine F.ok QK (λvs H Q E h=>?_) (λc6 A outer s H vs Q E hr h=>?_)
 ·obtain⟨a,b,c,d,e,g,rfl,_⟩:=h;rfl
 obtain⟨t,d,g,ts,us,og,rfl,ht,hd,nd,hg,lv,lt,lu,k⟩:=h;have hu:=iL hr;rcases ht with ht|ht
 ·refine⟨_,(bj (cJ (dZ eR rfl T.jP (by decide+kernel) (ao (js rfl (dB (fs:=["places","given"]) (fr:=[1,2])) (gq (pv 0)) (λ_ _ _ _=>(Ha (GZ (Hh hu (pv 0) (pv 1))) (dF (wI (K:=K)) (pv 2) (AK hu (pv 1) (pv 0) (λ_ _=>rfl)) (λ_ _=>rfl)) (pv 0)))) az)))),?_⟩;refine⟨_,rfl,t,rfl,⟨_,ht⟩,j6 (K:=K) (a:=t) (xs:=ts.map V.str) (λi ys H2=>H2=H/\i<=ts.length/\ys=((ts.take i).map (aV.gf us og)).map V.str) (by rw[ag];exact bK (by lia)) ⟨rfl,aO _,rfl⟩ ?_ ?_ ?_⟩
  ·rintro i ys H2 hi ⟨rfl,_,rfl⟩;refine⟨ht,?_⟩;rw[ag,ag,aS];lia
  ·rintro i x ys H2 N hc ⟨rfl,hi,rfl⟩ hN;obtain⟨z,hz,rfl⟩:=g8 hc;have bQ:i<ts.length:=(aq.mp hz).1;refine iH ?_;refine⟨_,rfl,_,rfl,d,_,rfl,ki.k (k:=Sum.inr z) hd,_,rfl,?_⟩;have ap:((ts.take i).map (aV.gf us og)).map V.str++[V.str (aV.gf us og z)]=((ts.take (i+1)).map (aV.gf us og)).map V.str:=by rw[aZ,hz,aQ,aQ];rfl
   have ev:=xk (t:=z) nd;by_cases m:z∈us
   ·rw[aB m]at ev;have li:=cI m;have dg:=ki.k (k:=Sum.inr z) hd;rw[ev]at dg;refine fm (λ_=>?_) (λc=>absurd (by rw[ev];rfl) c);refine⟨_,rfl,_,rfl,_,rfl,d,_,rfl,dg,g,_,_,V.str (aV.gf us og z),rfl,rfl,hg,?_,hN _ _ ⟨rfl,bQ,ap⟩⟩;refine iM ?_;rw[aJ,ar (by lia)];unfold aV.gf;rw[aB m,cz,ar (by lia)];rfl
   ·rw[ax m]at ev;refine fm (λc=>by rw[ev]at c;cases c) (λ_=>?_);refine⟨_,rfl,hN _ _ ⟨rfl,bQ,?_⟩⟩;rw[<-ap];unfold aV.gf;rw[ax m]
  ·rintro ys H2 ⟨rfl,_,rfl⟩ l oB;rw[ag,a9];refine⟨l,_,rfl,.inl ⟨bp.of au,λp hp=>?_⟩⟩;exact k p _ ((aL oB _).trans (aL hp _)) ((aL oB _).free hp) au
 ·refine⟨_,(bj (cJ (dZ eR rfl T.jP (by decide+kernel) (ao (js rfl (dB (fs:=["places","given"]) (fr:=[1,2])) (mG (pv 0)) (λ_ _ _ _=>(Ha (GZ (Hh hu (pv 0) (pv 1))) (dF (wI (K:=K)) (pv 2) (AK hu (pv 1) (pv 0) (λ_ _=>rfl)) (λ_ _=>rfl)) (pv 0)))) az)))),?_⟩;refine⟨_,rfl,t,rfl,⟨_,ht⟩,uK (K:=K) (a:=t) (xs:=ts.map V.str) (λi ys H2=>H2=H/\i<=ts.length/\ys=((ts.take i).map (aV.gf us og)).map V.str) (by rw[ag];exact bK (by lia)) ⟨rfl,aO _,rfl⟩ ?_ ?_ ?_⟩
  ·rintro i ys H2 hi ⟨rfl,_,rfl⟩;refine⟨ht,?_⟩;rw[ag,ag,aS];lia
  ·rintro i x ys H2 N hc ⟨rfl,hi,rfl⟩ hN;obtain⟨z,hz,rfl⟩:=g8 hc;have bQ:i<ts.length:=(aq.mp hz).1;refine iH ?_;refine⟨_,rfl,_,rfl,d,_,rfl,ki.k (k:=Sum.inr z) hd,_,rfl,?_⟩;have ap:((ts.take i).map (aV.gf us og)).map V.str++[V.str (aV.gf us og z)]=((ts.take (i+1)).map (aV.gf us og)).map V.str:=by rw[aZ,hz,aQ,aQ];rfl
   have ev:=xk (t:=z) nd;by_cases m:z∈us
   ·rw[aB m]at ev;have li:=cI m;have dg:=ki.k (k:=Sum.inr z) hd;rw[ev]at dg;refine fm (λ_=>?_) (λc=>absurd (by rw[ev];rfl) c);refine⟨_,rfl,_,rfl,_,rfl,d,_,rfl,dg,g,_,_,V.str (aV.gf us og z),rfl,rfl,hg,?_,hN _ _ ⟨rfl,bQ,ap⟩⟩;refine iM ?_;rw[aJ,ar (by lia)];unfold aV.gf;rw[aB m,cz,ar (by lia)];rfl
   ·rw[ax m]at ev;refine fm (λc=>by rw[ev]at c;cases c) (λ_=>?_);refine⟨_,rfl,hN _ _ ⟨rfl,bQ,?_⟩⟩;rw[<-ap];unfold aV.gf;rw[ax m]
  ·rintro ys H2 ⟨rfl,_,rfl⟩ l oB;rw[ag,a9];refine⟨l,_,rfl,.inl ⟨bp.of au,λp hp=>?_⟩⟩;exact k p _ ((aL oB _).trans (aL hp _)) ((aL oB _).free hp) au
end
end K06
namespace L2
open PySem PySem.Spec PyProof.Rows
section
variable{K:Frag}{a b:Addr}{xs zs:List V}{fr:List Nat}{tt:TT}{te:TE}{Z:St}{H1:Hp}{R:Addr->List V->Hp->Prop}
def MO(Pv:Nat->List V->Hp->Prop)(hx:xs.length<sizeLine)(le:xs.length=zs.length)(h0:Pv 0 [] H1)(hl:∀i ys H,i<=xs.length->Pv i ys H->(bE K H a xs/\bE K H b zs)/\ys.length<=i)
  (hs:∀(i:Nat)(x z:V)(p:Addr)(ys:List V)(H:Hp)(N:List V->Hp->Prop),xs[i]?=some x->zs[i]?=some z->Pv i ys H->H p=none->(∀fY H',Pv (i+1) fY H'->N fY H')->
   tt (some x::some z::slotsOf fr Z) (upd H p (.tup [x,z])) λt H4=>if t=true then te (some x::some z::slotsOf fr Z) H4 (λy H5=>N (ys++[y]) H5)else N ys H4)
  (hd:∀ys H,Pv xs.length ys H->∀l,H l=none->R l ys H):Qm (Itz K a b) 2 fr (Ux K) tt te Z H1 R:=by
 refine⟨λi m ys H=>m=xs.length -i/\i<=xs.length/\Pv i ys H,⟨xs.length,by simp,aO _,h0⟩,?_⟩;rintro i m ys H ⟨rfl,hi,p⟩;obtain⟨⟨q1,q2⟩,hy⟩:=hl i ys H hi p;by_cases bQ:i<xs.length
 ·refine .inr ⟨⟨xs,zs,xs[i],zs[i]'(by lia),q1,q2,ar bQ,ar _⟩,by lia,?_⟩;rintro v H3 ⟨r,u,z,rfl,hr,rfl,y1,y2⟩ own ho;have h:=hs i u z r ys H (λfY H'=>∃m',m'<xs.length -i/\m'=xs.length -(i+1)/\i+1<=xs.length/\Pv (i+1) fY H') (y1 xs q1) (y2 zs q2) p hr λfY H' p'=>⟨_,by lia,rfl,bQ,p'⟩;exact VE ho rfl (bE.of au) ⟨[some u,some z],rfl,rfl,h⟩
 ·have e:i=xs.length:=by lia
  subst e;exact .inl ⟨⟨xs,q1,rfl⟩,by lia,hd ys H p⟩
end
end L2
namespace L2
open PySem PySem.Spec PyProof.Rows PySem.W
section
variable{X:Cx}
inductive Ke(K:Frag)(x:V)(vs:List V)(H:Hp)(Q:VK):Prop
 |mk (l:Addr) (zs:List Str) (z:Str) (j:Nat) (_:x=.ref l) (_:vs=[.str z]) (_:bE K H l (zs.map V.str)) (_:zs[j]?=some z) (_:(∀m,m<j->zs[m]?≠some z)) (_:Q (.int (j:Int)) H)
def Ol:Qh X "tuple.index" (Ke X.K):=by
 intro pins s Z H x vs v us Q I rx rv h;obtain⟨l,zs,z,j,rfl,rfl,hH,hj,Ii,q⟩:=h;cases rx;obtain⟨u,rfl,ru⟩:=rv.one;obtain⟨t,rfl⟩:=ru;obtain⟨aY,r,ht,hl⟩:=I.tuple hH;obtain⟨o,ho,hc,n,hd⟩:=ht;have lz:=r.length;rw[ag]at lz;have eat:∀m:Nat,m<aY.length->∃y t',aY[m]?=some (.str y t')/\zs[m]?=some y:=λm hm=>by
  have hz:m<zs.length:=by lia
  obtain⟨u',rN,t',rfl⟩:=r.get (i:=m) (x:=.str zs[m]) (by rw[aJ,ar hz];rfl);exact⟨zs[m],t',rN,ar hz⟩
 have ma:j<aY.length:=by have:=(aq.mp hj).1;lia
 refine bC F.slot_tuple_index ⟨_,ho,hc⟩ F.entry_tuple_index ?_ (F.args_tuple_index_2 _ _);unfold Builtin.«tuple.index»;refine ae (ah ?_);refine ae (ae (bS ho hd (ah ?_)));refine ae (ah (ae (ah ?_)));dsimp only;rw[Nat.min_self,lQ];have hsz:([0:aY.toArray.size]:Std.Legacy.Range).size=aY.length:=by simp[Std.Legacy.Range.size]
 refine ae (cR (jv _ (λl b s'=>∃m,l=List.range' m (aY.length -m) 1/\m<=j/\b=(none,())/\s'=s) (λb s'=>∃tk,b=(some (PySem.Fin.done (Flow.ret (.int j tk))),())/\s'={s with toks:=s.toks+1}) ?_ ?_ _ _ ⟨0,?_,aO _,rfl,rfl⟩) ?_ λ_ _ e=>e)
 ·rintro x rest b s' ⟨m,el,mj,rfl,rfl⟩;obtain⟨k,hk⟩:∃k,aY.length -m=k+1:=⟨aY.length -m -1,by lia⟩;rw[hk,List.range'_succ]at el;obtain⟨rfl,rfl⟩:=List.cons.inj el;obtain⟨y,t',e1,e2⟩:=eat x (by lia);have e3:aY.toArray[x]?=some (.str y t'):=by rw[<-e1];simp
  rw[e3];refine ae (DU.eq_str ?_);by_cases e:x=j
  ·subst e;rw[hj]at e2;cases e2;rw[aU rfl];exact ae (ae (Bb (ah (ah ⟨_,rfl,rfl⟩))))
  ·have ne:y≠z:=λq=>Ii x (by lia) (by rw[e2,q]);rw[bt ne];exact ah ⟨x+1,by rw[show aY.length -(x+1)=k by lia],by lia,rfl,rfl⟩
 ·rintro b s' ⟨m,el,mj,rfl,rfl⟩;have:aY.length -m=0:=by have:=cA List.length el;simpa using this.symm
  lia
 ·show List.range' 0 ([0:aY.toArray.size]:Std.Legacy.Range).size 1=_;rw[hsz];rfl
 ·rintro b s' ⟨tk,rfl,rfl⟩;exact ah ⟨_,rfl,⟨.int _,H,I.tok _,⟨_,rfl⟩,q⟩⟩
def xK{K:Frag}(h:X.K=K:=by rfl):Qh X "tuple.index" (Ke K):=h▸Ol
end
end L2
namespace K06
open PySem PySem.Spec PyProof.Rows L2 DU
seal L2.PE L2.PT L2.PW L2.PA L2.PS L2.kU L2.PI L2.PO L2.DV L2.PG L2.DW
inductive EW(K:Frag)(vs:List V)(H:Hp)(Q:VK)(_x3:XK):Prop
 |mk (r t:Addr) (rs ts:List Str) (_:vs=[.ref r,.ref t]) (_:bE K H r (rs.map V.str)) (_:H t=some (.tup (ts.map V.str))) (_:rs.length<=100) (_:ts.length<=100) (_:∀H',bG H H'->Q (.bl (aV.l9 rs ts)) H')
section
variable{P:Program}{w:World}{K:Frag}{mg:Str->Option Value}{base:Heap}
def Jh:cu ["row","terms"] ["row","terms"] (defScope xC):=jx (by decide+kernel)
def Jn(F:eZ K "is_image" "is_image" xC f fd)(T:Txt K mg):cY P w K mg base fH 1 f fd ["row","terms"] (EW K):=by
 refine F.ok Jh (λvs H Q E h=>?_) (λc6 A outer s H vs Q E hr h=>?_)
 ·obtain⟨a,b,c,d,rfl,_⟩:=h;rfl
 obtain⟨r,t,rs,ts,rfl,vt,Ua,lr,lt,k⟩:=h;have TZ:bE K H t (ts.map V.str):=bE.of Ua;have hu:=iL hr;refine⟨_,(aP (iq (dj aaW (cE fS rfl T.jg cq (ao (pv 0) az)) (cE fS rfl T.jg cq (ao (pv 1) az)) (fN _)) (bj (cJ qY)) eU)
   (bj (cJ (cE (w6 rfl) rfl T.Tq boot_all (ao (QY rfl (MM (more:=["value"]) (fs:=["row","terms"]) (fr:=[0,1])) (Vt rfl T.F6 (ao (pv 1) (ao (pv 0) az))) (λ_ _ _ _=>(Vw (K:=K) (n:=2) rfl (dk (G6 (i:=0)) (dk (G6 (i:=1)) jO)))) (λ_ _ _ _=>(Kn xG (dF (wI (K:=K)) (pv 2) (He (K:=K) mU mT mS xK (pv 3) (ao (pv 0) az)) (λ_ _=>rfl)) (pv 1) (fN _)))) az))))),?_⟩
 refine⟨_,rfl,_,_,rfl,.inr ⟨_,vt,rfl⟩,_,rfl,_,_,rfl,.inr ⟨_,TZ,rfl⟩,rfl,?_⟩;rw[ag,ag];refine⟨_,rfl,fm (λc=>?_) (λc=>?_)⟩
 ·have ne:rs.length≠ts.length:=λe=>by rw[e]at c;simp at c
  have e:aV.l9 rs ts=false:=by unfold aV.l9;rw[bt ne];rfl
  rw[e]at k;exact k H (λ_ _ x=>x)
 have le:rs.length=ts.length:=by
  by_cases e:rs.length=ts.length
  ·exact e
  ·have z:¬(V.int (rs.length:Int)=V.int (ts.length:Int)):=λz=>e (by injection z with z;lia);exact absurd (by rw[bt z];rfl) c
 refine⟨_,rfl,_,rfl,t,r,rfl,⟨_,TZ⟩,⟨_,vt⟩,MO (K:=K) (a:=t) (b:=r) (xs:=ts.map V.str) (zs:=rs.map V.str)
  (λi ys H2=>bG H H2/\i<=ts.length/\ys=(((ts.zip rs).take i).map λx=>decide (rs[ts.idxOf x.1]?=some x.2)).map V.bl) (by rw[ag];exact bK (by lia)) (by rw[ag,ag,le]) ⟨λ_ _ x=>x,aO _,rfl⟩ ?_ ?_ ?_⟩
 ·rintro i ys H2 hi ⟨sm,_,rfl⟩;refine⟨⟨iT TZ sm,iT vt sm⟩,?_⟩;rw[ag,ag,aS];lia
 ·rintro i x y p ys H2 N hx hy ⟨sm,hi,rfl⟩ hp hN;obtain⟨z,hz,rfl⟩:=g8 hx;obtain⟨v,hv,rfl⟩:=g8 hy;refine iH ?_;have m:z∈ts:=aC hz;have li:=cI m;have Uh:=(aq.mp hz).1;have yD:bG H (upd H2 p (.tup [V.str z,V.str v])):=sm.trans (aL hp _);have e1:ts[ts.idxOf z]?=some z:=by rw[ar li,j8]
  have e2:∀n,n<ts.idxOf z->ts[n]?≠some z:=λn hn q=>by obtain⟨ln,en⟩:=aq.mp q;have:=vZ (p:=(·==z)) (xs:=ts) hn;rw[en]at this;simp at this
  obtain⟨u,wO⟩:∃u,rs[ts.idxOf z]?=some u:=⟨_,ar (by lia)⟩;refine⟨_,rfl,_,rfl,.inr (.inl ⟨rfl,.inl ⟨_,yD _ _ Ua⟩⟩),_,rfl,t,ts,z,ts.idxOf z,rfl,rfl,iT TZ yD,e1,e2,r,_,_,V.str u,rfl,rfl,iT vt yD,iM (by rw[aJ,wO];rfl),_,rfl,rfl,?_⟩;refine hN _ _ ⟨yD,by lia,?_⟩;have e3:(ts.zip rs)[i]?=some (z,v):=by rw[List.getElem?_zip_eq_some];exact⟨hz,hv⟩
  rw[aZ,e3,bI,aQ,aQ];congr 1;show[V.bl (decide (V.str u=V.str v))]=[V.bl (decide (rs[ts.idxOf z]?=some v))];rw[wO];congr 2;by_cases q:u=v
  ·subst q;simp
  ·rw[bt (λz=>q (V.str.inj z)),bt (λz=>q (bL z))]
 ·rintro ys H2 ⟨sm,_,rfl⟩ l hl;have lz:(ts.zip rs).length=ts.length:=by rw[mi];lia
  rw[ag,<-lz,a9];refine⟨l,_,rfl,bp.of au,?_⟩;have e:aV.l9 rs ts=(((ts.zip rs).map λx=>decide (rs[ts.idxOf x.1]?=some x.2)).all id):=by unfold aV.l9;rw[aU le,f7,List.all_map];rfl
  rw[e]at k;exact k _ (sm.trans (aL hl _))
def d6(H H':Hp):Prop:=∀b xs,Rd H b (.tup xs)->Rd H' b (.tup xs)
def d6.refl(H:Hp):d6 H H:=λ_ _ h=>h
def d6.trans(a:d6 H H1)(b:d6 H1 H2):d6 H H2:=λx xs h=>b x xs (a x xs h)
def d6.same(s:bG H H'):d6 H H':=λb xs h=>by
 rcases h with h|⟨o,h⟩
 ·exact .inl (s _ _ h)
 ·exact .inr ⟨o,s _ _ h⟩
def gE(H:Hp)(a:Addr):Prop:=∀xs,¬Rd H a (.tup xs)
def d6.upd(h:gE H a):d6 H (upd H a o):=λb xs q=>by
 have hb:b≠a:=λe=>h xs (e▸q);rcases q with q|⟨o',q⟩
 ·exact .inl (by rw[aw hb];exact q)
 ·exact .inr ⟨o',by rw[aw hb];exact q⟩
def Od(h:H a=some (.ext φ)):gE H a:=λxs q=>by rcases q with q|⟨o,q⟩<;>rw[h]at q<;>cases q
def xJ(h:H a=some (.dK l)):gE H a:=λxs q=>by rcases q with q|⟨o,q⟩<;>rw[h]at q<;>cases q
def zD(h:H a=some (.ins C dx l)):gE H a:=λxs q=>by rcases q with q|⟨o,q⟩<;>rw[h]at q<;>cases q
def lD(q:bE K H a xs)(t:d6 H H'):bE K H' a xs:=by
 rcases q with q|q
 ·exact .inl (t _ _ q)
 ·exact .inr q
mutual
theorem LO(t:d6 H H'):∀(k:NK)(v:V),NV K H k v->NV K H' k v
 | .cb,v,h=>by rw[NV]at h⊢;exact h
 | .key k,v,h=>by rw[NV]at h⊢;exact h
 | .tup ks,v,h=>by rw[NV]at h⊢;obtain⟨a,xs,e,hq,hs⟩:=h;exact⟨a,xs,e,lD hq t,Ob t ks xs hs⟩
theorem Ob(t:d6 H H'):∀(ks:List NK)(vs:List V),oJ K H ks vs->oJ K H' ks vs
 |[],vs,h=>by rw[oJ]at h⊢;exact h
 |k::ks,vs,h=>by rw[oJ]at h⊢;obtain⟨x,r,e,h1,h2⟩:=h;exact⟨x,r,e,LO t k x h1,Ob t ks r h2⟩
end
def wH{H H':Hp}{k:NK}{a:Addr}(h:iW K H k a)(t:d6 H H'):iW K H' k a:=⟨LO t _ _ h.1,h.2⟩
def _root_.L2.fI.tp{H H':Hp}{d:Addr}{kvs:List (NK×Addr×V)}(h:fI P w K H d kvs)(t:d6 H H')(e:H' d=H d):fI P w K H' d kvs:=⟨by rw[e];exact h.1,λp hp=>wH (h.2 p hp) t⟩
def _root_.L2.fI.some{H:Hp}{d:Addr}{kvs:List (NK×Addr×V)}(h:fI P w K H d kvs):∃u,H d=some u:=by rcases h.1 with h|⟨_,h⟩<;>exact⟨_,h⟩
def _root_.L2.fI.pF{H:Hp}{d:Addr}{kvs:List (NK×Addr×V)}(h:fI P w K H d kvs):gE H d:=by
 rcases h.1 with h|⟨_,h⟩
 ·exact Od h
 ·exact xJ h
def _root_.L2.fI.put{H:Hp}{d b:Addr}{kvs:List (NK×Addr×V)}{k:NK}{v:V}(h:fI P w K H d kvs)(hk:iW K H k b):fI P w K (upd H d (.ext (DN P w d (putN kvs k b v)))) d (putN kvs k b v):=by
 have t:d6 H (upd H d (.ext (DN P w d (putN kvs k b v)))):=d6.upd h.pF;refine⟨.inl au,λp hp=>?_⟩;rcases Hz hp with⟨q,hq,e1,e2⟩|⟨e1,e2⟩
 ·rw[e1,e2];exact wH (h.2 q hq) t
 ·rw[e1,e2];exact wH hk t
def EJ{H:Hp}{p:Addr}(h:H p=Option.some (.dK [])):fI P w K H p []:=⟨.inr ⟨rfl,h⟩,λ_ hp=>by cases hp⟩
def rW(zs:List Str):Prop:=∀z∈zs,PyData.strOk z=true
abbrev Cm:=List (List Str×Int)
def rV(m:Cm):List (NK×V):=m.map λx=>(d5 x.1,V.int x.2)
abbrev Bn(kvs:List (NK×Addr×V)):List (NK×V):=kvs.map λp=>(p.1,p.2.2)
def cnt(m:Cm)(r:List Str):Int:=((m.find? λx=>decide (x.1=r)).map (·.2)).getD 0
theorem D8:∀{m:Cm}{kvs:List (NK×Addr×V)},Bn kvs=rV m->valN kvs (d5 r)=(m.find? λx=>decide (x.1=r)).map λx=>V.int x.2
 |[],[],_=>rfl
 |[],_::_,e=>by cases e
 |_::_,[],e=>by cases e
 |x::m,p::kvs,e=>by
  injection e with e1 e2;have e3:=cA Prod.fst e1;have e4:=cA Prod.snd e1;dsimp only at e3 e4;by_cases c:x.1=r
  ·rw[kX (by rw[e3,c]),dQ (by exact aU c),e4];rfl
  ·rw[kY (λz=>c (wA (by rw[<-e3,z]))),D8 e2,dR (by simpa using c)]
def Wv(e:Bn kvs=rV m):(valN kvs (d5 r)).getD (V.int 0)=V.int (cnt m r):=by rw[D8 e];unfold cnt;cases m.find? (λx=>decide (x.1=r))<;>rfl
def aar(nd:(m.map (·.1)).Nodup)(h:x∈m)(e:x.1=r):cnt m r=x.2:=by
 unfold cnt
 induction m with
 |nil=>cases h
 |cons y m ih=>
  rw[aX,du]at nd;by_cases c:y.1=r
  ·rw[dQ (by exact aU c)];rcases aI.mp h with rfl|h
   ·rfl
   ·exact absurd (aM.mpr ⟨x,h,by rw[e,c]⟩) nd.1
  ·rw[dR (by simpa using c)];rcases aI.mp h with rfl|h
   ·exact absurd e c
   ·exact ih nd.2 h
def Vp(nd:(m.map (·.1)).Nodup)(e:Bn kvs=rV m):Bn (putN kvs (d5 r) b (.int (cnt m r+c)))=rV (aV.sD m r c):=by
 have hv:=D8 (r:=r) e;have mem:r∈m.map (·.1)↔(m.find? λx=>decide (x.1=r)).isSome=true:=by rw[List.find?_isSome,aM];exact⟨λ⟨x,h1,h2⟩=>⟨x,h1,aU h2⟩,λ⟨x,h1,h2⟩=>⟨x,h1,br h2⟩⟩
 unfold putN aV.sD;by_cases q:r∈m.map (·.1)
 ·rw[aB q,aB (by rw[hv,iY];exact mem.mp q)];have gen:∀(kvs:List (NK×Addr×V))(m':Cm),(∀x∈m',x∈m)->Bn kvs=rV m'->Bn (kvs.map λp=>if p.1=d5 r then(p.1,p.2.1,V.int (cnt m r+c))else p)=rV (m'.map λx=>if x.1=r then(x.1,x.2+c)else x):=by
   intro kvs
   induction kvs with
   |nil=>intro m' _ e;cases m' with
    |nil=>rfl
    |cons _ _=>cases e
   |cons p kvs ih=>intro m' hm e;cases m' with
    |nil=>cases e
    |cons x m'=>
     injection e with e1 e2;have e3:=cA Prod.fst e1;have e4:=cA Prod.snd e1;dsimp only at e3 e4;show(_::_:List (NK×V))=_::_;congr 1
     ·dsimp only;by_cases z:x.1=r
      ·rw[aB z,aB (by rw[e3,z])];show(p.1,V.int (cnt m r+c))=(d5 x.1,V.int (x.2+c));rw[e3,aar nd (hm x aA) z]
      ·rw[ax z,ax (λq=>z (wA (by rw[<-e3,q])))];exact e1
     ·exact ih m' (λx hx=>hm x (aD _ hx)) e2
  exact gen kvs m (λ_ h=>h) e
 ·rw[ax q,ax (by rw[hv,iY];exactλz=>q (mem.mpr z))];have z:(m.find? λx=>decide (x.1=r))=none:=by
   cases h:m.find? λx=>decide (x.1=r)with
   |none=>rfl
   |some _=>rw[h]at mem;exact absurd (mem.mpr rfl) q
  have z2:cnt m r=0:=by unfold cnt;rw[z];rfl
  unfold rV Bn at*;rw[z2,Int.zero_add,aQ,aQ,e];rfl
def RowC(P:Program)(w:World)(K:Frag)(H:Hp)(d:Addr)(m:Cm):Prop:=∃kvs,fI P w K H d kvs/\Bn kvs=rV m
def RowC.same(h:RowC P w K H d m)(s:bG H H'):RowC P w K H' d m:=by obtain⟨kvs,h1,h2⟩:=h;obtain⟨u,hu⟩:=h1.some;exact⟨kvs,h1.tp (d6.same s) (by rw[hu,s _ _ hu]),h2⟩
def MS(P:Program)(w:World)(K:Frag)(H:Hp)(d:Addr)(m:Cm):Prop:=∃kvs,fI P w K H d kvs/\Bn kvs=rV m/\∀p∈kvs,∃xs,H p.2.1=some (.tup xs)
def MS.c(h:MS P w K H d m):RowC P w K H d m:=let⟨kvs,h1,h2,_⟩:=h;⟨kvs,h1,h2⟩
def vD(K:Frag)(H:Hp)(v:V)(x:List Str×Int):Prop:=∃p g,v=.ref p/\bE K H p [.ref g,.int x.2]/\bE K H g (x.1.map V.str)
def Hj(h:vD K H v x)(t:d6 H H'):vD K H' v x:=by obtain⟨p,g,e,h1,h2⟩:=h;exact⟨p,g,e,lD h1 t,lD h2 t⟩
def vi(h1:rW vs)(h2:rW ts):rW (aV.image us vs ts):=λz hz=>by
 obtain⟨t,ht,rfl⟩:=aM.mp hz;unfold aV.gf;split
 ·rw[cz];cases q:vs[us.idxOf t]? with
  |none=>exact h2 t ht
  |some v=>exact h1 v (aC q)
 ·exact h2 t ht
inductive xq(P:Program)(w:World)(K:Frag)(vs:List V)(H:Hp)(Q:VK)(_x3:XK):Prop
 |mk (l u t:Addr) (ys:List V) (m:Cm) (us ts:List Str) (_:vs=[.ref l,.ref u,.ref t]) (_:bp K H l ys) (_:Paired (vD K H) ys m) (_:bp K H u (us.map V.str)) (_:us.Nodup) (_:us.length<=100) (_:(bp K H t (ts.map V.str)\/bE K H t (ts.map V.str))) (_:ts.length<=100) (_:rW ts) (_:(∀x∈m,x.1.length=us.length/\rW x.1)) (_:m.length<=9000000) (_:∀(d:Addr)(H':Hp),bG H H'->H d=none->MS P w K H' d (aV.narrowed m us ts)->Q (.ref d) H')
structure Dn(P:Program)(w:World)(K:Frag)(mg:Str->Option Value)(base:Heap):Prop where
 places_of:dW P w K mg base 1 "places_of" ["unknowns"] (Gw K)
 image:dW P w K mg base 1 "image" ["terms","places","given"] (J0 K)
def lL:cu ["counted_maps","unknowns","terms","places","counts","given","count","row"] ["counted_maps","unknowns","terms"] (defScope xv):=jx (by decide+kernel)
def Jl(F:eZ K "narrowed" "narrowed" xv f fd)(T:Txt K mg)(D:Dn P w K mg base):cY P w K mg base fH 3 f fd ["counted_maps","unknowns","terms"] (xq P w K):=by
 refine F.ok lL (λvs H Q E h=>?_) (λc6 A outer s H vs Q E hr h=>?_)
 ·obtain⟨a,b,c,d,e,g,k,rfl,_⟩:=h;rfl
 obtain⟨l,u,t,ys,m,us,ts,rfl,hl,qr,HY,nd,lu,ht,lt,st,gm,lm,k⟩:=h;have hu:=iL hr;have hN:=xS hr;refine⟨_,(aP (fM 3 lL (cl D.places_of hr (ao (pv 1) az)))
   (aP (fM 4 lL kZ)
   (aP (eJ bF rfl (gq (pv 0)) (lE rfl (dk (iz 5 lL) (dk (iz 6 lL) jO)))
   (aP (fM 7 lL (cl D.image hr (ao (pv 2) (ao (pv 3) (ao (pv 5) az)))))
   (bj (G2 hN (pv 4) (pv 7) (d7 jW (E5 hN (pv 4) (pv 7) bq ⟨rfl,rfl,rfl,rfl⟩) (pv 6)) rfl))))
   (bj (cJ (pv 4)))))),?_⟩
 have ly:ys.length=m.length:=bB qr;refine⟨_,rfl,u,us,rfl,HY,nd,lu,λpd H1 s1 RF Y8=>?_⟩;intro d h9;have s2:bG H1 (upd H1 d (.dK [])):=aL h9 _;have hd2:upd H1 d (.dK []) d=some (.dK []):=au;have lX:=s1.trans s2;have Y7:=s2 _ _ Y8;have KU:H d=none:=s1.free h9;have pdd:pd≠d:=aW Y8 h9;generalize (upd H1 d (.dK []))=H2 at s2 hd2 lX Y7⊢;refine⟨_,rfl,l,rfl,⟨_,fR hl lX⟩,mM (K:=K) (a:=l) (xs:=ys)
  (λi Z H3=>∃(x1 x2 x3:Option V),Z=[some (.ref l),some (.ref u),some (.ref t),some (.ref pd),some (.ref d),x1,x2,x3]/\bG H H3/\H3 pd=some (.dK (placesK us))/\i<=m.length/\∃kvs,fI P w K H3 d kvs/\Bn kvs=rV (aV.narrowed (m.take i) us ts)/\kvs.length<=i/\∀p∈kvs,∃xs,H3 p.2.1=some (.tup xs))
  ⟨none,none,none,rfl,lX,Y7,aO _,[],EJ hd2,rfl,ak _,λp hp=>(by cases hp)⟩ (λi Z H3 _ ⟨_,_,_,_,sm,_⟩=>fR hl sm) ?_ ?_⟩
 ·rintro i x Z H3 hx ⟨x1,x2,x3,rfl,s3,Y6,_,kvs,ha,ek,lk,gF⟩;obtain⟨y,hy,hp⟩:=Paired.at' qr hx;obtain⟨p,g,rfl,hp,hg⟩:=Hj hp (d6.same s3);have bQ:i<m.length:=(aq.mp hy).1;obtain⟨g1,g2⟩:=gm y (aC hy);refine⟨p,_,rfl,hp,rfl,_,_,rfl,_,_,rfl,rfl,?_⟩;refine⟨_,rfl,_,rfl,_,rfl,t,pd,g,ts,us,y.1,rfl,ht.imp (λz=>fR z s3) (λz=>iT z s3),Y6,nd,hg,g1,lt,lu,λr H4 s4 rP rO=>?_⟩;have Pt:fI P w K H4 d kvs:=by obtain⟨u,hu⟩:=ha.some;exact ha.tp (d6.same s4) (by rw[hu,s4 _ _ hu])
  have hk:iW K H4 (d5 (aV.image us y.1 ts)) r:=xP (bE.of rO) (vi g2 st);refine⟨_,rfl,d,kvs,rfl,Pt,_,rfl,r,kvs,_,rfl,Pt,hk,?_⟩;rw[Wv ek];refine⟨_,rfl,_,_,rfl,rfl,_,rfl,_,rfl,d,r,kvs,_,rfl,rfl,Pt,hk,by lia,?_⟩;refine⟨_,_,_,rfl,λb o e=>?_,?_,bQ,_,Pt.put hk,?_,?_,λp hp=>?_⟩
  ·rw[aw (aW e KU)];exact s4 _ _ (s3 _ _ e)
  ·rw[aw pdd];exact s4 _ _ Y6
  ·rw[Vp aV.qI ek,aZ,hy];unfold aV.narrowed;rw[bI,A6];rfl
  ·exact aE uo (by lia)
  ·have ne:∀{b:Addr}{xs:List V},H4 b=some (.tup xs)->b≠d:=λ{b xs} e z=>Pt.pF xs (.inl (by rw[<-z];exact e));rcases Hz hp with⟨c,hc,_,e2⟩|⟨_,e2⟩
   ·obtain⟨xs,e⟩:=gF c hc;exact⟨xs,by rw[e2,aw (ne (s4 _ _ e))];exact s4 _ _ e⟩
   ·exact⟨_,by rw[e2,aw (ne rO)];exact rO⟩
 ·rintro Z H3 ⟨x1,x2,x3,rfl,s3,_,_,kvs,ha,ek,_,gF⟩;rw[ly,a9]at ek;exact⟨_,rfl,k d H3 s3 KU ⟨kvs,ha,ek,gF⟩⟩
def mJ(h:H a=some (.lst l)):gE H a:=λxs q=>by rcases q with q|⟨o,q⟩<;>rw[h]at q<;>cases q
def ng(h:eB K H ys rs)(t:d6 H H'):eB K H' ys rs:=h.keep λa xs q=>lD q t
def vq{ts:List Str}(m:z∈ts):ts[ts.idxOf z]?=some z/\∀n,n<ts.idxOf z->ts[n]?≠some z:=by have li:=cI m;refine⟨by rw[ar li,j8],λn hn q=>?_⟩;obtain⟨ln,en⟩:=aq.mp q;have:=vZ (p:=(·==z)) (xs:=ts) hn;rw[en]at this;simp at this
def IU{z:Str}(m:z∈ts)(le:rs.length=ts.length):rs[ts.idxOf z]?=some (aV.atT rs ts z):=by have li:=cI m;unfold aV.atT;rw[cz,ar (by lia)];rfl
structure nA(P:Program)(w:World)(K:Frag)(H0 H:Hp)(d:Addr)(kvs:List (NK×Addr×V))(f:List Str->List (List Str)):Prop where
 at_:fI P w K H d kvs
 no:∀zs,valN kvs (d5 zs)=none->f zs=[]
 vals:∀zs v,valN kvs (d5 zs)=some v->∃l ys,v=.ref l/\H0 l=none/\H l=some (.lst ys)/\eB K H ys (f zs)
 inj:∀zs nY l,valN kvs (d5 zs)=some (.ref l)->valN kvs (d5 nY)=some (.ref l)->zs=nY
def nA.same(x:nA P w K H0 H d kvs f)(s:bG H H'):nA P w K H0 H' d kvs f:=by obtain⟨u,hu⟩:=x.at_.some;refine⟨x.at_.tp (d6.same s) (by rw[hu,s _ _ hu]),x.no,λzs v h=>?_,x.inj⟩;obtain⟨l,ys,h1,h2,h3,h4⟩:=x.vals zs v h;exact⟨l,ys,h1,h2,s _ _ h3,ip h4 s⟩
def nA.X6(x:nA P w K H0 H d kvs f)(hk:iW K H (d5 key) b)(hn:valN kvs (d5 key)=none)(h0:H0 l0=none)(hl:H l0=some (.lst []))(hd:H0 d=none)
  (fr:∀zs,valN kvs (d5 zs)≠some (.ref l0)):nA P w K H0 (upd H d (.ext (DN P w d (putN kvs (d5 key) b (.ref l0))))) d (putN kvs (d5 key) b (.ref l0)) f:=by
 have nt:=x.at_.pF;have ne:∀{l:Addr}{ys:List V},H l=some (.lst ys)->l≠d:=λ{l ys} h e=>by rw[e]at h;rcases x.at_.1 with q|⟨_,q⟩<;>rw[h]at q<;>cases q
 refine⟨x.at_.put hk,λzs h=>?_,λzs v h=>?_,λzs nY l h h'=>?_⟩
 ·rw[o7]at h;split at h
  ·cases h
  ·exact x.no zs h
 ·rw[o7]at h;split at h
  ·next c=>
   cases h;refine⟨l0,[],rfl,h0,by rw[aw (ne hl)];exact hl,?_⟩;rw[x.no zs (by rw[c];exact hn)];exact .nil
  ·obtain⟨l,ys,h1,h2,h3,h4⟩:=x.vals zs v h;exact⟨l,ys,h1,h2,by rw[aw (ne h3)];exact h3,ng h4 (d6.upd nt)⟩
 ·rw[o7]at h h';split at h
  ·next c=>
   cases h;split at h'
   ·next c'=>exact wA (c.trans c'.symm)
   ·exact absurd h' (fr nY)
  ·split at h'
   ·cases h';exact absurd h (fr zs)
   ·exact x.inj zs nY l h h'
def nA.push(x:nA P w K H0 H d kvs f)(hv:valN kvs (d5 key)=some (.ref l))(hl:H l=some (.lst ys))(hp:bE K H p (row.map V.str)):
  nA P w K H0 (upd H l (.lst (ys++[.ref p]))) d kvs (λzs=>if zs=key then f zs++[row]else f zs):=by
 have t:d6 H (upd H l (.lst (ys++[.ref p]))):=d6.upd (mJ hl);have dl:d≠l:=λe=>by rw[<-e]at hl;rcases x.at_.1 with q|⟨_,q⟩<;>rw[hl]at q<;>cases q
 refine⟨x.at_.tp t (aw dl),λzs h=>?_,λzs v h=>?_,x.inj⟩
 ·have c:¬zs=key:=λc=>by rw[c,hv]at h;cases h
  show(if zs=key then _ else _)=_;rw[ax c];exact x.no zs h
 ·obtain⟨l',fY,rfl,h2,h3,h4⟩:=x.vals zs v h;by_cases c:zs=key
  ·have e:l'=l:=by rw[c,hv]at h;cases h;rfl
   subst e;rw[hl]at h3;cases h3;refine⟨l',_,rfl,h2,au,?_⟩;show eB K _ _ (if zs=key then _ else _);rw[aB c];exact(ng h4 t).snoc ⟨p,rfl,lD hp t⟩
  ·have e:l'≠l:=λe=>c (x.inj zs key l (by rw[h,e]) hv);refine⟨l',fY,rfl,h2,by rw[aw e];exact h3,?_⟩;show eB K _ _ (if zs=key then _ else _);rw[ax c];exact ng h4 t
def gQ(P:Program)(w:World)(K:Frag)(H:Hp)(av:List Addr)(d:Addr)(f:List Str->List (List Str)):Prop:=d∉av/\∃kvs,fI P w K H d kvs/\∀zs,(valN kvs (d5 zs)=none/\f zs=[])\/∃l ys,valN kvs (d5 zs)=some (.ref l)/\l∉av/\H l=some (.lst ys)/\eB K H ys (f zs)
def gQ.fr(x:gQ P w K H av d f)(s:∀b u,b∉av->H b=some u->H' b=some u)(t:d6 H H'):gQ P w K H' av d f:=by obtain⟨h0,kvs,h1,h2⟩:=x;obtain⟨u,hu⟩:=h1.some;exact⟨h0,kvs,h1.tp t (by rw[hu,s _ _ h0 hu]),λzs=>(h2 zs).imp id λ⟨l,ys,a,n,b,c⟩=>⟨l,ys,a,n,s _ _ n b,ng c t⟩⟩
def gQ.same(x:gQ P w K H av d f)(s:bG H H'):gQ P w K H' av d f:=x.fr (λb u _ e=>s _ _ e) (d6.same s)
def gQ.more(x:gQ P w K H av d f)(h:H e=none):gQ P w K H (e::av) d f:=by
 obtain⟨h0,kvs,h1,h2⟩:=x;obtain⟨u,hu⟩:=h1.some;have nm:∀{b:Addr}{u:HO},H b=some u->b∉av->b∉e::av:=λ{b u} hb n z=>by
  rcases aI.mp z with z|z
  ·rw[z,h]at hb;cases hb
  ·exact n z
 exact⟨nm hu h0,kvs,h1,λzs=>(h2 zs).imp id λ⟨l,ys,a,n,b,c⟩=>⟨l,ys,a,nm b n,b,c⟩⟩
def gQ.less(x:gQ P w K H av d f)(h:∀b∈av',b∈av):gQ P w K H av' d f:=by obtain⟨h0,kvs,h1,h2⟩:=x;exact⟨λz=>h0 (h _ z),kvs,h1,λzs=>(h2 zs).imp id λ⟨l,ys,a,n,b,c⟩=>⟨l,ys,a,λz=>n (h _ z),b,c⟩⟩
def nA.view(x:nA P w K H0 H d kvs f)(h0:H0 d=none)(ha:∀b∈av,H0 b≠none):gQ P w K H av d f:=⟨λz=>ha _ z h0,kvs,x.at_,λzs=>by
 cases e:valN kvs (d5 zs)with
 |none=>exact .inl ⟨rfl,x.no zs e⟩
 |some v=>
  obtain⟨l,ys,rfl,h2,h3,h4⟩:=x.vals zs v e;exact .inr ⟨l,ys,rfl,λz=>ha _ z h2,h3,h4⟩⟩
inductive EV(P:Program)(w:World)(K:Frag)(vs:List V)(H:Hp)(Q:VK)(_x3:XK):Prop
 |mk (l t a b:Addr) (ys:List V) (rows:List (List Str)) (ts known fresh:List Str) (_:vs=[.ref l,.ref t,.ref a,.ref b]) (_:bp K H l ys) (_:eB K H ys rows) (_:H t=some (.tup (ts.map V.str))) (_:bp K H a (known.map V.str)) (_:bp K H b (fresh.map V.str)) (_:rows.length<=100) (_:(∀r∈rows,r.length<=100/\rW r)) (_:ts.length<=100) (_:known.length<=100) (_:fresh.length<=100) (_:(∀z∈known,z∈ts)) (_:(∀z∈fresh,z∈ts)) (_:∀(d:Addr)(H':Hp),bG H H'->H d=none->(∀av:List Addr,(∀b∈av,H b≠none)->gQ P w K H' av d (aV.tails rows ts known fresh))->Q (.ref d) H')
structure Dt6(P:Program)(w:World)(K:Frag)(mg:Str->Option Value)(base:Heap):Prop where
 is_image:dW P w K mg base 1 "is_image" ["row","terms"] (EW K)
def Nv{rs ts ks:List Str}(h:rW rs)(le:rs.length=ts.length)(hk:∀z∈ks,z∈ts):rW (ks.map (aV.atT rs ts)):=λz hz=>by obtain⟨t,ht,rfl⟩:=aM.mp hz;exact h _ (aC (IU (hk t ht) le))
def Lo{rows:List (List Str)}{ts known fresh r:List Str}(h:rows[i]?=some r)(im:aV.l9 r ts=true):aV.tails (rows.take (i+1)) ts known fresh=λzs=>if zs=known.map (aV.atT r ts)then aV.tails (rows.take i) ts known fresh zs++[fresh.map (aV.atT r ts)]else aV.tails (rows.take i) ts known fresh zs:=by
 funext zs;unfold aV.tails;rw[aZ,h,bI,fE,aQ];by_cases c:zs=known.map (aV.atT r ts)
 ·rw[aB c,List.filter_cons_of_pos (by rw[im,c];simp)];rfl
 ·rw[ax c,u7 (by rw[im,f7];exactλq=>c (br q).symm)];simp
def Lp{rows:List (List Str)}{ts known fresh r:List Str}(h:rows[i]?=some r)(im:aV.l9 r ts=false):aV.tails (rows.take (i+1)) ts known fresh=aV.tails (rows.take i) ts known fresh:=by funext zs;unfold aV.tails;rw[aZ,h,bI,fE,aQ,u7 (by rw[im];simp)];simp
def lV:cu ["rows","terms","known","fresh","tails","row","key"] ["rows","terms","known","fresh"] (defScope qD):=jx (by decide+kernel)
def C6(F:eZ K "tails_by_key" "tails_by_key" qD f fd)(T:Txt K mg)(D:Dt6 P w K mg base):cY P w K mg base fH 3 f fd ["rows","terms","known","fresh"] (EV P w K):=by
 refine F.ok lV (λvs H Q E h=>?_) (λc6 A outer s H vs Q E hr h=>?_)
 ·obtain⟨a,b,c,d,_,_,_,_,_,rfl,_⟩:=h;rfl
 obtain⟨l,t,a,b,ys,rows,ts,known,fresh,rfl,hl,qr,ht,ha,hb,lr,gr,lt,lk,lf,kt,ft,k⟩:=h;have hu:=iL hr;have hN:=xS hr;refine⟨_,(aP (fM 4 lV kZ)
   (aP (eJ bF rfl (gq (pv 0)) (ni (i:=5) lV.nd rfl (Or.inr rfl))
   (bj (iq (wt (cl D.is_image hr (ao (pv 5) (ao (pv 1) az)))) (aP (fM 6 lV (dZ eR rfl T.jP (by decide+kernel) (ao (js rfl (dB (fs:=["row","terms"]) (fr:=[5,1])) (gq (pv 2)) (λ_ _ _ _=>(dF (wI (K:=K)) (pv 1) (He (K:=K) mU mT mS xK (pv 2) (ao (pv 0) az)) (λ_ _=>rfl)))) az)))
   (bj (iI (kz bY cL cK jo (LG hN (pv 4) (pv 6) (eO az) ⟨rfl,rfl,rfl,rfl⟩) (ao (dZ eR rfl T.jP (by decide+kernel) (ao (js rfl (dB (fs:=["row","terms"]) (fr:=[5,1])) (gq (pv 3)) (λ_ _ _ _=>(dF (wI (K:=K)) (pv 1) (He (K:=K) mU mT mS xK (pv 2) (ao (pv 0) az)) (λ_ _=>rfl)))) az)) az))))) eU)))
   (bj (cJ (pv 4))))),?_⟩
 have ly:ys.length=rows.length:=qr.length;intro d h9;have s1:bG H (upd H d (.dK [])):=aL h9 _;refine⟨_,rfl,l,rfl,⟨_,fR hl s1⟩,mM (K:=K) (a:=l) (xs:=ys)
  (λi Z H2=>∃(x1 x2:Option V),Z=[some (.ref l),some (.ref t),some (.ref a),some (.ref b),some (.ref d),x1,x2]/\bG H H2/\i<=rows.length/\∃kvs,nA P w K H H2 d kvs (aV.tails (rows.take i) ts known fresh)/\kvs.length<=i)
  ⟨none,none,rfl,s1,aO _,[],⟨EJ au,λzs _=>rfl,λzs v h=>(by cases h),λzs nY l h=>(by cases h)⟩,ak _⟩ (λi Z H2 _ ⟨_,_,_,sm,_⟩=>fR hl sm) ?_ ?_⟩
 ·rintro i x Z H2 hx ⟨x1,x2,rfl,s2,_,kvs,tI,lkv⟩;obtain⟨r,vt,ra,rfl,O5⟩:=Paired.at' (ip qr s2) hx;have bQ:i<rows.length:=(aq.mp vt).1;obtain⟨g1,g2⟩:=gr r (aC vt);refine⟨_,rfl,_,rfl,ra,t,r,ts,rfl,O5,s2 _ _ ht,g1,lt,λH3 s3=>⟨_,rfl,?_⟩⟩;refine fm (λc=>?_) (λc=>?_)
  ·have le:r.length=ts.length:=by unfold aV.l9 at c;rw[cM]at c;exact br c.1
   have Ka:=s2.trans s3;have RE:=iT O5 s3;have tI3:=tI.same s3;refine⟨_,rfl,a,rfl,⟨_,fR ha Ka⟩,j6 (K:=K) (a:=a) (xs:=known.map V.str) (λj zs H4=>H4=H3/\j<=known.length/\zs=((known.take j).map (aV.atT r ts)).map V.str) (by rw[ag];exact bK (by lia)) ⟨rfl,aO _,rfl⟩ ?_ ?_ ?_⟩
   ·rintro j zs H4 hj ⟨rfl,_,rfl⟩;refine⟨fR ha Ka,?_⟩;rw[ag,ag,aS];lia
   ·rintro j x zs H4 N hc ⟨rfl,hj,rfl⟩ uH;obtain⟨z,hz,rfl⟩:=g8 hc;have ma:j<known.length:=(aq.mp hz).1;have m:=kt z (aC hz);refine iH ?_;refine⟨_,rfl,_,rfl,.inr (.inl ⟨rfl,.inl ⟨_,Ka _ _ ht⟩⟩),_,rfl,t,ts,z,ts.idxOf z,rfl,rfl,bE.of (Ka _ _ ht),(vq m).1,(vq m).2,ra,_,_,V.str (aV.atT r ts z),rfl,rfl,RE,iM (by rw[aJ,IU m le];rfl),uH _ _ ⟨rfl,ma,?_⟩⟩;rw[aZ,hz,aQ,aQ];rfl
   rintro zs H4 ⟨rfl,_,rfl⟩ q hq;rw[ag,a9];refine⟨q,_,rfl,.inl ⟨bp.of au,λkp Fw=>?_⟩⟩;have s5:bG H4 (upd (upd H4 q (.lst ((known.map (aV.atT r ts)).map V.str))) kp (.tup ((known.map (aV.atT r ts)).map V.str))):=(aL hq _).trans (aL Fw _);have Zk:upd (upd H4 q (.lst ((known.map (aV.atT r ts)).map V.str))) kp (.tup ((known.map (aV.atT r ts)).map V.str)) kp=some (.tup ((known.map (aV.atT r ts)).map V.str)):=au;generalize (upd (upd H4 q (.lst ((known.map (aV.atT r ts)).map V.str))) kp (.tup ((known.map (aV.atT r ts)).map V.str)))=H5 at s5 Zk⊢;have Xe:=tI3.same s5;refine⟨_,rfl,d,kvs,rfl,Xe.at_,_,rfl,(by show 0<=sizeLine;decide),λl0 qu=>?_⟩;have s6:bG H5 (upd H5 l0 (.lst [])):=aL qu _;have uE:upd H5 l0 (.lst []) l0=some (.lst []):=au;have uj:=Ka.trans (s5.trans s6);have Py:H l0=none:=(Ka.trans s5).free qu;have Z9:∀zs,valN kvs (d5 zs)≠some (.ref l0):=λzs h=>by obtain⟨l',_,e,_,h3,_⟩:=Xe.vals zs _ h;cases e;rw[qu]at h3;cases h3
   have JU:=Xe.same s6;generalize (upd H5 l0 (.lst []))=H6 at s6 uE uj JU⊢;have KP:iW K H6 (d5 (known.map (aV.atT r ts))) kp:=xP (bE.of (s6 _ _ Zk)) (Nv g2 le kt);refine⟨kp,kvs,_,rfl,JU.at_,KP,by lia,λv hv=>?_,λhv=>?_⟩;rotate_left;have I7:=JU.X6 KP hv Py uE h9 Z9;have TR:valN (putN kvs (d5 (known.map (aV.atT r ts))) kp (.ref l0)) (d5 (known.map (aV.atT r ts)))=some (.ref l0):=by rw[o7,aB rfl]
   have ui:bG H (upd H6 d (.ext (DN P w d (putN kvs (d5 (known.map (aV.atT r ts))) kp (.ref l0))))):=λb o e=>by rw[aw (aW e h9)];exact uj _ _ e
   have Yk:(putN kvs (d5 (known.map (aV.atT r ts))) kp (.ref l0)).length<=i+1:=aE uo (by lia);have L4:bE K (upd H6 d (.ext (DN P w d (putN kvs (d5 (known.map (aV.atT r ts))) kp (.ref l0))))) ra (r.map V.str):=lD (iT RE (s5.trans s6)) (d6.upd JU.at_.pF);generalize Uu:(upd H6 d (.ext (DN _ _ d _)))=H7
   replace I7:nA P w K H H7 d (putN kvs (d5 (known.map (aV.atT r ts))) kp (.ref l0)) (aV.tails (rows.take i) ts known fresh):=by rw[<-Uu];exact I7
   replace ui:bG H H7:=by rw[<-Uu];exact ui
   replace L4:bE K H7 ra (r.map V.str):=by rw[<-Uu];exact L4
   clear Uu;generalize (putN kvs (d5 (known.map (aV.atT r ts))) kp (.ref l0))=kv7 at I7 TR Yk;rotate_left;have L4:=iT RE (s5.trans s6);have ui:=uj;have I7:=JU;have Yk:kvs.length<=i+1:=by lia
   have TR:=hv;clear uj s6 JU KP uE;obtain⟨H7,rfl⟩:∃x,x=H6:=⟨_,rfl⟩;obtain⟨kv7,rfl⟩:∃x,x=kvs:=⟨_,rfl⟩;all_goals
    obtain⟨ll,HB,e7,h07,wQ,Fs⟩:=I7.vals _ _ TR;cases e7;have lly:HB.length<=100:=by rw[Fs.length];unfold aV.tails;rw[ag];refine aE (cD _ _) ?_;rw[aS];lia
    refine⟨.inl ⟨rfl,_,bp.of wQ⟩,?_⟩;refine⟨_,rfl,b,rfl,⟨_,fR hb ui⟩,j6 (K:=K) (a:=b) (xs:=fresh.map V.str) (λj zs H8=>H8=H7/\j<=fresh.length/\zs=((fresh.take j).map (aV.atT r ts)).map V.str) (by rw[ag];exact bK (by lia)) ⟨rfl,aO _,rfl⟩ ?_ ?_ ?_⟩
    ·rintro j zs H8 hj ⟨rfl,_,rfl⟩;refine⟨fR hb ui,?_⟩;rw[ag,ag,aS];lia
    ·rintro j x zs H8 N hc ⟨rfl,hj,rfl⟩ uH;obtain⟨z,hz,rfl⟩:=g8 hc;have ma:j<fresh.length:=(aq.mp hz).1;have m:=ft z (aC hz);refine iH ?_;refine⟨_,rfl,_,rfl,.inr (.inl ⟨rfl,.inl ⟨_,ui _ _ ht⟩⟩),_,rfl,t,ts,z,ts.idxOf z,rfl,rfl,bE.of (ui _ _ ht),(vq m).1,(vq m).2,ra,_,_,V.str (aV.atT r ts z),rfl,rfl,L4,iM (by rw[aJ,IU m le];rfl),uH _ _ ⟨rfl,ma,?_⟩⟩;rw[aZ,hz,aQ,aQ];rfl
    rintro zs H8 ⟨rfl,_,rfl⟩ q2 hq2;rw[ag,a9];refine⟨q2,_,rfl,.inl ⟨bp.of au,λtp htp=>?_⟩⟩;have s8:=(aL hq2 (.lst ((fresh.map (aV.atT r ts)).map V.str))).trans (aL htp (.tup ((fresh.map (aV.atT r ts)).map V.str)));have I9:=(I7.same s8).push (p:=tp) (row:=fresh.map (aV.atT r ts)) TR (s8 _ _ wQ) (bE.of au);refine⟨_,HB,_,rfl,rfl,s8 _ _ wQ,bK (by lia),?_⟩;refine⟨_,_,rfl,λb o e=>?_,bQ,kv7,?_,Yk⟩
    ·rw[aw (aW e h07)];exact s8 _ _ (ui _ _ e)
    ·rw[Lo vt c];exact I9
  ·refine⟨_,_,rfl,s2.trans s3,bQ,kvs,?_,by lia⟩;rw[Lp vt (by simpa using c)];exact tI.same s3
 ·rintro Z H2 ⟨x1,x2,rfl,s2,_,kvs,tI,_⟩;rw[ly,a9]at tI;exact⟨_,rfl,k d H2 s2 h9 λav ha=>tI.view h9 ha⟩
end
end K06
namespace L2
open PySem PySem.Spec PyProof.Rows
section
variable{P:Program}{w:World}{A:Around}{E:Value->Shared->Prop}{v:Shared}
structure Zu(h:Heap)(z ti to i1 i2 l1 l2 T:Addr)(k:Nat):Prop where
 self:∃b,h.get? z=some (t4 (rawInt T) b ti to)
 live:∃o,h.get? T=some o
 ins:IsPair h ti (.ref i1) (.ref i2)
 w1:h.IsTupleIter i1 l1 k
 w2:h.IsTupleIter i2 l2 k
def UP{Q:Value->Shared->Prop}(D:ZipApart z ti to i1 i2 l1 l2)(nT:T≠z)(g:Zu v.heap z ti to i1 i2 l1 l2 T k)
  (t1:v.heap.IsTuple l1 xs) (t2:v.heap.IsTuple l2 ys) (ex:xs[k]?=some x) (ey:ys[k]?=some y)
  (q:∀h',Zu h' z ti to i1 i2 l1 l2 T (k+1)->IsPair h' v.heap.objs.size x y->(∀c o,c≠z->c≠i1->c≠i2->v.heap.get? c=some o->h'.get? c=some o)->Q (.ref v.heap.objs.size) {v with heap:=h'}):
  wpAny (model P w) A (Builtin.«zip.__next__» ⟨[.ref z],[]⟩) (λfin s'=>∃u,fin=.done (.ret u)/\Q u s') E v:=by
 obtain⟨⟨b,gs⟩,gT,gi,g1,g2⟩:=g;show wpAny _ _ (field (.ref z) 2>>=_) _ _ _;refine ae (bO gs rfl (x:=.bool false) rfl ?_);show wpAny _ _ (field (.ref z) 3>>=_) _ _ _;refine ae (bO gs rfl (x:=.ref ti) rfl ?_);refine ae (bS gi rfl ?_);show wpAny _ _ (Builtin.SmallTypes.ownedTupleIsFree (.ref z)>>=_) _ _ _;refine ae (JC gs gT λp1 z1 r1=>?_);simp only[bh,bX];refine ae ?_;simp only[<-iC,fV,ju];refine ae (ae (bR ?_));show wpAny _ _ (Builtin.SmallTypes.nextOf (.ref i1)>>=_) _ _ _;refine ae (tJ (iK g1 r1 D.i1z) (m8 t1 r1 D.l1z) ex λp2 k2 r2=>ah ?_);refine ah ?_;refine ae (ae (bR ?_));show wpAny _ _ (Builtin.SmallTypes.nextOf (.ref i2)>>=_) _ _ _;refine ae (tJ (iK (iK g2 r1 D.i2z) r2 D.i12.symm) (m8 (m8 t2 r1 D.l2z) r2 D.l2i1) ey λp3 k3 r3=>ah ?_);refine ah (ah ?_);show wpAny _ _ (newTuple [x,y]>>=_) _ _ _;refine ae (kI (ah ⟨_,rfl,?_⟩));have sz:p3.objs.size=v.heap.objs.size:=by rw[r3.1,r2.1,r1.1]
 have z3:p3.get? z=some (t4 (rawInt T) true ti to):=r3.extBut _ _ D.i2z.symm (r2.extBut _ _ D.i1z.symm z1);have st:∀c o,c≠z->c≠i1->c≠i2->v.heap.get? c=some o->p3.get? c=some o:=λc o m1 m2 m3 e=>r3.extBut _ _ m3 (r2.extBut _ _ m2 (r1.extBut _ _ m1 e));have j1:=iK k2 r3 D.i12;show Q (.ref p3.objs.size) _;rw[sz];obtain⟨oa,ja,ra⟩:=j1;obtain⟨ob,jb,rb⟩:=k3;obtain⟨oT,gT⟩:=gT;obtain⟨o1,e1,c1,_⟩:=g1;obtain⟨o2,e2,c2,_⟩:=g2;refine q _ ⟨⟨true,af _ z3⟩,?_,af _ (st _ _ D.TIz D.TIi1 D.TIi2 gi),⟨oa,af _ ja,ra⟩,⟨ob,af _ jb,rb⟩⟩ ?_ λc o m1 m2 m3 e=>af _ (st c o m1 m2 m3 e)
 ·by_cases n1:T=i1
  ·rw[n1];exact⟨oa,af _ ja⟩
  ·by_cases n2:T=i2
   ·rw[n2];exact⟨ob,af _ jb⟩
   ·exact⟨oT,af _ (st _ _ nT n1 n2 gT)⟩
 ·have:=aG p3 (o:={cls:=.type "tuple",data:=.seq #[x,y]}) rfl;rw[sz]at this;exact this
def WE(hh:A.handled=none)(D:ZipApart z ti to i1 i2 l1 l2)(g:Zu v.heap z ti to i1 i2 l1 l2 T k)
  (t1:v.heap.IsTuple l1 xs) (ex:xs[k]?=none)
  (q:∀h' e,(∀c o,c≠z->c≠i1->c≠i2->v.heap.get? c=some o->h'.get? c=some o)->(∃o,h'.get? e=some o/\o.cls=.type "StopIteration")->E (.ref e) {v with heap:=h'}):
  wpAny (model P w) A (Builtin.«zip.__next__» ⟨[.ref z],[]⟩) Q E v:=by
 obtain⟨⟨b,gs⟩,gT,gi,g1,g2⟩:=g;show wpAny _ _ (field (.ref z) 2>>=_) _ _ _;refine ae (bO gs rfl (x:=.bool false) rfl ?_);show wpAny _ _ (field (.ref z) 3>>=_) _ _ _;refine ae (bO gs rfl (x:=.ref ti) rfl ?_);refine ae (bS gi rfl ?_);show wpAny _ _ (Builtin.SmallTypes.ownedTupleIsFree (.ref z)>>=_) _ _ _;refine ae (JC gs gT λp1 z1 r1=>?_);simp only[bh,bX];refine ae ?_;simp only[<-iC,fV,ju];refine ae (ae (bR ?_));show wpAny _ _ (Builtin.SmallTypes.nextOf (.ref i1)>>=_) _ _ _;exact ae (wC hh (iK g1 r1 D.i1z) (m8 t1 r1 D.l1z) ex λp2 e r2 he=>q p2 e (λc o m1 m2 m3 x=>r2 _ _ m2 (r1.extBut _ _ m1 x)) he)
def UO(D:ZipApart z ti to i1 i2 l1 l2)(nT:T≠z)(g:Zu v.heap z ti to i1 i2 l1 l2 T k)
  (t1:v.heap.IsTuple l1 xs) (t2:v.heap.IsTuple l2 ys) (ex:xs[k]?=some x) (ey:ys[k]?=some y)
  (q:∀h',Zu h' z ti to i1 i2 l1 l2 T (k+1)->IsPair h' v.heap.objs.size x y->(∀c o,c≠z->c≠i1->c≠i2->v.heap.get? c=some o->h'.get? c=some o)->Q (some (.ref v.heap.objs.size)) {v with heap:=h'}):
  wpAny (model P w) A (pyNext (.ref z)) Q E v:=by
 obtain⟨b,gs⟩:=g.self;have ty:v.TypeIs (.ref z) "zip":=⟨_,gs,rfl⟩;unfold pyNext;exact ae (dt (wpAny_callSpecial?_slot (name:=Str.ofString "__next__") ty dO (bC dO ty jJ (UP D nT g t1 t2 ex ey λh' b1 b2 b3=>ah (q h' b1 b2 b3)) (je _))))
def UN(hh:A.handled=none)(D:ZipApart z ti to i1 i2 l1 l2)(g:Zu v.heap z ti to i1 i2 l1 l2 T k)
  (t1:v.heap.IsTuple l1 xs) (ex:xs[k]?=none) (q:∀h',(∀c o,c≠z->c≠i1->c≠i2->v.heap.get? c=some o->h'.get? c=some o)->Q none {v with heap:=h'}):
  wpAny (model P w) A (pyNext (.ref z)) Q E v:=by
 obtain⟨b,gs⟩:=g.self;have ty:v.TypeIs (.ref z) "zip":=⟨_,gs,rfl⟩;unfold pyNext;refine ae (dt (wpAny_callSpecial?_slot (name:=Str.ofString "__next__") ty dO (bC dO ty jJ (WE hh D g t1 ex λh' e hk he=>?_) (je _))));obtain⟨o,ho,hc⟩:=he;exact ae (fu (T:="StopIteration") (b:=true) ⟨o,ho,hc⟩ jt (ah (q _ hk)))
variable{prog:Program}
def Wk{h0:Heap}(hA:A.handled=none)(D:ZipApart z ti to i1 i2 l1 l2)(h9:h0.get? d=none)(n1:d≠z)(n2:d≠i1)(n3:d≠i2)(n4:d≠ti)
  (rR:h0.IsTuple l1 us.toArray) (km:h0.IsTuple l2 vs.toArray) (hp:Paired (λ(u:Value)(p:Key×Value)=>(bA prog w).is p.1 u=true) us pairs) (hv:vs=pairs.map (·.2)) (hsz:pairs.length<=sizeLine) (g:Array GenState) (dr:Drawn) (os:OsState)
  (k:∀h' tk,(∀b o,b≠z->b≠to->b≠i1->b≠i2->h0.get? b=some o->h'.get? b=some o)->h'.DictOf (bA prog w) d (merged [] pairs)->R (.ok (.ret .none)) ⟨h',g,dr,tk,os⟩):
  ∀(m i:Nat)(h:Heap)(tk:Nat)(T:Addr),us.length -i=m->i<=us.length->(∀b o,b≠z->b≠to->b≠i1->b≠i2->h0.get? b=some o->h.get? b=some o)->T≠z->Zu h z ti to i1 i2 l1 l2 T i->h.DictOf (bA prog w) d (merged [] (pairs.take i))->
   codeAny (model prog w) A (.builtin "dict.update.loop" ⟨[.ref d,.ref z,rawInt i,.none],[]⟩) R ⟨h,g,dr,tk,os⟩:=by
 intro m;have lp:us.length=pairs.length:=bB hp;have TC:∀(h:Heap),(∀b o,b≠z->b≠to->b≠i1->b≠i2->h0.get? b=some o->h.get? b=some o)->h.IsTuple l1 us.toArray/\h.IsTuple l2 vs.toArray:=λh kp=>by obtain⟨o1,e1,r1⟩:=rR;obtain⟨o2,e2,r2⟩:=km;exact⟨⟨o1,kp _ _ D.l1z D.l1TO D.l1i1 D.l1i2 e1,r1⟩,⟨o2,kp _ _ D.l2z D.l2TO D.l2i1 D.l2i2 e2,r2⟩⟩
 induction m with
 |zero=>
  intro i h tk T em hi kp nT hz hd;have ei:i=us.length:=by lia
  refine cZ qN ?_;unfold Builtin.«dict.update.loop»;show wpAny _ _ (pyNext (.ref z)>>=_) _ _ _;refine ae (UN (show(A.under _).handled=none from hA) D hz (TC h kp).1 (by rw[ei];simp) λh' hs=>?_);show wpAny _ _ (Builtin.Dict.addKeywords d []>>=_) _ _ _;refine ae (ah (ah ?_));rw[ei,lp,a9]at hd;obtain⟨o,es,ep,e,r⟩:=hd;exact k h' _ (λb o m1 m2 m3 m4 hb=>hs b o m1 m3 m4 (kp b o m1 m2 m3 m4 hb)) ⟨o,es,ep,hs _ _ n1 n2 n3 e,r⟩
 |succ m ih=>
  intro i h tk T em hi kp nT hz hd;have bQ:i<us.length:=by lia
  obtain⟨x,hx⟩:∃x,us[i]?=some x:=⟨_,ar bQ⟩;obtain⟨kv,hG,Pg⟩:=Paired.at' hp hx;have hy:vs[i]?=some kv.2:=by rw[hv,aJ,hG];rfl
  refine cZ qN ?_;unfold Builtin.«dict.update.loop»;show wpAny _ _ (pyNext (.ref z)>>=_) _ _ _;obtain⟨t1,t2⟩:=TC h kp;refine ae (UO D nT hz t1 t2 (x:=x) (y:=kv.2) (by simpa using hx) (by simpa using hy) λh1 sS pr sU=>?_);have zK:∀b o,b≠z->b≠to->b≠i1->b≠i2->h0.get? b=some o->h1.get? b=some o:=λb o m1 m2 m3 m4 hb=>sU b o m1 m3 m4 (kp b o m1 m2 m3 m4 hb);obtain⟨od,es,ep,ed,rd⟩:=hd;have yN:h1.DictOf (bA prog w) d (merged [] (pairs.take i)):=⟨od,es,ep,sU _ _ n1 n2 n3 ed,rd⟩;refine ae (bR (ae (v8 ?_)));unfold Builtin.Dict.pairItems;refine ae (iw (T:="tuple") ⟨_,pr,rfl⟩ ?_);rw[aB (by decide)];refine ae (bS pr rfl (ah ?_));show wpAny _ _ (holding [x,kv.2] (dictSet d x kv.2)) _ _ _;have lm:(merged [] (pairs.take i)).length<=sizeLine:=by have e1:=oU [] (pairs.take i);rw[aS]at e1;simp only[cS]at e1;lia
  refine bR (qp (hsz:=lm) Pg yN λh2 hd2 jY=>?_);refine ah ⟨iB _ (by decide+kernel),?_⟩;have st:∀b o,b≠d->h1.get? b=some o->h2.get? b=some o:=λb o n e=>(jY.2 b n).trans e;have uB:∀b o,b≠z->b≠to->b≠i1->b≠i2->h0.get? b=some o->h2.get? b=some o:=λb o m1 m2 m3 m4 hb=>st b o (λe=>by rw[e,h9]at hb;cases hb) (zK b o m1 m2 m3 m4 hb);obtain⟨⟨b,gs⟩,⟨oT,gT⟩,gi,⟨oa,ja,ra⟩,⟨ob,jb,rb⟩⟩:=sS;have wL:Zu h2 z ti to i1 i2 l1 l2 T (i+1):=by
   refine⟨⟨b,st _ _ (bP n1) gs⟩,?_,st _ _ (bP n4) gi,⟨oa,st _ _ (bP n2) ja,ra⟩,⟨ob,st _ _ (bP n3) jb,rb⟩⟩;by_cases nd:T=d
   ·obtain⟨o',_,_,e',_⟩:=hd2;rw[nd];exact⟨o',e'⟩
   ·exact⟨oT,st _ _ nd gT⟩
  exact ih (i+1) h2 _ T (by lia) bQ uB nT wL (by rw[ux [] pairs i kv hG];exact hd2)
def R0{h0 h:Heap}(hA:A.handled=none)(D:ZipApart z ti to i1 i2 l1 l2)(h9:h0.get? d=none)(n1:d≠z)(n2:d≠i1)(n3:d≠i2)(n4:d≠ti)(n5:d≠to)
  (rR:h0.IsTuple l1 us.toArray) (km:h0.IsTuple l2 vs.toArray) (hp:Paired (λ(u:Value)(p:Key×Value)=>(bA prog w).is p.1 u=true) us pairs) (hv:vs=pairs.map (·.2)) (hsz:pairs.length<=sizeLine) (h1l:1<=us.length) (g:Array GenState) (dr:Drawn) (os:OsState)
  (k:∀h' tk,(∀b o,b≠z->b≠to->b≠i1->b≠i2->h0.get? b=some o->h'.get? b=some o)->h'.DictOf (bA prog w) d (merged [] pairs)->R (.ok (.ret .none)) ⟨h',g,dr,tk,os⟩)
  (kp:∀b o,b≠z->b≠to->b≠i1->b≠i2->h0.get? b=some o->h.get? b=some o) (hz:IsZip h z ti to .none) (hi:IsPair h ti (.ref i1) (.ref i2)) (ho:∃a b,IsPair h to a b) (j1:h.IsTupleIter i1 l1 0) (j2:h.IsTupleIter i2 l2 0) (hd:h.DictOf (bA prog w) d []):
   codeAny (model prog w) A (.builtin "dict.update.loop" ⟨[.ref d,.ref z,rawInt 0,.none],[]⟩) R ⟨h,g,dr,tk,os⟩:=by
 have lp:us.length=pairs.length:=bB hp;obtain⟨x,hx⟩:∃x,us[0]?=some x:=⟨_,ar (by lia)⟩;obtain⟨kv,hG,Pg⟩:=Paired.at' hp hx;have hy:vs[0]?=some kv.2:=by rw[hv,aJ,hG];rfl
 have t1:h.IsTuple l1 us.toArray:=by obtain⟨o1,e1,r1⟩:=rR;exact⟨o1,kp _ _ D.l1z D.l1TO D.l1i1 D.l1i2 e1,r1⟩
 have t2:h.IsTuple l2 vs.toArray:=by obtain⟨o2,e2,r2⟩:=km;exact⟨o2,kp _ _ D.l2z D.l2TO D.l2i1 D.l2i2 e2,r2⟩
 refine cZ qN ?_;unfold Builtin.«dict.update.loop»;show wpAny _ _ (pyNext (.ref z)>>=_) _ _ _;obtain⟨a,b,ho⟩:=ho;have lz:z<h.objs.size:=aF hz;refine ae (JB ⟨D.TITO,D.i12,D.l1TO,D.l2TO⟩ ⟨hz,hi,⟨a,b,ho⟩,j1,j2⟩ t1 t2 (x:=x) (y:=kv.2) (by simpa using hx) (by simpa using hy) λh1 ace a5 sU=>?_);obtain⟨a1,_,_,a3,a4⟩:=ace;have sU:∀c o,c≠z->c≠to->c≠i1->c≠i2->h.get? c=some o->h1.get? c=some o:=sU;have a5:IsPair h1 h.objs.size x kv.2:=a5;have a1:h1.get? z=some (t4 (rawInt h.objs.size) false ti to):=a1;obtain⟨od,es,ep,ed,rd⟩:=hd;have yN:h1.DictOf (bA prog w) d []:=⟨od,es,ep,sU _ _ n1 n5 n2 n3 ed,rd⟩;refine ae (bR (ae (v8 ?_)));unfold Builtin.Dict.pairItems;refine ae (iw (T:="tuple") ⟨_,a5,rfl⟩ ?_);rw[aB (by decide)];refine ae (bS a5 rfl (ah ?_));show wpAny _ _ (holding [x,kv.2] (dictSet d x kv.2)) _ _ _;refine bR (qp (hsz:=aO _) Pg yN λh2 hd2 jY=>?_);refine ah ⟨iB _ (by decide+kernel),?_⟩;have st:∀b o,b≠d->h1.get? b=some o->h2.get? b=some o:=λb o n e=>(jY.2 b n).trans e;obtain⟨oa,ja,ra⟩:=a3;obtain⟨ob,jb,rb⟩:=a4;have wL:Zu h2 z ti to i1 i2 l1 l2 h.objs.size 1:=by
  refine⟨⟨false,st _ _ (bP n1) a1⟩,?_,st _ _ (bP n4) (sU _ _ D.TIz D.TITO D.TIi1 D.TIi2 hi),⟨oa,st _ _ (bP n2) ja,ra⟩,⟨ob,st _ _ (bP n3) jb,rb⟩⟩;by_cases nd:h.objs.size=d
  ·obtain⟨o',_,_,e',_⟩:=hd2;rw[nd];exact⟨o',e'⟩
  ·exact⟨_,st _ _ nd a5⟩
 exact Wk hA D h9 n1 n2 n3 n4 rR km hp hv hsz g dr os k (us.length -1) 1 h2 _ h.objs.size rfl (by lia) (λb o m1 m2 m3 m4 hb=>st b o (λe=>by rw[e,h9]at hb;cases hb) (sU b o m1 m2 m3 m4 (kp b o m1 m2 m3 m4 hb))) (bx lz) wL (by rw[ux [] pairs 0 kv hG];exact hd2)
def aam{h0 h:Heap}(hA:A.handled=none)(D:ZipApart z ti to i1 i2 l1 l2)(h9:h0.get? d=none)(n1:d≠z)(n2:d≠i1)(n3:d≠i2)(n4:d≠ti)(n5:d≠to)
  (rR:h0.IsTuple l1 us.toArray) (km:h0.IsTuple l2 vs.toArray) (hp:Paired (λ(u:Value)(p:Key×Value)=>(bA prog w).is p.1 u=true) us pairs) (hv:vs=pairs.map (·.2)) (hsz:pairs.length<=sizeLine) (g:Array GenState) (dr:Drawn) (os:OsState)
  (k:∀h' tk,(∀b o,b≠z->b≠to->b≠i1->b≠i2->h0.get? b=some o->h'.get? b=some o)->h'.DictOf (bA prog w) d (merged [] pairs)->R (.ok (.ret .none)) ⟨h',g,dr,tk,os⟩)
  (kp:∀b o,b≠z->b≠to->b≠i1->b≠i2->h0.get? b=some o->h.get? b=some o) (hz:IsZip h z ti to .none) (hi:IsPair h ti (.ref i1) (.ref i2)) (ho:∃a b,IsPair h to a b) (j1:h.IsTupleIter i1 l1 0) (j2:h.IsTupleIter i2 l2 0) (hd:h.DictOf (bA prog w) d []):
   codeAny (model prog w) A (.builtin "dict.update.loop" ⟨[.ref d,.ref z,rawInt 0,.none],[]⟩) R ⟨h,g,dr,tk,os⟩:=by
 by_cases h1l:1<=us.length
 ·exact R0 hA D h9 n1 n2 n3 n4 n5 rR km hp hv hsz h1l g dr os k kp hz hi ho j1 j2 hd
 ·have lp:us.length=pairs.length:=bB hp;have e1:us=[]:=eK.mp (by lia);have e2:pairs=[]:=eK.mp (by lia);subst e1 e2;have t1:h.IsTuple l1 ([]:List Value).toArray:=by obtain⟨o1,e1,r1⟩:=rR;exact⟨o1,kp _ _ D.l1z D.l1TO D.l1i1 D.l1i2 e1,r1⟩
  have t2:h.IsTuple l2 vs.toArray:=by obtain⟨o2,e2,r2⟩:=km;exact⟨o2,kp _ _ D.l2z D.l2TO D.l2i1 D.l2i2 e2,r2⟩
  refine cZ qN ?_;unfold Builtin.«dict.update.loop»;show wpAny _ _ (pyNext (.ref z)>>=_) _ _ _;obtain⟨a,b,ho⟩:=ho;refine ae (JA (show(A.under _).handled=none from hA) ⟨D.TITO,D.i12,D.l1TO,D.l2TO⟩ ⟨hz,hi,⟨a,b,ho⟩,j1,j2⟩ t1 (by simp) λh' hs=>?_);show wpAny _ _ (Builtin.Dict.addKeywords d []>>=_) _ _ _;refine ae (ah (ah ?_));obtain⟨o,es,ep,e,r⟩:=hd;exact k h' _ (λb o m1 m2 m3 m4 hb=>hs b o m1 m2 m3 m4 (kp b o m1 m2 m3 m4 hb)) ⟨o,es,ep,hs _ _ n1 n5 n2 n3 e,r⟩
def R1(hA:A.handled=none)(D:ZipApart z ti to i1 i2 l1 l2)
  (rR:s.heap.IsTuple l1 us.toArray) (km:s.heap.IsTuple l2 vs.toArray) (hp:Paired (λ(u:Value)(p:Key×Value)=>(bA prog w).is p.1 u=true) us pairs) (hv:vs=pairs.map (·.2)) (hsz:pairs.length<=sizeLine)
  (hz:IsZip s.heap z ti to .none) (hi:IsPair s.heap ti (.ref i1) (.ref i2)) (ho:∃a b,IsPair s.heap to a b) (j1:s.heap.IsTupleIter i1 l1 0) (j2:s.heap.IsTupleIter i2 l2 0)
  (k:∀h' tk,(∀b o,b≠z->b≠to->b≠i1->b≠i2->s.heap.get? b=some o->h'.get? b=some o)->h'.DictOf (bA prog w) s.heap.objs.size (merged [] pairs)->Q (.ref s.heap.objs.size) {s with heap:=h',toks:=tk}):
  wpAny (model prog w) A (call (.type "dict") [.ref z]) Q E s:=by
 refine xa (Q₁:=λv1 z1=>v1=.ref s.heap.objs.size/\z1={s with heap:=s.heap.push {cls:=.type "dict",data:=.dict #[]}}) F.kt_called_dict (yt _) A9 (kt_code_dict_new _ ⟨rfl,rfl⟩) ?_;rintro v1 z1 ⟨rfl,rfl⟩;obtain⟨oA,g,dr,tk,os⟩:=s;have Cf:(oA.push {cls:=.type "dict",data:=.dict #[]}).DictOf (bA prog w) oA.objs.size []:=vF oA;have sS:(oA.push {cls:=.type "dict",data:=.dict #[]}).get? z=some (t4 .none false ti to):=af _ hz;refine⟨Cf.typeIs,Az _ _,?_⟩;unfold Builtin.«dict.__init__»;refine ae ?_;unfold Builtin.Dict.selfAndRest;refine ae (iF Cf.typeIs (ah ?_));show wpAny (model prog w) _ (Builtin.Dict.updateFrom "dict.__init__" oA.objs.size (.ref z) [] .none) _ _ _;unfold Builtin.Dict.updateFrom;refine ae (iw (T:="zip") ⟨_,sS,rfl⟩ ?_);rw[aB (by decide)];refine ae (Wj sS hA λh2 tk2 e ne=>?_);rw[aB (by decide)];refine ae (fg ?_);have kp:∀b o,oA.get? b=some o->h2.get? b=some o:=λb o hb=>ne.keeps _ _ (af _ hb);have wL:IsZip h2 z ti to .none:=kp _ _ hz;refine ae (kW wL ?_);have hd2:h2.DictOf (bA prog w) oA.objs.size []:=by obtain⟨o',es,ep,h',r⟩:=Cf;exact⟨o',es,ep,ne.keeps _ _ h',r⟩
 refine ah ⟨iB _ (by decide+kernel),?_⟩;obtain⟨a,b,ho⟩:=ho;obtain⟨oa,ja,ra⟩:=j1;obtain⟨ob,jb,rb⟩:=j2;have nz:∀{c:Addr}{o:Obj},oA.get? c=some o->oA.objs.size≠c:=λe=>bx (aF e);exact aam (h0:=oA) (show A.in1.handled=none from hA) D (gX (ak _)) (nz hz) (nz ja) (nz jb) (nz hi) (nz ho) rR km hp hv hsz g dr os (λh' CN Bo pS=>⟨rfl,k h' CN Bo pS⟩) (λb o _ _ _ _ hb=>kp b o hb) wL (kp _ _ hi) ⟨a,b,kp _ _ ho⟩ ⟨oa,kp _ _ ja,ra⟩ ⟨ob,kp _ _ jb,rb⟩ hd2
inductive aaM(K:Frag)(Q:VK)(vs:List V)(H1:Hp):Prop
 |mk (l1 l2:Addr) (ks:List Key) (ys:List V) (_:vs=[.ref l1,.ref l2]) (_:bE K H1 l1 (ks.map kV)) (_:bE K H1 l2 ys) (_:ks.length=ys.length) (_:∀d,H1 d=none->Q (.ref d) (upd H1 d (.dK (dX [] (ks.zip ys)))))
def abI(K:Frag)(ta:TA):TE:=λZ H Q=>ta Z H λvs H1=>aaM K Q vs H1
variable{X:Cx}
def Hb(hg:Gl X "dict")(hm:X.mg "dict"=none)(hg2:Gl X "zip")(Pc:X.mg "zip"=none)(hA:X.A.handled=none)(ha:PA X [a,b] ta)
  (hs:starEach [a,b] X.env=[(false,eval a X.env),(false,eval b X.env)]:=by rfl) (jY:starEach [b] X.env=[(false,eval b X.env)]:=by rfl) (Ic:starEach [.Call (.Name "zip" p2) [a,b] [] Eh] X.env=[(false,eval (.Call (.Name "zip" p2) [a,b] [] Eh) X.env)]:=by rfl):
  PE X (.Call (.Name "dict" p) [.Call (.Name "zip" p2) [a,b] [] Eh] [] pos) (abI X.K ta):=by
 intro pins s Z H Q I h;refine D5 (pK I hg hm (by decide+kernel:bootBuiltins "dict"=some (.type "dict")) (dC ?_ Ic rfl));rw[Ic];show wpAny _ _ (spliced [(false,eval (.Call (.Name "zip" p2) [a,b] [] Eh) X.env)]) _ _ s;refine fG (D5 (pK I hg2 Pc boot_zip (dC (pA (ha Eh pins s Z H _ I h) λus s1 vs H1 I1 r1 q1=>?_) (by rw[hs,jY]) (by rw[jY];rfl))));obtain⟨l1,l2,ks,ys,e,h1,h2,Zo,q⟩:=q1;subst e;obtain⟨u1,u2,rfl,GO,CY⟩:=vals2 r1;cases GO;cases CY;obtain⟨Dg,GN,C2,sS⟩:=I1.tuple h1;obtain⟨zO,GL,zx,wL⟩:=I1.tuple h2;obtain⟨pairs,zT,vv,oy,KI⟩:=JF (P:=X.prog) (w:=X.w) GN GL Zo;have b1:l1<s1.heap.objs.size:=by obtain⟨o,e,_⟩:=id C2;exact aF e
 have b2:l2<s1.heap.objs.size:=by obtain⟨o,e,_⟩:=id zx;exact aF e
 have lz:ks.length<=sizeLine:=by rw[ag]at sS;exact sS
 refine JD (show s1.heap.IsTuple l1 Dg.toArray from C2) (show s1.heap.IsTuple l2 zO.toArray from zx) λh' n en zt kp=>?_;subst en;have I2:Inv X pins Z H1 {s1 with heap:=h'}:=I1.kept (t':=s1.toks) kp;refine kG ?_;have t1:h'.IsTuple l1 Dg.toArray:=by obtain⟨o,e,r⟩:=id C2;exact⟨o,kp _ _ e,r⟩
 have t2:h'.IsTuple l2 zO.toArray:=by obtain⟨o,e,r⟩:=id zx;exact⟨o,kp _ _ e,r⟩
 have l0:Dg.length=ks.length:=by have:=GN.length;rw[ag]at this;exact this.symm
 refine R1 (s:={s1 with heap:=h'}) hA (zipApart_new b1 b2) t1 t2 zT vv (by lia) zt.self zt.ins zt.outs zt.w1 zt.w2 λh2 tk uB hd=>?_;have rel:KV (dX [] (ks.zip ys)) (merged [] pairs):=KV.merge oy .nil;have lzm:(dX [] (ks.zip ys)).length<=sizeLine:=by have e1:=oU [] pairs;rw[rel.length];simp only[cS]at e1;lia
 have kpA:∀c o,s1.heap.get? c=some o->h2.get? c=some o:=λc o e=>by have lc:=aF e;exact uB c o (aH (bg lc (dy _ _))) (aH (bg lc (dy _ _))) (aH lc) (aH (bg lc (dy _ _))) (kp c o e)
 have ld:s1.heap.objs.size<=h'.objs.size:=by exact aE (dy _ 4) (bu (aF zt.self))
 exact⟨.ref h'.objs.size,_,I1.laid (t':=tk) kpA ld (w5 lzm (fb.mpr (bP (aH (bg I1.big ld)))) rel hd),rfl,q _ (I1.bw.fresh ld)⟩
inductive Vk(x:V)(vs:List V)(H:Hp)(Q:VK):Prop
 |mk (a b:Addr) (kvs more:List (Key×V)) (_:x=.ref a) (_:vs=[.ref b]) (_:a≠b) (_:H a=some (.dK kvs)) (_:H b=some (.dK more)) (_:kvs.length+more.length<=sizeLine) (_:Q .cb (upd H a (.dK (dX kvs more))))
def Oj:Qi X "dict.update" Vk:=by
 intro pins s Z H x vs v us Q I rx rv h;obtain⟨a,b,kvs,more,rfl,rfl,ne,hH,hb,hl,q⟩:=h;cases rx;obtain⟨u,rfl,r1⟩:=rv.one;cases r1;obtain⟨zz,hd,ws,rel,dd⟩:=tN I.bw hH;obtain⟨Sw,hd2,ws2,Xx,La⟩:=tN I.bw hb;refine pZ uS dd.typeIs PySem.F.entry_dict_update (PySem.F.args_dict_update_2 _ _) (meets_dict_update (bA X.prog X.w) a b ne hd2) ⟨ws,ws2,dd,La,by rw[<-rel.length,<-Xx.length];exact hl,λh' qx _ hs=>?_⟩;have he:∃o,h'.get? a=some o:=let⟨o,_,_,ho,_⟩:=qx;⟨o,ho⟩
 have hlen:(dX kvs more).length<=sizeLine:=aE (jQ more kvs) hl;exact⟨.cb,_,qO I (by rw[hH];exact True.intro) hs he (w5 hlen hd (Xx.merge rel) qx),rfl,q⟩
end
end L2
namespace K06
open PySem PySem.Spec PyProof.Rows L2 DU
seal L2.PE L2.PT L2.PW L2.PA L2.PS L2.kU L2.PI L2.PO L2.DV L2.PG L2.DW
section
variable{P:Program}{w:World}{K:Frag}{mg:Str->Option Value}{base:Heap}
theorem ve:∀{more kvs:List (Key×V)},(eI (dX kvs more) k).isSome=true↔(eI kvs k).isSome=true\/k∈more.map (·.1)
 |[],kvs=>⟨.inl,λh=>h.elim id λz=>by cases z⟩
 |x::more,kvs=>by
  show(eI (dX (putK kvs x.1 x.2) more) k).isSome=true↔_;rw[ve (more:=more) (kvs:=putK kvs x.1 x.2),Qt,aX,aI];by_cases c:k=x.1
  ·rw[aB c];exact⟨λ_=>.inr (.inl c),λ_=>.inl rfl⟩
  ·rw[ax c];exact⟨λh=>h.imp id .inr,λh=>h.imp id λz=>z.resolve_left c⟩
def HJ{zs:List Str}:(Sum.inr z:Key)∈((zs.map (Sum.inr:Str->Key)).zip (zs.map V.str)).map (·.1)↔z∈zs:=by rw[List.map_fst_zip (by simp),aM];exact⟨λ⟨y,h,e⟩=>by cases e;exact h,λh=>⟨z,h,rfl⟩⟩
def Kz{zs:List Str}:(zs.map (Sum.inr:Str->Key)).map kV=zs.map V.str:=by rw[cx];rfl
def aax(H:Hp)(d:Addr)(p:Str->Prop):Prop:=∃kvs,H d=some (.dK kvs)/\∀z,(eI kvs (Sum.inr z:Key)).isSome=true↔p z
def rq(h:m6 H v a)(s:bG H H'):m6 H' v a:=by obtain⟨p,t,e,h1,h2⟩:=h;exact⟨p,t,e,s _ _ h1,s _ _ h2⟩
def p6(h:fX H vs as)(s:bG H H'):fX H' vs as:=by
 induction h with
 |nil=>exact .nil
 |cons h _ ih=>exact .cons (rq h s) ih
inductive Gy(K:Frag)(vs:List V)(H:Hp)(Q:VK)(_x3:XK):Prop
 |mk (h l:Addr) (hz:List Str) (ys:List V) (ba:List (Str×List Str)) (_:vs=[.ref h,.ref l]) (_:bE K H h (hz.map V.str)) (_:bp K H l ys) (_:fX H ys ba) (_:hz.length<=100) (_:ba.length<=100) (_:(∀a∈ba,a.2.length<=100)) (_:∀(d:Addr)(H':Hp),bG H H'->H d=none->aax H' d (λz=>z∈hz\/∃a∈ba,z∈a.2)->Q (.ref d) H')
def lW:cu ["head","atoms","needed","name","terms"] ["head","atoms"] (defScope qE):=jx (by decide+kernel)
def C7(F:eZ K "needed_terms" "needed_terms" qE f fd)(T:Txt K mg):cY P w K mg base fH 1 f fd ["head","atoms"] (Gy K):=by
 refine F.ok lW (λvs H Q E h=>?_) (λc6 A outer s H vs Q E hr h=>?_)
 ·obtain⟨a,b,c,d,e,rfl,_⟩:=h;rfl
 obtain⟨h,l,hz,ys,ba,rfl,hh,hl,qr,lh,la,lt,k⟩:=h;have hu:=iL hr;refine⟨_,(aP (fM 2 lW (Hb rfl T.Dd rfl T.F6 hr.hd (ao (pv 0) (ao (pv 0) az))))
   (aP (eJ bF rfl (gq (pv 1)) (lE rfl (dk (iz 3 lW) (dk (iz 4 lW) jO)))
   (bj (iI (kz hZ uS PySem.F.type_dict_update Oj (pv 2) (ao (Hb rfl T.Dd rfl T.F6 hr.hd (ao (pv 4) (ao (pv 4) az))) az)))))
   (bj (cJ (pv 2))))),?_⟩
 have ly:ys.length=ba.length:=bB qr;refine⟨_,rfl,_,rfl,h,h,hz.map Sum.inr,hz.map V.str,rfl,by rw[Kz];exact hh,hh,by rw[ag,ag],λd h9=>?_⟩;have s1:=aL h9 (.dK (dX [] ((hz.map (Sum.inr:Str->Key)).zip (hz.map V.str))));refine⟨_,rfl,l,rfl,⟨_,fR hl s1⟩,mM (K:=K) (a:=l) (xs:=ys)
  (λi Z H2=>∃(x1 x2:Option V),Z=[some (.ref h),some (.ref l),some (.ref d),x1,x2]/\bG H H2/\i<=ba.length/\∃kvs,H2 d=some (.dK kvs)/\kvs.length<=100+100*i/\∀z,(eI kvs (Sum.inr z:Key)).isSome=true↔(z∈hz\/∃a∈ba.take i,z∈a.2))
  ⟨none,none,rfl,s1,aO _,_,au,?_,?_⟩ (λi Z H2 _ ⟨_,_,_,sm,_⟩=>fR hl sm) ?_ ?_⟩
 ·refine aE (jQ _ _) ?_;rw[mi,ag,ag,cS];lia
 ·intro z;rw[ve,HJ];exact⟨λh=>h.elim (λz=>by cases z) .inl,λh=>h.elim .inr λ⟨a,ha,_⟩=>by cases ha⟩
 ·rintro i x Z H2 hx ⟨x1,x2,rfl,s2,_,kvs,hd2,lk,hv⟩;obtain⟨a,ha,p,t,rfl,hp,ht⟩:=Paired.at qr hx;have bQ:i<ba.length:=(aq.mp ha).1;have l1:=lt a (aC ha);refine⟨p,_,rfl,bE.of (s2 _ _ hp),rfl,_,_,rfl,_,_,rfl,rfl,?_⟩;have OY:bE K H2 t (a.2.map V.str):=bE.of (s2 _ _ ht);refine⟨_,rfl,.inr (.inr (.inl ⟨rfl,.inl ⟨_,hd2⟩⟩)),_,rfl,_,rfl,t,t,a.2.map Sum.inr,a.2.map V.str,rfl,by rw[Kz];exact OY,OY,by rw[ag,ag],λe Fy=>?_⟩;have s3:=aL Fy (.dK (dX [] ((a.2.map (Sum.inr:Str->Key)).zip (a.2.map V.str))));have lm:(dX [] ((a.2.map (Sum.inr:Str->Key)).zip (a.2.map V.str))).length<=100:=by refine aE (jQ _ _) ?_;rw[mi,ag,ag,cS];lia
  refine⟨d,e,kvs,_,rfl,rfl,aW hd2 Fy,s3 _ _ hd2,au,bu (bZ (Nat.add_le_add lk lm) ?_),?_⟩
  ·exact bZ (show 100+100*i+100<=20000 by lia) (by decide)
  refine⟨_,_,rfl,λb o q=>?_,bQ,_,au,?_,λz=>?_⟩
  ·rw[aw (aW q h9)];exact s3 _ _ (s2 _ _ q)
  ·refine aE (jQ _ _) ?_;lia
  ·rw[ve,hv,aZ,ha,bI];have e1:(Sum.inr z:Key)∈(dX [] ((a.2.map (Sum.inr:Str->Key)).zip (a.2.map V.str))).map (·.1)↔z∈a.2:=by
    rw[<-HJ (zs:=a.2)];have:=ve (k:=(Sum.inr z:Key)) (more:=(a.2.map (Sum.inr:Str->Key)).zip (a.2.map V.str)) (kvs:=[]);refine Iff.trans ⟨λh=>?_,λh=>?_⟩ (this.trans ⟨λh=>h.elim (λz=>by cases z) id,.inr⟩)
    ·cases q:eI (dX [] ((a.2.map (Sum.inr:Str->Key)).zip (a.2.map V.str))) (Sum.inr z:Key)with
     |none=>exact absurd h (Qu q)
     |some _=>rfl
    ·obtain⟨v,q⟩:=jz.mp h;exact JL q
   rw[e1];constructor
   ·rintro((h|⟨b,hb,h⟩)|h)
    ·exact .inl h
    ·exact .inr ⟨b,cX _ hb,h⟩
    ·exact .inr ⟨a,bN _ aA,h⟩
   ·rintro(h|⟨b,hb,h⟩)
    ·exact .inl (.inl h)
    ·rcases bf.mp hb with hb|hb
     ·exact .inl (.inr ⟨b,hb,h⟩)
     ·cases ay.mp hb;exact .inr h
 ·rintro Z H2 ⟨x1,x2,rfl,s2,_,kvs,hd2,_,hv⟩;rw[ly,a9]at hv;exact⟨_,rfl,k d H2 s2 h9 ⟨kvs,hd2,hv⟩⟩
end
end K06
namespace L2
open PySem PySem.Spec PyProof.Rows
section
variable{P:Program}{w:World}{A:Around}{E:Value->Shared->Prop}{s:Shared}{it d:Addr}{i ep:Nat}{es:Array DictEntry}{o:Obj}
abbrev kS(f0:Value)(b:Bool)(d:Addr)(i n ep:Nat)(ok ov:Value):Obj:={cls:=.type "dict_itemiterator",dict:=none,data:=.fields #[f0,.bool b,.ref d,.int i 0,.int n 0,.int ep 0,ok,ov],slots:=#[]}
def RI(h:Heap)(it d:Addr)(i n ep:Nat):Prop:=∃f0 b ok ov,h.get? it=some (kS f0 b d i n ep ok ov)/\(f0=.none\/∃a:Nat,f0=rawInt a)
def RI.ty(x:RI s.heap it d i es.size ep):s.TypeIs (.ref it) "dict_itemiterator":=by obtain⟨_,_,_,_,e,_⟩:=x;exact⟨_,e,rfl⟩
def RI.iS(x:RI h it d i n ep)(k:∀o,h.get? it=some o->h'.get? it=some o):RI h' it d i n ep:=by obtain⟨f0,b,ok,ov,e,c⟩:=x;exact⟨f0,b,ok,ov,k _ e,c⟩
def Vi(g:s.heap.get? it=some (kS f0 b d i n ep ok ov))(hf:f0=.none\/∃a:Nat,f0=rawInt a)(q1:Q true s)
  (q2:∀h',h'.get? it=some (kS f0 true d i n ep ok ov)->Heap.SameBut it s.heap h'->Q false {s with heap:=h'}):wpAny (model P w) A (Builtin.Dict_items.ownedTupleIsFree (.ref it)) Q E s:=by
 unfold Builtin.Dict_items.ownedTupleIsFree;rcases hf with rfl|⟨a,rfl⟩
 ·exact ae (bO g rfl (x:=.none) rfl (ah q1))
 ·refine ae (bO g rfl (x:=rawInt a) rfl ?_);show wpAny _ _ (loadIfAlive (Int.toNat (a:Int))>>=_) _ _ _;refine ae (Bc ?_);rw[cN];cases s.heap.get? a with
  |none=>exact ah q1
  |some u=>
   show wpAny _ _ (field (.ref it) 1>>=_) _ _ _;refine ae (bO g rfl (x:=.bool b) rfl ?_);cases b with
   |true=>exact ah (q2 s.heap g (A7 _ _))
   |false=>exact ae (bW g (by simp) λh1 g1 s1=>ah (q2 h1 g1 s1))
def Kd{Q:Value->Shared->Prop}(gF:RI s.heap it d i es.size ep)(ho:s.heap.get? d=some o)(hd:o.data=.dict es ep)(hi:i<es.size)
  (q:∀h',RI h' it d (i+1) es.size ep->h'.get? s.heap.objs.size=some {cls:=.type "tuple",data:=.seq #[es[i].key,es[i].val]}->(∀b x,b≠it->s.heap.get? b=some x->h'.get? b=some x)->h'.objs.size=s.heap.objs.size+1->Q (.ref s.heap.objs.size) {s with heap:=h'}):
  wpAny (model P w) A (Builtin.«dict_itemiterator.__next__» ⟨[.ref it],[]⟩) (λfin s'=>∃u,fin=.done (.ret u)/\Q u s') E s:=by
 have hT:=gF.ty;obtain⟨f0,b,ok,ov,hit,hf⟩:=gF;obtain⟨hp,g,dr,tk,os⟩:=s;refine ae (ah (ae (ae (ae (gJ hT (ah ?_))))));refine ae (ic hit rfl ?_);have own:Builtin.Dict_items.ownsTuple "dict_itemiterator"=true:=by decide
 simp only[own,fJ];show wpAny _ _ (if(Value.ref d==Value.none)=true then _ else _) _ _ _;rw[ax (show ¬((Value.ref d==Value.none)=true)from aT)];refine ae (ah (ae (fQ ho hd ?_)));rw[ax (by simp)];refine ae (ah (ae (jS ho hd ?_)));rw[ax (by simp)];refine ah ?_;simp only[show ¬((i:Int)<0)from by lia,bX,cN,bz hi];refine ae (ae (gJ hT (ah (ae (nZ hT ?_)))));show wpAny _ _ (setField (.ref it) 3 (rawInt ((i:Int)+1))>>=_) _ _ ⟨hp,g,dr,tk,os⟩;refine ae (bW hit (by simp) λh1 e1 s1=>?_);have s1:Heap.SameBut it hp h1:=s1;have e1:h1.get? it=some (kS f0 b d (i+1) es.size ep ok ov):=by
  have e:((i+1:Nat):Int)=(i:Int)+1:=by lia
  unfold kS;rw[e];simpa[rawInt]using e1
 have hT1:Shared.TypeIs ⟨h1,g,dr,tk,os⟩ (.ref it) "dict_itemiterator":=⟨_,e1,rfl⟩;refine ae (bR (ae (nZ hT1 (ae (nZ hT1 ?_)))));show wpAny _ _ (Builtin.Dict_items.pairFromOwner (.ref it) 6 es[i].key es[i].val) _ _ ⟨h1,g,dr,tk,os⟩;unfold Builtin.Dict_items.pairFromOwner;refine ae (kI ?_);have lt:it<hp.objs.size:=aF hit;have z1:h1.objs.size=hp.objs.size:=s1.1;obtain⟨h2,Dw⟩:∃h2,h2=h1.push {cls:=.type "tuple",data:=.seq #[es[i].key,es[i].val]}:=⟨_,rfl⟩;have e2:h2.get? it=some (kS f0 b d (i+1) es.size ep ok ov):=by rw[Dw];exact af _ e1
 have t2:h2.get? hp.objs.size=some {cls:=.type "tuple",data:=.seq #[es[i].key,es[i].val]}:=by rw[Dw,<-z1];exact aG _ rfl
 have k2:∀b x,b≠it->hp.get? b=some x->h2.get? b=some x:=λb x nb e=>by rw[Dw];exact af _ (s1.extBut b x nb e)
 have z2:h2.objs.size=hp.objs.size+1:=by rw[Dw,b6,z1]
 show wpAny _ _ (Builtin.Dict_items.ownedTupleIsFree (.ref it)>>=_) _ _ ⟨h1.push {cls:=.type "tuple",data:=.seq #[es[i].key,es[i].val]},g,dr,tk,os⟩;rw[<-Dw,z1];refine ae (Vi (s:=⟨h2,g,dr,tk,os⟩) e2 hf ?_ λh3 e3 s3=>?_)
 ·simp only[fJ];refine ae (bO e2 rfl (x:=ok) rfl (ae (bO e2 rfl (x:=ov) rfl ?_)));refine ae (bW e2 (by simp) λh3 e3 s3=>?_);have s3:Heap.SameBut it h2 h3:=s3;have e3:h3.get? it=some (kS f0 b d (i+1) es.size ep es[i].key ov):=e3;refine ae (bW e3 (by simp) λh4 e4 s4=>?_);have s4:Heap.SameBut it h3 h4:=s4;have e4:h4.get? it=some (kS f0 b d (i+1) es.size ep es[i].key es[i].val):=e4;refine ae (bW e4 (by simp) λh5 e5 s5=>?_);have s5:Heap.SameBut it h4 h5:=s5;have e5:h5.get? it=some (kS (rawInt hp.objs.size) b d (i+1) es.size ep es[i].key es[i].val):=e5;refine ae (bW e5 (by simp) λh6 e6 s6=>?_);have s6:Heap.SameBut it h5 h6:=s6;have e6:h6.get? it=some (kS (rawInt hp.objs.size) false d (i+1) es.size ep es[i].key es[i].val):=e6;have up:∀b x,b≠it->h2.get? b=some x->h6.get? b=some x:=λb x nb e=>s6.extBut b x nb (s5.extBut b x nb (s4.extBut b x nb (s3.extBut b x nb e)));exact ae (lK (ah (ah ⟨_,rfl,q h6 ⟨_,_,_,_,e6,.inr ⟨_,rfl⟩⟩ (up _ _ (bx lt) t2) (λb x nb e=>up b x nb (k2 b x nb e)) (by rw[s6.1,s5.1,s4.1,s3.1,z2])⟩)))
 ·have s3:Heap.SameBut it h2 h3:=s3;simp only[bh,bX];exact ah (ah ⟨_,rfl,q h3 ⟨_,_,_,_,e3,hf⟩ (s3.extBut _ _ (bx lt) t2) (λb x nb e=>s3.extBut b x nb (k2 b x nb e)) (by rw[s3.1,z2])⟩)
def NJ(hh:A.handled=none)(gF:RI s.heap it d i es.size ep)(ho:s.heap.get? d=some o)(hd:o.data=.dict es ep)(hi:es.size<=i)
  (q:∀h' e,(∀b x,b≠it->s.heap.get? b=some x->h'.get? b=some x)->(∃o,h'.get? e=some o/\o.cls=.type "StopIteration")->E (.ref e) {s with heap:=h'}):
  wpAny (model P w) A (Builtin.«dict_itemiterator.__next__» ⟨[.ref it],[]⟩) Q E s:=by
 have hT:=gF.ty;obtain⟨f0,b,ok,ov,hit,hf⟩:=gF;refine ae (ah (ae (ae (ae (gJ hT (ah ?_))))));refine ae (ic hit rfl ?_);have own:Builtin.Dict_items.ownsTuple "dict_itemiterator"=true:=by decide
 simp only[own,fJ];show wpAny _ _ (if(Value.ref d==Value.none)=true then _ else _) _ _ s;rw[ax (show ¬((Value.ref d==Value.none)=true)from aT)];refine ae (ah (ae (fQ ho hd ?_)));rw[ax (by simp)];refine ae (ah (ae (jS ho hd ?_)));rw[ax (by simp)];refine ah ?_;simp only[show ¬((i:Int)<0)from by lia,bX,cN,kj hi];refine ae (ae (gJ hT (ah ?_)));show wpAny _ _ (setField (.ref it) 2 .none>>=_) _ _ s;refine ae (eT hit rfl (by simp) ?_);exact Tb.AE (s:=s) hh λh' e kp he=>q h' e (λb x nb g=>kp b x ((bJ _ _ (bP nb)).trans g)) he
def Vh(gF:RI s.heap it d i es.size ep)(ho:s.heap.get? d=some o)(hd:o.data=.dict es ep)(hi:i<es.size)
  (q:∀h',RI h' it d (i+1) es.size ep->h'.get? s.heap.objs.size=some {cls:=.type "tuple",data:=.seq #[es[i].key,es[i].val]}->(∀b x,b≠it->s.heap.get? b=some x->h'.get? b=some x)->h'.objs.size=s.heap.objs.size+1->Q (some (.ref s.heap.objs.size)) {s with heap:=h'}):
  wpAny (model P w) A (pyNext (.ref it)) Q E s:=by
 unfold pyNext;exact ae (dt (wpAny_callSpecial?_slot (name:=Str.ofString "__next__") gF.ty bV (bC bV gF.ty fA (Kd gF ho hd hi λh' a b c e=>ah (q h' a b c e)) (fo _))))
def NI(gF:RI s.heap it d i es.size ep)(ho:s.heap.get? d=some o)(hd:o.data=.dict es ep)(hi:i<es.size)
  (q:∀h',RI h' it d (i+1) es.size ep->h'.get? s.heap.objs.size=some {cls:=.type "tuple",data:=.seq #[es[i].key,es[i].val]}->(∀b x,b≠it->s.heap.get? b=some x->h'.get? b=some x)->h'.objs.size=s.heap.objs.size+1->Q (.ref s.heap.objs.size) {s with heap:=h'}):
  wpAny (model P w) A (Builtin.SmallTypes.nextOf (.ref it)) Q E s:=by
 unfold Builtin.SmallTypes.nextOf;exact ae (wpAny_callSpecial?_slot (name:=Str.ofString "__next__") gF.ty bV (bC bV gF.ty fA (Kd gF ho hd hi λh' a b c e=>ah (q h' a b c e)) (fo _)))
def Vg(hh:A.handled=none)(gF:RI s.heap it d i es.size ep)(ho:s.heap.get? d=some o)(hd:o.data=.dict es ep)(hi:es.size<=i)
  (q:∀h',(∀b x,b≠it->s.heap.get? b=some x->h'.get? b=some x)->Q none {s with heap:=h'}):wpAny (model P w) A (pyNext (.ref it)) Q E s:=by
 unfold pyNext;refine ae (dt (wpAny_callSpecial?_slot (name:=Str.ofString "__next__") gF.ty bV (bC bV gF.ty fA (NJ (show A.in1.handled=none from hh) gF ho hd hi λh' e kp ⟨oe,he,ce⟩=>?_) (fo _))));exact ae (fu (T:="StopIteration") (b:=true) ⟨oe,he,ce⟩ jt (ah (q _ kp)))
def NH(hh:A.handled=none)(gF:RI s.heap it d i es.size ep)(ho:s.heap.get? d=some o)(hd:o.data=.dict es ep)(hi:es.size<=i)
  (q:∀h' e,(∀b x,b≠it->s.heap.get? b=some x->h'.get? b=some x)->(∃o,h'.get? e=some o/\o.cls=.type "StopIteration")->E (.ref e) {s with heap:=h'}):wpAny (model P w) A (Builtin.SmallTypes.nextOf (.ref it)) Q E s:=by
 unfold Builtin.SmallTypes.nextOf;exact ae (wpAny_callSpecial?_slot (name:=Str.ofString "__next__") gF.ty bV (bC bV gF.ty fA (NJ (show A.in1.handled=none from hh) gF ho hd hi λh' e kp he=>q h' e kp he) (fo _)))
end
structure Tk(es:Array DictEntry)(lo:Addr)(h:Heap)(as:List Addr):Prop where
 up:as.Pairwise (·<·)
 ab:∀a∈as,lo<=a
 tp:∀(j:Nat)(a:Addr),as[j]?=some a->∃hj:j<es.size,h.get? a=some {cls:=.type "tuple",data:=.seq #[es[j].key,es[j].val]}
section
variable{P:Program}{w:World}{A:Around}{s:Shared}{R:Result->Shared->Prop}{es:Array DictEntry}{ep:Nat}{d:Addr}{o:Obj}
def Tk.low{lo Oz:Addr}(x:Tk es lo h as)(l:Oz<=lo):Tk es Oz h as:=⟨x.up,λa ha=>aE l (x.ab a ha),x.tp⟩
abbrev yJ(acc:Array Value)(c:Nat):Obj:={cls:=.type "list",dict:=none,data:=.seq acc c,slots:=#[]}
def VX(hh:A.handled=none)(X9:S≠I)(dS:d≠S)(dI:d≠I)(rQ:o.data=.dict es ep)(hz:es.size<=sizeLine)(res:Value){h0:Heap}(lS:S<h0.objs.size)(lI:I<h0.objs.size)
  (k:∀h' tk acc c as,(∀b x,b≠S->b≠I->h0.get? b=some x->h'.get? b=some x)->h'.get? S=some (yJ acc c)->as.length=es.size->Tk es h0.objs.size h' as->acc.toList=as.map Value.ref->R (.ok (.ret res)) {s with heap:=h',toks:=tk}):
  ∀(n i:Nat)(h:Heap)(tk c:Nat)(acc:Array Value)(as:List Addr),es.size -i=n->i<=es.size->RI h I d i es.size ep->h.get? d=some o->(∀b x,b≠S->b≠I->h0.get? b=some x->h.get? b=some x)->h.get? S=some (yJ acc c)->
   acc.toList=as.map Value.ref->as.length=i->Tk es h0.objs.size h as->h0.objs.size<=h.objs.size->codeAny (model P w) A (.builtin "list.extend.loop" ⟨[.ref S,.ref I,res],[]⟩) R {s with heap:=h,toks:=tk}:=by
 intro n
 induction n with
 |zero=>
  intro i h tk c acc as en hi st gd kp gS ea la T lh;refine cZ tT ?_;rw[fL gD];show wpAny _ A.in1 (pyNext (.ref I)>>=_) _ _ _;refine ae (Vg (s:={s with heap:=h,toks:=tk}) (A:=A.in1) hh st gd rQ (by lia) λh' kq=>ah ?_);exact k h' tk acc c as (λb x n1 n2 e=>kq b x n2 (kp b x n1 n2 e)) (kq _ _ X9 gS) (by lia) ⟨T.up,T.ab,λj a hj=>(T.tp j a hj).imp λ_ e=>kq a _ (bx (bg lI (T.ab a (aC hj)))) e⟩ ea
 |succ n ih=>
  intro i h tk c acc as en hi st gd kp gS ea la T lh;have bQ:i<es.size:=by lia
  have la2:acc.size=i:=by rw[<-aR,ea,ag,la]
  refine cZ tT ?_;rw[fL gD];show wpAny _ A.in1 (pyNext (.ref I)>>=_) _ _ _;refine ae (Vh (s:={s with heap:=h,toks:=tk}) (A:=A.in1) st gd rQ bQ λh' gM gt kq zq=>?_);have gS':=kq S _ X9 gS;have zq:h'.objs.size=h.objs.size+1:=zq;have gt:h'.get? h.objs.size=some {cls:=.type "tuple",data:=.seq #[es[i].key,es[i].val]}:=gt;obtain⟨h2,eh⟩:∃h2,h2=h'.update S (Obj.mapSeq (·.push (Value.ref h.objs.size))):=⟨_,rfl⟩;have go:∀b x,b≠S->h'.get? b=some x->h2.get? b=some x:=λb x nb e=>by rw[eh];exact(bJ _ _ (bP nb)).trans e
  have gU:=b7 (Obj.mapSeq (·.push (Value.ref h.objs.size))) gS' rfl;rw[<-eh]at gU;obtain⟨c2,gS2⟩:∃c,h2.get? S=some (yJ (acc.push (Value.ref h.objs.size)) c):=⟨_,gU⟩;show wpAny _ A.in1 (updateSeq S (·.push (Value.ref h.objs.size))>>=_) _ _ _;refine ae (iD gS' rfl (ah ⟨f6 gD _,?_⟩) (by rw[la2];lia) (by show(acc.push (Value.ref h.objs.size)).size<=sizeLine+1;rw[Array.size_push,la2];lia));have nS:h.objs.size≠S:=bx (bg lS lh);have z2:h.objs.size<h2.objs.size:=aF (go _ _ nS gt);have fin:=ih (i+1) h2 tk _ (acc.push (Value.ref h.objs.size)) (as++[h.objs.size]) (by lia) bQ (gM.iS λx e=>go I x (bP X9) e) (go d o dS (kq d o dI gd)) (λb x n1 n2 e=>go b x n1 (kq b x n2 (kp b x n1 n2 e))) gS2
   (by rw[kH,ea,aQ];rfl) (by rw[aK,la];rfl) ⟨ji.mpr ⟨T.up,fP _ _,λa ha b hb=>?_⟩,λa ha=>?_,λj a hj=>?_⟩ (bu (bZ lh z2))
  ·rw[eh]at fin;exact fin
  ·rw[ay.mp hb];obtain⟨j,hj⟩:=eC.mp ha;obtain⟨_,e⟩:=T.tp j a hj;exact aF e
  ·rcases bf.mp ha with ha|ha
   ·exact T.ab a ha
   ·rw[ay.mp ha];exact lh
  ·by_cases q:j<as.length
   ·rw[dn q]at hj;have l1:=T.ab a (aC hj);exact(T.tp j a hj).imp λ_ e=>go a _ (bx (bg lS l1)) (kq a _ (bx (bg lI l1)) e)
   ·have ej:j=i:=by have:=(aq.mp hj).1;rw[aK,de]at this;lia
    subst ej;rw[dh (by lia),la,Ao]at hj;have hb:h.objs.size=a:=by simpa using hj
    subst hb;exact⟨bQ,go _ _ nS gt⟩
variable{E:Value->Shared->Prop}{r:Addr}
def VY(hh:A.handled=none)(hv:s.heap.IsItemsView r d)(gd:s.heap.get? d=some o)(rQ:o.data=.dict es ep)(hz:es.size<=sizeLine)
  (q:∀h' tk acc c as,(∀b x,s.heap.get? b=some x->h'.get? b=some x)->h'.get? s.heap.objs.size=some (yJ acc c)->as.length=es.size->Tk es (s.heap.objs.size+1) h' as->acc.toList=as.map Value.ref->Q (.ref s.heap.objs.size) {s with heap:=h',toks:=tk}):
  wpAny (model P w) A (call (.type "list") [.ref r]) Q E s:=by
 refine xa (Q₁:=λv z=>v=.ref s.heap.objs.size/\z={s with heap:=s.heap.push (yJ #[] 0)}) PySem.F.called_list (PySem.F.typeCall_list_1 _) PySem.F.entry_list_init (code_list_new _ ⟨rfl,rfl⟩) ?_;rintro v z ⟨rfl,rfl⟩;have g1:(s.heap.push (yJ #[] 0)).get? s.heap.objs.size=some (yJ #[] 0):=aG _ rfl;refine⟨⟨_,g1,rfl⟩,PySem.F.args_list_init_2 _ _,?_⟩;obtain⟨ov,go,hc,hd⟩:=id hv;have lr:=aF go;have ld:=aF gd;obtain⟨S,eS⟩:∃S,S=s.heap.objs.size:=⟨_,rfl⟩;rw[<-eS]at g1 q lr ld⊢;have zK:∀b x,s.heap.get? b=some x->(s.heap.push (yJ #[] 0)).get? b=some x:=λb x e=>af _ e;have z1:(s.heap.push (yJ #[] 0)).objs.size=S+1:=by rw[b6,eS]
 generalize (s.heap.push (yJ #[] 0))=h1 at g1 zK z1⊢;show wpAny _ _ (do let old<-Builtin.List.listItems (.ref S);Builtin.List.listUpdate (.ref S) (λ_=>#[]);letGo old.toList.reverse;Builtin.List.listExtendWith (.ref S) (.ref r) .none) _ _ _;unfold Builtin.List.listItems;refine ae (ae (bS g1 rfl (ah ?_)));refine ae (m:=updateSeq S (λ_=>#[])) (iD g1 rfl (ae (lK ?_)));have g2:=b7 (Obj.mapSeq λ_=>(#[]:Array Value)) g1 rfl;have uB:∀b x,b≠S->h1.get? b=some x->(h1.update S (Obj.mapSeq λ_=>(#[]:Array Value))).get? b=some x:=λb x nb e=>(bJ _ _ (bP nb)).trans e;have z2:(h1.update S (Obj.mapSeq λ_=>(#[]:Array Value))).objs.size=S+1:=by rw[<-z1];exact(bU ..).1
 generalize (h1.update S (Obj.mapSeq λ_=>(#[]:Array Value)))=h2 at g2 uB z2⊢;obtain⟨c2,g2⟩:∃c,h2.get? S=some (yJ #[] c):=⟨_,g2⟩;unfold Builtin.List.listExtendWith;have HV:h2.IsItemsView r d:=⟨ov,uB _ _ (aH lr) (zK _ _ go),hc,hd⟩;refine ae (iw (T:="dict_items") HV.typeIs ?_);have a1:Builtin.List.listSameRef (.ref S) (.ref r)=false:=by simp[Builtin.List.listSameRef,bx lr]
 have a2:(Value.type "dict_items"==Value.type "list")=false:=by decide
 have a3:(Value.type "dict_items"==Value.type "tuple")=false:=by decide
 simp only[a1,a2,a3,yT,bh,bX];have gd2:=uB _ _ (aH ld) (zK _ _ gd);refine ae (GK (s:={s with heap:=h2}) HV gd2 rQ ?_);obtain⟨h3,UB⟩:∃h3,h3=h2.push (kS .none false d 0 es.size ep .none .none):=⟨_,rfl⟩;have Tz:∀b x,h2.get? b=some x->h3.get? b=some x:=λb x e=>by rw[UB];exact af _ e
 have g3:h3.get? (S+1)=some (kS .none false d 0 es.size ep .none .none):=by rw[UB,<-z2];exact aG _ rfl
 have z3:h3.objs.size=S+2:=by rw[UB,b6,z2]
 show wpAny _ _ _ _ _ {s with heap:=h2.push (kS .none false d 0 es.size ep .none .none)};rw[<-UB];show wpAny _ _ (holding _ (Builtin.List.listLengthHint (.ref r))>>=_) _ _ _;rw[show({s with heap:=h2}:Shared).heap.objs.size=S+1 from z2];have key:∀(h:Heap)(c tk:Nat),(∀b x,b≠S->h3.get? b=some x->h.get? b=some x)->h.get? S=some (yJ #[] c)->h.objs.size=S+2->
   codeAny (model P w) A.in1 (.builtin "list.extend.loop" ⟨[.ref S,.ref (S+1),.none],[]⟩) (wants (λr aae=>r=Value.none/\Q (Value.ref S) aae) E) {s with heap:=h,toks:=tk}:=λh c tk kp gS zh=>by
  refine VX (h0:=h) (o:=o) (show A.in1.handled=none from hh) (aH (dw S)) (aH ld) (aH (dD ld)) rQ hz .none (by rw[zh];exact Nat.lt_add_of_pos_right (by decide)) (by rw[zh];exact dw _) (λh' CN acc c' as k1 k2 k3 k4 k5=>⟨rfl,q h' CN acc c' as (λb x e=>?_) k2 k3 (k4.low (by rw[zh];exact eG _)) k5⟩)
   es.size 0 h tk c #[] [] (Nat.sub_zero _) (aO _) ⟨_,_,_,_,kp _ _ (bx (dw S)) g3,.inl rfl⟩ (kp _ _ (aH ld) (Tz _ _ gd2)) (λb x _ _ e=>e) gS rfl rfl ⟨.nil,λa ha=>(by cases ha),λj a hj=>(by simp at hj)⟩ (ak _)
  have lb:b<S:=by rw[eS];exact aF e
  exact k1 b x (aH lb) (aH (dD lb)) (kp _ _ (aH lb) (Tz _ _ (uB _ _ (aH lb) (zK _ _ e))))
 have Z6:=Tz _ _ g2;refine ae (bR (PySem.W.kdx_hint ⟨_,Tz _ _ (uB _ _ (aH lr) (zK _ _ go)),hc⟩ ?_));refine lU (λ_=>?_) (λ_=>ah ⟨f6 gD _,key _ c2 _ (λb x _ e=>e) Z6 z3⟩);refine ae (fg (ae ?_));show wpAny _ _ (updateSeq S (·.push .none)>>=λ_=>updateSeq S (·.pop)) _ _ _;refine ae (iD Z6 rfl ?_);have g4:=b7 (Obj.mapSeq (·.push Value.none)) Z6 rfl;refine iD (hz:=by seq_fits) g4 rfl ?_;refine ah ⟨f6 gD _,key _ _ _ (λb x nb e=>?_) (b7 (Obj.mapSeq (·.pop)) g4 rfl) ?_⟩
 ·exact(bJ _ _ (bP nb)).trans ((bJ _ _ (bP nb)).trans e)
 ·rw[(bU ..).1,(bU ..).1,z3]
end
section
variable{X:Cx}{pins:List (Addr×Obj)}{Z:St}{H:Hp}{s:Shared}
theorem Inv.Qc{lo:Addr}(hlo:X.aab.heap.objs.size<=lo/\X.env.locals<lo/\(∀x c,X.env.cells.lookup x=some c->c<lo)/\∀p∈X.pn++pins,p.1<lo):
  ∀(as:List Addr)(ps:List (V×V))(H:Hp),Inv X pins Z H s->as.length=ps.length->as.Nodup->(∀a∈as,lo<=a/\H a=none)->
   (∀(j:Nat) a p,as[j]?=some a->ps[j]?=some p->∃t u,RelV p.1 t/\RelV p.2 u/\s.heap.get? a=some {cls:=.type "tuple",data:=.seq #[t,u]})->
   ∃H',Inv X pins Z H' s/\(∀b u,H b=some u->H' b=some u)/\(∀b,b∉as->H' b=H b)/\∀(j:Nat) a p,as[j]?=some a->ps[j]?=some p->H' a=some (.tup [p.1,p.2])
 |[],[],H,I,_,_,_,_=>⟨H,I,λ_ _ h=>h,λ_ _=>rfl,λj a p e=>by simp at e⟩
 |[],_::_,_,_,e,_,_,_=>by simp at e
 |_::_,[],_,_,e,_,_,_=>by simp at e
 |a::as,p::ps,H,I,e,nd,fr,tp=>by
  obtain⟨n1,n2⟩:=du.mp nd;obtain⟨l1,l2,l3,l4⟩:=hlo;obtain⟨ha,hna⟩:=fr a aA;obtain⟨t,u,r1,r2,g⟩:=tp 0 a p rfl rfl;have I1:=I.IW (o:=.tup [p.1,p.2]) hna ⟨by show 2<=sizeLine;decide,[t,u],.cons r1 (.cons r2 .nil),⟨_,g,rfl,0,rfl⟩,_,g,rfl⟩ (aE l1 ha) (bx (bg l2 ha))
   (λx c h=>aH (bg (l3 x c h) ha)) (λq hq=>aH (bg (l4 q hq) ha))
  obtain⟨H',I2,k1,k2,k3⟩:=Inv.Qc ⟨l1,l2,l3,l4⟩ as ps _ I1 (by simpa using e) n2 (λb hb=>⟨(fr b (aD _ hb)).1,by rw[aw (show b≠a fromλz=>n1 (by rw[<-z];exact hb))];exact(fr b (aD _ hb)).2⟩)
   (λj b q e1 e2=>tp (j+1) b q (by simpa using e1) (by simpa using e2))
  refine⟨H',I2,λb v h=>k1 b v (by rw[aw (aW h hna)];exact h),λb hb=>?_,λj b q e1 e2=>?_⟩
  ·rw[k2 b (λz=>hb (aD _ z)),aw (λz=>hb (by rw[z];exact aA))]
  ·cases j with
   |zero=>
    obtain rfl:a=b:=by simpa using e1
    obtain rfl:p=q:=by simpa using e2
    rw[k2 a n1];exact au
   |succ j=>exact k3 j b q (by simpa using e1) (by simpa using e2)
def Inv.low(I:Inv X pins Z H s):X.aab.heap.objs.size<=s.heap.objs.size/\X.env.locals<s.heap.objs.size/\(∀x c,X.env.cells.lookup x=some c->c<s.heap.objs.size)/\∀p∈X.pn++pins,p.1<s.heap.objs.size:=
 ⟨I.sz,I.lt,λx c hc=>let⟨_,z⟩:=I.cell x c hc;z.lt,λp hp=>aF (I.pin p hp).1⟩
def Inv.Gd(I:Inv X pins Z H s)(h:fI X.prog X.w X.K H d kvs):(d==sysModules)=false/\∃o es ep,s.heap.get? d=some o/\es.size<=10000000/\Jb o es ep (kvs.map λp=>(V.ref p.2.1,p.2.2)):=by
 obtain⟨lo,xs,rel,hl,o,es,ep,ga,hx,ZG,he,_⟩:=I.pW h;have ents:∀{l:List (NK×Addr×V)}{xs:List (NK×Addr×Value)},Paired (λ(p:NK×Addr×V)(q:NK×Addr×Value)=>p.1=q.1/\p.2.1=q.2.1/\RelV p.2.2 q.2.2) l xs->Paired (λ(p:V×V)(e:DictEntry)=>RelV p.1 e.key/\RelV p.2 e.val) (l.map λp=>(V.ref p.2.1,p.2.2)) (xs.map (entryOfKey (iU X.prog X.w))):=λr=>by
  induction r with
  |nil=>exact .nil
  |@cons p q ps qs h _ ih=>exact .cons ⟨by show Value.ref q.2.1=Value.ref p.2.1;rw[h.2.1],h.2.2⟩ ih
 exact⟨lo,o,es,ep,ga,by rw[vj he,<-rel.length];exact hl,hx,ZG,by rw[he];exact ents rel⟩
inductive QC(P:Program)(w:World)(K:Frag)(Q:VK)(x:V)(H1:Hp):Prop
 |mk d kvs (_:x=.ref d) (_:fI P w K H1 d kvs) (_:∀p,H1 p=none->Q (.ref p) (upd H1 p (.ext (tw p d))))
end
def U3(P:Program)(w:World)(K:Frag)(td:TE):TE:=λZ H Q=>td Z H λx H1=>QC P w K Q x H1
section
variable{X:Cx}
def E4(hl:PE X l tl)(Dy:attributeBase l "items" X.env (eval l X.env)=eval l X.env:=by rfl)(Ds:(apos.endLine==dP.line)=true:=by rfl):
  PE X (.Call (.Attribute l "items" apos) [] [] dP) (U3 X.prog X.w X.K tl):=by
 intro pins s Z H R I h;refine wpAny_Call_method0_late Dy Ds (cV (hl pins s Z H _ I h) λv s1 x H1 I1 r1 q1=>?_);obtain⟨d,kvs,e,hd,q⟩:=q1;subst e;cases r1;obtain⟨lo,o,es,ep,ga,_,m⟩:=I1.Gd hd;have ty:s1.TypeIs (.ref d) "dict":=⟨o,ga,m.1.1⟩;refine⟨"dict","dict.items",hZ,u3,PySem.F.type_dict_items,ty,λb q=>?_,ir rfl (PySem.evalArgs_none ?_)⟩
 ·cases q;exact⟨o,ga,m.1.2.1⟩
 ·refine bC u3 ty PySem.F.entry_dict_items ?_ (PySem.F.args_dict_items_1 _);unfold Builtin.«dict.items» Builtin.Dict.noArgs;refine ae (ae (iF ty (ah (a:=d) ?_)));show wpAny _ _ (Builtin.Dict.showsAll d>>=_) _ _ s1;unfold Builtin.Dict.showsAll;rw[lo];refine ae (ah (ae (cT (ah ⟨_,rfl,?_⟩))));exact⟨.ref s1.heap.objs.size,_,I1.laid (t':=s1.toks) (λb o e=>af _ e) (ak _) (Yy ⟨_,aG _ rfl,rfl,rfl⟩),rfl,q _ (I1.bw.fresh (ak _))⟩
abbrev Qf(H:Hp):List V->List (V×V)->Prop:=Paired λ(y:V)(p:V×V)=>∃a,y=.ref a/\H a=some (.tup [p.1,p.2])
theorem E7:∀{as:List Addr}{ps:List (V×V)},as.length=ps.length->(∀(j:Nat) a p,as[j]?=some a->ps[j]?=some p->H a=some (.tup [p.1,p.2]))->Qf H (as.map V.ref) ps
 |[],[],_,_=>.nil
 |[],_::_,e,_=>by simp at e
 |_::_,[],e,_=>by simp at e
 |a::as,p::ps,e,h=>.cons ⟨a,rfl,h 0 a p rfl rfl⟩ (E7 (by simpa using e) λj b q e1 e2=>h (j+1) b q (by simpa using e1) (by simpa using e2))
theorem SG:∀as:List Addr,Vals (as.map V.ref) (as.map Value.ref)
 |[]=>.nil
 |_::as=>.cons rfl (SG as)
def DP(hA:X.A.handled=none):iu X (.type "list") (λxs H Q=>∃(r d:Addr)(kvs:List (NK×Addr×V)),xs=[.ref r]/\H r=some (.ext (tw r d))/\fI X.prog X.w X.K H d kvs/\
  ∀l ys H',(∀b u,H b=some u->H' b=some u)->H l=none->H' l=some (.lst ys)->Qf H' ys (kvs.map λp=>(.ref p.2.1,p.2.2))->Q (.ref l) H'):=by
 intro pins s Z H xs us Q I r h;obtain⟨v,d,kvs,rfl,hv,hd,q⟩:=h;obtain⟨u,rfl,ru⟩:=kr r;cases ru;obtain⟨iv,_⟩:=(show dm X.prog X.w H s.heap v (.ext (tw v d))from I.bw v _ hv);obtain⟨lo,o,es,ep,ga,hz,m⟩:=I.Gd hd;have hl:(kvs.map λp=>(V.ref p.2.1,p.2.2)).length=es.size:=by rw[bB m.2.2,aR]
 have hs:es.size<=sizeLine:=by rw[cv];lia
 refine VY (o:=o) hA iv ga m.2.1 hs λh' tk acc c as kp gl la T ea=>?_;have I1:Inv X pins Z H {s with heap:=h',toks:=tk}:=I.kept (t':=tk) kp;have low:=I.low;have z1:s.heap.objs.size<=s.heap.objs.size+1:=eG _;obtain⟨H',I2,k1,k2,k3⟩:=Inv.Qc (s:={s with heap:=h',toks:=tk}) ⟨low.1,low.2.1,low.2.2.1,low.2.2.2⟩ as (kvs.map λp=>(V.ref p.2.1,p.2.2)) H I1 (by rw[la,hl]) (T.up.imp λh=>aH h)
  (λa ha=>⟨aE z1 (T.ab a ha),I.bw.fresh (aE z1 (T.ab a ha))⟩) (λj a p e1 e2=>by obtain⟨hj,e3⟩:=T.tp j a e1;obtain⟨e,he,r1,r2⟩:=Paired.at' m.2.2 e2;rw[bD,bz hj]at he;cases he;exact⟨_,_,r1,r2,e3⟩)
 have na:s.heap.objs.size∉as:=λz=>absurd (T.ab _ z) (Nat.not_succ_le_self _);have hn:H s.heap.objs.size=none:=I.bw.fresh (ak _);have KN:H' s.heap.objs.size=none:=by rw[k2 _ na];exact hn
 have f:=I.pT (ak _) hn;have I3:=I2.IW (D:=s.heap.objs.size) (o:=.lst (as.map V.ref)) KN ⟨by rw[ag,la];exact hs,as.map Value.ref,c,SG as,by rw[<-ea];exact gl⟩ low.1 (bx low.2.1) (λx c h=>aH (low.2.2.1 x c h)) (λp hp=>aH (low.2.2.2 p hp));refine⟨.ref s.heap.objs.size,_,I3,rfl,q _ (as.map V.ref) _ (λb u e=>?_) hn au (E7 (by rw[la,hl]) λj a p e1 e2=>?_)⟩
 ·rw[aw (aW e hn)];exact k1 b u e
 ·rw[aw (λz=>na (by rw[<-z];exact aC e1))];exact k3 j a p e1 e2
variable{P:Program}{w:World}{d:Addr}{o:Obj}{es:Array DictEntry}{ep:Nat}
def U7(lo:(d==sysModules)=false)(hx:o.ExactDict)(hd:o.data=.dict es ep):PySem.W.KdlSrc P w "dict" d d es.size (λi v=>∃hi:i<es.size,v=es[i].key) (λh=>h.get? d=some o) where
 type:=λ_ g=>⟨o,g,hx.1⟩
 there:=λ_ g=>⟨aF g,aF g⟩
 keep:=λ_ _ g k=>k d (.inl rfl) _ g
 notList:=by decide
 notTuple:=by decide
 hint:=λ_ _ _ _ g q=>PySem.W.kdl_hint_dict ⟨o,g,hx.1⟩ q
 iter:=λA s hh g=>⟨_,λi h=>h.IsKeyIter s.heap.objs.size d i es.size ep/\h.get? d=some o,λ_ _ q=>Ee lo g hx hd q,{
  sub:=λb hb=>by simp at hb;simp[hb]
  frame:=λi h h' st k=>by obtain⟨⟨v,e,c⟩,g'⟩:=st;exact⟨⟨v,k _ (by simp) _ e,c⟩,k d (by simp) _ g'⟩
  item:=λi s' Q E hi st q=>NC st.1 st.2 hd hi λh' it' sb=>q _ h' s'.toks ⟨hi,rfl⟩ ⟨it',sb.extBut _ _ (aH (aF g)) st.2⟩ λb x hb e=>sb.extBut b x (λz=>hb (by simp[z])) e
  done:=λs' Q E st q=>E2 hh st.1 st.2 hd (ak _) λh' kp=>q h' s'.toks λb x hb e=>kp b x (λz=>hb (by simp[z])) e
  self:=λ_ _ _ _ st q=>pq st.1 q},⟨⟨_,aG _ rfl,rfl,rfl⟩,af _ g⟩⟩
def IS(hA:X.A.handled=none):iu X (.builtin "sorted") (λxs H Q=>∃(a:Addr)(kvs:List (NK×Addr×V))(rows:List (List Str)),xs=[.ref a]/\fI X.prog X.w X.K H a kvs/\kvs.map (·.1)=rows.map d5/\(2<=rows.length->∀r∈rows,r≠[])/\rows.length<1000000/\SortedTo X.K H (kvs.map λp=>.ref p.2.1) rows Q):=by
 intro pins s Z H xs us Q I r h;obtain⟨a,kvs,rows,rfl,ha,hk,gP,BB,q⟩:=h;obtain⟨u,rfl,rx⟩:=kr r;cases rx;obtain⟨lo,o,es,ep,ga,hz,m⟩:=I.Gd ha;have hl:(kvs.map λp=>(V.ref p.2.1,p.2.2)).length=es.size:=by rw[bB m.2.2,aR]
 rw[ag]at hl;have KO:kvs.length=rows.length:=by have:=cA List.length hk;rw[ag,ag]at this;exact this
 refine jm Bp zw zY (Ah _) ?_;unfold Builtin.«sorted»;refine ae (m:=checkCount "sorted" 1 1 _) (ah ?_);refine ae (PySem.W.kdu_collect (A:=X.A.in1) (U7 lo m.1 m.2.1) (by simpa using hA) ga (by rw[cv];lia) λh' tk acc kp it=>?_);have ea:acc.toList=(kvs.map λp=>p.2.1).map Value.ref:=by
  refine tf λj=>?_;rw[bD,cx,aJ];by_cases hj:j<es.size
  ·have Du:j<acc.size:=by rw[it.1];exact hj
   obtain⟨_,e1⟩:=it.2 j _ (bz Du);have hG:kvs[j]?=some (kvs[j]'(by lia)):=ar (by lia);obtain⟨e,he,r1,_⟩:=Paired.at' m.2.2 (i:=j) (x:=(V.ref (kvs[j]'(by lia)).2.1,(kvs[j]'(by lia)).2.2)) (by rw[aJ,hG];rfl);rw[bD,bz hj]at he;cases he;rw[bz Du,e1,hG,dM];exact cA some r1
  ·rw[kj (by rw[it.1];lia),gA (by lia)];rfl
 rw[ea];have e2:(kvs.map λp=>V.ref p.2.1)=(kvs.map λp=>p.2.1).map V.ref:=by rw[cx];rfl
 rw[e2]at q;refine xr (s:=s) (I.kept (t':=tk) kp) (by rw[ag,KO]) (λi z b e3 e4=>?_) gP BB q;rw[aJ]at e4;obtain⟨p,e5,rfl⟩:=bo.mp e4;have e6:(kvs.map (·.1))[i]?=some (d5 z):=by rw[hk,aJ,e3];rfl
 rw[aJ,e5]at e6;have:=(ha.2 p (aC e5)).1;rw[show p.1=d5 z from bL e6]at this;exact Dc this
end
def U4(P:Program)(w:World)(K:Frag)(zb:List (TE×TE)):TE:=λZ H Q=>∀p,H p=none->CO zb Z (upd H p (.dK [])) λps H2=>∃b k v,ps=[(.ref b,v)]/\iW K H2 k b/\H2 p=some (.dK [])/\Q (.ref p) (upd H2 p (.ext (DN P w p [(k,b,v)])))
def NT(hu:X.A.units+101<cLine)(h:DV X pos keys values zb)(oX:keys.all (·.isSome)=true)(hl:keys.length=values.length)(h0:keys≠[])
  (Z4:keys.length<=15):PE X (.Dict keys values pos) (U4 X.prog X.w X.K zb):=by
 intro pins s Z H Q I q;have hn:=I.bw.fresh (ak s.heap.objs.size);have I1:=I.laid (a:=s.heap.objs.size) (o:=.dK []) (h':=s.heap.push {cls:=.type "dict",data:=.dict #[]}) (t':=s.toks) (λ_ _ q=>af _ q) (ak _) (Cp s.heap I.big);refine wpAny_Dict_any oX hl h0 Z4 (hE (h pins _ Z _ _ I1 (q _ hn)) λws s2 acd=>?_);obtain⟨ps,H2,I2,rel,b,k,v,e,hk,hp,q2⟩:=acd;subst e;cases rel with
 |@cons _ x _ _ r1 t=>
  cases t;obtain⟨kx,vx⟩:=x;obtain⟨r1,r2⟩:=r1;obtain rfl:kx=Value.ref b:=r1;unfold storeAll;rw[fV];have ha:fI X.prog X.w X.K H2 s.heap.objs.size []:=⟨.inr ⟨rfl,hp⟩,λ_ hp=>by cases hp⟩;obtain⟨lo,xs,rl,km,dd⟩:=I2.pW ha;have lx:xs.length<=sizeLine:=by rw[<-rl.length];exact aO _
  refine ae (ae (wpAny_dictSet_heap (knd:=iU X.prog X.w) (hsz:=lx) (show X.A.units+100<cLine by lia) (I2.Cd hk) dd λh' qx hs=>ah ?_));show wpAny _ _ (pure PUnit.unit) _ _ _;obtain⟨o,es,ep,g,g2,g3,g4,_,g5⟩:=qx;have I3:∀tk,Inv X pins Z (upd H2 s.heap.objs.size (.ext (DN X.prog X.w s.heap.objs.size [(k,b,v)]))) {s2 with heap:=h',toks:=tk}:=λtk=>
   qO I2 (by rw[hp];exact True.intro) hs ⟨o,g⟩ (MA ⟨lo,_,BY (kvs:=[]) (k:=k) (b:=b) (v:=v) rl r2,by show 1<=10000000;decide,o,es,ep,g,g2,g3,g4,g5⟩)
  exact ah ⟨.ref s.heap.objs.size,_,I3 _,rfl,q2⟩
section
variable{P:Program}{w:World}{A:Around}{E:Value->Shared->Prop}{v:Shared}{es:Array DictEntry}{ep:Nat}{o:Obj}
structure Zi(h:Heap)(z ti to i1 i2 d l:Addr)(f:Value)(k n ep:Nat):Prop where
 self:IsZip h z ti to f
 ins:IsPair h ti (.ref i1) (.ref i2)
 outs:∃a b,IsPair h to a b
 w1:RI h i1 d k n ep
 w2:h.IsListIter i2 l k
def Zi.ne(g:Zi h z ti to i1 i2 d l f k n ep):(ti≠z/\to≠z/\i1≠z/\i2≠z)/\(ti≠i1/\ti≠i2/\to≠i1/\to≠i2)/\i1≠i2:=by
 obtain⟨gs,gi,⟨a,b,go⟩,⟨_,_,_,_,q1,_⟩,⟨o2,q2,c2,_⟩⟩:=g;exact⟨⟨cy gi gs rfl rfl (by decide),cy go gs rfl rfl (by decide),cy q1 gs rfl rfl (by decide),cy q2 gs c2 rfl (by decide)⟩,
  ⟨cy gi q1 rfl rfl (by decide),cy gi q2 rfl c2 (by decide),cy go q1 rfl rfl (by decide),cy go q2 rfl c2 (by decide)⟩,cy q1 q2 rfl c2 (by decide)⟩
def UT{Q:Value->Shared->Prop}(Bh:ti≠to)(g:Zi v.heap z ti to i1 i2 d l .none k es.size ep)
  (gd:v.heap.get? d=some o) (hx:o.ExactDict) (rQ:o.data=.dict es ep) (t2:v.heap.IsList l ys) (hk:k<es.size) (ey:ys[k]?=some y)
  (q:∀h',Zi h' z ti to i1 i2 d l (rawInt (v.heap.objs.size+1)) (k+1) es.size ep->h'.get? v.heap.objs.size=some {cls:=.type "tuple",data:=.seq #[es[k].key,es[k].val]}->IsPair h' (v.heap.objs.size+1) (.ref v.heap.objs.size) y->(∀c o,c≠z->c≠to->c≠i1->c≠i2->v.heap.get? c=some o->h'.get? c=some o)->Q (.ref (v.heap.objs.size+1)) {v with heap:=h'}):
  wpAny (model P w) A (Builtin.«zip.__next__» ⟨[.ref z],[]⟩) (λfin s'=>∃u,fin=.done (.ret u)/\Q u s') E v:=by
 obtain⟨⟨a1,a2,a3,a4⟩,⟨a5,a6,a7,a8⟩,Ks⟩:=g.ne;obtain⟨gs,gi,⟨a,b,go⟩,g1,g2⟩:=g;have dz:d≠z:=cy gd gs hx.1 rfl (by decide);obtain⟨o2,q2,c2,_⟩:=id g2;obtain⟨ol,ql,cl,_⟩:=id t2;have c1:l≠z:=cy ql gs cl rfl (by decide);have c3:l≠i2:=cy ql q2 cl c2 (by decide);have c4:l≠to:=cy ql go cl rfl (by decide);have c5:l≠i1:=by obtain⟨_,_,_,_,e1,_⟩:=id g1;exact cy ql e1 cl rfl (by decide)
 show wpAny _ _ (field (.ref z) 2>>=_) _ _ _;refine ae (bO gs rfl (x:=.bool false) rfl ?_);show wpAny _ _ (field (.ref z) 3>>=_) _ _ _;refine ae (bO gs rfl (x:=.ref ti) rfl ?_);refine ae (bS gi rfl ?_);show wpAny _ _ (Builtin.SmallTypes.ownedTupleIsFree (.ref z)>>=_) _ _ _;refine ae ?_;unfold Builtin.SmallTypes.ownedTupleIsFree;refine ae (bO gs rfl (x:=.none) rfl (ah ?_));simp only[fJ];refine ae (fg ?_);refine ae (bO gs rfl (x:=.ref to) rfl ?_);refine ae (bW gs (by simp) λp1 k1 r1=>?_)
 replace k1:IsZip p1 z ti to .ellipsis:=k1
 have z1:p1.objs.size=v.heap.objs.size:=r1.1;refine ae ?_;simp only[jB,qg,fV,ju];refine ae (ae (lB ?_));show wpAny _ _ (Builtin.SmallTypes.nextOf (.ref i1)>>=_) _ _ _;refine ae (NI (s:={v with heap:=p1}) (g1.iS λo e=>r1.extBut _ _ a3 e) (r1.extBut _ _ dz gd) rQ hk λp2 k2 tq r2 Sw=>ah ?_);have Sw:p2.objs.size=v.heap.objs.size+1:=by rw[<-z1];exact Sw
 have tq:p2.get? v.heap.objs.size=some {cls:=.type "tuple",data:=.seq #[es[k].key,es[k].val]}:=by rw[<-z1];exact tq
 have r2:∀b x,b≠i1->p1.get? b=some x->p2.get? b=some x:=r2;show wpAny _ _ _ _ _ _;rw[show({v with heap:=p1}:Shared).heap.objs.size=v.heap.objs.size from z1];have o2:IsPair p2 to a b:=r2 _ _ a7 (r1.extBut _ _ a2 go);refine ae (bS o2 rfl ?_);refine ae (xD o2 λp3 o3 r3=>?_)
 replace o3:IsPair p3 to (.ref v.heap.objs.size) b:=o3
 refine ae (lK (ah ?_));refine ae (ae (lB ?_));show wpAny _ _ (Builtin.SmallTypes.nextOf (.ref i2)>>=_) _ _ _;have w3:p3.IsListIter i2 l k:=by obtain⟨o',e',r'⟩:=g2;exact⟨o',r3.extBut _ _ a8.symm (r2 _ _ Ks.symm (r1.extBut _ _ a4 e')),r'⟩
 have t3:p3.IsList l ys:=by obtain⟨o',e',r'⟩:=t2;exact⟨o',r3.extBut _ _ c4 (r2 _ _ c5 (r1.extBut _ _ c1 e')),r'⟩
 refine ae (wpAny_nextOf_list_item w3 t3 ey λp4 k4 r4=>ah ?_);have o4:IsPair p4 to (.ref v.heap.objs.size) b:=r4.extBut _ _ a8 o3;refine ae (bS o4 rfl ?_);refine ae (xD o4 λp5 o5 r5=>?_)
 replace o5:IsPair p5 to (.ref v.heap.objs.size) y:=o5
 refine ae (lK (ah (ah ?_)));refine ae (bS o5 rfl ?_);refine ae (kI ?_);have sz:p5.objs.size=v.heap.objs.size+1:=by rw[r5.1,r4.1,r3.1,Sw]
 have z5:IsZip p5 z ti to .ellipsis:=r5.extBut _ _ a2.symm (r4.extBut _ _ a4.symm (r3.extBut _ _ a2.symm (r2 _ _ a3.symm k1)));have st:∀c o,c≠z->c≠to->c≠i1->c≠i2->v.heap.get? c=some o->p5.get? c=some o:=λc o m1 m2 m3 m4 e=>
  r5.extBut _ _ m2 (r4.extBut _ _ m4 (r3.extBut _ _ m2 (r2 _ _ m3 (r1.extBut _ _ m1 e))))
 have j1:RI p5 i1 d (k+1) es.size ep:=k2.iS λo e=>r5.extBut _ _ a7.symm (r4.extBut _ _ Ks (r3.extBut _ _ a7.symm e));have j2:p5.IsListIter i2 l (k+1):=by obtain⟨o',e',r'⟩:=k4;exact⟨o',r5.extBut _ _ a8.symm e',r'⟩
 have nto:v.heap.objs.size≠to:=bx (aF go);have ni2:v.heap.objs.size≠i2:=bx (aF q2);have nz:v.heap.objs.size≠z:=bx (aF gs);have t5:p5.get? v.heap.objs.size=some {cls:=.type "tuple",data:=.seq #[es[k].key,es[k].val]}:=r5.extBut _ _ nto (r4.extBut _ _ ni2 (r3.extBut _ _ nto tq));have lz:z<p5.objs.size:=aF z5;show wpAny _ _ (Builtin.SmallTypes.ownedTupleHandOut (.ref z) (.ref p5.objs.size)>>=_) _ _ _;refine ae ?_;unfold Builtin.SmallTypes.ownedTupleHandOut;have z6:IsZip (p5.push {cls:=.type "tuple",data:=.seq #[.ref v.heap.objs.size,y]}) z ti to .ellipsis:=af _ z5;refine ae (bW z6 (by simp) λp7 z7 r7=>?_)
 replace z7:IsZip p7 z ti to (rawInt p5.objs.size):=z7
 refine bW z7 (by simp) λp8 z8 r8=>?_
 replace z8:IsZip p8 z ti to (rawInt p5.objs.size):=z8
 have up:∀c o,c≠z->p5.get? c=some o->p8.get? c=some o:=λc o m e=>r8.extBut _ _ m (r7.extBut _ _ m (af _ e));have n8:IsPair p8 p5.objs.size (.ref v.heap.objs.size) y:=r8.extBut _ _ (bx lz) (r7.extBut _ _ (bx lz) (aG _ rfl));rw[sz]at z8 n8;refine ah ⟨_,rfl,?_⟩;show Q (.ref p5.objs.size) _;rw[sz];obtain⟨ob,jb,rb⟩:=j2;exact q p8 ⟨z8,up _ _ a1 (st _ _ a1 Bh a5 a6 gi),⟨_,_,up _ _ a2 o5⟩,j1.iS λo e=>up _ _ a3 e,⟨ob,up _ _ a4 jb,rb⟩⟩ (up _ _ nz t5) n8 λc o m1 m2 m3 m4 e=>up c o m1 (st c o m1 m2 m3 m4 e)
def WI(hh:A.handled=none)(g:Zi v.heap z ti to i1 i2 d l .none k es.size ep)(gd:v.heap.get? d=some o)(hx:o.ExactDict)(rQ:o.data=.dict es ep)(hk:es.size<=k)
  (q:∀h' e,(∀c o,c≠z->c≠to->c≠i1->c≠i2->v.heap.get? c=some o->h'.get? c=some o)->(∃o,h'.get? e=some o/\o.cls=.type "StopIteration")->E (.ref e) {v with heap:=h'}):
  wpAny (model P w) A (Builtin.«zip.__next__» ⟨[.ref z],[]⟩) Q E v:=by
 obtain⟨⟨a1,a2,a3,a4⟩,⟨a5,a6,a7,a8⟩,Ks⟩:=g.ne;obtain⟨gs,gi,⟨a,b,go⟩,g1,g2⟩:=g;have dz:d≠z:=cy gd gs hx.1 rfl (by decide);show wpAny _ _ (field (.ref z) 2>>=_) _ _ _;refine ae (bO gs rfl (x:=.bool false) rfl ?_);show wpAny _ _ (field (.ref z) 3>>=_) _ _ _;refine ae (bO gs rfl (x:=.ref ti) rfl ?_);refine ae (bS gi rfl ?_);show wpAny _ _ (Builtin.SmallTypes.ownedTupleIsFree (.ref z)>>=_) _ _ _;refine ae ?_;unfold Builtin.SmallTypes.ownedTupleIsFree;refine ae (bO gs rfl (x:=.none) rfl (ah ?_));simp only[fJ];refine ae (fg ?_);refine ae (bO gs rfl (x:=.ref to) rfl ?_);refine ae (bW gs (by simp) λp1 k1 r1=>?_)
 replace k1:IsZip p1 z ti to .ellipsis:=k1
 refine ae ?_;simp only[jB,qg,fV,ju];refine ae (ae (lB ?_));show wpAny _ _ (Builtin.SmallTypes.nextOf (.ref i1)>>=_) _ _ _;refine ae (NH (s:={v with heap:=p1}) hh (g1.iS λo e=>r1.extBut _ _ a3 e) (r1.extBut _ _ dz gd) rQ hk λp2 e r2 he=>?_);obtain⟨oe,ge,ce⟩:=he;have z2:IsZip p2 z ti to .ellipsis:=r2 _ _ a3.symm k1;have X5:e≠z:=cy ge z2 ce rfl (by decide);exact bW z2 (by simp) λp3 _ r3=>q p3 e (λc o m1 _ m3 _ e=>r3.extBut _ _ m1 (r2 _ _ m3 (r1.extBut _ _ m1 e))) ⟨oe,r3.extBut _ _ X5 ge,ce⟩
def US(Bh:ti≠to)(g:Zi v.heap z ti to i1 i2 d l .none k es.size ep)
  (gd:v.heap.get? d=some o) (hx:o.ExactDict) (rQ:o.data=.dict es ep) (t2:v.heap.IsList l ys) (hk:k<es.size) (ey:ys[k]?=some y)
  (q:∀h',Zi h' z ti to i1 i2 d l (rawInt (v.heap.objs.size+1)) (k+1) es.size ep->h'.get? v.heap.objs.size=some {cls:=.type "tuple",data:=.seq #[es[k].key,es[k].val]}->IsPair h' (v.heap.objs.size+1) (.ref v.heap.objs.size) y->(∀c o,c≠z->c≠to->c≠i1->c≠i2->v.heap.get? c=some o->h'.get? c=some o)->Q (some (.ref (v.heap.objs.size+1))) {v with heap:=h'}):
  wpAny (model P w) A (pyNext (.ref z)) Q E v:=by
 have ty:v.TypeIs (.ref z) "zip":=⟨_,g.self,rfl⟩;unfold pyNext;exact ae (dt (wpAny_callSpecial?_slot (name:=Str.ofString "__next__") ty dO (bC dO ty jJ (UT Bh g gd hx rQ t2 hk ey λh' b1 b2 b3 b4=>ah (q h' b1 b2 b3 b4)) (je _))))
def UR(hh:A.handled=none)(g:Zi v.heap z ti to i1 i2 d l .none k es.size ep)(gd:v.heap.get? d=some o)(hx:o.ExactDict)(rQ:o.data=.dict es ep)(hk:es.size<=k)
  (q:∀h',(∀c o,c≠z->c≠to->c≠i1->c≠i2->v.heap.get? c=some o->h'.get? c=some o)->Q none {v with heap:=h'}):
  wpAny (model P w) A (pyNext (.ref z)) Q E v:=by
 have ty:v.TypeIs (.ref z) "zip":=⟨_,g.self,rfl⟩;unfold pyNext;refine ae (dt (wpAny_callSpecial?_slot (name:=Str.ofString "__next__") ty dO (bC dO ty jJ (WI (show A.in1.handled=none from hh) g gd hx rQ hk λh' e hk he=>?_) (je _))));obtain⟨o,ho,hc⟩:=he;exact ae (fu (T:="StopIteration") (b:=true) ⟨o,ho,hc⟩ jt (ah (q _ hk)))
abbrev MX(h:Heap)(d:Addr)(n ep:Nat):Heap:=h.push {cls:=.type "dict_itemiterator",data:=.fields #[.none,.bool false,.ref d,.int 0 0,.int n 0,.int ep 0,.none,.none]}
abbrev SF(h:Heap)(d l:Addr)(n ep:Nat):Heap:=(MX h d n ep).push {cls:=.type "list_iterator",data:=.fields #[.ref l,.int 0 0]}
abbrev SE(h:Heap)(d l:Addr)(n ep:Nat):Heap:=(SF h d l n ep).push {cls:=.type "tuple",data:=.seq #[.ref h.objs.size,.ref (MX h d n ep).objs.size]}
abbrev SD(h:Heap)(d l:Addr)(n ep:Nat):Heap:=(SE h d l n ep).push {cls:=.type "tuple",data:=.seq #[.none,.none]}
abbrev JG(h:Heap)(d l:Addr)(n ep:Nat):Heap:=(SD h d l n ep).push {cls:=.type "zip",data:=.fields #[.none,.bool false,.bool false,.ref (SF h d l n ep).objs.size,.ref (SE h d l n ep).objs.size]}
def WN(r d l:Addr)(ys:Array Value)(o:Obj)(es:Array DictEntry)(ep:Nat)(rQ:o.data=.dict es ep):
  Meets (Builtin.«zip.__new__» ⟨[.type "zip",.ref r,.ref l],[]⟩) (λ_ R s=>s.heap.IsItemsView r d/\s.heap.get? d=some o/\s.heap.IsList l ys/\R (.ok (.ret (.ref (SD s.heap d l es.size ep).objs.size))) {s with heap:=JG s.heap d l es.size ep}):=
 .of_wp λprog w A R s h=>by
  obtain⟨hp,g,dr,tk,os⟩:=s;obtain⟨hv,gd,hl,h⟩:=h;have RA:=sub_zip;have hV:Heap.IsItemsView (Shared.heap ⟨hp,g,dr,tk,os⟩) r d:=hv;have hL:Heap.IsList (Shared.heap ⟨MX hp d es.size ep,g,dr,tk,os⟩) l ys:=by obtain⟨o,e,r⟩:=hl;exact⟨o,af _ e,r⟩
  wp_walk using GK hV gd rQ,ko hL
  exact⟨_,rfl,h⟩
def UU(hv:v.heap.IsItemsView r d)(gd:v.heap.get? d=some o)(rQ:o.data=.dict es ep)(hl:v.heap.IsList l ys)
  (q:∀h' n,n=v.heap.objs.size->Zi h' (n+4) (n+2) (n+3) n (n+1) d l .none 0 es.size ep->(∀c o,v.heap.get? c=some o->h'.get? c=some o)->Q (.ref (n+4)) {v with heap:=h'}):
  wpAny (model P w) A (call (.type "zip") [.ref r,.ref l]) Q E v:=by
 refine callType_new F.called_zip (by decide) (F.typeCall_zip_2 _ _) (F.newCall_zip_2 _ _) (λobj=>yu obj _ _) F.entry_zip_new (WN r d l ys o es ep rQ) ⟨hv,gd,hl,?_⟩;have e1:(MX v.heap d es.size ep).objs.size=v.heap.objs.size+1:=b6 ..;have e2:(SF v.heap d l es.size ep).objs.size=v.heap.objs.size+2:=by rw[b6,e1]
 have e3:(SE v.heap d l es.size ep).objs.size=v.heap.objs.size+3:=by rw[b6,e2]
 have e4:(SD v.heap d l es.size ep).objs.size=v.heap.objs.size+4:=by rw[b6,e3]
 have g5:(JG v.heap d l es.size ep).get? (SD v.heap d l es.size ep).objs.size=some _:=aG _ rfl;have g4:(JG v.heap d l es.size ep).get? (SE v.heap d l es.size ep).objs.size=some _:=af _ (aG _ rfl);have g3:(JG v.heap d l es.size ep).get? (SF v.heap d l es.size ep).objs.size=some _:=af _ (af _ (aG _ rfl));have g2:(JG v.heap d l es.size ep).get? (MX v.heap d es.size ep).objs.size=some _:=af _ (af _ (af _ (aG _ rfl)));have g1:(JG v.heap d l es.size ep).get? v.heap.objs.size=some _:=af _ (af _ (af _ (af _ (aG _ rfl))));show _/\_;rw[e2,e3,e4]at g5;rw[e1,e2]at g3;rw[e3]at g4;rw[e1]at g2;rw[e4];exact⟨⟨_,g5,rfl⟩,q _ _ rfl ⟨g5,g3,⟨_,_,g4⟩,⟨_,_,_,_,g1,.inl rfl⟩,⟨_,g2,rfl,rfl⟩⟩ λc o x=>af _ (af _ (af _ (af _ (af _ x))))⟩
end
def Qk(K:Frag)(d l:Addr)(o:Obj)(u:HO)(kvs:List (V×V)):It:=
 ⟨λi H=>H d=some (.cQ o u)/\i<kvs.length/\∃ys y,bp K H l ys/\ys[i]?=some y,
  λi H x H'=>∃p q kv y,x=.ref p/\H q=none/\upd H q (.tup [kv.1,kv.2]) p=none/\H'=upd (upd H q (.tup [kv.1,kv.2])) p (.tup [.ref q,y])/\kvs[i]?=some kv/\∀ys,bp K H l ys->ys[i]?=some y,
  λi H=>H d=some (.cQ o u)/\kvs.length<=i⟩
def U1{K:Frag}(m:Jb o es ep kvs)(Bh:ti≠to):
  Turn P w K (.Tuple elts kk ps) (Qk K d l o u kvs) (gc z ti to i1 i2) z (λi h=>Zi h z ti to i1 i2 d l .none i es.size ep) where
 mem:=aA
 obj:=λi h st c hc=>by
  obtain⟨gs,gi,⟨u,v,go⟩,⟨_,_,_,_,q1,_⟩,⟨o2,q2,c2,d2⟩⟩:=st;have pb:c=z\/c=ti\/c=to\/c=i1\/c=i2:=by simpa[gc]using hc
  rcases pb with rfl|rfl|rfl|rfl|rfl
  ·exact⟨_,gs,λv z=>by cases z⟩
  ·exact⟨_,gi,λv z=>by cases z⟩
  ·exact⟨_,go,λv z=>by cases z⟩
  ·exact⟨_,q1,λv z=>by cases z⟩
  ·exact⟨_,q2,λv z=>by rw[d2]at z;cases z⟩
 keep:=λi h h' st k=>by obtain⟨gs,gi,⟨u,v,go⟩,w1,⟨o2,q2,r2⟩⟩:=st;exact⟨k z (by simp[gc]) _ gs,k ti (by simp[gc]) _ gi,⟨u,v,k to (by simp[gc]) _ go⟩,w1.iS λo e=>k i1 (by simp[gc]) _ e,⟨o2,k i2 (by simp[gc]) _ q2,r2⟩⟩
 item:=by
  intro X hP hw hK hc i pins s Z H E I hf st hg;subst hP hw hK;obtain⟨hd,hi,ys,y,hb,hy⟩:=hg;obtain⟨zO,GL,zx,wL⟩:=I.list hb;obtain⟨u2,wO,CY⟩:=GL.get hy;have hl:kvs.length=es.size:=by rw[bB m.2.2,aR]
  have ga:s.heap.get? d=some o:=(I.bw d _ hd).1;obtain⟨kv,hG⟩:∃kv,kvs[i]?=some kv:=⟨_,ar hi⟩;have Pj:i<es.size:=by lia
  obtain⟨e,he,r⟩:=Paired.at' m.2.2 hG;have ee:es[i]=e:=by rw[bD,bz Pj]at he;exact bL he
  refine US Bh st ga m.1 m.2.1 zx.isList Pj (y:=u2) (by simpa using wO) λh1 g1 tq pr kp=>⟨_,rfl,?_⟩;refine tE g1.self λh2 z2 sb=>?_;have pC:Heap.SameBut z h1 h2:=sb;have al:∀c∈gc z ti to i1 i2,c<s.heap.objs.size:=λc hc=>by
   obtain⟨gs,gi,⟨u,v,go⟩,⟨_,_,_,_,q1,_⟩,⟨o2,q2,r2⟩⟩:=id st;have pb:c=z\/c=ti\/c=to\/c=i1\/c=i2:=by simpa[gc]using hc
   rcases pb with rfl|rfl|rfl|rfl|rfl
   ·exact aF gs
   ·exact aF gi
   ·exact aF go
   ·exact aF q1
   ·exact aF q2
  have lz:z<s.heap.objs.size:=al z aA;have uB:∀c o,c∉gc z ti to i1 i2->s.heap.get? c=some o->h2.get? c=some o:=λc o hc e=>
   pC.extBut c o (λt=>hc (by simp[gc,t])) (kp c o (λt=>hc (by simp[gc,t])) (λt=>hc (by simp[gc,t])) (λt=>hc (by simp[gc,t])) (λt=>hc (by simp[gc,t])) e)
  have t2:=pC.extBut _ _ (bx lz) tq;have lz1:z<s.heap.objs.size+1:=dD lz;have p2:=pC.extBut _ _ (bx lz1) pr;have I2:=I.JO (t':=s.toks) (xs:=[kv.1,kv.2]) (us:=[es[i].key,es[i].val]) uB hf (ak _) ⟨⟨_,t2,rfl,_,rfl⟩,_,t2,rfl⟩ (.cons (by rw[ee];exact r.1) (.cons (by rw[ee];exact r.2) .nil)) (by show 2<=sizeLine;decide);have low:=I.low;have Pa:H (s.heap.objs.size+1)=none:=I.bw.fresh (eG _);have Bw:upd H s.heap.objs.size (.tup [kv.1,kv.2]) (s.heap.objs.size+1)=none:=by rw[aw (bx (dw _))];exact Pa
  have I3:=I2.IW (D:=s.heap.objs.size+1) (o:=.tup [.ref s.heap.objs.size,y]) Bw ⟨by show 2<=sizeLine;decide,[.ref s.heap.objs.size,u2],.cons rfl (.cons CY .nil),⟨_,p2,rfl,0,rfl⟩,_,p2,rfl⟩ (Nat.le_succ_of_le low.1) (bx (dD low.2.1)) (λx c h=>aH (dD (low.2.2.1 x c h))) (λq hq=>aH (dD (low.2.2.2 q hq)));obtain⟨⟨n1,n2,n3,n4⟩,_,_⟩:=g1.ne;obtain⟨gs,gi,⟨u,v,go⟩,w1,⟨o2,q2,r2⟩⟩:=g1;refine⟨.ref (s.heap.objs.size+1),_,I3,rfl,⟨_,_,kv,y,rfl,I.bw.fresh (ak _),Bw,rfl,hG,λzs hz=>by rw[I.B8 hz hb];exact hy⟩,⟨z2,pC.extBut _ _ n1 gi,⟨u,v,pC.extBut _ _ n2 go⟩,w1.iS λo e=>pC.extBut _ _ n3 e,⟨o2,pC.extBut _ _ n4 q2,r2⟩⟩,λc hc=>?_⟩;rw[aw (aH (dD (al c hc))),aw (aH (al c hc))];exact(hf c hc).1
 done:=by
  intro X hP hw hK hc i pins s Z H E I hf st hg;subst hP hw hK;obtain⟨hd,hi⟩:=hg;have hl:kvs.length=es.size:=by rw[bB m.2.2,aR]
  have ga:s.heap.get? d=some o:=(I.bw d _ hd).1;exact UR (I.ok.hd hc) st ga m.1 m.2.1 (by lia) λh1 kp=>⟨rfl,I.JP (t':=s.toks) (ch:=gc z ti to i1 i2) (λc o hc e=>kp c o (λt=>hc (by simp[gc,t])) (λt=>hc (by simp[gc,t])) (λt=>hc (by simp[gc,t])) (λt=>hc (by simp[gc,t])) e) hf⟩
 self:=λ_ _ _ _ _ st h=>kW st.self h
inductive YE(P:Program)(w:World)(K:Frag)(R:It->Hp->Prop)(vs:List V)(H1:Hp):Prop
 |mk r d u l kvs ys (_:vs=[.ref r,.ref l]) (_:H1 r=some (.ext (tw r d))) (_:H1 d=some u) (_:fI P w K H1 d kvs) (_:bp K H1 l ys) (_:∀o,R (Qk K d l o u (kvs.map λp=>(.ref p.2.1,p.2.2))) (upd H1 d (.cQ o u)))
def aa6(P:Program)(w:World)(K:Frag)(ta:TA):TI:=λZ H R=>ta Z H λvs H1=>YE P w K R vs H1
def Vu(hg:Gl X "zip")(hm:X.mg "zip"=none)(ha:PA X [a,b] ta)(hs:starEach [a,b] X.env=[(false,eval a X.env),(false,eval b X.env)]:=by rfl)(jY:starEach [b] X.env=[(false,eval b X.env)]:=by rfl):
  PI X (.Tuple elts kk ps) (.Call (.Name "zip" p) [a,b] [] pos) (aa6 X.prog X.w X.K ta):=by
 intro pins s Z H R I h;refine D5 (pK I hg hm boot_zip (dC (pA (ha pos pins s Z H _ I h) λus s1 vs H1 I1 r1 q1=>?_) (by rw[hs,jY]) (by rw[jY];rfl)));obtain⟨r,d,u,l,kvs,ys,e,hr,hd,hv,hb,q⟩:=q1;subst e;obtain⟨u1,u2,rfl,GO,CY⟩:=vals2 r1;cases GO;cases CY;obtain⟨iv,_⟩:=(show dm X.prog X.w H1 s1.heap r (.ext (tw r d))from I1.bw r _ hr);obtain⟨lo,o,es,ep,ga,hz,m⟩:=I1.Gd hv;obtain⟨zO,GL,zx,wL⟩:=I1.list hb;have I2:Inv X pins Z (upd H1 d (.cQ o u)) s1:=by
  rcases hv.1 with e|⟨_,e⟩
  ·rw[hd]at e;cases e;exact I1.Ew hd ga
  ·rw[hd]at e;cases e;exact I1.freeze hd ga
 refine UU iv ga m.2.1 zx.isList λh' n en g kp=>?_;subst en;have I3:Inv X pins Z (upd H1 d (.cQ o u)) {s1 with heap:=h'}:=I2.kept (t':=s1.toks) kp;refine kW g.self ?_;refine⟨_,_,_,_,_,rfl,I3,U1 m ?_,g,λc hc=>?_,q o⟩
 ·exactλt=>absurd t (aH (dw _))
 ·have pb:c=s1.heap.objs.size+4\/c=s1.heap.objs.size+2\/c=s1.heap.objs.size+3\/c=s1.heap.objs.size\/c=s1.heap.objs.size+1:=by simpa[gc]using hc
  have lc:s1.heap.objs.size<=c:=by rcases pb with e|e|e|e|e<;>rw[e]<;>first|exact ak _|exact dy _ _
  exact I2.pT lc (I2.bw.fresh lc)
def RW{K:Frag}{g:TG}{tb:TS}{D:Ends}(Pv:Nat->St->Hp->Prop)(le:kvs.length=ys.length)(h0:Pv 0 Z H)(hl:∀i Z H,i<=kvs.length->Pv i Z H->H d=some (.cQ o u)/\bp K H l ys)
  (hs:∀i kv y p q Z H,kvs[i]?=some kv->ys[i]?=some y->Pv i Z H->H q=none->upd H q (.tup [kv.1,kv.2]) p=none->g (.ref p) Z (upd (upd H q (.tup [kv.1,kv.2])) p (.tup [.ref q,y])) λσ2 H2=>tb {D with nx:=Pv (i+1),ct:=Pv (i+1),bk:=D.nx} σ2 H2) (hd:∀Z H,Pv kvs.length Z H->D.nx Z H):
  ∃W:Nat->Nat->St->Hp->Prop,(∃m,W 0 m Z H)/\∀i m Z H,W i m Z H->
   ((Qk K d l o u kvs).stop i H/\D.nx Z H)\/((Qk K d l o u kvs).go i H/\∃N:St->Hp->Prop,(∀σ' H',N σ' H'->∃m',m'<m/\W (i+1) m' σ' H')/\∀x H',(Qk K d l o u kvs).yA i H x H'->g x Z H' λσ2 H2=>tb {D with nx:=N,ct:=N,bk:=D.nx} σ2 H2):=by
 refine⟨λi m Z H=>m=kvs.length -i/\i<=kvs.length/\Pv i Z H,⟨kvs.length,by simp,aO _,h0⟩,?_⟩;rintro i m Z H ⟨rfl,hi,p⟩;obtain⟨q1,q2⟩:=hl i Z H hi p;by_cases bQ:i<kvs.length
 ·refine .inr ⟨⟨q1,bQ,ys,ys[i]'(by lia),q2,ar _⟩,Pv (i+1),λσ' H' p'=>⟨kvs.length -(i+1),by lia,rfl,bQ,p'⟩,λx H' y=>?_⟩;obtain⟨a,b,kv,v,rfl,hb,ha,rfl,y1,y2⟩:=y;exact hs i kv v a b Z H y1 (y2 ys q2) p hb ha
 ·have e:i=kvs.length:=by lia
  subst e;exact .inl ⟨⟨q1,ak _⟩,hd Z H p⟩
section
variable{X:Cx}{P:Program}{w:World}{K:Frag}
def VA(he:PE X e ta)(hb:attributeBase e f X.env (eval e X.env)=eval e X.env)(h:X.K=K:=by rfl):PE X (.Attribute e f pos) (QD K ta f):=h▸lF he hb
def LH(hu:X.A.units+101<cLine)(ho:PE X o td)(he:PE X e ty)(hf:PE X f tz)(m:M2 X o "get" apos e f dP)(h1:X.prog=P:=by rfl)(h2:X.w=w:=by rfl)(h3:X.K=K:=by rfl):
  PE X (.Call (.Attribute o "get" apos) [e,f] [] dP) (JV P w K td ty tz):=by subst h1 h2 h3;exact E5 hu ho he hf m
end
end L2
namespace K06
open PySem PySem.Spec PyProof.Rows L2 DU
seal L2.PE L2.PT L2.PW L2.PA L2.PS L2.kU L2.PI L2.PO L2.DV L2.PG L2.DW
section
variable{P:Program}{w:World}{K:Frag}{mg:Str->Option Value}{base:Heap}{C:Addr}
structure CD(K:Frag)(C:Addr):Prop where
 c:AB K C
 tables:oH K C "tables"
 kept:oH K C "kept"
 maps:oH K C "maps"
 tails:oH K C "tails"
def gx(kept ts:List Str):List Str:=(dH ts).filter λt=>decide (t∉kept)
def jy(kept ts:List Str):List Str:=ts.filter λt=>decide (t∉gx kept ts)
def uw(a:Str×List Str)(known:List Str):NK:=.tup [.tup [.key (.inr a.1),d5 a.2],d5 known]
def VR(h:uw a k=uw a' k'):a=a'/\k=k':=by unfold uw at h;simp only[NK.tup.injEq,List.cons.injEq,NK.key.injEq,Sum.inr.injEq,and_true]at h;obtain⟨⟨h1,h2⟩,h3⟩:=h;exact⟨Prod.ext h1 (wA h2),wA h3⟩
def Rp(hq:bE K H q [.ref p,.ref u])(hp:bE K H p [.str a.1,.ref t])(ht:bE K H t (a.2.map V.str))(hu:bE K H u (known.map V.str))(s1:PyData.strOk a.1=true)(s2:rW a.2)(s3:rW known):iW K H (uw a known) q:=by
 refine⟨?_,oK.good (n:=3) ?_ (by decide)⟩
 ·unfold uw;rw[NV];refine⟨q,_,rfl,hq,?_⟩;rw[oJ];refine⟨_,_,rfl,?_,?_⟩
  ·rw[NV];refine⟨p,_,rfl,hp,?_⟩;rw[oJ];refine⟨_,_,rfl,?_,?_⟩
   ·rw[NV];rfl
   ·rw[oJ];refine⟨_,_,rfl,Hr ht,?_⟩;rw[oJ]
  ·rw[oJ];refine⟨_,_,rfl,Hr hu,?_⟩;rw[oJ]
 ·have up:∀{n m:Nat}{k:NK},oK n k->n<=m->oK m k:=λg l=>⟨g.1,aE g.2.1 l,aE g.2.2 l⟩;refine Cg λk hk=>?_;rcases aI.mp hk with rfl|hk
  ·refine Cg λk hk=>?_;rcases aI.mp hk with rfl|hk
   ·exact good_str s1
   ·cases ay.mp hk;exact Ci s2
  ·cases ay.mp hk;exact up (Ci s3) (by decide)
abbrev SK(fs:List En)(a:Str×List Str)(known:List Str):List Str->List (List Str):=aV.tails (vg (cW fs a.1)) a.2 known ((dH a.2).filter λt=>decide (t∉known))
structure iR(P:Program)(w:World)(K:Frag)(H:Hp)(td:Addr)(av:List Addr)(fs:List En)(kvs:List (NK×Addr×V)):Prop where
 at_:fI P w K H td kvs
 all:∀a known v,valN kvs (uw a known)=some v->∃d,v=.ref d/\gQ P w K H av d (SK fs a known)
def MW(P:Program)(w:World)(K:Frag)(H:Hp)(td:Addr)(av:List Addr)(fs:List En)(n:Nat):Prop:=∃kvs,iR P w K H td av fs kvs/\kvs.length<=n
def SB(d:Addr)(H H':Hp):Prop:=∀b u,b≠d->H b=some u->H' b=some u
def SB.tp(s:SB d H H')(h:gE H d):d6 H H':=λb xs q=>by
 have hb:b≠d:=λe=>h xs (e▸q);rcases q with q|⟨o,q⟩
 ·exact .inl (s _ _ hb q)
 ·exact .inr ⟨o,s _ _ hb q⟩
def SB.same(s:bG H H'):SB d H H':=λb u _ e=>s _ _ e
def SB.trans(a:SB d H H1)(b:SB d H1 H2):SB d H H2:=λx u n e=>b x u n (a x u n e)
def iR.fr(x:iR P w K H td av fs kvs)(s:∀b u,b∉av->H b=some u->H' b=some u)(t:d6 H H')(e:H' td=H td):iR P w K H' td av fs kvs:=
 ⟨x.at_.tp t e,λa known v h=>by obtain⟨d,e1,e3⟩:=x.all a known v h;exact⟨d,e1,e3.fr s t⟩⟩
def iR.same(x:iR P w K H td av fs kvs)(s:bG H H'):iR P w K H' td av fs kvs:=by obtain⟨u,hu⟩:=x.at_.some;exact x.fr (λb u _ e=>s _ _ e) (d6.same s) (by rw[hu,s _ _ hu])
def MW.same(x:MW P w K H td av fs n)(s:bG H H'):MW P w K H' td av fs n:=by obtain⟨kvs,h1,h2⟩:=x;exact⟨kvs,h1.same s,h2⟩
def _root_.L2.fI.tH(h:fI P w K H d kvs)(l:List V):H d≠some (.lst l):=λe=>by rcases h.1 with q|⟨_,q⟩<;>rw[e]at q<;>cases q
def iR.add(x:iR P w K H td av fs kvs)(ht:td∈av)(hk:iW K H (uw a known) q)(hd:gQ P w K H av d (SK fs a known)):
  iR P w K (upd H td (.ext (DN P w td (putN kvs (uw a known) q (.ref d))))) td av fs (putN kvs (uw a known) q (.ref d)):=by
 have s:∀b u,b∉av->H b=some u->upd H td (.ext (DN P w td (putN kvs (uw a known) q (.ref d)))) b=some u:=λb u n e=>by rw[aw (λz=>n (by rw[z];exact ht))];exact e
 have t:d6 H (upd H td (.ext (DN P w td (putN kvs (uw a known) q (.ref d))))):=d6.upd x.at_.pF;refine⟨x.at_.put hk,λa' Yr v h=>?_⟩;rw[o7]at h;split at h
 ·next c=>
  cases h;obtain⟨rfl,rfl⟩:=VR c;exact⟨d,rfl,hd.fr s t⟩
 ·obtain⟨d',e1,e3⟩:=x.all a' Yr v h;exact⟨d',e1,e3.fr s t⟩
structure hU(P:Program)(w:World)(K:Frag)(C:Addr)(H:Hp)(me dx tb kl md td:Addr)(ex:List Addr)(fs:List En)(kept:List Str)(maps:Cm)(n:Nat):Prop where
 ins:H me=some (.ins C dx [("tables",.ref tb),("kept",.ref kl),("maps",.ref md),("tails",.ref td)])
 tab:ik K H tb fs
 wG:H kl=some (.lst (kept.map V.str))
 vm:RowC P w K H md maps
 zd:MW P w K H td (td::md::ex) fs n
 nm:md≠td
 nt:tb≠td
 ke:kl∉ex
def hU.same(x:hU P w K C H self dx tb kl md td ex fs kept maps n)(s:bG H H'):hU P w K C H' self dx tb kl md td ex fs kept maps n:=
 ⟨s _ _ x.ins,x.tab.same s,s _ _ x.wG,x.vm.same s,x.zd.same s,x.nm,x.nt,x.ke⟩
def FinA(a:Str×List Str):Prop:=a.2.length<=4/\PyData.strOk a.1=true/\rW a.2/\∀z∈a.2,z.length<=1000
def abl(a:Str×List Str):cc [a]=a.2:=by show a.2++[]=a.2;exact cj _
inductive BO(P:Program)(w:World)(K:Frag)(C:Addr)(vs:List V)(H:Hp)(Q:VK)(_x3:XK):Prop
 |mk (self at_ dx tb kl md td:Addr) (ex:List Addr) (fs:List En) (kept:List Str) (maps:Cm) (n:Nat) (a:Str×List Str) (_:vs=[.ref self,.ref at_]) (_:hU P w K C H self dx tb kl md td ex fs kept maps n) (_:m6 H (.ref at_) a) (_:FinA a) (_:∀(l:Addr)(H':Hp),bG H H'->H l=none->H' l=some (.lst ((gx kept a.2).map V.str))->Q (.ref l) H')
structure Df6(P:Program)(w:World)(K:Frag)(mg:Str->Option Value)(base:Heap):Prop where
 unknowns_of:dW P w K mg base 3 "unknowns_of" ["question"] Nk
def Ca(l:List Str):(dH l).length<=l.length:=Ep l
def yV:cu ["self","atom"] ["self","atom"] (defScope mD):=jx (by decide+kernel)
def Q7(F:eZ K "fresh_unknowns" "Asking.fresh_unknowns" mD f fd)(T:Txt K mg)(O:CD K C)(D:Df6 P w K mg base):cY P w K mg base fH 4 f fd ["self","atom"] (BO P w K C):=by
 refine F.ok yV (λvs H Q E h=>?_) (λc6 A outer s H vs Q E hr h=>?_)
 ·obtain⟨a,b,_,_,_,_,_,_,_,_,_,_,_,rfl,_⟩:=h;rfl
 obtain⟨self,at_,dx,tb,kl,md,td,ex,fs,kept,maps,n,a,rfl,st,ha,fa,k⟩:=h;refine⟨_,(bj (cJ (rE rfl (dB (fs:=["self"]) (fr:=[0])) (gq (cl D.unknowns_of hr (ao (mH (ao (mH az) (ao (mH (ao (pv 1) az)) az))) az))) (λ_ _ _ _=>(dj (sr (K:=K)) (pv 0) (VA (K:=K) (pv 1) rfl) (by with_unfolding_all rfl))) (λ_ _ _ _=>(pv 0))))),?_⟩;refine⟨by show 0<=sizeLine;decide,λe he=>?_⟩;have s1:=aL he (.tup ([]:List V));have he1:upd H e (.tup []) e=some (.tup []):=au;generalize (upd H e (.tup []))=H1 at s1 he1⊢;refine⟨_,rfl,by show 1<=sizeLine;decide,λt ht=>?_⟩;have s2:=aL ht (.tup [V.ref at_]);have OY:upd H1 t (.tup [V.ref at_]) t=some (.tup [V.ref at_]):=au;generalize (upd H1 t (.tup [V.ref at_]))=H2 at s2 OY⊢;refine⟨by show 2<=sizeLine;decide,λq hq=>?_⟩;have s3:=aL hq (.tup [V.ref e,V.ref t]);have hq3:upd H2 q (.tup [V.ref e,V.ref t]) q=some (.tup [V.ref e,V.ref t]):=au;have rD:=s1.trans (s2.trans s3);generalize (upd H2 q (.tup [V.ref e,V.ref t]))=H3 at s3 hq3 rD⊢;refine⟨.ref q,[],[a],rfl,⟨q,e,t,[.ref at_],rfl,hq3,s3 _ _ (s2 _ _ he1),s3 _ _ OY,.cons (rq ha rD) .nil⟩,λb hb=>?_,by show 1<=100;decide,λr H4 s4 rP rO=>?_⟩
 ·cases ay.mp hb;exact⟨fa.1,fa.2.2.2⟩
 rw[abl]at rO;have wm:=rD.trans s4;have lu:=Ca a.2;have l4:=fa.1;refine⟨r,rfl,⟨_,bp.of rO⟩,j6 (K:=K) (a:=r) (xs:=(dH a.2).map V.str) (λi ys H5=>H5=H4/\i<=(dH a.2).length/\ys=(((dH a.2).take i).filter λt=>decide (t∉kept)).map V.str) (by rw[ag];exact bK (by lia)) ⟨rfl,aO _,rfl⟩ ?_ ?_ ?_⟩
 ·rintro i ys H5 hi ⟨rfl,_,rfl⟩;refine⟨bp.of rO,?_⟩;rw[ag];exact aE (cD _ _) (by rw[aS];lia)
 ·rintro i x ys H5 N hx ⟨rfl,hi,rfl⟩ hN;obtain⟨z,hz,rfl⟩:=g8 hx;have bQ:i<(dH a.2).length:=(aq.mp hz).1;refine⟨_,rfl,_,rfl,self,C,dx,_,_,rfl,wm _ _ st.ins,O.c,O.kept,rfl,kl,_,rfl,.inl (bp.of (wm _ _ st.wG)),rfl,vC _,_,rfl,?_⟩;rw[AN];have en:((dH a.2).take (i+1)).filter (λt=>decide (t∉kept))=((dH a.2).take i).filter (λt=>decide (t∉kept))++if z∈kept then[]else[z]:=by rw[aZ,hz,bI,fE];congr 1;by_cases c:z∈kept<;>simp[c]
  by_cases c:z∈kept
  ·refine fm (λq=>by simp[c]at q) (λ_=>hN _ _ ⟨rfl,bQ,?_⟩);rw[en,aB c,cj]
  ·refine fm (λ_=>⟨_,rfl,hN _ _ ⟨rfl,bQ,?_⟩⟩) (λq=>absurd (by simp[c]) q);rw[en,ax c,aQ];rfl
 ·rintro ys H5 ⟨rfl,_,rfl⟩ l hl;rw[ag,a9];exact k l _ (wm.trans (aL hl _)) (wm.free hl) au
def Uy(kept ts:List Str):(dH ts).filter (λt=>decide (t∉jy kept ts))=gx kept ts:=by
 refine List.filter_congr λt ht=>?_;have h1:t∈ts:=(tW ht).resolve_left λz=>by cases z
 have:t∈jy kept ts↔t∈kept:=by unfold jy gx;rw[bM,g6,bM,g6];exact⟨λh=>mn λc=>h.2 ⟨ht,c⟩,λh=>⟨h1,λz=>z.2 h⟩⟩
 simp only[this]
theorem FG:∀l:List (List Str),(xY l).length<=l.length
 |[]=>ak _
 |a::r=>by have:=FG r;unfold xY;split<;>(simp only[bH];lia)
def CM(l:List (List Str)):(vg l).length<=l.length:=by unfold vg;rw[(jT _).length_eq];exact FG l
def kQ(h:z∈cU):PyData.strOk z=true:=by unfold cU at h;simp only[aI,k7,xF]at h;rcases h with rfl|rfl|rfl|rfl|rfl|rfl|rfl|rfl<;>decide+kernel
def ik.good(x:ik K H p fs)(z:Str):(cW fs z).length<=7/\∀r∈cW fs z,nF r:=by
 unfold cW;cases q:fs.find? (λe=>decide (e.nm=z))with
 |none=>exact⟨aO _,λr h=>by cases h⟩
 |some e=>
  obtain⟨_,_,h3,h4⟩:=x.en e (jk q);exact⟨h3,h4⟩
abbrev uJ(fs:List En)(z:Str):List (List Str):=vg (cW fs z)
def ub(fs:List En)(kept:List Str)(a:Str×List Str)(v:List Str):List (List Str):=aV.tails (uJ fs a.1) a.2 (jy kept a.2) (gx kept a.2) (aV.image kept v (jy kept a.2))
def JR(x:ik K H p fs)(kept:List Str)(a:Str×List Str)(v:List Str):(ub fs kept a v).length<=7:=by unfold ub aV.tails;rw[ag];exact aE (cD _ _) (aE (CM _) (x.good a.1).1)
abbrev yl(K:Frag)(H:Hp)(av:List Addr)(fs:List En)(kept:List Str)(a:Str×List Str):List V->Cm->Prop:=Paired λ(y:V)(x:List Str×Int)=>∃t zs,y=.ref t/\t∉av/\H t=some (.lst zs)/\eB K H zs (ub fs kept a x.1)
def Gn(h:yl K H av fs kept a ys m)(s:∀b u,b∉av->H b=some u->H' b=some u)(t:d6 H H'):yl K H' av fs kept a ys m:=by
 induction h with
 |nil=>exact .nil
 |cons h _ ih=>
  obtain⟨t',zs,e,n,h1,h2⟩:=h;exact .cons ⟨t',zs,e,n,s _ _ n h1,ng h2 t⟩ ih
def Gm(h:yl K H av fs kept a ys m)(s:bG H H'):yl K H' av fs kept a ys m:=Gn h (λb u _ e=>s _ _ e) (d6.same s)
structure DZ(kept:List Str)(maps:Cm):Prop where
 nd:kept.Nodup
 sok:rW kept
 len:kept.length<=100
 row:∀x∈maps,x.1.length=kept.length/\rW x.1
 gz:maps.length<=500000
inductive Ls(P:Program)(w:World)(K:Frag)(C:Addr)(vs:List V)(H:Hp)(Q:VK)(_x3:XK):Prop
 |mk (self at_ dx tb kl md td:Addr) (ex:List Addr) (fs:List En) (kept:List Str) (maps:Cm) (n:Nat) (a:Str×List Str) (_:vs=[.ref self,.ref at_]) (_:hU P w K C H self dx tb kl md td ex fs kept maps n) (_:m6 H (.ref at_) a) (_:FinA a) (_:DZ kept maps) (_:n<=1000000) (_:(∀b∈ex,∃u,H b=some u)) (_:∀(l:Addr)(ys:List V)(H':Hp),SB td H H'->H l=none->H' l=some (.lst ys)->hU P w K C H' self dx tb kl md td ex fs kept maps (n+1)->yl K H' (td::md::ex) fs kept a ys maps->Q (.ref l) H')
structure Dm6(P:Program)(w:World)(K:Frag)(mg:Str->Option Value)(base:Heap)(C:Addr):Prop extends Dn P w K mg base where
 ie:qe P w K mg base C 4 "fresh_unknowns" ["self","atom"] (BO P w K C)
 rows_of:dW P w K mg base 1 "rows_of" ["tables","name"] (Gv K)
 tails_by_key:dW P w K mg base 3 "tails_by_key" ["rows","terms","known","fresh"] (EV P w K)
def ik.sb(x:ik K H p fs)(s:SB td H H')(nt:gE H td)(nl:∀l,H td≠some (.lst l))(ne:p≠td):ik K H' p fs:=⟨s _ _ ne x.at_,x.nm,λe he=>by obtain⟨h1,h2,h3⟩:=x.en e he;exact⟨s _ _ (λz=>nl _ (by rw[<-z];exact h1)) h1,ng h2 (s.tp nt),h3⟩⟩
def RowC.sb(x:RowC P w K H d m)(s:SB td H H')(nt:gE H td)(ne:d≠td):RowC P w K H' d m:=by obtain⟨kvs,h1,h2⟩:=x;obtain⟨u,hu⟩:=h1.some;exact⟨kvs,h1.tp (s.tp nt) (by rw[hu,s _ _ ne hu]),h2⟩
def _root_.L2.fI.C9(h:fI P w K H d kvs):H d≠some (.ins C dx l):=λe=>by rcases h.1 with q|⟨_,q⟩<;>rw[e]at q<;>cases q
def hU.sb(x:hU P w K C H self dx tb kl md td ex fs kept maps n)(s:SB td H H')(ck:iR P w K H' td (td::md::ex) fs kvs)(l:kvs.length<=m):hU P w K C H' self dx tb kl md td ex fs kept maps m:=by obtain⟨_,c0,_⟩:=x.zd;exact⟨s _ _ (λz=>c0.at_.C9 (by rw[<-z];exact x.ins)) x.ins,x.tab.sb s c0.at_.pF c0.at_.tH x.nt,s _ _ (λz=>c0.at_.tH _ (by rw[<-z];exact x.wG)) x.wG,x.vm.sb s c0.at_.pF x.nm,⟨kvs,ck,l⟩,x.nm,x.nt,x.ke⟩
def gk:cu ["self","atom","fresh","known","key","tails","places"] ["self","atom"] (defScope nU):=jx (by decide+kernel)
def Q4(F:eZ K "tails_of_maps" "Asking.tails_of_maps" nU f fd)(T:Txt K mg)(O:CD K C)(D:Dm6 P w K mg base C):cY P w K mg base fH 5 f fd ["self","atom"] (Ls P w K C):=by
 refine F.ok gk (λvs H Q E h=>?_) (λc6 A outer s H vs Q E hr h=>?_)
 ·obtain⟨a,b,_,_,_,_,_,_,_,_,_,_,_,rfl,_⟩:=h;rfl
 obtain⟨self,at_,dx,tb,kl,md,td,ex,fs,kept,maps,n,a,rfl,st,ha,fa,mo,hn,hex,k⟩:=h;have hu:=iL hr;have hN:=xS hr;have cC:=O.c;refine⟨_,(aP (uq (i:=2) gk.nd rfl (Or.inr rfl) (Kv cC D.ie hr (pv 0) (ao (pv 1) az) (by lia)))
   (aP (uq (i:=3) gk.nd rfl (Or.inr rfl) (rE rfl (dB (fs:=["fresh"]) (fr:=[2])) (mG (dF rK (pv 1) bq (λ_ _=>rfl))) (λ_ _ _ _=>(dj (sr (K:=K)) (pv 0) (pv 1) (by with_unfolding_all rfl))) (λ_ _ _ _=>(pv 0))))
   (aP (fM 4 gk (mH (ao (pv 1) (ao (dZ eR rfl T.jP (by decide+kernel) (ao (pv 3) az)) az))))
   (aP (iq (dj (NY hN) (pv 4) (lF (pv 0) rfl) (by with_unfolding_all rfl)) (bj (G2 hN (lF (pv 0) rfl) (pv 4) (cl D.tails_by_key hr (ao (cl D.rows_of hr (ao (lF (pv 0) rfl) (ao (dF rK (pv 1) bq (λ_ _=>rfl)) az))) (ao (dF rK (pv 1) bq (λ_ _=>rfl)) (ao (pv 3) (ao (pv 2) az))))) rfl)) eU)
   (aP (uq (i:=5) gk.nd rfl (Or.inr rfl) (QX hN (lF (pv 0) rfl) (pv 4) (λ_ _=>rfl)))
   (aP (uq (i:=6) gk.nd rfl (Or.inr rfl) (cl D.places_of hr (ao (lF (pv 0) rfl) az)))
   (bj (cJ (G9 (js rfl (dB (fs:=["tails","known","places"]) (fr:=[5,3,6])) (QU (lF (pv 0) rfl)) (λ_ _ _ _=>(LH (P:=P) (w:=w) (K:=K) hN (pv 1) (cl D.image hr (ao (pv 2) (ao (pv 3) (ao (pv 0) az)))) (eO az) ⟨rfl,rfl,rfl,rfl⟩)))))))))))),?_⟩
 refine⟨_,rfl,self,dx,_,rfl,st.ins,rfl,_,rfl,self,at_,dx,tb,kl,md,td,ex,fs,kept,maps,n,a,rfl,st,ha,fa,λfr H1 s1 hf0 wR=>?_⟩;obtain⟨_,t,e,hp,ht⟩:=id ha;cases e;have l4:=fa.1;refine⟨_,rfl,_,_,_,_,rfl,rfl,bE.of (s1 _ _ hp),rfl,t,rfl,⟨_,bE.of (s1 _ _ ht)⟩,uK (K:=K) (a:=t) (xs:=a.2.map V.str) (λi ys H2=>H2=H1/\i<=a.2.length/\ys=((a.2.take i).filter λt=>decide (t∉gx kept a.2)).map V.str) (by rw[ag];exact bK (by lia)) ⟨rfl,aO _,rfl⟩ ?_ ?_ ?_⟩
 ·rintro i ys H2 hi ⟨rfl,_,rfl⟩;refine⟨bE.of (s1 _ _ ht),?_⟩;rw[ag];exact aE (cD _ _) (by rw[aS];lia)
 ·rintro i x ys H2 N hx ⟨rfl,hi,rfl⟩ uH;obtain⟨z,hz,rfl⟩:=g8 hx;have bQ:i<a.2.length:=(aq.mp hz).1;refine⟨_,rfl,_,rfl,fr,_,rfl,.inl (bp.of wR),rfl,vC _,_,rfl,?_⟩;rw[AN];have en:(a.2.take (i+1)).filter (λt=>decide (t∉gx kept a.2))=(a.2.take i).filter (λt=>decide (t∉gx kept a.2))++if z∈gx kept a.2 then[]else[z]:=by rw[aZ,hz,bI,fE];congr 1;by_cases c:z∈gx kept a.2<;>simp[c]
  by_cases c:z∈gx kept a.2
  ·refine fm (λq=>by simp[c]at q) (λ_=>uH _ _ ⟨rfl,bQ,?_⟩);rw[en,aB c,cj]
  ·refine fm (λ_=>⟨_,rfl,uH _ _ ⟨rfl,bQ,?_⟩⟩) (λq=>absurd (by simp[c]) q);rw[en,ax c,aQ];rfl
 rintro ys H2 ⟨rfl,_,rfl⟩ kn Zn;rw[ag,a9];have s2:=aL Zn (.lst ((jy kept a.2).map V.str));have Ma:upd H2 kn (.lst ((jy kept a.2).map V.str)) kn=some (.lst ((jy kept a.2).map V.str)):=au;have lX:=s1.trans s2;have ZA:=s2 _ _ wR;generalize hH:(upd H2 kn (.lst _))=H3;have hH':upd H2 kn (.lst ((jy kept a.2).map V.str))=H3:=hH;rw[hH']at s2 Ma lX ZA;clear hH hH';refine⟨_,rfl,_,rfl,kn,_,rfl,.inl ⟨bp.of Ma,λtk OW=>?_⟩⟩;have s4:=aL OW (.tup ((jy kept a.2).map V.str));have Rz:upd H3 tk (.tup ((jy kept a.2).map V.str)) tk=some (.tup ((jy kept a.2).map V.str)):=au;have wm:=lX.trans s4;have Zz:=s4 _ _ ZA;have RJ:=s4 _ _ Ma;generalize (upd H3 tk (.tup ((jy kept a.2).map V.str)))=H4 at s4 Rz wm Zz RJ⊢;refine⟨by show 2<=sizeLine;decide,λky hky=>?_⟩;have s5:=aL hky (.tup [V.ref at_,V.ref tk]);have Zj:upd H4 ky (.tup [V.ref at_,V.ref tk]) ky=some (.tup [V.ref at_,V.ref tk]):=au;have uk:=wm.trans s5;have hf5:=s5 _ _ Zz;have L9:=s5 _ _ RJ;have YZ:=s5 _ _ Rz;generalize (upd H4 ky (.tup [V.ref at_,V.ref tk]))=H5 at s5 Zj uk hf5 L9 YZ⊢;have nN:=st.same uk;have sk:rW (jy kept a.2):=λz hz=>fa.2.2.1 z (bM.mp hz).1;have lkn:(jy kept a.2).length<=4:=aE (cD _ _) l4;have key:∀{H':Hp},d6 H5 H'->iW K H' (uw a (jy kept a.2)) ky:=λtp=>wH (Rp (bE.of Zj) (bE.of (uk _ _ hp)) (bE.of (uk _ _ ht)) (bE.of YZ) fa.2.1 fa.2.2.1 sk) tp;obtain⟨kvs,ck,lk⟩:=id nN.zd;clear s1 s2 lX wm s4 s5 wR ZA Zz Ma RJ Rz hky OW Zn;dsimp only[rh];refine GF λNX ZX=>?_;have go:∀(H6:Hp)(OB:List (NK×Addr×V))(d:Addr),SB td H5 H6->iR P w K H6 td (td::md::ex) fs OB->OB.length<=n+1->valN OB (uw a (jy kept a.2))=some (.ref d)->NX [some (.ref self),some (.ref at_),some (.ref fr),some (.ref kn),some (.ref ky),none,none] H6:=λH6 OB d jU P7 lk6 Fo=>by
  refine ZX _ _ ?_;have tp6:=jU.tp ck.at_.pF;have lC:=nN.sb jU P7 lk6;have Zm:=jU _ _ (λz=>ck.at_.tH _ (by rw[<-z];exact L9)) L9;obtain⟨d',e',tv6⟩:=P7.all _ _ _ Fo;cases e';have et:SK fs a (jy kept a.2)=aV.tails (uJ fs a.1) a.2 (jy kept a.2) (gx kept a.2):=by show aV.tails _ _ _ ((dH a.2).filter λt=>decide (t∉jy kept a.2))=_;rw[Uy]
  rw[et]at tv6;refine⟨_,rfl,self,C,dx,_,_,rfl,lC.ins,O.c,O.tails,rfl,_,rfl,td,ky,OB,_,.ref d,rfl,rfl,P7.at_,key tp6,Fo,?_⟩;refine⟨_,rfl,self,C,dx,_,_,rfl,lC.ins,O.c,O.kept,rfl,kl,kept,rfl,bp.of lC.wG,mo.nd,mo.len,λpd H7 s7 RF acL=>?_⟩;have ue:=lC.same s7;obtain⟨pM,Fu,em⟩:=ue.vm;obtain⟨um,HW⟩:=Fu.some;have X4:∀u v,H7 md≠some (.cQ u v):=λu v e=>by rcases Fu.1 with q|⟨_,q⟩<;>rw[e]at q<;>cases q
  have Fb:gE H7 md:=Fu.pF;refine⟨md,X4,?_⟩;refine⟨_,rfl,self,C,dx,_,_,rfl,ue.ins,O.c,O.maps,rfl,md,um,pM,rfl,HW,Fu,λo=>?_⟩;have sQ:SB md H7 (upd H7 md (.cQ o um)):=λb u n e=>by rw[aw n];exact e
  have zc:=sQ.tp Fb;have W0:=(tv6.same s7).fr (λb u n e=>sQ b u (λz=>n (by rw[z];exact aD _ aA)) e) zc;have Zl:upd H7 md (.cQ o um) kn=some (.lst ((jy kept a.2).map V.str)):=sQ _ _ (λz=>Fu.tH _ (by rw[<-z];exact s7 _ _ Zm)) (s7 _ _ Zm);have pdm:pd≠md:=λz=>by obtain⟨_,h1,_⟩:=lC.vm;obtain⟨_,h2⟩:=h1.some;rw[z,h2]at RF;cases RF
  have Y5:upd H7 md (.cQ o um) pd=some (.dK (placesK kept)):=sQ _ _ pdm acL;have vy:upd H7 md (.cQ o um) md=some (.cQ o um):=au;have avf:∀b∈td::md::ex,∃u,upd H7 md (.cQ o um) b=some u:=λb hb=>by
   by_cases z:b=md
   ·exact⟨_,by rw[z];exact vy⟩
   ·have go7:∀{u:HO},H7 b=some u->∃u,upd H7 md (.cQ o um) b=some u:=λ{u} e=>⟨u,by rw[aw z];exact e⟩;by_cases z2:b=td
    ·obtain⟨_,h⟩:=P7.at_.some;exact go7 (s7 _ _ (by rw[z2];exact h))
    ·have Pn:b∈ex:=by
      rcases aI.mp hb with h|h
      ·exact absurd h z2
      ·exact(aI.mp h).resolve_left z
     obtain⟨_,h⟩:=hex b Pn;exact go7 (s7 _ _ (jU _ _ z2 (uk _ _ h)))
  have OA:pM.length=maps.length:=by have:=cA List.length em;unfold rV at this;rw[ag,ag]at this;exact this
  have gv:∀(i:Nat)(q:NK×Addr×V),pM[i]?=some q->∃x,maps[i]?=some x/\bE K H7 q.2.1 (x.1.map V.str):=λi q hq=>by
   have e1:(rV maps)[i]?=some (q.1,q.2.2):=by rw[<-em,aJ,hq];rfl
   unfold rV at e1;rw[aJ]at e1;obtain⟨x,e2,e3⟩:=bo.mp e1;have e4:d5 x.1=q.1:=cA Prod.fst e3;have:=(Fu.2 q (aC hq)).1;rw[<-e4]at this;exact⟨x,e2,Dc this⟩
  generalize Dz:upd H7 md (.cQ o um)=Hf at W0 Zl Y5 vy zc avf⊢;refine ML (d:=md) (o:=o) (u:=um) (kvs:=pM.map λp=>(V.ref p.2.1,p.2.2)) (λi ys H8=>bG Hf H8/\i<=maps.length/\yl K H8 (td::md::ex) fs kept a ys (maps.take i)) (by rw[ag,OA];exact bZ mo.gz (by decide)) ⟨λ_ _ x=>x,aO _,.nil⟩ ?_ ?_ ?_
  ·rintro i ys H8 hi ⟨s8,Uh,tl⟩;refine⟨s8 _ _ vy,?_⟩;rw[bB tl,aS];lia
  ·rintro i kv ys H8 N hG ⟨s8,Uh,tl⟩ uH;rw[aJ]at hG;obtain⟨q,hq,rfl⟩:=bo.mp hG;obtain⟨x,hx,hg⟩:=gv i q hq;have bQ:i<maps.length:=(aq.mp hx).1;obtain⟨g1,g2⟩:=mo.row x (aC hx);obtain⟨_,kvt,HZ,oX⟩:=W0.same s8;refine iH ?_;refine⟨_,rfl,d,kvt,rfl,HZ,_,rfl,_,rfl,_,rfl,kn,pd,q.2.1,jy kept a.2,kept,x.1,rfl,.inl (bp.of (s8 _ _ Zl)),s8 _ _ Y5,mo.nd,iT (lD hg zc) s8,g1,by lia,mo.len,λr H9 s9 rP O6=>?_⟩;refine⟨by show 0<=sizeLine;decide,λl0 qu=>?_⟩;have mE:=s9.trans (aL qu (.lst ([]:List V)));have Eu:upd H9 l0 (.lst []) l0=some (.lst []):=au;have L5:=(aL qu (.lst ([]:List V))) _ _ O6;generalize (upd H9 l0 (.lst []))=se at mE Eu L5⊢;obtain⟨_,ab5,acH,ZM⟩:=W0.same (s8.trans mE);refine⟨r,ab5,d5 (aV.image kept x.1 (jy kept a.2)),rfl,acH,xP (bE.of L5) (vi g2 sk),uH _ _ ⟨s8.trans mE,bQ,?_⟩⟩;rw[aZ,hx];refine(Gm tl mE).snoc ?_;rcases ZM (aV.image kept x.1 (jy kept a.2))with⟨h1,h2⟩|⟨l,zs,h1,h4,h2,h3⟩
   ·refine⟨l0,[],by rw[h1];rfl,λz=>?_,Eu,?_⟩
    ·obtain⟨u,e⟩:=avf l0 z;rw[s9 _ _ (s8 _ _ e)]at qu;cases qu
    unfold ub;rw[h2];exact .nil
   ·exact⟨l,zs,by rw[h1];rfl,h4,h2,h3⟩
  ·rintro ys H8 ⟨s8,_,tl⟩ l hl;rw[ag,OA,a9]at tl;have s9:=s8.trans (aL hl (.lst ys));have Il:upd H8 l (.lst ys) l=some (.lst ys):=au;have tl9:=Gm tl (aL hl (.lst ys));have lmd:l≠md:=λz=>by rw[z,s8 _ _ vy]at hl;cases hl
   have h7l:H7 l=none:=by
    cases e:H7 l with
    |none=>rfl
    |some u=>
     have:Hf l=some u:=by rw[<-Dz,aw lmd];exact e
     rw[s8 _ _ this]at hl;cases hl
   generalize (upd H8 l (.lst ys))=H9 at s9 Il tl9⊢;refine⟨o,um,s9 _ _ vy,?_⟩;have sF:bG H7 (upd H9 md um):=λb u e=>by
    by_cases z:b=md
    ·rw[z,HW]at e;cases e;rw[z,au]
    ·rw[aw z];exact s9 _ _ (by rw[<-Dz,aw z];exact e)
   have nt9:gE H9 md:=λxs q=>by have e9:=s9 _ _ vy;rcases q with q|⟨o',q⟩<;>rw[e9]at q<;>cases q;exact Fb xs (.inl HW)
   have sb9:SB md H9 (upd H9 md um):=λb u n e=>by rw[aw n];exact e
   have tlF:yl K (upd H9 md um) (td::md::ex) fs kept a ys maps:=Gn tl9 (λb u n e=>sb9 b u (λz=>n (by rw[z];exact aD _ aA)) e) (sb9.tp nt9);have Uv:H6 l=none:=s7.free h7l;have Py:H l=none:=by
    cases e:H l with
    |none=>rfl
    |some u=>
     by_cases z:l=td
     ·obtain⟨_,h⟩:=P7.at_.some;rw[z,h]at Uv;cases Uv
     ·rw[jU _ _ z (uk _ _ e)]at Uv;cases Uv
   exact k l ys _ (((SB.same uk).trans jU).trans (SB.same (s7.trans sF))) Py (by rw[aw lmd];exact Il) (ue.same sF) tlF
 refine⟨_,rfl,_,rfl,self,C,dx,_,_,rfl,nN.ins,O.c,O.tails,rfl,td,ky,kvs,_,rfl,rfl,ck.at_,key (d6.refl _),_,rfl,?_⟩;refine fm (λc=>?_) (λc=>?_)
 ·have hv:valN kvs (uw a (jy kept a.2))=none:=by simpa using c
  refine⟨_,rfl,self,C,dx,_,_,rfl,nN.ins,O.c,O.tables,rfl,_,rfl,_,_,_,_,rfl,rfl,bE.of (uk _ _ hp),rfl,tb,fs,a.1,rfl,nN.tab,λrl rys H6 s6 adA uC KH=>?_⟩;have lC:=nN.same s6;have uj:=uk.trans s6;refine⟨_,rfl,_,_,_,_,rfl,rfl,bE.of (uj _ _ hp),rfl,_,rfl,_,rfl,rl,t,kn,fr,rys,uJ fs a.1,a.2,jy kept a.2,gx kept a.2,rfl,bp.of uC,KH,uj _ _ ht,bp.of (s6 _ _ L9),bp.of (s6 _ _ hf5),?_,λr hr=>?_,by lia,by lia,?_,λz hz=>(bM.mp hz).1,λz hz=>(tW (bM.mp hz).1).resolve_left (λh=>by cases h),λd H7 s7 h9 tv=>?_⟩
  ·exact aE (CM _) (aE (nN.tab.good a.1).1 (by decide))
  ·obtain⟨_,h2,h3⟩:=(nN.tab.good a.1).2 r ((kR _ _).mp hr);exact⟨by lia,λz hz=>kQ (h3 z hz)⟩
  ·have:=Ca a.2;exact aE (cD _ _) (by lia)
  have ue:=lC.same s7;have S5:=s6.trans s7;have ck7:=ck.same S5;have av:∀b∈td::md::ex,H6 b≠none:=λb hb=>by
   rcases aI.mp hb with rfl|hb
   ·obtain⟨_,h⟩:=ck.at_.some;rw[s6 _ _ h];simp
   ·rcases aI.mp hb with rfl|hb
    ·obtain⟨_,h1,_⟩:=lC.vm;obtain⟨_,h⟩:=h1.some;rw[h];simp
    ·obtain⟨_,h⟩:=hex b hb;rw[uj _ _ h];simp
  refine⟨_,rfl,self,C,dx,_,_,rfl,ue.ins,O.c,O.tails,rfl,_,rfl,td,ky,kvs,_,rfl,rfl,ck7.at_,key (d6.same S5),by lia,?_⟩;have tv2:gQ P w K H7 (td::md::ex) d (SK fs a (jy kept a.2)):=by show gQ P w K H7 (td::md::ex) d (aV.tails _ _ _ ((dH a.2).filter λt=>decide (t∉jy kept a.2)));rw[Uy];exact tv _ av
  exact go _ _ d ((SB.same S5).trans λb u n e=>by rw[aw n];exact e) (ck7.add aA (key (d6.same S5)) tv2) (aE uo (by lia)) (by rw[o7,aB rfl])
 ·obtain⟨v,hv⟩:=Option.ne_none_iff_exists'.mp (show ¬valN kvs (uw a (jy kept a.2))=none by simpa using c);obtain⟨d,rfl,_⟩:=ck.all _ _ _ hv;exact go H5 kvs d (λ_ _ _ e=>e) ck (by lia) hv
def hU.mono(x:hU P w K C H self dx tb kl md td ex fs kept maps n)(l:n<=m):hU P w K C H self dx tb kl md td ex fs kept maps m:=
 ⟨x.ins,x.tab,x.wG,x.vm,let⟨kvs,h1,h2⟩:=x.zd;⟨kvs,h1,aE h2 l⟩,x.nm,x.nt,x.ke⟩
def Ag(h:m6 H v a)(s:SB td H H')(nt:gE H td):m6 H' v a:=by obtain⟨p,t,e,h1,h2⟩:=h;exact⟨p,t,e,s _ _ (λz=>nt _ (.inl (by rw[<-z];exact h1))) h1,s _ _ (λz=>nt _ (.inl (by rw[<-z];exact h2))) h2⟩
def DS(h:fX H vs as)(s:SB td H H')(nt:gE H td):fX H' vs as:=by
 induction h with
 |nil=>exact .nil
 |cons h _ ih=>exact .cons (Ag h s nt) ih
def hU.Kr(x:hU P w K C H self dx tb kl md td ex fs kept maps n):gE H td/\∀l,H td≠some (.lst l):=by obtain⟨_,c0,_⟩:=x.zd;exact⟨c0.at_.pF,c0.at_.tH⟩
inductive Nr(P:Program)(w:World)(K:Frag)(C:Addr)(vs:List V)(H:Hp)(Q:VK)(_x3:XK):Prop
 |mk (self l dx tb kl md td:Addr) (ex:List Addr) (fs:List En) (kept:List Str) (maps:Cm) (n:Nat) (ys:List V) (ba:List (Str×List Str)) (_:vs=[.ref self,.ref l]) (_:hU P w K C H self dx tb kl md td ex fs kept maps n) (_:H l=some (.lst ys)) (_:fX H ys ba) (_:(∀a∈ba,FinA a)) (_:0<ba.length) (_:ba.length<=100) (_:DZ kept maps) (_:n+100<=1000000) (_:(∀b∈ex,b≠td/\∃u,H b=some u)) (_:∀(i:Nat)(H':Hp),i<ba.length->SB td H H'->hU P w K C H' self dx tb kl md td ex fs kept maps (n+100)->Q (.int i) H')
structure Db6(P:Program)(w:World)(K:Frag)(mg:Str->Option Value)(base:Heap)(C:Addr):Prop where
 iJ:qe P w K mg base C 5 "tails_of_maps" ["self","atom"] (Ls P w K C)
def gN:cu ["self","atoms","best","fewest","place","atom","count"] ["self","atoms"] (defScope qF):=jx (by decide+kernel)
def VP(F:eZ K "best_place" "Asking.best_place" qF f fd)(T:Txt K mg)(O:CD K C)(D:Db6 P w K mg base C):cY P w K mg base fH 6 f fd ["self","atoms"] (Nr P w K C):=by
 refine F.ok gN (λvs H Q E h=>?_) (λc6 A outer s H vs Q E hr h=>?_)
 ·obtain⟨a,b,_,_,_,_,_,_,_,_,_,_,_,_,rfl,_⟩:=h;rfl
 obtain⟨self,l,dx,tb,kl,md,td,ex,fs,kept,maps,n,ys,ba,rfl,st,hl,qr,fa,l0,l1,mo,hn,hex,k⟩:=h;have hu:=iL hr;have hN:=xS hr;have cC:=O.c;refine⟨_,(aP (ur (mH (ao bq (ao NS az))) (lE rfl (dk (iz 2 gN) (dk (iz 3 gN) jO))))
   (aP (eJ bF rfl (Kj rfl T.Bj (ao (pv 1) az)) (lE rfl (dk (iz 4 gN) (dk (iz 5 gN) jO)))
   (aP (fM 6 gN (cE (Sl rfl) rfl T.aaX (by decide+kernel) (ao (js rfl (dB (fs:=[]) (fr:=[])) (gq (Kv cC D.iJ hr (pv 0) (ao (pv 5) az) (by lia))) (λ_ _ _ _=>(cE (Ac (K:=K)) rfl T.jg cq (ao (pv 0) az)))) az)))
   (aP (iq (PW.pt (F2 (dj XR (pv 3) NS (fN _)) (GU (dj LK (pv 6) (pv 3) (fN _))))) (bj (XH (i:=2) (j:=3) rfl gN.nd rfl rfl (by decide) rfl rfl (ao (pv 4) (ao (pv 6) az)) rfl)) eU)
   (bj (iq (dj LL (pv 6) (cE Qa rfl T.jg cq (ao (lF (pv 0) rfl) az)) (fN _)) (bj (cJ (pv 4))) eU)))))
   (bj (cJ (pv 2))))),?_⟩
 have ly:ys.length=ba.length:=bB qr;obtain⟨XY,X3⟩:=st.Kr;have qu:∀{H':Hp},SB td H H'->H' l=some (.lst ys):=λsb=>sb _ _ (λz=>X3 _ (by rw[<-z];exact hl)) hl;refine⟨by show 2<=sizeLine;decide,λp hp=>⟨p,_,rfl,bE.of au,rfl,_,_,rfl,_,_,rfl,rfl,?_⟩⟩;have s1:=aL hp (.tup [V.int 0,V.cb]);refine⟨_,rfl,l,rfl,⟨_,bp.of (s1 _ _ hl)⟩,IE (K:=K) (a:=l) (xs:=ys)
  (λi Z H2=>∃(b:Nat)(fw:V)(x4 x5 x6:Option V),Z=[some (.ref self),some (.ref l),some (.int b),some fw,x4,x5,x6]/\SB td H H2/\hU P w K C H2 self dx tb kl md td ex fs kept maps (n+i)/\b<ba.length/\(fw=.cb\/∃c,fw=.int c))
  ⟨0,.cb,none,none,none,rfl,SB.same s1,st.same s1,l0,.inl rfl⟩ (λi Z H2 _ hq=>by(obtain⟨_,_,_,_,_,_,sb,_⟩:=hq;exact bp.of (qu sb))) ?_ ?_⟩
 ·rintro i x q Z H2 hx ⟨b,fw,x4,x5,x6,rfl,CW,o9,hb,Uj⟩ hq;obtain⟨a,ha,hxa⟩:=Paired.at qr hx;have bQ:i<ba.length:=(aq.mp ha).1;have s3:=aL hq (.tup [V.int i,x]);refine⟨q,_,rfl,bE.of au,rfl,_,_,rfl,_,_,rfl,rfl,?_⟩;have mC:=CW.trans (SB.same s3);have sP:=o9.same s3;generalize (upd H2 q (.tup [V.int i,x]))=H3 at s3 mC sP⊢;obtain⟨ap,at_,rfl,_⟩:=id hxa;refine⟨_,rfl,self,dx,_,rfl,sP.ins,rfl,_,rfl,self,ap,dx,tb,kl,md,td,ex,fs,kept,maps,n+i,a,rfl,sP,Ag hxa mC XY,fa a (aC ha),mo,by lia,λb hb=>⟨_,mC _ _ (hex b hb).1 (hex b hb).2.choose_spec⟩,λtl tys H4 Bf Ry YY vh kT=>?_⟩;have Tv:tys.length=maps.length:=bB kT;refine⟨tl,rfl,⟨_,bp.of YY⟩,j6 (K:=K) (a:=tl) (xs:=tys) (λj zs H5=>H5=H4/\j<=maps.length/\zs=((maps.take j).map λx=>((ub fs kept a x.1).length:Int)).map V.int) (by rw[Tv];exact bZ mo.gz (by decide)) ⟨rfl,aO _,rfl⟩ ?_ ?_ ?_⟩
  ·rintro j zs H5 hj ⟨rfl,_,rfl⟩;refine⟨bp.of YY,?_⟩;rw[ag,ag,aS];lia
  ·rintro j x zs H5 N hx5 ⟨rfl,hj,rfl⟩ uH;obtain⟨y,hy,t,zz,rfl,_,ht,KH⟩:=Paired.at' kT hx5;have ma:j<maps.length:=(aq.mp hy).1;refine iH ?_;refine⟨_,rfl,_,_,rfl,.inl ⟨_,bp.of ht,rfl⟩,uH _ _ ⟨rfl,ma,?_⟩⟩;rw[aZ,hy,aQ,aQ,KH.length];rfl
  rintro zs H5 ⟨rfl,_,rfl⟩ sl hsl;rw[Tv,a9];refine⟨sl,_,rfl,bp.of au,?_⟩;have s6:=aL hsl (.lst ((maps.map λx=>((ub fs kept a x.1).length:Int)).map V.int));have lC:=vh.same s6;have jU:=mC.trans (Bf.trans (SB.same s6));generalize (upd H5 sl (.lst ((maps.map λx=>((ub fs kept a x.1).length:Int)).map V.int)))=H6 at s6 lC jU⊢;generalize (maps.map λx=>((ub fs kept a x.1).length:Int)).sum=cn;dsimp only[rh];refine GF λNX ZX=>?_;have go:∀(b:Nat)(fw:V)(H7:Hp),b<ba.length->(fw=.cb\/∃c,fw=.int c)->SB td H H7->hU P w K C H7 self dx tb kl md td ex fs kept maps (n+i+1)->NX [some (.ref self),some (.ref l),some (.int b),some fw,some (.int i),some (.ref ap),some (.int cn)] H7:=λb fw H7 hb Uj zj ue=>by
   refine ZX _ _ ?_;obtain⟨pM,Fu,em⟩:=ue.vm;refine⟨_,rfl,_,rfl,self,C,dx,_,_,rfl,ue.ins,O.c,O.maps,rfl,md,pM,rfl,Fu,_,_,rfl,rfl,_,rfl,?_⟩;refine fm (λc=>?_) (λc=>?_)
   ·exact⟨_,rfl,k i H7 bQ zj (ue.mono (by lia))⟩
   ·exact⟨b,fw,_,_,_,rfl,zj,ue,hb,Uj⟩
  rcases Uj with rfl|⟨c,rfl⟩
  ·exact⟨_,rfl,rfl,_,rfl,Es (Es ⟨_,rfl,_,rfl,_,_,rfl,go i _ H6 bQ (.inr ⟨_,rfl⟩) jU lC⟩)⟩
  ·refine⟨_,rfl,rfl,_,rfl,qK ⟨_,rfl,_,rfl,_,_,rfl,rfl,_,rfl,fm (λc=>?_) (λc=>?_)⟩⟩
   ·exact⟨_,rfl,_,rfl,_,_,rfl,go i _ H6 bQ (.inr ⟨_,rfl⟩) jU lC⟩
   ·exact go b _ H6 hb (.inr ⟨_,rfl⟩) jU lC
 ·rintro Z H2 ⟨b,fw,x4,x5,x6,rfl,CW,o9,hb,Uj⟩;exact⟨_,rfl,k b H2 hb CW (o9.mono (by lia))⟩
def Q1(h:X.K=K:=by rfl):jr X (binaryOp .Add) (Tc K):=h▸VG
abbrev zJ(fs:List En)(kept:List Str)(a:Str×List Str)(maps:Cm):Cm:=aV.longer maps (uJ fs a.1) a.2 kept (jy kept a.2) (gx kept a.2)
def Rc{maps:Cm}(h:maps[i]?=some x):zJ fs kept a (maps.take (i+1))=zJ fs kept a (maps.take i)++(ub fs kept a x.1).map λt=>(x.1++t,x.2):=by unfold zJ aV.longer;rw[aZ,h,bI,yW,kE,List.flatMap_nil,cj];rfl
def VZ(h:y∈zJ fs kept a maps):∃x∈maps,∃t∈ub fs kept a x.1,y=(x.1++t,x.2):=by unfold zJ aV.longer at h;obtain⟨x,hx,h⟩:=jE.mp h;obtain⟨t,ht,rfl⟩:=aM.mp h;exact⟨x,hx,t,ht,rfl⟩
def JQ(tb:ik K H p fs)(h:t∈ub fs kept a v):t.length=(gx kept a.2).length/\rW t:=by
 unfold ub aV.tails at h;obtain⟨r,hr,rfl⟩:=aM.mp h;obtain⟨h1,h2⟩:=bM.mp hr;rw[cM]at h2;have le:r.length=a.2.length:=by have:=h2.1;unfold aV.l9 at this;rw[cM]at this;exact br this.1
 obtain⟨_,_,h3⟩:=(tb.good a.1).2 r ((kR _ _).mp h1);exact⟨ag _,Nv (λz hz=>kQ (h3 z hz)) le λz hz=>(tW (bM.mp hz).1).resolve_left λh=>by cases h⟩
theorem Eo(tb:ik K H p fs):∀{maps:Cm},(zJ fs kept a maps).length<=7*maps.length
 |[]=>ak _
 |x::maps=>by have h1:=Eo tb (kept:=kept) (a:=a) (maps:=maps);have h2:=JR tb kept a x.1;unfold zJ aV.longer at h1⊢;unfold ub at h2;rw[kE,aK,ag,bH];lia
def tG(ts:List Str):(dH ts).Nodup:=by
 have gen:∀(l acc:List Str),acc.Nodup->(l.foldl step acc).Nodup:=by
  intro l
  induction l with
  |nil=>intro acc h;exact h
  |cons t l ih=>
   intro acc h;refine ih _ ?_;unfold step;split
   ·split
    ·exact h
    ·next c=>exact eY.mpr ⟨h,fP _ _,λa ha b hb=>by rw[ay.mp hb];exactλz=>c (by rw[<-z];exact ha)⟩
   ·exact h
 exact gen ts [] .nil
def Jy(ts:List Str)(nd:kept.Nodup):(kept++gx kept ts).Nodup:=
 eY.mpr ⟨nd,(tG ts).sublist (qA),λx hx y hy e=>by have:=(bM.mp hy).2;rw[g6]at this;exact this (by rw[<-e];exact hx)⟩
def mI(h:Paired (vD K H) zs m)(t:d6 H H'):Paired (vD K H') zs m:=by
 induction h with
 |nil=>exact .nil
 |cons h _ ih=>exact .cons (Hj h t) ih
theorem B3:∀{aad m₁:List α}{aac m₂:List β},Paired F aad aac->Paired F m₁ m₂->Paired F (aad++m₁) (aac++m₂)
 |_,_,_,_,.nil,h=>h
 |_,_,_,_,.cons q t,h=>.cons q (B3 t h)
def gQ.C9(x:gQ P w K H av d f)(h:H me=some (.ins C dx l0)):gQ P w K H (me::av) d f:=by
 obtain⟨h0,kvs,h1,h2⟩:=x;refine⟨λz=>?_,kvs,h1,λzs=>(h2 zs).imp id λ⟨l,ys,a,n,b,c⟩=>⟨l,ys,a,λz=>?_,b,c⟩⟩
 ·rcases aI.mp z with z|z
  ·exact h1.C9 (by rw[z];exact h)
  ·exact h0 z
 ·rcases aI.mp z with z|z
  ·rw[z,h]at b;cases b
  ·exact n z
def iR.to(x:iR P w K H td av fs kvs)(t:d6 H H')(e:H' td=H td)(h:∀d f,gQ P w K H av d f->gQ P w K H' av' d f):iR P w K H' td av' fs kvs:=
 ⟨x.at_.tp t e,λa known v q=>by obtain⟨d,e1,e3⟩:=x.all a known v q;exact⟨d,e1,h _ _ e3⟩⟩
inductive Nl(P:Program)(w:World)(K:Frag)(C:Addr)(vs:List V)(H:Hp)(Q:VK)(_x3:XK):Prop
 |mk (self at_ nd dx tb kl md td:Addr) (ex:List Addr) (fs:List En) (kept:List Str) (maps:Cm) (n:Nat) (a:Str×List Str) (need:Str->Bool) (_:vs=[.ref self,.ref at_,.ref nd]) (_:hU P w K C H self dx tb kl md td ex fs kept maps n) (_:m6 H (.ref at_) a) (_:FinA a) (_:DZ kept maps) (_:kept.length<=90) (_:n<=900000) (_:aax H nd (λz=>need z=true)) (_:nd≠td) (_:(∀b∈ex,b≠td/\∃u,H b=some u)) (_:∀(qq yI:Addr)(H':Hp),(∀b u,b≠td->b≠self->H b=some u->H' b=some u)->hU P w K C H' self dx tb qq yI td ex fs ((kept++gx kept a.2).filter need) (aV.narrowed (zJ fs kept a maps) (kept++gx kept a.2) ((kept++gx kept a.2).filter need)) (n+1)->Q .cb H')
structure Dk6(P:Program)(w:World)(K:Frag)(mg:Str->Option Value)(base:Heap)(C:Addr):Prop where
 ie:qe P w K mg base C 4 "fresh_unknowns" ["self","atom"] (BO P w K C)
 iJ:qe P w K mg base C 5 "tails_of_maps" ["self","atom"] (Ls P w K C)
 narrowed:dW P w K mg base 3 "narrowed" ["counted_maps","unknowns","terms"] (xq P w K)
def my:cu ["self","atom","needed","bound","longer","counted_map","tails","given","count"] ["self","atom","needed"] (defScope BP):=jx (by decide+kernel)
def VI(F:eZ K "take" "Asking.take" BP f fd)(T:Txt K mg)(O:CD K C)(D:Dk6 P w K mg base C):cY P w K mg base fH 6 f fd ["self","atom","needed"] (Nl P w K C):=by
 refine F.ok my (λvs H Q E h=>?_) (λc6 A outer s H vs Q E hr h=>?_)
 ·obtain⟨a,b,c,_,_,_,_,_,_,_,_,_,_,_,_,rfl,_⟩:=h;rfl
 obtain⟨self,at_,nd,dx,tb,kl,md,td,ex,fs,kept,maps,n,a,need,rfl,st,ha,fa,mo,lk,hn,Zb,X8,hex,k⟩:=h;have hu:=iL hr;have hN:=xS hr;have cC:=O.c;refine⟨_,(aP (fM 3 my (d7 Hm (lF (pv 0) rfl) (Kv cC D.ie hr (pv 0) (ao (pv 1) az) (by lia))))
   (aP (fM 4 my (eO az))
   (aP (BZ (eJ bF rfl (Vu rfl T.F6 (ao (E4 (lF (pv 0) rfl)) (ao (Kv cC D.iJ hr (pv 0) (ao (pv 1) az) (by lia)) az))) (lE rfl (dk (iz 5 my) (dk (iz 6 my) jO)))
   (aP (ur (pv 5) (lE rfl (dk (ni (i:=7) my.nd rfl (Or.inr rfl)) (dk (ni (i:=8) my.nd rfl (Or.inr rfl)) jO))))
   (bj (iI (kz bY uR uQ Om (pv 4) (ao (js rfl (dB (fs:=["given","count"]) (fr:=[7,8])) (gq (pv 6)) (λ_ _ _ _=>(mH (ao (d7 (Q1 (K:=K)) (pv 1) (pv 0)) (ao (pv 2) az))))) az)))))))
   (aP (wu (pv 0) (rE rfl (dB (fs:=["needed"]) (fr:=[2])) (gq (pv 3)) (λ_ _ _ _=>(GZ (Hh hu (pv 0) (pv 1)))) (λ_ _ _ _=>(pv 0))) rfl)
   (bj (wu (pv 0) (cl D.narrowed hr (ao (pv 4) (ao (pv 3) (ao (lF (pv 0) rfl) az)))) rfl)))))),?_⟩
 refine⟨_,rfl,self,C,dx,_,_,rfl,st.ins,O.c,O.kept,rfl,_,rfl,self,dx,_,rfl,st.ins,rfl,_,rfl,self,at_,dx,tb,kl,md,td,ex,fs,kept,maps,n,a,rfl,st,ha,fa,λfr H1 s1 hf0 wR=>?_⟩;have lu:(gx kept a.2).length<=4:=aE (cD _ _) (aE (Ca a.2) fa.1);have lb:(kept++gx kept a.2).length<=100:=by rw[aK];lia
 refine⟨kl,fr,_,_,rfl,rfl,s1 _ _ st.wG,wR,?_,λbd hbd=>?_⟩
 ·rw[ag,ag,<-aK];exact bu (bK (by lia))
 have s2:=aL hbd (.lst (kept.map V.str++(gx kept a.2).map V.str));have Pn:upd H1 bd (.lst (kept.map V.str++(gx kept a.2).map V.str)) bd=some (.lst ((kept++gx kept a.2).map V.str)):=by rw[au,aQ]
 have lX:=s1.trans s2;generalize (upd H1 bd (.lst (kept.map V.str++(gx kept a.2).map V.str)))=H2 at s2 Pn lX⊢;refine⟨by show 0<=sizeLine;decide,λlg Pe=>?_⟩;have s3:=aL Pe (.lst ([]:List V));have Fv:upd H2 lg (.lst ([]:List V)) lg=some (.lst []):=au;have rD:=lX.trans s3;have lg0:H lg=none:=lX.free Pe;have blg:bd≠lg:=aW Pn Pe;have hb3:=s3 _ _ Pn;have o9:=st.same lX;have sP:hU P w K C (upd H2 lg (.lst ([]:List V))) self dx tb kl md td (lg::ex) fs kept maps n:=by
  obtain⟨kvs,ck,l⟩:=o9.zd;have c3:iR P w K H2 td (td::md::lg::ex) fs kvs:=⟨ck.at_,λa known v h=>by
   obtain⟨d,e,tv⟩:=ck.all a known v h;exact⟨d,e,(tv.more Pe).less λb hb=>by simp only[aI]at hb⊢;rcases hb with h|h|h|h<;>simp[h]⟩⟩
  have x:=o9.same s3;exact⟨x.ins,x.tab,x.wG,x.vm,⟨kvs,c3.same s3,l⟩,x.nm,x.nt,λz=>(aI.mp z).elim (aW o9.wG Pe) o9.ke⟩
 generalize (upd H2 lg (.lst ([]:List V)))=H3 at s3 Fv rD hb3 sP⊢;obtain⟨nt3,nl3⟩:=sP.Kr;obtain⟨ab6,hm3,_⟩:=id sP.vm;have X4:∀u v,H3 md≠some (.cQ u v):=λu v e=>by rcases hm3.1 with q|⟨_,q⟩<;>rw[e]at q<;>cases q
 refine⟨md,X4,?_⟩;refine⟨_,rfl,self,C,dx,_,_,rfl,sP.ins,O.c,O.maps,rfl,md,ab6,rfl,hm3,λvw OU=>?_⟩;have s4:=aL OU (.ext (tw vw md));have wN:upd H3 vw (.ext (tw vw md)) vw=some (.ext (tw vw md)):=au;have vh:=sP.same s4;have wm:=rD.trans s4;have vtd:vw≠td:=λz=>by obtain⟨_,c,_⟩:=sP.zd;obtain⟨_,h⟩:=c.at_.some;rw[z,h]at OU;cases OU
 have uF:=s4 _ _ Fv;have ZL:=s4 _ _ hb3;generalize (upd H3 vw (.ext (tw vw md)))=H4 at s4 wN vh wm uF ZL⊢;obtain⟨nt4,Ti⟩:=vh.Kr;refine⟨_,rfl,self,dx,_,rfl,vh.ins,rfl,_,rfl,self,at_,dx,tb,kl,md,td,lg::ex,fs,kept,maps,n,a,rfl,vh,rq ha wm,fa,mo,by lia,λb hb=>(aI.mp hb).elim (λz=>⟨.lst [],by rw[z];exact uF⟩) λz=>⟨_,wm _ _ (hex b z).2.choose_spec⟩,λtl tys H5 wj Ry Rx nN kT=>?_⟩;obtain⟨pM,vz,em⟩:=id nN.vm;obtain⟨um,HW⟩:=vz.some;have mK:H5 lg=some (.lst []):=wj _ _ (λz=>Ti _ (by rw[<-z];exact uF)) uF;have hb5:=wj _ _ (λz=>Ti _ (by rw[<-z];exact ZL)) ZL;have tlg:tl≠lg:=λz=>by rw[z,uF]at Ry;cases Ry
 refine⟨vw,md,um,tl,pM,tys,rfl,wj _ _ vtd wN,HW,vz,bp.of Rx,λo=>?_⟩;have Tv:tys.length=maps.length:=bB kT;have OA:pM.length=maps.length:=by have:=cA List.length em;unfold rV at this;rw[ag,ag]at this;exact this
 have Fb:=vz.pF;have sQ:SB md H5 (upd H5 md (.cQ o um)):=λb u n e=>by rw[aw n];exact e
 have zc:=sQ.tp Fb;have nlm:∀{b:Addr}{l:List V},H5 b=some (.lst l)->b≠md:=λ{b l} e z=>vz.tH l (by rw[<-z];exact e);have Bx:=sQ _ _ (nlm mK) mK;have YX:=sQ _ _ (nlm Rx) Rx;have YW:=Gn kT (λb u n e=>sQ b u (λz=>n (by rw[z];exact aD _ aA)) e) zc;have vy:upd H5 md (.cQ o um) md=some (.cQ o um):=au;have gv:∀(i:Nat)(q:NK×Addr×V),pM[i]?=some q->∃x,maps[i]?=some x/\q.2.2=.int x.2/\bE K (upd H5 md (.cQ o um)) q.2.1 (x.1.map V.str):=λi q hq=>by
  have e1:(rV maps)[i]?=some (q.1,q.2.2):=by rw[<-em,aJ,hq];rfl
  unfold rV at e1;rw[aJ]at e1;obtain⟨x,e2,e3⟩:=bo.mp e1;have e4:d5 x.1=q.1:=cA Prod.fst e3;have e5:V.int x.2=q.2.2:=cA Prod.snd e3;have:=(vz.2 q (aC hq)).1;rw[<-e4]at this;exact⟨x,e2,e5.symm,lD (Dc this) zc⟩
 generalize Dz:upd H5 md (.cQ o um)=Hf at Bx YX YW vy gv zc⊢;have Te:gE Hf lg:=mJ Bx;refine RW (K:=K) (d:=md) (l:=tl) (o:=o) (u:=um) (kvs:=pM.map λp=>(V.ref p.2.1,p.2.2)) (ys:=tys)
  (λi Z H6=>∃x5 x6 x7 x8:Option V,Z=[some (.ref self),some (.ref at_),some (.ref nd),some (.ref bd),some (.ref lg),x5,x6,x7,x8]/\i<=maps.length/\SB lg Hf H6/\∃zs,H6 lg=some (.lst zs)/\Paired (vD K H6) zs (zJ fs kept a (maps.take i))) (by rw[ag,OA,Tv])
  ⟨none,none,none,none,rfl,aO _,λ_ _ _ e=>e,[],Bx,.nil⟩ (λi Z H6 _ ⟨_,_,_,_,_,_,sb,_⟩=>⟨sb _ _ (λz=>by rw[z,Bx]at vy;cases vy) vy,bp.of (sb _ _ tlg YX)⟩) ?_ ?_
 ·rintro i kv y p q Z H6 hG hy ⟨x5,x6,x7,x8,rfl,hi,jU,zs,uE,OR⟩ hq hp;rw[aJ]at hG;obtain⟨c,hc,rfl⟩:=bo.mp hG;obtain⟨x,hx,ex,hg⟩:=gv i c hc;have bQ:i<maps.length:=(aq.mp hx).1;obtain⟨x',wM,t,zz,rfl,nt',ht,KH⟩:=Paired.at' YW hy;rw[hx]at wM;cases wM;have abx:t≠lg:=λz=>nt' (by rw[z];simp);dsimp only at hp hq⊢;rw[ex]at hp⊢;have s7:=(aL hq (.tup [V.ref c.2.1,V.int x.2])).trans (aL hp (.tup [V.ref q,V.ref t]));have hq7:upd (upd H6 q (.tup [V.ref c.2.1,V.int x.2])) p (.tup [V.ref q,V.ref t]) q=some (.tup [V.ref c.2.1,V.int x.2]):=(aL hp _) _ _ au;refine⟨p,_,rfl,bE.of au,rfl,_,_,rfl,_,_,rfl,rfl,?_⟩;have zj:=jU.trans (SB.same s7);have wQ:=s7 _ _ uE;have TK:=mI OR (d6.same s7);generalize (upd (upd H6 q (.tup [V.ref c.2.1,V.int x.2])) p (.tup [V.ref q,V.ref t]))=H7 at s7 hq7 zj wQ TK⊢;have tp7:=zj.tp Te;have hg7:=lD hg tp7;have KD:=zj _ _ abx ht;have Fs:=ng KH tp7;have lzz:zz.length=(ub fs kept a x.1).length:=KH.length;have l7:=JR st.tab kept a x.1;refine⟨_,rfl,q,_,rfl,bE.of hq7,rfl,_,_,rfl,_,_,rfl,rfl,?_⟩;refine⟨_,rfl,.inl ⟨rfl,_,bp.of wQ⟩,_,rfl,t,rfl,⟨_,bp.of KD⟩,j6 (K:=K) (a:=t) (xs:=zz) (λj ws H8=>bG H7 H8/\j<=zz.length/\Paired (vD K H8) ws (((ub fs kept a x.1).take j).map λt=>(x.1++t,x.2))) (bK (by lia)) ⟨λ_ _ e=>e,aO _,.nil⟩ ?_ ?_ ?_⟩
  ·rintro j ws H8 hj ⟨s8,hj2,hw⟩;refine⟨bp.of (s8 _ _ KD),?_⟩;rw[bB hw,ag,aS];lia
  ·rintro j v ws H8 N hv ⟨s8,hj,hw⟩ uH;obtain⟨u,rN,ua,rfl,hua⟩:=Paired.at' (ip Fs s8) hv;have ma:j<zz.length:=(aq.mp hv).1;refine iH ?_;have hg8:=iT hg7 s8;have fin:∀(r:Addr)(H9:Hp),bG H8 H9->bE K H9 r ((x.1++u).map V.str)->∀w9,H9 w9=none->N (ws++[.ref w9]) (upd H9 w9 (.tup [V.ref r,V.int x.2])):=λr H9 s9 O6 w9 yK=>by have mE:=s9.trans (aL yK (.tup [V.ref r,V.int x.2]));refine uH _ _ ⟨s8.trans mE,ma,?_⟩;rw[aZ,rN,bI,aQ];exact(mI hw (d6.same mE)).snoc ⟨w9,r,rfl,bE.of au,iT O6 (aL yK _)⟩
   refine⟨_,rfl,_,rfl,c.2.1,ua,_,_,rfl,rfl,hg8,hua,?_,λe=>?_,λ_ e=>?_,λ_ _ r rP=>?_⟩
   ·rw[ag,ag];have h1:=(mo.row x (aC hx)).1;have h2:=(JQ st.tab (aC rN)).1;exact bu (bK (by lia))
   ·have e':x.1=[]:=lT.mp e;exact⟨_,rfl,by show 2<=sizeLine;decide,λw9 yK=>fin ua H8 (λ_ _ e=>e) (by rw[e'];exact hua) w9 yK⟩
   ·have e':u=[]:=lT.mp e;exact⟨_,rfl,by show 2<=sizeLine;decide,λw9 yK=>fin c.2.1 H8 (λ_ _ e=>e) (by rw[e',cj];exact hg8) w9 yK⟩
   ·exact⟨_,rfl,by show 2<=sizeLine;decide,λw9 yK=>fin r _ (aL rP _) (by rw[aQ];exact bE.of au) w9 yK⟩
  rintro ws H8 ⟨s8,_,hw⟩ cl yO;rw[lzz,a9]at hw;have s9:=s8.trans (aL yO (.lst ws));have Ov:ws.length<=7:=by rw[bB hw,ag];exact l7
  have lzs:zs.length<=7*maps.length:=by rw[bB OR];refine aE (Eo st.tab) ?_;rw[aS];lia
  have lm:=mo.gz;refine⟨lg,cl,zs,ws,rfl,rfl,s9 _ _ wQ,au,bu (bZ (show zs.length+ws.length<=4000000 by lia) (by decide)),?_⟩;have t10:d6 (upd H8 cl (.lst ws)) (upd (upd H8 cl (.lst ws)) lg (.lst (zs++ws))):=d6.upd (mJ (s9 _ _ wQ));refine⟨_,_,_,_,rfl,bQ,λb u n e=>?_,_,au,?_⟩
  ·rw[aw n];exact s9 _ _ (zj _ _ n e)
  ·rw[Rc hx];exact B3 (mI TK ((d6.same s9).trans t10)) (mI hw ((d6.same (aL yO (.lst ws))).trans t10))
 ·rintro Z H6 ⟨x5,x6,x7,x8,rfl,_,jU,zs,uE,OR⟩;rw[ag,OA,a9]at OR;have mlg:md≠lg:=λz=>by rw[z,Bx]at vy;cases vy
  have hm6:=jU _ _ mlg vy;refine⟨o,um,hm6,?_⟩;have K5:SB lg H5 (upd H6 md um):=λb u n e=>by
   by_cases z:b=md
   ·rw[z,HW]at e;cases e;rw[z,au]
   ·rw[aw z];exact jU _ _ n (by rw[<-Dz,aw z];exact e)
  have nt6:gE H6 md:=λxs q=>by rcases q with q|⟨o',q⟩<;>rw[hm6]at q<;>cases q;exact Fb xs (.inl HW)
  have Il:upd H6 md um lg=some (.lst zs):=by rw[aw (bP mlg)];exact uE
  have sR:=mI OR (d6.upd (o:=um) nt6);have Qy:=K5.tp (mJ mK);generalize (upd H6 md um)=H9 at K5 Il sR Qy⊢;have ZK:=K5 _ _ blg hb5;have K0:SB td H H9:=λb u n e=>K5 _ _ (λz=>by rw[z,lg0]at e;cases e) (wj _ _ n (wm _ _ e));obtain⟨XY,X3⟩:=st.Kr;have abz:=st.tab.sb K0 XY X3 st.nt;obtain⟨kvd,L7,Za⟩:=Zb;have acS:=K0 _ _ X8 L7;have YC:=K5 _ _ (λz=>by have q:=nN.ins;rw[z,mK]at q;cases q) nN.ins;obtain⟨Tx,c5,lc⟩:=nN.zd;have abw:td≠lg:=λz=>c5.at_.tH _ (by rw[z];exact mK);have c9:iR P w K H9 td (self::td::md::lg::ex) fs Tx:=by refine c5.to Qy ?_ λd f tv=>(tv.fr (λb u n e=>K5 _ _ (λz=>n (by rw[z];simp)) e) Qy).C9 YC;obtain⟨u,h⟩:=c5.at_.some;rw[h,K5 _ _ abw h]
  have lbd:((kept++gx kept a.2).map V.str).length=(kept++gx kept a.2).length:=ag _;refine⟨_,rfl,bd,rfl,⟨_,bp.of ZK⟩,j6 (K:=K) (a:=bd) (xs:=(kept++gx kept a.2).map V.str) (λj ws se=>se=H9/\j<=(kept++gx kept a.2).length/\ws=(((kept++gx kept a.2).take j).filter need).map V.str) (by rw[lbd];exact bK (by lia)) ⟨rfl,aO _,rfl⟩ ?_ ?_ ?_⟩
  ·rintro j ws se hj ⟨rfl,_,rfl⟩;refine⟨bp.of ZK,?_⟩;rw[ag];exact aE (cD _ _) (by rw[aS];lia)
  ·rintro j v ws se N hv ⟨rfl,hj,rfl⟩ uH;obtain⟨z,hz,rfl⟩:=g8 hv;have ma:j<(kept++gx kept a.2).length:=(aq.mp hz).1;refine⟨_,rfl,_,rfl,nd,_,rfl,ki.k (k:=Sum.inr z) acS,_,rfl,?_⟩;have en:((kept++gx kept a.2).take (j+1)).filter need=((kept++gx kept a.2).take j).filter need++if need z=true then[z]else[]:=by rw[aZ,hz,bI,fE];congr 1;cases c:need z<;>simp[c]
   refine fm (λc=>⟨_,rfl,uH _ _ ⟨rfl,ma,?_⟩⟩) (λc=>uH _ _ ⟨rfl,ma,?_⟩)
   ·rw[en,aB ((Za z).mp c),aQ];rfl
   ·rw[en,ax (λq=>c ((Za z).mpr q)),cj]
  rintro ws se ⟨rfl,_,rfl⟩ qq RK;rw[lbd,a9];generalize Fw:(kept++gx kept a.2).filter need=kp;have mE:=aL RK (.lst (kp.map V.str));have RL:upd se qq (.lst (kp.map V.str)) qq=some (.lst (kp.map V.str)):=au;have vo:=mE _ _ YC;have Lq:=abz.same mE;have UE:=c9.same mE;have Eu:=mE _ _ Il;have RP:=mE _ _ ZK;have L1:=mI sR (d6.same mE);have UK:SB td H (upd se qq (.lst (kp.map V.str))):=K0.trans (SB.same mE);generalize (upd se qq (.lst (kp.map V.str)))=BL at mE RL vo Lq UE Eu RP L1 UK⊢;refine⟨_,rfl,self,C,dx,_,rfl,vo,O.c,O.kept,by show 4<1000;decide,?_⟩;have Yb:∀{b:Addr}{u:HO},BL b=some u->(∀l,u≠ .ins C dx l)->b≠self:=λ{b u} e n z=>by rw[z,vo]at e;cases e;exact n _ rfl
  have ntS:gE BL self:=zD vo;have nlS:∀l,BL self≠some (.lst l):=λl e=>by rw[vo]at e;cases e
  have KS:SB self BL (upd BL self (.ins C dx (eM "kept" (.ref qq) [("tables",.ref tb),("kept",.ref kl),("maps",.ref md),("tails",.ref td)]))):=λb u n e=>by rw[aw n];exact e
  have LZ:upd BL self (.ins C dx (eM "kept" (.ref qq) [("tables",.ref tb),("kept",.ref kl),("maps",.ref md),("tails",.ref td)])) self=some (.ins C dx [("tables",.ref tb),("kept",.ref qq),("maps",.ref md),("tails",.ref td)]):=by rw[au];rfl
  generalize (upd BL self (.ins C dx (eM "kept" (.ref qq) [("tables",.ref tb),("kept",.ref kl),("maps",.ref md),("tails",.ref td)])))=H12 at KS LZ⊢;have tpS:=KS.tp ntS;have nL:∀{b:Addr}{l:List V},BL b=some (.lst l)->b≠self:=λ{b l} e z=>nlS l (by rw[<-z];exact e);have Gp:tb≠self:=λz=>by rw[<-z,Lq.at_]at vo;cases vo
  have aaF:=Lq.sb KS ntS nlS Gp;have SM:td≠self:=λz=>UE.at_.C9 (by rw[z];exact vo);have UD:iR P w K H12 td (self::td::md::lg::ex) fs Tx:=by refine UE.fr (λb u n e=>KS _ _ (λz=>n (by rw[z];simp)) e) tpS ?_;obtain⟨u,h⟩:=UE.at_.some;rw[h,KS _ _ SM h]
  have Zv:=KS _ _ (nL RL) RL;have acV:=KS _ _ (nL Eu) Eu;have ac1:=KS _ _ (nL RP) RP;have Rr:=mI L1 tpS;have lkp:kp.length<=100:=by rw[<-Fw];exact aE (cD _ _) lb
  have skb:rW (kept++gx kept a.2):=λz hz=>by
   rcases bf.mp hz with hz|hz
   ·exact mo.sok z hz
   ·exact fa.2.2.1 z ((tW (bM.mp hz).1).resolve_left λh=>by cases h)
  have skp:rW kp:=λz hz=>by rw[<-Fw]at hz;exact skb z (bM.mp hz).1
  have lm:=mo.gz;refine⟨_,rfl,_,rfl,_,rfl,self,C,dx,_,_,rfl,LZ,O.c,O.kept,rfl,lg,bd,qq,zs,zJ fs kept a maps,kept++gx kept a.2,kp,rfl,bp.of acV,Rr,bp.of ac1,Jy a.2 mo.nd,lb,.inl (bp.of Zv),lkp,skp,λy hy=>?_,aE (Eo st.tab) (by lia),λyI BK wk Ij rc=>?_⟩
  ·obtain⟨x,hx,t,ht,rfl⟩:=VZ hy;obtain⟨g1,g2⟩:=mo.row x hx;obtain⟨g3,g4⟩:=JQ st.tab ht;refine⟨by rw[aK,aK,g1,g3],λz hz=>?_⟩;rcases bf.mp hz with hz|hz
   ·exact g2 z hz
   ·exact g4 z hz
  have L0:=wk _ _ LZ;refine⟨_,rfl,self,C,dx,_,rfl,L0,O.c,O.maps,by show 4<1000;decide,?_⟩;have KF:SB self BK (upd BK self (.ins C dx (eM "maps" (.ref yI) [("tables",.ref tb),("kept",.ref qq),("maps",.ref md),("tails",.ref td)]))):=λb u n e=>by rw[aw n];exact e
  have YB:upd BK self (.ins C dx (eM "maps" (.ref yI) [("tables",.ref tb),("kept",.ref qq),("maps",.ref md),("tails",.ref td)])) self=some (.ins C dx [("tables",.ref tb),("kept",.ref qq),("maps",.ref yI),("tails",.ref td)]):=by rw[au];rfl
  generalize (upd BK self (.ins C dx (eM "maps" (.ref yI) [("tables",.ref tb),("kept",.ref qq),("maps",.ref md),("tails",.ref td)])))=HF at KF YB⊢;have XX:gE BK self:=zD L0;have nlF:∀l,BK self≠some (.lst l):=λl e=>by rw[L0]at e;cases e
  have tpF:=KF.tp XX;have m2s:yI≠self:=λz=>by rw[z,LZ]at Ij;cases Ij
  have m2t:yI≠td:=λz=>by obtain⟨u,h⟩:=UD.at_.some;rw[z,h]at Ij;cases Ij
  have Zr:=wk _ _ Zv;have cF:iR P w K HF td (td::yI::ex) fs Tx:=by
   have e13:BK td=H12 td:=by obtain⟨u,h⟩:=UD.at_.some;rw[h,wk _ _ h]
   have eF:HF td=BK td:=by obtain⟨u,h⟩:=UD.at_.some;rw[e13,h,KF _ _ SM (by rw[e13];exact h)]
   refine UD.to ((d6.same wk).trans tpF) (by rw[eF,e13]) λd f tv=>(((tv.more Ij).same wk).fr (λb u n e=>KF _ _ (λz=>n (by rw[z];simp)) e) tpF).less λb hb=>?_;simp only[aI]at hb⊢;rcases hb with h|h|h<;>simp[h]
  refine k qq yI HF (λb u n1 n2 e=>?_) ⟨YB,(aaF.same wk).sb KF XX nlF Gp,?_,?_,⟨Tx,cF,lc⟩,m2t,st.nt,λz=>?_⟩
  ·exact KF _ _ n2 (wk _ _ (KS _ _ n2 (UK _ _ n1 e)))
  ·rw[Fw];exact KF _ _ (λz=>nlF _ (by rw[<-z];exact Zr)) Zr
  ·rw[Fw];exact rc.c.sb KF XX m2s
  ·obtain⟨n,u,e⟩:=hex _ z;rw[K0 _ _ n e]at RK;cases RK
inductive Gx(P:Program)(w:World)(K:Frag)(C:Addr)(vs:List V)(H:Hp)(Q:VK)(_x3:XK):Prop
 |mk (self tb dx:Addr) (fs:List En) (_:vs=[.ref self,.ref tb]) (_:H self=some (.ins C dx [])) (_:ik K H tb fs) (_:∀(kl md td:Addr)(H':Hp),SB self H H'->H td=none->hU P w K C H' self dx tb kl md td [] fs [] [([],1)] 0->Q .cb H')
def FR:cu ["self","tables"] ["self","tables"] (defScope uf):=jx (by decide+kernel)
def Q5(F:eZ K "__init__" "Asking.__init__" uf f fd)(T:Txt K mg)(O:CD K C):cY P w K mg base fH 1 f fd ["self","tables"] (Gx P w K C):=by
 refine F.ok FR (λvs H Q E h=>?_) (λc6 A outer s H vs Q E hr h=>?_)
 ·obtain⟨a,b,_,_,rfl,_⟩:=h;rfl
 obtain⟨self,tb,dx,fs,rfl,hs,tab,k⟩:=h;have hN:=xS hr;refine⟨_,(aP (wu (pv 0) (pv 1) rfl)
   (aP (wu (pv 0) (eO az) rfl)
   (aP (wu (pv 0) (NT hN (qH (mH az) bq Kh) rfl rfl (by simp) (by show 1<=15;decide)) rfl)
   (bj (wu (pv 0) kZ rfl))))),?_⟩
 have Bi:∀{H:Hp}{l:List (Str×V)},H self=some (.ins C dx l)->gE H self/\(∀q,H self≠some (.lst q)):=λe=>⟨zD e,λq e'=>by rw[e]at e';cases e'⟩;have up:∀{H:Hp}{o:HO},SB self H (upd H self o):=λb u n e=>by rw[aw n];exact e
 have Gp:tb≠self:=λz=>by rw[<-z,tab.at_]at hs;cases hs
 refine⟨_,rfl,_,rfl,self,C,dx,[],rfl,hs,O.c,O.tables,by decide,?_⟩;have W6:=tab.sb (up (o:=.ins C dx (eM "tables" (.ref tb) []))) (Bi hs).1 (Bi hs).2 Gp;have sb1:SB self H (upd H self (.ins C dx (eM "tables" (.ref tb) []))):=up;have sU:upd H self (.ins C dx (eM "tables" (.ref tb) [])) self=some (.ins C dx [("tables",.ref tb)]):=au;generalize (upd H self (.ins C dx (eM "tables" (.ref tb) [])))=H1 at W6 sb1 sU⊢;refine⟨by show 0<=sizeLine;decide,λkl Zo=>?_⟩;have s2:=aL Zo (.lst ([]:List V));have Zq:upd H1 kl (.lst ([]:List V)) kl=some (.lst []):=au;have W5:=W6.same s2;have CW:=sb1.trans (SB.same s2);have jY:=s2 _ _ sU;generalize (upd H1 kl (.lst ([]:List V)))=H2 at s2 Zq W5 CW jY⊢;refine⟨_,rfl,self,C,dx,_,rfl,jY,O.c,O.kept,by show 1<1000;decide,?_⟩;have QA:=W5.sb (up (o:=.ins C dx (eM "kept" (.ref kl) [("tables",.ref tb)]))) (Bi jY).1 (Bi jY).2 Gp;have mC:=CW.trans (up (o:=.ins C dx (eM "kept" (.ref kl) [("tables",.ref tb)])));have Ys:kl≠self:=λz=>by rw[<-z,Zq]at jY;cases jY
 have Zp:=(up (o:=.ins C dx (eM "kept" (.ref kl) [("tables",.ref tb)]))) _ _ Ys Zq;have Ic:upd H2 self (.ins C dx (eM "kept" (.ref kl) [("tables",.ref tb)])) self=some (.ins C dx [("tables",.ref tb),("kept",.ref kl)]):=by rw[au];rfl
 generalize (upd H2 self (.ins C dx (eM "kept" (.ref kl) [("tables",.ref tb)])))=H3 at QA mC Zp Ic⊢;intro md hmd;have s4:=aL hmd (.dK []);have Ik:upd H3 md (.dK []) md=some (.dK []):=au;generalize (upd H3 md (.dK []))=H4 at s4 Ik⊢;refine⟨by show 0<=sizeLine;decide,λe he=>?_⟩;have s5:=aL he (.tup ([]:List V));have Pm:upd H4 e (.tup ([]:List V)) e=some (.tup []):=au;generalize (upd H4 e (.tup ([]:List V)))=H5 at s5 Pm⊢;have key:iW K H5 (d5 []) e:=xP (bE.of Pm) λz hz=>by cases hz
 have vz:=s5 _ _ Ik;refine⟨e,d5 [],.int 1,rfl,key,vz,?_⟩;have S6:=s4.trans s5;have um:SB md H5 (upd H5 md (.ext (DN P w md [(d5 [],e,.int 1)]))):=λb u n q=>by rw[aw n];exact q
 have Fb:gE H5 md:=xJ vz;have nm:∀{b:Addr}{u:HO},H3 b=some u->b≠md:=λe z=>by rw[z,hmd]at e;cases e
 have W4:ik K (upd H5 md (.ext (DN P w md [(d5 [],e,.int 1)]))) tb fs:=(QA.same S6).sb um Fb (λl q=>by rw[vz]at q;cases q) (nm QA.at_);have KP:=um _ _ (nm Zp) (S6 _ _ Zp);have O4:=um _ _ (nm Ic) (S6 _ _ Ic);have rc6:RowC P w K (upd H5 md (.ext (DN P w md [(d5 [],e,.int 1)]))) md [([],1)]:=⟨[(d5 [],e,.int 1)],⟨.inl au,λp hp=>by cases ay.mp hp;exact wH key (um.tp Fb)⟩,rfl⟩
 have jU:SB self H (upd H5 md (.ext (DN P w md [(d5 [],e,.int 1)]))):=λb u n q=>um _ _ (nm (mC _ _ n q)) (S6 _ _ (mC _ _ n q));generalize hH6:(upd H5 md (.ext (DN _ _ md _)))=H6;have e6:(upd H5 md (.ext (DN P w md [(d5 [],e,.int 1)])))=H6:=hH6;rw[e6]at W4 KP O4 rc6 jU;clear hH6 e6 um;refine⟨_,rfl,self,C,dx,_,rfl,O4,O.c,O.maps,by show 2<1000;decide,?_⟩;have ms:md≠self:=bP (nm Ic);have Qz:=W4.sb (up (o:=.ins C dx (eM "maps" (.ref md) [("tables",.ref tb),("kept",.ref kl)]))) (Bi O4).1 (Bi O4).2 Gp;have zj:=jU.trans (up (o:=.ins C dx (eM "maps" (.ref md) [("tables",.ref tb),("kept",.ref kl)])));have hk7:=(up (o:=.ins C dx (eM "maps" (.ref md) [("tables",.ref tb),("kept",.ref kl)]))) _ _ Ys KP;have Xy:=rc6.sb (up (o:=.ins C dx (eM "maps" (.ref md) [("tables",.ref tb),("kept",.ref kl)]))) (Bi O4).1 ms;have Ub:upd H6 self (.ins C dx (eM "maps" (.ref md) [("tables",.ref tb),("kept",.ref kl)])) self=some (.ins C dx [("tables",.ref tb),("kept",.ref kl),("maps",.ref md)]):=by rw[au];rfl
 generalize (upd H6 self (.ins C dx (eM "maps" (.ref md) [("tables",.ref tb),("kept",.ref kl)])))=H7 at Qz zj hk7 Xy Ub⊢;intro td Bu;have s8:=aL Bu (.dK []);have HZ:upd H7 td (.dK []) td=some (.dK []):=au;have O3:=s8 _ _ Ub;have nt:∀{b:Addr}{u:HO},H7 b=some u->b≠td:=λe z=>by rw[z,Bu]at e;cases e
 have h0:H td=none:=by
  cases q:H td with
  |none=>rfl
  |some u=>rw[zj _ _ (λz=>by rw[z,Ub]at Bu;cases Bu) q]at Bu;cases Bu
 generalize (upd H7 td (.dK []))=H8 at s8 HZ O3⊢;refine⟨_,rfl,self,C,dx,_,rfl,O3,O.c,O.tails,by show 3<1000;decide,?_⟩;have us:=up (H:=H8) (o:=.ins C dx (eM "tails" (.ref td) [("tables",.ref tb),("kept",.ref kl),("maps",.ref md)]));have SM:td≠self:=bP (nt Ub);have mt:md≠td:=by obtain⟨_,h,_⟩:=Xy;obtain⟨_,h⟩:=h.some;exact nt h
 refine k kl md td _ (zj.trans ((SB.same s8).trans us)) h0 ⟨by rw[au];rfl,(Qz.same s8).sb us (Bi O3).1 (Bi O3).2 Gp,us _ _ Ys (s8 _ _ hk7),(Xy.same s8).sb us (Bi O3).1 ms,⟨[],⟨EJ (us _ _ SM HZ),λa known v h=>by cases h⟩,ak _⟩,mt,nt Qz.at_,λz=>by cases z⟩
def Km(he:PE X e ta)(hb:attributeBase e f X.env (eval e X.env)=eval e X.env:=by rfl):PE X (.Attribute e f pos) (QD X.K ta f):=lF he hb
def IZ(P:Program)(w:World)(K:Frag)(mg:Str->Option Value)(base:Heap)(C:Addr)(k:Nat)(x:Str)(ps:List Str)(sp:Sp):Prop:=∃f fd,Mk K C f/\cY P w K mg base fH k f fd ps sp/\mg x=some (.ref C)/\Binds K fd ps []
def mkO(D:IZ X.prog X.w X.K X.mg X.base C k x ps sp)(hr:gh j X.A)(ha:PA X (e::es) t)(hk:k+1<=j)(hg:Gl X x:=by rfl)
  (zV:(x==("__debug__":Str))=false:=by decide) (he:starEach (e::es) X.env=(false,eval e X.env)::starEach es X.env:=by rfl) (pR:(backTo pos (starEach es X.env)).any (·.1)=false:=by rfl):
  PE X (.Call (.Name x p) (e::es) [] pos) (SR C sp [] E0 t):=by
 obtain⟨f,fd,M,F,m,b⟩:=D;exact Vz M F (hr.mono hk) hg m b .nil LI ha zV he pR
def jN(h:z∈ij):PyData.strOk z=true/\z.length<=1000/\(bT z=true->z∈iy):=by unfold ij iy cU at h;simp only[il,iP,aI,k7,xF]at h;rcases h with rfl|rfl|rfl|rfl|rfl|rfl|rfl|rfl|rfl|rfl|rfl|rfl|rfl|rfl|rfl<;>decide+kernel
def VS(h:z∈yj):PyData.strOk z=true:=by unfold yj rJ at h;simp only[aI,k7,xF]at h;rcases h with rfl|rfl|rfl|rfl|rfl|rfl<;>decide+kernel
def Wc(g:Good ba):∀a∈ba,FinA a:=λa ha=>by obtain⟨h1,h2,_,h4⟩:=g a ha;exact⟨h1,VS h4,λz hz=>(jN (h2 z hz)).1,λz hz=>(jN (h2 z hz)).2.1⟩
def xm:z∈dH ts↔bT z=true/\z∈ts:=by
 constructor
 ·intro h;have gen:∀(l acc:List Str),(∀t∈acc,bT t=true)->∀t∈l.foldl step acc,bT t=true:=by
   intro l
   induction l with
   |nil=>intro acc h t ht;exact h t ht
   |cons x l ih=>
    intro acc h t ht;refine ih _ (λy hy=>?_) t ht;unfold step at hy;split at hy
    ·next c=>
     split at hy
     ·exact h y hy
     ·rcases bf.mp hy with hy|hy
      ·exact h y hy
      ·rw[ay.mp hy];exact c
    ·exact h y hy
  exact⟨gen ts [] (λt ht=>by cases ht) z h,(tW h).resolve_left λh=>by cases h⟩
 ·exactλ⟨h1,h2⟩=>VT h1 h2
abbrev Sv(fs:List En)(ba:List (Str×List Str))(hz:List Str):=aV.o6 bT (uJ fs) ba hz
def Ou(tab:ik K H tb fs)(g:Good ba)(h:Sv fs ba hz S lf kept maps):DZ kept maps/\kept.length<=6:=by
 have hk:∀t∈kept,bT t=true/\t∈ij:=λt ht=>by obtain⟨u,⟨b,hb,Y0⟩,_⟩:=(h.kt t).mp ht;exact⟨u,(g b ((h.at_ b).mpr (.inl hb))).2.1 t Y0⟩
 have l6:kept.length<=6:=fh (m:=iy) h.nd λt ht=>(jN (hk t ht).2).2.2 (hk t ht).1;have hv:∀a∈ba,∀r∈uJ fs a.1,∀x∈r,x∈cU:=λa _ r hr x hx=>((tab.good a.1).2 r ((kR _ _).mp hr)).2.2 x hx;have hf:=h.gz hv;refine⟨⟨h.nd,λt ht=>(jN (hk t ht).2).1,by lia,λx hx=>⟨h.len hx,λz hz=>kQ (h.vals hv hx z hz)⟩,aE hf ?_⟩,l6⟩;exact aE (fK (by decide) l6) (by decide)
structure WD(fs:List En)(hz:List Str)(ba:List (Str×List Str))(m:Cm):Prop where
 nd:(m.map (·.1)).Nodup
 iff:∀row,row∈m.map (·.1)↔∃g,aV.sX bT (uJ fs) ba g/\row=hz.map g
 gz:m.length<=500000
inductive GB(P:Program)(w:World)(K:Frag)(vs:List V)(H:Hp)(Q:VK)(_x3:XK):Prop
 |mk (v:V) (tb:Addr) (fs:List En) (hz:List Str) (ba:List (Str×List Str)) (_:vs=[v,.ref tb]) (_:rX H v hz ba) (_:Good ba) (_:xg hz ba) (_:ba.length<=8) (_:ik K H tb fs) (_:∀(d:Addr)(m:Cm)(H':Hp),bG H H'->MS P w K H' d m->WD fs hz ba m->Q (.ref d) H')
structure Dc6(P:Program)(w:World)(K:Frag)(mg:Str->Option Value)(base:Heap)(C:Addr):Prop where
 Rq:IZ P w K mg base C 1 "Asking" ["self","tables"] (Gx P w K C)
 uz:qe P w K mg base C 6 "best_place" ["self","atoms"] (Nr P w K C)
 HA:qe P w K mg base C 6 "take" ["self","atom","needed"] (Nl P w K C)
 needed_terms:dW P w K mg base 1 "needed_terms" ["head","atoms"] (Gy K)
 narrowed:dW P w K mg base 3 "narrowed" ["counted_maps","unknowns","terms"] (xq P w K)
theorem zA:∀{aad:List α}{aac:List β}(i:Nat),Paired F aad aac->Paired F (aad.eraseIdx i) (aac.eraseIdx i)
 |_,_,_,.nil=>.nil
 |_,_,0,.cons _ t=>t
 |_,_,i+1,.cons q t=>.cons q (zA i t)
def Jt{α:Type}{l:List α}{a:α}(h:l[i]?=some a):l=l.take i++a::l.drop (i+1)/\l.eraseIdx i=l.take i++l.drop (i+1):=by obtain⟨hi,e⟩:=aq.mp h;refine⟨?_,pk _ _⟩;rw[<-e,<-jl hi,c8]
def hU.exL(x:hU P w K C H self dx tb kl md td ex fs kept maps n)(s:SB ll H H')(m:ll∈ex)(hl:H ll=some (.lst ys))(tab:ik K H' tb fs):hU P w K C H' self dx tb kl md td ex fs kept maps n:=by
 have nt:gE H ll:=mJ hl;obtain⟨kvs,c,l⟩:=x.zd;obtain⟨pM,hm,em⟩:=id x.vm;have tl:td≠ll:=λz=>c.at_.tH _ (by rw[z];exact hl);refine⟨s _ _ (λz=>?_) x.ins,tab,s _ _ (λz=>x.ke (by rw[z];exact m)) x.wG,x.vm.sb s nt (λz=>hm.tH _ (by rw[z];exact hl)),⟨kvs,c.fr (λb u n e=>s _ _ (λz=>n (by rw[z];exact aD _ (aD _ m))) e) (s.tp nt) ?_,l⟩,x.nm,x.nt,x.ke⟩
 ·have q:=x.ins;rw[z,hl]at q;cases q
 ·obtain⟨u,h⟩:=c.at_.some;rw[h,s _ _ tl h]
def kJ:cu ["question","tables","head","atoms","asking","left","atom"] ["question","tables"] (defScope vO):=jx (by decide+kernel)
def Ho(F:eZ K "counts_of" "counts_of" vO f fd)(T:Txt K mg)(O:CD K C)(D:Dc6 P w K mg base C):cY P w K mg base fH 7 f fd ["question","tables"] (GB P w K):=by
 refine F.ok kJ (λvs H Q E h=>?_) (λc6 A outer s H vs Q E hr h=>?_)
 ·obtain⟨a,b,_,_,_,rfl,_⟩:=h;rfl
 obtain⟨v,tb,fs,hz,ba,rfl,⟨q,hd,aa,fk,rfl,hq,uG,wW,lP⟩,good,bw,la,tab,k⟩:=h;have hu:=iL hr;have hN:=xS hr;have cC:=O.c;refine⟨_,(aP (ur (pv 0) (lE rfl (dk (iz 2 kJ) (dk (iz 3 kJ) jO))))
   (aP (fM 4 kJ (mkO D.Rq hr (ao (pv 1) az) (by lia)))
   (aP (fM 5 kJ (dZ Ab rfl T.zF (by decide+kernel) (ao (pv 3) az)))
   (aP (QT bF (QS (pv 5) (λ_=>rfl))
   (aP (fM 6 kJ (kz bY PySem.F.slot_list_pop PySem.F.type_list_pop Q9 (pv 5) (ao (Kv cC D.uz hr (pv 4) (ao (pv 5) az) (by lia)) az)))
   (bj (iI (Kv cC D.HA hr (pv 4) (ao (pv 6) (ao (cl D.needed_terms hr (ao (pv 2) (ao (pv 5) az))) az)) (by lia))))))
   (bj (cJ (cl D.narrowed hr (ao (dZ (DP hr.hd) rfl T.zF (by decide+kernel) (ao (E4 (Km (pv 4))) az)) (ao (Km (pv 4)) (ao (pv 2) az)))))))))),?_⟩
 refine⟨_,rfl,q,_,rfl,bE.of hq,rfl,_,_,rfl,_,_,rfl,rfl,?_⟩;refine⟨_,rfl,λx dx hx hdx ne=>?_⟩;have s1:bG H (upd (upd H dx (.own x)) x (.ins C dx [])):=λb u h=>by rw[aw (aW h hx),aw (aW h hdx)];exact h
 have oq:upd (upd H dx (.own x)) x (.ins C dx []) x=some (.ins C dx []):=au;generalize (upd (upd H dx (.own x)) x (.ins C dx []))=H1 at s1 oq⊢;refine⟨x,tb,dx,fs,rfl,oq,tab.same s1,λkl md td H2 CW Bu o9=>⟨rfl,?_⟩⟩;have h0t:H td=none:=s1.free Bu;have lX:bG H H2:=λb u e=>CW _ _ (aW e hx) (s1 _ _ e);refine⟨_,rfl,aa,fk,rfl,.inr (bE.of (lX _ _ wW)),λll Pd=>?_⟩;have s3:=aL Pd (.lst fk);have Fv:upd H2 ll (.lst fk) ll=some (.lst fk):=au;have rD:=lX.trans s3;have Py:H ll=none:=lX.free Pd;have sP:hU P w K C (upd H2 ll (.lst fk)) x dx tb kl md td [ll] fs [] [([],1)] 0:=by
  obtain⟨kvs,ck,l⟩:=o9.zd;have c3:iR P w K H2 td (td::md::[ll]) fs kvs:=⟨ck.at_,λa known v h=>by
   obtain⟨d,e,tv⟩:=ck.all a known v h;exact⟨d,e,(tv.more Pd).less λb hb=>by simp only[aI,k7,xF]at hb⊢;rcases hb with h|h|h<;>simp[h]⟩⟩
  have y:=o9.same s3;exact⟨y.ins,y.tab,y.wG,y.vm,⟨kvs,c3.same s3,l⟩,y.nm,y.nt,λz=>aW o9.wG Pd (ay.mp z)⟩
 generalize (upd H2 ll (.lst fk))=H3 at s3 Fv rD sP⊢;clear s3 o9 CW lX Pd;have fin:=Wc good;refine⟨λm Z H4=>∃(kl md n:Nat)(ys:List V)(lf S:List (Str×List Str))(kept:List Str)(maps:Cm)(x6:Option V),m=lf.length/\Z=[some (.ref q),some (.ref tb),some (.ref hd),some (.ref aa),some (.ref x),some (.ref ll),x6]/\bG H H4/\hU P w K C H4 x dx tb kl md td [ll] fs kept maps n/\H4 ll=some (.lst ys)/\fX H4 ys lf/\Sv fs ba hz S lf kept maps/\n+101*lf.length<=808,
  ⟨ba.length,kl,md,0,fk,ba,[],[],[([],1)],none,rfl,rfl,rD,sP,Fv,p6 lP rD,aV.o6.start,by lia⟩,?_⟩
 rintro m Z H4 ⟨kl,md,n,ys,lf,S,kept,maps,x6,rfl,rfl,s4,vh,uF,qr,aj,hn⟩;have ly:ys.length=lf.length:=bB qr;obtain⟨mo,l6⟩:=Ou vh.tab good aj;obtain⟨nt4,Ti⟩:=vh.Kr;have Yl:∀b∈lf,b∈ba:=λb hb=>(aj.at_ b).mpr (.inr hb);have lla:lf.length<=8:=by lia
 refine⟨_,rfl,_,.inl ⟨_,bp.of uF,rfl⟩,?_⟩;cases Bx:lf with
 |cons a0 lr=>
  have gP:0<lf.length:=by rw[Bx];exact qb _
  have YM:(!ys.isEmpty)=true:=by
   cases ys with
   |nil=>rw[<-ly]at gP;exact absurd gP (df _)
   |cons _ _=>rfl
  rw[YM];rw[<-Bx];have Tw:ll≠td:=λz=>Ti _ (by rw[<-z];exact uF);refine Es ⟨_,λσ' H' h=>h,?_⟩;refine⟨_,rfl,.inl ⟨rfl,_,bp.of uF⟩,_,rfl,x,dx,_,rfl,vh.ins,rfl,_,rfl,x,ll,dx,tb,kl,md,td,[ll],fs,kept,maps,n,ys,lf,rfl,vh,uF,qr,λb hb=>fin b (Yl b hb),gP,by lia,mo,by lia,λb hb=>⟨by rw[ay.mp hb];exact Tw,.lst ys,by rw[ay.mp hb];exact uF⟩,λi H5 hi wj nN=>?_⟩;have mK:=wj _ _ Tw uF;have YL:=DS qr wj nt4;have s5:bG H H5:=λb u e=>wj _ _ (aW e h0t) (s4 _ _ e);obtain⟨a,ha⟩:∃a,lf[i]?=some a:=⟨_,ar hi⟩;obtain⟨y,hy⟩:∃y,ys[i]?=some y:=⟨_,ar (by lia)⟩;obtain⟨a',ha',hya⟩:=Paired.at YL hy;rw[ha]at ha';cases ha';obtain⟨ap,at_,rfl,_⟩:=id hya;have fa:=fin a (Yl a (aC ha));refine⟨ll,ys,i,i,.ref ap,rfl,rfl,mK,by lia,by lia,PySem.StrLaws.seqIndex_nonneg (by lia) (by lia),hy,?_⟩;have jU:SB ll H5 (upd H5 ll (.lst (ys.eraseIdx i))):=λb u n e=>by rw[aw n];exact e
  have Te:gE H5 ll:=mJ mK;have uE:upd H5 ll (.lst (ys.eraseIdx i)) ll=some (.lst (ys.eraseIdx i)):=au;have s6:bG H (upd H5 ll (.lst (ys.eraseIdx i))):=λb u e=>jU _ _ (aW e Py) (s5 _ _ e);have Rt:=DS (zA i YL) jU Te;have YN:=Ag hya jU Te;have lC:hU P w K C (upd H5 ll (.lst (ys.eraseIdx i))) x dx tb kl md td [ll] fs kept maps (n+100):=nN.exL jU aA mK (tab.same s6);generalize (upd H5 ll (.lst (ys.eraseIdx i)))=H6 at jU uE s6 Rt YN lC⊢;obtain⟨e1,e2⟩:=Jt ha;have lfe:∀b∈lf.eraseIdx i,b∈lf:=λb hb=>List.mem_of_mem_eraseIdx hb;have lle:(lf.eraseIdx i).length=lf.length -1:=lH hi;refine⟨_,rfl,x,dx,_,rfl,lC.ins,rfl,_,rfl,_,rfl,_,rfl,hd,ll,hz,ys.eraseIdx i,lf.eraseIdx i,rfl,bE.of (s6 _ _ uG),bp.of uE,Rt,?_,by lia,λb hb=>?_,λnd H7 s7 L7 Zb=>?_⟩
  ·have:=bw.1;lia
  ·have:=(fin b (Yl b (lfe b hb))).1;lia
  have ue:=lC.same s7;have X8:nd≠td:=λz=>by obtain⟨_,c,_⟩:=lC.zd;obtain⟨_,h⟩:=c.at_.some;rw[z,h]at L7;cases L7
  refine⟨x,ap,nd,dx,tb,kl,md,td,[ll],fs,kept,maps,n+100,a,λz=>decide (z∈hz\/∃b∈lf.eraseIdx i,z∈b.2),rfl,ue,rq YN s7,fa,mo,by lia,by lia,?_,X8,λb hb=>⟨by rw[ay.mp hb];exact Tw,.lst (ys.eraseIdx i),by rw[ay.mp hb];exact s7 _ _ uE⟩,λqq yI H8 Uz st8=>?_⟩
  ·obtain⟨kvs,h1,h2⟩:=Zb;exact⟨kvs,h1,λz=>(h2 z).trans mO.symm⟩
  have Yb:∀{l:List V}{b:Addr},H7 b=some (.lst l)->b≠x:=λ{l b} e z=>by have:=ue.ins;rw[<-z,e]at this;cases this
  have wQ:=s7 _ _ uE;have Pf:=Uz _ _ Tw (Yb wQ) wQ;have acD:fX H8 (ys.eraseIdx i) (lf.eraseIdx i):=by
   have h7:=p6 Rt s7;obtain⟨nt7,_⟩:=ue.Kr;generalize ys.eraseIdx i=ye at h7⊢;generalize lf.eraseIdx i=le at h7⊢;clear Pf wQ
   induction h7 with
   |nil=>exact .nil
   |cons h _ ih=>
    obtain⟨p,t,e,h1,h2⟩:=h;have nx:∀{b:Addr}{l:List V},H7 b=some (.tup l)->b≠td/\b≠x:=λ{b l} e=>⟨λz=>nt7 _ (.inl (by rw[<-z];exact e)),λz=>by have:=ue.ins;rw[<-z,e]at this;cases this⟩
    exact .cons ⟨p,t,e,Uz _ _ (nx h1).1 (nx h1).2 h1,Uz _ _ (nx h2).1 (nx h2).2 h2⟩ ih
  have s8:bG H H8:=λb u e=>Uz _ _ (aW e h0t) (aW e hx) (s7 _ _ (s6 _ _ e));have aj8:Sv fs ba hz (a::S) (lf.eraseIdx i) ((kept++gx kept a.2).filter λz=>decide (z∈hz\/∃b∈lf.eraseIdx i,z∈b.2)) (aV.narrowed (zJ fs kept a maps) (kept++gx kept a.2) ((kept++gx kept a.2).filter λz=>decide (z∈hz\/∃b∈lf.eraseIdx i,z∈b.2))):=by
   rw[e1]at aj;have:=aj.step (known:=jy kept a.2) (fresh:=gx kept a.2) (need:=λz=>decide (z∈hz\/∃b∈lf.eraseIdx i,z∈b.2)) (λt=>?_) ((tG a.2).sublist qA) rfl (λt=>?_)
   ·rw[<-e2]at this;exact this
   ·unfold gx;rw[bM,mO,xm];exact⟨λh=>⟨h.1.2,h.1.1,h.2⟩,λh=>⟨⟨h.2.1,h.1⟩,h.2.2⟩⟩
   ·rw[mO,e2]
  exact⟨_,by rw[lle];lia,qq,yI,n+100+1,ys.eraseIdx i,lf.eraseIdx i,a::S,_,_,_,rfl,rfl,s8,st8,Pf,acD,aj8,by rw[lle];lia⟩
 |nil=>
  have YM:ys=[]:=eK.mp (by rw[ly,Bx];rfl);rw[YM];refine qK ?_;rw[Bx]at aj;obtain⟨pM,Ik,em⟩:=id vh.vm;refine⟨_,rfl,x,C,dx,_,_,rfl,vh.ins,O.c,O.maps,rfl,md,pM,rfl,Ik,λvw OU=>?_⟩;have s5:=aL OU (.ext (tw vw md));have Di:upd H4 vw (.ext (tw vw md)) vw=some (.ext (tw vw md)):=au;have nN:=vh.same s5;have vz:fI P w K (upd H4 vw (.ext (tw vw md))) md pM:=by obtain⟨u,h⟩:=Ik.some;exact Ik.tp (d6.same s5) (by rw[h,s5 _ _ h])
  generalize (upd H4 vw (.ext (tw vw md)))=H5 at s5 Di nN vz⊢;refine⟨vw,md,pM,rfl,Di,vz,λl zs H6 s6 qu uE hps=>?_⟩;have s6:bG H5 H6:=s6;have lC:=nN.same s6;have uj:=s4.trans (s5.trans s6);have pc:Paired (vD K H6) zs maps:=by
   have hk:∀p∈pM,NV K H6 p.1 (.ref p.2.1):=λp hp=>LO (d6.same s6) _ _ (vz.2 p hp).1;clear uE vz Ik;generalize maps=mm at em
   induction pM generalizing zs mm with
   |nil=>
    cases mm with
    |nil=>cases hps;exact .nil
    |cons _ _=>cases em
   |cons p pM ih=>
    cases mm with
    |nil=>cases em
    |cons y mm=>
     injection em with em1 em2;cases hps with
     |cons h t=>
      obtain⟨b,rfl,hb⟩:=h;have e1:p.1=d5 y.1:=cA Prod.fst em1;have e2:p.2.2=V.int y.2:=cA Prod.snd em1;have hn:=hk p aA;rw[e1]at hn;refine .cons ⟨b,p.2.1,rfl,?_,Dc hn⟩ (ih _ t (λq hq=>hk q (aD _ hq)) _ em2);rw[<-e2];exact bE.of hb
  have lh:=bw.1;refine⟨_,rfl,x,C,dx,_,_,rfl,lC.ins,O.c,O.kept,rfl,_,rfl,l,kl,hd,zs,maps,kept,hz,rfl,bp.of uE,pc,bp.of lC.wG,mo.nd,mo.len,.inr (bE.of (uj _ _ uG)),by lia,λz oo=>(jN (bw.2 z oo).1).1,mo.row,aE mo.gz (by decide),λd H7 s7 h9 rc=>?_⟩;refine k d _ H7 (uj.trans s7) rc ⟨aV.qI,aj.end_ λt ht u=>?_,?_⟩
  ·have:=(bw.2 t ht).2 u;unfold cc at this;obtain⟨ts,kT,h⟩:=jD.mp this;obtain⟨b,hb,rfl⟩:=aM.mp kT;exact⟨b,hb,h⟩
  ·refine aE ?_ mo.gz;have gen:∀(l m:Cm),(l.foldl (λm x=>aV.sD m (aV.image kept x.1 hz) x.2) m).length<=m.length+l.length:=by
    intro l
    induction l with
    |nil=>intro m;exact ak _
    |cons y l ih=>
     intro m;refine aE (ih _) ?_;have:(aV.sD m (aV.image kept y.1 hz) y.2).length<=m.length+1:=by
      unfold aV.sD;split
      ·rw[ag];lia
      ·rw[aK];exact ak _
     dsimp only;rw[bH];lia
   have:=gen maps [];rw[cS,An]at this;exact this
inductive EX(K:Frag)(vs:List V)(H:Hp)(Q:VK)(_x3:XK):Prop
 |mk (v:V) (tb:Addr) (fs:List En) (hz:List Str) (ba:List (Str×List Str)) (_:vs=[v,.ref tb]) (_:rX H v hz ba) (_:Good ba) (_:xg hz ba) (_:ba.length<=8) (_:ik K H tb fs) (_:∀(l:Addr)(zs:List V)(rows:List (List Str))(H':Hp),bG H H'->H l=none->H' l=some (.lst zs)->eB K H' zs (fZ rows)->rows.Nodup->(∀row,row∈rows↔∃g,aV.sX bT (uJ fs) ba g/\row=hz.map g)->(∀z∈zs,∃a xs,z=.ref a/\H' a=some (.tup xs))->Q (.ref l) H')
structure Da6(P:Program)(w:World)(K:Frag)(mg:Str->Option Value)(base:Heap):Prop where
 counts_of:dW P w K mg base 7 "counts_of" ["question","tables"] (GB P w K)
def Ly:cu ["question","tables"] ["question","tables"] (defScope zm):=jx (by decide+kernel)
def LN(F:eZ K "answers" "answers" zm f fd)(T:Txt K mg)(D:Da6 P w K mg base):cY P w K mg base fH 8 f fd ["question","tables"] (EX K):=by
 refine F.ok Ly (λvs H Q E h=>?_) (λc6 A outer s H vs Q E hr h=>?_)
 ·obtain⟨a,b,_,_,_,rfl,_⟩:=h;rfl
 obtain⟨v,tb,fs,hz,ba,rfl,hq,good,bw,la,tab,k⟩:=h;refine⟨_,(bj (cJ (cE (IS hr.hd) rfl T.B4 (by decide+kernel) (ao (cl D.counts_of hr (ao (pv 0) (ao (pv 1) az))) az)))),?_⟩;refine⟨_,rfl,_,rfl,v,tb,fs,hz,ba,rfl,hq,good,bw,la,tab,λd m H1 s1 rc cm=>?_⟩;obtain⟨kvs,ha,em,gF⟩:=rc;have e1:kvs.map (·.1)=(m.map (·.1)).map d5:=by have:=cA (List.map Prod.fst) em;unfold rV at this;rw[cx,cx]at this;rw[cx];exact this
 have lr:(m.map (·.1)).length<=500000:=by rw[ag];exact cm.gz
 refine⟨d,kvs,m.map (·.1),rfl,ha,e1,λh2 r ox=>?_,by lia,λl zs hl hr hm=>?_⟩
 ·intro er;obtain⟨g,_,eg⟩:=(cm.iff r).mp ox;rw[er]at eg;have ez:hz=[]:=lT.mp eg.symm;have all:∀y∈m.map (·.1),y∈([[]]:List (List Str)):=λy hy=>by obtain⟨g',_,e'⟩:=(cm.iff y).mp hy;rw[e',ez];exact aA
  have:=fh cm.nd all;rw[de]at this;lia
 ·have s2:=aL hl (.lst zs);refine k l zs _ _ (s1.trans s2) (s1.free hl) au (ip hr s2) cm.nd cm.iff λz oo=>?_;obtain⟨p,hp,rfl⟩:=aM.mp (hm z oo);obtain⟨xs,e⟩:=gF p hp;exact⟨_,xs,rfl,s2 _ _ e⟩
def jM(us v:List Str):List (Key×V):=(us.zip v).map λx=>(Sum.inr x.1,V.str x.2)
theorem D7:∀{us v:List Str},us.length=v.length->(eI (jM us v) (Sum.inr t:Key)).getD (V.str t)=V.str (aV.gf us v t)
 |[],[],_=>rfl
 |[],_::_,e=>by cases e
 |_::_,[],e=>by cases e
 |u::us,x::v,e=>by
  have ih:=D7 (t:=t) (us:=us) (v:=v) (by simpa using e);by_cases c:u=t
  ·subst c;unfold jM aV.gf;rw[Ar,aX,gL rfl,aB aA,yq];rfl
  ·unfold jM aV.gf at ih⊢;rw[Ar,aX,gg (λz=>c (BH z)),ih];by_cases m:t∈us
   ·rw[aB m,aB (aD _ m),List.idxOf_cons,show(u==t)=false from beq_false_of_ne c,cond_false];rfl
   ·rw[ax m,ax λz=>(aI.mp z).elim (λz=>c z.symm) m]
def Qr(le:us.length=v.length)(n:u∉us):putK (jM us v) (Sum.inr u:Key) (V.str x)=jM (us++[u]) (v++[x]):=by
 have hn:eI (jM us v) (Sum.inr u:Key)=none:=by
  cases q:eI (jM us v) (Sum.inr u:Key)with
  |none=>rfl
  |some y=>
   have:=JL q;unfold jM at this;rw[cx]at this;obtain⟨p,hp,e⟩:=aM.mp this;cases e;exact absurd (qh hp).1 n
 rw[GX _ hn];unfold jM;rw[List.zip_append le,aQ];rfl
abbrev lG(H:Hp)(us:List Str):List V->List (List Str)->Prop:=Paired λ(y:V)(v:List Str)=>∃d,y=.ref d/\H d=some (.dK (jM us v))
def y8(h:lG H us ys vs)(s:bG H H'):lG H' us ys vs:=by
 induction h with
 |nil=>exact .nil
 |cons h _ ih=>
  obtain⟨d,e,h1⟩:=h;exact .cons ⟨d,e,s _ _ h1⟩ ih
def gC(vals:List Str):List (Key×V):=vals.map λz=>(Sum.inr z,V.bl true)
inductive Gz(K:Frag)(vs:List V)(H:Hp)(Q:VK)(_x3:XK):Prop
 |mk (l d:Addr) (us vals:List Str) (u:Str) (ys:List V) (ws:List (List Str)) (_:vs=[.ref l,.str u,.ref d]) (_:bp K H l ys) (_:lG H us ys ws) (_:H d=some (.dK (gC vals))) (_:u∉us) (_:(∀v∈ws,v.length=us.length)) (_:us.length<=100) (_:vals.length<=8) (_:ws.length<=300000) (_:∀(r:Addr)(zs:List V)(H':Hp),bG H H'->H r=none->H' r=some (.lst zs)->lG H' (us++[u]) zs (ws.flatMap λv=>vals.map λx=>v++[x])->Q (.ref r) H')
def Ck{α:Type}{ws:List (List α)}{vals:List α}:(ws.flatMap λv=>vals.map λx=>v++[x]).length=ws.length*vals.length:=by
 induction ws with
 |nil=>simp
 |cons v ws ih=>rw[kE,aK,ih,ag,bH,Nat.succ_mul,Nat.add_comm]
def oj:cu ["_law_ways_here","_law_unknown","_law_values_here","_law_found","_law_way","_law_value","_law_longer_here"] ["_law_ways_here","_law_unknown","_law_values_here"] (defScope xy):=jx (by decide+kernel)
def N7(F:eZ K "_law_longer" "_law_longer" xy f fd)(T:Txt K mg):cY P w K mg base fH 1 f fd ["_law_ways_here","_law_unknown","_law_values_here"] (Gz K):=by
 refine F.ok oj (λvs H Q E h=>?_) (λc6 A outer s H vs Q E hr h=>?_)
 ·obtain⟨a,b,_,_,_,_,_,rfl,_⟩:=h;rfl
 obtain⟨l,d,us,vals,u,ys,ws,rfl,hl,hws,hd,nu,lw,lu,lv,Ov,k⟩:=h;have hu:=iL hr;refine⟨_,(aP (fM 3 oj (eO az))
   (aP (eJ bF rfl (gq (pv 0)) (iz 4 oj)
   (bj (BZ (eJ bF rfl (G5 (pv 2)) (iz 5 oj)
   (aP (fM 6 oj (dZ MP rfl T.Dd (by decide+kernel) (ao (pv 4) az)))
   (aP (wx hu (pv 6) (pv 1) (pv 5) rfl)
   (bj (iI (kz bY cL cK jo (pv 3) (ao (pv 6) az))))))))))
   (bj (cJ (pv 3))))),?_⟩
 have ly:ys.length=ws.length:=bB hws;refine⟨by show 0<=sizeLine;decide,λr rP=>?_⟩;have s1:=aL rP (.lst ([]:List V));have rd:d≠r:=aW hd rP;refine⟨_,rfl,l,rfl,⟨_,fR hl s1⟩,mM (K:=K) (a:=l) (xs:=ys)
  (λi Z H2=>∃(x4 x5 x6:Option V)(zs:List V),Z=[some (.ref l),some (.str u),some (.ref d),some (.ref r),x4,x5,x6]/\bG H H2/\i<=ws.length/\H2 r=some (.lst zs)/\lG H2 (us++[u]) zs ((ws.take i).flatMap λv=>vals.map λx=>v++[x]))
  ⟨none,none,none,[],rfl,s1,aO _,au,.nil⟩ (λi Z H2 _ ⟨_,_,_,_,_,sm,_⟩=>fR hl sm) ?_ ?_⟩
 ·rintro i x Z H2 hx ⟨x4,x5,x6,zs,rfl,s2,_,uD,hz⟩;obtain⟨v,hv,wd,rfl,acE⟩:=Paired.at' hws hx;have bQ:i<ws.length:=(aq.mp hv).1;have lev:=lw v (aC hv);have hd2:=s2 _ _ hd;refine⟨d,(λo v e=>by rw[hd2]at e;cases e),?_⟩;refine⟨_,rfl,d,_,(gC vals).map (λp=>(kV p.1,p.2)),rfl,hd2,.inl ⟨_,rfl,rfl⟩,λo=>?_⟩;have sbd:SB d H2 (upd H2 d (.cQ o (.dK (gC vals)))):=λb u n e=>by rw[aw n];exact e
  have zU:upd H2 d (.cQ o (.dK (gC vals))) d=some (.cQ o (.dK (gC vals))):=au;have Uc:=sbd _ _ (bP rd) uD;have Ru:=s2 _ _ acE;have hRd:Rd (upd H2 d (.cQ o (.dK (gC vals)))) wd (.dK (jM us v)):=by
   by_cases z:wd=d
   ·rw[z,hd2]at Ru;rw[<-bL Ru];exact .inr ⟨o,by rw[z];exact zU⟩
   ·exact .inl (sbd _ _ z Ru)
  generalize Dz:upd H2 d (.cQ o (.dK (gC vals)))=Hf at zU Uc hRd⊢;have lvk:((gC vals).map λp=>(kV p.1,p.2)).length=vals.length:=by unfold gC;rw[ag,ag]
  refine FC (d:=d) (o:=o) (u:=.dK (gC vals)) (kvs:=(gC vals).map λp=>(kV p.1,p.2)) (λj Z H3=>∃(x5 x6:Option V)(nY:List V),Z=[some (.ref l),some (.str u),some (.ref d),some (.ref r),some (.ref wd),x5,x6]/\j<=vals.length/\SB r Hf H3/\H3 r=some (.lst (zs++nY))/\Paired (λ(y:V)(v:List Str)=>∃e,y=.ref e/\H2 e=none/\H3 e=some (.dK (jM (us++[u]) v))) nY ((vals.take j).map λx=>v++[x]))
   ⟨_,_,[],rfl,aO _,λ_ _ _ e=>e,by rw[cj];exact Uc,.nil⟩ (λj Z H3 _ ⟨_,_,_,_,_,sb,_⟩=>sb _ _ rd zU) ?_ ?_
  ·rintro j kv Z H3 hG ⟨x5,x6,nY,rfl,hj,mC,Dk,HQ⟩;unfold gC at hG;rw[cx,aJ]at hG;obtain⟨z,OS,ekv⟩:=bo.mp hG;have ek:kv.1=V.str z:=by rw[<-ekv];rfl
   have ma:j<vals.length:=(aq.mp OS).1;have KZ:Rd H3 wd (.dK (jM us v)):=by
    rcases hRd with h|⟨o',h⟩
    ·exact .inl (mC _ _ (λq=>by rw[q,Uc]at h;cases h) h)
    ·exact .inr ⟨o',mC _ _ (λq=>by rw[q,Uc]at h;cases h) h⟩
   refine⟨_,rfl,wd,_,rfl,KZ,λnw KL=>?_⟩;have s4:=aL KL (.dK (jM us v));have Zc:upd H3 nw (.dK (jM us v)) nw=some (.dK (jM us v)):=au;have nr:nw≠r:=λq=>by rw[q,Dk]at KL;cases KL
   have O9:Hf nw=none:=by
    cases e:Hf nw with
    |none=>rfl
    |some o'=>rw[mC _ _ nr e]at KL;cases KL
   have h2n:H2 nw=none:=by
    cases e:H2 nw with
    |none=>rfl
    |some o'=>
     have nd:nw≠d:=λq=>by rw[q,zU]at O9;cases O9
     rw[<-Dz,aw nd,e]at O9;cases O9
   have rO:=s4 _ _ Dk;generalize (upd H3 nw (.dK (jM us v)))=H4 at s4 Zc rO⊢;have lwd:(jM us v).length<=100:=by unfold jM;rw[ag,mi];lia
   refine⟨_,rfl,_,rfl,_,rfl,nw,_,rfl,AA.k (k:=Sum.inr u) Zc (bK (by lia)),?_⟩;rw[ek,Qr lev.symm nu];have zR:upd H4 nw (.dK (jM (us++[u]) (v++[z]))) r=some (.lst (zs++nY)):=by rw[aw (bP nr)];exact rO
   have lz:(zs++nY).length<=2500000:=by rw[aK,bB hz,bB HQ,Ck,ag,aS,aS];have:min i ws.length*vals.length<=300000*8:=Nat.mul_le_mul (by lia) lv;lia
   refine⟨_,rfl,.inl ⟨rfl,_,bp.of zR⟩,_,rfl,r,_,_,rfl,rfl,zR,bZ lz (by decide),?_⟩;refine⟨_,_,nY++[.ref nw],rfl,ma,λb o' n e=>?_,by rw[au,b9],?_⟩
   ·rw[aw n,aw (λq=>by rw[q,O9]at e;cases e)];exact s4 _ _ (mC _ _ n e)
   ·rw[aZ,OS,bI,aQ];refine lM ?_ ⟨nw,rfl,h2n,by rw[aw nr,au]⟩;refine Paired.qJ HQ λy v' ⟨e,e1,e2,e3⟩=>⟨e,e1,e2,?_⟩;have er:e≠r:=λq=>by rw[q,Dk]at e3;cases e3
    rw[aw er,aw (λq=>by rw[q,KL]at e3;cases e3)];exact s4 _ _ e3
  ·rintro Z H3 ⟨x5,x6,nY,rfl,_,mC,Dk,HQ⟩;rw[lvk,a9]at HQ;have KW:=mC _ _ rd zU;refine⟨o,_,KW,?_⟩;have sF:∀b o',b≠r->H2 b=some o'->upd H3 d (.dK (gC vals)) b=some o':=λb o' n e=>by
    by_cases q:b=d
    ·rw[q,hd2]at e;cases e;rw[q,au]
    ·rw[aw q];exact mC _ _ n (by rw[<-Dz,aw q];exact e)
   refine⟨_,_,_,zs++nY,rfl,λb o' e=>sF _ _ (aW e rP) (s2 _ _ e),bQ,by rw[aw (bP rd)];exact Dk,?_⟩;rw[aZ,hv,bI,yW,kE,List.flatMap_nil,cj];refine B3 ?_ ?_
   ·refine Paired.qJ hz λy v' ⟨e,e1,e2⟩=>⟨e,e1,sF _ _ (λq=>by rw[q,uD]at e2;cases e2) e2⟩
   ·refine Paired.qJ HQ λy v' ⟨e,e1,e2,e3⟩=>⟨e,e1,?_⟩;rw[aw (λq=>by rw[q,hd2]at e2;cases e2)];exact e3
 ·rintro Z H2 ⟨x4,x5,x6,zs,rfl,s2,_,uD,hz⟩;rw[ly,a9]at hz;exact⟨_,rfl,k r zs H2 s2 rP uD hz⟩
def IV(h:z∈ij):∃c:Nat,z.cps.toList[0]?=some c/\decide (V.str ⟨#[c]⟩=V.str "?")=bT z:=by unfold ij iy cU at h;simp only[il,iP,aI,k7,xF]at h;rcases h with rfl|rfl|rfl|rfl|rfl|rfl|rfl|rfl|rfl|rfl|rfl|rfl|rfl|rfl|rfl<;>exact⟨_,rfl,by decide+kernel⟩
def Lf(rows:List (List Str))(r:List Str):((rows.map jf).any λe=>PyData.eqv e (jf r))=decide (r∈rows):=by
 induction rows with
 |nil=>rfl
 |cons x rows ih=>
  rw[aX,lJ,ih,K4];by_cases c:x=r
  ·subst c;simp
  ·have:¬r=x:=λe=>c e.symm;simp[c,this]
inductive Nn(K:Frag)(vs:List V)(H:Hp)(Q:VK)(_x3:XK):Prop
 |mk (aa tb kn wd:Addr) (fk:List V) (ba:List (Str×List Str)) (fs:List En) (known v:List Str) (_:vs=[.ref aa,.ref tb,.ref kn,.ref wd]) (_:H aa=some (.tup fk)) (_:fX H fk ba) (_:Good ba) (_:ik K H tb fs) (_:bp K H kn (known.map V.str)) (_:H wd=some (.dK (jM known v))) (_:known.length=v.length) (_:(∀z∈v,PyData.strOk z=true)) (_:∀H',bG H H'->Q (.bl (aV.fits bT (cW fs) ba known v)) H')
def zi:cu ["_law_atoms","_law_tables_here","_law_known","_law_way","_law_name","_law_terms"] ["_law_atoms","_law_tables_here","_law_known","_law_way"] (defScope BS):=jx (by decide+kernel)
def VL(F:eZ K "_law_fits" "_law_fits" BS f fd)(T:Txt K mg):cY P w K mg base fH 1 f fd ["_law_atoms","_law_tables_here","_law_known","_law_way"] (Nn K):=by
 refine F.ok zi (λvs H Q E h=>?_) (λc6 A outer s H vs Q E hr h=>?_)
 ·obtain⟨a,b,_,_,_,_,_,_,_,rfl,_⟩:=h;rfl
 obtain⟨aa,tb,kn,wd,fk,ba,fs,known,v,rfl,wW,lP,good,tab,hkn,Fn,le,sv,k⟩:=h;have hu:=iL hr;refine⟨_,(aP (eJ bF rfl (mG (pv 0)) (lE rfl (dk (iz 4 zi) (dk (iz 5 zi) jO)))
   (bj (iq (dj (XS (bZ (eG _) hu)) (rE rfl (dB (fs:=["_law_known"]) (fr:=[2])) (mG (pv 5)) (λ_ _ _ _=>(PW.pt (CZ (dj xG (dF OI (pv 0) bq (λ_ _=>rfl)) dE (fN _)) (AH (dj (sr (K:=K)) (pv 0) (pv 1) (by with_unfolding_all rfl)))))) (λ_ _ _ _=>(pv 0))) (eO az) (fN _)) (bj (iq (dj (E8 hr.units) (dZ eR rfl T.jP (by decide+kernel) (ao (js rfl (dB (fs:=["_law_way"]) (fr:=[3])) (mG (pv 5)) (λ_ _ _ _=>(uu hu (pv 1) (pv 0) (pv 0) Ts))) az)) (uu hu (pv 1) (pv 4) (eO az) Tt) (by with_unfolding_all rfl)) (bj (cJ qY)) eU)) eU)))
   (bj (cJ qY))),?_⟩
 have la:fk.length=ba.length:=bB lP;refine⟨_,rfl,aa,rfl,⟨fk,bE.of wW⟩,AR (K:=K) (a:=aa) (xs:=fk)
  (λi Z H2=>∃(x4 x5:Option V),Z=[some (.ref aa),some (.ref tb),some (.ref kn),some (.ref wd),x4,x5]/\bG H H2/\i<=ba.length/\aV.fits bT (cW fs) (ba.take i) known v=true) ⟨none,none,rfl,λ_ _ e=>e,aO _,rfl⟩ (λi Z H2 _ hq=>by(obtain⟨_,_,_,sm,_⟩:=hq;exact bE.of (sm _ _ wW))) ?_ ?_⟩
 ·rintro i x Z H2 hx ⟨x4,x5,rfl,s2,_,hf⟩;obtain⟨a,ha,p,t,rfl,hp,ht⟩:=Paired.at lP hx;have bQ:i<ba.length:=(aq.mp ha).1;obtain⟨l4,F7,_,_⟩:=good a (aC ha);have Z8:aV.fits bT (cW fs) (ba.take (i+1)) known v=(!decide (a.2.filter (λt=>bT t&&decide (t∉known))=[])||decide (aV.image known v a.2∈cW fs a.1)):=by unfold aV.fits at hf⊢;rw[aZ,ha,bI,List.all_append,hf,f7,yS,List.all_nil,Bool.and_true]
  refine⟨p,_,rfl,bE.of (s2 _ _ hp),rfl,_,_,rfl,_,_,rfl,rfl,?_⟩;refine⟨_,rfl,t,rfl,⟨_,bE.of (s2 _ _ ht)⟩,uK (K:=K) (a:=t) (xs:=a.2.map V.str) (λj ys H3=>H3=H2/\j<=a.2.length/\ys=((a.2.take j).filter λt=>bT t&&decide (t∉known)).map V.str) (by rw[ag];exact bK (by lia)) ⟨rfl,aO _,rfl⟩ ?_ ?_ ?_⟩
  ·rintro j ys H3 hj ⟨rfl,_,rfl⟩;refine⟨bE.of (s2 _ _ ht),?_⟩;rw[ag];exact aE (cD _ _) (by rw[aS];lia)
  ·rintro j y ys H3 N hc ⟨rfl,hj,rfl⟩ hN;obtain⟨z,hz,rfl⟩:=g8 hc;have Du:j<a.2.length:=(aq.mp hz).1;have OT:=F7 z (aC hz);obtain⟨c,ZJ,RQ⟩:=IV OT;have ei:rT z.cps.toList 0=some c:=iM (j:=0) ZJ;have sR:=(jN OT).2.1;have en:(a.2.take (j+1)).filter (λt=>bT t&&decide (t∉known))=(a.2.take j).filter (λt=>bT t&&decide (t∉known))++if(bT z&&decide (z∉known))=true then[z]else[]:=by rw[aZ,hz,bI,fE,gj,vE]
   have yes:(bT z&&decide (z∉known))=true->N (((a.2.take j).filter λt=>bT t&&decide (t∉known)).map V.str++[V.str z]) H3:=λq=>hN _ _ ⟨rfl,Du,by rw[en,aB q,aQ];rfl⟩;have no:¬(bT z&&decide (z∉known))=true->N (((a.2.take j).filter λt=>bT t&&decide (t∉known)).map V.str) H3:=λq=>hN _ _ ⟨rfl,Du,by rw[en,ax q,cj]⟩;refine⟨_,rfl,_,_,_,rfl,rfl,bu (bK (by lia)),ei,rfl,?_⟩;rw[RQ];refine⟨_,rfl,fm (λc1=>?_) (λc1=>?_)⟩
   ·refine⟨_,rfl,_,rfl,kn,_,rfl,.inl (fR hkn s2),rfl,vC _,_,rfl,?_⟩;rw[AN];refine fm (λc2=>⟨_,rfl,yes ?_⟩) (λc2=>no ?_)
    ·rw[c1];simpa using c2
    ·rw[c1];simpa using c2
   ·refine qK (no ?_);intro q;rw[cM]at q;exact c1 q.1
  rintro ys H3 ⟨rfl,_,rfl⟩ l hl;rw[ag,a9];have s4:=aL hl (.lst ((a.2.filter λt=>bT t&&decide (t∉known)).map V.str));have uF:upd H3 l (.lst ((a.2.filter λt=>bT t&&decide (t∉known)).map V.str)) l=some (.lst ((a.2.filter λt=>bT t&&decide (t∉known)).map V.str)):=au;generalize (upd H3 l (.lst ((a.2.filter λt=>bT t&&decide (t∉known)).map V.str)))=H4 at s4 uF⊢;refine⟨by show 0<=sizeLine;decide,λe he=>?_⟩;have s5:=aL he (.lst ([]:List V));have Pm:upd H4 e (.lst ([]:List V)) e=some (.lst []):=au;have mK:=s5 _ _ uF;have uk:=s2.trans (s4.trans s5);generalize (upd H4 e (.lst ([]:List V)))=H5 at s5 Pm mK uk⊢;refine⟨l,e,_,rfl,rfl,bp.of mK,bp.of Pm,_,rfl,?_⟩;by_cases q:a.2.filter (λt=>bT t&&decide (t∉known))=[]
  ·rw[q];refine Es ?_;rw[q,aU rfl,dv,Bool.false_or]at Z8;have TY:bE K H5 t (a.2.map V.str):=bE.of (uk _ _ ht);have YQ:=uk _ _ Fn;refine⟨_,rfl,t,rfl,⟨_,TY⟩,uK (K:=K) (a:=t) (xs:=a.2.map V.str) (λj ys H6=>H6=H5/\j<=a.2.length/\ys=((a.2.take j).map (aV.gf known v)).map V.str) (by rw[ag];exact bK (by lia)) ⟨rfl,aO _,rfl⟩ ?_ ?_ ?_⟩
   ·rintro j ys H6 hj ⟨rfl,_,rfl⟩;refine⟨TY,?_⟩;rw[ag,ag,aS];lia
   ·rintro j y ys H6 N hc ⟨rfl,hj,rfl⟩ hN;obtain⟨z,hz,rfl⟩:=g8 hc;have Du:j<a.2.length:=(aq.mp hz).1;refine iH ?_;refine⟨_,rfl,wd,rfl,.inl ⟨_,.inl YQ⟩,_,rfl,_,rfl,_,ki.k (k:=Sum.inr z) YQ,?_⟩;rw[D7 le];refine hN _ _ ⟨rfl,Du,?_⟩;rw[aZ,hz,aQ,aQ];rfl
   rintro ys H6 ⟨rfl,_,rfl⟩ l2 km;rw[ag,a9];refine⟨l2,_,rfl,.inl ⟨bp.of au,λrp Y3=>?_⟩⟩;have s7:=(aL km (.lst ((a.2.map (aV.gf known v)).map V.str))).trans (aL Y3 (.tup ((a.2.map (aV.gf known v)).map V.str)));have Fs:upd (upd H6 l2 (.lst ((a.2.map (aV.gf known v)).map V.str))) rp (.tup ((a.2.map (aV.gf known v)).map V.str)) rp=some (.tup ((aV.image known v a.2).map V.str)):=au;have ui:=uk.trans s7;generalize (upd (upd H6 l2 (.lst ((a.2.map (aV.gf known v)).map V.str))) rp (.tup ((a.2.map (aV.gf known v)).map V.str)))=H7 at s7 Fs ui⊢;refine⟨_,rfl,tb,rfl,.inl ⟨_,.inl (ui _ _ tab.at_)⟩,_,rfl,(by show 0<=sizeLine;decide),λl0 qu=>?_⟩;have s8:=aL qu (.lst ([]:List V));have h0:upd H7 l0 (.lst ([]:List V)) l0=some (.lst []):=au;have hr8:=s8 _ _ Fs;have GJ:=ui.trans s8;generalize (upd H7 l0 (.lst ([]:List V)))=H8 at s8 h0 hr8 GJ⊢;obtain⟨tq,tys,eq,htq,hR,KO,hg⟩:=IB (tab.same GJ) h0 a.1;refine⟨_,ki.k (k:=Sum.inr a.1) (GJ _ _ tab.at_),?_⟩;rw[eq];have Ko:∀z∈aV.image known v a.2,PyData.strOk z=true:=vi sv λz hz=>(jN (F7 z hz)).1;have sh:=CU Ko;refine⟨jf (aV.image known v a.2),(cW fs a.1).map jf,II ⟨rp,rfl,bE.of hr8⟩,.inr (tY (bp.of htq) hR),xM _ λr hr z hz=>kQ ((hg r hr).2.2 z hz),?_,?_,_,rfl,?_⟩
   ·simp only[SeqAt.shaped,cM]at sh;exact sh.1
   ·simp[jf,PyData.depth,pX]
   ·rw[Lf];refine fm (λc=>?_) (λc=>?_)
    ·have nm:aV.image known v a.2∉cW fs a.1:=by simpa using c
     have ff:aV.fits bT (cW fs) ba known v=false:=by
      cases z:aV.fits bT (cW fs) ba known v with
      |false=>rfl
      |true=>
       refine absurd ((aV.Cn.mp z) a (aC ha) λt ht u=>?_) nm;refine tV λc2=>?_;have:t∈a.2.filter λt=>bT t&&decide (t∉known):=bM.mpr ⟨ht,by rw[u,aU c2];rfl⟩;rw[q]at this;cases this
     rw[ff]at k;exact k H8 GJ
    ·refine⟨_,_,rfl,GJ,bQ,?_⟩;rw[Z8];exact aU (by simpa using c)
  ·refine fm (λc=>?_) (λ_=>?_)
   ·exact absurd (by simpa using c) q
   ·refine⟨_,_,rfl,uk,bQ,?_⟩;rw[Z8,bt q];rfl
 ·rintro Z H2 ⟨x4,x5,rfl,s2,_,hf⟩;rw[la,a9]at hf;rw[hf]at k;exact k H2 s2
def Oe(h:q none H):JT Z H q:=h
def Wt(xs:List V)(j:Nat):xZ xs none (some (j:Int))=xs.take j:=by
 unfold xZ;rw[HT.GG,HT.J4,List.drop_zero,Nat.sub_zero];by_cases h:j<=xs.length
 ·rw[gW h]
 ·rw[Nat.min_eq_right (by lia),a9,cw (by lia)]
theorem xj{un:Str->Bool}{db:Str->List (List Str)}{us vals:List Str}:∀p,(aV.oR un db ba us vals p).length<=vals.length^p
 |0=>aE (cD _ _) (ak _)
 |p+1=>by refine aE (cD _ _) ?_;rw[Ck,iA];exact yo _ (xj p)
def zv(un:Str->Bool)(db:Str->List (List Str))(ba:List (Str×List Str))(us vals:List Str):Nat->List (List Str)
 |0=>[[]]
 |p+1=>(aV.oR un db ba us vals p).flatMap λv=>vals.map λx=>v++[x]
theorem xi:∀p,aV.oR un db ba us vals p=(zv un db ba us vals p).filter (aV.fits un db ba (us.take p))
 |0=>rfl
 |_+1=>rfl
theorem AJ:∀p,∀v∈zv un db ba us vals p,v.length=p/\∀x∈v,x∈vals
 |0,v,h=>by cases ay.mp h;exact⟨rfl,λx hx=>by cases hx⟩
 |p+1,v,h=>by
  obtain⟨v',h1,h2⟩:=jE.mp h;obtain⟨x,hx,rfl⟩:=aM.mp h2;rw[xi]at h1;obtain⟨g1,g2⟩:=AJ p v' (bM.mp h1).1;refine⟨by rw[aK,g1];rfl,λy hy=>?_⟩;rcases bf.mp hy with hy|hy
  ·exact g2 y hy
  ·rw[ay.mp hy];exact hx
theorem Vr:∀p,(zv un db ba us vals p).length<=vals.length^p
 |0=>ak _
 |p+1=>by show((aV.oR un db ba us vals p).flatMap λv=>vals.map λx=>v++[x]).length<=_;rw[Ck,iA];exact yo _ (xj p)
def Cj{a:Addr}{xs:List V}{g:TG}{tb:TS}{D:Ends}{Z:L2.St}{H:Hp}(Pv:Nat->L2.St->Hp->Prop)(h0:Pv 0 Z H)(hl:∀i Z H,i<=xs.length->Pv i Z H->bE K H a xs)
  (hs:∀i x Z H(D':Ends),xs[i]?=some x->Pv i Z H->(∀σ' H',Pv (i+1) σ' H'->D'.nx σ' H')->(∀v H',D.rt v H'->D'.rt v H')->g x Z H λσ2 H2=>tb D' σ2 H2) (hd:∀Z H,Pv xs.length Z H->D.nx Z H):=
 AR (K:=K) (a:=a) (xs:=xs) (g:=g) (tb:=tb) (D:=D) (Z:=Z) (H:=H) Pv h0 hl (λi x Z H hx hp=>hs i x Z H _ hx hp (λ_ _ h=>h) λ_ _ h=>h) hd
def PB{a:Addr}{xs:List V}{g:TG}{tb:TS}{D:Ends}{Z:L2.St}{H:Hp}(Pv:Nat->L2.St->Hp->Prop)(h0:Pv 0 Z H)(hl:∀i Z H,i<=xs.length->Pv i Z H->bp K H a xs)
  (hs:∀i x Z H(D':Ends),xs[i]?=some x->Pv i Z H->(∀σ' H',Pv (i+1) σ' H'->D'.nx σ' H')->(∀v H',D.rt v H'->D'.rt v H')->g x Z H λσ2 H2=>tb D' σ2 H2) (hd:∀Z H,Pv xs.length Z H->D.nx Z H):=
 mM (K:=K) (a:=a) (xs:=xs) (g:=g) (tb:=tb) (D:=D) (Z:=Z) (H:=H) Pv h0 hl (λi x Z H hx hp=>hs i x Z H _ hx hp (λ_ _ h=>h) λ_ _ h=>h) hd
def Mr{lo:Int}{n:Nat}{g:TG}{tb:TS}{D:Ends}{Z:L2.St}{H:Hp}(Pv:Nat->L2.St->Hp->Prop)(h0:Pv 0 Z H)
  (hs:∀i Z H(D':Ends),i<n->Pv i Z H->(∀σ' H',Pv (i+1) σ' H'->D'.nx σ' H')->(∀v H',D.rt v H'->D'.rt v H')->g (.int (lo+i)) Z H λσ2 H2=>tb D' σ2 H2) (hd:∀Z H,Pv n Z H->D.nx Z H):=
 mL (lo:=lo) (n:=n) (g:=g) (tb:=tb) (D:=D) (Z:=Z) (H:=H) Pv h0 (λi Z H hx hp=>hs i Z H _ hx hp (λ_ _ h=>h) λ_ _ h=>h) hd
def Ms{d:Addr}{o:Obj}{u:HO}{kvs:List (V×V)}{g:TG}{tb:TS}{D:Ends}{Z:L2.St}{H:Hp}(Pv:Nat->L2.St->Hp->Prop)(h0:Pv 0 Z H)(hl:∀i Z H,i<=kvs.length->Pv i Z H->H d=some (.cQ o u))
  (hs:∀i kv Z H(D':Ends),kvs[i]?=some kv->Pv i Z H->(∀σ' H',Pv (i+1) σ' H'->D'.nx σ' H')->(∀v H',D.rt v H'->D'.rt v H')->g kv.1 Z H λσ2 H2=>tb D' σ2 H2) (hd:∀Z H,Pv kvs.length Z H->D.nx Z H):=
 FC (d:=d) (o:=o) (u:=u) (kvs:=kvs) (g:=g) (tb:=tb) (D:=D) (Z:=Z) (H:=H) Pv h0 hl (λi kv Z H hx hp=>hs i kv Z H _ hx hp (λ_ _ h=>h) λ_ _ h=>h) hd
inductive Nj(K:Frag)(vs:List V)(H:Hp)(Q:VK)(_x3:XK):Prop
 |mk (aa tb:Addr) (fk:List V) (ba:List (Str×List Str)) (fs:List En) (_:vs=[.ref aa,.ref tb]) (_:H aa=some (.tup fk)) (_:fX H fk ba) (_:Good ba) (_:ba.length<=8) (_:ik K H tb fs) (_:∀(l:Addr)(ys:List V)(H':Hp)(vals:List Str),bG H H'->H l=none->H' l=some (.lst ys)->vals.Nodup->(∀x∈vals,x∈cU)->(∀e∈fs,∀r∈e.rows,∀x∈r,x∈vals)->lG H' (dH (cc ba)) ys (aV.oR bT (cW fs) ba (dH (cc ba)) vals (dH (cc ba)).length)->Q (.ref l) H')
structure Dw6(P:Program)(w:World)(K:Frag)(mg:Str->Option Value)(base:Heap):Prop where
 Yn:dW P w K mg base 1 "_law_fits" ["_law_atoms","_law_tables_here","_law_known","_law_way"] (Nn K)
 Rm:dW P w K mg base 1 "_law_longer" ["_law_ways_here","_law_unknown","_law_values_here"] (Gz K)
def gn:cu ["_law_atoms","_law_tables_here","_law_unknowns","_law_values_here","_law_name","_law_terms","_law_term","_law_row","_law_value","_law_ways_here","_law_place"] ["_law_atoms","_law_tables_here"] (defScope BQ):=jx (by decide+kernel)
def VH(F:eZ K "_law_ways" "_law_ways" BQ f fd)(T:Txt K mg)(D:Dw6 P w K mg base):cY P w K mg base fH 2 f fd ["_law_atoms","_law_tables_here"] (Nj K):=by
 refine F.ok gn (λvs H Q E h=>?_) (λc6 A outer s H vs Q E hr h=>?_)
 ·obtain⟨a,b,_,_,_,rfl,_⟩:=h;rfl
 obtain⟨aa,tb,fk,ba,fs,rfl,wW,lP,good,l8,tab,k⟩:=h;have hu:=iL hr;refine⟨_,(aP (uq (i:=2) gn.nd rfl (Or.inr rfl) (eO az))
   (aP (fM 3 gn kZ)
   (aP (eJ bF rfl (mG (pv 0)) (lE rfl (dk (iz 4 gn) (dk (iz 5 gn) jO)))
   (bj (eJ bF rfl (mG (pv 5)) (iz 6 gn)
   (bj (iq (PW.pt (CZ (dj xG (dF OI (pv 6) bq (λ_ _=>rfl)) dE (fN _)) (AH (dj zB (pv 6) (pv 2) (by with_unfolding_all rfl))))) (bj (iI (kz bY cL cK jo (pv 2) (ao (pv 6) az)))) eU)))))
   (aP (BZ (eJ bF rfl (G5 (pv 1)) (iz 4 gn)
   (bj (eJ bF rfl (gq (AK hu (pv 1) (pv 4) (λ_ _=>rfl))) (iz 7 gn)
   (bj (eJ bF rfl (mG (pv 7)) (iz 8 gn)
   (bj (wx hu (pv 3) (pv 8) qY rfl))))))))
   (aP (fM 9 gn (eO (ao kZ az)))
   (aP (eJ bF rfl (jV rfl T.nj (ao (d7 jW (cE fS rfl T.jg cq (ao (pv 2) az)) bq) az)) (ni (i:=10) gn.nd rfl (Or.inr rfl))
   (aP (G0 (j:=9) gn.nd rfl rfl rfl (dB (fs:=["_law_atoms","_law_tables_here","_law_unknowns","_law_place"]) (fr:=[0,1,2,10])) (gq (pv 9)) (λ_ _ _ _=>(wt (cl D.Yn hr (ao (pv 1) (ao (pv 2) (ao (B2 (QJ (K:=K)) (pv 3) Ej (Ei (pv 4))) (ao (pv 0) az))))))) (λ_ _ _ _=>(pv 0)))
   (bj (iq (dj LK (pv 10) (cE fS rfl T.jg cq (ao (pv 2) az)) (fN _)) (bj (fM 9 gn (cl D.Rm hr (ao (pv 9) (ao (dF eX (pv 2) (pv 10) (λ_ _=>rfl)) (ao (pv 3) az)))))) eU))))
   (bj (cJ (pv 9))))))))),?_⟩
 have la:fk.length=ba.length:=bB lP;have nd:=tG (cc ba);have Tu:(dH (cc ba)).length<=6:=fh (m:=iy) nd λt ht=>by obtain⟨u,h⟩:=xm.mp ht;unfold cc at h;obtain⟨ts,kT,h⟩:=jD.mp h;obtain⟨b,hb,rfl⟩:=aM.mp kT;exact(jN ((good b hb).2.1 t h)).2.2 u
 refine⟨by show 0<=sizeLine;decide,λul hul=>?_⟩;have s1:=aL hul (.lst ([]:List V));have HY:upd H ul (.lst ([]:List V)) ul=some (.lst []):=au;generalize (upd H ul (.lst ([]:List V)))=H1 at s1 HY⊢;intro vd TQ;have s2:=aL TQ (.dK []);have HV:upd H1 vd (.dK []) vd=some (.dK (gC [])):=au;have wO:=s2 _ _ HY;have lX:=s1.trans s2;have Uw:H vd=none:=s1.free TQ;have vul:vd≠ul:=λz=>by rw[z,HY]at TQ;cases TQ
 generalize (upd H1 vd (.dK []))=H2 at s2 HV wO lX⊢;refine⟨_,rfl,aa,rfl,⟨fk,bE.of (lX _ _ wW)⟩,Cj (K:=K) (a:=aa) (xs:=fk)
  (λi Z H3=>∃(x4 x5 x6:Option V),Z=[some (.ref aa),some (.ref tb),some (.ref ul),some (.ref vd),x4,x5,x6,none,none,none,none]/\bG H H3/\i<=ba.length/\H3 vd=some (.dK (gC []))/\H3 ul=some (.lst ((dH (cc (ba.take i))).map V.str))) ⟨none,none,none,rfl,lX,aO _,HV,wO⟩ (λi Z H3 _ hq=>by(obtain⟨_,_,_,_,sm,_⟩:=hq;exact bE.of (sm _ _ wW))) ?_ ?_⟩
 ·rintro i x Z H3 D1 hx ⟨x4,x5,x6,rfl,s3,_,OV,HX⟩ Kq _;obtain⟨a,ha,p,t,rfl,hp,ht⟩:=Paired.at lP hx;have bQ:i<ba.length:=(aq.mp ha).1;obtain⟨l4,F7,_,_⟩:=good a (aC ha);refine⟨p,_,rfl,bE.of (s3 _ _ hp),rfl,_,_,rfl,_,_,rfl,rfl,?_⟩;refine⟨_,rfl,t,rfl,⟨_,bE.of (s3 _ _ ht)⟩,Cj (K:=K) (a:=t) (xs:=a.2.map V.str)
   (λj Z H4=>∃(x6:Option V),Z=[some (.ref aa),some (.ref tb),some (.ref ul),some (.ref vd),some (.str a.1),some (.ref t),x6,none,none,none,none]/\bG H H4/\j<=a.2.length/\H4 vd=some (.dK (gC []))/\H4 ul=some (.lst ((dH (cc (ba.take i)++a.2.take j)).map V.str))) ⟨x6,rfl,s3,aO _,OV,by rw[List.take_zero,cj];exact HX⟩ (λj Z H4 _ hq=>by(obtain⟨_,_,sm,_⟩:=hq;exact bE.of (sm _ _ ht))) ?_ ?_⟩
  ·rintro j y Z H4 D2 hy ⟨x6,rfl,s4,_,wN,Fp⟩ Oa _;obtain⟨z,hz,rfl⟩:=g8 hy;have hj:j<a.2.length:=(aq.mp hz).1;have OT:=F7 z (aC hz);obtain⟨c,ZJ,RQ⟩:=IV OT;have ei:rT z.cps.toList 0=some c:=iM (j:=0) ZJ;have sR:=(jN OT).2.1;have en:dH (cc (ba.take i)++a.2.take (j+1))=step (dH (cc (ba.take i)++a.2.take j)) z:=by rw[aZ,hz,<-Gk,b9];rfl
   refine⟨_,rfl,_,_,_,rfl,rfl,bu (bK (by lia)),ei,rfl,?_⟩;rw[RQ];refine⟨_,rfl,fm (λc1=>?_) (λc1=>?_)⟩
   ·refine⟨_,rfl,_,rfl,ul,_,rfl,.inl (bp.of Fp),rfl,vC _,_,rfl,?_⟩;rw[AN];have lun:=Ep (cc (ba.take i)++a.2.take j);rw[aK,aS]at lun;have lfl:=AL (ba.take i) λb hb=>(good b (jj hb)).1;rw[aS]at lfl;refine fm (λc2=>?_) (λc2=>?_)
    ·have nm:z∉dH (cc (ba.take i)++a.2.take j):=by simpa using c2
     refine⟨_,rfl,.inl ⟨rfl,_,bp.of Fp⟩,_,rfl,ul,_,_,rfl,rfl,Fp,by rw[ag];exact bK (by lia),?_⟩;refine Oa _ _ ⟨_,rfl,λb o e=>?_,hj,by rw[aw vul];exact wN,?_⟩
     ·rw[aw (aW e hul)];exact s4 _ _ e
     ·rw[au,en];unfold step;rw[aB c1,ax nm,aQ];rfl
    ·have nm:z∈dH (cc (ba.take i)++a.2.take j):=by simpa using c2
     refine Oa _ _ ⟨_,rfl,s4,hj,wN,?_⟩;rw[en];unfold step;rw[aB c1,aB nm];exact Fp
   ·refine qK (Oa _ _ ⟨_,rfl,s4,hj,wN,?_⟩);rw[en];unfold step;rw[ax c1];exact Fp
  ·rintro Z H4 ⟨x6,rfl,s4,_,wN,Fp⟩;refine Kq _ _ ⟨_,_,_,rfl,s4,bQ,wN,?_⟩;rw[ag,a9]at Fp;rw[xT ha];exact Fp
 rintro Z H3 ⟨x4,x5,x6,rfl,s3,_,OV,HX⟩;rw[la,a9]at HX;generalize dH (cc ba)=us at HX nd Tu k;have Ia:=s3 _ _ tab.at_;refine⟨tb,(λu v e=>by rw[Ia]at e;cases e),?_⟩;refine⟨_,rfl,tb,_,(fs.map gw).map (λp=>(kV p.1,p.2)),rfl,Ia,.inl ⟨_,rfl,rfl⟩,λo=>?_⟩;have WT:vd≠tb:=λz=>by rw[z,tab.at_]at Uw;cases Uw
 have W2:tb≠vd:=bP WT;have TN:upd H3 tb (.cQ o (.dK (fs.map gw))) vd=some (.dK (gC [])):=by rw[aw WT];exact OV
 have OX:upd H3 tb (.cQ o (.dK (fs.map gw))) tb=some (.cQ o (.dK (fs.map gw))):=au;have sQ:SB tb H3 (upd H3 tb (.cQ o (.dK (fs.map gw)))):=λb u n e=>by rw[aw n];exact e
 have ntb:gE H3 tb:=xJ Ia;have zc:=sQ.tp ntb;generalize Dz:upd H3 tb (.cQ o (.dK (fs.map gw)))=Hf at TN OX sQ zc⊢;have XW:gE Hf vd:=xJ TN;have lfs:((fs.map gw).map λp=>(kV p.1,p.2)).length=fs.length:=by rw[ag,ag]
 have gz:∀{vals:List Str},vals.Nodup->(∀x∈vals,x∈cU)->vals.length<=8:=λn h=>fh (m:=cU) n h;refine Ms (d:=tb) (o:=o) (u:=.dK (fs.map gw)) (kvs:=(fs.map gw).map λp=>(kV p.1,p.2)) (λi Z H4=>∃(x4 x5 x6 x7 x8:Option V)(vals:List Str),Z=[some (.ref aa),some (.ref tb),some (.ref ul),some (.ref vd),x4,x5,x6,x7,x8,none,none]/\SB vd Hf H4/\i<=fs.length/\H4 vd=some (.dK (gC vals))/\vals.Nodup/\(∀x∈vals,x∈cU)/\∀e∈fs.take i,∀r∈e.rows,∀x∈r,x∈vals)
  ⟨_,_,_,_,_,[],rfl,λ_ _ _ e=>e,aO _,TN,.nil,λx hx=>(by cases hx),λe he=>(by cases he)⟩ (λi Z H4 _ ⟨_,_,_,_,_,_,_,sb,_⟩=>sb _ _ W2 OX) ?_ ?_
 ·rintro i kv Z H4 D1 hG ⟨x4,x5,x6,x7,x8,vals,rfl,Bf,_,wN,vn,vp,va⟩ Kq _;rw[cx,aJ]at hG;obtain⟨e,Fy,ekv⟩:=bo.mp hG;have ek:kv.1=V.str e.nm:=by rw[<-ekv];rfl
  have bQ:i<fs.length:=(aq.mp Fy).1;have he:=aC Fy;obtain⟨Uq,hR,wQ,hg⟩:=tab.en e he;have X7:e.ad≠tb:=λq=>by rw[q,tab.at_]at Uq;cases Uq
  have nev:e.ad≠vd:=aW Uq Uw;have ZN:=sQ _ _ X7 (s3 _ _ Uq);have ac3:=Bf _ _ nev ZN;have hRf:=ng hR ((d6.same s3).trans zc);have acG:=Bf _ _ W2 OX;rw[ek];have g:ki H4 tb (.str e.nm) (some (.ref e.ad)):=.inl ⟨fs.map gw,Sum.inr e.nm,.inr ⟨o,acG⟩,rfl,(AF tab.nm he).symm⟩;refine⟨_,rfl,_,rfl,tb,_,rfl,g,e.ad,rfl,⟨_,bp.of ac3⟩,PB (K:=K) (a:=e.ad) (xs:=e.ys)
   (λj Z H5=>∃(x7 x8:Option V)(vals:List Str),Z=[some (.ref aa),some (.ref tb),some (.ref ul),some (.ref vd),some (.str e.nm),x5,x6,x7,x8,none,none]/\SB vd Hf H5/\j<=e.rows.length/\H5 vd=some (.dK (gC vals))/\vals.Nodup/\(∀x∈vals,x∈cU)/\(∀e∈fs.take i,∀r∈e.rows,∀x∈r,x∈vals)/\∀r∈e.rows.take j,∀x∈r,x∈vals)
   ⟨x7,x8,vals,rfl,Bf,aO _,wN,vn,vp,va,λr hr=>(by cases hr)⟩ (λj Z H5 _ hq=>by(obtain⟨_,_,_,_,sb,_⟩:=hq;exact bp.of (sb _ _ nev ZN))) ?_ ?_⟩
  ·rintro j y Z H5 D2 hy ⟨x7,x8,vals,rfl,wj,_,Di,WW,WV,WY,SH⟩ Oa _;obtain⟨r,rP,ra,rfl,O5⟩:=Paired.at' hRf hy;have ma:j<e.rows.length:=(aq.mp rP).1;have hgr:=hg r (aC rP);have acK:=lD O5 (wj.tp XW);refine⟨_,rfl,ra,rfl,⟨_,acK⟩,Cj (K:=K) (a:=ra) (xs:=r.map V.str)
    (λm Z H6=>∃(x8:Option V)(vals:List Str),Z=[some (.ref aa),some (.ref tb),some (.ref ul),some (.ref vd),some (.str e.nm),x5,x6,some (.ref ra),x8,none,none]/\SB vd Hf H6/\m<=r.length/\H6 vd=some (.dK (gC vals))/\vals.Nodup/\(∀x∈vals,x∈cU)/\(∀e∈fs.take i,∀r∈e.rows,∀x∈r,x∈vals)/\(∀r∈e.rows.take j,∀x∈r,x∈vals)/\∀x∈r.take m,x∈vals)
    ⟨x8,vals,rfl,wj,aO _,Di,WW,WV,WY,SH,λx hx=>(by cases hx)⟩ (λm Z H6 _ ⟨_,_,_,sb,_⟩=>lD O5 (sb.tp XW)) ?_ ?_⟩
   ·rintro m y Z H6 D3 hy6 ⟨x8,vals,rfl,jU,_,Fo,M8,M7,WX,WU,SI⟩ nx3 _;obtain⟨z,hz,rfl⟩:=g8 hy6;have hml:m<r.length:=(aq.mp hz).1;have zp:=hgr.2.2 z (aC hz);have lv:=gz M8 M7;refine⟨_,rfl,_,rfl,vd,_,rfl,AA.k (k:=Sum.inr z) Fo (by unfold gC;rw[ag];exact bK (by lia)),?_⟩;have ep:putK (gC vals) (Sum.inr z:Key) (V.bl true)=gC (if z∈vals then vals else vals++[z]):=GV vals z;have sub:∀x∈vals,x∈(if z∈vals then vals else vals++[z]):=λx hx=>by
     split
     ·exact hx
     ·exact cX _ hx
    have zin:z∈(if z∈vals then vals else vals++[z]):=by
     split
     ·next h=>exact h
     ·exact bN _ aA
    refine nx3 _ _ ⟨_,if z∈vals then vals else vals++[z],rfl,λb u n e=>?_,hml,?_,?_,?_,λe he r hr x hx=>sub x (WX e he r hr x hx),λr hr x hx=>sub x (WU r hr x hx),λx hx=>?_⟩
    ·rw[aw n];exact jU _ _ n e
    ·rw[au,ep]
    ·split
     ·exact M8
     ·next h=>exact eY.mpr ⟨M8,fP _ _,λa ha b hb=>by rw[ay.mp hb];exactλq=>h (by rw[<-q];exact ha)⟩
    ·split
     ·exact M7
     ·intro x hx;rcases bf.mp hx with hx|hx
      ·exact M7 x hx
      ·rw[ay.mp hx];exact zp
    ·rw[aZ,hz,bI]at hx;rcases bf.mp hx with hx|hx
     ·exact sub x (SI x hx)
     ·rw[ay.mp hx];exact zin
   ·rintro Z H6 ⟨x8,vals,rfl,jU,_,Fo,M8,M7,WX,WU,SI⟩;rw[ag,a9]at SI;refine Oa _ _ ⟨_,_,vals,rfl,jU,ma,Fo,M8,M7,WX,λr' ox x hx=>?_⟩;rw[aZ,rP,bI]at ox;rcases bf.mp ox with ox|ox
    ·exact WU r' ox x hx
    ·rw[ay.mp ox]at hx;exact SI x hx
  ·rintro Z H5 ⟨x7,x8,vals,rfl,wj,_,Di,WW,WV,WY,SH⟩;have lr:e.ys.length=e.rows.length:=hR.length;rw[lr,a9]at SH;refine Kq _ _ ⟨_,_,_,_,_,vals,rfl,wj,bQ,Di,WW,WV,λe' yM r hr x hx=>?_⟩;rw[aZ,Fy,bI]at yM;rcases bf.mp yM with yM|yM
   ·exact WY e' yM r hr x hx
   ·rw[ay.mp yM]at hr;exact SH r hr x hx
 rintro Z H4 ⟨x4,x5,x6,x7,x8,vals,rfl,Bf,_,wN,vn,vp,va⟩;rw[lfs,a9]at va;refine⟨o,_,Bf _ _ W2 OX,?_⟩;have lv:=gz vn vp;have s5:bG H (upd H4 tb (.dK (fs.map gw))):=λb u e=>by
  by_cases z:b=tb
  ·rw[z,tab.at_]at e;cases e;rw[z,au]
  ·rw[aw z];exact Bf _ _ (aW e Uw) (sQ _ _ z (s3 _ _ e))
 have Di:upd H4 tb (.dK (fs.map gw)) vd=some (.dK (gC vals)):=by rw[aw WT];exact wN
 have utb:ul≠tb:=λz=>by rw[z,Ia]at HX;cases HX
 have hu5:upd H4 tb (.dK (fs.map gw)) ul=some (.lst (us.map V.str)):=by rw[aw utb];exact Bf _ _ (bP vul) (sQ _ _ utb HX)
 generalize (upd H4 tb (.dK (fs.map gw)))=H5 at s5 Di hu5⊢;clear Bf sQ OX TN wN zc Dz XW
 refineλd0 h9=>⟨by show 1<=sizeLine;decide,λwl HS=>?_⟩
 have s6:=(aL h9 (.dK [])).trans (aL HS (.lst [V.ref d0]));have hd6:upd (upd H5 d0 (.dK [])) wl (.lst [V.ref d0]) d0=some (.dK (jM [] [])):=(aL HS _) _ _ au;have hw6:upd (upd H5 d0 (.dK [])) wl (.lst [V.ref d0]) wl=some (.lst [V.ref d0]):=au;have h0w:H wl=none:=(s5.trans (aL h9 (.dK []))).free HS;generalize (upd (upd H5 d0 (.dK [])) wl (.lst [V.ref d0]))=H6 at s6 hd6 hw6⊢;have TV:=s6 _ _ hu5;have Fo:=s6 _ _ Di;have uj:=s5.trans s6
 let Wi:Nat->List (List Str):=λi=>if i<=us.length then zv bT (cW fs) ba us vals i else aV.oR bT (cW fs) ba us vals us.length
 refine⟨_,rfl,_,_,rfl,.inl ⟨_,bp.of TV,rfl⟩,_,_,rfl,rfl,((us.length:Int)+1),?_,?_,?_,Mr (lo:=0) (n:=us.length+1) (λi Z H7=>∃(wl:Addr)(ys:List V)(yB:Option V),Z=[some (.ref aa),some (.ref tb),some (.ref ul),some (.ref vd),x4,x5,x6,x7,x8,some (.ref wl),yB]/\bG H6 H7/\H wl=none/\H7 wl=some (.lst ys)/\lG H7 (us.take i) ys (Wi i))
  ⟨wl,[.ref d0],none,rfl,λ_ _ e=>e,h0w,hw6,?_⟩ ?_ ?_⟩
 ·rw[ag]
 ·lia
 ·lia
 ·show lG H6 (us.take 0) [.ref d0] (if 0<=us.length then _ else _);rw[aB (aO _)];exact .cons ⟨d0,rfl,hd6⟩ .nil
 ·rintro i Z H7 D1 hi ⟨w1,ys,yB,rfl,s7,Z5,TL,hW⟩ Kq _;have gG:i<=us.length:=by lia
  have eW:Wi i=zv bT (cW fs) ba us vals i:=aB gG;rw[eW]at hW;have lp:(zv bT (cW fs) ba us vals i).length<=262144:=aE (Vr i) (aE (qz lv i) (aE (fK (by decide) (show i<=6 by lia)) (by decide)));have HB:ys.length=(zv bT (cW fs) ba us vals i).length:=bB hW;have ui:=uj.trans s7;rw[Int.zero_add];refine⟨_,rfl,w1,rfl,⟨_,bp.of TL⟩,j6 (K:=K) (a:=w1) (xs:=ys) (λj zs H8=>bG H7 H8/\j<=ys.length/\lG H8 (us.take i) zs (((zv bT (cW fs) ba us vals i).take j).filter (aV.fits bT (cW fs) ba (us.take i)))/\zs.length<=j) (by rw[HB];exact bZ lp (by decide)) ⟨λ_ _ e=>e,aO _,.nil,ak _⟩ ?_ ?_ ?_⟩
  ·rintro j zs H8 hj ⟨s8,_,_,lz⟩;exact⟨bp.of (s8 _ _ TL),lz⟩
  ·rintro j y zs H8 N hy ⟨s8,hj,zP,lz⟩ hN;obtain⟨v,hv,wd,rfl,Fn⟩:=Paired.at' hW hy;have ma:j<ys.length:=(aq.mp hy).1;obtain⟨g1,g2⟩:=AJ i v (aC hv);have GJ:=ui.trans s8;refine⟨_,rfl,_,rfl,_,rfl,Oe ⟨_,rfl,_,rfl,ul,_,rfl,bp.of (s8 _ _ (s7 _ _ TV)),λkp Fw=>?_⟩⟩;have ec:xZ (us.map V.str) none (some (i:Int))=(us.take i).map V.str:=by rw[Wt,List.map_take]
   rw[ec];have s9:=aL Fw (.lst ((us.take i).map V.str));have hk9:upd H8 kp (.lst ((us.take i).map V.str)) kp=some (.lst ((us.take i).map V.str)):=au;generalize (upd H8 kp (.lst ((us.take i).map V.str)))=H9 at s9 hk9⊢;have Xr:=GJ.trans s9;refine⟨_,rfl,aa,tb,kp,wd,fk,ba,fs,us.take i,v,rfl,Xr _ _ wW,p6 lP Xr,good,tab.same Xr,bp.of hk9,s9 _ _ (s8 _ _ Fn),by rw[g1,aS];lia,λz hz=>kQ (vp z (g2 z hz)),λse mE=>⟨_,rfl,?_⟩⟩;have NB:=s9.trans mE;refine fm (λc=>⟨_,rfl,hN _ _ ⟨s8.trans NB,ma,?_,?_⟩⟩) (λc=>hN _ _ ⟨s8.trans NB,ma,?_,by lia⟩)
   ·rw[aZ,hv,bI,fE,gj,aB c,vE];exact(y8 zP NB).snoc ⟨wd,rfl,NB _ _ (s8 _ _ Fn)⟩
   ·rw[aK,de];lia
   ·rw[aZ,hv,bI,fE,gj,ax c,vE,cj];exact y8 zP NB
  rintro zs H8 ⟨s8,_,zP,_⟩ w2 HU;rw[HB,a9,<-xi]at zP;have s9:=s8.trans (aL HU (.lst zs));have sR:=y8 zP (aL HU (.lst zs));have yK:upd H8 w2 (.lst zs) w2=some (.lst zs):=au;have ada:H w2=none:=(ui.trans s8).free HU;generalize (upd H8 w2 (.lst zs))=H9 at s9 sR yK⊢;have J5:=s7.trans s9;have lw:(aV.oR bT (cW fs) ba us vals i).length<=262144:=aE (xj i) (aE (qz lv i) (aE (fK (by decide) (show i<=6 by lia)) (by decide)));refine⟨_,rfl,_,rfl,_,_,rfl,.inl ⟨_,bp.of (J5 _ _ TV),rfl⟩,_,_,rfl,rfl,_,rfl,?_⟩;rw[ag];refine fm (λc=>?_) (λc=>?_)
  ·have Mc:i<us.length:=by have:=br c;lia
   obtain⟨u,rN⟩:∃u,us[i]?=some u:=⟨_,ar Mc⟩;have nu:u∉us.take i:=λz=>by obtain⟨Pl,e⟩:=aq.mp rN;obtain⟨j,hj,ej⟩:=dN.mp z;rw[aS]at hj;rw[A5]at ej;exact dU.mp nd j i (by lia) Pl (by lia) (by rw[ej,e])
   refine⟨_,rfl,_,rfl,_,rfl,ul,_,_,V.str u,rfl,rfl,bp.of (J5 _ _ TV),iM (by rw[aJ,rN];rfl),_,rfl,w2,vd,us.take i,vals,u,zs,_,rfl,bp.of yK,sR,J5 _ _ Fo,nu,λv hv=>?_,by rw[aS];lia,lv,by lia,λr nY se mE rP L5 ac5=>?_⟩
   ·rw[xi]at hv;rw[(AJ i v (bM.mp hv).1).1,aS];lia
   ·refine Kq _ _ ⟨r,nY,_,rfl,J5.trans mE,(uj.trans J5).free rP,L5,?_⟩;rw[aZ,rN,bI];show lG se (us.take i++[u]) nY (if i+1<=us.length then _ else _);rw[aB (show i+1<=us.length from Mc)];exact ac5
  ·have Mc:i=us.length:=by have:¬(i:Int)<(us.length:Int):=λq=>c (aU q);lia
   refine Kq _ _ ⟨w2,zs,_,rfl,J5,ada,yK,?_⟩;show lG H9 (us.take (i+1)) zs (if i+1<=us.length then _ else _);rw[ax (by lia),<-Mc,cw (show us.length<=i+1 by lia)];rw[cw (show us.length<=i by lia)]at sR;exact sR
 ·rintro Z H7 ⟨w1,ys,yB,rfl,s7,Z5,TL,hW⟩;have hW:lG H7 (us.take (us.length+1)) ys (if us.length+1<=us.length then _ else aV.oR bT (cW fs) ba us vals us.length):=hW;rw[ax (by lia),cw (by lia)]at hW;exact⟨_,rfl,k w1 ys H7 vals (uj.trans s7) Z5 TL vn vp va hW⟩
def Nu:aV.sX bT (cW fs) ba g↔aV.sX bT (uJ fs) ba g:=
 ⟨λh=>⟨h.1,λa ha=>(kR _ _).mpr (h.2 a ha)⟩,λh=>⟨h.1,λa ha=>(kR _ _).mp (h.2 a ha)⟩⟩
inductive SY(K:Frag)(vs:List V)(H:Hp)(Q:VK)(_x3:XK):Prop
 |mk (v:V) (tb:Addr) (fs:List En) (hz:List Str) (ba:List (Str×List Str)) (_:vs=[v,.ref tb]) (_:rX H v hz ba) (_:Good ba) (_:xg hz ba) (_:ba.length<=8) (_:ik K H tb fs) (_:∀(l:Addr)(zs:List V)(rows:List (List Str))(H':Hp),bG H H'->H l=none->H' l=some (.lst zs)->eB K H' zs (fZ rows)->rows.Nodup->(∀row,row∈rows↔∃g,aV.sX bT (uJ fs) ba g/\row=hz.map g)->Q (.ref l) H')
structure Dd6(P:Program)(w:World)(K:Frag)(mg:Str->Option Value)(base:Heap):Prop where
 Ym:dW P w K mg base 2 "_law_ways" ["_law_atoms","_law_tables_here"] (Nj K)
def xu:cu ["_law_question_here","_law_tables_here","_law_rows","_law_way","_law_row"] ["_law_question_here","_law_tables_here"] (defScope Ec):=jx (by decide+kernel)
def XU(F:eZ K "_law_due" "_law_due" Ec f fd)(T:Txt K mg)(D:Dd6 P w K mg base):cY P w K mg base fH 3 f fd ["_law_question_here","_law_tables_here"] (SY K):=by
 refine F.ok xu (λvs H Q E h=>?_) (λc6 A outer s H vs Q E hr h=>?_)
 ·obtain⟨a,b,_,_,_,rfl,_⟩:=h;rfl
 obtain⟨v,tb,fs,hz,ba,rfl,⟨q,hd,aa,fk,rfl,hq,uG,wW,lP⟩,good,bw,la,tab,k⟩:=h;have hu:=iL hr;refine⟨_,(aP (fM 2 xu (eO az))
   (aP (eJ bF rfl (gq (cl D.Ym hr (ao (dF rK (pv 0) bq (λ_ _=>rfl)) (ao (pv 1) az)))) (ni (i:=3) xu.nd rfl (Or.inr rfl))
   (aP (fM 4 xu (dZ eR rfl T.jP (by decide+kernel) (ao (js rfl (dB (fs:=["_law_way"]) (fr:=[3])) (mG (dF rK (pv 0) bq (λ_ _=>rfl))) (λ_ _ _ _=>(uu hu (pv 1) (pv 0) (pv 0) Ts))) az)))
   (bj (iq (dj (E8 hr.units) (pv 4) (pv 2) (by with_unfolding_all rfl)) (bj (iI (kz bY cL cK jo (pv 2) (ao (pv 4) az)))) eU))))
   (bj (cJ (cE IQ rfl T.B4 (by decide+kernel) (ao (pv 2) az)))))),?_⟩
 refine⟨by show 0<=sizeLine;decide,λrl Bv=>?_⟩;have s1:=aL Bv (.lst ([]:List V));have vt:upd H rl (.lst ([]:List V)) rl=some (.lst []):=au;generalize (upd H rl (.lst ([]:List V)))=H1 at s1 vt⊢;refine⟨_,rfl,_,_,_,_,rfl,rfl,bE.of (s1 _ _ hq),rfl,_,rfl,aa,tb,fk,ba,fs,rfl,s1 _ _ wW,p6 lP s1,good,la,tab.same s1,λwl ys H2 vals s2 TM HU vn vp va hW=>?_⟩;have nd:=tG (cc ba);have Rv:∀t,t∈dH (cc ba)↔bT t=true/\∃a∈ba,t∈a.2:=λt=>by rw[xm];unfold cc;rw[jD];exact⟨λ⟨u,ts,kT,h⟩=>⟨u,let⟨b,hb,e⟩:=aM.mp kT;⟨b,hb,by rw[e];exact h⟩⟩,λ⟨u,b,hb,h⟩=>⟨u,b.2,aM.mpr ⟨b,hb,rfl⟩,h⟩⟩
 have Tu:(dH (cc ba)).length<=6:=fh (m:=iy) nd λt ht=>by obtain⟨u,b,hb,h⟩:=(Rv t).mp ht;exact(jN ((good b hb).2.1 t h)).2.2 u
 have lv:vals.length<=8:=fh (m:=cU) vn vp;have Qn:=λrow=>aV.Qq (un:=bT) (db:=cW fs) (atoms:=ba) (us:=dH (cc ba)) (vals:=vals) (head:=hz) Rv nd (λa _ r hr x hx=>by
  unfold cW at hr;cases qf:fs.find? (λe=>decide (e.nm=a.1))with
  |none=>rw[qf]at hr;cases hr
  |some e=>rw[qf]at hr;exact va e (jk qf) r hr x hx) (λt ht u=>xm.mpr ⟨u,(bw.2 t ht).2 u⟩) row
 have Ov:(aV.oR bT (cW fs) ba (dH (cc ba)) vals (dH (cc ba)).length).length<=262144:=aE (xj _) (aE (qz lv _) (aE (fK (by decide) Tu) (by decide)));have Qp:∀v∈aV.oR bT (cW fs) ba (dH (cc ba)) vals (dH (cc ba)).length,v.length=(dH (cc ba)).length/\∀x∈v,x∈vals:=λv hv=>by rw[xi]at hv;exact AJ _ v (bM.mp hv).1
 generalize (dH (cc ba))=us at Qn Ov Qp hW nd Tu Rv;generalize (aV.oR bT (cW fs) ba us vals us.length)=ws at Qn Ov Qp hW;have HB:ys.length=ws.length:=bB hW;have lX:=s1.trans s2;have lh:=bw.1;have okt:∀z∈hz,PyData.strOk z=true:=λz oo=>(jN (bw.2 z oo).1).1;refine⟨wl,rfl,⟨_,bp.of HU⟩,mM (K:=K) (a:=wl) (xs:=ys) (λi Z H3=>∃(x3 x4:Option V)(zs:List V)(rows:List (List Str)),Z=[some (.ref q),some (.ref tb),some (.ref rl),x3,x4]/\SB rl H2 H3/\i<=ws.length/\H3 rl=some (.lst zs)/\eB K H3 zs rows/\rows.Nodup/\(∀row,row∈rows↔∃v∈ws.take i,row=aV.image us v hz)/\rows.length<=i/\uT rows)
  ⟨none,none,[],[],rfl,λ_ _ _ e=>e,aO _,s2 _ _ vt,.nil,.nil,λrow=>⟨λh=>(by cases h),λ⟨v,hv,_⟩=>(by cases hv)⟩,ak _,λr hr=>(by cases hr)⟩ (λi Z H3 _ ⟨_,_,_,_,_,sb,_⟩=>bp.of (sb _ _ (λz=>by rw[z,vt]at TM;cases TM) HU)) ?_ ?_⟩
 ·rintro i x Z H3 hx ⟨x3,x4,zs,rows,rfl,mC,_,Dk,KZ,rn,ri,rl3,ro⟩;obtain⟨v,hv,wd,rfl,Fn⟩:=Paired.at' hW hx;have bQ:i<ws.length:=(aq.mp hv).1;obtain⟨g1,g2⟩:=Qp v (aC hv);have YR:=mC _ _ (λz=>by rw[z,s2 _ _ vt]at Fn;cases Fn) Fn;have rD:bG H H3:=λb u e=>mC _ _ (aW e Bv) (lX _ _ e);refine⟨_,rfl,_,_,_,_,rfl,rfl,bE.of (rD _ _ hq),rfl,hd,rfl,⟨_,bE.of (rD _ _ uG)⟩,uK (K:=K) (a:=hd) (xs:=hz.map V.str) (λj fY H4=>H4=H3/\j<=hz.length/\fY=((hz.take j).map (aV.gf us v)).map V.str) (by rw[ag];exact bK (by lia)) ⟨rfl,aO _,rfl⟩ ?_ ?_ ?_⟩
  ·rintro j fY H4 hj ⟨rfl,_,rfl⟩;refine⟨bE.of (rD _ _ uG),?_⟩;rw[ag,ag,aS];lia
  ·rintro j y fY H4 N hc ⟨rfl,hj,rfl⟩ hN;obtain⟨z,OS,rfl⟩:=g8 hc;have Du:j<hz.length:=(aq.mp OS).1;refine iH ?_;refine⟨_,rfl,wd,rfl,.inl ⟨_,.inl YR⟩,_,rfl,_,rfl,_,ki.k (k:=Sum.inr z) YR,?_⟩;rw[D7 g1.symm];refine hN _ _ ⟨rfl,Du,?_⟩;rw[aZ,OS,aQ,aQ];rfl
  rintro fY H4 ⟨rfl,_,rfl⟩ l2 km;rw[ag,a9];refine⟨l2,_,rfl,.inl ⟨bp.of au,λrp Y3=>?_⟩⟩;have s5:=(aL km (.lst ((hz.map (aV.gf us v)).map V.str))).trans (aL Y3 (.tup ((hz.map (aV.gf us v)).map V.str)));have zR:upd (upd H4 l2 (.lst ((hz.map (aV.gf us v)).map V.str))) rp (.tup ((hz.map (aV.gf us v)).map V.str)) rp=some (.tup ((aV.image us v hz).map V.str)):=au;generalize (upd (upd H4 l2 (.lst ((hz.map (aV.gf us v)).map V.str))) rp (.tup ((hz.map (aV.gf us v)).map V.str)))=H5 at s5 zR⊢;have mK:=s5 _ _ Dk;have ZS:=ip KZ s5;have Ko:∀z∈aV.image us v hz,PyData.strOk z=true:=vi (λz oo=>kQ (vp z (g2 z oo))) okt;have sh:=CU Ko;refine⟨_,rfl,_,rfl,jf (aV.image us v hz),rows.map jf,II ⟨rp,rfl,bE.of zR⟩,.inr (tY (bp.of mK) ZS),xM _ ro,?_,?_,_,rfl,?_⟩
  ·simp only[SeqAt.shaped,cM]at sh;exact sh.1
  ·simp[jf,PyData.depth,pX]
  ·rw[Lf];have nx:∀row,(∃v'∈ws.take (i+1),row=aV.image us v' hz)↔(row∈rows\/row=aV.image us v hz):=λrow=>by
    rw[ri row,aZ,hv,bI];constructor
    ·rintro⟨v',h1,h2⟩;rcases bf.mp h1 with h1|h1
     ·exact .inl ⟨v',h1,h2⟩
     ·rw[ay.mp h1]at h2;exact .inr h2
    ·rintro(⟨v',h1,h2⟩|h)
     ·exact⟨v',cX _ h1,h2⟩
     ·exact⟨v,bN _ aA,h⟩
   refine fm (λc=>?_) (λc=>?_)
   ·have nm:aV.image us v hz∉rows:=by simpa using c
    have lz:zs.length=rows.length:=KZ.length;refine⟨_,rfl,.inl ⟨rfl,_,bp.of mK⟩,_,rfl,rl,zs,_,rfl,rfl,mK,bZ (show zs.length<=262144 by lia) (by decide),?_⟩;have t6:d6 H5 (upd H5 rl (.lst (zs++[.ref rp]))):=d6.upd (mJ mK);refine⟨_,_,zs++[.ref rp],rows++[aV.image us v hz],rfl,λb u n e=>?_,bQ,au,(ng ZS t6).snoc ⟨rp,rfl,lD (bE.of zR) t6⟩,eY.mpr ⟨rn,fP _ _,λa ha b hb=>by rw[ay.mp hb];exactλe=>nm (by rw[<-e];exact ha)⟩,λrow=>?_,by rw[aK,de];lia,λr hr=>?_⟩
    ·rw[aw n];exact s5 _ _ (mC _ _ n e)
    ·rw[nx row,bf,ay]
    ·rcases bf.mp hr with hr|hr
     ·exact ro r hr
     ·rw[ay.mp hr];exact Ko
   ·have nm:aV.image us v hz∈rows:=by simpa using c
    refine⟨_,_,zs,rows,rfl,mC.trans (SB.same s5),bQ,mK,ZS,rn,λrow=>?_,by lia,ro⟩;rw[nx row];exact⟨.inl,λh=>h.elim id λe=>by rw[e];exact nm⟩
 ·rintro Z H3 ⟨x3,x4,zs,rows,rfl,mC,_,Dk,KZ,rn,ri,rl3,ro⟩;rw[HB,a9]at ri;have rD:bG H H3:=λb u e=>mC _ _ (aW e Bv) (lX _ _ e);have lr:rows.length<=262144:=by lia
  refine⟨_,rfl,rl,zs,rows,rfl,bp.of Dk,KZ,λh2 r ox=>?_,by lia,λl nY hl oo _=>?_⟩
  ·intro er;obtain⟨v,_,ev⟩:=(ri r).mp ox;rw[er]at ev;have ez:hz=[]:=lT.mp ev.symm;have all:∀y∈rows,y∈([[]]:List (List Str)):=λy hy=>by obtain⟨v',_,e'⟩:=(ri y).mp hy;rw[e',ez];exact aA
   have:=fh rn all;rw[de]at this;lia
  ·have s4:=aL hl (.lst nY);refine k l nY rows _ (rD.trans s4) (rD.free hl) au (ip oo s4) rn λrow=>?_;rw[ri row,Qn row];exact⟨λ⟨g,h,e⟩=>⟨g,Nu.mp h,e⟩,λ⟨g,h,e⟩=>⟨g,Nu.mpr h,e⟩⟩
def Ext.of(s:bG H H'):Ext f H H':=λb o _ h=>s b o h
def Wz{κ:Type}[DecidableEq κ]{l:List (κ×V)}{k:κ}(h:k∉l.map (·.1)):(l.any λkv=>decide (kv.1=k))=false:=by rw[g9];intro e;obtain⟨kv,h1,h2⟩:=jI.mp e;exact h (aM.mpr ⟨kv,h1,br h2⟩)
def Vo{k:Key}{v:V}(h:k∉l.map (·.1)):putK l k v=l++[(k,v)]:=by unfold putK;rw[Wz h];rfl
theorem Hv:∀(kvs l:List (Key×V)),((l++kvs).map (·.1)).Nodup->dX l kvs=l++kvs
 |[],l,_=>by rw[cj];rfl
 |kv::r,l,h=>by
  have hn:kv.1∉l.map (·.1):=by rw[aQ,eY]at h;intro e;exact h.2.2 _ e _ (by rw[aX];exact aA) rfl
  show dX (putK l kv.1 kv.2) r=_;rw[Vo hn,Hv r (l++[(kv.1,kv.2)]) (by rw[b9];exact h),b9];rfl
def Nf(x:Ext d H H1)(sm:bG H1 H2)(hu:H d=some u):bG H (upd H2 d u):=λb z h=>by
 by_cases e:b=d
 ·subst e;rw[au,<-h,hu]
 ·rw[aw e];exact sm b z (x b z e h)
def Q8{es:List En}(h:(es.map (·.nm)).Nodup):((es.map gw).map (·.1)).Nodup:=by rw[Og];exact Fd.mpr h
def sI(es fU:List En):Prop:=Paired (λ(e e':En)=>e'.nm=e.nm/\e'.ys=e.ys/\e'.rows=e.rows) es fU
def sI.jn(h:sI es fU):fU.map (·.nm)=es.map (·.nm):=by
 unfold sI at h
 induction h with
 |nil=>rfl
 |cons q _ ih=>rw[aX,aX,ih,q.1]
theorem sI.cW(h:sI es fU)(z:Str):cW fU z=cW es z:=by
 unfold sI at h
 induction h with
 |nil=>rfl
 |@cons a b as bs q _ ih=>
  unfold K06.cW;by_cases c:a.nm=z
  ·rw[dQ (p:=λx:En=>decide (x.nm=z)) (aU (q.1.trans c)),dQ (p:=λx:En=>decide (x.nm=z)) (aU c)];exact q.2.2
  ·rw[dR (p:=λx:En=>decide (x.nm=z)) (λd=>c (q.1.symm.trans (br d))),dR (p:=λx:En=>decide (x.nm=z)) (λd=>c (br d))];exact ih
def VW:∀{es fU:List En},sI es fU->∀{i:Nat}{e':En},fU[i]?=some e'->∃e,es[i]?=some e/\e'.nm=e.nm/\e'.ys=e.ys/\e'.rows=e.rows:=by
 intro es fU h;unfold sI at h
 induction h with
 |nil=>intro i e' h;cases h
 |@cons a b as bs q _ ih=>
  intro i e' h;cases i with
  |zero=>cases h;exact⟨a,rfl,q⟩
  |succ i=>exact ih (i:=i) h
def same_none(s:bG H H')(h:H' a=none):H a=none:=by
 cases q:H a with
 |none=>rfl
 |some o=>
  rw[s _ _ q]at h;cases h
inductive Nq(K:Frag)(vs:List V)(H:Hp)(Q:VK)(_x3:XK):Prop
 |mk (f d:Addr) (es:List En) (_:vs=[.ref d]) (_:Ai f H d es) (_:(∃o,H f=some o)) (_:∀(p:Addr)(fU:List En)(H':Hp),bG H H'->H p=none->Ai f H' p fU->sI es fU->Q (.ref p) H')
def NA:cu ["_law_tables_here"] ["_law_tables_here"] (defScope BW):=jx (by decide+kernel)
def VO(F:eZ K "_law_copy" "_law_copy" BW f fd)(T:Txt K mg):cY P w K mg base fH 1 f fd ["_law_tables_here"] (Nq K):=by
 refine F.ok NA (λvs H Q E h=>?_) (λc6 A outer s H vs Q E hr h=>?_)
 ·obtain⟨a,b,c,rfl,_⟩:=h;rfl
 obtain⟨fe,d,es,rfl,hT,⟨ofe,Zy⟩,k⟩:=h;have hu:=iL hr;refine⟨_,(bj (cJ (G9 (dZ (DQ hr.hd) rfl T.Dd (by decide+kernel) (ao (js rfl (dB (fs:=["_law_tables_here"]) (fr:=[0])) (Vv (pv 0)) (λ_ _ _ _=>(mH (ao (pv 0) (ao (dZ (FX (K:=K)) rfl T.zF (by decide+kernel) (ao (AK hu (pv 1) (pv 0) (λ_ _=>rfl)) az)) az))))) az))))),?_⟩;obtain⟨nd,hd,hn,hl,ho⟩:=id hT;have abW:∀(u:Obj)(v:HO),H d≠some (.cQ u v):=λu v=>by rw[hd];exactλz=>nomatch z
 refine⟨d,abW,_,rfl,d,es.map gw,rfl,hd,λo=>?_⟩;have x1:Ext d H (upd H d (.cQ o (.dK (es.map gw)))):=λb z n h=>by rw[aw n];exact h
 have yN:upd H d (.cQ o (.dK (es.map gw))) d=some (.cQ o (.dK (es.map gw))):=au;generalize (upd H d (.cQ o (.dK (es.map gw))))=H1 at x1 yN⊢;refine P5 (λi ys H2=>bG H1 H2/\∃fU:List En,sI (es.take i) fU/\Paired (λ(y:V)(e:En)=>∃t,y=.ref t/\H2 t=some (.tup [.str e.nm,.ref e.ad])/\H1 t=none) ys fU/\∀e∈fU,H1 e.ad=none/\H2 e.ad=some (.lst e.ys)) (by rw[ag];exact bK (by lia)) ⟨bG.refl H1,[],.nil,.nil,λe h=>by cases h⟩ ?_ ?_ ?_
 ·rintro i ys H2 hi ⟨sm,fU,hk,hp,_⟩;refine⟨sm _ _ yN,?_⟩;rw[hp.length,<-hk.length,aS];lia
 ·rintro i kv ys H2 N hc ⟨sm,fU,hk,hp,yM⟩ hN;rw[aJ]at hc;obtain⟨e,hce,rfl⟩:=bo.mp hc;have he:=aC hce;obtain⟨hz,na,ha,hR,hg,KO⟩:=ho e he;have X7:e.ad≠d:=λq=>by rw[q,hd]at ha;cases ha
  have ha2:=sm _ _ (x1 _ _ X7 ha);have g:ki H2 d (.str e.nm) (some (.ref e.ad)):=.inl ⟨es.map gw,Sum.inr e.nm,.inr ⟨o,sm _ _ yN⟩,rfl,(AF hn he).symm⟩;refine iH ?_;refine⟨_,rfl,_,rfl,_,rfl,d,_,rfl,g,e.ad,e.ys,rfl,.inl (bp.of ha2),λl hl=>?_⟩;refine⟨(by show 2<=sizeLine;decide),λt ht=>hN _ _ ⟨(sm.trans (aL hl _)).trans (aL ht _),fU++[⟨e.nm,l,e.ys,e.rows⟩],?_,?_,?_⟩⟩
  ·rw[aZ,hce];exact lM hk ⟨rfl,rfl,rfl⟩
  ·have s3:bG H2 (upd (upd H2 l (.lst e.ys)) t (.tup [.str e.nm,.ref l])):=(aL hl _).trans (aL ht _);refine lM (Paired.qJ hp λy e' ⟨t',e1,h1,h2⟩=>⟨t',e1,s3 _ _ h1,h2⟩) ⟨t,rfl,au,same_none (sm.trans (aL hl _)) ht⟩
  ·have s3:bG H2 (upd (upd H2 l (.lst e.ys)) t (.tup [.str e.nm,.ref l])):=(aL hl _).trans (aL ht _);intro e' h';rcases bf.mp h' with h'|h'
   ·exact⟨(yM e' h').1,s3 _ _ (yM e' h').2⟩
   ·rw[ay.mp h'];exact⟨same_none sm hl,(aL ht _) _ _ au⟩
 ·rintro ys H2 ⟨sm,fU,hk,hp,yM⟩ l Il;rw[ag,a9]at hk;have s3:bG H2 (upd H2 l (.lst ys)):=aL Il _;have Fv:upd H2 l (.lst ys) l=some (.lst ys):=au;generalize (upd H2 l (.lst ys))=H3 at s3 Fv⊢;have oy:Paired (λ(y:V)(kv:Key×V)=>∃t,y=.ref t/\H3 t=some (.tup [kV kv.1,kv.2])) ys (fU.map gw):=by
   have:∀{ys:List V}{fU:List En},Paired (λ(y:V)(e:En)=>∃t,y=.ref t/\H2 t=some (.tup [.str e.nm,.ref e.ad])/\H1 t=none) ys fU->Paired (λ(y:V)(kv:Key×V)=>∃t,y=.ref t/\H3 t=some (.tup [kV kv.1,kv.2])) ys (fU.map gw):=λh=>by
    induction h with
    |nil=>exact .nil
    |cons q _ ih=>
     obtain⟨t,e1,h1,_⟩:=q;exact .cons ⟨t,e1,s3 _ _ h1⟩ ih
   exact this hp
  have KN:(fU.map (·.nm)).Nodup:=by rw[hk.jn];exact hn
  refine⟨l,ys,fU.map gw,rfl,bp.of Fv,oy,λp KI=>?_⟩;rw[Hv (fU.map gw) [] (by rw[iP];exact Q8 KN),iP];have s4:bG H3 (upd H3 p (.dK (fU.map gw))):=aL KI _;have Bg:=(sm.trans s3).trans s4;have Um:=Bg _ _ yN;refine⟨o,_,Um,?_⟩;have sT:=Nf x1 Bg hd;have npd:p≠d:=λq=>by rw[q,s3 _ _ (sm _ _ yN)]at KI;cases KI
  have Y9:H p=none:=by
   cases q:H p with
   |none=>rfl
   |some z=>
    rw[s3 _ _ (sm _ _ (x1 _ _ npd q))]at KI;cases KI
  refine k p fU _ sT Y9 ⟨λq=>?_,?_,KN,by rw[<-hk.length];exact hl,λe' h'=>?_⟩ hk
  ·rw[q,Zy]at Y9;cases Y9
  ·rw[aw npd,au]
  ·obtain⟨i,hi⟩:=eC.mp h';obtain⟨e,he,q1,q2,q3⟩:=VW hk hi;obtain⟨hz,na,ha,hR,hg,KO⟩:=ho e (aC he);obtain⟨r1,r2⟩:=yM e' h';have nad:e'.ad≠d:=λq=>by rw[q,yN]at r1;cases r1
   refine⟨by rw[q1];exact hz,λq=>?_,?_,?_,?_,?_⟩
   ·rw[q,x1 _ _ (bP nd) Zy]at r1;cases r1
   ·rw[aw nad];exact s4 _ _ (s3 _ _ r2)
   ·rw[q2,q3];exact nh hR (Ext.of sT)
   ·rw[q3];exact hg
   ·rw[q3];exact KO
def V9(h:∀r∈rows,nF r):uT rows:=λr hr z hz=>kQ ((h r hr).2.2 z hz)
def Vd:∀{es fU:List En},sI es fU->(∀e∈fU,CI f H e)->(∀e∈es,CI f H e)->IX K H (fU.map gw) (es.map gw):=by
 intro es fU h;unfold sI at h
 induction h with
 |nil=>intro _ _;exact .nil
 |@cons a b as bs q _ ih=>
  intro h1 h2;obtain⟨_,_,hb,hRb,hg,_⟩:=h1 b aA;obtain⟨_,_,ha,hRa,_,_⟩:=h2 a aA;refine .cons ⟨cA Sum.inr q.1,qX b.rows,tY (bp.of hb) (BX hRb),?_,vL (V9 hg),by rw[IH];exact aU rfl⟩ (ih (λe he=>h1 e (aD _ he)) (λe he=>h2 e (aD _ he)));rw[q.2.2];exact tY (bp.of ha) (BX hRa)
def pf(h:dY K f H)(s:bG H H'):dY K f H':=by
 obtain⟨a,ns,x,y,z,hf,h1,h2,h3,hS,hn⟩:=h;refine⟨a,ns,x,y,z,s _ _ hf,h1,h2,h3,?_,hn⟩;rcases hS with⟨ob,h⟩|h
 ·exact .inl ⟨ob,s _ _ h⟩
 ·exact .inr h
def Ai.r(h:Ai f H d es):ik K H d es:=⟨h.2.1,h.2.2.1,λe he=>by obtain⟨_,_,h3,h4,h5,h6⟩:=h.2.2.2.2 e he;exact⟨h3,BX h4,h6,h5⟩⟩
def Si(h0:0<=i)(h1:i<4):∃m:Int,rT [V.int 4,V.int 4,V.int 4,V.int 8] i=some (.int m)/\1<=m/\m<=8:=by
 have c:i=0\/i=1\/i=2\/i=3:=by lia
 rcases c with rfl|rfl|rfl|rfl
 ·exact⟨4,rfl,by decide,by decide⟩
 ·exact⟨4,rfl,by decide,by decide⟩
 ·exact⟨4,rfl,by decide,by decide⟩
 ·exact⟨8,rfl,by decide,by decide⟩
def rX.ext{f:Addr}{H H':Hp}{v:V}{hz:List Str}{ba:List (Str×List Str)}(h:rX H v hz ba)(t:fT H H'):rX H' v hz ba:=by obtain⟨q,hd,a,vs,e,h1,h2,h3,h4⟩:=h;exact⟨q,hd,a,vs,e,t _ _ h1,t _ _ h2,t _ _ h3,h4.keep t⟩
def E9(tab:ik K H tb fs)(bw:xg hz ba)(hi:∀row,row∈rows↔∃g,aV.sX bT (uJ fs) ba g/\row=hz.map g):uT (fZ rows):=λr hr z oo=>by
 obtain⟨g,hg,rfl⟩:=(hi r).mp ((jT rows).mem_iff.mp hr);obtain⟨t,ht,rfl⟩:=aM.mp oo;cases u:bT t with
 |false=>rw[hg.1 t u];exact(jN (bw.2 t ht).1).1
 |true=>
  have:=(bw.2 t ht).2 u;unfold cc at this;obtain⟨ts,kT,h⟩:=jD.mp this;obtain⟨b,hb,rfl⟩:=aM.mp kT;exact kQ (((tab.good b.1).2 _ ((kR _ _).mp (hg.2 b hb))).2.2 _ (aM.mpr ⟨t,h,rfl⟩))
def U8(ha:a.Nodup)(hb:b.Nodup)(h:∀r,r∈a↔r∈b):fZ a=fZ b:=by rw[BM ha h,BM hb λr=>Iff.rfl]
def Sa(xs:List V)(j:Nat):xZ xs (some (j:Int)) none=xs.drop j:=by
 unfold xZ;rw[HT.GG,HT.J4];by_cases h:j<=xs.length
 ·rw[gW h,cw (by rw[jG];exact ak _)]
 ·rw[Nat.min_eq_right (by lia),v5 (ak _),v5 (by lia),List.take_nil]
def QM(tab:ik K H tb fs)(bw:xg hz ba){rows:List (List Str)}(nd:rows.Nodup)(hi:∀row,row∈rows↔∃g,aV.sX bT (uJ fs) ba g/\row=hz.map g):rows.length<=1000000:=by
 have h4:=bw.1;have:=aV.gz (A:=cU++ij) (k:=hz.length) nd λr hr=>by
  obtain⟨g,hg,rfl⟩:=(hi r).mp hr;refine⟨ag _,λz oo=>?_⟩;obtain⟨t,ht,rfl⟩:=aM.mp oo;cases u:bT t with
  |false=>rw[hg.1 t u];exact bN _ (bw.2 t ht).1
  |true=>
   have:=(bw.2 t ht).2 u;unfold cc at this;obtain⟨ts,kT,h⟩:=jD.mp this;obtain⟨b,hb,rfl⟩:=aM.mp kT;exact cX _ (((tab.good b.1).2 _ ((kR _ _).mp (hg.2 b hb))).2.2 _ (aM.mpr ⟨t,h,rfl⟩))
 refine aE this (aE (fK (by decide) h4) ?_);decide+kernel
inductive FZ(K:Frag)(vs:List V)(H:Hp)(Q:VK)(_x3:XK):Prop
 |mk (a:Addr) (ns:List Int) (_:vs=[.ref a]) (_:uP K H a (ns.map V.int)) (_:ns.length<=63) (_:∀H',Q (.bl true) H')
structure Dq(P:Program)(w:World)(K:Frag)(mg:Str->Option Value)(base:Heap):Prop where
 Yo:dW P w K mg base 1 "_law_feed" ["_law_script"] (Np K)
 gO:dW P w K mg base 1 "_law_draw" ["_law_feed_here","_law_many"] (GA K)
 V4:dW P w K mg base 3 "_law_names" ["_law_feed_here"] (CP K rJ 3)
 Rj:dW P w K mg base 3 "_law_values" ["_law_feed_here"] (CP K cU 4)
 LX:dW P w K mg base 3 "_law_question" ["_law_feed_here","_law_names_here","_law_values_here","_law_most"] (CQ K)
 Rl:dW P w K mg base 3 "_law_tables" ["_law_feed_here","_law_names_here","_law_values_here"] (Gu K)
 aa3:dW P w K mg base 3 "_law_due" ["_law_question_here","_law_tables_here"] (SY K)
 Yp:dW P w K mg base 1 "_law_copy" ["_law_tables_here"] (Nq K)
 answers:dW P w K mg base 8 "answers" ["question","tables"] (EX K)
def mz:cu ["_law_script","_law_feed_here","_law_k","_law_names_here","_law_values_here","_law_question_here","_law_tables_here","_law_due_here","_law_handed","_law_again","_law_found"] ["_law_script"] (defScope Lz):=jx (by decide+kernel)
def XT(F:eZ K "law" "law" Lz f fd)(T:Txt K mg)(D:Dq P w K mg base):cY P w K mg base fH 9 f fd ["_law_script"] (FZ K):=by
 refine F.ok mz (λvs H Q E h=>?_) (λc6 A outer s H vs Q E hr h=>?_)
 ·obtain⟨a,b,rfl,_⟩:=h;rfl
 obtain⟨a,ns,rfl,hS,hn,k⟩:=h;have hu:=iL hr;refine⟨_,(aP (fM 1 mz (cl D.Yo hr (ao (pv 0) az)))
   (aP (eJ bF rfl (jV rfl T.nj (ao bq az)) (iz 2 mz)
   (aP (fM 3 mz (cl D.V4 hr (ao (pv 1) az)))
   (aP (fM 4 mz (cl D.Rj hr (ao (pv 1) az)))
   (aP (fM 5 mz (cl D.LX hr (ao (pv 1) (ao (pv 3) (ao (pv 4) (ao (dF eX (eO (ao bq (ao bq (ao bq (ao bq az))))) (cl D.gO hr (ao (pv 1) (ao bq az))) (λ_ _=>rfl)) az))))))
   (aP (fM 6 mz (cl D.Rl hr (ao (pv 1) (ao (d7 Hm (B2 J3 (pv 3) (Ei (cl D.gO hr (ao (pv 1) (ao bq az)))) Ej) (eO (ao dE az))) (ao (pv 4) az)))))
   (aP (fM 7 mz (cl D.aa3 hr (ao (pv 5) (ao (pv 6) az))))
   (aP (fM 8 mz (cl D.Yp hr (ao (pv 6) az)))
   (aP (eJ bF rfl (jV rfl T.nj (ao bq az)) (iz 9 mz)
   (aP (fM 10 mz (cl D.answers hr (ao (pv 5) (ao (pv 8) az))))
   (aP (iq (PW.pt (F2 (GY (wt (cE rm rfl T.pJ (by decide+kernel) (ao (pv 10) (ao (F4 (n:="list") rfl T.zF (by decide+kernel)) az))))) (F2 (dj (XQ hr.units) (pv 10) (pv 7) (fN _)) (GU (dj (XO (u96 hr)) (pv 8) (pv 6) (fN _)))))) (bj (cJ qY)) eU)
   (aP (iq (dj (NZ hr.M9) (rE rfl (dB (fs:=[]) (fr:=[])) (gq (pv 10)) (λ_ _ _ _=>(GY (wt (cE (IT (K:=K)) rfl T.pJ (by decide+kernel) (ao (pv 0) (ao (F4 (n:="tuple") rfl T.jP (by decide+kernel)) az)))))) (λ_ _ _ _=>(pv 0))) (eO az) (fN _)) (bj (cJ qY)) eU)
   (bj (iI (kz bY cL cK jo (pv 10) (ao (mH (ao dE az)) az))))))))
   (bj (iq (dj (NZ hr.M9) (cl D.answers hr (ao (pv 5) (ao kZ az))) (eO az) (fN _)) (bj (cJ qY)) eU))))))))))
   (bj (cJ qY)))),?_⟩
 refine⟨_,rfl,a,ns,rfl,hS,hn,λfe H1 uI S1 Zy=>?_⟩;refine⟨4,rfl,by decide,by decide,mL (lo:=0) (n:=4) (λi Z H2=>∃(x2 x3 x4 x5 x6 x7 x8 x9 yB:Option V),Z=[some (.ref a),some (.ref fe),x2,x3,x4,x5,x6,x7,x8,x9,yB]/\dY K fe H2) ⟨_,_,_,_,_,_,_,_,_,rfl,uI⟩ ?_ ?_⟩
 ·rintro i Z H2 hi ⟨x2,x3,x4,x5,x6,x7,x8,x9,yB,rfl,rS⟩;refine⟨_,rfl,fe,rfl,rS,λnl nys H3 Pw IG zE Dp ln1 ln2 hny=>?_⟩;refine⟨_,rfl,fe,rfl,Pw,λvl vys H4 wX wZ yG Bt Yg lv2 hvy=>?_⟩;obtain⟨jn,rfl,hnm⟩:=AG hny;obtain⟨nM,rfl,YS⟩:=AG hvy;rw[ag]at ln1 ln2 Yg lv2;refine⟨_,rfl,_,rfl,_,rfl,(by show 4<=sizeLine;decide),λp5 O8=>?_⟩;have np5:=wX.rH O8;refine⟨_,rfl,fe,4,rfl,wX.new O8 _,by decide,by decide,λi5 H5 j0 j1 qw mf=>?_⟩;obtain⟨most,ev,m1,m2⟩:=Si j0 j1;have RY:Ext fe H4 H5:=((Ext.refl fe H4).new O8 _).trans mf;refine⟨_,_,_,_,rfl,rfl,bp.of (mf _ _ np5 au),ev,?_⟩;refine⟨fe,nl,vl,most,jn,nM,rfl,qw,zE,yG,RY _ _ zE (wZ _ _ zE Dp),ln1,by lia,hnm,⟨RY _ _ yG Bt,Yg,by lia,λz hz=>cX _ (bN _ (YS z hz))⟩,YS,m1,m2,λq6 Bs yi H6 yQ pV hQ6 l6a l6 Mm KQ=>?_⟩;have aak:=RY.trans pV;refine⟨_,rfl,_,rfl,_,rfl,fe,2,rfl,yQ,by decide,by decide,λi7 H7 j0 j1 vB pU=>?_⟩;obtain⟨j7,rfl⟩:∃j:Nat,i7=j:=⟨i7.toNat,by lia⟩;have hn7:=pU _ _ zE (aak _ _ zE (wZ _ _ zE Dp));refine⟨_,rfl,Oe ⟨nl,_,rfl,bp.of hn7,λc7 hc7=>?_⟩⟩;rw[Sa];have s8:=aL hc7 (.lst ((jn.map V.str).drop j7));have hc8:upd H7 c7 (.lst ((jn.map V.str).drop j7)) c7=some (.lst ((jn.drop j7).map V.str)):=by rw[au,List.map_drop]
  generalize (upd H7 c7 (.lst ((jn.map V.str).drop j7)))=H8 at s8 hc8⊢;refine⟨by show 1<=sizeLine;decide,λo8 ho8=>?_⟩;have s9:=aL ho8 (.lst [V.str "other"]);have ho9:upd H8 o8 (.lst [V.str "other"]) o8=some (.lst [V.str "other"]):=au;have hc9:=s9 _ _ hc8;generalize (upd H8 o8 (.lst [V.str "other"]))=H9 at s9 ho9 hc9⊢;have ld:(jn.drop j7).length<=3:=by rw[jG];lia
  refine⟨c7,o8,_,_,rfl,rfl,hc9,ho9,?_,λn9 hn9=>?_⟩
  ·rw[ag];exact bu (bK (by show(jn.drop j7).length+1<=1000;lia))
  have mE:=aL hn9 (.lst ((jn.drop j7).map V.str++[V.str "other"]));have Ze:upd H9 n9 (.lst ((jn.drop j7).map V.str++[V.str "other"])) n9=some (.lst ((jn.drop j7++(["other"]:List Str)).map V.str)):=by rw[au,aQ];rfl
  have LA:=s8.trans (s9.trans mE);have n9f:n9≠fe:=by have:=(pf (pf vB s8) s9).rH hn9;exact this
  generalize (upd H9 n9 (.lst ((jn.drop j7).map V.str++[V.str "other"])))=se at mE Ze LA⊢;have Ml:=pf vB LA;have abm:Ext fe H4 se:=aak.trans (pU.trans (Ext.of LA));refine⟨_,rfl,fe,n9,vl,jn.drop j7++(["other"]:List Str),nM,rfl,Ml,n9f,yG,Ze,?_,λz hz=>?_,abm _ _ yG Bt,Yg,lv2,YS,λd kvs BL ac9 adg hT0 _=>?_⟩
  ·rw[aK];show(jn.drop j7).length+1<=4;lia
  ·rcases bf.mp hz with hz|hz
   ·exact cX _ (hnm z (yp hz))
   ·exact bN _ hz
  obtain⟨es,rfl,hT⟩:=hT0.tabs;have hQ7:rX H7 (.ref q6) Bs yi:=rX.ext (f:=fe) hQ6 (yQ.lN pU);have ac7:rX se (.ref q6) Bs yi:=rX.ext (f:=fe) hQ7 (λb xs e=>LA _ _ e);have ZW:rX BL (.ref q6) Bs yi:=rX.ext (f:=fe) ac7 (Ml.lN adg);have F1:∀{H H':Hp},rX H (.ref q6) Bs yi->bG H H'->rX H' (.ref q6) Bs yi:=λh s=>rX.ext (f:=fe) h λb xs e=>s _ _ e;refine⟨_,rfl,_,rfl,.ref q6,d,es,Bs,yi,rfl,ZW,Mm,KQ,l6,hT.r,λdl dzs Mz H12 Xq adE abf hdR drn dri=>?_⟩;have ZR:=hT.keep (Ext.of Xq);have Z1:=pf ac9 Xq;refine⟨_,rfl,fe,d,es,rfl,ZR,?_,λp fU BK wk oA ac6 hk=>?_⟩
  ·obtain⟨_,_,_,_,_,hf,_⟩:=Z1;exact⟨_,hf⟩
  have hTB:=ZR.keep (Ext.of wk);have ZV:=F1 (F1 ZW Xq) wk;have ac8:=pf Z1 wk;have okd:uT (fZ Mz):=E9 (K:=K) hT.r KQ dri;refine⟨2,rfl,by decide,by decide,mL (lo:=0) (n:=2) (λm Z Ql=>∃(y9 Ge:Option V),Z=[some (.ref a),some (.ref fe),some (.int (0+(i:Int))),some (.ref nl),some (.ref vl),some (.ref q6),some (.ref d),some (.ref dl),some (.ref p),y9,Ge]/\bG BK Ql) ⟨_,_,rfl,λ_ _ e=>e⟩ ?_ ?_⟩
  ·rintro m Z Ql hm ⟨y9,Ge,rfl,Bg⟩;have Mj:=ac6.keep (Ext.of Bg);refine⟨_,rfl,_,rfl,.ref q6,p,fU,Bs,yi,rfl,F1 ZV Bg,Mm,KQ,l6,Mj.r,λl zs rows H15 GI qu Io ZU rn ri gF=>?_⟩;have lrw:=QM (K:=K) Mj.r KQ rn ri;have Ko:uT (fZ rows):=E9 (K:=K) Mj.r KQ ri;have eq:fZ rows=fZ Mz:=U8 rn drn λr=>by
    rw[ri r,dri r];have e:uJ fU=uJ es:=funext λz=>by unfold uJ;rw[hk.cW]
    rw[e]
   refine⟨_,rfl,_,_,_,_,rfl,.lst Io,(by rfl:_=some true),_,rfl,qK ?_⟩;have LB:=Bg.trans GI;refine⟨_,rfl,_,rfl,qX (fZ rows),qX (fZ Mz),tY (bp.of Io) ZU,tY (bp.of (LB _ _ (wk _ _ abf))) (ip hdR (wk.trans LB)),vL Ko,vL okd,?_⟩;rw[IH,aU eq];refine⟨_,rfl,qK ?_⟩;have hA:=Mj.keep (Ext.of GI);have hB:=hTB.keep (Ext.of LB);refine⟨_,rfl,_,rfl,p,d,fU.map gw,es.map gw,rfl,rfl,hA.2.1,hB.2.1,Vd hk hA.2.2.2.2 hB.2.2.2.2,_,rfl,qK ?_⟩;have lz:zs.length<=1000000:=by rw[ZU.length,(jT rows).length_eq];exact lrw
   refine⟨_,rfl,l,rfl,⟨_,bp.of Io⟩,j6 (K:=K) (a:=l) (xs:=zs) (λj ys D4=>D4=H15/\ys=[]) (bZ lz (by decide)) ⟨rfl,rfl⟩ ?_ ?_ ?_⟩
   ·rintro j ys D4 hj ⟨rfl,rfl⟩;exact⟨bp.of Io,aO _⟩
   ·rintro j x ys D4 N hx ⟨rfl,rfl⟩ hN;obtain⟨b,xs,rfl,hb⟩:=gF x (aC hx);exact⟨_,rfl,_,_,_,_,rfl,.tup hb,(by rfl:_=some true),_,rfl,qK (hN _ _ ⟨rfl,rfl⟩)⟩
   rintro ys D4 ⟨rfl,rfl⟩ l2 km;have GH:=aL km (.lst ([]:List V));have Im:upd D4 l2 (.lst ([]:List V)) l2=some (.lst []):=au;generalize (upd D4 l2 (.lst ([]:List V)))=H17 at GH Im⊢;refine⟨by show 0<=sizeLine;decide,λe he=>?_⟩;have S7:=aL he (.lst ([]:List V));have ZD:upd H17 e (.lst ([]:List V)) e=some (.lst []):=au;have Zh:=S7 _ _ Im;have RO:=S7 _ _ (GH _ _ Io);generalize (upd H17 e (.lst ([]:List V)))=H18 at S7 ZD Zh RO⊢;refine⟨l2,e,[],rfl,rfl,bp.of Zh,bp.of ZD,_,rfl,qK ?_⟩;refine⟨_,rfl,.inl ⟨rfl,_,bp.of RO⟩,(by show 1<=sizeLine;decide),λtz htz=>?_⟩;have s19:=aL htz (.tup [V.str "zz"]);refine⟨l,zs,_,rfl,rfl,s19 _ _ RO,bZ lz (by decide),_,_,rfl,λb u e=>?_⟩;have e14:=Bg _ _ e;rw[aw (aW e14 qu)];exact s19 _ _ (S7 _ _ (GH _ _ (GI _ _ e14)))
  ·rintro Z Ql ⟨y9,Ge,rfl,Bg⟩;refine⟨_,rfl,λe0 Fy=>?_⟩;have GI:=aL Fy (.dK []);have ZF:upd Ql e0 (.dK []) e0=some (.dK (([]:List En).map gw)):=au;generalize (upd Ql e0 (.dK []))=H15 at GI ZF⊢;have aby:ik K H15 e0 []:=⟨ZF,.nil,λe he=>by cases he⟩;refine⟨.ref q6,e0,[],Bs,yi,rfl,F1 ZV (Bg.trans GI),Mm,KQ,l6,aby,λl zs rows D4 s16 qu acU ZT rn ri gF=>?_⟩;have er:rows=[]:=by
    cases ox:rows with
    |nil=>rfl
    |cons r0 rr=>
     obtain⟨g,hg,_⟩:=(ri r0).mp (by rw[ox];exact aA);cases ha:yi with
     |nil=>rw[ha]at l6a;cases l6a
     |cons b bs=>
      have:=(kR _ _).mp (hg.2 b (by rw[ha];exact aA));cases this
   rw[er]at ZT;have ez:zs=[]:=by have:=ZT.length;rw[(jT []).length_eq]at this;exact eK.mp this
   refine⟨by show 0<=sizeLine;decide,λe he=>?_⟩;have GH:=aL he (.lst ([]:List V));have ZE:upd D4 e (.lst ([]:List V)) e=some (.lst []):=au;have Im:=GH _ _ acU;generalize (upd D4 e (.lst ([]:List V)))=H17 at GH ZE Im⊢;refine⟨l,e,zs,rfl,rfl,bp.of Im,bp.of ZE,_,rfl,?_⟩;rw[ez];exact qK ⟨_,_,_,_,_,_,_,_,_,rfl,pf ac8 (Bg.trans (GI.trans (s16.trans GH)))⟩
 ·rintro Z H2 ⟨x2,x3,x4,x5,x6,x7,x8,x9,yB,rfl,rS⟩;exact k H2
end
end K06
namespace Hd
open PySem PySem.W PyProof.Rows PySem.W.Fast
abbrev pos0:Pos:=⟨0,0,0,0⟩
abbrev tb:=tw14364793385576792824
abbrev an0:Option Value:=some (.ref 6)
def env0(p:Program):Env:={scope:=p.main.scope,locals:=mainNs,globals:=mainNs,cells:=[],code:=.ref 13,frame:=some 14}
def cd0(p:Program):Code:=.body (behindTheImports p) (env0 p)
abbrev B0:List Frame:=[topFrame pos0]
def S0(w:World)(os:OsState):Shared:=⟨boot_heap w.params,Array.mk [],boot_drawn,boot_toks,os⟩
def mkT(l:List Obj):Nat->Nat->Nat->BT
 |0,_,_=>.nil
 |f+1,a,b=>match l[b]? with
  |some o=>.node o (mkT l f (2*a) (a+b)) (mkT l f (2*a) (2*a+b))
  |none=>.nil
def toT(s:Shared):SharedT:=⟨mkT s.heap.objs.toList 6 1 0,s.heap.objs.size,s.heap.life,s.gens,s.drawn,s.toks,s.os⟩
def pre(p:Program)(w:World)(os:OsState):SharedT:=match tw15667345088766844465 tb p w 11 an0 12 (S0 w os) (topStub p)with
 |some r=>toT r.1
 |none=>toT (S0 w os)
def body(p:Program)(n:Nat)(w:World)(os:OsState):Option (Flow×SharedT×Code×Pos):=
 tw10110043849684766642 tb p w 11 an0 1 n (pre p w os) (piecesOf (behindTheImports p) (env0 p) (cd0 p) pos0 B0)
def aft(p:Program)(n:Nat)(w:World)(os:OsState):SharedT:=match body p n w os with
 |some r=>r.2.1
 |none=>toT (S0 w os)
def posL(p:Program)(n:Nat)(w:World)(os:OsState):Pos:=match body p n w os with
 |some r=>r.2.2.2
 |none=>pos0
def fin(p:Program)(n:Nat)(w:World)(os:OsState):Shared:=match tw14082659384304107361 tb p w 11 an0 2 (aft p n w os).abs ⟨doneF .next,cd0 p,posL p n w os,B0⟩with
 |some s=>s
 |none=>S0 w os
structure Ok(p:Program)(n:Nat):Prop where
 pre:∀w os,tw15667345088766844465 tb p w 11 an0 12 (S0 w os) (topStub p)=some ((Hd.pre p w os).abs,⟨tw11892475500146522536 tb (cd0 p),cd0 p,pos0,B0⟩)
 block:∀w os,tw14374325043358763698 tb p w 11 an0 1 1 (Hd.pre p w os).abs (blockOf (behindTheImports p) (env0 p) (cd0 p) pos0 B0)=some (.next,(Hd.pre p w os).abs,cd0 p,pos0)
 body:∀w os,Hd.body p n w os=some (.next,aft p n w os,cd0 p,posL p n w os)
 fin:∀w os,tw14082659384304107361 tb p w 11 an0 2 (aft p n w os).abs ⟨doneF .next,cd0 p,posL p n w os,B0⟩=some (Hd.fin p n w os)
def run(o:Ok p n)(w:World)(os:OsState):topRun treeTable p w 11 an0 (12+(1+(n+2))) (S0 w os) (topStub p)=some (fin p n w os):=by have h1:=o.pre w os;have h2:=o.block w os;have h3:=o.body w os;have h4:=o.fin w os;unfold Hd.body at h3;unfold tb at h1 h2 h3 h4;rw[<-te15667345088766844465,<-te14364793385576792824,<-te11892475500146522536]at h1;rw[<-te14374325043358763698,<-te14364793385576792824]at h2;rw[<-te10110043849684766642,<-te14364793385576792824]at h3;rw[<-te14082659384304107361,<-te14364793385576792824]at h4;have k:topRun treeTable p w 11 an0 (n+2) (Hd.pre p w os).abs (restOf (behindTheImports p++[]) (env0 p) (cd0 p) pos0 B0)=some (fin p n w os):=piece_app (segRun_of h3) (piece_nil h4);rw[cj]at k;exact go_top h1 (piece_block h2 k)
def left(o:Ok p n)(hN:Nat.ble (12+(1+(n+2))) N=true)(he:opening p=plainProg p.main.scope.names)(h6:Nat.ble 600 N=true)(hf:∀s,fenceModules? p s=some s)
  (l1:∀w os,(staticsOk (importedModules p.main.body) (boot_heap w.params) (fin p n w os).heap&&namesBound p (fin p n w os).heap&&gensDone (fin p n w os)&&laidKept (boot_heap w.params) (fin p n w os).heap)=true)
  (l2:∀w os,openSeen q loose (importedModules p.main.body) Xt g0 (fin p n w os)=openGood q loose) (l3:∀w os,Yf (fin p n w os)=Ya w):LeftO p q loose Xt Yf Ya N g0:=λw=>by
 obtain⟨s,e,e'⟩:=bo.mp (boot_open he h6 hf w);obtain⟨os,rfl⟩:∃os,s=S0 w os:=by obtain⟨h,g,d,t,os⟩:=s;simp only[Prod.mk.injEq]at e';obtain⟨rfl,rfl,rfl,rfl⟩:=e';exact⟨os,rfl⟩
 have r:=topRun_mono (N -(12+(1+(n+2)))) _ _ _ _ (run o w os);rw[show 12+(1+(n+2))+(N -(12+(1+(n+2))))=N by have:=Nat.le_of_ble_eq_true hN;lia]at r;have z1:((S0 w os).heap.isNs mainGlobals&&(S0 w os).gens.size==0)=true:=by kernel_rfl
 have z2:(S0 w os).heap.objs.size=11:=by kernel_rfl
 have z3:(S0 w os).heap.nsMap mainGlobals "__annotations__"=an0:=by kernel_rfl
 have t:topFrom treeTable p w N (S0 w os)=some (fin p n w os):=by unfold topFrom;rw[z1,z2,z3,r];have q:=l1 w os;show(match _ with|true=>_|false=>_)=_;rw[show(staticsOk (importedModules p.main.body) (S0 w os).heap (fin p n w os).heap&&namesBound p (fin p n w os).heap&&gensDone (fin p n w os)&&laidKept (S0 w os).heap (fin p n w os).heap)=true from q]
 unfold openEnds;rw[e];show(topFrom treeTable p w N _).map _=_;rw[t];exact cA some (Prod.ext (l2 w os) (l3 w os))
end Hd
namespace K06
open PySem PySem.Spec PyProof.Rows L2
abbrev tO(vs:List Value):Obj:=⟨.type "tuple",none,.seq vs.toArray 0,#[]⟩
abbrev cO(vs:List Value):Obj:=⟨.type "code",none,.fields vs.toArray,#[]⟩
abbrev kO(P:Params)(x:Str)(t:Tok)(v:Value):DictEntry:=⟨PyData.keyHash P x,.str x t,v⟩
abbrev fO(s:Stmt)(n q:Str)(pm cd:Value):Obj:=⟨.type "function",none,.func (fnOf n q (defArgs s) (defBody s) (defScope s) .none .none .none pm none cd .none),#[]⟩
abbrev cF(x q:Str)(a b c:Tok)(l n:Int)(r r1:Addr)(v1 v2:Value)(r2:Addr)(i:Int)(d:Tok):Obj:=cO [.str x a,.str q b,.str "/claim/cut.py" c,.int l 0,.int n 0,.int 0 0,.int 0 0,.int 3 0,.ref r,.bool true,.int 181 0,.ref r1,.none,v1,v2,.ref r2,.int i 0,.int l 0,.str "/claim/cut.py" d]
abbrev cG(x:Str)(a b c:Tok)(l n:Int)(r r1:Addr)(v1 v2:Value)(r2:Addr)(i:Int)(d:Tok):Obj:=cF x x a b c l n r r1 v1 v2 r2 i d
abbrev fF(s:Stmt)(x:Str)(m:Value)(r:Addr):Obj:=fO s x x m (.ref r)
abbrev mO0:Value:=Value.str "askviews.terms" 187
abbrev mO1:Value:=Value.str "askviews.questions" 206
abbrev mO2:Value:=Value.str "askviews.tables" 218
abbrev mO3:Value:=Value.str "askviews.answers" 228
abbrev mO4:Value:=Value.str "law_askviews_k06_answers" 360
noncomputable def KF(P:Params):Frag:=
 (nat_lit 2,⟨.none,none,.dict #[] 0,#[]⟩)::
 (nat_lit 3,⟨(.type "dict"),none,.dict #[kO P "__name__" 165 (.str "law_askviews_k06_answers" 360),kO P "__doc__" 166 .none,kO P "__package__" 167 .none,kO P "__loader__" 168 (.builtin "__main__.__loader__#opaque"),kO P "__spec__" 169 .none,kO P "__annotations__" 170 (.ref 6),kO P "__builtins__" 171 (.ref 4),kO P "__file__" 173 (.str "/claim/cut.py" 172),kO P "__cached__" 174 .none,kO P "SIGNS" 190 (.str "abcdefghijklmnopqrstuvwxyz0123456789" 189),kO P "MOST_SIGNS" 192 (.int 8 191),kO P "is_value" 198 (.ref 19),kO P "is_unknown" 205 (.ref 26),kO P "unknowns_of" 217 (.ref 33),kO P "rows_of" 227 (.ref 40),kO P "answers" 237 (.ref 47),kO P "counts_of" 250 (.ref 54),kO P "needed_terms" 261 (.ref 61),kO P "Asking" 317 (.ref 98),kO P "narrowed" 331 (.ref 109),kO P "places_of" 341 (.ref 116),kO P "image" 347 (.ref 121),kO P "is_image" 353 (.ref 126),kO P "tails_by_key" 359 (.ref 131),kO P "_law_feed" 368 (.ref 138),kO P "_law_draw" 380 (.ref 145),kO P "_law_pool" 386 (.ref 150),kO P "_law_names" 393 (.ref 157),kO P "_law_values" 400 (.ref 164),kO P "_law_length" 408 (.ref 171),kO P "_law_question" 426 (.ref 178),kO P "_law_tables" 432 (.ref 183),kO P "_law_ways" 438 (.ref 188),kO P "_law_longer" 451 (.ref 195),kO P "_law_fits" 457 (.ref 200),kO P "_law_due" 463 (.ref 205),kO P "_law_copy" 469 (.ref 210),kO P "law" 475 (.ref 215)] 38,#[]⟩)::
 (nat_lit 15,tO [])::
 (nat_lit 18,cG "is_value" 193 194 195 4 1 15 16 .none .none 17 196 197)::
 (nat_lit 19,fF (top 3) "is_value" mO0 18)::
 (nat_lit 20,tO [])::
 (nat_lit 22,tO [(.str "thing" 202)])::
 (nat_lit 23,tO [])::
 (nat_lit 25,cG "is_unknown" 199 200 201 8 1 20 21 (.ref 22) (.ref 23) 24 203 204)::
 (nat_lit 26,fF (top 4) "is_unknown" mO0 25)::
 (nat_lit 27,tO [])::
 (nat_lit 29,tO [(.str "question" 211),(.str "found" 212),(.str "atom" 213),(.str "term" 214)])::
 (nat_lit 30,tO [])::
 (nat_lit 32,cG "unknowns_of" 208 209 210 11 1 27 28 (.ref 29) (.ref 30) 31 215 216)::
 (nat_lit 33,fF (top 6) "unknowns_of" mO1 32)::
 (nat_lit 34,tO [])::
 (nat_lit 36,tO [(.str "tables" 223),(.str "name" 224)])::
 (nat_lit 37,tO [])::
 (nat_lit 39,cG "rows_of" 220 221 222 19 2 34 35 (.ref 36) (.ref 37) 38 225 226)::
 (nat_lit 40,fF (top 8) "rows_of" mO2 39)::
 (nat_lit 41,tO [])::
 (nat_lit 43,tO [(.str "question" 233),(.str "tables" 234)])::
 (nat_lit 44,tO [])::
 (nat_lit 46,cG "answers" 230 231 232 22 2 41 42 (.ref 43) (.ref 44) 45 235 236)::
 (nat_lit 47,fF (top 10) "answers" mO3 46)::
 (nat_lit 48,tO [])::
 (nat_lit 50,tO [(.str "question" 241),(.str "tables" 242),(.str "head" 243),(.str "atoms" 244),(.str "asking" 245),(.str "left" 246),(.str "atom" 247)])::
 (nat_lit 51,tO [])::
 (nat_lit 53,cG "counts_of" 238 239 240 24 2 48 49 (.ref 50) (.ref 51) 52 248 249)::
 (nat_lit 54,fF (top 11) "counts_of" mO3 53)::
 (nat_lit 55,tO [])::
 (nat_lit 57,tO [(.str "head" 254),(.str "atoms" 255),(.str "needed" 256),(.str "name" 257),(.str "terms" 258)])::
 (nat_lit 58,tO [])::
 (nat_lit 60,cG "needed_terms" 251 252 253 32 2 55 56 (.ref 57) (.ref 58) 59 259 260)::
 (nat_lit 61,fF (top 12) "needed_terms" mO3 60)::
 (nat_lit 69,tO [])::
 (nat_lit 71,tO [(.str "self" 277),(.str "tables" 278)])::
 (nat_lit 72,tO [])::
 (nat_lit 74,cF "__init__" "Asking.__init__" 274 275 276 39 2 69 70 (.ref 71) (.ref 72) 73 279 280)::
 (nat_lit 75,fO (inClass (top 13) 0) "__init__" "Asking.__init__" mO3 (.ref 74))::
 (nat_lit 76,tO [])::
 (nat_lit 79,cF "best_place" "Asking.best_place" 282 283 284 45 2 76 77 .none .none 78 285 286)::
 (nat_lit 80,fO (inClass (top 13) 1) "best_place" "Asking.best_place" mO3 (.ref 79))::
 (nat_lit 81,tO [])::
 (nat_lit 84,cF "take" "Asking.take" 288 289 290 55 3 81 82 .none .none 83 291 292)::
 (nat_lit 85,fO (inClass (top 13) 2) "take" "Asking.take" mO3 (.ref 84))::
 (nat_lit 86,tO [])::
 (nat_lit 89,cF "fresh_unknowns" "Asking.fresh_unknowns" 294 295 296 64 2 86 87 .none .none 88 297 298)::
 (nat_lit 90,fO (inClass (top 13) 3) "fresh_unknowns" "Asking.fresh_unknowns" mO3 (.ref 89))::
 (nat_lit 91,tO [])::
 (nat_lit 94,cF "tails_of_maps" "Asking.tails_of_maps" 300 301 302 67 2 91 92 .none .none 93 303 304)::
 (nat_lit 95,fO (inClass (top 13) 4) "tails_of_maps" "Asking.tails_of_maps" mO3 (.ref 94))::
 (nat_lit 96,tO [(.str "kept" 306),(.str "maps" 307),(.str "tables" 308),(.str "tails" 309)])::
 (nat_lit 97,⟨(.type "dict"),none,.dict #[kO P "__module__" 269 (.str "askviews.answers" 228),kO P "__firstlineno__" 273 (.int 37 272),kO P "__init__" 281 (.ref 75),kO P "best_place" 287 (.ref 80),kO P "take" 293 (.ref 85),kO P "fresh_unknowns" 299 (.ref 90),kO P "tails_of_maps" 305 (.ref 95),kO P "__static_attributes__" 310 (.ref 96),kO P "__dict__" 312 (.ref 99),kO P "__weakref__" 314 (.ref 100),kO P "__doc__" 315 .none] 4,#[]⟩)::
 (nat_lit 98,⟨(.type "type"),none,.cls ⟨"Asking",[(.type "object")],[(.ref 98),(.type "object")],97,"Asking",true,[],[],false,none,false⟩,#[none,none,some (.str "Asking" 262),some (.str "Asking" 270),some (.builtin "object.__new__"),some (.bool true)]⟩)::
 (nat_lit 99,⟨(.type "getset_descriptor"),none,.fields #[(.str "__dict__" 311),(.ref 98),(.builtin "function.__dict__"),(.builtin "function.__dict__#set")],#[]⟩)::
 (nat_lit 100,⟨(.type "getset_descriptor"),none,.fields #[(.str "__weakref__" 313),(.ref 98),(.builtin "ExceptionGroup.__weakref__"),.none],#[]⟩)::
 (nat_lit 103,tO [])::
 (nat_lit 105,tO [(.str "counted_maps" 321),(.str "unknowns" 322),(.str "terms" 323),(.str "places" 324),(.str "counts" 325),(.str "given" 326),(.str "count" 327),(.str "row" 328)])::
 (nat_lit 106,tO [])::
 (nat_lit 108,cG "narrowed" 318 319 320 76 3 103 104 (.ref 105) (.ref 106) 107 329 330)::
 (nat_lit 109,fF (top 14) "narrowed" mO3 108)::
 (nat_lit 110,tO [])::
 (nat_lit 112,tO [(.str "unknowns" 335),(.str "places" 336),(.str "place" 337),(.str "unknown" 338)])::
 (nat_lit 113,tO [])::
 (nat_lit 115,cG "places_of" 332 333 334 83 1 110 111 (.ref 112) (.ref 113) 114 339 340)::
 (nat_lit 116,fF (top 15) "places_of" mO3 115)::
 (nat_lit 117,tO [])::
 (nat_lit 120,cG "image" 342 343 344 88 3 117 118 .none .none 119 345 346)::
 (nat_lit 121,fF (top 16) "image" mO3 120)::
 (nat_lit 122,tO [])::
 (nat_lit 125,cG "is_image" 348 349 350 90 2 122 123 .none .none 124 351 352)::
 (nat_lit 126,fF (top 17) "is_image" mO3 125)::
 (nat_lit 127,tO [])::
 (nat_lit 130,cG "tails_by_key" 354 355 356 94 4 127 128 .none .none 129 357 358)::
 (nat_lit 131,fF (top 18) "tails_by_key" mO3 130)::
 (nat_lit 132,tO [])::
 (nat_lit 134,tO [(.str "_law_script" 365)])::
 (nat_lit 135,tO [])::
 (nat_lit 137,cG "_law_feed" 362 363 364 102 1 132 133 (.ref 134) (.ref 135) 136 366 367)::
 (nat_lit 138,fF (top 20) "_law_feed" mO4 137)::
 (nat_lit 139,tO [])::
 (nat_lit 141,tO [(.str "_law_feed_here" 372),(.str "_law_many" 373),(.str "_law_script" 374),(.str "_law_figure" 375),(.str "_law_cell" 376),(.str "_law_mixed" 377)])::
 (nat_lit 142,tO [])::
 (nat_lit 144,cG "_law_draw" 369 370 371 104 2 139 140 (.ref 141) (.ref 142) 143 378 379)::
 (nat_lit 145,fF (top 21) "_law_draw" mO4 144)::
 (nat_lit 146,tO [])::
 (nat_lit 149,cG "_law_pool" 381 382 383 120 3 146 147 .none .none 148 384 385)::
 (nat_lit 150,fF (top 22) "_law_pool" mO4 149)::
 (nat_lit 151,tO [])::
 (nat_lit 153,tO [(.str "_law_feed_here" 390)])::
 (nat_lit 154,tO [])::
 (nat_lit 156,cG "_law_names" 387 388 389 123 1 151 152 (.ref 153) (.ref 154) 155 391 392)::
 (nat_lit 157,fF (top 23) "_law_names" mO4 156)::
 (nat_lit 158,tO [])::
 (nat_lit 160,tO [(.str "_law_feed_here" 397)])::
 (nat_lit 161,tO [])::
 (nat_lit 163,cG "_law_values" 394 395 396 125 1 158 159 (.ref 160) (.ref 161) 162 398 399)::
 (nat_lit 164,fF (top 24) "_law_values" mO4 163)::
 (nat_lit 165,tO [])::
 (nat_lit 167,tO [(.str "_law_feed_here" 404),(.str "_law_name" 405)])::
 (nat_lit 168,tO [])::
 (nat_lit 170,cG "_law_length" 401 402 403 127 2 165 166 (.ref 167) (.ref 168) 169 406 407)::
 (nat_lit 171,fF (top 25) "_law_length" mO4 170)::
 (nat_lit 172,tO [])::
 (nat_lit 174,tO [(.str "_law_feed_here" 412),(.str "_law_names_here" 413),(.str "_law_values_here" 414),(.str "_law_most" 415),(.str "_law_unknowns" 416),(.str "_law_atoms" 417),(.str "_law_k" 418),(.str "_law_name" 419),(.str "_law_terms" 420),(.str "_law_j" 421),(.str "_law_some" 422),(.str "_law_head" 423)])::
 (nat_lit 175,tO [])::
 (nat_lit 177,cG "_law_question" 409 410 411 131 4 172 173 (.ref 174) (.ref 175) 176 424 425)::
 (nat_lit 178,fF (top 26) "_law_question" mO4 177)::
 (nat_lit 179,tO [])::
 (nat_lit 182,cG "_law_tables" 427 428 429 148 3 179 180 .none .none 181 430 431)::
 (nat_lit 183,fF (top 27) "_law_tables" mO4 182)::
 (nat_lit 184,tO [])::
 (nat_lit 187,cG "_law_ways" 433 434 435 159 2 184 185 .none .none 186 436 437)::
 (nat_lit 188,fF (top 28) "_law_ways" mO4 187)::
 (nat_lit 189,tO [])::
 (nat_lit 191,tO [(.str "_law_ways_here" 442),(.str "_law_unknown" 443),(.str "_law_values_here" 444),(.str "_law_found" 445),(.str "_law_way" 446),(.str "_law_value" 447),(.str "_law_longer_here" 448)])::
 (nat_lit 192,tO [])::
 (nat_lit 194,cG "_law_longer" 439 440 441 176 3 189 190 (.ref 191) (.ref 192) 193 449 450)::
 (nat_lit 195,fF (top 29) "_law_longer" mO4 194)::
 (nat_lit 196,tO [])::
 (nat_lit 199,cG "_law_fits" 452 453 454 184 4 196 197 .none .none 198 455 456)::
 (nat_lit 200,fF (top 30) "_law_fits" mO4 199)::
 (nat_lit 201,tO [])::
 (nat_lit 204,cG "_law_due" 458 459 460 190 2 201 202 .none .none 203 461 462)::
 (nat_lit 205,fF (top 31) "_law_due" mO4 204)::
 (nat_lit 206,tO [])::
 (nat_lit 209,cG "_law_copy" 464 465 466 197 1 206 207 .none .none 208 467 468)::
 (nat_lit 210,fF (top 32) "_law_copy" mO4 209)::
 (nat_lit 211,tO [])::
 (nat_lit 214,cG "law" 470 471 472 199 1 211 212 .none .none 213 473 474)::
 (nat_lit 215,fF (top 33) "law" mO4 214)::[]
noncomputable def asF:List Addr:=[2,3,15,18,19,20,22,23,25,26,27,29,30,32,33,34,36,37,39,40,41,43,44,46,47,48,50,51,53,54,55,57,58,60,61,69,71,72,74,75,76,79,80,81,84,85,86,89,90,91,94,95,96,97,98,99,100,103,105,106,108,109,110,112,113,115,116,117,120,121,122,125,126,127,130,131,132,134,135,137,138,139,141,142,144,145,146,149,150,151,153,154,156,157,158,160,161,163,164,165,167,168,170,171,172,174,175,177,178,179,182,183,184,187,188,189,191,192,194,195,196,199,200,201,204,205,206,209,210,211,214,215]
def HF:PySem.W.Hook:=PySem.W.kHook KF asF λ_=>by kernel_rfl
noncomputable def qf(p:Program):Program:={p with main:={p.main with body:=[1,2,3,4,6,8,10,11,12,13,14,15,16,17,18,20,21,22,23,24,25,26,27,28,29,30,31,32,33].filterMap λi=>p.main.body[i]?}}
abbrev XF(p:Program)(s:Shared):Bool:=PySem.W.xlAt (qf p) [] s&&PySem.W.recOk [] s
abbrev LF(p:Program):Prop:=PySem.W.LeftO p (qf p) [] (XF p) (PySem.W.Hook.obs HF) (PySem.W.Hook.val HF) 2464
abbrev pL:Program:=PySem.Challenge.pw_askviews_k06_answers
def okL:Hd.Ok pL 1170:=⟨λw os=>by kernel_rfl,λw os=>by kernel_rfl,λw os=>by kernel_rfl,λw os=>by kernel_rfl⟩
def l1L(w:World)(os:OsState):(PySem.W.staticsOk (importedModules pL.main.body) (PySem.W.boot_heap w.params) (Hd.fin pL 1170 w os).heap&&PySem.W.namesBound pL (Hd.fin pL 1170 w os).heap&&PySem.W.gensDone (Hd.fin pL 1170 w os)&&PySem.W.laidKept (PySem.W.boot_heap w.params) (Hd.fin pL 1170 w os).heap)=true:=by kernel_rfl
def l2L(w:World)(os:OsState):PySem.W.Fast.tw4187177175401517315 (qf pL) [] (importedModules pL.main.body) (XF pL) true (Hd.fin pL 1170 w os)=PySem.W.openGood (qf pL) []:=by kernel_rfl
def l3L(w:World)(os:OsState):asF.map (Hd.fin pL 1170 w os).heap.get?=(KF w.params).map λp=>some p.2:=by kernel_rfl
def headL:LF pL:=Hd.left (n:=1170) okL (by kernel_rfl) (by kernel_rfl) (by kernel_rfl) (λs=>by kernel_rfl) l1L (λw os=>by rw[PySem.W.Fast.te4187177175401517315];exact l2L w os) l3L
def head:LF PySem.Challenge.pw_askviews_k06_answers:=headL
def Xm{K:Frag}(hO:MT H)(h:bp K H a xs):uP K H a xs:=by
 rcases h with(h|h)|h
 ·rcases hO a with e|⟨o,ys,e⟩
  ·rw[e]at h;cases h
  ·rw[e]at h;cases h
 ·exact .inl h
 ·exact .inr h
def FN(K:Frag)(x:Str)(st:Stmt):Prop:=∃f fd,nsIn K mainGlobals x=some (some (.ref f))/\eZ K x x st f fd
def abk{K:Frag}{x:Str}{st:Stmt}{f:Addr}{oc:Value}{od an:Option Addr}{yF:Array (Option Value)}{kV doc pm c6 ct:Value}(a:nsIn K mainGlobals x=some (some (.ref f)))(l:K.lookup f=some ⟨oc,od,.func (fnOf x x (defArgs st) (defBody st) (defScope st) .none kV doc pm an c6 ct),yF⟩)(c:codeIn K c6 x=true)(k:keepIn K (.ref f)=true):FN K x st:=⟨f,_,a,Pz l c k⟩
section
variable{K:Frag}{h base:Heap}{x q p p2 r s:Str}{st:Stmt}{mg:Str->Option Value}{f C:Addr}{fd:FuncData}{P:Program}{w:World}{k:Nat}{sp:Sp}{ps:List Str}
def MB(b:FN K x st)(hb:∀f fd,eZ K x x st f fd->Binds K fd ps [])(X:K.In h)(G:h.Ns mainGlobals mg)(ok:∀f fd,eZ K x x st f fd->cY P w K mg base fH k f fd ps sp):dW P w K mg base k x ps sp:=
 have⟨f,fd,a,F⟩:=b
 ⟨f,fd,ok f fd F,oO X G a,F.kp,hb f fd F⟩
abbrev Bd1(x q:Str)(st:Stmt)(p:Str):Prop:=(λ(a kV doc pm c6 ct:Value)(an:Option Addr)=>bindArgs (fnOf x q (defArgs st) (defBody st) (defScope st) .none kV doc pm an c6 ct) ⟨[a],[]⟩)=λa _ _ _ _ _ _=>pure [(p,a)]
def bd1(F:eZ K x q st f fd)(h:Bd1 x q st p):Binds K fd [p] []:=F.binds λk1 k2 k3 k4 k5 k6 us hl=>by rcases us with _|⟨a,_|⟨e,us⟩⟩<;>first|exact b8 (b8 (b8 (b8 (b8 (b8 (b8 h a) k1) k2) k3) k5) k6) k4|cases hl
def d1(P:Program)(w:World)(base:Heap)(X:K.In h)(G:h.Ns mainGlobals mg)(b:FN K x st)(ok:∀f fd,eZ K x x st f fd->cY P w K mg base fH k f fd [p] sp)(h:Bd1 x x st p:=by rfl):dW P w K mg base k x [p] sp:=MB b (λ_ _ F=>bd1 F h) X G ok
abbrev Bd2(x q:Str)(st:Stmt)(p p2:Str):Prop:=(λ(a b kV doc pm c6 ct:Value)(an:Option Addr)=>bindArgs (fnOf x q (defArgs st) (defBody st) (defScope st) .none kV doc pm an c6 ct) ⟨[a,b],[]⟩)=λa b _ _ _ _ _ _=>pure [(p,a),(p2,b)]
def bd2(F:eZ K x q st f fd)(h:Bd2 x q st p p2):Binds K fd [p,p2] []:=F.binds λk1 k2 k3 k4 k5 k6 us hl=>by rcases us with _|⟨a,_|⟨b,_|⟨e,us⟩⟩⟩<;>first|exact b8 (b8 (b8 (b8 (b8 (b8 (b8 (b8 h a) b) k1) k2) k3) k5) k6) k4|cases hl
def d2(P:Program)(w:World)(base:Heap)(X:K.In h)(G:h.Ns mainGlobals mg)(b:FN K x st)(ok:∀f fd,eZ K x x st f fd->cY P w K mg base fH k f fd [p,p2] sp)(h:Bd2 x x st p p2:=by rfl):dW P w K mg base k x [p,p2] sp:=MB b (λ_ _ F=>bd2 F h) X G ok
abbrev Bd3(x q:Str)(st:Stmt)(p p2 r:Str):Prop:=(λ(a b c kV doc pm c6 ct:Value)(an:Option Addr)=>bindArgs (fnOf x q (defArgs st) (defBody st) (defScope st) .none kV doc pm an c6 ct) ⟨[a,b,c],[]⟩)=λa b c _ _ _ _ _ _=>pure [(p,a),(p2,b),(r,c)]
def bd3(F:eZ K x q st f fd)(h:Bd3 x q st p p2 r):Binds K fd [p,p2,r] []:=F.binds λk1 k2 k3 k4 k5 k6 us hl=>by rcases us with _|⟨a,_|⟨b,_|⟨c,_|⟨e,us⟩⟩⟩⟩<;>first|exact b8 (b8 (b8 (b8 (b8 (b8 (b8 (b8 (b8 h a) b) c) k1) k2) k3) k5) k6) k4|cases hl
def d3(P:Program)(w:World)(base:Heap)(X:K.In h)(G:h.Ns mainGlobals mg)(b:FN K x st)(ok:∀f fd,eZ K x x st f fd->cY P w K mg base fH k f fd [p,p2,r] sp)(h:Bd3 x x st p p2 r:=by rfl):dW P w K mg base k x [p,p2,r] sp:=MB b (λ_ _ F=>bd3 F h) X G ok
abbrev Bd4(x q:Str)(st:Stmt)(p p2 r s:Str):Prop:=(λ(a b c d kV doc pm c6 ct:Value)(an:Option Addr)=>bindArgs (fnOf x q (defArgs st) (defBody st) (defScope st) .none kV doc pm an c6 ct) ⟨[a,b,c,d],[]⟩)=λa b c d _ _ _ _ _ _=>pure [(p,a),(p2,b),(r,c),(s,d)]
def bd4(F:eZ K x q st f fd)(h:Bd4 x q st p p2 r s):Binds K fd [p,p2,r,s] []:=F.binds λk1 k2 k3 k4 k5 k6 us hl=>by rcases us with _|⟨a,_|⟨b,_|⟨c,_|⟨d,_|⟨e,us⟩⟩⟩⟩⟩<;>first|exact b8 (b8 (b8 (b8 (b8 (b8 (b8 (b8 (b8 (b8 h a) b) c) d) k1) k2) k3) k5) k6) k4|cases hl
def d4(P:Program)(w:World)(base:Heap)(X:K.In h)(G:h.Ns mainGlobals mg)(b:FN K x st)(ok:∀f fd,eZ K x x st f fd->cY P w K mg base fH k f fd [p,p2,r,s] sp)(h:Bd4 x x st p p2 r s:=by rfl):dW P w K mg base k x [p,p2,r,s] sp:=MB b (λ_ _ F=>bd4 F h) X G ok
def MN(K:Frag)(C:Addr)(x q:Str)(st:Stmt):Prop:=∃f fd,findIn K (.ref C) x=some (some (.ref f))/\isFn K (.ref f)=true/\eZ K x q st f fd
def aa0{K:Frag}{x q:Str}{st:Stmt}{f C:Addr}{oc:Value}{od an:Option Addr}{yF:Array (Option Value)}{kV doc pm c6 ct:Value}(a:findIn K (.ref C) x=some (some (.ref f)))(i:isFn K (.ref f)=true)(l:K.lookup f=some ⟨oc,od,.func (fnOf x q (defArgs st) (defBody st) (defScope st) .none kV doc pm an c6 ct),yF⟩)(c:codeIn K c6 q=true)(k:keepIn K (.ref f)=true):MN K C x q st:=⟨f,_,a,i,Pz l c k⟩
def m2(P:Program)(w:World)(base:Heap)(mg:Str->Option Value)(b:MN K C x q st)(ok:∀f fd,eZ K x q st f fd->cY P w K mg base fH k f fd [p,p2] sp)(h:Bd2 x q st p p2:=by rfl):qe P w K mg base C k x [p,p2] sp:=
 have⟨f,fd,a,i,F⟩:=b
 ⟨f,fd,ok f fd F,⟨a,i,F.kp⟩,bd2 F h⟩
def m3(P:Program)(w:World)(base:Heap)(mg:Str->Option Value)(b:MN K C x q st)(ok:∀f fd,eZ K x q st f fd->cY P w K mg base fH k f fd [p,p2,r] sp)(h:Bd3 x q st p p2 r:=by rfl):qe P w K mg base C k x [p,p2,r] sp:=
 have⟨f,fd,a,i,F⟩:=b
 ⟨f,fd,ok f fd F,⟨a,i,F.kp⟩,bd3 F h⟩
end
def all_mk{l:PySem.W.OpenLaw}{w:World}{K:Frag}{h:Heap}{mg:Str->Option Value}{fa C0:Addr}{t0 t1:Tok}(X:K.In h)(G:h.Ns mainGlobals mg)(hfa:mg "law"=some (.ref fa))
  (yg:FN K "is_value" xB)
  (uN:FN K "is_unknown" uh)
  (sC:FN K "unknowns_of" sj)
  (Ad:FN K "rows_of" zk)
  (Af:FN K "answers" zm)
  (vT:FN K "counts_of" vO)
  (qQ:FN K "needed_terms" qE)
  (ya:FN K "narrowed" xv)
  (vS:FN K "places_of" vN)
  (EI:FN K "image" Ed)
  (yh:FN K "is_image" xC)
  (qP:FN K "tails_by_key" qD)
  (CA:FN K "_law_feed" BU)
  (CB:FN K "_law_draw" BV)
  (Cy:FN K "_law_pool" BR)
  (Ae:FN K "_law_names" zl)
  (yb:FN K "_law_values" xw)
  (yf:FN K "_law_length" xA)
  (uM:FN K "_law_question" ug)
  (yc:FN K "_law_tables" xx)
  (Cw:FN K "_law_ways" BQ)
  (yd:FN K "_law_longer" xy)
  (Cz:FN K "_law_fits" BS)
  (EH:FN K "_law_due" Ec)
  (CC:FN K "_law_copy" BW)
  (MQ:FN K "law" Lz)
  (cA0:nsIn K mainGlobals "Asking"=some (some (.ref C0)))
  (Se:plainGet K C0 Str.empty=true)
  (Sj:hasDictIn K C0=true)
  (Sd:PySem.W.plainOver K C0=true)
  (Sb:findIn K (.ref C0) "__setattr__"=some (some (.builtin "object.__setattr__")))
  (Sg:PySem.W.makesIn K C0=true)
  (Sh:keepIn K (.ref C0)=true)
  (Aa:findIn K (.ref C0) "tables"=some none)
  (ED:findIn K (.ref C0) "kept"=some none)
  (EC:findIn K (.ref C0) "maps"=some none)
  (Cr:findIn K (.ref C0) "tails"=some none)
  (uL:MN K C0 "__init__" "Asking.__init__" uf)
  (qR:MN K C0 "best_place" "Asking.best_place" qF)
  (Cv:MN K C0 "take" "Asking.take" BP)
  (mP:MN K C0 "fresh_unknowns" "Asking.fresh_unknowns" mD)
  (nW:MN K C0 "tails_of_maps" "Asking.tails_of_maps" nU)
  (z0:nsIn K mainGlobals "len"=some none)
  (z1:nsIn K mainGlobals "abs"=some none)
  (z2:nsIn K mainGlobals "range"=some none)
  (z3:nsIn K mainGlobals "tuple"=some none)
  (z4:nsIn K mainGlobals "list"=some none)
  (z5:nsIn K mainGlobals "isinstance"=some none)
  (z6:nsIn K mainGlobals "all"=some none)
  (z7:nsIn K mainGlobals "str"=some none)
  (z8:nsIn K mainGlobals "sum"=some none)
  (z9:nsIn K mainGlobals "dict"=some none)
  (WM:nsIn K mainGlobals "sorted"=some none)
  (WL:nsIn K mainGlobals "set"=some none)
  (WK:nsIn K mainGlobals "enumerate"=some none)
  (WJ:nsIn K mainGlobals "zip"=some none)
  (Ye:nsIn K mainGlobals "SIGNS"=some (some (.str "abcdefghijklmnopqrstuvwxyz0123456789" t0)))
  (Yd:nsIn K mainGlobals "MOST_SIGNS"=some (some (.int 8 t1)))
  :∃fd:FuncData,(∀(s:Shared)(v:Value),BindsTo s fd ⟨[v],[]⟩ [("_law_script",v)])/\∀base:Heap,K.In base->base.Ns mainGlobals mg->cY l.prog w K mg base fH 9 fa fd ["_law_script"] (FZ K):=by
 obtain⟨f,fd,a,F⟩:=MQ;have e:=hfa.symm.trans (oO X G a);cases e;have T:Txt K mg:=⟨cB X G z0,cB X G z1,cB X G z2,cB X G z3,cB X G z4,cB X G z5,cB X G z6,cB X G z7,cB X G z8,cB X G z9,cB X G WM,cB X G WL,cB X G WK,cB X G WJ,⟨_,oO X G Ye⟩,⟨_,oO X G Yd⟩⟩;refine⟨fd,?_,λbase _ _=>?_⟩
 ·obtain⟨_,_,_,_,_,_,_,_,_,rfl,_,_⟩:=F.ex
  exactλs v=>.of_eq rfl
 have DL:=d1 l.prog w base X G yg λ_ _ F=>Jm F T;have IL:=d1 l.prog w base X G uN λ_ _ F=>FU F T ⟨DL⟩;have FW:=d1 l.prog w base X G sC λ_ _ F=>El F T ⟨⟨DL⟩,IL⟩;have PV:=d2 l.prog w base X G Ad λ_ _ F=>LM F T;have BE:=d1 l.prog w base X G vS λ_ _ F=>Hn F T;have Lb:=d3 l.prog w base X G EI λ_ _ F=>Q6 F T;have MF:=d2 l.prog w base X G yh λ_ _ F=>Jn F T;have Ez:=d4 l.prog w base X G qP λ_ _ F=>C6 F T ⟨MF⟩;have DJ:=d3 l.prog w base X G ya λ_ _ F=>Jl F T ⟨BE,Lb⟩;have EA:=d2 l.prog w base X G qQ λ_ _ F=>C7 F T;have O:CD K C0:=⟨⟨Se,Sj,Sd,Sb⟩,Aa,ED,EC,Cr⟩;have ie:=m2 l.prog w base mg mP λ_ _ F=>Q7 F T O ⟨FW⟩;have iJ:=m2 l.prog w base mg nW λ_ _ F=>Q4 F T O ⟨⟨BE,Lb⟩,ie,PV,Ez⟩;have uz:=m2 l.prog w base mg qR λ_ _ F=>VP F T O ⟨iJ⟩;have HA:=m3 l.prog w base mg Cv λ_ _ F=>VI F T O ⟨ie,iJ,DJ⟩;obtain⟨fi,fdi,ai,ii,Fi⟩:=uL;have k_A:IZ l.prog w K mg base C0 1 "Asking" ["self","tables"] (Gx l.prog w K C0):=⟨_,_,⟨Sg,ai,ii,Sh⟩,Q5 Fi T O,oO X G cA0,bd2 Fi rfl⟩;have Jv:=d2 l.prog w base X G vT λ_ _ F=>Ho F T O ⟨k_A,uz,HA,EA,DJ⟩;have PZ:=d2 l.prog w base X G Af λ_ _ F=>LN F T ⟨Jv⟩;have R7:=d1 l.prog w base X G CA λ_ _ F=>VM F;have oY:=d2 l.prog w base X G CB λ_ _ F=>VN F T;have Cq:=d3 l.prog w base X G Cy λ_ _ F=>VJ F T ⟨oY⟩;have PX:=d1 l.prog w base X G Ae λ_ _ F=>xH F T ⟨⟨oY⟩,Cq⟩;have MC:=d1 l.prog w base X G yb λ_ _ F=>N5 F T ⟨⟨oY⟩,Cq⟩;have DK:=d2 l.prog w base X G yf λ_ _ F=>N8 F T ⟨oY⟩;have IK:=d4 l.prog w base X G uM λ_ _ F=>Jk F T ⟨⟨⟨oY⟩,Cq⟩,DK⟩;have MD:=d3 l.prog w base X G yc λ_ _ F=>N6 F T ⟨⟨oY⟩,DK⟩;have R6:=d4 l.prog w base X G Cz λ_ _ F=>VL F T;have ME:=d3 l.prog w base X G yd λ_ _ F=>N7 F T;have R5:=d2 l.prog w base X G Cw λ_ _ F=>VH F T ⟨R6,ME⟩;have Wr:=d2 l.prog w base X G EH λ_ _ F=>XU F T ⟨R5⟩;have R8:=d1 l.prog w base X G CC λ_ _ F=>VO F T;exact XT F T ⟨R7,oY,PX,MC,IK,MD,Wr,R8,PZ⟩
def walk{l:PySem.W.OpenLaw}{K:Params->Frag}(hn:l.most=some 63)(zU:d.params.defaults=[])
  (hY:∀(w:World)(h:Heap),YP w h->(K w.params).In h)
  (F:∀(w:World)(mg:Str->Option Value)(fa:Addr)(h:Heap),(K w.params).In h->h.Ns mainGlobals mg->mg d.name=some (.ref fa)->
   ∃fd:FuncData,(∀(s:Shared)(u:Value),BindsTo s fd ⟨[u],[]⟩ [("_law_script",u)])/\∀base:Heap,(K w.params).In base->base.Ns mainGlobals mg->cY l.prog w (K w.params) mg base fH 9 fa fd ["_law_script"] (FZ (K w.params))):
  PySem.W.WalkO q loose XP YP l.row.toRowW d [] (λf vs=>PySem.call f vs):=
 L2.UY (n:=63) (k:=9) (x:="_law_script") (CX:=λ_=>fH) (sp:=λw=>FZ (K w.params)) hn (by decide) zU ⟨rfl,by decide,by decide⟩ hY F (λ_ H a ns hl hO hS=>⟨a,ns,rfl,Xm hO hS,hl,λ_=>rfl⟩) λ_ _ _ _ _ z=>z
end K06
open PySem PySem.W PyProof.Rows
set_option maxHeartbeats 0 in
theorem PySem.Challenge.cw_askviews_k06_answers_holds : PySem.Challenge.rw_askviews_k06_answers.Holds := by
 w_on;refine holds_law (by rw[PySem.W.Fast.te9446332074065402090];kernel_rfl) λadw=>?_
 refine holds_open (q:=K06.qf PySem.Challenge.pw_askviews_k06_answers) (loose:=[]) (Xt:=K06.XF PySem.Challenge.pw_askviews_k06_answers) (XP:=XL (K06.qf PySem.Challenge.pw_askviews_k06_answers) []) (Yf:=Hook.obs K06.HF) (Ya:=Hook.val K06.HF) (YP:=Hook.says K06.HF) (N:=2464) K06.head (Hook.of K06.HF) (Hook.keeps K06.HF)
  (λs e=>xl_of s (qj.mp e).1) XL.keeps (by rfl) (by rfl) (by rfl) (λs e=>recFacts_of (qj.mp e).2) (by rfl) (by first|assumption|decide+kernel) (by decide+kernel) ⟨rfl,rfl,rfl,rfl,rfl,by decide+kernel⟩ ?hw ?hc
 case hw=>w_witness2
 case hc=>
 unfold K06.HF
 k_fill
 refine K06.walk (l:=PySem.Challenge.rw_askviews_k06_answers) rfl rfl (λw h Y=>PySem.W.kIn_of Y) ?F
 case F=>
  intro w mg fa h KX G Pb
  refine' K06.all_mk KX G Pb ?yg ?uN ?sC ?Ad ?Af ?vT ?qQ ?ya ?vS ?EI ?yh ?qP ?CA ?CB ?Cy ?Ae ?yb ?yf ?uM ?yc ?Cw ?yd ?Cz ?EH ?CC ?MQ ?cA0 ?Se ?Sj ?Sd ?Sb ?Sg ?Sh ?Aa ?ED ?EC ?Cr ?uL ?qR ?Cv ?mP ?nW ?z0 ?z1 ?z2 ?z3 ?z4 ?z5 ?z6 ?z7 ?z8 ?z9 ?WM ?WL ?WK ?WJ ?Ye ?Yd
  case yg|uN|sC|Ad|Af|vT|qQ|ya|vS|EI|yh|qP|CA|CB|Cy|Ae|yb|yf|uM|yc|Cw|yd|Cz|EH|CC|MQ=>refine' K06.abk ?a ?l ?c ?k;case a|l|c|k=>k_is
  case cA0|Se|Sj|Sd|Sb|Sg|Sh|Aa|ED|EC|Cr=>k_is
  case uL|qR|Cv|mP|nW=>refine' K06.aa0 ?a ?i ?l ?c ?k;case a|i|l|c|k=>k_is
  case z0|z1|z2|z3|z4|z5|z6|z7|z8|z9|WM|WL|WK|WJ|Ye|Yd=>k_is
