import PyProof.Rows.All
import Wide.All
import OpenK.AllK
import PySem.Challenge.RW_askviews_k07_counted
set_option Elab.async false
set_option linter.all false
set_option bootstrap.genMatcherCode false
set_option maxRecDepth 100000
set_option maxHeartbeats 4000000
local macro_rules|`({$xs:term,*})=>`(⟨$xs,*⟩)
local macro_rules|`(∅)=>`((by lia))
set_option hygiene false
local macro_rules|`(-3)=>`((by decide+kernel))
local macro_rules|`(-4)=>`(model X.prog X.w)
local macro_rules|`(-5)=>`(model prog w)
local macro_rules|`(-6)=>`(λdk A outer s H vs Q E hr h=>?_)
local macro_rules|`(-7)=>`(dW X (x::more++fs) scope g3.objs.size {s2 with heap:=g3} H2 (s2.heap.objs.size::fp))
local macro_rules|`(-8)=>`((by decide))
local macro_rules|`(-9)=>`((by simp))
local macro_rules|`(-10)=>`(λ(p:NK×Addr×V)(q:NK×Addr×Value)=>p.1=q.1/\p.2.1=q.2.1/\RelV p.2.2 q.2.2)
local macro_rules|`(-11)=>`(.ref s.heap.objs.size)
local macro_rules|`(-12)=>`(arrOf st)
local macro_rules|`(-13)=>`((xs.map (ent knd)).toArray)
local macro_rules|`(-14)=>`(tupleKeyHash knd k)
local macro_rules|`(-15)=>`(λ_ _=>rfl)
local macro_rules|`(-16)=>`(λt=>hc (by simp[gN,t]))
local macro_rules|`(-17)=>`(s.heap.objs.size+1)
local macro_rules|`(-18)=>`(((dB items.size 0 lo:Nat):Int)==0&&(1:Int)==1&&(dB items.size items.size hi -dB items.size 0 lo)==items.size)
local macro_rules|`(-19)=>`(known.map (AskP.atT r ts))
local macro_rules|`(-20)=>`(dW X (x::more++fs) scope C s H ex)
local macro_rules|`(-21)=>`(lp mask h n)
local macro_rules|`(-22)=>`(fB "maps" (.ref md) [("tables",.ref tb),("kept",.ref kl)])
local macro_rules|`(-23)=>`(.ListComp elt [{tg,iter,ifs,0}] scope pos)
local macro_rules|`(-24)=>`(dH (wpAny_callSpecial?_slot (name:=Str.ofString "__next__") hT eP (bq eP hT m7 ?_ (oI _))))
local macro_rules|`(-25)=>`(model P w)
local macro_rules|`(-26)=>`(ps t.mask h D)
local macro_rules|`(-27)=>`(x==("__debug__":Str))
local macro_rules|`(-28)=>`(xs.map λx=>tupleKeyHash knd x.1)
local macro_rules|`(-29)=>`(s.heap.push {cls:=.type "tuple",data:=.seq (ps.map λ(i:Nat)=>rawInt i).toArray})
local macro_rules|`(-30)=>`(backTo pos (starEach es X.env))
local macro_rules|`(-31)=>`(fnOf x q (lJ st) (kJ st) (bQ st) .none kV doc pm an dk ct)
local macro_rules|`(-32)=>`(kept++gC kept a.2)
local macro_rules|`(-33)=>`(.ins C dx (fB "kept" (.ref rK) [("tables",.ref tb),("kept",.ref kl),("maps",.ref md),("tails",.ref td)]))
local macro_rules|`(-34)=>`(.ins C dx (fB "maps" (.ref Aa) [("tables",.ref tb),("kept",.ref rK),("maps",.ref md),("tails",.ref td)]))
local macro_rules|`(-35)=>`(cl D.jG hr (fu (pv 0) bg))
local macro_rules|`(-36)=>`(dW X (x::fs) scope C s H ex)
local macro_rules|`(-37)=>`((by rw[ag];exact bO ∅))
local macro_rules|`(-38)=>`((items.toList.drop (dB items.size 0 lo)).take (dB items.size items.size hi -dB items.size 0 lo))
local macro_rules|`(-39)=>`(ns.map V.int)
local macro_rules|`(-40)=>`(.lst ([]:Aao))
local macro_rules|`(-41)=>`(qK {aC (rg z _ _) hz,λt' k=>{.str _,H,I.tok k,⟨_,rfl⟩,q}})
local macro_rules|`(-42)=>`(.lst ((a.2.filter λt=>isUnk t&&decide (t∉known)).map V.str))
local macro_rules|`(-43)=>`((by with_unfolding_all rfl))
local macro_rules|`(-44)=>`(NK×Addr×V)
local macro_rules|`(-45)=>`(jX kept a.2)
local macro_rules|`(-46)=>`(upd H5 md (.ext (DN P w md [(dY [],e,.int 1)])))
local macro_rules|`(-47)=>`(Builtin.«zip.__next__» {[.ref z],[]})
local macro_rules|`(-48)=>`(.lst ys)
local macro_rules|`(-49)=>`(.ref a)
local macro_rules|`(-50)=>`((a.2.map (AskP.gH known v)).map V.str)
local macro_rules|`(-51)=>`(λr s'=>r=.ok (.ret (.bool true))/\OldK aaa.heap s'.heap/\s'.os=aaa.os/\AllBare s'.gens)
local macro_rules|`(-52)=>`(.dK (putK kvs (Sum.inr z) (.ref rl)))
local macro_rules|`(-53)=>`((by show 0<=sizeLine;decide))
local macro_rules|`(-54)=>`(fk [] ((a.2.map (Sum.inr:Str->Key)).zip (a.2.map V.str)))
local macro_rules|`(-55)=>`(qH (ha pos pins s Z H _ I h) λus s1 vs H1 I1 r1 q1=>?_)
local macro_rules|`(-56)=>`(kvs.any λkv=>decide (kv.1=k))
local macro_rules|`(-57)=>`(λ(p:V×V)(e:DictEntry)=>RelV p.1 e.key/\RelV p.2 e.val)
local macro_rules|`(-58)=>`(mirror a2 lo (lo+m) ((lo+m -lo)/2))
local macro_rules|`(-59)=>`(if([]:List Keyword).isEmpty then 0 else 1)
local macro_rules|`(-60)=>`(longer maps (db a.1) a.2 kept known fresh)
local macro_rules|`(-61)=>`(s.heap.push {cls:=.type "range",data:=.fields #[.int lo t,.int hi u,.int 1 v]})
local macro_rules|`(-62)=>`(Obj.putSet ((ji xs p (k,b)).map (ent knd)).toArray t2)
local macro_rules|`(-63)=>`((hz.map (AskP.gH us v)).map V.str)
local macro_rules|`(-64)=>`(fB "kept" (.ref kl) [("tables",.ref tb)])
local macro_rules|`(-65)=>`(λ(u:Value)(p:Key×Value)=>(bz prog w).is p.1 u=true)
local macro_rules|`(-66)=>`(.Call (.Name x p) (e::es) [] pos)
local macro_rules|`(-67)=>`(envOfC qual scope s.heap.objs.size f cd)
local macro_rules|`(-68)=>`(A.under (.builtin "type.__call__" {.ref C::us,kw}))
local macro_rules|`(-69)=>`(I.bj.fresh (ak _))
local macro_rules|`(-70)=>`(Value.ref d==Value.none)
local macro_rules|`(-71)=>`((by show 2<=sizeLine;decide))
local macro_rules|`(-72)=>`(λz=>hc (by simp[z]))
local macro_rules|`(-73)=>`(Rw α×Int)
noncomputable section
open PySem.W (Frag findIn nsIn fnOf emptyDict keepIn instObj plainGet kitOne codeIn hasDictIn isFn lookIn)
abbrev Aaa:=List (PySem.Str×List PySem.Str)
abbrev Aab:=List (List PySem.Str)
abbrev Aac:=List (PySem.Addr×PySem.Obj)
abbrev Aad:=PySem.Str->Option PySem.Value
abbrev Aae:=PySem.Value->PySem.Shared->Prop
abbrev Aag:=List PySem.Value
abbrev Aah:=List PySem.Str
abbrev Aaj:=List PySem.Addr
abbrev Aak:=Option PySem.Addr
abbrev Aal:=Array PySem.Value
section
open PySem
def ae:=@wpAny_bind
def af:=@wpAny_pure
def ag:=@List.length_map
def ah:=@PySem.Heap.get?_push_of_some
def ak:=@Nat.le_refl
def ao:=@List.getElem?_eq_some_iff
def aq:=@List.getElem?_eq_getElem
def au:=@if_neg
def ax:=@List.mem_cons_self
def ay:=@List.mem_singleton
def az:=@List.mem_cons_of_mem
def aA:=@List.mem_map
def aB:=@List.mem_of_getElem?
def aC:=@Nat.le_trans
def aD:=@if_pos
def aE:=@PySem.Heap.get?_push_size
def aF:=@PySem.Heap.lt_size
def aG:=@List.mem_cons
def aH:=@Nat.ne_of_lt
def aI:=@List.size_toArray
def aJ:=@List.getElem?_map
def aK:=@List.length_append
def aL:=@List.length_take
def aM:=@List.map_append
def aP:=@Nat.zero_le
def aQ:=@Array.length_toList
def aR:=@List.map_cons
def aS:=@List.mem_append
def aT:=@List.take_length
def aU:=@Bool.false_ne_true
def aV:=@List.take_add_one
def aZ:=@Nat.lt_of_lt_of_le
def a9:=@Option.map_eq_some_iff
def ba:=@decide_eq_true
def bh:=@Array.getElem?_eq_getElem
def bp:=@PySem.Paired.length
def bq:=@wpAny_call_entry
def br:=@Nat.le_of_lt
def bu:=@Nat.ne_of_gt
def bw:=@of_decide_eq_true
def bB:=@Array.getElem?_toList
def bC:=@decide_eq_false
def bD:=@List.mem_filter
def bF:=@wpAny_field
def bH:=@List.map_congr_left
def bI:=@Option.toList_some
def bJ:=@PySem.PassesOwn.never
def bK:=@List.length_cons
def bN:=@PySem.Heap.get?_update_other
def bP:=@wpAny_holding
def bS:=@Option.some.inj
def bT:=@wpAny_newObj_type
def bV:=@Ne.symm
def bW:=@wpAny_seqItems
def bX:=@List.map_map
def bY:=@PySem.Heap.SameBut.update
def b6:=@PySem.F.slot_dict_itemiterator_next
def b7:=@List.mem_append_right
def b9:=@wpAny_setField_rec
def cb:=@Bool.false_eq_true
def cc:=@congrArg
def cj:=@List.take_of_length_le
def cq:=@List.getD_eq_getElem?_getD
def cu:=@List.append_nil
def cw:=@PySem.Heap.size_push
def cx:=@PyProof.Rows.slot_tuple_getitem
def cy:=@PySem.Heap.get?_update_self
def cB:=@congrFun
def cD:=@List.append_assoc
def cE:=@Bool.and_eq_true
def cJ:=@PySem.W.mg_none_of
def cK:=@Nat.lt_of_le_of_lt
def cL:=@boot_len
def cP:=@sizeLine_eq
def cQ:=@PySem.F.plainAttrs_list
def cS:=@List.length_filter_le
def cT:=@List.idxOf_lt_length_of_mem
def cU:=@List.nodup_cons
def cV:=@Int.toNat_natCast
def cW:=@Array.getElem_mem
def cZ:=@wpAny_mono
def c7:=@List.length_nil
def c8:=@List.mem_range
def dm:=@codeAny_builtin
def dq:=@List.take_append_drop
def dt:=@List.length_singleton
def du:=@Nat.lt_succ_self
def dv:=@Nat.lt_irrefl
def dw:=@List.getElem?_append_right
def dD:=@List.mem_append_left
def dE:=@List.getElem?_append_left
def dH:=@wpAny_attempt
def dJ:=@if_false
def dM:=@PySem.F.type_list_append
def dO:=@PySem.F.slot_list_append
def dP:=@Nat.le_add_right
def dQ:=@List.all_eq_true
def dR:=@PyProof.Rows.callWith_type1
def dU:=@Nat.lt_succ_of_lt
def d8:=@Option.map_some
def d9:=@List.mem_iff_getElem
def eA:=@PySem.F.slot_zip_next
def eC:=@List.mem_flatMap
def eE:=@List.pairwise_iff_getElem
def eO:=@PySem.F.slot_dict_keyiterator_next
def eT:=@List.mem_iff_getElem?
def eU:=@List.getElem?_eq_none
def eY:=@PySem.W.kia_one
def eZ:=@Nat.le_succ
def fo:=@List.pairwise_singleton
def fq:=@List.mem_of_mem_take
def fA:=@wpAny_typeOf
def fC:=@forall_congr'
def fI:=@wpAny_setField
def fJ:=@decide_eq_true_eq
def fK:=@List.pairwise_map
def fL:=@List.nodup_append
def fM:=@beq_eq_false_iff_ne
def fN:=@List.filterMap_cons
def fQ:=@wpAny_rule
def fR:=@PySem.F.args_dict_itemiterator_next_1
def fV:=@builtinLookup_eq_fast
def fY:=@wpAny_isInstance
def f6:=@PySem.F.entry_dict_itemiterator_next
def f7:=@PyProof.Rows.F.plain_set_update_loop
def f9:=@Nat.lt_trans
def gc:=@List.filter_append
def gf:=@PySem.Calls.spliced_cons
def gj:=@Nat.pow_le_pow_right
def gk:=@PySem.Around.under_plainId
def gu:=@List.length_eq_zero_iff
def gw:=@wpAny_dictEntries
def gE:=@List.filter_sublist
def gJ:=@List.find?_cons_of_pos
def gK:=@List.find?_cons_of_neg
def gL:=@plainId_quiet
def gM:=@Array.getElem?_eq_some_iff
def gQ:=@Nat.le_of_not_lt
def gR:=@List.filter_cons
def g7:=@PySem.F.plain_extend_loop
def hE:=@wpAny_typeNameOfWhole_itemiter
def hG:=@wpAny_specialOf
def il:=@Nat.min_eq_left
def ip:=@List.nil_append
def iq:=@List.find?_cons
def ir:=@PySem.Heap.get?_none_of_le
def iu:=@Bool.eq_iff_iff
def iw:=@wpAny_truthy_bool
def iB:=@Bool.eq_false_iff
def iE:=@LawfulBEq.eq_of_beq
def iF:=@Bool.true_and
def iG:=@Bool.not_true
def iH:=@wpAny_typeNameOfWhole_keyiter
def iL:=@PySem.F.plainAttrs_dict
def iN:=@wpAny_fieldsOf
def iU:=@List.mem_reverse
def iV:=@List.getElem_mem
def iW:=@List.cons_append
def jc:=@PySem.Calls.callWith_builtin
def jk:=@Nat.pow_succ
def jl:=@List.map_nil
def jn:=@PySem.Code.quiet_builtin
def jo:=@wpAny_updateSeq
def jq:=@wpAny_passesOwn
def jr:=@wpAny_notOrdered_dict
def js:=@typeLookup_type
def jw:=@PySem.F.slot_dict_get
def jx:=@Nat.not_lt_zero
def jy:=@List.perm_append_comm
def jz:=@List.length_replicate
def jA:=@List.foldl_cons
def jE:=@PySem.F.slot_NoneType_hash
def jF:=@PySem.F.slot_tuple_iterator_next
def jH:=@bne_self_eq_false
def jI:=@Option.isSome_map
def jJ:=@List.length_range
def jK:=@List.flatMap_cons
def jM:=@PySem.F.args_zip_next_1
def jP:=@lookup_relabel_local
def jR:=@List.pairwise_append
def jS:=@List.mem_of_find?_eq_some
def jT:=@List.drop_eq_getElem_cons
def jY:=@PySem.Paired.snoc
def j8:=@isSubtype_stop
def j9:=@wpAny_forIn_list
def km:=@Option.isSome_iff_exists
def ko:=@Nat.add_zero
def kr:=@List.any_eq_true
def kz:=@List.Pairwise.imp_of_mem
def kA:=@PySem.F.entry_zip_next
def kB:=@mem_of_lookup
def kD:=@wpAny_getItem_str_slice
def kK:=@Nat.mul_assoc
def kL:=@wpAny_dictEpoch
def kR:=@List.length_zip
def kS:=@List.getElem_idxOf
def kT:=@Int.emod_lt_of_pos
def kX:=@Array.getElem?_eq_none
def kY:=@List.eq_nil_of_length_eq_zero
def kZ:=@wpAny_pyIter_list
def k8:=@Nat.lt_trichotomy
def lq:=@List.reverse_cons
def lA:=@PySem.F.slot_tuple_hash
def lB:=@PySem.Calls.spliced_nil
def lC:=@Array.toList_push
def lD:=@wpAny_newTuple
def lG:=@if_true
def lK:=@codeAny_mono
def lP:=@List.pairwise_reverse
def lQ:=@List.nodup_nil
def lR:=@List.Pairwise.sublist
def lZ:=@wpAny_pyIter_zip
def l9:=@PyProof.Rows.vals1
def ml:=@List.not_mem_nil
def mn:=@List.mem_flatten
def mq:=@List.length_drop
def mx:=@PySem.Calls.evalArgs_plain
def my:=@Array.mem_toList_iff
def mz:=@Array.getElem_toList
def mB:=@wpAny_onRaise
def mH:=@List.perm_ext_iff_of_nodup
def mI:=@List.length_eraseIdx_of_lt
def mJ:=@List.any_cons
def mK:=@wpAny_letGo
def mQ:=@Std.Legacy.Range.forIn_eq_forIn_range'
def mR:=@List.mem_map_of_mem
def mS:=@List.map_eq_nil_iff
def mT:=@wpAny_ite_split
def m8:=@List.forIn_cons
def m9:=@Int.emod_nonneg
def ng:=@Decidable.byContradiction
def nh:=@Classical.byContradiction
def ni:=@PySem.Calls.call_function_entry
def nj:=@wpAny_Call_Name_kw
def nA:=@tupleKind_room_in1
def nB:=@sub_AttributeError
def nR:=@decide_eq_true_iff
def nX:=@PySem.F.type_tuple_index
def nY:=@PySem.F.slot_tuple_index
def nZ:=@PySem.F.plainAttrs_tuple
def og:=@PySem.F.args_tuple_add_2
def oh:=@PySem.F.args_dict_keyiterator_next_1
def oj:=@PyProof.Rows.F.entry_set_update_loop
def om:=@PySem.Obj.data_mapFields
def oo:=@List.getElem?_take_of_lt
def oq:=@Int.zero_mul
def ox:=@Array.forIn_toList
def oy:=@typeIs_str
def oM:=@PySem.F.entry_dict_keyiterator_next
def oO:=@Bool.false_and
def oV:=@PySem.F.entry_tuple_add
def oW:=@PySem.F.args_dict_get_3
def oX:=@List.getElem?_cons_succ
def oY:=@wpAny_pyIter_slot
def o7:=@Nat.lt_of_succ_lt
def o8:=@List.map_inj_left
def o9:=@List.ext_getElem?
def pb:=@wpAny_isOneOf_itemiter
def pM:=@PySem.F.slot_tuple_add
def pN:=@PySem.F.entry_dict_get
def pP:=@Nat.mul_add
def pY:=@PySem.W.mg_of
def pZ:=@Nat.add_assoc
def qa:=@merged_length_le
def qi:=@List.zipIdx_cons
def qj:=@List.isEmpty_nil
def qm:=@List.getElem_map
def qD:=@List.Perm.append_left
def qE:=@List.eraseIdx_eq_take_drop_succ
def qF:=@wpAny_pyIter_keyiter
def qG:=@wpAny_execs_nil
def qK:=@post_val_or_str
def qZ:=@codeAny_call_builtin
def q9:=@call_meetsIn
def rf:=@and_congr_right
def rg:=@PySem.Txt.slice_le
def rj:=@Nat.succ_pos
def rq:=@Nat.mod_lt
def rB:=@List.of_mem_zip
def rC:=@Int.zero_add
def rE:=@Bool.and_eq_true_iff
def rG:=@Array.toList_extract
def rJ:=@wpAny_dictSet_pairs
def rN:=@PyProof.Rows.entry_tuple_getitem
def rP:=@PySem.W.plainGet_of
def rQ:=@Nat.pow_le_pow_left
def rR:=@List.length_reverse
def rS:=@PySem.F.plain_extend_loop
def rT:=@Array.toList_append
def rV:=@PyProof.Rows.slicePart_none
def sI:=@PySem.F.slot_dict_setdefault
def sJ:=@PySem.F.slot_dict_items_iter
def sL:=@List.dropLast_concat_getLast
def sM:=@Iff.rfl
def sN:=@PySem.F.args_tuple_iterator_next_1
def sO:=@Bool.and_false
def tm:=@wpAny_pyIter_tuple
def tT:=@PyProof.Rows.assignInOrder_cons
def tU:=@PyProof.Rows.args_tuple_getitem
def tV:=@PySem.W.callWith_K
def tW:=@List.mem_filterMap
def tX:=@List.map_singleton
def tY:=@List.filterMap_map
def tZ:=@PySem.F.entry_tuple_iterator_next
def t4:=@wpAny_standAt
def uc:=@PyProof.Rows.listUpdate_at
def ug:=@List.take_subset_take_left
def uh:=@Int.fdiv_eq_ediv_of_nonneg
def ui:=@PySem.Calls.Name_function_global
def uj:=@Array.perm_iff_toList_perm
def uk:=@wpAny_setState_of
def uo:=@wpAny_sequenceKey
def uq:=@wpAny_Call_method
def uD:=@Nat.mul_left_comm
def uE:=@List.reverse_perm
def uF:=@List.foldl_append
def uG:=@List.drop_sublist
def uI:=@Function.comp_def
def uJ:=@wpAny_letOwnedTupleGo_zip
def uZ:=@call_meets
def u3:=@beq_iff_eq
def u6:=@PySem.F.entry_extend_loop
def u9:=@List.rel_of_pairwise_cons
def vi:=@wpAny_askSetting
def vH:=@noFill_tuple_add
def vK:=@merged_take_succ
def v8:=@PySem.F.type_list_extend
def v9:=@PySem.F.slot_list_extend
def wb:=@PySem.F.slot_dict_update
def wc:=@List.lookup_cons
def we:=@List.getElem_zip
def wg:=@List.ext_getElem
def wj:=@Int.add_zero
def wm:=@Array.toList_inj
def wo:=@Array.getElem?_replicate
def wq:=@meetsH_dict_get_default
def wt:=@PySem.F.slot_dict_items
def wu:=@Nat.add_sub_cancel_left
def wx:=@List.lookup_eq_some_iff
def wy:=@List.getElem?_replicate
def wz:=@List.filter_cons_of_neg
def wA:=@List.append_cancel_left
def wB:=@List.Pairwise.filterMap
def wH:=@size_of_entries
def xa:=@List.filter_nil
def xb:=@PyProof.Rows.IsTup.new
def xc:=@PySem.Heap.DictOf.new
def xf:=@wpAny_pyNext_list_item
def xg:=@wpAny_Assign_Subscript
def xi:=@PyProof.Rows.subscriptTail_builtinR
def xl:=@PyProof.Rows.seqEpoch_at
def xv:=@PySem.W.cellsFrom_some
def xw:=@PySem.F.slot_dict_iter
def xx:=@Nat.mod_mul
def xy:=@List.range_succ_eq_map
def xA:=@List.pairwise_lt_range
def xB:=@List.not_of_lt_findIdx
def xC:=@List.getElem?_set_self
def xD:=@List.Perm.append_right
def xE:=@wpAny_tryCatch
def xF:=@wpAny_pyNext_list_end
def xG:=@wpAny_isTrue_Compare1
def xH:=@wpAny_isOneOf_keyiter
def xI:=@wpAny_eqIsQuiet_tuple
def yf:=@isSubtype_type
def yu:=@entryFor_alias
def yz:=@callType_codes
def yA:=@PySem.F.type_dict_get
def yB:=@PySem.F.plain_set_new
def yC:=@PySem.Obj.isFreed_of_fields
def yD:=@List.pairwise_flatMap
def yE:=@List.forIn_nil
def yG:=@wpAny_raiseAttrError
def zc:=@or_false
def zJ:=@PyProof.Rows.Subscript_
def zK:=@PySem.Obj.data_mapDictKeys
def zL:=@Nat.mul_le_mul_right
def zM:=@List.idxOf_cons_self
def zN:=@List.getElem?_set_ne
def zO:=@PySem.F.kt_typeCall_dict_1
def zP:=@PySem.F.args_object_init_3
def zQ:=@PySem.F.args_list_extend_2
def zR:=@PySem.F.args_list_append_2
def zT:=@Array.toList_reverse
def zV:=@wpAny_newList
def zW:=@PyProof.Rows.tupleItemsOf_
def zY:=@seq_tuple_add
def Am:=@evalPart_none
def An:=@List.all_cons
def Ao:=@Bool.or_false
def Ar:=@List.flatMap_append
def As:=@PySem.F.entry_list_extend
def Au:=@PySem.F.entry_list_append
def Aw:=@wpAny_setItem_heap
def Ax:=@wpAny_getItem_heap
def AJ:=@seqIndex_neg
def AW:=@putSet_of
def A4:=@of_decide_eq_false
def Bw:=@concat_meets
def BH:=@PySem.SeqAt.EqAt.str_int
def BI:=@PySem.SeqAt.EqAt.int_str
def BJ:=@PySem.F.called_set
def BL:=@Nat.zero_add
def BM:=@Nat.sub_zero
def BN:=@Nat.sub_self
def BO:=@Nat.min_self
def BP:=@Nat.le_of_eq
def BQ:=@List.zip_cons_cons
def BR:=@List.pairwise_cons
def BS:=@List.getElem?_drop
def BU:=@List.find?_eq_none
def BV:=@List.countP_append
def BW:=@Int.mul_zero
def BX:=@PySem.Heap.IsSliceOf.new
def BZ:=@PySem.F.slot_list_extend
def B1:=@PySem.F.slot_list_append
def B2:=@PySem.F.args_dict_init_2
def B5:=@Array.size_extract
def Cs:=@wpAny_storeSet_of
def Cu:=@wpAny_pyIter_enum
def Cv:=@wpAny_assign_Name
def CA:=@eqIsQuiet_byValue
def CB:=@PyProof.Rows.assignInOrder_nil
def CC:=@list_append
def CD:=@PySem.W.kitx_list
def CF:=@PySem.W.kitx_dict
def CG:=@PySem.Obj.cls_mapFields
def CH:=@List.take_sublist
def CI:=@List.getElem_take
def CJ:=@PySem.Heap.SameBut.refl
def CK:=@PySem.F.plain_list_iadd
def CL:=@PySem.F.entry_dict_init
def CM:=@wpAny_of_eq
def CN:=@wpAny_mkInt
def CQ:=@seqIndex_of
def Dx:=@Sum.inr.inj
def DB:=@Nat.add_mul
def DC:=@Int.mul_one
def DD:=@Int.le_refl
def Ew:=@Prod.ext
def EC:=@wpAny_load
def ED:=@wpAny_call
def EE:=@wpAny_Name
def FO:=@Nat.not_lt
def FR:=@PyProof.Rows.Call_
end
namespace L2
open PySem PySem.Spec PyProof.Rows
abbrev Key:=Sum Int Str
def zm:Key->Value->Bool
 | .inl k,v=>Value.isInt k v
 | .inr x,v=>Value.isStrOf x v
def adi(w:World):Key->Int
 | .inl k=>hashInt k
 | .inr x=>hashStr w x
theorem g9:∀{k:Key}{v:Value},zm k v=true->(∃i t,k=Sum.inl i/\v=Value.int i t)\/(∃x t,k=Sum.inr x/\v=Value.str x t)
 | .inl i,v,h=>by obtain⟨t,e⟩:=Value.isInt_shape h;exact .inl ⟨i,t,rfl,e⟩
 | .inr x,v,h=>by obtain⟨t,e⟩:=Value.isStrOf_shape h;exact .inr ⟨x,t,rfl,e⟩
def QQ(i:Int)(t:Tok):zm (.inl i) (.int i t)=true:=by simp[zm,Value.isInt]
def QP(x:Str)(t:Tok):zm (.inr x) (.str x t)=true:=by simp[zm,Value.isStrOf]
def aaG(a b:Int):decide ((Sum.inl a:Key)=Sum.inl b)=(a==b):=by
 by_cases e:a=b
 ·subst e;simp
 ·have h:¬(Sum.inl a:Key)=Sum.inl b:=λq=>e (Sum.inl.inj q);rw[bC h];exact(fM.mpr e).symm
def aaD(a b:Str):decide ((Sum.inr a:Key)=Sum.inr b)=decide (a=b):=by
 by_cases e:a=b
 ·subst e;simp
 ·have h:¬(Sum.inr a:Key)=Sum.inr b:=λq=>e (Dx q);rw[bC h,bC e]
def aaF(a:Int)(b:Str):decide ((Sum.inl a:Key)=Sum.inr b)=false:=bC (λq=>nomatch q)
def aaE(a:Str)(b:Int):decide ((Sum.inr a:Key)=Sum.inl b)=false:=bC (λq=>nomatch q)
noncomputable def bz(prog:Program)(w:World):PySem.KeyKind prog w Key where
 is:=zm
 hash:=adi w
 inj:=λv a b ha hb=>by
  rcases g9 ha with⟨i,t,rfl,rfl⟩|⟨x,t,rfl,rfl⟩
  ·rcases g9 hb with⟨j,u,rfl,e⟩|⟨y,u,rfl,e⟩
   ·injection e with e1 _;rw[e1]
   ·exact nomatch e
  ·rcases g9 hb with⟨j,u,rfl,e⟩|⟨y,u,rfl,e⟩
   ·exact nomatch e
   ·injection e with e1 _;rw[e1]
 byValue:=λk v h=>by rcases g9 h with⟨i,t,rfl,rfl⟩|⟨x,t,rfl,rfl⟩<;>rfl
 pyHash:=λhv h=>by
  rcases g9 hv with⟨i,t,rfl,rfl⟩|⟨x,t,rfl,rfl⟩
  ·exact wpAny_pyHash_int h
  ·exact wpAny_pyHash_str h
 eqBool:=λhu hv h=>by
  rcases g9 hu with⟨i,t,rfl,rfl⟩|⟨x,t,rfl,rfl⟩
  ·rcases g9 hv with⟨j,u,rfl,rfl⟩|⟨y,u,rfl,rfl⟩
   ·rw[aaG]at h;exact wpAny_eqBool_int h
   ·rw[aaF]at h;exact BI i t y u _ _ _ _ h
  ·rcases g9 hv with⟨j,u,rfl,rfl⟩|⟨y,u,rfl,rfl⟩
   ·rw[aaE]at h;exact BH x t j u _ _ _ _ h
   ·rw[aaD]at h;exact wpAny_eqBool_str h
 «strs»:=λk x t v h=>by
  rcases g9 h with⟨i,u,rfl,e⟩|⟨y,u,rfl,e⟩
  ·exact nomatch e
  ·injection e with e1 _;subst e1;cases v<;>rfl
def Lm(prog:Program)(w:World)(i:Int)(t:Tok):(bz prog w).is (.inl i) (.int i t)=true:=QQ i t
def C1(prog:Program)(w:World)(x:Str)(t:Tok):(bz prog w).is (.inr x) (.str x t)=true:=QP x t
inductive V where
 |cI|bl (b:Bool)|int (i:Int)|str (x:Str)|uC (b:Array UInt8)|KA (b:UInt64)|ref (a:Addr)|ty (n:String)
 deriving DecidableEq
abbrev Aam:=List (V×V)
abbrev Aao:=List V
abbrev Aap:=Option V
def RelV:V->Value->Prop
 | .cI,u=>u=Value.none
 | .bl b,u=>u=Value.bool b
 | .int i,u=>∃t,u=Value.int i t
 | .str x,u=>∃t,u=Value.str x t
 | .uC b,u=>∃t,u=Value.bytes b t
 | .KA b,u=>∃t,u=Value.float b t
 | .ref a,u=>u=Value.ref a
 | .ty n,u=>u=Value.type n
abbrev Vals:Aao->Aag->Prop:=Paired RelV
def Vals.length(r:Vals xs us):xs.length=us.length:=bp r
theorem Vals.get:∀{xs:Aao}{us:Aag}{i:Nat}{x:V},Vals xs us->xs[i]?=some x->∃u,us[i]?=some u/\RelV x u
 |_,_,_,_,.nil,e=>by simp at e
 |_,_,0,_,.cons r _,e=>by simp at e;subst e;exact⟨_,rfl,r⟩
 |_,_,i+1,x,.cons _ t,e=>by obtain⟨u,h1,h2⟩:=Vals.get (i:=i) (x:=x) t (by simpa using e);exact{u,by simpa using h1,h2}
theorem Vals.set(r:RelV x u):∀{xs:Aao}{us:Aag}(i:Nat),Vals xs us->Vals (xs.set i x) (us.set i u)
 |_,_,_,.nil=>.nil
 |_,_,0,.cons _ t=>.cons r t
 |_,_,i+1,.cons q t=>.cons q (Vals.set r i t)
theorem Vals.append:∀{xs ys:Aao}{us ws:Aag},Vals xs us->Vals ys ws->Vals (xs++ys) (us++ws)
 |_,_,_,_,.nil,s=>s
 |_,_,_,_,.cons r t,s=>.cons r (Vals.append t s)
theorem Vals.take:∀{xs:Aao}{us:Aag}(n:Nat),Vals xs us->Vals (xs.take n) (us.take n)
 |_,_,0,_=>.nil
 |_,_,_+1,.nil=>.nil
 |_,_,n+1,.cons r t=>.cons r (Vals.take n t)
theorem Vals.drop:∀{xs:Aao}{us:Aag}(n:Nat),Vals xs us->Vals (xs.drop n) (us.drop n)
 |_,_,0,r=>r
 |_,_,_+1,.nil=>.nil
 |_,_,n+1,.cons _ t=>Vals.drop n t
def lM:Aap->Option Value->Prop
 |some v,some u=>RelV v u
 |none,none=>True
 |_,_=>False
def KV:List (κ×V)->List (κ×Value)->Prop:=Paired λ(p:κ×V)(q:κ×Value)=>p.1=q.1/\RelV p.2 q.2
def kV:Key->V
 | .inl i=>.int i
 | .inr x=>.str x
inductive HO where
 |lst (xs:Aao)
 |tup (xs:Aao)
 |dK (kvs:List (Key×V))|dT (kvs:List (List Key×V))
 |set (S:Int->Bool) (n:Nat)
 |ins (C dx:Addr) (fs:List (Str×V))
 |own (x:Addr)
 |xd (fs:List (Str×V))
 |met (f x:Addr)
 |ZV (lo hi:Int)
 |c6 (o:Obj) (u:HO)
 |Ip (ps:Aal)
 |ext (φ:Heap->Prop)
abbrev Hp:=Addr->Option HO
def upd(H:Hp)(a:Addr)(o:HO):Hp:=λb=>if b=a then some o else H b
def ar:upd H a o a=some o:=by unfold upd;rw[aD rfl]
def aw(h:b≠a):upd H a o b=H b:=by unfold upd;rw[au h]
def LN:upd (upd H a o) a u=upd H a u:=by funext b;unfold upd;split<;>rfl
def wJ{H:Hp}(h:H a=some o)(h':H b=some u)(d:o≠u):a≠b:=by intro e;subst e;rw[h]at h';exact d (bS h')
def aW{H:Hp}(h:H a=some o)(h':H b=none):a≠b:=by intro e;subst e;rw[h]at h';cases h'
section
variable(P:Program)(w:World)
noncomputable def dC(H:Hp)(h:Heap)(a:Addr):HO->Prop
 | .lst xs=>xs.length<=sizeLine/\∃(aX:Aag)(n:Nat),Vals xs aX/\h.get? a=some {cls:=.type "list",data:=.seq aX.toArray n}
 | .tup xs=>xs.length<=sizeLine/\∃aX:Aag,Vals xs aX/\IsTup h a aX.toArray/\∃o,h.get? a=some o/\o.dict=none
 | .dK kvs=>kvs.length<=sizeLine/\(a==sysModules)=false/\∃vs,KV kvs vs/\h.DictOf (bz P w) a vs
 | .dT kvs=>kvs.length<=sizeLine/\(a==sysModules)=false/\∃xs:List (List Key×Addr×Value),
   Paired (λ(p:List Key×V)(q:List Key×Addr×Value)=>p.1=q.1/\H q.2.1=some (.tup (p.1.map kV))/\RelV p.2 q.2.2) kvs xs/\
   ∃o es ep,h.get? a=some o/\o.ExactDict/\o.data=.dict es ep/\es.toList=xs.map (entryOfKey (tupleKind (bz P w)))/\(xs.map (·.1)).Nodup
 | .set S n=>h.SetOf (intKind P w) a S n
 | .ins C dx fs=>H dx=some (.own a)/\fs.length<=1000/\dx≠a/\h.get? a=some (instObj C dx)/\
   ∃mA,h.Ns1 dx mA/\(∀f,lM (fs.lookup f) (mA f))/\PySem.Within mA (fs.map (·.1))
 | .own _=>∃o,h.get? a=some o
 | .xd fs=>∃mA,h.Ns1 a mA/\∀f,lM (fs.lookup f) (mA f)
 | .ZV lo hi=>∃t u v,h.get? a=some {cls:=.type "range",data:=.fields #[.int lo t,.int hi u,.int 1 v]}
 | .c6 o u=>h.get? a=some o/\dC H h a u
 | .Ip ps=>h.get? a=some {cls:=.none,data:=.fields ps}
 | .met f x=>h.get? a=some (PySem.W.methodObj (.ref f) (.ref x))
 | .ext φ=>φ h/\(∃o,h.get? a=some o)/\∀h1 h2:Heap,φ h1->(∀o,h1.get? a=some o->h2.get? a=some o)->φ h2
def jL(H:Hp)(h:Heap):Prop:=∀a o,H a=some o->dC P w H h a o
end
section
variable{P:Program}{w:World}{H H':Hp}{h h':Heap}{a:Addr}{o:HO}
def dC.lt(x:dC P w H h a o):a<h.objs.size:=by
 cases o with
 |lst xs=>obtain⟨_,_,_,_,e⟩:=x;exact aF e
 |tup xs=>obtain⟨_,_,_,p,_⟩:=x;exact p.lt
 |dK kvs=>obtain⟨_,_,_,_,o,_,_,e,_⟩:=x;exact aF e
 |dT kvs=>obtain⟨_,_,_,_,o,_,_,e,_⟩:=x;exact aF e
 |set S n=>obtain⟨o,_,_,_,e,_⟩:=x;exact aF e
 |ins C dx fs=>obtain⟨_,_,_,e,_⟩:=x;exact aF e
 |own y=>obtain⟨_,e⟩:=x;exact aF e
 |xd fs=>obtain⟨_,⟨_,_,_,e,_⟩,_⟩:=x;exact aF e
 |ZV lo hi=>obtain⟨_,_,_,e⟩:=x;exact aF e
 |c6 ob u=>obtain⟨e,_⟩:=x;exact aF e
 |Ip ps=>exact aF (show h.get? a=some _ from x)
 |met f y=>exact aF (show h.get? a=some _ from x)
 |ext φ=>obtain⟨_,⟨_,e⟩,_⟩:=x;exact aF e
theorem Paired.qM:∀{aad:List α}{aac:List β},Paired F aad aac->(∀a b,F a b->G a b)->Paired G aad aac
 |_,_,.nil,_=>.nil
 |_,_,.cons r t,f=>.cons (f _ _ r) (Paired.qM t f)
def Paired.imp'(f:∀a b,F a b->G a b)(r:Paired F aad aac):Paired G aad aac:=Paired.qM r f
def dC.jD(x:dC P w H h a o)(k:∀b u,(b=a\/H b=some (.own a))->h.get? b=some u->h'.get? b=some u)
  (ho:∀b,H b=some (.own a)->H' b=some (.own a)) (ht:∀b xs,H b=some (.tup xs)->H' b=some (.tup xs)):dC P w H' h' a o:=by
 induction o with
 |lst xs=>obtain⟨z,aX,n,r,e⟩:=x;exact{z,aX,n,r,k _ _ (.inl rfl) e}
 |tup xs=>obtain⟨z,aX,r,⟨ob,e,c⟩,o2,e2,c2⟩:=x;exact{z,aX,r,{ob,k _ _ (.inl rfl) e,c},o2,k _ _ (.inl rfl) e2,c2}
 |dK kvs=>obtain⟨z,y,vs,r,ob,es,ep,e,c⟩:=x;exact{z,y,vs,r,ob,es,ep,k _ _ (.inl rfl) e,c}
 |dT kvs=>
  obtain⟨z,y,xs,r,ob,es,ep,e,c⟩:=x;exact{z,y,xs,Paired.qM r λp q z=>{z.1,ht _ _ z.2.1,z.2.2},ob,es,ep,k _ _ (.inl rfl) e,c}
 |set S n=>obtain⟨ob,es,ep,t,e,c⟩:=x;exact{ob,es,ep,t,k _ _ (.inl rfl) e,c}
 |ins C dx fs=>
  obtain⟨d,z,ne,e,mA,⟨od,es,ep,e2,c⟩,r⟩:=x;exact{ho _ d,z,ne,k _ _ (.inl rfl) e,mA,{od,es,ep,k _ _ (.inr d) e2,c},r}
 |own y=>obtain⟨ob,e⟩:=x;exact{ob,k _ _ (.inl rfl) e}
 |xd fs=>obtain⟨mA,⟨od,es,ep,e,c⟩,r⟩:=x;exact{mA,{od,es,ep,k _ _ (.inl rfl) e,c},r}
 |ZV lo hi=>obtain⟨t,u,v,e⟩:=x;exact{t,u,v,k _ _ (.inl rfl) e}
 |c6 ob u ih=>obtain⟨e,q⟩:=x;exact{k _ _ (.inl rfl) e,ih q}
 |Ip ps=>
  have e:=x;exact k a _ (.inl rfl) e
 |met f y=>
  have e:=x;exact k a _ (.inl rfl) e
 |ext φ=>obtain⟨p,⟨o,e⟩,st⟩:=x;exact{st _ _ p λo q=>k _ _ (.inl rfl) q,{o,k _ _ (.inl rfl) e},st}
def jL.lt(x:jL P w H h)(e:H a=some o):a<h.objs.size:=(x a o e).lt
def jL.fresh(x:jL P w H h)(e:h.objs.size<=a):H a=none:=by
 cases q:H a with
 |none=>rfl
 |some u=>exact absurd (aZ (x.lt q) e) (dv _)
def jL.kept(x:jL P w H h)(k:∀b u,h.get? b=some u->h'.get? b=some u):jL P w H h':=λa o e=>
 (x a o e).jD (λb u _ q=>k b u q) (λ_ q=>q) λ_ _ q=>q
def jL.laid(x:jL P w H h)(k:∀b u,h.get? b=some u->h'.get? b=some u)(hp:h.objs.size<=a)(new:dC P w (upd H a o) h' a o):jL P w (upd H a o) h':=λb u e=>by
 have hn:=x.fresh hp;by_cases hb:b=a
 ·subst hb;rw[ar]at e;cases e;exact new
 ·rw[aw hb]at e;exact(x b u e).jD (λc v _ q=>k c v q) (λc q=>by rw[aw (aW q hn)];exact q) λc xs q=>by rw[aw (aW q hn)];exact q
end
def Rd(H:Hp)(a:Addr)(u:HO):Prop:=H a=some u\/∃o,H a=some (.c6 o u)
def Rd.ok(r:Rd H a u)(x:jL P w H h):dC P w H h a u:=by
 rcases r with r|⟨o,r⟩
 ·exact x a u r
 ·obtain⟨_,q⟩:=x a _ r;exact q
def Sz:Option HO->Prop
 |some (.lst _)=>True
 |some (.dK _)=>True
 |some (.dT _)=>True
 |some (.set _ _)=>True
 |some (.ins _ _ _)=>True
 |some (.ext _)=>True
 |_=>False
section
variable{P:Program}{w:World}{H:Hp}{h h':Heap}{x e:Addr}{o':HO}
def jL.write(ok:jL P w H h)(mu:Sz (H x))(he:e=x\/H e=some (.own x))(k:∀b u,b≠e->h.get? b=some u->h'.get? b=some u)(MT:∃u,h'.get? e=some u)
  (new:dC P w (upd H x o') h' x o'):jL P w (upd H x o') h':=λb u q=>by
 have aaq:∀c y,H c=some (.own y)->c≠x:=λc y r z=>by subst z;rw[r]at mu;exact mu
 have ac3:∀c xs,H c=some (.tup xs)->c≠x:=λc xs r z=>by subst z;rw[r]at mu;exact mu
 by_cases hb:b=x
 ·subst hb;rw[ar]at q;cases q;exact new
 ·rw[aw hb]at q;by_cases Kr:b=e
  ·have q':H b=some (.own x):=by
    rcases he with z|z
    ·exact absurd (Kr.trans z) hb
    ·rw[Kr];exact z
   rw[q]at q';cases q';obtain⟨v,hv⟩:=MT;exact{v,by rw[Kr];exact hv}
  ·refine(ok b u q).jD (λc v hc r=>k c v ?_ r) (λc r=>by rw[aw (aaq c b r)];exact r) λc xs r=>by rw[aw (ac3 c xs r)];exact r
   rcases hc with rfl|hc
   ·exact Kr
   ·rintro rfl;rcases he with z|z
    ·exact aaq c b hc z
    ·rw[hc]at z;cases z;exact hb rfl
end
structure Un(fs ex:Aaj)(H H':Hp)(h h':Heap):Prop where
 keep:∀b o,h.get? b=some o->H b=none->b∉fs->b∉ex->h'.get? b=some o
 slot:∀b o,h.get? b=some o->H b=none->b∈fs->b∉ex->∃sl,h'.get? b=some {o with slots:=sl}
 free:∀b o,h.get? b=some o->H b=none->b∉ex->H' b=none
 there:∀b o,h.get? b=some o->b∉ex->∃o',h'.get? b=some o'
 ny:∀b xs,H b=some (.tup xs)->H' b=some (.tup xs)
 ud:∀b o u,H b=some (.c6 o u)->H' b=some (.c6 o u)
 yM:∀b ps,H b=some (.Ip ps)->∃more,H' b=some (.Ip (ps++more))
section
variable{fs ex:Aaj}{H H1:Hp}{h h1 h':Heap}{a x e:Addr}{o:HO}
def Un.any(u:Un fs ex H H1 h h1)(q:h.get? b=some ob)(n:H b=none)(hx:b∉ex):∃sl,h1.get? b=some {ob with slots:=sl}:=by
 by_cases hb:b∈fs
 ·exact u.slot b ob q n hb hx
 ·exact{ob.slots,u.keep b ob q n hb hx}
def Un.kept(k:∀b u,h.get? b=some u->h'.get? b=some u):Un fs ex H H h h':=
 {λb ob q _ _ _=>k b ob q,λb ob q _ _ _=>{ob.slots,k b ob q},λ_ _ _ n _=>n,λb ob q _=>{ob,k b ob q},λ_ _ q=>q,λ_ _ _ q=>q,λ_ ps q=>{#[],by rw[q];simp}}
def Un.refl:Un fs ex H H h h:=Un.kept λ_ _ q=>q
def Un.laid(k:∀b u,h.get? b=some u->h'.get? b=some u)(hp:h.objs.size<=a)(hn:H a=none):Un fs ex H (upd H a o) h h' where
 keep:=λb u q _ _ _=>k b u q
 slot:=λb u q _ _ _=>{u.slots,k b u q}
 free:=λb u q n _=>by rw[aw (aH (aZ (aF q) hp))];exact n
 there:=λb u q _=>{u,k b u q}
 ny:=λb xs q=>by rw[aw (aW q hn)];exact q
 ud:=λb u xs q=>by rw[aw (aW q hn)];exact q
 yM:=λb ps q=>{#[],by rw[aw (aW q hn),q];simp}
def Un.write(mu:Sz (H x))(he:e=x\/H e=some (.own x))(k:∀b u,b≠e->h.get? b=some u->h'.get? b=some u)(MT:∃u,h'.get? e=some u):Un fs ex H (upd H x o) h h':=by
 have hx:∀b,H b=none->b≠x:=λb n z=>by subst z;rw[n]at mu;exact mu
 have hb:∀b,H b=none->b≠e:=λb n z=>by
  subst z;rcases he with r|r
  ·exact hx b n r
  ·rw[n]at r;cases r
 have hm:∀b u,H b=some u->¬Sz (some u)->b≠x:=λb u q nm z=>by subst z;rw[q]at mu;exact nm mu
 refine{λb u q n _ _=>k b u (hb b n) q,λb u q n _ _=>{u.slots,k b u (hb b n) q},λb u q n _=>by rw[aw (hx b n)];exact n,λb u q _=>?_,
  λb xs q=>by rw[aw (hm b _ q λz=>z)];exact q,λb u xs q=>by rw[aw (hm b _ q λz=>z)];exact q,λb ps q=>{#[],by rw[aw (hm b _ q λz=>z),q];simp}}
 by_cases Kr:b=e
 ·subst Kr;exact MT
 ·exact{u,k b u Kr q}
end
def Vt(h:Heap)(H:Hp):Aaj:=(List.range h.objs.size).filter λa=>(H a).isSome
def zr(h:Heap)(H:Hp):Heap:=PySem.W.hideAll h (Vt h H)
def RA(h:Heap)(H:Hp):(zr h H).objs.size=h.objs.size:=PySem.W.hideAll_size _ _
def UJ(e:h.get? b=some o)(n:H b=none):(zr h H).get? b=some o:=
 PySem.W.hideAll_get _ e λhm=>by have q:=(bD.mp hm).2;rw[n]at q;simp at q
def X8(e:(zr h H).get? b=some o):h.get? b=some o/\H b=none:=by
 have e':=PySem.W.of_hideAll (Vt h H) e;refine{e',?_};cases q:H b with
 |none=>rfl
 |some x=>
  have hm:b∈Vt h H:=bD.mpr {c8.mpr (aF e'),by simp[q]};have z:(zr h H).get? b=none:=PySem.W.hideAll_none (Vt h H) hm;rw[z]at e;cases e
def YS(g h:Heap)(L:Addr):Aac:=(List.range h.objs.size).filterMap λa=>if a=L\/(g.get? a).isSome=true then none else(h.get? a).map λo=>(a,o)
def rest(g h:Heap)(L d:Addr):Aac:=(YS g h L).filter λp=>decide (p.1≠d)
structure Mod(K:Frag)(mg:Aad)(base:Heap):Prop where
 QM:K.In base
 glob:base.Ns mainGlobals mg
 blt:∃mb,base.Ns builtinsNs mb/\∀x:Str,x≠"__name__"->mb x=bootBuiltins x
 nolimit:base.NoLimit
structure Cx where
 prog:Program
 w:World
 K:Frag
 mg:Aad
 base:Heap
 A:Around
 N:Aah
 aab:Shared
 aaf:Hp
 env:Env
 outer:List Env
 stack:List Env
 ex:Aaj
 fn:Str->Bool
 calm:Bool
 pn:Aac
 xe:Aae
def Ak(l:List Env):Aaj:=l.filterMap (·.frame)
abbrev Cx.fs(X:Cx):Aaj:=Ak X.outer
def Vis(sc:Scope)(x:Str):Prop:=sc.names.lookup x=some .local\/sc.names.lookup x=some .cell\/sc.names.lookup x=some .free
def Loc(sc:Scope)(x:Str):Prop:=sc.names.lookup x=some .local\/sc.names.lookup x=some .cell
def Look(env:Env)(h:Heap)(m:Aad)(x:Str)(u:Value):Prop:=
 (env.kindOf x=some .local/\m x=some u)\/((env.kindOf x=some .cell\/env.kindOf x=some .free)/\∃c,env.cells.lookup x=some c/\h.IsCell c (some u))
structure Cx.Ok(X:Cx):Prop where
 mod:Mod X.K X.mg X.base
 kind:X.env.scope.kind=.function
 glob:X.env.globals=mainGlobals
 blt:X.env.builtins=builtinsNs
 above:X.aab.heap.objs.size<=X.env.locals
 inj:∀x y c,X.env.cells.lookup x=some c->X.env.cells.lookup y=some c->x=y
 has:∀x,(X.env.kindOf x=some .cell\/X.env.kindOf x=some .free)->∃c,X.env.cells.lookup x=some c
 Ng:∀x c,X.fn x=true->X.env.cells.lookup x=some c->X.aab.heap.objs.size<=c
 hd:X.calm=true->X.A.handled=none
 frames:X.A.frames=some X.stack
 Py:X.stack=X.outer\/(X.stack=X.env::X.outer/\X.env.frame=some X.env.locals)
 RX:∀b∈X.ex,b≠X.env.locals/\∀x c,X.env.cells.lookup x=some c->c≠b
 bs:∀b o,X.base.get? b=some o->X.aab.heap.get? b=some o/\X.aaf b=none
 Du:X.base.objs.size<=X.aab.heap.objs.size
 F8:∀b o,X.base.get? b=some o->b∉X.ex
 Eh:∀b∈X.ex,b∉X.fs
 sj:X.aab.heap.FunFrames X.base X.outer
 Hs:∀b∈X.fs,X.aaf b=none
structure Inv(X:Cx)(pins:Aac)(Z:List (Aap))(H:Hp)(s:Shared):Prop where
 ok:X.Ok
 os:s.os=X.aab.os
 bare:AllBare s.gens
 base:Un X.fs X.ex X.aaf H X.aab.heap s.heap
 loc:∃m,s.heap.Ns X.env.locals m/\∀(i:Nat)(x:Str)(v:V),X.N[i]?=some x->Z[i]?=some (some v)->Vis X.env.scope x->∃u,RelV v u/\Look X.env s.heap m x u
 cell:∀x c,X.env.cells.lookup x=some c->∃v,s.heap.IsCell c v
 free:H X.env.locals=none
 oG:∀x c,X.env.cells.lookup x=some c->H c=none
 pin:∀p∈X.pn++pins,s.heap.get? p.1=some p.2/\H p.1=none/\p.1≠X.env.locals/\p.1∉X.fs/\∀v,p.2.data≠ .cell v
 bj:jL X.prog X.w H s.heap
 len:Z.length=X.N.length
section
variable{X:Cx}{pins:Aac}{Z:List (Aap)}{H H':Hp}{s:Shared}{h':Heap}
def Cx.Ok.ac5(ok:X.Ok)(e:X.base.get? b=some o):b∉X.fs:=λhb=>by have:=(ok.sj.mem hb).1;rw[e]at this;cases this
def Inv.bs(I:Inv X pins Z H s):∀b o,X.base.get? b=some o->s.heap.get? b=some o/\H b=none:=λb o e=>
 {I.base.keep b o (I.ok.bs b o e).1 (I.ok.bs b o e).2 (I.ok.ac5 e) (I.ok.F8 b o e),I.base.free b o (I.ok.bs b o e).1 (I.ok.bs b o e).2 (I.ok.F8 b o e)}
def Inv.bk(I:Inv X pins Z H s):∀b o,X.base.get? b=some o->s.heap.get? b=some o:=λb o e=>(I.bs b o e).1
def Inv.mod(I:Inv X pins Z H s):Mod X.K X.mg X.base:=I.ok.mod
def Inv.mY(I:Inv X pins Z H s):X.K.In s.heap:=I.ok.mod.QM.keeps I.bk
def Inv.lt(I:Inv X pins Z H s):X.env.locals<s.heap.objs.size:=let⟨_,hn,_⟩:=I.loc;hn.lt
def Inv.sz(I:Inv X pins Z H s):X.aab.heap.objs.size<=s.heap.objs.size:=aC I.ok.above (br I.lt)
def Inv.aar(I:Inv X pins Z H s)(h:s.heap.objs.size<=a):a∉X.fs:=λhb=>by obtain⟨_,o,ho,_⟩:=I.ok.sj.mem hb;exact absurd (aZ (aF ho) (aC I.sz h)) (dv _)
def Inv.KN(I:Inv X pins Z H s):∀x c,X.env.cells.lookup x=some c->c≠X.env.locals:=λx c e z=>by obtain⟨v,o,ho,hd⟩:=I.cell x c e;obtain⟨m,⟨o',es,ep,rM,qW,_⟩,_⟩:=I.loc;rw[z,rM]at ho;cases ho;rw[qW]at hd;cases hd
def Inv.sj(I:Inv X pins Z H s):s.heap.FunFrames X.base X.outer:=by
 have all:∀(l:List Env),(∀b∈Ak l,b∈X.fs)->X.aab.heap.FunFrames X.base l->s.heap.FunFrames X.base l:=by
  intro l
  induction l with
  |nil=>intro _ _;trivial
  |cons env r ih=>
   intro hs hl;obtain⟨hk,⟨L,o,hf,hn,ho,hd⟩,hr⟩:=hl;have hL:=hs L (by unfold Ak;rw[fN,hf];exact ax);obtain⟨sl,e⟩:=I.base.slot L o ho (I.ok.Hs L hL) hL λz=>I.ok.Eh L z hL;exact{hk,⟨L,_,hf,hn,e,hd⟩,ih (λb hb=>hs b (by unfold Ak;rw[fN,hf];exact az _ hb)) hr}
 exact all X.outer (λ_ hb=>hb) I.ok.sj
def Inv.stack(I:Inv X pins Z H s):s.heap.FunFrames X.base X.stack:=by
 rcases I.ok.Py with e|⟨e,hf⟩
 ·rw[e];exact I.sj
 ·rw[e];obtain⟨m,hn,_⟩:=I.loc;refine .cons (by rw[I.ok.kind];decide) hf hn ?_ I.sj;exact ir (aC I.ok.Du I.ok.above)
def Inv.Iy(I:Inv X pins Z H s):∀b∈Ak X.stack,b∈X.env.locals::X.fs:=λb hb=>by
 rcases I.ok.Py with e|⟨e,hf⟩
 ·rw[e]at hb;exact az _ hb
 ·rw[e]at hb;unfold Ak at hb;rw[fN,hf]at hb;exact hb
def Inv.L1(I:Inv X pins Z H s):∀b∈Ak X.stack,H b=none:=λb hb=>by
 rcases aG.mp (I.Iy b hb)with e|hb
 ·rw[e];exact I.free
 ·obtain⟨_,o,ho,_⟩:=I.ok.sj.mem hb;exact I.base.free b o ho (I.ok.Hs b hb) λz=>I.ok.Eh b z hb
def Inv.step{ch:Aaj}(I:Inv X pins Z H s)
  (Df:∀b∈ch,(b∈X.ex\/X.aab.heap.objs.size<=b)/\b≠X.env.locals/\(∀x c,X.env.cells.lookup x=some c->c≠b)/\∀p∈X.pn++pins,p.1≠b)
  (keep:∀b o,b≠X.env.locals->b∉X.fs->b∉ch->s.heap.get? b=some o->H b=none->h'.get? b=some o)
  (slot:∀b o,b≠X.env.locals->b∈X.fs->b∉ch->s.heap.get? b=some o->H b=none->∃sl,h'.get? b=some {o with slots:=sl}) (free:∀b o,b∉ch->s.heap.get? b=some o->H b=none->H' b=none)
  (there:∀b o,b∉ch->s.heap.get? b=some o->∃o',h'.get? b=some o')
  (ny:∀b xs,H b=some (.tup xs)->H' b=some (.tup xs)) (ud:∀b o u,H b=some (.c6 o u)->H' b=some (.c6 o u)) (yM:∀b ps,H b=some (.Ip ps)->∃more,H' b=some (.Ip (ps++more)))
  (ns:∀m,s.heap.Ns X.env.locals m->h'.Ns X.env.locals m) (bj:jL X.prog X.w H' h') (hg:AllBare g'):
  Inv X pins Z H' {s with heap:=h',gens:=g',drawn:=d',toks:=t'}:=by
 have Mx:∀b o,X.aab.heap.get? b=some o->b≠X.env.locals:=λb o e=>aH (aZ (aF e) I.ok.above);have VX:∀b o,X.aab.heap.get? b=some o->b∉X.ex->b∉ch:=λb o e hx hb=>by
  rcases(Df b hb).1 with z|z
  ·exact hx z
  ·exact absurd (aZ (aF e) z) (dv _)
 have cellK:∀x c,X.env.cells.lookup x=some c->∀v,s.heap.IsCell c v->h'.IsCell c v:=λx c e v ⟨o,ho,hd⟩=>by
  have Qw:=λz=>(Df c z).2.2.1 x c e rfl;by_cases hc:c∈X.fs
  ·obtain⟨sl,q⟩:=slot c o (I.KN x c e) hc Qw ho (I.oG x c e);exact⟨_,q,hd⟩
  ·exact{o,keep c o (I.KN x c e) hc Qw ho (I.oG x c e),hd}
 refine{I.ok,I.os,hg,{λb o e n hb hx=>?_,λb o e n hb hx=>?_,λb o e n hx=>?_,λb o e hx=>?_,λb xs e=>ny b xs (I.base.ny b xs e),λb o xs e=>ud b o xs (I.base.ud b o xs e),λb ps e=>?_},?_,λx c e=>?_,?_,λx c e=>?_,λp hp=>?_,bj,I.len}
 ·exact keep b o (Mx b o e) hb (VX b o e hx) (I.base.keep b o e n hb hx) (I.base.free b o e n hx)
 ·obtain⟨sl,e1⟩:=I.base.slot b o e n hb hx;obtain⟨sl',e2⟩:=slot b _ (Mx b o e) hb (VX b o e hx) e1 (I.base.free b o e n hx);exact⟨sl',e2⟩
 ·obtain⟨o',e1⟩:=I.base.there b o e hx;exact free b o' (VX b o e hx) e1 (I.base.free b o e n hx)
 ·obtain⟨o',e1⟩:=I.base.there b o e hx;exact there b o' (VX b o e hx) e1
 ·obtain⟨m1,e1⟩:=I.base.yM b ps e;obtain⟨m2,e2⟩:=yM b _ e1;exact{m1++m2,by rw[e2,Array.append_assoc]}
 ·obtain⟨m,hn,hl⟩:=I.loc;refine{m,ns m hn,λi x v e1 e2 e3=>?_};obtain⟨u,r,l⟩:=hl i x v e1 e2 e3;refine{u,r,?_};rcases l with l|⟨k,c,e,z⟩
  ·exact .inl l
  ·exact .inr {k,c,e,cellK x c e _ z}
 ·obtain⟨v,z⟩:=I.cell x c e;exact{v,cellK x c e v z}
 ·obtain⟨m,⟨o,_,_,ho,_⟩,_⟩:=I.loc;exact free _ o (λz=>(Df _ z).2.1 rfl) ho I.free
 ·obtain⟨v,o,ho,hd⟩:=I.cell x c e;exact free c o (λz=>(Df c z).2.2.1 x c e rfl) ho (I.oG x c e)
 ·obtain⟨e,n,ne,nf,d⟩:=I.pin p hp;have Qw:=λz=>(Df p.1 z).2.2.2 p hp rfl;exact{keep p.1 p.2 ne nf Qw e n,free p.1 p.2 Qw e n,ne,nf,d}
def Inv.un(I:Inv X pins Z H s)(u:Un X.fs [] H H' s.heap h')(bj:jL X.prog X.w H' h'):Inv X pins Z H' {s with heap:=h',toks:=t'}:=by
 obtain⟨m,⟨o,es,ep,ho,r⟩,_⟩:=id I.loc;obtain⟨sl,hL⟩:=u.any ho I.free (-9);exact I.step (ch:=[]) (λ_ z=>nomatch z) (λb o _ hb _ e n=>u.keep b o e n hb (-9)) (λb o _ hb _ e n=>u.slot b o e n hb (-9)) (λb o _ e n=>u.free b o e n (-9)) (λb o _ e=>u.there b o e (-9)) u.ny u.ud u.yM (λm' hm=>by obtain⟨o',dG,Bv,rM,r'⟩:=hm;rw[ho]at rM;cases rM;exact⟨_,dG,Bv,hL,r'⟩) bj I.bare
def Inv.call(I:Inv X pins Z H s)(u:Un (Ak X.stack) ch H H' s.heap h')(bj:jL X.prog X.w H' h')(hg:AllBare g')
  (Df:∀b∈ch,(b∈X.ex\/X.aab.heap.objs.size<=b)/\b≠X.env.locals/\(∀x c,X.env.cells.lookup x=some c->c≠b)/\∀p∈X.pn++pins,p.1≠b):
  Inv X pins Z H' {s with heap:=h',gens:=g',drawn:=d',toks:=t'}:=by
 obtain⟨m,⟨o,es,ep,ho,r⟩,_⟩:=id I.loc;obtain⟨sl,hL⟩:=u.any ho I.free λz=>(Df _ z).2.1 rfl;exact I.step Df (λb o hL hb hc e n=>u.keep b o e n (λz=>(aG.mp (I.Iy b z)).elim hL hb) hc) (λb o _ _ hc e n=>u.any e n hc) (λb o hc e n=>u.free b o e n hc) (λb o hc e=>u.there b o e hc) u.ny u.ud u.yM (λm' hm=>by obtain⟨o',dG,Bv,rM,r'⟩:=hm;rw[ho]at rM;cases rM;exact⟨_,dG,Bv,hL,r'⟩) bj hg
def Inv.turned(I:Inv X pins Z H s)(k:∀b o,b≠it->s.heap.get? b=some o->h'.get? b=some o)(hn:H it=none)(hL:it≠X.env.locals)
  (h1:it∈X.ex\/X.aab.heap.objs.size<=it) (h2:∀x c,X.env.cells.lookup x=some c->c≠it) (h3:∀p∈X.pn++pins,p.1≠it):Inv X pins Z H {s with heap:=h',toks:=t'}:=by
 have nit:∀b u,H b=some u->b≠it:=λb u e z=>by rw[z,hn]at e;cases e
 refine I.step (ch:=[it]) (λb hb=>?_) (λb o _ _ hc e _=>k b o (-72) e) (λb o _ _ hc e _=>{o.slots,k b o (-72) e}) (λ_ _ _ _ n=>n)
  (λb o hc e=>{o,k b o (-72) e}) (λ_ _ e=>e) (λ_ _ _ e=>e) (λb ps e=>{#[],by rw[e];simp}) (λm hm=>?_) (λb u e=>?_) I.bare
 ·have e:b=it:=by simpa using hb
  subst e;exact⟨h1,hL,h2,h3⟩
 ·obtain⟨o,es,ep,ho,r⟩:=hm;exact{o,es,ep,k _ o (bV hL) ho,r}
 ·refine(I.bj b u e).jD (λc v hc q=>k c v ?_ q) (λ_ q=>q) λ_ _ q=>q;rcases hc with z|z
  ·rw[z];exact nit b u e
  ·exact nit c _ z
def Inv.tok(I:Inv X pins Z H s)(t:Nat):Inv X pins Z H {s with toks:=t}:=I.un Un.refl I.bj
def Inv.kept(I:Inv X pins Z H s)(k:∀b u,s.heap.get? b=some u->h'.get? b=some u):Inv X pins Z H {s with heap:=h',toks:=t'}:=I.un (Un.kept k) (I.bj.kept k)
def Inv.laid(I:Inv X pins Z H s)(k:∀b u,s.heap.get? b=some u->h'.get? b=some u)(hp:s.heap.objs.size<=a)(new:dC X.prog X.w (upd H a o) h' a o):
  Inv X pins Z (upd H a o) {s with heap:=h',toks:=t'}:=I.un (Un.laid k hp (I.bj.fresh hp)) (I.bj.laid k hp new)
def Inv.write(I:Inv X pins Z H s)(mu:Sz (H x))(he:e=x\/H e=some (.own x))(k:∀b u,b≠e->s.heap.get? b=some u->h'.get? b=some u)(MT:∃u,h'.get? e=some u)
  (new:dC X.prog X.w (upd H x o) h' x o):Inv X pins Z (upd H x o) {s with heap:=h',toks:=t'}:=I.un (Un.write mu he k MT) (I.bj.write mu he k MT new)
def Inv.xS(I:Inv X pins Z H s)(h:∀p∈ab0,s.heap.get? p.1=some p.2/\H p.1=none/\p.1≠X.env.locals/\p.1∉X.fs/\∀v,p.2.data≠ .cell v):Inv X ab0 Z H s:=
 {I.ok,I.os,I.bare,I.base,I.loc,I.cell,I.free,I.oG,λp hp=>(aS.mp hp).elim (λz=>I.pin p (dD _ z)) (h p),I.bj,I.len}
def JE{N:Aah}(hN:N.Nodup){i j:Nat}(a:N[i]?=some x)(b:N[j]?=some x):i=j:=by obtain⟨h1,e1⟩:=ao.mp a;obtain⟨h2,e2⟩:=ao.mp b;exact(List.getElem_inj hN).mp (e1.trans e2.symm)
def GI(I:Inv X pins Z H s)(hN:X.N.Nodup)(hi:X.N[i]?=some x)(hx:Loc X.env.scope x)(r:RelV v u)
  (h:∀s',Inv X pins (Z.set i (some v)) H s'->(∃a,Heap.SameBut a s.heap s'.heap/\(a=X.env.locals\/X.env.cells.lookup x=some a))->Q () s') (hf:X.fn x=true\/X.env.scope.names.lookup x=some .local:=by first|exact .inl rfl|exact .inr rfl|assumption):wpAny M A (storeName X.env x u) Q E s:=by
 obtain⟨m,hn,hl⟩:=id I.loc;have aef:(X.env.scope.kind==.class||(X.env.scope.kind==.module&&X.env.locals !=X.env.globals))=false:=by rw[I.ok.kind];rfl
 have hiZ:i<Z.length:=by rw[I.len];exact(ao.mp hi).1
 have KN:=I.KN;have tracked:∀{a:Addr}{h':Heap},(∃o,s.heap.get? a=some o/\H a=none)->Heap.SameBut a s.heap h'->jL X.prog X.w H h':=λ{a h'} ha hs b ob e=>by
  obtain⟨_,_,WA⟩:=ha;refine(I.bj b ob e).jD (λc w' hc q=>(hs.2 c ?_).trans q) (λ_ q=>q) λ_ _ q=>q;rintro rfl;rcases hc with rfl|hc
  ·rw[WA]at e;cases e
  ·rw[WA]at hc;cases hc
 rcases hx with hk|hk
 ·refine wpAny_storeName_local hk hn (λh' MR hs=>?_) aef;obtain⟨oL,_,_,Wu,_⟩:=id hn;refine h _ {I.ok,I.os,I.bare,{λb o e n hb hx=>?_,λb o e n hb hx=>?_,I.base.free,λb o e hx=>?_,I.base.ny,I.base.ud,I.base.yM},{_,MR,λj y v' e1 e2 e3=>?_},λy c e=>?_,I.free,I.oG,λp hp=>?_,tracked {oL,Wu,I.free} hs,by simpa using I.len} {_,hs,.inl rfl}
  ·exact(hs.2 b (aH (aZ (aF e) I.ok.above))).trans (I.base.keep b o e n hb hx)
  ·obtain⟨sl,e1⟩:=I.base.slot b o e n hb hx;exact{sl,(hs.2 b (aH (aZ (aF e) I.ok.above))).trans e1}
  ·obtain⟨o',e1⟩:=I.base.there b o e hx;exact{o',(hs.2 b (aH (aZ (aF e) I.ok.above))).trans e1}
  ·by_cases hj:j=i
   ·subst hj;rw[hi]at e1;cases e1;rw[xC hiZ]at e2;cases e2;exact{u,r,.inl {hk,by simp}}
   ·rw[zN (bV hj)]at e2;obtain⟨u',r',q⟩:=hl j y v' e1 e2 e3;refine{u',r',?_};rcases q with⟨k,e⟩|⟨k,c,e,z⟩
    ·refine .inl {k,?_};have:y≠x:=λe=>hj (JE hN e1 (e▸hi));simp[this,e]
    ·exact .inr {k,c,e,z.sameBut hs (KN y c e)}
  ·obtain⟨w',z⟩:=I.cell y c e;exact{w',z.sameBut hs (KN y c e)}
  ·obtain⟨e,n,ne,nf,d⟩:=I.pin p hp;exact{(hs.2 p.1 ne).trans e,n,ne,nf,d}
 ·have hfn:X.fn x=true:=by
   rcases hf with z|z
   ·exact z
   ·rw[z]at hk;cases hk
  obtain⟨c,hc⟩:=I.ok.has x (.inl hk);obtain⟨w',z⟩:=I.cell x c hc;refine wpAny_storeName_cell I.ok.kind hk hc z (λh' qx hs=>?_);obtain⟨oc,hoc,ad3⟩:=id z;refine h {s with heap:=h'} {I.ok,I.os,I.bare,{λb o e n hb hx=>?_,λb o e n hb hx=>?_,I.base.free,λb o e hx=>?_,I.base.ny,I.base.ud,I.base.yM},{m,hn.sameBut hs (bV (KN x c hc)),λj y v' e1 e2 e3=>?_},λy c' e=>?_,I.free,I.oG,λp hp=>?_,tracked {oc,hoc,I.oG x c hc} hs,by simpa using I.len} {c,hs,.inr hc}
  ·exact(hs.2 b (aH (aZ (aF e) (I.ok.Ng x c hfn hc)))).trans (I.base.keep b o e n hb hx)
  ·obtain⟨sl,e1⟩:=I.base.slot b o e n hb hx;exact{sl,(hs.2 b (aH (aZ (aF e) (I.ok.Ng x c hfn hc)))).trans e1}
  ·obtain⟨o',e1⟩:=I.base.there b o e hx;exact{o',(hs.2 b (aH (aZ (aF e) (I.ok.Ng x c hfn hc)))).trans e1}
  ·by_cases hj:j=i
   ·subst hj;rw[hi]at e1;cases e1;rw[xC hiZ]at e2;cases e2;exact{u,r,.inr {.inl hk,c,hc,qx}}
   ·rw[zN (bV hj)]at e2;obtain⟨u',r',q⟩:=hl j y v' e1 e2 e3;refine{u',r',?_};rcases q with q|⟨k,c',e,z'⟩
    ·exact .inl q
    ·refine .inr {k,c',e,z'.sameBut hs ?_};rintro rfl;exact hj (JE hN e1 (I.ok.inj _ _ _ e hc▸hi))
  ·by_cases hcc:c'=c
   ·subst hcc;exact⟨_,qx⟩
   ·obtain⟨w2,z2⟩:=I.cell y c' e;exact{w2,z2.sameBut hs hcc}
  ·obtain⟨e,n,ne,nf,d⟩:=I.pin p hp;refine{(hs.2 p.1 ?_).trans e,n,ne,nf,d};intro q;rw[q,hoc]at e;have q':=bS e;exact d w' (by rw[<-q'];exact ad3)
def yO(I:Inv X pins Z H s)(hN:X.N.Nodup)(hi:X.N[i]?=some x)(hx:Loc X.env.scope x)(r:RelV v u)
  (h:∀s',Inv X pins (Z.set i (some v)) H s'->Q () s') (hf:X.fn x=true\/X.env.scope.names.lookup x=some .local:=by first|exact .inl rfl|exact .inr rfl|assumption):wpAny M A (storeName X.env x u) Q E s:=
 GI I hN hi hx r (λs' I' _=>h s' I') hf
def Inv.acx(I:Inv X pins Z H s)(ho:s'.os=s.os)(u:Un (Ak X.stack) ch H H' s.heap s'.heap)(bj:jL X.prog X.w H' s'.heap)(hg:AllBare s'.gens)
  (Df:∀b∈ch,(b∈X.ex\/X.aab.heap.objs.size<=b)/\b≠X.env.locals/\(∀x c,X.env.cells.lookup x=some c->c≠b)/\∀p∈X.pn++pins,p.1≠b):Inv X pins Z H' s':=by
 obtain⟨h',g',d',t',o'⟩:=s';have e:=ho;subst e;exact I.call u bj hg Df
abbrev XK:=Value->Aak->Hp->Prop
abbrev St:=List (Aap)
abbrev VK:=V->Hp->Prop
abbrev TE:=St->Hp->VK->Prop
abbrev TT:=St->Hp->(Bool->Hp->Prop)->Prop
abbrev TA:=St->Hp->(Aao->Hp->Prop)->Prop
structure Ends where
 nx:St->Hp->Prop
 rt:VK
 bk:St->Hp->Prop:=λ_ _=>False
 ct:St->Hp->Prop:=λ_ _=>False
abbrev TS:=Ends->St->Hp->Prop
end
inductive EP(X:Cx)(pins:Aac)(Z:St)(Q:VK)(u:Value)(s':Shared):Prop
 |mk v H' (_:Inv X pins Z H' s') (_:RelV v u) (_:Q v H')
inductive TP(X:Cx)(pins:Aac)(Z:St)(Q:Bool->Hp->Prop)(b:Bool)(s':Shared):Prop
 |mk H' (_:Inv X pins Z H' s') (_:Q b H')
inductive AP(X:Cx)(pins:Aac)(Z:St)(Q:Aao->Hp->Prop)(us:Aag)(s':Shared):Prop
 |mk vs H' (_:Inv X pins Z H' s') (_:Vals vs us) (_:Q vs H')
def SP(X:Cx)(pins:Aac)(D:Ends)(f:Flow)(s':Shared):Prop:=
 match f with
 | .next=>∃σ' H',Inv X pins σ' H' s'/\D.nx σ' H'
 | .brk=>∃σ' H',Inv X pins σ' H' s'/\D.bk σ' H'
 | .cont=>∃σ' H',Inv X pins σ' H' s'/\D.ct σ' H'
 | .ret u=>∃v σ' H',Inv X pins σ' H' s'/\RelV v u/\D.rt v H'
def PE(X:Cx)(e:Expr)(t:TE):Prop:=
 ∀(pins:Aac)(s:Shared)(Z:St)(H:Hp)(Q:VK),Inv X pins Z H s->t Z H Q->wpAny (-4) X.A (eval e X.env) (EP X pins Z Q) X.xe s
def PT(X:Cx)(e:Expr)(t:TT):Prop:=
 ∀(pins:Aac)(s:Shared)(Z:St)(H:Hp)(Q:Bool->Hp->Prop),Inv X pins Z H s->t Z H Q->wpAny (-4) X.A (isTrue e X.env (eval e X.env)) (TP X pins Z Q) X.xe s
def PW(X:Cx)(e:Expr)(t:TT):Prop:=
 ∀(whole:Sem Value)(pins:Aac)(s:Shared)(Z:St)(H:Hp)(Q:Bool->Hp->Prop),Inv X pins Z H s->t Z H Q->wpAny (-4) X.A (isTrue e X.env whole) (TP X pins Z Q) X.xe s
def PW.pt(h:PW X e t):PT X e t:=h _
def PA(X:Cx)(es:List Expr)(t:TA):Prop:=
 ∀(pos:Pos)(pins:Aac)(s:Shared)(Z:St)(H:Hp)(Q:Aao->Hp->Prop),Inv X pins Z H s->t Z H Q->wpAny (-4) X.A (spliced (-30)) (AP X pins Z Q) X.xe s
def PS(X:Cx)(st:Stmt)(t:TS):Prop:=
 ∀(pins:Aac)(s:Shared)(Z:St)(H:Hp)(D:Ends),Inv X pins Z H s->t D Z H->wpAny (-4) X.A (exec st X.env) (SP X pins D) X.xe s
def lN(X:Cx)(st:List Stmt)(t:TS):Prop:=
 ∀(pins:Aac)(s:Shared)(Z:St)(H:Hp)(D:Ends),Inv X pins Z H s->t D Z H->wpAny (-4) X.A (execs st X.env) (SP X pins D) X.xe s
def iC(h:wpAny M A t Q E s)(hQ:∀a s,Q a s->Q' a s):wpAny M A t Q' E s:=cZ h hQ λ_ _ x=>x
def cX{X:Cx}{pins:Aac}{Z:St}{Q:VK}{t:Sem Value}{Q':Aae}{s:Shared}(h:wpAny (-4) X.A t (EP X pins Z Q) X.xe s)(k:∀u s x H,Inv X pins Z H s->RelV x u->Q x H->Q' u s):wpAny (-4) X.A t Q' X.xe s:=iC h λu s ⟨x,H,I,r,q⟩=>k u s x H I r q
def qH{X:Cx}{pins:Aac}{Z:St}{Q:Aao->Hp->Prop}{t:Sem (Aag)}{Q':Aag->Shared->Prop}{s:Shared}(h:wpAny (-4) X.A t (AP X pins Z Q) X.xe s)(k:∀u s x H,Inv X pins Z H s->Vals x u->Q x H->Q' u s):wpAny (-4) X.A t Q' X.xe s:=iC h λu s ⟨x,H,I,r,q⟩=>k u s x H I r q
def FV{X:Cx}{pins:Aac}{Z:St}{Q:Bool->Hp->Prop}{t:Sem Bool}{Q':Bool->Shared->Prop}{s:Shared}(h:wpAny (-4) X.A t (TP X pins Z Q) X.xe s)(k:∀u s H,Inv X pins Z H s->Q u H->Q' u s):wpAny (-4) X.A t Q' X.xe s:=iC h λu s ⟨H,I,q⟩=>k u s H I q
section
variable{X:Cx}
inductive AE(i:Nat)(Z:St)(H:Hp)(Q:VK):Prop
 |mk v (_:Z[i]?=some (some v)) (_:Q v H)
def tC(v:V):TE:=λ_ H Q=>Q v H
def Z8(hN:X.N[i]?=some x)(hv:Vis X.env.scope x)(hd:(-27)=false:=by decide)(Bu:(x==("__classdict__":Str))=false:=by decide):PE X (.Name x pos) (AE i):=by
 intro pins s Z H Q I h;obtain⟨v,e,h⟩:=h;obtain⟨m,hn,hl⟩:=I.loc;obtain⟨u,r,l⟩:=hl i x v hN e hv;have fin:EP X pins Z Q u s:=⟨v,H,I,r,h⟩;rcases l with⟨hk,hm⟩|⟨hk,c,hc,WD⟩
 ·exact EE (wpAny_loadName_local I.ok.kind hk hn hm fin) hd
 ·rcases hk with hk|hk
  ·exact EE (wpAny_loadName_cell I.ok.kind hk hc WD fin) hd
  ·exact EE (wpAny_loadName_free I.ok.kind hk hc WD fin Bu) hd
def bg{i j pos}:PE X (.Constant (.int i) j pos) (tC (.int i)):=λ_ _ _ H _ I h=>wpAny_Constant_int {.int i,H,I.tok _,⟨_,rfl⟩,h}
def pU{b j pos}:PE X (.Constant (.bool b) j pos) (tC (.bl b)):=λ_ _ _ H _ I h=>Constant_bool {.bl b,H,I,rfl,h}
def Qd{j pos}:PE X (.Constant .none j pos) (tC .cI):=λ_ _ _ H _ I h=>Constant_none {.cI,H,I,rfl,h}
def eI{x j pos}:PE X (.Constant (.str x) j pos) (tC (.str x)):=λ_ _ _ H _ I h=>Calls.Constant_str {.str x,H,I.tok _,⟨_,rfl⟩,h}
def Gl(X:Cx)(x:Str):Prop:=X.env.kindOf x=some .globalImplicit
def Gd(I:Inv X pins Z H s)(hg:Gl X x)(hm:X.mg x=some u)(h:Q u s)
  (hd:(-27)=false:=by decide):wpAny (-4) X.A (eval (.Name x pos) X.env) Q E s:=
 ui I.ok.kind hg (Calls.loadGlobal_global (by rw[I.ok.glob];exact I.mod.glob.keeps I.bk) hm h) hd
def qN(I:Inv X pins Z H s)(hg:Gl X x)(hm:X.mg x=none)(hv:bootBuiltins x=some u)(h:Q u s)
  (hn:x≠"__name__":=by decide) (hd:(-27)=false:=by decide):wpAny (-4) X.A (eval (.Name x pos) X.env) Q E s:=by
 obtain⟨mb,h1,h2⟩:=I.mod.blt;exact ui I.ok.kind hg (Calls.loadGlobal_builtin (by rw[I.ok.glob];exact I.mod.glob.keeps I.bk) hm (by rw[I.ok.blt];exact h1.keeps I.bk) ((h2 x hn).trans hv) h) hd
def Mp(hg:Gl X x)(hm:X.mg x=some u)(r:RelV v u)(hd:(-27)=false:=by decide):PE X (.Name x pos) (tC v):=
 λ_ _ _ H _ I h=>Gd I hg hm ⟨v,H,I,r,h⟩ hd
def XZ(hg:Gl X x)(hm:X.mg x=none)(hv:bootBuiltins x=some u)(r:RelV v u)(hn:x≠"__name__":=by decide)(hd:(-27)=false:=by decide):PE X (.Name x pos) (tC v):=
 λ_ _ _ H _ I h=>qN I hg hm hv ⟨v,H,I,r,h⟩ hn hd
variable{a b:Expr}{pos:Pos}
def PC(X:Cx)(op:CmpOp)(a b:Expr)(t:TE):Prop:=
 ∀(pins:Aac)(s:Shared)(Z:St)(H:Hp)(Q:VK),Inv X pins Z H s->t Z H Q->
  wpAny (-4) X.A (eval a X.env) (λv aaa=>wpAny (-4) X.A (eval b X.env) (λu aae=>wpAny (-4) X.A (compareOp op v u) (EP X pins Z Q) X.xe aae) X.xe aaa) X.xe s
inductive LY(Q:Bool->Hp->Prop)(x:V)(H1:Hp):Prop
 |mk c (_:x=.bl c) (_:Q c H1)
def tB(t:TE):TT:=λZ H Q=>t Z H λx H1=>LY Q x H1
def Jb(h:PC X op a b t)(h1:behindInMarks op b=false:=by first|exact ac6 _ (by decide) (by decide)|rfl):PT X (.Compare a [op] [b] pos) (tB t):=by intro pins s Z H Q I hw;refine xG (iC (h pins s Z H _ I hw) λv s1 h1=>iC h1 λu s2 h2=>iC h2 λc s3 uy=>?_) h1;obtain⟨x,H1,I1,r1,q1⟩:=uy;obtain⟨d,rfl,q⟩:=q1;cases r1;exact iw ⟨H1,I1,q⟩
def mD(h:PE X e t)(he:∀whole,isTrue e X.env whole=(do let v<-whole;standAt e.pos;holding [v] (truthy v)):=by intro _;rfl):PT X e (tB t):=by intro pins s Z H Q I hw;refine isTrue_plain (cX (h pins s Z H _ I hw) λv s1 x H1 I1 r1 q1=>?_) (he _);obtain⟨d,rfl,q⟩:=q1;cases r1;exact iw ⟨H1,I1,q⟩
variable{ta tb:TE}{tA LY:TT}{rest:List Expr}
def acO(t u:TT):TT:=λZ H Q=>t Z H λc H1=>if c=true then u Z H1 Q else Q false H1
def tOr(t u:TT):TT:=λZ H Q=>t Z H λc H1=>if c=true then Q true H1 else u Z H1 Q
def acI(t:TT):TT:=λZ H Q=>t Z H λc H1=>Q (!c) H1
def Cc(ha:PT X a tA):PW X (.BoolOp .And [a] pos) tA:=by
 intro wh pins s Z H Q I h;refine isTrue_and (iC (ha pins s Z H Q I h) λc s1 e=>?_);cases c with
 |true=>exact isTrue_and_nil e
 |false=>exact e
def AU(ha:PT X a tA):PW X (.BoolOp .Or [a] pos) tA:=by
 intro wh pins s Z H Q I h;refine isTrue_or (iC (ha pins s Z H Q I h) λc s1 e=>?_);cases c with
 |false=>exact isTrue_or_nil e
 |true=>exact e
def EU(ha:PT X a tA)(hb:PW X (.BoolOp .And (b::rest) pos) LY):PW X (.BoolOp .And (a::b::rest) pos) (acO tA LY):=by
 intro wh pins s Z H Q I h;refine isTrue_and (FV (ha pins s Z H _ I h) λc s1 H1 I1 q1=>?_);cases c with
 |true=>exact hb wh pins s1 Z H1 Q I1 q1
 |false=>exact⟨H1,I1,q1⟩
def y0(ha:PT X a tA)(hb:PW X (.BoolOp .Or (b::rest) pos) LY):PW X (.BoolOp .Or (a::b::rest) pos) (tOr tA LY):=by
 intro wh pins s Z H Q I h;refine isTrue_or (FV (ha pins s Z H _ I h) λc s1 H1 I1 q1=>?_);cases c with
 |true=>exact⟨H1,I1,q1⟩
 |false=>exact hb wh pins s1 Z H1 Q I1 q1
def tE(ha:PT X a tA):PT X (.UnaryOp .Not a pos) (acI tA):=by intro pins s Z H Q I h;exact isTrue_not (FV (ha pins s Z H (λc H1=>Q (!c) H1) I h) λ_ _ a b c=>⟨a,b,c⟩)
inductive ZG(tb:TE)(Z:St)(Q:VK)(x:V)(H1:Hp):Prop
 |mk c (_:x=.bl c) (_:if c=true then tb Z H1 Q else Q (.bl false) H1)
def abU(ta tb:TE):TE:=λZ H Q=>ta Z H λx H1=>ZG tb Z Q x H1
def Qc{op}(h:PE X a t):PE X (.BoolOp op [a] pos) t:=λpins s Z H Q I hw=>BoolOp_one (h pins s Z H Q I hw)
def Jq(ha:PE X a ta)(hb:PE X (.BoolOp .And (b::rest) pos) tb):PE X (.BoolOp .And (a::b::rest) pos) (abU ta tb):=by
 intro pins s Z H Q I h;refine BoolOp_and (cX (ha pins s Z H _ I h) λv s1 x H1 I1 r1 q1=>?_);obtain⟨c,rfl,q1⟩:=q1;cases r1;refine iw ?_;cases c with
 |true=>exact hb pins s1 Z H1 Q I1 q1
 |false=>exact{.bl false,H1,I1,rfl,q1}
def tIf(t:TT)(ta tb:TE):TE:=λZ H Q=>t Z H λc H1=>if c=true then ta Z H1 Q else tb Z H1 Q
def Jk(hc:PT X c tA)(ha:PE X a ta)(hb:PE X b tb):PE X (.IfExp c a b pos) (tIf tA ta tb):=by
 intro pins s Z H Q I h;refine wpAny_IfExp (FV (hc pins s Z H _ I h) λd s1 H1 I1 q1=>?_);cases d with
 |true=>exact ha pins s1 Z H1 Q I1 q1
 |false=>exact hb pins s1 Z H1 Q I1 q1
end
def bo(K:Frag)(H:Hp)(a:Addr)(xs:Aao):Prop:=
 Rd H a (.lst xs)\/
  ∃(o:Obj)(aX:Aal)(n:Nat),K.lookup a=some o/\o.cls=.type "list"/\o.dict=none/\o.data=.seq aX n/\aX.size<=sizeLine/\Vals xs aX.toList
def bx(K:Frag)(H:Hp)(a:Addr)(xs:Aao):Prop:=
 Rd H a (.tup xs)\/
  ∃(o:Obj)(aX:Aal)(n:Nat),K.lookup a=some o/\o.cls=.type "tuple"/\o.data=.seq aX n/\aX.size<=sizeLine/\Vals xs aX.toList
def aev:Value->Aap
 | .none=>some .cI
 | .bool b=>some (.bl b)
 | .int i _=>some (.int i)
 | .str x _=>some (.str x)
 | .bytes b _=>some (.uC b)
 | .float b _=>some (.KA b)
 | .ref a=>some (-49)
 | .type n=>some (.ty n)
 |_=>none
def RelV.abs(r:RelV x u):aev u=some x:=by
 cases x with
 |cI=>cases r;rfl
 |bl _=>cases r;rfl
 |int _=>obtain⟨t,rfl⟩:=r;rfl
 |str _=>obtain⟨t,rfl⟩:=r;rfl
 |uC _=>obtain⟨t,rfl⟩:=r;rfl
 |KA _=>obtain⟨t,rfl⟩:=r;rfl
 |ref _=>cases r;rfl
 |ty _=>cases r;rfl
def RelV.inj(r:RelV x u)(q:RelV y u):x=y:=bS (r.abs.symm.trans q.abs)
theorem Vals.inj:∀{xs ys:Aao}{us:Aag},Vals xs us->Vals ys us->xs=ys
 |_,_,_,.nil,.nil=>rfl
 |_,_,_,.cons r t,.cons r' t'=>by rw[r.inj r',Vals.inj t t']
section
variable{X:Cx}{pins:Aac}{Z:St}{H:Hp}{s:Shared}{a:Addr}{xs ys:Aao}
def bo.of{K:Frag}(h:H a=some (.lst xs)):bo K H a xs:=.inl (.inl h)
def bx.of{K:Frag}(h:H a=some (.tup xs)):bx K H a xs:=.inl (.inl h)
def Inv.list(I:Inv X pins Z H s)(h:bo X.K H a xs):∃aX:Aag,Vals xs aX/\PlainL s.heap a aX.toArray/\xs.length<=sizeLine:=by
 rcases h with h|⟨o,aX,n,hk,hc,hd,hs,hz,r⟩
 ·obtain⟨z,aX,n,r,e⟩:=h.ok I.bj;exact{aX,r,⟨_,n,e,rfl,rfl,rfl⟩,z}
 ·refine{aX.toList,r,{o,n,I.mY a o hk,hc,hd,by simpa using hs},?_};have e:=r.length;simp only[aQ]at e;lia
def Inv.tuple(I:Inv X pins Z H s)(h:bx X.K H a xs):∃aX:Aag,Vals xs aX/\IsTup s.heap a aX.toArray/\xs.length<=sizeLine:=by
 rcases h with h|⟨o,aX,n,hk,hc,hs,hz,r⟩
 ·obtain⟨z,aX,r,p,_⟩:=h.ok I.bj;exact⟨aX,r,p,z⟩
 ·refine{aX.toList,r,{o,I.mY a o hk,hc,n,by simpa using hs},?_};have e:=r.length;simp only[aQ]at e;lia
def Inv.D4(I:Inv X pins Z H s)(h:bo X.K H a xs)(h':bo X.K H a ys):xs=ys:=by
 obtain⟨aX,r,⟨o,n,e,_,_,d⟩,_⟩:=I.list h;obtain⟨its',r',⟨o',n',e',_,_,d'⟩,_⟩:=I.list h';rw[e]at e';cases e';rw[d]at d';injection d' with d1 _;have:aX=its':=by simpa using cc Array.toList d1
 subst this;exact r.inj r'
def Inv.Az(I:Inv X pins Z H s)(h:bx X.K H a xs)(h':bx X.K H a ys):xs=ys:=by
 obtain⟨aX,r,⟨o,e,_,n,d⟩,_⟩:=I.tuple h;obtain⟨its',r',⟨o',e',_,n',d'⟩,_⟩:=I.tuple h';rw[e]at e';cases e';rw[d]at d';injection d' with d1 _;have:aX=its':=by simpa using cc Array.toList d1
 subst this;exact r.inj r'
end
abbrev Cx.xh(X:Cx)(E:Aae):Cx:={X with xe:=E}
abbrev Cx.VT(X:Cx):Cx:=X.xh λ_ _=>False
def Cx.Ok.xh{X:Cx}(ok:X.Ok)(E:Aae):(X.xh E).Ok:=
 {ok.mod,ok.kind,ok.glob,ok.blt,ok.above,ok.inj,ok.has,ok.Ng,ok.hd,ok.frames,ok.Py,ok.RX,ok.bs,ok.Du,ok.F8,ok.Eh,ok.sj,ok.Hs}
def Cx.Ok.tw{X:Cx}(ok:(X.xh E).Ok):X.Ok:=
 {ok.mod,ok.kind,ok.glob,ok.blt,ok.above,ok.inj,ok.has,ok.Ng,ok.hd,ok.frames,ok.Py,ok.RX,ok.bs,ok.Du,ok.F8,ok.Eh,ok.sj,ok.Hs}
section
variable{X:Cx}{pins:Aac}{Z:St}{H:Hp}{s:Shared}{E:Aae}
def Inv.xh(I:Inv X pins Z H s)(E:Aae):Inv (X.xh E) pins Z H s:={I.ok.xh E,I.os,I.bare,I.base,I.loc,I.cell,I.free,I.oG,I.pin,I.bj,I.len}
def Inv.tw(I:Inv (X.xh E) pins Z H s):Inv X pins Z H s:={I.ok.tw,I.os,I.bare,I.base,I.loc,I.cell,I.free,I.oG,I.pin,I.bj,I.len}
def SP.tw(h:SP (X.xh E) pins D f s'):SP X pins D f s':=by
 cases f with
 |next=>obtain⟨σ',H',I,q⟩:=h;exact{σ',H',I.tw,q}
 |brk=>obtain⟨σ',H',I,q⟩:=h;exact{σ',H',I.tw,q}
 |cont=>obtain⟨σ',H',I,q⟩:=h;exact{σ',H',I.tw,q}
 |ret u=>obtain⟨v,σ',H',I,r,q⟩:=h;exact{v,σ',H',I.tw,r,q}
def lN.VT{st:List Stmt}(h:lN X.VT st t):lN X st t:=λpins s Z H D I hw=>
 cZ (h pins s Z H D (I.xh _) hw) (λ_ _ q=>q.tw) λ_ _ z=>False.elim z
end
section
variable{X:Cx}{st:Stmt}{rest:List Stmt}{t u:TS}{e:Expr}{te:TE}{pos:Pos}
def abO:TS:=λD Z H=>D.nx Z H
def Ir(t u:TS):TS:=λD Z H=>t {D with nx:=u D} Z H
def fm:lN X [] abO:=λ_ _ Z H _ I h=>qG ⟨Z,H,I,h⟩
def aO(h1:PS X st t)(h2:lN X rest u):lN X (st::rest) (Ir t u):=by
 intro pins s Z H D I h;refine wpAny_execs_cons (iC (h1 pins s Z H {D with nx:=u D} I h) λf s1 q=>?_);cases f with
 |next=>
  obtain⟨σ',H',I',q⟩:=q;exact h2 pins s1 σ' H' D I' q
 |ret v=>exact q
 |brk=>exact q
 |cont=>exact q
def aY(h1:PS X st t):lN X [st] t:=by
 intro pins s Z H D I h;refine wpAny_execs_cons (iC (h1 pins s Z H D I h) λf s1 q=>?_);cases f with
 |next=>exact qG q
 |ret v=>exact q
 |brk=>exact q
 |cont=>exact q
def Inv.quiet(I:Inv X pins Z H s):interactive X.env=false:=by simp[interactive,I.ok.kind]
def abQ(te:TE):TS:=λD Z H=>te Z H λ_ H1=>D.nx Z H1
def kH(he:PE X e te)(hs:swapsWith e none pos.line X.env=pure false:=by rfl):PS X (.Expr e pos) (abQ te):=by intro pins s Z H D I h;exact wpAny_Expr_any (cX (he pins s Z H _ I h) λv s1 x H1 I1 r1 q1=>⟨Z,H1,I1,q1⟩) I.quiet hs
def acG(te:TE):TS:=λD Z H=>te Z H D.rt
def cN(he:PE X e te):PS X (.Return (some e) pos) (acG te):=by intro pins s Z H D I h;exact wpAny_Return_some (cX (he pins s Z H _ I h) λv s1 x H1 I1 r1 q1=>⟨x,Z,H1,I1,r1,q1⟩)
def acK(c:TT)(t u:TS):TS:=λD Z H=>c Z H λb H1=>if b=true then t D Z H1 else u D Z H1
def iJ(hc:PT X c tc)(ha:lN X a t)(hb:lN X b u):PS X (.If c a b pos) (acK tc t u):=by
 intro pins s Z H D I h;refine wpAny_If (FV (hc pins s Z H _ I h) λd s1 H1 I1 q1=>?_);cases d with
 |true=>exact ha pins s1 Z H1 D I1 q1
 |false=>exact hb pins s1 Z H1 D I1 q1
abbrev TG:=V->St->Hp->(St->Hp->Prop)->Prop
abbrev WZ:=Aao->St->Hp->(St->Hp->Prop)->Prop
end
def PG(X:Cx)(target:Expr)(t:TG):Prop:=
 ∀(pins:Aac)(s:Shared)(Z:St)(H:Hp)(v:V)(u:Value)(Q:St->Hp->Prop),Inv X pins Z H s->RelV v u->t v Z H Q->
  wpAny (-4) X.A (assign target X.env u) (λ_ s'=>∃σ' H',Inv X pins σ' H' s'/\Q σ' H') X.xe s
def DA(X:Cx)(ts:List Expr)(t:WZ):Prop:=
 ∀(pins:Aac)(s:Shared)(Z:St)(H:Hp)(vs:Aao)(us:Aag)(Q:St->Hp->Prop),Inv X pins Z H s->Vals vs us->t vs Z H Q->
  wpAny (-4) X.A (assignInOrder ((assignEach ts X.env).map (·.2)) us) (λ_ s'=>∃σ' H',Inv X pins σ' H' s'/\Q σ' H') X.xe s
abbrev aby:=V->V->V->Hp->(Hp->Prop)->Prop
def abz(X:Cx)(t:aby):Prop:=
 ∀(pins:Aac)(s:Shared)(Z:St)(H:Hp)(o i v:V)(ov iv u:Value)(Q:Hp->Prop),Inv X pins Z H s->RelV o ov->RelV i iv->RelV v u->t o i v H Q->
  wpAny (-4) X.A (setItem ov iv u) (λ_ s'=>∃H',Inv X pins Z H' s'/\Q H') X.xe s
section
variable{X:Cx}{pos:Pos}
def sW(i:Nat):TG:=λv Z H Q=>Q (Z.set i (some v)) H
def oF(hN:X.N.Nodup)(hi:X.N[i]?=some x)(hx:Loc X.env.scope x)(hf:X.fn x=true\/X.env.scope.names.lookup x=some .local:=by first|exact .inl rfl|exact .inr rfl|assumption):PG X (.Name x pos) (sW i):=by intro pins s Z H v u Q I r h;exact Cv (yO I hN hi hx r (λs' I'=>⟨_,H,I',h⟩) hf)
def abn:WZ:=λvs Z H Q=>vs=[]/\Q Z H
inductive OH(t:TG)(u:WZ)(vs:Aao)(Z:St)(H:Hp)(Q:St->Hp->Prop):Prop
 |mk v r (_:vs=v::r) (_:t v Z H λσ' H'=>u r σ' H' Q)
def j6:DA X [] abn:=by intro pins s Z H vs us Q I r h;obtain⟨e,h⟩:=h;subst e;cases r;exact CB ⟨Z,H,I,h⟩
def df(h1:PG X e t)(h2:DA X es u)
  (hs:(assignEach (e::es) X.env).map (·.2)=assign e X.env::(assignEach es X.env).map (·.2):=by rfl):DA X (e::es) (OH t u):=by
 intro pins s Z H vs us Q I r h;obtain⟨v,vr,e1,h⟩:=h;subst e1;cases r with
 |cons r rr=>
  rw[hs];refine tT (iC (h1 pins s Z H _ _ _ I r h) λ_ s1 yg=>?_);obtain⟨σ1,H1,I1,q1⟩:=yg;exact h2 pins s1 σ1 H1 _ _ Q I1 rr q1
inductive UQ(K:Frag)(n:Nat)(t:WZ)(v:V)(Z:St)(H:Hp)(Q:St->Hp->Prop):Prop
 |mk a xs (_:v=.ref a) (_:bx K H a xs) (_:xs.length=n) (_:t xs Z H Q)
def mE(hc:X.calm=true)(h:DA X es t)
  (hn:(assignEach es X.env).length=n:=by rfl) (gq:(assignEach es X.env).findIdx? (·.1)=none:=by rfl):PG X (.Tuple es k pos) (UQ X.K n t):=by
 intro pins s Z H v u Q I r hw;obtain⟨a,xs,e1,hq,hl,hw⟩:=hw;subst e1;cases r;obtain⟨aX,rv,ht,hz⟩:=I.tuple hq;refine assign_Tuple_tuple (I.ok.hd hc) ht (by simp[hn,<-hl,rv.length]) gq λh' hx=>?_;have I1:=I.kept (t':=s.toks) λb o e=>hx b o (aH (aF e)) e;exact h pins _ Z H xs _ Q I1 (by simpa using rv) hw
def aen(to ti:TE)(t:aby):TG:=λv Z H Q=>to Z H λo H1=>ti Z H1 λi H2=>t o i v H2 λH3=>Q Z H3
def EX(ho:PE X o to)(hi:PE X i ti)(hs:abz X t)
  (ha:∀v,assign (.Subscript o i pos) X.env v=(do
   let ov<-holding [v] (eval o X.env)
   let iv<-holding [v,ov] (eval i X.env)
   standAt pos
   holding [v,ov,iv] (setItem ov iv v)
   release [v,ov,iv] []):=by intro _;rfl):PG X (.Subscript o i pos) (aen to ti t):=by
 intro pins s Z H v u Q I r h;rw[ha];refine ae (bP (cX (ho pins s Z H _ I h) λov s1 x H1 I1 r1 q1=>?_));refine ae (bP (cX (hi pins s1 Z H1 _ I1 q1) λiv s2 y H2 I2 r2 q2=>?_));refine ae (t4 (ae (bP (iC (hs pins s2 Z H2 x y v ov iv u _ I2 r1 r2 r q2) λ_ s3 JZ=>?_))));obtain⟨H3,I3,q3⟩:=JZ;exact wpAny_release ⟨Z,H3,I3,q3⟩
def S6(te:TE)(g:TG):TS:=λD Z H=>te Z H λx H1=>g x Z H1 D.nx
def vE(he:PE X e te)(hg:PG X tg g)(hs:swapsWithSole [tg] e pos.line X.env=pure false:=by rfl)(hw:swappedStores [tg] e X.env=pure none:=by rfl)
  (h1:(assignEach [tg] X.env).map (·.2)=[assign tg X.env]:=by rfl):PS X (.Assign [tg] e pos) (S6 te g):=by
 intro pins s Z H D I h;refine wpAny_Assign_stores (cX (he pins s Z H _ I h) λv s1 x H1 I1 r1 q1=>?_) hs hw;rw[h1];exact iC (hg pins s1 Z H1 x v _ I1 r1 q1) λ_ s2 q=>q
def pz(hN:X.N.Nodup)(hi:X.N[i]?=some x)(hx:Loc X.env.scope x)(he:PE X e te)(hs:swapsWith e (some (.Name x pos')) pos.line X.env=pure false:=by rfl)(hf:X.fn x=true\/X.env.scope.names.lookup x=some .local:=by first|exact .inl rfl|exact .inr rfl|assumption):
  PS X (.Assign [.Name x pos'] e pos) (S6 te (sW i)):=by
 intro pins s Z H D I h;refine wpAny_Assign_Name (cX (he pins s Z H _ I h) λv s1 y H1 I1 r1 q1=>?_) hs;exact yO I1 hN hi hx r1 (λs2 I2=>⟨_,H1,I2,q1⟩) hf
inductive abN(i:Nat)(j:Nat)(D:Ends)(Z:St)(vs:Aao)(H1:Hp):Prop
 |mk v w (_:vs=[v,w]) (_:D.nx ((Z.set i (some v)).set j (some w)) H1)
def acH(i j:Nat)(ta:TA):TS:=λD Z H=>ta Z H λvs H1=>abN i j D Z vs H1
def Z6{kt k2 Z5}(hc:X.calm=true)(hN:X.N.Nodup)(hi:X.N[i]?=some x)(hj:X.N[j]?=some y)(hij:i≠j)
  (hx:X.env.scope.names.lookup x=some .local) (hy:X.env.scope.names.lookup y=some .local) (ha:PA X [a,b] ta)
  (hw:swappedStores [.Tuple [.Name x px,.Name y py] kt pt] (.Tuple [a,b] k2 Z5) X.env=pure (some [x,y]))
  (hs:swapsWithSole [.Tuple [.Name x px,.Name y py] kt pt] (.Tuple [a,b] k2 Z5) pos.line X.env=pure false:=by rfl):
  PS X (.Assign [.Tuple [.Name x px,.Name y py] kt pt] (.Tuple [a,b] k2 Z5) pos) (acH i j ta):=by
 intro pins s Z H D I h;rw[exec_Assign_arm];refine ae (t4 ?_);rw[hs];refine ae (af ?_);rw[au (-8)];refine ae (Tuple_ (qH (ha _ pins s Z H _ I h) λus s1 vs H1 I1 r1 q1=>?_));obtain⟨v,w,e1,q1⟩:=q1;subst e1;obtain⟨u1,u2,rfl,rv,pq⟩:∃u1 u2,us=[u1,u2]/\RelV v u1/\RelV w u2:=by
  cases r1 with
  |cons p q=>
   cases q with
   |cons p' q'=>
    cases q';exact⟨_,_,rfl,p,p'⟩
 refine bT ?_ (-71);have I2:Inv X pins Z H1 {s1 with heap:=s1.heap.push {cls:=.type "tuple",data:=.seq [u1,u2].toArray}}:=I1.kept λb o e=>ah _ e;rw[hw];refine ae (af ?_);refine ae (fQ (ae (unpackItems_tuple (items:=#[u1,u2]) (I.ok.hd hc) (xb s1.heap _) λh' yh=>?_)));have I3:=I2.kept (t':=s1.toks) λb o e=>yh b o (aH (aF e)) e;refine ae (tT (wpAny_bindName (yO I3 hN hj (.inl hy) pq (λs2 I4=>?_) (.inr hy))));refine tT (wpAny_bindName (yO I4 hN hi (.inl hx) rv (λs3 I5=>CB (af ?_)) (.inr hx)));rw[List.set_comm _ _ (bV hij)]at I5;exact⟨_,H1,I5,q1⟩
def Zw(c:TT)(tb:TS):TS:=λD Z H=>∃W:Nat->St->Hp->Prop,(∃m,W m Z H)/\∀m Z H,W m Z H->
 c Z H λb H1=>if b=true then∃N:St->Hp->Prop,(∀σ' H',N σ' H'->∃m',m'<m/\W m' σ' H')/\tb {D with nx:=N,ct:=N,bk:=D.nx} Z H1 else D.nx Z H1
def Tt(hp:PassesOwn (-4) X.A X.env X.xe)(hc:PT X c tc)(hb:lN X body tb):PS X (.While c body [] pos) (Zw tc tb):=by
 intro pins s Z H D I h;obtain⟨W,⟨m0,w0⟩,turn⟩:=h;refine wpAny_While (codeAny_whileLoop (λn s'=>∃σ' H',Inv X pins σ' H' s'/\W n σ' H') ?_ m0 ⟨Z,H,I,w0⟩);rintro n s1 ⟨σ1,H1,I1,w1⟩;refine jq hp (FV (hc pins s1 σ1 H1 _ I1 (turn n σ1 H1 w1)) λb s2 H2 I2 q2=>?_);cases b with
 |true=>
  obtain⟨N,hN,q2⟩:=q2;rw[aD rfl];refine jq hp (iC (hb pins s2 σ1 H2 _ I2 q2) λf s3 q3=>?_);cases f with
  |next=>
   obtain⟨σ3,H3,I3,n3⟩:=q3;obtain⟨m',hm,w3⟩:=hN σ3 H3 n3;exact⟨m',hm,σ3,H3,I3,w3⟩
  |cont=>
   obtain⟨σ3,H3,I3,n3⟩:=q3;obtain⟨m',hm,w3⟩:=hN σ3 H3 n3;exact⟨m',hm,σ3,H3,I3,w3⟩
  |brk=>exact q3
  |ret v=>exact q3
 |false=>
  rw[au aU];exact qG ⟨σ1,H2,I2,q2⟩
structure It where
 go:Nat->Hp->Prop
 zU:Nat->Hp->V->Hp->Prop
 stop:Nat->Hp->Prop
end
def qo(X:Cx)(pins:Aac)(H:Hp)(b:Addr):Prop:=
 H b=none/\b≠X.env.locals/\b∉X.fs/\(b∈X.ex\/X.aab.heap.objs.size<=b)/\(∀x c,X.env.cells.lookup x=some c->c≠b)/\∀p∈X.pn++pins,p.1≠b
def Inv.sr(I:Inv X pins Z H s)(hb:s.heap.objs.size<=b)(hn:H' b=none):qo X pins H' b:=by
 refine{hn,bu (aZ I.lt hb),I.aar hb,.inr (aC I.sz hb),λx c e z=>?_,λp hp z=>?_}
 ·obtain⟨v,q⟩:=I.cell x c e;exact absurd (aZ q.lt (by rw[z];exact hb)) (dv _)
 ·exact absurd (aZ (aF (I.pin p hp).1) (by rw[z];exact hb)) (dv _)
structure Turn(P:Program)(w:World)(K:Frag)(tg:Expr)(J:It)(fp:Aaj)(it:Addr)(tn:Nat->Heap->Prop):Prop where
 mem:it∈fp
 obj:∀i h,tn i h->∀b∈fp,∃o,h.get? b=some o/\∀v,o.data≠ .cell v
 keep:∀i h h',tn i h->(∀b∈fp,∀o,h.get? b=some o->h'.get? b=some o)->tn i h'
 item:∀(X:Cx),X.prog=P->X.w=w->X.K=K->X.calm=true->∀(i:Nat)(pins:Aac)(s:Shared)(Z:St)(H:Hp)(E:Aae),Inv X pins Z H s->(∀b∈fp,qo X pins H b)->tn i s.heap->J.go i H->
  wpAny (-25) X.A (pyNext (.ref it)) (λr s1=>∃u,r=some u/\
   wpAny (-25) X.A (letOwnedTupleGo tg (.ref it) u) (λ_ s2=>∃x H',Inv X pins Z H' s2/\RelV x u/\J.zU i H x H'/\tn (i+1) s2.heap/\∀b∈fp,H' b=none) E s1) E s
 done:∀(X:Cx),X.prog=P->X.w=w->X.K=K->X.calm=true->∀(i:Nat)(pins:Aac)(s:Shared)(Z:St)(H:Hp)(E:Aae),Inv X pins Z H s->(∀b∈fp,qo X pins H b)->tn i s.heap->J.stop i H->
  wpAny (-25) X.A (pyNext (.ref it)) (λr s1=>r=none/\Inv X pins Z H s1) E s
 self:∀(A:Around)(i:Nat)(s:Shared)(Q:Aae)(E:Aae),tn i s.heap->Q (.ref it) s->wpAny (-25) A (pyIter (.ref it)) Q E s
abbrev TI:=St->Hp->(It->Hp->Prop)->Prop
def PIE(X:Cx)(pins:Aac)(Z:St)(tg:Expr)(R:It->Hp->Prop)(itv:Value)(s2:Shared):Prop:=
 ∃(it:Addr)(fp:Aaj)(tn:Nat->Heap->Prop)(J:It)(H':Hp),itv=.ref it/\Inv X pins Z H' s2/\Turn X.prog X.w X.K tg J fp it tn/\tn 0 s2.heap/\(∀b∈fp,qo X pins H' b)/\R J H'
def PI(X:Cx)(tg iter:Expr)(wi:TI):Prop:=
 ∀(pins:Aac)(s:Shared)(Z:St)(H:Hp)(R:It->Hp->Prop),Inv X pins Z H s->wi Z H R->
  wpAny (-4) X.A (eval iter X.env) (λv s1=>wpAny (-4) X.A (pyIter v) (PIE X pins Z tg R) X.xe s1) X.xe s
def Co(ho:s.heap.get? it=some o)(hc:o.cls=.type n)(hd:o.data=.fields vs)
  (hn:["enumerate","zip","dict_itemiterator","dict_reverseitemiterator","odict_iterator","itertools.zip_longest","itertools.pairwise"].contains n=false) (hQ:Q () s):wpAny M A (letOwnedTupleGo tg (.ref it) u) Q E s:=by
 unfold letOwnedTupleGo;cases tg<;>first
  |exact af hQ
  |(cases u<;>first
    |exact af hQ
    |(refine ae (EC ho ?_);rw[hc,hd];show wpAny M A (if(["enumerate","zip","dict_itemiterator","dict_reverseitemiterator","odict_iterator","itertools.zip_longest","itertools.pairwise"].contains n&&vs[0]?==some (rawInt _))=true then _ else _) Q E s;rw[au (by intro h;rw[hn,oO]at h;cases h)];exact af hQ))
def K2(K:Frag)(a:Addr):It:=
 {λi H=>∃xs x,bo K H a xs/\xs[i]?=some x,λi H x H'=>H'=H/\∀xs,bo K H a xs->xs[i]?=some x,λi H=>∃xs,bo K H a xs/\xs.length<=i}
def Nm(K:Frag)(a:Addr):It:=
 {λi H=>∃xs x,bx K H a xs/\xs[i]?=some x,λi H x H'=>H'=H/\∀xs,bx K H a xs->xs[i]?=some x,λi H=>∃xs,bx K H a xs/\xs.length<=i}
def Nn(lo:Int)(n:Nat):It:={λi _=>i<n,λi H x H'=>H'=H/\x=.int (lo+i),λi _=>n<=i}
def Pm{K:Frag}(a it:Addr):Turn P w K tg (K2 K a) [it] it (λi h=>h.IsListIter it a i) where
 mem:=by simp
 obj:=λi h st b hb=>by
  have e:b=it:=by simpa using hb
  subst e;obtain⟨o,e,c,d⟩:=st;exact{o,e,λv z=>by rw[d]at z;cases z}
 keep:=λi h h' st k=>st.at λo e=>k it (-9) o e
 item:=by intro X hP hw hK hc i pins s Z H E I hf st hg;subst hP hw hK;obtain⟨xs,x,hq,hx⟩:=hg;obtain⟨aX,rv,p,hz⟩:=I.list hq;obtain⟨u,hu,ru⟩:=rv.get hx;obtain⟨f0,f1,f2,f3,f4,f5⟩:=hf it (-9);refine xf st p.isList (by simpa using hu) λh' hX sb=>?_;have I1:=I.turned (t':=s.toks) (λb o hb e=>(sb.2 b hb).trans e) f0 f1 f3 f4 f5;obtain⟨o,e,c,d⟩:=id hX;exact{u,rfl,Co e c d (-8) {x,H,I1,ru,{rfl,λys hy=>by rw[I.D4 hy hq];exact hx},hX,λb hb=>(hf b hb).1}}
 done:=by intro X hP hw hK hc i pins s Z H E I hf st hg;subst hP hw hK;obtain⟨xs,hq,hx⟩:=hg;obtain⟨aX,rv,p,hz⟩:=I.list hq;obtain⟨f0,f1,f2,f3,f4,f5⟩:=hf it (-9);have hl:=rv.length;exact xF (I.ok.hd hc) st p.isList (by simp;lia) λh' eb=>{rfl,I.turned (λb o hb e=>eb b o hb e) f0 f1 f3 f4 f5}
 self:=λ_ _ _ _ _ st h=>wpAny_pyIter_listiter st h
def Nr{K:Frag}(a it:Addr):Turn P w K tg (Nm K a) [it] it (λi h=>h.IsTupleIter it a i) where
 mem:=by simp
 obj:=λi h st b hb=>by
  have e:b=it:=by simpa using hb
  subst e;obtain⟨o,e,c,d⟩:=st;exact{o,e,λv z=>by rw[d]at z;cases z}
 keep:=λi h h' st k=>st.at λo e=>k it (-9) o e
 item:=by intro X hP hw hK hc i pins s Z H E I hf st hg;subst hP hw hK;obtain⟨xs,x,hq,hx⟩:=hg;obtain⟨aX,rv,p,hz⟩:=I.tuple hq;obtain⟨u,hu,ru⟩:=rv.get hx;obtain⟨f0,f1,f2,f3,f4,f5⟩:=hf it (-9);refine wpAny_pyNext_tuple_item st (show s.heap.IsTuple a aX.toArray from p) (by simpa using hu) λh' hX sb=>?_;have I1:=I.turned (t':=s.toks) (λb o hb e=>(sb.2 b hb).trans e) f0 f1 f3 f4 f5;obtain⟨o,e,c,d⟩:=id hX;exact{u,rfl,Co e c d (-8) {x,H,I1,ru,{rfl,λys hy=>by rw[I.Az hy hq];exact hx},hX,λb hb=>(hf b hb).1}}
 done:=by intro X hP hw hK hc i pins s Z H E I hf st hg;subst hP hw hK;obtain⟨xs,hq,hx⟩:=hg;obtain⟨aX,rv,p,hz⟩:=I.tuple hq;obtain⟨f0,f1,f2,f3,f4,f5⟩:=hf it (-9);have hl:=rv.length;exact wpAny_pyNext_tuple_end (I.ok.hd hc) st (show s.heap.IsTuple a aX.toArray from p) (by simp;lia) λh' eb=>{rfl,I.turned (λb o hb e=>eb b o hb e) f0 f1 f3 f4 f5}
 self:=λ_ _ _ _ _ st h=>wpAny_pyIter_tupleiter st h
def Nt{K:Frag}(it:Addr)(lo:Int)(n:Nat):Turn P w K tg (Nn lo n) [it] it (λi h=>IsRangeIter h it (lo+(i:Nat)*1) ((n:Int) -(i:Nat)) 1) where
 mem:=by simp
 obj:=λi h st b hb=>by
  have e:b=it:=by simpa using hb
  subst e;exact{_,st,λv z=>by have z':=z;cases z'}
 keep:=λi h h' st k=>k it (-9) _ st
 item:=by intro X hP hw hK hc i pins s Z H E I hf st hg;subst hP hw hK;obtain⟨f0,f1,f2,f3,f4,f5⟩:=hf it (-9);have W:=Walks.range (prog:=X.prog) (w:=X.w) (I.ok.hd hc) it lo 1 n;refine W.item i s _ _ hg st λv h' tk hv hX kk=>?_;obtain⟨t,rfl⟩:=hv;have I1:Inv X pins Z H {s with heap:=h',toks:=tk}:=I.turned (λb o hb e=>kk b o (by simpa using hb) e) f0 f1 f3 f4 f5;refine{_,rfl,Co hX rfl rfl (-8) {.int (lo+i),H,I1,{t,?_},⟨rfl,rfl⟩,hX,λb hb=>(hf b hb).1}};rw[DC]
 done:=by intro X hP hw hK hc i pins s Z H E I hf st hg;obtain⟨f0,f1,f2,f3,f4,f5⟩:=hf it (-9);exact wpAny_pyNext_range_end (I.ok.hd hc) st (by have:n<=i:=hg;lia) λh' eb=>{rfl,I.turned (λb o hb e=>eb b o hb e) f0 f1 f3 f4 f5}
 self:=λ_ _ _ _ _ st h=>wpAny_pyIter_rangeiter st h
section
variable{X:Cx}{tg:Expr}
inductive aaO(K:Frag)(R:It->Hp->Prop)(x:V)(H1:Hp):Prop
 |mk a (_:x=.ref a) (_:(∃xs,bo K H1 a xs)) (_:R (K2 K a) H1)
def Wa(K:Frag)(tl:TE):TI:=λZ H R=>tl Z H λx H1=>aaO K R x H1
inductive ace(K:Frag)(R:It->Hp->Prop)(x:V)(H1:Hp):Prop
 |mk a (_:x=.ref a) (_:(∃xs,bx K H1 a xs)) (_:R (Nm K a) H1)
def adk(K:Frag)(tl:TE):TI:=λZ H R=>tl Z H λx H1=>ace K R x H1
def fS(hl:PE X l tl):PI X tg l (Wa X.K tl):=by
 intro pins s Z H R I h;refine cX (hl pins s Z H _ I h) λv s1 x H1 I1 r1 q1=>?_;obtain⟨a,e,⟨xs,hq⟩,q⟩:=q1;subst e;cases r1;obtain⟨aX,rv,p,hz⟩:=I1.list hq;refine kZ p.isList ?_;refine{s1.heap.objs.size,[s1.heap.objs.size],_,_,H1,rfl,I1.kept λb o e=>ah _ e,Pm a _,{_,aE _ rfl,rfl,rfl},λb hb=>?_,q};have e:b=s1.heap.objs.size:=by simpa using hb
 subst e;exact I1.sr (ak _) (I1.bj.fresh (ak _))
def nK(hl:PE X l tl):PI X tg l (adk X.K tl):=by
 intro pins s Z H R I h;refine cX (hl pins s Z H _ I h) λv s1 x H1 I1 r1 q1=>?_;obtain⟨a,e,⟨xs,hq⟩,q⟩:=q1;subst e;cases r1;obtain⟨aX,rv,p,hz⟩:=I1.tuple hq;refine tm (show s1.heap.IsTuple a aX.toArray from p) ?_;refine{s1.heap.objs.size,[s1.heap.objs.size],_,_,H1,rfl,I1.kept λb o e=>ah _ e,Nr a _,{_,aE _ rfl,rfl,rfl},λb hb=>?_,q};have e:b=s1.heap.objs.size:=by simpa using hb
 subst e;exact I1.sr (ak _) (I1.bj.fresh (ak _))
def To{lo hi:Int}(I:Inv X pins Z H s)(h1:-(2^62)<=lo)(h2:lo<2^62)(h3:-(2^62)<=hi)(h4:hi<2^62)
  (q:R (Nn lo (hi -lo).toNat) H):wpAny (-4) X.A (pyIter (-11)) (PIE X pins Z tg R) E {s with heap:=s.heap.push {cls:=.type "range",data:=.fields #[.int lo t,.int hi u,.int 1 v]},toks:=tk}:=by
 refine wpAny_pyIter_range (IsRange.new ..) (small_one h1 h2 h3 h4) ?_;have I1:Inv X pins Z H {s with heap:=s.heap.push {cls:=.type "range",data:=.fields #[.int lo t,.int hi u,.int 1 v]},toks:=tk}:=I.kept λb o e=>ah _ e;refine{(-61).objs.size,[(-61).objs.size],_,_,H,rfl,
  I1.kept λb o e=>ah _ e,Nt _ lo (hi -lo).toNat,?_,λb hb=>?_,q}
 ·have e1:lo+((0:Nat):Int)*1=lo:=by simp
  have e2:(((hi -lo).toNat:Nat):Int) -((0:Nat):Int)=Builtin.Range.rangeSize lo hi 1:=by rw[rangeSize_one];split<;>lia
  rw[e1,e2];exact aE _ rfl
 ·have e:b=(-61).objs.size:=by simpa using hb
  subst e;exact I1.sr (ak _) (I1.bj.fresh (ak _))
inductive aaN(R:It->Hp->Prop)(vs:Aao)(H1:Hp):Prop
 |mk (j:Int) (_:vs=[.int j]) (_:-(2^62)<=j) (_:j<2^62) (_:R (Nn 0 j.toNat) H1)
def acg(ta:TA):TI:=λZ H R=>ta Z H λvs H1=>aaN R vs H1
def lV(hg:Gl X "range")(hm:X.mg "range"=none)(ha:PA X [a] ta)(hs:starEach [a] X.env=[(false,eval a X.env)]:=by rfl):PI X tg (.Call (.Name "range" p) [a] [] pos) (acg ta):=by
 intro pins s Z H R I h;refine FR (qN I hg hm boot_range (dR (-55) hs rfl));obtain⟨j,e,q1,q2,q⟩:=q1;subst e;cases r1 with
 |cons r rr=>
  cases rr;obtain⟨t,rfl⟩:=r;exact call_range_1 (To I1 ∅ ∅ q1 q2 (by simpa using q))
def acL(wi:TI)(g:TG)(tb:TS):TS:=λD Z H=>wi Z H λJ H1=>∃W:Nat->Nat->St->Hp->Prop,(∃m,W 0 m Z H1)/\∀i m Z H,W i m Z H->
 (J.stop i H/\D.nx Z H)\/(J.go i H/\∃N:St->Hp->Prop,(∀σ' H',N σ' H'->∃m',m'<m/\W (i+1) m' σ' H')/\∀x H',J.zU i H x H'->g x Z H' λσ2 H2=>tb {D with nx:=N,ct:=N,bk:=D.nx} σ2 H2)
def AZ(fp:Aaj)(h:Heap):Aac:=fp.filterMap λb=>(h.get? b).map λo=>(b,o)
def uS(hb:b∈fp)(e:h.get? b=some o):(b,o)∈AZ fp h:=tW.mpr {b,hb,by rw[e];rfl}
def Qp(hp:p∈AZ fp h):p.1∈fp/\h.get? p.1=some p.2:=by
 obtain⟨b,hb,e⟩:=tW.mp hp;cases q:h.get? b with
 |none=>rw[q]at e;cases e
 |some o=>
  rw[q]at e;have e':=bS e;subst e';exact⟨hb,q⟩
def Inv.pinned(I:Inv X pins Z H s)(hf:∀b∈fp,qo X pins H b)(ho:∀b∈fp,∃o,s.heap.get? b=some o/\∀v,o.data≠ .cell v):Inv X (pins++AZ fp s.heap) Z H s:=
 I.xS λp hp=>(aS.mp hp).elim (λz=>I.pin p (b7 _ z)) λz=>by obtain⟨hb,e⟩:=Qp z;obtain⟨f0,f1,f2,_⟩:=hf p.1 hb;obtain⟨o,e',d⟩:=ho p.1 hb;rw[e]at e';cases e';exact⟨e,f0,f1,f2,d⟩
def Inv.yL(I:Inv X (pins++pl) Z H s):Inv X pins Z H s:=I.xS λp hp=>I.pin p (b7 _ (dD _ hp))
def fg(hp:PassesOwn (-4) X.A X.env X.xe)(hc:X.calm=true)(hi:PI X tg iter wi)(hg:PG X tg g)(hb:lN X body tb)
  (hs:∀x,foldedSetIterable iter X.env x=pure x:=by intro _;rfl):PS X (.For tg iter body [] pos) (acL wi g tb):=by
 intro pins s Z H D I h;refine wpAny_For (iC (hi pins s Z H _ I h) λv s1 h1=>iC h1 λitv s2 h2=>?_) hs;obtain⟨it,fp,tn,J,H2,e,I2,T,qq,f2,W,⟨m0,w0⟩,turn⟩:=h2;subst e;have S8:∀{H':Hp},(∀b∈fp,H' b=none)->∀b∈fp,qo X pins H' b:=λhn b hb=>{hn b hb,(f2 b hb).2};refine codeAny_forLoop_any (λn s'=>∃i σ' H',Inv X pins σ' H' s'/\tn i s'.heap/\(∀b∈fp,H' b=none)/\W i n σ' H') ?_ m0 {0,Z,H2,I2,qq,λb hb=>(f2 b hb).1,w0};rintro n s3 ⟨i,σ3,H3,I3,ur,fr3,w3⟩;rcases turn i n σ3 H3 w3 with⟨stop,qn⟩|⟨go,N,hN,step⟩
 ·refine jq hp (iC (T.done X rfl rfl rfl hc i pins s3 σ3 H3 X.xe I3 (S8 fr3) ur stop) λr s4 hz4=>?_);obtain⟨hr,I4⟩:=hz4;subst hr;exact qG ⟨σ3,H3,I4,qn⟩
 ·refine jq hp (iC (T.item X rfl rfl rfl hc i pins s3 σ3 H3 X.xe I3 (S8 fr3) ur go) λr s4 hz5=>?_);obtain⟨u,hr,h4⟩:=hz5;subst hr;refine jq hp (iC h4 λ_ s5 ux=>?_);obtain⟨x,H5,I5,r5,y5,oQ,fr5⟩:=ux;have I5':=I5.pinned (S8 fr5) (T.obj _ _ oQ);refine jq hp (iC (hg _ s5 σ3 H5 x u _ I5' r5 (step x H5 y5)) λ_ s6 Wd=>?_);obtain⟨σ6,H6,I6,q6⟩:=Wd;refine jq hp (iC (hb _ s6 σ6 H6 _ I6 q6) λf s7 q7=>?_);have again:∀{σ7:St}{H7:Hp},Inv X (pins++AZ fp s5.heap) σ7 H7 s7->N σ7 H7->∃m,m<n/\∃i σ' H',Inv X pins σ' H' s7/\tn i s7.heap/\(∀b∈fp,H' b=none)/\W i m σ' H':=λ{σ7 H7} I7 n7=>by obtain⟨m',hm,w7⟩:=hN σ7 H7 n7;refine{m',hm,i+1,σ7,H7,I7.yL,T.keep _ _ _ oQ λb hb o e=>(I7.pin (b,o) (b7 _ (b7 _ (uS hb e)))).1,λb hb=>?_,w7};obtain⟨o,e,d⟩:=T.obj _ _ oQ b hb;exact(I7.pin (b,o) (b7 _ (b7 _ (uS hb e)))).2.1
  cases f with
  |next=>obtain⟨σ7,H7,I7,n7⟩:=q7;exact again I7 n7
  |cont=>obtain⟨σ7,H7,I7,n7⟩:=q7;exact again I7 n7
  |brk=>obtain⟨σ7,H7,I7,q7⟩:=q7;exact{σ7,H7,I7.yL,q7}
  |ret v=>obtain⟨x7,σ7,H7,I7,r7,q7⟩:=q7;exact{x7,σ7,H7,I7.yL,r7,q7}
def mi{K:Frag}{g:TG}{tb:TS}{D:Ends}(Pv:Nat->St->Hp->Prop)(h0:Pv 0 Z H)(hl:∀i Z H,i<=xs.length->Pv i Z H->bo K H a xs)
  (hs:∀i x Z H,xs[i]?=some x->Pv i Z H->g x Z H λσ2 H2=>tb {D with nx:=Pv (i+1),ct:=Pv (i+1),bk:=D.nx} σ2 H2) (hd:∀Z H,Pv xs.length Z H->D.nx Z H):
  ∃W:Nat->Nat->St->Hp->Prop,(∃m,W 0 m Z H)/\∀i m Z H,W i m Z H->
   ((K2 K a).stop i H/\D.nx Z H)\/((K2 K a).go i H/\∃N:St->Hp->Prop,(∀σ' H',N σ' H'->∃m',m'<m/\W (i+1) m' σ' H')/\∀x H',(K2 K a).zU i H x H'->g x Z H' λσ2 H2=>tb {D with nx:=N,ct:=N,bk:=D.nx} σ2 H2):=by
 refine{λi m Z H=>m=xs.length -i/\i<=xs.length/\Pv i Z H,{xs.length,by simp,aP _,h0},?_};rintro i m Z H ⟨rfl,hi,p⟩;have q:=hl i Z H hi p;by_cases bU:i<xs.length
 ·refine .inr {{xs,xs[i],q,by simp[bU]},Pv (i+1),λσ' H' p'=>{xs.length -(i+1),by lia,rfl,bU,p'},λx H' y=>?_};obtain⟨e,y⟩:=y;subst e;exact hs i x Z _ (y xs q) p
 ·have e:i=xs.length:=by lia
  subst e;exact .inl {{xs,q,ak _},hd Z H p}
def Cp{K:Frag}{g:TG}{tb:TS}{D:Ends}(Pv:Nat->St->Hp->Prop)(h0:Pv 0 Z H)(hl:∀i Z H,i<=xs.length->Pv i Z H->bx K H a xs)
  (hs:∀i x Z H,xs[i]?=some x->Pv i Z H->g x Z H λσ2 H2=>tb {D with nx:=Pv (i+1),ct:=Pv (i+1),bk:=D.nx} σ2 H2) (hd:∀Z H,Pv xs.length Z H->D.nx Z H):
  ∃W:Nat->Nat->St->Hp->Prop,(∃m,W 0 m Z H)/\∀i m Z H,W i m Z H->
   ((Nm K a).stop i H/\D.nx Z H)\/((Nm K a).go i H/\∃N:St->Hp->Prop,(∀σ' H',N σ' H'->∃m',m'<m/\W (i+1) m' σ' H')/\∀x H',(Nm K a).zU i H x H'->g x Z H' λσ2 H2=>tb {D with nx:=N,ct:=N,bk:=D.nx} σ2 H2):=by
 refine{λi m Z H=>m=xs.length -i/\i<=xs.length/\Pv i Z H,{xs.length,by simp,aP _,h0},?_};rintro i m Z H ⟨rfl,hi,p⟩;have q:=hl i Z H hi p;by_cases bU:i<xs.length
 ·refine .inr {{xs,xs[i],q,by simp[bU]},Pv (i+1),λσ' H' p'=>{xs.length -(i+1),by lia,rfl,bU,p'},λx H' y=>?_};obtain⟨e,y⟩:=y;subst e;exact hs i x Z _ (y xs q) p
 ·have e:i=xs.length:=by lia
  subst e;exact .inl {{xs,q,ak _},hd Z H p}
def qy{lo:Int}{g:TG}{tb:TS}{D:Ends}(Pv:Nat->St->Hp->Prop)(h0:Pv 0 Z H)
  (hs:∀i Z H,i<n->Pv i Z H->g (.int (lo+i)) Z H λσ2 H2=>tb {D with nx:=Pv (i+1),ct:=Pv (i+1),bk:=D.nx} σ2 H2) (hd:∀Z H,Pv n Z H->D.nx Z H):
  ∃W:Nat->Nat->St->Hp->Prop,(∃m,W 0 m Z H)/\∀i m Z H,W i m Z H->
   ((Nn lo n).stop i H/\D.nx Z H)\/((Nn lo n).go i H/\∃N:St->Hp->Prop,(∀σ' H',N σ' H'->∃m',m'<m/\W (i+1) m' σ' H')/\∀x H',(Nn lo n).zU i H x H'->g x Z H' λσ2 H2=>tb {D with nx:=N,ct:=N,bk:=D.nx} σ2 H2):=by
 refine{λi m Z H=>m=n -i/\i<=n/\Pv i Z H,{n,by simp,aP _,h0},?_};rintro i m Z H ⟨rfl,hi,p⟩;by_cases bU:i<n
 ·refine .inr {bU,Pv (i+1),λσ' H' p'=>{n -(i+1),by lia,rfl,bU,p'},λx H' y=>?_};obtain⟨e,y⟩:=y;subst e y;exact hs i Z _ bU p
 ·have e:i=n:=by lia
  subst e;exact .inl {ak _,hd Z H p}
abbrev R2:=V->V->Hp->VK->Prop
end
def jZ(X:Cx)(f:Value->Value->Sem Value)(r:R2):Prop:=
 ∀(pins:Aac)(s:Shared)(Z:St)(H:Hp)(x y:V)(v u:Value)(Q:VK),Inv X pins Z H s->RelV x v->RelV y u->r x y H Q->
  wpAny (-4) X.A (f v u) (EP X pins Z Q) X.xe s
def UnR(X:Cx)(f:Value->Sem Value)(r:V->Hp->VK->Prop):Prop:=
 ∀(pins:Aac)(s:Shared)(Z:St)(H:Hp)(x:V)(v:Value)(Q:VK),Inv X pins Z H s->RelV x v->r x H Q->
  wpAny (-4) X.A (f v) (EP X pins Z Q) X.xe s
def jU(X:Cx)(f:Value)(r:Aao->Hp->VK->Prop):Prop:=
 ∀(pins:Aac)(s:Shared)(Z:St)(H:Hp)(xs:Aao)(us:Aag)(Q:VK),Inv X pins Z H s->Vals xs us->r xs H Q->
  wpAny (-4) X.A (call f us) (EP X pins Z Q) X.xe s
def aew(X:Cx)(r:V->Hp->(Bool->Hp->Prop)->Prop):Prop:=
 ∀(pins:Aac)(s:Shared)(Z:St)(H:Hp)(x:V)(v:Value)(Q:Bool->Hp->Prop),Inv X pins Z H s->RelV x v->r x H Q->
  wpAny (-4) X.A (truthy v) (TP X pins Z Q) X.xe s
def Vx(r:R2)(ta tb:TE):TE:=λZ H Q=>ta Z H λx H1=>tb Z H1 λy H2=>r x y H2 Q
def tUn(r:V->Hp->VK->Prop)(ta:TE):TE:=λZ H Q=>ta Z H λx H1=>r x H1 Q
inductive rI(C:Int->Int->Prop)(g:Int->Int->V)(x:V)(y:V)(H:Hp)(Q:VK):Prop
 |mk i j (_:x=.int i) (_:y=.int j) (_:C i j) (_:Q (g i j) H)
inductive Me(g:Int->Int->V)(x:V)(y:V)(H:Hp)(Q:VK):Prop
 |mk i j (_:x=.int i) (_:y=.int j) (_:Q (g i j) H)
inductive rU(g:Int->V)(x:V)(H:Hp)(Q:VK):Prop
 |mk i (_:x=.int i) (_:Q (g i) H)
section
variable{X:Cx}{a b:Expr}{ta tb:TE}{pos:Pos}
def Vd(ha:PE X a ta)(hb:PE X b tb){R:V->V->Hp->Prop}(I:Inv X pins Z H s)
  (h:ta Z H λx H1=>tb Z H1 λy H2=>R x y H2) {f:Value->Value->Sem Value}
  (hf:∀v u s2 x y H2,Inv X pins Z H2 s2->RelV x v->RelV y u->R x y H2->wpAny (-4) X.A (f v u) Q X.xe s2):
  wpAny (-4) X.A (eval a X.env) (λv aaa=>wpAny (-4) X.A (eval b X.env) (λu aae=>wpAny (-4) X.A (f v u) Q X.xe aae) X.xe aaa) X.xe s:=by
 refine cX (ha pins s Z H _ I h) λv s1 x H1 I1 r1 q1=>?_;refine cX (hb pins s1 Z H1 _ I1 q1) λu s2 y H2 I2 r2 q2=>?_;exact hf v u s2 x y H2 I2 r1 r2 q2
def d6(ho:jZ X (binaryOp op) r)(ha:PE X a ta)(hb:PE X b tb):PE X (.BinOp a op b pos) (Vx r ta tb):=by intro pins s Z H Q I h;exact wpAny_BinOp (Vd ha hb I h λv u s2 x y H2 I2 rx ry q=>ho pins s2 Z H2 x y v u Q I2 rx ry q)
def ab1{op:UnaryOp}{r:V->Hp->VK->Prop}(ho:UnR X (unaryOp op) r)(ha:PE X a ta):PE X (.UnaryOp op a pos) (tUn r ta):=by intro pins s Z H Q I h;exact UnaryOp_ (cX (ha pins s Z H _ I h) λv s1 x H1 I1 r1 q1=>ho pins s1 Z H1 x v Q I1 r1 q1)
def Qj{g:Int->Int->Int}
  (rule:∀(i j:Int)(t u:Tok)(s:Shared)(Q:Aae)(E:Aae),C i j->Q (.int (g i j) s.toks) {s with toks:=s.toks+1}->wpAny (-4) X.A (f (.int i t) (.int j u)) Q E s):
  jZ X f (rI C λi j=>.int (g i j)):=by
 intro pins s Z H x y v u Q I rx ry h;obtain⟨i,j,rfl,rfl,hc,q⟩:=h;obtain⟨t,rfl⟩:=rx;obtain⟨t',rfl⟩:=ry;exact rule i j t t' s _ _ hc {.int (g i j),H,I.tok _,⟨_,rfl⟩,q}
def ac1{g:Int->Int->Int}
  (rule:∀(i j:Int)(t u:Tok)(s:Shared)(Q:Aae)(E:Aae),Q (.int (g i j) s.toks) {s with toks:=s.toks+1}->wpAny (-4) X.A (f (.int i t) (.int j u)) Q E s):
  jZ X f (Me λi j=>.int (g i j)):=by
 intro pins s Z H x y v u Q I rx ry h;obtain⟨i,j,rfl,rfl,q⟩:=h;obtain⟨t,rfl⟩:=rx;obtain⟨t',rfl⟩:=ry;exact rule i j t t' s _ _ {.int (g i j),H,I.tok _,⟨_,rfl⟩,q}
def TH{g:Int->Int->Bool}
  (rule:∀(i j:Int)(t u:Tok)(s:Shared)(Q:Aae)(E:Aae),Q (.bool (g i j)) s->wpAny (-4) X.A (f (.int i t) (.int j u)) Q E s):
  jZ X f (Me λi j=>.bl (g i j)):=by
 intro pins s Z H x y v u Q I rx ry h;obtain⟨i,j,rfl,rfl,q⟩:=h;obtain⟨t,rfl⟩:=rx;obtain⟨t',rfl⟩:=ry;exact rule i j t t' s _ _ {.bl (g i j),H,I,rfl,q}
def aez(i j:Int):Prop:=0<j/\j<1073741824
def aey(i j:Int):Prop:=0<=j/\j<=1000000/\i.natAbs<2^64
def Vh(i j:Int):Prop:=(-(2^64)<i/\i<2^64)\/(-(2^64)<j/\j<2^64)
def Vh.ok(h:Vh i j):IntMulOk i j:=by
 rcases h with⟨h1,h2⟩|⟨h1,h2⟩
 ·exact .of_left (intBits_le_64 h1 h2)
 ·exact .of_right (intBits_le_64 h1 h2)
def ki:jZ X (binaryOp .Add) (Me λi j=>.int (i+j)):=ac1 λ_ _ _ _ _ _ _ q=>add_int q
def EZ:jZ X (binaryOp .Mult) (rI Vh λi j=>.int (i*j)):=Qj λ_ _ _ _ _ _ _ hc q=>mul_int q hc.ok
def X0:jZ X (binaryOp .FloorDiv) (rI aez λi j=>.int (i/j)):=Qj λi j _ _ _ _ _ hc q=>by have h1:(0:Int)<j:=hc.1;have h2:j<1073741824:=hc.2;exact floordiv_int ∅ (by rw[uh i ∅];exact q) (.inl (PyProof.noPylong_small ∅))
def tG:jZ X (binaryOp .Mod) (rI (λ_ j=>0<j) λi j=>.int (i % j)):=Qj λi j _ _ _ _ _ hc q=>by have h1:(0:Int)<j:=hc;exact mod_int' ∅ (by rw[Int.fmod_eq_emod_of_nonneg i ∅];exact q)
def aai:jZ X (binaryOp .Pow) (rI aey λi j=>.int (i^j.toNat)):=Qj λ_ _ _ _ _ _ _ hc q=>pow_int_small hc.1 hc.2.1 hc.2.2 q
def unI{f:Value->Sem Value}{g:Int->Int}
  (rule:∀(i:Int)(t:Tok)(s:Shared)(Q:Aae)(E:Aae),Q (.int (g i) s.toks) {s with toks:=s.toks+1}->wpAny (-4) X.A (f (.int i t)) Q E s):
  UnR X f (rU λi=>.int (g i)):=by
 intro pins s Z H x v Q I rx h;obtain⟨i,rfl,q⟩:=h;obtain⟨t,rfl⟩:=rx;exact rule i t s _ _ {.int (g i),H,I.tok _,⟨_,rfl⟩,q}
def Zk:UnR X (unaryOp .USub) (rU λi=>.int (-i)):=unI λ_ _ _ _ _ q=>neg_int q
def ZM:V->V->Bool
 | .cI,.cI=>true| .cI,.int _=>true| .int _,.cI=>true| .cI,.bl _=>true| .bl _,.cI=>true| .cI,.str _=>true| .str _,.cI=>true
 | .int _,.int _=>true| .bl _,.bl _=>true| .str _,.str _=>true| .uC _,.uC _=>true
 | .int _,.str _=>true| .str _,.int _=>true| .bl _,.str _=>true| .str _,.bl _=>true
 |_,_=>false
def rEq:R2:=λx y H Q=>ZM x y=true/\Q (.bl (decide (x=y))) H
def rNe:R2:=λx y H Q=>ZM x y=true/\Q (.bl (!decide (x=y))) H
def M8:decide (V.int i=V.int j)=(i==j):=by rw[iu];simp
def R6:decide (V.bl i=V.bl j)=(i==j):=by rw[iu];simp
def M7:decide (V.str i=V.str j)=(i==j):=by rw[iu];simp
def M9:decide (V.uC i=V.uC j)=(i.toList==j.toList):=by rw[iu];cases i;cases j;simp
variable{c:Expr}{tc:TE}
def dF(I:Inv X pins Z H s)(q:Q (.bl k) H)(e:k=k'):EP X pins Z Q (.bool k') s:=by subst e;exact{.bl k,H,I,rfl,q}
def zd:jZ X (compareOp .Eq) rEq:=by
 intro pins s Z H x y v u Q I rx ry h;obtain⟨hs,q⟩:=h;cases x with
 |cI=>
  cases rx;cases y with
  |cI=>cases ry;exact PySem.EqNone.eq_none_none (dF I q (-9))
  |bl j=>cases ry;exact PySem.EqNone.eq_none_bool (dF I q (-9))
  |int j=>obtain⟨t',rfl⟩:=ry;exact PySem.EqNone.eq_none_int (dF I q (-9))
  |str j=>obtain⟨t',rfl⟩:=ry;exact PySem.EqNone.eq_none_str (dF I q (-9))
  |_=>exact absurd (show false=true from hs) aU
 |bl i=>
  cases rx;cases y with
  |cI=>cases ry;exact PySem.EqNone.eq_bool_none (dF I q (-9))
  |bl j=>cases ry;exact eq_bool (dF I q R6)
  |str j=>obtain⟨t',rfl⟩:=ry;exact PySem.EqMixed.eq_bool_str (dF I q (-9))
  |_=>exact absurd (show false=true from hs) aU
 |int i=>
  obtain⟨t,rfl⟩:=rx;cases y with
  |cI=>cases ry;exact PySem.EqNone.eq_int_none (dF I q (-9))
  |int j=>obtain⟨t',rfl⟩:=ry;exact eq_int (dF I q M8)
  |str j=>obtain⟨t',rfl⟩:=ry;exact PySem.EqMixed.eq_int_str (dF I q (-9))
  |_=>exact absurd (show false=true from hs) aU
 |str i=>
  obtain⟨t,rfl⟩:=rx;cases y with
  |cI=>cases ry;exact PySem.EqNone.eq_str_none (dF I q (-9))
  |bl j=>cases ry;exact PySem.EqMixed.eq_str_bool (dF I q (-9))
  |int j=>obtain⟨t',rfl⟩:=ry;exact PySem.EqMixed.eq_str_int (dF I q (-9))
  |str j=>obtain⟨t',rfl⟩:=ry;exact eq_str (dF I q M7)
  |_=>exact absurd (show false=true from hs) aU
 |uC i=>
  obtain⟨t,rfl⟩:=rx;cases y with
  |uC j=>obtain⟨t',rfl⟩:=ry;exact PySem.W.eq_bytes (dF I q M9)
  |_=>exact absurd (show false=true from hs) aU
 |_=>cases y<;>exact absurd (show false=true from hs) aU
def ab2:jZ X (compareOp .NotEq) rNe:=by
 intro pins s Z H x y v u Q I rx ry h;obtain⟨hs,q⟩:=h;cases x with
 |cI=>
  cases rx;cases y with
  |cI=>cases ry;exact PySem.EqNone.ne_none_none (dF I q (-9))
  |bl j=>cases ry;exact PySem.EqNone.ne_none_bool (dF I q (-9))
  |int j=>obtain⟨t',rfl⟩:=ry;exact PySem.EqNone.ne_none_int (dF I q (-9))
  |str j=>obtain⟨t',rfl⟩:=ry;exact PySem.EqNone.ne_none_str (dF I q (-9))
  |_=>exact absurd (show false=true from hs) aU
 |bl i=>
  cases rx;cases y with
  |cI=>cases ry;exact PySem.EqNone.ne_bool_none (dF I q (-9))
  |bl j=>cases ry;exact ne_bool (dF I q (cc not R6))
  |str j=>obtain⟨t',rfl⟩:=ry;exact PySem.EqMixed.ne_bool_str (dF I q (-9))
  |_=>exact absurd (show false=true from hs) aU
 |int i=>
  obtain⟨t,rfl⟩:=rx;cases y with
  |cI=>cases ry;exact PySem.EqNone.ne_int_none (dF I q (-9))
  |int j=>obtain⟨t',rfl⟩:=ry;exact ne_int (dF I q (cc not M8))
  |str j=>obtain⟨t',rfl⟩:=ry;exact PySem.EqMixed.ne_int_str (dF I q (-9))
  |_=>exact absurd (show false=true from hs) aU
 |str i=>
  obtain⟨t,rfl⟩:=rx;cases y with
  |cI=>cases ry;exact PySem.EqNone.ne_str_none (dF I q (-9))
  |bl j=>cases ry;exact PySem.EqMixed.ne_str_bool (dF I q (-9))
  |int j=>obtain⟨t',rfl⟩:=ry;exact PySem.EqMixed.ne_str_int (dF I q (-9))
  |str j=>obtain⟨t',rfl⟩:=ry;exact ne_str (dF I q (cc not M7))
  |_=>exact absurd (show false=true from hs) aU
 |uC i=>
  obtain⟨t,rfl⟩:=rx;cases y with
  |uC j=>obtain⟨t',rfl⟩:=ry;exact PySem.W.ne_bytes (dF I q (cc not M9))
  |_=>exact absurd (show false=true from hs) aU
 |_=>cases y<;>exact absurd (show false=true from hs) aU
def NY:jZ X (compareOp .Lt) (Me λi j=>.bl (decide (i<j))):=TH λ_ _ _ _ _ _ _ q=>lt_int q
def NZ:jZ X (compareOp .LtE) (Me λi j=>.bl (decide (i<=j))):=TH λ_ _ _ _ _ _ _ q=>le_int q
def HS:jZ X (compareOp .Gt) (Me λi j=>.bl (decide (j<i))):=TH λ_ _ _ _ _ _ _ q=>gt_int q
def Qi:jZ X (compareOp .In) (λx y H Q=>∃i j,x=.str i/\y=.str j/\Q (.bl (!(Builtin.Str.occurrences j i 0 j.length 1).isEmpty)) H):=by intro pins s Z H x y v u Q I rx ry h;obtain⟨i,j,rfl,rfl,q⟩:=h;obtain⟨t,rfl⟩:=rx;obtain⟨t',rfl⟩:=ry;exact in_str (dF I q rfl)
def aal:jZ X (compareOp .Is) (λx y H Q=>y=.cI/\Q (.bl (decide (x=.cI))) H):=by
 intro pins s Z H x y v u Q I rx ry h;obtain⟨rfl,q⟩:=h;cases ry;refine is_none_gen (dF I q ?_);cases x<;>first
  |(cases rx;rfl)
  |(obtain⟨t,rfl⟩:=rx;rfl)
def gG(b:Expr)(h:op≠ .In:=by decide)(h2:op≠ .NotIn:=by decide):behindInMarks op b=false:=by
 have e1:(op==CmpOp.In)=false:=by cases op<;>first|rfl|exact absurd rfl h
 have e2:(op==CmpOp.NotIn)=false:=by cases op<;>first|rfl|exact absurd rfl h2
 cases b<;>simp[behindInMarks,e1,e2]
def F5(ho:jZ X (compareOp op) r)(ha:PE X a ta)(hb:PE X b tb)(hm:behindInMarks op b=false):PE X (.Compare a [op] [b] pos) (Vx r ta tb):=by intro pins s Z H Q I h;exact wpAny_Compare1 (Vd ha hb I h λv u s2 x y H2 I2 rx ry q=>ho pins s2 Z H2 x y v u Q I2 rx ry q) hm
inductive Zy(Q:Bool->Hp->Prop)(x:V)(H':Hp):Prop
 |mk k (_:x=.bl k) (_:Q k H')
def abL(t:TE):TT:=λZ H Q=>t Z H λx H'=>Zy Q x H'
def d5(ho:jZ X (compareOp op) r)(ha:PE X a ta)(hb:PE X b tb)(hm:behindInMarks op b=false):PT X (.Compare a [op] [b] pos) (abL (Vx r ta tb)):=by intro pins s Z H Q I h;refine xG (cX (ha pins s Z H _ I h) λv s1 x H1 I1 r1 q1=>cX (hb pins s1 Z H1 _ I1 q1) λu s2 y H2 I2 r2 q2=>iC (ho pins s2 Z H2 x y v u _ I2 r1 r2 q2) λc s3 Bk=>?_) hm;obtain⟨z,H3,I3,r3,k,e,q3⟩:=Bk;subst e;cases r3;exact iw ⟨H3,I3,q3⟩
def ZF(r r':R2)(ta tb tc:TE):TE:=λZ H Q=>ta Z H λx H1=>tb Z H1 λy H2=>r x y H2 λz H3=>∃k,z=.bl k/\
 (if k=true then tc Z H3 λw' H4=>r' y w' H4 Q else Q (.bl false) H3)
def TB(ho:jZ X (compareOp op) r)(rM:jZ X (compareOp op') r')(ha:PE X a ta)(hb:PE X b tb)(hc:PE X c tc)
  (hm:lastMarks [op,op'] [b,c]=false:=by with_unfolding_all rfl):PE X (.Compare a [op,op'] [b,c] pos) (ZF r r' ta tb tc):=by
 intro pins s Z H Q I h;refine Compare_chain (cX (ha pins s Z H _ I h) λv s1 x H1 I1 r1 q1=>chain_link (cX (hb pins s1 Z H1 _ I1 q1) λu s2 y H2 I2 r2 q2=>iC (ho pins s2 Z H2 x y v u _ I2 r1 r2 q2) λd s3 uw=>?_)) hm;obtain⟨z,H3,I3,r3,k,e,q3⟩:=uw;subst e;cases r3;refine iw ?_;cases k with
 |false=>exact ite_ff {.bl false,H3,I3,rfl,q3}
 |true=>exact ite_tt (chain_last (iC (hc pins s3 Z H3 _ I3 q3) λw' s4 ⟨z',H4,I4,r4,q4⟩=>rM pins s4 Z H4 y z' u w' Q I4 r2 r4 q4))
def abx(K:Frag)(x:V)(H:Hp)(k:Bool):Prop:=
 match x with
 | .cI=>k=false
 | .bl b=>k=b
 | .int i=>k=(i !=0)
 | .str y=>y.length<=sizeLine/\k=((y.length:Int) !=0)
 | .uC y=>y.size<=sizeLine/\k=((y.size:Int) !=0)
 | .ref p=>(∃xs,bo K H p xs/\k=!xs.isEmpty)\/(∃xs,bx K H p xs/\k=!xs.isEmpty)\/∃kvs,H p=some (.dK kvs)/\k=!kvs.isEmpty
 |_=>False
def Of(r:KV kvs vs):(!vs.isEmpty)=!kvs.isEmpty:=by cases r<;>rfl
def Fb(r:Vals xs aX):(!aX.toArray.isEmpty)=!xs.isEmpty:=by cases r<;>simp
def xX:(sizeLine:Nat)<2^63:=by rw[cP];decide
def Zo:aew X (λx H Q=>∃k,abx X.K x H k/\Q k H):=by
 intro pins s Z H x v Q I rx h;obtain⟨k,e,q⟩:=h;have hl:=xX;have hs:sizeLine=16777216:=cP;cases x with
 |cI=>
  cases rx;have e':k=false:=e;subst e';exact truthy_none ⟨H,I,q⟩
 |bl b=>
  cases rx;have e':k=b:=e;subst e';exact iw ⟨H,I,q⟩
 |int i=>
  obtain⟨t,rfl⟩:=rx;have e':k=(i !=0):=e;subst e';exact PySem.P.truthy_int ⟨H,I,q⟩
 |str y=>
  obtain⟨t,rfl⟩:=rx;obtain⟨hy,e'⟩:y.length<=sizeLine/\k=((y.length:Int) !=0):=e;subst e';exact PySem.P.truthy_str ∅ {H,I.tok _,q}
 |uC y=>
  obtain⟨t,rfl⟩:=rx;obtain⟨hy,e'⟩:y.size<=sizeLine/\k=((y.size:Int) !=0):=e;subst e';exact PySem.W.truthy_bytes ∅ {H,I.tok _,q}
 |ref p=>
  cases rx;have e':(∃xs,bo X.K H p xs/\k=!xs.isEmpty)\/(∃xs,bx X.K H p xs/\k=!xs.isEmpty)\/∃kvs,H p=some (.dK kvs)/\k=!kvs.isEmpty:=e;rcases e' with⟨xs,hx,e'⟩|⟨xs,hx,e'⟩|⟨kvs,hx,e'⟩
  ·subst e';obtain⟨aX,r,pl,hz⟩:=I.list hx;have hlen:=r.length;exact wpAny_truthy_list pl.isList (by simp only[aI];lia) {H,I.tok _,by rw[Fb r];exact q}
  ·subst e';obtain⟨aX,r,pl,hz⟩:=I.tuple hx;have hlen:=r.length;exact truthy_tuple pl (by simp only[aI];lia) {H,I.tok _,by rw[Fb r];exact q}
  ·subst e';obtain⟨hz,hS,vs,r,m⟩:kvs.length<=sizeLine/\(p==sysModules)=false/\∃vs,KV kvs vs/\s.heap.DictOf (bz X.prog X.w) p vs:=I.bj p _ hx;have hlen:kvs.length=vs.length:=bp r;exact wpAny_truthy_dict hS m ∅ {H,I.tok _,by rw[Of r];exact q}
 |_=>exact(show False from e).elim
def Ts(ha:PE X a ta)(he:∀whole,isTrue a X.env whole=(do let v<-whole;standAt a.pos;holding [v] (truthy v))):
  PT X a (λZ H Q=>ta Z H λx H'=>∃k,abx X.K x H' k/\Q k H'):=by
 intro pins s Z H Q I h;exact isTrue_plain (cX (ha pins s Z H _ I h) λv s1 x H1 I1 r1 q1=>Zo pins s1 Z H1 x v Q I1 r1 q1) (he _)
def l9(r:Vals [x] us):∃u,us=[u]/\RelV x u:=by
 cases r with
 |cons r1 r2=>cases r2;exact⟨_,rfl,r1⟩
def vals2(r:Vals [x,y] us):∃u w',us=[u,w']/\RelV x u/\RelV y w':=by
 cases r with
 |cons r1 r2=>
  cases r2 with
  |cons r3 r4=>cases r4;exact⟨_,_,rfl,r1,r3⟩
def Vc:jU X (.builtin "abs") (λxs H Q=>∃i,xs=[.int i]/\Q (.int (if i<0 then -i else i)) H):=by intro pins s Z H xs us Q I r h;obtain⟨i,rfl,q⟩:=h;obtain⟨u,rfl,t,rfl⟩:=l9 r;exact call_abs_int λu tk=>{.int (if i<0 then -i else i),H,I.tok _,⟨_,rfl⟩,q}
def abB(K:Frag)(x:V)(H:Hp)(n:Nat):Prop:=
 match x with
 | .str y=>y.length<=sizeLine/\n=y.length
 | .uC y=>y.size<=sizeLine/\n=y.size
 | .ref p=>(∃xs,bo K H p xs/\n=xs.length)\/∃xs,bx K H p xs/\n=xs.length
 |_=>False
def gz:jU X (.builtin "len") (λxs H Q=>∃x n,xs=[x]/\abB X.K x H n/\Q (.int n) H):=by
 intro pins s Z H xs us Q I r h;obtain⟨x,n,rfl,e,q⟩:=h;obtain⟨u,rfl,rx⟩:=l9 r;have hl:=xX;have hs:sizeLine=16777216:=cP;cases x with
 |str y=>
  obtain⟨t,rfl⟩:=rx;obtain⟨hy,e'⟩:y.length<=sizeLine/\n=y.length:=e;subst e';exact len_str ∅ {.int _,H,I.tok _,⟨_,rfl⟩,q}
 |uC y=>
  obtain⟨t,rfl⟩:=rx;obtain⟨hy,e'⟩:y.size<=sizeLine/\n=y.size:=e;subst e';exact PySem.W.len_bytes ∅ {.int _,H,I.tok _,⟨_,rfl⟩,q}
 |ref p=>
  cases rx;have e':(∃xs,bo X.K H p xs/\n=xs.length)\/∃xs,bx X.K H p xs/\n=xs.length:=e;rcases e' with⟨xs,hx,e'⟩|⟨xs,hx,e'⟩
  ·subst e';obtain⟨aX,r',pl,hz⟩:=I.list hx;have hlen:=r'.length;exact Calls.call_len_list pl.isList (by simp only[aI];lia) {.int xs.length,H,I.tok _,{_,by simp only[aI];rw[hlen]},q}
  ·subst e';obtain⟨aX,r',pl,hz⟩:=I.tuple hx;have hlen:=r'.length;exact len_tuple pl (by simp only[aI];lia) {.int xs.length,H,I.tok _,{_,by simp only[aI];rw[hlen]},q}
 |_=>exact(show False from e).elim
structure Ey(h:Heap)(x dx C:Addr)(mA:Aad):Prop where
 obj:h.get? x=some (instObj C dx)
 ns:h.Ns1 dx mA
 ne:dx≠x
def QI{h:Heap}(n:h.Ns1 dx mA):∃od,h.get? dx=some od/\∀name,lookIn name od=some (mA name):=by
 obtain⟨o,es,ep,ho,hd,hk,_,hm⟩:=n;refine{o,ho,λname=>?_};have e:=hm name;unfold nsFind findBy at e;rw[<-Array.find?_toList]at e;unfold lookIn;rw[hd];dsimp only;split
 ·rename_i y q;rw[q]at e;exact cc some e
 ·rename_i q;rw[q]at e;have a:es.toList.any (·.refKey)=false:=by rw[List.any_eq_false];intro y hy;obtain⟨z,t,lH⟩:=hk y (my.mp hy);simp[DictEntry.refKey,lH]
  have a':¬es.toList.any (·.refKey)=true:=by rw[a];exact aU
  rw[au a'];exact cc some e
def Ey.look(I:Ey h x dx C mA):∃od,PySem.W.InstAt h x (instObj C dx) C (some od)/\∀name,lookIn name od=some (mA name):=
 let⟨od,ho,hl⟩:=QI I.ns
 {od,{I.obj,rfl,rfl,ho},hl}
variable{prog:Program}{w:World}{A:Around}{E:Aae}{s:Shared}{K:Frag}{x dx C f:Addr}{mA:Aad}{name:Str}{v:Value}
def get_map(X:K.In s.heap)(I:Ey s.heap x dx C mA)(hg:plainGet K C name=true)(hh:hasDictIn K C=true)
  (ha:findIn K (.ref C) name=some none) (hv:mA name=some v) (Ff:PySem.W.handedIn v=true) (h:Q v {s with toks:=s.toks+1}):
  wpAny (-5) A (getAttr (.ref x) name expr) Q E s:=by
 obtain⟨od,J,hl⟩:=I.look;exact PySem.W.get_value X J (rP hg).1 (PySem.W.findObj_own hh ha rfl (by rw[hl,hv])) Ff h
def UO(X:K.In s.heap)(I:Ey s.heap x dx C mA)(hg:plainGet K C name=true)
  (hf:findIn K (.ref C) name=some (some (.ref f))) (ht:isFn K (.ref f)=true) (hv:mA name=none) (h:Q (.ref f,[.ref x]) s):
  wpAny (-5) A (getMethod (.ref x) name pl) Q E s:=by
 obtain⟨od,J,hl⟩:=I.look;exact PySem.W.method_fn X J (rP hg).1 (rP hg).2 hf (u3.mp ht) (by show(lookIn name od).map (·.isSome)=some false;rw[hl,hv];rfl) h
def Xs(X:K.In s.heap)(I:Ey s.heap x dx C mA)
  (hs:findIn K (.ref C) "__setattr__"=some (some (.builtin "object.__setattr__"))) (hp:PySem.W.plainOver K C=true) (ht:PySem.W.takerIn K C name=some none) (hh:hasDictIn K C=true)
  (hw:PySem.Within mA ns) (hsz:ns.length<=sizeLine)
  (h:∀h',Ey h' x dx C (λy=>if y=name then some v else mA y)->Heap.SameBut dx s.heap h'->Q () {s with heap:=h',toks:=s.toks+2}):
  wpAny (-5) A (setAttr (.ref x) name v) Q E s:=by
 obtain⟨od,J,hl⟩:=I.look;refine PySem.W.set_plain X J hs (PySem.W.osa_open X J hp ht λb=>?_);obtain⟨cd,hc,qW⟩:=PySem.W.any_some hh;have hx:=I.obj;refine ae (af (ae (ae (wpAny_loadPart hx (ae (PySem.W.Looks.here (PySem.W.looks_clsIn X hc) ?_))))));rw[qW];refine af (ae (af (ae ?_)));refine wpAny_nsSet1 I.ns λh' C9 kN=>?_;obtain⟨oD,esD,epD,hoD,hdD,hcD⟩:=C9.count (PySem.Within.cons name v hw);refine ae (wpAny_lookBehind hoD (by rw[hdD];exact pastItsLine_dict (aC hcD (by rw[bK];lia))) ?_);exact af (h _ {(kN.2 _ (bV I.ne)).trans I.obj,C9,I.ne} kN)
def TY(X:K.In s.heap)(hm:PySem.W.makesIn K C=true)
  (hi:findIn K (.ref C) "__init__"=some (some (.ref f))) (hf:PySem.W.typeIn K (.ref f)=some (.type "function"))
  (h:codeAny (-5) (A.under (.builtin "type.__call__" {.ref C::vs,kw})) (.call (.ref f) {.ref (-17)::vs,kw}) (PySem.W.InitBack (-17) R)
   {s with heap:=(s.heap.push emptyDict).push (instObj C s.heap.objs.size)}):
  codeAny (-5) A (.call (.ref C) ⟨vs,kw⟩) R s:=by
 obtain⟨hh,g,d,t,os⟩:=s;exact PySem.W.make_core (PySem.W.makes_of X hm) (PySem.W.looks_findIn X hi) (λself=>PySem.W.bind_fn X self hf) (.inl rfl) h
end
def fB(f:Str)(v:V):List (Str×V)->List (Str×V)
 |[]=>[(f,v)]
 |(g,x)::r=>if g=f then(g,v)::r else(g,x)::fB f v r
theorem C2(f g:Str)(v:V):∀fs:List (Str×V),(fB f v fs).lookup g=if g=f then some v else fs.lookup g
 |[]=>by
  show List.lookup g [(f,v)]=_;by_cases h:g=f
  ·have hb:(g==f)=true:=u3.mpr h;simp only[List.lookup,hb,aD h]
  ·have hb:=fM.mpr h;simp only[List.lookup,hb,au h]
 |(k,x)::r=>by
  have ih:=C2 f g v r;rw[show fB f v ((k,x)::r)=(if k=f then(k,v)::r else(k,x)::fB f v r)from rfl];by_cases hk:k=f
  ·rw[aD hk];by_cases h:g=k
   ·have hb:=u3.mpr h;simp only[List.lookup,hb,aD (h.trans hk)]
   ·have hb:=fM.mpr h;simp only[List.lookup,hb,au (λe:g=f=>h (e.trans hk.symm))]
  ·rw[au hk];by_cases h:g=k
   ·have hb:=u3.mpr h;simp only[List.lookup,hb,au (λe:g=f=>hk (h.symm.trans e))]
   ·have hb:=fM.mpr h;simp only[List.lookup,hb];exact ih
theorem Bg(f:Str)(v:V):∀fs:List (Str×V),f∈(fB f v fs).map (·.1)/\∀g,g∈fs.map (·.1)->g∈(fB f v fs).map (·.1)
 |[]=>{by simp[fB],λg h=>by simp at h}
 |(k,x)::r=>by
  obtain⟨i1,i2⟩:=Bg f v r;rw[show fB f v ((k,x)::r)=(if k=f then(k,v)::r else(k,x)::fB f v r)from rfl];by_cases hk:k=f
  ·rw[aD hk];subst hk;exact{by simp,λg h=>by simpa using h}
  ·rw[au hk];refine{?_,λg h=>?_}
   ·rw[aR];exact az _ i1
   ·rw[aR]at h⊢;rcases aG.mp h with e|e
    ·exact aG.mpr (.inl e)
    ·exact az _ (i2 g e)
theorem C3(f:Str)(v:V):∀fs:List (Str×V),(fB f v fs).length<=fs.length+1
 |[]=>by simp[fB]
 |(k,x)::r=>by
  have ih:=C3 f v r;rw[show fB f v ((k,x)::r)=(if k=f then(k,v)::r else(k,x)::fB f v r)from rfl];by_cases hk:k=f
  ·rw[aD hk,bK,bK];lia
  ·rw[au hk,bK,bK];lia
def lM.some_of(r:lM (some v) o):∃u,o=some u/\RelV v u:=by
 cases o with
 |none=>exact(show False from r).elim
 |some u=>exact⟨u,rfl,r⟩
def lM.none_of(r:lM none o):o=none:=by
 cases o with
 |none=>rfl
 |some u=>exact(show False from r).elim
def RK(r:RelV v u):PySem.W.handedIn u=true:=by
 cases v with
 |cI=>cases(show u=Value.none from r);rfl
 |bl b=>cases(show u=Value.bool b from r);rfl
 |int i=>obtain⟨t,e⟩:=(show∃t,u=Value.int i t from r);cases e;rfl
 |str x=>obtain⟨t,e⟩:=(show∃t,u=Value.str x t from r);cases e;rfl
 |uC b=>obtain⟨t,e⟩:=(show∃t,u=Value.bytes b t from r);cases e;rfl
 |KA b=>obtain⟨t,e⟩:=(show∃t,u=Value.float b t from r);cases e;rfl
 |ref a=>cases(show u=Value.ref a from r);rfl
 |ty n=>cases(show u=Value.type n from r);rfl
section
variable{P:Program}{w:World}{H:Hp}{h:Heap}{a C dx:Addr}{fs:List (Str×V)}
def Ck(bj:jL P w H h)(e:H a=some (.ins C dx fs)):∃mA,Ey h a dx C mA/\(∀f,lM (fs.lookup f) (mA f))/\PySem.Within mA (fs.map (·.1))/\fs.length<=1000/\H dx=some (.own a):=by obtain⟨d,z,ne,ob,mA,n,r,q⟩:=(show dC P w H h a (.ins C dx fs)from bj a _ e);exact{mA,⟨ob,n,ne⟩,r,q,z,d}
end
structure B4(K:Frag)(C:Addr):Prop where
 pg:plainGet K C Str.empty=true
 hd:hasDictIn K C=true
 po:PySem.W.plainOver K C=true
 sa:findIn K (.ref C) "__setattr__"=some (some (.builtin "object.__setattr__"))
def B4.get{K:Frag}(c:B4 K C)(f:Str):plainGet K C f=true:=c.pg
def pO(K:Frag)(C:Addr)(f:Str):Prop:=findIn K (.ref C) f=some none
def pO.abJ{K:Frag}(n:pO K C f):PySem.W.takerIn K C f=some none:=by unfold PySem.W.takerIn;rw[show findIn K (.ref C) f=some none from n];rfl
structure Con(K:Frag)(C:Addr)(f:Str)(v:V)(u:Value):Prop where
 at_:findIn K (.ref C) f=some (some u)
 rel:RelV v u
 get:PySem.W.specialIn K u "__get__"=some none
 cp:PySem.W.copiedNames.contains f=false
structure Meth(K:Frag)(C:Addr)(m:Str)(f:Addr):Prop where
 at_:findIn K (.ref C) m=some (some (.ref f))
 fn:isFn K (.ref f)=true
 kp:keepIn K (.ref f)=true
section
variable{X:Cx}{pins:Aac}{Z:St}{H:Hp}{s:Shared}{a C dx:Addr}{fs:List (Str×V)}{f:Str}{v:V}{A:Around}{E:Aae}
def OF(I:Inv X pins Z H s)(e:H a=some (.ins C dx fs))(c:B4 X.K C)(n:pO X.K C f)(l:fs.lookup f=some v)
  (h:∀u s',Inv X pins Z H s'->RelV v u->Q u s'):wpAny (-4) A (getAttr (-49) f b) Q E s:=by
 obtain⟨mA,O,r,_,_,_⟩:=Ck I.bj e;obtain⟨u,hu,ru⟩:=lM.some_of (by rw[<-l];exact r f);exact get_map I.mY O (c.get f) c.hd n hu (RK ru) (h u _ (I.tok _) ru)
def OE(I:Inv X pins Z H s)(e:H a=some (.ins C dx fs))(c:B4 X.K C)(k:Meth X.K C m g)(l:fs.lookup m=none)
  (h:Q (.ref g,[.ref a]) s):wpAny (-4) A (getMethod (-49) m pl) Q E s:=by
 obtain⟨mA,O,r,_,_,_⟩:=Ck I.bj e;have hn:=lM.none_of (by rw[<-l];exact r m);exact UO I.mY O (c.get m) k.at_ k.fn hn h
def NC(I:Inv X pins Z H s)(e:H a=some (.ins C dx fs))(c:B4 X.K C)(n:pO X.K C f)(hl:fs.length<1000)(ry:RelV y u)
  (h:∀s',Inv X pins Z (upd H a (.ins C dx (fB f y fs))) s'->Q () s'):wpAny (-4) A (setAttr (-49) f u) Q E s:=by
 obtain⟨mA,O,r,wi,_,ho⟩:=Ck I.bj e;have hz:(fs.map (·.1)).length<=sizeLine:=by rw[ag,cP];lia
 refine Xs I.mY O c.sa c.po n.abJ c.hd wi hz λh' O' sb=>h _ ?_;have hd:∃o,h'.get? dx=some o:=let⟨o,_,_,e',_⟩:=O'.ns;⟨o,e'⟩
 refine I.write (by rw[e];exact True.intro) (.inr ho) (λb q hb z=>(sb.2 b hb).trans z) hd ?_;refine{by rw[aw O.ne];exact ho,?_,O.ne,O'.obj,_,O'.ns,λg=>?_,λg hg=>?_}
 ·have:=C3 f y fs;lia
 ·show lM ((fB f y fs).lookup g) (if g=f then some u else mA g);rw[C2];by_cases q:g=f
  ·rw[aD q,aD q];exact ry
  ·rw[au q,au q];exact r g
 ·by_cases q:g=f
  ·rw[q];exact(Bg f y fs).1
  ·refine(Bg f y fs).2 g (wi g λz=>hg ?_);show(if g=f then some u else mA g)=none;rw[au q];exact z
def Inv.made(I:Inv X pins Z H s):Inv X pins Z (upd (upd H s.heap.objs.size (.own (-17))) (-17) (.ins C s.heap.objs.size []))
  {s with heap:=(s.heap.push emptyDict).push (instObj C s.heap.objs.size)}:=by
 have e1:(s.heap.push emptyDict).get? s.heap.objs.size=some emptyDict:=aE s.heap rfl;have e2:((s.heap.push emptyDict).push (instObj C s.heap.objs.size)).get? (-17)=some (instObj C s.heap.objs.size):=by have:=aE (s.heap.push emptyDict) (o:=instObj C s.heap.objs.size) rfl;rwa [cw]at this
 have e3:(s.heap.push emptyDict).Ns s.heap.objs.size (λ_=>none):={emptyDict,#[],_,e1,rfl,(λe he=>absurd he (-9)),λ_=>rfl};have I1:=I.laid (o:=.own (-17)) (t':=s.toks) (λb u q=>ah _ q) (ak _) ⟨_,e1⟩;refine I1.laid (λb u q=>ah _ q) (BP (cw _ _)) ?_;have ne:s.heap.objs.size≠s.heap.objs.size+1:=aH (du _);refine{by rw[aw ne,ar],aP _,ne,e2,λ_=>none,(Heap.Ns1.of_empty e3).at λo q=>ah _ q,λ_=>True.intro,λy hy=>absurd rfl hy}
def YO(hb:attributeBase e f env (eval e env)=eval e env)
  (h:wpAny (-5) A (eval e env) (λo aaa=>wpAny (-5) A (getAttr o f true) Q E aaa) E s):wpAny (-5) A (eval (.Attribute e f pos) env) Q E s:=
 Attribute_any_ h (by rw[arm_eval_Attribute,hb])
end
inductive abP(K:Frag)(f:Str)(Q:VK)(x:V)(H1:Hp):Prop
 |mk a C dx fs v (_:x=.ref a) (_:H1 a=some (.ins C dx fs)) (_:B4 K C) (_:pO K C f) (_:fs.lookup f=some v) (_:Q v H1)
def S4(K:Frag)(ta:TE)(f:Str):TE:=λZ H Q=>ta Z H λx H1=>abP K f Q x H1
inductive abX(K:Frag)(f:Str)(D:Ends)(Z:St)(y:V)(x:V)(H2:Hp):Prop
 |mk a C dx fs (_:x=.ref a) (_:H2 a=some (.ins C dx fs)) (_:B4 K C) (_:pO K C f) (_:fs.length<1000) (_:D.nx Z (upd H2 a (.ins C dx (fB f y fs))))
def acP(K:Frag)(ta tv:TE)(f:Str):TS:=λD Z H=>tv Z H λy H1=>ta Z H1 λx H2=>abX K f D Z y x H2
section
variable{X:Cx}{o e value:Expr}{f:Str}{pos pos':Pos}{ta tv:TE}
def mF(he:PE X e ta)(hb:attributeBase e f X.env (eval e X.env)=eval e X.env):PE X (.Attribute e f pos) (S4 X.K ta f):=by intro pins s Z H Q I h;refine YO hb (cX (he pins s Z H _ I h) λu s1 x H1 I1 rx Oi=>?_);obtain⟨a,C,dx,fs,v,ex,ea,c,n,l,q⟩:=Oi;subst ex;obtain rfl:u=Value.ref a:=rx;exact OF I1 ea c n l λu' s2 I2 ru=>⟨v,H1,I2,ru,q⟩
def xQ(ha:PE X o ta)(hv:PE X value tv)(hs:swapsWith value (some (.Attribute o f pos')) pos.line X.env=pure false):PS X (.Assign [.Attribute o f pos'] value pos) (acP X.K ta tv f):=by intro pins s Z H D I h;refine plainObj_wpAny_Assign_Attribute (cX (hv pins s Z H _ I h) λu s1 y H1 I1 ry q=>cX (ha pins s1 Z H1 _ I1 q) λov s2 x H2 I2 rx adP=>?_) hs;obtain⟨a,C,dx,fs,ex,ea,c,n,l,q2⟩:=adP;subst ex;obtain rfl:ov=Value.ref a:=rx;exact NC I2 ea c n l ry λs3 I3=>⟨Z,_,I3,q2⟩
end
section
variable{X:Cx}{pins:Aac}{Z:St}{H:Hp}{s:Shared}{A:Around}{E Q:Aae}{c:Value}{b:Bool}
inductive qh(K:Frag)(H:Hp):V->Value->Prop where
 |cI:qh K H .cI (.type "NoneType")
 |bl (x:Bool):qh K H (.bl x) (.type "bool")
 |int (i:Int):qh K H (.int i) (.type "int")
 |str (x:Str):qh K H (.str x) (.type "str")
 |KA (x:UInt64):qh K H (.KA x) (.type "float")
 |lst {a:Addr} {xs:Aao} (e:H a=some (.lst xs)):qh K H (.ref a) (.type "list")
 |c6 {a:Addr} {o:Obj} {xs:Aao} (e:H a=some (.c6 o (.lst xs))):qh K H (.ref a) (.type "list")
 |tup {a:Addr} {xs:Aao} (e:H a=some (.tup xs)):qh K H (.ref a) (.type "tuple")
 |dK {a:Addr} {kvs:List (Key×V)} (e:H a=some (.dK kvs)):qh K H (.ref a) (.type "dict")
 |dT {a:Addr} {kvs:List (List Key×V)} (e:H a=some (.dT kvs)):qh K H (.ref a) (.type "dict")
 |ins {a C dx:Addr} {fs:List (Str×V)} (e:H a=some (.ins C dx fs)) (cl:B4 K C) (ha:findIn K (.ref C) "__class__"=some (some (.builtin "object.__class__")))
   (hn:PySem.W.specialIn K (.builtin "object.__class__") "__get__"=some (some (.builtin "getset_descriptor.__get__"))) (Q8:PySem.W.takesIn K (.builtin "object.__class__")=some true)
   (hm:PySem.W.mroIn K C (.type "object")=some true):qh K H (-49) (.ref C)
def QT(I:Inv X pins Z H s)(rx:RelV x u)(ty:qh X.K H x t)(e:kitOne X.K t c=some b)(h:∀tk,Q (.bool b) {s with toks:=tk}):
  wpAny (-4) A (call (.builtin "isinstance") [u,c]) Q E s:=by
 cases ty with
 |cI=>cases(show u=Value.none from rx);exact eY PySem.W.kitx_none I.mY True.intro e (λz=>nomatch z) h
 |bl y=>cases(show u=Value.bool y from rx);exact eY PySem.W.kitx_bool I.mY True.intro e (λz=>nomatch z) h
 |int i=>obtain⟨t,q⟩:=(show∃t,u=Value.int i t from rx);cases q;exact eY PySem.W.kitx_int I.mY True.intro e (λz=>nomatch z) h
 |str y=>obtain⟨t,q⟩:=(show∃t,u=Value.str y t from rx);cases q;exact eY PySem.W.kitx_str I.mY True.intro e (λz=>nomatch z) h
 |KA y=>obtain⟨t,q⟩:=(show∃t,u=Value.float y t from rx);cases q;exact eY PySem.W.kitx_float I.mY True.intro e (λz=>nomatch z) h
 |@lst a xs ea=>
  cases(show u=Value.ref a from rx);obtain⟨_,_,n,_,h1⟩:=(show dC X.prog X.w H s.heap a (.lst xs)from I.bj a _ ea);exact eY CD I.mY ⟨_,h1,rfl⟩ e (λz=>nomatch z) h
 |@c6 a ob xs ea=>
  cases(show u=Value.ref a from rx);obtain⟨_,_,_,n,_,h1⟩:=(show dC X.prog X.w H s.heap a (.c6 ob (.lst xs))from I.bj a _ ea);exact eY CD I.mY ⟨_,h1,rfl⟩ e (λz=>nomatch z) h
 |@tup a xs ea=>
  cases(show u=Value.ref a from rx);obtain⟨_,_,_,p,_⟩:=(show dC X.prog X.w H s.heap a (.tup xs)from I.bj a _ ea);obtain⟨o,h1,h2,_⟩:=p;exact eY PySem.W.kitx_tuple I.mY ⟨o,h1,h2⟩ e (λz=>nomatch z) h
 |@dK a kvs ea=>
  cases(show u=Value.ref a from rx);obtain⟨_,_,vs,_,p⟩:=(show dC X.prog X.w H s.heap a (.dK kvs)from I.bj a _ ea);obtain⟨o,es,ep,h1,h2,_⟩:=p;exact eY CF I.mY {o,h1,h2.1} e (λz=>nomatch z) h
 |@dT a kvs ea=>
  cases(show u=Value.ref a from rx);obtain⟨_,_,xs,_,o,es,ep,h1,h2,_⟩:=(show dC X.prog X.w H s.heap a (.dT kvs)from I.bj a _ ea);exact eY CF I.mY {o,h1,h2.1} e (λz=>nomatch z) h
 |@ins a C dx fs ea cl ha hn Q8 hm=>
  cases(show u=Value.ref a from rx);obtain⟨mA,O,_⟩:=Ck I.bj ea;obtain⟨od,J,_⟩:=O.look;exact eY (PySem.W.kitx_own (cl.get _) cl.hd ha hn Q8 hm) I.mY J e (λz=>nomatch z) h
end
structure ig(k:Nat)(A:Around):Prop where
 hd:A.handled=none
 dp:A.depth+3*k+5<recursionLimit
 un:A.units+16*k+200<cLine
def ig.mono(r:ig k A)(h:j<=k):ig j A:={r.hd,by have:=r.dp;lia,by have:=r.un;lia}
def ig.deeper(r:ig (k+1) A)(env:Env):ig k (A.deeper env):=
 {r.hd,by have:=r.dp;show A.depth+1+3*k+5<_;lia,by have:=r.un;show A.units+3+16*k+200<_;lia}
def N9{A:Around}:(-68).depth=A.depth+1:=by
 first|rfl|simp[Around.under,Code.weight,Code.isCreation,Code.isGuard,Code.isCaller,Code.frames,Code.isFrame,guardIds]
def N8{A:Around}:(-68).units=A.units+1:=by
 first|rfl|simp[Around.under,Code.cUnits,Code.frames,Code.isFrame]
def ig.make(r:ig (k+1) A)(C:Addr)(us:Aag)(kw:List (Str×Value)):ig k (-68):=
 {r.hd,by have:=r.dp;rw[N9];lia,by have:=r.un;rw[N8];lia}
def ig.depth(r:ig k A):A.depth<recursionLimit:=by have:=r.dp;lia
def ig.units(r:ig k A):A.units+64<cLine:=by have:=r.un;lia
def AF:TA:=λ_ H Q=>Q [] H
def oB(ta:TE)(tr:TA):TA:=λZ H Q=>ta Z H λx H1=>tr Z H1 λxs H2=>Q (x::xs) H2
section
variable{X:Cx}{e:Expr}{es:List Expr}{te:TE}{t:TA}{pos:Pos}
def jh:PA X [] AF:=λ_ _ _ _ H Q I h=>lB {[],H,I,.nil,h}
def fT(ha:PE X e te)(hr:PA X es t)(hs:starEach (e::es) X.env=(false,eval e X.env)::starEach es X.env:=by rfl):PA X (e::es) (oB te t):=by intro pos pins s Z H Q I h;rw[hs];refine gf (cX (ha pins s Z H _ I h) λu s1 x H1 I1 r1 q1=>?_);exact qH (hr pos pins s1 Z H1 _ I1 q1) λus s2 xs H2 I2 r2 q2=>{x::xs,H2,I2,.cons r1 r2,q2}
def cH{X:Cx}{e:Expr}{te:TE}(ha:PE X e te)(hs:starEach [e] X.env=(false,eval e X.env)::starEach [] X.env:=by rfl):PA X [e] (oB te AF):=fT ha jh hs
def fu{X:Cx}{e f:Expr}{te tf:TE}(ha:PE X e te)(hb:PE X f tf)(hs:starEach [e,f] X.env=(false,eval e X.env)::starEach [f] X.env:=by rfl)(ht:starEach [f] X.env=(false,eval f X.env)::starEach [] X.env:=by rfl):PA X [e,f] (oB te (oB tf AF)):=fT ha (cH hb ht) hs
def pA{X:Cx}{e f g:Expr}{te tf tg:TE}(ha:PE X e te)(hb:PE X f tf)(hc:PE X g tg)(hs:starEach [e,f,g] X.env=(false,eval e X.env)::starEach [f,g] X.env:=by rfl)(ht:starEach [f,g] X.env=(false,eval f X.env)::starEach [g] X.env:=by rfl)(hu:starEach [g] X.env=(false,eval g X.env)::starEach [] X.env:=by rfl):PA X [e,f,g] (oB te (oB tf (oB tg AF))):=fT ha (fu hb hc ht hu) hs
def SX(t:TA):TE:=λZ H Q=>t Z H λxs H1=>xs.length<=sizeLine/\∀p,H1 p=none->Q (.ref p) (upd H1 p (.tup xs))
def acJ(t:TA):TE:=λZ H Q=>t Z H λxs H1=>xs.length<=sizeLine/\∀p,H1 p=none->Q (.ref p) (upd H1 p (.lst xs))
def kh{x1}(h:PA X es t):PE X (.Tuple es x1 pos) (SX t):=by intro pins s Z H Q I hq;refine wpAny_Tuple_spliced (qH (h pos pins s Z H _ I hq) λus s1 xs H1 I1 r ⟨z,q⟩=>{by rw[<-r.length];exact z,?_});have hf:=I1.bj.fresh (ak _);refine{.ref s1.heap.objs.size,upd H1 s1.heap.objs.size (.tup xs),I1.laid (λb u e=>ah _ e) (ak _) ?_,rfl,q _ hf};exact{z,us,r,{_,aE _ rfl,rfl,_,rfl},_,aE _ rfl,rfl}
def gY(h:PA X es t):PE X (.List es pos) (acJ t):=by intro pins s Z H Q I hq;refine wpAny_List_spliced (qH (h pos pins s Z H _ I hq) λus s1 xs H1 I1 r ⟨z,q⟩=>{by rw[<-r.length];exact z,?_});have hf:=I1.bj.fresh (ak _);refine{.ref s1.heap.objs.size,upd H1 s1.heap.objs.size (.lst xs),I1.laid (λb u e=>ah _ e) (ak _) ?_,rfl,q _ hf};exact{z,us,0,r,aE _ rfl}
abbrev Sp:=Aao->Hp->VK->XK->Prop
abbrev K7:=List Env->Hp->Shared->XK->Aae
structure EA(P:Program)(w:World)(K:Frag)(mg:Aad)(base:Heap)(A:Around)(outer:List Env)(s:Shared)(H:Hp):Prop where
 frames:A.frames=some outer
 mod:Mod K mg base
 bs:∀b o,base.get? b=some o->s.heap.get? b=some o/\H b=none
 Du:base.objs.size<=s.heap.objs.size
 sj:s.heap.FunFrames base outer
 Hs:∀b∈Ak outer,H b=none
 bj:jL P w H s.heap
 bare:AllBare s.gens
def CE(outer:List Env)(P:Program)(w:World)(H:Hp)(s:Shared)(Q:VK)(u:Value)(s':Shared):Prop:=
 ∃v H',s'.os=s.os/\AllBare s'.gens/\Un (Ak outer) [] H H' s.heap s'.heap/\jL P w H' s'.heap/\RelV v u/\Q v H'
end
def CR(CX:K7)(outer:List Env)(P:Program)(w:World)(H:Hp)(s:Shared)(Q:VK)(E:XK)(r:Result)(s':Shared):Prop:=
 match r with
 | .ok (.ret u)=>CE outer P w H s Q u s'
 | .ok _=>False
 | .error e=>CX outer H s E e s'
structure dh(P:Program)(w:World)(K:Frag)(mg:Aad)(base:Heap)(CX:K7)(k:Nat)(f:Addr)(fd:FuncData)(ps:Aah)(sp:Sp):Prop where
 len:∀vs H Q E,sp vs H Q E->vs.length=ps.length
 run:∀(A:Around)(outer:List Env)(s:Shared)(H:Hp)(args:Args)(us:Aag)(vs:Aao)(Q:VK)(E:XK),ig k A->EA P w K mg base A outer s H->BindsTo s fd args (ps.zip us)->Vals vs us->sp vs H Q E->
  codeAny (-25) A (.call (.ref f) args) (CR CX outer P w H s Q E) s
def EA.make{K:Frag}(e:EA P w K mg base A outer s H)(C:Addr)(us:Aag)(kw:List (Str×Value)):
  EA P w K mg base (-68) outer s H:={by first|exact e.frames|(simpa[Around.under,Code.envs,Code.isFrame,pushEnvs]using e.frames),e.mod,e.bs,e.Du,e.sj,e.Hs,e.bj,e.bare}
section
variable{X:Cx}{pins:Aac}{Z:St}{H:Hp}{s s':Shared}
def Inv.env0(I:Inv X pins Z H s):EA X.prog X.w X.K X.mg X.base X.A X.stack s H:=
 {I.ok.frames,I.ok.mod,I.bs,aC I.ok.Du I.sz,I.stack,I.L1,I.bj,I.bare}
def Inv.after(I:Inv X pins Z H s)(h:CE X.stack X.prog X.w H s Q u s'):EP X pins Z Q u s':=by obtain⟨v,H',os,bare,un,bj,r,q⟩:=h;obtain⟨hh,g,d,t,VP⟩:=s';obtain rfl:VP=s.os:=os;exact{v,H',I.call un bj bare (λb z=>absurd z (-9)),r,q}
end
def VB(sp:Sp)(qB:Aao)(E:XK)(t:TA):TE:=λZ H Q=>t Z H λvs H1=>sp (vs++qB) H1 Q E
inductive ZA(C:Addr)(m:Str)(sp:Sp)(qB:Aao)(E:XK)(t:TA)(Z:St)(Q:VK)(x:V)(H1:Hp):Prop
 |mk a dx fs (_:x=.ref a) (_:H1 a=some (.ins C dx fs)) (_:fs.lookup m=none) (_:t Z H1 λvs H2=>sp (x::(vs++qB)) H2 Q E)
def Vy(C:Addr)(m:Str)(sp:Sp)(qB:Aao)(E:XK)(ta:TE)(t:TA):TE:=λZ H Q=>ta Z H λx H1=>ZA C m sp qB E t Z Q x H1
def Vz(C:Addr)(sp:Sp)(qB:Aao)(E:XK)(t:TA):TE:=λZ H Q=>t Z H λvs H1=>∀x dx,H1 x=none->H1 dx=none->dx≠x->
 sp (.ref x::(vs++qB)) (upd (upd H1 dx (.own x)) x (.ins C dx [])) (λv H2=>v=.cI/\Q (.ref x) H2) E
def Binds(K:Frag)(fd:FuncData)(ps:Aah)(ds:Aag):Prop:=
 ∀(s:Shared)(us:Aag),K.In s.heap->(us++ds).length=ps.length->BindsTo s fd {us,[]} (ps.zip (us++ds))
def Binds.all{K:Frag}(h:∀us:Aag,us.length=ps.length->bindArgs fd {us,[]}=pure (ps.zip us)):Binds K fd ps []:=λs us _ hl=>by rw[cu]at hl⊢;exact .of_eq (h us hl)
def Passes(CX:K7)(X:Cx)(E:XK):Prop:=∀(pins:Aac)(Z:St)(H:Hp)(s:Shared)(e:Value)(s':Shared),Inv X pins Z H s->CX X.stack H s E e s'->X.xe e s'
section
variable{X:Cx}{CX:K7}{k:Nat}{f C:Addr}{fd:FuncData}{ps:Aah}{sp:Sp}{qB:Aao}{ds:Aag}{E:XK}{x m:Str}{p pos apos:Pos}{e o:Expr}{es:List Expr}{ta:TE}{t:TA}
def P0(F:dh X.prog X.w X.K X.mg X.base CX k f fd ps sp)(hr:ig k X.A)(hb:Binds X.K fd ps ds)(hd:Vals qB ds)(hx:Passes CX X E)
  (I:Inv X pins Z H s) (r:Vals vs us) (h:sp (vs++qB) H Q E):wpAny (-4) X.A (call (.ref f) us) (EP X pins Z Q) X.xe s:=by
 have r2:=r.append hd;have hl:(us++ds).length=ps.length:=by rw[<-r2.length];exact F.len _ _ _ _ h
 refine ED (lK (F.run X.A X.stack s H {us,[]} (us++ds) (vs++qB) Q E hr I.env0 (hb s us I.mY hl) r2 h) λr s' hq=>?_);cases r with
 |error e=>exact hx pins Z H s e s' I hq
 |ok fl=>
  cases fl with
  |ret u=>exact I.after hq
  |next=>exact False.elim hq
  |brk=>exact False.elim hq
  |cont=>exact False.elim hq
def XY(F:dh X.prog X.w X.K X.mg X.base CX k f fd ps sp)(hr:ig k X.A)(hg:Gl X x)(hm:X.mg x=some (.ref f))(hk:keepIn X.K (.ref f)=true)(hb:Binds X.K fd ps ds)(hd:Vals qB ds)(hx:Passes CX X E)
  (ha:PA X (e::es) t) (Bt:(-27)=false:=by decide) (he:starEach (e::es) X.env=(false,eval e X.env)::starEach es X.env:=by rfl) (qU:(-30).any (·.1)=false:=by rfl):
  PE X (-66) (VB sp qB E t):=by
 intro pins s Z H Q I h;refine nj (Gd I hg hm ?_ Bt);refine tV I.ok.mod.QM hk (qH (ha pos pins s Z H _ I h) λus s1 vs H1 I1 r q=>{I1.mY,?_}) he qU;exact P0 F hr hb hd hx I1 r q
def XT(he:PE X o ta)(c:B4 X.K C)(hm:Meth X.K C m f)(F:dh X.prog X.w X.K X.mg X.base CX k f fd ps sp)(hr:ig k X.A)(hb:Binds X.K fd ps ds)(hd:Vals qB ds)(hx:Passes CX X E)(ha:PA X (e::es) t)
  (gq:starEach (e::es) X.env=(false,eval e X.env)::starEach es X.env:=by rfl) (qU:(-30).any (·.1)=false:=by rfl)
  (ht:eval (.Call (.Attribute o m apos) (e::es) [] pos) X.env=(do
   let ov<-eval o X.env
   standAt apos.atName
   let(f,first)<-holding [ov] (getMethod ov m pl)
   callWith pos f first (backTo pos (starEach (e::es) X.env)) (backToKw pos (keywordEach [] X.env))):=by rfl):
  PE X (.Call (.Attribute o m apos) (e::es) [] pos) (Vy C m sp qB E ta t):=by
 intro pins s Z H Q I h;refine PySem.W.methodCall_KW (cX (he pins s Z H _ I h) λu s1 x H1 I1 rx Uq=>?_) ht;obtain⟨a,dx,fs,ex,ea,l,q⟩:=Uq;subst ex;obtain rfl:u=Value.ref a:=rx;refine OE I1 ea c hm l ?_;refine tV I.ok.mod.QM hm.kp (qH (ha pos pins s1 Z H1 _ I1 q) λus s2 vs H2 I2 r q2=>{I2.mY,?_}) gq qU;exact P0 (vs:=.ref a::vs) F hr hb hd hx I2 (.cons rfl r) q2
structure Mk(K:Frag)(C f:Addr):Prop where
 makes:PySem.W.makesIn K C=true
 init:findIn K (.ref C) "__init__"=some (some (.ref f))
 fn:isFn K (.ref f)=true
 kp:keepIn K (.ref C)=true
def Th(M:Mk X.K C f)(F:dh X.prog X.w X.K X.mg X.base CX k f fd ps sp)(hr:ig (k+1) X.A)(hb:Binds X.K fd ps ds)(hd:Vals qB ds)
  (hx:Passes CX X E) (I:Inv X pins Z H s) (r:Vals vs us)
  (h:∀x dx,H x=none->H dx=none->dx≠x->sp (.ref x::(vs++qB)) (upd (upd H dx (.own x)) x (.ins C dx [])) (λv H2=>v=.cI/\Q (.ref x) H2) E):
  wpAny (-4) X.A (call (.ref C) us) (EP X pins Z Q) X.xe s:=by
 have hq:=h (-17) s.heap.objs.size (I.bj.fresh (eZ _)) (-69) (aH (du _));have I2:=Inv.made (C:=C) I;have r2:Vals (V.ref (-17)::(vs++qB)) (Value.ref (-17)::(us++ds)):=.cons rfl (r.append hd);have hl:(Value.ref (-17)::us++ds).length=ps.length:=by have e:=r2.length;rw[F.len _ _ _ _ hq]at e;exact e.symm
 refine ED (TY I.mY M.makes M.init (u3.mp M.fn) (lK (F.run _ X.stack _ _ {Value.ref (-17)::us,[]} (Value.ref (-17)::(us++ds)) _ _ E (hr.make C us [])
  (I2.env0.make C us []) (hb _ (Value.ref (-17)::us) I2.mY hl) r2 hq) λr s' Bp=>?_))
 cases r with
 |error e=>exact hx pins Z _ _ e s' I2 Bp
 |ok fl=>
  cases fl with
  |ret u=>
   obtain⟨v,H',I3,rv,ev,q3⟩:=I2.after Bp;subst ev;exact{rv,{V.ref (-17),H',I3,rfl,q3}}
  |next=>exact False.elim Bp
  |brk=>exact False.elim Bp
  |cont=>exact False.elim Bp
def XU(M:Mk X.K C f)(F:dh X.prog X.w X.K X.mg X.base CX k f fd ps sp)(hr:ig (k+1) X.A)(hg:Gl X x)(hm:X.mg x=some (.ref C))(hb:Binds X.K fd ps ds)(hd:Vals qB ds)(hx:Passes CX X E)
  (ha:PA X (e::es) t) (Bt:(-27)=false:=by decide) (he:starEach (e::es) X.env=(false,eval e X.env)::starEach es X.env:=by rfl) (qU:(-30).any (·.1)=false:=by rfl):
  PE X (-66) (Vz C sp qB E t):=by
 intro pins s Z H Q I h;refine nj (Gd I hg hm ?_ Bt);refine tV I.ok.mod.QM M.kp (qH (ha pos pins s Z H _ I h) λus s1 vs H1 I1 r q=>{I1.mY,?_}) he qU;exact Th M F hr hb hd hx I1 r q
variable{ks:Aah}
structure aeC(K:Frag)(fd:FuncData)(ps ks:Aah)(g:Aag->Aag->Aag)(gV:Aao->Aao->Aao):Prop where
 to:∀(s:Shared)(us ws:Aag),K.In s.heap->(g us ws).length=ps.length->BindsTo s fd {us,ks.zip ws} (ps.zip (g us ws))
 rel:∀{vs:Aao}{us:Aag}{zs:Aao}{ws:Aag},Vals vs us->Vals zs ws->Vals (gV vs zs) (g us ws)
end
structure cz(N P:Aah)(sc:Scope):Prop where
 kind:sc.kind=.function
 co:sc.isCoroutine=false
 gen:sc.isGenerator=false
 nd:N.Nodup
 pre:N.take P.length=P
 par:∀x∈P,sc.names.lookup x=some .local\/sc.names.lookup x=some .cell
 aas:∀y∈sc.names,y.2≠ .free
def jV{N P:Aah}{sc:Scope}(h:sc.kind=.function/\sc.isCoroutine=false/\sc.isGenerator=false/\N.Nodup/\N.take P.length=P/\(∀x∈P,sc.names.lookup x=some .local\/sc.names.lookup x=some .cell)/\∀y∈sc.names,y.2≠ .free):cz N P sc:={h.1,h.2.1,h.2.2.1,h.2.2.2.1,h.2.2.2.2.1,h.2.2.2.2.2.1,h.2.2.2.2.2.2}
def jg{X:Cx}{x:Str}{pos:Pos}{ps:Aah}{sc:Scope}(i:Nat)(S:cz X.N ps sc)(hi:X.N[i]?=some x:=by rfl)(hx:X.env.scope.names.lookup x=some .local:=by rfl):PG X (.Name x pos) (sW i):=oF S.nd hi (Or.inl hx) (Or.inr hx)
def gn{X:Cx}{x:Str}{pos pos':Pos}{e:Expr}{te:TE}{ps:Aah}{sc:Scope}(i:Nat)(S:cz X.N ps sc)(he:PE X e te)(hi:X.N[i]?=some x:=by rfl)(hx:X.env.scope.names.lookup x=some .local:=by rfl)(hs:swapsWith e (some (.Name x pos')) pos.line X.env=pure false:=by rfl):PS X (.Assign [.Name x pos'] e pos) (S6 te (sW i)):=pz S.nd hi (Or.inl hx) he hs (Or.inr hx)
theorem HA{kindOf:Str->Option NameKind}:∀{binds:List (Str×Value)}{m:Aad},(∀v,(x,v)∉binds)->bindL kindOf binds m x=m x
 |[],_,_=>rfl
 |(n,v)::r,m,h=>by
  unfold bindL;rw[HA λw hw=>h w (az _ hw)];split
  ·have:x≠n:=by rintro rfl;exact h v ax
   simp[this]
  ·rfl
theorem HC{kindOf:Str->Option NameKind}:∀{binds:List (Str×Value)}{m:Aad},(∀v,(x,v)∉binds)->bindC kindOf binds m x=m x
 |[],_,_=>rfl
 |(n,v)::r,m,h=>by
  unfold bindC;rw[HC λw hw=>h w (az _ hw)];split
  ·rfl
  ·have:x≠n:=by rintro rfl;exact h v ax
   simp[this]
theorem HB{kindOf:Str->Option NameKind}:∀{P:Aah}{vs:Aag}{i:Nat}{m:Aad},P.Nodup->P[i]?=some x->vs[i]?=some v->kindOf x=some .local->
  bindL kindOf (P.zip vs) m x=some v
 |[],_,_,_,_,h,_,_=>by simp at h
 |_::_,[],_,_,_,_,h,_=>by simp at h
 |p::P,w::vs,0,m,nd,h1,h2,hk=>by simp at h1 h2;subst h1;subst h2;show bindL kindOf ((p,w)::P.zip vs) m p=_;unfold bindL;rw[HA λv hv=>(cU.mp nd).1 (rB hv).1,aD hk];simp
 |p::P,w::vs,i+1,m,nd,h1,h2,hk=>by show bindL kindOf ((p,w)::P.zip vs) m x=_;unfold bindL;exact HB (i:=i) (cU.mp nd).2 (by simpa using h1) (by simpa using h2) hk
theorem HD{kindOf:Str->Option NameKind}:∀{P:Aah}{vs:Aag}{i:Nat}{m:Aad},P.Nodup->P[i]?=some x->vs[i]?=some v->kindOf x≠some .local->
  bindC kindOf (P.zip vs) m x=some v
 |[],_,_,_,_,h,_,_=>by simp at h
 |_::_,[],_,_,_,_,h,_=>by simp at h
 |p::P,w::vs,0,m,nd,h1,h2,hk=>by simp at h1 h2;subst h1;subst h2;show bindC kindOf ((p,w)::P.zip vs) m p=_;unfold bindC;rw[HC λv hv=>(cU.mp nd).1 (rB hv).1,au hk];simp
 |p::P,w::vs,i+1,m,nd,h1,h2,hk=>by show bindC kindOf ((p,w)::P.zip vs) m x=_;unfold bindC;exact HD (i:=i) (cU.mp nd).2 (by simpa using h1) (by simpa using h2) hk
def start(N:Aah)(vs:Aao):St:=vs.map some++List.replicate (N.length -vs.length) none
noncomputable def Gn(CX:K7)(P:Program)(w:World)(K:Frag)(mg:Aad)(base:Heap)(N:Aah)(qual:Str)(scope:Scope)(f:Addr)(cd:Value)(A:Around)(outer:List Env)(s:Shared)(H:Hp)(E:XK):Cx where
 prog:=P
 w:=w
 K:=K
 mg:=mg
 base:=base
 A:=A.deeper (-67)
 N:=N
 aab:=s
 aaf:=H
 env:=envOfC qual scope s.heap.objs.size f cd
 outer:=outer
 stack:=envOfC qual scope s.heap.objs.size f cd::outer
 ex:=[]
 calm:=true
 fn:=λ_=>true
 pn:=[]
 xe:=λe s'=>wpAny (-25) (A.deeper (-67)) (leaving (-67) e) (λ_ ZT=>CX outer H s E e ZT) (λe' ZT=>CX outer H s E e' ZT) s'
def KO{sc:Scope}(h:sc.names.lookup x=some .cell):∃c,(cellsFrom n sc.names []).lookup x=some c:=by have q:=xv sc.names n [] (.inl h);exact km.mp q
def QV{K:Frag}
  (S:cz N ps scope) (hd:A.handled=none) (e0:EA P w K mg base A outer s H) (hl:vs.length=ps.length) (r:Vals vs us)
  (x:InCallC s s.heap.objs.size (bindL (-67).kindOf (ps.zip us) λ_=>none) (cellsFrom (-17) scope.names []) (bindC (-67).kindOf (ps.zip us) λ_=>none) s1):
  Inv (Gn CX P w K mg base N qual scope f cd A outer s H E) [] (start N vs) H s1:=by
 have qU:ps.length<=N.length:=by have:=cc List.length S.pre;rw[aL]at this;lia
 obtain⟨h1,tk,rfl,hk⟩:=x.done;have Qu:∀b:Addr,b∉(Gn CX P w K mg base N qual scope f cd A outer s H E).ex:=λb z=>absurd (show b∈([]:Aaj)from z) (-9);refine{{e0.mod,S.kind,rfl,rfl,ak _,λy z c h1 h2=>?_,λy hy=>?_,λy c _ h=>?_,λ_=>hd,Around.frames_deeper e0.frames,.inr ⟨rfl,rfl⟩,λb z=>absurd z (Qu b),e0.bs,e0.Du,λb _ _=>Qu b,λb z=>absurd z (Qu b),e0.sj,e0.Hs},
  rfl,e0.bare,Un.kept hk,{_,x.toInCall.ns,λi y v h1 h2 h3=>?_},λy c h=>{_,x.cell y c h},e0.bj.fresh (ak _),λy c h=>?_,λp hp=>absurd (show p∈([]:Aac)from hp) (-9),e0.bj.kept hk,?_}
 ·exact name_of_addr x.apart (kB h1) (kB h2)
 ·have hy:=hy;rcases hy with hy|hy
  ·exact KO hy
  ·exact absurd rfl (S.aas _ (kB hy))
 ·exact br (x.above y c (kB h))
 ·have hi:i<vs.length:=by
   unfold start at h2;by_cases hi:i<vs.length
   ·exact hi
   ·rw[dw (by simpa using hi)]at h2;rw[wy]at h2;split at h2<;>cases h2
  have ha:vs[i]?=some v:=by
   unfold start at h2;rw[dE (by simpa using hi),aJ]at h2;cases e:vs[i]? with
   |none=>rw[e]at h2;cases h2
   |some a=>rw[e]at h2;cases h2;rfl
  obtain⟨u,hu,rv⟩:=r.get ha;have hp:ps[i]?=some y:=by rw[<-S.pre,oo ∅];exact h1
  have ndP:ps.Nodup:=by rw[<-S.pre];exact S.nd.sublist (CH _ _)
  refine{u,rv,?_};rcases S.par y (aB hp)with k|k
  ·exact .inl {k,HB ndP hp hu k}
  ·obtain⟨c,e⟩:=KO k;refine .inr {.inl k,c,e,?_};have q:=x.cell y c e;rw[HD ndP hp hu (by show scope.names.lookup y≠_;rw[k];decide)]at q;exact q
 ·exact e0.bj.fresh (br (x.above y c (kB h)))
 ·unfold start;show _=N.length;rw[aK,ag,jz];lia
def acp{K:Frag}{dV kV doc pm dk ct oc:Value}
     (lk:K.lookup f=some {oc,od,.func (fnOf name qual params body scope dV kV doc pm an dk ct),zZ}) (Bu:codeIn K dk qual=true) (S:cz N ps scope)
  (len:∀vs H Q E,sp vs H Q E->vs.length=ps.length)
  (OB:∀(A:Around)(outer:List Env)(s:Shared)(H:Hp)(vs:Aao)(Q:VK)(E:XK),ig k (A.deeper (envOfC qual scope s.heap.objs.size f dk))->sp vs H Q E->
   ∃t,lN (Gn CX P w K mg base N qual scope f dk A outer s H E) body t/\t {nx:=λ_ H'=>Q .cI H',rt:=Q} (start N vs) H):
  dh P w K mg base CX (k+1) f (fnOf name qual params body scope dV kV doc pm an dk ct) ps sp:=by
 refine{len,λA outer s H args us vs Q E hr e0 hb r Hg=>?_};have hl:=len _ _ _ _ Hg;have KX:=e0.mod.QM.keeps λb o e=>(e0.bs b o e).1;have lim:=e0.mod.nolimit.keeps λb o e=>(e0.bs b o e).1;have acj:∀y∈ps.zip us,scope.names.lookup y.1=some .local\/(scope.names.lookup y.1=some .cell/\((cellsFrom (-17) scope.names []).lookup y.1).isSome=true):=λ⟨n,v⟩ hy=>by
  rcases S.par n (rB hy).1 with q|q
  ·exact .inl q
  ·exact .inr {q,xv _ _ _ (.inl q)}
 refine codeAny_call_function hr.depth (KX _ _ lk) rfl S.co S.gen rfl (PySem.W.codeRec_of KX Bu) (hb _ _ _ _ ?_);refine wpAny_newFunctionEnv_cells S.kind acj λenv he s1 x=>?_;subst he;refine{lim.keeps x.toInCall.keep,codeAny_func ?_};obtain⟨t,ht,hq⟩:=OB A outer s H vs Q E (hr.deeper _) Hg;have I:Inv (Gn CX P w K mg base N qual scope f dk A outer s H E) [] (start N vs) H s1:=QV S hr.hd e0 hl r x;refine cZ (ht [] s1 (start N vs) H _ I hq) (λfl s' hs=>?_) λe s' hs=>hs;have fin:∀{σ':St}{H':Hp}{v:V}{u:Value},Inv (Gn CX P w K mg base N qual scope f dk A outer s H E) [] σ' H' s'->RelV v u->Q v H'->CE outer P w H s Q u s':=
  λ{σ' H' v u} J rv q=>{v,H',J.os,J.bare,J.base,J.bj,rv,q}
 cases fl with
 |ret u=>
  obtain⟨v,σ',H',J,rv,q⟩:=hs;exact fin J rv q
 |next=>
  obtain⟨σ',H',J,q⟩:=hs;exact fin (v:=V.cI) J rfl q
 |brk=>
  obtain⟨_,_,_,q⟩:=hs;exact False.elim q
 |cont=>
  obtain⟨_,_,_,q⟩:=hs;exact False.elim q
section
variable{X:Cx}{x:Str}{p pos:Pos}{e:Expr}{es:List Expr}{t:TA}{id T:String}{r:Aao->Hp->VK->Prop}
def VC(r:Aao->Hp->VK->Prop)(t:TA):TE:=λZ H Q=>t Z H λvs H1=>r vs H1 Q
def cA(hc:jU X (.builtin id) r)(hg:Gl X x)(hm:X.mg x=none)(hv:bootBuiltins x=some (.builtin id))(ha:PA X (e::es) t)(hn:x≠"__name__":=by decide)(Bt:(-27)=false:=by decide)
  (he:starEach (e::es) X.env=(false,eval e X.env)::starEach es X.env:=by rfl) (qU:(-30).any (·.1)=false:=by rfl):PE X (-66) (VC r t):=by
 intro pins s Z H Q I h;refine nj (qN I hg hm hv ?_ hn Bt);exact PyProof.Rows.callWith_builtin1 (qH (ha pos pins s Z H _ I h) λus s1 vs H1 I1 r1 q1=>hc pins s1 Z H1 vs us Q I1 r1 q1) he qU
def d7(hc:jU X (.type T) r)(hg:Gl X x)(hm:X.mg x=none)(hv:bootBuiltins x=some (.type T))(ha:PA X (e::es) t)(hn:x≠"__name__":=by decide)(Bt:(-27)=false:=by decide)
  (he:starEach (e::es) X.env=(false,eval e X.env)::starEach es X.env:=by rfl) (qU:(-30).any (·.1)=false:=by rfl):PE X (-66) (VC r t):=by
 intro pins s Z H Q I h;refine nj (qN I hg hm hv ?_ hn Bt);exact dR (qH (ha pos pins s Z H _ I h) λus s1 vs H1 I1 r1 q1=>hc pins s1 Z H1 vs us Q I1 r1 q1) he qU
end
end L2
namespace HT
open PySem PyProof.Rows
section
open PySem.SeqAt
open PySem.AutoSeq1 (wpAny_loadPart')
open PySem.MeetsSeq PySem.MeetsSeq2 PySem.MeetsSeq3
end
section
variable{prog:Program}{w:World}{A:Around}{E:Aae}{s:Shared}
def YL(ht:IsTup s.heap t vs.toArray)(hb:IsTup s.heap b ws.toArray)(hv:vs≠[])
  (h1:ws=[]->Q (.ref t) s) (h2:ws≠[]->Q (-11) {s with heap:=s.heap.push {cls:=.type "tuple",data:=.seq (vs++ws).toArray}})
  (hsz:vs.length+ws.length<=sizeLine):wpAny (-5) A (binaryOp .Add (.ref t) (.ref b)) Q E s:=by
 obtain⟨⟨cls,dd,data,sl⟩,ho,hc,n,hd⟩:=id ht;obtain⟨⟨aet,Na,data2,VG⟩,Ad,yq,n2,hd2⟩:=id hb;simp only at hc hd yq hd2;subst hc hd yq hd2;have e:vs.toArray++ws.toArray=(vs++ws).toArray:=by simp
 by_cases hw:ws=[]
 ·exact Bw ⟨_,ho,rfl⟩ ⟨_,Ad,rfl⟩ vH zY pM oV (og _ _)
   (tuple_addW1 t b vs.toArray ws.toArray n n2 dd Na sl VG (by simpa using hv) (by simp[hw])) {ho,Ad,h1 hw}
 ·refine Bw ⟨_,ho,rfl⟩ ⟨_,Ad,rfl⟩ vH zY pM oV (og _ _)
   (tuple_addW2 t b vs.toArray ws.toArray n n2 dd Na sl VG (by simpa using hv) (by simpa using hw) (by rw[aI,aI];exact hsz)) {ho,Ad,?_}
  rw[e];exact h2 hw
def dB(n d:Nat):Option Int->Nat
 |none=>d
 |some v=>if v<0 then(v+(n:Int)).toNat else min v.toNat n
def IL(n d:Nat):dB n d none=d:=rfl
def F0(n d k:Nat):dB n d (some (k:Int))=min k n:=by show(if(k:Int)<0 then((k:Int)+(n:Int)).toNat else min (k:Int).toNat n)=min k n;rw[au ∅,cV]
def ZN(n d:Nat)(hd:d<=n)(o:Option Int):dB n d o<=n:=by
 cases o with
 |none=>exact hd
 |some v=>
  show(if v<0 then(v+(n:Int)).toNat else min v.toNat n)<=n;by_cases hv:v<0
  ·rw[aD hv];lia
  ·rw[au hv];exact Nat.min_le_right _ _
def Nf(v:Int)(n d:Nat):(if v<0 then max (v+(n:Int)) 0 else min v (n:Int))=((dB n d (some v):Nat):Int):=by
 show(if v<0 then max (v+(n:Int)) 0 else min v (n:Int))=(((if v<0 then(v+(n:Int)).toNat else min v.toNat n):Nat):Int);by_cases hv:v<0
 ·simp only[aD hv];lia
 ·simp only[au hv];lia
def O7(lo hi:Option Int)(n:Nat):Builtin.Slice.sliceAdjust lo hi 1 (n:Int)=(((dB n 0 lo:Nat):Int),((dB n n hi:Nat):Int)):=by
 have h1:¬((1:Int)<0):=by lia
 unfold Builtin.Slice.sliceAdjust;simp only[h1,dJ];refine Ew ?_ ?_
 ·cases lo with
  |none=>rfl
  |some v=>exact Nf v n 0
 ·cases hi with
  |none=>rfl
  |some v=>exact Nf v n n
def NP(i j:Nat):Builtin.Slice.slicePlaces (i:Int) (j:Int) 1=j -i:=by
 unfold Builtin.Slice.slicePlaces;have h1:(1:Int)>0:=by lia
 simp only[h1,lG,Int.ediv_one];split<;>lia
def EM{v:Value}{o:Option Int}{Q:Option Int->Shared->Prop}(p:IsPart v o)(h:Q o s):wpAny (-5) A (Builtin.Slice.slicePartIndex v) Q E s:=by
 cases p with
 |none=>exact rV h
 |int i t=>exact slicePart_int h
def vv{sl:Addr}{vl vu:Value}{lo hi:Option Int}{n:Nat}{Q:Int×Int×Nat->Shared->Prop}(hs:s.heap.IsSliceOf sl vl vu .none)(pl:IsPart vl lo)(pu:IsPart vu hi)
  (h:Q (((dB n 0 lo:Nat):Int),1,dB n n hi -dB n 0 lo) s):wpAny (-5) A (Builtin.Slice.sliceApplied (.ref sl) (pure (n:Int))) Q E s:=by
 obtain⟨os,yn,Kq,De⟩:=id hs;unfold Builtin.Slice.sliceApplied Builtin.Slice.sliceFields;refine ae (ae (bF yn De (x:=vl) rfl (ae (bF yn De (x:=vu) rfl (ae (bF yn De (x:=.none) rfl (af ?_)))))));refine ae (rV ?_);show wpAny _ _ (if((1:Int)==0)=true then _ else _) _ _ s;rw[au (-8)];refine ae (EM pl (ae (EM pu (ae (af ?_)))));show wpAny _ _ (match Builtin.Slice.sliceAdjust lo hi 1 (n:Int)with|(lo,hi)=>pure (lo,(1:Int),Builtin.Slice.slicePlaces lo hi 1)) _ _ s;rw[O7 lo hi n];show wpAny _ _ (pure (((dB n 0 lo:Nat):Int),(1:Int),Builtin.Slice.slicePlaces ((dB n 0 lo:Nat):Int) ((dB n n hi:Nat):Int) 1)) _ _ s;rw[NP];exact af h
def Tv(xs:Aal)(i k:Nat):((List.range k).filterMap λ(m:Nat)=>xs[((i:Int)+(m:Int)*1).toNat]?).toArray=((xs.toList.drop i).take k).toArray:=by
 have e:(λ(m:Nat)=>xs[((i:Int)+(m:Int)*1).toNat]?)=λm=>xs[i+m]?:=by
  funext m;have:((i:Int)+(m:Int)*1).toNat=i+m:=by lia
  rw[this]
 rw[e];have:=pick_run xs i k;rw[tY]at this;have e2:((λx=>xs[x]?)∘λx=>i+x)=λm=>xs[i+m]?:=rfl;rw[e2]at this;rw[this]
def Cz{t sl:Addr}{items:Aal}{vl vu:Value}{lo hi:Option Int}{Q:Aae}(ht:IsTup s.heap t items)(hs:s.heap.IsSliceOf sl vl vu .none)(pl:IsPart vl lo)(pu:IsPart vu hi)
  (hw:¬(dB items.size 0 lo=0/\dB items.size items.size hi=items.size))
  (h:Q (-11) {s with heap:=s.heap.push {cls:=.type "tuple",data:=.seq (-38).toArray}})
  (hsz:items.size<=sizeLine):wpAny (-5) A (getItem (.ref t) (.ref sl)) Q E s:=by
 have uU:sizeOk (.seq (-38).toArray):=by show(-38).toArray.size<=sizeLine;rw[aI,aL,mq,aQ];lia
 have hj:dB items.size items.size hi<=items.size:=ZN _ _ (ak _) hi;obtain⟨os,yn,Kq,De⟩:=id hs;have RN:s.TypeIs (.ref sl) "slice":=⟨os,yn,Kq⟩;unfold getItem
 try with_reducible refine bP ?_
 first|refine ae (af ?_)|skip
 refine ae (uo ht.typeIs (-8) ?_);refine ae (wpAny_callSpecial?_slot (name:=Str.ofString "__getitem__") ht.typeIs cx
  (bq cx ht.typeIs rN ?_ (tU _ _)))
 show wpAny _ _ (Builtin.Tuple.tupleItemsOf (.ref t)>>=_) _ _ s;refine ae (zW ht ?_);refine ae (fA RN ?_);rw[aD (-8)];refine ae (vv hs pl pu ?_);have Br:¬((-18)=true):=by intro q;rw[cE,cE]at q;have q1:((dB items.size 0 lo:Nat):Int)=0:=iE q.1.1;have q2:dB items.size items.size hi -dB items.size 0 lo=items.size:=iE q.2;exact hw {by lia,by lia}
 show wpAny _ _ (if(-18)=true then _ else _) _ _ s;rw[au Br,Tv]
 first
  |exact ae (m:=Builtin.Tuple.tupleExact _) (bT (af ⟨_,rfl,af h⟩) uU)
  |exact ae (m:=Builtin.Tuple.tupleExact _) (bT (ae (af (af ⟨_,rfl,af h⟩))) uU)
  |exact ae (ae (m:=Builtin.Tuple.tupleExact _) (bT (af (af ⟨_,rfl,af h⟩)) uU))
  |exact ae (ae (m:=Builtin.Tuple.tupleExact _) (bT (af ⟨_,rfl,af h⟩) uU))
end
end HT
namespace L2
open PySem PySem.Spec PyProof.Rows
abbrev TO:=St->Hp->(Option Int->Hp->Prop)->Prop
def PO(X:Cx)(e:Option Expr)(t:TO):Prop:=
 ∀(pins:Aac)(s:Shared)(Z:St)(H:Hp)(Q:Option Int->Hp->Prop),Inv X pins Z H s->t Z H Q->
  wpAny (-4) X.A (evalPart e X.env) (λu s'=>∃o H',Inv X pins Z H' s'/\IsPart u o/\Q o H') X.xe s
def LV:TO:=λ_ H Q=>Q none H
inductive Zz(Q:Option Int->Hp->Prop)(x:V)(H1:Hp):Prop
 |mk i (_:x=.int i) (_:Q (some i) H1)
def abM(t:TE):TO:=λZ H Q=>t Z H λx H1=>Zz Q x H1
section
variable{X:Cx}{e:Expr}{te:TE}{lo hi:Option Expr}{tl th:TO}{pos p2:Pos}
def Cf:PO X none LV:=by intro pins s Z H Q I h;rw[Am];exact af {none,H,I,.none,h}
def Ce(h:PE X e te):PO X (some e) (abM te):=by intro pins s Z H Q I hw;rw[evalPart_some];refine cX (h pins s Z H _ I hw) λu s1 x H1 I1 r1 q1=>?_;obtain⟨i,rfl,q⟩:=q1;obtain⟨t,rfl⟩:=r1;exact{some i,H1,I1,.int i t,q}
def Nk(X:Cx)(r:V->Option Int->Option Int->Hp->VK->Prop):Prop:=
 ∀(pins:Aac)(s:Shared)(Z:St)(H:Hp)(x:V)(v vl vu:Value)(lo hi:Option Int)(sl:Addr)(Q:VK),Inv X pins Z H s->RelV x v->s.heap.IsSliceOf sl vl vu .none->IsPart vl lo->IsPart vu hi->r x lo hi H Q->
  ∃T id,typeLookup (.type T) "__getitem__"=pure (some (.builtin id))/\s.TypeIs v T/\wpAny (-4) X.A (getItem v (.ref sl)) (EP X pins Z Q) X.xe s
def tSl(r:V->Option Int->Option Int->Hp->VK->Prop)(te:TE)(tl th:TO):TE:=λZ H Q=>te Z H λx H1=>tl Z H1 λl H2=>th Z H2 λu H3=>r x l u H3 Q
def y8(hr:Nk X r)(he:PE X e te)(hl:PO X lo tl)(hu:PO X hi th):PE X (.Subscript e (.Slice lo hi none p2) pos) (tSl r te tl th):=by intro pins s Z H Q I h;refine zJ (cX (he pins s Z H _ I h) λv s1 x H1 I1 r1 q1=>?_);refine wpAny_Slice (iC (hl pins s1 Z H1 _ I1 q1) λvl s2 adO=>?_);obtain⟨l,H2,I2,pl,q2⟩:=adO;refine iC (hu pins s2 Z H2 _ I2 q2) λvu s3 adN=>?_;obtain⟨u,H3,I3,pu,q3⟩:=adN;rw[Am];refine af ?_;have I4:Inv X pins Z H3 {s3 with heap:=s3.heap.push {cls:=.type "slice",data:=.fields #[vl,vu,.none]}}:=I3.kept (t':=s3.toks) λb ob q=>ah _ q;obtain⟨T,id,hT,ht,hg⟩:=hr pins {s3 with heap:=s3.heap.push {cls:=.type "slice",data:=.fields #[vl,vu,.none]}} Z H3 x v vl vu l u s3.heap.objs.size Q I4 r1 (BX ..) pl pu q3;show wpAny (-4) X.A (subscriptTail e (.Slice lo hi none p2) v (.ref s3.heap.objs.size)) (EP X pins Z Q) X.xe {s3 with heap:=s3.heap.push {cls:=.type "slice",data:=.fields #[vl,vu,.none]}};exact tail_any (ops:=[.ref s3.heap.objs.size,v]) ht hT hg (-43)
def vU(xs:Aao)(lo hi:Option Int):Aao:=(xs.drop (HT.dB xs.length 0 lo)).take (HT.dB xs.length xs.length hi -HT.dB xs.length 0 lo)
def Ds(xs:Aao)(lo hi:Option Int):(vU xs lo hi).length<=xs.length:=by unfold vU;rw[aL,mq];lia
def acS(K:Frag):V->Option Int->Option Int->Hp->VK->Prop:=λx lo hi H Q=>∃a xs,x=.ref a/\bx K H a xs/\
 ¬(HT.dB xs.length 0 lo=0/\HT.dB xs.length xs.length hi=xs.length)/\∀p,H p=none->Q (.ref p) (upd H p (.tup (vU xs lo hi)))
def ZI:Nk X (acS X.K):=by
 intro pins s Z H x v vl vu lo hi sl Q I rx hs pl pu h;obtain⟨a,xs,rfl,hx,hw,q⟩:=h;cases rx;obtain⟨aX,r,ht,hz⟩:=I.tuple hx;have hlen:aX.toArray.size=xs.length:=by rw[aI];exact r.length.symm
 refine{"tuple",_,cx.lookup,ht.typeIs,?_};refine HT.Cz ht hs pl pu (by rw[hlen];exact hw) ?_ (by rw[hlen];exact hz);rw[hlen];refine{.ref s.heap.objs.size,_,I.laid (t':=s.toks) (o:=.tup (vU xs lo hi)) (λb ob q=>ah _ q) (ak _) ?_,rfl,q _ (-69)};exact{aC (Ds xs lo hi) hz,_,(r.drop (HT.dB xs.length 0 lo)).take (HT.dB xs.length xs.length hi -HT.dB xs.length 0 lo),xb _ _,_,aE _ rfl,rfl}
def Vals.xV(r:Vals xs us):us=[]↔xs=[]:=by
 cases r with
 |nil=>simp
 |cons _ _=>simp
def JW(n:Nat)(i:Int):Option Nat:=if 0<=i then(if i<n then some i.toNat else none)else if -(n:Int)<=i then some (i+n).toNat else none
def v3(xs:List α)(i:Int):Option α:=(JW xs.length i).bind λj=>xs[j]?
def ME(h:JW n i=some j):seqIndex? i n=some j/\j<n/\-(n:Int)<=i/\i<n:=by
 unfold JW at h;by_cases h0:0<=i
 ·rw[aD h0]at h;by_cases h1:i<n
  ·rw[aD h1]at h;have e:=bS h;exact{by rw[CQ h0 h1,e],by lia,by lia,h1}
  ·rw[au h1]at h;cases h
 ·rw[au h0]at h;by_cases h1:-(n:Int)<=i
  ·rw[aD h1]at h;have e:=bS h;exact{by rw[AJ ∅ h1,e],by lia,h1,by lia}
  ·rw[au h1]at h;cases h
def Gx(h:v3 xs i=some v):∃j,seqIndex? i xs.length=some j/\xs[j]?=some v/\j<xs.length/\-(xs.length:Int)<=i/\i<xs.length:=by
 unfold v3 at h;cases e:JW xs.length i with
 |none=>rw[e]at h;cases h
 |some j=>
  rw[e]at h;obtain⟨h1,h2,h3,h4⟩:=ME e;exact⟨j,h1,h,h2,h3,h4⟩
def jv{xs:List α}{j:Nat}{v:α}(h:xs[j]?=some v):v3 xs (j:Int)=some v:=by
 have hj:=(ao.mp h).1;have e:JW xs.length (j:Int)=some j:=by unfold JW;rw[aD ∅,aD ∅];simp
 unfold v3;rw[e];exact h
def YU(b:Expr):Prop:=∀o i,subscripted b false o i=operate [o,i] (getItem o i)
end
def Nl(X:Cx)(r:R2):Prop:=
 ∀(value slice:Expr)(pins:Aac)(s:Shared)(Z:St)(H:Hp)(x y:V)(v u:Value)(Q:VK),Inv X pins Z H s->RelV x v->RelV y u->r x y H Q->
  subscripted slice false v u=operate [v,u] (getItem v u)->wpAny (-4) X.A (subscriptTail value slice v u) (EP X pins Z Q) X.xe s
def SA(X:Cx)(id:String)(r:V->Aao->Hp->VK->Prop):Prop:=
 ∀(pins:Aac)(s:Shared)(Z:St)(H:Hp)(x:V)(xs:Aao)(v:Value)(us:Aag)(Q:VK),Inv X pins Z H s->RelV x v->Vals xs us->r x xs H Q->
  wpAny (-4) X.A (call (.builtin id) (v::us)) (EP X pins Z Q) X.xe s
section
variable{X:Cx}{a b:Expr}{ta tb:TE}{pos:Pos}
def dj(hr:Nl X r)(ha:PE X a ta)(hb:PE X b tb)(hs:YU b):PE X (.Subscript a b pos) (Vx r ta tb):=by intro pins s Z H Q I h;exact zJ (Vd ha hb I h λv u s2 x y H2 I2 rx ry q=>hr a b pins s2 Z H2 x y v u Q I2 rx ry q (hs _ _))
inductive Z3(K:Frag)(x:V)(y:V)(H:Hp)(Q:VK):Prop
 |mk p xs i v (_:x=.ref p) (_:y=.int i) (_:bo K H p xs) (_:v3 xs i=some v) (_:Q v H)
inductive Z2(K:Frag)(x:V)(y:V)(H:Hp)(Q:VK):Prop
 |mk p xs i v (_:x=.ref p) (_:y=.int i) (_:bx K H p xs) (_:v3 xs i=some v) (_:Q v H)
inductive acV(x:V)(y:V)(H:Hp)(Q:VK):Prop
 |mk z i c (_:x=.str z) (_:y=.int i) (_:z.length<=sizeLine) (_:v3 z.cps.toList i=some c) (_:Q (.str ⟨#[c]⟩) H)
def fU:Nl X (Z3 X.K):=by
 intro value slice pins s Z H x y v u Q I rx ry h hs;obtain⟨p,xs,i,z,rfl,rfl,hq,he,q⟩:=h;cases rx;obtain⟨t,rfl⟩:=ry;obtain⟨aX,r,pl,hz⟩:=I.list hq;obtain⟨j,h1,h2,h3,h4,h5⟩:=Gx he;obtain⟨w,ew,pq⟩:=r.get h2;have hl:=r.length;have hn:=xX;have fin:EP X pins Z Q w s:=⟨z,H,I,pq,q⟩;by_cases h0:0<=i
 ·have hj:i.toNat=j:=by rw[CQ h0 h5]at h1;exact bS h1
  exact item_listR pl.isList h0 ∅ (by rw[hj];simpa using ew) fin hs
 ·have hj:(i+(aX.toArray.size:Int)).toNat=j:=by rw[AJ ∅ h4]at h1;rw[aI,<-hl];exact bS h1
  exact xi pl.isList.typeIs slot_list_getitem.lookup
   (wpAny_getItem_list_neg pl.isList ∅ (by rw[aI]<;>lia) ∅ (by rw[hj];simpa using ew) ⟨rfl,fin⟩) hs
def kj:Nl X (Z2 X.K):=by
 intro value slice pins s Z H x y v u Q I rx ry h hs;obtain⟨p,xs,i,z,rfl,rfl,hq,he,q⟩:=h;cases rx;obtain⟨t,rfl⟩:=ry;obtain⟨aX,r,pl,hz⟩:=I.tuple hq;obtain⟨j,h1,h2,h3,h4,h5⟩:=Gx he;obtain⟨w,ew,pq⟩:=r.get h2;have hl:=r.length;have hn:=xX;have fin:EP X pins Z Q w s:=⟨z,H,I,pq,q⟩;exact xi pl.typeIs slot_tuple_getitem.lookup
  (getItem_tuple pl ∅ ∅ (by rw[aI,<-hl];exact h1) (by simpa using ew) ⟨rfl,fin⟩) hs
def QS:Nl X acV:=by
 intro value slice pins s Z H x y v u Q I rx ry h hs;obtain⟨z,i,c,rfl,rfl,hz,he,q⟩:=h;obtain⟨t,rfl⟩:=rx;obtain⟨t',rfl⟩:=ry;obtain⟨j,h1,h2,h3,h4,h5⟩:=Gx he;have hl:z.cps.toList.length=z.length:=by simp[Str.length]
 rw[hl]at h1 h4 h5;have hn:=xX;exact tail_any (oy s z t) slot_str_getitem.lookup (getItem_str (by
  have e1:decide (i< -(2^63:Int))=false:=bC ∅;have e2:decide (i≥2^63)=false:=bC ∅;rw[e1,e2,Ao]) (by rw[h1];simpa using h2) {.str ⟨#[c]⟩,H,I.tok _,⟨_,rfl⟩,q}) hs
def N7(aX:Aag)(n j:Nat)(u:Value):Obj.mapSeq (·.setIfInBounds j u) {cls:=.type "list",data:=.seq aX.toArray n}={cls:=.type "list",data:=.seq (aX.set j u).toArray n}:=by simp[Obj.mapSeq]
def Inv.lst(I:Inv X pins Z H s)(h:H p=some (.lst xs)):
  ∃(aX:Aag)(n:Nat),Vals xs aX/\s.heap.get? p=some {cls:=.type "list",data:=.seq aX.toArray n}/\xs.length<=sizeLine:=by
 obtain⟨z,aX,n,r,e⟩:=I.bj p _ h;exact⟨aX,n,r,e,z⟩
def Inv.aax{aX its':Aag}(I:Inv X pins Z H s)(h:H p=some (.lst xs))
  (ho:s.heap.get? p=some {cls:=.type "list",data:=.seq aX.toArray n}) (hf:f {cls:=.type "list",data:=.seq aX.toArray n}={cls:=.type "list",data:=.seq its'.toArray n'}) (r:Vals ys its') (hz:ys.length<=sizeLine) (t:Nat):
  Inv X pins Z (upd H p (-48)) {s with heap:=s.heap.update p f,toks:=t}:=by
 have e:(s.heap.update p f).get? p=some {cls:=.type "list",data:=.seq its'.toArray n'}:=by rw[cy f ho (by rw[hf]<;>rfl),hf]
 refine I.write (by rw[h];trivial) (.inl rfl) (λb u hb q=>(bN _ _ (bV hb)).trans q) ⟨_,e⟩ ?_;exact⟨hz,its',n',r,e⟩
inductive abZ(o:V)(i:V)(v:V)(H:Hp)(Q:Hp->Prop):Prop
 |mk p xs k j (_:o=.ref p) (_:i=.int k) (_:H p=some (.lst xs)) (_:JW xs.length k=some j) (_:Q (upd H p (.lst (xs.set j v))))
def set_list:abz X abZ:=by
 intro pins s Z H o i v ov iv u Q I ro ri rv h;obtain⟨p,xs,k,j,rfl,rfl,hp,hj,q⟩:=h;cases ro;obtain⟨t,rfl⟩:=ri;obtain⟨aX,n,r,ho,hz⟩:=I.lst hp;obtain⟨h1,h2,h3,h4⟩:=ME hj;have hl:=r.length;have hn:=xX;have I':Inv X pins Z (upd H p (.lst (xs.set j v))) {s with heap:=s.heap.update p (Obj.mapSeq (·.setIfInBounds j u))}:=
  I.aax hp ho (N7 aX n j u) (r.set rv j) (by rw[List.length_set];exact hz) s.toks
 by_cases h0:0<=k
 ·have hk:k.toNat=j:=by rw[CQ h0 h4]at h1;exact bS h1
  exact PySem.W.ki_setAt ho h0 ∅ (by rw[aI,<-hl];exact h4) (by rw[hk];exact⟨_,I',q⟩)
 ·have hk:(k+(aX.toArray.size:Int)).toNat=j:=by rw[AJ ∅ h3]at h1;rw[aI,<-hl];exact bS h1
  exact PySem.W.ki_setBack ho ∅ (by rw[aI,<-hl];exact h3) ∅ (by rw[hk];exact⟨_,I',q⟩)
def IG(lo hi:Option Int)(n:Nat):(sliceBounds lo hi none n).1=((HT.dB n 0 lo:Nat):Int)/\(sliceBounds lo hi none n).2.1=((HT.dB n n hi:Nat):Int)/\(sliceBounds lo hi none n).2.2=1:=by
 refine{?_,?_,rfl}
 ·cases lo with
  |none=>simp[sliceBounds,HT.dB]
  |some i=>
   simp only[sliceBounds,HT.dB,Option.getD_none,show(1:Int)>0 by decide,lG];by_cases h:i<0
   ·simp only[h,lG]<;>lia
   ·simp only[h,dJ]<;>lia
 ·cases hi with
  |none=>simp[sliceBounds,HT.dB]
  |some i=>
   simp only[sliceBounds,HT.dB,Option.getD_none,show(1:Int)>0 by decide,lG];by_cases h:i<0
   ·simp only[h,lG]<;>lia
   ·simp only[h,dJ]<;>lia
def HI(aX:Aag)(lo hi:Option Int):slicePick aX.toArray lo hi none=((aX.drop (HT.dB aX.length 0 lo)).take (HT.dB aX.length aX.length hi -HT.dB aX.length 0 lo)).toArray:=by obtain⟨h1,h2,h3⟩:=IG lo hi aX.toArray.size;unfold slicePick;rw[h1,h2,h3];simp only[sliceRange_one,pick_run,aI]<;>rfl
inductive ZZ(K:Frag)(x:V)(lo:Option Int)(hi:Option Int)(H:Hp)(Q:VK):Prop
 |mk a xs (_:x=.ref a) (_:bo K H a xs) (_:∀p,H p=none->Q (.ref p) (upd H p (.lst (vU xs lo hi))))
def Xr:Nk X (ZZ X.K):=by intro pins s Z H x v vl vu lo hi sl Q I rx hs pl pu h;obtain⟨a,xs,rfl,hx,q⟩:=h;cases rx;obtain⟨aX,r,ht,hz⟩:=I.list hx;have hlen:=r.length;refine{"list",_,slot_list_getitem.lookup,ht.isList.typeIs,?_};refine wpAny_getItem_list_slice ht.isList hs pl pu .none (-9) ?_ (by rw[aI]<;>lia);rw[HI,<-hlen];refine{.ref s.heap.objs.size,_,I.laid (λb ob q=>ah _ q) (ak _) ?_,rfl,q _ (-69)};exact{aC (Ds xs lo hi) hz,_,0,(r.drop (HT.dB xs.length 0 lo)).take (HT.dB xs.length xs.length hi -HT.dB xs.length 0 lo),aE _ rfl}
def uX:V->Bool
 | .cI=>true
 | .bl _=>true
 | .int _=>true
 | .str _=>true
 |_=>false
def Hv:V->V->Bool
 | .cI,.cI=>true
 | .bl a,.bl b=>a==b
 | .bl a,.int b=>(if a then 1 else 0)==b
 | .int a,.bl b=>a==(if b then 1 else 0)
 | .int a,.int b=>a==b
 | .str a,.str b=>a==b
 |_,_=>false
def abq(ry:RelV y u)(rx:RelV x v)(fy:uX y=true)(fx:uX x=true):SeqAt.EqAt A s u v (Hv y x):=by
 cases y with
 |cI=>
  cases ry;cases x with
  |cI=>cases rx;exact SeqAt.EqAt.same _
  |bl b=>cases rx;exact SeqAt.EqAt.none_bool b
  |int b=>obtain⟨t,rfl⟩:=rx;exact SeqAt.EqAt.none_int b t
  |str b=>obtain⟨t,rfl⟩:=rx;exact SeqAt.EqAt.none_str b t
  |_=>exact absurd (show false=true from fx) aU
 |bl a=>
  cases ry;cases x with
  |cI=>cases rx;exact SeqAt.EqAt.bool_none a
  |bl b=>cases rx;exact SeqAt.EqAt.bool_bool a b
  |int b=>obtain⟨t,rfl⟩:=rx;exact SeqAt.EqAt.bool_int a b t
  |str b=>obtain⟨t,rfl⟩:=rx;exact SeqAt.EqAt.bool_str a b t
  |_=>exact absurd (show false=true from fx) aU
 |int a=>
  obtain⟨t',rfl⟩:=ry;cases x with
  |cI=>cases rx;exact SeqAt.EqAt.int_none a t'
  |bl b=>cases rx;exact SeqAt.EqAt.int_bool a t' b
  |int b=>obtain⟨t,rfl⟩:=rx;exact SeqAt.EqAt.int_int a t' b t
  |str b=>obtain⟨t,rfl⟩:=rx;exact BI a t' b t
  |_=>exact absurd (show false=true from fx) aU
 |str a=>
  obtain⟨t',rfl⟩:=ry;cases x with
  |cI=>cases rx;exact SeqAt.EqAt.str_none a t'
  |bl b=>cases rx;exact SeqAt.EqAt.str_bool a t' b
  |int b=>obtain⟨t,rfl⟩:=rx;exact BH a t' b t
  |str b=>obtain⟨t,rfl⟩:=rx;exact SeqAt.EqAt.str_str a t' b t
  |_=>exact absurd (show false=true from fx) aU
 |_=>exact absurd (show false=true from fy) aU
def Fv(x:V)(u:Value):Bool:=match u with
 | .none=>Hv .cI x
 | .bool b=>Hv (.bl b) x
 | .int i _=>Hv (.int i) x
 | .str z _=>Hv (.str z) x
 |_=>false
def R0(r:RelV y u)(f:uX y=true):Fv x u=Hv y x:=by
 cases y with
 |cI=>cases r;rfl
 |bl b=>cases r;rfl
 |int i=>obtain⟨t,rfl⟩:=r;rfl
 |str z=>obtain⟨t,rfl⟩:=r;rfl
 |_=>exact absurd (show false=true from f) aU
theorem Gz:∀{xs:Aao}{us:Aag},Vals xs us->xs.all uX=true->us.any (Fv x)=xs.any λy=>Hv y x
 |_,_,.nil,_=>rfl
 |y::xs,u::us,.cons r t,f=>by rw[An,cE]at f;rw[mJ,mJ,R0 r f.1,Gz t f.2]
theorem DY(rx:RelV x v)(fx:uX x=true):∀{xs:Aao}{us:Aag},Vals xs us->xs.all uX=true->∀u∈us,SeqAt.EqAt A s u v (Fv x u)
 |_,_,.nil,_=>λu hu=>by cases hu
 |y::xs,u::us,.cons r t,f=>λu' hu=>by
  rw[An,cE]at f;rcases aG.mp hu with rfl|hu
  ·rw[R0 r f.1];exact abq r rx f.1 fx
  ·exact DY rx fx t f.2 u' hu
def V9(x:V)(xs:Aao):Bool:=xs.any λy=>Hv y x
inductive rIn(K:Frag)(neg:Bool)(x:V)(y:V)(H:Hp)(Q:VK):Prop
 |mk p xs (_:y=.ref p) (_:(bo K H p xs\/bx K H p xs)) (_:uX x=true) (_:xs.all uX=true) (_:Q (.bl (if neg then !V9 x xs else V9 x xs)) H)
def A2:jZ X (compareOp .NotIn) (rIn X.K true):=by
 intro pins s Z H x y v u Q I rx ry h;obtain⟨p,xs,rfl,hq,fx,fs,q⟩:=h;cases ry;rcases hq with hq|hq
 ·obtain⟨aX,r,pl,hz⟩:=I.list hq;refine SeqAt.notIn_listAt (Fv x) pl.isList (λw hw=>DY rx fx r fs w (by simpa using hw)) {.bl _,H,I,rfl,?_};rw[show aX.toArray.any (Fv x)=aX.any (Fv x) by simp,Gz r fs];exact q
 ·obtain⟨aX,r,pl,hz⟩:=I.tuple hq;refine SeqAt.notIn_tupleAt (Fv x) pl (λw hw=>DY rx fx r fs w (by simpa using hw)) {.bl _,H,I,rfl,?_};rw[show aX.toArray.any (Fv x)=aX.any (Fv x) by simp,Gz r fs];exact q
def By:jU X (.type "list") (λxs H Q=>∃p ys,xs=[.ref p]/\(bo X.K H p ys\/bx X.K H p ys)/\∀l,H l=none->Q (.ref l) (upd H l (-48))):=by
 intro pins s Z H xs us Q I r h;obtain⟨p,ys,rfl,hq,q⟩:=h;obtain⟨u,rfl,rx⟩:=l9 r;cases rx;have fin:∀(aX:Aag),Vals ys aX->ys.length<=sizeLine->∀(h':Heap)(c':Nat),(∀b o',s.heap.get? b=some o'->h'.get? b=some o')->
   h'.get? s.heap.objs.size=some {cls:=.type "list",dict:=none,data:=.seq aX.toArray c',slots:=#[]}->EP X pins Z Q (-11) {s with heap:=h'}:=λaX r' hz h' c' kp e=>
  {.ref s.heap.objs.size,_,I.laid kp (ak _) (show dC X.prog X.w _ h' _ (-48)from⟨hz,aX,c',r',e⟩),rfl,q _ (-69)}
 rcases hq with hq|hq
 ·obtain⟨aX,r',pl,hz⟩:=I.list hq;have hlen:=r'.length;obtain⟨o,ho,hc,n,hd⟩:=pl.isList;exact call_list_seq p (.inl rfl) ho hc hd (λh' c' kp e=>fin aX r' hz h' c' kp e) (by simp only[aI]<;>lia)
 ·obtain⟨aX,r',pl,hz⟩:=I.tuple hq;have hlen:=r'.length;obtain⟨o,ho,hc,n,hd⟩:=pl;exact call_list_seq p (.inr rfl) ho hc hd (λh' c' kp e=>fin aX r' hz h' c' kp e) (by simp only[aI]<;>lia)
def fD:jU X (.type "tuple") (λxs H Q=>∃p ys,xs=[.ref p]/\((bo X.K H p ys/\∀l,H l=none->Q (.ref l) (upd H l (.tup ys)))\/(bx X.K H p ys/\Q (.ref p) H))):=by
 intro pins s Z H xs us Q I r h;obtain⟨p,ys,rfl,h⟩:=h;obtain⟨u,rfl,rx⟩:=l9 r;cases rx;rcases h with⟨hq,q⟩|⟨hq,q⟩
 ·obtain⟨aX,r',pl,hz⟩:=I.list hq;have hlen:=r'.length;refine call_tuple_list pl.isList (λh' kp=>?_) (by simp only[aI]<;>lia);have I1:=I.kept (t':=s.toks) kp;have I2:Inv X pins Z (upd H h'.objs.size (.tup ys)) {s with heap:=h'.push {cls:=.type "tuple",data:=.seq aX.toArray}}:=
   I1.laid (λb o e=>ah _ e) (ak _) (show dC X.prog X.w _ _ _ (.tup ys)from{hz,aX,r',xb _ _,_,aE _ rfl,rfl})
  exact{.ref h'.objs.size,_,I2,rfl,q _ (I1.bj.fresh (ak _))}
 ·obtain⟨aX,r',pl,hz⟩:=I.tuple hq;exact call_tuple_same pl {.ref p,H,I,rfl,q}
noncomputable def tyV(K:Frag)(T:String)(x:V)(H:Hp):Prop:=match x with
 | .str _=>T="str"
 | .int _=>T="int"
 | .ref p=>(T="list"/\∃xs,bo K H p xs)\/(T="tuple"/\((∃xs,H p=some (.tup xs))\/∃o,K.lookup p=some o/\o.cls=.type "tuple"/\o.dict=none))\/
   (T="dict"/\((∃kvs,H p=some (.dK kvs))\/∃kvs,H p=some (.dT kvs)))\/(T="set"/\∃S n,H p=some (.set S n))
 |_=>False
def Zl(I:Inv X pins Z H s)(r:RelV x v)(ty:tyV X.K T x H):
  s.TypeIs v T/\∀a,v=.ref a->∃ob,s.heap.get? a=some ob/\ob.dict=none:=by
 cases x with
 |str z=>
  obtain⟨t,rfl⟩:=r;cases(show T="str"from ty);exact{oy s z t,λ_ e=>nomatch e}
 |int i=>
  obtain⟨t,rfl⟩:=r;cases(show T="int"from ty);exact{typeIs_int s i t,λ_ e=>nomatch e}
 |ref p=>
  cases r;rcases ty with⟨rfl,xs,hq⟩|⟨rfl,⟨xs,hq⟩|⟨o,hk,hc,hd⟩⟩|⟨rfl,hk⟩|⟨rfl,S,n,hk⟩
  ·obtain⟨aX,_,pl,_⟩:=I.list hq;refine{pl.isList.typeIs,λa e=>?_};cases e;obtain⟨o,n,e,c,hd,_⟩:=pl;exact⟨o,e,hd⟩
  ·obtain⟨_,_,_,⟨o1,e1,c1,_⟩,o,e,hd⟩:=I.bj p _ hq;refine{⟨o1,e1,c1⟩,λa e2=>?_};cases e2;exact⟨o,e,hd⟩
  ·refine{{o,I.mY p o hk,hc},λa e=>?_};cases e;exact{o,I.mY _ o hk,hd}
  ·have z:∃o,s.heap.get? p=some o/\o.ExactDict:=by
    rcases hk with⟨kvs,hk⟩|⟨kvs,hk⟩
    ·obtain⟨_,_,_,_,o,_,_,e,ex,_⟩:=I.bj p _ hk;exact⟨o,e,ex⟩
    ·obtain⟨_,_,_,_,o,_,_,e,ex,_⟩:=I.bj p _ hk;exact⟨o,e,ex⟩
   obtain⟨o,e,ex⟩:=z;refine{{o,e,ex.1},λa e2=>?_};cases e2;exact{o,e,ex.2.1}
  ·obtain⟨o,_,_,_,e,ex,_⟩:=I.bj p _ hk;refine{{o,e,ex.1},λa e2=>?_};cases e2;exact{o,e,ex.2.1}
 |_=>exact False.elim ty
def tBM(K:Frag)(T:String)(r:V->Aao->Hp->VK->Prop)(to:TE)(t:TA):TE:=λZ H Q=>to Z H λx H1=>tyV K T x H1/\t Z H1 λxs H2=>r x xs H2 Q
variable{o e:Expr}{es:List Expr}{to:TE}{t:TA}{name:Str}{apos eB:Pos}{T id:String}{r:V->Aao->Hp->VK->Prop}
def mX(pa:PlainAttrs T)(slot:Slot T name id)(hty:typeOf (.builtin id)=pure (.type "method_descriptor"))(hm:SA X id r)(ho:PE X o to)(ha:PA X (e::es) t)
  (Fn:attributeBase o name X.env (eval o X.env)=eval o X.env:=by rfl)
  (UK:((backTo eB (starEach (e::es) X.env)).all (λx=>!x.1)&&(backToKw eB (keywordEach [] X.env)).all (λx=>x.1.isSome)
   &&decide ((e::es).length+([]:List Keyword).length+(-59)<30))=true:=by rfl)
  (Fh:(apos.endLine==eB.line)=true:=by rfl) (hs:starEach (e::es) X.env=(false,eval e X.env)::starEach es X.env:=by rfl) (Kg:(backTo eB (starEach es X.env)).any (·.1)=false:=by rfl):
  PE X (.Call (.Attribute o name apos) (e::es) [] eB) (tBM X.K T r to t):=by
 intro pins s Z H Q I h;refine wpAny_Call_method_late Fn UK Fh rfl (cX (ho pins s Z H _ I h) λv s1 x H1 I1 r1 adM=>?_);obtain⟨ty,q1⟩:=adM;obtain⟨h1,h2⟩:=Zl I1 r1 ty;refine{T,id,pa,slot,hty,h1,h2,?_};have hA:=ha eB pins s1 Z H1 _ I1 q1;rw[hs]at hA⊢;refine jc (by show(false||(backTo eB (starEach es X.env)).any (·.1))=false;rw[Kg]<;>rfl) (mx ?_);exact iC hA λus s2 ⟨vs,H2,I2,r2,q2⟩=>hm pins s2 Z H2 x vs v us Q I2 r1 r2 q2
end
def SD(X:Cx)(id:String)(r:V->Aao->Hp->VK->Prop):Prop:=
 ∀(pins:Aac)(s:Shared)(Z:St)(H:Hp)(x:V)(xs:Aao)(v:Value)(us:Aag)(Q:VK),Inv X pins Z H s->RelV x v->Vals xs us->r x xs H Q->
  wpAny (-4) X.A (call (.builtin id) (v::us)) (EP X pins Z Q) X.xe s
theorem Vals.one:∀{x:V}{us:Aag},Vals [x] us->∃u,us=[u]/\RelV x u
 |_,_,.cons r .nil=>⟨_,rfl,r⟩
theorem Vals.eraseIdx:∀{xs:Aao}{us:Aag}(i:Nat),Vals xs us->Vals (xs.eraseIdx i) (us.eraseIdx i)
 |_,_,_,.nil=>.nil
 |_,_,0,.cons _ t=>t
 |_,_,i+1,.cons r t=>.cons r (Vals.eraseIdx i t)
theorem G6{α:Type}:∀(l:List α)(i:Nat),(l.eraseIdx i).length<=l.length
 |[],_=>ak _
 |_::_,0=>eZ _
 |_::r,i+1=>Nat.succ_le_succ (G6 r i)
section
variable{X:Cx}{pins:Aac}{Z:St}{H:Hp}{s:Shared}{l:Addr}{xs ys:Aao}
def Inv.Ob{aX its':Aag}(I:Inv X pins Z H s)(hH:H l=some (.lst xs))
  (e:s.heap.get? l=some {cls:=.type "list",data:=.seq aX.toArray n}) (hf:f aX.toArray=its'.toArray) (hv:Vals ys its') (hz:ys.length<=sizeLine):
  Inv X pins Z (upd H l (-48)) {s with heap:=s.heap.update l (Obj.mapSeq f),toks:=t'}:=by
 have q:=PySem.IsL.update e f;rw[hf]at q;refine I.write (by rw[hH];exact trivial) (.inl rfl) (λb' u hb hu=>(bN s.heap (Obj.mapSeq f) (bV hb)).trans hu) ⟨_,q⟩ ?_;exact⟨hz,its',_,hv,q⟩
def Inv.ada(I:Inv X pins Z H s)(hv:Vals ys aX)(hz:ys.length<=sizeLine):
  Inv X pins Z (upd H s.heap.objs.size (-48)) {s with heap:=s.heap.push {cls:=.type "list",data:=.seq aX.toArray},toks:=t'}:=
 I.laid (λ_ _ q=>ah _ q) (ak _) {hz,aX,0,hv,aE _ rfl}
def Inv.fresh(I:Inv X pins Z H s):H s.heap.objs.size=none:=I.bj.fresh (ak _)
def Inv.DZ(I:Inv X pins Z H s)(hH:H l=some (.lst xs)):xs.length<=sizeLine/\∃(aX:Aag)(n:Nat),Vals xs aX/\xs.length=aX.length/\s.heap.get? l=some {cls:=.type "list",data:=.seq aX.toArray n}:=by obtain⟨z,aX,n,r,e⟩:=I.bj l _ hH;exact{z,aX,n,r,r.length,e}
def JD(h:n<=sizeLine):Builtin.List.listTooLong n=false:=by unfold Builtin.List.listTooLong;exact bC ∅
end
section
variable{X:Cx}
inductive XI(x:V)(vs:Aao)(H:Hp)(Q:VK):Prop
 |mk l xs y (_:x=.ref l) (_:vs=[y]) (_:H l=some (.lst xs)) (_:xs.length<sizeLine) (_:Q .cI (upd H l (.lst (xs++[y]))))
def lW:SD X "list.append" XI:=by intro pins s Z H x vs v us Q I rx rv h;obtain⟨l,xs,y,rfl,rfl,hH,hz,q⟩:=h;cases rx;obtain⟨u,rfl,ru⟩:=rv.one;obtain⟨z,aX,n,r,hl,e⟩:=I.DZ hH;refine uZ B1 ⟨_,e,rfl⟩ Au (zR _ _) (CC l aX.toArray n u (by rw[aI];lia)) {e,?_};refine{.cI,_,I.Ob hH e (-9) (r.append (.cons ru .nil)) ?_,rfl,q};rw[aK,dt];lia
inductive XH(x:V)(vs:Aao)(H:Hp)(Q:VK):Prop
 |mk l b xs zs (_:x=.ref l) (_:vs=[.ref b]) (_:H l=some (.lst xs)) (_:H b=some (.lst zs)) (_:xs.length+zs.length<=sizeLine) (_:Q .cI (upd H l (.lst (xs++zs))))
def QA:SD X "list.extend" XH:=by
 intro pins s Z H x vs v us Q I rx rv h;obtain⟨l,b,xs,zs,rfl,rfl,hH,hB,hz,q⟩:=h;cases rx;obtain⟨u,rfl,ru⟩:=rv.one;cases ru;obtain⟨z,aX,n,r,hl,e⟩:=I.DZ hH;obtain⟨z2,si,n2,r2,iX,e2⟩:=I.DZ hB;have hsz:aX.toArray.size+si.toArray.size<=sizeLine:=by rw[aI,aI];lia
 have Ot:¬(!aX.toArray.isEmpty&&Builtin.List.listTooLong (aX.toArray.size+si.toArray.size))=true:=by rw[JD hsz,sO];exact aU
 refine uZ BZ ⟨_,e,rfl⟩ As (zQ _ _)
  (AutoSeq1.list_extend_list_list_0 l aX.toArray n b si.toArray n2 Ot (by rw[aI];lia) ∅) {e,e2,?_}
 refine{.cI,_,I.Ob hH e (-9) (r.append r2) ?_,rfl,q};rw[aK];lia
inductive Z1(x:V)(vs:Aao)(H:Hp)(Q:VK):Prop
 |mk l xs i k y (_:x=.ref l) (_:vs=[.int i]) (_:H l=some (.lst xs)) (_:-(2^63)<=i) (_:i<2^63) (_:seqIndex? i xs.length=some k) (_:xs[k]?=some y) (_:Q y (upd H l (.lst (xs.eraseIdx k))))
def TV:SD X "list.pop" Z1:=by
 intro pins s Z H x vs v us Q I rx rv h;obtain⟨l,xs,i,k,y,rfl,rfl,hH,h1,h2,hk,hy,q⟩:=h;cases rx;obtain⟨u,rfl,ru⟩:=rv.one;obtain⟨t,rfl⟩:=ru;obtain⟨z,aX,n,r,hl,e⟩:=I.DZ hH;obtain⟨w,hw,pq⟩:=r.get hy;refine uZ F.slot_list_pop ⟨_,e,rfl⟩ F.entry_list_pop (F.args_list_pop_2 _ _)
  (MeetsSeq.list_pop_at l aX.toArray n i t k w (fitsIndex_both h1 h2) (by rw[aI,<-hl];exact hk) (by rw[<-bB];exact hw) (by rw[aI];lia)) {e,?_}
 refine{y,_,I.Ob hH e ?_ (r.eraseIdx k) ?_,pq,q}
 ·show aX.toArray.eraseIdxIfInBounds k=(aX.eraseIdx k).toArray;rw[List.eraseIdxIfInBounds_toArray]
 ·have:=G6 xs k;lia
inductive acZ(x:V)(y:V)(H:Hp)(Q:VK):Prop
 |mk l b xs zs (_:x=.ref l) (_:y=.ref b) (_:H l=some (.lst xs)) (_:H b=some (.lst zs)) (_:xs.length+zs.length<=sizeLine) (_:∀p,H p=none->Q (.ref p) (upd H p (.lst (xs++zs))))
def Jx:jZ X (binaryOp .Add) acZ:=by
 intro pins s Z H x y v u Q I rx ry h;obtain⟨l,b,xs,zs,rfl,rfl,hH,hB,hz,q⟩:=h;cases rx;cases ry;obtain⟨z,aX,n,r,hl,e⟩:=I.DZ hH;obtain⟨z2,si,n2,r2,iX,e2⟩:=I.DZ hB;refine PySem.P.add_list e e2 ?_ (by rw[aI,aI];lia);have ea:aX.toArray++si.toArray=(aX++si).toArray:=by simp
 rw[ea];exact{.ref _,_,I.ada (r.append r2) (by rw[aK];lia),rfl,q _ I.fresh}
end
section
variable{κ:Type}[DecidableEq κ]
def fb(kvs:List (κ×V))(k:κ):Aap:=(kvs.find? λkv=>decide (kv.1=k)).map (·.2)
def putK(kvs:List (κ×V))(k:κ)(v:V):List (κ×V):=
 if(-56)=true then kvs.map (λkv=>if kv.1=k then(kv.1,v)else kv)else kvs++[(k,v)]
def hJ{p:κ×V}{k:κ}(e:p.1=k):fb (p::r) k=some p.2:=by simp[fb,iq,e]
def gO{p:κ×V}{k:κ}(e:¬p.1=k):fb (p::r) k=fb r k:=by simp[fb,iq,e]
theorem p6(k:κ):∀kvs:List (κ×V),(-56)=(fb kvs k).isSome
 |[]=>rfl
 |p::r=>by
  rw[mJ];by_cases e:p.1=k
  ·simp only[hJ e,ba e,Bool.true_or,Option.isSome_some]
  ·rw[gO e,bC e,Bool.false_or];exact p6 k r
theorem Ig(k j:κ)(y:V):∀kvs:List (κ×V),fb (kvs.map λkv=>if kv.1=k then(kv.1,y)else kv) j=(fb kvs j).map λx=>if j=k then y else x
 |[]=>rfl
 |p::r=>by
  have ih:=Ig k j y r;rw[aR];by_cases h:p.1=k
  ·rw[aD h];by_cases e:p.1=j
   ·rw[hJ (p:=(p.1,y)) e,hJ e,d8,aD (e.symm.trans h)]
   ·rw[gO (p:=(p.1,y)) e,gO e,ih]
  ·rw[au h];by_cases e:p.1=j
   ·rw[hJ (p:=p) e,hJ e,d8,au (λz=>h (e.trans z))]
   ·rw[gO (p:=p) e,gO e,ih]
theorem GD(k j:κ)(y:V):∀kvs:List (κ×V),fb kvs k=none->fb (kvs++[(k,y)]) j=if j=k then some y else fb kvs j
 |[],_=>by
  by_cases e:k=j
  ·rw[aD e.symm];exact hJ (p:=(k,y)) e
  ·rw[au (λz=>e z.symm)];exact gO (p:=(k,y)) e
 |p::r,hn=>by
  rw[iW];have hk:¬p.1=k:=λz=>by rw[hJ z]at hn;cases hn
  rw[gO hk]at hn;have ih:=GD k j y r hn;by_cases e:p.1=j
  ·rw[hJ e,hJ e,au (λz=>hk (e.trans z))]
  ·rw[gO e,gO e,ih]
def SK(kvs:List (κ×V))(k j:κ)(y:V):fb (putK kvs k y) j=if j=k then some y else fb kvs j:=by
 unfold putK;by_cases a:(-56)=true
 ·rw[aD a,Ig];rw[p6]at a;by_cases e:j=k
  ·obtain⟨x,hx⟩:=km.mp a;rw[aD e,e,hx,d8,aD rfl]
  ·rw[au e];cases fb kvs j with
   |none=>rfl
   |some x=>rw[d8,au e]
 ·rw[au a];refine GD k j y kvs ?_;rw[p6]at a;cases q:fb kvs k with
  |none=>rfl
  |some x=>rw[q]at a;exact(a rfl).elim
def xp(kvs:List (κ×V))(k:κ)(v:V):(putK kvs k v).length<=kvs.length+1:=by
 unfold putK;split
 ·rw[ag];lia
 ·rw[aK,bK,c7];lia
def Ja{k:κ}(v:V)(h:fb kvs k=none):putK kvs k v=kvs++[(k,v)]:=by unfold putK;rw[p6,h];exact au (-8)
def lM.tK(r:lM o u):o.isSome=u.isSome:=by
 cases o with
 |none=>cases u with
  |none=>rfl
  |some _=>exact(show False from r).elim
 |some _=>cases u with
  |none=>exact(show False from r).elim
  |some _=>rfl
def lM.getD(r:lM o u)(rd:RelV d d'):RelV (o.getD d) (u.getD d'):=by
 cases o with
 |none=>cases u with
  |none=>exact rd
  |some _=>exact(show False from r).elim
 |some _=>cases u with
  |none=>exact(show False from r).elim
  |some _=>exact r
def KV.val(r:KV kvs vs)(k:κ):lM (fb kvs k) (valueAt vs k):=by
 unfold KV at r
 induction r with
 |nil=>exact True.intro
 |@cons p q ps qs h t ih=>
  obtain⟨h1,h2⟩:=h;by_cases e:p.1=k
  ·have e':q.1=k:=h1.symm.trans e;have b:valueAt (q::qs) k=some q.2:=by simp[valueAt,iq,e']
   rw[hJ e,b];exact h2
  ·have e':¬q.1=k:=λz=>e (h1.trans z);have b:valueAt (q::qs) k=valueAt qs k:=by simp[valueAt,iq,e']
   rw[gO e,b];exact ih
def KV.any(r:KV kvs vs)(k:κ):(-56)=vs.any λkv=>decide (kv.1=k):=by
 unfold KV at r
 induction r with
 |nil=>rfl
 |cons h t ih=>rw[mJ,mJ,ih,h.1]
def KV.Tj(r:KV kvs vs)(k:κ)(ry:RelV y u):
  KV (kvs.map λkv=>if kv.1=k then(kv.1,y)else kv) (vs.map λkv=>if kv.1=k then(kv.1,u)else kv):=by
 unfold KV at r⊢
 induction r with
 |nil=>exact .nil
 |@cons p q ps qs h t ih=>
  rw[aR,aR];refine .cons ?_ ih;obtain⟨h1,h2⟩:=h;by_cases e:p.1=k
  ·rw[aD e,aD (h1.symm.trans e)];exact⟨h1,ry⟩
  ·rw[au e,au (λz=>e (h1.trans z))];exact⟨h1,h2⟩
def KV.put(r:KV kvs vs)(k:κ)(ry:RelV y u):KV (putK kvs k y) (stored vs k u):=by
 unfold putK stored;rw[r.any k];by_cases e:(vs.any λkv=>decide (kv.1=k))=true
 ·rw[aD e,aD e];exact r.Tj k ry
 ·rw[au e,au e];exact jY r ⟨rfl,ry⟩
def KV.keys{kvs:List (κ×V)}(r:KV kvs vs):kvs.map (·.1)=vs.map (·.1):=by
 unfold KV at r
 induction r with
 |nil=>rfl
 |cons h t ih=>rw[aR,aR,ih,h.1]
def KV.length{kvs:List (κ×V)}(r:KV kvs vs):kvs.length=vs.length:=bp r
end
def uT(r:RelV (kV k) u):(bz P w).is k u=true:=by
 cases k with
 |inl i=>obtain⟨t,e⟩:=(show∃t,u=Value.int i t from r);subst e;exact Lm P w i t
 |inr x=>obtain⟨t,e⟩:=(show∃t,u=Value.str x t from r);subst e;exact C1 P w x t
theorem G9:∀{ks:List Key}{us:Aag},Vals (ks.map kV) us->ItemsAre (bz P w) ks us
 |[],_,r=>by rw[jl]at r;cases r;exact .nil
 |k::ks,_,r=>by
  rw[aR]at r;cases r with
  |cons h t=>exact .cons (uT h) (G9 t)
abbrev KT(H:Hp):List (List Key×V)->List (List Key×Addr×Value)->Prop:=Paired λp q=>p.1=q.1/\H q.2.1=some (.tup (p.1.map kV))/\RelV p.2 q.2.2
def KT.val(r:KT H kvs xs)(k:List Key):lM (fb kvs k) ((atKey xs k).map (·.2)):=by
 induction r with
 |nil=>exact True.intro
 |@cons p q ps qs h t ih=>
  obtain⟨h1,_,h2⟩:=h;by_cases e:p.1=k
  ·have e':q.1=k:=h1.symm.trans e;have b:atKey (q::qs) k=some q.2:=by simp[atKey,iq,e']
   rw[hJ e,b];exact h2
  ·have e':¬q.1=k:=λz=>e (h1.trans z);have b:atKey (q::qs) k=atKey qs k:=by simp[atKey,iq,e']
   rw[gO e,b];exact ih
def KT.Tj(r:KT H kvs xs)(k:List Key)(ry:RelV y u):
  KT H (kvs.map λkv=>if kv.1=k then(kv.1,y)else kv) (xs.map (putAt k u)):=by
 induction r with
 |nil=>exact .nil
 |@cons p q ps qs h t ih=>
  rw[aR,aR];refine .cons ?_ ih;obtain⟨h1,h2,h3⟩:=h;unfold putAt;by_cases e:p.1=k
  ·rw[aD e,aD (h1.symm.trans e)];exact⟨h1,h2,ry⟩
  ·rw[au e,au (λz=>e (h1.trans z))];exact⟨h1,h2,h3⟩
def KT.put(r:KT H kvs xs)(k:List Key)(hb:H b=some (.tup (k.map kV)))(ry:RelV y u):
  KT H (putK kvs k y) (storedH xs k b u):=by
 have e:(-56)=(atKey xs k).isSome:=by rw[p6,(r.val k).tK,jI]
 unfold putK storedH;rw[e];by_cases q:(atKey xs k).isSome=true
 ·rw[aD q,aD q];exact r.Tj k ry
 ·rw[au q,au q];exact jY r ⟨rfl,hb,ry⟩
def KT.keeps(r:KT H kvs xs)(ht:∀b ys,H b=some (.tup ys)->H' b=some (.tup ys)):KT H' kvs xs:=
 Paired.qM r λ_ _ z=>{z.1,ht _ _ z.2.1,z.2.2}
section
variable{P:Program}{w:World}{H:Hp}{h:Heap}{a:Addr}
def VN(ok:jL P w H h)(e:Rd H a u):dC P w H h a u:=e.ok ok
def zw(ok:jL P w H h)(e:Rd H a (.dK kvs)):kvs.length<=sizeLine/\(a==sysModules)=false/\∃vs,KV kvs vs/\h.DictOf (bz P w) a vs:=
 show dC P w H h a (.dK kvs)from VN ok e
def uY(ok:jL P w H h)(e:H a=some (.dK kvs)):kvs.length<=sizeLine/\(a==sysModules)=false/\∃vs,KV kvs vs/\h.DictOf (bz P w) a vs:=zw ok (.inl e)
def Bh(ok:jL P w H h)(e:H a=some (.tup (ks.map kV))):(tupleKind (bz P w)).is h ks a:=by obtain⟨_,aX,r,⟨o,h1,h2,n,h3⟩,_⟩:=(show dC P w H h a (.tup (ks.map kV))from ok a _ e);exact{o,aX.toArray,n,h1,h2,h3,by simpa using G9 r}
def Cq(ok:jL P w H h)(e:Rd H a (.dT kvs)):kvs.length<=sizeLine/\(a==sysModules)=false/\
  ∃xs,KT H kvs xs/\h.DictOfH (tupleKind (bz P w)) a xs:=by
 obtain⟨z,y,xs,r,o,es,ep,h1,h2,h3,h4,h5⟩:=(show dC P w H h a (.dT kvs)from VN ok e);refine{z,y,xs,r,o,es,ep,h1,h2,h3,h4,λx hx=>?_,h5};have all:∀{l:List (List Key×V)}{m:List (List Key×Addr×Value)},KT H l m->∀x∈m,(tupleKind (bz P w)).is h x.1 x.2.1:=by
  intro l m q
  induction q with
  |nil=>intro x hx;exact nomatch hx
  |@cons p q ps qs hq t ih=>
   intro x hx;rcases aG.mp hx with e|hx
   ·subst e;exact Bh ok (by rw[<-hq.1];exact hq.2.1)
   ·exact ih x hx
 exact all r x hx
def acv(ok:jL P w H h)(e:H a=some (.dT kvs)):kvs.length<=sizeLine/\(a==sysModules)=false/\
  ∃xs,KT H kvs xs/\h.DictOfH (tupleKind (bz P w)) a xs:=Cq ok (.inl e)
end
def kF(H:Hp)(a:Addr)(y:V)(r:Aap):Prop:=
 (∃kvs k,Rd H a (.dK kvs)/\y=kV k/\r=fb kvs k)\/∃kvs k b,Rd H a (.dT kvs)/\y=.ref b/\H b=some (.tup (k.map kV))/\r=fb kvs k
def B3(H:Hp)(a:Addr)(y v:V)(H':Hp):Prop:=
 (∃kvs k,H a=some (.dK kvs)/\y=kV k/\kvs.length<sizeLine/\H'=upd H a (.dK (putK kvs k v)))\/
 ∃kvs k b,H a=some (.dT kvs)/\y=.ref b/\H b=some (.tup (k.map kV))/\kvs.length<sizeLine/\H'=upd H a (.dT (putK kvs k v))
theorem kF.k{H:Hp}{a:Addr}{kvs:List (Key×V)}{k:Key}(e:H a=some (.dK kvs)):kF H a (kV k) (fb kvs k):=.inl {kvs,k,.inl e,rfl,rfl}
theorem B3.k{H:Hp}{a:Addr}{kvs:List (Key×V)}{k:Key}{v:V}(e:H a=some (.dK kvs))(hl:kvs.length<sizeLine):B3 H a (kV k) v (upd H a (.dK (putK kvs k v))):=.inl ⟨kvs,k,e,rfl,hl,rfl⟩
section
variable{X:Cx}{pins:Aac}{Z:St}{H:Hp}{s:Shared}{a:Addr}{y v:V}{u r:Value}{o:Aap}{A:Around}{E:Aae}
def Inv.big(I:Inv X pins Z H s):sysModules<s.heap.objs.size:=by have h:mainGlobals<s.heap.objs.size:=(I.mod.glob.keeps I.bk).lt;exact f9 (-8) h
def Sd(hu:A.units+1<cLine)(I:Inv X pins Z H s)(g:kF H a y (some v))(ry:RelV y u)(h:∀w' s',Inv X pins Z H s'->RelV v w'->Q w' s'):
  wpAny (-4) A (getItem (-49) u) Q E s:=by
 rcases g with⟨kvs,k,e,ey,l⟩|⟨kvs,k,b,e,ey,eb,l⟩
 ·subst ey;obtain⟨z,hd,vs,rel,dd⟩:=zw I.bj e;obtain⟨w',hw,pq⟩:=lM.some_of (v:=v) (o:=valueAt vs k) (by rw[l];exact rel.val k);exact wpAny_getItem_of (uT ry) dd.mapOf hw (h w' _ (I.tok _) pq)
 ·subst ey;cases(show u=Value.ref b from ry);obtain⟨z,hd,xs,rel,dd⟩:=Cq I.bj e;obtain⟨w',hw,pq⟩:=lM.some_of (v:=v) (o:=(atKey xs k).map (·.2)) (by rw[l];exact rel.val k);obtain⟨p,hp,wU⟩:=a9.mp hw;refine Ax (nA hu) (Bh I.bj eb) dd hp ?_;rw[wU];exact h w' _ (I.tok _) pq
def aer(hu:A.units+1<cLine)(I:Inv X pins Z H s)(g:kF H a y o)(ry:RelV y u)(h:∀s',Inv X pins Z H s'->Q (.bool o.isSome) s'):
  wpAny (-4) A (compareOp .In u (-49)) Q E s:=by
 rcases g with⟨kvs,k,e,ey,l⟩|⟨kvs,k,b,e,ey,eb,l⟩
 ·subst ey;obtain⟨z,hd,vs,rel,dd⟩:=zw I.bj e;refine wpAny_in_of (uT ry) hd dd.mapOf ?_;rw[<-(rel.val k).tK,<-l];exact h _ (I.tok _)
 ·subst ey;cases(show u=Value.ref b from ry);obtain⟨z,hd,xs,rel,dd⟩:=Cq I.bj e;refine wpAny_in_heap (nA hu) (Bh I.bj eb) hd dd ?_;have q:=(rel.val k).tK;rw[jI]at q;rw[<-q,<-l];exact h _ (I.tok _)
def sC(I:Inv X pins Z H s)(mu:Sz (H a))(hs:Heap.SameBut a s.heap h')(he:∃q,h'.get? a=some q)(new:dC X.prog X.w (upd H a ob) h' a ob):
  Inv X pins Z (upd H a ob) {s with heap:=h',toks:=t'}:=
 I.write (x:=a) (e:=a) mu (.inl rfl) (λb q hb z=>(hs.2 b hb).trans z) he new
def yx(z:kvs.length<=sizeLine)(hd:(a==sysModules)=false)(rel:KV kvs vs)(dd:h'.DictOf (bz P w) a vs):
  dC P w H' h' a (.dK kvs):=⟨z,hd,vs,rel,dd⟩
def R7(hu:A.units+1<cLine)(I:Inv X pins Z H s)(g:B3 H a y v H')(ry:RelV y u)(rv:RelV v r)(h:∀s',Inv X pins Z H' s'->Q () s'):
  wpAny (-4) A (setItem (-49) u r) Q E s:=by
 rcases g with⟨kvs,k,e,ey,l,eH⟩|⟨kvs,k,b,e,ey,eb,l,eH⟩
 ·subst ey eH;obtain⟨z,hd,vs,rel,dd⟩:=uY I.bj e;have hz:vs.length<=sizeLine:=by rw[<-rel.length];exact z
  have hl:(putK kvs k v).length<=sizeLine:=by have:=xp kvs k v;lia
  refine wpAny_setItem_pairs (hsz:=hz) (uT ry) dd λh' rO hs=>h _ ?_;have he:∃q,h'.get? a=some q:=let⟨q,_,_,hq,_⟩:=rO;⟨q,hq⟩
  exact sC I (by rw[e];exact True.intro) hs he (yx hl hd (rel.put k rv) rO)
 ·subst ey eH;cases(show u=Value.ref b from ry);obtain⟨z,hd,xs,rel,dd⟩:=acv I.bj e;have hz:xs.length<=sizeLine:=by rw[<-bp rel];exact z
  have hl:(putK kvs k v).length<=sizeLine:=by have:=xp kvs k v;lia
  refine Aw (hsz:=hz) (nA hu) (Bh I.bj eb) dd λh' rO hs=>h _ ?_;obtain⟨q,es,ep,hq,h2,h3,h4,_,h5⟩:=rO;refine sC I (by rw[e];exact True.intro) hs ⟨q,hq⟩ {hl,hd,_,(rel.put k eb rv).keeps λc ys ec=>?_,q,es,ep,hq,h2,h3,h4,h5};rw[aw (wJ ec e (λz=>nomatch z))];exact ec
def O9(i:Expr):Prop:=∀ov iv,subscripted i false ov iv=operate [ov,iv] (getItem ov iv)
end
def LZ{T id:String}
  (hl:typeLookup (.type T) "__getitem__"=pure (some (.builtin id))) (hs:O9 slice)
  (h:wpAny (-5) A (eval value env) (λo aaa=>wpAny (-5) A (eval slice env) (λi aae=>aae.TypeIs o T/\wpAny (-5) A (getItem o i) Q E aae) E aaa) E s):
  wpAny (-5) A (eval (.Subscript value slice pos) env) Q E s:=by
 refine zJ (cZ h (λo aaa adn=>cZ adn (λi aae aag=>?_) λ_ _ x=>x) λ_ _ x=>x);obtain⟨hT,aag⟩:=aag;unfold subscriptTail;refine ae ?_;rw[getitemInPython_of_ne hT.not_modules];refine ae (hG hT hl ?_);have fin:wpAny (-5) A (subscripted slice false o i) (λr aah=>wpAny (-5) A (letTemporaryGo value o r>>=λ_=>pure r) Q E aah) E aae:=by rw[hs o i];exact wpAny_operating (cZ aag (λr aah adm=>ae (wpAny_letTemporaryGo (af adm))) λ_ _ x=>x)
 first
  |exact af (ae fin)
  |exact ae (af (ae fin))
  |exact ae fin
def Ls(I:Inv X pins Z H s)(g:kF H a y o):s.TypeIs (-49) "dict":=by
 rcases g with⟨kvs,k,e,_,_⟩|⟨kvs,k,b,e,_,_,_⟩
 ·obtain⟨_,_,vs,_,dd⟩:=zw I.bj e;exact dd.typeIs
 ·obtain⟨_,_,xs,_,dd⟩:=Cq I.bj e;exact dd.typeIs
inductive ZE(Q:VK)(x:V)(y:V)(H2:Hp):Prop
 |mk a v (_:x=.ref a) (_:kF H2 a y (some v)) (_:Q v H2)
def abT(td ty:TE):TE:=λZ H Q=>td Z H λx H1=>ty Z H1 λy H2=>ZE Q x y H2
inductive abS(Q:VK)(y:V)(x:V)(H2:Hp):Prop
 |mk a o (_:x=.ref a) (_:kF H2 a y o) (_:Q (.bl o.isSome) H2)
def acN(ty td:TE):TE:=λZ H Q=>ty Z H λy H1=>td Z H1 λx H2=>abS Q y x H2
inductive ZP(D:Ends)(Z:St)(v:V)(x:V)(y:V)(H3:Hp):Prop
 |mk a H4 (_:x=.ref a) (_:B3 H3 a y v H4) (_:D.nx Z H4)
def abY(td ty tv:TE):TS:=λD Z H=>tv Z H λv H1=>td Z H1 λx H2=>ty Z H2 λy H3=>ZP D Z v x y H3
section
variable{X:Cx}{o i value:Expr}{pos pos':Pos}{td ty tv:TE}
def vf(hu:X.A.units+1<cLine)(ho:PE X o td)(hi:PE X i ty)(hs:O9 i):PE X (.Subscript o i pos) (abT td ty):=by intro pins s Z H Q I h;refine LZ PySem.F.slot_dict_getitem.lookup hs (cX (ho pins s Z H _ I h) λu s1 x H1 I1 rx q1=>cX (hi pins s1 Z H1 _ I1 q1) λiv s2 y H2 I2 ry adL=>?_);obtain⟨a,v,ex,g,q2⟩:=adL;subst ex;obtain rfl:u=Value.ref a:=rx;exact{Ls I2 g,Sd hu I2 g ry λw' s3 I3 pq=>⟨v,H2,I3,pq,q2⟩}
def Jr(hu:X.A.units+1<cLine)(hi:PE X i ty)(ho:PE X o td):PC X .In i o (acN ty td):=by intro pins s Z H Q I h;refine cX (hi pins s Z H _ I h) λiv s1 y H1 I1 ry q1=>cX (ho pins s1 Z H1 _ I1 q1) λu s2 x H2 I2 rx adK=>?_;obtain⟨a,ov,ex,g,q2⟩:=adK;subst ex;obtain rfl:u=Value.ref a:=rx;exact aer hu I2 g ry λs3 I3=>{.bl ov.isSome,H2,I3,rfl,q2}
def xR(hu:X.A.units+1<cLine)(ho:PE X o td)(hi:PE X i ty)(hv:PE X value tv)(hs:swapsWith value (some (.Subscript o i pos')) pos.line X.env=pure false):
  PS X (.Assign [.Subscript o i pos'] value pos) (abY td ty tv):=by
 intro pins s Z H D I h;refine xg (cX (hv pins s Z H _ I h) λr s1 v H1 I1 rv q1=>cX (ho pins s1 Z H1 _ I1 q1) λu s2 x H2 I2 rx q2=>cX (hi pins s2 Z H2 _ I2 q2) λiv s3 y H3 I3 ry adJ=>?_) hs;obtain⟨a,H4,ex,g,q3⟩:=adJ;subst ex;obtain rfl:u=Value.ref a:=rx;exact R7 hu I3 g ry rv λs4 I4=>⟨Z,H4,I4,q3⟩
def Ei(h:Heap)(hb:sysModules<h.objs.size):dC P w H (h.push {cls:=.type "dict",data:=.dict #[]}) h.objs.size (.dK []):=
 {aP _,fM.mpr (bV (aH hb)),[],.nil,xc h}
def ZD:TE:=λ_ H Q=>∀p,H p=none->Q (.ref p) (upd H p (.dK []))
def mh:PE X (.Dict [] [] pos) ZD:=λpins s Z H Q I h=>
 wpAny_Dict_empty {.ref s.heap.objs.size,_,I.laid (a:=s.heap.objs.size) (o:=.dK []) (t':=s.toks) (λ_ _ q=>ah _ q) (ak _) (Ei s.heap I.big),rfl,h _ (-69)}
end
def EH:List (TE×TE)->St->Hp->(Aam->Hp->Prop)->Prop
 |[],_,H,Q=>Q [] H
 |(tk,tv)::r,Z,H,Q=>tk Z H λx H1=>tv Z H1 λy H2=>EH r Z H2 λps H3=>Q ((x,y)::ps) H3
abbrev VV:Aam->List (Value×Value)->Prop:=Paired λp q=>RelV p.1 q.1/\RelV p.2 q.2
def Dz(X:Cx)(pos:Pos)(keys:List (Option Expr))(values:List Expr)(AA:List (TE×TE)):Prop:=
 ∀(pins:Aac)(s:Shared)(Z:St)(H:Hp)(Q:Aam->Hp->Prop),Inv X pins Z H s->EH AA Z H Q->
  wpAny (-4) X.A (evalPairs (pairTrees keys values X.env pos)) (λvs s'=>∃ps H',Inv X pins Z H' s'/\VV ps vs/\Q ps H') X.xe s
def Mi:Dz X pos [] [] []:=λpins s Z H Q I h=>pairTrees_nil_walk {[],H,I,.nil,h}
def se(hk:PE X k tk)(hv:PE X v tv)(hr:Dz X pos ks vs AA):
  Dz X pos (some k::ks) (v::vs) ((tk,tv)::AA):=λpins s Z H Q I h=>
 pairTrees_cons_walk (cX (hk pins s Z H _ I h) λu s1 x H1 I1 rx q1=>cX (hv pins s1 Z H1 _ I1 q1) λw2 s2 y H2 I2 ry q2=>
  iC (hr pins s2 Z H2 _ I2 q2) λws s3 ⟨ps,H3,I3,rel,q3⟩=>{(x,y)::ps,H3,I3,.cons ⟨rx,ry⟩ rel,q3})
def fk(kvs more:List (Key×V)):List (Key×V):=more.foldl (λacc kv=>putK acc kv.1 kv.2) kvs
def KV.merge:∀{more:List (Key×V)}{rs:List (Key×Value)}{kvs:List (Key×V)}{vs:List (Key×Value)},KV more rs->KV kvs vs->KV (fk kvs more) (merged vs rs):=by
 intro more rs kvs vs r;unfold KV at r
 induction r generalizing kvs vs with
 |nil=>intro q;exact q
 |@cons p q ps qs h t ih=>
  intro r0;have e:KV (putK kvs p.1 p.2) (stored vs q.1 q.2):=by have:=r0.put p.1 h.2;rw[<-h.1];exact this
  exact ih e
theorem kI:∀(more kvs:List (Key×V)),(fk kvs more).length<=kvs.length+more.length
 |[],kvs=>by show kvs.length<=kvs.length+0;lia
 |p::r,kvs=>by have h1:=kI r (putK kvs p.1 p.2);have h2:=xp kvs p.1 p.2;show(fk (putK kvs p.1 p.2) r).length<=_;rw[bK];lia
theorem FH:∀{kvs:List (Key×V)}{ws:List (Value×Value)},VV (kvs.map λkv=>(kV kv.1,kv.2)) ws->∃rs,Carries (bz P w) ws rs/\KV kvs rs
 |[],_,r=>by rw[jl]at r;cases r;exact{[],True.intro,.nil}
 |p::kvs,_,r=>by
  rw[aR]at r;cases r with
  |@cons a b as bs h t=>
   obtain⟨rs,c,q⟩:=FH (P:=P) (w:=w) t;obtain⟨b1,b2⟩:=b;exact{(p.1,b2)::rs,{uT h.1,rfl,c},.cons {rfl,h.2} q}
def VA(AA:List (TE×TE)):TE:=λZ H Q=>∀p,H p=none->EH AA Z (upd H p (.dK [])) λps H2=>H2 p=some (.dK [])/\∃kvs:List (Key×V),ps=kvs.map (λkv=>(kV kv.1,kv.2))/\kvs.length<=15/\Q (.ref p) (upd H2 p (.dK (fk [] kvs)))
def XX(h:Dz X pos keys values AA)(qe:keys.all (·.isSome)=true)(hl:keys.length=values.length)(h0:keys≠[])
  (h15:keys.length<=15):PE X (.Dict keys values pos) (VA AA):=by
 intro pins s Z H Q I q;have hn:=I.bj.fresh (ak s.heap.objs.size);have I1:=I.laid (a:=s.heap.objs.size) (o:=.dK []) (h':=s.heap.push {cls:=.type "dict",data:=.dict #[]}) (t':=s.toks) (λ_ _ q=>ah _ q) (ak _) (Ei s.heap I.big);refine wpAny_Dict_walk (knd:=bz X.prog X.w) qe hl h0 h15 (iC (h pins _ Z _ _ I1 (q _ hn)) λws s2 adI=>?_);obtain⟨ps,H2,I2,rel,e,kvs,ep,lk,q2⟩:=adI;subst ep;obtain⟨rs,c,rk⟩:=FH (P:=X.prog) (w:=X.w) rel;obtain⟨z,hd,vs0,r0,dd⟩:=uY I2.bj e;cases r0;refine{rs,c,dd,λh' rO hs=>{.ref s.heap.objs.size,_,?_,rfl,q2}};have hz:(fk [] kvs).length<=sizeLine:=by have h1:=kI kvs [];rw[c7]at h1;rw[cP];lia
 have he:∃q,h'.get? s.heap.objs.size=some q:=let⟨q,_,_,hq,_⟩:=rO;⟨q,hq⟩
 exact sC I2 (by rw[e];exact True.intro) hs he (yx hz hd (rk.merge .nil) rO)
structure M1(X:Cx)(o:Expr)(m:Str)(apos:Pos)(e:Expr)(eB:Pos):Prop where
 base:attributeBase o m X.env (eval o X.env)=eval o X.env
 gD:((backTo eB (starEach [e] X.env)).all (λx=>!x.1)&&(backToKw eB (keywordEach [] X.env)).all (λx=>x.1.isSome)
  &&decide (([e]:List Expr).length+([]:List Keyword).length+(-59)<30))=true
 line:(apos.endLine==eB.line)=true
 trees:backTo eB (starEach [e] X.env)=[(false,eval e X.env)]
structure M2(X:Cx)(o:Expr)(m:Str)(apos:Pos)(e f:Expr)(eB:Pos):Prop where
 base:attributeBase o m X.env (eval o X.env)=eval o X.env
 gD:((backTo eB (starEach [e,f] X.env)).all (λx=>!x.1)&&(backToKw eB (keywordEach [] X.env)).all (λx=>x.1.isSome)
  &&decide (([e,f]:List Expr).length+([]:List Keyword).length+(-59)<30))=true
 line:(apos.endLine==eB.line)=true
 trees:backTo eB (starEach [e,f] X.env)=[(false,eval e X.env),(false,eval f X.env)]
def IsD(H:Hp)(a:Addr):Prop:=(∃kvs,Rd H a (.dK kvs))\/∃kvs,Rd H a (.dT kvs)
def aaI(I:Inv X pins Z H s)(d:IsD H a):
  s.TypeIs (-49) "dict"/\(∀b,Value.ref a=.ref b->∃ob,s.heap.get? b=some ob/\ob.dict=none)/\(a==sysModules)=false:=by
 rcases d with⟨kvs,e⟩|⟨kvs,e⟩
 ·obtain⟨_,hd,vs,_,dd⟩:=zw I.bj e;refine{dd.typeIs,λb q=>?_,hd};cases q;obtain⟨ob,_,_,h1,h2,_⟩:=dd;exact{ob,h1,h2.2.1}
 ·obtain⟨_,hd,xs,_,dd⟩:=Cq I.bj e;refine{dd.typeIs,λb q=>?_,hd};cases q;obtain⟨ob,_,_,h1,h2,_⟩:=dd;exact{ob,h1,h2.2.1}
section
variable{X:Cx}{pins:Aac}{Z:St}{H:Hp}{s:Shared}{a:Addr}{y d:V}{u r:Value}{o:Aap}{A:Around}{E:Aae}
def abw(hu:A.units+1<cLine)(I:Inv X pins Z H s)(g:kF H a y o)(ry:RelV y u)(rd:RelV d r)(h:∀w' s',Inv X pins Z H s'->RelV (o.getD d) w'->Q w' s'):
  wpAny (-4) A (call (.builtin "dict.get") [.ref a,u,r]) Q E s:=by
 rcases g with⟨kvs,k,e,ey,l⟩|⟨kvs,k,b,e,ey,eb,l⟩
 ·subst ey;obtain⟨z,hd,vs,rel,dd⟩:=zw I.bj e;refine q9 jw dd.typeIs pN (oW _ _ _) (meets_dict_get_default (bz X.prog X.w) a (uT ry) hd r) {_,dd.mapOf,h _ _ (I.tok _) ?_};rw[l];exact(rel.val k).getD rd
 ·subst ey;cases(show u=Value.ref b from ry);obtain⟨z,hd,xs,rel,dd⟩:=Cq I.bj e;refine q9 jw dd.typeIs pN (oW _ _ _) (wq (tupleKind (bz X.prog X.w)) a b hd r) {nA hu,k,xs,Bh I.bj eb,dd,h _ _ (I.tok _) ?_};rw[l];exact(rel.val k).getD rd
end
inductive Xn(ty:TE)(tx:TE)(Z:St)(Q:VK)(x:V)(H1:Hp):Prop
 |mk a (_:x=.ref a) (_:IsD H1 a) (_:ty Z H1 λy H2=>tx Z H2 λz H3=>∃o,kF H3 a y o/\Q (o.getD z) H3)
def Pw(td ty tx:TE):TE:=λZ H Q=>td Z H λx H1=>Xn ty tx Z Q x H1
section
variable{X:Cx}{o e f:Expr}{apos eB:Pos}{td ty tx:TE}
def vF(hu:X.A.units+1<cLine)(ho:PE X o td)(he:PE X e ty)(hf:PE X f tx)(m:M2 X o "get" apos e f eB):PE X (.Call (.Attribute o "get" apos) [e,f] [] eB) (Pw td ty tx):=by intro pins s Z H Q I h;refine uq m.base m.gD m.line iL jw yA (cX (ho pins s Z H _ I h) λu s1 x H1 I1 rx adH=>?_);obtain⟨a,ex,d,q1⟩:=adH;subst ex;obtain rfl:u=Value.ref a:=rx;obtain⟨t1,t2,_⟩:=aaI I1 d;refine{t1,t2,?_};rw[m.trees];refine jc rfl (mx (gf (cX (he pins s1 Z H1 _ I1 q1) λiv s2 y H2 I2 ry q2=>gf (cX (hf pins s2 Z H2 _ I2 q2) λfv s3 z H3 I3 rz ⟨ov,g,q3⟩=>lB ?_))));exact abw hu I3 g ry rz λw' s4 I4 pq=>⟨_,H3,I4,pq,q3⟩
variable{pins:Aac}{Z:St}{H:Hp}{s:Shared}{a:Addr}{kvs:List (Key×V)}{A:Around}{E:Aae}
def U2(I:Inv X pins Z H s)(e:Rd H a (.dK kvs))(h:∀p s',H p=none->Inv X pins Z (upd H p (.dK kvs)) s'->Q (.ref p) s'):wpAny (-4) A (call (.type "dict") [.ref a]) Q E s:=by obtain⟨z,hd,vs,rel,dd⟩:=zw I.bj e;refine kt_call_dict hd dd (by rw[<-rel.length];exact z) λh' rO hs=>?_;refine h _ _ (-69) (I.laid (a:=s.heap.objs.size) (o:=.dK kvs) (t':=s.toks) (λb q hq=>?_) (ak _) (yx z (fM.mpr (bV (aH I.big))) rel rO));exact(hs.2 b (aH (aF hq))).trans (ah _ hq)
end
end L2
namespace Att
open PySem PySem.W PySem.Calls PyProof.Rows
def Fd:∀(ns:List Int)(vs:Aag),WellAll P h vs (ns.map WData.int)->IntsAre vs ns:=by
 intro ns
 induction ns with
 |nil=>
  intro vs w;rw[jl]at w;cases w;exact .nil
 |cons n ns ih=>
  intro vs w;rw[aR]at w;cases w with
  |cons a b=>
   cases a;exact .cons _ _ (ih _ b)
def PV{l:OpenLaw}(hn:l.most=some n)
  (Oo:l.row.toRowW.claim.pre args=true) (J0:WellAll P h vals args):
  ∃a vs ns,vals=[Value.ref a]/\args=[WData.list (ns.map WData.int)]/\h.get? a=some {cls:=.type "list",data:=.seq vs.toArray}/\IntsAre vs ns/\ns.length<=n:=by
 have hsh:WShape.hasAll [] args [.list .int]=true:=(pre_splitW Oo).1;have hc:l.pre.holds [] {args:=args}=true:=(pre_splitW Oo).2;obtain⟨d,r,rfl,h1,h2⟩:=hasAllW_cons hsh;obtain rfl:=hasAllW_nil h2;obtain⟨xs,rfl,h3⟩:=hasW_list h1;obtain⟨ns,rfl⟩:=items_int h3;have hlen:ns.length<=n:=by
  unfold OpenLaw.pre at hc;have h4:(WTm.not (.lt (.lit (.int (n:Int))) (.len (.arg 0)))).holds [] {args:=[.list (ns.map .int)]}=true:=by have h4:=(holds_andW hc).1;rw[hn]at h4;exact h4
  have h5:=condW_of h4 (w_not (w_lt w_lit (w_len_list (w_arg rfl))));rw[ag]at h5;refine gQ λq=>?_;have q':(n:Int)<((ns.length:Nat):Int):=by lia
  first
   |(rw[ba q']at h5;exact absurd h5 (by decide))
   |(simp at h5;lia)
 cases J0 with
 |cons w1 w2=>
  cases w2;cases w1 with
  |list ho qe=>exact{_,_,ns,rfl,rfl,ho,Fd ns _ qe,hlen}
def P9(l:OpenLaw)(args:List WData):l.row.toRowW.claim.post args (.bool true) args=true:=
 postW_of (r:=l.row.toRowW) (X:=(true==true))
  (show WShape.has [] (.bool true) .bool=true by first|rfl|decide|simp[WShape.has,WShape.arms,WShape.armsAll])
  (show(WTm.eq .res (.lit (.bool true))).value [] {args:=args,res:=some (.bool true),after:=args}=some (.bool (true==true))from w_eq_bool (w_res rfl) w_lit) rfl
def Lw{l:OpenLaw}
  (hn:l.most=some n) (Bs:d.params.defaults=[])
  (call:∀(w:World)(aab aaa:Shared)(mg mb:Aad)(fa:Addr)(o:Obj)(pm cd doc:Value)(a:Addr)(vs:Aag)(ns:List Int),
   Ground q loose [] XP w aab mg mb aaa.heap->YP w aaa.heap->
   aaa.heap.get? fa=some o->o.data=.func (docDef d.name d.params d.body d.scope pm cd doc)->aaa.heap.CodeRec cd d.name->mg d.name=some (.ref fa)->
   aaa.heap.get? a=some {cls:=.type "list",data:=.seq vs.toArray}->IntsAre vs ns->ns.length<=n->aaa.gens=#[]->
   codeAny (model l.prog w) callerA (.call (.ref fa) {[.ref a],[]}) (-51) aaa):
  WalkO q loose XP YP l.row.toRowW d [] (λf vs=>PySem.call f vs):=by
 intro w aab aaa mg mb G Y fa o pm cd doc dV kV ho hd Bu hD Rp hg args vals as Oo aeK hrd J0 hlo;obtain rfl:dV=.none:=Dflts.none hD Bs;obtain rfl:kV=.none:=Dflts.noKw hD;obtain⟨a,vs,ns,rfl,rfl,UD,hints,hlen⟩:=PV hn Oo J0;refine enter_call (lK (call w aab aaa mg mb fa o pm cd doc a vs ns G Y ho (fd_plain hd) Bu Rp UD hints hlen hg) λr s' hq=>?_);obtain⟨rfl,h2,h3,h4⟩:=hq;exact{.inl {.bool true,.bool true,[],rfl,λ_=>rfl,.bool true,P9 l _,λ_=>{List.Pairwise.nil,λ_ hm=>(nomatch hm)}},h2,h3,h4}
section
def ledger(h:Heap)(L d:Addr):Aac:=(List.range h.objs.size).filterMap λa=>if a=L\/a=d then none else(h.get? a).map λo=>(a,o)
end
end Att
namespace L2
open PySem PySem.Spec PyProof.Rows
theorem GC:∀{vs:Aag}{ns:List Int},IntsAre vs ns->Vals (-39) vs
 |_,_,.nil=>.nil
 |_,_,.cons n t h=>.cons ⟨t,rfl⟩ (GC h)
def O8(H:Hp):Prop:=∀b,H b=none\/∃o xs,H b=some (.c6 o (.lst xs))
def Ue{K:Frag}
  (KX:K.In aaa.heap) (hns:aaa.heap.Ns mainGlobals mg) (hb:aaa.heap.Ns builtinsNs mb) (hbb:∀x:Str,x≠"__name__"->mb x=bootBuiltins x) (ad7:aaa.heap.NoLimit) (hg:aaa.gens=#[])
  (ha:aaa.heap.get? a=some {cls:=.type "list",data:=.seq vs.toArray}) (hi:IntsAre vs ns) (hl:ns.length<=sizeLine) (hr:ig k callerA)
  (F:∀base:Heap,K.In base->base.Ns mainGlobals mg->dh P w K mg base CX k fa fd [x] sp) (acm:∀(s:Shared)(u:Value),BindsTo s fd {[u],[]} [(x,u)])
  (Hg:∀H:Hp,O8 H->bo K H a (-39)->sp [.ref a] H (λv _=>v=.bl true) λ_ _ _=>False)
  (hCX:∀H e s',CX [] H aaa (λ_ _ _=>False) e s'->False):
  codeAny (-25) callerA (.call (.ref fa) {[.ref a],[]}) (-51) aaa:=by
 have rv:=GC hi;have adb:=hi.length;have core:∀H:Hp,O8 H->bo K H a (-39)->jL P w H aaa.heap->(∀b,H b≠none->b=a)->(H a≠none->K.lookup a=none)->
   codeAny (-25) callerA (.call (.ref fa) {[.ref a],[]}) (-51) aaa:=by
  intro H hO hS bj hA hK;have Nh:∀{b:Addr}{o:Obj},aaa.heap.get? b=some o->H b=none->(zr aaa.heap H).get? b=some o:=λe n=>UJ e n;have Qu:∀{b:Addr}{o:Obj}{es:Array DictEntry}{ep:Nat},aaa.heap.get? b=some o->o.data=.dict es ep->H b=none:=λ{b o es ep} e d=>by
   cases q:H b with
   |none=>rfl
   |some u=>
    have e':b=a:=hA b (by rw[q];simp);subst e';rw[ha]at e;cases e;have d':Data.seq vs.toArray _=Data.dict es ep:=d;cases d'
  have VS:∀{b:Addr}{m:Aad},aaa.heap.Ns b m->(zr aaa.heap H).Ns b m:=λ{b m} ⟨o,es,ep,e,d,r⟩=>{o,es,ep,Nh e (Qu e d),d,r};have hKb:K.In (zr aaa.heap H):=λb o e=>Nh (KX b o e) (by
   cases q:H b with
   |none=>rfl
   |some u=>
    have e':b=a:=hA b (by rw[q];simp);subst e';rw[hK (by rw[q];simp)]at e;cases e)
  have hM:Mod K mg (zr aaa.heap H):={hKb,VS hns,{mb,VS hb,hbb},let⟨mc,h1,h2⟩:=ad7;{mc,VS h1,h2}};have e0:EA P w K mg (zr aaa.heap H) callerA [] aaa H:={rfl,hM,λb o e=>X8 e,BP (RA _ _),trivial,λb hb=>absurd (show b∈([]:Aaj)from hb) (-9),bj,.of_eq hg};refine lK ((F _ hKb (VS hns)).run callerA [] aaa H {[.ref a],[]} [.ref a] [.ref a] _ _ hr e0 (acm aaa (-49)) (.cons rfl .nil) (Hg H hO hS)) λr s' h=>?_;cases r with
  |error e=>exact(hCX H e s' h).elim
  |ok fl=>
   cases fl with
   |next=>exact False.elim h
   |brk=>exact False.elim h
   |cont=>exact False.elim h
   |ret u=>
    obtain⟨v,H',os,bare,un,ad2,r',q⟩:=h;have q':v=.bl true:=q;subst q';obtain rfl:u=Value.bool true:=r';refine{rfl,OldK.of_keep λb o e=>?_,os,bare};cases q:H b with
    |none=>exact un.keep b o e q (by intro z;exact absurd (show b∈([]:Aaj)from z) (-9)) (-9)
    |some u=>
     rcases hO b with z|⟨ob,xs,z⟩
     ·rw[q]at z;cases z
     ·have z2:=un.ud b ob _ z;obtain⟨e1,_⟩:=bj b _ z;obtain⟨e2,_⟩:=ad2 b _ z2;rw[e]at e1;cases e1;exact e2
 cases hk:K.lookup a with
 |some o=>
  have e:=KX a o hk;rw[ha]at e;cases e;refine core (λ_=>none) (λ_=>.inl rfl) (.inr {_,vs.toArray,_,hk,rfl,rfl,rfl,by rw[aI,adb];exact hl,by simpa using rv}) (λb u z=>by have z':(none:Option HO)=some u:=z;cases z') (λb z=>absurd rfl z) λz=>absurd rfl z
 |none=>
  refine core (λb=>if b=a then some (.c6 {cls:=.type "list",data:=.seq vs.toArray} (.lst (-39)))else none) (λb=>?_) (.inl (.inr ⟨{cls:=.type "list",data:=.seq vs.toArray},aD rfl⟩)) (λb u z=>?_) (λb z=>?_) λ_=>hk
  ·by_cases hb:b=a
   ·exact .inr {_,_,aD hb}
   ·exact .inl (au hb)
  ·by_cases hb:b=a
   ·have z':=(aD hb).symm.trans z;cases z';subst hb;exact{ha,by rw[ag];exact hl,vs,_,rv,ha}
   ·have z':=(au hb).symm.trans z;cases z'
  ·by_cases hb:b=a
   ·exact hb
   ·exact absurd (au hb) z
abbrev KOf{K:Frag}{h:Heap}(_:K.In h):Frag:=K
def Xg{l:PySem.W.OpenLaw}{K:Params->Frag}{CX:World->K7}{sp:World->Sp}
  (hn:l.most=some n) (C9:n<=sizeLine) (Bs:d.params.defaults=[]) (hr:ig k callerA)
  (hY:∀(w:World)(h:Heap),YP w h->(K w.params).In h)
  (F:∀(w:World)(mg:Aad)(fa:Addr)(h:Heap),(K w.params).In h->h.Ns mainGlobals mg->mg d.name=some (.ref fa)->
   ∃fd:FuncData,(∀(s:Shared)(u:Value),BindsTo s fd {[u],[]} [(x,u)])/\
    ∀base:Heap,(K w.params).In base->base.Ns mainGlobals mg->dh l.prog w (K w.params) mg base (CX w) k fa fd [x] (sp w))
  (Hg:∀(w:World)(H:Hp)(a:Addr)(ns:List Int),ns.length<=n->O8 H->bo (K w.params) H a (-39)->sp w [.ref a] H (λv _=>v=.bl true) λ_ _ _=>False)
  (hCX:∀(w:World)(H:Hp)(s:Shared)(e:Value)(s':Shared),CX w [] H s (λ_ _ _=>False) e s'->False):
  PySem.W.WalkO q loose XP YP l.row.toRowW d [] (λf vs=>PySem.call f vs):=by
 refine Att.Lw hn Bs λw aab aaa mg mb fa o pm cd doc a vs ns G Y ho hd Bu Rp UD hints hlen hg=>?_;have KX:=hY w _ Y;obtain⟨fd,hb,hF⟩:=F w mg fa _ KX G.T.g Rp;exact Ue KX G.T.g G.T.b G.T.builtins G.T.nolimit hg UD hints (aC hlen C9) hr hF hb (λH hO hS=>Hg w H a ns hlen hO hS) λH e s'=>hCX w H aaa e s'
def inClass(s:Stmt)(j:Nat):Stmt:=match s with
 | .ClassDef _ _ _ body _ _ _ _ _ _ _=>body.getD j (.Pass {0,0,0,0})
 |_=>.Pass {0,0,0,0}
def lJ(s:Stmt):Arguments:=match s with
 | .FunctionDef _ a _ _ _ _ _ _ _ _=>a
 |_=>{posonlyargs:=[],args:=[],vararg:=none,kwonlyargs:=[],kw_defaults:=[],kwarg:=none,defaults:=[]}
def kJ(s:Stmt):List Stmt:=match s with
 | .FunctionDef _ _ b _ _ _ _ _ _ _=>b
 |_=>[]
def bQ(s:Stmt):Scope:=match s with
 | .FunctionDef _ _ _ _ _ _ sc _ _ _=>sc
 |_=>{kind:=.function,names:=[],isGenerator:=false,isCoroutine:=false}
abbrev fW:K7:=λ_ _ _ _ _ _=>False
abbrev E0:XK:=λ_ _ _=>False
def NS:Passes fW X E0:=λ_ _ _ _ _ _ _ h=>h.elim
structure fG(K:Frag)(x qual:Str)(st:Stmt)(f:Addr)(fd:FuncData):Prop where
 ex:∃(oc:Value)(od:Aak)(kV doc pm:Value)(an:Aak)(dk ct:Value)(zZ:Array (Option Value)),
  fd=fnOf x qual (lJ st) (kJ st) (bQ st) .none kV doc pm an dk ct/\K.lookup f=some {oc,od,.func fd,zZ}/\codeIn K dk qual=true
 kp:keepIn K (.ref f)=true
section
variable{P:Program}{w:World}{K:Frag}{mg:Aad}{base:Heap}
def fG.ok{st:Stmt}(F:fG K x qual st f fd)(S:cz N ps (bQ st))(len:∀vs H Q E,sp vs H Q E->vs.length=ps.length)
  (OB:∀(dk:Value)(A:Around)(outer:List Env)(s:Shared)(H:Hp)(vs:Aao)(Q:VK)(E:XK),ig k (A.deeper (envOfC qual (bQ st) s.heap.objs.size f dk))->sp vs H Q E->
   ∃t,lN (Gn fW P w K mg base N qual (bQ st) f dk A outer s H E).VT (kJ st) t/\t {nx:=λ_ H'=>Q .cI H',rt:=Q} (start N vs) H):dh P w K mg base fW (k+1) f fd ps sp:=by
 obtain⟨oc,od,kV,doc,pm,an,dk,ct,zZ,rfl,lk,Bu⟩:=F.ex;refine acp lk Bu S len λA outer s H vs Q E hr Hg=>?_;obtain⟨t,h,q⟩:=OB dk A outer s H vs Q E hr Hg;exact{t,h.VT,q}
def fG.binds{st:Stmt}(F:fG K x qual st f fd)
  (h:∀(kV doc pm:Value)(an:Aak)(dk ct:Value)(us:Aag),us.length=ps.length->bindArgs (fnOf x qual (lJ st) (kJ st) (bQ st) .none kV doc pm an dk ct) {us,[]}=pure (ps.zip us)):Binds K fd ps []:=by
 obtain⟨oc,od,kV,doc,pm,an,dk,ct,zZ,rfl,lk,Bu⟩:=F.ex;exact .all (h kV doc pm an dk ct)
def RT{st:Stmt}{kV doc pm dk ct:Value}(l:K.lookup f=some {oc,od,.func (fnOf x qual (lJ st) (kJ st) (bQ st) .none kV doc pm an dk ct),zZ})
  (c:codeIn K dk qual=true) (k:keepIn K (.ref f)=true):fG K x qual st f (fnOf x qual (lJ st) (kJ st) (bQ st) .none kV doc pm an dk ct):={⟨oc,od,kV,doc,pm,an,dk,ct,zZ,rfl,l,c⟩,k}
def jQ(hr:ig k A):A.units+1<cLine:=cK (Nat.add_le_add_left (by decide:1<=64) _) hr.units
def bO(h:n<=1000):n<sizeLine:=cK h (-8)
variable{X:Cx}
def pv(i:Nat)(hN:X.N[i]?=some x:=by rfl)(hv:Vis X.env.scope x:=by first|exact Or.inl rfl|exact Or.inr (Or.inl rfl)|exact Or.inr (Or.inr rfl))(hd:(-27)=false:=by decide)
  (Bu:(x==("__classdict__":Str))=false:=by decide):PE X (.Name x pos) (AE i):=Z8 hN hv hd Bu
def nO{A B:Prop}(h:B):if false=true then A else B:=by rw[au aU];exact h
def Ge{A B:Prop}(h:A):if true=true then A else B:=by rw[aD rfl];exact h
def fZ{c A B:Prop}[Decidable c](h1:c->A)(h2:¬c->B):if c then A else B:=by
 by_cases h:c
 ·rw[aD h];exact h1 h
 ·rw[au h];exact h2 h
def bA(H H':Hp):Prop:=∀b o,H b=some o->H' b=some o
def bA.refl(H:Hp):bA H H:=λ_ _ h=>h
def bA.trans(a:bA H H1)(b:bA H1 H2):bA H H2:=λc o h=>b c o (a c o h)
def bA.free(e:bA H H')(h:H' l=Option.none):H l=Option.none:=by
 cases q:H l with
 |none=>rfl
 |some o=>
  rw[e l o q]at h;cases h
end
section
variable{κ:Type}[DecidableEq κ]
def SM{k:κ}(h:fb kvs k=none):¬k∈kvs.map (·.1):=by intro m;obtain⟨p,hp,e⟩:=aA.mp m;have q:(-56)=true:=kr.mpr {p,hp,ba e};rw[p6,h]at q;exact absurd q (-9)
def LL{k:κ}{v:V}(h:fb kvs k=some v):k∈kvs.map (·.1):=by
 have q:(-56)=true:=by rw[p6,h];all_goals rfl
 obtain⟨p,hp,e⟩:=kr.mp q;exact aA.mpr {p,hp,bw e}
end
def Its(z:Str):It:={λi _=>i<z.cps.size,λi H x H'=>H'=H/\∃c,z.cps[i]?=some c/\x=.str ⟨#[c]⟩,λi _=>i=z.cps.size}
def GB(hh:A.handled=none)(I:Addr)(x:Str)(t:Tok):
  Walks prog w A I [I] [I] x.cps.size (SignAt x) (λi h=>h.IsStrIter I (strIterType x) x t i):=by
 unfold strIterType;cases x.cps.all (·<128)with
 |true=>exact Walks.strAscii hh I x t
 |false=>exact Walks.strWide hh I x t
def HH(x:Str):["enumerate","zip","dict_itemiterator","dict_reverseitemiterator","odict_iterator","itertools.zip_longest","itertools.pairwise"].contains (strIterType x)=false:=by
 unfold strIterType;cases x.cps.all (·<128)with
 |true=>decide
 |false=>decide
def SO{K:Frag}(it:Addr)(z:Str)(t:Tok):Turn P w K tg (Its z) [it] it (λi h=>h.IsStrIter it (strIterType z) z t i) where
 mem:=by simp
 obj:=λi h st b hb=>by
  have e:b=it:=by simpa using hb
  subst e;obtain⟨o,e,c,d⟩:=st;exact{o,e,λv z=>by rw[d]at z;cases z}
 keep:=λi h h' st k=>by obtain⟨o,e,r⟩:=st;exact{o,k it (-9) o e,r}
 item:=by intro X hP hw hK hc i pins s Z H E I hf st hg;subst hP hw hK;obtain⟨f0,f1,f2,f3,f4,f5⟩:=hf it (-9);have W:=GB (prog:=X.prog) (w:=X.w) (I.ok.hd hc) it z t;refine W.item i s _ _ hg st λv h' tk hv hX kk=>?_;obtain⟨c,u,qx,rfl⟩:=hv;have I1:Inv X pins Z H {s with heap:=h',toks:=tk}:=I.turned (λb o hb e=>kk b o (by simpa using hb) e) f0 f1 f3 f4 f5;obtain⟨o,e,c1,d1⟩:=id hX;exact{_,rfl,Co (s:={s with heap:=h',toks:=tk}) e c1 d1 (HH z) {.str ⟨#[c]⟩,H,I1,⟨u,rfl⟩,⟨rfl,c,qx,rfl⟩,hX,λb hb=>(hf b hb).1}}
 done:=by intro X hP hw hK hc i pins s Z H E I hf st hg;subst hP hw hK;obtain⟨f0,f1,f2,f3,f4,f5⟩:=hf it (-9);have W:=GB (prog:=X.prog) (w:=X.w) (I.ok.hd hc) it z t;have e:i=z.cps.size:=hg;subst e;exact W.done s _ _ st λh' tk kk=>{rfl,I.turned (λb o hb e=>kk b o (by simpa using hb) e) f0 f1 f3 f4 f5}
 self:=λA i s Q E st h=>by
  unfold strIterType at st;cases hx:z.cps.all (·<128)with
  |true=>rw[hx]at st;exact wpAny_pyIter_striter_ascii st h
  |false=>rw[hx]at st;exact wpAny_pyIter_striter_wide st h
section
variable{X:Cx}{tg:Expr}
inductive acf(R:It->Hp->Prop)(x:V)(H1:Hp):Prop
 |mk z (_:x=.str z) (_:R (Its z) H1)
def adl(tl:TE):TI:=λZ H R=>tl Z H λx H1=>acf R x H1
def Z7(hl:PE X l tl):PI X tg l (adl tl):=by
 intro pins s Z H R I h;refine cX (hl pins s Z H _ I h) λv s1 x H1 I1 r1 q1=>?_;obtain⟨z,e,q⟩:=q1;subst e;obtain⟨t,rfl⟩:=r1;refine wpAny_pyIter_strU ?_;have I2:Inv X pins Z H1 {s1 with heap:=s1.heap.push {cls:=.type (strIterType z),data:=.fields #[.str z t,.int 0 0]}}:=I1.kept (t':=s1.toks) λb o e=>ah _ e;refine{s1.heap.objs.size,[s1.heap.objs.size],_,Its z,H1,rfl,I2,SO s1.heap.objs.size z t,{_,aE _ rfl,rfl,rfl},λb hb=>?_,q};have e:b=s1.heap.objs.size:=by simpa using hb
 subst e;exact I1.sr (ak _) (I1.bj.fresh (ak _))
def frees(scope:Scope):Aah:=(scope.names.filter λp=>p.2==.free).map (·.1)
def El(scope:Scope)(env:Env):List (Str×Addr):=(frees scope).reverse.map λn=>(n,(env.cells.lookup n).getD 0)
theorem Gr(env:Env):∀(names:List (Str×NameKind))(cs:List (Str×Addr)),(∀n∈(names.filter λp=>p.2==.free).map (·.1),∃c,env.cells.lookup n=some c)->
  (forIn names cs λ(x:Str×NameKind)(r:List (Str×Addr))=>(if x.2==.free then do let c<-cellOf env x.1;pure (ForInStep.yield ((x.1,c)::r))else pure (ForInStep.yield r):Sem (ForInStep (List (Str×Addr)))))=
   pure ((((names.filter λp=>p.2==.free).map (·.1)).reverse.map λn=>(n,(env.cells.lookup n).getD 0))++cs)
 |[],cs,_=>rfl
 |(n,k)::r,cs,h=>by
  rw[m8];cases hk:(k==NameKind.free)with
  |false=>
   have h':∀m∈(r.filter λp=>p.2==.free).map (·.1),∃c,env.cells.lookup m=some c:=λm hm=>h m (by simpa[gR,hk]using hm);have ih:=Gr env r cs h';simp only[hk,cb,dJ,gR,pure_bind];exact ih
  |true=>
   obtain⟨c,hc⟩:=h n (by simp[gR,hk]);have h':∀m∈(r.filter λp=>p.2==.free).map (·.1),∃c,env.cells.lookup m=some c:=λm hm=>h m (by
    simp only[gR,hk,lG,aR];exact az _ hm)
   have ih:=Gr env r ((n,c)::cs) h';have ec:cellOf env n=pure c:=by unfold cellOf;rw[hc]
   simp only[hk,lG,gR,aR,lq,aM,jl,cD,iW,ip,ec,pure_bind,hc,Option.getD_some];exact ih
def FG(h:∀n∈frees scope,∃c,env.cells.lookup n=some c):closureFor scope env=pure (El scope env):=by have e:=Gr env scope.names [] h;rw[cu]at e;have q:closureFor scope env=((forIn scope.names ([]:List (Str×Addr)) λ(x:Str×NameKind)(r:List (Str×Addr))=>(if x.2==.free then do let c<-cellOf env x.1;pure (ForInStep.yield ((x.1,c)::r))else pure (ForInStep.yield r):Sem (ForInStep (List (Str×Addr)))))>>=λr=>pure r):=rfl;rw[q,bind_pure];exact e
theorem Bb{β:Type}(g:Str->β)(y:Str):∀l:Aah,(l.map λn=>(n,g n)).lookup y=if y∈l then some (g y)else none
 |[]=>by simp
 |n::r=>by
  have ih:=Bb g y r;rw[aR,wc];cases e:(y==n)with
  |true=>
   have e':y=n:=iE e;subst e';simp
  |false=>
   have e':y≠n:=λq=>by rw[q]at e;simp at e
   show(r.map λn=>(n,g n)).lookup y=_;rw[ih];simp[e']
def sX(h:∀n∈frees scope,∃c,env.cells.lookup n=some c):(El scope env).lookup y=some c↔y∈frees scope/\env.cells.lookup y=some c:=by
 unfold El;rw[Bb (λn=>(env.cells.lookup n).getD 0)];by_cases hy:y∈frees scope
 ·obtain⟨d,hd⟩:=h y hy;rw[aD (iU.mpr hy),hd];simp[hy]
 ·rw[au λq=>hy (iU.mp q)];simp[hy]
theorem Bc(f:Str->NameKind->NameKind)(y:Str):∀names:List (Str×NameKind),(names.map λp=>(p.1,f p.1 p.2)).lookup y=(names.lookup y).map (f y)
 |[]=>rfl
 |(n,k)::r=>by
  have ih:=Bc f y r;rw[aR,wc,wc];cases e:(y==n)with
  |true=>
   have e':y=n:=iE e;subst e';rfl
  |false=>exact ih
def xO(scope:Scope)(env:Env)(y:Str):(relabel scope env).names.lookup y=(scope.names.lookup y).map λk=>if(k==.free&&env.scope.kind==.function&&env.kindOf y==some .cell)=true then NameKind.cell else k:=by
 have e:(relabel scope env).names=scope.names.map λp=>(p.1,(λ(n:Str)(k:NameKind)=>if(k==.free&&env.scope.kind==.function&&env.kindOf n==some .cell)=true then NameKind.cell else k) p.1 p.2):=by unfold relabel;refine bH λp _=>?_;obtain⟨n,k⟩:=p;show(if(k==.free&&env.scope.kind==.function&&env.kindOf n==some .cell)=true then(n,NameKind.cell)else(n,k))=_;split<;>simp_all
 rw[e];exact Bc (λ(n:Str)(k:NameKind)=>if(k==.free&&env.scope.kind==.function&&env.kindOf n==some .cell)=true then NameKind.cell else k) y scope.names
end
structure rD(X:Cx)(scope:Scope)(x:Str)(fs:Aah)(fr:List Nat):Prop where
 kind:scope.kind=.function
 loc:scope.names.lookup x=some .local
 names:∀y∈scope.names,y.2=.local->scope.names.lookup y.1=some .local
 Qs:∀y∈scope.names,y.2≠ .cell
 free:∀n∈frees scope,X.env.kindOf n=some .cell/\scope.names.lookup n=some .free
 nd:(x::fs).Nodup
 len:fr.length=fs.length
 slots:∀(j:Nat)(y:Str)(k:Nat),fs[j]?=some y->fr[j]?=some k->X.N[k]?=some y/\y∈frees scope
abbrev dW(X:Cx)(N':Aah)(scope:Scope)(C:Addr)(s:Shared)(H:Hp)(ex:Aaj):Cx:=
 {X with N:=N',aab:=s,aaf:=H,env:=compEnvC scope (El scope X.env) C X.env,outer:=X.stack,stack:=X.stack,ex:=ex,fn:=λ_=>false,pn:=[],xe:=λ_ _=>False}
def CT(X:Cx)(ifs:List Expr)(tt:TT):Prop:=
 ∀(pins:Aac)(s:Shared)(Z:St)(H:Hp)(Q:Bool->Hp->Prop),Inv X pins Z H s->tt Z H Q->
  wpAny (-4) X.A (forIn ifs true λc r=>if r=true then do let ok<-isTrue c X.env (eval c X.env);pure (ForInStep.yield ok)else pure (ForInStep.yield r)) (TP X pins Z Q) X.xe s
def B9:TT:=λ_ H Q=>Q true H
def Si:CT X [] B9:=λ_ _ _ H _ I h=>wpAny_tests_nil ⟨H,I,h⟩
def Sh(h:PT X c tc):CT X [c] tc:=λpins s Z H Q I hq=>wpAny_tests_one (h pins s Z H Q I hq)
def slotsOf(fr:List Nat)(Z:St):St:=fr.map λk=>(Z[k]?).getD none
def uN(wi:TI)(fr:List Nat)(tt:TT)(te:TE):TE:=λZ H Q=>wi Z H λJ H1=>∃W:Nat->Nat->Aao->Hp->Prop,(∃m,W 0 m [] H1)/\∀i m ys H2,W i m ys H2->
 (J.stop i H2/\ys.length<=sizeLine/\∀l,H2 l=none->Q (.ref l) (upd H2 l (-48)))\/
 (J.go i H2/\ys.length<sizeLine/\∀v H3,J.zU i H2 v H3->tt (some v::slotsOf fr Z) H3 λb H4=>
  if b=true then te (some v::slotsOf fr Z) H4 (λy H5=>∃m',m'<m/\W (i+1) m' (ys++[y]) H5)else∃m',m'<m/\W (i+1) m' ys H4)
section
variable{X:Cx}
def C6{h h':Heap}(k:∀b o,h.get? b=some o->h'.get? b=some o)(z:h.IsCell c v):h'.IsCell c v:=by obtain⟨o,e,d⟩:=z;exact{o,k _ _ e,d}
def Inv.adopt(I:Inv X pins Z H s)(hn:H D=none)(e:s.heap.get? D=some {cls:=.type "list",data:=.seq vs.toArray k})(r:Vals ys vs)(hz:ys.length<=sizeLine)
  (h1:X.aab.heap.objs.size<=D) (hL:D≠X.env.locals) (h2:∀x c,X.env.cells.lookup x=some c->c≠D) (h3:∀p∈X.pn++pins,p.1≠D):Inv X pins Z (upd H D (-48)) s:=by
 have nD:∀b u,H b=some u->b≠D:=λb u q z=>by rw[z,hn]at q;cases q
 have bj:jL X.prog X.w (upd H D (-48)) s.heap:=λb u q=>by
  by_cases hb:b=D
  ·subst hb;rw[ar]at q;cases q;exact⟨hz,vs,k,r,e⟩
  ·rw[aw hb]at q;exact(I.bj b u q).jD (λ_ _ _ z=>z) (λc z=>by rw[aw (nD c _ z)];exact z) λc xs z=>by rw[aw (nD c _ z)];exact z
 have J:=I.step (H':=upd H D (-48)) (h':=s.heap) (g':=s.gens) (t':=s.toks) (d':=s.drawn) (ch:=[D])
  (λb hb=>by
   have e':b=D:=by simpa using hb
   subst e';exact{.inr h1,hL,h2,h3})
  (λb o _ _ _ q _=>q) (λb o _ _ _ q _=>{o.slots,q}) (λb o hc _ n=>by rw[aw λz=>hc (by simp[z])];exact n) (λb o _ q=>⟨o,q⟩)
  (λb xs q=>by rw[aw (nD b _ q)];exact q) (λb o u q=>by rw[aw (nD b _ q)];exact q) (λb ps q=>{#[],by rw[aw (nD b _ q),q];simp}) (λm hm=>hm) bj I.bare
 exact J
def YK(S:rD X scope x fs fr)(I2:Inv X pins Z H s2)(I3:Inv X pins Z H s)
  (hD:D=s2.heap.objs.size) (hs:s.heap.objs.size=D+1) (bU:∀b∈fp,b<D) (f2:∀b∈fp,qo X pins H b):(dW X (x::fs) scope s.heap.objs.size s H (D::fp)).Ok:=by
 have Ag:∀n∈frees scope,∃c,X.env.cells.lookup n=some c:=λn hn=>I3.ok.has n (.inl (S.free n hn).1);have sub:∀{y:Str}{c:Addr},(El scope X.env).lookup y=some c->X.env.cells.lookup y=some c:=λh=>((sX Ag).mp h).2;refine{I3.ok.mod,S.kind,I3.ok.glob,I3.ok.blt,ak _,λa b c h1 h2=>I3.ok.inj a b c (sub h1) (sub h2),λy hy=>?_,(λ_ _ h=>by cases h),I3.ok.hd,I3.ok.frames,.inl rfl,λb hb=>?_,I3.bs,aC I3.ok.Du I3.sz,λb o e hb=>?_,λb hb hf=>?_,I3.stack,I3.L1}
 ·have q:(relabel scope X.env).names.lookup y=some .cell\/(relabel scope X.env).names.lookup y=some .free:=hy;have nf:scope.names.lookup y=some .free:=by
   rw[xO]at q;cases e:scope.names.lookup y with
   |none=>rw[e]at q;simp at q
   |some k=>
    rw[e]at q;cases k with
    |free=>rfl
    |cell=>
     have hm:(y,NameKind.cell)∈scope.names:=by have:=wx.mp e;obtain⟨l1,l2,z,_⟩:=this;rw[z];simp
     exact absurd rfl (S.Qs _ hm)
    |_=>simp at q
  have hm:y∈frees scope:=by obtain⟨l1,l2,z,_⟩:=wx.mp nf;unfold frees;rw[z];simp
  obtain⟨c,hc⟩:=Ag y hm;exact{c,(sX Ag).mpr ⟨hm,hc⟩}
 ·rcases aG.mp hb with rfl|hb
  ·refine{λz=>?_,λy c h z=>?_}
   ·exact absurd (hs.symm.trans z.symm:b+1=b) (Nat.succ_ne_self b)
   ·obtain⟨v,q⟩:=I2.cell y c (sub h);have:=q.lt;rw[z,hD]at this;exact absurd this (dv _)
  ·refine{λz=>?_,λy c h=>(f2 b hb).2.2.2.2.1 y c (sub h)};have q:b<D+1:=dU (bU b hb);rw[z]at q;exact absurd q (by show ¬s.heap.objs.size<D+1;rw[hs];exact dv _)
 ·have kP:b<X.base.objs.size:=aF e;have h1:=I2.ok.Du;have h2:=I2.sz;rcases aG.mp hb with rfl|hb
  ·rw[hD]at kP;exact absurd (aZ kP (aC h1 h2)) (dv _)
  ·rcases(f2 b hb).2.2.2.1 with z|z
   ·exact I2.ok.F8 b o e z
   ·exact absurd (aZ kP (aC h1 z)) (dv _)
 ·have vS:b∈Ak X.stack:=hf;rcases aG.mp (I2.Iy b vS)with z|z
  ·rcases aG.mp hb with rfl|hb
   ·have:=I2.lt;rw[<-z,hD]at this;exact absurd this (dv _)
   ·exact(f2 b hb).2.1 z
  ·rcases aG.mp hb with rfl|hb
   ·exact I2.aar (BP hD.symm) z
   ·exact(f2 b hb).2.2.1 z
def U6(S:rD X scope x fs fr)(I3:Inv X pins Z H s)
  (ok:(dW X (x::fs) scope s.heap.objs.size s H ex).Ok) (hn:h4.Ns s.heap.objs.size m) (old:∀b o,s.heap.get? b=some o->h4.get? b=some o):
  Inv (dW X (x::fs) scope s.heap.objs.size s H ex) [] (none::slotsOf fr Z) H {s with heap:=h4,toks:=t}:=by
 have Ag:∀n∈frees scope,∃c,X.env.cells.lookup n=some c:=λn hn=>I3.ok.has n (.inl (S.free n hn).1);have sub:∀{y:Str}{c:Addr},(El scope X.env).lookup y=some c->X.env.cells.lookup y=some c:=λh=>((sX Ag).mp h).2;refine{ok,rfl,I3.bare,Un.kept old,{m,hn,λi y v e1 e2 e3=>?_},λy c h=>?_,I3.bj.fresh (ak _),λy c h=>I3.oG y c (sub h),λp hp=>absurd hp (-9),I3.bj.kept old,?_}
 ·cases i with
  |zero=>
   have Hw:(none:Aap)=some v:=by simpa using e2
   cases Hw
  |succ j=>
   have e1':fs[j]?=some y:=by simpa using e1
   have Hw:(slotsOf fr Z)[j]?=some (some v):=by simpa using e2
   unfold slotsOf at Hw;rw[aJ]at Hw;cases hk:fr[j]? with
   |none=>rw[hk]at Hw;cases Hw
   |some k=>
    rw[hk]at Hw;have e4:(Z[k]?).getD none=some v:=by simpa using Hw
    have e5:Z[k]?=some (some v):=by
     cases q:Z[k]? with
     |none=>rw[q]at e4;cases e4
     |some z=>rw[q]at e4;exact cc some e4
    obtain⟨n1,n2⟩:=S.slots j y k e1' hk;obtain⟨m0,_,hl⟩:=I3.loc;obtain⟨u,ru,l⟩:=hl k y v n1 e5 (.inr (.inl (S.free y n2).1));have kc:=(S.free y n2).1;rcases l with⟨l,_⟩|⟨_,c,hc,cl⟩
    ·rw[kc]at l;cases l
    ·refine{u,ru,.inr {.inl ?_,c,(sX Ag).mpr ⟨n2,hc⟩,C6 old cl}};show(relabel scope X.env).names.lookup y=some .cell;have kf:X.env.scope.kind=.function:=I3.ok.kind;rw[xO,(S.free y n2).2,kf,kc];rfl
 ·obtain⟨v,z⟩:=I3.cell y c (sub h);exact{v,C6 old z}
 ·show(none::slotsOf fr Z).length=(x::fs).length;simp[slotsOf,S.len]
abbrev lobj(vs:Aag)(k:Nat):Obj:={cls:=.type "list",data:=.seq vs.toArray k}
theorem LK:∀(xs:Aao)(us:Aag),xs.length=us.length->(∀(j:Nat)(x:V)(u:Value),xs[j]?=some x->us[j]?=some u->RelV x u)->Vals xs us
 |[],[],_,_=>.nil
 |[],_::_,h,_=>by cases h
 |_::_,[],h,_=>by cases h
 |x::xs,u::us,h,f=>.cons (f 0 x u rfl rfl) (LK xs us (by simpa using h) λj a b e1 e2=>f (j+1) a b (by simpa using e1) (by simpa using e2))
def ve(h:zm k v=true):RelV (kV k) v:=by
 rcases g9 h with⟨i,t,rfl,rfl⟩|⟨x,t,rfl,rfl⟩
 ·exact⟨t,rfl⟩
 ·exact⟨t,rfl⟩
def range_all(bs:List Bool):((List.range bs.length).all λi=>(bs[i]?).getD true)=bs.all id:=by
 rw[iu,dQ,dQ];constructor
 ·intro h b hb;obtain⟨i,hi⟩:=eT.mp hb;have:=h i (c8.mpr (ao.mp hi).1);rw[hi]at this;exact this
 ·intro h i hi;have bU:=c8.mp hi;rw[aq bU];exact h _ (iV bU)
def Gu(hc:X.calm=true):jU X (.type "list") (λxs H Q=>∃a kvs,xs=[.ref a]/\H a=some (.dK kvs)/\∀l,H l=none->Q (.ref l) (upd H l (.lst (kvs.map λkv=>kV kv.1)))):=by
 intro pins s Z H xs us Q I r h;obtain⟨a,kvs,rfl,ha,q⟩:=h;obtain⟨u,rfl,ru⟩:=l9 r;cases ru;obtain⟨hz,lo,vs,rel,o,es,ep,m⟩:=uY I.bj ha;have at':s.heap.DictAt (bz X.prog X.w) a vs ep:=⟨o,es,m⟩;have hl:kvs.length=vs.length:=rel.length;have hk:kvs.map (·.1)=vs.map (·.1):=rel.keys;refine PySem.W.kdl_call (PySem.W.kdl_dict lo) (I.ok.hd hc) at' (by rw[<-hl];exact hz) λh' tk uf c' kp e it=>?_;have rv:Vals (kvs.map λkv=>kV kv.1) uf.toList:=by
  refine LK _ _ (by simp[it.1,hl]) λj x v e1 e2=>?_;obtain⟨k,y,e3,e4⟩:=it.2 j v (by rw[<-bB];exact e2);have e5:(kvs.map (·.1))[j]?=some k:=by rw[hk,aJ,e3];rfl
  rw[aJ]at e1 e5;cases e6:kvs[j]? with
  |none=>rw[e6]at e1;cases e1
  |some p=>
   rw[e6]at e1 e5;obtain rfl:kV p.1=x:=bS e1;obtain rfl:p.1=k:=bS e5;exact ve e4
 exact{.ref s.heap.objs.size,_,I.laid (t':=tk) kp (ak _) (show dC X.prog X.w _ h' _ (.lst _)from{by rw[ag];exact hz,uf.toList,c',rv,by simpa using e}),rfl,q _ I.fresh}
def yy(hc:X.calm=true):jU X (.builtin "all") (λxs H Q=>∃(a:Addr)(bs:List Bool),xs=[.ref a]/\bo X.K H a (bs.map V.bl)/\Q (.bl (bs.all id)) H):=by
 intro pins s Z H xs us Q I r h;obtain⟨a,bs,rfl,ha,q⟩:=h;obtain⟨u,rfl,ru⟩:=l9 r;cases ru;obtain⟨aX,rv,p,hz⟩:=I.list ha;have hl:aX.length=bs.length:=by have:=rv.length;simpa using this.symm
 have h9:a≠s.heap.objs.size:=by obtain⟨o,n,e,_⟩:=id p;exact aH (aF e)
 refine call_all_walk (kZ p.isList ?_);refine{s.heap.objs.size,_,_,aX.toArray.size,_,_,λi=>(bs[i]?).getD true,rfl,Walks.list (A:=X.A.in1) (show X.A.in1.handled=none from I.ok.hd hc) s.heap.objs.size a h9 aX.toArray,{{_,aE _ rfl,rfl,rfl},p.isList.at λo e=>ah _ e},?_,λh' tk kp=>?_}
 ·intro i v s' Q' E' hP hQ;have hP':aX[i]?=some v:=by simpa using hP
  have hi:i<bs.length:=by rw[<-hl];exact(ao.mp hP').1
  have e1:(bs.map V.bl)[i]?=some (.bl bs[i]):=by rw[aJ,aq hi];rfl
  obtain⟨u,hu,ru⟩:=rv.get e1;rw[hP']at hu;cases hu;cases ru;refine iw ?_;have e2:(bs[i]?).getD true=bs[i]:=by rw[aq hi];rfl
  rw[<-e2];exact hQ
 ·refine{.bl (bs.all id),H,I.kept (t':=tk) λb o e=>kp b o (by simpa using aH (aF e)) (ah _ e),?_,q};show Value.bool _=Value.bool _;rw[aI,hl,range_all]
def mN:jU X (.builtin "isinstance") (λxs H Q=>∃x n t b,xs=[x,.ty n]/\qh X.K H x t/\kitOne X.K t (.type n)=some b/\Q (.bl b) H):=by intro pins s Z H xs us Q I r h;obtain⟨x,n,t,b,rfl,ty,e,q⟩:=h;obtain⟨u,w',rfl,ru,pq⟩:=vals2 r;cases pq;exact QT I ru ty e λtk=>{.bl b,H,I.tok tk,rfl,q}
inductive XG(x:V)(vs:Aao)(H:Hp)(Q:VK):Prop
 |mk a b (_:x=.str a) (_:vs=[.str b]) (_:Q (.bl (Txt.startswith a b)) H)
def HM:SA X "str.startswith" XG:=by intro pins s Z H x vs v us Q I rx rv h;obtain⟨a,b,rfl,rfl,q⟩:=h;obtain⟨t,rfl⟩:=rx;obtain⟨u,rfl,ru⟩:=rv.one;obtain⟨t',rfl⟩:=ru;exact call_gives F.slot_str_startswith (oy s a t) F.entry_str_startswith (F.args_str_startswith_2 _ _) (gives_str_startswith a b t t') {.bl _,H,I,rfl,q}
inductive acT(x:V)(lo:Option Int)(hi:Option Int)(H:Hp)(Q:VK):Prop
 |mk z (_:x=.str z) (_:z.length<=sizeLine) (_:Q (.str (Txt.slice z lo hi)) H)
def ZJ:Nk X acT:=by
 intro pins s Z H x v vl vu lo hi sl Q I rx hs pl pu h;obtain⟨z,rfl,hz,q⟩:=h;obtain⟨t,rfl⟩:=rx;cases pl with
 |none=>
  cases pu with
  |none=>exact{"str",_,F.slot_str_getitem.lookup,oy _ _ _,kD (l:=none) (u:=none) (st:=none) hs rfl (-41)}
  |int j tj=>exact{"str",_,F.slot_str_getitem.lookup,oy _ _ _,kD (l:=none) (u:=some (j,tj)) (st:=none) hs rfl (-41)}
 |int i ti=>
  cases pu with
  |none=>exact{"str",_,F.slot_str_getitem.lookup,oy _ _ _,kD (l:=some (i,ti)) (u:=none) (st:=none) hs rfl (-41)}
  |int j tj=>exact{"str",_,F.slot_str_getitem.lookup,oy _ _ _,kD (l:=some (i,ti)) (u:=some (j,tj)) (st:=none) hs rfl (-41)}
def acA(_i j:Int):Prop:=0<j/\j.natAbs.log2<9000
def TC:jZ X (binaryOp .FloorDiv) (rI acA λi j=>.int (i/j)):=Qj λi j _ _ _ _ _ hc q=>by have h1:(0:Int)<j:=hc.1;exact floordiv_int ∅ (by rw[uh i ∅];exact q) (.inl (PyProof.noPylong_of_log2 hc.2))
mutual
def Dt(K:Frag)(H:Hp):PyData->V->Prop
 | .none,x=>x=.cI
 | .bool b,x=>x=.bl b
 | .int i,x=>x=.int i
 | .str z,x=>x=.str z
 | .list ds,x=>∃a xs,x=.ref a/\bo K H a xs/\kU K H ds xs
 | .tuple ds,x=>∃a xs,x=.ref a/\bx K H a xs/\kU K H ds xs
 | .dict _,_=>False
def kU(K:Frag)(H:Hp):List PyData->Aao->Prop
 |[],xs=>xs=[]
 |d::ds,xs=>∃x r,xs=x::r/\Dt K H d x/\kU K H ds r
end
mutual
theorem kW(I:Inv X pins Z H s):∀(d:PyData)(x:V)(v:Value),Dt X.K H d x->RelV x v->∃as,Reads s.heap v d as
 | .none,x,v,h,r=>by rw[Dt]at h;subst h;cases r;exact{_,.none}
 | .bool b,x,v,h,r=>by rw[Dt]at h;subst h;cases r;exact{_,.bool b}
 | .int i,x,v,h,r=>by rw[Dt]at h;subst h;obtain⟨t,rfl⟩:=r;exact{_,.int i t}
 | .str z,x,v,h,r=>by rw[Dt]at h;subst h;obtain⟨t,rfl⟩:=r;exact{_,.str z t}
 | .list ds,x,v,h,r=>by rw[Dt]at h;obtain⟨a,xs,rfl,hq,ha⟩:=h;cases r;obtain⟨aX,rv,⟨o,n,e,c,_,d⟩,_⟩:=I.list hq;obtain⟨as,ra⟩:=xo I ds xs aX ha rv;exact{_,.list e c d (by simpa using ra)}
 | .tuple ds,x,v,h,r=>by rw[Dt]at h;obtain⟨a,xs,rfl,hq,ha⟩:=h;cases r;obtain⟨aX,rv,⟨o,e,c,n,d⟩,_⟩:=I.tuple hq;obtain⟨as,ra⟩:=xo I ds xs aX ha rv;exact{_,.tuple e c d (by simpa using ra)}
 | .dict _,x,v,h,r=>by rw[Dt]at h;exact h.elim
theorem xo(I:Inv X pins Z H s):∀(ds:List PyData)(xs:Aao)(vs:Aag),kU X.K H ds xs->Vals xs vs->∃as,ReadsAll s.heap vs ds as
 |[],xs,vs,h,r=>by rw[kU]at h;subst h;cases r;exact{_,.nil}
 |d::ds,xs,vs,h,r=>by
  rw[kU]at h;obtain⟨x,r',rfl,h1,h2⟩:=h;cases r with
  |cons r1 r2=>
   obtain⟨as,q1⟩:=kW I d x _ h1 r1;obtain⟨bs,q2⟩:=xo I ds r' _ h2 r2;exact{_,.cons q1 q2}
end
inductive Z4(K:Frag)(neg:Bool)(x:V)(y:V)(H:Hp)(Q:VK):Prop
 |mk d e (_:Dt K H d x) (_:Dt K H e y) (_:SeqAt.shaped d=true) (_:SeqAt.shaped e=true) (_:Q (.bl (if neg then !PyData.eqv d e else PyData.eqv d e)) H)
def aan(hu:X.A.units+64<cLine):jZ X (compareOp .Eq) (Z4 X.K false):=by intro pins s Z H x y v u Q I rx ry h;obtain⟨d,e,h1,h2,h3,h4,q⟩:=h;obtain⟨as,r1⟩:=kW I d x v h1 rx;obtain⟨bs,r2⟩:=kW I e y u h2 ry;exact eq_dataH r1 r2 h3 h4 hu {.bl _,H,I,rfl,q}
def aak(hu:X.A.units+64<cLine):jZ X (compareOp .NotEq) (Z4 X.K true):=by intro pins s Z H x y v u Q I rx ry h;obtain⟨d,e,h1,h2,h3,h4,q⟩:=h;obtain⟨as,r1⟩:=kW I d x v h1 rx;obtain⟨bs,r2⟩:=kW I e y u h2 ry;exact ne_dataH r1 r2 h3 h4 hu {.bl _,H,I,rfl,q}
theorem Fy{K:Frag}:∀zs:Aah,kU K H (zs.map PyData.str) (zs.map V.str)
 |[]=>by rw[jl,kU];rfl
 |z::r=>by rw[aR,aR,kU];exact{_,_,rfl,by rw[Dt],Fy r}
theorem Di:∀xs ys:Aah,PyData.eqvAll (xs.map PyData.str) (ys.map PyData.str)=decide (xs=ys)
 |[],[]=>by simp[PyData.eqvAll]
 |[],_::_=>by simp[PyData.eqvAll]
 |_::_,[]=>by simp[PyData.eqvAll]
 |a::r,b::t=>by simp only[aR,PyData.eqvAll,PyData.eqv,Di r t];by_cases h:a=b<;>by_cases h':r=t<;>simp[h,h']
theorem zk:∀zs:Aah,(∀z∈zs,PyData.strOk z=true)->PyData.canLayAll0 (zs.map PyData.str)=true
 |[],_=>rfl
 |z::r,h=>by have h1:=h z ax;have h2:=zk r λy hy=>h y (az _ hy);simp[PyData.canLayAll0,PyData.canLay0,h1,h2]
theorem qY:∀zs:Aah,PyData.depthAll (zs.map PyData.str)=0
 |[]=>rfl
 |_::r=>by simp[PyData.depthAll,PyData.depth,qY r]
def OW(osc:Scope)(N:Aah)(scope:Scope)(x:Str)(fs:Aah)(fr:List Nat):Bool:=
 scope.kind==.function&&scope.names.lookup x==some .local&&scope.names.all (λy=>!(y.2==.local)||scope.names.lookup y.1==some .local)&&scope.names.all (λy=>!(y.2==.cell))&&
  (frees scope).all (λn=>osc.names.lookup n==some .cell&&scope.names.lookup n==some .free)&&decide ((x::fs).Nodup)&&fr.length==fs.length&&
  (List.range fs.length).all (λj=>match fs[j]?,fr[j]? with|some y,some k=>N[k]?==some y&&decide (y∈frees scope)|_,_=>false)
end
def dy(h:OW X.env.scope X.N scope x fs fr=true:=by kernel_rfl):rD X scope x fs fr:=by
 unfold OW at h;simp only[cE]at h;obtain⟨⟨⟨⟨⟨⟨⟨h1,h2⟩,h3⟩,h4⟩,h5⟩,h6⟩,h7⟩,h8⟩:=h;refine{iE h1,iE h2,λy hy e=>?_,λy hy e=>?_,λn hn=>?_,bw h6,iE h7,λj y k e1 e2=>?_}
 ·have:=dQ.mp h3 y hy;rw[e]at this;simpa using this
 ·have:=dQ.mp h4 y hy;rw[e]at this;simp at this
 ·have:=dQ.mp h5 n hn;rw[cE]at this;exact{iE this.1,iE this.2}
 ·have:=dQ.mp h8 j (c8.mpr (ao.mp e1).1);rw[e1,e2]at this;simp only[cE]at this;exact{iE this.1,bw this.2}
def eG(P:Program)(w:World)(K:Frag)(mg:Aad)(base:Heap)(k:Nat)(x:Str)(ps:Aah)(sp:Sp):Prop:=
 ∃f fd,dh P w K mg base fW k f fd ps sp/\mg x=some (.ref f)/\keepIn K (.ref f)=true/\Binds K fd ps []
def cl(D:eG X.prog X.w X.K X.mg X.base k x ps sp)(hr:ig j X.A)(ha:PA X (e::es) t)(hk:k<=j:=by decide)(hg:Gl X x:=by rfl)
  (Bt:(-27)=false:=by decide) (he:starEach (e::es) X.env=(false,eval e X.env)::starEach es X.env:=by rfl) (qU:(-30).any (·.1)=false:=by rfl):
  PE X (-66) (VB sp [] E0 t):=by
 obtain⟨f,fd,F,m,kp,b⟩:=D;exact XY F (hr.mono hk) hg m kp b .nil NS ha Bt he qU
def E8(l:Addr)(items:Aal)(n:Nat)(b:Addr)(dd:Aak)(sl:Array (Option Value))(yc:Aal)(n2:Nat)(hs0:¬(!items.isEmpty&&Builtin.List.listTooLong (items.size+yc.size))=true)(wR:items.size<=sizeLine)(kN:items.size+yc.size<=sizeLine+1):
  Meets (Builtin.«list.extend» {[.ref l,.ref b],[]}) (λ_ R s=>s.heap.get? l=some {cls:=.type "list",dict:=none,data:=.seq items n,slots:=#[]}/\s.heap.get? b=some {cls:=.type "tuple",dict:=dd,data:=.seq yc n2,slots:=sl}/\R (.ok (.ret Value.none)) {s with heap:=s.heap.update l (Obj.mapSeq λx=>x++yc),toks:=s.toks}):=
 .of_wp λprog w A R s h=>by
  obtain⟨hp,g,d,tk,os⟩:=s;obtain⟨hl,hb,h⟩:=h;have oU:(items++yc).size<=sizeLine+1:=by rw[Array.size_append];exact kN
  wp_walk using(jo hl rfl (hz:=wR) (_hz':=oU)),wpAny_loadPart' hl,wpAny_loadPart' hb
  exact⟨_,rfl,h⟩
section
variable{X:Cx}
inductive Tp(K:Frag)(x:V)(vs:Aao)(H:Hp)(Q:VK):Prop
 |mk l b xs zs (_:x=.ref l) (_:vs=[.ref b]) (_:H l=some (.lst xs)) (_:bx K H b zs) (_:xs.length+zs.length<=sizeLine) (_:Q .cI (upd H l (.lst (xs++zs))))
def N6:SD X "list.extend" (Tp X.K):=by
 intro pins s Z H x vs v us Q I rx rv h;obtain⟨l,b,xs,zs,rfl,rfl,hH,hB,hz,q⟩:=h;cases rx;obtain⟨u,rfl,ru⟩:=rv.one;cases ru;obtain⟨z,aX,n,r,hl,e⟩:=I.DZ hH;obtain⟨si,r2,⟨⟨cls,dd,data,sl⟩,e2,yq,n2,hd2⟩,z2⟩:=I.tuple hB;simp only at yq hd2;subst yq hd2;have iX:=r2.length;have hsz:aX.toArray.size+si.toArray.size<=sizeLine:=by rw[aI,aI];lia
 have Ot:¬(!aX.toArray.isEmpty&&Builtin.List.listTooLong (aX.toArray.size+si.toArray.size))=true:=by rw[JD hsz,sO];exact aU
 refine uZ BZ ⟨_,e,rfl⟩ As (zQ _ _)
  (E8 l aX.toArray n b dd sl si.toArray n2 Ot (by rw[aI];lia) ∅) {e,e2,?_}
 refine{.cI,_,I.Ob (its':=aX++si) hH e (-9) (r.append r2) ?_,rfl,q};rw[aK];lia
end
def cut(n:Nat)(C:St->Hp->Prop)(ht:∃t2,lN X (body.drop n) t2/\∀Z H,C Z H->t2 D Z H)
  (hh:∀t2,lN X (body.drop n) t2->∃t,lN X body t/\((∀Z H,C Z H->t2 D Z H)->t D σ0 H0)):∃t,lN X body t/\t D σ0 H0:=by
 obtain⟨t2,p,q⟩:=ht;obtain⟨t,p',q'⟩:=hh t2 p;exact{t,p',q' q}
def aes{B:St->Hp->Prop}(n:Nat)(C:St->Hp->Prop)(ht:∃t2,lN X (body.drop n) t2/\∀Z H,C Z H->t2 D Z H)
  (hh:∀t2,lN X (body.drop n) t2->∃t,lN X body t/\((∀Z H,C Z H->t2 D Z H)->∀Z H,B Z H->t D Z H)):∃t,lN X body t/\∀Z H,B Z H->t D Z H:=by
 obtain⟨t2,p,q⟩:=ht;obtain⟨t,p',q'⟩:=hh t2 p;exact{t,p',q' q}
def Tz(hg:Gl X x)(hm:∃t,X.mg x=some (.int i t))(hd:(-27)=false:=by decide):PE X (.Name x pos) (tC (.int i)):=by obtain⟨t,hm⟩:=hm;exact Mp hg hm ⟨t,rfl⟩ hd
def Tx(hg:Gl X x)(hm:∃t,X.mg x=some (.str z t))(hd:(-27)=false:=by decide):PE X (.Name x pos) (tC (.str z)):=by obtain⟨t,hm⟩:=hm;exact Mp hg hm ⟨t,rfl⟩ hd
section
variable{X:Cx}{K:Frag}
def JV(h:X.K=K:=by rfl):Nl X (Z3 K):=h▸fU
def yb(h:X.K=K:=by rfl):Nl X (Z2 K):=h▸kj
def Bz(h:X.K=K:=by rfl):jU X (.builtin "len") (λxs H Q=>∃x n,xs=[x]/\abB K x H n/\Q (.int n) H):=h▸gz
def t7(h:X.K=K:=by rfl):jZ X (compareOp .NotIn) (rIn K true):=h▸A2
def iy{A B:Hp->Prop}(h:A H):B9 Z H (λb H4=>if b=true then A H4 else B H4):=by show(if true=true then A H else B H);rw[aD rfl];exact h
end
end L2
namespace HT
open PySem PySem.Spec PyProof.Rows
section
variable{prog:Program}{w:World}{A:Around}{E:Aae}{s:Shared}
def Aq{t sl:Addr}{items:Aal}{vl vu:Value}{lo hi:Option Int}{Q:Aae}(ht:IsTup s.heap t items)(hs:s.heap.IsSliceOf sl vl vu .none)(pl:IsPart vl lo)(pu:IsPart vu hi)
  (hw:dB items.size 0 lo=0/\dB items.size items.size hi=items.size) (h:Q (.ref t) s):wpAny (-5) A (getItem (.ref t) (.ref sl)) Q E s:=by
 obtain⟨os,yn,Kq,De⟩:=id hs;have RN:s.TypeIs (.ref sl) "slice":=⟨os,yn,Kq⟩;unfold getItem
 try with_reducible refine bP ?_
 first|refine ae (af ?_)|skip
 refine ae (uo ht.typeIs (-8) ?_);refine ae (wpAny_callSpecial?_slot (name:=Str.ofString "__getitem__") ht.typeIs cx
  (bq cx ht.typeIs rN ?_ (tU _ _)))
 show wpAny _ _ (Builtin.Tuple.tupleItemsOf (.ref t)>>=_) _ _ s;refine ae (zW ht ?_);refine ae (fA RN ?_);rw[aD (-8)];refine ae (vv hs pl pu ?_);have adR:(-18)=true:=by rw[hw.1,hw.2];simp
 show wpAny _ _ (if(-18)=true then _ else _) _ _ s;rw[aD adR];unfold Builtin.Tuple.tupleIsExact;refine ae (ae (fA ht.typeIs ?_));refine af ?_;rw[aD (-8)]
 wp_walk
 exact{_,rfl,af h}
def O6(n:Nat):Builtin.Slice.sliceAdjust none none (-1) (n:Int)=((n:Int) -1,-1):=by unfold Builtin.Slice.sliceAdjust;rfl
def NO(n:Nat):Builtin.Slice.slicePlaces ((n:Int) -1) (-1) (-1)=n:=by
 unfold Builtin.Slice.slicePlaces;rw[au (-8)];split
 ·rw[show -(-1:Int)=1 by decide,Int.ediv_one];lia
 ·lia
def DI{sl:Addr}{n:Nat}{u:Tok}{Q:Int×Int×Nat->Shared->Prop}(hs:s.heap.IsSliceOf sl .none .none (.int (-1) u))(h:Q ((n:Int) -1,-1,n) s):
  wpAny (-5) A (Builtin.Slice.sliceApplied (.ref sl) (pure (n:Int))) Q E s:=by
 obtain⟨os,yn,Kq,De⟩:=id hs;unfold Builtin.Slice.sliceApplied Builtin.Slice.sliceFields;refine ae (ae (bF yn De (x:=.none) rfl (ae (bF yn De (x:=.none) rfl (ae (bF yn De (x:=.int (-1) u) rfl (af ?_)))))));refine ae (slicePart_int ?_);show wpAny _ _ (if((-1:Int)==0)=true then _ else _) _ _ s;rw[au (-8)];refine ae (rV (ae (rV (ae (af ?_)))));show wpAny _ _ (match Builtin.Slice.sliceAdjust none none (-1) (n:Int)with|(lo,hi)=>pure (lo,(-1:Int),Builtin.Slice.slicePlaces lo hi (-1))) _ _ s;rw[O6 n];show wpAny _ _ (pure ((n:Int) -1,(-1:Int),Builtin.Slice.slicePlaces ((n:Int) -1) (-1) (-1))) _ _ s;rw[NO];exact af h
theorem filterMap_some{α β:Type}(f:α->Option β)(g:α->β):∀l:List α,(∀x∈l,f x=some (g x))->l.filterMap f=l.map g
 |[],_=>rfl
 |a::r,h=>by rw[fN,h a ax,aR,filterMap_some f g r λx hx=>h x (az _ hx)]
def Tu(xs:Aal):((List.range xs.size).filterMap λ(k:Nat)=>xs[(((xs.size:Nat):Int) -1+(k:Int)*-1).toNat]?).toArray=xs.toList.reverse.toArray:=by
 refine cc List.toArray ?_;refine o9 λi=>?_;rw[filterMap_some _ (λk=>(xs[xs.size -1 -k]?).getD .none) _ λk hk=>?_]
 ·rw[aJ];by_cases hi:i<xs.size
  ·rw[List.getElem?_range hi,List.getElem?_reverse (by simpa using hi),aQ,bB,bh (show xs.size -1 -i<xs.size by lia)];simp[bh (show xs.size -1 -i<xs.size by lia)]
  ·rw[eU (by simpa using gQ hi),eU (by simpa using gQ hi)];rfl
 ·have Hm:=c8.mp hk;have e:(((xs.size:Nat):Int) -1+(k:Int)*-1).toNat=xs.size -1 -k:=by lia
  rw[e,bh (show xs.size -1 -k<xs.size by lia)];rfl
def Cy{t sl:Addr}{items:Aal}{u:Tok}{Q:Aae}(ht:IsTup s.heap t items)(hs:s.heap.IsSliceOf sl .none .none (.int (-1) u))
  (h:Q (-11) {s with heap:=s.heap.push {cls:=.type "tuple",data:=.seq items.toList.reverse.toArray}})
  (hsz:items.size<=sizeLine):wpAny (-5) A (getItem (.ref t) (.ref sl)) Q E s:=by
 have uU:sizeOk (.seq items.toList.reverse.toArray):=by show items.toList.reverse.toArray.size<=sizeLine;rw[aI,rR,aQ];exact hsz
 obtain⟨os,yn,Kq,De⟩:=id hs;have RN:s.TypeIs (.ref sl) "slice":=⟨os,yn,Kq⟩;unfold getItem
 try with_reducible refine bP ?_
 first|refine ae (af ?_)|skip
 refine ae (uo ht.typeIs (-8) ?_);refine ae (wpAny_callSpecial?_slot (name:=Str.ofString "__getitem__") ht.typeIs cx
  (bq cx ht.typeIs rN ?_ (tU _ _)))
 show wpAny _ _ (Builtin.Tuple.tupleItemsOf (.ref t)>>=_) _ _ s;refine ae (zW ht ?_);refine ae (fA RN ?_);rw[aD (-8)];refine ae (DI hs ?_);have Br:¬((((items.size:Nat):Int) -1==0&&(-1:Int)==1&&items.size==items.size)=true):=by rw[show((-1:Int)==1)=false by decide];simp
 show wpAny _ _ (if(((items.size:Nat):Int) -1==0&&(-1:Int)==1&&items.size==items.size)=true then _ else _) _ _ s;rw[au Br,Tu]
 first
  |exact ae (m:=Builtin.Tuple.tupleExact _) (bT (af ⟨_,rfl,af h⟩) uU)
  |exact ae (m:=Builtin.Tuple.tupleExact _) (bT (ae (af (af ⟨_,rfl,af h⟩))) uU)
  |exact ae (ae (m:=Builtin.Tuple.tupleExact _) (bT (af (af ⟨_,rfl,af h⟩)) uU))
  |exact ae (ae (m:=Builtin.Tuple.tupleExact _) (bT (af ⟨_,rfl,af h⟩) uU))
def Va(ht:IsTup s.heap t vs.toArray)(hb:IsTup s.heap b ws.toArray)(h0:vs=[]->Q (.ref b) s)
  (h1:vs≠[]->ws=[]->Q (.ref t) s) (h2:vs≠[]->ws≠[]->Q (-11) {s with heap:=s.heap.push {cls:=.type "tuple",data:=.seq (vs++ws).toArray}})
  (hsz:vs.length+ws.length<=sizeLine):wpAny (-5) A (binaryOp .Add (.ref t) (.ref b)) Q E s:=by
 by_cases hv:vs=[]
 ·obtain⟨⟨cls,dd,data,sl⟩,ho,hc,n,hd⟩:=id ht;obtain⟨⟨aet,Na,data2,VG⟩,Ad,yq,n2,hd2⟩:=id hb;simp only at hc hd yq hd2;subst hc hd yq hd2;exact Bw ⟨_,ho,rfl⟩ ⟨_,Ad,rfl⟩ vH zY pM oV (og _ _)
   (tuple_addW0 t b vs.toArray ws.toArray n n2 dd Na sl VG (by simp[hv])) {ho,Ad,h0 hv}
 ·exact YL ht hb hv (h1 hv) (h2 hv) hsz
end
end HT
namespace L2
open PySem PySem.Spec PyProof.Rows
section
variable{X:Cx}
inductive Z0(K:Frag)(x:V)(lo:Option Int)(hi:Option Int)(H:Hp)(Q:VK):Prop
 |mk a xs (_:x=.ref a) (_:bx K H a xs) (_:((HT.dB xs.length 0 lo=0/\HT.dB xs.length xs.length hi=xs.length)->Q (.ref a) H)) (_:(¬(HT.dB xs.length 0 lo=0/\HT.dB xs.length xs.length hi=xs.length)->∀p,H p=none->Q (.ref p) (upd H p (.tup (vU xs lo hi)))))
def Xq:Nk X (Z0 X.K):=by
 intro pins s Z H x v vl vu lo hi sl Q I rx hs pl pu h;obtain⟨a,xs,rfl,hx,q1,q2⟩:=h;by_cases hw:HT.dB xs.length 0 lo=0/\HT.dB xs.length xs.length hi=xs.length
 ·cases rx;obtain⟨aX,r,ht,hz⟩:=I.tuple hx;have hlen:aX.toArray.size=xs.length:=by rw[aI];exact r.length.symm
  refine{"tuple",_,cx.lookup,ht.typeIs,?_};exact HT.Aq ht hs pl pu (by rw[hlen];exact hw) {.ref a,H,I,rfl,q1 hw}
 ·exact ZI pins s Z H (-49) v vl vu lo hi sl Q I rx hs pl pu {a,xs,rfl,hx,hw,q2 hw}
theorem Vals.rev:∀{xs:Aao}{us:Aag},Vals xs us->Vals xs.reverse us.reverse
 |_,_,.nil=>.nil
 |_,_,.cons r t=>by rw[lq,lq];exact Vals.append (Vals.rev t) (.cons r .nil)
def acF(K:Frag)(te:TE)(ts:TE):TE:=λZ H Q=>te Z H λx H1=>ts Z H1 λy H2=>y=.int (-1)/\∃a xs,x=.ref a/\bx K H2 a xs/\∀p,H2 p=none->Q (.ref p) (upd H2 p (.tup xs.reverse))
def Z9{e st:Expr}{te ts:TE}{p2 pos:Pos}(he:PE X e te)(gq:PE X st ts):PE X (.Subscript e (.Slice none none (some st) p2) pos) (acF X.K te ts):=by
 intro pins s Z H Q I h;refine zJ (cX (he pins s Z H _ I h) λv s1 x H1 I1 r1 q1=>?_);refine wpAny_Slice ?_;rw[Am];refine af (af ?_);rw[evalPart_some];refine cX (gq pins s1 Z H1 _ I1 q1) λvst s3 y H3 I3 r3 adG=>?_;obtain⟨ey,a,xs,ex,hx,q⟩:=adG;subst ey ex;obtain⟨u,rfl⟩:=r3;cases r1;have I4:Inv X pins Z H3 {s3 with heap:=s3.heap.push {cls:=.type "slice",data:=.fields #[.none,.none,.int (-1) u]}}:=I3.kept (t':=s3.toks) λb ob q=>ah _ q;obtain⟨aX,r,ht,hz⟩:=I4.tuple hx;have hlen:aX.toArray.size=xs.length:=by rw[aI];exact r.length.symm
 show wpAny (-4) X.A (subscriptTail e (.Slice none none (some st) p2) (-49) (.ref s3.heap.objs.size)) (EP X pins Z Q) X.xe {s3 with heap:=s3.heap.push {cls:=.type "slice",data:=.fields #[.none,.none,.int (-1) u]}};refine tail_any (ops:=[.ref a,.ref s3.heap.objs.size]) ht.typeIs cx.lookup (HT.Cy ht (BX ..) ?_ (by rw[hlen];exact hz)) (-43);refine{.ref _,_,I4.laid (t':=s3.toks) (o:=.tup xs.reverse) (λb ob q=>ah _ q) (ak _) ?_,rfl,q _ (I4.bj.fresh (ak _))};exact{by rw[rR];exact hz,_,by simpa using r.rev,xb _ _,_,aE _ rfl,rfl}
inductive NI(K:Frag)(x:V)(y:V)(H:Hp)(Q:VK):Prop
 |mk a b xs ys (_:x=.ref a) (_:y=.ref b) (_:bx K H a xs) (_:bx K H b ys) (_:xs.length+ys.length<=sizeLine) (_:(xs=[]->Q (.ref b) H)) (_:(xs≠[]->ys=[]->Q (.ref a) H)) (_:(xs≠[]->ys≠[]->∀p,H p=none->Q (.ref p) (upd H p (.tup (xs++ys)))))
def Ms:jZ X (binaryOp .Add) (NI X.K):=by intro pins s Z H x y v u Q I rx ry h;obtain⟨a,b,xs,ys,rfl,rfl,ha,hb,hz,q0,q1,q2⟩:=h;cases rx;cases ry;obtain⟨aX,r1,p1,_⟩:=I.tuple ha;obtain⟨si,r2,p2,_⟩:=I.tuple hb;refine HT.Va p1 p2 (λz=>{.ref b,H,I,rfl,q0 (r1.xV.mp z)}) (λn z=>{.ref a,H,I,rfl,q1 (λz=>n (r1.xV.mpr z)) (r2.xV.mp z)}) (λn z=>?_) (by rw[<-r1.length,<-r2.length];exact hz);refine{.ref s.heap.objs.size,_,I.laid (t':=s.toks) (o:=.tup (xs++ys)) (λb ob q=>ah _ q) (ak _) ?_,rfl,q2 (λz=>n (r1.xV.mpr z)) (λw=>z (r2.xV.mpr w)) _ (-69)};exact{by rw[aK];exact hz,_,r1.append r2,xb _ _,_,aE _ rfl,rfl}
inductive acU(K:Frag)(neg:Bool)(x:V)(y:V)(H:Hp)(Q:VK):Prop
 |mk a b xs (_:x=.ref a) (_:y=.ref b) (_:bo K H a xs) (_:bo K H b []) (_:Q (.bl (if neg then !xs.isEmpty else xs.isEmpty)) H)
def aam(hu:X.A.units<cLine):jZ X (compareOp .Eq) (acU X.K false):=by
 intro pins s Z H x y v u Q I rx ry h;obtain⟨a,b,xs,rfl,rfl,ha,hb,q⟩:=h;cases rx;cases ry;obtain⟨aX,r1,p1,_⟩:=I.list ha;obtain⟨si,r2,p2,_⟩:=I.list hb;cases r2;cases xs with
 |nil=>
  cases r1;exact SeqAt.eq_listAt (e:=λ_=>true) p1.isList p2.isList rfl hu (λj h1 _=>absurd h1 (jx _)) {.bl true,H,I,rfl,q}
 |cons c l=>
  cases r1 with
  |cons r0 r1=>exact SeqAt.eq_list_lengthsAt p1.isList p2.isList (-9) hu {.bl false,H,I,rfl,q}
variable{K:Frag}{a:Addr}{xs:Aao}{fr:List Nat}{tt:TT}{te:TE}{Z:St}{H1:Hp}{R:Addr->Aao->Hp->Prop}
abbrev zS(J:It)(fr:List Nat)(tt:TT)(te:TE)(Z:St)(H1:Hp)(R:Addr->Aao->Hp->Prop):Prop:=
 ∃W:Nat->Nat->Aao->Hp->Prop,(∃m,W 0 m [] H1)/\∀i m ys H2,W i m ys H2->
 (J.stop i H2/\ys.length<=sizeLine/\∀l,H2 l=none->R l ys H2)\/
 (J.go i H2/\ys.length<sizeLine/\∀v H3,J.zU i H2 v H3->tt (some v::slotsOf fr Z) H3 λb H4=>
  if b=true then te (some v::slotsOf fr Z) H4 (λy H5=>∃m',m'<m/\W (i+1) m' (ys++[y]) H5)else∃m',m'<m/\W (i+1) m' ys H4)
def vV(Pv:Nat->Aao->Hp->Prop)(hx:xs.length<sizeLine)(h0:Pv 0 [] H1)(hl:∀i ys H,i<=xs.length->Pv i ys H->bx K H a xs/\ys.length<=i)
  (hs:∀(i:Nat)(x:V)(ys:Aao)(H:Hp)(N:Aao->Hp->Prop),xs[i]?=some x->Pv i ys H->(∀fP H',Pv (i+1) fP H'->N fP H')->
   tt (some x::slotsOf fr Z) H λb H4=>if b=true then te (some x::slotsOf fr Z) H4 (λy H5=>N (ys++[y]) H5)else N ys H4)
  (hd:∀ys H,Pv xs.length ys H->∀l,H l=none->R l ys H):zS (Nm K a) fr tt te Z H1 R:=by
 refine{λi m ys H=>m=xs.length -i/\i<=xs.length/\Pv i ys H,{xs.length,by simp,aP _,h0},?_};rintro i m ys H ⟨rfl,hi,p⟩;obtain⟨q,hy⟩:=hl i ys H hi p;by_cases bU:i<xs.length
 ·refine .inr {{xs,_,q,aq bU},by lia,?_};rintro v H3 ⟨rfl,hv⟩;exact hs i v ys H3 (λfP H'=>∃m',m'<xs.length -i/\m'=xs.length -(i+1)/\i+1<=xs.length/\Pv (i+1) fP H') (hv xs q) p λfP H' p'=>{_,by lia,rfl,bU,p'}
 ·have e:i=xs.length:=by lia
  subst e;exact .inl {{xs,q,ak _},by lia,hd ys H p}
def kQ(Pv:Nat->Aao->Hp->Prop)(hx:xs.length<sizeLine)(h0:Pv 0 [] H1)(hl:∀i ys H,i<=xs.length->Pv i ys H->bo K H a xs/\ys.length<=i)
  (hs:∀(i:Nat)(x:V)(ys:Aao)(H:Hp)(N:Aao->Hp->Prop),xs[i]?=some x->Pv i ys H->(∀fP H',Pv (i+1) fP H'->N fP H')->
   tt (some x::slotsOf fr Z) H λb H4=>if b=true then te (some x::slotsOf fr Z) H4 (λy H5=>N (ys++[y]) H5)else N ys H4)
  (hd:∀ys H,Pv xs.length ys H->∀l,H l=none->R l ys H):zS (K2 K a) fr tt te Z H1 R:=by
 refine{λi m ys H=>m=xs.length -i/\i<=xs.length/\Pv i ys H,{xs.length,by simp,aP _,h0},?_};rintro i m ys H ⟨rfl,hi,p⟩;obtain⟨q,hy⟩:=hl i ys H hi p;by_cases bU:i<xs.length
 ·refine .inr {{xs,_,q,aq bU},by lia,?_};rintro v H3 ⟨rfl,hv⟩;exact hs i v ys H3 (λfP H'=>∃m',m'<xs.length -i/\m'=xs.length -(i+1)/\i+1<=xs.length/\Pv (i+1) fP H') (hv xs q) p λfP H' p'=>{_,by lia,rfl,bU,p'}
 ·have e:i=xs.length:=by lia
  subst e;exact .inl {{xs,q,ak _},by lia,hd ys H p}
variable{P:Program}{w:World}{A:Around}{E:Aae}{z:Shared}
def uR(g:z.heap.IsTupleIter j p k)(gp:z.heap.IsTuple p aX)(gy:aX[k]?=some y)
  (q:∀h',h'.IsTupleIter j p (k+1)->Heap.SameBut j z.heap h'->Q y {z with heap:=h'}):wpAny (-25) A (Builtin.SmallTypes.nextOf (.ref j)) Q E z:=by
 obtain⟨ob,g0,g1,g2⟩:=id g;obtain⟨op,p0,_,np,p2⟩:=gp;unfold Builtin.SmallTypes.nextOf;refine ae (wpAny_callSpecial?_slot g.typeIs jF (bq jF g.typeIs tZ ?_ (sN _)));show wpAny _ _ (field (.ref j) 0>>=_) _ _ z;refine ae (bF g0 g2 rfl ?_);show wpAny _ _ (if(Value.ref p==Value.none)=true then _ else _) _ _ z;rw[au (show ¬((Value.ref p==Value.none)=true)from aU)];refine ae (bF g0 g2 rfl ?_);refine ae (bW p0 p2 ?_);simp only[cV,gy];refine ae (fI g0 g2 (-9) (af {y,rfl,af (q _ ?_ (bY ..))}));exact{_,cy _ g0 (yC (om g2 _)),(CG ..).trans g1,by rw[om g2];simp[rawInt]}
def xW(hd:A.handled=none)(g:z.heap.IsTupleIter j p k)(gp:z.heap.IsTuple p aX)(gy:aX[k]?=none)
  (q:∀h' e,Heap.ExtBut j z.heap h'->(∃o,h'.get? e=some o/\o.cls=.type "StopIteration")->E (.ref e) {z with heap:=h'}):wpAny (-25) A (Builtin.SmallTypes.nextOf (.ref j)) Q E z:=by
 obtain⟨ob,g0,g1,g2⟩:=id g;obtain⟨op,p0,_,np,p2⟩:=gp;unfold Builtin.SmallTypes.nextOf;refine ae (wpAny_callSpecial?_slot g.typeIs jF (bq jF g.typeIs tZ ?_ (sN _)));show wpAny _ _ (field (.ref j) 0>>=_) _ _ z;refine ae (bF g0 g2 rfl ?_);show wpAny _ _ (if(Value.ref p==Value.none)=true then _ else _) _ _ z;rw[au (show ¬((Value.ref p==Value.none)=true)from aU)];refine ae (bF g0 g2 rfl ?_);refine ae (bW p0 p2 ?_);simp only[cV,gy];refine ae (fQ (ae (fI g0 g2 (-9) ?_)));refine ae ?_;refine ae (bT ?_ (by size_fits));refine ae (CM (by first|rfl|(simp only[firstArgMember];rfl)) ?_);refine bT ?_ (by size_fits);refine ae (wpAny_handled ?_)
 first|rw[show A.in1.handled=none from hd]|rw[hd]
 refine ae (af (wpAny_throw ?_));exact q _ _ (((bY ..).extBut.push _).push _) {_,aE _ rfl,rfl}
end
section
variable{X:Cx}{pins:Aac}{Z:St}{H:Hp}{s:Shared}{h':Heap}
def Inv.Xi(I:Inv X pins Z H s)(k:∀b o,b≠e->b≠j->s.heap.get? b=some o->h'.get? b=some o)(fe:qo X pins H e)(fj:qo X pins H j)
  (hp:s.heap.objs.size<=p) (ht:IsTup h' p us.toArray/\∃o,h'.get? p=some o/\o.dict=none) (r:Vals xs us) (hz:xs.length<=sizeLine):Inv X pins Z (upd H p (.tup xs)) {s with heap:=h',toks:=t'}:=by
 have hn:=I.bj.fresh hp;have fp:=I.sr hp hn;have nH:∀b u,H b=some u->b≠e/\b≠j/\b≠p:=λb u g=>{(λz=>by rw[z,fe.1]at g;cases g),(λz=>by rw[z,fj.1]at g;cases g),λz=>by rw[z,hn]at g;cases g};refine I.step (ch:=[e,j,p]) (λb hb=>?_) (λb o _ _ hc g _=>k b o (-72) (-72) g) (λb o _ _ hc g _=>{o.slots,k b o (-72) (-72) g})
  (λb o hc g n=>by rw[aw λz=>hc (by simp[z])];exact n) (λb o hc g=>{o,k b o (-72) (-72) g})
  (λb ys g=>by rw[aw (nH b _ g).2.2];exact g) (λb o u g=>by rw[aw (nH b _ g).2.2];exact g) (λb ps g=>{#[],by rw[aw (nH b _ g).2.2,g];simp}) (λm hm=>?_) (λb u g=>?_) I.bare
 ·have kP:b=e\/b=j\/b=p:=by simpa using hb
  rcases kP with rfl|rfl|rfl
  ·exact{fe.2.2.2.1,fe.2.1,fe.2.2.2.2.1,fe.2.2.2.2.2}
  ·exact{fj.2.2.2.1,fj.2.1,fj.2.2.2.2.1,fj.2.2.2.2.2}
  ·exact{fp.2.2.2.1,fp.2.1,fp.2.2.2.2.1,fp.2.2.2.2.2}
 ·obtain⟨o,es,ep,ho,r'⟩:=hm;exact{o,es,ep,k _ o (bV fe.2.1) (bV fj.2.1) ho,r'}
 ·by_cases hb:b=p
  ·subst hb;rw[ar]at g;cases g;exact⟨hz,us,r,ht⟩
  ·rw[aw hb]at g;refine(I.bj b u g).jD (λc v hc q=>?_) (λc q=>?_) λc ys q=>?_
   ·rcases hc with z|z
    ·rw[z];rw[z]at q;exact k b v (nH b _ g).1 (nH b _ g).2.1 q
    ·exact k c v (nH c _ z).1 (nH c _ z).2.1 q
   ·rw[aw (nH c _ q).2.2];exact q
   ·rw[aw (nH c _ q).2.2];exact q
def R1{D:Addr->Prop}{E:Aae}{e j:Addr}{fp:Aaj}{n i:Nat}{Pv:Nat->Value->Prop}{St':Nat->Heap->Prop}{old:Value}{elts:List Expr}{kk:Nat}{ps:Pos}{y:V}
  (W:Draws X.prog X.w X.A.in1 j fp n Pv St') (he:IsEnum s.heap e j i old) (st:St' i s.heap) (hi:i<n) (h9:e≠j) (hef:e∉fp) (I:Inv X pins Z H s) (fe:qo X pins H e) (fj:qo X pins H j) (hP:∀u,Pv i u->RelV y u):
  wpAny (-4) X.A (pyNext (.ref e)) (λr s1=>∃u,r=some u/\
   wpAny (-4) X.A (letOwnedTupleGo (.Tuple elts kk ps) (.ref e) u) (λ_ s2=>∃p,u=.ref p/\H p=none/\Inv X pins Z (upd H p (.tup [.int i,y])) s2/\(∃ac2,IsEnum s2.heap e j ((i:Int)+1) ac2)/\St' (i+1) s2.heap/\e≠p/\j≠p) E s1) E s:=by
 refine wpAny_pyNext_enum_itemD W he st hi h9 hef λx h1 tk hx ho st1 hT hsz hk=>?_;refine{_,rfl,wpAny_letOwnedTupleGo_enum ho λh2 Fm kN=>?_};have hel:=aF he;have lX:j<s.heap.objs.size:=by obtain⟨o,z⟩:=W.live _ _ st;exact aF z
 have Oj:=kN;have hT2:IsTup h2 s.heap.objs.size ([.int (i:Int) tk,x]:Aag).toArray/\∃o,h2.get? s.heap.objs.size=some o/\o.dict=none:={{_,Oj.extBut _ _ (bu hel) hT,rfl,_,rfl},_,Oj.extBut _ _ (bu hel) hT,rfl};refine{s.heap.objs.size,rfl,I.bj.fresh (ak _),I.Xi (λb o n1 n2 g=>Oj.extBut b o n1 (hk b o n1 n2 g)) fe fj (ak _) hT2 (.cons ⟨tk,rfl⟩ (.cons (hP x hx) .nil)) (-71),⟨_,Fm⟩,?_,aH hel,aH lX};exact W.frame _ _ _ st1 λb hb o g=>Oj.extBut b o (λz=>hef (z▸hb)) g
end
def SE(K:Frag)(a:Addr):It:=
 {λi H=>∃xs x,bo K H a xs/\xs[i]?=some x,λi H x H'=>∃p y,x=.ref p/\H p=none/\H'=upd H p (.tup [.int i,y])/\∀xs,bo K H a xs->xs[i]?=some y,λi H=>∃xs,bo K H a xs/\xs.length=i}
def Sm{h:Heap}(e:h.get? a=some o)(e':h.get? b=some o')(n:o.cls≠o'.cls):a≠b:=λz=>by rw[z,e']at e;cases e;exact n rfl
def Pn{K:Frag}(a e j:Addr):Turn P w K (.Tuple elts kk ps) (SE K a) [e,j] e (λi h=>(∃old,IsEnum h e j i old)/\h.IsListIter j a i/\e≠j) where
 mem:=by simp
 obj:=λi h st b hb=>by
  obtain⟨⟨old,he⟩,⟨o,g,c,d⟩,_⟩:=st;have kP:b=e\/b=j:=by simpa using hb
  rcases kP with rfl|rfl
  ·exact{_,he,λv z=>by cases z}
  ·exact{o,g,λv z=>by rw[d]at z;cases z}
 keep:=λi h h' st k=>by obtain⟨⟨old,he⟩,⟨o,g,r⟩,n⟩:=st;exact{{old,k e (-9) _ he},{o,k j (-9) o g,r},n}
 item:=by
  intro X hP hw hK hc i pins s Z H E I hf st hg;subst hP hw hK;obtain⟨xs,x,hq,hx⟩:=hg;obtain⟨aX,rv,pl,hz⟩:=I.list hq;obtain⟨⟨old,he⟩,hj,h9⟩:=st;have hl:=rv.length;have hil:=(ao.mp hx).1;obtain⟨o0,g0,c0,_⟩:=id pl.isList;obtain⟨o1,g1,c1,_⟩:=id hj;have nae:=Sm g0 he (by rw[c0];show Value.type "list"≠Value.type "enumerate";decide);have naj:=Sm g0 g1 (by rw[c0,c1];decide);have W:=Draws.list (prog:=X.prog) (w:=X.w) (show X.A.in1.handled=none from I.ok.hd hc) j a naj aX.toArray;refine iC (R1 (D:=λ_=>True) (y:=x) W he {hj,pl.isList} (by rw[aI];lia) h9 (by simp[h9,nae.symm]) I (hf e (-9)) (hf j (-9)) λu hu=>?_) λr s1 ⟨u,er,h1⟩=>{u,er,iC h1 λ_ s2 ⟨p,eu,hp,I2,Fm,qq,n1,n2⟩=>?_}
  ·obtain⟨u',qR,ru⟩:=rv.get hx;have yl:aX[i]?=some u:=by simpa using hu
   rw[yl]at qR;cases qR;exact ru
  ·subst eu;refine{.ref p,_,I2,rfl,{p,x,rfl,hp,rfl,λys hy=>by rw[I.D4 hy hq];exact hx},{Fm,qq.1,h9},λb hb=>?_};have kP:b=e\/b=j:=by simpa using hb
   rcases kP with rfl|rfl
   ·rw[aw n1];exact(hf b (-9)).1
   ·rw[aw n2];exact(hf b (-9)).1
 done:=by intro X hP hw hK hc i pins s Z H E I hf st hg;subst hP hw hK;obtain⟨xs,hq,hx⟩:=hg;obtain⟨aX,rv,pl,hz⟩:=I.list hq;obtain⟨⟨old,he⟩,hj,h9⟩:=st;have hl:=rv.length;obtain⟨f0,f1,f2,f3,f4,f5⟩:=hf j (-9);exact wpAny_pyNext_enum_end (I.ok.hd hc) he hj pl.isList (by simp;lia) λh' eb=>{rfl,I.turned (λb o hb g=>eb b o hb g) f0 f1 f3 f4 f5}
 self:=λ_ _ _ _ _ st h=>by obtain⟨⟨old,he⟩,_⟩:=st;exact Cu he h
section
variable{X:Cx}{elts:List Expr}{kk:Nat}{ps:Pos}
inductive aaR(K:Frag)(R:It->Hp->Prop)(vs:Aao)(H1:Hp):Prop
 |mk a (_:vs=[.ref a]) (_:(∃xs,bo K H1 a xs)) (_:R (SE K a) H1)
def ach(K:Frag)(ta:TA):TI:=λZ H R=>ta Z H λvs H1=>aaR K R vs H1
def Yu(I:Inv X pins Z H s):∀b∈[s.heap.objs.size+1,s.heap.objs.size],qo X pins H b:=λb hb=>by
 have kP:b=s.heap.objs.size+1\/b=s.heap.objs.size:=by simpa using hb
 rcases kP with rfl|rfl
 ·exact I.sr (eZ _) (I.bj.fresh (eZ _))
 ·exact I.sr (ak _) (-69)
def Ml(hg:Gl X "enumerate")(hm:X.mg "enumerate"=none)(ha:PA X [a] ta)(hs:starEach [a] X.env=[(false,eval a X.env)]:=by rfl):PI X (.Tuple elts kk ps) (.Call (.Name "enumerate" p) [a] [] pos) (ach X.K ta):=by intro pins s Z H R I h;refine FR (qN I hg hm boot_enumerate (dR (-55) hs rfl));obtain⟨l,e,⟨xs,hq⟩,q⟩:=q1;subst e;obtain⟨u,rfl,ru⟩:=l9 r1;cases ru;obtain⟨aX,rv,pl,hz⟩:=I1.list hq;refine call_enumerate_list pl.isList λh' he hj _ hk=>?_;have I2:=I1.kept (t':=s1.toks) hk;refine Cu he ?_;exact{_,_,_,_,H1,rfl,I2,Pn l _ s1.heap.objs.size,{⟨_,he⟩,hj,Nat.succ_ne_self _},Yu I1,q}
def Kz{K:Frag}{g:TG}{tb:TS}{D:Ends}(Pv:Nat->St->Hp->Prop)(h0:Pv 0 Z H)(hl:∀i Z H,i<=xs.length->Pv i Z H->bo K H a xs)
  (hs:∀i x p Z H,xs[i]?=some x->Pv i Z H->H p=none->g (.ref p) Z (upd H p (.tup [.int i,x])) λσ2 H2=>tb {D with nx:=Pv (i+1),ct:=Pv (i+1),bk:=D.nx} σ2 H2) (hd:∀Z H,Pv xs.length Z H->D.nx Z H):
  ∃W:Nat->Nat->St->Hp->Prop,(∃m,W 0 m Z H)/\∀i m Z H,W i m Z H->
   ((SE K a).stop i H/\D.nx Z H)\/((SE K a).go i H/\∃N:St->Hp->Prop,(∀σ' H',N σ' H'->∃m',m'<m/\W (i+1) m' σ' H')/\∀x H',(SE K a).zU i H x H'->g x Z H' λσ2 H2=>tb {D with nx:=N,ct:=N,bk:=D.nx} σ2 H2):=by
 refine{λi m Z H=>m=xs.length -i/\i<=xs.length/\Pv i Z H,{xs.length,by simp,aP _,h0},?_};rintro i m Z H ⟨rfl,hi,p⟩;have q:=hl i Z H hi p;by_cases bU:i<xs.length
 ·refine .inr {{xs,xs[i],q,by simp[bU]},Pv (i+1),λσ' H' p'=>{xs.length -(i+1),by lia,rfl,bU,p'},λx H' y=>?_};obtain⟨r,z,rfl,hr,rfl,y⟩:=y;exact hs i z r Z H (y xs q) p hr
 ·have e:i=xs.length:=by lia
  subst e;exact .inl {⟨xs,q,rfl⟩,hd Z H p}
def Ny(j:Nat)(t:TE):TS:=λD Z H=>t Z H λv H1=>D.nx (Z.set j (some v)) H1
variable{K:Frag}
def IH(h:X.K=K:=by rfl):Nk X (ZZ K):=h▸Xr
variable{prog:Program}{w:World}{A:Around}{E:Aae}
def Fz:typeLookup (.type "list") "__getattr__"=pure none:=by rw[js,fV];kernel_rfl
def KI:typeLookup (.type "list") "keys"=pure none:=by rw[js,fV];kernel_rfl
def YB{sl}{os:OsState}(hx:h.get? a=some {cls:=.type "list",dict:=none,data:=.seq aX n,slots:=sl})(hA:A.handled=none)
  (k:∀h' tk e,Heap.NewAttrErr h h' e (-49) "keys"->E (.ref e) ⟨h',g,d,tk,os⟩):
  wpAny (-5) A (Builtin.«object.__getattribute__» {[.ref a,.str "keys" u],[]}) Q E ⟨h,g,d,t,os⟩:=by
 have hT:(⟨h,g,d,t,os⟩:Shared).TypeIs (-49) "list":=⟨_,hx,rfl⟩;have f4:=KI;unfold Builtin.«object.__getattribute__»
 repeat (any_goals (first|(assumption)|(wp_step)))
 refine yG hA k ?_;exact attrMsg_fits (-3) (by size_fits)
def YE{sl}{os:OsState}(hx:h.get? a=some {cls:=.type "list",dict:=none,data:=.seq aX n,slots:=sl})(hA:A.handled=none)
  (k:∀h' tk e,Heap.NewAttrErr h h' e (-49) "keys"->R (.error (.ref e)) ⟨h',g,d,tk,os⟩):
  codeAny (-5) A (.call (.builtin "list.__getattribute__") {[.ref a,.str "keys" u],[]}) R ⟨h,g,d,t,os⟩:=
 qZ F.slot_list_getattribute.plain F.entry_list_ga (F.slot_list_getattribute.check _ _ _ _ _ _ _ _ (show(⟨h,g,d,t,os⟩:Shared).TypeIs (-49) "list"from⟨_,hx,rfl⟩) (F.args_list_getattribute_2 _ _) (YB hx hA k))
def acw{sl}{os:OsState}(hx:h.get? a=some {cls:=.type "list",dict:=none,data:=.seq aX n,slots:=sl})(hA:A.handled=none)
  (k:∀h' tk e,Heap.NewAttrErr h h' e (-49) "keys"->E (.ref e) ⟨h',g,d,tk,os⟩):
  wpAny (-5) A (getAttrBy (-49) (.str "keys" u) false) Q E ⟨h,g,d,t,os⟩:=by
 have hT:(⟨h,g,d,t,os⟩:Shared).TypeIs (-49) "list":=⟨_,hx,rfl⟩;have g2:=F.slot_list_getattribute.lookup;have g3:=F.slot_list_getattribute.bind (-49);have f5:=Fz;have f1:=nB
 repeat (any_goals (first|(assumption)|(wp_step)))
 refine YE hx hA λh' tk e ne=>?_;obtain⟨t',u',he⟩:=ne.there;show wpAny (-5) A (getattributeRaised (-49) (.str "keys" u) _ _ _ _ _) _ _ _;unfold getattributeRaised
 repeat (any_goals (first|(assumption)|(wp_step)))
 exact k _ _ _ ne
def YF{sl}{os:OsState}(hx:h.get? a=some {cls:=.type "list",dict:=none,data:=.seq aX n,slots:=sl})(hA:A.handled=none)
  (k:∀h' tk e,Heap.NewAttrErr h h' e (-49) "keys"->Q none ⟨h',g,d,tk,os⟩):
  wpAny (-5) A (getAttr? (-49) "keys") Q E ⟨h,g,d,t,os⟩:=by
 have f1:=nB;unfold getAttr? getAttrBy?
 repeat (any_goals (first|assumption|(with_reducible refine acw hx hA λh' tk e ne=>?_)|wp_step))
 obtain⟨t',u',he⟩:=ne.there
 repeat (any_goals (first|(assumption)|(wp_step)))
 exact k _ _ _ ne
theorem Paired.at':∀{aad:List α}{aac:List β}{i:Nat}{x:α},Paired F aad aac->aad[i]?=some x->∃y,aac[i]?=some y/\F x y
 |_,_,_,_,.nil,e=>by simp at e
 |_,_,0,_,.cons r _,e=>by simp at e;subst e;exact⟨_,rfl,r⟩
 |_,_,i+1,x,.cons _ t,e=>by obtain⟨y,h1,h2⟩:=Paired.at' (i:=i) (x:=x) t (by simpa using e);exact{y,by simpa using h1,h2}
def sA:entryFor table "dict.update.loop"=some Builtin.«dict.update.loop»:=entryFor_of_tree (by kernel_rfl)
def KZ(prog:Program)(w:World)(h0:Heap)(x:Value)(kv:Key×Value):Prop:=∃t o n ku,x=.ref t/\h0.get? t=some o/\o.cls=.type "tuple"/\o.data=.seq #[ku,kv.2] n/\(bz prog w).is kv.1 ku=true
def YC(hA:A.handled=none)(iM:h0.get? d=none)(hi0:h0.get? it=none)(hdi:d≠it)
  (hl:h0.IsList l items.toArray) (hp:Paired (KZ prog w h0) items pairs) (hsz:pairs.length<=sizeLine) (g:Array GenState) (dr:Drawn) (os:OsState)
  (k:∀h' tk,(∀b o,h0.get? b=some o->h'.get? b=some o)->h'.DictOf (bz prog w) d (merged [] pairs)->R (.ok (.ret .none)) ⟨h',g,dr,tk,os⟩):
  ∀(m i:Nat)(h:Heap)(tk:Nat),items.length -i=m->i<=items.length->(∀b o,h0.get? b=some o->h.get? b=some o)->h.IsListIter it l i->h.DictOf (bz prog w) d (merged [] (pairs.take i))->
   codeAny (-5) A (.builtin "dict.update.loop" {[.ref d,.ref it,rawInt i,.none],[]}) R ⟨h,g,dr,tk,os⟩:=by
 intro m;have lp:items.length=pairs.length:=bp hp
 induction m with
 |zero=>
  intro i h tk em hi kp hit hd;have ei:i=items.length:=by lia
  refine dm sA ?_;unfold Builtin.«dict.update.loop»;obtain⟨ol,MO,hlc,nl,hld⟩:=hl;show wpAny _ _ (pyNext (.ref it)>>=_) _ _ _;refine ae (xF (show(A.under _).handled=none from hA) hit {ol,kp _ _ MO,hlc,nl,hld} (by rw[ei];simp) λh' hs=>?_);show wpAny _ _ (Builtin.Dict.addKeywords d []>>=_) _ _ _;refine ae (af (af ?_));rw[ei,lp,aT]at hd;exact k h' _ (λb o hb=>hs b o (λe=>by rw[e,hi0]at hb;cases hb) (kp b o hb)) (hd.extBut hs hdi)
 |succ m ih=>
  intro i h tk em hi kp hit hd;have bU:i<items.length:=by lia
  obtain⟨x,hx⟩:∃x,items[i]?=some x:={_,aq bU};obtain⟨kv,iD,t,o,n,ku,rfl,hto,htc,C7,Rx⟩:=Paired.at' hp hx;refine dm sA ?_;unfold Builtin.«dict.update.loop»;obtain⟨ol,MO,hlc,nl,hld⟩:=hl;show wpAny _ _ (pyNext (.ref it)>>=_) _ _ _;refine ae (xf hit {ol,kp _ _ MO,hlc,nl,hld} (x:=.ref t) (by simpa using hx) λh1 aea wR=>?_);have Bf:∀b o,h0.get? b=some o->h1.get? b=some o:=λb o hb=>(wR.2 b (λe=>by rw[e,hi0]at hb;cases hb)).trans (kp b o hb);have Af:=hd.sameBut wR hdi;refine ae (bP (ae (xE ?_)));unfold Builtin.Dict.pairItems;refine ae (fA (T:="tuple") {o,Bf _ _ hto,htc} ?_);rw[aD (-8)];refine ae (bW (Bf _ _ hto) C7 (af ?_));show wpAny _ _ (holding [ku,kv.2] (dictSet d ku kv.2)) _ _ _;have lm:(merged [] (pairs.take i)).length<=sizeLine:=by have e1:=qa [] (pairs.take i);rw[aL]at e1;simp only[c7]at e1;lia
  refine bP (rJ (hsz:=lm) Rx Af λh2 hd2 kN=>?_);refine af {jn _ (-3),?_};have Ow:h2.IsListIter it l (i+1):=by obtain⟨oi,Hi,r⟩:=aea;exact{oi,(kN.2 it (bV hdi)).trans Hi,r}
  have vO:∀b o,h0.get? b=some o->h2.get? b=some o:=λb o hb=>(kN.2 b (λe=>by rw[e,iM]at hb;cases hb)).trans (Bf b o hb);exact ih (i+1) h2 _ ∅ bU vO Ow (by rw[vK [] pairs i kv iD];exact hd2)
def YD(hA:A.handled=none)(pl:PlainL s.heap p items.toArray)(hp:Paired (KZ prog w s.heap) items pairs)(hsz:pairs.length<=sizeLine)
  (k:∀h' tk,(∀b o,s.heap.get? b=some o->h'.get? b=some o)->h'.DictOf (bz prog w) s.heap.objs.size (merged [] pairs)->Q (-11) {s with heap:=h',toks:=tk}):
  wpAny (-5) A (call (.type "dict") [.ref p]) Q E s:=by
 refine yz (Q₁:=λv1 z1=>v1=.ref s.heap.objs.size/\z1={s with heap:=s.heap.push {cls:=.type "dict",data:=.dict #[]}}) F.kt_called_dict (zO _) CL (kt_code_dict_new _ ⟨rfl,rfl⟩) ?_;rintro v1 z1 ⟨rfl,rfl⟩;obtain⟨pE,g,dr,tk,os⟩:=s;obtain⟨⟨oc,od,oda,zZ⟩,n,ho,hc,MV,hdd⟩:=pl;have hc:oc=.type "list":=hc;have MV:od=none:=MV;have hdd:oda=.seq items.toArray n:=hdd;subst hc MV hdd;have Eb:(pE.push {cls:=.type "dict",data:=.dict #[]}).DictOf (bz prog w) pE.objs.size []:=xc pE;have Fg:=ah {cls:=.type "dict",data:=.dict #[]} ho;refine{Eb.typeIs,B2 _ _,?_};unfold Builtin.«dict.__init__»;refine ae ?_;unfold Builtin.Dict.selfAndRest;refine ae (jr Eb.typeIs (af ?_));show wpAny (-5) _ (Builtin.Dict.updateFrom "dict.__init__" pE.objs.size (.ref p) [] .none) _ _ _;unfold Builtin.Dict.updateFrom;refine ae (fA (T:="list") ⟨_,Fg,rfl⟩ ?_);rw[aD (-8)];refine ae (YF Fg hA λh2 tk2 e ne=>?_);rw[aD (-8)];refine ae (fQ ?_);have Ad:=ne.keeps _ _ Fg;refine ae (kZ (items:=items.toArray) ⟨_,Ad,rfl,n,rfl⟩ ?_);have kp:∀b o,pE.get? b=some o->(h2.push {cls:=.type "list_iterator",data:=.fields #[.ref p,.int 0 0]}).get? b=some o:=λb o hb=>ah _ (ne.keeps _ _ (ah _ hb));have hd2:h2.DictOf (bz prog w) pE.objs.size []:=by obtain⟨o',es,ep,h',r⟩:=Eb;exact{o',es,ep,ne.keeps _ _ h',r}
 have ld:pE.objs.size<h2.objs.size:=by obtain⟨o',es,ep,h',r⟩:=hd2;exact aF h'
 refine af {jn _ (-3),?_};refine YC (l:=p) (d:=pE.objs.size) (it:=h2.objs.size) (items:=items) (h0:=pE) (pairs:=pairs) (show A.in1.handled=none from hA) (ir (ak _)) (ir (br ld)) (aH ld) ⟨_,ho,rfl,n,rfl⟩ hp hsz g dr os (λh' EG C4 qW=>{rfl,k h' EG C4 qW}) items.length 0 _ _ rfl (aP _) kp ?_ (hd2.push _);exact{_,aE _ rfl,rfl,rfl}
end
section
variable{X:Cx}
inductive P8(K:Frag)(xs:Aao)(H:Hp)(Q:VK):Prop
 |mk p ys kvs (_:xs=[.ref p]) (_:bo K H p ys) (_:Paired (λ(y:V)(kv:Key×V)=>∃t,y=.ref t/\H t=some (.tup [kV kv.1,kv.2])) ys kvs) (_:∀d,H d=none->Q (.ref d) (upd H d (.dK (fk [] kvs))))
theorem Jt(ok:jL P w H h):∀{ys:Aao}{us:Aag}{kvs:List (Key×V)},Vals ys us->Paired (λ(y:V)(kv:Key×V)=>∃t,y=.ref t/\H t=some (.tup [kV kv.1,kv.2])) ys kvs->∃ps,Paired (KZ P w h) us ps/\KV kvs ps
 |_,_,_,.nil,.nil=>{[],.nil,.nil}
 |_,_,_,.cons (b:=u) r t,.cons (b:=kv) ⟨a,ea,ha⟩ q=>by
  obtain⟨ps,h1,h2⟩:=Jt ok t q;subst ea;cases(show u=Value.ref a from r);obtain⟨_,aX,ri,⟨o,e1,e2,n,e3⟩,_⟩:=(show dC P w H h a (.tup [kV kv.1,kv.2])from ok a _ ha)
  match aX,ri with
  |[ku,vu],.cons rk (.cons rv .nil)=>exact{(kv.1,vu)::ps,.cons {a,o,n,ku,rfl,e1,e2,e3,uT rk} h1,.cons ⟨rfl,rv⟩ h2}
def w5(hA:X.A.handled=none):jU X (.type "dict") (P8 X.K):=by
 intro pins s Z H xs us Q I r h;obtain⟨p,ys,kvs,rfl,hq,hk,q⟩:=h;obtain⟨u,rfl,rx⟩:=l9 r;cases rx;obtain⟨aX,r',pl,hz⟩:=I.list hq;obtain⟨ps,h1,h2⟩:=Jt I.bj r' hk;have l1:aX.length=ps.length:=bp h1;have l2:=r'.length;refine YD hA pl h1 ∅ λh' tk kp hd=>?_;have rel:KV (fk [] kvs) (merged [] ps):=KV.merge h2 .nil;have lz:(fk [] kvs).length<=sizeLine:=by have e1:=qa [] ps;rw[rel.length];simp only[c7]at e1;lia
 exact{.ref s.heap.objs.size,_,I.laid (t':=tk) kp (ak _) (yx lz (fM.mpr (bV (aH I.big))) rel hd),rfl,q _ (-69)}
variable{prog:Program}{w:World}{A:Around}{s:Shared}{R:Result->Shared->Prop}
theorem OX(Iv:Nat->Shared->Prop)
  (turn:∀n z,Iv n z->wpAny (-5) A (pyNext it) (λr z1=>match r with
   |none=>R (.ok .next) z1
   |some v=>wpAny (-5) A (letOwnedTupleGo tg it v) (λ_ y2=>wpAny (-5) A (assign tg env v) (λ_ z2=>
     wpAny (-5) A (forIn ifs true λc r=>if r=true then do let ok<-isTrue c env (eval c env);pure (ForInStep.yield ok)else pure (ForInStep.yield r)) (λok z3=>
      if ok=true then wpAny (-5) A (eval elt env) (λx z4=>
       wpAny (-5) A (call (.builtin "list.append") [acc,x]) (λ_ z5=>∃m,m<n/\Iv m z5) (notedBy (-5) A env λe z'=>R (.error e) z') z4) (notedBy (-5) A env λe z'=>R (.error e) z') z3
      else∃m,m<n/\Iv m z3) (notedBy (-5) A env λe z'=>R (.error e) z') z2) (notedBy (-5) A env λe z'=>R (.error e) z') y2) (notedBy (-5) A env λe z'=>R (.error e) z') z1) (notedBy (-5) A env λe z'=>R (.error e) z') z)
  (n:Nat) (h:Iv n s):codeAny (-5) A (.compLoop (-23) 0 it acc env) R s:=by
 refine codeAny_loop rfl Iv (λn z hI=>?_) n h;show wpAny (-5) A ((compTurn (-23) 0 it acc env).onRaise (λx=>do noteFrame x env;theTreesLotGoes x)) _ _ z;refine wpAny_noted ?_;rw[compTurn_list];refine ae (t4 (ae (cZ (turn n z hI) (λr z1 q1=>?_) λ_ _ q=>q)));cases r with
 |none=>exact af q1
 |some v=>
  refine ae (cZ q1 (λ_ z2 q3=>ae (cZ q3 (λ_ z3 q4=>ae (cZ q4 (λok z4 q5=>?_) λ_ _ q=>q)) λ_ _ q=>q)) λ_ _ q=>q);cases ok with
  |false=>exact af ⟨rfl,q5⟩
  |true=>exact ae (ae (cZ q5 (λx z5 q6=>ae (cZ q6 (λ_ z6 q7=>af (af ⟨rfl,q7⟩)) λ_ _ q=>q)) λ_ _ q=>q))
end
structure vh(X:Cx)(scope:Scope)(x:Str)(more fs:Aah)(fr:List Nat):Prop where
 one:rD X scope x fs fr
 My:(x::more++fs).Nodup
def vo(wi:TI)(k:Nat)(fr:List Nat)(g:TG)(tt:TT)(te:TE):TE:=λZ H Q=>wi Z H λJ H1=>∃W:Nat->Nat->Aao->Hp->Prop,(∃m,W 0 m [] H1)/\∀i m ys H2,W i m ys H2->
 (J.stop i H2/\ys.length<=sizeLine/\∀l,H2 l=none->Q (.ref l) (upd H2 l (-48)))\/
 (J.go i H2/\ys.length<sizeLine/\∀v H3,J.zU i H2 v H3->∀own:St,own.length=k->g v (own++slotsOf fr Z) H3 λσ4 H4=>∃Jw,σ4=Jw++slotsOf fr Z/\Jw.length=k/\tt σ4 H4 λb H5=>
  if b=true then te σ4 H5 (λy H6=>∃m',m'<m/\W (i+1) m' (ys++[y]) H6)else∃m',m'<m/\W (i+1) m' ys H5)
section
variable{X:Cx}
def ze(N2:Aah)(h:(dW X N1 scope C s H ex).Ok):(dW X N2 scope C s H ex).Ok:=
 {h.mod,h.kind,h.glob,h.blt,h.above,h.inj,h.has,h.Ng,h.hd,h.frames,h.Py,h.RX,h.bs,h.Du,h.F8,h.Eh,h.sj,h.Hs}
def Sj(S:vh X scope x more fs fr)(I3:Inv X pins Z H s)
  (ok:(dW X (x::fs) scope s.heap.objs.size s H ex).Ok) (hn:h4.Ns s.heap.objs.size m) (old:∀b o,s.heap.get? b=some o->h4.get? b=some o):
  Inv (dW X (x::more++fs) scope s.heap.objs.size s H ex) [] (List.replicate (more.length+1) none++slotsOf fr Z) H {s with heap:=h4,toks:=t}:=by
 have J:=U6 (t:=t) S.one I3 ok hn old;refine{ze _ J.ok,J.os,J.bare,J.base,?_,J.cell,J.free,J.oG,J.pin,J.bj,?_}
 ·obtain⟨m1,Ro,hl⟩:=J.loc;refine{m1,Ro,λi y v e1 e2 e3=>?_};by_cases hi:i<more.length+1
  ·have e2:(List.replicate (more.length+1) (none:Aap)++slotsOf fr Z)[i]?=some (some v):=e2;rw[dE (by rw[jz];exact hi),wy,aD hi]at e2;cases e2
  ·obtain⟨j,rfl⟩:∃j,i=more.length+1+j:={i -(more.length+1),by lia};have e2:(List.replicate (more.length+1) (none:Aap)++slotsOf fr Z)[more.length+1+j]?=some (some v):=e2;have e1:((x::more)++fs)[more.length+1+j]?=some y:=e1;rw[dw (by rw[jz];lia),jz,wu]at e2;rw[dw (by rw[bK];lia),bK,wu]at e1;exact hl (j+1) y v (by simpa using e1) (by simpa using e2) e3
 ·show(List.replicate (more.length+1) none++slotsOf fr Z).length=((x::more)++fs).length;have h1:=S.one.len;simp[slotsOf,h1];lia
def Hz{elt iter tg:Expr}{x:Str}{more:Aah}{g:TG}{ifs:List Expr}{scope:Scope}{pos:Pos}{wi:TI}{fs:Aah}{fr:List Nat}{tt:TT}{te:TE}{use:Option (Value->Sem Unit)}{R:Aae}{pins:Aac}{s:Shared}{Z:St}{H:Hp}{Q:VK}{Jg:Pos}(hc:X.calm=true)(ST:vh X scope x more fs fr)(hi:PI X tg iter wi)(hg:∀C s H ex,PG (-20) tg g)
  (ht:∀C s H ex,CT (-20) ifs tt) (he:∀C s H ex,PE (-20) elt te) (hs:∀z,foldedSetIterable iter X.env z=pure z)
  (I:Inv X pins Z H s) (h:vo wi (more.length+1) fr g tt te Z H Q)
  (aec:∀(D C:Addr)(s':Shared)(H':Hp)(ys:Aao)(vs:Aag)(k:Nat)(m:Aad),Inv X pins Z H' s'->D<C->X.aab.heap.objs.size<=D->X.env.locals<D->(∀y c,X.env.cells.lookup y=some c->c<D)->(∀p∈X.pn++pins,p.1<D)->
   s'.heap.get? D=some (lobj vs k)->H' D=none->H' C=none->s'.heap.Ns C m->Vals ys vs->ys.length<=sizeLine->(∀l,H' l=none->Q (.ref l) (upd H' l (-48)))->compPost (-4) X.A X.xe use R (.ref D) C (.ok .next) s'):
  wpAny (-4) X.A (comprehension (-23) scope X.env Jg (newList []) false (eval iter X.env) use) R X.xe s:=by
 have S:=ST.one;refine wpAny_comprehension_free (use:=use) rfl hs (FG λn hn=>I.ok.has n (.inl (S.free n hn).1)) S.kind S.names ?_;refine iC (hi pins s Z H _ I h) λv s1 h1=>iC h1 λitv s2 h2=>?_;obtain⟨it,fp,tn,J,H2,e,I2,T,qq,f2,W,⟨m0,w0⟩,turn⟩:=h2;subst e;have bU:∀b∈fp,b<s2.heap.objs.size:=λb hb=>by obtain⟨o,e,_⟩:=T.obj 0 _ qq b hb;exact aF e
 refine bT (wpAny_newFunctionEnv S.Qs (by intro y hy;simp at hy) (λh4 UE Ux=>?_) S.kind);dsimp only at UE Ux⊢;generalize hH3:s2.heap.push {cls:=.type "list",dict:=none,data:=.seq ([]:Aag).toArray}=g3 at UE Ux⊢;have hC:g3.objs.size=s2.heap.objs.size+1:=by rw[<-hH3,cw]
 have F6:∀b o,s2.heap.get? b=some o->g3.get? b=some o:=λb o e=>hH3▸ah _ e;have I3:Inv X pins Z H2 {s2 with heap:=g3}:=I2.kept (t':=s2.toks) F6;have aeu:g3.get? s2.heap.objs.size=some (lobj [] 0):=hH3▸aE _ rfl;have TJ:∀b o,g3.get? b=some o->h4.get? b=some o:=λb o e=>Ux.extBut b o (aH (aF e)) (ah _ e);have ok1:=YK (s:={s2 with heap:=g3}) (D:=s2.heap.objs.size) (fp:=fp) S I2 I3 rfl hC bU f2;have ok:=ze (x::more++fs) ok1;have I4:=Sj (t:=s2.toks+([]:List (Str×Value)).length) ST I3 ok1 UE TJ;have WU:=ok.RX s2.heap.objs.size ax;have dnf:=ok.Eh s2.heap.objs.size ax;have UR:∀{H':Hp}{vs:Aag}{k:Nat},(∀b∈fp,H' b=none)->∀b∈fp,qo (-7) [(s2.heap.objs.size,lobj vs k)] H' b:=λ{H' vs k} hn b hb=>by
  have q:=ok.RX b (az _ hb);refine{hn b hb,q.1,ok.Eh b (az _ hb),.inl (az _ hb),q.2,λp hp=>?_};have e:p=(s2.heap.objs.size,lobj vs k):=by simpa using hp
  rw[e];exact bu (bU b hb)
 have start:Inv (-7) [(s2.heap.objs.size,lobj [] 0)] (List.replicate (more.length+1) none++slotsOf fr Z) H2 {s2 with heap:=h4,toks:=s2.toks+([]:List (Str×Value)).length}:=
  I4.xS λp hp=>by
   have e:p=(s2.heap.objs.size,lobj [] 0):=by simpa using hp
   subst e;exact{TJ _ _ aeu,I2.bj.fresh (ak _),WU.1,dnf,λv z=>by cases z}
 have stn:tn 0 h4:=T.keep 0 _ _ qq λb _ o e=>TJ b o (F6 b o e);have fin:∀{i:Nat}{σ0:St}{H':Hp}{ys:Aao}{vs:Aag}{k:Nat}{s':Shared},Inv (-7) [(s2.heap.objs.size,lobj vs k)] (σ0++slotsOf fr Z) H' s'->Vals ys vs->ys.length<=sizeLine->
   (∀l,H' l=none->Q (.ref l) (upd H' l (-48)))->compPost (-4) X.A X.xe use R (.ref s2.heap.objs.size) g3.objs.size (.ok .next) s':=by
  intro i σ0 H' ys vs k s' J1 rv hz q;obtain⟨m,hn,_⟩:=id J1.loc;have below:∀y c,X.env.cells.lookup y=some c->c<s2.heap.objs.size:=λy c z=>by obtain⟨v,q⟩:=I2.cell y c z;exact q.lt
  have tF:∀p∈X.pn++pins,p.1<s2.heap.objs.size:=λp hp=>aF (I2.pin p hp).1;have I5:Inv X pins Z H' s':=I3.acx (ch:=s2.heap.objs.size::fp) J1.os J1.base J1.bj J1.bare λb hb=>by
   rcases aG.mp hb with e|hb
   ·rw[e];exact{.inr I2.sz,bu I2.lt,λy c z=>aH (below y c z),λp hp=>aH (tF p hp)}
   ·exact{(f2 b hb).2.2.2.1,(f2 b hb).2.1,(f2 b hb).2.2.2.2.1,(f2 b hb).2.2.2.2.2}
  have vq:s2.heap.objs.size<g3.objs.size:=by(first|lia|omega)
  obtain⟨eD,nD,_⟩:=J1.pin (s2.heap.objs.size,lobj vs k) (-9);exact aec _ _ s' H' ys vs k m I5 vq I2.sz I2.lt below tF eD nD J1.free hn rv hz q
 have loop:∀s4:Shared,s4={s2 with heap:=h4,toks:=s2.toks+([]:List (Str×Value)).length}->
   codeAny (-4) X.A (.compLoop (-23) 0 (.ref it) (.ref s2.heap.objs.size) (compEnvC scope (El scope X.env) g3.objs.size X.env))
    (compPost (-4) X.A X.xe use R (.ref s2.heap.objs.size) g3.objs.size) s4:=by
  rintro s4 rfl;refine OX (λn s'=>∃i σ0 H' ys vs k,σ0.length=more.length+1/\Inv (-7) [(s2.heap.objs.size,lobj vs k)] (σ0++slotsOf fr Z) H' s'/\tn i s'.heap/\(∀b∈fp,H' b=none)/\Vals ys vs/\W i n ys H') ?_ m0
   {0,List.replicate (more.length+1) none,H2,[],[],0,jz,start,stn,λb hb=>(f2 b hb).1,.nil,w0}
  rintro n s' ⟨i,σ0,H',ys,vs,k,h0,J1,st,fr1,rv,w1⟩;rcases turn i n ys H' w1 with⟨stop,hz,q⟩|⟨go,hz,step⟩
  ·refine iC (T.done (-7) rfl rfl rfl hc i _ s' _ H' _ J1 (UR fr1) st stop) λr s5 adF=>?_;obtain⟨hr,J2⟩:=adF;subst hr;exact fin (i:=i) J2 rv hz q
  ·refine iC (T.item (-7) rfl rfl rfl hc i _ s' _ H' _ J1 (UR fr1) st go) λr s5 adE=>?_;obtain⟨u,hr,h5⟩:=adE;subst hr;refine iC h5 λ_ s6 adD=>?_;obtain⟨v,H6,J6,r6,y6,mC,fr6⟩:=adD;have J6':=J6.pinned (fp:=fp) (UR fr6) (T.obj _ _ mC);refine cZ (hg _ _ _ _ _ s6 _ H6 v u _ J6' r6 (step v H6 y6 σ0 h0)) (λ_ s7 adC=>?_) (λ_ _ z=>z.elim);obtain⟨σ7,H7,J7,own,e7,l7,q7⟩:=adC;subst e7;have pfp:∀{σ8:St}{H8:Hp}{s8:Shared},Inv (-7) ([(s2.heap.objs.size,lobj vs k)]++AZ fp s6.heap) σ8 H8 s8->
     tn (i+1) s8.heap/\∀b∈fp,H8 b=none:=λ{σ8 H8 s8} J8=>by
    refine{T.keep _ _ _ mC λb hb o e=>(J8.pin (b,o) (b7 _ (b7 _ (uS hb e)))).1,λb hb=>?_};obtain⟨o,e,d⟩:=T.obj _ _ mC b hb;exact(J8.pin (b,o) (b7 _ (b7 _ (uS hb e)))).2.1
   refine cZ (ht _ _ _ _ _ s7 _ H7 _ J7 q7) (λok8 s8 adB=>?_) (λ_ _ z=>z.elim);obtain⟨H8,J8,q8⟩:=adB;cases ok8 with
   |false=>
    rw[au aU]at q8;rw[au aU];obtain⟨m',hm,w8⟩:=q8;obtain⟨t8,n8⟩:=pfp J8;exact{m',hm,i+1,own,H8,ys,vs,k,l7,J8.yL,t8,n8,rv,w8}
   |true=>
    rw[aD rfl]at q8;rw[aD rfl];refine cZ (he _ _ _ _ _ s8 _ H8 _ J8 q8) (λy s9 adA=>?_) (λ_ _ z=>z.elim);obtain⟨yv,H9,J9,r9,m',hm,w9⟩:=adA;obtain⟨t9,n9⟩:=pfp J9;obtain⟨eD,nD,_⟩:=J9.pin (s2.heap.objs.size,lobj vs k) (-9);have hl:=rv.length;refine uZ B1 ⟨_,eD,rfl⟩ Au (zR _ _) (CC s2.heap.objs.size vs.toArray k y (by rw[aI];(first|lia|omega))) {eD,?_};have eN:=PySem.IsL.update (h:=s9.heap) (l:=s2.heap.objs.size) (items:=vs.toArray) (n:=k) eD (·.push y);have eV:vs.toArray.push y=(vs++[y]).toArray:=by simp
    rw[eV]at eN;obtain⟨k',eN⟩:∃k',(s9.heap.update s2.heap.objs.size (Obj.mapSeq (·.push y))).get? s2.heap.objs.size=some (lobj (vs++[y]) k'):=⟨_,eN⟩;have K9:Inv (-7) [] (own++slotsOf fr Z) H9 s9:=J9.xS λp hp=>absurd hp (-9);have W3:Inv (-7) [] (own++slotsOf fr Z) H9 {s9 with heap:=s9.heap.update s2.heap.objs.size (Obj.mapSeq (·.push y))}:=
     K9.turned (t':=s9.toks) (it:=s2.heap.objs.size) (λb o hb e=>(bN s9.heap (Obj.mapSeq (·.push y)) (bV hb)).trans e) nD WU.1 (.inl ax) WU.2 (λp hp=>absurd hp (-9))
    refine{m',hm,i+1,own,H9,ys++[yv],vs++[y],k',l7,W3.xS λp hp=>?_,T.keep _ _ _ t9 λb hb o e=>(bN s9.heap (Obj.mapSeq (·.push y)) (bu (bU b hb))).trans e,n9,rv.append (.cons r9 .nil),w9};have e:p=(s2.heap.objs.size,lobj (vs++[y]) k'):=ay.mp hp;rw[e];exact{eN,nD,WU.1,dnf,λv z=>by cases z}
 exact codeAny_compStart_list (loop _ rfl) (T.self X.A 0 _ _ _ stn (loop _ rfl))
def GX(hc:X.calm=true)(ST:vh X scope x more fs fr)(hi:PI X tg iter wi)(hg:∀C s H ex,PG (-20) tg g)
  (ht:∀C s H ex,CT (-20) ifs tt) (he:∀C s H ex,PE (-20) elt te) (hs:∀z,foldedSetIterable iter X.env z=pure z:=by intro _;rfl):
  PE X (-23) (vo wi (more.length+1) fr g tt te):=by
 intro pins s Z H Q I h;rw[eval_ListComp];refine Hz hc ST hi hg ht he hs I h ?_;intro D C s' H' ys vs k m I5 vq lo lt below tF eD nD nC hn rv hz q;refine{m,hn,λh' sb=>?_};have I6:Inv X pins Z H' {s' with heap:=h'}:=I5.turned (t':=s'.toks) (it:=C) (λb o hb e=>sb.extBut b o hb e) nC (bu (f9 lt vq)) (.inr (br (cK lo vq))) (λy c z=>aH (f9 (below y c z) vq)) (λp hp=>aH (f9 (tF p hp) vq));have eD':h'.get? D=some (lobj vs k):=sb.extBut _ _ (aH vq) eD;exact{.ref D,_,I6.adopt nD eD' rv hz lo (bu lt) (λy c z=>aH (below y c z)) (λp hp=>aH (tF p hp)),rfl,q _ nD}
def Jd{elt iter tg:Expr}{x y:Str}{py FX:Pos}{j:Nat}{more:Aah}{g:TG}{ifs:List Expr}{scope:Scope}{pos:Pos}{wi:TI}{fs:Aah}{fr:List Nat}{tt:TT}{te:TE}(hN:X.N.Nodup)(hj:X.N[j]?=some y)(hy:X.env.scope.names.lookup y=some .local)(hc:X.calm=true)(ST:vh X scope x more fs fr)(hi:PI X tg iter wi)(hg:∀C s H ex,PG (-20) tg g)
  (ht:∀C s H ex,CT (-20) ifs tt) (he:∀C s H ex,PE (-20) elt te) (hs:∀z,foldedSetIterable iter X.env z=pure z:=by intro _;rfl)
  (Rb:swapsWith (-23) (some (.Name y py)) FX.line X.env=pure true:=by rfl):PS X (.Assign [.Name y py] (-23) FX) (Ny j (vo wi (more.length+1) fr g tt te)):=by
 intro pins s Z H D I h;obtain⟨Q,eQ⟩:∃Q:VK,Q=λv H1=>D.nx (Z.set j (some v)) H1:=⟨_,rfl⟩;have h:vo wi (more.length+1) fr g tt te Z H Q:=by rw[eQ];exact h
 have S:=ST.one;rw[exec_Assign_Name_used _ _ _ _ Rb];refine ae (t4 (ae ?_));show wpAny _ _ (comprehension (-23) scope X.env _ (newList []) false (eval iter X.env) (some (assign (.Name y py) X.env))>>=λ_=>pure ()) _ _ s;refine ae (cZ (Hz (Q:=Q) (R:=λ_ s'=>SP X pins D .next s') hc ST hi hg ht he hs I h ?_) (λ_ s' hq=>af (af hq)) λ_ _ e=>e);intro D1 C s' H' ys vs k m I5 vq lo lt below tF eD nD nC hn rv hz q;have I7:=I5.adopt nD eD rv hz lo (bu lt) (λy c z=>aH (below y c z)) (λp hp=>aH (tF p hp));refine Cv (GI (v:=.ref D1) I7 hN hj (.inl hy) rfl (λs3 I8 uy=>?_) (.inr hy));obtain⟨a,sb,ha⟩:=uy;refine{m,hn.sameBut sb ?_,λh' qJ=>?_}
 ·rcases ha with e|e
  ·rw[e];exact bu (f9 lt vq)
  ·exact bu (f9 (below _ _ e) vq)
 ·have nC2:upd H' D1 (-48) C=none:=by rw[aw (bu vq)];exact nC
  have I9:Inv X pins (Z.set j (some (.ref D1))) (upd H' D1 (-48)) {s3 with heap:=h'}:=I8.turned (t':=s3.toks) (it:=C) (λb o hb e=>qJ.extBut b o hb e) nC2 (bu (f9 lt vq)) (.inr (br (cK lo vq)))
   (λy c z=>aH (f9 (below y c z) vq)) (λp hp=>aH (f9 (tF p hp) vq))
  have q':=q _ nD;rw[eQ]at q';exact⟨_,_,I9,q'⟩
def GG(wi:TI)(fr:List Nat)(tt:TT)(te:TE):uN wi fr tt te=vo wi 1 fr (sW 0) tt te:=by
 funext Z H Q;unfold uN vo;congr 1;funext J H1;refine propext (exists_congr λW=>rf λ_=>?_);refine fC λi=>fC λm=>fC λys=>fC λH2=>fC λ_=>?_;refine or_congr sM (rf λ_=>rf λ_=>fC λv=>fC λH3=>fC λ_=>?_);constructor
 ·intro h own ho
  match own,ho with
  |[o],_=>exact{[some v],rfl,rfl,h}
 ·intro h;obtain⟨o4,e,l,q⟩:=h [none] rfl;exact q
def Jo(hc:X.calm=true)(S:rD X scope x fs fr)(hi:PI X (.Name x px) iter wi)
  (ht:∀C s H ex,CT (-36) ifs tt) (he:∀C s H ex,PE (-36) elt te) (hs:∀z,foldedSetIterable iter X.env z=pure z:=by intro _;rfl):
  PE X (.ListComp elt [{.Name x px,iter,ifs,0}] scope pos) (uN wi fr tt te):=by
 rw[GG];exact GX (more:=[]) hc {S,S.nd} hi (λC s H ex=>oF (i:=0) S.nd rfl (Or.inl (jP S.loc)) (.inr (jP S.loc))) ht he hs
def iz(hc:X.calm=true)(S:rD X scope x fs fr)(hi:PI X (.Name x px) iter wi)
  (he:∀C s H ex,PE (-36) elt te) (hs:∀z,foldedSetIterable iter X.env z=pure z:=by intro _;rfl):
  PE X (.ListComp elt [{.Name x px,iter,[],0}] scope pos) (uN wi fr B9 te):=Jo hc S hi (λ_ _ _ _=>Si) he hs
def wI(hc:X.calm=true)(S:rD X scope x fs fr)(hi:PI X (.Name x px) iter wi)
  (ht:∀C s H ex,PT (-36) c tc) (he:∀C s H ex,PE (-36) elt te) (hs:∀z,foldedSetIterable iter X.env z=pure z:=by intro _;rfl):
  PE X (.ListComp elt [{.Name x px,iter,[c],0}] scope pos) (uN wi fr tc te):=Jo hc S hi (λC s H ex=>Sh (ht C s H ex)) he hs
def Lg(hN:X.N.Nodup)(hj:X.N[j]?=some y)(hy:X.env.scope.names.lookup y=some .local)
  (hc:X.calm=true) (S:rD X scope x fs fr) (hi:PI X (.Name x px) iter wi)
  (ht:∀C s H ex,CT (-36) ifs tt) (he:∀C s H ex,PE (-36) elt te) (hs:∀z,foldedSetIterable iter X.env z=pure z:=by intro _;rfl)
  (Rb:swapsWith (.ListComp elt [{.Name x px,iter,ifs,0}] scope pos) (some (.Name y py)) FX.line X.env=pure true:=by rfl):
  PS X (.Assign [.Name y py] (.ListComp elt [{.Name x px,iter,ifs,0}] scope pos) FX) (Ny j (uN wi fr tt te)):=by
 rw[GG];exact Jd (more:=[]) hN hj hy hc {S,S.nd} hi (λC s H ex=>oF (i:=0) S.nd rfl (Or.inl (jP S.loc)) (.inr (jP S.loc))) ht he hs Rb
def Jc(hN:X.N.Nodup)(hj:X.N[j]?=some y)(hy:X.env.scope.names.lookup y=some .local)
  (hc:X.calm=true) (S:rD X scope x fs fr) (hi:PI X (.Name x px) iter wi)
  (ht:∀C s H ex,PT (-36) c tc) (he:∀C s H ex,PE (-36) elt te) (hs:∀z,foldedSetIterable iter X.env z=pure z:=by intro _;rfl)
  (Rb:swapsWith (.ListComp elt [{.Name x px,iter,[c],0}] scope pos) (some (.Name y py)) FX.line X.env=pure true:=by rfl):
  PS X (.Assign [.Name y py] (.ListComp elt [{.Name x px,iter,[c],0}] scope pos) FX) (Ny j (uN wi fr tc te)):=Lg hN hj hy hc S hi (λC s H ex=>Sh (ht C s H ex)) he hs Rb
def Jn(hc:X.calm=true)(S:vh X scope x more fs fr)(hi:PI X tg iter wi)(hg:∀C s H ex,PG (-20) tg g)
  (he:∀C s H ex,PE (-20) elt te) (hs:∀z,foldedSetIterable iter X.env z=pure z:=by intro _;rfl):
  PE X (.ListComp elt [{tg,iter,[],0}] scope pos) (vo wi (more.length+1) fr g B9 te):=GX hc S hi hg (λ_ _ _ _=>Si) he hs
def FF(h:OW X.env.scope X.N scope x fs fr=true:=by kernel_rfl)(h2:decide (x::more++fs).Nodup=true:=by kernel_rfl):vh X scope x more fs fr:={dy h,bw h2}
def Mn{K:Frag}(hc:X.calm=true)(h:DA X es t)(hK:X.K=K:=by rfl)
  (hn:(assignEach es X.env).length=n:=by rfl) (gq:(assignEach es X.env).findIdx? (·.1)=none:=by rfl):PG X (.Tuple es k pos) (UQ K n t):=hK▸mE hc h hn gq
def y7(hN:decide X.N.Nodup=true:=by kernel_rfl)(hi:X.N[i]?=some x:=by rfl)(hl:X.env.scope.names.lookup x=some .local:=by first|rfl|exact jP rfl):PG X (.Name x pos) (sW i):=
 oF (bw hN) hi (.inl hl) (.inr hl)
variable{K:Frag}{a:Addr}{xs:Aao}{fr:List Nat}{tt:TT}{te:TE}{Z:St}{H1:Hp}{R:Addr->Aao->Hp->Prop}
abbrev OG(K:Frag):TG:=UQ K 2 (OH (sW 0) (OH (sW 1) abn))
abbrev HG(J:It)(k:Nat)(fr:List Nat)(g:TG)(tt:TT)(te:TE)(Z:St)(H1:Hp)(R:Addr->Aao->Hp->Prop):Prop:=
 ∃W:Nat->Nat->Aao->Hp->Prop,(∃m,W 0 m [] H1)/\∀i m ys H2,W i m ys H2->
 (J.stop i H2/\ys.length<=sizeLine/\∀l,H2 l=none->R l ys H2)\/
 (J.go i H2/\ys.length<sizeLine/\∀v H3,J.zU i H2 v H3->∀own:St,own.length=k->g v (own++slotsOf fr Z) H3 λσ4 H4=>∃Jw,σ4=Jw++slotsOf fr Z/\Jw.length=k/\tt σ4 H4 λb H5=>
  if b=true then te σ4 H5 (λy H6=>∃m',m'<m/\W (i+1) m' (ys++[y]) H6)else∃m',m'<m/\W (i+1) m' ys H5)
def Mr{v a b:V}{own rest:St}(ho:own.length=2)(ev:v=.ref p)(hp:bx K H p [a,b])(h:Q (some a::some b::rest) H):OG K v (own++rest) H Q:=by
 match own,ho with
 |[o1,o2],_=>exact⟨p,_,ev,hp,rfl,_,_,rfl,_,_,rfl,rfl,h⟩
def O3(Pv:Nat->Aao->Hp->Prop)(hx:xs.length<sizeLine)(h0:Pv 0 [] H1)(hl:∀i ys H,i<=xs.length->Pv i ys H->bo K H a xs/\ys.length<=i)
  (hs:∀(i:Nat)(x:V)(ys:Aao)(H:Hp)(N:Aao->Hp->Prop),xs[i]?=some x->Pv i ys H->(∀fP H',Pv (i+1) fP H'->N fP H')->
   ∃p b c,x=.ref p/\bx K H p [b,c]/\tt (some b::some c::slotsOf fr Z) H λt H4=>if t=true then te (some b::some c::slotsOf fr Z) H4 (λy H5=>N (ys++[y]) H5)else N ys H4)
  (hd:∀ys H,Pv xs.length ys H->∀l,H l=none->R l ys H):HG (K2 K a) 2 fr (OG K) tt te Z H1 R:=by
 refine{λi m ys H=>m=xs.length -i/\i<=xs.length/\Pv i ys H,{xs.length,by simp,aP _,h0},?_};rintro i m ys H ⟨rfl,hi,p⟩;obtain⟨q,hy⟩:=hl i ys H hi p;by_cases bU:i<xs.length
 ·refine .inr {{xs,_,q,aq bU},by lia,?_};rintro v H3 ⟨rfl,hv⟩ own ho;obtain⟨pp,b,c,ev,hp,h⟩:=hs i v ys H3 (λfP H'=>∃m',m'<xs.length -i/\m'=xs.length -(i+1)/\i+1<=xs.length/\Pv (i+1) fP H') (hv xs q) p λfP H' p'=>{_,by lia,rfl,bU,p'};exact Mr ho ev hp {[some b,some c],rfl,rfl,h}
 ·have e:i=xs.length:=by lia
  subst e;exact .inl {{xs,q,ak _},by lia,hd ys H p}
end
section
variable{X:Cx}
inductive acX(K:Frag)(neg:Bool)(x:V)(y:V)(H:Hp)(Q:VK):Prop
 |mk d ds (_:Dt K H d x) (_:(Dt K H (.tuple ds) y\/Dt K H (.list ds) y)) (_:PyData.canLayAll0 ds=true) (_:d.canLay0=true) (_:d.depth<=60) (_:Q (.bl (if neg then !(ds.any λe=>PyData.eqv e d)else ds.any λe=>PyData.eqv e d)) H)
def Qh(hu:X.A.units+64<cLine):jZ X (compareOp .NotIn) (acX X.K true):=by
 intro pins s Z H x y v u Q I rx ry h;obtain⟨d,ds,h1,h2,h3,h4,h5,q⟩:=h;obtain⟨as,r1⟩:=kW I d x v h1 rx;have hm:min (PyData.depthAll ds) d.depth<=60:=aC (Nat.min_le_right _ _) h5;rcases h2 with h2|h2
 ·obtain⟨bs,r2⟩:=kW I _ y u h2 ry;exact SeqAt.notIn_tuple_reads r2 r1 h3 h4 ∅ {.bl _,H,I,rfl,q}
 ·obtain⟨bs,r2⟩:=kW I _ y u h2 ry;exact SeqAt.notIn_list_reads r2 r1 h3 h4 ∅ {.bl _,H,I,rfl,q}
def V0(hl:(apos.endLine==eB.line)=true:=by rfl)(hb:attributeBase (.Name d pd) "get" X.env (eval (.Name d pd) X.env)=eval (.Name d pd) X.env:=by rfl):M2 X (.Name d pd) "get" apos (.Name x px) (.Name y py) eB:=⟨hb,rfl,hl,rfl⟩
end
end L2
namespace L2
open PySem PySem.Spec PyProof.Rows PySem.W Builtin Builtin.ObjectAttr
noncomputable def RY:Aag->Bool
 | .ref _::r=>RY r
 |l=>l==[.type "ValueError",.type "Exception",.type "BaseException",.type "object"]
structure aeO(K:Frag)(C:Addr):Prop where
 ga:findIn K (.ref C) "__getattribute__"=some (some (.builtin "BaseException.__getattribute__"))
 gt:findIn K (.ref C) "__getattr__"=some none
 sa:findIn K (.ref C) "__setattr__"=some (some (.builtin "object.__setattr__"))
 be:mroIn K C (.type "BaseException")=some true
 ob:mroIn K C (.type "object")=some true
 hd:hasDictIn K C=true
 tl:(clsIn K C).any (λcd=>RY cd.mro)=true
 cl:findIn K (.ref C) "__class__"=some (some (.builtin "object.__class__"))
 cg:specialIn K (.builtin "object.__class__") "__get__"=some (some (.builtin "getset_descriptor.__get__"))
 ct:takesIn K (.builtin "object.__class__")=some true
end L2
namespace L2
open PySem PySem.Spec PyProof.Rows PySem.W
abbrev aeo(C:Addr)(dd:Aak)(t:Addr)(tb:Value):Obj:={cls:=.ref C,dict:=dd,data:=.fields #[.ref t,tb,.none,.none,.bool false,.none]}
def aex(e C:Addr)(dd:Aak):Heap->Prop:=λh=>∃t tb,h.get? e=some (aeo C dd t tb)
def gone(H:Hp)(e C:Addr)(dd:Aak):Hp:=upd H e (.ext (aex e C dd))
abbrev Cx.held(X:Cx)(q:Aac)(E:Aae):Cx:={X with pn:=q,xe:=E}
section
variable{X:Cx}{K:Frag}
def HP(h:X.K=K:=by rfl):jU X (.type "list") (λxs H Q=>∃p ys,xs=[.ref p]/\(bo K H p ys\/bx K H p ys)/\∀l,H l=none->Q (.ref l) (upd H l (-48))):=h▸By
def Jp{T id:String}(pa:PlainAttrs T)(slot:Slot T name id)(hty:typeOf (.builtin id)=pure (.type "method_descriptor"))(hm:SA X id r)(ho:PE X o to)(ha:PA X (e::es) t)
  (Fn:attributeBase o name X.env (eval o X.env)=eval o X.env:=by rfl)
  (UK:((backTo eB (starEach (e::es) X.env)).all (λx=>!x.1)&&(backToKw eB (keywordEach [] X.env)).all (λx=>x.1.isSome)&&decide ((e::es).length+([]:List Keyword).length+(-59)<30))=true:=by rfl)
  (Fh:(apos.endLine==eB.line)=true:=by rfl) (hs:starEach (e::es) X.env=(false,eval e X.env)::starEach es X.env:=by rfl) (Kg:(backTo eB (starEach es X.env)).any (·.1)=false:=by rfl) (h:X.K=K:=by rfl):
  PE X (.Call (.Attribute o name apos) (e::es) [] eB) (tBM K T r to t):=h▸mX pa slot hty hm ho ha Fn UK Fh hs Kg
end
end L2
namespace L2
open PySem PySem.Spec PyProof.Rows
section
variable{P:Program}{w:World}{A:Around}{E:Aae}{v:Shared}
structure Zt(h:Heap)(z ti to i1 i2 l1 l2:Addr)(f:Value)(k:Nat):Prop where
 self:IsZip h z ti to f
 ins:IsPair h ti (.ref i1) (.ref i2)
 outs:∃a b,IsPair h to a b
 w1:h.IsTupleIter i1 l1 k
 w2:h.IsTupleIter i2 l2 k
structure Sx(z ti to i1 i2 l1 l2:Addr):Prop where
 CW:ti≠to
 Mw:i1≠i2
 nl1:l1≠to
 nl2:l2≠to
def cR{h:Heap}(e:h.get? a=some o)(e':h.get? b=some o')(c:o.cls=.type m)(c':o'.cls=.type n)(d:m≠n):a≠b:=λg=>by rw[g,e']at e;cases e;rw[c]at c';cases c';exact d rfl
def Zt.ne(g:Zt h z ti to i1 i2 l1 l2 f k):(ti≠z/\to≠z/\i1≠z/\i2≠z)/\(ti≠i1/\ti≠i2/\to≠i1/\to≠i2):=by
 obtain⟨gs,gi,⟨a,b,go⟩,⟨o1,q1,c1,_⟩,⟨o2,q2,c2,_⟩⟩:=g;exact{{cR gi gs rfl rfl (-8),cR go gs rfl rfl (-8),cR q1 gs c1 rfl (-8),cR q2 gs c2 rfl (-8)},
  cR gi q1 rfl c1 (-8),cR gi q2 rfl c2 (-8),cR go q1 rfl c1 (-8),cR go q2 rfl c2 (-8)}
def tup_ne(g:Zt h z ti to i1 i2 l1 l2 f k)(t:h.IsTuple l xs):l≠z/\l≠i1/\l≠i2:=by obtain⟨gs,_,_,⟨o1,q1,c1,_⟩,⟨o2,q2,c2,_⟩⟩:=g;obtain⟨o,q,c,_⟩:=t;exact{cR q gs c rfl (-8),cR q q1 c c1 (-8),cR q q2 c c2 (-8)}
def ju(g:h.IsTupleIter j p k)(s:Heap.SameBut b h h')(n:j≠b):h'.IsTupleIter j p k:=by obtain⟨o,q,r⟩:=g;exact{o,s.extBut _ _ n q,r}
def oA(g:h.IsTuple l xs)(s:Heap.SameBut b h h')(n:l≠b):h'.IsTuple l xs:=by obtain⟨o,q,r⟩:=g;exact{o,s.extBut _ _ n q,r}
def za(g:IsPair v.heap t a b)
  (q:∀h',h'.get? t=some {cls:=.type "tuple",data:=.seq ((#[a,b]:Aal).setIfInBounds k x)}->Heap.SameBut t v.heap h'->Q () {v with heap:=h'}):
  wpAny (-25) A (updateSeq t (·.setIfInBounds k x)) Q E v:=wpAny_updateSeq_pair g q
def W9{Q:Aae}(d:Sx z ti to i1 i2 l1 l2)(g:Zt v.heap z ti to i1 i2 l1 l2 .none k)
  (t1:v.heap.IsTuple l1 xs) (t2:v.heap.IsTuple l2 ys) (ex:xs[k]?=some x) (ey:ys[k]?=some y)
  (q:∀h',Zt h' z ti to i1 i2 l1 l2 (rawInt v.heap.objs.size) (k+1)->IsPair h' v.heap.objs.size x y->(∀c o,c≠z->c≠to->c≠i1->c≠i2->v.heap.get? c=some o->h'.get? c=some o)->Q (.ref v.heap.objs.size) {v with heap:=h'}):
  wpAny (-25) A (-47) (λfin s'=>∃u,fin=.done (.ret u)/\Q u s') E v:=by
 obtain⟨⟨a1,a2,a3,a4⟩,a5,a6,a7,a8⟩:=g.ne;obtain⟨b1,b2,b3⟩:=tup_ne g t1;obtain⟨c1,c2,c3⟩:=tup_ne g t2;obtain⟨gs,gi,⟨a,b,go⟩,g1,g2⟩:=g;show wpAny _ _ (field (.ref z) 2>>=_) _ _ _;refine ae (bF gs rfl (x:=.bool false) rfl ?_);show wpAny _ _ (field (.ref z) 3>>=_) _ _ _;refine ae (bF gs rfl (x:=.ref ti) rfl ?_);refine ae (bW gi rfl ?_);show wpAny _ _ (Builtin.SmallTypes.ownedTupleIsFree (.ref z)>>=_) _ _ _;refine ae ?_;unfold Builtin.SmallTypes.ownedTupleIsFree;refine ae (bF gs rfl (x:=.none) rfl (af ?_));simp only[lG];refine ae (fQ ?_);refine ae (bF gs rfl (x:=.ref to) rfl ?_);refine ae (b9 gs (-9) λp1 k1 r1=>?_)
 replace k1:IsZip p1 z ti to .ellipsis:=k1
 refine ae ?_;simp only[qi,List.zipIdx_nil,m8,yE];refine ae (ae (mB ?_));show wpAny _ _ (Builtin.SmallTypes.nextOf (.ref i1)>>=_) _ _ _;refine ae (uR (ju g1 r1 a3) (oA t1 r1 b1) ex λp2 k2 r2=>af ?_);have o2:IsPair p2 to a b:=r2.extBut _ _ a7 (r1.extBut _ _ a2 go);refine ae (bW o2 rfl ?_);refine ae (za o2 λp3 o3 r3=>?_)
 replace o3:IsPair p3 to x b:=o3
 refine ae (mK (af ?_));refine ae (ae (mB ?_));show wpAny _ _ (Builtin.SmallTypes.nextOf (.ref i2)>>=_) _ _ _;refine ae (uR (ju (ju (ju g2 r1 a4) r2 d.Mw.symm) r3 a8.symm) (oA (oA (oA t2 r1 c1) r2 c2) r3 d.nl2) ey λp4 k4 r4=>af ?_);have o4:IsPair p4 to x b:=r4.extBut _ _ a8 o3;refine ae (bW o4 rfl ?_);refine ae (za o4 λp5 o5 r5=>?_)
 replace o5:IsPair p5 to x y:=o5
 refine ae (mK (af (af ?_)));refine ae (bW o5 rfl ?_);refine ae (lD ?_);have sz:p5.objs.size=v.heap.objs.size:=by rw[r5.1,r4.1,r3.1,r2.1,r1.1]
 have z5:IsZip p5 z ti to .ellipsis:=r5.extBut _ _ a2.symm (r4.extBut _ _ a4.symm (r3.extBut _ _ a2.symm (r2.extBut _ _ a3.symm k1)));have st:∀c o,c≠z->c≠to->c≠i1->c≠i2->v.heap.get? c=some o->p5.get? c=some o:=λc o m1 m2 m3 m4 e=>
  r5.extBut _ _ m2 (r4.extBut _ _ m4 (r3.extBut _ _ m2 (r2.extBut _ _ m3 (r1.extBut _ _ m1 e))))
 have j1:p5.IsTupleIter i1 l1 (k+1):=ju (ju (ju k2 r3 a7.symm) r4 d.Mw) r5 a7.symm;have j2:p5.IsTupleIter i2 l2 (k+1):=ju k4 r5 a8.symm;have lz:z<p5.objs.size:=aF z5;show wpAny _ _ (Builtin.SmallTypes.ownedTupleHandOut (.ref z) (.ref p5.objs.size)>>=_) _ _ _;refine ae ?_;unfold Builtin.SmallTypes.ownedTupleHandOut;have z6:IsZip (p5.push {cls:=.type "tuple",data:=.seq #[x,y]}) z ti to .ellipsis:=ah _ z5;refine ae (b9 z6 (-9) λp7 z7 r7=>?_)
 replace z7:IsZip p7 z ti to (rawInt p5.objs.size):=z7
 refine b9 z7 (-9) λp8 z8 r8=>?_
 replace z8:IsZip p8 z ti to (rawInt p5.objs.size):=z8
 have up:∀c o,c≠z->p5.get? c=some o->p8.get? c=some o:=λc o m e=>r8.extBut _ _ m (r7.extBut _ _ m (ah _ e));have n8:IsPair p8 p5.objs.size x y:=r8.extBut _ _ (bu lz) (r7.extBut _ _ (bu lz) (aE _ rfl));rw[sz]at z8 n8;refine af {_,rfl,?_};show Q (.ref p5.objs.size) _;rw[sz];obtain⟨oa,ja,ra⟩:=j1;obtain⟨ob,jb,rb⟩:=j2;refine q p8 {z8,?_,{x,y,up _ _ a2 o5},{oa,up _ _ a3 ja,ra},{ob,up _ _ a4 jb,rb}} n8 λc o m1 m2 m3 m4 e=>up c o m1 (st c o m1 m2 m3 m4 e);exact up _ _ a1 (st _ _ a1 d.CW a5 a6 gi)
def YX{z ti to i1 i2 l1 l2:Addr}{k:Nat}{xs ys:Aal}{Q:Fin->Shared->Prop}(hh:A.handled=none)(d:Sx z ti to i1 i2 l1 l2)(g:Zt v.heap z ti to i1 i2 l1 l2 .none k)
  (t1:v.heap.IsTuple l1 xs) (ex:xs[k]?=none)
  (q:∀h' e,(∀c o,c≠z->c≠to->c≠i1->c≠i2->v.heap.get? c=some o->h'.get? c=some o)->(∃o,h'.get? e=some o/\o.cls=.type "StopIteration")->E (.ref e) {v with heap:=h'}):
  wpAny (-25) A (-47) Q E v:=by
 obtain⟨⟨a1,a2,a3,a4⟩,a5,a6,a7,a8⟩:=g.ne;obtain⟨b1,b2,b3⟩:=tup_ne g t1;obtain⟨gs,gi,⟨a,b,go⟩,g1,g2⟩:=g;show wpAny _ _ (field (.ref z) 2>>=_) _ _ _;refine ae (bF gs rfl (x:=.bool false) rfl ?_);show wpAny _ _ (field (.ref z) 3>>=_) _ _ _;refine ae (bF gs rfl (x:=.ref ti) rfl ?_);refine ae (bW gi rfl ?_);show wpAny _ _ (Builtin.SmallTypes.ownedTupleIsFree (.ref z)>>=_) _ _ _;refine ae ?_;unfold Builtin.SmallTypes.ownedTupleIsFree;refine ae (bF gs rfl (x:=.none) rfl (af ?_));simp only[lG];refine ae (fQ ?_);refine ae (bF gs rfl (x:=.ref to) rfl ?_);refine ae (b9 gs (-9) λp1 k1 r1=>?_)
 replace k1:IsZip p1 z ti to .ellipsis:=k1
 refine ae ?_;simp only[qi,List.zipIdx_nil,m8,yE];refine ae (ae (mB ?_));show wpAny _ _ (Builtin.SmallTypes.nextOf (.ref i1)>>=_) _ _ _;refine ae (xW hh (ju g1 r1 a3) (oA t1 r1 b1) ex λp2 e r2 he=>?_);obtain⟨oe,ge,ce⟩:=he;have z2:IsZip p2 z ti to .ellipsis:=r2 _ _ a3.symm k1;have nez:e≠z:=cR ge z2 ce rfl (-8);refine b9 z2 (-9) λp3 _ r3=>q p3 e (λc o m1 _ m3 _ e=>r3.extBut _ _ m1 (r2 _ _ m3 (r1.extBut _ _ m1 e))) {oe,r3.extBut _ _ nez ge,ce}
variable{X:Cx}{pins:Aac}{Z:St}{H:Hp}{s:Shared}
def Inv.freeze(I:Inv X pins Z H s)(hd:H d=some (.dK kvs))(ho:s.heap.get? d=some o):Inv X pins Z (upd H d (.c6 o (.dK kvs))) s:=by
 have nd:∀b u,H b=some u->(∀l,u≠ .dK l)->b≠d:=λb u q n z=>by rw[z,hd]at q;exact n kvs (bS q).symm
 have h9:∀b,H b=none->b≠d:=λb q z=>by rw[z,hd]at q;cases q
 refine I.un (h':=s.heap) (t':=s.toks) {λb u e _ _ _=>e,λb u e _ _ _=>{u.slots,e},λb u e n _=>by rw[aw (h9 b n)];exact n,λb u e _=>⟨u,e⟩,λb xs q=>by rw[aw (nd b _ q λl z=>by cases z)];exact q,λb u v q=>by rw[aw (nd b _ q λl z=>by cases z)];exact q,λb ps q=>{#[],by rw[aw (nd b _ q λl z=>by cases z),q];simp}} λb u g=>?_;by_cases hb:b=d
 ·subst hb;rw[ar]at g;cases g;exact{ho,I.bj b _ hd}
 ·rw[aw hb]at g;exact(I.bj b u g).jD (λc v hc q=>q) (λc q=>by rw[aw (nd c _ q λl z=>by cases z)];exact q) λc ys q=>by rw[aw (nd c _ q λl z=>by cases z)];exact q
end
def Itd(d:Addr)(o:Obj)(kvs:List (Key×V)):It:=
 {λi H=>H d=some (.c6 o (.dK kvs))/\i<kvs.length,λi H x H'=>H'=H/\∃kv,kvs[i]?=some kv/\x=kV kv.1,λi H=>H d=some (.c6 o (.dK kvs))/\kvs.length<=i}
inductive aaS(R:It->Hp->Prop)(x:V)(H1:Hp):Prop
 |mk d kvs (_:x=.ref d) (_:H1 d=some (.dK kvs)) (_:∀o,R (Itd d o kvs) (upd H1 d (.c6 o (.dK kvs))))
def Wb(tl:TE):TI:=λZ H R=>tl Z H λx H1=>aaS R x H1
def Po{K:Frag}(rel:KV kvs vs)
  (m:o.ExactDict/\o.data=.dict es ep/\KeysOf (bz P w) es/\Pairs (bz P w) es.toList vs/\(vs.map (·.1)).Nodup):Turn P w K tg (Itd d o kvs) [it] it (λi h=>h.IsKeyIter it d i vs.length ep) where
 mem:=by simp
 obj:=λi h st b hb=>by
  have e:b=it:=by simpa using hb
  subst e;obtain⟨u,e,c,q⟩:=st;exact{u,e,λv z=>by rw[q]at z;cases z}
 keep:=λi h h' st k=>by obtain⟨u,e,r⟩:=st;exact{u,k it (-9) u e,r}
 item:=by
  intro X hP hw hK hc i pins s Z H E I hf st hg;subst hP hw hK;obtain⟨hd,hi⟩:=hg;have hl:kvs.length=vs.length:=rel.length;have ga:s.heap.get? d=some o:=(I.bj d _ hd).1;have at':s.heap.DictAt (bz X.prog X.w) d vs ep:=⟨o,es,ga,m⟩;obtain⟨f0,f1,f2,f3,f4,f5⟩:=hf it (-9);obtain⟨kv,iD⟩:∃kv,kvs[i]?=some kv:={_,aq hi};obtain⟨qv,hqv⟩:∃qv,vs[i]?=some qv:={_,aq ∅};have ek:kv.1=qv.1:=by obtain⟨y,hy,r⟩:=Paired.at' rel iD;rw[hqv]at hy;cases hy;exact r.1
  refine wpAny_pyNext_dict_item (k:=qv.1) (v:=qv.2) st at' hqv λkey h' hk hX sb=>?_;have I1:Inv X pins Z H {s with heap:=h'}:=I.turned (t':=s.toks) (λb o hb e=>(sb.2 b hb).trans e) f0 f1 f3 f4 f5;obtain⟨u,e,c,q⟩:=id hX;exact{key,rfl,Co (s:={s with heap:=h'}) e c q (-8) {kV kv.1,H,I1,ve (by rw[ek];exact hk),⟨rfl,kv,iD,rfl⟩,hX,λb hb=>(hf b hb).1}}
 done:=by intro X hP hw hK hc i pins s Z H E I hf st hg;subst hP hw hK;obtain⟨hd,hi⟩:=hg;have hl:kvs.length=vs.length:=rel.length;have ga:s.heap.get? d=some o:=(I.bj d _ hd).1;have at':s.heap.DictAt (bz X.prog X.w) d vs ep:=⟨o,es,ga,m⟩;obtain⟨f0,f1,f2,f3,f4,f5⟩:=hf it (-9);exact wpAny_pyNext_dict_end (I.ok.hd hc) st at' (eU ∅) λh' eb=>{rfl,I.turned (t':=s.toks) (λb o hb e=>eb b o hb e) f0 f1 f3 f4 f5}
 self:=λ_ _ _ _ _ st h=>qF st h
def Mm(hl:PE X l tl):PI X tg l (Wb tl):=by
 intro pins s Z H R I h;refine cX (hl pins s Z H _ I h) λv s1 x H1 I1 r1 q1=>?_;obtain⟨d,kvs,e,hd,q⟩:=q1;subst e;cases r1;obtain⟨hz,lo,vs,rel,o,es,ep,ga,m⟩:=uY I1.bj hd;have at':s1.heap.DictAt (bz X.prog X.w) d vs ep:=⟨o,es,ga,m⟩;refine wpAny_pyIter_dict lo at' ?_;have I2:=I1.freeze hd ga;refine{s1.heap.objs.size,[s1.heap.objs.size],_,_,_,rfl,I2.kept (t':=s1.toks) λb o e=>ah _ e,Po rel m,{_,aE _ rfl,rfl,rfl},λb hb=>?_,q o};have e:b=s1.heap.objs.size:=by simpa using hb
 subst e;exact I2.sr (ak _) (I2.bj.fresh (ak _))
def Sk(Pv:Nat->Aao->Hp->Prop)(hx:kvs.length<sizeLine)(h0:Pv 0 [] H1)(hl:∀i ys H,i<=kvs.length->Pv i ys H->H d=some (.c6 o (.dK kvs))/\ys.length<=i)
  (hs:∀(i:Nat)(kv:Key×V)(ys:Aao)(H:Hp)(N:Aao->Hp->Prop),kvs[i]?=some kv->Pv i ys H->(∀fP H',Pv (i+1) fP H'->N fP H')->
   tt (some (kV kv.1)::slotsOf fr Z) H λb H4=>if b=true then te (some (kV kv.1)::slotsOf fr Z) H4 (λy H5=>N (ys++[y]) H5)else N ys H4)
  (hd:∀ys H,Pv kvs.length ys H->∀l,H l=none->R l ys H):zS (Itd d o kvs) fr tt te Z H1 R:=by
 refine{λi m ys H=>m=kvs.length -i/\i<=kvs.length/\Pv i ys H,{kvs.length,by simp,aP _,h0},?_};rintro i m ys H ⟨rfl,hi,p⟩;obtain⟨q,hy⟩:=hl i ys H hi p;by_cases bU:i<kvs.length
 ·refine .inr {⟨q,bU⟩,by lia,?_};rintro v H3 ⟨rfl,kv,iD,rfl⟩;exact hs i kv ys H3 (λfP H'=>∃m',m'<kvs.length -i/\m'=kvs.length -(i+1)/\i+1<=kvs.length/\Pv (i+1) fP H') iD p λfP H' p'=>{_,by lia,rfl,bU,p'}
 ·have e:i=kvs.length:=by lia
  subst e;exact .inl {{q,ak _},by lia,hd ys H p}
section
variable{X:Cx}
theorem ints_of:∀{ns:List Int}{us:Aag},Vals (-39) us->IntsAre us ns
 |[],_,.nil=>.nil
 |n::ns,_,.cons ⟨t,r⟩ q=>by subst r;exact .cons _ _ (ints_of q)
def Vb(hc:X.calm=true):jU X (.builtin "sum") (λxs H Q=>∃(a:Addr)(ns:List Int),xs=[.ref a]/\bo X.K H a (-39)/\Q (.int ns.sum) H):=by
 intro pins s Z H xs us Q I r h;obtain⟨a,ns,rfl,hq,q⟩:=h;obtain⟨u,rfl,ru⟩:=l9 r;cases ru;obtain⟨aX,rv,pl,hz⟩:=I.list hq;have ia:=ints_of rv;obtain⟨ws,ex⟩:=ia.allInts.items;have en:ws.toList.map (·.1)=ns:=by rw[<-nums_intItems,<-ex];exact ia.numsOf
 refine sum_intListG (xs:=ws) (I.ok.hd hc) (by rw[<-ex];exact pl.isList) λh' tk t' hk=>?_;have e:preSum (numAt ws) ws.size=ns.sum:=by rw[preSum_eq,cj (-9),en]
 rw[e];exact{.int ns.sum,H,I.kept (t':=tk) hk,⟨_,rfl⟩,q}
variable{pins:Aac}{Z:St}{H:Hp}{s:Shared}{h':Heap}
def Inv.LO{ch:Aaj}(I:Inv X pins Z H s)(k:∀b o,b∉ch->s.heap.get? b=some o->h'.get? b=some o)(fc:∀b∈ch,qo X pins H b)
  (hp:s.heap.objs.size<=p) (ht:IsTup h' p us.toArray/\∃o,h'.get? p=some o/\o.dict=none) (r:Vals xs us) (hz:xs.length<=sizeLine):Inv X pins Z (upd H p (.tup xs)) {s with heap:=h',toks:=t'}:=by
 have hn:=I.bj.fresh hp;have fp:=I.sr hp hn;have nH:∀b u,H b=some u->b∉ch/\b≠p:=λb u g=>{(λz=>by rw[(fc b z).1]at g;cases g),λz=>by rw[z,hn]at g;cases g};refine I.step (g':=s.gens) (d':=s.drawn) (ch:=p::ch) (λb hb=>?_) (λb o _ _ hc g _=>k b o (λz=>hc (az _ z)) g) (λb o _ _ hc g _=>{o.slots,k b o (λz=>hc (az _ z)) g})
  (λb o hc g n=>by rw[aw λz=>hc (by rw[z];exact ax)];exact n) (λb o hc g=>{o,k b o (λz=>hc (az _ z)) g})
  (λb ys g=>by rw[aw (nH b _ g).2];exact g) (λb o u g=>by rw[aw (nH b _ g).2];exact g) (λb ps g=>{#[],by rw[aw (nH b _ g).2,g];simp}) (λm hm=>?_) (λb u g=>?_) I.bare
 ·rcases aG.mp hb with rfl|z
  ·exact{fp.2.2.2.1,fp.2.1,fp.2.2.2.2.1,fp.2.2.2.2.2}
  ·have f:=fc b z;exact{f.2.2.2.1,f.2.1,f.2.2.2.2.1,f.2.2.2.2.2}
 ·obtain⟨o,es,ep,ho,r'⟩:=hm;exact{o,es,ep,k _ o (λz=>(fc _ z).2.1 rfl) ho,r'}
 ·by_cases hb:b=p
  ·subst hb;rw[ar]at g;cases g;exact⟨hz,us,r,ht⟩
  ·rw[aw hb]at g;refine(I.bj b u g).jD (λc v hc q=>?_) (λc q=>?_) λc ys q=>?_
   ·rcases hc with z|z
    ·rw[z];rw[z]at q;exact k b v (nH b _ g).1 q
    ·exact k c v (nH c _ z).1 q
   ·rw[aw (nH c _ q).2];exact q
   ·rw[aw (nH c _ q).2];exact q
def Inv.LP{ch:Aaj}(I:Inv X pins Z H s)(k:∀b o,b∉ch->s.heap.get? b=some o->h'.get? b=some o)(fc:∀b∈ch,qo X pins H b):Inv X pins Z H {s with heap:=h',toks:=t'}:=by
 have nH:∀b u,H b=some u->b∉ch:=λb u g z=>by rw[(fc b z).1]at g;cases g
 refine I.step (g':=s.gens) (d':=s.drawn) (ch:=ch) (λb z=>?_) (λb o _ _ hc g _=>k b o hc g) (λb o _ _ hc g _=>{o.slots,k b o hc g}) (λ_ _ _ _ n=>n) (λb o hc g=>{o,k b o hc g})
  (λ_ _ g=>g) (λ_ _ _ g=>g) (λb ps g=>{#[],by rw[g];simp}) (λm hm=>?_) (λb u g=>?_) I.bare
 ·have f:=fc b z;exact{f.2.2.2.1,f.2.1,f.2.2.2.2.1,f.2.2.2.2.2}
 ·obtain⟨o,es,ep,ho,r'⟩:=hm;exact{o,es,ep,k _ o (λz=>(fc _ z).2.1 rfl) ho,r'}
 ·refine(I.bj b u g).jD (λc v hc q=>k c v ?_ q) (λ_ q=>q) λ_ _ q=>q;rcases hc with z|z
  ·rw[z];exact nH b _ g
  ·exact nH c _ z
end
section
variable{P:Program}{w:World}{A:Around}{E:Aae}{v:Shared}
def Ly(d:Sx z ti to i1 i2 l1 l2)(g:Zt v.heap z ti to i1 i2 l1 l2 .none k)
  (t1:v.heap.IsTuple l1 xs) (t2:v.heap.IsTuple l2 ys) (ex:xs[k]?=some x) (ey:ys[k]?=some y)
  (q:∀h',Zt h' z ti to i1 i2 l1 l2 (rawInt v.heap.objs.size) (k+1)->IsPair h' v.heap.objs.size x y->(∀c o,c≠z->c≠to->c≠i1->c≠i2->v.heap.get? c=some o->h'.get? c=some o)->Q (some (.ref v.heap.objs.size)) {v with heap:=h'}):
  wpAny (-25) A (pyNext (.ref z)) Q E v:=by
 have ty:v.TypeIs (.ref z) "zip":={_,g.self,rfl};unfold pyNext;exact ae (dH (wpAny_callSpecial?_slot (name:=Str.ofString "__next__") ty eA (bq eA ty kA (W9 d g t1 t2 ex ey λh' b1 b2 b3=>af (q h' b1 b2 b3)) (jM _))))
def Lx(hh:A.handled=none)(d:Sx z ti to i1 i2 l1 l2)(g:Zt v.heap z ti to i1 i2 l1 l2 .none k)
  (t1:v.heap.IsTuple l1 xs) (ex:xs[k]?=none)
  (q:∀h',(∀c o,c≠z->c≠to->c≠i1->c≠i2->v.heap.get? c=some o->h'.get? c=some o)->Q none {v with heap:=h'}):
  wpAny (-25) A (pyNext (.ref z)) Q E v:=by
 have ty:v.TypeIs (.ref z) "zip":={_,g.self,rfl};unfold pyNext;refine ae (dH (wpAny_callSpecial?_slot (name:=Str.ofString "__next__") ty eA (bq eA ty kA (YX (ys:=#[]) hh d g t1 ex λh' e hk he=>?_) (jM _))));obtain⟨o,ho,hc⟩:=he;exact ae (fY (T:="StopIteration") (b:=true) ⟨o,ho,hc⟩ j8 (af (q _ hk)))
abbrev Vm(h:Heap)(l1:Addr):Heap:=h.push {cls:=.type "tuple_iterator",data:=.fields #[.ref l1,.int 0 0]}
abbrev Vl(h:Heap)(l1 l2:Addr):Heap:=(Vm h l1).push {cls:=.type "tuple_iterator",data:=.fields #[.ref l2,.int 0 0]}
abbrev Vk(h:Heap)(l1 l2:Addr):Heap:=(Vl h l1 l2).push {cls:=.type "tuple",data:=.seq #[.ref h.objs.size,.ref (Vm h l1).objs.size]}
abbrev Vj(h:Heap)(l1 l2:Addr):Heap:=(Vk h l1 l2).push {cls:=.type "tuple",data:=.seq #[.none,.none]}
abbrev LB(h:Heap)(l1 l2:Addr):Heap:=(Vj h l1 l2).push {cls:=.type "zip",data:=.fields #[.none,.bool false,.bool false,.ref (Vl h l1 l2).objs.size,.ref (Vk h l1 l2).objs.size]}
def YY(l1 l2:Addr)(xs ys:Aal):
  Meets (Builtin.«zip.__new__» {[.type "zip",.ref l1,.ref l2],[]}) (λ_ R s=>s.heap.IsTuple l1 xs/\s.heap.IsTuple l2 ys/\R (.ok (.ret (.ref (Vj s.heap l1 l2).objs.size))) {s with heap:=LB s.heap l1 l2}):=
 .of_wp λprog w A R s h=>by
  obtain⟨hp,g,d,tk,os⟩:=s;obtain⟨pF,iX,h⟩:=h;have Uw:=sub_zip;have hL1:Heap.IsTuple (Shared.heap ⟨hp,g,d,tk,os⟩) l1 xs:=pF;have hL2:Heap.IsTuple (Shared.heap ⟨hp.push {cls:=.type "tuple_iterator",data:=.fields #[.ref l1,.int 0 0]},g,d,tk,os⟩) l2 ys:=by obtain⟨o,e,r⟩:=iX;exact{o,ah _ e,r}
  wp_walk using tm hL1,tm hL2
  exact⟨_,rfl,h⟩
def LA(h1:v.heap.IsTuple l1 xs)(h2:v.heap.IsTuple l2 ys)
  (q:∀h' n,n=v.heap.objs.size->Zt h' (n+4) (n+2) (n+3) n (n+1) l1 l2 .none 0->(∀c o,v.heap.get? c=some o->h'.get? c=some o)->Q (.ref (n+4)) {v with heap:=h'}):
  wpAny (-25) A (call (.type "zip") [.ref l1,.ref l2]) Q E v:=by
 refine callType_new F.called_zip (-8) (F.typeCall_zip_2 _ _) (F.newCall_zip_2 _ _) (λobj=>zP obj _ _) F.entry_zip_new (YY l1 l2 xs ys) {h1,h2,?_};have e1:(Vm v.heap l1).objs.size=v.heap.objs.size+1:=cw ..;have e2:(Vl v.heap l1 l2).objs.size=v.heap.objs.size+2:=by rw[cw,e1]
 have e3:(Vk v.heap l1 l2).objs.size=v.heap.objs.size+3:=by rw[cw,e2]
 have e4:(Vj v.heap l1 l2).objs.size=v.heap.objs.size+4:=by rw[cw,e3]
 have g5:(LB v.heap l1 l2).get? (Vj v.heap l1 l2).objs.size=some _:=aE _ rfl;have g4:(LB v.heap l1 l2).get? (Vk v.heap l1 l2).objs.size=some _:=ah _ (aE _ rfl);have g3:(LB v.heap l1 l2).get? (Vl v.heap l1 l2).objs.size=some _:=ah _ (ah _ (aE _ rfl));have g2:(LB v.heap l1 l2).get? (Vm v.heap l1).objs.size=some _:=ah _ (ah _ (ah _ (aE _ rfl)));have g1:(LB v.heap l1 l2).get? v.heap.objs.size=some _:=ah _ (ah _ (ah _ (ah _ (aE _ rfl))));show _/\_;rw[e2,e3,e4]at g5;rw[e1,e2]at g3;rw[e3]at g4;rw[e1]at g2;rw[e4];exact{⟨_,g5,rfl⟩,q _ _ rfl {g5,g3,⟨_,_,g4⟩,⟨_,g1,rfl,rfl⟩,⟨_,g2,rfl,rfl⟩} λc o x=>ah _ (ah _ (ah _ (ah _ (ah _ x))))}
def Itz(K:Frag)(a b:Addr):It:=
 {λi H=>∃xs ys x y,bx K H a xs/\bx K H b ys/\xs[i]?=some x/\ys[i]?=some y,
  λi H u H'=>∃p x y,u=.ref p/\H p=none/\H'=upd H p (.tup [x,y])/\(∀xs,bx K H a xs->xs[i]?=some x)/\∀ys,bx K H b ys->ys[i]?=some y,
  λi H=>∃xs,bx K H a xs/\xs.length=i}
def gN(z ti to i1 i2:Addr):Aaj:=[z,ti,to,i1,i2]
end
def SN{K:Frag}(a b z ti to i1 i2:Addr)(dd:Sx z ti to i1 i2 a b):Turn P w K (.Tuple elts kk ps) (Itz K a b) (gN z ti to i1 i2) z (λi h=>Zt h z ti to i1 i2 a b .none i) where
 mem:=ax
 obj:=λi h st c hc=>by
  obtain⟨gs,gi,⟨u,v,go⟩,⟨o1,q1,c1,d1⟩,⟨o2,q2,c2,d2⟩⟩:=st;have qx:c=z\/c=ti\/c=to\/c=i1\/c=i2:=by simpa[gN]using hc
  rcases qx with rfl|rfl|rfl|rfl|rfl
  ·exact{_,gs,λv z=>by cases z}
  ·exact{_,gi,λv z=>by cases z}
  ·exact{_,go,λv z=>by cases z}
  ·exact{_,q1,λv z=>by rw[d1]at z;cases z}
  ·exact{_,q2,λv z=>by rw[d2]at z;cases z}
 keep:=λi h h' st k=>by obtain⟨gs,gi,⟨u,v,go⟩,⟨o1,q1,r1⟩,⟨o2,q2,r2⟩⟩:=st;exact{k z (by simp[gN]) _ gs,k ti (by simp[gN]) _ gi,{u,v,k to (by simp[gN]) _ go},{o1,k i1 (by simp[gN]) _ q1,r1},{o2,k i2 (by simp[gN]) _ q2,r2}}
 item:=by
  intro X hP hw hK hc i pins s Z H E I hf st hg;subst hP hw hK;obtain⟨xs,ys,x,y,ha,hb,hx,hy⟩:=hg;obtain⟨Fc,IU,EW,uy⟩:=I.tuple ha;obtain⟨Bj,IT,AY,yg⟩:=I.tuple hb;obtain⟨u1,Kb,IV⟩:=IU.get hx;obtain⟨u2,yl,ET⟩:=IT.get hy;refine Ly dd st (show s.heap.IsTuple a Fc.toArray from EW) (show s.heap.IsTuple b Bj.toArray from AY) (x:=u1) (y:=u2) (by simpa using Kb) (by simpa using yl) λh1 g1 pr kp=>{_,rfl,?_};refine uJ g1.self λh2 z2 sb=>?_;have qJ:Heap.SameBut z h1 h2:=sb;have lz:z<s.heap.objs.size:=aF st.self;have al:∀c∈gN z ti to i1 i2,c<s.heap.objs.size:=λc hc=>by
   obtain⟨gs,gi,⟨u,v,go⟩,⟨o1,q1,r1⟩,⟨o2,q2,r2⟩⟩:=id st;have qx:c=z\/c=ti\/c=to\/c=i1\/c=i2:=by simpa[gN]using hc
   rcases qx with rfl|rfl|rfl|rfl|rfl
   ·exact aF gs
   ·exact aF gi
   ·exact aF go
   ·exact aF q1
   ·exact aF q2
  have vO:∀c o,c∉gN z ti to i1 i2->s.heap.get? c=some o->h2.get? c=some o:=λc o hc e=>
   qJ.extBut c o (-16) (kp c o (-16) (-16) (-16) (-16) e)
  have tp:IsTup h2 s.heap.objs.size ([u1,u2]:Aag).toArray/\∃o,h2.get? s.heap.objs.size=some o/\o.dict=none:={{_,qJ.extBut _ _ (bu lz) pr,rfl,_,rfl},_,qJ.extBut _ _ (bu lz) pr,rfl};have I2:=I.LO (t':=s.toks) (xs:=[x,y]) vO hf (ak _) tp (.cons IV (.cons ET .nil)) (-71);obtain⟨⟨n1,n2,n3,n4⟩,n5,n6,n7,n8⟩:=g1.ne;obtain⟨gs,gi,⟨u,v,go⟩,⟨o1,q1,r1⟩,⟨o2,q2,r2⟩⟩:=g1;refine{.ref s.heap.objs.size,_,I2,rfl,{_,x,y,rfl,I.bj.fresh (ak _),rfl,λzs hz=>by rw[I.Az hz ha];exact hx,λzs hz=>by rw[I.Az hz hb];exact hy},{z2,qJ.extBut _ _ n1 gi,{u,v,qJ.extBut _ _ n2 go},{o1,qJ.extBut _ _ n3 q1,r1},{o2,qJ.extBut _ _ n4 q2,r2}},λc hc=>?_};rw[aw (aH (al c hc))];exact(hf c hc).1
 done:=by intro X hP hw hK hc i pins s Z H E I hf st hg;subst hP hw hK;obtain⟨xs,ha,hx⟩:=hg;obtain⟨Fc,IU,EW,uy⟩:=I.tuple ha;have hl:=IU.length;refine Lx (I.ok.hd hc) dd st (show s.heap.IsTuple a Fc.toArray from EW) (by simp;lia) λh1 kp=>{rfl,I.LP (t':=s.toks) (ch:=gN z ti to i1 i2) (λc o hc e=>kp c o (-16) (-16) (-16) (-16) e) hf}
 self:=λ_ _ _ _ _ st h=>lZ st.self h
inductive aaL(K:Frag)(R:It->Hp->Prop)(vs:Aao)(H1:Hp):Prop
 |mk a b (_:vs=[.ref a,.ref b]) (_:(∃xs,bx K H1 a xs)) (_:(∃ys,bx K H1 b ys)) (_:R (Itz K a b) H1)
def acb(K:Frag)(ta:TA):TI:=λZ H R=>ta Z H λvs H1=>aaL K R vs H1
def XQ(hg:Gl X "zip")(hm:X.mg "zip"=none)(ha:PA X [a,b] ta)(hs:starEach [a,b] X.env=[(false,eval a X.env),(false,eval b X.env)]:=by rfl)(kN:starEach [b] X.env=[(false,eval b X.env)]:=by rfl):
  PI X (.Tuple elts kk ps) (.Call (.Name "zip" p) [a,b] [] pos) (acb X.K ta):=by
 intro pins s Z H R I h;refine FR (qN I hg hm boot_zip (dR (-55) (by rw[hs,kN]) (by rw[kN];rfl)));obtain⟨l1,l2,e,⟨xs,ha⟩,⟨ys,hb⟩,q⟩:=q1;subst e;obtain⟨u1,u2,rfl,IV,ET⟩:=vals2 r1;cases IV;cases ET;obtain⟨Fc,IU,EW,uy⟩:=I1.tuple ha;obtain⟨Bj,IT,AY,yg⟩:=I1.tuple hb;have t1:s1.heap.IsTuple l1 Fc.toArray:=EW;have t2:s1.heap.IsTuple l2 Bj.toArray:=AY;have b1:l1<s1.heap.objs.size:=by obtain⟨o,e,_⟩:=t1;exact aF e
 have b2:l2<s1.heap.objs.size:=by obtain⟨o,e,_⟩:=t2;exact aF e
 refine LA t1 t2 λh' n en g kp=>?_;subst en;have I2:Inv X pins Z H1 {s1 with heap:=h'}:=I1.kept (t':=s1.toks) kp;refine lZ g.self ?_;refine{_,_,_,_,H1,rfl,I2,SN l1 l2 _ _ _ _ _ {?_,?_,?_,?_},g,λc hc=>?_,q}
 ·exactλt=>absurd t (aH (du _))
 ·exactλt=>absurd t (aH (du _))
 ·exact aH (aZ b1 (dP _ _))
 ·exact aH (aZ b2 (dP _ _))
 ·have qx:c=s1.heap.objs.size+4\/c=s1.heap.objs.size+2\/c=s1.heap.objs.size+3\/c=s1.heap.objs.size\/c=s1.heap.objs.size+1:=by simpa[gN]using hc
  have lc:s1.heap.objs.size<=c:=by rcases qx with e|e|e|e|e<;>rw[e]<;>first|exact ak _|exact dP _ _
  exact I1.sr lc (I1.bj.fresh lc)
section
variable{P:Program}{w:World}{A:Around}{E:Aae}{v:Shared}
def CO(h:Q (v.heap.get? a) v):wpAny M A (loadIfAlive a) Q E v:=λΓ p _=>by show Sem.wp M Γ (Sem.loadIfAlive a Sem.pure) _ _ p v;rw[Sem.wp_loadIfAlive];exact h
abbrev yF(f0:Value)(b:Bool)(ti to:Addr):Obj:={cls:=.type "zip",dict:=none,data:=.fields #[f0,.bool b,.bool false,.ref ti,.ref to],slots:=#[]}
structure Zs(h:Heap)(z ti to i1 i2 l1 l2 T:Addr)(k:Nat):Prop where
 self:∃b,h.get? z=some (yF (rawInt T) b ti to)
 live:∃o,h.get? T=some o
 ins:IsPair h ti (.ref i1) (.ref i2)
 w1:h.IsListIter i1 l1 k
 w2:h.IsListIter i2 l2 k
def Lz{z ti to T:Addr}(g:v.heap.get? z=some (yF (rawInt T) b ti to))(l:∃o,v.heap.get? T=some o)
  (q:∀h',h'.get? z=some (yF (rawInt T) true ti to)->Heap.SameBut z v.heap h'->Q false {v with heap:=h'}):wpAny (-25) A (Builtin.SmallTypes.ownedTupleIsFree (.ref z)) Q E v:=by
 obtain⟨o,l⟩:=l;unfold Builtin.SmallTypes.ownedTupleIsFree;refine ae (bF g rfl rfl ?_);refine ae (CO ?_);rw[cV,l];refine ae (bF g rfl rfl ?_);cases b with
 |true=>
  exact af (q v.heap g (CJ _ _))
 |false=>
  refine ae (b9 g (-9) λh1 g1 s1=>af (q h1 g1 s1))
variable{prog:Program}
def ON:typeLookup (.type "zip") "__getattr__"=pure none:=by rw[js,fV];kernel_rfl
def Yx:typeLookup (.type "zip") "keys"=pure none:=by rw[js,fV];kernel_rfl
def acs:entryFor table "zip.__getattribute__"=some Builtin.«object.__getattribute__»:=yu (id':="object.__getattribute__") (by kernel_rfl) (-3) (-3) (by kernel_rfl)
def Yw{os:OsState}(hx:h.get? a=some (yF f0 b ti to))(hA:A.handled=none)
  (k:∀h' tk e,Heap.NewAttrErr h h' e (-49) "keys"->E (.ref e) ⟨h',g,d,tk,os⟩):
  wpAny (-5) A (Builtin.«object.__getattribute__» {[.ref a,.str "keys" u],[]}) Q E ⟨h,g,d,t,os⟩:=by
 have f4:=Yx;unfold Builtin.«object.__getattribute__»
 repeat (any_goals (first|(assumption)|(wp_step)))
 refine yG hA k ?_;exact attrMsg_fits (-3) (by size_fits)
def Yy{os:OsState}(hx:h.get? a=some (yF f0 b ti to))(hA:A.handled=none)
  (k:∀h' tk e,Heap.NewAttrErr h h' e (-49) "keys"->R (.error (.ref e)) ⟨h',g,d,tk,os⟩):
  codeAny (-5) A (.call (.builtin "zip.__getattribute__") {[.ref a,.str "keys" u],[]}) R ⟨h,g,d,t,os⟩:=
 qZ F.slot_zip_getattribute.plain acs (F.slot_zip_getattribute.check _ _ _ _ _ _ _ _ (show(⟨h,g,d,t,os⟩:Shared).TypeIs (-49) "zip"from⟨_,hx,rfl⟩) (F.args_zip_getattribute_2 _ _) (Yw hx hA k))
def acu{os:OsState}(hx:h.get? a=some (yF f0 b ti to))(hA:A.handled=none)
  (k:∀h' tk e,Heap.NewAttrErr h h' e (-49) "keys"->E (.ref e) ⟨h',g,d,tk,os⟩):
  wpAny (-5) A (getAttrBy (-49) (.str "keys" u) false) Q E ⟨h,g,d,t,os⟩:=by
 have g2:=F.slot_zip_getattribute.lookup;have g3:=F.slot_zip_getattribute.bind (-49);have f5:=ON;have f1:=nB
 repeat (any_goals (first|(assumption)|(wp_step)))
 refine Yy hx hA λh' tk e ne=>?_;obtain⟨t',u',he⟩:=ne.there;unfold getattributeRaised
 repeat (any_goals (first|(assumption)|(wp_step)))
 exact k _ _ _ ne
def Yz{os:OsState}(hx:h.get? a=some (yF f0 b ti to))(hA:A.handled=none)
  (k:∀h' tk e,Heap.NewAttrErr h h' e (-49) "keys"->Q none ⟨h',g,d,tk,os⟩):
  wpAny (-5) A (getAttr? (-49) "keys") Q E ⟨h,g,d,t,os⟩:=by
 have f1:=nB;unfold getAttr? getAttrBy?
 repeat (any_goals (first|assumption|(with_reducible refine acu hx hA λh' tk e ne=>?_)|wp_step))
 obtain⟨t',u',he⟩:=ne.there
 repeat (any_goals (first|(assumption)|(wp_step)))
 exact k _ _ _ ne
end
section
theorem LC:∀{ks:List Key}{ys:Aao}{us vs:Aag},Vals (ks.map kV) us->Vals ys vs->ks.length=ys.length->∃pairs:List (Key×Value),Paired (λ(u:Value)(p:Key×Value)=>(bz P w).is p.1 u=true) us pairs/\vs=pairs.map (·.2)/\KV (ks.zip ys) pairs/\pairs.length=ks.length
 |[],[],_,_,.nil,.nil,_=>{[],.nil,rfl,.nil,rfl}
 |k::ks,y::ys,_,_,.cons (b:=u) r1 t1,.cons (b:=v) r2 t2,h=>by obtain⟨ps,h1,h2,h3,h4⟩:=LC t1 t2 (Nat.succ.inj h);exact{(k,v)::ps,.cons (uT r1) h1,by rw[aR,<-h2],.cons ⟨rfl,r2⟩ h3,cc Nat.succ h4}
end
end L2
namespace Tb
open PySem PySem.SetTable
def S:Nat->Nat
 |0=>0
 |n+1=>5*S n+1
def F:Nat->Nat->Nat
 |0,i=>i
 |n+1,i=>5*F n i+1
theorem K4:∀n i,F n i=i+S n*(4*i+1)
 |0,i=>by simp[F,S]
 |n+1,i=>by show 5*F n i+1=i+(5*S n+1)*(4*i+1);rw[K4 n i,DB,kK,pP];generalize S n*(4*i+1)=z;lia
def W5(m:Nat):∀n i,F (m+n) i=F m (F n i):=by
 intro n i
 induction m with
 |zero=>simp[F]
 |succ m ih=>
  rw[show m+1+n=(m+n)+1 by lia];show 5*F (m+n) i+1=5*F m (F n i)+1;rw[ih]
def acz(n:Nat):S (n+n)=2*S n*(2*S n+1):=by have h:=W5 n n 0;rw[K4,K4 n (F n 0),K4 n 0]at h;simp only[Nat.mul_zero,BL,Nat.mul_one]at h;rw[h];generalize S n=x;rw[pP,pP,show x*(4*x)=2*x*(2*x) by rw[uD,show(4:Nat)=2*2 from rfl,kK,kK,uD x 2 x]];lia
theorem W0:∀k,∃c,S (2^k)=2^k*(2*c+1)
 |0=>{0,rfl}
 |k+1=>by
  obtain⟨c,hc⟩:=W0 k;refine{2*c*S (2^k)+c+S (2^k),?_};rw[show 2^(k+1)=2^k+2^k by rw[jk];lia,acz];generalize hs:S (2^k)=s at hc;have e:2*s*(2*s+1)=2*(2^k*(2*c+1))*(2*s+1):=by rw[<-hc]
  rw[e,<-Nat.two_mul,<-kK,kK (2*2^k)];congr 1;rw[DB,pP,pP,pP];have:2*c*(2*s)=2*(2*c*s):=by rw[uD]
  lia
theorem cover:∀(k i j:Nat),∃n,n<2^k/\F n i % 2^k=j % 2^k
 |0,i,j=>{0,by decide,by simp[Nat.mod_one]}
 |k+1,i,j=>by
  obtain⟨n,hn,e⟩:=cover k i j;have hm:=Nat.two_pow_pos k;rw[jk];by_cases c:F n i/2^k % 2=j/2^k % 2
  ·exact{n,by lia,by rw[xx,xx,e,c]}
  ·obtain⟨z,hz⟩:=W0 k;refine{2^k+n,by lia,?_};have e2:F (2^k+n) i=F n i+2^k*(2*(z*(4*F n i+1)+2*F n i)+1):=by rw[W5,K4 (2^k),hz,kK];congr 2;rw[DB,Nat.one_mul,kK];generalize z*(4*F n i+1)=w;lia
   rw[e2,xx,xx,Nat.add_mul_mod_self_left,Nat.add_mul_div_left _ _ hm,e];congr 2;generalize z*(4*F n i+1)+2*F n i=y;lia
def Dw(mask:Nat)(p:Probe):Probe:=
 if p.more>0 then{p with j:=p.j+1,more:=p.more -1}else
 {p with j:=(leap mask p.i p.perturb).1,more:=runEnd mask (leap mask p.i p.perturb).1 -(leap mask p.i p.perturb).1,i:=(leap mask p.i p.perturb).1,perturb:=(leap mask p.i p.perturb).2}
abbrev L0(mask i q:Nat):Probe:={j:=i,more:=runEnd mask i -i,i:=i,perturb:=q,dummy:=none}
def pr(mask:Nat)(h:Int):Nat->Probe
 |0=>L0 mask (bits h %(mask+1)) (bits h)
 |d+1=>Dw mask (pr mask h d)
def S9(t:SetTable)(h:Int):t.probeStart h=pr t.mask h 0:=rfl
def ps(mask:Nat)(h:Int)(d:Nat):Nat:=(pr mask h d).j
def lp(mask:Nat)(h:Int):Nat->Nat×Nat
 |0=>(bits h %(mask+1),bits h)
 |n+1=>leap mask (-21).1 (-21).2
def run(mask i:Nat):Nat:=runEnd mask i -i
def Tn(mask:Nat)(h:Int):Nat->Nat
 |0=>0
 |n+1=>Tn mask h n+run mask (-21).1+1
def ZU(mask i:Nat):run mask i<=9:=by unfold run runEnd;split<;>lia
theorem WY(mask:Nat)(h:Int):∀n,Tn mask h n<=10*n
 |0=>ak _
 |n+1=>by have:=WY mask h n;have:=ZU mask (-21).1;show Tn mask h n+run mask (-21).1+1<=_;lia
def XO(mask:Nat)(h:Int):∀n,pr mask h (Tn mask h n)=L0 mask (-21).1 (-21).2/\∀e,e<=run mask (-21).1->pr mask h (Tn mask h n+e)={j:=(-21).1+e,more:=run mask (-21).1 -e,i:=(-21).1,perturb:=(-21).2,dummy:=none}:=by
 have PZ:∀n,pr mask h (Tn mask h n)=L0 mask (-21).1 (-21).2->∀e,e<=run mask (-21).1->pr mask h (Tn mask h n+e)={j:=(-21).1+e,more:=run mask (-21).1 -e,i:=(-21).1,perturb:=(-21).2,dummy:=none}:=by
  intro n h0 e
  induction e with
  |zero=>intro _;rw[ko,h0];rfl
  |succ e ih=>
   intro he;rw[<-pZ];show Dw mask (pr mask h (Tn mask h n+e))=_;rw[ih ∅];unfold Dw;rw[aD (show run mask (-21).1 -e>0 by lia)];congr 1
 intro n
 induction n with
 |zero=>exact{rfl,PZ 0 rfl}
 |succ n ih=>
  have h1:pr mask h (Tn mask h (n+1))=L0 mask (lp mask h (n+1)).1 (lp mask h (n+1)).2:=by show Dw mask (pr mask h (Tn mask h n+run mask (-21).1))=_;rw[ih.2 _ (ak _)];unfold Dw;rw[au (-9)];rfl
  exact{h1,PZ _ h1}
def EV{mask:Nat}(he:e<=run mask (-21).1):ps mask h (Tn mask h n+e)=(-21).1+e:=by unfold ps;rw[(XO mask h n).2 e he]
theorem ab7(mask:Nat)(h:Int):∀n,(-21).1<mask+1
 |0=>rq _ (rj _)
 |n+1=>rq _ (rj _)
theorem aay(mask:Nat)(h:Int):∀n,(-21).2=bits h/32^n
 |0=>by simp[lp]
 |n+1=>by show(-21).2/32=_;rw[aay mask h n,Nat.div_div_eq_div_mul,jk]
def YN(h:Int):bits h<2^64:=by unfold bits;lia
theorem MA{mask k:Nat}(hk:mask+1=2^k)(h:Int):∀n,(lp mask h (13+n)).1=F n (lp mask h 13).1 % 2^k
 |0=>by have:=ab7 mask h 13;show(lp mask h 13).1=(lp mask h 13).1 % 2^k;rw[Nat.mod_eq_of_lt ∅]
 |n+1=>by
  show((lp mask h (13+n)).1*5+1+(lp mask h (13+n)).2/32) %(mask+1)=(5*F n (lp mask h 13).1+1) % 2^k;have q0:(lp mask h (13+n)).2/32=0:=by rw[aay];have h1:=YN h;have h2:32^13<=32^(13+n):=gj (-8) ∅;rw[Nat.div_eq_of_lt (show bits h<32^(13+n)from aZ (f9 h1 (-8)) h2)]
  rw[q0,MA hk h n,hk,ko,Nat.add_mod,Nat.mul_mod,Nat.mod_mod,<-Nat.mul_mod,<-Nat.add_mod,Nat.mul_comm]
def hits{mask k:Nat}(hk:mask+1=2^k)(h:Int)(hj:j<=mask):∃n,n<=13+mask/\(-21).1=j/\ps mask h (Tn mask h n)=j:=by obtain⟨n,hn,e⟩:=cover k (lp mask h 13).1 j;have e2:=MA hk h n;rw[e,Nat.mod_eq_of_lt ∅]at e2;refine{13+n,by lia,e2,?_};have:=EV (mask:=mask) (h:=h) (n:=13+n) (aP _);rw[ko,ko]at this;rw[this,e2]
def NN{mask:Nat}:ps mask h d<=mask:=by
 have key:∀d,(pr mask h d).j+(pr mask h d).more<=mask:=by
  have base:∀i q,i<mask+1->(L0 mask i q).j+(L0 mask i q).more<=mask:=λi q hi=>by show i+(runEnd mask i -i)<=mask;unfold runEnd;split<;>lia
  intro d
  induction d with
  |zero=>exact base _ _ (rq _ (rj _))
  |succ d ih=>
   show(Dw mask (pr mask h d)).j+(Dw mask (pr mask h d)).more<=mask;unfold Dw;split
   ·show(pr mask h d).j+1+((pr mask h d).more -1)<=mask;lia
   ·exact base _ 0 (rq _ (rj _))
 have:=key d;unfold ps;lia
def least{p:Nat->Prop}:∀{n},p n->∃m,m<=n/\p m/\∀e,e<m->¬p e:=by
 intro n
 induction n using Nat.strongRecOn with
 |ind n ih=>
  intro hn;by_cases c:∃e,e<n/\p e
  ·obtain⟨e,he,pe⟩:=c;obtain⟨m,h1,h2,h3⟩:=ih e he pe;exact{m,by lia,h2,h3}
  ·exact{n,ak _,hn,λe he pe=>c ⟨e,he,pe⟩}
def nW(xs:Array Nat):Prop:=∀i k,i<k->k<xs.size->xs.getD i 0<xs.getD k 0
def UP{xs:Array Nat}(h:i<xs.size):xs.getD i a=xs.getD i b:=by simp[Array.getD,h]
def getD_some{xs:Array Nat}:xs[i]?=some j↔i<xs.size/\xs.getD i 0=j:=by
 constructor
 ·intro e;obtain⟨h,e⟩:=gM.mp e;exact{h,by simp[Array.getD,h,e]}
 ·rintro⟨h,e⟩;rw[bh h];simpa[Array.getD,h]using e
theorem Em(hr:nW xs)(j:Nat):∀(f lo hi:Nat),lo<=hi->hi<=xs.size->hi -lo<=f->(∀i,i<lo->xs.getD i 0<j)->(∀i,hi<=i->i<xs.size->j<=xs.getD i 0)->
  below.go xs j f lo hi<=xs.size/\(∀i,i<below.go xs j f lo hi->xs.getD i 0<j)/\∀i,below.go xs j f lo hi<=i->i<xs.size->j<=xs.getD i 0
 |0,lo,hi,h1,h2,h3,h4,h5=>by show lo<=xs.size/\(∀i,i<lo->xs.getD i 0<j)/\∀i,lo<=i->i<xs.size->j<=xs.getD i 0;exact{by lia,h4,λi a b=>h5 i ∅ b}
 |f+1,lo,hi,h1,h2,h3,h4,h5=>by
  unfold below.go;by_cases c:lo<hi
  ·simp only[aD c];have hm:(lo+hi)/2<xs.size:=by lia
   rw[UP (b:=0) hm];by_cases d:xs.getD ((lo+hi)/2) 0<j
   ·simp only[aD d];refine Em hr j f _ _ ∅ h2 ∅ (λi RB=>?_) h5;by_cases e:i=(lo+hi)/2
    ·rw[e];exact d
    ·exact f9 (hr i _ ∅ hm) d
   ·simp only[au d];refine Em hr j f _ _ ∅ ∅ ∅ h4 λi a b=>?_;by_cases e:i=(lo+hi)/2
    ·rw[e];lia
    ·have:=hr ((lo+hi)/2) i ∅ b;lia
  ·simp only[au c];exact{by lia,h4,λi a b=>h5 i ∅ b}
def u4(hr:nW xs)(j:Nat):below xs j<=xs.size/\(∀i,i<below xs j->xs.getD i 0<j)/\∀i,below xs j<=i->i<xs.size->j<=xs.getD i 0:=
 Em hr j xs.size 0 xs.size (aP _) (ak _) ∅ (λi h=>absurd h (jx _)) λi a b=>by lia
def below_at(hr:nW xs)(e:xs[i]?=some j):below xs j=i:=by
 obtain⟨h1,h2,h3⟩:=u4 hr j;obtain⟨hi,e⟩:=getD_some.mp e;rcases k8 (below xs j) i with c|c|c
 ·have:=h3 _ (ak _) ∅;have:=hr _ _ c hi;lia
 ·exact c
 ·have:=h2 i c;lia
def GN{t:SetTable}(hr:nW t.place)(e:t.place[i]?=some j):t.slot j=.live i:=by unfold SetTable.slot;rw[below_at hr e];simp[e]
def PU{t:SetTable}(hd:t.dummies=#[])(e:∀i:Nat,t.place[i]?≠some j):t.slot j=.empty:=by unfold SetTable.slot;have h1:¬(t.place[below t.place j]?==some j)=true:=λh=>e _ (iE h);rw[au h1,hd];rw[au (by simp[has])]
def OI{mask:Nat}(hr:nW xs)(hs:xs.size<=mask):∃j:Nat,j<=mask/\∀i:Nat,xs[i]?≠some j:=by
 by_cases c:∃j:Nat,j<=mask/\∀i:Nat,xs[i]?≠some j
 ·exact c
 ·exfalso;have all:∀j:Nat,j<=mask->∃i:Nat,xs[i]?=some j:=λj hj=>nh λn=>c {j,hj,λi e=>n ⟨i,e⟩};have key:∀m:Nat,m<=mask->xs[m]?=some m:=by
   intro m
   induction m using Nat.strongRecOn with
   |ind m ih=>
    intro hm;obtain⟨i,e⟩:=all m hm;rcases k8 i m with q|q|q
    ·have:=ih i q ∅;rw[this]at e;cases e;lia
    ·rw[<-q];rw[q]at e⊢;exact e
    ·obtain⟨hi,ei⟩:=getD_some.mp e;have h1:=hr m i q hi;have h2:m<=xs.getD m 0:=by
      cases m with
      |zero=>exact aP _
      |succ m=>
       obtain⟨_,e3⟩:=getD_some.mp (ih m ∅ ∅);have:=hr m (m+1) ∅ ∅;lia
     lia
  obtain⟨h,_⟩:=getD_some.mp (key mask (ak _));lia
structure Tab(t:SetTable)(hs:List Int):Prop where
 pow:∃k,t.mask+1=2^k
 big:7<=t.mask
 R5:t.dummies=#[]
 rise:nW t.place
 sz:t.place.size=hs.length
 gD:hs.length<=t.mask
 le:∀i j:Nat,t.place[i]?=some j->j<=t.mask
 reach:∀(i:Nat)(h:Int),hs[i]?=some h->∃d,t.place[i]?=some (ps t.mask h d)/\∀e,e<d->∃i':Nat,t.place[i']?=some (ps t.mask h e)
def Tab.fits(T:Tab t hs):t.fits hs.length=true:=by unfold SetTable.fits SetTable.fill;have h1:=T.sz;have h2:=T.gD;rw[T.R5,h1];simp[h2]
def Tab.way(T:Tab t hs):t.gaveWay=false:=by
 obtain⟨k,hk⟩:=T.pow;have:=T.big;unfold SetTable.gaveWay;cases k with
 |zero=>rw[Nat.pow_zero]at hk;lia
 |succ k=>rw[jk]at hk;simp;lia
def Tab.fresh(finger moves:Nat)(led:Bool):Tab (.fresh finger moves led) [] where
 pow:={3,rfl}
 big:=ak 7
 R5:=rfl
 rise:=λi k _ h=>absurd h (jx _)
 sz:=rfl
 gD:=aP _
 le:=λi j e=>by simp[SetTable.fresh]at e
 reach:=λi h e=>by simp at e
structure Pa(t:SetTable)(h:Int)(D:Nat):Prop where
 lt:D<10*turns t.mask
 no:∀i:Nat,t.place[i]?≠some (-26)
 ahead:∀e,e<D->∃i:Nat,t.place[i]?=some (ps t.mask h e)
def Tab.free(T:Tab t hs)(h:Int):∃D,Pa t h D:=by obtain⟨k,hk⟩:=T.pow;obtain⟨j,hj,hn⟩:=OI T.rise (show t.place.size<=t.mask by rw[T.sz];exact T.gD);obtain⟨n,Ro,_,e⟩:=hits hk h hj;obtain⟨D,h1,h2,h3⟩:=least (p:=λd=>∀i:Nat,t.place[i]?≠some (ps t.mask h d)) (n:=Tn t.mask h n) (by rw[e];exact hn);have:=WY t.mask h n;refine{D,by unfold turns;lia,h2,λe he=>nh λq=>h3 e he λi z=>q ⟨i,z⟩}
theorem Jf(mask:Nat)(h:Int):∀d,(pr mask h d).dummy=none
 |0=>rfl
 |d+1=>by show(Dw mask (pr mask h d)).dummy=none;unfold Dw;split<;>exact Jf mask h d
def Tab.live(T:Tab t hs){i j:Nat}(e:t.place[i]?=some j):∃h,hs[i]?=some h:=by obtain⟨hi,_⟩:=getD_some.mp e;rw[T.sz]at hi;exact{_,aq hi}
theorem Je(T:Tab t hs)(fr:Pa t h D)(ha:∀(i:Nat)(g:Int),hs[i]?=some g->hashAt i=g):∀(f d:Nat),d<=D->D -d<f->
  (probe.go t hashAt h f (pr t.mask h d)=some (.empty (-26) none)/\∀e,d<=e->e<D->∀i:Nat,t.place[i]?=some (ps t.mask h e)->hs[i]?≠some h)\/
  ∃e i,d<=e/\e<D/\t.place[i]?=some (ps t.mask h e)/\hs[i]?=some h/\probe.go t hashAt h f (pr t.mask h d)=some (.candidate (ps t.mask h e) i (pr t.mask h (e+1)))/\∀e',d<=e'->e'<e->∀i':Nat,t.place[i']?=some (ps t.mask h e')->hs[i']?≠some h
 |0,d,_,hf=>absurd hf (jx _)
 |f+1,d,hd,hf=>by
  unfold probe.go;by_cases c:d=D
  ·subst c;have e:t.slot (pr t.mask h d).j=.empty:=PU T.R5 fr.no;rw[e];refine .inl {?_,λe a b=>by lia};show some (Met.empty (ps t.mask h d) (pr t.mask h d).dummy)=_;rw[Jf]
  ·obtain⟨i,hi⟩:=fr.ahead d ∅;have e:t.slot (pr t.mask h d).j=.live i:=GN T.rise hi;rw[e];obtain⟨g,hg⟩:=T.live hi;have hu:∀i':Nat,t.place[i']?=some (ps t.mask h d)->i'=i:=λi' q=>by rw[<-below_at T.rise q,<-below_at T.rise hi]
   by_cases c2:hashAt i=h
   ·refine .inr {d,i,ak _,by lia,hi,?_,?_,λe' a b=>by lia}
    ·rw[ha i g hg]at c2;rw[hg,c2]
    ·show(if(hashAt i==h)=true then some (Met.candidate (ps t.mask h d) i (t.advance (pr t.mask h d)))else probe.go t hashAt h f (t.advance (pr t.mask h d)))=_;rw[aD (by rw[c2];exact BEq.rfl)];rfl
   ·have no:∀i':Nat,t.place[i']?=some (ps t.mask h d)->hs[i']?≠some h:=λi' q z=>by rw[hu i' q]at z;exact c2 (ha i h z)
    have ih:=Je T fr ha f (d+1) ∅ ∅;have eq:(if(hashAt i==h)=true then some (Met.candidate (ps t.mask h d) i (t.advance (pr t.mask h d)))else probe.go t hashAt h f (t.advance (pr t.mask h d)))=probe.go t hashAt h f (pr t.mask h (d+1)):=by rw[au (by simpa using c2)];rfl
    rcases ih with⟨h1,h2⟩|⟨e,i2,h1,h2,h3,h4,h5,h6⟩
    ·refine .inl {eq.trans h1,λe a b i' q=>?_};by_cases z:e=d
     ·rw[z]at q;exact no i' q
     ·exact h2 e ∅ b i' q
    ·refine .inr {e,i2,by lia,h2,h3,h4,eq.trans h5,λe' a b i' q=>?_};by_cases z:e'=d
     ·rw[z]at q;exact no i' q
     ·exact h6 e' ∅ b i' q
def ji(l:List α)(p:Nat)(x:α):List α:=l.take p++x::l.drop p
def JY(l:List α)(x:α)(hp:p<=l.length)(i:Nat):(ji l p x)[i]?=if i<p then l[i]? else if i=p then some x else l[i -1]?:=by
 unfold ji;by_cases c:i<p
 ·rw[aD c,dE (by rw[aL];lia),oo c]
 ·rw[au c,dw (by rw[aL];lia),aL,il hp];by_cases c2:i=p
  ·rw[aD c2,c2,BN];rfl
  ·rw[au c2,show i -p=(i -p -1)+1 by lia,oX,BS];congr 1;lia
def xq(l:List α)(x:α)(hp:p<=l.length):(ji l p x).length=l.length+1:=by unfold ji;rw[aK,bK,aL,mq];lia
def QW(l:List α)(p:Nat)(x:α):(ji l p x).Perm (x::l):=by unfold ji;refine List.perm_middle.trans ?_;rw[dq]
def JX(f:α->β)(l:List α)(p:Nat)(x:α):(ji l p x).map f=ji (l.map f) p (f x):=by unfold ji;simp
def qQ(xs:Array α)(p:Nat)(x:α):(insertAt xs p x).toList=ji xs.toList p x:=by unfold insertAt ji;simp[cj]
def nW.of_get(h:∀i k a b:Nat,i<k->xs[i]?=some a->xs[k]?=some b->a<b):nW xs:=λi k Kn hk=>
 h i k _ _ Kn (getD_some.mpr {by lia,rfl}) (getD_some.mpr ⟨hk,rfl⟩)
def nW.get(h:nW xs){i k a b:Nat}(Kn:i<k)(ha:xs[i]?=some a)(hb:xs[k]?=some b):a<b:=by obtain⟨h1,e1⟩:=getD_some.mp ha;obtain⟨h2,e2⟩:=getD_some.mp hb;have:=h i k Kn h2;lia
def AV{t:SetTable}(hr:nW t.place)(j i:Nat):(t.put j).1.place[i]?=if i<below t.place j then t.place[i]? else if i=below t.place j then some j else t.place[i -1]?:=by show(insertAt t.place (below t.place j) j)[i]?=_;rw[<-bB,qQ,JY _ _ (by rw[aQ];exact(u4 hr j).1)];simp only[bB]
def F4{t:SetTable}(hr:nW t.place){i v:Nat}(e:t.place[i]?=some v):∃i':Nat,(t.put j).1.place[i']?=some v:=by
 by_cases c:i<below t.place j
 ·exact{i,by rw[AV hr,aD c,e]}
 ·exact{i+1,by rw[AV hr,au ∅,au ∅,Nat.add_sub_cancel,e]}
def Tab.put(T:Tab t hs)(fr:Pa t h D)(room:hs.length+1<=t.mask):Tab (t.put (-26)).1 (ji hs (t.put (-26)).2 h):=by
 have hb:=u4 T.rise (-26);have hp:(t.put (-26)).2=below t.place (-26):=rfl;have Bq:below t.place (-26)<=hs.length:=by rw[<-T.sz];exact hb.1
 rw[hp];have pl:=λi=>AV T.rise (-26) i;have hl:=JY hs h Bq;have at_:(t.put (-26)).1.place[below t.place (-26)]?=some (-26):=by rw[pl,au (dv _),aD rfl]
 have lo:∀i a:Nat,i<below t.place (-26)->t.place[i]?=some a->a<ps t.mask h D:=λi a c e=>by obtain⟨_,e⟩:=getD_some.mp e;have:=hb.2.1 i c;lia
 have hi:∀i a:Nat,below t.place (-26)<=i->t.place[i]?=some a->ps t.mask h D<a:=λi a c e=>by obtain⟨l,e'⟩:=getD_some.mp e;have:=hb.2.2 i c l;have ne:a≠ps t.mask h D:=λz=>fr.no i (by rw[e,z]);lia
 refine{T.pow,T.big,?_,?_,?_,?_,λi j e=>?_,λi g e=>?_}
 ·show(if has t.dummies (-26)=true then _ else t.dummies)=_;rw[T.R5];simp[has]
 ·refine nW.of_get λi k a b Kn ha kP=>?_;rw[pl]at ha kP;by_cases c1:i<below t.place (-26)
  ·rw[aD c1]at ha;by_cases c2:k<below t.place (-26)
   ·rw[aD c2]at kP;exact T.rise.get Kn ha kP
   ·rw[au c2]at kP;by_cases c3:k=below t.place (-26)
    ·rw[aD c3]at kP;cases kP;exact lo i a c1 ha
    ·rw[au c3]at kP;exact f9 (lo i a c1 ha) (hi _ b ∅ kP)
  ·rw[au c1]at ha;rw[au ∅,au ∅]at kP;by_cases c3:i=below t.place (-26)
   ·rw[aD c3]at ha;cases ha;exact hi _ b ∅ kP
   ·rw[au c3]at ha;exact T.rise.get ∅ ha kP
 ·rw[xq _ _ Bq,<-T.sz,<-aQ];show(insertAt t.place (below t.place (-26)) (-26)).toList.length=_;rw[qQ,xq _ _ (by rw[aQ];exact hb.1),aQ]
 ·rw[xq _ _ Bq];exact room
 ·rw[pl]at e;by_cases c1:i<below t.place (-26)
  ·rw[aD c1]at e;exact T.le i j e
  ·rw[au c1]at e;by_cases c3:i=below t.place (-26)
   ·rw[aD c3]at e;cases e;exact NN
   ·rw[au c3]at e;exact T.le _ j e
 ·have mk:(t.put (-26)).1.mask=t.mask:=rfl;rw[mk];rw[hl]at e;by_cases c1:i<below t.place (-26)
  ·rw[aD c1]at e;obtain⟨d,h1,h2⟩:=T.reach i g e;exact{d,by rw[pl,aD c1];exact h1,λx hx=>let⟨_,q⟩:=h2 x hx;F4 T.rise q}
  ·rw[au c1]at e;by_cases c3:i=below t.place (-26)
   ·rw[aD c3]at e;cases e;exact{D,by rw[c3];exact at_,λx hx=>let⟨_,q⟩:=fr.ahead x hx;F4 T.rise q}
   ·rw[au c3]at e;obtain⟨d,h1,h2⟩:=T.reach _ g e;exact{d,by rw[pl,au c1,au c3];exact h1,λx hx=>let⟨_,q⟩:=h2 x hx;F4 T.rise q}
def Tab.of_eq(T:Tab t hs)(h1:t'.mask=t.mask)(h2:t'.place=t.place)(h3:t'.dummies=t.dummies):Tab t' hs:=by obtain⟨a1,a2,a3,a4,a5,a6,a7,a8⟩:=T;rw[<-h1]at a1 a2 a6 a7 a8;rw[<-h2]at a4 a5 a7 a8;rw[<-h3]at a3;exact⟨a1,a2,a3,a4,a5,a6,a7,a8⟩
structure Own(mask:Nat)(ow:Array (Option Nat))(hs:List Int):Prop where
 sz:ow.size=mask+1
 lt:∀j i:Nat,ow[j]?=some (some i)->i<hs.length
 inj:∀j j' i:Nat,ow[j]?=some (some i)->ow[j']?=some (some i)->j=j'
 at_:∀(i:Nat)(h:Int),hs[i]?=some h->∃d,ow[ps mask h d]?=some (some i)/\∀e,e<d->∃i':Nat,ow[ps mask h e]?=some (some i')
def Own.empty{mask:Nat}(O:Own mask ow hs)(gD:hs.length<=mask):∃j:Nat,j<=mask/\ow[j]?=some none:=by
 by_cases c:∃j:Nat,j<=mask/\ow[j]?=some none
 ·exact c
 ·exfalso;have all:∀j:Nat,j<=mask->ow[j]?=some (some ((ow.getD j none).getD 0)):=λj hj=>by
   have hl:j<ow.size:=by rw[O.sz];lia
   have e:ow[j]?=some (ow.getD j none):=by rw[bh hl];simp[Array.getD,hl]
   cases q:ow.getD j none with
   |none=>exact(c {j,hj,by rw[e,q]}).elim
   |some i=>rw[e,q];rfl
  have nd:((List.range (mask+1)).map λj=>(ow.getD j none).getD 0).Nodup:=by
   refine fK.mpr (kz (λ{a b} ha hb ne e=>ne (O.inj a b _ (all a ?_) (e▸all b ?_))) List.nodup_range)
   ·have:=c8.mp ha;lia
   ·have:=c8.mp hb;lia
  have sub:((List.range (mask+1)).map λj=>(ow.getD j none).getD 0)⊆List.range hs.length:=λx hx=>by obtain⟨j,hj,rfl⟩:=aA.mp hx;have:=c8.mp hj;exact c8.mpr (O.lt j _ (all j ∅))
  have:=List.Nodup.length_le_of_subset nd sub;rw[ag,jJ,jJ]at this;lia
def YT(mask:Nat)(h:Int)(hmn:m<=n):Tn mask h m<=Tn mask h n:=by
 induction n with
 |zero=>rw[Nat.le_zero.mp hmn];exact ak _
 |succ n ih=>
  by_cases c:m=n+1
  ·rw[c];exact ak _
  ·have:=ih ∅;show _<=Tn mask h n+run mask (-21).1+1;lia
def Xy(mask i:Nat):runEnd mask i+1 -i=run mask i+1:=by unfold run runEnd;split<;>lia
theorem M5{mask:Nat}(hD:ow[ps mask h D]?=some none)(hb:∀e,e<D->∃i':Nat,ow[ps mask h e]?=some (some i'))(hn0:D<=Tn mask h n0):∀(f n:Nat),Tn mask h n<=D->n0 -n<f->layClean.free mask ow f (-21).1 (-21).2=some (ps mask h D)
 |0,n,_,hf=>absurd hf (jx _)
 |f+1,n,hn,hf=>by
  have own:∀e,e<=run mask (-21).1->Tn mask h n+e<D->(ow.getD ((-21).1+e) (some 0)).isNone=false:=λe he bU=>by obtain⟨i',q⟩:=hb _ bU;rw[EV he]at q;obtain⟨l,q⟩:=gM.mp q;simp[Array.getD,l,q]
  unfold layClean.free;rw[Xy];by_cases c:D<=Tn mask h n+run mask (-21).1
  ·have e1:(List.range (run mask (-21).1+1)).find? (λk=>(ow.getD ((-21).1+k) (some 0)).isNone)=some (D -Tn mask h n):=by
    refine List.find?_range_eq_some.mpr {?_,c8.mpr ∅,λj hj=>?_}
    ·have q:=hD;rw[show D=Tn mask h n+(D -Tn mask h n) by lia,EV ∅]at q;obtain⟨l,q⟩:=gM.mp q;simp[Array.getD,l,q]
    ·rw[own j ∅ ∅];rfl
   simp only[e1];rw[<-EV ∅,show Tn mask h n+(D -Tn mask h n)=D by lia]
  ·have e1:(List.range (run mask (-21).1+1)).find? (λk=>(ow.getD ((-21).1+k) (some 0)).isNone)=none:=by refine List.find?_range_eq_none.mpr λj hj=>?_;rw[own j ∅ ∅];rfl
   simp only[e1];have lt:n<n0:=by
    rcases Nat.lt_or_ge n n0 with q|q
    ·exact q
    ·have:=YT mask h q;lia
   exact M5 hD hb hn0 f (n+1) (by show Tn mask h n+run mask (-21).1+1<=D;lia) ∅
abbrev xY(mask:Nat)(acc:Option (Array (Option Nat)×Nat))(h:Int):Option (Array (Option Nat)×Nat):=do
  let(owner,k)<-acc
  let j<-layClean.free mask owner (turns mask) (bits h %(mask+1)) (bits h)
  pure (owner.setIfInBounds j (some k),k+1)
def Lp(mask:Nat)(hashes:Array Int):layClean mask hashes=(hashes.toList.foldl (xY mask) (some (Array.replicate (mask+1) none,0))).map (·.1):=by rw[Array.foldl_toList];rfl
def Own.step{mask k:Nat}(hk:mask+1=2^k)(O:Own mask ow hs)(gD:hs.length<mask)(h:Int):∃Qf,xY mask (some (ow,hs.length)) h=some (Qf,hs.length+1)/\Own mask Qf (hs++[h]):=by
 obtain⟨j,hj,ej⟩:=O.empty (br gD);obtain⟨n0,hn0,_,e0⟩:=hits hk h hj;obtain⟨D,h1,h2,h3⟩:=least (p:=λd=>ow[ps mask h d]?=some none) (by rw[e0];exact ej);have hb:∀e,e<D->∃i':Nat,ow[ps mask h e]?=some (some i'):=λe he=>by
  have l:ps mask h e<ow.size:=by rw[O.sz];have:=NN (mask:=mask) (h:=h) (d:=e);lia
  cases q:ow[ps mask h e]with
  |none=>exact(h3 e he (by rw[bh l,q])).elim
  |some i=>exact{i,by rw[bh l,q]}
 have ef:=M5 h2 hb h1 (turns mask) 0 (aP _) (by unfold turns;lia);have ef':layClean.free mask ow (turns mask) (bits h %(mask+1)) (bits h)=some (ps mask h D):=ef;refine{ow.setIfInBounds (ps mask h D) (some hs.length),by simp[xY,ef'],?_};have l:ps mask h D<ow.size:=by rw[O.sz];have:=NN (mask:=mask) (h:=h) (d:=D);lia
 have get:∀x:Nat,(ow.setIfInBounds (ps mask h D) (some hs.length))[x]?=if x=ps mask h D then some (some hs.length)else ow[x]?:=λx=>by
  rw[Array.getElem?_setIfInBounds];by_cases c:x=ps mask h D
  ·rw[aD c,aD c.symm,aD l]
  ·rw[au c,au (bV c)]
 have keep:∀x i:Nat,ow[x]?=some (some i)->(ow.setIfInBounds (ps mask h D) (some hs.length))[x]?=some (some i):=λx i e=>by rw[get,au λz=>by rw[z,h2]at e;cases e];exact e
 refine{by simp[O.sz],λx i e=>?_,λx y i ex ey=>?_,λi g e=>?_}
 ·rw[get]at e;rw[aK,dt];by_cases c:x=ps mask h D
  ·rw[aD c]at e;cases e;lia
  ·rw[au c]at e;have:=O.lt x i e;lia
 ·rw[get]at ex ey;by_cases c:x=ps mask h D
  ·rw[aD c]at ex;cases ex;by_cases c2:y=ps mask h D
   ·rw[c,c2]
   ·rw[au c2]at ey;exact absurd (O.lt y _ ey) (dv _)
  ·rw[au c]at ex;by_cases c2:y=ps mask h D
   ·rw[aD c2]at ey;cases ey;exact absurd (O.lt x _ ex) (dv _)
   ·rw[au c2]at ey;exact O.inj x y i ex ey
 ·by_cases c:i<hs.length
  ·rw[dE c]at e;obtain⟨d,q1,q2⟩:=O.at_ i g e;exact{d,keep _ _ q1,λx hx=>let⟨i',q⟩:=q2 x hx;{i',keep _ _ q}}
  ·rw[dw ∅]at e;have ei:i=hs.length:=by
    rcases k8 i hs.length with q|q|q
    ·lia
    ·exact q
    ·rw[eU (by rw[dt];lia)]at e;cases e
   subst ei;rw[BN]at e;cases e;exact{D,by rw[get,aD rfl],λx hx=>let⟨i',q⟩:=hb x hx;{i',keep _ _ q}}
theorem Jv{mask k:Nat}(hk:mask+1=2^k):∀(rest:List Int)(ow:Array (Option Nat))(hs:List Int),Own mask ow hs->(hs++rest).length<=mask->∃Qf,rest.foldl (xY mask) (some (ow,hs.length))=some (Qf,(hs++rest).length)/\Own mask Qf (hs++rest)
 |[],ow,hs,O,_=>{ow,by simp,by simpa using O}
 |h::rest,ow,hs,O,gD=>by rw[aK,bK]at gD;obtain⟨ow1,e1,O1⟩:=O.step hk ∅ h;obtain⟨ow2,e2,O2⟩:=Jv hk rest ow1 (hs++[h]) O1 (by rw[aK,aK,dt];lia);rw[cD]at e2 O2;refine{ow2,?_,O2};rw[jA,e1];rw[aK,dt]at e2;exact e2
def Yk{mask k:Nat}(hk:mask+1=2^k)(big:7<=mask)(finger moves:Nat)(led plain:Bool)(hs:List Int)(gD:hs.length<=mask):
  ∃t order,laid mask finger moves led plain hs.toArray=some (t,order)/\t.mask=mask/\t.finger=finger/\t.led=led/\t.moves=moves/\t.plain=plain/\order.toList.Perm (List.range hs.length)/\Tab t (order.toList.map λi=>hs.getD i 0):=by
 have O0:Own mask (Array.replicate (mask+1) none) []:={by simp,λj i e=>by simp[wo]at e,λj j' i e=>by simp[wo]at e,λi h e=>by simp at e};obtain⟨ow,e,O⟩:=Jv hk hs _ _ O0 (by simpa using gD);rw[ip]at e O;have el:layClean mask hs.toArray=some ow:=by rw[Lp];have e':(hs.toArray.toList.foldl (xY mask) (some (Array.replicate (mask+1) none,0)))=some (ow,hs.length):=e;rw[e'];rfl
 obtain⟨live,Wv⟩:∃live,live=(List.range (mask+1)).filterMap λj=>(ow.getD j none).map (j,·):=⟨_,rfl⟩;have mem:∀p:Nat×Nat,p∈live↔ow[p.1]?=some (some p.2):=λp=>by
  rw[Wv,tW];constructor
  ·rintro⟨j,hj,q⟩;have lj:j<ow.size:=by rw[O.sz];exact c8.mp hj
   obtain⟨i,q1,q2⟩:=a9.mp q;subst q2;rw[bh lj];have q3:ow[j]=some i:=by simpa[Array.getD,lj]using q1
   rw[q3]
  ·intro q;obtain⟨l,q'⟩:=gM.mp q;refine{p.1,c8.mpr (by rw[<-O.sz];exact l),?_};have q3:ow.getD p.1 none=some p.2:=by simp[Array.getD,l,q']
   rw[q3];rfl
 have sub:∀(j:Nat)(b:Nat×Nat),(ow.getD j none).map (j,·)=some b->b.1=j/\ow[j]?=some (some b.2):=λj b q=>by
  obtain⟨i,q1,q2⟩:=a9.mp q;subst q2;refine{rfl,?_};by_cases l:j<ow.size
  ·rw[bh l];have q3:ow[j]=some i:=by simpa[Array.getD,l]using q1
   rw[q3]
  ·simp[Array.getD,l]at q1
 have p1:live.Pairwise (λa b=>a.1<b.1):=by rw[Wv];refine wB _ (λa a' bU b hb b' kP=>?_) xA;rw[(sub a b hb).1,(sub a' b' kP).1];exact bU
 have p2:live.Pairwise (λa b=>a.2≠b.2):=by rw[Wv];refine wB _ (λa a' bU b hb b' kP ne=>?_) xA;have q1:=(sub a b hb).2;have q2:=(sub a' b' kP).2;rw[<-ne]at q2;have:=O.inj a a' _ q1 q2;lia
 have perm:(live.map (·.2)).Perm (List.range hs.length):=by
  refine(mH (fK.mpr p2) List.nodup_range).mpr λi=>?_;rw[c8,aA];constructor
  ·rintro⟨p,hp,rfl⟩;exact O.lt _ _ ((mem p).mp hp)
  ·intro hi;obtain⟨d,q,_⟩:=O.at_ i _ (aq hi);exact{(_,i),(mem (_,i)).mpr q,rfl}
 have ll:live.length=hs.length:=by have:=perm.length_eq;rwa [ag,jJ]at this
 have pl:∀m:Nat,((live.map (·.1)).toArray)[m]?=live[m]?.map (·.1):=λm=>by simp
 refine⟨{mask,place:=(live.map (·.1)).toArray,dummies:=#[],finger,led,moves,plain},(live.map (·.2)).toArray,?_,rfl,rfl,rfl,rfl,rfl,by simpa using perm,?_⟩
 ·unfold laid;rw[el,Wv];rfl
 ·refine{⟨k,hk⟩,big,rfl,?_,?_,?_,λi j q=>?_,λm h q=>?_}
  ·refine nW.of_get λi k a b Kn ha hb=>?_;rw[pl]at ha hb;obtain⟨x,hx,rfl⟩:=a9.mp ha;obtain⟨y,hy,rfl⟩:=a9.mp hb;obtain⟨lx,ex⟩:=ao.mp hx;obtain⟨ly,ey⟩:=ao.mp hy;subst ex ey;exact eE.mp p1 i k lx ly Kn
  ·simp
  ·simp[ll,gD]
  ·rw[pl]at q;obtain⟨x,hx,rfl⟩:=a9.mp q;have:=(mem x).mp (aB hx);obtain⟨l,_⟩:=gM.mp this;rw[O.sz]at l;show x.1<=mask;lia
  ·have q':(live.map λp=>hs.getD p.2 0)[m]?=some h:=by
    have e3:(live.map (·.2)).toArray.toList.map (λi=>hs.getD i 0)=live.map λp=>hs.getD p.2 0:=by simp
    rw[<-e3];exact q
   rw[aJ]at q';obtain⟨x,hx,rfl⟩:=a9.mp q';have hw:=(mem x).mp (aB hx);have hl:=O.lt _ _ hw;have eh:hs[x.2]?=some (hs.getD x.2 0):=by rw[aq hl];simp[hl]
   obtain⟨d,d1,d2⟩:=O.at_ x.2 _ eh;have ej:=O.inj _ _ _ d1 hw;refine{d,?_,λe he=>?_}
   ·show((live.map (·.1)).toArray)[m]?=some (ps mask (hs.getD x.2 0) d);rw[pl,hx,ej];rfl
   ·obtain⟨i',q3⟩:=d2 e he;obtain⟨m',hm'⟩:=eT.mp ((mem (_,i')).mpr q3);refine{m',?_};rw[pl,hm'];rfl
theorem AI(n:Nat):∀(f j:Nat),n<2^(j+f)->∃k,j<=k/\sizeAbove.go n f (2^j)=2^k/\n<2^k/\(k=j\/2^k<=2*n)
 |0,j,h=>{j,ak _,rfl,h,.inl rfl}
 |f+1,j,h=>by
  unfold sizeAbove.go;by_cases c:2^j<=n
  ·rw[aD c,<-jk];obtain⟨k,h1,h2,h3,h4⟩:=AI n f (j+1) (by rw[show j+1+f=j+(f+1) by lia];exact h);refine{k,by lia,h2,h3,.inr ?_};rcases h4 with h4|h4
   ·rw[h4,jk];lia
   ·exact h4
  ·rw[au c];exact{j,ak _,rfl,by lia,.inl rfl}
def AH(h:n<2^64):∃k,sizeAbove n=2^k/\8<=2^k/\n<2^k/\2^k<=2*n+8:=by
 obtain⟨k,h1,h2,h3,h4⟩:=AI n 64 3 (aZ h (-8));have:2^3<=2^k:=gj (-8) h1;refine{k,h2,this,h3,?_};rcases h4 with h4|h4
 ·rw[h4];lia
 ·lia
def P7(t:SetTable)(hs:List Int)(h:n<2^64)(gD:hs.length<n):∃t' order,t.relaid hs.toArray n=some (t',order)/\n<=t'.mask/\t'.mask<=2*n+7/\t'.finger=t.finger/\t'.led=t.led/\t'.plain=t.plain/\order.toList.Perm (List.range hs.length)/\Tab t' (order.toList.map λi=>hs.getD i 0):=by obtain⟨k,e,h1,h2,h3⟩:=AH h;obtain⟨t',order,q1,q2,q3,q4,_,q5,q6,q7⟩:=Yk (mask:=sizeAbove n -1) (k:=k) (by rw[e];lia) (by rw[e];lia) t.finger (t.movedTo (sizeAbove n -1)) t.led t.plain hs (by rw[e];lia);exact{t',order,q1,by rw[q2,e];lia,by rw[q2,e];lia,q3,q4,q5,q6,q7}
theorem AS{α:Type}:∀l:List α,(List.range l.length).filterMap (λi=>l[i]?)=l
 |[]=>rfl
 |x::l=>by rw[bK,xy,fN];show x::_=_;rw[tY];congr 1;exact AS l
def NW{α:Type}{es:Array α}{order:Array Nat}(hp:order.toList.Perm (List.range es.size)):(order.filterMap (es[·]?)).toList.Perm es.toList/\∀(g:α->Int),(order.filterMap (es[·]?)).toList.map g=order.toList.map λi=>(es.toList.map g).getD i 0:=by
 have e1:(order.filterMap (es[·]?)).toList=order.toList.filterMap (es.toList[·]?):=by simp
 rw[e1];constructor
 ·have:=hp.filterMap (es.toList[·]?);rw[<-aQ]at this;rwa [AS]at this
 ·intro g;have lt:∀i∈order.toList,i<es.toList.length:=λi hi=>by rw[aQ];exact c8.mp (hp.mem_iff.mp hi)
  generalize order.toList=l at lt
  induction l with
  |nil=>rfl
  |cons i l ih=>
   have li:=lt i (ax ..);rw[fN,aq li];show g _::_=_;rw[aR,ih λj hj=>lt j (az _ hj)];congr 1;rw[cq,aJ,aq li];rfl
section
variable{prog:Program}{w:World}{K:Type}[DecidableEq K]{knd:KeyKind prog w K}{A:Around}{E:Aae}{s:Shared}
abbrev ent(knd:KeyKind prog w K)(x:List K×Addr):Int×Value:=(tupleKeyHash knd x.1,Value.ref x.2)
structure nV(knd:KeyKind prog w K)(h:Heap)(a:Addr)(o:Obj)(ep:Nat)(t:SetTable)(xs:List (List K×Addr)):Prop where
 ob:h.get? a=some o
 ex:o.ExactSet
 data:o.data=.set (xs.map (ent knd)).toArray ep t
 tab:Tab t (-28)
 gD:xs.length*5<t.mask*3
 cap:t.mask<=8*xs.length+15
 nd:(xs.map (·.1)).Nodup
 is:∀x∈xs,IsTupleKey knd h x.1 x.2
def nV.fits(S:nV knd h a o ep t xs):t.fits (-13).size=true:=by have:=S.tab.fits;rw[ag]at this;simpa using this
def nV.state(S:nV knd s.heap a o ep t xs)(h:Q ((xs.map (ent knd)).toArray,ep,t) s):wpAny (-5) A (setState a) Q E s:=
 uk S.ob S.data S.fits h
def nV.ne(S:nV knd h a o ep t xs)(hk:IsTupleKey knd h ks b):b≠a:=by rintro rfl;obtain⟨o',items,n,rM,_,qW,_⟩:=hk;obtain rfl:o'=o:=bS (rM.symm.trans S.ob);rw[S.data]at qW;cases qW
def Ib(hx:IsTupleKey knd s.heap ks b)(h:Q false s):wpAny (-5) A (ofAClassStatement 8 (.ref b)) Q E s:=by
 have hT:=hx.typeIs;obtain⟨o,items,n,ho,_,hd,hi⟩:=hx;unfold ofAClassStatement;refine ae (fA hT ?_);dsimp only;rw[aD (-8)];refine ae (af ?_);refine ae (bW ho hd ?_);refine ae ?_;rw[<-ox];refine j9 _ (λrest r s'=>r.1=none/\s'=s/\∀v∈rest,carriedByValue v=true) _ ?_ ?_ _ _ {rfl,rfl,hi.byValue}
 ·rintro v rest r s' ⟨hr,rfl,qe⟩;have hv:=qe v ax;have e:ofAClassStatement 7 v=pure false:=by
   cases v with
   |ref a=>simp[carriedByValue]at hv
   |_=>first|rfl|(unfold ofAClassStatement;rfl)
  rw[e];refine ae (af ?_);exact af {rfl,rfl,λu qR=>qe u (az _ qR)}
 ·rintro⟨r1,r2⟩ s' ⟨hr,rfl,_⟩;simp only at hr;subst hr;exact af h
def Xe(hx:IsTupleKey knd s.heap x b)(l:Aag)(hl:∀v∈l,∃ks c,v=Value.ref c/\IsTupleKey knd s.heap ks c)(h:Q false s):wpAny (-5) A (searchCouldBeSeen (.ref b) l) Q E s:=by
 unfold searchCouldBeSeen;refine ae ?_;refine j9 _ (λrest r s'=>r.1=none/\s'=s/\∀v∈rest,∃ks c,v=Value.ref c/\IsTupleKey knd s.heap ks c) _ ?_ ?_ _ _ ⟨rfl,rfl,hl⟩
 ·rintro v rest r s' ⟨hr,rfl,qe⟩;obtain⟨ks,c,rfl,hk⟩:=qe v ax;have VM:=λu qR=>qe u (az _ qR);by_cases e:(b==c||(carriedByValue (.ref b)&&carriedByValue (.ref c)))=true
  ·rw[aD e];exact af ⟨rfl,rfl,VM⟩
  ·rw[au e];refine ae (xI hx ?_);refine ae (xI hk ?_);refine ae (Ib hx ?_);refine ae (Ib hk ?_);exact af ⟨rfl,rfl,VM⟩
 ·rintro⟨r1,r2⟩ s' ⟨hr,rfl,_⟩;simp only at hr;subst hr;exact af h
def Pe(hu:A.units<cLine)(S:nV knd s.heap a o ep t xs)(hk:IsTupleKey knd s.heap k b)(fr:Pa t (-14) D)
  (h1:(∃x∈xs,x.1=k)->Q (.there none) s) (h2:(∀x∈xs,x.1≠k)->Q (.free (ps t.mask (-14) D) false) s):
  ∀(m fuel d:Nat)(st:Option Probe),D -d=m->d<=D->m<fuel->st.getD (t.probeStart (-14))=pr t.mask (-14) d->(∀e,e<d->∀(i:Nat)(x:List K×Addr),t.place[i]?=some (ps t.mask (-14) e)->xs[i]?=some x->x.1≠k)->
   wpAny (-5) A (setSearchFrom a (.ref b) (-14) true fuel st) Q E s:=by
 intro m
 induction m using Nat.strongRecOn with
 |ind m ih=>
  intro fuel d st hm hd hf gq Br;cases fuel with
  |zero=>exact absurd hf (jx _)
  |succ fuel=>
   unfold setSearchFrom;refine ae (S.state ?_);dsimp only;rw[S.tab.way];rw[gq];have hsL:∀(i:Nat)(x:List K×Addr),xs[i]?=some x->(-28)[i]?=some (tupleKeyHash knd x.1):=λi x e=>by rw[aJ,e];rfl
   have hsR:∀(i:Nat)(g:Int),(-28)[i]?=some g->∃x,xs[i]?=some x/\tupleKeyHash knd x.1=g:=λi g e=>by rw[aJ]at e;exact a9.mp e
   rcases Je S.tab fr (hashAt:=λi=>(((-13)[i]?).map (·.1)).getD 0) (λi g e=>by obtain⟨x,hx,rfl⟩:=hsR i g e;simp[hx]) (10*turns t.mask) d hd (by have:=fr.lt;lia)with⟨e1,e2⟩|⟨e,i,a1,a2,a3,a4,a5,a6⟩
   ·have e1':t.probe (λi=>(((-13)[i]?).map (·.1)).getD 0) (-14) (pr t.mask (-14) d)=some (.empty (ps t.mask (-14) D) none):=e1;show wpAny (-5) A (match t.probe (λi=>(((-13)[i]?).map (·.1)).getD 0) (-14) (pr t.mask (-14) d)with|some met=>_|_=>_) Q E s;rw[e1'];refine af (h2 λx hx ex=>?_);obtain⟨i,hi⟩:=eT.mp hx;obtain⟨d',q1,q2⟩:=S.tab.reach i _ (hsL i x hi);rw[ex]at q1 q2;have lt:d'<D:=by
     rcases k8 d' D with q|q|q
     ·exact q
     ·rw[q]at q1;exact(fr.no i q1).elim
     ·obtain⟨i',z⟩:=q2 D q;exact(fr.no i' z).elim
    by_cases c:d'<d
    ·exact Br d' c i x q1 hi ex
    ·exact e2 d' ∅ lt i q1 (by rw[hsL i x hi,ex])
   ·obtain⟨y,hy,ey⟩:=hsR i _ a4;have a5':t.probe (λi=>(((-13)[i]?).map (·.1)).getD 0) (-14) (pr t.mask (-14) d)=some (.candidate (ps t.mask (-14) e) i (pr t.mask (-14) (e+1))):=a5;show wpAny (-5) A (match t.probe (λi=>(((-13)[i]?).map (·.1)).getD 0) (-14) (pr t.mask (-14) d)with|some met=>_|_=>_) Q E s;rw[a5'];have ym:=aB hy;have yk:=S.is y ym;have eL:(-13)[i]?=some (ent knd y):=by simp[hy]
    have cont:wpAny (-5) A (do
      let some (_,y):=(-13)[i]?|unsupported "internal:set-entry"
      let equal<-holding [y] (eqBool y (.ref b))
      let(dG,_,t')<-setState a
      if true&&equal then return .there none
      let some same:=t'.sameMemory t.moves t.mask|unsupported "set.changed-during-lookup:is-the-new-block-at-the-old-address"
      let abV<-match(if same then t'.slot (ps t.mask (-14) e)else .empty)with
       | .live i'=>match dG[i']? with
        |some (_,y')=>do pure (if<-isSame y' y then some i' else none)
        |none=>pure none
       |_=>pure none
      match abV with
      |none=>rule "set.search.anew";setSearchFrom a (.ref b) (-14) true fuel none
      |some i'=>if equal then return .there (some i')else setSearchFrom a (.ref b) (-14) true fuel (some (pr t.mask (-14) (e+1)))) Q E s:=by
     rw[eL];refine ae (bP (wpAny_eqBool_tuple hu yk hk ?_));refine ae (S.state ?_);by_cases c:y.1=k
     ·rw[ba c];exact af (h1 ⟨y,ym,c⟩)
     ·rw[bC c];simp only[sO,cb,dJ];have sm:t.sameMemory t.moves t.mask=some true:=by simp[SetTable.sameMemory]
      rw[sm];simp only[lG];rw[GN S.tab.rise a3];dsimp only;rw[eL];dsimp only;have iss:isSame (Value.ref y.2) (Value.ref y.2)=pure true:=aD (beq_self_eq_true _);rw[iss];refine ae (af ?_);refine ae (af ?_);refine ih (D -(e+1)) ∅ fuel (e+1) _ rfl ∅ ∅ rfl λe' Ae i' x q1 q2 qk=>?_;by_cases c2:e'<d
      ·exact Br e' c2 i' x q1 q2 qk
      ·by_cases c3:e'=e
       ·rw[c3]at q1;have:i'=i:=by rw[<-below_at S.tab.rise q1,<-below_at S.tab.rise a3]
        rw[this,hy]at q2;cases q2;exact c qk
       ·exact a6 e' ∅ ∅ i' q1 (by rw[hsL i' x q2,qk])
    by_cases led:t.led=true
    ·rw[led];exact cont
    ·have lf:t.led=false:=by cases q:t.led with|false=>rfl|true=>exact(led q).elim
     rw[lf];refine ae (Xe hk _ (λv hv=>?_) ?_)
     ·obtain⟨p,hp,rfl⟩:=aA.mp hv;have Ki:p∈xs.map (ent knd):=by have:=(Array.mem_filter.mp (my.mp hp)).1;simpa using this
      obtain⟨x,hx,rfl⟩:=aA.mp Ki;exact{x.1,x.2,rfl,S.is x hx}
     ·simp only[cb,dJ];exact cont
end
section
variable{prog:Program}{w:World}{K:Type}[DecidableEq K]{knd:KeyKind prog w K}{A:Around}{E:Aae}{s:Shared}
def Lq(n:Nat)(h:carriedByValue v=true):∃b,hashByValue n v=pure b:=by
 cases v with
 |ref a=>simp[carriedByValue]at h
 |_=>cases n<;>exact⟨_,rfl⟩
def Y8(hx:IsTupleKey knd s.heap ks b)(h:∀c,Q c s):wpAny (-5) A (hashByValue 8 (.ref b)) Q E s:=by
 have hT:=hx.typeIs;obtain⟨o,items,n,ho,_,hd,hi⟩:=hx;unfold hashByValue;refine ae (hG hT lA.lookup ?_);refine ae (bW ho hd ?_);refine ae ?_;rw[<-ox];refine j9 _ (λrest r s'=>r.1=none/\s'=s/\∀v∈rest,carriedByValue v=true) _ ?_ ?_ _ _ {rfl,rfl,hi.byValue}
 ·rintro v rest r s' ⟨hr,rfl,qe⟩;obtain⟨c,e⟩:=Lq 7 (qe v ax);rw[e];refine ae (af ?_);cases c with
  |false=>
   exact af (af (h false))
  |true=>
   exact af {rfl,rfl,λu qR=>qe u (az _ qR)}
 ·rintro⟨r1,r2⟩ s' ⟨hr,rfl,_⟩;simp only at hr;subst hr;exact af (h true)
def SH(ob:s.heap.get? a=some o)(ex:o.ExactSet)(hd:o.data=.set (xs.map (ent knd)).toArray ep t)(tab:Tab t (-28))(nd:(xs.map (·.1)).Nodup)(is:∀x∈xs,IsTupleKey knd s.heap x.1 x.2)
  (hn:xs.length*2<=n) (MQ:n<=xs.length*4) (h0:0<n) (hx:xs.length<=100000) (C9:n<=100000) (h:∀h' ys o' Bv t',Heap.SameBut a s.heap h'->nV knd h' a o' Bv t' ys->t'.led=t.led->ys.Perm xs->Q () {s with heap:=h'}):wpAny (-5) A (setRelay a n) Q E s:=by
 have fits:t.fits (-13).size=true:=by have:=tab.fits;rw[ag]at this;simpa using this
 unfold setRelay;refine ae (uk ob hd fits ?_);dsimp only;obtain⟨k,e1,e2,e3,e4⟩:=AH (n:=n) ∅;rw[au (by rw[e1,cP];lia)];have hm:(-13).map (·.1)=(-28).toArray:=by simp[uI]
 obtain⟨t',order,q1,q2,qc,q3,q4,q5,q6,q7⟩:=P7 t (-28) (n:=n) ∅ (by rw[ag];lia);rw[hm,q1];rw[ag]at q6;have oz:order.toList.Perm (List.range (-13).size):=by simpa using q6
 obtain⟨o1,o2⟩:=NW oz;have rL:(order.filterMap ((-13)[·]?))=((order.toList.filterMap (xs[·]?)).map (ent knd)).toArray:=by apply wm.mp;simp[List.map_filterMap]
 have py:(order.toList.filterMap (xs[·]?)).Perm xs:=by have:=q6.filterMap (xs[·]?);rwa [AS]at this
 have ly:=py.length_eq;have hh:(order.toList.filterMap (xs[·]?)).map (λx=>tupleKeyHash knd x.1)=order.toList.map λi=>(-28).getD i 0:=by have:=o2 (·.1);rw[rL]at this;simpa[uI]using this
 rw[<-hh]at q7;generalize order.toList.filterMap (xs[·]?)=ys at*;refine ae ?_;show wpAny (-5) A (if((order.filterMap ((-13)[·]?)).size !=(-13).size)=true then unsupported _ else pure (order.filterMap ((-13)[·]?),t')) _ E s;rw[rL,au (by simp[ly])];refine af ?_;refine Cs ob hd ?_ (by rw[aI,ag,ly,cP];lia);have S2:nV knd (s.heap.update a (Obj.putSet (ys.map (ent knd)).toArray t')) a {o with data:=.set (ys.map (ent knd)).toArray (ep+1) t'} (ep+1) t' ys:=by
  have sb:=bY s.heap a (Obj.putSet (ys.map (ent knd)).toArray t');refine{?_,ex,rfl,q7,by lia,by lia,(py.map _).nodup_iff.mpr nd,λx hx=>?_}
  ·have:=cy (Obj.putSet (ys.map (ent knd)).toArray t') ob (by rw[AW _ t' hd];rfl);rw[AW _ t' hd]at this;exact this
  ·have yh:=is x (py.mem_iff.mp hx);have ne:x.2≠a:=by intro z;obtain⟨o',items,n,rM,_,qW,_⟩:=yh;rw[z]at rM;obtain rfl:o'=o:=bS (rM.symm.trans ob);rw[hd]at qW;cases qW
   obtain⟨o',items,n,rM,hc,qW,hi⟩:=yh;exact{o',items,n,(sb.2 _ ne).trans rM,hc,qW,hi}
 exact h _ ys _ _ _ (bY s.heap a _) S2 q4 py
def Y9(hu:A.units<cLine)(S:nV knd s.heap a o ep t xs)(hk:IsTupleKey knd s.heap k b)(hx:xs.length<=1000)
  (h1:(∃x∈xs,x.1=k)->Q false s) (h2:(∀x∈xs,x.1≠k)->∀h' ys o' Bv t',Heap.SameBut a s.heap h'->nV knd h' a o' Bv t' ys->t'.led=t.led->ys.Perm ((k,b)::xs)->Q true {s with heap:=h'}):
  wpAny (-5) A (setAddHashed a (.ref b) (-14)) Q E s:=by
 unfold setAddHashed setAddHashedIn;refine bP (ae (S.state ?_));dsimp only;have nb:byScan (.ref b) (xs.map (ent knd)).toArray=false:=by simp[byScan,Value.scannable]
 rw[nb];obtain⟨D,fr⟩:=S.tab.free (-14);unfold setSearch;have bound:=fr.lt;have hm:=S.cap;unfold turns at bound;refine ae (Pe hu S hk fr (λq=>af (h1 q)) (λq=>?_) D 100000 0 none rfl (aP _) ∅ (S9 t _) λe he=>absurd he (jx _));refine ae (S.state ?_);have gD:=S.gD;have room:(-28).length+1<=t.mask:=by rw[ag];lia
 have tb:=S.tab.put fr room;generalize ep1:t.put (ps t.mask (-14) D)=tp at tb;obtain⟨t1,p⟩:=tp;have mk1:t1.mask=t.mask:=by have:(t.put (ps t.mask (-14) D)).1.mask=t.mask:=rfl;rw[ep1]at this;exact this
 have ld1:t1.led=t.led:=by have:(t.put (ps t.mask (-14) D)).1.led=t.led:=rfl;rw[ep1]at this;exact this
 have esz:(-13).size=xs.length:=by simp
 have ins:insertAt (xs.map (ent knd)).toArray p (tupleKeyHash knd k,Value.ref b)=((ji xs p (k,b)).map (ent knd)).toArray:=by apply wm.mp;rw[qQ,JX]
 have hsI:(ji xs p (k,b)).map (λx=>tupleKeyHash knd x.1)=ji (-28) p (-14):=JX _ _ _ _;have pI:=QW xs p (k,b);have nI:((ji xs p (k,b)).map (·.1)).Nodup:=by refine(pI.map _).nodup_iff.mpr ?_;rw[aR];refine cU.mpr {λz=>?_,S.nd};obtain⟨x,hx,e⟩:=aA.mp z;exact q x hx e
 have isI:∀x∈ji xs p (k,b),IsTupleKey knd s.heap x.1 x.2:=λx hx=>by
  rcases aG.mp (pI.mem_iff.mp hx)with rfl|hx
  ·exact hk
  ·exact S.is x hx
 have lI:(ji xs p (k,b)).length=xs.length+1:=by rw[pI.length_eq];rfl
 have fin:∀t2:SetTable,t2.mask=t1.mask->t2.place=t1.place->t2.dummies=t1.dummies->t2.led=t1.led->wpAny (-5) A (do
   storeSet a (insertAt (xs.map (ent knd)).toArray p (tupleKeyHash knd k,Value.ref b)) t2
   if(!false&&t2.tooFull)=true then
    setRelay a (SetTable.grown ((-13).size+1))
    pure true
   else pure true) Q E s:=λt2 e1 e2 e3 e4=>by
  have Vw:Tab t2 ((ji xs p (k,b)).map λx=>tupleKeyHash knd x.1):=by rw[hsI];exact tb.of_eq e1 e2 e3
  rw[ins];refine ae (Cs S.ob S.data ?_ (by rw[aI,ag,lI,cP];lia));have sb:=bY s.heap a (-62);have ob2:(s.heap.update a (-62)).get? a=some {o with data:=.set ((ji xs p (k,b)).map (ent knd)).toArray (ep+1) t2}:=by have:=cy (-62) S.ob (by rw[AW _ t2 S.data];rfl);rw[AW _ t2 S.data]at this;exact this
  have fl:t2.tooFull=decide ((xs.length+1)*5≥t.mask*3):=by unfold SetTable.tooFull SetTable.fill;rw[Vw.R5,Vw.sz,ag,lI,e1,mk1];rfl
  have Bj:∀x∈ji xs p (k,b),IsTupleKey knd (s.heap.update a (-62)) x.1 x.2:=λx hx=>by have ne:=S.ne (isI x hx);obtain⟨o',items,n,rM,hc,qW,hi⟩:=isI x hx;exact{o',items,n,(sb.2 _ ne).trans rM,hc,qW,hi}
  by_cases c:t2.tooFull=true
  ·rw[c];have g:SetTable.grown ((-13).size+1)=(xs.length+1)*4:=by unfold SetTable.grown;rw[esz,au ∅]
   rw[g];refine ae (SH ob2 S.ex rfl Vw nI Bj ∅ ∅ ∅ ∅ ∅ λh' ys o' Bv t' qJ S' l' py=>?_);exact af (h2 q h' ys o' Bv t' (sb.trans qJ) S' (l'.trans (e4.trans ld1)) (py.trans pI))
  ·rw[iB.mpr c];rw[fl]at c;have c':¬(xs.length+1)*5≥t.mask*3:=λz=>c (ba z);exact af (h2 q _ (ji xs p (k,b)) _ _ _ sb {ob2,S.ex,rfl,Vw,by rw[lI,e1,mk1];lia,by rw[lI,e1,mk1];lia,nI,Bj} (e4.trans ld1) pI)
 by_cases c:t1.plain=true
 ·rw[aD c];refine ae (Y8 hk λbv=>?_);cases bv with
  |true=>exact fin t1 rfl rfl rfl rfl
  |false=>exact fin {t1 with plain:=false} rfl rfl rfl rfl
 ·rw[au c];refine ae (af ?_);exact fin t1 rfl rfl rfl rfl
end
end Tb
namespace Tb
open PySem
def Fu{α:Type}{l:List α}(h:i<l.length):(l[i]::l.eraseIdx i).Perm l:=by rw[qE];refine List.perm_middle.symm.trans ?_;rw[List.getElem_cons_drop,dq]
theorem Mj(next:Nat->Nat):∀(f k:Nat)(left:List α)(out:Array α),f=left.length->(pickOrder.go next f k left out).toList.Perm (out.toList++left)
 |0,k,left,out,h=>by rw[gu.mp h.symm,cu];exact .refl _
 |f+1,k,left,out,h=>by
  have hl:next k % left.length<left.length:=rq _ ∅
  unfold pickOrder.go;rw[aq hl];refine(Mj next f (k+1) (left.eraseIdx (next k % left.length)) (out.push left[next k % left.length]) (by rw[mI hl];lia)).trans ?_;rw[lC,cD];exact(Fu hl).append_left _
def Qa(next:Nat->Nat)(xs:Array α):(pickOrder next xs).toList.Perm xs.toList:=by
 have:=Mj next xs.size 0 xs.toList #[] (-9)
 rw[ip]at this;exact this
section
variable{M:Model}{A:Around}{E:Aae}
theorem LH:∀(n:Nat)(xs:List α)(s:Shared){Q:List α->Shared->Prop},n=xs.length->(∀ys d,ys.Perm xs->Q ys {s with drawn:=d})->wpAny M A (drawOrder n xs) Q E s
 |0,xs,s,Q,hn,h=>by have e:xs=[]:=gu.mp hn.symm;subst e;unfold drawOrder;exact af (h [] s.drawn (.refl _))
 |n+1,[],s,Q,hn,h=>by simp at hn
 |n+1,x::xs,s,Q,hn,h=>by
  unfold drawOrder;refine ae (λΓ p hΓ=>?_);refine{by simp,?_};have hl:M.w.draws .order (s.drawn.get .order) %(x::xs).length<(x::xs).length:=rq _ (-9);generalize M.w.draws .order (s.drawn.get .order) %(x::xs).length=i at hl;have key:wpAny M A (match(x::xs)[i]? with
   |some y=>do return y::(<-drawOrder n ((x::xs).eraseIdx i))
   |none=>unsupported "internal:drawOrder") Q E {s with drawn:=s.drawn.bump .order}:=by
   rw[aq hl];dsimp only;refine ae (LH n _ _ (by rw[mI hl];lia) λys d hp=>af ?_);exact h _ d ((hp.cons _).trans (Fu hl))
  exact key
end
end Tb
namespace Tb
open PySem PySem.SetTable PyProof.Rows
section
variable{prog:Program}{w:World}{K:Type}[DecidableEq K]{knd:KeyKind prog w K}
def LS(x:IsTupleKey knd h k b)(kp:∀b o,h.get? b=some o->h'.get? b=some o):IsTupleKey knd h' k b:=by obtain⟨o,aX,n,ho,r⟩:=x;exact{o,aX,n,kp _ _ ho,r}
structure Ez(knd:KeyKind prog w K)(ks:List (List K))(bs:Aaj)(i:Nat)(xs:List (List K×Addr)):Prop where
 len:xs.length<=i
 mem:∀k,k∈xs.map (·.1)↔k∈ks.take i
 HX:∀x∈xs,∃j:Nat,ks[j]?=some x.1/\bs[j]?=some x.2
section
variable{A:Around}{R:Result->Shared->Prop}{I:Addr}{fp wr:Aaj}{G:Array GenState->Array GenState->Prop}{n:Nat}{P:Nat->Value->Prop}{St:Nat->Shared->Prop}
def ab8(W:WalksS prog w A.in1 I fp wr G n P St)(S:Addr)(nS:S∉fp)(hS0:h0.get? S=none)(Wf:∀b∈wr,h0.get? b=none)(ks:List (List K))(bs:Aaj)(lk:ks.length=n)(lb:bs.length=n)(hv:∀(i:Nat) v,P i v->∃b,bs[i]?=some b/\v=.ref b)
  (hk:∀(i:Nat) k b,ks[i]?=some k->bs[i]?=some b->IsTupleKey knd h0 k b) (hu:A.in1.units<cLine) (hn:n<=1000) (led:Bool) (m:Nat):
  ∀(i:Nat)(s:Shared)(o:Obj)(ep:Nat)(t:SetTable)(xs:List (List K×Addr)),n -i=m->i<=n->St i s->(∀b o,h0.get? b=some o->s.heap.get? b=some o)->nV knd s.heap S o ep t xs->t.led=led->Ez knd ks bs i xs->
   (∀s' o ep t xs,Moved (S::wr) G s s'->nV knd s'.heap S o ep t xs->t.led=led->Ez knd ks bs n xs->R (.ok (.ret .none)) s')->
   codeAny (-5) A (.builtin "set.update.loop" {[.ref S,.ref I],[]}) R s:=by
 have nw:S∉wr:=λh=>nS (W.sub _ h);have sub:∀b∈wr,b∈S::wr:=λb q=>az _ q;have jD:∀{s s':Shared}{o:Obj}{ep:Nat}{t:SetTable}{xs:List (List K×Addr)}{i:Nat},Moved wr G s s'->(∀b o,h0.get? b=some o->s.heap.get? b=some o)->nV knd s.heap S o ep t xs->Ez knd ks bs i xs->nV knd s'.heap S o ep t xs/\∀b o,h0.get? b=some o->s'.heap.get? b=some o:=λ{s s' o ep t xs i} hm kp hS hH=>by have C4:∀b o,h0.get? b=some o->s'.heap.get? b=some o:=λb o e=>hm.heap b o (λz=>by rw[Wf b z]at e;cases e) (kp b o e);refine{{hm.heap S _ nw hS.ob,hS.ex,hS.data,hS.tab,hS.gD,hS.cap,hS.nd,λx hx=>?_},C4};obtain⟨j,j1,j2⟩:=hH.HX x hx;exact LS (hk j _ _ j1 j2) C4
 induction m with
 |zero=>
  intro i s o ep t xs hm hi st kp hS hl hH hR;have e:i=n:=by lia
  subst e;refine dm oj ?_;rw[gk f7 _];refine ae (m:=pyNext (.ref I)) (W.done s _ _ st λs' hm=>af (hR s' o ep t xs (hm.mono sub) (jD hm kp hS hH).1 hl hH))
 |succ m ih=>
  intro i s o ep t xs hm hi st kp hS hl hH hR;have bU:i<n:=by lia
  refine dm oj ?_;rw[gk f7 _];refine ae (m:=pyNext (.ref I)) (W.item i s _ _ bU st λv s' hP hX hm=>?_);obtain⟨b,hb,rfl⟩:=hv i v hP;obtain⟨k,Hm⟩:∃k,ks[i]?=some k:={_,aq ∅};obtain⟨pH,C4⟩:=jD hm kp hS hH;have kb:IsTupleKey knd s'.heap k b:=LS (hk i k b Hm hb) C4;have et:ks.take (i+1)=ks.take i++[k]:=by rw[aV,Hm];rfl
  have pF:=hH.len;refine ae (m:=holding [Value.ref b] (setAdd S (.ref b))) (bP ?_);unfold setAdd;refine bP (ae (wpAny_pyHash_tuple hu kb ?_));refine Y9 (s:={s' with toks:=s'.toks+(k.length+1)}) hu pH kb ∅ (λq=>?_) λq h' ys o' Bv t' sb S2 adf py=>?_
  ·have hH2:Ez knd ks bs (i+1) xs:={by lia,λz=>by
    rw[et,aS,<-hH.mem,ay];exact{.inl,λc=>c.elim id λe=>by obtain⟨x,hx,ex⟩:=q;rw[e,<-ex];exact aA.mpr ⟨x,hx,rfl⟩},hH.HX}
   refine af {gL f7 _,ih (i+1) _ o ep t xs ∅ bU (W.frame _ s' s'.heap _ hX (dP _ _) λb q o e=>e) C4 pH hl hH2 λs2 o2 ep2 t2 Y7 m2 a1 a2 a3=>hR s2 o2 ep2 t2 Y7 (Moved.trans W.gtrans ((hm.mono sub).then_heap (h':=s'.heap) (dP _ _) λb o _ e=>e) m2) a1 a2 a3}
  ·have hH2:Ez knd ks bs (i+1) ys:={by rw[py.length_eq,bK];lia,λz=>by
    rw[et,aS,<-hH.mem,ay,(py.map (·.1)).mem_iff,aR,aG];exact Or.comm,λx hx=>by
    rcases aG.mp (py.mem_iff.mp hx)with rfl|hx
    ·exact⟨i,Hm,hb⟩
    ·exact hH.HX x hx}
   refine af {gL f7 _,ih (i+1) _ o' Bv t' ys ∅ bU (W.frame _ s' h' _ hX (dP _ _) λb q o e=>?_) (λb o e=>?_) S2 (adf.trans hl) hH2 λs2 o2 ep2 t2 Y7 m2 a1 a2 a3=>hR s2 o2 ep2 t2 Y7 (Moved.trans W.gtrans ((hm.mono sub).then_heap (h':=h') (dP _ _) λb o q e=>?_) m2) a1 a2 a3}
   ·rw[sb.2 b λh:b=S=>nS (h▸q)];exact e
   ·rw[sb.2 b λh:b=S=>by rw[h,hS0]at e;cases e];exact C4 b o e
   ·rw[sb.2 b λh:b=S=>q (h▸ax)];exact e
end
section
variable{A:Around}{E:Aae}{s:Shared}
abbrev qd(w:World):Bool:=!w.params.followText "set-order"
abbrev sP(led:Bool):Obj:={cls:=.type "set",dict:=none,data:=.set #[] 0 (.fresh 0 0 led)}
def code_set_new(a:Value)(h:Q₁ (-11) {s with heap:=s.heap.push (sP (qd w))}):
  codeAny (-5) A (.call (.builtin "set.__new__") {[.type "set",a],[]}) (wants Q₁ E) s:=by
 refine codeAny_of_tree ?_;show wpAny _ A.in1 (do checkBuiltinCall "set.__new__" {[.type "set",a],[]};again (.builtin "set.__new__" {[.type "set",a],[]})) _ _ s;refine ae (CM (PySem.F.newCall_set_1 a) (af {gL yB _,dm PySem.F.entry_set_new ?_}));rw[gk yB _];unfold Builtin.«set.__new__» Builtin.Frozenset.newClass;have Uw:=sub_set_self;obtain⟨hp,g,d,tk,os⟩:=s;dsimp only
 wp_walk
 refine vi (af ?_);dsimp only;simp only[newObj];refine ae (wpAny_alloc (af ?_));exact af h
def Sq(hA:A.handled=none)(hu:A.in1.in1.in1.units<cLine)(hl:s.heap.IsList l items)(hi:items.toList=bs.map Value.ref)(lb:ks.length=bs.length)(hk:∀(i:Nat) k b,ks[i]?=some k->bs[i]?=some b->IsTupleKey knd s.heap k b)(hb:bs.length<=1000)
  (k:∀(h':Heap)(tk:Nat) o ep t xs,nV knd h' s.heap.objs.size o ep t xs->t.led=qd w->Ez knd ks bs bs.length xs->(∀b o,s.heap.get? b=some o->h'.get? b=some o)->Q (-11) {s with heap:=h',toks:=tk}):
  wpAny (-5) A (call (.type "set") [.ref l]) Q E s:=by
 obtain⟨c,tl,aeJ⟩:=BJ.mro;have ft:=BJ;have aeD:=ft.made;have Uw:=ft.sub;refine ED (codeAny_of_tree ?_);show wpAny _ _ (callAny (.type "set") _) _ _ _;refine af {jn _ (-3),dm PySem.F.entry_type_call ?_};rw[Around.under_plain (weight_type_call_type "set" [.ref l] []) rfl];have h1:=ft.notType;have h2:=ft.canCreate;have hct:=PySem.F.typeCall_set_1 (.ref l)
 repeat (any_goals (first|assumption|wp_step))
 refine lK (code_set_new (.ref l) (E:=E) (Q₁:=λx z=>x=.ref s.heap.objs.size/\z={s with heap:=s.heap.push (sP (qd w))}) ⟨rfl,rfl⟩) λr z hr=>?_;cases r with
 |error e=>exact hr
 |ok fl=>
  cases fl with
  |ret x=>
   obtain⟨rfl,rfl⟩:=hr;have hS:(s.heap.push (sP (qd w))).get? s.heap.objs.size=some (sP (qd w)):=aE _ rfl;have hT:Shared.TypeIs {s with heap:=s.heap.push (sP (qd w))} (-11) "set":=⟨_,hS,rfl⟩;have hli:=ft.init.lookup;have hbi:=ft.init.bind (-11)
   repeat (any_goals (first|assumption|wp_step))
   refine lK (qZ (R:=wants (λr z=>r=.none/\∃h' tk o ep t xs,z={s with heap:=h',toks:=tk}/\nV knd h' s.heap.objs.size o ep t xs/\t.led=qd w/\Ez knd ks bs bs.length xs/\(∀b o,s.heap.get? b=some o->h'.get? b=some o)) E) ft.init.plain PySem.F.entry_set_init (check_set_init_1 hT ?_)) λr2 z2 qT=>?_
   ·obtain⟨⟨oc,od,oda,zZ⟩,MO,Ag,nl,RE⟩:=hl;simp only at Ag RE;subst Ag RE;have ad1:=ah (sP (qd w)) MO;have aeG:=PySem.F.sub_list_set;have aeH:=PySem.F.sub_list_frozenset;have h9:(Value.type "list"==Value.type "dict")=false:=by decide
    have pF:(s.heap.push (sP (qd w))).IsList l items:=⟨_,ad1,rfl,nl,rfl⟩;have hh3:A.in1.in1.in1.handled=none:=by simp[hA]
    unfold Builtin.«set.__init__» noKeywords Builtin.Frozenset.updateFrom;generalize hPI:pyIter=PI
    wp_walk
    subst hPI;refine kZ pF (ae (wpAny_runValue ?_));have hlS:l<s.heap.objs.size:=aF MO;have nI:l≠(s.heap.push (sP (qd w))).objs.size:=by rw[cw];exact aH (dU hlS)
    have nS:s.heap.objs.size∉[(s.heap.push (sP (qd w))).objs.size,l]:=by
     rw[cw];intro hm;rcases aG.mp hm with hm|hm
     ·exact absurd hm (aH (du _))
     ·exact absurd (ay.mp hm) (bu hlS)
    have hsz:items.size=bs.length:=by rw[<-aQ,hi,ag]
    refine ab8 (knd:=knd) (h0:=s.heap) ((Walks.list hh3 _ l nI items).toS) s.heap.objs.size nS (ir (ak _)) (λb hb=>ir (by rw[ay.mp hb,cw];exact eZ _)) ks bs ∅ ∅ (λi v hv=>?_) hk (by first|exact hu|simpa using hu) ∅ (qd w) items.size 0 _ (sP (qd w)) 0 (.fresh 0 0 (qd w)) [] rfl (aP _) {{_,aE _ rfl,rfl,rfl},pF.push _} (λb o e=>ah _ (ah _ e)) ?_ rfl {ak _,λk=>by simp,λx hx=>nomatch hx} λs' o ep t xs hm pH pG hH=>?_
    ·have e:items.toList[i]?=some v:=by rw[bB];exact hv
     rw[hi,aJ]at e;obtain⟨b,hb,rfl⟩:=a9.mp e;exact⟨b,hb,rfl⟩
    ·exact{ah _ hS,⟨rfl,rfl,rfl⟩,rfl,Tab.fresh 0 0 _,by show 0*5<7*3;decide,by show 7<=15;decide,lQ,λx hx=>nomatch hx}
    ·obtain⟨h',g',d',EG,VP⟩:=s';have eg:g'=s.gens:=hm.gens;have ed:d'=s.drawn:=hm.drawn;have eo:VP=s.os:=hm.os;subst eg ed eo;rw[hsz]at hH;refine af (af {rfl,h',EG,o,ep,t,xs,rfl,pH,pG,hH,λb o e=>hm.heap b o ?_ (ah _ (ah _ e))});have lt:=aF e;rintro(_|⟨_,q⟩)
     ·exact dv _ lt
     ·rw[ay.mp q,cw]at lt;exact absurd lt (FO.mpr (eZ _))
   ·cases r2 with
    |error e=>exact qT
    |ok fl2=>
     cases fl2 with
     |ret r=>
      obtain⟨rfl,h',tk,o,ep,t,xs,rfl,pH,pG,hH,Hm⟩:=qT
      repeat (any_goals (first|assumption|wp_step))
      exact k _ _ o ep t xs pH pG hH Hm
     |_=>exact qT.elim
  |_=>exact hr.elim
end
end
end Tb
namespace Tb
open PySem PySem.SetTable
def Gj:entryFor table "set.__iter__"=some Builtin.«frozenset.__iter__»:=
 yu (id':="frozenset.__iter__") (by kernel_rfl) rfl (-3) (by kernel_rfl)
def eP:Slot "set_iterator" "__next__" "set_iterator.__next__":=
 .of (owner:="set_iterator") (n:="__next__") (by rw[js,fV];kernel_rfl) (-3) (-3) (-3)
  (by first|exact .inl (by decide+kernel)|exact .inr (by decide+kernel)) (by rw[yf];kernel_rfl)
def m7:entryFor table "set_iterator.__next__"=some Builtin.«set_iterator.__next__»:=entryFor_of_tree (by kernel_rfl)
def oI(a:Value):argsOk "set_iterator.__next__" {[a],[]}:=by unfold argsOk;kernel_rfl
def xJ:Slot "set_iterator" "__iter__" "set_iterator.__iter__":=
 .of (owner:="set_iterator") (n:="__iter__") (by rw[js,fV];kernel_rfl) (-3) (-3) (-3)
  (by first|exact .inl (by decide+kernel)|exact .inr (by decide+kernel)) (by rw[yf];kernel_rfl)
def Fw:entryFor table "set_iterator.__iter__"=some Builtin.«dict_keyiterator.__iter__»:=
 yu (id':="dict_keyiterator.__iter__") (by kernel_rfl) rfl (-3) (by kernel_rfl)
def Gy(a:Value):argsOk "set_iterator.__iter__" {[a],[]}:=by unfold argsOk;kernel_rfl
def Xu:typeLookup (.type "set") "__len__"=pure (some (.builtin "set.__len__")):=by rw[js,fV];kernel_rfl
section
variable{prog:Program}{w:World}{A:Around}{E:Aae}{s:Shared}
structure Sat(w:World)(h:Heap)(S:Addr)(es:Array (Int×Value))(ep:Nat)(t:SetTable):Prop where
 ob:∃o,h.get? S=some o/\o.ExactSet/\o.data=.set es ep t
 fits:t.fits es.size=true
 led:t.led=!w.params.followText "set-order"
 rise:nW t.place
def Sat.keep{S:Addr}(x:Sat w h S es ep t)(k:∀o,h.get? S=some o->h'.get? S=some o):Sat w h' S es ep t:=by obtain⟨⟨o,ho,r⟩,a,b,c⟩:=x;exact{{o,k o ho,r},a,b,c}
def Sat.state{S:Addr}(x:Sat w s.heap S es ep t)(h:Q (es,ep,t) s):wpAny (-5) A (setState S) Q E s:=by obtain⟨⟨o,ho,_,hd⟩,hf,_,_⟩:=x;exact uk ho hd hf h
def Av(h:Q (w.params.followText "set-order") s):wpAny (-5) A setsByText Q E s:=by unfold setsByText;exact ae (vi (af h))
def sR(w:World)(S:Addr)(es:Array (Int×Value))(ep:Nat):List (Int×Value):=if w.params.followText "set-order"=true then(pickOrder (w.params.setOrder S ep) es).toList else es.toList
def xj(w:World)(t:SetTable):Nat->Nat
 |0=>0
 |i+1=>if w.params.followText "set-order"=true then 0 else t.place.getD i 0+1
def zb(w:World)(S:Addr)(es:Array (Int×Value))(ep:Nat):(sR w S es ep).Perm es.toList:=by
 unfold sR;split
 ·exact Qa _ _
 ·exact .refl _
def II(t:SetTable):Nat->Nat
 |0=>0
 |i+1=>t.place.getD i 0+1
def Ve(hr:nW t.place):∀i,i<=t.place.size->below t.place (II t i)=i:=by
 intro i hi;obtain⟨h1,h2,h3⟩:=u4 hr (II t i);generalize eb:below t.place (II t i)=b at h1 h2 h3⊢;rcases k8 b i with c|c|c
 ·cases i with
  |zero=>lia
  |succ i=>
   have:=h3 b (ak _) ∅;rw[show II t (i+1)=t.place.getD i 0+1 from rfl]at this;by_cases e:b=i
   ·rw[e]at this;lia
   ·have:=hr b i ∅ ∅;lia
 ·exact c
 ·have:=h2 i c;cases i with
  |zero=>rw[show II t 0=0 from rfl]at this;lia
  |succ i=>
   rw[show II t (i+1)=t.place.getD i 0+1 from rfl]at this;have:=hr i (i+1) ∅ ∅;lia
def LG{S:Addr}(x:Sat w s.heap S es ep t)(hi:i<=es.size)(hd:w.params.followText "set-order"=true\/(!t.plain&&decide (es.size>1))=false)
  (h:Q ((sR w S es ep)[i]?.map λe=>(e.2,xj w t (i+1))) s):wpAny (-5) A (setNext S (xj w t i) i ep) Q E s:=by
 unfold setNext;refine ae (x.state ?_);dsimp only;refine ae (Av ?_);by_cases c:w.params.followText "set-order"=true
 ·rw[aD c];rw[au (-9)];refine ae ?_;unfold setWalk;refine ae (x.state ?_);dsimp only;refine ae (Av ?_);rw[aD c];refine ae (vi (af (af ?_)));have e1:sR w S es ep=(pickOrder (w.params.setOrder S ep) es).toList:=aD c;have e2:xj w t (i+1)=xj w t i:=by
   cases i with
   |zero=>exact aD c
   |succ i=>exact(aD c).trans (aD c).symm
  rw[e1,e2,bB]at h;exact h
 ·rw[au c];have qW:=hd.resolve_left c;have cf:w.params.followText "set-order"=false:=iB.mpr c;have fz:=x.fits;have sz:t.place.size=es.size:=by unfold SetTable.fits at fz;have:=(rE.mp fz).1;exact iE this
  show wpAny (-5) A (if(!t.plain&&decide (es.size>1))=true then _ else _) Q E s;rw[qW];simp only[cb,dJ];refine ae ?_;show wpAny (-5) A (if(!t.led&&!es.isEmpty)=true then _ else _) _ E s;rw[x.led,cf];simp only[Bool.not_false,iG,oO,cb,dJ];refine af (af ?_);have e0:xj w t i=II t i:=by
   cases i with
   |zero=>rfl
   |succ i=>exact au c
  rw[e0,Ve x.rise i ∅];have e1:sR w S es ep=es.toList:=au c;rw[e1,bB]at h;by_cases lt:i<es.size
  ·have g1:es[i]?=some es[i]:=bh lt;have g2:t.place[i]?=some (t.place.getD i 0):=getD_some.mpr {by lia,rfl};have g3:xj w t (i+1)=t.place.getD i 0+1:=au c;rw[g1]at h⊢;rw[g2];rw[d8,g3]at h;exact h
  ·have g1:es[i]?=none:=kX ∅;rw[g1]at h⊢;exact h
def GO(hT:s.TypeIs (.ref I) "set_iterator")(h:Q (.ref I) s):wpAny (-5) A (pyIter (.ref I)) Q E s:=by refine oY hT xJ (bq xJ hT Fw ?_ (Gy _));show wpAny _ _ (ret (.ref I)) _ _ s;exact af {_,rfl,"set_iterator",_,hT,eP.lookup,h}
abbrev oS(first:Value)(i:Nat)(S:Addr)(n ep:Nat):Obj:={cls:=.type "set_iterator",data:=.fields #[first,.int i 0,.ref S,.int n 0,.int ep 0]}
def B6(hh:A.handled=none)(k:∀(h':Heap)(e:Addr),(∀b o,h.get? b=some o->h'.get? b=some o)->(∃o,h'.get? e=some o/\o.cls=.type "StopIteration")->E (.ref e) {s with heap:=h'}):
  wpAny (-5) A (newExc (.type "StopIteration") []>>=λe=>(raiseNew e:Sem α)) Q E {s with heap:=h}:=by
 refine ae ?_;simp only[newExc,newTuple];refine ae (bT ?_ (by size_fits));refine ae (m:=firstArgMember _ _) (CM (a:=Value.none) (by first|rfl|(simp only[firstArgMember];rfl)) ?_);refine bT ?_ (by size_fits);simp only[raiseNew];refine ae (wpAny_handled ?_);rw[hh];refine ae (af (wpAny_throw ?_));exact k _ _ (λb o e=>ah _ (ah _ e)) {_,aE _ rfl,rfl}
def uL{h:Heap}(ho:h.get? a=some {cls:=cls,data:=.fields vs}):(h.update a (Obj.mapFields (·.setIfInBounds i x))).get? a=some {cls:=cls,data:=.fields (vs.setIfInBounds i x)}:=cy _ ho rfl
def abE(hh:A.handled=none){S I:Addr}(ne:S≠I)(hd:w.params.followText "set-order"=true\/(!t.plain&&decide (es.size>1))=false):
  WalksS prog w A I [I,S] [I] (λa b=>b=a) es.size (λi v=>((sR w S es ep).map (·.2))[i]?=some v) (λi s=>Sat w s.heap S es ep t/\s.heap.get? I=some (oS (.int (xj w t i) 0) i S es.size ep)) where
 sub:=λb hb=>by rw[ay.mp hb];exact ax
 grefl:=λ_=>rfl
 gtrans:=λ_ _ _ h1 h2=>h2.trans h1
 frame:=λi s h' tk st _ hk=>{st.1.keep λo e=>hk S (-9) o e,hk I (-9) _ st.2}
 item:=by
  intro i s Q E hi ⟨x,hI⟩ k;have hT:s.TypeIs (.ref I) "set_iterator":=⟨_,hI,rfl⟩;unfold pyNext;refine ae (-24);unfold Builtin.«set_iterator.__next__» slotArgs;simp only[qj,iG,cb,dJ,c7,jH];refine ae (ae (af (af ?_)));refine ae (iN hI rfl ?_);dsimp only;refine ae ?_;unfold setEntries;refine ae (x.state (af ?_));dsimp only;rw[au (-9)];simp only[cV];refine ae (LG x (br hi) hd ?_);have lo:i<(sR w S es ep).length:=by rw[(zb w S es ep).length_eq,aQ];exact hi
  rw[aq lo,d8];dsimp only;refine ae (fI hI rfl (-9) ?_);have MY:=uL (i:=0) (x:=rawInt (xj w t (i+1))) hI;refine ae (fI MY rfl (-9) ?_);have hI2:=uL (i:=1) (x:=rawInt ((i:Int)+1)) MY;refine af {_,rfl,af ?_};have xT:∀b o,b≠I->s.heap.get? b=some o->((s.heap.update I (Obj.mapFields (·.setIfInBounds 0 (rawInt (xj w t (i+1)))))).update I (Obj.mapFields (·.setIfInBounds 1 (rawInt ((i:Int)+1))))).get? b=some o:=λb o nb e=>(bN _ _ (bV nb)).trans ((bN _ _ (bV nb)).trans e);refine k _ _ (by rw[aJ,aq lo];rfl) {x.keep λo e=>xT S o ne e,?_} {λb o hb e=>xT b o (λz=>hb (ay.mpr z)) e,rfl,rfl,rfl,ak _};exact hI2
 done:=by intro s Q E ⟨x,hI⟩ k;have hT:s.TypeIs (.ref I) "set_iterator":=⟨_,hI,rfl⟩;unfold pyNext;refine ae (-24);unfold Builtin.«set_iterator.__next__» slotArgs;simp only[qj,iG,cb,dJ,c7,jH];refine ae (ae (af (af ?_)));refine ae (iN hI rfl ?_);dsimp only;refine ae ?_;unfold setEntries;refine ae (x.state (af ?_));dsimp only;rw[au (-9)];simp only[cV];refine ae (LG x (ak _) hd ?_);have lo:(sR w S es ep)[es.size]?=none:=eU (by rw[(zb w S es ep).length_eq,aQ];exact ak _);rw[lo,Option.map_none];dsimp only;refine ae (fI hI rfl (-9) ?_);have xT:∀b o,b≠I->s.heap.get? b=some o->(s.heap.update I (Obj.mapFields (·.setIfInBounds 2 Value.none))).get? b=some o:=λb o nb e=>(bN _ _ (bV nb)).trans e;refine B6 (s:=s) (show A.in1.handled=none from hh) λh' e kp adz=>?_;obtain⟨o,ho,hc⟩:=adz;refine ae (fY (T:="StopIteration") (b:=true) ⟨o,ho,hc⟩ j8 (af (k _ {λb o hb q=>kp b o (xT b o (λz=>hb (ay.mpr z)) q),rfl,rfl,rfl,ak _})))
 self:=by intro i s Q E ⟨x,hI⟩ h;exact GO ⟨_,hI,rfl⟩ h
def abD(hh:A.handled=none){S I T:Addr}(ne:S≠I)(nT:T≠I){ps:List Nat}(hp:ps.Perm (List.range es.size)):
  WalksS prog w A I [I,S,T] [I] (λa b=>b=a) es.size (λi v=>((ps.filterMap (es[·]?)).map (·.2))[i]?=some v) (λi s=>Sat w s.heap S es ep t/\s.heap.get? I=some (oS (.ref T) i S es.size ep)/\s.heap.get? T=some {cls:=.type "tuple",data:=.seq (ps.map λ(i:Nat)=>rawInt i).toArray}) where
 sub:=λb hb=>by rw[ay.mp hb];exact ax
 grefl:=λ_=>rfl
 gtrans:=λ_ _ _ h1 h2=>h2.trans h1
 frame:=λi s h' tk st _ hk=>{st.1.keep λo e=>hk S (-9) o e,hk I (-9) _ st.2.1,hk T (-9) _ st.2.2}
 item:=by
  intro i s Q E hi ⟨x,hI,WH⟩ k;have hT:s.TypeIs (.ref I) "set_iterator":=⟨_,hI,rfl⟩;unfold pyNext;refine ae (-24);unfold Builtin.«set_iterator.__next__» slotArgs;simp only[qj,iG,cb,dJ,c7,jH];refine ae (ae (af (af ?_)));refine ae (iN hI rfl ?_);dsimp only;refine ae ?_;unfold setEntries;refine ae (x.state (af ?_));dsimp only;rw[au (-9)];simp only[cV];refine ae (bW WH rfl ?_);have lp:ps.length=es.size:=by rw[hp.length_eq,jJ]
  have li:i<ps.length:=by lia
  have lpi:ps[i]<es.size:=c8.mp (hp.mem_iff.mp (iV li));have e1:((ps.map λ(i:Nat)=>rawInt i).toArray)[i]?=some (.int (ps[i]:Nat) 0):=by simp[li,rawInt]
  dsimp only;rw[e1];dsimp only;refine ae ?_;unfold setNextDrawn;refine ae (x.state ?_);dsimp only;rw[au (-9)];simp only[cV];rw[bh lpi];refine af ?_;refine ae (fI hI rfl (-9) ?_);have MY:=uL (i:=1) (x:=rawInt ((i:Int)+1)) hI;refine af {_,rfl,af ?_};have xT:∀b o,b≠I->s.heap.get? b=some o->(s.heap.update I (Obj.mapFields (·.setIfInBounds 1 (rawInt ((i:Int)+1))))).get? b=some o:=λb o nb e=>(bN _ _ (bV nb)).trans e;refine k _ _ ?_ {x.keep λo e=>xT S o ne e,MY,xT T _ nT WH} {λb o hb e=>xT b o (λz=>hb (ay.mpr z)) e,rfl,rfl,rfl,ak _};have all:∀(l:List Nat),(∀p∈l,p<es.size)->∀j:Nat,(l.filterMap (es[·]?))[j]?=(l[j]?).bind (es[·]?):=by
   intro l
   induction l with
   |nil=>intro _ j;simp
   |cons p l ih=>
    intro hl j;have lp:=hl p ax;rw[fN,bh lp];cases j with
    |zero=>simp[lp]
    |succ j=>
     simp only[oX];exact ih (λq hq=>hl q (az _ hq)) j
  rw[aJ,all ps (λp hq=>c8.mp (hp.mem_iff.mp hq)) i,aq li];simp[lpi]
 done:=by
  intro s Q E ⟨x,hI,WH⟩ k;have hT:s.TypeIs (.ref I) "set_iterator":=⟨_,hI,rfl⟩;unfold pyNext;refine ae (-24);unfold Builtin.«set_iterator.__next__» slotArgs;simp only[qj,iG,cb,dJ,c7,jH];refine ae (ae (af (af ?_)));refine ae (iN hI rfl ?_);dsimp only;refine ae ?_;unfold setEntries;refine ae (x.state (af ?_));dsimp only;rw[au (-9)];simp only[cV];refine ae (bW WH rfl ?_);have lp:ps.length=es.size:=by rw[hp.length_eq,jJ]
  have e1:((ps.map λ(i:Nat)=>rawInt i).toArray)[es.size]?=none:=by simp[lp]
  dsimp only;rw[e1];dsimp only;refine ae (fI hI rfl (-9) ?_);have MY:=uL (i:=0) (x:=rawInt 0) hI;refine ae (fI MY rfl (-9) ?_);have xT:∀b o,b≠I->s.heap.get? b=some o->((s.heap.update I (Obj.mapFields (·.setIfInBounds 0 (rawInt 0)))).update I (Obj.mapFields (·.setIfInBounds 2 Value.none))).get? b=some o:=λb o nb e=>(bN _ _ (bV nb)).trans ((bN _ _ (bV nb)).trans e);refine B6 (s:=s) (show A.in1.handled=none from hh) λh' e kp ady=>?_;obtain⟨o,ho,hc⟩:=ady;refine ae (fY (T:="StopIteration") (b:=true) ⟨o,ho,hc⟩ j8 (af (k _ {λb o hb q=>kp b o (xT b o (λz=>hb (ay.mpr z)) q),rfl,rfl,rfl,ak _})))
 self:=by intro i s Q E ⟨x,hI,_⟩ h;exact GO ⟨_,hI,rfl⟩ h
def Km(hT:s.TypeIs (.ref r) "set")(h:Q false s):wpAny (-5) A (Builtin.List.listLengthHint (.ref r)) Q E s:=by
 unfold Builtin.List.listLengthHint;refine ae (hG hT Xu ?_);generalize hid:("set.__len__":String)=id0
 wp_delta
 rw[show splitId id0=some ("set","__len__")from by subst hid;decide+kernel];subst hid;refine ae (fY (T:="set") (b:=true) hT (by rw[yf];kernel_rfl) ?_);refine mT (λhab=>absurd hab (-8)) (λ_=>?_);refine mT (λ_=>?_) (λhab=>absurd (-3) hab);refine ae (fA hT ?_);exact af h
def Xf{S:Addr}(x:Sat w s.heap S es ep t)(hn:es.size<=100000)
  (h1:(w.params.followText "set-order"=true\/(!t.plain&&decide (es.size>1))=false)->Q (-11) {s with heap:=s.heap.push (oS (.int 0 0) 0 S es.size ep)})
  (h2:∀(ps:List Nat) d,ps.Perm (List.range es.size)->Q (.ref (-17)) {s with heap:=(-29).push (oS (-11) 0 S es.size ep),drawn:=d}):
  wpAny (-5) A (pyIter (.ref S)) Q E s:=by
 obtain⟨o,ho,hex,hd⟩:=x.ob;have hT:s.TypeIs (.ref S) "set":={o,ho,hex.1};refine oY hT F.slot_set_iter (bq F.slot_set_iter hT Gj ?_ (F.args_set_iter_1 _));unfold Builtin.«frozenset.__iter__» Builtin.Frozenset.slot0 slotArgs;refine ae (ae (af (af ?_)));refine ae ?_;unfold Builtin.Frozenset.sizeOf setEntries;refine ae (ae (x.state (af (af ?_))));refine ae ?_;unfold setDrawn;refine ae (x.state ?_);refine ae (Av ?_);refine af ?_;show wpAny (-5) _ (if(!w.params.followText "set-order"&&(!t.plain&&decide (es.size>1)))=true then _ else _) _ _ s;by_cases c:(!w.params.followText "set-order"&&(!t.plain&&decide (es.size>1)))=true
 ·rw[aD c];refine ae (LH es.size (List.range es.size) s (-9) λps d hp=>?_);refine ae (bT ?_ (by show(ps.map _).toArray.size<=_;rw[aI,ag,hp.length_eq,jJ,cP];lia));have x2:Sat w (-29) S es ep t:=x.keep λo e=>ah _ e;refine ae ?_;unfold setEpoch;refine ae (Sat.state x2 (af ?_));refine ae (bT (af {_,rfl,"set_iterator",_,{_,aE _ rfl,rfl},eP.lookup,?_}));have:=h2 ps d hp;rw[cw];exact this
 ·rw[au c];refine ae (af ?_);refine ae ?_;unfold setEpoch;refine ae (x.state (af ?_));refine ae (bT (af {_,rfl,"set_iterator",_,{_,aE _ rfl,rfl},eP.lookup,h1 ?_}));cases q:w.params.followText "set-order"with
  |true=>exact .inl rfl
  |false=>
   rw[q]at c;exact .inr (iB.mpr c)
def Mo(l:Aag)(acc:Aal)(ha:ItemsOf (λi v=>l[i]?=some v) acc l.length):acc.toList=l:=by
 refine o9 λi=>?_;by_cases c:i<l.length
 ·have ci:i<acc.size:=by rw[ha.1];exact c
  have:=ha.2 i acc[i] (bh ci);rw[this,bB,bh ci]
 ·rw[eU (by rw[aQ,ha.1];lia),eU ∅]
theorem P6{α:Type}:∀l:List α,(List.range l.length).filterMap (λi=>l[i]?)=l
 |[]=>rfl
 |x::l=>by rw[bK,xy,fN];show x::_=_;rw[tY];congr 1;exact P6 l
def OM{S L:Addr}(hh:A.handled=none)(x:Sat w s.heap S es ep t)(hn:es.size<=100000)(Mx:L≠S)(hL:s.heap.get? L=some {cls:=.type "list",data:=.seq #[] c₀})
  (hR:∀h' tk d acc c,(∀b o,b≠L->s.heap.get? b=some o->h'.get? b=some o)->h'.get? L=some {cls:=.type "list",dict:=none,data:=.seq acc c,slots:=#[]}->acc.toList.Perm (es.toList.map (·.2))->R (.ok (.ret res)) {s with heap:=h',toks:=tk,drawn:=d}):
  wpAny (-5) A.in1 (Builtin.List.listExtendWith (.ref L) (.ref S) res)
   (λfin s'=>match fin with| .done f=>R (.ok f) s'| .again c'=>c'.quiet=true/\codeAny (-5) A c' R s') (λe s'=>R (.error e) s') s:=by
 obtain⟨o,ho,hex,hd⟩:=x.ob;have hS:=aF ho;have hLl:=aF hL;have key:∀(I:Addr)(fp:Aaj)(P:Nat->Value->Prop)(St:Nat->Shared->Prop),WalksS prog w A.in1 I fp [I] (λa b=>b=a) es.size P St->s.heap.objs.size<=I->L∉fp->(∀acc:Aal,ItemsOf P acc es.size->acc.toList.Perm (es.toList.map (·.2)))->
   ∀(h:Heap)(d:Drawn)(c₁ tk:Nat),(∀b o,b≠L->s.heap.get? b=some o->h.get? b=some o)->h.get? L=some {cls:=.type "list",data:=.seq #[] c₁}->St 0 {s with heap:=h,toks:=tk,drawn:=d}->
   codeAny (-5) A (.builtin "list.extend.loop" {[.ref L,.ref I,res],[]}) R {s with heap:=h,toks:=tk,drawn:=d}:=by
  intro I fp P St W hI nf hP h d c₁ tk hk aco st;refine codeAny_extend_loopS W (by rw[cP];lia) _ nf _ es.size 0 _ _ _ rfl (aP _) st aco (ItemsOf.nil P) λs' uf c' hm pH aej=>?_;obtain⟨h',g',d',EG,VP⟩:=s';have eg:=hm.gens;have ed:d'=d:=hm.drawn;have eo:=hm.os;subst eg ed eo;refine hR h' EG d' uf c' (λb o hb e=>hm.heap b o ?_ (hk b o hb e)) pH (hP uf aej);have lt:=aF e;intro q;rcases aG.mp q with q|q
  ·exact hb q
  ·rw[ay.mp q]at lt;exact absurd (aZ lt hI) (dv _)
 have tail:∀(I:Addr)(fp:Aaj)(P:Nat->Value->Prop)(St:Nat->Shared->Prop),WalksS prog w A.in1 I fp [I] (λa b=>b=a) es.size P St->s.heap.objs.size<=I->L∉fp->(∀acc:Aal,ItemsOf P acc es.size->acc.toList.Perm (es.toList.map (·.2)))->
   ∀(h:Heap)(d:Drawn),(∀b o,s.heap.get? b=some o->h.get? b=some o)->St 0 {s with heap:=h,drawn:=d}->
   wpAny (-5) A.in1 (Builtin.List.listTouch (.ref L)>>=λ_=>again (.builtin "list.extend.loop" {[.ref L,.ref I,res],[]})) (λfin s'=>match fin with| .done f=>R (.ok f) s'| .again c'=>c'.quiet=true/\codeAny (-5) A c' R s') (λe s'=>R (.error e) s') {s with heap:=h,drawn:=d}:=by
  intro I fp P St W hI nf hP h d hk st;refine ae ?_;have WJ:=hk _ _ hL;refine ae (jo WJ rfl ?_);have WI:=cy (Obj.mapSeq (·.push Value.none)) WJ rfl;refine jo WI rfl ?_;have acn:=cy (Obj.mapSeq (·.pop)) WI rfl;have xT:∀b o,b≠L->h.get? b=some o->((h.update L (Obj.mapSeq (·.push Value.none))).update L (Obj.mapSeq (·.pop))).get? b=some o:=
   λb o hb e=>(bN _ _ (bV hb)).trans ((bN _ _ (bV hb)).trans e)
  exact af {gL rS _,key I fp P St W hI nf hP _ d _ s.toks (λb o hb e=>xT b o hb (hk b o e)) acn (W.frame 0 {s with heap:=h,drawn:=d} _ s.toks st (ak _) λb hb o e=>xT b o (λz=>nf (z▸hb)) e)}
 have hT:s.TypeIs (.ref S) "set":={o,ho,hex.1};have e1:Builtin.List.listSameRef (.ref L) (.ref S)=false:=by simp[Builtin.List.listSameRef,Mx]
 have e2:(Value.type "set"==Value.type "list")=false:=by decide
 have e3:(Value.type "set"==Value.type "tuple")=false:=by decide
 unfold Builtin.List.listExtendWith;refine ae (fA hT ?_);simp only[e1,e2,e3,Ao,cb,dJ];refine ae (Xf x hn (λhc=>?_) λps d hp=>?_)
 ·have W:=abE (prog:=prog) (A:=A.in1) (ep:=ep) (by simpa using hh) (aH hS) hc;have nf:L∉[s.heap.objs.size,S]:=λhb=>by
   rcases aG.mp hb with q|q
   ·exact absurd q (aH hLl)
   ·exact Mx (ay.mp q)
  have hP:∀acc:Aal,ItemsOf (λi v=>((sR w S es ep).map (·.2))[i]?=some v) acc es.size->acc.toList.Perm (es.toList.map (·.2)):=λacc ha=>by
   have lo:((sR w S es ep).map (·.2)).length=es.size:=by rw[ag,(zb w S es ep).length_eq,aQ]
   rw[<-lo]at ha;rw[Mo _ acc ha];exact(zb w S es ep).map _
  have kp:∀b o,s.heap.get? b=some o->(s.heap.push (oS (.int 0 0) 0 S es.size ep)).get? b=some o:=λb o e=>ah _ e;have st:Sat w (s.heap.push (oS (.int 0 0) 0 S es.size ep)) S es ep t/\(s.heap.push (oS (.int 0 0) 0 S es.size ep)).get? s.heap.objs.size=some (oS (.int (xj w t 0) 0) 0 S es.size ep):={x.keep λo e=>kp _ _ e,aE _ rfl};refine ae (bP (Km {o,kp _ _ ho,hex.1} ?_));refine mT (λ_=>?_) (λ_=>af {gL rS _,key _ _ _ _ W (ak _) nf hP _ s.drawn c₀ s.toks (λb o _ e=>kp b o e) (kp _ _ hL) st});exact ae (fQ (tail _ _ _ _ W (ak _) nf hP _ s.drawn kp st))
 ·have nT:s.heap.objs.size≠s.heap.objs.size+1:=aH (du _);have W:=abD (prog:=prog) (w:=w) (A:=A.in1) (ep:=ep) (t:=t) (by simpa using hh) (aH (dU hS)) nT hp;have nf:L∉[s.heap.objs.size+1,S,s.heap.objs.size]:=λhb=>by
   rcases aG.mp hb with q|q
   ·exact absurd q (aH (dU hLl))
   ·rcases aG.mp q with q|q
    ·exact Mx q
    ·exact absurd (ay.mp q) (aH hLl)
  have hP:∀acc:Aal,ItemsOf (λi v=>((ps.filterMap (es[·]?)).map (·.2))[i]?=some v) acc es.size->acc.toList.Perm (es.toList.map (·.2)):=λacc ha=>by
   have hl:(ps.filterMap (es[·]?)).Perm es.toList:=by
    have:=hp.filterMap (es.toList[·]?);rw[<-aQ]at this;have e4:(ps.filterMap (es[·]?))=ps.filterMap (es.toList[·]?):=by simp
    rw[e4];rwa [P6]at this
   have lo:((ps.filterMap (es[·]?)).map (·.2)).length=es.size:=by rw[ag,hl.length_eq,aQ]
   rw[<-lo]at ha;rw[Mo _ acc ha];exact hl.map _
  generalize Fl:(-29).push (oS (-11) 0 S es.size ep)=wU;have kp:∀b o,s.heap.get? b=some o->wU.get? b=some o:=λb o e=>by rw[<-Fl];exact ah _ (ah _ e)
  have gI:wU.get? (-17)=some (oS (-11) 0 S es.size ep):=by have:=aE (-29) (o:=oS (-11) 0 S es.size ep) rfl;rw[cw]at this;rw[<-Fl];exact this
  have gT:wU.get? s.heap.objs.size=some {cls:=.type "tuple",data:=.seq (ps.map λ(i:Nat)=>rawInt i).toArray}:=by rw[<-Fl];exact ah _ (aE _ rfl)
  have st:Sat w wU S es ep t/\wU.get? (-17)=some (oS (-11) 0 S es.size ep)/\wU.get? s.heap.objs.size=some {cls:=.type "tuple",data:=.seq (ps.map λ(i:Nat)=>rawInt i).toArray}:={x.keep λo e=>kp _ _ e,gI,gT};refine ae (bP (Km {o,kp _ _ ho,hex.1} ?_));refine mT (λ_=>?_) (λ_=>af {gL rS _,key _ _ _ _ W (eZ _) nf hP wU d c₀ s.toks (λb o _ e=>kp b o e) (kp _ _ hL) st});exact ae (fQ (tail _ _ _ _ W (eZ _) nf hP wU d kp st))
def Lu{S:Addr}(hh:A.handled=none)(x:Sat w s.heap S es ep t)(hn:es.size<=100000)
  (h:∀h' tk d vs,vs.Perm (es.toList.map (·.2))->(∀b o,s.heap.get? b=some o->h'.get? b=some o)->R vs {s with heap:=h',toks:=tk,drawn:=d}):wpAny (-5) A (collect (.ref S)) R E s:=by
 obtain⟨o,ho,hex,hd⟩:=x.ob;have hS:=aF ho;unfold collect;refine ae (wpAny_runValue (dm F.entry_proto_collect ?_));rw[gk F.plain_proto_collect _];refine ae (bT ?_);refine af {gL CK _,dm F.entry_list_iadd ?_};rw[gk CK _];have k1:∀b o,s.heap.get? b=some o->(s.heap.push {cls:=.type "list",data:=.seq ([]:Aag).toArray}).get? b=some o:=λb o e=>ah _ e;have hL:(s.heap.push {cls:=.type "list",data:=.seq ([]:Aag).toArray}).get? s.heap.objs.size=some {cls:=.type "list",data:=.seq #[]}:=aE _ rfl;have key:=OM (prog:=prog) (s:={s with heap:=s.heap.push {cls:=.type "list",data:=.seq ([]:Aag).toArray}})
  (R:=λ(q:Result)(s':Shared)=>∃(h':Heap)(tk:Nat)(d:Drawn)(uf:Aal)(c':Nat),q=.ok (.ret (-11))/\s'={s with heap:=h',toks:=tk,drawn:=d}/\
   (∀b o,s.heap.get? b=some o->h'.get? b=some o)/\h'.get? s.heap.objs.size=some {cls:=.type "list",dict:=none,data:=.seq uf c',slots:=#[]}/\uf.toList.Perm (es.toList.map (·.2)))
  hh (x.keep λo e=>k1 _ _ e) hn (bu hS) hL λh' tk d acc c kp g pm=>{h',tk,d,acc,c,rfl,rfl,λb o e=>kp b o (aH (aF e)) (k1 _ _ e),g,pm}
 refine cZ key (λfin s' x=>?_) λe s' x=>?_
 ·cases fin with
  |done f=>
   obtain⟨h',tk,d,uf,c',e,rfl,hk,pH,pm⟩:=x;cases e;refine ae (EC pH ?_);exact af (h h' tk d uf.toList pm hk)
  |again c₁=>
   refine{x.1,lK x.2 λq aae y=>?_};obtain⟨h',tk,d,uf,c',rfl,rfl,hk,pH,pm⟩:=y;refine ae (EC pH ?_);exact af (h h' tk d uf.toList pm hk)
 ·obtain⟨_,_,_,_,_,e',_⟩:=x;cases e'
end
end Tb
namespace Nj
open PySem PyProof.Rows
def vg:Bool->Keyed->Array Keyed->Nat->Nat->Nat->StateT SortSt Sem (Option Nat):=sortPriv% PySem.Builtin.gallop
def JJ:Array Keyed->Array Keyed->StateT SortSt Sem (Array Keyed):=sortPriv% PySem.Builtin.mergeLo
def JK:Array Keyed->Array Keyed->StateT SortSt Sem (Array Keyed):=sortPriv% PySem.Builtin.mergeHi
structure Ct where
 prog:Program
 w:World
 A:Around
 J:Shared->Prop
 κ:SortKind
 rk:Keyed->Nat
 In:Keyed->Prop
 lt:∀x y,In x->In y->∀s,J s->wpAny (-5) A (keyLt' κ x.1 y.1) (λb s'=>b=decide (rk x<rk y)/\J s') (λ_ _=>False) s
variable{C:Ct}
def W(C:Ct)(m:StateT SortSt Sem α)(Q:α->SortSt->Prop)(st:SortSt):Prop:=
 ∀s,C.J s->wpAny (model C.prog C.w) C.A (m.run st) (λr s'=>C.J s'/\Q r.1 r.2) (λ_ _=>False) s
section
variable{α β:Type}{Q:α->SortSt->Prop}{st:SortSt}
def W.pure(h:Q a st):W C (pure a) Q st:=λs j=>by rw[StateT.run_pure];exact af ⟨j,h⟩
def W.bind(h:W C m (λb hX=>W C (f b) Q hX) st):W C (m>>=f) Q st:=λs j=>by rw[StateT.run_bind];exact ae (cZ (h s j) (λr s' x=>x.2 s' x.1) λ_ _ e=>e)
def W.mono(h:W C m Q' st)(k:∀a hX,Q' a hX->Q a hX):W C m Q st:=λs j=>
 cZ (h s j) (λr s' x=>{x.1,k _ _ x.2}) λ_ _ e=>e
def W.get{Q:SortSt->SortSt->Prop}(h:Q st st):W C (get:StateT SortSt Sem SortSt) Q st:=λs j=>by rw[StateT.run_get];exact af ⟨j,h⟩
def W.modify{Q:PUnit->SortSt->Prop}(h:Q ⟨⟩ (f st)):W C (modify f:StateT SortSt Sem PUnit) Q st:=λs j=>by rw[StateT.run_modify];exact af ⟨j,h⟩
def W.rl{Q:PUnit->SortSt->Prop}(h:Q ⟨⟩ st):W C (liftM (PySem.rule r:Sem PUnit):StateT SortSt Sem PUnit) Q st:=λs j=>by show wpAny _ _ ((StateT.lift (PySem.rule r:Sem PUnit):StateT SortSt Sem PUnit).run st) _ _ s;rw[StateT.run_lift];exact ae (fQ (af ⟨j,h⟩))
def W.lt{Q:Option Bool->SortSt->Prop}(hk:kindOf st=C.κ)(hx:C.In x)(hy:C.In y)(h:Q (some (decide (C.rk x<C.rk y))) st):W C (lt' x y) Q st:=by rw[lt'_eq];refine W.bind (W.get ?_);rw[hk];refine W.bind λs j=>?_;show wpAny _ _ ((StateT.lift _:StateT SortSt Sem _).run st) _ _ s;rw[StateT.run_lift];refine ae (dH (cZ (C.lt x y hx hy s j) (λb s' q=>?_) λ_ _ e=>e.elim));obtain⟨rfl,j'⟩:=q;exact af {j',W.pure h}
def W.elem{Q:Keyed->SortSt->Prop}(hi:i<a.size)(h:Q a[i] st):W C (elem' a i) Q st:=by rw[elem'_eq,getElem?_pos a i hi];exact W.pure h
def W.for(I:Nat->β->SortSt->Prop){Q:β->SortSt->Prop}
  (hs:∀i c st,a<=i->i<b->I i c st->W C (f i c) (λr hX=>match r with| .done c'=>Q c' hX| .yield c'=>I (i+1) c' hX) st)
  (he:∀c st,I (max a b) c st->Q c st) (h:I a c st):W C (forIn [a:b] c f) Q st:=by
 rw[mQ];have hsz:([a:b]:Std.Legacy.Range).size=b -a:=by simp[Std.Legacy.Range.size]
 show W C (forIn (List.range' a ([a:b]:Std.Legacy.Range).size 1) c f) Q st;rw[hsz]
 suffices go:∀n i c st,a<=i->i+n=max a b->I i c st->W C (forIn (List.range' i n 1) c f) Q st from go (b -a) a c st (ak _) ∅ h
 intro n
 induction n with
 |zero=>
  intro i c st _ e h;rw[List.range'_zero,yE];rw[show i=max a b by lia]at h;exact W.pure (he _ _ h)
 |succ n ih=>
  intro i c st ha e h;rw[List.range'_succ,m8];refine W.bind (W.mono (hs i c st ha ∅ h) λr hX x=>?_);cases r with
  |done c'=>exact W.pure x
  |yield c'=>exact ih (i+1) c' hX ∅ ∅ x
end
variable{C:Ct}
def FJ(C:Ct)(left:Bool)(key x:Keyed):Bool:=if left then decide (C.rk x<C.rk key)else !decide (C.rk key<C.rk x)
def abG{st:SortSt}(hk:kindOf st=C.κ)(lH:C.In key)(hi:i<arr.size)(ic:C.In arr[i])(h:Q (some (FJ C left key arr[i])) st):W C (do
  let x<-elem' arr i
  if left=true then lt' x key else do
   let r<-lt' key x
   pure (r.map (!·))) Q st:=by
 refine W.bind (W.elem hi ?_);unfold FJ at h;cases left with
 |true=>exact W.lt hk ic lH h
 |false=>exact W.bind (W.lt hk lH ic (W.pure h))
def gB(C:Ct)(left:Bool)(key:Keyed)(arr:Array Keyed)(i:Nat):Bool:=(arr[i]?).elim false (FJ C left key)
def Ie{st:SortSt}(hk:kindOf st=C.κ)(lH:C.In key)(ic:∀x∈arr,C.In x)(hb:base+n<=arr.size)(hh:hint<n)
  (mono:∀i j,i<=j->j<n->gB C left key arr (base+j)=true->gB C left key arr (base+i)=true)
  (h:∀k,k<=n->(∀i,i<k->gB C left key arr (base+i)=true)->(∀i,k<=i->i<n->gB C left key arr (base+i)=false)->Q (some k) st):W C (vg left key arr base n hint) Q st:=by
 have bb:∀{i:Nat}{Q:Option Bool->SortSt->Prop}(q:i<n),Q (some (gB C left key arr (base+i))) st->W C (do
  let x<-elem' arr (base+i)
  if left=true then lt' x key else do
   let r<-lt' key x
   pure (r.map (!·))) Q st:=λ{i Q} q x=>abG hk lH ∅ (ic _ (cW ∅)) (by
    unfold gB at x;rw[getElem?_pos arr (base+i) ∅]at x;exact x)
 have nm:∀i j,i<=j->j<n->gB C left key arr (base+i)=false->gB C left key arr (base+j)=false:=λi j h1 h2 e=>by
  cases e2:gB C left key arr (base+j)with
  |false=>rfl
  |true=>rw[mono i j h1 h2 e2]at e;cases e
 generalize gB C left key arr=B at mono h bb nm;unfold vg;refine W.bind (bb hh ?_);have fin:∀{lo hi:Nat},lo<=hi->hi<=n->(∀i,i<lo->B (base+i)=true)->(∀i,hi<=i->i<n->B (base+i)=false)->∀{f:Nat->Option (Option Nat)×Nat×Nat->StateT SortSt Sem (ForInStep (Option (Option Nat)×Nat×Nat))}{g:Option (Option Nat)×Nat×Nat->StateT SortSt Sem (Option Nat)},
   (∀x lo hi(P:ForInStep (Option (Option Nat)×Nat×Nat)->SortSt->Prop),lo<=hi->hi<=n->(lo≥hi->P (.done (none,lo,hi)) st)->(lo<hi->(B (base+(lo+(hi -lo)/2))=true->P (.yield (none,lo+(hi -lo)/2+1,hi)) st)/\(B (base+(lo+(hi -lo)/2))=false->P (.yield (none,lo,lo+(hi -lo)/2)) st))->W C (f x (none,lo,hi)) P st)->
   (∀lo hi,W C (pure (some hi)) Q st->W C (g (none,lo,hi)) Q st)->W C (forIn [0:n] (none,lo,hi) f>>=g) Q st:=by
  intro lo hi h1 h2 h3 h4 f g hf hg;refine W.bind (W.mono (W.for (I:=λx c s'=>s'=st/\∃lo hi,c=(none,lo,hi)/\lo<=hi/\hi<=n/\hi -lo<=n -x/\(∀i,i<lo->B (base+i)=true)/\(∀i,hi<=i->i<n->B (base+i)=false))
   (Q:=λc s'=>s'=st/\∃hi,c=(none,hi,hi)/\hi<=n/\(∀i,i<hi->B (base+i)=true)/\(∀i,hi<=i->i<n->B (base+i)=false)) ?_ ?_ {rfl,lo,hi,rfl,h1,h2,by lia,h3,h4}) ?_)
  ·rintro x c s' _ hx ⟨rfl,lo,hi,rfl,a1,a2,a3,a4,a5⟩;exact hf x lo hi _ a1 a2 (λq=>{rfl,hi,by rw[show lo=hi by lia],a2,λi q=>a4 i ∅,a5}) λq=>{λe=>{rfl,_,_,rfl,by lia,a2,by lia,λi q=>mono i _ ∅ ∅ e,a5},λe=>{rfl,_,_,rfl,by lia,by lia,by lia,a4,λi q z=>nm _ i q z e}}
  ·rintro c s' ⟨rfl,lo,hi,rfl,a1,a2,a3,a4,a5⟩;have:lo=hi:=by lia
   subst this;exact⟨rfl,_,rfl,a2,a4,a5⟩
  ·rintro c s' ⟨rfl,hi,rfl,a2,a4,a5⟩;exact hg _ _ (W.pure (h hi a2 a4 a5))
 cases e0:B (base+hint)with
 |true=>
  refine W.bind (W.mono (W.for (I:=λx c s'=>s'=st/\∃l o,c=(none,l,o)/\l<o/\x<=l/\hint+l<n/\B (base+(hint+l))=true)
   (Q:=λc s'=>s'=st/\∃l o,c=(none,l,o)/\l<o/\hint+l<n/\B (base+(hint+l))=true/\(n -hint<=o\/B (base+(hint+o))=false)) ?_ ?_ {rfl,0,1,rfl,by lia,by lia,by lia,e0}) ?_)
  ·rintro x c s' _ hx ⟨rfl,l,o,rfl,a1,a2,a3,a4⟩;by_cases c:o≥n -hint
   ·dsimp only;rw[aD c];exact W.pure {rfl,l,o,rfl,a1,a3,a4,.inl c}
   ·dsimp only;rw[au c];refine W.bind (bb ∅ ?_);cases e1:B (base+(hint+o))with
    |true=>exact W.pure {rfl,o,2*o+1,rfl,by lia,by lia,by lia,e1}
    |false=>exact W.pure {rfl,l,o,rfl,a1,a3,a4,.inr e1}
  ·rintro c s' ⟨rfl,l,o,rfl,a1,a2,a3,a4⟩;lia
  ·rintro c s' ⟨rfl,l,o,rfl,a1,a3,a4,a5⟩;refine fin (lo:=hint+l+1) (hi:=hint+min o (n -hint)) ∅ ∅ (λi q=>mono i _ ∅ a3 a4) (λi q z=>?_) (λx lo hi P a1 a2 p1 p2=>?_) λlo hi x=>x
   ·rcases a5 with a5|a5
    ·lia
    ·exact nm _ i ∅ z a5
   ·by_cases c:lo≥hi
    ·dsimp only;rw[aD c];exact W.pure (p1 c)
    ·dsimp only;rw[au c];refine W.bind (bb ∅ ?_);cases e1:B (base+(lo+(hi -lo)/2))with
     |true=>exact W.pure ((p2 ∅).1 e1)
     |false=>exact W.pure ((p2 ∅).2 e1)
 |false=>
  refine W.bind (W.mono (W.for (I:=λx c s'=>s'=st/\∃l o,c=(none,l,o)/\l<o/\x<=l/\l<=hint/\B (base+(hint -l))=false)
   (Q:=λc s'=>s'=st/\∃l o,c=(none,l,o)/\l<o/\l<=hint/\B (base+(hint -l))=false/\(hint+1<=o\/B (base+(hint -o))=true)) ?_ ?_ {rfl,0,1,rfl,by lia,by lia,by lia,e0}) ?_)
  ·rintro x c s' _ hx ⟨rfl,l,o,rfl,a1,a2,a3,a4⟩;by_cases c:o≥hint+1
   ·dsimp only;rw[aD c];exact W.pure {rfl,l,o,rfl,a1,a3,a4,.inl c}
   ·dsimp only;rw[au c];refine W.bind (bb ∅ ?_);cases e1:B (base+(hint -o))with
    |true=>exact W.pure {rfl,l,o,rfl,a1,a3,a4,.inr e1}
    |false=>exact W.pure {rfl,o,2*o+1,rfl,by lia,by lia,by lia,e1}
  ·rintro c s' ⟨rfl,l,o,rfl,a1,a2,a3,a4⟩;lia
  ·rintro c s' ⟨rfl,l,o,rfl,a1,a3,a4,a5⟩;refine fin (lo:=hint+1 -min o (hint+1)) (hi:=hint -l) ∅ ∅ (λi q=>?_) (λi q z=>nm _ i ∅ z a4) (λx lo hi P a1 a2 p1 p2=>?_) λlo hi x=>x
   ·rcases a5 with a5|a5
    ·lia
    ·exact mono i _ ∅ ∅ a5
   ·by_cases c:lo≥hi
    ·dsimp only;rw[aD c];exact W.pure (p1 c)
    ·dsimp only;rw[au c];refine W.bind (bb ∅ ?_);cases e1:B (base+(lo+(hi -lo)/2))with
     |true=>exact W.pure ((p2 ∅).1 e1)
     |false=>exact W.pure ((p2 ∅).2 e1)
section
variable{α:Type}{r:α->α->Prop}{la lb out:List α}{ia ib:Nat}
structure Mg(r:α->α->Prop)(la lb out:List α)(ia ib:Nat):Prop where
 pm:out.Perm (la.take ia++lb.take ib)
 so:out.Pairwise r
 ga:∀x∈out,∀y∈la.drop ia,r x y
 gb:∀x∈out,∀y∈lb.drop ib,r x y
def Mg.swap(h:Mg r la lb out ia ib):Mg r lb la out ib ia:={h.pm.trans jy,h.so,h.gb,h.ga}
def Mg.go(h:Mg r la lb out ia ib)(hs:la.Pairwise r)(k:Nat)(c:∀x∈(la.drop ia).take k,∀y∈lb.drop ib,r x y):Mg r la lb (out++(la.drop ia).take k) (ia+k) ib:=by
 have e:=dq k (la.drop ia);have s2:=hs.sublist (uG ia la);rw[<-e]at s2;obtain⟨s3,s4,s5⟩:=jR.mp s2;rw[List.drop_drop]at s5;have m:∀y∈(la.drop ia).take k,y∈la.drop ia:=λy hy=>fq hy;have m2:∀y∈la.drop (ia+k),y∈la.drop ia:=λy hy=>by rw[<-List.drop_drop]at hy;exact List.mem_of_mem_drop hy
 refine{?_,jR.mpr {h.so,s3,λx hx y hy=>h.ga x hx y (m y hy)},λx hx y hy=>?_,λx hx y hy=>?_}
 ·rw[List.take_add];refine(h.pm.append_right _).trans ?_;rw[cD,cD];exact qD _ jy
 ·rcases aS.mp hx with hx|hx
  ·exact h.ga x hx y (m2 y hy)
  ·exact s5 x hx y hy
 ·rcases aS.mp hx with hx|hx
  ·exact h.gb x hx y hy
  ·exact c x hx y hy
def Mg.end(h:Mg r la lb out ia ib)(ha:la.Pairwise r)(hb:lb.Pairwise r)(c:∀x∈la.drop ia,∀y∈lb.drop ib,r x y):(out++la.drop ia++lb.drop ib).Perm (la++lb)/\(out++la.drop ia++lb.drop ib).Pairwise r:=by
 constructor
 ·rw[cD];refine(h.pm.append_right _).trans ?_
  conv=>rhs;rw[<-dq ia la,<-dq ib lb]
  rw[cD,cD];refine qD _ ?_;rw[<-cD,<-cD];exact xD _ jy
 ·refine jR.mpr {jR.mpr {h.so,ha.sublist (uG _ _),h.ga},hb.sublist (uG _ _),λx hx y hy=>?_};rcases aS.mp hx with hx|hx
  ·exact h.gb x hx y hy
  ·exact c x hx y hy
end
variable{C:Ct}
def Res(C:Ct)(a b m:Array Keyed):Prop:=m.toList.Perm (a.toList++b.toList)/\m.toList.Pairwise λx y=>C.rk x<=C.rk y
abbrev So(C:Ct)(a:Array Keyed):Prop:=a.toList.Pairwise λx y=>C.rk x<=C.rk y
abbrev Rk(C:Ct)(x y:Keyed):Prop:=C.rk x<=C.rk y
def So.at(h:So C a)(hj:j<a.size)(q:i<=j):C.rk (a[i]'∅)<=C.rk a[j]:=by
 rcases Nat.lt_or_ge i j with z|z
 ·exact eE.mp h i j (by simpa using(by lia:i<a.size)) (by simpa using hj) z
 ·have:i=j:=by lia
  subst this;exact ak _
def Ba{a:Array Keyed}(h:x∈a.toList.drop n):∃i,∃q:i<a.size,n<=i/\x=a[i]:=by obtain⟨i,hi,e⟩:=d9.mp h;rw[mq,aQ]at hi;exact{n+i,by lia,by lia,by rw[<-e];simp}
def QB{a:Array Keyed}(h:x∈(a.toList.drop n).take k):∃i,∃q:i<a.size,n<=i/\i<n+k/\x=a[i]:=by obtain⟨i,hi,e⟩:=d9.mp h;rw[aL,mq,aQ]at hi;exact{n+i,by lia,by lia,by lia,by rw[<-e];simp}
section
variable{a b:Array Keyed}{out:List Keyed}{ia ib:Nat}
def Mg.on(m:Mg (Rk C) a.toList b.toList out ia ib)(sa:So C a)(k v:Nat)(hx:∀i,ia<=i->i<ia+k->(q:i<a.size)->C.rk a[i]<=v)(hy:∀j,ib<=j->(q:j<b.size)->v<=C.rk b[j]):Mg (Rk C) a.toList b.toList (out++(a.toList.drop ia).take k) (ia+k) ib:=
 m.go sa k λx yh y Ha=>by obtain⟨i,q,h1,h2,rfl⟩:=QB yh;obtain⟨j,z,h3,rfl⟩:=Ba Ha;exact aC (hx i h1 h2 q) (hy j h3 z)
def Qk(h:ia<a.size):(a.toList.drop ia).take 1=[a[ia]]:=by rw[jT (by simpa using h)];simp
structure MI(C:Ct)(a b out:Array Keyed)(ia ib:Nat):Prop where
 mg:Mg (Rk C) a.toList b.toList out.toList ia ib
 la:ia+1<a.size
 lb:ib<b.size
end
section
variable{a b out:Array Keyed}{ia ib:Nat}
def NL(m:Mg (Rk C) a.toList b.toList out.toList ia ib)(sa:So C a)(sb:So C b)(q:ia<a.size)(c:∀z:ib<b.size,C.rk a[ia]<=C.rk b[ib]):Mg (Rk C) a.toList b.toList (out.push a[ia]).toList (ia+1) ib:=by have:=m.on sa 1 (C.rk a[ia]) (λi h1 h2 z=>sa.at q ∅) λj h1 z=>aC (c ∅) (sb.at z h1);rw[Qk q]at this;simpa using this
def NJ(m:Mg (Rk C) a.toList b.toList out.toList ia ib)(sa:So C a)(sb:So C b)(q:ib<b.size)(c:∀z:ia<a.size,C.rk b[ib]<=C.rk a[ia]):Mg (Rk C) a.toList b.toList (out.push b[ib]).toList ia (ib+1):=(NL m.swap sb sa q c).swap
def WR:(out++a.extract n (n+k)).toList=out.toList++(a.toList.drop n).take k:=by simp[List.extract_eq_drop_take]
def Fx(m:Mg (Rk C) a.toList b.toList out.toList ia ib)(sa:So C a)(sb:So C b)(c:ib=b.size\/ia=a.size):Res C a b (out++a.extract ia a.size++b.extract ib b.size):=by
 have:=m.end sa sb λx hx y hy=>by obtain⟨i,q,h1,rfl⟩:=Ba hx;obtain⟨j,z,h2,rfl⟩:=Ba hy;lia
 unfold Res;simpa[List.extract_eq_drop_take,cj]using this
def Ia(m:Mg (Rk C) a.toList b.toList out.toList ia ib)(sa:So C a)(sb:So C b)(c:ia+1=a.size)(hl:∀y∈b,C.rk y<C.rk (a[a.size -1]'∅)):Res C a b (out++b.extract ib b.size++a.extract ia a.size):=by
 have:=m.swap.end sb sa λx hx y hy=>by
  obtain⟨i,q,h1,rfl⟩:=Ba hx;obtain⟨j,z,h2,rfl⟩:=Ba hy;have:=hl _ (cW q);have e:j=a.size -1:=by lia
  subst e;lia
 unfold Res;refine{?_,?_}
 ·refine List.Perm.trans ?_ jy;simpa[List.extract_eq_drop_take,cj]using this.1
 ·simpa[List.extract_eq_drop_take,cj]using this.2
def Fq(q:i<arr.size):gB C left key arr i=FJ C left key arr[i]:=by unfold gB;rw[getElem?_pos arr i q];rfl
def MZ(sg:∀i j,base<=i->(z:i<=j)->j<base+n->(q:j<arr.size)->C.rk (arr[i]'∅)<=C.rk arr[j])(hb:base+n<=arr.size):∀i j,i<=j->j<n->gB C left key arr (base+j)=true->gB C left key arr (base+i)=true:=λi j h1 h2 e=>by
 rw[Fq ∅]at e⊢;have:=sg (base+i) (base+j) ∅ ∅ ∅ ∅;unfold FJ at e⊢;cases left
 ·simp at e⊢;lia
 ·simp at e⊢;lia
def LI{st:SortSt}(hk:kindOf st=C.κ)(lH:C.In key)(ic:∀x∈arr,C.In x)(sg:∀i j,base<=i->(z:i<=j)->j<base+n->(q:j<arr.size)->C.rk (arr[i]'∅)<=C.rk arr[j])(hb:base+n<=arr.size)(hh:hint<n)
  (h:∀k,k<=n->(∀i,base<=i->i<base+k->(q:i<arr.size)->C.rk arr[i]<=C.rk key)->(∀i,base+k<=i->i<base+n->(q:i<arr.size)->C.rk key<C.rk arr[i])->Q (some k) st):W C (vg false key arr base n hint) Q st:=
 Ie hk lH ic hb hh (MZ sg hb) λk hk a1 a2=>h k hk (λi q1 q2 q=>by
  have:=a1 (i -base) ∅;rw[show base+(i -base)=i by lia,Fq q]at this;unfold FJ at this;simpa using this) λi q1 q2 q=>by
  have:=a2 (i -base) ∅ ∅;rw[show base+(i -base)=i by lia,Fq q]at this;unfold FJ at this;simpa using this
def w_left{st:SortSt}(hk:kindOf st=C.κ)(lH:C.In key)(ic:∀x∈arr,C.In x)(sg:∀i j,base<=i->(z:i<=j)->j<base+n->(q:j<arr.size)->C.rk (arr[i]'∅)<=C.rk arr[j])(hb:base+n<=arr.size)(hh:hint<n)
  (h:∀k,k<=n->(∀i,base<=i->i<base+k->(q:i<arr.size)->C.rk arr[i]<C.rk key)->(∀i,base+k<=i->i<base+n->(q:i<arr.size)->C.rk key<=C.rk arr[i])->Q (some k) st):W C (vg true key arr base n hint) Q st:=
 Ie hk lH ic hb hh (MZ sg hb) λk hk a1 a2=>h k hk (λi q1 q2 q=>by
  have:=a1 (i -base) ∅;rw[show base+(i -base)=i by lia,Fq q]at this;unfold FJ at this;simpa using this) λi q1 q2 q=>by
  have:=a2 (i -base) ∅ ∅;rw[show base+(i -base)=i by lia,Fq q]at this;unfold FJ at this;simpa using this
end
variable{C:Ct}
abbrev GS(st:SortSt)(g:Nat):SortSt:=SortSt.mk' (kindOf st) (-12) (pendingOf st) g (failedOf st)
def W.ite[Decidable c]{x y:StateT SortSt Sem α}{Q:α->SortSt->Prop}{st:SortSt}(h1:c->W C x Q st)(h2:¬c->W C y Q st):W C (if c then x else y) Q st:=by
 by_cases h:c
 ·rw[aD h];exact h1 h
 ·rw[au h];exact h2 h
section
variable{α β:Type}{Q:α->SortSt->Prop}{st:SortSt}
def W.bE{a:Array Keyed}{i:Nat}{f:Keyed->StateT SortSt Sem α}(hi:i<a.size)(h:W C (f a[i]) Q st):W C (elem' a i>>=f) Q st:=W.bind (W.elem hi h)
def W.bLt{x y:Keyed}{f:Option Bool->StateT SortSt Sem α}(hk:kindOf st=C.κ)(hx:C.In x)(hy:C.In y)(h1:C.rk x<C.rk y->W C (f (some true)) Q st)(h2:¬C.rk x<C.rk y->W C (f (some false)) Q st):W C (lt' x y>>=f) Q st:=W.bind (W.lt hk hx hy (by
 by_cases e:C.rk x<C.rk y
 ·rw[ba e];exact h1 e
 ·rw[bC e];exact h2 e))
def W.WX{r:String}{f:PUnit->StateT SortSt Sem α}(h:W C (f ⟨⟩) Q st):W C ((liftM (PySem.rule r:Sem PUnit):StateT SortSt Sem PUnit)>>=f) Q st:=W.bind (W.rl h)
def W.bM{g:SortSt->SortSt}{f:PUnit->StateT SortSt Sem α}(h:W C (f ⟨⟩) Q (g st)):W C ((_root_.modify g:StateT SortSt Sem PUnit)>>=f) Q st:=W.bind (W.modify h)
def W.bG{f:SortSt->StateT SortSt Sem α}(h:W C (f st) Q st):W C ((MonadState.get:StateT SortSt Sem SortSt)>>=f) Q st:=W.bind (W.get h)
def W.loop{T:Type}{a b:Array Keyed}{lo hi g:Nat}(mc:Option (Array Keyed)->Array Keyed->Nat->Nat->T->β){f:Nat->β->StateT SortSt Sem (ForInStep β)}{k:β->StateT SortSt Sem α}(P:Nat->Array Keyed->Nat->Nat->Prop)(B:Array Keyed->Nat->Nat->Prop){o:Array Keyed}{ia ib:Nat}{t:T}(h0:P lo o ia ib)
  (he:∀o ia ib,P (max lo hi) o ia ib->False)
  (hs:∀i g o ia ib t(E:ForInStep β->SortSt->Prop),P i o ia ib->(∀m g o ia ib t,Res C a b m->E (.done (mc (some m) o ia ib t)) (GS st g))->(∀g o ia ib t,B o ia ib->E (.done (mc none o ia ib t)) (GS st g))->(∀g o ia ib t,P (i+1) o ia ib->E (.yield (mc none o ia ib t)) (GS st g))->W C (f i (mc none o ia ib t)) E (GS st g))
  (k1:∀m g o ia ib t,Res C a b m->W C (k (mc (some m) o ia ib t)) Q (GS st g)) (k2:∀g o ia ib t,B o ia ib->W C (k (mc none o ia ib t)) Q (GS st g)):W C (forIn [lo:hi] (mc none o ia ib t) f>>=k) Q (GS st g):=by
 refine W.bind (W.mono (W.for (I:=λi c s'=>∃g o ia ib t,s'=GS st g/\c=mc none o ia ib t/\P i o ia ib) (Q:=λc s'=>W C (k c) Q s') ?_ ?_ ⟨_,_,_,_,_,rfl,rfl,h0⟩) λ_ _ h=>h)
 ·rintro i c s' _ _ ⟨g,o,ia,ib,t,rfl,rfl,h⟩;exact hs i g o ia ib t _ h k1 k2 λg o ia ib t h=>⟨g,o,ia,ib,t,rfl,rfl,h⟩
 ·rintro c s' ⟨g,o,ia,ib,t,rfl,rfl,h⟩;exact(he _ _ _ h).elim
def W.bR{key:Keyed}{arr:Array Keyed}{base n hint:Nat}{f:Option Nat->StateT SortSt Sem α}(hk:kindOf st=C.κ)(lH:C.In key)(ic:∀x∈arr,C.In x)(sg:So C arr)(hb:base+n<=arr.size)(hh:hint<n)
  (h:∀k,k<=n->(∀i,base<=i->i<base+k->(q:i<arr.size)->C.rk arr[i]<=C.rk key)->(∀i,base+k<=i->i<base+n->(q:i<arr.size)->C.rk key<C.rk arr[i])->W C (f (some k)) Q st):W C (vg false key arr base n hint>>=f) Q st:=W.bind (LI hk lH ic (λ_ _ _ z _ q=>sg.at q z) hb hh h)
def W.bL{key:Keyed}{arr:Array Keyed}{base n hint:Nat}{f:Option Nat->StateT SortSt Sem α}(hk:kindOf st=C.κ)(lH:C.In key)(ic:∀x∈arr,C.In x)(sg:So C arr)(hb:base+n<=arr.size)(hh:hint<n)
  (h:∀k,k<=n->(∀i,base<=i->i<base+k->(q:i<arr.size)->C.rk arr[i]<C.rk key)->(∀i,base+k<=i->i<base+n->(q:i<arr.size)->C.rk key<=C.rk arr[i])->W C (f (some k)) Q st):W C (vg true key arr base n hint>>=f) Q st:=W.bind (w_left hk lH ic (λ_ _ _ z _ q=>sg.at q z) hb hh h)
def OV{T p:Nat->Array Keyed->Prop}{G:Prop}(k:(∀j o,p j o->T j o)->G)(h:∀j o,p j o->T j o):G:=k h
def both{T:Nat->Prop}{G:Prop}(k:(∀z,T z)->G)(h:∀z,T z):G:=k h
end
def Pf{st:SortSt}(hk:kindOf st=C.κ)(ha:∀x∈a,C.In x)(hb:∀x∈b,C.In x)(sa:So C a)(sb:So C b)(a1:0<a.size)(b1:0<b.size)(h0:C.rk b[0]<C.rk a[0])(hl:∀y∈b,C.rk y<C.rk a[a.size -1])
  (h:∀m g,Res C a b m->Q m (GS st g)):W C (JJ a b) Q st:=by
 have sw:st=GS st (gallopOf st):=rfl;have QZ:∀{i:Nat}(q:i<a.size),C.In a[i]:=λq=>ha _ (cW q);have QY:∀{i:Nat}(q:i<b.size),C.In b[i]:=λq=>hb _ (cW q);unfold JJ;refine(W.WX ((W.bE b1 ?_)));have m0:Mg (Rk C) a.toList b.toList (#[b[0]]:Array Keyed).toList 0 1:=by have:Mg (Rk C) a.toList b.toList (#[]:Array Keyed).toList 0 0:={by simp,.nil,(λx hx=>by cases hx),(λx hx=>by cases hx)};have:=NJ this sa sb b1 λz=>br h0;simpa using this
 refine W.ite (λc=>W.pure (by rw[sw];exact h _ _ (Fx m0 sa sb (.inl (by simpa using c))))) λc1=>?_;refine W.ite (λc=>W.pure (by rw[sw];exact h _ _ (Ia m0 sa sb (by simpa using c) hl))) λc2=>?_;have l1:0+1<a.size:=by simp at c2;lia
 have l2:1<b.size:=by simp at c1;lia
 refine W.bG (W.loop (T:=Nat) (a:=a) (b:=b) (g:=gallopOf st) (λr o i j t=>(r,o,i,j,t)) (λi o ia ib=>MI C a b o ia ib/\i+1<=ia+ib) (λ_ _ _=>False) {⟨m0,l1,l2⟩,ak 1} ?_ ?_ ?_ λ_ _ _ _ _ h=>h.elim)
 ·rintro o ia ib ⟨⟨_,h1,h2⟩,h3⟩;lia
 ·intro i g o ia ib mg E hM dn _ yd;obtain⟨M,n1⟩:=hM;refine W.loop (T:=Nat×Nat) (a:=a) (b:=b) (λr o i j t=>(r,o,i,j,t)) (λx o i j=>MI C a b o i j/\ia+ib+x<=i+j) (λo i j=>MI C a b o i j/\ia+ib+1<=i+j) {M,ak _} ?_ ?_ (λm g o i j t R=>W.pure (dn _ _ _ _ _ _ R)) ?_
  ·rintro o ia ib ⟨⟨_,h1,h2⟩,h3⟩;lia
  ·intro x g o ja jb t E hM dn dN yd;obtain⟨M,n2⟩:=hM;have l1:=M.la;have l2:=M.lb;refine W.bE l2 (W.bE (o7 l1) (W.bLt hk (QY l2) (QZ (o7 l1)) (λe=>?_) λe=>?_))
   ·have m':=NJ M.mg sa sb l2 λz=>br e;exact W.bE l2 (W.ite (λc=>W.pure (dn _ _ _ _ _ _ (Fx m' sa sb (.inl (by simpa using c))))) λc=>by
     have l3:jb+1<b.size:=by simp at c;lia
     exact W.ite (λ_=>W.pure (dN _ _ ja (jb+1) _ {⟨m',l1,l3⟩,by lia})) λ_=>W.pure (yd _ _ ja (jb+1) _ {⟨m',l1,l3⟩,by lia}))
   ·have m':=NL M.mg sa sb ∅ λz=>gQ e;exact W.bE (o7 l1) (W.ite (λc=>W.pure (dn _ _ _ _ _ _ (Ia m' sa sb (by simpa using c) hl))) λc=>by
     have l3:ja+1+1<a.size:=by simp at c;lia
     exact W.ite (λ_=>W.pure (dN _ _ (ja+1) jb _ {⟨m',l3,l2⟩,by lia})) λ_=>W.pure (yd _ _ (ja+1) jb _ {⟨m',l3,l2⟩,by lia}))
  intro g o ja jb t hM;obtain⟨M',n2⟩:=hM;refine W.WX (W.loop (T:=Nat×Nat×Nat) (a:=a) (b:=b) (λr o i j t=>(r,o,i,j,t)) (λx o i j=>MI C a b o i j/\ia+ib+1+x<=i+j) (λo i j=>MI C a b o i j/\ia+ib+1<=i+j) ⟨M',n2⟩ ?_ ?_ (λm g o i j t R=>W.pure (dn _ _ _ _ _ _ R)) λg o i j t h=>W.bM (W.pure (yd _ _ i j _ {h.1,by have:=h.2;lia})))
  ·rintro o ia ib ⟨⟨_,h1,h2⟩,h3⟩;lia
  ·intro x g out ia ib t E hM dn dN yd;obtain⟨mg,ac,bc⟩:=t;obtain⟨M,n3⟩:=hM;have l1:=M.la;have l2:=M.lb;dsimp only;generalize mg -1=m1;revert m1 mg;refine both (λkey mg m1=>W.ite (λ_=>key m1) λ_=>key mg) λmg=>?_;refine W.bM (W.bE l2 (W.bR hk (QY l2) ha sa ∅ ∅ λk q1 q2 q3=>?_));have M2:Mg (Rk C) a.toList b.toList (out++a.extract ia (ia+k)).toList (ia+k) ib:=by rw[WR];exact M.mg.on sa k _ q2 λj h1 z=>sb.at z h1
   have q3:∀z:ia+k<a.size,C.rk b[ib]<=C.rk a[ia+k]:=λz=>br (q3 _ (ak _) ∅ z);dsimp only;generalize hja:ia+k=ja at M2 q3⊢;generalize out++a.extract ia ja=ou at M2⊢;clear q2;revert ja ou;refine OV (p:=λja ou=>Mg (Rk C) a.toList b.toList ou.toList ja ib/\(∀z:ja<a.size,C.rk b[ib]<=C.rk a[ja])/\ja+1<a.size/\ia<=ja) (λR ja hja q3 ou M2=>W.ite (λc=>W.ite (λd=>W.pure (dn _ _ _ _ _ _ (Ia M2 sa sb (by simpa using d) hl))) λd=>W.ite (λd2=>W.pure (dn _ _ _ _ _ _ (Fx M2 sa sb (.inr (by simpa using d2))))) λd2=>R ja ou {M2,q3,(by simp at d d2;lia),∅}) λc=>R ia out {M.mg,(by obtain rfl:ia=ja:=∅;exact q3),l1,ak _}) λja ou hp=>?_;obtain⟨M2,q3,l1,le⟩:=hp;have m3:=NJ M2 sa sb l2 q3;refine W.bE l2 (W.ite (λd=>W.pure (dn _ _ _ _ _ _ (Fx m3 sa sb (.inl (by simpa using d))))) λd=>?_);have l3:ib+1<b.size:=by simp at d;lia
   have la:=o7 l1;refine W.bE la (W.bL hk (QZ la) hb sb ∅ ∅ λk2 p1 p2 p3=>?_);have M4:=(m3.swap.on sb k2 _ (λi h1 h2 z=>br (p2 i h1 h2 z)) λj h1 z=>sa.at z h1).swap;rw[<-WR]at M4;have p3:∀z:ib+1+k2<b.size,C.rk a[ja]<=C.rk b[ib+1+k2]:=λz=>p3 _ (ak _) ∅ z;dsimp only;generalize hjb:ib+1+k2=jb at M4 p3⊢;generalize ou.push b[ib]++b.extract (ib+1) jb=ov at M4⊢;clear p2;revert jb ov;refine OV (p:=λjb ov=>Mg (Rk C) a.toList b.toList ov.toList ja jb/\(∀z:jb<b.size,C.rk a[ja]<=C.rk b[jb])/\jb<b.size/\ib<jb) (λR jb hjb p3 ov M4=>W.ite (λc=>W.ite (λd=>W.pure (dn _ _ _ _ _ _ (Fx M4 sa sb (.inl (by simpa using d))))) λd=>R jb ov {M4,p3,(by simp at d;lia),∅}) λc=>R (ib+1) (ou.push b[ib]) {m3,(by obtain rfl:ib+1=jb:=∅;exact p3),l3,du _}) λjb ov hp=>?_;obtain⟨M4,p3,l4,lb⟩:=hp;have m5:=NL (ia:=ja) M4 sa sb la p3;exact W.bE la (W.ite (λd=>W.pure (dn _ _ _ _ _ _ (Ia m5 sa sb (by simpa using d) hl))) λd=>by
    have l6:ja+1+1<a.size:=by simp at d;lia
    exact W.ite (λ_=>W.pure (dN _ _ _ _ _ {⟨m5,l6,l4⟩,by lia})) λ_=>W.pure (yd _ _ _ _ _ {⟨m5,l6,l4⟩,by lia}))
 ·intro m g o ia ib t R;exact W.pure (h _ _ R)
variable{C:Ct}
abbrev Rg(C:Ct)(x y:Keyed):Prop:=C.rk y<=C.rk x
abbrev MH(C:Ct)(a b out:Array Keyed)(na nb:Nat):Prop:=Mg (Rg C) a.toList.reverse b.toList.reverse out.toList (a.size -na) (b.size -nb)
def su{a:Array Keyed}(h:n<=a.size):a.toList.reverse.drop (a.size -n)=(a.toList.take n).reverse:=by rw[List.drop_reverse,aQ,show a.size -(a.size -n)=n by lia]
def JL{a:Array Keyed}(h:x∈a.toList.take n):∃i,∃q:i<a.size,i<n/\x=a[i]:=by obtain⟨i,hi,e⟩:=d9.mp h;rw[aL,aQ]at hi;exact{i,by lia,by lia,by rw[<-e];simp}
section
variable{a b out:Array Keyed}{na nb:Nat}
def MH.on(m:MH C a b out na nb)(sa:So C a)(ha:na<=a.size)(hb:nb<=b.size)(at_ v:Nat)(q:at_<=na)(hx:∀i,at_<=i->i<na->(q:i<a.size)->v<=C.rk a[i])(hy:∀j,j<nb->(q:j<b.size)->C.rk b[j]<=v):MH C a b (out++(a.extract at_ na).reverse) at_ nb:=by
 have e:(a.toList.reverse.drop (a.size -na)).take (na -at_)=((a.extract at_ na).reverse).toList:=by rw[su ha,List.take_reverse];simp[List.extract_eq_drop_take,aL,List.drop_take,il ha];rw[show na -(na -at_)=at_ by lia]
 have:=m.go (lP.mpr sa) (na -at_) λx yh y Ha=>by rw[e]at yh;rw[su hb]at Ha;simp only[zT,iU,rG,List.extract_eq_drop_take]at yh;obtain⟨i,q1,h1,h2,rfl⟩:=QB yh;obtain⟨j,z,h3,rfl⟩:=JL (iU.mp Ha);exact aC (hy j h3 z) (hx i h1 ∅ q1)
 rw[e,show a.size -na+(na -at_)=a.size -at_ by lia,<-rT]at this;exact this
def MH.sw(m:MH C a b out na nb):MH C b a out nb na:=m.swap
def MH.put(m:MH C a b out na nb)(sa:So C a)(sb:So C b)(ha:na<=a.size)(hb:nb<=b.size)(q:0<na)(c:∀z:0<nb,C.rk (b[nb -1]'∅)<=C.rk (a[na -1]'∅)):MH C a b (out.push (a[na -1]'∅)) (na -1) nb:=by
 have:=m.on sa ha hb (na -1) (C.rk (a[na -1]'∅)) ∅ (λi h1 h2 z=>by
  have e:i=na -1:=by lia
  subst e;exact ak _) λj h1 z=>aC (sb.at ∅ ∅) (c ∅)
 have e:out++(a.extract (na -1) na).reverse=out.push (a[na -1]'∅):=by apply Array.ext';rw[rT,zT,lC,rG,List.extract_eq_drop_take,show na -(na -1)=1 by lia,Qk ∅];rfl
 rw[e]at this;exact this
def MH.fin(m:MH C a b out na nb)(sa:So C a)(sb:So C b)(ha:na<=a.size)(hb:nb<=b.size)(c:∀i j,i<na->j<nb->(q:i<a.size)->(z:j<b.size)->C.rk b[j]<=C.rk a[i]):Res C a b (b.extract 0 nb++a.extract 0 na++out.reverse):=by
 have:=m.end (lP.mpr sa) (lP.mpr sb) λx hx y hy=>by rw[su ha]at hx;rw[su hb]at hy;obtain⟨i,q,h1,rfl⟩:=JL (iU.mp hx);obtain⟨j,z,h2,rfl⟩:=JL (iU.mp hy);exact c i j h1 h2 q z
 rw[su ha,su hb]at this;have e:(b.extract 0 nb++a.extract 0 na++out.reverse).toList=(out.toList++(a.toList.take na).reverse++(b.toList.take nb).reverse).reverse:=by simp[List.extract_eq_drop_take]
 unfold Res;rw[e];refine{(uE _).trans (this.1.trans ((uE _).append (uE _))),?_};rw[lP];exact this.2
def MH.end(m:MH C a b out na nb)(sa:So C a)(sb:So C b)(ha:na<=a.size)(hb:nb<=b.size)(c:na=0\/nb=0):Res C a b (a.extract 0 na++b.extract 0 nb++out.reverse):=by
 have:=m.sw.fin sb sa hb ha λi j h1 h2=>by lia
 exact{this.1.trans jy,this.2}
end
structure MJ(C:Ct)(a b out:Array Keyed)(na nb:Nat):Prop where
 mg:MH C a b out na nb
 la:0<na/\na<=a.size
 lb:1<nb/\nb<=b.size
def Pg{st:SortSt}(hk:kindOf st=C.κ)(ha:∀x∈a,C.In x)(hb:∀x∈b,C.In x)(sa:So C a)(sb:So C b)(a1:0<a.size)(b1:0<b.size)(h0:C.rk b[0]<C.rk a[0])(hl:∀y∈b,C.rk y<C.rk a[a.size -1])
  (h:∀m g,Res C a b m->Q m (GS st g)):W C (JK a b) Q st:=by
 have sw:st=GS st (gallopOf st):=rfl;have QZ:∀{i:Nat}(q:i<a.size),C.In a[i]:=λq=>ha _ (cW q);have QY:∀{i:Nat}(q:i<b.size),C.In b[i]:=λq=>hb _ (cW q);have b0:∀i j,j<1->(q:i<a.size)->(z:j<b.size)->C.rk b[j]<=C.rk a[i]:=λi j h1 q z=>by
  have e:j=0:=by lia
  subst e;exact aC (br h0) (sa.at q (aP _))
 unfold JK;refine W.WX (W.bE (i:=a.size -1) ∅ ?_);have m0:MH C a b (#[a[a.size -1]]:Array Keyed) (a.size -1) b.size:=by have:MH C a b (#[]:Array Keyed) a.size b.size:={by simp,.nil,(λx hx=>by cases hx),(λx hx=>by cases hx)};exact this.put sa sb (ak _) (ak _) a1 λz=>br (hl _ (cW _))
 refine W.ite (λc1=>W.pure (by rw[sw];exact h _ _ (m0.end sa sb ∅ (ak _) (.inl (by simpa using c1))))) λc1=>?_;refine W.ite (λc2=>W.pure (by rw[sw];exact h _ _ (m0.fin sa sb ∅ (ak _) λi j h1 h2=>b0 i j (by simp at c2;lia)))) λc2=>?_;have l1:0<a.size -1:=by simp at c1;lia
 have l2:1<b.size:=by simp at c2;lia
 refine W.bG (W.loop (T:=Nat) (a:=a) (b:=b) (g:=gallopOf st) (λr o i j t=>(r,i,j,o,t)) (λi o na nb=>MJ C a b o na nb/\na+nb+i+1<=a.size+b.size) (λ_ _ _=>False) {{m0,{l1,by lia},{l2,ak _}},by lia} ?_ ?_ ?_ λ_ _ _ _ _ h=>h.elim)
 ·rintro o na nb ⟨⟨_,h1,h2⟩,h3⟩;lia
 ·intro i g o na nb mg E hM dn _ yd;obtain⟨M,n1⟩:=hM;have lm:=M.la;have lm':=M.lb;refine W.loop (T:=Nat×Nat) (a:=a) (b:=b) (λr o i j t=>(r,i,j,o,t)) (λx o i j=>MJ C a b o i j/\i+j+x<=na+nb) (λo i j=>MJ C a b o i j/\i+j+1<=na+nb) {M,ak _} ?_ ?_ (λm g o i j t R=>W.pure (dn _ _ _ _ _ _ R)) ?_
  ·rintro o ia ib ⟨⟨_,h1,h2⟩,h3⟩;lia
  ·intro x g o ja jb t E hM dn dN yd;obtain⟨M,n2⟩:=hM;have l1:=M.la;have l2:=M.lb;have la:ja -1<a.size:=by lia
   have lb:jb -1<b.size:=by lia
   refine W.bE lb (W.bE la (W.bLt hk (QY lb) (QZ la) (λe=>?_) λe=>?_))
   ·have m':=M.mg.put sa sb l1.2 l2.2 l1.1 λz=>br e;exact W.bE la (W.ite (λd=>W.pure (dn _ _ _ _ _ _ (m'.end sa sb (br la) l2.2 (.inl (by simpa using d))))) λd=>by
     have l3:0<ja -1/\ja -1<=a.size:=by simp at d;lia
     exact W.ite (λ_=>W.pure (dN _ _ (ja -1) jb _ {⟨m',l3,l2⟩,by lia})) λ_=>W.pure (yd _ _ (ja -1) jb _ {⟨m',l3,l2⟩,by lia}))
   ·have m':=(M.mg.sw.put sb sa l2.2 l1.2 ∅ λz=>gQ e).sw;exact W.bE lb (W.ite (λd=>W.pure (dn _ _ _ _ _ _ (m'.fin sa sb l1.2 (br lb) λi j h1 h2=>b0 i j (by simp at d;lia)))) λd=>by
     have l3:1<jb -1/\jb -1<=b.size:=by simp at d;lia
     exact W.ite (λ_=>W.pure (dN _ _ ja (jb -1) _ {⟨m',l1,l3⟩,by lia})) λ_=>W.pure (yd _ _ ja (jb -1) _ {⟨m',l1,l3⟩,by lia}))
  intro g o ja jb t hM;obtain⟨M',n2⟩:=hM;refine W.WX (W.loop (T:=Nat×Nat×Nat) (a:=a) (b:=b) (λr o i j t=>(r,i,j,o,t)) (λx o i j=>MJ C a b o i j/\i+j+1+x<=na+nb) (λo i j=>MJ C a b o i j/\i+j+1<=na+nb) ⟨M',n2⟩ ?_ ?_ (λm g o i j t R=>W.pure (dn _ _ _ _ _ _ R)) λg o i j t h=>W.bM (W.pure (yd _ _ i j _ {h.1,by have:=h.2;lia})))
  ·rintro o ia ib ⟨⟨_,h1,h2⟩,h3⟩;lia
  ·clear n2 M' M n1;intro x g out na nb t E hM dn dN yd;obtain⟨mg,ac,bc⟩:=t;obtain⟨M,n3⟩:=hM;have l1:=M.la;have l2:=M.lb;have lb:nb -1<b.size:=by lia
   dsimp only;generalize mg -1=m1;revert m1 mg;refine both (λkey mg m1=>W.ite (λ_=>key m1) λ_=>key mg) λmg=>?_;refine W.bM (W.bE lb (W.bR hk (QY lb) ha sa ∅ ∅ λk q1 q2 q3=>?_));have M2:=M.mg.on sa l1.2 l2.2 k (C.rk b[nb -1]) q1 (λi h1 h2 z=>br (q3 i ∅ ∅ z)) λj h1 z=>sb.at ∅ ∅;dsimp only;generalize out++(a.extract k na).reverse=ou at M2⊢;generalize hct:na -k=ct;clear q3;have q2:∀z:k -1<a.size,0<k->C.rk a[k -1]<=C.rk b[nb -1]:=λz h=>q2 _ ∅ ∅ z;revert k ou;refine OV (p:=λja ou=>MH C a b ou ja nb/\(∀z:ja -1<a.size,0<ja->C.rk a[ja -1]<=C.rk b[nb -1])/\0<ja/\ja<=na) (λR k q1 _ ou M2 hct q2=>W.ite (λc=>W.ite (λd=>W.pure (dn _ _ _ _ _ _ (M2.end sa sb ∅ l2.2 (.inl (by simpa using d))))) λd=>R k ou {M2,q2,(by simp at d;lia),q1}) λc=>R na out {M.mg,(by obtain rfl:k=na:=∅;exact q2),l1.1,ak _}) λk ou hp=>?_;obtain⟨M2,q2,l5,le⟩:=hp;have la:k -1<a.size:=by lia
   have m3:=(M2.sw.put sb sa l2.2 ∅ ∅ λz=>q2 la z).sw;refine W.bE lb (W.ite (λd=>W.pure (dn _ _ _ _ _ _ (m3.fin sa sb ∅ ∅ λi j h1 h2=>b0 i j (by simp at d;lia)))) λd=>?_);have l3:1<nb -1:=by simp at d;lia
   refine W.bE la (W.bL hk (QZ la) hb sb ∅ ∅ λk2 p1 p2 p3=>?_);have M4:=(m3.sw.on sb ∅ ∅ k2 (C.rk a[k -1]) p1 (λi h1 h2 z=>p3 i ∅ ∅ z) λj h1 z=>sa.at ∅ ∅).sw;dsimp only;generalize ou.push b[nb -1]++(b.extract k2 (nb -1)).reverse=ov at M4⊢;generalize hcv:nb -1 -k2=cv;clear p3;have p2:∀z:k2 -1<b.size,0<k2->C.rk b[k2 -1]<=C.rk a[k -1]:=λz h=>br (p2 _ ∅ ∅ z);revert k2 ov;refine OV (p:=λjb ov=>MH C a b ov k jb/\(∀z:jb -1<b.size,0<jb->C.rk b[jb -1]<=C.rk a[k -1])/\1<jb/\jb<=nb -1) (λR k2 p1 _ ov M4 hcv p2=>W.ite (λc=>W.ite (λd=>W.pure (dn _ _ _ _ _ _ (M4.fin sa sb ∅ ∅ λi j h1 h2=>b0 i j (by simp at d;lia)))) λd=>W.ite (λd2=>W.pure (dn _ _ _ _ _ _ (M4.end sa sb ∅ ∅ (.inr (by simpa using d2))))) λd2=>R k2 ov {M4,p2,(by simp at d d2;lia),p1}) λc=>R (nb -1) (ou.push b[nb -1]) {m3,(by obtain rfl:k2=nb -1:=∅;exact p2),l3,ak _}) λk2 ov hp=>?_;obtain⟨M4,p2,l4,lk⟩:=hp;have m5:=M4.put sa sb ∅ ∅ ∅ λz=>p2 ∅ z;exact W.bE la (W.ite (λd=>W.pure (dn _ _ _ _ _ _ (m5.end sa sb ∅ ∅ (.inl (by simpa using d))))) λd=>by
    have l6:0<k -1/\k -1<=a.size:=by simp at d;lia
    have l7:1<k2/\k2<=b.size:=by lia
    exact W.ite (λ_=>W.pure (dN _ _ (k -1) k2 _ {⟨m5,l6,l7⟩,by lia})) λ_=>W.pure (yd _ _ (k -1) k2 _ {⟨m5,l6,l7⟩,by lia}))
 ·intro m g o ia ib t R;exact W.pure (h _ _ R)
variable{C:Ct}
def ky(C:Ct)(a:Array Keyed)(k:Nat):Nat:=(a[k]?).elim 0 C.rk
def iK(h:k<a.size):ky C a k=C.rk a[k]:=by unfold ky;rw[getElem?_pos a k h];rfl
def E9(h:a[i]?=b[j]?):ky C a i=ky C b j:=by unfold ky;rw[h]
def Up(C:Ct)(a:Array Keyed)(lo hi:Nat):Prop:=∀i j,lo<=i->i<=j->j<hi->ky C a i<=ky C a j
def Dn(C:Ct)(a:Array Keyed)(lo hi:Nat):Prop:=∀i j,lo<=i->i<=j->j<hi->ky C a j<=ky C a i
structure Mv(a a':Array Keyed)(lo hi:Nat):Prop where
 pm:a'.Perm a
 ou:∀k,k<lo\/hi<=k->a'[k]?=a[k]?
def Mv.sz{lo hi:Nat}(m:Mv a a' lo hi):a'.size=a.size:=m.pm.size_eq
def Mv.refl{lo hi:Nat}:Mv a a lo hi:={.refl _,λ_ _=>rfl}
def Mv.trans{lo hi:Nat}(m:Mv a b lo hi)(n:Mv b c lo hi):Mv a c lo hi:={n.pm.trans m.pm,λk h=>(n.ou k h).trans (m.ou k h)}
def Mv.wide{lo hi QJ RB:Nat}(m:Mv a b lo hi)(h1:QJ<=lo)(h2:hi<=RB):Mv a b QJ RB:={m.pm,λk h=>m.ou k ∅}
def Mv.in{lo hi:Nat}(m:Mv a a' lo hi)(h:∀x∈a,C.In x):∀x∈a',C.In x:=λx hx=>h x (m.pm.mem_iff.mp hx)
def Mv.up{lo hi l h:Nat}(m:Mv a a' lo hi)(u:Up C a l h)(c:h<=lo\/hi<=l):Up C a' l h:=λi j h1 h2 h3=>by rw[E9 (m.ou i ∅),E9 (m.ou j ∅)];exact u i j h1 h2 h3
def wK(hj:j<=a.size):Mv a (mirror a i j ((j -i)/2)) i j:={mirror_perm _ _ _ _,λk h=>by rw[getElem?_mirror_all hj,au ∅]}
def tJ(hj:j<=a.size)(k:Nat):ky C (mirror a i j ((j -i)/2)) k=if i<=k/\k<j then ky C a (i+j -1 -k)else ky C a k:=by unfold ky;rw[getElem?_mirror_all hj];split<;>rfl
def Qx(hs:s<a.size)(hd:d<=s):Mv a (bubble a s (s -d)) d (s+1):={bubble_perm _ _ _,λk h=>by rw[getElem?_bubble hs _ ∅,au ∅,au ∅]}
section
variable{st:SortSt}
def W.at(hk:kindOf st=C.κ)(ic:∀x∈arrOf st,C.In x)(hi:i<(-12).size)(hj:j<(-12).size)(h:Q (some (decide (ky C (-12) i<ky C (-12) j))) st):W C (ltAt' i j) Q st:=by rw[iK hi,iK hj]at h;rw[ltAt'_eq];exact W.bind (W.get (W.bind (W.elem hi (W.bind (W.elem hj (W.lt hk (ic _ (cW _)) (ic _ (cW _)) h))))))
def W.rev(h:Q ⟨⟩ (setArr st (mirror (-12) i j ((j -i)/2)))):W C (reverseSlice' i j) Q st:=by rw[reverseSlice'_eq];exact W.modify h
def Up.more{lo hi:Nat}(u:Up C a lo hi)(h:lo<hi)(c:ky C a (hi -1)<=ky C a hi):Up C a lo (hi+1):=λi j h1 h2 h3=>by
 by_cases e:j=hi
 ·subst e;by_cases e2:i=j
  ·rw[e2];exact ak _
  ·exact aC (u i (j -1) h1 ∅ ∅) c
 ·exact u i j h1 h2 ∅
def Dn.more{lo hi:Nat}(u:Dn C a lo hi)(h:lo<hi)(c:ky C a hi<=ky C a (hi -1)):Dn C a lo (hi+1):=λi j h1 h2 h3=>by
 by_cases e:j=hi
 ·subst e;by_cases e2:i=j
  ·rw[e2];exact ak _
  ·exact aC c (u i (j -1) h1 ∅ ∅)
 ·exact u i j h1 h2 ∅
def Dn.of{lo hi:Nat}(u:Dn C a lo hi)(e:∀k,ky C b k=ky C a k):Dn C b lo hi:=λi j h1 h2 h3=>by rw[e,e];exact u i j h1 h2 h3
def w_count{lo nrem:Nat}(hk:kindOf st=C.κ)(ic:∀x∈arrOf st,C.In x)(h1:1<=nrem)(hs:lo+nrem<=(-12).size)
  (h:∀m a',Mv (-12) a' lo (lo+nrem)->1<=m->m<=nrem->Up C a' lo (lo+m)->Q (some m) (setArr st a')):W C (countRun' lo nrem) Q st:=by
 have sw:st=setArr st (-12):=rfl;unfold countRun';refine W.bind (W.mono (W.for (I:=λx c s'=>st=s'/\c=(none,x)/\Up C (-12) lo (lo+x))
  (Q:=λc s'=>st=s'/\∃n,c=(none,n)/\1<=n/\n<=nrem/\Up C (-12) lo (lo+n)/\(n=nrem\/ky C (-12) (lo+n)<ky C (-12) (lo+n -1))) ?_ ?_ {rfl,rfl,?_}) ?_)
 ·rintro x c s' Bl hx2 ⟨rfl,rfl,u⟩;refine W.bind (W.at hk ic ∅ ∅ ?_);by_cases e:ky C (-12) (lo+x)<ky C (-12) (lo+x -1)
  ·rw[ba e];exact W.pure {rfl,x,rfl,Bl,by lia,u,.inr e}
  ·rw[bC e];exact W.pure {rfl,rfl,u.more ∅ (gQ e)}
 ·rintro c s' ⟨rfl,rfl,u⟩;rw[show max 1 nrem=nrem by lia]at u⊢;exact{rfl,nrem,rfl,by lia,ak _,u,.inl rfl}
 ·exactλi j q1 q2 q3=>by rw[show i=j by lia];exact ak _
 rintro c s' ⟨rfl,n,rfl,n1,n2,u,last⟩;refine W.ite (λc=>W.pure ?_) λc=>?_
 ·rw[sw];exact h n _ .refl n1 n2 u
 have last:ky C (-12) (lo+n)<ky C (-12) (lo+n -1):=last.resolve_left (by simpa using c);have n3:n<nrem:=by simp at c;lia
 refine W.ite (λc=>W.bind (W.at hk ic ∅ ∅ ?g1)) λc=>?g2
 case' g1=>
  by_cases e:ky C (-12) lo<ky C (-12) (lo+n -1)
  ·rw[ba e];refine W.pure ?_;rw[sw];exact h n _ .refl n1 n2 u
  rw[bC e];have al:∀k,lo<=k->k<lo+n->ky C (-12) k=ky C (-12) lo:=λk q1 q2=>by have:=u lo k (ak _) q1 q2;have:=u k (lo+n -1) q1 ∅ ∅;lia
  have kk:∀k,ky C (mirror (-12) lo (lo+n) ((lo+n -lo)/2)) k=ky C (-12) k:=λk=>by
   rw[tJ ∅];split
   ·rw[al _ ∅ ∅,al k ∅ ∅]
   ·rfl
  refine W.bind (W.rev ?_);have M0:Mv (-12) (mirror (-12) lo (lo+n) ((lo+n -lo)/2)) lo (lo+nrem):=(wK ∅).wide (ak _) ∅;have D0:Dn C (mirror (-12) lo (lo+n) ((lo+n -lo)/2)) lo (lo+n+1):=(Dn.of (a:=arrOf st) (λi j q1 q2 q3=>by rw[al i q1 ∅,al j ∅ q3];exact ak _) kk).more ∅ (by rw[kk,kk];lia);generalize mirror (-12) lo (lo+n) ((lo+n -lo)/2)=a0 at M0 D0
 case' g2=>
  have M0:Mv (-12) (-12) lo (lo+nrem):=.refl;have e1:n=1:=by lia
  have D0:Dn C (-12) lo (lo+n+1):=Dn.more (λi j q1 q2 q3=>by rw[show i=j by lia];exact ak _) ∅ (br last);obtain⟨a0,M0,D0,es⟩:∃a0,Mv (-12) a0 lo (lo+nrem)/\Dn C a0 lo (lo+n+1)/\st=setArr st a0:=⟨_,M0,D0,rfl⟩
  suffices H:W C _ Q (setArr st a0)from es▸H
 all_goals
  refine W.bind (W.rl (W.bind (W.mono (W.for (I:=λx c s'=>∃a' q,s'=setArr st a'/\c=(none,x,q)/\Mv (-12) a' lo (lo+nrem)/\Dn C a' lo (lo+x)/\q+1<=x/\∀k,lo+x -(q+1)<=k->k<lo+x->ky C a' k=ky C a' (lo+x -1))
   (Q:=λc s'=>∃a' m q,s'=setArr st a'/\c=(none,m,q)/\n+1<=m/\m<=nrem/\Mv (-12) a' lo (lo+nrem)/\Dn C a' lo (lo+m)/\q+1<=m/\∀k,lo+m -(q+1)<=k->k<lo+m->ky C a' k=ky C a' (lo+m -1)) ?_ ?_ {a0,0,rfl,rfl,M0,D0,by lia,λk q1 q2=>by rw[show k=lo+(n+1) -1 by lia]}) ?_)))
  ·rintro x c s' Bl hx2 ⟨a',q,rfl,rfl,M,D,q1,al⟩;dsimp only;have Bl:n+1<=x:=Bl;have sz:=M.sz;have kk:∀k,ky C (mirror a' (lo+x -(q+1)) (lo+x) ((lo+x -(lo+x -(q+1)))/2)) k=ky C a' k:=λk=>by
    rw[tJ ∅];split
    ·rw[al _ ∅ ∅,al k ∅ ∅]
    ·rfl
   refine W.bind (W.at hk (M.in ic) (by rw[sz];lia) (by rw[sz];lia) ?_);by_cases e:ky C a' (lo+x)<ky C a' (lo+x -1)
   ·rw[ba e];refine W.ite (λ_=>?_) (λz=>absurd rfl z);refine W.ite (λ_=>W.bind (W.rev (W.pure {_,0,rfl,rfl,M.trans ((wK ∅).wide ∅ ∅),(D.of kk).more ∅ (by rw[kk,kk];lia),by lia,λk q1 q2=>by rw[show k=lo+(x+1) -1 by lia]}))) λ_=>W.pure {_,0,rfl,rfl,M,D.more ∅ ∅,by lia,λk q1 q2=>by rw[show k=lo+(x+1) -1 by lia]}
   ·rw[bC e];refine W.bind (W.at hk (M.in ic) (by rw[sz];lia) (by rw[sz];lia) ?_);by_cases e2:ky C a' (lo+x -1)<ky C a' (lo+x)
    ·rw[ba e2];exact W.pure {_,_,_,rfl,rfl,Bl,by lia,M,D,q1,al}
    ·rw[bC e2];refine W.pure {_,_,rfl,rfl,M,D.more ∅ ∅,by lia,λk q1 q2=>?_};rw[show lo+(x+1) -1=lo+x by lia];by_cases z:k=lo+x
     ·rw[z]
     ·rw[al k ∅ ∅];lia
  ·rintro c s' ⟨a',q,rfl,rfl,M,D,q1,al⟩;dsimp only at*;rw[show max (n+1) nrem=nrem by lia]at*;exact{_,_,_,rfl,rfl,by lia,ak _,M,D,q1,al}
  ·rintro c s' ⟨a',m,q,rfl,rfl,m1,m2,M,D,q1,al⟩;dsimp only;have sz:=M.sz;refine W.ite (λ_=>W.bind (W.rev ?_)) λ_=>?_;rotate_left;generalize a'=a2 at M D;have M2:=M;have sz:=M2.sz;rotate_left;have M2:=M.trans ((wK (i:=lo+m -(q+1)) (j:=lo+m) ∅).wide ∅ ∅);have D:=D.of (b:=mirror a' (lo+m -(q+1)) (lo+m) ((lo+m -(lo+m -(q+1)))/2)) λk=>by
    rw[tJ ∅];split
    ·rw[al _ ∅ ∅,al k ∅ ∅]
    ·rfl
   generalize mirror a' (lo+m -(q+1)) (lo+m) ((lo+m -(lo+m -(q+1)))/2)=a2 at M2 D;have sz:=M2.sz;all_goals
    have M3:=M2.trans ((wK (i:=lo) (j:=lo+m) ∅).wide ∅ ∅);refine W.bind (W.rev (W.bind (W.mono (W.for (I:=λx c s'=>s'=setArr st (-58)/\c=(none,x)/\Up C (-58) lo (lo+x))
     (Q:=λc s'=>s'=setArr st (-58)/\∃n,c=(none,n)/\m<=n/\n<=nrem/\Up C (-58) lo (lo+n)) ?_ ?_ {rfl,rfl,?_}) ?_)))
    ·rintro x c s' Bl hx2 ⟨rfl,rfl,u⟩;refine W.bind (W.at hk (M3.in ic) (by rw[M3.sz];lia) (by rw[M3.sz];lia) ?_);by_cases e:ky C (-58) (lo+x)<ky C (-58) (lo+x -1)
     ·rw[ba e];exact W.pure {rfl,x,rfl,Bl,by lia,u}
     ·rw[bC e];exact W.pure {rfl,rfl,u.more ∅ (gQ e)}
    ·rintro c s' ⟨rfl,rfl,u⟩;rw[show max m nrem=nrem by lia]at u⊢;exact{rfl,nrem,rfl,by lia,ak _,u}
    ·exactλi j q1 q2 q3=>by rw[tJ ∅,tJ ∅,aD ∅,aD ∅];exact D _ _ ∅ ∅ ∅
    ·rintro c s' ⟨rfl,r,rfl,r1,r2,u⟩;exact W.pure (h r _ M3 ∅ r2 u)
end
variable{C:Ct}{st:SortSt}
def G8(hs:s<a.size)(hd:d<=s)(k:Nat):ky C (bubble a s (s -d)) k=if k=d then ky C a s else if d<k/\k<=s then ky C a (k -1)else ky C a k:=by
 unfold ky;rw[getElem?_bubble hs _ ∅,show s -(s -d)=d by lia];split
 ·rfl
 ·split<;>rfl
def abF{lo n ok:Nat}(hk:kindOf st=C.κ)(ic:∀x∈arrOf st,C.In x)(bj:ok<=n)(hs:lo+n<=(-12).size)(u0:Up C (-12) lo (lo+ok))
  (h:∀a',Mv (-12) a' lo (lo+n)->Up C a' lo (lo+n)->Q true (setArr st a')):W C (binarySort' lo n ok) Q st:=by
 unfold binarySort';refine W.bind (W.mono (W.for (I:=λk c s'=>∃a',s'=setArr st a'/\c=(none,())/\Mv (-12) a' lo (lo+n)/\Up C a' lo (lo+min k n))
  (Q:=λc s'=>∃a',s'=setArr st a'/\c=(none,())/\Mv (-12) a' lo (lo+n)/\Up C a' lo (lo+n)) ?_ ?_ {arrOf st,rfl,rfl,.refl,λi j q1 q2 q3=>?_}) ?_)
 ·rintro k c s' k1 k2 ⟨a',rfl,rfl,M,u⟩;rw[show min k n=k by lia]at u;have sz:=M.sz;refine W.bind (W.mono (W.for (I:=λx c s'=>s'=setArr st a'/\∃l r,c=(none,l,r)/\l<=r/\r<=k/\r -l<=k -x/\(∀i,lo<=i->i<lo+l->ky C a' i<=ky C a' (lo+k))/\(∀i,lo+r<=i->i<lo+k->ky C a' (lo+k)<=ky C a' i))
   (Q:=λc s'=>s'=setArr st a'/\∃l r,c=(none,l,r)/\l<=k/\(∀i,lo<=i->i<lo+l->ky C a' i<=ky C a' (lo+k))/\(∀i,lo+l<=i->i<lo+k->ky C a' (lo+k)<=ky C a' i)) ?_ ?_ {rfl,0,k,rfl,by lia,by lia,by lia,λi h1 h2=>by lia,λi h1 h2=>by lia}) ?_)
  ·rintro x c s' _ hx ⟨rfl,l,r,rfl,b1,b2,b3,b4,b5⟩;dsimp only;refine W.ite (λc=>W.pure {rfl,l,r,rfl,by lia,b4,λi q1 q2=>b5 i ∅ q2}) λc=>W.bind (W.at hk (M.in ic) (by rw[sz];lia) (by rw[sz];lia) ?_);by_cases e:ky C a' (lo+k)<ky C a' (lo+(l+r)/2)
   ·rw[ba e];exact W.pure {rfl,l,_,rfl,by lia,by lia,by lia,b4,λi q1 q2=>aC (br e) (u _ _ ∅ q1 q2)}
   ·rw[bC e];exact W.pure {rfl,_,r,rfl,by lia,by lia,by lia,λi q1 q2=>aC (u _ (lo+(l+r)/2) q1 ∅ ∅) (gQ e),b5}
  ·rintro c s' ⟨rfl,l,r,rfl,b1,b2,b3,b4,b5⟩;exact{rfl,l,r,rfl,by lia,b4,λi q1 q2=>b5 i ∅ q2}
  ·rintro c s' ⟨rfl,l,r,rfl,b1,b4,b5⟩;refine W.bind (W.modify (W.pure {bubble a' (lo+k) (lo+k -(lo+l)),rfl,rfl,M.trans ((Qx ∅ ∅).wide ∅ ∅),?_}));rw[show min (k+1) n=k+1 by lia];intro i j q1 q2 q3;rw[G8 ∅ ∅,G8 ∅ ∅];split
   ·split
    ·exact ak _
    ·split
     ·exact b5 _ ∅ ∅
     ·lia
   ·split
    ·split
     ·lia
     ·split
      ·exact u _ _ ∅ ∅ ∅
      ·lia
    ·split
     ·exact b4 _ ∅ ∅
     ·split
      ·exact u _ _ ∅ ∅ ∅
      ·exact u _ _ ∅ ∅ ∅
 ·rintro c s' ⟨a',rfl,rfl,M,u⟩;rw[show min (max (max ok 1) n) n=n by lia]at u;exact⟨a',rfl,rfl,M,u⟩
 ·by_cases z:ok=0
  ·rw[show i=j by lia];exact ak _
  ·exact u0 i j q1 q2 ∅
 ·rintro c s' ⟨a',rfl,rfl,M,u⟩;exact W.pure (h a' M u)
variable{C:Ct}{st:SortSt}
def W.set(h:Q ⟨⟩ s'):W C (set s':StateT SortSt Sem PUnit) Q st:=λs j=>by rw[StateT.run_set];exact af ⟨j,h⟩
theorem I0(sa:Nat):∀(l:List Keyed)(n:Nat)(a:Array Keyed),sa+n+l.length<=a.size->∀k,((l.zipIdx n).foldl (λa(x:Keyed×Nat)=>a.setIfInBounds (sa+x.2) x.1) a)[k]?=if sa+n<=k/\k<sa+n+l.length then l[k -(sa+n)]? else a[k]?
 |[],n,a,_,k=>by rw[au (-9)];rfl
 |x::l,n,a,h,k=>by
  rw[bK]at h⊢;rw[qi,jA,I0 sa l (n+1) _ (by rw[Array.size_setIfInBounds];lia)];by_cases e:k=sa+n
  ·subst e;rw[au ∅,aD ∅,Array.getElem?_setIfInBounds_self_of_lt ∅];simp
  ·rw[Array.getElem?_setIfInBounds_ne ∅];by_cases c:sa+n<=k/\k<sa+n+(l.length+1)
   ·rw[aD c,aD ∅,show k -(sa+n)=k -(sa+(n+1))+1 by lia,oX]
   ·rw[au c,au ∅]
def XM{a:Array Keyed}(h:sa+l.length<=a.size):(l.zipIdx.foldl (λa(x:Keyed×Nat)=>a.setIfInBounds (sa+x.2) x.1) a).toList=a.toList.take sa++l++a.toList.drop (sa+l.length):=by
 apply o9;intro k;rw[bB,I0 sa l 0 a h,ko];by_cases c:k<sa
 ·rw[au ∅,cD,dE (by simp;lia),oo c,bB]
 ·by_cases d:k<sa+l.length
  ·rw[aD {by lia,d},dE (by simp;lia),dw (by simp;lia)];simp[show min sa a.size=sa by lia]
  ·rw[au ∅,dw (by simp;lia),BS];simp[show min sa a.size=sa by lia];rw[show sa+l.length+(k -(sa+l.length))=k by lia]
def yt{a:Array Keyed}(hh:h<=a.size)(q:i<(a.extract l h).size):(a.extract l h)[i]=a[l+i]'(by rw[B5]at q;lia):=by simp
def Fs{a:Array Keyed}(hh:h<=a.size):(a.extract l h).size=h -l:=by rw[B5];lia
def RW(u:Up C a l' h')(hh:h<=a.size)(c1:l'<=l)(c2:h<=h'):So C (a.extract l h):=by refine eE.mpr λi j hi hj z=>?_;rw[aQ]at hi hj;rw[mz,mz,yt hh,yt hh,<-iK,<-iK];rw[Fs hh]at hj;exact u _ _ ∅ ∅ ∅
def ext_mem{a:Array Keyed}(hh:h<=a.size)(m:x∈a.extract l h):∃i,∃q:i<a.size,l<=i/\i<h/\x=a[i]:=by obtain⟨i,hi,e⟩:=Array.mem_iff_getElem.mp m;have:=Fs (l:=l) hh;exact{l+i,by lia,by lia,by lia,by rw[<-e,yt hh]}
def Ph(hk:kindOf st=C.κ)(hf:failedOf st=none)(ic:∀x∈arrOf st,C.In x)(e1:(pendingOf st)[i]?=some (sa,na,pw))(e2:(pendingOf st)[i+1]?=some (sb,nb,x))(hsb:sb=sa+na)(na1:0<na)(nb1:0<nb)(sz:sb+nb<=(-12).size)(u1:Up C (-12) sa sb)(u2:Up C (-12) sb (sb+nb))
  (h:∀a' g,Mv (-12) a' sa (sb+nb)->Up C a' sa (sb+nb)->Q true (SortSt.mk' (kindOf st) a' (((pendingOf st).setIfInBounds i (sa,na+nb,pw)).eraseIdxIfInBounds (i+1)) g none)):W C (mergeAt' i) Q st:=by
 have rk:∀{l hi:Nat},Up C (-12) l hi->∀i j,l<=i->(z:i<=j)->j<hi->(q:j<(-12).size)->C.rk ((-12)[i]'∅)<=C.rk (-12)[j]:=λu i j h1 z h2 q=>by rw[<-iK,<-iK];exact u i j h1 z h2
 unfold mergeAt';refine W.bind (W.get ?_);show W C (match((pendingOf st)[i]?,(pendingOf st)[i+1]?)with|(some (sa,na,power),some (sb,nb,_))=>_|_=>_) Q st;rw[e1,e2];have nx:∀{g:Nat}{a':Array Keyed},Mv (-12) a' sa (sb+nb)->Up C a' sa (sb+nb)->Q true (SortSt.mk' (kindOf st) a' (((pendingOf st).setIfInBounds i (sa,na+nb,pw)).eraseIdxIfInBounds (i+1)) g (failedOf st)):=λm u=>by rw[hf];exact h _ _ m u
 refine W.bind (W.set (W.bind (W.elem (a:=arrOf st) (i:=sb) ∅ (W.bind (LI (arr:=arrOf st) (base:=sa) (n:=na) (hint:=0) hk (ic _ (cW _)) ic (by rw[<-hsb];exact rk u1) ∅ na1 λk q1 q2 q3=>?_)))));have f2:∀i,sa<=i->i<sa+k->ky C (-12) i<=ky C (-12) sb:=λi z1 z2=>by have:=q2 i z1 z2 ∅;rw[<-iK,<-iK]at this;exact this
 have f3:∀i,sa+k<=i->i<sb->ky C (-12) sb<ky C (-12) i:=λi z1 z2=>by have:=q3 i z1 ∅ ∅;rw[<-iK,<-iK]at this;exact this
 refine W.ite (λc=>W.pure (nx .refl λi j z1 z2 z3=>?_)) λc=>?_
 ·have c:k=na:=by simp at c;lia
  by_cases i1:i<sb
  ·by_cases j1:j<sb
   ·exact u1 i j z1 z2 j1
   ·exact aC (f2 i z1 ∅) (u2 sb j (ak _) ∅ z3)
  ·exact u2 i j ∅ z2 z3
 have c:k<na:=by simp at c;lia
 have ix:sa+k+(na -k) -1=sb -1:=by lia
 refine W.bind (W.elem (a:=arrOf st) (i:=sa+k+(na -k) -1) ∅ (W.bind (w_left (arr:=arrOf st) (base:=sb) (n:=nb) (hint:=nb -1) hk (ic _ (cW _)) ic (rk u2) ∅ ∅ λnc p1 p2 p3=>?_)));have f4:∀i,sb<=i->i<sb+nc->ky C (-12) i<ky C (-12) (sb -1):=λi z1 z2=>by have:=p2 i z1 z2 ∅;rw[<-iK,<-iK,ix]at this;exact this
 have f5:∀i,sb+nc<=i->i<sb+nb->ky C (-12) (sb -1)<=ky C (-12) i:=λi z1 z2=>by have:=p3 i z1 z2 ∅;rw[<-iK,<-iK,ix]at this;exact this
 refine W.ite (λc=>W.pure (nx .refl λi j z1 z2 z3=>?_)) λc2=>?_
 ·have c:nc=0:=by simpa using c
  by_cases i1:i<sb
  ·by_cases j1:j<sb
   ·exact u1 i j z1 z2 j1
   ·exact aC (u1 i (sb -1) z1 ∅ ∅) (f5 j ∅ z3)
  ·exact u2 i j ∅ z2 z3
 have c2:0<nc:=by simp at c2;lia
 have sx:=Fs (a:=arrOf st) (l:=sa+k) (h:=sb) ∅;have sy:=Fs (a:=arrOf st) (l:=sb) (h:=sb+nc) ∅;have e0:C.rk (((-12).extract sb (sb+nc))[0]'∅)<C.rk (((-12).extract (sa+k) sb)[0]'∅):=by rw[yt ∅,yt ∅,<-iK,<-iK];exact f3 _ ∅ ∅
 have el:∀y∈(-12).extract sb (sb+nc),C.rk y<C.rk (((-12).extract (sa+k) sb)[((-12).extract (sa+k) sb).size -1]'∅):=λy hy=>by obtain⟨i,q,z1,z2,rfl⟩:=ext_mem ∅ hy;rw[yt ∅,<-iK,<-iK,sx,show sa+k+(sb -(sa+k) -1)=sb -1 by lia];exact f4 i z1 z2
 have hx:∀{l h:Nat},h<=(-12).size->∀x∈(-12).extract l h,C.In x:=λhh x hx=>by obtain⟨i,q,z1,z2,rfl⟩:=ext_mem hh hx;exact ic _ (cW _)
 have fin:∀(m:Array Keyed),Res C ((-12).extract (sa+k) sb) ((-12).extract sb (sb+nc)) m->Mv (-12) (m.toList.zipIdx.foldl (λa(x:Keyed×Nat)=>a.setIfInBounds (sa+k+x.2) x.1) (-12)) sa (sb+nb)/\Up C (m.toList.zipIdx.foldl (λa(x:Keyed×Nat)=>a.setIfInBounds (sa+k+x.2) x.1) (-12)) sa (sb+nb):=by
  rintro m ⟨pm,so⟩;have lm:m.toList.length=sb+nc -(sa+k):=by rw[pm.length_eq,aK,aQ,aQ];lia
  have el:=I0 (sa+k) m.toList 0 (-12) ∅;rw[lm,ko,show sa+k+(sb+nc -(sa+k))=sb+nc by lia]at el;have pl:=XM (sa:=sa+k) (l:=m.toList) (a:=arrOf st) ∅;rw[lm,show sa+k+(sb+nc -(sa+k))=sb+nc by lia]at pl;generalize m.toList.zipIdx.foldl (λa(x:Keyed×Nat)=>a.setIfInBounds (sa+k+x.2) x.1) (-12)=a' at el pl⊢;have inn:∀i,sa+k<=i->i<sb+nc->∃j,sa+k<=j/\j<sb+nc/\ky C a' i=ky C (-12) j:=λi z1 z2=>by
   have e:=el i;rw[aD ⟨z1,z2⟩,aq ∅]at e;have hm:=pm.mem_iff.mp (iV (l:=m.toList) (n:=i -(sa+k)) ∅);have ek:ky C a' i=C.rk (m.toList[i -(sa+k)]'∅):=by unfold ky;rw[e];rfl
   rw[ek];rcases aS.mp hm with hm|hm
   ·obtain⟨j,q,z3,z4,e3⟩:=ext_mem ∅ (my.mp hm);exact{j,z3,by lia,by rw[e3,iK]}
   ·obtain⟨j,q,z3,z4,e3⟩:=ext_mem ∅ (my.mp hm);exact{j,by lia,z4,by rw[e3,iK]}
  have out:∀i,i<sa+k\/sb+nc<=i->ky C a' i=ky C (-12) i:=λi z=>E9 (by rw[el i,au ∅]);refine{{uj.mpr ?_,λi z=>by rw[el i,au ∅]},λi j z1 z2 z3=>?_}
  ·rw[pl];have e:(-12).toList=(-12).toList.take (sa+k)++(((-12).extract (sa+k) sb).toList++((-12).extract sb (sb+nc)).toList)++(-12).toList.drop (sb+nc):=by
    have e':((-12).extract (sa+k) sb).toList++((-12).extract sb (sb+nc)).toList=((-12).toList.drop (sa+k)).take (sb+nc -(sa+k)):=by rw[<-rT,Array.extract_append_extract,il ∅,Nat.max_eq_right ∅,rG,List.extract_eq_drop_take]
    rw[e']
    conv=>lhs;rw[<-dq (sb+nc) (-12).toList,<-dq (sa+k) ((-12).toList.take (sb+nc))]
    rw[List.take_take,il ∅,List.drop_take]
   conv=>rhs;rw[e]
   exact xD _ (qD _ pm)
  ·have lo:∀j,sa+k<=j->j<sb+nc->ky C (-12) sb<=ky C (-12) j:=λj y1 y2=>by
    by_cases c:j<sb
    ·exact br (f3 j y1 c)
    ·exact u2 sb j (ak _) ∅ ∅
   have hi:∀i j,sa+k<=i->i<sb+nc->sb+nc<=j->j<sb+nb->ky C (-12) i<=ky C (-12) j:=λi j y1 y2 y3 y4=>by
    by_cases c:i<sb
    ·exact aC (u1 i (sb -1) ∅ ∅ ∅) (f5 j y3 y4)
    ·exact u2 i j ∅ ∅ y4
   by_cases i1:i<sa+k
   ·rw[out i (.inl i1)];by_cases j1:j<sa+k
    ·rw[out j (.inl j1)];exact u1 i j z1 z2 ∅
    ·by_cases j2:j<sb+nc
     ·obtain⟨t,t1,t2,e⟩:=inn j ∅ j2;rw[e];exact aC (f2 i z1 i1) (lo t t1 t2)
     ·rw[out j (.inr ∅)];exact aC (f2 i z1 i1) (u2 sb j (ak _) ∅ z3)
   ·by_cases i2:i<sb+nc
    ·by_cases j2:j<sb+nc
     ·have hso:=eE.mp so;have g:∀i,(z1:sa+k<=i)->(z2:i<sb+nc)->ky C a' i=C.rk (m.toList[i -(sa+k)]'∅):=λi z1 z2=>by unfold ky;rw[el i,aD ⟨z1,z2⟩,aq ∅];rfl
      rw[g i ∅ i2,g j ∅ j2];by_cases e:i=j
      ·subst e;exact ak _
      ·exact hso _ _ _ _ ∅
     ·obtain⟨t,t1,t2,e⟩:=inn i ∅ i2;rw[e,out j (.inr ∅)];exact hi t j t1 t2 ∅ z3
    ·rw[out i (.inr ∅),out j (.inr ∅)];exact u2 i j ∅ z2 z3
 have o1:So C ((-12).extract (sa+k) sb):=RW u1 ∅ ∅ (ak _);have o2:So C ((-12).extract sb (sb+nc)):=RW u2 ∅ (ak _) ∅;have h1:=hx (l:=sa+k) (h:=sb) ∅;have h2:=hx (l:=sb) (h:=sb+nc) ∅;have l1:0<((-12).extract (sa+k) sb).size:=by lia
 have l2:0<((-12).extract sb (sb+nc)).size:=by lia
 refine W.ite (λ_=>W.bind (Pf hk h1 h2 o1 o2 l1 l2 e0 el λm g R=>?_)) (λ_=>W.bind (Pg hk h1 h2 o1 o2 l1 l2 e0 el λm g R=>?_));all_goals
  refine W.bind (W.modify (W.bind (W.get (W.pure ?_))));show Q (Option.isNone (failedOf st)) _;have e9:Option.isNone (failedOf st)=true:=by rw[hf];rfl
  rw[e9];exact nx (fin m R).1 (fin m R).2
variable{C:Ct}{st:SortSt}
abbrev R3:=Nat×Nat×Nat
def Rn(C:Ct)(a:Array Keyed):Nat->List R3->Nat->Prop
 |b,[],e=>b=e
 |b,r::l,e=>r.1=b/\0<r.2.1/\Up C a b (b+r.2.1)/\Rn C a (b+r.2.1) l e
theorem Rn.le:∀{l:List R3}{b e:Nat},Rn C a b l e->b+l.length<=e
 |[],b,e,h=>by rw[show b=e from h];exact ak _
 |r::l,b,e,⟨_,h1,_,h⟩=>by have:=h.le;rw[bK];lia
theorem Rn.app:∀{l m:List R3}{b e:Nat},Rn C a b (l++m) e↔∃k,Rn C a b l k/\Rn C a k m e
 |[],m,b,e=>{λh=>⟨b,rfl,h⟩,λ⟨k,h1,h2⟩=>by rw[show b=k from h1];exact h2}
 |r::l,m,b,e=>⟨λ⟨h1,h2,h3,h4⟩=>by obtain⟨k,q1,q2⟩:=Rn.app.mp h4;exact{k,⟨h1,h2,h3,q1⟩,q2},λ⟨k,⟨h1,h2,h3,q1⟩,q2⟩=>{h1,h2,h3,Rn.app.mpr ⟨k,q1,q2⟩}⟩
theorem Rn.mv{lo hi:Nat}(m:Mv a a' lo hi):∀{l:List R3}{b e:Nat},Rn C a b l e->(e<=lo\/hi<=b)->Rn C a' b l e
 |[],b,e,h,_=>h
 |r::l,b,e,⟨h1,h2,h3,h⟩,c=>by have:=h.le;exact{h1,h2,m.up h3 ∅,Rn.mv m h ∅}
def Rn.pow(h:Rn C a b (l++[r]) e):Rn C a b (l++[(r.1,r.2.1,p)]) e:=by obtain⟨k,h1,h2⟩:=Rn.app.mp h;exact Rn.app.mpr ⟨k,h1,h2⟩
def Vf{i:Nat}{r s:R3}(h1:l[i]?=some r)(h2:l[i+1]?=some s):∃m n,l=m++r::s::n/\m.length=i:=by
 obtain⟨q1,e1⟩:=ao.mp h1;obtain⟨q2,e2⟩:=ao.mp h2;refine{l.take i,l.drop (i+2),?_,by rw[aL];lia}
 conv=>lhs;rw[<-dq i l,jT q1,jT q2,e1,e2]
abbrev SS(st:SortSt)(a:Array Keyed)(P:Array R3)(g:Nat):SortSt:=SortSt.mk' (kindOf st) a P g none
def Zc(hk:kindOf st=C.κ)(ic:∀x∈a,C.In x)(hr:Rn C a 0 P.toList e)(he:e<=a.size)(hi:i+1<P.size)
  (h:∀a' P' g,a'.Perm a->P'.size+1=P.size->Rn C a' 0 P'.toList e->(∀k,e<=k->a'[k]?=a[k]?)->Q true (SS st a' P' g)):W C (mergeAt' i) Q (SS st a P g):=by
 have q1:P.toList[i]?=some (P[i]'∅):=by rw[bB,getElem?_pos]
 have q2:P.toList[i+1]?=some (P[i+1]'hi):=by rw[bB,getElem?_pos]
 obtain⟨m,n,el,lm⟩:=Vf q1 q2;rw[el]at hr;obtain⟨b,r1,r2,r3,r4,r5,r6,r7,r8⟩:=Rn.app.mp hr;have r9:=r8.le;generalize P[i]'∅=x at*;generalize P[i+1]'hi=y at*;refine Ph hk rfl ic (by rw[<-bB];exact q1) (by rw[<-bB];exact q2) ∅ r3 r6 (by show y.1+y.2.1<=a.size;lia) (by rw[r5,r2];exact r4) (by rw[r5];exact r7) λa' g' mv u=>?_;have el2:(((P.setIfInBounds i (x.1,x.2.1+y.2.1,x.2.2)).eraseIdxIfInBounds (i+1))).toList=m++(x.1,x.2.1+y.2.1,x.2.2)::n:=by rw[Array.toList_eraseIdxIfInBounds,Array.toList_setIfInBounds,el];subst lm;simp;rw[List.eraseIdx_append_of_length_le ∅,show m.length+1 -m.length=1 by lia];rfl
 refine h a' _ g' mv.pm ?_ ?_ λk hk=>mv.ou k (.inr ∅)
 ·rw[<-aQ,el2,<-aQ,el];simp;lia
 ·rw[el2];refine Rn.app.mpr {b,Rn.mv mv r1 (.inl ∅),r2,by dsimp only;lia,?_,?_}
  ·rw[r2,r5]at u;rw[show b+(x.2.1+y.2.1)=b+x.2.1+y.2.1 by lia];exact u
  ·rw[show b+(x.2.1+y.2.1)=b+x.2.1+y.2.1 by lia];exact Rn.mv mv r8 (.inr ∅)
abbrev S3(C:Ct)(a:Array Keyed)(P:Array R3)(g:Nat):SortSt:=SortSt.mk' C.κ a P g none
def Rn.push{P:Array R3}{lo n:Nat}(h:Rn C a 0 P.toList lo)(hn:0<n)(u:Up C a lo (lo+n)):Rn C a 0 (P.push (lo,n,0)).toList (lo+n):=by rw[lC];exact Rn.app.mpr ⟨lo,h,rfl,hn,u,rfl⟩
def Rn.ac0{P:Array R3}{lo pw:Nat}(h:Rn C a 0 P.toList lo)(hp:0<P.size):Rn C a 0 (P.modify (P.size -1) λx=>(x.1,x.2.1,pw)).toList lo:=by
 have ne:P.toList≠[]:=λz=>by rw[<-aQ,z]at hp;exact absurd hp (-8)
 have e:(P.modify (P.size -1) λx=>(x.1,x.2.1,pw)).toList=P.toList.dropLast++[((P.toList.getLast ne).1,(P.toList.getLast ne).2.1,pw)]:=by rw[Array.toList_modify,List.modify_eq_take_cons_drop (by simpa using Nat.sub_lt hp Nat.one_pos),List.drop_of_length_le (by simp;lia),List.dropLast_eq_take,List.getLast_eq_getElem];simp
 rw[e];rw[<-sL ne]at h;exact h.pow
def acy{T p:Nat->Array Keyed->Prop}{G:Prop}(k:(∀n b,p n b->T n b)->G)(h:∀n b,p n b->T n b):G:=k h
def W.adj{α:Type}{c:Prop}{_:Decidable c}{x y:StateT SortSt Sem α}{Q:α->SortSt->Prop}{st:SortSt}(h2:¬c->W C y Q st)(h1:c->W C x Q st):W C (if c then x else y) Q st:=W.ite h1 h2
def Zb(ic:∀x∈a0,C.In x)(h2:2<=a0.size)
  (h:∀a' P g,a'.Perm a0->Up C a' 0 a0.size->Q () (S3 C a' P g)):W C sortRuns' Q (S3 C a0 #[] g0):=by
 unfold sortRuns';refine W.bind (W.get ?_);dsimp only[S3,SortSt.mk'];generalize hN:a0.size=N at*;refine W.bind (W.mono (W.for (I:=λx c s'=>∃a P g lo,s'=S3 C a P g/\c=(none,lo)/\a.Perm a0/\Rn C a 0 P.toList lo/\x<=lo/\lo<=N)
  (Q:=λc s'=>∃a P g,s'=S3 C a P g/\c=(none,N)/\a.Perm a0/\Rn C a 0 P.toList N) ?_ ?_ {a0,#[],g0,0,rfl,rfl,.refl _,rfl,by lia,by lia}) ?_)
 ·rintro x c s' _ hx ⟨a,P,g,lo,rfl,rfl,pm,rn,l1,l2⟩;have sz:a.size=N:=by rw[pm.size_eq,hN]
  have ia:∀x∈a,C.In x:=λx hx=>ic x (pm.mem_iff.mp hx);refine W.ite (λc=>W.pure ?_) λc=>?_
  ·have c:lo=N:=by dsimp only at c;lia
   subst c;exact⟨a,P,g,rfl,rfl,pm,rn⟩
  have c:lo<N:=by dsimp only at c;lia
  refine W.bind (w_count (st:=S3 C a P g) (lo:=lo) (nrem:=N -lo) rfl ia ∅ (show lo+(N -lo)<=a.size by lia) ?_);refine acy (p:=λn b=>0<n/\lo+n<=N/\Mv a b lo (lo+(N -lo))/\Up C b lo (lo+n)) (λkey m a1 mv m1 m2 u=>W.adj (λc1=>key m a1 {m1,by lia,mv,u}) λc1=>W.bind (W.rl (W.bind (abF (st:=S3 C a1 P g) (lo:=lo) (n:=min (N -lo) (minRun' N N 0)) (ok:=m) rfl (Mv.in (a:=a) mv ia) ?_ ?_ u λa2 mv2 u2=>W.ite (λz=>by simp at z) λ_=>key _ a2 {?_,?_,Mv.trans (a:=a) mv (Mv.wide mv2 (ak _) ∅),u2})))) ?_
  ·have c1:m<minRun' N N 0:=c1;lia
  ·have sz1:=Mv.sz (a:=a) mv;show lo+min (N -lo) (minRun' N N 0)<=a1.size;lia
  ·have c1:m<minRun' N N 0:=c1;lia
  ·lia
  rintro m a1 ⟨n1,n2,mv,u⟩;show W C _ _ (S3 C a1 P g);have rn1:Rn C a1 0 P.toList lo:=Rn.mv mv rn (.inl (ak _));have pm1:a1.Perm a0:=mv.pm.trans pm;refine W.bind (W.get ?_);cases hb:P.back? with
  |none=>
   exact W.bind (W.modify (W.pure {a1,P.push (lo,m,0),g,lo+m,rfl,rfl,pm1,rn1.push n1 u,by lia,by lia}))
  |some r=>
   obtain⟨s1,k1,w1⟩:=r;have p0:0<P.size:=by
    rcases Nat.eq_zero_or_pos P.size with z|z
    ·rw[Array.back?_eq_getElem?,getElem?_neg P _ ∅]at hb;cases hb
    ·exact z
   refine W.bind (W.mono (W.for (I:=λy c s'=>∃a2 P2 g2,s'=S3 C a2 P2 g2/\c=(none,())/\a2.Perm a1/\(∀k,lo<=k->a2[k]?=(a1)[k]?)/\Rn C a2 0 P2.toList lo/\0<P2.size) (Q:=λc s'=>∃a2 P2 g2,s'=S3 C a2 P2 g2/\c=(none,())/\a2.Perm a1/\(∀k,lo<=k->a2[k]?=(a1)[k]?)/\Rn C a2 0 P2.toList lo/\0<P2.size) ?_ (λ_ _ h=>h) {_,_,_,rfl,rfl,.refl _,λ_ _=>rfl,rn1,p0}) ?_)
   ·rintro y c s' _ hy ⟨a2,P2,g2,rfl,rfl,uv,ou,xN,p2⟩;refine W.bind (W.get ?_);by_cases c:P2.size>1
    ·have e1:(if(pendingOf (S3 C a2 P2 g2)).size>1 then(pendingOf (S3 C a2 P2 g2))[(pendingOf (S3 C a2 P2 g2)).size -2]? else none)=some ((P2[P2.size -2]'∅).1,(P2[P2.size -2]'∅).2.1,(P2[P2.size -2]'∅).2.2):=by rw[aD c,getElem?_pos P2 (P2.size -2) ∅]
     dsimp only;rw[e1];refine W.ite (λ_=>W.pure ⟨_,_,_,rfl,rfl,uv,ou,xN,p2⟩) λ_=>W.bind (Zc (st:=S3 C a2 P2 g2) (e:=lo) rfl (λx hx=>ia x (mv.pm.mem_iff.mp (uv.mem_iff.mp hx))) xN (by rw[uv.size_eq,mv.pm.size_eq,sz];lia) (show P2.size -2+1<P2.size by lia) λa3 P3 g3 q1 q2 q3 q4=>?_);exact W.pure {a3,P3,g3,rfl,rfl,q1.trans uv,λk hk=>(q4 k hk).trans (ou k hk),q3,by lia}
    ·have e1:(if(pendingOf (S3 C a2 P2 g2)).size>1 then(pendingOf (S3 C a2 P2 g2))[(pendingOf (S3 C a2 P2 g2)).size -2]? else none)=none:=au c;dsimp only;rw[e1];exact W.pure ⟨_,_,_,rfl,rfl,uv,ou,xN,p2⟩
   ·rintro c s' ⟨a2,P2,g2,rfl,rfl,uv,ou,xN,p2⟩;refine W.bind (W.modify (W.bind (W.modify (W.pure {a2,_,g2,lo+m,rfl,rfl,uv.trans pm1,Rn.push (xN.ac0 p2) n1 λi j z1 z2 z3=>?_,by lia,by lia}))));rw[E9 (ou i z1),E9 (ou j ∅)];exact u i j z1 z2 z3
 ·rintro c s' ⟨a,P,g,lo,rfl,rfl,pm,rn,l1,l2⟩;have c:lo=N:=by lia
  subst c;exact⟨a,P,g,rfl,rfl,pm,rn⟩
 ·rintro c s' ⟨a,P,g,rfl,rfl,pm,rn⟩;refine W.bind (W.mono (W.for (I:=λy c s'=>∃a2 P2 g2,s'=S3 C a2 P2 g2/\c=(none,())/\a2.Perm a0/\Rn C a2 0 P2.toList N/\(P2.size+y<=N\/P2.size<=1)) (Q:=λc s'=>∃a2 P2 g2,s'=S3 C a2 P2 g2/\c=(none,())/\a2.Perm a0/\Rn C a2 0 P2.toList N/\P2.size<=1) ?_ ?_ {_,_,_,rfl,rfl,pm,rn,.inl ?_}) ?_)
  ·rintro y c s' _ hy ⟨a2,P2,g2,rfl,rfl,uv,xN,p2⟩;refine W.bind (W.get (W.ite (λc=>W.pure ⟨_,_,_,rfl,rfl,uv,xN,c⟩) λc=>?_));have c:1<P2.size:=Nat.lt_of_not_le c;refine W.bind (Zc (st:=S3 C a2 P2 g2) (e:=N) rfl (λx hx=>ic x (uv.mem_iff.mp hx)) xN (by rw[uv.size_eq,hN];lia) ?_ λa3 P3 g3 q1 q2 q3 q4=>W.pure {a3,P3,g3,rfl,rfl,q1.trans uv,q3,by lia});have two:∀{c:Prop}[Decidable c],(if c then P2.size -2 -1 else P2.size -2)+1<P2.size:=λ{c} _=>by
    by_cases z:c
    ·rw[aD z];lia
    ·rw[au z];lia
   exact two
  ·rintro c s' ⟨a2,P2,g2,rfl,rfl,uv,xN,p2⟩;exact{_,_,_,rfl,rfl,uv,xN,by lia}
  ·have:=rn.le;rw[aQ]at this;lia
  ·rintro c s' ⟨a2,P2,g2,rfl,rfl,uv,xN,p2⟩;refine W.pure (h a2 P2 g2 uv ?_);rw[<-aQ]at p2;generalize P2.toList=l at xN p2
   match l,p2,xN with
   |[],_,e=>exact absurd (show 0=N from e) ∅
   |[r],_,⟨_,_,u,e⟩=>
    have e:0+r.2.1=N:=e;rw[e]at u;exact u
end Nj
namespace Dy
open PySem PySem.W PyProof.Rows PySem.Calls
section
variable{prog:Program}{w:World}{A:Around}{E:Aae}{s:Shared}{vs:Aag}
def Tk(s s':Shared):Prop:=∃t,s'={s with toks:=t}
def Tk.refl(s:Shared):Tk s s:={s.toks,rfl}
abbrev pD(h:Heap)(a:Addr)(vs:Aag):Heap:=((h.update a (Obj.mapSeq λ_=>(#[]:Aal))).push (seqObj "tuple" vs.toArray 0)).push (seqObj "list" #[] 0)
def Xp{rk:Value->Nat}(ho:s.heap.get? a=some (seqObj "list" vs.toArray n))(h2:2<=vs.length)(Hr:vs.length<1000000)
  (hk:∀s',Tk {s with heap:=pD s.heap a vs} s'->wpAny (-5) A (keyKind' vs.toArray) (λk s2=>k=κ/\Tk {s with heap:=pD s.heap a vs} s2) (λ_ _=>False) s')
  (hc:∀x∈vs,∀y∈vs,∀s',Tk {s with heap:=pD s.heap a vs} s'->wpAny (-5) A (keyLt' κ x y) (λb s2=>b=decide (rk x<rk y)/\Tk {s with heap:=pD s.heap a vs} s2) (λ_ _=>False) s')
  (k:∀(us:Aag)(h':Heap)(tk c:Nat),us.Perm vs->us.Pairwise (λx y=>rk x<=rk y)->h'.get? a=some (seqObj "list" us.toArray c)->(∀b o,b≠a->s.heap.get? b=some o->h'.get? b=some o)->P (.done (.ret .none)) {s with heap:=h',toks:=tk}):
  wpAny (-5) A (Builtin.«list.sort» {[.ref a],[]}) P E s:=by
 have la:a<s.heap.objs.size:=aF ho;obtain⟨e1,Fg⟩:∃e1,(s.heap.update a (Obj.mapSeq λ_=>(#[]:Aal))).get? a=some (seqObj "list" #[] e1):={_,get?_update_seq ho λ_=>#[]};have Kt:(pD s.heap a vs).get? a=some (seqObj "list" #[] e1):=ah _ (ah _ Fg);have F6:∀b o,b≠a->s.heap.get? b=some o->(pD s.heap a vs).get? b=some o:=λb o nb q=>ah _ (ah _ ((bY s.heap a _).extBut b o nb q));rw[list_sort_plain];refine ae (listItems_at ho rfl ?_);refine ae (uc ho rfl ?_ (by rw[aI,cP];lia) (aP _));refine ae (xl Fg rfl ?_);refine ae (lD ?_ (by show vs.length<=_;rw[cP];lia));refine ae (zV ?_ (aP _));refine bP ?_;show wpAny (-5) A _ P E {s with heap:=pD s.heap a vs};dsimp only;have big:¬vs.toArray.size<2:=by rw[aI];lia
 rw[au big,au big];refine ae (cZ (hk _ (Tk.refl _)) (λkd s0 hq=>?_) λ_ _ x=>x.elim);obtain⟨rfl,t0⟩:=hq
 let C:Nj.Ct:={prog,w,A,Tk {s with heap:=pD s.heap a vs},kd,λx=>rk x.1,λx=>x.2=x.1/\x.1∈vs,λx y hx hy s' tk=>hc x.1 hx.2 y.1 hy.2 s' tk}
 have hz:∀x∈vs.toArray.zip vs.toArray,x.2=x.1/\x.1∈vs:=λx hx=>by
  rw[List.zip_toArray]at hx;have hx:x∈vs.zip vs:=by simpa using hx
  obtain⟨i,hi,e⟩:=d9.mp hx;rw[we]at e;rw[<-e];exact{rfl,iV _}
 have adX:=Nj.Zb (C:=C) (a0:=vs.toArray.zip vs.toArray) (g0:=7) (Q:=λ_ hX=>∃a',arrOf hX=a'/\failedOf hX=none/\a'.Perm (vs.toArray.zip vs.toArray)/\Nj.Up C a' 0 (vs.toArray.zip vs.toArray).size) hz (by rw[Array.size_zip,aI];lia) (λa' P g p u=>⟨a',rfl,rfl,p,u⟩) s0 t0;refine ae (cZ adX ?_ λ_ _ e=>e.elim);rintro⟨⟨⟩,hX⟩ s' ⟨⟨tk,rfl⟩,a',ea,hf,pm,up⟩;have sz:a'.size=vs.length:=by rw[pm.size_eq,Array.size_zip,aI,BO]
 obtain⟨out,eo⟩:∃out,out=a'.toList.map (·.2):=⟨_,rfl⟩;have e2:(arrOf hX).map (·.2)=out.toArray:=by have ea:arrOf hX=a':=ea;rw[ea,eo];apply Array.ext';rw[Array.toList_map]
 have lp:out.length=vs.length:=by rw[eo,ag,aQ,sz]
 have ic:∀x∈a',x.2=x.1/\x.1∈vs:=λx hx=>hz x (pm.mem_iff.mp hx);have po:out.Perm vs:=by rw[eo];have:=(uj.mp pm).map (·.2);refine this.trans ?_;rw[List.zip_toArray];show(List.map (λx=>x.2) (vs.zip vs)).Perm vs;rw[List.map_snd_zip (ak _)]
 have so:out.Pairwise λx y=>rk x<=rk y:=by rw[eo];refine fK.mpr (eE.mpr λi j hi hj hij=>?_);rw[aQ]at hi hj;have:=up i j (aP _) (br hij) (by rw[<-pm.size_eq];exact hj);rw[Nj.iK hi,Nj.iK hj]at this;rw[mz,mz,(ic _ (cW hi)).1,(ic _ (cW hj)).1];exact this
 show wpAny _ _ _ _ _ _;dsimp only;have e3:Array.map (λx:Keyed=>x.2) (arrOf hX)=out.toArray:=e2;rw[e3];obtain⟨c2,yq⟩:∃c2,((pD s.heap a vs).update a (Obj.mapSeq λ_=>out.toArray)).get? a=some (seqObj "list" out.toArray c2):={_,get?_update_seq Kt λ_=>out.toArray};refine ae (xl Kt rfl ?_);refine ae (uc Kt rfl ?_ (aP _) (by rw[aI,lp,cP];lia));rw[hf];simp only[jH,cb,dJ];exact af (k out _ tk c2 po so yq λb o nb q=>(bY (pD s.heap a vs) a _).extBut b o nb (F6 b o nb q))
def Ta(ho:s.heap.get? a=some (seqObj "list" vs.toArray n))(h2:vs.length<2)
  (k:∀(h':Heap)(c:Nat),h'.get? a=some (seqObj "list" vs.toArray c)->(∀b o,b≠a->s.heap.get? b=some o->h'.get? b=some o)->P (.done (.ret .none)) {s with heap:=h'}):
  wpAny (-5) A (Builtin.«list.sort» {[.ref a],[]}) P E s:=by
 obtain⟨e1,Fg⟩:∃e1,(s.heap.update a (Obj.mapSeq λ_=>(#[]:Aal))).get? a=some (seqObj "list" #[] e1):={_,get?_update_seq ho λ_=>#[]};have Kt:(pD s.heap a vs).get? a=some (seqObj "list" #[] e1):=ah _ (ah _ Fg);have F6:∀b o,b≠a->s.heap.get? b=some o->(pD s.heap a vs).get? b=some o:=λb o nb q=>ah _ (ah _ ((bY s.heap a _).extBut b o nb q));rw[list_sort_plain];refine ae (listItems_at ho rfl ?_);refine ae (uc ho rfl ?_ (by rw[aI,cP];lia) (aP _));refine ae (xl Fg rfl ?_);refine ae (lD ?_ (by show vs.length<=_;rw[cP];lia));refine ae (zV ?_ (aP _));refine bP ?_;show wpAny (-5) A _ P E {s with heap:=pD s.heap a vs};dsimp only;have gD:vs.toArray.size<2:=by rw[aI];lia
 rw[aD gD,aD gD];refine ae (af ?_);refine ae (af ?_);dsimp only;have es:(arrOf (SortSt.mk' general' (vs.toArray.zip vs.toArray) #[] 7 none)).map (·.2)=vs.toArray:=by show(vs.toArray.zip vs.toArray).map (·.2)=vs.toArray;apply wm.mp;simp[List.map_snd_zip]
 rw[es];obtain⟨c2,yq⟩:∃c2,((pD s.heap a vs).update a (Obj.mapSeq λ_=>vs.toArray)).get? a=some (seqObj "list" vs.toArray c2):={_,get?_update_seq Kt λ_=>vs.toArray};refine ae (xl Kt rfl ?_);refine ae (uc Kt rfl ?_ (aP _) (by rw[aI,cP];lia));simp only[jH,cb,dJ];exact af (k _ c2 yq λb o nb q=>(bY (pD s.heap a vs) a _).extBut b o nb (F6 b o nb q))
abbrev JO(a b:Str):Bool:=decide (a.cps.toList<b.cps.toList)
def eM:Aah->Aah->Bool
 |_,[]=>false
 |[],_::_=>true
 |a::r,b::q=>if a=b then eM r q else JO a b
def Oa(a:Str):JO a a=false:=bC (List.lt_irrefl _)
def QG(h1:JO a b=true)(h2:JO b c=true):JO a c=true:=ba (List.lt_trans (bw h1) (bw h2))
def QH(h:JO a b=false)(h2:JO b a=false):a=b:=by have h1:=List.not_lt.mp (A4 h);have h3:=List.not_lt.mp (A4 h2);exact ext_toList (List.le_antisymm h3 h1)
theorem vN:∀a,eM a a=false
 |[]=>rfl
 |a::r=>by unfold eM;rw[aD rfl];exact vN r
theorem sS:∀{a b c:Aah},eM a b=true->eM b c=true->eM a c=true
 |_,[],[],_,h=>by unfold eM at h;cases h
 |_,_::_,[],_,h=>by unfold eM at h;cases h
 |_,[],_::_,h,_=>by unfold eM at h;cases h
 |[],_::_,_::_,_,_=>rfl
 |a::r,b::q,c::p,h1,h2=>by
  unfold eM at h1 h2⊢;by_cases e1:a=b
  ·subst e1;rw[aD rfl]at h1;by_cases e2:a=c
   ·rw[aD e2]at h2⊢;exact sS h1 h2
   ·rw[au e2]at h2⊢;exact h2
  ·rw[au e1]at h1;by_cases e2:b=c
   ·subst e2;rw[au e1];exact h1
   ·rw[au e2]at h2;have h3:=QG h1 h2;have ne:a≠c:=λe=>by rw[e,Oa]at h3;cases h3
    rw[au ne];exact h3
theorem sU:∀{a b:Aah},eM a b=false->eM b a=false->a=b
 |[],[],_,_=>rfl
 |[],_::_,h,_=>by unfold eM at h;cases h
 |_::_,[],_,h=>by unfold eM at h;cases h
 |a::r,b::q,h1,h2=>by
  unfold eM at h1 h2;by_cases e:a=b
  ·subst e;rw[aD rfl]at h1 h2;rw[sU h1 h2]
  ·rw[au e]at h1;rw[au (bV e)]at h2;exact(e (QH h1 h2)).elim
abbrev k7(a b:Aah):Bool:=!eM b a
def Ln(a b c:Aah)(h1:k7 a b=true)(h2:k7 b c=true):k7 a c=true:=by
 have h1':eM b a=false:=by simpa using h1
 have h2':eM c b=false:=by simpa using h2
 cases q:eM c a with
 |false=>simp[k7,q]
 |true=>
  cases p:eM a b with
  |true=>rw[sS q p]at h2';cases h2'
  |false=>rw[sU p h1',h2']at q;cases q
def Lo(a b:Aah):(k7 a b||k7 b a)=true:=by
 cases q:eM b a with
 |false=>simp[k7,q]
 |true=>
  cases p:eM a b with
  |false=>simp[k7,p]
  |true=>have:=sS q p;rw[vN]at this;cases this
def Oc(h1:k7 a b=true)(h2:k7 b a=true):a=b:=sU (by simpa using h2) (by simpa using h1)
def dA(l:Aab):Aab:=l.mergeSort k7
def gg(l:Aab):(dA l).Perm l:=List.mergeSort_perm l k7
def EL(l:Aab):(dA l).Pairwise (λa b=>k7 a b=true):=List.pairwise_mergeSort Ln Lo l
theorem Jj:∀{l m:Aab},l.Perm m->l.Pairwise (λa b=>k7 a b=true)->m.Pairwise (λa b=>k7 a b=true)->l=m
 |[],m,h,_,_=>(List.nil_perm.mp h).symm
 |a::l,[],h,_,_=>absurd h.length_eq (-9)
 |a::l,b::m,h,h1,h2=>by
  have e:a=b:=by
   rcases aG.mp (h.mem_iff.mp (ax))with e|e
   ·exact e
   ·rcases aG.mp (h.mem_iff.mpr (ax))with q|q
    ·exact q.symm
    ·exact Oc (u9 h1 q) (u9 h2 e)
  subst e;rw[Jj (List.perm_cons a|>.mp h) (BR.mp h1).2 (BR.mp h2).2]
def yQ(h:l.Perm zs)(hs:l.Pairwise (λa b=>k7 a b=true)):l=dA zs:=Jj (h.trans (gg zs).symm) hs (EL zs)
def CP(h:l.Perm m):dA l=dA m:=yQ ((gg l).trans h) (EL l)
def Mb(rows:Aab)(a:Aah):Nat:=rows.countP λr=>eM r a
def VL(ha:a∈rows)(hb:b∈rows):decide (Mb rows a<Mb rows b)=eM a b:=by
 have strict:∀{a b:Aah},a∈rows->eM a b=true->Mb rows a<Mb rows b:=λ{a b} hm h=>by unfold Mb;obtain⟨l1,l2,e⟩:=List.append_of_mem hm;have c1:∀l:Aab,(l.countP λr=>eM r a)<=l.countP λr=>eM r b:=λl=>List.countP_mono_left λr _ hr=>sS hr h;rw[e,BV,BV,List.countP_cons,List.countP_cons,vN,h];have:=c1 l1;have:=c1 l2;simp;lia
 cases q:eM a b with
 |true=>exact ba (strict ha q)
 |false=>
  refine bC (FO.mpr ?_);cases p:eM b a with
  |true=>exact br (strict hb p)
  |false=>rw[sU q p];exact ak _
end
inductive oK:Aah->Aag->Prop where
 |nil:oK [] []
 |cons {z:Str} {t:Tok} {zs:Aah} {vs:Aag}:oK zs vs->oK (z::zs) (.str z t::vs)
def TupIs(h:Heap)(v:Value)(zs:Aah):Prop:=∃a o aX n,v=.ref a/\h.get? a=some o/\o.cls=.type "tuple"/\o.data=.seq aX n/\oK zs aX.toList
def TupIs.mono(x:TupIs h v zs)(kp:∀b o,h.get? b=some o->h'.get? b=some o):TupIs h' v zs:=by obtain⟨a,o,aX,n,e,ho,r⟩:=x;exact{a,o,aX,n,e,kp _ _ ho,r}
theorem oK.one:∀{xs ys:Aah}{vs:Aag},oK xs vs->oK ys vs->xs=ys
 |_,_,_,.nil,.nil=>rfl
 |_,_,_,.cons a,.cons b=>by rw[a.one b]
def TupIs.one(a:TupIs h v xs)(b:TupIs h v ys):xs=ys:=by obtain⟨a,o,aX,n,rfl,h1,_,h2,h3⟩:=a;obtain⟨b,p,itq,m,e,q1,_,q2,q3⟩:=b;cases e;rw[h1]at q1;cases q1;rw[h2]at q2;cases q2;exact h3.one q3
open Classical in
def rowOf(h:Heap)(v:Value):Aah:=if x:∃r,TupIs h v r then Classical.choose x else[]
def rZ(x:TupIs h v r):rowOf h v=r:=by unfold rowOf;rw[dif_pos ⟨r,x⟩];exact(Classical.choose_spec (⟨r,x⟩:∃r,TupIs h v r)).one x
section
variable{prog:Program}{w:World}{A:Around}{E:Aae}{s:Shared}
def eq_str(h:Q (decide (a=b)) s):wpAny (-5) A (eqBool (.str a t) (.str b u)) Q E s:=
 (PySem.strKind prog w).eqBool (strKind_is _ _ _ _) (strKind_is _ _ _ _) h
theorem MB:∀(xs ys:Aah)(vs us:Aag)(i:Nat)(s:Shared),oK xs vs->oK ys us->(fin=decide (xs.length<ys.length))->C (eM xs ys) s->KatLex prog w A true fin C (vs.zip us) i s
 |[],[],_,_,i,s,.nil,.nil,hf,h=>by refine kat_nil ?_;rw[hf];exact h
 |[],_::_,_,_,i,s,.nil,.cons r,hf,h=>by refine kat_nil ?_;rw[hf];exact h
 |_::_,[],_,_,i,s,.cons r,.nil,hf,h=>by refine kat_nil ?_;rw[hf];exact h
 |a::xs,b::ys,_,_,i,s,.cons (t:=t) r1,.cons (t:=u) r2,hf,h=>by
  refine kat_cons (eq_str ?_);unfold eM at h;by_cases e:a=b
  ·rw[ba e];rw[aD e]at h;refine kat_yes (MB xs ys _ _ (i+1) s r1 r2 ?_ h);rw[hf];simp
  ·rw[bC e];rw[au e]at h;refine kat_no ?_;cases i with
   |zero=>exact oneLt_str h
   |succ i=>
    have e2:(true&&(i+1==0))=false:=by simp
    rw[e2];refine kat_one _ _ ?_;exact PyProof.Rows.lt_str h
def aaw(hx:TupIs s.heap x xs)(hy:TupIs s.heap y ys)(h:C (eM xs ys) s):wpAny (-5) A (keyLt' (tuples' true) x y) C E s:=by
 obtain⟨a,o,aX,n,rfl,ho,hc,hd,hr⟩:=hx;obtain⟨b,p,itq,m,rfl,hp,hpc,hpd,hq⟩:=hy;refine kat_lt ho hd hp hpd (MB xs ys _ _ 0 s hr hq ?_ h);have len:∀{zs:Aah}{vs:Aag},oK zs vs->zs.length=vs.length:=by
  intro zs vs r
  induction r with
  |nil=>rfl
  |cons _ ih=>simp[ih]
 rw[len hr,len hq,aQ,aQ]
def Uj{vs:Aag}{rows:Aab}(hl:vs.length=rows.length)(h2:2<=vs.length)(ht:∀(i:Nat) v r,vs[i]?=some v->rows[i]?=some r->TupIs s.heap v r)(h9:∀r∈rows,r≠[])(h:Q (tuples' true) s):wpAny (-5) A (keyKind' vs.toArray) Q E s:=by
 have key:∀(vs:Aag)(rows:Aab),vs.length=rows.length->(∀(i:Nat) v r,vs[i]?=some v->rows[i]?=some r->TupIs s.heap v r)->(∀r∈rows,r≠[])->∃fs,KatTups s.heap vs fs/\fs.length=vs.length/\∀f∈fs,∃z t,f=Value.str z t:=by
  intro vs
  induction vs with
  |nil=>intro rows hl _ _;exact{[],KatTups.nil,rfl,λf hf=>nomatch hf}
  |cons v vs ih=>
   intro rows hl ht h9;cases rows with
   |nil=>simp at hl
   |cons r rows=>
    obtain⟨fs,h1,h2,h3⟩:=ih rows (by simpa using hl) (λi v' r' e1 e2=>ht (i+1) v' r' (by simpa using e1) (by simpa using e2)) λr' hr=>h9 r' (az _ hr);obtain⟨a,o,aX,n,rfl,ho,hc,hd,hr⟩:=ht 0 v r rfl rfl;cases r with
    |nil=>exact(h9 [] ax rfl).elim
    |cons z zs=>
     generalize eL:aX.toList=L at hr;cases hr with
     |@cons _ t _ pf nP=>
      have e0:aX[0]?=some (.str z t):=by rw[<-bB,eL];rfl
      refine{.str z t::fs,KatTups.cons ho hc hd e0 h1,by simp[h2],λf hf=>?_};rcases aG.mp hf with rfl|hf
      ·exact⟨z,t,rfl⟩
      ·exact h3 f hf
 obtain⟨fs,h1,h3,h4⟩:=key vs rows hl ht h9;refine kat_kind (T:=.type "str") h1 ∅ (λv hv=>?_) (-8) ?_
 ·obtain⟨z,t,rfl⟩:=h4 v hv;exact Looks.of_pure rfl
 ·have e:((Value.type "str") !=Value.type "tuple")=true:=by decide
  rw[e];exact h
def PM(ho:s.heap.get? a=some (seqObj "list" vs.toArray n))(hl:vs.length=rows.length)(ht:∀(i:Nat) v r,vs[i]?=some v->rows[i]?=some r->TupIs s.heap v r)(h9:2<=rows.length->∀r∈rows,r≠[])(Hr:vs.length<1000000)
  (k:∀(h':Heap)(tk c:Nat)(us:Aag),h'.get? a=some (seqObj "list" us.toArray c)->(∀b o,b≠a->s.heap.get? b=some o->h'.get? b=some o)->us.Perm vs->(∀(i:Nat) v r,us[i]?=some v->(dA rows)[i]?=some r->TupIs s.heap v r)->P (.done (.ret .none)) {s with heap:=h',toks:=tk}):
  wpAny (-5) A (Builtin.«list.sort» {[.ref a],[]}) P E s:=by
 by_cases c2:vs.length<2
 ·refine Ta ho c2 λh' c g kp=>?_;have e:dA rows=rows:=by
   have:rows.length<2:=by lia
   match rows,this with
   |[],_=>exact(yQ (.refl _) .nil).symm
   |[r],_=>exact(yQ (.refl _) (-9)).symm
   |_::_::_,q=>simp at q;lia
  rw[e]at k;exact k h' s.toks c vs g kp (.refl _) ht
 ·have na:∀v r,TupIs s.heap v r->v≠ .ref a:=λv r x z=>by obtain⟨b,o,aX,m,rfl,hb,hc,_⟩:=x;cases z;rw[ho]at hb;cases hb;have qx:=hc;injection qx with z;exact absurd z (-8)
  have Kd:∀s',Tk {s with heap:=pD s.heap a vs} s'->∀(i:Nat) v r,vs[i]?=some v->rows[i]?=some r->TupIs s'.heap v r:=λs' ⟨t,e⟩ i v r e1 e2=>by subst e;have x:=ht i v r e1 e2;have ne:=na v r x;obtain⟨b,o,aX,m,rfl,hb,r⟩:=x;have nb:b≠a:=λz=>ne (by rw[z]);exact{b,o,aX,m,rfl,ah _ (ah _ ((bY s.heap a _).extBut b o nb hb)),r}
  have mr:∀v∈vs,∃r,r∈rows/\TupIs s.heap v r/\∀s',Tk {s with heap:=pD s.heap a vs} s'->TupIs s'.heap v r:=λv hv=>by obtain⟨i,hi,rfl⟩:=d9.mp hv;have e1:=aq hi;have e2:=aq (l:=rows) (i:=i) ∅;exact{_,iV _,ht i _ _ e1 e2,λs' tk=>Kd s' tk i _ _ e1 e2}
  refine Xp (κ:=tuples' true) (rk:=λv=>Mb rows (rowOf s.heap v)) ho ∅ Hr (λs' tk=>?_) (λx hx y hy s' tk=>?_) λus h' tk c po so g kp=>?_
  ·exact Uj hl ∅ (Kd s' tk) (h9 ∅) ⟨rfl,tk⟩
  ·obtain⟨r,m1,t1,k1⟩:=mr x hx;obtain⟨q,m2,t2,k2⟩:=mr y hy;refine aaw (k1 s' tk) (k2 s' tk) {?_,tk};rw[rZ t1,rZ t2,VL m1 m2]
  ·have er:us.map (rowOf s.heap)=dA rows:=by
    have ev:vs.map (rowOf s.heap)=rows:=by refine wg (by simpa using hl) λi h1 h2=>?_;rw[qm];exact rZ (ht i _ _ (aq _) (aq h2))
    refine yQ (by rw[<-ev];exact po.map _) (fK.mpr (so.imp_of_mem λ{x y} hx hy q=>?_));obtain⟨r,m1,t1,k1⟩:=mr x (po.mem_iff.mp hx);obtain⟨p,m2,t2,k2⟩:=mr y (po.mem_iff.mp hy);rw[rZ t1,rZ t2]at q⊢;have z:=VL m2 m1;rw[bC (FO.mpr q)]at z;show(!eM _ _)=true;rw[<-z];rfl
   refine k h' tk c us g kp po λi v r e1 e2=>?_;rw[<-er,aJ,e1]at e2;cases e2;obtain⟨r,m1,t1,k1⟩:=mr v (po.mem_iff.mp (aB e1));rw[rZ t1];exact t1
end
end Dy
namespace L2
open PySem PySem.Spec PyProof.Rows Dy
abbrev fE(K:Frag)(H:Hp):Aao->Aab->Prop:=Paired λ(y:V)(zs:Aah)=>∃a,y=.ref a/\bx K H a (zs.map V.str)
theorem IX:∀{zs:Aah}{us:Aag},Vals (zs.map V.str) us->oK zs us
 |[],_,.nil=>.nil
 |z::r,_,.cons ⟨t,e⟩ h=>by subst e;exact .cons (IX h)
theorem QO:∀{zs:Aah}{us:Aag},Vals (zs.map V.str) us->ItemsAre (bz P w) (zs.map Sum.inr) us
 |[],_,.nil=>.nil
 |z::r,_,.cons ⟨t,e⟩ h=>by subst e;exact .cons (C1 _ _ _ _) (QO h)
section
variable{X:Cx}{pins:Aac}{Z:St}{H:Hp}{s:Shared}
def Inv.row(I:Inv X pins Z H s)(h:bx X.K H a (zs.map V.str)):TupIs s.heap (-49) zs/\IsTupleKey (bz X.prog X.w) s.heap (zs.map Sum.inr) a:=by obtain⟨aX,r,⟨o,e,c,n,d⟩,_⟩:=I.tuple h;exact{{a,o,aX.toArray,n,rfl,e,c,d,by simpa using IX r},{o,aX.toArray,n,e,c,d,by simpa using QO r}}
theorem Inv.rows(I:Inv X pins Z H s):∀{ys:Aao}{rows:Aab}{us:Aag},fE X.K H ys rows->Vals ys us->∃bs:Aaj,us=bs.map Value.ref/\ys=bs.map V.ref/\bs.length=rows.length/\∀(i:Nat) z b,rows[i]?=some z->bs[i]?=some b->bx X.K H b (z.map V.str)
 |_,_,_,.nil,.nil=>{[],rfl,rfl,rfl,λi z b e=>by simp at e}
 |_,_,_,.cons (b:=zs) ⟨a,e,h⟩ r,.cons (b:=u) ru q=>by
  obtain⟨bs,h1,h2,h3,h4⟩:=I.rows r q;subst e;cases(show u=Value.ref a from ru);refine{a::bs,by rw[h1];rfl,by rw[h2];rfl,by simp[h3],λi z b e1 e2=>?_};cases i with
  |zero=>cases e1;cases e2;exact h
  |succ i=>exact h4 i z b (by simpa using e1) (by simpa using e2)
end
theorem Ma{K:Frag}:∀{bs:Aaj}{rows:Aab},bs.length=rows.length->(∀(i:Nat) z b,rows[i]?=some z->bs[i]?=some b->bx K H b (z.map V.str))->fE K H (bs.map V.ref) rows
 |[],[],_,_=>.nil
 |[],_::_,h,_=>by simp at h
 |_::_,[],h,_=>by simp at h
 |b::bs,z::rows,h,k=>.cons {b,rfl,k 0 z b rfl rfl} (Ma (by simpa using h) λi z' b' e1 e2=>k (i+1) z' b' (by simpa using e1) (by simpa using e2))
theorem LJ:∀bs:Aaj,Vals (bs.map V.ref) (bs.map Value.ref)
 |[]=>.nil
 |b::bs=>.cons rfl (LJ bs)
def abH:Value->Addr
 | .ref a=>a
 |_=>0
def XD(h:us.Perm (bs.map Value.ref)):∃cs:Aaj,us=cs.map Value.ref/\cs.Perm bs:=by
 have all:∀{us:Aag},(∀u∈us,∃b,u=Value.ref b)->∃cs:Aaj,us=cs.map Value.ref:=by
  intro us
  induction us with
  |nil=>intro _;exact{[],rfl}
  |cons u us ih=>
   intro hu;obtain⟨b,rfl⟩:=hu u ax;obtain⟨cs,rfl⟩:=ih λv hv=>hu v (az _ hv);exact{b::cs,rfl}
 obtain⟨cs,rfl⟩:=all λu hu=>by obtain⟨b,_,e⟩:=aA.mp (h.mem_iff.mp hu);exact{b,e.symm}
 refine{cs,rfl,?_};have e:∀l:Aaj,(l.map Value.ref).map abH=l:=λl=>by
  induction l with
  |nil=>rfl
  |cons a l ih=>exact cc (a::·) ih
 rw[<-e cs,<-e bs];exact h.map _
def zx:Aab->Aab
 |[]=>[]
 |r::l=>if r∈l then zx l else r::zx l
theorem vL(x:Aah):∀l,x∈zx l↔x∈l
 |[]=>sM
 |r::l=>by
  unfold zx;by_cases c:r∈l
  ·rw[aD c,vL x l,aG];exact{.inr,λh=>h.elim (λe=>e▸c) id}
  ·rw[au c,aG,aG,vL x l]
theorem uP:∀l,(zx l).Nodup
 |[]=>lQ
 |r::l=>by
  unfold zx;by_cases c:r∈l
  ·rw[aD c];exact uP l
  ·rw[au c];exact cU.mpr {λh=>c ((vL r l).mp h),uP l}
def uM(l:Aab):Aab:=dA (zx l)
def DE(nd:l.Nodup)(h:∀r,r∈l↔r∈rows):dA l=uM rows:=
 CP ((mH nd (uP rows)).mpr λr=>by rw[h,vL])
def gZ(x:Aah)(l:Aab):x∈uM l↔x∈l:=by unfold uM;rw[(gg _).mem_iff,vL]
section
variable{prog:Program}{w:World}{A:Around}{E:Aae}{s:Shared}
def Lb{Q:Aae}(hl:vs.length=rows.length)(ht:∀(i:Nat) v r,vs[i]?=some v->rows[i]?=some r->TupIs s.heap v r)(h9:2<=rows.length->∀r∈rows,r≠[])(Hr:vs.length<1000000)
  (k:∀(h':Heap)(tk c:Nat)(us:Aag),h'.get? s.heap.objs.size=some (seqObj "list" us.toArray c)->(∀b o,s.heap.get? b=some o->h'.get? b=some o)->us.Perm vs->(∀(i:Nat) v r,us[i]?=some v->(dA rows)[i]?=some r->TupIs s.heap v r)->Q (-11) {s with heap:=h',toks:=tk}):
  wpAny (-5) A (newList vs>>=λl=>holding [l] (call (.builtin "list.sort") [l] [])>>=λ_=>ret l) (λfin s'=>∃v,fin=Fin.done (.ret v)/\Q v s') E s:=by
 refine ae (zV ?_ (by rw[cP];lia));have Wu:(s.heap.push (seqObj "list" vs.toArray 0)).get? s.heap.objs.size=some (seqObj "list" vs.toArray 0):=aE _ rfl;refine ae (bP (bq slot_list_sort ⟨_,Wu,rfl⟩ entry_list_sort (PM Wu hl (λi v r e1 e2=>(ht i v r e1 e2).mono λb o e=>ah _ e) h9 Hr λh' tk c us g kp pm q=>{_,rfl,?_}) (args_list_sort _)));refine af {_,rfl,k h' tk c us g (λb o e=>kp b o (aH (aF e)) (ah _ e)) pm λi v r e1 e2=>?_};have x:=q i v r e1 e2;have hv:=pm.mem_iff.mp (aB e1);obtain⟨j,hj⟩:=eT.mp hv;have lX:j<rows.length:=by have:=(ao.mp hj).1;lia
 have y:=ht j v _ hj (aq lX);obtain⟨b,o,aX,m,rfl,hb,r1⟩:=y;obtain⟨b',o',its',m',e',kP,r1'⟩:=x;cases e';have:o'=o:=by have:=ah (seqObj "list" vs.toArray 0) hb;exact bS (kP.symm.trans this)
 subst this;exact⟨b,o',its',m',rfl,hb,r1'⟩
variable{X:Cx}
def SortedTo(K:Frag)(H:Hp)(ys:Aao)(rows:Aab)(Q:VK):Prop:=∀l zs,H l=none->fE K H zs (dA rows)->(∀z∈zs,z∈ys)->Q (.ref l) (upd H l (.lst zs))
def EK{pins:Aac}{Z:St}{H:Hp}{s s1:Shared}{bs:Aaj}{rows:Aab}{Q:VK}(I:Inv X pins Z H s1)(lb:bs.length=rows.length)(hb:∀(i:Nat) z b,rows[i]?=some z->bs[i]?=some b->bx X.K H b (z.map V.str))(h9:2<=rows.length->∀r∈rows,r≠[])(Hr:rows.length<1000000)(q:SortedTo X.K H (bs.map V.ref) rows Q){A:Around}{E:Aae}:
  wpAny (-4) A (newList (bs.map Value.ref)>>=λl=>holding [l] (call (.builtin "list.sort") [l] [])>>=λ_=>ret l) (λfin s'=>∃v,fin=Fin.done (.ret v)/\EP X pins Z Q v s') E s1:=by
 refine Lb (by rw[ag];exact lb) (λi v r e1 e2=>?_) h9 (by rw[ag];lia) λh' tk c us g kp pm srt=>?_
 ·rw[aJ]at e1;obtain⟨b,e3,rfl⟩:=a9.mp e1;exact(I.row (hb i r b e2 e3)).1
 ·obtain⟨cs,rfl,pc⟩:=XD pm;have lc:cs.length=rows.length:=by rw[pc.length_eq,lb]
  have lz:(cs.map V.ref).length<=sizeLine:=by rw[ag,cP];lia
  refine{.ref s1.heap.objs.size,_,I.laid kp (ak _) (show dC X.prog X.w _ _ _ (.lst (cs.map V.ref))from{lz,cs.map Value.ref,c,LJ cs,g}),rfl,q _ (cs.map V.ref) (-69) (Ma (by rw[lc,(gg rows).length_eq]) λi z b e1 e2=>?_) λz hz=>(pc.map _).mem_iff.mp hz};have t:=srt i (.ref b) z (by rw[aJ,e2];rfl) e1;obtain⟨j,hj⟩:=eT.mp (pc.mem_iff.mp (aB e2));have lX:j<rows.length:=by have:=(ao.mp hj).1;lia
  have hr:=hb j _ b (aq lX) hj;have t2:=(I.row hr).1;have e:rows[j]=z:=by
   obtain⟨b1,o1,i1,n1,e1,g1,c1,d1,r1⟩:=t;obtain⟨b2,o2,i2,n2,e2,g2,c2,d2,r2⟩:=t2;cases e1;cases e2;rw[g1]at g2;cases g2;rw[d1]at d2;cases d2;have inj:∀{x y:Aah}{vs:Aag},oK x vs->oK y vs->x=y:=by
    intro x y vs hx
    induction hx generalizing y with
    |nil=>intro hy;cases hy;rfl
    |cons _ ih=>intro hy;cases hy with|cons hy=>rw[ih hy]
   exact inj r2 r1
  rw[<-e];exact hr
def Ji{α β:Type}{f:α->β}:∀{l k:List β},l.Perm k->∀{m:List α},k=m.map f->∃m':List α,m'.Perm m/\l=m'.map f:=by
 intro l k h
 induction h with
 |nil=>intro m e;exact{m,.refl _,e}
 |@cons x l1 l2 _ ih=>
  intro m e;cases m with
  |nil=>cases e
  |cons a m=>
   rw[aR]at e;injection e with e1 e2;obtain⟨m',p,q⟩:=ih e2;exact{a::m',p.cons a,by rw[e1,q];rfl}
 |swap x y l=>
  intro m e
  match m,e with
  |a::b::m,e=>
   rw[aR,aR]at e;injection e with e1 e2;injection e2 with e2 e3;exact{b::a::m,.swap _ _ _,by rw[e1,e2,e3];rfl}
 |trans _ _ ih1 Q2=>
  intro m e;obtain⟨m1,p1,q1⟩:=Q2 e;obtain⟨m2,p2,q2⟩:=ih1 q1;exact{m2,p2.trans p1,q2}
def pT:Key->Str
 | .inr z=>z
 | .inl _=>""
def wD(z:Aah):(z.map (Sum.inr:Str->Key)).map pT=z:=by
 induction z with
 |nil=>rfl
 |cons a z ih=>exact cc (a::·) ih
end
def v5(P:Program)(w:World)(a:Addr)(us:List (Aah×Addr)):Heap->Prop:=λh=>∃o ep t,h.get? a=some o/\o.ExactSet/\o.data=.set (us.map λx=>Tb.ent (bz P w) (x.1.map Sum.inr,x.2)).toArray ep t/\t.fits us.length=true/\t.led=Tb.qd w/\Tb.nW t.place
def Xv(x:v5 P w a us h):dC P w H h a (.ext (v5 P w a us)):=
 {x,let⟨o,_,_,q,_⟩:=x;⟨o,q⟩,λ_ _ ⟨o,ep,t,q,r⟩ k=>{o,ep,t,k _ q,r}}
section
variable{X:Cx}{pins:Aac}{Z:St}{H:Hp}{s:Shared}{h':Heap}
def Inv.aca(I:Inv X pins Z H s)(k:∀b u,s.heap.get? b=some u->h'.get? b=some u):Inv X pins Z H {s with heap:=h',drawn:=d',toks:=t'}:=
 I.step (g':=s.gens) (ch:=[]) (λ_ z=>nomatch z) (λb o _ _ _ e _=>k b o e) (λb o _ _ _ e _=>{o.slots,k b o e}) (λ_ _ _ _ n=>n) (λb o _ e=>{o,k b o e}) (λ_ _ e=>e) (λ_ _ _ e=>e) (λb ps e=>{#[],by rw[e];simp}) (λm hm=>by obtain⟨o,es,ep,ho,r⟩:=hm;exact{o,es,ep,k _ _ ho,r}) (I.bj.kept k) I.bare
end
section
variable{X:Cx}
def Sr(hA:X.A.handled=none)(hu:X.A.units+64<cLine):jU X (.type "set") (λxs H Q=>∃p ys rows,xs=[.ref p]/\bo X.K H p ys/\fE X.K H ys rows/\rows.length<=1000/\∀a us,H a=none->(us.map (·.1)).Nodup->(∀r,r∈us.map (·.1)↔r∈rows)->us.length<=rows.length->(∀x∈us,bx X.K H x.2 (x.1.map V.str)/\V.ref x.2∈ys)->Q (-49) (upd H a (.ext (v5 X.prog X.w a us)))):=by
 intro pins s Z H xs us Q I r h;obtain⟨p,ys,rows,rfl,hq,hr,hz,q⟩:=h;obtain⟨u,rfl,rx⟩:=l9 r;cases rx;obtain⟨aX,r',pl,_⟩:=I.list hq;obtain⟨bs,rfl,rfl,lb,hb⟩:=I.rows hr r';refine Tb.Sq (knd:=bz X.prog X.w) (ks:=rows.map λz=>z.map Sum.inr) (bs:=bs) hA (by show X.A.units+1+1+1<cLine;lia) pl.isList (-9) (by rw[ag,lb]) (λi k b e1 e2=>?_) ∅ λh' tk o ep t xs S hl hH kp=>?_
 ·rw[aJ]at e1;obtain⟨z,e3,rfl⟩:=a9.mp e1;exact(I.row (hb i z b e3 e2)).2
 ·have inj:∀x∈xs,∃(j:Nat)(z:Aah),rows[j]?=some z/\x.1=z.map Sum.inr/\bs[j]?=some x.2:=λx hx=>by obtain⟨j,j1,j2⟩:=hH.HX x hx;rw[aJ]at j1;obtain⟨z,e3,e4⟩:=a9.mp j1;exact{j,z,e3,e4.symm,j2}
  have back:(xs.map λx=>(x.1.map pT,x.2)).map (λx=>((x.1.map Sum.inr:List Key),x.2))=xs:=by
   rw[bX];have:∀x∈xs,((λx:Aah×Addr=>((x.1.map Sum.inr:List Key),x.2))∘λx:List Key×Addr=>(x.1.map pT,x.2)) x=x:=λx hx=>by obtain⟨j,z,_,e,_⟩:=inj x hx;show((x.1.map pT).map Sum.inr,x.2)=x;rw[e,wD];exact Ew e.symm rfl
   rw[bH this,List.map_id']
  have fst:∀r,r∈(xs.map λx=>(x.1.map pT,x.2)).map (·.1)↔r∈rows:=λr=>by
   rw[bX,aA];constructor
   ·rintro⟨x,hx,rfl⟩;obtain⟨j,z,e1,e,_⟩:=inj x hx;show x.1.map pT∈rows;rw[e,wD];exact aB e1
   ·intro hr;have:r.map Sum.inr∈xs.map (·.1):=(hH.mem _).mpr (by
     rw[cj (by rw[ag,lb];exact ak _)];exact aA.mpr ⟨r,hr,rfl⟩)
    obtain⟨x,hx,e⟩:=aA.mp this;exact{x,hx,by show x.1.map pT=r;rw[e,wD]}
  have nd:((xs.map λx=>(x.1.map pT,x.2)).map (·.1)).Nodup:=by
   have h1:=S.nd;rw[<-back,bX]at h1;have h2:((xs.map λx=>(x.1.map pT,x.2)).map ((·.1)∘λx:Aah×Addr=>((x.1.map Sum.inr:List Key),x.2)))=((xs.map λx=>(x.1.map pT,x.2)).map (·.1)).map λz=>z.map Sum.inr:=by simp only[bX];rfl
   rw[h2]at h1;exact(fK.mp h1).imp λne e=>ne (by rw[e])
  have hd:o.data=.set ((xs.map λx=>(x.1.map pT,x.2)).map λx=>Tb.ent (bz X.prog X.w) (x.1.map Sum.inr,x.2)).toArray ep t:=by rw[S.data];congr 2;have:=cc (List.map (Tb.ent (bz X.prog X.w))) back;rw[bX]at this;exact this.symm
  refine{.ref s.heap.objs.size,_,I.laid (t':=tk) kp (ak _) (Xv {o,ep,t,S.ob,S.ex,hd,?_,hl,S.tab.rise}),rfl,q _ _ (-69) nd fst ?_ λx hx=>?_}
  ·have:=S.fits;simpa using this
  ·rw[ag];have:=hH.len;lia
  ·obtain⟨y,hy,rfl⟩:=aA.mp hx;obtain⟨j,z,e1,e,e2⟩:=inj y hy;refine{?_,aA.mpr {y.2,aB e2,rfl}};show bx X.K H y.2 ((y.1.map pT).map V.str);rw[e,wD];exact hb j z y.2 e1 e2
def Gs(hA:X.A.handled=none):jU X (.builtin "sorted") (λxs H Q=>∃a us ys,xs=[.ref a]/\H a=some (.ext (v5 X.prog X.w a us))/\(∀x∈us,bx X.K H x.2 (x.1.map V.str)/\V.ref x.2∈ys)/\(2<=us.length->∀x∈us,x.1≠[])/\us.length<1000/\SortedTo X.K H ys (us.map (·.1)) Q):=by
 intro pins s Z H xs us Q I r h;obtain⟨a,LM,ys,rfl,ha,hx,h9,Hr,q⟩:=h;obtain⟨u,rfl,rx⟩:=l9 r;cases rx;obtain⟨⟨o,ep,t,ho,hex,hd,hf,hl,aci⟩,_⟩:=(show dC X.prog X.w H s.heap a (.ext (v5 X.prog X.w a LM))from I.bj a _ ha);refine ni kind_sorted plain_sorted entry_sorted (args_sorted1 _) ?_;unfold Builtin.«sorted»;refine ae (m:=checkCount "sorted" 1 1 _) (af ?_);refine ae (Tb.Lu (A:=X.A.in1) (by simpa using hA) {⟨o,ho,hex,hd⟩,by simpa using hf,hl,aci} (by simp;lia) λh' tk d vs pm kp=>?_);have e0:(LM.map λx=>Tb.ent (bz X.prog X.w) (x.1.map Sum.inr,x.2)).toArray.toList.map (·.2)=LM.map λx=>Value.ref x.2:=by simp[uI]
 rw[e0]at pm;obtain⟨pf,pv,rfl⟩:=Ji pm rfl;have lb:(pf.map (·.2)).length=(pf.map (·.1)).length:=by rw[ag,ag]
 have lu:=pv.length_eq;have e1:(pf.map λx=>Value.ref x.2)=(pf.map (·.2)).map Value.ref:=by rw[bX];rfl
 rw[e1];have sc:dA (pf.map (·.1))=dA (LM.map (·.1)):=CP (pv.map _);refine EK (s:=s) (I.aca (t':=tk) (d':=d) kp) lb (λi z b e2 e3=>?_) (λh2 r hr=>?_) (by rw[ag];lia) λl zs iX hz hm=>?_
 ·rw[aJ]at e2 e3;obtain⟨x,ex,rfl⟩:=a9.mp e2;rw[ex]at e3;cases e3;exact(hx x (pv.mem_iff.mp (aB ex))).1
 ·obtain⟨x,hxm,rfl⟩:=aA.mp hr;exact h9 (by rw[ag]at h2;lia) x (pv.mem_iff.mp hxm)
 ·rw[sc]at hz;refine q l zs iX hz λz hzm=>?_;obtain⟨b,hb,rfl⟩:=aA.mp (hm z hzm);obtain⟨x,hxm,rfl⟩:=aA.mp hb;exact(hx x (pv.mem_iff.mp hxm)).2
end
def V1(hl:(apos.endLine==eB.line)=true:=by rfl)(hb:attributeBase (.Name d pd) "get" X.env (eval (.Name d pd) X.env)=eval (.Name d pd) X.env:=by rfl):M2 X (.Name d pd) "get" apos (.Name x px) (.List [] pl) eB:=⟨hb,rfl,hl,rfl⟩
section
variable{prog:Program}{w:World}{A:Around}{E:Aae}{s:Shared}{d it:Addr}{o:Obj}{es:Array DictEntry}{ep i:Nat}
def F2(lo:(d==sysModules)=false)(ho:s.heap.get? d=some o)(hx:o.ExactDict)(hd:o.data=.dict es ep)
  (q:Q (-11) {s with heap:=s.heap.push {cls:=.type "dict_keyiterator",data:=.fields #[.ref d,.int 0 0,.int es.size 0,.int ep 0]}}):wpAny (-5) A (pyIter (.ref d)) Q E s:=by
 have ty:s.TypeIs (.ref d) "dict":={o,ho,hx.1};refine oY ty xw (bq xw ty PySem.F.entry_dict_iter ?_ (PySem.F.args_dict_iter_1 _));unfold Builtin.«dict.__iter__» Builtin.Dict.dictSlotNone;refine ae (ae (jr ty (af (a:=Value.ref d) ?_)));show wpAny _ _ (Builtin.Dict.showsAll d>>=_) _ _ s;unfold Builtin.Dict.showsAll;rw[lo];refine ae (af (ae (gw ho hd (ae (kL ho hd ?_)))));exact ae (bT (af {_,rfl,"dict_keyiterator",_,{_,aE _ rfl,rfl},eO.lookup,q}))
def PY(hit:s.heap.IsKeyIter it d i es.size ep)(ho:s.heap.get? d=some o)(hd:o.data=.dict es ep)(hi:i<es.size)
  (q:∀h',h'.IsKeyIter it d (i+1) es.size ep->Heap.SameBut it s.heap h'->Q (some es[i].key) {s with heap:=h'}):wpAny (-5) A (pyNext (.ref it)) Q E s:=by
 obtain⟨oi,Hi,ci,di⟩:=id hit;unfold pyNext;refine ae (dH (wpAny_callSpecial?_slot (name:=Str.ofString "__next__") hit.typeIs eO (bq eO hit.typeIs oM ?_ (oh _))));refine ae (af (ae (ae (ae (iH hit.typeIs (af ?_))))));refine ae (iN Hi di ?_);have own:Builtin.Dict_items.ownsTuple "dict_keyiterator"=false:=by decide
 simp only[own,cb,dJ];show wpAny _ _ (if(-70)=true then _ else _) _ _ s;rw[au (show ¬((-70)=true)from aU)];refine ae (af (ae (gw ho hd ?_)));rw[au (-9)];refine ae (af (ae (kL ho hd ?_)));rw[au (-9)];refine af ?_;simp only[show ¬((i:Int)<0)from by lia,dJ,cV,bh hi];refine ae (ae (iH hit.typeIs (af (ae (xH hit.typeIs ?_)))));show wpAny _ _ (setField (.ref it) 1 (rawInt ((i:Int)+1))>>=_) _ _ s;refine ae (fI Hi di (-9) ?_);have Ow:(s.heap.update it (Obj.mapFields (·.setIfInBounds 1 (rawInt ((i:Int)+1))))).IsKeyIter it d (i+1) es.size ep:=
  {_,cy _ Hi (yC (om di _)),(CG ..).trans ci,by rw[om di];simp[rawInt]}
 refine ae (bP (ae (xH (s:={s with heap:=s.heap.update it (Obj.mapFields (·.setIfInBounds 1 (rawInt ((i:Int)+1))))}) Ow.typeIs ?_)));show wpAny _ _ (pure es[i].key) _ _ _;exact af (af {_,rfl,af (q _ Ow (bY ..))})
def GQ(hh:A.handled=none)(hit:s.heap.IsKeyIter it d i es.size ep)(ho:s.heap.get? d=some o)(hd:o.data=.dict es ep)(hi:es.size<=i)
  (q:∀h',(∀b x,b≠it->s.heap.get? b=some x->h'.get? b=some x)->Q none {s with heap:=h'}):wpAny (-5) A (pyNext (.ref it)) Q E s:=by
 obtain⟨oi,Hi,ci,di⟩:=id hit;unfold pyNext;refine ae (dH (wpAny_callSpecial?_slot (name:=Str.ofString "__next__") hit.typeIs eO (bq eO hit.typeIs oM ?_ (oh _))));refine ae (af (ae (ae (ae (iH hit.typeIs (af ?_))))));refine ae (iN Hi di ?_);have own:Builtin.Dict_items.ownsTuple "dict_keyiterator"=false:=by decide
 simp only[own,cb,dJ];show wpAny _ _ (if(-70)=true then _ else _) _ _ s;rw[au (show ¬((-70)=true)from aU)];refine ae (af (ae (gw ho hd ?_)));rw[au (-9)];refine ae (af (ae (kL ho hd ?_)));rw[au (-9)];refine af ?_;simp only[show ¬((i:Int)<0)from by lia,dJ,cV,kX hi];refine ae (ae (iH hit.typeIs (af ?_)));show wpAny _ _ (setField (.ref it) 0 .none>>=_) _ _ s;refine ae (fI Hi di (-9) ?_);refine Tb.B6 (s:=s) (show A.in1.handled=none from hh) λh' e kp adx=>?_;obtain⟨oe,he,ce⟩:=adx;exact ae (fY (T:="StopIteration") (b:=true) ⟨oe,he,ce⟩ j8 (af (q _ λb x nb g=>kp b x ((bN _ _ (bV nb)).trans g))))
end
def DX(P:Program)(w:World)(d:Addr)(kvs:List (Key×V))(ok ov:V):Heap->Prop:=λh=>(d==sysModules)=false/\∃o es ep vs e,h.get? d=some o/\o.ExactDict/\o.data=.dict (es.push e) ep/\KV kvs vs/\KeysOf (bz P w) es/\Pairs (bz P w) es.toList vs/\(vs.map (·.1)).Nodup/\RelV ok e.key/\RelV ov e.val/\kvs.length<=1000
section
variable{X:Cx}{pins:Aac}{Z:St}{H:Hp}{s:Shared}
def Inv.Gh(I:Inv X pins Z H s)(hd:H d=some (.ext φ))(ho:s.heap.get? d=some o):Inv X pins Z (upd H d (.c6 o (.ext φ))) s:=by
 have nd:∀b u,H b=some u->(∀l,u≠ .ext l)->b≠d:=λb u q n z=>by rw[z,hd]at q;exact n φ (bS q).symm
 have h9:∀b,H b=none->b≠d:=λb q z=>by rw[z,hd]at q;cases q
 refine I.un {λb u e _ _ _=>e,λb u e _ _ _=>{u.slots,e},λb u e n _=>by rw[aw (h9 b n)];exact n,λb u e _=>⟨u,e⟩,λb xs q=>by rw[aw (nd b _ q λl z=>by cases z)];exact q,λb u v q=>by rw[aw (nd b _ q λl z=>by cases z)];exact q,λb ps q=>{#[],by rw[aw (nd b _ q λl z=>by cases z),q];simp}} λb u g=>?_;by_cases hb:b=d
 ·subst hb;rw[ar]at g;cases g;exact{ho,I.bj b _ hd}
 ·rw[aw hb]at g;exact(I.bj b u g).jD (λc v hc q=>q) (λc q=>by rw[aw (nd c _ q λl z=>by cases z)];exact q) λc ys q=>by rw[aw (nd c _ q λl z=>by cases z)];exact q
def Inv.Nu(I:Inv X pins Z H s)(hd:H d=some (.c6 o u))(hn:∀u v,X.aaf d≠some (.c6 u v)):Inv X pins Z (upd H d u) s:=by
 have nd:∀b u,H b=some u->(∀v l,u≠ .c6 v l)->b≠d:=λb u q n z=>by rw[z,hd]at q;exact n _ _ (bS q).symm
 have h9:∀b,H b=none->b≠d:=λb q z=>by rw[z,hd]at q;cases q
 refine{I.ok,I.os,I.bare,{I.base.keep,I.base.slot,λb u e n hx=>?_,I.base.there,λb xs q=>?_,λb u v q=>?_,λb ps q=>?_},I.loc,I.cell,?_,λx c e=>?_,λp hp=>?_,λb v g=>?_,I.len}
 ·have z:=I.base.free b u e n hx;rw[aw (h9 b z)];exact z
 ·have z:=I.base.ny b xs q;rw[aw (nd b _ z λv l t=>by cases t)];exact z
 ·have z:=I.base.ud b u v q;rw[aw (show b≠d fromλt=>hn u v (by rw[<-t];exact q))];exact z
 ·obtain⟨m,z⟩:=I.base.yM b ps q;exact{m,by rw[aw (nd b _ z λv l t=>by cases t)];exact z}
 ·rw[aw (h9 _ I.free)];exact I.free
 ·rw[aw (h9 _ (I.oG x c e))];exact I.oG x c e
 ·obtain⟨a1,a2,a3,a4,a5⟩:=I.pin p hp;exact{a1,by rw[aw (h9 _ a2)];exact a2,a3,a4,a5}
 ·by_cases hb:b=d
  ·subst hb;rw[ar]at g;cases g;exact((I.bj b _ hd).2).jD (λc v hc q=>q) (λc q=>by rw[aw (nd c _ q λv l z=>by cases z)];exact q) λc ys q=>by rw[aw (nd c _ q λv l z=>by cases z)];exact q
  ·rw[aw hb]at g;exact(I.bj b v g).jD (λc v hc q=>q) (λc q=>by rw[aw (nd c _ q λv l z=>by cases z)];exact q) λc ys q=>by rw[aw (nd c _ q λv l z=>by cases z)];exact q
end
inductive Pt(t:TE)(Z:St)(H:Hp)(Q:VK):Prop
 |mk (d:Addr) (_:(∀u v,H d≠some (.c6 u v))) (_:t Z H λv H'=>∃o u,H' d=some (.c6 o u)/\Q v (upd H' d u))
def DV(h:PE X e t):PE X e (Pt t):=by intro pins s Z H Q I ht;obtain⟨d,hd,ht⟩:=ht;have h0:=λu v e=>hd u v (I.base.ud d u v e);refine cX (h pins s Z H _ I ht) λv s1 x H1 I1 r1 ⟨o,u,e,q⟩=>{x,_,I1.Nu e h0,r1,q}
def K3(d:Addr)(o:Obj)(u:HO)(kvs:Aam):It:=
 {λi H=>H d=some (.c6 o u)/\i<kvs.length,λi H x H'=>H'=H/\∃kv,kvs[i]?=some kv/\x=kv.1,λi H=>H d=some (.c6 o u)/\kvs.length<=i}
def K6(o:Obj)(es:Array DictEntry)(ep:Nat)(kvs:Aam):Prop:=o.ExactDict/\o.data=.dict es ep/\Paired (-57) kvs es.toList
def Pp{K:Frag}(m:K6 o es ep kvs):Turn P w K tg (K3 d o u kvs) [it] it (λi h=>h.IsKeyIter it d i es.size ep) where
 mem:=by simp
 obj:=λi h st b hb=>by
  have e:b=it:=by simpa using hb
  subst e;obtain⟨v,e,c,q⟩:=st;exact{v,e,λv z=>by rw[q]at z;cases z}
 keep:=λi h h' st k=>by obtain⟨v,e,r⟩:=st;exact{v,k it (-9) v e,r}
 item:=by
  intro X hP hw hK hc i pins s Z H E I hf st hg;obtain⟨hd,hi⟩:=hg;have hl:kvs.length=es.size:=by rw[bp m.2.2,aQ]
  have ga:=(I.bj d _ hd).1;obtain⟨f0,f1,f2,f3,f4,f5⟩:=hf it (-9);obtain⟨kv,iD⟩:∃kv,kvs[i]?=some kv:={_,aq hi};have Rz:i<es.size:=by lia
  obtain⟨e,he,r⟩:=Paired.at' m.2.2 iD;have ee:es[i]=e:=by rw[bB,bh Rz]at he;exact bS he
  refine PY st ga m.2.1 Rz λh' hX sb=>?_;have I1:=I.turned (t':=s.toks) (λb o hb e=>(sb.2 b hb).trans e) f0 f1 f3 f4 f5;obtain⟨v,ev,c,q⟩:=id hX;exact{_,rfl,Co ev c q (-8) {kv.1,H,I1,by rw[ee];exact r.1,⟨rfl,kv,iD,rfl⟩,hX,λb hb=>(hf b hb).1}}
 done:=by
  intro X hP hw hK hc i pins s Z H E I hf st hg;obtain⟨hd,hi⟩:=hg;have hl:kvs.length=es.size:=by rw[bp m.2.2,aQ]
  have ga:=(I.bj d _ hd).1;obtain⟨f0,f1,f2,f3,f4,f5⟩:=hf it (-9);exact GQ (I.ok.hd hc) st ga m.2.1 ∅ λh' eb=>{rfl,I.turned (λb o hb e=>eb b o hb e) f0 f1 f3 f4 f5}
 self:=λ_ _ _ _ _ st h=>qF st h
def Pb(P:Program)(w:World)(d:Addr)(u:HO)(kvs:Aam):Prop:=(∃l,u=.dK l/\kvs=l.map λp=>(kV p.1,p.2))\/∃l ok ov,u=.ext (DX P w d l ok ov)/\kvs=(l.map λp=>(kV p.1,p.2))++[(ok,ov)]
def EY(rel:KV kvs vs)(hp:Pairs (bz P w) es vs):Paired (-57) (kvs.map λp=>(kV p.1,p.2)) es:=by
 unfold KV at rel
 induction hp generalizing kvs with
 |nil=>cases rel;exact .nil
 |@cons e kv es vs hk hv _ ih=>
  cases rel with
  |@cons p _ ps _ hr t=>exact .cons {ve (by rw[hr.1];exact hk),by rw[hv];exact hr.2} (ih t)
def Yv(x:dC P w H h d u)(hv:Pb P w d u kvs):(d==sysModules)=false/\∃o es ep,h.get? d=some o/\K6 o es ep kvs:=by
 rcases hv with⟨l,rfl,rfl⟩|⟨l,ok,ov,rfl,rfl⟩
 ·obtain⟨_,lo,vs,rel,o,es,ep,ga,hx,hd,_,hp,_⟩:=x;exact{lo,o,es,ep,ga,hx,hd,EY rel hp}
 ·obtain⟨⟨lo,o,es,ep,vs,e,ga,hx,hd,rel,_,hp,_,r1,r2,_⟩,_⟩:=x;refine{lo,o,_,ep,ga,hx,hd,?_};rw[lC];exact jY (EY rel hp) ⟨r1,r2⟩
def Inv.Ys(I:Inv X pins Z H s)(hd:H d=some u)(hv:Pb X.prog X.w d u kvs)(ho:s.heap.get? d=some o):Inv X pins Z (upd H d (.c6 o u)) s:=by
 rcases hv with⟨l,rfl,rfl⟩|⟨l,ok,ov,rfl,rfl⟩
 ·exact I.freeze hd ho
 ·exact I.Gh hd ho
inductive Yn(P:Program)(w:World)(R:It->Hp->Prop)(x:V)(H1:Hp):Prop
 |mk d u kvs (_:x=.ref d) (_:H1 d=some u) (_:Pb P w d u kvs) (_:∀o,R (K3 d o u kvs) (upd H1 d (.c6 o u)))
def aaP(P:Program)(w:World)(tl:TE):TI:=λZ H R=>tl Z H λx H1=>Yn P w R x H1
def Jh(hl:PE X l tl):PI X tg l (aaP X.prog X.w tl):=by
 intro pins s Z H R I h;refine cX (hl pins s Z H _ I h) λv s1 x H1 I1 r1 q1=>?_;obtain⟨d,u,kvs,e,hd,hv,q⟩:=q1;subst e;cases r1;obtain⟨lo,o,es,ep,ga,m⟩:=Yv (I1.bj d _ hd) hv;refine F2 lo ga m.1 m.2.1 ?_;have I2:=I1.Ys hd hv ga;refine{s1.heap.objs.size,[s1.heap.objs.size],_,_,_,rfl,I2.kept λb o e=>ah _ e,Pp m,{_,aE _ rfl,rfl,rfl},λb hb=>?_,q o};have e:b=s1.heap.objs.size:=by simpa using hb
 subst e;exact I2.sr (ak _) (I2.bj.fresh (ak _))
def IS(hv:s.heap.IsItemsView v d)(ho:s.heap.get? d=some o)(hd:o.data=.dict es ep)
  (q:Q (-11) {s with heap:=s.heap.push {cls:=.type "dict_itemiterator",data:=.fields #[.none,.bool false,.ref d,.int 0 0,.int es.size 0,.int ep 0,.none,.none]}}):wpAny (-5) A (pyIter (.ref v)) Q E s:=by
 obtain⟨ov,hov,hcv,hdv⟩:=id hv;refine oY hv.typeIs sJ (bq sJ hv.typeIs PySem.F.entry_dict_items_iter ?_ (PySem.F.args_dict_items_iter_1 _));unfold Builtin.«dict_items.__iter__» Builtin.Dict_items.dictOf Builtin.Dict_items.newIterator;refine ae (af (ae (ae (bF hov hdv rfl (af ?_)))));refine ae (ae (gw ho hd (ae (kL ho hd ?_))));have own:Builtin.Dict_items.ownsTuple "dict_itemiterator"=true:=by decide
 simp only[own,lG];refine bT (af {_,rfl,"dict_itemiterator",_,{_,aE _ rfl,rfl},b6.lookup,?_}) (by simp only[sizeOk,Builtin.Dict_items.ownedTupleFields,aI,aK,bK,c7,cP];lia);simpa[rawInt,Builtin.Dict_items.ownedTupleFields]using q
inductive Zx(t:TS)(D:Ends)(Z:St)(H:Hp):Prop
 |mk (d:Addr) (_:(∀u v,H d≠some (.c6 u v))) (_:t {D with nx:=λσ' H'=>∃o u,H' d=some (.c6 o u)/\D.nx σ' (upd H' d u),rt:=λv H'=>∃o u,H' d=some (.c6 o u)/\D.rt v (upd H' d u)} Z H)
def DS{st:Stmt}(h:PS X st t):PS X st (Zx t):=by
 intro pins s Z H D I ht;obtain⟨d,hd,ht⟩:=ht;have h0:=λu v e=>hd u v (I.base.ud d u v e);refine iC (h pins s Z H _ I ht) λf s1 q=>?_;cases f with
 |next=>
  obtain⟨σ',H',J,o,u,e,n⟩:=q;exact{σ',_,J.Nu e h0,n}
 |brk=>exact q
 |cont=>exact q
 |ret u=>
  obtain⟨v,σ',H',J,r,o,u',e,n⟩:=q;exact{v,σ',_,J.Nu e h0,r,n}
section
variable{d:Addr}{o:Obj}{u:HO}{kvs:Aam}
def Ht{g:TG}{tb:TS}{D:Ends}(Pv:Nat->St->Hp->Prop)(h0:Pv 0 Z H)(hl:∀i Z H,i<=kvs.length->Pv i Z H->H d=some (.c6 o u))
  (hs:∀i kv Z H,kvs[i]?=some kv->Pv i Z H->g kv.1 Z H λσ2 H2=>tb {D with nx:=Pv (i+1),ct:=Pv (i+1),bk:=D.nx} σ2 H2) (hd:∀Z H,Pv kvs.length Z H->D.nx Z H):
  ∃W:Nat->Nat->St->Hp->Prop,(∃m,W 0 m Z H)/\∀i m Z H,W i m Z H->
   ((K3 d o u kvs).stop i H/\D.nx Z H)\/((K3 d o u kvs).go i H/\∃N:St->Hp->Prop,(∀σ' H',N σ' H'->∃m',m'<m/\W (i+1) m' σ' H')/\∀x H',(K3 d o u kvs).zU i H x H'->g x Z H' λσ2 H2=>tb {D with nx:=N,ct:=N,bk:=D.nx} σ2 H2):=by
 refine{λi m Z H=>m=kvs.length -i/\i<=kvs.length/\Pv i Z H,{kvs.length,by simp,aP _,h0},?_};rintro i m Z H ⟨rfl,hi,p⟩;have q:=hl i Z H hi p;by_cases bU:i<kvs.length
 ·refine .inr {⟨q,bU⟩,Pv (i+1),λσ' H' p'=>{kvs.length -(i+1),by lia,rfl,bU,p'},λx H' y=>?_};obtain⟨rfl,kv,hk,rfl⟩:=y;exact hs i kv Z _ hk p
 ·have e:i=kvs.length:=by lia
  subst e;exact .inl {{q,ak _},hd Z H p}
def OY(Pv:Nat->Aao->Hp->Prop)(hx:kvs.length<sizeLine)(h0:Pv 0 [] H1)(hl:∀i ys H,i<=kvs.length->Pv i ys H->H d=some (.c6 o u)/\ys.length<=i)
  (hs:∀(i:Nat)(kv:V×V)(ys:Aao)(H:Hp)(N:Aao->Hp->Prop),kvs[i]?=some kv->Pv i ys H->(∀fP H',Pv (i+1) fP H'->N fP H')->
   tt (some kv.1::slotsOf fr Z) H λb H4=>if b=true then te (some kv.1::slotsOf fr Z) H4 (λy H5=>N (ys++[y]) H5)else N ys H4)
  (hd:∀ys H,Pv kvs.length ys H->∀l,H l=none->R l ys H):zS (K3 d o u kvs) fr tt te Z H1 R:=by
 refine{λi m ys H=>m=kvs.length -i/\i<=kvs.length/\Pv i ys H,{kvs.length,by simp,aP _,h0},?_};rintro i m ys H ⟨rfl,hi,p⟩;obtain⟨q,hy⟩:=hl i ys H hi p;by_cases bU:i<kvs.length
 ·refine .inr {⟨q,bU⟩,by lia,?_};rintro v H3 ⟨rfl,kv,iD,rfl⟩;exact hs i kv ys H3 (λfP H'=>∃m',m'<kvs.length -i/\m'=kvs.length -(i+1)/\i+1<=kvs.length/\Pv (i+1) fP H') iD p λfP H' p'=>{_,by lia,rfl,bU,p'}
 ·have e:i=kvs.length:=by lia
  subst e;exact .inl {{q,ak _},by lia,hd ys H p}
end
def KW(K:Frag)(H:Hp):List (Key×V)->List (Key×V)->Prop:=Paired λp q=>p.1=q.1/\∃d,Dt K H d p.2/\Dt K H d q.2/\SeqAt.shaped d=true/\PyData.eqv d d=true
inductive acY(K:Frag)(neg:Bool)(x:V)(y:V)(H:Hp)(Q:VK):Prop
 |mk a b ka kb (_:x=.ref a) (_:y=.ref b) (_:H a=some (.dK ka)) (_:H b=some (.dK kb)) (_:KW K H ka kb) (_:Q (.bl (!neg)) H)
section
variable{X:Cx}
def Yp(hu:X.A.units+96<cLine)(I:Inv X pins Z H s)(nd:(kb.map (·.1)).Nodup):∀{ka kb':List (Key×V)}{va vb:List (Key×Value)},KW X.K H ka kb'->KV ka va->KV kb' vb->(∀p∈vb,p∈kb)->PySem.W.KeqHits X.A.in1 s kb va true:=by
 intro ka kb' va vb h
 induction h generalizing va vb with
 |nil=>
  intro r1 r2 _;cases r1;exact .nil
 |@cons p q ps qs hr _ ih=>
  intro r1 r2 hm;cases r1 with
  |@cons _ a _ as h1 t1=>
   cases r2 with
   |@cons _ b _ bs h2 t2=>
    obtain⟨e,d,d1,d2,sh,ev⟩:=hr;obtain⟨k,v⟩:=a;obtain⟨k',v'⟩:=b;have ek:=h1.1.symm.trans (e.trans h2.1);subst ek;obtain⟨as1,ra⟩:=kW I d p.2 v d1 h1.2;obtain⟨bs1,rb⟩:=kW I d q.2 v' d2 h2.2;have at':=PySem.W.keq_at ra rb sh sh (show X.A.units+1+64<cLine by lia);rw[ev]at at';obtain⟨i,hi⟩:=eT.mp (hm (k,v') ax);exact .hit (valueAt_of_get nd hi) at' (ih t1 t2 λx hx=>hm x (az _ hx))
def aaj(hu:X.A.units+96<cLine):jZ X (compareOp .NotEq) (acY X.K true):=by
 intro pins s Z H x y v u Q I rx ry h;obtain⟨a,b,ka,kb,rfl,rfl,ha,hb,hs,q⟩:=h;cases rx;cases ry;obtain⟨_,la,va,ra,da⟩:=uY I.bj ha;obtain⟨_,lb,vb,rb,db⟩:=uY I.bj hb;have le:va.length=vb.length:=by rw[<-ra.length,<-rb.length];exact hs.length
 refine PySem.W.keq_ne la lb da db ∅ (λ_=>Yp hu I ?_ hs ra rb λ_ h=>h) ?_
 ·obtain⟨_,_,_,_,_,_,_,_,nd⟩:=db;exact nd
 ·rw[le];simp only[BEq.rfl,iF,iG];exact{.bl false,H,I,rfl,q}
def jN(r:Aah):PyData:=.tuple (r.map PyData.str)
def sQ(rows:Aab):PyData:=.list (rows.map jN)
def BK(rows:Aab):Prop:=∀r∈rows,∀z∈r,PyData.strOk z=true
variable{K:Frag}{H:Hp}
def KG(h:∃a,y=.ref a/\bx K H a (r.map V.str)):Dt K H (jN r) y:=by obtain⟨a,rfl,h⟩:=h;unfold jN;rw[Dt];exact{a,_,rfl,h,Fy r}
def OO:∀{ys:Aao}{rows:Aab},fE K H ys rows->kU K H (rows.map jN) ys:=by
 intro ys rows h
 induction h with
 |nil=>rw[jl,kU]
 |cons hr _ ih=>
  rw[aR,kU];exact{_,_,rfl,KG hr,ih}
def yw(h:bo K H p ys)(hr:fE K H ys rows):Dt K H (sQ rows) (.ref p):=by unfold sQ;rw[Dt];exact{p,ys,rfl,h,OO hr}
def M6(r t:Aah):PyData.eqv (jN r) (jN t)=decide (r=t):=by unfold jN;rw[PyData.eqv,Di]
theorem Dj:∀a b:Aab,PyData.eqvAll (a.map jN) (b.map jN)=decide (a=b)
 |[],[]=>by simp[PyData.eqvAll]
 |[],_::_=>by simp[PyData.eqvAll]
 |_::_,[]=>by simp[PyData.eqvAll]
 |a::r,b::t=>by simp only[aR,PyData.eqvAll,M6,Dj r t];by_cases h:a=b<;>by_cases h':r=t<;>simp[h,h']
def KD(a b:Aab):PyData.eqv (sQ a) (sQ b)=decide (a=b):=by unfold sQ;rw[PyData.eqv,Dj]
theorem D7:∀rows:Aab,BK rows->PyData.canLayAll0 (rows.map jN)=true
 |[],_=>rfl
 |z::r,h=>by have h1:(jN z).canLay0=true:=zk z (h z ax);have h2:=D7 r λy hy=>h y (az _ hy);simp[PyData.canLayAll0,h1,h2]
theorem FA:∀rows:Aab,PyData.depthAll (rows.map jN)<=1
 |[]=>by simp[PyData.depthAll]
 |z::r=>by
  have h1:(jN z).depth=1:=by simp[jN,PyData.depth,qY]
  have:=FA r;simp[PyData.depthAll,h1];lia
def xk(h:BK rows):SeqAt.shaped (sQ rows)=true:=by have:=FA rows;simp[SeqAt.shaped,sQ,PyData.canLay0,PyData.depth,D7 rows h];lia
def NB(h:∀z∈r,PyData.strOk z=true):SeqAt.shaped (jN r)=true:=by simp[SeqAt.shaped,jN,PyData.canLay0,PyData.depth,zk r h,qY]
end
def fE.keep{K:Frag}(h:fE K H ys rows)(k:∀a xs,bx K H a xs->bx K H' a xs):fE K H' ys rows:=by
 induction h with
 |nil=>exact .nil
 |cons hr _ ih=>
  obtain⟨a,e,hr⟩:=hr;exact .cons {a,e,k _ _ hr} ih
inductive NK:Type
 |cI
 |key (k:Key)
 |tup (ks:List NK)
noncomputable instance:DecidableEq NK:=λa b=>Classical.propDecidable (a=b)
section
variable(P:Program)(w:World)
mutual
inductive k9(h:Heap):NK->Value->Prop
 |cI:k9 h .cI .none
 |key {k:Key} {v:Value}:(bz P w).is k v=true->k9 h (.key k) v
 |tup {ks:List NK} {a:Addr} {o:Obj} {items:Aal} {n:Nat}:h.get? a=some o->o.cls=.type "tuple"->o.data=.seq items n->lO h ks items.toList->k9 h (.tup ks) (.ref a)
inductive lO(h:Heap):List NK->Aag->Prop
 |nil:lO h [] []
 |cons {k:NK} {v:Value} {ks:List NK} {vs:Aag}:k9 h k v->lO h ks vs->lO h (k::ks) (v::vs)
end
mutual
def NK.hash:NK->Int
 | .cI=>0xFCA86420
 | .key k=>(bz P w).hash k
 | .tup ks=>reduceHash (Builtin.Tuple.tupleHashOf (NK.hashes ks))
def NK.hashes:List NK->List Int
 |[]=>[]
 |k::ks=>NK.hash k::NK.hashes ks
end
mutual
def NK.draws:NK->Nat
 | .cI=>1
 | .key _=>1
 | .tup ks=>NK.nQ ks+1
def NK.nQ:List NK->Nat
 |[]=>0
 |k::ks=>NK.draws k+NK.nQ ks
end
mutual
def NK.deep:NK->Nat
 | .cI=>0
 | .key _=>0
 | .tup ks=>NK.oH ks+1
def NK.oH:List NK->Nat
 |[]=>0
 |k::ks=>max (NK.deep k) (NK.oH ks)
end
end
section
variable{P:Program}{w:World}{A:Around}{E:Aae}{s:Shared}
def OD(q:Q 0xFCA86420 {s with toks:=s.toks+1}):wpAny (-25) A (pyHash .none) Q E s:=by have ty:s.TypeIs .none "NoneType":=rfl;unfold pyHash pyHashByItsType;refine ae (wpAny_cRoomFor_byValue rfl (ae (hG ty jE.lookup ?_)));rw[au (by rw[beq_builtin_none];exact aU)];refine ae (hG ty jE.lookup ?_);refine ae (wpAny_callSpecialIfBoundUnlessNone?_slot ty jE (bq jE ty PySem.F.entry_NoneType_hash (show wpAny _ _ (do ret (<-mkInt 0xFCA86420)) _ _ s from wpAny_ret_mkInt ?_) (PySem.F.args_NoneType_hash_1 _)));exact af q
def NK.UN(ks:List NK):NK.hash P w (.tup ks)=reduceHash (Builtin.Tuple.tupleHashOf (NK.hashes P w ks)):=by rw[NK.hash]
def RH(hu:A.units<cLine)(ho:s.heap.get? a=some o)(hc:o.cls=.type "tuple")(hd:o.data=.seq items n)(hi:lO P w s.heap ks items.toList)
  (ih:∀(A':Around)(k:NK)(v:Value)(t:Nat)(E':Aae)(R:Int->Shared->Prop),A'.units<=A.units+4->k∈ks->k9 P w s.heap k v->R (NK.hash P w k) {s with toks:=t+NK.draws k}->wpAny (-25) A' (pyHash v) R E' {s with toks:=t})
  (h:Q (NK.hash P w (.tup ks)) {s with toks:=s.toks+NK.draws (.tup ks)}):wpAny (-25) A (pyHash (-49)) Q E s:=by
 have hT:s.TypeIs (-49) "tuple":=⟨o,ho,hc⟩;unfold pyHash pyHashByItsType;refine ae (wpAny_cRoomFor_or (.inr hu) ?_);refine ae (hG hT lA.lookup ?_);rw[au (by rw[beq_builtin_none];exact aU)];refine ae (hG hT lA.lookup ?_);refine ae (wpAny_callSpecialIfBoundUnlessNone?_slot hT lA (bq lA hT F.entry_tuple_hash ?_ (F.args_tuple_hash_1 _)));show wpAny _ _ (Builtin.Tuple.tupleItemsOf (-49)>>=_) _ _ s;refine ae (wpAny_tupleItemsOf ho hd ?_);refine ae ?_;rw[<-ox];refine j9 _
  (λrest(b:Array Int) s'=>∃done left,ks=done++left/\lO P w s.heap left rest/\b.toList=NK.hashes P w done/\s'={s with toks:=s.toks+NK.nQ done})
  _ ?_ ?_ _ _ {[],ks,rfl,hi,by simp[NK.hashes],by simp[NK.nQ]}
 ·rintro x rest b s' ⟨done,left,e,hl,hb,rfl⟩;cases hl with
  |@cons k _ ks' _ h1 pG=>
   have e2:NK.hashes P w (done++[k])=NK.hashes P w done++[NK.hash P w k]:=by
    clear e hb
    induction done with
    |nil=>simp[NK.hashes]
    |cons a r Q2=>simp only[iW,NK.hashes,Q2]
   have e3:NK.nQ (done++[k])=NK.nQ done+NK.draws k:=by
    clear e hb e2
    induction done with
    |nil=>simp[NK.nQ]
    |cons a r Q2=>simp only[iW,NK.nQ,Q2];lia
   refine ae (ih _ k x _ _ _ ?_ (by rw[e];simp) h1 ?_)
   ·show A.units+1<=A.units+4;lia
   ·exact af {done++[k],ks',by rw[e];simp,pG,by simp[hb,e2],by rw[e3,pZ]}
 ·rintro b s' ⟨done,left,rfl,hl,hb,rfl⟩;cases hl;rw[cu]at h;show wpAny _ _ (retInt (Builtin.Tuple.tupleHashOf b.toList)) _ _ _;rw[hb];refine wpAny_ret_mkInt ?_;show wpAny _ _ (if(decide (-(2:Int)^63<=Builtin.Tuple.tupleHashOf (NK.hashes P w done))&&decide (Builtin.Tuple.tupleHashOf (NK.hashes P w done)<2^63))=true then _ else _) Q E _;rw[NK.UN,NK.draws]at h;unfold reduceHash at h;by_cases hr:(decide (-(2:Int)^63<=Builtin.Tuple.tupleHashOf (NK.hashes P w done))&&decide (Builtin.Tuple.tupleHashOf (NK.hashes P w done)<2^63))=true
  ·rw[aD hr];rw[aD hr]at h;exact af (by simpa[pZ]using h)
  ·rw[au hr];rw[au hr]at h;exact ae (fQ (af (by simpa[pZ]using h)))
mutual
theorem RJ:∀(k:NK)(A:Around)(E:Aae)(s:Shared)(v:Value)(Q:Int->Shared->Prop),A.units+4*NK.deep k<cLine->k9 P w s.heap k v->Q (NK.hash P w k) {s with toks:=s.toks+NK.draws k}->wpAny (-25) A (pyHash v) Q E s
 | .cI,A,E,s,v,Q,hu,r,q=>by cases r;rw[NK.hash,NK.draws]at q;exact OD q
 | .key k,A,E,s,v,Q,hu,r,q=>by
  cases r with
  |key h=>
   rw[NK.hash,NK.draws]at q;exact(bz P w).pyHash h q
 | .tup ks,A,E,s,v,Q,hu,r,q=>by
  cases r with
  |tup ho hc hd hi=>
   rw[NK.deep]at hu;exact RH ∅ ho hc hd hi (λA' k v t E' R hA hk r q=>Ks ks k hk A' E' {s with toks:=t} v R ∅ r q) q
theorem Ks:∀(ks:List NK)(k:NK),k∈ks->∀(A:Around)(E:Aae)(s:Shared)(v:Value)(Q:Int->Shared->Prop),A.units+4*NK.oH ks<cLine->k9 P w s.heap k v->Q (NK.hash P w k) {s with toks:=s.toks+NK.draws k}->wpAny (-25) A (pyHash v) Q E s
 |[],k,h,A,E,s,v,Q,hu,r,q=>by cases h
 |k0::ks,k,h,A,E,s,v,Q,hu,r,q=>by
  rw[NK.oH]at hu;rcases aG.mp h with e|h
  ·rw[e]at r q;exact RJ k0 A E s v Q ∅ r q
  ·exact Ks ks k h A E s v Q ∅ r q
end
end
section
variable{P:Program}{w:World}
mutual
theorem Mf:∀(k:NK)(n:Nat)(A:Around)(E:Aae)(s:Shared)(v:Value)(Q:Bool->Shared->Prop),k9 P w s.heap k v->NK.deep k<=n->Q true s->wpAny (-25) A (eqIsQuiet n v) Q E s
 | .cI,n,A,E,s,v,Q,r,_,q=>by cases r;rw[CA n rfl];exact af q
 | .key k,n,A,E,s,v,Q,r,_,q=>by
  cases r with
  |key h=>
   rw[CA n ((bz P w).byValue _ _ h)];exact af q
 | .tup ks,0,A,E,s,v,Q,r,hn,q=>by rw[NK.deep]at hn;exact absurd hn ∅
 | .tup ks,n+1,A,E,s,v,Q,r,hn,q=>by
  cases r with
  |@tup _ a o items m ho hc hd hi=>
   rw[NK.deep]at hn;have hT:s.TypeIs (-49) "tuple":=⟨o,ho,hc⟩;unfold eqIsQuiet;refine ae (hG hT F.slot_tuple_eq.lookup ?_);show wpAny _ _ (isInstance (-49) (.type "tuple")>>=_) _ _ s;refine ae (fY hT isSubtype_tuple_tuple ?_);simp only[iG,cb,dJ];refine ae (bW ho hd ?_);refine ae ?_;show wpAny _ _ (forIn items _ _) _ _ s;rw[<-ox];refine j9 _ (λrest r s'=>r.1=none/\s'=s/\∃left,lO P w s.heap left rest/\∀k∈left,k∈ks) _ ?_ ?_ _ _ {rfl,rfl,ks,hi,λ_ h=>h}
   ·rintro v rest r s' ⟨hr,rfl,left,hl,hm⟩;cases hl with
    |@cons k _ ks' _ h1 pG=>
     refine ae (GR ks k (hm k ax) n _ _ _ v _ h1 ∅ ?_);simp only[iG,cb,dJ];exact af {rfl,rfl,ks',pG,λk' Hm=>hm k' (az _ Hm)}
   ·rintro⟨r1,r2⟩ s' ⟨hr,rfl,_⟩;simp only at hr;subst hr;exact af q
theorem GR:∀(ks:List NK)(k:NK),k∈ks->∀(n:Nat)(A:Around)(E:Aae)(s:Shared)(v:Value)(Q:Bool->Shared->Prop),k9 P w s.heap k v->NK.oH ks<=n->Q true s->wpAny (-25) A (eqIsQuiet n v) Q E s
 |[],k,h,n,A,E,s,v,Q,r,hn,q=>by cases h
 |k0::ks,k,h,n,A,E,s,v,Q,r,hn,q=>by
  rw[NK.oH]at hn;rcases aG.mp h with e|h
  ·rw[e]at r;exact Mf k0 n A E s v Q r ∅ q
  ·exact GR ks k h n A E s v Q r ∅ q
end
mutual
def NK.toD:NK->PyData
 | .cI=>.none
 | .key (.inl i)=>.int i
 | .key (.inr z)=>.str z
 | .tup ks=>.tuple (NK.mO ks)
def NK.mO:List NK->List PyData
 |[]=>[]
 |k::ks=>NK.toD k::NK.mO ks
end
mutual
theorem F3:∀(k:NK){h:Heap}{v:Value},k9 P w h k v->∃as,Reads h v (NK.toD k) as
 | .cI,h,v,r=>by cases r;rw[NK.toD];exact{_,.none}
 | .key (.inl i),h,v,r=>by
  cases r with
  |key q=>
   obtain⟨t,rfl⟩:=(show RelV (.int i) v from ve (k:=Sum.inl i) q);rw[NK.toD];exact{_,.int i t}
 | .key (.inr z),h,v,r=>by
  cases r with
  |key q=>
   obtain⟨t,rfl⟩:=(show RelV (.str z) v from ve (k:=Sum.inr z) q);rw[NK.toD];exact{_,.str z t}
 | .tup ks,h,v,r=>by
  cases r with
  |tup ho hc hd hi=>
   obtain⟨as,q⟩:=IY ks hi;rw[NK.toD];exact{_,.tuple ho hc hd q}
theorem IY:∀(ks:List NK){h:Heap}{vs:Aag},lO P w h ks vs->∃as,ReadsAll h vs (NK.mO ks) as
 |[],h,vs,r=>by cases r;rw[NK.mO];exact{_,.nil}
 |k::ks,h,vs,r=>by
  cases r with
  |cons r1 r2=>
   obtain⟨as,q1⟩:=F3 k r1;obtain⟨bs,q2⟩:=IY ks r2;rw[NK.mO];exact{_,.cons q1 q2}
end
mutual
theorem WS:∀(x y:NK),PyData.eqv (NK.toD x) (NK.toD y)=true↔x=y
 | .cI,.cI=>by simp[NK.toD,PyData.eqv]
 | .cI,.key (.inl _)=>by simp[NK.toD,PyData.eqv]
 | .cI,.key (.inr _)=>by simp[NK.toD,PyData.eqv]
 | .cI,.tup _=>by simp[NK.toD,PyData.eqv]
 | .key (.inl _),.cI=>by simp[NK.toD,PyData.eqv]
 | .key (.inl i),.key (.inl j)=>by simp[NK.toD,PyData.eqv]
 | .key (.inl _),.key (.inr _)=>by simp[NK.toD,PyData.eqv]
 | .key (.inl _),.tup _=>by simp[NK.toD,PyData.eqv]
 | .key (.inr _),.cI=>by simp[NK.toD,PyData.eqv]
 | .key (.inr _),.key (.inl _)=>by simp[NK.toD,PyData.eqv]
 | .key (.inr a),.key (.inr b)=>by simp[NK.toD,PyData.eqv]
 | .key (.inr _),.tup _=>by simp[NK.toD,PyData.eqv]
 | .tup _,.cI=>by simp[NK.toD,PyData.eqv]
 | .tup _,.key (.inl _)=>by simp[NK.toD,PyData.eqv]
 | .tup _,.key (.inr _)=>by simp[NK.toD,PyData.eqv]
 | .tup xs,.tup ys=>by rw[NK.toD,NK.toD,PyData.eqv,RZ xs ys];exact{cc NK.tup,λh=>by injection h}
theorem RZ:∀(xs ys:List NK),PyData.eqvAll (NK.mO xs) (NK.mO ys)=true↔xs=ys
 |[],[]=>by simp[NK.mO,PyData.eqvAll]
 |[],_::_=>by simp[NK.mO,PyData.eqvAll]
 |_::_,[]=>by simp[NK.mO,PyData.eqvAll]
 |x::xs,y::ys=>by rw[NK.mO,NK.mO,PyData.eqvAll,cE,WS x y,RZ xs ys];simp
end
def C5(h:(bz P w).is k (-49)=true):False:=by have:=(bz P w).byValue _ _ h;cases this
def Bi(h:(bz P w).is k .none=true):False:=by
 have:=ve (k:=k) h;cases k with
 |inl i=>obtain⟨t,e⟩:=(show∃t,Value.none=Value.int i t from this);cases e
 |inr z=>obtain⟨t,e⟩:=(show∃t,Value.none=Value.str z t from this);cases e
mutual
theorem V8:∀(x y:NK){h:Heap}{v:Value},k9 P w h x v->k9 P w h y v->x=y
 | .cI,y,h,v,r1,r2=>by
  cases r1;cases r2 with
  |cI=>rfl
  |key q=>exact(Bi q).elim
 | .key k,y,h,v,r1,r2=>by
  cases r1 with
  |key q=>
   cases r2 with
   |cI=>exact(Bi q).elim
   |key q2=>rw[(bz P w).inj _ _ _ q q2]
   |tup=>exact(C5 q).elim
 | .tup ks,y,h,v,r1,r2=>by
  cases r1 with
  |tup ho hc hd hi=>
   cases r2 with
   |key q=>exact(C5 q).elim
   |@tup ks2 _ o2 yc n2 Ad yq hd2 Ww=>
    rw[ho]at Ad;cases Ad;rw[hd]at hd2;injection hd2 with e1 _;subst e1;rw[QX ks ks2 hi Ww]
theorem QX:∀(xs ys:List NK){h:Heap}{vs:Aag},lO P w h xs vs->lO P w h ys vs->xs=ys
 |[],ys,h,vs,r1,r2=>by cases r1;cases r2;rfl
 |x::xs,ys,h,vs,r1,r2=>by
  cases r1 with
  |cons a b=>
   cases r2 with
   |@cons y _ ys _ c d=>rw[V8 x y a c,QX xs ys b d]
end
mutual
theorem QR(h h':Heap)(k:∀b o,(∀es ep,o.data≠ .dict es ep)->h.get? b=some o->h'.get? b=some o):∀(x:NK){v:Value},k9 P w h x v->k9 P w h' x v
 | .cI,v,r=>by cases r;exact .cI
 | .key _,v,r=>by
  cases r with
  |key q=>exact .key q
 | .tup ks,v,r=>by
  cases r with
  |tup ho hc hd hi=>exact .tup (k _ _ (λes ep e=>by rw[hd]at e;cases e) ho) hc hd (MC h h' k ks hi)
theorem MC(h h':Heap)(k:∀b o,(∀es ep,o.data≠ .dict es ep)->h.get? b=some o->h'.get? b=some o):∀(xs:List NK){vs:Aag},lO P w h xs vs->lO P w h' xs vs
 |[],vs,r=>by cases r;exact .nil
 |x::xs,vs,r=>by
  cases r with
  |cons a b=>exact .cons (QR h h' k x a) (MC h h' k xs b)
end
def abA(P:Program)(w:World)(h:Heap)(k:NK)(a:Addr):Prop:=k9 P w h k (-49)/\(NK.toD k).canLay0=true/\(NK.toD k).depth<=7/\NK.deep k<=7
noncomputable def nN(P:Program)(w:World):HeapKind P w NK where
 is:=abA P w
 hash:=NK.hash P w
 draws:=NK.draws
 room:=λA=>A.units+100<cLine
 inj:=λhx hy=>V8 _ _ hx.1 hy.1
 keeps:=λx ho hd hs=>{QR _ _ (λb o' n e=>by refine(hs.2 b ?_).trans e;rintro rfl;rw[ho]at e;cases e;exact n _ _ hd) _ x.1,x.2}
 pyHash:=λhu hk h=>RJ _ _ _ _ _ _ (by have:=hk.2.2.2;lia) hk.1 h
 eqBool:=λ{A E s x y a b Q} hu hx hy h=>by
  obtain⟨as,r1⟩:=F3 x hx.1;obtain⟨bs,r2⟩:=F3 y hy.1;have e:PyData.eqv (NK.toD x) (NK.toD y)=decide (x=y):=by rw[iu,WS,nR]
  have:=SeqAt.eqAt_reads _ _ A s _ _ as bs r1 r2 hx.2.1 hy.2.1 (by have:=hx.2.2.1;have:=Nat.min_le_left (NK.toD x).depth (NK.toD y).depth;lia);rw[e]at this;exact this P w E Q h
 quiet:=λhk h=>Mf _ 8 _ _ _ _ _ hk.1 (by have:=hk.2.2.2;lia) h
end
def DN(P:Program)(w:World)(d:Addr)(kvs:List (-44)):Heap->Prop:=λh=>(d==sysModules)=false/\∃xs:List (NK×Addr×Value),Paired (-10) kvs xs/\kvs.length<=10000000/\
 ∃o es ep,h.get? d=some o/\o.ExactDict/\o.data=.dict es ep/\es.toList=xs.map (entryOfKey (nN P w))/\(xs.map (·.1)).Nodup
def OP(x:DN P w d kvs h):dC P w H h d (.ext (DN P w d kvs)):=
 {x,let⟨_,_,_,_,o,_,_,q,_⟩:=x;⟨o,q⟩,λ_ _ ⟨l,xs,p,n,o,es,ep,q,r⟩ k=>{l,xs,p,n,o,es,ep,k _ q,r}}
mutual
def NV(K:Frag)(H:Hp):NK->V->Prop
 | .cI,v=>v=.cI
 | .key k,v=>v=kV k
 | .tup ks,v=>∃a xs,v=.ref a/\bx K H a xs/\pQ K H ks xs
def pQ(K:Frag)(H:Hp):List NK->Aao->Prop
 |[],xs=>xs=[]
 |k::ks,xs=>∃x r,xs=x::r/\NV K H k x/\pQ K H ks r
end
section
variable{X:Cx}{pins:Aac}{Z:St}{H:Hp}{s:Shared}
mutual
theorem JC(I:Inv X pins Z H s):∀(k:NK)(v:V)(u:Value),NV X.K H k v->RelV v u->k9 X.prog X.w s.heap k u
 | .cI,v,u,h,r=>by rw[NV]at h;subst h;cases(show u=Value.none from r);exact .cI
 | .key k,v,u,h,r=>by rw[NV]at h;subst h;exact .key (uT r)
 | .tup ks,v,u,h,r=>by rw[NV]at h;obtain⟨a,xs,rfl,hq,ha⟩:=h;cases r;obtain⟨aX,rv,⟨o,e,c,n,d⟩,_⟩:=I.tuple hq;exact .tup e c d (by simpa using G0 I ks xs aX ha rv)
theorem G0(I:Inv X pins Z H s):∀(ks:List NK)(xs:Aao)(us:Aag),pQ X.K H ks xs->Vals xs us->lO X.prog X.w s.heap ks us
 |[],xs,us,h,r=>by rw[pQ]at h;subst h;cases r;exact .nil
 |k::ks,xs,us,h,r=>by
  rw[pQ]at h;obtain⟨x,t,rfl,h1,h2⟩:=h;cases r with
  |cons r1 r2=>exact .cons (JC I k x _ h1 r1) (G0 I ks t _ h2 r2)
end
def W4(k:NK):Prop:=(NK.toD k).canLay0=true/\(NK.toD k).depth<=7/\NK.deep k<=7
end
def jm(K:Frag)(H:Hp)(k:NK)(a:Addr):Prop:=NV K H k (-49)/\W4 k
def fH(P:Program)(w:World)(K:Frag)(H:Hp)(a:Addr)(kvs:List (-44)):Prop:=(H a=some (.ext (DN P w a kvs))\/(kvs=[]/\H a=some (.dK [])))/\∀p∈kvs,jm K H p.1 p.2.1
def valN(kvs:List (-44))(k:NK):Aap:=(kvs.find? λp=>decide (p.1=k)).map (·.2.2)
def putN(kvs:List (-44))(k:NK)(a:Addr)(v:V):List (-44):=if(valN kvs k).isSome then kvs.map (λp=>if p.1=k then(p.1,p.2.1,v)else p)else kvs++[(k,a,v)]
def xP(rel:Paired (-10) kvs xs)(k:NK):lM (valN kvs k) ((atKey xs k).map (·.2)):=by
 unfold valN atKey
 induction rel with
 |nil=>exact trivial
 |@cons p q ps qs h _ ih=>
  by_cases c:p.1=k
  ·rw[gJ (p:=λp:NK×Addr×V=>decide (p.1=k)) (ba c),gJ (p:=λx:NK×Addr×Value=>decide (x.1=k)) (ba (h.1.symm.trans c))];exact h.2.2
  ·rw[gK (p:=λp:NK×Addr×V=>decide (p.1=k)) (λd=>c (bw d)),gK (p:=λx:NK×Addr×Value=>decide (x.1=k)) (λd=>c (h.1.trans (bw d)))];exact ih
section
variable{X:Cx}{pins:Aac}{Z:St}{H:Hp}{s:Shared}{A:Around}{E:Aae}{a b:Addr}{kvs:List (NK×Addr×V)}{k:NK}{v:V}
def Inv.D9(I:Inv X pins Z H s)(h:jm X.K H k b):(nN X.prog X.w).is s.heap k b:={JC I k (.ref b) (.ref b) h.1 rfl,h.2}
def Inv.qX(I:Inv X pins Z H s)(h:fH X.prog X.w X.K H a kvs):(a==sysModules)=false/\∃xs,Paired (-10) kvs xs/\kvs.length<=10000000/\s.heap.DictOfH (nN X.prog X.w) a xs:=by
 obtain⟨h1,h2⟩:=h;have keys:∀{l:List (-44)}{xs:List (NK×Addr×Value)},Paired (-10) l xs->(∀p∈l,jm X.K H p.1 p.2.1)->∀x∈xs,(nN X.prog X.w).is s.heap x.1 x.2.1:=λr=>by
  induction r with
  |nil=>intro _ x hx;cases hx
  |@cons p q ps qs h _ ih=>
   intro hk x hx;rcases aG.mp hx with rfl|hx
   ·rw[<-h.1,<-h.2.1];exact I.D9 (hk p ax)
   ·exact ih (λp hp=>hk p (az _ hp)) x hx
 rcases h1 with h1|⟨rfl,h1⟩
 ·obtain⟨⟨lo,xs,rel,hl,o,es,ep,g,hx,hd,he,nd⟩,_⟩:=(show dC X.prog X.w H s.heap a (.ext (DN X.prog X.w a kvs))from I.bj a _ h1);exact{lo,xs,rel,hl,o,es,ep,g,hx,hd,he,keys rel h2,nd}
 ·obtain⟨_,lo,vs,rel,o,es,ep,g,hx,hd,_,hp,_⟩:=uY I.bj h1;unfold KV at rel;cases rel;have e0:es.toList=[]:=by have:=hp.length;exact gu.mp this
  exact{lo,[],.nil,aP _,o,es,ep,g,hx,hd,by rw[e0];rfl,λx h=>(by cases h),lQ}
def abv(hu:A.units+101<cLine)(I:Inv X pins Z H s)(h:fH X.prog X.w X.K H a kvs)(hk:jm X.K H k b)(hv:valN kvs k=some v)(q:∀w' s',Inv X pins Z H s'->RelV v w'->Q w' s'):wpAny (-4) A (getItem (-49) (.ref b)) Q E s:=by obtain⟨lo,xs,rel,hl,dd⟩:=I.qX h;obtain⟨w',hw,pq⟩:=lM.some_of (by rw[<-hv];exact xP rel k);obtain⟨p,hp,wU⟩:=a9.mp hw;refine Ax (show A.units+1+100<cLine by lia) (I.D9 hk) dd hp ?_;rw[wU];exact q w' _ (I.tok _) pq
def UY(hu:A.units+101<cLine)(I:Inv X pins Z H s)(h:fH X.prog X.w X.K H a kvs)(hk:jm X.K H k b)(q:∀s',Inv X pins Z H s'->Q (.bool (!(valN kvs k).isSome)) s'):wpAny (-4) A (compareOp .NotIn (.ref b) (-49)) Q E s:=by obtain⟨lo,xs,rel,hl,dd⟩:=I.qX h;refine wpAny_notIn_heap (show A.units+1+100<cLine by lia) (I.D9 hk) lo dd ?_;have e:=(xP rel k).tK;rw[jI]at e;rw[<-e];exact q _ (I.tok _)
def DR(rel:Paired (-10) kvs xs)(rv:RelV v r):Paired (-10) (putN kvs k b v) (storedH xs k b r):=by
 have e:=(xP rel k).tK;rw[jI]at e;unfold putN storedH;rw[e];split
 next hs=>
  clear e hs
  induction rel with
  |nil=>exact .nil
  |@cons p q ps qs h _ ih=>
   refine .cons ?_ ih;unfold putAt;show(if p.1=k then(p.1,p.2.1,v)else p).1=(if q.1=k then(q.1,q.2.1,r)else q).1/\(if p.1=k then(p.1,p.2.1,v)else p).2.1=(if q.1=k then(q.1,q.2.1,r)else q).2.1/\RelV (if p.1=k then(p.1,p.2.1,v)else p).2.2 (if q.1=k then(q.1,q.2.1,r)else q).2.2;by_cases c:p.1=k
   ·rw[aD c,aD (h.1.symm.trans c)];exact{h.1,h.2.1,rv}
   ·rw[au c,au (λd=>c (h.1.trans d))];exact h
 next=>exact jY rel ⟨rfl,rfl,rv⟩
def sd:(putN kvs k b v).length<=kvs.length+1:=by
 unfold putN;split
 ·rw[ag];lia
 ·rw[aK];exact ak _
def abt(hu:A.units+101<cLine)(I:Inv X pins Z H s)(h:fH X.prog X.w X.K H a kvs)(hk:jm X.K H k b)(pF:kvs.length<10000000)(rv:RelV v r)
  (q:∀s',Inv X pins Z (upd H a (.ext (DN X.prog X.w a (putN kvs k b v)))) s'->Q () s'):wpAny (-4) A (setItem (-49) (.ref b) r) Q E s:=by
 obtain⟨lo,xs,rel,hl,dd⟩:=I.qX h;have lx:xs.length<=sizeLine:=by rw[<-rel.length,cP];lia
 refine Aw (show A.units+1+100<cLine by lia) (I.D9 hk) dd λh' rO hs=>q _ ?_;obtain⟨o,es,ep,g,h2,h3,h4,_,h5⟩:=rO;have lp:=sd (kvs:=kvs) (k:=k) (b:=b) (v:=v);refine sC I ?_ hs ⟨o,g⟩ (OP {lo,_,DR rel rv,by lia,o,es,ep,g,h2,h3,h4,h5});rcases h.1 with e|⟨_,e⟩<;>rw[e]<;>exact True.intro
end
inductive Xm(P:Program)(w:World)(K:Frag)(Q:VK)(x:V)(y:V)(H2:Hp):Prop
 |mk a b kvs k v (_:x=.ref a) (_:y=.ref b) (_:fH P w K H2 a kvs) (_:jm K H2 k b) (_:valN kvs k=some v) (_:Q v H2)
def Iu(P:Program)(w:World)(K:Frag)(td ty:TE):TE:=λZ H Q=>td Z H λx H1=>ty Z H1 λy H2=>Xm P w K Q x y H2
inductive acW(P:Program)(w:World)(K:Frag)(neg:Bool)(x:V)(y:V)(H:Hp)(Q:VK):Prop
 |mk a b kvs k (_:x=.ref b) (_:y=.ref a) (_:fH P w K H a kvs) (_:jm K H k b) (_:Q (.bl (if neg then !(valN kvs k).isSome else(valN kvs k).isSome)) H)
inductive Xx(P:Program)(w:World)(K:Frag)(D:Ends)(Z:St)(v:V)(x:V)(y:V)(H3:Hp):Prop
 |mk a b kvs k (_:x=.ref a) (_:y=.ref b) (_:fH P w K H3 a kvs) (_:jm K H3 k b) (_:kvs.length<10000000) (_:D.nx Z (upd H3 a (.ext (DN P w a (putN kvs k b v)))))
def ZO(P:Program)(w:World)(K:Frag)(td ty tv:TE):TS:=λD Z H=>tv Z H λv H1=>td Z H1 λx H2=>ty Z H2 λy H3=>Xx P w K D Z v x y H3
section
variable{X:Cx}{o i value:Expr}{pos pos':Pos}{td ty tv:TE}
def abI(I:Inv X pins Z H s)(h:fH X.prog X.w X.K H a kvs):s.TypeIs (-49) "dict":=by obtain⟨_,_,_,_,o,_,_,g,hx,_⟩:=I.qX h;exact{o,g,hx.1}
def Jm(hu:X.A.units+101<cLine)(ho:PE X o td)(hi:PE X i ty)(hs:O9 i):PE X (.Subscript o i pos) (Iu X.prog X.w X.K td ty):=by intro pins s Z H Q I h;refine LZ PySem.F.slot_dict_getitem.lookup hs (cX (ho pins s Z H _ I h) λu s1 x H1 I1 rx q1=>cX (hi pins s1 Z H1 _ I1 q1) λiv s2 y H2 I2 ry adw=>?_);obtain⟨a,b,kvs,k,v,ex,ey,g,hk,hv,q2⟩:=adw;subst ex ey;obtain rfl:u=Value.ref a:=rx;obtain rfl:iv=Value.ref b:=ry;exact{abI I2 g,abv hu I2 g hk hv λw' s3 I3 pq=>⟨v,H2,I3,pq,q2⟩}
def Qg(hu:X.A.units+101<cLine):jZ X (compareOp .NotIn) (acW X.prog X.w X.K true):=by intro pins s Z H x y v u Q I rx ry h;obtain⟨a,b,kvs,k,rfl,rfl,g,hk,q⟩:=h;cases rx;cases ry;exact UY hu I g hk λs' I'=>{.bl _,H,I',rfl,q}
def DT(hu:X.A.units+101<cLine)(ho:PE X o td)(hi:PE X i ty)(hv:PE X value tv)(hs:swapsWith value (some (.Subscript o i pos')) pos.line X.env=pure false):
  PS X (.Assign [.Subscript o i pos'] value pos) (ZO X.prog X.w X.K td ty tv):=by
 intro pins s Z H D I h;refine xg (cX (hv pins s Z H _ I h) λr s1 v H1 I1 rv q1=>cX (ho pins s1 Z H1 _ I1 q1) λu s2 x H2 I2 rx q2=>cX (hi pins s2 Z H2 _ I2 q2) λiv s3 y H3 I3 ry adu=>?_) hs;obtain⟨a,b,kvs,k,ex,ey,g,hk,hl,q⟩:=adu;subst ex ey;obtain rfl:u=Value.ref a:=rx;obtain rfl:iv=Value.ref b:=ry;exact abt hu I3 g hk hl rv λs4 I4=>⟨Z,_,I4,q⟩
def O4:jU X (.type "dict") (λxs H Q=>∃a kvs,xs=[.ref a]/\Rd H a (.dK kvs)/\∀p,H p=none->Q (.ref p) (upd H p (.dK kvs))):=by intro pins s Z H xs us Q I r h;obtain⟨a,kvs,rfl,ha,q⟩:=h;obtain⟨u,rfl,ru⟩:=l9 r;cases ru;exact U2 I ha λp s' hp I'=>{.ref p,_,I',rfl,q p hp}
end
end L2
namespace L2
open PySem PySem.Spec PyProof.Rows
structure aeA(X:Cx)(scope:Scope)(x:Str)(fs:Aah)(fr:List Nat):Prop where
 kind:scope.kind=.function
 loc:scope.names.lookup x=some .cell
 names:∀y∈scope.names,y.2=.local->scope.names.lookup y.1=some .local
 one:∃a b,scope.names=a++(x,.cell)::b/\(∀y∈a,y.2≠ .cell)/\∀y∈b,y.2≠ .cell
 free:∀n∈frees scope,X.env.kindOf n=some .cell/\scope.names.lookup n=some .free
 nd:(x::fs).Nodup
 len:fr.length=fs.length
 slots:∀(j:Nat)(y:Str)(k:Nat),fs[j]?=some y->fr[j]?=some k->X.N[k]?=some y/\y∈frees scope
end L2
namespace L2
open PySem PySem.Spec PyProof.Rows Dy
section
variable{prog:Program}{w:World}{κ:Type}[DecidableEq κ]{kd:HeapKind prog w κ}{A:Around}{E:Aae}{s:Shared}
def EN(hu:kd.room A)(lH:kd.is s.heap k a)(hm:s.heap.DictOfH kd d xs)
  (h1:∀p,atKey xs k=some p->Q p.2 {s with toks:=s.toks+kd.draws k})
  (h2:atKey xs k=none->∀h',h'.DictOfH kd d (storedH xs k a v)->Heap.SameBut d s.heap h'->Q v {s with heap:=h',toks:=s.toks+kd.draws k}) (hsz:xs.length<=sizeLine):
  wpAny (-5) A (dictSetDefault d (-49) v) Q E s:=by
 obtain⟨o,es,ep,ho,hc,hd,he,his,hn⟩:=hm;unfold dictSetDefault
 try with_reducible refine bP ?_
 have lz:=wH he;refine ae (kd.pyHash hu lH (ae (wpAny_dictFind_heap hu lH ho hd he his hn (λBr=>?_) (λj p hj=>?_))))
 ·have nk:=not_mem_keys_of_get Br;have e0:=atKey_none_of_get Br;have e1:=storedH_new e0;refine ae (fQ (ae (wpAny_updateDictKeys ho hd (af (h2 e0 _ {_,_,ep+1,cy _ ho (Obj.isFreed_of_dict (zK hd _)),hc.mapDictKeys _,zK hd _,?_,?_,?_} (bY ..))))))
  ·rw[e1,aM,<-he];simp[entryOfKey]
  ·rw[e1];intro x hx;rcases aS.mp hx with q|q
   ·exact kd.keeps (his x q) ho hd (bY ..)
   ·rw[ay.mp q];exact kd.keeps lH ho hd (bY ..)
  ·rw[e1,aM];refine fL.mpr {hn,by simp,λx hx y hy e=>?_};have Ha:y=k:=by simpa using hy
   exact nk (by rw[<-Ha,<-e];exact hx)
 ·refine ae (gw ho hd ?_);rw[PySem.entry_at he j,hj];exact ae (fQ (af (h1 p (atKey_of_get hn hj))))
def Cw(kd:HeapKind prog w κ)(d a:Addr)(hd:(d==sysModules)=false)(z:Value):
  MeetsIn prog w (Builtin.«dict.setdefault» {[.ref d,.ref a,z],[]}) (λA R s=>kd.room A.in1/\∃k xs,kd.is s.heap k a/\s.heap.DictOfH kd d xs/\xs.length<=sizeLine/\
   (∀p,atKey xs k=some p->R (.ok (.ret p.2)) {s with toks:=s.toks+kd.draws k})/\
   (atKey xs k=none->∀h',h'.DictOfH kd d (storedH xs k a z)->Heap.SameBut d s.heap h'->R (.ok (.ret z)) {s with heap:=h',toks:=s.toks+kd.draws k})):=
 .of_wp λA R s ⟨hu,k,xs,lH,hm,hz,h1,h2⟩=>by unfold Builtin.«dict.setdefault»;refine ae ?_;unfold Builtin.Dict.keyAndDefault;refine ae (jr hm.typeIs ?_);refine af ?_;show wpAny _ _ (if(d==sysModules)=true then _ else(dictSetDefault d (-49) z>>=_)) _ _ s;rw[au (by rw[hd];exact aU)];exact ae (EN hu lH hm (λp hp=>af {_,rfl,h1 p hp}) (λhn h' m' b'=>af {z,rfl,h2 hn h' m' b'}) hz)
def Yi(hd:(d==sysModules)=false)(ho:s.heap.get? d=some o)(hx:o.ExactDict)(aee:o.data=.dict es ep)(aeM:(es.size:Int)<2^63)
  (h:∀t t',Q (.int es.size t) {s with toks:=t'}):wpAny (-5) A (call (.builtin "len") [.ref d]) Q E s:=by
 have ty:s.TypeIs (.ref d) "dict":={o,ho,hx.1};refine ni kind_len plain_len entry_len (args_len1 _) ?_;unfold Builtin.«len»;refine ae (af ?_);refine ae (wpAny_callSpecial?_slot ty F.slot_dict_len
  (bq F.slot_dict_len ty F.entry_dict_len ?_ (F.args_dict_len_1 _)))
 show wpAny _ _ (dictSize d>>=_) _ _ s;unfold dictSize;refine ae (ae (gw ho aee (af ?_)));refine ae (wpAny_pendingCount_other hd ?_);refine ae (CN (af {_,rfl,?_}));refine ae (bP (af ?_));refine ae (mK ?_);rw[ko];rw[au ∅];rw[au ∅];exact ae (CN (af {_,rfl,h _ _}))
end
section
variable{X:Cx}{pins:Aac}{Z:St}{H:Hp}{s:Shared}{A:Around}{E:Aae}{a b:Addr}{kvs:List (NK×Addr×V)}{k:NK}{z:V}
def R8(hu:A.units+101<cLine)(I:Inv X pins Z H s)(h:fH X.prog X.w X.K H a kvs)(hk:jm X.K H k b)(pF:kvs.length<10000000)(rv:RelV z r)
  (q1:∀v w' s',valN kvs k=some v->Inv X pins Z H s'->RelV v w'->Q w' s')
  (q2:valN kvs k=none->∀s',Inv X pins Z (upd H a (.ext (DN X.prog X.w a (putN kvs k b z)))) s'->Q r s'):wpAny (-4) A (call (.builtin "dict.setdefault") [.ref a,.ref b,r]) Q E s:=by
 obtain⟨lo,xs,rel,hl,dd⟩:=I.qX h;have lx:xs.length<=sizeLine:=by rw[<-rel.length,cP];lia
 have e:=xP rel k;refine q9 sI dd.typeIs PySem.F.entry_dict_setdefault (PySem.F.args_dict_setdefault_3 _ _ _) (Cw (nN X.prog X.w) a b lo r)
  {show A.units+1+100<cLine by lia,k,xs,I.D9 hk,dd,lx,λp hp=>?_,λhn h' rO hs=>?_}
 ·rw[hp]at e;cases ev:valN kvs k with
  |none=>rw[ev]at e;exact e.elim
  |some v=>rw[ev]at e;exact q1 v _ _ ev (I.tok _) e
 ·rw[hn]at e;cases ev:valN kvs k with
  |some v=>rw[ev]at e;exact e.elim
  |none=>
   obtain⟨o,es,ep,g,x2,x3,x4,_,x5⟩:=rO;have lp:=sd (kvs:=kvs) (k:=k) (b:=b) (v:=z);refine q2 ev _ (sC I ?_ hs ⟨o,g⟩ (OP {lo,_,DR rel rv,by lia,o,es,ep,g,x2,x3,x4,x5}));rcases h.1 with e|⟨_,e⟩<;>rw[e]<;>exact True.intro
def YH(hu:A.units+101<cLine)(I:Inv X pins Z H s)(h:fH X.prog X.w X.K H a kvs)(hk:jm X.K H k b)(rv:RelV z r)(q:∀w' s',Inv X pins Z H s'->RelV ((valN kvs k).getD z) w'->Q w' s'):
  wpAny (-4) A (call (.builtin "dict.get") [.ref a,.ref b,r]) Q E s:=by
 obtain⟨lo,xs,rel,hl,dd⟩:=I.qX h;exact q9 jw dd.typeIs pN (oW _ _ _) (wq (nN X.prog X.w) a b lo r)
  {show A.units+1+100<cLine by lia,k,xs,I.D9 hk,dd,q _ _ (I.tok _) ((xP rel k).getD rv)}
def MF(I:Inv X pins Z H s)(h:fH X.prog X.w X.K H a kvs):s.TypeIs (-49) "dict"/\∀b,Value.ref a=.ref b->∃ob,s.heap.get? b=some ob/\ob.dict=none:=by obtain⟨lo,xs,rel,hl,dd⟩:=I.qX h;refine{dd.typeIs,λb q=>?_};cases q;obtain⟨ob,_,_,h1,h2,_⟩:=dd;exact{ob,h1,h2.2.1}
def abu(I:Inv X pins Z H s)(h:fH X.prog X.w X.K H a kvs)(q:∀t s',Inv X pins Z H s'->Q (.int kvs.length t) s'):wpAny (-4) A (call (.builtin "len") [.ref a]) Q E s:=by
 obtain⟨lo,xs,rel,hl,o,es,ep,g,hx,hd,he,_⟩:=I.qX h;have l1:es.size=kvs.length:=by rw[wH he,rel.length]
 refine Yi lo g hx hd ∅ λt t'=>?_;rw[l1];exact q t _ (I.tok _)
end
inductive Pu(P:Program)(w:World)(K:Frag)(ty:TE)(tz:TE)(Z:St)(Q:VK)(x:V)(H1:Hp):Prop
 |mk a JS (_:x=.ref a) (_:fH P w K H1 a JS) (_:ty Z H1 λy H2=>tz Z H2 λz H3=>∃b kvs k,y=.ref b/\fH P w K H3 a kvs/\jm K H3 k b/\kvs.length<10000000/\(∀v,valN kvs k=some v->Q v H3)/\(valN kvs k=none->Q z (upd H3 a (.ext (DN P w a (putN kvs k b z))))))
def SY(P:Program)(w:World)(K:Frag)(td ty tz:TE):TE:=λZ H Q=>td Z H λx H1=>Pu P w K ty tz Z Q x H1
inductive S5(P:Program)(w:World)(K:Frag)(ty:TE)(tz:TE)(Z:St)(Q:VK)(x:V)(H1:Hp):Prop
 |mk a JS (_:x=.ref a) (_:fH P w K H1 a JS) (_:ty Z H1 λy H2=>tz Z H2 λz H3=>∃b kvs k,y=.ref b/\fH P w K H3 a kvs/\jm K H3 k b/\Q ((valN kvs k).getD z) H3)
def LX(P:Program)(w:World)(K:Frag)(td ty tz:TE):TE:=λZ H Q=>td Z H λx H1=>S5 P w K ty tz Z Q x H1
section
variable{X:Cx}{o e f:Expr}{apos eB:Pos}{td ty tz:TE}
def NQ(hu:X.A.units+101<cLine)(ho:PE X o td)(he:PE X e ty)(hf:PE X f tz)(m:M2 X o "setdefault" apos e f eB):PE X (.Call (.Attribute o "setdefault" apos) [e,f] [] eB) (SY X.prog X.w X.K td ty tz):=by intro pins s Z H Q I h;refine uq m.base m.gD m.line iL sI PySem.F.type_dict_setdefault (cX (ho pins s Z H _ I h) λu s1 x H1 I1 rx adt=>?_);obtain⟨a,JS,ex,d,q1⟩:=adt;subst ex;obtain rfl:u=Value.ref a:=rx;obtain⟨t1,t2⟩:=MF I1 d;refine{t1,t2,?_};rw[m.trees];refine jc rfl (mx (gf (cX (he pins s1 Z H1 _ I1 q1) λiv s2 y H2 I2 ry q2=>gf (cX (hf pins s2 Z H2 _ I2 q2) λfv s3 z H3 I3 rz ⟨b,kvs,k,ey,g,hk,hl,k1,k2⟩=>lB ?_))));subst ey;obtain rfl:iv=Value.ref b:=ry;exact R8 hu I3 g hk hl rz (λv w' s4 ev I4 r4=>{v,H3,I4,r4,k1 v ev}) λev s4 I4=>{z,_,I4,rz,k2 ev}
def A0(hu:X.A.units+101<cLine)(ho:PE X o td)(he:PE X e ty)(hf:PE X f tz)(m:M2 X o "get" apos e f eB):PE X (.Call (.Attribute o "get" apos) [e,f] [] eB) (LX X.prog X.w X.K td ty tz):=by intro pins s Z H Q I h;refine uq m.base m.gD m.line iL jw yA (cX (ho pins s Z H _ I h) λu s1 x H1 I1 rx ads=>?_);obtain⟨a,JS,ex,d,q1⟩:=ads;subst ex;obtain rfl:u=Value.ref a:=rx;obtain⟨t1,t2⟩:=MF I1 d;refine{t1,t2,?_};rw[m.trees];refine jc rfl (mx (gf (cX (he pins s1 Z H1 _ I1 q1) λiv s2 y H2 I2 ry q2=>gf (cX (hf pins s2 Z H2 _ I2 q2) λfv s3 z H3 I3 rz ⟨b,kvs,k,ey,g,hk,k1⟩=>lB ?_))));subst ey;obtain rfl:iv=Value.ref b:=ry;exact YH hu I3 g hk rz λw' s4 I4 r4=>⟨_,H3,I4,r4,k1⟩
def Ss:jU X (.builtin "len") (λxs H Q=>∃a kvs,xs=[V.ref a]/\fH X.prog X.w X.K H a kvs/\Q (.int kvs.length) H):=by intro pins s Z H xs us Q I r h;obtain⟨a,kvs,rfl,ha,q⟩:=h;obtain⟨u,rfl,ru⟩:=l9 r;cases ru;exact abu I ha λt s' I'=>{.int kvs.length,H,I',⟨t,rfl⟩,q}
inductive Yo(P:Program)(w:World)(K:Frag)(R:It->Hp->Prop)(x:V)(H1:Hp):Prop
 |mk d u kvs (_:x=.ref d) (_:H1 d=some u) (_:fH P w K H1 d kvs) (_:∀o,R (K3 d o u (kvs.map λp=>(.ref p.2.1,p.2.2))) (upd H1 d (.c6 o u)))
def aaQ(P:Program)(w:World)(K:Frag)(tl:TE):TI:=λZ H R=>tl Z H λx H1=>Yo P w K R x H1
def Tw(hl:PE X l tl):PI X tg l (aaQ X.prog X.w X.K tl):=by
 intro pins s Z H R I h;refine cX (hl pins s Z H _ I h) λv s1 x H1 I1 r1 q1=>?_;obtain⟨d,u,kvs,e,hd,hv,q⟩:=q1;subst e;cases r1;obtain⟨lo,xs,rel,_,o,es,ep,ga,hx,hdt,he,_⟩:=I1.qX hv;have ents:∀{l:List (-44)}{xs:List (NK×Addr×Value)},Paired (-10) l xs->Paired (-57) (l.map λp=>(V.ref p.2.1,p.2.2)) (xs.map (entryOfKey (nN X.prog X.w))):=λr=>by
  induction r with
  |nil=>exact .nil
  |@cons p q ps qs h _ ih=>exact .cons {by show Value.ref q.2.1=Value.ref p.2.1;rw[h.2.1],h.2.2} ih
 have m:K6 o es ep (kvs.map λp=>(V.ref p.2.1,p.2.2)):={hx,hdt,by rw[he];exact ents rel};have I2:Inv X pins Z (upd H1 d (.c6 o u)) s1:=by
  rcases hv.1 with e|⟨_,e⟩
  ·rw[hd]at e;cases e;exact I1.Gh hd ga
  ·rw[hd]at e;cases e;exact I1.freeze hd ga
 refine F2 lo ga m.1 m.2.1 ?_;refine{s1.heap.objs.size,[s1.heap.objs.size],_,_,_,rfl,I2.kept λb o e=>ah _ e,Pp m,{_,aE _ rfl,rfl,rfl},λb hb=>?_,q o};have e:b=s1.heap.objs.size:=by simpa using hb
 subst e;exact I2.sr (ak _) (I2.bj.fresh (ak _))
def pS(n:Nat)(k:NK):Prop:=(NK.toD k).canLay0=true/\(NK.toD k).depth<=n/\NK.deep k<=n
def good_str(h:PyData.strOk z=true):pS n (.key (.inr z)):={by simp[NK.toD,PyData.canLay0,h],by simp[NK.toD,PyData.depth],by simp[NK.deep]}
theorem Kx:∀{ks:List NK},(∀k∈ks,pS n k)->PyData.canLayAll0 (NK.mO ks)=true/\PyData.depthAll (NK.mO ks)<=n/\NK.oH ks<=n
 |[],_=>{by simp[NK.mO,PyData.canLayAll0],by simp[NK.mO,PyData.depthAll],by simp[NK.oH]}
 |k::ks,h=>by
  obtain⟨a1,a2,a3⟩:=h k ax;obtain⟨b1,b2,b3⟩:=Kx λk hk=>h k (az _ hk);refine{by simp[NK.mO,PyData.canLayAll0,a1,b1],?_,?_}
  ·simp only[NK.mO,PyData.depthAll];lia
  ·simp only[NK.oH];lia
def Ec(h:∀k∈ks,pS n k):pS (n+1) (.tup ks):=by obtain⟨b1,b2,b3⟩:=Kx h;refine{by simp only[NK.toD,PyData.canLay0];exact b1,by simp only[NK.toD,PyData.depth];lia,by simp only[NK.deep];lia}
def pS.good(h:pS n k)(hn:n<=7):W4 k:={h.1,aC h.2.1 hn,aC h.2.2 hn}
def dY(zs:Aah):NK:=.tup (zs.map λz=>.key (.inr z))
def xU(h:dY xs=dY ys):xs=ys:=by unfold dY at h;injection h with h;exact List.map_inj_right (λa b e=>by injection e with e;injection e)|>.mp h
def Ed(h:∀z∈zs,PyData.strOk z=true):pS 1 (dY zs):=Ec λk hk=>by obtain⟨z,hz,rfl⟩:=aA.mp hk;exact good_str (h z hz)
theorem JA{K:Frag}:∀zs:Aah,pQ K H (zs.map λz=>NK.key (.inr z)) (zs.map V.str)
 |[]=>by rw[jl,pQ];rfl
 |z::r=>by rw[aR,pQ];exact{_,_,rfl,by rw[NV];rfl,JA r}
def JB{K:Frag}(h:bx K H a (zs.map V.str)):NV K H (dY zs) (-49):=by unfold dY;rw[NV];exact{a,_,rfl,h,JA zs}
def sf{K:Frag}(h:bx K H a (zs.map V.str))(hz:∀z∈zs,PyData.strOk z=true):jm K H (dY zs) a:={JB h,(Ed hz).good (-8)}
def E7{K:Frag}(h:NV K H (dY zs) (-49)):bx K H a (zs.map V.str):=by
 have all:∀{zs:Aah}{xs:Aao},pQ K H (zs.map λz=>NK.key (.inr z)) xs->xs=zs.map V.str:=by
  intro zs
  induction zs with
  |nil=>intro xs h;rw[jl,pQ]at h;exact h
  |cons z r ih=>
   intro xs h;rw[aR,pQ]at h;obtain⟨x,t,rfl,h1,h2⟩:=h;rw[NV]at h1;rw[h1,ih h2];rfl
 unfold dY at h;rw[NV]at h;obtain⟨b,xs,e,hq,h⟩:=h;cases e;rw[<-all h];exact hq
def ma(e:p.1=k):valN (p::r) k=some p.2.2:=by unfold valN;rw[gJ (p:=λp:NK×Addr×V=>decide (p.1=k)) (ba e)];rfl
def mf(e:¬p.1=k):valN (p::r) k=valN r k:=by unfold valN;rw[gK (p:=λp:NK×Addr×V=>decide (p.1=k)) (λq=>e (bw q))]
theorem Ii:∀kvs:List (-44),valN (kvs.map λp=>if p.1=k then(p.1,p.2.1,v)else p) j=(valN kvs j).map λx=>if j=k then v else x
 |[]=>rfl
 |p::r=>by
  have ih:=Ii (k:=k) (j:=j) (v:=v) r;rw[aR];by_cases h:p.1=k
  ·rw[aD h];by_cases e:p.1=j
   ·rw[ma (p:=(p.1,p.2.1,v)) e,ma e,d8,aD (e.symm.trans h)]
   ·rw[mf (p:=(p.1,p.2.1,v)) e,mf e,ih]
  ·rw[au h];by_cases e:p.1=j
   ·rw[ma e,ma e,d8,au (λz=>h (e.trans z))]
   ·rw[mf e,mf e,ih]
theorem GF:∀kvs:List (-44),valN kvs k=none->valN (kvs++[(k,a,v)]) j=if j=k then some v else valN kvs j
 |[],_=>by
  by_cases e:k=j
  ·rw[aD e.symm];exact ma (p:=(k,a,v)) e
  ·rw[au (λz=>e z.symm)];exact mf (p:=(k,a,v)) e
 |p::r,hn=>by
  rw[iW];have hk:¬p.1=k:=λz=>by rw[ma z]at hn;cases hn
  rw[mf hk]at hn;have ih:=GF (j:=j) (a:=a) (v:=v) r hn;by_cases e:p.1=j
  ·rw[ma e,ma e,au (λz=>hk (e.trans z))]
  ·rw[mf e,mf e,ih]
def qp:valN (putN kvs k a v) j=if j=k then some v else valN kvs j:=by
 unfold putN;split
 ·next hs=>
  rw[Ii];by_cases c:j=k
  ·obtain⟨x,hx⟩:=km.mp hs;rw[aD c,c,hx,d8,aD rfl]
  ·rw[au c];cases valN kvs j with
   |none=>rfl
   |some x=>rw[d8,au c]
 ·next hs=>
  refine GF kvs ?_;cases e:valN kvs k with
  |none=>rfl
  |some x=>rw[e]at hs;exact absurd rfl hs
def DW(h:p∈putN kvs k a v):(∃q∈kvs,p.1=q.1/\p.2.1=q.2.1)\/(p.1=k/\p.2.1=a):=by
 unfold putN at h;split at h
 ·obtain⟨q,hq,rfl⟩:=aA.mp h;refine .inl {q,hq,?_};split<;>exact⟨rfl,rfl⟩
 ·rcases aS.mp h with h|h
  ·exact .inl ⟨p,h,rfl,rfl⟩
  ·rw[ay.mp h];exact .inr ⟨rfl,rfl⟩
end
end L2
namespace L2
open PySem PySem.Spec PyProof.Rows PySem.W Dy
section
variable{X:Cx}{pins:Aac}{Z:St}{H:Hp}{s:Shared}
def Inv.KU(I:Inv X pins Z H s)(hn:H D=none)(new:dC X.prog X.w (upd H D o) s.heap D o)
  (h1:X.aab.heap.objs.size<=D) (hL:D≠X.env.locals) (h2:∀x c,X.env.cells.lookup x=some c->c≠D) (h3:∀p∈X.pn++pins,p.1≠D):Inv X pins Z (upd H D o) s:=by
 have nD:∀b u,H b=some u->b≠D:=λb u q z=>by rw[z,hn]at q;cases q
 have bj:jL X.prog X.w (upd H D o) s.heap:=λb u q=>by
  by_cases hb:b=D
  ·subst hb;rw[ar]at q;cases q;exact new
  ·rw[aw hb]at q;exact(I.bj b u q).jD (λ_ _ _ z=>z) (λc z=>by rw[aw (nD c _ z)];exact z) λc xs z=>by rw[aw (nD c _ z)];exact z
 have J:=I.step (t':=s.toks) (d':=s.drawn) (ch:=[D])
  (λb hb=>by
   have e':b=D:=by simpa using hb
   subst e';exact{.inr h1,hL,h2,h3})
  (λb o _ _ _ q _=>q) (λb o _ _ _ q _=>{o.slots,q}) (λb o hc _ n=>by rw[aw λz=>hc (by simp[z])];exact n) (λb o _ q=>⟨o,q⟩)
  (λb xs q=>by rw[aw (nD b _ q)];exact q) (λb o u q=>by rw[aw (nD b _ q)];exact q) (λb ps q=>{#[],by rw[aw (nD b _ q),q];simp}) (λm hm=>hm) bj I.bare
 exact J
def uH(r d:Addr):Heap->Prop:=λh=>h.IsItemsView r d
end
def aaH(x:uH r d h):dC P w H h r (.ext (uH r d)):=
 {x,let⟨o,q,_⟩:=x;⟨o,q⟩,λ_ _ ⟨o,q,z⟩ k=>{o,k _ q,z}}
section
variable{X:Cx}
def rA(P:Program)(w:World)(K:Frag)(mg:Aad)(base:Heap)(C:Addr)(k:Nat)(m:Str)(ps:Aah)(sp:Sp):Prop:=
 ∃f fd,dh P w K mg base fW k f fd ps sp/\Meth K C m f/\Binds K fd ps []
def Mz(c:B4 X.K C)(D:rA X.prog X.w X.K X.mg X.base C k m ps sp)(hr:ig j X.A)(ho:PE X o ta)(ha:PA X (e::es) t)(hk:k<=j:=by decide)
  (gq:starEach (e::es) X.env=(false,eval e X.env)::starEach es X.env:=by rfl) (qU:(-30).any (·.1)=false:=by rfl)
  (ht:eval (.Call (.Attribute o m apos) (e::es) [] pos) X.env=(do
   let ov<-eval o X.env
   standAt apos.atName
   let(f,first)<-holding [ov] (getMethod ov m pl)
   callWith pos f first (backTo pos (starEach (e::es) X.env)) (backToKw pos (keywordEach [] X.env))):=by rfl):
  PE X (.Call (.Attribute o m apos) (e::es) [] pos) (Vy C m sp [] E0 ta t):=by
 obtain⟨f,fd,F,me,b⟩:=D;exact XT ho c me F (hr.mono hk) b .nil NS ha gq qU ht
def wX(hr:ig k A):A.units+101<cLine:=by have:=hr.un;lia
theorem eX{α:Type}[DecidableEq α]:∀{l m:List α},l.Nodup->(∀x∈l,x∈m)->l.length<=m.length
 |[],m,_,_=>aP _
 |x::l,m,h,s=>by obtain⟨h1,h2⟩:=cU.mp h;have hx:=s x ax;have:=eX h2 λy hy=>(List.mem_erase_of_ne (show y≠x fromλe=>h1 (by rw[<-e];exact hy))).mpr (s y (az _ hy));rw[List.length_erase_of_mem hx]at this;have hp:=List.length_pos_of_mem hx;rw[bK];lia
end
end L2
namespace L2
open PySem PySem.Spec PyProof.Rows
end L2
namespace AskP
section
variable{α:Type}[DecidableEq α]
abbrev Rw(α:Type):=List α
abbrev rF(α:Type):=α×List α
def gH(xs vs:List α)(t:α):α:=if t∈xs then vs.getD (xs.idxOf t) t else t
def image(xs vs ts:List α):List α:=ts.map (gH xs vs)
def qg(m:List (-73))(r:Rw α)(c:Int):List (-73):=if r∈m.map (·.1)then m.map (λx=>if x.1=r then(x.1,x.2+c)else x)else m++[(r,c)]
def cY(l:List (-73))(xs ts:List α):List (-73):=l.foldl (λm x=>qg m (image xs x.1 ts) x.2) []
def mZ(r ts:List α):Bool:=decide (r.length=ts.length)&&(ts.zip r).all λx=>decide (r[ts.idxOf x.1]?=some x.2)
def atT(r ts:List α)(t:α):α:=r.getD (ts.idxOf t) t
def fX(rows:List (Rw α))(ts known fresh:List α)(key:Rw α):List (Rw α):=(rows.filter λr=>mZ r ts&&decide (known.map (atT r ts)=key)).map λr=>fresh.map (atT r ts)
def longer(maps:List (-73))(rows:List (Rw α))(ts kept known fresh:List α):List (-73):=maps.flatMap λx=>(fX rows ts known fresh (image kept x.1 known)).map λt=>(x.1++t,x.2)
def Sw{r v:Rw α}{c:Int}:v∈(qg m r c).map (·.1)↔v∈m.map (·.1)\/v=r:=by
 unfold qg;split
 ·next h=>
  have e:(m.map λx=>if x.1=r then(x.1,x.2+c)else x).map (·.1)=m.map (·.1):=by rw[bX];refine bH λx _=>?_;show(if x.1=r then(x.1,x.2+c)else x).1=x.1;split<;>rfl
  rw[e];exact{.inl,λz=>z.elim id λz=>z▸h}
 ·rw[aM,aS,tX,ay]
def FL{r:Rw α}{c:Int}(h:(m.map (·.1)).Nodup):((qg m r c).map (·.1)).Nodup:=by
 unfold qg;split
 ·have e:(m.map λx=>if x.1=r then(x.1,x.2+c)else x).map (·.1)=m.map (·.1):=by rw[bX];refine bH λx _=>?_;show(if x.1=r then(x.1,x.2+c)else x).1=x.1;split<;>rfl
  rw[e];exact h
 ·next q=>
  rw[aM,tX];exact fL.mpr {h,fo _ _,λa ha b hb=>by rw[ay.mp hb];exactλz=>q (by rw[<-show a=r from z];exact ha)}
def pW{xs ts:List α}{v:Rw α}:v∈(cY l xs ts).map (·.1)↔∃x∈l,v=image xs x.1 ts:=by
 unfold cY
 suffices H:∀m:List (-73),v∈(l.foldl (λm x=>qg m (image xs x.1 ts) x.2) m).map (·.1)↔v∈m.map (·.1)\/∃x∈l,v=image xs x.1 ts by
  rw[H []];exact{λh=>h.elim (λz=>by cases z) id,.inr}
 induction l with
 |nil=>intro m;exact{.inl,λh=>h.elim id λ⟨x,hx,_⟩=>by cases hx}
 |cons x l ih=>
  intro m;rw[jA,ih,Sw];constructor
  ·rintro((h|h)|⟨y,hy,h⟩)
   ·exact .inl h
   ·exact .inr ⟨x,ax,h⟩
   ·exact .inr {y,az _ hy,h}
  ·rintro(h|⟨y,hy,h⟩)
   ·exact .inl (.inl h)
   ·rcases aG.mp hy with rfl|hy
    ·exact .inl (.inr h)
    ·exact .inr ⟨y,hy,h⟩
def iQ{xs ts:List α}:((cY l xs ts).map (·.1)).Nodup:=by
 unfold cY
 suffices H:∀m:List (-73),(m.map (·.1)).Nodup->((l.foldl (λm x=>qg m (image xs x.1 ts) x.2) m).map (·.1)).Nodup from H [] .nil
 induction l with
 |nil=>intro m h;exact h
 |cons x l ih=>intro m h;exact ih _ (FL h)
def Ym{g:α->α}{t:α}(h:t∈xs):gH xs (xs.map g) t=g t:=by unfold gH;have:=cT h;rw[aD h,cq,aJ,aq this,kS];rfl
def jj{g:α->α}(h:∀t∈ts,t∉xs->g t=t):image xs (xs.map g) ts=ts.map g:=by
 refine bH λt ht=>?_;by_cases c:t∈xs
 ·exact Ym c
 ·unfold gH;rw[au c,h t ht c]
def QU{g:α->α}:mZ (ts.map g) ts=true:=by
 unfold mZ;rw[ag,ba rfl,iF,dQ];intro x hx;obtain⟨i,hi,e⟩:=d9.mp hx;rw[we,qm]at e;have m:x.1∈ts:=by rw[<-e];exact iV _
 have:=cT m;refine ba ?_;rw[aJ,aq this,kS,d8,<-e]
def Ni{g:α->α}{t:α}(h:t∈ts):atT (ts.map g) ts t=g t:=by unfold atT;have:=cT h;rw[cq,aJ,aq this,kS];rfl
def F9{r ts:List α}(h:mZ r ts=true):ts.map (atT r ts)=r:=by unfold mZ at h;rw[cE,dQ]at h;have hl:=bw h.1;refine wg (by rw[ag,hl]) λi h1 h2=>?_;rw[qm];have q:=bw (h.2 (ts[i]'(by rw[<-hl];exact h2),r[i]) (d9.mpr {i,by rw[kR];lia,by rw[we]}));unfold atT;rw[cq,q];rfl
def kC(un:α->Bool)(db:α->List (Rw α))(S:List (rF α))(g:α->α):Prop:=(∀t,un t=false->g t=t)/\∀a∈S,a.2.map g∈db a.1
def Kp(un:α->Bool)(db:α->List (Rw α))(S:List (rF α))(kept:List α)(maps:List (-73)):Prop:=∀v,v∈maps.map (·.1)↔∃g,kC un db S g/\v=kept.map g
def LU{un:α->Bool}{db:α->List (Rw α)}{S:List (rF α)}{maps:List (-73)}{a:rF α}(h:Kp un db S kept maps)
  (hf:∀t,t∈fresh↔t∈a.2/\un t=true/\t∉kept) (hk:known=a.2.filter (λt=>decide (t∉fresh))) (hu:∀t∈kept,un t=true) (hs:∀b∈S,∀t∈b.2,t∈a.2->un t=true->t∈kept) (h':∀t∈kept',t∈kept++fresh):
  Kp un db (a::S) kept' (cY (-60) (kept++fresh) kept'):=by
 have kn:∀t,t∈known↔t∈a.2/\t∉fresh:=λt=>by rw[hk,bD,fJ]
 have key:∀g:α->α,(∀t,un t=false->g t=t)->image kept (kept.map g) known=known.map g:=λg hg=>jj λt ht c=>by
  have⟨z1,z2⟩:=(kn t).mp ht;cases e:un t with
  |false=>exact hg t e
  |true=>exact absurd ((hf t).mpr ⟨z1,e,c⟩) z2
 intro v;rw[pW];constructor
 ·rintro⟨x,hx,rfl⟩;unfold longer at hx;obtain⟨y,hy,hx⟩:=eC.mp hx;obtain⟨tl,ht,rfl⟩:=aA.mp hx;unfold fX at ht;obtain⟨r,hr,rfl⟩:=aA.mp ht;obtain⟨hr,hc⟩:=bD.mp hr;rw[cE,fJ]at hc;obtain⟨g,hg,eg⟩:=(h y.1).mp (aA.mpr ⟨y,hy,rfl⟩);rw[eg,key g hg.1]at hc
  let g2:α->α:=λt=>if t∈fresh then atT r a.2 t else g t
  have e1:kept.map g=kept.map g2:=bH λt ht=>by show g t=if t∈fresh then _ else g t;rw[au λz=>((hf t).mp z).2.2 ht]
  have e2:fresh.map (atT r a.2)=fresh.map g2:=bH λt ht=>by show _=if t∈fresh then _ else g t;rw[aD ht]
  have e3:a.2.map g2=r:=by
   conv=>rhs;rw[<-F9 hc.1]
   refine bH λt ht=>?_;show(if t∈fresh then atT r a.2 t else g t)=_;by_cases c:t∈fresh
   ·rw[aD c]
   ·rw[au c];exact(o8.mp hc.2 t ((kn t).mpr ⟨ht,c⟩)).symm
  refine{g2,{λt ht=>?_,λb hb=>?_},?_}
  ·show(if t∈fresh then atT r a.2 t else g t)=t;rw[au λz=>by rw[((hf t).mp z).2.1]at ht;cases ht];exact hg.1 t ht
  ·rcases aG.mp hb with rfl|hb
   ·rw[e3];exact hr
   ·have:b.2.map g2=b.2.map g:=bH λt ht=>by show(if t∈fresh then _ else g t)=g t;rw[au λz=>((hf t).mp z).2.2 (hs b hb t ht ((hf t).mp z).1 ((hf t).mp z).2.1)]
    rw[this];exact hg.2 b hb
  ·rw[eg,e1,e2,<-aM];exact jj λt ht c=>absurd (h' t ht) c
 ·rintro⟨g,hg,rfl⟩;have hS:kC un db S g:={hg.1,λb hb=>hg.2 b (az _ hb)};obtain⟨y,hy,ey⟩:=aA.mp ((h (kept.map g)).mpr ⟨g,hS,rfl⟩);refine{(y.1++fresh.map g,y.2),eC.mpr {y,hy,aA.mpr {fresh.map g,aA.mpr {a.2.map g,bD.mpr {hg.2 a ax,?_},?_},rfl}},?_}
  ·rw[QU,iF,ey,key g hg.1];exact ba (bH λt ht=>Ni ((kn t).mp ht).1)
  ·exact bH λt ht=>Ni ((hf t).mp ht).1
  ·rw[ey,<-aM];exact(jj λt ht c=>absurd (h' t ht) c).symm
end
section
variable{α:Type}[DecidableEq α]
def fits(un:α->Bool)(db:α->List (Rw α))(atoms:List (rF α))(known v:List α):Bool:=atoms.all λa=>!decide (a.2.filter (λt=>un t&&decide (t∉known))=[])||decide (image known v a.2∈db a.1)
def Eg{un:α->Bool}{atoms:List (rF α)}{known v:List α}:fits un db atoms known v=true↔∀a∈atoms,(∀t∈a.2,un t=true->t∈known)->image known v a.2∈db a.1:=by
 unfold fits;rw[dQ];refine fC λa=>fC λ_=>?_;have e:(a.2.filter (λt=>un t&&decide (t∉known))=[])↔∀t∈a.2,un t=true->t∈known:=by rw[List.filter_eq_nil_iff];refine fC λt=>fC λ_=>?_;rw[cE,fJ];exact{λh u=>ng λz=>h ⟨u,z⟩,λh z=>z.2 (h z.1)}
 rw[Bool.or_eq_true,Bool.not_eq_true',decide_eq_false_iff_not,fJ,e];exact{λh q=>h.elim (λz=>absurd q z) id,λh=>Decidable.byCases (λq=>.inr (h q)) .inl}
def iO(un:α->Bool)(db:α->List (Rw α))(atoms:List (rF α))(us vals:List α):Nat->List (List α)
 |0=>[[]].filter (fits un db atoms (us.take 0))
 |p+1=>((iO un db atoms us vals p).flatMap λv=>vals.map λx=>v++[x]).filter (fits un db atoms (us.take (p+1)))
def Q0{us v:List α}(h:t∈us.take p)(hv:v.length=p)(hp:p<=us.length)(x:α):gH (us.take (p+1)) (v++[x]) t=gH (us.take p) v t:=by
 have l:=cT h;have m:=(ug us (eZ p)) h;have e:(us.take (p+1)).idxOf t=(us.take p).idxOf t:=by
  conv=>lhs;rw[<-dq p (us.take (p+1)),List.take_take,il (eZ p)]
  rw[List.idxOf_append,aD h]
 unfold gH;rw[aD h,aD m,e,cq,cq,dE];rw[aL]at l;lia
theorem zj(hu:∀t∈us,un t=true):∀(p:Nat)(v:List α),p<=us.length->(v∈iO un db atoms us vals p↔v.length=p/\(∀x∈v,x∈vals)/\∀a∈atoms,(∀t∈a.2,un t=true->t∈us.take p)->image (us.take p) v a.2∈db a.1)
 |0,v,_=>by show v∈[[]].filter _↔_;rw[bD,ay,Eg];exact{λ⟨h1,h2⟩=>{by rw[h1];rfl,(λx hx=>by rw[h1]at hx;cases hx),h2},λ⟨h1,_,h2⟩=>{kY h1,h2}}
 |p+1,v,hp=>by
  show v∈(((iO un db atoms us vals p).flatMap λv=>vals.map λx=>v++[x]).filter _)↔_;rw[bD,Eg,eC];constructor
  ·rintro⟨⟨w,hw,hv⟩,h2⟩;obtain⟨x,hx,rfl⟩:=aA.mp hv;obtain⟨w1,w2,w3⟩:=(zj hu p w ∅).mp hw;refine{by rw[aK,w1];rfl,λy hy=>?_,h2};rcases aS.mp hy with hy|hy
   ·exact w2 y hy
   ·rw[ay.mp hy];exact hx
  ·rintro⟨h1,h2,h3⟩;have ne:v≠[]:=λz=>by rw[z]at h1;cases h1
   have ev:=sL ne;have lv:v.dropLast.length=p:=by rw[List.length_dropLast,h1];rfl
   refine{{v.dropLast,(zj hu p _ ∅).mpr {lv,λx hx=>h2 x (List.dropLast_subset v hx),λa ha q=>?_},aA.mpr {v.getLast ne,h2 _ (List.getLast_mem ne),ev}},h3};have:=h3 a ha λt ht u=>ug us (eZ p) (q t ht u);rw[<-ev]at this;have e:image (us.take (p+1)) (v.dropLast++[v.getLast ne]) a.2=image (us.take p) v.dropLast a.2:=bH λt ht=>by
    cases c:un t with
    |true=>exact Q0 (q t ht c) lv ∅ _
    |false=>
     have n1:∀n,t∉us.take n:=λn z=>by rw[hu t (fq z)]at c;cases c
     unfold gH;rw[au (n1 _),au (n1 _)]
   rw[e]at this;exact this
def Ic(hu:∀t,t∈us↔un t=true/\∃a∈atoms,t∈a.2)(nd:us.Nodup)(hv:∀a∈atoms,∀r∈db a.1,∀x∈r,x∈vals)(hh:∀t∈head,un t=true->t∈us)(row:Rw α):
  (∃v∈iO un db atoms us vals us.length,row=image us v head)↔∃g,kC un db atoms g/\row=head.map g:=by
 have m:=zj (db:=db) (atoms:=atoms) (vals:=vals) (λt ht=>((hu t).mp ht).1) us.length;rw[aT]at m;constructor
 ·rintro⟨v,h,rfl⟩;obtain⟨h1,h2,h3⟩:=(m v (ak _)).mp h;refine{gH us v,{λt ht=>?_,λa ha=>h3 a ha λt ht u=>(hu t).mpr ⟨u,a,ha,ht⟩},rfl};unfold gH;rw[au λz=>by rw[((hu t).mp z).1]at ht;cases ht]
 ·rintro⟨g,hg,rfl⟩;have im:∀ts:List α,(∀t∈ts,un t=true->t∈us)->image us (us.map g) ts=ts.map g:=λts h=>jj λt ht c=>by
   cases e:un t with
   |false=>exact hg.1 t e
   |true=>exact absurd (h t ht e) c
  refine{us.map g,(m _ (ak _)).mpr {ag ..,λx hx=>?_,λa ha q=>by rw[im a.2 q];exact hg.2 a ha},(im head hh).symm};obtain⟨t,ht,rfl⟩:=aA.mp hx;obtain⟨_,a,ha,Bm⟩:=(hu t).mp ht;exact hv a ha _ (hg.2 a ha) _ (aA.mpr ⟨t,Bm,rfl⟩)
def kC.of{un:α->Bool}{S T:List (rF α)}{g:α->α}(h:kC un db S g)(e:∀a∈T,a∈S):kC un db T g:={h.1,λa ha=>h.2 a (e a ha)}
def Yj(h:Kp un db S kept maps)(hh:∀t∈head,un t=true->t∈kept)(row:Rw α):row∈(cY maps kept head).map (·.1)↔∃g,kC un db S g/\row=head.map g:=by
 have im:∀g,kC un db S g->image kept (kept.map g) head=head.map g:=λg hg=>jj λt ht c=>by
  cases e:un t with
  |false=>exact hg.1 t e
  |true=>exact absurd (hh t ht e) c
 rw[pW];constructor
 ·rintro⟨x,hx,rfl⟩;obtain⟨g,hg,e⟩:=(h x.1).mp (aA.mpr ⟨x,hx,rfl⟩);exact{g,hg,by rw[e,im g hg]}
 ·rintro⟨g,hg,rfl⟩;obtain⟨y,hy,ey⟩:=aA.mp ((h _).mpr ⟨g,hg,rfl⟩);exact{y,hy,by rw[ey,im g hg]}
end
section
variable{α:Type}[DecidableEq α]
def words(A:List α):Nat->List (List α)
 |0=>[[]]
 |k+1=>(words A k).flatMap λv=>A.map λx=>x::v
theorem G2:∀{k:Nat}{v:List α},v.length=k->(∀x∈v,x∈A)->v∈words A k
 |0,v,h,_=>by rw[kY h];exact ay.mpr rfl
 |k+1,x::v,h,q=>eC.mpr {v,G2 (Nat.succ.inj h) λy hy=>q y (az _ hy),aA.mpr {x,q x ax,rfl}}
theorem G5{A:List α}:∀k,(words A k).length=A.length^k
 |0=>rfl
 |k+1=>by
  have e:∀l:List (List α),(l.flatMap λv=>A.map λx=>x::v).length=l.length*A.length:=λl=>by
   induction l with
   |nil=>simp
   |cons v l ih=>rw[jK,aK,ih,ag,bK,Nat.succ_mul,Nat.add_comm]
  show((words A k).flatMap _).length=_;rw[e,G5 k,jk]
def gD{A:List α}{l:List (List α)}(nd:l.Nodup)(h:∀v∈l,v.length=k/\∀x∈v,x∈A):l.length<=A.length^k:=by rw[<-G5 k];exact L2.eX nd λv hv=>G2 (h v hv).1 (h v hv).2
structure AskI(un:α->Bool)(db:α->List (Rw α))(atoms:List (rF α))(head:List α)(S left:List (rF α))(kept:List α)(maps:List (-73)):Prop where
 kp:Kp un db S kept maps
 at_:∀a,a∈atoms↔a∈S\/a∈left
 kt:∀t,t∈kept↔un t=true/\(∃b∈S,t∈b.2)/\(t∈head\/∃b∈left,t∈b.2)
 nd:kept.Nodup
 md:(maps.map (·.1)).Nodup
variable{un:α->Bool}{db:α->List (Rw α)}{atoms:List (rF α)}{head:List α}{S left:List (rF α)}{kept:List α}{maps:List (Rw α×Int)}
def AskI.start:AskI un db atoms head [] atoms [] [([],1)]:={λv=>{λh=>{id,{λ_ _=>rfl,λa ha=>by cases ha},ay.mp h},λ⟨_,_,e⟩=>ay.mpr e},λa=>{.inr,λh=>h.elim (λz=>by cases z) id},λt=>{λh=>(by cases h),λ⟨_,⟨b,hb,_⟩,_⟩=>(by cases hb)},.nil,fo _ _}
def AskI.len(h:AskI un db atoms head S left kept maps)(hx:x∈maps):x.1.length=kept.length:=by obtain⟨g,_,e⟩:=(h.kp x.1).mp (aA.mpr ⟨x,hx,rfl⟩);rw[e,ag]
theorem AskI.vals{vals:List α}(h:AskI un db atoms head S left kept maps)(hv:∀a∈atoms,∀r∈db a.1,∀x∈r,x∈vals)(hx:x∈maps):∀y∈x.1,y∈vals:=λy hy=>by obtain⟨g,hg,e⟩:=(h.kp x.1).mp (aA.mpr ⟨x,hx,rfl⟩);rw[e]at hy;obtain⟨t,ht,rfl⟩:=aA.mp hy;obtain⟨_,⟨b,hb,htb⟩,_⟩:=(h.kt t).mp ht;exact hv b ((h.at_ b).mpr (.inl hb)) _ (hg.2 b hb) _ (aA.mpr ⟨t,htb,rfl⟩)
def AskI.gD{vals:List α}(h:AskI un db atoms head S left kept maps)(hv:∀a∈atoms,∀r∈db a.1,∀x∈r,x∈vals):maps.length<=vals.length^kept.length:=by rw[<-ag (f:=(·.1))];refine AskP.gD h.md λv Ff=>?_;obtain⟨x,hx,rfl⟩:=aA.mp Ff;exact{h.len hx,h.vals hv hx}
def AskI.step(h:AskI un db atoms head S (l1++a::l2) kept maps)(hf:∀t,t∈fresh↔t∈a.2/\un t=true/\t∉kept)(fn:fresh.Nodup)(hk:known=a.2.filter (λt=>decide (t∉fresh)))
  (hn:∀t,need t=true↔t∈head\/∃b∈l1++l2,t∈b.2):
  AskI un db atoms head (a::S) (l1++l2) ((kept++fresh).filter need) (cY (-60) (kept++fresh) ((kept++fresh).filter need)):=by
 have mid:∀b,b∈l1++a::l2↔b=a\/b∈l1++l2:=λb=>by rw[aS,aG,aS];exact{λh=>h.elim (λz=>.inr (.inl z)) λh=>h.elim .inl λz=>.inr (.inr z),λh=>h.elim (λz=>.inr (.inl z)) λh=>h.elim .inl λz=>.inr (.inr z)}
 have hs:∀b∈S,∀t∈b.2,t∈a.2->un t=true->t∈kept:=λb hb t ht Bm u=>(h.kt t).mpr {u,⟨b,hb,ht⟩,.inr {a,(mid a).mpr (.inl rfl),Bm}};refine{LU h.kp hf hk (λt ht=>((h.kt t).mp ht).1) hs λt ht=>(bD.mp ht).1,λb=>?_,λt=>?_,?_,iQ}
 ·rw[h.at_ b,mid b,aG];exact{λh=>h.elim (λz=>.inl (.inr z)) λh=>h.elim (λz=>.inl (.inl z)) .inr,λh=>h.elim (λh=>h.elim (λz=>.inr (.inl z)) .inl) λz=>.inr (.inr z)}
 ·rw[bD,aS,hn,hf,h.kt];constructor
  ·rintro⟨⟨u,⟨b,hb,ht⟩,_⟩|⟨ht,u,_⟩,q⟩
   ·exact{u,{b,az _ hb,ht},q}
   ·exact{u,⟨a,ax,ht⟩,q}
  ·rintro⟨u,⟨b,hb,ht⟩,q⟩;refine{?_,q};have q':t∈head\/∃b∈l1++a::l2,t∈b.2:=q.imp id λ⟨b,hb,ht⟩=>{b,(mid b).mpr (.inr hb),ht};rcases aG.mp hb with rfl|hb
   ·by_cases c:t∈kept
    ·exact .inl ((h.kt t).mp c)
    ·exact .inr {ht,u,λz=>c ((h.kt t).mpr z)}
   ·exact .inl {u,⟨b,hb,ht⟩,q'}
 ·refine lR gE (fL.mpr {h.nd,fn,λx hx y hy e=>?_});subst e;exact((hf x).mp hy).2.2 hx
def AskI.end_(h:AskI un db atoms head S [] kept maps)(hh:∀t∈head,un t=true->∃a∈atoms,t∈a.2)(row:Rw α):row∈(cY maps kept head).map (·.1)↔∃g,kC un db atoms g/\row=head.map g:=by
 have e:∀a,a∈atoms↔a∈S:=λa=>by rw[h.at_ a];exact{λz=>z.elim id (λz=>by cases z),.inl}
 rw[Yj h.kp λt ht u=>(h.kt t).mpr {u,let⟨a,ha,q⟩:=hh t ht u;{a,(e a).mp ha,q},.inl ht}];exact{λ⟨g,hg,q⟩=>{g,hg.of λa ha=>(e a).mp ha,q},λ⟨g,hg,q⟩=>{g,hg.of λa ha=>(e a).mpr ha,q}}
end
end AskP
namespace lY
open PySem PySem.Spec PyProof.Rows L2 Dy
seal L2.PE L2.PT L2.PW L2.PA L2.PS L2.lN L2.PI L2.PO L2.Dz L2.PG L2.DA
def top(i:Nat):Stmt:=PySem.Challenge.pw_askviews_k07_counted.main.body.getD i (.Pass {0,0,0,0})
abbrev yX:Stmt:=top 3
abbrev vA:Stmt:=top 4
abbrev t6:Stmt:=top 6
abbrev AM:Stmt:=top 8
abbrev AR:Stmt:=top 10
abbrev AQ:Stmt:=top 11
abbrev xn:Stmt:=top 12
abbrev rX:Stmt:=top 13
abbrev yS:Stmt:=top 15
abbrev xm:Stmt:=top 16
abbrev FZ:Stmt:=top 17
abbrev yY:Stmt:=top 18
abbrev rW:Stmt:=top 19
abbrev DO:Stmt:=top 21
abbrev DP:Stmt:=top 22
abbrev DL:Stmt:=top 23
abbrev AO:Stmt:=top 24
abbrev yT:Stmt:=top 25
abbrev yW:Stmt:=top 26
abbrev vz:Stmt:=top 27
abbrev yU:Stmt:=top 28
abbrev DK:Stmt:=top 29
abbrev yV:Stmt:=top 30
abbrev DM:Stmt:=top 31
abbrev FY:Stmt:=top 32
abbrev AN:Stmt:=top 33
abbrev NH:Stmt:=top 34
abbrev vy:Stmt:=inClass (top 14) 0
abbrev rY:Stmt:=inClass (top 14) 1
abbrev DJ:Stmt:=inClass (top 14) 2
abbrev nJ:Stmt:=inClass (top 14) 3
abbrev oZ:Stmt:=inClass (top 14) 4
def v7(K:Frag)(H:Hp)(a:Addr)(xs:Aao):Prop:=
 (∃o,H a=some (.c6 o (.lst xs)))\/∃(o:Obj)(aX:Aal)(n:Nat),K.lookup a=some o/\o.cls=.type "list"/\o.dict=none/\o.data=.seq aX n/\aX.size<=sizeLine/\Vals xs aX.toList
def v7.sq{K:Frag}(h:v7 K H a xs):bo K H a xs:=by
 rcases h with⟨o,h⟩|h
 ·exact .inl (.inr ⟨o,h⟩)
 ·exact .inr h
def v7.but{K:Frag}(h:v7 K H a xs)(hf:H f=some (-48)):v7 K (upd H f o) a xs:=by
 rcases h with⟨ob,h⟩|h
 ·exact .inl {ob,by rw[aw (wJ h hf λz=>by cases z)];exact h}
 ·exact .inr h
def v7.new{K:Frag}(h:v7 K H a xs)(hp:H p=none):v7 K (upd H p o) a xs:=by
 rcases h with⟨ob,h⟩|h
 ·exact .inl {ob,by rw[aw (aW h hp)];exact h}
 ·exact .inr h
def eJ(K:Frag)(f:Addr)(H:Hp):Prop:=
 ∃(a:Addr)(ns:List Int)(p q r:Int),H f=some (.lst [.ref a,.int p,.int q,.int r])/\0<=p/\0<=q/\0<=r/\v7 K H a (-39)/\ns.length<=63
def Ext(f:Addr)(H H':Hp):Prop:=∀b o,b≠f->H b=some o->H' b=some o
def Ext.refl(f:Addr)(H:Hp):Ext f H H:=λ_ _ _ h=>h
def Ext.trans(a:Ext f H H1)(b:Ext f H1 H2):Ext f H H2:=λc o n h=>b c o n (a c o n h)
def Ext.new(a:Ext f H H1)(h:H1 p=none)(o:HO):Ext f H (upd H1 p o):=λb u n q=>by rw[aw (aW (a b u n q) h)];exact a b u n q
def Ext.own(a:Ext f H H1)(h:H p=none)(o:HO):Ext f H (upd H1 p o):=λb u n q=>by rw[aw (aW q h)];exact a b u n q
def Ext.feed(a:Ext f H H1)(o:HO):Ext f H (upd H1 f o):=λb u n q=>by rw[aw n];exact a b u n q
def Ext.none(a:Ext f H H1)(n:p≠f)(h:H1 p=Option.none):H p=Option.none:=by
 cases q:H p with
 |none=>rfl
 |some o=>
  rw[a p o n q]at h;cases h
def eJ.new{K:Frag}(h:eJ K f H)(hp:H p=none)(o:HO):eJ K f (upd H p o):=by obtain⟨a,ns,x,y,z,hf,h1,h2,h3,hS,hn⟩:=h;exact{a,ns,x,y,z,by rw[aw (aW hf hp)];exact hf,h1,h2,h3,hS.new hp,hn}
def eJ.lst{K:Frag}(h:eJ K f H)(hp:H p=some (.lst xs))(n:p≠f)(o:HO):eJ K f (upd H p o):=by obtain⟨a,ns,x,y,z,hf,h1,h2,h3,hS,hn⟩:=h;exact{a,ns,x,y,z,by rw[aw n.symm];exact hf,h1,h2,h3,hS.but hp,hn}
def eJ.vJ{K:Frag}(h:eJ K f H)(hp:H p=none):p≠f:=by obtain⟨a,ns,x,y,z,hf,_⟩:=h;exact(aW hf hp).symm
inductive PJ(K:Frag)(vs:Aao)(H:Hp)(Q:VK)(_x3:XK):Prop
 |mk (a:Addr) (ns:List Int) (_:vs=[.ref a]) (_:v7 K H a (ns.map V.int)) (_:ns.length<=63) (_:∀(r:Addr)(H':Hp),eJ K r H'->bA H H'->H r=none->Q (.ref r) H')
inductive PK(K:Frag)(vs:Aao)(H:Hp)(Q:VK)(_x3:XK):Prop
 |mk (f:Addr) (many:Int) (_:vs=[.ref f,.int many]) (_:eJ K f H) (_:0<many) (_:many<1073741824) (_:∀(i:Int)(H':Hp),0<=i->i<many->eJ K f H'->Ext f H H'->Q (.int i) H')
inductive PF(K:Frag)(vs:Aao)(H:Hp)(Q:VK)(_x3:XK):Prop
 |mk (f pl:Addr) (many:Int) (xs:Aao) (_:vs=[.ref f,.ref pl,.int many]) (_:eJ K f H) (_:pl≠f) (_:H pl=some (.lst xs)) (_:0<xs.length) (_:xs.length<=100) (_:0<=many) (_:many<=100) (_:∀(r:Addr)(ys:Aao)(H':Hp),eJ K f H'->Ext f H H'->r≠f->H' r=some (.lst ys)->(ys.length:Int)=many->(∀y∈ys,y∈xs)->Q (.ref r) H')
inductive EI(K:Frag)(texts:Aah)(most:Nat)(vs:Aao)(H:Hp)(Q:VK)(_x3:XK):Prop
 |mk (f:Addr) (_:vs=[.ref f]) (_:eJ K f H) (_:∀(r:Addr)(ys:Aao)(H':Hp),eJ K f H'->Ext f H H'->r≠f->H' r=some (.lst ys)->1<=ys.length->ys.length<=most->(∀y∈ys,y∈texts.map V.str)->Q (.ref r) H')
noncomputable def tH:Aah:=["r","s","rs","r1","a","tttttttt"]
noncomputable def cM:Aah:=["a","ab","12","b","a1","zzzzzzzz","r","1"]
noncomputable def je:Aah:=["?x","?y","?a","?ab","?12","?zzzzzzzz"]
inductive DG(K:Frag)(vs:Aao)(H:Hp)(Q:VK)(_x3:XK):Prop
 |mk (f:Addr) (n:Str) (_:vs=[.ref f,.str n]) (_:eJ K f H) (_:∀(i:Int)(H':Hp),1<=i->i<=4->eJ K f H'->Ext f H H'->Q (.int i) H')
section
variable{P:Program}{w:World}{K:Frag}{mg:Aad}{base:Heap}
structure Txt(K:Frag)(mg:Aad):Prop where
 jO:mg "len"=none
 ab5:mg "abs"=none
 qu:mg "range"=none
 j7:mg "tuple"=none
 A8:mg "list"=none
 lF:mg "isinstance"=none
 VZ:mg "all"=none
 VY:mg "str"=none
 ab3:mg "sum"=none
 A9:mg "dict"=none
 zg:mg "sorted"=none
 ab4:mg "set"=none
 CZ:mg "enumerate"=none
 HU:mg "zip"=none
 aau:mg "bool"=none
 Yr:∃t,mg "SIGNS"=some (.str "abcdefghijklmnopqrstuvwxyz0123456789" t)
 Ky:∃t,mg "MOST_SIGNS"=some (.int 8 t)
def u96(r:ig k A):A.units+96<cLine:=by have:=r.un;lia
def PX:cz ["_law_script"] ["_law_script"] (bQ DO):=jV (-3)
def X5(F:fG K "_law_feed" "_law_feed" DO f fd):dh P w K mg base fW 1 f fd ["_law_script"] (PJ K):=by
 refine F.ok PX (λ_ _ _ _ h=>by cases h;subst_vars;rfl) (-6);obtain⟨a,ns,rfl,hS,hn,k⟩:=h;refine{_,(aY (cN (gY (fT (pv 0) (pA bg bg bg))))),?_};refine{_,rfl,(by show 4<=sizeLine;decide),λp hp=>?_};have sm:bA H (upd H p (.lst [.ref a,.int 0,.int 0,.int 0])):=λb u q=>by rw[aw (aW q hp)];exact q
 exact k p _ {a,ns,0,0,0,ar,DD _,DD _,DD _,hS.new hp,hn} sm hp
def nG:cz ["_law_feed_here","_law_many","_law_script","_law_figure","_law_cell","_law_mixed"] ["_law_feed_here","_law_many"] (bQ DP):=jV (-3)
def X6(F:fG K "_law_draw" "_law_draw" DP f fd)(T:Txt K mg):dh P w K mg base fW 1 f fd ["_law_feed_here","_law_many"] (PK K):=by
 refine F.ok nG (λ_ _ _ _ h=>by cases h;subst_vars;rfl) (-6);obtain⟨fe,many,rfl,⟨a,ns,p,q,r,hf,hp,hq,uz,hS,hn⟩,hm,Rq,k⟩:=h;have nl:(-39).length=ns.length:=ag _;have lo:∀(x m:Int),0<m->m<2^32->-(2^64)<x % m/\x % m<2^64:=λx m h1 h2=>by have h3:=m9 x (show m≠0 by lia);have h4:=kT x h1;lia
 refine cut 3 (λZ H'=>∃p' q' r',Z=[some (.ref fe),some (.int many),some (-49),none,none,none]/\H' fe=some (.lst [.ref a,.int p',.int q',.int r'])/\0<=p'/\0<=q'/\0<=r'/\v7 K H' a (-39)/\Ext fe H H')
  (aes 3 (λZ H'=>∃p' q' r' c,Z=[some (.ref fe),some (.int many),some (-49),none,some (.int c),none]/\H' fe=some (.lst [.ref a,.int p',.int q',.int r'])/\0<=p'/\0<=q'/\0<=r'/\v7 K H' a (-39)/\Ext fe H H')
   {_,(aO (gn 5 nG (d6 tG (d6 ki (d6 ki (d6 EZ (d6 tG (pv 4) bg) bg) (d6 EZ (dj fU (pv 0) bg (-15)) bg)) bg) bg)) (aO (gn 5 nG (d6 tG (d6 EZ (pv 5) (d6 ki (pv 5) bg)) bg)) (aY (cN (d6 tG (d6 tG (d6 EZ (pv 5) bg) bg) (pv 1)))))),?_} (λt2 ht=>{_,(aO (iJ (d5 HS (dj fU (pv 0) bg (-15)) bg (gG _)) (aO (gn 3 nG (d6 tG (dj fU (pv 0) bg (-15)) (pv 1))) (aO (vE (d6 X0 (dj fU (pv 0) bg (-15)) (pv 1)) (EX (pv 0) bg set_list)) (aY (cN (pv 3))))) fm) (aO (gn 4 nG bg) (aO (iJ (d5 HS (cA gz rfl T.jO cL (cH (pv 2))) bg (gG _)) (aY (gn 4 nG (dj fU (pv 2) (d6 tG (dj fU (pv 0) bg (-15)) (cA gz rfl T.jO cL (cH (pv 2)))) (-15)))) fm) ht))),λtl=>?_})) (λt2 ht=>{_,(aO (gn 2 nG (dj fU (pv 0) bg (-15))) (aO (vE (d6 ki (dj fU (pv 0) bg (-15)) bg) (EX (pv 0) bg set_list)) (aO (iJ (PW.pt (EU (d5 zd (dj fU (pv 0) bg (-15)) bg (gG _)) (Cc (d5 NY (dj fU (pv 0) bg (-15)) (cA gz rfl T.jO cL (cH (pv 2))) (gG _))))) (aO (vE (d6 TC (cA Vc rfl T.ab5 (-3) (cH (dj fU (pv 2) (dj fU (pv 0) bg (-15)) (-15)))) (d6 aai bg bg)) (EX (pv 0) bg set_list)) (aY (vE (d6 ki (dj fU (pv 0) bg (-15)) bg) (EX (pv 0) bg set_list)))) fm) ht))),λtl=>?_})
 ·--the mix
  rintro Z H' ⟨p',q',r',c,rfl,vS,Ki,Bp,nP,pH,ex⟩;refine{_,rfl,_,_,rfl,rfl,(by show(0:Int)<2147483647;decide),_,_,rfl,rfl,.inl (lo _ _ (-8) (-8)),_,rfl,fe,_,_,_,rfl,rfl,bo.of vS,rfl,_,_,rfl,rfl,.inr {by decide,by decide},_,_,rfl,rfl,_,_,rfl,rfl,_,_,rfl,rfl,(by show(0:Int)<2147483629;decide),?_};refine{_,rfl,_,rfl,_,_,rfl,rfl,_,_,rfl,rfl,.inl (lo _ _ (-8) (-8)),_,_,rfl,rfl,(by show(0:Int)<2147483587;decide),?_};refine{_,rfl,_,_,rfl,rfl,.inl (lo _ _ (-8) (-8)),_,_,rfl,rfl,(by show(0:Int)<2147483563;decide),_,rfl,_,_,rfl,rfl,hm,?_};exact k _ H' (m9 _ ∅) (kT _ hm) ⟨a,ns,p',q',r',vS,Ki,Bp,nP,pH,hn⟩ ex
 ·--the rest of a cell,or the cell
  rintro Z H' ⟨p',q',r',rfl,vS,Ki,Bp,nP,pH,ex⟩;refine{_,rfl,fe,_,_,_,rfl,rfl,bo.of vS,rfl,_,_,rfl,rfl,_,rfl,?_};refine fZ (λc=>?_) (λc=>?_)
  ·refine{_,rfl,fe,_,_,_,rfl,rfl,bo.of vS,rfl,_,rfl,_,_,rfl,rfl,hm,?_};refine{_,rfl,fe,_,_,_,rfl,rfl,bo.of vS,rfl,_,rfl,_,_,rfl,rfl,⟨hm,Rq⟩,_,rfl,fe,_,_,_,rfl,rfl,vS,rfl,?_};refine{_,rfl,?_};exact k _ _ (m9 _ ∅) (kT _ hm) {a,ns,p',q'/many,r',ar,Ki,Int.ediv_nonneg Bp (Int.le_of_lt hm),nP,pH.but vS,hn} (ex.feed _)
  ·--cell=0;if len(aeB)>0
   refine{_,rfl,_,_,rfl,.inl {_,pH.sq,rfl},_,_,rfl,rfl,_,rfl,?_};refine fZ (λc2=>?_) (λc2=>?_)
   ·have c3:(0:Int)<((-39).length:Int):=bw c2;have c4:=m9 r' (show((-39).length:Int)≠0 by lia);have c5:=kT r' c3;obtain⟨v,hv⟩:∃v,ns[(r' %((-39).length:Int)).toNat]?=some v:={_,aq (by rw[<-nl];lia)};have ev:v3 (-39) (r' %((-39).length:Int))=some (.int v):=by
     have e0:r' %((-39).length:Int)=(((r' %((-39).length:Int)).toNat:Nat):Int):=by lia
     rw[e0];exact jv (by rw[aJ,hv];rfl)
    refine{_,rfl,_,rfl,fe,_,_,_,rfl,rfl,bo.of vS,rfl,_,rfl,_,_,rfl,.inl {_,pH.sq,rfl},_,_,rfl,rfl,c3,_,_,_,_,rfl,rfl,pH.sq,ev,?_};exact tl _ _ ⟨p',q',r',v,rfl,vS,Ki,Bp,nP,pH,ex⟩
   ·exact tl _ _ {p',q',r',0,rfl,vS,Ki,Bp,nP,pH,ex}
 ·--feed[0];feed[3]+1
  refine{_,rfl,fe,_,_,_,rfl,rfl,bo.of hf,rfl,?_};refine{_,rfl,fe,_,_,_,rfl,rfl,bo.of hf,rfl,_,_,rfl,rfl,_,rfl,fe,_,_,_,rfl,rfl,hf,rfl,?_};have yp:upd H fe (.lst [.ref a,.int p,.int q,.int (r+1)]) fe=some (.lst [.ref a,.int p,.int q,.int (r+1)]):=ar;have RP:v7 K (upd H fe (.lst [.ref a,.int p,.int q,.int (r+1)])) a (-39):=hS.but hf;have qA:Ext fe H (upd H fe (.lst [.ref a,.int p,.int q,.int (r+1)])):=(Ext.refl fe H).feed _;refine{_,rfl,fe,_,_,_,rfl,rfl,bo.of yp,rfl,rfl,_,rfl,?_};refine fZ (λc=>?_) (λc=>?_)
  ·refine{_,rfl,fe,_,_,_,rfl,rfl,bo.of yp,rfl,_,rfl,_,_,rfl,.inl {_,RP.sq,rfl},_,_,rfl,rfl,_,rfl,?_};refine fZ (λc2=>?_) (λc2=>?_)
   ·have c3:p<((-39).length:Int):=bw c2;obtain⟨v,hv⟩:∃v,ns[p.toNat]?=some v:={_,aq (by rw[<-nl];lia)};have ev:v3 (-39) p=some (.int v):=by
     have e0:p=((p.toNat:Nat):Int):=by lia
     rw[e0];exact jv (by rw[aJ,hv];rfl)
    refine{_,rfl,_,rfl,fe,_,_,_,rfl,rfl,bo.of yp,rfl,_,_,_,_,rfl,rfl,RP.sq,ev,_,rfl,_,_,rfl,rfl,{by decide,by decide,by decide},_,_,rfl,rfl,{by decide,by decide+kernel},_,rfl,fe,_,_,_,rfl,rfl,yp,rfl,?_};refine{_,rfl,fe,_,_,_,rfl,rfl,bo.of ar,rfl,_,_,rfl,rfl,_,rfl,fe,_,_,_,rfl,rfl,ar,rfl,?_};refine tl _ _ {p+1,_,r+1,rfl,ar,by lia,Int.ediv_nonneg ?_ (-8),by lia,?_,(qA.feed _).feed _}
    ·split<;>lia
    ·exact(RP.but yp).but ar
   ·exact tl _ _ {p,q,r+1,rfl,yp,hp,hq,by lia,RP,qA}
  ·exact tl _ _ {p,q,r+1,rfl,yp,hp,hq,by lia,RP,qA}
def GP:cz ["_law_feed_here","_law_pool_here","_law_many","_law_start"] ["_law_feed_here","_law_pool_here","_law_many"] (bQ DL):=jV (-3)
structure Dr(P:Program)(w:World)(K:Frag)(mg:Aad)(base:Heap):Prop where
 jG:eG P w K mg base 1 "_law_draw" ["_law_feed_here","_law_many"] (PK K)
structure Dr2(P:Program)(w:World)(K:Frag)(mg:Aad)(base:Heap):Prop extends Dr P w K mg base where
 JR:eG P w K mg base 2 "_law_pool" ["_law_feed_here","_law_pool_here","_law_many"] (PF K)
def X3(F:fG K "_law_pool" "_law_pool" DL f fd)(T:Txt K mg)(D:Dr P w K mg base):dh P w K mg base fW 2 f fd ["_law_feed_here","_law_pool_here","_law_many"] (PF K):=by
 refine F.ok GP (λ_ _ _ _ h=>by cases h;subst_vars;rfl) (-6);obtain⟨fe,pl,many,xs,rfl,hF,npl,qU,Bl,hx2,hm1,Rq,k⟩:=h;refine{_,(aO (pz (i:=3) GP.nd rfl (Or.inr rfl) (cl D.jG hr (fu (pv 0) (cA gz rfl T.jO cL (cH (pv 1)))))) (aY (cN (iz rfl (dy (fs:=["_law_pool_here","_law_start"]) (fr:=[1,3])) (lV rfl T.qu (cH (pv 2))) (λ_ _ _ _=>(dj (JV (K:=K)) (pv 1) (d6 tG (d6 ki (pv 2) (pv 0)) (cA (Bz (K:=K)) rfl T.jO cL (cH (pv 1)))) (-15))))))),?_}
 refine{_,rfl,_,rfl,_,_,rfl,.inl {_,bo.of qU,rfl},fe,_,rfl,hF,by lia,by lia,λi H1 i0 i1 vT qA=>?_};have aa2:=qA _ _ npl qU;refine{_,rfl,many,rfl,by lia,by lia,λj m ys H2=>H2=H1/\j<=many.toNat/\m=many.toNat -j/\ys.length=j/\∀y∈ys,y∈xs,{_,rfl,aP _,rfl,rfl,λy hy=>by cases hy},?_};rintro j m ys H2 ⟨rfl,hj,rfl,hl,hy⟩;by_cases bU:j<many.toNat
 ·refine .inr {bU,by rw[hl];exact bO ∅,?_};rintro v H3 ⟨rfl,rfl⟩;have q0:(0:Int)<(xs.length:Int):=by lia
  have q1:=m9 (i+(0+(j:Int))) (show(xs.length:Int)≠0 by lia);have q2:=kT (i+(0+(j:Int))) q0;obtain⟨v,hv⟩:∃v,xs[((i+(0+(j:Int))) %(xs.length:Int)).toNat]?=some v:={_,aq ∅};have ev:v3 xs ((i+(0+(j:Int))) %(xs.length:Int))=some v:=by
   have e0:(i+(0+(j:Int))) %(xs.length:Int)=((((i+(0+(j:Int))) %(xs.length:Int)).toNat:Nat):Int):=by lia
   rw[e0];exact jv hv
  refine iy ?_;refine{_,rfl,_,rfl,_,rfl,_,_,rfl,rfl,_,rfl,_,_,rfl,.inl {_,bo.of aa2,rfl},_,_,rfl,rfl,q0,_,_,_,_,rfl,rfl,bo.of aa2,ev,?_};refine{many.toNat -(j+1),by lia,rfl,bU,rfl,by rw[aK,hl];rfl,λy Ha=>?_};rcases aS.mp Ha with z|z
  ·exact hy y z
  ·rw[ay.mp z];exact aB hv
 ·refine .inl {by show many.toNat<=j;lia,by rw[hl];exact br (bO ∅),λl pG=>?_};have nl:l≠fe:=vT.vJ pG;exact k l ys _ (vT.new pG _) (qA.new pG _) nl ar ∅ hy
def NF:cz ["_law_feed_here"] ["_law_feed_here"] (bQ AO):=jV (-3)
def ze(F:fG K "_law_names" "_law_names" AO f fd)(T:Txt K mg)(D:Dr2 P w K mg base):dh P w K mg base fW 3 f fd ["_law_feed_here"] (EI K tH 3):=by refine F.ok NF (λ_ _ _ _ h=>by cases h;subst_vars;rfl) (-6);obtain⟨fe,rfl,hF,k⟩:=h;refine{_,(aY (cN (cl D.JR hr (pA (pv 0) (gY (fT eI (fT eI (fT eI (pA eI eI eI))))) (d6 ki bg (-35)))))),?_};refine{_,rfl,(by show 6<=sizeLine;decide),λp hp=>?_};have np:=hF.vJ hp;refine{_,rfl,fe,3,rfl,hF.new hp _,by decide,by decide,λi H1 i0 i1 vT qA=>?_};have Bq:=qA p _ np ar;refine{_,_,rfl,rfl,fe,p,_,_,rfl,vT,np,Bq,by decide,by decide,by lia,by lia,λr ys H2 tR uB nr qT hl hy=>?_};exact k r ys H2 tR (((Ext.refl fe H).new hp _).trans (qA.trans uB)) nr qT ∅ ∅ hy
def Lc:cz ["_law_feed_here"] ["_law_feed_here"] (bQ yT):=jV (-3)
def Ql(F:fG K "_law_values" "_law_values" yT f fd)(T:Txt K mg)(D:Dr2 P w K mg base):dh P w K mg base fW 3 f fd ["_law_feed_here"] (EI K cM 4):=by refine F.ok Lc (λ_ _ _ _ h=>by cases h;subst_vars;rfl) (-6);obtain⟨fe,rfl,hF,k⟩:=h;refine{_,(aY (cN (cl D.JR hr (pA (pv 0) (gY (fT eI (fT eI (fT eI (fT eI (fT eI (pA eI eI eI))))))) (d6 ki bg (-35)))))),?_};refine{_,rfl,(by show 8<=sizeLine;decide),λp hp=>?_};have np:=hF.vJ hp;refine{_,rfl,fe,4,rfl,hF.new hp _,by decide,by decide,λi H1 i0 i1 vT qA=>?_};have Bq:=qA p _ np ar;refine{_,_,rfl,rfl,fe,p,_,_,rfl,vT,np,Bq,by decide,by decide,by lia,by lia,λr ys H2 tR uB nr qT hl hy=>?_};exact k r ys H2 tR (((Ext.refl fe H).new hp _).trans (qA.trans uB)) nr qT ∅ ∅ hy
def Cg(hg:Gl X x)(hm:X.mg x=none)(hv:bootBuiltins x=some (.type n))(hn:x≠"__name__":=by decide)(hd:(-27)=false:=by decide):PE X (.Name x pos) (tC (.ty n)):=XZ hg hm hv rfl hn hd
def W2:Str:="abcdefghijklmnopqrstuvwxyz0123456789"
def sgn(c:Nat):Bool:=!(Builtin.Str.occurrences W2 ⟨#[c]⟩ 0 W2.length 1).isEmpty
def isVal(s:Str):Bool:=decide ((1:Int)<=(s.length:Int))&&(decide ((s.length:Int)<=8)&&(s.cps.toList.map sgn).all id)
def isUnk(s:Str):Bool:=Txt.startswith s "?"&&isVal (Txt.slice s (some 1) none)
inductive VD(vs:Aao)(H:Hp)(Q:VK)(_x3:XK):Prop
 |mk (z:Str) (_:vs=[.str z]) (_:z.length<=1000) (_:∀H',bA H H'->Q (.bl (isVal z)) H')
inductive VE(vs:Aao)(H:Hp)(Q:VK)(_x3:XK):Prop
 |mk (z:Str) (_:vs=[.str z]) (_:z.length<=1000) (_:∀H',bA H H'->Q (.bl (isUnk z)) H')
def aN(h:H p=none)(o:HO):bA H (upd H p o):=λb u q=>by rw[aw (aW q h)];exact q
def JT(t:Value):kitOne K t t=some true:=by unfold kitOne;rw[aD (beq_self_eq_true t)]
def Le:cz ["thing"] ["thing"] (bQ yX):=jV (-3)
def Lk(F:fG K "is_value" "is_value" yX f fd)(T:Txt K mg):dh P w K mg base fW 1 f fd ["thing"] VD:=by
 refine F.ok Le (λ_ _ _ _ h=>by cases h;subst_vars;rfl) (-6);obtain⟨z,rfl,hz,k⟩:=h;refine{_,(aO (iJ (tE (mD (cA mN rfl T.lF (-3) (fu (pv 0) (Cg (n:="str") rfl T.VY (-3)))))) (aY (cN pU)) fm) (aY (cN (Jq (TB NZ NZ bg (cA gz rfl T.jO cL (cH (pv 0))) (Tz rfl T.Ky)) (Qc (cA (yy rfl) rfl T.VZ boot_all (cH (iz rfl (dy (fs:=[]) (fr:=[])) (Z7 (pv 0)) (λ_ _ _ _=>(F5 Qi (pv 0) (Tx rfl T.Yr) (-43))))))))))),?_}
 have oU:z.length<=sizeLine:=br (bO hz);refine{_,rfl,_,_,_,true,rfl,qh.str z,JT _,_,rfl,?_};refine nO ?_;refine{_,rfl,_,_,rfl,⟨oU,rfl⟩,_,_,rfl,rfl,_,rfl,?_};refine fZ (λc1=>?_) (λc1=>?_)
 ·refine{_,_,rfl,rfl,_,rfl,?_};refine fZ (λc2=>?_) (λc2=>?_)
  ·refine{_,rfl,_,rfl,λi m ys H2=>H2=H/\i<=z.cps.size/\m=z.cps.size -i/\ys=((z.cps.toList.take i).map sgn).map V.bl,{_,rfl,aP _,rfl,rfl},?_};rintro i m ys H2 ⟨rfl,hi,rfl,rfl⟩;have hl:∀j,(((z.cps.toList.take j).map sgn).map V.bl).length<=1000:=λj=>by
    rw[ag,ag,aL];have:z.cps.toList.length=z.length:=by simp[Str.length]
    lia
   by_cases bU:i<z.cps.size
   ·refine .inr {bU,bO (hl i),?_};rintro v H3 ⟨rfl,c,hc,rfl⟩;refine iy ?_;refine{_,rfl,_,_,rfl,rfl,_,?_,rfl,bU,rfl,?_}
    ·exact Nat.sub_lt_sub_left bU (du i)
    ·have qx:z.cps.toList[i]?=some c:=by simpa using hc
     rw[aV,qx,aM,aM];rfl
   ·have e:i=z.cps.size:=by lia
    refine .inl {e,br (bO (hl i)),λl pG=>?_};refine{_,(z.cps.toList.take i).map sgn,rfl,bo.of ar,?_};have et:z.cps.toList.take i=z.cps.toList:=cj (by rw[e];simp);have ev:isVal z=((z.cps.toList.take i).map sgn).all id:=by unfold isVal;rw[c1,c2,et,iF,iF]
    rw[<-ev];exact k _ (aN pG _)
  ·have ev:isVal z=false:=by unfold isVal;rw[iB.mpr c2,oO,sO]
   have q:=k H (bA.refl H);rw[ev]at q;exact q
 ·have ev:isVal z=false:=by unfold isVal;rw[iB.mpr c1,oO]
  have q:=k H (bA.refl H);rw[ev]at q;refine{_,rfl,?_};exact nO q
structure Dv(P:Program)(w:World)(K:Frag)(mg:Aad)(base:Heap):Prop where
 Um:eG P w K mg base 1 "is_value" ["thing"] VD
def HK:cz ["thing"] ["thing"] (bQ vA):=jV (-3)
def slice_le(z:Str):(Txt.slice z (some 1) none).length<=z.length:=rg z _ _
def HL(F:fG K "is_unknown" "is_unknown" vA f fd)(T:Txt K mg)(D:Dv P w K mg base):dh P w K mg base fW 2 f fd ["thing"] VE:=by
 refine F.ok HK (λ_ _ _ _ h=>by cases h;subst_vars;rfl) (-6);obtain⟨z,rfl,hz,k⟩:=h;refine{_,(aY (cN (Jq (cA mN rfl T.lF (-3) (fu (pv 0) (Cg (n:="str") rfl T.VY (-3)))) (Jq (mX PySem.F.plainAttrs_str PySem.F.slot_str_startswith PySem.F.type_str_startswith HM (pv 0) (cH eI)) (Qc (cl D.Um hr (cH (y8 ZJ (pv 0) (Ce bg) Cf)))))))),?_};have oU:z.length<=sizeLine:=br (bO hz);refine{_,rfl,_,_,_,true,rfl,qh.str z,JT _,_,rfl,?_};refine Ge ?_;refine{_,rfl,rfl,_,_,rfl,rfl,_,rfl,?_};refine fZ (λc1=>?_) (λc1=>?_)
 ·refine{_,rfl,_,rfl,_,rfl,oU,_,rfl,aC (slice_le z) hz,λH' sm=>?_};have ev:isUnk z=isVal (Txt.slice z (some 1) none):=by unfold isUnk;rw[c1,iF]
  rw[<-ev];exact k H' sm
 ·have ev:isUnk z=false:=by unfold isUnk;rw[iB.mpr c1,oO]
  have q:=k H (bA.refl H);rw[ev]at q;exact q
def Paired.NA(h:Paired F aad aac)(q:F a b):Paired F (aad++[a]) (aac++[b]):=h.snoc q
theorem Paired.at:∀{aad:List α}{aac:List β}{i:Nat}{x:α},Paired F aad aac->aad[i]?=some x->∃y,aac[i]?=some y/\F x y
 |_,_,_,_,.nil,e=>by simp at e
 |_,_,0,_,.cons r _,e=>by simp at e;subst e;exact⟨_,rfl,r⟩
 |_,_,i+1,x,.cons _ t,e=>by obtain⟨y,h1,h2⟩:=Paired.at (i:=i) (x:=x) t (by simpa using e);exact{y,by simpa using h1,h2}
theorem Ca{texts:Aah}:∀{ys:Aao},(∀y∈ys,y∈texts.map V.str)->∃zs:Aah,ys=zs.map V.str/\∀z∈zs,z∈texts
 |[],_=>{[],rfl,λ_ h=>by cases h}
 |y::r,h=>by
  obtain⟨zs,e,hz⟩:=Ca (ys:=r) λy hy=>h y (az _ hy);obtain⟨z,uy,e1⟩:=aA.mp (h y ax);refine{z::zs,by rw[aR,e1,<-e],λw hw=>?_};rcases aG.mp hw with rfl|hw
  ·exact uy
  ·exact hz w hw
def iS:Aah:=je++cM++(["x"]:Aah)
def DU{zs:Aah}(h0:0<=i)(h1:i<(zs.length:Int)):∃z,z∈zs/\v3 (zs.map V.str) i=some (.str z):=by
 obtain⟨z,hz⟩:∃z,zs[i.toNat]?=some z:={_,aq ∅};refine{z,aB hz,?_};have e:i=((i.toNat:Nat):Int):=by lia
 rw[e];exact jv (by rw[aJ,hz];rfl)
@[irreducible] noncomputable def HE(X:Cx)(e:Expr)(t:TE):Prop:=PE X e t
def VO(h:HE X e t):PE X e t:=by unfold HE at h;exact h
def Qb:HE X (.Dict [some (.Constant (.str s0) j0 p0),some (.Constant (.str s1) j1 p1),some (.Constant (.str s2) j2 p2),some (.Constant (.str s3) j3 p3),some (.Constant (.str s4) j4 p4)] [(.Constant (.int i0) k0 q0),(.Constant (.int i1) k1 q1),(.Constant (.int i2) k2 q2),(.Constant (.int i3) k3 q3),(.Constant (.int i4) k4 q4)] pos) (VA [(tC (.str s0),tC (.int i0)),(tC (.str s1),tC (.int i1)),(tC (.str s2),tC (.int i2)),(tC (.str s3),tC (.int i3)),(tC (.str s4),tC (.int i4))]):=by unfold HE;exact XX (se eI bg (se eI bg (se eI bg (se eI bg (se eI bg Mi))))) rfl rfl (-9) (by show 5<=15;decide)
def Su:attributeBase (.Dict ks vs p) m env ev=ev:=rfl
def SQ:backTo eB (starEach [.Name x p,.Constant c k q] env)=[(false,eval (.Name x p) env),(false,eval (.Constant c k q) env)]:=rfl
def abo:((backTo eB (starEach [.Name x p,.Constant c k q] env)).all (λx=>!x.1)&&(backToKw eB (keywordEach [] env)).all (λx=>x.1.isSome)
  &&decide (([.Name x p,.Constant c k q]:List Expr).length+([]:List Keyword).length+(-59)<30))=true:=rfl
def XS(hu:X.A.units+1<cLine)(ho:HE X o td)(hx:PE X (.Name x px) tx)(line:(apos.endLine==eB.line)=true)
  (hb:∀ev:Sem Value,attributeBase o "get" X.env ev=ev):HE X (.Call (.Attribute o "get" apos) [.Name x px,.Constant (.int d) jd pd] [] eB) (Pw td tx (tC (.int d))):=by
 unfold HE;exact vF hu (VO ho) hx bg {hb _,abo,line,SQ}
def ZW{C:L2.St->Hp->Prop}(h:HE X e te)(q:∀Z H,C Z H->te Z H D.rt):∃t2,lN X [.Return (some e) aeF] t2/\∀Z H,C Z H->t2 D Z H:=
 {_,aY (cN (VO h)),q}
noncomputable def D5:List (Key×V):=[(.inr "r",.int 2),(.inr "s",.int 1),(.inr "rs",.int 2),(.inr "r1",.int 3),(.inr "a",.int 2)]
def Yh:((fk [] D5).all λp=>match p.2 with| .int i=>decide (1<=i/\i<=4)|_=>false)=true:=by decide+kernel
def Ub(k:Key):∃i:Int,(fb (fk [] D5) k).getD (.int 1)=.int i/\1<=i/\i<=4:=by
 cases e:fb (fk [] D5) k with
 |none=>exact{1,rfl,by lia,by lia}
 |some v=>
  obtain⟨p,hp,e2⟩:=a9.mp e;have q:=dQ.mp Yh p (jS hp);rw[e2]at q;cases v with
  |int i=>exact{i,rfl,(bw q).1,(bw q).2}
  |_=>exact absurd q aU
def Ld:cz ["_law_feed_here","_law_name"] ["_law_feed_here","_law_name"] (bQ yW):=jV (-3)
def Qo(F:fG K "_law_length" "_law_length" yW f fd)(T:Txt K mg)(D:Dr P w K mg base):dh P w K mg base fW 2 f fd ["_law_feed_here","_law_name"] (DG K):=by
 refine F.ok Ld (λ_ _ _ _ h=>by cases h;subst_vars;rfl) (-6);obtain⟨fe,n,rfl,hF,k⟩:=h;have hu:=jQ hr;refine cut 1 (λZ H1=>Z=[some (.ref fe),some (.str n)]/\eJ K fe H1/\Ext fe H H1) (ZW (XS hu Qb (pv 1) rfl (λ_=>Su)) ?_) (λt2 ht=>{_,(aO (iJ (d5 zd (-35) bg (gG _)) (aY (cN (d6 ki bg (-35)))) fm) ht),λtl=>?_})
 case refine_2=>
  refine{_,rfl,fe,9,rfl,hF,by decide,by decide,λi H1 i0 i1 vT qA=>?_};refine{rfl,_,rfl,?_};refine fZ (λc=>?_) (λc=>?_)
  ·refine{_,rfl,fe,4,rfl,vT,by decide,by decide,λj H2 j0 j1 tR uB=>?_};refine{_,_,rfl,rfl,?_};exact k _ H2 ∅ ∅ tR (qA.trans uB)
  ·exact tl _ _ ⟨rfl,vT,qA⟩
 case refine_1=>
  rintro Z H1 ⟨rfl,vT,qA⟩;intro p hp;refine{ar,D5,?_,?_,?_}
  ·show[((V.str "r",V.int 2):V×V),(.str "s",.int 1),(.str "rs",.int 2),(.str "r1",.int 3),(.str "a",.int 2)]=_;rfl
  ·show 5<=15;decide
  have e1:upd (upd H1 p (.dK [])) p (.dK (fk [] D5)) p=some (.dK (fk [] D5)):=ar;refine{p,rfl,.inl {_,.inl e1},?_};refine{_,rfl,?_};refine{_,kF.k (k:=Sum.inr n) e1,?_};obtain⟨i,e,h1,h2⟩:=Ub (Sum.inr n);show Q ((fb (fk [] D5) (Sum.inr n)).getD (.int 1)) _;rw[e];refine k i _ h1 h2 ?_ ?_
  ·rw[LN];exact vT.new hp _
  ·rw[LN];exact qA.new hp _
def FW:Aah:=tH++(["other"]:Aah)
def IK(h:∀R:L2.St->Hp->Prop,(∀σ' H',u D σ' H'->R σ' H')->t {D with nx:=R} Z H):Ir t u D Z H:=h (u D) λ_ _ x=>x
abbrev pX(f:Addr)(H:Hp):Aao->Aab->Prop:=Paired λ(y:V)(r:Aah)=>∃b,y=.ref b/\b≠f/\H b=some (.tup (r.map V.str))
def oN(r:Aah):Prop:=1<=r.length/\r.length<=4/\∀z∈r,z∈cM
def BG(f:Addr)(H:Hp)(kv:Key×V):Prop:=∃(z:Str)(a:Addr)(ys:Aao)(rows:Aab),kv=(Sum.inr z,.ref a)/\z∈FW/\a≠f/\H a=some (-48)/\pX f H ys rows/\(∀r∈rows,oN r)/\rows.length<=7
def TabAt(f:Addr)(H:Hp)(d:Addr)(kvs:List (Key×V)):Prop:=d≠f/\H d=some (.dK kvs)/\(kvs.map (·.1)).Nodup/\kvs.length<=4/\∀kv∈kvs,BG f H kv
variable{f:Addr}{H H':Hp}
def oE(h:pX f H ys rows)(e:Ext f H H'):pX f H' ys rows:=
 Paired.qM h λy r ⟨b,e1,n,hb⟩=>{b,e1,n,e _ _ n hb}
def DQ{K:Frag}(h:pX f H ys rows):fE K H ys rows:=
 Paired.qM h λy r ⟨b,e1,n,hb⟩=>{b,e1,bx.of hb}
def BG.keep(h:BG f H kv)(e:Ext f H H'):BG f H' kv:=by obtain⟨z,a,ys,rows,e1,hz,na,ha,hr,hg,hl⟩:=h;exact{z,a,ys,rows,e1,hz,na,e _ _ na ha,oE hr e,hg,hl}
def eJ.dic{K:Frag}(h:eJ K f H)(hp:H p=some (.dK xs))(n:p≠f)(o:HO):eJ K f (upd H p o):=by
 obtain⟨a,ns,x,y,z,hf,h1,h2,h3,hS,hn⟩:=h;refine{a,ns,x,y,z,by rw[aw n.symm];exact hf,h1,h2,h3,?_,hn};rcases hS with⟨ob,h⟩|h
 ·exact .inl {ob,by rw[aw (wJ h hp λz=>by cases z)];exact h}
 ·exact .inr h
def Tr{k:Key}{v:V}:(putK kvs k v).length<=kvs.length+1:=by
 unfold putK;split
 ·rw[ag];lia
 ·rw[aK];exact ak _
def Tq{k:Key}{v:V}{p:Key×V}(h:p∈putK kvs k v):p∈kvs\/p=(k,v):=by
 unfold putK at h;split at h
 ·obtain⟨q,hq,rfl⟩:=aA.mp h;split
  next c=>exact .inr (by rw[c])
  next=>exact .inl hq
 ·rcases aS.mp h with q|q
  ·exact .inl q
  ·exact .inr (ay.mp q)
def NM{k:Key}{v:V}(h:(kvs.map (·.1)).Nodup):((putK kvs k v).map (·.1)).Nodup:=by
 unfold putK;split
 ·rw[bX];have e:((λx:Key×V=>x.1)∘λkv:Key×V=>if kv.1=k then(kv.1,v)else kv)=λkv=>kv.1:=by funext kv;show(if kv.1=k then(kv.1,v)else kv).1=kv.1;split<;>rfl
  rw[e];exact h
 ·next c=>
  rw[aM];refine fL.mpr {h,by simp,λa ha b hb=>?_};rw[tX,ay]at hb;subst hb;rintro rfl;obtain⟨q,hq,e⟩:=aA.mp ha;exact c (kr.mpr {q,hq,ba e})
end
section
variable{P:Program}{w:World}{K:Frag}{mg:Aad}{base:Heap}
structure Dl(P:Program)(w:World)(K:Frag)(mg:Aad)(base:Heap):Prop extends Dr P w K mg base where
 D8:eG P w K mg base 2 "_law_length" ["_law_feed_here","_law_name"] (DG K)
inductive Iz(K:Frag)(vs:Aao)(H:Hp)(Q:VK)(_x3:XK):Prop
 |mk (f nl vl:Addr) (pB oP:Aah) (_:vs=[.ref f,.ref nl,.ref vl]) (_:eJ K f H) (_:nl≠f) (_:vl≠f) (_:H nl=some (.lst (pB.map V.str))) (_:pB.length<=4) (_:(∀z∈pB,z∈FW)) (_:H vl=some (.lst (oP.map V.str))) (_:1<=oP.length) (_:oP.length<=4) (_:(∀z∈oP,z∈cM)) (_:∀(d:Addr)(kvs:List (Key×V))(H':Hp),eJ K f H'->Ext f H H'->TabAt f H' d kvs->H d=none->Q (.ref d) H')
def pj:cz ["_law_feed_here","_law_names_here","_law_values_here","_law_tables_here","_law_name","_law_rows","_law_k"] ["_law_feed_here","_law_names_here","_law_values_here"] (bQ yU):=jV (-3)
def Qm(F:fG K "_law_tables" "_law_tables" yU f fd)(T:Txt K mg)(D:Dl P w K mg base):dh P w K mg base fW 3 f fd ["_law_feed_here","_law_names_here","_law_values_here"] (Iz K):=by
 refine F.ok pj (λ_ _ _ _ h=>by cases h;subst_vars;rfl) (-6);obtain⟨fe,nl,vl,pB,oP,rfl,hF,E6,A5,Hj,C9,hn3,yi,hv1,J4,Q7,k⟩:=h;have hu:=jQ hr;refine{_,(aO (gn 3 pj mh) (aO (fg bJ rfl (fS (pv 1)) (jg 4 pj) (aO (gn 5 pj (gY jh)) (aO (fg bJ rfl (lV rfl T.qu (cH (-35))) (jg 6 pj) (aY (kH (mX cQ dO dM lW (pv 5) (cH (d7 fD rfl T.j7 (-3) (cH (iz rfl (dy (fs:=["_law_values_here","_law_feed_here"]) (fr:=[2,0])) (lV rfl T.qu (cH (cl D.D8 hr (fu (pv 0) (pv 4))))) (λ_ _ _ _=>(dj (JV (K:=K)) (pv 1) (cl D.jG hr (fu (pv 2) (cA (Bz (K:=K)) rfl T.jO cL (cH (pv 1))))) (-15))))))))))) (aO (iJ (PW.pt (EU (d5 HS (cA gz rfl T.jO cL (cH (pv 5))) bg (gG _)) (Cc (d5 zd (-35) bg (gG _))))) (aY (kH (mX cQ dO dM lW (pv 5) (cH (dj fU (pv 5) bg (-15)))))) fm) (aY (iJ (PW.pt (y0 (d5 HS (cA gz rfl T.jO cL (cH (pv 5))) bg (gG _)) (AU (d5 zd (-35) bg (gG _))))) (aY (xR hu (pv 3) (pv 4) (pv 5) rfl)) fm)))))) (aY (cN (pv 3))))),?_}
 intro d hd;have nd:=hF.vJ hd;have lvl:(oP.map V.str).length=oP.length:=ag _;have ad5:upd H d (.dK []) nl=some (.lst (pB.map V.str)):=by rw[aw (aW Hj hd)];exact Hj
 refine{_,rfl,nl,rfl,{_,bo.of ad5},mi (K:=K) (a:=nl) (xs:=pB.map V.str)
  (λi Z H2=>∃(x4 x5 x6:Aap)(kvs:List (Key×V)),Z=[some (.ref fe),some (.ref nl),some (.ref vl),some (.ref d),x4,x5,x6]/\eJ K fe H2/\Ext fe H H2/\H2 d=some (.dK kvs)/\(kvs.map (·.1)).Nodup/\kvs.length<=i/\∀kv∈kvs,BG fe H2 kv)
  {none,none,none,[],rfl,hF.new hd _,(Ext.refl fe H).new hd _,ar,lQ,ak _,λkv h=>by cases h} ?_ ?_ ?_}
 ·rintro i Z H2 hi ⟨x4,x5,x6,kvs,rfl,tR,uB,hd2,My,iX,Fm⟩;exact bo.of (uB _ _ E6 Hj)
 ·rintro i x Z H2 hx ⟨x4,x5,x6,kvs,rfl,tR,uB,hd2,My,iX,Fm⟩;obtain⟨z,hz,rfl⟩:=a9.mp (by rw[<-aJ];exact hx);have li:i<pB.length:=(ao.mp hz).1;have zp:=hn3 z (aB hz);refine{(-53),λrl C8=>?_};have E4:=tR.vJ C8;have rl0:H rl=none:=uB.none E4 C8;have x3:Ext fe H2 (upd H2 rl (.lst [])):=(Ext.refl fe H2).new C8 _;refine{_,rfl,fe,7,rfl,tR.new C8 _,by decide,by decide,λi3 H3 j0 j1 RQ KC=>?_};have aep:=x3.trans KC;have nrv:vl≠rl:=aW yi rl0;refine{_,rfl,by lia,by lia,qy (lo:=0) (n:=i3.toNat)
   (λj Z H4=>∃(y6:Aap)(ys:Aao)(rows:Aab),Z=[some (.ref fe),some (.ref nl),some (.ref vl),some (.ref d),some (.str z),some (.ref rl),y6]/\eJ K fe H4/\Ext fe H2 H4/\H4 rl=some (-48)/\pX fe H4 ys rows/\(∀r∈rows,oN r)/\rows.length=j)
   {x6,[],[],rfl,RQ,aep,KC _ _ E4 ar,.nil,λr h=>(by cases h),rfl} ?_ ?_}
  ·rintro j Z H4 hj ⟨y6,ys,rows,rfl,Aj,Al,Gf,tL,Ho,Ry⟩;have ly:ys.length=rows.length:=tL.length;refine{_,rfl,.inl {rfl,_,bo.of Gf},_,rfl,_,rfl,fe,z,rfl,Aj,λi6 H6 l1 l2 Ai qz=>?_};refine{_,rfl,by lia,by lia,λj m zs H7=>∃ts:Aah,zs=ts.map V.str/\ts.length=j/\j<=i6.toNat/\m=i6.toNat -j/\eJ K fe H7/\Ext fe H6 H7/\∀t∈ts,t∈cM,{_,[],rfl,rfl,aP _,rfl,Ai,Ext.refl _ _,λt h=>by cases h},?_};rintro j5 m5 zs H7 ⟨ts,rfl,bU,hle,rfl,wZ,tS,m6⟩;have abp:=(Al.trans qz).trans tS;by_cases lt5:j5<i6.toNat
   ·refine .inr {lt5,by rw[ag,bU];exact bO ∅,?_};rintro v H8 ⟨rfl,rfl⟩;have aaX:=(uB.trans abp) _ _ A5 yi;refine iy ?_;refine{_,rfl,_,rfl,_,rfl,_,_,rfl,.inl {_,bo.of aaX,rfl},fe,_,rfl,wZ,by lia,by lia,λi8 H9 n0 n1 Ku Ft=>?_};obtain⟨z9,uw,ev9⟩:=DU (zs:=oP) n0 ∅;refine{_,_,_,_,rfl,rfl,bo.of (Ft _ _ A5 aaX),ev9,?_};refine{i6.toNat -(j5+1),by lia,ts++[z9],by rw[aM];rfl,by rw[aK,bU];rfl,lt5,rfl,Ku,tS.trans Ft,λt h=>?_};rcases aS.mp h with q|q
    ·exact m6 t q
    ·rw[ay.mp q];exact Q7 z9 uw
   ·refine .inl {by show i6.toNat<=j5;lia,by rw[ag,bU];exact br (bO ∅),λl hl=>?_};refine{_,_,rfl,.inl {bo.of ar,λtt pC=>?_}};have Uz:=tS _ _ E4 (qz _ _ E4 Gf);have n1:rl≠l:=aW Uz hl;have adT:H7 tt=none:=by
     have:tt≠l:=λe=>by rw[e,ar]at pC;cases pC
     rw[aw this]at pC;exact pC
    have n2:rl≠tt:=aW Uz adT;have Uy:upd (upd H7 l (.lst (ts.map V.str))) tt (.tup (ts.map V.str)) rl=some (-48):=by rw[aw n2,aw n1];exact Uz
    refine{_,_,_,rfl,rfl,Uy,bO ∅,?_};have wY:=wZ.new hl (.lst (ts.map V.str));have Ku:=wY.new pC (.tup (ts.map V.str));have x8:Ext fe H7 (upd H7 l (.lst (ts.map V.str))):=(Ext.refl fe H7).new hl _;have x9:Ext fe H7 (upd (upd H7 l (.lst (ts.map V.str))) tt (.tup (ts.map V.str))):=x8.new pC _;have CW:=wY.vJ pC;have Rh:pX fe (upd (upd (upd H7 l (.lst (ts.map V.str))) tt (.tup (ts.map V.str))) rl (.lst (ys++[.ref tt]))) (ys++[.ref tt]) (rows++[ts]):=by
     refine Paired.NA (Paired.qM (oE tL ((qz.trans tS).trans x9)) λy r ⟨b,e1,nb,hb⟩=>{b,e1,nb,?_}) {tt,rfl,CW,?_}
     ·rw[aw (wJ hb Uy λz=>by cases z)];exact hb
     ·rw[aw n2.symm,ar]
    refine{_,_,rows++[ts],rfl,Ku.lst Uy E4 _,(abp.trans x9).own C8 _,ar,Rh,λr h=>?_,by rw[aK,Ry];rfl};rcases aS.mp h with q|q
    ·exact Ho r q
    ·rw[ay.mp q];exact{by lia,by lia,m6}
  ·rintro Z H4 ⟨y6,ys,rows,rfl,Aj,Al,Gf,tL,Ho,Ry⟩;have ly:ys.length=rows.length:=tL.length;have fin:∀(H5:Hp)(ys:Aao)(rows:Aab),eJ K fe H5->Ext fe H2 H5->H5 rl=some (-48)->pX fe H5 ys rows->(∀r∈rows,oN r)->rows.length<=7->(∃(x4 x5 x6:Aap)(zl:List (Key×V)),[some (V.ref fe),some (.ref nl),some (.ref vl),some (.ref d),some (.str z),some (.ref rl),y6]=[some (.ref fe),some (.ref nl),some (.ref vl),some (.ref d),x4,x5,x6]/\eJ K fe (upd H5 d (-52))/\Ext fe H (upd H5 d (-52))/\upd H5 d (-52) d=some (.dK zl)/\(zl.map (·.1)).Nodup/\zl.length<=i+1/\∀kv∈zl,BG fe (upd H5 d (-52)) kv):=λH5 ys rows uA pJ Ea qS Wx qV=>by
    have WB:=pJ _ _ nd hd2;have nrd:rl≠d:=λe=>by rw[e,WB]at Ea;cases Ea
    have keep:∀{a:Addr}{o:HO},H5 a=some o->a≠d->upd H5 d (-52) a=some o:=λh n=>by rw[aw n];exact h
    have keepR:∀{ys:Aao}{rows:Aab},pX fe H5 ys rows->pX fe (upd H5 d (-52)) ys rows:=λh=>Paired.qM h λy r ⟨b,e1,nb,hb⟩=>{b,e1,nb,keep hb λe=>by rw[e,WB]at hb;cases hb};refine{_,_,_,_,rfl,uA.dic WB nd _,(uB.trans pJ).own hd _,ar,NM My,aC Tr (Nat.add_le_add_right iX 1),λkv iD=>?_};rcases Tq iD with q|rfl
    ·obtain⟨z',a,fP,yZ,e1,oU,na,ha,nP,Wy,pG⟩:=(Fm kv q).keep pJ;exact{z',a,fP,yZ,e1,oU,na,keep ha (λe=>by rw[e,WB]at ha;cases ha),keepR nP,Wy,pG}
    ·exact{z,rl,ys,rows,rfl,zp,E4,keep Ea nrd,keepR qS,Wx,qV}
   have fin2:∀(H5:Hp)(q:L2.St),q=[some (V.ref fe),some (.ref nl),some (.ref vl),some (.ref d),some (.str z),some (.ref rl),y6]->eJ K fe H5->Ext fe H2 H5->(∃(x4 x5 x6:Aap)(zl:List (Key×V)),q=[some (.ref fe),some (.ref nl),some (.ref vl),some (.ref d),x4,x5,x6]/\eJ K fe H5/\Ext fe H H5/\H5 d=some (.dK zl)/\(zl.map (·.1)).Nodup/\zl.length<=i+1/\∀kv∈zl,BG fe H5 kv):=λH5 q eq uA pJ=>
    {_,_,_,kvs,eq,uA,uB.trans pJ,pJ _ _ nd hd2,My,by lia,λkv h=>(Fm kv h).keep pJ}
   with_reducible change Ir _ _ _ _ _
   refine IK λR hR=>?_;have second:∀(H5:Hp)(ys:Aao)(rows:Aab),eJ K fe H5->Ext fe H2 H5->H5 rl=some (-48)->pX fe H5 ys rows->(∀r∈rows,oN r)->rows.length<=7->R [some (V.ref fe),some (.ref nl),some (.ref vl),some (.ref d),some (.str z),some (.ref rl),y6] H5:=by
    intro H5 ys rows uA pJ Ea qS Wx qV;refine hR _ _ ?_;refine{_,rfl,_,_,rfl,.inl {_,bo.of Ea,rfl},_,_,rfl,rfl,_,rfl,?_};refine fZ (λc=>?_) (λc=>?_)
    ·refine Ge ?_;exact{_,rfl,_,rfl,_,rfl,d,_,rfl,.inl {kvs,Sum.inr z,pJ _ _ nd hd2,rfl,bO ∅,rfl},fin H5 ys rows uA pJ Ea qS Wx qV}
    ·refine{_,rfl,fe,3,rfl,uA,by decide,by decide,λi6 H6 k0 k1 Ai qz=>{rfl,_,rfl,?_}};have Gi:=pJ.trans qz;refine fZ (λc=>?_) (λc=>?_)
     ·exact{_,rfl,_,rfl,_,rfl,d,_,rfl,.inl {kvs,Sum.inr z,Gi _ _ nd hd2,rfl,bO ∅,rfl},fin H6 ys rows Ai Gi (qz _ _ E4 Ea) (oE qS qz) Wx qV}
     ·exact fin2 H6 _ rfl Ai Gi
   refine{_,rfl,_,_,rfl,.inl {_,bo.of Gf,rfl},_,_,rfl,rfl,_,rfl,?_};refine fZ (λc=>?_) (λc=>?_)
   ·have c:(1:Int)<(ys.length:Int):=bw c;refine{_,rfl,fe,4,rfl,Aj,by decide,by decide,λi6 H6 k0 k1 Ai qz=>{rfl,_,rfl,?_}};have Gi:=Al.trans qz;have vP:=qz _ _ E4 Gf;have Wt:=oE tL qz;refine fZ (λc=>?_) (λc=>?_)
    ·match ys,rows,Wt,vP,Ho,Ry,ly with
     |[],_,_,_,_,_,_=>simp at*
     |y::fP,r::yZ,Wt,vP,Ho,Ry,ly=>
      refine{_,rfl,.inl {rfl,_,bo.of vP},_,rfl,_,_,_,_,rfl,rfl,bo.of vP,(jv (j:=0) rfl:v3 (y::fP) 0=some y),_,_,_,rfl,rfl,vP,bO ∅,?_};have Hh:pX fe (upd H6 rl (.lst (y::fP++[y]))) (y::fP++[y]) (r::yZ++[r]):=by
       have kp:∀(y:V)(r:Aah),(∃b,y=.ref b/\b≠fe/\H6 b=some (.tup (r.map V.str)))->∃b,y=.ref b/\b≠fe/\upd H6 rl (.lst (y::fP++[y])) b=some (.tup (r.map V.str)):=λy r ⟨b,e1,nb,hb⟩=>{b,e1,nb,by rw[aw (wJ hb vP λz=>by cases z)];exact hb};have kp:∀(o:HO)(y:V)(r:Aah),(∃b,y=.ref b/\b≠fe/\H6 b=some (.tup (r.map V.str)))->∃b,y=.ref b/\b≠fe/\upd H6 rl o b=some (.tup (r.map V.str)):=λo y r ⟨b,e1,nb,hb⟩=>{b,e1,nb,by rw[aw (wJ hb vP λz=>by cases z)];exact hb};cases Wt with
       |cons h0 ht=>exact Paired.NA (.cons (kp _ _ _ h0) (Paired.qM ht (kp _))) (kp _ _ _ h0)
      refine second _ _ (r::yZ++[r]) (Ai.lst vP E4 _) (Gi.own C8 _) ar Hh (λr' h=>?_) (by rw[aK,Ry];show i3.toNat+1<=7;lia);rcases aS.mp h with q|q
      ·exact Ho r' q
      ·rw[ay.mp q];exact Ho r ax
    ·exact second H6 ys rows Ai Gi vP Wt Ho ∅
   ·exact nO (second H4 ys rows Aj Al Gf tL Ho ∅)
 ·rintro Z H2 ⟨x4,x5,x6,kvs,rfl,tR,uB,hd2,My,iX,Fm⟩;rw[ag]at iX;exact{_,rfl,k d kvs H2 tR uB {nd,hd2,My,by lia,Fm} hd}
def gA(H H':Hp):Prop:=∀b xs,H b=some (.tup xs)->H' b=some (.tup xs)
def gA.trans(a:gA H H1)(b:gA H1 H2):gA H H2:=λc xs h=>b c xs (a c xs h)
def gA.refl(H:Hp):gA H H:=λ_ _ h=>h
def gA.new(a:gA H H1)(h:H1 p=none)(o:HO):gA H (upd H1 p o):=λb xs q=>by rw[aw (aW (a b xs q) h)];exact a b xs q
def gA.lst(a:gA H H1)(h:H1 p=some (-48))(o:HO):gA H (upd H1 p o):=λb xs q=>by rw[aw (wJ (a b xs q) h λz=>by cases z)];exact a b xs q
def gA.ext(hf:H f=some (-48))(a:Ext f H H1):gA H H1:=λb xs q=>a b _ (wJ q hf λz=>by cases z) q
def eJ.ny{K:Frag}(h:eJ K f H)(a:Ext f H H1):gA H H1:=by obtain⟨_,_,_,_,_,hf,_⟩:=h;exact gA.ext hf a
def ot(H:Hp)(v:V)(a:Str×Aah):Prop:=∃(p t:Addr),v=.ref p/\H p=some (.tup [.str a.1,.ref t])/\H t=some (.tup (a.2.map V.str))
abbrev gF(H:Hp):Aao->Aaa->Prop:=Paired (ot H)
def ot.keep(a:gA H H')(h:ot H v b):ot H' v b:=by obtain⟨p,t,e,h1,h2⟩:=h;exact{p,t,e,a _ _ h1,a _ _ h2}
def gF.keep(a:gA H H')(h:gF H vs ats):gF H' vs ats:=Paired.imp' (λ_ _ q=>q.keep a) h
def rh(H:Hp)(v:V)(hz:Aah)(ats:Aaa):Prop:=∃(q h a:Addr)(vs:Aao),v=.ref q/\H q=some (.tup [.ref h,.ref a])/\H h=some (.tup (hz.map V.str))/\H a=some (.tup vs)/\gF H vs ats
def zG:Aah:=tH
def b8(ats:Aaa):Aah:=(ats.map (·.2)).flatten
def OL(l:Aaa)(a:Str×Aah):b8 (l++[a])=b8 l++a.2:=by unfold b8;rw[aM,List.flatten_append];simp
def zu{ats:Aaa}(h:ats[i]?=some a):b8 (ats.take (i+1))=b8 (ats.take i)++a.2:=by rw[aV,h];exact OL _ _
def Xh:(cM.all λz=>!isUnk z)=true:=by decide+kernel
def pR(hz:Aah)(ats:Aaa):Prop:=hz.length<=4/\∀z∈hz,z∈iS/\(isUnk z=true->z∈b8 ats)
def u5(H:Hp)(p:Addr)(zs:Aah):Prop:=H p=some (.lst (zs.map V.str))/\1<=zs.length/\zs.length<=8/\∀z∈zs,z∈iS
def Good(ats:Aaa):Prop:=∀a∈ats,a.2.length<=4/\(∀z∈a.2,z∈iS)/\1<=a.2.length/\a.1∈zG
end
inductive EJ(K:Frag)(vs:Aao)(H:Hp)(Q:VK)(_x3:XK):Prop
 |mk (f nl vl:Addr) (most:Int) (pB oP:Aah) (_:vs=[.ref f,.ref nl,.ref vl,.int most]) (_:eJ K f H) (_:nl≠f) (_:vl≠f) (_:H nl=some (.lst (pB.map V.str))) (_:1<=pB.length) (_:pB.length<=8) (_:(∀z∈pB,z∈zG)) (_:u5 H vl oP) (_:(∀z∈oP,z∈cM)) (_:1<=most) (_:most<=8) (_:∀(r:Addr)(hz:Aah)(ats:Aaa)(H':Hp),eJ K f H'->Ext f H H'->rh H' (.ref r) hz ats->1<=ats.length->(ats.length:Int)<=most->Good ats->pR hz ats->Q (.ref r) H')
section
variable{P:Program}{w:World}{K:Frag}{mg:Aad}{base:Heap}
structure Dr3(P:Program)(w:World)(K:Frag)(mg:Aad)(base:Heap):Prop extends Dr2 P w K mg base where
 D8:eG P w K mg base 2 "_law_length" ["_law_feed_here","_law_name"] (DG K)
def TX(h:Good ats):∀z∈b8 ats,z∈iS:=λz hz=>by obtain⟨ts,h1,h2⟩:=mn.mp hz;obtain⟨a,h3,rfl⟩:=aA.mp h1;exact(h a h3).2.1 z h2
theorem Ci:∀l:Aaa,(∀a∈l,a.2.length<=4)->(b8 l).length<=4*l.length
 |[],_=>ak _
 |a::r,q=>by have h1:=Ci r λts m6=>q ts (az _ m6);have h2:=q a ax;show(a.2++b8 r).length<=_;rw[aK,bK];lia
def JQ(h:Good ats)(n:Nat):(b8 (ats.take n)).length<=4*n:=by
 have h1:=Ci (ats.take n) λts m6=>(h ts (fq m6)).1;have h2:(ats.take n).length<=n:=by rw[aL];lia
 lia
def dZ:cz ["_law_feed_here","_law_names_here","_law_values_here","_law_most","_law_unknowns","_law_atoms","_law_k","_law_name","_law_terms","_law_j","_law_some","_law_head"] ["_law_feed_here","_law_names_here","_law_values_here","_law_most"] (bQ vz):=jV (-3)
def kg(h:∀T,T=u->Ir t T D Z H):Ir t u D Z H:=h u rfl
def Li(F:fG K "_law_question" "_law_question" vz f fd)(T:Txt K mg)(D:Dr3 P w K mg base):dh P w K mg base fW 3 f fd ["_law_feed_here","_law_names_here","_law_values_here","_law_most"] (EJ K):=by
 refine F.ok dZ (λ_ _ _ _ h=>by cases h;subst_vars;rfl) (-6);obtain⟨fe,nl,vl,most,pB,oP,rfl,hF,E6,A5,Hj,Ro,C9,hn3,yi,hvp,hm1,Rq,k⟩:=h;refine{_,(aO (gn 4 dZ (cl D.JR hr (pA (pv 0) (gY (fT eI (fT eI (fT eI (pA eI eI eI))))) (d6 ki bg (-35))))) (aO (gn 5 dZ (gY jh)) (aO (fg bJ rfl (lV rfl T.qu (cH (d6 ki bg (cl D.jG hr (fu (pv 0) (pv 3)))))) (jg 6 dZ) (aO (gn 7 dZ (dj fU (pv 1) (cl D.jG hr (fu (pv 0) (cA gz rfl T.jO cL (cH (pv 1))))) (-15))) (aO (gn 8 dZ (gY jh)) (aO (fg bJ rfl (lV rfl T.qu (cH (cl D.D8 hr (fu (pv 0) (pv 7))))) (jg 9 dZ) (aO (gn 10 dZ (dj fU (gY (fT (pv 4) (fT (pv 4) (pA (pv 4) (pv 4) (pv 2))))) (-35) (-15))) (aY (kH (mX cQ dO dM lW (pv 8) (cH (dj fU (pv 10) (cl D.jG hr (fu (pv 0) (cA gz rfl T.jO cL (cH (pv 10))))) (-15)))))))) (aY (kH (mX cQ dO dM lW (pv 5) (cH (kh (fu (pv 7) (d7 fD rfl T.j7 (-3) (cH (pv 8))))))))))))) (aO (gn 10 dZ (gY jh)) (aO (fg bJ rfl (fS (pv 5)) (mE rfl (df (jg 7 dZ) (df (jg 8 dZ) j6))) (aY (kH (mX cQ v9 v8 N6 (pv 10) (cH (pv 8)))))) (aO (gn 11 dZ (gY jh)) (aO (fg bJ rfl (lV rfl T.qu (cH (-35))) (jg 6 dZ) (aY (kH (mX cQ dO dM lW (pv 11) (cH (dj fU (d6 Jx (pv 10) (pv 2)) (cl D.jG hr (fu (pv 0) (d6 ki (cA gz rfl T.jO cL (cH (pv 10))) (cA gz rfl T.jO cL (cH (pv 2)))))) (-15))))))) (aY (cN (kh (fu (d7 fD rfl T.j7 (-3) (cH (pv 11))) (d7 fD rfl T.j7 (-3) (cH (pv 5)))))))))))))),?_}
 refine kg λT1 e1=>?_;refine{_,rfl,(by show 6<=sizeLine;decide),λp hp=>?_};have np:=hF.vJ hp;refine{_,rfl,fe,4,rfl,hF.new hp _,by decide,by decide,λi H1 i0 i1 vT qA=>?_};have Bq:=qA p _ np ar;refine{_,_,rfl,rfl,fe,p,_,_,rfl,vT,np,Bq,by decide,by decide,by lia,by lia,λu ys H2 tR uB nu yl hl hy=>?_};obtain⟨us,rfl,Wk⟩:=Ca (texts:=je) hy;rw[ag]at hl;have x2:Ext fe H H2:=((Ext.refl fe H).new hp _).trans (qA.trans uB);have hU2:u5 H2 u us:={yl,by lia,by lia,λz hz=>dD _ (dD _ (Wk z hz))};show T1 _ _ _;subst e1;refine kg λT2 e2=>?_;refine{(-53),λat' RG=>?_};have na:=tR.vJ RG;have aeh:H at'=none:=x2.none na RG;have sV:∀{H3 H4:Hp}{q:Addr}{zs:Aah},q≠fe->Ext fe H3 H4->u5 H3 q zs->u5 H4 q zs:=λn e h=>{e _ _ n h.1,h.2};have nua:u≠at':=aW hU2.1 RG;show T2 _ _ _;subst e2;refine kg λT3 e3=>?_;refine{_,rfl,_,rfl,fe,most,rfl,tR.new RG _,by lia,by lia,λi3 H3 j0 j1 RQ KC=>?_};refine{_,_,rfl,rfl,_,rfl,by lia,by lia,qy (lo:=0) (n:=(1+i3).toNat)
  (λi Z H4=>∃(x6 x7 x8 x9 GA:Aap)(eR:Aao)(ats:Aaa),Z=[some (.ref fe),some (.ref nl),some (.ref vl),some (.int most),some (.ref u),some (.ref at'),x6,x7,x8,x9,GA,none]/\eJ K fe H4/\Ext fe H H4/\H4 at'=some (.lst eR)/\gF H4 eR ats/\ats.length=i/\Good ats/\u5 H4 u us) ?_ ?_ ?_}
 ·refine{none,none,none,none,none,[],[],rfl,RQ,(x2.new RG _).trans KC,KC _ _ na ar,.nil,rfl,λts h=>by(cases h),sV nu KC {?_,hU2.2}};rw[aw nua];exact hU2.1
 ·rintro i Z H4 hi ⟨x6,x7,x8,x9,GA,eR,ats,rfl,Aj,Al,RR,mP,hlen,good,hU4⟩;refine kg λT4 e4=>?_;have ad4:=Al _ _ E6 Hj;have lnm:(pB.map V.str).length=pB.length:=ag _;refine{_,rfl,_,rfl,_,rfl,_,_,rfl,.inl {_,bo.of ad4,rfl},fe,_,rfl,Aj,by lia,by lia,λi5 H5 k0 k1 uA pJ=>?_};have UT:=Al.trans pJ;obtain⟨z,hz,ev⟩:=DU (zs:=pB) k0 ∅;refine{_,_,_,_,rfl,rfl,bo.of (UT _ _ E6 Hj),ev,?_};show T4 _ _ _;subst e4;refine kg λT5 e5=>?_;refine{(-53),λt ht=>?_};have nt:=uA.vJ ht;have Wq:H t=none:=UT.none nt ht;have Kv:=pJ _ _ na RR;have hU5:=sV nu pJ hU4;have nta:at'≠t:=aW Kv ht;have nut:u≠t:=aW hU5.1 ht;show T5 _ _ _;subst e5;refine kg λT6 e6=>?_;refine{_,rfl,_,rfl,fe,z,rfl,uA.new ht _,λi6 H6 l1 l2 Ai qz=>?_};refine{_,rfl,by lia,by lia,qy (lo:=0) (n:=i6.toNat)
   (λj Z H7=>∃(y9 Y6:Aap)(ts:Aah),Z=[some (.ref fe),some (.ref nl),some (.ref vl),some (.int most),some (.ref u),some (.ref at'),some (.int (0+(i:Int))),some (.str z),some (.ref t),y9,Y6,none]/\eJ K fe H7/\Ext fe H H7/\H7 at'=some (.lst eR)/\gF H7 eR ats/\u5 H7 u us/\H7 t=some (.lst (ts.map V.str))/\ts.length=j/\∀z∈ts,z∈iS) ?_ ?_ ?_}
  ·have tu:gA H4 H6:=(Aj.ny pJ).trans (((gA.refl _).new ht _).trans ((uA.new ht _).ny qz));refine{x9,GA,[],rfl,Ai,(UT.new ht _).trans qz,?_,mP.keep tu,sV nu qz {?_,hU5.2},qz _ _ nt ar,rfl,λz h=>by(cases h)}
   ·exact qz _ _ na (by rw[aw nta];exact Kv)
   ·rw[aw nut];exact hU5.1
  ·rintro j Z H7 hj ⟨y9,Y6,ts,rfl,wZ,tS,Dh,uW,Ah,MG,bU,m6⟩;have hV7:u5 H7 vl oP:=sV A5 tS yi;refine kg λT7 e7=>?_;refine{_,rfl,_,rfl,_,rfl,_,rfl,_,rfl,(by show 5<=sizeLine;decide),λp8 Rl=>?_};have np8:=wZ.vJ Rl;refine{_,rfl,fe,5,rfl,wZ.new Rl _,by decide,by decide,λi8 H8 m0 m1 wY Hu=>?_};have zv:Ext fe H7 H8:=((Ext.refl fe H7).new Rl _).trans Hu;have tu8:gA H7 H8:=((gA.refl _).new Rl _).trans ((wZ.new Rl _).ny Hu);obtain⟨wa,ws,hw,nw,ev8⟩:∃wa ws,u5 H8 wa ws/\wa≠fe/\v3 [V.ref u,.ref u,.ref u,.ref u,.ref vl] i8=some (.ref wa):=by
    have c:i8=0\/i8=1\/i8=2\/i8=3\/i8=4:=by lia
    rcases c with rfl|rfl|rfl|rfl|rfl
    ·exact{u,us,sV nu zv Ah,nu,rfl}
    ·exact{u,us,sV nu zv Ah,nu,rfl}
    ·exact{u,us,sV nu zv Ah,nu,rfl}
    ·exact{u,us,sV nu zv Ah,nu,rfl}
    ·exact{vl,oP,sV A5 zv hV7,A5,rfl}
   refine{_,_,_,_,rfl,rfl,bo.of (Hu _ _ np8 ar),ev8,?_};show T7 _ _ _;subst e7;have Kc:=zv _ _ nt MG;have QF:(ws.map V.str).length=ws.length:=ag _;have hw1:=hw.2.1;have J3:=hw.2.2.1;refine{_,rfl,.inl {rfl,_,bo.of Kc},_,rfl,_,rfl,_,rfl,_,_,rfl,.inl {_,bo.of hw.1,rfl},fe,_,rfl,wY,by lia,by lia,λi9 H9 n0 n1 Ku Ft=>?_};obtain⟨z9,uw,ev9⟩:=DU (zs:=ws) n0 ∅;have ht9:=Ft _ _ nt Kc;refine{_,_,_,_,rfl,rfl,bo.of (Ft _ _ nw hw.1),ev9,_,_,_,rfl,rfl,ht9,by rw[ag];exact bO ∅,?_};have tu9:gA H7 (upd H9 t (.lst (ts.map V.str++[.str z9]))):=(tu8.trans (wY.ny Ft)).lst ht9 _;refine{_,_,ts++[z9],rfl,Ku.lst ht9 nt _,(tS.trans (zv.trans Ft)).own Wq _,?_,uW.keep tu9,{?_,Ah.2},by rw[ar,aM];rfl,by rw[aK,bU];rfl,λz h=>?_}
   ·rw[aw nta];exact Ft _ _ na (zv _ _ na Dh)
   ·rw[aw nut];exact Ft _ _ nu (zv _ _ nu Ah.1)
   ·rcases aS.mp h with q|q
    ·exact m6 z q
    ·rw[ay.mp q];exact hw.2.2.2 z9 uw
  ·rintro Z H7 ⟨y9,Y6,ts,rfl,wZ,tS,Dh,uW,Ah,MG,bU,m6⟩;show T6 _ _ _;subst e6;refine{_,rfl,.inl {rfl,_,bo.of Dh},_,rfl,_,rfl,_,_,rfl,.inl {bo.of MG,λtt pC=>?_}};refine{(-71),λap Dg=>?_};have CW:=wZ.vJ pC;have wY:=wZ.new pC (.tup (ts.map V.str));have nap:=wY.vJ Dg;have Hq:upd (upd H7 tt (.tup (ts.map V.str))) ap (.tup [.str z,.ref tt]) at'=some (.lst eR):=by rw[aw (aW (by rw[aw (aW Dh pC)];exact Dh) Dg),aw (aW Dh pC)];exact Dh
   have la:eR.length=ats.length:=bp uW;refine{_,_,_,rfl,rfl,Hq,bO ∅,?_};have tu:gA H7 (upd (upd (upd H7 tt (.tup (ts.map V.str))) ap (.tup [.str z,.ref tt])) at' (.lst (eR++[.ref ap]))):=(((gA.refl _).new pC _).new Dg _).lst Hq _;have ac9:tt≠at':=(aW Dh pC).symm;have ac8:ap≠at':=λe=>by rw[e,aw (aW Dh pC),Dh]at Dg;cases Dg
   have ac7:tt≠ap:=λe=>by rw[<-e,ar]at Dg;cases Dg
   refine{_,_,_,_,_,eR++[.ref ap],ats++[(z,ts)],rfl,(wY.new Dg _).lst Hq na _,((tS.new pC _).new Dg _).own aeh _,ar,Paired.NA (uW.keep tu) {ap,tt,rfl,?_,?_},by rw[aK,hlen];rfl,λLM h=>?_,{?_,Ah.2}}
   ·rw[aw ac8,ar]
   ·rw[aw ac9,aw ac7,ar]
   ·rcases aS.mp h with q|q
    ·exact good LM q
    ·rw[ay.mp q];exact{by show ts.length<=4;lia,m6,by show 1<=ts.length;lia,hn3 z hz}
   ·rw[aw nua,aw (aW (by rw[aw (aW Ah.1 pC)];exact Ah.1) Dg),aw (aW Ah.1 pC)];exact Ah.1
 ·rintro Z H4 ⟨x6,x7,x8,x9,GA,eR,ats,rfl,Aj,Al,RR,mP,hlen,good,hU4⟩;have la:eR.length=ats.length:=bp mP;show T3 _ _ _;subst e3;refine kg λT8 e8=>?_;refine{(-53),λsm MK=>?_};have VR:=Aj.vJ MK;have adW:H sm=none:=Al.none VR MK;have nsa:at'≠sm:=aW RR MK;show T8 _ _ _;subst e8;refine kg λT11 e11=>?_;refine{_,rfl,at',rfl,{eR,bo.of (by rw[aw nsa];exact RR)},mi (K:=K) (a:=at') (xs:=eR)
   (λi Z H5=>∃(x7 x8:Aap),Z=[some (.ref fe),some (.ref nl),some (.ref vl),some (.int most),some (.ref u),some (.ref at'),x6,x7,x8,x9,some (.ref sm),none]/\eJ K fe H5/\Ext fe H H5/\H5 at'=some (.lst eR)/\gF H5 eR ats/\H5 sm=some (.lst ((b8 (ats.take i)).map V.str)))
   {x7,x8,rfl,Aj.new MK _,Al.new MK _,by rw[aw nsa];exact RR,mP.keep ((gA.refl _).new MK _),ar} (λi Z H5 _ hq=>by(obtain⟨_,_,_,_,_,h,_⟩:=hq;exact bo.of h)) ?_ ?_}
  ·rintro i x Z H5 hx ⟨x7,x8,rfl,uA,pJ,Kv,HW,Bn⟩;obtain⟨ta,ht,p,t,rfl,hp5,Wn⟩:=Paired.at HW hx;refine{p,_,rfl,bx.of hp5,rfl,_,_,rfl,_,_,rfl,rfl,?_};have g:=good ta (aB ht);have lf:=JQ good i;have hi:i<ats.length:=(ao.mp ht).1;refine{_,rfl,.inl {rfl,_,bo.of Bn},_,rfl,_,_,_,_,rfl,rfl,Bn,bx.of Wn,?_,?_}
   ·rw[ag,ag];exact br (bO ∅)
   ·refine{_,_,rfl,uA.lst Bn VR _,pJ.own adW _,by rw[aw nsa];exact Kv,HW.keep ((gA.refl _).lst Bn _),?_};rw[ar,zu ht,aM]
  ·rintro Z H5 ⟨x7,x8,rfl,uA,pJ,Kv,HW,Bn⟩;rw[la,aT]at Bn;have lf:=JQ good ats.length;rw[aT]at lf;show T11 _ _ _;subst e11;refine kg λT9 e9=>?_;refine{(-53),λhd vR=>?_};have VW:=uA.vJ vR;have aeb:H hd=none:=pJ.none VW vR;have nha:at'≠hd:=aW Kv vR;have nhs:sm≠hd:=aW Bn vR;show T9 _ _ _;subst e9;refine kg λT10 e10=>?_;refine{_,rfl,fe,5,rfl,uA.new vR _,by decide,by decide,λi7 H7 o0 o1 wZ tS=>?_};have tu7:gA H5 H7:=((gA.refl _).new vR _).trans ((uA.new vR _).ny tS);refine{_,rfl,by lia,by lia,qy (lo:=0) (n:=i7.toNat)
    (λi Z H8=>∃(y6:Aap)(hs:Aah),Z=[some (.ref fe),some (.ref nl),some (.ref vl),some (.int most),some (.ref u),some (.ref at'),y6,x7,x8,x9,some (.ref sm),some (.ref hd)]/\eJ K fe H8/\Ext fe H H8/\H8 at'=some (.lst eR)/\gF H8 eR ats/\H8 sm=some (.lst ((b8 ats).map V.str))/\H8 hd=some (.lst (hs.map V.str))/\hs.length=i/\∀z∈hs,z∈iS/\(isUnk z=true->z∈b8 ats)) ?_ ?_ ?_}
   ·exact{x6,[],rfl,wZ,(pJ.new vR _).trans tS,tS _ _ na (by rw[aw nha];exact Kv),HW.keep tu7,tS _ _ VR (by rw[aw nhs];exact Bn),tS _ _ VW ar,rfl,λz h=>by cases h}
   ·rintro i Z H8 hi ⟨y6,hs,rfl,wY,Hu,Hq,OC,Ke,Oy,Rv,Bk⟩;have MX:u5 H8 vl oP:=sV A5 Hu yi;have hv1:=MX.2.1;have J4:=MX.2.2.1;have l1:((b8 ats).map V.str).length=(b8 ats).length:=ag _;have l2:(oP.map V.str).length=oP.length:=ag _;refine{_,rfl,.inl {rfl,_,bo.of Oy},_,rfl,_,rfl,_,_,_,_,rfl,rfl,Ke,MX.1,by rw[l1,l2];exact br (bO ∅),λp9 Kh=>?_};have np9:=wY.vJ Kh;refine{_,rfl,_,rfl,_,_,rfl,.inl {_,bo.of (by rw[aw (aW Ke Kh)];exact Ke),rfl},_,rfl,_,_,rfl,.inl {_,bo.of (by rw[aw (aW MX.1 Kh)];exact MX.1),rfl},_,_,rfl,rfl,fe,_,rfl,wY.new Kh _,by lia,by lia,λWc wk r0 r1 ael UU=>?_};have ad0:=UU _ _ np9 ar;have HY:Ext fe H8 wk:=((Ext.refl fe H8).new Kh _).trans UU;have acB:gA H8 wk:=((gA.refl _).new Kh _).trans ((wY.new Kh _).ny UU);obtain⟨v',hv⟩:∃v,((b8 ats).map V.str++oP.map V.str)[Wc.toNat]?=some v:={_,aq (by rw[aK];lia)};obtain⟨v,rfl,yi⟩:∃z:Str,v'=.str z/\z∈iS/\(isUnk z=true->z∈b8 ats):=by
     rcases aS.mp (aB hv)with h|h
     ·obtain⟨z,hz,rfl⟩:=aA.mp h;exact{z,rfl,TX good z hz,λ_=>hz}
     ·obtain⟨z,hz,rfl⟩:=aA.mp h;refine{z,rfl,MX.2.2.2 z hz,λhu=>?_};have:=dQ.mp Xh z (hvp z hz);rw[hu]at this;cases this
    have ev:v3 ((b8 ats).map V.str++oP.map V.str) Wc=some (.str v):=by
     have e:Wc=((Wc.toNat:Nat):Int):=by lia
     rw[e];exact jv hv
    have Oz:=HY _ _ VW Oy;refine{_,_,_,_,rfl,rfl,bo.of ad0,ev,_,_,_,rfl,rfl,Oz,by rw[ag];exact bO ∅,?_};exact{_,hs++[v],rfl,ael.lst Oz VW _,(Hu.trans HY).own aeb _,by rw[aw nha];exact HY _ _ na Hq,OC.keep (acB.lst Oz _),by rw[aw nhs];exact HY _ _ VR Ke,by rw[ar,aM];rfl,by rw[aK,Rv];rfl,λz h=>by
     rcases aS.mp h with h|h
     ·exact Bk z h
     ·rw[ay.mp h];exact yi}
   ·rintro Z H8 ⟨y6,hs,rfl,wY,Hu,Hq,OC,Ke,Oy,Rv,Bk⟩;show T10 _ _ _;subst e10;refine{_,rfl,_,_,rfl,.inl {bo.of Oy,λth Wm=>?_}};have hA9:upd H8 th (.tup (hs.map V.str)) at'=some (.lst eR):=by rw[aw (aW Hq Wm)];exact Hq
    refine{_,rfl,_,_,rfl,.inl {bo.of hA9,λta Bm=>?_}};refine{(-71),λq hq=>?_};have Ku:=(wY.new Wm (.tup (hs.map V.str))).new Bm (.tup eR);have n1:th≠ta:=λe=>by rw[<-e,ar]at Bm;cases Bm
    have n2:ta≠q:=λe=>by rw[<-e,ar]at hq;cases hq
    have n3:th≠q:=λe=>by rw[<-e,aw n1,ar]at hq;cases hq
    refine k q hs ats _ (Ku.new hq _) (((Hu.new Wm _).new Bm _).new hq _) {q,th,ta,eR,rfl,ar,?_,?_,OC.keep ((((gA.refl _).new Wm _).new Bm _).new hq _)} ∅ ∅ good {by lia,Bk}
    ·rw[aw n3,aw n1,ar]
    ·rw[aw n2,ar]
structure En where
 nm:Str
 ad:Addr
 ys:Aao
 rows:Aab
def g8(e:En):Key×V:=(Sum.inr e.nm,.ref e.ad)
def EB(f:Addr)(H:Hp)(e:En):Prop:=e.nm∈FW/\e.ad≠f/\H e.ad=some (.lst e.ys)/\pX f H e.ys e.rows/\(∀r∈e.rows,oN r)/\e.rows.length<=9
def zI(f:Addr)(H:Hp)(d:Addr)(es:List En):Prop:=d≠f/\H d=some (.dK (es.map g8))/\(es.map (·.nm)).Nodup/\es.length<=4/\∀e∈es,EB f H e
variable{f d:Addr}{H H':Hp}
theorem R4:∀{kvs:List (Key×V)},(∀kv∈kvs,BG f H kv)->∃es:List En,kvs=es.map g8/\∀e∈es,EB f H e/\e.rows.length<=7
 |[],_=>{[],rfl,λe h=>by cases h}
 |kv::r,h=>by
  obtain⟨es,e1,h1⟩:=R4 (kvs:=r) λkv hk=>h kv (az _ hk);obtain⟨z,a,ys,rows,e2,hz,na,ha,hr,hg,hl⟩:=h kv ax;refine{⟨z,a,ys,rows⟩::es,by rw[aR,<-e1,e2];rfl,λe he=>?_};rcases aG.mp he with rfl|he
  ·exact{{hz,na,ha,hr,hg,aC hl (-8)},hl}
  ·exact h1 e he
def Qv(es:List En):(es.map g8).map (·.1)=(es.map (·.nm)).map (Sum.inr:Str->Key):=by rw[bX,bX];rfl
def G1{l:Aah}:(l.map (Sum.inr:Str->Key)).Nodup↔l.Nodup:=by
 induction l with
 |nil=>exact{λ_=>lQ,λ_=>lQ}
 |cons a r ih=>
  rw[aR,cU,cU,ih];refine and_congr_left λ_=>not_congr {λh=>?_,λh=>mR h};obtain⟨b,hb,e⟩:=aA.mp h;cases e;exact hb
def TabAt.tabs(h:TabAt f H d kvs):∃es,kvs=es.map g8/\zI f H d es/\∀e∈es,e.rows.length<=7:=by obtain⟨n,hd,nd,hl,he⟩:=h;obtain⟨es,rfl,ho⟩:=R4 he;rw[Qv]at nd;exact{es,rfl,{n,hd,G1.mp nd,by rw[ag]at hl;exact hl,λe he=>(ho e he).1},λe he=>(ho e he).2}
def EB.keep(h:EB f H e)(x:Ext f H H'):EB f H' e:={h.1,h.2.1,x _ _ h.2.1 h.2.2.1,oE h.2.2.2.1 x,h.2.2.2.2}
def zI.keep(h:zI f H d es)(x:Ext f H H'):zI f H' d es:={h.1,x _ _ h.1 h.2.1,h.2.2.1,h.2.2.2.1,λe he=>(h.2.2.2.2 e he).keep x}
theorem B8:∀{es:List En},(es.map (·.nm)).Nodup->∀{e:En},e∈es->fb (es.map g8) (Sum.inr e.nm)=some (.ref e.ad)
 |[],_,e,h=>by cases h
 |a::r,nd,e,h=>by
  rw[aR,cU]at nd;rcases aG.mp h with rfl|h
  ·exact hJ rfl
  ·have ne:¬(g8 a).1=Sum.inr e.nm:=λq=>nd.1 (by
    have:a.nm=e.nm:=by injection q
    rw[this];exact mR h)
   rw[aR,gO ne];exact B8 nd.2 h
theorem Ih:∀{es:List En}{z:Str},z∉es.map (·.nm)->fb (es.map g8) (Sum.inr z:Key)=none
 |[],_,_=>rfl
 |a::r,z,h=>by rw[aR,aG]at h;have ne:¬(g8 a).1=Sum.inr z:=λq=>h (.inl (by injection q with q;exact q.symm));rw[aR,gO ne];exact Ih λq=>h (.inr q)
def bZ(es:List En)(z:Str):Aab:=match es.find? (λe=>decide (e.nm=z))with
 |some e=>e.rows
 |none=>[]
theorem IW:∀{es:List En},(es.map (·.nm)).Nodup->∀{e:En},e∈es->bZ es e.nm=e.rows
 |[],_,e,h=>by cases h
 |a::r,nd,e,h=>by
  rw[aR,cU]at nd;unfold bZ;rcases aG.mp h with rfl|h
  ·rw[gJ (p:=λx:En=>decide (x.nm=e.nm)) (ba rfl)]
  ·have ne:¬decide (a.nm=e.nm)=true:=λq=>nd.1 (by
    rw[bw q];exact mR h)
   rw[gK (p:=λx:En=>decide (x.nm=e.nm)) ne];exact IW nd.2 h
end
section
variable{P:Program}{w:World}{K:Frag}{mg:Aad}{base:Heap}
structure iT(K:Frag)(H:Hp)(p:Addr)(fs:List En):Prop where
 at_:H p=some (.dK (fs.map g8))
 nm:(fs.map (·.nm)).Nodup
 en:∀e∈fs,H e.ad=some (.lst e.ys)/\fE K H e.ys e.rows/\e.rows.length<=9/\∀r∈e.rows,oN r
def iZ(h:fE K H ys rows)(s:bA H H'):fE K H' ys rows:=h.keep λa xs q=>by
 rcases q with(q|⟨o,q⟩)|q
 ·exact .inl (.inl (s _ _ q))
 ·exact .inl (.inr {o,s _ _ q})
 ·exact .inr q
def gP(q:bx K H a xs)(s:bA H H'):bx K H' a xs:=by
 rcases q with(q|⟨o,q⟩)|q
 ·exact .inl (.inl (s _ _ q))
 ·exact .inl (.inr {o,s _ _ q})
 ·exact .inr q
def iT.same(x:iT K H p fs)(s:bA H H'):iT K H' p fs:={s _ _ x.at_,x.nm,λe he=>by obtain⟨h1,h2,h3⟩:=x.en e he;exact{s _ _ h1,iZ h2 s,h3}}
def Kw(x:iT K H p fs)(h0:H l0=some (.lst []))(z:Str):∃q ys,(fb (fs.map g8) (Sum.inr z:Key)).getD (.ref l0)=.ref q/\H q=some (-48)/\fE K H ys (bZ fs z)/\(bZ fs z).length<=9/\∀r∈bZ fs z,oN r:=by
 cases q:fs.find? (λe=>decide (e.nm=z))with
 |none=>
  have n:z∉fs.map (·.nm):=λh=>by obtain⟨e,he,rfl⟩:=aA.mp h;have:=BU.mp q e he;exact this (ba rfl)
  have er:bZ fs z=[]:=by unfold bZ;rw[q]
  rw[er,Ih n];exact{l0,[],rfl,h0,.nil,aP _,λr h=>by cases h}
 |some e=>
  have he:=jS q;have e1:e.nm=z:=bw (List.find?_some (p:=λe:En=>decide (e.nm=z)) q);subst e1;rw[B8 x.nm he,IW x.nm he];obtain⟨h1,h2,h3,h4⟩:=x.en e he;exact{e.ad,e.ys,rfl,h1,h2,h3,h4}
inductive IA(K:Frag)(vs:Aao)(H:Hp)(Q:VK)(_x3:XK):Prop
 |mk (d:Addr) (fs:List En) (z:Str) (_:vs=[.ref d,.str z]) (_:iT K H d fs) (_:∀(l:Addr)(zs:Aao)(H':Hp),bA H H'->H l=none->H' l=some (.lst zs)->fE K H' zs (uM (bZ fs z))->Q (.ref l) H')
def ND:cz ["tables","name"] ["tables","name"] (bQ AM):=jV (-3)
def N0(F:fG K "rows_of" "rows_of" AM f fd)(T:Txt K mg):dh P w K mg base fW 1 f fd ["tables","name"] (IA K):=by
 refine F.ok ND (λ_ _ _ _ h=>by cases h;subst_vars;rfl) (-6);obtain⟨d,fs,z,rfl,hT,k⟩:=h;have hu:=jQ hr;refine{_,(aY (cN (cA (Gs hr.hd) rfl T.zg (-3) (cH (d7 (Sr hr.hd hr.units) rfl T.ab4 (-3) (cH (vF hu (pv 0) (pv 1) (gY jh) V1))))))),?_};refine{_,rfl,d,rfl,.inl {_,.inl hT.at_},_,rfl,(-53),λl0 qw=>?_};have PR:bA H (upd H l0 (.lst [])):=aN qw _;have h0:upd H l0 (.lst []) l0=some (.lst []):=ar;generalize (upd H l0 (.lst []))=H0 at PR h0⊢;obtain⟨q,ys,eq,hq,hR,Rr,hg⟩:=Kw (hT.same PR) h0 z;refine{_,kF.k (k:=Sum.inr z) (PR _ _ hT.at_),?_};rw[eq];refine{q,ys,bZ fs z,rfl,bo.of hq,hR,by lia,λa us ha0 nu mu lu Wk=>?_};have VF:bA H0 (upd H0 a (.ext (v5 P w a us))):=aN ha0 _;have ha1:upd H0 a (.ext (v5 P w a us)) a=some (.ext (v5 P w a us)):=ar;refine{a,us,ys,rfl,ha1,λx hx=>{gP (Wk x hx).1 VF,(Wk x hx).2},λ_ x hx=>?_,by lia,λl zs hl qT _=>?_}
 ·have:=hg x.1 ((mu x.1).mp (mR hx));intro q;have:=this.1;rw[q]at this;cases this
 ·replace hl:upd H0 a (.ext (v5 P w a us)) l=none:=hl
  have sm2:bA (upd H0 a (.ext (v5 P w a us))) (upd (upd H0 a (.ext (v5 P w a us))) l (.lst zs)):=aN hl _;have sm:=PR.trans (VF.trans sm2);rw[DE nu mu]at qT;refine k l zs _ sm ?_ ar (iZ qT sm2);cases q:H l with
  |none=>rfl
  |some o=>
   rw[VF _ _ (PR _ _ q)]at hl;cases hl
def step(acc:Aah)(t:Str):Aah:=if isUnk t=true then(if t∈acc then acc else acc++[t])else acc
def dc(fl:Aah):Aah:=fl.foldl step []
def Uc(acc:Aah)(t:Str):(step acc t).length<=acc.length+1:=by
 unfold step;split
 ·split
  ·lia
  ·rw[aK];exact ak _
 ·lia
theorem JP:∀(fl acc:Aah),(fl.foldl step acc).length<=acc.length+fl.length
 |[],acc=>by simp
 |t::r,acc=>by have h1:=JP r (step acc t);have h2:=Uc acc t;rw[jA,bK];lia
def Gb(fl:Aah):(dc fl).length<=fl.length:=by have:=JP fl [];simpa[dc]using this
def Ij(fl:Aah)(t:Str):dc (fl++[t])=step (dc fl) t:=by unfold dc;rw[uF];rfl
def qP(acc:Aah):List (Key×V):=acc.map λt=>(Sum.inr t,V.bl true)
def any_keys(acc:Aah)(t:Str):((qP acc).any λkv=>decide (kv.1=(Sum.inr t:Key)))=decide (t∈acc):=by
 unfold qP;rw[List.any_map,iu,kr];constructor
 ·rintro⟨x,hx,e⟩;have e':(Sum.inr x:Key)=Sum.inr t:=bw e;injection e' with e';exact ba (e'▸hx)
 ·intro h;exact{t,bw h,ba rfl}
def IZ(acc:Aah)(t:Str):putK (qP acc) (Sum.inr t:Key) (V.bl true)=qP (if t∈acc then acc else acc++[t]):=by
 unfold putK;rw[any_keys];by_cases h:t∈acc
 ·rw[ba h,aD rfl,aD h];unfold qP;rw[bX];refine bH λx _=>?_;show(if(Sum.inr x:Key)=Sum.inr t then((Sum.inr x:Key),V.bl true)else(Sum.inr x,V.bl true))=_;split<;>rfl
 ·rw[bC h,au aU,au h];unfold qP;rw[aM];rfl
def QN(acc:Aah):((qP acc).map λkv=>kV kv.1)=acc.map V.str:=by unfold qP;rw[bX];rfl
def GoodG(ats:Aaa):Prop:=∀a∈ats,a.2.length<=4/\∀z∈a.2,z.length<=1000
inductive PB(vs:Aao)(H:Hp)(Q:VK)(_x3:XK):Prop
 |mk (v:V) (hz:Aah) (ats:Aaa) (_:vs=[v]) (_:rh H v hz ats) (_:GoodG ats) (_:ats.length<=100) (_:∀(r:Addr)(H':Hp),bA H H'->H r=none->H' r=some (.lst ((dc (b8 ats)).map V.str))->Q (.ref r) H')
def QD(h:z∈acc):z∈step acc t:=by
 unfold step;split
 ·split
  ·exact h
  ·exact dD _ h
 ·exact h
def QC(h:isUnk z=true):z∈step acc z:=by
 unfold step;rw[aD h];split
 ·assumption
 ·exact b7 _ (ay.mpr rfl)
theorem G4:∀{fl acc:Aah},z∈acc\/(isUnk z=true/\z∈fl)->z∈fl.foldl step acc
 |[],acc,h=>by
  rcases h with h|⟨_,h⟩
  ·exact h
  ·cases h
 |t::r,acc,h=>by
  rw[jA];refine G4 ?_;rcases h with h|⟨hu,h⟩
  ·exact .inl (QD h)
  ·rcases aG.mp h with e|h
   ·subst e;exact .inl (QC hu)
   ·exact .inr ⟨hu,h⟩
def Yc(hu:isUnk z=true)(h:z∈fl):z∈dc fl:=G4 (.inr ⟨hu,h⟩)
def Cn(z:Str)(l:Aah):V9 (.str z) (l.map V.str)=decide (z∈l):=by
 unfold V9;rw[List.any_map,iu,kr];constructor
 ·rintro⟨y,hy,e⟩;have e':(y==z)=true:=e;rw[iE e']at hy;exact ba hy
 ·intro h;exact{z,bw h,by show(z==z)=true;simp}
def w4(acc:Aah):(acc.map V.str).all uX=true:=by rw[List.all_map];exact dQ.mpr λ_ _=>rfl
def iA{zs:Aah}{i:Nat}(h:(zs.map V.str)[i]?=some y):∃z,zs[i]?=some z/\y=V.str z:=by
 rw[aJ]at h;cases e:zs[i]? with
 |none=>rw[e]at h;cases h
 |some z=>rw[e]at h;exact{z,rfl,(bS h).symm}
theorem vc:∀{fl acc:Aah},z∈fl.foldl step acc->z∈acc\/z∈fl
 |[],acc,h=>.inl h
 |t::r,acc,h=>by
  rw[jA]at h;rcases vc h with h|h
  ·unfold step at h;split at h
   ·split at h
    ·exact .inl h
    ·rcases aS.mp h with h|h
     ·exact .inl h
     ·exact .inr (aG.mpr (.inl (ay.mp h)))
   ·exact .inl h
  ·exact .inr (az _ h)
end
structure Dv2(P:Program)(w:World)(K:Frag)(mg:Aad)(base:Heap):Prop extends Dv P w K mg base where
 Oe:eG P w K mg base 2 "is_unknown" ["thing"] VE
section
variable{P:Program}{w:World}{K:Frag}{mg:Aad}{base:Heap}
def oC:cz ["question","found","atom","term"] ["question"] (bQ t6):=jV (-3)
def F7(F:fG K "unknowns_of" "unknowns_of" t6 f fd)(T:Txt K mg)(D:Dv2 P w K mg base):dh P w K mg base fW 3 f fd ["question"] PB:=by
 refine F.ok oC (λ_ _ _ _ h=>by cases h;subst_vars;rfl) (-6);obtain⟨v,hz0,ats,rfl,⟨q,hd,aa,eR,rfl,hq,vR,yr,mP⟩,good,hlen,k⟩:=h;have hu:=jQ hr;refine{_,(aO (gn 1 oC mh) (aO (fg bJ rfl (nK (dj kj (pv 0) bg (-15))) (jg 2 oC) (aY (fg bJ rfl (nK (dj kj (pv 2) bg (-15))) (jg 3 oC) (aY (iJ (mD (cl D.Oe hr (cH (pv 3)))) (aY (xR hu (pv 1) (pv 3) pU rfl)) fm))))) (aY (cN (d7 (Gu rfl) rfl T.A8 (-3) (cH (pv 1))))))),?_}
 have la:eR.length=ats.length:=bp mP;intro d iM;refine{_,rfl,_,_,_,_,rfl,rfl,bx.of (aN iM _ _ _ hq),rfl,aa,rfl,{eR,bx.of (aN iM _ _ _ yr)},Cp (K:=K) (a:=aa) (xs:=eR)
  (λi Z H2=>∃(x2 x3:Aap),Z=[some (.ref q),some (.ref d),x2,x3]/\bA H H2/\H2 d=some (.dK (qP (dc (b8 (ats.take i)))))) {none,none,rfl,aN iM _,ar} (λi Z H2 _ hq=>by(obtain⟨_,_,_,sm,_⟩:=hq;exact bx.of (sm _ _ yr))) ?_ ?_}
 ·rintro i x Z H2 hx ⟨x2,x3,rfl,sm,hd2⟩;obtain⟨ta,ht,p,t,rfl,hp,pC⟩:=Paired.at mP hx;have g:=good ta (aB ht);have hi:i<ats.length:=(ao.mp ht).1;have lf:=Ci (ats.take i) λa ha=>(good a (fq ha)).1;have lti:(ats.take i).length<=i:=by rw[aL];lia
  refine{_,rfl,_,_,_,_,rfl,rfl,bx.of (sm _ _ hp),rfl,t,rfl,{_,bx.of (sm _ _ pC)},Cp (K:=K) (a:=t) (xs:=ta.2.map V.str)
   (λj Z H3=>∃(x3:Aap),Z=[some (.ref q),some (.ref d),some (.ref p),x3]/\bA H H3/\H3 d=some (.dK (qP (dc (b8 (ats.take i)++ta.2.take j))))) {x3,rfl,sm,by rw[List.take_zero,cu];exact hd2} (λj Z H3 _ hq=>by(obtain⟨_,_,sm',_⟩:=hq;exact bx.of (sm' _ _ pC))) ?_ ?_}
  ·rintro j y Z H3 hy ⟨x3,rfl,zX,MW⟩;obtain⟨z,hz,rfl⟩:=iA hy;have uw:=g.2 z (aB hz);have hj:j<ta.2.length:=(ao.mp hz).1;refine{_,rfl,z,rfl,by lia,λH4 ZH=>{_,rfl,?_}};have WC:=ZH _ _ MW;have en:dc (b8 (ats.take i)++ta.2.take (j+1))=step (dc (b8 (ats.take i)++ta.2.take j)) z:=by rw[aV,hz,<-Ij,cD];rfl
   have lu:=Gb (b8 (ats.take i)++ta.2.take j);rw[aK,aL]at lu;refine fZ (λc1=>?_) (λc1=>?_)
   ·refine{_,rfl,_,rfl,d,_,rfl,B3.k (k:=Sum.inr z) WC (by unfold qP;rw[ag];exact bO ∅),?_};refine{_,rfl,λb u e=>?_,?_}
    ·rw[aw (aW e iM)];exact ZH _ _ (zX _ _ e)
    ·rw[ar,IZ,en];unfold step;rw[aD c1]
   ·refine{_,rfl,zX.trans ZH,?_};rw[en];unfold step;rw[au c1];exact WC
  ·rintro Z H3 ⟨x3,rfl,zX,MW⟩;refine{_,_,rfl,zX,?_};rw[ag,aT]at MW;rw[zu ht];exact MW
 ·rintro Z H2 ⟨x2,x3,rfl,sm,hd2⟩;rw[la,aT]at hd2;refine{_,rfl,d,_,rfl,hd2,λl hl=>?_};refine k l _ (sm.trans (aN hl _)) (sm.free hl) ?_;rw[ar,QN]
def placesK(us:Aah):List (Key×V):=us.zipIdx.map λx=>(Sum.inr x.1,V.int (x.2:Int))
end
inductive IB(K:Frag)(vs:Aao)(H:Hp)(Q:VK)(_x3:XK):Prop
 |mk (l:Addr) (us:Aah) (_:vs=[.ref l]) (_:bo K H l (us.map V.str)) (_:us.Nodup) (_:us.length<=100) (_:∀(r:Addr)(H':Hp),bA H H'->H r=none->H' r=some (.dK (placesK us))->Q (.ref r) H')
def yK(nd:us.Nodup):fb (placesK us) (Sum.inr t:Key)=if t∈us then some (V.int (us.idxOf t:Int))else none:=by
 have gen:∀(us:Aah)(n:Nat),fb ((us.zipIdx n).map λx=>((Sum.inr x.1:Key),V.int (x.2:Int))) (Sum.inr t)=if t∈us then some (V.int ((us.idxOf t+n:Nat):Int))else none:=by
  intro us
  induction us with
  |nil=>intro n;rfl
  |cons u us ih=>
   intro n;rw[qi,aR];by_cases e:u=t
   ·subst e;rw[hJ rfl,aD ax,zM,BL]
   ·rw[gO (λz=>e (Dx z)),ih (n+1)];by_cases m:t∈us
    ·rw[aD m,aD (az _ m),List.idxOf_cons,show(u==t)=false from beq_false_of_ne e,cond_false,Nat.add_right_comm,pZ]
    ·rw[au m,au λz=>(aG.mp z).elim (λz=>e z.symm) m]
 have:=gen us 0;rw[ko]at this;exact this
def Lh{us:Aah}(nd:us.Nodup)(h:us[i]?=some u):putK (placesK (us.take i)) (Sum.inr u:Key) (V.int (i:Int))=placesK (us.take (i+1)):=by
 obtain⟨hi,e⟩:=ao.mp h;have nm:u∉us.take i:=λz=>by obtain⟨j,hj,ej⟩:=d9.mp z;rw[aL]at hj;rw[CI]at ej;exact eE.mp nd j i ∅ hi ∅ (by rw[ej,e])
 rw[Ja _ (by rw[yK (nd.sublist (CH _ _)),au nm])];unfold placesK;rw[aV,h,bI,List.zipIdx_append,aM,aL,il ∅];simp
section
variable{P:Program}{w:World}{K:Frag}{mg:Aad}{base:Heap}
def gx(q:bo K H a xs)(s:bA H H'):bo K H' a xs:=by
 rcases q with(q|⟨o,q⟩)|q
 ·exact .inl (.inl (s _ _ q))
 ·exact .inl (.inr {o,s _ _ q})
 ·exact .inr q
def qI:cz ["unknowns","places","place","unknown"] ["unknowns"] (bQ xm):=jV (-3)
def Jy(F:fG K "places_of" "places_of" xm f fd)(T:Txt K mg):dh P w K mg base fW 1 f fd ["unknowns"] (IB K):=by
 refine F.ok qI (λ_ _ _ _ h=>by cases h;subst_vars;rfl) (-6);obtain⟨l,us,rfl,hl,nd,lu,k⟩:=h;have hu:=jQ hr;refine{_,(aO (gn 1 qI mh) (aO (fg bJ rfl (Ml rfl T.CZ (cH (pv 0))) (mE rfl (df (jg 2 qI) (df (jg 3 qI) j6))) (aY (xR hu (pv 1) (pv 3) (pv 2) rfl))) (aY (cN (pv 1))))),?_}
 intro d iM;refine{_,rfl,l,rfl,{_,gx hl (aN iM _)},Kz (K:=K) (a:=l) (xs:=us.map V.str)
  (λi Z H2=>∃(x2 x3:Aap),Z=[some (.ref l),some (.ref d),x2,x3]/\bA H H2/\H2 d=some (.dK (placesK (us.take i)))) {none,none,rfl,aN iM _,ar} (λi Z H2 _ ⟨_,_,_,sm,_⟩=>gx hl sm) ?_ ?_}
 ·rintro i x p Z H2 hx ⟨x2,x3,rfl,sm,hd2⟩ hp;obtain⟨z,hz,rfl⟩:=iA hx;have hi:=(ao.mp hz).1;have zX:bA H2 (upd H2 p (.tup [.int i,.str z])):=aN hp _;refine{p,_,rfl,bx.of ar,rfl,_,_,rfl,_,_,rfl,rfl,?_};refine{_,rfl,_,rfl,_,rfl,d,_,rfl,B3.k (k:=Sum.inr z) (zX _ _ hd2) (by unfold placesK;rw[ag,List.length_zipIdx,aL];exact bO ∅),?_};refine{_,_,rfl,λb u e=>?_,?_}
  ·rw[aw (aW e iM)];exact zX _ _ (sm _ _ e)
  ·rw[ar,Lh nd hz]
 ·rintro Z H2 ⟨x2,x3,rfl,sm,hd2⟩;rw[ag,aT]at hd2;exact{_,rfl,k d H2 sm iM hd2}
inductive L4(K:Frag)(vs:Aao)(H:Hp)(Q:VK)(_x3:XK):Prop
 |mk (t d g:Addr) (ts us pf:Aah) (_:vs=[.ref t,.ref d,.ref g]) (_:(bo K H t (ts.map V.str)\/bx K H t (ts.map V.str))) (_:H d=some (.dK (placesK us))) (_:us.Nodup) (_:bx K H g (pf.map V.str)) (_:pf.length=us.length) (_:ts.length<=100) (_:us.length<=100) (_:∀(r:Addr)(H':Hp),bA H H'->H r=none->H' r=some (.tup ((AskP.image us pf ts).map V.str))->Q (.ref r) H')
def Tc:cz ["terms","places","given"] ["terms","places","given"] (bQ FZ):=jV (-3)
def TN(F:fG K "image" "image" FZ f fd)(T:Txt K mg):dh P w K mg base fW 1 f fd ["terms","places","given"] (L4 K):=by
 refine F.ok Tc (λ_ _ _ _ h=>by cases h;subst_vars;rfl) (-6);obtain⟨t,d,g,ts,us,pf,rfl,ht,hd,nd,hg,lv,lt,lu,k⟩:=h;have hu:=jQ hr;rcases ht with ht|ht
 ·refine{_,(aY (cN (d7 fD rfl T.j7 (-3) (cH (iz rfl (dy (fs:=["places","given"]) (fr:=[1,2])) (fS (pv 0)) (λ_ _ _ _=>(Jk (Jb (Jr hu (pv 0) (pv 1))) (dj (yb (K:=K)) (pv 2) (vf hu (pv 1) (pv 0) (-15)) (-15)) (pv 0)))))))),?_};refine{_,rfl,t,rfl,⟨_,ht⟩,kQ (K:=K) (a:=t) (xs:=ts.map V.str) (λi ys H2=>H2=H/\i<=ts.length/\ys=((ts.take i).map (AskP.gH us pf)).map V.str) (-37) {rfl,aP _,rfl} ?_ ?_ ?_}
  ·rintro i ys H2 hi ⟨rfl,_,rfl⟩;refine{ht,?_};rw[ag,ag,aL];lia
  ·rintro i x ys H2 N hc ⟨rfl,hi,rfl⟩ hN;obtain⟨z,hz,rfl⟩:=iA hc;have bU:i<ts.length:=(ao.mp hz).1;refine iy ?_;refine{_,rfl,_,rfl,d,_,rfl,kF.k (k:=Sum.inr z) hd,_,rfl,?_};have ap:((ts.take i).map (AskP.gH us pf)).map V.str++[V.str (AskP.gH us pf z)]=((ts.take (i+1)).map (AskP.gH us pf)).map V.str:=by rw[aV,hz,aM,aM];rfl
   have ev:=yK (t:=z) nd;by_cases m:z∈us
   ·rw[aD m]at ev;have li:=cT m;have dg:=kF.k (k:=Sum.inr z) hd;rw[ev]at dg;refine fZ (λ_=>?_) (λc=>absurd (by rw[ev];rfl) c);refine{_,rfl,_,rfl,_,rfl,d,_,rfl,dg,g,_,_,V.str (AskP.gH us pf z),rfl,rfl,hg,?_,hN _ _ ⟨rfl,bU,ap⟩};refine jv ?_;rw[aJ,aq ∅];unfold AskP.gH;rw[aD m,cq,aq ∅];rfl
   ·rw[au m]at ev;refine fZ (λc=>by rw[ev]at c;cases c) (λ_=>?_);refine{_,rfl,hN _ _ {rfl,bU,?_}};rw[<-ap];unfold AskP.gH;rw[au m]
  ·rintro ys H2 ⟨rfl,_,rfl⟩ l pG;rw[ag,aT];refine{l,_,rfl,.inl {bo.of ar,λp hp=>?_}};exact k p _ ((aN pG _).trans (aN hp _)) ((aN pG _).free hp) ar
 ·refine{_,(aY (cN (d7 fD rfl T.j7 (-3) (cH (iz rfl (dy (fs:=["places","given"]) (fr:=[1,2])) (nK (pv 0)) (λ_ _ _ _=>(Jk (Jb (Jr hu (pv 0) (pv 1))) (dj (yb (K:=K)) (pv 2) (vf hu (pv 1) (pv 0) (-15)) (-15)) (pv 0)))))))),?_};refine{_,rfl,t,rfl,⟨_,ht⟩,vV (K:=K) (a:=t) (xs:=ts.map V.str) (λi ys H2=>H2=H/\i<=ts.length/\ys=((ts.take i).map (AskP.gH us pf)).map V.str) (-37) {rfl,aP _,rfl} ?_ ?_ ?_}
  ·rintro i ys H2 hi ⟨rfl,_,rfl⟩;refine{ht,?_};rw[ag,ag,aL];lia
  ·rintro i x ys H2 N hc ⟨rfl,hi,rfl⟩ hN;obtain⟨z,hz,rfl⟩:=iA hc;have bU:i<ts.length:=(ao.mp hz).1;refine iy ?_;refine{_,rfl,_,rfl,d,_,rfl,kF.k (k:=Sum.inr z) hd,_,rfl,?_};have ap:((ts.take i).map (AskP.gH us pf)).map V.str++[V.str (AskP.gH us pf z)]=((ts.take (i+1)).map (AskP.gH us pf)).map V.str:=by rw[aV,hz,aM,aM];rfl
   have ev:=yK (t:=z) nd;by_cases m:z∈us
   ·rw[aD m]at ev;have li:=cT m;have dg:=kF.k (k:=Sum.inr z) hd;rw[ev]at dg;refine fZ (λ_=>?_) (λc=>absurd (by rw[ev];rfl) c);refine{_,rfl,_,rfl,_,rfl,d,_,rfl,dg,g,_,_,V.str (AskP.gH us pf z),rfl,rfl,hg,?_,hN _ _ ⟨rfl,bU,ap⟩};refine jv ?_;rw[aJ,aq ∅];unfold AskP.gH;rw[aD m,cq,aq ∅];rfl
   ·rw[au m]at ev;refine fZ (λc=>by rw[ev]at c;cases c) (λ_=>?_);refine{_,rfl,hN _ _ {rfl,bU,?_}};rw[<-ap];unfold AskP.gH;rw[au m]
  ·rintro ys H2 ⟨rfl,_,rfl⟩ l pG;rw[ag,aT];refine{l,_,rfl,.inl {bo.of ar,λp hp=>?_}};exact k p _ ((aN pG _).trans (aN hp _)) ((aN pG _).free hp) ar
end
end lY
namespace L2
open PySem PySem.Spec PyProof.Rows
section
variable{K:Frag}{a b:Addr}{xs zs:Aao}{fr:List Nat}{tt:TT}{te:TE}{Z:St}{H1:Hp}{R:Addr->Aao->Hp->Prop}
def OZ(Pv:Nat->Aao->Hp->Prop)(hx:xs.length<sizeLine)(le:xs.length=zs.length)(h0:Pv 0 [] H1)(hl:∀i ys H,i<=xs.length->Pv i ys H->(bx K H a xs/\bx K H b zs)/\ys.length<=i)
  (hs:∀(i:Nat)(x z:V)(p:Addr)(ys:Aao)(H:Hp)(N:Aao->Hp->Prop),xs[i]?=some x->zs[i]?=some z->Pv i ys H->H p=none->(∀fP H',Pv (i+1) fP H'->N fP H')->
   tt (some x::some z::slotsOf fr Z) (upd H p (.tup [x,z])) λt H4=>if t=true then te (some x::some z::slotsOf fr Z) H4 (λy H5=>N (ys++[y]) H5)else N ys H4)
  (hd:∀ys H,Pv xs.length ys H->∀l,H l=none->R l ys H):HG (Itz K a b) 2 fr (OG K) tt te Z H1 R:=by
 refine{λi m ys H=>m=xs.length -i/\i<=xs.length/\Pv i ys H,{xs.length,by simp,aP _,h0},?_};rintro i m ys H ⟨rfl,hi,p⟩;obtain⟨⟨q1,q2⟩,hy⟩:=hl i ys H hi p;by_cases bU:i<xs.length
 ·refine .inr {{xs,zs,xs[i],zs[i]'∅,q1,q2,aq bU,aq _},by lia,?_};rintro v H3 ⟨r,u,z,rfl,hr,rfl,y1,y2⟩ own ho;have h:=hs i u z r ys H (λfP H'=>∃m',m'<xs.length -i/\m'=xs.length -(i+1)/\i+1<=xs.length/\Pv (i+1) fP H') (y1 xs q1) (y2 zs q2) p hr λfP H' p'=>{_,by lia,rfl,bU,p'};exact Mr ho rfl (bx.of ar) {[some u,some z],rfl,rfl,h}
 ·have e:i=xs.length:=by lia
  subst e;exact .inl {⟨xs,q1,rfl⟩,by lia,hd ys H p}
end
end L2
namespace L2
open PySem PySem.Spec PyProof.Rows PySem.W
section
variable{X:Cx}
inductive Md(K:Frag)(x:V)(vs:Aao)(H:Hp)(Q:VK):Prop
 |mk (l:Addr) (zs:Aah) (z:Str) (j:Nat) (_:x=.ref l) (_:vs=[.str z]) (_:bx K H l (zs.map V.str)) (_:zs[j]?=some z) (_:(∀m,m<j->zs[m]?≠some z)) (_:Q (.int (j:Int)) H)
def Qz:SA X "tuple.index" (Md X.K):=by
 intro pins s Z H x vs v us Q I rx rv h;obtain⟨l,zs,z,j,rfl,rfl,hH,hj,Br,q⟩:=h;cases rx;obtain⟨u,rfl,ru⟩:=rv.one;obtain⟨t,rfl⟩:=ru;obtain⟨aX,r,ht,hl⟩:=I.tuple hH;obtain⟨o,ho,hc,n,hd⟩:=ht;have lz:=r.length;rw[ag]at lz;have eat:∀m:Nat,m<aX.length->∃y t',aX[m]?=some (.str y t')/\zs[m]?=some y:=λm hm=>by
  have hz:m<zs.length:=by lia
  obtain⟨u',qR,t',rfl⟩:=r.get (i:=m) (x:=.str zs[m]) (by rw[aJ,aq hz];rfl);exact{zs[m],t',qR,aq hz}
 have lX:j<aX.length:=by have:=(ao.mp hj).1;lia
 refine bq F.slot_tuple_index ⟨_,ho,hc⟩ F.entry_tuple_index ?_ (F.args_tuple_index_2 _ _);unfold Builtin.«tuple.index»;refine ae (af ?_);refine ae (ae (bW ho hd (af ?_)));refine ae (af (ae (af ?_)));dsimp only;rw[BO,mQ];have hsz:([0:aX.toArray.size]:Std.Legacy.Range).size=aX.length:=by simp[Std.Legacy.Range.size]
 refine ae (cZ (j9 _ (λl b s'=>∃m,l=List.range' m (aX.length -m) 1/\m<=j/\b=(none,())/\s'=s) (λb s'=>∃tk,b=(some (PySem.Fin.done (Flow.ret (.int j tk))),())/\s'={s with toks:=s.toks+1}) ?_ ?_ _ _ {0,?_,aP _,rfl,rfl}) ?_ λ_ _ e=>e)
 ·rintro x rest b s' ⟨m,el,mj,rfl,rfl⟩;obtain⟨k,hk⟩:∃k,aX.length -m=k+1:={aX.length -m -1,by lia};rw[hk,List.range'_succ]at el;obtain⟨rfl,rfl⟩:=List.cons.inj el;obtain⟨y,t',e1,e2⟩:=eat x ∅;have e3:aX.toArray[x]?=some (.str y t'):=by rw[<-e1];simp
  rw[e3];refine ae (Dy.eq_str ?_);by_cases e:x=j
  ·subst e;rw[hj]at e2;cases e2;rw[ba rfl];exact ae (ae (CN (af (af ⟨_,rfl,rfl⟩))))
  ·have ne:y≠z:=λq=>Br x ∅ (by rw[e2,q]);rw[bC ne];exact af {x+1,by rw[show aX.length -(x+1)=k by lia],by lia,rfl,rfl}
 ·rintro b s' ⟨m,el,mj,rfl,rfl⟩;have:aX.length -m=0:=by have:=cc List.length el;simpa using this.symm
  lia
 ·show List.range' 0 ([0:aX.toArray.size]:Std.Legacy.Range).size 1=_;rw[hsz];rfl
 ·rintro b s' ⟨tk,rfl,rfl⟩;exact af {_,rfl,{.int _,H,I.tok _,⟨_,rfl⟩,q}}
def zi{K:Frag}(h:X.K=K:=by rfl):SA X "tuple.index" (Md K):=h▸Qz
end
end L2
namespace lY
open PySem PySem.Spec PyProof.Rows L2 Dy
seal L2.PE L2.PT L2.PW L2.PA L2.PS L2.lN L2.PI L2.PO L2.Dz L2.PG L2.DA
inductive GK(K:Frag)(vs:Aao)(H:Hp)(Q:VK)(_x3:XK):Prop
 |mk (r t:Addr) (rs ts:Aah) (_:vs=[.ref r,.ref t]) (_:bx K H r (rs.map V.str)) (_:H t=some (.tup (ts.map V.str))) (_:rs.length<=100) (_:ts.length<=100) (_:∀H',bA H H'->Q (.bl (AskP.mZ rs ts)) H')
section
variable{P:Program}{w:World}{K:Frag}{mg:Aad}{base:Heap}
def Lf:cz ["row","terms"] ["row","terms"] (bQ yY):=jV (-3)
def Ll(F:fG K "is_image" "is_image" yY f fd)(T:Txt K mg):dh P w K mg base fW 1 f fd ["row","terms"] (GK K):=by
 refine F.ok Lf (λ_ _ _ _ h=>by cases h;subst_vars;rfl) (-6);obtain⟨r,t,rs,ts,rfl,tM,Wq,lr,lt,k⟩:=h;have Wo:bx K H t (ts.map V.str):=bx.of Wq;have hu:=jQ hr;refine{_,(aO (iJ (d5 ab2 (cA gz rfl T.jO cL (cH (pv 0))) (cA gz rfl T.jO cL (cH (pv 1))) (gG _)) (aY (cN pU)) fm) (aY (cN (cA (yy rfl) rfl T.VZ boot_all (cH (Jn rfl (FF (more:=["value"]) (fs:=["row","terms"]) (fr:=[0,1])) (XQ rfl T.HU (fu (pv 1) (pv 0))) (λ_ _ _ _=>(Mn (K:=K) (n:=2) rfl (df (y7 (i:=0)) (df (y7 (i:=1)) j6)))) (λ_ _ _ _=>(F5 zd (dj (yb (K:=K)) (pv 2) (Jp (K:=K) nZ nY nX zi (pv 3) (cH (pv 0))) (-15)) (pv 1) (gG _))))))))),?_}
 refine{_,rfl,_,_,rfl,.inr ⟨_,tM,rfl⟩,_,rfl,_,_,rfl,.inr ⟨_,Wo,rfl⟩,rfl,?_};rw[ag,ag];refine{_,rfl,fZ (λc=>?_) (λc=>?_)}
 ·have ne:rs.length≠ts.length:=λe=>by rw[e]at c;simp at c
  have e:AskP.mZ rs ts=false:=by unfold AskP.mZ;rw[bC ne];rfl
  rw[e]at k;exact k H (λ_ _ x=>x)
 have le:rs.length=ts.length:=by
  by_cases e:rs.length=ts.length
  ·exact e
  ·have z:¬(V.int (rs.length:Int)=V.int (ts.length:Int)):=λz=>e (by injection z with z;lia);exact absurd (by rw[bC z];rfl) c
 refine{_,rfl,_,rfl,t,r,rfl,⟨_,Wo⟩,⟨_,tM⟩,OZ (K:=K) (a:=t) (b:=r) (xs:=ts.map V.str) (zs:=rs.map V.str)
  (λi ys H2=>bA H H2/\i<=ts.length/\ys=(((ts.zip rs).take i).map λx=>decide (rs[ts.idxOf x.1]?=some x.2)).map V.bl) (-37) (by rw[ag,ag,le]) {λ_ _ x=>x,aP _,rfl} ?_ ?_ ?_}
 ·rintro i ys H2 hi ⟨sm,_,rfl⟩;refine{{gP Wo sm,gP tM sm},?_};rw[ag,ag,aL];lia
 ·rintro i x y p ys H2 N hx hy ⟨sm,hi,rfl⟩ hp hN;obtain⟨z,hz,rfl⟩:=iA hx;obtain⟨v,hv,rfl⟩:=iA hy;refine iy ?_;have m:z∈ts:=aB hz;have li:=cT m;have Ww:=(ao.mp hz).1;have zX:bA H (upd H2 p (.tup [V.str z,V.str v])):=sm.trans (aN hp _);have e1:ts[ts.idxOf z]?=some z:=by rw[aq li,kS]
  have e2:∀n,n<ts.idxOf z->ts[n]?≠some z:=λn hn q=>by obtain⟨ln,en⟩:=ao.mp q;have:=xB (p:=(·==z)) (xs:=ts) hn;rw[en]at this;simp at this
  obtain⟨u,yl⟩:∃u,rs[ts.idxOf z]?=some u:={_,aq ∅};refine{_,rfl,_,rfl,.inr (.inl {rfl,.inl {_,zX _ _ Wq}}),_,rfl,t,ts,z,ts.idxOf z,rfl,rfl,gP Wo zX,e1,e2,r,_,_,V.str u,rfl,rfl,gP tM zX,jv (by rw[aJ,yl];rfl),_,rfl,rfl,?_};refine hN _ _ {zX,by lia,?_};have e3:(ts.zip rs)[i]?=some (z,v):=by rw[List.getElem?_zip_eq_some];exact⟨hz,hv⟩
  rw[aV,e3,bI,aM,aM];congr 1;show[V.bl (decide (V.str u=V.str v))]=[V.bl (decide (rs[ts.idxOf z]?=some v))];rw[yl];congr 2;by_cases q:u=v
  ·subst q;simp
  ·rw[bC (λz=>q (V.str.inj z)),bC (λz=>q (bS z))]
 ·rintro ys H2 ⟨sm,_,rfl⟩ l hl;have lz:(ts.zip rs).length=ts.length:=by rw[kR];lia
  rw[ag,<-lz,aT];refine{l,_,rfl,bo.of ar,?_};have e:AskP.mZ rs ts=(((ts.zip rs).map λx=>decide (rs[ts.idxOf x.1]?=some x.2)).all id):=by unfold AskP.mZ;rw[ba le,iF,List.all_map];rfl
  rw[e]at k;exact k _ (sm.trans (aN hl _))
def eK(H H':Hp):Prop:=∀b xs,Rd H b (.tup xs)->Rd H' b (.tup xs)
def eK.refl(H:Hp):eK H H:=λ_ _ h=>h
def eK.trans(a:eK H H1)(b:eK H1 H2):eK H H2:=λx xs h=>b x xs (a x xs h)
def eK.same(s:bA H H'):eK H H':=λb xs h=>by
 rcases h with h|⟨o,h⟩
 ·exact .inl (s _ _ h)
 ·exact .inr {o,s _ _ h}
def ij(H:Hp)(a:Addr):Prop:=∀xs,¬Rd H a (.tup xs)
def eK.upd(h:ij H a):eK H (upd H a o):=λb xs q=>by
 have hb:b≠a:=λe=>h xs (e▸q);rcases q with q|⟨o',q⟩
 ·exact .inl (by rw[aw hb];exact q)
 ·exact .inr {o',by rw[aw hb];exact q}
def Qt(h:H a=some (.ext φ)):ij H a:=λxs q=>by rcases q with q|⟨o,q⟩<;>rw[h]at q<;>cases q
def zf(h:H a=some (.dK l)):ij H a:=λxs q=>by rcases q with q|⟨o,q⟩<;>rw[h]at q<;>cases q
def A7(h:H a=some (.ins C dx l)):ij H a:=λxs q=>by rcases q with q|⟨o,q⟩<;>rw[h]at q<;>cases q
def nE(q:bx K H a xs)(t:eK H H'):bx K H' a xs:=by
 rcases q with q|q
 ·exact .inl (t _ _ q)
 ·exact .inr q
mutual
theorem N5(t:eK H H'):∀(k:NK)(v:V),NV K H k v->NV K H' k v
 | .cI,v,h=>by rw[NV]at h⊢;exact h
 | .key k,v,h=>by rw[NV]at h⊢;exact h
 | .tup ks,v,h=>by rw[NV]at h⊢;obtain⟨a,xs,e,hq,hs⟩:=h;exact{a,xs,e,nE hq t,Qr t ks xs hs}
theorem Qr(t:eK H H'):∀(ks:List NK)(vs:Aao),pQ K H ks vs->pQ K H' ks vs
 |[],vs,h=>by rw[pQ]at h⊢;exact h
 |k::ks,vs,h=>by rw[pQ]at h⊢;obtain⟨x,r,e,h1,h2⟩:=h;exact{x,r,e,N5 t k x h1,Qr t ks r h2}
end
def ya{H H':Hp}{k:NK}{a:Addr}(h:jm K H k a)(t:eK H H'):jm K H' k a:={N5 t _ _ h.1,h.2}
def _root_.L2.fH.tp{H H':Hp}{d:Addr}{kvs:List (-44)}(h:fH P w K H d kvs)(t:eK H H')(e:H' d=H d):fH P w K H' d kvs:={by rw[e];exact h.1,λp hp=>ya (h.2 p hp) t}
def _root_.L2.fH.some{H:Hp}{d:Addr}{kvs:List (-44)}(h:fH P w K H d kvs):∃u,H d=some u:=by rcases h.1 with h|⟨_,h⟩<;>exact⟨_,h⟩
def _root_.L2.fH.pV{H:Hp}{d:Addr}{kvs:List (-44)}(h:fH P w K H d kvs):ij H d:=by
 rcases h.1 with h|⟨_,h⟩
 ·exact Qt h
 ·exact zf h
def _root_.L2.fH.put{H:Hp}{d b:Addr}{kvs:List (-44)}{k:NK}{v:V}(h:fH P w K H d kvs)(hk:jm K H k b):fH P w K (upd H d (.ext (DN P w d (putN kvs k b v)))) d (putN kvs k b v):=by
 have t:eK H (upd H d (.ext (DN P w d (putN kvs k b v)))):=eK.upd h.pV;refine{.inl ar,λp hp=>?_};rcases DW hp with⟨q,hq,e1,e2⟩|⟨e1,e2⟩
 ·rw[e1,e2];exact ya (h.2 q hq) t
 ·rw[e1,e2];exact ya hk t
def Cr{H:Hp}{p:Addr}(h:H p=Option.some (.dK [])):fH P w K H p []:={.inr ⟨rfl,h⟩,λ_ hp=>by cases hp}
def pK(zs:Aah):Prop:=∀z∈zs,PyData.strOk z=true
abbrev Cm:=List (Aah×Int)
def qC(m:Cm):List (NK×V):=m.map λx=>(dY x.1,V.int x.2)
abbrev Be(kvs:List (-44)):List (NK×V):=kvs.map λp=>(p.1,p.2.2)
def cnt(m:Cm)(r:Aah):Int:=((m.find? λx=>decide (x.1=r)).map (·.2)).getD 0
theorem B7:∀{m:Cm}{kvs:List (-44)},Be kvs=qC m->valN kvs (dY r)=(m.find? λx=>decide (x.1=r)).map λx=>V.int x.2
 |[],[],_=>rfl
 |[],_::_,e=>by cases e
 |_::_,[],e=>by cases e
 |x::m,p::kvs,e=>by
  injection e with e1 e2;have e3:=cc Prod.fst e1;have e4:=cc Prod.snd e1;dsimp only at e3 e4;by_cases c:x.1=r
  ·rw[ma (by rw[e3,c]),gJ (by exact ba c),e4];rfl
  ·rw[mf (λz=>c (xU (by rw[<-e3,z]))),B7 e2,gK (by simpa using c)]
def Nd(e:Be kvs=qC m):(valN kvs (dY r)).getD (V.int 0)=V.int (cnt m r):=by rw[B7 e];unfold cnt;cases m.find? (λx=>decide (x.1=r))<;>rfl
def Sl(nd:(m.map (·.1)).Nodup)(h:x∈m)(e:x.1=r):cnt m r=x.2:=by
 unfold cnt
 induction m with
 |nil=>cases h
 |cons y m ih=>
  rw[aR,cU]at nd;by_cases c:y.1=r
  ·rw[gJ (by exact ba c)];rcases aG.mp h with rfl|h
   ·rfl
   ·exact absurd (aA.mpr {x,h,by rw[e,c]}) nd.1
  ·rw[gK (by simpa using c)];rcases aG.mp h with rfl|h
   ·exact absurd e c
   ·exact ih nd.2 h
def Mh(nd:(m.map (·.1)).Nodup)(e:Be kvs=qC m):Be (putN kvs (dY r) b (.int (cnt m r+c)))=qC (AskP.qg m r c):=by
 have hv:=B7 (r:=r) e;have mem:r∈m.map (·.1)↔(m.find? λx=>decide (x.1=r)).isSome=true:=by rw[List.find?_isSome,aA];exact{λ⟨x,h1,h2⟩=>{x,h1,ba h2},λ⟨x,h1,h2⟩=>{x,h1,bw h2}}
 unfold putN AskP.qg;by_cases q:r∈m.map (·.1)
 ·rw[aD q,aD (by rw[hv,jI];exact mem.mp q)];have gen:∀(kvs:List (-44))(m':Cm),(∀x∈m',x∈m)->Be kvs=qC m'->Be (kvs.map λp=>if p.1=dY r then(p.1,p.2.1,V.int (cnt m r+c))else p)=qC (m'.map λx=>if x.1=r then(x.1,x.2+c)else x):=by
   intro kvs
   induction kvs with
   |nil=>intro m' _ e;cases m' with
    |nil=>rfl
    |cons _ _=>cases e
   |cons p kvs ih=>intro m' hm e;cases m' with
    |nil=>cases e
    |cons x m'=>
     injection e with e1 e2;have e3:=cc Prod.fst e1;have e4:=cc Prod.snd e1;dsimp only at e3 e4;show(_::_:List (NK×V))=_::_;congr 1
     ·dsimp only;by_cases z:x.1=r
      ·rw[aD z,aD (by rw[e3,z])];rw[e3,Sl nd (hm x ax) z]
      ·rw[au z,au (λq=>z (xU (by rw[<-e3,q])))];exact e1
     ·exact ih m' (λx hx=>hm x (az _ hx)) e2
  exact gen kvs m (λ_ h=>h) e
 ·rw[au q,au (by rw[hv,jI];exactλz=>q (mem.mpr z))];have z:(m.find? λx=>decide (x.1=r))=none:=by
   cases h:m.find? λx=>decide (x.1=r)with
   |none=>rfl
   |some _=>rw[h]at mem;exact absurd (mem.mpr rfl) q
  have z2:cnt m r=0:=by unfold cnt;rw[z];rfl
  unfold qC Be at*;rw[z2,rC,aM,aM,e];rfl
def RowC(P:Program)(w:World)(K:Frag)(H:Hp)(d:Addr)(m:Cm):Prop:=∃kvs,fH P w K H d kvs/\Be kvs=qC m
def RowC.same(h:RowC P w K H d m)(s:bA H H'):RowC P w K H' d m:=by obtain⟨kvs,h1,h2⟩:=h;obtain⟨u,hu⟩:=h1.some;exact{kvs,h1.tp (eK.same s) (by rw[hu,s _ _ hu]),h2}
def KY(P:Program)(w:World)(K:Frag)(H:Hp)(d:Addr)(m:Cm):Prop:=∃kvs,fH P w K H d kvs/\Be kvs=qC m/\∀p∈kvs,∃xs,H p.2.1=some (.tup xs)
def KY.c(h:KY P w K H d m):RowC P w K H d m:=let⟨kvs,h1,h2,_⟩:=h;⟨kvs,h1,h2⟩
def w6(K:Frag)(H:Hp)(v:V)(x:Aah×Int):Prop:=∃p g,v=.ref p/\bx K H p [.ref g,.int x.2]/\bx K H g (x.1.map V.str)
def Ju(h:w6 K H v x)(t:eK H H'):w6 K H' v x:=by obtain⟨p,g,e,h1,h2⟩:=h;exact{p,g,e,nE h1 t,nE h2 t}
def wG(h1:pK vs)(h2:pK ts):pK (AskP.image us vs ts):=λz hz=>by
 obtain⟨t,ht,rfl⟩:=aA.mp hz;unfold AskP.gH;split
 ·rw[cq];cases q:vs[us.idxOf t]? with
  |none=>exact h2 t ht
  |some v=>exact h1 v (aB q)
 ·exact h2 t ht
inductive yP(P:Program)(w:World)(K:Frag)(vs:Aao)(H:Hp)(Q:VK)(_x3:XK):Prop
 |mk (l u t:Addr) (ys:Aao) (m:Cm) (us ts:Aah) (_:vs=[.ref l,.ref u,.ref t]) (_:bo K H l ys) (_:Paired (w6 K H) ys m) (_:bo K H u (us.map V.str)) (_:us.Nodup) (_:us.length<=100) (_:(bo K H t (ts.map V.str)\/bx K H t (ts.map V.str))) (_:ts.length<=100) (_:pK ts) (_:(∀x∈m,x.1.length=us.length/\pK x.1)) (_:m.length<=9000000) (_:∀(d:Addr)(H':Hp),bA H H'->H d=none->KY P w K H' d (AskP.cY m us ts)->Q (.ref d) H')
structure Dn(P:Program)(w:World)(K:Frag)(mg:Aad)(base:Heap):Prop where
 GU:eG P w K mg base 1 "places_of" ["unknowns"] (IB K)
 image:eG P w K mg base 1 "image" ["terms","places","given"] (L4 K)
def mM:cz ["counted_maps","unknowns","terms","places","counts","given","count","row"] ["counted_maps","unknowns","terms"] (bQ yS):=jV (-3)
def Lj(F:fG K "narrowed" "narrowed" yS f fd)(T:Txt K mg)(D:Dn P w K mg base):dh P w K mg base fW 3 f fd ["counted_maps","unknowns","terms"] (yP P w K):=by
 refine F.ok mM (λ_ _ _ _ h=>by cases h;subst_vars;rfl) (-6);obtain⟨l,u,t,ys,m,us,ts,rfl,hl,rL,Kb,nd,lu,ht,lt,st,gm,lm,k⟩:=h;have hN:=wX hr;refine{_,(aO (gn 3 mM (cl D.GU hr (cH (pv 1)))) (aO (gn 4 mM mh) (aO (fg bJ rfl (fS (pv 0)) (mE rfl (df (jg 5 mM) (df (jg 6 mM) j6))) (aO (gn 7 mM (cl D.image hr (pA (pv 2) (pv 3) (pv 5)))) (aY (DT hN (pv 4) (pv 7) (d6 ki (A0 hN (pv 4) (pv 7) bg ⟨rfl,rfl,rfl,rfl⟩) (pv 6)) rfl)))) (aY (cN (pv 4)))))),?_}
 have ly:=bp rL;refine{_,rfl,u,us,rfl,Kb,nd,lu,λpd H1 s1 UC aa6=>?_};intro d iM;have s2:bA H1 (upd H1 d (.dK [])):=aN iM _;have hd2:upd H1 d (.dK []) d=some (.dK []):=ar;have jf:=s1.trans s2;have aa5:=s2 _ _ aa6;have MV:=s1.free iM;have pdd:=aW aa6 iM;generalize (upd H1 d (.dK []))=H2 at s2 hd2 jf aa5⊢;refine{_,rfl,l,rfl,{_,gx hl jf},mi
  (λi Z H3=>∃(x1 x2 x3:Aap),Z=[some (.ref l),some (.ref u),some (.ref t),some (.ref pd),some (.ref d),x1,x2,x3]/\bA H H3/\H3 pd=some (.dK (placesK us))/\i<=m.length/\∃kvs,fH P w K H3 d kvs/\Be kvs=qC (AskP.cY (m.take i) us ts)/\kvs.length<=i/\∀p∈kvs,∃xs,H3 p.2.1=some (.tup xs))
  {none,none,none,rfl,jf,aa5,aP _,[],Cr hd2,rfl,ak _,λp hp=>(by cases hp)} (λi Z H3 _ ⟨_,_,_,_,sm,_⟩=>gx hl sm) ?_ ?_}
 ·rintro i x Z H3 hx ⟨x1,x2,x3,rfl,s3,aa4,_,kvs,ha,ek,lk,gq⟩;obtain⟨y,hy,hp⟩:=Paired.at' rL hx;obtain⟨p,g,rfl,hp,hg⟩:=Ju hp (eK.same s3);have bU:=(ao.mp hy).1;obtain⟨g1,g2⟩:=gm y (aB hy);refine{p,_,rfl,hp,rfl,_,_,rfl,_,_,rfl,rfl,?_};refine{_,rfl,_,rfl,_,rfl,t,pd,g,ts,us,y.1,rfl,ht.imp (λz=>gx z s3) (λz=>gP z s3),aa4,nd,hg,g1,lt,lu,λr H4 s4 uz tL=>?_};have RM:fH P w K H4 d kvs:=by obtain⟨u,hu⟩:=ha.some;exact ha.tp (eK.same s4) (by rw[hu,s4 _ _ hu])
  have hk:jm K H4 (dY (AskP.image us y.1 ts)) r:=sf (bx.of tL) (wG g2 st);refine{_,rfl,d,kvs,rfl,RM,_,rfl,r,kvs,_,rfl,RM,hk,?_};rw[Nd ek];refine{_,rfl,_,_,rfl,rfl,_,rfl,_,rfl,d,r,kvs,_,rfl,rfl,RM,hk,by lia,?_};refine{_,_,_,rfl,λb o e=>?_,?_,bU,_,RM.put hk,?_,?_,λp hp=>?_}
  ·rw[aw (aW e MV)];exact s4 _ _ (s3 _ _ e)
  ·rw[aw pdd];exact s4 _ _ aa4
  ·rw[Mh AskP.iQ ek,aV,hy];unfold AskP.cY;rw[bI,uF];rfl
  ·exact aC sd ∅
  ·have ne:∀{b:Addr}{xs:Aao},H4 b=some (.tup xs)->b≠d:=λ{b xs} e z=>RM.pV xs (.inl (by rw[<-z];exact e));rcases DW hp with⟨c,hc,_,e2⟩|⟨_,e2⟩
   ·obtain⟨xs,e⟩:=gq c hc;exact{xs,by rw[e2,aw (ne (s4 _ _ e))];exact s4 _ _ e}
   ·exact{_,by rw[e2,aw (ne tL)];exact tL}
 ·rintro Z H3 ⟨x1,x2,x3,rfl,s3,_,_,kvs,ha,ek,_,gq⟩;rw[ly,aT]at ek;exact{_,rfl,k d H3 s3 MV ⟨kvs,ha,ek,gq⟩}
def qt(h:H a=some (.lst l)):ij H a:=λxs q=>by rcases q with q|⟨o,q⟩<;>rw[h]at q<;>cases q
def qr(h:fE K H ys rs)(t:eK H H'):fE K H' ys rs:=h.keep λa xs q=>nE q t
def wQ{ts:Aah}(m:z∈ts):ts[ts.idxOf z]?=some z/\∀n,n<ts.idxOf z->ts[n]?≠some z:=by have li:=cT m;refine{by rw[aq li,kS],λn hn q=>?_};obtain⟨ln,en⟩:=ao.mp q;have:=xB (p:=(·==z)) (xs:=ts) hn;rw[en]at this;simp at this
def KQ{z:Str}(m:z∈ts)(le:rs.length=ts.length):rs[ts.idxOf z]?=some (AskP.atT rs ts z):=by have li:=cT m;unfold AskP.atT;rw[cq,aq ∅];rfl
structure oJ(P:Program)(w:World)(K:Frag)(H0 H:Hp)(d:Addr)(kvs:List (-44))(f:Aah->Aab):Prop where
 at_:fH P w K H d kvs
 no:∀zs,valN kvs (dY zs)=none->f zs=[]
 vals:∀zs v,valN kvs (dY zs)=some v->∃l ys,v=.ref l/\H0 l=none/\H l=some (-48)/\fE K H ys (f zs)
 inj:∀zs rH l,valN kvs (dY zs)=some (.ref l)->valN kvs (dY rH)=some (.ref l)->zs=rH
def oJ.same(x:oJ P w K H0 H d kvs f)(s:bA H H'):oJ P w K H0 H' d kvs f:=by obtain⟨u,hu⟩:=x.at_.some;refine{x.at_.tp (eK.same s) (by rw[hu,s _ _ hu]),x.no,λzs v h=>?_,x.inj};obtain⟨l,ys,h1,h2,h3,h4⟩:=x.vals zs v h;exact{l,ys,h1,h2,s _ _ h3,iZ h4 s}
def oJ.aat(x:oJ P w K H0 H d kvs f)(hk:jm K H (dY key) b)(hn:valN kvs (dY key)=none)(h0:H0 l0=none)(hl:H l0=some (.lst []))(hd:H0 d=none)
  (fr:∀zs,valN kvs (dY zs)≠some (.ref l0)):oJ P w K H0 (upd H d (.ext (DN P w d (putN kvs (dY key) b (.ref l0))))) d (putN kvs (dY key) b (.ref l0)) f:=by
 have nt:=x.at_.pV;have ne:∀{l:Addr}{ys:Aao},H l=some (-48)->l≠d:=λ{l ys} h e=>by rw[e]at h;rcases x.at_.1 with q|⟨_,q⟩<;>rw[h]at q<;>cases q
 refine{x.at_.put hk,λzs h=>?_,λzs v h=>?_,λzs rH l h h'=>?_}
 ·rw[qp]at h;split at h
  ·cases h
  ·exact x.no zs h
 ·rw[qp]at h;split at h
  ·next c=>
   cases h;refine{l0,[],rfl,h0,by rw[aw (ne hl)];exact hl,?_};rw[x.no zs (by rw[c];exact hn)];exact .nil
  ·obtain⟨l,ys,h1,h2,h3,h4⟩:=x.vals zs v h;exact{l,ys,h1,h2,by rw[aw (ne h3)];exact h3,qr h4 (eK.upd nt)}
 ·rw[qp]at h h';split at h
  ·next c=>
   cases h;split at h'
   ·next c'=>exact xU (c.trans c'.symm)
   ·exact absurd h' (fr rH)
  ·split at h'
   ·cases h';exact absurd h (fr zs)
   ·exact x.inj zs rH l h h'
def oJ.push(x:oJ P w K H0 H d kvs f)(hv:valN kvs (dY key)=some (.ref l))(hl:H l=some (-48))(hp:bx K H p (row.map V.str)):
  oJ P w K H0 (upd H l (.lst (ys++[.ref p]))) d kvs (λzs=>if zs=key then f zs++[row]else f zs):=by
 have t:eK H (upd H l (.lst (ys++[.ref p]))):=eK.upd (qt hl);have dl:d≠l:=λe=>by rw[<-e]at hl;rcases x.at_.1 with q|⟨_,q⟩<;>rw[hl]at q<;>cases q
 refine{x.at_.tp t (aw dl),λzs h=>?_,λzs v h=>?_,x.inj}
 ·have c:¬zs=key:=λc=>by rw[c,hv]at h;cases h
  show(if zs=key then _ else _)=_;rw[au c];exact x.no zs h
 ·obtain⟨l',fP,rfl,h2,h3,h4⟩:=x.vals zs v h;by_cases c:zs=key
  ·have e:l'=l:=by rw[c,hv]at h;cases h;rfl
   subst e;rw[hl]at h3;cases h3;refine{l',_,rfl,h2,ar,?_};show fE K _ _ (if zs=key then _ else _);rw[aD c];exact(qr h4 t).snoc {p,rfl,nE hp t}
  ·have e:l'≠l:=λe=>c (x.inj zs key l (by rw[h,e]) hv);refine{l',fP,rfl,h2,by rw[aw e];exact h3,?_};show fE K _ _ (if zs=key then _ else _);rw[au c];exact qr h4 t
def ie(P:Program)(w:World)(K:Frag)(H:Hp)(av:Aaj)(d:Addr)(f:Aah->Aab):Prop:=d∉av/\∃kvs,fH P w K H d kvs/\∀zs,(valN kvs (dY zs)=none/\f zs=[])\/∃l ys,valN kvs (dY zs)=some (.ref l)/\l∉av/\H l=some (-48)/\fE K H ys (f zs)
def ie.fr(x:ie P w K H av d f)(s:∀b u,b∉av->H b=some u->H' b=some u)(t:eK H H'):ie P w K H' av d f:=by obtain⟨h0,kvs,h1,h2⟩:=x;obtain⟨u,hu⟩:=h1.some;exact{h0,kvs,h1.tp t (by rw[hu,s _ _ h0 hu]),λzs=>(h2 zs).imp id λ⟨l,ys,a,n,b,c⟩=>{l,ys,a,n,s _ _ n b,qr c t}}
def ie.same(x:ie P w K H av d f)(s:bA H H'):ie P w K H' av d f:=x.fr (λb u _ e=>s _ _ e) (eK.same s)
def ie.more(x:ie P w K H av d f)(h:H e=none):ie P w K H (e::av) d f:=by
 obtain⟨h0,kvs,h1,h2⟩:=x;obtain⟨u,hu⟩:=h1.some;have nm:∀{b:Addr}{u:HO},H b=some u->b∉av->b∉e::av:=λ{b u} hb n z=>by
  rcases aG.mp z with z|z
  ·rw[z,h]at hb;cases hb
  ·exact n z
 exact{nm hu h0,kvs,h1,λzs=>(h2 zs).imp id λ⟨l,ys,a,n,b,c⟩=>{l,ys,a,nm b n,b,c}}
def ie.less(x:ie P w K H av d f)(h:∀b∈av',b∈av):ie P w K H av' d f:=by obtain⟨h0,kvs,h1,h2⟩:=x;exact{λz=>h0 (h _ z),kvs,h1,λzs=>(h2 zs).imp id λ⟨l,ys,a,n,b,c⟩=>{l,ys,a,λz=>n (h _ z),b,c}}
def oJ.view(x:oJ P w K H0 H d kvs f)(h0:H0 d=none)(ha:∀b∈av,H0 b≠none):ie P w K H av d f:={λz=>ha _ z h0,kvs,x.at_,λzs=>by
 cases e:valN kvs (dY zs)with
 |none=>exact .inl {rfl,x.no zs e}
 |some v=>
  obtain⟨l,ys,rfl,h2,h3,h4⟩:=x.vals zs v e;exact .inr {l,ys,rfl,λz=>ha _ z h2,h3,h4}}
inductive GJ(P:Program)(w:World)(K:Frag)(vs:Aao)(H:Hp)(Q:VK)(_x3:XK):Prop
 |mk (l t a b:Addr) (ys:Aao) (rows:Aab) (ts known fresh:Aah) (_:vs=[.ref l,.ref t,.ref a,.ref b]) (_:bo K H l ys) (_:fE K H ys rows) (_:H t=some (.tup (ts.map V.str))) (_:bo K H a (known.map V.str)) (_:bo K H b (fresh.map V.str)) (_:rows.length<=100) (_:(∀r∈rows,r.length<=100/\pK r)) (_:ts.length<=100) (_:known.length<=100) (_:fresh.length<=100) (_:(∀z∈known,z∈ts)) (_:(∀z∈fresh,z∈ts)) (_:∀(d:Addr)(H':Hp),bA H H'->H d=none->(∀av:Aaj,(∀b∈av,H b≠none)->ie P w K H' av d (AskP.fX rows ts known fresh))->Q (.ref d) H')
structure Dt6(P:Program)(w:World)(K:Frag)(mg:Aad)(base:Heap):Prop where
 Uo:eG P w K mg base 1 "is_image" ["row","terms"] (GK K)
def PQ{rs ts ks:Aah}(h:pK rs)(le:rs.length=ts.length)(hk:∀z∈ks,z∈ts):pK (ks.map (AskP.atT rs ts)):=λz hz=>by obtain⟨t,ht,rfl⟩:=aA.mp hz;exact h _ (aB (KQ (hk t ht) le))
def Nv{rows:Aab}{ts known fresh r:Aah}(h:rows[i]?=some r)(im:AskP.mZ r ts=true):AskP.fX (rows.take (i+1)) ts known fresh=λzs=>if zs=known.map (AskP.atT r ts)then AskP.fX (rows.take i) ts known fresh zs++[fresh.map (AskP.atT r ts)]else AskP.fX (rows.take i) ts known fresh zs:=by
 funext zs;unfold AskP.fX;rw[aV,h,bI,gc,aM];by_cases c:zs=known.map (AskP.atT r ts)
 ·rw[aD c,List.filter_cons_of_pos (by rw[im,c];simp)];rfl
 ·rw[au c,wz (by rw[im,iF];exactλq=>c (bw q).symm)];simp
def Nw{rows:Aab}{ts known fresh r:Aah}(h:rows[i]?=some r)(im:AskP.mZ r ts=false):AskP.fX (rows.take (i+1)) ts known fresh=AskP.fX (rows.take i) ts known fresh:=by funext zs;unfold AskP.fX;rw[aV,h,bI,gc,aM,wz (by rw[im];simp)];simp
def mU:cz ["rows","terms","known","fresh","tails","row","key"] ["rows","terms","known","fresh"] (bQ rW):=jV (-3)
def E2(F:fG K "tails_by_key" "tails_by_key" rW f fd)(T:Txt K mg)(D:Dt6 P w K mg base):dh P w K mg base fW 3 f fd ["rows","terms","known","fresh"] (GJ P w K):=by
 refine F.ok mU (λ_ _ _ _ h=>by cases h;subst_vars;rfl) (-6);obtain⟨l,t,a,b,ys,rows,ts,known,fresh,rfl,hl,rL,ht,ha,hb,lr,gr,lt,lk,lf,kt,ft,k⟩:=h;have hu:=jQ hr;have hN:=wX hr;refine{_,(aO (gn 4 mU mh) (aO (fg bJ rfl (fS (pv 0)) (oF (i:=5) mU.nd rfl (Or.inr rfl)) (aY (iJ (mD (cl D.Uo hr (fu (pv 5) (pv 1)))) (aO (gn 6 mU (d7 fD rfl T.j7 (-3) (cH (iz rfl (dy (fs:=["row","terms"]) (fr:=[5,1])) (fS (pv 2)) (λ_ _ _ _=>(dj (yb (K:=K)) (pv 1) (Jp (K:=K) nZ nY nX zi (pv 2) (cH (pv 0))) (-15))))))) (aY (kH (mX cQ dO dM lW (NQ hN (pv 4) (pv 6) (gY jh) ⟨rfl,rfl,rfl,rfl⟩) (cH (d7 fD rfl T.j7 (-3) (cH (iz rfl (dy (fs:=["row","terms"]) (fr:=[5,1])) (fS (pv 3)) (λ_ _ _ _=>(dj (yb (K:=K)) (pv 1) (Jp (K:=K) nZ nY nX zi (pv 2) (cH (pv 0))) (-15))))))))))) fm))) (aY (cN (pv 4))))),?_}
 have ly:ys.length=rows.length:=rL.length;intro d iM;have s1:bA H (upd H d (.dK [])):=aN iM _;refine{_,rfl,l,rfl,{_,gx hl s1},mi (K:=K) (a:=l) (xs:=ys)
  (λi Z H2=>∃(x1 x2:Aap),Z=[some (.ref l),some (.ref t),some (-49),some (.ref b),some (.ref d),x1,x2]/\bA H H2/\i<=rows.length/\∃kvs,oJ P w K H H2 d kvs (AskP.fX (rows.take i) ts known fresh)/\kvs.length<=i)
  {none,none,rfl,s1,aP _,[],{Cr ar,λzs _=>rfl,λzs v h=>(by cases h),λzs rH l h=>(by cases h)},ak _} (λi Z H2 _ ⟨_,_,_,sm,_⟩=>gx hl sm) ?_ ?_}
 ·rintro i x Z H2 hx ⟨x1,x2,rfl,s2,_,kvs,tI,lkv⟩;obtain⟨r,tM,ra,rfl,Bo⟩:=Paired.at' (iZ rL s2) hx;have bU:i<rows.length:=(ao.mp tM).1;obtain⟨g1,g2⟩:=gr r (aB tM);refine{_,rfl,_,rfl,ra,t,r,ts,rfl,Bo,s2 _ _ ht,g1,lt,λH3 s3=>{_,rfl,?_}};refine fZ (λc=>?_) (λc=>?_)
  ·have le:r.length=ts.length:=by unfold AskP.mZ at c;rw[cE]at c;exact bw c.1
   have L7:=s2.trans s3;have UA:=gP Bo s3;have tI3:=tI.same s3;refine{_,rfl,a,rfl,{_,gx ha L7},kQ (K:=K) (a:=a) (xs:=known.map V.str) (λj zs H4=>H4=H3/\j<=known.length/\zs=((known.take j).map (AskP.atT r ts)).map V.str) (-37) {rfl,aP _,rfl} ?_ ?_ ?_}
   ·rintro j zs H4 hj ⟨rfl,_,rfl⟩;refine{gx ha L7,?_};rw[ag,ag,aL];lia
   ·rintro j x zs H4 N hc ⟨rfl,hj,rfl⟩ tQ;obtain⟨z,hz,rfl⟩:=iA hc;have lX:j<known.length:=(ao.mp hz).1;have m:=kt z (aB hz);refine iy ?_;refine{_,rfl,_,rfl,.inr (.inl {rfl,.inl {_,L7 _ _ ht}}),_,rfl,t,ts,z,ts.idxOf z,rfl,rfl,bx.of (L7 _ _ ht),(wQ m).1,(wQ m).2,ra,_,_,V.str (AskP.atT r ts z),rfl,rfl,UA,jv (by rw[aJ,KQ m le];rfl),tQ _ _ {rfl,lX,?_}};rw[aV,hz,aM,aM];rfl
   rintro zs H4 ⟨rfl,_,rfl⟩ q hq;rw[ag,aT];refine{q,_,rfl,.inl {bo.of ar,λkp Hl=>?_}};have s5:bA H4 (upd (upd H4 q (.lst ((-19).map V.str))) kp (.tup ((-19).map V.str))):=(aN hq _).trans (aN Hl _);have aa9:upd (upd H4 q (.lst ((-19).map V.str))) kp (.tup ((-19).map V.str)) kp=some (.tup ((-19).map V.str)):=ar;generalize (upd (upd H4 q (.lst ((-19).map V.str))) kp (.tup ((-19).map V.str)))=H5 at s5 aa9⊢;have ZC:=tI3.same s5;refine{_,rfl,d,kvs,rfl,ZC.at_,_,rfl,(-53),λl0 qw=>?_};have s6:bA H5 (upd H5 l0 (.lst [])):=aN qw _;have vQ:upd H5 l0 (.lst []) l0=some (.lst []):=ar;have vC:=L7.trans (s5.trans s6);have RS:H l0=none:=(L7.trans s5).free qw;have fr6:∀zs,valN kvs (dY zs)≠some (.ref l0):=λzs h=>by obtain⟨l',_,e,_,h3,_⟩:=ZC.vals zs _ h;cases e;rw[qw]at h3;cases h3
   have LW:=ZC.same s6;generalize (upd H5 l0 (.lst []))=H6 at s6 vQ vC LW⊢;have MS:jm K H6 (dY (-19)) kp:=sf (bx.of (s6 _ _ aa9)) (PQ g2 le kt);refine{kp,kvs,_,rfl,LW.at_,MS,by lia,λv hv=>?_,λhv=>?_};rotate_left;have I7:=LW.aat MS hv RS vQ iM fr6;have Wj:valN (putN kvs (dY (-19)) kp (.ref l0)) (dY (-19))=some (.ref l0):=by rw[qp,aD rfl]
   have vB:bA H (upd H6 d (.ext (DN P w d (putN kvs (dY (-19)) kp (.ref l0))))):=λb o e=>by rw[aw (aW e iM)];exact vC _ _ e
   have lk7:(putN kvs (dY (-19)) kp (.ref l0)).length<=i+1:=aC sd ∅;have Ol:bx K (upd H6 d (.ext (DN P w d (putN kvs (dY (-19)) kp (.ref l0))))) ra (r.map V.str):=nE (gP UA (s5.trans s6)) (eK.upd LW.at_.pV);generalize WL:(upd H6 d (.ext (DN _ _ d _)))=H7
   replace I7:oJ P w K H H7 d (putN kvs (dY (-19)) kp (.ref l0)) (AskP.fX (rows.take i) ts known fresh):=by rw[<-WL];exact I7
   replace vB:bA H H7:=by rw[<-WL];exact vB
   replace Ol:bx K H7 ra (r.map V.str):=by rw[<-WL];exact Ol
   clear WL;generalize (putN kvs (dY (-19)) kp (.ref l0))=kv7 at I7 Wj lk7;rotate_left;have Ol:=gP UA (s5.trans s6);have vB:=vC;have I7:=LW;have lk7:kvs.length<=i+1:=by lia
   have Wj:=hv;clear vC s6 LW MS vQ;obtain⟨H7,rfl⟩:∃x,x=H6:=⟨_,rfl⟩;obtain⟨kv7,rfl⟩:∃x,x=kvs:=⟨_,rfl⟩;all_goals
    obtain⟨ll,JN,e7,h07,yo,Hh⟩:=I7.vals _ _ Wj;cases e7;have lly:JN.length<=100:=by rw[Hh.length];unfold AskP.fX;rw[ag];refine aC (cS _ _) ?_;rw[aL];lia
    refine{.inl {rfl,_,bo.of yo},?_};refine{_,rfl,b,rfl,{_,gx hb vB},kQ (K:=K) (a:=b) (xs:=fresh.map V.str) (λj zs H8=>H8=H7/\j<=fresh.length/\zs=((fresh.take j).map (AskP.atT r ts)).map V.str) (-37) {rfl,aP _,rfl} ?_ ?_ ?_}
    ·rintro j zs H8 hj ⟨rfl,_,rfl⟩;refine{gx hb vB,?_};rw[ag,ag,aL];lia
    ·rintro j x zs H8 N hc ⟨rfl,hj,rfl⟩ tQ;obtain⟨z,hz,rfl⟩:=iA hc;have lX:j<fresh.length:=(ao.mp hz).1;have m:=ft z (aB hz);refine iy ?_;refine{_,rfl,_,rfl,.inr (.inl {rfl,.inl {_,vB _ _ ht}}),_,rfl,t,ts,z,ts.idxOf z,rfl,rfl,bx.of (vB _ _ ht),(wQ m).1,(wQ m).2,ra,_,_,V.str (AskP.atT r ts z),rfl,rfl,Ol,jv (by rw[aJ,KQ m le];rfl),tQ _ _ {rfl,lX,?_}};rw[aV,hz,aM,aM];rfl
    rintro zs H8 ⟨rfl,_,rfl⟩ q2 hq2;rw[ag,aT];refine{q2,_,rfl,.inl {bo.of ar,λtp htp=>?_}};have s8:=(aN hq2 (.lst ((fresh.map (AskP.atT r ts)).map V.str))).trans (aN htp (.tup ((fresh.map (AskP.atT r ts)).map V.str)));have I9:=(I7.same s8).push (p:=tp) (row:=fresh.map (AskP.atT r ts)) Wj (s8 _ _ yo) (bx.of ar);refine{_,JN,_,rfl,rfl,s8 _ _ yo,bO ∅,?_};refine{_,_,rfl,λb o e=>?_,bU,kv7,?_,lk7}
    ·rw[aw (aW e h07)];exact s8 _ _ (vB _ _ e)
    ·rw[Nv tM c];exact I9
  ·refine{_,_,rfl,s2.trans s3,bU,kvs,?_,by lia};rw[Nw tM (by simpa using c)];exact tI.same s3
 ·rintro Z H2 ⟨x1,x2,rfl,s2,_,kvs,tI,_⟩;rw[ly,aT]at tI;exact{_,rfl,k d H2 s2 iM λav ha=>tI.view iM ha}
end
end lY
namespace L2
open PySem PySem.Spec PyProof.Rows
section
variable{P:Program}{w:World}{A:Around}{E:Aae}{v:Shared}
structure Zu(h:Heap)(z ti to i1 i2 l1 l2 T:Addr)(k:Nat):Prop where
 self:∃b,h.get? z=some (yF (rawInt T) b ti to)
 live:∃o,h.get? T=some o
 ins:IsPair h ti (.ref i1) (.ref i2)
 w1:h.IsTupleIter i1 l1 k
 w2:h.IsTupleIter i2 l2 k
def W8{Q:Aae}(D:ZipApart z ti to i1 i2 l1 l2)(nT:T≠z)(g:Zu v.heap z ti to i1 i2 l1 l2 T k)
  (t1:v.heap.IsTuple l1 xs) (t2:v.heap.IsTuple l2 ys) (ex:xs[k]?=some x) (ey:ys[k]?=some y)
  (q:∀h',Zu h' z ti to i1 i2 l1 l2 T (k+1)->IsPair h' v.heap.objs.size x y->(∀c o,c≠z->c≠i1->c≠i2->v.heap.get? c=some o->h'.get? c=some o)->Q (.ref v.heap.objs.size) {v with heap:=h'}):
  wpAny (-25) A (-47) (λfin s'=>∃u,fin=.done (.ret u)/\Q u s') E v:=by
 obtain⟨⟨b,gs⟩,gT,gi,g1,g2⟩:=g;show wpAny _ _ (field (.ref z) 2>>=_) _ _ _;refine ae (bF gs rfl rfl ?_);refine ae (bF gs rfl rfl ?_);refine ae (bW gi rfl ?_);refine ae (Lz gs gT λp1 z1 r1=>?_);refine ae ?_;refine ae (ae (bP ?_));refine ae (uR (ju g1 r1 D.i1z) (oA t1 r1 D.l1z) ex λp2 k2 r2=>af ?_);refine af ?_;refine ae (ae (bP ?_));refine ae (uR (ju (ju g2 r1 D.i2z) r2 D.i12.symm) (oA (oA t2 r1 D.l2z) r2 D.l2i1) ey λp3 k3 r3=>af ?_);refine af (af ?_);show wpAny _ _ (newTuple [x,y]>>=_) _ _ _;refine ae (lD (af {_,rfl,?_}));have sz:p3.objs.size=v.heap.objs.size:=by rw[r3.1,r2.1,r1.1]
 have z3:=r3.extBut _ _ D.i2z.symm (r2.extBut _ _ D.i1z.symm z1);have st:∀c o,c≠z->c≠i1->c≠i2->v.heap.get? c=some o->p3.get? c=some o:=λc o m1 m2 m3 e=>r3.extBut _ _ m3 (r2.extBut _ _ m2 (r1.extBut _ _ m1 e));have j1:=ju k2 r3 D.i12;rw[sz];obtain⟨oa,ja,ra⟩:=j1;obtain⟨ob,jb,rb⟩:=k3;obtain⟨oT,gT⟩:=gT;obtain⟨o1,e1,c1,_⟩:=g1;obtain⟨o2,e2,c2,_⟩:=g2;refine q _ {{true,ah _ z3},?_,ah _ (st _ _ D.TIz D.TIi1 D.TIi2 gi),{oa,ah _ ja,ra},{ob,ah _ jb,rb}} ?_ λc o m1 m2 m3 e=>ah _ (st c o m1 m2 m3 e)
 ·by_cases n1:T=i1
  ·rw[n1];exact{oa,ah _ ja}
  ·by_cases n2:T=i2
   ·rw[n2];exact{ob,ah _ jb}
   ·exact{oT,ah _ (st _ _ nT n1 n2 gT)}
 ·have:=aE p3 (o:={cls:=.type "tuple",data:=.seq #[x,y]}) rfl;rw[sz]at this;exact this
def YW(hh:A.handled=none)(D:ZipApart z ti to i1 i2 l1 l2)(g:Zu v.heap z ti to i1 i2 l1 l2 T k)
  (t1:v.heap.IsTuple l1 xs) (ex:xs[k]?=none)
  (q:∀h' e,(∀c o,c≠z->c≠i1->c≠i2->v.heap.get? c=some o->h'.get? c=some o)->(∃o,h'.get? e=some o/\o.cls=.type "StopIteration")->E (.ref e) {v with heap:=h'}):
  wpAny (-25) A (-47) Q E v:=by
 obtain⟨⟨b,gs⟩,gT,gi,g1,g2⟩:=g;show wpAny _ _ (field (.ref z) 2>>=_) _ _ _;refine ae (bF gs rfl rfl ?_);refine ae (bF gs rfl rfl ?_);refine ae (bW gi rfl ?_);refine ae (Lz gs gT λp1 z1 r1=>?_);refine ae ?_;refine ae (ae (bP ?_));exact ae (xW hh (ju g1 r1 D.i1z) (oA t1 r1 D.l1z) ex λp2 e r2 he=>q p2 e (λc o m1 m2 m3 x=>r2 _ _ m2 (r1.extBut _ _ m1 x)) he)
def W7(D:ZipApart z ti to i1 i2 l1 l2)(nT:T≠z)(g:Zu v.heap z ti to i1 i2 l1 l2 T k)
  (t1:v.heap.IsTuple l1 xs) (t2:v.heap.IsTuple l2 ys) (ex:xs[k]?=some x) (ey:ys[k]?=some y)
  (q:∀h',Zu h' z ti to i1 i2 l1 l2 T (k+1)->IsPair h' v.heap.objs.size x y->(∀c o,c≠z->c≠i1->c≠i2->v.heap.get? c=some o->h'.get? c=some o)->Q (some (.ref v.heap.objs.size)) {v with heap:=h'}):
  wpAny (-25) A (pyNext (.ref z)) Q E v:=by
 obtain⟨b,gs⟩:=g.self;have ty:v.TypeIs (.ref z) "zip":=⟨_,gs,rfl⟩;unfold pyNext;exact ae (dH (wpAny_callSpecial?_slot ty eA (bq eA ty kA (W8 D nT g t1 t2 ex ey λh' b1 b2 b3=>af (q h' b1 b2 b3)) (jM _))))
def W6(hh:A.handled=none)(D:ZipApart z ti to i1 i2 l1 l2)(g:Zu v.heap z ti to i1 i2 l1 l2 T k)
  (t1:v.heap.IsTuple l1 xs) (ex:xs[k]?=none) (q:∀h',(∀c o,c≠z->c≠i1->c≠i2->v.heap.get? c=some o->h'.get? c=some o)->Q none {v with heap:=h'}):
  wpAny (-25) A (pyNext (.ref z)) Q E v:=by
 obtain⟨b,gs⟩:=g.self;have ty:v.TypeIs (.ref z) "zip":=⟨_,gs,rfl⟩;unfold pyNext;refine ae (dH (wpAny_callSpecial?_slot ty eA (bq eA ty kA (YW hh D g t1 ex λh' e hk he=>?_) (jM _))));obtain⟨o,ho,hc⟩:=he;exact ae (fY ⟨o,ho,hc⟩ j8 (af (q _ hk)))
variable{prog:Program}
def YA{h0:Heap}(hA:A.handled=none)(D:ZipApart z ti to i1 i2 l1 l2)(iM:h0.get? d=none)(n1:d≠z)(n2:d≠i1)(n3:d≠i2)(n4:d≠ti)
  (pF:h0.IsTuple l1 us.toArray) (iX:h0.IsTuple l2 vs.toArray) (hp:Paired (-65) us pairs) (hv:vs=pairs.map (·.2)) (hsz:pairs.length<=sizeLine) (g:Array GenState) (dr:Drawn) (os:OsState)
  (k:∀h' tk,(∀b o,b≠z->b≠to->b≠i1->b≠i2->h0.get? b=some o->h'.get? b=some o)->h'.DictOf (bz prog w) d (merged [] pairs)->R (.ok (.ret .none)) ⟨h',g,dr,tk,os⟩):
  ∀(m i:Nat)(h:Heap)(tk:Nat)(T:Addr),us.length -i=m->i<=us.length->(∀b o,b≠z->b≠to->b≠i1->b≠i2->h0.get? b=some o->h.get? b=some o)->T≠z->Zu h z ti to i1 i2 l1 l2 T i->h.DictOf (bz prog w) d (merged [] (pairs.take i))->
   codeAny (-5) A (.builtin "dict.update.loop" {[.ref d,.ref z,rawInt i,.none],[]}) R ⟨h,g,dr,tk,os⟩:=by
 intro m;have lp:=bp hp;have V7:∀(h:Heap),(∀b o,b≠z->b≠to->b≠i1->b≠i2->h0.get? b=some o->h.get? b=some o)->h.IsTuple l1 us.toArray/\h.IsTuple l2 vs.toArray:=λh kp=>by obtain⟨o1,e1,r1⟩:=pF;obtain⟨o2,e2,r2⟩:=iX;exact{{o1,kp _ _ D.l1z D.l1TO D.l1i1 D.l1i2 e1,r1},{o2,kp _ _ D.l2z D.l2TO D.l2i1 D.l2i2 e2,r2}}
 induction m with
 |zero=>
  intro i h tk T em hi kp nT hz hd;have ei:i=us.length:=by lia
  refine dm sA ?_;unfold Builtin.«dict.update.loop»;refine ae (W6 (show(A.under _).handled=none from hA) D hz (V7 h kp).1 (by rw[ei];simp) λh' hs=>?_);refine ae (af (af ?_));rw[ei,lp,aT]at hd;obtain⟨o,es,ep,e,r⟩:=hd;exact k h' _ (λb o m1 m2 m3 m4 hb=>hs b o m1 m3 m4 (kp b o m1 m2 m3 m4 hb)) {o,es,ep,hs _ _ n1 n2 n3 e,r}
 |succ m ih=>
  intro i h tk T em hi kp nT hz hd;have bU:i<us.length:=by lia
  obtain⟨x,hx⟩:∃x,us[i]?=some x:={_,aq bU};obtain⟨kv,iD,Rx⟩:=Paired.at' hp hx;have hy:vs[i]?=some kv.2:=by rw[hv,aJ,iD];rfl
  refine dm sA ?_;unfold Builtin.«dict.update.loop»;obtain⟨t1,t2⟩:=V7 h kp;refine ae (W7 D nT hz t1 t2 (by simpa using hx) (by simpa using hy) λh1 uy pr wR=>?_);have Bf:=λb o m1 m2 m3 m4 hb=>wR b o m1 m3 m4 (kp b o m1 m2 m3 m4 hb);obtain⟨od,es,ep,ed,rd⟩:=hd;have Af:h1.DictOf (bz prog w) d (merged [] (pairs.take i)):={od,es,ep,wR _ _ n1 n2 n3 ed,rd};refine ae (bP (ae (xE ?_)));unfold Builtin.Dict.pairItems;refine ae (fA ⟨_,pr,rfl⟩ ?_);rw[aD (-8)];refine ae (bW pr rfl (af ?_));have lm:(merged [] (pairs.take i)).length<=sizeLine:=by have e1:=qa [] (pairs.take i);rw[aL]at e1;simp only[c7]at e1;lia
  refine bP (rJ Rx Af λh2 hd2 kN=>?_);refine af {jn _ (-3),?_};have st:∀b o,b≠d->h1.get? b=some o->h2.get? b=some o:=λb o n e=>(kN.2 b n).trans e;have vO:=λb o m1 m2 m3 m4 hb=>st b o (λe=>by rw[e,iM]at hb;cases hb) (Bf b o m1 m2 m3 m4 hb);obtain⟨⟨b,gs⟩,⟨oT,gT⟩,gi,⟨oa,ja,ra⟩,⟨ob,jb,rb⟩⟩:=uy;have yg:Zu h2 z ti to i1 i2 l1 l2 T (i+1):=by
   refine{{b,st _ _ (bV n1) gs},?_,st _ _ (bV n4) gi,{oa,st _ _ (bV n2) ja,ra},{ob,st _ _ (bV n3) jb,rb}};by_cases nd:T=d
   ·obtain⟨o',_,_,e',_⟩:=hd2;rw[nd];exact⟨o',e'⟩
   ·exact{oT,st _ _ nd gT}
  exact ih (i+1) h2 _ T ∅ bU vO nT yg (by rw[vK [] pairs i kv iD];exact hd2)
def UW{h0 h:Heap}(hA:A.handled=none)(D:ZipApart z ti to i1 i2 l1 l2)(iM:h0.get? d=none)(n1:d≠z)(n2:d≠i1)(n3:d≠i2)(n4:d≠ti)(n5:d≠to)
  (pF:h0.IsTuple l1 us.toArray) (iX:h0.IsTuple l2 vs.toArray) (hp:Paired (-65) us pairs) (hv:vs=pairs.map (·.2)) (hsz:pairs.length<=sizeLine) (h1l:1<=us.length) (g:Array GenState) (dr:Drawn) (os:OsState)
  (k:∀h' tk,(∀b o,b≠z->b≠to->b≠i1->b≠i2->h0.get? b=some o->h'.get? b=some o)->h'.DictOf (bz prog w) d (merged [] pairs)->R (.ok (.ret .none)) ⟨h',g,dr,tk,os⟩)
  (kp:∀b o,b≠z->b≠to->b≠i1->b≠i2->h0.get? b=some o->h.get? b=some o) (hz:IsZip h z ti to .none) (hi:IsPair h ti (.ref i1) (.ref i2)) (ho:∃a b,IsPair h to a b) (j1:h.IsTupleIter i1 l1 0) (j2:h.IsTupleIter i2 l2 0) (hd:h.DictOf (bz prog w) d []):
   codeAny (-5) A (.builtin "dict.update.loop" {[.ref d,.ref z,rawInt 0,.none],[]}) R ⟨h,g,dr,tk,os⟩:=by
 obtain⟨x,hx⟩:∃x,us[0]?=some x:={_,aq ∅};obtain⟨kv,iD,Rx⟩:=Paired.at' hp hx;have hy:vs[0]?=some kv.2:=by rw[hv,aJ,iD];rfl
 have t1:h.IsTuple l1 us.toArray:=by obtain⟨o1,e1,r1⟩:=pF;exact{o1,kp _ _ D.l1z D.l1TO D.l1i1 D.l1i2 e1,r1}
 have t2:h.IsTuple l2 vs.toArray:=by obtain⟨o2,e2,r2⟩:=iX;exact{o2,kp _ _ D.l2z D.l2TO D.l2i1 D.l2i2 e2,r2}
 refine dm sA ?_;unfold Builtin.«dict.update.loop»;obtain⟨a,b,ho⟩:=ho;have lz:=aF hz;refine ae (Ly {D.TITO,D.i12,D.l1TO,D.l2TO} {hz,hi,⟨a,b,ho⟩,j1,j2} t1 t2 (by simpa using hx) (by simpa using hy) λh1 adq a5 wR=>?_);obtain⟨a1,_,_,a3,a4⟩:=adq;obtain⟨od,es,ep,ed,rd⟩:=hd;have Af:h1.DictOf (bz prog w) d []:={od,es,ep,wR _ _ n1 n5 n2 n3 ed,rd};refine ae (bP (ae (xE ?_)));unfold Builtin.Dict.pairItems;refine ae (fA ⟨_,a5,rfl⟩ ?_);rw[aD (-8)];refine ae (bW a5 rfl (af ?_));refine bP (rJ Rx Af λh2 hd2 kN=>?_);refine af {jn _ (-3),?_};have st:∀b o,b≠d->h1.get? b=some o->h2.get? b=some o:=λb o n e=>(kN.2 b n).trans e;obtain⟨oa,ja,ra⟩:=a3;obtain⟨ob,jb,rb⟩:=a4;have yg:Zu h2 z ti to i1 i2 l1 l2 h.objs.size 1:=by
  refine{{false,st _ _ (bV n1) a1},?_,st _ _ (bV n4) (wR _ _ D.TIz D.TITO D.TIi1 D.TIi2 hi),{oa,st _ _ (bV n2) ja,ra},{ob,st _ _ (bV n3) jb,rb}};by_cases nd:h.objs.size=d
  ·obtain⟨o',_,_,e',_⟩:=hd2;rw[nd];exact⟨o',e'⟩
  ·exact{_,st _ _ nd a5}
 exact YA hA D iM n1 n2 n3 n4 pF iX hp hv hsz g dr os k (us.length -1) 1 h2 _ h.objs.size rfl ∅ (λb o m1 m2 m3 m4 hb=>st b o (λe=>by rw[e,iM]at hb;cases hb) (wR b o m1 m2 m3 m4 (kp b o m1 m2 m3 m4 hb))) (bu lz) yg (by rw[vK [] pairs 0 kv iD];exact hd2)
def abr{h0 h:Heap}(hA:A.handled=none)(D:ZipApart z ti to i1 i2 l1 l2)(iM:h0.get? d=none)(n1:d≠z)(n2:d≠i1)(n3:d≠i2)(n4:d≠ti)(n5:d≠to)
  (pF:h0.IsTuple l1 us.toArray) (iX:h0.IsTuple l2 vs.toArray) (hp:Paired (-65) us pairs) (hv:vs=pairs.map (·.2)) (hsz:pairs.length<=sizeLine) (g:Array GenState) (dr:Drawn) (os:OsState)
  (k:∀h' tk,(∀b o,b≠z->b≠to->b≠i1->b≠i2->h0.get? b=some o->h'.get? b=some o)->h'.DictOf (bz prog w) d (merged [] pairs)->R (.ok (.ret .none)) ⟨h',g,dr,tk,os⟩)
  (kp:∀b o,b≠z->b≠to->b≠i1->b≠i2->h0.get? b=some o->h.get? b=some o) (hz:IsZip h z ti to .none) (hi:IsPair h ti (.ref i1) (.ref i2)) (ho:∃a b,IsPair h to a b) (j1:h.IsTupleIter i1 l1 0) (j2:h.IsTupleIter i2 l2 0) (hd:h.DictOf (bz prog w) d []):
   codeAny (-5) A (.builtin "dict.update.loop" {[.ref d,.ref z,rawInt 0,.none],[]}) R ⟨h,g,dr,tk,os⟩:=by
 by_cases h1l:1<=us.length
 ·exact UW hA D iM n1 n2 n3 n4 n5 pF iX hp hv hsz h1l g dr os k kp hz hi ho j1 j2 hd
 ·have lp:=bp hp;have e1:us=[]:=gu.mp ∅;have e2:pairs=[]:=gu.mp ∅;subst e1 e2;have t1:h.IsTuple l1 ([]:Aag).toArray:=by obtain⟨o1,e1,r1⟩:=pF;exact{o1,kp _ _ D.l1z D.l1TO D.l1i1 D.l1i2 e1,r1}
  have t2:h.IsTuple l2 vs.toArray:=by obtain⟨o2,e2,r2⟩:=iX;exact{o2,kp _ _ D.l2z D.l2TO D.l2i1 D.l2i2 e2,r2}
  refine dm sA ?_;unfold Builtin.«dict.update.loop»;obtain⟨a,b,ho⟩:=ho;refine ae (Lx (show(A.under _).handled=none from hA) {D.TITO,D.i12,D.l1TO,D.l2TO} {hz,hi,⟨a,b,ho⟩,j1,j2} t1 (-9) λh' hs=>?_);refine ae (af (af ?_));obtain⟨o,es,ep,e,r⟩:=hd;exact k h' _ (λb o m1 m2 m3 m4 hb=>hs b o m1 m2 m3 m4 (kp b o m1 m2 m3 m4 hb)) {o,es,ep,hs _ _ n1 n5 n2 n3 e,r}
def UX(hA:A.handled=none)(D:ZipApart z ti to i1 i2 l1 l2)
  (pF:s.heap.IsTuple l1 us.toArray) (iX:s.heap.IsTuple l2 vs.toArray) (hp:Paired (-65) us pairs) (hv:vs=pairs.map (·.2)) (hsz:pairs.length<=sizeLine)
  (hz:IsZip s.heap z ti to .none) (hi:IsPair s.heap ti (.ref i1) (.ref i2)) (ho:∃a b,IsPair s.heap to a b) (j1:s.heap.IsTupleIter i1 l1 0) (j2:s.heap.IsTupleIter i2 l2 0)
  (k:∀h' tk,(∀b o,b≠z->b≠to->b≠i1->b≠i2->s.heap.get? b=some o->h'.get? b=some o)->h'.DictOf (bz prog w) s.heap.objs.size (merged [] pairs)->Q (-11) {s with heap:=h',toks:=tk}):
  wpAny (-5) A (call (.type "dict") [.ref z]) Q E s:=by
 refine yz (Q₁:=λv1 z1=>v1=.ref s.heap.objs.size/\z1={s with heap:=s.heap.push {cls:=.type "dict",data:=.dict #[]}}) F.kt_called_dict (zO _) CL (kt_code_dict_new _ ⟨rfl,rfl⟩) ?_;rintro v1 z1 ⟨rfl,rfl⟩;obtain⟨pE,g,dr,tk,os⟩:=s;have Eb:(pE.push {cls:=.type "dict",data:=.dict #[]}).DictOf (bz prog w) pE.objs.size []:=xc pE;have uy:(pE.push {cls:=.type "dict",data:=.dict #[]}).get? z=some (yF .none false ti to):=ah _ hz;refine{Eb.typeIs,B2 _ _,?_};unfold Builtin.«dict.__init__»;refine ae ?_;unfold Builtin.Dict.selfAndRest;refine ae (jr Eb.typeIs (af ?_));show wpAny (-5) _ (Builtin.Dict.updateFrom "dict.__init__" pE.objs.size (.ref z) [] .none) _ _ _;unfold Builtin.Dict.updateFrom;refine ae (fA ⟨_,uy,rfl⟩ ?_);rw[aD (-8)];refine ae (Yz uy hA λh2 tk2 e ne=>?_);rw[aD (-8)];refine ae (fQ ?_);have kp:∀b o,pE.get? b=some o->h2.get? b=some o:=λb o hb=>ne.keeps _ _ (ah _ hb);have yg:=kp _ _ hz;refine ae (lZ yg ?_);have hd2:h2.DictOf (bz prog w) pE.objs.size []:=by obtain⟨o',es,ep,h',r⟩:=Eb;exact{o',es,ep,ne.keeps _ _ h',r}
 refine af {jn _ (-3),?_};obtain⟨a,b,ho⟩:=ho;obtain⟨oa,ja,ra⟩:=j1;obtain⟨ob,jb,rb⟩:=j2;have nz:∀{c:Addr}{o:Obj},pE.get? c=some o->pE.objs.size≠c:=λe=>bu (aF e);exact abr (show A.in1.handled=none from hA) D (ir (ak _)) (nz hz) (nz ja) (nz jb) (nz hi) (nz ho) pF iX hp hv hsz g dr os (λh' EG C4 qW=>{rfl,k h' EG C4 qW}) (λb o _ _ _ _ hb=>kp b o hb) yg (kp _ _ hi) {a,b,kp _ _ ho} {oa,kp _ _ ja,ra} {ob,kp _ _ jb,rb} hd2
inductive abR(K:Frag)(Q:VK)(vs:Aao)(H1:Hp):Prop
 |mk (l1 l2:Addr) (ks:List Key) (ys:Aao) (_:vs=[.ref l1,.ref l2]) (_:bx K H1 l1 (ks.map kV)) (_:bx K H1 l2 ys) (_:ks.length=ys.length) (_:∀d,H1 d=none->Q (.ref d) (upd H1 d (.dK (fk [] (ks.zip ys)))))
def acM(K:Frag)(ta:TA):TE:=λZ H Q=>ta Z H λvs H1=>abR K Q vs H1
variable{X:Cx}
def Jl(hg:Gl X "dict")(hm:X.mg "dict"=none)(hg2:Gl X "zip")(Rq:X.mg "zip"=none)(hA:X.A.handled=none)(ha:PA X [a,b] ta)
  (hs:starEach [a,b] X.env=[(false,eval a X.env),(false,eval b X.env)]:=by rfl) (kN:starEach [b] X.env=[(false,eval b X.env)]:=by rfl) (Kf:starEach [.Call (.Name "zip" p2) [a,b] [] Jg] X.env=[(false,eval (.Call (.Name "zip" p2) [a,b] [] Jg) X.env)]:=by rfl):
  PE X (.Call (.Name "dict" p) [.Call (.Name "zip" p2) [a,b] [] Jg] [] pos) (acM X.K ta):=by
 intro pins s Z H Q I h;refine FR (qN I hg hm (by decide+kernel:bootBuiltins "dict"=some (.type "dict")) (dR ?_ Kf rfl));rw[Kf];refine gf (FR (qN I hg2 Rq boot_zip (dR (qH (ha Jg pins s Z H _ I h) λus s1 vs H1 I1 r1 q1=>?_) (by rw[hs,kN]) (by rw[kN];rfl))));obtain⟨l1,l2,ks,ys,e,h1,h2,hkl,q⟩:=q1;subst e;obtain⟨u1,u2,rfl,IV,ET⟩:=vals2 r1;cases IV;cases ET;obtain⟨Fc,IU,EW,uy⟩:=I1.tuple h1;obtain⟨Bj,IT,AY,yg⟩:=I1.tuple h2;obtain⟨pairs,Bq,wU,pD,MM⟩:=LC IU IT hkl;have b1:l1<s1.heap.objs.size:=by obtain⟨o,e,_⟩:=id EW;exact aF e
 have b2:l2<s1.heap.objs.size:=by obtain⟨o,e,_⟩:=id AY;exact aF e
 have lz:ks.length<=sizeLine:=by rw[ag]at uy;exact uy
 refine LA (show s1.heap.IsTuple l1 Fc.toArray from EW) (show s1.heap.IsTuple l2 Bj.toArray from AY) λh' n en zt kp=>?_;subst en;have I2:=I1.kept (t':=s1.toks) kp;refine lB ?_;have t1:h'.IsTuple l1 Fc.toArray:=by obtain⟨o,e,r⟩:=id EW;exact{o,kp _ _ e,r}
 have t2:h'.IsTuple l2 Bj.toArray:=by obtain⟨o,e,r⟩:=id AY;exact{o,kp _ _ e,r}
 have l0:Fc.length=ks.length:=by have:=IU.length;rw[ag]at this;exact this.symm
 refine UX hA (zipApart_new b1 b2) t1 t2 Bq wU ∅ zt.self zt.ins zt.outs zt.w1 zt.w2 λh2 tk vO hd=>?_;have rel:=KV.merge pD .nil;have lzm:(fk [] (ks.zip ys)).length<=sizeLine:=by have e1:=qa [] pairs;rw[rel.length];simp only[c7]at e1;lia
 have kpA:∀c o,s1.heap.get? c=some o->h2.get? c=some o:=λc o e=>by have lc:=aF e;exact vO c o (aH (aZ lc (dP _ _))) (aH (aZ lc (dP _ _))) (aH lc) (aH (aZ lc (dP _ _))) (kp c o e)
 have ld:s1.heap.objs.size<=h'.objs.size:=by exact aC (dP _ 4) (br (aF zt.self))
 exact{.ref h'.objs.size,_,I1.laid kpA ld (yx lzm (fM.mpr (bV (aH (aZ I1.big ld)))) rel hd),rfl,q _ (I1.bj.fresh ld)}
inductive XE(x:V)(vs:Aao)(H:Hp)(Q:VK):Prop
 |mk (a b:Addr) (kvs more:List (Key×V)) (_:x=.ref a) (_:vs=[.ref b]) (_:a≠b) (_:H a=some (.dK kvs)) (_:H b=some (.dK more)) (_:kvs.length+more.length<=sizeLine) (_:Q .cI (upd H a (.dK (fk kvs more))))
def Qy:SD X "dict.update" XE:=by
 intro pins s Z H x vs v us Q I rx rv h;obtain⟨a,b,kvs,more,rfl,rfl,ne,hH,hb,hl,q⟩:=h;cases rx;obtain⟨u,rfl,r1⟩:=rv.one;cases r1;obtain⟨zz,hd,ws,rel,dd⟩:=uY I.bj hH;obtain⟨Vi,hd2,ws2,ZX,Na⟩:=uY I.bj hb;refine q9 wb dd.typeIs PySem.F.entry_dict_update (PySem.F.args_dict_update_2 _ _) (meets_dict_update (bz X.prog X.w) a b ne hd2) {ws,ws2,dd,Na,by rw[<-rel.length,<-ZX.length];exact hl,λh' rO _ hs=>?_};have he:∃o,h'.get? a=some o:=let⟨o,_,_,ho,_⟩:=rO;⟨o,ho⟩
 have hlen:=aC (kI more kvs) hl;exact{.cI,_,sC I (by rw[hH];exact True.intro) hs he (yx hlen hd (ZX.merge rel) rO),rfl,q}
end
end L2
namespace lY
open PySem PySem.Spec PyProof.Rows L2 Dy
seal L2.PE L2.PT L2.PW L2.PA L2.PS L2.lN L2.PI L2.PO L2.Dz L2.PG L2.DA
section
variable{P:Program}{w:World}{K:Frag}{mg:Aad}{base:Heap}
theorem wC:∀{more kvs:List (Key×V)},(fb (fk kvs more) k).isSome=true↔(fb kvs k).isSome=true\/k∈more.map (·.1)
 |[],kvs=>{.inl,λh=>h.elim id λz=>by cases z}
 |x::more,kvs=>by
  show(fb (fk (putK kvs x.1 x.2) more) k).isSome=true↔_;rw[wC (more:=more) (kvs:=putK kvs x.1 x.2),SK,aR,aG];by_cases c:k=x.1
  ·rw[aD c];exact{λ_=>.inr (.inl c),λ_=>.inl rfl}
  ·rw[au c];exact{λh=>h.imp id .inr,λh=>h.imp id λz=>z.resolve_left c}
def JU{zs:Aah}:(Sum.inr z:Key)∈((zs.map (Sum.inr:Str->Key)).zip (zs.map V.str)).map (·.1)↔z∈zs:=by rw[List.map_fst_zip (-9),aA];exact{λ⟨y,h,e⟩=>by cases e;exact h,λh=>⟨z,h,rfl⟩}
def MD{zs:Aah}:(zs.map (Sum.inr:Str->Key)).map kV=zs.map V.str:=by rw[bX];rfl
def abC(H:Hp)(d:Addr)(p:Str->Prop):Prop:=∃kvs,H d=some (.dK kvs)/\∀z,(fb kvs (Sum.inr z:Key)).isSome=true↔p z
def sY(h:ot H v a)(s:bA H H'):ot H' v a:=by obtain⟨p,t,e,h1,h2⟩:=h;exact{p,t,e,s _ _ h1,s _ _ h2}
def lL(h:gF H vs as)(s:bA H H'):gF H' vs as:=by
 induction h with
 |nil=>exact .nil
 |cons h _ ih=>exact .cons (sY h s) ih
inductive ID(K:Frag)(vs:Aao)(H:Hp)(Q:VK)(_x3:XK):Prop
 |mk (h l:Addr) (hz:Aah) (ys:Aao) (ats:Aaa) (_:vs=[.ref h,.ref l]) (_:bx K H h (hz.map V.str)) (_:bo K H l ys) (_:gF H ys ats) (_:hz.length<=100) (_:ats.length<=100) (_:(∀a∈ats,a.2.length<=100)) (_:∀(d:Addr)(H':Hp),bA H H'->H d=none->abC H' d (λz=>z∈hz\/∃a∈ats,z∈a.2)->Q (.ref d) H')
def mV:cz ["head","atoms","needed","name","terms"] ["head","atoms"] (bQ rX):=jV (-3)
def E3(F:fG K "needed_terms" "needed_terms" rX f fd)(T:Txt K mg):dh P w K mg base fW 1 f fd ["head","atoms"] (ID K):=by
 refine F.ok mV (λ_ _ _ _ h=>by cases h;subst_vars;rfl) (-6);obtain⟨h,l,hz,ys,ats,rfl,hh,hl,rL,lh,la,lt,k⟩:=h;have hu:=jQ hr;refine{_,(aO (gn 2 mV (Jl rfl T.A9 rfl T.HU hr.hd (fu (pv 0) (pv 0)))) (aO (fg bJ rfl (fS (pv 1)) (mE rfl (df (jg 3 mV) (df (jg 4 mV) j6))) (aY (kH (mX iL wb PySem.F.type_dict_update Qy (pv 2) (cH (Jl rfl T.A9 rfl T.HU hr.hd (fu (pv 4) (pv 4)))))))) (aY (cN (pv 2))))),?_}
 have ly:ys.length=ats.length:=bp rL;refine{_,rfl,_,rfl,h,h,hz.map Sum.inr,hz.map V.str,rfl,by rw[MD];exact hh,hh,by rw[ag,ag],λd iM=>?_};have s1:=aN iM (.dK (fk [] ((hz.map (Sum.inr:Str->Key)).zip (hz.map V.str))));refine{_,rfl,l,rfl,{_,gx hl s1},mi (K:=K) (a:=l) (xs:=ys)
  (λi Z H2=>∃(x1 x2:Aap),Z=[some (.ref h),some (.ref l),some (.ref d),x1,x2]/\bA H H2/\i<=ats.length/\∃kvs,H2 d=some (.dK kvs)/\kvs.length<=100+100*i/\∀z,(fb kvs (Sum.inr z:Key)).isSome=true↔(z∈hz\/∃a∈ats.take i,z∈a.2))
  {none,none,rfl,s1,aP _,_,ar,?_,?_} (λi Z H2 _ ⟨_,_,_,sm,_⟩=>gx hl sm) ?_ ?_}
 ·refine aC (kI _ _) ?_;rw[kR,ag,ag,c7];lia
 ·intro z;rw[wC,JU];exact{λh=>h.elim (λz=>by cases z) .inl,λh=>h.elim .inr λ⟨a,ha,_⟩=>by cases ha}
 ·rintro i x Z H2 hx ⟨x1,x2,rfl,s2,_,kvs,hd2,lk,hv⟩;obtain⟨a,ha,p,t,rfl,hp,ht⟩:=Paired.at rL hx;have bU:i<ats.length:=(ao.mp ha).1;have l1:=lt a (aB ha);refine{p,_,rfl,bx.of (s2 _ _ hp),rfl,_,_,rfl,_,_,rfl,rfl,?_};have Ra:bx K H2 t (a.2.map V.str):=bx.of (s2 _ _ ht);refine{_,rfl,.inr (.inr (.inl {rfl,.inl ⟨_,hd2⟩})),_,rfl,_,rfl,t,t,a.2.map Sum.inr,a.2.map V.str,rfl,by rw[MD];exact Ra,Ra,by rw[ag,ag],λe MU=>?_};have s3:=aN MU (.dK (-54));have lm:(-54).length<=100:=by refine aC (kI _ _) ?_;rw[kR,ag,ag,c7];lia
  refine{d,e,kvs,_,rfl,rfl,aW hd2 MU,s3 _ _ hd2,ar,br (cK (Nat.add_le_add lk lm) ?_),?_}
  ·exact cK (show 100+100*i+100<=20000 by lia) (-8)
  refine{_,_,rfl,λb o q=>?_,bU,_,ar,?_,λz=>?_}
  ·rw[aw (aW q iM)];exact s3 _ _ (s2 _ _ q)
  ·refine aC (kI _ _) ?_;lia
  ·rw[wC,hv,aV,ha,bI];have e1:(Sum.inr z:Key)∈(-54).map (·.1)↔z∈a.2:=by
    rw[<-JU (zs:=a.2)];have:=wC (k:=(Sum.inr z:Key)) (more:=(a.2.map (Sum.inr:Str->Key)).zip (a.2.map V.str)) (kvs:=[]);refine Iff.trans {λh=>?_,λh=>?_} (this.trans {λh=>h.elim (λz=>by cases z) id,.inr})
    ·cases q:fb (-54) (Sum.inr z:Key)with
     |none=>exact absurd h (SM q)
     |some _=>rfl
    ·obtain⟨v,q⟩:=km.mp h;exact LL q
   rw[e1];constructor
   ·rintro((h|⟨b,hb,h⟩)|h)
    ·exact .inl h
    ·exact .inr {b,dD _ hb,h}
    ·exact .inr {a,b7 _ ax,h}
   ·rintro(h|⟨b,hb,h⟩)
    ·exact .inl (.inl h)
    ·rcases aS.mp hb with hb|hb
     ·exact .inl (.inr ⟨b,hb,h⟩)
     ·cases ay.mp hb;exact .inr h
 ·rintro Z H2 ⟨x1,x2,rfl,s2,_,kvs,hd2,_,hv⟩;rw[ly,aT]at hv;exact{_,rfl,k d H2 s2 iM ⟨kvs,hd2,hv⟩}
end
end lY
namespace L2
open PySem PySem.Spec PyProof.Rows
section
variable{P:Program}{w:World}{A:Around}{E:Aae}{s:Shared}{it d:Addr}{i ep:Nat}{es:Array DictEntry}{o:Obj}
abbrev oS(f0:Value)(b:Bool)(d:Addr)(i n ep:Nat)(ok ov:Value):Obj:={cls:=.type "dict_itemiterator",dict:=none,data:=.fields #[f0,.bool b,.ref d,.int i 0,.int n 0,.int ep 0,ok,ov],slots:=#[]}
def RI(h:Heap)(it d:Addr)(i n ep:Nat):Prop:=∃f0 b ok ov,h.get? it=some (oS f0 b d i n ep ok ov)/\(f0=.none\/∃a:Nat,f0=rawInt a)
def RI.ty(x:RI s.heap it d i es.size ep):s.TypeIs (.ref it) "dict_itemiterator":=by obtain⟨_,_,_,_,e,_⟩:=x;exact⟨_,e,rfl⟩
def RI.jD(x:RI h it d i n ep)(k:∀o,h.get? it=some o->h'.get? it=some o):RI h' it d i n ep:=by obtain⟨f0,b,ok,ov,e,c⟩:=x;exact{f0,b,ok,ov,k _ e,c}
def XC(g:s.heap.get? it=some (oS f0 b d i n ep ok ov))(hf:f0=.none\/∃a:Nat,f0=rawInt a)(q1:Q true s)
  (q2:∀h',h'.get? it=some (oS f0 true d i n ep ok ov)->Heap.SameBut it s.heap h'->Q false {s with heap:=h'}):wpAny (-25) A (Builtin.Dict_items.ownedTupleIsFree (.ref it)) Q E s:=by
 unfold Builtin.Dict_items.ownedTupleIsFree;rcases hf with rfl|⟨a,rfl⟩
 ·exact ae (bF g rfl rfl (af q1))
 ·refine ae (bF g rfl rfl ?_);refine ae (CO ?_);rw[cV];cases s.heap.get? a with
  |none=>exact af q1
  |some u=>
   refine ae (bF g rfl rfl ?_);cases b with
   |true=>exact af (q2 s.heap g (CJ _ _))
   |false=>exact ae (b9 g (-9) λh1 g1 s1=>af (q2 h1 g1 s1))
def Mc{Q:Aae}(gq:RI s.heap it d i es.size ep)(ho:s.heap.get? d=some o)(hd:o.data=.dict es ep)(hi:i<es.size)
  (q:∀h',RI h' it d (i+1) es.size ep->h'.get? s.heap.objs.size=some {cls:=.type "tuple",data:=.seq #[es[i].key,es[i].val]}->(∀b x,b≠it->s.heap.get? b=some x->h'.get? b=some x)->h'.objs.size=s.heap.objs.size+1->Q (-11) {s with heap:=h'}):
  wpAny (-25) A (Builtin.«dict_itemiterator.__next__» {[.ref it],[]}) (λfin s'=>∃u,fin=.done (.ret u)/\Q u s') E s:=by
 have hT:=gq.ty;obtain⟨f0,b,ok,ov,hit,hf⟩:=gq;obtain⟨hp,g,dr,tk,os⟩:=s;refine ae (af (ae (ae (ae (hE hT (af ?_))))));refine ae (iN hit rfl ?_);have own:Builtin.Dict_items.ownsTuple "dict_itemiterator"=true:=by decide
 show wpAny _ _ (if(-70)=true then _ else _) _ _ _;rw[au (show ¬((-70)=true)from aU)];refine ae (af (ae (gw ho hd ?_)));rw[au (-9)];refine ae (af (ae (kL ho hd ?_)));rw[au (-9)];refine af ?_;simp only[show ¬((i:Int)<0)from by lia,dJ,cV,bh hi];refine ae (ae (hE hT (af (ae (pb hT ?_)))));show wpAny _ _ (setField (.ref it) 3 (rawInt ((i:Int)+1))>>=_) _ _ ⟨hp,g,dr,tk,os⟩;refine ae (b9 hit (-9) λh1 e1 s1=>?_);have e1:h1.get? it=some (oS f0 b d (i+1) es.size ep ok ov):=by
  have e:((i+1:Nat):Int)=(i:Int)+1:=by lia
  unfold oS;rw[e];simpa[rawInt]using e1
 have RO:Shared.TypeIs ⟨h1,g,dr,tk,os⟩ (.ref it) "dict_itemiterator":=⟨_,e1,rfl⟩;refine ae (bP (ae (pb RO (ae (pb RO ?_)))));unfold Builtin.Dict_items.pairFromOwner;refine ae (lD ?_);have lt:=aF hit;have z1:=s1.1;obtain⟨h2,Fl⟩:∃h2,h2=h1.push {cls:=.type "tuple",data:=.seq #[es[i].key,es[i].val]}:=⟨_,rfl⟩;have e2:h2.get? it=some (oS f0 b d (i+1) es.size ep ok ov):=by rw[Fl];exact ah _ e1
 have t2:h2.get? hp.objs.size=some {cls:=.type "tuple",data:=.seq #[es[i].key,es[i].val]}:=by rw[Fl,<-z1];exact aE _ rfl
 have k2:∀b x,b≠it->hp.get? b=some x->h2.get? b=some x:=λb x nb e=>by rw[Fl];exact ah _ (s1.extBut b x nb e)
 have z2:h2.objs.size=hp.objs.size+1:=by rw[Fl,cw,z1]
 rw[<-Fl,z1];refine ae (XC e2 hf ?_ λh3 e3 s3=>?_)
 ·simp only[lG];refine ae (bF e2 rfl rfl (ae (bF e2 rfl rfl ?_)));refine ae (b9 e2 (-9) λh3 e3 s3=>?_);refine ae (b9 e3 (-9) λh4 e4 s4=>?_);refine ae (b9 e4 (-9) λh5 e5 s5=>?_);refine ae (b9 e5 (-9) λh6 e6 s6=>?_);have up:=λb x nb e=>s6.extBut b x nb (s5.extBut b x nb (s4.extBut b x nb (s3.extBut b x nb e)));exact ae (mK (af (af {_,rfl,q h6 {_,_,_,_,e6,.inr ⟨_,rfl⟩} (up _ _ (bu lt) t2) (λb x nb e=>up b x nb (k2 b x nb e)) (by rw[s6.1,s5.1,s4.1,s3.1,z2])})))
 ·have s3:=s3;exact af (af {_,rfl,q h3 ⟨_,_,_,_,e3,hf⟩ (s3.extBut _ _ (bu lt) t2) (λb x nb e=>s3.extBut b x nb (k2 b x nb e)) (by rw[s3.1,z2])})
def P5(hh:A.handled=none)(gq:RI s.heap it d i es.size ep)(ho:s.heap.get? d=some o)(hd:o.data=.dict es ep)(hi:es.size<=i)
  (q:∀h' e,(∀b x,b≠it->s.heap.get? b=some x->h'.get? b=some x)->(∃o,h'.get? e=some o/\o.cls=.type "StopIteration")->E (.ref e) {s with heap:=h'}):
  wpAny (-25) A (Builtin.«dict_itemiterator.__next__» {[.ref it],[]}) Q E s:=by
 have hT:=gq.ty;obtain⟨f0,b,ok,ov,hit,hf⟩:=gq;refine ae (af (ae (ae (ae (hE hT (af ?_))))));refine ae (iN hit rfl ?_);show wpAny _ _ (if(-70)=true then _ else _) _ _ s;rw[au (show ¬((-70)=true)from aU)];refine ae (af (ae (gw ho hd ?_)));rw[au (-9)];refine ae (af (ae (kL ho hd ?_)));rw[au (-9)];refine af ?_;simp only[show ¬((i:Int)<0)from by lia,dJ,cV,kX hi];refine ae (ae (hE hT (af ?_)));show wpAny _ _ (setField (.ref it) 2 .none>>=_) _ _ s;refine ae (fI hit rfl (-9) ?_);exact Tb.B6 hh λh' e kp he=>q h' e (λb x nb g=>kp b x ((bN _ _ (bV nb)).trans g)) he
def XB(gq:RI s.heap it d i es.size ep)(ho:s.heap.get? d=some o)(hd:o.data=.dict es ep)(hi:i<es.size)
  (q:∀h',RI h' it d (i+1) es.size ep->h'.get? s.heap.objs.size=some {cls:=.type "tuple",data:=.seq #[es[i].key,es[i].val]}->(∀b x,b≠it->s.heap.get? b=some x->h'.get? b=some x)->h'.objs.size=s.heap.objs.size+1->Q (some (-11)) {s with heap:=h'}):
  wpAny (-25) A (pyNext (.ref it)) Q E s:=by
 unfold pyNext;exact ae (dH (wpAny_callSpecial?_slot gq.ty b6 (bq b6 gq.ty f6 (Mc gq ho hd hi λh' a b c e=>af (q h' a b c e)) (fR _))))
def P4(gq:RI s.heap it d i es.size ep)(ho:s.heap.get? d=some o)(hd:o.data=.dict es ep)(hi:i<es.size)
  (q:∀h',RI h' it d (i+1) es.size ep->h'.get? s.heap.objs.size=some {cls:=.type "tuple",data:=.seq #[es[i].key,es[i].val]}->(∀b x,b≠it->s.heap.get? b=some x->h'.get? b=some x)->h'.objs.size=s.heap.objs.size+1->Q (-11) {s with heap:=h'}):
  wpAny (-25) A (Builtin.SmallTypes.nextOf (.ref it)) Q E s:=by
 unfold Builtin.SmallTypes.nextOf;exact ae (wpAny_callSpecial?_slot gq.ty b6 (bq b6 gq.ty f6 (Mc gq ho hd hi λh' a b c e=>af (q h' a b c e)) (fR _)))
def XA(hh:A.handled=none)(gq:RI s.heap it d i es.size ep)(ho:s.heap.get? d=some o)(hd:o.data=.dict es ep)(hi:es.size<=i)
  (q:∀h',(∀b x,b≠it->s.heap.get? b=some x->h'.get? b=some x)->Q none {s with heap:=h'}):wpAny (-25) A (pyNext (.ref it)) Q E s:=by
 unfold pyNext;refine ae (dH (wpAny_callSpecial?_slot gq.ty b6 (bq b6 gq.ty f6 (P5 (show A.in1.handled=none from hh) gq ho hd hi λh' e kp ⟨oe,he,ce⟩=>?_) (fR _))));exact ae (fY ⟨oe,he,ce⟩ j8 (af (q _ kp)))
def P1(hh:A.handled=none)(gq:RI s.heap it d i es.size ep)(ho:s.heap.get? d=some o)(hd:o.data=.dict es ep)(hi:es.size<=i)
  (q:∀h' e,(∀b x,b≠it->s.heap.get? b=some x->h'.get? b=some x)->(∃o,h'.get? e=some o/\o.cls=.type "StopIteration")->E (.ref e) {s with heap:=h'}):wpAny (-25) A (Builtin.SmallTypes.nextOf (.ref it)) Q E s:=by
 unfold Builtin.SmallTypes.nextOf;exact ae (wpAny_callSpecial?_slot gq.ty b6 (bq b6 gq.ty f6 (P5 (show A.in1.handled=none from hh) gq ho hd hi λh' e kp he=>q h' e kp he) (fR _)))
end
structure Tk(es:Array DictEntry)(lo:Addr)(h:Heap)(as:Aaj):Prop where
 up:as.Pairwise (·<·)
 ab:∀a∈as,lo<=a
 tp:∀(j:Nat)(a:Addr),as[j]?=some a->∃hj:j<es.size,h.get? a=some {cls:=.type "tuple",data:=.seq #[es[j].key,es[j].val]}
section
variable{P:Program}{w:World}{A:Around}{s:Shared}{R:Result->Shared->Prop}{es:Array DictEntry}{ep:Nat}{d:Addr}{o:Obj}
def Tk.low{lo QJ:Addr}(x:Tk es lo h as)(l:QJ<=lo):Tk es QJ h as:={x.up,λa ha=>aC l (x.ab a ha),x.tp}
abbrev Ab(acc:Aal)(c:Nat):Obj:={cls:=.type "list",dict:=none,data:=.seq acc c,slots:=#[]}
def Yd(hh:A.handled=none)(nSI:S≠I)(dS:d≠S)(dI:d≠I)(tN:o.data=.dict es ep)(hz:es.size<=sizeLine)(res:Value){h0:Heap}(lS:S<h0.objs.size)(lI:I<h0.objs.size)
  (k:∀h' tk acc c as,(∀b x,b≠S->b≠I->h0.get? b=some x->h'.get? b=some x)->h'.get? S=some (Ab acc c)->as.length=es.size->Tk es h0.objs.size h' as->acc.toList=as.map Value.ref->R (.ok (.ret res)) {s with heap:=h',toks:=tk}):
  ∀(n i:Nat)(h:Heap)(tk c:Nat)(acc:Aal)(as:Aaj),es.size -i=n->i<=es.size->RI h I d i es.size ep->h.get? d=some o->(∀b x,b≠S->b≠I->h0.get? b=some x->h.get? b=some x)->h.get? S=some (Ab acc c)->
   acc.toList=as.map Value.ref->as.length=i->Tk es h0.objs.size h as->h0.objs.size<=h.objs.size->codeAny (-25) A (.builtin "list.extend.loop" {[.ref S,.ref I,res],[]}) R {s with heap:=h,toks:=tk}:=by
 intro n
 induction n with
 |zero=>
  intro i h tk c acc as en hi st gd kp gS ea la T lh;refine dm u6 ?_;rw[gk g7];refine ae (XA hh st gd tN ∅ λh' kq=>af ?_);exact k h' tk acc c as (λb x n1 n2 e=>kq b x n2 (kp b x n1 n2 e)) (kq _ _ nSI gS) ∅ {T.up,T.ab,λj a hj=>(T.tp j a hj).imp λ_ e=>kq a _ (bu (aZ lI (T.ab a (aB hj)))) e} ea
 |succ n ih=>
  intro i h tk c acc as en hi st gd kp gS ea la T lh;have bU:i<es.size:=by lia
  have la2:acc.size=i:=by rw[<-aQ,ea,ag,la]
  refine dm u6 ?_;rw[gk g7];refine ae (XB st gd tN bU λh' hX gt kq zq=>?_);have gS':=kq S _ nSI gS;obtain⟨h2,eh⟩:∃h2,h2=h'.update S (Obj.mapSeq (·.push (Value.ref h.objs.size))):=⟨_,rfl⟩;have go:∀b x,b≠S->h'.get? b=some x->h2.get? b=some x:=λb x nb e=>by rw[eh];exact(bN _ _ (bV nb)).trans e
  have gU:=cy (Obj.mapSeq (·.push (Value.ref h.objs.size))) gS' rfl;rw[<-eh]at gU;obtain⟨c2,gS2⟩:∃c,h2.get? S=some (Ab (acc.push (Value.ref h.objs.size)) c):=⟨_,gU⟩;refine ae (jo gS' rfl (af {gL g7 _,?_}) (by rw[la2];lia) (by show(acc.push (Value.ref h.objs.size)).size<=sizeLine+1;rw[Array.size_push,la2];lia));have nS:=bu (aZ lS lh);have z2:=aF (go _ _ nS gt);have fin:=ih (i+1) h2 tk _ (acc.push (Value.ref h.objs.size)) (as++[h.objs.size]) ∅ bU (hX.jD λx e=>go I x (bV nSI) e) (go d o dS (kq d o dI gd)) (λb x n1 n2 e=>go b x n1 (kq b x n2 (kp b x n1 n2 e))) gS2
   (by rw[lC,ea,aM];rfl) (by rw[aK,la];rfl) {jR.mpr {T.up,fo _ _,λa ha b hb=>?_},λa ha=>?_,λj a hj=>?_} (br (cK lh z2))
  ·rw[eh]at fin;exact fin
  ·rw[ay.mp hb];obtain⟨j,hj⟩:=eT.mp ha;obtain⟨_,e⟩:=T.tp j a hj;exact aF e
  ·rcases aS.mp ha with ha|ha
   ·exact T.ab a ha
   ·rw[ay.mp ha];exact lh
  ·by_cases q:j<as.length
   ·rw[dE q]at hj;have l1:=T.ab a (aB hj);exact(T.tp j a hj).imp λ_ e=>go a _ (bu (aZ lS l1)) (kq a _ (bu (aZ lI l1)) e)
   ·have ej:j=i:=by have:=(ao.mp hj).1;rw[aK,dt]at this;lia
    subst ej;rw[dw ∅,la,BN]at hj;have hb:h.objs.size=a:=by simpa using hj
    subst hb;exact{bU,go _ _ nS gt}
variable{E:Aae}{r:Addr}
def Ye(hh:A.handled=none)(hv:s.heap.IsItemsView r d)(gd:s.heap.get? d=some o)(tN:o.data=.dict es ep)(hz:es.size<=sizeLine)
  (q:∀h' tk acc c as,(∀b x,s.heap.get? b=some x->h'.get? b=some x)->h'.get? s.heap.objs.size=some (Ab acc c)->as.length=es.size->Tk es (-17) h' as->acc.toList=as.map Value.ref->Q (-11) {s with heap:=h',toks:=tk}):
  wpAny (-25) A (call (.type "list") [.ref r]) Q E s:=by
 refine yz (Q₁:=λv z=>v=.ref s.heap.objs.size/\z={s with heap:=s.heap.push (Ab #[] 0)}) PySem.F.called_list (PySem.F.typeCall_list_1 _) PySem.F.entry_list_init (code_list_new _ ⟨rfl,rfl⟩) ?_;rintro v z ⟨rfl,rfl⟩;have g1:(s.heap.push (Ab #[] 0)).get? s.heap.objs.size=some (Ab #[] 0):=aE _ rfl;refine{⟨_,g1,rfl⟩,PySem.F.args_list_init_2 _ _,?_};obtain⟨ov,go,hc,hd⟩:=id hv;have lr:=aF go;have ld:=aF gd;obtain⟨S,eS⟩:∃S,S=s.heap.objs.size:=⟨_,rfl⟩;rw[<-eS]at g1 q lr ld⊢;have Bf:∀b x,s.heap.get? b=some x->(s.heap.push (Ab #[] 0)).get? b=some x:=λb x e=>ah _ e;have z1:(s.heap.push (Ab #[] 0)).objs.size=S+1:=by rw[cw,eS]
 generalize (s.heap.push (Ab #[] 0))=h1 at g1 Bf z1⊢;show wpAny _ _ (do let old<-Builtin.List.listItems (.ref S);Builtin.List.listUpdate (.ref S) (λ_=>#[]);letGo old.toList.reverse;Builtin.List.listExtendWith (.ref S) (.ref r) .none) _ _ _;unfold Builtin.List.listItems;refine ae (ae (bW g1 rfl (af ?_)));refine ae (jo g1 rfl (ae (mK ?_)));have g2:=cy (Obj.mapSeq λ_=>(#[]:Aal)) g1 rfl;have vO:∀b x,b≠S->h1.get? b=some x->(h1.update S (Obj.mapSeq λ_=>(#[]:Aal))).get? b=some x:=λb x nb e=>(bN _ _ (bV nb)).trans e;have z2:(h1.update S (Obj.mapSeq λ_=>(#[]:Aal))).objs.size=S+1:=by rw[<-z1];exact(bY ..).1
 generalize (h1.update S (Obj.mapSeq λ_=>(#[]:Aal)))=h2 at g2 vO z2⊢;obtain⟨c2,g2⟩:∃c,h2.get? S=some (Ab #[] c):=⟨_,g2⟩;unfold Builtin.List.listExtendWith;have J4:h2.IsItemsView r d:={ov,vO _ _ (aH lr) (Bf _ _ go),hc,hd};refine ae (fA J4.typeIs ?_);have a1:Builtin.List.listSameRef (.ref S) (.ref r)=false:=by simp[Builtin.List.listSameRef,bu lr]
 have a2:(Value.type "dict_items"==Value.type "list")=false:=by decide
 have a3:(Value.type "dict_items"==Value.type "tuple")=false:=by decide
 simp only[a1,a2,a3,Ao,cb,dJ];have gd2:=vO _ _ (aH ld) (Bf _ _ gd);refine ae (IS J4 gd2 tN ?_);obtain⟨h3,WT⟩:∃h3,h3=h2.push (oS .none false d 0 es.size ep .none .none):=⟨_,rfl⟩;have V6:∀b x,h2.get? b=some x->h3.get? b=some x:=λb x e=>by rw[WT];exact ah _ e
 have g3:h3.get? (S+1)=some (oS .none false d 0 es.size ep .none .none):=by rw[WT,<-z2];exact aE _ rfl
 have z3:h3.objs.size=S+2:=by rw[WT,cw,z2]
 show wpAny _ _ _ _ _ {s with heap:=h2.push (oS .none false d 0 es.size ep .none .none)};rw[<-WT];rw[show({s with heap:=h2}:Shared).heap.objs.size=S+1 from z2];have key:∀(h:Heap)(c tk:Nat),(∀b x,b≠S->h3.get? b=some x->h.get? b=some x)->h.get? S=some (Ab #[] c)->h.objs.size=S+2->
   codeAny (-25) A.in1 (.builtin "list.extend.loop" {[.ref S,.ref (S+1),.none],[]}) (wants (λr aae=>r=Value.none/\Q (Value.ref S) aae) E) {s with heap:=h,toks:=tk}:=λh c tk kp gS zh=>by
  refine Yd (show A.in1.handled=none from hh) (aH (du S)) (aH ld) (aH (dU ld)) tN hz .none (by rw[zh];exact Nat.lt_add_of_pos_right (-8)) (by rw[zh];exact du _) (λh' EG acc c' as k1 k2 k3 k4 k5=>{rfl,q h' EG acc c' as (λb x e=>?_) k2 k3 (k4.low (by rw[zh];exact eZ _)) k5})
   es.size 0 h tk c #[] [] (BM _) (aP _) {_,_,_,_,kp _ _ (bu (du S)) g3,.inl rfl} (kp _ _ (aH ld) (V6 _ _ gd2)) (λb x _ _ e=>e) gS rfl rfl {.nil,λa ha=>(by cases ha),λj a hj=>(by simp at hj)} (ak _)
  have lb:b<S:=by rw[eS];exact aF e
  exact k1 b x (aH lb) (aH (dU lb)) (kp _ _ (aH lb) (V6 _ _ (vO _ _ (aH lb) (Bf _ _ e))))
 have gS3:=V6 _ _ g2;refine ae (bP (PySem.W.kdx_hint {_,V6 _ _ (vO _ _ (aH lr) (Bf _ _ go)),hc} ?_));refine mT (λ_=>?_) (λ_=>af {gL g7 _,key _ c2 _ (λb x _ e=>e) gS3 z3});refine ae (fQ (ae ?_));refine ae (jo gS3 rfl ?_);have g4:=cy (Obj.mapSeq (·.push Value.none)) gS3 rfl;refine jo g4 rfl ?_;refine af {gL g7 _,key _ _ _ (λb x nb e=>?_) (cy (Obj.mapSeq (·.pop)) g4 rfl) ?_}
 ·exact(bN _ _ (bV nb)).trans ((bN _ _ (bV nb)).trans e)
 ·rw[(bY ..).1,(bY ..).1,z3]
end
section
variable{X:Cx}{pins:Aac}{Z:St}{H:Hp}{s:Shared}
theorem Inv.Sv{lo:Addr}(hlo:X.aab.heap.objs.size<=lo/\X.env.locals<lo/\(∀x c,X.env.cells.lookup x=some c->c<lo)/\∀p∈X.pn++pins,p.1<lo):
  ∀(as:Aaj)(ps:Aam)(H:Hp),Inv X pins Z H s->as.length=ps.length->as.Nodup->(∀a∈as,lo<=a/\H a=none)->
   (∀(j:Nat) a p,as[j]?=some a->ps[j]?=some p->∃t u,RelV p.1 t/\RelV p.2 u/\s.heap.get? a=some {cls:=.type "tuple",data:=.seq #[t,u]})->
   ∃H',Inv X pins Z H' s/\(∀b u,H b=some u->H' b=some u)/\(∀b,b∉as->H' b=H b)/\∀(j:Nat) a p,as[j]?=some a->ps[j]?=some p->H' a=some (.tup [p.1,p.2])
 |[],[],H,I,_,_,_,_=>{H,I,λ_ _ h=>h,λ_ _=>rfl,λj a p e=>by simp at e}
 |[],_::_,_,_,e,_,_,_=>by simp at e
 |_::_,[],_,_,e,_,_,_=>by simp at e
 |a::as,p::ps,H,I,e,nd,fr,tp=>by
  obtain⟨n1,n2⟩:=cU.mp nd;obtain⟨l1,l2,l3,l4⟩:=hlo;obtain⟨ha,hna⟩:=fr a ax;obtain⟨t,u,r1,r2,g⟩:=tp 0 a p rfl rfl;have I1:=I.KU (o:=.tup [p.1,p.2]) hna {by show 2<=sizeLine;decide,[t,u],.cons r1 (.cons r2 .nil),{_,g,rfl,0,rfl},_,g,rfl} (aC l1 ha) (bu (aZ l2 ha))
   (λx c h=>aH (aZ (l3 x c h) ha)) (λq hq=>aH (aZ (l4 q hq) ha))
  obtain⟨H',I2,k1,k2,k3⟩:=Inv.Sv ⟨l1,l2,l3,l4⟩ as ps _ I1 (by simpa using e) n2 (λb hb=>{(fr b (az _ hb)).1,by rw[aw (show b≠a fromλz=>n1 (by rw[<-z];exact hb))];exact(fr b (az _ hb)).2})
   (λj b q e1 e2=>tp (j+1) b q (by simpa using e1) (by simpa using e2))
  refine{H',I2,λb v h=>k1 b v (by rw[aw (aW h hna)];exact h),λb hb=>?_,λj b q e1 e2=>?_}
  ·rw[k2 b (λz=>hb (az _ z)),aw (λz=>hb (by rw[z];exact ax))]
  ·cases j with
   |zero=>
    obtain rfl:a=b:=by simpa using e1
    obtain rfl:p=q:=by simpa using e2
    rw[k2 a n1];exact ar
   |succ j=>exact k3 j b q (by simpa using e1) (by simpa using e2)
def Inv.low(I:Inv X pins Z H s):X.aab.heap.objs.size<=s.heap.objs.size/\X.env.locals<s.heap.objs.size/\(∀x c,X.env.cells.lookup x=some c->c<s.heap.objs.size)/\∀p∈X.pn++pins,p.1<s.heap.objs.size:=
 {I.sz,I.lt,λx c hc=>let⟨_,z⟩:=I.cell x c hc;z.lt,λp hp=>aF (I.pin p hp).1}
def Inv.HZ(I:Inv X pins Z H s)(h:fH X.prog X.w X.K H d kvs):(d==sysModules)=false/\∃o es ep,s.heap.get? d=some o/\es.size<=10000000/\K6 o es ep (kvs.map λp=>(V.ref p.2.1,p.2.2)):=by
 obtain⟨lo,xs,rel,hl,o,es,ep,ga,hx,hdt,he,_⟩:=I.qX h;have ents:∀{l:List (-44)}{xs:List (NK×Addr×Value)},Paired (-10) l xs->Paired (-57) (l.map λp=>(V.ref p.2.1,p.2.2)) (xs.map (entryOfKey (nN X.prog X.w))):=λr=>by
  induction r with
  |nil=>exact .nil
  |@cons p q ps qs h _ ih=>exact .cons {by show Value.ref q.2.1=Value.ref p.2.1;rw[h.2.1],h.2.2} ih
 exact{lo,o,es,ep,ga,by rw[wH he,<-rel.length];exact hl,hx,hdt,by rw[he];exact ents rel}
inductive S1(P:Program)(w:World)(K:Frag)(Q:VK)(x:V)(H1:Hp):Prop
 |mk d kvs (_:x=.ref d) (_:fH P w K H1 d kvs) (_:∀p,H1 p=none->Q (.ref p) (upd H1 p (.ext (uH p d))))
end
def Xk(P:Program)(w:World)(K:Frag)(td:TE):TE:=λZ H Q=>td Z H λx H1=>S1 P w K Q x H1
section
variable{X:Cx}
def GV(hl:PE X l tl)(Fn:attributeBase l "items" X.env (eval l X.env)=eval l X.env:=by rfl)(Fh:(apos.endLine==eB.line)=true:=by rfl):
  PE X (.Call (.Attribute l "items" apos) [] [] eB) (Xk X.prog X.w X.K tl):=by
 intro pins s Z H R I h;refine wpAny_Call_method0_late Fn Fh (cX (hl pins s Z H _ I h) λv s1 x H1 I1 r1 q1=>?_);obtain⟨d,kvs,e,hd,q⟩:=q1;subst e;cases r1;obtain⟨lo,o,es,ep,ga,_,m⟩:=I1.HZ hd;have ty:s1.TypeIs (.ref d) "dict":={o,ga,m.1.1};refine{"dict","dict.items",iL,wt,PySem.F.type_dict_items,ty,λb q=>?_,jc rfl (PySem.evalArgs_none ?_)}
 ·cases q;exact{o,ga,m.1.2.1}
 ·refine bq wt ty PySem.F.entry_dict_items ?_ (PySem.F.args_dict_items_1 _);unfold Builtin.«dict.items» Builtin.Dict.noArgs;refine ae (ae (jr ty (af ?_)));unfold Builtin.Dict.showsAll;rw[lo];refine ae (af (ae (bT (af {_,rfl,?_}))));exact{.ref s1.heap.objs.size,_,I1.laid (λb o e=>ah _ e) (ak _) (aaH {_,aE _ rfl,rfl,rfl}),rfl,q _ (I1.bj.fresh (ak _))}
abbrev Sy(H:Hp):Aao->Aam->Prop:=Paired λ(y:V)(p:V×V)=>∃a,y=.ref a/\H a=some (.tup [p.1,p.2])
theorem GY:∀{as:Aaj}{ps:Aam},as.length=ps.length->(∀(j:Nat) a p,as[j]?=some a->ps[j]?=some p->H a=some (.tup [p.1,p.2]))->Sy H (as.map V.ref) ps
 |[],[],_,_=>.nil
 |[],_::_,e,_=>by simp at e
 |_::_,[],e,_=>by simp at e
 |a::as,p::ps,e,h=>.cons {a,rfl,h 0 a p rfl rfl} (GY (by simpa using e) λj b q e1 e2=>h (j+1) b q (by simpa using e1) (by simpa using e2))
theorem Vq:∀as:Aaj,Vals (as.map V.ref) (as.map Value.ref)
 |[]=>.nil
 |_::as=>.cons rfl (Vq as)
def FI(hA:X.A.handled=none):jU X (.type "list") (λxs H Q=>∃(r d:Addr)(kvs:List (-44)),xs=[.ref r]/\H r=some (.ext (uH r d))/\fH X.prog X.w X.K H d kvs/\
  ∀l ys H',(∀b u,H b=some u->H' b=some u)->H l=none->H' l=some (-48)->Sy H' ys (kvs.map λp=>(.ref p.2.1,p.2.2))->Q (.ref l) H'):=by
 intro pins s Z H xs us Q I r h;obtain⟨v,d,kvs,rfl,hv,hd,q⟩:=h;obtain⟨u,rfl,ru⟩:=l9 r;cases ru;obtain⟨iv,_⟩:=(show dC X.prog X.w H s.heap v (.ext (uH v d))from I.bj v _ hv);obtain⟨lo,o,es,ep,ga,hz,m⟩:=I.HZ hd;have hl:(kvs.map λp=>(V.ref p.2.1,p.2.2)).length=es.size:=by rw[bp m.2.2,aQ]
 have hs:es.size<=sizeLine:=by rw[cP];lia
 refine Ye hA iv ga m.2.1 hs λh' tk acc c as kp gl la T ea=>?_;have I1:=I.kept (t':=tk) kp;have low:=I.low;have z1:s.heap.objs.size<=s.heap.objs.size+1:=eZ _;obtain⟨H',I2,k1,k2,k3⟩:=Inv.Sv {low.1,low.2.1,low.2.2.1,low.2.2.2} as (kvs.map λp=>(V.ref p.2.1,p.2.2)) H I1 (by rw[la,hl]) (T.up.imp λh=>aH h)
  (λa ha=>{aC z1 (T.ab a ha),I.bj.fresh (aC z1 (T.ab a ha))}) (λj a p e1 e2=>by obtain⟨hj,e3⟩:=T.tp j a e1;obtain⟨e,he,r1,r2⟩:=Paired.at' m.2.2 e2;rw[bB,bh hj]at he;cases he;exact⟨_,_,r1,r2,e3⟩)
 have na:s.heap.objs.size∉as:=λz=>absurd (T.ab _ z) (Nat.not_succ_le_self _);have hn:=I.bj.fresh (ak _);have MR:H' s.heap.objs.size=none:=by rw[k2 _ na];exact hn
 have I3:=I2.KU (o:=.lst (as.map V.ref)) MR {by rw[ag,la];exact hs,as.map Value.ref,c,Vq as,by rw[<-ea];exact gl} low.1 (bu low.2.1) (λx c h=>aH (low.2.2.1 x c h)) (λp hp=>aH (low.2.2.2 p hp));refine{.ref s.heap.objs.size,_,I3,rfl,q _ (as.map V.ref) _ (λb u e=>?_) hn ar (GY (by rw[la,hl]) λj a p e1 e2=>?_)}
 ·rw[aw (aW e hn)];exact k1 b u e
 ·rw[aw (λz=>na (by rw[<-z];exact aB e1))];exact k3 j a p e1 e2
variable{P:Program}{w:World}{d:Addr}{o:Obj}{es:Array DictEntry}{ep:Nat}
def Xo(lo:(d==sysModules)=false)(hx:o.ExactDict)(hd:o.data=.dict es ep):PySem.W.KdlSrc P w "dict" d d es.size (λi v=>∃hi:i<es.size,v=es[i].key) (λh=>h.get? d=some o) where
 type:=λ_ g=>{o,g,hx.1}
 there:=λ_ g=>{aF g,aF g}
 keep:=λ_ _ g k=>k d (.inl rfl) _ g
 notList:=by decide
 notTuple:=by decide
 hint:=λ_ _ _ _ g q=>PySem.W.kdl_hint_dict {o,g,hx.1} q
 iter:=λA s hh g=>{_,λi h=>h.IsKeyIter s.heap.objs.size d i es.size ep/\h.get? d=some o,λ_ _ q=>F2 lo g hx hd q,{
  sub:=λb hb=>by simp at hb;simp[hb]
  frame:=λi h h' st k=>by obtain⟨⟨v,e,c⟩,g'⟩:=st;exact{{v,k _ (-9) _ e,c},k d (-9) _ g'}
  item:=λi s' Q E hi st q=>PY st.1 st.2 hd hi λh' it' sb=>q _ h' s'.toks ⟨hi,rfl⟩ {it',sb.extBut _ _ (aH (aF g)) st.2} λb x hb e=>sb.extBut b x (λz=>hb (by simp[z])) e
  done:=λs' Q E st q=>GQ hh st.1 st.2 hd (ak _) λh' kp=>q h' s'.toks λb x hb e=>kp b x (λz=>hb (by simp[z])) e
  self:=λ_ _ _ _ st q=>qF st.1 q},{{_,aE _ rfl,rfl,rfl},ah _ g}}
def vW(hA:X.A.handled=none):jU X (.builtin "sorted") (λxs H Q=>∃(a:Addr)(kvs:List (-44))(rows:Aab),xs=[.ref a]/\fH X.prog X.w X.K H a kvs/\kvs.map (·.1)=rows.map dY/\(2<=rows.length->∀r∈rows,r≠[])/\rows.length<1000000/\SortedTo X.K H (kvs.map λp=>.ref p.2.1) rows Q):=by
 intro pins s Z H xs us Q I r h;obtain⟨a,kvs,rows,rfl,ha,hk,h9,Hr,q⟩:=h;obtain⟨u,rfl,rx⟩:=l9 r;cases rx;obtain⟨lo,o,es,ep,ga,hz,m⟩:=I.HZ ha;have hl:(kvs.map λp=>(V.ref p.2.1,p.2.2)).length=es.size:=by rw[bp m.2.2,aQ]
 rw[ag]at hl;have Rr:kvs.length=rows.length:=by have:=cc List.length hk;rw[ag,ag]at this;exact this
 refine ni kind_sorted plain_sorted entry_sorted (args_sorted1 _) ?_;unfold Builtin.«sorted»;refine ae (af ?_);refine ae (PySem.W.kdu_collect (Xo lo m.1 m.2.1) (by simpa using hA) ga (by rw[cP];lia) λh' tk acc kp it=>?_);have ea:acc.toList=(kvs.map λp=>p.2.1).map Value.ref:=by
  refine o9 λj=>?_;rw[bB,bX,aJ];by_cases hj:j<es.size
  ·have Fj:j<acc.size:=by rw[it.1];exact hj
   obtain⟨_,e1⟩:=it.2 j _ (bh Fj);have iD:kvs[j]?=some (kvs[j]'∅):=aq ∅;obtain⟨e,he,r1,_⟩:=Paired.at' m.2.2 (by rw[aJ,iD];rfl);rw[bB,bh hj]at he;cases he;rw[bh Fj,e1,iD,d8];exact cc some r1
  ·rw[kX (by rw[it.1];lia),eU ∅];rfl
 rw[ea];have e2:(kvs.map λp=>V.ref p.2.1)=(kvs.map λp=>p.2.1).map V.ref:=by rw[bX];rfl
 rw[e2]at q;refine EK (s:=s) (I.kept kp) (by rw[ag,Rr]) (λi z b e3 e4=>?_) h9 Hr q;rw[aJ]at e4;obtain⟨p,e5,rfl⟩:=a9.mp e4;have e6:(kvs.map (·.1))[i]?=some (dY z):=by rw[hk,aJ,e3];rfl
 rw[aJ,e5]at e6;have:=(ha.2 p (aB e5)).1;rw[show p.1=dY z from bS e6]at this;exact E7 this
end
def Xl(P:Program)(w:World)(K:Frag)(AA:List (TE×TE)):TE:=λZ H Q=>∀p,H p=none->EH AA Z (upd H p (.dK [])) λps H2=>∃b k v,ps=[(.ref b,v)]/\jm K H2 k b/\H2 p=some (.dK [])/\Q (.ref p) (upd H2 p (.ext (DN P w p [(k,b,v)])))
def Qe(hu:X.A.units+101<cLine)(h:Dz X pos keys values AA)(qe:keys.all (·.isSome)=true)(hl:keys.length=values.length)(h0:keys≠[])
  (h15:keys.length<=15):PE X (.Dict keys values pos) (Xl X.prog X.w X.K AA):=by
 intro pins s Z H Q I q;have hn:=I.bj.fresh (ak s.heap.objs.size);have I1:=I.laid (t':=s.toks) (λ_ _ q=>ah _ q) (ak _) (Ei s.heap I.big);refine wpAny_Dict_any qe hl h0 h15 (iC (h pins _ Z _ _ I1 (q _ hn)) λws s2 adp=>?_);obtain⟨ps,H2,I2,rel,b,k,v,e,hk,hp,q2⟩:=adp;subst e;cases rel with
 |@cons _ x _ _ r1 t=>
  cases t;obtain⟨kx,vx⟩:=x;obtain⟨r1,r2⟩:=r1;obtain rfl:kx=Value.ref b:=r1;unfold storeAll;rw[m8];have ha:fH X.prog X.w X.K H2 s.heap.objs.size []:={.inr ⟨rfl,hp⟩,λ_ hp=>by cases hp};obtain⟨lo,xs,rl,iX,dd⟩:=I2.qX ha;have lx:xs.length<=sizeLine:=by rw[<-rl.length];exact aP _
  refine ae (ae (wpAny_dictSet_heap (show X.A.units+100<cLine by lia) (I2.D9 hk) dd λh' rO hs=>af ?_));obtain⟨o,es,ep,g,g2,g3,g4,_,g5⟩:=rO;have I3:∀tk,Inv X pins Z (upd H2 s.heap.objs.size (.ext (DN X.prog X.w s.heap.objs.size [(k,b,v)]))) {s2 with heap:=h',toks:=tk}:=λtk=>
   sC I2 (by rw[hp];exact True.intro) hs ⟨o,g⟩ (OP {lo,_,DR rl r2,by show 1<=10000000;decide,o,es,ep,g,g2,g3,g4,g5})
  exact af {.ref s.heap.objs.size,_,I3 _,rfl,q2}
section
variable{P:Program}{w:World}{A:Around}{E:Aae}{v:Shared}{es:Array DictEntry}{ep:Nat}{o:Obj}
structure Zi(h:Heap)(z ti to i1 i2 d l:Addr)(f:Value)(k n ep:Nat):Prop where
 self:IsZip h z ti to f
 ins:IsPair h ti (.ref i1) (.ref i2)
 outs:∃a b,IsPair h to a b
 w1:RI h i1 d k n ep
 w2:h.IsListIter i2 l k
def Zi.ne(g:Zi h z ti to i1 i2 d l f k n ep):(ti≠z/\to≠z/\i1≠z/\i2≠z)/\(ti≠i1/\ti≠i2/\to≠i1/\to≠i2)/\i1≠i2:=by
 obtain⟨gs,gi,⟨a,b,go⟩,⟨_,_,_,_,q1,_⟩,⟨o2,q2,c2,_⟩⟩:=g;exact{{cR gi gs rfl rfl (-8),cR go gs rfl rfl (-8),cR q1 gs rfl rfl (-8),cR q2 gs c2 rfl (-8)},
  {cR gi q1 rfl rfl (-8),cR gi q2 rfl c2 (-8),cR go q1 rfl rfl (-8),cR go q2 rfl c2 (-8)},cR q1 q2 rfl c2 (-8)}
def Xc{Q:Aae}(CW:ti≠to)(g:Zi v.heap z ti to i1 i2 d l .none k es.size ep)
  (gd:v.heap.get? d=some o) (hx:o.ExactDict) (tN:o.data=.dict es ep) (t2:v.heap.IsList l ys) (hk:k<es.size) (ey:ys[k]?=some y)
  (q:∀h',Zi h' z ti to i1 i2 d l (rawInt (v.heap.objs.size+1)) (k+1) es.size ep->h'.get? v.heap.objs.size=some {cls:=.type "tuple",data:=.seq #[es[k].key,es[k].val]}->IsPair h' (v.heap.objs.size+1) (.ref v.heap.objs.size) y->(∀c o,c≠z->c≠to->c≠i1->c≠i2->v.heap.get? c=some o->h'.get? c=some o)->Q (.ref (v.heap.objs.size+1)) {v with heap:=h'}):
  wpAny (-25) A (-47) (λfin s'=>∃u,fin=.done (.ret u)/\Q u s') E v:=by
 obtain⟨⟨a1,a2,a3,a4⟩,⟨a5,a6,a7,a8⟩,Mw⟩:=g.ne;obtain⟨gs,gi,⟨a,b,go⟩,g1,g2⟩:=g;have dz:=cR gd gs hx.1 rfl (-8);obtain⟨o2,q2,c2,_⟩:=id g2;obtain⟨ol,ql,cl,_⟩:=id t2;have c1:=cR ql gs cl rfl (-8);have c4:=cR ql go cl rfl (-8);have c5:l≠i1:=by obtain⟨_,_,_,_,e1,_⟩:=id g1;exact cR ql e1 cl rfl (-8)
 show wpAny _ _ (field (.ref z) 2>>=_) _ _ _;refine ae (bF gs rfl rfl ?_);refine ae (bF gs rfl rfl ?_);refine ae (bW gi rfl ?_);refine ae ?_;unfold Builtin.SmallTypes.ownedTupleIsFree;refine ae (bF gs rfl rfl (af ?_));refine ae (fQ ?_);refine ae (bF gs rfl rfl ?_);refine ae (b9 gs (-9) λp1 k1 r1=>?_)
 replace k1:IsZip p1 z ti to .ellipsis:=k1
 have z1:=r1.1;refine ae ?_;refine ae (ae (mB ?_));refine ae (P4 (g1.jD λo e=>r1.extBut _ _ a3 e) (r1.extBut _ _ dz gd) tN hk λp2 k2 tq r2 Vi=>af ?_);have Vi:p2.objs.size=v.heap.objs.size+1:=by rw[<-z1];exact Vi
 have tq:p2.get? v.heap.objs.size=some {cls:=.type "tuple",data:=.seq #[es[k].key,es[k].val]}:=by rw[<-z1];exact tq
 rw[show({v with heap:=p1}:Shared).heap.objs.size=v.heap.objs.size from z1];have o2:=r2 _ _ a7 (r1.extBut _ _ a2 go);refine ae (bW o2 rfl ?_);refine ae (za o2 λp3 o3 r3=>?_)
 replace o3:IsPair p3 to (.ref v.heap.objs.size) b:=o3
 refine ae (mK (af ?_));refine ae (ae (mB ?_));have w3:p3.IsListIter i2 l k:=by obtain⟨o',e',r'⟩:=g2;exact{o',r3.extBut _ _ a8.symm (r2 _ _ Mw.symm (r1.extBut _ _ a4 e')),r'}
 have t3:p3.IsList l ys:=by obtain⟨o',e',r'⟩:=t2;exact{o',r3.extBut _ _ c4 (r2 _ _ c5 (r1.extBut _ _ c1 e')),r'}
 refine ae (wpAny_nextOf_list_item w3 t3 ey λp4 k4 r4=>af ?_);have o4:=r4.extBut _ _ a8 o3;refine ae (bW o4 rfl ?_);refine ae (za o4 λp5 o5 r5=>?_)
 replace o5:IsPair p5 to (.ref v.heap.objs.size) y:=o5
 refine ae (mK (af (af ?_)));refine ae (bW o5 rfl ?_);refine ae (lD ?_);have sz:p5.objs.size=v.heap.objs.size+1:=by rw[r5.1,r4.1,r3.1,Vi]
 have z5:=r5.extBut _ _ a2.symm (r4.extBut _ _ a4.symm (r3.extBut _ _ a2.symm (r2 _ _ a3.symm k1)));have st:∀c o,c≠z->c≠to->c≠i1->c≠i2->v.heap.get? c=some o->p5.get? c=some o:=λc o m1 m2 m3 m4 e=>
  r5.extBut _ _ m2 (r4.extBut _ _ m4 (r3.extBut _ _ m2 (r2 _ _ m3 (r1.extBut _ _ m1 e))))
 have j1:=k2.jD λo e=>r5.extBut _ _ a7.symm (r4.extBut _ _ Mw (r3.extBut _ _ a7.symm e));have j2:p5.IsListIter i2 l (k+1):=by obtain⟨o',e',r'⟩:=k4;exact{o',r5.extBut _ _ a8.symm e',r'}
 have nto:=bu (aF go);have ni2:=bu (aF q2);have nz:=bu (aF gs);have t5:=r5.extBut _ _ nto (r4.extBut _ _ ni2 (r3.extBut _ _ nto tq));have lz:=aF z5;refine ae ?_;unfold Builtin.SmallTypes.ownedTupleHandOut;have z6:IsZip (p5.push {cls:=.type "tuple",data:=.seq #[.ref v.heap.objs.size,y]}) z ti to .ellipsis:=ah _ z5;refine ae (b9 z6 (-9) λp7 z7 r7=>?_)
 replace z7:IsZip p7 z ti to (rawInt p5.objs.size):=z7
 refine b9 z7 (-9) λp8 z8 r8=>?_
 replace z8:IsZip p8 z ti to (rawInt p5.objs.size):=z8
 have up:∀c o,c≠z->p5.get? c=some o->p8.get? c=some o:=λc o m e=>r8.extBut _ _ m (r7.extBut _ _ m (ah _ e));have n8:=r8.extBut _ _ (bu lz) (r7.extBut _ _ (bu lz) (aE _ rfl));rw[sz]at z8 n8;refine af {_,rfl,?_};rw[sz];obtain⟨ob,jb,rb⟩:=j2;exact q p8 {z8,up _ _ a1 (st _ _ a1 CW a5 a6 gi),{_,_,up _ _ a2 o5},j1.jD λo e=>up _ _ a3 e,{ob,up _ _ a4 jb,rb}} (up _ _ nz t5) n8 λc o m1 m2 m3 m4 e=>up c o m1 (st c o m1 m2 m3 m4 e)
def YZ(hh:A.handled=none)(g:Zi v.heap z ti to i1 i2 d l .none k es.size ep)(gd:v.heap.get? d=some o)(hx:o.ExactDict)(tN:o.data=.dict es ep)(hk:es.size<=k)
  (q:∀h' e,(∀c o,c≠z->c≠to->c≠i1->c≠i2->v.heap.get? c=some o->h'.get? c=some o)->(∃o,h'.get? e=some o/\o.cls=.type "StopIteration")->E (.ref e) {v with heap:=h'}):
  wpAny (-25) A (-47) Q E v:=by
 obtain⟨⟨a1,a2,a3,a4⟩,⟨a5,a6,a7,a8⟩,Mw⟩:=g.ne;obtain⟨gs,gi,⟨a,b,go⟩,g1,g2⟩:=g;have dz:=cR gd gs hx.1 rfl (-8);show wpAny _ _ (field (.ref z) 2>>=_) _ _ _;refine ae (bF gs rfl rfl ?_);refine ae (bF gs rfl rfl ?_);refine ae (bW gi rfl ?_);refine ae ?_;unfold Builtin.SmallTypes.ownedTupleIsFree;refine ae (bF gs rfl rfl (af ?_));refine ae (fQ ?_);refine ae (bF gs rfl rfl ?_);refine ae (b9 gs (-9) λp1 k1 r1=>?_)
 replace k1:IsZip p1 z ti to .ellipsis:=k1
 refine ae ?_;refine ae (ae (mB ?_));refine ae (P1 hh (g1.jD λo e=>r1.extBut _ _ a3 e) (r1.extBut _ _ dz gd) tN hk λp2 e r2 he=>?_);obtain⟨oe,ge,ce⟩:=he;have z2:=r2 _ _ a3.symm k1;have nez:=cR ge z2 ce rfl (-8);exact b9 z2 (-9) λp3 _ r3=>q p3 e (λc o m1 _ m3 _ e=>r3.extBut _ _ m1 (r2 _ _ m3 (r1.extBut _ _ m1 e))) {oe,r3.extBut _ _ nez ge,ce}
def Xb(CW:ti≠to)(g:Zi v.heap z ti to i1 i2 d l .none k es.size ep)
  (gd:v.heap.get? d=some o) (hx:o.ExactDict) (tN:o.data=.dict es ep) (t2:v.heap.IsList l ys) (hk:k<es.size) (ey:ys[k]?=some y)
  (q:∀h',Zi h' z ti to i1 i2 d l (rawInt (v.heap.objs.size+1)) (k+1) es.size ep->h'.get? v.heap.objs.size=some {cls:=.type "tuple",data:=.seq #[es[k].key,es[k].val]}->IsPair h' (v.heap.objs.size+1) (.ref v.heap.objs.size) y->(∀c o,c≠z->c≠to->c≠i1->c≠i2->v.heap.get? c=some o->h'.get? c=some o)->Q (some (.ref (v.heap.objs.size+1))) {v with heap:=h'}):
  wpAny (-25) A (pyNext (.ref z)) Q E v:=by
 have ty:v.TypeIs (.ref z) "zip":={_,g.self,rfl};unfold pyNext;exact ae (dH (wpAny_callSpecial?_slot (name:=Str.ofString "__next__") ty eA (bq eA ty kA (Xc CW g gd hx tN t2 hk ey λh' b1 b2 b3 b4=>af (q h' b1 b2 b3 b4)) (jM _))))
def Xa(hh:A.handled=none)(g:Zi v.heap z ti to i1 i2 d l .none k es.size ep)(gd:v.heap.get? d=some o)(hx:o.ExactDict)(tN:o.data=.dict es ep)(hk:es.size<=k)
  (q:∀h',(∀c o,c≠z->c≠to->c≠i1->c≠i2->v.heap.get? c=some o->h'.get? c=some o)->Q none {v with heap:=h'}):
  wpAny (-25) A (pyNext (.ref z)) Q E v:=by
 have ty:v.TypeIs (.ref z) "zip":={_,g.self,rfl};unfold pyNext;refine ae (dH (wpAny_callSpecial?_slot (name:=Str.ofString "__next__") ty eA (bq eA ty kA (YZ (show A.in1.handled=none from hh) g gd hx tN hk λh' e hk he=>?_) (jM _))));obtain⟨o,ho,hc⟩:=he;exact ae (fY (T:="StopIteration") (b:=true) ⟨o,ho,hc⟩ j8 (af (q _ hk)))
abbrev Pd(h:Heap)(d:Addr)(n ep:Nat):Heap:=h.push {cls:=.type "dict_itemiterator",data:=.fields #[.none,.bool false,.ref d,.int 0 0,.int n 0,.int ep 0,.none,.none]}
abbrev Vp(h:Heap)(d l:Addr)(n ep:Nat):Heap:=(Pd h d n ep).push {cls:=.type "list_iterator",data:=.fields #[.ref l,.int 0 0]}
abbrev Vo(h:Heap)(d l:Addr)(n ep:Nat):Heap:=(Vp h d l n ep).push {cls:=.type "tuple",data:=.seq #[.ref h.objs.size,.ref (Pd h d n ep).objs.size]}
abbrev Vn(h:Heap)(d l:Addr)(n ep:Nat):Heap:=(Vo h d l n ep).push {cls:=.type "tuple",data:=.seq #[.none,.none]}
abbrev LD(h:Heap)(d l:Addr)(n ep:Nat):Heap:=(Vn h d l n ep).push {cls:=.type "zip",data:=.fields #[.none,.bool false,.bool false,.ref (Vp h d l n ep).objs.size,.ref (Vo h d l n ep).objs.size]}
def Y5(r d l:Addr)(ys:Aal)(o:Obj)(es:Array DictEntry)(ep:Nat)(tN:o.data=.dict es ep):
  Meets (Builtin.«zip.__new__» {[.type "zip",.ref r,.ref l],[]}) (λ_ R s=>s.heap.IsItemsView r d/\s.heap.get? d=some o/\s.heap.IsList l ys/\R (.ok (.ret (.ref (Vn s.heap d l es.size ep).objs.size))) {s with heap:=LD s.heap d l es.size ep}):=
 .of_wp λprog w A R s h=>by
  obtain⟨hp,g,dr,tk,os⟩:=s;obtain⟨hv,gd,hl,h⟩:=h;have Uw:=sub_zip;have hV:Heap.IsItemsView (Shared.heap ⟨hp,g,dr,tk,os⟩) r d:=hv;have hL:Heap.IsList (Shared.heap {Pd hp d es.size ep,g,dr,tk,os}) l ys:=by obtain⟨o,e,r⟩:=hl;exact{o,ah _ e,r}
  wp_walk using IS hV gd tN,kZ hL
  exact⟨_,rfl,h⟩
def Xd(hv:v.heap.IsItemsView r d)(gd:v.heap.get? d=some o)(tN:o.data=.dict es ep)(hl:v.heap.IsList l ys)
  (q:∀h' n,n=v.heap.objs.size->Zi h' (n+4) (n+2) (n+3) n (n+1) d l .none 0 es.size ep->(∀c o,v.heap.get? c=some o->h'.get? c=some o)->Q (.ref (n+4)) {v with heap:=h'}):
  wpAny (-25) A (call (.type "zip") [.ref r,.ref l]) Q E v:=by
 refine callType_new F.called_zip (-8) (F.typeCall_zip_2 _ _) (F.newCall_zip_2 _ _) (λobj=>zP obj _ _) F.entry_zip_new (Y5 r d l ys o es ep tN) {hv,gd,hl,?_};have e1:(Pd v.heap d es.size ep).objs.size=v.heap.objs.size+1:=cw ..;have e2:(Vp v.heap d l es.size ep).objs.size=v.heap.objs.size+2:=by rw[cw,e1]
 have e3:(Vo v.heap d l es.size ep).objs.size=v.heap.objs.size+3:=by rw[cw,e2]
 have e4:(Vn v.heap d l es.size ep).objs.size=v.heap.objs.size+4:=by rw[cw,e3]
 have g5:(LD v.heap d l es.size ep).get? (Vn v.heap d l es.size ep).objs.size=some _:=aE _ rfl;have g4:(LD v.heap d l es.size ep).get? (Vo v.heap d l es.size ep).objs.size=some _:=ah _ (aE _ rfl);have g3:(LD v.heap d l es.size ep).get? (Vp v.heap d l es.size ep).objs.size=some _:=ah _ (ah _ (aE _ rfl));have g2:(LD v.heap d l es.size ep).get? (Pd v.heap d es.size ep).objs.size=some _:=ah _ (ah _ (ah _ (aE _ rfl)));have g1:(LD v.heap d l es.size ep).get? v.heap.objs.size=some _:=ah _ (ah _ (ah _ (ah _ (aE _ rfl))));show _/\_;rw[e2,e3,e4]at g5;rw[e1,e2]at g3;rw[e3]at g4;rw[e1]at g2;rw[e4];exact{⟨_,g5,rfl⟩,q _ _ rfl {g5,g3,⟨_,_,g4⟩,{_,_,_,_,g1,.inl rfl},⟨_,g2,rfl,rfl⟩} λc o x=>ah _ (ah _ (ah _ (ah _ (ah _ x))))}
end
def SF(K:Frag)(d l:Addr)(o:Obj)(u:HO)(kvs:Aam):It:=
 {λi H=>H d=some (.c6 o u)/\i<kvs.length/\∃ys y,bo K H l ys/\ys[i]?=some y,
  λi H x H'=>∃p q kv y,x=.ref p/\H q=none/\upd H q (.tup [kv.1,kv.2]) p=none/\H'=upd (upd H q (.tup [kv.1,kv.2])) p (.tup [.ref q,y])/\kvs[i]?=some kv/\∀ys,bo K H l ys->ys[i]?=some y,
  λi H=>H d=some (.c6 o u)/\kvs.length<=i}
def Xj{K:Frag}(m:K6 o es ep kvs)(CW:ti≠to):
  Turn P w K (.Tuple elts kk ps) (SF K d l o u kvs) (gN z ti to i1 i2) z (λi h=>Zi h z ti to i1 i2 d l .none i es.size ep) where
 mem:=ax
 obj:=λi h st c hc=>by
  obtain⟨gs,gi,⟨u,v,go⟩,⟨_,_,_,_,q1,_⟩,⟨o2,q2,c2,d2⟩⟩:=st;have qx:c=z\/c=ti\/c=to\/c=i1\/c=i2:=by simpa[gN]using hc
  rcases qx with rfl|rfl|rfl|rfl|rfl
  ·exact{_,gs,λv z=>by cases z}
  ·exact{_,gi,λv z=>by cases z}
  ·exact{_,go,λv z=>by cases z}
  ·exact{_,q1,λv z=>by cases z}
  ·exact{_,q2,λv z=>by rw[d2]at z;cases z}
 keep:=λi h h' st k=>by obtain⟨gs,gi,⟨u,v,go⟩,w1,⟨o2,q2,r2⟩⟩:=st;exact{k z (by simp[gN]) _ gs,k ti (by simp[gN]) _ gi,{u,v,k to (by simp[gN]) _ go},w1.jD λo e=>k i1 (by simp[gN]) _ e,{o2,k i2 (by simp[gN]) _ q2,r2}}
 item:=by
  intro X hP hw hK hc i pins s Z H E I hf st hg;subst hP hw hK;obtain⟨hd,hi,ys,y,hb,hy⟩:=hg;obtain⟨Bj,IT,AY,yg⟩:=I.list hb;obtain⟨u2,yl,ET⟩:=IT.get hy;have hl:kvs.length=es.size:=by rw[bp m.2.2,aQ]
  have ga:s.heap.get? d=some o:=(I.bj d _ hd).1;obtain⟨kv,iD⟩:∃kv,kvs[i]?=some kv:={_,aq hi};have Rz:i<es.size:=by lia
  obtain⟨e,he,r⟩:=Paired.at' m.2.2 iD;have ee:es[i]=e:=by rw[bB,bh Rz]at he;exact bS he
  refine Xb CW st ga m.1 m.2.1 AY.isList Rz (y:=u2) (by simpa using yl) λh1 g1 tq pr kp=>{_,rfl,?_};refine uJ g1.self λh2 z2 sb=>?_;have qJ:Heap.SameBut z h1 h2:=sb;have al:∀c∈gN z ti to i1 i2,c<s.heap.objs.size:=λc hc=>by
   obtain⟨gs,gi,⟨u,v,go⟩,⟨_,_,_,_,q1,_⟩,⟨o2,q2,r2⟩⟩:=id st;have qx:c=z\/c=ti\/c=to\/c=i1\/c=i2:=by simpa[gN]using hc
   rcases qx with rfl|rfl|rfl|rfl|rfl
   ·exact aF gs
   ·exact aF gi
   ·exact aF go
   ·exact aF q1
   ·exact aF q2
  have lz:z<s.heap.objs.size:=al z ax;have vO:∀c o,c∉gN z ti to i1 i2->s.heap.get? c=some o->h2.get? c=some o:=λc o hc e=>
   qJ.extBut c o (-16) (kp c o (-16) (-16) (-16) (-16) e)
  have t2:=qJ.extBut _ _ (bu lz) tq;have lz1:z<s.heap.objs.size+1:=dU lz;have p2:=qJ.extBut _ _ (bu lz1) pr;have I2:=I.LO (t':=s.toks) (xs:=[kv.1,kv.2]) (us:=[es[i].key,es[i].val]) vO hf (ak _) {⟨_,t2,rfl,_,rfl⟩,_,t2,rfl} (.cons (by rw[ee];exact r.1) (.cons (by rw[ee];exact r.2) .nil)) (-71);have low:=I.low;have Ro:H (-17)=none:=I.bj.fresh (eZ _);have C9:upd H s.heap.objs.size (.tup [kv.1,kv.2]) (-17)=none:=by rw[aw (bu (du _))];exact Ro
  have I3:=I2.KU (D:=s.heap.objs.size+1) (o:=.tup [.ref s.heap.objs.size,y]) C9 {by show 2<=sizeLine;decide,[.ref s.heap.objs.size,u2],.cons rfl (.cons ET .nil),{_,p2,rfl,0,rfl},_,p2,rfl} (Nat.le_succ_of_le low.1) (bu (dU low.2.1)) (λx c h=>aH (dU (low.2.2.1 x c h))) (λq hq=>aH (dU (low.2.2.2 q hq)));obtain⟨⟨n1,n2,n3,n4⟩,_,_⟩:=g1.ne;obtain⟨gs,gi,⟨u,v,go⟩,w1,⟨o2,q2,r2⟩⟩:=g1;refine{.ref (-17),_,I3,rfl,{_,_,kv,y,rfl,I.bj.fresh (ak _),C9,rfl,iD,λzs hz=>by rw[I.D4 hz hb];exact hy},{z2,qJ.extBut _ _ n1 gi,{u,v,qJ.extBut _ _ n2 go},w1.jD λo e=>qJ.extBut _ _ n3 e,{o2,qJ.extBut _ _ n4 q2,r2}},λc hc=>?_};rw[aw (aH (dU (al c hc))),aw (aH (al c hc))];exact(hf c hc).1
 done:=by
  intro X hP hw hK hc i pins s Z H E I hf st hg;subst hP hw hK;obtain⟨hd,hi⟩:=hg;have hl:kvs.length=es.size:=by rw[bp m.2.2,aQ]
  have ga:s.heap.get? d=some o:=(I.bj d _ hd).1;exact Xa (I.ok.hd hc) st ga m.1 m.2.1 ∅ λh1 kp=>{rfl,I.LP (t':=s.toks) (ch:=gN z ti to i1 i2) (λc o hc e=>kp c o (-16) (-16) (-16) (-16) e) hf}
 self:=λ_ _ _ _ _ st h=>lZ st.self h
inductive aaM(P:Program)(w:World)(K:Frag)(R:It->Hp->Prop)(vs:Aao)(H1:Hp):Prop
 |mk r d u l kvs ys (_:vs=[.ref r,.ref l]) (_:H1 r=some (.ext (uH r d))) (_:H1 d=some u) (_:fH P w K H1 d kvs) (_:bo K H1 l ys) (_:∀o,R (SF K d l o u (kvs.map λp=>(.ref p.2.1,p.2.2))) (upd H1 d (.c6 o u)))
def acd(P:Program)(w:World)(K:Frag)(ta:TA):TI:=λZ H R=>ta Z H λvs H1=>aaM P w K R vs H1
def XR(hg:Gl X "zip")(hm:X.mg "zip"=none)(ha:PA X [a,b] ta)(hs:starEach [a,b] X.env=[(false,eval a X.env),(false,eval b X.env)]:=by rfl)(kN:starEach [b] X.env=[(false,eval b X.env)]:=by rfl):
  PI X (.Tuple elts kk ps) (.Call (.Name "zip" p) [a,b] [] pos) (acd X.prog X.w X.K ta):=by
 intro pins s Z H R I h;refine FR (qN I hg hm boot_zip (dR (-55) (by rw[hs,kN]) (by rw[kN];rfl)));obtain⟨r,d,u,l,kvs,ys,e,hr,hd,hv,hb,q⟩:=q1;subst e;obtain⟨u1,u2,rfl,IV,ET⟩:=vals2 r1;cases IV;cases ET;obtain⟨iv,_⟩:=(show dC X.prog X.w H1 s1.heap r (.ext (uH r d))from I1.bj r _ hr);obtain⟨lo,o,es,ep,ga,hz,m⟩:=I1.HZ hv;obtain⟨Bj,IT,AY,yg⟩:=I1.list hb;have I2:Inv X pins Z (upd H1 d (.c6 o u)) s1:=by
  rcases hv.1 with e|⟨_,e⟩
  ·rw[hd]at e;cases e;exact I1.Gh hd ga
  ·rw[hd]at e;cases e;exact I1.freeze hd ga
 refine Xd iv ga m.2.1 AY.isList λh' n en g kp=>?_;subst en;have I3:Inv X pins Z (upd H1 d (.c6 o u)) {s1 with heap:=h'}:=I2.kept (t':=s1.toks) kp;refine lZ g.self ?_;refine{_,_,_,_,_,rfl,I3,Xj m ?_,g,λc hc=>?_,q o}
 ·exactλt=>absurd t (aH (du _))
 ·have qx:c=s1.heap.objs.size+4\/c=s1.heap.objs.size+2\/c=s1.heap.objs.size+3\/c=s1.heap.objs.size\/c=s1.heap.objs.size+1:=by simpa[gN]using hc
  have lc:s1.heap.objs.size<=c:=by rcases qx with e|e|e|e|e<;>rw[e]<;>first|exact ak _|exact dP _ _
  exact I2.sr lc (I2.bj.fresh lc)
def US{K:Frag}{g:TG}{tb:TS}{D:Ends}(Pv:Nat->St->Hp->Prop)(le:kvs.length=ys.length)(h0:Pv 0 Z H)(hl:∀i Z H,i<=kvs.length->Pv i Z H->H d=some (.c6 o u)/\bo K H l ys)
  (hs:∀i kv y p q Z H,kvs[i]?=some kv->ys[i]?=some y->Pv i Z H->H q=none->upd H q (.tup [kv.1,kv.2]) p=none->g (.ref p) Z (upd (upd H q (.tup [kv.1,kv.2])) p (.tup [.ref q,y])) λσ2 H2=>tb {D with nx:=Pv (i+1),ct:=Pv (i+1),bk:=D.nx} σ2 H2) (hd:∀Z H,Pv kvs.length Z H->D.nx Z H):
  ∃W:Nat->Nat->St->Hp->Prop,(∃m,W 0 m Z H)/\∀i m Z H,W i m Z H->
   ((SF K d l o u kvs).stop i H/\D.nx Z H)\/((SF K d l o u kvs).go i H/\∃N:St->Hp->Prop,(∀σ' H',N σ' H'->∃m',m'<m/\W (i+1) m' σ' H')/\∀x H',(SF K d l o u kvs).zU i H x H'->g x Z H' λσ2 H2=>tb {D with nx:=N,ct:=N,bk:=D.nx} σ2 H2):=by
 refine{λi m Z H=>m=kvs.length -i/\i<=kvs.length/\Pv i Z H,{kvs.length,by simp,aP _,h0},?_};rintro i m Z H ⟨rfl,hi,p⟩;obtain⟨q1,q2⟩:=hl i Z H hi p;by_cases bU:i<kvs.length
 ·refine .inr {{q1,bU,ys,ys[i]'∅,q2,aq _},Pv (i+1),λσ' H' p'=>{kvs.length -(i+1),by lia,rfl,bU,p'},λx H' y=>?_};obtain⟨a,b,kv,v,rfl,hb,ha,rfl,y1,y2⟩:=y;exact hs i kv v a b Z H y1 (y2 ys q2) p hb ha
 ·have e:i=kvs.length:=by lia
  subst e;exact .inl {{q1,ak _},hd Z H p}
section
variable{X:Cx}{P:Program}{w:World}{K:Frag}
def XW(he:PE X e ta)(hb:attributeBase e f X.env (eval e X.env)=eval e X.env)(h:X.K=K:=by rfl):PE X (.Attribute e f pos) (S4 K ta f):=h▸mF he hb
def NR(hu:X.A.units+101<cLine)(ho:PE X o td)(he:PE X e ty)(hf:PE X f tz)(m:M2 X o "get" apos e f eB)(h1:X.prog=P:=by rfl)(h2:X.w=w:=by rfl)(h3:X.K=K:=by rfl):
  PE X (.Call (.Attribute o "get" apos) [e,f] [] eB) (LX P w K td ty tz):=by subst h1 h2 h3;exact A0 hu ho he hf m
end
end L2
namespace lY
open PySem PySem.Spec PyProof.Rows L2 Dy
seal L2.PE L2.PT L2.PW L2.PA L2.PS L2.lN L2.PI L2.PO L2.Dz L2.PG L2.DA
section
variable{P:Program}{w:World}{K:Frag}{mg:Aad}{base:Heap}{C:Addr}
structure Ex(K:Frag)(C:Addr):Prop where
 c:B4 K C
 tables:pO K C "tables"
 kept:pO K C "kept"
 maps:pO K C "maps"
 fX:pO K C "tails"
def gC(kept ts:Aah):Aah:=(dc ts).filter λt=>decide (t∉kept)
def jX(kept ts:Aah):Aah:=ts.filter λt=>decide (t∉gC kept ts)
def vI(a:Str×Aah)(known:Aah):NK:=.tup [.tup [.key (.inr a.1),dY a.2],dY known]
def X9(h:vI a k=vI a' k'):a=a'/\k=k':=by unfold vI at h;simp only[NK.tup.injEq,List.cons.injEq,NK.key.injEq,Sum.inr.injEq,and_true]at h;obtain⟨⟨h1,h2⟩,h3⟩:=h;exact{Ew h1 (xU h2),xU h3}
def Uk(hq:bx K H q [.ref p,.ref u])(hp:bx K H p [.str a.1,.ref t])(ht:bx K H t (a.2.map V.str))(hu:bx K H u (known.map V.str))(s1:PyData.strOk a.1=true)(s2:pK a.2)(s3:pK known):jm K H (vI a known) q:=by
 refine{?_,pS.good (n:=3) ?_ (-8)}
 ·unfold vI;rw[NV];refine{q,_,rfl,hq,?_};rw[pQ];refine{_,_,rfl,?_,?_}
  ·rw[NV];refine{p,_,rfl,hp,?_};rw[pQ];refine{_,_,rfl,?_,?_}
   ·rw[NV];rfl
   ·rw[pQ];refine{_,_,rfl,JB ht,?_};rw[pQ]
  ·rw[pQ];refine{_,_,rfl,JB hu,?_};rw[pQ]
 ·have up:∀{n m:Nat}{k:NK},pS n k->n<=m->pS m k:=λg l=>{g.1,aC g.2.1 l,aC g.2.2 l};refine Ec λk hk=>?_;rcases aG.mp hk with rfl|hk
  ·refine Ec λk hk=>?_;rcases aG.mp hk with rfl|hk
   ·exact good_str s1
   ·cases ay.mp hk;exact Ed s2
  ·cases ay.mp hk;exact up (Ed s3) (-8)
abbrev Vu(fs:List En)(a:Str×Aah)(known:Aah):Aah->Aab:=AskP.fX (uM (bZ fs a.1)) a.2 known ((dc a.2).filter λt=>decide (t∉known))
structure jB(P:Program)(w:World)(K:Frag)(H:Hp)(td:Addr)(av:Aaj)(fs:List En)(kvs:List (-44)):Prop where
 at_:fH P w K H td kvs
 all:∀a known v,valN kvs (vI a known)=some v->∃d,v=.ref d/\ie P w K H av d (Vu fs a known)
def Pc(P:Program)(w:World)(K:Frag)(H:Hp)(td:Addr)(av:Aaj)(fs:List En)(n:Nat):Prop:=∃kvs,jB P w K H td av fs kvs/\kvs.length<=n
def SB(d:Addr)(H H':Hp):Prop:=∀b u,b≠d->H b=some u->H' b=some u
def SB.tp(s:SB d H H')(h:ij H d):eK H H':=λb xs q=>by
 have hb:b≠d:=λe=>h xs (e▸q);rcases q with q|⟨o,q⟩
 ·exact .inl (s _ _ hb q)
 ·exact .inr {o,s _ _ hb q}
def SB.same(s:bA H H'):SB d H H':=λb u _ e=>s _ _ e
def SB.trans(a:SB d H H1)(b:SB d H1 H2):SB d H H2:=λx u n e=>b x u n (a x u n e)
def jB.fr(x:jB P w K H td av fs kvs)(s:∀b u,b∉av->H b=some u->H' b=some u)(t:eK H H')(e:H' td=H td):jB P w K H' td av fs kvs:=
 {x.at_.tp t e,λa known v h=>by obtain⟨d,e1,e3⟩:=x.all a known v h;exact{d,e1,e3.fr s t}}
def jB.same(x:jB P w K H td av fs kvs)(s:bA H H'):jB P w K H' td av fs kvs:=by obtain⟨u,hu⟩:=x.at_.some;exact x.fr (λb u _ e=>s _ _ e) (eK.same s) (by rw[hu,s _ _ hu])
def Pc.same(x:Pc P w K H td av fs n)(s:bA H H'):Pc P w K H' td av fs n:=by obtain⟨kvs,h1,h2⟩:=x;exact{kvs,h1.same s,h2}
def _root_.L2.fH.uQ(h:fH P w K H d kvs)(l:Aao):H d≠some (.lst l):=λe=>by rcases h.1 with q|⟨_,q⟩<;>rw[e]at q<;>cases q
def jB.add(x:jB P w K H td av fs kvs)(ht:td∈av)(hk:jm K H (vI a known) q)(hd:ie P w K H av d (Vu fs a known)):
  jB P w K (upd H td (.ext (DN P w td (putN kvs (vI a known) q (.ref d))))) td av fs (putN kvs (vI a known) q (.ref d)):=by
 have s:∀b u,b∉av->H b=some u->upd H td (.ext (DN P w td (putN kvs (vI a known) q (.ref d)))) b=some u:=λb u n e=>by rw[aw (λz=>n (by rw[z];exact ht))];exact e
 have t:eK H (upd H td (.ext (DN P w td (putN kvs (vI a known) q (.ref d))))):=eK.upd x.at_.pV;refine{x.at_.put hk,λa' aaC v h=>?_};rw[qp]at h;split at h
 ·next c=>
  cases h;obtain⟨rfl,rfl⟩:=X9 c;exact{d,rfl,hd.fr s t}
 ·obtain⟨d',e1,e3⟩:=x.all a' aaC v h;exact{d',e1,e3.fr s t}
structure iI(P:Program)(w:World)(K:Frag)(C:Addr)(H:Hp)(me dx tb kl md td:Addr)(ex:Aaj)(fs:List En)(kept:Aah)(maps:Cm)(n:Nat):Prop where
 ins:H me=some (.ins C dx [("tables",.ref tb),("kept",.ref kl),("maps",.ref md),("tails",.ref td)])
 tab:iT K H tb fs
 xZ:H kl=some (.lst (kept.map V.str))
 wL:RowC P w K H md maps
 AD:Pc P w K H td (td::md::ex) fs n
 nm:md≠td
 nt:tb≠td
 ke:kl∉ex
def iI.same(x:iI P w K C H self dx tb kl md td ex fs kept maps n)(s:bA H H'):iI P w K C H' self dx tb kl md td ex fs kept maps n:=
 {s _ _ x.ins,x.tab.same s,s _ _ x.xZ,x.wL.same s,x.AD.same s,x.nm,x.nt,x.ke}
def FinA(a:Str×Aah):Prop:=a.2.length<=4/\PyData.strOk a.1=true/\pK a.2/\∀z∈a.2,z.length<=1000
def acr(a:Str×Aah):b8 [a]=a.2:=by show a.2++[]=a.2;exact cu _
inductive DH(P:Program)(w:World)(K:Frag)(C:Addr)(vs:Aao)(H:Hp)(Q:VK)(_x3:XK):Prop
 |mk (self at_ dx tb kl md td:Addr) (ex:Aaj) (fs:List En) (kept:Aah) (maps:Cm) (n:Nat) (a:Str×Aah) (_:vs=[.ref self,.ref at_]) (_:iI P w K C H self dx tb kl md td ex fs kept maps n) (_:ot H (.ref at_) a) (_:FinA a) (_:∀(l:Addr)(H':Hp),bA H H'->H l=none->H' l=some (.lst ((gC kept a.2).map V.str))->Q (.ref l) H')
structure Df6(P:Program)(w:World)(K:Frag)(mg:Aad)(base:Heap):Prop where
 K8:eG P w K mg base 3 "unknowns_of" ["question"] PB
def D6(l:Aah):(dc l).length<=l.length:=Gb l
def Ap:cz ["self","atom"] ["self","atom"] (bQ nJ):=jV (-3)
def TQ(F:fG K "fresh_unknowns" "Asking.fresh_unknowns" nJ f fd)(T:Txt K mg)(O:Ex K C)(D:Df6 P w K mg base):dh P w K mg base fW 4 f fd ["self","atom"] (DH P w K C):=by
 refine F.ok Ap (λ_ _ _ _ h=>by cases h;subst_vars;rfl) (-6);obtain⟨self,at_,dx,tb,kl,md,td,ex,fs,kept,maps,n,a,rfl,st,ha,fa,k⟩:=h;refine{_,(aY (cN (wI rfl (dy (fs:=["self"]) (fr:=[0])) (fS (cl D.K8 hr (cH (kh (fu (kh jh) (kh (cH (pv 1)))))))) (λ_ _ _ _=>(d5 (t7 (K:=K)) (pv 0) (XW (K:=K) (pv 1) rfl) (-43))) (λ_ _ _ _=>(pv 0))))),?_};refine{by show 0<=sizeLine;decide,λe he=>?_};have s1:=aN he (.tup ([]:Aao));have he1:upd H e (.tup []) e=some (.tup []):=ar;generalize (upd H e (.tup []))=H1 at s1 he1⊢;refine{_,rfl,by show 1<=sizeLine;decide,λt ht=>?_};have s2:=aN ht (.tup [V.ref at_]);have Ra:upd H1 t (.tup [V.ref at_]) t=some (.tup [V.ref at_]):=ar;generalize (upd H1 t (.tup [V.ref at_]))=H2 at s2 Ra⊢;refine{by show 2<=sizeLine;decide,λq hq=>?_};have s3:=aN hq (.tup [V.ref e,V.ref t]);have hq3:upd H2 q (.tup [V.ref e,V.ref t]) q=some (.tup [V.ref e,V.ref t]):=ar;have tD:=s1.trans (s2.trans s3);generalize (upd H2 q (.tup [V.ref e,V.ref t]))=H3 at s3 hq3 tD⊢;refine{.ref q,[],[a],rfl,{q,e,t,[.ref at_],rfl,hq3,s3 _ _ (s2 _ _ he1),s3 _ _ Ra,.cons (sY ha tD) .nil},λb hb=>?_,by show 1<=100;decide,λr H4 s4 uz tL=>?_}
 ·cases ay.mp hb;exact{fa.1,fa.2.2.2}
 rw[acr]at tL;have xM:=tD.trans s4;have lu:=D6 a.2;have l4:=fa.1;refine{r,rfl,{_,bo.of tL},kQ (K:=K) (a:=r) (xs:=(dc a.2).map V.str) (λi ys H5=>H5=H4/\i<=(dc a.2).length/\ys=(((dc a.2).take i).filter λt=>decide (t∉kept)).map V.str) (-37) {rfl,aP _,rfl} ?_ ?_ ?_}
 ·rintro i ys H5 hi ⟨rfl,_,rfl⟩;refine{bo.of tL,?_};rw[ag];exact aC (cS _ _) (by rw[aL];lia)
 ·rintro i x ys H5 N hx ⟨rfl,hi,rfl⟩ hN;obtain⟨z,hz,rfl⟩:=iA hx;have bU:i<(dc a.2).length:=(ao.mp hz).1;refine{_,rfl,_,rfl,self,C,dx,_,_,rfl,xM _ _ st.ins,O.c,O.kept,rfl,kl,_,rfl,.inl (bo.of (xM _ _ st.xZ)),rfl,w4 _,_,rfl,?_};rw[Cn];have en:((dc a.2).take (i+1)).filter (λt=>decide (t∉kept))=((dc a.2).take i).filter (λt=>decide (t∉kept))++if z∈kept then[]else[z]:=by rw[aV,hz,bI,gc];congr 1;by_cases c:z∈kept<;>simp[c]
  by_cases c:z∈kept
  ·refine fZ (λq=>by simp[c]at q) (λ_=>hN _ _ {rfl,bU,?_});rw[en,aD c,cu]
  ·refine fZ (λ_=>{_,rfl,hN _ _ {rfl,bU,?_}}) (λq=>absurd (by simp[c]) q);rw[en,au c,aM];rfl
 ·rintro ys H5 ⟨rfl,_,rfl⟩ l hl;rw[ag,aT];exact k l _ (xM.trans (aN hl _)) (xM.free hl) ar
def WO(kept ts:Aah):(dc ts).filter (λt=>decide (t∉jX kept ts))=gC kept ts:=by
 refine List.filter_congr λt ht=>?_;have h1:t∈ts:=(vc ht).resolve_left λz=>by cases z
 have:t∈jX kept ts↔t∈kept:=by unfold jX gC;rw[bD,fJ,bD,fJ];exact{λh=>nh λc=>h.2 ⟨ht,c⟩,λh=>{h1,λz=>z.2 h}}
 simp only[this]
theorem Hx:∀l:Aab,(zx l).length<=l.length
 |[]=>ak _
 |a::r=>by have:=Hx r;unfold zx;split<;>(simp only[bK];lia)
def EF(l:Aab):(uM l).length<=l.length:=by unfold uM;rw[(gg _).length_eq];exact Hx l
def lU(h:z∈cM):PyData.strOk z=true:=by unfold cM at h;simp only[aG,ml,zc]at h;rcases h with rfl|rfl|rfl|rfl|rfl|rfl|rfl|rfl<;>decide+kernel
def iT.good(x:iT K H p fs)(z:Str):(bZ fs z).length<=9/\∀r∈bZ fs z,oN r:=by
 unfold bZ;cases q:fs.find? (λe=>decide (e.nm=z))with
 |none=>exact{aP _,λr h=>by cases h}
 |some e=>
  obtain⟨_,_,h3,h4⟩:=x.en e (jS q);exact⟨h3,h4⟩
abbrev dbT(fs:List En)(z:Str):Aab:=uM (bZ fs z)
def vm(fs:List En)(kept:Aah)(a:Str×Aah)(v:Aah):Aab:=AskP.fX (dbT fs a.1) a.2 (-45) (gC kept a.2) (AskP.image kept v (-45))
def LR(x:iT K H p fs)(kept:Aah)(a:Str×Aah)(v:Aah):(vm fs kept a v).length<=9:=by unfold vm AskP.fX;rw[ag];exact aC (cS _ _) (aC (EF _) (x.good a.1).1)
abbrev zH(K:Frag)(H:Hp)(av:Aaj)(fs:List En)(kept:Aah)(a:Str×Aah):Aao->Cm->Prop:=Paired λ(y:V)(x:Aah×Int)=>∃t zs,y=.ref t/\t∉av/\H t=some (.lst zs)/\fE K H zs (vm fs kept a x.1)
def Im(h:zH K H av fs kept a ys m)(s:∀b u,b∉av->H b=some u->H' b=some u)(t:eK H H'):zH K H' av fs kept a ys m:=by
 induction h with
 |nil=>exact .nil
 |cons h _ ih=>
  obtain⟨t',zs,e,n,h1,h2⟩:=h;exact .cons {t',zs,e,n,s _ _ n h1,qr h2 t} ih
def Il(h:zH K H av fs kept a ys m)(s:bA H H'):zH K H' av fs kept a ys m:=Im h (λb u _ e=>s _ _ e) (eK.same s)
structure FP(kept:Aah)(maps:Cm):Prop where
 nd:kept.Nodup
 sok:pK kept
 len:kept.length<=100
 row:∀x∈maps,x.1.length=kept.length/\pK x.1
 gD:maps.length<=500000
inductive Nz(P:Program)(w:World)(K:Frag)(C:Addr)(vs:Aao)(H:Hp)(Q:VK)(_x3:XK):Prop
 |mk (self at_ dx tb kl md td:Addr) (ex:Aaj) (fs:List En) (kept:Aah) (maps:Cm) (n:Nat) (a:Str×Aah) (_:vs=[.ref self,.ref at_]) (_:iI P w K C H self dx tb kl md td ex fs kept maps n) (_:ot H (.ref at_) a) (_:FinA a) (_:FP kept maps) (_:n<=1000000) (_:(∀b∈ex,∃u,H b=some u)) (_:∀(l:Addr)(ys:Aao)(H':Hp),SB td H H'->H l=none->H' l=some (.lst ys)->iI P w K C H' self dx tb kl md td ex fs kept maps (n+1)->zH K H' (td::md::ex) fs kept a ys maps->Q (.ref l) H')
structure Dm6(P:Program)(w:World)(K:Frag)(mg:Aad)(base:Heap)(C:Addr):Prop extends Dn P w K mg base where
 iR:rA P w K mg base C 4 "fresh_unknowns" ["self","atom"] (DH P w K C)
 Xz:eG P w K mg base 1 "rows_of" ["tables","name"] (IA K)
 Iq:eG P w K mg base 3 "tails_by_key" ["rows","terms","known","fresh"] (GJ P w K)
def iT.sb(x:iT K H p fs)(s:SB td H H')(nt:ij H td)(nl:∀l,H td≠some (.lst l))(ne:p≠td):iT K H' p fs:={s _ _ ne x.at_,x.nm,λe he=>by obtain⟨h1,h2,h3⟩:=x.en e he;exact{s _ _ (λz=>nl _ (by rw[<-z];exact h1)) h1,qr h2 (s.tp nt),h3}}
def RowC.sb(x:RowC P w K H d m)(s:SB td H H')(nt:ij H td)(ne:d≠td):RowC P w K H' d m:=by obtain⟨kvs,h1,h2⟩:=x;obtain⟨u,hu⟩:=h1.some;exact{kvs,h1.tp (s.tp nt) (by rw[hu,s _ _ ne hu]),h2}
def _root_.L2.fH.E5(h:fH P w K H d kvs):H d≠some (.ins C dx l):=λe=>by rcases h.1 with q|⟨_,q⟩<;>rw[e]at q<;>cases q
def iI.sb(x:iI P w K C H self dx tb kl md td ex fs kept maps n)(s:SB td H H')(ck:jB P w K H' td (td::md::ex) fs kvs)(l:kvs.length<=m):iI P w K C H' self dx tb kl md td ex fs kept maps m:=by obtain⟨_,c0,_⟩:=x.AD;exact{s _ _ (λz=>c0.at_.E5 (by rw[<-z];exact x.ins)) x.ins,x.tab.sb s c0.at_.pV c0.at_.uQ x.nt,s _ _ (λz=>c0.at_.uQ _ (by rw[<-z];exact x.xZ)) x.xZ,x.wL.sb s c0.at_.pV x.nm,⟨kvs,ck,l⟩,x.nm,x.nt,x.ke}
def gW:cz ["self","atom","fresh","known","key","tails","places"] ["self","atom"] (bQ oZ):=jV (-3)
def TK(F:fG K "tails_of_maps" "Asking.tails_of_maps" oZ f fd)(T:Txt K mg)(O:Ex K C)(D:Dm6 P w K mg base C):dh P w K mg base fW 5 f fd ["self","atom"] (Nz P w K C):=by
 refine F.ok gW (λ_ _ _ _ h=>by cases h;subst_vars;rfl) (-6);obtain⟨self,at_,dx,tb,kl,md,td,ex,fs,kept,maps,n,a,rfl,st,ha,fa,mo,hn,hex,k⟩:=h;have hu:=jQ hr;have hN:=wX hr;have cC:=O.c;refine{_,(aO (pz (i:=2) gW.nd rfl (Or.inr rfl) (Mz cC D.iR hr (pv 0) (cH (pv 1)) ∅)) (aO (pz (i:=3) gW.nd rfl (Or.inr rfl) (wI rfl (dy (fs:=["fresh"]) (fr:=[2])) (nK (dj kj (pv 1) bg (-15))) (λ_ _ _ _=>(d5 (t7 (K:=K)) (pv 0) (pv 1) (-43))) (λ_ _ _ _=>(pv 0)))) (aO (gn 4 gW (kh (fu (pv 1) (d7 fD rfl T.j7 (-3) (cH (pv 3)))))) (aO (iJ (d5 (Qg hN) (pv 4) (mF (pv 0) rfl) (-43)) (aY (DT hN (mF (pv 0) rfl) (pv 4) (cl D.Iq hr (fT (cl D.Xz hr (fu (mF (pv 0) rfl) (dj kj (pv 1) bg (-15)))) (pA (dj kj (pv 1) bg (-15)) (pv 3) (pv 2)))) rfl)) fm) (aO (pz (i:=5) gW.nd rfl (Or.inr rfl) (Jm hN (mF (pv 0) rfl) (pv 4) (-15))) (aO (pz (i:=6) gW.nd rfl (Or.inr rfl) (cl D.GU hr (cH (mF (pv 0) rfl)))) (aY (cN (DV (iz rfl (dy (fs:=["tails","known","places"]) (fr:=[5,3,6])) (Tw (mF (pv 0) rfl)) (λ_ _ _ _=>(NR (P:=P) (w:=w) (K:=K) hN (pv 1) (cl D.image hr (pA (pv 2) (pv 3) (pv 0))) (gY jh) ⟨rfl,rfl,rfl,rfl⟩)))))))))))),?_}
 refine{_,rfl,self,dx,_,rfl,st.ins,rfl,_,rfl,self,at_,dx,tb,kl,md,td,ex,fs,kept,maps,n,a,rfl,st,ha,fa,λfr H1 s1 hf0 yp=>?_};obtain⟨_,t,e,hp,ht⟩:=id ha;cases e;have l4:=fa.1;refine{_,rfl,_,_,_,_,rfl,rfl,bx.of (s1 _ _ hp),rfl,t,rfl,{_,bx.of (s1 _ _ ht)},vV (K:=K) (a:=t) (xs:=a.2.map V.str) (λi ys H2=>H2=H1/\i<=a.2.length/\ys=((a.2.take i).filter λt=>decide (t∉gC kept a.2)).map V.str) (-37) {rfl,aP _,rfl} ?_ ?_ ?_}
 ·rintro i ys H2 hi ⟨rfl,_,rfl⟩;refine{bx.of (s1 _ _ ht),?_};rw[ag];exact aC (cS _ _) (by rw[aL];lia)
 ·rintro i x ys H2 N hx ⟨rfl,hi,rfl⟩ tQ;obtain⟨z,hz,rfl⟩:=iA hx;have bU:i<a.2.length:=(ao.mp hz).1;refine{_,rfl,_,rfl,fr,_,rfl,.inl (bo.of yp),rfl,w4 _,_,rfl,?_};rw[Cn];have en:(a.2.take (i+1)).filter (λt=>decide (t∉gC kept a.2))=(a.2.take i).filter (λt=>decide (t∉gC kept a.2))++if z∈gC kept a.2 then[]else[z]:=by rw[aV,hz,bI,gc];congr 1;by_cases c:z∈gC kept a.2<;>simp[c]
  by_cases c:z∈gC kept a.2
  ·refine fZ (λq=>by simp[c]at q) (λ_=>tQ _ _ {rfl,bU,?_});rw[en,aD c,cu]
  ·refine fZ (λ_=>{_,rfl,tQ _ _ {rfl,bU,?_}}) (λq=>absurd (by simp[c]) q);rw[en,au c,aM];rfl
 rintro ys H2 ⟨rfl,_,rfl⟩ kn abc;rw[ag,aT];have s2:=aN abc (.lst ((-45).map V.str));have Ov:upd H2 kn (.lst ((-45).map V.str)) kn=some (.lst ((-45).map V.str)):=ar;have jf:=s1.trans s2;have hf2:=s2 _ _ yp;generalize hH:(upd H2 kn (.lst _))=H3;have hH':upd H2 kn (.lst ((-45).map V.str))=H3:=hH;rw[hH']at s2 Ov jf hf2;clear hH hH';refine{_,rfl,_,rfl,kn,_,rfl,.inl {bo.of Ov,λtk Q8=>?_}};have s4:=aN Q8 (.tup ((-45).map V.str));have Uv:upd H3 tk (.tup ((-45).map V.str)) tk=some (.tup ((-45).map V.str)):=ar;have xM:=jf.trans s4;have hf4:=s4 _ _ hf2;have UG:=s4 _ _ Ov;generalize (upd H3 tk (.tup ((-45).map V.str)))=H4 at s4 Uv xM hf4 UG⊢;refine{by show 2<=sizeLine;decide,λky hky=>?_};have s5:=aN hky (.tup [V.ref at_,V.ref tk]);have aa8:upd H4 ky (.tup [V.ref at_,V.ref tk]) ky=some (.tup [V.ref at_,V.ref tk]):=ar;have vD:=xM.trans s5;have hf5:=s5 _ _ hf4;have Ou:=s5 _ _ UG;have aa1:=s5 _ _ Uv;generalize (upd H4 ky (.tup [V.ref at_,V.ref tk]))=H5 at s5 aa8 vD hf5 Ou aa1⊢;have oQ:=st.same vD;have sk:pK (-45):=λz hz=>fa.2.2.1 z (bD.mp hz).1;have lkn:(-45).length<=4:=aC (cS _ _) l4;have key:∀{H':Hp},eK H5 H'->jm K H' (vI a (-45)) ky:=λtp=>ya (Uk (bx.of aa8) (bx.of (vD _ _ hp)) (bx.of (vD _ _ ht)) (bx.of aa1) fa.2.1 fa.2.2.1 sk) tp;obtain⟨kvs,ck,lk⟩:=id oQ.AD;clear s1 s2 jf xM s4 s5 yp hf2 hf4 Ov UG Uv hky Q8 abc;dsimp only[sW];refine IK λNX hNX=>?_;have go:∀(H6:Hp)(QL:List (-44))(d:Addr),SB td H5 H6->jB P w K H6 td (td::md::ex) fs QL->QL.length<=n+1->valN QL (vI a (-45))=some (.ref d)->NX [some (.ref self),some (.ref at_),some (.ref fr),some (.ref kn),some (.ref ky),none,none] H6:=λH6 QL d kM Sn lk6 Hc=>by
  refine hNX _ _ ?_;have tp6:=kM.tp ck.at_.pV;have mC:=oQ.sb kM Sn lk6;have abb:=kM _ _ (λz=>ck.at_.uQ _ (by rw[<-z];exact Ou)) Ou;obtain⟨d',e',tv6⟩:=Sn.all _ _ _ Hc;cases e';have et:Vu fs a (-45)=AskP.fX (dbT fs a.1) a.2 (-45) (gC kept a.2):=by show AskP.fX _ _ _ ((dc a.2).filter λt=>decide (t∉jX kept a.2))=_;rw[WO]
  rw[et]at tv6;refine{_,rfl,self,C,dx,_,_,rfl,mC.ins,O.c,O.fX,rfl,_,rfl,td,ky,QL,_,.ref d,rfl,rfl,Sn.at_,key tp6,Hc,?_};refine{_,rfl,self,C,dx,_,_,rfl,mC.ins,O.c,O.kept,rfl,kl,kept,rfl,bo.of mC.xZ,mo.nd,mo.len,λpd H7 s7 UC adZ=>?_};have vt:=mC.same s7;obtain⟨qO,Hk,em⟩:=vt.wL;obtain⟨um,J5⟩:=Hk.some;have nfz:∀u v,H7 md≠some (.c6 u v):=λu v e=>by rcases Hk.1 with q|⟨_,q⟩<;>rw[e]at q<;>cases q
  have GZ:ij H7 md:=Hk.pV;refine{md,nfz,?_};refine{_,rfl,self,C,dx,_,_,rfl,vt.ins,O.c,O.maps,rfl,md,um,qO,rfl,J5,Hk,λo=>?_};have uu:SB md H7 (upd H7 md (.c6 o um)):=λb u n e=>by rw[aw n];exact e
  have AB:=uu.tp GZ;have Zm:=(tv6.same s7).fr (λb u n e=>uu b u (λz=>n (by rw[z];exact az _ ax)) e) AB;have aba:upd H7 md (.c6 o um) kn=some (.lst ((-45).map V.str)):=uu _ _ (λz=>Hk.uQ _ (by rw[<-z];exact s7 _ _ abb)) (s7 _ _ abb);have pdm:pd≠md:=λz=>by obtain⟨_,h1,_⟩:=mC.wL;obtain⟨_,h2⟩:=h1.some;rw[z,h2]at UC;cases UC
  have aa3:upd H7 md (.c6 o um) pd=some (.dK (placesK kept)):=uu _ _ pdm adZ;have wV:upd H7 md (.c6 o um) md=some (.c6 o um):=ar;have avf:∀b∈td::md::ex,∃u,upd H7 md (.c6 o um) b=some u:=λb hb=>by
   by_cases z:b=md
   ·exact{_,by rw[z];exact wV}
   ·have go7:∀{u:HO},H7 b=some u->∃u,upd H7 md (.c6 o um) b=some u:=λ{u} e=>{u,by rw[aw z];exact e};by_cases z2:b=td
    ·obtain⟨_,h⟩:=Sn.at_.some;exact go7 (s7 _ _ (by rw[z2];exact h))
    ·have RF:b∈ex:=by
      rcases aG.mp hb with h|h
      ·exact absurd h z2
      ·exact(aG.mp h).resolve_left z
     obtain⟨_,h⟩:=hex b RF;exact go7 (s7 _ _ (kM _ _ z2 (vD _ _ h)))
  have QK:qO.length=maps.length:=by have:=cc List.length em;unfold qC at this;rw[ag,ag]at this;exact this
  have gv:∀(i:Nat)(q:NK×Addr×V),qO[i]?=some q->∃x,maps[i]?=some x/\bx K H7 q.2.1 (x.1.map V.str):=λi q hq=>by
   have e1:(qC maps)[i]?=some (q.1,q.2.2):=by rw[<-em,aJ,hq];rfl
   unfold qC at e1;rw[aJ]at e1;obtain⟨x,e2,e3⟩:=a9.mp e1;have e4:dY x.1=q.1:=cc Prod.fst e3;have:=(Hk.2 q (aB hq)).1;rw[<-e4]at this;exact{x,e2,E7 this}
  generalize Fo:upd H7 md (.c6 o um)=Hf at Zm aba aa3 wV AB avf⊢;refine OY (d:=md) (o:=o) (u:=um) (kvs:=qO.map λp=>(V.ref p.2.1,p.2.2)) (λi ys H8=>bA Hf H8/\i<=maps.length/\zH K H8 (td::md::ex) fs kept a ys (maps.take i)) (by rw[ag,QK];exact cK mo.gD (-8)) {λ_ _ x=>x,aP _,.nil} ?_ ?_ ?_
  ·rintro i ys H8 hi ⟨s8,Ww,tl⟩;refine{s8 _ _ wV,?_};rw[bp tl,aL];lia
  ·rintro i kv ys H8 N iD ⟨s8,Ww,tl⟩ tQ;rw[aJ]at iD;obtain⟨q,hq,rfl⟩:=a9.mp iD;obtain⟨x,hx,hg⟩:=gv i q hq;have bU:i<maps.length:=(ao.mp hx).1;obtain⟨g1,g2⟩:=mo.row x (aB hx);obtain⟨_,kvt,Kc,qe⟩:=Zm.same s8;refine iy ?_;refine{_,rfl,d,kvt,rfl,Kc,_,rfl,_,rfl,_,rfl,kn,pd,q.2.1,jX kept a.2,kept,x.1,rfl,.inl (bo.of (s8 _ _ aba)),s8 _ _ aa3,mo.nd,gP (nE hg AB) s8,g1,by lia,mo.len,λr H9 s9 uz Rh=>?_};refine{by show 0<=sizeLine;decide,λl0 qw=>?_};have mW:=s9.trans (aN qw (-40));have Gg:upd H9 l0 (.lst []) l0=some (.lst []):=ar;have Om:=(aN qw (-40)) _ _ Rh;generalize (upd H9 l0 (.lst []))=wk at mW Gg Om⊢;obtain⟨_,adg,adV,abh⟩:=Zm.same (s8.trans mW);refine{r,adg,dY (AskP.image kept x.1 (-45)),rfl,adV,sf (bx.of Om) (wG g2 sk),tQ _ _ {s8.trans mW,bU,?_}};rw[aV,hx];refine(Il tl mW).snoc ?_;rcases abh (AskP.image kept x.1 (-45))with⟨h1,h2⟩|⟨l,zs,h1,h4,h2,h3⟩
   ·refine{l0,[],by rw[h1];rfl,λz=>?_,Gg,?_}
    ·obtain⟨u,e⟩:=avf l0 z;rw[s9 _ _ (s8 _ _ e)]at qw;cases qw
    unfold vm;rw[h2];exact .nil
   ·exact{l,zs,by rw[h1];rfl,h4,h2,h3}
  ·rintro ys H8 ⟨s8,_,tl⟩ l hl;rw[ag,QK,aT]at tl;have s9:=s8.trans (aN hl (-48));have Kl:upd H8 l (-48) l=some (-48):=ar;have tl9:=Il tl (aN hl (-48));have lmd:l≠md:=λz=>by rw[z,s8 _ _ wV]at hl;cases hl
   have h7l:H7 l=none:=by
    cases e:H7 l with
    |none=>rfl
    |some u=>
     have:Hf l=some u:=by rw[<-Fo,aw lmd];exact e
     rw[s8 _ _ this]at hl;cases hl
   generalize (upd H8 l (-48))=H9 at s9 Kl tl9⊢;refine{o,um,s9 _ _ wV,?_};have sF:bA H7 (upd H9 md um):=λb u e=>by
    by_cases z:b=md
    ·rw[z,J5]at e;cases e;rw[z,ar]
    ·rw[aw z];exact s9 _ _ (by rw[<-Fo,aw z];exact e)
   have nt9:ij H9 md:=λxs q=>by have e9:=s9 _ _ wV;rcases q with q|⟨o',q⟩<;>rw[e9]at q<;>cases q;exact GZ xs (.inl J5)
   have sb9:SB md H9 (upd H9 md um):=λb u n e=>by rw[aw n];exact e
   have tlF:zH K (upd H9 md um) (td::md::ex) fs kept a ys maps:=Im tl9 (λb u n e=>sb9 b u (λz=>n (by rw[z];exact az _ ax)) e) (sb9.tp nt9);have WM:H6 l=none:=s7.free h7l;have RS:H l=none:=by
    cases e:H l with
    |none=>rfl
    |some u=>
     by_cases z:l=td
     ·obtain⟨_,h⟩:=Sn.at_.some;rw[z,h]at WM;cases WM
     ·rw[kM _ _ z (vD _ _ e)]at WM;cases WM
   exact k l ys _ (((SB.same vD).trans kM).trans (SB.same (s7.trans sF))) RS (by rw[aw lmd];exact Kl) (vt.same sF) tlF
 refine{_,rfl,_,rfl,self,C,dx,_,_,rfl,oQ.ins,O.c,O.fX,rfl,td,ky,kvs,_,rfl,rfl,ck.at_,key (eK.refl _),_,rfl,?_};refine fZ (λc=>?_) (λc=>?_)
 ·have hv:valN kvs (vI a (-45))=none:=by simpa using c
  refine{_,rfl,self,C,dx,_,_,rfl,oQ.ins,O.c,O.tables,rfl,_,rfl,_,_,_,_,rfl,rfl,bx.of (vD _ _ hp),rfl,tb,fs,a.1,rfl,oQ.tab,λrl rys H6 s6 aeI vP ML=>?_};have mC:=oQ.same s6;have vC:=vD.trans s6;refine{_,rfl,_,_,_,_,rfl,rfl,bx.of (vC _ _ hp),rfl,_,rfl,_,rfl,rl,t,kn,fr,rys,dbT fs a.1,a.2,jX kept a.2,gC kept a.2,rfl,bo.of vP,ML,vC _ _ ht,bo.of (s6 _ _ Ou),bo.of (s6 _ _ hf5),?_,λr hr=>?_,by lia,by lia,?_,λz hz=>(bD.mp hz).1,λz hz=>(vc (bD.mp hz).1).resolve_left (λh=>by cases h),λd H7 s7 iM tv=>?_}
  ·exact aC (EF _) (aC (oQ.tab.good a.1).1 (-8))
  ·obtain⟨_,h2,h3⟩:=(oQ.tab.good a.1).2 r ((gZ _ _).mp hr);exact{by lia,λz hz=>lU (h3 z hz)}
  ·have:=D6 a.2;exact aC (cS _ _) ∅
  have vt:=mC.same s7;have VH:=s6.trans s7;have ck7:=ck.same VH;have av:∀b∈td::md::ex,H6 b≠none:=λb hb=>by
   rcases aG.mp hb with rfl|hb
   ·obtain⟨_,h⟩:=ck.at_.some;rw[s6 _ _ h];simp
   ·rcases aG.mp hb with rfl|hb
    ·obtain⟨_,h1,_⟩:=mC.wL;obtain⟨_,h⟩:=h1.some;rw[h];simp
    ·obtain⟨_,h⟩:=hex b hb;rw[vC _ _ h];simp
  refine{_,rfl,self,C,dx,_,_,rfl,vt.ins,O.c,O.fX,rfl,_,rfl,td,ky,kvs,_,rfl,rfl,ck7.at_,key (eK.same VH),by lia,?_};have tv2:ie P w K H7 (td::md::ex) d (Vu fs a (-45)):=by show ie P w K H7 (td::md::ex) d (AskP.fX _ _ _ ((dc a.2).filter λt=>decide (t∉jX kept a.2)));rw[WO];exact tv _ av
  exact go _ _ d ((SB.same VH).trans λb u n e=>by rw[aw n];exact e) (ck7.add ax (key (eK.same VH)) tv2) (aC sd ∅) (by rw[qp,aD rfl])
 ·obtain⟨v,hv⟩:=Option.ne_none_iff_exists'.mp (show ¬valN kvs (vI a (-45))=none by simpa using c);obtain⟨d,rfl,_⟩:=ck.all _ _ _ hv;exact go H5 kvs d (λ_ _ _ e=>e) ck ∅ hv
def iI.mono(x:iI P w K C H self dx tb kl md td ex fs kept maps n)(l:n<=m):iI P w K C H self dx tb kl md td ex fs kept maps m:=
 {x.ins,x.tab,x.xZ,x.wL,let⟨kvs,h1,h2⟩:=x.AD;{kvs,h1,aC h2 l},x.nm,x.nt,x.ke}
def BF(h:ot H v a)(s:SB td H H')(nt:ij H td):ot H' v a:=by obtain⟨p,t,e,h1,h2⟩:=h;exact{p,t,e,s _ _ (λz=>nt _ (.inl (by rw[<-z];exact h1))) h1,s _ _ (λz=>nt _ (.inl (by rw[<-z];exact h2))) h2}
def FK(h:gF H vs as)(s:SB td H H')(nt:ij H td):gF H' vs as:=by
 induction h with
 |nil=>exact .nil
 |cons h _ ih=>exact .cons (BF h s nt) ih
def iI.Mu(x:iI P w K C H self dx tb kl md td ex fs kept maps n):ij H td/\∀l,H td≠some (.lst l):=by obtain⟨_,c0,_⟩:=x.AD;exact{c0.at_.pV,c0.at_.uQ}
inductive PL(P:Program)(w:World)(K:Frag)(C:Addr)(vs:Aao)(H:Hp)(Q:VK)(_x3:XK):Prop
 |mk (self l dx tb kl md td:Addr) (ex:Aaj) (fs:List En) (kept:Aah) (maps:Cm) (n:Nat) (ys:Aao) (ats:Aaa) (_:vs=[.ref self,.ref l]) (_:iI P w K C H self dx tb kl md td ex fs kept maps n) (_:H l=some (.lst ys)) (_:gF H ys ats) (_:(∀a∈ats,FinA a)) (_:0<ats.length) (_:ats.length<=100) (_:FP kept maps) (_:n+100<=1000000) (_:(∀b∈ex,b≠td/\∃u,H b=some u)) (_:∀(i:Nat)(H':Hp),i<ats.length->SB td H H'->iI P w K C H' self dx tb kl md td ex fs kept maps (n+100)->Q (.int i) H')
structure Db6(P:Program)(w:World)(K:Frag)(mg:Aad)(base:Heap)(C:Addr):Prop where
 jt:rA P w K mg base C 5 "tails_of_maps" ["self","atom"] (Nz P w K C)
def hZ:cz ["self","atoms","best","fewest","place","atom","count"] ["self","atoms"] (bQ rY):=jV (-3)
def X7(F:fG K "best_place" "Asking.best_place" rY f fd)(T:Txt K mg)(O:Ex K C)(D:Db6 P w K mg base C):dh P w K mg base fW 6 f fd ["self","atoms"] (PL P w K C):=by
 refine F.ok hZ (λ_ _ _ _ h=>by cases h;subst_vars;rfl) (-6);obtain⟨self,l,dx,tb,kl,md,td,ex,fs,kept,maps,n,ys,ats,rfl,st,hl,rL,fa,l0,l1,mo,hn,hex,k⟩:=h;have hu:=jQ hr;have hN:=wX hr;have cC:=O.c;refine{_,(aO (vE (kh (fu bg Qd)) (mE rfl (df (jg 2 hZ) (df (jg 3 hZ) j6)))) (aO (fg bJ rfl (Ml rfl T.CZ (cH (pv 1))) (mE rfl (df (jg 4 hZ) (df (jg 5 hZ) j6))) (aO (gn 6 hZ (cA (Vb rfl) rfl T.ab3 (-3) (cH (iz rfl (dy (fs:=[]) (fr:=[])) (fS (Mz cC D.jt hr (pv 0) (cH (pv 5)) ∅)) (λ_ _ _ _=>(cA (Bz (K:=K)) rfl T.jO cL (cH (pv 0)))))))) (aO (iJ (PW.pt (y0 (d5 aal (pv 3) Qd (gG _)) (AU (d5 NY (pv 6) (pv 3) (gG _))))) (aY (Z6 (i:=2) (j:=3) rfl hZ.nd rfl rfl (-8) rfl rfl (fu (pv 4) (pv 6)) rfl)) fm) (aY (iJ (d5 NZ (pv 6) (cA Ss rfl T.jO cL (cH (mF (pv 0) rfl))) (gG _)) (aY (cN (pv 4))) fm))))) (aY (cN (pv 2))))),?_}
 have ly:ys.length=ats.length:=bp rL;obtain⟨nt0,nl0⟩:=st.Mu;have qw:∀{H':Hp},SB td H H'->H' l=some (-48):=λsb=>sb _ _ (λz=>nl0 _ (by rw[<-z];exact hl)) hl;refine{by show 2<=sizeLine;decide,λp hp=>{p,_,rfl,bx.of ar,rfl,_,_,rfl,_,_,rfl,rfl,?_}};have s1:=aN hp (.tup [V.int 0,V.cI]);refine{_,rfl,l,rfl,{_,bo.of (s1 _ _ hl)},Kz (K:=K) (a:=l) (xs:=ys)
  (λi Z H2=>∃(b:Nat)(fw:V)(x4 x5 x6:Aap),Z=[some (.ref self),some (.ref l),some (.int b),some fw,x4,x5,x6]/\SB td H H2/\iI P w K C H2 self dx tb kl md td ex fs kept maps (n+i)/\b<ats.length/\(fw=.cI\/∃c,fw=.int c))
  {0,.cI,none,none,none,rfl,SB.same s1,st.same s1,l0,.inl rfl} (λi Z H2 _ hq=>by(obtain⟨_,_,_,_,_,_,sb,_⟩:=hq;exact bo.of (qw sb))) ?_ ?_}
 ·rintro i x q Z H2 hx ⟨b,fw,x4,x5,x6,rfl,ER,qq,hb,Wz⟩ hq;obtain⟨a,ha,hxa⟩:=Paired.at rL hx;have bU:i<ats.length:=(ao.mp ha).1;have s3:=aN hq (.tup [V.int i,x]);refine{q,_,rfl,bx.of ar,rfl,_,_,rfl,_,_,rfl,rfl,?_};have oR:=ER.trans (SB.same s3);have ur:=qq.same s3;generalize (upd H2 q (.tup [V.int i,x]))=H3 at s3 oR ur⊢;obtain⟨ap,at_,rfl,_⟩:=id hxa;refine{_,rfl,self,dx,_,rfl,ur.ins,rfl,_,rfl,self,ap,dx,tb,kl,md,td,ex,fs,kept,maps,n+i,a,rfl,ur,BF hxa oR nt0,fa a (aB ha),mo,by lia,λb hb=>{_,oR _ _ (hex b hb).1 (hex b hb).2.choose_spec},λtl tys H4 CS Uu aa0 wF m6=>?_};have V3:tys.length=maps.length:=bp m6;refine{tl,rfl,{_,bo.of aa0},kQ (K:=K) (a:=tl) (xs:=tys) (λj zs H5=>H5=H4/\j<=maps.length/\zs=((maps.take j).map λx=>((vm fs kept a x.1).length:Int)).map V.int) (by rw[V3];exact cK mo.gD (-8)) {rfl,aP _,rfl} ?_ ?_ ?_}
  ·rintro j zs H5 hj ⟨rfl,_,rfl⟩;refine{bo.of aa0,?_};rw[ag,ag,aL];lia
  ·rintro j x zs H5 N hx5 ⟨rfl,hj,rfl⟩ tQ;obtain⟨y,hy,t,zz,rfl,_,ht,ML⟩:=Paired.at' m6 hx5;have lX:j<maps.length:=(ao.mp hy).1;refine iy ?_;refine{_,rfl,_,_,rfl,.inl {_,bo.of ht,rfl},tQ _ _ {rfl,lX,?_}};rw[aV,hy,aM,aM,ML.length];rfl
  rintro zs H5 ⟨rfl,_,rfl⟩ sl hsl;rw[V3,aT];refine{sl,_,rfl,bo.of ar,?_};have s6:=aN hsl (.lst ((maps.map λx=>((vm fs kept a x.1).length:Int)).map V.int));have mC:=wF.same s6;have kM:=oR.trans (CS.trans (SB.same s6));generalize (upd H5 sl (.lst ((maps.map λx=>((vm fs kept a x.1).length:Int)).map V.int)))=H6 at s6 mC kM⊢;generalize (maps.map λx=>((vm fs kept a x.1).length:Int)).sum=cn;dsimp only[sW];refine IK λNX hNX=>?_;have go:∀(b:Nat)(fw:V)(H7:Hp),b<ats.length->(fw=.cI\/∃c,fw=.int c)->SB td H H7->iI P w K C H7 self dx tb kl md td ex fs kept maps (n+i+1)->NX [some (.ref self),some (.ref l),some (.int b),some fw,some (.int i),some (.ref ap),some (.int cn)] H7:=λb fw H7 hb Wz AL vt=>by
   refine hNX _ _ ?_;obtain⟨qO,Hk,em⟩:=vt.wL;refine{_,rfl,_,rfl,self,C,dx,_,_,rfl,vt.ins,O.c,O.maps,rfl,md,qO,rfl,Hk,_,_,rfl,rfl,_,rfl,?_};refine fZ (λc=>?_) (λc=>?_)
   ·exact{_,rfl,k i H7 bU AL (vt.mono ∅)}
   ·exact⟨b,fw,_,_,_,rfl,AL,vt,hb,Wz⟩
  rcases Wz with rfl|⟨c,rfl⟩
  ·exact{_,rfl,rfl,_,rfl,Ge (Ge {_,rfl,_,rfl,_,_,rfl,go i _ H6 bU (.inr ⟨_,rfl⟩) kM mC})}
  ·refine{_,rfl,rfl,_,rfl,nO {_,rfl,_,rfl,_,_,rfl,rfl,_,rfl,fZ (λc=>?_) (λc=>?_)}}
   ·exact{_,rfl,_,rfl,_,_,rfl,go i _ H6 bU (.inr ⟨_,rfl⟩) kM mC}
   ·exact go b _ H6 hb (.inr ⟨_,rfl⟩) kM mC
 ·rintro Z H2 ⟨b,fw,x4,x5,x6,rfl,ER,qq,hb,Wz⟩;exact{_,rfl,k b H2 hb ER (qq.mono ∅)}
def TF(h:X.K=K:=by rfl):jZ X (binaryOp .Add) (NI K):=h▸Ms
abbrev Bd(fs:List En)(kept:Aah)(a:Str×Aah)(maps:Cm):Cm:=AskP.longer maps (dbT fs a.1) a.2 kept (-45) (gC kept a.2)
def Ua{maps:Cm}(h:maps[i]?=some x):Bd fs kept a (maps.take (i+1))=Bd fs kept a (maps.take i)++(vm fs kept a x.1).map λt=>(x.1++t,x.2):=by unfold Bd AskP.longer;rw[aV,h,bI,Ar,jK,List.flatMap_nil,cu];rfl
def Yg(h:y∈Bd fs kept a maps):∃x∈maps,∃t∈vm fs kept a x.1,y=(x.1++t,x.2):=by unfold Bd AskP.longer at h;obtain⟨x,hx,h⟩:=eC.mp h;obtain⟨t,ht,rfl⟩:=aA.mp h;exact⟨x,hx,t,ht,rfl⟩
def LQ(tb:iT K H p fs)(h:t∈vm fs kept a v):t.length=(gC kept a.2).length/\pK t:=by
 unfold vm AskP.fX at h;obtain⟨r,hr,rfl⟩:=aA.mp h;obtain⟨h1,h2⟩:=bD.mp hr;rw[cE]at h2;have le:r.length=a.2.length:=by have:=h2.1;unfold AskP.mZ at this;rw[cE]at this;exact bw this.1
 obtain⟨_,_,h3⟩:=(tb.good a.1).2 r ((gZ _ _).mp h1);exact{ag _,PQ (λz hz=>lU (h3 z hz)) le λz hz=>(vc (bD.mp hz).1).resolve_left λh=>by cases h}
theorem Ga(tb:iT K H p fs):∀{maps:Cm},(Bd fs kept a maps).length<=9*maps.length
 |[]=>ak _
 |x::maps=>by have h1:=Ga tb (kept:=kept) (a:=a) (maps:=maps);have h2:=LR tb kept a x.1;unfold Bd AskP.longer at h1⊢;unfold vm at h2;rw[jK,aK,ag,bK];lia
def iY(ts:Aah):(dc ts).Nodup:=by
 have gen:∀(l acc:Aah),acc.Nodup->(l.foldl step acc).Nodup:=by
  intro l
  induction l with
  |nil=>intro acc h;exact h
  |cons t l ih=>
   intro acc h;refine ih _ ?_;unfold step;split
   ·split
    ·exact h
    ·next c=>exact fL.mpr {h,fo _ _,λa ha b hb=>by rw[ay.mp hb];exactλz=>c (by rw[<-z];exact ha)}
   ·exact h
 exact gen ts [] .nil
def Lv(ts:Aah)(nd:kept.Nodup):(kept++gC kept ts).Nodup:=
 fL.mpr {nd,(iY ts).sublist (gE),λx hx y hy e=>by have:=(bD.mp hy).2;rw[fJ]at this;exact this (by rw[<-e];exact hx)}
def nM(h:Paired (w6 K H) zs m)(t:eK H H'):Paired (w6 K H') zs m:=by
 induction h with
 |nil=>exact .nil
 |cons h _ ih=>exact .cons (Ju h t) ih
theorem vG:∀{aad m₁:List α}{aac m₂:List β},Paired F aad aac->Paired F m₁ m₂->Paired F (aad++m₁) (aac++m₂)
 |_,_,_,_,.nil,h=>h
 |_,_,_,_,.cons q t,h=>.cons q (vG t h)
def ie.E5(x:ie P w K H av d f)(h:H me=some (.ins C dx l0)):ie P w K H (me::av) d f:=by
 obtain⟨h0,kvs,h1,h2⟩:=x;refine{λz=>?_,kvs,h1,λzs=>(h2 zs).imp id λ⟨l,ys,a,n,b,c⟩=>{l,ys,a,λz=>?_,b,c}}
 ·rcases aG.mp z with z|z
  ·exact h1.E5 (by rw[z];exact h)
  ·exact h0 z
 ·rcases aG.mp z with z|z
  ·rw[z,h]at b;cases b
  ·exact n z
def jB.to(x:jB P w K H td av fs kvs)(t:eK H H')(e:H' td=H td)(h:∀d f,ie P w K H av d f->ie P w K H' av' d f):jB P w K H' td av' fs kvs:=
 {x.at_.tp t e,λa known v q=>by obtain⟨d,e1,e3⟩:=x.all a known v q;exact{d,e1,h _ _ e3}}
inductive PD(P:Program)(w:World)(K:Frag)(C:Addr)(vs:Aao)(H:Hp)(Q:VK)(_x3:XK):Prop
 |mk (self at_ nd dx tb kl md td:Addr) (ex:Aaj) (fs:List En) (kept:Aah) (maps:Cm) (n:Nat) (a:Str×Aah) (need:Str->Bool) (_:vs=[.ref self,.ref at_,.ref nd]) (_:iI P w K C H self dx tb kl md td ex fs kept maps n) (_:ot H (.ref at_) a) (_:FinA a) (_:FP kept maps) (_:kept.length<=90) (_:n<=900000) (_:abC H nd (λz=>need z=true)) (_:nd≠td) (_:(∀b∈ex,b≠td/\∃u,H b=some u)) (_:∀(rK Aa:Addr)(H':Hp),(∀b u,b≠td->b≠self->H b=some u->H' b=some u)->iI P w K C H' self dx tb rK Aa td ex fs ((kept++gC kept a.2).filter need) (AskP.cY (Bd fs kept a maps) (kept++gC kept a.2) ((kept++gC kept a.2).filter need)) (n+1)->Q .cI H')
structure Dk6(P:Program)(w:World)(K:Frag)(mg:Aad)(base:Heap)(C:Addr):Prop where
 iR:rA P w K mg base C 4 "fresh_unknowns" ["self","atom"] (DH P w K C)
 jt:rA P w K mg base C 5 "tails_of_maps" ["self","atom"] (Nz P w K C)
 cY:eG P w K mg base 3 "narrowed" ["counted_maps","unknowns","terms"] (yP P w K)
def nF:cz ["self","atom","needed","bound","longer","counted_map","tails","given","count"] ["self","atom","needed"] (bQ DJ):=jV (-3)
def X2(F:fG K "take" "Asking.take" DJ f fd)(T:Txt K mg)(O:Ex K C)(D:Dk6 P w K mg base C):dh P w K mg base fW 6 f fd ["self","atom","needed"] (PD P w K C):=by
 refine F.ok nF (λ_ _ _ _ h=>by cases h;subst_vars;rfl) (-6);obtain⟨self,at_,nd,dx,tb,kl,md,td,ex,fs,kept,maps,n,a,need,rfl,st,ha,fa,mo,lk,hn,hnd,ndt,hex,k⟩:=h;have hu:=jQ hr;have cC:=O.c;refine{_,(aO (gn 3 nF (d6 Jx (mF (pv 0) rfl) (Mz cC D.iR hr (pv 0) (cH (pv 1)) ∅))) (aO (gn 4 nF (gY jh)) (aO (DS (fg bJ rfl (XR rfl T.HU (fu (GV (mF (pv 0) rfl)) (Mz cC D.jt hr (pv 0) (cH (pv 1)) ∅))) (mE rfl (df (jg 5 nF) (df (jg 6 nF) j6))) (aO (vE (pv 5) (mE rfl (df (oF (i:=7) nF.nd rfl (Or.inr rfl)) (df (oF (i:=8) nF.nd rfl (Or.inr rfl)) j6)))) (aY (kH (mX cQ v9 v8 QA (pv 4) (cH (iz rfl (dy (fs:=["given","count"]) (fr:=[7,8])) (fS (pv 6)) (λ_ _ _ _=>(kh (fu (d6 (TF) (pv 1) (pv 0)) (pv 2)))))))))))) (aO (xQ (pv 0) (wI rfl (dy (fs:=["needed"]) (fr:=[2])) (fS (pv 3)) (λ_ _ _ _=>(Jb (Jr hu (pv 0) (pv 1)))) (λ_ _ _ _=>(pv 0))) rfl) (aY (xQ (pv 0) (cl D.cY hr (pA (pv 4) (pv 3) (mF (pv 0) rfl))) rfl)))))),?_}
 refine{_,rfl,self,C,dx,_,_,rfl,st.ins,O.c,O.kept,rfl,_,rfl,self,dx,_,rfl,st.ins,rfl,_,rfl,self,at_,dx,tb,kl,md,td,ex,fs,kept,maps,n,a,rfl,st,ha,fa,λfr H1 s1 hf0 yp=>?_};have lu:(gC kept a.2).length<=4:=aC (cS _ _) (aC (D6 a.2) fa.1);have lb:(-32).length<=100:=by rw[aK];lia
 refine{kl,fr,_,_,rfl,rfl,s1 _ _ st.xZ,yp,?_,λbd hbd=>?_}
 ·rw[ag,ag,<-aK];exact br (bO ∅)
 have s2:=aN hbd (.lst (kept.map V.str++(gC kept a.2).map V.str));have RF:upd H1 bd (.lst (kept.map V.str++(gC kept a.2).map V.str)) bd=some (.lst ((-32).map V.str)):=by rw[ar,aM]
 have jf:=s1.trans s2;generalize (upd H1 bd (.lst (kept.map V.str++(gC kept a.2).map V.str)))=H2 at s2 RF jf⊢;refine{by show 0<=sizeLine;decide,λlg Ru=>?_};have s3:=aN Ru (-40);have Dd:upd H2 lg (-40) lg=some (.lst []):=ar;have tD:=jf.trans s3;have lg0:=jf.free Ru;have blg:=aW RF Ru;have hb3:=s3 _ _ RF;have qq:=st.same jf;have ur:iI P w K C (upd H2 lg (-40)) self dx tb kl md td (lg::ex) fs kept maps n:=by
  obtain⟨kvs,ck,l⟩:=qq.AD;have c3:jB P w K H2 td (td::md::lg::ex) fs kvs:={ck.at_,λa known v h=>by
   obtain⟨d,e,tv⟩:=ck.all a known v h;exact{d,e,(tv.more Ru).less λb hb=>by simp only[aG]at hb⊢;rcases hb with h|h|h|h<;>simp[h]}}
  have x:=qq.same s3;exact{x.ins,x.tab,x.xZ,x.wL,{kvs,c3.same s3,l},x.nm,x.nt,λz=>(aG.mp z).elim (aW qq.xZ Ru) qq.ke}
 generalize (upd H2 lg (-40))=H3 at s3 Dd tD hb3 ur⊢;obtain⟨nt3,nl3⟩:=ur.Mu;obtain⟨adh,hm3,_⟩:=id ur.wL;have nfz:∀u v,H3 md≠some (.c6 u v):=λu v e=>by rcases hm3.1 with q|⟨_,q⟩<;>rw[e]at q<;>cases q
 refine{md,nfz,?_};refine{_,rfl,self,C,dx,_,_,rfl,ur.ins,O.c,O.maps,rfl,md,adh,rfl,hm3,λvw Q6=>?_};have s4:=aN Q6 (.ext (uH vw md));have yj:upd H3 vw (.ext (uH vw md)) vw=some (.ext (uH vw md)):=ar;have wF:=ur.same s4;have xM:=tD.trans s4;have vtd:vw≠td:=λz=>by obtain⟨_,c,_⟩:=ur.AD;obtain⟨_,h⟩:=c.at_.some;rw[z,h]at Q6;cases Q6
 have tP:=s4 _ _ Dd;have hb4:=s4 _ _ hb3;generalize (upd H3 vw (.ext (uH vw md)))=H4 at s4 yj wF xM tP hb4⊢;obtain⟨nt4,VU⟩:=wF.Mu;refine{_,rfl,self,dx,_,rfl,wF.ins,rfl,_,rfl,self,at_,dx,tb,kl,md,td,lg::ex,fs,kept,maps,n,a,rfl,wF,sY ha xM,fa,mo,by lia,λb hb=>(aG.mp hb).elim (λz=>{.lst [],by rw[z];exact tP}) λz=>{_,xM _ _ (hex b z).2.choose_spec},λtl tys H5 xK Uu Ut oQ m6=>?_};obtain⟨qO,wW,em⟩:=id oQ.wL;obtain⟨um,J5⟩:=wW.some;have qV:=xK _ _ (λz=>VU _ (by rw[<-z];exact tP)) tP;have hb5:=xK _ _ (λz=>VU _ (by rw[<-z];exact hb4)) hb4;have tlg:tl≠lg:=λz=>by rw[z,tP]at Uu;cases Uu
 refine{vw,md,um,tl,qO,tys,rfl,xK _ _ vtd yj,J5,wW,bo.of Ut,λo=>?_};have V3:=bp m6;have QK:qO.length=maps.length:=by have:=cc List.length em;unfold qC at this;rw[ag,ag]at this;exact this
 have GZ:=wW.pV;have uu:SB md H5 (upd H5 md (.c6 o um)):=λb u n e=>by rw[aw n];exact e
 have AB:=uu.tp GZ;have nlm:∀{b:Addr}{l:Aao},H5 b=some (.lst l)->b≠md:=λ{b l} e z=>wW.uQ l (by rw[<-z];exact e);have Dc:=uu _ _ (nlm qV) qV;have aaZ:=uu _ _ (nlm Ut) Ut;have aaY:=Im m6 (λb u n e=>uu b u (λz=>n (by rw[z];exact az _ ax)) e) AB;have wV:upd H5 md (.c6 o um) md=some (.c6 o um):=ar;have gv:∀(i:Nat)(q:NK×Addr×V),qO[i]?=some q->∃x,maps[i]?=some x/\q.2.2=.int x.2/\bx K (upd H5 md (.c6 o um)) q.2.1 (x.1.map V.str):=λi q hq=>by
  have e1:(qC maps)[i]?=some (q.1,q.2.2):=by rw[<-em,aJ,hq];rfl
  unfold qC at e1;rw[aJ]at e1;obtain⟨x,e2,e3⟩:=a9.mp e1;have e4:dY x.1=q.1:=cc Prod.fst e3;have e5:V.int x.2=q.2.2:=cc Prod.snd e3;have:=(wW.2 q (aB hq)).1;rw[<-e4]at this;exact{x,e2,e5.symm,nE (E7 this) AB}
 generalize Fo:upd H5 md (.c6 o um)=Hf at Dc aaZ aaY wV gv AB⊢;have VQ:ij Hf lg:=qt Dc;refine US (K:=K) (d:=md) (l:=tl) (o:=o) (u:=um) (kvs:=qO.map λp=>(V.ref p.2.1,p.2.2)) (ys:=tys)
  (λi Z H6=>∃x5 x6 x7 x8:Aap,Z=[some (.ref self),some (.ref at_),some (.ref nd),some (.ref bd),some (.ref lg),x5,x6,x7,x8]/\i<=maps.length/\SB lg Hf H6/\∃zs,H6 lg=some (.lst zs)/\Paired (w6 K H6) zs (Bd fs kept a (maps.take i))) (by rw[ag,QK,V3])
  {none,none,none,none,rfl,aP _,λ_ _ _ e=>e,[],Dc,.nil} (λi Z H6 _ ⟨_,_,_,_,_,_,sb,_⟩=>{sb _ _ (λz=>by rw[z,Dc]at wV;cases wV) wV,bo.of (sb _ _ tlg aaZ)}) ?_ ?_
 ·rintro i kv y p q Z H6 iD hy ⟨x5,x6,x7,x8,rfl,hi,kM,zs,vQ,Q3⟩ hq hp;rw[aJ]at iD;obtain⟨c,hc,rfl⟩:=a9.mp iD;obtain⟨x,hx,ex,hg⟩:=gv i c hc;have bU:i<maps.length:=(ao.mp hx).1;obtain⟨x',yh,t,zz,rfl,nt',ht,ML⟩:=Paired.at' aaY hy;rw[hx]at yh;cases yh;have acD:t≠lg:=λz=>nt' (by rw[z];simp);dsimp only at hp hq⊢;rw[ex]at hp⊢;have s7:=(aN hq (.tup [V.ref c.2.1,V.int x.2])).trans (aN hp (.tup [V.ref q,V.ref t]));have Rj:upd (upd H6 q (.tup [V.ref c.2.1,V.int x.2])) p (.tup [V.ref q,V.ref t]) q=some (.tup [V.ref c.2.1,V.int x.2]):=(aN hp _) _ _ ar;refine{p,_,rfl,bx.of ar,rfl,_,_,rfl,_,_,rfl,rfl,?_};have AL:=kM.trans (SB.same s7);have yo:=s7 _ _ vQ;have Wd:=nM Q3 (eK.same s7);generalize (upd (upd H6 q (.tup [V.ref c.2.1,V.int x.2])) p (.tup [V.ref q,V.ref t]))=H7 at s7 Rj AL yo Wd⊢;have tp7:=AL.tp VQ;have hg7:=nE hg tp7;have MG:=AL _ _ acD ht;have Hh:=qr ML tp7;have lzz:zz.length=(vm fs kept a x.1).length:=ML.length;have l7:=LR st.tab kept a x.1;refine{_,rfl,q,_,rfl,bx.of Rj,rfl,_,_,rfl,_,_,rfl,rfl,?_};refine{_,rfl,.inl {rfl,_,bo.of yo},_,rfl,t,rfl,{_,bo.of MG},kQ (K:=K) (a:=t) (xs:=zz) (λj ws H8=>bA H7 H8/\j<=zz.length/\Paired (w6 K H8) ws (((vm fs kept a x.1).take j).map λt=>(x.1++t,x.2))) (bO ∅) {λ_ _ e=>e,aP _,.nil} ?_ ?_ ?_}
  ·rintro j ws H8 hj ⟨s8,hj2,hw⟩;refine{bo.of (s8 _ _ MG),?_};rw[bp hw,ag,aL];lia
  ·rintro j v ws H8 N hv ⟨s8,hj,hw⟩ tQ;obtain⟨u,qR,ua,rfl,hua⟩:=Paired.at' (iZ Hh s8) hv;have lX:j<zz.length:=(ao.mp hv).1;refine iy ?_;have hg8:=gP hg7 s8;have fin:∀(r:Addr)(H9:Hp),bA H8 H9->bx K H9 r ((x.1++u).map V.str)->∀w9,H9 w9=none->N (ws++[.ref w9]) (upd H9 w9 (.tup [V.ref r,V.int x.2])):=λr H9 s9 Rh w9 Ac=>by have mW:=s9.trans (aN Ac (.tup [V.ref r,V.int x.2]));refine tQ _ _ {s8.trans mW,lX,?_};rw[aV,qR,bI,aM];exact(nM hw (eK.same mW)).snoc {w9,r,rfl,bx.of ar,gP Rh (aN Ac _)}
   refine{_,rfl,_,rfl,c.2.1,ua,_,_,rfl,rfl,hg8,hua,?_,λe=>?_,λ_ e=>?_,λ_ _ r uz=>?_}
   ·rw[ag,ag];have h1:=(mo.row x (aB hx)).1;have h2:=(LQ st.tab (aB qR)).1;exact br (bO ∅)
   ·have e':x.1=[]:=mS.mp e;exact{_,rfl,by show 2<=sizeLine;decide,λw9 Ac=>fin ua H8 (λ_ _ e=>e) (by rw[e'];exact hua) w9 Ac}
   ·have e':u=[]:=mS.mp e;exact{_,rfl,by show 2<=sizeLine;decide,λw9 Ac=>fin c.2.1 H8 (λ_ _ e=>e) (by rw[e',cu];exact hg8) w9 Ac}
   ·exact{_,rfl,by show 2<=sizeLine;decide,λw9 Ac=>fin r _ (aN uz _) (by rw[aM];exact bx.of ar) w9 Ac}
  rintro ws H8 ⟨s8,_,hw⟩ cl Ag;rw[lzz,aT]at hw;have s9:=s8.trans (aN Ag (.lst ws));have QF:ws.length<=9:=by rw[bp hw,ag];exact l7
  have lzs:zs.length<=9*maps.length:=by rw[bp Q3];refine aC (Ga st.tab) ?_;rw[aL];lia
  have lm:=mo.gD;refine{lg,cl,zs,ws,rfl,rfl,s9 _ _ yo,ar,br (cK (show zs.length+ws.length<=5000000 by lia) (-8)),?_};have t10:eK (upd H8 cl (.lst ws)) (upd (upd H8 cl (.lst ws)) lg (.lst (zs++ws))):=eK.upd (qt (s9 _ _ yo));refine{_,_,_,_,rfl,bU,λb u n e=>?_,_,ar,?_}
  ·rw[aw n];exact s9 _ _ (AL _ _ n e)
  ·rw[Ua hx];exact vG (nM Wd ((eK.same s9).trans t10)) (nM hw ((eK.same (aN Ag (.lst ws))).trans t10))
 ·rintro Z H6 ⟨x5,x6,x7,x8,rfl,_,kM,zs,vQ,Q3⟩;rw[ag,QK,aT]at Q3;have mlg:md≠lg:=λz=>by rw[z,Dc]at wV;cases wV
  have hm6:=kM _ _ mlg wV;refine{o,um,hm6,?_};have K5:SB lg H5 (upd H6 md um):=λb u n e=>by
   by_cases z:b=md
   ·rw[z,J5]at e;cases e;rw[z,ar]
   ·rw[aw z];exact kM _ _ n (by rw[<-Fo,aw z];exact e)
  have nt6:ij H6 md:=λxs q=>by rcases q with q|⟨o',q⟩<;>rw[hm6]at q<;>cases q;exact GZ xs (.inl J5)
  have Kl:upd H6 md um lg=some (.lst zs):=by rw[aw (bV mlg)];exact vQ
  have uw:=nM Q3 (eK.upd (o:=um) nt6);have SR:=K5.tp (qt qV);generalize (upd H6 md um)=H9 at K5 Kl uw SR⊢;have hb9:=K5 _ _ blg hb5;have K0:SB td H H9:=λb u n e=>K5 _ _ (λz=>by rw[z,lg0]at e;cases e) (xK _ _ n (xM _ _ e));obtain⟨nt0,nl0⟩:=st.Mu;have acE:=st.tab.sb K0 nt0 nl0 st.nt;obtain⟨kvd,Oq,aa7⟩:=hnd;have ad6:=K0 _ _ ndt Oq;have aaK:=K5 _ _ (λz=>by have q:=oQ.ins;rw[z,qV]at q;cases q) oQ.ins;obtain⟨V5,c5,lc⟩:=oQ.AD;have acC:td≠lg:=λz=>c5.at_.uQ _ (by rw[z];exact qV);have c9:jB P w K H9 td (self::td::md::lg::ex) fs V5:=by refine c5.to SR ?_ λd f tv=>(tv.fr (λb u n e=>K5 _ _ (λz=>n (by rw[z];simp)) e) SR).E5 aaK;obtain⟨u,h⟩:=c5.at_.some;rw[h,K5 _ _ acC h]
  have lbd:((-32).map V.str).length=(-32).length:=ag _;refine{_,rfl,bd,rfl,{_,bo.of hb9},kQ (K:=K) (a:=bd) (xs:=(-32).map V.str) (λj ws wk=>wk=H9/\j<=(-32).length/\ws=(((-32).take j).filter need).map V.str) (by rw[lbd];exact bO ∅) {rfl,aP _,rfl} ?_ ?_ ?_}
  ·rintro j ws wk hj ⟨rfl,_,rfl⟩;refine{bo.of hb9,?_};rw[ag];exact aC (cS _ _) (by rw[aL];lia)
  ·rintro j v ws wk N hv ⟨rfl,hj,rfl⟩ tQ;obtain⟨z,hz,rfl⟩:=iA hv;have lX:j<(-32).length:=(ao.mp hz).1;refine{_,rfl,_,rfl,nd,_,rfl,kF.k (k:=Sum.inr z) ad6,_,rfl,?_};have en:((-32).take (j+1)).filter need=((-32).take j).filter need++if need z=true then[z]else[]:=by rw[aV,hz,bI,gc];congr 1;cases c:need z<;>simp[c]
   refine fZ (λc=>{_,rfl,tQ _ _ {rfl,lX,?_}}) (λc=>tQ _ _ {rfl,lX,?_})
   ·rw[en,aD ((aa7 z).mp c),aM];rfl
   ·rw[en,au (λq=>c ((aa7 z).mpr q)),cu]
  rintro ws wk ⟨rfl,_,rfl⟩ rK UH;rw[lbd,aT];generalize Hl:(-32).filter need=kp;have mW:=aN UH (.lst (kp.map V.str));have UI:upd wk rK (.lst (kp.map V.str)) rK=some (.lst (kp.map V.str)):=ar;have wO:=mW _ _ aaK;have Nx:=acE.same mW;have WW:=c9.same mW;have Gg:=mW _ _ Kl;have UL:=mW _ _ hb9;have Oi:=nM uw (eK.same mW);have W3:SB td H (upd wk rK (.lst (kp.map V.str))):=K0.trans (SB.same mW);generalize (upd wk rK (.lst (kp.map V.str)))=FQ at mW UI wO Nx WW Gg UL Oi W3⊢;refine{_,rfl,self,C,dx,_,rfl,wO,O.c,O.kept,by show 4<1000;decide,?_};have aav:∀{b:Addr}{u:HO},FQ b=some u->(∀l,u≠ .ins C dx l)->b≠self:=λ{b u} e n z=>by rw[z,wO]at e;cases e;exact n _ rfl
  have ntS:ij FQ self:=A7 wO;have nlS:∀l,FQ self≠some (.lst l):=λl e=>by rw[wO]at e;cases e
  have KS:SB self FQ (upd FQ self (-33)):=λb u n e=>by rw[aw n];exact e
  have Og:upd FQ self (-33) self=some (.ins C dx [("tables",.ref tb),("kept",.ref rK),("maps",.ref md),("tails",.ref td)]):=by rw[ar];rfl
  generalize (upd FQ self (-33))=H12 at KS Og⊢;have tpS:=KS.tp ntS;have nL:∀{b:Addr}{l:Aao},FQ b=some (.lst l)->b≠self:=λ{b l} e z=>nlS l (by rw[<-z];exact e);have Io:tb≠self:=λz=>by rw[<-z,Nx.at_]at wO;cases wO
  have abK:=Nx.sb KS ntS nlS Io;have Vv:td≠self:=λz=>WW.at_.E5 (by rw[z];exact wO);have WV:jB P w K H12 td (self::td::md::lg::ex) fs V5:=by refine WW.fr (λb u n e=>KS _ _ (λz=>n (by rw[z];simp)) e) tpS ?_;obtain⟨u,h⟩:=WW.at_.some;rw[h,KS _ _ Vv h]
  have abe:=KS _ _ (nL UI) UI;have ad9:=KS _ _ (nL Gg) Gg;have aeg:=KS _ _ (nL UL) UL;have Uq:=nM Oi tpS;have lkp:kp.length<=100:=by rw[<-Hl];exact aC (cS _ _) lb
  have skb:pK (-32):=λz hz=>by
   rcases aS.mp hz with hz|hz
   ·exact mo.sok z hz
   ·exact fa.2.2.1 z ((vc (bD.mp hz).1).resolve_left λh=>by cases h)
  have skp:pK kp:=λz hz=>by rw[<-Hl]at hz;exact skb z (bD.mp hz).1
  have lm:=mo.gD;refine{_,rfl,_,rfl,_,rfl,self,C,dx,_,_,rfl,Og,O.c,O.kept,rfl,lg,bd,rK,zs,Bd fs kept a maps,kept++gC kept a.2,kp,rfl,bo.of ad9,Uq,bo.of aeg,Lv a.2 mo.nd,lb,.inl (bo.of abe),lkp,skp,λy hy=>?_,aC (Ga st.tab) ∅,λAa BY ES Kj rc=>?_}
  ·obtain⟨x,hx,t,ht,rfl⟩:=Yg hy;obtain⟨g1,g2⟩:=mo.row x hx;obtain⟨g3,g4⟩:=LQ st.tab ht;refine{by rw[aK,aK,g1,g3],λz hz=>?_};rcases aS.mp hz with hz|hz
   ·exact g2 z hz
   ·exact g4 z hz
  have Oh:=ES _ _ Og;refine{_,rfl,self,C,dx,_,rfl,Oh,O.c,O.maps,by show 4<1000;decide,?_};have KF:SB self BY (upd BY self (-34)):=λb u n e=>by rw[aw n];exact e
  have aaJ:upd BY self (-34) self=some (.ins C dx [("tables",.ref tb),("kept",.ref rK),("maps",.ref Aa),("tails",.ref td)]):=by rw[ar];rfl
  generalize (upd BY self (-34))=HF at KF aaJ⊢;have ntF:ij BY self:=A7 Oh;have nlF:∀l,BY self≠some (.lst l):=λl e=>by rw[Oh]at e;cases e
  have tpF:=KF.tp ntF;have m2s:Aa≠self:=λz=>by rw[z,Og]at Kj;cases Kj
  have m2t:Aa≠td:=λz=>by obtain⟨u,h⟩:=WV.at_.some;rw[z,h]at Kj;cases Kj
  have abd:=ES _ _ abe;have cF:jB P w K HF td (td::Aa::ex) fs V5:=by
   have e13:BY td=H12 td:=by obtain⟨u,h⟩:=WV.at_.some;rw[h,ES _ _ h]
   have eF:HF td=BY td:=by obtain⟨u,h⟩:=WV.at_.some;rw[e13,h,KF _ _ Vv (by rw[e13];exact h)]
   refine WV.to ((eK.same ES).trans tpF) (by rw[eF,e13]) λd f tv=>(((tv.more Kj).same ES).fr (λb u n e=>KF _ _ (λz=>n (by rw[z];simp)) e) tpF).less λb hb=>?_;simp only[aG]at hb⊢;rcases hb with h|h|h<;>simp[h]
  refine k rK Aa HF (λb u n1 n2 e=>?_) {aaJ,(abK.same ES).sb KF ntF nlF Io,?_,?_,⟨V5,cF,lc⟩,m2t,st.nt,λz=>?_}
  ·exact KF _ _ n2 (ES _ _ (KS _ _ n2 (W3 _ _ n1 e)))
  ·rw[Hl];exact KF _ _ (λz=>nlF _ (by rw[<-z];exact abd)) abd
  ·rw[Hl];exact rc.c.sb KF ntF m2s
  ·obtain⟨n,u,e⟩:=hex _ z;rw[K0 _ _ n e]at UH;cases UH
inductive IC(P:Program)(w:World)(K:Frag)(C:Addr)(vs:Aao)(H:Hp)(Q:VK)(_x3:XK):Prop
 |mk (self tb dx:Addr) (fs:List En) (_:vs=[.ref self,.ref tb]) (_:H self=some (.ins C dx [])) (_:iT K H tb fs) (_:∀(kl md td:Addr)(H':Hp),SB self H H'->H td=none->iI P w K C H' self dx tb kl md td [] fs [] [([],1)] 0->Q .cI H')
def HJ:cz ["self","tables"] ["self","tables"] (bQ vy):=jV (-3)
def TM(F:fG K "__init__" "Asking.__init__" vy f fd)(T:Txt K mg)(O:Ex K C):dh P w K mg base fW 1 f fd ["self","tables"] (IC P w K C):=by
 refine F.ok HJ (λ_ _ _ _ h=>by cases h;subst_vars;rfl) (-6);obtain⟨self,tb,dx,fs,rfl,hs,tab,k⟩:=h;have hN:=wX hr;refine{_,(aO (xQ (pv 0) (pv 1) rfl) (aO (xQ (pv 0) (gY jh) rfl) (aO (xQ (pv 0) (Qe hN (se (kh jh) bg Mi) rfl rfl (-9) (by show 1<=15;decide)) rfl) (aY (xQ (pv 0) mh rfl))))),?_}
 have CY:∀{H:Hp}{l:List (Str×V)},H self=some (.ins C dx l)->ij H self/\(∀q,H self≠some (.lst q)):=λe=>{A7 e,λq e'=>by rw[e]at e';cases e'};have up:∀{H:Hp}{o:HO},SB self H (upd H self o):=λb u n e=>by rw[aw n];exact e
 have Io:tb≠self:=λz=>by rw[<-z,tab.at_]at hs;cases hs
 refine{_,rfl,_,rfl,self,C,dx,[],rfl,hs,O.c,O.tables,by decide,?_};have Zv:=tab.sb (up (o:=.ins C dx (fB "tables" (.ref tb) []))) (CY hs).1 (CY hs).2 Io;have sb1:SB self H (upd H self (.ins C dx (fB "tables" (.ref tb) []))):=up;have wR:upd H self (.ins C dx (fB "tables" (.ref tb) [])) self=some (.ins C dx [("tables",.ref tb)]):=ar;generalize (upd H self (.ins C dx (fB "tables" (.ref tb) [])))=H1 at Zv sb1 wR⊢;refine{by show 0<=sizeLine;decide,λkl hkl=>?_};have s2:=aN hkl (-40);have hk2:upd H1 kl (-40) kl=some (.lst []):=ar;have Zr:=Zv.same s2;have ER:=sb1.trans (SB.same s2);have kN:=s2 _ _ wR;generalize (upd H1 kl (-40))=H2 at s2 hk2 Zr ER kN⊢;refine{_,rfl,self,C,dx,_,rfl,kN,O.c,O.kept,by show 1<1000;decide,?_};have SW:=Zr.sb (up (o:=.ins C dx (-64))) (CY kN).1 (CY kN).2 Io;have oR:=ER.trans (up (o:=.ins C dx (-64)));have kls:kl≠self:=λz=>by rw[<-z,hk2]at kN;cases kN
 have hk3:=(up (o:=.ins C dx (-64))) _ _ kls hk2;have Kf:upd H2 self (.ins C dx (-64)) self=some (.ins C dx [("tables",.ref tb),("kept",.ref kl)]):=by rw[ar];rfl
 generalize (upd H2 self (.ins C dx (-64)))=H3 at SW oR hk3 Kf⊢;intro md hmd;have s4:=aN hmd (.dK []);have Kk:upd H3 md (.dK []) md=some (.dK []):=ar;generalize (upd H3 md (.dK []))=H4 at s4 Kk⊢;refine{by show 0<=sizeLine;decide,λe he=>?_};have s5:=aN he (.tup ([]:Aao));have RD:upd H4 e (.tup ([]:Aao)) e=some (.tup []):=ar;generalize (upd H4 e (.tup ([]:Aao)))=H5 at s5 RD⊢;have key:jm K H5 (dY []) e:=sf (bx.of RD) λz hz=>by cases hz
 have wW:=s5 _ _ Kk;refine{e,dY [],.int 1,rfl,key,wW,?_};have VI:=s4.trans s5;have um:SB md H5 (-46):=λb u n q=>by rw[aw n];exact q
 have GZ:ij H5 md:=zf wW;have nm:∀{b:Addr}{u:HO},H3 b=some u->b≠md:=λe z=>by rw[z,hmd]at e;cases e
 have Zq:iT K (-46) tb fs:=(SW.same VI).sb um GZ (λl q=>by rw[wW]at q;cases q) (nm SW.at_);have MS:=um _ _ (nm hk3) (VI _ _ hk3);have Rf:=um _ _ (nm Kf) (VI _ _ Kf);have rc6:RowC P w K (-46) md [([],1)]:={[(dY [],e,.int 1)],{.inl ar,λp hp=>by cases ay.mp hp;exact ya key (um.tp GZ)},rfl}
 have kM:SB self H (-46):=λb u n q=>um _ _ (nm (oR _ _ n q)) (VI _ _ (oR _ _ n q));generalize hH6:(upd H5 md (.ext (DN _ _ md _)))=H6;have e6:(-46)=H6:=hH6;rw[e6]at Zq MS Rf rc6 kM;clear hH6 e6 um;refine{_,rfl,self,C,dx,_,rfl,Rf,O.c,O.maps,by show 2<1000;decide,?_};have ms:md≠self:=bV (nm Kf);have SV:=Zq.sb (up (o:=.ins C dx (-22))) (CY Rf).1 (CY Rf).2 Io;have AL:=kM.trans (up (o:=.ins C dx (-22)));have hk7:=(up (o:=.ins C dx (-22))) _ _ kls MS;have ZY:=rc6.sb (up (o:=.ins C dx (-22))) (CY Rf).1 ms;have Wr:upd H6 self (.ins C dx (-22)) self=some (.ins C dx [("tables",.ref tb),("kept",.ref kl),("maps",.ref md)]):=by rw[ar];rfl
 generalize (upd H6 self (.ins C dx (-22)))=H7 at SV AL hk7 ZY Wr⊢;intro td C7;have s8:=aN C7 (.dK []);have Kc:upd H7 td (.dK []) td=some (.dK []):=ar;have Rc:=s8 _ _ Wr;have nt:∀{b:Addr}{u:HO},H7 b=some u->b≠td:=λe z=>by rw[z,C7]at e;cases e
 have h0:H td=none:=by
  cases q:H td with
  |none=>rfl
  |some u=>rw[AL _ _ (λz=>by rw[z,Wr]at C7;cases C7) q]at C7;cases C7
 generalize (upd H7 td (.dK []))=H8 at s8 Kc Rc⊢;refine{_,rfl,self,C,dx,_,rfl,Rc,O.c,O.fX,by show 3<1000;decide,?_};have us:=up (H:=H8) (o:=.ins C dx (fB "tails" (.ref td) [("tables",.ref tb),("kept",.ref kl),("maps",.ref md)]));have Vv:td≠self:=bV (nt Wr);have mt:md≠td:=by obtain⟨_,h,_⟩:=ZY;obtain⟨_,h⟩:=h.some;exact nt h
 refine k kl md td _ (AL.trans ((SB.same s8).trans us)) h0 {by rw[ar];rfl,(SV.same s8).sb us (CY Rc).1 (CY Rc).2 Io,us _ _ kls (s8 _ _ hk7),(ZY.same s8).sb us (CY Rc).1 ms,{[],{Cr (us _ _ Vv Kc),λa known v h=>by cases h},ak _},mt,nt SV.at_,λz=>by cases z}
end
end lY
namespace AskP
section
variable{α:Type}[DecidableEq α]
def dX{β:Type}(l:List β)(f:β->Int):Int:=(l.map f).sum
def de{β:Type}{x:β}{l:List β}{f:β->Int}:dX (x::l) f=f x+dX l f:=by unfold dX;rw[aR,List.sum_cons]
def hU{β:Type}{l:List β}{f g:β->Int}(h:∀x∈l,f x=g x):dX l f=dX l g:=by unfold dX;rw[bH h]
def yN{β γ:Type}{l:List β}{k:β->γ}{f:γ->Int}:dX (l.map k) f=dX l λx=>f (k x):=by unfold dX;rw[bX];rfl
def Iw{β:Type}{l m:List β}{f:β->Int}:dX (l++m) f=dX l f+dX m f:=by unfold dX;rw[aM,List.sum_append]
def GH{β γ:Type}{l:List β}{k:β->List γ}{f:γ->Int}:dX (l.flatMap k) f=dX l λx=>dX (k x) f:=by
 induction l with
 |nil=>rfl
 |cons x l ih=>rw[jK,Iw,ih,de]
def DF{β:Type}{l:List β}{f:β->Int}{c:Int}:dX l (λx=>c*f x)=c*dX l f:=by
 induction l with
 |nil=>exact(BW c).symm
 |cons x l ih=>rw[de,ih,de,Int.mul_add]
def S7{β:Type}{l:List β}{f g:β->Int}:dX l (λx=>f x+g x)=dX l f+dX l g:=by
 induction l with
 |nil=>rfl
 |cons x l ih=>rw[de,ih,de,de];lia
def Px{β:Type}{l m:List β}{f:β->Int}(h:l.Perm m):dX l f=dX m f:=by
 induction h with
 |nil=>rfl
 |cons x _ ih=>rw[de,de,ih]
 |swap x y l=>rw[de,de,de,de];lia
 |trans _ _ a b=>exact a.trans b
abbrev ind(p:Prop)[Decidable p]:Int:=if p then 1 else 0
def vk(m:List (-73))(r:Rw α):Int:=dX m λx=>if x.1=r then x.2 else 0
def Zp{m:List (-73)}{r:Rw α}(h:r∉m.map (·.1)):vk m r=0:=by
 induction m with
 |nil=>rfl
 |cons x m ih=>
  rw[aR,aG,not_or]at h;unfold vk at ih⊢;rw[de,ih h.2,au λz=>h.1 z.symm];rfl
def FU{m:List (-73)}{x:Rw α×Int}(nd:(m.map (·.1)).Nodup)(h:x∈m):vk m x.1=x.2:=by
 induction m with
 |nil=>cases h
 |cons y m ih=>
  rw[aR,cU]at nd;unfold vk at ih⊢;rw[de];rcases aG.mp h with rfl|h
  ·have:=Zp nd.1;unfold vk at this;rw[this,aD rfl,wj]
  ·rw[ih nd.2 h,au λz=>nd.1 (aA.mpr {x,h,z.symm}),rC]
theorem Pq{r q:Rw α}{c:Int}:∀{m:List (-73)},(m.map (·.1)).Nodup->r∈m.map (·.1)->vk (m.map λx=>if x.1=r then(x.1,x.2+c)else x) q=vk m q+if r=q then c else 0
 |[],_,h=>by cases h
 |x::m,nd,h=>by
  rw[aR,cU]at nd;by_cases e:x.1=r
  ·have n1:(m.map λx=>if x.1=r then(x.1,x.2+c)else x)=m:=(bH λy hy=>au λz=>nd.1 (aA.mpr {y,hy,z.trans e.symm})).trans (List.map_id m);unfold vk;rw[aR,de,n1,de,aD e];by_cases f:r=q
   ·rw[aD (e.trans f),aD (e.trans f),aD f];dsimp only;lia
   ·rw[au λz=>f (e.symm.trans z),au λz=>f (e.symm.trans z),au f];lia
  ·have i:=Pq (q:=q) (c:=c) nd.2 ((aG.mp h).resolve_left λz=>e z.symm);unfold vk at i⊢;rw[aR,de,i,de,au e];lia
def SU{m:List (-73)}{r q:Rw α}{c:Int}(nd:(m.map (·.1)).Nodup):vk (qg m r c) q=vk m q+if r=q then c else 0:=by
 unfold qg;split
 ·next h=>exact Pq nd h
 ·unfold vk;rw[Iw,de];exact cc _ (wj _)
def vj{xs ts:List α}{q:Rw α}{l:List (-73)}:vk (cY l xs ts) q=dX l λx=>if image xs x.1 ts=q then x.2 else 0:=by
 unfold cY
 suffices H:∀m:List (-73),(m.map (·.1)).Nodup->vk (l.foldl (λm x=>qg m (image xs x.1 ts) x.2) m) q=vk m q+dX l λx=>if image xs x.1 ts=q then x.2 else 0 from(H [] .nil).trans (rC _)
 induction l with
 |nil=>intro m _;exact(wj _).symm
 |cons x l ih=>
  intro m nd;rw[jA,ih _ (FL nd),SU nd,de,Int.add_assoc]
def group{β:Type}{L:List β}{κ:β->Rw α}{maps:List (-73)}(nd:(maps.map (·.1)).Nodup)(hm:∀v∈L,κ v∈maps.map (·.1))(hc:∀x∈maps,x.2=dX L λv=>ind (κ v=x.1))(N:Rw α->Int):dX maps (λx=>x.2*N x.1)=dX L λv=>N (κ v):=by
 rw[hU (g:=λx=>dX L (λv=>ind (κ v=x.1))*N x.1) λx hx=>by rw[hc x hx]];clear hc
 induction L with
 |nil=>exact(hU (g:=λx=>0*0) λx _=>oq _).trans (DF.trans (oq _))
 |cons v L ih=>
  rw[de,<-ih λu hu=>hm u (az _ hu),hU (g:=λx=>ind (κ v=x.1)*N x.1+dX L (λv=>ind (κ v=x.1))*N x.1) λx _=>by rw[de,Int.add_mul],S7];congr 1;have h:=hm v ax;clear ih hm
  induction maps with
  |nil=>cases h
  |cons x m ih=>
   rw[aR,cU]at nd;rw[de];by_cases e:κ v=x.1
   ·have z:dX m (λx=>ind (κ v=x.1)*N x.1)=0:=(hU (g:=λx=>0*0) λy hy=>by rw[show ind (κ v=y.1)=0 from au λz=>nd.1 (aA.mpr {y,hy,z.symm.trans e}),oq,oq]).trans (DF.trans (oq _));rw[z,show ind (κ v=x.1)=1 from aD e,e,Int.one_mul,wj]
   ·rw[ih nd.2 ((aG.mp h).resolve_left e),show ind (κ v=x.1)=0 from au e,oq,rC]
def zo{xs v:List α}(nd:xs.Nodup)(h:v.length=xs.length):image xs v xs=v:=by
 unfold image;refine wg (by rw[ag,h]) λi h1 h2=>?_;have hi:i<xs.length:=by lia
 have:xs.idxOf xs[i]=i:=nd.idxOf_getElem i hi;rw[qm];unfold gH;rw[aD (iV hi),this,cq,aq h2];rfl
def La{rows:List (Rw α)}{ts known fresh:List α}{key:Rw α}(nd:rows.Nodup)(h:∀t∈ts,t∈known\/t∈fresh):(fX rows ts known fresh key).Nodup:=by
 unfold fX;refine fK.mpr (kz (R:=λa b=>a≠b) (λ{a b} ha hb ne e=>ne ?_) (lR gE nd));have ha:=(bD.mp ha).2;have hb:=(bD.mp hb).2;rw[cE,fJ]at ha hb;rw[<-F9 ha.1,<-F9 hb.1];refine bH λt ht=>?_;rcases h t ht with q|q
 ·exact o8.mp (ha.2.trans hb.2.symm) t q
 ·exact o8.mp e t q
structure lT(un:α->Bool)(db:α->List (Rw α))(S:List (rF α))(kept:List α)(maps:List (-73))(bs:List α)(L:List (Rw α)):Prop where
 bt:∀t,t∈bs↔un t=true/\∃b∈S,t∈b.2
 bn:bs.Nodup
 ln:L.Nodup
 lm:∀v,v∈L↔∃g,kC un db S g/\v=bs.map g
 ct:∀x∈maps,x.2=dX L λv=>ind (image bs v kept=x.1)
variable{un:α->Bool}{db:α->List (Rw α)}{atoms:List (rF α)}{head:List α}{S left:List (rF α)}{kept:List α}{maps:List (Rw α×Int)}{bs:List α}{L:List (Rw α)}
def lT.start:lT un db [] [] [([],1)] [] [[]]:={λt=>{λh=>(by cases h),λ⟨_,b,hb,_⟩=>(by cases hb)},.nil,fo _ _,λv=>{λh=>{id,{λ_ _=>rfl,λa ha=>by cases ha},ay.mp h},λ⟨_,_,e⟩=>ay.mpr e},λx hx=>by rw[ay.mp hx];rfl}
def lT.im(G:lT un db S kept maps bs L){g:α->α}(hg:kC un db S g){ts:List α}(h:∀t∈ts,un t=true->t∈bs):image bs (bs.map g) ts=ts.map g:=jj λt ht c=>by
 cases e:un t with
 |false=>exact hg.1 t e
 |true=>exact absurd (h t ht e) c
def lT.step{a:rF α}{known fresh kept':List α}(G:lT un db S kept maps bs L)(kp:Kp un db S kept maps)(md:(maps.map (·.1)).Nodup)(rn:(db a.1).Nodup)(kb:∀t∈kept,t∈bs)(hs:∀b∈S,∀t∈b.2,t∈a.2->un t=true->t∈kept)
  (hf:∀t,t∈fresh↔t∈a.2/\un t=true/\t∉kept) (fn:fresh.Nodup) (hk:known=a.2.filter (λt=>decide (t∉fresh))) (h':∀t∈kept',t∈kept++fresh):
  ∃L',lT un db (a::S) kept' (cY (-60) (kept++fresh) kept') (bs++fresh) L':=by
 have kn:∀t,t∈known↔t∈a.2/\t∉fresh:=λt=>by rw[hk,bD,fJ]
 have bf:∀t∈fresh,t∉bs:=λt ht z=>by obtain⟨_,b,hb,q⟩:=(G.bt t).mp z;obtain⟨h1,h2,h3⟩:=(hf t).mp ht;exact h3 (hs b hb t q h1 h2)
 have vS:∀t,t∈fresh↔t∈a.2/\un t=true/\t∉bs:=λt=>{λz=>{((hf t).mp z).1,((hf t).mp z).2.1,bf t z},λ⟨z1,z2,z3⟩=>(hf t).mpr {z1,z2,λz=>z3 (kb t z)}};have JH:(bs++fresh).Nodup:=fL.mpr {G.bn,fn,λx hx y hy e=>bf y hy (e▸hx)};have kb2:∀t∈known,un t=true->t∈kept:=λt ht u=>by obtain⟨z1,z2⟩:=(kn t).mp ht;exact ng λc=>z2 ((hf t).mpr ⟨z1,u,c⟩)
 have ik:∀{g:α->α},kC un db S g->image kept (kept.map g) known=known.map g:=λhg=>jj λt ht c=>by
  cases e:un t with
  |false=>exact hg.1 t e
  |true=>exact absurd (kb2 t ht e) c
 have ib:∀{g:α->α},kC un db S g->image bs (bs.map g) known=known.map g:=λhg=>G.im hg λt ht u=>kb t (kb2 t ht u);have Q1:∀{g:α->α},kC un db S g->image bs (bs.map g) kept=kept.map g:=λhg=>G.im hg λt ht _=>kb t ht
 let T:Rw α->List (Rw α):=λkey=>fX (db a.1) a.2 known fresh key
 let L':List (Rw α):=L.flatMap λv=>(T (image bs v known)).map λt=>v++t
 have Ud:∀v∈L,v.length=bs.length:=λv hv=>by obtain⟨g,_,e⟩:=(G.lm v).mp hv;rw[e,ag]
 have ade:∀{key t:Rw α},t∈T key->t.length=fresh.length:=λh=>by obtain⟨r,_,e⟩:=aA.mp h;rw[<-e,ag]
 have mL:∀v,v∈L'↔∃g,kC un db (a::S) g/\v=(bs++fresh).map g:=λv=>by
  have K:=LU (maps:=L.map λv=>(v,(0:Int))) (a:=a) (kept':=bs++fresh) (known:=known) (fresh:=fresh) (kept:=bs) (un:=un) (db:=db) (S:=S)
   (λv=>by rw[bX,show((λx:Rw α×Int=>x.1)∘λv=>(v,(0:Int)))=id from rfl,List.map_id];exact G.lm v) vS hk (λt ht=>((G.bt t).mp ht).1) (λb hb t ht _ u=>(G.bt t).mpr ⟨u,b,hb,ht⟩) (λt ht=>ht)
  rw[<-K v,pW];have e:∀x∈longer (L.map λv=>(v,(0:Int))) (db a.1) a.2 bs known fresh,image (bs++fresh) x.1 (bs++fresh)=x.1:=λx hx=>by obtain⟨y,hy,hx⟩:=eC.mp hx;obtain⟨u,hu,rfl⟩:=aA.mp hy;obtain⟨t,ht,rfl⟩:=aA.mp hx;exact zo JH (by rw[aK,aK,Ud u hu,ade ht])
  constructor
  ·intro h;obtain⟨u,hu,h⟩:=eC.mp h;obtain⟨t,ht,rfl⟩:=aA.mp h;have m:(u++t,(0:Int))∈longer (L.map λv=>(v,(0:Int))) (db a.1) a.2 bs known fresh:=eC.mpr {(u,0),aA.mpr ⟨u,hu,rfl⟩,aA.mpr ⟨t,ht,rfl⟩};exact{_,m,(e _ m).symm}
  ·rintro⟨x,hx,rfl⟩;rw[e x hx];obtain⟨y,hy,hx⟩:=eC.mp hx;obtain⟨u,hu,rfl⟩:=aA.mp hy;obtain⟨t,ht,rfl⟩:=aA.mp hx;exact eC.mpr {u,hu,aA.mpr ⟨t,ht,rfl⟩}
 refine{L',λt=>?_,JH,?_,mL,λx hx=>?_}
 ·rw[aS,G.bt,hf];constructor
  ·rintro(⟨u,b,hb,q⟩|⟨q,u,_⟩)
   ·exact{u,b,az _ hb,q}
   ·exact⟨u,a,ax,q⟩
  ·rintro⟨u,b,hb,q⟩;rcases aG.mp hb with rfl|hb
   ·by_cases c:t∈kept
    ·exact .inl ((G.bt t).mp (kb t c))
    ·exact .inr ⟨q,u,c⟩
   ·exact .inl ⟨u,b,hb,q⟩
 ·refine yD.mpr {λv _=>fK.mpr ((La rn λt ht=>(Decidable.em (t∈fresh)).symm.imp (λc=>(kn t).mpr ⟨ht,c⟩) id).imp λne e=>ne (wA e)),kz (λ{u v} hu hv ne x hx y hy e=>ne ?_) G.ln};obtain⟨t,_,rfl⟩:=aA.mp hx;obtain⟨t',_,rfl⟩:=aA.mp hy;exact(List.append_inj e ((Ud u hu).trans (Ud v hv).symm)).1
 ·rw[<-FU iQ hx,vj];generalize x.1=r
  let N:Rw α->Int:=λy=>dX (T (image kept y known)) λt=>ind (image (kept++fresh) (y++t) kept'=r)
  have e1:(dX (-60) λx=>if image (kept++fresh) x.1 kept'=r then x.2 else 0)=dX maps λx=>x.2*N x.1:=by
   unfold longer;rw[GH];refine hU λy _=>?_;rw[yN,<-DF];refine hU λt _=>?_;show(if image (kept++fresh) (y.1++t) kept'=r then y.2 else 0)=y.2*ind _;split
   ·exact(DC _).symm
   ·exact(BW _).symm
  rw[e1,group md (κ:=λv=>image bs v kept) (λv hv=>?_) G.ct N,GH]
  ·refine hU λv hv=>?_;obtain⟨g,hg,rfl⟩:=(G.lm v).mp hv;show N (image bs (bs.map g) kept)=_;rw[Q1 hg,yN,ib hg];show(dX (T (image kept (kept.map g) known)) λt=>ind (image (kept++fresh) (kept.map g++t) kept'=r))=_;rw[ik hg];refine hU λt ht=>?_;obtain⟨q,_,rfl⟩:=aA.mp ht
   let g2:α->α:=λt=>if t∈fresh then atT q a.2 t else g t
   have z1:kept.map g=kept.map g2:=bH λt ht=>(au λz=>bf t z (kb t ht)).symm;have z2:bs.map g=bs.map g2:=bH λt ht=>(au λz=>bf t z ht).symm;have z3:fresh.map (atT q a.2)=fresh.map g2:=bH λt ht=>(aD ht).symm;have z4:image (kept++fresh) (kept.map g++fresh.map (atT q a.2)) kept'=kept'.map g2:=by rw[z1,z3,<-aM];exact jj λt ht c=>absurd (h' t ht) c
   have z5:image (bs++fresh) (bs.map g++fresh.map (atT q a.2)) kept'=kept'.map g2:=by rw[z2,z3,<-aM];exact jj λt ht c=>absurd ((aS.mp (h' t ht)).elim (λz=>aS.mpr (.inl (kb t z))) λz=>aS.mpr (.inr z)) c
   rw[z4,z5]
  ·obtain⟨g,hg,rfl⟩:=(G.lm v).mp hv;show image bs (bs.map g) kept∈_;rw[Q1 hg];exact(kp _).mpr ⟨g,hg,rfl⟩
def lT.end_(G:lT un db S kept maps bs L)(kp:Kp un db S kept maps)(md:(maps.map (·.1)).Nodup)(kb:∀t∈kept,t∈bs)(hh:∀t∈head,un t=true->t∈kept){x:Rw α×Int}(hx:x∈cY maps kept head):x.2=dX L λv=>ind (image bs v head=x.1):=by
 have Q1:∀{g:α->α},kC un db S g->image bs (bs.map g) kept=kept.map g:=λhg=>G.im hg λt ht _=>kb t ht;rw[<-FU iQ hx,vj];generalize x.1=r;rw[hU (g:=λx=>x.2*ind (image kept x.1 head=r)) λy _=>?_,group md (κ:=λv=>image bs v kept) (λv hv=>?_) G.ct λy=>ind (image kept y head=r)]
 ·refine hU λv hv=>?_;obtain⟨g,hg,rfl⟩:=(G.lm v).mp hv;show ind (image kept (image bs (bs.map g) kept) head=r)=_;rw[Q1 hg,G.im hg λt ht u=>kb t (hh t ht u),jj λt ht c=>?_];cases e:un t with
  |false=>exact hg.1 t e
  |true=>exact absurd (hh t ht e) c
 ·obtain⟨g,hg,rfl⟩:=(G.lm v).mp hv;show image bs (bs.map g) kept∈_;rw[Q1 hg];exact(kp _).mpr ⟨g,hg,rfl⟩
 ·split
  ·exact(DC _).symm
  ·exact(BW _).symm
theorem uK{us vals:List α}(nv:vals.Nodup):∀p,(iO un db atoms us vals p).Nodup
 |0=>lR gE (fo _ _)
 |p+1=>by
  refine lR gE (yD.mpr {λv _=>fK.mpr (nv.imp λne e=>ne ?_),(uK nv p).imp λne x hx y hy e=>ne ?_})
  ·exact List.singleton_inj.mp (wA e)
  ·obtain⟨t,_,rfl⟩:=aA.mp hx;obtain⟨t',_,rfl⟩:=aA.mp hy;exact(List.append_inj' e rfl).1
def G3{us vals:List α}(hu:∀t,t∈us↔un t=true/\∃a∈atoms,t∈a.2)(nd:us.Nodup)(hv:∀a∈atoms,∀r∈db a.1,∀x∈r,x∈vals)(w:Rw α):w∈iO un db atoms us vals us.length↔∃g,kC un db atoms g/\w=us.map g:=by have len:∀w∈iO un db atoms us vals us.length,w.length=us.length:=λw hw=>((zj (λt ht=>((hu t).mp ht).1) us.length w (ak _)).mp hw).1;rw[<-Ic (head:=us) hu nd hv (λt ht _=>ht) w];exact{λh=>{w,h,(zo nd (len w h)).symm},λ⟨v,h,e⟩=>by rw[e,zo nd (len v h)];exact h}
def lT.cast{db':α->List (Rw α)}(G:lT un db S kept maps bs L)(hd:∀a∈S,∀r,r∈db a.1↔r∈db' a.1):lT un db' S kept maps bs L:=
 {G.bt,G.bn,G.ln,λv=>(G.lm v).trans {λ⟨g,h,e⟩=>{g,{h.1,λa ha=>(hd a ha _).mp (h.2 a ha)},e},λ⟨g,h,e⟩=>{g,{h.1,λa ha=>(hd a ha _).mpr (h.2 a ha)},e}},G.ct}
def AskI.abW{l1 l2:List (rF α)}{a:rF α}{known fresh kept':List α}(h:AskI un db atoms head S (l1++a::l2) kept maps)(G:∃bs L,lT un db S kept maps bs L)(rn:(db a.1).Nodup)(hf:∀t,t∈fresh↔t∈a.2/\un t=true/\t∉kept)(fn:fresh.Nodup)(hk:known=a.2.filter (λt=>decide (t∉fresh)))(h':∀t∈kept',t∈kept++fresh):
  ∃bs L,lT un db (a::S) kept' (cY (-60) (kept++fresh) kept') bs L:=by
 obtain⟨bs,L,G⟩:=G;obtain⟨L',g⟩:=G.step h.kp h.md rn (λt ht=>(G.bt t).mpr {((h.kt t).mp ht).1,((h.kt t).mp ht).2.1}) (λb hb t ht Bm u=>(h.kt t).mpr {u,⟨b,hb,ht⟩,.inr {a,aS.mpr (.inr ax),Bm}}) hf fn hk h';exact⟨_,L',g⟩
def lT.alike{us vals:List α}(G:lT un db S kept maps bs L)(e:∀a,a∈atoms↔a∈S)(hu:∀t,t∈us↔un t=true/\∃a∈atoms,t∈a.2)(nd:us.Nodup)(nv:vals.Nodup)(hv:∀a∈atoms,∀r∈db a.1,∀x∈r,x∈vals)(hh:∀t∈head,un t=true->t∈us)(r:Rw α):
  (dX L λv=>ind (image bs v head=r))=dX (iO un db atoms us vals us.length) λv=>ind (image us v head=r):=by
 have ub:∀t,t∈us↔t∈bs:=λt=>by rw[hu,G.bt];exact{λ⟨u,a,ha,q⟩=>{u,a,(e a).mp ha,q},λ⟨u,a,ha,q⟩=>{u,a,(e a).mpr ha,q}}
 have mw:=G3 (un:=un) (db:=db) (vals:=vals) hu nd hv;have pm:(L.map λv=>image bs v us).Perm (iO un db atoms us vals us.length):=by
  refine(mH (fK.mpr (kz (λ{u v} qR Ff ne z=>ne ?_) G.ln)) (uK nv _)).mpr λw=>?_
  ·rw[mw w,aA];constructor
   ·rintro⟨v,Ff,rfl⟩;obtain⟨g,hg,rfl⟩:=(G.lm v).mp Ff;exact{g,hg.of λa ha=>(e a).mp ha,G.im hg λt ht _=>(ub t).mp ht}
   ·rintro⟨g,hg,rfl⟩;have Wy:kC un db S g:=hg.of λa ha=>(e a).mpr ha;exact{bs.map g,(G.lm _).mpr ⟨g,Wy,rfl⟩,G.im Wy λt ht _=>(ub t).mp ht}
  ·obtain⟨g,hg,rfl⟩:=(G.lm u).mp qR;obtain⟨k,hk,rfl⟩:=(G.lm v).mp Ff;rw[G.im hg λt ht _=>(ub t).mp ht,G.im hk λt ht _=>(ub t).mp ht]at z;exact bH λt ht=>o8.mp z t ((ub t).mpr ht)
 rw[<-Px pm,yN];refine hU λv Ff=>?_;obtain⟨g,hg,rfl⟩:=(G.lm v).mp Ff;have im:∀ts:List α,(∀t∈ts,un t=true->t∈us)->image us (us.map g) ts=ts.map g:=λts h=>jj λt ht c=>by
  cases q:un t with
  |false=>exact hg.1 t q
  |true=>exact absurd (h t ht q) c
 rw[G.im hg λt ht _=>(ub t).mp ht,im head hh,G.im hg λt ht u=>(ub t).mp (hh t ht u)]
def AskI.aeq{us vals:List α}(h:AskI un db atoms head S [] kept maps)(G:∃bs L,lT un db S kept maps bs L)(hu:∀t,t∈us↔un t=true/\∃a∈atoms,t∈a.2)(nd:us.Nodup)(nv:vals.Nodup)(hv:∀a∈atoms,∀r∈db a.1,∀x∈r,x∈vals)(hh:∀t∈head,un t=true->∃a∈atoms,t∈a.2){x:Rw α×Int}(hx:x∈cY maps kept head):x.2=dX (iO un db atoms us vals us.length) λv=>ind (image us v head=x.1):=by
 obtain⟨bs,L,G⟩:=G;have e:∀a,a∈atoms↔a∈S:=λa=>by rw[h.at_ a];exact{λz=>z.elim id (λz=>by cases z),.inl}
 rw[G.end_ h.kp h.md (λt ht=>(G.bt t).mpr {((h.kt t).mp ht).1,((h.kt t).mp ht).2.1}) (λt ht u=>(h.kt t).mpr {u,let⟨a,ha,q⟩:=hh t ht u;{a,(e a).mp ha,q},.inl ht}) hx];exact G.alike e hu nd nv hv (λt ht u=>(hu t).mpr {u,hh t ht u}) x.1
def yJ{KP:List (rF α)}{db0:α->List (Rw α)}{us Pl vals Nq:List α}(he:∀a,a∈KP↔a∈atoms)(hd:∀a∈atoms,∀r,r∈db a.1↔r∈db0 a.1)(hu:∀t,t∈us↔un t=true/\∃a∈atoms,t∈a.2)(hu0:∀t,t∈Pl↔un t=true/\∃a∈KP,t∈a.2)(nd:us.Nodup)(nd0:Pl.Nodup)(nv:vals.Nodup)(nv0:Nq.Nodup)
  (hv:∀a∈atoms,∀r∈db a.1,∀x∈r,x∈vals) (hv0:∀a∈atoms,∀r∈db a.1,∀x∈r,x∈Nq) (hh:∀t∈head,un t=true->t∈us) (r:Rw α):
  (dX (iO un db atoms us vals us.length) λv=>ind (image us v head=r))=dX (iO un db0 KP Pl Nq Pl.length) λv=>ind (image Pl v head=r):=by
 have G:lT un db atoms [] [] us (iO un db atoms us vals us.length):={hu,nd,uK nv _,G3 hu nd hv,λx hx=>by cases hx};refine(G.cast hd).alike he hu0 nd0 nv0 (λa ha r hr=>hv0 a ((he a).mp ha) r ((hd a ((he a).mp ha) r).mpr hr)) (λt ht u=>?_) r;obtain⟨_,a,ha,q⟩:=(hu t).mp (hh t ht u);exact(hu0 t).mpr {u,a,(he a).mpr ha,q}
end
end AskP
namespace lY
open PySem PySem.Spec PyProof.Rows L2 Dy
seal L2.PE L2.PT L2.PW L2.PA L2.PS L2.lN L2.PI L2.PO L2.Dz L2.PG L2.DA
section
variable{P:Program}{w:World}{K:Frag}{mg:Aad}{base:Heap}{C:Addr}
def Mq(he:PE X e ta)(hb:attributeBase e f X.env (eval e X.env)=eval e X.env:=by rfl):PE X (.Attribute e f pos) (S4 X.K ta f):=mF he hb
def K1(P:Program)(w:World)(K:Frag)(mg:Aad)(base:Heap)(C:Addr)(k:Nat)(x:Str)(ps:Aah)(sp:Sp):Prop:=∃f fd,Mk K C f/\dh P w K mg base fW k f fd ps sp/\mg x=some (.ref C)/\Binds K fd ps []
def mkO(D:K1 X.prog X.w X.K X.mg X.base C k x ps sp)(hr:ig j X.A)(ha:PA X (e::es) t)(hk:k+1<=j)(hg:Gl X x:=by rfl)
  (Bt:(-27)=false:=by decide) (he:starEach (e::es) X.env=(false,eval e X.env)::starEach es X.env:=by rfl) (qU:(-30).any (·.1)=false:=by rfl):
  PE X (-66) (Vz C sp [] E0 t):=by
 obtain⟨f,fd,M,F,m,b⟩:=D;exact XU M F (hr.mono hk) hg m b .nil NS ha Bt he qU
def kG(h:z∈iS):PyData.strOk z=true/\z.length<=1000/\(isUnk z=true->z∈je):=by unfold iS je cM at h;simp only[iW,ip,aG,ml,zc]at h;rcases h with rfl|rfl|rfl|rfl|rfl|rfl|rfl|rfl|rfl|rfl|rfl|rfl|rfl|rfl|rfl<;>decide+kernel
def Yb(h:z∈zG):PyData.strOk z=true:=by unfold zG tH at h;simp only[aG,ml,zc]at h;rcases h with rfl|rfl|rfl|rfl|rfl|rfl<;>decide+kernel
def Yt(g:Good ats):∀a∈ats,FinA a:=λa ha=>by obtain⟨h1,h2,_,h4⟩:=g a ha;exact{h1,Yb h4,λz hz=>(kG (h2 z hz)).1,λz hz=>(kG (h2 z hz)).2.1}
def nq:z∈dc ts↔isUnk z=true/\z∈ts:=by
 constructor
 ·intro h;have gen:∀(l acc:Aah),(∀t∈acc,isUnk t=true)->∀t∈l.foldl step acc,isUnk t=true:=by
   intro l
   induction l with
   |nil=>intro acc h t ht;exact h t ht
   |cons x l ih=>
    intro acc h t ht;refine ih _ (λy hy=>?_) t ht;unfold step at hy;split at hy
    ·next c=>
     split at hy
     ·exact h y hy
     ·rcases aS.mp hy with hy|hy
      ·exact h y hy
      ·rw[ay.mp hy];exact c
    ·exact h y hy
  exact{gen ts [] (λt ht=>by cases ht) z h,(vc h).resolve_left λh=>by cases h}
 ·exactλ⟨h1,h2⟩=>Yc h1 h2
def iP{ats:Aaa}(t:Str):t∈dc (b8 ats)↔isUnk t=true/\∃a∈ats,t∈a.2:=by rw[nq];unfold b8;rw[mn];exact⟨λ⟨u,ts,m6,h⟩=>{u,let⟨b,hb,e⟩:=aA.mp m6;{b,hb,by rw[e];exact h}},λ⟨u,b,hb,h⟩=>{u,b.2,aA.mpr ⟨b,hb,rfl⟩,h}⟩
def num(fs:List En)(hz:Aah)(ats:Aaa)(row:Aah):Int:=AskP.dX (AskP.iO isUnk (bZ fs) ats (dc (b8 ats)) cM (dc (b8 ats)).length) λv=>AskP.ind (AskP.image (dc (b8 ats)) v hz=row)
structure AskJ(fs:List En)(ats:Aaa)(hz:Aah)(S lf:Aaa)(kept:Aah)(maps:Cm):Prop extends AskP.AskI isUnk (dbT fs) ats hz S lf kept maps where
 gh:∃bs L,AskP.lT isUnk (dbT fs) S kept maps bs L
def QE(tab:iT K H tb fs)(g:Good ats)(h:AskJ fs ats hz S lf kept maps):FP kept maps/\kept.length<=6:=by
 have hk:∀t∈kept,isUnk t=true/\t∈iS:=λt ht=>by obtain⟨u,⟨b,hb,htb⟩,_⟩:=(h.kt t).mp ht;exact{u,(g b ((h.at_ b).mpr (.inl hb))).2.1 t htb}
 have l6:kept.length<=6:=eX (m:=je) h.nd λt ht=>(kG (hk t ht).2).2.2 (hk t ht).1;have hv:∀a∈ats,∀r∈dbT fs a.1,∀x∈r,x∈cM:=λa _ r hr x hx=>((tab.good a.1).2 r ((gZ _ _).mp hr)).2.2 x hx;have hf:=h.1.gD hv;refine{{h.nd,λt ht=>(kG (hk t ht).2).1,by lia,λx hx=>{h.len hx,λz hz=>lU (h.vals hv hx z hz)},aC hf ?_},l6};exact aC (gj (-8) l6) (-8)
structure YV(fs:List En)(hz:Aah)(ats:Aaa)(m:Cm):Prop where
 nd:(m.map (·.1)).Nodup
 iff:∀row,row∈m.map (·.1)↔∃g,AskP.kC isUnk (dbT fs) ats g/\row=hz.map g
 gD:m.length<=500000
 ct:∀x∈m,x.2=num fs hz ats x.1
inductive IF(P:Program)(w:World)(K:Frag)(vs:Aao)(H:Hp)(Q:VK)(_x3:XK):Prop
 |mk (v:V) (tb:Addr) (fs:List En) (hz:Aah) (ats:Aaa) (_:vs=[v,.ref tb]) (_:rh H v hz ats) (_:Good ats) (_:pR hz ats) (_:ats.length<=8) (_:iT K H tb fs) (_:∀(d:Addr)(m:Cm)(H':Hp),bA H H'->KY P w K H' d m->YV fs hz ats m->Q (.ref d) H')
structure Dc6(P:Program)(w:World)(K:Frag)(mg:Aad)(base:Heap)(C:Addr):Prop where
 Ul:K1 P w K mg base C 1 "Asking" ["self","tables"] (IC P w K C)
 vM:rA P w K mg base C 6 "best_place" ["self","atoms"] (PL P w K C)
 JM:rA P w K mg base C 6 "take" ["self","atom","needed"] (PD P w K C)
 JG:eG P w K mg base 1 "needed_terms" ["head","atoms"] (ID K)
 cY:eG P w K mg base 3 "narrowed" ["counted_maps","unknowns","terms"] (yP P w K)
theorem A1:∀{aad:List α}{aac:List β}(i:Nat),Paired F aad aac->Paired F (aad.eraseIdx i) (aac.eraseIdx i)
 |_,_,_,.nil=>.nil
 |_,_,0,.cons _ t=>t
 |_,_,i+1,.cons q t=>.cons q (A1 i t)
def Lr{α:Type}{l:List α}{a:α}(h:l[i]?=some a):l=l.take i++a::l.drop (i+1)/\l.eraseIdx i=l.take i++l.drop (i+1):=by obtain⟨hi,e⟩:=ao.mp h;refine{?_,qE _ _};rw[<-e,<-jT hi,dq]
def iI.exL(x:iI P w K C H self dx tb kl md td ex fs kept maps n)(s:SB ll H H')(m:ll∈ex)(hl:H ll=some (-48))(tab:iT K H' tb fs):iI P w K C H' self dx tb kl md td ex fs kept maps n:=by
 have nt:ij H ll:=qt hl;obtain⟨kvs,c,l⟩:=x.AD;obtain⟨qO,hm,em⟩:=id x.wL;have tl:td≠ll:=λz=>c.at_.uQ _ (by rw[z];exact hl);refine{s _ _ (λz=>?_) x.ins,tab,s _ _ (λz=>x.ke (by rw[z];exact m)) x.xZ,x.wL.sb s nt (λz=>hm.uQ _ (by rw[z];exact hl)),{kvs,c.fr (λb u n e=>s _ _ (λz=>n (by rw[z];exact az _ (az _ m))) e) (s.tp nt) ?_,l},x.nm,x.nt,x.ke}
 ·have q:=x.ins;rw[z,hl]at q;cases q
 ·obtain⟨u,h⟩:=c.at_.some;rw[h,s _ _ tl h]
def lE:cz ["question","tables","head","atoms","asking","left","atom"] ["question","tables"] (bQ xn):=jV (-3)
def Jz(F:fG K "counts_of" "counts_of" xn f fd)(T:Txt K mg)(O:Ex K C)(D:Dc6 P w K mg base C):dh P w K mg base fW 7 f fd ["question","tables"] (IF P w K):=by
 refine F.ok lE (λ_ _ _ _ h=>by cases h;subst_vars;rfl) (-6);obtain⟨v,tb,fs,hz,ats,rfl,⟨q,hd,aa,eR,rfl,hq,vR,yr,mP⟩,good,bj,la,tab,k⟩:=h;have hu:=jQ hr;have hN:=wX hr;have cC:=O.c;refine{_,(aO (vE (pv 0) (mE rfl (df (jg 2 lE) (df (jg 3 lE) j6)))) (aO (gn 4 lE (mkO D.Ul hr (cH (pv 1)) ∅)) (aO (gn 5 lE (d7 By rfl T.A8 (-3) (cH (pv 3)))) (aO (Tt bJ (Ts (pv 5) (λ_=>rfl)) (aO (gn 6 lE (mX cQ PySem.F.slot_list_pop PySem.F.type_list_pop TV (pv 5) (cH (Mz cC D.vM hr (pv 4) (cH (pv 5)) ∅)))) (aY (kH (Mz cC D.JM hr (pv 4) (fu (pv 6) (cl D.JG hr (fu (pv 2) (pv 5)))) ∅))))) (aY (cN (cl D.cY hr (pA (d7 (FI hr.hd) rfl T.A8 (-3) (cH (GV (Mq (pv 4))))) (Mq (pv 4)) (pv 2))))))))),?_}
 refine{_,rfl,q,_,rfl,bx.of hq,rfl,_,_,rfl,_,_,rfl,rfl,?_};refine{_,rfl,λx dx hx hdx ne=>?_};have s1:bA H (upd (upd H dx (.own x)) x (.ins C dx [])):=λb u h=>by rw[aw (aW h hx),aw (aW h hdx)];exact h
 have Bl:upd (upd H dx (.own x)) x (.ins C dx []) x=some (.ins C dx []):=ar;generalize (upd (upd H dx (.own x)) x (.ins C dx []))=H1 at s1 Bl⊢;refine{x,tb,dx,fs,rfl,Bl,tab.same s1,λkl md td H2 ER C7 qq=>{rfl,?_}};have h0t:H td=none:=s1.free C7;have jf:bA H H2:=λb u e=>ER _ _ (aW e hx) (s1 _ _ e);refine{_,rfl,aa,eR,rfl,.inr (bx.of (jf _ _ yr)),λll Rt=>?_};have s3:=aN Rt (.lst eR);have Dd:upd H2 ll (.lst eR) ll=some (.lst eR):=ar;have tD:=jf.trans s3;have RS:H ll=none:=jf.free Rt;have ur:iI P w K C (upd H2 ll (.lst eR)) x dx tb kl md td [ll] fs [] [([],1)] 0:=by
  obtain⟨kvs,ck,l⟩:=qq.AD;have c3:jB P w K H2 td (td::md::[ll]) fs kvs:={ck.at_,λa known v h=>by
   obtain⟨d,e,tv⟩:=ck.all a known v h;exact{d,e,(tv.more Rt).less λb hb=>by simp only[aG,ml,zc]at hb⊢;rcases hb with h|h|h<;>simp[h]}}
  have y:=qq.same s3;exact{y.ins,y.tab,y.xZ,y.wL,{kvs,c3.same s3,l},y.nm,y.nt,λz=>aW qq.xZ Rt (ay.mp z)}
 generalize (upd H2 ll (.lst eR))=H3 at s3 Dd tD ur⊢;clear s3 qq ER jf Rt;have fin:=Yt good;refine{λm Z H4=>∃(kl md n:Nat)(ys:Aao)(lf S:Aaa)(kept:Aah)(maps:Cm)(x6:Aap),m=lf.length/\Z=[some (.ref q),some (.ref tb),some (.ref hd),some (.ref aa),some (.ref x),some (.ref ll),x6]/\bA H H4/\iI P w K C H4 x dx tb kl md td [ll] fs kept maps n/\H4 ll=some (-48)/\gF H4 ys lf/\AskJ fs ats hz S lf kept maps/\n+101*lf.length<=808,
  {ats.length,kl,md,0,eR,ats,[],[],[([],1)],none,rfl,rfl,tD,ur,Dd,lL mP tD,{AskP.AskI.start,[],[[]],AskP.lT.start},by lia},?_}
 rintro m Z H4 ⟨kl,md,n,ys,lf,S,kept,maps,x6,rfl,rfl,s4,wF,tP,rL,aj,hn⟩;have ly:ys.length=lf.length:=bp rL;obtain⟨mo,l6⟩:=QE wF.tab good aj;obtain⟨nt4,VU⟩:=wF.Mu;have lfa:∀b∈lf,b∈ats:=λb hb=>(aj.at_ b).mpr (.inr hb);have lla:lf.length<=8:=by lia
 refine{_,rfl,_,.inl {_,bo.of tP,rfl},?_};cases Dc:lf with
 |cons a0 lr=>
  have h9:0<lf.length:=by rw[Dc];exact rj _
  have hye:(!ys.isEmpty)=true:=by
   cases ys with
   |nil=>rw[<-ly]at h9;exact absurd h9 (dv _)
   |cons _ _=>rfl
  rw[hye];rw[<-Dc];have V4:ll≠td:=λz=>VU _ (by rw[<-z];exact tP);refine Ge {_,λσ' H' h=>h,?_};refine{_,rfl,.inl {rfl,_,bo.of tP},_,rfl,x,dx,_,rfl,wF.ins,rfl,_,rfl,x,ll,dx,tb,kl,md,td,[ll],fs,kept,maps,n,ys,lf,rfl,wF,tP,rL,λb hb=>fin b (lfa b hb),h9,by lia,mo,by lia,λb hb=>{by rw[ay.mp hb];exact V4,.lst ys,by rw[ay.mp hb];exact tP},λi H5 hi xK oQ=>?_};have qV:=xK _ _ V4 tP;have aaT:=FK rL xK nt4;have s5:bA H H5:=λb u e=>xK _ _ (aW e h0t) (s4 _ _ e);obtain⟨a,ha⟩:∃a,lf[i]?=some a:={_,aq hi};obtain⟨y,hy⟩:∃y,ys[i]?=some y:={_,aq ∅};obtain⟨a',ha',hya⟩:=Paired.at aaT hy;rw[ha]at ha';cases ha';obtain⟨ap,at_,rfl,_⟩:=id hya;have fa:=fin a (lfa a (aB ha));refine{ll,ys,i,i,.ref ap,rfl,rfl,qV,by lia,by lia,PySem.StrLaws.seqIndex_nonneg ∅ ∅,hy,?_};have kM:SB ll H5 (upd H5 ll (.lst (ys.eraseIdx i))):=λb u n e=>by rw[aw n];exact e
  have VQ:ij H5 ll:=qt qV;have vQ:upd H5 ll (.lst (ys.eraseIdx i)) ll=some (.lst (ys.eraseIdx i)):=ar;have s6:bA H (upd H5 ll (.lst (ys.eraseIdx i))):=λb u e=>kM _ _ (aW e RS) (s5 _ _ e);have Ur:=FK (A1 i aaT) kM VQ;have aaU:=BF hya kM VQ;have mC:iI P w K C (upd H5 ll (.lst (ys.eraseIdx i))) x dx tb kl md td [ll] fs kept maps (n+100):=oQ.exL kM ax qV (tab.same s6);generalize (upd H5 ll (.lst (ys.eraseIdx i)))=H6 at kM vQ s6 Ur aaU mC⊢;obtain⟨e1,e2⟩:=Lr ha;have lfe:∀b∈lf.eraseIdx i,b∈lf:=λb hb=>List.mem_of_mem_eraseIdx hb;have lle:(lf.eraseIdx i).length=lf.length -1:=mI hi;refine{_,rfl,x,dx,_,rfl,mC.ins,rfl,_,rfl,_,rfl,_,rfl,hd,ll,hz,ys.eraseIdx i,lf.eraseIdx i,rfl,bx.of (s6 _ _ vR),bo.of vQ,Ur,?_,by lia,λb hb=>?_,λnd H7 s7 Oq hnd=>?_}
  ·have:=bj.1;lia
  ·have:=(fin b (lfa b (lfe b hb))).1;lia
  have vt:=mC.same s7;have ndt:nd≠td:=λz=>by obtain⟨_,c,_⟩:=mC.AD;obtain⟨_,h⟩:=c.at_.some;rw[z,h]at Oq;cases Oq
  refine{x,ap,nd,dx,tb,kl,md,td,[ll],fs,kept,maps,n+100,a,λz=>decide (z∈hz\/∃b∈lf.eraseIdx i,z∈b.2),rfl,vt,sY aaU s7,fa,mo,by lia,by lia,?_,ndt,λb hb=>{by rw[ay.mp hb];exact V4,.lst (ys.eraseIdx i),by rw[ay.mp hb];exact s7 _ _ vQ},λrK Aa H8 WQ st8=>?_}
  ·obtain⟨kvs,h1,h2⟩:=hnd;exact{kvs,h1,λz=>(h2 z).trans nR.symm}
  have aav:∀{l:Aao}{b:Addr},H7 b=some (.lst l)->b≠x:=λ{l b} e z=>by have:=vt.ins;rw[<-z,e]at this;cases this
  have yo:=s7 _ _ vQ;have Rv:=WQ _ _ V4 (aav yo) yo;have adQ:gF H8 (ys.eraseIdx i) (lf.eraseIdx i):=by
   have h7:=lL Ur s7;obtain⟨nt7,_⟩:=vt.Mu;generalize ys.eraseIdx i=ye at h7⊢;generalize lf.eraseIdx i=le at h7⊢;clear Rv yo
   induction h7 with
   |nil=>exact .nil
   |cons h _ ih=>
    obtain⟨p,t,e,h1,h2⟩:=h;have nx:∀{b:Addr}{l:Aao},H7 b=some (.tup l)->b≠td/\b≠x:=λ{b l} e=>{λz=>nt7 _ (.inl (by rw[<-z];exact e)),λz=>by have:=vt.ins;rw[<-z,e]at this;cases this}
    exact .cons {p,t,e,WQ _ _ (nx h1).1 (nx h1).2 h1,WQ _ _ (nx h2).1 (nx h2).2 h2} ih
  have s8:bA H H8:=λb u e=>WQ _ _ (aW e h0t) (aW e hx) (s7 _ _ (s6 _ _ e));have aj8:AskJ fs ats hz (a::S) (lf.eraseIdx i) ((-32).filter λz=>decide (z∈hz\/∃b∈lf.eraseIdx i,z∈b.2)) (AskP.cY (Bd fs kept a maps) (-32) ((-32).filter λz=>decide (z∈hz\/∃b∈lf.eraseIdx i,z∈b.2))):=by
   rw[e1]at aj;have fh:∀t,t∈gC kept a.2↔t∈a.2/\isUnk t=true/\t∉kept:=λt=>by unfold gC;rw[bD,nR,nq];exact{λh=>{h.1.2,h.1.1,h.2},λh=>{{h.2.1,h.1},h.2.2}}
   have:=aj.step (known:=jX kept a.2) (fresh:=gC kept a.2) (need:=λz=>decide (z∈hz\/∃b∈lf.eraseIdx i,z∈b.2)) fh ((iY a.2).sublist gE) rfl (λt=>?_)
   ·have gh:=aj.1.abW aj.gh (known:=jX kept a.2) (fresh:=gC kept a.2) (kept':=(-32).filter λz=>decide (z∈hz\/∃b∈lf.eraseIdx i,z∈b.2)) (show(uM _).Nodup from(gg _).nodup_iff.mpr (uP _)) fh ((iY a.2).sublist gE) rfl λt ht=>(bD.mp ht).1;rw[<-e2]at this;exact⟨this,gh⟩
   ·rw[nR,e2]
  exact{_,by rw[lle];lia,rK,Aa,n+100+1,ys.eraseIdx i,lf.eraseIdx i,a::S,_,_,_,rfl,rfl,s8,st8,Rv,adQ,aj8,by rw[lle];lia}
 |nil=>
  have hye:ys=[]:=gu.mp (by rw[ly,Dc];rfl);rw[hye];refine nO ?_;rw[Dc]at aj;obtain⟨qO,Kk,em⟩:=id wF.wL;refine{_,rfl,x,C,dx,_,_,rfl,wF.ins,O.c,O.maps,rfl,md,qO,rfl,Kk,λvw Q6=>?_};have s5:=aN Q6 (.ext (uH vw md));have Fe:upd H4 vw (.ext (uH vw md)) vw=some (.ext (uH vw md)):=ar;have oQ:=wF.same s5;have wW:fH P w K (upd H4 vw (.ext (uH vw md))) md qO:=by obtain⟨u,h⟩:=Kk.some;exact Kk.tp (eK.same s5) (by rw[h,s5 _ _ h])
  generalize (upd H4 vw (.ext (uH vw md)))=H5 at s5 Fe oQ wW⊢;refine{vw,md,qO,rfl,Fe,wW,λl zs H6 s6 qw vQ hps=>?_};have s6:bA H5 H6:=s6;have mC:=oQ.same s6;have vC:=s4.trans (s5.trans s6);have pc:Paired (w6 K H6) zs maps:=by
   have hk:∀p∈qO,NV K H6 p.1 (.ref p.2.1):=λp hp=>N5 (eK.same s6) _ _ (wW.2 p hp).1;clear vQ wW Kk;generalize maps=mm at em
   induction qO generalizing zs mm with
   |nil=>
    cases mm with
    |nil=>cases hps;exact .nil
    |cons _ _=>cases em
   |cons p qO ih=>
    cases mm with
    |nil=>cases em
    |cons y mm=>
     injection em with em1 em2;cases hps with
     |cons h t=>
      obtain⟨b,rfl,hb⟩:=h;have e1:p.1=dY y.1:=cc Prod.fst em1;have e2:p.2.2=V.int y.2:=cc Prod.snd em1;have hn:=hk p ax;rw[e1]at hn;refine .cons {b,p.2.1,rfl,?_,E7 hn} (ih _ t (λq hq=>hk q (az _ hq)) _ em2);rw[<-e2];exact bx.of hb
  have lh:=bj.1;refine{_,rfl,x,C,dx,_,_,rfl,mC.ins,O.c,O.kept,rfl,_,rfl,l,kl,hd,zs,maps,kept,hz,rfl,bo.of vQ,pc,bo.of mC.xZ,mo.nd,mo.len,.inr (bx.of (vC _ _ vR)),by lia,λz oU=>(kG (bj.2 z oU).1).1,mo.row,aC mo.gD (-8),λd H7 s7 iM rc=>?_};have hh:∀t∈hz,isUnk t=true->∃a∈ats,t∈a.2:=λt ht u=>((iP t).mp (nq.mpr {u,(bj.2 t ht).2 u})).2;have hv:∀a∈ats,∀r∈dbT fs a.1,∀x∈r,x∈cM:=λa _ r hr x hx=>((tab.good a.1).2 r ((gZ _ _).mp hr)).2.2 x hx;refine k d _ H7 (vC.trans s7) rc {AskP.iQ,aj.end_ hh,?_,λy hy=>(aj.1.aeq aj.gh iP (iY _) (-8) hv hh hy).trans (AskP.yJ (λ_=>sM) (λa _ r=>gZ r _) iP iP (iY _) (iY _) (-8) (-8) hv hv (λt ht u=>(iP t).mpr {u,hh t ht u}) _)}
  ·refine aC ?_ mo.gD;have gen:∀(l m:Cm),(l.foldl (λm x=>AskP.qg m (AskP.image kept x.1 hz) x.2) m).length<=m.length+l.length:=by
    intro l
    induction l with
    |nil=>intro m;exact ak _
    |cons y l ih=>
     intro m;refine aC (ih _) ?_;have:(AskP.qg m (AskP.image kept y.1 hz) y.2).length<=m.length+1:=by
      unfold AskP.qg;split
      ·rw[ag];lia
      ·rw[aK];exact ak _
     dsimp only;rw[bK];lia
   have:=gen maps [];rw[c7,BL]at this;exact this
inductive GL(K:Frag)(vs:Aao)(H:Hp)(Q:VK)(_x3:XK):Prop
 |mk (v:V) (tb:Addr) (fs:List En) (hz:Aah) (ats:Aaa) (_:vs=[v,.ref tb]) (_:rh H v hz ats) (_:Good ats) (_:pR hz ats) (_:ats.length<=8) (_:iT K H tb fs) (_:∀(l:Addr)(zs:Aao)(rows:Aab)(H':Hp),bA H H'->H l=none->H' l=some (.lst zs)->fE K H' zs (dA rows)->rows.Nodup->(∀row,row∈rows↔∃g,AskP.kC isUnk (dbT fs) ats g/\row=hz.map g)->(∀z∈zs,∃a xs,z=.ref a/\H' a=some (.tup xs))->Q (.ref l) H')
structure Da6(P:Program)(w:World)(K:Frag)(mg:Aad)(base:Heap):Prop where
 Hy:eG P w K mg base 7 "counts_of" ["question","tables"] (IF P w K)
def NG:cz ["question","tables"] ["question","tables"] (bQ AR):=jV (-3)
def N4(F:fG K "answers" "answers" AR f fd)(T:Txt K mg)(D:Da6 P w K mg base):dh P w K mg base fW 8 f fd ["question","tables"] (GL K):=by
 refine F.ok NG (λ_ _ _ _ h=>by cases h;subst_vars;rfl) (-6);obtain⟨v,tb,fs,hz,ats,rfl,hq,good,bj,la,tab,k⟩:=h;refine{_,(aY (cN (cA (vW hr.hd) rfl T.zg (-3) (cH (cl D.Hy hr (fu (pv 0) (pv 1))))))),?_};refine{_,rfl,_,rfl,v,tb,fs,hz,ats,rfl,hq,good,bj,la,tab,λd m H1 s1 rc cm=>?_};obtain⟨kvs,ha,em,gq⟩:=rc;have e1:kvs.map (·.1)=(m.map (·.1)).map dY:=by have:=cc (List.map Prod.fst) em;unfold qC at this;rw[bX,bX]at this;rw[bX];exact this
 have lr:(m.map (·.1)).length<=500000:=by rw[ag];exact cm.gD
 refine{d,kvs,m.map (·.1),rfl,ha,e1,λh2 r nP=>?_,by lia,λl zs hl hr hm=>?_}
 ·intro er;obtain⟨g,_,eg⟩:=(cm.iff r).mp nP;rw[er]at eg;have ez:hz=[]:=mS.mp eg.symm;have all:∀y∈m.map (·.1),y∈([[]]:Aab):=λy hy=>by obtain⟨g',_,e'⟩:=(cm.iff y).mp hy;rw[e',ez];exact ax
  have:=eX cm.nd all;rw[dt]at this;lia
 ·have s2:=aN hl (.lst zs);refine k l zs _ _ (s1.trans s2) (s1.free hl) ar (iZ hr s2) cm.nd cm.iff λz oU=>?_;obtain⟨p,hp,rfl⟩:=aA.mp (hm z oU);obtain⟨xs,e⟩:=gq p hp;exact{_,xs,rfl,s2 _ _ e}
def jC(us v:Aah):List (Key×V):=(us.zip v).map λx=>(Sum.inr x.1,V.str x.2)
theorem FT:∀{us v:Aah},us.length=v.length->(fb (jC us v) (Sum.inr t:Key)).getD (V.str t)=V.str (AskP.gH us v t)
 |[],[],_=>rfl
 |[],_::_,e=>by cases e
 |_::_,[],e=>by cases e
 |u::us,x::v,e=>by
  have ih:=FT (t:=t) (us:=us) (v:=v) (by simpa using e);by_cases c:u=t
  ·subst c;unfold jC AskP.gH;rw[BQ,aR,hJ rfl,aD ax,zM];rfl
  ·unfold jC AskP.gH at ih⊢;rw[BQ,aR,gO (λz=>c (Dx z)),ih];by_cases m:t∈us
   ·rw[aD m,aD (az _ m),List.idxOf_cons,show(u==t)=false from beq_false_of_ne c,cond_false];rfl
   ·rw[au m,au λz=>(aG.mp z).elim (λz=>c z.symm) m]
def SJ(le:us.length=v.length)(n:u∉us):putK (jC us v) (Sum.inr u:Key) (V.str x)=jC (us++[u]) (v++[x]):=by
 have hn:fb (jC us v) (Sum.inr u:Key)=none:=by
  cases q:fb (jC us v) (Sum.inr u:Key)with
  |none=>rfl
  |some y=>
   have:=LL q;unfold jC at this;rw[bX]at this;obtain⟨p,hp,e⟩:=aA.mp this;cases e;exact absurd (rB hp).1 n
 rw[Ja _ hn];unfold jC;rw[List.zip_append le,aM];rfl
abbrev mG(H:Hp)(us:Aah):Aao->Aab->Prop:=Paired λ(y:V)(v:Aah)=>∃d,y=.ref d/\H d=some (.dK (jC us v))
def Ay(h:mG H us ys vs)(s:bA H H'):mG H' us ys vs:=by
 induction h with
 |nil=>exact .nil
 |cons h _ ih=>
  obtain⟨d,e,h1⟩:=h;exact .cons {d,e,s _ _ h1} ih
def g6(vals:Aah):List (Key×V):=vals.map λz=>(Sum.inr z,V.bl true)
inductive IE(K:Frag)(vs:Aao)(H:Hp)(Q:VK)(_x3:XK):Prop
 |mk (l d:Addr) (us vals:Aah) (u:Str) (ys:Aao) (ws:Aab) (_:vs=[.ref l,.str u,.ref d]) (_:bo K H l ys) (_:mG H us ys ws) (_:H d=some (.dK (g6 vals))) (_:u∉us) (_:(∀v∈ws,v.length=us.length)) (_:us.length<=100) (_:vals.length<=8) (_:ws.length<=300000) (_:∀(r:Addr)(zs:Aao)(H':Hp),bA H H'->H r=none->H' r=some (.lst zs)->mG H' (us++[u]) zs (ws.flatMap λv=>vals.map λx=>v++[x])->Q (.ref r) H')
def Ef{α:Type}{ws:List (List α)}{vals:List α}:(ws.flatMap λv=>vals.map λx=>v++[x]).length=ws.length*vals.length:=by
 induction ws with
 |nil=>simp
 |cons v ws ih=>rw[jK,aK,ih,ag,bK,Nat.succ_mul,Nat.add_comm]
def pk:cz ["_law_ways_here","_law_unknown","_law_values_here","_law_found","_law_way","_law_value","_law_longer_here"] ["_law_ways_here","_law_unknown","_law_values_here"] (bQ yV):=jV (-3)
def Qn(F:fG K "_law_longer" "_law_longer" yV f fd)(T:Txt K mg):dh P w K mg base fW 1 f fd ["_law_ways_here","_law_unknown","_law_values_here"] (IE K):=by
 refine F.ok pk (λ_ _ _ _ h=>by cases h;subst_vars;rfl) (-6);obtain⟨l,d,us,vals,u,ys,ws,rfl,hl,hws,hd,nu,lw,lu,lv,QF,k⟩:=h;have hu:=jQ hr;refine{_,(aO (gn 3 pk (gY jh)) (aO (fg bJ rfl (fS (pv 0)) (jg 4 pk) (aY (DS (fg bJ rfl (Jh (pv 2)) (jg 5 pk) (aO (gn 6 pk (d7 O4 rfl T.A9 (-3) (cH (pv 4)))) (aO (xR hu (pv 6) (pv 1) (pv 5) rfl) (aY (kH (mX cQ dO dM lW (pv 3) (cH (pv 6))))))))))) (aY (cN (pv 3))))),?_}
 have ly:ys.length=ws.length:=bp hws;refine{by show 0<=sizeLine;decide,λr uz=>?_};have s1:=aN uz (-40);have rd:d≠r:=aW hd uz;refine{_,rfl,l,rfl,{_,gx hl s1},mi (K:=K) (a:=l) (xs:=ys)
  (λi Z H2=>∃(x4 x5 x6:Aap)(zs:Aao),Z=[some (.ref l),some (.str u),some (.ref d),some (.ref r),x4,x5,x6]/\bA H H2/\i<=ws.length/\H2 r=some (.lst zs)/\mG H2 (us++[u]) zs ((ws.take i).flatMap λv=>vals.map λx=>v++[x]))
  {none,none,none,[],rfl,s1,aP _,ar,.nil} (λi Z H2 _ ⟨_,_,_,_,_,sm,_⟩=>gx hl sm) ?_ ?_}
 ·rintro i x Z H2 hx ⟨x4,x5,x6,zs,rfl,s2,_,qT,hz⟩;obtain⟨v,hv,wd,rfl,adS⟩:=Paired.at' hws hx;have bU:i<ws.length:=(ao.mp hv).1;have lev:=lw v (aB hv);have hd2:=s2 _ _ hd;refine{d,(λo v e=>by rw[hd2]at e;cases e),?_};refine{_,rfl,d,_,(g6 vals).map (λp=>(kV p.1,p.2)),rfl,hd2,.inl ⟨_,rfl,rfl⟩,λo=>?_};have sbd:SB d H2 (upd H2 d (.c6 o (.dK (g6 vals)))):=λb u n e=>by rw[aw n];exact e
  have Bs:upd H2 d (.c6 o (.dK (g6 vals))) d=some (.c6 o (.dK (g6 vals))):=ar;have Ws:=sbd _ _ (bV rd) qT;have Us:=s2 _ _ adS;have hRd:Rd (upd H2 d (.c6 o (.dK (g6 vals)))) wd (.dK (jC us v)):=by
   by_cases z:wd=d
   ·rw[z,hd2]at Us;rw[<-bS Us];exact .inr {o,by rw[z];exact Bs}
   ·exact .inl (sbd _ _ z Us)
  generalize Fo:upd H2 d (.c6 o (.dK (g6 vals)))=Hf at Bs Ws hRd⊢;have lvk:((g6 vals).map λp=>(kV p.1,p.2)).length=vals.length:=by unfold g6;rw[ag,ag]
  refine Ht (d:=d) (o:=o) (u:=.dK (g6 vals)) (kvs:=(g6 vals).map λp=>(kV p.1,p.2)) (λj Z H3=>∃(x5 x6:Aap)(rH:Aao),Z=[some (.ref l),some (.str u),some (.ref d),some (.ref r),some (.ref wd),x5,x6]/\j<=vals.length/\SB r Hf H3/\H3 r=some (.lst (zs++rH))/\Paired (λ(y:V)(v:Aah)=>∃e,y=.ref e/\H2 e=none/\H3 e=some (.dK (jC (us++[u]) v))) rH ((vals.take j).map λx=>v++[x]))
   {_,_,[],rfl,aP _,λ_ _ _ e=>e,by rw[cu];exact Ws,.nil} (λj Z H3 _ ⟨_,_,_,_,_,sb,_⟩=>sb _ _ rd Bs) ?_ ?_
  ·rintro j kv Z H3 iD ⟨x5,x6,rH,rfl,hj,oR,Ri,JZ⟩;unfold g6 at iD;rw[bX,aJ]at iD;obtain⟨z,Q4,ekv⟩:=a9.mp iD;have ek:kv.1=V.str z:=by rw[<-ekv];rfl
   have lX:j<vals.length:=(ao.mp Q4).1;have hR3:Rd H3 wd (.dK (jC us v)):=by
    rcases hRd with h|⟨o',h⟩
    ·exact .inl (oR _ _ (λq=>by rw[q,Ws]at h;cases h) h)
    ·exact .inr {o',oR _ _ (λq=>by rw[q,Ws]at h;cases h) h}
   refine{_,rfl,wd,_,rfl,hR3,λnw MP=>?_};have s4:=aN MP (.dK (jC us v));have MQ:upd H3 nw (.dK (jC us v)) nw=some (.dK (jC us v)):=ar;have nr:nw≠r:=λq=>by rw[q,Ri]at MP;cases MP
   have Rm:Hf nw=none:=by
    cases e:Hf nw with
    |none=>rfl
    |some o'=>rw[oR _ _ nr e]at MP;cases MP
   have h2n:H2 nw=none:=by
    cases e:H2 nw with
    |none=>rfl
    |some o'=>
     have nd:nw≠d:=λq=>by rw[q,Bs]at Rm;cases Rm
     rw[<-Fo,aw nd,e]at Rm;cases Rm
   have tL:=s4 _ _ Ri;generalize (upd H3 nw (.dK (jC us v)))=H4 at s4 MQ tL⊢;have lwd:(jC us v).length<=100:=by unfold jC;rw[ag,kR];lia
   refine{_,rfl,_,rfl,_,rfl,nw,_,rfl,B3.k (k:=Sum.inr u) MQ (bO ∅),?_};rw[ek,SJ lev.symm nu];have qS:upd H4 nw (.dK (jC (us++[u]) (v++[z]))) r=some (.lst (zs++rH)):=by rw[aw (bV nr)];exact tL
   have lz:(zs++rH).length<=2500000:=by rw[aK,bp hz,bp JZ,Ef,ag,aL,aL];have:min i ws.length*vals.length<=300000*8:=Nat.mul_le_mul ∅ lv;lia
   refine{_,rfl,.inl {rfl,_,bo.of qS},_,rfl,r,_,_,rfl,rfl,qS,cK lz (-8),?_};refine{_,_,rH++[.ref nw],rfl,lX,λb o' n e=>?_,by rw[ar,cD],?_}
   ·rw[aw n,aw (λq=>by rw[q,Rm]at e;cases e)];exact s4 _ _ (oR _ _ n e)
   ·rw[aV,Q4,bI,aM];refine jY ?_ {nw,rfl,h2n,by rw[aw nr,ar]};refine Paired.qM JZ λy v' ⟨e,e1,e2,e3⟩=>{e,e1,e2,?_};have er:e≠r:=λq=>by rw[q,Ri]at e3;cases e3
    rw[aw er,aw (λq=>by rw[q,MP]at e3;cases e3)];exact s4 _ _ e3
  ·rintro Z H3 ⟨x5,x6,rH,rfl,_,oR,Ri,JZ⟩;rw[lvk,aT]at JZ;have MW:=oR _ _ rd Bs;refine{o,_,MW,?_};have sF:∀b o',b≠r->H2 b=some o'->upd H3 d (.dK (g6 vals)) b=some o':=λb o' n e=>by
    by_cases q:b=d
    ·rw[q,hd2]at e;cases e;rw[q,ar]
    ·rw[aw q];exact oR _ _ n (by rw[<-Fo,aw q];exact e)
   refine{_,_,_,zs++rH,rfl,λb o' e=>sF _ _ (aW e uz) (s2 _ _ e),bU,by rw[aw (bV rd)];exact Ri,?_};rw[aV,hv,bI,Ar,jK,List.flatMap_nil,cu];refine vG ?_ ?_
   ·refine Paired.qM hz λy v' ⟨e,e1,e2⟩=>{e,e1,sF _ _ (λq=>by rw[q,qT]at e2;cases e2) e2}
   ·refine Paired.qM JZ λy v' ⟨e,e1,e2,e3⟩=>{e,e1,?_};rw[aw (λq=>by rw[q,hd2]at e2;cases e2)];exact e3
 ·rintro Z H2 ⟨x4,x5,x6,zs,rfl,s2,_,qT,hz⟩;rw[ly,aT]at hz;exact{_,rfl,k r zs H2 s2 uz qT hz}
def KR(h:z∈iS):∃c:Nat,z.cps.toList[0]?=some c/\decide (V.str ⟨#[c]⟩=V.str "?")=isUnk z:=by unfold iS je cM at h;simp only[iW,ip,aG,ml,zc]at h;rcases h with rfl|rfl|rfl|rfl|rfl|rfl|rfl|rfl|rfl|rfl|rfl|rfl|rfl|rfl|rfl<;>exact{_,rfl,by decide+kernel}
def YQ(rows:Aab)(r:Aah):((rows.map jN).any λe=>PyData.eqv e (jN r))=decide (r∈rows):=by
 induction rows with
 |nil=>rfl
 |cons x rows ih=>
  rw[aR,mJ,ih,M6];by_cases c:x=r
  ·subst c;simp
  ·have:¬r=x:=λe=>c e.symm;simp[c,this]
inductive PH(K:Frag)(vs:Aao)(H:Hp)(Q:VK)(_x3:XK):Prop
 |mk (aa tb kn wd:Addr) (eR:Aao) (ats:Aaa) (fs:List En) (known v:Aah) (_:vs=[.ref aa,.ref tb,.ref kn,.ref wd]) (_:H aa=some (.tup eR)) (_:gF H eR ats) (_:Good ats) (_:iT K H tb fs) (_:bo K H kn (known.map V.str)) (_:H wd=some (.dK (jC known v))) (_:known.length=v.length) (_:(∀z∈v,PyData.strOk z=true)) (_:∀H',bA H H'->Q (.bl (AskP.fits isUnk (bZ fs) ats known v)) H')
def AK:cz ["_law_atoms","_law_tables_here","_law_known","_law_way","_law_name","_law_terms"] ["_law_atoms","_law_tables_here","_law_known","_law_way"] (bQ DM):=jV (-3)
def X4(F:fG K "_law_fits" "_law_fits" DM f fd)(T:Txt K mg):dh P w K mg base fW 1 f fd ["_law_atoms","_law_tables_here","_law_known","_law_way"] (PH K):=by
 refine F.ok AK (λ_ _ _ _ h=>by cases h;subst_vars;rfl) (-6);obtain⟨aa,tb,kn,wd,eR,ats,fs,known,v,rfl,yr,mP,good,tab,hkn,Hb,le,sv,k⟩:=h;have hu:=jQ hr;refine{_,(aO (fg bJ rfl (nK (pv 0)) (mE rfl (df (jg 4 AK) (df (jg 5 AK) j6))) (aY (iJ (d5 (aam (cK (eZ _) hu)) (wI rfl (dy (fs:=["_law_known"]) (fr:=[2])) (nK (pv 5)) (λ_ _ _ _=>(PW.pt (EU (d5 zd (dj QS (pv 0) bg (-15)) eI (gG _)) (Cc (d5 (t7 (K:=K)) (pv 0) (pv 1) (-43)))))) (λ_ _ _ _=>(pv 0))) (gY jh) (gG _)) (aY (iJ (d5 (Qh hr.units) (d7 fD rfl T.j7 (-3) (cH (iz rfl (dy (fs:=["_law_way"]) (fr:=[3])) (nK (pv 5)) (λ_ _ _ _=>(vF hu (pv 1) (pv 0) (pv 0) V0))))) (vF hu (pv 1) (pv 4) (gY jh) V1) (-43)) (aY (cN pU)) fm)) fm))) (aY (cN pU))),?_}
 have la:eR.length=ats.length:=bp mP;refine{_,rfl,aa,rfl,{eR,bx.of yr},Cp (K:=K) (a:=aa) (xs:=eR)
  (λi Z H2=>∃(x4 x5:Aap),Z=[some (.ref aa),some (.ref tb),some (.ref kn),some (.ref wd),x4,x5]/\bA H H2/\i<=ats.length/\AskP.fits isUnk (bZ fs) (ats.take i) known v=true) {none,none,rfl,λ_ _ e=>e,aP _,rfl} (λi Z H2 _ hq=>by(obtain⟨_,_,_,sm,_⟩:=hq;exact bx.of (sm _ _ yr))) ?_ ?_}
 ·rintro i x Z H2 hx ⟨x4,x5,rfl,s2,_,hf⟩;obtain⟨a,ha,p,t,rfl,hp,ht⟩:=Paired.at mP hx;have bU:i<ats.length:=(ao.mp ha).1;obtain⟨l4,HV,_,_⟩:=good a (aB ha);have fs1:AskP.fits isUnk (bZ fs) (ats.take (i+1)) known v=(!decide (a.2.filter (λt=>isUnk t&&decide (t∉known))=[])||decide (AskP.image known v a.2∈bZ fs a.1)):=by unfold AskP.fits at hf⊢;rw[aV,ha,bI,List.all_append,hf,iF,An,List.all_nil,Bool.and_true]
  refine{p,_,rfl,bx.of (s2 _ _ hp),rfl,_,_,rfl,_,_,rfl,rfl,?_};refine{_,rfl,t,rfl,{_,bx.of (s2 _ _ ht)},vV (K:=K) (a:=t) (xs:=a.2.map V.str) (λj ys H3=>H3=H2/\j<=a.2.length/\ys=((a.2.take j).filter λt=>isUnk t&&decide (t∉known)).map V.str) (-37) {rfl,aP _,rfl} ?_ ?_ ?_}
  ·rintro j ys H3 hj ⟨rfl,_,rfl⟩;refine{bx.of (s2 _ _ ht),?_};rw[ag];exact aC (cS _ _) (by rw[aL];lia)
  ·rintro j y ys H3 N hc ⟨rfl,hj,rfl⟩ hN;obtain⟨z,hz,rfl⟩:=iA hc;have Fj:j<a.2.length:=(ao.mp hz).1;have Q5:=HV z (aB hz);obtain⟨c,hc0,UM⟩:=KR Q5;have ei:v3 z.cps.toList 0=some c:=jv (j:=0) hc0;have uw:=(kG Q5).2.1;have en:(a.2.take (j+1)).filter (λt=>isUnk t&&decide (t∉known))=(a.2.take j).filter (λt=>isUnk t&&decide (t∉known))++if(isUnk z&&decide (z∉known))=true then[z]else[]:=by rw[aV,hz,bI,gc,gR,xa]
   have yes:(isUnk z&&decide (z∉known))=true->N (((a.2.take j).filter λt=>isUnk t&&decide (t∉known)).map V.str++[V.str z]) H3:=λq=>hN _ _ {rfl,Fj,by rw[en,aD q,aM];rfl};have no:¬(isUnk z&&decide (z∉known))=true->N (((a.2.take j).filter λt=>isUnk t&&decide (t∉known)).map V.str) H3:=λq=>hN _ _ {rfl,Fj,by rw[en,au q,cu]};refine{_,rfl,_,_,_,rfl,rfl,br (bO ∅),ei,rfl,?_};rw[UM];refine{_,rfl,fZ (λc1=>?_) (λc1=>?_)}
   ·refine{_,rfl,_,rfl,kn,_,rfl,.inl (gx hkn s2),rfl,w4 _,_,rfl,?_};rw[Cn];refine fZ (λc2=>{_,rfl,yes ?_}) (λc2=>no ?_)
    ·rw[c1];simpa using c2
    ·rw[c1];simpa using c2
   ·refine nO (no ?_);intro q;rw[cE]at q;exact c1 q.1
  rintro ys H3 ⟨rfl,_,rfl⟩ l hl;rw[ag,aT];have s4:=aN hl (-42);have tP:upd H3 l (-42) l=some (-42):=ar;generalize (upd H3 l (-42))=H4 at s4 tP⊢;refine{by show 0<=sizeLine;decide,λe he=>?_};have s5:=aN he (-40);have RD:upd H4 e (-40) e=some (.lst []):=ar;have qV:=s5 _ _ tP;have vD:=s2.trans (s4.trans s5);generalize (upd H4 e (-40))=H5 at s5 RD qV vD⊢;refine{l,e,_,rfl,rfl,bo.of qV,bo.of RD,_,rfl,?_};by_cases q:a.2.filter (λt=>isUnk t&&decide (t∉known))=[]
  ·rw[q];refine Ge ?_;rw[q,ba rfl,iG,Bool.false_or]at fs1;have Wn:bx K H5 t (a.2.map V.str):=bx.of (vD _ _ ht);have aaV:=vD _ _ Hb;refine{_,rfl,t,rfl,⟨_,Wn⟩,vV (K:=K) (a:=t) (xs:=a.2.map V.str) (λj ys H6=>H6=H5/\j<=a.2.length/\ys=((a.2.take j).map (AskP.gH known v)).map V.str) (-37) {rfl,aP _,rfl} ?_ ?_ ?_}
   ·rintro j ys H6 hj ⟨rfl,_,rfl⟩;refine{Wn,?_};rw[ag,ag,aL];lia
   ·rintro j y ys H6 N hc ⟨rfl,hj,rfl⟩ hN;obtain⟨z,hz,rfl⟩:=iA hc;have Fj:j<a.2.length:=(ao.mp hz).1;refine iy ?_;refine{_,rfl,wd,rfl,.inl {_,.inl aaV},_,rfl,_,rfl,_,kF.k (k:=Sum.inr z) aaV,?_};rw[FT le];refine hN _ _ {rfl,Fj,?_};rw[aV,hz,aM,aM];rfl
   rintro ys H6 ⟨rfl,_,rfl⟩ l2 iX;rw[ag,aT];refine{l2,_,rfl,.inl {bo.of ar,λrp hrp=>?_}};have s7:=(aN iX (.lst (-50))).trans (aN hrp (.tup (-50)));have Hh:upd (upd H6 l2 (.lst (-50))) rp (.tup (-50)) rp=some (.tup ((AskP.image known v a.2).map V.str)):=ar;have vB:=vD.trans s7;generalize (upd (upd H6 l2 (.lst (-50))) rp (.tup (-50)))=H7 at s7 Hh vB⊢;refine{_,rfl,tb,rfl,.inl {_,.inl (vB _ _ tab.at_)},_,rfl,(-53),λl0 qw=>?_};have s8:=aN qw (-40);have h0:upd H7 l0 (-40) l0=some (.lst []):=ar;have hr8:=s8 _ _ Hh;have IQ:=vB.trans s8;generalize (upd H7 l0 (-40))=H8 at s8 h0 hr8 IQ⊢;obtain⟨tq,tys,eq,htq,hR,Rr,hg⟩:=Kw (tab.same IQ) h0 a.1;refine{_,kF.k (k:=Sum.inr a.1) (IQ _ _ tab.at_),?_};rw[eq];have E1:∀z∈AskP.image known v a.2,PyData.strOk z=true:=wG sv λz hz=>(kG (HV z hz)).1;have sh:=NB E1;refine{jN (AskP.image known v a.2),(bZ fs a.1).map jN,KG {rp,rfl,bx.of hr8},.inr (yw (bo.of htq) hR),D7 _ λr hr z hz=>lU ((hg r hr).2.2 z hz),?_,?_,_,rfl,?_}
   ·simp only[SeqAt.shaped,cE]at sh;exact sh.1
   ·simp[jN,PyData.depth,qY]
   ·rw[YQ];refine fZ (λc=>?_) (λc=>?_)
    ·have nm:AskP.image known v a.2∉bZ fs a.1:=by simpa using c
     have ff:AskP.fits isUnk (bZ fs) ats known v=false:=by
      cases z:AskP.fits isUnk (bZ fs) ats known v with
      |false=>rfl
      |true=>
       refine absurd ((AskP.Eg.mp z) a (aB ha) λt ht u=>?_) nm;refine ng λc2=>?_;have:t∈a.2.filter λt=>isUnk t&&decide (t∉known):=bD.mpr {ht,by rw[u,ba c2];rfl};rw[q]at this;cases this
     rw[ff]at k;exact k H8 IQ
    ·refine{_,_,rfl,IQ,bU,?_};rw[fs1];exact ba (by simpa using c)
  ·refine fZ (λc=>?_) (λ_=>?_)
   ·exact absurd (by simpa using c) q
   ·refine{_,_,rfl,vD,bU,?_};rw[fs1,bC q];rfl
 ·rintro Z H2 ⟨x4,x5,rfl,s2,_,hf⟩;rw[la,aT]at hf;rw[hf]at k;exact k H2 s2
def JF(h:q none H):LV Z H q:=h
def YI(xs:Aao)(j:Nat):vU xs none (some (j:Int))=xs.take j:=by
 unfold vU;rw[HT.IL,HT.F0,List.drop_zero,BM];by_cases h:j<=xs.length
 ·rw[il h]
 ·rw[Nat.min_eq_right ∅,aT,cj ∅]
theorem yI{un:Str->Bool}{db:Str->Aab}{us vals:Aah}:∀p,(AskP.iO un db ats us vals p).length<=vals.length^p
 |0=>aC (cS _ _) (ak _)
 |p+1=>by refine aC (cS _ _) ?_;rw[Ef,jk];exact zL _ (yI p)
def AX(un:Str->Bool)(db:Str->Aab)(ats:Aaa)(us vals:Aah):Nat->Aab
 |0=>[[]]
 |p+1=>(AskP.iO un db ats us vals p).flatMap λv=>vals.map λx=>v++[x]
theorem yH:∀p,AskP.iO un db ats us vals p=(AX un db ats us vals p).filter (AskP.fits un db ats (us.take p))
 |0=>rfl
 |_+1=>rfl
theorem Cd:∀p,∀v∈AX un db ats us vals p,v.length=p/\∀x∈v,x∈vals
 |0,v,h=>by cases ay.mp h;exact{rfl,λx hx=>by cases hx}
 |p+1,v,h=>by
  obtain⟨v',h1,h2⟩:=eC.mp h;obtain⟨x,hx,rfl⟩:=aA.mp h2;rw[yH]at h1;obtain⟨g1,g2⟩:=Cd p v' (bD.mp h1).1;refine{by rw[aK,g1];rfl,λy hy=>?_};rcases aS.mp hy with hy|hy
  ·exact g2 y hy
  ·rw[ay.mp hy];exact hx
theorem XN:∀p,(AX un db ats us vals p).length<=vals.length^p
 |0=>ak _
 |p+1=>by show((AskP.iO un db ats us vals p).flatMap λv=>vals.map λx=>v++[x]).length<=_;rw[Ef,jk];exact zL _ (yI p)
def Ee{a:Addr}{xs:Aao}{g:TG}{tb:TS}{D:Ends}{Z:L2.St}{H:Hp}(Pv:Nat->L2.St->Hp->Prop)(h0:Pv 0 Z H)(hl:∀i Z H,i<=xs.length->Pv i Z H->bx K H a xs)
  (hs:∀i x Z H(D':Ends),xs[i]?=some x->Pv i Z H->(∀σ' H',Pv (i+1) σ' H'->D'.nx σ' H')->(∀v H',D.rt v H'->D'.rt v H')->g x Z H λσ2 H2=>tb D' σ2 H2) (hd:∀Z H,Pv xs.length Z H->D.nx Z H):=
 Cp Pv h0 hl (λi x Z H hx hp=>hs i x Z H _ hx hp (λ_ _ h=>h) λ_ _ h=>h) hd
def RU{a:Addr}{xs:Aao}{g:TG}{tb:TS}{D:Ends}{Z:L2.St}{H:Hp}(Pv:Nat->L2.St->Hp->Prop)(h0:Pv 0 Z H)(hl:∀i Z H,i<=xs.length->Pv i Z H->bo K H a xs)
  (hs:∀i x Z H(D':Ends),xs[i]?=some x->Pv i Z H->(∀σ' H',Pv (i+1) σ' H'->D'.nx σ' H')->(∀v H',D.rt v H'->D'.rt v H')->g x Z H λσ2 H2=>tb D' σ2 H2) (hd:∀Z H,Pv xs.length Z H->D.nx Z H):=
 mi Pv h0 hl (λi x Z H hx hp=>hs i x Z H _ hx hp (λ_ _ h=>h) λ_ _ h=>h) hd
def OJ{lo:Int}{n:Nat}{g:TG}{tb:TS}{D:Ends}{Z:L2.St}{H:Hp}(Pv:Nat->L2.St->Hp->Prop)(h0:Pv 0 Z H)
  (hs:∀i Z H(D':Ends),i<n->Pv i Z H->(∀σ' H',Pv (i+1) σ' H'->D'.nx σ' H')->(∀v H',D.rt v H'->D'.rt v H')->g (.int (lo+i)) Z H λσ2 H2=>tb D' σ2 H2) (hd:∀Z H,Pv n Z H->D.nx Z H):=
 qy Pv h0 (λi Z H hx hp=>hs i Z H _ hx hp (λ_ _ h=>h) λ_ _ h=>h) hd
def OK{d:Addr}{o:Obj}{u:HO}{kvs:Aam}{g:TG}{tb:TS}{D:Ends}{Z:L2.St}{H:Hp}(Pv:Nat->L2.St->Hp->Prop)(h0:Pv 0 Z H)(hl:∀i Z H,i<=kvs.length->Pv i Z H->H d=some (.c6 o u))
  (hs:∀i kv Z H(D':Ends),kvs[i]?=some kv->Pv i Z H->(∀σ' H',Pv (i+1) σ' H'->D'.nx σ' H')->(∀v H',D.rt v H'->D'.rt v H')->g kv.1 Z H λσ2 H2=>tb D' σ2 H2) (hd:∀Z H,Pv kvs.length Z H->D.nx Z H):=
 Ht Pv h0 hl (λi kv Z H hx hp=>hs i kv Z H _ hx hp (λ_ _ h=>h) λ_ _ h=>h) hd
inductive Pz(K:Frag)(vs:Aao)(H:Hp)(Q:VK)(_x3:XK):Prop
 |mk (aa tb:Addr) (eR:Aao) (ats:Aaa) (fs:List En) (_:vs=[.ref aa,.ref tb]) (_:H aa=some (.tup eR)) (_:gF H eR ats) (_:Good ats) (_:ats.length<=8) (_:iT K H tb fs) (_:∀(l:Addr)(ys:Aao)(H':Hp)(vals:Aah),bA H H'->H l=none->H' l=some (.lst ys)->vals.Nodup->(∀x∈vals,x∈cM)->(∀e∈fs,∀r∈e.rows,∀x∈r,x∈vals)->mG H' (dc (b8 ats)) ys (AskP.iO isUnk (bZ fs) ats (dc (b8 ats)) vals (dc (b8 ats)).length)->Q (.ref l) H')
structure Dw6(P:Program)(w:World)(K:Frag)(mg:Aad)(base:Heap):Prop where
 aaA:eG P w K mg base 1 "_law_fits" ["_law_atoms","_law_tables_here","_law_known","_law_way"] (PH K)
 Ui:eG P w K mg base 1 "_law_longer" ["_law_ways_here","_law_unknown","_law_values_here"] (IE K)
def gX:cz ["_law_atoms","_law_tables_here","_law_unknowns","_law_values_here","_law_name","_law_terms","_law_term","_law_row","_law_value","_law_ways_here","_law_place"] ["_law_atoms","_law_tables_here"] (bQ DK):=jV (-3)
def X1(F:fG K "_law_ways" "_law_ways" DK f fd)(T:Txt K mg)(D:Dw6 P w K mg base):dh P w K mg base fW 2 f fd ["_law_atoms","_law_tables_here"] (Pz K):=by
 refine F.ok gX (λ_ _ _ _ h=>by cases h;subst_vars;rfl) (-6);obtain⟨aa,tb,eR,ats,fs,rfl,yr,mP,good,l8,tab,k⟩:=h;have hu:=jQ hr;refine{_,(aO (pz (i:=2) gX.nd rfl (Or.inr rfl) (gY jh)) (aO (gn 3 gX mh) (aO (fg bJ rfl (nK (pv 0)) (mE rfl (df (jg 4 gX) (df (jg 5 gX) j6))) (aY (fg bJ rfl (nK (pv 5)) (jg 6 gX) (aY (iJ (PW.pt (EU (d5 zd (dj QS (pv 6) bg (-15)) eI (gG _)) (Cc (d5 A2 (pv 6) (pv 2) (-43))))) (aY (kH (mX cQ dO dM lW (pv 2) (cH (pv 6))))) fm))))) (aO (DS (fg bJ rfl (Jh (pv 1)) (jg 4 gX) (aY (fg bJ rfl (fS (vf hu (pv 1) (pv 4) (-15))) (jg 7 gX) (aY (fg bJ rfl (nK (pv 7)) (jg 8 gX) (aY (xR hu (pv 3) (pv 8) pU rfl)))))))) (aO (gn 9 gX (gY (cH mh))) (aO (fg bJ rfl (lV rfl T.qu (cH (d6 ki (cA gz rfl T.jO cL (cH (pv 2))) bg))) (oF (i:=10) gX.nd rfl (Or.inr rfl)) (aO (Jc (j:=9) gX.nd rfl rfl rfl (dy (fs:=["_law_atoms","_law_tables_here","_law_unknowns","_law_place"]) (fr:=[0,1,2,10])) (fS (pv 9)) (λ_ _ _ _=>(mD (cl D.aaA hr (fT (pv 1) (pA (pv 2) (y8 (IH) (pv 3) Cf (Ce (pv 4))) (pv 0)))))) (λ_ _ _ _=>(pv 0))) (aY (iJ (d5 NY (pv 10) (cA gz rfl T.jO cL (cH (pv 2))) (gG _)) (aY (gn 9 gX (cl D.Ui hr (pA (pv 9) (dj fU (pv 2) (pv 10) (-15)) (pv 3))))) fm)))) (aY (cN (pv 9))))))))),?_}
 have la:=bp mP;have nd:=iY (b8 ats);have V2:(dc (b8 ats)).length<=6:=eX (m:=je) nd λt ht=>by obtain⟨u,h⟩:=nq.mp ht;unfold b8 at h;obtain⟨ts,m6,h⟩:=mn.mp h;obtain⟨b,hb,rfl⟩:=aA.mp m6;exact(kG ((good b hb).2.1 t h)).2.2 u
 refine{by show 0<=sizeLine;decide,λul hul=>?_};have s1:=aN hul (-40);have Kb:upd H ul (-40) ul=some (.lst []):=ar;generalize (upd H ul (-40))=H1 at s1 Kb⊢;intro vd Wh;have s2:=aN Wh (.dK []);have J4:upd H1 vd (.dK []) vd=some (.dK (g6 [])):=ar;have yl:=s2 _ _ Kb;have jf:=s1.trans s2;have WN:=s1.free Wh;have vul:vd≠ul:=λz=>by rw[z,Kb]at Wh;cases Wh
 generalize (upd H1 vd (.dK []))=H2 at s2 J4 yl jf⊢;refine{_,rfl,aa,rfl,{eR,bx.of (jf _ _ yr)},Ee
  (λi Z H3=>∃(x4 x5 x6:Aap),Z=[some (.ref aa),some (.ref tb),some (.ref ul),some (.ref vd),x4,x5,x6,none,none,none,none]/\bA H H3/\i<=ats.length/\H3 vd=some (.dK (g6 []))/\H3 ul=some (.lst ((dc (b8 (ats.take i))).map V.str))) {none,none,none,rfl,jf,aP _,J4,yl} (λi Z H3 _ hq=>by(obtain⟨_,_,_,_,sm,_⟩:=hq;exact bx.of (sm _ _ yr))) ?_ ?_}
 ·rintro i x Z H3 D1 hx ⟨x4,x5,x6,rfl,s3,_,Q7,Ka⟩ Mt _;obtain⟨a,ha,p,t,rfl,hp,ht⟩:=Paired.at mP hx;have bU:=(ao.mp ha).1;obtain⟨l4,HV,_,_⟩:=good a (aB ha);refine{p,_,rfl,bx.of (s3 _ _ hp),rfl,_,_,rfl,_,_,rfl,rfl,?_};refine{_,rfl,t,rfl,{_,bx.of (s3 _ _ ht)},Ee
   (λj Z H4=>∃(x6:Aap),Z=[some (.ref aa),some (.ref tb),some (.ref ul),some (.ref vd),some (.str a.1),some (.ref t),x6,none,none,none,none]/\bA H H4/\j<=a.2.length/\H4 vd=some (.dK (g6 []))/\H4 ul=some (.lst ((dc (b8 (ats.take i)++a.2.take j)).map V.str))) {x6,rfl,s3,aP _,Q7,by rw[List.take_zero,cu];exact Ka} (λj Z H4 _ hq=>by(obtain⟨_,_,sm,_⟩:=hq;exact bx.of (sm _ _ ht))) ?_ ?_}
  ·rintro j y Z H4 D2 hy ⟨x6,rfl,s4,_,yj,He⟩ Qq _;obtain⟨z,hz,rfl⟩:=iA hy;have hj:=(ao.mp hz).1;have Q5:=HV z (aB hz);obtain⟨c,hc0,UM⟩:=KR Q5;have ei:=jv hc0;have uw:=(kG Q5).2.1;have en:dc (b8 (ats.take i)++a.2.take (j+1))=step (dc (b8 (ats.take i)++a.2.take j)) z:=by rw[aV,hz,<-Ij,cD];rfl
   refine{_,rfl,_,_,_,rfl,rfl,br (bO ∅),ei,rfl,?_};rw[UM];refine{_,rfl,fZ (λc1=>?_) (λc1=>?_)}
   ·refine{_,rfl,_,rfl,ul,_,rfl,.inl (bo.of He),rfl,w4 _,_,rfl,?_};rw[Cn];have lun:=Gb (b8 (ats.take i)++a.2.take j);rw[aK,aL]at lun;have lfl:=Ci (ats.take i) λb hb=>(good b (fq hb)).1;rw[aL]at lfl;refine fZ (λc2=>?_) (λc2=>?_)
    ·have nm:z∉dc (b8 (ats.take i)++a.2.take j):=by simpa using c2
     refine{_,rfl,.inl {rfl,_,bo.of He},_,rfl,ul,_,_,rfl,rfl,He,by rw[ag];exact bO ∅,?_};refine Qq _ _ {_,rfl,λb o e=>?_,hj,by rw[aw vul];exact yj,?_}
     ·rw[aw (aW e hul)];exact s4 _ _ e
     ·rw[ar,en];unfold step;rw[aD c1,au nm,aM];rfl
    ·have nm:z∈dc (b8 (ats.take i)++a.2.take j):=by simpa using c2
     refine Qq _ _ {_,rfl,s4,hj,yj,?_};rw[en];unfold step;rw[aD c1,aD nm];exact He
   ·refine nO (Qq _ _ {_,rfl,s4,hj,yj,?_});rw[en];unfold step;rw[au c1];exact He
  ·rintro Z H4 ⟨x6,rfl,s4,_,yj,He⟩;refine Mt _ _ {_,_,_,rfl,s4,bU,yj,?_};rw[ag,aT]at He;rw[zu ha];exact He
 rintro Z H3 ⟨x4,x5,x6,rfl,s3,_,Q7,Ka⟩;rw[la,aT]at Ka;generalize dc (b8 ats)=us at Ka nd V2 k;have Kd:=s3 _ _ tab.at_;refine{tb,(λu v e=>by rw[Kd]at e;cases e),?_};refine{_,rfl,tb,_,(fs.map g8).map (λp=>(kV p.1,p.2)),rfl,Kd,.inl ⟨_,rfl,rfl⟩,λo=>?_};have Zd:vd≠tb:=λz=>by rw[z,tab.at_]at WN;cases WN
 have Zn:=bV Zd;have Wg:upd H3 tb (.c6 o (.dK (fs.map g8))) vd=some (.dK (g6 [])):=by rw[aw Zd];exact Q7
 have Q9:upd H3 tb (.c6 o (.dK (fs.map g8))) tb=some (.c6 o (.dK (fs.map g8))):=ar;have uu:SB tb H3 (upd H3 tb (.c6 o (.dK (fs.map g8)))):=λb u n e=>by rw[aw n];exact e
 have ntb:=zf Kd;have AB:=uu.tp ntb;generalize Fo:upd H3 tb (.c6 o (.dK (fs.map g8)))=Hf at Wg Q9 uu AB⊢;have ntv:ij Hf vd:=zf Wg;have lfs:((fs.map g8).map λp=>(kV p.1,p.2)).length=fs.length:=by rw[ag,ag]
 have gD:∀{vals:Aah},vals.Nodup->(∀x∈vals,x∈cM)->vals.length<=8:=λn h=>eX (m:=cM) n h;refine OK (d:=tb) (o:=o) (u:=.dK (fs.map g8)) (kvs:=(fs.map g8).map λp=>(kV p.1,p.2)) (λi Z H4=>∃(x4 x5 x6 x7 x8:Aap)(vals:Aah),Z=[some (.ref aa),some (.ref tb),some (.ref ul),some (.ref vd),x4,x5,x6,x7,x8,none,none]/\SB vd Hf H4/\i<=fs.length/\H4 vd=some (.dK (g6 vals))/\vals.Nodup/\(∀x∈vals,x∈cM)/\∀e∈fs.take i,∀r∈e.rows,∀x∈r,x∈vals)
  {_,_,_,_,_,[],rfl,λ_ _ _ e=>e,aP _,Wg,.nil,λx hx=>(by cases hx),λe he=>(by cases he)} (λi Z H4 _ ⟨_,_,_,_,_,_,_,sb,_⟩=>sb _ _ Zn Q9) ?_ ?_
 ·rintro i kv Z H4 D1 iD ⟨x4,x5,x6,x7,x8,vals,rfl,CS,_,yj,vn,vp,va⟩ Mt _;rw[bX,aJ]at iD;obtain⟨e,MU,ekv⟩:=a9.mp iD;have ek:kv.1=V.str e.nm:=by rw[<-ekv];rfl
  have bU:i<fs.length:=(ao.mp MU).1;have he:=aB MU;obtain⟨WE,hR,yo,hg⟩:=tab.en e he;have ned:e.ad≠tb:=λq=>by rw[q,tab.at_]at WE;cases WE
  have nev:e.ad≠vd:=aW WE WN;have abi:=uu _ _ ned (s3 _ _ WE);have aei:=CS _ _ nev abi;have hRf:=qr hR ((eK.same s3).trans AB);have adU:=CS _ _ Zn Q9;rw[ek];have g:kF H4 tb (.str e.nm) (some (.ref e.ad)):=.inl {fs.map g8,Sum.inr e.nm,.inr ⟨o,adU⟩,rfl,(B8 tab.nm he).symm};refine{_,rfl,_,rfl,tb,_,rfl,g,e.ad,rfl,{_,bo.of aei},RU (K:=K) (a:=e.ad) (xs:=e.ys)
   (λj Z H5=>∃(x7 x8:Aap)(vals:Aah),Z=[some (.ref aa),some (.ref tb),some (.ref ul),some (.ref vd),some (.str e.nm),x5,x6,x7,x8,none,none]/\SB vd Hf H5/\j<=e.rows.length/\H5 vd=some (.dK (g6 vals))/\vals.Nodup/\(∀x∈vals,x∈cM)/\(∀e∈fs.take i,∀r∈e.rows,∀x∈r,x∈vals)/\∀r∈e.rows.take j,∀x∈r,x∈vals)
   {x7,x8,vals,rfl,CS,aP _,yj,vn,vp,va,λr hr=>(by cases hr)} (λj Z H5 _ hq=>by(obtain⟨_,_,_,_,sb,_⟩:=hq;exact bo.of (sb _ _ nev abi))) ?_ ?_}
  ·rintro j y Z H5 D2 hy ⟨x7,x8,vals,rfl,xK,_,Fe,Zg,Zf,Zj,Vr⟩ Qq _;obtain⟨r,uz,ra,rfl,Bo⟩:=Paired.at' hRf hy;have lX:j<e.rows.length:=(ao.mp uz).1;have hgr:=hg r (aB uz);have adY:=nE Bo (xK.tp ntv);refine{_,rfl,ra,rfl,⟨_,adY⟩,Ee (K:=K) (a:=ra) (xs:=r.map V.str)
    (λm Z H6=>∃(x8:Aap)(vals:Aah),Z=[some (.ref aa),some (.ref tb),some (.ref ul),some (.ref vd),some (.str e.nm),x5,x6,some (.ref ra),x8,none,none]/\SB vd Hf H6/\m<=r.length/\H6 vd=some (.dK (g6 vals))/\vals.Nodup/\(∀x∈vals,x∈cM)/\(∀e∈fs.take i,∀r∈e.rows,∀x∈r,x∈vals)/\(∀r∈e.rows.take j,∀x∈r,x∈vals)/\∀x∈r.take m,x∈vals)
    {x8,vals,rfl,xK,aP _,Fe,Zg,Zf,Zj,Vr,λx hx=>(by cases hx)} (λm Z H6 _ ⟨_,_,_,sb,_⟩=>nE Bo (sb.tp ntv)) ?_ ?_}
   ·rintro m y Z H6 D3 hy6 ⟨x8,vals,rfl,kM,_,Hc,Pk,Pj,Zh,Ze,Vs⟩ nx3 _;obtain⟨z,hz,rfl⟩:=iA hy6;have hml:m<r.length:=(ao.mp hz).1;have zp:=hgr.2.2 z (aB hz);have lv:=gD Pk Pj;refine{_,rfl,_,rfl,vd,_,rfl,B3.k (k:=Sum.inr z) Hc (by unfold g6;rw[ag];exact bO ∅),?_};have ep:putK (g6 vals) (Sum.inr z:Key) (V.bl true)=g6 (if z∈vals then vals else vals++[z]):=IZ vals z;have sub:∀x∈vals,x∈(if z∈vals then vals else vals++[z]):=λx hx=>by
     split
     ·exact hx
     ·exact dD _ hx
    have zin:z∈(if z∈vals then vals else vals++[z]):=by
     split
     ·next h=>exact h
     ·exact b7 _ ax
    refine nx3 _ _ {_,if z∈vals then vals else vals++[z],rfl,λb u n e=>?_,hml,?_,?_,?_,λe he r hr x hx=>sub x (Zh e he r hr x hx),λr hr x hx=>sub x (Ze r hr x hx),λx hx=>?_}
    ·rw[aw n];exact kM _ _ n e
    ·rw[ar,ep]
    ·split
     ·exact Pk
     ·next h=>exact fL.mpr {Pk,fo _ _,λa ha b hb=>by rw[ay.mp hb];exactλq=>h (by rw[<-q];exact ha)}
    ·split
     ·exact Pj
     ·intro x hx;rcases aS.mp hx with hx|hx
      ·exact Pj x hx
      ·rw[ay.mp hx];exact zp
    ·rw[aV,hz,bI]at hx;rcases aS.mp hx with hx|hx
     ·exact sub x (Vs x hx)
     ·rw[ay.mp hx];exact zin
   ·rintro Z H6 ⟨x8,vals,rfl,kM,_,Hc,Pk,Pj,Zh,Ze,Vs⟩;rw[ag,aT]at Vs;refine Qq _ _ {_,_,vals,rfl,kM,lX,Hc,Pk,Pj,Zh,λr' nP x hx=>?_};rw[aV,uz,bI]at nP;rcases aS.mp nP with nP|nP
    ·exact Ze r' nP x hx
    ·rw[ay.mp nP]at hx;exact Vs x hx
  ·rintro Z H5 ⟨x7,x8,vals,rfl,xK,_,Fe,Zg,Zf,Zj,Vr⟩;have lr:e.ys.length=e.rows.length:=hR.length;rw[lr,aT]at Vr;refine Mt _ _ {_,_,_,_,_,vals,rfl,xK,bU,Fe,Zg,Zf,λe' Ae r hr x hx=>?_};rw[aV,MU,bI]at Ae;rcases aS.mp Ae with Ae|Ae
   ·exact Zj e' Ae r hr x hx
   ·rw[ay.mp Ae]at hr;exact Vr r hr x hx
 rintro Z H4 ⟨x4,x5,x6,x7,x8,vals,rfl,CS,_,yj,vn,vp,va⟩;rw[lfs,aT]at va;refine{o,_,CS _ _ Zn Q9,?_};have lv:=gD vn vp;have s5:bA H (upd H4 tb (.dK (fs.map g8))):=λb u e=>by
  by_cases z:b=tb
  ·rw[z,tab.at_]at e;cases e;rw[z,ar]
  ·rw[aw z];exact CS _ _ (aW e WN) (uu _ _ z (s3 _ _ e))
 have Fe:upd H4 tb (.dK (fs.map g8)) vd=some (.dK (g6 vals)):=by rw[aw Zd];exact yj
 have utb:ul≠tb:=λz=>by rw[z,Kd]at Ka;cases Ka
 have hu5:upd H4 tb (.dK (fs.map g8)) ul=some (.lst (us.map V.str)):=by rw[aw utb];exact CS _ _ (bV vul) (uu _ _ utb Ka)
 generalize (upd H4 tb (.dK (fs.map g8)))=H5 at s5 Fe hu5⊢;clear CS uu Q9 Wg yj AB Fo ntv
 refineλd0 iM=>{by show 1<=sizeLine;decide,λwl J0=>?_}
 have s6:=(aN iM (.dK [])).trans (aN J0 (.lst [V.ref d0]));have hd6:upd (upd H5 d0 (.dK [])) wl (.lst [V.ref d0]) d0=some (.dK (jC [] [])):=(aN J0 _) _ _ ar;have hw6:upd (upd H5 d0 (.dK [])) wl (.lst [V.ref d0]) wl=some (.lst [V.ref d0]):=ar;have h0w:H wl=none:=(s5.trans (aN iM (.dK []))).free J0;generalize (upd (upd H5 d0 (.dK [])) wl (.lst [V.ref d0]))=H6 at s6 hd6 hw6⊢;have Wl:=s6 _ _ hu5;have Hc:=s6 _ _ Fe;have vC:=s5.trans s6
 let Wi:Nat->Aab:=λi=>if i<=us.length then AX isUnk (bZ fs) ats us vals i else AskP.iO isUnk (bZ fs) ats us vals us.length
 refine{_,rfl,_,_,rfl,.inl {_,bo.of Wl,rfl},_,_,rfl,rfl,((us.length:Int)+1),?_,?_,?_,OJ (lo:=0) (n:=us.length+1) (λi Z H7=>∃(wl:Addr)(ys:Aao)(GA:Aap),Z=[some (.ref aa),some (.ref tb),some (.ref ul),some (.ref vd),x4,x5,x6,x7,x8,some (.ref wl),GA]/\bA H6 H7/\H wl=none/\H7 wl=some (-48)/\mG H7 (us.take i) ys (Wi i))
  {wl,[.ref d0],none,rfl,λ_ _ e=>e,h0w,hw6,?_} ?_ ?_}
 ·rw[ag]
 ·lia
 ·lia
 ·show mG H6 (us.take 0) [.ref d0] (if 0<=us.length then _ else _);rw[aD (aP _)];exact .cons ⟨d0,rfl,hd6⟩ .nil
 ·rintro i Z H7 D1 hi ⟨w1,ys,GA,rfl,s7,abm,We,hW⟩ Mt _;have ic:i<=us.length:=by lia
  have eW:Wi i=AX isUnk (bZ fs) ats us vals i:=aD ic;rw[eW]at hW;have lp:(AX isUnk (bZ fs) ats us vals i).length<=262144:=aC (XN i) (aC (rQ lv i) (aC (gj (-8) (show i<=6 by lia)) (-8)));have JN:ys.length=(AX isUnk (bZ fs) ats us vals i).length:=bp hW;have vB:=vC.trans s7;rw[rC];refine{_,rfl,w1,rfl,{_,bo.of We},kQ (K:=K) (a:=w1) (xs:=ys) (λj zs H8=>bA H7 H8/\j<=ys.length/\mG H8 (us.take i) zs (((AX isUnk (bZ fs) ats us vals i).take j).filter (AskP.fits isUnk (bZ fs) ats (us.take i)))/\zs.length<=j) (by rw[JN];exact cK lp (-8)) {λ_ _ e=>e,aP _,.nil,ak _} ?_ ?_ ?_}
  ·rintro j zs H8 hj ⟨s8,_,_,lz⟩;exact{bo.of (s8 _ _ We),lz}
  ·rintro j y zs H8 N hy ⟨s8,hj,Bk,lz⟩ hN;obtain⟨v,hv,wd,rfl,Hb⟩:=Paired.at' hW hy;have lX:j<ys.length:=(ao.mp hy).1;obtain⟨g1,g2⟩:=Cd i v (aB hv);have IQ:=vB.trans s8;refine{_,rfl,_,rfl,_,rfl,JF {_,rfl,_,rfl,ul,_,rfl,bo.of (s8 _ _ (s7 _ _ Wl)),λkp Hl=>?_}};have ec:vU (us.map V.str) none (some (i:Int))=(us.take i).map V.str:=by rw[YI,List.map_take]
   rw[ec];have s9:=aN Hl (.lst ((us.take i).map V.str));have hk9:upd H8 kp (.lst ((us.take i).map V.str)) kp=some (.lst ((us.take i).map V.str)):=ar;generalize (upd H8 kp (.lst ((us.take i).map V.str)))=H9 at s9 hk9⊢;have ZS:=IQ.trans s9;refine{_,rfl,aa,tb,kp,wd,eR,ats,fs,us.take i,v,rfl,ZS _ _ yr,lL mP ZS,good,tab.same ZS,bo.of hk9,s9 _ _ (s8 _ _ Hb),by rw[g1,aL];lia,λz hz=>lU (vp z (g2 z hz)),λwk mW=>{_,rfl,?_}};have CU:=s9.trans mW;refine fZ (λc=>{_,rfl,hN _ _ {s8.trans CU,lX,?_,?_}}) (λc=>hN _ _ {s8.trans CU,lX,?_,by lia})
   ·rw[aV,hv,bI,gc,gR,aD c,xa];exact(Ay Bk CU).snoc {wd,rfl,CU _ _ (s8 _ _ Hb)}
   ·rw[aK,dt];lia
   ·rw[aV,hv,bI,gc,gR,au c,xa,cu];exact Ay Bk CU
  rintro zs H8 ⟨s8,_,Bk,_⟩ w2 J3;rw[JN,aT,<-yH]at Bk;have s9:=s8.trans (aN J3 (.lst zs));have uw:=Ay Bk (aN J3 (.lst zs));have Ac:upd H8 w2 (.lst zs) w2=some (.lst zs):=ar;have aem:H w2=none:=(vB.trans s8).free J3;generalize (upd H8 w2 (.lst zs))=H9 at s9 uw Ac⊢;have L6:=s7.trans s9;have lw:(AskP.iO isUnk (bZ fs) ats us vals i).length<=262144:=aC (yI i) (aC (rQ lv i) (aC (gj (-8) (show i<=6 by lia)) (-8)));refine{_,rfl,_,rfl,_,_,rfl,.inl {_,bo.of (L6 _ _ Wl),rfl},_,_,rfl,rfl,_,rfl,?_};rw[ag];refine fZ (λc=>?_) (λc=>?_)
  ·have Ox:i<us.length:=by have:=bw c;lia
   obtain⟨u,qR⟩:∃u,us[i]?=some u:={_,aq Ox};have nu:u∉us.take i:=λz=>by obtain⟨RB,e⟩:=ao.mp qR;obtain⟨j,hj,ej⟩:=d9.mp z;rw[aL]at hj;rw[CI]at ej;exact eE.mp nd j i ∅ RB ∅ (by rw[ej,e])
   refine{_,rfl,_,rfl,_,rfl,ul,_,_,V.str u,rfl,rfl,bo.of (L6 _ _ Wl),jv (by rw[aJ,qR];rfl),_,rfl,w2,vd,us.take i,vals,u,zs,_,rfl,bo.of Ac,uw,L6 _ _ Hc,nu,λv hv=>?_,by rw[aL];lia,lv,by lia,λr rH wk mW uz Om aek=>?_}
   ·rw[yH]at hv;rw[(Cd i v (bD.mp hv).1).1,aL];lia
   ·refine Mt _ _ {r,rH,_,rfl,L6.trans mW,(vC.trans L6).free uz,Om,?_};rw[aV,qR,bI];show mG wk (us.take i++[u]) rH (if i+1<=us.length then _ else _);rw[aD (show i+1<=us.length from Ox)];exact aek
  ·have Ox:i=us.length:=by have:¬(i:Int)<(us.length:Int):=λq=>c (ba q);lia
   refine Mt _ _ {w2,zs,_,rfl,L6,aem,Ac,?_};show mG H9 (us.take (i+1)) zs (if i+1<=us.length then _ else _);rw[au ∅,<-Ox,cj (show us.length<=i+1 by lia)];rw[cj (show us.length<=i by lia)]at uw;exact uw
 ·rintro Z H7 ⟨w1,ys,GA,rfl,s7,abm,We,hW⟩;have hW:mG H7 (us.take (us.length+1)) ys (if us.length+1<=us.length then _ else AskP.iO isUnk (bZ fs) ats us vals us.length):=hW;rw[au ∅,cj ∅]at hW;exact{_,rfl,k w1 ys H7 vals (vC.trans s7) abm We vn vp va hW}
def GW{X:Cx}{o i:Expr}{pos:Pos}{td ty:TE}(hu:X.A.units+101<cLine)(ho:PE X o td)(hi:PE X i ty)(hs:O9 i)(h1:X.prog=P:=by rfl)(h2:X.w=w:=by rfl)(h3:X.K=K:=by rfl):PE X (.Subscript o i pos) (Iu P w K td ty):=by subst h1 h2 h3;exact Jm hu ho hi hs
def A3(tab:iT K H tb fs)(bj:pR hz ats)(hi:∀row,row∈rows↔∃g,AskP.kC isUnk (dbT fs) ats g/\row=hz.map g):BK (dA rows):=λr hr z oU=>by
 obtain⟨g,hg,rfl⟩:=(hi r).mp ((gg rows).mem_iff.mp hr);obtain⟨t,ht,rfl⟩:=aA.mp oU;cases u:isUnk t with
 |false=>rw[hg.1 t u];exact(kG (bj.2 t ht).1).1
 |true=>
  have:=(bj.2 t ht).2 u;unfold b8 at this;obtain⟨ts,m6,h⟩:=mn.mp this;obtain⟨b,hb,rfl⟩:=aA.mp m6;exact lU (((tab.good b.1).2 _ ((gZ _ _).mp (hg.2 b hb))).2.2 _ (aA.mpr ⟨t,h,rfl⟩))
def L9{fs:List En}{hz:Aah}{ats:Aaa}{rows:Aab}(nd:rows.Nodup)(hi:∀row,row∈rows↔∃g,AskP.kC isUnk (dbT fs) ats g/\row=hz.map g)(h2:2<=rows.length):∀r∈rows,r≠[]:=λr hr er=>by
 obtain⟨g,_,eg⟩:=(hi r).mp hr;rw[er]at eg;have ez:=mS.mp eg.symm;have:=eX (m:=([[]]:Aab)) nd λy hy=>by obtain⟨g',_,e'⟩:=(hi y).mp hy;rw[e',ez];exact ax
 rw[dt]at this;lia
def u7(K:Frag)(H:Hp)(v:V)(x:Aah×Int):Prop:=∃p g ys,v=.ref p/\H p=some (.tup [.ref g,.int x.2])/\H g=some (.tup ys)/\bx K H g (x.1.map V.str)
def NU{H H':Hp}{v:V}{x:Aah×Int}(h:u7 K H v x)(s:bA H H'):u7 K H' v x:=by obtain⟨p,g,ys,e,h1,h2,h3⟩:=h;exact{p,g,ys,e,s _ _ h1,s _ _ h2,gP h3 s}
def jW{H H':Hp}{zs:Aao}{l:Cm}(h:Paired (u7 K H) zs l)(s:bA H H'):Paired (u7 K H') zs l:=Paired.qM h λ_ _ h=>NU h s
def Js{d:Addr}{m:Cm}{H:Hp}{Z:L2.St}{Q:VK}(e:Z[2]?=some (some (.ref d)))(rc:KY P w K H d m)(gD:m.length<=500000)(E1:∀r∈m.map (·.1),pK r)(h9:2<=(m.map (·.1)).length->∀r∈m.map (·.1),r≠[])
  (k:∀(l:Addr)(zs:Aao)(H':Hp),bA H H'->H l=none->H' l=some (.lst zs)->Paired (u7 K H') zs ((dA (m.map (·.1))).map λr=>(r,cnt m r))->Q (.ref l) H'):
  uN (Wa K (VC (λxs H Q=>∃(a:Addr)(kvs:List (-44))(rows:Aab),xs=[.ref a]/\fH P w K H a kvs/\kvs.map (·.1)=rows.map dY/\(2<=rows.length->∀r∈rows,r≠[])/\rows.length<1000000/\SortedTo K H (kvs.map λp=>.ref p.2.1) rows Q) (oB (AE 2) AF))) [2] B9 (SX (oB (AE 0) (oB (Iu P w K (AE 1) (AE 0)) AF))) Z H Q:=by
 obtain⟨kvs,ha,em,gq⟩:=rc;have e1:kvs.map (·.1)=(m.map (·.1)).map dY:=by have:=cc (List.map Prod.fst) em;unfold qC at this;rw[bX,bX]at this;rw[bX];exact this
 have lm:(m.map (·.1)).length<=500000:=by rw[ag];exact gD
 refine{_,e,d,kvs,m.map (·.1),rfl,ha,e1,h9,by lia,λl zs hl hr hm=>?_};have s1:=aN hl (.lst zs);have pF:upd H l (.lst zs) l=some (.lst zs):=ar;have tM:=iZ hr s1;have ats:∀{H':Hp},bA H H'->fH P w K H' d kvs:=λs=>by obtain⟨u,hu⟩:=ha.some;exact ha.tp (eK.same s) (by rw[hu,s _ _ hu])
 generalize (upd H l (.lst zs))=H1 at s1 pF tM⊢;have lz:=hr.length;have lr:(dA (m.map (·.1))).length<=500000:=by rw[(gg _).length_eq];exact lm
 refine{l,rfl,{_,bo.of pF},kQ (λj ys H2=>bA H1 H2/\j<=(dA (m.map (·.1))).length/\Paired (u7 K H2) ys (((dA (m.map (·.1))).take j).map λr=>(r,cnt m r))) (by rw[lz];exact cK lr (-8)) {λ_ _ e=>e,aP _,.nil} ?_ ?_ ?_}
 ·rintro j ys H2 hj ⟨s2,_,pp⟩;have:=bp pp;rw[ag,aL]at this;exact{bo.of (s2 _ _ pF),by lia}
 ·rintro j x ys H2 N hx ⟨s2,hj,pp⟩ hN;obtain⟨r,qT,a,rfl,Bo⟩:=Paired.at' tM hx;have lX:=(ao.mp qT).1;have rm:=(gg _).mem_iff.mp (aB qT);obtain⟨p,hp,ep⟩:=aA.mp (hm (-49) (aB hx));cases ep;obtain⟨xs,hxs⟩:=gq p hp;have jf:=s1.trans s2;have hv:valN kvs (dY r)=some (.int (cnt m r)):=by
   rw[B7 em];unfold cnt;obtain⟨x,hx,ex⟩:=aA.mp rm;cases q:m.find? (λx=>decide (x.1=r))with
   |none=>exact absurd (ba ex) (BU.mp q x hx)
   |some y=>rfl
  have es:(some (V.ref p.2.1)::slotsOf [2] Z)[1]?=some (some (.ref d)):=by show some ((Z[2]?).getD none)=_;rw[e];rfl
  refine iy ?_;refine{_,rfl,_,es,_,rfl,d,p.2.1,kvs,dY r,_,rfl,rfl,ats jf,sf (gP Bo s2) (E1 r rm),hv,by show 2<=sizeLine;decide,λtp htp=>hN _ _ ?_};have s3:=aN htp (.tup [V.ref p.2.1,V.int (cnt m r)]);refine{s2.trans s3,lX,?_};rw[aV,qT,bI,aM];exact(jW pp s3).snoc {tp,p.2.1,xs,rfl,ar,s3 _ _ (jf _ _ hxs),gP Bo (s2.trans s3)}
 rintro ys H2 ⟨s2,_,pp⟩ l2 iX;rw[lz,aT]at pp;have s3:=aN iX (-48);exact k l2 ys _ (s1.trans (s2.trans s3)) ((s1.trans s2).free iX) ar (jW pp s3)
inductive HR(K:Frag)(vs:Aao)(H:Hp)(Q:VK)(_x3:XK):Prop
 |mk (v:V) (tb:Addr) (fs:List En) (hz:Aah) (ats:Aaa) (_:vs=[v,.ref tb]) (_:rh H v hz ats) (_:Good ats) (_:pR hz ats) (_:ats.length<=8) (_:iT K H tb fs) (_:∀(l:Addr)(zs:Aao)(rows:Aab)(H':Hp),bA H H'->H l=none->H' l=some (.lst zs)->rows.Nodup->(∀row,row∈rows↔∃g,AskP.kC isUnk (dbT fs) ats g/\row=hz.map g)->Paired (u7 K H') zs ((dA rows).map λr=>(r,num fs hz ats r))->Q (.ref l) H')
def Ik{m:Cm}{fs:List En}{hz:Aah}{ats:Aaa}(nd:(m.map (·.1)).Nodup)(ct:∀x∈m,x.2=num fs hz ats x.1):(dA (m.map (·.1))).map (λr=>(r,cnt m r))=(dA (m.map (·.1))).map λr=>(r,num fs hz ats r):=bH λr hr=>by obtain⟨x,hx,e⟩:=aA.mp ((gg _).mem_iff.mp hr);rw[Sl nd hx e,ct x hx,e]
def EO:cz ["question","tables","counts"] ["question","tables"] (bQ AQ):=jV (-3)
def N3{f:Addr}{fd:FuncData}(F:fG K "counted" "counted" AQ f fd)(T:Txt K mg)(D:Da6 P w K mg base):dh P w K mg base fW 8 f fd ["question","tables"] (HR K):=by
 refine F.ok EO (λ_ _ _ _ h=>by cases h;subst_vars;rfl) (-6);obtain⟨v,tb,fs,hz,ats,rfl,hq,good,bj,la,tab,k⟩:=h;have hN:=wX hr;refine{_,(aO (pz (i:=2) EO.nd rfl (Or.inr rfl) (cl D.Hy hr (fu (pv 0) (pv 1)))) (aY (cN (iz rfl (dy (fs:=["counts"]) (fr:=[2])) (fS (cA (vW hr.hd) rfl T.zg (-3) (cH (pv 2)))) (λ_ _ _ _=>(kh (fu (pv 0) (GW hN (pv 1) (pv 0) (-15))))))))),?_}
 refine{_,rfl,_,rfl,v,tb,fs,hz,ats,rfl,hq,good,bj,la,tab,λd m H1 s1 rc cm=>?_};refine Js rfl rc cm.gD (λr nP=>A3 tab bj cm.iff r ((gg _).mem_iff.mpr nP)) (L9 cm.nd cm.iff) λl zs H2 s2 qw iX pp=>?_;rw[Ik cm.nd cm.ct]at pp;exact k l zs _ H2 (s1.trans s2) (s1.free qw) iX cm.nd cm.iff pp
def PN:AskP.kC isUnk (bZ fs) ats g↔AskP.kC isUnk (dbT fs) ats g:=
 {λh=>{h.1,λa ha=>(gZ _ _).mpr (h.2 a ha)},λh=>{h.1,λa ha=>(gZ _ _).mp (h.2 a ha)}}
structure Dd6(P:Program)(w:World)(K:Frag)(mg:Aad)(base:Heap):Prop where
 aaz:eG P w K mg base 2 "_law_ways" ["_law_atoms","_law_tables_here"] (Pz K)
def yR:cz ["_law_question_here","_law_tables_here","_law_many","_law_way","_law_row"] ["_law_question_here","_law_tables_here"] (bQ FY):=jV (-3)
def aap(F:fG K "_law_due" "_law_due" FY f fd)(T:Txt K mg)(D:Dd6 P w K mg base):dh P w K mg base fW 3 f fd ["_law_question_here","_law_tables_here"] (HR K):=by
 refine F.ok yR (λ_ _ _ _ h=>by cases h;subst_vars;rfl) (-6);obtain⟨v,tb,fs,hz,ats,rfl,⟨q,hd,aa,eR,rfl,hq,vR,yr,mP⟩,good,bj,la,tab,k⟩:=h;have hu:=jQ hr;have hN:=wX hr;refine{_,(aO (pz (i:=2) yR.nd rfl (Or.inr rfl) mh) (aO (fg bJ rfl (fS (cl D.aaz hr (fu (dj kj (pv 0) bg (-15)) (pv 1)))) (oF (i:=3) yR.nd rfl (Or.inr rfl)) (aO (gn 4 yR (d7 fD rfl T.j7 (-3) (cH (iz rfl (dy (fs:=["_law_way"]) (fr:=[3])) (nK (dj kj (pv 0) bg (-15))) (λ_ _ _ _=>(vF hu (pv 1) (pv 0) (pv 0) V0)))))) (aY (DT hN (pv 2) (pv 4) (d6 ki (A0 hN (pv 2) (pv 4) bg ⟨rfl,rfl,rfl,rfl⟩) bg) rfl)))) (aY (cN (iz rfl (dy (fs:=["_law_many"]) (fr:=[2])) (fS (cA (vW hr.hd) rfl T.zg (-3) (cH (pv 2)))) (λ_ _ _ _=>(kh (fu (pv 0) (GW (P:=P) (w:=w) (K:=K) hN (pv 1) (pv 0) (-15)))))))))),?_}
 intro rl C8;have s1:=aN C8 (.dK []);have tM:upd H rl (.dK []) rl=some (.dK []):=ar;generalize (upd H rl (.dK []))=H1 at s1 tM⊢;refine{_,rfl,_,_,_,_,rfl,rfl,bx.of (s1 _ _ hq),rfl,_,rfl,aa,tb,eR,ats,fs,rfl,s1 _ _ yr,lL mP s1,good,la,tab.same s1,λwl ys H2 vals s2 Wf J3 vn vp va hW=>?_};have nd:=iY (b8 ats);have V2:(dc (b8 ats)).length<=6:=eX (m:=je) nd λt ht=>by obtain⟨u,b,hb,h⟩:=(iP t).mp ht;exact(kG ((good b hb).2.1 t h)).2.2 u
 have lv:vals.length<=8:=eX (m:=cM) vn vp;have yi:∀a∈ats,∀r∈bZ fs a.1,∀x∈r,x∈vals:=λa _ r hr x hx=>by
  unfold bZ at hr;cases qf:fs.find? (λe=>decide (e.nm=a.1))with
  |none=>rw[qf]at hr;cases hr
  |some e=>rw[qf]at hr;exact va e (jS qf) r hr x hx
 have hvp:∀a∈ats,∀r∈bZ fs a.1,∀x∈r,x∈cM:=λa _ r hr x hx=>((tab.good a.1).2 r hr).2.2 x hx;have hhu:∀t∈hz,isUnk t=true->t∈dc (b8 ats):=λt ht u=>nq.mpr {u,(bj.2 t ht).2 u};have SG:=λrow=>AskP.Ic (un:=isUnk) (db:=bZ fs) (atoms:=ats) (us:=dc (b8 ats)) (vals:=vals) (head:=hz) iP nd yi hhu row;have SI:∀r,(AskP.dX (AskP.iO isUnk (bZ fs) ats (dc (b8 ats)) vals (dc (b8 ats)).length) λv=>AskP.ind (AskP.image (dc (b8 ats)) v hz=r))=num fs hz ats r:=λr=>AskP.yJ (λ_=>sM) (λ_ _ _=>sM) iP iP nd nd vn (-8) yi hvp hhu r;have QF:(AskP.iO isUnk (bZ fs) ats (dc (b8 ats)) vals (dc (b8 ats)).length).length<=262144:=aC (yI _) (aC (rQ lv _) (aC (gj (-8) V2) (-8)));have Np:∀v∈AskP.iO isUnk (bZ fs) ats (dc (b8 ats)) vals (dc (b8 ats)).length,v.length=(dc (b8 ats)).length/\∀x∈v,x∈vals:=λv hv=>by rw[yH]at hv;exact Cd _ v (bD.mp hv).1
 have Za:(AskP.iO isUnk (bZ fs) ats (dc (b8 ats)) vals (dc (b8 ats)).length).Nodup:=AskP.uK vn _;generalize (dc (b8 ats))=us at SG SI QF Np Za hW nd V2 hhu;generalize (AskP.iO isUnk (bZ fs) ats us vals us.length)=ws at SG SI QF Np Za hW;have JN:ys.length=ws.length:=bp hW;have jf:=s1.trans s2;have lh:=bj.1;have okt:∀z∈hz,PyData.strOk z=true:=λz oU=>(kG (bj.2 z oU).1).1;refine{wl,rfl,{_,bo.of J3},mi (K:=K) (a:=wl) (xs:=ys) (λi Z H3=>∃(x3 x4:Aap),Z=[some (.ref q),some (.ref tb),some (.ref rl),x3,x4]/\SB rl H2 H3/\(i=0->H3=H2)/\i<=ws.length/\∃kvs,fH P w K H3 rl kvs/\Be kvs=qC (AskP.cY ((ws.take i).map λv=>(v,(1:Int))) us hz)/\kvs.length<=i/\∀p∈kvs,∃xs,H3 p.2.1=some (.tup xs))
  {none,none,rfl,λ_ _ _ e=>e,λ_=>rfl,aP _,[],Cr (s2 _ _ tM),rfl,ak _,λp hp=>(by cases hp)} (λi Z H3 _ ⟨_,_,_,sb,_⟩=>bo.of (sb _ _ (λz=>by rw[z,tM]at Wf;cases Wf) J3)) ?_ ?_}
 ·rintro i x Z H3 hx ⟨x3,x4,rfl,oR,h0,_,kvs,ha,ek,lk,gq⟩;obtain⟨v,hv,wd,rfl,Hb⟩:=Paired.at' hW hx;have bU:i<ws.length:=(ao.mp hv).1;obtain⟨g1,g2⟩:=Np v (aB hv);have aaW:H3 wd=some (.dK (jC us v)):=by
   by_cases z:wd=rl
   ·have e0:jC us v=[]:=HO.dK.inj (bS (Hb.symm.trans (by rw[z];exact s2 _ _ tM)));have l0:=cc List.length e0;unfold jC at l0;rw[ag,kR,g1,BO,c7]at l0;have:=eX (m:=([[]]:Aab)) Za λv hv=>by rw[kY ((Np v hv).1.trans l0)];exact ax
    rw[dt]at this;rw[h0 ∅];exact Hb
   ·exact oR _ _ z Hb
  have tD:bA H H3:=λb u e=>oR _ _ (aW e C8) (jf _ _ e);refine{_,rfl,_,_,_,_,rfl,rfl,bx.of (tD _ _ hq),rfl,hd,rfl,{_,bx.of (tD _ _ vR)},vV (K:=K) (a:=hd) (xs:=hz.map V.str) (λj fP H4=>H4=H3/\j<=hz.length/\fP=((hz.take j).map (AskP.gH us v)).map V.str) (-37) {rfl,aP _,rfl} ?_ ?_ ?_}
  ·rintro j fP H4 hj ⟨rfl,_,rfl⟩;refine{bx.of (tD _ _ vR),?_};rw[ag,ag,aL];lia
  ·rintro j y fP H4 N hc ⟨rfl,hj,rfl⟩ hN;obtain⟨z,Q4,rfl⟩:=iA hc;have Fj:j<hz.length:=(ao.mp Q4).1;refine iy ?_;refine{_,rfl,wd,rfl,.inl {_,.inl aaW},_,rfl,_,rfl,_,kF.k (k:=Sum.inr z) aaW,?_};rw[FT g1.symm];refine hN _ _ {rfl,Fj,?_};rw[aV,Q4,aM,aM];rfl
  rintro fP H4 ⟨rfl,_,rfl⟩ l2 iX;rw[ag,aT];refine{l2,_,rfl,.inl {bo.of ar,λrp hrp=>?_}};have s5:=(aN iX (.lst (-63))).trans (aN hrp (.tup (-63)));have qS:upd (upd H4 l2 (.lst (-63))) rp (.tup (-63)) rp=some (.tup ((AskP.image us v hz).map V.str)):=ar;generalize (upd (upd H4 l2 (.lst (-63))) rp (.tup (-63)))=H5 at s5 qS⊢;have E1:pK (AskP.image us v hz):=wG (λz oU=>lU (vp z (g2 z oU))) okt;have RL:fH P w K H5 rl kvs:=by obtain⟨u,hu⟩:=ha.some;exact ha.tp (eK.same s5) (by rw[hu,s5 _ _ hu])
  have hk:jm K H5 (dY (AskP.image us v hz)) rp:=sf (bx.of qS) E1;refine{_,rfl,rl,kvs,rfl,RL,_,rfl,rp,kvs,_,rfl,RL,hk,?_};rw[Nd ek];refine{_,_,rfl,rfl,_,rfl,_,rfl,rl,rp,kvs,_,rfl,rfl,RL,hk,by lia,?_};refine{_,_,rfl,λb u n e=>?_,λz=>(by cases z),bU,_,RL.put hk,?_,?_,λp hp=>?_}
  ·rw[aw n];exact s5 _ _ (oR _ _ n e)
  ·rw[Mh AskP.iQ ek,aV,hv];unfold AskP.cY;rw[bI,aM,uF];rfl
  ·exact aC sd ∅
  ·have ne:∀{b:Addr}{xs:Aao},H5 b=some (.tup xs)->b≠rl:=λ{b xs} e z=>RL.pV xs (.inl (by rw[<-z];exact e));rcases DW hp with⟨c,hc,_,e2⟩|⟨_,e2⟩
   ·obtain⟨xs,e⟩:=gq c hc;exact{xs,by rw[e2,aw (ne (s5 _ _ e))];exact s5 _ _ e}
   ·exact{_,by rw[e2,aw (ne qS)];exact qS}
 ·rintro Z H3 ⟨x3,x4,rfl,oR,_,_,kvs,ha,ek,lk,gq⟩;rw[JN,aT]at ek;have tD:bA H H3:=λb u e=>oR _ _ (aW e C8) (jf _ _ e);have JH:((AskP.cY (ws.map λv=>(v,(1:Int))) us hz).map (·.1)).Nodup:=AskP.iQ;have iff:∀row,row∈(AskP.cY (ws.map λv=>(v,(1:Int))) us hz).map (·.1)↔∃g,AskP.kC isUnk (dbT fs) ats g/\row=hz.map g:=λrow=>by rw[AskP.pW];refine Iff.trans {λado=>?_,λ⟨v,hv,e⟩=>{_,aA.mpr ⟨v,hv,rfl⟩,e}} ((SG row).trans {λ⟨g,h,e⟩=>{g,PN.mp h,e},λ⟨g,h,e⟩=>{g,PN.mpr h,e}});obtain⟨x,hx,e⟩:=ado;obtain⟨v,hv,rfl⟩:=aA.mp hx;exact⟨v,hv,e⟩
  have lm:(AskP.cY (ws.map λv=>(v,(1:Int))) us hz).length<=500000:=by have:=cc List.length ek;unfold qC at this;rw[ag,ag]at this;lia
  refine Js (d:=rl) rfl ⟨kvs,ha,ek,gq⟩ lm (λr nP=>A3 (K:=K) tab bj iff r ((gg _).mem_iff.mpr nP)) (L9 JH iff) λl zs H4 s4 qw tP pp=>?_;rw[Ik JH λx hx=>by rw[<-AskP.FU JH hx,AskP.vj,AskP.yN];exact SI x.1]at pp;exact k l zs _ H4 (tD.trans s4) (tD.free qw) tP JH iff pp
def Ext.of(s:bA H H'):Ext f H H':=λb o _ h=>s b o h
def YR{κ:Type}[DecidableEq κ]{l:List (κ×V)}{k:κ}(h:k∉l.map (·.1)):(l.any λkv=>decide (kv.1=k))=false:=by rw[iB];intro e;obtain⟨kv,h1,h2⟩:=kr.mp e;exact h (aA.mpr {kv,h1,bw h2})
def XJ{k:Key}{v:V}(h:k∉l.map (·.1)):putK l k v=l++[(k,v)]:=by unfold putK;rw[YR h];rfl
theorem JI:∀(kvs l:List (Key×V)),((l++kvs).map (·.1)).Nodup->fk l kvs=l++kvs
 |[],l,_=>by rw[cu];rfl
 |kv::r,l,h=>by
  have hn:kv.1∉l.map (·.1):=by rw[aM,fL]at h;intro e;exact h.2.2 _ e _ (by rw[aR];exact ax) rfl
  show fk (putK l kv.1 kv.2) r=_;rw[XJ hn,JI r (l++[(kv.1,kv.2)]) (by rw[cD];exact h),cD];rfl
def Pr(x:Ext d H H1)(sm:bA H1 H2)(hu:H d=some u):bA H (upd H2 d u):=λb z h=>by
 by_cases e:b=d
 ·subst e;rw[ar,<-h,hu]
 ·rw[aw e];exact sm b z (x b z e h)
def TU{es:List En}(h:(es.map (·.nm)).Nodup):((es.map g8).map (·.1)).Nodup:=by rw[Qv];exact G1.mpr h
def Vg(es dG:List En):Prop:=Paired (λ(e e':En)=>e'.nm=e.nm/\e'.ys=e.ys/\e'.rows=e.rows) es dG
def same_none(s:bA H H')(h:H' a=none):H a=none:=by
 cases q:H a with
 |none=>rfl
 |some o=>
  rw[s _ _ q]at h;cases h
def sZ(F:∀{α:Type},List α->List α)(es dG:List En):Prop:=Paired (λ(e e':En)=>e'.nm=e.nm/\e'.ys=F e.ys/\e'.rows=F e.rows) es dG
variable{F:∀{α:Type},List α->List α}
def sZ.pB{es dG:List En}(h:sZ F es dG):dG.map (·.nm)=es.map (·.nm):=by
 unfold sZ at h
 induction h with
 |nil=>rfl
 |cons q _ ih=>rw[aR,aR,ih,q.1]
theorem sZ.bZ{es dG:List En}(h:sZ F es dG)(h0:F ([]:Aab)=[])(z:Str):bZ dG z=F (bZ es z):=by
 unfold sZ at h
 induction h with
 |nil=>exact h0.symm
 |@cons a b as bs q _ ih=>
  unfold lY.bZ at ih⊢;rw[iq,iq,q.1];cases decide (a.nm=z)with
  |true=>exact q.2.2
  |false=>exact ih
def TZ:∀{es dG:List En},sZ F es dG->∀{i:Nat}{e':En},dG[i]?=some e'->∃e,es[i]?=some e/\e'.nm=e.nm/\e'.ys=F e.ys/\e'.rows=F e.rows:=by
 intro es dG h;unfold sZ at h
 induction h with
 |nil=>intro i e' h;cases h
 |@cons a b as bs q _ ih=>
  intro i e' h;cases i with
  |zero=>cases h;exact⟨a,rfl,q⟩
  |succ i=>exact ih (i:=i) h
def Nc{te:TE}{Z:L2.St}{j:Nat}{H:Hp}{Q:VK}{fe d:Addr}{es:List En}(e:Z[j]?=some (some (.ref d)))(hT:zI fe H d es)(Ko:∃o,H fe=some o)
  (hF:∀x∈es,(F x.rows).length<=9) (sub:∀{α:Type}(l:List α)(x:α),x∈F l->x∈l) (hP:∀{α β:Type}{R:α->β->Prop}{l:List α}{m:List β},Paired R l m->Paired R (F l) (F m))
  (hte:∀(x:En)(H2:Hp)(N:VK),x∈es->kF H2 d (.str x.nm) (some (.ref x.ad))->H2 x.ad=some (.lst x.ys)->(∀l H3,bA H2 H3->H2 l=none->H3 l=some (.lst (F x.ys))->N (.ref l) H3)->te (some (.str x.nm)::slotsOf [j] Z) H2 N)
  (k:∀(p:Addr)(dG:List En)(H':Hp),bA H H'->H p=none->zI fe H' p dG->sZ F es dG->Q (.ref p) H'):
  Pt (VC (P8 K) (oB (uN (Wb (AE j)) [j] B9 (SX (oB (AE 0) (oB te AF)))) AF)) Z H Q:=by
 obtain⟨ofe,RC⟩:=Ko;obtain⟨nd,hd,hn,hl,ho⟩:=id hT;have ac4:∀(u:Obj)(v:HO),H d≠some (.c6 u v):=λu v=>by rw[hd];exactλz=>nomatch z
 refine{d,ac4,_,e,d,es.map g8,rfl,hd,λo=>?_};have x1:Ext d H (upd H d (.c6 o (.dK (es.map g8)))):=λb z n h=>by rw[aw n];exact h
 have Af:upd H d (.c6 o (.dK (es.map g8))) d=some (.c6 o (.dK (es.map g8))):=ar;generalize (upd H d (.c6 o (.dK (es.map g8))))=H1 at x1 Af⊢;refine Sk (λi ys H2=>bA H1 H2/\∃dG:List En,sZ F (es.take i) dG/\Paired (λ(y:V)(e:En)=>∃t,y=.ref t/\H2 t=some (.tup [.str e.nm,.ref e.ad])/\H1 t=none) ys dG/\∀e∈dG,H1 e.ad=none/\H2 e.ad=some (.lst e.ys)) (-37) {bA.refl H1,[],.nil,.nil,λe h=>by cases h} ?_ ?_ ?_
 ·rintro i ys H2 hi ⟨sm,dG,hk,hp,_⟩;refine{sm _ _ Af,?_};rw[hp.length,<-hk.length,aL];lia
 ·rintro i kv ys H2 N hc ⟨sm,dG,hk,hp,Ae⟩ hN;rw[aJ]at hc;obtain⟨e,hce,rfl⟩:=a9.mp hc;have he:=aB hce;obtain⟨hz,na,ha,hR,hg,Rr⟩:=ho e he;have ned:e.ad≠d:=λq=>by rw[q,hd]at ha;cases ha
  have ha2:=sm _ _ (x1 _ _ ned ha);have g:kF H2 d (.str e.nm) (some (.ref e.ad)):=.inl {es.map g8,Sum.inr e.nm,.inr {o,sm _ _ Af},rfl,(B8 hn he).symm};refine iy {_,rfl,hte e H2 _ he g ha2 λl H3 s3 hl Dd=>{(-71),λt ht=>hN _ _ ?_}};have s4:=aN ht (.tup [.str e.nm,.ref l]);refine{(sm.trans s3).trans s4,dG++[{e.nm,l,F e.ys,F e.rows}],?_,?_,λe' h'=>?_}
  ·rw[aV,hce];exact jY hk ⟨rfl,rfl,rfl⟩
  ·exact jY (Paired.qM hp λy e' ⟨t',e1,h1,h2⟩=>{t',e1,(s3.trans s4) _ _ h1,h2}) {t,rfl,ar,same_none (sm.trans s3) ht}
  ·rcases aS.mp h' with h'|h'
   ·exact{(Ae e' h').1,(s3.trans s4) _ _ (Ae e' h').2}
   ·rw[ay.mp h'];exact{same_none sm hl,s4 _ _ Dd}
 ·rintro ys H2 ⟨sm,dG,hk,hp,Ae⟩ l Kl;rw[ag,aT]at hk;have s3:bA H2 (upd H2 l (-48)):=aN Kl _;have Dd:upd H2 l (-48) l=some (-48):=ar;generalize (upd H2 l (-48))=H3 at s3 Dd⊢;have pD:Paired (λ(y:V)(kv:Key×V)=>∃t,y=.ref t/\H3 t=some (.tup [kV kv.1,kv.2])) ys (dG.map g8):=by
   have:∀{ys:Aao}{dG:List En},Paired (λ(y:V)(e:En)=>∃t,y=.ref t/\H2 t=some (.tup [.str e.nm,.ref e.ad])/\H1 t=none) ys dG->Paired (λ(y:V)(kv:Key×V)=>∃t,y=.ref t/\H3 t=some (.tup [kV kv.1,kv.2])) ys (dG.map g8):=λh=>by
    induction h with
    |nil=>exact .nil
    |cons q _ ih=>
     obtain⟨t,e1,h1,_⟩:=q;exact .cons {t,e1,s3 _ _ h1} ih
   exact this hp
  have MR:(dG.map (·.nm)).Nodup:=by rw[hk.pB];exact hn
  refine{l,ys,dG.map g8,rfl,bo.of Dd,pD,λp MM=>?_};rw[JI (dG.map g8) [] (by rw[ip];exact TU MR),ip];have s4:bA H3 (upd H3 p (.dK (dG.map g8))):=aN MM _;have L8:=(sm.trans s3).trans s4;have WC:=L8 _ _ Af;refine{o,_,WC,?_};have sT:=Pr x1 L8 hd;have npd:p≠d:=λq=>by rw[q,s3 _ _ (sm _ _ Af)]at MM;cases MM
  have hpH:H p=none:=by
   cases q:H p with
   |none=>rfl
   |some z=>
    rw[s3 _ _ (sm _ _ (x1 _ _ npd q))]at MM;cases MM
  refine k p dG _ sT hpH {λq=>?_,?_,MR,by rw[<-hk.length];exact hl,λe' h'=>?_} hk
  ·rw[q,RC]at hpH;cases hpH
  ·rw[aw npd,ar]
  ·obtain⟨i,hi⟩:=eT.mp h';obtain⟨e,he,q1,q2,q3⟩:=TZ hk hi;obtain⟨hz,na,ha,hR,hg,Rr⟩:=ho e (aB he);obtain⟨r1,r2⟩:=Ae e' h';have nad:e'.ad≠d:=λq=>by rw[q,Af]at r1;cases r1
   refine{by rw[q1];exact hz,λq=>?_,?_,?_,?_,?_}
   ·rw[q,x1 _ _ (bV nd) RC]at r1;cases r1
   ·rw[aw nad];exact s4 _ _ (s3 _ _ r2)
   ·rw[q2,q3];exact hP (oE hR (Ext.of sT))
   ·rw[q3]
    exactλr hr=>hg r (sub _ _ hr)
   ·rw[q3];exact hF e (aB he)
def RV(h:eJ K f H)(s:bA H H'):eJ K f H':=by
 obtain⟨a,ns,x,y,z,hf,h1,h2,h3,hS,hn⟩:=h;refine{a,ns,x,y,z,s _ _ hf,h1,h2,h3,?_,hn};rcases hS with⟨ob,h⟩|h
 ·exact .inl {ob,s _ _ h}
 ·exact .inr h
def Yq(h:∀r∈rows,oN r):BK rows:=λr hr z hz=>lU ((h r hr).2.2 z hz)
def zI.r(h:zI f H d es):iT K H d es:={h.2.1,h.2.2.1,λe he=>by obtain⟨_,_,h3,h4,h5,h6⟩:=h.2.2.2.2 e he;exact{h3,DQ h4,h6,h5}}
def L5(ha:a.Nodup)(hb:b.Nodup)(h:∀r,r∈a↔r∈b):dA a=dA b:=by rw[DE ha h,DE hb λr=>sM]
def Ti(tab:iT K H tb fs)(bj:pR hz ats){rows:Aab}(nd:rows.Nodup)(hi:∀row,row∈rows↔∃g,AskP.kC isUnk (dbT fs) ats g/\row=hz.map g):rows.length<=1000000:=by
 have h4:=bj.1;have:=AskP.gD (A:=cM++iS) (k:=hz.length) nd λr hr=>by
  obtain⟨g,hg,rfl⟩:=(hi r).mp hr;refine{ag _,λz oU=>?_};obtain⟨t,ht,rfl⟩:=aA.mp oU;cases u:isUnk t with
  |false=>rw[hg.1 t u];exact b7 _ (bj.2 t ht).1
  |true=>
   have:=(bj.2 t ht).2 u;unfold b8 at this;obtain⟨ts,m6,h⟩:=mn.mp this;obtain⟨b,hb,rfl⟩:=aA.mp m6;exact dD _ (((tab.good b.1).2 _ ((gZ _ _).mp (hg.2 b hb))).2.2 _ (aA.mpr ⟨t,h,rfl⟩))
 refine aC this (aC (gj (-8) h4) ?_);decide+kernel
def Xw:∀{es dG:List En},Vg es dG->(∀e∈dG,EB f H e)->(∀e∈es,EB f H e)->KW K H (dG.map g8) (es.map g8):=by
 intro es dG h;unfold Vg at h
 induction h with
 |nil=>intro _ _;exact .nil
 |@cons a b as bs q _ ih=>
  intro h1 h2;obtain⟨_,_,hb,hRb,hg,_⟩:=h1 b ax;obtain⟨_,_,ha,hRa,_,_⟩:=h2 a ax;refine .cons {cc Sum.inr q.1,sQ b.rows,yw (bo.of hb) (DQ hRb),?_,xk (Yq hg),by rw[KD];exact ba rfl} (ih (λe he=>h1 e (az _ he)) (λe he=>h2 e (az _ he)));rw[q.2.2];exact yw (bo.of ha) (DQ hRa)
def pairD(x:Aah×Int):PyData:=.tuple [jN x.1,.int x.2]
def qL(l:Cm):PyData:=.list (l.map pairD)
def KH{H:Hp}{p:Addr}{zs:Aao}{l:Cm}(h:bo K H p zs)(hp:Paired (u7 K H) zs l):Dt K H (qL l) (.ref p):=by
 unfold qL;rw[Dt];refine{p,zs,rfl,h,?_};clear h
 induction hp with
 |nil=>rw[jl,kU]
 |cons q _ ih=>
  obtain⟨t,g,ys,rfl,h1,_,h3⟩:=q;rw[aR,kU];refine{_,_,rfl,?_,ih};unfold pairD;rw[Dt];refine{t,_,rfl,bx.of h1,?_};rw[kU];refine{_,_,rfl,KG ⟨g,rfl,h3⟩,?_};rw[kU];refine{_,_,rfl,by rw[Dt],?_};rw[kU]
theorem G7:∀{l:Cm},(∀x∈l,pK x.1)->PyData.canLayAll0 (l.map pairD)=true/\PyData.depthAll (l.map pairD)<=2
 |[],_=>{rfl,by simp[PyData.depthAll]}
 |z::r,h=>by obtain⟨h2,h3⟩:=G7 λy hy=>h y (az _ hy);have h1:=zk z.1 (h z ax);refine{by simp[PyData.canLayAll0,PyData.canLay0,pairD,jN,h1,h2],?_};simp[PyData.depthAll,PyData.depth,pairD,jN,qY];lia
def IJ{l:Cm}(h:∀x∈l,pK x.1):SeqAt.shaped (qL l)=true/\PyData.eqv (qL l) (qL l)=true:=by obtain⟨h1,h2⟩:=G7 h;refine{?_,SeqAt.eqv_refl _ (by simp[qL,PyData.canLay0,h1])};simp[SeqAt.shaped,qL,PyData.canLay0,PyData.depth,h1];lia
def TR{es dG:List En}(h:bZ dG=bZ es)(hz:Aah)(ats:Aaa)(r:Aah):num dG hz ats r=num es hz ats r:=by unfold num;rw[h]
inductive L3(K:Frag)(vs:Aao)(H:Hp)(Q:VK)(_x3:XK):Prop
 |mk (v:V) (tb dl fe:Addr) (es:List En) (hz:Aah) (ats:Aaa) (Dk:Aao) (rows:Aab) (N:Aah->Int) (_:vs=[v,.ref tb,.ref dl]) (_:rh H v hz ats) (_:Good ats) (_:pR hz ats) (_:ats.length<=8) (_:zI fe H tb es) (_:(∃o,H fe=some o)) (_:H dl=some (.lst Dk)) (_:Paired (u7 K H) Dk ((dA rows).map λr=>(r,N r))) (_:rows.Nodup) (_:(∀row,row∈rows↔∃g,AskP.kC isUnk (dbT es) ats g/\row=hz.map g)) (_:(∀r,N r=num es hz ats r)) (_:∀H',bA H H'->Q (.bl true) H')
structure Dr7(P:Program)(w:World)(K:Frag)(mg:Aad)(base:Heap):Prop where
 YJ:eG P w K mg base 8 "counted" ["question","tables"] (HR K)
 answers:eG P w K mg base 8 "answers" ["question","tables"] (GL K)
def rh.ext{f:Addr}{H H':Hp}{v:V}{hz:Aah}{ats:Aaa}(h:rh H v hz ats)(t:gA H H'):rh H' v hz ats:=by obtain⟨q,hd,a,vs,e,h1,h2,h3,h4⟩:=h;exact{q,hd,a,vs,e,t _ _ h1,t _ _ h2,t _ _ h3,h4.keep t}
def uO:cz ["_law_question_here","_law_tables_here","_law_due_here","_law_handed","_law_found","_law_one"] ["_law_question_here","_law_tables_here","_law_due_here"] (bQ AN):=jV (-3)
def TL{f:Addr}{fd:FuncData}(F:fG K "_law_right" "_law_right" AN f fd)(T:Txt K mg)(D:Dr7 P w K mg base):dh P w K mg base fW 9 f fd ["_law_question_here","_law_tables_here","_law_due_here"] (L3 K):=by
 refine F.ok uO (λ_ _ _ _ h=>by cases h;subst_vars;rfl) (-6);obtain⟨v,tb,dl,fe,es,hz,ats,Dk,rows,N,rfl,hq,good,bj,la,hT,RC,RE,hdp,rn,ri,hNm,k⟩:=h;have hu:=jQ hr;refine{_,(aO (gn 3 uO (DV (d7 (w5 hr.hd) rfl T.A9 (-3) (cH (iz rfl (dy (fs:=["_law_tables_here"]) (fr:=[1])) (Mm (pv 1)) (λ_ _ _ _=>(kh (fu (pv 0) (d7 (HP (K:=K)) rfl T.A8 (-3) (cH (vf hu (pv 1) (pv 0) (-15)))))))))))) (aO (gn 4 uO (cl D.YJ hr (fu (pv 0) (pv 3)))) (aO (iJ (PW.pt (y0 (tE (mD (cA mN rfl T.lF (-3) (fu (pv 4) (Cg (n:="list") rfl T.A8 (-3)))))) (y0 (d5 (aak hr.units) (pv 4) (pv 2) (gG _)) (AU (d5 (aaj (u96 hr)) (pv 3) (pv 1) (gG _)))))) (aY (cN pU)) fm) (aO (fg bJ rfl (fS (pv 4)) (jg 5 uO) (aY (iJ (PW.pt (y0 (tE (mD (cA mN rfl T.lF (-3) (fu (pv 5) (Cg (n:="tuple") rfl T.j7 (-3)))))) (y0 (tE (mD (cA mN rfl T.lF (-3) (fu (dj kj (pv 5) bg (-15)) (Cg (n:="tuple") rfl T.j7 (-3)))))) (AU (mD (cA mN rfl T.lF (-3) (fu (dj kj (pv 5) bg (-15)) (Cg (n:="bool") rfl T.aau (-3))))))))) (aY (cN pU)) fm))) (aY (cN (F5 (aan hr.units) (cl D.answers hr (fu (pv 0) (pv 1))) (Jn rfl (FF (more:=["_law_many"]) (fs:=[]) (fr:=[])) (fS (pv 2)) (λ_ _ _ _=>(Mn (K:=K) (n:=2) rfl (df (y7 (i:=0)) (df (y7 (i:=1)) j6)))) (λ_ _ _ _=>(pv 0))) (gG _)))))))),?_}
 refine Nc (F:=λl=>l) (j:=1) (d:=tb) rfl hT RC (λx hx=>(hT.2.2.2.2 x hx).2.2.2.2.2) (λ_ _ h=>h) (λh=>h) (λx H2 N' hx g ha k'=>{_,rfl,_,rfl,tb,_,rfl,g,x.ad,x.ys,rfl,.inl (bo.of ha),λl hl=>k' l _ (aN hl _) hl ar}) λp dG H1 s1 pE RO hk=>?_;have Cb:∀{H H':Hp},rh H v hz ats->bA H H'->rh H' v hz ats:=λh s=>rh.ext (f:=fe) h λb xs e=>s _ _ e;refine{_,rfl,_,rfl,v,p,dG,hz,ats,rfl,Cb hq s1,good,bj,la,RO.r,λl zs yZ H2 s2 qw iX rn' ri' pp=>?_};have er:bZ dG=bZ es:=funext (hk.bZ rfl);have eq:dA yZ=dA rows:=L5 rn' rn λr=>by
  rw[ri' r,ri r];have e:dbT dG=dbT es:=funext λz=>by unfold dbT;rw[er]
  rw[e]
 have el:(dA yZ).map (λr=>(r,num dG hz ats r))=(dA rows).map λr=>(r,N r):=by rw[eq];exact bH λr _=>by rw[hNm r,TR er]
 rw[el]at pp;have E1:BK (dA rows):=A3 (K:=K) hT.r bj ri;obtain⟨sh,ev⟩:=IJ (l:=(dA rows).map λr=>(r,N r)) λx hx=>by obtain⟨r,nP,rfl⟩:=aA.mp hx;exact E1 r nP
 have jf:=s1.trans s2;refine{_,rfl,_,_,_,_,rfl,.lst iX,(by rfl:_=some true),_,rfl,nO ?_};refine{_,rfl,_,rfl,qL _,qL _,KH (bo.of iX) pp,KH (bo.of (jf _ _ RE)) (jW hdp jf),sh,sh,?_};rw[ev];refine{_,rfl,nO ?_};have hA:=RO.keep (Ext.of s2);have hB:=hT.keep (Ext.of jf);refine{_,rfl,_,rfl,p,tb,dG.map g8,es.map g8,rfl,rfl,hA.2.1,hB.2.1,Xw (show Vg es dG from hk) hA.2.2.2.2 hB.2.2.2.2,_,rfl,nO ?_};have lz:zs.length=(dA rows).length:=by rw[bp pp,ag]
 refine{_,rfl,l,rfl,{_,bo.of iX},mi (K:=K) (a:=l) (xs:=zs) (λi Z H3=>∃x5:Aap,Z=[some v,some (.ref tb),some (.ref dl),some (.ref p),some (.ref l),x5]/\H3=H2) ⟨_,rfl,rfl⟩ (λi Z H3 _ ⟨_,_,e⟩=>by rw[e];exact bo.of iX) ?_ ?_}
 ·rintro i x Z H3 hx ⟨x5,rfl,rfl⟩;obtain⟨y,hy,t,g,ys,rfl,h1,h2,_⟩:=Paired.at' pp hx;exact{_,rfl,_,_,_,_,rfl,.tup h1,(by rfl:_=some true),_,rfl,nO {_,rfl,_,_,_,_,rfl,rfl,bx.of h1,rfl,_,_,_,_,rfl,.tup h2,(by rfl:_=some true),_,rfl,nO {_,rfl,_,_,_,_,rfl,rfl,bx.of h1,rfl,_,_,_,_,rfl,.int _,(by rfl:_=some false),_,rfl,nO ⟨_,rfl,rfl⟩}}}
 ·rintro Z H3 ⟨x5,rfl,rfl⟩;refine{_,rfl,_,rfl,v,tb,es,hz,ats,rfl,Cb hq jf,good,bj,la,hB.r,λl3 zs3 VJ H4 s4 aeL ad8 hR3 rn3 ri3 _=>?_};have eq3:dA VJ=dA rows:=L5 rn3 rn λr=>by rw[ri3 r,ri r]
  have abg:=(jf.trans s4) _ _ RE;have aed:=jW hdp (jf.trans s4);have ld:Dk.length=(dA rows).length:=by rw[bp hdp,ag]
  refine{_,rfl,dl,rfl,{_,bo.of abg},O3 (K:=K) (a:=dl) (xs:=Dk) (λj ys H5=>H5=H4/\j<=(dA rows).length/\fE K H4 ys ((dA rows).take j)) (by rw[ld,(gg rows).length_eq];exact cK (Ti (K:=K) hT.r bj rn ri) (-8)) {rfl,aP _,.nil} ?_ ?_ ?_}
  ·rintro j ys H5 hj ⟨rfl,_,qS⟩;have:=bp qS;rw[aL]at this;exact{bo.of abg,by lia}
  ·rintro j x ys H5 N' hx ⟨rfl,hj,qS⟩ tQ;obtain⟨y,hy,t,g,ts,rfl,h1,_,h3⟩:=Paired.at' aed hx;rw[aJ]at hy;obtain⟨r,hrj,rfl⟩:=a9.mp hy;refine{t,_,_,rfl,bx.of h1,iy {_,rfl,tQ _ _ {rfl,(ao.mp hrj).1,?_}}};rw[aV,hrj];exact jY qS ⟨g,rfl,h3⟩
  rintro ys H5 ⟨rfl,_,qS⟩ l5 qV;rw[ld,aT]at qS;have s5:=aN qV (-48);refine{sQ (dA VJ),sQ (dA rows),yw (bo.of (s5 _ _ ad8)) (iZ hR3 s5),yw (bo.of ar) (iZ qS s5),?_,xk E1,?_}
  ·rw[eq3];exact xk E1
  ·rw[KD,ba eq3];exact k _ (jf.trans (s4.trans s5))
def AG{es dG:List En}{ats xu:Aaa}(he:∀a,a∈xu↔a∈ats)(hd:∀z r,r∈bZ dG z↔r∈bZ es z){rows:Aab}{hz:Aah}(h:∀row,row∈rows↔∃g,AskP.kC isUnk (dbT es) ats g/\row=hz.map g)(row:Aah):row∈rows↔∃g,AskP.kC isUnk (dbT dG) xu g/\row=hz.map g:=
 (h row).trans (exists_congr λg=>and_congr_left λ_=>rf λ_=>{λh a ha=>(gZ _ _).mpr ((hd _ _).mpr ((gZ _ _).mp (h a ((he a).mp ha)))),λh a ha=>(gZ _ _).mpr ((hd _ _).mp ((gZ _ _).mp (h a ((he a).mpr ha))))})
def A6{es dG:List En}{ats xu:Aaa}{hz:Aah}{H:Hp}{tb:Addr}(tab:iT K H tb dG)(bj:pR hz xu)(he:∀a,a∈xu↔a∈ats)(hd:∀z r,r∈bZ dG z↔r∈bZ es z)(r:Aah):num es hz ats r=num dG hz xu r:=
 have hv:∀a∈xu,∀r∈bZ dG a.1,∀x∈r,x∈cM:=λa _ r hr x hx=>((tab.good a.1).2 r hr).2.2 x hx
 (AskP.yJ (λa=>(he a).symm) (λa _ r=>hd a.1 r) iP iP (iY _) (iY _) (-8) (-8) hv hv (λt ht u=>nq.mpr {u,(bj.2 t ht).2 u}) r).symm
def uV{ats xu:Aaa}{hz:Aah}(h:pR hz ats)(he:∀a,a∈xu↔a∈ats):pR hz xu:={h.1,λz oU=>{(h.2 z oU).1,λu=>by obtain⟨_,b,hb,q⟩:=(iP z).mp (nq.mpr {u,(h.2 z oU).2 u});exact(nq.mp ((iP z).mpr {u,b,(he b).mpr hb,q})).2}}
def NT{α β:Type}{F:α->β->Prop}{l:List α}{m:List β}(h:Paired F l m):Paired F l.reverse m.reverse:=by
 induction h with
 |nil=>exact .nil
 |cons q _ ih=>rw[lq,lq];exact jY ih q
def CV{α β:Type}{F:α->β->Prop}{l:List α}{m:List β}(h:Paired F l m):∀n,Paired F (l.take n) (m.take n):=by
 induction h with
 |nil=>intro n;rw[List.take_nil,List.take_nil];exact .nil
 |cons q _ ih=>
  intro n;cases n with
  |zero=>exact .nil
  |succ n=>exact .cons q (ih n)
def Sg(xs:Aao)(j:Nat):vU xs none (some (j:Int))=xs.take j:=by
 unfold vU;rw[HT.IL,HT.F0,List.drop_zero,BM];by_cases h:j<=xs.length
 ·rw[il h]
 ·rw[Nat.min_eq_right ∅,aT,cj ∅]
def ZK{a:Addr}{xs:Aao}{j:Nat}{H:Hp}{Q:VK}(h:H a=some (.tup xs))(k:∀p H',bA H H'->H' p=some (.tup (xs.take j))->Q (.ref p) H'):Z0 K (-49) none (some (j:Int)) H Q:=by
 refine{a,xs,rfl,bx.of h,λc=>k a H (bA.refl H) ?_,λ_ p hp=>?_}
 ·rw[HT.F0]at c;rw[cj ∅];exact h
 ·rw[Sg];exact k p _ (aN hp _) ar
def YM{a b:Addr}{xs ys:Aao}{H:Hp}{Q:VK}(h:H a=some (.tup xs))(h':H b=some (.tup ys))(l:xs.length+ys.length<=sizeLine)(k:∀p H',bA H H'->H' p=some (.tup (xs++ys))->Q (.ref p) H'):NI K (-49) (.ref b) H Q:=by
 refine{a,b,xs,ys,rfl,rfl,bx.of h,bx.of h',l,λe=>k b H (bA.refl H) ?_,λ_ e=>k a H (bA.refl H) ?_,λ_ _ p hp=>k p _ (aN hp _) ar}
 ·rw[e,ip];exact h'
 ·rw[e,cu];exact h
inductive HQ(K:Frag)(vs:Aao)(H:Hp)(Q:VK)(_x3:XK):Prop
 |mk (a:Addr) (ns:List Int) (_:vs=[.ref a]) (_:v7 K H a (ns.map V.int)) (_:ns.length<=63) (_:∀H',Q (.bl true) H')
structure Dq(P:Program)(w:World)(K:Frag)(mg:Aad)(base:Heap):Prop where
 aaB:eG P w K mg base 1 "_law_feed" ["_law_script"] (PJ K)
 Yl:eG P w K mg base 3 "_law_names" ["_law_feed_here"] (EI K tH 3)
 Ug:eG P w K mg base 3 "_law_values" ["_law_feed_here"] (EI K cM 4)
 Od:eG P w K mg base 3 "_law_question" ["_law_feed_here","_law_names_here","_law_values_here","_law_most"] (EJ K)
 Uh:eG P w K mg base 3 "_law_tables" ["_law_feed_here","_law_names_here","_law_values_here"] (Iz K)
 ab9:eG P w K mg base 3 "_law_due" ["_law_question_here","_law_tables_here"] (HR K)
 Cj:eG P w K mg base 9 "_law_right" ["_law_question_here","_law_tables_here","_law_due_here"] (L3 K)
def ph:cz ["_law_script","_law_feed_here","_law_k","_law_names_here","_law_values_here","_law_question_here","_law_tables_here","_law_due_here","_law_back","_law_more"] ["_law_script"] (bQ NH):=jV (-3)
def aao(F:fG K "law" "law" NH f fd)(T:Txt K mg)(D:Dq P w K mg base):dh P w K mg base fW 10 f fd ["_law_script"] (HQ K):=by
 refine F.ok ph (λ_ _ _ _ h=>by cases h;subst_vars;rfl) (-6);obtain⟨a,ns,rfl,hS,hn,k⟩:=h;have hu:=jQ hr;refine{_,(aO (gn 1 ph (cl D.aaB hr (cH (pv 0)))) (aO (fg bJ rfl (lV rfl T.qu (cH bg)) (jg 2 ph) (aO (gn 3 ph (cl D.Yl hr (cH (pv 1)))) (aO (gn 4 ph (cl D.Ug hr (cH (pv 1)))) (aO (gn 5 ph (cl D.Od hr (fT (pv 1) (pA (pv 3) (pv 4) bg)))) (aO (pz (i:=6) ph.nd rfl (Or.inr rfl) (cl D.Uh hr (pA (pv 1) (pv 3) (pv 4)))) (aO (gn 7 ph (cl D.ab9 hr (fu (pv 5) (pv 6)))) (aO (gn 8 ph (kh (fu (dj kj (pv 5) bg (-15)) (Z9 (dj kj (pv 5) bg (-15)) (ab1 Zk bg))))) (aO (iJ (PW.pt (y0 (tE (mD (cl D.Cj hr (pA (pv 5) (pv 6) (pv 7))))) (AU (tE (mD (cl D.Cj hr (pA (pv 8) (pv 6) (pv 7)))))))) (aY (cN pU)) fm) (aO (iJ (tE (mD (cl D.Cj hr (pA (kh (fu (dj kj (pv 5) bg (-15)) (d6 Ms (dj kj (pv 5) bg (-15)) (y8 Xq (dj kj (pv 5) bg (-15)) Cf (Ce bg))))) (pv 6) (pv 7))))) (aY (cN pU)) fm) (aO (gn 9 ph (DV (d7 (w5 hr.hd) rfl T.A9 (-3) (cH (iz rfl (dy (fs:=["_law_tables_here"]) (fr:=[6])) (Mm (pv 6)) (λ_ _ _ _=>(kh (fu (pv 0) (d6 Jx (vf hu (pv 1) (pv 0) (-15)) (y8 (IH (K:=K)) (vf hu (pv 1) (pv 0) (-15)) Cf (Ce bg))))))))))) (aY (iJ (tE (mD (cl D.Cj hr (pA (pv 5) (pv 9) (pv 7))))) (aY (cN pU)) fm)))))))))))) (aY (cN pU)))),?_}
 refine{_,rfl,a,ns,rfl,hS,hn,λfe H1 vT VF RC=>?_};refine{4,rfl,by decide,by decide,qy (lo:=0) (n:=4) (λi Z H2=>∃(x2 x3 x4 x5 x6 x7 x8 x9:Aap),Z=[some (-49),some (.ref fe),x2,x3,x4,x5,x6,x7,x8,x9]/\eJ K fe H2) ⟨_,_,_,_,_,_,_,_,rfl,vT⟩ ?_ ?_}
 ·rintro i Z H2 hi ⟨x2,x3,x4,x5,x6,x7,x8,x9,rfl,tR⟩;refine{_,rfl,fe,rfl,tR,λnl nys H3 RQ KC E6 Hj ln1 ln2 hny=>?_};refine{_,rfl,fe,rfl,RQ,λvl vys H4 Aj Al A5 yi lv1 lv2 hvy=>?_};obtain⟨pB,rfl,hnm⟩:=Ca hny;obtain⟨oP,rfl,hvs⟩:=Ca hvy;rw[ag]at ln1 ln2 lv1 lv2;have MQ:=Al _ _ E6 Hj;refine{_,rfl,_,rfl,_,rfl,fe,nl,vl,4,pB,oP,rfl,Aj,E6,A5,MQ,ln1,by lia,hnm,{yi,lv1,by lia,λz hz=>dD _ (b7 _ (hvs z hz))},hvs,by decide,by decide,λq6 ux kE H6 Ai qz hQ6 l6a l6 Fp Hn=>?_};refine{_,rfl,_,rfl,_,rfl,fe,nl,vl,pB,oP,rfl,Ai,E6,A5,qz _ _ E6 MQ,by lia,λz hz=>dD _ (hnm z hz),qz _ _ A5 yi,lv1,lv2,hvs,λd kvs H7 wZ tS hT0 _=>?_};obtain⟨es,rfl,hT,l7⟩:=hT0.tabs;have WK:rh H7 (.ref q6) ux kE:=rh.ext (f:=fe) hQ6 (Ai.ny tS);have Cb:∀{H H':Hp}{v:V}{ats:Aaa},rh H v ux ats->bA H H'->rh H' v ux ats:=λh s=>rh.ext (f:=fe) h λb xs e=>s _ _ e;refine{_,rfl,_,rfl,.ref q6,d,es,ux,kE,rfl,WK,Fp,Hn,by lia,hT.r,λdl Dk rows H8 s8 aeN OA rn ri pp=>?_};have Ko:∀{H':Hp},bA H7 H'->∃o,H' fe=some o:=λs=>by obtain⟨_,_,_,_,_,hf,_⟩:=wZ;exact{_,s _ _ hf}
  obtain⟨q',hd,aa,eR,eq',Rj,abf,abj,uW⟩:=id WK;cases eq';have hq8:=s8 _ _ Rj;refine{_,rfl,_,_,_,_,rfl,rfl,bx.of hq8,rfl,_,rfl,_,_,_,_,rfl,rfl,bx.of hq8,rfl,_,rfl,rfl,aa,eR,rfl,bx.of (s8 _ _ abj),λra Bo=>{by show 2<=sizeLine;decide,λqb hqb=>?_}};have sq:=aN hqb (.tup [V.ref hd,V.ref ra]);have IP:=(s8.trans (aN Bo (.tup eR.reverse))).trans sq;have hQ9:rh (upd (upd H8 ra (.tup eR.reverse)) qb (.tup [V.ref hd,V.ref ra])) (.ref qb) ux kE.reverse:={qb,hd,ra,eR.reverse,rfl,ar,IP _ _ abf,sq _ _ ar,lL (NT uW) IP};have CU:=(aN Bo (.tup eR.reverse)).trans sq;generalize (upd (upd H8 ra (.tup eR.reverse)) qb (.tup [V.ref hd,V.ref ra]))=H9 at sq IP hQ9 CU⊢;have rr:∀z r,r∈bZ es z↔r∈bZ es z:=λ_ _=>sM;refine{_,rfl,_,rfl,_,rfl,.ref q6,d,dl,fe,es,ux,kE,Dk,rows,num es ux kE,rfl,Cb WK IP,Fp,Hn,by lia,hT.keep (Ext.of IP),Ko IP,CU _ _ OA,jW pp CU,rn,ri,λ_=>rfl,λwk mW=>{_,rfl,nO ?_}};have Tg:=IP.trans mW;have Td:=CU.trans mW;have eb:∀b,b∈kE.reverse↔b∈kE:=λb=>iU;refine{_,rfl,_,rfl,_,rfl,.ref qb,d,dl,fe,es,ux,kE.reverse,Dk,rows,num es ux kE,rfl,Cb hQ9 mW,λb hb=>Fp b ((eb b).mp hb),uV Hn eb,by rw[rR];lia,hT.keep (Ext.of Tg),Ko Tg,Td _ _ OA,jW pp Td,rn,AG eb rr ri,A6 (K:=K) hT.r (uV Hn eb) eb rr,λFQ s11=>{_,rfl,nO ?_}};have ZR:=Tg.trans s11;have acR:=Td.trans s11;have UB:=ZR _ _ Rj;have WG:=ZR _ _ abj;refine{_,rfl,_,_,_,_,rfl,rfl,bx.of UB,rfl,_,rfl,_,_,_,_,rfl,rfl,bx.of UB,rfl,_,rfl,_,_,_,_,rfl,rfl,bx.of UB,rfl,JF {1,rfl,ZK (j:=1) WG λsa H12 s12 hsa=>YM (s12 _ _ WG) hsa ?_ λca BY ES hca=>{by show 2<=sizeLine;decide,λqc hqc=>?_}}}
  ·have:eR.length=kE.length:=bp uW;rw[aL];exact br (bO ∅)
  have L8:=aN hqc (.tup [V.ref hd,V.ref ca]);have IM:=acR.trans (s12.trans (ES.trans L8));have F1:=s8.trans IM;have abl:rh (upd BY qc (.tup [V.ref hd,V.ref ca])) (.ref qc) ux (kE++kE.take 1):={qc,hd,ca,_,rfl,ar,F1 _ _ abf,L8 _ _ hca,lL (vG uW (CV uW 1)) F1};generalize (upd BY qc (.tup [V.ref hd,V.ref ca]))=H14 at L8 IM F1 abl⊢;have ec:∀b,b∈kE++kE.take 1↔b∈kE:=λb=>by rw[aS];exact{λh=>h.elim id fq,.inl}
  refine{_,rfl,_,rfl,.ref qc,d,dl,fe,es,ux,kE++kE.take 1,Dk,rows,num es ux kE,rfl,abl,λb hb=>Fp b ((ec b).mp hb),uV Hn ec,by rw[aK,aL];lia,hT.keep (Ext.of F1),Ko F1,IM _ _ OA,jW pp IM,rn,AG ec rr ri,A6 (K:=K) hT.r (uV Hn ec) ec rr,λH15 s15=>{_,rfl,nO ?_}};have Tf:=F1.trans s15;have acQ:=IM.trans s15;refine Nc (F:=λl=>l++l.take 2) (j:=6) (d:=d) rfl (hT.keep (Ext.of Tf)) (Ko Tf) (λx hx=>?_) (λl x h=>(aS.mp h).elim id fq) (λh=>vG h (CV h 2)) (λx H2 N' hx g ha k'=>{_,rfl,_,rfl,d,_,rfl,g,_,rfl,_,rfl,d,_,rfl,g,JF {2,rfl,x.ad,x.ys,rfl,bo.of ha,λc hc=>{x.ad,c,x.ys,x.ys.take 2,rfl,rfl,(aN hc _) _ _ ha,by rw[ar];exact cc (λl=>some (HO.lst l)) (Sg x.ys 2),?_,λl hl=>k' l _ ((aN hc _).trans (aN hl _)) (same_none (aN hc _) hl) ar}}}) λp dG H16 s16 pE abk hk=>?_
  ·have:=l7 x hx;rw[aK,aL];lia
  ·have e1:=(hT.2.2.2.2 x hx).2.2.2.1.length;have:=l7 x hx;rw[aL];exact br (bO ∅)
  have rm:∀z r,r∈bZ dG z↔r∈bZ es z:=λz r=>by rw[hk.bZ rfl z,aS];exact{λh=>h.elim id fq,.inl}
  have ea:∀b,b∈kE↔b∈kE:=λ_=>sM;have Te:=Tf.trans s16;have ZQ:=acQ.trans s16;exact{_,rfl,_,rfl,_,rfl,.ref q6,p,dl,fe,dG,ux,kE,Dk,rows,num es ux kE,rfl,Cb WK Te,Fp,Hn,by lia,abk,Ko Te,ZQ _ _ OA,jW pp ZQ,rn,AG ea rm ri,A6 (K:=K) abk.r Hn ea rm,λH17 s17=>{_,rfl,nO {_,_,_,_,_,_,_,_,rfl,RV wZ (Te.trans s17)}}}
 ·rintro Z H2 ⟨x2,x3,x4,x5,x6,x7,x8,x9,rfl,tR⟩;exact k H2
end
end lY
namespace Hd
open PySem PySem.W PyProof.Rows PySem.W.Fast
abbrev pos0:Pos:={0,0,0,0}
abbrev tb:=tw14364793385576792824
abbrev an0:Option Value:=some (.ref 6)
def env0(p:Program):Env:={scope:=p.main.scope,locals:=mainNs,globals:=mainNs,cells:=[],code:=.ref 13,frame:=some 14}
def cd0(p:Program):Code:=.body (behindTheImports p) (env0 p)
abbrev B0:List Frame:=[topFrame pos0]
def S0(w:World)(os:OsState):Shared:={boot_heap w.params,Array.mk [],boot_drawn,boot_toks,os}
def mkT(l:List Obj):Nat->Nat->Nat->BT
 |0,_,_=>.nil
 |f+1,a,b=>match l[b]? with
  |some o=>.node o (mkT l f (2*a) (a+b)) (mkT l f (2*a) (2*a+b))
  |none=>.nil
def toT(s:Shared):SharedT:={mkT s.heap.objs.toList 6 1 0,s.heap.objs.size,s.heap.life,s.gens,s.drawn,s.toks,s.os}
def pre(p:Program)(w:World)(os:OsState):SharedT:=match tw15667345088766844465 tb p w 11 an0 12 (S0 w os) (topStub p)with
 |some r=>toT r.1
 |none=>toT (S0 w os)
def body(p:Program)(n:Nat)(w:World)(os:OsState):Option (Flow×SharedT×Code×Pos):=
 tw10110043849684766642 tb p w 11 an0 1 n (pre p w os) (piecesOf (behindTheImports p) (env0 p) (cd0 p) pos0 B0)
def aft(p:Program)(n:Nat)(w:World)(os:OsState):SharedT:=match body p n w os with
 |some r=>r.2.1
 |none=>toT (S0 w os)
def posL(p:Program)(n:Nat)(w:World)(os:OsState):Pos:=match body p n w os with
 |some r=>r.2.2.2
 |none=>pos0
def fin(p:Program)(n:Nat)(w:World)(os:OsState):Shared:=match tw14082659384304107361 tb p w 11 an0 2 (aft p n w os).abs {doneF .next,cd0 p,posL p n w os,B0}with
 |some s=>s
 |none=>S0 w os
structure Ok(p:Program)(n:Nat):Prop where
 pre:∀w os,tw15667345088766844465 tb p w 11 an0 12 (S0 w os) (topStub p)=some ((Hd.pre p w os).abs,{tw11892475500146522536 tb (cd0 p),cd0 p,pos0,B0})
 block:∀w os,tw14374325043358763698 tb p w 11 an0 1 1 (Hd.pre p w os).abs (blockOf (behindTheImports p) (env0 p) (cd0 p) pos0 B0)=some (.next,(Hd.pre p w os).abs,cd0 p,pos0)
 body:∀w os,Hd.body p n w os=some (.next,aft p n w os,cd0 p,posL p n w os)
 fin:∀w os,tw14082659384304107361 tb p w 11 an0 2 (aft p n w os).abs {doneF .next,cd0 p,posL p n w os,B0}=some (Hd.fin p n w os)
def run(o:Ok p n)(w:World)(os:OsState):topRun treeTable p w 11 an0 (12+(1+(n+2))) (S0 w os) (topStub p)=some (fin p n w os):=by have h1:=o.pre w os;have h2:=o.block w os;have h3:=o.body w os;have h4:=o.fin w os;unfold Hd.body at h3;unfold tb at h1 h2 h3 h4;rw[<-te15667345088766844465,<-te14364793385576792824,<-te11892475500146522536]at h1;rw[<-te14374325043358763698,<-te14364793385576792824]at h2;rw[<-te10110043849684766642,<-te14364793385576792824]at h3;rw[<-te14082659384304107361,<-te14364793385576792824]at h4;have k:topRun treeTable p w 11 an0 (n+2) (Hd.pre p w os).abs (restOf (behindTheImports p++[]) (env0 p) (cd0 p) pos0 B0)=some (fin p n w os):=piece_app (segRun_of h3) (piece_nil h4);rw[cu]at k;exact go_top h1 (piece_block h2 k)
def left(o:Ok p n)(hN:Nat.ble (12+(1+(n+2))) N=true)(he:opening p=plainProg p.main.scope.names)(h6:Nat.ble 600 N=true)(hf:∀s,fenceModules? p s=some s)
  (l1:∀w os,(staticsOk (importedModules p.main.body) (boot_heap w.params) (fin p n w os).heap&&namesBound p (fin p n w os).heap&&gensDone (fin p n w os)&&laidKept (boot_heap w.params) (fin p n w os).heap)=true)
  (l2:∀w os,openSeen q loose (importedModules p.main.body) Xt g0 (fin p n w os)=openGood q loose) (l3:∀w os,Yf (fin p n w os)=Ya w):LeftO p q loose Xt Yf Ya N g0:=λw=>by
 obtain⟨s,e,e'⟩:=a9.mp (boot_open he h6 hf w);obtain⟨os,rfl⟩:∃os,s=S0 w os:=by obtain⟨h,g,d,t,os⟩:=s;simp only[Prod.mk.injEq]at e';obtain⟨rfl,rfl,rfl,rfl⟩:=e';exact⟨os,rfl⟩
 have r:=topRun_mono (N -(12+(1+(n+2)))) _ _ _ _ (run o w os);rw[show 12+(1+(n+2))+(N -(12+(1+(n+2))))=N by have:=Nat.le_of_ble_eq_true hN;lia]at r;have z1:((S0 w os).heap.isNs mainGlobals&&(S0 w os).gens.size==0)=true:=by kernel_rfl
 have z2:(S0 w os).heap.objs.size=11:=by kernel_rfl
 have z3:(S0 w os).heap.nsMap mainGlobals "__annotations__"=an0:=by kernel_rfl
 have t:topFrom treeTable p w N (S0 w os)=some (fin p n w os):=by unfold topFrom;rw[z1,z2,z3,r];have q:=l1 w os;show(match _ with|true=>_|false=>_)=_;rw[show(staticsOk (importedModules p.main.body) (S0 w os).heap (fin p n w os).heap&&namesBound p (fin p n w os).heap&&gensDone (fin p n w os)&&laidKept (S0 w os).heap (fin p n w os).heap)=true from q]
 unfold openEnds;rw[e];show(topFrom treeTable p w N _).map _=_;rw[t];exact cc some (Ew (l2 w os) (l3 w os))
end Hd
namespace lY
open PySem PySem.Spec PyProof.Rows L2
abbrev tO(vs:Aag):Obj:={.type "tuple",none,.seq vs.toArray 0,#[]}
abbrev cO(vs:Aag):Obj:={.type "code",none,.fields vs.toArray,#[]}
abbrev kO(P:Params)(x:Str)(t:Tok)(v:Value):DictEntry:={PyData.keyHash P x,.str x t,v}
abbrev fO(s:Stmt)(n q:Str)(pm cd:Value):Obj:={.type "function",none,.func (fnOf n q (lJ s) (kJ s) (bQ s) .none .none .none pm none cd .none),#[]}
abbrev cF(x q:Str)(a b c:Tok)(l n:Int)(r r1:Addr)(v1 v2:Value)(r2:Addr)(i:Int)(d:Tok):Obj:=cO [.str x a,.str q b,.str "/claim/cut.py" c,.int l 0,.int n 0,.int 0 0,.int 0 0,.int 3 0,.ref r,.bool true,.int 181 0,.ref r1,.none,v1,v2,.ref r2,.int i 0,.int l 0,.str "/claim/cut.py" d]
abbrev cG(x:Str)(a b c:Tok)(l n:Int)(r r1:Addr)(v1 v2:Value)(r2:Addr)(i:Int)(d:Tok):Obj:=cF x x a b c l n r r1 v1 v2 r2 i d
abbrev fF(s:Stmt)(x:Str)(m:Value)(r:Addr):Obj:=fO s x x m (.ref r)
abbrev mO0:Value:=Value.str "askviews.terms" 187
abbrev mO1:Value:=Value.str "askviews.questions" 206
abbrev mO2:Value:=Value.str "askviews.tables" 218
abbrev wN:Value:=Value.str "askviews.answers" 228
abbrev wM:Value:=Value.str "law_askviews_k07_counted" 366
noncomputable def KF(P:Params):Frag:=
 (nat_lit 2,{.none,none,.dict #[] 0,#[]})::
 (nat_lit 3,{(.type "dict"),none,.dict #[kO P "__name__" 165 (.str "law_askviews_k07_counted" 366),kO P "__doc__" 166 .none,kO P "__package__" 167 .none,kO P "__loader__" 168 (.builtin "__main__.__loader__#opaque"),kO P "__spec__" 169 .none,kO P "__annotations__" 170 (.ref 6),kO P "__builtins__" 171 (.ref 4),kO P "__file__" 173 (.str "/claim/cut.py" 172),kO P "__cached__" 174 .none,kO P "SIGNS" 190 (.str "abcdefghijklmnopqrstuvwxyz0123456789" 189),kO P "MOST_SIGNS" 192 (.int 8 191),kO P "is_value" 198 (.ref 19),kO P "is_unknown" 205 (.ref 26),kO P "unknowns_of" 217 (.ref 33),kO P "rows_of" 227 (.ref 40),kO P "answers" 237 (.ref 47),kO P "counted" 243 (.ref 52),kO P "counts_of" 256 (.ref 59),kO P "needed_terms" 267 (.ref 66),kO P "Asking" 323 (.ref 103),kO P "narrowed" 337 (.ref 114),kO P "places_of" 347 (.ref 121),kO P "image" 353 (.ref 126),kO P "is_image" 359 (.ref 131),kO P "tails_by_key" 365 (.ref 136),kO P "_law_feed" 374 (.ref 143),kO P "_law_draw" 386 (.ref 150),kO P "_law_pool" 392 (.ref 155),kO P "_law_names" 399 (.ref 162),kO P "_law_values" 406 (.ref 169),kO P "_law_length" 414 (.ref 176),kO P "_law_question" 432 (.ref 183),kO P "_law_tables" 438 (.ref 188),kO P "_law_ways" 444 (.ref 193),kO P "_law_longer" 457 (.ref 200),kO P "_law_fits" 463 (.ref 205),kO P "_law_due" 469 (.ref 210),kO P "_law_right" 475 (.ref 215),kO P "law" 481 (.ref 220)] 39,#[]})::
 (nat_lit 15,tO [])::
 (nat_lit 18,cG "is_value" 193 194 195 4 1 15 16 .none .none 17 196 197)::
 (nat_lit 19,fF (top 3) "is_value" mO0 18)::
 (nat_lit 20,tO [])::
 (nat_lit 22,tO [(.str "thing" 202)])::
 (nat_lit 23,tO [])::
 (nat_lit 25,cG "is_unknown" 199 200 201 8 1 20 21 (.ref 22) (.ref 23) 24 203 204)::
 (nat_lit 26,fF (top 4) "is_unknown" mO0 25)::
 (nat_lit 27,tO [])::
 (nat_lit 29,tO [(.str "question" 211),(.str "found" 212),(.str "atom" 213),(.str "term" 214)])::
 (nat_lit 30,tO [])::
 (nat_lit 32,cG "unknowns_of" 208 209 210 11 1 27 28 (.ref 29) (.ref 30) 31 215 216)::
 (nat_lit 33,fF (top 6) "unknowns_of" mO1 32)::
 (nat_lit 34,tO [])::
 (nat_lit 36,tO [(.str "tables" 223),(.str "name" 224)])::
 (nat_lit 37,tO [])::
 (nat_lit 39,cG "rows_of" 220 221 222 19 2 34 35 (.ref 36) (.ref 37) 38 225 226)::
 (nat_lit 40,fF (top 8) "rows_of" mO2 39)::
 (nat_lit 41,tO [])::
 (nat_lit 43,tO [(.str "question" 233),(.str "tables" 234)])::
 (nat_lit 44,tO [])::
 (nat_lit 46,cG "answers" 230 231 232 22 2 41 42 (.ref 43) (.ref 44) 45 235 236)::
 (nat_lit 47,fF (top 10) "answers" wN 46)::
 (nat_lit 48,tO [])::
 (nat_lit 51,cG "counted" 238 239 240 24 2 48 49 .none .none 50 241 242)::
 (nat_lit 52,fF (top 11) "counted" wN 51)::
 (nat_lit 53,tO [])::
 (nat_lit 55,tO [(.str "question" 247),(.str "tables" 248),(.str "head" 249),(.str "atoms" 250),(.str "asking" 251),(.str "left" 252),(.str "atom" 253)])::
 (nat_lit 56,tO [])::
 (nat_lit 58,cG "counts_of" 244 245 246 27 2 53 54 (.ref 55) (.ref 56) 57 254 255)::
 (nat_lit 59,fF (top 12) "counts_of" wN 58)::
 (nat_lit 60,tO [])::
 (nat_lit 62,tO [(.str "head" 260),(.str "atoms" 261),(.str "needed" 262),(.str "name" 263),(.str "terms" 264)])::
 (nat_lit 63,tO [])::
 (nat_lit 65,cG "needed_terms" 257 258 259 35 2 60 61 (.ref 62) (.ref 63) 64 265 266)::
 (nat_lit 66,fF (top 13) "needed_terms" wN 65)::
 (nat_lit 74,tO [])::
 (nat_lit 76,tO [(.str "self" 283),(.str "tables" 284)])::
 (nat_lit 77,tO [])::
 (nat_lit 79,cF "__init__" "Asking.__init__" 280 281 282 42 2 74 75 (.ref 76) (.ref 77) 78 285 286)::
 (nat_lit 80,fO (inClass (top 14) 0) "__init__" "Asking.__init__" wN (.ref 79))::
 (nat_lit 81,tO [])::
 (nat_lit 84,cF "best_place" "Asking.best_place" 288 289 290 48 2 81 82 .none .none 83 291 292)::
 (nat_lit 85,fO (inClass (top 14) 1) "best_place" "Asking.best_place" wN (.ref 84))::
 (nat_lit 86,tO [])::
 (nat_lit 89,cF "take" "Asking.take" 294 295 296 58 3 86 87 .none .none 88 297 298)::
 (nat_lit 90,fO (inClass (top 14) 2) "take" "Asking.take" wN (.ref 89))::
 (nat_lit 91,tO [])::
 (nat_lit 94,cF "fresh_unknowns" "Asking.fresh_unknowns" 300 301 302 67 2 91 92 .none .none 93 303 304)::
 (nat_lit 95,fO (inClass (top 14) 3) "fresh_unknowns" "Asking.fresh_unknowns" wN (.ref 94))::
 (nat_lit 96,tO [])::
 (nat_lit 99,cF "tails_of_maps" "Asking.tails_of_maps" 306 307 308 70 2 96 97 .none .none 98 309 310)::
 (nat_lit 100,fO (inClass (top 14) 4) "tails_of_maps" "Asking.tails_of_maps" wN (.ref 99))::
 (nat_lit 101,tO [(.str "kept" 312),(.str "maps" 313),(.str "tables" 314),(.str "tails" 315)])::
 (nat_lit 102,{(.type "dict"),none,.dict #[kO P "__module__" 275 (.str "askviews.answers" 228),kO P "__firstlineno__" 279 (.int 40 278),kO P "__init__" 287 (.ref 80),kO P "best_place" 293 (.ref 85),kO P "take" 299 (.ref 90),kO P "fresh_unknowns" 305 (.ref 95),kO P "tails_of_maps" 311 (.ref 100),kO P "__static_attributes__" 316 (.ref 101),kO P "__dict__" 318 (.ref 104),kO P "__weakref__" 320 (.ref 105),kO P "__doc__" 321 .none] 4,#[]})::
 (nat_lit 103,{(.type "type"),none,.cls {"Asking",[(.type "object")],[(.ref 103),(.type "object")],102,"Asking",true,[],[],false,none,false},#[none,none,some (.str "Asking" 268),some (.str "Asking" 276),some (.builtin "object.__new__"),some (.bool true)]})::
 (nat_lit 104,{(.type "getset_descriptor"),none,.fields #[(.str "__dict__" 317),(.ref 103),(.builtin "function.__dict__"),(.builtin "function.__dict__#set")],#[]})::
 (nat_lit 105,{(.type "getset_descriptor"),none,.fields #[(.str "__weakref__" 319),(.ref 103),(.builtin "ExceptionGroup.__weakref__"),.none],#[]})::
 (nat_lit 108,tO [])::
 (nat_lit 110,tO [(.str "counted_maps" 327),(.str "unknowns" 328),(.str "terms" 329),(.str "places" 330),(.str "counts" 331),(.str "given" 332),(.str "count" 333),(.str "row" 334)])::
 (nat_lit 111,tO [])::
 (nat_lit 113,cG "narrowed" 324 325 326 79 3 108 109 (.ref 110) (.ref 111) 112 335 336)::
 (nat_lit 114,fF (top 15) "narrowed" wN 113)::
 (nat_lit 115,tO [])::
 (nat_lit 117,tO [(.str "unknowns" 341),(.str "places" 342),(.str "place" 343),(.str "unknown" 344)])::
 (nat_lit 118,tO [])::
 (nat_lit 120,cG "places_of" 338 339 340 86 1 115 116 (.ref 117) (.ref 118) 119 345 346)::
 (nat_lit 121,fF (top 16) "places_of" wN 120)::
 (nat_lit 122,tO [])::
 (nat_lit 125,cG "image" 348 349 350 91 3 122 123 .none .none 124 351 352)::
 (nat_lit 126,fF (top 17) "image" wN 125)::
 (nat_lit 127,tO [])::
 (nat_lit 130,cG "is_image" 354 355 356 93 2 127 128 .none .none 129 357 358)::
 (nat_lit 131,fF (top 18) "is_image" wN 130)::
 (nat_lit 132,tO [])::
 (nat_lit 135,cG "tails_by_key" 360 361 362 97 4 132 133 .none .none 134 363 364)::
 (nat_lit 136,fF (top 19) "tails_by_key" wN 135)::
 (nat_lit 137,tO [])::
 (nat_lit 139,tO [(.str "_law_script" 371)])::
 (nat_lit 140,tO [])::
 (nat_lit 142,cG "_law_feed" 368 369 370 105 1 137 138 (.ref 139) (.ref 140) 141 372 373)::
 (nat_lit 143,fF (top 21) "_law_feed" wM 142)::
 (nat_lit 144,tO [])::
 (nat_lit 146,tO [(.str "_law_feed_here" 378),(.str "_law_many" 379),(.str "_law_script" 380),(.str "_law_figure" 381),(.str "_law_cell" 382),(.str "_law_mixed" 383)])::
 (nat_lit 147,tO [])::
 (nat_lit 149,cG "_law_draw" 375 376 377 107 2 144 145 (.ref 146) (.ref 147) 148 384 385)::
 (nat_lit 150,fF (top 22) "_law_draw" wM 149)::
 (nat_lit 151,tO [])::
 (nat_lit 154,cG "_law_pool" 387 388 389 123 3 151 152 .none .none 153 390 391)::
 (nat_lit 155,fF (top 23) "_law_pool" wM 154)::
 (nat_lit 156,tO [])::
 (nat_lit 158,tO [(.str "_law_feed_here" 396)])::
 (nat_lit 159,tO [])::
 (nat_lit 161,cG "_law_names" 393 394 395 126 1 156 157 (.ref 158) (.ref 159) 160 397 398)::
 (nat_lit 162,fF (top 24) "_law_names" wM 161)::
 (nat_lit 163,tO [])::
 (nat_lit 165,tO [(.str "_law_feed_here" 403)])::
 (nat_lit 166,tO [])::
 (nat_lit 168,cG "_law_values" 400 401 402 128 1 163 164 (.ref 165) (.ref 166) 167 404 405)::
 (nat_lit 169,fF (top 25) "_law_values" wM 168)::
 (nat_lit 170,tO [])::
 (nat_lit 172,tO [(.str "_law_feed_here" 410),(.str "_law_name" 411)])::
 (nat_lit 173,tO [])::
 (nat_lit 175,cG "_law_length" 407 408 409 130 2 170 171 (.ref 172) (.ref 173) 174 412 413)::
 (nat_lit 176,fF (top 26) "_law_length" wM 175)::
 (nat_lit 177,tO [])::
 (nat_lit 179,tO [(.str "_law_feed_here" 418),(.str "_law_names_here" 419),(.str "_law_values_here" 420),(.str "_law_most" 421),(.str "_law_unknowns" 422),(.str "_law_atoms" 423),(.str "_law_k" 424),(.str "_law_name" 425),(.str "_law_terms" 426),(.str "_law_j" 427),(.str "_law_some" 428),(.str "_law_head" 429)])::
 (nat_lit 180,tO [])::
 (nat_lit 182,cG "_law_question" 415 416 417 134 4 177 178 (.ref 179) (.ref 180) 181 430 431)::
 (nat_lit 183,fF (top 27) "_law_question" wM 182)::
 (nat_lit 184,tO [])::
 (nat_lit 187,cG "_law_tables" 433 434 435 151 3 184 185 .none .none 186 436 437)::
 (nat_lit 188,fF (top 28) "_law_tables" wM 187)::
 (nat_lit 189,tO [])::
 (nat_lit 192,cG "_law_ways" 439 440 441 162 2 189 190 .none .none 191 442 443)::
 (nat_lit 193,fF (top 29) "_law_ways" wM 192)::
 (nat_lit 194,tO [])::
 (nat_lit 196,tO [(.str "_law_ways_here" 448),(.str "_law_unknown" 449),(.str "_law_values_here" 450),(.str "_law_found" 451),(.str "_law_way" 452),(.str "_law_value" 453),(.str "_law_longer_here" 454)])::
 (nat_lit 197,tO [])::
 (nat_lit 199,cG "_law_longer" 445 446 447 179 3 194 195 (.ref 196) (.ref 197) 198 455 456)::
 (nat_lit 200,fF (top 30) "_law_longer" wM 199)::
 (nat_lit 201,tO [])::
 (nat_lit 204,cG "_law_fits" 458 459 460 187 4 201 202 .none .none 203 461 462)::
 (nat_lit 205,fF (top 31) "_law_fits" wM 204)::
 (nat_lit 206,tO [])::
 (nat_lit 209,cG "_law_due" 464 465 466 193 2 206 207 .none .none 208 467 468)::
 (nat_lit 210,fF (top 32) "_law_due" wM 209)::
 (nat_lit 211,tO [])::
 (nat_lit 214,cG "_law_right" 470 471 472 199 3 211 212 .none .none 213 473 474)::
 (nat_lit 215,fF (top 33) "_law_right" wM 214)::
 (nat_lit 216,tO [])::
 (nat_lit 219,cG "law" 476 477 478 208 1 216 217 .none .none 218 479 480)::
 (nat_lit 220,fF (top 34) "law" wM 219)::[]
noncomputable def asF:Aaj:=[2,3,15,18,19,20,22,23,25,26,27,29,30,32,33,34,36,37,39,40,41,43,44,46,47,48,51,52,53,55,56,58,59,60,62,63,65,66,74,76,77,79,80,81,84,85,86,89,90,91,94,95,96,99,100,101,102,103,104,105,108,110,111,113,114,115,117,118,120,121,122,125,126,127,130,131,132,135,136,137,139,140,142,143,144,146,147,149,150,151,154,155,156,158,159,161,162,163,165,166,168,169,170,172,173,175,176,177,179,180,182,183,184,187,188,189,192,193,194,196,197,199,200,201,204,205,206,209,210,211,214,215,216,219,220]
def HF:PySem.W.Hook:=PySem.W.kHook KF asF λ_=>by kernel_rfl
noncomputable def qf(p:Program):Program:={p with main:={p.main with body:=[1,2,3,4,6,8,10,11,12,13,14,15,16,17,18,19,21,22,23,24,25,26,27,28,29,30,31,32,33,34].filterMap λi=>p.main.body[i]?}}
abbrev XF(p:Program)(s:Shared):Bool:=PySem.W.xlAt (qf p) [] s&&PySem.W.recOk [] s
abbrev LF(p:Program):Prop:=PySem.W.LeftO p (qf p) [] (XF p) (PySem.W.Hook.obs HF) (PySem.W.Hook.val HF) 2516
abbrev pL:Program:=PySem.Challenge.pw_askviews_k07_counted
def okL:Hd.Ok pL 1196:={λw os=>by kernel_rfl,λw os=>by kernel_rfl,λw os=>by kernel_rfl,λw os=>by kernel_rfl}
def l1L(w:World)(os:OsState):(PySem.W.staticsOk (importedModules pL.main.body) (PySem.W.boot_heap w.params) (Hd.fin pL 1196 w os).heap&&PySem.W.namesBound pL (Hd.fin pL 1196 w os).heap&&PySem.W.gensDone (Hd.fin pL 1196 w os)&&PySem.W.laidKept (PySem.W.boot_heap w.params) (Hd.fin pL 1196 w os).heap)=true:=by kernel_rfl
def l2L(w:World)(os:OsState):PySem.W.Fast.tw4187177175401517315 (qf pL) [] (importedModules pL.main.body) (XF pL) true (Hd.fin pL 1196 w os)=PySem.W.openGood (qf pL) []:=by kernel_rfl
def l3L(w:World)(os:OsState):asF.map (Hd.fin pL 1196 w os).heap.get?=(KF w.params).map λp=>some p.2:=by kernel_rfl
def ack:LF pL:=Hd.left (n:=1196) okL (by kernel_rfl) (by kernel_rfl) (by kernel_rfl) (λs=>by kernel_rfl) l1L (λw os=>by rw[PySem.W.Fast.te4187177175401517315];exact l2L w os) l3L
def head:LF PySem.Challenge.pw_askviews_k07_counted:=ack
def ZL{K:Frag}(hO:O8 H)(h:bo K H a xs):v7 K H a xs:=by
 rcases h with(h|h)|h
 ·rcases hO a with e|⟨o,ys,e⟩
  ·rw[e]at h;cases h
  ·rw[e]at h;cases h
 ·exact .inl h
 ·exact .inr h
def FN(K:Frag)(x:Str)(st:Stmt):Prop:=∃f fd,nsIn K mainGlobals x=some (some (.ref f))/\fG K x x st f fd
def acq{K:Frag}{x:Str}{st:Stmt}{f:Addr}{oc:Value}{od an:Aak}{zZ:Array (Option Value)}{kV doc pm dk ct:Value}(a:nsIn K mainGlobals x=some (some (.ref f)))(l:K.lookup f=some {oc,od,.func (fnOf x x (lJ st) (kJ st) (bQ st) .none kV doc pm an dk ct),zZ})(c:codeIn K dk x=true)(k:keepIn K (.ref f)=true):FN K x st:={f,_,a,RT l c k}
section
variable{K:Frag}{h base:Heap}{x q p p2 r s:Str}{st:Stmt}{mg:Aad}{f C:Addr}{fd:FuncData}{P:Program}{w:World}{k:Nat}{sp:Sp}{ps:Aah}
def OQ(b:FN K x st)(hb:∀f fd,fG K x x st f fd->Binds K fd ps [])(X:K.In h)(G:h.Ns mainGlobals mg)(ok:∀f fd,fG K x x st f fd->dh P w K mg base fW k f fd ps sp):eG P w K mg base k x ps sp:=
 have⟨f,fd,a,F⟩:=b
 {f,fd,ok f fd F,pY X G a,F.kp,hb f fd F}
abbrev Bd1(x q:Str)(st:Stmt)(p:Str):Prop:=(λ(a kV doc pm dk ct:Value)(an:Aak)=>bindArgs (-31) {[a],[]})=λa _ _ _ _ _ _=>pure [(p,a)]
def bd1(F:fG K x q st f fd)(h:Bd1 x q st p):Binds K fd [p] []:=F.binds λk1 k2 k3 k4 k5 k6 us hl=>by rcases us with _|⟨a,_|⟨e,us⟩⟩<;>first|exact cB (cB (cB (cB (cB (cB (cB h a) k1) k2) k3) k5) k6) k4|cases hl
def d1(P:Program)(w:World)(base:Heap)(X:K.In h)(G:h.Ns mainGlobals mg)(b:FN K x st)(ok:∀f fd,fG K x x st f fd->dh P w K mg base fW k f fd [p] sp)(h:Bd1 x x st p:=by rfl):eG P w K mg base k x [p] sp:=OQ b (λ_ _ F=>bd1 F h) X G ok
abbrev Bd2(x q:Str)(st:Stmt)(p p2:Str):Prop:=(λ(a b kV doc pm dk ct:Value)(an:Aak)=>bindArgs (-31) {[a,b],[]})=λa b _ _ _ _ _ _=>pure [(p,a),(p2,b)]
def bd2(F:fG K x q st f fd)(h:Bd2 x q st p p2):Binds K fd [p,p2] []:=F.binds λk1 k2 k3 k4 k5 k6 us hl=>by rcases us with _|⟨a,_|⟨b,_|⟨e,us⟩⟩⟩<;>first|exact cB (cB (cB (cB (cB (cB (cB (cB h a) b) k1) k2) k3) k5) k6) k4|cases hl
def d2(P:Program)(w:World)(base:Heap)(X:K.In h)(G:h.Ns mainGlobals mg)(b:FN K x st)(ok:∀f fd,fG K x x st f fd->dh P w K mg base fW k f fd [p,p2] sp)(h:Bd2 x x st p p2:=by rfl):eG P w K mg base k x [p,p2] sp:=OQ b (λ_ _ F=>bd2 F h) X G ok
abbrev Bd3(x q:Str)(st:Stmt)(p p2 r:Str):Prop:=(λ(a b c kV doc pm dk ct:Value)(an:Aak)=>bindArgs (-31) {[a,b,c],[]})=λa b c _ _ _ _ _ _=>pure [(p,a),(p2,b),(r,c)]
def bd3(F:fG K x q st f fd)(h:Bd3 x q st p p2 r):Binds K fd [p,p2,r] []:=F.binds λk1 k2 k3 k4 k5 k6 us hl=>by rcases us with _|⟨a,_|⟨b,_|⟨c,_|⟨e,us⟩⟩⟩⟩<;>first|exact cB (cB (cB (cB (cB (cB (cB (cB (cB h a) b) c) k1) k2) k3) k5) k6) k4|cases hl
def d3(P:Program)(w:World)(base:Heap)(X:K.In h)(G:h.Ns mainGlobals mg)(b:FN K x st)(ok:∀f fd,fG K x x st f fd->dh P w K mg base fW k f fd [p,p2,r] sp)(h:Bd3 x x st p p2 r:=by rfl):eG P w K mg base k x [p,p2,r] sp:=OQ b (λ_ _ F=>bd3 F h) X G ok
abbrev Bd4(x q:Str)(st:Stmt)(p p2 r s:Str):Prop:=(λ(a b c d kV doc pm dk ct:Value)(an:Aak)=>bindArgs (-31) {[a,b,c,d],[]})=λa b c d _ _ _ _ _ _=>pure [(p,a),(p2,b),(r,c),(s,d)]
def bd4(F:fG K x q st f fd)(h:Bd4 x q st p p2 r s):Binds K fd [p,p2,r,s] []:=F.binds λk1 k2 k3 k4 k5 k6 us hl=>by rcases us with _|⟨a,_|⟨b,_|⟨c,_|⟨d,_|⟨e,us⟩⟩⟩⟩⟩<;>first|exact cB (cB (cB (cB (cB (cB (cB (cB (cB (cB h a) b) c) d) k1) k2) k3) k5) k6) k4|cases hl
def d4(P:Program)(w:World)(base:Heap)(X:K.In h)(G:h.Ns mainGlobals mg)(b:FN K x st)(ok:∀f fd,fG K x x st f fd->dh P w K mg base fW k f fd [p,p2,r,s] sp)(h:Bd4 x x st p p2 r s:=by rfl):eG P w K mg base k x [p,p2,r,s] sp:=OQ b (λ_ _ F=>bd4 F h) X G ok
def MN(K:Frag)(C:Addr)(x q:Str)(st:Stmt):Prop:=∃f fd,findIn K (.ref C) x=some (some (.ref f))/\isFn K (.ref f)=true/\fG K x q st f fd
def ab6{K:Frag}{x q:Str}{st:Stmt}{f C:Addr}{oc:Value}{od an:Aak}{zZ:Array (Option Value)}{kV doc pm dk ct:Value}(a:findIn K (.ref C) x=some (some (.ref f)))(i:isFn K (.ref f)=true)(l:K.lookup f=some {oc,od,.func (-31),zZ})(c:codeIn K dk q=true)(k:keepIn K (.ref f)=true):MN K C x q st:={f,_,a,i,RT l c k}
def m2(P:Program)(w:World)(base:Heap)(mg:Aad)(b:MN K C x q st)(ok:∀f fd,fG K x q st f fd->dh P w K mg base fW k f fd [p,p2] sp)(h:Bd2 x q st p p2:=by rfl):rA P w K mg base C k x [p,p2] sp:=
 have⟨f,fd,a,i,F⟩:=b
 {f,fd,ok f fd F,{a,i,F.kp},bd2 F h}
def m3(P:Program)(w:World)(base:Heap)(mg:Aad)(b:MN K C x q st)(ok:∀f fd,fG K x q st f fd->dh P w K mg base fW k f fd [p,p2,r] sp)(h:Bd3 x q st p p2 r:=by rfl):rA P w K mg base C k x [p,p2,r] sp:=
 have⟨f,fd,a,i,F⟩:=b
 {f,fd,ok f fd F,{a,i,F.kp},bd3 F h}
end
def all_mk{l:PySem.W.OpenLaw}{w:World}{K:Frag}{h:Heap}{mg:Aad}{fa C0:Addr}{t0 t1:Tok}(X:K.In h)(G:h.Ns mainGlobals mg)(hfa:mg "law"=some (.ref fa))
  (zE:FN K "is_value" yX)
  (vZ:FN K "is_unknown" vA)
  (ue:FN K "unknowns_of" t6)
  (BA:FN K "rows_of" AM)
  (BE:FN K "answers" AR)
  (BD:FN K "counted" AQ)
  (xt:FN K "counts_of" xn)
  (sG:FN K "needed_terms" rX)
  (zy:FN K "narrowed" yS)
  (xr:FN K "places_of" xm)
  (Gw:FN K "image" FZ)
  (zF:FN K "is_image" yY)
  (sE:FN K "tails_by_key" rW)
  (Et:FN K "_law_feed" DO)
  (Eu:FN K "_law_draw" DP)
  (Er:FN K "_law_pool" DL)
  (BC:FN K "_law_names" AO)
  (zA:FN K "_law_values" yT)
  (zD:FN K "_law_length" yW)
  (vY:FN K "_law_question" vz)
  (zB:FN K "_law_tables" yU)
  (Ep:FN K "_law_ways" DK)
  (zC:FN K "_law_longer" yV)
  (Es:FN K "_law_fits" DM)
  (Gv:FN K "_law_due" FY)
  (BB:FN K "_law_right" AN)
  (O5:FN K "law" NH)
  (cA0:nsIn K mainGlobals "Asking"=some (some (.ref C0)))
  (U5:plainGet K C0 Str.empty=true)
  (U9:hasDictIn K C0=true)
  (U4:PySem.W.plainOver K C0=true)
  (U3:findIn K (.ref C0) "__setattr__"=some (some (.builtin "object.__setattr__")))
  (U7:PySem.W.makesIn K C0=true)
  (U8:keepIn K (.ref C0)=true)
  (Bx:findIn K (.ref C0) "tables"=some none)
  (Gq:findIn K (.ref C0) "kept"=some none)
  (Gp:findIn K (.ref C0) "maps"=some none)
  (Ek:findIn K (.ref C0) "tails"=some none)
  (vX:MN K C0 "__init__" "Asking.__init__" vy)
  (sH:MN K C0 "best_place" "Asking.best_place" rY)
  (Eo:MN K C0 "take" "Asking.take" DJ)
  (nU:MN K C0 "fresh_unknowns" "Asking.fresh_unknowns" nJ)
  (o6:MN K C0 "tails_of_maps" "Asking.tails_of_maps" oZ)
  (z0:nsIn K mainGlobals "len"=some none)
  (z1:nsIn K mainGlobals "abs"=some none)
  (z2:nsIn K mainGlobals "range"=some none)
  (z3:nsIn K mainGlobals "tuple"=some none)
  (z4:nsIn K mainGlobals "list"=some none)
  (z5:nsIn K mainGlobals "isinstance"=some none)
  (z6:nsIn K mainGlobals "all"=some none)
  (z7:nsIn K mainGlobals "str"=some none)
  (z8:nsIn K mainGlobals "sum"=some none)
  (z9:nsIn K mainGlobals "dict"=some none)
  (Y4:nsIn K mainGlobals "sorted"=some none)
  (Y3:nsIn K mainGlobals "set"=some none)
  (Y2:nsIn K mainGlobals "enumerate"=some none)
  (Y1:nsIn K mainGlobals "zip"=some none)
  (Y0:nsIn K mainGlobals "bool"=some none)
  (mc0:nsIn K mainGlobals "SIGNS"=some (some (.str "abcdefghijklmnopqrstuvwxyz0123456789" t0)))
  (mc1:nsIn K mainGlobals "MOST_SIGNS"=some (some (.int 8 t1)))
  :∃fd:FuncData,(∀(s:Shared)(v:Value),BindsTo s fd {[v],[]} [("_law_script",v)])/\∀base:Heap,K.In base->base.Ns mainGlobals mg->dh l.prog w K mg base fW 10 fa fd ["_law_script"] (HQ K):=by
 obtain⟨f,fd,a,F⟩:=O5;have e:=hfa.symm.trans (pY X G a);cases e;have T:Txt K mg:={cJ X G z0,cJ X G z1,cJ X G z2,cJ X G z3,cJ X G z4,cJ X G z5,cJ X G z6,cJ X G z7,cJ X G z8,cJ X G z9,cJ X G Y4,cJ X G Y3,cJ X G Y2,cJ X G Y1,cJ X G Y0,{_,pY X G mc0},{_,pY X G mc1}};refine{fd,?_,λbase _ _=>?_}
 ·obtain⟨_,_,_,_,_,_,_,_,_,rfl,_,_⟩:=F.ex
  exactλs v=>.of_eq rfl
 have FE:=d1 l.prog w base X G zE λ_ _ F=>Lk F T;have KL:=d1 l.prog w base X G vZ λ_ _ F=>HL F T ⟨FE⟩;have HN:=d1 l.prog w base X G ue λ_ _ F=>F7 F T {⟨FE⟩,KL};have R9:=d2 l.prog w base X G BA λ_ _ F=>N0 F T;have Dm:=d1 l.prog w base X G xr λ_ _ F=>Jy F T;have Nb:=d3 l.prog w base X G Gw λ_ _ F=>TN F T;have OU:=d2 l.prog w base X G zF λ_ _ F=>Ll F T;have Gk:=d4 l.prog w base X G sE λ_ _ F=>E2 F T ⟨OU⟩;have FC:=d3 l.prog w base X G zy λ_ _ F=>Lj F T ⟨Dm,Nb⟩;have Gm:=d2 l.prog w base X G sG λ_ _ F=>E3 F T;have O:Ex K C0:={⟨U5,U9,U4,U3⟩,Bx,Gq,Gp,Ek};have iR:=m2 l.prog w base mg nU λ_ _ F=>TQ F T O ⟨HN⟩;have jt:=m2 l.prog w base mg o6 λ_ _ F=>TK F T O {⟨Dm,Nb⟩,iR,R9,Gk};have vM:=m2 l.prog w base mg sH λ_ _ F=>X7 F T O ⟨jt⟩;have JM:=m3 l.prog w base mg Eo λ_ _ F=>X2 F T O ⟨iR,jt,FC⟩;obtain⟨fi,fdi,ai,ii,Fi⟩:=vX;have k_A:K1 l.prog w K mg base C0 1 "Asking" ["self","tables"] (IC l.prog w K C0):={_,_,⟨U7,ai,ii,U8⟩,TM Fi T O,pY X G cA0,bd2 Fi rfl};have Dp:=d2 l.prog w base X G xt λ_ _ F=>Jz F T O ⟨k_A,vM,JM,Gm,FC⟩;have Sf:=d2 l.prog w base X G BE λ_ _ F=>N4 F T ⟨Dp⟩;have Se:=d2 l.prog w base X G BD λ_ _ F=>N3 F T ⟨Dp⟩;have U1:=d1 l.prog w base X G Et λ_ _ F=>X5 F;have sD:=d2 l.prog w base X G Eu λ_ _ F=>X6 F T;have Ej:=d3 l.prog w base X G Er λ_ _ F=>X3 F T ⟨sD⟩;have Sb:=d1 l.prog w base X G BC λ_ _ F=>ze F T {⟨sD⟩,Ej};have OR:=d1 l.prog w base X G zA λ_ _ F=>Ql F T {⟨sD⟩,Ej};have FD:=d2 l.prog w base X G zD λ_ _ F=>Qo F T ⟨sD⟩;have KJ:=d4 l.prog w base X G vY λ_ _ F=>Li F T {{⟨sD⟩,Ej},FD};have OS:=d3 l.prog w base X G zB λ_ _ F=>Qm F T {⟨sD⟩,FD};have U0:=d4 l.prog w base X G Es λ_ _ F=>X4 F T;have OT:=d3 l.prog w base X G zC λ_ _ F=>Qn F T;have UZ:=d2 l.prog w base X G Ep λ_ _ F=>X1 F T ⟨U0,OT⟩;have YG:=d2 l.prog w base X G Gv λ_ _ F=>aap F T ⟨UZ⟩;have Sa:=d3 l.prog w base X G BB λ_ _ F=>TL F T ⟨Se,Sf⟩;exact aao F T ⟨U1,Sb,OR,KJ,OS,YG,Sa⟩
def walk{l:PySem.W.OpenLaw}{K:Params->Frag}(hn:l.most=some 63)(Bs:d.params.defaults=[])
  (hY:∀(w:World)(h:Heap),YP w h->(K w.params).In h)
  (F:∀(w:World)(mg:Aad)(fa:Addr)(h:Heap),(K w.params).In h->h.Ns mainGlobals mg->mg d.name=some (.ref fa)->
   ∃fd:FuncData,(∀(s:Shared)(u:Value),BindsTo s fd {[u],[]} [("_law_script",u)])/\∀base:Heap,(K w.params).In base->base.Ns mainGlobals mg->dh l.prog w (K w.params) mg base fW 10 fa fd ["_law_script"] (HQ (K w.params))):
  PySem.W.WalkO q loose XP YP l.row.toRowW d [] (λf vs=>PySem.call f vs):=
 L2.Xg (n:=63) (k:=10) (x:="_law_script") (CX:=λ_=>fW) (sp:=λw=>HQ (K w.params)) hn (-8) Bs {rfl,by decide,by decide} hY F (λ_ H a ns hl hO hS=>{a,ns,rfl,ZL hO hS,hl,λ_=>rfl}) λ_ _ _ _ _ z=>z
end lY
open PySem PySem.W PyProof.Rows
set_option maxHeartbeats 0 in
theorem PySem.Challenge.cw_askviews_k07_counted_holds : PySem.Challenge.rw_askviews_k07_counted.Holds := by
 w_on;refine holds_law (by rw[PySem.W.Fast.te9446332074065402090];kernel_rfl) λaeE=>?_
 refine holds_open (q:=lY.qf PySem.Challenge.pw_askviews_k07_counted) (loose:=[]) (Xt:=lY.XF PySem.Challenge.pw_askviews_k07_counted) (XP:=XL (lY.qf PySem.Challenge.pw_askviews_k07_counted) []) (Yf:=Hook.obs lY.HF) (Ya:=Hook.val lY.HF) (YP:=Hook.says lY.HF) (N:=2516) lY.head (Hook.of lY.HF) (Hook.keeps lY.HF)
  (λs e=>xl_of s (rE.mp e).1) XL.keeps (by rfl) (by rfl) (by rfl) (λs e=>recFacts_of (rE.mp e).2) (by rfl) (by first|assumption|decide+kernel) (-3) {rfl,rfl,rfl,rfl,rfl,by decide+kernel} ?hw ?hc
 case hw=>w_witness2
 case hc=>
 unfold lY.HF
 k_fill
 refine lY.walk (l:=PySem.Challenge.rw_askviews_k07_counted) rfl rfl (λw h Y=>PySem.W.kIn_of Y) ?F
 case F=>
  intro w mg fa h KX G Rp
  refine' lY.all_mk KX G Rp ?zE ?vZ ?ue ?BA ?BE ?BD ?xt ?sG ?zy ?xr ?Gw ?zF ?sE ?Et ?Eu ?Er ?BC ?zA ?zD ?vY ?zB ?Ep ?zC ?Es ?Gv ?BB ?O5 ?cA0 ?U5 ?U9 ?U4 ?U3 ?U7 ?U8 ?Bx ?Gq ?Gp ?Ek ?vX ?sH ?Eo ?nU ?o6 ?z0 ?z1 ?z2 ?z3 ?z4 ?z5 ?z6 ?z7 ?z8 ?z9 ?Y4 ?Y3 ?Y2 ?Y1 ?Y0 ?mc0 ?mc1
  case zE|vZ|ue|BA|BE|BD|xt|sG|zy|xr|Gw|zF|sE|Et|Eu|Er|BC|zA|zD|vY|zB|Ep|zC|Es|Gv|BB|O5=>refine' lY.acq ?a ?l ?c ?k;case a|l|c|k=>k_is
  case cA0|U5|U9|U4|U3|U7|U8|Bx|Gq|Gp|Ek=>k_is
  case vX|sH|Eo|nU|o6=>refine' lY.ab6 ?a ?i ?l ?c ?k;case a|i|l|c|k=>k_is
  case z0|z1|z2|z3|z4|z5|z6|z7|z8|z9|Y4|Y3|Y2|Y1|Y0|mc0|mc1=>k_is
