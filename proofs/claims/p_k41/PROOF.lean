import PyProof.Rows.All
import Wide.All
import OpenK.AllK
import PySem.Challenge.RW_askviews_k41_what_views_see
set_option Elab.async false
set_option linter.all false
set_option bootstrap.genMatcherCode false
set_option maxRecDepth 100000
set_option maxHeartbeats 4000000
local macro_rules|`({$xs:term,*})=>`(⟨$xs,*⟩)
local macro_rules|`(∅)=>`((by lia))
set_option hygiene false
local macro_rules|`(-3)=>`((by decide+kernel))
local macro_rules|`(-4)=>`(λdm A outer s H vs Q E hr h=>?_)
local macro_rules|`(-5)=>`(model prog w)
local macro_rules|`(-6)=>`(model X.prog X.w)
local macro_rules|`(-7)=>`(d8 X (x::more++fs) scope g3.objs.size {s2 with heap:=g3} H2 (s2.heap.objs.size::fp))
local macro_rules|`(-8)=>`((by decide))
local macro_rules|`(-9)=>`((by simp))
local macro_rules|`(-10)=>`(λ(p:NK×Addr×V)(q:NK×Addr×Value)=>p.1=q.1/\p.2.1=q.2.1/\RelV p.2.2 q.2.2)
local macro_rules|`(-11)=>`(arrOf st)
local macro_rules|`(-12)=>`(.ref s.heap.objs.size)
local macro_rules|`(-13)=>`((xs.map (ent knd)).toArray)
local macro_rules|`(-14)=>`(tupleKeyHash knd k)
local macro_rules|`(-15)=>`(λ_ _=>rfl)
local macro_rules|`(-16)=>`(λt=>hc (by simp[gR,t]))
local macro_rules|`(-17)=>`(s.heap.objs.size+1)
local macro_rules|`(-18)=>`((by show 0<=sizeLine;decide))
local macro_rules|`(-19)=>`(((dH items.size 0 lo:Nat):Int)==0&&(1:Int)==1&&(dH items.size items.size hi -dH items.size 0 lo)==items.size)
local macro_rules|`(-20)=>`(known.map (AskP.atT r ts))
local macro_rules|`(-21)=>`(d8 X (x::more++fs) scope C s H ex)
local macro_rules|`(-22)=>`(lp mask h n)
local macro_rules|`(-23)=>`(cl D.fB hr (dR (pv 0) bj))
local macro_rules|`(-24)=>`(fnOf x q (defArgs st) (defBody st) (defScope st) .none kV doc pm an dm ct)
local macro_rules|`(-25)=>`(ts.filter λx=>!decide (x.nm=e.nm))
local macro_rules|`(-26)=>`(fA "maps" (.ref md) [("tables",.ref tb),("kept",.ref kl)])
local macro_rules|`(-27)=>`(.ListComp elt [{tg,iter,ifs,0}] scope pos)
local macro_rules|`(-28)=>`((by rw[ak];exact bC ∅))
local macro_rules|`(-29)=>`(dZ (wpAny_callSpecial?_slot (name:=Str.ofString "__next__") hT eW (bz eW hT mX ?_ (oE _))))
local macro_rules|`(-30)=>`(model P w)
local macro_rules|`(-31)=>`(ps t.mask h D)
local macro_rules|`(-32)=>`(seqObj "list" acc.toList.toArray 0)
local macro_rules|`(-33)=>`(x==("__debug__":Str))
local macro_rules|`(-34)=>`(xs.map λx=>tupleKeyHash knd x.1)
local macro_rules|`(-35)=>`(s.heap.push {cls:=.type "tuple",data:=.seq (ps.map λ(i:Nat)=>rawInt i).toArray})
local macro_rules|`(-36)=>`((by show 2<=sizeLine;decide))
local macro_rules|`(-37)=>`(backTo pos (starEach es X.env))
local macro_rules|`(-38)=>`(d8 X (x::fs) scope C s H ex)
local macro_rules|`(-39)=>`(.lst ys)
local macro_rules|`(-40)=>`(.ins C dx (fA "kept" (.ref rj) [("tables",.ref tb),("kept",.ref kl),("maps",.ref md),("tails",.ref td)]))
local macro_rules|`(-41)=>`(.ins C dx (fA "maps" (.ref zM) [("tables",.ref tb),("kept",.ref rj),("maps",.ref md),("tails",.ref td)]))
local macro_rules|`(-42)=>`(.dK (putK kvs (Sum.inr z) (.ref rl)))
local macro_rules|`(-43)=>`(kept++hU kept a.2)
local macro_rules|`(-44)=>`((items.toList.drop (dH items.size 0 lo)).take (dH items.size items.size hi -dH items.size 0 lo))
local macro_rules|`(-45)=>`(.lst (kA (mQ.map V.str) none (some (1+(m:Int)))))
local macro_rules|`(-46)=>`(qB {aD (qV z _ _) hz,λt' k=>{.str _,H,I.tok k,⟨_,rfl⟩,q}})
local macro_rules|`(-47)=>`(Obj.mapSeq λ_=>(#[]:Aal))
local macro_rules|`(-48)=>`(jU kept a.2)
local macro_rules|`(-49)=>`(upd H5 md (.ext (DN P w md [(eY [],e,.int 1)])))
local macro_rules|`(-50)=>`(Builtin.«zip.__next__» {[.ref z],[]})
local macro_rules|`(-51)=>`(.ref a)
local macro_rules|`(-52)=>`(λr s'=>r=.ok (.ret (.bool true))/\OldK aaa.heap s'.heap/\s'.os=aaa.os/\AllBare s'.gens)
local macro_rules|`(-53)=>`(NK×Addr×V)
local macro_rules|`(-54)=>`(iO [] ((a.2.map (Sum.inr:Str->Key)).zip (a.2.map V.str)))
local macro_rules|`(-55)=>`(qu (ha pos pins s Z H _ I h) λus s1 vs H1 I1 r1 q1=>?_)
local macro_rules|`(-56)=>`(kvs.any λkv=>decide (kv.1=k))
local macro_rules|`(-57)=>`(λ(p:V×V)(e:DictEntry)=>RelV p.1 e.key/\RelV p.2 e.val)
local macro_rules|`(-58)=>`(mirror a2 lo (lo+m) ((lo+m -lo)/2))
local macro_rules|`(-59)=>`((by with_unfolding_all rfl))
local macro_rules|`(-60)=>`(s.heap.push {cls:=.type "range",data:=.fields #[.int lo t,.int hi u,.int 1 v]})
local macro_rules|`(-61)=>`(Obj.putSet ((jc xs p (k,b)).map (ent knd)).toArray t2)
local macro_rules|`(-62)=>`(λc=>?_)
local macro_rules|`(-63)=>`(fA "kept" (.ref kl) [("tables",.ref tb)])
local macro_rules|`(-64)=>`(λ(u:Value)(p:Key×Value)=>(bH prog w).is p.1 u=true)
local macro_rules|`(-65)=>`(fnOf x qual (defArgs st) (defBody st) (defScope st) .none kV doc pm an dm ct)
local macro_rules|`(-66)=>`(.Call (.Name x p) (e::es) [] pos)
local macro_rules|`(-67)=>`(envOfC qual scope s.heap.objs.size f cd)
local macro_rules|`(-68)=>`(ns.map V.int)
local macro_rules|`(-69)=>`(.lst [.int 2,.int 1,.int 3])
local macro_rules|`(-70)=>`(.dK (gs.map dt))
local macro_rules|`(-71)=>`(A.under (.builtin "type.__call__" {.ref C::us,kw}))
local macro_rules|`(-72)=>`(I.br.fresh (ar _))
local macro_rules|`(-73)=>`(Value.ref d==Value.none)
local macro_rules|`(-74)=>`(λz=>hc (by simp[z]))
local macro_rules|`(-75)=>`(.lst ((ws.take many.toNat).map V.str))
noncomputable section
open PySem.W (Frag findIn nsIn fnOf emptyDict keepIn instObj plainGet kitOne codeIn hasDictIn isFn lookIn)
abbrev Aaa:=List (PySem.Str×List PySem.Str)
abbrev Aab:=List (List PySem.Str)
abbrev Aac:=List (PySem.Addr×PySem.Obj)
abbrev Aad:=PySem.Str->Option PySem.Value
abbrev Aae:=PySem.Value->PySem.Shared->Prop
abbrev Aag:=List PySem.Value
abbrev Aah:=List PySem.Str
abbrev Aaj:=List PySem.Addr
abbrev Aak:=Option PySem.Addr
abbrev Aal:=Array PySem.Value
section
open PySem
def af:=@wpAny_bind
def ak:=@List.length_map
def ao:=@wpAny_pure
def aq:=@PySem.Heap.get?_push_of_some
def ar:=@Nat.le_refl
def au:=@List.getElem?_eq_getElem
def ax:=@List.getElem?_eq_some_iff
def ay:=@List.mem_singleton
def az:=@if_neg
def aA:=@List.mem_cons_self
def aB:=@List.mem_cons_of_mem
def aC:=@if_pos
def aD:=@Nat.le_trans
def aF:=@PySem.Heap.get?_push_size
def aG:=@List.mem_cons
def aH:=@List.mem_of_getElem?
def aI:=@PySem.Heap.lt_size
def aJ:=@List.map_append
def aK:=@List.getElem?_map
def aL:=@Nat.ne_of_lt
def aO:=@List.length_append
def aP:=@Nat.zero_le
def aQ:=@List.size_toArray
def aR:=@List.mem_map
def aS:=@Array.length_toList
def aT:=@List.length_take
def aU:=@List.map_cons
def aV:=@List.take_length
def aW:=@Bool.false_ne_true
def aX:=@Option.map_eq_some_iff
def aZ:=@decide_eq_true
def a9:=@Nat.lt_of_lt_of_le
def bg:=@List.mem_append
def bh:=@List.take_add_one
def bo:=@of_decide_eq_true
def bu:=@Nat.le_of_lt
def bw:=@PySem.Paired.length
def bx:=@List.length_cons
def bz:=@wpAny_call_entry
def bA:=@Nat.ne_of_gt
def bB:=@Bool.and_eq_true
def bD:=@Array.getElem?_eq_getElem
def bI:=@decide_eq_false
def bJ:=@Array.getElem?_toList
def bN:=@Option.some.inj
def bO:=@PySem.Heap.get?_update_other
def bP:=@wpAny_field
def bQ:=@wpAny_holding
def bS:=@PySem.PassesOwn.never
def bT:=@PySem.Heap.SameBut.update
def bU:=@congrArg
def bV:=@List.mem_filter
def bW:=@List.map_map
def bX:=@List.map_congr_left
def bY:=@wpAny_seqItems
def bZ:=@List.all_eq_true
def b6:=@List.append_nil
def b8:=@sizeLine_eq
def b9:=@PySem.F.slot_dict_itemiterator_next
def cb:=@Ne.symm
def cc:=@List.mem_append_right
def cj:=@List.length_filter_le
def cq:=@List.getD_eq_getElem?_getD
def cu:=@wpAny_setField_rec
def cw:=@Bool.false_eq_true
def cx:=@wpAny_newObj_type
def cy:=@List.mem_map_of_mem
def cB:=@PySem.Heap.size_push
def cH:=@PySem.Heap.get?_update_self
def cI:=@congrFun
def cK:=@PySem.W.mg_none_of
def cL:=@Option.toList_some
def cR:=@List.append_assoc
def cV:=@List.idxOf_lt_length_of_mem
def cX:=@List.nodup_cons
def cY:=@List.mem_range
def cZ:=@Int.toNat_natCast
def c6:=@Array.getElem_mem
def c7:=@List.take_append_drop
def c8:=@wpAny_mono
def dc:=@PySem.F.plainAttrs_list
def dj:=@boot_len
def dv:=@codeAny_builtin
def dy:=@List.mem_iff_getElem?
def dA:=@List.length_singleton
def dB:=@beq_eq_false_iff_ne
def dC:=@Nat.lt_succ_self
def dD:=@Nat.lt_irrefl
def dE:=@List.getElem?_append_right
def dO:=@List.getElem?_append_left
def dU:=@List.take_of_length_le
def dW:=@List.find?_cons_of_pos
def dX:=@List.find?_cons_of_neg
def dZ:=@wpAny_attempt
def d5:=@List.length_nil
def d6:=@if_false
def d7:=@Nat.le_add_right
def d9:=@PyProof.Rows.callWith_type1
def eA:=@Nat.lt_succ_of_lt
def eB:=@List.nodup_append
def eC:=@PyProof.Rows.slot_tuple_getitem
def eI:=@Option.map_some
def eJ:=@Nat.lt_of_le_of_lt
def eK:=@List.find?_cons
def eM:=@PySem.F.slot_zip_next
def eP:=@List.drop_eq_getElem_cons
def eU:=@PySem.F.slot_dict_keyiterator_next
def eZ:=@PySem.W.kia_one
def ff:=@List.filter_append
def fg:=@List.length_eq_zero_iff
def fq:=@List.mem_iff_getElem
def fC:=@forall_congr'
def fG:=@Nat.lt_trans
def fH:=@wpAny_setField
def fI:=@Nat.le_succ
def fJ:=@List.nodup_nil
def fM:=@Bool.eq_false_iff
def fP:=@List.filterMap_cons
def fQ:=@wpAny_rule
def fS:=@List.pairwise_iff_getElem
def fT:=@List.foldl_cons
def fV:=@Bool.eq_iff_iff
def fW:=@PySem.F.args_dict_itemiterator_next_1
def fY:=@builtinLookup_eq_fast
def fZ:=@wpAny_typeOf
def f6:=@wpAny_isInstance
def f9:=@PySem.F.type_list_append
def gc:=@PySem.F.slot_list_append
def gf:=@PySem.F.entry_dict_itemiterator_next
def gg:=@PyProof.Rows.F.plain_set_update_loop
def gh:=@List.getElem_mem
def gj:=@List.filter_cons
def gk:=@PySem.Calls.spliced_cons
def gu:=@Nat.pow_le_pow_right
def gx:=@List.mem_of_mem_take
def gz:=@List.mem_append_left
def gA:=@PySem.Around.under_plainId
def gF:=@wpAny_dictEntries
def gG:=@List.length_range
def gM:=@Nat.min_eq_left
def gO:=@plainId_quiet
def gP:=@Bool.true_and
def gQ:=@Array.getElem?_eq_some_iff
def g6:=@List.length_drop
def hW:=@List.length_replicate
def hX:=@List.getElem?_eq_none
def hZ:=@PySem.F.plain_extend_loop
def ic:=@List.rel_of_pairwise_cons
def ik:=@wpAny_typeNameOfWhole_itemiter
def il:=@wpAny_specialOf
def iA:=@Nat.not_lt_zero
def iB:=@PySem.Heap.get?_none_of_le
def iD:=@wpAny_truthy_bool
def iG:=@decide_eq_true_eq
def iH:=@LawfulBEq.eq_of_beq
def iI:=@Bool.not_true
def iJ:=@wpAny_typeNameOfWhole_keyiter
def iM:=@PySem.F.plainAttrs_dict
def iP:=@wpAny_fieldsOf
def iX:=@PySem.Calls.callWith_builtin
def jf:=@decide_eq_true_iff
def ji:=@List.map_nil
def jj:=@PySem.Code.quiet_builtin
def jk:=@wpAny_updateSeq
def jl:=@wpAny_passesOwn
def jm:=@wpAny_notOrdered_dict
def jn:=@typeLookup_type
def jt:=@PySem.F.slot_dict_get
def ju:=@List.perm_append_comm
def jz:=@PySem.F.slot_NoneType_hash
def jB:=@PySem.F.slot_tuple_iterator_next
def jG:=@bne_self_eq_false
def jH:=@Option.isSome_map
def jJ:=@PySem.F.args_zip_next_1
def jK:=@lookup_relabel_local
def jL:=@List.pairwise_append
def jM:=@List.mem_of_find?_eq_some
def jN:=@PySem.Calls.call_function_entry
def jQ:=@isSubtype_stop
def jR:=@wpAny_forIn_list
def jX:=@Option.isSome_iff_exists
def jY:=@Nat.pow_succ
def jZ:=@Nat.le_of_not_lt
def j3:=@Nat.add_zero
def j4:=@List.mem_reverse
def j6:=@List.mem_flatMap
def j7:=@List.any_eq_true
def j8:=@PySem.F.entry_zip_next
def km:=@mem_of_lookup
def kz:=@wpAny_getItem_str_slice
def kC:=@List.pairwise_singleton
def kG:=@Nat.mul_assoc
def kH:=@wpAny_dictEpoch
def kK:=@List.pairwise_cons
def kL:=@List.nil_append
def kM:=@List.mem_filterMap
def kN:=@List.map_singleton
def kP:=@List.getElem_idxOf
def kQ:=@Int.emod_lt_of_pos
def kR:=@PySem.Paired.snoc
def kT:=@Array.getElem?_eq_none
def kU:=@wpAny_pyIter_list
def kY:=@Nat.lt_trichotomy
def k7:=@List.pairwise_map
def k8:=@PySem.F.slot_tuple_hash
def k9:=@PySem.Calls.spliced_nil
def lq:=@Array.toList_push
def lA:=@wpAny_newTuple
def lE:=@if_true
def lG:=@codeAny_mono
def lK:=@List.pairwise_reverse
def lL:=@Bool.false_and
def lO:=@wpAny_pyIter_zip
def lP:=@PyProof.Rows.vals1
def lW:=@Nat.succ_le_succ
def lX:=@Nat.mod_lt
def lY:=@List.cons_append
def l9:=@PySem.Calls.evalArgs_plain
def mf:=@Array.mem_toList_iff
def mh:=@Array.getElem_toList
def mi:=@wpAny_onRaise
def mE:=@List.length_eraseIdx_of_lt
def mF:=@List.any_cons
def mH:=@wpAny_letGo
def mM:=@Std.Legacy.Range.forIn_eq_forIn_range'
def mN:=@List.map_eq_nil_iff
def mO:=@List.filter_sublist
def mP:=@wpAny_ite_split
def mZ:=@List.forIn_cons
def m6:=@Int.emod_nonneg
def m7:=@Classical.byContradiction
def m8:=@wpAny_Call_Name_kw
def nh:=@tupleKind_room_in1
def ni:=@sub_AttributeError
def nO:=@PySem.F.type_tuple_index
def nP:=@PySem.F.type_list_extend
def nQ:=@PySem.F.slot_tuple_index
def nR:=@PySem.F.slot_list_extend
def nU:=@PySem.F.plainAttrs_tuple
def nV:=@PySem.F.args_tuple_add_2
def nW:=@PySem.F.args_dict_keyiterator_next_1
def nX:=@PyProof.Rows.F.entry_set_update_loop
def nY:=@PySem.Obj.data_mapFields
def og:=@List.getElem?_take_of_lt
def oh:=@Array.forIn_toList
def oj:=@typeIs_str
def oH:=@PySem.F.entry_dict_keyiterator_next
def oN:=@PySem.F.entry_tuple_add
def oO:=@PySem.F.args_dict_get_3
def oP:=@List.getElem?_cons_succ
def oQ:=@wpAny_pyIter_slot
def oX:=@Nat.lt_of_succ_lt
def oY:=@List.take_sublist
def oZ:=@List.foldl_append
def o6:=@List.flatMap_cons
def o7:=@wpAny_isOneOf_itemiter
def pz:=@PySem.F.slot_tuple_add
def pA:=@PySem.F.entry_dict_get
def pC:=@Nat.mul_add
def pK:=@PySem.W.mg_of
def pM:=@Nat.add_assoc
def pP:=@merged_length_le
def pT:=@List.zipIdx_cons
def pU:=@List.isEmpty_nil
def qo:=@List.Perm.append_left
def qp:=@List.eraseIdx_eq_take_drop_succ
def qq:=@wpAny_pyIter_keyiter
def qr:=@wpAny_execs_nil
def qB:=@post_val_or_str
def qP:=@codeAny_call_builtin
def qQ:=@call_meetsIn
def qR:=@beq_iff_eq
def qU:=@and_congr_right
def qV:=@PySem.Txt.slice_le
def qX:=@Nat.succ_pos
def qZ:=@List.length_zip
def q9:=@Bool.and_eq_true_iff
def rf:=@Array.toList_extract
def rg:=@wpAny_dictSet_pairs
def rC:=@PySem.W.plainGet_of
def rD:=@PySem.F.plain_extend_loop
def rE:=@Array.toList_append
def rY:=@PySem.F.slot_dict_setdefault
def rZ:=@PySem.F.slot_dict_items_iter
def sd:=@List.dropLast_concat_getLast
def se:=@PySem.F.args_tuple_iterator_next_1
def sf:=@Bool.and_false
def sG:=@wpAny_pyIter_tuple
def sY:=@PyProof.Rows.assignInOrder_cons
def tE:=@PySem.W.callWith_K
def tF:=@List.find?_eq_none
def tG:=@List.filterMap_map
def tH:=@PySem.F.entry_tuple_iterator_next
def tJ:=@wpAny_standAt
def tK:=@wpAny_newList
def tN:=@PyProof.Rows.listUpdate_at
def tU:=@List.take_subset_take_left
def tV:=@List.perm_ext_iff_of_nodup
def tW:=@List.map_take
def tX:=@PySem.Calls.Name_function_global
def tY:=@Array.perm_iff_toList_perm
def tZ:=@wpAny_setState_of
def t4:=@wpAny_Call_method
def ui:=@Nat.mul_left_comm
def uj:=@List.reverse_perm
def uk:=@List.ext_getElem?
def uo:=@List.drop_sublist
def ur:=@Function.comp_def
def uu:=@Decidable.not_not
def uw:=@wpAny_letOwnedTupleGo_zip
def uI:=@call_meets
def uL:=@PySem.F.entry_extend_loop
def uW:=@wpAny_askSetting
def vg:=@noFill_tuple_add
def vk:=@merged_take_succ
def vM:=@PySem.F.slot_dict_update
def vN:=@Nat.zero_add
def vO:=@Nat.sub_self
def vP:=@List.lookup_cons
def vQ:=@List.getElem_zip
def vR:=@List.getElem_map
def vS:=@Int.zero_add
def vU:=@Array.toList_inj
def vV:=@Array.getElem?_replicate
def vW:=@meetsH_dict_get_default
def vX:=@decide_eq_false_iff_not
def vY:=@PySem.F.slot_dict_items
def vZ:=@Nat.add_sub_cancel_left
def v3:=@List.pairwise_mergeSort
def v5:=@List.lookup_eq_some_iff
def v7:=@List.getElem?_replicate
def v8:=@List.filter_cons_of_neg
def v9:=@List.Pairwise.filterMap
def we:=@size_of_entries
def wJ:=@List.of_mem_zip
def wK:=@PySem.Heap.DictOf.new
def wM:=@wpAny_pyNext_list_item
def wN:=@wpAny_Assign_Subscript
def wR:=@PyProof.Rows.subscriptTail_builtinR
def wV:=@PyProof.Rows.seqEpoch_at
def xh:=@PySem.W.cellsFrom_some
def xi:=@PySem.F.slot_dict_iter
def xj:=@Option.map_eq_none_iff
def xk:=@Nat.mod_mul
def xl:=@List.range_succ_eq_map
def xm:=@List.pairwise_lt_range
def xn:=@List.not_of_lt_findIdx
def xo:=@List.getElem?_set_self
def xp:=@List.drop_of_length_le
def xq:=@List.drop_eq_nil_of_le
def xr:=@List.Perm.append_right
def xu:=@wpAny_tryCatch
def xv:=@wpAny_pyNext_list_end
def xw:=@wpAny_isTrue_Compare1
def xx:=@wpAny_isOneOf_keyiter
def xy:=@wpAny_eqIsQuiet_tuple
def xU:=@isSubtype_type
def yf:=@entryFor_alias
def yi:=@callType_codes
def yn:=@PySem.F.type_dict_get
def yo:=@PySem.F.plain_set_new
def yq:=@PySem.Obj.isFreed_of_fields
def yt:=@List.take_zero
def yu:=@List.forIn_nil
def yz:=@wpAny_raiseAttrError
def zk:=@PySem.Obj.data_mapDictKeys
def zr:=@List.mem_of_mem_drop
def zu:=@List.getElem?_set_ne
def zx:=@PySem.F.kt_typeCall_dict_1
def zy:=@PySem.F.args_object_init_3
def zA:=@PySem.F.args_list_extend_2
def zB:=@PySem.F.args_list_append_2
def zD:=@Array.toList_reverse
def zH:=@seq_tuple_add
def Ab:=@List.all_cons
def Ac:=@Bool.or_false
def Af:=@PyProof.Rows.entry_tuple_getitem
def Ag:=@PySem.W.kdu_collect
def Ah:=@List.replicate_succ
def Ai:=@List.mergeSort_perm
def Aj:=@List.flatMap_append
def Ak:=@PySem.F.entry_list_extend
def Al:=@PySem.F.entry_list_append
def Ap:=@wpAny_setItem_heap
def Aq:=@wpAny_getItem_heap
def Aw:=@seqIndex_neg
def AI:=@putSet_of
def AK:=@PyProof.Rows.plain_sorted
def AQ:=@of_decide_eq_false
def Bl:=@PyProof.Rows.entry_sorted
def Bo:=@concat_meets
def Bz:=@PyProof.Rows.args_tuple_getitem
def BA:=@PyProof.Rows.args_sorted1
def BC:=@PySem.SeqAt.EqAt.str_int
def BD:=@PySem.SeqAt.EqAt.int_str
def BE:=@PySem.F.called_set
def BG:=@Nat.sub_zero
def BH:=@Nat.mul_comm
def BI:=@Nat.le_of_eq
def BJ:=@List.getElem?_drop
def BK:=@List.countP_append
def BL:=@List.all_map
def BM:=@PyProof.Rows.IsTup.new
def BN:=@PySem.F.slot_list_extend
def BO:=@PySem.F.slot_list_append
def BP:=@PySem.F.args_dict_init_2
def BR:=@Array.size_extract
def Cb:=@Iff.rfl
def Cc:=@wpAny_storeSet_of
def Cd:=@wpAny_sequenceKey
def Ce:=@wpAny_pyIter_enum
def Cf:=@wpAny_assign_Name
def Cj:=@eqIsQuiet_byValue
def Cn:=@PyProof.Rows.assignInOrder_nil
def Co:=@PySem.StrLaws.subAt_one
def Cp:=@list_append
def Cq:=@PySem.W.kitx_list
def Cr:=@PySem.W.kitx_dict
def Cs:=@PySem.Obj.cls_mapFields
def Cu:=@List.filter_congr
def Cv:=@PySem.Heap.SameBut.refl
def Cw:=@PySem.F.plain_list_iadd
def Cy:=@PySem.F.entry_dict_init
def Cz:=@Bool.not_eq_true'
def CA:=@wpAny_of_eq
def CB:=@wpAny_mkInt
def CJ:=@seqIndex_of
def CW:=@PyProof.Rows.kind_sorted
def Dj:=@Nat.add_mul
def Ed:=@Prod.ext
def Ej:=@wpAny_load
def Ek:=@wpAny_call
def El:=@wpAny_Name
def FD:=@PyProof.Rows.Subscript_
def FF:=@Nat.not_lt
def FH:=@PyProof.Rows.Call_
def Gp:=@BEq.rfl
end
namespace L2
open PySem PySem.Spec PyProof.Rows
abbrev Key:=Sum Int Str
def yV:Key->Value->Bool
 | .inl k,v=>Value.isInt k v
 | .inr x,v=>Value.isStrOf x v
def adu(w:World):Key->Int
 | .inl k=>hashInt k
 | .inr x=>hashStr w x
theorem ij:∀{k:Key}{v:Value},yV k v=true->(∃i t,k=Sum.inl i/\v=Value.int i t)\/(∃x t,k=Sum.inr x/\v=Value.str x t)
 | .inl i,v,h=>by obtain⟨t,e⟩:=Value.isInt_shape h;exact .inl ⟨i,t,rfl,e⟩
 | .inr x,v,h=>by obtain⟨t,e⟩:=Value.isStrOf_shape h;exact .inr ⟨x,t,rfl,e⟩
def QU(i:Int)(t:Tok):yV (.inl i) (.int i t)=true:=by simp[yV,Value.isInt]
def QT(x:Str)(t:Tok):yV (.inr x) (.str x t)=true:=by simp[yV,Value.isStrOf]
def aaJ(a b:Int):decide ((Sum.inl a:Key)=Sum.inl b)=(a==b):=by
 by_cases e:a=b
 ·subst e;simp
 ·have h:¬(Sum.inl a:Key)=Sum.inl b:=λq=>e (Sum.inl.inj q);rw[bI h];exact(dB.mpr e).symm
def aaG(a b:Str):decide ((Sum.inr a:Key)=Sum.inr b)=decide (a=b):=by
 by_cases e:a=b
 ·subst e;simp
 ·have h:¬(Sum.inr a:Key)=Sum.inr b:=λq=>e (Sum.inr.inj q);rw[bI h,bI e]
def aaI(a:Int)(b:Str):decide ((Sum.inl a:Key)=Sum.inr b)=false:=bI (λq=>nomatch q)
def aaH(a:Str)(b:Int):decide ((Sum.inr a:Key)=Sum.inl b)=false:=bI (λq=>nomatch q)
noncomputable def bH(prog:Program)(w:World):PySem.KeyKind prog w Key where
 is:=yV
 hash:=adu w
 inj:=λv a b ha hb=>by
  rcases ij ha with⟨i,t,rfl,rfl⟩|⟨x,t,rfl,rfl⟩
  ·rcases ij hb with⟨j,u,rfl,e⟩|⟨y,u,rfl,e⟩
   ·injection e with e1 _;rw[e1]
   ·exact nomatch e
  ·rcases ij hb with⟨j,u,rfl,e⟩|⟨y,u,rfl,e⟩
   ·exact nomatch e
   ·injection e with e1 _;rw[e1]
 byValue:=λk v h=>by rcases ij h with⟨i,t,rfl,rfl⟩|⟨x,t,rfl,rfl⟩<;>rfl
 pyHash:=λhv h=>by
  rcases ij hv with⟨i,t,rfl,rfl⟩|⟨x,t,rfl,rfl⟩
  ·exact wpAny_pyHash_int h
  ·exact wpAny_pyHash_str h
 eqBool:=λhu hv h=>by
  rcases ij hu with⟨i,t,rfl,rfl⟩|⟨x,t,rfl,rfl⟩
  ·rcases ij hv with⟨j,u,rfl,rfl⟩|⟨y,u,rfl,rfl⟩
   ·rw[aaJ]at h;exact wpAny_eqBool_int h
   ·rw[aaI]at h;exact BD i t y u _ _ _ _ h
  ·rcases ij hv with⟨j,u,rfl,rfl⟩|⟨y,u,rfl,rfl⟩
   ·rw[aaH]at h;exact BC x t j u _ _ _ _ h
   ·rw[aaG]at h;exact wpAny_eqBool_str h
 «strs»:=λk x t v h=>by
  rcases ij h with⟨i,u,rfl,e⟩|⟨y,u,rfl,e⟩
  ·exact nomatch e
  ·injection e with e1 _;subst e1;cases v<;>rfl
def Lm(prog:Program)(w:World)(i:Int)(t:Tok):(bH prog w).is (.inl i) (.int i t)=true:=QU i t
def CO(prog:Program)(w:World)(x:Str)(t:Tok):(bH prog w).is (.inr x) (.str x t)=true:=QT x t
inductive V where
 |cE|bl (b:Bool)|int (i:Int)|str (x:Str)|uh (b:Array UInt8)|Kx (b:UInt64)|ref (a:Addr)|ty (n:String)
 deriving DecidableEq
abbrev Aam:=List (V×V)
abbrev Aao:=List V
abbrev Aap:=Option V
def RelV:V->Value->Prop
 | .cE,u=>u=Value.none
 | .bl b,u=>u=Value.bool b
 | .int i,u=>∃t,u=Value.int i t
 | .str x,u=>∃t,u=Value.str x t
 | .uh b,u=>∃t,u=Value.bytes b t
 | .Kx b,u=>∃t,u=Value.float b t
 | .ref a,u=>u=Value.ref a
 | .ty n,u=>u=Value.type n
abbrev Vals:Aao->Aag->Prop:=Paired RelV
def Vals.length(r:Vals xs us):xs.length=us.length:=bw r
theorem Vals.get:∀{xs:Aao}{us:Aag}{i:Nat}{x:V},Vals xs us->xs[i]?=some x->∃u,us[i]?=some u/\RelV x u
 |_,_,_,_,.nil,e=>by simp at e
 |_,_,0,_,.cons r _,e=>by simp at e;subst e;exact⟨_,rfl,r⟩
 |_,_,i+1,x,.cons _ t,e=>by obtain⟨u,h1,h2⟩:=Vals.get (i:=i) (x:=x) t (by simpa using e);exact{u,by simpa using h1,h2}
theorem Vals.set(r:RelV x u):∀{xs:Aao}{us:Aag}(i:Nat),Vals xs us->Vals (xs.set i x) (us.set i u)
 |_,_,_,.nil=>.nil
 |_,_,0,.cons _ t=>.cons r t
 |_,_,i+1,.cons q t=>.cons q (Vals.set r i t)
theorem Vals.append:∀{xs ys:Aao}{us ws:Aag},Vals xs us->Vals ys ws->Vals (xs++ys) (us++ws)
 |_,_,_,_,.nil,s=>s
 |_,_,_,_,.cons r t,s=>.cons r (Vals.append t s)
theorem Vals.take:∀{xs:Aao}{us:Aag}(n:Nat),Vals xs us->Vals (xs.take n) (us.take n)
 |_,_,0,_=>.nil
 |_,_,_+1,.nil=>.nil
 |_,_,n+1,.cons r t=>.cons r (Vals.take n t)
theorem Vals.drop:∀{xs:Aao}{us:Aag}(n:Nat),Vals xs us->Vals (xs.drop n) (us.drop n)
 |_,_,0,r=>r
 |_,_,_+1,.nil=>.nil
 |_,_,n+1,.cons _ t=>Vals.drop n t
def lH:Aap->Option Value->Prop
 |some v,some u=>RelV v u
 |none,none=>True
 |_,_=>False
def KV:List (κ×V)->List (κ×Value)->Prop:=Paired λ(p:κ×V)(q:κ×Value)=>p.1=q.1/\RelV p.2 q.2
def kV:Key->V
 | .inl i=>.int i
 | .inr x=>.str x
inductive HO where
 |lst (xs:Aao)
 |tup (xs:Aao)
 |dK (kvs:List (Key×V))|dT (kvs:List (List Key×V))
 |set (S:Int->Bool) (n:Nat)
 |ins (C dx:Addr) (fs:List (Str×V))
 |own (x:Addr)
 |xd (fs:List (Str×V))
 |met (f x:Addr)
 |ZY (lo hi:Int)
 |de (o:Obj) (u:HO)
 |Ir (ps:Aal)
 |ext (φ:Heap->Prop)
abbrev Hp:=Addr->Option HO
def upd(H:Hp)(a:Addr)(o:HO):Hp:=λb=>if b=a then some o else H b
def aw:upd H a o a=some o:=by unfold upd;rw[aC rfl]
def aE(h:b≠a):upd H a o b=H b:=by unfold upd;rw[az h]
def yR{H:Hp}(h:H a=some o)(h':H b=some u)(d:o≠u):a≠b:=by intro e;subst e;rw[h]at h';exact d (bN h')
def bf{H:Hp}(h:H a=some o)(h':H b=none):a≠b:=by intro e;subst e;rw[h]at h';cases h'
section
variable(P:Program)(w:World)
noncomputable def dG(H:Hp)(h:Heap)(a:Addr):HO->Prop
 | .lst xs=>xs.length<=sizeLine/\∃(aY:Aag)(n:Nat),Vals xs aY/\h.get? a=some {cls:=.type "list",data:=.seq aY.toArray n}
 | .tup xs=>xs.length<=sizeLine/\∃aY:Aag,Vals xs aY/\IsTup h a aY.toArray/\∃o,h.get? a=some o/\o.dict=none
 | .dK kvs=>kvs.length<=sizeLine/\(a==sysModules)=false/\∃vs,KV kvs vs/\h.DictOf (bH P w) a vs
 | .dT kvs=>kvs.length<=sizeLine/\(a==sysModules)=false/\∃xs:List (List Key×Addr×Value),
   Paired (λ(p:List Key×V)(q:List Key×Addr×Value)=>p.1=q.1/\H q.2.1=some (.tup (p.1.map kV))/\RelV p.2 q.2.2) kvs xs/\
   ∃o es ep,h.get? a=some o/\o.ExactDict/\o.data=.dict es ep/\es.toList=xs.map (entryOfKey (tupleKind (bH P w)))/\(xs.map (·.1)).Nodup
 | .set S n=>h.SetOf (intKind P w) a S n
 | .ins C dx fs=>H dx=some (.own a)/\fs.length<=1000/\dx≠a/\h.get? a=some (instObj C dx)/\
   ∃mA,h.Ns1 dx mA/\(∀f,lH (fs.lookup f) (mA f))/\PySem.Within mA (fs.map (·.1))
 | .own _=>∃o,h.get? a=some o
 | .xd fs=>∃mA,h.Ns1 a mA/\∀f,lH (fs.lookup f) (mA f)
 | .ZY lo hi=>∃t u v,h.get? a=some {cls:=.type "range",data:=.fields #[.int lo t,.int hi u,.int 1 v]}
 | .de o u=>h.get? a=some o/\dG H h a u
 | .Ir ps=>h.get? a=some {cls:=.none,data:=.fields ps}
 | .met f x=>h.get? a=some (PySem.W.methodObj (.ref f) (.ref x))
 | .ext φ=>φ h/\(∃o,h.get? a=some o)/\∀h1 h2:Heap,φ h1->(∀o,h1.get? a=some o->h2.get? a=some o)->φ h2
def jI(H:Hp)(h:Heap):Prop:=∀a o,H a=some o->dG P w H h a o
end
section
variable{P:Program}{w:World}{H H':Hp}{h h':Heap}{a:Addr}{o:HO}
def dG.lt(x:dG P w H h a o):a<h.objs.size:=by
 cases o with
 |lst xs=>obtain⟨_,_,_,_,e⟩:=x;exact aI e
 |tup xs=>obtain⟨_,_,_,p,_⟩:=x;exact p.lt
 |dK kvs=>obtain⟨_,_,_,_,o,_,_,e,_⟩:=x;exact aI e
 |dT kvs=>obtain⟨_,_,_,_,o,_,_,e,_⟩:=x;exact aI e
 |set S n=>obtain⟨o,_,_,_,e,_⟩:=x;exact aI e
 |ins C dx fs=>obtain⟨_,_,_,e,_⟩:=x;exact aI e
 |own y=>obtain⟨_,e⟩:=x;exact aI e
 |xd fs=>obtain⟨_,⟨_,_,_,e,_⟩,_⟩:=x;exact aI e
 |ZY lo hi=>obtain⟨_,_,_,e⟩:=x;exact aI e
 |de ob u=>obtain⟨e,_⟩:=x;exact aI e
 |Ir ps=>exact aI (show h.get? a=some _ from x)
 |met f y=>exact aI (show h.get? a=some _ from x)
 |ext φ=>obtain⟨_,⟨_,e⟩,_⟩:=x;exact aI e
theorem Paired.vo:∀{l₁:List α}{aac:List β},Paired F l₁ aac->(∀a b,F a b->G a b)->Paired G l₁ aac
 |_,_,.nil,_=>.nil
 |_,_,.cons r t,f=>.cons (f _ _ r) (Paired.vo t f)
def Paired.imp'(f:∀a b,F a b->G a b)(r:Paired F l₁ aac):Paired G l₁ aac:=Paired.vo r f
def dG.jx(x:dG P w H h a o)(k:∀b u,(b=a\/H b=some (.own a))->h.get? b=some u->h'.get? b=some u)
  (ho:∀b,H b=some (.own a)->H' b=some (.own a)) (ht:∀b xs,H b=some (.tup xs)->H' b=some (.tup xs)):dG P w H' h' a o:=by
 induction o with
 |lst xs=>obtain⟨z,aY,n,r,e⟩:=x;exact{z,aY,n,r,k _ _ (.inl rfl) e}
 |tup xs=>obtain⟨z,aY,r,⟨ob,e,c⟩,o2,e2,c2⟩:=x;exact{z,aY,r,{ob,k _ _ (.inl rfl) e,c},o2,k _ _ (.inl rfl) e2,c2}
 |dK kvs=>obtain⟨z,y,vs,r,ob,es,ep,e,c⟩:=x;exact{z,y,vs,r,ob,es,ep,k _ _ (.inl rfl) e,c}
 |dT kvs=>
  obtain⟨z,y,xs,r,ob,es,ep,e,c⟩:=x;exact{z,y,xs,Paired.vo r λp q z=>{z.1,ht _ _ z.2.1,z.2.2},ob,es,ep,k _ _ (.inl rfl) e,c}
 |set S n=>obtain⟨ob,es,ep,t,e,c⟩:=x;exact{ob,es,ep,t,k _ _ (.inl rfl) e,c}
 |ins C dx fs=>
  obtain⟨d,z,ne,e,mA,⟨od,es,ep,e2,c⟩,r⟩:=x;exact{ho _ d,z,ne,k _ _ (.inl rfl) e,mA,{od,es,ep,k _ _ (.inr d) e2,c},r}
 |own y=>obtain⟨ob,e⟩:=x;exact{ob,k _ _ (.inl rfl) e}
 |xd fs=>obtain⟨mA,⟨od,es,ep,e,c⟩,r⟩:=x;exact{mA,{od,es,ep,k _ _ (.inl rfl) e,c},r}
 |ZY lo hi=>obtain⟨t,u,v,e⟩:=x;exact{t,u,v,k _ _ (.inl rfl) e}
 |de ob u ih=>obtain⟨e,q⟩:=x;exact{k _ _ (.inl rfl) e,ih q}
 |Ir ps=>
  have e:=x;exact k a _ (.inl rfl) e
 |met f y=>
  have e:=x;exact k a _ (.inl rfl) e
 |ext φ=>obtain⟨p,⟨o,e⟩,st⟩:=x;exact{st _ _ p λo q=>k _ _ (.inl rfl) q,{o,k _ _ (.inl rfl) e},st}
def jI.lt(x:jI P w H h)(e:H a=some o):a<h.objs.size:=(x a o e).lt
def jI.fresh(x:jI P w H h)(e:h.objs.size<=a):H a=none:=by
 cases q:H a with
 |none=>rfl
 |some u=>exact absurd (a9 (x.lt q) e) (dD _)
def jI.kept(x:jI P w H h)(k:∀b u,h.get? b=some u->h'.get? b=some u):jI P w H h':=λa o e=>
 (x a o e).jx (λb u _ q=>k b u q) (λ_ q=>q) λ_ _ q=>q
def jI.laid(x:jI P w H h)(k:∀b u,h.get? b=some u->h'.get? b=some u)(hp:h.objs.size<=a)(new:dG P w (upd H a o) h' a o):jI P w (upd H a o) h':=λb u e=>by
 have hn:=x.fresh hp;by_cases hb:b=a
 ·subst hb;rw[aw]at e;cases e;exact new
 ·rw[aE hb]at e;exact(x b u e).jx (λc v _ q=>k c v q) (λc q=>by rw[aE (bf q hn)];exact q) λc xs q=>by rw[aE (bf q hn)];exact q
end
def Rd(H:Hp)(a:Addr)(u:HO):Prop:=H a=some u\/∃o,H a=some (.de o u)
def Rd.ok(r:Rd H a u)(x:jI P w H h):dG P w H h a u:=by
 rcases r with r|⟨o,r⟩
 ·exact x a u r
 ·obtain⟨_,q⟩:=x a _ r;exact q
def Sd:Option HO->Prop
 |some (.lst _)=>True
 |some (.dK _)=>True
 |some (.dT _)=>True
 |some (.set _ _)=>True
 |some (.ins _ _ _)=>True
 |some (.ext _)=>True
 |_=>False
section
variable{P:Program}{w:World}{H:Hp}{h h':Heap}{x e:Addr}{o':HO}
def jI.write(ok:jI P w H h)(mu:Sd (H x))(he:e=x\/H e=some (.own x))(k:∀b u,b≠e->h.get? b=some u->h'.get? b=some u)(M7:∃u,h'.get? e=some u)
  (new:dG P w (upd H x o') h' x o'):jI P w (upd H x o') h':=λb u q=>by
 have aau:∀c y,H c=some (.own y)->c≠x:=λc y r z=>by subst z;rw[r]at mu;exact mu
 have adj:∀c xs,H c=some (.tup xs)->c≠x:=λc xs r z=>by subst z;rw[r]at mu;exact mu
 by_cases hb:b=x
 ·subst hb;rw[aw]at q;cases q;exact new
 ·rw[aE hb]at q;by_cases Kr:b=e
  ·have q':H b=some (.own x):=by
    rcases he with z|z
    ·exact absurd (Kr.trans z) hb
    ·rw[Kr];exact z
   rw[q]at q';cases q';obtain⟨v,hv⟩:=M7;exact{v,by rw[Kr];exact hv}
  ·refine(ok b u q).jx (λc v hc r=>k c v ?_ r) (λc r=>by rw[aE (aau c b r)];exact r) λc xs r=>by rw[aE (adj c xs r)];exact r
   rcases hc with rfl|hc
   ·exact Kr
   ·rintro rfl;rcases he with z|z
    ·exact aau c b hc z
    ·rw[hc]at z;cases z;exact hb rfl
end
structure Un(fs ex:Aaj)(H H':Hp)(h h':Heap):Prop where
 keep:∀b o,h.get? b=some o->H b=none->b∉fs->b∉ex->h'.get? b=some o
 slot:∀b o,h.get? b=some o->H b=none->b∈fs->b∉ex->∃sl,h'.get? b=some {o with slots:=sl}
 free:∀b o,h.get? b=some o->H b=none->b∉ex->H' b=none
 there:∀b o,h.get? b=some o->b∉ex->∃o',h'.get? b=some o'
 ng:∀b xs,H b=some (.tup xs)->H' b=some (.tup xs)
 tP:∀b o u,H b=some (.de o u)->H' b=some (.de o u)
 yE:∀b ps,H b=some (.Ir ps)->∃more,H' b=some (.Ir (ps++more))
section
variable{fs ex:Aaj}{H H1:Hp}{h h1 h':Heap}{a x e:Addr}{o:HO}
def Un.any(u:Un fs ex H H1 h h1)(q:h.get? b=some ob)(n:H b=none)(hx:b∉ex):∃sl,h1.get? b=some {ob with slots:=sl}:=by
 by_cases hb:b∈fs
 ·exact u.slot b ob q n hb hx
 ·exact{ob.slots,u.keep b ob q n hb hx}
def Un.kept(k:∀b u,h.get? b=some u->h'.get? b=some u):Un fs ex H H h h':=
 {λb ob q _ _ _=>k b ob q,λb ob q _ _ _=>{ob.slots,k b ob q},λ_ _ _ n _=>n,λb ob q _=>{ob,k b ob q},λ_ _ q=>q,λ_ _ _ q=>q,λ_ ps q=>{#[],by rw[q];simp}}
def Un.refl:Un fs ex H H h h:=Un.kept λ_ _ q=>q
def Un.laid(k:∀b u,h.get? b=some u->h'.get? b=some u)(hp:h.objs.size<=a)(hn:H a=none):Un fs ex H (upd H a o) h h' where
 keep:=λb u q _ _ _=>k b u q
 slot:=λb u q _ _ _=>{u.slots,k b u q}
 free:=λb u q n _=>by rw[aE (aL (a9 (aI q) hp))];exact n
 there:=λb u q _=>{u,k b u q}
 ng:=λb xs q=>by rw[aE (bf q hn)];exact q
 tP:=λb u xs q=>by rw[aE (bf q hn)];exact q
 yE:=λb ps q=>{#[],by rw[aE (bf q hn),q];simp}
def Un.write(mu:Sd (H x))(he:e=x\/H e=some (.own x))(k:∀b u,b≠e->h.get? b=some u->h'.get? b=some u)(M7:∃u,h'.get? e=some u):Un fs ex H (upd H x o) h h':=by
 have hx:∀b,H b=none->b≠x:=λb n z=>by subst z;rw[n]at mu;exact mu
 have hb:∀b,H b=none->b≠e:=λb n z=>by
  subst z;rcases he with r|r
  ·exact hx b n r
  ·rw[n]at r;cases r
 have hm:∀b u,H b=some u->¬Sd (some u)->b≠x:=λb u q nm z=>by subst z;rw[q]at mu;exact nm mu
 refine{λb u q n _ _=>k b u (hb b n) q,λb u q n _ _=>{u.slots,k b u (hb b n) q},λb u q n _=>by rw[aE (hx b n)];exact n,λb u q _=>?_,
  λb xs q=>by rw[aE (hm b _ q λz=>z)];exact q,λb u xs q=>by rw[aE (hm b _ q λz=>z)];exact q,λb ps q=>{#[],by rw[aE (hm b _ q λz=>z),q];simp}}
 by_cases Kr:b=e
 ·subst Kr;exact M7
 ·exact{u,k b u Kr q}
end
def Ve(h:Heap)(H:Hp):Aaj:=(List.range h.objs.size).filter λa=>(H a).isSome
def yX(h:Heap)(H:Hp):Heap:=PySem.W.hideAll h (Ve h H)
def Rr(h:Heap)(H:Hp):(yX h H).objs.size=h.objs.size:=PySem.W.hideAll_size _ _
def Uo(e:h.get? b=some o)(n:H b=none):(yX h H).get? b=some o:=
 PySem.W.hideAll_get _ e λhm=>by have q:=(bV.mp hm).2;rw[n]at q;simp at q
def Yd(e:(yX h H).get? b=some o):h.get? b=some o/\H b=none:=by
 have e':=PySem.W.of_hideAll (Ve h H) e;refine{e',?_};cases q:H b with
 |none=>rfl
 |some x=>
  have hm:b∈Ve h H:=bV.mpr {cY.mpr (aI e'),by simp[q]};have z:(yX h H).get? b=none:=PySem.W.hideAll_none (Ve h H) hm;rw[z]at e;cases e
def YZ(g h:Heap)(L:Addr):Aac:=(List.range h.objs.size).filterMap λa=>if a=L\/(g.get? a).isSome=true then none else(h.get? a).map λo=>(a,o)
def rest(g h:Heap)(L d:Addr):Aac:=(YZ g h L).filter λp=>decide (p.1≠d)
structure Mod(K:Frag)(mg:Aad)(base:Heap):Prop where
 QQ:K.In base
 glob:base.Ns mainGlobals mg
 blt:∃mb,base.Ns builtinsNs mb/\∀x:Str,x≠"__name__"->mb x=bootBuiltins x
 nolimit:base.NoLimit
structure Cx where
 prog:Program
 w:World
 K:Frag
 mg:Aad
 base:Heap
 A:Around
 N:Aah
 aab:Shared
 aae:Hp
 env:Env
 outer:List Env
 stack:List Env
 ex:Aaj
 fn:Str->Bool
 calm:Bool
 pn:Aac
 xe:Aae
def zW(l:List Env):Aaj:=l.filterMap (·.frame)
abbrev Cx.fs(X:Cx):Aaj:=zW X.outer
def Vis(sc:Scope)(x:Str):Prop:=sc.names.lookup x=some .local\/sc.names.lookup x=some .cell\/sc.names.lookup x=some .free
def Loc(sc:Scope)(x:Str):Prop:=sc.names.lookup x=some .local\/sc.names.lookup x=some .cell
def Look(env:Env)(h:Heap)(m:Aad)(x:Str)(u:Value):Prop:=
 (env.kindOf x=some .local/\m x=some u)\/((env.kindOf x=some .cell\/env.kindOf x=some .free)/\∃c,env.cells.lookup x=some c/\h.IsCell c (some u))
structure Cx.Ok(X:Cx):Prop where
 mod:Mod X.K X.mg X.base
 kind:X.env.scope.kind=.function
 glob:X.env.globals=mainGlobals
 blt:X.env.builtins=builtinsNs
 above:X.aab.heap.objs.size<=X.env.locals
 inj:∀x y c,X.env.cells.lookup x=some c->X.env.cells.lookup y=some c->x=y
 has:∀x,(X.env.kindOf x=some .cell\/X.env.kindOf x=some .free)->∃c,X.env.cells.lookup x=some c
 Np:∀x c,X.fn x=true->X.env.cells.lookup x=some c->X.aab.heap.objs.size<=c
 hd:X.calm=true->X.A.handled=none
 frames:X.A.frames=some X.stack
 PH:X.stack=X.outer\/(X.stack=X.env::X.outer/\X.env.frame=some X.env.locals)
 RL:∀b∈X.ex,b≠X.env.locals/\∀x c,X.env.cells.lookup x=some c->c≠b
 bs:∀b o,X.base.get? b=some o->X.aab.heap.get? b=some o/\X.aae b=none
 Df:X.base.objs.size<=X.aab.heap.objs.size
 FY:∀b o,X.base.get? b=some o->b∉X.ex
 DT:∀b∈X.ex,b∉X.fs
 rQ:X.aab.heap.FunFrames X.base X.outer
 Hn:∀b∈X.fs,X.aae b=none
structure Inv(X:Cx)(pins:Aac)(Z:List (Aap))(H:Hp)(s:Shared):Prop where
 ok:X.Ok
 os:s.os=X.aab.os
 bare:AllBare s.gens
 base:Un X.fs X.ex X.aae H X.aab.heap s.heap
 loc:∃m,s.heap.Ns X.env.locals m/\∀(i:Nat)(x:Str)(v:V),X.N[i]?=some x->Z[i]?=some (some v)->Vis X.env.scope x->∃u,RelV v u/\Look X.env s.heap m x u
 cell:∀x c,X.env.cells.lookup x=some c->∃v,s.heap.IsCell c v
 free:H X.env.locals=none
 oA:∀x c,X.env.cells.lookup x=some c->H c=none
 pin:∀p∈X.pn++pins,s.heap.get? p.1=some p.2/\H p.1=none/\p.1≠X.env.locals/\p.1∉X.fs/\∀v,p.2.data≠ .cell v
 br:jI X.prog X.w H s.heap
 len:Z.length=X.N.length
section
variable{X:Cx}{pins:Aac}{Z:List (Aap)}{H H':Hp}{s:Shared}{h':Heap}
def Cx.Ok.adm(ok:X.Ok)(e:X.base.get? b=some o):b∉X.fs:=λhb=>by have:=(ok.rQ.mem hb).1;rw[e]at this;cases this
def Inv.bs(I:Inv X pins Z H s):∀b o,X.base.get? b=some o->s.heap.get? b=some o/\H b=none:=λb o e=>
 {I.base.keep b o (I.ok.bs b o e).1 (I.ok.bs b o e).2 (I.ok.adm e) (I.ok.FY b o e),I.base.free b o (I.ok.bs b o e).1 (I.ok.bs b o e).2 (I.ok.FY b o e)}
def Inv.bk(I:Inv X pins Z H s):∀b o,X.base.get? b=some o->s.heap.get? b=some o:=λb o e=>(I.bs b o e).1
def Inv.mod(I:Inv X pins Z H s):Mod X.K X.mg X.base:=I.ok.mod
def Inv.mU(I:Inv X pins Z H s):X.K.In s.heap:=I.ok.mod.QQ.keeps I.bk
def Inv.lt(I:Inv X pins Z H s):X.env.locals<s.heap.objs.size:=let⟨_,hn,_⟩:=I.loc;hn.lt
def Inv.sz(I:Inv X pins Z H s):X.aab.heap.objs.size<=s.heap.objs.size:=aD I.ok.above (bu I.lt)
def Inv.aav(I:Inv X pins Z H s)(h:s.heap.objs.size<=a):a∉X.fs:=λhb=>by obtain⟨_,o,ho,_⟩:=I.ok.rQ.mem hb;exact absurd (a9 (aI ho) (aD I.sz h)) (dD _)
def Inv.KO(I:Inv X pins Z H s):∀x c,X.env.cells.lookup x=some c->c≠X.env.locals:=λx c e z=>by obtain⟨v,o,ho,hd⟩:=I.cell x c e;obtain⟨m,⟨o',es,ep,rp,qh,_⟩,_⟩:=I.loc;rw[z,rp]at ho;cases ho;rw[qh]at hd;cases hd
def Inv.rQ(I:Inv X pins Z H s):s.heap.FunFrames X.base X.outer:=by
 have all:∀(l:List Env),(∀b∈zW l,b∈X.fs)->X.aab.heap.FunFrames X.base l->s.heap.FunFrames X.base l:=by
  intro l
  induction l with
  |nil=>intro _ _;trivial
  |cons env r ih=>
   intro hs hl;obtain⟨hk,⟨L,o,hf,hn,ho,hd⟩,hr⟩:=hl;have hL:=hs L (by unfold zW;rw[fP,hf];exact aA);obtain⟨sl,e⟩:=I.base.slot L o ho (I.ok.Hn L hL) hL λz=>I.ok.DT L z hL;exact{hk,⟨L,_,hf,hn,e,hd⟩,ih (λb hb=>hs b (by unfold zW;rw[fP,hf];exact aB _ hb)) hr}
 exact all X.outer (λ_ hb=>hb) I.ok.rQ
def Inv.stack(I:Inv X pins Z H s):s.heap.FunFrames X.base X.stack:=by
 rcases I.ok.PH with e|⟨e,hf⟩
 ·rw[e];exact I.rQ
 ·rw[e];obtain⟨m,hn,_⟩:=I.loc;refine .cons (by rw[I.ok.kind];decide) hf hn ?_ I.rQ;exact iB (aD I.ok.Df I.ok.above)
def Inv.Iz(I:Inv X pins Z H s):∀b∈zW X.stack,b∈X.env.locals::X.fs:=λb hb=>by
 rcases I.ok.PH with e|⟨e,hf⟩
 ·rw[e]at hb;exact aB _ hb
 ·rw[e]at hb;unfold zW at hb;rw[fP,hf]at hb;exact hb
def Inv.L4(I:Inv X pins Z H s):∀b∈zW X.stack,H b=none:=λb hb=>by
 rcases aG.mp (I.Iz b hb)with e|hb
 ·rw[e];exact I.free
 ·obtain⟨_,o,ho,_⟩:=I.ok.rQ.mem hb;exact I.base.free b o ho (I.ok.Hn b hb) λz=>I.ok.DT b z hb
def Inv.step{ch:Aaj}(I:Inv X pins Z H s)
  (C8:∀b∈ch,(b∈X.ex\/X.aab.heap.objs.size<=b)/\b≠X.env.locals/\(∀x c,X.env.cells.lookup x=some c->c≠b)/\∀p∈X.pn++pins,p.1≠b)
  (keep:∀b o,b≠X.env.locals->b∉X.fs->b∉ch->s.heap.get? b=some o->H b=none->h'.get? b=some o)
  (slot:∀b o,b≠X.env.locals->b∈X.fs->b∉ch->s.heap.get? b=some o->H b=none->∃sl,h'.get? b=some {o with slots:=sl}) (free:∀b o,b∉ch->s.heap.get? b=some o->H b=none->H' b=none)
  (there:∀b o,b∉ch->s.heap.get? b=some o->∃o',h'.get? b=some o')
  (ng:∀b xs,H b=some (.tup xs)->H' b=some (.tup xs)) (tP:∀b o u,H b=some (.de o u)->H' b=some (.de o u)) (yE:∀b ps,H b=some (.Ir ps)->∃more,H' b=some (.Ir (ps++more)))
  (ns:∀m,s.heap.Ns X.env.locals m->h'.Ns X.env.locals m) (br:jI X.prog X.w H' h') (hg:AllBare g'):
  Inv X pins Z H' {s with heap:=h',gens:=g',drawn:=d',toks:=t'}:=by
 have My:∀b o,X.aab.heap.get? b=some o->b≠X.env.locals:=λb o e=>aL (a9 (aI e) I.ok.above);have VL:∀b o,X.aab.heap.get? b=some o->b∉X.ex->b∉ch:=λb o e hx hb=>by
  rcases(C8 b hb).1 with z|z
  ·exact hx z
  ·exact absurd (a9 (aI e) z) (dD _)
 have cellK:∀x c,X.env.cells.lookup x=some c->∀v,s.heap.IsCell c v->h'.IsCell c v:=λx c e v ⟨o,ho,hd⟩=>by
  have Qz:=λz=>(C8 c z).2.2.1 x c e rfl;by_cases hc:c∈X.fs
  ·obtain⟨sl,q⟩:=slot c o (I.KO x c e) hc Qz ho (I.oA x c e);exact⟨_,q,hd⟩
  ·exact{o,keep c o (I.KO x c e) hc Qz ho (I.oA x c e),hd}
 refine{I.ok,I.os,hg,{λb o e n hb hx=>?_,λb o e n hb hx=>?_,λb o e n hx=>?_,λb o e hx=>?_,λb xs e=>ng b xs (I.base.ng b xs e),λb o xs e=>tP b o xs (I.base.tP b o xs e),λb ps e=>?_},?_,λx c e=>?_,?_,λx c e=>?_,λp hp=>?_,br,I.len}
 ·exact keep b o (My b o e) hb (VL b o e hx) (I.base.keep b o e n hb hx) (I.base.free b o e n hx)
 ·obtain⟨sl,e1⟩:=I.base.slot b o e n hb hx;obtain⟨sl',e2⟩:=slot b _ (My b o e) hb (VL b o e hx) e1 (I.base.free b o e n hx);exact⟨sl',e2⟩
 ·obtain⟨o',e1⟩:=I.base.there b o e hx;exact free b o' (VL b o e hx) e1 (I.base.free b o e n hx)
 ·obtain⟨o',e1⟩:=I.base.there b o e hx;exact there b o' (VL b o e hx) e1
 ·obtain⟨m1,e1⟩:=I.base.yE b ps e;obtain⟨m2,e2⟩:=yE b _ e1;exact{m1++m2,by rw[e2,Array.append_assoc]}
 ·obtain⟨m,hn,hl⟩:=I.loc;refine{m,ns m hn,λi x v e1 e2 e3=>?_};obtain⟨u,r,l⟩:=hl i x v e1 e2 e3;refine{u,r,?_};rcases l with l|⟨k,c,e,z⟩
  ·exact .inl l
  ·exact .inr {k,c,e,cellK x c e _ z}
 ·obtain⟨v,z⟩:=I.cell x c e;exact{v,cellK x c e v z}
 ·obtain⟨m,⟨o,_,_,ho,_⟩,_⟩:=I.loc;exact free _ o (λz=>(C8 _ z).2.1 rfl) ho I.free
 ·obtain⟨v,o,ho,hd⟩:=I.cell x c e;exact free c o (λz=>(C8 c z).2.2.1 x c e rfl) ho (I.oA x c e)
 ·obtain⟨e,n,ne,nf,d⟩:=I.pin p hp;have Qz:=λz=>(C8 p.1 z).2.2.2 p hp rfl;exact{keep p.1 p.2 ne nf Qz e n,free p.1 p.2 Qz e n,ne,nf,d}
def Inv.un(I:Inv X pins Z H s)(u:Un X.fs [] H H' s.heap h')(br:jI X.prog X.w H' h'):Inv X pins Z H' {s with heap:=h',toks:=t'}:=by
 obtain⟨m,⟨o,es,ep,ho,r⟩,_⟩:=id I.loc;obtain⟨sl,hL⟩:=u.any ho I.free (-9);exact I.step (ch:=[]) (λ_ z=>nomatch z) (λb o _ hb _ e n=>u.keep b o e n hb (-9)) (λb o _ hb _ e n=>u.slot b o e n hb (-9)) (λb o _ e n=>u.free b o e n (-9)) (λb o _ e=>u.there b o e (-9)) u.ng u.tP u.yE (λm' hm=>by obtain⟨o',fL,Bk,rp,r'⟩:=hm;rw[ho]at rp;cases rp;exact⟨_,fL,Bk,hL,r'⟩) br I.bare
def Inv.call(I:Inv X pins Z H s)(u:Un (zW X.stack) ch H H' s.heap h')(br:jI X.prog X.w H' h')(hg:AllBare g')
  (C8:∀b∈ch,(b∈X.ex\/X.aab.heap.objs.size<=b)/\b≠X.env.locals/\(∀x c,X.env.cells.lookup x=some c->c≠b)/\∀p∈X.pn++pins,p.1≠b):
  Inv X pins Z H' {s with heap:=h',gens:=g',drawn:=d',toks:=t'}:=by
 obtain⟨m,⟨o,es,ep,ho,r⟩,_⟩:=id I.loc;obtain⟨sl,hL⟩:=u.any ho I.free λz=>(C8 _ z).2.1 rfl;exact I.step C8 (λb o hL hb hc e n=>u.keep b o e n (λz=>(aG.mp (I.Iz b z)).elim hL hb) hc) (λb o _ _ hc e n=>u.any e n hc) (λb o hc e n=>u.free b o e n hc) (λb o hc e=>u.there b o e hc) u.ng u.tP u.yE (λm' hm=>by obtain⟨o',fL,Bk,rp,r'⟩:=hm;rw[ho]at rp;cases rp;exact⟨_,fL,Bk,hL,r'⟩) br hg
def Inv.turned(I:Inv X pins Z H s)(k:∀b o,b≠it->s.heap.get? b=some o->h'.get? b=some o)(hn:H it=none)(hL:it≠X.env.locals)
  (h1:it∈X.ex\/X.aab.heap.objs.size<=it) (h2:∀x c,X.env.cells.lookup x=some c->c≠it) (h3:∀p∈X.pn++pins,p.1≠it):Inv X pins Z H {s with heap:=h',toks:=t'}:=by
 have nit:∀b u,H b=some u->b≠it:=λb u e z=>by rw[z,hn]at e;cases e
 refine I.step (ch:=[it]) (λb hb=>?_) (λb o _ _ hc e _=>k b o (-74) e) (λb o _ _ hc e _=>{o.slots,k b o (-74) e}) (λ_ _ _ _ n=>n)
  (λb o hc e=>{o,k b o (-74) e}) (λ_ _ e=>e) (λ_ _ _ e=>e) (λb ps e=>{#[],by rw[e];simp}) (λm hm=>?_) (λb u e=>?_) I.bare
 ·have e:b=it:=by simpa using hb
  subst e;exact⟨h1,hL,h2,h3⟩
 ·obtain⟨o,es,ep,ho,r⟩:=hm;exact{o,es,ep,k _ o (cb hL) ho,r}
 ·refine(I.br b u e).jx (λc v hc q=>k c v ?_ q) (λ_ q=>q) λ_ _ q=>q;rcases hc with z|z
  ·rw[z];exact nit b u e
  ·exact nit c _ z
def Inv.tok(I:Inv X pins Z H s)(t:Nat):Inv X pins Z H {s with toks:=t}:=I.un Un.refl I.br
def Inv.kept(I:Inv X pins Z H s)(k:∀b u,s.heap.get? b=some u->h'.get? b=some u):Inv X pins Z H {s with heap:=h',toks:=t'}:=I.un (Un.kept k) (I.br.kept k)
def Inv.laid(I:Inv X pins Z H s)(k:∀b u,s.heap.get? b=some u->h'.get? b=some u)(hp:s.heap.objs.size<=a)(new:dG X.prog X.w (upd H a o) h' a o):
  Inv X pins Z (upd H a o) {s with heap:=h',toks:=t'}:=I.un (Un.laid k hp (I.br.fresh hp)) (I.br.laid k hp new)
def Inv.write(I:Inv X pins Z H s)(mu:Sd (H x))(he:e=x\/H e=some (.own x))(k:∀b u,b≠e->s.heap.get? b=some u->h'.get? b=some u)(M7:∃u,h'.get? e=some u)
  (new:dG X.prog X.w (upd H x o) h' x o):Inv X pins Z (upd H x o) {s with heap:=h',toks:=t'}:=I.un (Un.write mu he k M7) (I.br.write mu he k M7 new)
def Inv.xH(I:Inv X pins Z H s)(h:∀p∈acg,s.heap.get? p.1=some p.2/\H p.1=none/\p.1≠X.env.locals/\p.1∉X.fs/\∀v,p.2.data≠ .cell v):Inv X acg Z H s:=
 {I.ok,I.os,I.bare,I.base,I.loc,I.cell,I.free,I.oA,λp hp=>(bg.mp hp).elim (λz=>I.pin p (gz _ z)) (h p),I.br,I.len}
def JK{N:Aah}(hN:N.Nodup){i j:Nat}(a:N[i]?=some x)(b:N[j]?=some x):i=j:=by obtain⟨h1,e1⟩:=ax.mp a;obtain⟨h2,e2⟩:=ax.mp b;exact(List.getElem_inj hN).mp (e1.trans e2.symm)
def Gy(I:Inv X pins Z H s)(hN:X.N.Nodup)(hi:X.N[i]?=some x)(hx:Loc X.env.scope x)(r:RelV v u)
  (h:∀s',Inv X pins (Z.set i (some v)) H s'->(∃a,Heap.SameBut a s.heap s'.heap/\(a=X.env.locals\/X.env.cells.lookup x=some a))->Q () s') (hf:X.fn x=true\/X.env.scope.names.lookup x=some .local:=by first|exact .inl rfl|exact .inr rfl|assumption):wpAny M A (storeName X.env x u) Q E s:=by
 obtain⟨m,hn,hl⟩:=id I.loc;have ael:(X.env.scope.kind==.class||(X.env.scope.kind==.module&&X.env.locals !=X.env.globals))=false:=by rw[I.ok.kind];rfl
 have hiZ:i<Z.length:=by rw[I.len];exact(ax.mp hi).1
 have KO:=I.KO;have tracked:∀{a:Addr}{h':Heap},(∃o,s.heap.get? a=some o/\H a=none)->Heap.SameBut a s.heap h'->jI X.prog X.w H h':=λ{a h'} ha hs b ob e=>by
  obtain⟨_,_,Ww⟩:=ha;refine(I.br b ob e).jx (λc w' hc q=>(hs.2 c ?_).trans q) (λ_ q=>q) λ_ _ q=>q;rintro rfl;rcases hc with rfl|hc
  ·rw[Ww]at e;cases e
  ·rw[Ww]at hc;cases hc
 rcases hx with hk|hk
 ·refine wpAny_storeName_local hk hn (λh' MX hs=>?_) ael;obtain⟨oL,_,_,E3,_⟩:=id hn;refine h _ {I.ok,I.os,I.bare,{λb o e n hb hx=>?_,λb o e n hb hx=>?_,I.base.free,λb o e hx=>?_,I.base.ng,I.base.tP,I.base.yE},{_,MX,λj y v' e1 e2 e3=>?_},λy c e=>?_,I.free,I.oA,λp hp=>?_,tracked {oL,E3,I.free} hs,by simpa using I.len} {_,hs,.inl rfl}
  ·exact(hs.2 b (aL (a9 (aI e) I.ok.above))).trans (I.base.keep b o e n hb hx)
  ·obtain⟨sl,e1⟩:=I.base.slot b o e n hb hx;exact{sl,(hs.2 b (aL (a9 (aI e) I.ok.above))).trans e1}
  ·obtain⟨o',e1⟩:=I.base.there b o e hx;exact{o',(hs.2 b (aL (a9 (aI e) I.ok.above))).trans e1}
  ·by_cases hj:j=i
   ·subst hj;rw[hi]at e1;cases e1;rw[xo hiZ]at e2;cases e2;exact{u,r,.inl {hk,by simp}}
   ·rw[zu (cb hj)]at e2;obtain⟨u',r',q⟩:=hl j y v' e1 e2 e3;refine{u',r',?_};rcases q with⟨k,e⟩|⟨k,c,e,z⟩
    ·refine .inl {k,?_};have:y≠x:=λe=>hj (JK hN e1 (e▸hi));simp[this,e]
    ·exact .inr {k,c,e,z.sameBut hs (KO y c e)}
  ·obtain⟨w',z⟩:=I.cell y c e;exact{w',z.sameBut hs (KO y c e)}
  ·obtain⟨e,n,ne,nf,d⟩:=I.pin p hp;exact{(hs.2 p.1 ne).trans e,n,ne,nf,d}
 ·have hfn:X.fn x=true:=by
   rcases hf with z|z
   ·exact z
   ·rw[z]at hk;cases hk
  obtain⟨c,hc⟩:=I.ok.has x (.inl hk);obtain⟨w',z⟩:=I.cell x c hc;refine wpAny_storeName_cell I.ok.kind hk hc z (λh' qi hs=>?_);obtain⟨oc,hoc,aec⟩:=id z;refine h {s with heap:=h'} {I.ok,I.os,I.bare,{λb o e n hb hx=>?_,λb o e n hb hx=>?_,I.base.free,λb o e hx=>?_,I.base.ng,I.base.tP,I.base.yE},{m,hn.sameBut hs (cb (KO x c hc)),λj y v' e1 e2 e3=>?_},λy c' e=>?_,I.free,I.oA,λp hp=>?_,tracked {oc,hoc,I.oA x c hc} hs,by simpa using I.len} {c,hs,.inr hc}
  ·exact(hs.2 b (aL (a9 (aI e) (I.ok.Np x c hfn hc)))).trans (I.base.keep b o e n hb hx)
  ·obtain⟨sl,e1⟩:=I.base.slot b o e n hb hx;exact{sl,(hs.2 b (aL (a9 (aI e) (I.ok.Np x c hfn hc)))).trans e1}
  ·obtain⟨o',e1⟩:=I.base.there b o e hx;exact{o',(hs.2 b (aL (a9 (aI e) (I.ok.Np x c hfn hc)))).trans e1}
  ·by_cases hj:j=i
   ·subst hj;rw[hi]at e1;cases e1;rw[xo hiZ]at e2;cases e2;exact{u,r,.inr {.inl hk,c,hc,qi}}
   ·rw[zu (cb hj)]at e2;obtain⟨u',r',q⟩:=hl j y v' e1 e2 e3;refine{u',r',?_};rcases q with q|⟨k,c',e,z'⟩
    ·exact .inl q
    ·refine .inr {k,c',e,z'.sameBut hs ?_};rintro rfl;exact hj (JK hN e1 (I.ok.inj _ _ _ e hc▸hi))
  ·by_cases hcc:c'=c
   ·subst hcc;exact⟨_,qi⟩
   ·obtain⟨w2,z2⟩:=I.cell y c' e;exact{w2,z2.sameBut hs hcc}
  ·obtain⟨e,n,ne,nf,d⟩:=I.pin p hp;refine{(hs.2 p.1 ?_).trans e,n,ne,nf,d};intro q;rw[q,hoc]at e;have q':=bN e;exact d w' (by rw[<-q'];exact aec)
def yF(I:Inv X pins Z H s)(hN:X.N.Nodup)(hi:X.N[i]?=some x)(hx:Loc X.env.scope x)(r:RelV v u)
  (h:∀s',Inv X pins (Z.set i (some v)) H s'->Q () s') (hf:X.fn x=true\/X.env.scope.names.lookup x=some .local:=by first|exact .inl rfl|exact .inr rfl|assumption):wpAny M A (storeName X.env x u) Q E s:=
 Gy I hN hi hx r (λs' I' _=>h s' I') hf
def Inv.acM(I:Inv X pins Z H s)(ho:s'.os=s.os)(u:Un (zW X.stack) ch H H' s.heap s'.heap)(br:jI X.prog X.w H' s'.heap)(hg:AllBare s'.gens)
  (C8:∀b∈ch,(b∈X.ex\/X.aab.heap.objs.size<=b)/\b≠X.env.locals/\(∀x c,X.env.cells.lookup x=some c->c≠b)/\∀p∈X.pn++pins,p.1≠b):Inv X pins Z H' s':=by
 obtain⟨h',g',d',t',o'⟩:=s';have e:=ho;subst e;exact I.call u br hg C8
abbrev XK:=Value->Aak->Hp->Prop
abbrev St:=List (Aap)
abbrev VK:=V->Hp->Prop
abbrev TE:=St->Hp->VK->Prop
abbrev TT:=St->Hp->(Bool->Hp->Prop)->Prop
abbrev TA:=St->Hp->(Aao->Hp->Prop)->Prop
structure Ends where
 nx:St->Hp->Prop
 rt:VK
 bk:St->Hp->Prop:=λ_ _=>False
 ct:St->Hp->Prop:=λ_ _=>False
abbrev TS:=Ends->St->Hp->Prop
end
inductive EP(X:Cx)(pins:Aac)(Z:St)(Q:VK)(u:Value)(s':Shared):Prop
 |mk v H' (_:Inv X pins Z H' s') (_:RelV v u) (_:Q v H')
inductive TP(X:Cx)(pins:Aac)(Z:St)(Q:Bool->Hp->Prop)(b:Bool)(s':Shared):Prop
 |mk H' (_:Inv X pins Z H' s') (_:Q b H')
inductive AP(X:Cx)(pins:Aac)(Z:St)(Q:Aao->Hp->Prop)(us:Aag)(s':Shared):Prop
 |mk vs H' (_:Inv X pins Z H' s') (_:Vals vs us) (_:Q vs H')
def SP(X:Cx)(pins:Aac)(D:Ends)(f:Flow)(s':Shared):Prop:=
 match f with
 | .next=>∃σ' H',Inv X pins σ' H' s'/\D.nx σ' H'
 | .brk=>∃σ' H',Inv X pins σ' H' s'/\D.bk σ' H'
 | .cont=>∃σ' H',Inv X pins σ' H' s'/\D.ct σ' H'
 | .ret u=>∃v σ' H',Inv X pins σ' H' s'/\RelV v u/\D.rt v H'
def PE(X:Cx)(e:Expr)(t:TE):Prop:=
 ∀(pins:Aac)(s:Shared)(Z:St)(H:Hp)(Q:VK),Inv X pins Z H s->t Z H Q->wpAny (-6) X.A (eval e X.env) (EP X pins Z Q) X.xe s
def PT(X:Cx)(e:Expr)(t:TT):Prop:=
 ∀(pins:Aac)(s:Shared)(Z:St)(H:Hp)(Q:Bool->Hp->Prop),Inv X pins Z H s->t Z H Q->wpAny (-6) X.A (isTrue e X.env (eval e X.env)) (TP X pins Z Q) X.xe s
def PW(X:Cx)(e:Expr)(t:TT):Prop:=
 ∀(whole:Sem Value)(pins:Aac)(s:Shared)(Z:St)(H:Hp)(Q:Bool->Hp->Prop),Inv X pins Z H s->t Z H Q->wpAny (-6) X.A (isTrue e X.env whole) (TP X pins Z Q) X.xe s
def PW.pt(h:PW X e t):PT X e t:=h _
def PA(X:Cx)(es:List Expr)(t:TA):Prop:=
 ∀(pos:Pos)(pins:Aac)(s:Shared)(Z:St)(H:Hp)(Q:Aao->Hp->Prop),Inv X pins Z H s->t Z H Q->wpAny (-6) X.A (spliced (-37)) (AP X pins Z Q) X.xe s
def PS(X:Cx)(st:Stmt)(t:TS):Prop:=
 ∀(pins:Aac)(s:Shared)(Z:St)(H:Hp)(D:Ends),Inv X pins Z H s->t D Z H->wpAny (-6) X.A (exec st X.env) (SP X pins D) X.xe s
def mY(X:Cx)(st:List Stmt)(t:TS):Prop:=
 ∀(pins:Aac)(s:Shared)(Z:St)(H:Hp)(D:Ends),Inv X pins Z H s->t D Z H->wpAny (-6) X.A (execs st X.env) (SP X pins D) X.xe s
def iT(h:wpAny M A t Q E s)(hQ:∀a s,Q a s->Q' a s):wpAny M A t Q' E s:=c8 h hQ λ_ _ x=>x
def df{X:Cx}{pins:Aac}{Z:St}{Q:VK}{t:Sem Value}{Q':Aae}{s:Shared}(h:wpAny (-6) X.A t (EP X pins Z Q) X.xe s)(k:∀u s x H,Inv X pins Z H s->RelV x u->Q x H->Q' u s):wpAny (-6) X.A t Q' X.xe s:=iT h λu s ⟨x,H,I,r,q⟩=>k u s x H I r q
def qu{X:Cx}{pins:Aac}{Z:St}{Q:Aao->Hp->Prop}{t:Sem (Aag)}{Q':Aag->Shared->Prop}{s:Shared}(h:wpAny (-6) X.A t (AP X pins Z Q) X.xe s)(k:∀u s x H,Inv X pins Z H s->Vals x u->Q x H->Q' u s):wpAny (-6) X.A t Q' X.xe s:=iT h λu s ⟨x,H,I,r,q⟩=>k u s x H I r q
def Im{X:Cx}{pins:Aac}{Z:St}{Q:Bool->Hp->Prop}{t:Sem Bool}{Q':Bool->Shared->Prop}{s:Shared}(h:wpAny (-6) X.A t (TP X pins Z Q) X.xe s)(k:∀u s H,Inv X pins Z H s->Q u H->Q' u s):wpAny (-6) X.A t Q' X.xe s:=iT h λu s ⟨H,I,q⟩=>k u s H I q
section
variable{X:Cx}
inductive NI(i:Nat)(Z:St)(H:Hp)(Q:VK):Prop
 |mk v (_:Z[i]?=some (some v)) (_:Q v H)
def tC(v:V):TE:=λ_ H Q=>Q v H
def aaj(hN:X.N[i]?=some x)(hv:Vis X.env.scope x)(hd:(-33)=false:=by decide)(Be:(x==("__classdict__":Str))=false:=by decide):PE X (.Name x pos) (NI i):=by
 intro pins s Z H Q I h;obtain⟨v,e,h⟩:=h;obtain⟨m,hn,hl⟩:=I.loc;obtain⟨u,r,l⟩:=hl i x v hN e hv;have fin:EP X pins Z Q u s:=⟨v,H,I,r,h⟩;rcases l with⟨hk,hm⟩|⟨hk,c,hc,WB⟩
 ·exact El (wpAny_loadName_local I.ok.kind hk hn hm fin) hd
 ·rcases hk with hk|hk
  ·exact El (wpAny_loadName_cell I.ok.kind hk hc WB fin) hd
  ·exact El (wpAny_loadName_free I.ok.kind hk hc WB fin Be) hd
def bj{i j pos}:PE X (.Constant (.int i) j pos) (tC (.int i)):=λ_ _ _ H _ I h=>wpAny_Constant_int {.int i,H,I.tok _,⟨_,rfl⟩,h}
def yO{b j pos}:PE X (.Constant (.bool b) j pos) (tC (.bl b)):=λ_ _ _ H _ I h=>Constant_bool {.bl b,H,I,rfl,h}
def xI{j pos}:PE X (.Constant .none j pos) (tC .cE):=λ_ _ _ H _ I h=>Constant_none {.cE,H,I,rfl,h}
def f7{x j pos}:PE X (.Constant (.str x) j pos) (tC (.str x)):=λ_ _ _ H _ I h=>Calls.Constant_str {.str x,H,I.tok _,⟨_,rfl⟩,h}
def Gl(X:Cx)(x:Str):Prop:=X.env.kindOf x=some .globalImplicit
def F1(I:Inv X pins Z H s)(hg:Gl X x)(hm:X.mg x=some u)(h:Q u s)
  (hd:(-33)=false:=by decide):wpAny (-6) X.A (eval (.Name x pos) X.env) Q E s:=
 tX I.ok.kind hg (Calls.loadGlobal_global (by rw[I.ok.glob];exact I.mod.glob.keeps I.bk) hm h) hd
def qE(I:Inv X pins Z H s)(hg:Gl X x)(hm:X.mg x=none)(hv:bootBuiltins x=some u)(h:Q u s)
  (hn:x≠"__name__":=by decide) (hd:(-33)=false:=by decide):wpAny (-6) X.A (eval (.Name x pos) X.env) Q E s:=by
 obtain⟨mb,h1,h2⟩:=I.mod.blt;exact tX I.ok.kind hg (Calls.loadGlobal_builtin (by rw[I.ok.glob];exact I.mod.glob.keeps I.bk) hm (by rw[I.ok.blt];exact h1.keeps I.bk) ((h2 x hn).trans hv) h) hd
def Mt(hg:Gl X x)(hm:X.mg x=some u)(r:RelV v u)(hd:(-33)=false:=by decide):PE X (.Name x pos) (tC v):=
 λ_ _ _ H _ I h=>F1 I hg hm ⟨v,H,I,r,h⟩ hd
def X3(hg:Gl X x)(hm:X.mg x=none)(hv:bootBuiltins x=some u)(r:RelV v u)(hn:x≠"__name__":=by decide)(hd:(-33)=false:=by decide):PE X (.Name x pos) (tC v):=
 λ_ _ _ H _ I h=>qE I hg hm hv ⟨v,H,I,r,h⟩ hn hd
variable{a b:Expr}{pos:Pos}
def PC(X:Cx)(op:CmpOp)(a b:Expr)(t:TE):Prop:=
 ∀(pins:Aac)(s:Shared)(Z:St)(H:Hp)(Q:VK),Inv X pins Z H s->t Z H Q->
  wpAny (-6) X.A (eval a X.env) (λv aaa=>wpAny (-6) X.A (eval b X.env) (λu aad=>wpAny (-6) X.A (compareOp op v u) (EP X pins Z Q) X.xe aad) X.xe aaa) X.xe s
inductive Vm(Q:Bool->Hp->Prop)(x:V)(H1:Hp):Prop
 |mk c (_:x=.bl c) (_:Q c H1)
def tB(t:TE):TT:=λZ H Q=>t Z H λx H1=>Vm Q x H1
def Jb(h:PC X op a b t)(h1:behindInMarks op b=false:=by first|exact adn _ (by decide) (by decide)|rfl):PT X (.Compare a [op] [b] pos) (tB t):=by intro pins s Z H Q I hw;refine xw (iT (h pins s Z H _ I hw) λv s1 h1=>iT h1 λu s2 h2=>iT h2 λc s3 wu=>?_) h1;obtain⟨x,H1,I1,r1,q1⟩:=wu;obtain⟨d,rfl,q⟩:=q1;cases r1;exact iD ⟨H1,I1,q⟩
def AJ(h:PE X e t)(he:∀whole,isTrue e X.env whole=(do let v<-whole;standAt e.pos;holding [v] (truthy v)):=by intro _;rfl):PT X e (tB t):=by intro pins s Z H Q I hw;refine isTrue_plain (df (h pins s Z H _ I hw) λv s1 x H1 I1 r1 q1=>?_) (he _);obtain⟨d,rfl,q⟩:=q1;cases r1;exact iD ⟨H1,I1,q⟩
variable{ta tb:TE}{tA Vm:TT}{rest:List Expr}
def tOr(t u:TT):TT:=λZ H Q=>t Z H λc H1=>if c=true then Q true H1 else u Z H1 Q
def acZ(t:TT):TT:=λZ H Q=>t Z H λc H1=>Q (!c) H1
def ED(ha:PT X a tA):PW X (.BoolOp .Or [a] pos) tA:=by
 intro wh pins s Z H Q I h;refine isTrue_or (iT (ha pins s Z H Q I h) λc s1 e=>?_);cases c with
 |false=>exact isTrue_or_nil e
 |true=>exact e
def EE(ha:PT X a tA)(hb:PW X (.BoolOp .Or (b::rest) pos) Vm):PW X (.BoolOp .Or (a::b::rest) pos) (tOr tA Vm):=by
 intro wh pins s Z H Q I h;refine isTrue_or (Im (ha pins s Z H _ I h) λc s1 H1 I1 q1=>?_);cases c with
 |true=>exact⟨H1,I1,q1⟩
 |false=>exact hb wh pins s1 Z H1 Q I1 q1
def Ja(ha:PT X a tA):PT X (.UnaryOp .Not a pos) (acZ tA):=by intro pins s Z H Q I h;exact isTrue_not (Im (ha pins s Z H (λc H1=>Q (!c) H1) I h) λ_ _ a b c=>⟨a,b,c⟩)
inductive ZM(tb:TE)(Z:St)(Q:VK)(x:V)(H1:Hp):Prop
 |mk c (_:x=.bl c) (_:if c=true then tb Z H1 Q else Q (.bl false) H1)
def ab5(ta tb:TE):TE:=λZ H Q=>ta Z H λx H1=>ZM tb Z Q x H1
def Qg{op}(h:PE X a t):PE X (.BoolOp op [a] pos) t:=λpins s Z H Q I hw=>BoolOp_one (h pins s Z H Q I hw)
def Js(ha:PE X a ta)(hb:PE X (.BoolOp .And (b::rest) pos) tb):PE X (.BoolOp .And (a::b::rest) pos) (ab5 ta tb):=by
 intro pins s Z H Q I h;refine BoolOp_and (df (ha pins s Z H _ I h) λv s1 x H1 I1 r1 q1=>?_);obtain⟨c,rfl,q1⟩:=q1;cases r1;refine iD ?_;cases c with
 |true=>exact hb pins s1 Z H1 Q I1 q1
 |false=>exact{.bl false,H1,I1,rfl,q1}
def tIf(t:TT)(ta tb:TE):TE:=λZ H Q=>t Z H λc H1=>if c=true then ta Z H1 Q else tb Z H1 Q
def Jo(hc:PT X c tA)(ha:PE X a ta)(hb:PE X b tb):PE X (.IfExp c a b pos) (tIf tA ta tb):=by
 intro pins s Z H Q I h;refine wpAny_IfExp (Im (hc pins s Z H _ I h) λd s1 H1 I1 q1=>?_);cases d with
 |true=>exact ha pins s1 Z H1 Q I1 q1
 |false=>exact hb pins s1 Z H1 Q I1 q1
end
def bp(K:Frag)(H:Hp)(a:Addr)(xs:Aao):Prop:=
 Rd H a (.lst xs)\/
  ∃(o:Obj)(aY:Aal)(n:Nat),K.lookup a=some o/\o.cls=.type "list"/\o.dict=none/\o.data=.seq aY n/\aY.size<=sizeLine/\Vals xs aY.toList
def bF(K:Frag)(H:Hp)(a:Addr)(xs:Aao):Prop:=
 Rd H a (.tup xs)\/
  ∃(o:Obj)(aY:Aal)(n:Nat),K.lookup a=some o/\o.cls=.type "tuple"/\o.data=.seq aY n/\aY.size<=sizeLine/\Vals xs aY.toList
def aeu:Value->Aap
 | .none=>some .cE
 | .bool b=>some (.bl b)
 | .int i _=>some (.int i)
 | .str x _=>some (.str x)
 | .bytes b _=>some (.uh b)
 | .float b _=>some (.Kx b)
 | .ref a=>some (-51)
 | .type n=>some (.ty n)
 |_=>none
def RelV.abs(r:RelV x u):aeu u=some x:=by
 cases x with
 |cE=>cases r;rfl
 |bl _=>cases r;rfl
 |int _=>obtain⟨t,rfl⟩:=r;rfl
 |str _=>obtain⟨t,rfl⟩:=r;rfl
 |uh _=>obtain⟨t,rfl⟩:=r;rfl
 |Kx _=>obtain⟨t,rfl⟩:=r;rfl
 |ref _=>cases r;rfl
 |ty _=>cases r;rfl
def RelV.inj(r:RelV x u)(q:RelV y u):x=y:=bN (r.abs.symm.trans q.abs)
theorem Vals.inj:∀{xs ys:Aao}{us:Aag},Vals xs us->Vals ys us->xs=ys
 |_,_,_,.nil,.nil=>rfl
 |_,_,_,.cons r t,.cons r' t'=>by rw[r.inj r',Vals.inj t t']
section
variable{X:Cx}{pins:Aac}{Z:St}{H:Hp}{s:Shared}{a:Addr}{xs ys:Aao}
def bp.of{K:Frag}(h:H a=some (.lst xs)):bp K H a xs:=.inl (.inl h)
def bF.of{K:Frag}(h:H a=some (.tup xs)):bF K H a xs:=.inl (.inl h)
def Inv.list(I:Inv X pins Z H s)(h:bp X.K H a xs):∃aY:Aag,Vals xs aY/\PlainL s.heap a aY.toArray/\xs.length<=sizeLine:=by
 rcases h with h|⟨o,aY,n,hk,hc,hd,hs,hz,r⟩
 ·obtain⟨z,aY,n,r,e⟩:=h.ok I.br;exact{aY,r,⟨_,n,e,rfl,rfl,rfl⟩,z}
 ·refine{aY.toList,r,{o,n,I.mU a o hk,hc,hd,by simpa using hs},?_};have e:=r.length;simp only[aS]at e;lia
def Inv.tuple(I:Inv X pins Z H s)(h:bF X.K H a xs):∃aY:Aag,Vals xs aY/\IsTup s.heap a aY.toArray/\xs.length<=sizeLine:=by
 rcases h with h|⟨o,aY,n,hk,hc,hs,hz,r⟩
 ·obtain⟨z,aY,r,p,_⟩:=h.ok I.br;exact⟨aY,r,p,z⟩
 ·refine{aY.toList,r,{o,I.mU a o hk,hc,n,by simpa using hs},?_};have e:=r.length;simp only[aS]at e;lia
def Inv.DI(I:Inv X pins Z H s)(h:bp X.K H a xs)(h':bp X.K H a ys):xs=ys:=by
 obtain⟨aY,r,⟨o,n,e,_,_,d⟩,_⟩:=I.list h;obtain⟨its',r',⟨o',n',e',_,_,d'⟩,_⟩:=I.list h';rw[e]at e';cases e';rw[d]at d';injection d' with d1 _;have:aY=its':=by simpa using bU Array.toList d1
 subst this;exact r.inj r'
def Inv.Ar(I:Inv X pins Z H s)(h:bF X.K H a xs)(h':bF X.K H a ys):xs=ys:=by
 obtain⟨aY,r,⟨o,e,_,n,d⟩,_⟩:=I.tuple h;obtain⟨its',r',⟨o',e',_,n',d'⟩,_⟩:=I.tuple h';rw[e]at e';cases e';rw[d]at d';injection d' with d1 _;have:aY=its':=by simpa using bU Array.toList d1
 subst this;exact r.inj r'
end
abbrev Cx.wO(X:Cx)(E:Aae):Cx:={X with xe:=E}
abbrev Cx.VI(X:Cx):Cx:=X.wO λ_ _=>False
def Cx.Ok.wO{X:Cx}(ok:X.Ok)(E:Aae):(X.wO E).Ok:=
 {ok.mod,ok.kind,ok.glob,ok.blt,ok.above,ok.inj,ok.has,ok.Np,ok.hd,ok.frames,ok.PH,ok.RL,ok.bs,ok.Df,ok.FY,ok.DT,ok.rQ,ok.Hn}
def Cx.Ok.sH{X:Cx}(ok:(X.wO E).Ok):X.Ok:=
 {ok.mod,ok.kind,ok.glob,ok.blt,ok.above,ok.inj,ok.has,ok.Np,ok.hd,ok.frames,ok.PH,ok.RL,ok.bs,ok.Df,ok.FY,ok.DT,ok.rQ,ok.Hn}
section
variable{X:Cx}{pins:Aac}{Z:St}{H:Hp}{s:Shared}{E:Aae}
def Inv.wO(I:Inv X pins Z H s)(E:Aae):Inv (X.wO E) pins Z H s:={I.ok.wO E,I.os,I.bare,I.base,I.loc,I.cell,I.free,I.oA,I.pin,I.br,I.len}
def Inv.sH(I:Inv (X.wO E) pins Z H s):Inv X pins Z H s:={I.ok.sH,I.os,I.bare,I.base,I.loc,I.cell,I.free,I.oA,I.pin,I.br,I.len}
def SP.sH(h:SP (X.wO E) pins D f s'):SP X pins D f s':=by
 cases f with
 |next=>obtain⟨σ',H',I,q⟩:=h;exact{σ',H',I.sH,q}
 |brk=>obtain⟨σ',H',I,q⟩:=h;exact{σ',H',I.sH,q}
 |cont=>obtain⟨σ',H',I,q⟩:=h;exact{σ',H',I.sH,q}
 |ret u=>obtain⟨v,σ',H',I,r,q⟩:=h;exact{v,σ',H',I.sH,r,q}
def mY.VI{st:List Stmt}(h:mY X.VI st t):mY X st t:=λpins s Z H D I hw=>
 c8 (h pins s Z H D (I.wO _) hw) (λ_ _ q=>q.sH) λ_ _ z=>False.elim z
end
section
variable{X:Cx}{st:Stmt}{rest:List Stmt}{t u:TS}{e:Expr}{te:TE}{pos:Pos}
def abZ:TS:=λD Z H=>D.nx Z H
def NJ(t u:TS):TS:=λD Z H=>t {D with nx:=u D} Z H
def eG:mY X [] abZ:=λ_ _ Z H _ I h=>qr ⟨Z,H,I,h⟩
def aN(h1:PS X st t)(h2:mY X rest u):mY X (st::rest) (NJ t u):=by
 intro pins s Z H D I h;refine wpAny_execs_cons (iT (h1 pins s Z H {D with nx:=u D} I h) λf s1 q=>?_);cases f with
 |next=>
  obtain⟨σ',H',I',q⟩:=q;exact h2 pins s1 σ' H' D I' q
 |ret v=>exact q
 |brk=>exact q
 |cont=>exact q
def ba(h1:PS X st t):mY X [st] t:=by
 intro pins s Z H D I h;refine wpAny_execs_cons (iT (h1 pins s Z H D I h) λf s1 q=>?_);cases f with
 |next=>exact qr q
 |ret v=>exact q
 |brk=>exact q
 |cont=>exact q
def Inv.quiet(I:Inv X pins Z H s):interactive X.env=false:=by simp[interactive,I.ok.kind]
def ab1(te:TE):TS:=λD Z H=>te Z H λ_ H1=>D.nx Z H1
def lC(he:PE X e te)(hs:swapsWith e none pos.line X.env=pure false:=by rfl):PS X (.Expr e pos) (ab1 te):=by intro pins s Z H D I h;exact wpAny_Expr_any (df (he pins s Z H _ I h) λv s1 x H1 I1 r1 q1=>⟨Z,H1,I1,q1⟩) I.quiet hs
def acX(te:TE):TS:=λD Z H=>te Z H D.rt
def cN(he:PE X e te):PS X (.Return (some e) pos) (acX te):=by intro pins s Z H D I h;exact wpAny_Return_some (df (he pins s Z H _ I h) λv s1 x H1 I1 r1 q1=>⟨x,Z,H1,I1,r1,q1⟩)
def ac1(c:TT)(t u:TS):TS:=λD Z H=>c Z H λb H1=>if b=true then t D Z H1 else u D Z H1
def gJ(hc:PT X c tc)(ha:mY X a t)(hb:mY X b u):PS X (.If c a b pos) (ac1 tc t u):=by
 intro pins s Z H D I h;refine wpAny_If (Im (hc pins s Z H _ I h) λd s1 H1 I1 q1=>?_);cases d with
 |true=>exact ha pins s1 Z H1 D I1 q1
 |false=>exact hb pins s1 Z H1 D I1 q1
abbrev TG:=V->St->Hp->(St->Hp->Prop)->Prop
abbrev W3:=Aao->St->Hp->(St->Hp->Prop)->Prop
end
def PG(X:Cx)(target:Expr)(t:TG):Prop:=
 ∀(pins:Aac)(s:Shared)(Z:St)(H:Hp)(v:V)(u:Value)(Q:St->Hp->Prop),Inv X pins Z H s->RelV v u->t v Z H Q->
  wpAny (-6) X.A (assign target X.env u) (λ_ s'=>∃σ' H',Inv X pins σ' H' s'/\Q σ' H') X.xe s
def Aa(X:Cx)(ts:List Expr)(t:W3):Prop:=
 ∀(pins:Aac)(s:Shared)(Z:St)(H:Hp)(vs:Aao)(us:Aag)(Q:St->Hp->Prop),Inv X pins Z H s->Vals vs us->t vs Z H Q->
  wpAny (-6) X.A (assignInOrder ((assignEach ts X.env).map (·.2)) us) (λ_ s'=>∃σ' H',Inv X pins σ' H' s'/\Q σ' H') X.xe s
abbrev abF:=V->V->V->Hp->(Hp->Prop)->Prop
def abG(X:Cx)(t:abF):Prop:=
 ∀(pins:Aac)(s:Shared)(Z:St)(H:Hp)(o i v:V)(ov iv u:Value)(Q:Hp->Prop),Inv X pins Z H s->RelV o ov->RelV i iv->RelV v u->t o i v H Q->
  wpAny (-6) X.A (setItem ov iv u) (λ_ s'=>∃H',Inv X pins Z H' s'/\Q H') X.xe s
section
variable{X:Cx}{pos:Pos}
def sA(i:Nat):TG:=λv Z H Q=>Q (Z.set i (some v)) H
def ot(hN:X.N.Nodup)(hi:X.N[i]?=some x)(hx:Loc X.env.scope x)(hf:X.fn x=true\/X.env.scope.names.lookup x=some .local:=by first|exact .inl rfl|exact .inr rfl|assumption):PG X (.Name x pos) (sA i):=by intro pins s Z H v u Q I r h;exact Cf (yF I hN hi hx r (λs' I'=>⟨_,H,I',h⟩) hf)
def abq:W3:=λvs Z H Q=>vs=[]/\Q Z H
inductive OR(t:TG)(u:W3)(vs:Aao)(Z:St)(H:Hp)(Q:St->Hp->Prop):Prop
 |mk v r (_:vs=v::r) (_:t v Z H λσ' H'=>u r σ' H' Q)
def g9:Aa X [] abq:=by intro pins s Z H vs us Q I r h;obtain⟨e,h⟩:=h;subst e;cases r;exact Cn ⟨Z,H,I,h⟩
def cA(h1:PG X e t)(h2:Aa X es u)
  (hs:(assignEach (e::es) X.env).map (·.2)=assign e X.env::(assignEach es X.env).map (·.2):=by rfl):Aa X (e::es) (OR t u):=by
 intro pins s Z H vs us Q I r h;obtain⟨v,vr,e1,h⟩:=h;subst e1;cases r with
 |cons r rr=>
  rw[hs];refine sY (iT (h1 pins s Z H _ _ _ I r h) λ_ s1 xV=>?_);obtain⟨σ1,H1,I1,q1⟩:=xV;exact h2 pins s1 σ1 H1 _ _ Q I1 rr q1
inductive Uw(K:Frag)(n:Nat)(t:W3)(v:V)(Z:St)(H:Hp)(Q:St->Hp->Prop):Prop
 |mk a xs (_:v=.ref a) (_:bF K H a xs) (_:xs.length=n) (_:t xs Z H Q)
def iY(hc:X.calm=true)(h:Aa X es t)
  (hn:(assignEach es X.env).length=n:=by rfl) (ie:(assignEach es X.env).findIdx? (·.1)=none:=by rfl):PG X (.Tuple es k pos) (Uw X.K n t):=by
 intro pins s Z H v u Q I r hw;obtain⟨a,xs,e1,hq,hl,hw⟩:=hw;subst e1;cases r;obtain⟨aY,rv,ht,hz⟩:=I.tuple hq;refine assign_Tuple_tuple (I.ok.hd hc) ht (by simp[hn,<-hl,rv.length]) ie λh' hx=>?_;have I1:=I.kept (t':=s.toks) λb o e=>hx b o (aL (aI e)) e;exact h pins _ Z H xs _ Q I1 (by simpa using rv) hw
def aeo(to ti:TE)(t:abF):TG:=λv Z H Q=>to Z H λo H1=>ti Z H1 λi H2=>t o i v H2 λH3=>Q Z H3
def Qf(ho:PE X o to)(hi:PE X i ti)(hs:abG X t)
  (ha:∀v,assign (.Subscript o i pos) X.env v=(do
   let ov<-holding [v] (eval o X.env)
   let iv<-holding [v,ov] (eval i X.env)
   standAt pos
   holding [v,ov,iv] (setItem ov iv v)
   release [v,ov,iv] []):=by intro _;rfl):PG X (.Subscript o i pos) (aeo to ti t):=by
 intro pins s Z H v u Q I r h;rw[ha];refine af (bQ (df (ho pins s Z H _ I h) λov s1 x H1 I1 r1 q1=>?_));refine af (bQ (df (hi pins s1 Z H1 _ I1 q1) λiv s2 y H2 I2 r2 q2=>?_));refine af (tJ (af (bQ (iT (hs pins s2 Z H2 x y v ov iv u _ I2 r1 r2 r q2) λ_ s3 hz3=>?_))));obtain⟨H3,I3,q3⟩:=hz3;exact wpAny_release ⟨Z,H3,I3,q3⟩
def SK(te:TE)(g:TG):TS:=λD Z H=>te Z H λx H1=>g x Z H1 D.nx
def xG(he:PE X e te)(hg:PG X tg g)(hs:swapsWithSole [tg] e pos.line X.env=pure false:=by rfl)(hw:swappedStores [tg] e X.env=pure none:=by rfl)
  (h1:(assignEach [tg] X.env).map (·.2)=[assign tg X.env]:=by rfl):PS X (.Assign [tg] e pos) (SK te g):=by
 intro pins s Z H D I h;refine wpAny_Assign_stores (df (he pins s Z H _ I h) λv s1 x H1 I1 r1 q1=>?_) hs hw;rw[h1];exact iT (hg pins s1 Z H1 x v _ I1 r1 q1) λ_ s2 q=>q
def jT(hN:X.N.Nodup)(hi:X.N[i]?=some x)(hx:Loc X.env.scope x)(he:PE X e te)(hs:swapsWith e (some (.Name x pos')) pos.line X.env=pure false:=by rfl)(hf:X.fn x=true\/X.env.scope.names.lookup x=some .local:=by first|exact .inl rfl|exact .inr rfl|assumption):
  PS X (.Assign [.Name x pos'] e pos) (SK te (sA i)):=by
 intro pins s Z H D I h;refine wpAny_Assign_Name (df (he pins s Z H _ I h) λv s1 y H1 I1 r1 q1=>?_) hs;exact yF I1 hN hi hx r1 (λs2 I2=>⟨_,H1,I2,q1⟩) hf
inductive abY(i:Nat)(j:Nat)(D:Ends)(Z:St)(vs:Aao)(H1:Hp):Prop
 |mk v w (_:vs=[v,w]) (_:D.nx ((Z.set i (some v)).set j (some w)) H1)
def acY(i j:Nat)(ta:TA):TS:=λD Z H=>ta Z H λvs H1=>abY i j D Z vs H1
def aah{kt k2 pt2}(hc:X.calm=true)(hN:X.N.Nodup)(hi:X.N[i]?=some x)(hj:X.N[j]?=some y)(hij:i≠j)
  (hx:X.env.scope.names.lookup x=some .local) (hy:X.env.scope.names.lookup y=some .local) (ha:PA X [a,b] ta)
  (hw:swappedStores [.Tuple [.Name x px,.Name y py] kt pt] (.Tuple [a,b] k2 pt2) X.env=pure (some [x,y]))
  (hs:swapsWithSole [.Tuple [.Name x px,.Name y py] kt pt] (.Tuple [a,b] k2 pt2) pos.line X.env=pure false:=by rfl):
  PS X (.Assign [.Tuple [.Name x px,.Name y py] kt pt] (.Tuple [a,b] k2 pt2) pos) (acY i j ta):=by
 intro pins s Z H D I h;rw[exec_Assign_arm];refine af (tJ ?_);rw[hs];refine af (ao ?_);rw[az (-8)];refine af (Tuple_ (qu (ha _ pins s Z H _ I h) λus s1 vs H1 I1 r1 q1=>?_));obtain⟨v,w,e1,q1⟩:=q1;subst e1;obtain⟨u1,u2,rfl,rv,pb⟩:∃u1 u2,us=[u1,u2]/\RelV v u1/\RelV w u2:=by
  cases r1 with
  |cons p q=>
   cases q with
   |cons p' q'=>
    cases q';exact⟨_,_,rfl,p,p'⟩
 refine cx ?_ (-36);have I2:Inv X pins Z H1 {s1 with heap:=s1.heap.push {cls:=.type "tuple",data:=.seq [u1,u2].toArray}}:=I1.kept λb o e=>aq _ e;rw[hw];refine af (ao ?_);refine af (fQ (af (unpackItems_tuple (items:=#[u1,u2]) (I.ok.hd hc) (BM s1.heap _) λh' xW=>?_)));have I3:=I2.kept (t':=s1.toks) λb o e=>xW b o (aL (aI e)) e;refine af (sY (wpAny_bindName (yF I3 hN hj (.inl hy) pb (λs2 I4=>?_) (.inr hy))));refine sY (wpAny_bindName (yF I4 hN hi (.inl hx) rv (λs3 I5=>Cn (ao ?_)) (.inr hx)));rw[List.set_comm _ _ (cb hij)]at I5;exact⟨_,H1,I5,q1⟩
def Zy(c:TT)(tb:TS):TS:=λD Z H=>∃W:Nat->St->Hp->Prop,(∃m,W m Z H)/\∀m Z H,W m Z H->
 c Z H λb H1=>if b=true then∃N:St->Hp->Prop,(∀σ' H',N σ' H'->∃m',m'<m/\W m' σ' H')/\tb {D with nx:=N,ct:=N,bk:=D.nx} Z H1 else D.nx Z H1
def Td(hp:PassesOwn (-6) X.A X.env X.xe)(hc:PT X c tc)(hb:mY X body tb):PS X (.While c body [] pos) (Zy tc tb):=by
 intro pins s Z H D I h;obtain⟨W,⟨m0,w0⟩,turn⟩:=h;refine wpAny_While (codeAny_whileLoop (λn s'=>∃σ' H',Inv X pins σ' H' s'/\W n σ' H') ?_ m0 ⟨Z,H,I,w0⟩);rintro n s1 ⟨σ1,H1,I1,w1⟩;refine jl hp (Im (hc pins s1 σ1 H1 _ I1 (turn n σ1 H1 w1)) λb s2 H2 I2 q2=>?_);cases b with
 |true=>
  obtain⟨N,hN,q2⟩:=q2;rw[aC rfl];refine jl hp (iT (hb pins s2 σ1 H2 _ I2 q2) λf s3 q3=>?_);cases f with
  |next=>
   obtain⟨σ3,H3,I3,n3⟩:=q3;obtain⟨m',hm,w3⟩:=hN σ3 H3 n3;exact⟨m',hm,σ3,H3,I3,w3⟩
  |cont=>
   obtain⟨σ3,H3,I3,n3⟩:=q3;obtain⟨m',hm,w3⟩:=hN σ3 H3 n3;exact⟨m',hm,σ3,H3,I3,w3⟩
  |brk=>exact q3
  |ret v=>exact q3
 |false=>
  rw[az aW];exact qr ⟨σ1,H2,I2,q2⟩
structure It where
 go:Nat->Hp->Prop
 xt:Nat->Hp->V->Hp->Prop
 stop:Nat->Hp->Prop
end
def pV(X:Cx)(pins:Aac)(H:Hp)(b:Addr):Prop:=
 H b=none/\b≠X.env.locals/\b∉X.fs/\(b∈X.ex\/X.aab.heap.objs.size<=b)/\(∀x c,X.env.cells.lookup x=some c->c≠b)/\∀p∈X.pn++pins,p.1≠b
def Inv.qM(I:Inv X pins Z H s)(hb:s.heap.objs.size<=b)(hn:H' b=none):pV X pins H' b:=by
 refine{hn,bA (a9 I.lt hb),I.aav hb,.inr (aD I.sz hb),λx c e z=>?_,λp hp z=>?_}
 ·obtain⟨v,q⟩:=I.cell x c e;exact absurd (a9 q.lt (by rw[z];exact hb)) (dD _)
 ·exact absurd (a9 (aI (I.pin p hp).1) (by rw[z];exact hb)) (dD _)
structure Turn(P:Program)(w:World)(K:Frag)(tg:Expr)(J:It)(fp:Aaj)(it:Addr)(tn:Nat->Heap->Prop):Prop where
 mem:it∈fp
 obj:∀i h,tn i h->∀b∈fp,∃o,h.get? b=some o/\∀v,o.data≠ .cell v
 keep:∀i h h',tn i h->(∀b∈fp,∀o,h.get? b=some o->h'.get? b=some o)->tn i h'
 item:∀(X:Cx),X.prog=P->X.w=w->X.K=K->X.calm=true->∀(i:Nat)(pins:Aac)(s:Shared)(Z:St)(H:Hp)(E:Aae),Inv X pins Z H s->(∀b∈fp,pV X pins H b)->tn i s.heap->J.go i H->
  wpAny (-30) X.A (pyNext (.ref it)) (λr s1=>∃u,r=some u/\
   wpAny (-30) X.A (letOwnedTupleGo tg (.ref it) u) (λ_ s2=>∃x H',Inv X pins Z H' s2/\RelV x u/\J.xt i H x H'/\tn (i+1) s2.heap/\∀b∈fp,H' b=none) E s1) E s
 done:∀(X:Cx),X.prog=P->X.w=w->X.K=K->X.calm=true->∀(i:Nat)(pins:Aac)(s:Shared)(Z:St)(H:Hp)(E:Aae),Inv X pins Z H s->(∀b∈fp,pV X pins H b)->tn i s.heap->J.stop i H->
  wpAny (-30) X.A (pyNext (.ref it)) (λr s1=>r=none/\Inv X pins Z H s1) E s
 self:∀(A:Around)(i:Nat)(s:Shared)(Q:Aae)(E:Aae),tn i s.heap->Q (.ref it) s->wpAny (-30) A (pyIter (.ref it)) Q E s
abbrev TI:=St->Hp->(It->Hp->Prop)->Prop
def PIE(X:Cx)(pins:Aac)(Z:St)(tg:Expr)(R:It->Hp->Prop)(itv:Value)(s2:Shared):Prop:=
 ∃(it:Addr)(fp:Aaj)(tn:Nat->Heap->Prop)(J:It)(H':Hp),itv=.ref it/\Inv X pins Z H' s2/\Turn X.prog X.w X.K tg J fp it tn/\tn 0 s2.heap/\(∀b∈fp,pV X pins H' b)/\R J H'
def PI(X:Cx)(tg iter:Expr)(wi:TI):Prop:=
 ∀(pins:Aac)(s:Shared)(Z:St)(H:Hp)(R:It->Hp->Prop),Inv X pins Z H s->wi Z H R->
  wpAny (-6) X.A (eval iter X.env) (λv s1=>wpAny (-6) X.A (pyIter v) (PIE X pins Z tg R) X.xe s1) X.xe s
def B7(ho:s.heap.get? it=some o)(hc:o.cls=.type n)(hd:o.data=.fields vs)
  (hn:["enumerate","zip","dict_itemiterator","dict_reverseitemiterator","odict_iterator","itertools.zip_longest","itertools.pairwise"].contains n=false) (hQ:Q () s):wpAny M A (letOwnedTupleGo tg (.ref it) u) Q E s:=by
 unfold letOwnedTupleGo;cases tg<;>first
  |exact ao hQ
  |(cases u<;>first
    |exact ao hQ
    |(refine af (Ej ho ?_);rw[hc,hd];show wpAny M A (if(["enumerate","zip","dict_itemiterator","dict_reverseitemiterator","odict_iterator","itertools.zip_longest","itertools.pairwise"].contains n&&vs[0]?==some (rawInt _))=true then _ else _) Q E s;rw[az (by intro h;rw[hn,lL]at h;cases h)];exact ao hQ))
def Nz(K:Frag)(a:Addr):It:=
 {λi H=>∃xs x,bp K H a xs/\xs[i]?=some x,λi H x H'=>H'=H/\∀xs,bp K H a xs->xs[i]?=some x,λi H=>∃xs,bp K H a xs/\xs.length<=i}
def Nx(K:Frag)(a:Addr):It:=
 {λi H=>∃xs x,bF K H a xs/\xs[i]?=some x,λi H x H'=>H'=H/\∀xs,bF K H a xs->xs[i]?=some x,λi H=>∃xs,bF K H a xs/\xs.length<=i}
def Ny(lo:Int)(n:Nat):It:={λi _=>i<n,λi H x H'=>H'=H/\x=.int (lo+i),λi _=>n<=i}
def Pu{K:Frag}(a it:Addr):Turn P w K tg (Nz K a) [it] it (λi h=>h.IsListIter it a i) where
 mem:=by simp
 obj:=λi h st b hb=>by
  have e:b=it:=by simpa using hb
  subst e;obtain⟨o,e,c,d⟩:=st;exact{o,e,λv z=>by rw[d]at z;cases z}
 keep:=λi h h' st k=>st.at λo e=>k it (-9) o e
 item:=by intro X hP hw hK hc i pins s Z H E I hf st hg;subst hP hw hK;obtain⟨xs,x,hq,hx⟩:=hg;obtain⟨aY,rv,p,hz⟩:=I.list hq;obtain⟨u,hu,ru⟩:=rv.get hx;obtain⟨f0,f1,f2,f3,f4,f5⟩:=hf it (-9);refine wM st p.isList (by simpa using hu) λh' g7 sb=>?_;have I1:=I.turned (t':=s.toks) (λb o hb e=>(sb.2 b hb).trans e) f0 f1 f3 f4 f5;obtain⟨o,e,c,d⟩:=id g7;exact{u,rfl,B7 e c d (-8) {x,H,I1,ru,{rfl,λys hy=>by rw[I.DI hy hq];exact hx},g7,λb hb=>(hf b hb).1}}
 done:=by intro X hP hw hK hc i pins s Z H E I hf st hg;subst hP hw hK;obtain⟨xs,hq,hx⟩:=hg;obtain⟨aY,rv,p,hz⟩:=I.list hq;obtain⟨f0,f1,f2,f3,f4,f5⟩:=hf it (-9);have hl:=rv.length;exact xv (I.ok.hd hc) st p.isList (by simp;lia) λh' eb=>{rfl,I.turned (λb o hb e=>eb b o hb e) f0 f1 f3 f4 f5}
 self:=λ_ _ _ _ _ st h=>wpAny_pyIter_listiter st h
def NB{K:Frag}(a it:Addr):Turn P w K tg (Nx K a) [it] it (λi h=>h.IsTupleIter it a i) where
 mem:=by simp
 obj:=λi h st b hb=>by
  have e:b=it:=by simpa using hb
  subst e;obtain⟨o,e,c,d⟩:=st;exact{o,e,λv z=>by rw[d]at z;cases z}
 keep:=λi h h' st k=>st.at λo e=>k it (-9) o e
 item:=by intro X hP hw hK hc i pins s Z H E I hf st hg;subst hP hw hK;obtain⟨xs,x,hq,hx⟩:=hg;obtain⟨aY,rv,p,hz⟩:=I.tuple hq;obtain⟨u,hu,ru⟩:=rv.get hx;obtain⟨f0,f1,f2,f3,f4,f5⟩:=hf it (-9);refine wpAny_pyNext_tuple_item st (show s.heap.IsTuple a aY.toArray from p) (by simpa using hu) λh' g7 sb=>?_;have I1:=I.turned (t':=s.toks) (λb o hb e=>(sb.2 b hb).trans e) f0 f1 f3 f4 f5;obtain⟨o,e,c,d⟩:=id g7;exact{u,rfl,B7 e c d (-8) {x,H,I1,ru,{rfl,λys hy=>by rw[I.Ar hy hq];exact hx},g7,λb hb=>(hf b hb).1}}
 done:=by intro X hP hw hK hc i pins s Z H E I hf st hg;subst hP hw hK;obtain⟨xs,hq,hx⟩:=hg;obtain⟨aY,rv,p,hz⟩:=I.tuple hq;obtain⟨f0,f1,f2,f3,f4,f5⟩:=hf it (-9);have hl:=rv.length;exact wpAny_pyNext_tuple_end (I.ok.hd hc) st (show s.heap.IsTuple a aY.toArray from p) (by simp;lia) λh' eb=>{rfl,I.turned (λb o hb e=>eb b o hb e) f0 f1 f3 f4 f5}
 self:=λ_ _ _ _ _ st h=>wpAny_pyIter_tupleiter st h
def NC{K:Frag}(it:Addr)(lo:Int)(n:Nat):Turn P w K tg (Ny lo n) [it] it (λi h=>IsRangeIter h it (lo+(i:Nat)*1) ((n:Int) -(i:Nat)) 1) where
 mem:=by simp
 obj:=λi h st b hb=>by
  have e:b=it:=by simpa using hb
  subst e;exact{_,st,λv z=>by have z':=z;cases z'}
 keep:=λi h h' st k=>k it (-9) _ st
 item:=by intro X hP hw hK hc i pins s Z H E I hf st hg;subst hP hw hK;obtain⟨f0,f1,f2,f3,f4,f5⟩:=hf it (-9);have W:=Walks.range (prog:=X.prog) (w:=X.w) (I.ok.hd hc) it lo 1 n;refine W.item i s _ _ hg st λv h' tk hv g7 kk=>?_;obtain⟨t,rfl⟩:=hv;have I1:Inv X pins Z H {s with heap:=h',toks:=tk}:=I.turned (λb o hb e=>kk b o (by simpa using hb) e) f0 f1 f3 f4 f5;refine{_,rfl,B7 g7 rfl rfl (-8) {.int (lo+i),H,I1,{t,?_},⟨rfl,rfl⟩,g7,λb hb=>(hf b hb).1}};rw[Int.mul_one]
 done:=by intro X hP hw hK hc i pins s Z H E I hf st hg;obtain⟨f0,f1,f2,f3,f4,f5⟩:=hf it (-9);exact wpAny_pyNext_range_end (I.ok.hd hc) st (by have:n<=i:=hg;lia) λh' eb=>{rfl,I.turned (λb o hb e=>eb b o hb e) f0 f1 f3 f4 f5}
 self:=λ_ _ _ _ _ st h=>wpAny_pyIter_rangeiter st h
section
variable{X:Cx}{tg:Expr}
inductive aaR(K:Frag)(R:It->Hp->Prop)(x:V)(H1:Hp):Prop
 |mk a (_:x=.ref a) (_:(∃xs,bp K H1 a xs)) (_:R (Nz K a) H1)
def acw(K:Frag)(tl:TE):TI:=λZ H R=>tl Z H λx H1=>aaR K R x H1
inductive acs(K:Frag)(R:It->Hp->Prop)(x:V)(H1:Hp):Prop
 |mk a (_:x=.ref a) (_:(∃xs,bF K H1 a xs)) (_:R (Nx K a) H1)
def adx(K:Frag)(tl:TE):TI:=λZ H R=>tl Z H λx H1=>acs K R x H1
def fX(hl:PE X l tl):PI X tg l (acw X.K tl):=by
 intro pins s Z H R I h;refine df (hl pins s Z H _ I h) λv s1 x H1 I1 r1 q1=>?_;obtain⟨a,e,⟨xs,hq⟩,q⟩:=q1;subst e;cases r1;obtain⟨aY,rv,p,hz⟩:=I1.list hq;refine kU p.isList ?_;refine{s1.heap.objs.size,[s1.heap.objs.size],_,_,H1,rfl,I1.kept λb o e=>aq _ e,Pu a _,{_,aF _ rfl,rfl,rfl},λb hb=>?_,q};have e:b=s1.heap.objs.size:=by simpa using hb
 subst e;exact I1.qM (ar _) (I1.br.fresh (ar _))
def sL(hl:PE X l tl):PI X tg l (adx X.K tl):=by
 intro pins s Z H R I h;refine df (hl pins s Z H _ I h) λv s1 x H1 I1 r1 q1=>?_;obtain⟨a,e,⟨xs,hq⟩,q⟩:=q1;subst e;cases r1;obtain⟨aY,rv,p,hz⟩:=I1.tuple hq;refine sG (show s1.heap.IsTuple a aY.toArray from p) ?_;refine{s1.heap.objs.size,[s1.heap.objs.size],_,_,H1,rfl,I1.kept λb o e=>aq _ e,NB a _,{_,aF _ rfl,rfl,rfl},λb hb=>?_,q};have e:b=s1.heap.objs.size:=by simpa using hb
 subst e;exact I1.qM (ar _) (I1.br.fresh (ar _))
def S6{lo hi:Int}(I:Inv X pins Z H s)(h1:-(2^62)<=lo)(h2:lo<2^62)(h3:-(2^62)<=hi)(h4:hi<2^62)
  (q:R (Ny lo (hi -lo).toNat) H):wpAny (-6) X.A (pyIter (-12)) (PIE X pins Z tg R) E {s with heap:=s.heap.push {cls:=.type "range",data:=.fields #[.int lo t,.int hi u,.int 1 v]},toks:=tk}:=by
 refine wpAny_pyIter_range (IsRange.new ..) (small_one h1 h2 h3 h4) ?_;have I1:Inv X pins Z H {s with heap:=s.heap.push {cls:=.type "range",data:=.fields #[.int lo t,.int hi u,.int 1 v]},toks:=tk}:=I.kept λb o e=>aq _ e;refine{(-60).objs.size,[(-60).objs.size],_,_,H,rfl,
  I1.kept λb o e=>aq _ e,NC _ lo (hi -lo).toNat,?_,λb hb=>?_,q}
 ·have e1:lo+((0:Nat):Int)*1=lo:=by simp
  have e2:(((hi -lo).toNat:Nat):Int) -((0:Nat):Int)=Builtin.Range.rangeSize lo hi 1:=by rw[rangeSize_one];split<;>lia
  rw[e1,e2];exact aF _ rfl
 ·have e:b=(-60).objs.size:=by simpa using hb
  subst e;exact I1.qM (ar _) (I1.br.fresh (ar _))
inductive aaQ(R:It->Hp->Prop)(vs:Aao)(H1:Hp):Prop
 |mk (j:Int) (_:vs=[.int j]) (_:-(2^62)<=j) (_:j<2^62) (_:R (Ny 0 j.toNat) H1)
def acv(ta:TA):TI:=λZ H R=>ta Z H λvs H1=>aaQ R vs H1
def jO(hg:Gl X "range")(hm:X.mg "range"=none)(ha:PA X [a] ta)(hs:starEach [a] X.env=[(false,eval a X.env)]:=by rfl):PI X tg (.Call (.Name "range" p) [a] [] pos) (acv ta):=by
 intro pins s Z H R I h;refine FH (qE I hg hm boot_range (d9 (-55) hs rfl));obtain⟨j,e,q1,q2,q⟩:=q1;subst e;cases r1 with
 |cons r rr=>
  cases rr;obtain⟨t,rfl⟩:=r;exact call_range_1 (S6 I1 ∅ ∅ q1 q2 (by simpa using q))
def ac2(wi:TI)(g:TG)(tb:TS):TS:=λD Z H=>wi Z H λJ H1=>∃W:Nat->Nat->St->Hp->Prop,(∃m,W 0 m Z H1)/\∀i m Z H,W i m Z H->
 (J.stop i H/\D.nx Z H)\/(J.go i H/\∃N:St->Hp->Prop,(∀σ' H',N σ' H'->∃m',m'<m/\W (i+1) m' σ' H')/\∀x H',J.xt i H x H'->g x Z H' λσ2 H2=>tb {D with nx:=N,ct:=N,bk:=D.nx} σ2 H2)
def AM(fp:Aaj)(h:Heap):Aac:=fp.filterMap λb=>(h.get? b).map λo=>(b,o)
def uH(hb:b∈fp)(e:h.get? b=some o):(b,o)∈AM fp h:=kM.mpr {b,hb,by rw[e];rfl}
def Qs(hp:p∈AM fp h):p.1∈fp/\h.get? p.1=some p.2:=by
 obtain⟨b,hb,e⟩:=kM.mp hp;cases q:h.get? b with
 |none=>rw[q]at e;cases e
 |some o=>
  rw[q]at e;have e':=bN e;subst e';exact⟨hb,q⟩
def Inv.pinned(I:Inv X pins Z H s)(hf:∀b∈fp,pV X pins H b)(ho:∀b∈fp,∃o,s.heap.get? b=some o/\∀v,o.data≠ .cell v):Inv X (pins++AM fp s.heap) Z H s:=
 I.xH λp hp=>(bg.mp hp).elim (λz=>I.pin p (cc _ z)) λz=>by obtain⟨hb,e⟩:=Qs z;obtain⟨f0,f1,f2,_⟩:=hf p.1 hb;obtain⟨o,e',d⟩:=ho p.1 hb;rw[e]at e';cases e';exact⟨e,f0,f1,f2,d⟩
def Inv.yC(I:Inv X (pins++pl) Z H s):Inv X pins Z H s:=I.xH λp hp=>I.pin p (cc _ (gz _ hp))
def fR(hp:PassesOwn (-6) X.A X.env X.xe)(hc:X.calm=true)(hi:PI X tg iter wi)(hg:PG X tg g)(hb:mY X body tb)
  (hs:∀x,foldedSetIterable iter X.env x=pure x:=by intro _;rfl):PS X (.For tg iter body [] pos) (ac2 wi g tb):=by
 intro pins s Z H D I h;refine wpAny_For (iT (hi pins s Z H _ I h) λv s1 h1=>iT h1 λitv s2 h2=>?_) hs;obtain⟨it,fp,tn,J,H2,e,I2,T,pX,f2,W,⟨m0,w0⟩,turn⟩:=h2;subst e;have SM:∀{H':Hp},(∀b∈fp,H' b=none)->∀b∈fp,pV X pins H' b:=λhn b hb=>{hn b hb,(f2 b hb).2};refine codeAny_forLoop_any (λn s'=>∃i σ' H',Inv X pins σ' H' s'/\tn i s'.heap/\(∀b∈fp,H' b=none)/\W i n σ' H') ?_ m0 {0,Z,H2,I2,pX,λb hb=>(f2 b hb).1,w0};rintro n s3 ⟨i,σ3,H3,I3,ub,fr3,w3⟩;rcases turn i n σ3 H3 w3 with⟨stop,qn⟩|⟨go,N,hN,step⟩
 ·refine jl hp (iT (T.done X rfl rfl rfl hc i pins s3 σ3 H3 X.xe I3 (SM fr3) ub stop) λr s4 V7=>?_);obtain⟨hr,I4⟩:=V7;subst hr;exact qr ⟨σ3,H3,I4,qn⟩
 ·refine jl hp (iT (T.item X rfl rfl rfl hc i pins s3 σ3 H3 X.xe I3 (SM fr3) ub go) λr s4 hz5=>?_);obtain⟨u,hr,h4⟩:=hz5;subst hr;refine jl hp (iT h4 λ_ s5 hz6=>?_);obtain⟨x,H5,I5,r5,y5,oJ,fr5⟩:=hz6;have I5':=I5.pinned (SM fr5) (T.obj _ _ oJ);refine jl hp (iT (hg _ s5 σ3 H5 x u _ I5' r5 (step x H5 y5)) λ_ s6 V6=>?_);obtain⟨σ6,H6,I6,q6⟩:=V6;refine jl hp (iT (hb _ s6 σ6 H6 _ I6 q6) λf s7 q7=>?_);have again:∀{σ7:St}{H7:Hp},Inv X (pins++AM fp s5.heap) σ7 H7 s7->N σ7 H7->∃m,m<n/\∃i σ' H',Inv X pins σ' H' s7/\tn i s7.heap/\(∀b∈fp,H' b=none)/\W i m σ' H':=λ{σ7 H7} I7 n7=>by obtain⟨m',hm,w7⟩:=hN σ7 H7 n7;refine{m',hm,i+1,σ7,H7,I7.yC,T.keep _ _ _ oJ λb hb o e=>(I7.pin (b,o) (cc _ (cc _ (uH hb e)))).1,λb hb=>?_,w7};obtain⟨o,e,d⟩:=T.obj _ _ oJ b hb;exact(I7.pin (b,o) (cc _ (cc _ (uH hb e)))).2.1
  cases f with
  |next=>obtain⟨σ7,H7,I7,n7⟩:=q7;exact again I7 n7
  |cont=>obtain⟨σ7,H7,I7,n7⟩:=q7;exact again I7 n7
  |brk=>obtain⟨σ7,H7,I7,q7⟩:=q7;exact{σ7,H7,I7.yC,q7}
  |ret v=>obtain⟨x7,σ7,H7,I7,r7,q7⟩:=q7;exact{x7,σ7,H7,I7.yC,r7,q7}
def pR{K:Frag}{g:TG}{tb:TS}{D:Ends}(Pv:Nat->St->Hp->Prop)(h0:Pv 0 Z H)(hl:∀i Z H,i<=xs.length->Pv i Z H->bp K H a xs)
  (hs:∀i x Z H,xs[i]?=some x->Pv i Z H->g x Z H λσ2 H2=>tb {D with nx:=Pv (i+1),ct:=Pv (i+1),bk:=D.nx} σ2 H2) (hd:∀Z H,Pv xs.length Z H->D.nx Z H):
  ∃W:Nat->Nat->St->Hp->Prop,(∃m,W 0 m Z H)/\∀i m Z H,W i m Z H->
   ((Nz K a).stop i H/\D.nx Z H)\/((Nz K a).go i H/\∃N:St->Hp->Prop,(∀σ' H',N σ' H'->∃m',m'<m/\W (i+1) m' σ' H')/\∀x H',(Nz K a).xt i H x H'->g x Z H' λσ2 H2=>tb {D with nx:=N,ct:=N,bk:=D.nx} σ2 H2):=by
 refine{λi m Z H=>m=xs.length -i/\i<=xs.length/\Pv i Z H,{xs.length,by simp,aP _,h0},?_};rintro i m Z H ⟨rfl,hi,p⟩;have q:=hl i Z H hi p;by_cases bK:i<xs.length
 ·refine .inr {{xs,xs[i],q,by simp[bK]},Pv (i+1),λσ' H' p'=>{xs.length -(i+1),by lia,rfl,bK,p'},λx H' y=>?_};obtain⟨e,y⟩:=y;subst e;exact hs i x Z _ (y xs q) p
 ·have e:i=xs.length:=by lia
  subst e;exact .inl {{xs,q,ar _},hd Z H p}
def B8{K:Frag}{g:TG}{tb:TS}{D:Ends}(Pv:Nat->St->Hp->Prop)(h0:Pv 0 Z H)(hl:∀i Z H,i<=xs.length->Pv i Z H->bF K H a xs)
  (hs:∀i x Z H,xs[i]?=some x->Pv i Z H->g x Z H λσ2 H2=>tb {D with nx:=Pv (i+1),ct:=Pv (i+1),bk:=D.nx} σ2 H2) (hd:∀Z H,Pv xs.length Z H->D.nx Z H):
  ∃W:Nat->Nat->St->Hp->Prop,(∃m,W 0 m Z H)/\∀i m Z H,W i m Z H->
   ((Nx K a).stop i H/\D.nx Z H)\/((Nx K a).go i H/\∃N:St->Hp->Prop,(∀σ' H',N σ' H'->∃m',m'<m/\W (i+1) m' σ' H')/\∀x H',(Nx K a).xt i H x H'->g x Z H' λσ2 H2=>tb {D with nx:=N,ct:=N,bk:=D.nx} σ2 H2):=by
 refine{λi m Z H=>m=xs.length -i/\i<=xs.length/\Pv i Z H,{xs.length,by simp,aP _,h0},?_};rintro i m Z H ⟨rfl,hi,p⟩;have q:=hl i Z H hi p;by_cases bK:i<xs.length
 ·refine .inr {{xs,xs[i],q,by simp[bK]},Pv (i+1),λσ' H' p'=>{xs.length -(i+1),by lia,rfl,bK,p'},λx H' y=>?_};obtain⟨e,y⟩:=y;subst e;exact hs i x Z _ (y xs q) p
 ·have e:i=xs.length:=by lia
  subst e;exact .inl {{xs,q,ar _},hd Z H p}
def wG{lo:Int}{g:TG}{tb:TS}{D:Ends}(Pv:Nat->St->Hp->Prop)(h0:Pv 0 Z H)
  (hs:∀i Z H,i<n->Pv i Z H->g (.int (lo+i)) Z H λσ2 H2=>tb {D with nx:=Pv (i+1),ct:=Pv (i+1),bk:=D.nx} σ2 H2) (hd:∀Z H,Pv n Z H->D.nx Z H):
  ∃W:Nat->Nat->St->Hp->Prop,(∃m,W 0 m Z H)/\∀i m Z H,W i m Z H->
   ((Ny lo n).stop i H/\D.nx Z H)\/((Ny lo n).go i H/\∃N:St->Hp->Prop,(∀σ' H',N σ' H'->∃m',m'<m/\W (i+1) m' σ' H')/\∀x H',(Ny lo n).xt i H x H'->g x Z H' λσ2 H2=>tb {D with nx:=N,ct:=N,bk:=D.nx} σ2 H2):=by
 refine{λi m Z H=>m=n -i/\i<=n/\Pv i Z H,{n,by simp,aP _,h0},?_};rintro i m Z H ⟨rfl,hi,p⟩;by_cases bK:i<n
 ·refine .inr {bK,Pv (i+1),λσ' H' p'=>{n -(i+1),by lia,rfl,bK,p'},λx H' y=>?_};obtain⟨e,y⟩:=y;subst e y;exact hs i Z _ bK p
 ·have e:i=n:=by lia
  subst e;exact .inl {ar _,hd Z H p}
abbrev R2:=V->V->Hp->VK->Prop
end
def jh(X:Cx)(f:Value->Value->Sem Value)(r:R2):Prop:=
 ∀(pins:Aac)(s:Shared)(Z:St)(H:Hp)(x y:V)(v u:Value)(Q:VK),Inv X pins Z H s->RelV x v->RelV y u->r x y H Q->
  wpAny (-6) X.A (f v u) (EP X pins Z Q) X.xe s
def jv(X:Cx)(f:Value)(r:Aao->Hp->VK->Prop):Prop:=
 ∀(pins:Aac)(s:Shared)(Z:St)(H:Hp)(xs:Aao)(us:Aag)(Q:VK),Inv X pins Z H s->Vals xs us->r xs H Q->
  wpAny (-6) X.A (call f us) (EP X pins Z Q) X.xe s
def aev(X:Cx)(r:V->Hp->(Bool->Hp->Prop)->Prop):Prop:=
 ∀(pins:Aac)(s:Shared)(Z:St)(H:Hp)(x:V)(v:Value)(Q:Bool->Hp->Prop),Inv X pins Z H s->RelV x v->r x H Q->
  wpAny (-6) X.A (truthy v) (TP X pins Z Q) X.xe s
def Vi(r:R2)(ta tb:TE):TE:=λZ H Q=>ta Z H λx H1=>tb Z H1 λy H2=>r x y H2 Q
inductive rI(C:Int->Int->Prop)(g:Int->Int->V)(x:V)(y:V)(H:Hp)(Q:VK):Prop
 |mk i j (_:x=.int i) (_:y=.int j) (_:C i j) (_:Q (g i j) H)
inductive Mn(g:Int->Int->V)(x:V)(y:V)(H:Hp)(Q:VK):Prop
 |mk i j (_:x=.int i) (_:y=.int j) (_:Q (g i j) H)
section
variable{X:Cx}{a b:Expr}{ta tb:TE}{pos:Pos}
def UX(ha:PE X a ta)(hb:PE X b tb){R:V->V->Hp->Prop}(I:Inv X pins Z H s)
  (h:ta Z H λx H1=>tb Z H1 λy H2=>R x y H2) {f:Value->Value->Sem Value}
  (hf:∀v u s2 x y H2,Inv X pins Z H2 s2->RelV x v->RelV y u->R x y H2->wpAny (-6) X.A (f v u) Q X.xe s2):
  wpAny (-6) X.A (eval a X.env) (λv aaa=>wpAny (-6) X.A (eval b X.env) (λu aad=>wpAny (-6) X.A (f v u) Q X.xe aad) X.xe aaa) X.xe s:=by
 refine df (ha pins s Z H _ I h) λv s1 x H1 I1 r1 q1=>?_;refine df (hb pins s1 Z H1 _ I1 q1) λu s2 y H2 I2 r2 q2=>?_;exact hf v u s2 x y H2 I2 r1 r2 q2
def dM(ho:jh X (binaryOp op) r)(ha:PE X a ta)(hb:PE X b tb):PE X (.BinOp a op b pos) (Vi r ta tb):=by intro pins s Z H Q I h;exact wpAny_BinOp (UX ha hb I h λv u s2 x y H2 I2 rx ry q=>ho pins s2 Z H2 x y v u Q I2 rx ry q)
def VB{g:Int->Int->Int}
  (rule:∀(i j:Int)(t u:Tok)(s:Shared)(Q:Aae)(E:Aae),C i j->Q (.int (g i j) s.toks) {s with toks:=s.toks+1}->wpAny (-6) X.A (f (.int i t) (.int j u)) Q E s):
  jh X f (rI C λi j=>.int (g i j)):=by
 intro pins s Z H x y v u Q I rx ry h;obtain⟨i,j,rfl,rfl,hc,q⟩:=h;obtain⟨t,rfl⟩:=rx;obtain⟨t',rfl⟩:=ry;exact rule i j t t' s _ _ hc {.int (g i j),H,I.tok _,⟨_,rfl⟩,q}
def adh{g:Int->Int->Int}
  (rule:∀(i j:Int)(t u:Tok)(s:Shared)(Q:Aae)(E:Aae),Q (.int (g i j) s.toks) {s with toks:=s.toks+1}->wpAny (-6) X.A (f (.int i t) (.int j u)) Q E s):
  jh X f (Mn λi j=>.int (g i j)):=by
 intro pins s Z H x y v u Q I rx ry h;obtain⟨i,j,rfl,rfl,q⟩:=h;obtain⟨t,rfl⟩:=rx;obtain⟨t',rfl⟩:=ry;exact rule i j t t' s _ _ {.int (g i j),H,I.tok _,⟨_,rfl⟩,q}
def Tt{g:Int->Int->Bool}
  (rule:∀(i j:Int)(t u:Tok)(s:Shared)(Q:Aae)(E:Aae),Q (.bool (g i j)) s->wpAny (-6) X.A (f (.int i t) (.int j u)) Q E s):
  jh X f (Mn λi j=>.bl (g i j)):=by
 intro pins s Z H x y v u Q I rx ry h;obtain⟨i,j,rfl,rfl,q⟩:=h;obtain⟨t,rfl⟩:=rx;obtain⟨t',rfl⟩:=ry;exact rule i j t t' s _ _ {.bl (g i j),H,I,rfl,q}
def aey(i j:Int):Prop:=0<=j/\j<=1000000/\i.natAbs<2^64
def U3(i j:Int):Prop:=(-(2^64)<i/\i<2^64)\/(-(2^64)<j/\j<2^64)
def U3.ok(h:U3 i j):IntMulOk i j:=by
 rcases h with⟨h1,h2⟩|⟨h1,h2⟩
 ·exact .of_left (intBits_le_64 h1 h2)
 ·exact .of_right (intBits_le_64 h1 h2)
def jE:jh X (binaryOp .Add) (Mn λi j=>.int (i+j)):=adh λ_ _ _ _ _ _ _ q=>add_int q
def xK:jh X (binaryOp .Mult) (rI U3 λi j=>.int (i*j)):=VB λ_ _ _ _ _ _ _ hc q=>mul_int q hc.ok
def pf:jh X (binaryOp .Mod) (rI (λ_ j=>0<j) λi j=>.int (i % j)):=VB λi j _ _ _ _ _ hc q=>by have h1:(0:Int)<j:=hc;exact mod_int' ∅ (by rw[Int.fmod_eq_emod_of_nonneg i ∅];exact q)
def aak:jh X (binaryOp .Pow) (rI aey λi j=>.int (i^j.toNat)):=VB λ_ _ _ _ _ _ _ hc q=>pow_int_small hc.1 hc.2.1 hc.2.2 q
def ZS:V->V->Bool
 | .cE,.cE=>true| .cE,.int _=>true| .int _,.cE=>true| .cE,.bl _=>true| .bl _,.cE=>true| .cE,.str _=>true| .str _,.cE=>true
 | .int _,.int _=>true| .bl _,.bl _=>true| .str _,.str _=>true| .uh _,.uh _=>true
 | .int _,.str _=>true| .str _,.int _=>true| .bl _,.str _=>true| .str _,.bl _=>true
 |_,_=>false
def rEq:R2:=λx y H Q=>ZS x y=true/\Q (.bl (decide (x=y))) H
def rNe:R2:=λx y H Q=>ZS x y=true/\Q (.bl (!decide (x=y))) H
def Nj:decide (V.int i=V.int j)=(i==j):=by rw[fV];simp
def RS:decide (V.bl i=V.bl j)=(i==j):=by rw[fV];simp
def Ni:decide (V.str i=V.str j)=(i==j):=by rw[fV];simp
def Nk:decide (V.uh i=V.uh j)=(i.toList==j.toList):=by rw[fV];cases i;cases j;simp
variable{c:Expr}{tc:TE}
def dJ(I:Inv X pins Z H s)(q:Q (.bl k) H)(e:k=k'):EP X pins Z Q (.bool k') s:=by subst e;exact{.bl k,H,I,rfl,q}
def uD:jh X (compareOp .Eq) rEq:=by
 intro pins s Z H x y v u Q I rx ry h;obtain⟨hs,q⟩:=h;cases x with
 |cE=>
  cases rx;cases y with
  |cE=>cases ry;exact PySem.EqNone.eq_none_none (dJ I q (-9))
  |bl j=>cases ry;exact PySem.EqNone.eq_none_bool (dJ I q (-9))
  |int j=>obtain⟨t',rfl⟩:=ry;exact PySem.EqNone.eq_none_int (dJ I q (-9))
  |str j=>obtain⟨t',rfl⟩:=ry;exact PySem.EqNone.eq_none_str (dJ I q (-9))
  |_=>exact absurd (show false=true from hs) aW
 |bl i=>
  cases rx;cases y with
  |cE=>cases ry;exact PySem.EqNone.eq_bool_none (dJ I q (-9))
  |bl j=>cases ry;exact eq_bool (dJ I q RS)
  |str j=>obtain⟨t',rfl⟩:=ry;exact PySem.EqMixed.eq_bool_str (dJ I q (-9))
  |_=>exact absurd (show false=true from hs) aW
 |int i=>
  obtain⟨t,rfl⟩:=rx;cases y with
  |cE=>cases ry;exact PySem.EqNone.eq_int_none (dJ I q (-9))
  |int j=>obtain⟨t',rfl⟩:=ry;exact eq_int (dJ I q Nj)
  |str j=>obtain⟨t',rfl⟩:=ry;exact PySem.EqMixed.eq_int_str (dJ I q (-9))
  |_=>exact absurd (show false=true from hs) aW
 |str i=>
  obtain⟨t,rfl⟩:=rx;cases y with
  |cE=>cases ry;exact PySem.EqNone.eq_str_none (dJ I q (-9))
  |bl j=>cases ry;exact PySem.EqMixed.eq_str_bool (dJ I q (-9))
  |int j=>obtain⟨t',rfl⟩:=ry;exact PySem.EqMixed.eq_str_int (dJ I q (-9))
  |str j=>obtain⟨t',rfl⟩:=ry;exact eq_str (dJ I q Ni)
  |_=>exact absurd (show false=true from hs) aW
 |uh i=>
  obtain⟨t,rfl⟩:=rx;cases y with
  |uh j=>obtain⟨t',rfl⟩:=ry;exact PySem.W.eq_bytes (dJ I q Nk)
  |_=>exact absurd (show false=true from hs) aW
 |_=>cases y<;>exact absurd (show false=true from hs) aW
def B1:jh X (compareOp .NotEq) rNe:=by
 intro pins s Z H x y v u Q I rx ry h;obtain⟨hs,q⟩:=h;cases x with
 |cE=>
  cases rx;cases y with
  |cE=>cases ry;exact PySem.EqNone.ne_none_none (dJ I q (-9))
  |bl j=>cases ry;exact PySem.EqNone.ne_none_bool (dJ I q (-9))
  |int j=>obtain⟨t',rfl⟩:=ry;exact PySem.EqNone.ne_none_int (dJ I q (-9))
  |str j=>obtain⟨t',rfl⟩:=ry;exact PySem.EqNone.ne_none_str (dJ I q (-9))
  |_=>exact absurd (show false=true from hs) aW
 |bl i=>
  cases rx;cases y with
  |cE=>cases ry;exact PySem.EqNone.ne_bool_none (dJ I q (-9))
  |bl j=>cases ry;exact ne_bool (dJ I q (bU not RS))
  |str j=>obtain⟨t',rfl⟩:=ry;exact PySem.EqMixed.ne_bool_str (dJ I q (-9))
  |_=>exact absurd (show false=true from hs) aW
 |int i=>
  obtain⟨t,rfl⟩:=rx;cases y with
  |cE=>cases ry;exact PySem.EqNone.ne_int_none (dJ I q (-9))
  |int j=>obtain⟨t',rfl⟩:=ry;exact ne_int (dJ I q (bU not Nj))
  |str j=>obtain⟨t',rfl⟩:=ry;exact PySem.EqMixed.ne_int_str (dJ I q (-9))
  |_=>exact absurd (show false=true from hs) aW
 |str i=>
  obtain⟨t,rfl⟩:=rx;cases y with
  |cE=>cases ry;exact PySem.EqNone.ne_str_none (dJ I q (-9))
  |bl j=>cases ry;exact PySem.EqMixed.ne_str_bool (dJ I q (-9))
  |int j=>obtain⟨t',rfl⟩:=ry;exact PySem.EqMixed.ne_str_int (dJ I q (-9))
  |str j=>obtain⟨t',rfl⟩:=ry;exact ne_str (dJ I q (bU not Ni))
  |_=>exact absurd (show false=true from hs) aW
 |uh i=>
  obtain⟨t,rfl⟩:=rx;cases y with
  |uh j=>obtain⟨t',rfl⟩:=ry;exact PySem.W.ne_bytes (dJ I q (bU not Nk))
  |_=>exact absurd (show false=true from hs) aW
 |_=>cases y<;>exact absurd (show false=true from hs) aW
def ach:jh X (compareOp .Lt) (Mn λi j=>.bl (decide (i<j))):=Tt λ_ _ _ _ _ _ _ q=>lt_int q
def N9:jh X (compareOp .LtE) (Mn λi j=>.bl (decide (i<=j))):=Tt λ_ _ _ _ _ _ _ q=>le_int q
def aci:jh X (compareOp .GtE) (Mn λi j=>.bl (decide (j<=i))):=Tt λ_ _ _ _ _ _ _ q=>ge_int q
def Qn:jh X (compareOp .In) (λx y H Q=>∃i j,x=.str i/\y=.str j/\Q (.bl (!(Builtin.Str.occurrences j i 0 j.length 1).isEmpty)) H):=by intro pins s Z H x y v u Q I rx ry h;obtain⟨i,j,rfl,rfl,q⟩:=h;obtain⟨t,rfl⟩:=rx;obtain⟨t',rfl⟩:=ry;exact in_str (dJ I q rfl)
def aao:jh X (compareOp .Is) (λx y H Q=>y=.cE/\Q (.bl (decide (x=.cE))) H):=by
 intro pins s Z H x y v u Q I rx ry h;obtain⟨rfl,q⟩:=h;cases ry;refine is_none_gen (dJ I q ?_);cases x<;>first
  |(cases rx;rfl)
  |(obtain⟨t,rfl⟩:=rx;rfl)
def X5:jh X (compareOp .IsNot) (λx y H Q=>y=.cE/\Q (.bl (!decide (x=.cE))) H):=by
 intro pins s Z H x y v u Q I rx ry h;obtain⟨rfl,q⟩:=h;cases ry;refine isnot_none_gen (dJ I q ?_);cases x<;>first
  |(cases rx;rfl)
  |(obtain⟨t,rfl⟩:=rx;rfl)
def eX(b:Expr)(h:op≠ .In:=by decide)(h2:op≠ .NotIn:=by decide):behindInMarks op b=false:=by
 have e1:(op==CmpOp.In)=false:=by cases op<;>first|rfl|exact absurd rfl h
 have e2:(op==CmpOp.NotIn)=false:=by cases op<;>first|rfl|exact absurd rfl h2
 cases b<;>simp[behindInMarks,e1,e2]
def FU(ho:jh X (compareOp op) r)(ha:PE X a ta)(hb:PE X b tb)(hm:behindInMarks op b=false):PE X (.Compare a [op] [b] pos) (Vi r ta tb):=by intro pins s Z H Q I h;exact wpAny_Compare1 (UX ha hb I h λv u s2 x y H2 I2 rx ry q=>ho pins s2 Z H2 x y v u Q I2 rx ry q) hm
inductive ZC(Q:Bool->Hp->Prop)(x:V)(H':Hp):Prop
 |mk k (_:x=.bl k) (_:Q k H')
def abW(t:TE):TT:=λZ H Q=>t Z H λx H'=>ZC Q x H'
def dh(ho:jh X (compareOp op) r)(ha:PE X a ta)(hb:PE X b tb)(hm:behindInMarks op b=false):PT X (.Compare a [op] [b] pos) (abW (Vi r ta tb)):=by intro pins s Z H Q I h;refine xw (df (ha pins s Z H _ I h) λv s1 x H1 I1 r1 q1=>df (hb pins s1 Z H1 _ I1 q1) λu s2 y H2 I2 r2 q2=>iT (ho pins s2 Z H2 x y v u _ I2 r1 r2 q2) λc s3 hz8=>?_) hm;obtain⟨z,H3,I3,r3,k,e,q3⟩:=hz8;subst e;cases r3;exact iD ⟨H3,I3,q3⟩
def ZK(r r':R2)(ta tb tc:TE):TE:=λZ H Q=>ta Z H λx H1=>tb Z H1 λy H2=>r x y H2 λz H3=>∃k,z=.bl k/\
 (if k=true then tc Z H3 λw' H4=>r' y w' H4 Q else Q (.bl false) H3)
def Tq(ho:jh X (compareOp op) r)(rp:jh X (compareOp op') r')(ha:PE X a ta)(hb:PE X b tb)(hc:PE X c tc)
  (hm:lastMarks [op,op'] [b,c]=false:=by with_unfolding_all rfl):PE X (.Compare a [op,op'] [b,c] pos) (ZK r r' ta tb tc):=by
 intro pins s Z H Q I h;refine Compare_chain (df (ha pins s Z H _ I h) λv s1 x H1 I1 r1 q1=>chain_link (df (hb pins s1 Z H1 _ I1 q1) λu s2 y H2 I2 r2 q2=>iT (ho pins s2 Z H2 x y v u _ I2 r1 r2 q2) λd s3 Kb=>?_)) hm;obtain⟨z,H3,I3,r3,k,e,q3⟩:=Kb;subst e;cases r3;refine iD ?_;cases k with
 |false=>exact ite_ff {.bl false,H3,I3,rfl,q3}
 |true=>exact ite_tt (chain_last (iT (hc pins s3 Z H3 _ I3 q3) λw' s4 ⟨z',H4,I4,r4,q4⟩=>rp pins s4 Z H4 y z' u w' Q I4 r2 r4 q4))
def abE(K:Frag)(x:V)(H:Hp)(k:Bool):Prop:=
 match x with
 | .cE=>k=false
 | .bl b=>k=b
 | .int i=>k=(i !=0)
 | .str y=>y.length<=sizeLine/\k=((y.length:Int) !=0)
 | .uh y=>y.size<=sizeLine/\k=((y.size:Int) !=0)
 | .ref p=>(∃xs,bp K H p xs/\k=!xs.isEmpty)\/(∃xs,bF K H p xs/\k=!xs.isEmpty)\/∃kvs,H p=some (.dK kvs)/\k=!kvs.isEmpty
 |_=>False
def Ow(r:KV kvs vs):(!vs.isEmpty)=!kvs.isEmpty:=by cases r<;>rfl
def EW(r:Vals xs aY):(!aY.toArray.isEmpty)=!xs.isEmpty:=by cases r<;>simp
def xP:(sizeLine:Nat)<2^63:=by rw[b8];decide
def Zq:aev X (λx H Q=>∃k,abE X.K x H k/\Q k H):=by
 intro pins s Z H x v Q I rx h;obtain⟨k,e,q⟩:=h;have hl:=xP;have hs:sizeLine=16777216:=b8;cases x with
 |cE=>
  cases rx;have e':k=false:=e;subst e';exact truthy_none ⟨H,I,q⟩
 |bl b=>
  cases rx;have e':k=b:=e;subst e';exact iD ⟨H,I,q⟩
 |int i=>
  obtain⟨t,rfl⟩:=rx;have e':k=(i !=0):=e;subst e';exact PySem.P.truthy_int ⟨H,I,q⟩
 |str y=>
  obtain⟨t,rfl⟩:=rx;obtain⟨hy,e'⟩:y.length<=sizeLine/\k=((y.length:Int) !=0):=e;subst e';exact PySem.P.truthy_str ∅ {H,I.tok _,q}
 |uh y=>
  obtain⟨t,rfl⟩:=rx;obtain⟨hy,e'⟩:y.size<=sizeLine/\k=((y.size:Int) !=0):=e;subst e';exact PySem.W.truthy_bytes ∅ {H,I.tok _,q}
 |ref p=>
  cases rx;have e':(∃xs,bp X.K H p xs/\k=!xs.isEmpty)\/(∃xs,bF X.K H p xs/\k=!xs.isEmpty)\/∃kvs,H p=some (.dK kvs)/\k=!kvs.isEmpty:=e;rcases e' with⟨xs,hx,e'⟩|⟨xs,hx,e'⟩|⟨kvs,hx,e'⟩
  ·subst e';obtain⟨aY,r,pl,hz⟩:=I.list hx;have hlen:=r.length;exact wpAny_truthy_list pl.isList (by simp only[aQ];lia) {H,I.tok _,by rw[EW r];exact q}
  ·subst e';obtain⟨aY,r,pl,hz⟩:=I.tuple hx;have hlen:=r.length;exact truthy_tuple pl (by simp only[aQ];lia) {H,I.tok _,by rw[EW r];exact q}
  ·subst e';obtain⟨hz,hS,vs,r,m⟩:kvs.length<=sizeLine/\(p==sysModules)=false/\∃vs,KV kvs vs/\s.heap.DictOf (bH X.prog X.w) p vs:=I.br p _ hx;have hlen:kvs.length=vs.length:=bw r;exact wpAny_truthy_dict hS m ∅ {H,I.tok _,by rw[Ow r];exact q}
 |_=>exact(show False from e).elim
def I0(ha:PE X a ta)(he:∀whole,isTrue a X.env whole=(do let v<-whole;standAt a.pos;holding [v] (truthy v))):
  PT X a (λZ H Q=>ta Z H λx H'=>∃k,abE X.K x H' k/\Q k H'):=by
 intro pins s Z H Q I h;exact isTrue_plain (df (ha pins s Z H _ I h) λv s1 x H1 I1 r1 q1=>Zq pins s1 Z H1 x v Q I1 r1 q1) (he _)
def Oa:jh X (binaryOp .Add) (λx y H Q=>∃i j,x=.str i/\y=.str j/\i.length+j.length<=sizeLine/\Q (.str (i++j)) H):=by intro pins s Z H x y v u Q I rx ry h;obtain⟨i,j,rfl,rfl,hz,q⟩:=h;obtain⟨t,rfl⟩:=rx;obtain⟨t',rfl⟩:=ry;exact add_str (λt' tk=>{.str (i++j),H,I.tok _,⟨_,rfl⟩,q}) hz
def lP(r:Vals [x] us):∃u,us=[u]/\RelV x u:=by
 cases r with
 |cons r1 r2=>cases r2;exact⟨_,rfl,r1⟩
def vals2(r:Vals [x,y] us):∃u w',us=[u,w']/\RelV x u/\RelV y w':=by
 cases r with
 |cons r1 r2=>
  cases r2 with
  |cons r3 r4=>cases r4;exact⟨_,_,rfl,r1,r3⟩
def abI(K:Frag)(x:V)(H:Hp)(n:Nat):Prop:=
 match x with
 | .str y=>y.length<=sizeLine/\n=y.length
 | .uh y=>y.size<=sizeLine/\n=y.size
 | .ref p=>(∃xs,bp K H p xs/\n=xs.length)\/∃xs,bF K H p xs/\n=xs.length
 |_=>False
def iS:jv X (.builtin "len") (λxs H Q=>∃x n,xs=[x]/\abI X.K x H n/\Q (.int n) H):=by
 intro pins s Z H xs us Q I r h;obtain⟨x,n,rfl,e,q⟩:=h;obtain⟨u,rfl,rx⟩:=lP r;have hl:=xP;have hs:sizeLine=16777216:=b8;cases x with
 |str y=>
  obtain⟨t,rfl⟩:=rx;obtain⟨hy,e'⟩:y.length<=sizeLine/\n=y.length:=e;subst e';exact len_str ∅ {.int _,H,I.tok _,⟨_,rfl⟩,q}
 |uh y=>
  obtain⟨t,rfl⟩:=rx;obtain⟨hy,e'⟩:y.size<=sizeLine/\n=y.size:=e;subst e';exact PySem.W.len_bytes ∅ {.int _,H,I.tok _,⟨_,rfl⟩,q}
 |ref p=>
  cases rx;have e':(∃xs,bp X.K H p xs/\n=xs.length)\/∃xs,bF X.K H p xs/\n=xs.length:=e;rcases e' with⟨xs,hx,e'⟩|⟨xs,hx,e'⟩
  ·subst e';obtain⟨aY,r',pl,hz⟩:=I.list hx;have hlen:=r'.length;exact Calls.call_len_list pl.isList (by simp only[aQ];lia) {.int xs.length,H,I.tok _,{_,by simp only[aQ];rw[hlen]},q}
  ·subst e';obtain⟨aY,r',pl,hz⟩:=I.tuple hx;have hlen:=r'.length;exact len_tuple pl (by simp only[aQ];lia) {.int xs.length,H,I.tok _,{_,by simp only[aQ];rw[hlen]},q}
 |_=>exact(show False from e).elim
structure Ef(h:Heap)(x dx C:Addr)(mA:Aad):Prop where
 obj:h.get? x=some (instObj C dx)
 ns:h.Ns1 dx mA
 ne:dx≠x
def QK{h:Heap}(n:h.Ns1 dx mA):∃od,h.get? dx=some od/\∀name,lookIn name od=some (mA name):=by
 obtain⟨o,es,ep,ho,hd,hk,_,hm⟩:=n;refine{o,ho,λname=>?_};have e:=hm name;unfold nsFind findBy at e;rw[<-Array.find?_toList]at e;unfold lookIn;rw[hd];dsimp only;split
 ·rename_i y q;rw[q]at e;exact bU some e
 ·rename_i q;rw[q]at e;have a:es.toList.any (·.refKey)=false:=by rw[List.any_eq_false];intro y hy;obtain⟨z,t,lF⟩:=hk y (mf.mp hy);simp[DictEntry.refKey,lF]
  have a':¬es.toList.any (·.refKey)=true:=by rw[a];exact aW
  rw[az a'];exact bU some e
def Ef.look(I:Ef h x dx C mA):∃od,PySem.W.InstAt h x (instObj C dx) C (some od)/\∀name,lookIn name od=some (mA name):=
 let⟨od,ho,hl⟩:=QK I.ns
 {od,{I.obj,rfl,rfl,ho},hl}
variable{prog:Program}{w:World}{A:Around}{E:Aae}{s:Shared}{K:Frag}{x dx C f:Addr}{mA:Aad}{name:Str}{v:Value}
def get_map(X:K.In s.heap)(I:Ef s.heap x dx C mA)(hg:plainGet K C name=true)(hh:hasDictIn K C=true)
  (ha:findIn K (.ref C) name=some none) (hv:mA name=some v) (hv':PySem.W.handedIn v=true) (h:Q v {s with toks:=s.toks+1}):
  wpAny (-5) A (getAttr (.ref x) name expr) Q E s:=by
 obtain⟨od,J,hl⟩:=I.look;exact PySem.W.get_value X J (rC hg).1 (PySem.W.findObj_own hh ha rfl (by rw[hl,hv])) hv' h
def Uu(X:K.In s.heap)(I:Ef s.heap x dx C mA)(hg:plainGet K C name=true)
  (hf:findIn K (.ref C) name=some (some (.ref f))) (ht:isFn K (.ref f)=true) (hv:mA name=none) (h:Q (.ref f,[.ref x]) s):
  wpAny (-5) A (getMethod (.ref x) name pl) Q E s:=by
 obtain⟨od,J,hl⟩:=I.look;exact PySem.W.method_fn X J (rC hg).1 (rC hg).2 hf (qR.mp ht) (by show(lookIn name od).map (·.isSome)=some false;rw[hl,hv];rfl) h
def Xy(X:K.In s.heap)(I:Ef s.heap x dx C mA)
  (hs:findIn K (.ref C) "__setattr__"=some (some (.builtin "object.__setattr__"))) (hp:PySem.W.plainOver K C=true) (ht:PySem.W.takerIn K C name=some none) (hh:hasDictIn K C=true)
  (hw:PySem.Within mA ns) (hsz:ns.length<=sizeLine)
  (h:∀h',Ef h' x dx C (λy=>if y=name then some v else mA y)->Heap.SameBut dx s.heap h'->Q () {s with heap:=h',toks:=s.toks+2}):
  wpAny (-5) A (setAttr (.ref x) name v) Q E s:=by
 obtain⟨od,J,hl⟩:=I.look;refine PySem.W.set_plain X J hs (PySem.W.osa_open X J hp ht λb=>?_);obtain⟨cd,hc,qh⟩:=PySem.W.any_some hh;have hx:=I.obj;refine af (ao (af (af (wpAny_loadPart hx (af (PySem.W.Looks.here (PySem.W.looks_clsIn X hc) ?_))))));rw[qh];refine ao (af (ao (af ?_)));refine wpAny_nsSet1 I.ns λh' ue kI=>?_;obtain⟨oD,esD,epD,hoD,hdD,hcD⟩:=ue.count (PySem.Within.cons name v hw);refine af (wpAny_lookBehind hoD (by rw[hdD];exact pastItsLine_dict (aD hcD (by rw[bx];lia))) ?_);exact ao (h _ {(kI.2 _ (cb I.ne)).trans I.obj,ue,I.ne} kI)
def TN(X:K.In s.heap)(hm:PySem.W.makesIn K C=true)
  (hi:findIn K (.ref C) "__init__"=some (some (.ref f))) (hf:PySem.W.typeIn K (.ref f)=some (.type "function"))
  (h:codeAny (-5) (A.under (.builtin "type.__call__" {.ref C::vs,kw})) (.call (.ref f) {.ref (-17)::vs,kw}) (PySem.W.InitBack (-17) R)
   {s with heap:=(s.heap.push emptyDict).push (instObj C s.heap.objs.size)}):
  codeAny (-5) A (.call (.ref C) ⟨vs,kw⟩) R s:=by
 obtain⟨hh,g,d,t,os⟩:=s;exact PySem.W.make_core (PySem.W.makes_of X hm) (PySem.W.looks_findIn X hi) (λself=>PySem.W.bind_fn X self hf) (.inl rfl) h
end
def fA(f:Str)(v:V):List (Str×V)->List (Str×V)
 |[]=>[(f,v)]
 |(g,x)::r=>if g=f then(g,v)::r else(g,x)::fA f v r
theorem CQ(f g:Str)(v:V):∀fs:List (Str×V),(fA f v fs).lookup g=if g=f then some v else fs.lookup g
 |[]=>by
  show List.lookup g [(f,v)]=_;by_cases h:g=f
  ·have hb:(g==f)=true:=qR.mpr h;simp only[List.lookup,hb,aC h]
  ·have hb:=dB.mpr h;simp only[List.lookup,hb,az h]
 |(k,x)::r=>by
  have ih:=CQ f g v r;rw[show fA f v ((k,x)::r)=(if k=f then(k,v)::r else(k,x)::fA f v r)from rfl];by_cases hk:k=f
  ·rw[aC hk];by_cases h:g=k
   ·have hb:=qR.mpr h;simp only[List.lookup,hb,aC (h.trans hk)]
   ·have hb:=dB.mpr h;simp only[List.lookup,hb,az (λe:g=f=>h (e.trans hk.symm))]
  ·rw[az hk];by_cases h:g=k
   ·have hb:=qR.mpr h;simp only[List.lookup,hb,az (λe:g=f=>hk (h.symm.trans e))]
   ·have hb:=dB.mpr h;simp only[List.lookup,hb];exact ih
theorem A3(f:Str)(v:V):∀fs:List (Str×V),f∈(fA f v fs).map (·.1)/\∀g,g∈fs.map (·.1)->g∈(fA f v fs).map (·.1)
 |[]=>{by simp[fA],λg h=>by simp at h}
 |(k,x)::r=>by
  obtain⟨i1,i2⟩:=A3 f v r;rw[show fA f v ((k,x)::r)=(if k=f then(k,v)::r else(k,x)::fA f v r)from rfl];by_cases hk:k=f
  ·rw[aC hk];subst hk;exact{by simp,λg h=>by simpa using h}
  ·rw[az hk];refine{?_,λg h=>?_}
   ·rw[aU];exact aB _ i1
   ·rw[aU]at h⊢;rcases aG.mp h with e|e
    ·exact aG.mpr (.inl e)
    ·exact aB _ (i2 g e)
theorem CS(f:Str)(v:V):∀fs:List (Str×V),(fA f v fs).length<=fs.length+1
 |[]=>by simp[fA]
 |(k,x)::r=>by
  have ih:=CS f v r;rw[show fA f v ((k,x)::r)=(if k=f then(k,v)::r else(k,x)::fA f v r)from rfl];by_cases hk:k=f
  ·rw[aC hk,bx,bx];lia
  ·rw[az hk,bx,bx];lia
def lH.some_of(r:lH (some v) o):∃u,o=some u/\RelV v u:=by
 cases o with
 |none=>exact(show False from r).elim
 |some u=>exact⟨u,rfl,r⟩
def lH.none_of(r:lH none o):o=none:=by
 cases o with
 |none=>rfl
 |some u=>exact(show False from r).elim
def RB(r:RelV v u):PySem.W.handedIn u=true:=by
 cases v with
 |cE=>cases(show u=Value.none from r);rfl
 |bl b=>cases(show u=Value.bool b from r);rfl
 |int i=>obtain⟨t,e⟩:=(show∃t,u=Value.int i t from r);cases e;rfl
 |str x=>obtain⟨t,e⟩:=(show∃t,u=Value.str x t from r);cases e;rfl
 |uh b=>obtain⟨t,e⟩:=(show∃t,u=Value.bytes b t from r);cases e;rfl
 |Kx b=>obtain⟨t,e⟩:=(show∃t,u=Value.float b t from r);cases e;rfl
 |ref a=>cases(show u=Value.ref a from r);rfl
 |ty n=>cases(show u=Value.type n from r);rfl
section
variable{P:Program}{w:World}{H:Hp}{h:Heap}{a C dx:Addr}{fs:List (Str×V)}
def B5(br:jI P w H h)(e:H a=some (.ins C dx fs)):∃mA,Ef h a dx C mA/\(∀f,lH (fs.lookup f) (mA f))/\PySem.Within mA (fs.map (·.1))/\fs.length<=1000/\H dx=some (.own a):=by obtain⟨d,z,ne,ob,mA,n,r,q⟩:=(show dG P w H h a (.ins C dx fs)from br a _ e);exact{mA,⟨ob,n,ne⟩,r,q,z,d}
end
structure BQ(K:Frag)(C:Addr):Prop where
 pg:plainGet K C Str.empty=true
 hd:hasDictIn K C=true
 po:PySem.W.plainOver K C=true
 sa:findIn K (.ref C) "__setattr__"=some (some (.builtin "object.__setattr__"))
def BQ.get{K:Frag}(c:BQ K C)(f:Str):plainGet K C f=true:=c.pg
def pB(K:Frag)(C:Addr)(f:Str):Prop:=findIn K (.ref C) f=some none
def pB.abU{K:Frag}(n:pB K C f):PySem.W.takerIn K C f=some none:=by unfold PySem.W.takerIn;rw[show findIn K (.ref C) f=some none from n];rfl
structure Con(K:Frag)(C:Addr)(f:Str)(v:V)(u:Value):Prop where
 at_:findIn K (.ref C) f=some (some u)
 rel:RelV v u
 get:PySem.W.specialIn K u "__get__"=some none
 cp:PySem.W.copiedNames.contains f=false
structure Meth(K:Frag)(C:Addr)(m:Str)(f:Addr):Prop where
 at_:findIn K (.ref C) m=some (some (.ref f))
 fn:isFn K (.ref f)=true
 kp:keepIn K (.ref f)=true
section
variable{X:Cx}{pins:Aac}{Z:St}{H:Hp}{s:Shared}{a C dx:Addr}{fs:List (Str×V)}{f:Str}{v:V}{A:Around}{E:Aae}
def OQ(I:Inv X pins Z H s)(e:H a=some (.ins C dx fs))(c:BQ X.K C)(n:pB X.K C f)(l:fs.lookup f=some v)
  (h:∀u s',Inv X pins Z H s'->RelV v u->Q u s'):wpAny (-6) A (getAttr (-51) f b) Q E s:=by
 obtain⟨mA,O,r,_,_,_⟩:=B5 I.br e;obtain⟨u,hu,ru⟩:=lH.some_of (by rw[<-l];exact r f);exact get_map I.mU O (c.get f) c.hd n hu (RB ru) (h u _ (I.tok _) ru)
def OP(I:Inv X pins Z H s)(e:H a=some (.ins C dx fs))(c:BQ X.K C)(k:Meth X.K C m g)(l:fs.lookup m=none)
  (h:Q (.ref g,[.ref a]) s):wpAny (-6) A (getMethod (-51) m pl) Q E s:=by
 obtain⟨mA,O,r,_,_,_⟩:=B5 I.br e;have hn:=lH.none_of (by rw[<-l];exact r m);exact Uu I.mU O (c.get m) k.at_ k.fn hn h
def NO(I:Inv X pins Z H s)(e:H a=some (.ins C dx fs))(c:BQ X.K C)(n:pB X.K C f)(hl:fs.length<1000)(ry:RelV y u)
  (h:∀s',Inv X pins Z (upd H a (.ins C dx (fA f y fs))) s'->Q () s'):wpAny (-6) A (setAttr (-51) f u) Q E s:=by
 obtain⟨mA,O,r,wi,_,ho⟩:=B5 I.br e;have hz:(fs.map (·.1)).length<=sizeLine:=by rw[ak,b8];lia
 refine Xy I.mU O c.sa c.po n.abU c.hd wi hz λh' O' sb=>h _ ?_;have hd:∃o,h'.get? dx=some o:=let⟨o,_,_,e',_⟩:=O'.ns;⟨o,e'⟩
 refine I.write (by rw[e];exact True.intro) (.inr ho) (λb q hb z=>(sb.2 b hb).trans z) hd ?_;refine{by rw[aE O.ne];exact ho,?_,O.ne,O'.obj,_,O'.ns,λg=>?_,λg hg=>?_}
 ·have:=CS f y fs;lia
 ·show lH ((fA f y fs).lookup g) (if g=f then some u else mA g);rw[CQ];by_cases q:g=f
  ·rw[aC q,aC q];exact ry
  ·rw[az q,az q];exact r g
 ·by_cases q:g=f
  ·rw[q];exact(A3 f y fs).1
  ·refine(A3 f y fs).2 g (wi g λz=>hg ?_);show(if g=f then some u else mA g)=none;rw[az q];exact z
def Inv.made(I:Inv X pins Z H s):Inv X pins Z (upd (upd H s.heap.objs.size (.own (-17))) (-17) (.ins C s.heap.objs.size []))
  {s with heap:=(s.heap.push emptyDict).push (instObj C s.heap.objs.size)}:=by
 have e1:(s.heap.push emptyDict).get? s.heap.objs.size=some emptyDict:=aF s.heap rfl;have e2:((s.heap.push emptyDict).push (instObj C s.heap.objs.size)).get? (-17)=some (instObj C s.heap.objs.size):=by have:=aF (s.heap.push emptyDict) (o:=instObj C s.heap.objs.size) rfl;rwa [cB]at this
 have e3:(s.heap.push emptyDict).Ns s.heap.objs.size (λ_=>none):={emptyDict,#[],_,e1,rfl,(λe he=>absurd he (-9)),λ_=>rfl};have I1:=I.laid (o:=.own (-17)) (t':=s.toks) (λb u q=>aq _ q) (ar _) ⟨_,e1⟩;refine I1.laid (λb u q=>aq _ q) (BI (cB _ _)) ?_;have ne:s.heap.objs.size≠s.heap.objs.size+1:=aL (dC _);refine{by rw[aE ne,aw],aP _,ne,e2,λ_=>none,(Heap.Ns1.of_empty e3).at λo q=>aq _ q,λ_=>True.intro,λy hy=>absurd rfl hy}
def YV(hb:attributeBase e f env (eval e env)=eval e env)
  (h:wpAny (-5) A (eval e env) (λo aaa=>wpAny (-5) A (getAttr o f true) Q E aaa) E s):wpAny (-5) A (eval (.Attribute e f pos) env) Q E s:=
 Attribute_any_ h (by rw[arm_eval_Attribute,hb])
end
inductive ab0(K:Frag)(f:Str)(Q:VK)(x:V)(H1:Hp):Prop
 |mk a C dx fs v (_:x=.ref a) (_:H1 a=some (.ins C dx fs)) (_:BQ K C) (_:pB K C f) (_:fs.lookup f=some v) (_:Q v H1)
def SI(K:Frag)(ta:TE)(f:Str):TE:=λZ H Q=>ta Z H λx H1=>ab0 K f Q x H1
inductive aca(K:Frag)(f:Str)(D:Ends)(Z:St)(y:V)(x:V)(H2:Hp):Prop
 |mk a C dx fs (_:x=.ref a) (_:H2 a=some (.ins C dx fs)) (_:BQ K C) (_:pB K C f) (_:fs.length<1000) (_:D.nx Z (upd H2 a (.ins C dx (fA f y fs))))
def ac6(K:Frag)(ta tv:TE)(f:Str):TS:=λD Z H=>tv Z H λy H1=>ta Z H1 λx H2=>aca K f D Z y x H2
section
variable{X:Cx}{o e value:Expr}{f:Str}{pos pos':Pos}{ta tv:TE}
def mx(he:PE X e ta)(hb:attributeBase e f X.env (eval e X.env)=eval e X.env):PE X (.Attribute e f pos) (SI X.K ta f):=by intro pins s Z H Q I h;refine YV hb (df (he pins s Z H _ I h) λu s1 x H1 I1 rx Oz=>?_);obtain⟨a,C,dx,fs,v,ex,ea,c,n,l,q⟩:=Oz;subst ex;obtain rfl:u=Value.ref a:=rx;exact OQ I1 ea c n l λu' s2 I2 ru=>⟨v,H1,I2,ru,q⟩
def xF(ha:PE X o ta)(hv:PE X value tv)(hs:swapsWith value (some (.Attribute o f pos')) pos.line X.env=pure false):PS X (.Assign [.Attribute o f pos'] value pos) (ac6 X.K ta tv f):=by intro pins s Z H D I h;refine plainObj_wpAny_Assign_Attribute (df (hv pins s Z H _ I h) λu s1 y H1 I1 ry q=>df (ha pins s1 Z H1 _ I1 q) λov s2 x H2 I2 rx adZ=>?_) hs;obtain⟨a,C,dx,fs,ex,ea,c,n,l,q2⟩:=adZ;subst ex;obtain rfl:ov=Value.ref a:=rx;exact NO I2 ea c n l ry λs3 I3=>⟨Z,_,I3,q2⟩
end
section
variable{X:Cx}{pins:Aac}{Z:St}{H:Hp}{s:Shared}{A:Around}{E Q:Aae}{c:Value}{b:Bool}
inductive oW(K:Frag)(H:Hp):V->Value->Prop where
 |cE:oW K H .cE (.type "NoneType")
 |bl (x:Bool):oW K H (.bl x) (.type "bool")
 |int (i:Int):oW K H (.int i) (.type "int")
 |str (x:Str):oW K H (.str x) (.type "str")
 |Kx (x:UInt64):oW K H (.Kx x) (.type "float")
 |lst {a:Addr} {xs:Aao} (e:H a=some (.lst xs)):oW K H (.ref a) (.type "list")
 |de {a:Addr} {o:Obj} {xs:Aao} (e:H a=some (.de o (.lst xs))):oW K H (.ref a) (.type "list")
 |tup {a:Addr} {xs:Aao} (e:H a=some (.tup xs)):oW K H (.ref a) (.type "tuple")
 |dK {a:Addr} {kvs:List (Key×V)} (e:H a=some (.dK kvs)):oW K H (.ref a) (.type "dict")
 |dT {a:Addr} {kvs:List (List Key×V)} (e:H a=some (.dT kvs)):oW K H (.ref a) (.type "dict")
 |ins {a C dx:Addr} {fs:List (Str×V)} (e:H a=some (.ins C dx fs)) (cl:BQ K C) (ha:findIn K (.ref C) "__class__"=some (some (.builtin "object.__class__")))
   (hn:PySem.W.specialIn K (.builtin "object.__class__") "__get__"=some (some (.builtin "getset_descriptor.__get__"))) (Q8:PySem.W.takesIn K (.builtin "object.__class__")=some true)
   (hm:PySem.W.mroIn K C (.type "object")=some true):oW K H (-51) (.ref C)
def QY(I:Inv X pins Z H s)(rx:RelV x u)(ty:oW X.K H x t)(e:kitOne X.K t c=some b)(h:∀tk,Q (.bool b) {s with toks:=tk}):
  wpAny (-6) A (call (.builtin "isinstance") [u,c]) Q E s:=by
 cases ty with
 |cE=>cases(show u=Value.none from rx);exact eZ PySem.W.kitx_none I.mU True.intro e (λz=>nomatch z) h
 |bl y=>cases(show u=Value.bool y from rx);exact eZ PySem.W.kitx_bool I.mU True.intro e (λz=>nomatch z) h
 |int i=>obtain⟨t,q⟩:=(show∃t,u=Value.int i t from rx);cases q;exact eZ PySem.W.kitx_int I.mU True.intro e (λz=>nomatch z) h
 |str y=>obtain⟨t,q⟩:=(show∃t,u=Value.str y t from rx);cases q;exact eZ PySem.W.kitx_str I.mU True.intro e (λz=>nomatch z) h
 |Kx y=>obtain⟨t,q⟩:=(show∃t,u=Value.float y t from rx);cases q;exact eZ PySem.W.kitx_float I.mU True.intro e (λz=>nomatch z) h
 |@lst a xs ea=>
  cases(show u=Value.ref a from rx);obtain⟨_,_,n,_,h1⟩:=(show dG X.prog X.w H s.heap a (.lst xs)from I.br a _ ea);exact eZ Cq I.mU ⟨_,h1,rfl⟩ e (λz=>nomatch z) h
 |@de a ob xs ea=>
  cases(show u=Value.ref a from rx);obtain⟨_,_,_,n,_,h1⟩:=(show dG X.prog X.w H s.heap a (.de ob (.lst xs))from I.br a _ ea);exact eZ Cq I.mU ⟨_,h1,rfl⟩ e (λz=>nomatch z) h
 |@tup a xs ea=>
  cases(show u=Value.ref a from rx);obtain⟨_,_,_,p,_⟩:=(show dG X.prog X.w H s.heap a (.tup xs)from I.br a _ ea);obtain⟨o,h1,h2,_⟩:=p;exact eZ PySem.W.kitx_tuple I.mU ⟨o,h1,h2⟩ e (λz=>nomatch z) h
 |@dK a kvs ea=>
  cases(show u=Value.ref a from rx);obtain⟨_,_,vs,_,p⟩:=(show dG X.prog X.w H s.heap a (.dK kvs)from I.br a _ ea);obtain⟨o,es,ep,h1,h2,_⟩:=p;exact eZ Cr I.mU {o,h1,h2.1} e (λz=>nomatch z) h
 |@dT a kvs ea=>
  cases(show u=Value.ref a from rx);obtain⟨_,_,xs,_,o,es,ep,h1,h2,_⟩:=(show dG X.prog X.w H s.heap a (.dT kvs)from I.br a _ ea);exact eZ Cr I.mU {o,h1,h2.1} e (λz=>nomatch z) h
 |@ins a C dx fs ea cl ha hn Q8 hm=>
  cases(show u=Value.ref a from rx);obtain⟨mA,O,_⟩:=B5 I.br ea;obtain⟨od,J,_⟩:=O.look;exact eZ (PySem.W.kitx_own (cl.get _) cl.hd ha hn Q8 hm) I.mU J e (λz=>nomatch z) h
end
structure gZ(k:Nat)(A:Around):Prop where
 hd:A.handled=none
 dp:A.depth+3*k+5<recursionLimit
 un:A.units+16*k+200<cLine
def gZ.mono(r:gZ k A)(h:j<=k):gZ j A:={r.hd,by have:=r.dp;lia,by have:=r.un;lia}
def gZ.deeper(r:gZ (k+1) A)(env:Env):gZ k (A.deeper env):=
 {r.hd,by have:=r.dp;show A.depth+1+3*k+5<_;lia,by have:=r.un;show A.units+3+16*k+200<_;lia}
def Oj{A:Around}:(-71).depth=A.depth+1:=by
 first|rfl|simp[Around.under,Code.weight,Code.isCreation,Code.isGuard,Code.isCaller,Code.frames,Code.isFrame,guardIds]
def Oi{A:Around}:(-71).units=A.units+1:=by
 first|rfl|simp[Around.under,Code.cUnits,Code.frames,Code.isFrame]
def gZ.make(r:gZ (k+1) A)(C:Addr)(us:Aag)(kw:List (Str×Value)):gZ k (-71):=
 {r.hd,by have:=r.dp;rw[Oj];lia,by have:=r.un;rw[Oi];lia}
def gZ.depth(r:gZ k A):A.depth<recursionLimit:=by have:=r.dp;lia
def gZ.units(r:gZ k A):A.units+64<cLine:=by have:=r.un;lia
def gZ.Ic(r:gZ k A):A.units<cLine:=by have:=r.un;lia
def FK:TA:=λ_ H Q=>Q [] H
def si(ta:TE)(tr:TA):TA:=λZ H Q=>ta Z H λx H1=>tr Z H1 λxs H2=>Q (x::xs) H2
section
variable{X:Cx}{e:Expr}{es:List Expr}{te:TE}{t:TA}{pos:Pos}
def gN:PA X [] FK:=λ_ _ _ _ H Q I h=>k9 {[],H,I,.nil,h}
def iF(ha:PE X e te)(hr:PA X es t)(hs:starEach (e::es) X.env=(false,eval e X.env)::starEach es X.env:=by rfl):PA X (e::es) (si te t):=by intro pos pins s Z H Q I h;rw[hs];refine gk (df (ha pins s Z H _ I h) λu s1 x H1 I1 r1 q1=>?_);exact qu (hr pos pins s1 Z H1 _ I1 q1) λus s2 xs H2 I2 r2 q2=>{x::xs,H2,I2,.cons r1 r2,q2}
def cz{X:Cx}{e:Expr}{te:TE}(ha:PE X e te)(hs:starEach [e] X.env=(false,eval e X.env)::starEach [] X.env:=by rfl):PA X [e] (si te FK):=iF ha gN hs
def dR{X:Cx}{e f:Expr}{te tf:TE}(ha:PE X e te)(hb:PE X f tf)(hs:starEach [e,f] X.env=(false,eval e X.env)::starEach [f] X.env:=by rfl)(ht:starEach [f] X.env=(false,eval f X.env)::starEach [] X.env:=by rfl):PA X [e,f] (si te (si tf FK)):=iF ha (cz hb ht) hs
def sN{X:Cx}{e f g:Expr}{te tf tg:TE}(ha:PE X e te)(hb:PE X f tf)(hc:PE X g tg)(hs:starEach [e,f,g] X.env=(false,eval e X.env)::starEach [f,g] X.env:=by rfl)(ht:starEach [f,g] X.env=(false,eval f X.env)::starEach [g] X.env:=by rfl)(hu:starEach [g] X.env=(false,eval g X.env)::starEach [] X.env:=by rfl):PA X [e,f,g] (si te (si tf (si tg FK))):=iF ha (dR hb hc ht hu) hs
def Zz(t:TA):TE:=λZ H Q=>t Z H λxs H1=>xs.length<=sizeLine/\∀p,H1 p=none->Q (.ref p) (upd H1 p (.tup xs))
def ac0(t:TA):TE:=λZ H Q=>t Z H λxs H1=>xs.length<=sizeLine/\∀p,H1 p=none->Q (.ref p) (upd H1 p (.lst xs))
def iZ{x1}(h:PA X es t):PE X (.Tuple es x1 pos) (Zz t):=by intro pins s Z H Q I hq;refine wpAny_Tuple_spliced (qu (h pos pins s Z H _ I hq) λus s1 xs H1 I1 r ⟨z,q⟩=>{by rw[<-r.length];exact z,?_});have hf:=I1.br.fresh (ar _);refine{.ref s1.heap.objs.size,upd H1 s1.heap.objs.size (.tup xs),I1.laid (λb u e=>aq _ e) (ar _) ?_,rfl,q _ hf};exact{z,us,r,{_,aF _ rfl,rfl,_,rfl},_,aF _ rfl,rfl}
def fb(h:PA X es t):PE X (.List es pos) (ac0 t):=by intro pins s Z H Q I hq;refine wpAny_List_spliced (qu (h pos pins s Z H _ I hq) λus s1 xs H1 I1 r ⟨z,q⟩=>{by rw[<-r.length];exact z,?_});have hf:=I1.br.fresh (ar _);refine{.ref s1.heap.objs.size,upd H1 s1.heap.objs.size (.lst xs),I1.laid (λb u e=>aq _ e) (ar _) ?_,rfl,q _ hf};exact{z,us,0,r,aF _ rfl}
abbrev Sp:=Aao->Hp->VK->XK->Prop
abbrev K8:=List Env->Hp->Shared->XK->Aae
structure Eh(P:Program)(w:World)(K:Frag)(mg:Aad)(base:Heap)(A:Around)(outer:List Env)(s:Shared)(H:Hp):Prop where
 frames:A.frames=some outer
 mod:Mod K mg base
 bs:∀b o,base.get? b=some o->s.heap.get? b=some o/\H b=none
 Df:base.objs.size<=s.heap.objs.size
 rQ:s.heap.FunFrames base outer
 Hn:∀b∈zW outer,H b=none
 br:jI P w H s.heap
 bare:AllBare s.gens
def CE(outer:List Env)(P:Program)(w:World)(H:Hp)(s:Shared)(Q:VK)(u:Value)(s':Shared):Prop:=
 ∃v H',s'.os=s.os/\AllBare s'.gens/\Un (zW outer) [] H H' s.heap s'.heap/\jI P w H' s'.heap/\RelV v u/\Q v H'
end
def CR(CX:K8)(outer:List Env)(P:Program)(w:World)(H:Hp)(s:Shared)(Q:VK)(E:XK)(r:Result)(s':Shared):Prop:=
 match r with
 | .ok (.ret u)=>CE outer P w H s Q u s'
 | .ok _=>False
 | .error e=>CX outer H s E e s'
structure dk(P:Program)(w:World)(K:Frag)(mg:Aad)(base:Heap)(CX:K8)(k:Nat)(f:Addr)(fd:FuncData)(ps:Aah)(sp:Sp):Prop where
 len:∀vs H Q E,sp vs H Q E->vs.length=ps.length
 run:∀(A:Around)(outer:List Env)(s:Shared)(H:Hp)(args:Args)(us:Aag)(vs:Aao)(Q:VK)(E:XK),gZ k A->Eh P w K mg base A outer s H->BindsTo s fd args (ps.zip us)->Vals vs us->sp vs H Q E->
  codeAny (-30) A (.call (.ref f) args) (CR CX outer P w H s Q E) s
def Eh.make{K:Frag}(e:Eh P w K mg base A outer s H)(C:Addr)(us:Aag)(kw:List (Str×Value)):
  Eh P w K mg base (-71) outer s H:={by first|exact e.frames|(simpa[Around.under,Code.envs,Code.isFrame,pushEnvs]using e.frames),e.mod,e.bs,e.Df,e.rQ,e.Hn,e.br,e.bare}
section
variable{X:Cx}{pins:Aac}{Z:St}{H:Hp}{s s':Shared}
def Inv.env0(I:Inv X pins Z H s):Eh X.prog X.w X.K X.mg X.base X.A X.stack s H:=
 {I.ok.frames,I.ok.mod,I.bs,aD I.ok.Df I.sz,I.stack,I.L4,I.br,I.bare}
def Inv.after(I:Inv X pins Z H s)(h:CE X.stack X.prog X.w H s Q u s'):EP X pins Z Q u s':=by obtain⟨v,H',os,bare,un,br,r,q⟩:=h;obtain⟨hh,g,d,t,Vz⟩:=s';obtain rfl:Vz=s.os:=os;exact{v,H',I.call un br bare (λb z=>absurd z (-9)),r,q}
end
def Vl(sp:Sp)(qm:Aao)(E:XK)(t:TA):TE:=λZ H Q=>t Z H λvs H1=>sp (vs++qm) H1 Q E
inductive ZE(C:Addr)(m:Str)(sp:Sp)(qm:Aao)(E:XK)(t:TA)(Z:St)(Q:VK)(x:V)(H1:Hp):Prop
 |mk a dx fs (_:x=.ref a) (_:H1 a=some (.ins C dx fs)) (_:fs.lookup m=none) (_:t Z H1 λvs H2=>sp (x::(vs++qm)) H2 Q E)
def Vj(C:Addr)(m:Str)(sp:Sp)(qm:Aao)(E:XK)(ta:TE)(t:TA):TE:=λZ H Q=>ta Z H λx H1=>ZE C m sp qm E t Z Q x H1
def Vk(C:Addr)(sp:Sp)(qm:Aao)(E:XK)(t:TA):TE:=λZ H Q=>t Z H λvs H1=>∀x dx,H1 x=none->H1 dx=none->dx≠x->
 sp (.ref x::(vs++qm)) (upd (upd H1 dx (.own x)) x (.ins C dx [])) (λv H2=>v=.cE/\Q (.ref x) H2) E
def Binds(K:Frag)(fd:FuncData)(ps:Aah)(ds:Aag):Prop:=
 ∀(s:Shared)(us:Aag),K.In s.heap->(us++ds).length=ps.length->BindsTo s fd {us,[]} (ps.zip (us++ds))
def Binds.all{K:Frag}(h:∀us:Aag,us.length=ps.length->bindArgs fd {us,[]}=pure (ps.zip us)):Binds K fd ps []:=λs us _ hl=>by rw[b6]at hl⊢;exact .of_eq (h us hl)
def Passes(CX:K8)(X:Cx)(E:XK):Prop:=∀(pins:Aac)(Z:St)(H:Hp)(s:Shared)(e:Value)(s':Shared),Inv X pins Z H s->CX X.stack H s E e s'->X.xe e s'
section
variable{X:Cx}{CX:K8}{k:Nat}{f C:Addr}{fd:FuncData}{ps:Aah}{sp:Sp}{qm:Aao}{ds:Aag}{E:XK}{x m:Str}{p pos apos:Pos}{e o:Expr}{es:List Expr}{ta:TE}{t:TA}
def P6(F:dk X.prog X.w X.K X.mg X.base CX k f fd ps sp)(hr:gZ k X.A)(hb:Binds X.K fd ps ds)(hd:Vals qm ds)(hx:Passes CX X E)
  (I:Inv X pins Z H s) (r:Vals vs us) (h:sp (vs++qm) H Q E):wpAny (-6) X.A (call (.ref f) us) (EP X pins Z Q) X.xe s:=by
 have r2:=r.append hd;have hl:(us++ds).length=ps.length:=by rw[<-r2.length];exact F.len _ _ _ _ h
 refine Ek (lG (F.run X.A X.stack s H {us,[]} (us++ds) (vs++qm) Q E hr I.env0 (hb s us I.mU hl) r2 h) λr s' hq=>?_);cases r with
 |error e=>exact hx pins Z H s e s' I hq
 |ok fl=>
  cases fl with
  |ret u=>exact I.after hq
  |next=>exact False.elim hq
  |brk=>exact False.elim hq
  |cont=>exact False.elim hq
def X2(F:dk X.prog X.w X.K X.mg X.base CX k f fd ps sp)(hr:gZ k X.A)(hg:Gl X x)(hm:X.mg x=some (.ref f))(hk:keepIn X.K (.ref f)=true)(hb:Binds X.K fd ps ds)(hd:Vals qm ds)(hx:Passes CX X E)
  (ha:PA X (e::es) t) (Bd:(-33)=false:=by decide) (he:starEach (e::es) X.env=(false,eval e X.env)::starEach es X.env:=by rfl) (ud:(-37).any (·.1)=false:=by rfl):
  PE X (-66) (Vl sp qm E t):=by
 intro pins s Z H Q I h;refine m8 (F1 I hg hm ?_ Bd);refine tE I.ok.mod.QQ hk (qu (ha pos pins s Z H _ I h) λus s1 vs H1 I1 r q=>{I1.mU,?_}) he ud;exact P6 F hr hb hd hx I1 r q
def XZ(he:PE X o ta)(c:BQ X.K C)(hm:Meth X.K C m f)(F:dk X.prog X.w X.K X.mg X.base CX k f fd ps sp)(hr:gZ k X.A)(hb:Binds X.K fd ps ds)(hd:Vals qm ds)(hx:Passes CX X E)(ha:PA X (e::es) t)
  (ie:starEach (e::es) X.env=(false,eval e X.env)::starEach es X.env:=by rfl) (ud:(-37).any (·.1)=false:=by rfl)
  (ht:eval (.Call (.Attribute o m apos) (e::es) [] pos) X.env=(do
   let ov<-eval o X.env
   standAt apos.atName
   let(f,first)<-holding [ov] (getMethod ov m pl)
   callWith pos f first (backTo pos (starEach (e::es) X.env)) (backToKw pos (keywordEach [] X.env))):=by rfl):
  PE X (.Call (.Attribute o m apos) (e::es) [] pos) (Vj C m sp qm E ta t):=by
 intro pins s Z H Q I h;refine PySem.W.methodCall_KW (df (he pins s Z H _ I h) λu s1 x H1 I1 rx T5=>?_) ht;obtain⟨a,dx,fs,ex,ea,l,q⟩:=T5;subst ex;obtain rfl:u=Value.ref a:=rx;refine OP I1 ea c hm l ?_;refine tE I.ok.mod.QQ hm.kp (qu (ha pos pins s1 Z H1 _ I1 q) λus s2 vs H2 I2 r q2=>{I2.mU,?_}) ie ud;exact P6 (vs:=.ref a::vs) F hr hb hd hx I2 (.cons rfl r) q2
structure Mk(K:Frag)(C f:Addr):Prop where
 makes:PySem.W.makesIn K C=true
 init:findIn K (.ref C) "__init__"=some (some (.ref f))
 fn:isFn K (.ref f)=true
 kp:keepIn K (.ref C)=true
def S4(M:Mk X.K C f)(F:dk X.prog X.w X.K X.mg X.base CX k f fd ps sp)(hr:gZ (k+1) X.A)(hb:Binds X.K fd ps ds)(hd:Vals qm ds)
  (hx:Passes CX X E) (I:Inv X pins Z H s) (r:Vals vs us)
  (h:∀x dx,H x=none->H dx=none->dx≠x->sp (.ref x::(vs++qm)) (upd (upd H dx (.own x)) x (.ins C dx [])) (λv H2=>v=.cE/\Q (.ref x) H2) E):
  wpAny (-6) X.A (call (.ref C) us) (EP X pins Z Q) X.xe s:=by
 have hq:=h (-17) s.heap.objs.size (I.br.fresh (fI _)) (-72) (aL (dC _));have I2:=Inv.made (C:=C) I;have r2:Vals (V.ref (-17)::(vs++qm)) (Value.ref (-17)::(us++ds)):=.cons rfl (r.append hd);have hl:(Value.ref (-17)::us++ds).length=ps.length:=by have e:=r2.length;rw[F.len _ _ _ _ hq]at e;exact e.symm
 refine Ek (TN I.mU M.makes M.init (qR.mp M.fn) (lG (F.run _ X.stack _ _ {Value.ref (-17)::us,[]} (Value.ref (-17)::(us++ds)) _ _ E (hr.make C us [])
  (I2.env0.make C us []) (hb _ (Value.ref (-17)::us) I2.mU hl) r2 hq) λr s' Rc=>?_))
 cases r with
 |error e=>exact hx pins Z _ _ e s' I2 Rc
 |ok fl=>
  cases fl with
  |ret u=>
   obtain⟨v,H',I3,rv,ev,q3⟩:=I2.after Rc;subst ev;exact{rv,{V.ref (-17),H',I3,rfl,q3}}
  |next=>exact False.elim Rc
  |brk=>exact False.elim Rc
  |cont=>exact False.elim Rc
def X0(M:Mk X.K C f)(F:dk X.prog X.w X.K X.mg X.base CX k f fd ps sp)(hr:gZ (k+1) X.A)(hg:Gl X x)(hm:X.mg x=some (.ref C))(hb:Binds X.K fd ps ds)(hd:Vals qm ds)(hx:Passes CX X E)
  (ha:PA X (e::es) t) (Bd:(-33)=false:=by decide) (he:starEach (e::es) X.env=(false,eval e X.env)::starEach es X.env:=by rfl) (ud:(-37).any (·.1)=false:=by rfl):
  PE X (-66) (Vk C sp qm E t):=by
 intro pins s Z H Q I h;refine m8 (F1 I hg hm ?_ Bd);refine tE I.ok.mod.QQ M.kp (qu (ha pos pins s Z H _ I h) λus s1 vs H1 I1 r q=>{I1.mU,?_}) he ud;exact S4 M F hr hb hd hx I1 r q
variable{ks:Aah}
structure aeB(K:Frag)(fd:FuncData)(ps ks:Aah)(g:Aag->Aag->Aag)(gV:Aao->Aao->Aao):Prop where
 to:∀(s:Shared)(us ws:Aag),K.In s.heap->(g us ws).length=ps.length->BindsTo s fd {us,ks.zip ws} (ps.zip (g us ws))
 rel:∀{vs:Aao}{us:Aag}{zs:Aao}{ws:Aag},Vals vs us->Vals zs ws->Vals (gV vs zs) (g us ws)
end
structure cD(N P:Aah)(sc:Scope):Prop where
 kind:sc.kind=.function
 co:sc.isCoroutine=false
 gen:sc.isGenerator=false
 nd:N.Nodup
 pre:N.take P.length=P
 par:∀x∈P,sc.names.lookup x=some .local\/sc.names.lookup x=some .cell
 aaw:∀y∈sc.names,y.2≠ .free
def jD{N P:Aah}{sc:Scope}(h:sc.kind=.function/\sc.isCoroutine=false/\sc.isGenerator=false/\N.Nodup/\N.take P.length=P/\(∀x∈P,sc.names.lookup x=some .local\/sc.names.lookup x=some .cell)/\∀y∈sc.names,y.2≠ .free):cD N P sc:={h.1,h.2.1,h.2.2.1,h.2.2.2.1,h.2.2.2.2.1,h.2.2.2.2.2.1,h.2.2.2.2.2.2}
def iu{X:Cx}{x:Str}{pos:Pos}{ps:Aah}{sc:Scope}(i:Nat)(S:cD X.N ps sc)(hi:X.N[i]?=some x:=by rfl)(hx:X.env.scope.names.lookup x=some .local:=by rfl):PG X (.Name x pos) (sA i):=ot S.nd hi (Or.inl hx) (Or.inr hx)
def fK{X:Cx}{x:Str}{pos pos':Pos}{e:Expr}{te:TE}{ps:Aah}{sc:Scope}(i:Nat)(S:cD X.N ps sc)(he:PE X e te)(hi:X.N[i]?=some x:=by rfl)(hx:X.env.scope.names.lookup x=some .local:=by rfl)(hs:swapsWith e (some (.Name x pos')) pos.line X.env=pure false:=by rfl):PS X (.Assign [.Name x pos'] e pos) (SK te (sA i)):=jT S.nd hi (Or.inl hx) he hs (Or.inr hx)
theorem Hv{kindOf:Str->Option NameKind}:∀{binds:List (Str×Value)}{m:Aad},(∀v,(x,v)∉binds)->bindL kindOf binds m x=m x
 |[],_,_=>rfl
 |(n,v)::r,m,h=>by
  unfold bindL;rw[Hv λw hw=>h w (aB _ hw)];split
  ·have:x≠n:=by rintro rfl;exact h v aA
   simp[this]
  ·rfl
theorem Hy{kindOf:Str->Option NameKind}:∀{binds:List (Str×Value)}{m:Aad},(∀v,(x,v)∉binds)->bindC kindOf binds m x=m x
 |[],_,_=>rfl
 |(n,v)::r,m,h=>by
  unfold bindC;rw[Hy λw hw=>h w (aB _ hw)];split
  ·rfl
  ·have:x≠n:=by rintro rfl;exact h v aA
   simp[this]
theorem Hw{kindOf:Str->Option NameKind}:∀{P:Aah}{vs:Aag}{i:Nat}{m:Aad},P.Nodup->P[i]?=some x->vs[i]?=some v->kindOf x=some .local->
  bindL kindOf (P.zip vs) m x=some v
 |[],_,_,_,_,h,_,_=>by simp at h
 |_::_,[],_,_,_,_,h,_=>by simp at h
 |p::P,w::vs,0,m,nd,h1,h2,hk=>by simp at h1 h2;subst h1;subst h2;show bindL kindOf ((p,w)::P.zip vs) m p=_;unfold bindL;rw[Hv λv hv=>(cX.mp nd).1 (wJ hv).1,aC hk];simp
 |p::P,w::vs,i+1,m,nd,h1,h2,hk=>by show bindL kindOf ((p,w)::P.zip vs) m x=_;unfold bindL;exact Hw (i:=i) (cX.mp nd).2 (by simpa using h1) (by simpa using h2) hk
theorem Hz{kindOf:Str->Option NameKind}:∀{P:Aah}{vs:Aag}{i:Nat}{m:Aad},P.Nodup->P[i]?=some x->vs[i]?=some v->kindOf x≠some .local->
  bindC kindOf (P.zip vs) m x=some v
 |[],_,_,_,_,h,_,_=>by simp at h
 |_::_,[],_,_,_,_,h,_=>by simp at h
 |p::P,w::vs,0,m,nd,h1,h2,hk=>by simp at h1 h2;subst h1;subst h2;show bindC kindOf ((p,w)::P.zip vs) m p=_;unfold bindC;rw[Hy λv hv=>(cX.mp nd).1 (wJ hv).1,az hk];simp
 |p::P,w::vs,i+1,m,nd,h1,h2,hk=>by show bindC kindOf ((p,w)::P.zip vs) m x=_;unfold bindC;exact Hz (i:=i) (cX.mp nd).2 (by simpa using h1) (by simpa using h2) hk
def start(N:Aah)(vs:Aao):St:=vs.map some++List.replicate (N.length -vs.length) none
noncomputable def Gb(CX:K8)(P:Program)(w:World)(K:Frag)(mg:Aad)(base:Heap)(N:Aah)(qual:Str)(scope:Scope)(f:Addr)(cd:Value)(A:Around)(outer:List Env)(s:Shared)(H:Hp)(E:XK):Cx where
 prog:=P
 w:=w
 K:=K
 mg:=mg
 base:=base
 A:=A.deeper (-67)
 N:=N
 aab:=s
 aae:=H
 env:=envOfC qual scope s.heap.objs.size f cd
 outer:=outer
 stack:=envOfC qual scope s.heap.objs.size f cd::outer
 ex:=[]
 calm:=true
 fn:=λ_=>true
 pn:=[]
 xe:=λe s'=>wpAny (-30) (A.deeper (-67)) (leaving (-67) e) (λ_ ZW=>CX outer H s E e ZW) (λe' ZW=>CX outer H s E e' ZW) s'
def KP{sc:Scope}(h:sc.names.lookup x=some .cell):∃c,(cellsFrom n sc.names []).lookup x=some c:=by have q:=xh sc.names n [] (.inl h);exact jX.mp q
def Q0{K:Frag}
  (S:cD N ps scope) (hd:A.handled=none) (e0:Eh P w K mg base A outer s H) (hl:vs.length=ps.length) (r:Vals vs us)
  (x:InCallC s s.heap.objs.size (bindL (-67).kindOf (ps.zip us) λ_=>none) (cellsFrom (-17) scope.names []) (bindC (-67).kindOf (ps.zip us) λ_=>none) s1):
  Inv (Gb CX P w K mg base N qual scope f cd A outer s H E) [] (start N vs) H s1:=by
 have ud:ps.length<=N.length:=by have:=bU List.length S.pre;rw[aT]at this;lia
 obtain⟨h1,tk,rfl,hk⟩:=x.done;have Qw:∀b:Addr,b∉(Gb CX P w K mg base N qual scope f cd A outer s H E).ex:=λb z=>absurd (show b∈([]:Aaj)from z) (-9);refine{{e0.mod,S.kind,rfl,rfl,ar _,λy z c h1 h2=>?_,λy hy=>?_,λy c _ h=>?_,λ_=>hd,Around.frames_deeper e0.frames,.inr ⟨rfl,rfl⟩,λb z=>absurd z (Qw b),e0.bs,e0.Df,λb _ _=>Qw b,λb z=>absurd z (Qw b),e0.rQ,e0.Hn},
  rfl,e0.bare,Un.kept hk,{_,x.toInCall.ns,λi y v h1 h2 h3=>?_},λy c h=>{_,x.cell y c h},e0.br.fresh (ar _),λy c h=>?_,λp hp=>absurd (show p∈([]:Aac)from hp) (-9),e0.br.kept hk,?_}
 ·exact name_of_addr x.apart (km h1) (km h2)
 ·have hy:=hy;rcases hy with hy|hy
  ·exact KP hy
  ·exact absurd rfl (S.aaw _ (km hy))
 ·exact bu (x.above y c (km h))
 ·have hi:i<vs.length:=by
   unfold start at h2;by_cases hi:i<vs.length
   ·exact hi
   ·rw[dE (by simpa using hi)]at h2;rw[v7]at h2;split at h2<;>cases h2
  have ha:vs[i]?=some v:=by
   unfold start at h2;rw[dO (by simpa using hi),aK]at h2;cases e:vs[i]? with
   |none=>rw[e]at h2;cases h2
   |some a=>rw[e]at h2;cases h2;rfl
  obtain⟨u,hu,rv⟩:=r.get ha;have hp:ps[i]?=some y:=by rw[<-S.pre,og ∅];exact h1
  have ndP:ps.Nodup:=by rw[<-S.pre];exact S.nd.sublist (oY _ _)
  refine{u,rv,?_};rcases S.par y (aH hp)with k|k
  ·exact .inl {k,Hw ndP hp hu k}
  ·obtain⟨c,e⟩:=KP k;refine .inr {.inl k,c,e,?_};have q:=x.cell y c e;rw[Hz ndP hp hu (by show scope.names.lookup y≠_;rw[k];decide)]at q;exact q
 ·exact e0.br.fresh (bu (x.above y c (km h)))
 ·unfold start;show _=N.length;rw[aO,ak,hW];lia
def acF{K:Frag}{dV kV doc pm dm ct oc:Value}
     (lk:K.lookup f=some {oc,od,.func (fnOf name qual params body scope dV kV doc pm an dm ct),zK}) (Be:codeIn K dm qual=true) (S:cD N ps scope)
  (len:∀vs H Q E,sp vs H Q E->vs.length=ps.length)
  (OL:∀(A:Around)(outer:List Env)(s:Shared)(H:Hp)(vs:Aao)(Q:VK)(E:XK),gZ k (A.deeper (envOfC qual scope s.heap.objs.size f dm))->sp vs H Q E->
   ∃t,mY (Gb CX P w K mg base N qual scope f dm A outer s H E) body t/\t {nx:=λ_ H'=>Q .cE H',rt:=Q} (start N vs) H):
  dk P w K mg base CX (k+1) f (fnOf name qual params body scope dV kV doc pm an dm ct) ps sp:=by
 refine{len,λA outer s H args us vs Q E hr e0 hb r Hc=>?_};have hl:=len _ _ _ _ Hc;have KX:=e0.mod.QQ.keeps λb o e=>(e0.bs b o e).1;have lim:=e0.mod.nolimit.keeps λb o e=>(e0.bs b o e).1;have acA:∀y∈ps.zip us,scope.names.lookup y.1=some .local\/(scope.names.lookup y.1=some .cell/\((cellsFrom (-17) scope.names []).lookup y.1).isSome=true):=λ⟨n,v⟩ hy=>by
  rcases S.par n (wJ hy).1 with q|q
  ·exact .inl q
  ·exact .inr {q,xh _ _ _ (.inl q)}
 refine codeAny_call_function hr.depth (KX _ _ lk) rfl S.co S.gen rfl (PySem.W.codeRec_of KX Be) (hb _ _ _ _ ?_);refine wpAny_newFunctionEnv_cells S.kind acA λenv he s1 x=>?_;subst he;refine{lim.keeps x.toInCall.keep,codeAny_func ?_};obtain⟨t,ht,hq⟩:=OL A outer s H vs Q E (hr.deeper _) Hc;have I:Inv (Gb CX P w K mg base N qual scope f dm A outer s H E) [] (start N vs) H s1:=Q0 S hr.hd e0 hl r x;refine c8 (ht [] s1 (start N vs) H _ I hq) (λfl s' hs=>?_) λe s' hs=>hs;have fin:∀{σ':St}{H':Hp}{v:V}{u:Value},Inv (Gb CX P w K mg base N qual scope f dm A outer s H E) [] σ' H' s'->RelV v u->Q v H'->CE outer P w H s Q u s':=
  λ{σ' H' v u} J rv q=>{v,H',J.os,J.bare,J.base,J.br,rv,q}
 cases fl with
 |ret u=>
  obtain⟨v,σ',H',J,rv,q⟩:=hs;exact fin J rv q
 |next=>
  obtain⟨σ',H',J,q⟩:=hs;exact fin (v:=V.cE) J rfl q
 |brk=>
  obtain⟨_,_,_,q⟩:=hs;exact False.elim q
 |cont=>
  obtain⟨_,_,_,q⟩:=hs;exact False.elim q
section
variable{X:Cx}{x:Str}{p pos:Pos}{e:Expr}{es:List Expr}{t:TA}{id T:String}{r:Aao->Hp->VK->Prop}
def ZL(r:Aao->Hp->VK->Prop)(t:TA):TE:=λZ H Q=>t Z H λvs H1=>r vs H1 Q
def cW(hc:jv X (.builtin id) r)(hg:Gl X x)(hm:X.mg x=none)(hv:bootBuiltins x=some (.builtin id))(ha:PA X (e::es) t)(hn:x≠"__name__":=by decide)(Bd:(-33)=false:=by decide)
  (he:starEach (e::es) X.env=(false,eval e X.env)::starEach es X.env:=by rfl) (ud:(-37).any (·.1)=false:=by rfl):PE X (-66) (ZL r t):=by
 intro pins s Z H Q I h;refine m8 (qE I hg hm hv ?_ hn Bd);exact PyProof.Rows.callWith_builtin1 (qu (ha pos pins s Z H _ I h) λus s1 vs H1 I1 r1 q1=>hc pins s1 Z H1 vs us Q I1 r1 q1) he ud
def dF(hc:jv X (.type T) r)(hg:Gl X x)(hm:X.mg x=none)(hv:bootBuiltins x=some (.type T))(ha:PA X (e::es) t)(hn:x≠"__name__":=by decide)(Bd:(-33)=false:=by decide)
  (he:starEach (e::es) X.env=(false,eval e X.env)::starEach es X.env:=by rfl) (ud:(-37).any (·.1)=false:=by rfl):PE X (-66) (ZL r t):=by
 intro pins s Z H Q I h;refine m8 (qE I hg hm hv ?_ hn Bd);exact d9 (qu (ha pos pins s Z H _ I h) λus s1 vs H1 I1 r1 q1=>hc pins s1 Z H1 vs us Q I1 r1 q1) he ud
end
end L2
namespace HT
open PySem PyProof.Rows
section
open PySem.SeqAt
open PySem.AutoSeq1 (wpAny_loadPart')
open PySem.MeetsSeq PySem.MeetsSeq2 PySem.MeetsSeq3
end
section
variable{prog:Program}{w:World}{A:Around}{E:Aae}{s:Shared}
def YT(ht:IsTup s.heap t vs.toArray)(hb:IsTup s.heap b ws.toArray)(hv:vs≠[])
  (h1:ws=[]->Q (.ref t) s) (h2:ws≠[]->Q (-12) {s with heap:=s.heap.push {cls:=.type "tuple",data:=.seq (vs++ws).toArray}})
  (hsz:vs.length+ws.length<=sizeLine):wpAny (-5) A (binaryOp .Add (.ref t) (.ref b)) Q E s:=by
 obtain⟨⟨cls,dd,data,sl⟩,ho,hc,n,hd⟩:=id ht;obtain⟨⟨aes,Nl,data2,Vs⟩,zR,ya,n2,hd2⟩:=id hb;simp only at hc hd ya hd2;subst hc hd ya hd2;have e:vs.toArray++ws.toArray=(vs++ws).toArray:=by simp
 by_cases hw:ws=[]
 ·exact Bo ⟨_,ho,rfl⟩ ⟨_,zR,rfl⟩ vg zH pz oN (nV _ _)
   (tuple_addW1 t b vs.toArray ws.toArray n n2 dd Nl sl Vs (by simpa using hv) (by simp[hw])) {ho,zR,h1 hw}
 ·refine Bo ⟨_,ho,rfl⟩ ⟨_,zR,rfl⟩ vg zH pz oN (nV _ _)
   (tuple_addW2 t b vs.toArray ws.toArray n n2 dd Nl sl Vs (by simpa using hv) (by simpa using hw) (by rw[aQ,aQ];exact hsz)) {ho,zR,?_}
  rw[e];exact h2 hw
def dH(n d:Nat):Option Int->Nat
 |none=>d
 |some v=>if v<0 then(v+(n:Int)).toNat else min v.toNat n
def IM(n d:Nat):dH n d none=d:=rfl
def Md(n d k:Nat):dH n d (some (k:Int))=min k n:=by show(if(k:Int)<0 then((k:Int)+(n:Int)).toNat else min (k:Int).toNat n)=min k n;rw[az ∅,cZ]
def ZT(n d:Nat)(hd:d<=n)(o:Option Int):dH n d o<=n:=by
 cases o with
 |none=>exact hd
 |some v=>
  show(if v<0 then(v+(n:Int)).toNat else min v.toNat n)<=n;by_cases hv:v<0
  ·rw[aC hv];lia
  ·rw[az hv];exact Nat.min_le_right _ _
def Nn(v:Int)(n d:Nat):(if v<0 then max (v+(n:Int)) 0 else min v (n:Int))=((dH n d (some v):Nat):Int):=by
 show(if v<0 then max (v+(n:Int)) 0 else min v (n:Int))=(((if v<0 then(v+(n:Int)).toNat else min v.toNat n):Nat):Int);by_cases hv:v<0
 ·simp only[aC hv];lia
 ·simp only[az hv];lia
def Pf(lo hi:Option Int)(n:Nat):Builtin.Slice.sliceAdjust lo hi 1 (n:Int)=(((dH n 0 lo:Nat):Int),((dH n n hi:Nat):Int)):=by
 have h1:¬((1:Int)<0):=by lia
 unfold Builtin.Slice.sliceAdjust;simp only[h1,d6];refine Ed ?_ ?_
 ·cases lo with
  |none=>rfl
  |some v=>exact Nn v n 0
 ·cases hi with
  |none=>rfl
  |some v=>exact Nn v n n
def N4(i j:Nat):Builtin.Slice.slicePlaces (i:Int) (j:Int) 1=j -i:=by
 unfold Builtin.Slice.slicePlaces;have h1:(1:Int)>0:=by lia
 simp only[h1,lE,Int.ediv_one];split<;>lia
def Ey{v:Value}{o:Option Int}{Q:Option Int->Shared->Prop}(p:IsPart v o)(h:Q o s):wpAny (-5) A (Builtin.Slice.slicePartIndex v) Q E s:=by
 cases p with
 |none=>exact slicePart_none h
 |int i t=>exact slicePart_int h
def u6{sl:Addr}{vl vu:Value}{lo hi:Option Int}{n:Nat}{Q:Int×Int×Nat->Shared->Prop}(hs:s.heap.IsSliceOf sl vl vu .none)(pl:IsPart vl lo)(pu:IsPart vu hi)
  (h:Q (((dH n 0 lo:Nat):Int),1,dH n n hi -dH n 0 lo) s):wpAny (-5) A (Builtin.Slice.sliceApplied (.ref sl) (pure (n:Int))) Q E s:=by
 obtain⟨os,Ki,WA,Rt⟩:=id hs;unfold Builtin.Slice.sliceApplied Builtin.Slice.sliceFields;refine af (af (bP Ki Rt (x:=vl) rfl (af (bP Ki Rt (x:=vu) rfl (af (bP Ki Rt (x:=.none) rfl (ao ?_)))))));refine af (slicePart_none ?_);show wpAny _ _ (if((1:Int)==0)=true then _ else _) _ _ s;rw[az (-8)];refine af (Ey pl (af (Ey pu (af (ao ?_)))));show wpAny _ _ (match Builtin.Slice.sliceAdjust lo hi 1 (n:Int)with|(lo,hi)=>pure (lo,(1:Int),Builtin.Slice.slicePlaces lo hi 1)) _ _ s;rw[Pf lo hi n];show wpAny _ _ (pure (((dH n 0 lo:Nat):Int),(1:Int),Builtin.Slice.slicePlaces ((dH n 0 lo:Nat):Int) ((dH n n hi:Nat):Int) 1)) _ _ s;rw[N4];exact ao h
def Tf(xs:Aal)(i k:Nat):((List.range k).filterMap λ(m:Nat)=>xs[((i:Int)+(m:Int)*1).toNat]?).toArray=((xs.toList.drop i).take k).toArray:=by
 have e:(λ(m:Nat)=>xs[((i:Int)+(m:Int)*1).toNat]?)=λm=>xs[i+m]?:=by
  funext m;have:((i:Int)+(m:Int)*1).toNat=i+m:=by lia
  rw[this]
 rw[e];have:=pick_run xs i k;rw[tG]at this;have e2:((λx=>xs[x]?)∘λx=>i+x)=λm=>xs[i+m]?:=rfl;rw[e2]at this;rw[this]
def Ci{t sl:Addr}{items:Aal}{vl vu:Value}{lo hi:Option Int}{Q:Aae}(ht:IsTup s.heap t items)(hs:s.heap.IsSliceOf sl vl vu .none)(pl:IsPart vl lo)(pu:IsPart vu hi)
  (hw:¬(dH items.size 0 lo=0/\dH items.size items.size hi=items.size))
  (h:Q (-12) {s with heap:=s.heap.push {cls:=.type "tuple",data:=.seq (-44).toArray}})
  (hsz:items.size<=sizeLine):wpAny (-5) A (getItem (.ref t) (.ref sl)) Q E s:=by
 have HQ:sizeOk (.seq (-44).toArray):=by show(-44).toArray.size<=sizeLine;rw[aQ,aT,g6,aS];lia
 have hj:dH items.size items.size hi<=items.size:=ZT _ _ (ar _) hi;obtain⟨os,Ki,WA,Rt⟩:=id hs;have hTs:s.TypeIs (.ref sl) "slice":=⟨os,Ki,WA⟩;unfold getItem
 try with_reducible refine bQ ?_
 first|refine af (ao ?_)|skip
 refine af (Cd ht.typeIs (-8) ?_);refine af (wpAny_callSpecial?_slot (name:=Str.ofString "__getitem__") ht.typeIs eC
  (bz eC ht.typeIs Af ?_ (Bz _ _)))
 show wpAny _ _ (Builtin.Tuple.tupleItemsOf (.ref t)>>=_) _ _ s;refine af (tupleItemsOf_ ht ?_);refine af (fZ hTs ?_);rw[aC (-8)];refine af (u6 hs pl pu ?_);have E4:¬((-19)=true):=by intro q;rw[bB,bB]at q;have q1:((dH items.size 0 lo:Nat):Int)=0:=iH q.1.1;have q2:dH items.size items.size hi -dH items.size 0 lo=items.size:=iH q.2;exact hw {by lia,by lia}
 show wpAny _ _ (if(-19)=true then _ else _) _ _ s;rw[az E4,Tf]
 first
  |exact af (m:=Builtin.Tuple.tupleExact _) (cx (ao ⟨_,rfl,ao h⟩) HQ)
  |exact af (m:=Builtin.Tuple.tupleExact _) (cx (af (ao (ao ⟨_,rfl,ao h⟩))) HQ)
  |exact af (af (m:=Builtin.Tuple.tupleExact _) (cx (ao (ao ⟨_,rfl,ao h⟩)) HQ))
  |exact af (af (m:=Builtin.Tuple.tupleExact _) (cx (ao ⟨_,rfl,ao h⟩) HQ))
end
end HT
namespace L2
open PySem PySem.Spec PyProof.Rows
abbrev TO:=St->Hp->(Option Int->Hp->Prop)->Prop
def PO(X:Cx)(e:Option Expr)(t:TO):Prop:=
 ∀(pins:Aac)(s:Shared)(Z:St)(H:Hp)(Q:Option Int->Hp->Prop),Inv X pins Z H s->t Z H Q->
  wpAny (-6) X.A (evalPart e X.env) (λu s'=>∃o H',Inv X pins Z H' s'/\IsPart u o/\Q o H') X.xe s
def LY:TO:=λ_ H Q=>Q none H
inductive ZD(Q:Option Int->Hp->Prop)(x:V)(H1:Hp):Prop
 |mk i (_:x=.int i) (_:Q (some i) H1)
def abX(t:TE):TO:=λZ H Q=>t Z H λx H1=>ZD Q x H1
section
variable{X:Cx}{e:Expr}{te:TE}{lo hi:Option Expr}{tl th:TO}{pos p2:Pos}
def uO:PO X none LY:=by intro pins s Z H Q I h;rw[evalPart_none];exact ao {none,H,I,.none,h}
def uN(h:PE X e te):PO X (some e) (abX te):=by intro pins s Z H Q I hw;rw[evalPart_some];refine df (h pins s Z H _ I hw) λu s1 x H1 I1 r1 q1=>?_;obtain⟨i,rfl,q⟩:=q1;obtain⟨t,rfl⟩:=r1;exact{some i,H1,I1,.int i t,q}
def Nu(X:Cx)(r:V->Option Int->Option Int->Hp->VK->Prop):Prop:=
 ∀(pins:Aac)(s:Shared)(Z:St)(H:Hp)(x:V)(v vl vu:Value)(lo hi:Option Int)(sl:Addr)(Q:VK),Inv X pins Z H s->RelV x v->s.heap.IsSliceOf sl vl vu .none->IsPart vl lo->IsPart vu hi->r x lo hi H Q->
  ∃T id,typeLookup (.type T) "__getitem__"=pure (some (.builtin id))/\s.TypeIs v T/\wpAny (-6) X.A (getItem v (.ref sl)) (EP X pins Z Q) X.xe s
def tSl(r:V->Option Int->Option Int->Hp->VK->Prop)(te:TE)(tl th:TO):TE:=λZ H Q=>te Z H λx H1=>tl Z H1 λl H2=>th Z H2 λu H3=>r x l u H3 Q
def rN(hr:Nu X r)(he:PE X e te)(hl:PO X lo tl)(hu:PO X hi th):PE X (.Subscript e (.Slice lo hi none p2) pos) (tSl r te tl th):=by intro pins s Z H Q I h;refine FD (df (he pins s Z H _ I h) λv s1 x H1 I1 r1 q1=>?_);refine wpAny_Slice (iT (hl pins s1 Z H1 _ I1 q1) λvl s2 adY=>?_);obtain⟨l,H2,I2,pl,q2⟩:=adY;refine iT (hu pins s2 Z H2 _ I2 q2) λvu s3 adX=>?_;obtain⟨u,H3,I3,pu,q3⟩:=adX;rw[evalPart_none];refine ao ?_;have I4:Inv X pins Z H3 {s3 with heap:=s3.heap.push {cls:=.type "slice",data:=.fields #[vl,vu,.none]}}:=I3.kept (t':=s3.toks) λb ob q=>aq _ q;obtain⟨T,id,hT,ht,hg⟩:=hr pins {s3 with heap:=s3.heap.push {cls:=.type "slice",data:=.fields #[vl,vu,.none]}} Z H3 x v vl vu l u s3.heap.objs.size Q I4 r1 (Heap.IsSliceOf.new ..) pl pu q3;show wpAny (-6) X.A (subscriptTail e (.Slice lo hi none p2) v (.ref s3.heap.objs.size)) (EP X pins Z Q) X.xe {s3 with heap:=s3.heap.push {cls:=.type "slice",data:=.fields #[vl,vu,.none]}};exact tail_any (ops:=[.ref s3.heap.objs.size,v]) ht hT hg (-59)
def kA(xs:Aao)(lo hi:Option Int):Aao:=(xs.drop (HT.dH xs.length 0 lo)).take (HT.dH xs.length xs.length hi -HT.dH xs.length 0 lo)
def De(xs:Aao)(lo hi:Option Int):(kA xs lo hi).length<=xs.length:=by unfold kA;rw[aT,g6];lia
def ac7(K:Frag):V->Option Int->Option Int->Hp->VK->Prop:=λx lo hi H Q=>∃a xs,x=.ref a/\bF K H a xs/\
 ¬(HT.dH xs.length 0 lo=0/\HT.dH xs.length xs.length hi=xs.length)/\∀p,H p=none->Q (.ref p) (upd H p (.tup (kA xs lo hi)))
def ZP:Nu X (ac7 X.K):=by
 intro pins s Z H x v vl vu lo hi sl Q I rx hs pl pu h;obtain⟨a,xs,rfl,hx,hw,q⟩:=h;cases rx;obtain⟨aY,r,ht,hz⟩:=I.tuple hx;have hlen:aY.toArray.size=xs.length:=by rw[aQ];exact r.length.symm
 refine{"tuple",_,eC.lookup,ht.typeIs,?_};refine HT.Ci ht hs pl pu (by rw[hlen];exact hw) ?_ (by rw[hlen];exact hz);rw[hlen];refine{.ref s.heap.objs.size,_,I.laid (t':=s.toks) (o:=.tup (kA xs lo hi)) (λb ob q=>aq _ q) (ar _) ?_,rfl,q _ (-72)};exact{aD (De xs lo hi) hz,_,(r.drop (HT.dH xs.length 0 lo)).take (HT.dH xs.length xs.length hi -HT.dH xs.length 0 lo),BM _ _,_,aF _ rfl,rfl}
def Vals.xN(r:Vals xs us):us=[]↔xs=[]:=by
 cases r with
 |nil=>simp
 |cons _ _=>simp
def J3(n:Nat)(i:Int):Option Nat:=if 0<=i then(if i<n then some i.toNat else none)else if -(n:Int)<=i then some (i+n).toNat else none
def wH(xs:List α)(i:Int):Option α:=(J3 xs.length i).bind λj=>xs[j]?
def MM(h:J3 n i=some j):seqIndex? i n=some j/\j<n/\-(n:Int)<=i/\i<n:=by
 unfold J3 at h;by_cases h0:0<=i
 ·rw[aC h0]at h;by_cases h1:i<n
  ·rw[aC h1]at h;have e:=bN h;exact{by rw[CJ h0 h1,e],by lia,by lia,h1}
  ·rw[az h1]at h;cases h
 ·rw[az h0]at h;by_cases h1:-(n:Int)<=i
  ·rw[aC h1]at h;have e:=bN h;exact{by rw[Aw ∅ h1,e],by lia,h1,by lia}
  ·rw[az h1]at h;cases h
def Gk(h:wH xs i=some v):∃j,seqIndex? i xs.length=some j/\xs[j]?=some v/\j<xs.length/\-(xs.length:Int)<=i/\i<xs.length:=by
 unfold wH at h;cases e:J3 xs.length i with
 |none=>rw[e]at h;cases h
 |some j=>
  rw[e]at h;obtain⟨h1,h2,h3,h4⟩:=MM e;exact⟨j,h1,h,h2,h3,h4⟩
def kF{xs:List α}{j:Nat}{v:α}(h:xs[j]?=some v):wH xs (j:Int)=some v:=by
 have hj:=(ax.mp h).1;have e:J3 xs.length (j:Int)=some j:=by unfold J3;rw[aC ∅,aC ∅];simp
 unfold wH;rw[e];exact h
def Y1(b:Expr):Prop:=∀o i,subscripted b false o i=operate [o,i] (getItem o i)
end
def Nv(X:Cx)(r:R2):Prop:=
 ∀(value slice:Expr)(pins:Aac)(s:Shared)(Z:St)(H:Hp)(x y:V)(v u:Value)(Q:VK),Inv X pins Z H s->RelV x v->RelV y u->r x y H Q->
  subscripted slice false v u=operate [v,u] (getItem v u)->wpAny (-6) X.A (subscriptTail value slice v u) (EP X pins Z Q) X.xe s
def Se(X:Cx)(id:String)(r:V->Aao->Hp->VK->Prop):Prop:=
 ∀(pins:Aac)(s:Shared)(Z:St)(H:Hp)(x:V)(xs:Aao)(v:Value)(us:Aag)(Q:VK),Inv X pins Z H s->RelV x v->Vals xs us->r x xs H Q->
  wpAny (-6) X.A (call (.builtin id) (v::us)) (EP X pins Z Q) X.xe s
section
variable{X:Cx}{a b:Expr}{ta tb:TE}{pos:Pos}
def dq(hr:Nv X r)(ha:PE X a ta)(hb:PE X b tb)(hs:Y1 b):PE X (.Subscript a b pos) (Vi r ta tb):=by intro pins s Z H Q I h;exact FD (UX ha hb I h λv u s2 x y H2 I2 rx ry q=>hr a b pins s2 Z H2 x y v u Q I2 rx ry q (hs _ _))
inductive Z6(K:Frag)(x:V)(y:V)(H:Hp)(Q:VK):Prop
 |mk p xs i v (_:x=.ref p) (_:y=.int i) (_:bp K H p xs) (_:wH xs i=some v) (_:Q v H)
inductive Z5(K:Frag)(x:V)(y:V)(H:Hp)(Q:VK):Prop
 |mk p xs i v (_:x=.ref p) (_:y=.int i) (_:bF K H p xs) (_:wH xs i=some v) (_:Q v H)
inductive ada(x:V)(y:V)(H:Hp)(Q:VK):Prop
 |mk z i c (_:x=.str z) (_:y=.int i) (_:z.length<=sizeLine) (_:wH z.cps.toList i=some c) (_:Q (.str ⟨#[c]⟩) H)
def hJ:Nv X (Z6 X.K):=by
 intro value slice pins s Z H x y v u Q I rx ry h hs;obtain⟨p,xs,i,z,rfl,rfl,hq,he,q⟩:=h;cases rx;obtain⟨t,rfl⟩:=ry;obtain⟨aY,r,pl,hz⟩:=I.list hq;obtain⟨j,h1,h2,h3,h4,h5⟩:=Gk he;obtain⟨w,ew,pb⟩:=r.get h2;have hl:=r.length;have hn:=xP;have fin:EP X pins Z Q w s:=⟨z,H,I,pb,q⟩;by_cases h0:0<=i
 ·have hj:i.toNat=j:=by rw[CJ h0 h5]at h1;exact bN h1
  exact item_listR pl.isList h0 ∅ (by rw[hj];simpa using ew) fin hs
 ·have hj:(i+(aY.toArray.size:Int)).toNat=j:=by rw[Aw ∅ h4]at h1;rw[aQ,<-hl];exact bN h1
  exact wR pl.isList.typeIs slot_list_getitem.lookup
   (wpAny_getItem_list_neg pl.isList ∅ (by rw[aQ]<;>lia) ∅ (by rw[hj];simpa using ew) ⟨rfl,fin⟩) hs
def lD:Nv X (Z5 X.K):=by
 intro value slice pins s Z H x y v u Q I rx ry h hs;obtain⟨p,xs,i,z,rfl,rfl,hq,he,q⟩:=h;cases rx;obtain⟨t,rfl⟩:=ry;obtain⟨aY,r,pl,hz⟩:=I.tuple hq;obtain⟨j,h1,h2,h3,h4,h5⟩:=Gk he;obtain⟨w,ew,pb⟩:=r.get h2;have hl:=r.length;have hn:=xP;have fin:EP X pins Z Q w s:=⟨z,H,I,pb,q⟩;exact wR pl.typeIs slot_tuple_getitem.lookup
  (getItem_tuple pl ∅ ∅ (by rw[aQ,<-hl];exact h1) (by simpa using ew) ⟨rfl,fin⟩) hs
def QX:Nv X ada:=by
 intro value slice pins s Z H x y v u Q I rx ry h hs;obtain⟨z,i,c,rfl,rfl,hz,he,q⟩:=h;obtain⟨t,rfl⟩:=rx;obtain⟨t',rfl⟩:=ry;obtain⟨j,h1,h2,h3,h4,h5⟩:=Gk he;have hl:z.cps.toList.length=z.length:=by simp[Str.length]
 rw[hl]at h1 h4 h5;have hn:=xP;exact tail_any (oj s z t) slot_str_getitem.lookup (getItem_str (by
  have e1:decide (i< -(2^63:Int))=false:=bI ∅;have e2:decide (i≥2^63)=false:=bI ∅;rw[e1,e2,Ac]) (by rw[h1];simpa using h2) {.str ⟨#[c]⟩,H,I.tok _,⟨_,rfl⟩,q}) hs
def Oh(aY:Aag)(n j:Nat)(u:Value):Obj.mapSeq (·.setIfInBounds j u) {cls:=.type "list",data:=.seq aY.toArray n}={cls:=.type "list",data:=.seq (aY.set j u).toArray n}:=by simp[Obj.mapSeq]
def Inv.lst(I:Inv X pins Z H s)(h:H p=some (.lst xs)):
  ∃(aY:Aag)(n:Nat),Vals xs aY/\s.heap.get? p=some {cls:=.type "list",data:=.seq aY.toArray n}/\xs.length<=sizeLine:=by
 obtain⟨z,aY,n,r,e⟩:=I.br p _ h;exact⟨aY,n,r,e,z⟩
def Inv.aaB{aY its':Aag}(I:Inv X pins Z H s)(h:H p=some (.lst xs))
  (ho:s.heap.get? p=some {cls:=.type "list",data:=.seq aY.toArray n}) (hf:f {cls:=.type "list",data:=.seq aY.toArray n}={cls:=.type "list",data:=.seq its'.toArray n'}) (r:Vals ys its') (hz:ys.length<=sizeLine) (t:Nat):
  Inv X pins Z (upd H p (-39)) {s with heap:=s.heap.update p f,toks:=t}:=by
 have e:(s.heap.update p f).get? p=some {cls:=.type "list",data:=.seq its'.toArray n'}:=by rw[cH f ho (by rw[hf]<;>rfl),hf]
 refine I.write (by rw[h];trivial) (.inl rfl) (λb u hb q=>(bO _ _ (cb hb)).trans q) ⟨_,e⟩ ?_;exact⟨hz,its',n',r,e⟩
inductive ace(o:V)(i:V)(v:V)(H:Hp)(Q:Hp->Prop):Prop
 |mk p xs k j (_:o=.ref p) (_:i=.int k) (_:H p=some (.lst xs)) (_:J3 xs.length k=some j) (_:Q (upd H p (.lst (xs.set j v))))
def set_list:abG X ace:=by
 intro pins s Z H o i v ov iv u Q I ro ri rv h;obtain⟨p,xs,k,j,rfl,rfl,hp,hj,q⟩:=h;cases ro;obtain⟨t,rfl⟩:=ri;obtain⟨aY,n,r,ho,hz⟩:=I.lst hp;obtain⟨h1,h2,h3,h4⟩:=MM hj;have hl:=r.length;have hn:=xP;have I':Inv X pins Z (upd H p (.lst (xs.set j v))) {s with heap:=s.heap.update p (Obj.mapSeq (·.setIfInBounds j u))}:=
  I.aaB hp ho (Oh aY n j u) (r.set rv j) (by rw[List.length_set];exact hz) s.toks
 by_cases h0:0<=k
 ·have hk:k.toNat=j:=by rw[CJ h0 h4]at h1;exact bN h1
  exact PySem.W.ki_setAt ho h0 ∅ (by rw[aQ,<-hl];exact h4) (by rw[hk];exact⟨_,I',q⟩)
 ·have hk:(k+(aY.toArray.size:Int)).toNat=j:=by rw[Aw ∅ h3]at h1;rw[aQ,<-hl];exact bN h1
  exact PySem.W.ki_setBack ho ∅ (by rw[aQ,<-hl];exact h3) ∅ (by rw[hk];exact⟨_,I',q⟩)
def II(lo hi:Option Int)(n:Nat):(sliceBounds lo hi none n).1=((HT.dH n 0 lo:Nat):Int)/\(sliceBounds lo hi none n).2.1=((HT.dH n n hi:Nat):Int)/\(sliceBounds lo hi none n).2.2=1:=by
 refine{?_,?_,rfl}
 ·cases lo with
  |none=>simp[sliceBounds,HT.dH]
  |some i=>
   simp only[sliceBounds,HT.dH,Option.getD_none,show(1:Int)>0 by decide,lE];by_cases h:i<0
   ·simp only[h,lE]<;>lia
   ·simp only[h,d6]<;>lia
 ·cases hi with
  |none=>simp[sliceBounds,HT.dH]
  |some i=>
   simp only[sliceBounds,HT.dH,Option.getD_none,show(1:Int)>0 by decide,lE];by_cases h:i<0
   ·simp only[h,lE]<;>lia
   ·simp only[h,d6]<;>lia
def HG(aY:Aag)(lo hi:Option Int):slicePick aY.toArray lo hi none=((aY.drop (HT.dH aY.length 0 lo)).take (HT.dH aY.length aY.length hi -HT.dH aY.length 0 lo)).toArray:=by obtain⟨h1,h2,h3⟩:=II lo hi aY.toArray.size;unfold slicePick;rw[h1,h2,h3];simp only[sliceRange_one,pick_run,aQ]<;>rfl
inductive Z1(K:Frag)(x:V)(lo:Option Int)(hi:Option Int)(H:Hp)(Q:VK):Prop
 |mk a xs (_:x=.ref a) (_:bp K H a xs) (_:∀p,H p=none->Q (.ref p) (upd H p (.lst (kA xs lo hi))))
def FL:Nu X (Z1 X.K):=by intro pins s Z H x v vl vu lo hi sl Q I rx hs pl pu h;obtain⟨a,xs,rfl,hx,q⟩:=h;cases rx;obtain⟨aY,r,ht,hz⟩:=I.list hx;have hlen:=r.length;refine{"list",_,slot_list_getitem.lookup,ht.isList.typeIs,?_};refine wpAny_getItem_list_slice ht.isList hs pl pu .none (-9) ?_ (by rw[aQ]<;>lia);rw[HG,<-hlen];refine{.ref s.heap.objs.size,_,I.laid (λb ob q=>aq _ q) (ar _) ?_,rfl,q _ (-72)};exact{aD (De xs lo hi) hz,_,0,(r.drop (HT.dH xs.length 0 lo)).take (HT.dH xs.length xs.length hi -HT.dH xs.length 0 lo),aF _ rfl}
def qN:V->Bool
 | .cE=>true
 | .bl _=>true
 | .int _=>true
 | .str _=>true
 |_=>false
def Hq:V->V->Bool
 | .cE,.cE=>true
 | .bl a,.bl b=>a==b
 | .bl a,.int b=>(if a then 1 else 0)==b
 | .int a,.bl b=>a==(if b then 1 else 0)
 | .int a,.int b=>a==b
 | .str a,.str b=>a==b
 |_,_=>false
def abv(ry:RelV y u)(rx:RelV x v)(fy:qN y=true)(fx:qN x=true):SeqAt.EqAt A s u v (Hq y x):=by
 cases y with
 |cE=>
  cases ry;cases x with
  |cE=>cases rx;exact SeqAt.EqAt.same _
  |bl b=>cases rx;exact SeqAt.EqAt.none_bool b
  |int b=>obtain⟨t,rfl⟩:=rx;exact SeqAt.EqAt.none_int b t
  |str b=>obtain⟨t,rfl⟩:=rx;exact SeqAt.EqAt.none_str b t
  |_=>exact absurd (show false=true from fx) aW
 |bl a=>
  cases ry;cases x with
  |cE=>cases rx;exact SeqAt.EqAt.bool_none a
  |bl b=>cases rx;exact SeqAt.EqAt.bool_bool a b
  |int b=>obtain⟨t,rfl⟩:=rx;exact SeqAt.EqAt.bool_int a b t
  |str b=>obtain⟨t,rfl⟩:=rx;exact SeqAt.EqAt.bool_str a b t
  |_=>exact absurd (show false=true from fx) aW
 |int a=>
  obtain⟨t',rfl⟩:=ry;cases x with
  |cE=>cases rx;exact SeqAt.EqAt.int_none a t'
  |bl b=>cases rx;exact SeqAt.EqAt.int_bool a t' b
  |int b=>obtain⟨t,rfl⟩:=rx;exact SeqAt.EqAt.int_int a t' b t
  |str b=>obtain⟨t,rfl⟩:=rx;exact BD a t' b t
  |_=>exact absurd (show false=true from fx) aW
 |str a=>
  obtain⟨t',rfl⟩:=ry;cases x with
  |cE=>cases rx;exact SeqAt.EqAt.str_none a t'
  |bl b=>cases rx;exact SeqAt.EqAt.str_bool a t' b
  |int b=>obtain⟨t,rfl⟩:=rx;exact BC a t' b t
  |str b=>obtain⟨t,rfl⟩:=rx;exact SeqAt.EqAt.str_str a t' b t
  |_=>exact absurd (show false=true from fx) aW
 |_=>exact absurd (show false=true from fy) aW
def vF(x:V)(u:Value):Bool:=match u with
 | .none=>Hq .cE x
 | .bool b=>Hq (.bl b) x
 | .int i _=>Hq (.int i) x
 | .str z _=>Hq (.str z) x
 |_=>false
def RO(r:RelV y u)(f:qN y=true):vF x u=Hq y x:=by
 cases y with
 |cE=>cases r;rfl
 |bl b=>cases r;rfl
 |int i=>obtain⟨t,rfl⟩:=r;rfl
 |str z=>obtain⟨t,rfl⟩:=r;rfl
 |_=>exact absurd (show false=true from f) aW
theorem yj:∀{xs:Aao}{us:Aag},Vals xs us->xs.all qN=true->us.any (vF x)=xs.any λy=>Hq y x
 |_,_,.nil,_=>rfl
 |y::xs,u::us,.cons r t,f=>by rw[Ab,bB]at f;rw[mF,mF,RO r f.1,yj t f.2]
theorem vm(rx:RelV x v)(fx:qN x=true):∀{xs:Aao}{us:Aag},Vals xs us->xs.all qN=true->∀u∈us,SeqAt.EqAt A s u v (vF x u)
 |_,_,.nil,_=>λu hu=>by cases hu
 |y::xs,u::us,.cons r t,f=>λu' hu=>by
  rw[Ab,bB]at f;rcases aG.mp hu with rfl|hu
  ·rw[RO r f.1];exact abv r rx f.1 fx
  ·exact vm rx fx t f.2 u' hu
def G5(x:V)(xs:Aao):Bool:=xs.any λy=>Hq y x
inductive Z7(K:Frag)(neg:Bool)(x:V)(y:V)(H:Hp)(Q:VK):Prop
 |mk p xs (_:y=.ref p) (_:(bp K H p xs\/bF K H p xs)) (_:qN x=true) (_:xs.all qN=true) (_:Q (.bl (if neg then !G5 x xs else G5 x xs)) H)
def Qo:jh X (compareOp .In) (Z7 X.K false):=by
 intro pins s Z H x y v u Q I rx ry h;obtain⟨p,xs,rfl,hq,fx,fs,q⟩:=h;cases ry;rcases hq with hq|hq
 ·obtain⟨aY,r,pl,hz⟩:=I.list hq;refine SeqAt.in_listAt (vF x) pl.isList (λw hw=>vm rx fx r fs w (by simpa using hw)) {.bl _,H,I,rfl,?_};rw[show aY.toArray.any (vF x)=aY.any (vF x) by simp,yj r fs];exact q
 ·obtain⟨aY,r,pl,hz⟩:=I.tuple hq;refine SeqAt.in_tupleAt (vF x) pl (λw hw=>vm rx fx r fs w (by simpa using hw)) {.bl _,H,I,rfl,?_};rw[show aY.toArray.any (vF x)=aY.any (vF x) by simp,yj r fs];exact q
def AO:jh X (compareOp .NotIn) (Z7 X.K true):=by
 intro pins s Z H x y v u Q I rx ry h;obtain⟨p,xs,rfl,hq,fx,fs,q⟩:=h;cases ry;rcases hq with hq|hq
 ·obtain⟨aY,r,pl,hz⟩:=I.list hq;refine SeqAt.notIn_listAt (vF x) pl.isList (λw hw=>vm rx fx r fs w (by simpa using hw)) {.bl _,H,I,rfl,?_};rw[show aY.toArray.any (vF x)=aY.any (vF x) by simp,yj r fs];exact q
 ·obtain⟨aY,r,pl,hz⟩:=I.tuple hq;refine SeqAt.notIn_tupleAt (vF x) pl (λw hw=>vm rx fx r fs w (by simpa using hw)) {.bl _,H,I,rfl,?_};rw[show aY.toArray.any (vF x)=aY.any (vF x) by simp,yj r fs];exact q
def vH:jv X (.type "list") (λxs H Q=>∃p ys,xs=[.ref p]/\(bp X.K H p ys\/bF X.K H p ys)/\∀l,H l=none->Q (.ref l) (upd H l (-39))):=by
 intro pins s Z H xs us Q I r h;obtain⟨p,ys,rfl,hq,q⟩:=h;obtain⟨u,rfl,rx⟩:=lP r;cases rx;have fin:∀(aY:Aag),Vals ys aY->ys.length<=sizeLine->∀(h':Heap)(c':Nat),(∀b o',s.heap.get? b=some o'->h'.get? b=some o')->
   h'.get? s.heap.objs.size=some {cls:=.type "list",dict:=none,data:=.seq aY.toArray c',slots:=#[]}->EP X pins Z Q (-12) {s with heap:=h'}:=λaY r' hz h' c' kp e=>
  {.ref s.heap.objs.size,_,I.laid kp (ar _) (show dG X.prog X.w _ h' _ (-39)from⟨hz,aY,c',r',e⟩),rfl,q _ (-72)}
 rcases hq with hq|hq
 ·obtain⟨aY,r',pl,hz⟩:=I.list hq;have hlen:=r'.length;obtain⟨o,ho,hc,n,hd⟩:=pl.isList;exact call_list_seq p (.inl rfl) ho hc hd (λh' c' kp e=>fin aY r' hz h' c' kp e) (by simp only[aQ]<;>lia)
 ·obtain⟨aY,r',pl,hz⟩:=I.tuple hq;have hlen:=r'.length;obtain⟨o,ho,hc,n,hd⟩:=pl;exact call_list_seq p (.inr rfl) ho hc hd (λh' c' kp e=>fin aY r' hz h' c' kp e) (by simp only[aQ]<;>lia)
def fE:jv X (.type "tuple") (λxs H Q=>∃p ys,xs=[.ref p]/\((bp X.K H p ys/\∀l,H l=none->Q (.ref l) (upd H l (.tup ys)))\/(bF X.K H p ys/\Q (.ref p) H))):=by
 intro pins s Z H xs us Q I r h;obtain⟨p,ys,rfl,h⟩:=h;obtain⟨u,rfl,rx⟩:=lP r;cases rx;rcases h with⟨hq,q⟩|⟨hq,q⟩
 ·obtain⟨aY,r',pl,hz⟩:=I.list hq;have hlen:=r'.length;refine call_tuple_list pl.isList (λh' kp=>?_) (by simp only[aQ]<;>lia);have I1:=I.kept (t':=s.toks) kp;have I2:Inv X pins Z (upd H h'.objs.size (.tup ys)) {s with heap:=h'.push {cls:=.type "tuple",data:=.seq aY.toArray}}:=
   I1.laid (λb o e=>aq _ e) (ar _) (show dG X.prog X.w _ _ _ (.tup ys)from{hz,aY,r',BM _ _,_,aF _ rfl,rfl})
  exact{.ref h'.objs.size,_,I2,rfl,q _ (I1.br.fresh (ar _))}
 ·obtain⟨aY,r',pl,hz⟩:=I.tuple hq;exact call_tuple_same pl {.ref p,H,I,rfl,q}
noncomputable def tyV(K:Frag)(T:String)(x:V)(H:Hp):Prop:=match x with
 | .str _=>T="str"
 | .int _=>T="int"
 | .ref p=>(T="list"/\∃xs,bp K H p xs)\/(T="tuple"/\((∃xs,H p=some (.tup xs))\/∃o,K.lookup p=some o/\o.cls=.type "tuple"/\o.dict=none))\/
   (T="dict"/\((∃kvs,H p=some (.dK kvs))\/∃kvs,H p=some (.dT kvs)))\/(T="set"/\∃S n,H p=some (.set S n))
 |_=>False
def Zm(I:Inv X pins Z H s)(r:RelV x v)(ty:tyV X.K T x H):
  s.TypeIs v T/\∀a,v=.ref a->∃ob,s.heap.get? a=some ob/\ob.dict=none:=by
 cases x with
 |str z=>
  obtain⟨t,rfl⟩:=r;cases(show T="str"from ty);exact{oj s z t,λ_ e=>nomatch e}
 |int i=>
  obtain⟨t,rfl⟩:=r;cases(show T="int"from ty);exact{typeIs_int s i t,λ_ e=>nomatch e}
 |ref p=>
  cases r;rcases ty with⟨rfl,xs,hq⟩|⟨rfl,⟨xs,hq⟩|⟨o,hk,hc,hd⟩⟩|⟨rfl,hk⟩|⟨rfl,S,n,hk⟩
  ·obtain⟨aY,_,pl,_⟩:=I.list hq;refine{pl.isList.typeIs,λa e=>?_};cases e;obtain⟨o,n,e,c,hd,_⟩:=pl;exact⟨o,e,hd⟩
  ·obtain⟨_,_,_,⟨o1,e1,c1,_⟩,o,e,hd⟩:=I.br p _ hq;refine{⟨o1,e1,c1⟩,λa e2=>?_};cases e2;exact⟨o,e,hd⟩
  ·refine{{o,I.mU p o hk,hc},λa e=>?_};cases e;exact{o,I.mU _ o hk,hd}
  ·have z:∃o,s.heap.get? p=some o/\o.ExactDict:=by
    rcases hk with⟨kvs,hk⟩|⟨kvs,hk⟩
    ·obtain⟨_,_,_,_,o,_,_,e,ex,_⟩:=I.br p _ hk;exact⟨o,e,ex⟩
    ·obtain⟨_,_,_,_,o,_,_,e,ex,_⟩:=I.br p _ hk;exact⟨o,e,ex⟩
   obtain⟨o,e,ex⟩:=z;refine{{o,e,ex.1},λa e2=>?_};cases e2;exact{o,e,ex.2.1}
  ·obtain⟨o,_,_,_,e,ex,_⟩:=I.br p _ hk;refine{{o,e,ex.1},λa e2=>?_};cases e2;exact{o,e,ex.2.1}
 |_=>exact False.elim ty
def tBM(K:Frag)(T:String)(r:V->Aao->Hp->VK->Prop)(to:TE)(t:TA):TE:=λZ H Q=>to Z H λx H1=>tyV K T x H1/\t Z H1 λxs H2=>r x xs H2 Q
variable{o e:Expr}{es:List Expr}{to:TE}{t:TA}{name:Str}{apos fD:Pos}{T id:String}{r:V->Aao->Hp->VK->Prop}
def ox(pa:PlainAttrs T)(slot:Slot T name id)(hty:typeOf (.builtin id)=pure (.type "method_descriptor"))(hm:Se X id r)(ho:PE X o to)(ha:PA X (e::es) t)
  (Fc:attributeBase o name X.env (eval o X.env)=eval o X.env:=by rfl)
  (Uq:((backTo fD (starEach (e::es) X.env)).all (λx=>!x.1)&&(backToKw fD (keywordEach [] X.env)).all (λx=>x.1.isSome)
   &&decide ((e::es).length+([]:List Keyword).length+(if([]:List Keyword).isEmpty then 0 else 1)<30))=true:=by rfl)
  (E6:(apos.endLine==fD.line)=true:=by rfl) (hs:starEach (e::es) X.env=(false,eval e X.env)::starEach es X.env:=by rfl) (Kh:(backTo fD (starEach es X.env)).any (·.1)=false:=by rfl):
  PE X (.Call (.Attribute o name apos) (e::es) [] fD) (tBM X.K T r to t):=by
 intro pins s Z H Q I h;refine wpAny_Call_method_late Fc Uq E6 rfl (df (ho pins s Z H _ I h) λv s1 x H1 I1 r1 adW=>?_);obtain⟨ty,q1⟩:=adW;obtain⟨h1,h2⟩:=Zm I1 r1 ty;refine{T,id,pa,slot,hty,h1,h2,?_};have hA:=ha fD pins s1 Z H1 _ I1 q1;rw[hs]at hA⊢;refine iX (by show(false||(backTo fD (starEach es X.env)).any (·.1))=false;rw[Kh]<;>rfl) (l9 ?_);exact iT hA λus s2 ⟨vs,H2,I2,r2,q2⟩=>hm pins s2 Z H2 x vs v us Q I2 r1 r2 q2
end
def Sf(X:Cx)(id:String)(r:V->Aao->Hp->VK->Prop):Prop:=
 ∀(pins:Aac)(s:Shared)(Z:St)(H:Hp)(x:V)(xs:Aao)(v:Value)(us:Aag)(Q:VK),Inv X pins Z H s->RelV x v->Vals xs us->r x xs H Q->
  wpAny (-6) X.A (call (.builtin id) (v::us)) (EP X pins Z Q) X.xe s
theorem Vals.one:∀{x:V}{us:Aag},Vals [x] us->∃u,us=[u]/\RelV x u
 |_,_,.cons r .nil=>⟨_,rfl,r⟩
theorem Vals.eraseIdx:∀{xs:Aao}{us:Aag}(i:Nat),Vals xs us->Vals (xs.eraseIdx i) (us.eraseIdx i)
 |_,_,_,.nil=>.nil
 |_,_,0,.cons _ t=>t
 |_,_,i+1,.cons r t=>.cons r (Vals.eraseIdx i t)
theorem G1{α:Type}:∀(l:List α)(i:Nat),(l.eraseIdx i).length<=l.length
 |[],_=>ar _
 |_::_,0=>fI _
 |_::r,i+1=>lW (G1 r i)
section
variable{X:Cx}{pins:Aac}{Z:St}{H:Hp}{s:Shared}{l:Addr}{xs ys:Aao}
def Inv.Om{aY its':Aag}(I:Inv X pins Z H s)(hH:H l=some (.lst xs))
  (e:s.heap.get? l=some {cls:=.type "list",data:=.seq aY.toArray n}) (hf:f aY.toArray=its'.toArray) (hv:Vals ys its') (hz:ys.length<=sizeLine):
  Inv X pins Z (upd H l (-39)) {s with heap:=s.heap.update l (Obj.mapSeq f),toks:=t'}:=by
 have q:=PySem.IsL.update e f;rw[hf]at q;refine I.write (by rw[hH];exact trivial) (.inl rfl) (λb' u hb hu=>(bO s.heap (Obj.mapSeq f) (cb hb)).trans hu) ⟨_,q⟩ ?_;exact⟨hz,its',_,hv,q⟩
def Inv.ado(I:Inv X pins Z H s)(hv:Vals ys aY)(hz:ys.length<=sizeLine):
  Inv X pins Z (upd H s.heap.objs.size (-39)) {s with heap:=s.heap.push {cls:=.type "list",data:=.seq aY.toArray},toks:=t'}:=
 I.laid (λ_ _ q=>aq _ q) (ar _) {hz,aY,0,hv,aF _ rfl}
def Inv.fresh(I:Inv X pins Z H s):H s.heap.objs.size=none:=I.br.fresh (ar _)
def Inv.DH(I:Inv X pins Z H s)(hH:H l=some (.lst xs)):xs.length<=sizeLine/\∃(aY:Aag)(n:Nat),Vals xs aY/\xs.length=aY.length/\s.heap.get? l=some {cls:=.type "list",data:=.seq aY.toArray n}:=by obtain⟨z,aY,n,r,e⟩:=I.br l _ hH;exact{z,aY,n,r,r.length,e}
def JJ(h:n<=sizeLine):Builtin.List.listTooLong n=false:=by unfold Builtin.List.listTooLong;exact bI ∅
end
section
variable{X:Cx}
inductive XO(x:V)(vs:Aao)(H:Hp)(Q:VK):Prop
 |mk l xs y (_:x=.ref l) (_:vs=[y]) (_:H l=some (.lst xs)) (_:xs.length<sizeLine) (_:Q .cE (upd H l (.lst (xs++[y]))))
def qe:Sf X "list.append" XO:=by intro pins s Z H x vs v us Q I rx rv h;obtain⟨l,xs,y,rfl,rfl,hH,hz,q⟩:=h;cases rx;obtain⟨u,rfl,ru⟩:=rv.one;obtain⟨z,aY,n,r,hl,e⟩:=I.DH hH;refine uI BO ⟨_,e,rfl⟩ Al (zB _ _) (Cp l aY.toArray n u (by rw[aQ];lia)) {e,?_};refine{.cE,_,I.Om hH e (-9) (r.append (.cons ru .nil)) ?_,rfl,q};rw[aO,dA];lia
inductive XN(x:V)(vs:Aao)(H:Hp)(Q:VK):Prop
 |mk l b xs zs (_:x=.ref l) (_:vs=[.ref b]) (_:H l=some (.lst xs)) (_:H b=some (.lst zs)) (_:xs.length+zs.length<=sizeLine) (_:Q .cE (upd H l (.lst (xs++zs))))
def GZ:Sf X "list.extend" XN:=by
 intro pins s Z H x vs v us Q I rx rv h;obtain⟨l,b,xs,zs,rfl,rfl,hH,hB,hz,q⟩:=h;cases rx;obtain⟨u,rfl,ru⟩:=rv.one;cases ru;obtain⟨z,aY,n,r,hl,e⟩:=I.DH hH;obtain⟨z2,qH,n2,r2,jF,e2⟩:=I.DH hB;have hsz:aY.toArray.size+qH.toArray.size<=sizeLine:=by rw[aQ,aQ];lia
 have OF:¬(!aY.toArray.isEmpty&&Builtin.List.listTooLong (aY.toArray.size+qH.toArray.size))=true:=by rw[JJ hsz,sf];exact aW
 refine uI BN ⟨_,e,rfl⟩ Ak (zA _ _)
  (AutoSeq1.list_extend_list_list_0 l aY.toArray n b qH.toArray n2 OF (by rw[aQ];lia) ∅) {e,e2,?_}
 refine{.cE,_,I.Om hH e (-9) (r.append r2) ?_,rfl,q};rw[aO];lia
inductive Z3(x:V)(vs:Aao)(H:Hp)(Q:VK):Prop
 |mk l xs i k y (_:x=.ref l) (_:vs=[.int i]) (_:H l=some (.lst xs)) (_:-(2^63)<=i) (_:i<2^63) (_:seqIndex? i xs.length=some k) (_:xs[k]?=some y) (_:Q y (upd H l (.lst (xs.eraseIdx k))))
def TM:Sf X "list.pop" Z3:=by
 intro pins s Z H x vs v us Q I rx rv h;obtain⟨l,xs,i,k,y,rfl,rfl,hH,h1,h2,hk,hy,q⟩:=h;cases rx;obtain⟨u,rfl,ru⟩:=rv.one;obtain⟨t,rfl⟩:=ru;obtain⟨z,aY,n,r,hl,e⟩:=I.DH hH;obtain⟨w,hw,pb⟩:=r.get hy;refine uI F.slot_list_pop ⟨_,e,rfl⟩ F.entry_list_pop (F.args_list_pop_2 _ _)
  (MeetsSeq.list_pop_at l aY.toArray n i t k w (fitsIndex_both h1 h2) (by rw[aQ,<-hl];exact hk) (by rw[<-bJ];exact hw) (by rw[aQ];lia)) {e,?_}
 refine{y,_,I.Om hH e ?_ (r.eraseIdx k) ?_,pb,q}
 ·show aY.toArray.eraseIdxIfInBounds k=(aY.eraseIdx k).toArray;rw[List.eraseIdxIfInBounds_toArray]
 ·have:=G1 xs k;lia
inductive adf(x:V)(y:V)(H:Hp)(Q:VK):Prop
 |mk l b xs zs (_:x=.ref l) (_:y=.ref b) (_:H l=some (.lst xs)) (_:H b=some (.lst zs)) (_:xs.length+zs.length<=sizeLine) (_:∀p,H p=none->Q (.ref p) (upd H p (.lst (xs++zs))))
def aar:jh X (binaryOp .Add) adf:=by
 intro pins s Z H x y v u Q I rx ry h;obtain⟨l,b,xs,zs,rfl,rfl,hH,hB,hz,q⟩:=h;cases rx;cases ry;obtain⟨z,aY,n,r,hl,e⟩:=I.DH hH;obtain⟨z2,qH,n2,r2,jF,e2⟩:=I.DH hB;refine PySem.P.add_list e e2 ?_ (by rw[aQ,aQ];lia);have ea:aY.toArray++qH.toArray=(aY++qH).toArray:=by simp
 rw[ea];exact{.ref _,_,I.ado (r.append r2) (by rw[aO];lia),rfl,q _ I.fresh}
end
section
variable{κ:Type}[DecidableEq κ]
def fk(kvs:List (κ×V))(k:κ):Aap:=(kvs.find? λkv=>decide (kv.1=k)).map (·.2)
def putK(kvs:List (κ×V))(k:κ)(v:V):List (κ×V):=
 if(-56)=true then kvs.map (λkv=>if kv.1=k then(kv.1,v)else kv)else kvs++[(k,v)]
def ip{p:κ×V}{k:κ}(e:p.1=k):fk (p::r) k=some p.2:=by simp[fk,eK,e]
def gW{p:κ×V}{k:κ}(e:¬p.1=k):fk (p::r) k=fk r k:=by simp[fk,eK,e]
theorem m9(k:κ):∀kvs:List (κ×V),(-56)=(fk kvs k).isSome
 |[]=>rfl
 |p::r=>by
  rw[mF];by_cases e:p.1=k
  ·simp only[ip e,aZ e,Bool.true_or,Option.isSome_some]
  ·rw[gW e,bI e,Bool.false_or];exact m9 k r
theorem Ia(k j:κ)(y:V):∀kvs:List (κ×V),fk (kvs.map λkv=>if kv.1=k then(kv.1,y)else kv) j=(fk kvs j).map λx=>if j=k then y else x
 |[]=>rfl
 |p::r=>by
  have ih:=Ia k j y r;rw[aU];by_cases h:p.1=k
  ·rw[aC h];by_cases e:p.1=j
   ·rw[ip (p:=(p.1,y)) e,ip e,eI,aC (e.symm.trans h)]
   ·rw[gW (p:=(p.1,y)) e,gW e,ih]
  ·rw[az h];by_cases e:p.1=j
   ·rw[ip (p:=p) e,ip e,eI,az (λz=>h (e.trans z))]
   ·rw[gW (p:=p) e,gW e,ih]
theorem Gv(k j:κ)(y:V):∀kvs:List (κ×V),fk kvs k=none->fk (kvs++[(k,y)]) j=if j=k then some y else fk kvs j
 |[],_=>by
  by_cases e:k=j
  ·rw[aC e.symm];exact ip (p:=(k,y)) e
  ·rw[az (λz=>e z.symm)];exact gW (p:=(k,y)) e
 |p::r,hn=>by
  rw[lY];have hk:¬p.1=k:=λz=>by rw[ip z]at hn;cases hn
  rw[gW hk]at hn;have ih:=Gv k j y r hn;by_cases e:p.1=j
  ·rw[ip e,ip e,az (λz=>hk (e.trans z))]
  ·rw[gW e,gW e,ih]
def Ss(kvs:List (κ×V))(k j:κ)(y:V):fk (putK kvs k y) j=if j=k then some y else fk kvs j:=by
 unfold putK;by_cases a:(-56)=true
 ·rw[aC a,Ia];rw[m9]at a;by_cases e:j=k
  ·obtain⟨x,hx⟩:=jX.mp a;rw[aC e,e,hx,eI,aC rfl]
  ·rw[az e];cases fk kvs j with
   |none=>rfl
   |some x=>rw[eI,az e]
 ·rw[az a];refine Gv k j y kvs ?_;rw[m9]at a;cases q:fk kvs k with
  |none=>rfl
  |some x=>rw[q]at a;exact(a rfl).elim
def w4(kvs:List (κ×V))(k:κ)(v:V):(putK kvs k v).length<=kvs.length+1:=by
 unfold putK;split
 ·rw[ak];lia
 ·rw[aO,bx,d5];lia
def yM{k:κ}(v:V)(h:fk kvs k=none):putK kvs k v=kvs++[(k,v)]:=by unfold putK;rw[m9,h];exact az (-8)
def lH.sR(r:lH o u):o.isSome=u.isSome:=by
 cases o with
 |none=>cases u with
  |none=>rfl
  |some _=>exact(show False from r).elim
 |some _=>cases u with
  |none=>exact(show False from r).elim
  |some _=>rfl
def lH.getD(r:lH o u)(rd:RelV d d'):RelV (o.getD d) (u.getD d'):=by
 cases o with
 |none=>cases u with
  |none=>exact rd
  |some _=>exact(show False from r).elim
 |some _=>cases u with
  |none=>exact(show False from r).elim
  |some _=>exact r
def KV.val(r:KV kvs vs)(k:κ):lH (fk kvs k) (valueAt vs k):=by
 unfold KV at r
 induction r with
 |nil=>exact True.intro
 |@cons p q ps qs h t ih=>
  obtain⟨h1,h2⟩:=h;by_cases e:p.1=k
  ·have e':q.1=k:=h1.symm.trans e;have b:valueAt (q::qs) k=some q.2:=by simp[valueAt,eK,e']
   rw[ip e,b];exact h2
  ·have e':¬q.1=k:=λz=>e (h1.trans z);have b:valueAt (q::qs) k=valueAt qs k:=by simp[valueAt,eK,e']
   rw[gW e,b];exact ih
def KV.any(r:KV kvs vs)(k:κ):(-56)=vs.any λkv=>decide (kv.1=k):=by
 unfold KV at r
 induction r with
 |nil=>rfl
 |cons h t ih=>rw[mF,mF,ih,h.1]
def KV.S5(r:KV kvs vs)(k:κ)(ry:RelV y u):
  KV (kvs.map λkv=>if kv.1=k then(kv.1,y)else kv) (vs.map λkv=>if kv.1=k then(kv.1,u)else kv):=by
 unfold KV at r⊢
 induction r with
 |nil=>exact .nil
 |@cons p q ps qs h t ih=>
  rw[aU,aU];refine .cons ?_ ih;obtain⟨h1,h2⟩:=h;by_cases e:p.1=k
  ·rw[aC e,aC (h1.symm.trans e)];exact⟨h1,ry⟩
  ·rw[az e,az (λz=>e (h1.trans z))];exact⟨h1,h2⟩
def KV.put(r:KV kvs vs)(k:κ)(ry:RelV y u):KV (putK kvs k y) (stored vs k u):=by
 unfold putK stored;rw[r.any k];by_cases e:(vs.any λkv=>decide (kv.1=k))=true
 ·rw[aC e,aC e];exact r.S5 k ry
 ·rw[az e,az e];exact kR r ⟨rfl,ry⟩
def KV.keys{kvs:List (κ×V)}(r:KV kvs vs):kvs.map (·.1)=vs.map (·.1):=by
 unfold KV at r
 induction r with
 |nil=>rfl
 |cons h t ih=>rw[aU,aU,ih,h.1]
def KV.length{kvs:List (κ×V)}(r:KV kvs vs):kvs.length=vs.length:=bw r
end
def wo(r:RelV (kV k) u):(bH P w).is k u=true:=by
 cases k with
 |inl i=>obtain⟨t,e⟩:=(show∃t,u=Value.int i t from r);subst e;exact Lm P w i t
 |inr x=>obtain⟨t,e⟩:=(show∃t,u=Value.str x t from r);subst e;exact CO P w x t
theorem G4:∀{ks:List Key}{us:Aag},Vals (ks.map kV) us->ItemsAre (bH P w) ks us
 |[],_,r=>by rw[ji]at r;cases r;exact .nil
 |k::ks,_,r=>by
  rw[aU]at r;cases r with
  |cons h t=>exact .cons (wo h) (G4 t)
abbrev KT(H:Hp):List (List Key×V)->List (List Key×Addr×Value)->Prop:=Paired λp q=>p.1=q.1/\H q.2.1=some (.tup (p.1.map kV))/\RelV p.2 q.2.2
def KT.val(r:KT H kvs xs)(k:List Key):lH (fk kvs k) ((atKey xs k).map (·.2)):=by
 induction r with
 |nil=>exact True.intro
 |@cons p q ps qs h t ih=>
  obtain⟨h1,_,h2⟩:=h;by_cases e:p.1=k
  ·have e':q.1=k:=h1.symm.trans e;have b:atKey (q::qs) k=some q.2:=by simp[atKey,eK,e']
   rw[ip e,b];exact h2
  ·have e':¬q.1=k:=λz=>e (h1.trans z);have b:atKey (q::qs) k=atKey qs k:=by simp[atKey,eK,e']
   rw[gW e,b];exact ih
def KT.S5(r:KT H kvs xs)(k:List Key)(ry:RelV y u):
  KT H (kvs.map λkv=>if kv.1=k then(kv.1,y)else kv) (xs.map (putAt k u)):=by
 induction r with
 |nil=>exact .nil
 |@cons p q ps qs h t ih=>
  rw[aU,aU];refine .cons ?_ ih;obtain⟨h1,h2,h3⟩:=h;unfold putAt;by_cases e:p.1=k
  ·rw[aC e,aC (h1.symm.trans e)];exact⟨h1,h2,ry⟩
  ·rw[az e,az (λz=>e (h1.trans z))];exact⟨h1,h2,h3⟩
def KT.put(r:KT H kvs xs)(k:List Key)(hb:H b=some (.tup (k.map kV)))(ry:RelV y u):
  KT H (putK kvs k y) (storedH xs k b u):=by
 have e:(-56)=(atKey xs k).isSome:=by rw[m9,(r.val k).sR,jH]
 unfold putK storedH;rw[e];by_cases q:(atKey xs k).isSome=true
 ·rw[aC q,aC q];exact r.S5 k ry
 ·rw[az q,az q];exact kR r ⟨rfl,hb,ry⟩
def KT.keeps(r:KT H kvs xs)(ht:∀b ys,H b=some (.tup ys)->H' b=some (.tup ys)):KT H' kvs xs:=
 Paired.vo r λ_ _ z=>{z.1,ht _ _ z.2.1,z.2.2}
section
variable{P:Program}{w:World}{H:Hp}{h:Heap}{a:Addr}
def Vy(ok:jI P w H h)(e:Rd H a u):dG P w H h a u:=e.ok ok
def y9(ok:jI P w H h)(e:Rd H a (.dK kvs)):kvs.length<=sizeLine/\(a==sysModules)=false/\∃vs,KV kvs vs/\h.DictOf (bH P w) a vs:=
 show dG P w H h a (.dK kvs)from Vy ok e
def oB(ok:jI P w H h)(e:H a=some (.dK kvs)):kvs.length<=sizeLine/\(a==sysModules)=false/\∃vs,KV kvs vs/\h.DictOf (bH P w) a vs:=y9 ok (.inl e)
def A4(ok:jI P w H h)(e:H a=some (.tup (ks.map kV))):(tupleKind (bH P w)).is h ks a:=by obtain⟨_,aY,r,⟨o,h1,h2,n,h3⟩,_⟩:=(show dG P w H h a (.tup (ks.map kV))from ok a _ e);exact{o,aY.toArray,n,h1,h2,h3,by simpa using G4 r}
def Ca(ok:jI P w H h)(e:Rd H a (.dT kvs)):kvs.length<=sizeLine/\(a==sysModules)=false/\
  ∃xs,KT H kvs xs/\h.DictOfH (tupleKind (bH P w)) a xs:=by
 obtain⟨z,y,xs,r,o,es,ep,h1,h2,h3,h4,h5⟩:=(show dG P w H h a (.dT kvs)from Vy ok e);refine{z,y,xs,r,o,es,ep,h1,h2,h3,h4,λx hx=>?_,h5};have all:∀{l:List (List Key×V)}{m:List (List Key×Addr×Value)},KT H l m->∀x∈m,(tupleKind (bH P w)).is h x.1 x.2.1:=by
  intro l m q
  induction q with
  |nil=>intro x hx;exact nomatch hx
  |@cons p q ps qs hq t ih=>
   intro x hx;rcases aG.mp hx with e|hx
   ·subst e;exact A4 ok (by rw[<-hq.1];exact hq.2.1)
   ·exact ih x hx
 exact all r x hx
def acK(ok:jI P w H h)(e:H a=some (.dT kvs)):kvs.length<=sizeLine/\(a==sysModules)=false/\
  ∃xs,KT H kvs xs/\h.DictOfH (tupleKind (bH P w)) a xs:=Ca ok (.inl e)
end
def kS(H:Hp)(a:Addr)(y:V)(r:Aap):Prop:=
 (∃kvs k,Rd H a (.dK kvs)/\y=kV k/\r=fk kvs k)\/∃kvs k b,Rd H a (.dT kvs)/\y=.ref b/\H b=some (.tup (k.map kV))/\r=fk kvs k
def vT(H:Hp)(a:Addr)(y v:V)(H':Hp):Prop:=
 (∃kvs k,H a=some (.dK kvs)/\y=kV k/\kvs.length<sizeLine/\H'=upd H a (.dK (putK kvs k v)))\/
 ∃kvs k b,H a=some (.dT kvs)/\y=.ref b/\H b=some (.tup (k.map kV))/\kvs.length<sizeLine/\H'=upd H a (.dT (putK kvs k v))
theorem kS.k{H:Hp}{a:Addr}{kvs:List (Key×V)}{k:Key}(e:H a=some (.dK kvs)):kS H a (kV k) (fk kvs k):=.inl {kvs,k,.inl e,rfl,rfl}
theorem vT.k{H:Hp}{a:Addr}{kvs:List (Key×V)}{k:Key}{v:V}(e:H a=some (.dK kvs))(hl:kvs.length<sizeLine):vT H a (kV k) v (upd H a (.dK (putK kvs k v))):=.inl ⟨kvs,k,e,rfl,hl,rfl⟩
section
variable{X:Cx}{pins:Aac}{Z:St}{H:Hp}{s:Shared}{a:Addr}{y v:V}{u r:Value}{o:Aap}{A:Around}{E:Aae}
def Inv.big(I:Inv X pins Z H s):sysModules<s.heap.objs.size:=by have h:mainGlobals<s.heap.objs.size:=(I.mod.glob.keeps I.bk).lt;exact fG (-8) h
def RX(hu:A.units+1<cLine)(I:Inv X pins Z H s)(g:kS H a y (some v))(ry:RelV y u)(h:∀w' s',Inv X pins Z H s'->RelV v w'->Q w' s'):
  wpAny (-6) A (getItem (-51) u) Q E s:=by
 rcases g with⟨kvs,k,e,ey,l⟩|⟨kvs,k,b,e,ey,eb,l⟩
 ·subst ey;obtain⟨z,hd,vs,rel,dd⟩:=y9 I.br e;obtain⟨w',hw,pb⟩:=lH.some_of (v:=v) (o:=valueAt vs k) (by rw[l];exact rel.val k);exact wpAny_getItem_of (wo ry) dd.mapOf hw (h w' _ (I.tok _) pb)
 ·subst ey;cases(show u=Value.ref b from ry);obtain⟨z,hd,xs,rel,dd⟩:=Ca I.br e;obtain⟨w',hw,pb⟩:=lH.some_of (v:=v) (o:=(atKey xs k).map (·.2)) (by rw[l];exact rel.val k);obtain⟨p,hp,iU⟩:=aX.mp hw;refine Aq (nh hu) (A4 I.br eb) dd hp ?_;rw[iU];exact h w' _ (I.tok _) pb
def aer(hu:A.units+1<cLine)(I:Inv X pins Z H s)(g:kS H a y o)(ry:RelV y u)(h:∀s',Inv X pins Z H s'->Q (.bool o.isSome) s'):
  wpAny (-6) A (compareOp .In u (-51)) Q E s:=by
 rcases g with⟨kvs,k,e,ey,l⟩|⟨kvs,k,b,e,ey,eb,l⟩
 ·subst ey;obtain⟨z,hd,vs,rel,dd⟩:=y9 I.br e;refine wpAny_in_of (wo ry) hd dd.mapOf ?_;rw[<-(rel.val k).sR,<-l];exact h _ (I.tok _)
 ·subst ey;cases(show u=Value.ref b from ry);obtain⟨z,hd,xs,rel,dd⟩:=Ca I.br e;refine wpAny_in_heap (nh hu) (A4 I.br eb) hd dd ?_;have q:=(rel.val k).sR;rw[jH]at q;rw[<-q,<-l];exact h _ (I.tok _)
def uT(I:Inv X pins Z H s)(mu:Sd (H a))(hs:Heap.SameBut a s.heap h')(he:∃q,h'.get? a=some q)(new:dG X.prog X.w (upd H a ob) h' a ob):
  Inv X pins Z (upd H a ob) {s with heap:=h',toks:=t'}:=
 I.write (x:=a) (e:=a) mu (.inl rfl) (λb q hb z=>(hs.2 b hb).trans z) he new
def Bm(z:kvs.length<=sizeLine)(hd:(a==sysModules)=false)(rel:KV kvs vs)(dd:h'.DictOf (bH P w) a vs):
  dG P w H' h' a (.dK kvs):=⟨z,hd,vs,rel,dd⟩
def RT(hu:A.units+1<cLine)(I:Inv X pins Z H s)(g:vT H a y v H')(ry:RelV y u)(rv:RelV v r)(h:∀s',Inv X pins Z H' s'->Q () s'):
  wpAny (-6) A (setItem (-51) u r) Q E s:=by
 rcases g with⟨kvs,k,e,ey,l,eH⟩|⟨kvs,k,b,e,ey,eb,l,eH⟩
 ·subst ey eH;obtain⟨z,hd,vs,rel,dd⟩:=oB I.br e;have hz:vs.length<=sizeLine:=by rw[<-rel.length];exact z
  have hl:(putK kvs k v).length<=sizeLine:=by have:=w4 kvs k v;lia
  refine wpAny_setItem_pairs (hsz:=hz) (wo ry) dd λh' vG hs=>h _ ?_;have he:∃q,h'.get? a=some q:=let⟨q,_,_,hq,_⟩:=vG;⟨q,hq⟩
  exact uT I (by rw[e];exact True.intro) hs he (Bm hl hd (rel.put k rv) vG)
 ·subst ey eH;cases(show u=Value.ref b from ry);obtain⟨z,hd,xs,rel,dd⟩:=acK I.br e;have hz:xs.length<=sizeLine:=by rw[<-bw rel];exact z
  have hl:(putK kvs k v).length<=sizeLine:=by have:=w4 kvs k v;lia
  refine Ap (hsz:=hz) (nh hu) (A4 I.br eb) dd λh' vG hs=>h _ ?_;obtain⟨q,es,ep,hq,h2,h3,h4,_,h5⟩:=vG;refine uT I (by rw[e];exact True.intro) hs ⟨q,hq⟩ {hl,hd,_,(rel.put k eb rv).keeps λc ys ec=>?_,q,es,ep,hq,h2,h3,h4,h5};rw[aE (yR ec e (λz=>nomatch z))];exact ec
def U1(i:Expr):Prop:=∀ov iv,subscripted i false ov iv=operate [ov,iv] (getItem ov iv)
end
def L1{T id:String}
  (hl:typeLookup (.type T) "__getitem__"=pure (some (.builtin id))) (hs:U1 slice)
  (h:wpAny (-5) A (eval value env) (λo aaa=>wpAny (-5) A (eval slice env) (λi aad=>aad.TypeIs o T/\wpAny (-5) A (getItem o i) Q E aad) E aaa) E s):
  wpAny (-5) A (eval (.Subscript value slice pos) env) Q E s:=by
 refine FD (c8 h (λo aaa adA=>c8 adA (λi aad aaf=>?_) λ_ _ x=>x) λ_ _ x=>x);obtain⟨hT,aaf⟩:=aaf;unfold subscriptTail;refine af ?_;rw[getitemInPython_of_ne hT.not_modules];refine af (il hT hl ?_);have fin:wpAny (-5) A (subscripted slice false o i) (λr aag=>wpAny (-5) A (letTemporaryGo value o r>>=λ_=>pure r) Q E aag) E aad:=by rw[hs o i];exact wpAny_operating (c8 aaf (λr aag adz=>af (wpAny_letTemporaryGo (ao adz))) λ_ _ x=>x)
 first
  |exact ao (af fin)
  |exact af (ao (af fin))
  |exact af fin
def Ls(I:Inv X pins Z H s)(g:kS H a y o):s.TypeIs (-51) "dict":=by
 rcases g with⟨kvs,k,e,_,_⟩|⟨kvs,k,b,e,_,_,_⟩
 ·obtain⟨_,_,vs,_,dd⟩:=y9 I.br e;exact dd.typeIs
 ·obtain⟨_,_,xs,_,dd⟩:=Ca I.br e;exact dd.typeIs
inductive ZJ(Q:VK)(x:V)(y:V)(H2:Hp):Prop
 |mk a v (_:x=.ref a) (_:kS H2 a y (some v)) (_:Q v H2)
def ab4(td ty:TE):TE:=λZ H Q=>td Z H λx H1=>ty Z H1 λy H2=>ZJ Q x y H2
inductive ab3(Q:VK)(y:V)(x:V)(H2:Hp):Prop
 |mk a o (_:x=.ref a) (_:kS H2 a y o) (_:Q (.bl o.isSome) H2)
def ac4(ty td:TE):TE:=λZ H Q=>ty Z H λy H1=>td Z H1 λx H2=>ab3 Q y x H2
inductive ZV(D:Ends)(Z:St)(v:V)(x:V)(y:V)(H3:Hp):Prop
 |mk a H4 (_:x=.ref a) (_:vT H3 a y v H4) (_:D.nx Z H4)
def acb(td ty tv:TE):TS:=λD Z H=>tv Z H λv H1=>td Z H1 λx H2=>ty Z H2 λy H3=>ZV D Z v x y H3
section
variable{X:Cx}{o i value:Expr}{pos pos':Pos}{td ty tv:TE}
def pZ(hu:X.A.units+1<cLine)(ho:PE X o td)(hi:PE X i ty)(hs:U1 i):PE X (.Subscript o i pos) (ab4 td ty):=by intro pins s Z H Q I h;refine L1 PySem.F.slot_dict_getitem.lookup hs (df (ho pins s Z H _ I h) λu s1 x H1 I1 rx q1=>df (hi pins s1 Z H1 _ I1 q1) λiv s2 y H2 I2 ry adV=>?_);obtain⟨a,v,ex,g,q2⟩:=adV;subst ex;obtain rfl:u=Value.ref a:=rx;exact{Ls I2 g,RX hu I2 g ry λw' s3 I3 pb=>⟨v,H2,I3,pb,q2⟩}
def Jt(hu:X.A.units+1<cLine)(hi:PE X i ty)(ho:PE X o td):PC X .In i o (ac4 ty td):=by intro pins s Z H Q I h;refine df (hi pins s Z H _ I h) λiv s1 y H1 I1 ry q1=>df (ho pins s1 Z H1 _ I1 q1) λu s2 x H2 I2 rx adU=>?_;obtain⟨a,ov,ex,g,q2⟩:=adU;subst ex;obtain rfl:u=Value.ref a:=rx;exact aer hu I2 g ry λs3 I3=>{.bl ov.isSome,H2,I3,rfl,q2}
def pY(hu:X.A.units+1<cLine)(ho:PE X o td)(hi:PE X i ty)(hv:PE X value tv)(hs:swapsWith value (some (.Subscript o i pos')) pos.line X.env=pure false):
  PS X (.Assign [.Subscript o i pos'] value pos) (acb td ty tv):=by
 intro pins s Z H D I h;refine wN (df (hv pins s Z H _ I h) λr s1 v H1 I1 rv q1=>df (ho pins s1 Z H1 _ I1 q1) λu s2 x H2 I2 rx q2=>df (hi pins s2 Z H2 _ I2 q2) λiv s3 y H3 I3 ry adT=>?_) hs;obtain⟨a,H4,ex,g,q3⟩:=adT;subst ex;obtain rfl:u=Value.ref a:=rx;exact RT hu I3 g ry rv λs4 I4=>⟨Z,H4,I4,q3⟩
def KC(h:Heap)(hb:sysModules<h.objs.size):dG P w H (h.push {cls:=.type "dict",data:=.dict #[]}) h.objs.size (.dK []):=
 {aP _,dB.mpr (cb (aL hb)),[],.nil,wK h}
def ZG:TE:=λ_ H Q=>∀p,H p=none->Q (.ref p) (upd H p (.dK []))
def jy:PE X (.Dict [] [] pos) ZG:=λpins s Z H Q I h=>
 wpAny_Dict_empty {.ref s.heap.objs.size,_,I.laid (a:=s.heap.objs.size) (o:=.dK []) (t':=s.toks) (λ_ _ q=>aq _ q) (ar _) (KC s.heap I.big),rfl,h _ (-72)}
end
def Iw:List (TE×TE)->St->Hp->(Aam->Hp->Prop)->Prop
 |[],_,H,Q=>Q [] H
 |(tk,tv)::r,Z,H,Q=>tk Z H λx H1=>tv Z H1 λy H2=>Iw r Z H2 λps H3=>Q ((x,y)::ps) H3
abbrev VV:Aam->List (Value×Value)->Prop:=Paired λp q=>RelV p.1 q.1/\RelV p.2 q.2
def BF(X:Cx)(pos:Pos)(keys:List (Option Expr))(values:List Expr)(Ih:List (TE×TE)):Prop:=
 ∀(pins:Aac)(s:Shared)(Z:St)(H:Hp)(Q:Aam->Hp->Prop),Inv X pins Z H s->Iw Ih Z H Q->
  wpAny (-6) X.A (evalPairs (pairTrees keys values X.env pos)) (λvs s'=>∃ps H',Inv X pins Z H' s'/\VV ps vs/\Q ps H') X.xe s
def XU:BF X pos [] [] []:=λpins s Z H Q I h=>pairTrees_nil_walk {[],H,I,.nil,h}
def Te(hk:PE X k tk)(hv:PE X v tv)(hr:BF X pos ks vs Ih):
  BF X pos (some k::ks) (v::vs) ((tk,tv)::Ih):=λpins s Z H Q I h=>
 pairTrees_cons_walk (df (hk pins s Z H _ I h) λu s1 x H1 I1 rx q1=>df (hv pins s1 Z H1 _ I1 q1) λw2 s2 y H2 I2 ry q2=>
  iT (hr pins s2 Z H2 _ I2 q2) λws s3 ⟨ps,H3,I3,rel,q3⟩=>{(x,y)::ps,H3,I3,.cons ⟨rx,ry⟩ rel,q3})
def iO(kvs more:List (Key×V)):List (Key×V):=more.foldl (λacc kv=>putK acc kv.1 kv.2) kvs
def KV.merge:∀{more:List (Key×V)}{rs:List (Key×Value)}{kvs:List (Key×V)}{vs:List (Key×Value)},KV more rs->KV kvs vs->KV (iO kvs more) (merged vs rs):=by
 intro more rs kvs vs r;unfold KV at r
 induction r generalizing kvs vs with
 |nil=>intro q;exact q
 |@cons p q ps qs h t ih=>
  intro r0;have e:KV (putK kvs p.1 p.2) (stored vs q.1 q.2):=by have:=r0.put p.1 h.2;rw[<-h.1];exact this
  exact ih e
theorem my:∀(more kvs:List (Key×V)),(iO kvs more).length<=kvs.length+more.length
 |[],kvs=>by show kvs.length<=kvs.length+0;lia
 |p::r,kvs=>by have h1:=my r (putK kvs p.1 p.2);have h2:=w4 kvs p.1 p.2;show(iO (putK kvs p.1 p.2) r).length<=_;rw[bx];lia
structure M1(X:Cx)(o:Expr)(m:Str)(apos:Pos)(e:Expr)(fD:Pos):Prop where
 base:attributeBase o m X.env (eval o X.env)=eval o X.env
 je:((backTo fD (starEach [e] X.env)).all (λx=>!x.1)&&(backToKw fD (keywordEach [] X.env)).all (λx=>x.1.isSome)
  &&decide (([e]:List Expr).length+([]:List Keyword).length+(if([]:List Keyword).isEmpty then 0 else 1)<30))=true
 line:(apos.endLine==fD.line)=true
 trees:backTo fD (starEach [e] X.env)=[(false,eval e X.env)]
structure M2(X:Cx)(o:Expr)(m:Str)(apos:Pos)(e f:Expr)(fD:Pos):Prop where
 base:attributeBase o m X.env (eval o X.env)=eval o X.env
 je:((backTo fD (starEach [e,f] X.env)).all (λx=>!x.1)&&(backToKw fD (keywordEach [] X.env)).all (λx=>x.1.isSome)
  &&decide (([e,f]:List Expr).length+([]:List Keyword).length+(if([]:List Keyword).isEmpty then 0 else 1)<30))=true
 line:(apos.endLine==fD.line)=true
 trees:backTo fD (starEach [e,f] X.env)=[(false,eval e X.env),(false,eval f X.env)]
def IsD(H:Hp)(a:Addr):Prop:=(∃kvs,Rd H a (.dK kvs))\/∃kvs,Rd H a (.dT kvs)
def aaL(I:Inv X pins Z H s)(d:IsD H a):
  s.TypeIs (-51) "dict"/\(∀b,Value.ref a=.ref b->∃ob,s.heap.get? b=some ob/\ob.dict=none)/\(a==sysModules)=false:=by
 rcases d with⟨kvs,e⟩|⟨kvs,e⟩
 ·obtain⟨_,hd,vs,_,dd⟩:=y9 I.br e;refine{dd.typeIs,λb q=>?_,hd};cases q;obtain⟨ob,_,_,h1,h2,_⟩:=dd;exact{ob,h1,h2.2.1}
 ·obtain⟨_,hd,xs,_,dd⟩:=Ca I.br e;refine{dd.typeIs,λb q=>?_,hd};cases q;obtain⟨ob,_,_,h1,h2,_⟩:=dd;exact{ob,h1,h2.2.1}
section
variable{X:Cx}{pins:Aac}{Z:St}{H:Hp}{s:Shared}{a:Addr}{y d:V}{u r:Value}{o:Aap}{A:Around}{E:Aae}
def abC(hu:A.units+1<cLine)(I:Inv X pins Z H s)(g:kS H a y o)(ry:RelV y u)(rd:RelV d r)(h:∀w' s',Inv X pins Z H s'->RelV (o.getD d) w'->Q w' s'):
  wpAny (-6) A (call (.builtin "dict.get") [.ref a,u,r]) Q E s:=by
 rcases g with⟨kvs,k,e,ey,l⟩|⟨kvs,k,b,e,ey,eb,l⟩
 ·subst ey;obtain⟨z,hd,vs,rel,dd⟩:=y9 I.br e;refine qQ jt dd.typeIs pA (oO _ _ _) (meets_dict_get_default (bH X.prog X.w) a (wo ry) hd r) {_,dd.mapOf,h _ _ (I.tok _) ?_};rw[l];exact(rel.val k).getD rd
 ·subst ey;cases(show u=Value.ref b from ry);obtain⟨z,hd,xs,rel,dd⟩:=Ca I.br e;refine qQ jt dd.typeIs pA (oO _ _ _) (vW (tupleKind (bH X.prog X.w)) a b hd r) {nh hu,k,xs,A4 I.br eb,dd,h _ _ (I.tok _) ?_};rw[l];exact(rel.val k).getD rd
end
inductive Xv(ty:TE)(tx:TE)(Z:St)(Q:VK)(x:V)(H1:Hp):Prop
 |mk a (_:x=.ref a) (_:IsD H1 a) (_:ty Z H1 λy H2=>tx Z H2 λz H3=>∃o,kS H3 a y o/\Q (o.getD z) H3)
def ZI(td ty tx:TE):TE:=λZ H Q=>td Z H λx H1=>Xv ty tx Z Q x H1
section
variable{X:Cx}{o e f:Expr}{apos fD:Pos}{td ty tx:TE}
def yN(hu:X.A.units+1<cLine)(ho:PE X o td)(he:PE X e ty)(hf:PE X f tx)(m:M2 X o "get" apos e f fD):PE X (.Call (.Attribute o "get" apos) [e,f] [] fD) (ZI td ty tx):=by intro pins s Z H Q I h;refine t4 m.base m.je m.line iM jt yn (df (ho pins s Z H _ I h) λu s1 x H1 I1 rx adS=>?_);obtain⟨a,ex,d,q1⟩:=adS;subst ex;obtain rfl:u=Value.ref a:=rx;obtain⟨t1,t2,_⟩:=aaL I1 d;refine{t1,t2,?_};rw[m.trees];refine iX rfl (l9 (gk (df (he pins s1 Z H1 _ I1 q1) λiv s2 y H2 I2 ry q2=>gk (df (hf pins s2 Z H2 _ I2 q2) λfv s3 z H3 I3 rz ⟨ov,g,q3⟩=>k9 ?_))));exact abC hu I3 g ry rz λw' s4 I4 pb=>⟨_,H3,I4,pb,q3⟩
variable{pins:Aac}{Z:St}{H:Hp}{s:Shared}{a:Addr}{kvs:List (Key×V)}{A:Around}{E:Aae}
def UM(I:Inv X pins Z H s)(e:Rd H a (.dK kvs))(h:∀p s',H p=none->Inv X pins Z (upd H p (.dK kvs)) s'->Q (.ref p) s'):wpAny (-6) A (call (.type "dict") [.ref a]) Q E s:=by obtain⟨z,hd,vs,rel,dd⟩:=y9 I.br e;refine kt_call_dict hd dd (by rw[<-rel.length];exact z) λh' vG hs=>?_;refine h _ _ (-72) (I.laid (a:=s.heap.objs.size) (o:=.dK kvs) (t':=s.toks) (λb q hq=>?_) (ar _) (Bm z (dB.mpr (cb (aL I.big))) rel vG));exact(hs.2 b (aL (aI hq))).trans (aq _ hq)
end
end L2
namespace Att
open PySem PySem.W PySem.Calls PyProof.Rows
def EY:∀(ns:List Int)(vs:Aag),WellAll P h vs (ns.map WData.int)->IntsAre vs ns:=by
 intro ns
 induction ns with
 |nil=>
  intro vs w;rw[ji]at w;cases w;exact .nil
 |cons n ns ih=>
  intro vs w;rw[aU]at w;cases w with
  |cons a b=>
   cases a;exact .cons _ _ (ih _ b)
def PZ{l:OpenLaw}(hn:l.most=some n)
  (OD:l.row.toRowW.claim.pre args=true) (G6:WellAll P h vals args):
  ∃a vs ns,vals=[Value.ref a]/\args=[WData.list (ns.map WData.int)]/\h.get? a=some {cls:=.type "list",data:=.seq vs.toArray}/\IntsAre vs ns/\ns.length<=n:=by
 have hsh:WShape.hasAll [] args [.list .int]=true:=(pre_splitW OD).1;have hc:l.pre.holds [] {args:=args}=true:=(pre_splitW OD).2;obtain⟨d,r,rfl,h1,h2⟩:=hasAllW_cons hsh;obtain rfl:=hasAllW_nil h2;obtain⟨xs,rfl,h3⟩:=hasW_list h1;obtain⟨ns,rfl⟩:=items_int h3;have hlen:ns.length<=n:=by
  unfold OpenLaw.pre at hc;have h4:(WTm.not (.lt (.lit (.int (n:Int))) (.len (.arg 0)))).holds [] {args:=[.list (ns.map .int)]}=true:=by have h4:=(holds_andW hc).1;rw[hn]at h4;exact h4
  have h5:=condW_of h4 (w_not (w_lt w_lit (w_len_list (w_arg rfl))));rw[ak]at h5;refine jZ λq=>?_;have q':(n:Int)<((ns.length:Nat):Int):=by lia
  first
   |(rw[aZ q']at h5;exact absurd h5 (by decide))
   |(simp at h5;lia)
 cases G6 with
 |cons w1 w2=>
  cases w2;cases w1 with
  |list ho nF=>exact{_,_,ns,rfl,rfl,ho,EY ns _ nF,hlen}
def Qd(l:OpenLaw)(args:List WData):l.row.toRowW.claim.post args (.bool true) args=true:=
 postW_of (r:=l.row.toRowW) (X:=(true==true))
  (show WShape.has [] (.bool true) .bool=true by first|rfl|decide|simp[WShape.has,WShape.arms,WShape.armsAll])
  (show(WTm.eq .res (.lit (.bool true))).value [] {args:=args,res:=some (.bool true),after:=args}=some (.bool (true==true))from w_eq_bool (w_res rfl) w_lit) rfl
def Lx{l:OpenLaw}
  (hn:l.most=some n) (Ru:d.params.defaults=[])
  (call:∀(w:World)(aab aaa:Shared)(mg mb:Aad)(fa:Addr)(o:Obj)(pm cd doc:Value)(a:Addr)(vs:Aag)(ns:List Int),
   Ground q loose [] XP w aab mg mb aaa.heap->YP w aaa.heap->
   aaa.heap.get? fa=some o->o.data=.func (docDef d.name d.params d.body d.scope pm cd doc)->aaa.heap.CodeRec cd d.name->mg d.name=some (.ref fa)->
   aaa.heap.get? a=some {cls:=.type "list",data:=.seq vs.toArray}->IntsAre vs ns->ns.length<=n->aaa.gens=#[]->
   codeAny (model l.prog w) callerA (.call (.ref fa) {[.ref a],[]}) (-52) aaa):
  WalkO q loose XP YP l.row.toRowW d [] (λf vs=>PySem.call f vs):=by
 intro w aab aaa mg mb G Y fa o pm cd doc dV kV ho hd Be hD Rf hg args vals as OD aeN hrd G6 hlo;obtain rfl:dV=.none:=Dflts.none hD Ru;obtain rfl:kV=.none:=Dflts.noKw hD;obtain⟨a,vs,ns,rfl,rfl,Ui,hints,hlen⟩:=PZ hn OD G6;refine enter_call (lG (call w aab aaa mg mb fa o pm cd doc a vs ns G Y ho (fd_plain hd) Be Rf Ui hints hlen hg) λr s' hq=>?_);obtain⟨rfl,h2,h3,h4⟩:=hq;exact{.inl {.bool true,.bool true,[],rfl,λ_=>rfl,.bool true,Qd l _,λ_=>{List.Pairwise.nil,λ_ hm=>(nomatch hm)}},h2,h3,h4}
section
def ledger(h:Heap)(L d:Addr):Aac:=(List.range h.objs.size).filterMap λa=>if a=L\/a=d then none else(h.get? a).map λo=>(a,o)
end
end Att
namespace L2
open PySem PySem.Spec PyProof.Rows
theorem Gu:∀{vs:Aag}{ns:List Int},IntsAre vs ns->Vals (-68) vs
 |_,_,.nil=>.nil
 |_,_,.cons n t h=>.cons ⟨t,rfl⟩ (Gu h)
def Pj(H:Hp):Prop:=∀b,H b=none\/∃o xs,H b=some (.de o (.lst xs))
def TY{K:Frag}
  (KX:K.In aaa.heap) (hns:aaa.heap.Ns mainGlobals mg) (hb:aaa.heap.Ns builtinsNs mb) (hbb:∀x:Str,x≠"__name__"->mb x=bootBuiltins x) (aef:aaa.heap.NoLimit) (hg:aaa.gens=#[])
  (ha:aaa.heap.get? a=some {cls:=.type "list",data:=.seq vs.toArray}) (hi:IntsAre vs ns) (hl:ns.length<=sizeLine) (hr:gZ k callerA)
  (F:∀base:Heap,K.In base->base.Ns mainGlobals mg->dk P w K mg base CX k fa fd [x] sp) (acC:∀(s:Shared)(u:Value),BindsTo s fd {[u],[]} [(x,u)])
  (Hc:∀H:Hp,Pj H->bp K H a (-68)->sp [.ref a] H (λv _=>v=.bl true) λ_ _ _=>False)
  (hCX:∀H e s',CX [] H aaa (λ_ _ _=>False) e s'->False):
  codeAny (-30) callerA (.call (.ref fa) {[.ref a],[]}) (-52) aaa:=by
 have rv:=Gu hi;have adp:=hi.length;have core:∀H:Hp,Pj H->bp K H a (-68)->jI P w H aaa.heap->(∀b,H b≠none->b=a)->(H a≠none->K.lookup a=none)->
   codeAny (-30) callerA (.call (.ref fa) {[.ref a],[]}) (-52) aaa:=by
  intro H hO hS br hA hK;have Nq:∀{b:Addr}{o:Obj},aaa.heap.get? b=some o->H b=none->(yX aaa.heap H).get? b=some o:=λe n=>Uo e n;have Qw:∀{b:Addr}{o:Obj}{es:Array DictEntry}{ep:Nat},aaa.heap.get? b=some o->o.data=.dict es ep->H b=none:=λ{b o es ep} e d=>by
   cases q:H b with
   |none=>rfl
   |some u=>
    have e':b=a:=hA b (by rw[q];simp);subst e';rw[ha]at e;cases e;have d':Data.seq vs.toArray _=Data.dict es ep:=d;cases d'
  have VH:∀{b:Addr}{m:Aad},aaa.heap.Ns b m->(yX aaa.heap H).Ns b m:=λ{b m} ⟨o,es,ep,e,d,r⟩=>{o,es,ep,Nq e (Qw e d),d,r};have hKb:K.In (yX aaa.heap H):=λb o e=>Nq (KX b o e) (by
   cases q:H b with
   |none=>rfl
   |some u=>
    have e':b=a:=hA b (by rw[q];simp);subst e';rw[hK (by rw[q];simp)]at e;cases e)
  have hM:Mod K mg (yX aaa.heap H):={hKb,VH hns,{mb,VH hb,hbb},let⟨mc,h1,h2⟩:=aef;{mc,VH h1,h2}};have e0:Eh P w K mg (yX aaa.heap H) callerA [] aaa H:={rfl,hM,λb o e=>Yd e,BI (Rr _ _),trivial,λb hb=>absurd (show b∈([]:Aaj)from hb) (-9),br,.of_eq hg};refine lG ((F _ hKb (VH hns)).run callerA [] aaa H {[.ref a],[]} [.ref a] [.ref a] _ _ hr e0 (acC aaa (-51)) (.cons rfl .nil) (Hc H hO hS)) λr s' h=>?_;cases r with
  |error e=>exact(hCX H e s' h).elim
  |ok fl=>
   cases fl with
   |next=>exact False.elim h
   |brk=>exact False.elim h
   |cont=>exact False.elim h
   |ret u=>
    obtain⟨v,H',os,bare,un,aeb,r',q⟩:=h;have q':v=.bl true:=q;subst q';obtain rfl:u=Value.bool true:=r';refine{rfl,OldK.of_keep λb o e=>?_,os,bare};cases q:H b with
    |none=>exact un.keep b o e q (by intro z;exact absurd (show b∈([]:Aaj)from z) (-9)) (-9)
    |some u=>
     rcases hO b with z|⟨ob,xs,z⟩
     ·rw[q]at z;cases z
     ·have z2:=un.tP b ob _ z;obtain⟨e1,_⟩:=br b _ z;obtain⟨e2,_⟩:=aeb b _ z2;rw[e]at e1;cases e1;exact e2
 cases hk:K.lookup a with
 |some o=>
  have e:=KX a o hk;rw[ha]at e;cases e;refine core (λ_=>none) (λ_=>.inl rfl) (.inr {_,vs.toArray,_,hk,rfl,rfl,rfl,by rw[aQ,adp];exact hl,by simpa using rv}) (λb u z=>by have z':(none:Option HO)=some u:=z;cases z') (λb z=>absurd rfl z) λz=>absurd rfl z
 |none=>
  refine core (λb=>if b=a then some (.de {cls:=.type "list",data:=.seq vs.toArray} (.lst (-68)))else none) (λb=>?_) (.inl (.inr ⟨{cls:=.type "list",data:=.seq vs.toArray},aC rfl⟩)) (λb u z=>?_) (λb z=>?_) λ_=>hk
  ·by_cases hb:b=a
   ·exact .inr {_,_,aC hb}
   ·exact .inl (az hb)
  ·by_cases hb:b=a
   ·have z':=(aC hb).symm.trans z;cases z';subst hb;exact{ha,by rw[ak];exact hl,vs,_,rv,ha}
   ·have z':=(az hb).symm.trans z;cases z'
  ·by_cases hb:b=a
   ·exact hb
   ·exact absurd (az hb) z
abbrev KOf{K:Frag}{h:Heap}(_:K.In h):Frag:=K
def Xk{l:PySem.W.OpenLaw}{K:Params->Frag}{CX:World->K8}{sp:World->Sp}
  (hn:l.most=some n) (ue:n<=sizeLine) (Ru:d.params.defaults=[]) (hr:gZ k callerA)
  (hY:∀(w:World)(h:Heap),YP w h->(K w.params).In h)
  (F:∀(w:World)(mg:Aad)(fa:Addr)(h:Heap),(K w.params).In h->h.Ns mainGlobals mg->mg d.name=some (.ref fa)->
   ∃fd:FuncData,(∀(s:Shared)(u:Value),BindsTo s fd {[u],[]} [(x,u)])/\
    ∀base:Heap,(K w.params).In base->base.Ns mainGlobals mg->dk l.prog w (K w.params) mg base (CX w) k fa fd [x] (sp w))
  (Hc:∀(w:World)(H:Hp)(a:Addr)(ns:List Int),ns.length<=n->Pj H->bp (K w.params) H a (-68)->sp w [.ref a] H (λv _=>v=.bl true) λ_ _ _=>False)
  (hCX:∀(w:World)(H:Hp)(s:Shared)(e:Value)(s':Shared),CX w [] H s (λ_ _ _=>False) e s'->False):
  PySem.W.WalkO q loose XP YP l.row.toRowW d [] (λf vs=>PySem.call f vs):=by
 refine Att.Lx hn Ru λw aab aaa mg mb fa o pm cd doc a vs ns G Y ho hd Be Rf Ui hints hlen hg=>?_;have KX:=hY w _ Y;obtain⟨fd,hb,hF⟩:=F w mg fa _ KX G.T.g Rf;exact TY KX G.T.g G.T.b G.T.builtins G.T.nolimit hg Ui hints (aD hlen ue) hr hF hb (λH hO hS=>Hc w H a ns hlen hO hS) λH e s'=>hCX w H aaa e s'
def inClass(s:Stmt)(j:Nat):Stmt:=match s with
 | .ClassDef _ _ _ body _ _ _ _ _ _ _=>body.getD j (.Pass {0,0,0,0})
 |_=>.Pass {0,0,0,0}
def defArgs(s:Stmt):Arguments:=match s with
 | .FunctionDef _ a _ _ _ _ _ _ _ _=>a
 |_=>{posonlyargs:=[],args:=[],vararg:=none,kwonlyargs:=[],kw_defaults:=[],kwarg:=none,defaults:=[]}
def defBody(s:Stmt):List Stmt:=match s with
 | .FunctionDef _ _ b _ _ _ _ _ _ _=>b
 |_=>[]
def defScope(s:Stmt):Scope:=match s with
 | .FunctionDef _ _ _ _ _ _ sc _ _ _=>sc
 |_=>{kind:=.function,names:=[],isGenerator:=false,isCoroutine:=false}
abbrev fU:K8:=λ_ _ _ _ _ _=>False
abbrev E0:XK:=λ_ _ _=>False
def N7:Passes fU X E0:=λ_ _ _ _ _ _ _ h=>h.elim
structure fu(K:Frag)(x qual:Str)(st:Stmt)(f:Addr)(fd:FuncData):Prop where
 ex:∃(oc:Value)(od:Aak)(kV doc pm:Value)(an:Aak)(dm ct:Value)(zK:Array (Option Value)),
  fd=fnOf x qual (defArgs st) (defBody st) (defScope st) .none kV doc pm an dm ct/\K.lookup f=some {oc,od,.func fd,zK}/\codeIn K dm qual=true
 kp:keepIn K (.ref f)=true
section
variable{P:Program}{w:World}{K:Frag}{mg:Aad}{base:Heap}
def fu.ok{st:Stmt}(F:fu K x qual st f fd)(S:cD N ps (defScope st))(len:∀vs H Q E,sp vs H Q E->vs.length=ps.length)
  (OL:∀(dm:Value)(A:Around)(outer:List Env)(s:Shared)(H:Hp)(vs:Aao)(Q:VK)(E:XK),gZ k (A.deeper (envOfC qual (defScope st) s.heap.objs.size f dm))->sp vs H Q E->
   ∃t,mY (Gb fU P w K mg base N qual (defScope st) f dm A outer s H E).VI (defBody st) t/\t {nx:=λ_ H'=>Q .cE H',rt:=Q} (start N vs) H):dk P w K mg base fU (k+1) f fd ps sp:=by
 obtain⟨oc,od,kV,doc,pm,an,dm,ct,zK,rfl,lk,Be⟩:=F.ex;refine acF lk Be S len λA outer s H vs Q E hr Hc=>?_;obtain⟨t,h,q⟩:=OL dm A outer s H vs Q E hr Hc;exact{t,h.VI,q}
def fu.binds{st:Stmt}(F:fu K x qual st f fd)
  (h:∀(kV doc pm:Value)(an:Aak)(dm ct:Value)(us:Aag),us.length=ps.length->bindArgs (-65) {us,[]}=pure (ps.zip us)):Binds K fd ps []:=by
 obtain⟨oc,od,kV,doc,pm,an,dm,ct,zK,rfl,lk,Be⟩:=F.ex;exact .all (h kV doc pm an dm ct)
def RE{st:Stmt}{kV doc pm dm ct:Value}(l:K.lookup f=some {oc,od,.func (-65),zK})
  (c:codeIn K dm qual=true) (k:keepIn K (.ref f)=true):fu K x qual st f (-65):={⟨oc,od,kV,doc,pm,an,dm,ct,zK,rfl,l,c⟩,k}
def kj(hr:gZ k A):A.units+1<cLine:=eJ (Nat.add_le_add_left (by decide:1<=64) _) hr.units
def bC(h:n<=1000):n<sizeLine:=eJ h (-8)
variable{X:Cx}
def pv(i:Nat)(hN:X.N[i]?=some x:=by rfl)(hv:Vis X.env.scope x:=by first|exact Or.inl rfl|exact Or.inr (Or.inl rfl)|exact Or.inr (Or.inr rfl))(hd:(-33)=false:=by decide)
  (Be:(x==("__classdict__":Str))=false:=by decide):PE X (.Name x pos) (NI i):=aaj hN hv hd Be
def vy{A B:Prop}(h:B):if false=true then A else B:=by rw[az aW];exact h
def F2{A B:Prop}(h:A):if true=true then A else B:=by rw[aC rfl];exact h
def fo{c A B:Prop}[Decidable c](h1:c->A)(h2:¬c->B):if c then A else B:=by
 by_cases h:c
 ·rw[aC h];exact h1 h
 ·rw[az h];exact h2 h
def bq(H H':Hp):Prop:=∀b o,H b=some o->H' b=some o
def bq.refl(H:Hp):bq H H:=λ_ _ h=>h
def bq.trans(a:bq H H1)(b:bq H1 H2):bq H H2:=λc o h=>b c o (a c o h)
def bq.free(e:bq H H')(h:H' l=Option.none):H l=Option.none:=by
 cases q:H l with
 |none=>rfl
 |some o=>
  rw[e l o q]at h;cases h
end
section
variable{κ:Type}[DecidableEq κ]
def Su{k:κ}(h:fk kvs k=none):¬k∈kvs.map (·.1):=by intro m;obtain⟨p,hp,e⟩:=aR.mp m;have q:(-56)=true:=j7.mpr {p,hp,aZ e};rw[m9,h]at q;exact absurd q (-9)
def Xn{k:κ}{v:V}(h:fk kvs k=some v):k∈kvs.map (·.1):=by
 have q:(-56)=true:=by rw[m9,h];all_goals rfl
 obtain⟨p,hp,e⟩:=j7.mp q;exact aR.mpr {p,hp,bo e}
end
def Its(z:Str):It:={λi _=>i<z.cps.size,λi H x H'=>H'=H/\∃c,z.cps[i]?=some c/\x=.str ⟨#[c]⟩,λi _=>i=z.cps.size}
def Gr(hh:A.handled=none)(I:Addr)(x:Str)(t:Tok):
  Walks prog w A I [I] [I] x.cps.size (SignAt x) (λi h=>h.IsStrIter I (strIterType x) x t i):=by
 unfold strIterType;cases x.cps.all (·<128)with
 |true=>exact Walks.strAscii hh I x t
 |false=>exact Walks.strWide hh I x t
def HE(x:Str):["enumerate","zip","dict_itemiterator","dict_reverseitemiterator","odict_iterator","itertools.zip_longest","itertools.pairwise"].contains (strIterType x)=false:=by
 unfold strIterType;cases x.cps.all (·<128)with
 |true=>decide
 |false=>decide
def Sz{K:Frag}(it:Addr)(z:Str)(t:Tok):Turn P w K tg (Its z) [it] it (λi h=>h.IsStrIter it (strIterType z) z t i) where
 mem:=by simp
 obj:=λi h st b hb=>by
  have e:b=it:=by simpa using hb
  subst e;obtain⟨o,e,c,d⟩:=st;exact{o,e,λv z=>by rw[d]at z;cases z}
 keep:=λi h h' st k=>by obtain⟨o,e,r⟩:=st;exact{o,k it (-9) o e,r}
 item:=by intro X hP hw hK hc i pins s Z H E I hf st hg;subst hP hw hK;obtain⟨f0,f1,f2,f3,f4,f5⟩:=hf it (-9);have W:=Gr (prog:=X.prog) (w:=X.w) (I.ok.hd hc) it z t;refine W.item i s _ _ hg st λv h' tk hv g7 kk=>?_;obtain⟨c,u,qi,rfl⟩:=hv;have I1:Inv X pins Z H {s with heap:=h',toks:=tk}:=I.turned (λb o hb e=>kk b o (by simpa using hb) e) f0 f1 f3 f4 f5;obtain⟨o,e,c1,d1⟩:=id g7;exact{_,rfl,B7 (s:={s with heap:=h',toks:=tk}) e c1 d1 (HE z) {.str ⟨#[c]⟩,H,I1,⟨u,rfl⟩,⟨rfl,c,qi,rfl⟩,g7,λb hb=>(hf b hb).1}}
 done:=by intro X hP hw hK hc i pins s Z H E I hf st hg;subst hP hw hK;obtain⟨f0,f1,f2,f3,f4,f5⟩:=hf it (-9);have W:=Gr (prog:=X.prog) (w:=X.w) (I.ok.hd hc) it z t;have e:i=z.cps.size:=hg;subst e;exact W.done s _ _ st λh' tk kk=>{rfl,I.turned (λb o hb e=>kk b o (by simpa using hb) e) f0 f1 f3 f4 f5}
 self:=λA i s Q E st h=>by
  unfold strIterType at st;cases hx:z.cps.all (·<128)with
  |true=>rw[hx]at st;exact wpAny_pyIter_striter_ascii st h
  |false=>rw[hx]at st;exact wpAny_pyIter_striter_wide st h
section
variable{X:Cx}{tg:Expr}
inductive acu(R:It->Hp->Prop)(x:V)(H1:Hp):Prop
 |mk z (_:x=.str z) (_:R (Its z) H1)
def ady(tl:TE):TI:=λZ H R=>tl Z H λx H1=>acu R x H1
def aai(hl:PE X l tl):PI X tg l (ady tl):=by
 intro pins s Z H R I h;refine df (hl pins s Z H _ I h) λv s1 x H1 I1 r1 q1=>?_;obtain⟨z,e,q⟩:=q1;subst e;obtain⟨t,rfl⟩:=r1;refine wpAny_pyIter_strU ?_;have I2:Inv X pins Z H1 {s1 with heap:=s1.heap.push {cls:=.type (strIterType z),data:=.fields #[.str z t,.int 0 0]}}:=I1.kept (t':=s1.toks) λb o e=>aq _ e;refine{s1.heap.objs.size,[s1.heap.objs.size],_,Its z,H1,rfl,I2,Sz s1.heap.objs.size z t,{_,aF _ rfl,rfl,rfl},λb hb=>?_,q};have e:b=s1.heap.objs.size:=by simpa using hb
 subst e;exact I1.qM (ar _) (I1.br.fresh (ar _))
def frees(scope:Scope):Aah:=(scope.names.filter λp=>p.2==.free).map (·.1)
def DY(scope:Scope)(env:Env):List (Str×Addr):=(frees scope).reverse.map λn=>(n,(env.cells.lookup n).getD 0)
theorem Gf(env:Env):∀(names:List (Str×NameKind))(cs:List (Str×Addr)),(∀n∈(names.filter λp=>p.2==.free).map (·.1),∃c,env.cells.lookup n=some c)->
  (forIn names cs λ(x:Str×NameKind)(r:List (Str×Addr))=>(if x.2==.free then do let c<-cellOf env x.1;pure (ForInStep.yield ((x.1,c)::r))else pure (ForInStep.yield r):Sem (ForInStep (List (Str×Addr)))))=
   pure ((((names.filter λp=>p.2==.free).map (·.1)).reverse.map λn=>(n,(env.cells.lookup n).getD 0))++cs)
 |[],cs,_=>rfl
 |(n,k)::r,cs,h=>by
  rw[mZ];cases hk:(k==NameKind.free)with
  |false=>
   have h':∀m∈(r.filter λp=>p.2==.free).map (·.1),∃c,env.cells.lookup m=some c:=λm hm=>h m (by simpa[gj,hk]using hm);have ih:=Gf env r cs h';simp only[hk,cw,d6,gj,pure_bind];exact ih
  |true=>
   obtain⟨c,hc⟩:=h n (by simp[gj,hk]);have h':∀m∈(r.filter λp=>p.2==.free).map (·.1),∃c,env.cells.lookup m=some c:=λm hm=>h m (by
    simp only[gj,hk,lE,aU];exact aB _ hm)
   have ih:=Gf env r ((n,c)::cs) h';have ec:cellOf env n=pure c:=by unfold cellOf;rw[hc]
   simp only[hk,lE,gj,aU,List.reverse_cons,aJ,ji,cR,lY,kL,ec,pure_bind,hc,Option.getD_some];exact ih
def Fx(h:∀n∈frees scope,∃c,env.cells.lookup n=some c):closureFor scope env=pure (DY scope env):=by have e:=Gf env scope.names [] h;rw[b6]at e;have q:closureFor scope env=((forIn scope.names ([]:List (Str×Addr)) λ(x:Str×NameKind)(r:List (Str×Addr))=>(if x.2==.free then do let c<-cellOf env x.1;pure (ForInStep.yield ((x.1,c)::r))else pure (ForInStep.yield r):Sem (ForInStep (List (Str×Addr)))))>>=λr=>pure r):=rfl;rw[q,bind_pure];exact e
theorem AZ{β:Type}(g:Str->β)(y:Str):∀l:Aah,(l.map λn=>(n,g n)).lookup y=if y∈l then some (g y)else none
 |[]=>by simp
 |n::r=>by
  have ih:=AZ g y r;rw[aU,vP];cases e:(y==n)with
  |true=>
   have e':y=n:=iH e;subst e';simp
  |false=>
   have e':y≠n:=λq=>by rw[q]at e;simp at e
   show(r.map λn=>(n,g n)).lookup y=_;rw[ih];simp[e']
def sC(h:∀n∈frees scope,∃c,env.cells.lookup n=some c):(DY scope env).lookup y=some c↔y∈frees scope/\env.cells.lookup y=some c:=by
 unfold DY;rw[AZ (λn=>(env.cells.lookup n).getD 0)];by_cases hy:y∈frees scope
 ·obtain⟨d,hd⟩:=h y hy;rw[aC (j4.mpr hy),hd];simp[hy]
 ·rw[az λq=>hy (j4.mp q)];simp[hy]
theorem A0(f:Str->NameKind->NameKind)(y:Str):∀names:List (Str×NameKind),(names.map λp=>(p.1,f p.1 p.2)).lookup y=(names.lookup y).map (f y)
 |[]=>rfl
 |(n,k)::r=>by
  have ih:=A0 f y r;rw[aU,vP,vP];cases e:(y==n)with
  |true=>
   have e':y=n:=iH e;subst e';rfl
  |false=>exact ih
def xD(scope:Scope)(env:Env)(y:Str):(relabel scope env).names.lookup y=(scope.names.lookup y).map λk=>if(k==.free&&env.scope.kind==.function&&env.kindOf y==some .cell)=true then NameKind.cell else k:=by
 have e:(relabel scope env).names=scope.names.map λp=>(p.1,(λ(n:Str)(k:NameKind)=>if(k==.free&&env.scope.kind==.function&&env.kindOf n==some .cell)=true then NameKind.cell else k) p.1 p.2):=by unfold relabel;refine bX λp _=>?_;obtain⟨n,k⟩:=p;show(if(k==.free&&env.scope.kind==.function&&env.kindOf n==some .cell)=true then(n,NameKind.cell)else(n,k))=_;split<;>simp_all
 rw[e];exact A0 (λ(n:Str)(k:NameKind)=>if(k==.free&&env.scope.kind==.function&&env.kindOf n==some .cell)=true then NameKind.cell else k) y scope.names
end
structure pF(X:Cx)(scope:Scope)(x:Str)(fs:Aah)(fr:List Nat):Prop where
 kind:scope.kind=.function
 loc:scope.names.lookup x=some .local
 names:∀y∈scope.names,y.2=.local->scope.names.lookup y.1=some .local
 Qu:∀y∈scope.names,y.2≠ .cell
 free:∀n∈frees scope,X.env.kindOf n=some .cell/\scope.names.lookup n=some .free
 nd:(x::fs).Nodup
 len:fr.length=fs.length
 slots:∀(j:Nat)(y:Str)(k:Nat),fs[j]?=some y->fr[j]?=some k->X.N[k]?=some y/\y∈frees scope
abbrev d8(X:Cx)(N':Aah)(scope:Scope)(C:Addr)(s:Shared)(H:Hp)(ex:Aaj):Cx:=
 {X with N:=N',aab:=s,aae:=H,env:=compEnvC scope (DY scope X.env) C X.env,outer:=X.stack,stack:=X.stack,ex:=ex,fn:=λ_=>false,pn:=[],xe:=λ_ _=>False}
def CT(X:Cx)(ifs:List Expr)(tt:TT):Prop:=
 ∀(pins:Aac)(s:Shared)(Z:St)(H:Hp)(Q:Bool->Hp->Prop),Inv X pins Z H s->tt Z H Q->
  wpAny (-6) X.A (forIn ifs true λc r=>if r=true then do let ok<-isTrue c X.env (eval c X.env);pure (ForInStep.yield ok)else pure (ForInStep.yield r)) (TP X pins Z Q) X.xe s
def BW:TT:=λ_ H Q=>Q true H
def KN:CT X [] BW:=λ_ _ _ H _ I h=>wpAny_tests_nil ⟨H,I,h⟩
def RZ(h:PT X c tc):CT X [c] tc:=λpins s Z H Q I hq=>wpAny_tests_one (h pins s Z H Q I hq)
def slotsOf(fr:List Nat)(Z:St):St:=fr.map λk=>(Z[k]?).getD none
def uz(wi:TI)(fr:List Nat)(tt:TT)(te:TE):TE:=λZ H Q=>wi Z H λJ H1=>∃W:Nat->Nat->Aao->Hp->Prop,(∃m,W 0 m [] H1)/\∀i m ys H2,W i m ys H2->
 (J.stop i H2/\ys.length<=sizeLine/\∀l,H2 l=none->Q (.ref l) (upd H2 l (-39)))\/
 (J.go i H2/\ys.length<sizeLine/\∀v H3,J.xt i H2 v H3->tt (some v::slotsOf fr Z) H3 λb H4=>
  if b=true then te (some v::slotsOf fr Z) H4 (λy H5=>∃m',m'<m/\W (i+1) m' (ys++[y]) H5)else∃m',m'<m/\W (i+1) m' ys H4)
section
variable{X:Cx}
def CZ{h h':Heap}(k:∀b o,h.get? b=some o->h'.get? b=some o)(z:h.IsCell c v):h'.IsCell c v:=by obtain⟨o,e,d⟩:=z;exact{o,k _ _ e,d}
def Inv.adopt(I:Inv X pins Z H s)(hn:H D=none)(e:s.heap.get? D=some {cls:=.type "list",data:=.seq vs.toArray k})(r:Vals ys vs)(hz:ys.length<=sizeLine)
  (h1:X.aab.heap.objs.size<=D) (hL:D≠X.env.locals) (h2:∀x c,X.env.cells.lookup x=some c->c≠D) (h3:∀p∈X.pn++pins,p.1≠D):Inv X pins Z (upd H D (-39)) s:=by
 have nD:∀b u,H b=some u->b≠D:=λb u q z=>by rw[z,hn]at q;cases q
 have br:jI X.prog X.w (upd H D (-39)) s.heap:=λb u q=>by
  by_cases hb:b=D
  ·subst hb;rw[aw]at q;cases q;exact⟨hz,vs,k,r,e⟩
  ·rw[aE hb]at q;exact(I.br b u q).jx (λ_ _ _ z=>z) (λc z=>by rw[aE (nD c _ z)];exact z) λc xs z=>by rw[aE (nD c _ z)];exact z
 have J:=I.step (H':=upd H D (-39)) (h':=s.heap) (g':=s.gens) (t':=s.toks) (d':=s.drawn) (ch:=[D])
  (λb hb=>by
   have e':b=D:=by simpa using hb
   subst e';exact{.inr h1,hL,h2,h3})
  (λb o _ _ _ q _=>q) (λb o _ _ _ q _=>{o.slots,q}) (λb o hc _ n=>by rw[aE λz=>hc (by simp[z])];exact n) (λb o _ q=>⟨o,q⟩)
  (λb xs q=>by rw[aE (nD b _ q)];exact q) (λb o u q=>by rw[aE (nD b _ q)];exact q) (λb ps q=>{#[],by rw[aE (nD b _ q),q];simp}) (λm hm=>hm) br I.bare
 exact J
def YR(S:pF X scope x fs fr)(I2:Inv X pins Z H s2)(I3:Inv X pins Z H s)
  (hD:D=s2.heap.objs.size) (hs:s.heap.objs.size=D+1) (bK:∀b∈fp,b<D) (f2:∀b∈fp,pV X pins H b):(d8 X (x::fs) scope s.heap.objs.size s H (D::fp)).Ok:=by
 have zU:∀n∈frees scope,∃c,X.env.cells.lookup n=some c:=λn hn=>I3.ok.has n (.inl (S.free n hn).1);have sub:∀{y:Str}{c:Addr},(DY scope X.env).lookup y=some c->X.env.cells.lookup y=some c:=λh=>((sC zU).mp h).2;refine{I3.ok.mod,S.kind,I3.ok.glob,I3.ok.blt,ar _,λa b c h1 h2=>I3.ok.inj a b c (sub h1) (sub h2),λy hy=>?_,(λ_ _ h=>by cases h),I3.ok.hd,I3.ok.frames,.inl rfl,λb hb=>?_,I3.bs,aD I3.ok.Df I3.sz,λb o e hb=>?_,λb hb hf=>?_,I3.stack,I3.L4}
 ·have q:(relabel scope X.env).names.lookup y=some .cell\/(relabel scope X.env).names.lookup y=some .free:=hy;have nf:scope.names.lookup y=some .free:=by
   rw[xD]at q;cases e:scope.names.lookup y with
   |none=>rw[e]at q;simp at q
   |some k=>
    rw[e]at q;cases k with
    |free=>rfl
    |cell=>
     have hm:(y,NameKind.cell)∈scope.names:=by have:=v5.mp e;obtain⟨l1,l2,z,_⟩:=this;rw[z];simp
     exact absurd rfl (S.Qu _ hm)
    |_=>simp at q
  have hm:y∈frees scope:=by obtain⟨l1,l2,z,_⟩:=v5.mp nf;unfold frees;rw[z];simp
  obtain⟨c,hc⟩:=zU y hm;exact{c,(sC zU).mpr ⟨hm,hc⟩}
 ·rcases aG.mp hb with rfl|hb
  ·refine{λz=>?_,λy c h z=>?_}
   ·exact absurd (hs.symm.trans z.symm:b+1=b) (Nat.succ_ne_self b)
   ·obtain⟨v,q⟩:=I2.cell y c (sub h);have:=q.lt;rw[z,hD]at this;exact absurd this (dD _)
  ·refine{λz=>?_,λy c h=>(f2 b hb).2.2.2.2.1 y c (sub h)};have q:b<D+1:=eA (bK b hb);rw[z]at q;exact absurd q (by show ¬s.heap.objs.size<D+1;rw[hs];exact dD _)
 ·have kJ:b<X.base.objs.size:=aI e;have h1:=I2.ok.Df;have h2:=I2.sz;rcases aG.mp hb with rfl|hb
  ·rw[hD]at kJ;exact absurd (a9 kJ (aD h1 h2)) (dD _)
  ·rcases(f2 b hb).2.2.2.1 with z|z
   ·exact I2.ok.FY b o e z
   ·exact absurd (a9 kJ (aD h1 z)) (dD _)
 ·have hf':b∈zW X.stack:=hf;rcases aG.mp (I2.Iz b hf')with z|z
  ·rcases aG.mp hb with rfl|hb
   ·have:=I2.lt;rw[<-z,hD]at this;exact absurd this (dD _)
   ·exact(f2 b hb).2.1 z
  ·rcases aG.mp hb with rfl|hb
   ·exact I2.aav (BI hD.symm) z
   ·exact(f2 b hb).2.2.1 z
def UQ(S:pF X scope x fs fr)(I3:Inv X pins Z H s)
  (ok:(d8 X (x::fs) scope s.heap.objs.size s H ex).Ok) (hn:h4.Ns s.heap.objs.size m) (old:∀b o,s.heap.get? b=some o->h4.get? b=some o):
  Inv (d8 X (x::fs) scope s.heap.objs.size s H ex) [] (none::slotsOf fr Z) H {s with heap:=h4,toks:=t}:=by
 have zU:∀n∈frees scope,∃c,X.env.cells.lookup n=some c:=λn hn=>I3.ok.has n (.inl (S.free n hn).1);have sub:∀{y:Str}{c:Addr},(DY scope X.env).lookup y=some c->X.env.cells.lookup y=some c:=λh=>((sC zU).mp h).2;refine{ok,rfl,I3.bare,Un.kept old,{m,hn,λi y v e1 e2 e3=>?_},λy c h=>?_,I3.br.fresh (ar _),λy c h=>I3.oA y c (sub h),λp hp=>absurd hp (-9),I3.br.kept old,?_}
 ·cases i with
  |zero=>
   have Hr:(none:Aap)=some v:=by simpa using e2
   cases Hr
  |succ j=>
   have e1':fs[j]?=some y:=by simpa using e1
   have Hr:(slotsOf fr Z)[j]?=some (some v):=by simpa using e2
   unfold slotsOf at Hr;rw[aK]at Hr;cases hk:fr[j]? with
   |none=>rw[hk]at Hr;cases Hr
   |some k=>
    rw[hk]at Hr;have e4:(Z[k]?).getD none=some v:=by simpa using Hr
    have e5:Z[k]?=some (some v):=by
     cases q:Z[k]? with
     |none=>rw[q]at e4;cases e4
     |some z=>rw[q]at e4;exact bU some e4
    obtain⟨n1,n2⟩:=S.slots j y k e1' hk;obtain⟨m0,_,hl⟩:=I3.loc;obtain⟨u,ru,l⟩:=hl k y v n1 e5 (.inr (.inl (S.free y n2).1));have kc:=(S.free y n2).1;rcases l with⟨l,_⟩|⟨_,c,hc,cl⟩
    ·rw[kc]at l;cases l
    ·refine{u,ru,.inr {.inl ?_,c,(sC zU).mpr ⟨n2,hc⟩,CZ old cl}};show(relabel scope X.env).names.lookup y=some .cell;have kf:X.env.scope.kind=.function:=I3.ok.kind;rw[xD,(S.free y n2).2,kf,kc];rfl
 ·obtain⟨v,z⟩:=I3.cell y c (sub h);exact{v,CZ old z}
 ·show(none::slotsOf fr Z).length=(x::fs).length;simp[slotsOf,S.len]
abbrev lobj(vs:Aag)(k:Nat):Obj:={cls:=.type "list",data:=.seq vs.toArray k}
theorem LO:∀(xs:Aao)(us:Aag),xs.length=us.length->(∀(j:Nat)(x:V)(u:Value),xs[j]?=some x->us[j]?=some u->RelV x u)->Vals xs us
 |[],[],_,_=>.nil
 |[],_::_,h,_=>by cases h
 |_::_,[],h,_=>by cases h
 |x::xs,u::us,h,f=>.cons (f 0 x u rfl rfl) (LO xs us (by simpa using h) λj a b e1 e2=>f (j+1) a b (by simpa using e1) (by simpa using e2))
def rL(h:yV k v=true):RelV (kV k) v:=by
 rcases ij h with⟨i,t,rfl,rfl⟩|⟨x,t,rfl,rfl⟩
 ·exact⟨t,rfl⟩
 ·exact⟨t,rfl⟩
def range_all(bs:List Bool):((List.range bs.length).all λi=>(bs[i]?).getD true)=bs.all id:=by
 rw[fV,bZ,bZ];constructor
 ·intro h b hb;obtain⟨i,hi⟩:=dy.mp hb;have:=h i (cY.mpr (ax.mp hi).1);rw[hi]at this;exact this
 ·intro h i hi;have bK:=cY.mp hi;rw[au bK];exact h _ (gh bK)
def Gg(hc:X.calm=true):jv X (.type "list") (λxs H Q=>∃a kvs,xs=[.ref a]/\H a=some (.dK kvs)/\∀l,H l=none->Q (.ref l) (upd H l (.lst (kvs.map λkv=>kV kv.1)))):=by
 intro pins s Z H xs us Q I r h;obtain⟨a,kvs,rfl,ha,q⟩:=h;obtain⟨u,rfl,ru⟩:=lP r;cases ru;obtain⟨hz,lo,vs,rel,o,es,ep,m⟩:=oB I.br ha;have at':s.heap.DictAt (bH X.prog X.w) a vs ep:=⟨o,es,m⟩;have hl:kvs.length=vs.length:=rel.length;have hk:kvs.map (·.1)=vs.map (·.1):=rel.keys;refine PySem.W.kdl_call (PySem.W.kdl_dict lo) (I.ok.hd hc) at' (by rw[<-hl];exact hz) λh' tk tT c' kp e it=>?_;have rv:Vals (kvs.map λkv=>kV kv.1) tT.toList:=by
  refine LO _ _ (by simp[it.1,hl]) λj x v e1 e2=>?_;obtain⟨k,y,e3,e4⟩:=it.2 j v (by rw[<-bJ];exact e2);have e5:(kvs.map (·.1))[j]?=some k:=by rw[hk,aK,e3];rfl
  rw[aK]at e1 e5;cases e6:kvs[j]? with
  |none=>rw[e6]at e1;cases e1
  |some p=>
   rw[e6]at e1 e5;obtain rfl:kV p.1=x:=bN e1;obtain rfl:p.1=k:=bN e5;exact rL e4
 exact{.ref s.heap.objs.size,_,I.laid (t':=tk) kp (ar _) (show dG X.prog X.w _ h' _ (.lst _)from{by rw[ak];exact hz,tT.toList,c',rv,by simpa using e}),rfl,q _ I.fresh}
def yh(hc:X.calm=true):jv X (.builtin "all") (λxs H Q=>∃(a:Addr)(bs:List Bool),xs=[.ref a]/\bp X.K H a (bs.map V.bl)/\Q (.bl (bs.all id)) H):=by
 intro pins s Z H xs us Q I r h;obtain⟨a,bs,rfl,ha,q⟩:=h;obtain⟨u,rfl,ru⟩:=lP r;cases ru;obtain⟨aY,rv,p,hz⟩:=I.list ha;have hl:aY.length=bs.length:=by have:=rv.length;simpa using this.symm
 have ig:a≠s.heap.objs.size:=by obtain⟨o,n,e,_⟩:=id p;exact aL (aI e)
 refine call_all_walk (kU p.isList ?_);refine{s.heap.objs.size,_,_,aY.toArray.size,_,_,λi=>(bs[i]?).getD true,rfl,Walks.list (A:=X.A.in1) (show X.A.in1.handled=none from I.ok.hd hc) s.heap.objs.size a ig aY.toArray,{{_,aF _ rfl,rfl,rfl},p.isList.at λo e=>aq _ e},?_,λh' tk kp=>?_}
 ·intro i v s' Q' E' hP hQ;have hP':aY[i]?=some v:=by simpa using hP
  have hi:i<bs.length:=by rw[<-hl];exact(ax.mp hP').1
  have e1:(bs.map V.bl)[i]?=some (.bl bs[i]):=by rw[aK,au hi];rfl
  obtain⟨u,hu,ru⟩:=rv.get e1;rw[hP']at hu;cases hu;cases ru;refine iD ?_;have e2:(bs[i]?).getD true=bs[i]:=by rw[au hi];rfl
  rw[<-e2];exact hQ
 ·refine{.bl (bs.all id),H,I.kept (t':=tk) λb o e=>kp b o (by simpa using aL (aI e)) (aq _ e),?_,q};show Value.bool _=Value.bool _;rw[aQ,hl,range_all]
def pk:jv X (.builtin "isinstance") (λxs H Q=>∃x n t b,xs=[x,.ty n]/\oW X.K H x t/\kitOne X.K t (.type n)=some b/\Q (.bl b) H):=by intro pins s Z H xs us Q I r h;obtain⟨x,n,t,b,rfl,ty,e,q⟩:=h;obtain⟨u,w',rfl,ru,pb⟩:=vals2 r;cases pb;exact QY I ru ty e λtk=>{.bl b,H,I.tok tk,rfl,q}
inductive XM(x:V)(vs:Aao)(H:Hp)(Q:VK):Prop
 |mk a b (_:x=.str a) (_:vs=[.str b]) (_:Q (.bl (Txt.startswith a b)) H)
def HK:Se X "str.startswith" XM:=by intro pins s Z H x vs v us Q I rx rv h;obtain⟨a,b,rfl,rfl,q⟩:=h;obtain⟨t,rfl⟩:=rx;obtain⟨u,rfl,ru⟩:=rv.one;obtain⟨t',rfl⟩:=ru;exact call_gives F.slot_str_startswith (oj s a t) F.entry_str_startswith (F.args_str_startswith_2 _ _) (gives_str_startswith a b t t') {.bl _,H,I,rfl,q}
inductive ac8(x:V)(lo:Option Int)(hi:Option Int)(H:Hp)(Q:VK):Prop
 |mk z (_:x=.str z) (_:z.length<=sizeLine) (_:Q (.str (Txt.slice z lo hi)) H)
def ZQ:Nu X ac8:=by
 intro pins s Z H x v vl vu lo hi sl Q I rx hs pl pu h;obtain⟨z,rfl,hz,q⟩:=h;obtain⟨t,rfl⟩:=rx;cases pl with
 |none=>
  cases pu with
  |none=>exact{"str",_,F.slot_str_getitem.lookup,oj _ _ _,kz (l:=none) (u:=none) (st:=none) hs rfl (-46)}
  |int j tj=>exact{"str",_,F.slot_str_getitem.lookup,oj _ _ _,kz (l:=none) (u:=some (j,tj)) (st:=none) hs rfl (-46)}
 |int i ti=>
  cases pu with
  |none=>exact{"str",_,F.slot_str_getitem.lookup,oj _ _ _,kz (l:=some (i,ti)) (u:=none) (st:=none) hs rfl (-46)}
  |int j tj=>exact{"str",_,F.slot_str_getitem.lookup,oj _ _ _,kz (l:=some (i,ti)) (u:=some (j,tj)) (st:=none) hs rfl (-46)}
def acR(_i j:Int):Prop:=0<j/\j.natAbs.log2<9000
def Tr:jh X (binaryOp .FloorDiv) (rI acR λi j=>.int (i/j)):=VB λi j _ _ _ _ _ hc q=>by have h1:(0:Int)<j:=hc.1;exact floordiv_int ∅ (by rw[Int.fdiv_eq_ediv_of_nonneg i ∅];exact q) (.inl (PyProof.noPylong_of_log2 hc.2))
mutual
def Dt(K:Frag)(H:Hp):PyData->V->Prop
 | .none,x=>x=.cE
 | .bool b,x=>x=.bl b
 | .int i,x=>x=.int i
 | .str z,x=>x=.str z
 | .list ds,x=>∃a xs,x=.ref a/\bp K H a xs/\lZ K H ds xs
 | .tuple ds,x=>∃a xs,x=.ref a/\bF K H a xs/\lZ K H ds xs
 | .dict _,_=>False
def lZ(K:Frag)(H:Hp):List PyData->Aao->Prop
 |[],xs=>xs=[]
 |d::ds,xs=>∃x r,xs=x::r/\Dt K H d x/\lZ K H ds r
end
mutual
theorem pO(I:Inv X pins Z H s):∀(d:PyData)(x:V)(v:Value),Dt X.K H d x->RelV x v->∃as,Reads s.heap v d as
 | .none,x,v,h,r=>by rw[Dt]at h;subst h;cases r;exact{_,.none}
 | .bool b,x,v,h,r=>by rw[Dt]at h;subst h;cases r;exact{_,.bool b}
 | .int i,x,v,h,r=>by rw[Dt]at h;subst h;obtain⟨t,rfl⟩:=r;exact{_,.int i t}
 | .str z,x,v,h,r=>by rw[Dt]at h;subst h;obtain⟨t,rfl⟩:=r;exact{_,.str z t}
 | .list ds,x,v,h,r=>by rw[Dt]at h;obtain⟨a,xs,rfl,hq,ha⟩:=h;cases r;obtain⟨aY,rv,⟨o,n,e,c,_,d⟩,_⟩:=I.list hq;obtain⟨as,ra⟩:=wY I ds xs aY ha rv;exact{_,.list e c d (by simpa using ra)}
 | .tuple ds,x,v,h,r=>by rw[Dt]at h;obtain⟨a,xs,rfl,hq,ha⟩:=h;cases r;obtain⟨aY,rv,⟨o,e,c,n,d⟩,_⟩:=I.tuple hq;obtain⟨as,ra⟩:=wY I ds xs aY ha rv;exact{_,.tuple e c d (by simpa using ra)}
 | .dict _,x,v,h,r=>by rw[Dt]at h;exact h.elim
theorem wY(I:Inv X pins Z H s):∀(ds:List PyData)(xs:Aao)(vs:Aag),lZ X.K H ds xs->Vals xs vs->∃as,ReadsAll s.heap vs ds as
 |[],xs,vs,h,r=>by rw[lZ]at h;subst h;cases r;exact{_,.nil}
 |d::ds,xs,vs,h,r=>by
  rw[lZ]at h;obtain⟨x,r',rfl,h1,h2⟩:=h;cases r with
  |cons r1 r2=>
   obtain⟨as,q1⟩:=pO I d x _ h1 r1;obtain⟨bs,q2⟩:=wY I ds r' _ h2 r2;exact{_,.cons q1 q2}
end
inductive ade(K:Frag)(neg:Bool)(x:V)(y:V)(H:Hp)(Q:VK):Prop
 |mk d e (_:Dt K H d x) (_:Dt K H e y) (_:SeqAt.shaped d=true) (_:SeqAt.shaped e=true) (_:Q (.bl (if neg then !PyData.eqv d e else PyData.eqv d e)) H)
def aan(hu:X.A.units+64<cLine):jh X (compareOp .NotEq) (ade X.K true):=by intro pins s Z H x y v u Q I rx ry h;obtain⟨d,e,h1,h2,h3,h4,q⟩:=h;obtain⟨as,r1⟩:=pO I d x v h1 rx;obtain⟨bs,r2⟩:=pO I e y u h2 ry;exact ne_dataH r1 r2 h3 h4 hu {.bl _,H,I,rfl,q}
theorem Fo{K:Frag}:∀zs:Aah,lZ K H (zs.map PyData.str) (zs.map V.str)
 |[]=>by rw[ji,lZ];rfl
 |z::r=>by rw[aU,aU,lZ];exact{_,_,rfl,by rw[Dt],Fo r}
theorem C9:∀xs ys:Aah,PyData.eqvAll (xs.map PyData.str) (ys.map PyData.str)=decide (xs=ys)
 |[],[]=>by simp[PyData.eqvAll]
 |[],_::_=>by simp[PyData.eqvAll]
 |_::_,[]=>by simp[PyData.eqvAll]
 |a::r,b::t=>by simp only[aU,PyData.eqvAll,PyData.eqv,C9 r t];by_cases h:a=b<;>by_cases h':r=t<;>simp[h,h']
theorem JW:∀zs:Aah,(∀z∈zs,PyData.strOk z=true)->PyData.canLayAll0 (zs.map PyData.str)=true
 |[],_=>rfl
 |z::r,h=>by have h1:=h z aA;have h2:=JW r λy hy=>h y (aB _ hy);simp[PyData.canLayAll0,PyData.canLay0,h1,h2]
theorem Fq:∀zs:Aah,PyData.depthAll (zs.map PyData.str)=0
 |[]=>rfl
 |_::r=>by simp[PyData.depthAll,PyData.depth,Fq r]
def O9(osc:Scope)(N:Aah)(scope:Scope)(x:Str)(fs:Aah)(fr:List Nat):Bool:=
 scope.kind==.function&&scope.names.lookup x==some .local&&scope.names.all (λy=>!(y.2==.local)||scope.names.lookup y.1==some .local)&&scope.names.all (λy=>!(y.2==.cell))&&
  (frees scope).all (λn=>osc.names.lookup n==some .cell&&scope.names.lookup n==some .free)&&decide ((x::fs).Nodup)&&fr.length==fs.length&&
  (List.range fs.length).all (λj=>match fs[j]?,fr[j]? with|some y,some k=>N[k]?==some y&&decide (y∈frees scope)|_,_=>false)
end
def cU(h:O9 X.env.scope X.N scope x fs fr=true:=by kernel_rfl):pF X scope x fs fr:=by
 unfold O9 at h;simp only[bB]at h;obtain⟨⟨⟨⟨⟨⟨⟨h1,h2⟩,h3⟩,h4⟩,h5⟩,h6⟩,h7⟩,h8⟩:=h;refine{iH h1,iH h2,λy hy e=>?_,λy hy e=>?_,λn hn=>?_,bo h6,iH h7,λj y k e1 e2=>?_}
 ·have:=bZ.mp h3 y hy;rw[e]at this;simpa using this
 ·have:=bZ.mp h4 y hy;rw[e]at this;simp at this
 ·have:=bZ.mp h5 n hn;rw[bB]at this;exact{iH this.1,iH this.2}
 ·have:=bZ.mp h8 j (cY.mpr (ax.mp e1).1);rw[e1,e2]at this;simp only[bB]at this;exact{iH this.1,bo this.2}
def dP(P:Program)(w:World)(K:Frag)(mg:Aad)(base:Heap)(k:Nat)(x:Str)(ps:Aah)(sp:Sp):Prop:=
 ∃f fd,dk P w K mg base fU k f fd ps sp/\mg x=some (.ref f)/\keepIn K (.ref f)=true/\Binds K fd ps []
def cl(D:dP X.prog X.w X.K X.mg X.base k x ps sp)(hr:gZ j X.A)(ha:PA X (e::es) t)(hk:k<=j:=by decide)(hg:Gl X x:=by rfl)
  (Bd:(-33)=false:=by decide) (he:starEach (e::es) X.env=(false,eval e X.env)::starEach es X.env:=by rfl) (ud:(-37).any (·.1)=false:=by rfl):
  PE X (-66) (Vl sp [] E0 t):=by
 obtain⟨f,fd,F,m,kp,b⟩:=D;exact X2 F (hr.mono hk) hg m kp b .nil N7 ha Bd he ud
def ET(l:Addr)(items:Aal)(n:Nat)(b:Addr)(dd:Aak)(sl:Array (Option Value))(xT:Aal)(n2:Nat)(hs0:¬(!items.isEmpty&&Builtin.List.listTooLong (items.size+xT.size))=true)(wy:items.size<=sizeLine)(kI:items.size+xT.size<=sizeLine+1):
  Meets (Builtin.«list.extend» {[.ref l,.ref b],[]}) (λ_ R s=>s.heap.get? l=some {cls:=.type "list",dict:=none,data:=.seq items n,slots:=#[]}/\s.heap.get? b=some {cls:=.type "tuple",dict:=dd,data:=.seq xT n2,slots:=sl}/\R (.ok (.ret Value.none)) {s with heap:=s.heap.update l (Obj.mapSeq λx=>x++xT),toks:=s.toks}):=
 .of_wp λprog w A R s h=>by
  obtain⟨hp,g,d,tk,os⟩:=s;obtain⟨hl,hb,h⟩:=h;have lN:(items++xT).size<=sizeLine+1:=by rw[Array.size_append];exact kI
  wp_walk using(jk hl rfl (hz:=wy) (_hz':=lN)),wpAny_loadPart' hl,wpAny_loadPart' hb
  exact⟨_,rfl,h⟩
section
variable{X:Cx}
inductive S7(K:Frag)(x:V)(vs:Aao)(H:Hp)(Q:VK):Prop
 |mk l b xs zs (_:x=.ref l) (_:vs=[.ref b]) (_:H l=some (.lst xs)) (_:bF K H b zs) (_:xs.length+zs.length<=sizeLine) (_:Q .cE (upd H l (.lst (xs++zs))))
def Og:Sf X "list.extend" (S7 X.K):=by
 intro pins s Z H x vs v us Q I rx rv h;obtain⟨l,b,xs,zs,rfl,rfl,hH,hB,hz,q⟩:=h;cases rx;obtain⟨u,rfl,ru⟩:=rv.one;cases ru;obtain⟨z,aY,n,r,hl,e⟩:=I.DH hH;obtain⟨qH,r2,⟨⟨cls,dd,data,sl⟩,e2,ya,n2,hd2⟩,z2⟩:=I.tuple hB;simp only at ya hd2;subst ya hd2;have jF:=r2.length;have hsz:aY.toArray.size+qH.toArray.size<=sizeLine:=by rw[aQ,aQ];lia
 have OF:¬(!aY.toArray.isEmpty&&Builtin.List.listTooLong (aY.toArray.size+qH.toArray.size))=true:=by rw[JJ hsz,sf];exact aW
 refine uI BN ⟨_,e,rfl⟩ Ak (zA _ _)
  (ET l aY.toArray n b dd sl qH.toArray n2 OF (by rw[aQ];lia) ∅) {e,e2,?_}
 refine{.cE,_,I.Om (its':=aY++qH) hH e (-9) (r.append r2) ?_,rfl,q};rw[aO];lia
end
def cut(n:Nat)(C:St->Hp->Prop)(ht:∃t2,mY X (body.drop n) t2/\∀Z H,C Z H->t2 D Z H)
  (hh:∀t2,mY X (body.drop n) t2->∃t,mY X body t/\((∀Z H,C Z H->t2 D Z H)->t D σ0 H0)):∃t,mY X body t/\t D σ0 H0:=by
 obtain⟨t2,p,q⟩:=ht;obtain⟨t,p',q'⟩:=hh t2 p;exact{t,p',q' q}
def Tj(hg:Gl X x)(hm:∃t,X.mg x=some (.int i t))(hd:(-33)=false:=by decide):PE X (.Name x pos) (tC (.int i)):=by obtain⟨t,hm⟩:=hm;exact Mt hg hm ⟨t,rfl⟩ hd
def Ti(hg:Gl X x)(hm:∃t,X.mg x=some (.str z t))(hd:(-33)=false:=by decide):PE X (.Name x pos) (tC (.str z)):=by obtain⟨t,hm⟩:=hm;exact Mt hg hm ⟨t,rfl⟩ hd
section
variable{X:Cx}{K:Frag}
def vv(h:X.K=K:=by rfl):Nv X (Z6 K):=h▸hJ
def uR(h:X.K=K:=by rfl):Nv X (Z5 K):=h▸lD
def Br(h:X.K=K:=by rfl):jv X (.builtin "len") (λxs H Q=>∃x n,xs=[x]/\abI K x H n/\Q (.int n) H):=h▸iS
def tM(h:X.K=K:=by rfl):jh X (compareOp .NotIn) (Z7 K true):=h▸AO
def KU(h:X.K=K:=by rfl):jv X (.builtin "isinstance") (λxs H Q=>∃x n t b,xs=[x,.ty n]/\oW K H x t/\kitOne K t (.type n)=some b/\Q (.bl b) H):=h▸pk
def gq{A B:Hp->Prop}(h:A H):BW Z H (λb H4=>if b=true then A H4 else B H4):=by show(if true=true then A H else B H);rw[aC rfl];exact h
end
end L2
namespace HT
open PySem PySem.Spec PyProof.Rows
section
variable{prog:Program}{w:World}{A:Around}{E:Aae}{s:Shared}
def Ae{t sl:Addr}{items:Aal}{vl vu:Value}{lo hi:Option Int}{Q:Aae}(ht:IsTup s.heap t items)(hs:s.heap.IsSliceOf sl vl vu .none)(pl:IsPart vl lo)(pu:IsPart vu hi)
  (hw:dH items.size 0 lo=0/\dH items.size items.size hi=items.size) (h:Q (.ref t) s):wpAny (-5) A (getItem (.ref t) (.ref sl)) Q E s:=by
 obtain⟨os,Ki,WA,Rt⟩:=id hs;have hTs:s.TypeIs (.ref sl) "slice":=⟨os,Ki,WA⟩;unfold getItem
 try with_reducible refine bQ ?_
 first|refine af (ao ?_)|skip
 refine af (Cd ht.typeIs (-8) ?_);refine af (wpAny_callSpecial?_slot (name:=Str.ofString "__getitem__") ht.typeIs eC
  (bz eC ht.typeIs Af ?_ (Bz _ _)))
 show wpAny _ _ (Builtin.Tuple.tupleItemsOf (.ref t)>>=_) _ _ s;refine af (tupleItemsOf_ ht ?_);refine af (fZ hTs ?_);rw[aC (-8)];refine af (u6 hs pl pu ?_);have ad1:(-19)=true:=by rw[hw.1,hw.2];simp
 show wpAny _ _ (if(-19)=true then _ else _) _ _ s;rw[aC ad1];unfold Builtin.Tuple.tupleIsExact;refine af (af (fZ ht.typeIs ?_));refine ao ?_;rw[aC (-8)]
 wp_walk
 exact{_,rfl,ao h}
def UU(ht:IsTup s.heap t vs.toArray)(hb:IsTup s.heap b ws.toArray)(h0:vs=[]->Q (.ref b) s)
  (h1:vs≠[]->ws=[]->Q (.ref t) s) (h2:vs≠[]->ws≠[]->Q (-12) {s with heap:=s.heap.push {cls:=.type "tuple",data:=.seq (vs++ws).toArray}})
  (hsz:vs.length+ws.length<=sizeLine):wpAny (-5) A (binaryOp .Add (.ref t) (.ref b)) Q E s:=by
 by_cases hv:vs=[]
 ·obtain⟨⟨cls,dd,data,sl⟩,ho,hc,n,hd⟩:=id ht;obtain⟨⟨aes,Nl,data2,Vs⟩,zR,ya,n2,hd2⟩:=id hb;simp only at hc hd ya hd2;subst hc hd ya hd2;exact Bo ⟨_,ho,rfl⟩ ⟨_,zR,rfl⟩ vg zH pz oN (nV _ _)
   (tuple_addW0 t b vs.toArray ws.toArray n n2 dd Nl sl Vs (by simp[hv])) {ho,zR,h0 hv}
 ·exact YT ht hb hv (h1 hv) (h2 hv) hsz
end
end HT
namespace L2
open PySem PySem.Spec PyProof.Rows
section
variable{X:Cx}
inductive Z2(K:Frag)(x:V)(lo:Option Int)(hi:Option Int)(H:Hp)(Q:VK):Prop
 |mk a xs (_:x=.ref a) (_:bF K H a xs) (_:((HT.dH xs.length 0 lo=0/\HT.dH xs.length xs.length hi=xs.length)->Q (.ref a) H)) (_:(¬(HT.dH xs.length 0 lo=0/\HT.dH xs.length xs.length hi=xs.length)->∀p,H p=none->Q (.ref p) (upd H p (.tup (kA xs lo hi)))))
def Mc:Nu X (Z2 X.K):=by
 intro pins s Z H x v vl vu lo hi sl Q I rx hs pl pu h;obtain⟨a,xs,rfl,hx,q1,q2⟩:=h;by_cases hw:HT.dH xs.length 0 lo=0/\HT.dH xs.length xs.length hi=xs.length
 ·cases rx;obtain⟨aY,r,ht,hz⟩:=I.tuple hx;have hlen:aY.toArray.size=xs.length:=by rw[aQ];exact r.length.symm
  refine{"tuple",_,eC.lookup,ht.typeIs,?_};exact HT.Ae ht hs pl pu (by rw[hlen];exact hw) {.ref a,H,I,rfl,q1 hw}
 ·exact ZP pins s Z H (-51) v vl vu lo hi sl Q I rx hs pl pu {a,xs,rfl,hx,hw,q2 hw}
inductive NT(K:Frag)(x:V)(y:V)(H:Hp)(Q:VK):Prop
 |mk a b xs ys (_:x=.ref a) (_:y=.ref b) (_:bF K H a xs) (_:bF K H b ys) (_:xs.length+ys.length<=sizeLine) (_:(xs=[]->Q (.ref b) H)) (_:(xs≠[]->ys=[]->Q (.ref a) H)) (_:(xs≠[]->ys≠[]->∀p,H p=none->Q (.ref p) (upd H p (.tup (xs++ys)))))
def FV:jh X (binaryOp .Add) (NT X.K):=by intro pins s Z H x y v u Q I rx ry h;obtain⟨a,b,xs,ys,rfl,rfl,ha,hb,hz,q0,q1,q2⟩:=h;cases rx;cases ry;obtain⟨aY,r1,p1,_⟩:=I.tuple ha;obtain⟨qH,r2,p2,_⟩:=I.tuple hb;refine HT.UU p1 p2 (λz=>{.ref b,H,I,rfl,q0 (r1.xN.mp z)}) (λn z=>{.ref a,H,I,rfl,q1 (λz=>n (r1.xN.mpr z)) (r2.xN.mp z)}) (λn z=>?_) (by rw[<-r1.length,<-r2.length];exact hz);refine{.ref s.heap.objs.size,_,I.laid (t':=s.toks) (o:=.tup (xs++ys)) (λb ob q=>aq _ q) (ar _) ?_,rfl,q2 (λz=>n (r1.xN.mpr z)) (λw=>z (r2.xN.mpr w)) _ (-72)};exact{by rw[aO];exact hz,_,r1.append r2,BM _ _,_,aF _ rfl,rfl}
inductive Z4(K:Frag)(neg:Bool)(x:V)(y:V)(H:Hp)(Q:VK):Prop
 |mk a b xs (_:x=.ref a) (_:y=.ref b) (_:bp K H a xs) (_:bp K H b []) (_:Q (.bl (if neg then !xs.isEmpty else xs.isEmpty)) H)
def aap(hu:X.A.units<cLine):jh X (compareOp .Eq) (Z4 X.K false):=by
 intro pins s Z H x y v u Q I rx ry h;obtain⟨a,b,xs,rfl,rfl,ha,hb,q⟩:=h;cases rx;cases ry;obtain⟨aY,r1,p1,_⟩:=I.list ha;obtain⟨qH,r2,p2,_⟩:=I.list hb;cases r2;cases xs with
 |nil=>
  cases r1;exact SeqAt.eq_listAt (e:=λ_=>true) p1.isList p2.isList rfl hu (λj h1 _=>absurd h1 (iA _)) {.bl true,H,I,rfl,q}
 |cons c l=>
  cases r1 with
  |cons r0 r1=>exact SeqAt.eq_list_lengthsAt p1.isList p2.isList (-9) hu {.bl false,H,I,rfl,q}
def Qm(hu:X.A.units<cLine):jh X (compareOp .NotEq) (Z4 X.K true):=by
 intro pins s Z H x y v u Q I rx ry h;obtain⟨a,b,xs,rfl,rfl,ha,hb,q⟩:=h;cases rx;cases ry;obtain⟨aY,r1,p1,_⟩:=I.list ha;obtain⟨qH,r2,p2,_⟩:=I.list hb;cases r2;cases xs with
 |nil=>
  cases r1;exact SeqAt.RcNeAt.lists (e:=λ_=>true) p1.isList p2.isList rfl hu (λj h1 _=>absurd h1 (iA _)) X.prog X.w X.xe _ {.bl false,H,I,rfl,q}
 |cons c l=>
  cases r1 with
  |cons r0 r1=>exact SeqAt.RcNeAt.lists_lengths p1.isList p2.isList (-9) hu X.prog X.w X.xe _ {.bl true,H,I,rfl,q}
variable{K:Frag}{a:Addr}{xs:Aao}{fr:List Nat}{tt:TT}{te:TE}{Z:St}{H1:Hp}{R:Addr->Aao->Hp->Prop}
abbrev zC(J:It)(fr:List Nat)(tt:TT)(te:TE)(Z:St)(H1:Hp)(R:Addr->Aao->Hp->Prop):Prop:=
 ∃W:Nat->Nat->Aao->Hp->Prop,(∃m,W 0 m [] H1)/\∀i m ys H2,W i m ys H2->
 (J.stop i H2/\ys.length<=sizeLine/\∀l,H2 l=none->R l ys H2)\/
 (J.go i H2/\ys.length<sizeLine/\∀v H3,J.xt i H2 v H3->tt (some v::slotsOf fr Z) H3 λb H4=>
  if b=true then te (some v::slotsOf fr Z) H4 (λy H5=>∃m',m'<m/\W (i+1) m' (ys++[y]) H5)else∃m',m'<m/\W (i+1) m' ys H4)
def zc(Pv:Nat->Aao->Hp->Prop)(hx:xs.length<sizeLine)(h0:Pv 0 [] H1)(hl:∀i ys H,i<=xs.length->Pv i ys H->bF K H a xs/\ys.length<=i)
  (hs:∀(i:Nat)(x:V)(ys:Aao)(H:Hp)(N:Aao->Hp->Prop),xs[i]?=some x->Pv i ys H->(∀jC H',Pv (i+1) jC H'->N jC H')->
   tt (some x::slotsOf fr Z) H λb H4=>if b=true then te (some x::slotsOf fr Z) H4 (λy H5=>N (ys++[y]) H5)else N ys H4)
  (hd:∀ys H,Pv xs.length ys H->∀l,H l=none->R l ys H):zC (Nx K a) fr tt te Z H1 R:=by
 refine{λi m ys H=>m=xs.length -i/\i<=xs.length/\Pv i ys H,{xs.length,by simp,aP _,h0},?_};rintro i m ys H ⟨rfl,hi,p⟩;obtain⟨q,hy⟩:=hl i ys H hi p;by_cases bK:i<xs.length
 ·refine .inr {{xs,_,q,au bK},by lia,?_};rintro v H3 ⟨rfl,hv⟩;exact hs i v ys H3 (λjC H'=>∃m',m'<xs.length -i/\m'=xs.length -(i+1)/\i+1<=xs.length/\Pv (i+1) jC H') (hv xs q) p λjC H' p'=>{_,by lia,rfl,bK,p'}
 ·have e:i=xs.length:=by lia
  subst e;exact .inl {{xs,q,ar _},by lia,hd ys H p}
def jg(Pv:Nat->Aao->Hp->Prop)(hx:xs.length<sizeLine)(h0:Pv 0 [] H1)(hl:∀i ys H,i<=xs.length->Pv i ys H->bp K H a xs/\ys.length<=i)
  (hs:∀(i:Nat)(x:V)(ys:Aao)(H:Hp)(N:Aao->Hp->Prop),xs[i]?=some x->Pv i ys H->(∀jC H',Pv (i+1) jC H'->N jC H')->
   tt (some x::slotsOf fr Z) H λb H4=>if b=true then te (some x::slotsOf fr Z) H4 (λy H5=>N (ys++[y]) H5)else N ys H4)
  (hd:∀ys H,Pv xs.length ys H->∀l,H l=none->R l ys H):zC (Nz K a) fr tt te Z H1 R:=by
 refine{λi m ys H=>m=xs.length -i/\i<=xs.length/\Pv i ys H,{xs.length,by simp,aP _,h0},?_};rintro i m ys H ⟨rfl,hi,p⟩;obtain⟨q,hy⟩:=hl i ys H hi p;by_cases bK:i<xs.length
 ·refine .inr {{xs,_,q,au bK},by lia,?_};rintro v H3 ⟨rfl,hv⟩;exact hs i v ys H3 (λjC H'=>∃m',m'<xs.length -i/\m'=xs.length -(i+1)/\i+1<=xs.length/\Pv (i+1) jC H') (hv xs q) p λjC H' p'=>{_,by lia,rfl,bK,p'}
 ·have e:i=xs.length:=by lia
  subst e;exact .inl {{xs,q,ar _},by lia,hd ys H p}
variable{P:Program}{w:World}{A:Around}{E:Aae}{z:Shared}
def uG(g:z.heap.IsTupleIter j p k)(gp:z.heap.IsTuple p aY)(gy:aY[k]?=some y)
  (q:∀h',h'.IsTupleIter j p (k+1)->Heap.SameBut j z.heap h'->Q y {z with heap:=h'}):wpAny (-30) A (Builtin.SmallTypes.nextOf (.ref j)) Q E z:=by
 obtain⟨ob,g0,g1,g2⟩:=id g;obtain⟨op,p0,_,np,p2⟩:=gp;unfold Builtin.SmallTypes.nextOf;refine af (wpAny_callSpecial?_slot g.typeIs jB (bz jB g.typeIs tH ?_ (se _)));show wpAny _ _ (field (.ref j) 0>>=_) _ _ z;refine af (bP g0 g2 rfl ?_);show wpAny _ _ (if(Value.ref p==Value.none)=true then _ else _) _ _ z;rw[az (show ¬((Value.ref p==Value.none)=true)from aW)];refine af (bP g0 g2 rfl ?_);refine af (bY p0 p2 ?_);simp only[cZ,gy];refine af (fH g0 g2 (-9) (ao {y,rfl,ao (q _ ?_ (bT ..))}));exact{_,cH _ g0 (yq (nY g2 _)),(Cs ..).trans g1,by rw[nY g2];simp[rawInt]}
def xO(hd:A.handled=none)(g:z.heap.IsTupleIter j p k)(gp:z.heap.IsTuple p aY)(gy:aY[k]?=none)
  (q:∀h' e,Heap.ExtBut j z.heap h'->(∃o,h'.get? e=some o/\o.cls=.type "StopIteration")->E (.ref e) {z with heap:=h'}):wpAny (-30) A (Builtin.SmallTypes.nextOf (.ref j)) Q E z:=by
 obtain⟨ob,g0,g1,g2⟩:=id g;obtain⟨op,p0,_,np,p2⟩:=gp;unfold Builtin.SmallTypes.nextOf;refine af (wpAny_callSpecial?_slot g.typeIs jB (bz jB g.typeIs tH ?_ (se _)));show wpAny _ _ (field (.ref j) 0>>=_) _ _ z;refine af (bP g0 g2 rfl ?_);show wpAny _ _ (if(Value.ref p==Value.none)=true then _ else _) _ _ z;rw[az (show ¬((Value.ref p==Value.none)=true)from aW)];refine af (bP g0 g2 rfl ?_);refine af (bY p0 p2 ?_);simp only[cZ,gy];refine af (fQ (af (fH g0 g2 (-9) ?_)));refine af ?_;refine af (cx ?_ (by size_fits));refine af (CA (by first|rfl|(simp only[firstArgMember];rfl)) ?_);refine cx ?_ (by size_fits);refine af (wpAny_handled ?_)
 first|rw[show A.in1.handled=none from hd]|rw[hd]
 refine af (ao (wpAny_throw ?_));exact q _ _ (((bT ..).extBut.push _).push _) {_,aF _ rfl,rfl}
end
section
variable{X:Cx}{pins:Aac}{Z:St}{H:Hp}{s:Shared}{h':Heap}
def Inv.Xo(I:Inv X pins Z H s)(k:∀b o,b≠e->b≠j->s.heap.get? b=some o->h'.get? b=some o)(fe:pV X pins H e)(fj:pV X pins H j)
  (hp:s.heap.objs.size<=p) (ht:IsTup h' p us.toArray/\∃o,h'.get? p=some o/\o.dict=none) (r:Vals xs us) (hz:xs.length<=sizeLine):Inv X pins Z (upd H p (.tup xs)) {s with heap:=h',toks:=t'}:=by
 have hn:=I.br.fresh hp;have fp:=I.qM hp hn;have nH:∀b u,H b=some u->b≠e/\b≠j/\b≠p:=λb u g=>{(λz=>by rw[z,fe.1]at g;cases g),(λz=>by rw[z,fj.1]at g;cases g),λz=>by rw[z,hn]at g;cases g};refine I.step (ch:=[e,j,p]) (λb hb=>?_) (λb o _ _ hc g _=>k b o (-74) (-74) g) (λb o _ _ hc g _=>{o.slots,k b o (-74) (-74) g})
  (λb o hc g n=>by rw[aE λz=>hc (by simp[z])];exact n) (λb o hc g=>{o,k b o (-74) (-74) g})
  (λb ys g=>by rw[aE (nH b _ g).2.2];exact g) (λb o u g=>by rw[aE (nH b _ g).2.2];exact g) (λb ps g=>{#[],by rw[aE (nH b _ g).2.2,g];simp}) (λm hm=>?_) (λb u g=>?_) I.bare
 ·have kJ:b=e\/b=j\/b=p:=by simpa using hb
  rcases kJ with rfl|rfl|rfl
  ·exact{fe.2.2.2.1,fe.2.1,fe.2.2.2.2.1,fe.2.2.2.2.2}
  ·exact{fj.2.2.2.1,fj.2.1,fj.2.2.2.2.1,fj.2.2.2.2.2}
  ·exact{fp.2.2.2.1,fp.2.1,fp.2.2.2.2.1,fp.2.2.2.2.2}
 ·obtain⟨o,es,ep,ho,r'⟩:=hm;exact{o,es,ep,k _ o (cb fe.2.1) (cb fj.2.1) ho,r'}
 ·by_cases hb:b=p
  ·subst hb;rw[aw]at g;cases g;exact⟨hz,us,r,ht⟩
  ·rw[aE hb]at g;refine(I.br b u g).jx (λc v hc q=>?_) (λc q=>?_) λc ys q=>?_
   ·rcases hc with z|z
    ·rw[z];rw[z]at q;exact k b v (nH b _ g).1 (nH b _ g).2.1 q
    ·exact k c v (nH c _ z).1 (nH c _ z).2.1 q
   ·rw[aE (nH c _ q).2.2];exact q
   ·rw[aE (nH c _ q).2.2];exact q
def RP{D:Addr->Prop}{E:Aae}{e j:Addr}{fp:Aaj}{n i:Nat}{Pv:Nat->Value->Prop}{St':Nat->Heap->Prop}{old:Value}{elts:List Expr}{kk:Nat}{ps:Pos}{y:V}
  (W:Draws X.prog X.w X.A.in1 j fp n Pv St') (he:IsEnum s.heap e j i old) (st:St' i s.heap) (hi:i<n) (ig:e≠j) (hef:e∉fp) (I:Inv X pins Z H s) (fe:pV X pins H e) (fj:pV X pins H j) (hP:∀u,Pv i u->RelV y u):
  wpAny (-6) X.A (pyNext (.ref e)) (λr s1=>∃u,r=some u/\
   wpAny (-6) X.A (letOwnedTupleGo (.Tuple elts kk ps) (.ref e) u) (λ_ s2=>∃p,u=.ref p/\H p=none/\Inv X pins Z (upd H p (.tup [.int i,y])) s2/\(∃adi,IsEnum s2.heap e j ((i:Int)+1) adi)/\St' (i+1) s2.heap/\e≠p/\j≠p) E s1) E s:=by
 refine wpAny_pyNext_enum_itemD W he st hi ig hef λx h1 tk hx ho st1 hT hsz hk=>?_;refine{_,rfl,wpAny_letOwnedTupleGo_enum ho λh2 Hl kI=>?_};have hel:=aI he;have sV:j<s.heap.objs.size:=by obtain⟨o,z⟩:=W.live _ _ st;exact aI z
 have OA:=kI;have hT2:IsTup h2 s.heap.objs.size ([.int (i:Int) tk,x]:Aag).toArray/\∃o,h2.get? s.heap.objs.size=some o/\o.dict=none:={{_,OA.extBut _ _ (bA hel) hT,rfl,_,rfl},_,OA.extBut _ _ (bA hel) hT,rfl};refine{s.heap.objs.size,rfl,I.br.fresh (ar _),I.Xo (λb o n1 n2 g=>OA.extBut b o n1 (hk b o n1 n2 g)) fe fj (ar _) hT2 (.cons ⟨tk,rfl⟩ (.cons (hP x hx) .nil)) (-36),⟨_,Hl⟩,?_,aL hel,aL sV};exact W.frame _ _ _ st1 λb hb o g=>OA.extBut b o (λz=>hef (z▸hb)) g
end
def Sg(K:Frag)(a:Addr):It:=
 {λi H=>∃xs x,bp K H a xs/\xs[i]?=some x,λi H x H'=>∃p y,x=.ref p/\H p=none/\H'=upd H p (.tup [.int i,y])/\∀xs,bp K H a xs->xs[i]?=some y,λi H=>∃xs,bp K H a xs/\xs.length=i}
def R4{h:Heap}(e:h.get? a=some o)(e':h.get? b=some o')(n:o.cls≠o'.cls):a≠b:=λz=>by rw[z,e']at e;cases e;exact n rfl
def Pw{K:Frag}(a e j:Addr):Turn P w K (.Tuple elts kk ps) (Sg K a) [e,j] e (λi h=>(∃old,IsEnum h e j i old)/\h.IsListIter j a i/\e≠j) where
 mem:=by simp
 obj:=λi h st b hb=>by
  obtain⟨⟨old,he⟩,⟨o,g,c,d⟩,_⟩:=st;have kJ:b=e\/b=j:=by simpa using hb
  rcases kJ with rfl|rfl
  ·exact{_,he,λv z=>by cases z}
  ·exact{o,g,λv z=>by rw[d]at z;cases z}
 keep:=λi h h' st k=>by obtain⟨⟨old,he⟩,⟨o,g,r⟩,n⟩:=st;exact{{old,k e (-9) _ he},{o,k j (-9) o g,r},n}
 item:=by
  intro X hP hw hK hc i pins s Z H E I hf st hg;subst hP hw hK;obtain⟨xs,x,hq,hx⟩:=hg;obtain⟨aY,rv,pl,hz⟩:=I.list hq;obtain⟨⟨old,he⟩,hj,ig⟩:=st;have hl:=rv.length;have hil:=(ax.mp hx).1;obtain⟨o0,g0,c0,_⟩:=id pl.isList;obtain⟨o1,g1,c1,_⟩:=id hj;have nae:=R4 g0 he (by rw[c0];show Value.type "list"≠Value.type "enumerate";decide);have naj:=R4 g0 g1 (by rw[c0,c1];decide);have W:=Draws.list (prog:=X.prog) (w:=X.w) (show X.A.in1.handled=none from I.ok.hd hc) j a naj aY.toArray;refine iT (RP (D:=λ_=>True) (y:=x) W he {hj,pl.isList} (by rw[aQ];lia) ig (by simp[ig,nae.symm]) I (hf e (-9)) (hf j (-9)) λu hu=>?_) λr s1 ⟨u,er,h1⟩=>{u,er,iT h1 λ_ s2 ⟨p,eu,hp,I2,Hl,pX,n1,n2⟩=>?_}
  ·obtain⟨u',xY,ru⟩:=rv.get hx;have zO:aY[i]?=some u:=by simpa using hu
   rw[zO]at xY;cases xY;exact ru
  ·subst eu;refine{.ref p,_,I2,rfl,{p,x,rfl,hp,rfl,λys hy=>by rw[I.DI hy hq];exact hx},{Hl,pX.1,ig},λb hb=>?_};have kJ:b=e\/b=j:=by simpa using hb
   rcases kJ with rfl|rfl
   ·rw[aE n1];exact(hf b (-9)).1
   ·rw[aE n2];exact(hf b (-9)).1
 done:=by intro X hP hw hK hc i pins s Z H E I hf st hg;subst hP hw hK;obtain⟨xs,hq,hx⟩:=hg;obtain⟨aY,rv,pl,hz⟩:=I.list hq;obtain⟨⟨old,he⟩,hj,ig⟩:=st;have hl:=rv.length;obtain⟨f0,f1,f2,f3,f4,f5⟩:=hf j (-9);exact wpAny_pyNext_enum_end (I.ok.hd hc) he hj pl.isList (by simp;lia) λh' eb=>{rfl,I.turned (λb o hb g=>eb b o hb g) f0 f1 f3 f4 f5}
 self:=λ_ _ _ _ _ st h=>by obtain⟨⟨old,he⟩,_⟩:=st;exact Ce he h
section
variable{X:Cx}{elts:List Expr}{kk:Nat}{ps:Pos}
inductive aaV(K:Frag)(R:It->Hp->Prop)(vs:Aao)(H1:Hp):Prop
 |mk a (_:vs=[.ref a]) (_:(∃xs,bp K H1 a xs)) (_:R (Sg K a) H1)
def acx(K:Frag)(ta:TA):TI:=λZ H R=>ta Z H λvs H1=>aaV K R vs H1
def YC(I:Inv X pins Z H s):∀b∈[s.heap.objs.size+1,s.heap.objs.size],pV X pins H b:=λb hb=>by
 have kJ:b=s.heap.objs.size+1\/b=s.heap.objs.size:=by simpa using hb
 rcases kJ with rfl|rfl
 ·exact I.qM (fI _) (I.br.fresh (fI _))
 ·exact I.qM (ar _) (-72)
def FT(hg:Gl X "enumerate")(hm:X.mg "enumerate"=none)(ha:PA X [a] ta)(hs:starEach [a] X.env=[(false,eval a X.env)]:=by rfl):PI X (.Tuple elts kk ps) (.Call (.Name "enumerate" p) [a] [] pos) (acx X.K ta):=by intro pins s Z H R I h;refine FH (qE I hg hm boot_enumerate (d9 (-55) hs rfl));obtain⟨l,e,⟨xs,hq⟩,q⟩:=q1;subst e;obtain⟨u,rfl,ru⟩:=lP r1;cases ru;obtain⟨aY,rv,pl,hz⟩:=I1.list hq;refine call_enumerate_list pl.isList λh' he hj _ hk=>?_;have I2:=I1.kept (t':=s1.toks) hk;refine Ce he ?_;exact{_,_,_,_,H1,rfl,I2,Pw l _ s1.heap.objs.size,{⟨_,he⟩,hj,Nat.succ_ne_self _},YC I1,q}
def DS{K:Frag}{g:TG}{tb:TS}{D:Ends}(Pv:Nat->St->Hp->Prop)(h0:Pv 0 Z H)(hl:∀i Z H,i<=xs.length->Pv i Z H->bp K H a xs)
  (hs:∀i x p Z H,xs[i]?=some x->Pv i Z H->H p=none->g (.ref p) Z (upd H p (.tup [.int i,x])) λσ2 H2=>tb {D with nx:=Pv (i+1),ct:=Pv (i+1),bk:=D.nx} σ2 H2) (hd:∀Z H,Pv xs.length Z H->D.nx Z H):
  ∃W:Nat->Nat->St->Hp->Prop,(∃m,W 0 m Z H)/\∀i m Z H,W i m Z H->
   ((Sg K a).stop i H/\D.nx Z H)\/((Sg K a).go i H/\∃N:St->Hp->Prop,(∀σ' H',N σ' H'->∃m',m'<m/\W (i+1) m' σ' H')/\∀x H',(Sg K a).xt i H x H'->g x Z H' λσ2 H2=>tb {D with nx:=N,ct:=N,bk:=D.nx} σ2 H2):=by
 refine{λi m Z H=>m=xs.length -i/\i<=xs.length/\Pv i Z H,{xs.length,by simp,aP _,h0},?_};rintro i m Z H ⟨rfl,hi,p⟩;have q:=hl i Z H hi p;by_cases bK:i<xs.length
 ·refine .inr {{xs,xs[i],q,by simp[bK]},Pv (i+1),λσ' H' p'=>{xs.length -(i+1),by lia,rfl,bK,p'},λx H' y=>?_};obtain⟨r,z,rfl,hr,rfl,y⟩:=y;exact hs i z r Z H (y xs q) p hr
 ·have e:i=xs.length:=by lia
  subst e;exact .inl {⟨xs,q,rfl⟩,hd Z H p}
def HN(j:Nat)(t:TE):TS:=λD Z H=>t Z H λv H1=>D.nx (Z.set j (some v)) H1
variable{K:Frag}
def SV(h:X.K=K:=by rfl):Nu X (Z1 K):=h▸FL
variable{prog:Program}{w:World}{A:Around}{E:Aae}
def Fp:typeLookup (.type "list") "__getattr__"=pure none:=by rw[jn,fY];kernel_rfl
def KA:typeLookup (.type "list") "keys"=pure none:=by rw[jn,fY];kernel_rfl
def YI{sl}{os:OsState}(hx:h.get? a=some {cls:=.type "list",dict:=none,data:=.seq aY n,slots:=sl})(hA:A.handled=none)
  (k:∀h' tk e,Heap.NewAttrErr h h' e (-51) "keys"->E (.ref e) ⟨h',g,d,tk,os⟩):
  wpAny (-5) A (Builtin.«object.__getattribute__» {[.ref a,.str "keys" u],[]}) Q E ⟨h,g,d,t,os⟩:=by
 have hT:(⟨h,g,d,t,os⟩:Shared).TypeIs (-51) "list":=⟨_,hx,rfl⟩;have f4:=KA;unfold Builtin.«object.__getattribute__»
 repeat (any_goals (first|(assumption)|(wp_step)))
 refine yz hA k ?_;exact attrMsg_fits (-3) (by size_fits)
def YL{sl}{os:OsState}(hx:h.get? a=some {cls:=.type "list",dict:=none,data:=.seq aY n,slots:=sl})(hA:A.handled=none)
  (k:∀h' tk e,Heap.NewAttrErr h h' e (-51) "keys"->R (.error (.ref e)) ⟨h',g,d,tk,os⟩):
  codeAny (-5) A (.call (.builtin "list.__getattribute__") {[.ref a,.str "keys" u],[]}) R ⟨h,g,d,t,os⟩:=
 qP F.slot_list_getattribute.plain F.entry_list_ga (F.slot_list_getattribute.check _ _ _ _ _ _ _ _ (show(⟨h,g,d,t,os⟩:Shared).TypeIs (-51) "list"from⟨_,hx,rfl⟩) (F.args_list_getattribute_2 _ _) (YI hx hA k))
def acL{sl}{os:OsState}(hx:h.get? a=some {cls:=.type "list",dict:=none,data:=.seq aY n,slots:=sl})(hA:A.handled=none)
  (k:∀h' tk e,Heap.NewAttrErr h h' e (-51) "keys"->E (.ref e) ⟨h',g,d,tk,os⟩):
  wpAny (-5) A (getAttrBy (-51) (.str "keys" u) false) Q E ⟨h,g,d,t,os⟩:=by
 have hT:(⟨h,g,d,t,os⟩:Shared).TypeIs (-51) "list":=⟨_,hx,rfl⟩;have g2:=F.slot_list_getattribute.lookup;have g3:=F.slot_list_getattribute.bind (-51);have f5:=Fp;have f1:=ni
 repeat (any_goals (first|(assumption)|(wp_step)))
 refine YL hx hA λh' tk e ne=>?_;obtain⟨t',u',he⟩:=ne.there;show wpAny (-5) A (getattributeRaised (-51) (.str "keys" u) _ _ _ _ _) _ _ _;unfold getattributeRaised
 repeat (any_goals (first|(assumption)|(wp_step)))
 exact k _ _ _ ne
def YM{sl}{os:OsState}(hx:h.get? a=some {cls:=.type "list",dict:=none,data:=.seq aY n,slots:=sl})(hA:A.handled=none)
  (k:∀h' tk e,Heap.NewAttrErr h h' e (-51) "keys"->Q none ⟨h',g,d,tk,os⟩):
  wpAny (-5) A (getAttr? (-51) "keys") Q E ⟨h,g,d,t,os⟩:=by
 have f1:=ni;unfold getAttr? getAttrBy?
 repeat (any_goals (first|assumption|(with_reducible refine acL hx hA λh' tk e ne=>?_)|wp_step))
 obtain⟨t',u',he⟩:=ne.there
 repeat (any_goals (first|(assumption)|(wp_step)))
 exact k _ _ _ ne
theorem Paired.at':∀{l₁:List α}{aac:List β}{i:Nat}{x:α},Paired F l₁ aac->l₁[i]?=some x->∃y,aac[i]?=some y/\F x y
 |_,_,_,_,.nil,e=>by simp at e
 |_,_,0,_,.cons r _,e=>by simp at e;subst e;exact⟨_,rfl,r⟩
 |_,_,i+1,x,.cons _ t,e=>by obtain⟨y,h1,h2⟩:=Paired.at' (i:=i) (x:=x) t (by simpa using e);exact{y,by simpa using h1,h2}
def rT:entryFor table "dict.update.loop"=some Builtin.«dict.update.loop»:=entryFor_of_tree (by kernel_rfl)
def K3(prog:Program)(w:World)(h0:Heap)(x:Value)(kv:Key×Value):Prop:=∃t o n ku,x=.ref t/\h0.get? t=some o/\o.cls=.type "tuple"/\o.data=.seq #[ku,kv.2] n/\(bH prog w).is kv.1 ku=true
def YJ(hA:A.handled=none)(gE:h0.get? d=none)(hi0:h0.get? it=none)(hdi:d≠it)
  (hl:h0.IsList l items.toArray) (hp:Paired (K3 prog w h0) items pairs) (hsz:pairs.length<=sizeLine) (g:Array GenState) (dr:Drawn) (os:OsState)
  (k:∀h' tk,(∀b o,h0.get? b=some o->h'.get? b=some o)->h'.DictOf (bH prog w) d (merged [] pairs)->R (.ok (.ret .none)) ⟨h',g,dr,tk,os⟩):
  ∀(m i:Nat)(h:Heap)(tk:Nat),items.length -i=m->i<=items.length->(∀b o,h0.get? b=some o->h.get? b=some o)->h.IsListIter it l i->h.DictOf (bH prog w) d (merged [] (pairs.take i))->
   codeAny (-5) A (.builtin "dict.update.loop" {[.ref d,.ref it,rawInt i,.none],[]}) R ⟨h,g,dr,tk,os⟩:=by
 intro m;have lp:items.length=pairs.length:=bw hp
 induction m with
 |zero=>
  intro i h tk em hi kp hit hd;have ei:i=items.length:=by lia
  refine dv rT ?_;unfold Builtin.«dict.update.loop»;obtain⟨ol,MW,hlc,nl,hld⟩:=hl;show wpAny _ _ (pyNext (.ref it)>>=_) _ _ _;refine af (xv (show(A.under _).handled=none from hA) hit {ol,kp _ _ MW,hlc,nl,hld} (by rw[ei];simp) λh' hs=>?_);show wpAny _ _ (Builtin.Dict.addKeywords d []>>=_) _ _ _;refine af (ao (ao ?_));rw[ei,lp,aV]at hd;exact k h' _ (λb o hb=>hs b o (λe=>by rw[e,hi0]at hb;cases hb) (kp b o hb)) (hd.extBut hs hdi)
 |succ m ih=>
  intro i h tk em hi kp hit hd;have bK:i<items.length:=by lia
  obtain⟨x,hx⟩:∃x,items[i]?=some x:={_,au bK};obtain⟨kv,jd,t,o,n,ku,rfl,hto,htc,C4,Rm⟩:=Paired.at' hp hx;refine dv rT ?_;unfold Builtin.«dict.update.loop»;obtain⟨ol,MW,hlc,nl,hld⟩:=hl;show wpAny _ _ (pyNext (.ref it)>>=_) _ _ _;refine af (wM hit {ol,kp _ _ MW,hlc,nl,hld} (x:=.ref t) (by simpa using hx) λh1 aeh wy=>?_);have A2:∀b o,h0.get? b=some o->h1.get? b=some o:=λb o hb=>(wy.2 b (λe=>by rw[e,hi0]at hb;cases hb)).trans (kp b o hb);have uf:=hd.sameBut wy hdi;refine af (bQ (af (xu ?_)));unfold Builtin.Dict.pairItems;refine af (fZ (T:="tuple") {o,A2 _ _ hto,htc} ?_);rw[aC (-8)];refine af (bY (A2 _ _ hto) C4 (ao ?_));show wpAny _ _ (holding [ku,kv.2] (dictSet d ku kv.2)) _ _ _;have lm:(merged [] (pairs.take i)).length<=sizeLine:=by have e1:=pP [] (pairs.take i);rw[aT]at e1;simp only[d5]at e1;lia
  refine bQ (rg (hsz:=lm) Rm uf λh2 hd2 kI=>?_);refine ao {jj _ (-3),?_};have OJ:h2.IsListIter it l (i+1):=by obtain⟨oi,Hh,r⟩:=aeh;exact{oi,(kI.2 it (cb hdi)).trans Hh,r}
  have vt:∀b o,h0.get? b=some o->h2.get? b=some o:=λb o hb=>(kI.2 b (λe=>by rw[e,gE]at hb;cases hb)).trans (A2 b o hb);exact ih (i+1) h2 _ ∅ bK vt OJ (by rw[vk [] pairs i kv jd];exact hd2)
def YK(hA:A.handled=none)(pl:PlainL s.heap p items.toArray)(hp:Paired (K3 prog w s.heap) items pairs)(hsz:pairs.length<=sizeLine)
  (k:∀h' tk,(∀b o,s.heap.get? b=some o->h'.get? b=some o)->h'.DictOf (bH prog w) s.heap.objs.size (merged [] pairs)->Q (-12) {s with heap:=h',toks:=tk}):
  wpAny (-5) A (call (.type "dict") [.ref p]) Q E s:=by
 refine yi (Q₁:=λv1 z1=>v1=.ref s.heap.objs.size/\z1={s with heap:=s.heap.push {cls:=.type "dict",data:=.dict #[]}}) F.kt_called_dict (zx _) Cy (kt_code_dict_new _ ⟨rfl,rfl⟩) ?_;rintro v1 z1 ⟨rfl,rfl⟩;obtain⟨ko,g,dr,tk,os⟩:=s;obtain⟨⟨oc,od,oda,zK⟩,n,ho,hc,M8,hdd⟩:=pl;have hc:oc=.type "list":=hc;have M8:od=none:=M8;have hdd:oda=.seq items.toArray n:=hdd;subst hc M8 hdd;have DO:(ko.push {cls:=.type "dict",data:=.dict #[]}).DictOf (bH prog w) ko.objs.size []:=wK ko;have A8:=aq {cls:=.type "dict",data:=.dict #[]} ho;refine{DO.typeIs,BP _ _,?_};unfold Builtin.«dict.__init__»;refine af ?_;unfold Builtin.Dict.selfAndRest;refine af (jm DO.typeIs (ao ?_));show wpAny (-5) _ (Builtin.Dict.updateFrom "dict.__init__" ko.objs.size (.ref p) [] .none) _ _ _;unfold Builtin.Dict.updateFrom;refine af (fZ (T:="list") ⟨_,A8,rfl⟩ ?_);rw[aC (-8)];refine af (YM A8 hA λh2 tk2 e ne=>?_);rw[aC (-8)];refine af (fQ ?_);have zR:=ne.keeps _ _ A8;refine af (kU (items:=items.toArray) ⟨_,zR,rfl,n,rfl⟩ ?_);have kp:∀b o,ko.get? b=some o->(h2.push {cls:=.type "list_iterator",data:=.fields #[.ref p,.int 0 0]}).get? b=some o:=λb o hb=>aq _ (ne.keeps _ _ (aq _ hb));have hd2:h2.DictOf (bH prog w) ko.objs.size []:=by obtain⟨o',es,ep,h',r⟩:=DO;exact{o',es,ep,ne.keeps _ _ h',r}
 have ld:ko.objs.size<h2.objs.size:=by obtain⟨o',es,ep,h',r⟩:=hd2;exact aI h'
 refine ao {jj _ (-3),?_};refine YJ (l:=p) (d:=ko.objs.size) (it:=h2.objs.size) (items:=items) (h0:=ko) (pairs:=pairs) (show A.in1.handled=none from hA) (iB (ar _)) (iB (bu ld)) (aL ld) ⟨_,ho,rfl,n,rfl⟩ hp hsz g dr os (λh' Ep CV qh=>{rfl,k h' Ep CV qh}) items.length 0 _ _ rfl (aP _) kp ?_ (hd2.push _);exact{_,aF _ rfl,rfl,rfl}
end
section
variable{X:Cx}
inductive Qc(K:Frag)(xs:Aao)(H:Hp)(Q:VK):Prop
 |mk p ys kvs (_:xs=[.ref p]) (_:bp K H p ys) (_:Paired (λ(y:V)(kv:Key×V)=>∃t,y=.ref t/\H t=some (.tup [kV kv.1,kv.2])) ys kvs) (_:∀d,H d=none->Q (.ref d) (upd H d (.dK (iO [] kvs))))
theorem Ju(ok:jI P w H h):∀{ys:Aao}{us:Aag}{kvs:List (Key×V)},Vals ys us->Paired (λ(y:V)(kv:Key×V)=>∃t,y=.ref t/\H t=some (.tup [kV kv.1,kv.2])) ys kvs->∃ps,Paired (K3 P w h) us ps/\KV kvs ps
 |_,_,_,.nil,.nil=>{[],.nil,.nil}
 |_,_,_,.cons (b:=u) r t,.cons (b:=kv) ⟨a,ea,ha⟩ q=>by
  obtain⟨ps,h1,h2⟩:=Ju ok t q;subst ea;cases(show u=Value.ref a from r);obtain⟨_,aY,ri,⟨o,e1,e2,n,e3⟩,_⟩:=(show dG P w H h a (.tup [kV kv.1,kv.2])from ok a _ ha)
  match aY,ri with
  |[ku,vu],.cons rk (.cons rv .nil)=>exact{(kv.1,vu)::ps,.cons {a,o,n,ku,rfl,e1,e2,e3,wo rk} h1,.cons ⟨rfl,rv⟩ h2}
def Fz(hA:X.A.handled=none):jv X (.type "dict") (Qc X.K):=by
 intro pins s Z H xs us Q I r h;obtain⟨p,ys,kvs,rfl,hq,hk,q⟩:=h;obtain⟨u,rfl,rx⟩:=lP r;cases rx;obtain⟨aY,r',pl,hz⟩:=I.list hq;obtain⟨ps,h1,h2⟩:=Ju I.br r' hk;have l1:aY.length=ps.length:=bw h1;have l2:=r'.length;refine YK hA pl h1 ∅ λh' tk kp hd=>?_;have rel:KV (iO [] kvs) (merged [] ps):=KV.merge h2 .nil;have lz:(iO [] kvs).length<=sizeLine:=by have e1:=pP [] ps;rw[rel.length];simp only[d5]at e1;lia
 exact{.ref s.heap.objs.size,_,I.laid (t':=tk) kp (ar _) (Bm lz (dB.mpr (cb (aL I.big))) rel hd),rfl,q _ (-72)}
variable{prog:Program}{w:World}{A:Around}{s:Shared}{R:Result->Shared->Prop}
theorem Pa(Iv:Nat->Shared->Prop)
  (turn:∀n z,Iv n z->wpAny (-5) A (pyNext it) (λr z1=>match r with
   |none=>R (.ok .next) z1
   |some v=>wpAny (-5) A (letOwnedTupleGo tg it v) (λ_ y2=>wpAny (-5) A (assign tg env v) (λ_ z2=>
     wpAny (-5) A (forIn ifs true λc r=>if r=true then do let ok<-isTrue c env (eval c env);pure (ForInStep.yield ok)else pure (ForInStep.yield r)) (λok z3=>
      if ok=true then wpAny (-5) A (eval elt env) (λx z4=>
       wpAny (-5) A (call (.builtin "list.append") [acc,x]) (λ_ z5=>∃m,m<n/\Iv m z5) (notedBy (-5) A env λe z'=>R (.error e) z') z4) (notedBy (-5) A env λe z'=>R (.error e) z') z3
      else∃m,m<n/\Iv m z3) (notedBy (-5) A env λe z'=>R (.error e) z') z2) (notedBy (-5) A env λe z'=>R (.error e) z') y2) (notedBy (-5) A env λe z'=>R (.error e) z') z1) (notedBy (-5) A env λe z'=>R (.error e) z') z)
  (n:Nat) (h:Iv n s):codeAny (-5) A (.compLoop (-27) 0 it acc env) R s:=by
 refine codeAny_loop rfl Iv (λn z hI=>?_) n h;show wpAny (-5) A ((compTurn (-27) 0 it acc env).onRaise (λx=>do noteFrame x env;theTreesLotGoes x)) _ _ z;refine wpAny_noted ?_;rw[compTurn_list];refine af (tJ (af (c8 (turn n z hI) (λr z1 q1=>?_) λ_ _ q=>q)));cases r with
 |none=>exact ao q1
 |some v=>
  refine af (c8 q1 (λ_ z2 q3=>af (c8 q3 (λ_ z3 q4=>af (c8 q4 (λok z4 q5=>?_) λ_ _ q=>q)) λ_ _ q=>q)) λ_ _ q=>q);cases ok with
  |false=>exact ao ⟨rfl,q5⟩
  |true=>exact af (af (c8 q5 (λx z5 q6=>af (c8 q6 (λ_ z6 q7=>ao (ao ⟨rfl,q7⟩)) λ_ _ q=>q)) λ_ _ q=>q))
end
structure uU(X:Cx)(scope:Scope)(x:Str)(more fs:Aah)(fr:List Nat):Prop where
 one:pF X scope x fs fr
 MB:(x::more++fs).Nodup
def uY(wi:TI)(k:Nat)(fr:List Nat)(g:TG)(tt:TT)(te:TE):TE:=λZ H Q=>wi Z H λJ H1=>∃W:Nat->Nat->Aao->Hp->Prop,(∃m,W 0 m [] H1)/\∀i m ys H2,W i m ys H2->
 (J.stop i H2/\ys.length<=sizeLine/\∀l,H2 l=none->Q (.ref l) (upd H2 l (-39)))\/
 (J.go i H2/\ys.length<sizeLine/\∀v H3,J.xt i H2 v H3->∀own:St,own.length=k->g v (own++slotsOf fr Z) H3 λσ4 H4=>∃Jy,σ4=Jy++slotsOf fr Z/\Jy.length=k/\tt σ4 H4 λb H5=>
  if b=true then te σ4 H5 (λy H6=>∃m',m'<m/\W (i+1) m' (ys++[y]) H6)else∃m',m'<m/\W (i+1) m' ys H5)
section
variable{X:Cx}
def JD(N2:Aah)(h:(d8 X N1 scope C s H ex).Ok):(d8 X N2 scope C s H ex).Ok:=
 {h.mod,h.kind,h.glob,h.blt,h.above,h.inj,h.has,h.Np,h.hd,h.frames,h.PH,h.RL,h.bs,h.Df,h.FY,h.DT,h.rQ,h.Hn}
def R0(S:uU X scope x more fs fr)(I3:Inv X pins Z H s)
  (ok:(d8 X (x::fs) scope s.heap.objs.size s H ex).Ok) (hn:h4.Ns s.heap.objs.size m) (old:∀b o,s.heap.get? b=some o->h4.get? b=some o):
  Inv (d8 X (x::more++fs) scope s.heap.objs.size s H ex) [] (List.replicate (more.length+1) none++slotsOf fr Z) H {s with heap:=h4,toks:=t}:=by
 have J:=UQ (t:=t) S.one I3 ok hn old;refine{JD _ J.ok,J.os,J.bare,J.base,?_,J.cell,J.free,J.oA,J.pin,J.br,?_}
 ·obtain⟨m1,A9,hl⟩:=J.loc;refine{m1,A9,λi y v e1 e2 e3=>?_};by_cases hi:i<more.length+1
  ·have e2:(List.replicate (more.length+1) (none:Aap)++slotsOf fr Z)[i]?=some (some v):=e2;rw[dO (by rw[hW];exact hi),v7,aC hi]at e2;cases e2
  ·obtain⟨j,rfl⟩:∃j,i=more.length+1+j:={i -(more.length+1),by lia};have e2:(List.replicate (more.length+1) (none:Aap)++slotsOf fr Z)[more.length+1+j]?=some (some v):=e2;have e1:((x::more)++fs)[more.length+1+j]?=some y:=e1;rw[dE (by rw[hW];lia),hW,vZ]at e2;rw[dE (by rw[bx];lia),bx,vZ]at e1;exact hl (j+1) y v (by simpa using e1) (by simpa using e2) e3
 ·show(List.replicate (more.length+1) none++slotsOf fr Z).length=((x::more)++fs).length;have h1:=S.one.len;simp[slotsOf,h1];lia
def Hu{elt iter tg:Expr}{x:Str}{more:Aah}{g:TG}{ifs:List Expr}{scope:Scope}{pos:Pos}{wi:TI}{fs:Aah}{fr:List Nat}{tt:TT}{te:TE}{use:Option (Value->Sem Unit)}{R:Aae}{pins:Aac}{s:Shared}{Z:St}{H:Hp}{Q:VK}{Ji:Pos}(hc:X.calm=true)(ST:uU X scope x more fs fr)(hi:PI X tg iter wi)(hg:∀C s H ex,PG (-21) tg g)
  (ht:∀C s H ex,CT (-21) ifs tt) (he:∀C s H ex,PE (-21) elt te) (hs:∀z,foldedSetIterable iter X.env z=pure z)
  (I:Inv X pins Z H s) (h:uY wi (more.length+1) fr g tt te Z H Q)
  (aej:∀(D C:Addr)(s':Shared)(H':Hp)(ys:Aao)(vs:Aag)(k:Nat)(m:Aad),Inv X pins Z H' s'->D<C->X.aab.heap.objs.size<=D->X.env.locals<D->(∀y c,X.env.cells.lookup y=some c->c<D)->(∀p∈X.pn++pins,p.1<D)->
   s'.heap.get? D=some (lobj vs k)->H' D=none->H' C=none->s'.heap.Ns C m->Vals ys vs->ys.length<=sizeLine->(∀l,H' l=none->Q (.ref l) (upd H' l (-39)))->compPost (-6) X.A X.xe use R (.ref D) C (.ok .next) s'):
  wpAny (-6) X.A (comprehension (-27) scope X.env Ji (newList []) false (eval iter X.env) use) R X.xe s:=by
 have S:=ST.one;refine wpAny_comprehension_free (use:=use) rfl hs (Fx λn hn=>I.ok.has n (.inl (S.free n hn).1)) S.kind S.names ?_;refine iT (hi pins s Z H _ I h) λv s1 h1=>iT h1 λitv s2 h2=>?_;obtain⟨it,fp,tn,J,H2,e,I2,T,pX,f2,W,⟨m0,w0⟩,turn⟩:=h2;subst e;have bK:∀b∈fp,b<s2.heap.objs.size:=λb hb=>by obtain⟨o,e,_⟩:=T.obj 0 _ pX b hb;exact aI e
 refine cx (wpAny_newFunctionEnv S.Qu (by intro y hy;simp at hy) (λh4 Uj Ud=>?_) S.kind);dsimp only at Uj Ud⊢;generalize hH3:s2.heap.push {cls:=.type "list",dict:=none,data:=.seq ([]:Aag).toArray}=g3 at Uj Ud⊢;have hC:g3.objs.size=s2.heap.objs.size+1:=by rw[<-hH3,cB]
 have FW:∀b o,s2.heap.get? b=some o->g3.get? b=some o:=λb o e=>hH3▸aq _ e;have I3:Inv X pins Z H2 {s2 with heap:=g3}:=I2.kept (t':=s2.toks) FW;have aet:g3.get? s2.heap.objs.size=some (lobj [] 0):=hH3▸aF _ rfl;have Tu:∀b o,g3.get? b=some o->h4.get? b=some o:=λb o e=>Ud.extBut b o (aL (aI e)) (aq _ e);have ok1:=YR (s:={s2 with heap:=g3}) (D:=s2.heap.objs.size) (fp:=fp) S I2 I3 rfl hC bK f2;have ok:=JD (x::more++fs) ok1;have I4:=R0 (t:=s2.toks+([]:List (Str×Value)).length) ST I3 ok1 Uj Tu;have WX:=ok.RL s2.heap.objs.size aA;have dnf:=ok.DT s2.heap.objs.size aA;have Ux:∀{H':Hp}{vs:Aag}{k:Nat},(∀b∈fp,H' b=none)->∀b∈fp,pV (-7) [(s2.heap.objs.size,lobj vs k)] H' b:=λ{H' vs k} hn b hb=>by
  have q:=ok.RL b (aB _ hb);refine{hn b hb,q.1,ok.DT b (aB _ hb),.inl (aB _ hb),q.2,λp hp=>?_};have e:p=(s2.heap.objs.size,lobj vs k):=by simpa using hp
  rw[e];exact bA (bK b hb)
 have start:Inv (-7) [(s2.heap.objs.size,lobj [] 0)] (List.replicate (more.length+1) none++slotsOf fr Z) H2 {s2 with heap:=h4,toks:=s2.toks+([]:List (Str×Value)).length}:=
  I4.xH λp hp=>by
   have e:p=(s2.heap.objs.size,lobj [] 0):=by simpa using hp
   subst e;exact{Tu _ _ aet,I2.br.fresh (ar _),WX.1,dnf,λv z=>by cases z}
 have stn:tn 0 h4:=T.keep 0 _ _ pX λb _ o e=>Tu b o (FW b o e);have fin:∀{i:Nat}{σ0:St}{H':Hp}{ys:Aao}{vs:Aag}{k:Nat}{s':Shared},Inv (-7) [(s2.heap.objs.size,lobj vs k)] (σ0++slotsOf fr Z) H' s'->Vals ys vs->ys.length<=sizeLine->
   (∀l,H' l=none->Q (.ref l) (upd H' l (-39)))->compPost (-6) X.A X.xe use R (.ref s2.heap.objs.size) g3.objs.size (.ok .next) s':=by
  intro i σ0 H' ys vs k s' J1 rv hz q;obtain⟨m,hn,_⟩:=id J1.loc;have below:∀y c,X.env.cells.lookup y=some c->c<s2.heap.objs.size:=λy c z=>by obtain⟨v,q⟩:=I2.cell y c z;exact q.lt
  have sM:∀p∈X.pn++pins,p.1<s2.heap.objs.size:=λp hp=>aI (I2.pin p hp).1;have I5:Inv X pins Z H' s':=I3.acM (ch:=s2.heap.objs.size::fp) J1.os J1.base J1.br J1.bare λb hb=>by
   rcases aG.mp hb with e|hb
   ·rw[e];exact{.inr I2.sz,bA I2.lt,λy c z=>aL (below y c z),λp hp=>aL (sM p hp)}
   ·exact{(f2 b hb).2.2.2.1,(f2 b hb).2.1,(f2 b hb).2.2.2.2.1,(f2 b hb).2.2.2.2.2}
  have uZ:s2.heap.objs.size<g3.objs.size:=by(first|lia|omega)
  obtain⟨eD,nD,_⟩:=J1.pin (s2.heap.objs.size,lobj vs k) (-9);exact aej _ _ s' H' ys vs k m I5 uZ I2.sz I2.lt below sM eD nD J1.free hn rv hz q
 have loop:∀s4:Shared,s4={s2 with heap:=h4,toks:=s2.toks+([]:List (Str×Value)).length}->
   codeAny (-6) X.A (.compLoop (-27) 0 (.ref it) (.ref s2.heap.objs.size) (compEnvC scope (DY scope X.env) g3.objs.size X.env))
    (compPost (-6) X.A X.xe use R (.ref s2.heap.objs.size) g3.objs.size) s4:=by
  rintro s4 rfl;refine Pa (λn s'=>∃i σ0 H' ys vs k,σ0.length=more.length+1/\Inv (-7) [(s2.heap.objs.size,lobj vs k)] (σ0++slotsOf fr Z) H' s'/\tn i s'.heap/\(∀b∈fp,H' b=none)/\Vals ys vs/\W i n ys H') ?_ m0
   {0,List.replicate (more.length+1) none,H2,[],[],0,hW,start,stn,λb hb=>(f2 b hb).1,.nil,w0}
  rintro n s' ⟨i,σ0,H',ys,vs,k,h0,J1,st,fr1,rv,w1⟩;rcases turn i n ys H' w1 with⟨stop,hz,q⟩|⟨go,hz,step⟩
  ·refine iT (T.done (-7) rfl rfl rfl hc i _ s' _ H' _ J1 (Ux fr1) st stop) λr s5 adR=>?_;obtain⟨hr,J2⟩:=adR;subst hr;exact fin (i:=i) J2 rv hz q
  ·refine iT (T.item (-7) rfl rfl rfl hc i _ s' _ H' _ J1 (Ux fr1) st go) λr s5 adQ=>?_;obtain⟨u,hr,h5⟩:=adQ;subst hr;refine iT h5 λ_ s6 adP=>?_;obtain⟨v,H6,J6,r6,y6,ml,fr6⟩:=adP;have J6':=J6.pinned (fp:=fp) (Ux fr6) (T.obj _ _ ml);refine c8 (hg _ _ _ _ _ s6 _ H6 v u _ J6' r6 (step v H6 y6 σ0 h0)) (λ_ s7 adO=>?_) (λ_ _ z=>z.elim);obtain⟨σ7,H7,J7,own,e7,l7,q7⟩:=adO;subst e7;have pfp:∀{σ8:St}{H8:Hp}{s8:Shared},Inv (-7) ([(s2.heap.objs.size,lobj vs k)]++AM fp s6.heap) σ8 H8 s8->
     tn (i+1) s8.heap/\∀b∈fp,H8 b=none:=λ{σ8 H8 s8} J8=>by
    refine{T.keep _ _ _ ml λb hb o e=>(J8.pin (b,o) (cc _ (cc _ (uH hb e)))).1,λb hb=>?_};obtain⟨o,e,d⟩:=T.obj _ _ ml b hb;exact(J8.pin (b,o) (cc _ (cc _ (uH hb e)))).2.1
   refine c8 (ht _ _ _ _ _ s7 _ H7 _ J7 q7) (λok8 s8 adN=>?_) (λ_ _ z=>z.elim);obtain⟨H8,J8,q8⟩:=adN;cases ok8 with
   |false=>
    rw[az aW]at q8;rw[az aW];obtain⟨m',hm,w8⟩:=q8;obtain⟨t8,n8⟩:=pfp J8;exact{m',hm,i+1,own,H8,ys,vs,k,l7,J8.yC,t8,n8,rv,w8}
   |true=>
    rw[aC rfl]at q8;rw[aC rfl];refine c8 (he _ _ _ _ _ s8 _ H8 _ J8 q8) (λy s9 adM=>?_) (λ_ _ z=>z.elim);obtain⟨yv,H9,J9,r9,m',hm,w9⟩:=adM;obtain⟨t9,n9⟩:=pfp J9;obtain⟨eD,nD,_⟩:=J9.pin (s2.heap.objs.size,lobj vs k) (-9);have hl:=rv.length;refine uI BO ⟨_,eD,rfl⟩ Al (zB _ _) (Cp s2.heap.objs.size vs.toArray k y (by rw[aQ];(first|lia|omega))) {eD,?_};have eN:=PySem.IsL.update (h:=s9.heap) (l:=s2.heap.objs.size) (items:=vs.toArray) (n:=k) eD (·.push y);have eV:vs.toArray.push y=(vs++[y]).toArray:=by simp
    rw[eV]at eN;obtain⟨k',eN⟩:∃k',(s9.heap.update s2.heap.objs.size (Obj.mapSeq (·.push y))).get? s2.heap.objs.size=some (lobj (vs++[y]) k'):=⟨_,eN⟩;have K9:Inv (-7) [] (own++slotsOf fr Z) H9 s9:=J9.xH λp hp=>absurd hp (-9);have W6:Inv (-7) [] (own++slotsOf fr Z) H9 {s9 with heap:=s9.heap.update s2.heap.objs.size (Obj.mapSeq (·.push y))}:=
     K9.turned (t':=s9.toks) (it:=s2.heap.objs.size) (λb o hb e=>(bO s9.heap (Obj.mapSeq (·.push y)) (cb hb)).trans e) nD WX.1 (.inl aA) WX.2 (λp hp=>absurd hp (-9))
    refine{m',hm,i+1,own,H9,ys++[yv],vs++[y],k',l7,W6.xH λp hp=>?_,T.keep _ _ _ t9 λb hb o e=>(bO s9.heap (Obj.mapSeq (·.push y)) (bA (bK b hb))).trans e,n9,rv.append (.cons r9 .nil),w9};have e:p=(s2.heap.objs.size,lobj (vs++[y]) k'):=ay.mp hp;rw[e];exact{eN,nD,WX.1,dnf,λv z=>by cases z}
 exact codeAny_compStart_list (loop _ rfl) (T.self X.A 0 _ _ _ stn (loop _ rfl))
def GU(hc:X.calm=true)(ST:uU X scope x more fs fr)(hi:PI X tg iter wi)(hg:∀C s H ex,PG (-21) tg g)
  (ht:∀C s H ex,CT (-21) ifs tt) (he:∀C s H ex,PE (-21) elt te) (hs:∀z,foldedSetIterable iter X.env z=pure z:=by intro _;rfl):
  PE X (-27) (uY wi (more.length+1) fr g tt te):=by
 intro pins s Z H Q I h;rw[eval_ListComp];refine Hu hc ST hi hg ht he hs I h ?_;intro D C s' H' ys vs k m I5 uZ lo lt below sM eD nD nC hn rv hz q;refine{m,hn,λh' sb=>?_};have I6:Inv X pins Z H' {s' with heap:=h'}:=I5.turned (t':=s'.toks) (it:=C) (λb o hb e=>sb.extBut b o hb e) nC (bA (fG lt uZ)) (.inr (bu (eJ lo uZ))) (λy c z=>aL (fG (below y c z) uZ)) (λp hp=>aL (fG (sM p hp) uZ));have eD':h'.get? D=some (lobj vs k):=sb.extBut _ _ (aL uZ) eD;exact{.ref D,_,I6.adopt nD eD' rv hz lo (bA lt) (λy c z=>aL (below y c z)) (λp hp=>aL (sM p hp)),rfl,q _ nD}
def Je{elt iter tg:Expr}{x y:Str}{py yG:Pos}{j:Nat}{more:Aah}{g:TG}{ifs:List Expr}{scope:Scope}{pos:Pos}{wi:TI}{fs:Aah}{fr:List Nat}{tt:TT}{te:TE}(hN:X.N.Nodup)(hj:X.N[j]?=some y)(hy:X.env.scope.names.lookup y=some .local)(hc:X.calm=true)(ST:uU X scope x more fs fr)(hi:PI X tg iter wi)(hg:∀C s H ex,PG (-21) tg g)
  (ht:∀C s H ex,CT (-21) ifs tt) (he:∀C s H ex,PE (-21) elt te) (hs:∀z,foldedSetIterable iter X.env z=pure z:=by intro _;rfl)
  (Ke:swapsWith (-27) (some (.Name y py)) yG.line X.env=pure true:=by rfl):PS X (.Assign [.Name y py] (-27) yG) (HN j (uY wi (more.length+1) fr g tt te)):=by
 intro pins s Z H D I h;obtain⟨Q,eQ⟩:∃Q:VK,Q=λv H1=>D.nx (Z.set j (some v)) H1:=⟨_,rfl⟩;have h:uY wi (more.length+1) fr g tt te Z H Q:=by rw[eQ];exact h
 have S:=ST.one;rw[exec_Assign_Name_used _ _ _ _ Ke];refine af (tJ (af ?_));show wpAny _ _ (comprehension (-27) scope X.env _ (newList []) false (eval iter X.env) (some (assign (.Name y py) X.env))>>=λ_=>pure ()) _ _ s;refine af (c8 (Hu (Q:=Q) (R:=λ_ s'=>SP X pins D .next s') hc ST hi hg ht he hs I h ?_) (λ_ s' hq=>ao (ao hq)) λ_ _ e=>e);intro D1 C s' H' ys vs k m I5 uZ lo lt below sM eD nD nC hn rv hz q;have I7:=I5.adopt nD eD rv hz lo (bA lt) (λy c z=>aL (below y c z)) (λp hp=>aL (sM p hp));refine Cf (Gy (v:=.ref D1) I7 hN hj (.inl hy) rfl (λs3 I8 wu=>?_) (.inr hy));obtain⟨a,sb,ha⟩:=wu;refine{m,hn.sameBut sb ?_,λh' qx=>?_}
 ·rcases ha with e|e
  ·rw[e];exact bA (fG lt uZ)
  ·exact bA (fG (below _ _ e) uZ)
 ·have nC2:upd H' D1 (-39) C=none:=by rw[aE (bA uZ)];exact nC
  have I9:Inv X pins (Z.set j (some (.ref D1))) (upd H' D1 (-39)) {s3 with heap:=h'}:=I8.turned (t':=s3.toks) (it:=C) (λb o hb e=>qx.extBut b o hb e) nC2 (bA (fG lt uZ)) (.inr (bu (eJ lo uZ)))
   (λy c z=>aL (fG (below y c z) uZ)) (λp hp=>aL (fG (sM p hp) uZ))
  have q':=q _ nD;rw[eQ]at q';exact⟨_,_,I9,q'⟩
def Gx(wi:TI)(fr:List Nat)(tt:TT)(te:TE):uz wi fr tt te=uY wi 1 fr (sA 0) tt te:=by
 funext Z H Q;unfold uz uY;congr 1;funext J H1;refine propext (exists_congr λW=>qU λ_=>?_);refine fC λi=>fC λm=>fC λys=>fC λH2=>fC λ_=>?_;refine or_congr Cb (qU λ_=>qU λ_=>fC λv=>fC λH3=>fC λ_=>?_);constructor
 ·intro h own ho
  match own,ho with
  |[o],_=>exact{[some v],rfl,rfl,h}
 ·intro h;obtain⟨o4,e,l,q⟩:=h [none] rfl;exact q
def Jq(hc:X.calm=true)(S:pF X scope x fs fr)(hi:PI X (.Name x px) iter wi)
  (ht:∀C s H ex,CT (-38) ifs tt) (he:∀C s H ex,PE (-38) elt te) (hs:∀z,foldedSetIterable iter X.env z=pure z:=by intro _;rfl):
  PE X (.ListComp elt [{.Name x px,iter,ifs,0}] scope pos) (uz wi fr tt te):=by
 rw[Gx];exact GU (more:=[]) hc {S,S.nd} hi (λC s H ex=>ot (i:=0) S.nd rfl (Or.inl (jK S.loc)) (.inr (jK S.loc))) ht he hs
def hE(hc:X.calm=true)(S:pF X scope x fs fr)(hi:PI X (.Name x px) iter wi)
  (he:∀C s H ex,PE (-38) elt te) (hs:∀z,foldedSetIterable iter X.env z=pure z:=by intro _;rfl):
  PE X (.ListComp elt [{.Name x px,iter,[],0}] scope pos) (uz wi fr BW te):=Jq hc S hi (λ_ _ _ _=>KN) he hs
def qb(hc:X.calm=true)(S:pF X scope x fs fr)(hi:PI X (.Name x px) iter wi)
  (ht:∀C s H ex,PT (-38) c tc) (he:∀C s H ex,PE (-38) elt te) (hs:∀z,foldedSetIterable iter X.env z=pure z:=by intro _;rfl):
  PE X (.ListComp elt [{.Name x px,iter,[c],0}] scope pos) (uz wi fr tc te):=Jq hc S hi (λC s H ex=>RZ (ht C s H ex)) he hs
def CM(hN:X.N.Nodup)(hj:X.N[j]?=some y)(hy:X.env.scope.names.lookup y=some .local)
  (hc:X.calm=true) (S:pF X scope x fs fr) (hi:PI X (.Name x px) iter wi)
  (ht:∀C s H ex,CT (-38) ifs tt) (he:∀C s H ex,PE (-38) elt te) (hs:∀z,foldedSetIterable iter X.env z=pure z:=by intro _;rfl)
  (Ke:swapsWith (.ListComp elt [{.Name x px,iter,ifs,0}] scope pos) (some (.Name y py)) yG.line X.env=pure true:=by rfl):
  PS X (.Assign [.Name y py] (.ListComp elt [{.Name x px,iter,ifs,0}] scope pos) yG) (HN j (uz wi fr tt te)):=by
 rw[Gx];exact Je (more:=[]) hN hj hy hc {S,S.nd} hi (λC s H ex=>ot (i:=0) S.nd rfl (Or.inl (jK S.loc)) (.inr (jK S.loc))) ht he hs Ke
def N0{elt iter:Expr}{x y:Str}{px py yG:Pos}{scope:Scope}{pos:Pos}{wi:TI}{fs:Aah}{fr:List Nat}{te:TE}{j:Nat}(hN:X.N.Nodup)(hj:X.N[j]?=some y)(hy:X.env.scope.names.lookup y=some .local)
  (hc:X.calm=true) (S:pF X scope x fs fr) (hi:PI X (.Name x px) iter wi)
  (he:∀C s H ex,PE (-38) elt te) (hs:∀z,foldedSetIterable iter X.env z=pure z:=by intro _;rfl)
  (Ke:swapsWith (.ListComp elt [{.Name x px,iter,[],0}] scope pos) (some (.Name y py)) yG.line X.env=pure true:=by rfl):
  PS X (.Assign [.Name y py] (.ListComp elt [{.Name x px,iter,[],0}] scope pos) yG) (HN j (uz wi fr BW te)):=CM hN hj hy hc S hi (λ_ _ _ _=>KN) he hs Ke
def Jd(hN:X.N.Nodup)(hj:X.N[j]?=some y)(hy:X.env.scope.names.lookup y=some .local)
  (hc:X.calm=true) (S:pF X scope x fs fr) (hi:PI X (.Name x px) iter wi)
  (ht:∀C s H ex,PT (-38) c tc) (he:∀C s H ex,PE (-38) elt te) (hs:∀z,foldedSetIterable iter X.env z=pure z:=by intro _;rfl)
  (Ke:swapsWith (.ListComp elt [{.Name x px,iter,[c],0}] scope pos) (some (.Name y py)) yG.line X.env=pure true:=by rfl):
  PS X (.Assign [.Name y py] (.ListComp elt [{.Name x px,iter,[c],0}] scope pos) yG) (HN j (uz wi fr tc te)):=CM hN hj hy hc S hi (λC s H ex=>RZ (ht C s H ex)) he hs Ke
def Tp(hc:X.calm=true)(S:uU X scope x more fs fr)(hi:PI X tg iter wi)(hg:∀C s H ex,PG (-21) tg g)
  (he:∀C s H ex,PE (-21) elt te) (hs:∀z,foldedSetIterable iter X.env z=pure z:=by intro _;rfl):
  PE X (.ListComp elt [{tg,iter,[],0}] scope pos) (uY wi (more.length+1) fr g BW te):=GU hc S hi hg (λ_ _ _ _=>KN) he hs
def Pb(h:O9 X.env.scope X.N scope x fs fr=true:=by kernel_rfl)(h2:decide (x::more++fs).Nodup=true:=by kernel_rfl):uU X scope x more fs fr:={cU h,bo h2}
def XY{K:Frag}(hc:X.calm=true)(h:Aa X es t)(hK:X.K=K:=by rfl)
  (hn:(assignEach es X.env).length=n:=by rfl) (ie:(assignEach es X.env).findIdx? (·.1)=none:=by rfl):PG X (.Tuple es k pos) (Uw K n t):=hK▸iY hc h hn ie
def Jk(hN:decide X.N.Nodup=true:=by kernel_rfl)(hi:X.N[i]?=some x:=by rfl)(hl:X.env.scope.names.lookup x=some .local:=by first|rfl|exact jK rfl):PG X (.Name x pos) (sA i):=
 ot (bo hN) hi (.inl hl) (.inr hl)
variable{K:Frag}{fr:List Nat}{tt:TT}{te:TE}{Z:St}{H1:Hp}{R:Addr->Aao->Hp->Prop}
abbrev WM(K:Frag):TG:=Uw K 2 (OR (sA 0) (OR (sA 1) abq))
abbrev Si(J:It)(k:Nat)(fr:List Nat)(g:TG)(tt:TT)(te:TE)(Z:St)(H1:Hp)(R:Addr->Aao->Hp->Prop):Prop:=
 ∃W:Nat->Nat->Aao->Hp->Prop,(∃m,W 0 m [] H1)/\∀i m ys H2,W i m ys H2->
 (J.stop i H2/\ys.length<=sizeLine/\∀l,H2 l=none->R l ys H2)\/
 (J.go i H2/\ys.length<sizeLine/\∀v H3,J.xt i H2 v H3->∀own:St,own.length=k->g v (own++slotsOf fr Z) H3 λσ4 H4=>∃Jy,σ4=Jy++slotsOf fr Z/\Jy.length=k/\tt σ4 H4 λb H5=>
  if b=true then te σ4 H5 (λy H6=>∃m',m'<m/\W (i+1) m' (ys++[y]) H6)else∃m',m'<m/\W (i+1) m' ys H5)
def X4{v a b:V}{own rest:St}(ho:own.length=2)(ev:v=.ref p)(hp:bF K H p [a,b])(h:Q (some a::some b::rest) H):WM K v (own++rest) H Q:=by
 match own,ho with
 |[o1,o2],_=>exact⟨p,_,ev,hp,rfl,_,_,rfl,_,_,rfl,rfl,h⟩
def sP(a b:Str):Bool:=!decide (b.cps.toList<a.cps.toList)
def B4(a b:Str):sP a b=true↔a.cps.toList<=b.cps.toList:=by unfold sP;rw[Cz,vX];exact Cb
def G2(a b c:Str)(h1:sP a b=true)(h2:sP b c=true):sP a c=true:=by rw[B4]at*;exact List.le_trans h1 h2
def TX{a b:Str}(h1:sP a b=true)(h2:sP b a=true):a=b:=by rw[B4]at*;exact ext_toList (List.le_antisymm h1 h2)
def QN(a b:Str):(sP a b||sP b a)=true:=by
 rcases List.le_total a.cps.toList b.cps.toList with h|h
 ·rw[(B4 a b).mpr h,Bool.true_or]
 ·rw[(B4 b a).mpr h,Bool.or_true]
def iV(zs:Aah):Aah:=zs.mergeSort sP
def lT(zs:Aah):(iV zs).Perm zs:=Ai zs sP
def NM(zs:Aah):(iV zs).Pairwise (λa b=>sP a b=true):=v3 G2 QN zs
theorem CL:∀(r:Aah)(p:Str),risingS p r=true->(p::r).Pairwise (λa b=>sP a b=true)
 |[],p,_=>by simp
 |x::r,p,h=>by
  have h':(!ltCps x.cps.toList p.cps.toList&&risingS x r)=true:=h;rw[bB]at h';have ih:=CL r x h'.2;have h1:sP p x=true:=by have:=h'.1;rw[ltCps_eq]at this;exact this
  refine kK.mpr {λy hy=>?_,ih};rcases aG.mp hy with rfl|hy
  ·exact h1
  ·exact G2 p x y h1 (ic ih hy)
theorem Le:∀(l:Aah),sortedS l=true->l.Pairwise (λa b=>sP a b=true)
 |[],_=>.nil
 |x::r,h=>CL r x h
theorem Ms:∀{l m:Aah},l.Perm m->l.Pairwise (λa b=>sP a b=true)->m.Pairwise (λa b=>sP a b=true)->l=m
 |[],m,h,_,_=>(List.nil_perm.mp h).symm
 |a::l,[],h,_,_=>absurd h.length_eq (-9)
 |a::l,b::m,h,h1,h2=>by
  have e:a=b:=by
   rcases aG.mp (h.mem_iff.mp (aA (a:=a) (l:=l)))with e|e
   ·exact e
   ·rcases aG.mp (h.mem_iff.mpr (aA (a:=b) (l:=m)))with q|q
    ·exact q.symm
    ·exact TX (ic h1 q) (ic h2 e)
  subst e;rw[Ms (List.perm_cons a|>.mp h) (kK.mp h1).2 (kK.mp h2).2]
def SQ{l zs:Aah}(h:l.Perm zs)(hs:sortedS l=true):l=iV zs:=Ms (h.trans (lT zs).symm) (Le l hs) (NM zs)
theorem Iy:∀{zs:Aah}{us:Aag},StrsAre us zs->Vals (zs.map V.str) us
 |_,_,.nil=>.nil
 |_,_,.cons y t h=>.cons ⟨t,rfl⟩ (Iy h)
def VR(hl:(apos.endLine==fD.line)=true:=by rfl)(hb:attributeBase (.Name d pd) "get" X.env (eval (.Name d pd) X.env)=eval (.Name d pd) X.env:=by rfl):M2 X (.Name d pd) "get" apos (.Name x px) (.Name y py) fD:=⟨hb,rfl,hl,rfl⟩
end
end L2
namespace L2
open PySem PySem.Spec PyProof.Rows PySem.W Builtin Builtin.ObjectAttr
noncomputable def RM:Aag->Bool
 | .ref _::r=>RM r
 |l=>l==[.type "ValueError",.type "Exception",.type "BaseException",.type "object"]
structure aeP(K:Frag)(C:Addr):Prop where
 ga:findIn K (.ref C) "__getattribute__"=some (some (.builtin "BaseException.__getattribute__"))
 gt:findIn K (.ref C) "__getattr__"=some none
 sa:findIn K (.ref C) "__setattr__"=some (some (.builtin "object.__setattr__"))
 be:mroIn K C (.type "BaseException")=some true
 ob:mroIn K C (.type "object")=some true
 hd:hasDictIn K C=true
 tl:(clsIn K C).any (λcd=>RM cd.mro)=true
 cl:findIn K (.ref C) "__class__"=some (some (.builtin "object.__class__"))
 cg:specialIn K (.builtin "object.__class__") "__get__"=some (some (.builtin "getset_descriptor.__get__"))
 ct:takesIn K (.builtin "object.__class__")=some true
end L2
namespace L2
open PySem PySem.Spec PyProof.Rows PySem.W
abbrev aep(C:Addr)(dd:Aak)(t:Addr)(tb:Value):Obj:={cls:=.ref C,dict:=dd,data:=.fields #[.ref t,tb,.none,.none,.bool false,.none]}
def aew(e C:Addr)(dd:Aak):Heap->Prop:=λh=>∃t tb,h.get? e=some (aep C dd t tb)
def gone(H:Hp)(e C:Addr)(dd:Aak):Hp:=upd H e (.ext (aew e C dd))
abbrev Cx.held(X:Cx)(q:Aac)(E:Aae):Cx:={X with pn:=q,xe:=E}
section
variable{X:Cx}{K:Frag}
def zY(h:X.K=K:=by rfl):jv X (.type "list") (λxs H Q=>∃p ys,xs=[.ref p]/\(bp K H p ys\/bF K H p ys)/\∀l,H l=none->Q (.ref l) (upd H l (-39))):=h▸vH
def Jr{T id:String}(pa:PlainAttrs T)(slot:Slot T name id)(hty:typeOf (.builtin id)=pure (.type "method_descriptor"))(hm:Se X id r)(ho:PE X o to)(ha:PA X (e::es) t)
  (Fc:attributeBase o name X.env (eval o X.env)=eval o X.env:=by rfl)
  (Uq:((backTo fD (starEach (e::es) X.env)).all (λx=>!x.1)&&(backToKw fD (keywordEach [] X.env)).all (λx=>x.1.isSome)&&decide ((e::es).length+([]:List Keyword).length+(if([]:List Keyword).isEmpty then 0 else 1)<30))=true:=by rfl)
  (E6:(apos.endLine==fD.line)=true:=by rfl) (hs:starEach (e::es) X.env=(false,eval e X.env)::starEach es X.env:=by rfl) (Kh:(backTo fD (starEach es X.env)).any (·.1)=false:=by rfl) (h:X.K=K:=by rfl):
  PE X (.Call (.Attribute o name apos) (e::es) [] fD) (tBM K T r to t):=h▸ox pa slot hty hm ho ha Fc Uq E6 hs Kh
end
end L2
namespace L2
open PySem PySem.Spec PyProof.Rows
section
variable{P:Program}{w:World}{A:Around}{E:Aae}{v:Shared}
structure Zt(h:Heap)(z ti to i1 i2 l1 l2:Addr)(f:Value)(k:Nat):Prop where
 self:IsZip h z ti to f
 ins:IsPair h ti (.ref i1) (.ref i2)
 outs:∃a b,IsPair h to a b
 w1:h.IsTupleIter i1 l1 k
 w2:h.IsTupleIter i2 l2 k
structure Sa(z ti to i1 i2 l1 l2:Addr):Prop where
 EN:ti≠to
 Mx:i1≠i2
 nl1:l1≠to
 nl2:l2≠to
def cS{h:Heap}(e:h.get? a=some o)(e':h.get? b=some o')(c:o.cls=.type m)(c':o'.cls=.type n)(d:m≠n):a≠b:=λg=>by rw[g,e']at e;cases e;rw[c]at c';cases c';exact d rfl
def Zt.ne(g:Zt h z ti to i1 i2 l1 l2 f k):(ti≠z/\to≠z/\i1≠z/\i2≠z)/\(ti≠i1/\ti≠i2/\to≠i1/\to≠i2):=by
 obtain⟨gs,gi,⟨a,b,go⟩,⟨o1,q1,c1,_⟩,⟨o2,q2,c2,_⟩⟩:=g;exact{{cS gi gs rfl rfl (-8),cS go gs rfl rfl (-8),cS q1 gs c1 rfl (-8),cS q2 gs c2 rfl (-8)},
  cS gi q1 rfl c1 (-8),cS gi q2 rfl c2 (-8),cS go q1 rfl c1 (-8),cS go q2 rfl c2 (-8)}
def tup_ne(g:Zt h z ti to i1 i2 l1 l2 f k)(t:h.IsTuple l xs):l≠z/\l≠i1/\l≠i2:=by obtain⟨gs,_,_,⟨o1,q1,c1,_⟩,⟨o2,q2,c2,_⟩⟩:=g;obtain⟨o,q,c,_⟩:=t;exact{cS q gs c rfl (-8),cS q q1 c c1 (-8),cS q q2 c c2 (-8)}
def jq(g:h.IsTupleIter j p k)(s:Heap.SameBut b h h')(n:j≠b):h'.IsTupleIter j p k:=by obtain⟨o,q,r⟩:=g;exact{o,s.extBut _ _ n q,r}
def om(g:h.IsTuple l xs)(s:Heap.SameBut b h h')(n:l≠b):h'.IsTuple l xs:=by obtain⟨o,q,r⟩:=g;exact{o,s.extBut _ _ n q,r}
def yP(g:IsPair v.heap t a b)
  (q:∀h',h'.get? t=some {cls:=.type "tuple",data:=.seq ((#[a,b]:Aal).setIfInBounds k x)}->Heap.SameBut t v.heap h'->Q () {v with heap:=h'}):
  wpAny (-30) A (updateSeq t (·.setIfInBounds k x)) Q E v:=wpAny_updateSeq_pair g q
def Xc{Q:Aae}(d:Sa z ti to i1 i2 l1 l2)(g:Zt v.heap z ti to i1 i2 l1 l2 .none k)
  (t1:v.heap.IsTuple l1 xs) (t2:v.heap.IsTuple l2 ys) (ex:xs[k]?=some x) (ey:ys[k]?=some y)
  (q:∀h',Zt h' z ti to i1 i2 l1 l2 (rawInt v.heap.objs.size) (k+1)->IsPair h' v.heap.objs.size x y->(∀c o,c≠z->c≠to->c≠i1->c≠i2->v.heap.get? c=some o->h'.get? c=some o)->Q (.ref v.heap.objs.size) {v with heap:=h'}):
  wpAny (-30) A (-50) (λfin s'=>∃u,fin=.done (.ret u)/\Q u s') E v:=by
 obtain⟨⟨a1,a2,a3,a4⟩,a5,a6,a7,a8⟩:=g.ne;obtain⟨b1,b2,b3⟩:=tup_ne g t1;obtain⟨c1,c2,c3⟩:=tup_ne g t2;obtain⟨gs,gi,⟨a,b,go⟩,g1,g2⟩:=g;show wpAny _ _ (field (.ref z) 2>>=_) _ _ _;refine af (bP gs rfl (x:=.bool false) rfl ?_);show wpAny _ _ (field (.ref z) 3>>=_) _ _ _;refine af (bP gs rfl (x:=.ref ti) rfl ?_);refine af (bY gi rfl ?_);show wpAny _ _ (Builtin.SmallTypes.ownedTupleIsFree (.ref z)>>=_) _ _ _;refine af ?_;unfold Builtin.SmallTypes.ownedTupleIsFree;refine af (bP gs rfl (x:=.none) rfl (ao ?_));simp only[lE];refine af (fQ ?_);refine af (bP gs rfl (x:=.ref to) rfl ?_);refine af (cu gs (-9) λp1 k1 r1=>?_)
 replace k1:IsZip p1 z ti to .ellipsis:=k1
 refine af ?_;simp only[pT,List.zipIdx_nil,mZ,yu];refine af (af (mi ?_));show wpAny _ _ (Builtin.SmallTypes.nextOf (.ref i1)>>=_) _ _ _;refine af (uG (jq g1 r1 a3) (om t1 r1 b1) ex λp2 k2 r2=>ao ?_);have o2:IsPair p2 to a b:=r2.extBut _ _ a7 (r1.extBut _ _ a2 go);refine af (bY o2 rfl ?_);refine af (yP o2 λp3 o3 r3=>?_)
 replace o3:IsPair p3 to x b:=o3
 refine af (mH (ao ?_));refine af (af (mi ?_));show wpAny _ _ (Builtin.SmallTypes.nextOf (.ref i2)>>=_) _ _ _;refine af (uG (jq (jq (jq g2 r1 a4) r2 d.Mx.symm) r3 a8.symm) (om (om (om t2 r1 c1) r2 c2) r3 d.nl2) ey λp4 k4 r4=>ao ?_);have o4:IsPair p4 to x b:=r4.extBut _ _ a8 o3;refine af (bY o4 rfl ?_);refine af (yP o4 λp5 o5 r5=>?_)
 replace o5:IsPair p5 to x y:=o5
 refine af (mH (ao (ao ?_)));refine af (bY o5 rfl ?_);refine af (lA ?_);have sz:p5.objs.size=v.heap.objs.size:=by rw[r5.1,r4.1,r3.1,r2.1,r1.1]
 have z5:IsZip p5 z ti to .ellipsis:=r5.extBut _ _ a2.symm (r4.extBut _ _ a4.symm (r3.extBut _ _ a2.symm (r2.extBut _ _ a3.symm k1)));have st:∀c o,c≠z->c≠to->c≠i1->c≠i2->v.heap.get? c=some o->p5.get? c=some o:=λc o m1 m2 m3 m4 e=>
  r5.extBut _ _ m2 (r4.extBut _ _ m4 (r3.extBut _ _ m2 (r2.extBut _ _ m3 (r1.extBut _ _ m1 e))))
 have j1:p5.IsTupleIter i1 l1 (k+1):=jq (jq (jq k2 r3 a7.symm) r4 d.Mx) r5 a7.symm;have j2:p5.IsTupleIter i2 l2 (k+1):=jq k4 r5 a8.symm;have lz:z<p5.objs.size:=aI z5;show wpAny _ _ (Builtin.SmallTypes.ownedTupleHandOut (.ref z) (.ref p5.objs.size)>>=_) _ _ _;refine af ?_;unfold Builtin.SmallTypes.ownedTupleHandOut;have z6:IsZip (p5.push {cls:=.type "tuple",data:=.seq #[x,y]}) z ti to .ellipsis:=aq _ z5;refine af (cu z6 (-9) λp7 z7 r7=>?_)
 replace z7:IsZip p7 z ti to (rawInt p5.objs.size):=z7
 refine cu z7 (-9) λp8 z8 r8=>?_
 replace z8:IsZip p8 z ti to (rawInt p5.objs.size):=z8
 have up:∀c o,c≠z->p5.get? c=some o->p8.get? c=some o:=λc o m e=>r8.extBut _ _ m (r7.extBut _ _ m (aq _ e));have n8:IsPair p8 p5.objs.size x y:=r8.extBut _ _ (bA lz) (r7.extBut _ _ (bA lz) (aF _ rfl));rw[sz]at z8 n8;refine ao {_,rfl,?_};show Q (.ref p5.objs.size) _;rw[sz];obtain⟨oa,ja,ra⟩:=j1;obtain⟨ob,jb,rb⟩:=j2;refine q p8 {z8,?_,{x,y,up _ _ a2 o5},{oa,up _ _ a3 ja,ra},{ob,up _ _ a4 jb,rb}} n8 λc o m1 m2 m3 m4 e=>up c o m1 (st c o m1 m2 m3 m4 e);exact up _ _ a1 (st _ _ a1 d.EN a5 a6 gi)
def Y4{z ti to i1 i2 l1 l2:Addr}{k:Nat}{xs ys:Aal}{Q:Fin->Shared->Prop}(hh:A.handled=none)(d:Sa z ti to i1 i2 l1 l2)(g:Zt v.heap z ti to i1 i2 l1 l2 .none k)
  (t1:v.heap.IsTuple l1 xs) (ex:xs[k]?=none)
  (q:∀h' e,(∀c o,c≠z->c≠to->c≠i1->c≠i2->v.heap.get? c=some o->h'.get? c=some o)->(∃o,h'.get? e=some o/\o.cls=.type "StopIteration")->E (.ref e) {v with heap:=h'}):
  wpAny (-30) A (-50) Q E v:=by
 obtain⟨⟨a1,a2,a3,a4⟩,a5,a6,a7,a8⟩:=g.ne;obtain⟨b1,b2,b3⟩:=tup_ne g t1;obtain⟨gs,gi,⟨a,b,go⟩,g1,g2⟩:=g;show wpAny _ _ (field (.ref z) 2>>=_) _ _ _;refine af (bP gs rfl (x:=.bool false) rfl ?_);show wpAny _ _ (field (.ref z) 3>>=_) _ _ _;refine af (bP gs rfl (x:=.ref ti) rfl ?_);refine af (bY gi rfl ?_);show wpAny _ _ (Builtin.SmallTypes.ownedTupleIsFree (.ref z)>>=_) _ _ _;refine af ?_;unfold Builtin.SmallTypes.ownedTupleIsFree;refine af (bP gs rfl (x:=.none) rfl (ao ?_));simp only[lE];refine af (fQ ?_);refine af (bP gs rfl (x:=.ref to) rfl ?_);refine af (cu gs (-9) λp1 k1 r1=>?_)
 replace k1:IsZip p1 z ti to .ellipsis:=k1
 refine af ?_;simp only[pT,List.zipIdx_nil,mZ,yu];refine af (af (mi ?_));show wpAny _ _ (Builtin.SmallTypes.nextOf (.ref i1)>>=_) _ _ _;refine af (xO hh (jq g1 r1 a3) (om t1 r1 b1) ex λp2 e r2 he=>?_);obtain⟨oe,ge,ce⟩:=he;have z2:IsZip p2 z ti to .ellipsis:=r2 _ _ a3.symm k1;have nez:e≠z:=cS ge z2 ce rfl (-8);refine cu z2 (-9) λp3 _ r3=>q p3 e (λc o m1 _ m3 _ e=>r3.extBut _ _ m1 (r2 _ _ m3 (r1.extBut _ _ m1 e))) {oe,r3.extBut _ _ nez ge,ce}
variable{X:Cx}{pins:Aac}{Z:St}{H:Hp}{s:Shared}
def Inv.freeze(I:Inv X pins Z H s)(hd:H d=some (.dK kvs))(ho:s.heap.get? d=some o):Inv X pins Z (upd H d (.de o (.dK kvs))) s:=by
 have nd:∀b u,H b=some u->(∀l,u≠ .dK l)->b≠d:=λb u q n z=>by rw[z,hd]at q;exact n kvs (bN q).symm
 have ig:∀b,H b=none->b≠d:=λb q z=>by rw[z,hd]at q;cases q
 refine I.un (h':=s.heap) (t':=s.toks) {λb u e _ _ _=>e,λb u e _ _ _=>{u.slots,e},λb u e n _=>by rw[aE (ig b n)];exact n,λb u e _=>⟨u,e⟩,λb xs q=>by rw[aE (nd b _ q λl z=>by cases z)];exact q,λb u v q=>by rw[aE (nd b _ q λl z=>by cases z)];exact q,λb ps q=>{#[],by rw[aE (nd b _ q λl z=>by cases z),q];simp}} λb u g=>?_;by_cases hb:b=d
 ·subst hb;rw[aw]at g;cases g;exact{ho,I.br b _ hd}
 ·rw[aE hb]at g;exact(I.br b u g).jx (λc v hc q=>q) (λc q=>by rw[aE (nd c _ q λl z=>by cases z)];exact q) λc ys q=>by rw[aE (nd c _ q λl z=>by cases z)];exact q
end
def Itd(d:Addr)(o:Obj)(kvs:List (Key×V)):It:=
 {λi H=>H d=some (.de o (.dK kvs))/\i<kvs.length,λi H x H'=>H'=H/\∃kv,kvs[i]?=some kv/\x=kV kv.1,λi H=>H d=some (.de o (.dK kvs))/\kvs.length<=i}
inductive aaW(R:It->Hp->Prop)(x:V)(H1:Hp):Prop
 |mk d kvs (_:x=.ref d) (_:H1 d=some (.dK kvs)) (_:∀o,R (Itd d o kvs) (upd H1 d (.de o (.dK kvs))))
def V4(tl:TE):TI:=λZ H R=>tl Z H λx H1=>aaW R x H1
def Px{K:Frag}(rel:KV kvs vs)
  (m:o.ExactDict/\o.data=.dict es ep/\KeysOf (bH P w) es/\Pairs (bH P w) es.toList vs/\(vs.map (·.1)).Nodup):Turn P w K tg (Itd d o kvs) [it] it (λi h=>h.IsKeyIter it d i vs.length ep) where
 mem:=by simp
 obj:=λi h st b hb=>by
  have e:b=it:=by simpa using hb
  subst e;obtain⟨u,e,c,q⟩:=st;exact{u,e,λv z=>by rw[q]at z;cases z}
 keep:=λi h h' st k=>by obtain⟨u,e,r⟩:=st;exact{u,k it (-9) u e,r}
 item:=by
  intro X hP hw hK hc i pins s Z H E I hf st hg;subst hP hw hK;obtain⟨hd,hi⟩:=hg;have hl:kvs.length=vs.length:=rel.length;have ga:s.heap.get? d=some o:=(I.br d _ hd).1;have at':s.heap.DictAt (bH X.prog X.w) d vs ep:=⟨o,es,ga,m⟩;obtain⟨f0,f1,f2,f3,f4,f5⟩:=hf it (-9);obtain⟨kv,jd⟩:∃kv,kvs[i]?=some kv:={_,au hi};obtain⟨qv,hqv⟩:∃qv,vs[i]?=some qv:={_,au ∅};have ek:kv.1=qv.1:=by obtain⟨y,hy,r⟩:=Paired.at' rel jd;rw[hqv]at hy;cases hy;exact r.1
  refine wpAny_pyNext_dict_item (k:=qv.1) (v:=qv.2) st at' hqv λkey h' hk g7 sb=>?_;have I1:Inv X pins Z H {s with heap:=h'}:=I.turned (t':=s.toks) (λb o hb e=>(sb.2 b hb).trans e) f0 f1 f3 f4 f5;obtain⟨u,e,c,q⟩:=id g7;exact{key,rfl,B7 (s:={s with heap:=h'}) e c q (-8) {kV kv.1,H,I1,rL (by rw[ek];exact hk),⟨rfl,kv,jd,rfl⟩,g7,λb hb=>(hf b hb).1}}
 done:=by intro X hP hw hK hc i pins s Z H E I hf st hg;subst hP hw hK;obtain⟨hd,hi⟩:=hg;have hl:kvs.length=vs.length:=rel.length;have ga:s.heap.get? d=some o:=(I.br d _ hd).1;have at':s.heap.DictAt (bH X.prog X.w) d vs ep:=⟨o,es,ga,m⟩;obtain⟨f0,f1,f2,f3,f4,f5⟩:=hf it (-9);exact wpAny_pyNext_dict_end (I.ok.hd hc) st at' (hX ∅) λh' eb=>{rfl,I.turned (t':=s.toks) (λb o hb e=>eb b o hb e) f0 f1 f3 f4 f5}
 self:=λ_ _ _ _ _ st h=>qq st h
def XX(hl:PE X l tl):PI X tg l (V4 tl):=by
 intro pins s Z H R I h;refine df (hl pins s Z H _ I h) λv s1 x H1 I1 r1 q1=>?_;obtain⟨d,kvs,e,hd,q⟩:=q1;subst e;cases r1;obtain⟨hz,lo,vs,rel,o,es,ep,ga,m⟩:=oB I1.br hd;have at':s1.heap.DictAt (bH X.prog X.w) d vs ep:=⟨o,es,ga,m⟩;refine wpAny_pyIter_dict lo at' ?_;have I2:=I1.freeze hd ga;refine{s1.heap.objs.size,[s1.heap.objs.size],_,_,_,rfl,I2.kept (t':=s1.toks) λb o e=>aq _ e,Px rel m,{_,aF _ rfl,rfl,rfl},λb hb=>?_,q o};have e:b=s1.heap.objs.size:=by simpa using hb
 subst e;exact I2.qM (ar _) (I2.br.fresh (ar _))
def R1(Pv:Nat->Aao->Hp->Prop)(hx:kvs.length<sizeLine)(h0:Pv 0 [] H1)(hl:∀i ys H,i<=kvs.length->Pv i ys H->H d=some (.de o (.dK kvs))/\ys.length<=i)
  (hs:∀(i:Nat)(kv:Key×V)(ys:Aao)(H:Hp)(N:Aao->Hp->Prop),kvs[i]?=some kv->Pv i ys H->(∀jC H',Pv (i+1) jC H'->N jC H')->
   tt (some (kV kv.1)::slotsOf fr Z) H λb H4=>if b=true then te (some (kV kv.1)::slotsOf fr Z) H4 (λy H5=>N (ys++[y]) H5)else N ys H4)
  (hd:∀ys H,Pv kvs.length ys H->∀l,H l=none->R l ys H):zC (Itd d o kvs) fr tt te Z H1 R:=by
 refine{λi m ys H=>m=kvs.length -i/\i<=kvs.length/\Pv i ys H,{kvs.length,by simp,aP _,h0},?_};rintro i m ys H ⟨rfl,hi,p⟩;obtain⟨q,hy⟩:=hl i ys H hi p;by_cases bK:i<kvs.length
 ·refine .inr {⟨q,bK⟩,by lia,?_};rintro v H3 ⟨rfl,kv,jd,rfl⟩;exact hs i kv ys H3 (λjC H'=>∃m',m'<kvs.length -i/\m'=kvs.length -(i+1)/\i+1<=kvs.length/\Pv (i+1) jC H') jd p λjC H' p'=>{_,by lia,rfl,bK,p'}
 ·have e:i=kvs.length:=by lia
  subst e;exact .inl {{q,ar _},by lia,hd ys H p}
section
variable{X:Cx}
theorem ints_of:∀{ns:List Int}{us:Aag},Vals (-68) us->IntsAre us ns
 |[],_,.nil=>.nil
 |n::ns,_,.cons ⟨t,r⟩ q=>by subst r;exact .cons _ _ (ints_of q)
def UW(hc:X.calm=true):jv X (.builtin "sum") (λxs H Q=>∃(a:Addr)(ns:List Int),xs=[.ref a]/\bp X.K H a (-68)/\Q (.int ns.sum) H):=by
 intro pins s Z H xs us Q I r h;obtain⟨a,ns,rfl,hq,q⟩:=h;obtain⟨u,rfl,ru⟩:=lP r;cases ru;obtain⟨aY,rv,pl,hz⟩:=I.list hq;have ia:=ints_of rv;obtain⟨ws,ex⟩:=ia.allInts.items;have en:ws.toList.map (·.1)=ns:=by rw[<-nums_intItems,<-ex];exact ia.numsOf
 refine sum_intListG (xs:=ws) (I.ok.hd hc) (by rw[<-ex];exact pl.isList) λh' tk t' hk=>?_;have e:preSum (numAt ws) ws.size=ns.sum:=by rw[preSum_eq,dU (-9),en]
 rw[e];exact{.int ns.sum,H,I.kept (t':=tk) hk,⟨_,rfl⟩,q}
variable{pins:Aac}{Z:St}{H:Hp}{s:Shared}{h':Heap}
def Inv.LS{ch:Aaj}(I:Inv X pins Z H s)(k:∀b o,b∉ch->s.heap.get? b=some o->h'.get? b=some o)(fc:∀b∈ch,pV X pins H b)
  (hp:s.heap.objs.size<=p) (ht:IsTup h' p us.toArray/\∃o,h'.get? p=some o/\o.dict=none) (r:Vals xs us) (hz:xs.length<=sizeLine):Inv X pins Z (upd H p (.tup xs)) {s with heap:=h',toks:=t'}:=by
 have hn:=I.br.fresh hp;have fp:=I.qM hp hn;have nH:∀b u,H b=some u->b∉ch/\b≠p:=λb u g=>{(λz=>by rw[(fc b z).1]at g;cases g),λz=>by rw[z,hn]at g;cases g};refine I.step (g':=s.gens) (d':=s.drawn) (ch:=p::ch) (λb hb=>?_) (λb o _ _ hc g _=>k b o (λz=>hc (aB _ z)) g) (λb o _ _ hc g _=>{o.slots,k b o (λz=>hc (aB _ z)) g})
  (λb o hc g n=>by rw[aE λz=>hc (by rw[z];exact aA)];exact n) (λb o hc g=>{o,k b o (λz=>hc (aB _ z)) g})
  (λb ys g=>by rw[aE (nH b _ g).2];exact g) (λb o u g=>by rw[aE (nH b _ g).2];exact g) (λb ps g=>{#[],by rw[aE (nH b _ g).2,g];simp}) (λm hm=>?_) (λb u g=>?_) I.bare
 ·rcases aG.mp hb with rfl|z
  ·exact{fp.2.2.2.1,fp.2.1,fp.2.2.2.2.1,fp.2.2.2.2.2}
  ·have f:=fc b z;exact{f.2.2.2.1,f.2.1,f.2.2.2.2.1,f.2.2.2.2.2}
 ·obtain⟨o,es,ep,ho,r'⟩:=hm;exact{o,es,ep,k _ o (λz=>(fc _ z).2.1 rfl) ho,r'}
 ·by_cases hb:b=p
  ·subst hb;rw[aw]at g;cases g;exact⟨hz,us,r,ht⟩
  ·rw[aE hb]at g;refine(I.br b u g).jx (λc v hc q=>?_) (λc q=>?_) λc ys q=>?_
   ·rcases hc with z|z
    ·rw[z];rw[z]at q;exact k b v (nH b _ g).1 q
    ·exact k c v (nH c _ z).1 q
   ·rw[aE (nH c _ q).2];exact q
   ·rw[aE (nH c _ q).2];exact q
def Inv.LU{ch:Aaj}(I:Inv X pins Z H s)(k:∀b o,b∉ch->s.heap.get? b=some o->h'.get? b=some o)(fc:∀b∈ch,pV X pins H b):Inv X pins Z H {s with heap:=h',toks:=t'}:=by
 have nH:∀b u,H b=some u->b∉ch:=λb u g z=>by rw[(fc b z).1]at g;cases g
 refine I.step (g':=s.gens) (d':=s.drawn) (ch:=ch) (λb z=>?_) (λb o _ _ hc g _=>k b o hc g) (λb o _ _ hc g _=>{o.slots,k b o hc g}) (λ_ _ _ _ n=>n) (λb o hc g=>{o,k b o hc g})
  (λ_ _ g=>g) (λ_ _ _ g=>g) (λb ps g=>{#[],by rw[g];simp}) (λm hm=>?_) (λb u g=>?_) I.bare
 ·have f:=fc b z;exact{f.2.2.2.1,f.2.1,f.2.2.2.2.1,f.2.2.2.2.2}
 ·obtain⟨o,es,ep,ho,r'⟩:=hm;exact{o,es,ep,k _ o (λz=>(fc _ z).2.1 rfl) ho,r'}
 ·refine(I.br b u g).jx (λc v hc q=>k c v ?_ q) (λ_ q=>q) λ_ _ q=>q;rcases hc with z|z
  ·rw[z];exact nH b _ g
  ·exact nH c _ z
end
section
variable{P:Program}{w:World}{A:Around}{E:Aae}{v:Shared}
def Lz(d:Sa z ti to i1 i2 l1 l2)(g:Zt v.heap z ti to i1 i2 l1 l2 .none k)
  (t1:v.heap.IsTuple l1 xs) (t2:v.heap.IsTuple l2 ys) (ex:xs[k]?=some x) (ey:ys[k]?=some y)
  (q:∀h',Zt h' z ti to i1 i2 l1 l2 (rawInt v.heap.objs.size) (k+1)->IsPair h' v.heap.objs.size x y->(∀c o,c≠z->c≠to->c≠i1->c≠i2->v.heap.get? c=some o->h'.get? c=some o)->Q (some (.ref v.heap.objs.size)) {v with heap:=h'}):
  wpAny (-30) A (pyNext (.ref z)) Q E v:=by
 have ty:v.TypeIs (.ref z) "zip":={_,g.self,rfl};unfold pyNext;exact af (dZ (wpAny_callSpecial?_slot (name:=Str.ofString "__next__") ty eM (bz eM ty j8 (Xc d g t1 t2 ex ey λh' b1 b2 b3=>ao (q h' b1 b2 b3)) (jJ _))))
def Ly(hh:A.handled=none)(d:Sa z ti to i1 i2 l1 l2)(g:Zt v.heap z ti to i1 i2 l1 l2 .none k)
  (t1:v.heap.IsTuple l1 xs) (ex:xs[k]?=none)
  (q:∀h',(∀c o,c≠z->c≠to->c≠i1->c≠i2->v.heap.get? c=some o->h'.get? c=some o)->Q none {v with heap:=h'}):
  wpAny (-30) A (pyNext (.ref z)) Q E v:=by
 have ty:v.TypeIs (.ref z) "zip":={_,g.self,rfl};unfold pyNext;refine af (dZ (wpAny_callSpecial?_slot (name:=Str.ofString "__next__") ty eM (bz eM ty j8 (Y4 (ys:=#[]) hh d g t1 ex λh' e hk he=>?_) (jJ _))));obtain⟨o,ho,hc⟩:=he;exact af (f6 (T:="StopIteration") (b:=true) ⟨o,ho,hc⟩ jQ (ao (q _ hk)))
abbrev U8(h:Heap)(l1:Addr):Heap:=h.push {cls:=.type "tuple_iterator",data:=.fields #[.ref l1,.int 0 0]}
abbrev U7(h:Heap)(l1 l2:Addr):Heap:=(U8 h l1).push {cls:=.type "tuple_iterator",data:=.fields #[.ref l2,.int 0 0]}
abbrev U6(h:Heap)(l1 l2:Addr):Heap:=(U7 h l1 l2).push {cls:=.type "tuple",data:=.seq #[.ref h.objs.size,.ref (U8 h l1).objs.size]}
abbrev U5(h:Heap)(l1 l2:Addr):Heap:=(U6 h l1 l2).push {cls:=.type "tuple",data:=.seq #[.none,.none]}
abbrev LD(h:Heap)(l1 l2:Addr):Heap:=(U5 h l1 l2).push {cls:=.type "zip",data:=.fields #[.none,.bool false,.bool false,.ref (U7 h l1 l2).objs.size,.ref (U6 h l1 l2).objs.size]}
def Y5(l1 l2:Addr)(xs ys:Aal):
  Meets (Builtin.«zip.__new__» {[.type "zip",.ref l1,.ref l2],[]}) (λ_ R s=>s.heap.IsTuple l1 xs/\s.heap.IsTuple l2 ys/\R (.ok (.ret (.ref (U5 s.heap l1 l2).objs.size))) {s with heap:=LD s.heap l1 l2}):=
 .of_wp λprog w A R s h=>by
  obtain⟨hp,g,d,tk,os⟩:=s;obtain⟨pj,jF,h⟩:=h;have Ub:=sub_zip;have hL1:Heap.IsTuple (Shared.heap ⟨hp,g,d,tk,os⟩) l1 xs:=pj;have hL2:Heap.IsTuple (Shared.heap ⟨hp.push {cls:=.type "tuple_iterator",data:=.fields #[.ref l1,.int 0 0]},g,d,tk,os⟩) l2 ys:=by obtain⟨o,e,r⟩:=jF;exact{o,aq _ e,r}
  wp_walk using sG hL1,sG hL2
  exact⟨_,rfl,h⟩
def LC(h1:v.heap.IsTuple l1 xs)(h2:v.heap.IsTuple l2 ys)
  (q:∀h' n,n=v.heap.objs.size->Zt h' (n+4) (n+2) (n+3) n (n+1) l1 l2 .none 0->(∀c o,v.heap.get? c=some o->h'.get? c=some o)->Q (.ref (n+4)) {v with heap:=h'}):
  wpAny (-30) A (call (.type "zip") [.ref l1,.ref l2]) Q E v:=by
 refine callType_new F.called_zip (-8) (F.typeCall_zip_2 _ _) (F.newCall_zip_2 _ _) (λobj=>zy obj _ _) F.entry_zip_new (Y5 l1 l2 xs ys) {h1,h2,?_};have e1:(U8 v.heap l1).objs.size=v.heap.objs.size+1:=cB ..;have e2:(U7 v.heap l1 l2).objs.size=v.heap.objs.size+2:=by rw[cB,e1]
 have e3:(U6 v.heap l1 l2).objs.size=v.heap.objs.size+3:=by rw[cB,e2]
 have e4:(U5 v.heap l1 l2).objs.size=v.heap.objs.size+4:=by rw[cB,e3]
 have g5:(LD v.heap l1 l2).get? (U5 v.heap l1 l2).objs.size=some _:=aF _ rfl;have g4:(LD v.heap l1 l2).get? (U6 v.heap l1 l2).objs.size=some _:=aq _ (aF _ rfl);have g3:(LD v.heap l1 l2).get? (U7 v.heap l1 l2).objs.size=some _:=aq _ (aq _ (aF _ rfl));have g2:(LD v.heap l1 l2).get? (U8 v.heap l1).objs.size=some _:=aq _ (aq _ (aq _ (aF _ rfl)));have g1:(LD v.heap l1 l2).get? v.heap.objs.size=some _:=aq _ (aq _ (aq _ (aq _ (aF _ rfl))));show _/\_;rw[e2,e3,e4]at g5;rw[e1,e2]at g3;rw[e3]at g4;rw[e1]at g2;rw[e4];exact{⟨_,g5,rfl⟩,q _ _ rfl {g5,g3,⟨_,_,g4⟩,⟨_,g1,rfl,rfl⟩,⟨_,g2,rfl,rfl⟩} λc o x=>aq _ (aq _ (aq _ (aq _ (aq _ x))))}
def Nw(K:Frag)(a b:Addr):It:=
 {λi H=>∃xs ys x y,bF K H a xs/\bF K H b ys/\xs[i]?=some x/\ys[i]?=some y,
  λi H u H'=>∃p x y,u=.ref p/\H p=none/\H'=upd H p (.tup [x,y])/\(∀xs,bF K H a xs->xs[i]?=some x)/\∀ys,bF K H b ys->ys[i]?=some y,
  λi H=>∃xs,bF K H a xs/\xs.length=i}
def gR(z ti to i1 i2:Addr):Aaj:=[z,ti,to,i1,i2]
end
def Sy{K:Frag}(a b z ti to i1 i2:Addr)(dd:Sa z ti to i1 i2 a b):Turn P w K (.Tuple elts kk ps) (Nw K a b) (gR z ti to i1 i2) z (λi h=>Zt h z ti to i1 i2 a b .none i) where
 mem:=aA
 obj:=λi h st c hc=>by
  obtain⟨gs,gi,⟨u,v,go⟩,⟨o1,q1,c1,d1⟩,⟨o2,q2,c2,d2⟩⟩:=st;have qi:c=z\/c=ti\/c=to\/c=i1\/c=i2:=by simpa[gR]using hc
  rcases qi with rfl|rfl|rfl|rfl|rfl
  ·exact{_,gs,λv z=>by cases z}
  ·exact{_,gi,λv z=>by cases z}
  ·exact{_,go,λv z=>by cases z}
  ·exact{_,q1,λv z=>by rw[d1]at z;cases z}
  ·exact{_,q2,λv z=>by rw[d2]at z;cases z}
 keep:=λi h h' st k=>by obtain⟨gs,gi,⟨u,v,go⟩,⟨o1,q1,r1⟩,⟨o2,q2,r2⟩⟩:=st;exact{k z (by simp[gR]) _ gs,k ti (by simp[gR]) _ gi,{u,v,k to (by simp[gR]) _ go},{o1,k i1 (by simp[gR]) _ q1,r1},{o2,k i2 (by simp[gR]) _ q2,r2}}
 item:=by
  intro X hP hw hK hc i pins s Z H E I hf st hg;subst hP hw hK;obtain⟨xs,ys,x,y,ha,hb,hx,hy⟩:=hg;obtain⟨EX,IU,EG,wu⟩:=I.tuple ha;obtain⟨A6,IT,AL,xV⟩:=I.tuple hb;obtain⟨u1,Kd,IV⟩:=IU.get hx;obtain⟨u2,zO,EC⟩:=IT.get hy;refine Lz dd st (show s.heap.IsTuple a EX.toArray from EG) (show s.heap.IsTuple b A6.toArray from AL) (x:=u1) (y:=u2) (by simpa using Kd) (by simpa using zO) λh1 g1 pr kp=>{_,rfl,?_};refine uw g1.self λh2 z2 sb=>?_;have qx:Heap.SameBut z h1 h2:=sb;have lz:z<s.heap.objs.size:=aI st.self;have al:∀c∈gR z ti to i1 i2,c<s.heap.objs.size:=λc hc=>by
   obtain⟨gs,gi,⟨u,v,go⟩,⟨o1,q1,r1⟩,⟨o2,q2,r2⟩⟩:=id st;have qi:c=z\/c=ti\/c=to\/c=i1\/c=i2:=by simpa[gR]using hc
   rcases qi with rfl|rfl|rfl|rfl|rfl
   ·exact aI gs
   ·exact aI gi
   ·exact aI go
   ·exact aI q1
   ·exact aI q2
  have vt:∀c o,c∉gR z ti to i1 i2->s.heap.get? c=some o->h2.get? c=some o:=λc o hc e=>
   qx.extBut c o (-16) (kp c o (-16) (-16) (-16) (-16) e)
  have tp:IsTup h2 s.heap.objs.size ([u1,u2]:Aag).toArray/\∃o,h2.get? s.heap.objs.size=some o/\o.dict=none:={{_,qx.extBut _ _ (bA lz) pr,rfl,_,rfl},_,qx.extBut _ _ (bA lz) pr,rfl};have I2:=I.LS (t':=s.toks) (xs:=[x,y]) vt hf (ar _) tp (.cons IV (.cons EC .nil)) (-36);obtain⟨⟨n1,n2,n3,n4⟩,n5,n6,n7,n8⟩:=g1.ne;obtain⟨gs,gi,⟨u,v,go⟩,⟨o1,q1,r1⟩,⟨o2,q2,r2⟩⟩:=g1;refine{.ref s.heap.objs.size,_,I2,rfl,{_,x,y,rfl,I.br.fresh (ar _),rfl,λzs hz=>by rw[I.Ar hz ha];exact hx,λzs hz=>by rw[I.Ar hz hb];exact hy},{z2,qx.extBut _ _ n1 gi,{u,v,qx.extBut _ _ n2 go},{o1,qx.extBut _ _ n3 q1,r1},{o2,qx.extBut _ _ n4 q2,r2}},λc hc=>?_};rw[aE (aL (al c hc))];exact(hf c hc).1
 done:=by intro X hP hw hK hc i pins s Z H E I hf st hg;subst hP hw hK;obtain⟨xs,ha,hx⟩:=hg;obtain⟨EX,IU,EG,wu⟩:=I.tuple ha;have hl:=IU.length;refine Ly (I.ok.hd hc) dd st (show s.heap.IsTuple a EX.toArray from EG) (by simp;lia) λh1 kp=>{rfl,I.LU (t':=s.toks) (ch:=gR z ti to i1 i2) (λc o hc e=>kp c o (-16) (-16) (-16) (-16) e) hf}
 self:=λ_ _ _ _ _ st h=>lO st.self h
inductive aaO(K:Frag)(R:It->Hp->Prop)(vs:Aao)(H1:Hp):Prop
 |mk a b (_:vs=[.ref a,.ref b]) (_:(∃xs,bF K H1 a xs)) (_:(∃ys,bF K H1 b ys)) (_:R (Nw K a b) H1)
def acq(K:Frag)(ta:TA):TI:=λZ H R=>ta Z H λvs H1=>aaO K R vs H1
def Mq(hg:Gl X "zip")(hm:X.mg "zip"=none)(ha:PA X [a,b] ta)(hs:starEach [a,b] X.env=[(false,eval a X.env),(false,eval b X.env)]:=by rfl)(kI:starEach [b] X.env=[(false,eval b X.env)]:=by rfl):
  PI X (.Tuple elts kk ps) (.Call (.Name "zip" p) [a,b] [] pos) (acq X.K ta):=by
 intro pins s Z H R I h;refine FH (qE I hg hm boot_zip (d9 (-55) (by rw[hs,kI]) (by rw[kI];rfl)));obtain⟨l1,l2,e,⟨xs,ha⟩,⟨ys,hb⟩,q⟩:=q1;subst e;obtain⟨u1,u2,rfl,IV,EC⟩:=vals2 r1;cases IV;cases EC;obtain⟨EX,IU,EG,wu⟩:=I1.tuple ha;obtain⟨A6,IT,AL,xV⟩:=I1.tuple hb;have t1:s1.heap.IsTuple l1 EX.toArray:=EG;have t2:s1.heap.IsTuple l2 A6.toArray:=AL;have b1:l1<s1.heap.objs.size:=by obtain⟨o,e,_⟩:=t1;exact aI e
 have b2:l2<s1.heap.objs.size:=by obtain⟨o,e,_⟩:=t2;exact aI e
 refine LC t1 t2 λh' n en g kp=>?_;subst en;have I2:Inv X pins Z H1 {s1 with heap:=h'}:=I1.kept (t':=s1.toks) kp;refine lO g.self ?_;refine{_,_,_,_,H1,rfl,I2,Sy l1 l2 _ _ _ _ _ {?_,?_,?_,?_},g,λc hc=>?_,q}
 ·exactλt=>absurd t (aL (dC _))
 ·exactλt=>absurd t (aL (dC _))
 ·exact aL (a9 b1 (d7 _ _))
 ·exact aL (a9 b2 (d7 _ _))
 ·have qi:c=s1.heap.objs.size+4\/c=s1.heap.objs.size+2\/c=s1.heap.objs.size+3\/c=s1.heap.objs.size\/c=s1.heap.objs.size+1:=by simpa[gR]using hc
  have lc:s1.heap.objs.size<=c:=by rcases qi with e|e|e|e|e<;>rw[e]<;>first|exact ar _|exact d7 _ _
  exact I1.qM lc (I1.br.fresh lc)
def Uy{K:Frag}{a b:Addr}{xs ys:Aao}{g:TG}{tb:TS}{D:Ends}{Z:St}{H:Hp}(Pv:Nat->St->Hp->Prop)(le:xs.length=ys.length)(h0:Pv 0 Z H)(hl:∀i Z H,i<=xs.length->Pv i Z H->bF K H a xs/\bF K H b ys)
  (hs:∀i x y p Z H,xs[i]?=some x->ys[i]?=some y->Pv i Z H->H p=none->g (.ref p) Z (upd H p (.tup [x,y])) λσ2 H2=>tb {D with nx:=Pv (i+1),ct:=Pv (i+1),bk:=D.nx} σ2 H2) (hd:∀Z H,Pv xs.length Z H->D.nx Z H):
  ∃W:Nat->Nat->St->Hp->Prop,(∃m,W 0 m Z H)/\∀i m Z H,W i m Z H->
   ((Nw K a b).stop i H/\D.nx Z H)\/((Nw K a b).go i H/\∃N:St->Hp->Prop,(∀σ' H',N σ' H'->∃m',m'<m/\W (i+1) m' σ' H')/\∀x H',(Nw K a b).xt i H x H'->g x Z H' λσ2 H2=>tb {D with nx:=N,ct:=N,bk:=D.nx} σ2 H2):=by
 refine{λi m Z H=>m=xs.length -i/\i<=xs.length/\Pv i Z H,{xs.length,by simp,aP _,h0},?_};rintro i m Z H ⟨rfl,hi,p⟩;obtain⟨q1,q2⟩:=hl i Z H hi p;by_cases bK:i<xs.length
 ·refine .inr {{xs,ys,xs[i],ys[i]'∅,q1,q2,by simp[bK],au _},Pv (i+1),λσ' H' p'=>{xs.length -(i+1),by lia,rfl,bK,p'},λx H' y=>?_};obtain⟨r,u,v,rfl,hr,rfl,y1,y2⟩:=y;exact hs i u v r Z H (y1 xs q1) (y2 ys q2) p hr
 ·have e:i=xs.length:=by lia
  subst e;exact .inl {⟨xs,q1,rfl⟩,hd Z H p}
section
variable{P:Program}{w:World}{A:Around}{E:Aae}{v:Shared}
def CC(h:Q (v.heap.get? a) v):wpAny M A (loadIfAlive a) Q E v:=λΓ p _=>by show Sem.wp M Γ (Sem.loadIfAlive a Sem.pure) _ _ p v;rw[Sem.wp_loadIfAlive];exact h
abbrev yy(f0:Value)(b:Bool)(ti to:Addr):Obj:={cls:=.type "zip",dict:=none,data:=.fields #[f0,.bool b,.bool false,.ref ti,.ref to],slots:=#[]}
structure Zs(h:Heap)(z ti to i1 i2 l1 l2 T:Addr)(k:Nat):Prop where
 self:∃b,h.get? z=some (yy (rawInt T) b ti to)
 live:∃o,h.get? T=some o
 ins:IsPair h ti (.ref i1) (.ref i2)
 w1:h.IsListIter i1 l1 k
 w2:h.IsListIter i2 l2 k
def LA{z ti to T:Addr}(g:v.heap.get? z=some (yy (rawInt T) b ti to))(l:∃o,v.heap.get? T=some o)
  (q:∀h',h'.get? z=some (yy (rawInt T) true ti to)->Heap.SameBut z v.heap h'->Q false {v with heap:=h'}):wpAny (-30) A (Builtin.SmallTypes.ownedTupleIsFree (.ref z)) Q E v:=by
 obtain⟨o,l⟩:=l;unfold Builtin.SmallTypes.ownedTupleIsFree;refine af (bP g rfl rfl ?_);refine af (CC ?_);rw[cZ,l];refine af (bP g rfl rfl ?_);cases b with
 |true=>
  exact ao (q v.heap g (Cv _ _))
 |false=>
  refine af (cu g (-9) λh1 g1 s1=>ao (q h1 g1 s1))
variable{prog:Program}
def OZ:typeLookup (.type "zip") "__getattr__"=pure none:=by rw[jn,fY];kernel_rfl
def YE:typeLookup (.type "zip") "keys"=pure none:=by rw[jn,fY];kernel_rfl
def acI:entryFor table "zip.__getattribute__"=some Builtin.«object.__getattribute__»:=yf (id':="object.__getattribute__") (by kernel_rfl) (-3) (-3) (by kernel_rfl)
def YD{os:OsState}(hx:h.get? a=some (yy f0 b ti to))(hA:A.handled=none)
  (k:∀h' tk e,Heap.NewAttrErr h h' e (-51) "keys"->E (.ref e) ⟨h',g,d,tk,os⟩):
  wpAny (-5) A (Builtin.«object.__getattribute__» {[.ref a,.str "keys" u],[]}) Q E ⟨h,g,d,t,os⟩:=by
 have f4:=YE;unfold Builtin.«object.__getattribute__»
 repeat (any_goals (first|(assumption)|(wp_step)))
 refine yz hA k ?_;exact attrMsg_fits (-3) (by size_fits)
def YF{os:OsState}(hx:h.get? a=some (yy f0 b ti to))(hA:A.handled=none)
  (k:∀h' tk e,Heap.NewAttrErr h h' e (-51) "keys"->R (.error (.ref e)) ⟨h',g,d,tk,os⟩):
  codeAny (-5) A (.call (.builtin "zip.__getattribute__") {[.ref a,.str "keys" u],[]}) R ⟨h,g,d,t,os⟩:=
 qP F.slot_zip_getattribute.plain acI (F.slot_zip_getattribute.check _ _ _ _ _ _ _ _ (show(⟨h,g,d,t,os⟩:Shared).TypeIs (-51) "zip"from⟨_,hx,rfl⟩) (F.args_zip_getattribute_2 _ _) (YD hx hA k))
def acJ{os:OsState}(hx:h.get? a=some (yy f0 b ti to))(hA:A.handled=none)
  (k:∀h' tk e,Heap.NewAttrErr h h' e (-51) "keys"->E (.ref e) ⟨h',g,d,tk,os⟩):
  wpAny (-5) A (getAttrBy (-51) (.str "keys" u) false) Q E ⟨h,g,d,t,os⟩:=by
 have g2:=F.slot_zip_getattribute.lookup;have g3:=F.slot_zip_getattribute.bind (-51);have f5:=OZ;have f1:=ni
 repeat (any_goals (first|(assumption)|(wp_step)))
 refine YF hx hA λh' tk e ne=>?_;obtain⟨t',u',he⟩:=ne.there;unfold getattributeRaised
 repeat (any_goals (first|(assumption)|(wp_step)))
 exact k _ _ _ ne
def YG{os:OsState}(hx:h.get? a=some (yy f0 b ti to))(hA:A.handled=none)
  (k:∀h' tk e,Heap.NewAttrErr h h' e (-51) "keys"->Q none ⟨h',g,d,tk,os⟩):
  wpAny (-5) A (getAttr? (-51) "keys") Q E ⟨h,g,d,t,os⟩:=by
 have f1:=ni;unfold getAttr? getAttrBy?
 repeat (any_goals (first|assumption|(with_reducible refine acJ hx hA λh' tk e ne=>?_)|wp_step))
 obtain⟨t',u',he⟩:=ne.there
 repeat (any_goals (first|(assumption)|(wp_step)))
 exact k _ _ _ ne
end
section
theorem LG:∀{ks:List Key}{ys:Aao}{us vs:Aag},Vals (ks.map kV) us->Vals ys vs->ks.length=ys.length->∃pairs:List (Key×Value),Paired (λ(u:Value)(p:Key×Value)=>(bH P w).is p.1 u=true) us pairs/\vs=pairs.map (·.2)/\KV (ks.zip ys) pairs/\pairs.length=ks.length
 |[],[],_,_,.nil,.nil,_=>{[],.nil,rfl,.nil,rfl}
 |k::ks,y::ys,_,_,.cons (b:=u) r1 t1,.cons (b:=v) r2 t2,h=>by obtain⟨ps,h1,h2,h3,h4⟩:=LG t1 t2 (Nat.succ.inj h);exact{(k,v)::ps,.cons (wo r1) h1,by rw[aU,<-h2],.cons ⟨rfl,r2⟩ h3,bU Nat.succ h4}
end
end L2
namespace Tb
open PySem PySem.SetTable
def S:Nat->Nat
 |0=>0
 |n+1=>5*S n+1
def F:Nat->Nat->Nat
 |0,i=>i
 |n+1,i=>5*F n i+1
theorem K6:∀n i,F n i=i+S n*(4*i+1)
 |0,i=>by simp[F,S]
 |n+1,i=>by show 5*F n i+1=i+(5*S n+1)*(4*i+1);rw[K6 n i,Dj,kG,pC];generalize S n*(4*i+1)=z;lia
def W8(m:Nat):∀n i,F (m+n) i=F m (F n i):=by
 intro n i
 induction m with
 |zero=>simp[F]
 |succ m ih=>
  rw[show m+1+n=(m+n)+1 by lia];show 5*F (m+n) i+1=5*F m (F n i)+1;rw[ih]
def acQ(n:Nat):S (n+n)=2*S n*(2*S n+1):=by have h:=W8 n n 0;rw[K6,K6 n (F n 0),K6 n 0]at h;simp only[Nat.mul_zero,vN,Nat.mul_one]at h;rw[h];generalize S n=x;rw[pC,pC,show x*(4*x)=2*x*(2*x) by rw[ui,show(4:Nat)=2*2 from rfl,kG,kG,ui x 2 x]];lia
theorem W4:∀k,∃c,S (2^k)=2^k*(2*c+1)
 |0=>{0,rfl}
 |k+1=>by
  obtain⟨c,hc⟩:=W4 k;refine{2*c*S (2^k)+c+S (2^k),?_};rw[show 2^(k+1)=2^k+2^k by rw[jY];lia,acQ];generalize hs:S (2^k)=s at hc;have e:2*s*(2*s+1)=2*(2^k*(2*c+1))*(2*s+1):=by rw[<-hc]
  rw[e,<-Nat.two_mul,<-kG,kG (2*2^k)];congr 1;rw[Dj,pC,pC,pC];have:2*c*(2*s)=2*(2*c*s):=by rw[ui]
  lia
theorem cover:∀(k i j:Nat),∃n,n<2^k/\F n i % 2^k=j % 2^k
 |0,i,j=>{0,by decide,by simp[Nat.mod_one]}
 |k+1,i,j=>by
  obtain⟨n,hn,e⟩:=cover k i j;have hm:=Nat.two_pow_pos k;rw[jY];by_cases c:F n i/2^k % 2=j/2^k % 2
  ·exact{n,by lia,by rw[xk,xk,e,c]}
  ·obtain⟨z,hz⟩:=W4 k;refine{2^k+n,by lia,?_};have e2:F (2^k+n) i=F n i+2^k*(2*(z*(4*F n i+1)+2*F n i)+1):=by rw[W8,K6 (2^k),hz,kG];congr 2;rw[Dj,Nat.one_mul,kG];generalize z*(4*F n i+1)=w;lia
   rw[e2,xk,xk,Nat.add_mul_mod_self_left,Nat.add_mul_div_left _ _ hm,e];congr 2;generalize z*(4*F n i+1)+2*F n i=y;lia
def Dg(mask:Nat)(p:Probe):Probe:=
 if p.more>0 then{p with j:=p.j+1,more:=p.more -1}else
 {p with j:=(leap mask p.i p.perturb).1,more:=runEnd mask (leap mask p.i p.perturb).1 -(leap mask p.i p.perturb).1,i:=(leap mask p.i p.perturb).1,perturb:=(leap mask p.i p.perturb).2}
abbrev L3(mask i q:Nat):Probe:={j:=i,more:=runEnd mask i -i,i:=i,perturb:=q,dummy:=none}
def pr(mask:Nat)(h:Int):Nat->Probe
 |0=>L3 mask (bits h %(mask+1)) (bits h)
 |d+1=>Dg mask (pr mask h d)
def SN(t:SetTable)(h:Int):t.probeStart h=pr t.mask h 0:=rfl
def ps(mask:Nat)(h:Int)(d:Nat):Nat:=(pr mask h d).j
def lp(mask:Nat)(h:Int):Nat->Nat×Nat
 |0=>(bits h %(mask+1),bits h)
 |n+1=>leap mask (-22).1 (-22).2
def run(mask i:Nat):Nat:=runEnd mask i -i
def Tn(mask:Nat)(h:Int):Nat->Nat
 |0=>0
 |n+1=>Tn mask h n+run mask (-22).1+1
def ZX(mask i:Nat):run mask i<=9:=by unfold run runEnd;split<;>lia
theorem W2(mask:Nat)(h:Int):∀n,Tn mask h n<=10*n
 |0=>ar _
 |n+1=>by have:=W2 mask h n;have:=ZX mask (-22).1;show Tn mask h n+run mask (-22).1+1<=_;lia
def XT(mask:Nat)(h:Int):∀n,pr mask h (Tn mask h n)=L3 mask (-22).1 (-22).2/\∀e,e<=run mask (-22).1->pr mask h (Tn mask h n+e)={j:=(-22).1+e,more:=run mask (-22).1 -e,i:=(-22).1,perturb:=(-22).2,dummy:=none}:=by
 have P5:∀n,pr mask h (Tn mask h n)=L3 mask (-22).1 (-22).2->∀e,e<=run mask (-22).1->pr mask h (Tn mask h n+e)={j:=(-22).1+e,more:=run mask (-22).1 -e,i:=(-22).1,perturb:=(-22).2,dummy:=none}:=by
  intro n h0 e
  induction e with
  |zero=>intro _;rw[j3,h0];rfl
  |succ e ih=>
   intro he;rw[<-pM];show Dg mask (pr mask h (Tn mask h n+e))=_;rw[ih ∅];unfold Dg;rw[aC (show run mask (-22).1 -e>0 by lia)];congr 1
 intro n
 induction n with
 |zero=>exact{rfl,P5 0 rfl}
 |succ n ih=>
  have h1:pr mask h (Tn mask h (n+1))=L3 mask (lp mask h (n+1)).1 (lp mask h (n+1)).2:=by show Dg mask (pr mask h (Tn mask h n+run mask (-22).1))=_;rw[ih.2 _ (ar _)];unfold Dg;rw[az (-9)];rfl
  exact{h1,P5 _ h1}
def EF{mask:Nat}(he:e<=run mask (-22).1):ps mask h (Tn mask h n+e)=(-22).1+e:=by unfold ps;rw[(XT mask h n).2 e he]
theorem acm(mask:Nat)(h:Int):∀n,(-22).1<mask+1
 |0=>lX _ (qX _)
 |n+1=>lX _ (qX _)
theorem aaC(mask:Nat)(h:Int):∀n,(-22).2=bits h/32^n
 |0=>by simp[lp]
 |n+1=>by show(-22).2/32=_;rw[aaC mask h n,Nat.div_div_eq_div_mul,jY]
def YU(h:Int):bits h<2^64:=by unfold bits;lia
theorem ME{mask k:Nat}(hk:mask+1=2^k)(h:Int):∀n,(lp mask h (13+n)).1=F n (lp mask h 13).1 % 2^k
 |0=>by have:=acm mask h 13;show(lp mask h 13).1=(lp mask h 13).1 % 2^k;rw[Nat.mod_eq_of_lt ∅]
 |n+1=>by
  show((lp mask h (13+n)).1*5+1+(lp mask h (13+n)).2/32) %(mask+1)=(5*F n (lp mask h 13).1+1) % 2^k;have q0:(lp mask h (13+n)).2/32=0:=by rw[aaC];have h1:=YU h;have h2:32^13<=32^(13+n):=gu (-8) ∅;rw[Nat.div_eq_of_lt (show bits h<32^(13+n)from a9 (fG h1 (-8)) h2)]
  rw[q0,ME hk h n,hk,j3,Nat.add_mod,Nat.mul_mod,Nat.mod_mod,<-Nat.mul_mod,<-Nat.add_mod,BH]
def hits{mask k:Nat}(hk:mask+1=2^k)(h:Int)(hj:j<=mask):∃n,n<=13+mask/\(-22).1=j/\ps mask h (Tn mask h n)=j:=by obtain⟨n,hn,e⟩:=cover k (lp mask h 13).1 j;have e2:=ME hk h n;rw[e,Nat.mod_eq_of_lt ∅]at e2;refine{13+n,by lia,e2,?_};have:=EF (mask:=mask) (h:=h) (n:=13+n) (aP _);rw[j3,j3]at this;rw[this,e2]
def N3{mask:Nat}:ps mask h d<=mask:=by
 have key:∀d,(pr mask h d).j+(pr mask h d).more<=mask:=by
  have base:∀i q,i<mask+1->(L3 mask i q).j+(L3 mask i q).more<=mask:=λi q hi=>by show i+(runEnd mask i -i)<=mask;unfold runEnd;split<;>lia
  intro d
  induction d with
  |zero=>exact base _ _ (lX _ (qX _))
  |succ d ih=>
   show(Dg mask (pr mask h d)).j+(Dg mask (pr mask h d)).more<=mask;unfold Dg;split
   ·show(pr mask h d).j+1+((pr mask h d).more -1)<=mask;lia
   ·exact base _ 0 (lX _ (qX _))
 have:=key d;unfold ps;lia
def least{p:Nat->Prop}:∀{n},p n->∃m,m<=n/\p m/\∀e,e<m->¬p e:=by
 intro n
 induction n using Nat.strongRecOn with
 |ind n ih=>
  intro hn;by_cases c:∃e,e<n/\p e
  ·obtain⟨e,he,pe⟩:=c;obtain⟨m,h1,h2,h3⟩:=ih e he pe;exact{m,by lia,h2,h3}
  ·exact{n,ar _,hn,λe he pe=>c ⟨e,he,pe⟩}
def nN(xs:Array Nat):Prop:=∀i k,i<k->k<xs.size->xs.getD i 0<xs.getD k 0
def Uv{xs:Array Nat}(h:i<xs.size):xs.getD i a=xs.getD i b:=by simp[Array.getD,h]
def getD_some{xs:Array Nat}:xs[i]?=some j↔i<xs.size/\xs.getD i 0=j:=by
 constructor
 ·intro e;obtain⟨h,e⟩:=gQ.mp e;exact{h,by simp[Array.getD,h,e]}
 ·rintro⟨h,e⟩;rw[bD h];simpa[Array.getD,h]using e
theorem DZ(hr:nN xs)(j:Nat):∀(f lo hi:Nat),lo<=hi->hi<=xs.size->hi -lo<=f->(∀i,i<lo->xs.getD i 0<j)->(∀i,hi<=i->i<xs.size->j<=xs.getD i 0)->
  below.go xs j f lo hi<=xs.size/\(∀i,i<below.go xs j f lo hi->xs.getD i 0<j)/\∀i,below.go xs j f lo hi<=i->i<xs.size->j<=xs.getD i 0
 |0,lo,hi,h1,h2,h3,h4,h5=>by show lo<=xs.size/\(∀i,i<lo->xs.getD i 0<j)/\∀i,lo<=i->i<xs.size->j<=xs.getD i 0;exact{by lia,h4,λi a b=>h5 i ∅ b}
 |f+1,lo,hi,h1,h2,h3,h4,h5=>by
  unfold below.go;by_cases c:lo<hi
  ·simp only[aC c];have hm:(lo+hi)/2<xs.size:=by lia
   rw[Uv (b:=0) hm];by_cases d:xs.getD ((lo+hi)/2) 0<j
   ·simp only[aC d];refine DZ hr j f _ _ ∅ h2 ∅ (λi Ws=>?_) h5;by_cases e:i=(lo+hi)/2
    ·rw[e];exact d
    ·exact fG (hr i _ ∅ hm) d
   ·simp only[az d];refine DZ hr j f _ _ ∅ ∅ ∅ h4 λi a b=>?_;by_cases e:i=(lo+hi)/2
    ·rw[e];lia
    ·have:=hr ((lo+hi)/2) i ∅ b;lia
  ·simp only[az c];exact{by lia,h4,λi a b=>h5 i ∅ b}
def uJ(hr:nN xs)(j:Nat):below xs j<=xs.size/\(∀i,i<below xs j->xs.getD i 0<j)/\∀i,below xs j<=i->i<xs.size->j<=xs.getD i 0:=
 DZ hr j xs.size 0 xs.size (aP _) (ar _) ∅ (λi h=>absurd h (iA _)) λi a b=>by lia
def below_at(hr:nN xs)(e:xs[i]?=some j):below xs j=i:=by
 obtain⟨h1,h2,h3⟩:=uJ hr j;obtain⟨hi,e⟩:=getD_some.mp e;rcases kY (below xs j) i with c|c|c
 ·have:=h3 _ (ar _) ∅;have:=hr _ _ c hi;lia
 ·exact c
 ·have:=h2 i c;lia
def GG{t:SetTable}(hr:nN t.place)(e:t.place[i]?=some j):t.slot j=.live i:=by unfold SetTable.slot;rw[below_at hr e];simp[e]
def PX{t:SetTable}(hd:t.dummies=#[])(e:∀i:Nat,t.place[i]?≠some j):t.slot j=.empty:=by unfold SetTable.slot;have h1:¬(t.place[below t.place j]?==some j)=true:=λh=>e _ (iH h);rw[az h1,hd];rw[az (by simp[has])]
def OS{mask:Nat}(hr:nN xs)(hs:xs.size<=mask):∃j:Nat,j<=mask/\∀i:Nat,xs[i]?≠some j:=by
 by_cases c:∃j:Nat,j<=mask/\∀i:Nat,xs[i]?≠some j
 ·exact c
 ·exfalso;have all:∀j:Nat,j<=mask->∃i:Nat,xs[i]?=some j:=λj hj=>m7 λn=>c {j,hj,λi e=>n ⟨i,e⟩};have key:∀m:Nat,m<=mask->xs[m]?=some m:=by
   intro m
   induction m using Nat.strongRecOn with
   |ind m ih=>
    intro hm;obtain⟨i,e⟩:=all m hm;rcases kY i m with q|q|q
    ·have:=ih i q ∅;rw[this]at e;cases e;lia
    ·rw[<-q];rw[q]at e⊢;exact e
    ·obtain⟨hi,ei⟩:=getD_some.mp e;have h1:=hr m i q hi;have h2:m<=xs.getD m 0:=by
      cases m with
      |zero=>exact aP _
      |succ m=>
       obtain⟨_,e3⟩:=getD_some.mp (ih m ∅ ∅);have:=hr m (m+1) ∅ ∅;lia
     lia
  obtain⟨h,_⟩:=getD_some.mp (key mask (ar _));lia
structure Tab(t:SetTable)(hs:List Int):Prop where
 pow:∃k,t.mask+1=2^k
 big:7<=t.mask
 RR:t.dummies=#[]
 rise:nN t.place
 sz:t.place.size=hs.length
 je:hs.length<=t.mask
 le:∀i j:Nat,t.place[i]?=some j->j<=t.mask
 reach:∀(i:Nat)(h:Int),hs[i]?=some h->∃d,t.place[i]?=some (ps t.mask h d)/\∀e,e<d->∃i':Nat,t.place[i']?=some (ps t.mask h e)
def Tab.fits(T:Tab t hs):t.fits hs.length=true:=by unfold SetTable.fits SetTable.fill;have h1:=T.sz;have h2:=T.je;rw[T.RR,h1];simp[h2]
def Tab.way(T:Tab t hs):t.gaveWay=false:=by
 obtain⟨k,hk⟩:=T.pow;have:=T.big;unfold SetTable.gaveWay;cases k with
 |zero=>rw[Nat.pow_zero]at hk;lia
 |succ k=>rw[jY]at hk;simp;lia
def Tab.fresh(finger moves:Nat)(led:Bool):Tab (.fresh finger moves led) [] where
 pow:={3,rfl}
 big:=ar 7
 RR:=rfl
 rise:=λi k _ h=>absurd h (iA _)
 sz:=rfl
 je:=aP _
 le:=λi j e=>by simp[SetTable.fresh]at e
 reach:=λi h e=>by simp at e
structure Pk(t:SetTable)(h:Int)(D:Nat):Prop where
 lt:D<10*turns t.mask
 no:∀i:Nat,t.place[i]?≠some (-31)
 ahead:∀e,e<D->∃i:Nat,t.place[i]?=some (ps t.mask h e)
def Tab.free(T:Tab t hs)(h:Int):∃D,Pk t h D:=by obtain⟨k,hk⟩:=T.pow;obtain⟨j,hj,hn⟩:=OS T.rise (show t.place.size<=t.mask by rw[T.sz];exact T.je);obtain⟨n,A9,_,e⟩:=hits hk h hj;obtain⟨D,h1,h2,h3⟩:=least (p:=λd=>∀i:Nat,t.place[i]?≠some (ps t.mask h d)) (n:=Tn t.mask h n) (by rw[e];exact hn);have:=W2 t.mask h n;refine{D,by unfold turns;lia,h2,λe he=>m7 λq=>h3 e he λi z=>q ⟨i,z⟩}
theorem Jh(mask:Nat)(h:Int):∀d,(pr mask h d).dummy=none
 |0=>rfl
 |d+1=>by show(Dg mask (pr mask h d)).dummy=none;unfold Dg;split<;>exact Jh mask h d
def Tab.live(T:Tab t hs){i j:Nat}(e:t.place[i]?=some j):∃h,hs[i]?=some h:=by obtain⟨hi,_⟩:=getD_some.mp e;rw[T.sz]at hi;exact{_,au hi}
theorem Jg(T:Tab t hs)(fr:Pk t h D)(ha:∀(i:Nat)(g:Int),hs[i]?=some g->hashAt i=g):∀(f d:Nat),d<=D->D -d<f->
  (probe.go t hashAt h f (pr t.mask h d)=some (.empty (-31) none)/\∀e,d<=e->e<D->∀i:Nat,t.place[i]?=some (ps t.mask h e)->hs[i]?≠some h)\/
  ∃e i,d<=e/\e<D/\t.place[i]?=some (ps t.mask h e)/\hs[i]?=some h/\probe.go t hashAt h f (pr t.mask h d)=some (.candidate (ps t.mask h e) i (pr t.mask h (e+1)))/\∀e',d<=e'->e'<e->∀i':Nat,t.place[i']?=some (ps t.mask h e')->hs[i']?≠some h
 |0,d,_,hf=>absurd hf (iA _)
 |f+1,d,hd,hf=>by
  unfold probe.go;by_cases c:d=D
  ·subst c;have e:t.slot (pr t.mask h d).j=.empty:=PX T.RR fr.no;rw[e];refine .inl {?_,λe a b=>by lia};show some (Met.empty (ps t.mask h d) (pr t.mask h d).dummy)=_;rw[Jh]
  ·obtain⟨i,hi⟩:=fr.ahead d ∅;have e:t.slot (pr t.mask h d).j=.live i:=GG T.rise hi;rw[e];obtain⟨g,hg⟩:=T.live hi;have hu:∀i':Nat,t.place[i']?=some (ps t.mask h d)->i'=i:=λi' q=>by rw[<-below_at T.rise q,<-below_at T.rise hi]
   by_cases c2:hashAt i=h
   ·refine .inr {d,i,ar _,by lia,hi,?_,?_,λe' a b=>by lia}
    ·rw[ha i g hg]at c2;rw[hg,c2]
    ·show(if(hashAt i==h)=true then some (Met.candidate (ps t.mask h d) i (t.advance (pr t.mask h d)))else probe.go t hashAt h f (t.advance (pr t.mask h d)))=_;rw[aC (by rw[c2];exact Gp)];rfl
   ·have no:∀i':Nat,t.place[i']?=some (ps t.mask h d)->hs[i']?≠some h:=λi' q z=>by rw[hu i' q]at z;exact c2 (ha i h z)
    have ih:=Jg T fr ha f (d+1) ∅ ∅;have eq:(if(hashAt i==h)=true then some (Met.candidate (ps t.mask h d) i (t.advance (pr t.mask h d)))else probe.go t hashAt h f (t.advance (pr t.mask h d)))=probe.go t hashAt h f (pr t.mask h (d+1)):=by rw[az (by simpa using c2)];rfl
    rcases ih with⟨h1,h2⟩|⟨e,i2,h1,h2,h3,h4,h5,h6⟩
    ·refine .inl {eq.trans h1,λe a b i' q=>?_};by_cases z:e=d
     ·rw[z]at q;exact no i' q
     ·exact h2 e ∅ b i' q
    ·refine .inr {e,i2,by lia,h2,h3,h4,eq.trans h5,λe' a b i' q=>?_};by_cases z:e'=d
     ·rw[z]at q;exact no i' q
     ·exact h6 e' ∅ b i' q
def jc(l:List α)(p:Nat)(x:α):List α:=l.take p++x::l.drop p
def J5(l:List α)(x:α)(hp:p<=l.length)(i:Nat):(jc l p x)[i]?=if i<p then l[i]? else if i=p then some x else l[i -1]?:=by
 unfold jc;by_cases c:i<p
 ·rw[aC c,dO (by rw[aT];lia),og c]
 ·rw[az c,dE (by rw[aT];lia),aT,gM hp];by_cases c2:i=p
  ·rw[aC c2,c2,vO];rfl
  ·rw[az c2,show i -p=(i -p -1)+1 by lia,oP,BJ];congr 1;lia
def w6(l:List α)(x:α)(hp:p<=l.length):(jc l p x).length=l.length+1:=by unfold jc;rw[aO,bx,aT,g6];lia
def Q1(l:List α)(p:Nat)(x:α):(jc l p x).Perm (x::l):=by unfold jc;refine List.perm_middle.trans ?_;rw[c7]
def J4(f:α->β)(l:List α)(p:Nat)(x:α):(jc l p x).map f=jc (l.map f) p (f x):=by unfold jc;simp
def qI(xs:Array α)(p:Nat)(x:α):(insertAt xs p x).toList=jc xs.toList p x:=by unfold insertAt jc;simp[dU]
def nN.of_get(h:∀i k a b:Nat,i<k->xs[i]?=some a->xs[k]?=some b->a<b):nN xs:=λi k Ko hk=>
 h i k _ _ Ko (getD_some.mpr {by lia,rfl}) (getD_some.mpr ⟨hk,rfl⟩)
def nN.get(h:nN xs){i k a b:Nat}(Ko:i<k)(ha:xs[i]?=some a)(hb:xs[k]?=some b):a<b:=by obtain⟨h1,e1⟩:=getD_some.mp ha;obtain⟨h2,e2⟩:=getD_some.mp hb;have:=h i k Ko h2;lia
def AH{t:SetTable}(hr:nN t.place)(j i:Nat):(t.put j).1.place[i]?=if i<below t.place j then t.place[i]? else if i=below t.place j then some j else t.place[i -1]?:=by show(insertAt t.place (below t.place j) j)[i]?=_;rw[<-bJ,qI,J5 _ _ (by rw[aS];exact(uJ hr j).1)];simp only[bJ]
def FR{t:SetTable}(hr:nN t.place){i v:Nat}(e:t.place[i]?=some v):∃i':Nat,(t.put j).1.place[i']?=some v:=by
 by_cases c:i<below t.place j
 ·exact{i,by rw[AH hr,aC c,e]}
 ·exact{i+1,by rw[AH hr,az ∅,az ∅,Nat.add_sub_cancel,e]}
def Tab.put(T:Tab t hs)(fr:Pk t h D)(room:hs.length+1<=t.mask):Tab (t.put (-31)).1 (jc hs (t.put (-31)).2 h):=by
 have hb:=uJ T.rise (-31);have hp:(t.put (-31)).2=below t.place (-31):=rfl;have wA:below t.place (-31)<=hs.length:=by rw[<-T.sz];exact hb.1
 rw[hp];have pl:=λi=>AH T.rise (-31) i;have hl:=J5 hs h wA;have at_:(t.put (-31)).1.place[below t.place (-31)]?=some (-31):=by rw[pl,az (dD _),aC rfl]
 have lo:∀i a:Nat,i<below t.place (-31)->t.place[i]?=some a->a<ps t.mask h D:=λi a c e=>by obtain⟨_,e⟩:=getD_some.mp e;have:=hb.2.1 i c;lia
 have hi:∀i a:Nat,below t.place (-31)<=i->t.place[i]?=some a->ps t.mask h D<a:=λi a c e=>by obtain⟨l,e'⟩:=getD_some.mp e;have:=hb.2.2 i c l;have ne:a≠ps t.mask h D:=λz=>fr.no i (by rw[e,z]);lia
 refine{T.pow,T.big,?_,?_,?_,?_,λi j e=>?_,λi g e=>?_}
 ·show(if has t.dummies (-31)=true then _ else t.dummies)=_;rw[T.RR];simp[has]
 ·refine nN.of_get λi k a b Ko ha kJ=>?_;rw[pl]at ha kJ;by_cases c1:i<below t.place (-31)
  ·rw[aC c1]at ha;by_cases c2:k<below t.place (-31)
   ·rw[aC c2]at kJ;exact T.rise.get Ko ha kJ
   ·rw[az c2]at kJ;by_cases c3:k=below t.place (-31)
    ·rw[aC c3]at kJ;cases kJ;exact lo i a c1 ha
    ·rw[az c3]at kJ;exact fG (lo i a c1 ha) (hi _ b ∅ kJ)
  ·rw[az c1]at ha;rw[az ∅,az ∅]at kJ;by_cases c3:i=below t.place (-31)
   ·rw[aC c3]at ha;cases ha;exact hi _ b ∅ kJ
   ·rw[az c3]at ha;exact T.rise.get ∅ ha kJ
 ·rw[w6 _ _ wA,<-T.sz,<-aS];show(insertAt t.place (below t.place (-31)) (-31)).toList.length=_;rw[qI,w6 _ _ (by rw[aS];exact hb.1),aS]
 ·rw[w6 _ _ wA];exact room
 ·rw[pl]at e;by_cases c1:i<below t.place (-31)
  ·rw[aC c1]at e;exact T.le i j e
  ·rw[az c1]at e;by_cases c3:i=below t.place (-31)
   ·rw[aC c3]at e;cases e;exact N3
   ·rw[az c3]at e;exact T.le _ j e
 ·have mk:(t.put (-31)).1.mask=t.mask:=rfl;rw[mk];rw[hl]at e;by_cases c1:i<below t.place (-31)
  ·rw[aC c1]at e;obtain⟨d,h1,h2⟩:=T.reach i g e;exact{d,by rw[pl,aC c1];exact h1,λx hx=>let⟨_,q⟩:=h2 x hx;FR T.rise q}
  ·rw[az c1]at e;by_cases c3:i=below t.place (-31)
   ·rw[aC c3]at e;cases e;exact{D,by rw[c3];exact at_,λx hx=>let⟨_,q⟩:=fr.ahead x hx;FR T.rise q}
   ·rw[az c3]at e;obtain⟨d,h1,h2⟩:=T.reach _ g e;exact{d,by rw[pl,az c1,az c3];exact h1,λx hx=>let⟨_,q⟩:=h2 x hx;FR T.rise q}
def Tab.of_eq(T:Tab t hs)(h1:t'.mask=t.mask)(h2:t'.place=t.place)(h3:t'.dummies=t.dummies):Tab t' hs:=by obtain⟨a1,a2,a3,a4,a5,a6,a7,a8⟩:=T;rw[<-h1]at a1 a2 a6 a7 a8;rw[<-h2]at a4 a5 a7 a8;rw[<-h3]at a3;exact⟨a1,a2,a3,a4,a5,a6,a7,a8⟩
structure Own(mask:Nat)(ow:Array (Option Nat))(hs:List Int):Prop where
 sz:ow.size=mask+1
 lt:∀j i:Nat,ow[j]?=some (some i)->i<hs.length
 inj:∀j j' i:Nat,ow[j]?=some (some i)->ow[j']?=some (some i)->j=j'
 at_:∀(i:Nat)(h:Int),hs[i]?=some h->∃d,ow[ps mask h d]?=some (some i)/\∀e,e<d->∃i':Nat,ow[ps mask h e]?=some (some i')
def Own.empty{mask:Nat}(O:Own mask ow hs)(je:hs.length<=mask):∃j:Nat,j<=mask/\ow[j]?=some none:=by
 by_cases c:∃j:Nat,j<=mask/\ow[j]?=some none
 ·exact c
 ·exfalso;have all:∀j:Nat,j<=mask->ow[j]?=some (some ((ow.getD j none).getD 0)):=λj hj=>by
   have hl:j<ow.size:=by rw[O.sz];lia
   have e:ow[j]?=some (ow.getD j none):=by rw[bD hl];simp[Array.getD,hl]
   cases q:ow.getD j none with
   |none=>exact(c {j,hj,by rw[e,q]}).elim
   |some i=>rw[e,q];rfl
  have nd:((List.range (mask+1)).map λj=>(ow.getD j none).getD 0).Nodup:=by
   refine k7.mpr (List.Pairwise.imp_of_mem (λ{a b} ha hb ne e=>ne (O.inj a b _ (all a ?_) (e▸all b ?_))) List.nodup_range)
   ·have:=cY.mp ha;lia
   ·have:=cY.mp hb;lia
  have sub:((List.range (mask+1)).map λj=>(ow.getD j none).getD 0)⊆List.range hs.length:=λx hx=>by obtain⟨j,hj,rfl⟩:=aR.mp hx;have:=cY.mp hj;exact cY.mpr (O.lt j _ (all j ∅))
  have:=List.Nodup.length_le_of_subset nd sub;rw[ak,gG,gG]at this;lia
def Y0(mask:Nat)(h:Int)(hmn:m<=n):Tn mask h m<=Tn mask h n:=by
 induction n with
 |zero=>rw[Nat.le_zero.mp hmn];exact ar _
 |succ n ih=>
  by_cases c:m=n+1
  ·rw[c];exact ar _
  ·have:=ih ∅;show _<=Tn mask h n+run mask (-22).1+1;lia
def XD(mask i:Nat):runEnd mask i+1 -i=run mask i+1:=by unfold run runEnd;split<;>lia
theorem Nf{mask:Nat}(hD:ow[ps mask h D]?=some none)(hb:∀e,e<D->∃i':Nat,ow[ps mask h e]?=some (some i'))(hn0:D<=Tn mask h n0):∀(f n:Nat),Tn mask h n<=D->n0 -n<f->layClean.free mask ow f (-22).1 (-22).2=some (ps mask h D)
 |0,n,_,hf=>absurd hf (iA _)
 |f+1,n,hn,hf=>by
  have own:∀e,e<=run mask (-22).1->Tn mask h n+e<D->(ow.getD ((-22).1+e) (some 0)).isNone=false:=λe he bK=>by obtain⟨i',q⟩:=hb _ bK;rw[EF he]at q;obtain⟨l,q⟩:=gQ.mp q;simp[Array.getD,l,q]
  unfold layClean.free;rw[XD];by_cases c:D<=Tn mask h n+run mask (-22).1
  ·have e1:(List.range (run mask (-22).1+1)).find? (λk=>(ow.getD ((-22).1+k) (some 0)).isNone)=some (D -Tn mask h n):=by
    refine List.find?_range_eq_some.mpr {?_,cY.mpr ∅,λj hj=>?_}
    ·have q:=hD;rw[show D=Tn mask h n+(D -Tn mask h n) by lia,EF ∅]at q;obtain⟨l,q⟩:=gQ.mp q;simp[Array.getD,l,q]
    ·rw[own j ∅ ∅];rfl
   simp only[e1];rw[<-EF ∅,show Tn mask h n+(D -Tn mask h n)=D by lia]
  ·have e1:(List.range (run mask (-22).1+1)).find? (λk=>(ow.getD ((-22).1+k) (some 0)).isNone)=none:=by refine List.find?_range_eq_none.mpr λj hj=>?_;rw[own j ∅ ∅];rfl
   simp only[e1];have lt:n<n0:=by
    rcases Nat.lt_or_ge n n0 with q|q
    ·exact q
    ·have:=Y0 mask h q;lia
   exact Nf hD hb hn0 f (n+1) (by show Tn mask h n+run mask (-22).1+1<=D;lia) ∅
abbrev xQ(mask:Nat)(acc:Option (Array (Option Nat)×Nat))(h:Int):Option (Array (Option Nat)×Nat):=do
  let(owner,k)<-acc
  let j<-layClean.free mask owner (turns mask) (bits h %(mask+1)) (bits h)
  pure (owner.setIfInBounds j (some k),k+1)
def Lp(mask:Nat)(hashes:Array Int):layClean mask hashes=(hashes.toList.foldl (xQ mask) (some (Array.replicate (mask+1) none,0))).map (·.1):=by rw[Array.foldl_toList];rfl
def Own.step{mask k:Nat}(hk:mask+1=2^k)(O:Own mask ow hs)(je:hs.length<mask)(h:Int):∃Qk,xQ mask (some (ow,hs.length)) h=some (Qk,hs.length+1)/\Own mask Qk (hs++[h]):=by
 obtain⟨j,hj,ej⟩:=O.empty (bu je);obtain⟨n0,hn0,_,e0⟩:=hits hk h hj;obtain⟨D,h1,h2,h3⟩:=least (p:=λd=>ow[ps mask h d]?=some none) (by rw[e0];exact ej);have hb:∀e,e<D->∃i':Nat,ow[ps mask h e]?=some (some i'):=λe he=>by
  have l:ps mask h e<ow.size:=by rw[O.sz];have:=N3 (mask:=mask) (h:=h) (d:=e);lia
  cases q:ow[ps mask h e]with
  |none=>exact(h3 e he (by rw[bD l,q])).elim
  |some i=>exact{i,by rw[bD l,q]}
 have ef:=Nf h2 hb h1 (turns mask) 0 (aP _) (by unfold turns;lia);have ef':layClean.free mask ow (turns mask) (bits h %(mask+1)) (bits h)=some (ps mask h D):=ef;refine{ow.setIfInBounds (ps mask h D) (some hs.length),by simp[xQ,ef'],?_};have l:ps mask h D<ow.size:=by rw[O.sz];have:=N3 (mask:=mask) (h:=h) (d:=D);lia
 have get:∀x:Nat,(ow.setIfInBounds (ps mask h D) (some hs.length))[x]?=if x=ps mask h D then some (some hs.length)else ow[x]?:=λx=>by
  rw[Array.getElem?_setIfInBounds];by_cases c:x=ps mask h D
  ·rw[aC c,aC c.symm,aC l]
  ·rw[az c,az (cb c)]
 have keep:∀x i:Nat,ow[x]?=some (some i)->(ow.setIfInBounds (ps mask h D) (some hs.length))[x]?=some (some i):=λx i e=>by rw[get,az λz=>by rw[z,h2]at e;cases e];exact e
 refine{by simp[O.sz],λx i e=>?_,λx y i ex ey=>?_,λi g e=>?_}
 ·rw[get]at e;rw[aO,dA];by_cases c:x=ps mask h D
  ·rw[aC c]at e;cases e;lia
  ·rw[az c]at e;have:=O.lt x i e;lia
 ·rw[get]at ex ey;by_cases c:x=ps mask h D
  ·rw[aC c]at ex;cases ex;by_cases c2:y=ps mask h D
   ·rw[c,c2]
   ·rw[az c2]at ey;exact absurd (O.lt y _ ey) (dD _)
  ·rw[az c]at ex;by_cases c2:y=ps mask h D
   ·rw[aC c2]at ey;cases ey;exact absurd (O.lt x _ ex) (dD _)
   ·rw[az c2]at ey;exact O.inj x y i ex ey
 ·by_cases c:i<hs.length
  ·rw[dO c]at e;obtain⟨d,q1,q2⟩:=O.at_ i g e;exact{d,keep _ _ q1,λx hx=>let⟨i',q⟩:=q2 x hx;{i',keep _ _ q}}
  ·rw[dE ∅]at e;have ei:i=hs.length:=by
    rcases kY i hs.length with q|q|q
    ·lia
    ·exact q
    ·rw[hX (by rw[dA];lia)]at e;cases e
   subst ei;rw[vO]at e;cases e;exact{D,by rw[get,aC rfl],λx hx=>let⟨i',q⟩:=hb x hx;{i',keep _ _ q}}
theorem Jx{mask k:Nat}(hk:mask+1=2^k):∀(rest:List Int)(ow:Array (Option Nat))(hs:List Int),Own mask ow hs->(hs++rest).length<=mask->∃Qk,rest.foldl (xQ mask) (some (ow,hs.length))=some (Qk,(hs++rest).length)/\Own mask Qk (hs++rest)
 |[],ow,hs,O,_=>{ow,by simp,by simpa using O}
 |h::rest,ow,hs,O,je=>by rw[aO,bx]at je;obtain⟨ow1,e1,O1⟩:=O.step hk ∅ h;obtain⟨ow2,e2,O2⟩:=Jx hk rest ow1 (hs++[h]) O1 (by rw[aO,aO,dA];lia);rw[cR]at e2 O2;refine{ow2,?_,O2};rw[fT,e1];rw[aO,dA]at e2;exact e2
def Yq{mask k:Nat}(hk:mask+1=2^k)(big:7<=mask)(finger moves:Nat)(led plain:Bool)(hs:List Int)(je:hs.length<=mask):
  ∃t order,laid mask finger moves led plain hs.toArray=some (t,order)/\t.mask=mask/\t.finger=finger/\t.led=led/\t.moves=moves/\t.plain=plain/\order.toList.Perm (List.range hs.length)/\Tab t (order.toList.map λi=>hs.getD i 0):=by
 have O0:Own mask (Array.replicate (mask+1) none) []:={by simp,λj i e=>by simp[vV]at e,λj j' i e=>by simp[vV]at e,λi h e=>by simp at e};obtain⟨ow,e,O⟩:=Jx hk hs _ _ O0 (by simpa using je);rw[kL]at e O;have el:layClean mask hs.toArray=some ow:=by rw[Lp];have e':(hs.toArray.toList.foldl (xQ mask) (some (Array.replicate (mask+1) none,0)))=some (ow,hs.length):=e;rw[e'];rfl
 obtain⟨live,Ri⟩:∃live,live=(List.range (mask+1)).filterMap λj=>(ow.getD j none).map (j,·):=⟨_,rfl⟩;have mem:∀p:Nat×Nat,p∈live↔ow[p.1]?=some (some p.2):=λp=>by
  rw[Ri,kM];constructor
  ·rintro⟨j,hj,q⟩;have lj:j<ow.size:=by rw[O.sz];exact cY.mp hj
   obtain⟨i,q1,q2⟩:=aX.mp q;subst q2;rw[bD lj];have q3:ow[j]=some i:=by simpa[Array.getD,lj]using q1
   rw[q3]
  ·intro q;obtain⟨l,q'⟩:=gQ.mp q;refine{p.1,cY.mpr (by rw[<-O.sz];exact l),?_};have q3:ow.getD p.1 none=some p.2:=by simp[Array.getD,l,q']
   rw[q3];rfl
 have sub:∀(j:Nat)(b:Nat×Nat),(ow.getD j none).map (j,·)=some b->b.1=j/\ow[j]?=some (some b.2):=λj b q=>by
  obtain⟨i,q1,q2⟩:=aX.mp q;subst q2;refine{rfl,?_};by_cases l:j<ow.size
  ·rw[bD l];have q3:ow[j]=some i:=by simpa[Array.getD,l]using q1
   rw[q3]
  ·simp[Array.getD,l]at q1
 have p1:live.Pairwise (λa b=>a.1<b.1):=by rw[Ri];refine v9 _ (λa a' bK b hb b' kJ=>?_) xm;rw[(sub a b hb).1,(sub a' b' kJ).1];exact bK
 have p2:live.Pairwise (λa b=>a.2≠b.2):=by rw[Ri];refine v9 _ (λa a' bK b hb b' kJ ne=>?_) xm;have q1:=(sub a b hb).2;have q2:=(sub a' b' kJ).2;rw[<-ne]at q2;have:=O.inj a a' _ q1 q2;lia
 have perm:(live.map (·.2)).Perm (List.range hs.length):=by
  refine(tV (k7.mpr p2) List.nodup_range).mpr λi=>?_;rw[cY,aR];constructor
  ·rintro⟨p,hp,rfl⟩;exact O.lt _ _ ((mem p).mp hp)
  ·intro hi;obtain⟨d,q,_⟩:=O.at_ i _ (au hi);exact{(_,i),(mem (_,i)).mpr q,rfl}
 have ll:live.length=hs.length:=by have:=perm.length_eq;rwa [ak,gG]at this
 have pl:∀m:Nat,((live.map (·.1)).toArray)[m]?=live[m]?.map (·.1):=λm=>by simp
 refine⟨{mask,place:=(live.map (·.1)).toArray,dummies:=#[],finger,led,moves,plain},(live.map (·.2)).toArray,?_,rfl,rfl,rfl,rfl,rfl,by simpa using perm,?_⟩
 ·unfold laid;rw[el,Ri];rfl
 ·refine{⟨k,hk⟩,big,rfl,?_,?_,?_,λi j q=>?_,λm h q=>?_}
  ·refine nN.of_get λi k a b Ko ha hb=>?_;rw[pl]at ha hb;obtain⟨x,hx,rfl⟩:=aX.mp ha;obtain⟨y,hy,rfl⟩:=aX.mp hb;obtain⟨lx,ex⟩:=ax.mp hx;obtain⟨ly,ey⟩:=ax.mp hy;subst ex ey;exact fS.mp p1 i k lx ly Ko
  ·simp
  ·simp[ll,je]
  ·rw[pl]at q;obtain⟨x,hx,rfl⟩:=aX.mp q;have:=(mem x).mp (aH hx);obtain⟨l,_⟩:=gQ.mp this;rw[O.sz]at l;show x.1<=mask;lia
  ·have q':(live.map λp=>hs.getD p.2 0)[m]?=some h:=by
    have e3:(live.map (·.2)).toArray.toList.map (λi=>hs.getD i 0)=live.map λp=>hs.getD p.2 0:=by simp
    rw[<-e3];exact q
   rw[aK]at q';obtain⟨x,hx,rfl⟩:=aX.mp q';have hw:=(mem x).mp (aH hx);have hl:=O.lt _ _ hw;have eh:hs[x.2]?=some (hs.getD x.2 0):=by rw[au hl];simp[hl]
   obtain⟨d,d1,d2⟩:=O.at_ x.2 _ eh;have ej:=O.inj _ _ _ d1 hw;refine{d,?_,λe he=>?_}
   ·show((live.map (·.1)).toArray)[m]?=some (ps mask (hs.getD x.2 0) d);rw[pl,hx,ej];rfl
   ·obtain⟨i',q3⟩:=d2 e he;obtain⟨m',hm'⟩:=dy.mp ((mem (_,i')).mpr q3);refine{m',?_};rw[pl,hm'];rfl
theorem Av(n:Nat):∀(f j:Nat),n<2^(j+f)->∃k,j<=k/\sizeAbove.go n f (2^j)=2^k/\n<2^k/\(k=j\/2^k<=2*n)
 |0,j,h=>{j,ar _,rfl,h,.inl rfl}
 |f+1,j,h=>by
  unfold sizeAbove.go;by_cases c:2^j<=n
  ·rw[aC c,<-jY];obtain⟨k,h1,h2,h3,h4⟩:=Av n f (j+1) (by rw[show j+1+f=j+(f+1) by lia];exact h);refine{k,by lia,h2,h3,.inr ?_};rcases h4 with h4|h4
   ·rw[h4,jY];lia
   ·exact h4
  ·rw[az c];exact{j,ar _,rfl,by lia,.inl rfl}
def Au(h:n<2^64):∃k,sizeAbove n=2^k/\8<=2^k/\n<2^k/\2^k<=2*n+8:=by
 obtain⟨k,h1,h2,h3,h4⟩:=Av n 64 3 (a9 h (-8));have:2^3<=2^k:=gu (-8) h1;refine{k,h2,this,h3,?_};rcases h4 with h4|h4
 ·rw[h4];lia
 ·lia
def Qb(t:SetTable)(hs:List Int)(h:n<2^64)(je:hs.length<n):∃t' order,t.relaid hs.toArray n=some (t',order)/\n<=t'.mask/\t'.mask<=2*n+7/\t'.finger=t.finger/\t'.led=t.led/\t'.plain=t.plain/\order.toList.Perm (List.range hs.length)/\Tab t' (order.toList.map λi=>hs.getD i 0):=by obtain⟨k,e,h1,h2,h3⟩:=Au h;obtain⟨t',order,q1,q2,q3,q4,_,q5,q6,q7⟩:=Yq (mask:=sizeAbove n -1) (k:=k) (by rw[e];lia) (by rw[e];lia) t.finger (t.movedTo (sizeAbove n -1)) t.led t.plain hs (by rw[e];lia);exact{t',order,q1,by rw[q2,e];lia,by rw[q2,e];lia,q3,q4,q5,q6,q7}
theorem AG{α:Type}:∀l:List α,(List.range l.length).filterMap (λi=>l[i]?)=l
 |[]=>rfl
 |x::l=>by rw[bx,xl,fP];show x::_=_;rw[tG];congr 1;exact AG l
def N8{α:Type}{es:Array α}{order:Array Nat}(hp:order.toList.Perm (List.range es.size)):(order.filterMap (es[·]?)).toList.Perm es.toList/\∀(g:α->Int),(order.filterMap (es[·]?)).toList.map g=order.toList.map λi=>(es.toList.map g).getD i 0:=by
 have e1:(order.filterMap (es[·]?)).toList=order.toList.filterMap (es.toList[·]?):=by simp
 rw[e1];constructor
 ·have:=hp.filterMap (es.toList[·]?);rw[<-aS]at this;rwa [AG]at this
 ·intro g;have lt:∀i∈order.toList,i<es.toList.length:=λi hi=>by rw[aS];exact cY.mp (hp.mem_iff.mp hi)
  generalize order.toList=l at lt
  induction l with
  |nil=>rfl
  |cons i l ih=>
   have li:=lt i (aA ..);rw[fP,au li];show g _::_=_;rw[aU,ih λj hj=>lt j (aB _ hj)];congr 1;rw[cq,aK,au li];rfl
section
variable{prog:Program}{w:World}{K:Type}[DecidableEq K]{knd:KeyKind prog w K}{A:Around}{E:Aae}{s:Shared}
abbrev ent(knd:KeyKind prog w K)(x:List K×Addr):Int×Value:=(tupleKeyHash knd x.1,Value.ref x.2)
structure nM(knd:KeyKind prog w K)(h:Heap)(a:Addr)(o:Obj)(ep:Nat)(t:SetTable)(xs:List (List K×Addr)):Prop where
 ob:h.get? a=some o
 ex:o.ExactSet
 data:o.data=.set (xs.map (ent knd)).toArray ep t
 tab:Tab t (-34)
 je:xs.length*5<t.mask*3
 cap:t.mask<=8*xs.length+15
 nd:(xs.map (·.1)).Nodup
 is:∀x∈xs,IsTupleKey knd h x.1 x.2
def nM.fits(S:nM knd h a o ep t xs):t.fits (-13).size=true:=by have:=S.tab.fits;rw[ak]at this;simpa using this
def nM.state(S:nM knd s.heap a o ep t xs)(h:Q ((xs.map (ent knd)).toArray,ep,t) s):wpAny (-5) A (setState a) Q E s:=
 tZ S.ob S.data S.fits h
def nM.ne(S:nM knd h a o ep t xs)(hk:IsTupleKey knd h ks b):b≠a:=by rintro rfl;obtain⟨o',items,n,rp,_,qh,_⟩:=hk;obtain rfl:o'=o:=bN (rp.symm.trans S.ob);rw[S.data]at qh;cases qh
def HW(hx:IsTupleKey knd s.heap ks b)(h:Q false s):wpAny (-5) A (ofAClassStatement 8 (.ref b)) Q E s:=by
 have hT:=hx.typeIs;obtain⟨o,items,n,ho,_,hd,hi⟩:=hx;unfold ofAClassStatement;refine af (fZ hT ?_);dsimp only;rw[aC (-8)];refine af (ao ?_);refine af (bY ho hd ?_);refine af ?_;rw[<-oh];refine jR _ (λrest r s'=>r.1=none/\s'=s/\∀v∈rest,carriedByValue v=true) _ ?_ ?_ _ _ {rfl,rfl,hi.byValue}
 ·rintro v rest r s' ⟨hr,rfl,nF⟩;have hv:=nF v aA;have e:ofAClassStatement 7 v=pure false:=by
   cases v with
   |ref a=>simp[carriedByValue]at hv
   |_=>first|rfl|(unfold ofAClassStatement;rfl)
  rw[e];refine af (ao ?_);exact ao {rfl,rfl,λu xY=>nF u (aB _ xY)}
 ·rintro⟨r1,r2⟩ s' ⟨hr,rfl,_⟩;simp only at hr;subst hr;exact ao h
def Xh(hx:IsTupleKey knd s.heap x b)(l:Aag)(hl:∀v∈l,∃ks c,v=Value.ref c/\IsTupleKey knd s.heap ks c)(h:Q false s):wpAny (-5) A (searchCouldBeSeen (.ref b) l) Q E s:=by
 unfold searchCouldBeSeen;refine af ?_;refine jR _ (λrest r s'=>r.1=none/\s'=s/\∀v∈rest,∃ks c,v=Value.ref c/\IsTupleKey knd s.heap ks c) _ ?_ ?_ _ _ ⟨rfl,rfl,hl⟩
 ·rintro v rest r s' ⟨hr,rfl,nF⟩;obtain⟨ks,c,rfl,hk⟩:=nF v aA;have Vx:=λu xY=>nF u (aB _ xY);by_cases e:(b==c||(carriedByValue (.ref b)&&carriedByValue (.ref c)))=true
  ·rw[aC e];exact ao ⟨rfl,rfl,Vx⟩
  ·rw[az e];refine af (xy hx ?_);refine af (xy hk ?_);refine af (HW hx ?_);refine af (HW hk ?_);exact ao ⟨rfl,rfl,Vx⟩
 ·rintro⟨r1,r2⟩ s' ⟨hr,rfl,_⟩;simp only at hr;subst hr;exact ao h
def Pn(hu:A.units<cLine)(S:nM knd s.heap a o ep t xs)(hk:IsTupleKey knd s.heap k b)(fr:Pk t (-14) D)
  (h1:(∃x∈xs,x.1=k)->Q (.there none) s) (h2:(∀x∈xs,x.1≠k)->Q (.free (ps t.mask (-14) D) false) s):
  ∀(m fuel d:Nat)(st:Option Probe),D -d=m->d<=D->m<fuel->st.getD (t.probeStart (-14))=pr t.mask (-14) d->(∀e,e<d->∀(i:Nat)(x:List K×Addr),t.place[i]?=some (ps t.mask (-14) e)->xs[i]?=some x->x.1≠k)->
   wpAny (-5) A (setSearchFrom a (.ref b) (-14) true fuel st) Q E s:=by
 intro m
 induction m using Nat.strongRecOn with
 |ind m ih=>
  intro fuel d st hm hd hf ie E4;cases fuel with
  |zero=>exact absurd hf (iA _)
  |succ fuel=>
   unfold setSearchFrom;refine af (S.state ?_);dsimp only;rw[S.tab.way];rw[ie];have hsL:∀(i:Nat)(x:List K×Addr),xs[i]?=some x->(-34)[i]?=some (tupleKeyHash knd x.1):=λi x e=>by rw[aK,e];rfl
   have hsR:∀(i:Nat)(g:Int),(-34)[i]?=some g->∃x,xs[i]?=some x/\tupleKeyHash knd x.1=g:=λi g e=>by rw[aK]at e;exact aX.mp e
   rcases Jg S.tab fr (hashAt:=λi=>(((-13)[i]?).map (·.1)).getD 0) (λi g e=>by obtain⟨x,hx,rfl⟩:=hsR i g e;simp[hx]) (10*turns t.mask) d hd (by have:=fr.lt;lia)with⟨e1,e2⟩|⟨e,i,a1,a2,a3,a4,a5,a6⟩
   ·have e1':t.probe (λi=>(((-13)[i]?).map (·.1)).getD 0) (-14) (pr t.mask (-14) d)=some (.empty (ps t.mask (-14) D) none):=e1;show wpAny (-5) A (match t.probe (λi=>(((-13)[i]?).map (·.1)).getD 0) (-14) (pr t.mask (-14) d)with|some met=>_|_=>_) Q E s;rw[e1'];refine ao (h2 λx hx ex=>?_);obtain⟨i,hi⟩:=dy.mp hx;obtain⟨d',q1,q2⟩:=S.tab.reach i _ (hsL i x hi);rw[ex]at q1 q2;have lt:d'<D:=by
     rcases kY d' D with q|q|q
     ·exact q
     ·rw[q]at q1;exact(fr.no i q1).elim
     ·obtain⟨i',z⟩:=q2 D q;exact(fr.no i' z).elim
    by_cases c:d'<d
    ·exact E4 d' c i x q1 hi ex
    ·exact e2 d' ∅ lt i q1 (by rw[hsL i x hi,ex])
   ·obtain⟨y,hy,ey⟩:=hsR i _ a4;have a5':t.probe (λi=>(((-13)[i]?).map (·.1)).getD 0) (-14) (pr t.mask (-14) d)=some (.candidate (ps t.mask (-14) e) i (pr t.mask (-14) (e+1))):=a5;show wpAny (-5) A (match t.probe (λi=>(((-13)[i]?).map (·.1)).getD 0) (-14) (pr t.mask (-14) d)with|some met=>_|_=>_) Q E s;rw[a5'];have ym:=aH hy;have yk:=S.is y ym;have eL:(-13)[i]?=some (ent knd y):=by simp[hy]
    have cont:wpAny (-5) A (do
      let some (_,y):=(-13)[i]?|unsupported "internal:set-entry"
      let equal<-holding [y] (eqBool y (.ref b))
      let(fL,_,t')<-setState a
      if true&&equal then return .there none
      let some same:=t'.sameMemory t.moves t.mask|unsupported "set.changed-during-lookup:is-the-new-block-at-the-old-address"
      let ab6<-match(if same then t'.slot (ps t.mask (-14) e)else .empty)with
       | .live i'=>match fL[i']? with
        |some (_,y')=>do pure (if<-isSame y' y then some i' else none)
        |none=>pure none
       |_=>pure none
      match ab6 with
      |none=>rule "set.search.anew";setSearchFrom a (.ref b) (-14) true fuel none
      |some i'=>if equal then return .there (some i')else setSearchFrom a (.ref b) (-14) true fuel (some (pr t.mask (-14) (e+1)))) Q E s:=by
     rw[eL];refine af (bQ (wpAny_eqBool_tuple hu yk hk ?_));refine af (S.state ?_);by_cases c:y.1=k
     ·rw[aZ c];exact ao (h1 ⟨y,ym,c⟩)
     ·rw[bI c];simp only[sf,cw,d6];have sm:t.sameMemory t.moves t.mask=some true:=by simp[SetTable.sameMemory]
      rw[sm];simp only[lE];rw[GG S.tab.rise a3];dsimp only;rw[eL];dsimp only;have iss:isSame (Value.ref y.2) (Value.ref y.2)=pure true:=aC (beq_self_eq_true _);rw[iss];refine af (ao ?_);refine af (ao ?_);refine ih (D -(e+1)) ∅ fuel (e+1) _ rfl ∅ ∅ rfl λe' Bc i' x q1 q2 qk=>?_;by_cases c2:e'<d
      ·exact E4 e' c2 i' x q1 q2 qk
      ·by_cases c3:e'=e
       ·rw[c3]at q1;have:i'=i:=by rw[<-below_at S.tab.rise q1,<-below_at S.tab.rise a3]
        rw[this,hy]at q2;cases q2;exact c qk
       ·exact a6 e' ∅ ∅ i' q1 (by rw[hsL i' x q2,qk])
    by_cases led:t.led=true
    ·rw[led];exact cont
    ·have lf:t.led=false:=by cases q:t.led with|false=>rfl|true=>exact(led q).elim
     rw[lf];refine af (Xh hk _ (λv hv=>?_) ?_)
     ·obtain⟨p,hp,rfl⟩:=aR.mp hv;have hp':p∈xs.map (ent knd):=by have:=(Array.mem_filter.mp (mf.mp hp)).1;simpa using this
      obtain⟨x,hx,rfl⟩:=aR.mp hp';exact{x.1,x.2,rfl,S.is x hx}
     ·simp only[cw,d6];exact cont
end
section
variable{prog:Program}{w:World}{K:Type}[DecidableEq K]{knd:KeyKind prog w K}{A:Around}{E:Aae}{s:Shared}
def Lq(n:Nat)(h:carriedByValue v=true):∃b,hashByValue n v=pure b:=by
 cases v with
 |ref a=>simp[carriedByValue]at h
 |_=>cases n<;>exact⟨_,rfl⟩
def Zf(hx:IsTupleKey knd s.heap ks b)(h:∀c,Q c s):wpAny (-5) A (hashByValue 8 (.ref b)) Q E s:=by
 have hT:=hx.typeIs;obtain⟨o,items,n,ho,_,hd,hi⟩:=hx;unfold hashByValue;refine af (il hT k8.lookup ?_);refine af (bY ho hd ?_);refine af ?_;rw[<-oh];refine jR _ (λrest r s'=>r.1=none/\s'=s/\∀v∈rest,carriedByValue v=true) _ ?_ ?_ _ _ {rfl,rfl,hi.byValue}
 ·rintro v rest r s' ⟨hr,rfl,nF⟩;obtain⟨c,e⟩:=Lq 7 (nF v aA);rw[e];refine af (ao ?_);cases c with
  |false=>
   exact ao (ao (h false))
  |true=>
   exact ao {rfl,rfl,λu xY=>nF u (aB _ xY)}
 ·rintro⟨r1,r2⟩ s' ⟨hr,rfl,_⟩;simp only at hr;subst hr;exact ao (h true)
def Sj(ob:s.heap.get? a=some o)(ex:o.ExactSet)(hd:o.data=.set (xs.map (ent knd)).toArray ep t)(tab:Tab t (-34))(nd:(xs.map (·.1)).Nodup)(is:∀x∈xs,IsTupleKey knd s.heap x.1 x.2)
  (hn:xs.length*2<=n) (hn4:n<=xs.length*4) (h0:0<n) (hx:xs.length<=100000) (ue:n<=100000) (h:∀h' ys o' Bk t',Heap.SameBut a s.heap h'->nM knd h' a o' Bk t' ys->t'.led=t.led->ys.Perm xs->Q () {s with heap:=h'}):wpAny (-5) A (setRelay a n) Q E s:=by
 have fits:t.fits (-13).size=true:=by have:=tab.fits;rw[ak]at this;simpa using this
 unfold setRelay;refine af (tZ ob hd fits ?_);dsimp only;obtain⟨k,e1,e2,e3,e4⟩:=Au (n:=n) ∅;rw[az (by rw[e1,b8];lia)];have hm:(-13).map (·.1)=(-34).toArray:=by simp[ur]
 obtain⟨t',order,q1,q2,qc,q3,q4,q5,q6,q7⟩:=Qb t (-34) (n:=n) ∅ (by rw[ak];lia);rw[hm,q1];rw[ak]at q6;have oz:order.toList.Perm (List.range (-13).size):=by simpa using q6
 obtain⟨o1,o2⟩:=N8 oz;have rm:(order.filterMap ((-13)[·]?))=((order.toList.filterMap (xs[·]?)).map (ent knd)).toArray:=by apply vU.mp;simp[List.map_filterMap]
 have py:(order.toList.filterMap (xs[·]?)).Perm xs:=by have:=q6.filterMap (xs[·]?);rwa [AG]at this
 have ly:=py.length_eq;have hh:(order.toList.filterMap (xs[·]?)).map (λx=>tupleKeyHash knd x.1)=order.toList.map λi=>(-34).getD i 0:=by have:=o2 (·.1);rw[rm]at this;simpa[ur]using this
 rw[<-hh]at q7;generalize order.toList.filterMap (xs[·]?)=ys at*;refine af ?_;show wpAny (-5) A (if((order.filterMap ((-13)[·]?)).size !=(-13).size)=true then unsupported _ else pure (order.filterMap ((-13)[·]?),t')) _ E s;rw[rm,az (by simp[ly])];refine ao ?_;refine Cc ob hd ?_ (by rw[aQ,ak,ly,b8];lia);have S2:nM knd (s.heap.update a (Obj.putSet (ys.map (ent knd)).toArray t')) a {o with data:=.set (ys.map (ent knd)).toArray (ep+1) t'} (ep+1) t' ys:=by
  have sb:=bT s.heap a (Obj.putSet (ys.map (ent knd)).toArray t');refine{?_,ex,rfl,q7,by lia,by lia,(py.map _).nodup_iff.mpr nd,λx hx=>?_}
  ·have:=cH (Obj.putSet (ys.map (ent knd)).toArray t') ob (by rw[AI _ t' hd];rfl);rw[AI _ t' hd]at this;exact this
  ·have xW:=is x (py.mem_iff.mp hx);have ne:x.2≠a:=by intro z;obtain⟨o',items,n,rp,_,qh,_⟩:=xW;rw[z]at rp;obtain rfl:o'=o:=bN (rp.symm.trans ob);rw[hd]at qh;cases qh
   obtain⟨o',items,n,rp,hc,qh,hi⟩:=xW;exact{o',items,n,(sb.2 _ ne).trans rp,hc,qh,hi}
 exact h _ ys _ _ _ (bT s.heap a _) S2 q4 py
def Zg(hu:A.units<cLine)(S:nM knd s.heap a o ep t xs)(hk:IsTupleKey knd s.heap k b)(hx:xs.length<=1000)
  (h1:(∃x∈xs,x.1=k)->Q false s) (h2:(∀x∈xs,x.1≠k)->∀h' ys o' Bk t',Heap.SameBut a s.heap h'->nM knd h' a o' Bk t' ys->t'.led=t.led->ys.Perm ((k,b)::xs)->Q true {s with heap:=h'}):
  wpAny (-5) A (setAddHashed a (.ref b) (-14)) Q E s:=by
 unfold setAddHashed setAddHashedIn;refine bQ (af (S.state ?_));dsimp only;have nb:byScan (.ref b) (xs.map (ent knd)).toArray=false:=by simp[byScan,Value.scannable]
 rw[nb];obtain⟨D,fr⟩:=S.tab.free (-14);unfold setSearch;have bound:=fr.lt;have hm:=S.cap;unfold turns at bound;refine af (Pn hu S hk fr (λq=>ao (h1 q)) (λq=>?_) D 100000 0 none rfl (aP _) ∅ (SN t _) λe he=>absurd he (iA _));refine af (S.state ?_);have je:=S.je;have room:(-34).length+1<=t.mask:=by rw[ak];lia
 have tb:=S.tab.put fr room;generalize ep1:t.put (ps t.mask (-14) D)=tp at tb;obtain⟨t1,p⟩:=tp;have mk1:t1.mask=t.mask:=by have:(t.put (ps t.mask (-14) D)).1.mask=t.mask:=rfl;rw[ep1]at this;exact this
 have ld1:t1.led=t.led:=by have:(t.put (ps t.mask (-14) D)).1.led=t.led:=rfl;rw[ep1]at this;exact this
 have esz:(-13).size=xs.length:=by simp
 have ins:insertAt (xs.map (ent knd)).toArray p (tupleKeyHash knd k,Value.ref b)=((jc xs p (k,b)).map (ent knd)).toArray:=by apply vU.mp;rw[qI,J4]
 have hsI:(jc xs p (k,b)).map (λx=>tupleKeyHash knd x.1)=jc (-34) p (-14):=J4 _ _ _ _;have pI:=Q1 xs p (k,b);have nI:((jc xs p (k,b)).map (·.1)).Nodup:=by refine(pI.map _).nodup_iff.mpr ?_;rw[aU];refine cX.mpr {λz=>?_,S.nd};obtain⟨x,hx,e⟩:=aR.mp z;exact q x hx e
 have isI:∀x∈jc xs p (k,b),IsTupleKey knd s.heap x.1 x.2:=λx hx=>by
  rcases aG.mp (pI.mem_iff.mp hx)with rfl|hx
  ·exact hk
  ·exact S.is x hx
 have lI:(jc xs p (k,b)).length=xs.length+1:=by rw[pI.length_eq];rfl
 have fin:∀t2:SetTable,t2.mask=t1.mask->t2.place=t1.place->t2.dummies=t1.dummies->t2.led=t1.led->wpAny (-5) A (do
   storeSet a (insertAt (xs.map (ent knd)).toArray p (tupleKeyHash knd k,Value.ref b)) t2
   if(!false&&t2.tooFull)=true then
    setRelay a (SetTable.grown ((-13).size+1))
    pure true
   else pure true) Q E s:=λt2 e1 e2 e3 e4=>by
  have Vh:Tab t2 ((jc xs p (k,b)).map λx=>tupleKeyHash knd x.1):=by rw[hsI];exact tb.of_eq e1 e2 e3
  rw[ins];refine af (Cc S.ob S.data ?_ (by rw[aQ,ak,lI,b8];lia));have sb:=bT s.heap a (-61);have ob2:(s.heap.update a (-61)).get? a=some {o with data:=.set ((jc xs p (k,b)).map (ent knd)).toArray (ep+1) t2}:=by have:=cH (-61) S.ob (by rw[AI _ t2 S.data];rfl);rw[AI _ t2 S.data]at this;exact this
  have fl:t2.tooFull=decide ((xs.length+1)*5≥t.mask*3):=by unfold SetTable.tooFull SetTable.fill;rw[Vh.RR,Vh.sz,ak,lI,e1,mk1];rfl
  have A6:∀x∈jc xs p (k,b),IsTupleKey knd (s.heap.update a (-61)) x.1 x.2:=λx hx=>by have ne:=S.ne (isI x hx);obtain⟨o',items,n,rp,hc,qh,hi⟩:=isI x hx;exact{o',items,n,(sb.2 _ ne).trans rp,hc,qh,hi}
  by_cases c:t2.tooFull=true
  ·rw[c];have g:SetTable.grown ((-13).size+1)=(xs.length+1)*4:=by unfold SetTable.grown;rw[esz,az ∅]
   rw[g];refine af (Sj ob2 S.ex rfl Vh nI A6 ∅ ∅ ∅ ∅ ∅ λh' ys o' Bk t' qx S' l' py=>?_);exact ao (h2 q h' ys o' Bk t' (sb.trans qx) S' (l'.trans (e4.trans ld1)) (py.trans pI))
  ·rw[fM.mpr c];rw[fl]at c;have c':¬(xs.length+1)*5≥t.mask*3:=λz=>c (aZ z);exact ao (h2 q _ (jc xs p (k,b)) _ _ _ sb {ob2,S.ex,rfl,Vh,by rw[lI,e1,mk1];lia,by rw[lI,e1,mk1];lia,nI,A6} (e4.trans ld1) pI)
 by_cases c:t1.plain=true
 ·rw[aC c];refine af (Zf hk λbv=>?_);cases bv with
  |true=>exact fin t1 rfl rfl rfl rfl
  |false=>exact fin {t1 with plain:=false} rfl rfl rfl rfl
 ·rw[az c];refine af (ao ?_);exact fin t1 rfl rfl rfl rfl
end
end Tb
namespace Tb
open PySem
def Fl{α:Type}{l:List α}(h:i<l.length):(l[i]::l.eraseIdx i).Perm l:=by rw[qp];refine List.perm_middle.symm.trans ?_;rw[List.getElem_cons_drop,c7]
theorem Mp(next:Nat->Nat):∀(f k:Nat)(left:List α)(out:Array α),f=left.length->(pickOrder.go next f k left out).toList.Perm (out.toList++left)
 |0,k,left,out,h=>by rw[fg.mp h.symm,b6];exact .refl _
 |f+1,k,left,out,h=>by
  have hl:next k % left.length<left.length:=lX _ ∅
  unfold pickOrder.go;rw[au hl];refine(Mp next f (k+1) (left.eraseIdx (next k % left.length)) (out.push left[next k % left.length]) (by rw[mE hl];lia)).trans ?_;rw[lq,cR];exact(Fl hl).append_left _
def Qe(next:Nat->Nat)(xs:Array α):(pickOrder next xs).toList.Perm xs.toList:=by
 have:=Mp next xs.size 0 xs.toList #[] (-9)
 rw[kL]at this;exact this
section
variable{M:Model}{A:Around}{E:Aae}
theorem LK:∀(n:Nat)(xs:List α)(s:Shared){Q:List α->Shared->Prop},n=xs.length->(∀ys d,ys.Perm xs->Q ys {s with drawn:=d})->wpAny M A (drawOrder n xs) Q E s
 |0,xs,s,Q,hn,h=>by have e:xs=[]:=fg.mp hn.symm;subst e;unfold drawOrder;exact ao (h [] s.drawn (.refl _))
 |n+1,[],s,Q,hn,h=>by simp at hn
 |n+1,x::xs,s,Q,hn,h=>by
  unfold drawOrder;refine af (λΓ p hΓ=>?_);refine{by simp,?_};have hl:M.w.draws .order (s.drawn.get .order) %(x::xs).length<(x::xs).length:=lX _ (-9);generalize M.w.draws .order (s.drawn.get .order) %(x::xs).length=i at hl;have key:wpAny M A (match(x::xs)[i]? with
   |some y=>do return y::(<-drawOrder n ((x::xs).eraseIdx i))
   |none=>unsupported "internal:drawOrder") Q E {s with drawn:=s.drawn.bump .order}:=by
   rw[au hl];dsimp only;refine af (LK n _ _ (by rw[mE hl];lia) λys d hp=>ao ?_);exact h _ d ((hp.cons _).trans (Fl hl))
  exact key
end
end Tb
namespace Tb
open PySem PySem.SetTable PyProof.Rows
section
variable{prog:Program}{w:World}{K:Type}[DecidableEq K]{knd:KeyKind prog w K}
def LX(x:IsTupleKey knd h k b)(kp:∀b o,h.get? b=some o->h'.get? b=some o):IsTupleKey knd h' k b:=by obtain⟨o,aY,n,ho,r⟩:=x;exact{o,aY,n,kp _ _ ho,r}
structure Eg(knd:KeyKind prog w K)(ks:List (List K))(bs:Aaj)(i:Nat)(xs:List (List K×Addr)):Prop where
 len:xs.length<=i
 mem:∀k,k∈xs.map (·.1)↔k∈ks.take i
 HR:∀x∈xs,∃j:Nat,ks[j]?=some x.1/\bs[j]?=some x.2
section
variable{A:Around}{R:Result->Shared->Prop}{I:Addr}{fp wr:Aaj}{G:Array GenState->Array GenState->Prop}{n:Nat}{P:Nat->Value->Prop}{St:Nat->Shared->Prop}
def acn(W:WalksS prog w A.in1 I fp wr G n P St)(S:Addr)(nS:S∉fp)(hS0:h0.get? S=none)(V8:∀b∈wr,h0.get? b=none)(ks:List (List K))(bs:Aaj)(lk:ks.length=n)(lb:bs.length=n)(hv:∀(i:Nat) v,P i v->∃b,bs[i]?=some b/\v=.ref b)
  (hk:∀(i:Nat) k b,ks[i]?=some k->bs[i]?=some b->IsTupleKey knd h0 k b) (hu:A.in1.units<cLine) (hn:n<=1000) (led:Bool) (m:Nat):
  ∀(i:Nat)(s:Shared)(o:Obj)(ep:Nat)(t:SetTable)(xs:List (List K×Addr)),n -i=m->i<=n->St i s->(∀b o,h0.get? b=some o->s.heap.get? b=some o)->nM knd s.heap S o ep t xs->t.led=led->Eg knd ks bs i xs->
   (∀s' o ep t xs,Moved (S::wr) G s s'->nM knd s'.heap S o ep t xs->t.led=led->Eg knd ks bs n xs->R (.ok (.ret .none)) s')->
   codeAny (-5) A (.builtin "set.update.loop" {[.ref S,.ref I],[]}) R s:=by
 have nw:S∉wr:=λh=>nS (W.sub _ h);have sub:∀b∈wr,b∈S::wr:=λb q=>aB _ q;have jx:∀{s s':Shared}{o:Obj}{ep:Nat}{t:SetTable}{xs:List (List K×Addr)}{i:Nat},Moved wr G s s'->(∀b o,h0.get? b=some o->s.heap.get? b=some o)->nM knd s.heap S o ep t xs->Eg knd ks bs i xs->nM knd s'.heap S o ep t xs/\∀b o,h0.get? b=some o->s'.heap.get? b=some o:=λ{s s' o ep t xs i} hm kp hS hH=>by have CV:∀b o,h0.get? b=some o->s'.heap.get? b=some o:=λb o e=>hm.heap b o (λz=>by rw[V8 b z]at e;cases e) (kp b o e);refine{{hm.heap S _ nw hS.ob,hS.ex,hS.data,hS.tab,hS.je,hS.cap,hS.nd,λx hx=>?_},CV};obtain⟨j,j1,j2⟩:=hH.HR x hx;exact LX (hk j _ _ j1 j2) CV
 induction m with
 |zero=>
  intro i s o ep t xs hm hi st kp hS hl hH hR;have e:i=n:=by lia
  subst e;refine dv nX ?_;rw[gA gg _];refine af (m:=pyNext (.ref I)) (W.done s _ _ st λs' hm=>ao (hR s' o ep t xs (hm.mono sub) (jx hm kp hS hH).1 hl hH))
 |succ m ih=>
  intro i s o ep t xs hm hi st kp hS hl hH hR;have bK:i<n:=by lia
  refine dv nX ?_;rw[gA gg _];refine af (m:=pyNext (.ref I)) (W.item i s _ _ bK st λv s' hP g7 hm=>?_);obtain⟨b,hb,rfl⟩:=hv i v hP;obtain⟨k,Km⟩:∃k,ks[i]?=some k:={_,au ∅};obtain⟨zV,CV⟩:=jx hm kp hS hH;have kb:IsTupleKey knd s'.heap k b:=LX (hk i k b Km hb) CV;have et:ks.take (i+1)=ks.take i++[k]:=by rw[bh,Km];rfl
  have pj:=hH.len;refine af (m:=holding [Value.ref b] (setAdd S (.ref b))) (bQ ?_);unfold setAdd;refine bQ (af (wpAny_pyHash_tuple hu kb ?_));refine Zg (s:={s' with toks:=s'.toks+(k.length+1)}) hu zV kb ∅ (λq=>?_) λq h' ys o' Bk t' sb S2 adq py=>?_
  ·have hH2:Eg knd ks bs (i+1) xs:={by lia,λz=>by
    rw[et,bg,<-hH.mem,ay];exact{.inl,λc=>c.elim id λe=>by obtain⟨x,hx,ex⟩:=q;rw[e,<-ex];exact aR.mpr ⟨x,hx,rfl⟩},hH.HR}
   refine ao {gO gg _,ih (i+1) _ o ep t xs ∅ bK (W.frame _ s' s'.heap _ g7 (d7 _ _) λb q o e=>e) CV zV hl hH2 λs2 o2 ep2 t2 Zd m2 a1 a2 a3=>hR s2 o2 ep2 t2 Zd (Moved.trans W.gtrans ((hm.mono sub).then_heap (h':=s'.heap) (d7 _ _) λb o _ e=>e) m2) a1 a2 a3}
  ·have hH2:Eg knd ks bs (i+1) ys:={by rw[py.length_eq,bx];lia,λz=>by
    rw[et,bg,<-hH.mem,ay,(py.map (·.1)).mem_iff,aU,aG];exact Or.comm,λx hx=>by
    rcases aG.mp (py.mem_iff.mp hx)with rfl|hx
    ·exact⟨i,Km,hb⟩
    ·exact hH.HR x hx}
   refine ao {gO gg _,ih (i+1) _ o' Bk t' ys ∅ bK (W.frame _ s' h' _ g7 (d7 _ _) λb q o e=>?_) (λb o e=>?_) S2 (adq.trans hl) hH2 λs2 o2 ep2 t2 Zd m2 a1 a2 a3=>hR s2 o2 ep2 t2 Zd (Moved.trans W.gtrans ((hm.mono sub).then_heap (h':=h') (d7 _ _) λb o q e=>?_) m2) a1 a2 a3}
   ·rw[sb.2 b λh:b=S=>nS (h▸q)];exact e
   ·rw[sb.2 b λh:b=S=>by rw[h,hS0]at e;cases e];exact CV b o e
   ·rw[sb.2 b λh:b=S=>q (h▸aA)];exact e
end
section
variable{A:Around}{E:Aae}{s:Shared}
abbrev pQ(w:World):Bool:=!w.params.followText "set-order"
abbrev sj(led:Bool):Obj:={cls:=.type "set",dict:=none,data:=.set #[] 0 (.fresh 0 0 led)}
def code_set_new(a:Value)(h:Q₁ (-12) {s with heap:=s.heap.push (sj (pQ w))}):
  codeAny (-5) A (.call (.builtin "set.__new__") {[.type "set",a],[]}) (wants Q₁ E) s:=by
 refine codeAny_of_tree ?_;show wpAny _ A.in1 (do checkBuiltinCall "set.__new__" {[.type "set",a],[]};again (.builtin "set.__new__" {[.type "set",a],[]})) _ _ s;refine af (CA (PySem.F.newCall_set_1 a) (ao {gO yo _,dv PySem.F.entry_set_new ?_}));rw[gA yo _];unfold Builtin.«set.__new__» Builtin.Frozenset.newClass;have Ub:=sub_set_self;obtain⟨hp,g,d,tk,os⟩:=s;dsimp only
 wp_walk
 refine uW (ao ?_);dsimp only;simp only[newObj];refine af (wpAny_alloc (ao ?_));exact ao h
def R6(hA:A.handled=none)(hu:A.in1.in1.in1.units<cLine)(hl:s.heap.IsList l items)(hi:items.toList=bs.map Value.ref)(lb:ks.length=bs.length)(hk:∀(i:Nat) k b,ks[i]?=some k->bs[i]?=some b->IsTupleKey knd s.heap k b)(hb:bs.length<=1000)
  (k:∀(h':Heap)(tk:Nat) o ep t xs,nM knd h' s.heap.objs.size o ep t xs->t.led=pQ w->Eg knd ks bs bs.length xs->(∀b o,s.heap.get? b=some o->h'.get? b=some o)->Q (-12) {s with heap:=h',toks:=tk}):
  wpAny (-5) A (call (.type "set") [.ref l]) Q E s:=by
 obtain⟨c,tl,aeM⟩:=BE.mro;have ft:=BE;have aeE:=ft.made;have Ub:=ft.sub;refine Ek (codeAny_of_tree ?_);show wpAny _ _ (callAny (.type "set") _) _ _ _;refine ao {jj _ (-3),dv PySem.F.entry_type_call ?_};rw[Around.under_plain (weight_type_call_type "set" [.ref l] []) rfl];have h1:=ft.notType;have h2:=ft.canCreate;have hct:=PySem.F.typeCall_set_1 (.ref l)
 repeat (any_goals (first|assumption|wp_step))
 refine lG (code_set_new (.ref l) (E:=E) (Q₁:=λx z=>x=.ref s.heap.objs.size/\z={s with heap:=s.heap.push (sj (pQ w))}) ⟨rfl,rfl⟩) λr z hr=>?_;cases r with
 |error e=>exact hr
 |ok fl=>
  cases fl with
  |ret x=>
   obtain⟨rfl,rfl⟩:=hr;have hS:(s.heap.push (sj (pQ w))).get? s.heap.objs.size=some (sj (pQ w)):=aF _ rfl;have hT:Shared.TypeIs {s with heap:=s.heap.push (sj (pQ w))} (-12) "set":=⟨_,hS,rfl⟩;have hli:=ft.init.lookup;have hbi:=ft.init.bind (-12)
   repeat (any_goals (first|assumption|wp_step))
   refine lG (qP (R:=wants (λr z=>r=.none/\∃h' tk o ep t xs,z={s with heap:=h',toks:=tk}/\nM knd h' s.heap.objs.size o ep t xs/\t.led=pQ w/\Eg knd ks bs bs.length xs/\(∀b o,s.heap.get? b=some o->h'.get? b=some o)) E) ft.init.plain PySem.F.entry_set_init (check_set_init_1 hT ?_)) λr2 z2 xZ=>?_
   ·obtain⟨⟨oc,od,oda,zK⟩,MW,zU,nl,hdl⟩:=hl;simp only at zU hdl;subst zU hdl;have aea:=aq (sj (pQ w)) MW;have aeJ:=PySem.F.sub_list_set;have aeK:=PySem.F.sub_list_frozenset;have ig:(Value.type "list"==Value.type "dict")=false:=by decide
    have pj:(s.heap.push (sj (pQ w))).IsList l items:=⟨_,aea,rfl,nl,rfl⟩;have hh3:A.in1.in1.in1.handled=none:=by simp[hA]
    unfold Builtin.«set.__init__» noKeywords Builtin.Frozenset.updateFrom;generalize hPI:pyIter=PI
    wp_walk
    subst hPI;refine kU pj (af (wpAny_runValue ?_));have hlS:l<s.heap.objs.size:=aI MW;have nI:l≠(s.heap.push (sj (pQ w))).objs.size:=by rw[cB];exact aL (eA hlS)
    have nS:s.heap.objs.size∉[(s.heap.push (sj (pQ w))).objs.size,l]:=by
     rw[cB];intro hm;rcases aG.mp hm with hm|hm
     ·exact absurd hm (aL (dC _))
     ·exact absurd (ay.mp hm) (bA hlS)
    have hsz:items.size=bs.length:=by rw[<-aS,hi,ak]
    refine acn (knd:=knd) (h0:=s.heap) ((Walks.list hh3 _ l nI items).toS) s.heap.objs.size nS (iB (ar _)) (λb hb=>iB (by rw[ay.mp hb,cB];exact fI _)) ks bs ∅ ∅ (λi v hv=>?_) hk (by first|exact hu|simpa using hu) ∅ (pQ w) items.size 0 _ (sj (pQ w)) 0 (.fresh 0 0 (pQ w)) [] rfl (aP _) {{_,aF _ rfl,rfl,rfl},pj.push _} (λb o e=>aq _ (aq _ e)) ?_ rfl {ar _,λk=>by simp,λx hx=>nomatch hx} λs' o ep t xs hm zV qL hH=>?_
    ·have e:items.toList[i]?=some v:=by rw[bJ];exact hv
     rw[hi,aK]at e;obtain⟨b,hb,rfl⟩:=aX.mp e;exact⟨b,hb,rfl⟩
    ·exact{aq _ hS,⟨rfl,rfl,rfl⟩,rfl,Tab.fresh 0 0 _,by show 0*5<7*3;decide,by show 7<=15;decide,fJ,λx hx=>nomatch hx}
    ·obtain⟨h',g',d',Ep,Vz⟩:=s';have eg:g'=s.gens:=hm.gens;have ed:d'=s.drawn:=hm.drawn;have eo:Vz=s.os:=hm.os;subst eg ed eo;rw[hsz]at hH;refine ao (ao {rfl,h',Ep,o,ep,t,xs,rfl,zV,qL,hH,λb o e=>hm.heap b o ?_ (aq _ (aq _ e))});have lt:=aI e;rintro(_|⟨_,q⟩)
     ·exact dD _ lt
     ·rw[ay.mp q,cB]at lt;exact absurd lt (FF.mpr (fI _))
   ·cases r2 with
    |error e=>exact xZ
    |ok fl2=>
     cases fl2 with
     |ret r=>
      obtain⟨rfl,h',tk,o,ep,t,xs,rfl,zV,qL,hH,Km⟩:=xZ
      repeat (any_goals (first|assumption|wp_step))
      exact k _ _ o ep t xs zV qL hH Km
     |_=>exact xZ.elim
  |_=>exact hr.elim
end
end
end Tb
namespace Tb
open PySem PySem.SetTable
def F7:entryFor table "set.__iter__"=some Builtin.«frozenset.__iter__»:=
 yf (id':="frozenset.__iter__") (by kernel_rfl) rfl (-3) (by kernel_rfl)
def eW:Slot "set_iterator" "__next__" "set_iterator.__next__":=
 .of (owner:="set_iterator") (n:="__next__") (by rw[jn,fY];kernel_rfl) (-3) (-3) (-3)
  (by first|exact .inl (by decide+kernel)|exact .inr (by decide+kernel)) (by rw[xU];kernel_rfl)
def mX:entryFor table "set_iterator.__next__"=some Builtin.«set_iterator.__next__»:=entryFor_of_tree (by kernel_rfl)
def oE(a:Value):argsOk "set_iterator.__next__" {[a],[]}:=by unfold argsOk;kernel_rfl
def xA:Slot "set_iterator" "__iter__" "set_iterator.__iter__":=
 .of (owner:="set_iterator") (n:="__iter__") (by rw[jn,fY];kernel_rfl) (-3) (-3) (-3)
  (by first|exact .inl (by decide+kernel)|exact .inr (by decide+kernel)) (by rw[xU];kernel_rfl)
def Fm:entryFor table "set_iterator.__iter__"=some Builtin.«dict_keyiterator.__iter__»:=
 yf (id':="dict_keyiterator.__iter__") (by kernel_rfl) rfl (-3) (by kernel_rfl)
def Gm(a:Value):argsOk "set_iterator.__iter__" {[a],[]}:=by unfold argsOk;kernel_rfl
def Xz:typeLookup (.type "set") "__len__"=pure (some (.builtin "set.__len__")):=by rw[jn,fY];kernel_rfl
section
variable{prog:Program}{w:World}{A:Around}{E:Aae}{s:Shared}
structure Sat(w:World)(h:Heap)(S:Addr)(es:Array (Int×Value))(ep:Nat)(t:SetTable):Prop where
 ob:∃o,h.get? S=some o/\o.ExactSet/\o.data=.set es ep t
 fits:t.fits es.size=true
 led:t.led=!w.params.followText "set-order"
 rise:nN t.place
def Sat.keep{S:Addr}(x:Sat w h S es ep t)(k:∀o,h.get? S=some o->h'.get? S=some o):Sat w h' S es ep t:=by obtain⟨⟨o,ho,r⟩,a,b,c⟩:=x;exact{{o,k o ho,r},a,b,c}
def Sat.state{S:Addr}(x:Sat w s.heap S es ep t)(h:Q (es,ep,t) s):wpAny (-5) A (setState S) Q E s:=by obtain⟨⟨o,ho,_,hd⟩,hf,_,_⟩:=x;exact tZ ho hd hf h
def Ao(h:Q (w.params.followText "set-order") s):wpAny (-5) A setsByText Q E s:=by unfold setsByText;exact af (uW (ao h))
def sr(w:World)(S:Addr)(es:Array (Int×Value))(ep:Nat):List (Int×Value):=if w.params.followText "set-order"=true then(pickOrder (w.params.setOrder S ep) es).toList else es.toList
def wU(w:World)(t:SetTable):Nat->Nat
 |0=>0
 |i+1=>if w.params.followText "set-order"=true then 0 else t.place.getD i 0+1
def yQ(w:World)(S:Addr)(es:Array (Int×Value))(ep:Nat):(sr w S es ep).Perm es.toList:=by
 unfold sr;split
 ·exact Qe _ _
 ·exact .refl _
def IJ(t:SetTable):Nat->Nat
 |0=>0
 |i+1=>t.place.getD i 0+1
def UY(hr:nN t.place):∀i,i<=t.place.size->below t.place (IJ t i)=i:=by
 intro i hi;obtain⟨h1,h2,h3⟩:=uJ hr (IJ t i);generalize eb:below t.place (IJ t i)=b at h1 h2 h3⊢;rcases kY b i with c|c|c
 ·cases i with
  |zero=>lia
  |succ i=>
   have:=h3 b (ar _) ∅;rw[show IJ t (i+1)=t.place.getD i 0+1 from rfl]at this;by_cases e:b=i
   ·rw[e]at this;lia
   ·have:=hr b i ∅ ∅;lia
 ·exact c
 ·have:=h2 i c;cases i with
  |zero=>rw[show IJ t 0=0 from rfl]at this;lia
  |succ i=>
   rw[show IJ t (i+1)=t.place.getD i 0+1 from rfl]at this;have:=hr i (i+1) ∅ ∅;lia
def LJ{S:Addr}(x:Sat w s.heap S es ep t)(hi:i<=es.size)(hd:w.params.followText "set-order"=true\/(!t.plain&&decide (es.size>1))=false)
  (h:Q ((sr w S es ep)[i]?.map λe=>(e.2,wU w t (i+1))) s):wpAny (-5) A (setNext S (wU w t i) i ep) Q E s:=by
 unfold setNext;refine af (x.state ?_);dsimp only;refine af (Ao ?_);by_cases c:w.params.followText "set-order"=true
 ·rw[aC c];rw[az (-9)];refine af ?_;unfold setWalk;refine af (x.state ?_);dsimp only;refine af (Ao ?_);rw[aC c];refine af (uW (ao (ao ?_)));have e1:sr w S es ep=(pickOrder (w.params.setOrder S ep) es).toList:=aC c;have e2:wU w t (i+1)=wU w t i:=by
   cases i with
   |zero=>exact aC c
   |succ i=>exact(aC c).trans (aC c).symm
  rw[e1,e2,bJ]at h;exact h
 ·rw[az c];have qh:=hd.resolve_left c;have cf:w.params.followText "set-order"=false:=fM.mpr c;have fz:=x.fits;have sz:t.place.size=es.size:=by unfold SetTable.fits at fz;have:=(q9.mp fz).1;exact iH this
  show wpAny (-5) A (if(!t.plain&&decide (es.size>1))=true then _ else _) Q E s;rw[qh];simp only[cw,d6];refine af ?_;show wpAny (-5) A (if(!t.led&&!es.isEmpty)=true then _ else _) _ E s;rw[x.led,cf];simp only[Bool.not_false,iI,lL,cw,d6];refine ao (ao ?_);have e0:wU w t i=IJ t i:=by
   cases i with
   |zero=>rfl
   |succ i=>exact az c
  rw[e0,UY x.rise i ∅];have e1:sr w S es ep=es.toList:=az c;rw[e1,bJ]at h;by_cases lt:i<es.size
  ·have g1:es[i]?=some es[i]:=bD lt;have g2:t.place[i]?=some (t.place.getD i 0):=getD_some.mpr {by lia,rfl};have g3:wU w t (i+1)=t.place.getD i 0+1:=az c;rw[g1]at h⊢;rw[g2];rw[eI,g3]at h;exact h
  ·have g1:es[i]?=none:=kT ∅;rw[g1]at h⊢;exact h
def GH(hT:s.TypeIs (.ref I) "set_iterator")(h:Q (.ref I) s):wpAny (-5) A (pyIter (.ref I)) Q E s:=by refine oQ hT xA (bz xA hT Fm ?_ (Gm _));show wpAny _ _ (ret (.ref I)) _ _ s;exact ao {_,rfl,"set_iterator",_,hT,eW.lookup,h}
abbrev oK(first:Value)(i:Nat)(S:Addr)(n ep:Nat):Obj:={cls:=.type "set_iterator",data:=.fields #[first,.int i 0,.ref S,.int n 0,.int ep 0]}
def BS(hh:A.handled=none)(k:∀(h':Heap)(e:Addr),(∀b o,h.get? b=some o->h'.get? b=some o)->(∃o,h'.get? e=some o/\o.cls=.type "StopIteration")->E (.ref e) {s with heap:=h'}):
  wpAny (-5) A (newExc (.type "StopIteration") []>>=λe=>(raiseNew e:Sem α)) Q E {s with heap:=h}:=by
 refine af ?_;simp only[newExc,newTuple];refine af (cx ?_ (by size_fits));refine af (m:=firstArgMember _ _) (CA (a:=Value.none) (by first|rfl|(simp only[firstArgMember];rfl)) ?_);refine cx ?_ (by size_fits);simp only[raiseNew];refine af (wpAny_handled ?_);rw[hh];refine af (ao (wpAny_throw ?_));exact k _ _ (λb o e=>aq _ (aq _ e)) {_,aF _ rfl,rfl}
def ux{h:Heap}(ho:h.get? a=some {cls:=cls,data:=.fields vs}):(h.update a (Obj.mapFields (·.setIfInBounds i x))).get? a=some {cls:=cls,data:=.fields (vs.setIfInBounds i x)}:=cH _ ho rfl
def abM(hh:A.handled=none){S I:Addr}(ne:S≠I)(hd:w.params.followText "set-order"=true\/(!t.plain&&decide (es.size>1))=false):
  WalksS prog w A I [I,S] [I] (λa b=>b=a) es.size (λi v=>((sr w S es ep).map (·.2))[i]?=some v) (λi s=>Sat w s.heap S es ep t/\s.heap.get? I=some (oK (.int (wU w t i) 0) i S es.size ep)) where
 sub:=λb hb=>by rw[ay.mp hb];exact aA
 grefl:=λ_=>rfl
 gtrans:=λ_ _ _ h1 h2=>h2.trans h1
 frame:=λi s h' tk st _ hk=>{st.1.keep λo e=>hk S (-9) o e,hk I (-9) _ st.2}
 item:=by
  intro i s Q E hi ⟨x,hI⟩ k;have hT:s.TypeIs (.ref I) "set_iterator":=⟨_,hI,rfl⟩;unfold pyNext;refine af (-29);unfold Builtin.«set_iterator.__next__» slotArgs;simp only[pU,iI,cw,d6,d5,jG];refine af (af (ao (ao ?_)));refine af (iP hI rfl ?_);dsimp only;refine af ?_;unfold setEntries;refine af (x.state (ao ?_));dsimp only;rw[az (-9)];simp only[cZ];refine af (LJ x (bu hi) hd ?_);have lo:i<(sr w S es ep).length:=by rw[(yQ w S es ep).length_eq,aS];exact hi
  rw[au lo,eI];dsimp only;refine af (fH hI rfl (-9) ?_);have Nb:=ux (i:=0) (x:=rawInt (wU w t (i+1))) hI;refine af (fH Nb rfl (-9) ?_);have hI2:=ux (i:=1) (x:=rawInt ((i:Int)+1)) Nb;refine ao {_,rfl,ao ?_};have xJ:∀b o,b≠I->s.heap.get? b=some o->((s.heap.update I (Obj.mapFields (·.setIfInBounds 0 (rawInt (wU w t (i+1)))))).update I (Obj.mapFields (·.setIfInBounds 1 (rawInt ((i:Int)+1))))).get? b=some o:=λb o nb e=>(bO _ _ (cb nb)).trans ((bO _ _ (cb nb)).trans e);refine k _ _ (by rw[aK,au lo];rfl) {x.keep λo e=>xJ S o ne e,?_} {λb o hb e=>xJ b o (λz=>hb (ay.mpr z)) e,rfl,rfl,rfl,ar _};exact hI2
 done:=by intro s Q E ⟨x,hI⟩ k;have hT:s.TypeIs (.ref I) "set_iterator":=⟨_,hI,rfl⟩;unfold pyNext;refine af (-29);unfold Builtin.«set_iterator.__next__» slotArgs;simp only[pU,iI,cw,d6,d5,jG];refine af (af (ao (ao ?_)));refine af (iP hI rfl ?_);dsimp only;refine af ?_;unfold setEntries;refine af (x.state (ao ?_));dsimp only;rw[az (-9)];simp only[cZ];refine af (LJ x (ar _) hd ?_);have lo:(sr w S es ep)[es.size]?=none:=hX (by rw[(yQ w S es ep).length_eq,aS];exact ar _);rw[lo,Option.map_none];dsimp only;refine af (fH hI rfl (-9) ?_);have xJ:∀b o,b≠I->s.heap.get? b=some o->(s.heap.update I (Obj.mapFields (·.setIfInBounds 2 Value.none))).get? b=some o:=λb o nb e=>(bO _ _ (cb nb)).trans e;refine BS (s:=s) (show A.in1.handled=none from hh) λh' e kp adL=>?_;obtain⟨o,ho,hc⟩:=adL;refine af (f6 (T:="StopIteration") (b:=true) ⟨o,ho,hc⟩ jQ (ao (k _ {λb o hb q=>kp b o (xJ b o (λz=>hb (ay.mpr z)) q),rfl,rfl,rfl,ar _})))
 self:=by intro i s Q E ⟨x,hI⟩ h;exact GH ⟨_,hI,rfl⟩ h
def abL(hh:A.handled=none){S I T:Addr}(ne:S≠I)(nT:T≠I){ps:List Nat}(hp:ps.Perm (List.range es.size)):
  WalksS prog w A I [I,S,T] [I] (λa b=>b=a) es.size (λi v=>((ps.filterMap (es[·]?)).map (·.2))[i]?=some v) (λi s=>Sat w s.heap S es ep t/\s.heap.get? I=some (oK (.ref T) i S es.size ep)/\s.heap.get? T=some {cls:=.type "tuple",data:=.seq (ps.map λ(i:Nat)=>rawInt i).toArray}) where
 sub:=λb hb=>by rw[ay.mp hb];exact aA
 grefl:=λ_=>rfl
 gtrans:=λ_ _ _ h1 h2=>h2.trans h1
 frame:=λi s h' tk st _ hk=>{st.1.keep λo e=>hk S (-9) o e,hk I (-9) _ st.2.1,hk T (-9) _ st.2.2}
 item:=by
  intro i s Q E hi ⟨x,hI,WC⟩ k;have hT:s.TypeIs (.ref I) "set_iterator":=⟨_,hI,rfl⟩;unfold pyNext;refine af (-29);unfold Builtin.«set_iterator.__next__» slotArgs;simp only[pU,iI,cw,d6,d5,jG];refine af (af (ao (ao ?_)));refine af (iP hI rfl ?_);dsimp only;refine af ?_;unfold setEntries;refine af (x.state (ao ?_));dsimp only;rw[az (-9)];simp only[cZ];refine af (bY WC rfl ?_);have lp:ps.length=es.size:=by rw[hp.length_eq,gG]
  have li:i<ps.length:=by lia
  have lpi:ps[i]<es.size:=cY.mp (hp.mem_iff.mp (gh li));have e1:((ps.map λ(i:Nat)=>rawInt i).toArray)[i]?=some (.int (ps[i]:Nat) 0):=by simp[li,rawInt]
  dsimp only;rw[e1];dsimp only;refine af ?_;unfold setNextDrawn;refine af (x.state ?_);dsimp only;rw[az (-9)];simp only[cZ];rw[bD lpi];refine ao ?_;refine af (fH hI rfl (-9) ?_);have Nb:=ux (i:=1) (x:=rawInt ((i:Int)+1)) hI;refine ao {_,rfl,ao ?_};have xJ:∀b o,b≠I->s.heap.get? b=some o->(s.heap.update I (Obj.mapFields (·.setIfInBounds 1 (rawInt ((i:Int)+1))))).get? b=some o:=λb o nb e=>(bO _ _ (cb nb)).trans e;refine k _ _ ?_ {x.keep λo e=>xJ S o ne e,Nb,xJ T _ nT WC} {λb o hb e=>xJ b o (λz=>hb (ay.mpr z)) e,rfl,rfl,rfl,ar _};have all:∀(l:List Nat),(∀p∈l,p<es.size)->∀j:Nat,(l.filterMap (es[·]?))[j]?=(l[j]?).bind (es[·]?):=by
   intro l
   induction l with
   |nil=>intro _ j;simp
   |cons p l ih=>
    intro hl j;have lp:=hl p aA;rw[fP,bD lp];cases j with
    |zero=>simp[lp]
    |succ j=>
     simp only[oP];exact ih (λq hq=>hl q (aB _ hq)) j
  rw[aK,all ps (λp hq=>cY.mp (hp.mem_iff.mp hq)) i,au li];simp[lpi]
 done:=by
  intro s Q E ⟨x,hI,WC⟩ k;have hT:s.TypeIs (.ref I) "set_iterator":=⟨_,hI,rfl⟩;unfold pyNext;refine af (-29);unfold Builtin.«set_iterator.__next__» slotArgs;simp only[pU,iI,cw,d6,d5,jG];refine af (af (ao (ao ?_)));refine af (iP hI rfl ?_);dsimp only;refine af ?_;unfold setEntries;refine af (x.state (ao ?_));dsimp only;rw[az (-9)];simp only[cZ];refine af (bY WC rfl ?_);have lp:ps.length=es.size:=by rw[hp.length_eq,gG]
  have e1:((ps.map λ(i:Nat)=>rawInt i).toArray)[es.size]?=none:=by simp[lp]
  dsimp only;rw[e1];dsimp only;refine af (fH hI rfl (-9) ?_);have Nb:=ux (i:=0) (x:=rawInt 0) hI;refine af (fH Nb rfl (-9) ?_);have xJ:∀b o,b≠I->s.heap.get? b=some o->((s.heap.update I (Obj.mapFields (·.setIfInBounds 0 (rawInt 0)))).update I (Obj.mapFields (·.setIfInBounds 2 Value.none))).get? b=some o:=λb o nb e=>(bO _ _ (cb nb)).trans ((bO _ _ (cb nb)).trans e);refine BS (s:=s) (show A.in1.handled=none from hh) λh' e kp adK=>?_;obtain⟨o,ho,hc⟩:=adK;refine af (f6 (T:="StopIteration") (b:=true) ⟨o,ho,hc⟩ jQ (ao (k _ {λb o hb q=>kp b o (xJ b o (λz=>hb (ay.mpr z)) q),rfl,rfl,rfl,ar _})))
 self:=by intro i s Q E ⟨x,hI,_⟩ h;exact GH ⟨_,hI,rfl⟩ h
def Kn(hT:s.TypeIs (.ref r) "set")(h:Q false s):wpAny (-5) A (Builtin.List.listLengthHint (.ref r)) Q E s:=by
 unfold Builtin.List.listLengthHint;refine af (il hT Xz ?_);generalize hid:("set.__len__":String)=id0
 wp_delta
 rw[show splitId id0=some ("set","__len__")from by subst hid;decide+kernel];subst hid;refine af (f6 (T:="set") (b:=true) hT (by rw[xU];kernel_rfl) ?_);refine mP (λhab=>absurd hab (-8)) (λ_=>?_);refine mP (λ_=>?_) (λhab=>absurd (-3) hab);refine af (fZ hT ?_);exact ao h
def Xi{S:Addr}(x:Sat w s.heap S es ep t)(hn:es.size<=100000)
  (h1:(w.params.followText "set-order"=true\/(!t.plain&&decide (es.size>1))=false)->Q (-12) {s with heap:=s.heap.push (oK (.int 0 0) 0 S es.size ep)})
  (h2:∀(ps:List Nat) d,ps.Perm (List.range es.size)->Q (.ref (-17)) {s with heap:=(-35).push (oK (-12) 0 S es.size ep),drawn:=d}):
  wpAny (-5) A (pyIter (.ref S)) Q E s:=by
 obtain⟨o,ho,hex,hd⟩:=x.ob;have hT:s.TypeIs (.ref S) "set":={o,ho,hex.1};refine oQ hT F.slot_set_iter (bz F.slot_set_iter hT F7 ?_ (F.args_set_iter_1 _));unfold Builtin.«frozenset.__iter__» Builtin.Frozenset.slot0 slotArgs;refine af (af (ao (ao ?_)));refine af ?_;unfold Builtin.Frozenset.sizeOf setEntries;refine af (af (x.state (ao (ao ?_))));refine af ?_;unfold setDrawn;refine af (x.state ?_);refine af (Ao ?_);refine ao ?_;show wpAny (-5) _ (if(!w.params.followText "set-order"&&(!t.plain&&decide (es.size>1)))=true then _ else _) _ _ s;by_cases c:(!w.params.followText "set-order"&&(!t.plain&&decide (es.size>1)))=true
 ·rw[aC c];refine af (LK es.size (List.range es.size) s (-9) λps d hp=>?_);refine af (cx ?_ (by show(ps.map _).toArray.size<=_;rw[aQ,ak,hp.length_eq,gG,b8];lia));have x2:Sat w (-35) S es ep t:=x.keep λo e=>aq _ e;refine af ?_;unfold setEpoch;refine af (Sat.state x2 (ao ?_));refine af (cx (ao {_,rfl,"set_iterator",_,{_,aF _ rfl,rfl},eW.lookup,?_}));have:=h2 ps d hp;rw[cB];exact this
 ·rw[az c];refine af (ao ?_);refine af ?_;unfold setEpoch;refine af (x.state (ao ?_));refine af (cx (ao {_,rfl,"set_iterator",_,{_,aF _ rfl,rfl},eW.lookup,h1 ?_}));cases q:w.params.followText "set-order"with
  |true=>exact .inl rfl
  |false=>
   rw[q]at c;exact .inr (fM.mpr c)
def Mr(l:Aag)(acc:Aal)(ha:ItemsOf (λi v=>l[i]?=some v) acc l.length):acc.toList=l:=by
 refine uk λi=>?_;by_cases c:i<l.length
 ·have ci:i<acc.size:=by rw[ha.1];exact c
  have:=ha.2 i acc[i] (bD ci);rw[this,bJ,bD ci]
 ·rw[hX (by rw[aS,ha.1];lia),hX ∅]
theorem Qa{α:Type}:∀l:List α,(List.range l.length).filterMap (λi=>l[i]?)=l
 |[]=>rfl
 |x::l=>by rw[bx,xl,fP];show x::_=_;rw[tG];congr 1;exact Qa l
def OV{S L:Addr}(hh:A.handled=none)(x:Sat w s.heap S es ep t)(hn:es.size<=100000)(My:L≠S)(hL:s.heap.get? L=some {cls:=.type "list",data:=.seq #[] c₀})
  (hR:∀h' tk d acc c,(∀b o,b≠L->s.heap.get? b=some o->h'.get? b=some o)->h'.get? L=some {cls:=.type "list",dict:=none,data:=.seq acc c,slots:=#[]}->acc.toList.Perm (es.toList.map (·.2))->R (.ok (.ret res)) {s with heap:=h',toks:=tk,drawn:=d}):
  wpAny (-5) A.in1 (Builtin.List.listExtendWith (.ref L) (.ref S) res)
   (λfin s'=>match fin with| .done f=>R (.ok f) s'| .again c'=>c'.quiet=true/\codeAny (-5) A c' R s') (λe s'=>R (.error e) s') s:=by
 obtain⟨o,ho,hex,hd⟩:=x.ob;have hS:=aI ho;have hLl:=aI hL;have key:∀(I:Addr)(fp:Aaj)(P:Nat->Value->Prop)(St:Nat->Shared->Prop),WalksS prog w A.in1 I fp [I] (λa b=>b=a) es.size P St->s.heap.objs.size<=I->L∉fp->(∀acc:Aal,ItemsOf P acc es.size->acc.toList.Perm (es.toList.map (·.2)))->
   ∀(h:Heap)(d:Drawn)(c₁ tk:Nat),(∀b o,b≠L->s.heap.get? b=some o->h.get? b=some o)->h.get? L=some {cls:=.type "list",data:=.seq #[] c₁}->St 0 {s with heap:=h,toks:=tk,drawn:=d}->
   codeAny (-5) A (.builtin "list.extend.loop" {[.ref L,.ref I,res],[]}) R {s with heap:=h,toks:=tk,drawn:=d}:=by
  intro I fp P St W hI nf hP h d c₁ tk hk acE st;refine codeAny_extend_loopS W (by rw[b8];lia) _ nf _ es.size 0 _ _ _ rfl (aP _) st acE (ItemsOf.nil P) λs' tT c' hm zV aen=>?_;obtain⟨h',g',d',Ep,Vz⟩:=s';have eg:=hm.gens;have ed:d'=d:=hm.drawn;have eo:=hm.os;subst eg ed eo;refine hR h' Ep d' tT c' (λb o hb e=>hm.heap b o ?_ (hk b o hb e)) zV (hP tT aen);have lt:=aI e;intro q;rcases aG.mp q with q|q
  ·exact hb q
  ·rw[ay.mp q]at lt;exact absurd (a9 lt hI) (dD _)
 have tail:∀(I:Addr)(fp:Aaj)(P:Nat->Value->Prop)(St:Nat->Shared->Prop),WalksS prog w A.in1 I fp [I] (λa b=>b=a) es.size P St->s.heap.objs.size<=I->L∉fp->(∀acc:Aal,ItemsOf P acc es.size->acc.toList.Perm (es.toList.map (·.2)))->
   ∀(h:Heap)(d:Drawn),(∀b o,s.heap.get? b=some o->h.get? b=some o)->St 0 {s with heap:=h,drawn:=d}->
   wpAny (-5) A.in1 (Builtin.List.listTouch (.ref L)>>=λ_=>again (.builtin "list.extend.loop" {[.ref L,.ref I,res],[]})) (λfin s'=>match fin with| .done f=>R (.ok f) s'| .again c'=>c'.quiet=true/\codeAny (-5) A c' R s') (λe s'=>R (.error e) s') {s with heap:=h,drawn:=d}:=by
  intro I fp P St W hI nf hP h d hk st;refine af ?_;have WE:=hk _ _ hL;refine af (jk WE rfl ?_);have WD:=cH (Obj.mapSeq (·.push Value.none)) WE rfl;refine jk WD rfl ?_;have acD:=cH (Obj.mapSeq (·.pop)) WD rfl;have xJ:∀b o,b≠L->h.get? b=some o->((h.update L (Obj.mapSeq (·.push Value.none))).update L (Obj.mapSeq (·.pop))).get? b=some o:=
   λb o hb e=>(bO _ _ (cb hb)).trans ((bO _ _ (cb hb)).trans e)
  exact ao {gO rD _,key I fp P St W hI nf hP _ d _ s.toks (λb o hb e=>xJ b o hb (hk b o e)) acD (W.frame 0 {s with heap:=h,drawn:=d} _ s.toks st (ar _) λb hb o e=>xJ b o (λz=>nf (z▸hb)) e)}
 have hT:s.TypeIs (.ref S) "set":={o,ho,hex.1};have e1:Builtin.List.listSameRef (.ref L) (.ref S)=false:=by simp[Builtin.List.listSameRef,My]
 have e2:(Value.type "set"==Value.type "list")=false:=by decide
 have e3:(Value.type "set"==Value.type "tuple")=false:=by decide
 unfold Builtin.List.listExtendWith;refine af (fZ hT ?_);simp only[e1,e2,e3,Ac,cw,d6];refine af (Xi x hn (λhc=>?_) λps d hp=>?_)
 ·have W:=abM (prog:=prog) (A:=A.in1) (ep:=ep) (by simpa using hh) (aL hS) hc;have nf:L∉[s.heap.objs.size,S]:=λhb=>by
   rcases aG.mp hb with q|q
   ·exact absurd q (aL hLl)
   ·exact My (ay.mp q)
  have hP:∀acc:Aal,ItemsOf (λi v=>((sr w S es ep).map (·.2))[i]?=some v) acc es.size->acc.toList.Perm (es.toList.map (·.2)):=λacc ha=>by
   have lo:((sr w S es ep).map (·.2)).length=es.size:=by rw[ak,(yQ w S es ep).length_eq,aS]
   rw[<-lo]at ha;rw[Mr _ acc ha];exact(yQ w S es ep).map _
  have kp:∀b o,s.heap.get? b=some o->(s.heap.push (oK (.int 0 0) 0 S es.size ep)).get? b=some o:=λb o e=>aq _ e;have st:Sat w (s.heap.push (oK (.int 0 0) 0 S es.size ep)) S es ep t/\(s.heap.push (oK (.int 0 0) 0 S es.size ep)).get? s.heap.objs.size=some (oK (.int (wU w t 0) 0) 0 S es.size ep):={x.keep λo e=>kp _ _ e,aF _ rfl};refine af (bQ (Kn {o,kp _ _ ho,hex.1} ?_));refine mP (λ_=>?_) (λ_=>ao {gO rD _,key _ _ _ _ W (ar _) nf hP _ s.drawn c₀ s.toks (λb o _ e=>kp b o e) (kp _ _ hL) st});exact af (fQ (tail _ _ _ _ W (ar _) nf hP _ s.drawn kp st))
 ·have nT:s.heap.objs.size≠s.heap.objs.size+1:=aL (dC _);have W:=abL (prog:=prog) (w:=w) (A:=A.in1) (ep:=ep) (t:=t) (by simpa using hh) (aL (eA hS)) nT hp;have nf:L∉[s.heap.objs.size+1,S,s.heap.objs.size]:=λhb=>by
   rcases aG.mp hb with q|q
   ·exact absurd q (aL (eA hLl))
   ·rcases aG.mp q with q|q
    ·exact My q
    ·exact absurd (ay.mp q) (aL hLl)
  have hP:∀acc:Aal,ItemsOf (λi v=>((ps.filterMap (es[·]?)).map (·.2))[i]?=some v) acc es.size->acc.toList.Perm (es.toList.map (·.2)):=λacc ha=>by
   have hl:(ps.filterMap (es[·]?)).Perm es.toList:=by
    have:=hp.filterMap (es.toList[·]?);rw[<-aS]at this;have e4:(ps.filterMap (es[·]?))=ps.filterMap (es.toList[·]?):=by simp
    rw[e4];rwa [Qa]at this
   have lo:((ps.filterMap (es[·]?)).map (·.2)).length=es.size:=by rw[ak,hl.length_eq,aS]
   rw[<-lo]at ha;rw[Mr _ acc ha];exact hl.map _
  generalize E8:(-35).push (oK (-12) 0 S es.size ep)=iU;have kp:∀b o,s.heap.get? b=some o->iU.get? b=some o:=λb o e=>by rw[<-E8];exact aq _ (aq _ e)
  have gI:iU.get? (-17)=some (oK (-12) 0 S es.size ep):=by have:=aF (-35) (o:=oK (-12) 0 S es.size ep) rfl;rw[cB]at this;rw[<-E8];exact this
  have gT:iU.get? s.heap.objs.size=some {cls:=.type "tuple",data:=.seq (ps.map λ(i:Nat)=>rawInt i).toArray}:=by rw[<-E8];exact aq _ (aF _ rfl)
  have st:Sat w iU S es ep t/\iU.get? (-17)=some (oK (-12) 0 S es.size ep)/\iU.get? s.heap.objs.size=some {cls:=.type "tuple",data:=.seq (ps.map λ(i:Nat)=>rawInt i).toArray}:={x.keep λo e=>kp _ _ e,gI,gT};refine af (bQ (Kn {o,kp _ _ ho,hex.1} ?_));refine mP (λ_=>?_) (λ_=>ao {gO rD _,key _ _ _ _ W (fI _) nf hP iU d c₀ s.toks (λb o _ e=>kp b o e) (kp _ _ hL) st});exact af (fQ (tail _ _ _ _ W (fI _) nf hP iU d kp st))
def Lv{S:Addr}(hh:A.handled=none)(x:Sat w s.heap S es ep t)(hn:es.size<=100000)
  (h:∀h' tk d vs,vs.Perm (es.toList.map (·.2))->(∀b o,s.heap.get? b=some o->h'.get? b=some o)->R vs {s with heap:=h',toks:=tk,drawn:=d}):wpAny (-5) A (collect (.ref S)) R E s:=by
 obtain⟨o,ho,hex,hd⟩:=x.ob;have hS:=aI ho;unfold collect;refine af (wpAny_runValue (dv F.entry_proto_collect ?_));rw[gA F.plain_proto_collect _];refine af (cx ?_);refine ao {gO Cw _,dv F.entry_list_iadd ?_};rw[gA Cw _];have k1:∀b o,s.heap.get? b=some o->(s.heap.push {cls:=.type "list",data:=.seq ([]:Aag).toArray}).get? b=some o:=λb o e=>aq _ e;have hL:(s.heap.push {cls:=.type "list",data:=.seq ([]:Aag).toArray}).get? s.heap.objs.size=some {cls:=.type "list",data:=.seq #[]}:=aF _ rfl;have key:=OV (prog:=prog) (s:={s with heap:=s.heap.push {cls:=.type "list",data:=.seq ([]:Aag).toArray}})
  (R:=λ(q:Result)(s':Shared)=>∃(h':Heap)(tk:Nat)(d:Drawn)(tT:Aal)(c':Nat),q=.ok (.ret (-12))/\s'={s with heap:=h',toks:=tk,drawn:=d}/\
   (∀b o,s.heap.get? b=some o->h'.get? b=some o)/\h'.get? s.heap.objs.size=some {cls:=.type "list",dict:=none,data:=.seq tT c',slots:=#[]}/\tT.toList.Perm (es.toList.map (·.2)))
  hh (x.keep λo e=>k1 _ _ e) hn (bA hS) hL λh' tk d acc c kp g pm=>{h',tk,d,acc,c,rfl,rfl,λb o e=>kp b o (aL (aI e)) (k1 _ _ e),g,pm}
 refine c8 key (λfin s' x=>?_) λe s' x=>?_
 ·cases fin with
  |done f=>
   obtain⟨h',tk,d,tT,c',e,rfl,hk,zV,pm⟩:=x;cases e;refine af (Ej zV ?_);exact ao (h h' tk d tT.toList pm hk)
  |again c₁=>
   refine{x.1,lG x.2 λq aad y=>?_};obtain⟨h',tk,d,tT,c',rfl,rfl,hk,zV,pm⟩:=y;refine af (Ej zV ?_);exact ao (h h' tk d tT.toList pm hk)
 ·obtain⟨_,_,_,_,_,e',_⟩:=x;cases e'
end
end Tb
namespace Nt
open PySem PyProof.Rows
def uS:Bool->Keyed->Array Keyed->Nat->Nat->Nat->StateT SortSt Sem (Option Nat):=sortPriv% PySem.Builtin.gallop
def JO:Array Keyed->Array Keyed->StateT SortSt Sem (Array Keyed):=sortPriv% PySem.Builtin.mergeLo
def JP:Array Keyed->Array Keyed->StateT SortSt Sem (Array Keyed):=sortPriv% PySem.Builtin.mergeHi
structure Ct where
 prog:Program
 w:World
 A:Around
 J:Shared->Prop
 κ:SortKind
 rk:Keyed->Nat
 In:Keyed->Prop
 lt:∀x y,In x->In y->∀s,J s->wpAny (-5) A (keyLt' κ x.1 y.1) (λb s'=>b=decide (rk x<rk y)/\J s') (λ_ _=>False) s
variable{C:Ct}
def W(C:Ct)(m:StateT SortSt Sem α)(Q:α->SortSt->Prop)(st:SortSt):Prop:=
 ∀s,C.J s->wpAny (model C.prog C.w) C.A (m.run st) (λr s'=>C.J s'/\Q r.1 r.2) (λ_ _=>False) s
section
variable{α β:Type}{Q:α->SortSt->Prop}{st:SortSt}
def W.pure(h:Q a st):W C (pure a) Q st:=λs j=>by rw[StateT.run_pure];exact ao ⟨j,h⟩
def W.bind(h:W C m (λb g7=>W C (f b) Q g7) st):W C (m>>=f) Q st:=λs j=>by rw[StateT.run_bind];exact af (c8 (h s j) (λr s' x=>x.2 s' x.1) λ_ _ e=>e)
def W.mono(h:W C m Q' st)(k:∀a g7,Q' a g7->Q a g7):W C m Q st:=λs j=>
 c8 (h s j) (λr s' x=>{x.1,k _ _ x.2}) λ_ _ e=>e
def W.get{Q:SortSt->SortSt->Prop}(h:Q st st):W C (get:StateT SortSt Sem SortSt) Q st:=λs j=>by rw[StateT.run_get];exact ao ⟨j,h⟩
def W.modify{Q:PUnit->SortSt->Prop}(h:Q ⟨⟩ (f st)):W C (modify f:StateT SortSt Sem PUnit) Q st:=λs j=>by rw[StateT.run_modify];exact ao ⟨j,h⟩
def W.rl{Q:PUnit->SortSt->Prop}(h:Q ⟨⟩ st):W C (liftM (PySem.rule r:Sem PUnit):StateT SortSt Sem PUnit) Q st:=λs j=>by show wpAny _ _ ((StateT.lift (PySem.rule r:Sem PUnit):StateT SortSt Sem PUnit).run st) _ _ s;rw[StateT.run_lift];exact af (fQ (ao ⟨j,h⟩))
def W.lt{Q:Option Bool->SortSt->Prop}(hk:kindOf st=C.κ)(hx:C.In x)(hy:C.In y)(h:Q (some (decide (C.rk x<C.rk y))) st):W C (lt' x y) Q st:=by rw[lt'_eq];refine W.bind (W.get ?_);rw[hk];refine W.bind λs j=>?_;show wpAny _ _ ((StateT.lift _:StateT SortSt Sem _).run st) _ _ s;rw[StateT.run_lift];refine af (dZ (c8 (C.lt x y hx hy s j) (λb s' q=>?_) λ_ _ e=>e.elim));obtain⟨rfl,j'⟩:=q;exact ao {j',W.pure h}
def W.elem{Q:Keyed->SortSt->Prop}(hi:i<a.size)(h:Q a[i] st):W C (elem' a i) Q st:=by rw[elem'_eq,getElem?_pos a i hi];exact W.pure h
def W.for(I:Nat->β->SortSt->Prop){Q:β->SortSt->Prop}
  (hs:∀i c st,a<=i->i<b->I i c st->W C (f i c) (λr g7=>match r with| .done c'=>Q c' g7| .yield c'=>I (i+1) c' g7) st)
  (he:∀c st,I (max a b) c st->Q c st) (h:I a c st):W C (forIn [a:b] c f) Q st:=by
 rw[mM];have hsz:([a:b]:Std.Legacy.Range).size=b -a:=by simp[Std.Legacy.Range.size]
 show W C (forIn (List.range' a ([a:b]:Std.Legacy.Range).size 1) c f) Q st;rw[hsz]
 suffices go:∀n i c st,a<=i->i+n=max a b->I i c st->W C (forIn (List.range' i n 1) c f) Q st from go (b -a) a c st (ar _) ∅ h
 intro n
 induction n with
 |zero=>
  intro i c st _ e h;rw[List.range'_zero,yu];rw[show i=max a b by lia]at h;exact W.pure (he _ _ h)
 |succ n ih=>
  intro i c st ha e h;rw[List.range'_succ,mZ];refine W.bind (W.mono (hs i c st ha ∅ h) λr g7 x=>?_);cases r with
  |done c'=>exact W.pure x
  |yield c'=>exact ih (i+1) c' g7 ∅ ∅ x
end
variable{C:Ct}
def FA(C:Ct)(left:Bool)(key x:Keyed):Bool:=if left then decide (C.rk x<C.rk key)else !decide (C.rk key<C.rk x)
def abO{st:SortSt}(hk:kindOf st=C.κ)(lF:C.In key)(hi:i<arr.size)(gL:C.In arr[i])(h:Q (some (FA C left key arr[i])) st):W C (do
  let x<-elem' arr i
  if left=true then lt' x key else do
   let r<-lt' key x
   pure (r.map (!·))) Q st:=by
 refine W.bind (W.elem hi ?_);unfold FA at h;cases left with
 |true=>exact W.lt hk gL lF h
 |false=>exact W.bind (W.lt hk lF gL (W.pure h))
def gB(C:Ct)(left:Bool)(key:Keyed)(arr:Array Keyed)(i:Nat):Bool:=(arr[i]?).elim false (FA C left key)
def HY{st:SortSt}(hk:kindOf st=C.κ)(lF:C.In key)(gL:∀x∈arr,C.In x)(hb:base+n<=arr.size)(hh:hint<n)
  (mono:∀i j,i<=j->j<n->gB C left key arr (base+j)=true->gB C left key arr (base+i)=true)
  (h:∀k,k<=n->(∀i,i<k->gB C left key arr (base+i)=true)->(∀i,k<=i->i<n->gB C left key arr (base+i)=false)->Q (some k) st):W C (uS left key arr base n hint) Q st:=by
 have bb:∀{i:Nat}{Q:Option Bool->SortSt->Prop}(q:i<n),Q (some (gB C left key arr (base+i))) st->W C (do
  let x<-elem' arr (base+i)
  if left=true then lt' x key else do
   let r<-lt' key x
   pure (r.map (!·))) Q st:=λ{i Q} q x=>abO hk lF ∅ (gL _ (c6 ∅)) (by
    unfold gB at x;rw[getElem?_pos arr (base+i) ∅]at x;exact x)
 have nm:∀i j,i<=j->j<n->gB C left key arr (base+i)=false->gB C left key arr (base+j)=false:=λi j h1 h2 e=>by
  cases e2:gB C left key arr (base+j)with
  |false=>rfl
  |true=>rw[mono i j h1 h2 e2]at e;cases e
 generalize gB C left key arr=B at mono h bb nm;unfold uS;refine W.bind (bb hh ?_);have fin:∀{lo hi:Nat},lo<=hi->hi<=n->(∀i,i<lo->B (base+i)=true)->(∀i,hi<=i->i<n->B (base+i)=false)->∀{f:Nat->Option (Option Nat)×Nat×Nat->StateT SortSt Sem (ForInStep (Option (Option Nat)×Nat×Nat))}{g:Option (Option Nat)×Nat×Nat->StateT SortSt Sem (Option Nat)},
   (∀x lo hi(P:ForInStep (Option (Option Nat)×Nat×Nat)->SortSt->Prop),lo<=hi->hi<=n->(lo≥hi->P (.done (none,lo,hi)) st)->(lo<hi->(B (base+(lo+(hi -lo)/2))=true->P (.yield (none,lo+(hi -lo)/2+1,hi)) st)/\(B (base+(lo+(hi -lo)/2))=false->P (.yield (none,lo,lo+(hi -lo)/2)) st))->W C (f x (none,lo,hi)) P st)->
   (∀lo hi,W C (pure (some hi)) Q st->W C (g (none,lo,hi)) Q st)->W C (forIn [0:n] (none,lo,hi) f>>=g) Q st:=by
  intro lo hi h1 h2 h3 h4 f g hf hg;refine W.bind (W.mono (W.for (I:=λx c s'=>s'=st/\∃lo hi,c=(none,lo,hi)/\lo<=hi/\hi<=n/\hi -lo<=n -x/\(∀i,i<lo->B (base+i)=true)/\(∀i,hi<=i->i<n->B (base+i)=false))
   (Q:=λc s'=>s'=st/\∃hi,c=(none,hi,hi)/\hi<=n/\(∀i,i<hi->B (base+i)=true)/\(∀i,hi<=i->i<n->B (base+i)=false)) ?_ ?_ {rfl,lo,hi,rfl,h1,h2,by lia,h3,h4}) ?_)
  ·rintro x c s' _ hx ⟨rfl,lo,hi,rfl,a1,a2,a3,a4,a5⟩;exact hf x lo hi _ a1 a2 (λq=>{rfl,hi,by rw[show lo=hi by lia],a2,λi q=>a4 i ∅,a5}) λq=>{λe=>{rfl,_,_,rfl,by lia,a2,by lia,λi q=>mono i _ ∅ ∅ e,a5},λe=>{rfl,_,_,rfl,by lia,by lia,by lia,a4,λi q z=>nm _ i q z e}}
  ·rintro c s' ⟨rfl,lo,hi,rfl,a1,a2,a3,a4,a5⟩;have:lo=hi:=by lia
   subst this;exact⟨rfl,_,rfl,a2,a4,a5⟩
  ·rintro c s' ⟨rfl,hi,rfl,a2,a4,a5⟩;exact hg _ _ (W.pure (h hi a2 a4 a5))
 cases e0:B (base+hint)with
 |true=>
  refine W.bind (W.mono (W.for (I:=λx c s'=>s'=st/\∃l o,c=(none,l,o)/\l<o/\x<=l/\hint+l<n/\B (base+(hint+l))=true)
   (Q:=λc s'=>s'=st/\∃l o,c=(none,l,o)/\l<o/\hint+l<n/\B (base+(hint+l))=true/\(n -hint<=o\/B (base+(hint+o))=false)) ?_ ?_ {rfl,0,1,rfl,by lia,by lia,by lia,e0}) ?_)
  ·rintro x c s' _ hx ⟨rfl,l,o,rfl,a1,a2,a3,a4⟩;by_cases c:o≥n -hint
   ·dsimp only;rw[aC c];exact W.pure {rfl,l,o,rfl,a1,a3,a4,.inl c}
   ·dsimp only;rw[az c];refine W.bind (bb ∅ ?_);cases e1:B (base+(hint+o))with
    |true=>exact W.pure {rfl,o,2*o+1,rfl,by lia,by lia,by lia,e1}
    |false=>exact W.pure {rfl,l,o,rfl,a1,a3,a4,.inr e1}
  ·rintro c s' ⟨rfl,l,o,rfl,a1,a2,a3,a4⟩;lia
  ·rintro c s' ⟨rfl,l,o,rfl,a1,a3,a4,a5⟩;refine fin (lo:=hint+l+1) (hi:=hint+min o (n -hint)) ∅ ∅ (λi q=>mono i _ ∅ a3 a4) (λi q z=>?_) (λx lo hi P a1 a2 p1 p2=>?_) λlo hi x=>x
   ·rcases a5 with a5|a5
    ·lia
    ·exact nm _ i ∅ z a5
   ·by_cases c:lo≥hi
    ·dsimp only;rw[aC c];exact W.pure (p1 c)
    ·dsimp only;rw[az c];refine W.bind (bb ∅ ?_);cases e1:B (base+(lo+(hi -lo)/2))with
     |true=>exact W.pure ((p2 ∅).1 e1)
     |false=>exact W.pure ((p2 ∅).2 e1)
 |false=>
  refine W.bind (W.mono (W.for (I:=λx c s'=>s'=st/\∃l o,c=(none,l,o)/\l<o/\x<=l/\l<=hint/\B (base+(hint -l))=false)
   (Q:=λc s'=>s'=st/\∃l o,c=(none,l,o)/\l<o/\l<=hint/\B (base+(hint -l))=false/\(hint+1<=o\/B (base+(hint -o))=true)) ?_ ?_ {rfl,0,1,rfl,by lia,by lia,by lia,e0}) ?_)
  ·rintro x c s' _ hx ⟨rfl,l,o,rfl,a1,a2,a3,a4⟩;by_cases c:o≥hint+1
   ·dsimp only;rw[aC c];exact W.pure {rfl,l,o,rfl,a1,a3,a4,.inl c}
   ·dsimp only;rw[az c];refine W.bind (bb ∅ ?_);cases e1:B (base+(hint -o))with
    |true=>exact W.pure {rfl,l,o,rfl,a1,a3,a4,.inr e1}
    |false=>exact W.pure {rfl,o,2*o+1,rfl,by lia,by lia,by lia,e1}
  ·rintro c s' ⟨rfl,l,o,rfl,a1,a2,a3,a4⟩;lia
  ·rintro c s' ⟨rfl,l,o,rfl,a1,a3,a4,a5⟩;refine fin (lo:=hint+1 -min o (hint+1)) (hi:=hint -l) ∅ ∅ (λi q=>?_) (λi q z=>nm _ i ∅ z a4) (λx lo hi P a1 a2 p1 p2=>?_) λlo hi x=>x
   ·rcases a5 with a5|a5
    ·lia
    ·exact mono i _ ∅ ∅ a5
   ·by_cases c:lo≥hi
    ·dsimp only;rw[aC c];exact W.pure (p1 c)
    ·dsimp only;rw[az c];refine W.bind (bb ∅ ?_);cases e1:B (base+(lo+(hi -lo)/2))with
     |true=>exact W.pure ((p2 ∅).1 e1)
     |false=>exact W.pure ((p2 ∅).2 e1)
section
variable{α:Type}{r:α->α->Prop}{la lb out:List α}{ia ib:Nat}
structure Mg(r:α->α->Prop)(la lb out:List α)(ia ib:Nat):Prop where
 pm:out.Perm (la.take ia++lb.take ib)
 so:out.Pairwise r
 ga:∀x∈out,∀y∈la.drop ia,r x y
 gb:∀x∈out,∀y∈lb.drop ib,r x y
def Mg.swap(h:Mg r la lb out ia ib):Mg r lb la out ib ia:={h.pm.trans ju,h.so,h.gb,h.ga}
def Mg.go(h:Mg r la lb out ia ib)(hs:la.Pairwise r)(k:Nat)(c:∀x∈(la.drop ia).take k,∀y∈lb.drop ib,r x y):Mg r la lb (out++(la.drop ia).take k) (ia+k) ib:=by
 have e:=c7 k (la.drop ia);have s2:=hs.sublist (uo ia la);rw[<-e]at s2;obtain⟨s3,s4,s5⟩:=jL.mp s2;rw[List.drop_drop]at s5;have m:∀y∈(la.drop ia).take k,y∈la.drop ia:=λy hy=>gx hy;have m2:∀y∈la.drop (ia+k),y∈la.drop ia:=λy hy=>by rw[<-List.drop_drop]at hy;exact zr hy
 refine{?_,jL.mpr {h.so,s3,λx hx y hy=>h.ga x hx y (m y hy)},λx hx y hy=>?_,λx hx y hy=>?_}
 ·rw[List.take_add];refine(h.pm.append_right _).trans ?_;rw[cR,cR];exact qo _ ju
 ·rcases bg.mp hx with hx|hx
  ·exact h.ga x hx y (m2 y hy)
  ·exact s5 x hx y hy
 ·rcases bg.mp hx with hx|hx
  ·exact h.gb x hx y hy
  ·exact c x hx y hy
def Mg.end(h:Mg r la lb out ia ib)(ha:la.Pairwise r)(hb:lb.Pairwise r)(c:∀x∈la.drop ia,∀y∈lb.drop ib,r x y):(out++la.drop ia++lb.drop ib).Perm (la++lb)/\(out++la.drop ia++lb.drop ib).Pairwise r:=by
 constructor
 ·rw[cR];refine(h.pm.append_right _).trans ?_
  conv=>rhs;rw[<-c7 ia la,<-c7 ib lb]
  rw[cR,cR];refine qo _ ?_;rw[<-cR,<-cR];exact xr _ ju
 ·refine jL.mpr {jL.mpr {h.so,ha.sublist (uo _ _),h.ga},hb.sublist (uo _ _),λx hx y hy=>?_};rcases bg.mp hx with hx|hx
  ·exact h.gb x hx y hy
  ·exact c x hx y hy
end
variable{C:Ct}
def Res(C:Ct)(a b m:Array Keyed):Prop:=m.toList.Perm (a.toList++b.toList)/\m.toList.Pairwise λx y=>C.rk x<=C.rk y
abbrev So(C:Ct)(a:Array Keyed):Prop:=a.toList.Pairwise λx y=>C.rk x<=C.rk y
abbrev Rk(C:Ct)(x y:Keyed):Prop:=C.rk x<=C.rk y
def So.at(h:So C a)(hj:j<a.size)(q:i<=j):C.rk (a[i]'∅)<=C.rk a[j]:=by
 rcases Nat.lt_or_ge i j with z|z
 ·exact fS.mp h i j (by simpa using(by lia:i<a.size)) (by simpa using hj) z
 ·have:i=j:=by lia
  subst this;exact ar _
def AY{a:Array Keyed}(h:x∈a.toList.drop n):∃i,∃q:i<a.size,n<=i/\x=a[i]:=by obtain⟨i,hi,e⟩:=fq.mp h;rw[g6,aS]at hi;exact{n+i,by lia,by lia,by rw[<-e];simp}
def QD{a:Array Keyed}(h:x∈(a.toList.drop n).take k):∃i,∃q:i<a.size,n<=i/\i<n+k/\x=a[i]:=by obtain⟨i,hi,e⟩:=fq.mp h;rw[aT,g6,aS]at hi;exact{n+i,by lia,by lia,by lia,by rw[<-e];simp}
section
variable{a b:Array Keyed}{out:List Keyed}{ia ib:Nat}
def Mg.on(m:Mg (Rk C) a.toList b.toList out ia ib)(sa:So C a)(k v:Nat)(hx:∀i,ia<=i->i<ia+k->(q:i<a.size)->C.rk a[i]<=v)(hy:∀j,ib<=j->(q:j<b.size)->v<=C.rk b[j]):Mg (Rk C) a.toList b.toList (out++(a.toList.drop ia).take k) (ia+k) ib:=
 m.go sa k λx xW y MP=>by obtain⟨i,q,h1,h2,rfl⟩:=QD xW;obtain⟨j,z,h3,rfl⟩:=AY MP;exact aD (hx i h1 h2 q) (hy j h3 z)
def Qp(h:ia<a.size):(a.toList.drop ia).take 1=[a[ia]]:=by rw[eP (by simpa using h)];simp
structure MI(C:Ct)(a b out:Array Keyed)(ia ib:Nat):Prop where
 mg:Mg (Rk C) a.toList b.toList out.toList ia ib
 la:ia+1<a.size
 lb:ib<b.size
end
section
variable{a b out:Array Keyed}{ia ib:Nat}
def NY(m:Mg (Rk C) a.toList b.toList out.toList ia ib)(sa:So C a)(sb:So C b)(q:ia<a.size)(c:∀z:ib<b.size,C.rk a[ia]<=C.rk b[ib]):Mg (Rk C) a.toList b.toList (out.push a[ia]).toList (ia+1) ib:=by have:=m.on sa 1 (C.rk a[ia]) (λi h1 h2 z=>sa.at q ∅) λj h1 z=>aD (c ∅) (sb.at z h1);rw[Qp q]at this;simpa using this
def NW(m:Mg (Rk C) a.toList b.toList out.toList ia ib)(sa:So C a)(sb:So C b)(q:ib<b.size)(c:∀z:ia<a.size,C.rk b[ib]<=C.rk a[ia]):Mg (Rk C) a.toList b.toList (out.push b[ib]).toList ia (ib+1):=(NY m.swap sb sa q c).swap
def WQ:(out++a.extract n (n+k)).toList=out.toList++(a.toList.drop n).take k:=by simp[List.extract_eq_drop_take]
def Fn(m:Mg (Rk C) a.toList b.toList out.toList ia ib)(sa:So C a)(sb:So C b)(c:ib=b.size\/ia=a.size):Res C a b (out++a.extract ia a.size++b.extract ib b.size):=by
 have:=m.end sa sb λx hx y hy=>by obtain⟨i,q,h1,rfl⟩:=AY hx;obtain⟨j,z,h2,rfl⟩:=AY hy;lia
 unfold Res;simpa[List.extract_eq_drop_take,dU]using this
def HU(m:Mg (Rk C) a.toList b.toList out.toList ia ib)(sa:So C a)(sb:So C b)(c:ia+1=a.size)(hl:∀y∈b,C.rk y<C.rk (a[a.size -1]'∅)):Res C a b (out++b.extract ib b.size++a.extract ia a.size):=by
 have:=m.swap.end sb sa λx hx y hy=>by
  obtain⟨i,q,h1,rfl⟩:=AY hx;obtain⟨j,z,h2,rfl⟩:=AY hy;have:=hl _ (c6 q);have e:j=a.size -1:=by lia
  subst e;lia
 unfold Res;refine{?_,?_}
 ·refine List.Perm.trans ?_ ju;simpa[List.extract_eq_drop_take,dU]using this.1
 ·simpa[List.extract_eq_drop_take,dU]using this.2
def Fe(q:i<arr.size):gB C left key arr i=FA C left key arr[i]:=by unfold gB;rw[getElem?_pos arr i q];rfl
def Nd(sg:∀i j,base<=i->(z:i<=j)->j<base+n->(q:j<arr.size)->C.rk (arr[i]'∅)<=C.rk arr[j])(hb:base+n<=arr.size):∀i j,i<=j->j<n->gB C left key arr (base+j)=true->gB C left key arr (base+i)=true:=λi j h1 h2 e=>by
 rw[Fe ∅]at e⊢;have:=sg (base+i) (base+j) ∅ ∅ ∅ ∅;unfold FA at e⊢;cases left
 ·simp at e⊢;lia
 ·simp at e⊢;lia
def LL{st:SortSt}(hk:kindOf st=C.κ)(lF:C.In key)(gL:∀x∈arr,C.In x)(sg:∀i j,base<=i->(z:i<=j)->j<base+n->(q:j<arr.size)->C.rk (arr[i]'∅)<=C.rk arr[j])(hb:base+n<=arr.size)(hh:hint<n)
  (h:∀k,k<=n->(∀i,base<=i->i<base+k->(q:i<arr.size)->C.rk arr[i]<=C.rk key)->(∀i,base+k<=i->i<base+n->(q:i<arr.size)->C.rk key<C.rk arr[i])->Q (some k) st):W C (uS false key arr base n hint) Q st:=
 HY hk lF gL hb hh (Nd sg hb) λk hk a1 a2=>h k hk (λi q1 q2 q=>by
  have:=a1 (i -base) ∅;rw[show base+(i -base)=i by lia,Fe q]at this;unfold FA at this;simpa using this) λi q1 q2 q=>by
  have:=a2 (i -base) ∅ ∅;rw[show base+(i -base)=i by lia,Fe q]at this;unfold FA at this;simpa using this
def w_left{st:SortSt}(hk:kindOf st=C.κ)(lF:C.In key)(gL:∀x∈arr,C.In x)(sg:∀i j,base<=i->(z:i<=j)->j<base+n->(q:j<arr.size)->C.rk (arr[i]'∅)<=C.rk arr[j])(hb:base+n<=arr.size)(hh:hint<n)
  (h:∀k,k<=n->(∀i,base<=i->i<base+k->(q:i<arr.size)->C.rk arr[i]<C.rk key)->(∀i,base+k<=i->i<base+n->(q:i<arr.size)->C.rk key<=C.rk arr[i])->Q (some k) st):W C (uS true key arr base n hint) Q st:=
 HY hk lF gL hb hh (Nd sg hb) λk hk a1 a2=>h k hk (λi q1 q2 q=>by
  have:=a1 (i -base) ∅;rw[show base+(i -base)=i by lia,Fe q]at this;unfold FA at this;simpa using this) λi q1 q2 q=>by
  have:=a2 (i -base) ∅ ∅;rw[show base+(i -base)=i by lia,Fe q]at this;unfold FA at this;simpa using this
end
variable{C:Ct}
abbrev GS(st:SortSt)(g:Nat):SortSt:=SortSt.mk' (kindOf st) (-11) (pendingOf st) g (failedOf st)
def W.ite[Decidable c]{x y:StateT SortSt Sem α}{Q:α->SortSt->Prop}{st:SortSt}(h1:c->W C x Q st)(h2:¬c->W C y Q st):W C (if c then x else y) Q st:=by
 by_cases h:c
 ·rw[aC h];exact h1 h
 ·rw[az h];exact h2 h
section
variable{α β:Type}{Q:α->SortSt->Prop}{st:SortSt}
def W.bE{a:Array Keyed}{i:Nat}{f:Keyed->StateT SortSt Sem α}(hi:i<a.size)(h:W C (f a[i]) Q st):W C (elem' a i>>=f) Q st:=W.bind (W.elem hi h)
def W.bLt{x y:Keyed}{f:Option Bool->StateT SortSt Sem α}(hk:kindOf st=C.κ)(hx:C.In x)(hy:C.In y)(h1:C.rk x<C.rk y->W C (f (some true)) Q st)(h2:¬C.rk x<C.rk y->W C (f (some false)) Q st):W C (lt' x y>>=f) Q st:=W.bind (W.lt hk hx hy (by
 by_cases e:C.rk x<C.rk y
 ·rw[aZ e];exact h1 e
 ·rw[bI e];exact h2 e))
def W.W0{r:String}{f:PUnit->StateT SortSt Sem α}(h:W C (f ⟨⟩) Q st):W C ((liftM (PySem.rule r:Sem PUnit):StateT SortSt Sem PUnit)>>=f) Q st:=W.bind (W.rl h)
def W.bM{g:SortSt->SortSt}{f:PUnit->StateT SortSt Sem α}(h:W C (f ⟨⟩) Q (g st)):W C ((_root_.modify g:StateT SortSt Sem PUnit)>>=f) Q st:=W.bind (W.modify h)
def W.bG{f:SortSt->StateT SortSt Sem α}(h:W C (f st) Q st):W C ((MonadState.get:StateT SortSt Sem SortSt)>>=f) Q st:=W.bind (W.get h)
def W.loop{T:Type}{a b:Array Keyed}{lo hi g:Nat}(mc:Option (Array Keyed)->Array Keyed->Nat->Nat->T->β){f:Nat->β->StateT SortSt Sem (ForInStep β)}{k:β->StateT SortSt Sem α}(P:Nat->Array Keyed->Nat->Nat->Prop)(B:Array Keyed->Nat->Nat->Prop){o:Array Keyed}{ia ib:Nat}{t:T}(h0:P lo o ia ib)
  (he:∀o ia ib,P (max lo hi) o ia ib->False)
  (hs:∀i g o ia ib t(E:ForInStep β->SortSt->Prop),P i o ia ib->(∀m g o ia ib t,Res C a b m->E (.done (mc (some m) o ia ib t)) (GS st g))->(∀g o ia ib t,B o ia ib->E (.done (mc none o ia ib t)) (GS st g))->(∀g o ia ib t,P (i+1) o ia ib->E (.yield (mc none o ia ib t)) (GS st g))->W C (f i (mc none o ia ib t)) E (GS st g))
  (k1:∀m g o ia ib t,Res C a b m->W C (k (mc (some m) o ia ib t)) Q (GS st g)) (k2:∀g o ia ib t,B o ia ib->W C (k (mc none o ia ib t)) Q (GS st g)):W C (forIn [lo:hi] (mc none o ia ib t) f>>=k) Q (GS st g):=by
 refine W.bind (W.mono (W.for (I:=λi c s'=>∃g o ia ib t,s'=GS st g/\c=mc none o ia ib t/\P i o ia ib) (Q:=λc s'=>W C (k c) Q s') ?_ ?_ ⟨_,_,_,_,_,rfl,rfl,h0⟩) λ_ _ h=>h)
 ·rintro i c s' _ _ ⟨g,o,ia,ib,t,rfl,rfl,h⟩;exact hs i g o ia ib t _ h k1 k2 λg o ia ib t h=>⟨g,o,ia,ib,t,rfl,rfl,h⟩
 ·rintro c s' ⟨g,o,ia,ib,t,rfl,rfl,h⟩;exact(he _ _ _ h).elim
def W.bR{key:Keyed}{arr:Array Keyed}{base n hint:Nat}{f:Option Nat->StateT SortSt Sem α}(hk:kindOf st=C.κ)(lF:C.In key)(gL:∀x∈arr,C.In x)(sg:So C arr)(hb:base+n<=arr.size)(hh:hint<n)
  (h:∀k,k<=n->(∀i,base<=i->i<base+k->(q:i<arr.size)->C.rk arr[i]<=C.rk key)->(∀i,base+k<=i->i<base+n->(q:i<arr.size)->C.rk key<C.rk arr[i])->W C (f (some k)) Q st):W C (uS false key arr base n hint>>=f) Q st:=W.bind (LL hk lF gL (λ_ _ _ z _ q=>sg.at q z) hb hh h)
def W.bL{key:Keyed}{arr:Array Keyed}{base n hint:Nat}{f:Option Nat->StateT SortSt Sem α}(hk:kindOf st=C.κ)(lF:C.In key)(gL:∀x∈arr,C.In x)(sg:So C arr)(hb:base+n<=arr.size)(hh:hint<n)
  (h:∀k,k<=n->(∀i,base<=i->i<base+k->(q:i<arr.size)->C.rk arr[i]<C.rk key)->(∀i,base+k<=i->i<base+n->(q:i<arr.size)->C.rk key<=C.rk arr[i])->W C (f (some k)) Q st):W C (uS true key arr base n hint>>=f) Q st:=W.bind (w_left hk lF gL (λ_ _ _ z _ q=>sg.at q z) hb hh h)
def O8{T p:Nat->Array Keyed->Prop}{G:Prop}(k:(∀j o,p j o->T j o)->G)(h:∀j o,p j o->T j o):G:=k h
def both{T:Nat->Prop}{G:Prop}(k:(∀z,T z)->G)(h:∀z,T z):G:=k h
end
def Po{st:SortSt}(hk:kindOf st=C.κ)(ha:∀x∈a,C.In x)(hb:∀x∈b,C.In x)(sa:So C a)(sb:So C b)(a1:0<a.size)(b1:0<b.size)(h0:C.rk b[0]<C.rk a[0])(hl:∀y∈b,C.rk y<C.rk a[a.size -1])
  (h:∀m g,Res C a b m->Q m (GS st g)):W C (JO a b) Q st:=by
 have sw:st=GS st (gallopOf st):=rfl;have Q4:∀{i:Nat}(q:i<a.size),C.In a[i]:=λq=>ha _ (c6 q);have Q3:∀{i:Nat}(q:i<b.size),C.In b[i]:=λq=>hb _ (c6 q);unfold JO;refine(W.W0 ((W.bE b1 ?_)));have m0:Mg (Rk C) a.toList b.toList (#[b[0]]:Array Keyed).toList 0 1:=by have:Mg (Rk C) a.toList b.toList (#[]:Array Keyed).toList 0 0:={by simp,.nil,(λx hx=>by cases hx),(λx hx=>by cases hx)};have:=NW this sa sb b1 λz=>bu h0;simpa using this
 refine W.ite (λc=>W.pure (by rw[sw];exact h _ _ (Fn m0 sa sb (.inl (by simpa using c))))) λc1=>?_;refine W.ite (λc=>W.pure (by rw[sw];exact h _ _ (HU m0 sa sb (by simpa using c) hl))) λc2=>?_;have l1:0+1<a.size:=by simp at c2;lia
 have l2:1<b.size:=by simp at c1;lia
 refine W.bG (W.loop (T:=Nat) (a:=a) (b:=b) (g:=gallopOf st) (λr o i j t=>(r,o,i,j,t)) (λi o ia ib=>MI C a b o ia ib/\i+1<=ia+ib) (λ_ _ _=>False) {⟨m0,l1,l2⟩,ar 1} ?_ ?_ ?_ λ_ _ _ _ _ h=>h.elim)
 ·rintro o ia ib ⟨⟨_,h1,h2⟩,h3⟩;lia
 ·intro i g o ia ib mg E hM dn _ yd;obtain⟨M,n1⟩:=hM;refine W.loop (T:=Nat×Nat) (a:=a) (b:=b) (λr o i j t=>(r,o,i,j,t)) (λx o i j=>MI C a b o i j/\ia+ib+x<=i+j) (λo i j=>MI C a b o i j/\ia+ib+1<=i+j) {M,ar _} ?_ ?_ (λm g o i j t R=>W.pure (dn _ _ _ _ _ _ R)) ?_
  ·rintro o ia ib ⟨⟨_,h1,h2⟩,h3⟩;lia
  ·intro x g o ja jb t E hM dn dN yd;obtain⟨M,n2⟩:=hM;have l1:=M.la;have l2:=M.lb;refine W.bE l2 (W.bE (oX l1) (W.bLt hk (Q3 l2) (Q4 (oX l1)) (λe=>?_) λe=>?_))
   ·have m':=NW M.mg sa sb l2 λz=>bu e;exact W.bE l2 (W.ite (λc=>W.pure (dn _ _ _ _ _ _ (Fn m' sa sb (.inl (by simpa using c))))) λc=>by
     have l3:jb+1<b.size:=by simp at c;lia
     exact W.ite (λ_=>W.pure (dN _ _ ja (jb+1) _ {⟨m',l1,l3⟩,by lia})) λ_=>W.pure (yd _ _ ja (jb+1) _ {⟨m',l1,l3⟩,by lia}))
   ·have m':=NY M.mg sa sb ∅ λz=>jZ e;exact W.bE (oX l1) (W.ite (λc=>W.pure (dn _ _ _ _ _ _ (HU m' sa sb (by simpa using c) hl))) λc=>by
     have l3:ja+1+1<a.size:=by simp at c;lia
     exact W.ite (λ_=>W.pure (dN _ _ (ja+1) jb _ {⟨m',l3,l2⟩,by lia})) λ_=>W.pure (yd _ _ (ja+1) jb _ {⟨m',l3,l2⟩,by lia}))
  intro g o ja jb t hM;obtain⟨M',n2⟩:=hM;refine W.W0 (W.loop (T:=Nat×Nat×Nat) (a:=a) (b:=b) (λr o i j t=>(r,o,i,j,t)) (λx o i j=>MI C a b o i j/\ia+ib+1+x<=i+j) (λo i j=>MI C a b o i j/\ia+ib+1<=i+j) ⟨M',n2⟩ ?_ ?_ (λm g o i j t R=>W.pure (dn _ _ _ _ _ _ R)) λg o i j t h=>W.bM (W.pure (yd _ _ i j _ {h.1,by have:=h.2;lia})))
  ·rintro o ia ib ⟨⟨_,h1,h2⟩,h3⟩;lia
  ·intro x g out ia ib t E hM dn dN yd;obtain⟨mg,ac,bc⟩:=t;obtain⟨M,n3⟩:=hM;have l1:=M.la;have l2:=M.lb;dsimp only;generalize mg -1=m1;revert m1 mg;refine both (λkey mg m1=>W.ite (λ_=>key m1) λ_=>key mg) λmg=>?_;refine W.bM (W.bE l2 (W.bR hk (Q3 l2) ha sa ∅ ∅ λk q1 q2 q3=>?_));have M2:Mg (Rk C) a.toList b.toList (out++a.extract ia (ia+k)).toList (ia+k) ib:=by rw[WQ];exact M.mg.on sa k _ q2 λj h1 z=>sb.at z h1
   have q3:∀z:ia+k<a.size,C.rk b[ib]<=C.rk a[ia+k]:=λz=>bu (q3 _ (ar _) ∅ z);dsimp only;generalize hja:ia+k=ja at M2 q3⊢;generalize out++a.extract ia ja=ou at M2⊢;clear q2;revert ja ou;refine O8 (p:=λja ou=>Mg (Rk C) a.toList b.toList ou.toList ja ib/\(∀z:ja<a.size,C.rk b[ib]<=C.rk a[ja])/\ja+1<a.size/\ia<=ja) (λR ja hja q3 ou M2=>W.ite (λc=>W.ite (λd=>W.pure (dn _ _ _ _ _ _ (HU M2 sa sb (by simpa using d) hl))) λd=>W.ite (λd2=>W.pure (dn _ _ _ _ _ _ (Fn M2 sa sb (.inr (by simpa using d2))))) λd2=>R ja ou {M2,q3,(by simp at d d2;lia),∅}) λc=>R ia out {M.mg,(by obtain rfl:ia=ja:=∅;exact q3),l1,ar _}) λja ou hp=>?_;obtain⟨M2,q3,l1,le⟩:=hp;have m3:=NW M2 sa sb l2 q3;refine W.bE l2 (W.ite (λd=>W.pure (dn _ _ _ _ _ _ (Fn m3 sa sb (.inl (by simpa using d))))) λd=>?_);have l3:ib+1<b.size:=by simp at d;lia
   have la:=oX l1;refine W.bE la (W.bL hk (Q4 la) hb sb ∅ ∅ λk2 p1 p2 p3=>?_);have M4:=(m3.swap.on sb k2 _ (λi h1 h2 z=>bu (p2 i h1 h2 z)) λj h1 z=>sa.at z h1).swap;rw[<-WQ]at M4;have p3:∀z:ib+1+k2<b.size,C.rk a[ja]<=C.rk b[ib+1+k2]:=λz=>p3 _ (ar _) ∅ z;dsimp only;generalize hjb:ib+1+k2=jb at M4 p3⊢;generalize ou.push b[ib]++b.extract (ib+1) jb=ov at M4⊢;clear p2;revert jb ov;refine O8 (p:=λjb ov=>Mg (Rk C) a.toList b.toList ov.toList ja jb/\(∀z:jb<b.size,C.rk a[ja]<=C.rk b[jb])/\jb<b.size/\ib<jb) (λR jb hjb p3 ov M4=>W.ite (λc=>W.ite (λd=>W.pure (dn _ _ _ _ _ _ (Fn M4 sa sb (.inl (by simpa using d))))) λd=>R jb ov {M4,p3,(by simp at d;lia),∅}) λc=>R (ib+1) (ou.push b[ib]) {m3,(by obtain rfl:ib+1=jb:=∅;exact p3),l3,dC _}) λjb ov hp=>?_;obtain⟨M4,p3,l4,lb⟩:=hp;have m5:=NY (ia:=ja) M4 sa sb la p3;exact W.bE la (W.ite (λd=>W.pure (dn _ _ _ _ _ _ (HU m5 sa sb (by simpa using d) hl))) λd=>by
    have l6:ja+1+1<a.size:=by simp at d;lia
    exact W.ite (λ_=>W.pure (dN _ _ _ _ _ {⟨m5,l6,l4⟩,by lia})) λ_=>W.pure (yd _ _ _ _ _ {⟨m5,l6,l4⟩,by lia}))
 ·intro m g o ia ib t R;exact W.pure (h _ _ R)
variable{C:Ct}
abbrev Rg(C:Ct)(x y:Keyed):Prop:=C.rk y<=C.rk x
abbrev MH(C:Ct)(a b out:Array Keyed)(na nb:Nat):Prop:=Mg (Rg C) a.toList.reverse b.toList.reverse out.toList (a.size -na) (b.size -nb)
def rS{a:Array Keyed}(h:n<=a.size):a.toList.reverse.drop (a.size -n)=(a.toList.take n).reverse:=by rw[List.drop_reverse,aS,show a.size -(a.size -n)=n by lia]
def JQ{a:Array Keyed}(h:x∈a.toList.take n):∃i,∃q:i<a.size,i<n/\x=a[i]:=by obtain⟨i,hi,e⟩:=fq.mp h;rw[aT,aS]at hi;exact{i,by lia,by lia,by rw[<-e];simp}
section
variable{a b out:Array Keyed}{na nb:Nat}
def MH.on(m:MH C a b out na nb)(sa:So C a)(ha:na<=a.size)(hb:nb<=b.size)(at_ v:Nat)(q:at_<=na)(hx:∀i,at_<=i->i<na->(q:i<a.size)->v<=C.rk a[i])(hy:∀j,j<nb->(q:j<b.size)->C.rk b[j]<=v):MH C a b (out++(a.extract at_ na).reverse) at_ nb:=by
 have e:(a.toList.reverse.drop (a.size -na)).take (na -at_)=((a.extract at_ na).reverse).toList:=by rw[rS ha,List.take_reverse];simp[List.extract_eq_drop_take,aT,List.drop_take,gM ha];rw[show na -(na -at_)=at_ by lia]
 have:=m.go (lK.mpr sa) (na -at_) λx xW y MP=>by rw[e]at xW;rw[rS hb]at MP;simp only[zD,j4,rf,List.extract_eq_drop_take]at xW;obtain⟨i,q1,h1,h2,rfl⟩:=QD xW;obtain⟨j,z,h3,rfl⟩:=JQ (j4.mp MP);exact aD (hy j h3 z) (hx i h1 ∅ q1)
 rw[e,show a.size -na+(na -at_)=a.size -at_ by lia,<-rE]at this;exact this
def MH.sw(m:MH C a b out na nb):MH C b a out nb na:=m.swap
def MH.put(m:MH C a b out na nb)(sa:So C a)(sb:So C b)(ha:na<=a.size)(hb:nb<=b.size)(q:0<na)(c:∀z:0<nb,C.rk (b[nb -1]'∅)<=C.rk (a[na -1]'∅)):MH C a b (out.push (a[na -1]'∅)) (na -1) nb:=by
 have:=m.on sa ha hb (na -1) (C.rk (a[na -1]'∅)) ∅ (λi h1 h2 z=>by
  have e:i=na -1:=by lia
  subst e;exact ar _) λj h1 z=>aD (sb.at ∅ ∅) (c ∅)
 have e:out++(a.extract (na -1) na).reverse=out.push (a[na -1]'∅):=by apply Array.ext';rw[rE,zD,lq,rf,List.extract_eq_drop_take,show na -(na -1)=1 by lia,Qp ∅];rfl
 rw[e]at this;exact this
def MH.fin(m:MH C a b out na nb)(sa:So C a)(sb:So C b)(ha:na<=a.size)(hb:nb<=b.size)(c:∀i j,i<na->j<nb->(q:i<a.size)->(z:j<b.size)->C.rk b[j]<=C.rk a[i]):Res C a b (b.extract 0 nb++a.extract 0 na++out.reverse):=by
 have:=m.end (lK.mpr sa) (lK.mpr sb) λx hx y hy=>by rw[rS ha]at hx;rw[rS hb]at hy;obtain⟨i,q,h1,rfl⟩:=JQ (j4.mp hx);obtain⟨j,z,h2,rfl⟩:=JQ (j4.mp hy);exact c i j h1 h2 q z
 rw[rS ha,rS hb]at this;have e:(b.extract 0 nb++a.extract 0 na++out.reverse).toList=(out.toList++(a.toList.take na).reverse++(b.toList.take nb).reverse).reverse:=by simp[List.extract_eq_drop_take]
 unfold Res;rw[e];refine{(uj _).trans (this.1.trans ((uj _).append (uj _))),?_};rw[lK];exact this.2
def MH.end(m:MH C a b out na nb)(sa:So C a)(sb:So C b)(ha:na<=a.size)(hb:nb<=b.size)(c:na=0\/nb=0):Res C a b (a.extract 0 na++b.extract 0 nb++out.reverse):=by
 have:=m.sw.fin sb sa hb ha λi j h1 h2=>by lia
 exact{this.1.trans ju,this.2}
end
structure MJ(C:Ct)(a b out:Array Keyed)(na nb:Nat):Prop where
 mg:MH C a b out na nb
 la:0<na/\na<=a.size
 lb:1<nb/\nb<=b.size
def Pp{st:SortSt}(hk:kindOf st=C.κ)(ha:∀x∈a,C.In x)(hb:∀x∈b,C.In x)(sa:So C a)(sb:So C b)(a1:0<a.size)(b1:0<b.size)(h0:C.rk b[0]<C.rk a[0])(hl:∀y∈b,C.rk y<C.rk a[a.size -1])
  (h:∀m g,Res C a b m->Q m (GS st g)):W C (JP a b) Q st:=by
 have sw:st=GS st (gallopOf st):=rfl;have Q4:∀{i:Nat}(q:i<a.size),C.In a[i]:=λq=>ha _ (c6 q);have Q3:∀{i:Nat}(q:i<b.size),C.In b[i]:=λq=>hb _ (c6 q);have b0:∀i j,j<1->(q:i<a.size)->(z:j<b.size)->C.rk b[j]<=C.rk a[i]:=λi j h1 q z=>by
  have e:j=0:=by lia
  subst e;exact aD (bu h0) (sa.at q (aP _))
 unfold JP;refine W.W0 (W.bE (i:=a.size -1) ∅ ?_);have m0:MH C a b (#[a[a.size -1]]:Array Keyed) (a.size -1) b.size:=by have:MH C a b (#[]:Array Keyed) a.size b.size:={by simp,.nil,(λx hx=>by cases hx),(λx hx=>by cases hx)};exact this.put sa sb (ar _) (ar _) a1 λz=>bu (hl _ (c6 _))
 refine W.ite (λc1=>W.pure (by rw[sw];exact h _ _ (m0.end sa sb ∅ (ar _) (.inl (by simpa using c1))))) λc1=>?_;refine W.ite (λc2=>W.pure (by rw[sw];exact h _ _ (m0.fin sa sb ∅ (ar _) λi j h1 h2=>b0 i j (by simp at c2;lia)))) λc2=>?_;have l1:0<a.size -1:=by simp at c1;lia
 have l2:1<b.size:=by simp at c2;lia
 refine W.bG (W.loop (T:=Nat) (a:=a) (b:=b) (g:=gallopOf st) (λr o i j t=>(r,i,j,o,t)) (λi o na nb=>MJ C a b o na nb/\na+nb+i+1<=a.size+b.size) (λ_ _ _=>False) {{m0,{l1,by lia},{l2,ar _}},by lia} ?_ ?_ ?_ λ_ _ _ _ _ h=>h.elim)
 ·rintro o na nb ⟨⟨_,h1,h2⟩,h3⟩;lia
 ·intro i g o na nb mg E hM dn _ yd;obtain⟨M,n1⟩:=hM;have lm:=M.la;have lm':=M.lb;refine W.loop (T:=Nat×Nat) (a:=a) (b:=b) (λr o i j t=>(r,i,j,o,t)) (λx o i j=>MJ C a b o i j/\i+j+x<=na+nb) (λo i j=>MJ C a b o i j/\i+j+1<=na+nb) {M,ar _} ?_ ?_ (λm g o i j t R=>W.pure (dn _ _ _ _ _ _ R)) ?_
  ·rintro o ia ib ⟨⟨_,h1,h2⟩,h3⟩;lia
  ·intro x g o ja jb t E hM dn dN yd;obtain⟨M,n2⟩:=hM;have l1:=M.la;have l2:=M.lb;have la:ja -1<a.size:=by lia
   have lb:jb -1<b.size:=by lia
   refine W.bE lb (W.bE la (W.bLt hk (Q3 lb) (Q4 la) (λe=>?_) λe=>?_))
   ·have m':=M.mg.put sa sb l1.2 l2.2 l1.1 λz=>bu e;exact W.bE la (W.ite (λd=>W.pure (dn _ _ _ _ _ _ (m'.end sa sb (bu la) l2.2 (.inl (by simpa using d))))) λd=>by
     have l3:0<ja -1/\ja -1<=a.size:=by simp at d;lia
     exact W.ite (λ_=>W.pure (dN _ _ (ja -1) jb _ {⟨m',l3,l2⟩,by lia})) λ_=>W.pure (yd _ _ (ja -1) jb _ {⟨m',l3,l2⟩,by lia}))
   ·have m':=(M.mg.sw.put sb sa l2.2 l1.2 ∅ λz=>jZ e).sw;exact W.bE lb (W.ite (λd=>W.pure (dn _ _ _ _ _ _ (m'.fin sa sb l1.2 (bu lb) λi j h1 h2=>b0 i j (by simp at d;lia)))) λd=>by
     have l3:1<jb -1/\jb -1<=b.size:=by simp at d;lia
     exact W.ite (λ_=>W.pure (dN _ _ ja (jb -1) _ {⟨m',l1,l3⟩,by lia})) λ_=>W.pure (yd _ _ ja (jb -1) _ {⟨m',l1,l3⟩,by lia}))
  intro g o ja jb t hM;obtain⟨M',n2⟩:=hM;refine W.W0 (W.loop (T:=Nat×Nat×Nat) (a:=a) (b:=b) (λr o i j t=>(r,i,j,o,t)) (λx o i j=>MJ C a b o i j/\i+j+1+x<=na+nb) (λo i j=>MJ C a b o i j/\i+j+1<=na+nb) ⟨M',n2⟩ ?_ ?_ (λm g o i j t R=>W.pure (dn _ _ _ _ _ _ R)) λg o i j t h=>W.bM (W.pure (yd _ _ i j _ {h.1,by have:=h.2;lia})))
  ·rintro o ia ib ⟨⟨_,h1,h2⟩,h3⟩;lia
  ·clear n2 M' M n1;intro x g out na nb t E hM dn dN yd;obtain⟨mg,ac,bc⟩:=t;obtain⟨M,n3⟩:=hM;have l1:=M.la;have l2:=M.lb;have lb:nb -1<b.size:=by lia
   dsimp only;generalize mg -1=m1;revert m1 mg;refine both (λkey mg m1=>W.ite (λ_=>key m1) λ_=>key mg) λmg=>?_;refine W.bM (W.bE lb (W.bR hk (Q3 lb) ha sa ∅ ∅ λk q1 q2 q3=>?_));have M2:=M.mg.on sa l1.2 l2.2 k (C.rk b[nb -1]) q1 (λi h1 h2 z=>bu (q3 i ∅ ∅ z)) λj h1 z=>sb.at ∅ ∅;dsimp only;generalize out++(a.extract k na).reverse=ou at M2⊢;generalize hct:na -k=ct;clear q3;have q2:∀z:k -1<a.size,0<k->C.rk a[k -1]<=C.rk b[nb -1]:=λz h=>q2 _ ∅ ∅ z;revert k ou;refine O8 (p:=λja ou=>MH C a b ou ja nb/\(∀z:ja -1<a.size,0<ja->C.rk a[ja -1]<=C.rk b[nb -1])/\0<ja/\ja<=na) (λR k q1 _ ou M2 hct q2=>W.ite (λc=>W.ite (λd=>W.pure (dn _ _ _ _ _ _ (M2.end sa sb ∅ l2.2 (.inl (by simpa using d))))) λd=>R k ou {M2,q2,(by simp at d;lia),q1}) λc=>R na out {M.mg,(by obtain rfl:k=na:=∅;exact q2),l1.1,ar _}) λk ou hp=>?_;obtain⟨M2,q2,l5,le⟩:=hp;have la:k -1<a.size:=by lia
   have m3:=(M2.sw.put sb sa l2.2 ∅ ∅ λz=>q2 la z).sw;refine W.bE lb (W.ite (λd=>W.pure (dn _ _ _ _ _ _ (m3.fin sa sb ∅ ∅ λi j h1 h2=>b0 i j (by simp at d;lia)))) λd=>?_);have l3:1<nb -1:=by simp at d;lia
   refine W.bE la (W.bL hk (Q4 la) hb sb ∅ ∅ λk2 p1 p2 p3=>?_);have M4:=(m3.sw.on sb ∅ ∅ k2 (C.rk a[k -1]) p1 (λi h1 h2 z=>p3 i ∅ ∅ z) λj h1 z=>sa.at ∅ ∅).sw;dsimp only;generalize ou.push b[nb -1]++(b.extract k2 (nb -1)).reverse=ov at M4⊢;generalize hcv:nb -1 -k2=cv;clear p3;have p2:∀z:k2 -1<b.size,0<k2->C.rk b[k2 -1]<=C.rk a[k -1]:=λz h=>bu (p2 _ ∅ ∅ z);revert k2 ov;refine O8 (p:=λjb ov=>MH C a b ov k jb/\(∀z:jb -1<b.size,0<jb->C.rk b[jb -1]<=C.rk a[k -1])/\1<jb/\jb<=nb -1) (λR k2 p1 _ ov M4 hcv p2=>W.ite (λc=>W.ite (λd=>W.pure (dn _ _ _ _ _ _ (M4.fin sa sb ∅ ∅ λi j h1 h2=>b0 i j (by simp at d;lia)))) λd=>W.ite (λd2=>W.pure (dn _ _ _ _ _ _ (M4.end sa sb ∅ ∅ (.inr (by simpa using d2))))) λd2=>R k2 ov {M4,p2,(by simp at d d2;lia),p1}) λc=>R (nb -1) (ou.push b[nb -1]) {m3,(by obtain rfl:k2=nb -1:=∅;exact p2),l3,ar _}) λk2 ov hp=>?_;obtain⟨M4,p2,l4,lk⟩:=hp;have m5:=M4.put sa sb ∅ ∅ ∅ λz=>p2 ∅ z;exact W.bE la (W.ite (λd=>W.pure (dn _ _ _ _ _ _ (m5.end sa sb ∅ ∅ (.inl (by simpa using d))))) λd=>by
    have l6:0<k -1/\k -1<=a.size:=by simp at d;lia
    have l7:1<k2/\k2<=b.size:=by lia
    exact W.ite (λ_=>W.pure (dN _ _ (k -1) k2 _ {⟨m5,l6,l7⟩,by lia})) λ_=>W.pure (yd _ _ (k -1) k2 _ {⟨m5,l6,l7⟩,by lia}))
 ·intro m g o ia ib t R;exact W.pure (h _ _ R)
variable{C:Ct}
def ky(C:Ct)(a:Array Keyed)(k:Nat):Nat:=(a[k]?).elim 0 C.rk
def iL(h:k<a.size):ky C a k=C.rk a[k]:=by unfold ky;rw[getElem?_pos a k h];rfl
def EV(h:a[i]?=b[j]?):ky C a i=ky C b j:=by unfold ky;rw[h]
def Up(C:Ct)(a:Array Keyed)(lo hi:Nat):Prop:=∀i j,lo<=i->i<=j->j<hi->ky C a i<=ky C a j
def Dn(C:Ct)(a:Array Keyed)(lo hi:Nat):Prop:=∀i j,lo<=i->i<=j->j<hi->ky C a j<=ky C a i
structure Mv(a a':Array Keyed)(lo hi:Nat):Prop where
 pm:a'.Perm a
 ou:∀k,k<lo\/hi<=k->a'[k]?=a[k]?
def Mv.sz{lo hi:Nat}(m:Mv a a' lo hi):a'.size=a.size:=m.pm.size_eq
def Mv.refl{lo hi:Nat}:Mv a a lo hi:={.refl _,λ_ _=>rfl}
def Mv.trans{lo hi:Nat}(m:Mv a b lo hi)(n:Mv b c lo hi):Mv a c lo hi:={n.pm.trans m.pm,λk h=>(n.ou k h).trans (m.ou k h)}
def Mv.wide{lo hi QL Ws:Nat}(m:Mv a b lo hi)(h1:QL<=lo)(h2:hi<=Ws):Mv a b QL Ws:={m.pm,λk h=>m.ou k ∅}
def Mv.in{lo hi:Nat}(m:Mv a a' lo hi)(h:∀x∈a,C.In x):∀x∈a',C.In x:=λx hx=>h x (m.pm.mem_iff.mp hx)
def Mv.up{lo hi l h:Nat}(m:Mv a a' lo hi)(u:Up C a l h)(c:h<=lo\/hi<=l):Up C a' l h:=λi j h1 h2 h3=>by rw[EV (m.ou i ∅),EV (m.ou j ∅)];exact u i j h1 h2 h3
def wk(hj:j<=a.size):Mv a (mirror a i j ((j -i)/2)) i j:={mirror_perm _ _ _ _,λk h=>by rw[getElem?_mirror_all hj,az ∅]}
def sQ(hj:j<=a.size)(k:Nat):ky C (mirror a i j ((j -i)/2)) k=if i<=k/\k<j then ky C a (i+j -1 -k)else ky C a k:=by unfold ky;rw[getElem?_mirror_all hj];split<;>rfl
def QA(hs:s<a.size)(hd:d<=s):Mv a (bubble a s (s -d)) d (s+1):={bubble_perm _ _ _,λk h=>by rw[getElem?_bubble hs _ ∅,az ∅,az ∅]}
section
variable{st:SortSt}
def W.at(hk:kindOf st=C.κ)(gL:∀x∈arrOf st,C.In x)(hi:i<(-11).size)(hj:j<(-11).size)(h:Q (some (decide (ky C (-11) i<ky C (-11) j))) st):W C (ltAt' i j) Q st:=by rw[iL hi,iL hj]at h;rw[ltAt'_eq];exact W.bind (W.get (W.bind (W.elem hi (W.bind (W.elem hj (W.lt hk (gL _ (c6 _)) (gL _ (c6 _)) h))))))
def W.rev(h:Q ⟨⟩ (setArr st (mirror (-11) i j ((j -i)/2)))):W C (reverseSlice' i j) Q st:=by rw[reverseSlice'_eq];exact W.modify h
def Up.more{lo hi:Nat}(u:Up C a lo hi)(h:lo<hi)(c:ky C a (hi -1)<=ky C a hi):Up C a lo (hi+1):=λi j h1 h2 h3=>by
 by_cases e:j=hi
 ·subst e;by_cases e2:i=j
  ·rw[e2];exact ar _
  ·exact aD (u i (j -1) h1 ∅ ∅) c
 ·exact u i j h1 h2 ∅
def Dn.more{lo hi:Nat}(u:Dn C a lo hi)(h:lo<hi)(c:ky C a hi<=ky C a (hi -1)):Dn C a lo (hi+1):=λi j h1 h2 h3=>by
 by_cases e:j=hi
 ·subst e;by_cases e2:i=j
  ·rw[e2];exact ar _
  ·exact aD c (u i (j -1) h1 ∅ ∅)
 ·exact u i j h1 h2 ∅
def Dn.of{lo hi:Nat}(u:Dn C a lo hi)(e:∀k,ky C b k=ky C a k):Dn C b lo hi:=λi j h1 h2 h3=>by rw[e,e];exact u i j h1 h2 h3
def w_count{lo nrem:Nat}(hk:kindOf st=C.κ)(gL:∀x∈arrOf st,C.In x)(h1:1<=nrem)(hs:lo+nrem<=(-11).size)
  (h:∀m a',Mv (-11) a' lo (lo+nrem)->1<=m->m<=nrem->Up C a' lo (lo+m)->Q (some m) (setArr st a')):W C (countRun' lo nrem) Q st:=by
 have sw:st=setArr st (-11):=rfl;unfold countRun';refine W.bind (W.mono (W.for (I:=λx c s'=>st=s'/\c=(none,x)/\Up C (-11) lo (lo+x))
  (Q:=λc s'=>st=s'/\∃n,c=(none,n)/\1<=n/\n<=nrem/\Up C (-11) lo (lo+n)/\(n=nrem\/ky C (-11) (lo+n)<ky C (-11) (lo+n -1))) ?_ ?_ {rfl,rfl,?_}) ?_)
 ·rintro x c s' C2 hx2 ⟨rfl,rfl,u⟩;refine W.bind (W.at hk gL ∅ ∅ ?_);by_cases e:ky C (-11) (lo+x)<ky C (-11) (lo+x -1)
  ·rw[aZ e];exact W.pure {rfl,x,rfl,C2,by lia,u,.inr e}
  ·rw[bI e];exact W.pure {rfl,rfl,u.more ∅ (jZ e)}
 ·rintro c s' ⟨rfl,rfl,u⟩;rw[show max 1 nrem=nrem by lia]at u⊢;exact{rfl,nrem,rfl,by lia,ar _,u,.inl rfl}
 ·exactλi j q1 q2 q3=>by rw[show i=j by lia];exact ar _
 rintro c s' ⟨rfl,n,rfl,n1,n2,u,last⟩;refine W.ite (λc=>W.pure ?_) λc=>?_
 ·rw[sw];exact h n _ .refl n1 n2 u
 have last:ky C (-11) (lo+n)<ky C (-11) (lo+n -1):=last.resolve_left (by simpa using c);have n3:n<nrem:=by simp at c;lia
 refine W.ite (λc=>W.bind (W.at hk gL ∅ ∅ ?g1)) λc=>?g2
 case' g1=>
  by_cases e:ky C (-11) lo<ky C (-11) (lo+n -1)
  ·rw[aZ e];refine W.pure ?_;rw[sw];exact h n _ .refl n1 n2 u
  rw[bI e];have al:∀k,lo<=k->k<lo+n->ky C (-11) k=ky C (-11) lo:=λk q1 q2=>by have:=u lo k (ar _) q1 q2;have:=u k (lo+n -1) q1 ∅ ∅;lia
  have kk:∀k,ky C (mirror (-11) lo (lo+n) ((lo+n -lo)/2)) k=ky C (-11) k:=λk=>by
   rw[sQ ∅];split
   ·rw[al _ ∅ ∅,al k ∅ ∅]
   ·rfl
  refine W.bind (W.rev ?_);have M0:Mv (-11) (mirror (-11) lo (lo+n) ((lo+n -lo)/2)) lo (lo+nrem):=(wk ∅).wide (ar _) ∅;have D0:Dn C (mirror (-11) lo (lo+n) ((lo+n -lo)/2)) lo (lo+n+1):=(Dn.of (a:=arrOf st) (λi j q1 q2 q3=>by rw[al i q1 ∅,al j ∅ q3];exact ar _) kk).more ∅ (by rw[kk,kk];lia);generalize mirror (-11) lo (lo+n) ((lo+n -lo)/2)=a0 at M0 D0
 case' g2=>
  have M0:Mv (-11) (-11) lo (lo+nrem):=.refl;have e1:n=1:=by lia
  have D0:Dn C (-11) lo (lo+n+1):=Dn.more (λi j q1 q2 q3=>by rw[show i=j by lia];exact ar _) ∅ (bu last);obtain⟨a0,M0,D0,es⟩:∃a0,Mv (-11) a0 lo (lo+nrem)/\Dn C a0 lo (lo+n+1)/\st=setArr st a0:=⟨_,M0,D0,rfl⟩
  suffices H:W C _ Q (setArr st a0)from es▸H
 all_goals
  refine W.bind (W.rl (W.bind (W.mono (W.for (I:=λx c s'=>∃a' q,s'=setArr st a'/\c=(none,x,q)/\Mv (-11) a' lo (lo+nrem)/\Dn C a' lo (lo+x)/\q+1<=x/\∀k,lo+x -(q+1)<=k->k<lo+x->ky C a' k=ky C a' (lo+x -1))
   (Q:=λc s'=>∃a' m q,s'=setArr st a'/\c=(none,m,q)/\n+1<=m/\m<=nrem/\Mv (-11) a' lo (lo+nrem)/\Dn C a' lo (lo+m)/\q+1<=m/\∀k,lo+m -(q+1)<=k->k<lo+m->ky C a' k=ky C a' (lo+m -1)) ?_ ?_ {a0,0,rfl,rfl,M0,D0,by lia,λk q1 q2=>by rw[show k=lo+(n+1) -1 by lia]}) ?_)))
  ·rintro x c s' C2 hx2 ⟨a',q,rfl,rfl,M,D,q1,al⟩;dsimp only;have C2:n+1<=x:=C2;have sz:=M.sz;have kk:∀k,ky C (mirror a' (lo+x -(q+1)) (lo+x) ((lo+x -(lo+x -(q+1)))/2)) k=ky C a' k:=λk=>by
    rw[sQ ∅];split
    ·rw[al _ ∅ ∅,al k ∅ ∅]
    ·rfl
   refine W.bind (W.at hk (M.in gL) (by rw[sz];lia) (by rw[sz];lia) ?_);by_cases e:ky C a' (lo+x)<ky C a' (lo+x -1)
   ·rw[aZ e];refine W.ite (λ_=>?_) (λz=>absurd rfl z);refine W.ite (λ_=>W.bind (W.rev (W.pure {_,0,rfl,rfl,M.trans ((wk ∅).wide ∅ ∅),(D.of kk).more ∅ (by rw[kk,kk];lia),by lia,λk q1 q2=>by rw[show k=lo+(x+1) -1 by lia]}))) λ_=>W.pure {_,0,rfl,rfl,M,D.more ∅ ∅,by lia,λk q1 q2=>by rw[show k=lo+(x+1) -1 by lia]}
   ·rw[bI e];refine W.bind (W.at hk (M.in gL) (by rw[sz];lia) (by rw[sz];lia) ?_);by_cases e2:ky C a' (lo+x -1)<ky C a' (lo+x)
    ·rw[aZ e2];exact W.pure {_,_,_,rfl,rfl,C2,by lia,M,D,q1,al}
    ·rw[bI e2];refine W.pure {_,_,rfl,rfl,M,D.more ∅ ∅,by lia,λk q1 q2=>?_};rw[show lo+(x+1) -1=lo+x by lia];by_cases z:k=lo+x
     ·rw[z]
     ·rw[al k ∅ ∅];lia
  ·rintro c s' ⟨a',q,rfl,rfl,M,D,q1,al⟩;dsimp only at*;rw[show max (n+1) nrem=nrem by lia]at*;exact{_,_,_,rfl,rfl,by lia,ar _,M,D,q1,al}
  ·rintro c s' ⟨a',m,q,rfl,rfl,m1,m2,M,D,q1,al⟩;dsimp only;have sz:=M.sz;refine W.ite (λ_=>W.bind (W.rev ?_)) λ_=>?_;rotate_left;generalize a'=a2 at M D;have M2:=M;have sz:=M2.sz;rotate_left;have M2:=M.trans ((wk (i:=lo+m -(q+1)) (j:=lo+m) ∅).wide ∅ ∅);have D:=D.of (b:=mirror a' (lo+m -(q+1)) (lo+m) ((lo+m -(lo+m -(q+1)))/2)) λk=>by
    rw[sQ ∅];split
    ·rw[al _ ∅ ∅,al k ∅ ∅]
    ·rfl
   generalize mirror a' (lo+m -(q+1)) (lo+m) ((lo+m -(lo+m -(q+1)))/2)=a2 at M2 D;have sz:=M2.sz;all_goals
    have M3:=M2.trans ((wk (i:=lo) (j:=lo+m) ∅).wide ∅ ∅);refine W.bind (W.rev (W.bind (W.mono (W.for (I:=λx c s'=>s'=setArr st (-58)/\c=(none,x)/\Up C (-58) lo (lo+x))
     (Q:=λc s'=>s'=setArr st (-58)/\∃n,c=(none,n)/\m<=n/\n<=nrem/\Up C (-58) lo (lo+n)) ?_ ?_ {rfl,rfl,?_}) ?_)))
    ·rintro x c s' C2 hx2 ⟨rfl,rfl,u⟩;refine W.bind (W.at hk (M3.in gL) (by rw[M3.sz];lia) (by rw[M3.sz];lia) ?_);by_cases e:ky C (-58) (lo+x)<ky C (-58) (lo+x -1)
     ·rw[aZ e];exact W.pure {rfl,x,rfl,C2,by lia,u}
     ·rw[bI e];exact W.pure {rfl,rfl,u.more ∅ (jZ e)}
    ·rintro c s' ⟨rfl,rfl,u⟩;rw[show max m nrem=nrem by lia]at u⊢;exact{rfl,nrem,rfl,by lia,ar _,u}
    ·exactλi j q1 q2 q3=>by rw[sQ ∅,sQ ∅,aC ∅,aC ∅];exact D _ _ ∅ ∅ ∅
    ·rintro c s' ⟨rfl,r,rfl,r1,r2,u⟩;exact W.pure (h r _ M3 ∅ r2 u)
end
variable{C:Ct}{st:SortSt}
def G3(hs:s<a.size)(hd:d<=s)(k:Nat):ky C (bubble a s (s -d)) k=if k=d then ky C a s else if d<k/\k<=s then ky C a (k -1)else ky C a k:=by
 unfold ky;rw[getElem?_bubble hs _ ∅,show s -(s -d)=d by lia];split
 ·rfl
 ·split<;>rfl
def abN{lo n ok:Nat}(hk:kindOf st=C.κ)(gL:∀x∈arrOf st,C.In x)(br:ok<=n)(hs:lo+n<=(-11).size)(u0:Up C (-11) lo (lo+ok))
  (h:∀a',Mv (-11) a' lo (lo+n)->Up C a' lo (lo+n)->Q true (setArr st a')):W C (binarySort' lo n ok) Q st:=by
 unfold binarySort';refine W.bind (W.mono (W.for (I:=λk c s'=>∃a',s'=setArr st a'/\c=(none,())/\Mv (-11) a' lo (lo+n)/\Up C a' lo (lo+min k n))
  (Q:=λc s'=>∃a',s'=setArr st a'/\c=(none,())/\Mv (-11) a' lo (lo+n)/\Up C a' lo (lo+n)) ?_ ?_ {arrOf st,rfl,rfl,.refl,λi j q1 q2 q3=>?_}) ?_)
 ·rintro k c s' k1 k2 ⟨a',rfl,rfl,M,u⟩;rw[show min k n=k by lia]at u;have sz:=M.sz;refine W.bind (W.mono (W.for (I:=λx c s'=>s'=setArr st a'/\∃l r,c=(none,l,r)/\l<=r/\r<=k/\r -l<=k -x/\(∀i,lo<=i->i<lo+l->ky C a' i<=ky C a' (lo+k))/\(∀i,lo+r<=i->i<lo+k->ky C a' (lo+k)<=ky C a' i))
   (Q:=λc s'=>s'=setArr st a'/\∃l r,c=(none,l,r)/\l<=k/\(∀i,lo<=i->i<lo+l->ky C a' i<=ky C a' (lo+k))/\(∀i,lo+l<=i->i<lo+k->ky C a' (lo+k)<=ky C a' i)) ?_ ?_ {rfl,0,k,rfl,by lia,by lia,by lia,λi h1 h2=>by lia,λi h1 h2=>by lia}) ?_)
  ·rintro x c s' _ hx ⟨rfl,l,r,rfl,b1,b2,b3,b4,b5⟩;dsimp only;refine W.ite (λc=>W.pure {rfl,l,r,rfl,by lia,b4,λi q1 q2=>b5 i ∅ q2}) λc=>W.bind (W.at hk (M.in gL) (by rw[sz];lia) (by rw[sz];lia) ?_);by_cases e:ky C a' (lo+k)<ky C a' (lo+(l+r)/2)
   ·rw[aZ e];exact W.pure {rfl,l,_,rfl,by lia,by lia,by lia,b4,λi q1 q2=>aD (bu e) (u _ _ ∅ q1 q2)}
   ·rw[bI e];exact W.pure {rfl,_,r,rfl,by lia,by lia,by lia,λi q1 q2=>aD (u _ (lo+(l+r)/2) q1 ∅ ∅) (jZ e),b5}
  ·rintro c s' ⟨rfl,l,r,rfl,b1,b2,b3,b4,b5⟩;exact{rfl,l,r,rfl,by lia,b4,λi q1 q2=>b5 i ∅ q2}
  ·rintro c s' ⟨rfl,l,r,rfl,b1,b4,b5⟩;refine W.bind (W.modify (W.pure {bubble a' (lo+k) (lo+k -(lo+l)),rfl,rfl,M.trans ((QA ∅ ∅).wide ∅ ∅),?_}));rw[show min (k+1) n=k+1 by lia];intro i j q1 q2 q3;rw[G3 ∅ ∅,G3 ∅ ∅];split
   ·split
    ·exact ar _
    ·split
     ·exact b5 _ ∅ ∅
     ·lia
   ·split
    ·split
     ·lia
     ·split
      ·exact u _ _ ∅ ∅ ∅
      ·lia
    ·split
     ·exact b4 _ ∅ ∅
     ·split
      ·exact u _ _ ∅ ∅ ∅
      ·exact u _ _ ∅ ∅ ∅
 ·rintro c s' ⟨a',rfl,rfl,M,u⟩;rw[show min (max (max ok 1) n) n=n by lia]at u;exact⟨a',rfl,rfl,M,u⟩
 ·by_cases z:ok=0
  ·rw[show i=j by lia];exact ar _
  ·exact u0 i j q1 q2 ∅
 ·rintro c s' ⟨a',rfl,rfl,M,u⟩;exact W.pure (h a' M u)
variable{C:Ct}{st:SortSt}
def W.set(h:Q ⟨⟩ s'):W C (set s':StateT SortSt Sem PUnit) Q st:=λs j=>by rw[StateT.run_set];exact ao ⟨j,h⟩
theorem IY(sa:Nat):∀(l:List Keyed)(n:Nat)(a:Array Keyed),sa+n+l.length<=a.size->∀k,((l.zipIdx n).foldl (λa(x:Keyed×Nat)=>a.setIfInBounds (sa+x.2) x.1) a)[k]?=if sa+n<=k/\k<sa+n+l.length then l[k -(sa+n)]? else a[k]?
 |[],n,a,_,k=>by rw[az (-9)];rfl
 |x::l,n,a,h,k=>by
  rw[bx]at h⊢;rw[pT,fT,IY sa l (n+1) _ (by rw[Array.size_setIfInBounds];lia)];by_cases e:k=sa+n
  ·subst e;rw[az ∅,aC ∅,Array.getElem?_setIfInBounds_self_of_lt ∅];simp
  ·rw[Array.getElem?_setIfInBounds_ne ∅];by_cases c:sa+n<=k/\k<sa+n+(l.length+1)
   ·rw[aC c,aC ∅,show k -(sa+n)=k -(sa+(n+1))+1 by lia,oP]
   ·rw[az c,az ∅]
def XS{a:Array Keyed}(h:sa+l.length<=a.size):(l.zipIdx.foldl (λa(x:Keyed×Nat)=>a.setIfInBounds (sa+x.2) x.1) a).toList=a.toList.take sa++l++a.toList.drop (sa+l.length):=by
 apply uk;intro k;rw[bJ,IY sa l 0 a h,j3];by_cases c:k<sa
 ·rw[az ∅,cR,dO (by simp;lia),og c,bJ]
 ·by_cases d:k<sa+l.length
  ·rw[aC {by lia,d},dO (by simp;lia),dE (by simp;lia)];simp[show min sa a.size=sa by lia]
  ·rw[az ∅,dE (by simp;lia),BJ];simp[show min sa a.size=sa by lia];rw[show sa+l.length+(k -(sa+l.length))=k by lia]
def yc{a:Array Keyed}(hh:h<=a.size)(q:i<(a.extract l h).size):(a.extract l h)[i]=a[l+i]'(by rw[BR]at q;lia):=by simp
def Fh{a:Array Keyed}(hh:h<=a.size):(a.extract l h).size=h -l:=by rw[BR];lia
def RK(u:Up C a l' h')(hh:h<=a.size)(c1:l'<=l)(c2:h<=h'):So C (a.extract l h):=by refine fS.mpr λi j hi hj z=>?_;rw[aS]at hi hj;rw[mh,mh,yc hh,yc hh,<-iL,<-iL];rw[Fh hh]at hj;exact u _ _ ∅ ∅ ∅
def ext_mem{a:Array Keyed}(hh:h<=a.size)(m:x∈a.extract l h):∃i,∃q:i<a.size,l<=i/\i<h/\x=a[i]:=by obtain⟨i,hi,e⟩:=Array.mem_iff_getElem.mp m;have:=Fh (l:=l) hh;exact{l+i,by lia,by lia,by lia,by rw[<-e,yc hh]}
def Pq(hk:kindOf st=C.κ)(hf:failedOf st=none)(gL:∀x∈arrOf st,C.In x)(e1:(pendingOf st)[i]?=some (sa,na,pw))(e2:(pendingOf st)[i+1]?=some (sb,nb,x))(hsb:sb=sa+na)(na1:0<na)(nb1:0<nb)(sz:sb+nb<=(-11).size)(u1:Up C (-11) sa sb)(u2:Up C (-11) sb (sb+nb))
  (h:∀a' g,Mv (-11) a' sa (sb+nb)->Up C a' sa (sb+nb)->Q true (SortSt.mk' (kindOf st) a' (((pendingOf st).setIfInBounds i (sa,na+nb,pw)).eraseIdxIfInBounds (i+1)) g none)):W C (mergeAt' i) Q st:=by
 have rk:∀{l hi:Nat},Up C (-11) l hi->∀i j,l<=i->(z:i<=j)->j<hi->(q:j<(-11).size)->C.rk ((-11)[i]'∅)<=C.rk (-11)[j]:=λu i j h1 z h2 q=>by rw[<-iL,<-iL];exact u i j h1 z h2
 unfold mergeAt';refine W.bind (W.get ?_);show W C (match((pendingOf st)[i]?,(pendingOf st)[i+1]?)with|(some (sa,na,power),some (sb,nb,_))=>_|_=>_) Q st;rw[e1,e2];have nx:∀{g:Nat}{a':Array Keyed},Mv (-11) a' sa (sb+nb)->Up C a' sa (sb+nb)->Q true (SortSt.mk' (kindOf st) a' (((pendingOf st).setIfInBounds i (sa,na+nb,pw)).eraseIdxIfInBounds (i+1)) g (failedOf st)):=λm u=>by rw[hf];exact h _ _ m u
 refine W.bind (W.set (W.bind (W.elem (a:=arrOf st) (i:=sb) ∅ (W.bind (LL (arr:=arrOf st) (base:=sa) (n:=na) (hint:=0) hk (gL _ (c6 _)) gL (by rw[<-hsb];exact rk u1) ∅ na1 λk q1 q2 q3=>?_)))));have f2:∀i,sa<=i->i<sa+k->ky C (-11) i<=ky C (-11) sb:=λi z1 z2=>by have:=q2 i z1 z2 ∅;rw[<-iL,<-iL]at this;exact this
 have f3:∀i,sa+k<=i->i<sb->ky C (-11) sb<ky C (-11) i:=λi z1 z2=>by have:=q3 i z1 ∅ ∅;rw[<-iL,<-iL]at this;exact this
 refine W.ite (λc=>W.pure (nx .refl λi j z1 z2 z3=>?_)) λc=>?_
 ·have c:k=na:=by simp at c;lia
  by_cases i1:i<sb
  ·by_cases j1:j<sb
   ·exact u1 i j z1 z2 j1
   ·exact aD (f2 i z1 ∅) (u2 sb j (ar _) ∅ z3)
  ·exact u2 i j ∅ z2 z3
 have c:k<na:=by simp at c;lia
 have ix:sa+k+(na -k) -1=sb -1:=by lia
 refine W.bind (W.elem (a:=arrOf st) (i:=sa+k+(na -k) -1) ∅ (W.bind (w_left (arr:=arrOf st) (base:=sb) (n:=nb) (hint:=nb -1) hk (gL _ (c6 _)) gL (rk u2) ∅ ∅ λnc p1 p2 p3=>?_)));have f4:∀i,sb<=i->i<sb+nc->ky C (-11) i<ky C (-11) (sb -1):=λi z1 z2=>by have:=p2 i z1 z2 ∅;rw[<-iL,<-iL,ix]at this;exact this
 have f5:∀i,sb+nc<=i->i<sb+nb->ky C (-11) (sb -1)<=ky C (-11) i:=λi z1 z2=>by have:=p3 i z1 z2 ∅;rw[<-iL,<-iL,ix]at this;exact this
 refine W.ite (λc=>W.pure (nx .refl λi j z1 z2 z3=>?_)) λc2=>?_
 ·have c:nc=0:=by simpa using c
  by_cases i1:i<sb
  ·by_cases j1:j<sb
   ·exact u1 i j z1 z2 j1
   ·exact aD (u1 i (sb -1) z1 ∅ ∅) (f5 j ∅ z3)
  ·exact u2 i j ∅ z2 z3
 have c2:0<nc:=by simp at c2;lia
 have sx:=Fh (a:=arrOf st) (l:=sa+k) (h:=sb) ∅;have sy:=Fh (a:=arrOf st) (l:=sb) (h:=sb+nc) ∅;have e0:C.rk (((-11).extract sb (sb+nc))[0]'∅)<C.rk (((-11).extract (sa+k) sb)[0]'∅):=by rw[yc ∅,yc ∅,<-iL,<-iL];exact f3 _ ∅ ∅
 have el:∀y∈(-11).extract sb (sb+nc),C.rk y<C.rk (((-11).extract (sa+k) sb)[((-11).extract (sa+k) sb).size -1]'∅):=λy hy=>by obtain⟨i,q,z1,z2,rfl⟩:=ext_mem ∅ hy;rw[yc ∅,<-iL,<-iL,sx,show sa+k+(sb -(sa+k) -1)=sb -1 by lia];exact f4 i z1 z2
 have hx:∀{l h:Nat},h<=(-11).size->∀x∈(-11).extract l h,C.In x:=λhh x hx=>by obtain⟨i,q,z1,z2,rfl⟩:=ext_mem hh hx;exact gL _ (c6 _)
 have fin:∀(m:Array Keyed),Res C ((-11).extract (sa+k) sb) ((-11).extract sb (sb+nc)) m->Mv (-11) (m.toList.zipIdx.foldl (λa(x:Keyed×Nat)=>a.setIfInBounds (sa+k+x.2) x.1) (-11)) sa (sb+nb)/\Up C (m.toList.zipIdx.foldl (λa(x:Keyed×Nat)=>a.setIfInBounds (sa+k+x.2) x.1) (-11)) sa (sb+nb):=by
  rintro m ⟨pm,so⟩;have lm:m.toList.length=sb+nc -(sa+k):=by rw[pm.length_eq,aO,aS,aS];lia
  have el:=IY (sa+k) m.toList 0 (-11) ∅;rw[lm,j3,show sa+k+(sb+nc -(sa+k))=sb+nc by lia]at el;have pl:=XS (sa:=sa+k) (l:=m.toList) (a:=arrOf st) ∅;rw[lm,show sa+k+(sb+nc -(sa+k))=sb+nc by lia]at pl;generalize m.toList.zipIdx.foldl (λa(x:Keyed×Nat)=>a.setIfInBounds (sa+k+x.2) x.1) (-11)=a' at el pl⊢;have inn:∀i,sa+k<=i->i<sb+nc->∃j,sa+k<=j/\j<sb+nc/\ky C a' i=ky C (-11) j:=λi z1 z2=>by
   have e:=el i;rw[aC ⟨z1,z2⟩,au ∅]at e;have hm:=pm.mem_iff.mp (gh (l:=m.toList) (n:=i -(sa+k)) ∅);have ek:ky C a' i=C.rk (m.toList[i -(sa+k)]'∅):=by unfold ky;rw[e];rfl
   rw[ek];rcases bg.mp hm with hm|hm
   ·obtain⟨j,q,z3,z4,e3⟩:=ext_mem ∅ (mf.mp hm);exact{j,z3,by lia,by rw[e3,iL]}
   ·obtain⟨j,q,z3,z4,e3⟩:=ext_mem ∅ (mf.mp hm);exact{j,by lia,z4,by rw[e3,iL]}
  have out:∀i,i<sa+k\/sb+nc<=i->ky C a' i=ky C (-11) i:=λi z=>EV (by rw[el i,az ∅]);refine{{tY.mpr ?_,λi z=>by rw[el i,az ∅]},λi j z1 z2 z3=>?_}
  ·rw[pl];have e:(-11).toList=(-11).toList.take (sa+k)++(((-11).extract (sa+k) sb).toList++((-11).extract sb (sb+nc)).toList)++(-11).toList.drop (sb+nc):=by
    have e':((-11).extract (sa+k) sb).toList++((-11).extract sb (sb+nc)).toList=((-11).toList.drop (sa+k)).take (sb+nc -(sa+k)):=by rw[<-rE,Array.extract_append_extract,gM ∅,Nat.max_eq_right ∅,rf,List.extract_eq_drop_take]
    rw[e']
    conv=>lhs;rw[<-c7 (sb+nc) (-11).toList,<-c7 (sa+k) ((-11).toList.take (sb+nc))]
    rw[List.take_take,gM ∅,List.drop_take]
   conv=>rhs;rw[e]
   exact xr _ (qo _ pm)
  ·have lo:∀j,sa+k<=j->j<sb+nc->ky C (-11) sb<=ky C (-11) j:=λj y1 y2=>by
    by_cases c:j<sb
    ·exact bu (f3 j y1 c)
    ·exact u2 sb j (ar _) ∅ ∅
   have hi:∀i j,sa+k<=i->i<sb+nc->sb+nc<=j->j<sb+nb->ky C (-11) i<=ky C (-11) j:=λi j y1 y2 y3 y4=>by
    by_cases c:i<sb
    ·exact aD (u1 i (sb -1) ∅ ∅ ∅) (f5 j y3 y4)
    ·exact u2 i j ∅ ∅ y4
   by_cases i1:i<sa+k
   ·rw[out i (.inl i1)];by_cases j1:j<sa+k
    ·rw[out j (.inl j1)];exact u1 i j z1 z2 ∅
    ·by_cases j2:j<sb+nc
     ·obtain⟨t,t1,t2,e⟩:=inn j ∅ j2;rw[e];exact aD (f2 i z1 i1) (lo t t1 t2)
     ·rw[out j (.inr ∅)];exact aD (f2 i z1 i1) (u2 sb j (ar _) ∅ z3)
   ·by_cases i2:i<sb+nc
    ·by_cases j2:j<sb+nc
     ·have hso:=fS.mp so;have g:∀i,(z1:sa+k<=i)->(z2:i<sb+nc)->ky C a' i=C.rk (m.toList[i -(sa+k)]'∅):=λi z1 z2=>by unfold ky;rw[el i,aC ⟨z1,z2⟩,au ∅];rfl
      rw[g i ∅ i2,g j ∅ j2];by_cases e:i=j
      ·subst e;exact ar _
      ·exact hso _ _ _ _ ∅
     ·obtain⟨t,t1,t2,e⟩:=inn i ∅ i2;rw[e,out j (.inr ∅)];exact hi t j t1 t2 ∅ z3
    ·rw[out i (.inr ∅),out j (.inr ∅)];exact u2 i j ∅ z2 z3
 have o1:So C ((-11).extract (sa+k) sb):=RK u1 ∅ ∅ (ar _);have o2:So C ((-11).extract sb (sb+nc)):=RK u2 ∅ (ar _) ∅;have h1:=hx (l:=sa+k) (h:=sb) ∅;have h2:=hx (l:=sb) (h:=sb+nc) ∅;have l1:0<((-11).extract (sa+k) sb).size:=by lia
 have l2:0<((-11).extract sb (sb+nc)).size:=by lia
 refine W.ite (λ_=>W.bind (Po hk h1 h2 o1 o2 l1 l2 e0 el λm g R=>?_)) (λ_=>W.bind (Pp hk h1 h2 o1 o2 l1 l2 e0 el λm g R=>?_));all_goals
  refine W.bind (W.modify (W.bind (W.get (W.pure ?_))));show Q (Option.isNone (failedOf st)) _;have e9:Option.isNone (failedOf st)=true:=by rw[hf];rfl
  rw[e9];exact nx (fin m R).1 (fin m R).2
variable{C:Ct}{st:SortSt}
abbrev R3:=Nat×Nat×Nat
def Rn(C:Ct)(a:Array Keyed):Nat->List R3->Nat->Prop
 |b,[],e=>b=e
 |b,r::l,e=>r.1=b/\0<r.2.1/\Up C a b (b+r.2.1)/\Rn C a (b+r.2.1) l e
theorem Rn.le:∀{l:List R3}{b e:Nat},Rn C a b l e->b+l.length<=e
 |[],b,e,h=>by rw[show b=e from h];exact ar _
 |r::l,b,e,⟨_,h1,_,h⟩=>by have:=h.le;rw[bx];lia
theorem Rn.app:∀{l m:List R3}{b e:Nat},Rn C a b (l++m) e↔∃k,Rn C a b l k/\Rn C a k m e
 |[],m,b,e=>{λh=>⟨b,rfl,h⟩,λ⟨k,h1,h2⟩=>by rw[show b=k from h1];exact h2}
 |r::l,m,b,e=>⟨λ⟨h1,h2,h3,h4⟩=>by obtain⟨k,q1,q2⟩:=Rn.app.mp h4;exact{k,⟨h1,h2,h3,q1⟩,q2},λ⟨k,⟨h1,h2,h3,q1⟩,q2⟩=>{h1,h2,h3,Rn.app.mpr ⟨k,q1,q2⟩}⟩
theorem Rn.mv{lo hi:Nat}(m:Mv a a' lo hi):∀{l:List R3}{b e:Nat},Rn C a b l e->(e<=lo\/hi<=b)->Rn C a' b l e
 |[],b,e,h,_=>h
 |r::l,b,e,⟨h1,h2,h3,h⟩,c=>by have:=h.le;exact{h1,h2,m.up h3 ∅,Rn.mv m h ∅}
def Rn.pow(h:Rn C a b (l++[r]) e):Rn C a b (l++[(r.1,r.2.1,p)]) e:=by obtain⟨k,h1,h2⟩:=Rn.app.mp h;exact Rn.app.mpr ⟨k,h1,h2⟩
def U0{i:Nat}{r s:R3}(h1:l[i]?=some r)(h2:l[i+1]?=some s):∃m n,l=m++r::s::n/\m.length=i:=by
 obtain⟨q1,e1⟩:=ax.mp h1;obtain⟨q2,e2⟩:=ax.mp h2;refine{l.take i,l.drop (i+2),?_,by rw[aT];lia}
 conv=>lhs;rw[<-c7 i l,eP q1,eP q2,e1,e2]
abbrev SS(st:SortSt)(a:Array Keyed)(P:Array R3)(g:Nat):SortSt:=SortSt.mk' (kindOf st) a P g none
def Zk(hk:kindOf st=C.κ)(gL:∀x∈a,C.In x)(hr:Rn C a 0 P.toList e)(he:e<=a.size)(hi:i+1<P.size)
  (h:∀a' P' g,a'.Perm a->P'.size+1=P.size->Rn C a' 0 P'.toList e->(∀k,e<=k->a'[k]?=a[k]?)->Q true (SS st a' P' g)):W C (mergeAt' i) Q (SS st a P g):=by
 have q1:P.toList[i]?=some (P[i]'∅):=by rw[bJ,getElem?_pos]
 have q2:P.toList[i+1]?=some (P[i+1]'hi):=by rw[bJ,getElem?_pos]
 obtain⟨m,n,el,lm⟩:=U0 q1 q2;rw[el]at hr;obtain⟨b,r1,r2,r3,r4,r5,r6,r7,r8⟩:=Rn.app.mp hr;have r9:=r8.le;generalize P[i]'∅=x at*;generalize P[i+1]'hi=y at*;refine Pq hk rfl gL (by rw[<-bJ];exact q1) (by rw[<-bJ];exact q2) ∅ r3 r6 (by show y.1+y.2.1<=a.size;lia) (by rw[r5,r2];exact r4) (by rw[r5];exact r7) λa' g' mv u=>?_;have el2:(((P.setIfInBounds i (x.1,x.2.1+y.2.1,x.2.2)).eraseIdxIfInBounds (i+1))).toList=m++(x.1,x.2.1+y.2.1,x.2.2)::n:=by rw[Array.toList_eraseIdxIfInBounds,Array.toList_setIfInBounds,el];subst lm;simp;rw[List.eraseIdx_append_of_length_le ∅,show m.length+1 -m.length=1 by lia];rfl
 refine h a' _ g' mv.pm ?_ ?_ λk hk=>mv.ou k (.inr ∅)
 ·rw[<-aS,el2,<-aS,el];simp;lia
 ·rw[el2];refine Rn.app.mpr {b,Rn.mv mv r1 (.inl ∅),r2,by dsimp only;lia,?_,?_}
  ·rw[r2,r5]at u;rw[show b+(x.2.1+y.2.1)=b+x.2.1+y.2.1 by lia];exact u
  ·rw[show b+(x.2.1+y.2.1)=b+x.2.1+y.2.1 by lia];exact Rn.mv mv r8 (.inr ∅)
abbrev S3(C:Ct)(a:Array Keyed)(P:Array R3)(g:Nat):SortSt:=SortSt.mk' C.κ a P g none
def Rn.push{P:Array R3}{lo n:Nat}(h:Rn C a 0 P.toList lo)(hn:0<n)(u:Up C a lo (lo+n)):Rn C a 0 (P.push (lo,n,0)).toList (lo+n):=by rw[lq];exact Rn.app.mpr ⟨lo,h,rfl,hn,u,rfl⟩
def Rn.adg{P:Array R3}{lo pw:Nat}(h:Rn C a 0 P.toList lo)(hp:0<P.size):Rn C a 0 (P.modify (P.size -1) λx=>(x.1,x.2.1,pw)).toList lo:=by
 have ne:P.toList≠[]:=λz=>by rw[<-aS,z]at hp;exact absurd hp (-8)
 have e:(P.modify (P.size -1) λx=>(x.1,x.2.1,pw)).toList=P.toList.dropLast++[((P.toList.getLast ne).1,(P.toList.getLast ne).2.1,pw)]:=by rw[Array.toList_modify,List.modify_eq_take_cons_drop (by simpa using Nat.sub_lt hp Nat.one_pos),xp (by simp;lia),List.dropLast_eq_take,List.getLast_eq_getElem];simp
 rw[e];rw[<-sd ne]at h;exact h.pow
def acN{T p:Nat->Array Keyed->Prop}{G:Prop}(k:(∀n b,p n b->T n b)->G)(h:∀n b,p n b->T n b):G:=k h
def W.adw{α:Type}{c:Prop}{_:Decidable c}{x y:StateT SortSt Sem α}{Q:α->SortSt->Prop}{st:SortSt}(h2:¬c->W C y Q st)(h1:c->W C x Q st):W C (if c then x else y) Q st:=W.ite h1 h2
def Zj(gL:∀x∈a0,C.In x)(h2:2<=a0.size)
  (h:∀a' P g,a'.Perm a0->Up C a' 0 a0.size->Q () (S3 C a' P g)):W C sortRuns' Q (S3 C a0 #[] g0):=by
 unfold sortRuns';refine W.bind (W.get ?_);dsimp only[S3,SortSt.mk'];generalize hN:a0.size=N at*;refine W.bind (W.mono (W.for (I:=λx c s'=>∃a P g lo,s'=S3 C a P g/\c=(none,lo)/\a.Perm a0/\Rn C a 0 P.toList lo/\x<=lo/\lo<=N)
  (Q:=λc s'=>∃a P g,s'=S3 C a P g/\c=(none,N)/\a.Perm a0/\Rn C a 0 P.toList N) ?_ ?_ {a0,#[],g0,0,rfl,rfl,.refl _,rfl,by lia,by lia}) ?_)
 ·rintro x c s' _ hx ⟨a,P,g,lo,rfl,rfl,pm,rn,l1,l2⟩;have sz:a.size=N:=by rw[pm.size_eq,hN]
  have ia:∀x∈a,C.In x:=λx hx=>gL x (pm.mem_iff.mp hx);refine W.ite (λc=>W.pure ?_) λc=>?_
  ·have c:lo=N:=by dsimp only at c;lia
   subst c;exact⟨a,P,g,rfl,rfl,pm,rn⟩
  have c:lo<N:=by dsimp only at c;lia
  refine W.bind (w_count (st:=S3 C a P g) (lo:=lo) (nrem:=N -lo) rfl ia ∅ (show lo+(N -lo)<=a.size by lia) ?_);refine acN (p:=λn b=>0<n/\lo+n<=N/\Mv a b lo (lo+(N -lo))/\Up C b lo (lo+n)) (λkey m a1 mv m1 m2 u=>W.adw (λc1=>key m a1 {m1,by lia,mv,u}) λc1=>W.bind (W.rl (W.bind (abN (st:=S3 C a1 P g) (lo:=lo) (n:=min (N -lo) (minRun' N N 0)) (ok:=m) rfl (Mv.in (a:=a) mv ia) ?_ ?_ u λa2 mv2 u2=>W.ite (λz=>by simp at z) λ_=>key _ a2 {?_,?_,Mv.trans (a:=a) mv (Mv.wide mv2 (ar _) ∅),u2})))) ?_
  ·have c1:m<minRun' N N 0:=c1;lia
  ·have sz1:=Mv.sz (a:=a) mv;show lo+min (N -lo) (minRun' N N 0)<=a1.size;lia
  ·have c1:m<minRun' N N 0:=c1;lia
  ·lia
  rintro m a1 ⟨n1,n2,mv,u⟩;show W C _ _ (S3 C a1 P g);have rn1:Rn C a1 0 P.toList lo:=Rn.mv mv rn (.inl (ar _));have pm1:a1.Perm a0:=mv.pm.trans pm;refine W.bind (W.get ?_);cases hb:P.back? with
  |none=>
   exact W.bind (W.modify (W.pure {a1,P.push (lo,m,0),g,lo+m,rfl,rfl,pm1,rn1.push n1 u,by lia,by lia}))
  |some r=>
   obtain⟨s1,k1,w1⟩:=r;have p0:0<P.size:=by
    rcases Nat.eq_zero_or_pos P.size with z|z
    ·rw[Array.back?_eq_getElem?,getElem?_neg P _ ∅]at hb;cases hb
    ·exact z
   refine W.bind (W.mono (W.for (I:=λy c s'=>∃a2 P2 g2,s'=S3 C a2 P2 g2/\c=(none,())/\a2.Perm a1/\(∀k,lo<=k->a2[k]?=(a1)[k]?)/\Rn C a2 0 P2.toList lo/\0<P2.size) (Q:=λc s'=>∃a2 P2 g2,s'=S3 C a2 P2 g2/\c=(none,())/\a2.Perm a1/\(∀k,lo<=k->a2[k]?=(a1)[k]?)/\Rn C a2 0 P2.toList lo/\0<P2.size) ?_ (λ_ _ h=>h) {_,_,_,rfl,rfl,.refl _,λ_ _=>rfl,rn1,p0}) ?_)
   ·rintro y c s' _ hy ⟨a2,P2,g2,rfl,rfl,uc,ou,xC,p2⟩;refine W.bind (W.get ?_);by_cases c:P2.size>1
    ·have e1:(if(pendingOf (S3 C a2 P2 g2)).size>1 then(pendingOf (S3 C a2 P2 g2))[(pendingOf (S3 C a2 P2 g2)).size -2]? else none)=some ((P2[P2.size -2]'∅).1,(P2[P2.size -2]'∅).2.1,(P2[P2.size -2]'∅).2.2):=by rw[aC c,getElem?_pos P2 (P2.size -2) ∅]
     dsimp only;rw[e1];refine W.ite (λ_=>W.pure ⟨_,_,_,rfl,rfl,uc,ou,xC,p2⟩) λ_=>W.bind (Zk (st:=S3 C a2 P2 g2) (e:=lo) rfl (λx hx=>ia x (mv.pm.mem_iff.mp (uc.mem_iff.mp hx))) xC (by rw[uc.size_eq,mv.pm.size_eq,sz];lia) (show P2.size -2+1<P2.size by lia) λa3 P3 g3 q1 q2 q3 q4=>?_);exact W.pure {a3,P3,g3,rfl,rfl,q1.trans uc,λk hk=>(q4 k hk).trans (ou k hk),q3,by lia}
    ·have e1:(if(pendingOf (S3 C a2 P2 g2)).size>1 then(pendingOf (S3 C a2 P2 g2))[(pendingOf (S3 C a2 P2 g2)).size -2]? else none)=none:=az c;dsimp only;rw[e1];exact W.pure ⟨_,_,_,rfl,rfl,uc,ou,xC,p2⟩
   ·rintro c s' ⟨a2,P2,g2,rfl,rfl,uc,ou,xC,p2⟩;refine W.bind (W.modify (W.bind (W.modify (W.pure {a2,_,g2,lo+m,rfl,rfl,uc.trans pm1,Rn.push (xC.adg p2) n1 λi j z1 z2 z3=>?_,by lia,by lia}))));rw[EV (ou i z1),EV (ou j ∅)];exact u i j z1 z2 z3
 ·rintro c s' ⟨a,P,g,lo,rfl,rfl,pm,rn,l1,l2⟩;have c:lo=N:=by lia
  subst c;exact⟨a,P,g,rfl,rfl,pm,rn⟩
 ·rintro c s' ⟨a,P,g,rfl,rfl,pm,rn⟩;refine W.bind (W.mono (W.for (I:=λy c s'=>∃a2 P2 g2,s'=S3 C a2 P2 g2/\c=(none,())/\a2.Perm a0/\Rn C a2 0 P2.toList N/\(P2.size+y<=N\/P2.size<=1)) (Q:=λc s'=>∃a2 P2 g2,s'=S3 C a2 P2 g2/\c=(none,())/\a2.Perm a0/\Rn C a2 0 P2.toList N/\P2.size<=1) ?_ ?_ {_,_,_,rfl,rfl,pm,rn,.inl ?_}) ?_)
  ·rintro y c s' _ hy ⟨a2,P2,g2,rfl,rfl,uc,xC,p2⟩;refine W.bind (W.get (W.ite (λc=>W.pure ⟨_,_,_,rfl,rfl,uc,xC,c⟩) λc=>?_));have c:1<P2.size:=Nat.lt_of_not_le c;refine W.bind (Zk (st:=S3 C a2 P2 g2) (e:=N) rfl (λx hx=>gL x (uc.mem_iff.mp hx)) xC (by rw[uc.size_eq,hN];lia) ?_ λa3 P3 g3 q1 q2 q3 q4=>W.pure {a3,P3,g3,rfl,rfl,q1.trans uc,q3,by lia});have two:∀{c:Prop}[Decidable c],(if c then P2.size -2 -1 else P2.size -2)+1<P2.size:=λ{c} _=>by
    by_cases z:c
    ·rw[aC z];lia
    ·rw[az z];lia
   exact two
  ·rintro c s' ⟨a2,P2,g2,rfl,rfl,uc,xC,p2⟩;exact{_,_,_,rfl,rfl,uc,xC,by lia}
  ·have:=rn.le;rw[aS]at this;lia
  ·rintro c s' ⟨a2,P2,g2,rfl,rfl,uc,xC,p2⟩;refine W.pure (h a2 P2 g2 uc ?_);rw[<-aS]at p2;generalize P2.toList=l at xC p2
   match l,p2,xC with
   |[],_,e=>exact absurd (show 0=N from e) ∅
   |[r],_,⟨_,_,u,e⟩=>
    have e:0+r.2.1=N:=e;rw[e]at u;exact u
end Nt
namespace zZ
open PySem PySem.W PyProof.Rows PySem.Calls
section
variable{prog:Program}{w:World}{A:Around}{E:Aae}{s:Shared}{vs:Aag}
def Tk(s s':Shared):Prop:=∃t,s'={s with toks:=t}
def Tk.refl(s:Shared):Tk s s:={s.toks,rfl}
abbrev iw(h:Heap)(a:Addr)(vs:Aag):Heap:=((h.update a (-47)).push (seqObj "tuple" vs.toArray 0)).push (seqObj "list" #[] 0)
def Xx{rk:Value->Nat}(ho:s.heap.get? a=some (seqObj "list" vs.toArray n))(h2:2<=vs.length)(Bg:vs.length<1000000)
  (hk:∀s',Tk {s with heap:=iw s.heap a vs} s'->wpAny (-5) A (keyKind' vs.toArray) (λk s2=>k=κ/\Tk {s with heap:=iw s.heap a vs} s2) (λ_ _=>False) s')
  (hc:∀x∈vs,∀y∈vs,∀s',Tk {s with heap:=iw s.heap a vs} s'->wpAny (-5) A (keyLt' κ x y) (λb s2=>b=decide (rk x<rk y)/\Tk {s with heap:=iw s.heap a vs} s2) (λ_ _=>False) s')
  (k:∀(us:Aag)(h':Heap)(tk c:Nat),us.Perm vs->us.Pairwise (λx y=>rk x<=rk y)->h'.get? a=some (seqObj "list" us.toArray c)->(∀b o,b≠a->s.heap.get? b=some o->h'.get? b=some o)->P (.done (.ret .none)) {s with heap:=h',toks:=tk}):
  wpAny (-5) A (Builtin.«list.sort» {[.ref a],[]}) P E s:=by
 have la:a<s.heap.objs.size:=aI ho;obtain⟨e1,A8⟩:∃e1,(s.heap.update a (-47)).get? a=some (seqObj "list" #[] e1):={_,get?_update_seq ho λ_=>#[]};have Kt:(iw s.heap a vs).get? a=some (seqObj "list" #[] e1):=aq _ (aq _ A8);have FW:∀b o,b≠a->s.heap.get? b=some o->(iw s.heap a vs).get? b=some o:=λb o nb q=>aq _ (aq _ ((bT s.heap a _).extBut b o nb q));rw[list_sort_plain];refine af (listItems_at ho rfl ?_);refine af (tN ho rfl ?_ (by rw[aQ,b8];lia) (aP _));refine af (wV A8 rfl ?_);refine af (lA ?_ (by show vs.length<=_;rw[b8];lia));refine af (tK ?_ (aP _));refine bQ ?_;show wpAny (-5) A _ P E {s with heap:=iw s.heap a vs};dsimp only;have big:¬vs.toArray.size<2:=by rw[aQ];lia
 rw[az big,az big];refine af (c8 (hk _ (Tk.refl _)) (λkd s0 hq=>?_) λ_ _ x=>x.elim);obtain⟨rfl,t0⟩:=hq
 let C:Nt.Ct:={prog,w,A,Tk {s with heap:=iw s.heap a vs},kd,λx=>rk x.1,λx=>x.2=x.1/\x.1∈vs,λx y hx hy s' tk=>hc x.1 hx.2 y.1 hy.2 s' tk}
 have hz:∀x∈vs.toArray.zip vs.toArray,x.2=x.1/\x.1∈vs:=λx hx=>by
  rw[List.zip_toArray]at hx;have hx:x∈vs.zip vs:=by simpa using hx
  obtain⟨i,hi,e⟩:=fq.mp hx;rw[vQ]at e;rw[<-e];exact{rfl,gh _}
 have ad5:=Nt.Zj (C:=C) (a0:=vs.toArray.zip vs.toArray) (g0:=7) (Q:=λ_ g7=>∃a',arrOf g7=a'/\failedOf g7=none/\a'.Perm (vs.toArray.zip vs.toArray)/\Nt.Up C a' 0 (vs.toArray.zip vs.toArray).size) hz (by rw[Array.size_zip,aQ];lia) (λa' P g p u=>⟨a',rfl,rfl,p,u⟩) s0 t0;refine af (c8 ad5 ?_ λ_ _ e=>e.elim);rintro⟨⟨⟩,g7⟩ s' ⟨⟨tk,rfl⟩,a',ea,hf,pm,up⟩;have sz:a'.size=vs.length:=by rw[pm.size_eq,Array.size_zip,aQ,Nat.min_self]
 obtain⟨out,eo⟩:∃out,out=a'.toList.map (·.2):=⟨_,rfl⟩;have e2:(arrOf g7).map (·.2)=out.toArray:=by have ea:arrOf g7=a':=ea;rw[ea,eo];apply Array.ext';rw[Array.toList_map]
 have lp:out.length=vs.length:=by rw[eo,ak,aS,sz]
 have gL:∀x∈a',x.2=x.1/\x.1∈vs:=λx hx=>hz x (pm.mem_iff.mp hx);have po:out.Perm vs:=by rw[eo];have:=(tY.mp pm).map (·.2);refine this.trans ?_;rw[List.zip_toArray];show(List.map (λx=>x.2) (vs.zip vs)).Perm vs;rw[List.map_snd_zip (ar _)]
 have so:out.Pairwise λx y=>rk x<=rk y:=by rw[eo];refine k7.mpr (fS.mpr λi j hi hj hij=>?_);rw[aS]at hi hj;have:=up i j (aP _) (bu hij) (by rw[<-pm.size_eq];exact hj);rw[Nt.iL hi,Nt.iL hj]at this;rw[mh,mh,(gL _ (c6 hi)).1,(gL _ (c6 hj)).1];exact this
 show wpAny _ _ _ _ _ _;dsimp only;have e3:Array.map (λx:Keyed=>x.2) (arrOf g7)=out.toArray:=e2;rw[e3];obtain⟨c2,ya⟩:∃c2,((iw s.heap a vs).update a (Obj.mapSeq λ_=>out.toArray)).get? a=some (seqObj "list" out.toArray c2):={_,get?_update_seq Kt λ_=>out.toArray};refine af (wV Kt rfl ?_);refine af (tN Kt rfl ?_ (aP _) (by rw[aQ,lp,b8];lia));rw[hf];simp only[jG,cw,d6];exact ao (k out _ tk c2 po so ya λb o nb q=>(bT (iw s.heap a vs) a _).extBut b o nb (FW b o nb q))
def SO(ho:s.heap.get? a=some (seqObj "list" vs.toArray n))(h2:vs.length<2)
  (k:∀(h':Heap)(c:Nat),h'.get? a=some (seqObj "list" vs.toArray c)->(∀b o,b≠a->s.heap.get? b=some o->h'.get? b=some o)->P (.done (.ret .none)) {s with heap:=h'}):
  wpAny (-5) A (Builtin.«list.sort» {[.ref a],[]}) P E s:=by
 obtain⟨e1,A8⟩:∃e1,(s.heap.update a (-47)).get? a=some (seqObj "list" #[] e1):={_,get?_update_seq ho λ_=>#[]};have Kt:(iw s.heap a vs).get? a=some (seqObj "list" #[] e1):=aq _ (aq _ A8);have FW:∀b o,b≠a->s.heap.get? b=some o->(iw s.heap a vs).get? b=some o:=λb o nb q=>aq _ (aq _ ((bT s.heap a _).extBut b o nb q));rw[list_sort_plain];refine af (listItems_at ho rfl ?_);refine af (tN ho rfl ?_ (by rw[aQ,b8];lia) (aP _));refine af (wV A8 rfl ?_);refine af (lA ?_ (by show vs.length<=_;rw[b8];lia));refine af (tK ?_ (aP _));refine bQ ?_;show wpAny (-5) A _ P E {s with heap:=iw s.heap a vs};dsimp only;have je:vs.toArray.size<2:=by rw[aQ];lia
 rw[aC je,aC je];refine af (ao ?_);refine af (ao ?_);dsimp only;have es:(arrOf (SortSt.mk' general' (vs.toArray.zip vs.toArray) #[] 7 none)).map (·.2)=vs.toArray:=by show(vs.toArray.zip vs.toArray).map (·.2)=vs.toArray;apply vU.mp;simp[List.map_snd_zip]
 rw[es];obtain⟨c2,ya⟩:∃c2,((iw s.heap a vs).update a (Obj.mapSeq λ_=>vs.toArray)).get? a=some (seqObj "list" vs.toArray c2):={_,get?_update_seq Kt λ_=>vs.toArray};refine af (wV Kt rfl ?_);refine af (tN Kt rfl ?_ (aP _) (by rw[aQ,b8];lia));simp only[jG,cw,d6];exact ao (k _ c2 ya λb o nb q=>(bT (iw s.heap a vs) a _).extBut b o nb (FW b o nb q))
abbrev JU(a b:Str):Bool:=decide (a.cps.toList<b.cps.toList)
def eT:Aah->Aah->Bool
 |_,[]=>false
 |[],_::_=>true
 |a::r,b::q=>if a=b then eT r q else JU a b
def Ol(a:Str):JU a a=false:=bI (List.lt_irrefl _)
def QI(h1:JU a b=true)(h2:JU b c=true):JU a c=true:=aZ (List.lt_trans (bo h1) (bo h2))
def QJ(h:JU a b=false)(h2:JU b a=false):a=b:=by have h1:=List.not_lt.mp (AQ h);have h3:=List.not_lt.mp (AQ h2);exact ext_toList (List.le_antisymm h3 h1)
theorem vq:∀a,eT a a=false
 |[]=>rfl
 |a::r=>by unfold eT;rw[aC rfl];exact vq r
theorem su:∀{a b c:Aah},eT a b=true->eT b c=true->eT a c=true
 |_,[],[],_,h=>by unfold eT at h;cases h
 |_,_::_,[],_,h=>by unfold eT at h;cases h
 |_,[],_::_,h,_=>by unfold eT at h;cases h
 |[],_::_,_::_,_,_=>rfl
 |a::r,b::q,c::p,h1,h2=>by
  unfold eT at h1 h2⊢;by_cases e1:a=b
  ·subst e1;rw[aC rfl]at h1;by_cases e2:a=c
   ·rw[aC e2]at h2⊢;exact su h1 h2
   ·rw[az e2]at h2⊢;exact h2
  ·rw[az e1]at h1;by_cases e2:b=c
   ·subst e2;rw[az e1];exact h1
   ·rw[az e2]at h2;have h3:=QI h1 h2;have ne:a≠c:=λe=>by rw[e,Ol]at h3;cases h3
    rw[az ne];exact h3
theorem sv:∀{a b:Aah},eT a b=false->eT b a=false->a=b
 |[],[],_,_=>rfl
 |[],_::_,h,_=>by unfold eT at h;cases h
 |_::_,[],_,h=>by unfold eT at h;cases h
 |a::r,b::q,h1,h2=>by
  unfold eT at h1 h2;by_cases e:a=b
  ·subst e;rw[aC rfl]at h1 h2;rw[sv h1 h2]
  ·rw[az e]at h1;rw[az (cb e)]at h2;exact(e (QJ h1 h2)).elim
abbrev kX(a b:Aah):Bool:=!eT b a
def Ln(a b c:Aah)(h1:kX a b=true)(h2:kX b c=true):kX a c=true:=by
 have h1':eT b a=false:=by simpa using h1
 have h2':eT c b=false:=by simpa using h2
 cases q:eT c a with
 |false=>simp[kX,q]
 |true=>
  cases p:eT a b with
  |true=>rw[su q p]at h2';cases h2'
  |false=>rw[sv p h1',h2']at q;cases q
def Lo(a b:Aah):(kX a b||kX b a)=true:=by
 cases q:eT b a with
 |false=>simp[kX,q]
 |true=>
  cases p:eT a b with
  |false=>simp[kX,p]
  |true=>have:=su q p;rw[vq]at this;cases this
def Oq(h1:kX a b=true)(h2:kX b a=true):a=b:=sv (by simpa using h2) (by simpa using h1)
def kg(l:Aab):Aab:=l.mergeSort kX
def lU(l:Aab):(kg l).Perm l:=Ai l kX
def Eu(l:Aab):(kg l).Pairwise (λa b=>kX a b=true):=v3 Ln Lo l
theorem Jm:∀{l m:Aab},l.Perm m->l.Pairwise (λa b=>kX a b=true)->m.Pairwise (λa b=>kX a b=true)->l=m
 |[],m,h,_,_=>(List.nil_perm.mp h).symm
 |a::l,[],h,_,_=>absurd h.length_eq (-9)
 |a::l,b::m,h,h1,h2=>by
  have e:a=b:=by
   rcases aG.mp (h.mem_iff.mp (aA))with e|e
   ·exact e
   ·rcases aG.mp (h.mem_iff.mpr (aA))with q|q
    ·exact q.symm
    ·exact Oq (ic h1 q) (ic h2 e)
  subst e;rw[Jm (List.perm_cons a|>.mp h) (kK.mp h1).2 (kK.mp h2).2]
def u5(h:l.Perm zs)(hs:l.Pairwise (λa b=>kX a b=true)):l=kg zs:=Jm (h.trans (lU zs).symm) hs (Eu zs)
def CG(h:l.Perm m):kg l=kg m:=u5 ((lU l).trans h) (Eu l)
def Mh(rows:Aab)(a:Aah):Nat:=rows.countP λr=>eT r a
def Vw(ha:a∈rows)(hb:b∈rows):decide (Mh rows a<Mh rows b)=eT a b:=by
 have strict:∀{a b:Aah},a∈rows->eT a b=true->Mh rows a<Mh rows b:=λ{a b} hm h=>by unfold Mh;obtain⟨l1,l2,e⟩:=List.append_of_mem hm;have c1:∀l:Aab,(l.countP λr=>eT r a)<=l.countP λr=>eT r b:=λl=>List.countP_mono_left λr _ hr=>su hr h;rw[e,BK,BK,List.countP_cons,List.countP_cons,vq,h];have:=c1 l1;have:=c1 l2;simp;lia
 cases q:eT a b with
 |true=>exact aZ (strict ha q)
 |false=>
  refine bI (FF.mpr ?_);cases p:eT b a with
  |true=>exact bu (strict hb p)
  |false=>rw[sv q p];exact ar _
end
inductive oG:Aah->Aag->Prop where
 |nil:oG [] []
 |cons {z:Str} {t:Tok} {zs:Aah} {vs:Aag}:oG zs vs->oG (z::zs) (.str z t::vs)
def TupIs(h:Heap)(v:Value)(zs:Aah):Prop:=∃a o aY n,v=.ref a/\h.get? a=some o/\o.cls=.type "tuple"/\o.data=.seq aY n/\oG zs aY.toList
def TupIs.mono(x:TupIs h v zs)(kp:∀b o,h.get? b=some o->h'.get? b=some o):TupIs h' v zs:=by obtain⟨a,o,aY,n,e,ho,r⟩:=x;exact{a,o,aY,n,e,kp _ _ ho,r}
theorem oG.one:∀{xs ys:Aah}{vs:Aag},oG xs vs->oG ys vs->xs=ys
 |_,_,_,.nil,.nil=>rfl
 |_,_,_,.cons a,.cons b=>by rw[a.one b]
def TupIs.one(a:TupIs h v xs)(b:TupIs h v ys):xs=ys:=by obtain⟨a,o,aY,n,rfl,h1,_,h2,h3⟩:=a;obtain⟨b,p,itq,m,e,q1,_,q2,q3⟩:=b;cases e;rw[h1]at q1;cases q1;rw[h2]at q2;cases q2;exact h3.one q3
open Classical in
def rowOf(h:Heap)(v:Value):Aah:=if x:∃r,TupIs h v r then Classical.choose x else[]
def rK(x:TupIs h v r):rowOf h v=r:=by unfold rowOf;rw[dif_pos ⟨r,x⟩];exact(Classical.choose_spec (⟨r,x⟩:∃r,TupIs h v r)).one x
section
variable{prog:Program}{w:World}{A:Around}{E:Aae}{s:Shared}
def eq_str(h:Q (decide (a=b)) s):wpAny (-5) A (eqBool (.str a t) (.str b u)) Q E s:=
 (PySem.strKind prog w).eqBool (strKind_is _ _ _ _) (strKind_is _ _ _ _) h
theorem MG:∀(xs ys:Aah)(vs us:Aag)(i:Nat)(s:Shared),oG xs vs->oG ys us->(fin=decide (xs.length<ys.length))->C (eT xs ys) s->KatLex prog w A true fin C (vs.zip us) i s
 |[],[],_,_,i,s,.nil,.nil,hf,h=>by refine kat_nil ?_;rw[hf];exact h
 |[],_::_,_,_,i,s,.nil,.cons r,hf,h=>by refine kat_nil ?_;rw[hf];exact h
 |_::_,[],_,_,i,s,.cons r,.nil,hf,h=>by refine kat_nil ?_;rw[hf];exact h
 |a::xs,b::ys,_,_,i,s,.cons (t:=t) r1,.cons (t:=u) r2,hf,h=>by
  refine kat_cons (eq_str ?_);unfold eT at h;by_cases e:a=b
  ·rw[aZ e];rw[aC e]at h;refine kat_yes (MG xs ys _ _ (i+1) s r1 r2 ?_ h);rw[hf];simp
  ·rw[bI e];rw[az e]at h;refine kat_no ?_;cases i with
   |zero=>exact oneLt_str h
   |succ i=>
    have e2:(true&&(i+1==0))=false:=by simp
    rw[e2];refine kat_one _ _ ?_;exact PyProof.Rows.lt_str h
def aaA(hx:TupIs s.heap x xs)(hy:TupIs s.heap y ys)(h:C (eT xs ys) s):wpAny (-5) A (keyLt' (tuples' true) x y) C E s:=by
 obtain⟨a,o,aY,n,rfl,ho,hc,hd,hr⟩:=hx;obtain⟨b,p,itq,m,rfl,hp,hpc,hpd,hq⟩:=hy;refine kat_lt ho hd hp hpd (MG xs ys _ _ 0 s hr hq ?_ h);have len:∀{zs:Aah}{vs:Aag},oG zs vs->zs.length=vs.length:=by
  intro zs vs r
  induction r with
  |nil=>rfl
  |cons _ ih=>simp[ih]
 rw[len hr,len hq,aS,aS]
def T2{vs:Aag}{rows:Aab}(hl:vs.length=rows.length)(h2:2<=vs.length)(ht:∀(i:Nat) v r,vs[i]?=some v->rows[i]?=some r->TupIs s.heap v r)(ig:∀r∈rows,r≠[])(h:Q (tuples' true) s):wpAny (-5) A (keyKind' vs.toArray) Q E s:=by
 have key:∀(vs:Aag)(rows:Aab),vs.length=rows.length->(∀(i:Nat) v r,vs[i]?=some v->rows[i]?=some r->TupIs s.heap v r)->(∀r∈rows,r≠[])->∃fs,KatTups s.heap vs fs/\fs.length=vs.length/\∀f∈fs,∃z t,f=Value.str z t:=by
  intro vs
  induction vs with
  |nil=>intro rows hl _ _;exact{[],KatTups.nil,rfl,λf hf=>nomatch hf}
  |cons v vs ih=>
   intro rows hl ht ig;cases rows with
   |nil=>simp at hl
   |cons r rows=>
    obtain⟨fs,h1,h2,h3⟩:=ih rows (by simpa using hl) (λi v' r' e1 e2=>ht (i+1) v' r' (by simpa using e1) (by simpa using e2)) λr' hr=>ig r' (aB _ hr);obtain⟨a,o,aY,n,rfl,ho,hc,hd,hr⟩:=ht 0 v r rfl rfl;cases r with
    |nil=>exact(ig [] aA rfl).elim
    |cons z zs=>
     generalize eL:aY.toList=L at hr;cases hr with
     |@cons _ t _ o8 zQ=>
      have e0:aY[0]?=some (.str z t):=by rw[<-bJ,eL];rfl
      refine{.str z t::fs,KatTups.cons ho hc hd e0 h1,by simp[h2],λf hf=>?_};rcases aG.mp hf with rfl|hf
      ·exact⟨z,t,rfl⟩
      ·exact h3 f hf
 obtain⟨fs,h1,h3,h4⟩:=key vs rows hl ht ig;refine kat_kind (T:=.type "str") h1 ∅ (λv hv=>?_) (-8) ?_
 ·obtain⟨z,t,rfl⟩:=h4 v hv;exact Looks.of_pure rfl
 ·have e:((Value.type "str") !=Value.type "tuple")=true:=by decide
  rw[e];exact h
def PR(ho:s.heap.get? a=some (seqObj "list" vs.toArray n))(hl:vs.length=rows.length)(ht:∀(i:Nat) v r,vs[i]?=some v->rows[i]?=some r->TupIs s.heap v r)(ig:2<=rows.length->∀r∈rows,r≠[])(Bg:vs.length<1000000)
  (k:∀(h':Heap)(tk c:Nat)(us:Aag),h'.get? a=some (seqObj "list" us.toArray c)->(∀b o,b≠a->s.heap.get? b=some o->h'.get? b=some o)->us.Perm vs->(∀(i:Nat) v r,us[i]?=some v->(kg rows)[i]?=some r->TupIs s.heap v r)->P (.done (.ret .none)) {s with heap:=h',toks:=tk}):
  wpAny (-5) A (Builtin.«list.sort» {[.ref a],[]}) P E s:=by
 by_cases c2:vs.length<2
 ·refine SO ho c2 λh' c g kp=>?_;have e:kg rows=rows:=by
   have:rows.length<2:=by lia
   match rows,this with
   |[],_=>exact(u5 (.refl _) .nil).symm
   |[r],_=>exact(u5 (.refl _) (-9)).symm
   |_::_::_,q=>simp at q;lia
  rw[e]at k;exact k h' s.toks c vs g kp (.refl _) ht
 ·have na:∀v r,TupIs s.heap v r->v≠ .ref a:=λv r x z=>by obtain⟨b,o,aY,m,rfl,hb,hc,_⟩:=x;cases z;rw[ho]at hb;cases hb;have qi:=hc;injection qi with z;exact absurd z (-8)
  have G9:∀s',Tk {s with heap:=iw s.heap a vs} s'->∀(i:Nat) v r,vs[i]?=some v->rows[i]?=some r->TupIs s'.heap v r:=λs' ⟨t,e⟩ i v r e1 e2=>by subst e;have x:=ht i v r e1 e2;have ne:=na v r x;obtain⟨b,o,aY,m,rfl,hb,r⟩:=x;have nb:b≠a:=λz=>ne (by rw[z]);exact{b,o,aY,m,rfl,aq _ (aq _ ((bT s.heap a _).extBut b o nb hb)),r}
  have mr:∀v∈vs,∃r,r∈rows/\TupIs s.heap v r/\∀s',Tk {s with heap:=iw s.heap a vs} s'->TupIs s'.heap v r:=λv hv=>by obtain⟨i,hi,rfl⟩:=fq.mp hv;have e1:=au hi;have e2:=au (l:=rows) (i:=i) ∅;exact{_,gh _,ht i _ _ e1 e2,λs' tk=>G9 s' tk i _ _ e1 e2}
  refine Xx (κ:=tuples' true) (rk:=λv=>Mh rows (rowOf s.heap v)) ho ∅ Bg (λs' tk=>?_) (λx hx y hy s' tk=>?_) λus h' tk c po so g kp=>?_
  ·exact T2 hl ∅ (G9 s' tk) (ig ∅) ⟨rfl,tk⟩
  ·obtain⟨r,m1,t1,k1⟩:=mr x hx;obtain⟨q,m2,t2,k2⟩:=mr y hy;refine aaA (k1 s' tk) (k2 s' tk) {?_,tk};rw[rK t1,rK t2,Vw m1 m2]
  ·have er:us.map (rowOf s.heap)=kg rows:=by
    have ev:vs.map (rowOf s.heap)=rows:=by refine List.ext_getElem (by simpa using hl) λi h1 h2=>?_;rw[vR];exact rK (ht i _ _ (au _) (au h2))
    refine u5 (by rw[<-ev];exact po.map _) (k7.mpr (so.imp_of_mem λ{x y} hx hy q=>?_));obtain⟨r,m1,t1,k1⟩:=mr x (po.mem_iff.mp hx);obtain⟨p,m2,t2,k2⟩:=mr y (po.mem_iff.mp hy);rw[rK t1,rK t2]at q⊢;have z:=Vw m2 m1;rw[bI (FF.mpr q)]at z;show(!eT _ _)=true;rw[<-z];rfl
   refine k h' tk c us g kp po λi v r e1 e2=>?_;rw[<-er,aK,e1]at e2;cases e2;obtain⟨r,m1,t1,k1⟩:=mr v (po.mem_iff.mp (aH e1));rw[rK t1];exact t1
end
end zZ
namespace L2
open PySem PySem.Spec PyProof.Rows zZ
abbrev cT(K:Frag)(H:Hp):Aao->Aab->Prop:=Paired λ(y:V)(zs:Aah)=>∃a,y=.ref a/\bF K H a (zs.map V.str)
theorem IW:∀{zs:Aah}{us:Aag},Vals (zs.map V.str) us->oG zs us
 |[],_,.nil=>.nil
 |z::r,_,.cons ⟨t,e⟩ h=>by subst e;exact .cons (IW h)
theorem QS:∀{zs:Aah}{us:Aag},Vals (zs.map V.str) us->ItemsAre (bH P w) (zs.map Sum.inr) us
 |[],_,.nil=>.nil
 |z::r,_,.cons ⟨t,e⟩ h=>by subst e;exact .cons (CO _ _ _ _) (QS h)
section
variable{X:Cx}{pins:Aac}{Z:St}{H:Hp}{s:Shared}
def Inv.row(I:Inv X pins Z H s)(h:bF X.K H a (zs.map V.str)):TupIs s.heap (-51) zs/\IsTupleKey (bH X.prog X.w) s.heap (zs.map Sum.inr) a:=by obtain⟨aY,r,⟨o,e,c,n,d⟩,_⟩:=I.tuple h;exact{{a,o,aY.toArray,n,rfl,e,c,d,by simpa using IW r},{o,aY.toArray,n,e,c,d,by simpa using QS r}}
theorem Inv.rows(I:Inv X pins Z H s):∀{ys:Aao}{rows:Aab}{us:Aag},cT X.K H ys rows->Vals ys us->∃bs:Aaj,us=bs.map Value.ref/\ys=bs.map V.ref/\bs.length=rows.length/\∀(i:Nat) z b,rows[i]?=some z->bs[i]?=some b->bF X.K H b (z.map V.str)
 |_,_,_,.nil,.nil=>{[],rfl,rfl,rfl,λi z b e=>by simp at e}
 |_,_,_,.cons (b:=zs) ⟨a,e,h⟩ r,.cons (b:=u) ru q=>by
  obtain⟨bs,h1,h2,h3,h4⟩:=I.rows r q;subst e;cases(show u=Value.ref a from ru);refine{a::bs,by rw[h1];rfl,by rw[h2];rfl,by simp[h3],λi z b e1 e2=>?_};cases i with
  |zero=>cases e1;cases e2;exact h
  |succ i=>exact h4 i z b (by simpa using e1) (by simpa using e2)
end
theorem Mf{K:Frag}:∀{bs:Aaj}{rows:Aab},bs.length=rows.length->(∀(i:Nat) z b,rows[i]?=some z->bs[i]?=some b->bF K H b (z.map V.str))->cT K H (bs.map V.ref) rows
 |[],[],_,_=>.nil
 |[],_::_,h,_=>by simp at h
 |_::_,[],h,_=>by simp at h
 |b::bs,z::rows,h,k=>.cons {b,rfl,k 0 z b rfl rfl} (Mf (by simpa using h) λi z' b' e1 e2=>k (i+1) z' b' (by simpa using e1) (by simpa using e2))
theorem LN:∀bs:Aaj,Vals (bs.map V.ref) (bs.map Value.ref)
 |[]=>.nil
 |b::bs=>.cons rfl (LN bs)
def abQ:Value->Addr
 | .ref a=>a
 |_=>0
def XI(h:us.Perm (bs.map Value.ref)):∃cs:Aaj,us=cs.map Value.ref/\cs.Perm bs:=by
 have all:∀{us:Aag},(∀u∈us,∃b,u=Value.ref b)->∃cs:Aaj,us=cs.map Value.ref:=by
  intro us
  induction us with
  |nil=>intro _;exact{[],rfl}
  |cons u us ih=>
   intro hu;obtain⟨b,rfl⟩:=hu u aA;obtain⟨cs,rfl⟩:=ih λv hv=>hu v (aB _ hv);exact{b::cs,rfl}
 obtain⟨cs,rfl⟩:=all λu hu=>by obtain⟨b,_,e⟩:=aR.mp (h.mem_iff.mp hu);exact{b,e.symm}
 refine{cs,rfl,?_};have e:∀l:Aaj,(l.map Value.ref).map abQ=l:=λl=>by
  induction l with
  |nil=>rfl
  |cons a l ih=>exact bU (a::·) ih
 rw[<-e cs,<-e bs];exact h.map _
def zb:Aab->Aab
 |[]=>[]
 |r::l=>if r∈l then zb l else r::zb l
theorem vn(x:Aah):∀l,x∈zb l↔x∈l
 |[]=>Cb
 |r::l=>by
  unfold zb;by_cases c:r∈l
  ·rw[aC c,vn x l,aG];exact{.inr,λh=>h.elim (λe=>e▸c) id}
  ·rw[az c,aG,aG,vn x l]
theorem uE:∀l,(zb l).Nodup
 |[]=>fJ
 |r::l=>by
  unfold zb;by_cases c:r∈l
  ·rw[aC c];exact uE l
  ·rw[az c];exact cX.mpr {λh=>c ((vn r l).mp h),uE l}
def eO(l:Aab):Aab:=kg (zb l)
def pN(nd:l.Nodup)(h:∀r,r∈l↔r∈rows):kg l=eO rows:=
 CG ((tV nd (uE rows)).mpr λr=>by rw[h,vn])
def hG(x:Aah)(l:Aab):x∈eO l↔x∈l:=by unfold eO;rw[(lU _).mem_iff,vn]
section
variable{prog:Program}{w:World}{A:Around}{E:Aae}{s:Shared}
def Ld{Q:Aae}(hl:vs.length=rows.length)(ht:∀(i:Nat) v r,vs[i]?=some v->rows[i]?=some r->TupIs s.heap v r)(ig:2<=rows.length->∀r∈rows,r≠[])(Bg:vs.length<1000000)
  (k:∀(h':Heap)(tk c:Nat)(us:Aag),h'.get? s.heap.objs.size=some (seqObj "list" us.toArray c)->(∀b o,s.heap.get? b=some o->h'.get? b=some o)->us.Perm vs->(∀(i:Nat) v r,us[i]?=some v->(kg rows)[i]?=some r->TupIs s.heap v r)->Q (-12) {s with heap:=h',toks:=tk}):
  wpAny (-5) A (newList vs>>=λl=>holding [l] (call (.builtin "list.sort") [l] [])>>=λ_=>ret l) (λfin s'=>∃v,fin=Fin.done (.ret v)/\Q v s') E s:=by
 refine af (tK ?_ (by rw[b8];lia));have E3:(s.heap.push (seqObj "list" vs.toArray 0)).get? s.heap.objs.size=some (seqObj "list" vs.toArray 0):=aF _ rfl;refine af (bQ (bz slot_list_sort ⟨_,E3,rfl⟩ entry_list_sort (PR E3 hl (λi v r e1 e2=>(ht i v r e1 e2).mono λb o e=>aq _ e) ig Bg λh' tk c us g kp pm q=>{_,rfl,?_}) (args_list_sort _)));refine ao {_,rfl,k h' tk c us g (λb o e=>kp b o (aL (aI e)) (aq _ e)) pm λi v r e1 e2=>?_};have x:=q i v r e1 e2;have hv:=pm.mem_iff.mp (aH e1);obtain⟨j,hj⟩:=dy.mp hv;have sV:j<rows.length:=by have:=(ax.mp hj).1;lia
 have y:=ht j v _ hj (au sV);obtain⟨b,o,aY,m,rfl,hb,r1⟩:=y;obtain⟨b',o',its',m',e',kJ,r1'⟩:=x;cases e';have:o'=o:=by have:=aq (seqObj "list" vs.toArray 0) hb;exact bN (kJ.symm.trans this)
 subst this;exact⟨b,o',its',m',rfl,hb,r1'⟩
variable{X:Cx}
def SortedTo(K:Frag)(H:Hp)(ys:Aao)(rows:Aab)(Q:VK):Prop:=∀l zs,H l=none->cT K H zs (kg rows)->(∀z∈zs,z∈ys)->Q (.ref l) (upd H l (.lst zs))
def Et{pins:Aac}{Z:St}{H:Hp}{s s1:Shared}{bs:Aaj}{rows:Aab}{Q:VK}(I:Inv X pins Z H s1)(lb:bs.length=rows.length)(hb:∀(i:Nat) z b,rows[i]?=some z->bs[i]?=some b->bF X.K H b (z.map V.str))(ig:2<=rows.length->∀r∈rows,r≠[])(Bg:rows.length<1000000)(q:SortedTo X.K H (bs.map V.ref) rows Q){A:Around}{E:Aae}:
  wpAny (-6) A (newList (bs.map Value.ref)>>=λl=>holding [l] (call (.builtin "list.sort") [l] [])>>=λ_=>ret l) (λfin s'=>∃v,fin=Fin.done (.ret v)/\EP X pins Z Q v s') E s1:=by
 refine Ld (by rw[ak];exact lb) (λi v r e1 e2=>?_) ig (by rw[ak];lia) λh' tk c us g kp pm srt=>?_
 ·rw[aK]at e1;obtain⟨b,e3,rfl⟩:=aX.mp e1;exact(I.row (hb i r b e2 e3)).1
 ·obtain⟨cs,rfl,pc⟩:=XI pm;have lc:cs.length=rows.length:=by rw[pc.length_eq,lb]
  have lz:(cs.map V.ref).length<=sizeLine:=by rw[ak,b8];lia
  refine{.ref s1.heap.objs.size,_,I.laid kp (ar _) (show dG X.prog X.w _ _ _ (.lst (cs.map V.ref))from{lz,cs.map Value.ref,c,LN cs,g}),rfl,q _ (cs.map V.ref) (-72) (Mf (by rw[lc,(lU rows).length_eq]) λi z b e1 e2=>?_) λz hz=>(pc.map _).mem_iff.mp hz};have t:=srt i (.ref b) z (by rw[aK,e2];rfl) e1;obtain⟨j,hj⟩:=dy.mp (pc.mem_iff.mp (aH e2));have sV:j<rows.length:=by have:=(ax.mp hj).1;lia
  have hr:=hb j _ b (au sV) hj;have t2:=(I.row hr).1;have e:rows[j]=z:=by
   obtain⟨b1,o1,i1,n1,e1,g1,c1,d1,r1⟩:=t;obtain⟨b2,o2,i2,n2,e2,g2,c2,d2,r2⟩:=t2;cases e1;cases e2;rw[g1]at g2;cases g2;rw[d1]at d2;cases d2;have inj:∀{x y:Aah}{vs:Aag},oG x vs->oG y vs->x=y:=by
    intro x y vs hx
    induction hx generalizing y with
    |nil=>intro hy;cases hy;rfl
    |cons _ ih=>intro hy;cases hy with|cons hy=>rw[ih hy]
   exact inj r2 r1
  rw[<-e];exact hr
def Jl{α β:Type}{f:α->β}:∀{l k:List β},l.Perm k->∀{m:List α},k=m.map f->∃m':List α,m'.Perm m/\l=m'.map f:=by
 intro l k h
 induction h with
 |nil=>intro m e;exact{m,.refl _,e}
 |@cons x l1 l2 _ ih=>
  intro m e;cases m with
  |nil=>cases e
  |cons a m=>
   rw[aU]at e;injection e with e1 e2;obtain⟨m',p,q⟩:=ih e2;exact{a::m',p.cons a,by rw[e1,q];rfl}
 |swap x y l=>
  intro m e
  match m,e with
  |a::b::m,e=>
   rw[aU,aU]at e;injection e with e1 e2;injection e2 with e2 e3;exact{b::a::m,.swap _ _ _,by rw[e1,e2,e3];rfl}
 |trans _ _ ih1 Q6=>
  intro m e;obtain⟨m1,p1,q1⟩:=Q6 e;obtain⟨m2,p2,q2⟩:=ih1 q1;exact{m2,p2.trans p1,q2}
def pG:Key->Str
 | .inr z=>z
 | .inl _=>""
def wb(z:Aah):(z.map (Sum.inr:Str->Key)).map pG=z:=by
 induction z with
 |nil=>rfl
 |cons a z ih=>exact bU (a::·) ih
end
def kB(P:Program)(w:World)(a:Addr)(us:List (Aah×Addr)):Heap->Prop:=λh=>∃o ep t,h.get? a=some o/\o.ExactSet/\o.data=.set (us.map λx=>Tb.ent (bH P w) (x.1.map Sum.inr,x.2)).toArray ep t/\t.fits us.length=true/\t.led=Tb.pQ w/\Tb.nN t.place
def XA(x:kB P w a us h):dG P w H h a (.ext (kB P w a us)):=
 {x,let⟨o,_,_,q,_⟩:=x;⟨o,q⟩,λ_ _ ⟨o,ep,t,q,r⟩ k=>{o,ep,t,k _ q,r}}
section
variable{X:Cx}{pins:Aac}{Z:St}{H:Hp}{s:Shared}{h':Heap}
def Inv.acp(I:Inv X pins Z H s)(k:∀b u,s.heap.get? b=some u->h'.get? b=some u):Inv X pins Z H {s with heap:=h',drawn:=d',toks:=t'}:=
 I.step (g':=s.gens) (ch:=[]) (λ_ z=>nomatch z) (λb o _ _ _ e _=>k b o e) (λb o _ _ _ e _=>{o.slots,k b o e}) (λ_ _ _ _ n=>n) (λb o _ e=>{o,k b o e}) (λ_ _ e=>e) (λ_ _ _ e=>e) (λb ps e=>{#[],by rw[e];simp}) (λm hm=>by obtain⟨o,es,ep,ho,r⟩:=hm;exact{o,es,ep,k _ _ ho,r}) (I.br.kept k) I.bare
end
section
variable{X:Cx}
def Bq(hA:X.A.handled=none)(hu:X.A.units+64<cLine):jv X (.type "set") (λxs H Q=>∃p ys rows,xs=[.ref p]/\bp X.K H p ys/\cT X.K H ys rows/\rows.length<=1000/\∀a us,H a=none->(us.map (·.1)).Nodup->(∀r,r∈us.map (·.1)↔r∈rows)->us.length<=rows.length->(∀x∈us,bF X.K H x.2 (x.1.map V.str)/\V.ref x.2∈ys)->Q (-51) (upd H a (.ext (kB X.prog X.w a us)))):=by
 intro pins s Z H xs us Q I r h;obtain⟨p,ys,rows,rfl,hq,hr,hz,q⟩:=h;obtain⟨u,rfl,rx⟩:=lP r;cases rx;obtain⟨aY,r',pl,_⟩:=I.list hq;obtain⟨bs,rfl,rfl,lb,hb⟩:=I.rows hr r';refine Tb.R6 (knd:=bH X.prog X.w) (ks:=rows.map λz=>z.map Sum.inr) (bs:=bs) hA (by show X.A.units+1+1+1<cLine;lia) pl.isList (-9) (by rw[ak,lb]) (λi k b e1 e2=>?_) ∅ λh' tk o ep t xs S hl hH kp=>?_
 ·rw[aK]at e1;obtain⟨z,e3,rfl⟩:=aX.mp e1;exact(I.row (hb i z b e3 e2)).2
 ·have inj:∀x∈xs,∃(j:Nat)(z:Aah),rows[j]?=some z/\x.1=z.map Sum.inr/\bs[j]?=some x.2:=λx hx=>by obtain⟨j,j1,j2⟩:=hH.HR x hx;rw[aK]at j1;obtain⟨z,e3,e4⟩:=aX.mp j1;exact{j,z,e3,e4.symm,j2}
  have back:(xs.map λx=>(x.1.map pG,x.2)).map (λx=>((x.1.map Sum.inr:List Key),x.2))=xs:=by
   rw[bW];have:∀x∈xs,((λx:Aah×Addr=>((x.1.map Sum.inr:List Key),x.2))∘λx:List Key×Addr=>(x.1.map pG,x.2)) x=x:=λx hx=>by obtain⟨j,z,_,e,_⟩:=inj x hx;show((x.1.map pG).map Sum.inr,x.2)=x;rw[e,wb];exact Ed e.symm rfl
   rw[bX this,List.map_id']
  have fst:∀r,r∈(xs.map λx=>(x.1.map pG,x.2)).map (·.1)↔r∈rows:=λr=>by
   rw[bW,aR];constructor
   ·rintro⟨x,hx,rfl⟩;obtain⟨j,z,e1,e,_⟩:=inj x hx;show x.1.map pG∈rows;rw[e,wb];exact aH e1
   ·intro hr;have:r.map Sum.inr∈xs.map (·.1):=(hH.mem _).mpr (by
     rw[dU (by rw[ak,lb];exact ar _)];exact aR.mpr ⟨r,hr,rfl⟩)
    obtain⟨x,hx,e⟩:=aR.mp this;exact{x,hx,by show x.1.map pG=r;rw[e,wb]}
  have nd:((xs.map λx=>(x.1.map pG,x.2)).map (·.1)).Nodup:=by
   have h1:=S.nd;rw[<-back,bW]at h1;have h2:((xs.map λx=>(x.1.map pG,x.2)).map ((·.1)∘λx:Aah×Addr=>((x.1.map Sum.inr:List Key),x.2)))=((xs.map λx=>(x.1.map pG,x.2)).map (·.1)).map λz=>z.map Sum.inr:=by simp only[bW];rfl
   rw[h2]at h1;exact(k7.mp h1).imp λne e=>ne (by rw[e])
  have hd:o.data=.set ((xs.map λx=>(x.1.map pG,x.2)).map λx=>Tb.ent (bH X.prog X.w) (x.1.map Sum.inr,x.2)).toArray ep t:=by rw[S.data];congr 2;have:=bU (List.map (Tb.ent (bH X.prog X.w))) back;rw[bW]at this;exact this.symm
  refine{.ref s.heap.objs.size,_,I.laid (t':=tk) kp (ar _) (XA {o,ep,t,S.ob,S.ex,hd,?_,hl,S.tab.rise}),rfl,q _ _ (-72) nd fst ?_ λx hx=>?_}
  ·have:=S.fits;simpa using this
  ·rw[ak];have:=hH.len;lia
  ·obtain⟨y,hy,rfl⟩:=aR.mp hx;obtain⟨j,z,e1,e,e2⟩:=inj y hy;refine{?_,aR.mpr {y.2,aH e2,rfl}};show bF X.K H y.2 ((y.1.map pG).map V.str);rw[e,wb];exact hb j z y.2 e1 e2
def rU(hA:X.A.handled=none):jv X (.builtin "sorted") (λxs H Q=>∃a us ys,xs=[.ref a]/\H a=some (.ext (kB X.prog X.w a us))/\(∀x∈us,bF X.K H x.2 (x.1.map V.str)/\V.ref x.2∈ys)/\(2<=us.length->∀x∈us,x.1≠[])/\us.length<1000/\SortedTo X.K H ys (us.map (·.1)) Q):=by
 intro pins s Z H xs us Q I r h;obtain⟨a,Vd,ys,rfl,ha,hx,ig,Bg,q⟩:=h;obtain⟨u,rfl,rx⟩:=lP r;cases rx;obtain⟨⟨o,ep,t,ho,hex,hd,hf,hl,acz⟩,_⟩:=(show dG X.prog X.w H s.heap a (.ext (kB X.prog X.w a Vd))from I.br a _ ha);refine jN CW AK Bl (BA _) ?_;unfold Builtin.«sorted»;refine af (m:=checkCount "sorted" 1 1 _) (ao ?_);refine af (Tb.Lv (A:=X.A.in1) (by simpa using hA) {⟨o,ho,hex,hd⟩,by simpa using hf,hl,acz} (by simp;lia) λh' tk d vs pm kp=>?_);have e0:(Vd.map λx=>Tb.ent (bH X.prog X.w) (x.1.map Sum.inr,x.2)).toArray.toList.map (·.2)=Vd.map λx=>Value.ref x.2:=by simp[ur]
 rw[e0]at pm;obtain⟨o8,pv,rfl⟩:=Jl pm rfl;have lb:(o8.map (·.2)).length=(o8.map (·.1)).length:=by rw[ak,ak]
 have lu:=pv.length_eq;have e1:(o8.map λx=>Value.ref x.2)=(o8.map (·.2)).map Value.ref:=by rw[bW];rfl
 rw[e1];have sc:kg (o8.map (·.1))=kg (Vd.map (·.1)):=CG (pv.map _);refine Et (s:=s) (I.acp (t':=tk) (d':=d) kp) lb (λi z b e2 e3=>?_) (λh2 r hr=>?_) (by rw[ak];lia) λl zs jF hz hm=>?_
 ·rw[aK]at e2 e3;obtain⟨x,ex,rfl⟩:=aX.mp e2;rw[ex]at e3;cases e3;exact(hx x (pv.mem_iff.mp (aH ex))).1
 ·obtain⟨x,hxm,rfl⟩:=aR.mp hr;exact ig (by rw[ak]at h2;lia) x (pv.mem_iff.mp hxm)
 ·rw[sc]at hz;refine q l zs jF hz λz hzm=>?_;obtain⟨b,hb,rfl⟩:=aR.mp (hm z hzm);obtain⟨x,hxm,rfl⟩:=aR.mp hb;exact(hx x (pv.mem_iff.mp hxm)).2
def KR(hA:X.A.handled=none):jv X (.builtin "sorted") (λxs H Q=>∃(a:Addr)(kvs:List (Key×V))(zs:Aah),xs=[.ref a]/\H a=some (.dK kvs)/\kvs.map (·.1)=zs.map Sum.inr/\zs.length<64/\∀l,H l=none->Q (.ref l) (upd H l (.lst ((iV zs).map V.str)))):=by
 intro pins s Z H xs us Q I r h;obtain⟨a,kvs,zs,rfl,ha,hk,Bg,q⟩:=h;obtain⟨u,rfl,ru⟩:=lP r;cases ru;obtain⟨hz,lo,vs,rel,o,es,ep,m⟩:=oB I.br ha;have at':s.heap.DictAt (bH X.prog X.w) a vs ep:=⟨o,es,m⟩;have hl:kvs.length=vs.length:=rel.length;have Ro:kvs.map (·.1)=vs.map (·.1):=rel.keys;refine jN CW AK Bl (BA _) ?_;unfold Builtin.«sorted»;refine af (m:=checkCount "sorted" 1 1 _) (ao ?_);refine af (Ag (A:=X.A.in1) (PySem.W.kdl_dict lo) (by simpa using hA) at' (by rw[<-hl];exact hz) λh' tk acc kp it=>?_);have hS:StrsAre acc.toList zs:=by
  have len:acc.toList.length=zs.length:=by have e1:=bU List.length hk;simp only[ak]at e1;rw[aS,it.1];lia
  have at_:∀(j:Nat)(v:Value),acc.toList[j]?=some v->∃t,v=.str (zs.getD j "") t:=λj v e=>by
   obtain⟨k,y,e3,e4⟩:=it.2 j v (by rw[<-bJ];exact e);have e5:(zs.map (Sum.inr:Str->Key))[j]?=some k:=by rw[<-hk,Ro,aK,e3];rfl
   rw[aK]at e5;obtain⟨z,e6,rfl⟩:=aX.mp e5;have e8:RelV (kV (Sum.inr z)) v:=rL (k:=Sum.inr z) e4;obtain⟨t,e7⟩:=(show∃t,v=Value.str z t from e8);exact{t,by rw[e7,cq,e6];rfl}
  have go:∀(us:Aag)(zs:Aah),us.length=zs.length->(∀(j:Nat)(v:Value),us[j]?=some v->∃t,v=.str (zs.getD j "") t)->StrsAre us zs:=by
   intro us
   induction us with
   |nil=>intro zs hl _;rw[fg.mp hl.symm];exact .nil
   |cons u us ih=>
    intro zs hl hk;cases zs with
    |nil=>simp at hl
    |cons z zs=>
     obtain⟨t,rfl⟩:=hk 0 u rfl;exact .cons z t (ih zs (by simpa using hl) λj v e=>by obtain⟨t,e'⟩:=hk (j+1) v (by simpa using e);exact{t,by simpa using e'})
  exact go _ _ len at_
 have aeg:acc.toList.length<64:=by have:=hS.strs;rw[<-this,ak]at Bg;exact Bg
 refine af (tK ?_ (by rw[b8];lia));have E3:(h'.push (-32)).get? h'.objs.size=some (-32):=aF _ rfl;have I1:Inv X pins Z H {s with heap:=h',toks:=tk}:=I.kept kp;refine af (bQ (bz slot_list_sort ⟨_,E3,rfl⟩ entry_list_sort (list_sort_treeK strKind_oneLt (s:={s with heap:=h'.push (-32),toks:=tk}) E3 hS.keysOf (λaeG aeF rest e=>keyKind_strs (by rw[<-e];exact hS)) aeg λg7 hp hs=>{_,rfl,?_}) (args_list_sort _)));obtain⟨ss',h1,h2,h3⟩:=sorted_out_str hS hp hs;have e:=SQ h2 h3;subst e;generalize (arrOf g7).map (·.2)=out at h1;have lt:h'.objs.size<(h'.push (-32)).objs.size:=aI E3;have ln:((iV zs).map V.str).length<=sizeLine:=by rw[ak,(lT zs).length_eq];exact bu (bC ∅)
 obtain⟨n,he⟩:∃n,(sortedHeap (h'.push (-32)) h'.objs.size acc.toList out).get? h'.objs.size=some (seqObj "list" out n):=by obtain⟨e1,A8⟩:∃e1,((h'.push (-32)).update h'.objs.size (-47)).get? h'.objs.size=some (seqObj "list" #[] e1):={_,get?_update_seq E3 λ_=>#[]};have ho3:=aq (seqObj "list" #[] 0) (aq (seqObj "tuple" acc.toList.toArray 0) A8);exact{_,get?_update_seq ho3 λ_=>out}
 have old:∀b o,h'.get? b=some o->(sortedHeap (h'.push (-32)) h'.objs.size acc.toList out).get? b=some o:=λb o e=>by have nb:b≠h'.objs.size:=aL (aI e);have g1:=aq (-32) e;have g2:=(bT (h'.push (-32)) h'.objs.size (-47)).extBut b o nb g1;have g3:=aq (seqObj "list" #[] 0) (aq (seqObj "tuple" acc.toList.toArray 0) g2);exact(bT _ h'.objs.size (Obj.mapSeq λ_=>out)).extBut b o nb g3
 refine ao {_,rfl,.ref h'.objs.size,_,I1.laid (t':=tk) old (ar _) (show dG X.prog X.w _ _ _ (.lst ((iV zs).map V.str))from{ln,out.toList,n,Iy h1,?_}),rfl,q _ (I1.br.fresh (ar _))};exact he
end
def VS(hl:(apos.endLine==fD.line)=true:=by rfl)(hb:attributeBase (.Name d pd) "get" X.env (eval (.Name d pd) X.env)=eval (.Name d pd) X.env:=by rfl):M2 X (.Name d pd) "get" apos (.Name x px) (.List [] pl) fD:=⟨hb,rfl,hl,rfl⟩
section
variable{prog:Program}{w:World}{A:Around}{E:Aae}{s:Shared}{d it:Addr}{o:Obj}{es:Array DictEntry}{ep i:Nat}
def BZ(lo:(d==sysModules)=false)(ho:s.heap.get? d=some o)(hx:o.ExactDict)(hd:o.data=.dict es ep)
  (q:Q (-12) {s with heap:=s.heap.push {cls:=.type "dict_keyiterator",data:=.fields #[.ref d,.int 0 0,.int es.size 0,.int ep 0]}}):wpAny (-5) A (pyIter (.ref d)) Q E s:=by
 have ty:s.TypeIs (.ref d) "dict":={o,ho,hx.1};refine oQ ty xi (bz xi ty PySem.F.entry_dict_iter ?_ (PySem.F.args_dict_iter_1 _));unfold Builtin.«dict.__iter__» Builtin.Dict.dictSlotNone;refine af (af (jm ty (ao (a:=Value.ref d) ?_)));show wpAny _ _ (Builtin.Dict.showsAll d>>=_) _ _ s;unfold Builtin.Dict.showsAll;rw[lo];refine af (ao (af (gF ho hd (af (kH ho hd ?_)))));exact af (cx (ao {_,rfl,"dict_keyiterator",_,{_,aF _ rfl,rfl},eU.lookup,q}))
def P4(hit:s.heap.IsKeyIter it d i es.size ep)(ho:s.heap.get? d=some o)(hd:o.data=.dict es ep)(hi:i<es.size)
  (q:∀h',h'.IsKeyIter it d (i+1) es.size ep->Heap.SameBut it s.heap h'->Q (some es[i].key) {s with heap:=h'}):wpAny (-5) A (pyNext (.ref it)) Q E s:=by
 obtain⟨oi,Hh,ci,di⟩:=id hit;unfold pyNext;refine af (dZ (wpAny_callSpecial?_slot (name:=Str.ofString "__next__") hit.typeIs eU (bz eU hit.typeIs oH ?_ (nW _))));refine af (ao (af (af (af (iJ hit.typeIs (ao ?_))))));refine af (iP Hh di ?_);have own:Builtin.Dict_items.ownsTuple "dict_keyiterator"=false:=by decide
 simp only[own,cw,d6];show wpAny _ _ (if(-73)=true then _ else _) _ _ s;rw[az (show ¬((-73)=true)from aW)];refine af (ao (af (gF ho hd ?_)));rw[az (-9)];refine af (ao (af (kH ho hd ?_)));rw[az (-9)];refine ao ?_;simp only[show ¬((i:Int)<0)from by lia,d6,cZ,bD hi];refine af (af (iJ hit.typeIs (ao (af (xx hit.typeIs ?_)))));show wpAny _ _ (setField (.ref it) 1 (rawInt ((i:Int)+1))>>=_) _ _ s;refine af (fH Hh di (-9) ?_);have OJ:(s.heap.update it (Obj.mapFields (·.setIfInBounds 1 (rawInt ((i:Int)+1))))).IsKeyIter it d (i+1) es.size ep:=
  {_,cH _ Hh (yq (nY di _)),(Cs ..).trans ci,by rw[nY di];simp[rawInt]}
 refine af (bQ (af (xx (s:={s with heap:=s.heap.update it (Obj.mapFields (·.setIfInBounds 1 (rawInt ((i:Int)+1))))}) OJ.typeIs ?_)));show wpAny _ _ (pure es[i].key) _ _ _;exact ao (ao {_,rfl,ao (q _ OJ (bT ..))})
def GO(hh:A.handled=none)(hit:s.heap.IsKeyIter it d i es.size ep)(ho:s.heap.get? d=some o)(hd:o.data=.dict es ep)(hi:es.size<=i)
  (q:∀h',(∀b x,b≠it->s.heap.get? b=some x->h'.get? b=some x)->Q none {s with heap:=h'}):wpAny (-5) A (pyNext (.ref it)) Q E s:=by
 obtain⟨oi,Hh,ci,di⟩:=id hit;unfold pyNext;refine af (dZ (wpAny_callSpecial?_slot (name:=Str.ofString "__next__") hit.typeIs eU (bz eU hit.typeIs oH ?_ (nW _))));refine af (ao (af (af (af (iJ hit.typeIs (ao ?_))))));refine af (iP Hh di ?_);have own:Builtin.Dict_items.ownsTuple "dict_keyiterator"=false:=by decide
 simp only[own,cw,d6];show wpAny _ _ (if(-73)=true then _ else _) _ _ s;rw[az (show ¬((-73)=true)from aW)];refine af (ao (af (gF ho hd ?_)));rw[az (-9)];refine af (ao (af (kH ho hd ?_)));rw[az (-9)];refine ao ?_;simp only[show ¬((i:Int)<0)from by lia,d6,cZ,kT hi];refine af (af (iJ hit.typeIs (ao ?_)));show wpAny _ _ (setField (.ref it) 0 .none>>=_) _ _ s;refine af (fH Hh di (-9) ?_);refine Tb.BS (s:=s) (show A.in1.handled=none from hh) λh' e kp adJ=>?_;obtain⟨oe,he,ce⟩:=adJ;exact af (f6 (T:="StopIteration") (b:=true) ⟨oe,he,ce⟩ jQ (ao (q _ λb x nb g=>kp b x ((bO _ _ (cb nb)).trans g))))
end
def DX(P:Program)(w:World)(d:Addr)(kvs:List (Key×V))(ok ov:V):Heap->Prop:=λh=>(d==sysModules)=false/\∃o es ep vs e,h.get? d=some o/\o.ExactDict/\o.data=.dict (es.push e) ep/\KV kvs vs/\KeysOf (bH P w) es/\Pairs (bH P w) es.toList vs/\(vs.map (·.1)).Nodup/\RelV ok e.key/\RelV ov e.val/\kvs.length<=1000
section
variable{X:Cx}{pins:Aac}{Z:St}{H:Hp}{s:Shared}
def Inv.F5(I:Inv X pins Z H s)(hd:H d=some (.ext φ))(ho:s.heap.get? d=some o):Inv X pins Z (upd H d (.de o (.ext φ))) s:=by
 have nd:∀b u,H b=some u->(∀l,u≠ .ext l)->b≠d:=λb u q n z=>by rw[z,hd]at q;exact n φ (bN q).symm
 have ig:∀b,H b=none->b≠d:=λb q z=>by rw[z,hd]at q;cases q
 refine I.un {λb u e _ _ _=>e,λb u e _ _ _=>{u.slots,e},λb u e n _=>by rw[aE (ig b n)];exact n,λb u e _=>⟨u,e⟩,λb xs q=>by rw[aE (nd b _ q λl z=>by cases z)];exact q,λb u v q=>by rw[aE (nd b _ q λl z=>by cases z)];exact q,λb ps q=>{#[],by rw[aE (nd b _ q λl z=>by cases z),q];simp}} λb u g=>?_;by_cases hb:b=d
 ·subst hb;rw[aw]at g;cases g;exact{ho,I.br b _ hd}
 ·rw[aE hb]at g;exact(I.br b u g).jx (λc v hc q=>q) (λc q=>by rw[aE (nd c _ q λl z=>by cases z)];exact q) λc ys q=>by rw[aE (nd c _ q λl z=>by cases z)];exact q
def Inv.ND(I:Inv X pins Z H s)(hd:H d=some (.de o u))(hn:∀u v,X.aae d≠some (.de u v)):Inv X pins Z (upd H d u) s:=by
 have nd:∀b u,H b=some u->(∀v l,u≠ .de v l)->b≠d:=λb u q n z=>by rw[z,hd]at q;exact n _ _ (bN q).symm
 have ig:∀b,H b=none->b≠d:=λb q z=>by rw[z,hd]at q;cases q
 refine{I.ok,I.os,I.bare,{I.base.keep,I.base.slot,λb u e n hx=>?_,I.base.there,λb xs q=>?_,λb u v q=>?_,λb ps q=>?_},I.loc,I.cell,?_,λx c e=>?_,λp hp=>?_,λb v g=>?_,I.len}
 ·have z:=I.base.free b u e n hx;rw[aE (ig b z)];exact z
 ·have z:=I.base.ng b xs q;rw[aE (nd b _ z λv l t=>by cases t)];exact z
 ·have z:=I.base.tP b u v q;rw[aE (show b≠d fromλt=>hn u v (by rw[<-t];exact q))];exact z
 ·obtain⟨m,z⟩:=I.base.yE b ps q;exact{m,by rw[aE (nd b _ z λv l t=>by cases t)];exact z}
 ·rw[aE (ig _ I.free)];exact I.free
 ·rw[aE (ig _ (I.oA x c e))];exact I.oA x c e
 ·obtain⟨a1,a2,a3,a4,a5⟩:=I.pin p hp;exact{a1,by rw[aE (ig _ a2)];exact a2,a3,a4,a5}
 ·by_cases hb:b=d
  ·subst hb;rw[aw]at g;cases g;exact((I.br b _ hd).2).jx (λc v hc q=>q) (λc q=>by rw[aE (nd c _ q λv l z=>by cases z)];exact q) λc ys q=>by rw[aE (nd c _ q λv l z=>by cases z)];exact q
  ·rw[aE hb]at g;exact(I.br b v g).jx (λc v hc q=>q) (λc q=>by rw[aE (nd c _ q λv l z=>by cases z)];exact q) λc ys q=>by rw[aE (nd c _ q λv l z=>by cases z)];exact q
end
inductive PB(t:TE)(Z:St)(H:Hp)(Q:VK):Prop
 |mk (d:Addr) (_:(∀u v,H d≠some (.de u v))) (_:t Z H λv H'=>∃o u,H' d=some (.de o u)/\Q v (upd H' d u))
def Jn(h:PE X e t):PE X e (PB t):=by intro pins s Z H Q I ht;obtain⟨d,hd,ht⟩:=ht;have h0:=λu v e=>hd u v (I.base.tP d u v e);refine df (h pins s Z H _ I ht) λv s1 x H1 I1 r1 ⟨o,u,e,q⟩=>{x,_,I1.ND e h0,r1,q}
def HB(d:Addr)(o:Obj)(u:HO)(kvs:Aam):It:=
 {λi H=>H d=some (.de o u)/\i<kvs.length,λi H x H'=>H'=H/\∃kv,kvs[i]?=some kv/\x=kv.1,λi H=>H d=some (.de o u)/\kvs.length<=i}
def K7(o:Obj)(es:Array DictEntry)(ep:Nat)(kvs:Aam):Prop:=o.ExactDict/\o.data=.dict es ep/\Paired (-57) kvs es.toList
def Ie{K:Frag}(m:K7 o es ep kvs):Turn P w K tg (HB d o u kvs) [it] it (λi h=>h.IsKeyIter it d i es.size ep) where
 mem:=by simp
 obj:=λi h st b hb=>by
  have e:b=it:=by simpa using hb
  subst e;obtain⟨v,e,c,q⟩:=st;exact{v,e,λv z=>by rw[q]at z;cases z}
 keep:=λi h h' st k=>by obtain⟨v,e,r⟩:=st;exact{v,k it (-9) v e,r}
 item:=by
  intro X hP hw hK hc i pins s Z H E I hf st hg;obtain⟨hd,hi⟩:=hg;have hl:kvs.length=es.size:=by rw[bw m.2.2,aS]
  have ga:=(I.br d _ hd).1;obtain⟨f0,f1,f2,f3,f4,f5⟩:=hf it (-9);obtain⟨kv,jd⟩:∃kv,kvs[i]?=some kv:={_,au hi};have Rq:i<es.size:=by lia
  obtain⟨e,he,r⟩:=Paired.at' m.2.2 jd;have ee:es[i]=e:=by rw[bJ,bD Rq]at he;exact bN he
  refine P4 st ga m.2.1 Rq λh' g7 sb=>?_;have I1:=I.turned (t':=s.toks) (λb o hb e=>(sb.2 b hb).trans e) f0 f1 f3 f4 f5;obtain⟨v,ev,c,q⟩:=id g7;exact{_,rfl,B7 ev c q (-8) {kv.1,H,I1,by rw[ee];exact r.1,⟨rfl,kv,jd,rfl⟩,g7,λb hb=>(hf b hb).1}}
 done:=by
  intro X hP hw hK hc i pins s Z H E I hf st hg;obtain⟨hd,hi⟩:=hg;have hl:kvs.length=es.size:=by rw[bw m.2.2,aS]
  have ga:=(I.br d _ hd).1;obtain⟨f0,f1,f2,f3,f4,f5⟩:=hf it (-9);exact GO (I.ok.hd hc) st ga m.2.1 ∅ λh' eb=>{rfl,I.turned (λb o hb e=>eb b o hb e) f0 f1 f3 f4 f5}
 self:=λ_ _ _ _ _ st h=>qq st h
def HV(P:Program)(w:World)(d:Addr)(u:HO)(kvs:Aam):Prop:=(∃l,u=.dK l/\kvs=l.map λp=>(kV p.1,p.2))\/∃l ok ov,u=.ext (DX P w d l ok ov)/\kvs=(l.map λp=>(kV p.1,p.2))++[(ok,ov)]
def EI(rel:KV kvs vs)(hp:Pairs (bH P w) es vs):Paired (-57) (kvs.map λp=>(kV p.1,p.2)) es:=by
 unfold KV at rel
 induction hp generalizing kvs with
 |nil=>cases rel;exact .nil
 |@cons e kv es vs hk hv _ ih=>
  cases rel with
  |@cons p _ ps _ hr t=>exact .cons {rL (by rw[hr.1];exact hk),by rw[hv];exact hr.2} (ih t)
def Ng(x:dG P w H h d u)(hv:HV P w d u kvs):(d==sysModules)=false/\∃o es ep,h.get? d=some o/\K7 o es ep kvs:=by
 rcases hv with⟨l,rfl,rfl⟩|⟨l,ok,ov,rfl,rfl⟩
 ·obtain⟨_,lo,vs,rel,o,es,ep,ga,hx,hd,_,hp,_⟩:=x;exact{lo,o,es,ep,ga,hx,hd,EI rel hp}
 ·obtain⟨⟨lo,o,es,ep,vs,e,ga,hx,hd,rel,_,hp,_,r1,r2,_⟩,_⟩:=x;refine{lo,o,_,ep,ga,hx,hd,?_};rw[lq];exact kR (EI rel hp) ⟨r1,r2⟩
def Inv.Yz(I:Inv X pins Z H s)(hd:H d=some u)(hv:HV X.prog X.w d u kvs)(ho:s.heap.get? d=some o):Inv X pins Z (upd H d (.de o u)) s:=by
 rcases hv with⟨l,rfl,rfl⟩|⟨l,ok,ov,rfl,rfl⟩
 ·exact I.freeze hd ho
 ·exact I.F5 hd ho
inductive Yu(P:Program)(w:World)(R:It->Hp->Prop)(x:V)(H1:Hp):Prop
 |mk d u kvs (_:x=.ref d) (_:H1 d=some u) (_:HV P w d u kvs) (_:∀o,R (HB d o u kvs) (upd H1 d (.de o u)))
def aaS(P:Program)(w:World)(tl:TE):TI:=λZ H R=>tl Z H λx H1=>Yu P w R x H1
def Tg(hl:PE X l tl):PI X tg l (aaS X.prog X.w tl):=by
 intro pins s Z H R I h;refine df (hl pins s Z H _ I h) λv s1 x H1 I1 r1 q1=>?_;obtain⟨d,u,kvs,e,hd,hv,q⟩:=q1;subst e;cases r1;obtain⟨lo,o,es,ep,ga,m⟩:=Ng (I1.br d _ hd) hv;refine BZ lo ga m.1 m.2.1 ?_;have I2:=I1.Yz hd hv ga;refine{s1.heap.objs.size,[s1.heap.objs.size],_,_,_,rfl,I2.kept λb o e=>aq _ e,Ie m,{_,aF _ rfl,rfl,rfl},λb hb=>?_,q o};have e:b=s1.heap.objs.size:=by simpa using hb
 subst e;exact I2.qM (ar _) (I2.br.fresh (ar _))
def IS(hv:s.heap.IsItemsView v d)(ho:s.heap.get? d=some o)(hd:o.data=.dict es ep)
  (q:Q (-12) {s with heap:=s.heap.push {cls:=.type "dict_itemiterator",data:=.fields #[.none,.bool false,.ref d,.int 0 0,.int es.size 0,.int ep 0,.none,.none]}}):wpAny (-5) A (pyIter (.ref v)) Q E s:=by
 obtain⟨ov,hov,hcv,hdv⟩:=id hv;refine oQ hv.typeIs rZ (bz rZ hv.typeIs PySem.F.entry_dict_items_iter ?_ (PySem.F.args_dict_items_iter_1 _));unfold Builtin.«dict_items.__iter__» Builtin.Dict_items.dictOf Builtin.Dict_items.newIterator;refine af (ao (af (af (bP hov hdv rfl (ao ?_)))));refine af (af (gF ho hd (af (kH ho hd ?_))));have own:Builtin.Dict_items.ownsTuple "dict_itemiterator"=true:=by decide
 simp only[own,lE];refine cx (ao {_,rfl,"dict_itemiterator",_,{_,aF _ rfl,rfl},b9.lookup,?_}) (by simp only[sizeOk,Builtin.Dict_items.ownedTupleFields,aQ,aO,bx,d5,b8];lia);simpa[rawInt,Builtin.Dict_items.ownedTupleFields]using q
inductive ZA(t:TS)(D:Ends)(Z:St)(H:Hp):Prop
 |mk (d:Addr) (_:(∀u v,H d≠some (.de u v))) (_:t {D with nx:=λσ' H'=>∃o u,H' d=some (.de o u)/\D.nx σ' (upd H' d u),rt:=λv H'=>∃o u,H' d=some (.de o u)/\D.rt v (upd H' d u)} Z H)
def Jc{st:Stmt}(h:PS X st t):PS X st (ZA t):=by
 intro pins s Z H D I ht;obtain⟨d,hd,ht⟩:=ht;have h0:=λu v e=>hd u v (I.base.tP d u v e);refine iT (h pins s Z H _ I ht) λf s1 q=>?_;cases f with
 |next=>
  obtain⟨σ',H',J,o,u,e,n⟩:=q;exact{σ',_,J.ND e h0,n}
 |brk=>exact q
 |cont=>exact q
 |ret u=>
  obtain⟨v,σ',H',J,r,o,u',e,n⟩:=q;exact{v,σ',_,J.ND e h0,r,n}
section
variable{d:Addr}{o:Obj}{u:HO}{kvs:Aam}
def RF{g:TG}{tb:TS}{D:Ends}(Pv:Nat->St->Hp->Prop)(h0:Pv 0 Z H)(hl:∀i Z H,i<=kvs.length->Pv i Z H->H d=some (.de o u))
  (hs:∀i kv Z H,kvs[i]?=some kv->Pv i Z H->g kv.1 Z H λσ2 H2=>tb {D with nx:=Pv (i+1),ct:=Pv (i+1),bk:=D.nx} σ2 H2) (hd:∀Z H,Pv kvs.length Z H->D.nx Z H):
  ∃W:Nat->Nat->St->Hp->Prop,(∃m,W 0 m Z H)/\∀i m Z H,W i m Z H->
   ((HB d o u kvs).stop i H/\D.nx Z H)\/((HB d o u kvs).go i H/\∃N:St->Hp->Prop,(∀σ' H',N σ' H'->∃m',m'<m/\W (i+1) m' σ' H')/\∀x H',(HB d o u kvs).xt i H x H'->g x Z H' λσ2 H2=>tb {D with nx:=N,ct:=N,bk:=D.nx} σ2 H2):=by
 refine{λi m Z H=>m=kvs.length -i/\i<=kvs.length/\Pv i Z H,{kvs.length,by simp,aP _,h0},?_};rintro i m Z H ⟨rfl,hi,p⟩;have q:=hl i Z H hi p;by_cases bK:i<kvs.length
 ·refine .inr {⟨q,bK⟩,Pv (i+1),λσ' H' p'=>{kvs.length -(i+1),by lia,rfl,bK,p'},λx H' y=>?_};obtain⟨rfl,kv,hk,rfl⟩:=y;exact hs i kv Z _ hk p
 ·have e:i=kvs.length:=by lia
  subst e;exact .inl {{q,ar _},hd Z H p}
def zd(Pv:Nat->Aao->Hp->Prop)(hx:kvs.length<sizeLine)(h0:Pv 0 [] H1)(hl:∀i ys H,i<=kvs.length->Pv i ys H->H d=some (.de o u)/\ys.length<=i)
  (hs:∀(i:Nat)(kv:V×V)(ys:Aao)(H:Hp)(N:Aao->Hp->Prop),kvs[i]?=some kv->Pv i ys H->(∀jC H',Pv (i+1) jC H'->N jC H')->
   tt (some kv.1::slotsOf fr Z) H λb H4=>if b=true then te (some kv.1::slotsOf fr Z) H4 (λy H5=>N (ys++[y]) H5)else N ys H4)
  (hd:∀ys H,Pv kvs.length ys H->∀l,H l=none->R l ys H):zC (HB d o u kvs) fr tt te Z H1 R:=by
 refine{λi m ys H=>m=kvs.length -i/\i<=kvs.length/\Pv i ys H,{kvs.length,by simp,aP _,h0},?_};rintro i m ys H ⟨rfl,hi,p⟩;obtain⟨q,hy⟩:=hl i ys H hi p;by_cases bK:i<kvs.length
 ·refine .inr {⟨q,bK⟩,by lia,?_};rintro v H3 ⟨rfl,kv,jd,rfl⟩;exact hs i kv ys H3 (λjC H'=>∃m',m'<kvs.length -i/\m'=kvs.length -(i+1)/\i+1<=kvs.length/\Pv (i+1) jC H') jd p λjC H' p'=>{_,by lia,rfl,bK,p'}
 ·have e:i=kvs.length:=by lia
  subst e;exact .inl {{q,ar _},by lia,hd ys H p}
end
def K2(K:Frag)(H:Hp):List (Key×V)->List (Key×V)->Prop:=Paired λp q=>p.1=q.1/\∃d,Dt K H d p.2/\Dt K H d q.2/\SeqAt.shaped d=true/\PyData.eqv d d=true
inductive Z8(K:Frag)(neg:Bool)(x:V)(y:V)(H:Hp)(Q:VK):Prop
 |mk a b ka kb (_:x=.ref a) (_:y=.ref b) (_:H a=some (.dK ka)) (_:H b=some (.dK kb)) (_:K2 K H ka kb) (_:Q (.bl (!neg)) H)
section
variable{X:Cx}
def M6(hu:X.A.units+96<cLine)(I:Inv X pins Z H s)(nd:(kb.map (·.1)).Nodup):∀{ka kb':List (Key×V)}{va vb:List (Key×Value)},K2 X.K H ka kb'->KV ka va->KV kb' vb->(∀p∈vb,p∈kb)->PySem.W.KeqHits X.A.in1 s kb va true:=by
 intro ka kb' va vb h
 induction h generalizing va vb with
 |nil=>
  intro r1 r2 _;cases r1;exact .nil
 |@cons p q ps qs hr _ ih=>
  intro r1 r2 hm;cases r1 with
  |@cons _ a _ as h1 t1=>
   cases r2 with
   |@cons _ b _ bs h2 t2=>
    obtain⟨e,d,d1,d2,sh,ev⟩:=hr;obtain⟨k,v⟩:=a;obtain⟨k',v'⟩:=b;have ek:=h1.1.symm.trans (e.trans h2.1);subst ek;obtain⟨as1,ra⟩:=pO I d p.2 v d1 h1.2;obtain⟨bs1,rb⟩:=pO I d q.2 v' d2 h2.2;have at':=PySem.W.keq_at ra rb sh sh (show X.A.units+1+64<cLine by lia);rw[ev]at at';obtain⟨i,hi⟩:=dy.mp (hm (k,v') aA);exact .hit (valueAt_of_get nd hi) at' (ih t1 t2 λx hx=>hm x (aB _ hx))
def aaq(hu:X.A.units+96<cLine):jh X (compareOp .Eq) (Z8 X.K false):=by
 intro pins s Z H x y v u Q I rx ry h;obtain⟨a,b,ka,kb,rfl,rfl,ha,hb,hs,q⟩:=h;cases rx;cases ry;obtain⟨_,la,va,ra,da⟩:=oB I.br ha;obtain⟨_,lb,vb,rb,db⟩:=oB I.br hb;have le:va.length=vb.length:=by rw[<-ra.length,<-rb.length];exact hs.length
 refine PySem.W.keq_eq (r:=true) la lb da db ∅ (λ_=>M6 hu I ?_ hs ra rb λ_ h=>h) ?_
 ·obtain⟨_,_,_,_,_,_,_,_,nd⟩:=db;exact nd
 ·rw[le];simp only[Gp,gP];exact{.bl true,H,I,rfl,q}
def aam(hu:X.A.units+96<cLine):jh X (compareOp .NotEq) (Z8 X.K true):=by
 intro pins s Z H x y v u Q I rx ry h;obtain⟨a,b,ka,kb,rfl,rfl,ha,hb,hs,q⟩:=h;cases rx;cases ry;obtain⟨_,la,va,ra,da⟩:=oB I.br ha;obtain⟨_,lb,vb,rb,db⟩:=oB I.br hb;have le:va.length=vb.length:=by rw[<-ra.length,<-rb.length];exact hs.length
 refine PySem.W.keq_ne la lb da db ∅ (λ_=>M6 hu I ?_ hs ra rb λ_ h=>h) ?_
 ·obtain⟨_,_,_,_,_,_,_,_,nd⟩:=db;exact nd
 ·rw[le];simp only[Gp,gP,iI];exact{.bl false,H,I,rfl,q}
def qA(r:Aah):PyData:=.tuple (r.map PyData.str)
def kh(rows:Aab):PyData:=.list (rows.map qA)
def qW(rows:Aab):Prop:=∀r∈rows,∀z∈r,PyData.strOk z=true
variable{K:Frag}{H:Hp}
def abx(h:∃a,y=.ref a/\bF K H a (r.map V.str)):Dt K H (qA r) y:=by obtain⟨a,rfl,h⟩:=h;unfold qA;rw[Dt];exact{a,_,rfl,h,Fo r}
def O3:∀{ys:Aao}{rows:Aab},cT K H ys rows->lZ K H (rows.map qA) ys:=by
 intro ys rows h
 induction h with
 |nil=>rw[ji,lZ]
 |cons hr _ ih=>
  rw[aU,lZ];exact{_,_,rfl,abx hr,ih}
def yg(h:bp K H p ys)(hr:cT K H ys rows):Dt K H (kh rows) (.ref p):=by unfold kh;rw[Dt];exact{p,ys,rfl,h,O3 hr}
def YB(r t:Aah):PyData.eqv (qA r) (qA t)=decide (r=t):=by unfold qA;rw[PyData.eqv,C9]
theorem Dc:∀a b:Aab,PyData.eqvAll (a.map qA) (b.map qA)=decide (a=b)
 |[],[]=>by simp[PyData.eqvAll]
 |[],_::_=>by simp[PyData.eqvAll]
 |_::_,[]=>by simp[PyData.eqvAll]
 |a::r,b::t=>by simp only[aU,PyData.eqvAll,YB,Dc r t];by_cases h:a=b<;>by_cases h':r=t<;>simp[h,h']
def DU(a b:Aab):PyData.eqv (kh a) (kh b)=decide (a=b):=by unfold kh;rw[PyData.eqv,Dc]
theorem DK:∀rows:Aab,qW rows->PyData.canLayAll0 (rows.map qA)=true
 |[],_=>rfl
 |z::r,h=>by have h1:(qA z).canLay0=true:=JW z (h z aA);have h2:=DK r λy hy=>h y (aB _ hy);simp[PyData.canLayAll0,h1,h2]
theorem za:∀rows:Aab,PyData.depthAll (rows.map qA)<=1
 |[]=>by simp[PyData.depthAll]
 |z::r=>by
  have h1:(qA z).depth=1:=by simp[qA,PyData.depth,Fq]
  have:=za r;simp[PyData.depthAll,h1];lia
def CH(h:qW rows):SeqAt.shaped (kh rows)=true:=by have:=za rows;simp[SeqAt.shaped,kh,PyData.canLay0,PyData.depth,DK rows h];lia
end
def cT.keep{K:Frag}(h:cT K H ys rows)(k:∀a xs,bF K H a xs->bF K H' a xs):cT K H' ys rows:=by
 induction h with
 |nil=>exact .nil
 |cons hr _ ih=>
  obtain⟨a,e,hr⟩:=hr;exact .cons {a,e,k _ _ hr} ih
inductive NK:Type
 |cE
 |key (k:Key)
 |tup (ks:List NK)
noncomputable instance:DecidableEq NK:=λa b=>Classical.propDecidable (a=b)
section
variable(P:Program)(w:World)
mutual
inductive kZ(h:Heap):NK->Value->Prop
 |cE:kZ h .cE .none
 |key {k:Key} {v:Value}:(bH P w).is k v=true->kZ h (.key k) v
 |tup {ks:List NK} {a:Addr} {o:Obj} {items:Aal} {n:Nat}:h.get? a=some o->o.cls=.type "tuple"->o.data=.seq items n->lJ h ks items.toList->kZ h (.tup ks) (.ref a)
inductive lJ(h:Heap):List NK->Aag->Prop
 |nil:lJ h [] []
 |cons {k:NK} {v:Value} {ks:List NK} {vs:Aag}:kZ h k v->lJ h ks vs->lJ h (k::ks) (v::vs)
end
mutual
def NK.hash:NK->Int
 | .cE=>0xFCA86420
 | .key k=>(bH P w).hash k
 | .tup ks=>reduceHash (Builtin.Tuple.tupleHashOf (NK.hashes ks))
def NK.hashes:List NK->List Int
 |[]=>[]
 |k::ks=>NK.hash k::NK.hashes ks
end
mutual
def NK.draws:NK->Nat
 | .cE=>1
 | .key _=>1
 | .tup ks=>NK.nJ ks+1
def NK.nJ:List NK->Nat
 |[]=>0
 |k::ks=>NK.draws k+NK.nJ ks
end
mutual
def NK.deep:NK->Nat
 | .cE=>0
 | .key _=>0
 | .tup ks=>NK.oC ks+1
def NK.oC:List NK->Nat
 |[]=>0
 |k::ks=>max (NK.deep k) (NK.oC ks)
end
end
section
variable{P:Program}{w:World}{A:Around}{E:Aae}{s:Shared}
def ON(q:Q 0xFCA86420 {s with toks:=s.toks+1}):wpAny (-30) A (pyHash .none) Q E s:=by have ty:s.TypeIs .none "NoneType":=rfl;unfold pyHash pyHashByItsType;refine af (wpAny_cRoomFor_byValue rfl (af (il ty jz.lookup ?_)));rw[az (by rw[beq_builtin_none];exact aW)];refine af (il ty jz.lookup ?_);refine af (wpAny_callSpecialIfBoundUnlessNone?_slot ty jz (bz jz ty PySem.F.entry_NoneType_hash (show wpAny _ _ (do ret (<-mkInt 0xFCA86420)) _ _ s from wpAny_ret_mkInt ?_) (PySem.F.args_NoneType_hash_1 _)));exact ao q
def NK.Ut(ks:List NK):NK.hash P w (.tup ks)=reduceHash (Builtin.Tuple.tupleHashOf (NK.hashes P w ks)):=by rw[NK.hash]
def Rz(hu:A.units<cLine)(ho:s.heap.get? a=some o)(hc:o.cls=.type "tuple")(hd:o.data=.seq items n)(hi:lJ P w s.heap ks items.toList)
  (ih:∀(A':Around)(k:NK)(v:Value)(t:Nat)(E':Aae)(R:Int->Shared->Prop),A'.units<=A.units+4->k∈ks->kZ P w s.heap k v->R (NK.hash P w k) {s with toks:=t+NK.draws k}->wpAny (-30) A' (pyHash v) R E' {s with toks:=t})
  (h:Q (NK.hash P w (.tup ks)) {s with toks:=s.toks+NK.draws (.tup ks)}):wpAny (-30) A (pyHash (-51)) Q E s:=by
 have hT:s.TypeIs (-51) "tuple":=⟨o,ho,hc⟩;unfold pyHash pyHashByItsType;refine af (wpAny_cRoomFor_or (.inr hu) ?_);refine af (il hT k8.lookup ?_);rw[az (by rw[beq_builtin_none];exact aW)];refine af (il hT k8.lookup ?_);refine af (wpAny_callSpecialIfBoundUnlessNone?_slot hT k8 (bz k8 hT F.entry_tuple_hash ?_ (F.args_tuple_hash_1 _)));show wpAny _ _ (Builtin.Tuple.tupleItemsOf (-51)>>=_) _ _ s;refine af (wpAny_tupleItemsOf ho hd ?_);refine af ?_;rw[<-oh];refine jR _
  (λrest(b:Array Int) s'=>∃done left,ks=done++left/\lJ P w s.heap left rest/\b.toList=NK.hashes P w done/\s'={s with toks:=s.toks+NK.nJ done})
  _ ?_ ?_ _ _ {[],ks,rfl,hi,by simp[NK.hashes],by simp[NK.nJ]}
 ·rintro x rest b s' ⟨done,left,e,hl,hb,rfl⟩;cases hl with
  |@cons k _ ks' _ h1 qL=>
   have e2:NK.hashes P w (done++[k])=NK.hashes P w done++[NK.hash P w k]:=by
    clear e hb
    induction done with
    |nil=>simp[NK.hashes]
    |cons a r Q6=>simp only[lY,NK.hashes,Q6]
   have e3:NK.nJ (done++[k])=NK.nJ done+NK.draws k:=by
    clear e hb e2
    induction done with
    |nil=>simp[NK.nJ]
    |cons a r Q6=>simp only[lY,NK.nJ,Q6];lia
   refine af (ih _ k x _ _ _ ?_ (by rw[e];simp) h1 ?_)
   ·show A.units+1<=A.units+4;lia
   ·exact ao {done++[k],ks',by rw[e];simp,qL,by simp[hb,e2],by rw[e3,pM]}
 ·rintro b s' ⟨done,left,rfl,hl,hb,rfl⟩;cases hl;rw[b6]at h;show wpAny _ _ (retInt (Builtin.Tuple.tupleHashOf b.toList)) _ _ _;rw[hb];refine wpAny_ret_mkInt ?_;show wpAny _ _ (if(decide (-(2:Int)^63<=Builtin.Tuple.tupleHashOf (NK.hashes P w done))&&decide (Builtin.Tuple.tupleHashOf (NK.hashes P w done)<2^63))=true then _ else _) Q E _;rw[NK.Ut,NK.draws]at h;unfold reduceHash at h;by_cases hr:(decide (-(2:Int)^63<=Builtin.Tuple.tupleHashOf (NK.hashes P w done))&&decide (Builtin.Tuple.tupleHashOf (NK.hashes P w done)<2^63))=true
  ·rw[aC hr];rw[aC hr]at h;exact ao (by simpa[pM]using h)
  ·rw[az hr];rw[az hr]at h;exact af (fQ (ao (by simpa[pM]using h)))
mutual
theorem RA:∀(k:NK)(A:Around)(E:Aae)(s:Shared)(v:Value)(Q:Int->Shared->Prop),A.units+4*NK.deep k<cLine->kZ P w s.heap k v->Q (NK.hash P w k) {s with toks:=s.toks+NK.draws k}->wpAny (-30) A (pyHash v) Q E s
 | .cE,A,E,s,v,Q,hu,r,q=>by cases r;rw[NK.hash,NK.draws]at q;exact ON q
 | .key k,A,E,s,v,Q,hu,r,q=>by
  cases r with
  |key h=>
   rw[NK.hash,NK.draws]at q;exact(bH P w).pyHash h q
 | .tup ks,A,E,s,v,Q,hu,r,q=>by
  cases r with
  |tup ho hc hd hi=>
   rw[NK.deep]at hu;exact Rz ∅ ho hc hd hi (λA' k v t E' R hA hk r q=>Ks ks k hk A' E' {s with toks:=t} v R ∅ r q) q
theorem Ks:∀(ks:List NK)(k:NK),k∈ks->∀(A:Around)(E:Aae)(s:Shared)(v:Value)(Q:Int->Shared->Prop),A.units+4*NK.oC ks<cLine->kZ P w s.heap k v->Q (NK.hash P w k) {s with toks:=s.toks+NK.draws k}->wpAny (-30) A (pyHash v) Q E s
 |[],k,h,A,E,s,v,Q,hu,r,q=>by cases h
 |k0::ks,k,h,A,E,s,v,Q,hu,r,q=>by
  rw[NK.oC]at hu;rcases aG.mp h with e|h
  ·rw[e]at r q;exact RA k0 A E s v Q ∅ r q
  ·exact Ks ks k h A E s v Q ∅ r q
end
end
section
variable{P:Program}{w:World}
mutual
theorem Mo:∀(k:NK)(n:Nat)(A:Around)(E:Aae)(s:Shared)(v:Value)(Q:Bool->Shared->Prop),kZ P w s.heap k v->NK.deep k<=n->Q true s->wpAny (-30) A (eqIsQuiet n v) Q E s
 | .cE,n,A,E,s,v,Q,r,_,q=>by cases r;rw[Cj n rfl];exact ao q
 | .key k,n,A,E,s,v,Q,r,_,q=>by
  cases r with
  |key h=>
   rw[Cj n ((bH P w).byValue _ _ h)];exact ao q
 | .tup ks,0,A,E,s,v,Q,r,hn,q=>by rw[NK.deep]at hn;exact absurd hn ∅
 | .tup ks,n+1,A,E,s,v,Q,r,hn,q=>by
  cases r with
  |@tup _ a o items m ho hc hd hi=>
   rw[NK.deep]at hn;have hT:s.TypeIs (-51) "tuple":=⟨o,ho,hc⟩;unfold eqIsQuiet;refine af (il hT F.slot_tuple_eq.lookup ?_);show wpAny _ _ (isInstance (-51) (.type "tuple")>>=_) _ _ s;refine af (f6 hT isSubtype_tuple_tuple ?_);simp only[iI,cw,d6];refine af (bY ho hd ?_);refine af ?_;show wpAny _ _ (forIn items _ _) _ _ s;rw[<-oh];refine jR _ (λrest r s'=>r.1=none/\s'=s/\∃left,lJ P w s.heap left rest/\∀k∈left,k∈ks) _ ?_ ?_ _ _ {rfl,rfl,ks,hi,λ_ h=>h}
   ·rintro v rest r s' ⟨hr,rfl,left,hl,hm⟩;cases hl with
    |@cons k _ ks' _ h1 qL=>
     refine af (GP ks k (hm k aA) n _ _ _ v _ h1 ∅ ?_);simp only[iI,cw,d6];exact ao {rfl,rfl,ks',qL,λk' Km=>hm k' (aB _ Km)}
   ·rintro⟨r1,r2⟩ s' ⟨hr,rfl,_⟩;simp only at hr;subst hr;exact ao q
theorem GP:∀(ks:List NK)(k:NK),k∈ks->∀(n:Nat)(A:Around)(E:Aae)(s:Shared)(v:Value)(Q:Bool->Shared->Prop),kZ P w s.heap k v->NK.oC ks<=n->Q true s->wpAny (-30) A (eqIsQuiet n v) Q E s
 |[],k,h,n,A,E,s,v,Q,r,hn,q=>by cases h
 |k0::ks,k,h,n,A,E,s,v,Q,r,hn,q=>by
  rw[NK.oC]at hn;rcases aG.mp h with e|h
  ·rw[e]at r;exact Mo k0 n A E s v Q r ∅ q
  ·exact GP ks k h n A E s v Q r ∅ q
end
mutual
def NK.toD:NK->PyData
 | .cE=>.none
 | .key (.inl i)=>.int i
 | .key (.inr z)=>.str z
 | .tup ks=>.tuple (NK.mL ks)
def NK.mL:List NK->List PyData
 |[]=>[]
 |k::ks=>NK.toD k::NK.mL ks
end
mutual
theorem FQ:∀(k:NK){h:Heap}{v:Value},kZ P w h k v->∃as,Reads h v (NK.toD k) as
 | .cE,h,v,r=>by cases r;rw[NK.toD];exact{_,.none}
 | .key (.inl i),h,v,r=>by
  cases r with
  |key q=>
   obtain⟨t,rfl⟩:=(show RelV (.int i) v from rL (k:=Sum.inl i) q);rw[NK.toD];exact{_,.int i t}
 | .key (.inr z),h,v,r=>by
  cases r with
  |key q=>
   obtain⟨t,rfl⟩:=(show RelV (.str z) v from rL (k:=Sum.inr z) q);rw[NK.toD];exact{_,.str z t}
 | .tup ks,h,v,r=>by
  cases r with
  |tup ho hc hd hi=>
   obtain⟨as,q⟩:=IX ks hi;rw[NK.toD];exact{_,.tuple ho hc hd q}
theorem IX:∀(ks:List NK){h:Heap}{vs:Aag},lJ P w h ks vs->∃as,ReadsAll h vs (NK.mL ks) as
 |[],h,vs,r=>by cases r;rw[NK.mL];exact{_,.nil}
 |k::ks,h,vs,r=>by
  cases r with
  |cons r1 r2=>
   obtain⟨as,q1⟩:=FQ k r1;obtain⟨bs,q2⟩:=IX ks r2;rw[NK.mL];exact{_,.cons q1 q2}
end
mutual
theorem WU:∀(x y:NK),PyData.eqv (NK.toD x) (NK.toD y)=true↔x=y
 | .cE,.cE=>by simp[NK.toD,PyData.eqv]
 | .cE,.key (.inl _)=>by simp[NK.toD,PyData.eqv]
 | .cE,.key (.inr _)=>by simp[NK.toD,PyData.eqv]
 | .cE,.tup _=>by simp[NK.toD,PyData.eqv]
 | .key (.inl _),.cE=>by simp[NK.toD,PyData.eqv]
 | .key (.inl i),.key (.inl j)=>by simp[NK.toD,PyData.eqv]
 | .key (.inl _),.key (.inr _)=>by simp[NK.toD,PyData.eqv]
 | .key (.inl _),.tup _=>by simp[NK.toD,PyData.eqv]
 | .key (.inr _),.cE=>by simp[NK.toD,PyData.eqv]
 | .key (.inr _),.key (.inl _)=>by simp[NK.toD,PyData.eqv]
 | .key (.inr a),.key (.inr b)=>by simp[NK.toD,PyData.eqv]
 | .key (.inr _),.tup _=>by simp[NK.toD,PyData.eqv]
 | .tup _,.cE=>by simp[NK.toD,PyData.eqv]
 | .tup _,.key (.inl _)=>by simp[NK.toD,PyData.eqv]
 | .tup _,.key (.inr _)=>by simp[NK.toD,PyData.eqv]
 | .tup xs,.tup ys=>by rw[NK.toD,NK.toD,PyData.eqv,RN xs ys];exact{bU NK.tup,λh=>by injection h}
theorem RN:∀(xs ys:List NK),PyData.eqvAll (NK.mL xs) (NK.mL ys)=true↔xs=ys
 |[],[]=>by simp[NK.mL,PyData.eqvAll]
 |[],_::_=>by simp[NK.mL,PyData.eqvAll]
 |_::_,[]=>by simp[NK.mL,PyData.eqvAll]
 |x::xs,y::ys=>by rw[NK.mL,NK.mL,PyData.eqvAll,bB,WU x y,RN xs ys];simp
end
def CY(h:(bH P w).is k (-51)=true):False:=by have:=(bH P w).byValue _ _ h;cases this
def A5(h:(bH P w).is k .none=true):False:=by
 have:=rL (k:=k) h;cases k with
 |inl i=>obtain⟨t,e⟩:=(show∃t,Value.none=Value.int i t from this);cases e
 |inr z=>obtain⟨t,e⟩:=(show∃t,Value.none=Value.str z t from this);cases e
mutual
theorem V3:∀(x y:NK){h:Heap}{v:Value},kZ P w h x v->kZ P w h y v->x=y
 | .cE,y,h,v,r1,r2=>by
  cases r1;cases r2 with
  |cE=>rfl
  |key q=>exact(A5 q).elim
 | .key k,y,h,v,r1,r2=>by
  cases r1 with
  |key q=>
   cases r2 with
   |cE=>exact(A5 q).elim
   |key q2=>rw[(bH P w).inj _ _ _ q q2]
   |tup=>exact(CY q).elim
 | .tup ks,y,h,v,r1,r2=>by
  cases r1 with
  |tup ho hc hd hi=>
   cases r2 with
   |key q=>exact(CY q).elim
   |@tup ks2 _ o2 xT n2 zR ya hd2 Wr=>
    rw[ho]at zR;cases zR;rw[hd]at hd2;injection hd2 with e1 _;subst e1;rw[Q2 ks ks2 hi Wr]
theorem Q2:∀(xs ys:List NK){h:Heap}{vs:Aag},lJ P w h xs vs->lJ P w h ys vs->xs=ys
 |[],ys,h,vs,r1,r2=>by cases r1;cases r2;rfl
 |x::xs,ys,h,vs,r1,r2=>by
  cases r1 with
  |cons a b=>
   cases r2 with
   |@cons y _ ys _ c d=>rw[V3 x y a c,Q2 xs ys b d]
end
mutual
theorem QV(h h':Heap)(k:∀b o,(∀es ep,o.data≠ .dict es ep)->h.get? b=some o->h'.get? b=some o):∀(x:NK){v:Value},kZ P w h x v->kZ P w h' x v
 | .cE,v,r=>by cases r;exact .cE
 | .key _,v,r=>by
  cases r with
  |key q=>exact .key q
 | .tup ks,v,r=>by
  cases r with
  |tup ho hc hd hi=>exact .tup (k _ _ (λes ep e=>by rw[hd]at e;cases e) ho) hc hd (MK h h' k ks hi)
theorem MK(h h':Heap)(k:∀b o,(∀es ep,o.data≠ .dict es ep)->h.get? b=some o->h'.get? b=some o):∀(xs:List NK){vs:Aag},lJ P w h xs vs->lJ P w h' xs vs
 |[],vs,r=>by cases r;exact .nil
 |x::xs,vs,r=>by
  cases r with
  |cons a b=>exact .cons (QV h h' k x a) (MK h h' k xs b)
end
def abH(P:Program)(w:World)(h:Heap)(k:NK)(a:Addr):Prop:=kZ P w h k (-51)/\(NK.toD k).canLay0=true/\(NK.toD k).depth<=7/\NK.deep k<=7
noncomputable def nA(P:Program)(w:World):HeapKind P w NK where
 is:=abH P w
 hash:=NK.hash P w
 draws:=NK.draws
 room:=λA=>A.units+100<cLine
 inj:=λhx hy=>V3 _ _ hx.1 hy.1
 keeps:=λx ho hd hs=>{QV _ _ (λb o' n e=>by refine(hs.2 b ?_).trans e;rintro rfl;rw[ho]at e;cases e;exact n _ _ hd) _ x.1,x.2}
 pyHash:=λhu hk h=>RA _ _ _ _ _ _ (by have:=hk.2.2.2;lia) hk.1 h
 eqBool:=λ{A E s x y a b Q} hu hx hy h=>by
  obtain⟨as,r1⟩:=FQ x hx.1;obtain⟨bs,r2⟩:=FQ y hy.1;have e:PyData.eqv (NK.toD x) (NK.toD y)=decide (x=y):=by rw[fV,WU,jf]
  have:=SeqAt.eqAt_reads _ _ A s _ _ as bs r1 r2 hx.2.1 hy.2.1 (by have:=hx.2.2.1;have:=Nat.min_le_left (NK.toD x).depth (NK.toD y).depth;lia);rw[e]at this;exact this P w E Q h
 quiet:=λhk h=>Mo _ 8 _ _ _ _ _ hk.1 (by have:=hk.2.2.2;lia) h
end
def DN(P:Program)(w:World)(d:Addr)(kvs:List (-53)):Heap->Prop:=λh=>(d==sysModules)=false/\∃xs:List (NK×Addr×Value),Paired (-10) kvs xs/\kvs.length<=10000000/\
 ∃o es ep,h.get? d=some o/\o.ExactDict/\o.data=.dict es ep/\es.toList=xs.map (entryOfKey (nA P w))/\(xs.map (·.1)).Nodup
def O4(x:DN P w d kvs h):dG P w H h d (.ext (DN P w d kvs)):=
 {x,let⟨_,_,_,_,o,_,_,q,_⟩:=x;⟨o,q⟩,λ_ _ ⟨l,xs,p,n,o,es,ep,q,r⟩ k=>{l,xs,p,n,o,es,ep,k _ q,r}}
mutual
def NV(K:Frag)(H:Hp):NK->V->Prop
 | .cE,v=>v=.cE
 | .key k,v=>v=kV k
 | .tup ks,v=>∃a xs,v=.ref a/\bF K H a xs/\pD K H ks xs
def pD(K:Frag)(H:Hp):List NK->Aao->Prop
 |[],xs=>xs=[]
 |k::ks,xs=>∃x r,xs=x::r/\NV K H k x/\pD K H ks r
end
section
variable{X:Cx}{pins:Aac}{Z:St}{H:Hp}{s:Shared}
mutual
theorem JI(I:Inv X pins Z H s):∀(k:NK)(v:V)(u:Value),NV X.K H k v->RelV v u->kZ X.prog X.w s.heap k u
 | .cE,v,u,h,r=>by rw[NV]at h;subst h;cases(show u=Value.none from r);exact .cE
 | .key k,v,u,h,r=>by rw[NV]at h;subst h;exact .key (wo r)
 | .tup ks,v,u,h,r=>by rw[NV]at h;obtain⟨a,xs,rfl,hq,ha⟩:=h;cases r;obtain⟨aY,rv,⟨o,e,c,n,d⟩,_⟩:=I.tuple hq;exact .tup e c d (by simpa using GX I ks xs aY ha rv)
theorem GX(I:Inv X pins Z H s):∀(ks:List NK)(xs:Aao)(us:Aag),pD X.K H ks xs->Vals xs us->lJ X.prog X.w s.heap ks us
 |[],xs,us,h,r=>by rw[pD]at h;subst h;cases r;exact .nil
 |k::ks,xs,us,h,r=>by
  rw[pD]at h;obtain⟨x,t,rfl,h1,h2⟩:=h;cases r with
  |cons r1 r2=>exact .cons (JI I k x _ h1 r1) (GX I ks t _ h2 r2)
end
def W7(k:NK):Prop:=(NK.toD k).canLay0=true/\(NK.toD k).depth<=7/\NK.deep k<=7
end
def jA(K:Frag)(H:Hp)(k:NK)(a:Addr):Prop:=NV K H k (-51)/\W7 k
def gn(P:Program)(w:World)(K:Frag)(H:Hp)(a:Addr)(kvs:List (-53)):Prop:=(H a=some (.ext (DN P w a kvs))\/(kvs=[]/\H a=some (.dK [])))/\∀p∈kvs,jA K H p.1 p.2.1
def valN(kvs:List (-53))(k:NK):Aap:=(kvs.find? λp=>decide (p.1=k)).map (·.2.2)
def putN(kvs:List (-53))(k:NK)(a:Addr)(v:V):List (-53):=if(valN kvs k).isSome then kvs.map (λp=>if p.1=k then(p.1,p.2.1,v)else p)else kvs++[(k,a,v)]
def xE(rel:Paired (-10) kvs xs)(k:NK):lH (valN kvs k) ((atKey xs k).map (·.2)):=by
 unfold valN atKey
 induction rel with
 |nil=>exact trivial
 |@cons p q ps qs h _ ih=>
  by_cases c:p.1=k
  ·rw[dW (p:=λp:NK×Addr×V=>decide (p.1=k)) (aZ c),dW (p:=λx:NK×Addr×Value=>decide (x.1=k)) (aZ (h.1.symm.trans c))];exact h.2.2
  ·rw[dX (p:=λp:NK×Addr×V=>decide (p.1=k)) (λd=>c (bo d)),dX (p:=λx:NK×Addr×Value=>decide (x.1=k)) (λd=>c (h.1.trans (bo d)))];exact ih
section
variable{X:Cx}{pins:Aac}{Z:St}{H:Hp}{s:Shared}{A:Around}{E:Aae}{a b:Addr}{kvs:List (NK×Addr×V)}{k:NK}{v:V}
def Inv.DL(I:Inv X pins Z H s)(h:jA X.K H k b):(nA X.prog X.w).is s.heap k b:={JI I k (.ref b) (.ref b) h.1 rfl,h.2}
def Inv.qO(I:Inv X pins Z H s)(h:gn X.prog X.w X.K H a kvs):(a==sysModules)=false/\∃xs,Paired (-10) kvs xs/\kvs.length<=10000000/\s.heap.DictOfH (nA X.prog X.w) a xs:=by
 obtain⟨h1,h2⟩:=h;have keys:∀{l:List (-53)}{xs:List (NK×Addr×Value)},Paired (-10) l xs->(∀p∈l,jA X.K H p.1 p.2.1)->∀x∈xs,(nA X.prog X.w).is s.heap x.1 x.2.1:=λr=>by
  induction r with
  |nil=>intro _ x hx;cases hx
  |@cons p q ps qs h _ ih=>
   intro hk x hx;rcases aG.mp hx with rfl|hx
   ·rw[<-h.1,<-h.2.1];exact I.DL (hk p aA)
   ·exact ih (λp hp=>hk p (aB _ hp)) x hx
 rcases h1 with h1|⟨rfl,h1⟩
 ·obtain⟨⟨lo,xs,rel,hl,o,es,ep,g,hx,hd,he,nd⟩,_⟩:=(show dG X.prog X.w H s.heap a (.ext (DN X.prog X.w a kvs))from I.br a _ h1);exact{lo,xs,rel,hl,o,es,ep,g,hx,hd,he,keys rel h2,nd}
 ·obtain⟨_,lo,vs,rel,o,es,ep,g,hx,hd,_,hp,_⟩:=oB I.br h1;unfold KV at rel;cases rel;have e0:es.toList=[]:=by have:=hp.length;exact fg.mp this
  exact{lo,[],.nil,aP _,o,es,ep,g,hx,hd,by rw[e0];rfl,λx h=>(by cases h),fJ}
def abB(hu:A.units+101<cLine)(I:Inv X pins Z H s)(h:gn X.prog X.w X.K H a kvs)(hk:jA X.K H k b)(hv:valN kvs k=some v)(q:∀w' s',Inv X pins Z H s'->RelV v w'->Q w' s'):wpAny (-6) A (getItem (-51) (.ref b)) Q E s:=by obtain⟨lo,xs,rel,hl,dd⟩:=I.qO h;obtain⟨w',hw,pb⟩:=lH.some_of (by rw[<-hv];exact xE rel k);obtain⟨p,hp,iU⟩:=aX.mp hw;refine Aq (show A.units+1+100<cLine by lia) (I.DL hk) dd hp ?_;rw[iU];exact q w' _ (I.tok _) pb
def UI(hu:A.units+101<cLine)(I:Inv X pins Z H s)(h:gn X.prog X.w X.K H a kvs)(hk:jA X.K H k b)(q:∀s',Inv X pins Z H s'->Q (.bool (!(valN kvs k).isSome)) s'):wpAny (-6) A (compareOp .NotIn (.ref b) (-51)) Q E s:=by obtain⟨lo,xs,rel,hl,dd⟩:=I.qO h;refine wpAny_notIn_heap (show A.units+1+100<cLine by lia) (I.DL hk) lo dd ?_;have e:=(xE rel k).sR;rw[jH]at e;rw[<-e];exact q _ (I.tok _)
def DE(rel:Paired (-10) kvs xs)(rv:RelV v r):Paired (-10) (putN kvs k b v) (storedH xs k b r):=by
 have e:=(xE rel k).sR;rw[jH]at e;unfold putN storedH;rw[e];split
 next hs=>
  clear e hs
  induction rel with
  |nil=>exact .nil
  |@cons p q ps qs h _ ih=>
   refine .cons ?_ ih;unfold putAt;show(if p.1=k then(p.1,p.2.1,v)else p).1=(if q.1=k then(q.1,q.2.1,r)else q).1/\(if p.1=k then(p.1,p.2.1,v)else p).2.1=(if q.1=k then(q.1,q.2.1,r)else q).2.1/\RelV (if p.1=k then(p.1,p.2.1,v)else p).2.2 (if q.1=k then(q.1,q.2.1,r)else q).2.2;by_cases c:p.1=k
   ·rw[aC c,aC (h.1.symm.trans c)];exact{h.1,h.2.1,rv}
   ·rw[az c,az (λd=>c (h.1.trans d))];exact h
 next=>exact kR rel ⟨rfl,rfl,rv⟩
def vf:(putN kvs k b v).length<=kvs.length+1:=by
 unfold putN;split
 ·rw[ak];lia
 ·rw[aO];exact ar _
def aby(hu:A.units+101<cLine)(I:Inv X pins Z H s)(h:gn X.prog X.w X.K H a kvs)(hk:jA X.K H k b)(pj:kvs.length<10000000)(rv:RelV v r)
  (q:∀s',Inv X pins Z (upd H a (.ext (DN X.prog X.w a (putN kvs k b v)))) s'->Q () s'):wpAny (-6) A (setItem (-51) (.ref b) r) Q E s:=by
 obtain⟨lo,xs,rel,hl,dd⟩:=I.qO h;have lx:xs.length<=sizeLine:=by rw[<-rel.length,b8];lia
 refine Ap (show A.units+1+100<cLine by lia) (I.DL hk) dd λh' vG hs=>q _ ?_;obtain⟨o,es,ep,g,h2,h3,h4,_,h5⟩:=vG;have lp:=vf (kvs:=kvs) (k:=k) (b:=b) (v:=v);refine uT I ?_ hs ⟨o,g⟩ (O4 {lo,_,DE rel rv,by lia,o,es,ep,g,h2,h3,h4,h5});rcases h.1 with e|⟨_,e⟩<;>rw[e]<;>exact True.intro
end
inductive Xu(P:Program)(w:World)(K:Frag)(Q:VK)(x:V)(y:V)(H2:Hp):Prop
 |mk a b kvs k v (_:x=.ref a) (_:y=.ref b) (_:gn P w K H2 a kvs) (_:jA K H2 k b) (_:valN kvs k=some v) (_:Q v H2)
def ZH(P:Program)(w:World)(K:Frag)(td ty:TE):TE:=λZ H Q=>td Z H λx H1=>ty Z H1 λy H2=>Xu P w K Q x y H2
inductive adb(P:Program)(w:World)(K:Frag)(neg:Bool)(x:V)(y:V)(H:Hp)(Q:VK):Prop
 |mk a b kvs k (_:x=.ref b) (_:y=.ref a) (_:gn P w K H a kvs) (_:jA K H k b) (_:Q (.bl (if neg then !(valN kvs k).isSome else(valN kvs k).isSome)) H)
inductive XC(P:Program)(w:World)(K:Frag)(D:Ends)(Z:St)(v:V)(x:V)(y:V)(H3:Hp):Prop
 |mk a b kvs k (_:x=.ref a) (_:y=.ref b) (_:gn P w K H3 a kvs) (_:jA K H3 k b) (_:kvs.length<10000000) (_:D.nx Z (upd H3 a (.ext (DN P w a (putN kvs k b v)))))
def ZU(P:Program)(w:World)(K:Frag)(td ty tv:TE):TS:=λD Z H=>tv Z H λv H1=>td Z H1 λx H2=>ty Z H2 λy H3=>XC P w K D Z v x y H3
section
variable{X:Cx}{o i value:Expr}{pos pos':Pos}{td ty tv:TE}
def abS(I:Inv X pins Z H s)(h:gn X.prog X.w X.K H a kvs):s.TypeIs (-51) "dict":=by obtain⟨_,_,_,_,o,_,_,g,hx,_⟩:=I.qO h;exact{o,g,hx.1}
def To(hu:X.A.units+101<cLine)(ho:PE X o td)(hi:PE X i ty)(hs:U1 i):PE X (.Subscript o i pos) (ZH X.prog X.w X.K td ty):=by intro pins s Z H Q I h;refine L1 PySem.F.slot_dict_getitem.lookup hs (df (ho pins s Z H _ I h) λu s1 x H1 I1 rx q1=>df (hi pins s1 Z H1 _ I1 q1) λiv s2 y H2 I2 ry adI=>?_);obtain⟨a,b,kvs,k,v,ex,ey,g,hk,hv,q2⟩:=adI;subst ex ey;obtain rfl:u=Value.ref a:=rx;obtain rfl:iv=Value.ref b:=ry;exact{abS I2 g,abB hu I2 g hk hv λw' s3 I3 pb=>⟨v,H2,I3,pb,q2⟩}
def Ql(hu:X.A.units+101<cLine):jh X (compareOp .NotIn) (adb X.prog X.w X.K true):=by intro pins s Z H x y v u Q I rx ry h;obtain⟨a,b,kvs,k,rfl,rfl,g,hk,q⟩:=h;cases rx;cases ry;exact UI hu I g hk λs' I'=>{.bl _,H,I',rfl,q}
def Jf(hu:X.A.units+101<cLine)(ho:PE X o td)(hi:PE X i ty)(hv:PE X value tv)(hs:swapsWith value (some (.Subscript o i pos')) pos.line X.env=pure false):
  PS X (.Assign [.Subscript o i pos'] value pos) (ZU X.prog X.w X.K td ty tv):=by
 intro pins s Z H D I h;refine wN (df (hv pins s Z H _ I h) λr s1 v H1 I1 rv q1=>df (ho pins s1 Z H1 _ I1 q1) λu s2 x H2 I2 rx q2=>df (hi pins s2 Z H2 _ I2 q2) λiv s3 y H3 I3 ry adH=>?_) hs;obtain⟨a,b,kvs,k,ex,ey,g,hk,hl,q⟩:=adH;subst ex ey;obtain rfl:u=Value.ref a:=rx;obtain rfl:iv=Value.ref b:=ry;exact aby hu I3 g hk hl rv λs4 I4=>⟨Z,_,I4,q⟩
def Pd:jv X (.type "dict") (λxs H Q=>∃a kvs,xs=[.ref a]/\Rd H a (.dK kvs)/\∀p,H p=none->Q (.ref p) (upd H p (.dK kvs))):=by intro pins s Z H xs us Q I r h;obtain⟨a,kvs,rfl,ha,q⟩:=h;obtain⟨u,rfl,ru⟩:=lP r;cases ru;exact UM I ha λp s' hp I'=>{.ref p,_,I',rfl,q p hp}
end
end L2
namespace L2
open PySem PySem.Spec PyProof.Rows
structure aez(X:Cx)(scope:Scope)(x:Str)(fs:Aah)(fr:List Nat):Prop where
 kind:scope.kind=.function
 loc:scope.names.lookup x=some .cell
 names:∀y∈scope.names,y.2=.local->scope.names.lookup y.1=some .local
 one:∃a b,scope.names=a++(x,.cell)::b/\(∀y∈a,y.2≠ .cell)/\∀y∈b,y.2≠ .cell
 free:∀n∈frees scope,X.env.kindOf n=some .cell/\scope.names.lookup n=some .free
 nd:(x::fs).Nodup
 len:fr.length=fs.length
 slots:∀(j:Nat)(y:Str)(k:Nat),fs[j]?=some y->fr[j]?=some k->X.N[k]?=some y/\y∈frees scope
end L2
namespace L2
open PySem PySem.Spec PyProof.Rows zZ
section
variable{prog:Program}{w:World}{κ:Type}[DecidableEq κ]{kd:HeapKind prog w κ}{A:Around}{E:Aae}{s:Shared}
def Ez(hu:kd.room A)(lF:kd.is s.heap k a)(hm:s.heap.DictOfH kd d xs)
  (h1:∀p,atKey xs k=some p->Q p.2 {s with toks:=s.toks+kd.draws k})
  (h2:atKey xs k=none->∀h',h'.DictOfH kd d (storedH xs k a v)->Heap.SameBut d s.heap h'->Q v {s with heap:=h',toks:=s.toks+kd.draws k}) (hsz:xs.length<=sizeLine):
  wpAny (-5) A (dictSetDefault d (-51) v) Q E s:=by
 obtain⟨o,es,ep,ho,hc,hd,he,his,hn⟩:=hm;unfold dictSetDefault
 try with_reducible refine bQ ?_
 have lz:=we he;refine af (kd.pyHash hu lF (af (wpAny_dictFind_heap hu lF ho hd he his hn (λE4=>?_) (λj p hj=>?_))))
 ·have nk:=not_mem_keys_of_get E4;have e0:=atKey_none_of_get E4;have e1:=storedH_new e0;refine af (fQ (af (wpAny_updateDictKeys ho hd (ao (h2 e0 _ {_,_,ep+1,cH _ ho (Obj.isFreed_of_dict (zk hd _)),hc.mapDictKeys _,zk hd _,?_,?_,?_} (bT ..))))))
  ·rw[e1,aJ,<-he];simp[entryOfKey]
  ·rw[e1];intro x hx;rcases bg.mp hx with q|q
   ·exact kd.keeps (his x q) ho hd (bT ..)
   ·rw[ay.mp q];exact kd.keeps lF ho hd (bT ..)
  ·rw[e1,aJ];refine eB.mpr {hn,by simp,λx hx y hy e=>?_};have MP:y=k:=by simpa using hy
   exact nk (by rw[<-MP,<-e];exact hx)
 ·refine af (gF ho hd ?_);rw[PySem.entry_at he j,hj];exact af (fQ (ao (h1 p (atKey_of_get hn hj))))
def Cg(kd:HeapKind prog w κ)(d a:Addr)(hd:(d==sysModules)=false)(z:Value):
  MeetsIn prog w (Builtin.«dict.setdefault» {[.ref d,.ref a,z],[]}) (λA R s=>kd.room A.in1/\∃k xs,kd.is s.heap k a/\s.heap.DictOfH kd d xs/\xs.length<=sizeLine/\
   (∀p,atKey xs k=some p->R (.ok (.ret p.2)) {s with toks:=s.toks+kd.draws k})/\
   (atKey xs k=none->∀h',h'.DictOfH kd d (storedH xs k a z)->Heap.SameBut d s.heap h'->R (.ok (.ret z)) {s with heap:=h',toks:=s.toks+kd.draws k})):=
 .of_wp λA R s ⟨hu,k,xs,lF,hm,hz,h1,h2⟩=>by unfold Builtin.«dict.setdefault»;refine af ?_;unfold Builtin.Dict.keyAndDefault;refine af (jm hm.typeIs ?_);refine ao ?_;show wpAny _ _ (if(d==sysModules)=true then _ else(dictSetDefault d (-51) z>>=_)) _ _ s;rw[az (by rw[hd];exact aW)];exact af (Ez hu lF hm (λp hp=>ao {_,rfl,h1 p hp}) (λhn h' m' b'=>ao {z,rfl,h2 hn h' m' b'}) hz)
def Yn(hd:(d==sysModules)=false)(ho:s.heap.get? d=some o)(hx:o.ExactDict)(aek:o.data=.dict es ep)(aeO:(es.size:Int)<2^63)
  (h:∀t t',Q (.int es.size t) {s with toks:=t'}):wpAny (-5) A (call (.builtin "len") [.ref d]) Q E s:=by
 have ty:s.TypeIs (.ref d) "dict":={o,ho,hx.1};refine jN kind_len plain_len entry_len (args_len1 _) ?_;unfold Builtin.«len»;refine af (ao ?_);refine af (wpAny_callSpecial?_slot ty F.slot_dict_len
  (bz F.slot_dict_len ty F.entry_dict_len ?_ (F.args_dict_len_1 _)))
 show wpAny _ _ (dictSize d>>=_) _ _ s;unfold dictSize;refine af (af (gF ho aek (ao ?_)));refine af (wpAny_pendingCount_other hd ?_);refine af (CB (ao {_,rfl,?_}));refine af (bQ (ao ?_));refine af (mH ?_);rw[j3];rw[az ∅];rw[az ∅];exact af (CB (ao {_,rfl,h _ _}))
end
section
variable{X:Cx}{pins:Aac}{Z:St}{H:Hp}{s:Shared}{A:Around}{E:Aae}{a b:Addr}{kvs:List (NK×Addr×V)}{k:NK}{z:V}
def RU(hu:A.units+101<cLine)(I:Inv X pins Z H s)(h:gn X.prog X.w X.K H a kvs)(hk:jA X.K H k b)(pj:kvs.length<10000000)(rv:RelV z r)
  (q1:∀v w' s',valN kvs k=some v->Inv X pins Z H s'->RelV v w'->Q w' s')
  (q2:valN kvs k=none->∀s',Inv X pins Z (upd H a (.ext (DN X.prog X.w a (putN kvs k b z)))) s'->Q r s'):wpAny (-6) A (call (.builtin "dict.setdefault") [.ref a,.ref b,r]) Q E s:=by
 obtain⟨lo,xs,rel,hl,dd⟩:=I.qO h;have lx:xs.length<=sizeLine:=by rw[<-rel.length,b8];lia
 have e:=xE rel k;refine qQ rY dd.typeIs PySem.F.entry_dict_setdefault (PySem.F.args_dict_setdefault_3 _ _ _) (Cg (nA X.prog X.w) a b lo r)
  {show A.units+1+100<cLine by lia,k,xs,I.DL hk,dd,lx,λp hp=>?_,λhn h' vG hs=>?_}
 ·rw[hp]at e;cases ev:valN kvs k with
  |none=>rw[ev]at e;exact e.elim
  |some v=>rw[ev]at e;exact q1 v _ _ ev (I.tok _) e
 ·rw[hn]at e;cases ev:valN kvs k with
  |some v=>rw[ev]at e;exact e.elim
  |none=>
   obtain⟨o,es,ep,g,x2,x3,x4,_,x5⟩:=vG;have lp:=vf (kvs:=kvs) (k:=k) (b:=b) (v:=z);refine q2 ev _ (uT I ?_ hs ⟨o,g⟩ (O4 {lo,_,DE rel rv,by lia,o,es,ep,g,x2,x3,x4,x5}));rcases h.1 with e|⟨_,e⟩<;>rw[e]<;>exact True.intro
def YO(hu:A.units+101<cLine)(I:Inv X pins Z H s)(h:gn X.prog X.w X.K H a kvs)(hk:jA X.K H k b)(rv:RelV z r)(q:∀w' s',Inv X pins Z H s'->RelV ((valN kvs k).getD z) w'->Q w' s'):
  wpAny (-6) A (call (.builtin "dict.get") [.ref a,.ref b,r]) Q E s:=by
 obtain⟨lo,xs,rel,hl,dd⟩:=I.qO h;exact qQ jt dd.typeIs pA (oO _ _ _) (vW (nA X.prog X.w) a b lo r)
  {show A.units+1+100<cLine by lia,k,xs,I.DL hk,dd,q _ _ (I.tok _) ((xE rel k).getD rv)}
def MO(I:Inv X pins Z H s)(h:gn X.prog X.w X.K H a kvs):s.TypeIs (-51) "dict"/\∀b,Value.ref a=.ref b->∃ob,s.heap.get? b=some ob/\ob.dict=none:=by obtain⟨lo,xs,rel,hl,dd⟩:=I.qO h;refine{dd.typeIs,λb q=>?_};cases q;obtain⟨ob,_,_,h1,h2,_⟩:=dd;exact{ob,h1,h2.2.1}
def abA(I:Inv X pins Z H s)(h:gn X.prog X.w X.K H a kvs)(q:∀t s',Inv X pins Z H s'->Q (.int kvs.length t) s'):wpAny (-6) A (call (.builtin "len") [.ref a]) Q E s:=by
 obtain⟨lo,xs,rel,hl,o,es,ep,g,hx,hd,he,_⟩:=I.qO h;have l1:es.size=kvs.length:=by rw[we he,rel.length]
 refine Yn lo g hx hd ∅ λt t'=>?_;rw[l1];exact q t _ (I.tok _)
end
inductive PD(P:Program)(w:World)(K:Frag)(ty:TE)(tz:TE)(Z:St)(Q:VK)(x:V)(H1:Hp):Prop
 |mk a JY (_:x=.ref a) (_:gn P w K H1 a JY) (_:ty Z H1 λy H2=>tz Z H2 λz H3=>∃b kvs k,y=.ref b/\gn P w K H3 a kvs/\jA K H3 k b/\kvs.length<10000000/\(∀v,valN kvs k=some v->Q v H3)/\(valN kvs k=none->Q z (upd H3 a (.ext (DN P w a (putN kvs k b z))))))
def SG(P:Program)(w:World)(K:Frag)(td ty tz:TE):TE:=λZ H Q=>td Z H λx H1=>PD P w K ty tz Z Q x H1
inductive SJ(P:Program)(w:World)(K:Frag)(ty:TE)(tz:TE)(Z:St)(Q:VK)(x:V)(H1:Hp):Prop
 |mk a JY (_:x=.ref a) (_:gn P w K H1 a JY) (_:ty Z H1 λy H2=>tz Z H2 λz H3=>∃b kvs k,y=.ref b/\gn P w K H3 a kvs/\jA K H3 k b/\Q ((valN kvs k).getD z) H3)
def L0(P:Program)(w:World)(K:Frag)(td ty tz:TE):TE:=λZ H Q=>td Z H λx H1=>SJ P w K ty tz Z Q x H1
section
variable{X:Cx}{o e f:Expr}{apos fD:Pos}{td ty tz:TE}
def N5(hu:X.A.units+101<cLine)(ho:PE X o td)(he:PE X e ty)(hf:PE X f tz)(m:M2 X o "setdefault" apos e f fD):PE X (.Call (.Attribute o "setdefault" apos) [e,f] [] fD) (SG X.prog X.w X.K td ty tz):=by intro pins s Z H Q I h;refine t4 m.base m.je m.line iM rY PySem.F.type_dict_setdefault (df (ho pins s Z H _ I h) λu s1 x H1 I1 rx adG=>?_);obtain⟨a,JY,ex,d,q1⟩:=adG;subst ex;obtain rfl:u=Value.ref a:=rx;obtain⟨t1,t2⟩:=MO I1 d;refine{t1,t2,?_};rw[m.trees];refine iX rfl (l9 (gk (df (he pins s1 Z H1 _ I1 q1) λiv s2 y H2 I2 ry q2=>gk (df (hf pins s2 Z H2 _ I2 q2) λfv s3 z H3 I3 rz ⟨b,kvs,k,ey,g,hk,hl,k1,k2⟩=>k9 ?_))));subst ey;obtain rfl:iv=Value.ref b:=ry;exact RU hu I3 g hk hl rz (λv w' s4 ev I4 r4=>{v,H3,I4,r4,k1 v ev}) λev s4 I4=>{z,_,I4,rz,k2 ev}
def GR(hu:X.A.units+101<cLine)(ho:PE X o td)(he:PE X e ty)(hf:PE X f tz)(m:M2 X o "get" apos e f fD):PE X (.Call (.Attribute o "get" apos) [e,f] [] fD) (L0 X.prog X.w X.K td ty tz):=by intro pins s Z H Q I h;refine t4 m.base m.je m.line iM jt yn (df (ho pins s Z H _ I h) λu s1 x H1 I1 rx adF=>?_);obtain⟨a,JY,ex,d,q1⟩:=adF;subst ex;obtain rfl:u=Value.ref a:=rx;obtain⟨t1,t2⟩:=MO I1 d;refine{t1,t2,?_};rw[m.trees];refine iX rfl (l9 (gk (df (he pins s1 Z H1 _ I1 q1) λiv s2 y H2 I2 ry q2=>gk (df (hf pins s2 Z H2 _ I2 q2) λfv s3 z H3 I3 rz ⟨b,kvs,k,ey,g,hk,k1⟩=>k9 ?_))));subst ey;obtain rfl:iv=Value.ref b:=ry;exact YO hu I3 g hk rz λw' s4 I4 r4=>⟨_,H3,I4,r4,k1⟩
def R7:jv X (.builtin "len") (λxs H Q=>∃a kvs,xs=[V.ref a]/\gn X.prog X.w X.K H a kvs/\Q (.int kvs.length) H):=by intro pins s Z H xs us Q I r h;obtain⟨a,kvs,rfl,ha,q⟩:=h;obtain⟨u,rfl,ru⟩:=lP r;cases ru;exact abA I ha λt s' I'=>{.int kvs.length,H,I',⟨t,rfl⟩,q}
inductive Yv(P:Program)(w:World)(K:Frag)(R:It->Hp->Prop)(x:V)(H1:Hp):Prop
 |mk d u kvs (_:x=.ref d) (_:H1 d=some u) (_:gn P w K H1 d kvs) (_:∀o,R (HB d o u (kvs.map λp=>(.ref p.2.1,p.2.2))) (upd H1 d (.de o u)))
def aaT(P:Program)(w:World)(K:Frag)(tl:TE):TI:=λZ H R=>tl Z H λx H1=>Yv P w K R x H1
def Th(hl:PE X l tl):PI X tg l (aaT X.prog X.w X.K tl):=by
 intro pins s Z H R I h;refine df (hl pins s Z H _ I h) λv s1 x H1 I1 r1 q1=>?_;obtain⟨d,u,kvs,e,hd,hv,q⟩:=q1;subst e;cases r1;obtain⟨lo,xs,rel,_,o,es,ep,ga,hx,hdt,he,_⟩:=I1.qO hv;have ents:∀{l:List (-53)}{xs:List (NK×Addr×Value)},Paired (-10) l xs->Paired (-57) (l.map λp=>(V.ref p.2.1,p.2.2)) (xs.map (entryOfKey (nA X.prog X.w))):=λr=>by
  induction r with
  |nil=>exact .nil
  |@cons p q ps qs h _ ih=>exact .cons {by show Value.ref q.2.1=Value.ref p.2.1;rw[h.2.1],h.2.2} ih
 have m:K7 o es ep (kvs.map λp=>(V.ref p.2.1,p.2.2)):={hx,hdt,by rw[he];exact ents rel};have I2:Inv X pins Z (upd H1 d (.de o u)) s1:=by
  rcases hv.1 with e|⟨_,e⟩
  ·rw[hd]at e;cases e;exact I1.F5 hd ga
  ·rw[hd]at e;cases e;exact I1.freeze hd ga
 refine BZ lo ga m.1 m.2.1 ?_;refine{s1.heap.objs.size,[s1.heap.objs.size],_,_,_,rfl,I2.kept λb o e=>aq _ e,Ie m,{_,aF _ rfl,rfl,rfl},λb hb=>?_,q o};have e:b=s1.heap.objs.size:=by simpa using hb
 subst e;exact I2.qM (ar _) (I2.br.fresh (ar _))
def pE(n:Nat)(k:NK):Prop:=(NK.toD k).canLay0=true/\(NK.toD k).depth<=n/\NK.deep k<=n
def good_str(h:PyData.strOk z=true):pE n (.key (.inr z)):={by simp[NK.toD,PyData.canLay0,h],by simp[NK.toD,PyData.depth],by simp[NK.deep]}
theorem Kv:∀{ks:List NK},(∀k∈ks,pE n k)->PyData.canLayAll0 (NK.mL ks)=true/\PyData.depthAll (NK.mL ks)<=n/\NK.oC ks<=n
 |[],_=>{by simp[NK.mL,PyData.canLayAll0],by simp[NK.mL,PyData.depthAll],by simp[NK.oC]}
 |k::ks,h=>by
  obtain⟨a1,a2,a3⟩:=h k aA;obtain⟨b1,b2,b3⟩:=Kv λk hk=>h k (aB _ hk);refine{by simp[NK.mL,PyData.canLayAll0,a1,b1],?_,?_}
  ·simp only[NK.mL,PyData.depthAll];lia
  ·simp only[NK.oC];lia
def DQ(h:∀k∈ks,pE n k):pE (n+1) (.tup ks):=by obtain⟨b1,b2,b3⟩:=Kv h;refine{by simp only[NK.toD,PyData.canLay0];exact b1,by simp only[NK.toD,PyData.depth];lia,by simp only[NK.deep];lia}
def pE.good(h:pE n k)(hn:n<=7):W7 k:={h.1,aD h.2.1 hn,aD h.2.2 hn}
def eY(zs:Aah):NK:=.tup (zs.map λz=>.key (.inr z))
def xM(h:eY xs=eY ys):xs=ys:=by unfold eY at h;injection h with h;exact List.map_inj_right (λa b e=>by injection e with e;injection e)|>.mp h
def DR(h:∀z∈zs,PyData.strOk z=true):pE 1 (eY zs):=DQ λk hk=>by obtain⟨z,hz,rfl⟩:=aR.mp hk;exact good_str (h z hz)
theorem JF{K:Frag}:∀zs:Aah,pD K H (zs.map λz=>NK.key (.inr z)) (zs.map V.str)
 |[]=>by rw[ji,pD];rfl
 |z::r=>by rw[aU,pD];exact{_,_,rfl,by rw[NV];rfl,JF r}
def JG{K:Frag}(h:bF K H a (zs.map V.str)):NV K H (eY zs) (-51):=by unfold eY;rw[NV];exact{a,_,rfl,h,JF zs}
def yU{K:Frag}(h:bF K H a (zs.map V.str))(hz:∀z∈zs,PyData.strOk z=true):jA K H (eY zs) a:={JG h,(DR hz).good (-8)}
def ER{K:Frag}(h:NV K H (eY zs) (-51)):bF K H a (zs.map V.str):=by
 have all:∀{zs:Aah}{xs:Aao},pD K H (zs.map λz=>NK.key (.inr z)) xs->xs=zs.map V.str:=by
  intro zs
  induction zs with
  |nil=>intro xs h;rw[ji,pD]at h;exact h
  |cons z r ih=>
   intro xs h;rw[aU,pD]at h;obtain⟨x,t,rfl,h1,h2⟩:=h;rw[NV]at h1;rw[h1,ih h2];rfl
 unfold eY at h;rw[NV]at h;obtain⟨b,xs,e,hq,h⟩:=h;cases e;rw[<-all h];exact hq
def lQ(e:p.1=k):valN (p::r) k=some p.2.2:=by unfold valN;rw[dW (p:=λp:NK×Addr×V=>decide (p.1=k)) (aZ e)];rfl
def lR(e:¬p.1=k):valN (p::r) k=valN r k:=by unfold valN;rw[dX (p:=λp:NK×Addr×V=>decide (p.1=k)) (λq=>e (bo q))]
theorem Ib:∀kvs:List (-53),valN (kvs.map λp=>if p.1=k then(p.1,p.2.1,v)else p) j=(valN kvs j).map λx=>if j=k then v else x
 |[]=>rfl
 |p::r=>by
  have ih:=Ib (k:=k) (j:=j) (v:=v) r;rw[aU];by_cases h:p.1=k
  ·rw[aC h];by_cases e:p.1=j
   ·rw[lQ (p:=(p.1,p.2.1,v)) e,lQ e,eI,aC (e.symm.trans h)]
   ·rw[lR (p:=(p.1,p.2.1,v)) e,lR e,ih]
  ·rw[az h];by_cases e:p.1=j
   ·rw[lQ e,lQ e,eI,az (λz=>h (e.trans z))]
   ·rw[lR e,lR e,ih]
theorem Gw:∀kvs:List (-53),valN kvs k=none->valN (kvs++[(k,a,v)]) j=if j=k then some v else valN kvs j
 |[],_=>by
  by_cases e:k=j
  ·rw[aC e.symm];exact lQ (p:=(k,a,v)) e
  ·rw[az (λz=>e z.symm)];exact lR (p:=(k,a,v)) e
 |p::r,hn=>by
  rw[lY];have hk:¬p.1=k:=λz=>by rw[lQ z]at hn;cases hn
  rw[lR hk]at hn;have ih:=Gw (j:=j) (a:=a) (v:=v) r hn;by_cases e:p.1=j
  ·rw[lQ e,lQ e,az (λz=>hk (e.trans z))]
  ·rw[lR e,lR e,ih]
def pW:valN (putN kvs k a v) j=if j=k then some v else valN kvs j:=by
 unfold putN;split
 ·next hs=>
  rw[Ib];by_cases c:j=k
  ·obtain⟨x,hx⟩:=jX.mp hs;rw[aC c,c,hx,eI,aC rfl]
  ·rw[az c];cases valN kvs j with
   |none=>rfl
   |some x=>rw[eI,az c]
 ·next hs=>
  refine Gw kvs ?_;cases e:valN kvs k with
  |none=>rfl
  |some x=>rw[e]at hs;exact absurd rfl hs
def JR(h:p∈putN kvs k a v):(∃q∈kvs,p.1=q.1/\p.2.1=q.2.1)\/(p.1=k/\p.2.1=a):=by
 unfold putN at h;split at h
 ·obtain⟨q,hq,rfl⟩:=aR.mp h;refine .inl {q,hq,?_};split<;>exact⟨rfl,rfl⟩
 ·rcases bg.mp h with h|h
  ·exact .inl ⟨p,h,rfl,rfl⟩
  ·rw[ay.mp h];exact .inr ⟨rfl,rfl⟩
end
end L2
namespace L2
open PySem PySem.Spec PyProof.Rows PySem.W zZ
section
variable{X:Cx}{pins:Aac}{Z:St}{H:Hp}{s:Shared}
def Inv.K1(I:Inv X pins Z H s)(hn:H D=none)(new:dG X.prog X.w (upd H D o) s.heap D o)
  (h1:X.aab.heap.objs.size<=D) (hL:D≠X.env.locals) (h2:∀x c,X.env.cells.lookup x=some c->c≠D) (h3:∀p∈X.pn++pins,p.1≠D):Inv X pins Z (upd H D o) s:=by
 have nD:∀b u,H b=some u->b≠D:=λb u q z=>by rw[z,hn]at q;cases q
 have br:jI X.prog X.w (upd H D o) s.heap:=λb u q=>by
  by_cases hb:b=D
  ·subst hb;rw[aw]at q;cases q;exact new
  ·rw[aE hb]at q;exact(I.br b u q).jx (λ_ _ _ z=>z) (λc z=>by rw[aE (nD c _ z)];exact z) λc xs z=>by rw[aE (nD c _ z)];exact z
 have J:=I.step (t':=s.toks) (d':=s.drawn) (ch:=[D])
  (λb hb=>by
   have e':b=D:=by simpa using hb
   subst e';exact{.inr h1,hL,h2,h3})
  (λb o _ _ _ q _=>q) (λb o _ _ _ q _=>{o.slots,q}) (λb o hc _ n=>by rw[aE λz=>hc (by simp[z])];exact n) (λb o _ q=>⟨o,q⟩)
  (λb xs q=>by rw[aE (nD b _ q)];exact q) (λb o u q=>by rw[aE (nD b _ q)];exact q) (λb ps q=>{#[],by rw[aE (nD b _ q),q];simp}) (λm hm=>hm) br I.bare
 exact J
def uq(r d:Addr):Heap->Prop:=λh=>h.IsItemsView r d
end
def aaK(x:uq r d h):dG P w H h r (.ext (uq r d)):=
 {x,let⟨o,q,_⟩:=x;⟨o,q⟩,λ_ _ ⟨o,q,z⟩ k=>{o,k _ q,z}}
section
variable{X:Cx}
def qY(P:Program)(w:World)(K:Frag)(mg:Aad)(base:Heap)(C:Addr)(k:Nat)(m:Str)(ps:Aah)(sp:Sp):Prop:=
 ∃f fd,dk P w K mg base fU k f fd ps sp/\Meth K C m f/\Binds K fd ps []
def MC(c:BQ X.K C)(D:qY X.prog X.w X.K X.mg X.base C k m ps sp)(hr:gZ j X.A)(ho:PE X o ta)(ha:PA X (e::es) t)(hk:k<=j:=by decide)
  (ie:starEach (e::es) X.env=(false,eval e X.env)::starEach es X.env:=by rfl) (ud:(-37).any (·.1)=false:=by rfl)
  (ht:eval (.Call (.Attribute o m apos) (e::es) [] pos) X.env=(do
   let ov<-eval o X.env
   standAt apos.atName
   let(f,first)<-holding [ov] (getMethod ov m pl)
   callWith pos f first (backTo pos (starEach (e::es) X.env)) (backToKw pos (keywordEach [] X.env))):=by rfl):
  PE X (.Call (.Attribute o m apos) (e::es) [] pos) (Vj C m sp [] E0 ta t):=by
 obtain⟨f,fd,F,me,b⟩:=D;exact XZ ho c me F (hr.mono hk) b .nil N7 ha ie ud ht
def yY(hr:gZ k A):A.units+101<cLine:=by have:=hr.un;lia
theorem mT{α:Type}[DecidableEq α]:∀{l m:List α},l.Nodup->(∀x∈l,x∈m)->l.length<=m.length
 |[],m,_,_=>aP _
 |x::l,m,h,s=>by obtain⟨h1,h2⟩:=cX.mp h;have hx:=s x aA;have:=mT h2 λy hy=>(List.mem_erase_of_ne (show y≠x fromλe=>h1 (by rw[<-e];exact hy))).mpr (s y (aB _ hy));rw[List.length_erase_of_mem hx]at this;have hp:=List.length_pos_of_mem hx;rw[bx];lia
end
end L2
namespace L2
open PySem PySem.Spec PyProof.Rows
end L2
namespace AskP
section
variable{α:Type}[DecidableEq α]
abbrev Rw(α:Type):=List α
abbrev uv(α:Type):=α×List α
def mz(xs vs:List α)(t:α):α:=if t∈xs then vs.getD (xs.idxOf t) t else t
def image(xs vs ts:List α):List α:=ts.map (mz xs vs)
def tS(m:List (Rw α×Int))(r:Rw α)(c:Int):List (Rw α×Int):=if r∈m.map (·.1)then m.map (λx=>if x.1=r then(x.1,x.2+c)else x)else m++[(r,c)]
def narrowed(l:List (Rw α×Int))(xs ts:List α):List (Rw α×Int):=l.foldl (λm x=>tS m (image xs x.1 ts) x.2) []
def mV(r ts:List α):Bool:=decide (r.length=ts.length)&&(ts.zip r).all λx=>decide (r[ts.idxOf x.1]?=some x.2)
def atT(r ts:List α)(t:α):α:=r.getD (ts.idxOf t) t
def tails(rows:List (Rw α))(ts known fresh:List α)(key:Rw α):List (Rw α):=(rows.filter λr=>mV r ts&&decide (known.map (atT r ts)=key)).map λr=>fresh.map (atT r ts)
def longer(maps:List (Rw α×Int))(rows:List (Rw α))(ts kept known fresh:List α):List (Rw α×Int):=maps.flatMap λx=>(tails rows ts known fresh (image kept x.1 known)).map λt=>(x.1++t,x.2)
def R9{r v:Rw α}{c:Int}:v∈(tS m r c).map (·.1)↔v∈m.map (·.1)\/v=r:=by
 unfold tS;split
 ·next h=>
  have e:(m.map λx=>if x.1=r then(x.1,x.2+c)else x).map (·.1)=m.map (·.1):=by rw[bW];refine bX λx _=>?_;show(if x.1=r then(x.1,x.2+c)else x).1=x.1;split<;>rfl
  rw[e];exact{.inl,λz=>z.elim id λz=>z▸h}
 ·rw[aJ,bg,kN,ay]
def Pg{r:Rw α}{c:Int}(h:(m.map (·.1)).Nodup):((tS m r c).map (·.1)).Nodup:=by
 unfold tS;split
 ·have e:(m.map λx=>if x.1=r then(x.1,x.2+c)else x).map (·.1)=m.map (·.1):=by rw[bW];refine bX λx _=>?_;show(if x.1=r then(x.1,x.2+c)else x).1=x.1;split<;>rfl
  rw[e];exact h
 ·next q=>
  rw[aJ,kN];exact eB.mpr {h,kC _ _,λa ha b hb=>by rw[ay.mp hb];exactλz=>q (by rw[<-show a=r from z];exact ha)}
def zL{xs ts:List α}{v:Rw α}:v∈(narrowed l xs ts).map (·.1)↔∃x∈l,v=image xs x.1 ts:=by
 unfold narrowed
 suffices H:∀m:List (Rw α×Int),v∈(l.foldl (λm x=>tS m (image xs x.1 ts) x.2) m).map (·.1)↔v∈m.map (·.1)\/∃x∈l,v=image xs x.1 ts by
  rw[H []];exact{λh=>h.elim (λz=>by cases z) id,.inr}
 induction l with
 |nil=>intro m;exact{.inl,λh=>h.elim id λ⟨x,hx,_⟩=>by cases hx}
 |cons x l ih=>
  intro m;rw[fT,ih,R9];constructor
  ·rintro((h|h)|⟨y,hy,h⟩)
   ·exact .inl h
   ·exact .inr ⟨x,aA,h⟩
   ·exact .inr {y,aB _ hy,h}
  ·rintro(h|⟨y,hy,h⟩)
   ·exact .inl (.inl h)
   ·rcases aG.mp hy with rfl|hy
    ·exact .inl (.inr h)
    ·exact .inr ⟨y,hy,h⟩
def rP{xs ts:List α}:((narrowed l xs ts).map (·.1)).Nodup:=by
 unfold narrowed
 suffices H:∀m:List (Rw α×Int),(m.map (·.1)).Nodup->((l.foldl (λm x=>tS m (image xs x.1 ts) x.2) m).map (·.1)).Nodup from H [] .nil
 induction l with
 |nil=>intro m h;exact h
 |cons x l ih=>intro m h;exact ih _ (Pg h)
def Yt{g:α->α}{t:α}(h:t∈xs):mz xs (xs.map g) t=g t:=by unfold mz;have:=cV h;rw[aC h,cq,aK,au this,kP];rfl
def sS{g:α->α}(h:∀t∈ts,t∉xs->g t=t):image xs (xs.map g) ts=ts.map g:=by
 refine bX λt ht=>?_;by_cases c:t∈xs
 ·exact Yt c
 ·unfold mz;rw[az c,h t ht c]
def QZ{g:α->α}:mV (ts.map g) ts=true:=by
 unfold mV;rw[ak,aZ rfl,gP,bZ];intro x hx;obtain⟨i,hi,e⟩:=fq.mp hx;rw[vQ,vR]at e;have m:x.1∈ts:=by rw[<-e];exact gh _
 have:=cV m;refine aZ ?_;rw[aK,au this,kP,eI,<-e]
def Nr{g:α->α}{t:α}(h:t∈ts):atT (ts.map g) ts t=g t:=by unfold atT;have:=cV h;rw[cq,aK,au this,kP];rfl
def Yj{r ts:List α}(h:mV r ts=true):ts.map (atT r ts)=r:=by unfold mV at h;rw[bB,bZ]at h;have hl:=bo h.1;refine List.ext_getElem (by rw[ak,hl]) λi h1 h2=>?_;rw[vR];have q:=bo (h.2 (ts[i]'(by rw[<-hl];exact h2),r[i]) (fq.mpr {i,by rw[qZ];lia,by rw[vQ]}));unfold atT;rw[cq,q];rfl
def tw(un:α->Bool)(db:α->List (Rw α))(S:List (uv α))(g:α->α):Prop:=(∀t,un t=false->g t=t)/\∀a∈S,a.2.map g∈db a.1
def Kp(un:α->Bool)(db:α->List (Rw α))(S:List (uv α))(kept:List α)(maps:List (Rw α×Int)):Prop:=∀v,v∈maps.map (·.1)↔∃g,tw un db S g/\v=kept.map g
def Xq{un:α->Bool}{db:α->List (Rw α)}{S:List (uv α)}{maps:List (Rw α×Int)}{a:uv α}(h:Kp un db S kept maps)
  (hf:∀t,t∈fresh↔t∈a.2/\un t=true/\t∉kept) (hk:known=a.2.filter (λt=>decide (t∉fresh))) (hu:∀t∈kept,un t=true) (hs:∀b∈S,∀t∈b.2,t∈a.2->un t=true->t∈kept) (h':∀t∈V1,t∈kept++fresh):
  Kp un db (a::S) V1 (narrowed (longer maps (db a.1) a.2 kept known fresh) (kept++fresh) V1):=by
 have kn:∀t,t∈known↔t∈a.2/\t∉fresh:=λt=>by rw[hk,bV,iG]
 have key:∀g:α->α,(∀t,un t=false->g t=t)->image kept (kept.map g) known=known.map g:=λg hg=>sS λt ht c=>by
  have⟨z1,z2⟩:=(kn t).mp ht;cases e:un t with
  |false=>exact hg t e
  |true=>exact absurd ((hf t).mpr ⟨z1,e,c⟩) z2
 intro v;rw[zL];constructor
 ·rintro⟨x,hx,rfl⟩;unfold longer at hx;obtain⟨y,hy,hx⟩:=j6.mp hx;obtain⟨tl,ht,rfl⟩:=aR.mp hx;unfold tails at ht;obtain⟨r,hr,rfl⟩:=aR.mp ht;obtain⟨hr,hc⟩:=bV.mp hr;rw[bB,iG]at hc;obtain⟨g,hg,eg⟩:=(h y.1).mp (aR.mpr ⟨y,hy,rfl⟩);rw[eg,key g hg.1]at hc
  let g2:α->α:=λt=>if t∈fresh then atT r a.2 t else g t
  have e1:kept.map g=kept.map g2:=bX λt ht=>by show g t=if t∈fresh then _ else g t;rw[az λz=>((hf t).mp z).2.2 ht]
  have e2:fresh.map (atT r a.2)=fresh.map g2:=bX λt ht=>by show _=if t∈fresh then _ else g t;rw[aC ht]
  have e3:a.2.map g2=r:=by
   conv=>rhs;rw[<-Yj hc.1]
   refine bX λt ht=>?_;show(if t∈fresh then atT r a.2 t else g t)=_;by_cases c:t∈fresh
   ·rw[aC c]
   ·rw[az c];exact(List.map_inj_left.mp hc.2 t ((kn t).mpr ⟨ht,c⟩)).symm
  refine{g2,{λt ht=>?_,λb hb=>?_},?_}
  ·show(if t∈fresh then atT r a.2 t else g t)=t;rw[az λz=>by rw[((hf t).mp z).2.1]at ht;cases ht];exact hg.1 t ht
  ·rcases aG.mp hb with rfl|hb
   ·rw[e3];exact hr
   ·have:b.2.map g2=b.2.map g:=bX λt ht=>by show(if t∈fresh then _ else g t)=g t;rw[az λz=>((hf t).mp z).2.2 (hs b hb t ht ((hf t).mp z).1 ((hf t).mp z).2.1)]
    rw[this];exact hg.2 b hb
  ·rw[eg,e1,e2,<-aJ];exact sS λt ht c=>absurd (h' t ht) c
 ·rintro⟨g,hg,rfl⟩;have hS:tw un db S g:={hg.1,λb hb=>hg.2 b (aB _ hb)};obtain⟨y,hy,ey⟩:=aR.mp ((h (kept.map g)).mpr ⟨g,hS,rfl⟩);refine{(y.1++fresh.map g,y.2),j6.mpr {y,hy,aR.mpr {fresh.map g,aR.mpr {a.2.map g,bV.mpr {hg.2 a aA,?_},?_},rfl}},?_}
  ·rw[QZ,gP,ey,key g hg.1];exact aZ (bX λt ht=>Nr ((kn t).mp ht).1)
  ·exact bX λt ht=>Nr ((hf t).mp ht).1
  ·rw[ey,<-aJ];exact(sS λt ht c=>absurd (h' t ht) c).symm
end
section
variable{α:Type}[DecidableEq α]
def fits(un:α->Bool)(db:α->List (Rw α))(atoms:List (uv α))(known v:List α):Bool:=atoms.all λa=>!decide (a.2.filter (λt=>un t&&decide (t∉known))=[])||decide (image known v a.2∈db a.1)
def Ky{un:α->Bool}{atoms:List (uv α)}{known v:List α}:fits un db atoms known v=true↔∀a∈atoms,(∀t∈a.2,un t=true->t∈known)->image known v a.2∈db a.1:=by
 unfold fits;rw[bZ];refine fC λa=>fC λ_=>?_;have e:(a.2.filter (λt=>un t&&decide (t∉known))=[])↔∀t∈a.2,un t=true->t∈known:=by rw[List.filter_eq_nil_iff];refine fC λt=>fC λ_=>?_;rw[bB,iG];exact{λh u=>Decidable.byContradiction λz=>h ⟨u,z⟩,λh z=>z.2 (h z.1)}
 rw[Bool.or_eq_true,Cz,vX,iG,e];exact{λh q=>h.elim (λz=>absurd q z) id,λh=>Decidable.byCases (λq=>.inr (h q)) .inl}
def HX(un:α->Bool)(db:α->List (Rw α))(atoms:List (uv α))(us vals:List α):Nat->List (List α)
 |0=>[[]].filter (fits un db atoms (us.take 0))
 |p+1=>((HX un db atoms us vals p).flatMap λv=>vals.map λx=>v++[x]).filter (fits un db atoms (us.take (p+1)))
def Q5{us v:List α}(h:t∈us.take p)(hv:v.length=p)(hp:p<=us.length)(x:α):mz (us.take (p+1)) (v++[x]) t=mz (us.take p) v t:=by
 have l:=cV h;have m:=(tU us (fI p)) h;have e:(us.take (p+1)).idxOf t=(us.take p).idxOf t:=by
  conv=>lhs;rw[<-c7 p (us.take (p+1)),List.take_take,gM (fI p)]
  rw[List.idxOf_append,aC h]
 unfold mz;rw[aC h,aC m,e,cq,cq,dO];rw[aT]at l;lia
theorem DG(hu:∀t∈us,un t=true):∀(p:Nat)(v:List α),p<=us.length->(v∈HX un db atoms us vals p↔v.length=p/\(∀x∈v,x∈vals)/\∀a∈atoms,(∀t∈a.2,un t=true->t∈us.take p)->image (us.take p) v a.2∈db a.1)
 |0,v,_=>by show v∈[[]].filter _↔_;rw[bV,ay,Ky];exact{λ⟨h1,h2⟩=>{by rw[h1];rfl,(λx hx=>by rw[h1]at hx;cases hx),h2},λ⟨h1,_,h2⟩=>{List.eq_nil_of_length_eq_zero h1,h2}}
 |p+1,v,hp=>by
  show v∈(((HX un db atoms us vals p).flatMap λv=>vals.map λx=>v++[x]).filter _)↔_;rw[bV,Ky,j6];constructor
  ·rintro⟨⟨w,hw,hv⟩,h2⟩;obtain⟨x,hx,rfl⟩:=aR.mp hv;obtain⟨w1,w2,w3⟩:=(DG hu p w ∅).mp hw;refine{by rw[aO,w1];rfl,λy hy=>?_,h2};rcases bg.mp hy with hy|hy
   ·exact w2 y hy
   ·rw[ay.mp hy];exact hx
  ·rintro⟨h1,h2,h3⟩;have ne:v≠[]:=λz=>by rw[z]at h1;cases h1
   have ev:=sd ne;have lv:v.dropLast.length=p:=by rw[List.length_dropLast,h1];rfl
   refine{{v.dropLast,(DG hu p _ ∅).mpr {lv,λx hx=>h2 x (List.dropLast_subset v hx),λa ha q=>?_},aR.mpr {v.getLast ne,h2 _ (List.getLast_mem ne),ev}},h3};have:=h3 a ha λt ht u=>tU us (fI p) (q t ht u);rw[<-ev]at this;have e:image (us.take (p+1)) (v.dropLast++[v.getLast ne]) a.2=image (us.take p) v.dropLast a.2:=bX λt ht=>by
    cases c:un t with
    |true=>exact Q5 (q t ht c) lv ∅ _
    |false=>
     have n1:∀n,t∉us.take n:=λn z=>by rw[hu t (gx z)]at c;cases c
     unfold mz;rw[az (n1 _),az (n1 _)]
   rw[e]at this;exact this
def Sq(hu:∀t,t∈us↔un t=true/\∃a∈atoms,t∈a.2)(nd:us.Nodup)(hv:∀a∈atoms,∀r∈db a.1,∀x∈r,x∈vals)(hh:∀t∈head,un t=true->t∈us)(row:Rw α):
  (∃v∈HX un db atoms us vals us.length,row=image us v head)↔∃g,tw un db atoms g/\row=head.map g:=by
 have m:=DG (db:=db) (atoms:=atoms) (vals:=vals) (λt ht=>((hu t).mp ht).1) us.length;rw[aV]at m;constructor
 ·rintro⟨v,h,rfl⟩;obtain⟨h1,h2,h3⟩:=(m v (ar _)).mp h;refine{mz us v,{λt ht=>?_,λa ha=>h3 a ha λt ht u=>(hu t).mpr ⟨u,a,ha,ht⟩},rfl};unfold mz;rw[az λz=>by rw[((hu t).mp z).1]at ht;cases ht]
 ·rintro⟨g,hg,rfl⟩;have im:∀ts:List α,(∀t∈ts,un t=true->t∈us)->image us (us.map g) ts=ts.map g:=λts h=>sS λt ht c=>by
   cases e:un t with
   |false=>exact hg.1 t e
   |true=>exact absurd (h t ht e) c
  refine{us.map g,(m _ (ar _)).mpr {ak ..,λx hx=>?_,λa ha q=>by rw[im a.2 q];exact hg.2 a ha},(im head hh).symm};obtain⟨t,ht,rfl⟩:=aR.mp hx;obtain⟨_,a,ha,vz⟩:=(hu t).mp ht;exact hv a ha _ (hg.2 a ha) _ (aR.mpr ⟨t,vz,rfl⟩)
def tw.of{un:α->Bool}{S T:List (uv α)}{g:α->α}(h:tw un db S g)(e:∀a∈T,a∈S):tw un db T g:={h.1,λa ha=>h.2 a (e a ha)}
def Yp(h:Kp un db S kept maps)(hh:∀t∈head,un t=true->t∈kept)(row:Rw α):row∈(narrowed maps kept head).map (·.1)↔∃g,tw un db S g/\row=head.map g:=by
 have im:∀g,tw un db S g->image kept (kept.map g) head=head.map g:=λg hg=>sS λt ht c=>by
  cases e:un t with
  |false=>exact hg.1 t e
  |true=>exact absurd (hh t ht e) c
 rw[zL];constructor
 ·rintro⟨x,hx,rfl⟩;obtain⟨g,hg,e⟩:=(h x.1).mp (aR.mpr ⟨x,hx,rfl⟩);exact{g,hg,by rw[e,im g hg]}
 ·rintro⟨g,hg,rfl⟩;obtain⟨y,hy,ey⟩:=aR.mp ((h _).mpr ⟨g,hg,rfl⟩);exact{y,hy,by rw[ey,im g hg]}
end
section
variable{α:Type}[DecidableEq α]
def words(A:List α):Nat->List (List α)
 |0=>[[]]
 |k+1=>(words A k).flatMap λv=>A.map λx=>x::v
structure AskI(un:α->Bool)(db:α->List (Rw α))(atoms:List (uv α))(head:List α)(S left:List (uv α))(kept:List α)(maps:List (Rw α×Int)):Prop where
 kp:Kp un db S kept maps
 at_:∀a,a∈atoms↔a∈S\/a∈left
 kt:∀t,t∈kept↔un t=true/\(∃b∈S,t∈b.2)/\(t∈head\/∃b∈left,t∈b.2)
 nd:kept.Nodup
 md:(maps.map (·.1)).Nodup
variable{un:α->Bool}{db:α->List (Rw α)}{atoms:List (uv α)}{head:List α}{S left:List (uv α)}{kept:List α}{maps:List (Rw α×Int)}
def AskI.start:AskI un db atoms head [] atoms [] [([],1)]:={λv=>{λh=>{id,{λ_ _=>rfl,λa ha=>by cases ha},ay.mp h},λ⟨_,_,e⟩=>ay.mpr e},λa=>{.inr,λh=>h.elim (λz=>by cases z) id},λt=>{λh=>(by cases h),λ⟨_,⟨b,hb,_⟩,_⟩=>(by cases hb)},.nil,kC _ _}
def AskI.len(h:AskI un db atoms head S left kept maps)(hx:x∈maps):x.1.length=kept.length:=by obtain⟨g,_,e⟩:=(h.kp x.1).mp (aR.mpr ⟨x,hx,rfl⟩);rw[e,ak]
theorem AskI.vals{vals:List α}(h:AskI un db atoms head S left kept maps)(hv:∀a∈atoms,∀r∈db a.1,∀x∈r,x∈vals)(hx:x∈maps):∀y∈x.1,y∈vals:=λy hy=>by obtain⟨g,hg,e⟩:=(h.kp x.1).mp (aR.mpr ⟨x,hx,rfl⟩);rw[e]at hy;obtain⟨t,ht,rfl⟩:=aR.mp hy;obtain⟨_,⟨b,hb,Wd⟩,_⟩:=(h.kt t).mp ht;exact hv b ((h.at_ b).mpr (.inl hb)) _ (hg.2 b hb) _ (aR.mpr ⟨t,Wd,rfl⟩)
def AskI.step(h:AskI un db atoms head S (l1++a::l2) kept maps)(hf:∀t,t∈fresh↔t∈a.2/\un t=true/\t∉kept)(fn:fresh.Nodup)(hk:known=a.2.filter (λt=>decide (t∉fresh)))
  (hn:∀t,need t=true↔t∈head\/∃b∈l1++l2,t∈b.2):
  AskI un db atoms head (a::S) (l1++l2) ((kept++fresh).filter need) (narrowed (longer maps (db a.1) a.2 kept known fresh) (kept++fresh) ((kept++fresh).filter need)):=by
 have mid:∀b,b∈l1++a::l2↔b=a\/b∈l1++l2:=λb=>by rw[bg,aG,bg];exact{λh=>h.elim (λz=>.inr (.inl z)) λh=>h.elim .inl λz=>.inr (.inr z),λh=>h.elim (λz=>.inr (.inl z)) λh=>h.elim .inl λz=>.inr (.inr z)}
 have hs:∀b∈S,∀t∈b.2,t∈a.2->un t=true->t∈kept:=λb hb t ht vz u=>(h.kt t).mpr {u,⟨b,hb,ht⟩,.inr {a,(mid a).mpr (.inl rfl),vz}};refine{Xq h.kp hf hk (λt ht=>((h.kt t).mp ht).1) hs λt ht=>(bV.mp ht).1,λb=>?_,λt=>?_,?_,rP}
 ·rw[h.at_ b,mid b,aG];exact{λh=>h.elim (λz=>.inl (.inr z)) λh=>h.elim (λz=>.inl (.inl z)) .inr,λh=>h.elim (λh=>h.elim (λz=>.inr (.inl z)) .inl) λz=>.inr (.inr z)}
 ·rw[bV,bg,hn,hf,h.kt];constructor
  ·rintro⟨⟨u,⟨b,hb,ht⟩,_⟩|⟨ht,u,_⟩,q⟩
   ·exact{u,{b,aB _ hb,ht},q}
   ·exact{u,⟨a,aA,ht⟩,q}
  ·rintro⟨u,⟨b,hb,ht⟩,q⟩;refine{?_,q};have q':t∈head\/∃b∈l1++a::l2,t∈b.2:=q.imp id λ⟨b,hb,ht⟩=>{b,(mid b).mpr (.inr hb),ht};rcases aG.mp hb with rfl|hb
   ·by_cases c:t∈kept
    ·exact .inl ((h.kt t).mp c)
    ·exact .inr {ht,u,λz=>c ((h.kt t).mpr z)}
   ·exact .inl {u,⟨b,hb,ht⟩,q'}
 ·refine List.Pairwise.sublist mO (eB.mpr {h.nd,fn,λx hx y hy e=>?_});subst e;exact((hf x).mp hy).2.2 hx
def AskI.end_(h:AskI un db atoms head S [] kept maps)(hh:∀t∈head,un t=true->∃a∈atoms,t∈a.2)(row:Rw α):row∈(narrowed maps kept head).map (·.1)↔∃g,tw un db atoms g/\row=head.map g:=by
 have e:∀a,a∈atoms↔a∈S:=λa=>by rw[h.at_ a];exact{λz=>z.elim id (λz=>by cases z),.inl}
 rw[Yp h.kp λt ht u=>(h.kt t).mpr {u,let⟨a,ha,q⟩:=hh t ht u;{a,(e a).mp ha,q},.inl ht}];exact{λ⟨g,hg,q⟩=>{g,hg.of λa ha=>(e a).mp ha,q},λ⟨g,hg,q⟩=>{g,hg.of λa ha=>(e a).mpr ha,q}}
end
section
variable{α:Type}[DecidableEq α]
def ac5{β:Type}(l:List β)(f:β->Int):Int:=(l.map f).sum
abbrev ind(p:Prop)[Decidable p]:Int:=if p then 1 else 0
structure aeQ(un:α->Bool)(db:α->List (Rw α))(S:List (uv α))(kept:List α)(maps:List (Rw α×Int))(bs:List α)(L:List (Rw α)):Prop where
 bt:∀t,t∈bs↔un t=true/\∃b∈S,t∈b.2
 bn:bs.Nodup
 ln:L.Nodup
 lm:∀v,v∈L↔∃g,tw un db S g/\v=bs.map g
 ct:∀x∈maps,x.2=ac5 L λv=>ind (image bs v kept=x.1)
variable{un:α->Bool}{db:α->List (Rw α)}{atoms:List (uv α)}{head:List α}{S left:List (uv α)}{kept:List α}{maps:List (Rw α×Int)}{bs:List α}{L:List (Rw α)}
end
section
variable{α:Type}[DecidableEq α]
def AW{xs ts:List α}{l:List (Rw α×Int)}:(narrowed l xs ts).length<=l.length:=by
 have gen:∀(l m:List (Rw α×Int)),(l.foldl (λm x=>tS m (image xs x.1 ts) x.2) m).length<=m.length+l.length:=by
  intro l
  induction l with
  |nil=>intro m;exact ar _
  |cons y l ih=>
   intro m;refine aD (ih _) ?_;have:(tS m (image xs y.1 ts) y.2).length<=m.length+1:=by
    unfold tS;split
    ·rw[ak];lia
    ·rw[aO];exact ar _
   dsimp only;rw[bx];lia
 have:=gen l [];rw[d5,vN]at this;exact this
variable{un:α->Bool}{db:α->List (Rw α)}{S S1 S2:List (uv α)}{us us1 us2 vals h1 h2:List α}
end
end AskP
namespace gw
open PySem
abbrev Atom:=Str×Aah
abbrev iC:=List (Str×Str)
section
variable(gH:Str->Bool)
def ap(h:Str->Str)(t:Str):Str:=if gH t then h t else t
def Fits(D:List Atom)(h:Str->Str)(as:List Atom):Prop:=∀a∈as,(a.1,a.2.map (ap gH h))∈D
def j9(g:iC)(h:Str->Str):Prop:=∀p∈g,h p.1=p.2
def Can(D:List Atom)(g:iC)(as:List Atom):Prop:=∃h,j9 g h/\Fits gH D h as
def Sv(as:List Atom):Aah:=(as.map λa=>a.2.filter gH).flatten
def keys(g:iC):Aah:=g.map (·.1)
def get(g:iC)(u:Str):Option Str:=(g.find? λp=>decide (p.1=u)).map (·.2)
def nZ(g g':iC):Prop:=∀u v,get g u=some v->get g' u=some v
end
section
variable{gH:Str->Bool}{g g':iC}{h:Str->Str}{as:List Atom}
def get_some{u v:Str}(h:get g u=some v):(u,v)∈g:=by unfold get at h;obtain⟨p,hp,rfl⟩:=aX.mp h;have:=List.find?_some hp;have e:p.1=u:=bo this;rw[<-e];exact jM hp
def get_none{u:Str}:get g u=none↔u∉keys g:=by
 unfold get keys;rw[xj,tF];constructor
 ·intro h q;obtain⟨p,hp,e⟩:=aR.mp q;exact h p hp (aZ e)
 ·intro h p hp q;exact h (aR.mpr {p,hp,bo q})
def get_mem(nd:(keys g).Nodup){u v:Str}(h:(u,v)∈g):get g u=some v:=by
 induction g with
 |nil=>cases h
 |cons p r ih=>
  unfold keys at nd;rw[aU,cX]at nd;unfold get;rcases aG.mp h with e|h
  ·rw[dW (p:=λp:Str×Str=>decide (p.1=u)) (aZ (by rw[<-e]))];rw[<-e];rfl
  ·have ne:¬decide (p.1=u)=true:=λq=>nd.1 (by
    rw[bo q];exact aR.mpr ⟨_,h,rfl⟩)
   rw[dX (p:=λp:Str×Str=>decide (p.1=u)) ne];exact ih nd.2 h
def j9.get(a:j9 g h){u v:Str}(e:get g u=some v):h u=v:=a (u,v) (get_some e)
def HA(nd:(keys g).Nodup)(e:∀u v,get g u=some v->h u=v):j9 g h:=λp hp=>e p.1 p.2 (get_mem nd hp)
def j9.longer(nd:(keys g).Nodup)(l:nZ g g')(a:j9 g' h):j9 g h:=HA nd λu v e=>a.get (l u v e)
def over(g:iC)(h:Str->Str)(u:Str):Str:=(get g u).getD (h u)
def Li(nd:(keys g).Nodup):j9 g (over g h):=HA nd λu v e=>by unfold over;rw[e];rfl
def fit(gH:Str->Bool)(g:iC):Aah->Aah->Option iC
 |[],[]=>some g
 |t::ts,a::as=>if gH t then(match get g t with
   |some m=>if m=a then fit gH g ts as else none
   |none=>fit gH (g++[(t,a)]) ts as)else if t=a then fit gH g ts as else none
 |_,_=>none
def Nc{u v x:Str}(n:get g u=none):get (g++[(u,v)]) x=if x=u then some v else get g x:=by
 unfold get at n⊢;rw[List.find?_append];by_cases c:x=u
 ·subst c;rw[aC rfl,xj.mp n];simp
 ·rw[az c];cases q:g.find? λp=>decide (p.1=x)with
  |none=>
   have:([(u,v)]:iC).find? (λp=>decide (p.1=x))=none:=by rw[tF];intro p hp;rw[ay.mp hp];simpa usingλe=>c e.symm
   rw[this];rfl
  |some p=>rfl
def Oo{u v:Str}(n:get g u=none):nZ g (g++[(u,v)]):=λx y e=>by
 rw[Nc n];split
 next c=>rw[c,n]at e;cases e
 next=>exact e
def nZ.refl(g:iC):nZ g g:=λ_ _ h=>h
def nZ.trans{g1 g2 g3:iC}(a:nZ g1 g2)(b:nZ g2 g3):nZ g1 g3:=λu v h=>b u v (a u v h)
def AR{u v:Str}(nd:(keys g).Nodup)(n:get g u=none):(keys (g++[(u,v)])).Nodup:=by unfold keys;rw[aJ];refine eB.mpr {nd,by simp,λa ha b hb=>?_};rw[kN,ay]at hb;rw[hb];rintro rfl;exact get_none.mp n ha
theorem rR:∀{ts as:Aah}{g g':iC},(keys g).Nodup->fit gH g ts as=some g'->(keys g').Nodup/\nZ g g'/\(∀u,u∈keys g'↔u∈keys g\/(u∈ts/\gH u=true))/\∀h,j9 g' h->ts.map (ap gH h)=as
 |[],[],g,g',nd,e=>by cases e;exact{nd,nZ.refl g,λu=>by simp,λh _=>rfl}
 |[],_::_,g,g',nd,e=>by cases e
 |_::_,[],g,g',nd,e=>by cases e
 |t::ts,a::as,g,g',nd,e=>by
  unfold fit at e;split at e
  next ut=>
   split at e
   next m em=>
    split at e
    next ma=>
     obtain⟨n1,l1,k1,f1⟩:=rR nd e;have tk:t∈keys g:=by
      by_cases q:t∈keys g
      ·exact q
      ·rw[get_none.mpr q]at em;cases em
     refine{n1,l1,λu=>?_,λh ag=>?_}
     ·rw[k1];constructor
      ·rintro(h|⟨h,h2⟩)
       ·exact .inl h
       ·exact .inr {aB _ h,h2}
      ·rintro(h|⟨h,h2⟩)
       ·exact .inl h
       ·rcases aG.mp h with rfl|h
        ·exact .inl tk
        ·exact .inr ⟨h,h2⟩
     ·rw[aU,f1 h ag];have:ap gH h t=a:=by unfold ap;rw[aC ut,ag.get (l1 t m em),ma]
      rw[this]
    next=>cases e
   next em=>
    obtain⟨n1,l1,k1,f1⟩:=rR (AR nd em) e;refine{n1,(Oo em).trans l1,λu=>?_,λh ag=>?_}
    ·rw[k1];have:u∈keys (g++[(t,a)])↔u∈keys g\/u=t:=by unfold keys;rw[aJ,bg];exact or_congr_right ay
     rw[this];constructor
     ·rintro((h|rfl)|⟨h,h2⟩)
      ·exact .inl h
      ·exact .inr ⟨aA,ut⟩
      ·exact .inr {aB _ h,h2}
     ·rintro(h|⟨h,h2⟩)
      ·exact .inl (.inl h)
      ·rcases aG.mp h with rfl|h
       ·exact .inl (.inr rfl)
       ·exact .inr ⟨h,h2⟩
    ·rw[aU,f1 h ag];have:ap gH h t=a:=by unfold ap;rw[aC ut];exact ag.get (l1 t a (by rw[Nc em,aC rfl]))
     rw[this]
  next ut=>
   split at e
   next ta=>
    obtain⟨n1,l1,k1,f1⟩:=rR nd e;refine{n1,l1,λu=>?_,λh ag=>?_}
    ·rw[k1];constructor
     ·rintro(h|⟨h,h2⟩)
      ·exact .inl h
      ·exact .inr {aB _ h,h2}
     ·rintro(h|⟨h,h2⟩)
      ·exact .inl h
      ·rcases aG.mp h with rfl|h
       ·exact absurd h2 ut
       ·exact .inr ⟨h,h2⟩
    ·rw[aU,f1 h ag];have:ap gH h t=a:=by unfold ap;rw[az ut,ta]
     rw[this]
   next=>cases e
theorem Fg:∀{ts:Aah}{g:iC},(keys g).Nodup->j9 g h->∃g',fit gH g ts (ts.map (ap gH h))=some g'/\j9 g' h
 |[],g,nd,ag=>⟨g,rfl,ag⟩
 |t::ts,g,nd,ag=>by
  rw[aU];unfold fit;by_cases ut:gH t=true
  ·rw[aC ut];have ea:ap gH h t=h t:=by unfold ap;rw[aC ut]
   cases em:get g t with
   |some m=>
    rw[ea];show∃g',(if m=h t then fit gH g ts (ts.map (ap gH h))else none)=some g'/\_;rw[aC (ag.get em).symm];exact Fg nd ag
   |none=>
    show∃g',fit gH (g++[(t,ap gH h t)]) ts (ts.map (ap gH h))=some g'/\_;refine Fg (AR nd em) λp hp=>?_;rcases bg.mp hp with q|q
    ·exact ag p q
    ·rw[ay.mp q];exact ea.symm
  ·rw[az ut];have ea:ap gH h t=t:=by unfold ap;rw[az ut]
   rw[ea,aC rfl];exact Fg nd ag
end
section
variable(gH:Str->Bool)(g:iC)
def abT(p:List Atom)(a:Atom):Bool:=p.any λo=>(a.2.filter λt=>gH t&&(get g t).isNone).any λt=>decide (t∈o.2)
def step(a:Atom):List (List Atom)->List Atom×List (List Atom)
 |[]=>([a],[])
 |ps=>ps.foldl (λacc p=>if abT gH g p a then(p++acc.1,acc.2)else(acc.1,acc.2++[p])) ([a],[])
def Apart(p q:List Atom):Prop:=∀u,u∈Sv gH p->u∈Sv gH q->u∈keys g
end
section
variable{gH:Str->Bool}{g:iC}
structure Stp(gH:Str->Bool)(g:iC)(a:Atom)(done:List (List Atom))(x:List Atom×List (List Atom)):Prop where
 mem:∀b,(b∈x.1\/∃p∈x.2,b∈p)↔(b=a\/∃p∈done,b∈p)
 len:x.1.length+(x.2.map List.length).sum=1+(done.map List.length).sum
 one:∀p∈x.2,Apart gH g p x.1
 two:x.2.Pairwise (Apart gH g)
 sub:∀p∈x.2,p∈done
 mrg:∀r,Apart gH g r [a]->(∀p∈done,Apart gH g r p)->Apart gH g r x.1
 ne:x.1≠[]
end
section
variable(gH:Str->Bool)(D:List Atom)
structure Got(g g':iC)(as:List Atom):Prop where
 nd:(keys g').Nodup
 lg:nZ g g'
 ks:∀u,u∈keys g'↔u∈keys g\/u∈Sv gH as
 ft:∀h,j9 g' h->Fits gH D h as
def Res(g:iC)(as:List Atom):Option iC->Prop
 |none=>¬Can gH D g as
 |some g'=>Got gH D g g' as
end
end gw
namespace kr
open PySem PySem.Spec PyProof.Rows L2 zZ gw
seal L2.PE L2.PT L2.PW L2.PA L2.PS L2.mY L2.PI L2.PO L2.BF L2.PG L2.Aa
def top(i:Nat):Stmt:=PySem.Challenge.pw_askviews_k41_what_views_see.main.body.getD i (.Pass {0,0,0,0})
abbrev yK:Stmt:=top 3
abbrev ve:Stmt:=top 4
abbrev tL:Stmt:=top 6
abbrev Ay:Stmt:=top 8
abbrev qy:Stmt:=top 9
abbrev AD:Stmt:=top 11
abbrev wX:Stmt:=top 12
abbrev rH:Stmt:=top 13
abbrev yI:Stmt:=top 15
abbrev wW:Stmt:=top 16
abbrev FP:Stmt:=top 17
abbrev yL:Stmt:=top 18
abbrev rG:Stmt:=top 19
abbrev IL:Stmt:=top 21
abbrev Dz:Stmt:=top 23
abbrev DA:Stmt:=top 24
abbrev Az:Stmt:=top 25
abbrev DB:Stmt:=top 26
abbrev Dy:Stmt:=top 27
abbrev vd:Stmt:=top 28
abbrev FO:Stmt:=top 29
abbrev vc:Stmt:=top 30
abbrev AB:Stmt:=top 31
abbrev yJ:Stmt:=top 32
abbrev qz:Stmt:=top 33
abbrev oS:Stmt:=top 34
abbrev AA:Stmt:=top 35
abbrev NS:Stmt:=top 36
abbrev u9:Stmt:=inClass (top 14) 0
abbrev rJ:Stmt:=inClass (top 14) 1
abbrev Du:Stmt:=inClass (top 14) 2
abbrev nr:Stmt:=inClass (top 14) 3
abbrev oR:Stmt:=inClass (top 14) 4
def FE(K:Frag)(H:Hp)(a:Addr)(xs:Aao):Prop:=
 (∃o,H a=some (.de o (.lst xs)))\/∃(o:Obj)(aY:Aal)(n:Nat),K.lookup a=some o/\o.cls=.type "list"/\o.dict=none/\o.data=.seq aY n/\aY.size<=sizeLine/\Vals xs aY.toList
def FE.sq{K:Frag}(h:FE K H a xs):bp K H a xs:=by
 rcases h with⟨o,h⟩|h
 ·exact .inl (.inr ⟨o,h⟩)
 ·exact .inr h
def dY(_K:Frag)(f:Addr)(H:Hp):Prop:=∃x p q:Int,H f=some (.lst [.int x,.int p,.int q])
def Ext(f:Addr)(H H':Hp):Prop:=∀b o,b≠f->H b=some o->H' b=some o
def Ext.refl(f:Addr)(H:Hp):Ext f H H:=λ_ _ _ h=>h
def Ext.trans(a:Ext f H H1)(b:Ext f H1 H2):Ext f H H2:=λc o n h=>b c o n (a c o n h)
def Ext.new(a:Ext f H H1)(h:H1 p=none)(o:HO):Ext f H (upd H1 p o):=λb u n q=>by rw[aE (bf (a b u n q) h)];exact a b u n q
def Ext.own(a:Ext f H H1)(h:H p=none)(o:HO):Ext f H (upd H1 p o):=λb u n q=>by rw[aE (bf q h)];exact a b u n q
def Ext.feed(a:Ext f H H1)(o:HO):Ext f H (upd H1 f o):=λb u n q=>by rw[aE n];exact a b u n q
def Ext.none(a:Ext f H H1)(n:p≠f)(h:H1 p=Option.none):H p=Option.none:=by
 cases q:H p with
 |none=>rfl
 |some o=>
  rw[a p o n q]at h;cases h
def dY.new{K:Frag}(h:dY K f H)(hp:H p=none)(o:HO):dY K f (upd H p o):=by obtain⟨x,y,z,hf⟩:=h;exact{x,y,z,by rw[aE (bf hf hp)];exact hf}
def dY.lst{K:Frag}(h:dY K f H)(hp:H p=some (.lst xs))(n:p≠f)(o:HO):dY K f (upd H p o):=by obtain⟨x,y,z,hf⟩:=h;exact{x,y,z,by rw[aE n.symm];exact hf}
def dY.qd{K:Frag}(h:dY K f H)(hp:H p=none):p≠f:=by obtain⟨x,y,z,hf⟩:=h;exact(bf hf hp).symm
def dY.same{K:Frag}{f:Addr}{H H':Hp}(h:dY K f H)(sm:bq H H'):dY K f H':=by obtain⟨x,y,z,hf⟩:=h;exact{x,y,z,sm _ _ hf}
inductive Es(K:Frag)(vs:Aao)(H:Hp)(Q:VK)(_x3:XK):Prop
 |mk (f:Addr) (many:Int) (_:vs=[.ref f,.int many]) (_:dY K f H) (_:0<many) (_:many<1073741824) (_:∀(i:Int)(H':Hp),0<=i->i<many->dY K f H'->Ext f H H'->Q (.int i) H')
inductive PM(K:Frag)(vs:Aao)(H:Hp)(Q:VK)(_x3:XK):Prop
 |mk (a:Addr) (ns:List Int) (k:Int) (_:vs=[.ref a,.int k]) (_:FE K H a (ns.map V.int)) (_:ns.length<=63) (_:0<=k) (_:∀(r:Addr)(H':Hp),dY K r H'->bq H H'->H r=none->Q (.ref r) H')
noncomputable def cJ:Aah:=["a","ab","r","rs","abc","12","1","x","s","x1","0","abcdefgh"]
inductive BX(K:Frag)(vs:Aao)(H:Hp)(Q:VK)(_x3:XK):Prop
 |mk (f:Addr) (many:Int) (_:vs=[.ref f,.int many]) (_:dY K f H) (_:0<=many) (_:many<=12) (_:∀(r:Addr)(ws:Aah)(H':Hp),dY K f H'->Ext f H H'->r≠f->H r=none->H' r=some (.lst (ws.map V.str))->(ws.length:Int)=many->ws.Nodup->(∀z∈ws,z∈cJ)->Q (.ref r) H')
section
variable{P:Program}{w:World}{K:Frag}{mg:Aad}{base:Heap}
structure Txt(K:Frag)(mg:Aad):Prop where
 kW:mg "len"=none
 mJ:mg "range"=none
 kE:mg "tuple"=none
 vj:mg "list"=none
 nB:mg "isinstance"=none
 VP:mg "all"=none
 VO:mg "str"=none
 aeA:mg "bool"=none
 aeC:mg "int"=none
 AX:mg "dict"=none
 wZ:mg "enumerate"=none
 ES:mg "zip"=none
 acj:mg "sum"=none
 vi:mg "sorted"=none
 Of:mg "set"=none
 Yy:∃t,mg "SIGNS"=some (.str "abcdefghijklmnopqrstuvwxyz0123456789" t)
 Kw:∃t,mg "MOST_SIGNS"=some (.int 8 t)
def Zl(r:gZ k A):A.units+96<cLine:=by have:=r.un;lia
def P0:cD ["_law_script","_law_k"] ["_law_script","_law_k"] (defScope Dz):=jD (-3)
def X8(F:fu K "_law_feed" "_law_feed" Dz f fd)(T:Txt K mg):dk P w K mg base fU 1 f fd ["_law_script","_law_k"] (PM K):=by
 refine F.ok P0 (λ_ _ _ _ h=>by cases h;subst_vars;rfl) (-4);obtain⟨a,ns,kk,rfl,hS,hn,hk,k⟩:=h;refine{_,(aN (gJ (dh uD (cW iS rfl T.kW dj (cz (pv 0))) bj (eX _)) (ba (cN (fb (sN bj bj (pv 1))))) eG) (ba (cN (fb (sN (dq hJ (pv 0) (dM pf (pv 1) (cW iS rfl T.kW dj (cz (pv 0)))) (-15)) bj (pv 1)))))),?_}
 have nl:(-68).length=ns.length:=ak _;refine{_,rfl,_,_,rfl,.inl {_,hS.sq,rfl},rfl,_,rfl,?_};refine fo (-62) (-62)
 ·refine{_,rfl,(by show 3<=sizeLine;decide),λp hp=>?_};exact k p _ ⟨_,_,_,aw⟩ (λb u q=>by rw[aE (bf q hp)];exact q) hp
 ·have c1:((-68).length:Int)≠0:=λe=>c (aZ (bU V.int e));have c3:(0:Int)<((-68).length:Int):=by lia
  have c4:=m6 kk (show((-68).length:Int)≠0 by lia);have c5:=kQ kk c3;obtain⟨v,hv⟩:∃v,ns[(kk %((-68).length:Int)).toNat]?=some v:={_,au (by rw[<-nl];lia)};have ev:wH (-68) (kk %((-68).length:Int))=some (.int v):=by
   have e0:kk %((-68).length:Int)=(((kk %((-68).length:Int)).toNat:Nat):Int):=by lia
   rw[e0];exact kF (by rw[aK,hv];rfl)
  refine{_,rfl,_,rfl,_,rfl,_,_,rfl,.inl {_,hS.sq,rfl},_,_,rfl,rfl,c3,_,_,_,_,rfl,rfl,hS.sq,ev,_,rfl,(by show 3<=sizeLine;decide),λp hp=>?_};exact k p _ ⟨_,_,_,aw⟩ (λb u q=>by rw[aE (bf q hp)];exact q) hp
def wj:cD ["_law_feed_here","_law_many","_law_digit","_law_seed"] ["_law_feed_here","_law_many"] (defScope DA):=jD (-3)
def X9(F:fu K "_law_draw" "_law_draw" DA f fd)(T:Txt K mg):dk P w K mg base fU 1 f fd ["_law_feed_here","_law_many"] (Es K):=by
 refine F.ok wj (λ_ _ _ _ h=>by cases h;subst_vars;rfl) (-4);obtain⟨fe,many,rfl,⟨x,p,q,hf⟩,hm,Rh,k⟩:=h;have lo:∀(x m:Int),0<m->m<2^32->-(2^64)<x % m/\x % m<2^64:=λx m h1 h2=>by have h3:=m6 x (show m≠0 by lia);have h4:=kQ x h1;lia
 refine{_,(aN (xG (dM jE (dq hJ (pv 0) bj (-15)) bj) (Qf (pv 0) bj set_list)) (aN (gJ (dh aci (dq hJ (pv 0) bj (-15)) (dM aak bj bj) (eX _)) (aN (fK 2 wj (dM pf (dq hJ (pv 0) bj (-15)) (pv 1))) (aN (xG (dM Tr (dq hJ (pv 0) bj (-15)) (pv 1)) (Qf (pv 0) bj set_list)) (ba (cN (pv 2))))) eG) (aN (fK 3 wj (dM jE (dM jE (dM jE (dM pf (dq hJ (pv 0) bj (-15)) bj) (dM xK bj (dq hJ (pv 0) bj (-15)))) (dM xK bj (dq hJ (pv 0) bj (-15)))) bj)) (aN (fK 3 wj (dM pf (dM xK (pv 3) bj) bj)) (ba (cN (dM pf (dM pf (dM xK (dM pf (dM jE (dM xK (pv 3) bj) (dq hJ (pv 0) bj (-15))) bj) bj) bj) (pv 1)))))))),?_}
 refine{_,rfl,fe,_,_,_,rfl,rfl,bp.of hf,rfl,_,_,rfl,rfl,_,rfl,fe,_,_,_,rfl,rfl,hf,rfl,?_};have vB:upd H fe (.lst [.int x,.int (p+1),.int q]) fe=some (.lst [.int x,.int (p+1),.int q]):=aw;have rB:Ext fe H (upd H fe (.lst [.int x,.int (p+1),.int q])):=(Ext.refl fe H).feed _;refine{_,rfl,fe,_,_,_,rfl,rfl,bp.of vB,rfl,_,_,rfl,rfl,{by decide,by decide,by decide},_,_,rfl,rfl,_,rfl,?_};refine fo (-62) (-62)
 ·refine{_,rfl,fe,_,_,_,rfl,rfl,bp.of vB,rfl,_,rfl,_,_,rfl,rfl,hm,?_};have l2:many.natAbs.log2<9000:=by
   by_cases hz:many.natAbs=0
   ·rw[hz];decide
   ·rw[Nat.log2_lt hz];exact fG (show many.natAbs<2^30 by lia) (Nat.pow_lt_pow_right (-8) (-8))
  refine{_,rfl,fe,_,_,_,rfl,rfl,bp.of vB,rfl,_,rfl,_,_,rfl,rfl,⟨hm,l2⟩,_,rfl,fe,_,_,_,rfl,rfl,vB,rfl,?_};refine{_,rfl,?_};exact k _ _ (m6 _ ∅) (kQ _ hm) ⟨_,_,_,aw⟩ (rB.feed _)
 ·refine{_,rfl,fe,_,_,_,rfl,rfl,bp.of vB,rfl,_,_,rfl,rfl,(by show(0:Int)<2147483647;decide),?_};refine{_,rfl,fe,_,_,_,rfl,rfl,bp.of vB,rfl,_,_,rfl,rfl,.inl {by decide,by decide},_,_,rfl,rfl,?_};refine{_,rfl,fe,_,_,_,rfl,rfl,bp.of vB,rfl,_,_,rfl,rfl,.inl {by decide,by decide},_,_,rfl,rfl,_,_,rfl,rfl,?_};refine{_,rfl,_,_,rfl,rfl,.inr {by decide,by decide},_,_,rfl,rfl,(by show(0:Int)<2147483647;decide),?_};refine{_,rfl,_,_,rfl,rfl,.inr {by decide,by decide},_,rfl,fe,_,_,_,rfl,rfl,bp.of vB,rfl,_,_,rfl,rfl,_,_,rfl,rfl,(by show(0:Int)<2147483399;decide),_,_,rfl,rfl,.inr {by decide,by decide},_,_,rfl,rfl,(by show(0:Int)<2147483563;decide),_,rfl,_,_,rfl,rfl,hm,?_};exact k _ _ (m6 _ ∅) (kQ _ hm) ⟨_,_,_,vB⟩ rB
structure Dr(P:Program)(w:World)(K:Frag)(mg:Aad)(base:Heap):Prop where
 fB:dP P w K mg base 1 "_law_draw" ["_law_feed_here","_law_many"] (Es K)
def wordAt(i s j:Nat):Str:=cJ.getD ((i+s*j) % 12) ""
def Sl:((List.range 12).all λi=>([1,5,7,11]:List Nat).all λs=>decide (((List.range 12).map λj=>wordAt i s j).Nodup))=true:=by decide+kernel
def Sm:((List.range 12).all λi=>decide (cJ.getD i ""∈cJ))=true:=by decide+kernel
def La{i s m:Nat}(hi:i<12)(hs:s∈([1,5,7,11]:List Nat))(hm:m<=12):((List.range m).map λj=>wordAt i s j).Nodup:=by
 have h1:=bo (bZ.mp (bZ.mp Sl i (cY.mpr hi)) s hs);have h2:((List.range m).map λj=>wordAt i s j)=(((List.range 12).map λj=>wordAt i s j)).take m:=by rw[<-tW,List.take_range,gM hm]
 rw[h2];exact h1.sublist (oY _ _)
def Xj(i s j:Nat):wordAt i s j∈cJ:=bo (bZ.mp Sm ((i+s*j) % 12) (cY.mpr (lX _ (-8))))
def ab7{i:Int}(h0:0<=i)(h1:i<4):∃s:Nat,s∈([1,5,7,11]:List Nat)/\wH [V.int 1,V.int 5,V.int 7,V.int 11] i=some (.int (s:Int)):=by
 have c:i=0\/i=1\/i=2\/i=3:=by lia
 rcases c with rfl|rfl|rfl|rfl
 ·exact{1,by decide,rfl}
 ·exact{5,by decide,rfl}
 ·exact{7,by decide,rfl}
 ·exact{11,by decide,rfl}
def uB:cD ["_law_feed_here","_law_many","_law_some","_law_first","_law_step"] ["_law_feed_here","_law_many"] (defScope Az):=jD (-3)
def Tv{f:Addr}{fd:FuncData}(F:fu K "_law_words" "_law_words" Az f fd)(T:Txt K mg)(D:Dr P w K mg base):dk P w K mg base fU 2 f fd ["_law_feed_here","_law_many"] (BX K):=by
 refine F.ok uB (λ_ _ _ _ h=>by cases h;subst_vars;rfl) (-4);obtain⟨fe,many,rfl,hF,hm0,Wn,k⟩:=h;refine{_,(aN (jT (i:=2) uB.nd rfl (Or.inr rfl) (fb (iF f7 (iF f7 (iF f7 (iF f7 (iF f7 (iF f7 (iF f7 (iF f7 (iF f7 (sN f7 f7 f7)))))))))))) (aN (jT (i:=3) uB.nd rfl (Or.inr rfl) (-23)) (aN (jT (i:=4) uB.nd rfl (Or.inr rfl) (dq hJ (fb (iF bj (sN bj bj bj))) (-23) (-15))) (ba (cN (hE rfl (cU (fs:=["_law_some","_law_first","_law_step"]) (fr:=[2,3,4])) (jO rfl T.mJ (cz (pv 1))) (λ_ _ _ _=>(dq (vv (K:=K)) (pv 1) (dM pf (dM jE (pv 2) (dM xK (pv 3) (pv 0))) bj) (-15))))))))),?_}
 refine{(by show 12<=sizeLine;decide),λp hp=>?_};have np:=hF.qd hp;have oM:=hF.new hp (.lst [.str "a",.str "ab",.str "r",.str "rs",.str "abc",.str "12",.str "1",.str "x",.str "s",.str "x1",.str "0",.str "abcdefgh"]);refine{_,rfl,fe,12,rfl,oM,by decide,by decide,λi H1 i0 i1 oM rB=>?_};refine{(by show 4<=sizeLine;decide),λp2 iU=>?_};have np2:=oM.qd iU;refine{_,rfl,fe,4,rfl,oM.new iU _,by decide,by decide,λj H2 j0 j1 jV jW=>?_};obtain⟨st,ie,ev⟩:=ab7 j0 j1;refine{_,_,_,_,rfl,rfl,bp.of (jW _ _ np2 aw),ev,?_};have wA:H1 p=some (.lst (cJ.map V.str)):=rB _ _ np aw;have npp:p≠p2:=bf wA iU;have Wl:H2 p=some (.lst (cJ.map V.str)):=jW _ _ np (by rw[aE npp];exact wA);have ex:Ext fe H H2:=(((Ext.refl fe H).new hp _).trans rB).trans (((Ext.refl fe H1).new iU _).trans jW);refine{_,rfl,many,rfl,by lia,by lia,λn m ys H3=>H3=H2/\n<=many.toNat/\m=many.toNat -n/\ys=((List.range n).map λj=>wordAt i.toNat st j).map V.str,{_,rfl,aP _,rfl,rfl},?_};rintro n m ys H3 ⟨rfl,hn,rfl,rfl⟩;have ly:(((List.range n).map λj=>wordAt i.toNat st j).map V.str).length=n:=by rw[ak,ak,gG]
 by_cases bK:n<many.toNat
 ·refine .inr {bK,by rw[ly];exact bC ∅,?_};rintro v H4 ⟨rfl,rfl⟩;refine gq ?_;have hix:wH (cJ.map V.str) ((i+(st:Int)*(0+(n:Int))) % 12)=some (.str (wordAt i.toNat st n)):=by
   have e0:(i+(st:Int)*(0+(n:Int))) % 12=(((i.toNat+st*n) % 12:Nat):Int):=by
    have e1:i=(i.toNat:Int):=by lia
    rw[vS,e1];simp
   rw[e0];refine kF ?_;have Wo:(i.toNat+st*n) % 12<cJ.length:=lX _ (-8);rw[aK,au Wo];unfold wordAt;rw[cq,au Wo];rfl
  have acy:-(2^64)<(st:Int)/\(st:Int)<2^64:=by simp at ie;lia
  refine{_,rfl,_,rfl,_,rfl,_,rfl,_,_,rfl,rfl,.inl acy,_,_,rfl,rfl,_,_,rfl,rfl,(by show(0:Int)<12;decide),_,_,_,_,rfl,rfl,bp.of Wl,hix,?_};refine{many.toNat -(n+1),by lia,rfl,bK,rfl,?_};rw[List.range_succ,aJ,aJ];rfl
 ·have en:n=many.toNat:=by lia
  refine .inl {by show many.toNat<=n;lia,by rw[ly];exact bu (bC ∅),λl hl=>?_};have nl:=jV.qd hl;refine k l _ _ (jV.new hl _) (ex.new hl _) nl (ex.none nl hl) aw ?_ (La ∅ ie ∅) λz hz=>?_
  ·rw[ak,gG];lia
  ·obtain⟨j,_,rfl⟩:=aR.mp hz;exact Xj _ _ _
def EH(hg:Gl X x)(hm:X.mg x=none)(hv:bootBuiltins x=some (.type n))(hn:x≠"__name__":=by decide)(hd:(-33)=false:=by decide):PE X (.Name x pos) (tC (.ty n)):=X3 hg hm hv rfl hn hd
def SIGNS:Str:="abcdefghijklmnopqrstuvwxyz0123456789"
def sgn(c:Nat):Bool:=!(Builtin.Str.occurrences SIGNS ⟨#[c]⟩ 0 SIGNS.length 1).isEmpty
def isVal(s:Str):Bool:=decide ((1:Int)<=(s.length:Int))&&(decide ((s.length:Int)<=8)&&(s.cps.toList.map sgn).all id)
def isUnk(s:Str):Bool:=Txt.startswith s "?"&&isVal (Txt.slice s (some 1) none)
inductive Vn(vs:Aao)(H:Hp)(Q:VK)(_x3:XK):Prop
 |mk (z:Str) (_:vs=[.str z]) (_:z.length<=1000) (_:∀H',bq H H'->Q (.bl (isVal z)) H')
inductive Vo(vs:Aao)(H:Hp)(Q:VK)(_x3:XK):Prop
 |mk (z:Str) (_:vs=[.str z]) (_:z.length<=1000) (_:∀H',bq H H'->Q (.bl (isUnk z)) H')
def aM(h:H p=none)(o:HO):bq H (upd H p o):=λb u q=>by rw[aE (bf q h)];exact q
def JZ(t:Value):kitOne K t t=some true:=by unfold kitOne;rw[aC (beq_self_eq_true t)]
def Lf:cD ["thing"] ["thing"] (defScope yK):=jD (-3)
def Lk(F:fu K "is_value" "is_value" yK f fd)(T:Txt K mg):dk P w K mg base fU 1 f fd ["thing"] Vn:=by
 refine F.ok Lf (λ_ _ _ _ h=>by cases h;subst_vars;rfl) (-4);obtain⟨z,rfl,hz,k⟩:=h;refine{_,(aN (gJ (Ja (AJ (cW pk rfl T.nB (-3) (dR (pv 0) (EH (n:="str") rfl T.VO (-3)))))) (ba (cN yO)) eG) (ba (cN (Js (Tq N9 N9 bj (cW iS rfl T.kW dj (cz (pv 0))) (Tj rfl T.Kw)) (Qg (cW (yh rfl) rfl T.VP boot_all (cz (hE rfl (cU (fs:=[]) (fr:=[])) (aai (pv 0)) (λ_ _ _ _=>(FU Qn (pv 0) (Ti rfl T.Yy) (-59))))))))))),?_}
 have lN:z.length<=sizeLine:=bu (bC hz);refine{_,rfl,_,_,_,true,rfl,oW.str z,JZ _,_,rfl,?_};refine vy ?_;refine{_,rfl,_,_,rfl,⟨lN,rfl⟩,_,_,rfl,rfl,_,rfl,?_};refine fo (λc1=>?_) (λc1=>?_)
 ·refine{_,_,rfl,rfl,_,rfl,?_};refine fo (λc2=>?_) (λc2=>?_)
  ·refine{_,rfl,_,rfl,λi m ys H2=>H2=H/\i<=z.cps.size/\m=z.cps.size -i/\ys=((z.cps.toList.take i).map sgn).map V.bl,{_,rfl,aP _,rfl,rfl},?_};rintro i m ys H2 ⟨rfl,hi,rfl,rfl⟩;have hl:∀j,(((z.cps.toList.take j).map sgn).map V.bl).length<=1000:=λj=>by
    rw[ak,ak,aT];have:z.cps.toList.length=z.length:=by simp[Str.length]
    lia
   by_cases bK:i<z.cps.size
   ·refine .inr {bK,bC (hl i),?_};rintro v H3 ⟨rfl,c,hc,rfl⟩;refine gq ?_;refine{_,rfl,_,_,rfl,rfl,_,?_,rfl,bK,rfl,?_}
    ·exact Nat.sub_lt_sub_left bK (dC i)
    ·have qi:z.cps.toList[i]?=some c:=by simpa using hc
     rw[bh,qi,aJ,aJ];rfl
   ·have e:i=z.cps.size:=by lia
    refine .inl {e,bu (bC (hl i)),λl qL=>?_};refine{_,(z.cps.toList.take i).map sgn,rfl,bp.of aw,?_};have et:z.cps.toList.take i=z.cps.toList:=dU (by rw[e];simp);have ev:isVal z=((z.cps.toList.take i).map sgn).all id:=by unfold isVal;rw[c1,c2,et,gP,gP]
    rw[<-ev];exact k _ (aM qL _)
  ·have ev:isVal z=false:=by unfold isVal;rw[fM.mpr c2,lL,sf]
   have q:=k H (bq.refl H);rw[ev]at q;exact q
 ·have ev:isVal z=false:=by unfold isVal;rw[fM.mpr c1,lL]
  have q:=k H (bq.refl H);rw[ev]at q;refine{_,rfl,?_};exact vy q
structure Dv(P:Program)(w:World)(K:Frag)(mg:Aad)(base:Heap):Prop where
 is_value:dP P w K mg base 1 "is_value" ["thing"] Vn
def HI:cD ["thing"] ["thing"] (defScope ve):=jD (-3)
def slice_le(z:Str):(Txt.slice z (some 1) none).length<=z.length:=qV z _ _
def HJ(F:fu K "is_unknown" "is_unknown" ve f fd)(T:Txt K mg)(D:Dv P w K mg base):dk P w K mg base fU 2 f fd ["thing"] Vo:=by
 refine F.ok HI (λ_ _ _ _ h=>by cases h;subst_vars;rfl) (-4);obtain⟨z,rfl,hz,k⟩:=h;refine{_,(ba (cN (Js (cW pk rfl T.nB (-3) (dR (pv 0) (EH (n:="str") rfl T.VO (-3)))) (Js (ox PySem.F.plainAttrs_str PySem.F.slot_str_startswith PySem.F.type_str_startswith HK (pv 0) (cz f7)) (Qg (cl D.is_value hr (cz (rN ZQ (pv 0) (uN bj) uO)))))))),?_};have lN:z.length<=sizeLine:=bu (bC hz);refine{_,rfl,_,_,_,true,rfl,oW.str z,JZ _,_,rfl,?_};refine F2 ?_;refine{_,rfl,rfl,_,_,rfl,rfl,_,rfl,?_};refine fo (λc1=>?_) (λc1=>?_)
 ·refine{_,rfl,_,rfl,_,rfl,lN,_,rfl,aD (slice_le z) hz,λH' sm=>?_};have ev:isUnk z=isVal (Txt.slice z (some 1) none):=by unfold isUnk;rw[c1,gP]
  rw[<-ev];exact k H' sm
 ·have ev:isUnk z=false:=by unfold isUnk;rw[fM.mpr c1,lL]
  have q:=k H (bq.refl H);rw[ev]at q;exact q
def step(acc:Aah)(t:Str):Aah:=if isUnk t=true then(if t∈acc then acc else acc++[t])else acc
def fN(fl:Aah):Aah:=fl.foldl step []
def TU(acc:Aah)(t:Str):(step acc t).length<=acc.length+1:=by
 unfold step;split
 ·split
  ·lia
  ·rw[aO];exact ar _
 ·lia
theorem JV:∀(fl acc:Aah),(fl.foldl step acc).length<=acc.length+fl.length
 |[],acc=>by simp
 |t::r,acc=>by have h1:=JV r (step acc t);have h2:=TU acc t;rw[fT,bx];lia
def F0(fl:Aah):(fN fl).length<=fl.length:=by have:=JV fl [];simpa[fN]using this
def Sw(fl:Aah)(t:Str):fN (fl++[t])=step (fN fl) t:=by unfold fN;rw[oZ];rfl
def qG(acc:Aah):List (Key×V):=acc.map λt=>(Sum.inr t,V.bl true)
def any_keys(acc:Aah)(t:Str):((qG acc).any λkv=>decide (kv.1=(Sum.inr t:Key)))=decide (t∈acc):=by
 unfold qG;rw[List.any_map,fV,j7];constructor
 ·rintro⟨x,hx,e⟩;have e':(Sum.inr x:Key)=Sum.inr t:=bo e;injection e' with e';exact aZ (e'▸hx)
 ·intro h;exact{t,bo h,aZ rfl}
def S9(acc:Aah)(t:Str):putK (qG acc) (Sum.inr t:Key) (V.bl true)=qG (if t∈acc then acc else acc++[t]):=by
 unfold putK;rw[any_keys];by_cases h:t∈acc
 ·rw[aZ h,aC rfl,aC h];unfold qG;rw[bW];refine bX λx _=>?_;show(if(Sum.inr x:Key)=Sum.inr t then((Sum.inr x:Key),V.bl true)else(Sum.inr x,V.bl true))=_;split<;>rfl
 ·rw[bI h,az aW,az h];unfold qG;rw[aJ];rfl
def QR(acc:Aah):((qG acc).map λkv=>kV kv.1)=acc.map V.str:=by unfold qG;rw[bW];rfl
def eE(H H':Hp):Prop:=∀b xs,H b=some (.tup xs)->H' b=some (.tup xs)
def eE.trans(a:eE H H1)(b:eE H1 H2):eE H H2:=λc xs h=>b c xs (a c xs h)
def eE.of{H H':Hp}(a:bq H H'):eE H H':=λc xs h=>a c _ h
def eE.refl(H:Hp):eE H H:=λ_ _ h=>h
def eE.new(a:eE H H1)(h:H1 p=none)(o:HO):eE H (upd H1 p o):=λb xs q=>by rw[aE (bf (a b xs q) h)];exact a b xs q
def eE.ext(hf:H f=some (-39))(a:Ext f H H1):eE H H1:=λb xs q=>a b _ (yR q hf λz=>by cases z) q
def dY.ng{K:Frag}(h:dY K f H)(a:Ext f H H1):eE H H1:=by obtain⟨_,_,_,hf⟩:=h;exact eE.ext hf a
def mG(H:Hp)(v:V)(a:Str×Aah):Prop:=∃(p t:Addr),v=.ref p/\H p=some (.tup [.str a.1,.ref t])/\H t=some (.tup (a.2.map V.str))
abbrev fh(H:Hp):Aao->Aaa->Prop:=Paired (mG H)
def mG.keep(a:eE H H')(h:mG H v b):mG H' v b:=by obtain⟨p,t,e,h1,h2⟩:=h;exact{p,t,e,a _ _ h1,a _ _ h2}
def fh.keep(a:eE H H')(h:fh H vs ats):fh H' vs ats:=Paired.imp' (λ_ _ q=>q.keep a) h
def Di(H:Hp)(v:V)(hz:Aah)(ats:Aaa):Prop:=∃(q h a:Addr)(vs:Aao),v=.ref q/\H q=some (.tup [.ref h,.ref a])/\H h=some (.tup (hz.map V.str))/\H a=some (.tup vs)/\fh H vs ats
def Di.keep{H H':Hp}{v:V}{hz:Aah}{ats:Aaa}(t:eE H H')(x:Di H v hz ats):Di H' v hz ats:=by obtain⟨q,h,a,vs,e,h1,h2,h3,h4⟩:=x;exact{q,h,a,vs,e,t _ _ h1,t _ _ h2,t _ _ h3,fh.keep t h4}
def Paired.Ew(h:Paired F l₁ aac)(q:F a b):Paired F (l₁++[a]) (aac++[b]):=h.snoc q
theorem Paired.app{α β:Type}{F:α->β->Prop}:∀{l₁ m₁:List α}{aac m₂:List β},Paired F l₁ aac->Paired F m₁ m₂->Paired F (l₁++m₁) (aac++m₂)
 |_,_,_,_,.nil,h=>h
 |_,_,_,_,.cons a t,h=>.cons a (Paired.app t h)
theorem Paired.at:∀{l₁:List α}{aac:List β}{i:Nat}{x:α},Paired F l₁ aac->l₁[i]?=some x->∃y,aac[i]?=some y/\F x y
 |_,_,_,_,.nil,e=>by simp at e
 |_,_,0,_,.cons r _,e=>by simp at e;subst e;exact⟨_,rfl,r⟩
 |_,_,i+1,x,.cons _ t,e=>by obtain⟨y,h1,h2⟩:=Paired.at (i:=i) (x:=x) t (by simpa using e);exact{y,by simpa using h1,h2}
def cQ(ats:Aaa):Aah:=(ats.map (·.2)).flatten
def OU(l:Aaa)(a:Str×Aah):cQ (l++[a])=cQ l++a.2:=by unfold cQ;rw[aJ,List.flatten_append];simp
def yZ{ats:Aaa}(h:ats[i]?=some a):cQ (ats.take (i+1))=cQ (ats.take i)++a.2:=by rw[bh,h];exact OU _ _
def rM{zs:Aah}(h0:0<=i)(h1:i<(zs.length:Int)):∃z,z∈zs/\wH (zs.map V.str) i=some (.str z):=by
 obtain⟨z,hz⟩:∃z,zs[i.toNat]?=some z:={_,au ∅};refine{z,aH hz,?_};have e:i=((i.toNat:Nat):Int):=by lia
 rw[e];exact kF (by rw[aK,hz];rfl)
theorem uP:∀l:Aaa,(∀a∈l,a.2.length<=4)->(cQ l).length<=4*l.length
 |[],_=>ar _
 |a::r,q=>by have h1:=uP r λts qJ=>q ts (aB _ qJ);have h2:=q a aA;show(a.2++cQ r).length<=_;rw[aO,bx];lia
def qj{ats:Aaa}{z:Str}:z∈cQ ats↔∃a∈ats,z∈a.2:=by
 unfold cQ;rw[List.mem_flatten];constructor
 ·rintro⟨l,h1,h2⟩;obtain⟨a,ha,rfl⟩:=aR.mp h1;exact⟨a,ha,h2⟩
 ·rintro⟨a,ha,h⟩;exact{a.2,cy ha,h}
def pH(z:Str):Str:=("?":Str)++z
def rF:Aah:=cJ.map pH
end
inductive Ma(K:Frag)(vs:Aao)(H:Hp)(Q:VK)(_x3:XK):Prop
 |mk (f nl ul vl:Addr) (gC us ws:Aah) (_:vs=[.ref f,.ref nl,.ref ul,.ref vl]) (_:dY K f H) (_:(nl≠f/\ul≠f/\vl≠f)) (_:(H nl=some (.lst (gC.map V.str))/\1<=gC.length/\gC.length<=100)) (_:(H ul=some (.lst (us.map V.str))/\1<=us.length/\us.length<=100)) (_:(H vl=some (.lst (ws.map V.str))/\1<=ws.length/\ws.length<=100)) (_:∀(r:Addr)(a:Str×Aah)(H':Hp),dY K f H'->Ext f H H'->mG H' (.ref r) a->a.1∈gC->1<=a.2.length->a.2.length<=4->(∀z∈a.2,z∈us\/z∈ws)->Q (.ref r) H')
section
variable{P:Program}{w:World}{K:Frag}{mg:Aad}{base:Heap}
def VU{i:Int}(h0:0<=i):∃n:Int,wH [V.int 2,V.int 1,V.int 3] (i % 3)=some (.int n)/\1<=n/\n<=4:=by
 have h1:=m6 i (show(3:Int)≠0 by decide);have h2:=kQ i (show(0:Int)<3 by decide);generalize i % 3=j at h1 h2;have c:j=0\/j=1\/j=2:=by lia
 rcases c with rfl|rfl|rfl
 ·exact{2,rfl,by decide,by decide}
 ·exact{1,rfl,by decide,by decide}
 ·exact{3,rfl,by decide,by decide}
def lM:cD ["_law_feed_here","_law_names","_law_unknowns_here","_law_values","_law_at","_law_long","_law_terms","_law_k","_law_term"] ["_law_feed_here","_law_names","_law_unknowns_here","_law_values"] (defScope DB):=jD (-3)
def TJ{f:Addr}{fd:FuncData}(F:fu K "_law_atom" "_law_atom" DB f fd)(T:Txt K mg)(D:Dr P w K mg base):dk P w K mg base fU 2 f fd ["_law_feed_here","_law_names","_law_unknowns_here","_law_values"] (Ma K):=by
 refine F.ok lM (λ_ _ _ _ h=>by cases h;subst_vars;rfl) (-4);obtain⟨fe,nl,ul,vl,gC,us,ws,rfl,hF,⟨qD,nul,sO⟩,⟨vA,A9,ue⟩,⟨MR,Kd,zO⟩,⟨ph,hv1,EZ⟩,k⟩:=h;have ln:(gC.map V.str).length=gC.length:=ak _;have lu:(us.map V.str).length=us.length:=ak _;have lv:(ws.map V.str).length=ws.length:=ak _;refine cut 3 (λZ H2=>∃(at' lg:Int)(x6 x7 x8:Aap),Z=[some (.ref fe),some (.ref nl),some (.ref ul),some (.ref vl),some (.int at'),some (.int lg),none,none,none]/\0<=at'/\at'<(gC.length:Int)/\1<=lg/\lg<=4/\dY K fe H2/\Ext fe H H2)
  {_,(aN (fK 6 lM (fb gN)) (aN (fR bS rfl (jO rfl T.mJ (cz (pv 5))) (iu 7 lM) (aN (fK 8 lM (dq hJ (pv 2) (cl D.fB hr (dR (pv 0) (cW iS rfl T.kW dj (cz (pv 2))))) (-15))) (aN (gJ (dh uD (-23) bj (eX _)) (ba (fK 8 lM (dq hJ (pv 3) (cl D.fB hr (dR (pv 0) (cW iS rfl T.kW dj (cz (pv 3))))) (-15)))) eG) (ba (lC (ox dc gc f9 qe (pv 6) (cz (pv 8)))))))) (ba (cN (iZ (dR (dq hJ (pv 1) (pv 4) (-15)) (dF fE rfl T.kE (-3) (cz (pv 6))))))))),?_} (λt2 ht=>{_,(aN (fK 4 lM (cl D.fB hr (dR (pv 0) (cW iS rfl T.kW dj (cz (pv 1)))))) (aN (fK 5 lM (dq hJ (fb (sN bj bj bj)) (dM pf (pv 4) bj) (-15))) (aN (gJ (dh uD (-23) bj (eX _)) (ba (fK 5 lM (dM jE bj (-23)))) eG) ht))),λtl=>?_})
 ·rintro Z H2 ⟨at',lg,_,_,_,rfl,a0,a1,l0,l1,jV,jW⟩;refine{(-18),λt ht=>?_};have nt:=jV.qd ht;have Q9:H t=none:=jW.none nt ht;refine{_,rfl,lg,rfl,by lia,by lia,wG (lo:=0) (n:=lg.toNat)
   (λj Z H3=>∃(y7 y8:Aap)(ts:Aah),Z=[some (.ref fe),some (.ref nl),some (.ref ul),some (.ref vl),some (.int at'),some (.int lg),some (.ref t),y7,y8]/\dY K fe H3/\Ext fe H H3/\H3 t=some (.lst (ts.map V.str))/\ts.length=j/\∀z∈ts,z∈us\/z∈ws)
   {none,none,[],rfl,jV.new ht _,jW.new ht _,aw,rfl,λz h=>by cases h} ?_ ?_}
  ·rintro j Z H3 hj ⟨y7,y8,ts,rfl,jP,iy,G9,bK,qJ⟩;refine{_,rfl,_,rfl,_,rfl,_,_,rfl,.inl {_,bp.of (iy _ _ nul MR),rfl},fe,_,rfl,jP,by lia,by lia,λi4 H4 i0 i1 nG mD=>?_};have abt:=iy.trans mD;obtain⟨z,hz,ev⟩:=rM (zs:=us) i0 ∅;refine{_,_,_,_,rfl,rfl,bp.of (abt _ _ nul MR),ev,?_};have G8:=mD _ _ nt G9;refine{_,rfl,fe,6,rfl,nG,by decide,by decide,λi5 H5 j0 j1 vE sX=>{rfl,_,rfl,?_}};have F6:=abt.trans sX;have C5:=sX _ _ nt G8;refine fo (-62) (-62)
   ·refine{_,rfl,_,rfl,_,rfl,_,_,rfl,.inl {_,bp.of (F6 _ _ sO ph),rfl},fe,_,rfl,vE,by lia,by lia,λi6 H6 k0 k1 ug mC=>?_};obtain⟨y,hy,ev6⟩:=rM (zs:=ws) k0 ∅;have ht6:=mC _ _ nt C5;refine{_,_,_,_,rfl,rfl,bp.of ((F6.trans mC) _ _ sO ph),ev6,?_};refine{_,rfl,.inl {rfl,_,bp.of ht6},_,rfl,_,_,_,rfl,rfl,ht6,by rw[ak];exact bC ∅,?_};refine{_,_,ts++[y],rfl,ug.lst ht6 nt _,(F6.trans mC).own Q9 _,by rw[aw,aJ];rfl,by rw[aO,bK];rfl,λz' h=>?_};rcases bg.mp h with q|q
    ·exact qJ z' q
    ·rw[ay.mp q];exact .inr hy
   ·refine{_,rfl,.inl {rfl,_,bp.of C5},_,rfl,_,_,_,rfl,rfl,C5,by rw[ak];exact bC ∅,?_};refine{_,_,ts++[z],rfl,vE.lst C5 nt _,F6.own Q9 _,by rw[aw,aJ];rfl,by rw[aO,bK];rfl,λz' h=>?_};rcases bg.mp h with q|q
    ·exact qJ z' q
    ·rw[ay.mp q];exact .inl hz
  ·rintro Z H3 ⟨y7,y8,ts,rfl,jP,iy,G9,bK,qJ⟩;obtain⟨z,hz,ev⟩:=rM (zs:=gC) a0 ∅;refine{_,rfl,_,rfl,_,_,_,_,rfl,rfl,bp.of (iy _ _ qD vA),ev,?_};refine{_,rfl,t,_,rfl,.inl {bp.of G9,λtt wx=>?_}};refine{(-36),λap M9=>?_};have WJ:=(jP.new wx (.tup (ts.map V.str))).new M9 (.tup [.str z,.ref tt]);have nta:tt≠ap:=λe=>by rw[<-e,aw]at M9;cases M9
   exact k ap (z,ts) _ WJ ((iy.new wx _).new M9 _) {ap,tt,rfl,aw,by rw[aE nta,aw]} hz (by show 1<=ts.length;lia) (by show ts.length<=4;lia) qJ
 ·--at,long
  refine{_,rfl,_,rfl,_,_,rfl,.inl {_,bp.of vA,rfl},fe,_,rfl,hF,by lia,by lia,λi1 H1 a0 a1 oM rB=>?_};refine{(by show 3<=sizeLine;decide),λp hp=>?_};obtain⟨lg,ev,l0,l1⟩:=VU a0;refine{_,rfl,_,_,rfl,rfl,(by show(0:Int)<3;decide),_,_,_,_,rfl,rfl,bp.of aw,ev,?_};have jV:=oM.new hp (-69);have jW:=rB.new hp (-69);refine{_,rfl,fe,8,rfl,jV,by decide,by decide,λi3 H3 c0 c1 jP iy=>{rfl,_,rfl,?_}};refine fo (-62) (-62)
  ·refine{_,rfl,fe,4,rfl,jP,by decide,by decide,λi4 H4 d0 d1 nG mD=>{_,_,rfl,rfl,?_}};exact tl _ _ {i1,_,none,none,none,rfl,a0,by lia,by lia,by lia,nG,(jW.trans iy).trans mD}
  ·exact tl _ _ {i1,lg,none,none,none,rfl,a0,by lia,l0,l1,jP,jW.trans iy}
inductive L8(K:Frag)(vs:Aao)(H:Hp)(Q:VK)(_x3:XK):Prop
 |mk (f al:Addr) (jr:Aao) (ats:Aaa) (_:vs=[.ref f,.ref al]) (_:dY K f H) (_:al≠f) (_:H al=some (.lst jr)) (_:fh H jr ats) (_:1<=ats.length) (_:ats.length<=100) (_:(∀a∈ats,1<=a.2.length/\a.2.length<=4)) (_:∀(r:Addr)(hz:Aah)(H':Hp),dY K f H'->Ext f H H'->H' r=some (.tup (hz.map V.str))->hz.length<=4->(∀z∈hz,z∈cQ ats)->Q (.ref r) H')
def wg:cD ["_law_feed_here","_law_atoms","_law_terms","_law_name","_law_some"] ["_law_feed_here","_law_atoms"] (defScope Dy):=jD (-3)
theorem UB:∀{ats:Aaa},1<=ats.length->(∀a∈ats,1<=a.2.length/\a.2.length<=4)->1<=(cQ ats).length
 |[],h,_=>absurd h (-8)
 |a::r,_,g=>by have:=(g a aA).1;show 1<=(a.2++cQ r).length;rw[aO];lia
def TC{f:Addr}{fd:FuncData}(F:fu K "_law_head" "_law_head" Dy f fd)(T:Txt K mg)(D:Dr P w K mg base):dk P w K mg base fU 2 f fd ["_law_feed_here","_law_atoms"] (L8 K):=by
 refine F.ok wg (λ_ _ _ _ h=>by cases h;subst_vars;rfl) (-4);obtain⟨fe,al,jr,ats,rfl,hF,nal,hal,nE,pj,jF,hg,k⟩:=h;refine{_,(aN (jT (i:=2) wg.nd rfl (Or.inr rfl) (fb gN)) (aN (fR bS rfl (fX (pv 1)) (iY rfl (cA (iu 3 wg) (cA (iu 4 wg) g9))) (ba (lC (ox dc nR nP Og (pv 2) (cz (pv 4)))))) (ba (cN (dF fE rfl T.kE (-3) (cz (hE rfl (cU (fs:=["_law_terms","_law_feed_here"]) (fr:=[2,0])) (jO rfl T.mJ (cz (-23))) (λ_ _ _ _=>(dq (vv (K:=K)) (pv 1) (cl D.fB hr (dR (pv 2) (cW (Br (K:=K)) rfl T.kW dj (cz (pv 1))))) (-15)))))))))),?_}
 have la:jr.length=ats.length:=bw nE;refine{(-18),λt ht=>?_};have nt:=hF.qd ht;have nta:al≠t:=bf hal ht;have fl:∀n,(cQ (ats.take n)).length<=4*ats.length:=λn=>by
  have h1:=uP (ats.take n) λa ha=>(hg a (gx ha)).2;have h2:(ats.take n).length<=ats.length:=by rw[aT];lia
  lia
 refine{_,rfl,al,rfl,{jr,bp.of (by rw[aE nta];exact hal)},pR (K:=K) (a:=al) (xs:=jr)
  (λi Z H2=>∃(x3 x4:Aap),Z=[some (.ref fe),some (.ref al),some (.ref t),x3,x4]/\dY K fe H2/\Ext fe H H2/\H2 t=some (.lst ((cQ (ats.take i)).map V.str))) {none,none,rfl,hF.new ht _,(Ext.refl fe H).new ht _,aw} (λi Z H2 _ hq=>by(obtain⟨_,_,_,_,ex,_⟩:=hq;exact bp.of (ex _ _ nal hal))) ?_ ?_}
 ·rintro i x Z H2 hx ⟨x3,x4,rfl,jV,jW,zP⟩;obtain⟨a,vz,p,tt,rfl,hp,wx⟩:=Paired.at nE hx;have g:=hg a (aH vz);have hi:i<ats.length:=(ax.mp vz).1;have tu:=hF.ng jW;have lf:=fl i;refine{p,_,rfl,bF.of (tu _ _ hp),rfl,_,_,rfl,_,_,rfl,rfl,?_};refine{_,rfl,.inl {rfl,_,bp.of zP},_,rfl,_,_,_,_,rfl,rfl,zP,bF.of (tu _ _ wx),?_,?_}
  ·rw[ak,ak];exact bu (bC ∅)
  ·refine{_,_,rfl,jV.lst zP nt _,jW.own ht _,?_};rw[aw,yZ vz,aJ]
 ·rintro Z H2 ⟨x3,x4,rfl,jV,jW,zP⟩;rw[la,aV]at zP;have lf:=fl ats.length;rw[aV]at lf;have lp:=UB pj hg;refine{_,rfl,fe,5,rfl,jV,by decide,by decide,λn H3 n0 n1 jP iy=>?_};have G9:=iy _ _ nt zP;refine{n,rfl,by lia,by lia,λj m ys H4=>j<=n.toNat/\m=n.toNat -j/\dY K fe H4/\Ext fe H3 H4/\∃hz:Aah,ys=hz.map V.str/\hz.length=j/\∀z∈hz,z∈cQ ats,{_,aP _,rfl,jP,Ext.refl _ _,[],rfl,rfl,λz h=>by cases h},?_};rintro j m ys H4 ⟨hj,rfl,nG,mD,hz,rfl,hlz,C1⟩;have ly:(hz.map V.str).length=j:=by rw[ak,hlz]
  have G8:=mD _ _ nt G9;have lt4:((cQ ats).map V.str).length=(cQ ats).length:=ak _;by_cases bK:j<n.toNat
  ·refine .inr {bK,by rw[ly];exact bC ∅,?_};rintro v H5 ⟨rfl,rfl⟩;refine gq ?_;refine{_,rfl,_,rfl,_,rfl,_,_,rfl,.inl {_,bp.of G8,rfl},fe,_,rfl,nG,by lia,by lia,λi6 H6 k0 k1 ug mC=>?_};obtain⟨z,hzm,ev⟩:=rM (zs:=cQ ats) k0 ∅;refine{_,_,_,_,rfl,rfl,bp.of (mC _ _ nt G8),ev,?_};refine{n.toNat -(j+1),by lia,bK,rfl,ug,mD.trans mC,hz++[z],by rw[aJ];rfl,by rw[aO,hlz];rfl,λz' h=>?_};rcases bg.mp h with q|q
   ·exact C1 z' q
   ·rw[ay.mp q];exact hzm
  ·refine .inl {by show n.toNat<=j;lia,by rw[ly];exact bu (bC ∅),λl hl=>?_};refine{l,_,rfl,.inl {bp.of aw,λtp C3=>?_}};exact k tp hz _ ((nG.new hl _).new C3 _) ((((jW.trans iy).trans mD).new hl _).new C3 _) aw ∅ C1
def GoodW(gC:Aah)(ats:Aaa):Prop:=∀a∈ats,a.1∈gC/\1<=a.2.length/\a.2.length<=4/\∀z∈a.2,z∈rF\/z∈cJ
inductive CF(K:Frag)(vs:Aao)(H:Hp)(Q:VK)(_x3:XK):Prop
 |mk (f nl:Addr) (most:Int) (gC:Aah) (_:vs=[.ref f,.ref nl,.int most]) (_:dY K f H) (_:nl≠f) (_:(H nl=some (.lst (gC.map V.str))/\1<=gC.length/\gC.length<=100)) (_:1<=most) (_:most<=20) (_:∀(r:Addr)(hz:Aah)(ats:Aaa)(H':Hp),dY K f H'->Ext f H H'->Di H' (.ref r) hz ats->1<=ats.length->(ats.length:Int)<=2*most->GoodW gC ats->hz.length<=4->(∀z∈hz,z∈cQ ats)->Q (.ref r) H')
structure Dr2(P:Program)(w:World)(K:Frag)(mg:Aad)(base:Heap):Prop extends Dr P w K mg base where
 uQ:dP P w K mg base 2 "_law_words" ["_law_feed_here","_law_many"] (BX K)
 aaE:dP P w K mg base 2 "_law_atom" ["_law_feed_here","_law_names","_law_unknowns_here","_law_values"] (Ma K)
 aaD:dP P w K mg base 2 "_law_head" ["_law_feed_here","_law_atoms"] (L8 K)
def kD:cD ["_law_feed_here","_law_names","_law_most","_law_unknowns_here","_law_values","_law_many","_law_atoms"] ["_law_feed_here","_law_names","_law_most"] (defScope vd):=jD (-3)
def Sn:(cJ.all λz=>decide (z.length<=8))=true:=by decide+kernel
def acf:("?":Str).length=1:=by decide+kernel
def JB{f:Addr}{fd:FuncData}(F:fu K "_law_question" "_law_question" vd f fd)(T:Txt K mg)(D:Dr2 P w K mg base):dk P w K mg base fU 3 f fd ["_law_feed_here","_law_names","_law_most"] (CF K):=by
 refine F.ok kD (λ_ _ _ _ h=>by cases h;subst_vars;rfl) (-4);obtain⟨fe,nl,most,gC,rfl,hF,qD,⟨vA,A9,ue⟩,Wn,Rh,k⟩:=h;have big:10000<=sizeLine:=by rw[b8];decide
 refine cut 4 (λZ H2=>∃(ul vl:Addr)(us ws:Aah)(many:Int),Z=[some (.ref fe),some (.ref nl),some (.int most),some (.ref ul),some (.ref vl),some (.int many),none]/\(ul≠fe/\vl≠fe)/\(H2 ul=some (.lst (us.map V.str))/\1<=us.length/\us.length<=100)/\(H2 vl=some (.lst (ws.map V.str))/\1<=ws.length/\ws.length<=100)/\(∀z∈us,z∈rF)/\(∀z∈ws,z∈cJ)/\1<=many/\many<=2*most/\dY K fe H2/\Ext fe H H2)
  {_,(aN (N0 (j:=6) kD.nd rfl rfl rfl (cU (fs:=["_law_feed_here","_law_names","_law_unknowns_here","_law_values"]) (fr:=[0,1,3,4])) (jO rfl T.mJ (cz (pv 5))) (λ_ _ _ _=>(cl D.aaE hr (iF (pv 1) (sN (pv 2) (pv 3) (pv 4)))))) (ba (cN (iZ (dR (cl D.aaD hr (dR (pv 0) (pv 6))) (dF fE rfl T.kE (-3) (cz (pv 6)))))))),?_} (λt2 ht=>{_,(aN (jT (i:=3) kD.nd rfl (Or.inr rfl) (hE rfl (cU (fs:=[]) (fr:=[])) (fX (cl D.uQ hr (dR (pv 0) (dM jE bj (-23))))) (λ_ _ _ _=>(dM Oa f7 (pv 0))))) (aN (jT (i:=4) kD.nd rfl (Or.inr rfl) (cl D.uQ hr (dR (pv 0) bj))) (aN (fK 5 kD (dM jE bj (cl D.fB hr (dR (pv 0) (pv 2))))) (aN (gJ (dh uD (-23) bj (eX _)) (ba (fK 5 kD (dM jE (pv 2) (cl D.fB hr (dR (pv 0) (dM jE (pv 2) bj)))))) eG) ht)))),λtl=>?_})
 ·rintro Z H2 ⟨ul,vl,us,ws,many,rfl,⟨nul,sO⟩,⟨MR,Kd,zO⟩,⟨ph,hv1,EZ⟩,Wa,hww,m1,m2,jV,jW⟩;refine{_,rfl,many,rfl,by lia,by lia,λj m ys H4=>j<=many.toNat/\m=many.toNat -j/\dY K fe H4/\Ext fe H2 H4/\∃ats:Aaa,fh H4 ys ats/\ats.length=j/\GoodW gC ats,{_,aP _,rfl,jV,Ext.refl _ _,[],.nil,rfl,λa h=>by cases h},?_};rintro j m ys H4 ⟨hj,rfl,nG,mD,ats,nE,hla,hg⟩;have ly:ys.length=j:=by rw[<-hla];exact bw nE
  by_cases bK:j<many.toNat
  ·refine .inr {bK,by rw[ly];exact bC ∅,?_};rintro v H5 ⟨rfl,rfl⟩;refine gq ?_;refine{_,rfl,_,rfl,_,rfl,_,rfl,fe,nl,ul,vl,gC,us,ws,rfl,nG,⟨qD,nul,sO⟩,{mD _ _ qD (jW _ _ qD vA),A9,ue},{mD _ _ nul MR,Kd,zO},{mD _ _ sO ph,hv1,EZ},λr a H6 ug mC hA Hm pj wD qJ=>?_};refine{many.toNat -(j+1),by lia,bK,rfl,ug,mD.trans mC,ats++[a],Paired.Ew (fh.keep (nG.ng mC) nE) hA,by rw[aO,hla];rfl,λb hb=>?_};rcases bg.mp hb with q|q
   ·exact hg b q
   ·rw[ay.mp q];refine{Hm,pj,wD,λz hz=>?_};rcases qJ z hz with q|q
    ·exact .inl (Wa z q)
    ·exact .inr (hww z q)
  ·refine .inl {by show many.toNat<=j;lia,by rw[ly];exact bu (bC ∅),λl hl=>?_};have AV:=nG.qd hl;have hFl:=nG.new hl (-39);have exl:=mD.new hl (-39);have OM:=fh.keep ((eE.refl H4).new hl (-39)) nE;have qK:upd H4 l (-39) l=some (-39):=aw;generalize upd H4 l (-39)=H5 at hFl exl OM qK⊢;refine{_,rfl,_,rfl,fe,l,ys,ats,rfl,hFl,AV,qK,OM,by lia,by lia,λa ha=>{(hg a ha).2.1,(hg a ha).2.2.1},λr hz H6 ug mC Kg V7 C1=>?_};have Zo:=hFl.ng mC;refine{_,rfl,l,_,rfl,.inl {bp.of (mC _ _ AV qK),λta vz=>?_}};refine{(-36),λq hq=>?_};have tu7:=(((eE.refl H6).new vz (.tup ys)).new hq (.tup [.ref r,.ref ta]));have nq:ta≠q:=λe=>by rw[<-e,aw]at hq;cases hq
   exact k q hz ats _ ((ug.new vz _).new hq _) ((((jW.trans exl).trans mC).new vz _).new hq _) {q,r,ta,ys,rfl,aw,tu7 _ _ Kg,by rw[aE nq,aw],fh.keep (Zo.trans tu7) OM} ∅ ∅ hg V7 C1
 ·--unknowns
  refine{_,rfl,_,rfl,fe,5,rfl,hF,by decide,by decide,λi1 H1 a0 a1 oM rB=>{_,_,rfl,rfl,fe,_,rfl,oM,by lia,by lia,λwl t6 H2 jV jW nwl ad2 G6 hlw ndw gL=>?_}};refine{wl,rfl,{_,bp.of G6},jg (K:=K) (a:=wl) (xs:=t6.map V.str) (λi ys H3=>H3=H2/\i<=t6.length/\ys=((t6.take i).map pH).map V.str) (-28) {rfl,aP _,rfl} ?_ ?_ ?_}
  ·rintro i ys H3 hi ⟨rfl,_,rfl⟩;refine{bp.of G6,?_};rw[ak,ak,aT];lia
  ·rintro i x ys H3 N hc ⟨rfl,hi,rfl⟩ hN;have bK:i<(t6.map V.str).length:=(ax.mp hc).1;rw[ak]at bK;rw[aK,au bK]at hc;obtain rfl:V.str t6[i]=x:=bN hc;have lw:=bo (bZ.mp Sn t6[i] (gL _ (gh bK)));refine gq ?_;refine{_,rfl,_,_,rfl,rfl,by rw[acf];lia,hN _ _ {rfl,bK,?_}};rw[bh,au bK,aJ,aJ];rfl
  ·rintro ys H3 ⟨rfl,_,rfl⟩ l hl;rw[ak,aV];have AV:=jV.qd hl;have jP:=jV.new hl (.lst ((t6.map pH).map V.str));have qK:upd H3 l (.lst ((t6.map pH).map V.str)) l=some (.lst ((t6.map pH).map V.str)):=aw;have iy:=(rB.trans jW).new hl (.lst ((t6.map pH).map V.str));generalize upd H3 l (.lst ((t6.map pH).map V.str))=H4 at jP qK iy⊢;refine{_,rfl,fe,2,rfl,jP,by decide,by decide,λvl zF H5 vE sX sO aeI ph Ri ndv hinv=>?_};refine{_,rfl,_,rfl,fe,most,rfl,vE,by lia,by lia,λi6 H6 b0 b1 ug mC=>{_,_,rfl,rfl,?_}};have Wa:∀z∈t6.map pH,z∈rF:=λz hz=>by obtain⟨y,hy,rfl⟩:=aR.mp hz;exact cy (gL y hy)
   have lus:(t6.map pH).length=t6.length:=ak _;refine{_,rfl,fe,8,rfl,ug,by decide,by decide,λi7 H7 c0 c1 Bf Fj=>{rfl,_,rfl,?_}};have OW:=mC.trans Fj;refine fo (-62) (-62)
   ·refine{_,rfl,_,rfl,_,rfl,_,_,rfl,rfl,fe,_,rfl,Bf,by lia,by lia,λi8 H8 d0 d1 Fd Bj=>{_,_,rfl,rfl,?_}};have UD:=OW.trans Bj;exact tl _ _ {l,vl,t6.map pH,zF,_,rfl,⟨AV,sO⟩,{UD _ _ AV (sX _ _ AV qK),by lia,by lia},{UD _ _ sO ph,by lia,by lia},Wa,hinv,by lia,by lia,Fd,(iy.trans sX).trans UD}
   ·exact tl _ _ {l,vl,t6.map pH,zF,_,rfl,⟨AV,sO⟩,{OW _ _ AV (sX _ _ AV qK),by lia,by lia},{OW _ _ sO ph,by lia,by lia},Wa,hinv,by lia,by lia,Bf,(iy.trans sX).trans OW}
def Jz(c d:Nat):decide ((⟨#[c]⟩:Str)=⟨#[d]⟩)=(c==d):=by
 by_cases h:c=d
 ·subst h;simp
 ·have:¬((⟨#[c]⟩:Str)=⟨#[d]⟩):=λe=>h (by injection e with e;simpa using e);rw[bI this];exact(dB.mpr h).symm
def NU:("?":Str)=⟨#[63]⟩:=by decide+kernel
def Dl{z:Str}{c:Nat}(h:z.cps.toList[0]?=some c):Txt.startswith z "?"=decide ((⟨#[c]⟩:Str)="?"):=by rw[NU,Jz];rw[fV,qR];unfold Txt.startswith;rw[bB,jf,Co,h];exact{λe=>bN e,λe=>by rw[e]}
def Lc{z:Str}(h:z.cps.toList[0]?=none):Txt.startswith z "?"=false:=by rw[NU];refine fM.mpr λe=>?_;unfold Txt.startswith at e;rw[bB,jf,Co,h]at e;cases e
def UC{z:Str}(h:z≠""):∃c,z.cps.toList[0]?=some c:=by
 cases e:z.cps.toList with
 |cons c r=>exact⟨c,rfl⟩
 |nil=>
  exact absurd (PyProof.Rows.ext_toList (a:=z) (b:="") (e.trans rfl)) h
def xb{α:Type}{g:α->Bool}{l:List α}{i:Nat}{x:α}(h:l[i]?=some x):(l.take (i+1)).filter g=(l.take i).filter g++(if g x=true then[x]else[]):=by rw[bh,h,ff];show _++[x].filter g=_;rw[gj,List.filter_nil]
def isEmpty_map{α β:Type}(g:α->β)(l:List α):(l.map g).isEmpty=l.isEmpty:=by cases l<;>rfl
def AU(h:q none H):LY Z H q:=h
def PY:sgn 63=false:=by decide+kernel
def Xm{z:Str}(h:isVal z=true):isUnk z=false:=by
 unfold isVal at h;rw[bB,bB]at h;have h1:=bo h.1;unfold isUnk;cases e:z.cps.toList with
 |nil=>
  have:z.length=0:=by show z.cps.size=0;rw[<-aS,e];rfl
  lia
 |cons c r=>
  have e0:z.cps.toList[0]?=some c:=by rw[e];rfl
  have hc:sgn c=true:=bZ.mp h.2.2 _ (cy (by rw[e];exact aA));have nc:c≠63:=λz=>by rw[z,PY]at hc;cases hc
  rw[Dl e0,NU,Jz,dB.mpr nc,lL]
def B6(z:Str)(l:Aah):G5 (.str z) (l.map V.str)=decide (z∈l):=by
 unfold G5;rw[List.any_map,fV,j7];constructor
 ·rintro⟨y,hy,e⟩;have e':(y==z)=true:=e;rw[iH e']at hy;exact aZ hy
 ·intro h;exact{z,bo h,by show(z==z)=true;simp}
def RJ(l:Aah):(l.map V.str).all qN=true:=by rw[BL];exact bZ.mpr λ_ _=>rfl
def qg(z:Str):Bool:=isVal z||isUnk z
def tR(acc:Aah)(t:Str):Aah:=if t∈acc then acc else acc++[t]
def xc(g:Aah):Aah:=g.foldl tR []
def KD(g:Aah)(t:Str):xc (g++[t])=tR (xc g) t:=by unfold xc;rw[oZ];rfl
theorem JS:∀(g acc:Aah)(z:Str),z∈g.foldl tR acc↔z∈acc\/z∈g
 |[],acc,z=>by simp
 |t::r,acc,z=>by
  rw[fT,JS r (tR acc t) z];unfold tR;by_cases d:t∈acc
  ·rw[aC d];constructor
   ·rintro(h|h)
    ·exact .inl h
    ·exact .inr (aB _ h)
   ·rintro(h|h)
    ·exact .inl h
    ·rcases aG.mp h with rfl|h
     ·exact .inl d
     ·exact .inr h
  ·rw[az d];constructor
   ·rintro(h|h)
    ·rcases bg.mp h with h|h
     ·exact .inl h
     ·rw[ay.mp h];exact .inr aA
    ·exact .inr (aB _ h)
   ·rintro(h|h)
    ·exact .inl (gz _ h)
    ·rcases aG.mp h with rfl|h
     ·exact .inl (cc _ (ay.mpr rfl))
     ·exact .inr h
def FZ(g:Aah)(z:Str):z∈xc g↔z∈g:=by unfold xc;rw[JS];simp
theorem Nh:∀(g acc:Aah),(g.foldl tR acc).length<=acc.length+g.length
 |[],acc=>by simp
 |t::r,acc=>by
  have h1:=Nh r (tR acc t);have h2:(tR acc t).length<=acc.length+1:=by
   unfold tR;split
   ·lia
   ·rw[aO];exact ar _
  rw[fT,bx];lia
def Yo(g:Aah):(xc g).length<=g.length:=by have:=Nh g [];simpa[xc]using this
theorem Gz:∀(fl acc:Aah),fl.foldl step acc=(fl.filter isUnk).foldl tR acc
 |[],acc=>rfl
 |t::r,acc=>by
  rw[fT,gj,Gz r];unfold step;by_cases c:isUnk t=true
  ·rw[aC c,aC c,fT];rfl
  ·rw[az c,az c]
def LR(fl:Aah):fN fl=xc (fl.filter isUnk):=Gz fl []
def Zr{z:Str}(h:qg z=true):Txt.startswith z "?"=isUnk z:=by
 have h':(isVal z||isUnk z)=true:=h;cases e:isVal z with
 |true=>
  rw[Xm e];cases e1:z.cps.toList with
  |nil=>exact Lc (by rw[e1];rfl)
  |cons c r=>
   have e0:z.cps.toList[0]?=some c:=by rw[e1];rfl
   unfold isVal at e;rw[bB,bB]at e;have hc:sgn c=true:=bZ.mp e.2.2 _ (cy (by rw[e1];exact aA));have nc:c≠63:=λz=>by rw[z,PY]at hc;cases hc
   rw[Dl e0,NU,Jz,dB.mpr nc]
 |false=>
  rw[e,Bool.false_or]at h';rw[h'];unfold isUnk at h';rw[bB]at h';exact h'.1
def Io{z:Str}(h:qg z=true):∃c,z.cps.toList[0]?=some c:=by
 refine UC λe=>?_;rw[e]at h;have:qg ""=false:=by decide+kernel
 rw[this]at h;cases h
def Ip{z:Str}(h:qg z=true){c:Nat}(hc:z.cps.toList[0]?=some c):decide (V.str ⟨#[c]⟩=V.str "?")=isUnk z:=by rw[<-Zr h,Dl hc,fV];simp
def KJ(xs:Aao)(j:Nat):kA xs none (some (j:Int))=xs.take j:=by
 unfold kA;rw[HT.IM,HT.Md,List.drop_zero,BG];by_cases h:j<=xs.length
 ·rw[gM h]
 ·rw[Nat.min_eq_right ∅,aV,dU ∅]
def KL(xs:Aao)(j:Nat):kA xs (some (j:Int)) none=xs.drop j:=by
 unfold kA;rw[HT.IM,HT.Md];by_cases h:j<=xs.length
 ·rw[gM h,dU (by rw[g6];exact ar _)]
 ·rw[Nat.min_eq_right ∅,vO,yt,xp ∅]
def pq(z:Str):Prop:=qg z=true/\z.length<=100/\PyData.strOk z=true
def yr(z:Str):Prop:=isVal z=true/\z.length<=100/\PyData.strOk z=true
def Sk:(cJ.all λz=>isVal z&&decide (z.length<=100)&&PyData.strOk z)=true:=by decide+kernel
def LQ:(rF.all λz=>qg z&&isUnk z&&decide (z.length<=100)&&PyData.strOk z)=true:=by decide+kernel
def Em{z:Str}(h:z∈cJ):yr z:=by have:=bZ.mp Sk z h;rw[bB,bB]at this;exact{this.1.1,bo this.1.2,this.2}
def aay{z:Str}(h:yr z):pq z:={by unfold qg;rw[h.1];rfl,h.2}
def Zh{z:Str}(h:z∈cJ):pq z:=aay (Em h)
def NA{z:Str}(h:z∈rF):pq z:=by have:=bZ.mp LQ z h;rw[bB,bB,bB]at this;exact{this.1.1.1,bo this.1.2,this.2}
def abR{z:Str}(h:z∈rF):isUnk z=true:=by have:=bZ.mp LQ z h;rw[bB,bB,bB]at this;exact this.1.1.2
def zv(ats:Aaa):Prop:=∀a∈ats,yr a.1/\1<=a.2.length/\a.2.length<=4/\∀z∈a.2,pq z
structure QW(H:Hp)(v:V)(hz:Aah)(ats:Aaa):Prop where
 at':Di H v hz ats
 l1:1<=ats.length
 l8:ats.length<=200
 good:zv ats
 h4:hz.length<=4
 hh:∀z∈hz,pq z
def QW.keep{H H':Hp}{v:V}{hz:Aah}{ats:Aaa}(t:eE H H')(x:QW H v hz ats):QW H' v hz ats:={x.at'.keep t,x.l1,x.l8,x.good,x.h4,x.hh}
def zv.flat{ats:Aaa}(g:zv ats){z:Str}(h:z∈cQ ats):pq z:=by obtain⟨a,ha,hz⟩:=qj.mp h;exact(g a ha).2.2.2 z hz
def zv.len{ats:Aaa}(g:zv ats)(n:Nat):(cQ (ats.take n)).length<=4*ats.length:=by
 have h1:=uP (ats.take n) λa ha=>(g a (gx ha)).2.2.1;have h2:(ats.take n).length<=ats.length:=by rw[aT];lia
 lia
def js{zs:Aah}{i:Nat}(h:(zs.map V.str)[i]?=some y):∃z,zs[i]?=some z/\y=V.str z:=by
 rw[aK]at h;cases e:zs[i]? with
 |none=>rw[e]at h;cases h
 |some z=>rw[e]at h;exact{z,rfl,(bN h).symm}
inductive L6(vs:Aao)(H:Hp)(Q:VK)(_x3:XK):Prop
 |mk (v:V) (hz:Aah) (ats:Aaa) (_:vs=[v]) (_:QW H v hz ats) (_:∀(r:Addr)(H':Hp),bq H H'->H r=none->H' r=some (.lst ((fN (cQ ats)).map V.str))->Q (.ref r) H')
def pJ:cD ["_law_question_here","_law_found","_law_name","_law_terms"] ["_law_question_here"] (defScope vc):=jD (-3)
def JA{f:Addr}{fd:FuncData}(F:fu K "_law_unknowns" "_law_unknowns" vc f fd)(T:Txt K mg):dk P w K mg base fU 1 f fd ["_law_question_here"] L6:=by
 refine F.ok pJ (λ_ _ _ _ h=>by cases h;subst_vars;rfl) (-4);obtain⟨v,hz0,ats,rfl,⟨⟨q,qh,aa,jr,rfl,hq,Wt,sW,nE⟩,l1,l8,good,h4,hh⟩,k⟩:=h;have la:jr.length=ats.length:=bw nE;refine{_,(aN (jT (i:=1) pJ.nd rfl (Or.inr rfl) (fb gN)) (aN (fR bS rfl (sL (dq lD (pv 0) bj (-15))) (iY rfl (cA (iu 2 pJ) (cA (iu 3 pJ) g9))) (ba (lC (ox dc nR nP GZ (pv 1) (cz (qb rfl (cU (fs:=[]) (fr:=[])) (sL (pv 3)) (λ_ _ _ _=>(dh uD (dq QX (pv 0) bj (-15)) f7 (eX _))) (λ_ _ _ _=>(pv 0)))))))) (ba (cN (qb rfl (cU (fs:=["_law_found"]) (fr:=[1])) (jO rfl T.mJ (cz (cW iS rfl T.kW dj (cz (pv 1))))) (λ_ _ _ _=>(dh (tM (K:=K)) (dq (vv (K:=K)) (pv 1) (pv 0) (-15)) (rN (SV (K:=K)) (pv 1) uO (uN (pv 0))) (-59))) (λ_ _ _ _=>(dq (vv (K:=K)) (pv 1) (pv 0) (-15)))))))),?_}
 have lf:∀i,((cQ (ats.take i)).filter isUnk).length<=800:=λi=>by have h1:=cj isUnk (cQ (ats.take i));have h2:=good.len i;lia
 refine{(-18),λd gE=>?_};refine{_,rfl,_,_,_,_,rfl,rfl,bF.of (aM gE _ _ _ hq),rfl,aa,rfl,{jr,bF.of (aM gE _ _ _ sW)},B8 (K:=K) (a:=aa) (xs:=jr)
  (λi Z H2=>∃(x2 x3:Aap),Z=[some (.ref q),some (.ref d),x2,x3]/\bq H H2/\H2 d=some (.lst (((cQ (ats.take i)).filter isUnk).map V.str))) {none,none,rfl,aM gE _,aw} (λi Z H2 _ hq=>by(obtain⟨_,_,_,sm,_⟩:=hq;exact bF.of (sm _ _ sW))) ?_ ?_}
 ·rintro i x Z H2 hx ⟨x2,x3,rfl,sm,hd2⟩;obtain⟨ta,ht,p,t,rfl,hp,wx⟩:=Paired.at nE hx;have g:=good ta (aH ht);have l4':=g.2.2.1;have lfi:=lf i;refine{p,_,rfl,bF.of (sm _ _ hp),rfl,_,_,rfl,_,_,rfl,rfl,?_};refine{_,rfl,.inl {rfl,_,bp.of hd2},_,rfl,t,rfl,{_,bF.of (sm _ _ wx)},zc (K:=K) (a:=t) (xs:=ta.2.map V.str) (λj ys H3=>H3=H2/\j<=ta.2.length/\ys=((ta.2.take j).filter isUnk).map V.str) (-28) {rfl,aP _,rfl} ?_ ?_ ?_}
  ·rintro j ys H3 hj ⟨rfl,_,rfl⟩;refine{bF.of (sm _ _ wx),?_};rw[ak];refine aD (cj _ _) ?_;rw[aT];lia
  ·rintro j y ys H3 N hc ⟨rfl,hj,rfl⟩ hN;obtain⟨z,hz,rfl⟩:=js hc;have Rp:j<ta.2.length:=(ax.mp hz).1;have C1:=(g.2.2.2 z (aH hz));have aeD:=C1.2.1;obtain⟨c,Rx⟩:=Io C1.1;have ei:wH z.cps.toList 0=some c:=kF (j:=0) Rx;refine{_,rfl,_,_,_,rfl,rfl,bu (bC ∅),ei,rfl,_,rfl,?_};rw[Ip C1.1 Rx];refine fo (λc1=>?_) (λc1=>?_)
   ·refine{_,rfl,hN _ _ {rfl,Rp,?_}};rw[xb hz,aC c1,aJ];rfl
   ·refine hN _ _ {rfl,Rp,?_};rw[xb hz,az c1,b6]
  ·rintro ys H3 ⟨rfl,_,rfl⟩ l hl;rw[ak,aV];have nl:d≠l:=bf hd2 hl;refine{_,_,_,_,rfl,rfl,by rw[aE nl];exact hd2,aw,?_,?_}
   ·rw[ak,ak];have:=aD (cj isUnk ta.2) l4';exact bu (bC ∅)
   ·refine{_,_,rfl,λb u e=>?_,?_}
    ·rw[aE (bf e gE)];exact aM hl _ _ _ (sm _ _ e)
    ·rw[aw,yZ ht,ff,aJ]
 ·rintro Z H2 ⟨x2,x3,rfl,sm,hd2⟩;rw[la,aV]at hd2;have MF:=lf ats.length;rw[aV]at MF;rw[LR]at k;generalize (cQ ats).filter isUnk=g at hd2 MF k;have lg:(g.map V.str).length=g.length:=ak _;refine{_,rfl,_,_,rfl,.inl {_,bp.of hd2,rfl},_,rfl,by lia,by lia,λj m' ys H3=>j<=g.length/\m'=g.length -j/\bq H2 H3/\ys=(xc (g.take j)).map V.str,{_,aP _,rfl,bq.refl _,rfl},?_};rintro j m' ys H3 ⟨hj,rfl,mn,rfl⟩;have ly:((xc (g.take j)).map V.str).length<=800:=by rw[ak];refine aD (Yo _) ?_;rw[aT];lia
  by_cases bK:j<g.length
  ·refine .inr {by show j<((g.map V.str).length:Int).toNat;lia,bC ∅,?_};rintro v H4 ⟨rfl,rfl⟩;have Kq:=mn _ _ hd2;obtain⟨z,hz⟩:∃z,g[j]?=some z:={_,au bK};have ev:wH (g.map V.str) (0+(j:Int))=some (.str z):=by rw[vS];exact kF (by rw[aK,hz];rfl)
   refine{_,rfl,_,rfl,_,_,_,_,rfl,rfl,bp.of Kq,ev,?_};refine{_,rfl,AU {_,rfl,_,rfl,_,_,rfl,bp.of Kq,λp hp=>?_}};have ec:kA (g.map V.str) none (some (0+(j:Int)))=(g.take j).map V.str:=by rw[vS,KJ,tW]
   rw[ec];refine{p,_,rfl,.inl (bp.of aw),rfl,RJ _,_,rfl,?_};have Mb:bq H2 (upd H4 p (.lst ((g.take j).map V.str))):=mn.trans (aM hp _);have et:g.take (j+1)=g.take j++[z]:=by rw[bh,hz];rfl
   show if(!G5 (.str z) ((g.take j).map V.str))=true then _ else _;rw[B6];refine fo (λc1=>?_) (λc1=>?_)
   ·have c1:z∉g.take j:=by simpa using c1
    refine{_,rfl,_,rfl,_,_,_,_,rfl,rfl,bp.of (Mb _ _ hd2),ev,?_};refine{_,by lia,bK,rfl,Mb,?_};rw[et,KD];unfold tR;rw[az (λh=>c1 ((FZ _ _).mp h)),aJ];rfl
   ·have c1:z∈g.take j:=by simpa using c1
    refine{_,by lia,bK,rfl,Mb,?_};rw[et,KD];unfold tR;rw[aC ((FZ _ _).mpr c1)]
  ·have ej:j=g.length:=by lia
   refine .inl {by show((g.map V.str).length:Int).toNat<=j;lia,bu (bC ∅),λl hl=>?_};refine k l _ ((sm.trans mn).trans (aM hl _)) ((sm.trans mn).free hl) ?_;rw[aw,ej,aV]
def Yg{l:Aah}{z:Str}:(l++[z]).Nodup↔l.Nodup/\z∉l:=by
 rw[eB];constructor
 ·rintro⟨h1,_,h3⟩;exact{h1,λh=>h3 z h z (ay.mpr rfl) rfl}
 ·rintro⟨h1,h2⟩;refine{h1,by simp,λa ha b hb e=>?_};rw[ay.mp hb]at e;exact h2 (e▸ha)
def Ext.of(s:bq H H'):Ext f H H':=λb o _ h=>s b o h
structure VQ(H:Hp)(v:V)(hs:Aah)(ats:Aaa):Prop where
 q:QW H v hs ats
 l8:ats.length<=4
 nd:hs.Nodup
 l1:1<=hs.length
 hu:∀z∈hs,z∈cQ ats/\isUnk z=true
def VQ.keep{H H':Hp}{v:V}{hs:Aah}{ats:Aaa}(t:eE H H')(x:VQ H v hs ats):VQ H' v hs ats:={x.q.keep t,x.l8,x.nd,x.l1,x.hu}
end
inductive L5(K:Frag)(vs:Aao)(H:Hp)(Q:VK)(_x3:XK):Prop
 |mk (f nl:Addr) (most:Int) (gC:Aah) (_:vs=[.ref f,.ref nl,.int most]) (_:dY K f H) (_:nl≠f) (_:(H nl=some (.lst (gC.map V.str))/\1<=gC.length/\gC.length<=100)) (_:(∀z∈gC,z∈cJ)) (_:1<=most) (_:most<=2) (_:∀(r:Addr)(hs:Aah)(ats:Aaa)(H':Hp),dY K f H'->Ext f H H'->VQ H' (.ref r) hs ats->Q (.ref r) H')
section
variable{P:Program}{w:World}{K:Frag}{mg:Aad}{base:Heap}
def Mj{a:Addr}{H:Hp}{xs:Aao}{lo hi:Option Int}{Q:VK}(ha:H a=some (.tup xs))
  (k:∀(p:Addr)(H':Hp),bq H H'->H' p=some (.tup (kA xs lo hi))->Q (.ref p) H'):Z2 K (-51) lo hi H Q:=by
 refine{a,xs,rfl,bF.of ha,λh=>?_,λh p hp=>?_}
 ·refine k a H (bq.refl H) ?_;unfold kA;rw[h.1,h.2,List.drop_zero,BG,aV];exact ha
 ·exact k p _ (aM hp _) aw
def Ml{a b:Addr}{H:Hp}{xs ys:Aao}{Q:VK}(ha:H a=some (.tup xs))(hb:H b=some (.tup ys))(hl:xs.length+ys.length<=1000)
  (k:∀(p:Addr)(H':Hp),bq H H'->H' p=some (.tup (xs++ys))->Q (.ref p) H'):NT K (-51) (.ref b) H Q:=by
 refine{a,b,xs,ys,rfl,rfl,bF.of ha,bF.of hb,bu (bC hl),λh=>?_,λ_ h=>?_,λ_ _ p hp=>?_}
 ·exact k b H (bq.refl H) (by rw[h,kL];exact hb)
 ·exact k a H (bq.refl H) (by rw[h,b6];exact ha)
 ·exact k p _ (aM hp _) aw
structure Dw(P:Program)(w:World)(K:Frag)(mg:Aad)(base:Heap):Prop where
 fB:dP P w K mg base 1 "_law_draw" ["_law_feed_here","_law_many"] (Es K)
 Ou:dP P w K mg base 3 "_law_question" ["_law_feed_here","_law_names","_law_most"] (CF K)
 Ot:dP P w K mg base 1 "_law_unknowns" ["_law_question_here"] L6
def dQ:cD ["_law_feed_here","_law_names","_law_most","_law_made","_law_some","_law_name","_law_terms","_law_head_here","_law_k","_law_unknown"] ["_law_feed_here","_law_names","_law_most"] (defScope oS):=jD (-3)
def acP:pH "a"="?a":=by decide+kernel
def Tw{f:Addr}{fd:FuncData}(F:fu K "_law_view_question" "_law_view_question" oS f fd)(T:Txt K mg)(D:Dw P w K mg base):dk P w K mg base fU 4 f fd ["_law_feed_here","_law_names","_law_most"] (L5 K):=by
 refine F.ok dQ (λ_ _ _ _ h=>by cases h;subst_vars;rfl) (-4);obtain⟨fe,nl,most,gC,rfl,hF,qD,⟨vA,A9,ue⟩,hnw,Wn,Rh,k⟩:=h;refine cut 3 (λZ H2=>∃(qa h0 aa sl:Addr)(x5 x6:Aap)(jr:Aao)(ats:Aaa)(us:Aah),Z=[some (.ref fe),some (.ref nl),some (.int most),some (.ref qa),some (.ref sl),x5,x6,none,none,none]/\H2 qa=some (.tup [.ref h0,.ref aa])/\H2 aa=some (.tup jr)/\fh H2 jr ats/\(1<=ats.length/\ats.length<=4)/\zv ats/\sl≠fe/\H2 sl=some (.lst (us.map V.str))/\1<=us.length/\us.length<=100/\(∀z∈us,z∈cQ ats/\isUnk z=true/\z.length<=100)/\dY K fe H2/\Ext fe H H2)
  {_,(aN (fK 7 dQ (fb gN)) (aN (fR bS rfl (jO rfl T.mJ (cz (dM jE bj (-23)))) (iu 8 dQ) (aN (fK 9 dQ (dq hJ (pv 4) (cl D.fB hr (dR (pv 0) (cW iS rfl T.kW dj (cz (pv 4))))) (-15))) (ba (gJ (dh AO (pv 9) (pv 7) (-59)) (ba (lC (ox dc gc f9 qe (pv 7) (cz (pv 9))))) eG)))) (ba (cN (iZ (dR (dF fE rfl T.kE (-3) (cz (pv 7))) (dq lD (pv 3) bj (-15)))))))),?_} (λt2 ht=>{_,(aN (fK 3 dQ (cl D.Ou hr (sN (pv 0) (pv 1) (pv 2)))) (aN (fK 4 dQ (cl D.Ot hr (cz (pv 3)))) (aN (gJ (dh (aap hr.Ic) (pv 4) (fb gN) (eX _)) (aN (xG (dq lD (dq lD (pv 3) bj (-15)) bj (-15)) (iY rfl (cA (iu 5 dQ) (cA (iu 6 dQ) g9)))) (aN (fK 3 dQ (iZ (dR (dq lD (pv 3) bj (-15)) (dM FV (iZ (cz (iZ (dR (pv 5) (dM FV (iZ (cz f7)) (rN Mc (pv 6) (uN bj) uO)))))) (rN Mc (dq lD (pv 3) bj (-15)) (uN bj) uO))))) (ba (fK 4 dQ (fb (cz f7)))))) eG) ht))),λtl=>?_})
 ·rintro Z H2 ⟨qa,h0,aa,sl,x5,x6,jr,ats,us,rfl,hqa,sW,hA,⟨l1,l8⟩,hg,VG,He,Kd,zO,huu,jV,jW⟩;have lu:(us.map V.str).length=us.length:=ak _;refine{(-18),λt ht=>?_};have nt:=jV.qd ht;have nts:sl≠t:=bf He ht;refine{_,rfl,fe,4,rfl,jV.new ht _,by decide,by decide,λi3 H3 a0 a1 jP iy=>{_,_,rfl,rfl,?_}};have aeq:Ext fe H2 H3:=((Ext.refl fe H2).new ht _).trans iy;refine{_,rfl,by lia,by lia,wG (lo:=0) (n:=(1+i3).toNat)
   (λj Z H4=>∃(x8 x9:Aap)(hs:Aah),Z=[some (.ref fe),some (.ref nl),some (.int most),some (.ref qa),some (.ref sl),x5,x6,some (.ref t),x8,x9]/\dY K fe H4/\Ext fe H2 H4/\H4 t=some (.lst (hs.map V.str))/\hs.length<=j/\(1<=j->hs≠[])/\hs.Nodup/\∀z∈hs,z∈us)
   {none,none,[],rfl,jP,aeq,iy _ _ nt aw,ar _,λh=>absurd h (-8),.nil,λz h=>by cases h} ?_ ?_}
  ·rintro j Z H4 hj ⟨x8,x9,hs,rfl,nG,mD,G8,hl,ig,Hi,MS⟩;refine{_,rfl,_,rfl,_,rfl,_,_,rfl,.inl {_,bp.of (mD _ _ VG He),rfl},fe,_,rfl,nG,by lia,by lia,λi5 H5 b0 b1 vE sX=>?_};obtain⟨z,hz,ev⟩:=rM (zs:=us) b0 ∅;have UE:=mD.trans sX;have C5:=sX _ _ nt G8;refine{_,_,_,_,rfl,rfl,bp.of (UE _ _ VG He),ev,?_};refine{_,rfl,_,rfl,t,_,rfl,.inl (bp.of C5),rfl,RJ _,_,rfl,?_};show if(!G5 (.str z) (hs.map V.str))=true then _ else _;rw[B6];refine fo (λc1=>?_) (λc1=>?_)
   ·have c1:z∉hs:=by simpa using c1
    refine{_,rfl,.inl {rfl,_,bp.of C5},_,rfl,_,_,_,rfl,rfl,C5,by rw[ak];exact bC ∅,?_};refine{_,_,hs++[z],rfl,vE.lst C5 nt _,UE.own ht _,by rw[aw,aJ];rfl,by rw[aO];show hs.length+1<=j+1;lia,λ_ h=>by simp at h,Yg.mpr ⟨Hi,c1⟩,λy hy=>?_};rcases bg.mp hy with hy|hy
    ·exact MS y hy
    ·rw[ay.mp hy];exact hz
   ·have c1:z∈hs:=by simpa using c1
    exact{_,_,hs,rfl,vE,UE,C5,by lia,λ_ h=>by(rw[h]at c1;cases c1),Hi,MS}
  ·rintro Z H4 ⟨x8,x9,hs,rfl,nG,mD,G8,hl,ig,Hi,MS⟩;have tu4:=jV.ng mD;refine{_,rfl,t,_,rfl,.inl {bp.of G8,λtp C3=>?_}};have tu5:=(eE.refl H4).new C3 (.tup (hs.map V.str));have Zp:=tu4.trans tu5;refine{_,rfl,_,_,_,_,rfl,rfl,bF.of (Zp _ _ hqa),rfl,(-36),λq hq=>?_};have Zo:=(eE.refl _).new hq (.tup [.ref tp,.ref aa]);have tu:=Zp.trans Zo;have nq:tp≠q:=λe=>by rw[<-e,aw]at hq;cases hq
   have hFq:=(nG.new C3 (.tup (hs.map V.str))).new hq (.tup [.ref tp,.ref aa]);have aed:1<=hs.length:=by
    have:=ig ∅;cases hs with
    |nil=>exact absurd rfl this
    |cons _ _=>exact lW (aP _)
   refine k q hs ats _ hFq (((jW.trans mD).new C3 _).new hq _) {{{q,tp,aa,jr,rfl,aw,by rw[aE nq,aw],tu _ _ sW,fh.keep tu hA},l1,by lia,hg,by lia,λz hz=>hg.flat (huu z (MS z hz)).1},l8,Hi,aed,λz hz=>{(huu z (MS z hz)).1,(huu z (MS z hz)).2.1}}
 ·--made
  refine{_,rfl,_,rfl,_,rfl,fe,nl,most,gC,rfl,hF,qD,⟨vA,A9,ue⟩,Wn,by lia,λr hz ats H1 oM rB hQ l1 l2 hgw V7 C1=>?_};obtain⟨q,h0,aa,jr,e,hq,hh0,sW,hA⟩:=hQ;cases e;have l8:ats.length<=4:=by lia
  have hg:zv ats:=λa ha=>by obtain⟨g1,g2,g3,g4⟩:=hgw a ha;exact{Em (hnw _ g1),g2,g3,λz hz=>(g4 z hz).elim NA Zh}
  have hqw:QW H1 (.ref r) hz ats:={⟨_,_,_,_,rfl,hq,hh0,sW,hA⟩,l1,by lia,hg,by lia,λz lN=>hg.flat (C1 z lN)};refine{_,rfl,.ref r,hz,ats,rfl,hqw,λsl H2 wd adk He=>?_};have VG:sl≠fe:=oM.qd adk;have jV:=oM.same wd;have jW:=rB.trans (Ext.of wd);refine{_,rfl,(-18),λl2' OG=>?_};have Uc:upd H2 l2' (.lst []) sl=some (.lst ((fN (cQ ats)).map V.str)):=by rw[aE (bf He OG)];exact He
  refine{_,_,_,rfl,rfl,bp.of Uc,bp.of aw,_,rfl,?_};have jP:=jV.new OG (.lst []);have iy:=jW.new OG (.lst []);have zG:eE H1 (upd H2 l2' (.lst [])):=(eE.of wd).new OG _;generalize upd H2 l2' (.lst [])=H3 at Uc jP iy zG⊢;have lfl:(cQ ats).length<=32:=by have:=uP ats λa ha=>(hg a ha).2.2.1;lia
  refine fo (-62) (-62)
  ·--no unknown
   match ats,jr,hA,l1,l8,hg with
   |a::UZ,_,.cons (a:=av) (l₁:=KY) ⟨ap,tp,ea,M9,C3⟩ hA',l1,l8,hg=>
    subst ea;have ga:=hg a aA;refine{_,rfl,_,_,_,_,rfl,rfl,bF.of (zG _ _ hq),rfl,_,_,_,_,rfl,rfl,bF.of (zG _ _ sW),kF (j:=0) rfl,ap,_,rfl,bF.of (zG _ _ M9),rfl,_,_,rfl,_,_,rfl,rfl,?_};refine{_,rfl,_,_,_,_,rfl,rfl,bF.of (zG _ _ hq),rfl,_,rfl,(by show 1<=sizeLine;decide),λp4 Hg=>?_};have Ex:bq H3 (upd H3 p4 (.tup [.str "?a"])):=aM Hg _;have aba:upd H3 p4 (.tup [.str "?a"]) p4=some (.tup [.str "?a"]):=aw;generalize upd H3 p4 (.tup [.str "?a"])=H4 at Ex aba⊢;have ad3:=Ex _ _ (zG _ _ C3);refine{_,rfl,_,rfl,AU (Mj ad3 λp5 H5 Mb hp5=>?_)};have ec:kA (a.2.map V.str) (some 1) none=(a.2.drop 1).map V.str:=by rw[show(1:Int)=((1:Nat):Int)from rfl,KL,List.map_drop]
    rw[ec]at hp5;have ld:(a.2.drop 1).length<=4:=by rw[g6];have:=ga.2.2.1;lia
    refine Ml (Mb _ _ aba) hp5 (by rw[ak];show 1+(a.2.drop 1).length<=1000;lia) λp6 H6 sm6 hp6=>?_;refine{(-36),λp7 MV=>?_};have ZO:bq H6 (upd H6 p7 (.tup [.str a.1,.ref p6])):=aM MV _;have aa9:upd H6 p7 (.tup [.str a.1,.ref p6]) p7=some (.tup [.str a.1,.ref p6]):=aw;generalize upd H6 p7 (.tup [.str a.1,.ref p6])=H7 at ZO aa9⊢;refine{(by show 1<=sizeLine;decide),λp8 hp8=>?_};have Vr:bq H7 (upd H7 p8 (.tup [.ref p7])):=aM hp8 _;have aa8:upd H7 p8 (.tup [.ref p7]) p8=some (.tup [.ref p7]):=aw;generalize upd H7 p8 (.tup [.ref p7])=H8 at Vr aa8⊢;have SR:bq H3 H8:=Ex.trans (Mb.trans (sm6.trans (ZO.trans Vr)));refine{_,rfl,_,_,_,_,rfl,rfl,bF.of (SR _ _ (zG _ _ hq)),rfl,_,rfl,AU (Mj (SR _ _ (zG _ _ sW)) λp9 H9 Vq hp9=>?_)};have ec2:kA (V.ref ap::KY) (some 1) none=KY:=by rw[show(1:Int)=((1:Nat):Int)from rfl,KL];rfl
    rw[ec2]at hp9;have lav:KY.length=UZ.length:=bw hA';have l8':UZ.length+1<=4:=l8;refine Ml (Vq _ _ aa8) hp9 (by show 1+KY.length<=1000;lia) λQj yx SU ad9=>?_;refine{(-36),λQi ad8=>?_};have IH:bq yx (upd yx Qi (.tup [.ref h0,.ref Qj])):=aM ad8 _;have Wm:upd yx Qi (.tup [.ref h0,.ref Qj]) Qi=some (.tup [.ref h0,.ref Qj]):=aw;generalize upd yx Qi (.tup [.ref h0,.ref Qj])=wL at IH Wm⊢;have ab8:bq H6 wL:=ZO.trans (Vr.trans (Vq.trans (SU.trans IH)));have NN:bq H3 wL:=SR.trans (Vq.trans (SU.trans IH));have abp:=jP.same NN;refine{(by show 1<=sizeLine;decide),λl12 F4=>?_};have n12:=abp.qd F4;have Ig:eE wL (upd wL l12 (.lst [.str "?a"])):=(eE.refl wL).new F4 _;have ua:("?a":Str)∈rF:=by rw[<-acP];exact cy (-3)
    refine tl _ _ {Qi,h0,Qj,l12,_,_,[.ref p7]++KY,(a.1,"?a"::a.2.drop 1)::UZ,["?a"],rfl,Ig _ _ Wm,Ig _ _ (IH _ _ ad9),?_,⟨l1,l8⟩,λb hb=>?_,n12,aw,ar _,by decide,λz hz=>?_,abp.new F4 _,(iy.trans (Ext.of NN)).new F4 _}
    ·refine .cons {p7,p6,rfl,Ig _ _ ((Vr.trans (Vq.trans (SU.trans IH))) _ _ aa9),Ig _ _ (ab8 _ _ hp6)} (fh.keep ((zG.trans (eE.of NN)).trans Ig) hA')
    ·rcases aG.mp hb with rfl|hb
     ·refine{ga.1,by show 1<=(a.2.drop 1).length+1;lia,by show(a.2.drop 1).length+1<=4;rw[g6];have:=ga.2.2.1;have:=ga.2.1;lia,λz hz=>?_};rcases aG.mp hz with rfl|hz
      ·exact NA ua
      ·exact ga.2.2.2 z (zr hz)
     ·exact hg b (aB _ hb)
    ·rw[ay.mp hz];exact{qj.mpr ⟨_,aA,aA⟩,abR ua,(NA ua).2.1}
  ·have c:(fN (cQ ats)).isEmpty=false:=by have c:¬((fN (cQ ats)).map V.str).isEmpty=true:=c;rw[isEmpty_map]at c;exact fM.mpr c
   have lu:=F0 (cQ ats);have lu1:1<=(fN (cQ ats)).length:=by
    cases e:fN (cQ ats)with
    |nil=>rw[e]at c;cases c
    |cons _ _=>exact lW (aP _)
   refine tl _ _ {r,h0,aa,sl,none,none,jr,ats,fN (cQ ats),rfl,zG _ _ hq,zG _ _ sW,fh.keep zG hA,⟨l1,l8⟩,hg,VG,Uc,lu1,by lia,λz hz=>?_,jP,iy};rw[LR,FZ,bV]at hz;exact{hz.1,hz.2,(hg.flat hz.1).2.1}
abbrev View:=Str×Aah×Aaa
def VW(H:Hp)(v:V)(x:View):Prop:=∃(p:Addr)(q:V),v=.ref p/\H p=some (.tup [.str x.1,q])/\VQ H q x.2.1 x.2.2/\yr x.1
def VW.keep{H H':Hp}{v:V}{x:View}(t:eE H H')(h:VW H v x):VW H' v x:=by obtain⟨p,q,e,hp,hq,hn⟩:=h;exact{p,q,e,t _ _ hp,hq.keep t,hn}
abbrev Dh(H:Hp):Aao->List View->Prop:=Paired (VW H)
def Dh.keep{H H':Hp}(a:eE H H'){vs:Aao}{xs:List View}(h:Dh H vs xs):Dh H' vs xs:=Paired.imp' (λ_ _ q=>q.keep a) h
end
inductive IA(K:Frag)(vs:Aao)(H:Hp)(Q:VK)(_x3:XK):Prop
 |mk (f nl:Addr) (many:Int) (gC:Aah) (_:vs=[.ref f,.ref nl,.int many]) (_:dY K f H) (_:nl≠f) (_:(H nl=some (.lst (gC.map V.str))/\1<=gC.length/\gC.length<=100)) (_:(∀z∈gC,z∈cJ)) (_:0<=many) (_:many<=12) (_:∀(r:Addr)(zF:Aao)(xs:List View)(H':Hp),dY K f H'->Ext f H H'->r≠f->H r=none->H' r=some (.lst zF)->Dh H' zF xs->(xs.length:Int)=many->(xs.map (·.1)).Nodup->Q (.ref r) H')
section
variable{P:Program}{w:World}{K:Frag}{mg:Aad}{base:Heap}
structure Dx(P:Program)(w:World)(K:Frag)(mg:Aad)(base:Heap):Prop where
 uQ:dP P w K mg base 2 "_law_words" ["_law_feed_here","_law_many"] (BX K)
 EU:dP P w K mg base 4 "_law_view_question" ["_law_feed_here","_law_names","_law_most"] (L5 K)
def NQ:cD ["_law_feed_here","_law_names","_law_many"] ["_law_feed_here","_law_names","_law_many"] (defScope AA):=jD (-3)
def Qq{f:Addr}{fd:FuncData}(F:fu K "_law_views" "_law_views" AA f fd)(T:Txt K mg)(D:Dx P w K mg base):dk P w K mg base fU 5 f fd ["_law_feed_here","_law_names","_law_many"] (IA K):=by
 refine F.ok NQ (λ_ _ _ _ h=>by cases h;subst_vars;rfl) (-4);obtain⟨fe,nl,many,gC,rfl,hF,qD,⟨vA,A9,ue⟩,hnw,Wn,Rh,k⟩:=h;refine{_,(ba (cN (hE rfl (cU (fs:=["_law_feed_here","_law_names"]) (fr:=[0,1])) (fX (rN FL (cl D.uQ hr (dR (pv 0) bj)) uO (uN (pv 2)))) (λ_ _ _ _=>(iZ (dR (pv 0) (cl D.EU hr (sN (pv 1) (pv 2) bj)))))))),?_};refine{_,rfl,fe,12,rfl,hF,by decide,by decide,λwl ws H1 oM rB nwl ad2 G6 hlw ndw gL=>?_};refine AU {_,rfl,_,rfl,wl,_,rfl,bp.of G6,λl hl=>?_};have e0:many=((many.toNat:Nat):Int):=by lia
 have ec:kA (ws.map V.str) none (some many)=(ws.take many.toNat).map V.str:=by rw[e0,KJ,tW];rfl
 rw[ec];have AV:=oM.qd hl;have jV:=oM.new hl (-75);have jW:=rB.new hl (-75);have qK:upd H1 l (-75) l=some (-75):=aw;generalize upd H1 l (-75)=H2 at jV jW qK⊢;have lw:(ws.take many.toNat).length=many.toNat:=by rw[aT];lia
 have Mz:(ws.take many.toNat).Nodup:=ndw.sublist (oY _ _);have abm:∀z∈ws.take many.toNat,z∈cJ:=λz hz=>gL z (gx hz);generalize ws.take many.toNat=us at lw Mz abm qK;refine{l,rfl,{_,bp.of qK},jg (K:=K) (a:=l) (xs:=us.map V.str) (λi ys H3=>dY K fe H3/\Ext fe H2 H3/\i<=us.length/\ys.length=i/\∃xs:List View,Dh H3 ys xs/\xs.map (·.1)=us.take i) (-28) {jV,Ext.refl _ _,aP _,rfl,[],.nil,rfl} ?_ ?_ ?_}
 ·rintro i ys H3 hi ⟨jP,iy,Ws,hy,_⟩;exact{bp.of (iy _ _ AV qK),by lia}
 ·rintro i x ys H3 N hc ⟨jP,iy,hi,hly,xs,nF,E5⟩ hN;have bK:i<(us.map V.str).length:=(ax.mp hc).1;rw[ak]at bK;rw[aK,au bK]at hc;obtain rfl:V.str us[i]=x:=bN hc;have hw:=Em (abm _ (gh bK));refine gq ?_;refine{_,rfl,_,rfl,_,rfl,fe,nl,2,gC,rfl,jP,qD,{iy _ _ qD (jW _ _ qD vA),A9,ue},hnw,by decide,by decide,λr hs ats H4 nG mD hV4=>?_};refine{(-36),λp hp=>?_};have sX:Ext fe H4 (upd H4 p (.tup [.str us[i],.ref r])):=(Ext.refl fe H4).new hp _;have vE:=nG.new hp (.tup [.str us[i],.ref r]);have np:=nG.qd hp;have Wl:upd H4 p (.tup [.str us[i],.ref r]) p=some (.tup [.str us[i],.ref r]):=aw;generalize upd H4 p (.tup [.str us[i],.ref r])=H5 at sX vE Wl⊢;have abu:=mD.trans sX;have acS:=jP.ng abu;refine hN _ _ {vE,iy.trans abu,bK,by rw[aO,hly];rfl,xs++[(us[i],hs,ats)],Paired.Ew (Dh.keep acS nF) {p,.ref r,rfl,Wl,hV4.keep (nG.ng sX),hw},?_};rw[aJ,E5,bh,au bK];rfl
 ·rintro ys H3 ⟨jP,iy,hi,hly,xs,nF,E5⟩ l2 jF;rw[ak]at hly E5;rw[aV]at E5;have mD:Ext fe H3 (upd H3 l2 (-39)):=(Ext.refl fe H3).new jF _;have lx:xs.length=us.length:=by have:=bU List.length E5;rw[ak]at this;exact this
  refine k l2 ys xs _ (jP.new jF _) ((jW.trans iy).trans mD) (jP.qd jF) ?_ aw (Dh.keep (jP.ng mD) nF) ∅ ?_
  ·exact(jW.trans iy).none (jP.qd jF) jF
  ·rw[E5];exact Mz
def IK(h:∀R:L2.St->Hp->Prop,(∀σ' H',u D σ' H'->R σ' H')->t {D with nx:=R} Z H):NJ t u D Z H:=h (u D) λ_ _ x=>x
abbrev uK(f:Addr)(H:Hp):Aao->Aab->Prop:=Paired λ(y:V)(r:Aah)=>∃b,y=.ref b/\b≠f/\H b=some (.tup (r.map V.str))
def mK(r:Aah):Prop:=1<=r.length/\r.length<=4/\∀z∈r,z∈cJ
def Eb(f:Addr)(H:Hp)(kv:Key×V):Prop:=∃(z:Str)(a:Addr)(ys:Aao)(rows:Aab),kv=(Sum.inr z,.ref a)/\z∈cJ/\a≠f/\H a=some (-39)/\uK f H ys rows/\(∀r∈rows,mK r)/\rows.length<=5
def TabAt(f:Addr)(H:Hp)(d:Addr)(kvs:List (Key×V)):Prop:=d≠f/\H d=some (.dK kvs)/\(kvs.map (·.1)).Nodup/\kvs.length<=3/\∀kv∈kvs,Eb f H kv
variable{f:Addr}{H H':Hp}
def oq(h:uK f H ys rows)(e:Ext f H H'):uK f H' ys rows:=
 Paired.vo h λy r ⟨b,e1,n,hb⟩=>{b,e1,n,e _ _ n hb}
def DC{K:Frag}(h:uK f H ys rows):cT K H ys rows:=
 Paired.vo h λy r ⟨b,e1,n,hb⟩=>{b,e1,bF.of hb}
def Eb.keep(h:Eb f H kv)(e:Ext f H H'):Eb f H' kv:=by obtain⟨z,a,ys,rows,e1,hz,na,ha,hr,hg,hl⟩:=h;exact{z,a,ys,rows,e1,hz,na,e _ _ na ha,oq hr e,hg,hl}
def dY.dic{K:Frag}(h:dY K f H)(hp:H p=some (.dK xs))(n:p≠f)(o:HO):dY K f (upd H p o):=by obtain⟨x,y,z,hf⟩:=h;exact{x,y,z,by rw[aE n.symm];exact hf}
def Tc{k:Key}{v:V}:(putK kvs k v).length<=kvs.length+1:=by
 unfold putK;split
 ·rw[ak];lia
 ·rw[aO];exact ar _
def Ta{k:Key}{v:V}{p:Key×V}(h:p∈putK kvs k v):p∈kvs\/p=(k,v):=by
 unfold putK at h;split at h
 ·obtain⟨q,hq,rfl⟩:=aR.mp h;split
  next c=>exact .inr (by rw[c])
  next=>exact .inl hq
 ·rcases bg.mp h with q|q
  ·exact .inl q
  ·exact .inr (ay.mp q)
def NZ{k:Key}{v:V}(h:(kvs.map (·.1)).Nodup):((putK kvs k v).map (·.1)).Nodup:=by
 unfold putK;split
 ·rw[bW];have e:((λx:Key×V=>x.1)∘λkv:Key×V=>if kv.1=k then(kv.1,v)else kv)=λkv=>kv.1:=by funext kv;show(if kv.1=k then(kv.1,v)else kv).1=kv.1;split<;>rfl
  rw[e];exact h
 ·next c=>
  rw[aJ];refine eB.mpr {h,by simp,λa ha b hb=>?_};rw[kN,ay]at hb;subst hb;rintro rfl;obtain⟨q,hq,e⟩:=aR.mp ha;exact c (j7.mpr {q,hq,aZ e})
structure En where
 nm:Str
 ad:Addr
 ys:Aao
 rows:Aab
def dt(e:En):Key×V:=(Sum.inr e.nm,.ref e.ad)
end
def Ei(f:Addr)(H:Hp)(e:En):Prop:=e.nm∈cJ/\e.ad≠f/\H e.ad=some (.lst e.ys)/\uK f H e.ys e.rows/\(∀r∈e.rows,mK r)/\e.rows.length<=5
def BB(f:Addr)(H:Hp)(d:Addr)(es:List En):Prop:=d≠f/\H d=some (.dK (es.map dt))/\(es.map (·.nm)).Nodup/\es.length<=3/\∀e∈es,Ei f H e
section
variable{f d:Addr}{H H':Hp}
theorem RQ:∀{kvs:List (Key×V)},(∀kv∈kvs,Eb f H kv)->∃es:List En,kvs=es.map dt/\∀e∈es,Ei f H e
 |[],_=>{[],rfl,λe h=>by cases h}
 |kv::r,h=>by
  obtain⟨es,e1,h1⟩:=RQ (kvs:=r) λkv hk=>h kv (aB _ hk);obtain⟨z,a,ys,rows,e2,hz,na,ha,hr,hg,hl⟩:=h kv aA;refine{⟨z,a,ys,rows⟩::es,by rw[aU,<-e1,e2];rfl,λe he=>?_};rcases aG.mp he with rfl|he
  ·exact⟨hz,na,ha,hr,hg,hl⟩
  ·exact h1 e he
def JL(es:List En):(es.map dt).map (·.1)=(es.map (·.nm)).map (Sum.inr:Str->Key):=by rw[bW,bW];rfl
def GY{l:Aah}:(l.map (Sum.inr:Str->Key)).Nodup↔l.Nodup:=by
 induction l with
 |nil=>exact{λ_=>fJ,λ_=>fJ}
 |cons a r ih=>
  rw[aU,cX,cX,ih];refine and_congr_left λ_=>not_congr {λh=>?_,λh=>cy h};obtain⟨b,hb,e⟩:=aR.mp h;cases e;exact hb
def TabAt.tabs(h:TabAt f H d kvs):∃es,kvs=es.map dt/\BB f H d es:=by obtain⟨n,hd,nd,hl,he⟩:=h;obtain⟨es,rfl,ho⟩:=RQ he;rw[JL]at nd;exact{es,rfl,n,hd,GY.mp nd,by rw[ak]at hl;exact hl,ho}
def Ei.keep(h:Ei f H e)(x:Ext f H H'):Ei f H' e:={h.1,h.2.1,x _ _ h.2.1 h.2.2.1,oq h.2.2.2.1 x,h.2.2.2.2}
def BB.keep(h:BB f H d es)(x:Ext f H H'):BB f H' d es:={h.1,x _ _ h.1 h.2.1,h.2.2.1,h.2.2.2.1,λe he=>(h.2.2.2.2 e he).keep x}
theorem BU:∀{es:List En},(es.map (·.nm)).Nodup->∀{e:En},e∈es->fk (es.map dt) (Sum.inr e.nm)=some (.ref e.ad)
 |[],_,e,h=>by cases h
 |a::r,nd,e,h=>by
  rw[aU,cX]at nd;rcases aG.mp h with rfl|h
  ·exact ip rfl
  ·have ne:¬(dt a).1=Sum.inr e.nm:=λq=>nd.1 (by
    have:a.nm=e.nm:=by injection q
    rw[this];exact cy h)
   rw[aU,gW ne];exact BU nd.2 h
theorem yB:∀{es:List En}{z:Str},z∉es.map (·.nm)->fk (es.map dt) (Sum.inr z:Key)=none
 |[],_,_=>rfl
 |a::r,z,h=>by rw[aU,aG]at h;have ne:¬(dt a).1=Sum.inr z:=λq=>h (.inl (by injection q with q;exact q.symm));rw[aU,gW ne];exact yB λq=>h (.inr q)
def cP(es:List En)(z:Str):Aab:=match es.find? (λe=>decide (e.nm=z))with
 |some e=>e.rows
 |none=>[]
theorem DD:∀{es:List En},(es.map (·.nm)).Nodup->∀{e:En},e∈es->cP es e.nm=e.rows
 |[],_,e,h=>by cases h
 |a::r,nd,e,h=>by
  rw[aU,cX]at nd;unfold cP;rcases aG.mp h with rfl|h
  ·rw[dW (p:=λx:En=>decide (x.nm=e.nm)) (aZ rfl)]
  ·have ne:¬decide (a.nm=e.nm)=true:=λq=>nd.1 (by
    rw[bo q];exact cy h)
   rw[dX (p:=λx:En=>decide (x.nm=e.nm)) ne];exact DD nd.2 h
end
section
variable{P:Program}{w:World}{K:Frag}{mg:Aad}{base:Heap}
structure gY(K:Frag)(H:Hp)(p:Addr)(fs:List En):Prop where
 at_:H p=some (.dK (fs.map dt))
 nm:(fs.map (·.nm)).Nodup
 en:∀e∈fs,H e.ad=some (.lst e.ys)/\cT K H e.ys e.rows/\e.rows.length<=5/\∀r∈e.rows,mK r
structure Ec(K:Frag)(H:Hp)(p:Addr)(fs:List En):Prop where
 at_:H p=some (.dK (fs.map dt))
 nm:(fs.map (·.nm)).Nodup
 en:∀e∈fs,H e.ad=some (.lst e.ys)/\cT K H e.ys e.rows/\e.rows.length<=900/\∀r∈e.rows,mK r
def gY.b{H:Hp}{p:Addr}{fs:List En}(x:gY K H p fs):Ec K H p fs:={x.at_,x.nm,λe he=>let⟨h1,h2,h3,h4⟩:=x.en e he;{h1,h2,aD h3 (-8),h4}}
def cM(h:cT K H ys rows)(s:bq H H'):cT K H' ys rows:=h.keep λa xs q=>by
 rcases q with(q|⟨o,q⟩)|q
 ·exact .inl (.inl (s _ _ q))
 ·exact .inl (.inr {o,s _ _ q})
 ·exact .inr q
def iq(q:bF K H a xs)(s:bq H H'):bF K H' a xs:=by
 rcases q with(q|⟨o,q⟩)|q
 ·exact .inl (.inl (s _ _ q))
 ·exact .inl (.inr {o,s _ _ q})
 ·exact .inr q
def gY.same(x:gY K H p fs)(s:bq H H'):gY K H' p fs:={s _ _ x.at_,x.nm,λe he=>by obtain⟨h1,h2,h3⟩:=x.en e he;exact{s _ _ h1,cM h2 s,h3}}
def Ec.same{H H':Hp}{p:Addr}{fs:List En}(x:Ec K H p fs)(s:bq H H'):Ec K H' p fs:={s _ _ x.at_,x.nm,λe he=>by obtain⟨h1,h2,h3⟩:=x.en e he;exact{s _ _ h1,cM h2 s,h3}}
def Ku(x:Ec K H p fs)(h0:H l0=some (.lst []))(z:Str):∃q ys,(fk (fs.map dt) (Sum.inr z:Key)).getD (.ref l0)=.ref q/\H q=some (-39)/\cT K H ys (cP fs z)/\(cP fs z).length<=900/\(∀r∈cP fs z,mK r)/\∀y∈ys,∃e∈fs,y∈e.ys:=by
 cases q:fs.find? (λe=>decide (e.nm=z))with
 |none=>
  have n:z∉fs.map (·.nm):=λh=>by obtain⟨e,he,rfl⟩:=aR.mp h;have:=tF.mp q e he;exact this (aZ rfl)
  have er:cP fs z=[]:=by unfold cP;rw[q]
  rw[er,yB n];exact{l0,[],rfl,h0,.nil,aP _,λr h=>(by cases h),λy h=>by cases h}
 |some e=>
  have he:=jM q;have e1:e.nm=z:=bo (List.find?_some (p:=λe:En=>decide (e.nm=z)) q);subst e1;rw[BU x.nm he,DD x.nm he];obtain⟨h1,h2,h3,h4⟩:=x.en e he;exact{e.ad,e.ys,rfl,h1,h2,h3,h4,λy hy=>⟨e,he,hy⟩}
inductive Dm(K:Frag)(vs:Aao)(H:Hp)(Q:VK)(_x3:XK):Prop
 |mk (d:Addr) (fs:List En) (z:Str) (_:vs=[.ref d,.str z]) (_:Ec K H d fs) (_:∀(l:Addr)(zs:Aao)(H':Hp),bq H H'->H l=none->H' l=some (.lst zs)->cT K H' zs (eO (cP fs z))->(∀y∈zs,∃e∈fs,y∈e.ys)->Q (.ref l) H')
def NP:cD ["tables","name"] ["tables","name"] (defScope Ay):=jD (-3)
def Ob(F:fu K "rows_of" "rows_of" Ay f fd)(T:Txt K mg):dk P w K mg base fU 1 f fd ["tables","name"] (Dm K):=by
 refine F.ok NP (λ_ _ _ _ h=>by cases h;subst_vars;rfl) (-4);obtain⟨d,fs,z,rfl,hT,k⟩:=h;have hu:=kj hr;refine{_,(ba (cN (cW (rU hr.hd) rfl T.vi (-3) (cz (dF (Bq hr.hd hr.units) rfl T.Of (-3) (cz (yN hu (pv 0) (pv 1) (fb gN) VS))))))),?_};refine{_,rfl,d,rfl,.inl {_,.inl hT.at_},_,rfl,(-18),λl0 mB=>?_};have GF:bq H (upd H l0 (.lst [])):=aM mB _;have h0:upd H l0 (.lst []) l0=some (.lst []):=aw;generalize (upd H l0 (.lst []))=H0 at GF h0⊢;obtain⟨q,ys,eq,hq,hR,Rj,hg,gL⟩:=Ku (hT.same GF) h0 z;refine{_,kS.k (k:=Sum.inr z) (GF _ _ hT.at_),?_};rw[eq];refine{q,ys,cP fs z,rfl,bp.of hq,hR,by lia,λa us Na nu mu lu E1=>?_};have PV:bq H0 (upd H0 a (.ext (kB P w a us))):=aM Na _;have Hm:upd H0 a (.ext (kB P w a us)) a=some (.ext (kB P w a us)):=aw;refine{a,us,ys,rfl,Hm,λx hx=>{iq (E1 x hx).1 PV,(E1 x hx).2},λ_ x hx=>?_,by lia,λl zs hl xZ Ka=>?_}
 ·have:=hg x.1 ((mu x.1).mp (cy hx));intro q;have:=this.1;rw[q]at this;cases this
 ·replace hl:upd H0 a (.ext (kB P w a us)) l=none:=hl
  have wd:bq (upd H0 a (.ext (kB P w a us))) (upd (upd H0 a (.ext (kB P w a us))) l (.lst zs)):=aM hl _;have sm:=GF.trans (PV.trans wd);rw[pN nu mu]at xZ;refine k l zs _ sm ?_ aw (cM xZ wd) λy hy=>gL y (Ka y hy);cases q:H l with
  |none=>rfl
  |some o=>
   rw[PV _ _ (GF _ _ q)]at hl;cases hl
def GoodG(ats:Aaa):Prop:=∀a∈ats,a.2.length<=4/\∀z∈a.2,z.length<=1000
inductive PJ(vs:Aao)(H:Hp)(Q:VK)(_x3:XK):Prop
 |mk (v:V) (hz:Aah) (ats:Aaa) (_:vs=[v]) (_:Di H v hz ats) (_:GoodG ats) (_:ats.length<=100) (_:∀(r:Addr)(H':Hp),bq H H'->H r=none->H' r=some (.lst ((fN (cQ ats)).map V.str))->Q (.ref r) H')
def QF(h:z∈acc):z∈step acc t:=by
 unfold step;split
 ·split
  ·exact h
  ·exact gz _ h
 ·exact h
def QE(h:isUnk z=true):z∈step acc z:=by
 unfold step;rw[aC h];split
 ·assumption
 ·exact cc _ (ay.mpr rfl)
theorem G0:∀{fl acc:Aah},z∈acc\/(isUnk z=true/\z∈fl)->z∈fl.foldl step acc
 |[],acc,h=>by
  rcases h with h|⟨_,h⟩
  ·exact h
  ·cases h
 |t::r,acc,h=>by
  rw[fT];refine G0 ?_;rcases h with h|⟨hu,h⟩
  ·exact .inl (QF h)
  ·rcases aG.mp h with e|h
   ·subst e;exact .inl (QE hu)
   ·exact .inr ⟨hu,h⟩
def Yi(hu:isUnk z=true)(h:z∈fl):z∈fN fl:=G0 (.inr ⟨hu,h⟩)
def Ho(acc:Aah):(acc.map V.str).all qN=true:=by rw[BL];exact bZ.mpr λ_ _=>rfl
theorem uM:∀{fl acc:Aah},z∈fl.foldl step acc->z∈acc\/z∈fl
 |[],acc,h=>.inl h
 |t::r,acc,h=>by
  rw[fT]at h;rcases uM h with h|h
  ·unfold step at h;split at h
   ·split at h
    ·exact .inl h
    ·rcases bg.mp h with h|h
     ·exact .inl h
     ·exact .inr (aG.mpr (.inl (ay.mp h)))
   ·exact .inl h
  ·exact .inr (aB _ h)
end
structure Dv2(P:Program)(w:World)(K:Frag)(mg:Aad)(base:Heap):Prop extends Dv P w K mg base where
 is_unknown:dP P w K mg base 2 "is_unknown" ["thing"] Vo
section
variable{P:Program}{w:World}{K:Frag}{mg:Aad}{base:Heap}
def oo:cD ["question","found","atom","term"] ["question"] (defScope tL):=jD (-3)
def FX(F:fu K "unknowns_of" "unknowns_of" tL f fd)(T:Txt K mg)(D:Dv2 P w K mg base):dk P w K mg base fU 3 f fd ["question"] PJ:=by
 refine F.ok oo (λ_ _ _ _ h=>by cases h;subst_vars;rfl) (-4);obtain⟨v,hz0,ats,rfl,⟨q,hd,aa,jr,rfl,hq,Wt,sW,nE⟩,good,hlen,k⟩:=h;have hu:=kj hr;refine{_,(aN (fK 1 oo jy) (aN (fR bS rfl (sL (dq lD (pv 0) bj (-15))) (iu 2 oo) (ba (fR bS rfl (sL (dq lD (pv 2) bj (-15))) (iu 3 oo) (ba (gJ (AJ (cl D.is_unknown hr (cz (pv 3)))) (ba (pY hu (pv 1) (pv 3) yO rfl)) eG))))) (ba (cN (dF (Gg rfl) rfl T.vj (-3) (cz (pv 1))))))),?_}
 have la:jr.length=ats.length:=bw nE;intro d gE;refine{_,rfl,_,_,_,_,rfl,rfl,bF.of (aM gE _ _ _ hq),rfl,aa,rfl,{jr,bF.of (aM gE _ _ _ sW)},B8 (K:=K) (a:=aa) (xs:=jr)
  (λi Z H2=>∃(x2 x3:Aap),Z=[some (.ref q),some (.ref d),x2,x3]/\bq H H2/\H2 d=some (.dK (qG (fN (cQ (ats.take i)))))) {none,none,rfl,aM gE _,aw} (λi Z H2 _ hq=>by(obtain⟨_,_,_,sm,_⟩:=hq;exact bF.of (sm _ _ sW))) ?_ ?_}
 ·rintro i x Z H2 hx ⟨x2,x3,rfl,sm,hd2⟩;obtain⟨ta,ht,p,t,rfl,hp,wx⟩:=Paired.at nE hx;have g:=good ta (aH ht);have hi:i<ats.length:=(ax.mp ht).1;have lf:=uP (ats.take i) λa ha=>(good a (gx ha)).1;have lti:(ats.take i).length<=i:=by rw[aT];lia
  refine{_,rfl,_,_,_,_,rfl,rfl,bF.of (sm _ _ hp),rfl,t,rfl,{_,bF.of (sm _ _ wx)},B8 (K:=K) (a:=t) (xs:=ta.2.map V.str)
   (λj Z H3=>∃(x3:Aap),Z=[some (.ref q),some (.ref d),some (.ref p),x3]/\bq H H3/\H3 d=some (.dK (qG (fN (cQ (ats.take i)++ta.2.take j))))) {x3,rfl,sm,by rw[yt,b6];exact hd2} (λj Z H3 _ hq=>by(obtain⟨_,_,sm',_⟩:=hq;exact bF.of (sm' _ _ wx))) ?_ ?_}
  ·rintro j y Z H3 hy ⟨x3,rfl,mn,vC⟩;obtain⟨z,hz,rfl⟩:=js hy;have Kb:=g.2 z (aH hz);have hj:j<ta.2.length:=(ax.mp hz).1;refine{_,rfl,z,rfl,by lia,λH4 Ex=>{_,rfl,?_}};have Kq:=Ex _ _ vC;have en:fN (cQ (ats.take i)++ta.2.take (j+1))=step (fN (cQ (ats.take i)++ta.2.take j)) z:=by rw[bh,hz,<-Sw,cR];rfl
   have lu:=F0 (cQ (ats.take i)++ta.2.take j);rw[aO,aT]at lu;refine fo (λc1=>?_) (λc1=>?_)
   ·refine{_,rfl,_,rfl,d,_,rfl,vT.k (k:=Sum.inr z) Kq (by unfold qG;rw[ak];exact bC ∅),?_};refine{_,rfl,λb u e=>?_,?_}
    ·rw[aE (bf e gE)];exact Ex _ _ (mn _ _ e)
    ·rw[aw,S9,en];unfold step;rw[aC c1]
   ·refine{_,rfl,mn.trans Ex,?_};rw[en];unfold step;rw[az c1];exact Kq
  ·rintro Z H3 ⟨x3,rfl,mn,vC⟩;refine{_,_,rfl,mn,?_};rw[ak,aV]at vC;rw[yZ ht];exact vC
 ·rintro Z H2 ⟨x2,x3,rfl,sm,hd2⟩;rw[la,aV]at hd2;refine{_,rfl,d,_,rfl,hd2,λl hl=>?_};refine k l _ (sm.trans (aM hl _)) (sm.free hl) ?_;rw[aw,QR]
def placesK(us:Aah):List (Key×V):=us.zipIdx.map λx=>(Sum.inr x.1,V.int (x.2:Int))
end
inductive ID(K:Frag)(vs:Aao)(H:Hp)(Q:VK)(_x3:XK):Prop
 |mk (l:Addr) (us:Aah) (_:vs=[.ref l]) (_:bp K H l (us.map V.str)) (_:us.Nodup) (_:us.length<=100) (_:∀(r:Addr)(H':Hp),bq H H'->H r=none->H' r=some (.dK (placesK us))->Q (.ref r) H')
def yA(nd:us.Nodup):fk (placesK us) (Sum.inr t:Key)=if t∈us then some (V.int (us.idxOf t:Int))else none:=by
 have gen:∀(us:Aah)(n:Nat),fk ((us.zipIdx n).map λx=>((Sum.inr x.1:Key),V.int (x.2:Int))) (Sum.inr t)=if t∈us then some (V.int ((us.idxOf t+n:Nat):Int))else none:=by
  intro us
  induction us with
  |nil=>intro n;rfl
  |cons u us ih=>
   intro n;rw[pT,aU];by_cases e:u=t
   ·subst e;rw[ip rfl,aC aA,List.idxOf_cons_self,vN]
   ·rw[gW (λz=>e (Sum.inr.inj z)),ih (n+1)];by_cases m:t∈us
    ·rw[aC m,aC (aB _ m),List.idxOf_cons,show(u==t)=false from beq_false_of_ne e,cond_false,Nat.add_right_comm,pM]
    ·rw[az m,az λz=>(aG.mp z).elim (λz=>e z.symm) m]
 have:=gen us 0;rw[j3]at this;exact this
def Lh{us:Aah}(nd:us.Nodup)(h:us[i]?=some u):putK (placesK (us.take i)) (Sum.inr u:Key) (V.int (i:Int))=placesK (us.take (i+1)):=by
 obtain⟨hi,e⟩:=ax.mp h;have nm:u∉us.take i:=λz=>by obtain⟨j,hj,ej⟩:=fq.mp z;rw[aT]at hj;rw[List.getElem_take]at ej;exact fS.mp nd j i ∅ hi ∅ (by rw[ej,e])
 rw[yM _ (by rw[yA (nd.sublist (oY _ _)),az nm])];unfold placesK;rw[bh,h,cL,List.zipIdx_append,aJ,aT,gM ∅];simp
section
variable{P:Program}{w:World}{K:Frag}{mg:Aad}{base:Heap}
def iQ(q:bp K H a xs)(s:bq H H'):bp K H' a xs:=by
 rcases q with(q|⟨o,q⟩)|q
 ·exact .inl (.inl (s _ _ q))
 ·exact .inl (.inr {o,s _ _ q})
 ·exact .inr q
def qw:cD ["unknowns","places","place","unknown"] ["unknowns"] (defScope wW):=jD (-3)
def JC(F:fu K "places_of" "places_of" wW f fd)(T:Txt K mg):dk P w K mg base fU 1 f fd ["unknowns"] (ID K):=by
 refine F.ok qw (λ_ _ _ _ h=>by cases h;subst_vars;rfl) (-4);obtain⟨l,us,rfl,hl,nd,lu,k⟩:=h;have hu:=kj hr;refine{_,(aN (fK 1 qw jy) (aN (fR bS rfl (FT rfl T.wZ (cz (pv 0))) (iY rfl (cA (iu 2 qw) (cA (iu 3 qw) g9))) (ba (pY hu (pv 1) (pv 3) (pv 2) rfl))) (ba (cN (pv 1))))),?_}
 intro d gE;refine{_,rfl,l,rfl,{_,iQ hl (aM gE _)},DS (K:=K) (a:=l) (xs:=us.map V.str)
  (λi Z H2=>∃(x2 x3:Aap),Z=[some (.ref l),some (.ref d),x2,x3]/\bq H H2/\H2 d=some (.dK (placesK (us.take i)))) {none,none,rfl,aM gE _,aw} (λi Z H2 _ ⟨_,_,_,sm,_⟩=>iQ hl sm) ?_ ?_}
 ·rintro i x p Z H2 hx ⟨x2,x3,rfl,sm,hd2⟩ hp;obtain⟨z,hz,rfl⟩:=js hx;have hi:=(ax.mp hz).1;have mn:bq H2 (upd H2 p (.tup [.int i,.str z])):=aM hp _;refine{p,_,rfl,bF.of aw,rfl,_,_,rfl,_,_,rfl,rfl,?_};refine{_,rfl,_,rfl,_,rfl,d,_,rfl,vT.k (k:=Sum.inr z) (mn _ _ hd2) (by unfold placesK;rw[ak,List.length_zipIdx,aT];exact bC ∅),?_};refine{_,_,rfl,λb u e=>?_,?_}
  ·rw[aE (bf e gE)];exact mn _ _ (sm _ _ e)
  ·rw[aw,Lh nd hz]
 ·rintro Z H2 ⟨x2,x3,rfl,sm,hd2⟩;rw[ak,aV]at hd2;exact{_,rfl,k d H2 sm gE hd2}
inductive L7(K:Frag)(vs:Aao)(H:Hp)(Q:VK)(_x3:XK):Prop
 |mk (t d g:Addr) (ts us o8:Aah) (_:vs=[.ref t,.ref d,.ref g]) (_:(bp K H t (ts.map V.str)\/bF K H t (ts.map V.str))) (_:H d=some (.dK (placesK us))) (_:us.Nodup) (_:bF K H g (o8.map V.str)) (_:o8.length=us.length) (_:ts.length<=100) (_:us.length<=100) (_:∀(r:Addr)(H':Hp),bq H H'->H r=none->H' r=some (.tup ((AskP.image us o8 ts).map V.str))->Q (.ref r) H')
def SY:cD ["terms","places","given"] ["terms","places","given"] (defScope FP):=jD (-3)
def TB(F:fu K "image" "image" FP f fd)(T:Txt K mg):dk P w K mg base fU 1 f fd ["terms","places","given"] (L7 K):=by
 refine F.ok SY (λ_ _ _ _ h=>by cases h;subst_vars;rfl) (-4);obtain⟨t,d,g,ts,us,o8,rfl,ht,hd,nd,hg,lv,lt,lu,k⟩:=h;have hu:=kj hr;rcases ht with ht|ht
 ·refine{_,(ba (cN (dF fE rfl T.kE (-3) (cz (hE rfl (cU (fs:=["places","given"]) (fr:=[1,2])) (fX (pv 0)) (λ_ _ _ _=>(Jo (Jb (Jt hu (pv 0) (pv 1))) (dq (uR (K:=K)) (pv 2) (pZ hu (pv 1) (pv 0) (-15)) (-15)) (pv 0)))))))),?_};refine{_,rfl,t,rfl,⟨_,ht⟩,jg (K:=K) (a:=t) (xs:=ts.map V.str) (λi ys H2=>H2=H/\i<=ts.length/\ys=((ts.take i).map (AskP.mz us o8)).map V.str) (-28) {rfl,aP _,rfl} ?_ ?_ ?_}
  ·rintro i ys H2 hi ⟨rfl,_,rfl⟩;refine{ht,?_};rw[ak,ak,aT];lia
  ·rintro i x ys H2 N hc ⟨rfl,hi,rfl⟩ hN;obtain⟨z,hz,rfl⟩:=js hc;have bK:i<ts.length:=(ax.mp hz).1;refine gq ?_;refine{_,rfl,_,rfl,d,_,rfl,kS.k (k:=Sum.inr z) hd,_,rfl,?_};have ap:((ts.take i).map (AskP.mz us o8)).map V.str++[V.str (AskP.mz us o8 z)]=((ts.take (i+1)).map (AskP.mz us o8)).map V.str:=by rw[bh,hz,aJ,aJ];rfl
   have ev:=yA (t:=z) nd;by_cases m:z∈us
   ·rw[aC m]at ev;have li:=cV m;have dg:=kS.k (k:=Sum.inr z) hd;rw[ev]at dg;refine fo (λ_=>?_) (λc=>absurd (by rw[ev];rfl) c);refine{_,rfl,_,rfl,_,rfl,d,_,rfl,dg,g,_,_,V.str (AskP.mz us o8 z),rfl,rfl,hg,?_,hN _ _ ⟨rfl,bK,ap⟩};refine kF ?_;rw[aK,au ∅];unfold AskP.mz;rw[aC m,cq,au ∅];rfl
   ·rw[az m]at ev;refine fo (λc=>by rw[ev]at c;cases c) (λ_=>?_);refine{_,rfl,hN _ _ {rfl,bK,?_}};rw[<-ap];unfold AskP.mz;rw[az m]
  ·rintro ys H2 ⟨rfl,_,rfl⟩ l qL;rw[ak,aV];refine{l,_,rfl,.inl {bp.of aw,λp hp=>?_}};exact k p _ ((aM qL _).trans (aM hp _)) ((aM qL _).free hp) aw
 ·refine{_,(ba (cN (dF fE rfl T.kE (-3) (cz (hE rfl (cU (fs:=["places","given"]) (fr:=[1,2])) (sL (pv 0)) (λ_ _ _ _=>(Jo (Jb (Jt hu (pv 0) (pv 1))) (dq (uR (K:=K)) (pv 2) (pZ hu (pv 1) (pv 0) (-15)) (-15)) (pv 0)))))))),?_};refine{_,rfl,t,rfl,⟨_,ht⟩,zc (K:=K) (a:=t) (xs:=ts.map V.str) (λi ys H2=>H2=H/\i<=ts.length/\ys=((ts.take i).map (AskP.mz us o8)).map V.str) (-28) {rfl,aP _,rfl} ?_ ?_ ?_}
  ·rintro i ys H2 hi ⟨rfl,_,rfl⟩;refine{ht,?_};rw[ak,ak,aT];lia
  ·rintro i x ys H2 N hc ⟨rfl,hi,rfl⟩ hN;obtain⟨z,hz,rfl⟩:=js hc;have bK:i<ts.length:=(ax.mp hz).1;refine gq ?_;refine{_,rfl,_,rfl,d,_,rfl,kS.k (k:=Sum.inr z) hd,_,rfl,?_};have ap:((ts.take i).map (AskP.mz us o8)).map V.str++[V.str (AskP.mz us o8 z)]=((ts.take (i+1)).map (AskP.mz us o8)).map V.str:=by rw[bh,hz,aJ,aJ];rfl
   have ev:=yA (t:=z) nd;by_cases m:z∈us
   ·rw[aC m]at ev;have li:=cV m;have dg:=kS.k (k:=Sum.inr z) hd;rw[ev]at dg;refine fo (λ_=>?_) (λc=>absurd (by rw[ev];rfl) c);refine{_,rfl,_,rfl,_,rfl,d,_,rfl,dg,g,_,_,V.str (AskP.mz us o8 z),rfl,rfl,hg,?_,hN _ _ ⟨rfl,bK,ap⟩};refine kF ?_;rw[aK,au ∅];unfold AskP.mz;rw[aC m,cq,au ∅];rfl
   ·rw[az m]at ev;refine fo (λc=>by rw[ev]at c;cases c) (λ_=>?_);refine{_,rfl,hN _ _ {rfl,bK,?_}};rw[<-ap];unfold AskP.mz;rw[az m]
  ·rintro ys H2 ⟨rfl,_,rfl⟩ l qL;rw[ak,aV];refine{l,_,rfl,.inl {bp.of aw,λp hp=>?_}};exact k p _ ((aM qL _).trans (aM hp _)) ((aM qL _).free hp) aw
end
end kr
namespace L2
open PySem PySem.Spec PyProof.Rows
section
variable{K:Frag}{a b:Addr}{xs zs:Aao}{fr:List Nat}{tt:TT}{te:TE}{Z:St}{H1:Hp}{R:Addr->Aao->Hp->Prop}
def Pc(Pv:Nat->Aao->Hp->Prop)(hx:xs.length<sizeLine)(le:xs.length=zs.length)(h0:Pv 0 [] H1)(hl:∀i ys H,i<=xs.length->Pv i ys H->(bF K H a xs/\bF K H b zs)/\ys.length<=i)
  (hs:∀(i:Nat)(x z:V)(p:Addr)(ys:Aao)(H:Hp)(N:Aao->Hp->Prop),xs[i]?=some x->zs[i]?=some z->Pv i ys H->H p=none->(∀jC H',Pv (i+1) jC H'->N jC H')->
   tt (some x::some z::slotsOf fr Z) (upd H p (.tup [x,z])) λt H4=>if t=true then te (some x::some z::slotsOf fr Z) H4 (λy H5=>N (ys++[y]) H5)else N ys H4)
  (hd:∀ys H,Pv xs.length ys H->∀l,H l=none->R l ys H):Si (Nw K a b) 2 fr (WM K) tt te Z H1 R:=by
 refine{λi m ys H=>m=xs.length -i/\i<=xs.length/\Pv i ys H,{xs.length,by simp,aP _,h0},?_};rintro i m ys H ⟨rfl,hi,p⟩;obtain⟨⟨q1,q2⟩,hy⟩:=hl i ys H hi p;by_cases bK:i<xs.length
 ·refine .inr {{xs,zs,xs[i],zs[i]'∅,q1,q2,au bK,au _},by lia,?_};rintro v H3 ⟨r,u,z,rfl,hr,rfl,y1,y2⟩ own ho;have h:=hs i u z r ys H (λjC H'=>∃m',m'<xs.length -i/\m'=xs.length -(i+1)/\i+1<=xs.length/\Pv (i+1) jC H') (y1 xs q1) (y2 zs q2) p hr λjC H' p'=>{_,by lia,rfl,bK,p'};exact X4 ho rfl (bF.of aw) {[some u,some z],rfl,rfl,h}
 ·have e:i=xs.length:=by lia
  subst e;exact .inl {⟨xs,q1,rfl⟩,by lia,hd ys H p}
end
end L2
namespace L2
open PySem PySem.Spec PyProof.Rows PySem.W
section
variable{X:Cx}
inductive Mm(K:Frag)(x:V)(vs:Aao)(H:Hp)(Q:VK):Prop
 |mk (l:Addr) (zs:Aah) (z:Str) (j:Nat) (_:x=.ref l) (_:vs=[.str z]) (_:bF K H l (zs.map V.str)) (_:zs[j]?=some z) (_:(∀m,m<j->zs[m]?≠some z)) (_:Q (.int (j:Int)) H)
def QC:Se X "tuple.index" (Mm X.K):=by
 intro pins s Z H x vs v us Q I rx rv h;obtain⟨l,zs,z,j,rfl,rfl,hH,hj,E4,q⟩:=h;cases rx;obtain⟨u,rfl,ru⟩:=rv.one;obtain⟨t,rfl⟩:=ru;obtain⟨aY,r,ht,hl⟩:=I.tuple hH;obtain⟨o,ho,hc,n,hd⟩:=ht;have lz:=r.length;rw[ak]at lz;have eat:∀m:Nat,m<aY.length->∃y t',aY[m]?=some (.str y t')/\zs[m]?=some y:=λm hm=>by
  have hz:m<zs.length:=by lia
  obtain⟨u',xY,t',rfl⟩:=r.get (i:=m) (x:=.str zs[m]) (by rw[aK,au hz];rfl);exact{zs[m],t',xY,au hz}
 have sV:j<aY.length:=by have:=(ax.mp hj).1;lia
 refine bz F.slot_tuple_index ⟨_,ho,hc⟩ F.entry_tuple_index ?_ (F.args_tuple_index_2 _ _);unfold Builtin.«tuple.index»;refine af (ao ?_);refine af (af (bY ho hd (ao ?_)));refine af (ao (af (ao ?_)));dsimp only;rw[Nat.min_self,mM];have hsz:([0:aY.toArray.size]:Std.Legacy.Range).size=aY.length:=by simp[Std.Legacy.Range.size]
 refine af (c8 (jR _ (λl b s'=>∃m,l=List.range' m (aY.length -m) 1/\m<=j/\b=(none,())/\s'=s) (λb s'=>∃tk,b=(some (PySem.Fin.done (Flow.ret (.int j tk))),())/\s'={s with toks:=s.toks+1}) ?_ ?_ _ _ {0,?_,aP _,rfl,rfl}) ?_ λ_ _ e=>e)
 ·rintro x rest b s' ⟨m,el,mj,rfl,rfl⟩;obtain⟨k,hk⟩:∃k,aY.length -m=k+1:={aY.length -m -1,by lia};rw[hk,List.range'_succ]at el;obtain⟨rfl,rfl⟩:=List.cons.inj el;obtain⟨y,t',e1,e2⟩:=eat x ∅;have e3:aY.toArray[x]?=some (.str y t'):=by rw[<-e1];simp
  rw[e3];refine af (zZ.eq_str ?_);by_cases e:x=j
  ·subst e;rw[hj]at e2;cases e2;rw[aZ rfl];exact af (af (CB (ao (ao ⟨_,rfl,rfl⟩))))
  ·have ne:y≠z:=λq=>E4 x ∅ (by rw[e2,q]);rw[bI ne];exact ao {x+1,by rw[show aY.length -(x+1)=k by lia],by lia,rfl,rfl}
 ·rintro b s' ⟨m,el,mj,rfl,rfl⟩;have:aY.length -m=0:=by have:=bU List.length el;simpa using this.symm
  lia
 ·show List.range' 0 ([0:aY.toArray.size]:Std.Legacy.Range).size 1=_;rw[hsz];rfl
 ·rintro b s' ⟨tk,rfl,rfl⟩;exact ao {_,rfl,{.int _,H,I.tok _,⟨_,rfl⟩,q}}
def yS{K:Frag}(h:X.K=K:=by rfl):Se X "tuple.index" (Mm K):=h▸QC
end
end L2
namespace kr
open PySem PySem.Spec PyProof.Rows L2 zZ gw
seal L2.PE L2.PT L2.PW L2.PA L2.PS L2.mY L2.PI L2.PO L2.BF L2.PG L2.Aa
inductive GB(K:Frag)(vs:Aao)(H:Hp)(Q:VK)(_x3:XK):Prop
 |mk (r t:Addr) (rs ts:Aah) (_:vs=[.ref r,.ref t]) (_:bF K H r (rs.map V.str)) (_:H t=some (.tup (ts.map V.str))) (_:rs.length<=100) (_:ts.length<=100) (_:∀H',bq H H'->Q (.bl (AskP.mV rs ts)) H')
section
variable{P:Program}{w:World}{K:Frag}{mg:Aad}{base:Heap}
def Lg:cD ["row","terms"] ["row","terms"] (defScope yL):=jD (-3)
def Ll(F:fu K "is_image" "is_image" yL f fd)(T:Txt K mg):dk P w K mg base fU 1 f fd ["row","terms"] (GB K):=by
 refine F.ok Lg (λ_ _ _ _ h=>by cases h;subst_vars;rfl) (-4);obtain⟨r,t,rs,ts,rfl,E2,Q9,lr,lt,k⟩:=h;have Wf:bF K H t (ts.map V.str):=bF.of Q9;have hu:=kj hr;refine{_,(aN (gJ (dh B1 (cW iS rfl T.kW dj (cz (pv 0))) (cW iS rfl T.kW dj (cz (pv 1))) (eX _)) (ba (cN yO)) eG) (ba (cN (cW (yh rfl) rfl T.VP boot_all (cz (Tp rfl (Pb (more:=["value"]) (fs:=["row","terms"]) (fr:=[0,1])) (Mq rfl T.ES (dR (pv 1) (pv 0))) (λ_ _ _ _=>(XY (K:=K) (n:=2) rfl (cA (Jk (i:=0)) (cA (Jk (i:=1)) g9)))) (λ_ _ _ _=>(FU uD (dq (uR (K:=K)) (pv 2) (Jr (K:=K) nU nQ nO yS (pv 3) (cz (pv 0))) (-15)) (pv 1) (eX _))))))))),?_}
 refine{_,rfl,_,_,rfl,.inr ⟨_,E2,rfl⟩,_,rfl,_,_,rfl,.inr ⟨_,Wf,rfl⟩,rfl,?_};rw[ak,ak];refine{_,rfl,fo (-62) (-62)}
 ·have ne:rs.length≠ts.length:=λe=>by rw[e]at c;simp at c
  have e:AskP.mV rs ts=false:=by unfold AskP.mV;rw[bI ne];rfl
  rw[e]at k;exact k H (λ_ _ x=>x)
 have le:rs.length=ts.length:=by
  by_cases e:rs.length=ts.length
  ·exact e
  ·have z:¬(V.int (rs.length:Int)=V.int (ts.length:Int)):=λz=>e (by injection z with z;lia);exact absurd (by rw[bI z];rfl) c
 refine{_,rfl,_,rfl,t,r,rfl,⟨_,Wf⟩,⟨_,E2⟩,Pc (K:=K) (a:=t) (b:=r) (xs:=ts.map V.str) (zs:=rs.map V.str)
  (λi ys H2=>bq H H2/\i<=ts.length/\ys=(((ts.zip rs).take i).map λx=>decide (rs[ts.idxOf x.1]?=some x.2)).map V.bl) (-28) (by rw[ak,ak,le]) {λ_ _ x=>x,aP _,rfl} ?_ ?_ ?_}
 ·rintro i ys H2 hi ⟨sm,_,rfl⟩;refine{{iq Wf sm,iq E2 sm},?_};rw[ak,ak,aT];lia
 ·rintro i x y p ys H2 N hx hy ⟨sm,hi,rfl⟩ hp hN;obtain⟨z,hz,rfl⟩:=js hx;obtain⟨v,hv,rfl⟩:=js hy;refine gq ?_;have m:z∈ts:=aH hz;have li:=cV m;have Wr:=(ax.mp hz).1;have mn:bq H (upd H2 p (.tup [V.str z,V.str v])):=sm.trans (aM hp _);have e1:ts[ts.idxOf z]?=some z:=by rw[au li,kP]
  have e2:∀n,n<ts.idxOf z->ts[n]?≠some z:=λn hn q=>by obtain⟨ln,en⟩:=ax.mp q;have:=xn (p:=(·==z)) (xs:=ts) hn;rw[en]at this;simp at this
  obtain⟨u,zO⟩:∃u,rs[ts.idxOf z]?=some u:={_,au ∅};refine{_,rfl,_,rfl,.inr (.inl {rfl,.inl {_,mn _ _ Q9}}),_,rfl,t,ts,z,ts.idxOf z,rfl,rfl,iq Wf mn,e1,e2,r,_,_,V.str u,rfl,rfl,iq E2 mn,kF (by rw[aK,zO];rfl),_,rfl,rfl,?_};refine hN _ _ {mn,by lia,?_};have e3:(ts.zip rs)[i]?=some (z,v):=by rw[List.getElem?_zip_eq_some];exact⟨hz,hv⟩
  rw[bh,e3,cL,aJ,aJ];congr 1;show[V.bl (decide (V.str u=V.str v))]=[V.bl (decide (rs[ts.idxOf z]?=some v))];rw[zO];congr 2;by_cases q:u=v
  ·subst q;simp
  ·rw[bI (λz=>q (V.str.inj z)),bI (λz=>q (bN z))]
 ·rintro ys H2 ⟨sm,_,rfl⟩ l hl;have lz:(ts.zip rs).length=ts.length:=by rw[qZ];lia
  rw[ak,<-lz,aV];refine{l,_,rfl,bp.of aw,?_};have e:AskP.mV rs ts=(((ts.zip rs).map λx=>decide (rs[ts.idxOf x.1]?=some x.2)).all id):=by unfold AskP.mV;rw[aZ le,gP,BL];rfl
  rw[e]at k;exact k _ (sm.trans (aM hl _))
def dw(H H':Hp):Prop:=∀b xs,Rd H b (.tup xs)->Rd H' b (.tup xs)
def dw.refl(H:Hp):dw H H:=λ_ _ h=>h
def dw.trans(a:dw H H1)(b:dw H1 H2):dw H H2:=λx xs h=>b x xs (a x xs h)
def dw.same(s:bq H H'):dw H H':=λb xs h=>by
 rcases h with h|⟨o,h⟩
 ·exact .inl (s _ _ h)
 ·exact .inr {o,s _ _ h}
def iN(H:Hp)(a:Addr):Prop:=∀xs,¬Rd H a (.tup xs)
def dw.upd(h:iN H a):dw H (upd H a o):=λb xs q=>by
 have hb:b≠a:=λe=>h xs (e▸q);rcases q with q|⟨o',q⟩
 ·exact .inl (by rw[aE hb];exact q)
 ·exact .inr {o',by rw[aE hb];exact q}
def Qv(h:H a=some (.ext φ)):iN H a:=λxs q=>by rcases q with q|⟨o,q⟩<;>rw[h]at q<;>cases q
def rO(h:H a=some (.dK l)):iN H a:=λxs q=>by rcases q with q|⟨o,q⟩<;>rw[h]at q<;>cases q
def AS(h:H a=some (.ins C dx l)):iN H a:=λxs q=>by rcases q with q|⟨o,q⟩<;>rw[h]at q<;>cases q
def o9(q:bF K H a xs)(t:dw H H'):bF K H' a xs:=by
 rcases q with q|q
 ·exact .inl (t _ _ q)
 ·exact .inr q
mutual
theorem Od(t:dw H H'):∀(k:NK)(v:V),NV K H k v->NV K H' k v
 | .cE,v,h=>by rw[NV]at h⊢;exact h
 | .key k,v,h=>by rw[NV]at h⊢;exact h
 | .tup ks,v,h=>by rw[NV]at h⊢;obtain⟨a,xs,e,hq,hs⟩:=h;exact{a,xs,e,o9 hq t,Qt t ks xs hs}
theorem Qt(t:dw H H'):∀(ks:List NK)(vs:Aao),pD K H ks vs->pD K H' ks vs
 |[],vs,h=>by rw[pD]at h⊢;exact h
 |k::ks,vs,h=>by rw[pD]at h⊢;obtain⟨x,r,e,h1,h2⟩:=h;exact{x,r,e,Od t k x h1,Qt t ks r h2}
end
def xS{H H':Hp}{k:NK}{a:Addr}(h:jA K H k a)(t:dw H H'):jA K H' k a:={Od t _ _ h.1,h.2}
def _root_.L2.gn.tp{H H':Hp}{d:Addr}{kvs:List (-53)}(h:gn P w K H d kvs)(t:dw H H')(e:H' d=H d):gn P w K H' d kvs:={by rw[e];exact h.1,λp hp=>xS (h.2 p hp) t}
def _root_.L2.gn.some{H:Hp}{d:Addr}{kvs:List (-53)}(h:gn P w K H d kvs):∃u,H d=some u:=by rcases h.1 with h|⟨_,h⟩<;>exact⟨_,h⟩
def _root_.L2.gn.qC{H:Hp}{d:Addr}{kvs:List (-53)}(h:gn P w K H d kvs):iN H d:=by
 rcases h.1 with h|⟨_,h⟩
 ·exact Qv h
 ·exact rO h
def _root_.L2.gn.put{H:Hp}{d b:Addr}{kvs:List (-53)}{k:NK}{v:V}(h:gn P w K H d kvs)(hk:jA K H k b):gn P w K (upd H d (.ext (DN P w d (putN kvs k b v)))) d (putN kvs k b v):=by
 have t:dw H (upd H d (.ext (DN P w d (putN kvs k b v)))):=dw.upd h.qC;refine{.inl aw,λp hp=>?_};rcases JR hp with⟨q,hq,e1,e2⟩|⟨e1,e2⟩
 ·rw[e1,e2];exact xS (h.2 q hq) t
 ·rw[e1,e2];exact xS hk t
def Gj{H:Hp}{p:Addr}(h:H p=Option.some (.dK [])):gn P w K H p []:={.inr ⟨rfl,h⟩,λ_ hp=>by cases hp}
def tD(zs:Aah):Prop:=∀z∈zs,PyData.strOk z=true
abbrev Cm:=List (Aah×Int)
def sZ(m:Cm):List (NK×V):=m.map λx=>(eY x.1,V.int x.2)
abbrev CU(kvs:List (-53)):List (NK×V):=kvs.map λp=>(p.1,p.2.2)
def cnt(m:Cm)(r:Aah):Int:=((m.find? λx=>decide (x.1=r)).map (·.2)).getD 0
theorem FJ:∀{m:Cm}{kvs:List (-53)},CU kvs=sZ m->valN kvs (eY r)=(m.find? λx=>decide (x.1=r)).map λx=>V.int x.2
 |[],[],_=>rfl
 |[],_::_,e=>by cases e
 |_::_,[],e=>by cases e
 |x::m,p::kvs,e=>by
  injection e with e1 e2;have e3:=bU Prod.fst e1;have e4:=bU Prod.snd e1;dsimp only at e3 e4;by_cases c:x.1=r
  ·rw[lQ (by rw[e3,c]),dW (by exact aZ c),e4];rfl
  ·rw[lR (λz=>c (xM (by rw[<-e3,z]))),FJ e2,dX (by simpa using c)]
def YS(e:CU kvs=sZ m):(valN kvs (eY r)).getD (V.int 0)=V.int (cnt m r):=by rw[FJ e];unfold cnt;cases m.find? (λx=>decide (x.1=r))<;>rfl
def abD(nd:(m.map (·.1)).Nodup)(h:x∈m)(e:x.1=r):cnt m r=x.2:=by
 unfold cnt
 induction m with
 |nil=>cases h
 |cons y m ih=>
  rw[aU,cX]at nd;by_cases c:y.1=r
  ·rw[dW (by exact aZ c)];rcases aG.mp h with rfl|h
   ·rfl
   ·exact absurd (aR.mpr {x,h,by rw[e,c]}) nd.1
  ·rw[dX (by simpa using c)];rcases aG.mp h with rfl|h
   ·exact absurd e c
   ·exact ih nd.2 h
def XR(nd:(m.map (·.1)).Nodup)(e:CU kvs=sZ m):CU (putN kvs (eY r) b (.int (cnt m r+c)))=sZ (AskP.tS m r c):=by
 have hv:=FJ (r:=r) e;have mem:r∈m.map (·.1)↔(m.find? λx=>decide (x.1=r)).isSome=true:=by rw[List.find?_isSome,aR];exact{λ⟨x,h1,h2⟩=>{x,h1,aZ h2},λ⟨x,h1,h2⟩=>{x,h1,bo h2}}
 unfold putN AskP.tS;by_cases q:r∈m.map (·.1)
 ·rw[aC q,aC (by rw[hv,jH];exact mem.mp q)];have gen:∀(kvs:List (-53))(m':Cm),(∀x∈m',x∈m)->CU kvs=sZ m'->CU (kvs.map λp=>if p.1=eY r then(p.1,p.2.1,V.int (cnt m r+c))else p)=sZ (m'.map λx=>if x.1=r then(x.1,x.2+c)else x):=by
   intro kvs
   induction kvs with
   |nil=>intro m' _ e;cases m' with
    |nil=>rfl
    |cons _ _=>cases e
   |cons p kvs ih=>intro m' hm e;cases m' with
    |nil=>cases e
    |cons x m'=>
     injection e with e1 e2;have e3:=bU Prod.fst e1;have e4:=bU Prod.snd e1;dsimp only at e3 e4;show(_::_:List (NK×V))=_::_;congr 1
     ·dsimp only;by_cases z:x.1=r
      ·rw[aC z,aC (by rw[e3,z])];rw[e3,abD nd (hm x aA) z]
      ·rw[az z,az (λq=>z (xM (by rw[<-e3,q])))];exact e1
     ·exact ih m' (λx hx=>hm x (aB _ hx)) e2
  exact gen kvs m (λ_ h=>h) e
 ·rw[az q,az (by rw[hv,jH];exactλz=>q (mem.mpr z))];have z:(m.find? λx=>decide (x.1=r))=none:=by
   cases h:m.find? λx=>decide (x.1=r)with
   |none=>rfl
   |some _=>rw[h]at mem;exact absurd (mem.mpr rfl) q
  have z2:cnt m r=0:=by unfold cnt;rw[z];rfl
  unfold sZ CU at*;rw[z2,vS,aJ,aJ,e];rfl
def RowC(P:Program)(w:World)(K:Frag)(H:Hp)(d:Addr)(m:Cm):Prop:=∃kvs,gn P w K H d kvs/\CU kvs=sZ m
def RowC.same(h:RowC P w K H d m)(s:bq H H'):RowC P w K H' d m:=by obtain⟨kvs,h1,h2⟩:=h;obtain⟨u,hu⟩:=h1.some;exact{kvs,h1.tp (dw.same s) (by rw[hu,s _ _ hu]),h2}
def Ph(P:Program)(w:World)(K:Frag)(H:Hp)(d:Addr)(m:Cm):Prop:=∃kvs,gn P w K H d kvs/\CU kvs=sZ m/\∀p∈kvs,∃xs,H p.2.1=some (.tup xs)
def Ph.c(h:Ph P w K H d m):RowC P w K H d m:=let⟨kvs,h1,h2,_⟩:=h;⟨kvs,h1,h2⟩
def wI(K:Frag)(H:Hp)(v:V)(x:Aah×Int):Prop:=∃p g,v=.ref p/\bF K H p [.ref g,.int x.2]/\bF K H g (x.1.map V.str)
def Jw(h:wI K H v x)(t:dw H H'):wI K H' v x:=by obtain⟨p,g,e,h1,h2⟩:=h;exact{p,g,e,o9 h1 t,o9 h2 t}
def GD(h1:tD vs)(h2:tD ts):tD (AskP.image us vs ts):=λz hz=>by
 obtain⟨t,ht,rfl⟩:=aR.mp hz;unfold AskP.mz;split
 ·rw[cq];cases q:vs[us.idxOf t]? with
  |none=>exact h2 t ht
  |some v=>exact h1 v (aH q)
 ·exact h2 t ht
inductive yH(P:Program)(w:World)(K:Frag)(vs:Aao)(H:Hp)(Q:VK)(_x3:XK):Prop
 |mk (l u t:Addr) (ys:Aao) (m:Cm) (us ts:Aah) (_:vs=[.ref l,.ref u,.ref t]) (_:bp K H l ys) (_:Paired (wI K H) ys m) (_:bp K H u (us.map V.str)) (_:us.Nodup) (_:us.length<=100) (_:(bp K H t (ts.map V.str)\/bF K H t (ts.map V.str))) (_:ts.length<=100) (_:tD ts) (_:(∀x∈m,x.1.length=us.length/\tD x.1)) (_:m.length<=9000000) (_:∀(d:Addr)(H':Hp),bq H H'->H d=none->Ph P w K H' d (AskP.narrowed m us ts)->Q (.ref d) H')
structure Dn(P:Program)(w:World)(K:Frag)(mg:Aad)(base:Heap):Prop where
 places_of:dP P w K mg base 1 "places_of" ["unknowns"] (ID K)
 image:dP P w K mg base 1 "image" ["terms","places","given"] (L7 K)
def mI:cD ["counted_maps","unknowns","terms","places","counts","given","count","row"] ["counted_maps","unknowns","terms"] (defScope yI):=jD (-3)
def Lj(F:fu K "narrowed" "narrowed" yI f fd)(T:Txt K mg)(D:Dn P w K mg base):dk P w K mg base fU 3 f fd ["counted_maps","unknowns","terms"] (yH P w K):=by
 refine F.ok mI (λ_ _ _ _ h=>by cases h;subst_vars;rfl) (-4);obtain⟨l,u,t,ys,m,us,ts,rfl,hl,rm,Kd,nd,lu,ht,lt,st,gm,lm,k⟩:=h;have hN:=yY hr;refine{_,(aN (fK 3 mI (cl D.places_of hr (cz (pv 1)))) (aN (fK 4 mI jy) (aN (fR bS rfl (fX (pv 0)) (iY rfl (cA (iu 5 mI) (cA (iu 6 mI) g9))) (aN (fK 7 mI (cl D.image hr (sN (pv 2) (pv 3) (pv 5)))) (ba (Jf hN (pv 4) (pv 7) (dM jE (GR hN (pv 4) (pv 7) bj ⟨rfl,rfl,rfl,rfl⟩) (pv 6)) rfl)))) (ba (cN (pv 4)))))),?_}
 have ly:=bw rm;refine{_,rfl,u,us,rfl,Kd,nd,lu,λpd H1 s1 Uh aa7=>?_};intro d gE;have s2:bq H1 (upd H1 d (.dK [])):=aM gE _;have hd2:upd H1 d (.dK []) d=some (.dK []):=aw;have sJ:=s1.trans s2;have aa6:=s2 _ _ aa7;have M8:=s1.free gE;have pdd:=bf aa7 gE;generalize (upd H1 d (.dK []))=H2 at s2 hd2 sJ aa6⊢;refine{_,rfl,l,rfl,{_,iQ hl sJ},pR
  (λi Z H3=>∃(x1 x2 x3:Aap),Z=[some (.ref l),some (.ref u),some (.ref t),some (.ref pd),some (.ref d),x1,x2,x3]/\bq H H3/\H3 pd=some (.dK (placesK us))/\i<=m.length/\∃kvs,gn P w K H3 d kvs/\CU kvs=sZ (AskP.narrowed (m.take i) us ts)/\kvs.length<=i/\∀p∈kvs,∃xs,H3 p.2.1=some (.tup xs))
  {none,none,none,rfl,sJ,aa6,aP _,[],Gj hd2,rfl,ar _,λp hp=>(by cases hp)} (λi Z H3 _ ⟨_,_,_,_,sm,_⟩=>iQ hl sm) ?_ ?_}
 ·rintro i x Z H3 hx ⟨x1,x2,x3,rfl,s3,aa5,_,kvs,ha,ek,lk,ie⟩;obtain⟨y,hy,hp⟩:=Paired.at' rm hx;obtain⟨p,g,rfl,hp,hg⟩:=Jw hp (dw.same s3);have bK:=(ax.mp hy).1;obtain⟨g1,g2⟩:=gm y (aH hy);refine{p,_,rfl,hp,rfl,_,_,rfl,_,_,rfl,rfl,?_};refine{_,rfl,_,rfl,_,rfl,t,pd,g,ts,us,y.1,rfl,ht.imp (λz=>iQ z s3) (λz=>iq z s3),aa5,nd,hg,g1,lt,lu,λr H4 s4 Wk wz=>?_};have RC:gn P w K H4 d kvs:=by obtain⟨u,hu⟩:=ha.some;exact ha.tp (dw.same s4) (by rw[hu,s4 _ _ hu])
  have hk:jA K H4 (eY (AskP.image us y.1 ts)) r:=yU (bF.of wz) (GD g2 st);refine{_,rfl,d,kvs,rfl,RC,_,rfl,r,kvs,_,rfl,RC,hk,?_};rw[YS ek];refine{_,rfl,_,_,rfl,rfl,_,rfl,_,rfl,d,r,kvs,_,rfl,rfl,RC,hk,by lia,?_};refine{_,_,_,rfl,λb o e=>?_,?_,bK,_,RC.put hk,?_,?_,λp hp=>?_}
  ·rw[aE (bf e M8)];exact s4 _ _ (s3 _ _ e)
  ·rw[aE pdd];exact s4 _ _ aa5
  ·rw[XR AskP.rP ek,bh,hy];unfold AskP.narrowed;rw[cL,oZ];rfl
  ·exact aD vf ∅
  ·have ne:∀{b:Addr}{xs:Aao},H4 b=some (.tup xs)->b≠d:=λ{b xs} e z=>RC.qC xs (.inl (by rw[<-z];exact e));rcases JR hp with⟨c,hc,_,e2⟩|⟨_,e2⟩
   ·obtain⟨xs,e⟩:=ie c hc;exact{xs,by rw[e2,aE (ne (s4 _ _ e))];exact s4 _ _ e}
   ·exact{_,by rw[e2,aE (ne wz)];exact wz}
 ·rintro Z H3 ⟨x1,x2,x3,rfl,s3,_,_,kvs,ha,ek,_,ie⟩;rw[ly,aV]at ek;exact{_,rfl,k d H3 s3 M8 ⟨kvs,ha,ek,ie⟩}
def ny(h:H a=some (.lst l)):iN H a:=λxs q=>by rcases q with q|⟨o,q⟩<;>rw[h]at q<;>cases q
def iE(h:cT K H ys rs)(t:dw H H'):cT K H' ys rs:=h.keep λa xs q=>o9 q t
def wt{ts:Aah}(m:z∈ts):ts[ts.idxOf z]?=some z/\∀n,n<ts.idxOf z->ts[n]?≠some z:=by have li:=cV m;refine{by rw[au li,kP],λn hn q=>?_};obtain⟨ln,en⟩:=ax.mp q;have:=xn (p:=(·==z)) (xs:=ts) hn;rw[en]at this;simp at this
def KZ{z:Str}(m:z∈ts)(le:rs.length=ts.length):rs[ts.idxOf z]?=some (AskP.atT rs ts z):=by have li:=cV m;unfold AskP.atT;rw[cq,au ∅];rfl
structure oF(P:Program)(w:World)(K:Frag)(H0 H:Hp)(d:Addr)(kvs:List (-53))(f:Aah->Aab):Prop where
 at_:gn P w K H d kvs
 no:∀zs,valN kvs (eY zs)=none->f zs=[]
 vals:∀zs v,valN kvs (eY zs)=some v->∃l ys,v=.ref l/\H0 l=none/\H l=some (-39)/\cT K H ys (f zs)
 inj:∀zs LB l,valN kvs (eY zs)=some (.ref l)->valN kvs (eY LB)=some (.ref l)->zs=LB
def oF.same(x:oF P w K H0 H d kvs f)(s:bq H H'):oF P w K H0 H' d kvs f:=by obtain⟨u,hu⟩:=x.at_.some;refine{x.at_.tp (dw.same s) (by rw[hu,s _ _ hu]),x.no,λzs v h=>?_,x.inj};obtain⟨l,ys,h1,h2,h3,h4⟩:=x.vals zs v h;exact{l,ys,h1,h2,s _ _ h3,cM h4 s}
def oF.aax(x:oF P w K H0 H d kvs f)(hk:jA K H (eY key) b)(hn:valN kvs (eY key)=none)(h0:H0 l0=none)(hl:H l0=some (.lst []))(hd:H0 d=none)
  (fr:∀zs,valN kvs (eY zs)≠some (.ref l0)):oF P w K H0 (upd H d (.ext (DN P w d (putN kvs (eY key) b (.ref l0))))) d (putN kvs (eY key) b (.ref l0)) f:=by
 have nt:=x.at_.qC;have ne:∀{l:Addr}{ys:Aao},H l=some (-39)->l≠d:=λ{l ys} h e=>by rw[e]at h;rcases x.at_.1 with q|⟨_,q⟩<;>rw[h]at q<;>cases q
 refine{x.at_.put hk,λzs h=>?_,λzs v h=>?_,λzs LB l h h'=>?_}
 ·rw[pW]at h;split at h
  ·cases h
  ·exact x.no zs h
 ·rw[pW]at h;split at h
  ·next c=>
   cases h;refine{l0,[],rfl,h0,by rw[aE (ne hl)];exact hl,?_};rw[x.no zs (by rw[c];exact hn)];exact .nil
  ·obtain⟨l,ys,h1,h2,h3,h4⟩:=x.vals zs v h;exact{l,ys,h1,h2,by rw[aE (ne h3)];exact h3,iE h4 (dw.upd nt)}
 ·rw[pW]at h h';split at h
  ·next c=>
   cases h;split at h'
   ·next c'=>exact xM (c.trans c'.symm)
   ·exact absurd h' (fr LB)
  ·split at h'
   ·cases h';exact absurd h (fr zs)
   ·exact x.inj zs LB l h h'
def oF.push(x:oF P w K H0 H d kvs f)(hv:valN kvs (eY key)=some (.ref l))(hl:H l=some (-39))(hp:bF K H p (row.map V.str)):
  oF P w K H0 (upd H l (.lst (ys++[.ref p]))) d kvs (λzs=>if zs=key then f zs++[row]else f zs):=by
 have t:dw H (upd H l (.lst (ys++[.ref p]))):=dw.upd (ny hl);have dl:d≠l:=λe=>by rw[<-e]at hl;rcases x.at_.1 with q|⟨_,q⟩<;>rw[hl]at q<;>cases q
 refine{x.at_.tp t (aE dl),λzs h=>?_,λzs v h=>?_,x.inj}
 ·have c:¬zs=key:=λc=>by rw[c,hv]at h;cases h
  show(if zs=key then _ else _)=_;rw[az c];exact x.no zs h
 ·obtain⟨l',jC,rfl,h2,h3,h4⟩:=x.vals zs v h;by_cases c:zs=key
  ·have e:l'=l:=by rw[c,hv]at h;cases h;rfl
   subst e;rw[hl]at h3;cases h3;refine{l',_,rfl,h2,aw,?_};show cT K _ _ (if zs=key then _ else _);rw[aC c];exact(iE h4 t).snoc {p,rfl,o9 hp t}
  ·have e:l'≠l:=λe=>c (x.inj zs key l (by rw[h,e]) hv);refine{l',jC,rfl,h2,by rw[aE e];exact h3,?_};show cT K _ _ (if zs=key then _ else _);rw[az c];exact iE h4 t
def iz(P:Program)(w:World)(K:Frag)(H:Hp)(av:Aaj)(d:Addr)(f:Aah->Aab):Prop:=d∉av/\∃kvs,gn P w K H d kvs/\∀zs,(valN kvs (eY zs)=none/\f zs=[])\/∃l ys,valN kvs (eY zs)=some (.ref l)/\l∉av/\H l=some (-39)/\cT K H ys (f zs)
def iz.fr(x:iz P w K H av d f)(s:∀b u,b∉av->H b=some u->H' b=some u)(t:dw H H'):iz P w K H' av d f:=by obtain⟨h0,kvs,h1,h2⟩:=x;obtain⟨u,hu⟩:=h1.some;exact{h0,kvs,h1.tp t (by rw[hu,s _ _ h0 hu]),λzs=>(h2 zs).imp id λ⟨l,ys,a,n,b,c⟩=>{l,ys,a,n,s _ _ n b,iE c t}}
def iz.same(x:iz P w K H av d f)(s:bq H H'):iz P w K H' av d f:=x.fr (λb u _ e=>s _ _ e) (dw.same s)
def iz.more(x:iz P w K H av d f)(h:H e=none):iz P w K H (e::av) d f:=by
 obtain⟨h0,kvs,h1,h2⟩:=x;obtain⟨u,hu⟩:=h1.some;have nm:∀{b:Addr}{u:HO},H b=some u->b∉av->b∉e::av:=λ{b u} hb n z=>by
  rcases aG.mp z with z|z
  ·rw[z,h]at hb;cases hb
  ·exact n z
 exact{nm hu h0,kvs,h1,λzs=>(h2 zs).imp id λ⟨l,ys,a,n,b,c⟩=>{l,ys,a,nm b n,b,c}}
def iz.less(x:iz P w K H av d f)(h:∀b∈av',b∈av):iz P w K H av' d f:=by obtain⟨h0,kvs,h1,h2⟩:=x;exact{λz=>h0 (h _ z),kvs,h1,λzs=>(h2 zs).imp id λ⟨l,ys,a,n,b,c⟩=>{l,ys,a,λz=>n (h _ z),b,c}}
def oF.view(x:oF P w K H0 H d kvs f)(h0:H0 d=none)(ha:∀b∈av,H0 b≠none):iz P w K H av d f:={λz=>ha _ z h0,kvs,x.at_,λzs=>by
 cases e:valN kvs (eY zs)with
 |none=>exact .inl {rfl,x.no zs e}
 |some v=>
  obtain⟨l,ys,rfl,h2,h3,h4⟩:=x.vals zs v e;exact .inr {l,ys,rfl,λz=>ha _ z h2,h3,h4}}
inductive GA(P:Program)(w:World)(K:Frag)(vs:Aao)(H:Hp)(Q:VK)(_x3:XK):Prop
 |mk (l t a b:Addr) (ys:Aao) (rows:Aab) (ts known fresh:Aah) (_:vs=[.ref l,.ref t,.ref a,.ref b]) (_:bp K H l ys) (_:cT K H ys rows) (_:H t=some (.tup (ts.map V.str))) (_:bp K H a (known.map V.str)) (_:bp K H b (fresh.map V.str)) (_:rows.length<=100) (_:(∀r∈rows,r.length<=100/\tD r)) (_:ts.length<=100) (_:known.length<=100) (_:fresh.length<=100) (_:(∀z∈known,z∈ts)) (_:(∀z∈fresh,z∈ts)) (_:∀(d:Addr)(H':Hp),bq H H'->H d=none->(∀av:Aaj,(∀b∈av,H b≠none)->iz P w K H' av d (AskP.tails rows ts known fresh))->Q (.ref d) H')
structure Dt6(P:Program)(w:World)(K:Frag)(mg:Aad)(base:Heap):Prop where
 is_image:dP P w K mg base 1 "is_image" ["row","terms"] (GB K)
def PU{rs ts ks:Aah}(h:tD rs)(le:rs.length=ts.length)(hk:∀z∈ks,z∈ts):tD (ks.map (AskP.atT rs ts)):=λz hz=>by obtain⟨t,ht,rfl⟩:=aR.mp hz;exact h _ (aH (KZ (hk t ht) le))
def NF{rows:Aab}{ts known fresh r:Aah}(h:rows[i]?=some r)(im:AskP.mV r ts=true):AskP.tails (rows.take (i+1)) ts known fresh=λzs=>if zs=known.map (AskP.atT r ts)then AskP.tails (rows.take i) ts known fresh zs++[fresh.map (AskP.atT r ts)]else AskP.tails (rows.take i) ts known fresh zs:=by
 funext zs;unfold AskP.tails;rw[bh,h,cL,ff,aJ];by_cases c:zs=known.map (AskP.atT r ts)
 ·rw[aC c,List.filter_cons_of_pos (by rw[im,c];simp)];rfl
 ·rw[az c,v8 (by rw[im,gP];exactλq=>c (bo q).symm)];simp
def NG{rows:Aab}{ts known fresh r:Aah}(h:rows[i]?=some r)(im:AskP.mV r ts=false):AskP.tails (rows.take (i+1)) ts known fresh=AskP.tails (rows.take i) ts known fresh:=by funext zs;unfold AskP.tails;rw[bh,h,cL,ff,aJ,v8 (by rw[im];simp)];simp
def mR:cD ["rows","terms","known","fresh","tails","row","key"] ["rows","terms","known","fresh"] (defScope rG):=jD (-3)
def EK(F:fu K "tails_by_key" "tails_by_key" rG f fd)(T:Txt K mg)(D:Dt6 P w K mg base):dk P w K mg base fU 3 f fd ["rows","terms","known","fresh"] (GA P w K):=by
 refine F.ok mR (λ_ _ _ _ h=>by cases h;subst_vars;rfl) (-4);obtain⟨l,t,a,b,ys,rows,ts,known,fresh,rfl,hl,rm,ht,ha,hb,lr,gr,lt,lk,lf,kt,ft,k⟩:=h;have hu:=kj hr;have hN:=yY hr;refine{_,(aN (fK 4 mR jy) (aN (fR bS rfl (fX (pv 0)) (ot (i:=5) mR.nd rfl (Or.inr rfl)) (ba (gJ (AJ (cl D.is_image hr (dR (pv 5) (pv 1)))) (aN (fK 6 mR (dF fE rfl T.kE (-3) (cz (hE rfl (cU (fs:=["row","terms"]) (fr:=[5,1])) (fX (pv 2)) (λ_ _ _ _=>(dq (uR (K:=K)) (pv 1) (Jr (K:=K) nU nQ nO yS (pv 2) (cz (pv 0))) (-15))))))) (ba (lC (ox dc gc f9 qe (N5 hN (pv 4) (pv 6) (fb gN) ⟨rfl,rfl,rfl,rfl⟩) (cz (dF fE rfl T.kE (-3) (cz (hE rfl (cU (fs:=["row","terms"]) (fr:=[5,1])) (fX (pv 3)) (λ_ _ _ _=>(dq (uR (K:=K)) (pv 1) (Jr (K:=K) nU nQ nO yS (pv 2) (cz (pv 0))) (-15))))))))))) eG))) (ba (cN (pv 4))))),?_}
 have ly:ys.length=rows.length:=rm.length;intro d gE;have s1:bq H (upd H d (.dK [])):=aM gE _;refine{_,rfl,l,rfl,{_,iQ hl s1},pR (K:=K) (a:=l) (xs:=ys)
  (λi Z H2=>∃(x1 x2:Aap),Z=[some (.ref l),some (.ref t),some (-51),some (.ref b),some (.ref d),x1,x2]/\bq H H2/\i<=rows.length/\∃kvs,oF P w K H H2 d kvs (AskP.tails (rows.take i) ts known fresh)/\kvs.length<=i)
  {none,none,rfl,s1,aP _,[],{Gj aw,λzs _=>rfl,λzs v h=>(by cases h),λzs LB l h=>(by cases h)},ar _} (λi Z H2 _ ⟨_,_,_,sm,_⟩=>iQ hl sm) ?_ ?_}
 ·rintro i x Z H2 hx ⟨x1,x2,rfl,s2,_,kvs,tI,lkv⟩;obtain⟨r,E2,ra,rfl,Wi⟩:=Paired.at' (cM rm s2) hx;have bK:i<rows.length:=(ax.mp E2).1;obtain⟨g1,g2⟩:=gr r (aH E2);refine{_,rfl,_,rfl,ra,t,r,ts,rfl,Wi,s2 _ _ ht,g1,lt,λH3 s3=>{_,rfl,?_}};refine fo (-62) (-62)
  ·have le:r.length=ts.length:=by unfold AskP.mV at c;rw[bB]at c;exact bo c.1
   have zI:=s2.trans s3;have Ue:=iq Wi s3;have tI3:=tI.same s3;refine{_,rfl,a,rfl,{_,iQ ha zI},jg (K:=K) (a:=a) (xs:=known.map V.str) (λj zs H4=>H4=H3/\j<=known.length/\zs=((known.take j).map (AskP.atT r ts)).map V.str) (-28) {rfl,aP _,rfl} ?_ ?_ ?_}
   ·rintro j zs H4 hj ⟨rfl,_,rfl⟩;refine{iQ ha zI,?_};rw[ak,ak,aT];lia
   ·rintro j x zs H4 N hc ⟨rfl,hj,rfl⟩ vD;obtain⟨z,hz,rfl⟩:=js hc;have sV:j<known.length:=(ax.mp hz).1;have m:=kt z (aH hz);refine gq ?_;refine{_,rfl,_,rfl,.inr (.inl {rfl,.inl {_,zI _ _ ht}}),_,rfl,t,ts,z,ts.idxOf z,rfl,rfl,bF.of (zI _ _ ht),(wt m).1,(wt m).2,ra,_,_,V.str (AskP.atT r ts z),rfl,rfl,Ue,kF (by rw[aK,KZ m le];rfl),vD _ _ {rfl,sV,?_}};rw[bh,hz,aJ,aJ];rfl
   rintro zs H4 ⟨rfl,_,rfl⟩ q hq;rw[ak,aV];refine{q,_,rfl,.inl {bp.of aw,λkp MY=>?_}};have s5:bq H4 (upd (upd H4 q (.lst ((-20).map V.str))) kp (.tup ((-20).map V.str))):=(aM hq _).trans (aM MY _);have abg:upd (upd H4 q (.lst ((-20).map V.str))) kp (.tup ((-20).map V.str)) kp=some (.tup ((-20).map V.str)):=aw;generalize (upd (upd H4 q (.lst ((-20).map V.str))) kp (.tup ((-20).map V.str)))=H5 at s5 abg⊢;have ZF:=tI3.same s5;refine{_,rfl,d,kvs,rfl,ZF.at_,_,rfl,(-18),λl0 mB=>?_};have s6:bq H5 (upd H5 l0 (.lst [])):=aM mB _;have rA:upd H5 l0 (.lst []) l0=some (.lst []):=aw;have AF:=zI.trans (s5.trans s6);have RD:H l0=none:=(zI.trans s5).free mB;have fr6:∀zs,valN kvs (eY zs)≠some (.ref l0):=λzs h=>by obtain⟨l',_,e,_,h3,_⟩:=ZF.vals zs _ h;cases e;rw[mB]at h3;cases h3
   have LZ:=ZF.same s6;generalize (upd H5 l0 (.lst []))=H6 at s6 rA AF LZ⊢;have M5:jA K H6 (eY (-20)) kp:=yU (bF.of (s6 _ _ abg)) (PU g2 le kt);refine{kp,kvs,_,rfl,LZ.at_,M5,by lia,λv hv=>?_,λhv=>?_};rotate_left;have I7:=LZ.aax M5 hv RD rA gE fr6;have V9:valN (putN kvs (eY (-20)) kp (.ref l0)) (eY (-20))=some (.ref l0):=by rw[pW,aC rfl]
   have GN:bq H (upd H6 d (.ext (DN P w d (putN kvs (eY (-20)) kp (.ref l0))))):=λb o e=>by rw[aE (bf e gE)];exact AF _ _ e
   have lk7:(putN kvs (eY (-20)) kp (.ref l0)).length<=i+1:=aD vf ∅;have F3:bF K (upd H6 d (.ext (DN P w d (putN kvs (eY (-20)) kp (.ref l0))))) ra (r.map V.str):=o9 (iq Ue (s5.trans s6)) (dw.upd LZ.at_.qC);generalize WH:(upd H6 d (.ext (DN _ _ d _)))=H7
   replace I7:oF P w K H H7 d (putN kvs (eY (-20)) kp (.ref l0)) (AskP.tails (rows.take i) ts known fresh):=by rw[<-WH];exact I7
   replace GN:bq H H7:=by rw[<-WH];exact GN
   replace F3:bF K H7 ra (r.map V.str):=by rw[<-WH];exact F3
   clear WH;generalize (putN kvs (eY (-20)) kp (.ref l0))=kv7 at I7 V9 lk7;rotate_left;have F3:=iq Ue (s5.trans s6);have GN:=AF;have I7:=LZ;have lk7:kvs.length<=i+1:=by lia
   have V9:=hv;clear AF s6 LZ M5 rA;obtain⟨H7,rfl⟩:∃x,x=H6:=⟨_,rfl⟩;obtain⟨kv7,rfl⟩:∃x,x=kvs:=⟨_,rfl⟩;all_goals
    obtain⟨ll,lys,e7,h07,zS,MU⟩:=I7.vals _ _ V9;cases e7;have lly:lys.length<=100:=by rw[MU.length];unfold AskP.tails;rw[ak];refine aD (cj _ _) ?_;rw[aT];lia
    refine{.inl {rfl,_,bp.of zS},?_};refine{_,rfl,b,rfl,{_,iQ hb GN},jg (K:=K) (a:=b) (xs:=fresh.map V.str) (λj zs H8=>H8=H7/\j<=fresh.length/\zs=((fresh.take j).map (AskP.atT r ts)).map V.str) (-28) {rfl,aP _,rfl} ?_ ?_ ?_}
    ·rintro j zs H8 hj ⟨rfl,_,rfl⟩;refine{iQ hb GN,?_};rw[ak,ak,aT];lia
    ·rintro j x zs H8 N hc ⟨rfl,hj,rfl⟩ vD;obtain⟨z,hz,rfl⟩:=js hc;have sV:j<fresh.length:=(ax.mp hz).1;have m:=ft z (aH hz);refine gq ?_;refine{_,rfl,_,rfl,.inr (.inl {rfl,.inl {_,GN _ _ ht}}),_,rfl,t,ts,z,ts.idxOf z,rfl,rfl,bF.of (GN _ _ ht),(wt m).1,(wt m).2,ra,_,_,V.str (AskP.atT r ts z),rfl,rfl,F3,kF (by rw[aK,KZ m le];rfl),vD _ _ {rfl,sV,?_}};rw[bh,hz,aJ,aJ];rfl
    rintro zs H8 ⟨rfl,_,rfl⟩ q2 hq2;rw[ak,aV];refine{q2,_,rfl,.inl {bp.of aw,λtp C3=>?_}};have s8:=(aM hq2 (.lst ((fresh.map (AskP.atT r ts)).map V.str))).trans (aM C3 (.tup ((fresh.map (AskP.atT r ts)).map V.str)));have I9:=(I7.same s8).push (p:=tp) (row:=fresh.map (AskP.atT r ts)) V9 (s8 _ _ zS) (bF.of aw);refine{_,lys,_,rfl,rfl,s8 _ _ zS,bC ∅,?_};refine{_,_,rfl,λb o e=>?_,bK,kv7,?_,lk7}
    ·rw[aE (bf e h07)];exact s8 _ _ (GN _ _ e)
    ·rw[NF E2 c];exact I9
  ·refine{_,_,rfl,s2.trans s3,bK,kvs,?_,by lia};rw[NG E2 (by simpa using c)];exact tI.same s3
 ·rintro Z H2 ⟨x1,x2,rfl,s2,_,kvs,tI,_⟩;rw[ly,aV]at tI;exact{_,rfl,k d H2 s2 gE λav ha=>tI.view gE ha}
end
end kr
namespace L2
open PySem PySem.Spec PyProof.Rows
section
variable{P:Program}{w:World}{A:Around}{E:Aae}{v:Shared}
structure Zu(h:Heap)(z ti to i1 i2 l1 l2 T:Addr)(k:Nat):Prop where
 self:∃b,h.get? z=some (yy (rawInt T) b ti to)
 live:∃o,h.get? T=some o
 ins:IsPair h ti (.ref i1) (.ref i2)
 w1:h.IsTupleIter i1 l1 k
 w2:h.IsTupleIter i2 l2 k
def Xb{Q:Aae}(D:ZipApart z ti to i1 i2 l1 l2)(nT:T≠z)(g:Zu v.heap z ti to i1 i2 l1 l2 T k)
  (t1:v.heap.IsTuple l1 xs) (t2:v.heap.IsTuple l2 ys) (ex:xs[k]?=some x) (ey:ys[k]?=some y)
  (q:∀h',Zu h' z ti to i1 i2 l1 l2 T (k+1)->IsPair h' v.heap.objs.size x y->(∀c o,c≠z->c≠i1->c≠i2->v.heap.get? c=some o->h'.get? c=some o)->Q (.ref v.heap.objs.size) {v with heap:=h'}):
  wpAny (-30) A (-50) (λfin s'=>∃u,fin=.done (.ret u)/\Q u s') E v:=by
 obtain⟨⟨b,gs⟩,gT,gi,g1,g2⟩:=g;show wpAny _ _ (field (.ref z) 2>>=_) _ _ _;refine af (bP gs rfl rfl ?_);refine af (bP gs rfl rfl ?_);refine af (bY gi rfl ?_);refine af (LA gs gT λp1 z1 r1=>?_);refine af ?_;refine af (af (bQ ?_));refine af (uG (jq g1 r1 D.i1z) (om t1 r1 D.l1z) ex λp2 k2 r2=>ao ?_);refine ao ?_;refine af (af (bQ ?_));refine af (uG (jq (jq g2 r1 D.i2z) r2 D.i12.symm) (om (om t2 r1 D.l2z) r2 D.l2i1) ey λp3 k3 r3=>ao ?_);refine ao (ao ?_);show wpAny _ _ (newTuple [x,y]>>=_) _ _ _;refine af (lA (ao {_,rfl,?_}));have sz:p3.objs.size=v.heap.objs.size:=by rw[r3.1,r2.1,r1.1]
 have z3:=r3.extBut _ _ D.i2z.symm (r2.extBut _ _ D.i1z.symm z1);have st:∀c o,c≠z->c≠i1->c≠i2->v.heap.get? c=some o->p3.get? c=some o:=λc o m1 m2 m3 e=>r3.extBut _ _ m3 (r2.extBut _ _ m2 (r1.extBut _ _ m1 e));have j1:=jq k2 r3 D.i12;rw[sz];obtain⟨oa,ja,ra⟩:=j1;obtain⟨ob,jb,rb⟩:=k3;obtain⟨oT,gT⟩:=gT;obtain⟨o1,e1,c1,_⟩:=g1;obtain⟨o2,e2,c2,_⟩:=g2;refine q _ {{true,aq _ z3},?_,aq _ (st _ _ D.TIz D.TIi1 D.TIi2 gi),{oa,aq _ ja,ra},{ob,aq _ jb,rb}} ?_ λc o m1 m2 m3 e=>aq _ (st c o m1 m2 m3 e)
 ·by_cases n1:T=i1
  ·rw[n1];exact{oa,aq _ ja}
  ·by_cases n2:T=i2
   ·rw[n2];exact{ob,aq _ jb}
   ·exact{oT,aq _ (st _ _ nT n1 n2 gT)}
 ·have:=aF p3 (o:={cls:=.type "tuple",data:=.seq #[x,y]}) rfl;rw[sz]at this;exact this
def Y3(hh:A.handled=none)(D:ZipApart z ti to i1 i2 l1 l2)(g:Zu v.heap z ti to i1 i2 l1 l2 T k)
  (t1:v.heap.IsTuple l1 xs) (ex:xs[k]?=none)
  (q:∀h' e,(∀c o,c≠z->c≠i1->c≠i2->v.heap.get? c=some o->h'.get? c=some o)->(∃o,h'.get? e=some o/\o.cls=.type "StopIteration")->E (.ref e) {v with heap:=h'}):
  wpAny (-30) A (-50) Q E v:=by
 obtain⟨⟨b,gs⟩,gT,gi,g1,g2⟩:=g;show wpAny _ _ (field (.ref z) 2>>=_) _ _ _;refine af (bP gs rfl rfl ?_);refine af (bP gs rfl rfl ?_);refine af (bY gi rfl ?_);refine af (LA gs gT λp1 z1 r1=>?_);refine af ?_;refine af (af (bQ ?_));exact af (xO hh (jq g1 r1 D.i1z) (om t1 r1 D.l1z) ex λp2 e r2 he=>q p2 e (λc o m1 m2 m3 x=>r2 _ _ m2 (r1.extBut _ _ m1 x)) he)
def Xa(D:ZipApart z ti to i1 i2 l1 l2)(nT:T≠z)(g:Zu v.heap z ti to i1 i2 l1 l2 T k)
  (t1:v.heap.IsTuple l1 xs) (t2:v.heap.IsTuple l2 ys) (ex:xs[k]?=some x) (ey:ys[k]?=some y)
  (q:∀h',Zu h' z ti to i1 i2 l1 l2 T (k+1)->IsPair h' v.heap.objs.size x y->(∀c o,c≠z->c≠i1->c≠i2->v.heap.get? c=some o->h'.get? c=some o)->Q (some (.ref v.heap.objs.size)) {v with heap:=h'}):
  wpAny (-30) A (pyNext (.ref z)) Q E v:=by
 obtain⟨b,gs⟩:=g.self;have ty:v.TypeIs (.ref z) "zip":=⟨_,gs,rfl⟩;unfold pyNext;exact af (dZ (wpAny_callSpecial?_slot ty eM (bz eM ty j8 (Xb D nT g t1 t2 ex ey λh' b1 b2 b3=>ao (q h' b1 b2 b3)) (jJ _))))
def W9(hh:A.handled=none)(D:ZipApart z ti to i1 i2 l1 l2)(g:Zu v.heap z ti to i1 i2 l1 l2 T k)
  (t1:v.heap.IsTuple l1 xs) (ex:xs[k]?=none) (q:∀h',(∀c o,c≠z->c≠i1->c≠i2->v.heap.get? c=some o->h'.get? c=some o)->Q none {v with heap:=h'}):
  wpAny (-30) A (pyNext (.ref z)) Q E v:=by
 obtain⟨b,gs⟩:=g.self;have ty:v.TypeIs (.ref z) "zip":=⟨_,gs,rfl⟩;unfold pyNext;refine af (dZ (wpAny_callSpecial?_slot ty eM (bz eM ty j8 (Y3 hh D g t1 ex λh' e hk he=>?_) (jJ _))));obtain⟨o,ho,hc⟩:=he;exact af (f6 ⟨o,ho,hc⟩ jQ (ao (q _ hk)))
variable{prog:Program}
def YH{h0:Heap}(hA:A.handled=none)(D:ZipApart z ti to i1 i2 l1 l2)(gE:h0.get? d=none)(n1:d≠z)(n2:d≠i1)(n3:d≠i2)(n4:d≠ti)
  (pj:h0.IsTuple l1 us.toArray) (jF:h0.IsTuple l2 vs.toArray) (hp:Paired (-64) us pairs) (hv:vs=pairs.map (·.2)) (hsz:pairs.length<=sizeLine) (g:Array GenState) (dr:Drawn) (os:OsState)
  (k:∀h' tk,(∀b o,b≠z->b≠to->b≠i1->b≠i2->h0.get? b=some o->h'.get? b=some o)->h'.DictOf (bH prog w) d (merged [] pairs)->R (.ok (.ret .none)) ⟨h',g,dr,tk,os⟩):
  ∀(m i:Nat)(h:Heap)(tk:Nat)(T:Addr),us.length -i=m->i<=us.length->(∀b o,b≠z->b≠to->b≠i1->b≠i2->h0.get? b=some o->h.get? b=some o)->T≠z->Zu h z ti to i1 i2 l1 l2 T i->h.DictOf (bH prog w) d (merged [] (pairs.take i))->
   codeAny (-5) A (.builtin "dict.update.loop" {[.ref d,.ref z,rawInt i,.none],[]}) R ⟨h,g,dr,tk,os⟩:=by
 intro m;have lp:=bw hp;have V2:∀(h:Heap),(∀b o,b≠z->b≠to->b≠i1->b≠i2->h0.get? b=some o->h.get? b=some o)->h.IsTuple l1 us.toArray/\h.IsTuple l2 vs.toArray:=λh kp=>by obtain⟨o1,e1,r1⟩:=pj;obtain⟨o2,e2,r2⟩:=jF;exact{{o1,kp _ _ D.l1z D.l1TO D.l1i1 D.l1i2 e1,r1},{o2,kp _ _ D.l2z D.l2TO D.l2i1 D.l2i2 e2,r2}}
 induction m with
 |zero=>
  intro i h tk T em hi kp nT hz hd;have ei:i=us.length:=by lia
  refine dv rT ?_;unfold Builtin.«dict.update.loop»;refine af (W9 (show(A.under _).handled=none from hA) D hz (V2 h kp).1 (by rw[ei];simp) λh' hs=>?_);refine af (ao (ao ?_));rw[ei,lp,aV]at hd;obtain⟨o,es,ep,e,r⟩:=hd;exact k h' _ (λb o m1 m2 m3 m4 hb=>hs b o m1 m3 m4 (kp b o m1 m2 m3 m4 hb)) {o,es,ep,hs _ _ n1 n2 n3 e,r}
 |succ m ih=>
  intro i h tk T em hi kp nT hz hd;have bK:i<us.length:=by lia
  obtain⟨x,hx⟩:∃x,us[i]?=some x:={_,au bK};obtain⟨kv,jd,Rm⟩:=Paired.at' hp hx;have hy:vs[i]?=some kv.2:=by rw[hv,aK,jd];rfl
  refine dv rT ?_;unfold Builtin.«dict.update.loop»;obtain⟨t1,t2⟩:=V2 h kp;refine af (Xa D nT hz t1 t2 (by simpa using hx) (by simpa using hy) λh1 wu pr wy=>?_);have A2:=λb o m1 m2 m3 m4 hb=>wy b o m1 m3 m4 (kp b o m1 m2 m3 m4 hb);obtain⟨od,es,ep,ed,rd⟩:=hd;have uf:h1.DictOf (bH prog w) d (merged [] (pairs.take i)):={od,es,ep,wy _ _ n1 n2 n3 ed,rd};refine af (bQ (af (xu ?_)));unfold Builtin.Dict.pairItems;refine af (fZ ⟨_,pr,rfl⟩ ?_);rw[aC (-8)];refine af (bY pr rfl (ao ?_));have lm:(merged [] (pairs.take i)).length<=sizeLine:=by have e1:=pP [] (pairs.take i);rw[aT]at e1;simp only[d5]at e1;lia
  refine bQ (rg Rm uf λh2 hd2 kI=>?_);refine ao {jj _ (-3),?_};have st:∀b o,b≠d->h1.get? b=some o->h2.get? b=some o:=λb o n e=>(kI.2 b n).trans e;have vt:=λb o m1 m2 m3 m4 hb=>st b o (λe=>by rw[e,gE]at hb;cases hb) (A2 b o m1 m2 m3 m4 hb);obtain⟨⟨b,gs⟩,⟨oT,gT⟩,gi,⟨oa,ja,ra⟩,⟨ob,jb,rb⟩⟩:=wu;have xV:Zu h2 z ti to i1 i2 l1 l2 T (i+1):=by
   refine{{b,st _ _ (cb n1) gs},?_,st _ _ (cb n4) gi,{oa,st _ _ (cb n2) ja,ra},{ob,st _ _ (cb n3) jb,rb}};by_cases nd:T=d
   ·obtain⟨o',_,_,e',_⟩:=hd2;rw[nd];exact⟨o',e'⟩
   ·exact{oT,st _ _ nd gT}
  exact ih (i+1) h2 _ T ∅ bK vt nT xV (by rw[vk [] pairs i kv jd];exact hd2)
def UG{h0 h:Heap}(hA:A.handled=none)(D:ZipApart z ti to i1 i2 l1 l2)(gE:h0.get? d=none)(n1:d≠z)(n2:d≠i1)(n3:d≠i2)(n4:d≠ti)(n5:d≠to)
  (pj:h0.IsTuple l1 us.toArray) (jF:h0.IsTuple l2 vs.toArray) (hp:Paired (-64) us pairs) (hv:vs=pairs.map (·.2)) (hsz:pairs.length<=sizeLine) (h1l:1<=us.length) (g:Array GenState) (dr:Drawn) (os:OsState)
  (k:∀h' tk,(∀b o,b≠z->b≠to->b≠i1->b≠i2->h0.get? b=some o->h'.get? b=some o)->h'.DictOf (bH prog w) d (merged [] pairs)->R (.ok (.ret .none)) ⟨h',g,dr,tk,os⟩)
  (kp:∀b o,b≠z->b≠to->b≠i1->b≠i2->h0.get? b=some o->h.get? b=some o) (hz:IsZip h z ti to .none) (hi:IsPair h ti (.ref i1) (.ref i2)) (ho:∃a b,IsPair h to a b) (j1:h.IsTupleIter i1 l1 0) (j2:h.IsTupleIter i2 l2 0) (hd:h.DictOf (bH prog w) d []):
   codeAny (-5) A (.builtin "dict.update.loop" {[.ref d,.ref z,rawInt 0,.none],[]}) R ⟨h,g,dr,tk,os⟩:=by
 obtain⟨x,hx⟩:∃x,us[0]?=some x:={_,au ∅};obtain⟨kv,jd,Rm⟩:=Paired.at' hp hx;have hy:vs[0]?=some kv.2:=by rw[hv,aK,jd];rfl
 have t1:h.IsTuple l1 us.toArray:=by obtain⟨o1,e1,r1⟩:=pj;exact{o1,kp _ _ D.l1z D.l1TO D.l1i1 D.l1i2 e1,r1}
 have t2:h.IsTuple l2 vs.toArray:=by obtain⟨o2,e2,r2⟩:=jF;exact{o2,kp _ _ D.l2z D.l2TO D.l2i1 D.l2i2 e2,r2}
 refine dv rT ?_;unfold Builtin.«dict.update.loop»;obtain⟨a,b,ho⟩:=ho;have lz:=aI hz;refine af (Lz {D.TITO,D.i12,D.l1TO,D.l2TO} {hz,hi,⟨a,b,ho⟩,j1,j2} t1 t2 (by simpa using hx) (by simpa using hy) λh1 adE a5 wy=>?_);obtain⟨a1,_,_,a3,a4⟩:=adE;obtain⟨od,es,ep,ed,rd⟩:=hd;have uf:h1.DictOf (bH prog w) d []:={od,es,ep,wy _ _ n1 n5 n2 n3 ed,rd};refine af (bQ (af (xu ?_)));unfold Builtin.Dict.pairItems;refine af (fZ ⟨_,a5,rfl⟩ ?_);rw[aC (-8)];refine af (bY a5 rfl (ao ?_));refine bQ (rg Rm uf λh2 hd2 kI=>?_);refine ao {jj _ (-3),?_};have st:∀b o,b≠d->h1.get? b=some o->h2.get? b=some o:=λb o n e=>(kI.2 b n).trans e;obtain⟨oa,ja,ra⟩:=a3;obtain⟨ob,jb,rb⟩:=a4;have xV:Zu h2 z ti to i1 i2 l1 l2 h.objs.size 1:=by
  refine{{false,st _ _ (cb n1) a1},?_,st _ _ (cb n4) (wy _ _ D.TIz D.TITO D.TIi1 D.TIi2 hi),{oa,st _ _ (cb n2) ja,ra},{ob,st _ _ (cb n3) jb,rb}};by_cases nd:h.objs.size=d
  ·obtain⟨o',_,_,e',_⟩:=hd2;rw[nd];exact⟨o',e'⟩
  ·exact{_,st _ _ nd a5}
 exact YH hA D gE n1 n2 n3 n4 pj jF hp hv hsz g dr os k (us.length -1) 1 h2 _ h.objs.size rfl ∅ (λb o m1 m2 m3 m4 hb=>st b o (λe=>by rw[e,gE]at hb;cases hb) (wy b o m1 m2 m3 m4 (kp b o m1 m2 m3 m4 hb))) (bA lz) xV (by rw[vk [] pairs 0 kv jd];exact hd2)
def abw{h0 h:Heap}(hA:A.handled=none)(D:ZipApart z ti to i1 i2 l1 l2)(gE:h0.get? d=none)(n1:d≠z)(n2:d≠i1)(n3:d≠i2)(n4:d≠ti)(n5:d≠to)
  (pj:h0.IsTuple l1 us.toArray) (jF:h0.IsTuple l2 vs.toArray) (hp:Paired (-64) us pairs) (hv:vs=pairs.map (·.2)) (hsz:pairs.length<=sizeLine) (g:Array GenState) (dr:Drawn) (os:OsState)
  (k:∀h' tk,(∀b o,b≠z->b≠to->b≠i1->b≠i2->h0.get? b=some o->h'.get? b=some o)->h'.DictOf (bH prog w) d (merged [] pairs)->R (.ok (.ret .none)) ⟨h',g,dr,tk,os⟩)
  (kp:∀b o,b≠z->b≠to->b≠i1->b≠i2->h0.get? b=some o->h.get? b=some o) (hz:IsZip h z ti to .none) (hi:IsPair h ti (.ref i1) (.ref i2)) (ho:∃a b,IsPair h to a b) (j1:h.IsTupleIter i1 l1 0) (j2:h.IsTupleIter i2 l2 0) (hd:h.DictOf (bH prog w) d []):
   codeAny (-5) A (.builtin "dict.update.loop" {[.ref d,.ref z,rawInt 0,.none],[]}) R ⟨h,g,dr,tk,os⟩:=by
 by_cases h1l:1<=us.length
 ·exact UG hA D gE n1 n2 n3 n4 n5 pj jF hp hv hsz h1l g dr os k kp hz hi ho j1 j2 hd
 ·have lp:=bw hp;have e1:us=[]:=fg.mp ∅;have e2:pairs=[]:=fg.mp ∅;subst e1 e2;have t1:h.IsTuple l1 ([]:Aag).toArray:=by obtain⟨o1,e1,r1⟩:=pj;exact{o1,kp _ _ D.l1z D.l1TO D.l1i1 D.l1i2 e1,r1}
  have t2:h.IsTuple l2 vs.toArray:=by obtain⟨o2,e2,r2⟩:=jF;exact{o2,kp _ _ D.l2z D.l2TO D.l2i1 D.l2i2 e2,r2}
  refine dv rT ?_;unfold Builtin.«dict.update.loop»;obtain⟨a,b,ho⟩:=ho;refine af (Ly (show(A.under _).handled=none from hA) {D.TITO,D.i12,D.l1TO,D.l2TO} {hz,hi,⟨a,b,ho⟩,j1,j2} t1 (-9) λh' hs=>?_);refine af (ao (ao ?_));obtain⟨o,es,ep,e,r⟩:=hd;exact k h' _ (λb o m1 m2 m3 m4 hb=>hs b o m1 m2 m3 m4 (kp b o m1 m2 m3 m4 hb)) {o,es,ep,hs _ _ n1 n5 n2 n3 e,r}
def UH(hA:A.handled=none)(D:ZipApart z ti to i1 i2 l1 l2)
  (pj:s.heap.IsTuple l1 us.toArray) (jF:s.heap.IsTuple l2 vs.toArray) (hp:Paired (-64) us pairs) (hv:vs=pairs.map (·.2)) (hsz:pairs.length<=sizeLine)
  (hz:IsZip s.heap z ti to .none) (hi:IsPair s.heap ti (.ref i1) (.ref i2)) (ho:∃a b,IsPair s.heap to a b) (j1:s.heap.IsTupleIter i1 l1 0) (j2:s.heap.IsTupleIter i2 l2 0)
  (k:∀h' tk,(∀b o,b≠z->b≠to->b≠i1->b≠i2->s.heap.get? b=some o->h'.get? b=some o)->h'.DictOf (bH prog w) s.heap.objs.size (merged [] pairs)->Q (-12) {s with heap:=h',toks:=tk}):
  wpAny (-5) A (call (.type "dict") [.ref z]) Q E s:=by
 refine yi (Q₁:=λv1 z1=>v1=.ref s.heap.objs.size/\z1={s with heap:=s.heap.push {cls:=.type "dict",data:=.dict #[]}}) F.kt_called_dict (zx _) Cy (kt_code_dict_new _ ⟨rfl,rfl⟩) ?_;rintro v1 z1 ⟨rfl,rfl⟩;obtain⟨ko,g,dr,tk,os⟩:=s;have DO:(ko.push {cls:=.type "dict",data:=.dict #[]}).DictOf (bH prog w) ko.objs.size []:=wK ko;have wu:(ko.push {cls:=.type "dict",data:=.dict #[]}).get? z=some (yy .none false ti to):=aq _ hz;refine{DO.typeIs,BP _ _,?_};unfold Builtin.«dict.__init__»;refine af ?_;unfold Builtin.Dict.selfAndRest;refine af (jm DO.typeIs (ao ?_));show wpAny (-5) _ (Builtin.Dict.updateFrom "dict.__init__" ko.objs.size (.ref z) [] .none) _ _ _;unfold Builtin.Dict.updateFrom;refine af (fZ ⟨_,wu,rfl⟩ ?_);rw[aC (-8)];refine af (YG wu hA λh2 tk2 e ne=>?_);rw[aC (-8)];refine af (fQ ?_);have kp:∀b o,ko.get? b=some o->h2.get? b=some o:=λb o hb=>ne.keeps _ _ (aq _ hb);have xV:=kp _ _ hz;refine af (lO xV ?_);have hd2:h2.DictOf (bH prog w) ko.objs.size []:=by obtain⟨o',es,ep,h',r⟩:=DO;exact{o',es,ep,ne.keeps _ _ h',r}
 refine ao {jj _ (-3),?_};obtain⟨a,b,ho⟩:=ho;obtain⟨oa,ja,ra⟩:=j1;obtain⟨ob,jb,rb⟩:=j2;have nz:∀{c:Addr}{o:Obj},ko.get? c=some o->ko.objs.size≠c:=λe=>bA (aI e);exact abw (show A.in1.handled=none from hA) D (iB (ar _)) (nz hz) (nz ja) (nz jb) (nz hi) (nz ho) pj jF hp hv hsz g dr os (λh' Ep CV qh=>{rfl,k h' Ep CV qh}) (λb o _ _ _ _ hb=>kp b o hb) xV (kp _ _ hi) {a,b,kp _ _ ho} {oa,kp _ _ ja,ra} {ob,kp _ _ jb,rb} hd2
inductive ab2(K:Frag)(Q:VK)(vs:Aao)(H1:Hp):Prop
 |mk (l1 l2:Addr) (ks:List Key) (ys:Aao) (_:vs=[.ref l1,.ref l2]) (_:bF K H1 l1 (ks.map kV)) (_:bF K H1 l2 ys) (_:ks.length=ys.length) (_:∀d,H1 d=none->Q (.ref d) (upd H1 d (.dK (iO [] (ks.zip ys)))))
def ac3(K:Frag)(ta:TA):TE:=λZ H Q=>ta Z H λvs H1=>ab2 K Q vs H1
variable{X:Cx}
def Jp(hg:Gl X "dict")(hm:X.mg "dict"=none)(Wu:Gl X "zip")(Rh:X.mg "zip"=none)(hA:X.A.handled=none)(ha:PA X [a,b] ta)
  (hs:starEach [a,b] X.env=[(false,eval a X.env),(false,eval b X.env)]:=by rfl) (kI:starEach [b] X.env=[(false,eval b X.env)]:=by rfl) (Kf:starEach [.Call (.Name "zip" p2) [a,b] [] Ji] X.env=[(false,eval (.Call (.Name "zip" p2) [a,b] [] Ji) X.env)]:=by rfl):
  PE X (.Call (.Name "dict" p) [.Call (.Name "zip" p2) [a,b] [] Ji] [] pos) (ac3 X.K ta):=by
 intro pins s Z H Q I h;refine FH (qE I hg hm (by decide+kernel:bootBuiltins "dict"=some (.type "dict")) (d9 ?_ Kf rfl));rw[Kf];refine gk (FH (qE I Wu Rh boot_zip (d9 (qu (ha Ji pins s Z H _ I h) λus s1 vs H1 I1 r1 q1=>?_) (by rw[hs,kI]) (by rw[kI];rfl))));obtain⟨l1,l2,ks,ys,e,h1,h2,MZ,q⟩:=q1;subst e;obtain⟨u1,u2,rfl,IV,EC⟩:=vals2 r1;cases IV;cases EC;obtain⟨EX,IU,EG,wu⟩:=I1.tuple h1;obtain⟨A6,IT,AL,xV⟩:=I1.tuple h2;obtain⟨pairs,wA,iU,iw,Hg⟩:=LG IU IT MZ;have b1:l1<s1.heap.objs.size:=by obtain⟨o,e,_⟩:=id EG;exact aI e
 have b2:l2<s1.heap.objs.size:=by obtain⟨o,e,_⟩:=id AL;exact aI e
 have lz:ks.length<=sizeLine:=by rw[ak]at wu;exact wu
 refine LC (show s1.heap.IsTuple l1 EX.toArray from EG) (show s1.heap.IsTuple l2 A6.toArray from AL) λh' n en zt kp=>?_;subst en;have I2:=I1.kept (t':=s1.toks) kp;refine k9 ?_;have t1:h'.IsTuple l1 EX.toArray:=by obtain⟨o,e,r⟩:=id EG;exact{o,kp _ _ e,r}
 have t2:h'.IsTuple l2 A6.toArray:=by obtain⟨o,e,r⟩:=id AL;exact{o,kp _ _ e,r}
 have l0:EX.length=ks.length:=by have:=IU.length;rw[ak]at this;exact this.symm
 refine UH hA (zipApart_new b1 b2) t1 t2 wA iU ∅ zt.self zt.ins zt.outs zt.w1 zt.w2 λh2 tk vt hd=>?_;have rel:=KV.merge iw .nil;have lzm:(iO [] (ks.zip ys)).length<=sizeLine:=by have e1:=pP [] pairs;rw[rel.length];simp only[d5]at e1;lia
 have kpA:∀c o,s1.heap.get? c=some o->h2.get? c=some o:=λc o e=>by have lc:=aI e;exact vt c o (aL (a9 lc (d7 _ _))) (aL (a9 lc (d7 _ _))) (aL lc) (aL (a9 lc (d7 _ _))) (kp c o e)
 have ld:s1.heap.objs.size<=h'.objs.size:=by exact aD (d7 _ 4) (bu (aI zt.self))
 exact{.ref h'.objs.size,_,I1.laid kpA ld (Bm lzm (dB.mpr (cb (aL (a9 I1.big ld)))) rel hd),rfl,q _ (I1.br.fresh ld)}
inductive XJ(x:V)(vs:Aao)(H:Hp)(Q:VK):Prop
 |mk (a b:Addr) (kvs more:List (Key×V)) (_:x=.ref a) (_:vs=[.ref b]) (_:a≠b) (_:H a=some (.dK kvs)) (_:H b=some (.dK more)) (_:kvs.length+more.length<=sizeLine) (_:Q .cE (upd H a (.dK (iO kvs more))))
def QB:Sf X "dict.update" XJ:=by
 intro pins s Z H x vs v us Q I rx rv h;obtain⟨a,b,kvs,more,rfl,rfl,ne,hH,hb,hl,q⟩:=h;cases rx;obtain⟨u,rfl,r1⟩:=rv.one;cases r1;obtain⟨zz,hd,ws,rel,dd⟩:=oB I.br hH;obtain⟨U4,hd2,ws2,ZZ,Nl⟩:=oB I.br hb;refine qQ vM dd.typeIs PySem.F.entry_dict_update (PySem.F.args_dict_update_2 _ _) (meets_dict_update (bH X.prog X.w) a b ne hd2) {ws,ws2,dd,Nl,by rw[<-rel.length,<-ZZ.length];exact hl,λh' vG _ hs=>?_};have he:∃o,h'.get? a=some o:=let⟨o,_,_,ho,_⟩:=vG;⟨o,ho⟩
 have hlen:=aD (my more kvs) hl;exact{.cE,_,uT I (by rw[hH];exact True.intro) hs he (Bm hlen hd (ZZ.merge rel) vG),rfl,q}
end
end L2
namespace kr
open PySem PySem.Spec PyProof.Rows L2 zZ gw
seal L2.PE L2.PT L2.PW L2.PA L2.PS L2.mY L2.PI L2.PO L2.BF L2.PG L2.Aa
section
variable{P:Program}{w:World}{K:Frag}{mg:Aad}{base:Heap}
theorem wa:∀{more kvs:List (Key×V)},(fk (iO kvs more) k).isSome=true↔(fk kvs k).isSome=true\/k∈more.map (·.1)
 |[],kvs=>{.inl,λh=>h.elim id λz=>by cases z}
 |x::more,kvs=>by
  show(fk (iO (putK kvs x.1 x.2) more) k).isSome=true↔_;rw[wa (more:=more) (kvs:=putK kvs x.1 x.2),Ss,aU,aG];by_cases c:k=x.1
  ·rw[aC c];exact{λ_=>.inr (.inl c),λ_=>.inl rfl}
  ·rw[az c];exact{λh=>h.imp id .inr,λh=>h.imp id λz=>z.resolve_left c}
def J0{zs:Aah}:(Sum.inr z:Key)∈((zs.map (Sum.inr:Str->Key)).zip (zs.map V.str)).map (·.1)↔z∈zs:=by rw[List.map_fst_zip (-9),aR];exact{λ⟨y,h,e⟩=>by cases e;exact h,λh=>⟨z,h,rfl⟩}
def ML{zs:Aah}:(zs.map (Sum.inr:Str->Key)).map kV=zs.map V.str:=by rw[bW];rfl
def abJ(H:Hp)(d:Addr)(p:Str->Prop):Prop:=∃kvs,H d=some (.dK kvs)/\∀z,(fk kvs (Sum.inr z:Key)).isSome=true↔p z
def sD(h:mG H v a)(s:bq H H'):mG H' v a:=by obtain⟨p,t,e,h1,h2⟩:=h;exact{p,t,e,s _ _ h1,s _ _ h2}
def Bx(h:fh H vs as)(s:bq H H'):fh H' vs as:=by
 induction h with
 |nil=>exact .nil
 |cons h _ ih=>exact .cons (sD h s) ih
inductive IF(K:Frag)(vs:Aao)(H:Hp)(Q:VK)(_x3:XK):Prop
 |mk (h l:Addr) (hz:Aah) (ys:Aao) (ats:Aaa) (_:vs=[.ref h,.ref l]) (_:bF K H h (hz.map V.str)) (_:bp K H l ys) (_:fh H ys ats) (_:hz.length<=100) (_:ats.length<=100) (_:(∀a∈ats,a.2.length<=100)) (_:∀(d:Addr)(H':Hp),bq H H'->H d=none->abJ H' d (λz=>z∈hz\/∃a∈ats,z∈a.2)->Q (.ref d) H')
def mS:cD ["head","atoms","needed","name","terms"] ["head","atoms"] (defScope rH):=jD (-3)
def EL(F:fu K "needed_terms" "needed_terms" rH f fd)(T:Txt K mg):dk P w K mg base fU 1 f fd ["head","atoms"] (IF K):=by
 refine F.ok mS (λ_ _ _ _ h=>by cases h;subst_vars;rfl) (-4);obtain⟨h,l,hz,ys,ats,rfl,hh,hl,rm,lh,la,lt,k⟩:=h;have hu:=kj hr;refine{_,(aN (fK 2 mS (Jp rfl T.AX rfl T.ES hr.hd (dR (pv 0) (pv 0)))) (aN (fR bS rfl (fX (pv 1)) (iY rfl (cA (iu 3 mS) (cA (iu 4 mS) g9))) (ba (lC (ox iM vM PySem.F.type_dict_update QB (pv 2) (cz (Jp rfl T.AX rfl T.ES hr.hd (dR (pv 4) (pv 4)))))))) (ba (cN (pv 2))))),?_}
 have ly:ys.length=ats.length:=bw rm;refine{_,rfl,_,rfl,h,h,hz.map Sum.inr,hz.map V.str,rfl,by rw[ML];exact hh,hh,by rw[ak,ak],λd gE=>?_};have s1:=aM gE (.dK (iO [] ((hz.map (Sum.inr:Str->Key)).zip (hz.map V.str))));refine{_,rfl,l,rfl,{_,iQ hl s1},pR (K:=K) (a:=l) (xs:=ys)
  (λi Z H2=>∃(x1 x2:Aap),Z=[some (.ref h),some (.ref l),some (.ref d),x1,x2]/\bq H H2/\i<=ats.length/\∃kvs,H2 d=some (.dK kvs)/\kvs.length<=100+100*i/\∀z,(fk kvs (Sum.inr z:Key)).isSome=true↔(z∈hz\/∃a∈ats.take i,z∈a.2))
  {none,none,rfl,s1,aP _,_,aw,?_,?_} (λi Z H2 _ ⟨_,_,_,sm,_⟩=>iQ hl sm) ?_ ?_}
 ·refine aD (my _ _) ?_;rw[qZ,ak,ak,d5];lia
 ·intro z;rw[wa,J0];exact{λh=>h.elim (λz=>by cases z) .inl,λh=>h.elim .inr λ⟨a,ha,_⟩=>by cases ha}
 ·rintro i x Z H2 hx ⟨x1,x2,rfl,s2,_,kvs,hd2,lk,hv⟩;obtain⟨a,ha,p,t,rfl,hp,ht⟩:=Paired.at rm hx;have bK:i<ats.length:=(ax.mp ha).1;have l1:=lt a (aH ha);refine{p,_,rfl,bF.of (s2 _ _ hp),rfl,_,_,rfl,_,_,rfl,rfl,?_};have zP:bF K H2 t (a.2.map V.str):=bF.of (s2 _ _ ht);refine{_,rfl,.inr (.inr (.inl {rfl,.inl ⟨_,hd2⟩})),_,rfl,_,rfl,t,t,a.2.map Sum.inr,a.2.map V.str,rfl,by rw[ML];exact zP,zP,by rw[ak,ak],λe wF=>?_};have s3:=aM wF (.dK (-54));have lm:(-54).length<=100:=by refine aD (my _ _) ?_;rw[qZ,ak,ak,d5];lia
  refine{d,e,kvs,_,rfl,rfl,bf hd2 wF,s3 _ _ hd2,aw,bu (eJ (Nat.add_le_add lk lm) ?_),?_}
  ·exact eJ (show 100+100*i+100<=20000 by lia) (-8)
  refine{_,_,rfl,λb o q=>?_,bK,_,aw,?_,λz=>?_}
  ·rw[aE (bf q gE)];exact s3 _ _ (s2 _ _ q)
  ·refine aD (my _ _) ?_;lia
  ·rw[wa,hv,bh,ha,cL];have e1:(Sum.inr z:Key)∈(-54).map (·.1)↔z∈a.2:=by
    rw[<-J0 (zs:=a.2)];have:=wa (k:=(Sum.inr z:Key)) (more:=(a.2.map (Sum.inr:Str->Key)).zip (a.2.map V.str)) (kvs:=[]);refine Iff.trans {λh=>?_,λh=>?_} (this.trans {λh=>h.elim (λz=>by cases z) id,.inr})
    ·cases q:fk (-54) (Sum.inr z:Key)with
     |none=>exact absurd h (Su q)
     |some _=>rfl
    ·obtain⟨v,q⟩:=jX.mp h;exact Xn q
   rw[e1];constructor
   ·rintro((h|⟨b,hb,h⟩)|h)
    ·exact .inl h
    ·exact .inr {b,gz _ hb,h}
    ·exact .inr {a,cc _ aA,h}
   ·rintro(h|⟨b,hb,h⟩)
    ·exact .inl (.inl h)
    ·rcases bg.mp hb with hb|hb
     ·exact .inl (.inr ⟨b,hb,h⟩)
     ·cases ay.mp hb;exact .inr h
 ·rintro Z H2 ⟨x1,x2,rfl,s2,_,kvs,hd2,_,hv⟩;rw[ly,aV]at hv;exact{_,rfl,k d H2 s2 gE ⟨kvs,hd2,hv⟩}
end
end kr
namespace L2
open PySem PySem.Spec PyProof.Rows
section
variable{P:Program}{w:World}{A:Around}{E:Aae}{s:Shared}{it d:Addr}{i ep:Nat}{es:Array DictEntry}{o:Obj}
abbrev oK(f0:Value)(b:Bool)(d:Addr)(i n ep:Nat)(ok ov:Value):Obj:={cls:=.type "dict_itemiterator",dict:=none,data:=.fields #[f0,.bool b,.ref d,.int i 0,.int n 0,.int ep 0,ok,ov],slots:=#[]}
def RI(h:Heap)(it d:Addr)(i n ep:Nat):Prop:=∃f0 b ok ov,h.get? it=some (oK f0 b d i n ep ok ov)/\(f0=.none\/∃a:Nat,f0=rawInt a)
def RI.ty(x:RI s.heap it d i es.size ep):s.TypeIs (.ref it) "dict_itemiterator":=by obtain⟨_,_,_,_,e,_⟩:=x;exact⟨_,e,rfl⟩
def RI.jx(x:RI h it d i n ep)(k:∀o,h.get? it=some o->h'.get? it=some o):RI h' it d i n ep:=by obtain⟨f0,b,ok,ov,e,c⟩:=x;exact{f0,b,ok,ov,k _ e,c}
def XH(g:s.heap.get? it=some (oK f0 b d i n ep ok ov))(hf:f0=.none\/∃a:Nat,f0=rawInt a)(q1:Q true s)
  (q2:∀h',h'.get? it=some (oK f0 true d i n ep ok ov)->Heap.SameBut it s.heap h'->Q false {s with heap:=h'}):wpAny (-30) A (Builtin.Dict_items.ownedTupleIsFree (.ref it)) Q E s:=by
 unfold Builtin.Dict_items.ownedTupleIsFree;rcases hf with rfl|⟨a,rfl⟩
 ·exact af (bP g rfl rfl (ao q1))
 ·refine af (bP g rfl rfl ?_);refine af (CC ?_);rw[cZ];cases s.heap.get? a with
  |none=>exact ao q1
  |some u=>
   refine af (bP g rfl rfl ?_);cases b with
   |true=>exact ao (q2 s.heap g (Cv _ _))
   |false=>exact af (cu g (-9) λh1 g1 s1=>ao (q2 h1 g1 s1))
def Mi{Q:Aae}(ie:RI s.heap it d i es.size ep)(ho:s.heap.get? d=some o)(hd:o.data=.dict es ep)(hi:i<es.size)
  (q:∀h',RI h' it d (i+1) es.size ep->h'.get? s.heap.objs.size=some {cls:=.type "tuple",data:=.seq #[es[i].key,es[i].val]}->(∀b x,b≠it->s.heap.get? b=some x->h'.get? b=some x)->h'.objs.size=s.heap.objs.size+1->Q (-12) {s with heap:=h'}):
  wpAny (-30) A (Builtin.«dict_itemiterator.__next__» {[.ref it],[]}) (λfin s'=>∃u,fin=.done (.ret u)/\Q u s') E s:=by
 have hT:=ie.ty;obtain⟨f0,b,ok,ov,hit,hf⟩:=ie;obtain⟨hp,g,dr,tk,os⟩:=s;refine af (ao (af (af (af (ik hT (ao ?_))))));refine af (iP hit rfl ?_);have own:Builtin.Dict_items.ownsTuple "dict_itemiterator"=true:=by decide
 show wpAny _ _ (if(-73)=true then _ else _) _ _ _;rw[az (show ¬((-73)=true)from aW)];refine af (ao (af (gF ho hd ?_)));rw[az (-9)];refine af (ao (af (kH ho hd ?_)));rw[az (-9)];refine ao ?_;simp only[show ¬((i:Int)<0)from by lia,d6,cZ,bD hi];refine af (af (ik hT (ao (af (o7 hT ?_)))));show wpAny _ _ (setField (.ref it) 3 (rawInt ((i:Int)+1))>>=_) _ _ ⟨hp,g,dr,tk,os⟩;refine af (cu hit (-9) λh1 e1 s1=>?_);have e1:h1.get? it=some (oK f0 b d (i+1) es.size ep ok ov):=by
  have e:((i+1:Nat):Int)=(i:Int)+1:=by lia
  unfold oK;rw[e];simpa[rawInt]using e1
 have hT1:Shared.TypeIs ⟨h1,g,dr,tk,os⟩ (.ref it) "dict_itemiterator":=⟨_,e1,rfl⟩;refine af (bQ (af (o7 hT1 (af (o7 hT1 ?_)))));unfold Builtin.Dict_items.pairFromOwner;refine af (lA ?_);have lt:=aI hit;have z1:=s1.1;obtain⟨h2,E8⟩:∃h2,h2=h1.push {cls:=.type "tuple",data:=.seq #[es[i].key,es[i].val]}:=⟨_,rfl⟩;have e2:h2.get? it=some (oK f0 b d (i+1) es.size ep ok ov):=by rw[E8];exact aq _ e1
 have t2:h2.get? hp.objs.size=some {cls:=.type "tuple",data:=.seq #[es[i].key,es[i].val]}:=by rw[E8,<-z1];exact aF _ rfl
 have k2:∀b x,b≠it->hp.get? b=some x->h2.get? b=some x:=λb x nb e=>by rw[E8];exact aq _ (s1.extBut b x nb e)
 have z2:h2.objs.size=hp.objs.size+1:=by rw[E8,cB,z1]
 rw[<-E8,z1];refine af (XH e2 hf ?_ λh3 e3 s3=>?_)
 ·simp only[lE];refine af (bP e2 rfl rfl (af (bP e2 rfl rfl ?_)));refine af (cu e2 (-9) λh3 e3 s3=>?_);refine af (cu e3 (-9) λh4 e4 s4=>?_);refine af (cu e4 (-9) λh5 e5 s5=>?_);refine af (cu e5 (-9) λh6 e6 s6=>?_);have up:=λb x nb e=>s6.extBut b x nb (s5.extBut b x nb (s4.extBut b x nb (s3.extBut b x nb e)));exact af (mH (ao (ao {_,rfl,q h6 {_,_,_,_,e6,.inr ⟨_,rfl⟩} (up _ _ (bA lt) t2) (λb x nb e=>up b x nb (k2 b x nb e)) (by rw[s6.1,s5.1,s4.1,s3.1,z2])})))
 ·have s3:=s3;exact ao (ao {_,rfl,q h3 ⟨_,_,_,_,e3,hf⟩ (s3.extBut _ _ (bA lt) t2) (λb x nb e=>s3.extBut b x nb (k2 b x nb e)) (by rw[s3.1,z2])})
def P9(hh:A.handled=none)(ie:RI s.heap it d i es.size ep)(ho:s.heap.get? d=some o)(hd:o.data=.dict es ep)(hi:es.size<=i)
  (q:∀h' e,(∀b x,b≠it->s.heap.get? b=some x->h'.get? b=some x)->(∃o,h'.get? e=some o/\o.cls=.type "StopIteration")->E (.ref e) {s with heap:=h'}):
  wpAny (-30) A (Builtin.«dict_itemiterator.__next__» {[.ref it],[]}) Q E s:=by
 have hT:=ie.ty;obtain⟨f0,b,ok,ov,hit,hf⟩:=ie;refine af (ao (af (af (af (ik hT (ao ?_))))));refine af (iP hit rfl ?_);show wpAny _ _ (if(-73)=true then _ else _) _ _ s;rw[az (show ¬((-73)=true)from aW)];refine af (ao (af (gF ho hd ?_)));rw[az (-9)];refine af (ao (af (kH ho hd ?_)));rw[az (-9)];refine ao ?_;simp only[show ¬((i:Int)<0)from by lia,d6,cZ,kT hi];refine af (af (ik hT (ao ?_)));show wpAny _ _ (setField (.ref it) 2 .none>>=_) _ _ s;refine af (fH hit rfl (-9) ?_);exact Tb.BS hh λh' e kp he=>q h' e (λb x nb g=>kp b x ((bO _ _ (cb nb)).trans g)) he
def XG(ie:RI s.heap it d i es.size ep)(ho:s.heap.get? d=some o)(hd:o.data=.dict es ep)(hi:i<es.size)
  (q:∀h',RI h' it d (i+1) es.size ep->h'.get? s.heap.objs.size=some {cls:=.type "tuple",data:=.seq #[es[i].key,es[i].val]}->(∀b x,b≠it->s.heap.get? b=some x->h'.get? b=some x)->h'.objs.size=s.heap.objs.size+1->Q (some (-12)) {s with heap:=h'}):
  wpAny (-30) A (pyNext (.ref it)) Q E s:=by
 unfold pyNext;exact af (dZ (wpAny_callSpecial?_slot ie.ty b9 (bz b9 ie.ty gf (Mi ie ho hd hi λh' a b c e=>ao (q h' a b c e)) (fW _))))
def P8(ie:RI s.heap it d i es.size ep)(ho:s.heap.get? d=some o)(hd:o.data=.dict es ep)(hi:i<es.size)
  (q:∀h',RI h' it d (i+1) es.size ep->h'.get? s.heap.objs.size=some {cls:=.type "tuple",data:=.seq #[es[i].key,es[i].val]}->(∀b x,b≠it->s.heap.get? b=some x->h'.get? b=some x)->h'.objs.size=s.heap.objs.size+1->Q (-12) {s with heap:=h'}):
  wpAny (-30) A (Builtin.SmallTypes.nextOf (.ref it)) Q E s:=by
 unfold Builtin.SmallTypes.nextOf;exact af (wpAny_callSpecial?_slot ie.ty b9 (bz b9 ie.ty gf (Mi ie ho hd hi λh' a b c e=>ao (q h' a b c e)) (fW _)))
def XE(hh:A.handled=none)(ie:RI s.heap it d i es.size ep)(ho:s.heap.get? d=some o)(hd:o.data=.dict es ep)(hi:es.size<=i)
  (q:∀h',(∀b x,b≠it->s.heap.get? b=some x->h'.get? b=some x)->Q none {s with heap:=h'}):wpAny (-30) A (pyNext (.ref it)) Q E s:=by
 unfold pyNext;refine af (dZ (wpAny_callSpecial?_slot ie.ty b9 (bz b9 ie.ty gf (P9 (show A.in1.handled=none from hh) ie ho hd hi λh' e kp ⟨oe,he,ce⟩=>?_) (fW _))));exact af (f6 ⟨oe,he,ce⟩ jQ (ao (q _ kp)))
def P7(hh:A.handled=none)(ie:RI s.heap it d i es.size ep)(ho:s.heap.get? d=some o)(hd:o.data=.dict es ep)(hi:es.size<=i)
  (q:∀h' e,(∀b x,b≠it->s.heap.get? b=some x->h'.get? b=some x)->(∃o,h'.get? e=some o/\o.cls=.type "StopIteration")->E (.ref e) {s with heap:=h'}):wpAny (-30) A (Builtin.SmallTypes.nextOf (.ref it)) Q E s:=by
 unfold Builtin.SmallTypes.nextOf;exact af (wpAny_callSpecial?_slot ie.ty b9 (bz b9 ie.ty gf (P9 (show A.in1.handled=none from hh) ie ho hd hi λh' e kp he=>q h' e kp he) (fW _)))
end
structure Tk(es:Array DictEntry)(lo:Addr)(h:Heap)(as:Aaj):Prop where
 up:as.Pairwise (·<·)
 ab:∀a∈as,lo<=a
 tp:∀(j:Nat)(a:Addr),as[j]?=some a->∃hj:j<es.size,h.get? a=some {cls:=.type "tuple",data:=.seq #[es[j].key,es[j].val]}
section
variable{P:Program}{w:World}{A:Around}{s:Shared}{R:Result->Shared->Prop}{es:Array DictEntry}{ep:Nat}{d:Addr}{o:Obj}
def Tk.low{lo QL:Addr}(x:Tk es lo h as)(l:QL<=lo):Tk es QL h as:={x.up,λa ha=>aD l (x.ab a ha),x.tp}
abbrev zN(acc:Aal)(c:Nat):Obj:={cls:=.type "list",dict:=none,data:=.seq acc c,slots:=#[]}
def Yk(hh:A.handled=none)(nSI:S≠I)(dS:d≠S)(dI:d≠I)(sU:o.data=.dict es ep)(hz:es.size<=sizeLine)(res:Value){h0:Heap}(lS:S<h0.objs.size)(lI:I<h0.objs.size)
  (k:∀h' tk acc c as,(∀b x,b≠S->b≠I->h0.get? b=some x->h'.get? b=some x)->h'.get? S=some (zN acc c)->as.length=es.size->Tk es h0.objs.size h' as->acc.toList=as.map Value.ref->R (.ok (.ret res)) {s with heap:=h',toks:=tk}):
  ∀(n i:Nat)(h:Heap)(tk c:Nat)(acc:Aal)(as:Aaj),es.size -i=n->i<=es.size->RI h I d i es.size ep->h.get? d=some o->(∀b x,b≠S->b≠I->h0.get? b=some x->h.get? b=some x)->h.get? S=some (zN acc c)->
   acc.toList=as.map Value.ref->as.length=i->Tk es h0.objs.size h as->h0.objs.size<=h.objs.size->codeAny (-30) A (.builtin "list.extend.loop" {[.ref S,.ref I,res],[]}) R {s with heap:=h,toks:=tk}:=by
 intro n
 induction n with
 |zero=>
  intro i h tk c acc as en hi st gd kp gS ea la T lh;refine dv uL ?_;rw[gA hZ];refine af (XE hh st gd sU ∅ λh' kq=>ao ?_);exact k h' tk acc c as (λb x n1 n2 e=>kq b x n2 (kp b x n1 n2 e)) (kq _ _ nSI gS) ∅ {T.up,T.ab,λj a hj=>(T.tp j a hj).imp λ_ e=>kq a _ (bA (a9 lI (T.ab a (aH hj)))) e} ea
 |succ n ih=>
  intro i h tk c acc as en hi st gd kp gS ea la T lh;have bK:i<es.size:=by lia
  have la2:acc.size=i:=by rw[<-aS,ea,ak,la]
  refine dv uL ?_;rw[gA hZ];refine af (XG st gd sU bK λh' g7 gt kq zq=>?_);have gS':=kq S _ nSI gS;obtain⟨h2,eh⟩:∃h2,h2=h'.update S (Obj.mapSeq (·.push (Value.ref h.objs.size))):=⟨_,rfl⟩;have go:∀b x,b≠S->h'.get? b=some x->h2.get? b=some x:=λb x nb e=>by rw[eh];exact(bO _ _ (cb nb)).trans e
  have gU:=cH (Obj.mapSeq (·.push (Value.ref h.objs.size))) gS' rfl;rw[<-eh]at gU;obtain⟨c2,gS2⟩:∃c,h2.get? S=some (zN (acc.push (Value.ref h.objs.size)) c):=⟨_,gU⟩;refine af (jk gS' rfl (ao {gO hZ _,?_}) (by rw[la2];lia) (by show(acc.push (Value.ref h.objs.size)).size<=sizeLine+1;rw[Array.size_push,la2];lia));have nS:=bA (a9 lS lh);have z2:=aI (go _ _ nS gt);have fin:=ih (i+1) h2 tk _ (acc.push (Value.ref h.objs.size)) (as++[h.objs.size]) ∅ bK (g7.jx λx e=>go I x (cb nSI) e) (go d o dS (kq d o dI gd)) (λb x n1 n2 e=>go b x n1 (kq b x n2 (kp b x n1 n2 e))) gS2
   (by rw[lq,ea,aJ];rfl) (by rw[aO,la];rfl) {jL.mpr {T.up,kC _ _,λa ha b hb=>?_},λa ha=>?_,λj a hj=>?_} (bu (eJ lh z2))
  ·rw[eh]at fin;exact fin
  ·rw[ay.mp hb];obtain⟨j,hj⟩:=dy.mp ha;obtain⟨_,e⟩:=T.tp j a hj;exact aI e
  ·rcases bg.mp ha with ha|ha
   ·exact T.ab a ha
   ·rw[ay.mp ha];exact lh
  ·by_cases q:j<as.length
   ·rw[dO q]at hj;have l1:=T.ab a (aH hj);exact(T.tp j a hj).imp λ_ e=>go a _ (bA (a9 lS l1)) (kq a _ (bA (a9 lI l1)) e)
   ·have ej:j=i:=by have:=(ax.mp hj).1;rw[aO,dA]at this;lia
    subst ej;rw[dE ∅,la,vO]at hj;have hb:h.objs.size=a:=by simpa using hj
    subst hb;exact{bK,go _ _ nS gt}
variable{E:Aae}{r:Addr}
def Yl(hh:A.handled=none)(hv:s.heap.IsItemsView r d)(gd:s.heap.get? d=some o)(sU:o.data=.dict es ep)(hz:es.size<=sizeLine)
  (q:∀h' tk acc c as,(∀b x,s.heap.get? b=some x->h'.get? b=some x)->h'.get? s.heap.objs.size=some (zN acc c)->as.length=es.size->Tk es (-17) h' as->acc.toList=as.map Value.ref->Q (-12) {s with heap:=h',toks:=tk}):
  wpAny (-30) A (call (.type "list") [.ref r]) Q E s:=by
 refine yi (Q₁:=λv z=>v=.ref s.heap.objs.size/\z={s with heap:=s.heap.push (zN #[] 0)}) PySem.F.called_list (PySem.F.typeCall_list_1 _) PySem.F.entry_list_init (code_list_new _ ⟨rfl,rfl⟩) ?_;rintro v z ⟨rfl,rfl⟩;have g1:(s.heap.push (zN #[] 0)).get? s.heap.objs.size=some (zN #[] 0):=aF _ rfl;refine{⟨_,g1,rfl⟩,PySem.F.args_list_init_2 _ _,?_};obtain⟨ov,go,hc,hd⟩:=id hv;have lr:=aI go;have ld:=aI gd;obtain⟨S,eS⟩:∃S,S=s.heap.objs.size:=⟨_,rfl⟩;rw[<-eS]at g1 q lr ld⊢;have A2:∀b x,s.heap.get? b=some x->(s.heap.push (zN #[] 0)).get? b=some x:=λb x e=>aq _ e;have z1:(s.heap.push (zN #[] 0)).objs.size=S+1:=by rw[cB,eS]
 generalize (s.heap.push (zN #[] 0))=h1 at g1 A2 z1⊢;show wpAny _ _ (do let old<-Builtin.List.listItems (.ref S);Builtin.List.listUpdate (.ref S) (λ_=>#[]);letGo old.toList.reverse;Builtin.List.listExtendWith (.ref S) (.ref r) .none) _ _ _;unfold Builtin.List.listItems;refine af (af (bY g1 rfl (ao ?_)));refine af (jk g1 rfl (af (mH ?_)));have g2:=cH (-47) g1 rfl;have vt:∀b x,b≠S->h1.get? b=some x->(h1.update S (-47)).get? b=some x:=λb x nb e=>(bO _ _ (cb nb)).trans e;have z2:(h1.update S (-47)).objs.size=S+1:=by rw[<-z1];exact(bT ..).1
 generalize (h1.update S (-47))=h2 at g2 vt z2⊢;obtain⟨c2,g2⟩:∃c,h2.get? S=some (zN #[] c):=⟨_,g2⟩;unfold Builtin.List.listExtendWith;have EZ:h2.IsItemsView r d:={ov,vt _ _ (aL lr) (A2 _ _ go),hc,hd};refine af (fZ EZ.typeIs ?_);have a1:Builtin.List.listSameRef (.ref S) (.ref r)=false:=by simp[Builtin.List.listSameRef,bA lr]
 have a2:(Value.type "dict_items"==Value.type "list")=false:=by decide
 have a3:(Value.type "dict_items"==Value.type "tuple")=false:=by decide
 simp only[a1,a2,a3,Ac,cw,d6];have gd2:=vt _ _ (aL ld) (A2 _ _ gd);refine af (IS EZ gd2 sU ?_);obtain⟨h3,WW⟩:∃h3,h3=h2.push (oK .none false d 0 es.size ep .none .none):=⟨_,rfl⟩;have V0:∀b x,h2.get? b=some x->h3.get? b=some x:=λb x e=>by rw[WW];exact aq _ e
 have g3:h3.get? (S+1)=some (oK .none false d 0 es.size ep .none .none):=by rw[WW,<-z2];exact aF _ rfl
 have z3:h3.objs.size=S+2:=by rw[WW,cB,z2]
 show wpAny _ _ _ _ _ {s with heap:=h2.push (oK .none false d 0 es.size ep .none .none)};rw[<-WW];rw[show({s with heap:=h2}:Shared).heap.objs.size=S+1 from z2];have key:∀(h:Heap)(c tk:Nat),(∀b x,b≠S->h3.get? b=some x->h.get? b=some x)->h.get? S=some (zN #[] c)->h.objs.size=S+2->
   codeAny (-30) A.in1 (.builtin "list.extend.loop" {[.ref S,.ref (S+1),.none],[]}) (wants (λr aad=>r=Value.none/\Q (Value.ref S) aad) E) {s with heap:=h,toks:=tk}:=λh c tk kp gS zh=>by
  refine Yk (show A.in1.handled=none from hh) (aL (dC S)) (aL ld) (aL (eA ld)) sU hz .none (by rw[zh];exact Nat.lt_add_of_pos_right (-8)) (by rw[zh];exact dC _) (λh' Ep acc c' as k1 k2 k3 k4 k5=>{rfl,q h' Ep acc c' as (λb x e=>?_) k2 k3 (k4.low (by rw[zh];exact fI _)) k5})
   es.size 0 h tk c #[] [] (BG _) (aP _) {_,_,_,_,kp _ _ (bA (dC S)) g3,.inl rfl} (kp _ _ (aL ld) (V0 _ _ gd2)) (λb x _ _ e=>e) gS rfl rfl {.nil,λa ha=>(by cases ha),λj a hj=>(by simp at hj)} (ar _)
  have lb:b<S:=by rw[eS];exact aI e
  exact k1 b x (aL lb) (aL (eA lb)) (kp _ _ (aL lb) (V0 _ _ (vt _ _ (aL lb) (A2 _ _ e))))
 have gS3:=V0 _ _ g2;refine af (bQ (PySem.W.kdx_hint {_,V0 _ _ (vt _ _ (aL lr) (A2 _ _ go)),hc} ?_));refine mP (λ_=>?_) (λ_=>ao {gO hZ _,key _ c2 _ (λb x _ e=>e) gS3 z3});refine af (fQ (af ?_));refine af (jk gS3 rfl ?_);have g4:=cH (Obj.mapSeq (·.push Value.none)) gS3 rfl;refine jk g4 rfl ?_;refine ao {gO hZ _,key _ _ _ (λb x nb e=>?_) (cH (Obj.mapSeq (·.pop)) g4 rfl) ?_}
 ·exact(bO _ _ (cb nb)).trans ((bO _ _ (cb nb)).trans e)
 ·rw[(bT ..).1,(bT ..).1,z3]
end
section
variable{X:Cx}{pins:Aac}{Z:St}{H:Hp}{s:Shared}
theorem Inv.R8{lo:Addr}(hlo:X.aab.heap.objs.size<=lo/\X.env.locals<lo/\(∀x c,X.env.cells.lookup x=some c->c<lo)/\∀p∈X.pn++pins,p.1<lo):
  ∀(as:Aaj)(ps:Aam)(H:Hp),Inv X pins Z H s->as.length=ps.length->as.Nodup->(∀a∈as,lo<=a/\H a=none)->
   (∀(j:Nat) a p,as[j]?=some a->ps[j]?=some p->∃t u,RelV p.1 t/\RelV p.2 u/\s.heap.get? a=some {cls:=.type "tuple",data:=.seq #[t,u]})->
   ∃H',Inv X pins Z H' s/\(∀b u,H b=some u->H' b=some u)/\(∀b,b∉as->H' b=H b)/\∀(j:Nat) a p,as[j]?=some a->ps[j]?=some p->H' a=some (.tup [p.1,p.2])
 |[],[],H,I,_,_,_,_=>{H,I,λ_ _ h=>h,λ_ _=>rfl,λj a p e=>by simp at e}
 |[],_::_,_,_,e,_,_,_=>by simp at e
 |_::_,[],_,_,e,_,_,_=>by simp at e
 |a::as,p::ps,H,I,e,nd,fr,tp=>by
  obtain⟨n1,n2⟩:=cX.mp nd;obtain⟨l1,l2,l3,l4⟩:=hlo;obtain⟨ha,hna⟩:=fr a aA;obtain⟨t,u,r1,r2,g⟩:=tp 0 a p rfl rfl;have I1:=I.K1 (o:=.tup [p.1,p.2]) hna {by show 2<=sizeLine;decide,[t,u],.cons r1 (.cons r2 .nil),{_,g,rfl,0,rfl},_,g,rfl} (aD l1 ha) (bA (a9 l2 ha))
   (λx c h=>aL (a9 (l3 x c h) ha)) (λq hq=>aL (a9 (l4 q hq) ha))
  obtain⟨H',I2,k1,k2,k3⟩:=Inv.R8 ⟨l1,l2,l3,l4⟩ as ps _ I1 (by simpa using e) n2 (λb hb=>{(fr b (aB _ hb)).1,by rw[aE (show b≠a fromλz=>n1 (by rw[<-z];exact hb))];exact(fr b (aB _ hb)).2})
   (λj b q e1 e2=>tp (j+1) b q (by simpa using e1) (by simpa using e2))
  refine{H',I2,λb v h=>k1 b v (by rw[aE (bf h hna)];exact h),λb hb=>?_,λj b q e1 e2=>?_}
  ·rw[k2 b (λz=>hb (aB _ z)),aE (λz=>hb (by rw[z];exact aA))]
  ·cases j with
   |zero=>
    obtain rfl:a=b:=by simpa using e1
    obtain rfl:p=q:=by simpa using e2
    rw[k2 a n1];exact aw
   |succ j=>exact k3 j b q (by simpa using e1) (by simpa using e2)
def Inv.low(I:Inv X pins Z H s):X.aab.heap.objs.size<=s.heap.objs.size/\X.env.locals<s.heap.objs.size/\(∀x c,X.env.cells.lookup x=some c->c<s.heap.objs.size)/\∀p∈X.pn++pins,p.1<s.heap.objs.size:=
 {I.sz,I.lt,λx c hc=>let⟨_,z⟩:=I.cell x c hc;z.lt,λp hp=>aI (I.pin p hp).1}
def Inv.HS(I:Inv X pins Z H s)(h:gn X.prog X.w X.K H d kvs):(d==sysModules)=false/\∃o es ep,s.heap.get? d=some o/\es.size<=10000000/\K7 o es ep (kvs.map λp=>(V.ref p.2.1,p.2.2)):=by
 obtain⟨lo,xs,rel,hl,o,es,ep,ga,hx,hdt,he,_⟩:=I.qO h;have ents:∀{l:List (-53)}{xs:List (NK×Addr×Value)},Paired (-10) l xs->Paired (-57) (l.map λp=>(V.ref p.2.1,p.2.2)) (xs.map (entryOfKey (nA X.prog X.w))):=λr=>by
  induction r with
  |nil=>exact .nil
  |@cons p q ps qs h _ ih=>exact .cons {by show Value.ref q.2.1=Value.ref p.2.1;rw[h.2.1],h.2.2} ih
 exact{lo,o,es,ep,ga,by rw[we he,<-rel.length];exact hl,hx,hdt,by rw[he];exact ents rel}
inductive SH(P:Program)(w:World)(K:Frag)(Q:VK)(x:V)(H1:Hp):Prop
 |mk d kvs (_:x=.ref d) (_:gn P w K H1 d kvs) (_:∀p,H1 p=none->Q (.ref p) (upd H1 p (.ext (uq p d))))
end
def Xr(P:Program)(w:World)(K:Frag)(td:TE):TE:=λZ H Q=>td Z H λx H1=>SH P w K Q x H1
section
variable{X:Cx}
def GQ(hl:PE X l tl)(Fc:attributeBase l "items" X.env (eval l X.env)=eval l X.env:=by rfl)(E6:(apos.endLine==fD.line)=true:=by rfl):
  PE X (.Call (.Attribute l "items" apos) [] [] fD) (Xr X.prog X.w X.K tl):=by
 intro pins s Z H R I h;refine wpAny_Call_method0_late Fc E6 (df (hl pins s Z H _ I h) λv s1 x H1 I1 r1 q1=>?_);obtain⟨d,kvs,e,hd,q⟩:=q1;subst e;cases r1;obtain⟨lo,o,es,ep,ga,_,m⟩:=I1.HS hd;have ty:s1.TypeIs (.ref d) "dict":={o,ga,m.1.1};refine{"dict","dict.items",iM,vY,PySem.F.type_dict_items,ty,λb q=>?_,iX rfl (PySem.evalArgs_none ?_)}
 ·cases q;exact{o,ga,m.1.2.1}
 ·refine bz vY ty PySem.F.entry_dict_items ?_ (PySem.F.args_dict_items_1 _);unfold Builtin.«dict.items» Builtin.Dict.noArgs;refine af (af (jm ty (ao ?_)));unfold Builtin.Dict.showsAll;rw[lo];refine af (ao (af (cx (ao {_,rfl,?_}))));exact{.ref s1.heap.objs.size,_,I1.laid (λb o e=>aq _ e) (ar _) (aaK {_,aF _ rfl,rfl,rfl}),rfl,q _ (I1.br.fresh (ar _))}
abbrev Sb(H:Hp):Aao->Aam->Prop:=Paired λ(y:V)(p:V×V)=>∃a,y=.ref a/\H a=some (.tup [p.1,p.2])
theorem GV:∀{as:Aaj}{ps:Aam},as.length=ps.length->(∀(j:Nat) a p,as[j]?=some a->ps[j]?=some p->H a=some (.tup [p.1,p.2]))->Sb H (as.map V.ref) ps
 |[],[],_,_=>.nil
 |[],_::_,e,_=>by simp at e
 |_::_,[],e,_=>by simp at e
 |a::as,p::ps,e,h=>.cons {a,rfl,h 0 a p rfl rfl} (GV (by simpa using e) λj b q e1 e2=>h (j+1) b q (by simpa using e1) (by simpa using e2))
theorem Vc:∀as:Aaj,Vals (as.map V.ref) (as.map Value.ref)
 |[]=>.nil
 |_::as=>.cons rfl (Vc as)
def Fy(hA:X.A.handled=none):jv X (.type "list") (λxs H Q=>∃(r d:Addr)(kvs:List (-53)),xs=[.ref r]/\H r=some (.ext (uq r d))/\gn X.prog X.w X.K H d kvs/\
  ∀l ys H',(∀b u,H b=some u->H' b=some u)->H l=none->H' l=some (-39)->Sb H' ys (kvs.map λp=>(.ref p.2.1,p.2.2))->Q (.ref l) H'):=by
 intro pins s Z H xs us Q I r h;obtain⟨v,d,kvs,rfl,hv,hd,q⟩:=h;obtain⟨u,rfl,ru⟩:=lP r;cases ru;obtain⟨iv,_⟩:=(show dG X.prog X.w H s.heap v (.ext (uq v d))from I.br v _ hv);obtain⟨lo,o,es,ep,ga,hz,m⟩:=I.HS hd;have hl:(kvs.map λp=>(V.ref p.2.1,p.2.2)).length=es.size:=by rw[bw m.2.2,aS]
 have hs:es.size<=sizeLine:=by rw[b8];lia
 refine Yl hA iv ga m.2.1 hs λh' tk acc c as kp gl la T ea=>?_;have I1:=I.kept (t':=tk) kp;have low:=I.low;have z1:s.heap.objs.size<=s.heap.objs.size+1:=fI _;obtain⟨H',I2,k1,k2,k3⟩:=Inv.R8 {low.1,low.2.1,low.2.2.1,low.2.2.2} as (kvs.map λp=>(V.ref p.2.1,p.2.2)) H I1 (by rw[la,hl]) (T.up.imp λh=>aL h)
  (λa ha=>{aD z1 (T.ab a ha),I.br.fresh (aD z1 (T.ab a ha))}) (λj a p e1 e2=>by obtain⟨hj,e3⟩:=T.tp j a e1;obtain⟨e,he,r1,r2⟩:=Paired.at' m.2.2 e2;rw[bJ,bD hj]at he;cases he;exact⟨_,_,r1,r2,e3⟩)
 have na:s.heap.objs.size∉as:=λz=>absurd (T.ab _ z) (Nat.not_succ_le_self _);have hn:=I.br.fresh (ar _);have MX:H' s.heap.objs.size=none:=by rw[k2 _ na];exact hn
 have I3:=I2.K1 (o:=.lst (as.map V.ref)) MX {by rw[ak,la];exact hs,as.map Value.ref,c,Vc as,by rw[<-ea];exact gl} low.1 (bA low.2.1) (λx c h=>aL (low.2.2.1 x c h)) (λp hp=>aL (low.2.2.2 p hp));refine{.ref s.heap.objs.size,_,I3,rfl,q _ (as.map V.ref) _ (λb u e=>?_) hn aw (GV (by rw[la,hl]) λj a p e1 e2=>?_)}
 ·rw[aE (bf e hn)];exact k1 b u e
 ·rw[aE (λz=>na (by rw[<-z];exact aH e1))];exact k3 j a p e1 e2
variable{P:Program}{w:World}{d:Addr}{o:Obj}{es:Array DictEntry}{ep:Nat}
def Xw(lo:(d==sysModules)=false)(hx:o.ExactDict)(hd:o.data=.dict es ep):PySem.W.KdlSrc P w "dict" d d es.size (λi v=>∃hi:i<es.size,v=es[i].key) (λh=>h.get? d=some o) where
 type:=λ_ g=>{o,g,hx.1}
 there:=λ_ g=>{aI g,aI g}
 keep:=λ_ _ g k=>k d (.inl rfl) _ g
 notList:=by decide
 notTuple:=by decide
 hint:=λ_ _ _ _ g q=>PySem.W.kdl_hint_dict {o,g,hx.1} q
 iter:=λA s hh g=>{_,λi h=>h.IsKeyIter s.heap.objs.size d i es.size ep/\h.get? d=some o,λ_ _ q=>BZ lo g hx hd q,{
  sub:=λb hb=>by simp at hb;simp[hb]
  frame:=λi h h' st k=>by obtain⟨⟨v,e,c⟩,g'⟩:=st;exact{{v,k _ (-9) _ e,c},k d (-9) _ g'}
  item:=λi s' Q E hi st q=>P4 st.1 st.2 hd hi λh' it' sb=>q _ h' s'.toks ⟨hi,rfl⟩ {it',sb.extBut _ _ (aL (aI g)) st.2} λb x hb e=>sb.extBut b x (λz=>hb (by simp[z])) e
  done:=λs' Q E st q=>GO hh st.1 st.2 hd (ar _) λh' kp=>q h' s'.toks λb x hb e=>kp b x (λz=>hb (by simp[z])) e
  self:=λ_ _ _ _ st q=>qq st.1 q},{{_,aF _ rfl,rfl,rfl},aq _ g}}
def KQ(hA:X.A.handled=none):jv X (.builtin "sorted") (λxs H Q=>∃(a:Addr)(kvs:List (-53))(rows:Aab),xs=[.ref a]/\gn X.prog X.w X.K H a kvs/\kvs.map (·.1)=rows.map eY/\(2<=rows.length->∀r∈rows,r≠[])/\rows.length<1000000/\SortedTo X.K H (kvs.map λp=>.ref p.2.1) rows Q):=by
 intro pins s Z H xs us Q I r h;obtain⟨a,kvs,rows,rfl,ha,hk,ig,Bg,q⟩:=h;obtain⟨u,rfl,rx⟩:=lP r;cases rx;obtain⟨lo,o,es,ep,ga,hz,m⟩:=I.HS ha;have hl:(kvs.map λp=>(V.ref p.2.1,p.2.2)).length=es.size:=by rw[bw m.2.2,aS]
 rw[ak]at hl;have Rj:kvs.length=rows.length:=by have:=bU List.length hk;rw[ak,ak]at this;exact this
 refine jN CW AK Bl (BA _) ?_;unfold Builtin.«sorted»;refine af (ao ?_);refine af (Ag (Xw lo m.1 m.2.1) (by simpa using hA) ga (by rw[b8];lia) λh' tk acc kp it=>?_);have ea:acc.toList=(kvs.map λp=>p.2.1).map Value.ref:=by
  refine uk λj=>?_;rw[bJ,bW,aK];by_cases hj:j<es.size
  ·have Rp:j<acc.size:=by rw[it.1];exact hj
   obtain⟨_,e1⟩:=it.2 j _ (bD Rp);have jd:kvs[j]?=some (kvs[j]'∅):=au ∅;obtain⟨e,he,r1,_⟩:=Paired.at' m.2.2 (by rw[aK,jd];rfl);rw[bJ,bD hj]at he;cases he;rw[bD Rp,e1,jd,eI];exact bU some r1
  ·rw[kT (by rw[it.1];lia),hX ∅];rfl
 rw[ea];have e2:(kvs.map λp=>V.ref p.2.1)=(kvs.map λp=>p.2.1).map V.ref:=by rw[bW];rfl
 rw[e2]at q;refine Et (s:=s) (I.kept kp) (by rw[ak,Rj]) (λi z b e3 e4=>?_) ig Bg q;rw[aK]at e4;obtain⟨p,e5,rfl⟩:=aX.mp e4;have e6:(kvs.map (·.1))[i]?=some (eY z):=by rw[hk,aK,e3];rfl
 rw[aK,e5]at e6;have:=(ha.2 p (aH e5)).1;rw[show p.1=eY z from bN e6]at this;exact ER this
end
def Xs(P:Program)(w:World)(K:Frag)(Ih:List (TE×TE)):TE:=λZ H Q=>∀p,H p=none->Iw Ih Z (upd H p (.dK [])) λps H2=>∃b k v,ps=[(.ref b,v)]/\jA K H2 k b/\H2 p=some (.dK [])/\Q (.ref p) (upd H2 p (.ext (DN P w p [(k,b,v)])))
def Qh(hu:X.A.units+101<cLine)(h:BF X pos keys values Ih)(nF:keys.all (·.isSome)=true)(hl:keys.length=values.length)(h0:keys≠[])
  (h15:keys.length<=15):PE X (.Dict keys values pos) (Xs X.prog X.w X.K Ih):=by
 intro pins s Z H Q I q;have hn:=I.br.fresh (ar s.heap.objs.size);have I1:=I.laid (t':=s.toks) (λ_ _ q=>aq _ q) (ar _) (KC s.heap I.big);refine wpAny_Dict_any nF hl h0 h15 (iT (h pins _ Z _ _ I1 (q _ hn)) λws s2 adD=>?_);obtain⟨ps,H2,I2,rel,b,k,v,e,hk,hp,q2⟩:=adD;subst e;cases rel with
 |@cons _ x _ _ r1 t=>
  cases t;obtain⟨kx,vx⟩:=x;obtain⟨r1,r2⟩:=r1;obtain rfl:kx=Value.ref b:=r1;unfold storeAll;rw[mZ];have ha:gn X.prog X.w X.K H2 s.heap.objs.size []:={.inr ⟨rfl,hp⟩,λ_ hp=>by cases hp};obtain⟨lo,xs,rl,jF,dd⟩:=I2.qO ha;have lx:xs.length<=sizeLine:=by rw[<-rl.length];exact aP _
  refine af (af (wpAny_dictSet_heap (show X.A.units+100<cLine by lia) (I2.DL hk) dd λh' vG hs=>ao ?_));obtain⟨o,es,ep,g,g2,g3,g4,_,g5⟩:=vG;have I3:∀tk,Inv X pins Z (upd H2 s.heap.objs.size (.ext (DN X.prog X.w s.heap.objs.size [(k,b,v)]))) {s2 with heap:=h',toks:=tk}:=λtk=>
   uT I2 (by rw[hp];exact True.intro) hs ⟨o,g⟩ (O4 {lo,_,DE rl r2,by show 1<=10000000;decide,o,es,ep,g,g2,g3,g4,g5})
  exact ao {.ref s.heap.objs.size,_,I3 _,rfl,q2}
section
variable{P:Program}{w:World}{A:Around}{E:Aae}{v:Shared}{es:Array DictEntry}{ep:Nat}{o:Obj}
structure Zi(h:Heap)(z ti to i1 i2 d l:Addr)(f:Value)(k n ep:Nat):Prop where
 self:IsZip h z ti to f
 ins:IsPair h ti (.ref i1) (.ref i2)
 outs:∃a b,IsPair h to a b
 w1:RI h i1 d k n ep
 w2:h.IsListIter i2 l k
def Zi.ne(g:Zi h z ti to i1 i2 d l f k n ep):(ti≠z/\to≠z/\i1≠z/\i2≠z)/\(ti≠i1/\ti≠i2/\to≠i1/\to≠i2)/\i1≠i2:=by
 obtain⟨gs,gi,⟨a,b,go⟩,⟨_,_,_,_,q1,_⟩,⟨o2,q2,c2,_⟩⟩:=g;exact{{cS gi gs rfl rfl (-8),cS go gs rfl rfl (-8),cS q1 gs rfl rfl (-8),cS q2 gs c2 rfl (-8)},
  {cS gi q1 rfl rfl (-8),cS gi q2 rfl c2 (-8),cS go q1 rfl rfl (-8),cS go q2 rfl c2 (-8)},cS q1 q2 rfl c2 (-8)}
def Xf{Q:Aae}(EN:ti≠to)(g:Zi v.heap z ti to i1 i2 d l .none k es.size ep)
  (gd:v.heap.get? d=some o) (hx:o.ExactDict) (sU:o.data=.dict es ep) (t2:v.heap.IsList l ys) (hk:k<es.size) (ey:ys[k]?=some y)
  (q:∀h',Zi h' z ti to i1 i2 d l (rawInt (v.heap.objs.size+1)) (k+1) es.size ep->h'.get? v.heap.objs.size=some {cls:=.type "tuple",data:=.seq #[es[k].key,es[k].val]}->IsPair h' (v.heap.objs.size+1) (.ref v.heap.objs.size) y->(∀c o,c≠z->c≠to->c≠i1->c≠i2->v.heap.get? c=some o->h'.get? c=some o)->Q (.ref (v.heap.objs.size+1)) {v with heap:=h'}):
  wpAny (-30) A (-50) (λfin s'=>∃u,fin=.done (.ret u)/\Q u s') E v:=by
 obtain⟨⟨a1,a2,a3,a4⟩,⟨a5,a6,a7,a8⟩,Mx⟩:=g.ne;obtain⟨gs,gi,⟨a,b,go⟩,g1,g2⟩:=g;have dz:=cS gd gs hx.1 rfl (-8);obtain⟨o2,q2,c2,_⟩:=id g2;obtain⟨ol,ql,cl,_⟩:=id t2;have c1:=cS ql gs cl rfl (-8);have c4:=cS ql go cl rfl (-8);have c5:l≠i1:=by obtain⟨_,_,_,_,e1,_⟩:=id g1;exact cS ql e1 cl rfl (-8)
 show wpAny _ _ (field (.ref z) 2>>=_) _ _ _;refine af (bP gs rfl rfl ?_);refine af (bP gs rfl rfl ?_);refine af (bY gi rfl ?_);refine af ?_;unfold Builtin.SmallTypes.ownedTupleIsFree;refine af (bP gs rfl rfl (ao ?_));refine af (fQ ?_);refine af (bP gs rfl rfl ?_);refine af (cu gs (-9) λp1 k1 r1=>?_)
 replace k1:IsZip p1 z ti to .ellipsis:=k1
 have z1:=r1.1;refine af ?_;refine af (af (mi ?_));refine af (P8 (g1.jx λo e=>r1.extBut _ _ a3 e) (r1.extBut _ _ dz gd) sU hk λp2 k2 tq r2 U4=>ao ?_);have U4:p2.objs.size=v.heap.objs.size+1:=by rw[<-z1];exact U4
 have tq:p2.get? v.heap.objs.size=some {cls:=.type "tuple",data:=.seq #[es[k].key,es[k].val]}:=by rw[<-z1];exact tq
 rw[show({v with heap:=p1}:Shared).heap.objs.size=v.heap.objs.size from z1];have o2:=r2 _ _ a7 (r1.extBut _ _ a2 go);refine af (bY o2 rfl ?_);refine af (yP o2 λp3 o3 r3=>?_)
 replace o3:IsPair p3 to (.ref v.heap.objs.size) b:=o3
 refine af (mH (ao ?_));refine af (af (mi ?_));have w3:p3.IsListIter i2 l k:=by obtain⟨o',e',r'⟩:=g2;exact{o',r3.extBut _ _ a8.symm (r2 _ _ Mx.symm (r1.extBut _ _ a4 e')),r'}
 have t3:p3.IsList l ys:=by obtain⟨o',e',r'⟩:=t2;exact{o',r3.extBut _ _ c4 (r2 _ _ c5 (r1.extBut _ _ c1 e')),r'}
 refine af (wpAny_nextOf_list_item w3 t3 ey λp4 k4 r4=>ao ?_);have o4:=r4.extBut _ _ a8 o3;refine af (bY o4 rfl ?_);refine af (yP o4 λp5 o5 r5=>?_)
 replace o5:IsPair p5 to (.ref v.heap.objs.size) y:=o5
 refine af (mH (ao (ao ?_)));refine af (bY o5 rfl ?_);refine af (lA ?_);have sz:p5.objs.size=v.heap.objs.size+1:=by rw[r5.1,r4.1,r3.1,U4]
 have z5:=r5.extBut _ _ a2.symm (r4.extBut _ _ a4.symm (r3.extBut _ _ a2.symm (r2 _ _ a3.symm k1)));have st:∀c o,c≠z->c≠to->c≠i1->c≠i2->v.heap.get? c=some o->p5.get? c=some o:=λc o m1 m2 m3 m4 e=>
  r5.extBut _ _ m2 (r4.extBut _ _ m4 (r3.extBut _ _ m2 (r2 _ _ m3 (r1.extBut _ _ m1 e))))
 have j1:=k2.jx λo e=>r5.extBut _ _ a7.symm (r4.extBut _ _ Mx (r3.extBut _ _ a7.symm e));have j2:p5.IsListIter i2 l (k+1):=by obtain⟨o',e',r'⟩:=k4;exact{o',r5.extBut _ _ a8.symm e',r'}
 have nto:=bA (aI go);have ni2:=bA (aI q2);have nz:=bA (aI gs);have t5:=r5.extBut _ _ nto (r4.extBut _ _ ni2 (r3.extBut _ _ nto tq));have lz:=aI z5;refine af ?_;unfold Builtin.SmallTypes.ownedTupleHandOut;have z6:IsZip (p5.push {cls:=.type "tuple",data:=.seq #[.ref v.heap.objs.size,y]}) z ti to .ellipsis:=aq _ z5;refine af (cu z6 (-9) λp7 z7 r7=>?_)
 replace z7:IsZip p7 z ti to (rawInt p5.objs.size):=z7
 refine cu z7 (-9) λp8 z8 r8=>?_
 replace z8:IsZip p8 z ti to (rawInt p5.objs.size):=z8
 have up:∀c o,c≠z->p5.get? c=some o->p8.get? c=some o:=λc o m e=>r8.extBut _ _ m (r7.extBut _ _ m (aq _ e));have n8:=r8.extBut _ _ (bA lz) (r7.extBut _ _ (bA lz) (aF _ rfl));rw[sz]at z8 n8;refine ao {_,rfl,?_};rw[sz];obtain⟨ob,jb,rb⟩:=j2;exact q p8 {z8,up _ _ a1 (st _ _ a1 EN a5 a6 gi),{_,_,up _ _ a2 o5},j1.jx λo e=>up _ _ a3 e,{ob,up _ _ a4 jb,rb}} (up _ _ nz t5) n8 λc o m1 m2 m3 m4 e=>up c o m1 (st c o m1 m2 m3 m4 e)
def Y6(hh:A.handled=none)(g:Zi v.heap z ti to i1 i2 d l .none k es.size ep)(gd:v.heap.get? d=some o)(hx:o.ExactDict)(sU:o.data=.dict es ep)(hk:es.size<=k)
  (q:∀h' e,(∀c o,c≠z->c≠to->c≠i1->c≠i2->v.heap.get? c=some o->h'.get? c=some o)->(∃o,h'.get? e=some o/\o.cls=.type "StopIteration")->E (.ref e) {v with heap:=h'}):
  wpAny (-30) A (-50) Q E v:=by
 obtain⟨⟨a1,a2,a3,a4⟩,⟨a5,a6,a7,a8⟩,Mx⟩:=g.ne;obtain⟨gs,gi,⟨a,b,go⟩,g1,g2⟩:=g;have dz:=cS gd gs hx.1 rfl (-8);show wpAny _ _ (field (.ref z) 2>>=_) _ _ _;refine af (bP gs rfl rfl ?_);refine af (bP gs rfl rfl ?_);refine af (bY gi rfl ?_);refine af ?_;unfold Builtin.SmallTypes.ownedTupleIsFree;refine af (bP gs rfl rfl (ao ?_));refine af (fQ ?_);refine af (bP gs rfl rfl ?_);refine af (cu gs (-9) λp1 k1 r1=>?_)
 replace k1:IsZip p1 z ti to .ellipsis:=k1
 refine af ?_;refine af (af (mi ?_));refine af (P7 hh (g1.jx λo e=>r1.extBut _ _ a3 e) (r1.extBut _ _ dz gd) sU hk λp2 e r2 he=>?_);obtain⟨oe,ge,ce⟩:=he;have z2:=r2 _ _ a3.symm k1;have nez:=cS ge z2 ce rfl (-8);exact cu z2 (-9) λp3 _ r3=>q p3 e (λc o m1 _ m3 _ e=>r3.extBut _ _ m1 (r2 _ _ m3 (r1.extBut _ _ m1 e))) {oe,r3.extBut _ _ nez ge,ce}
def Xe(EN:ti≠to)(g:Zi v.heap z ti to i1 i2 d l .none k es.size ep)
  (gd:v.heap.get? d=some o) (hx:o.ExactDict) (sU:o.data=.dict es ep) (t2:v.heap.IsList l ys) (hk:k<es.size) (ey:ys[k]?=some y)
  (q:∀h',Zi h' z ti to i1 i2 d l (rawInt (v.heap.objs.size+1)) (k+1) es.size ep->h'.get? v.heap.objs.size=some {cls:=.type "tuple",data:=.seq #[es[k].key,es[k].val]}->IsPair h' (v.heap.objs.size+1) (.ref v.heap.objs.size) y->(∀c o,c≠z->c≠to->c≠i1->c≠i2->v.heap.get? c=some o->h'.get? c=some o)->Q (some (.ref (v.heap.objs.size+1))) {v with heap:=h'}):
  wpAny (-30) A (pyNext (.ref z)) Q E v:=by
 have ty:v.TypeIs (.ref z) "zip":={_,g.self,rfl};unfold pyNext;exact af (dZ (wpAny_callSpecial?_slot (name:=Str.ofString "__next__") ty eM (bz eM ty j8 (Xf EN g gd hx sU t2 hk ey λh' b1 b2 b3 b4=>ao (q h' b1 b2 b3 b4)) (jJ _))))
def Xd(hh:A.handled=none)(g:Zi v.heap z ti to i1 i2 d l .none k es.size ep)(gd:v.heap.get? d=some o)(hx:o.ExactDict)(sU:o.data=.dict es ep)(hk:es.size<=k)
  (q:∀h',(∀c o,c≠z->c≠to->c≠i1->c≠i2->v.heap.get? c=some o->h'.get? c=some o)->Q none {v with heap:=h'}):
  wpAny (-30) A (pyNext (.ref z)) Q E v:=by
 have ty:v.TypeIs (.ref z) "zip":={_,g.self,rfl};unfold pyNext;refine af (dZ (wpAny_callSpecial?_slot (name:=Str.ofString "__next__") ty eM (bz eM ty j8 (Y6 (show A.in1.handled=none from hh) g gd hx sU hk λh' e hk he=>?_) (jJ _))));obtain⟨o,ho,hc⟩:=he;exact af (f6 (T:="StopIteration") (b:=true) ⟨o,ho,hc⟩ jQ (ao (q _ hk)))
abbrev Pm(h:Heap)(d:Addr)(n ep:Nat):Heap:=h.push {cls:=.type "dict_itemiterator",data:=.fields #[.none,.bool false,.ref d,.int 0 0,.int n 0,.int ep 0,.none,.none]}
abbrev Vb(h:Heap)(d l:Addr)(n ep:Nat):Heap:=(Pm h d n ep).push {cls:=.type "list_iterator",data:=.fields #[.ref l,.int 0 0]}
abbrev Va(h:Heap)(d l:Addr)(n ep:Nat):Heap:=(Vb h d l n ep).push {cls:=.type "tuple",data:=.seq #[.ref h.objs.size,.ref (Pm h d n ep).objs.size]}
abbrev U9(h:Heap)(d l:Addr)(n ep:Nat):Heap:=(Va h d l n ep).push {cls:=.type "tuple",data:=.seq #[.none,.none]}
abbrev LH(h:Heap)(d l:Addr)(n ep:Nat):Heap:=(U9 h d l n ep).push {cls:=.type "zip",data:=.fields #[.none,.bool false,.bool false,.ref (Vb h d l n ep).objs.size,.ref (Va h d l n ep).objs.size]}
def Zc(r d l:Addr)(ys:Aal)(o:Obj)(es:Array DictEntry)(ep:Nat)(sU:o.data=.dict es ep):
  Meets (Builtin.«zip.__new__» {[.type "zip",.ref r,.ref l],[]}) (λ_ R s=>s.heap.IsItemsView r d/\s.heap.get? d=some o/\s.heap.IsList l ys/\R (.ok (.ret (.ref (U9 s.heap d l es.size ep).objs.size))) {s with heap:=LH s.heap d l es.size ep}):=
 .of_wp λprog w A R s h=>by
  obtain⟨hp,g,dr,tk,os⟩:=s;obtain⟨hv,gd,hl,h⟩:=h;have Ub:=sub_zip;have hV:Heap.IsItemsView (Shared.heap ⟨hp,g,dr,tk,os⟩) r d:=hv;have hL:Heap.IsList (Shared.heap {Pm hp d es.size ep,g,dr,tk,os}) l ys:=by obtain⟨o,e,r⟩:=hl;exact{o,aq _ e,r}
  wp_walk using IS hV gd sU,kU hL
  exact⟨_,rfl,h⟩
def Xg(hv:v.heap.IsItemsView r d)(gd:v.heap.get? d=some o)(sU:o.data=.dict es ep)(hl:v.heap.IsList l ys)
  (q:∀h' n,n=v.heap.objs.size->Zi h' (n+4) (n+2) (n+3) n (n+1) d l .none 0 es.size ep->(∀c o,v.heap.get? c=some o->h'.get? c=some o)->Q (.ref (n+4)) {v with heap:=h'}):
  wpAny (-30) A (call (.type "zip") [.ref r,.ref l]) Q E v:=by
 refine callType_new F.called_zip (-8) (F.typeCall_zip_2 _ _) (F.newCall_zip_2 _ _) (λobj=>zy obj _ _) F.entry_zip_new (Zc r d l ys o es ep sU) {hv,gd,hl,?_};have e1:(Pm v.heap d es.size ep).objs.size=v.heap.objs.size+1:=cB ..;have e2:(Vb v.heap d l es.size ep).objs.size=v.heap.objs.size+2:=by rw[cB,e1]
 have e3:(Va v.heap d l es.size ep).objs.size=v.heap.objs.size+3:=by rw[cB,e2]
 have e4:(U9 v.heap d l es.size ep).objs.size=v.heap.objs.size+4:=by rw[cB,e3]
 have g5:(LH v.heap d l es.size ep).get? (U9 v.heap d l es.size ep).objs.size=some _:=aF _ rfl;have g4:(LH v.heap d l es.size ep).get? (Va v.heap d l es.size ep).objs.size=some _:=aq _ (aF _ rfl);have g3:(LH v.heap d l es.size ep).get? (Vb v.heap d l es.size ep).objs.size=some _:=aq _ (aq _ (aF _ rfl));have g2:(LH v.heap d l es.size ep).get? (Pm v.heap d es.size ep).objs.size=some _:=aq _ (aq _ (aq _ (aF _ rfl)));have g1:(LH v.heap d l es.size ep).get? v.heap.objs.size=some _:=aq _ (aq _ (aq _ (aq _ (aF _ rfl))));show _/\_;rw[e2,e3,e4]at g5;rw[e1,e2]at g3;rw[e3]at g4;rw[e1]at g2;rw[e4];exact{⟨_,g5,rfl⟩,q _ _ rfl {g5,g3,⟨_,_,g4⟩,{_,_,_,_,g1,.inl rfl},⟨_,g2,rfl,rfl⟩} λc o x=>aq _ (aq _ (aq _ (aq _ (aq _ x))))}
end
def Sh(K:Frag)(d l:Addr)(o:Obj)(u:HO)(kvs:Aam):It:=
 {λi H=>H d=some (.de o u)/\i<kvs.length/\∃ys y,bp K H l ys/\ys[i]?=some y,
  λi H x H'=>∃p q kv y,x=.ref p/\H q=none/\upd H q (.tup [kv.1,kv.2]) p=none/\H'=upd (upd H q (.tup [kv.1,kv.2])) p (.tup [.ref q,y])/\kvs[i]?=some kv/\∀ys,bp K H l ys->ys[i]?=some y,
  λi H=>H d=some (.de o u)/\kvs.length<=i}
def Xp{K:Frag}(m:K7 o es ep kvs)(EN:ti≠to):
  Turn P w K (.Tuple elts kk ps) (Sh K d l o u kvs) (gR z ti to i1 i2) z (λi h=>Zi h z ti to i1 i2 d l .none i es.size ep) where
 mem:=aA
 obj:=λi h st c hc=>by
  obtain⟨gs,gi,⟨u,v,go⟩,⟨_,_,_,_,q1,_⟩,⟨o2,q2,c2,d2⟩⟩:=st;have qi:c=z\/c=ti\/c=to\/c=i1\/c=i2:=by simpa[gR]using hc
  rcases qi with rfl|rfl|rfl|rfl|rfl
  ·exact{_,gs,λv z=>by cases z}
  ·exact{_,gi,λv z=>by cases z}
  ·exact{_,go,λv z=>by cases z}
  ·exact{_,q1,λv z=>by cases z}
  ·exact{_,q2,λv z=>by rw[d2]at z;cases z}
 keep:=λi h h' st k=>by obtain⟨gs,gi,⟨u,v,go⟩,w1,⟨o2,q2,r2⟩⟩:=st;exact{k z (by simp[gR]) _ gs,k ti (by simp[gR]) _ gi,{u,v,k to (by simp[gR]) _ go},w1.jx λo e=>k i1 (by simp[gR]) _ e,{o2,k i2 (by simp[gR]) _ q2,r2}}
 item:=by
  intro X hP hw hK hc i pins s Z H E I hf st hg;subst hP hw hK;obtain⟨hd,hi,ys,y,hb,hy⟩:=hg;obtain⟨A6,IT,AL,xV⟩:=I.list hb;obtain⟨u2,zO,EC⟩:=IT.get hy;have hl:kvs.length=es.size:=by rw[bw m.2.2,aS]
  have ga:s.heap.get? d=some o:=(I.br d _ hd).1;obtain⟨kv,jd⟩:∃kv,kvs[i]?=some kv:={_,au hi};have Rq:i<es.size:=by lia
  obtain⟨e,he,r⟩:=Paired.at' m.2.2 jd;have ee:es[i]=e:=by rw[bJ,bD Rq]at he;exact bN he
  refine Xe EN st ga m.1 m.2.1 AL.isList Rq (y:=u2) (by simpa using zO) λh1 g1 tq pr kp=>{_,rfl,?_};refine uw g1.self λh2 z2 sb=>?_;have qx:Heap.SameBut z h1 h2:=sb;have al:∀c∈gR z ti to i1 i2,c<s.heap.objs.size:=λc hc=>by
   obtain⟨gs,gi,⟨u,v,go⟩,⟨_,_,_,_,q1,_⟩,⟨o2,q2,r2⟩⟩:=id st;have qi:c=z\/c=ti\/c=to\/c=i1\/c=i2:=by simpa[gR]using hc
   rcases qi with rfl|rfl|rfl|rfl|rfl
   ·exact aI gs
   ·exact aI gi
   ·exact aI go
   ·exact aI q1
   ·exact aI q2
  have lz:z<s.heap.objs.size:=al z aA;have vt:∀c o,c∉gR z ti to i1 i2->s.heap.get? c=some o->h2.get? c=some o:=λc o hc e=>
   qx.extBut c o (-16) (kp c o (-16) (-16) (-16) (-16) e)
  have t2:=qx.extBut _ _ (bA lz) tq;have lz1:z<s.heap.objs.size+1:=eA lz;have p2:=qx.extBut _ _ (bA lz1) pr;have I2:=I.LS (t':=s.toks) (xs:=[kv.1,kv.2]) (us:=[es[i].key,es[i].val]) vt hf (ar _) {⟨_,t2,rfl,_,rfl⟩,_,t2,rfl} (.cons (by rw[ee];exact r.1) (.cons (by rw[ee];exact r.2) .nil)) (-36);have low:=I.low;have A9:H (-17)=none:=I.br.fresh (fI _);have ue:upd H s.heap.objs.size (.tup [kv.1,kv.2]) (-17)=none:=by rw[aE (bA (dC _))];exact A9
  have I3:=I2.K1 (D:=s.heap.objs.size+1) (o:=.tup [.ref s.heap.objs.size,y]) ue {by show 2<=sizeLine;decide,[.ref s.heap.objs.size,u2],.cons rfl (.cons EC .nil),{_,p2,rfl,0,rfl},_,p2,rfl} (Nat.le_succ_of_le low.1) (bA (eA low.2.1)) (λx c h=>aL (eA (low.2.2.1 x c h))) (λq hq=>aL (eA (low.2.2.2 q hq)));obtain⟨⟨n1,n2,n3,n4⟩,_,_⟩:=g1.ne;obtain⟨gs,gi,⟨u,v,go⟩,w1,⟨o2,q2,r2⟩⟩:=g1;refine{.ref (-17),_,I3,rfl,{_,_,kv,y,rfl,I.br.fresh (ar _),ue,rfl,jd,λzs hz=>by rw[I.DI hz hb];exact hy},{z2,qx.extBut _ _ n1 gi,{u,v,qx.extBut _ _ n2 go},w1.jx λo e=>qx.extBut _ _ n3 e,{o2,qx.extBut _ _ n4 q2,r2}},λc hc=>?_};rw[aE (aL (eA (al c hc))),aE (aL (al c hc))];exact(hf c hc).1
 done:=by
  intro X hP hw hK hc i pins s Z H E I hf st hg;subst hP hw hK;obtain⟨hd,hi⟩:=hg;have hl:kvs.length=es.size:=by rw[bw m.2.2,aS]
  have ga:s.heap.get? d=some o:=(I.br d _ hd).1;exact Xd (I.ok.hd hc) st ga m.1 m.2.1 ∅ λh1 kp=>{rfl,I.LU (t':=s.toks) (ch:=gR z ti to i1 i2) (λc o hc e=>kp c o (-16) (-16) (-16) (-16) e) hf}
 self:=λ_ _ _ _ _ st h=>lO st.self h
inductive aaP(P:Program)(w:World)(K:Frag)(R:It->Hp->Prop)(vs:Aao)(H1:Hp):Prop
 |mk r d u l kvs ys (_:vs=[.ref r,.ref l]) (_:H1 r=some (.ext (uq r d))) (_:H1 d=some u) (_:gn P w K H1 d kvs) (_:bp K H1 l ys) (_:∀o,R (Sh K d l o u (kvs.map λp=>(.ref p.2.1,p.2.2))) (upd H1 d (.de o u)))
def acr(P:Program)(w:World)(K:Frag)(ta:TA):TI:=λZ H R=>ta Z H λvs H1=>aaP P w K R vs H1
def XW(hg:Gl X "zip")(hm:X.mg "zip"=none)(ha:PA X [a,b] ta)(hs:starEach [a,b] X.env=[(false,eval a X.env),(false,eval b X.env)]:=by rfl)(kI:starEach [b] X.env=[(false,eval b X.env)]:=by rfl):
  PI X (.Tuple elts kk ps) (.Call (.Name "zip" p) [a,b] [] pos) (acr X.prog X.w X.K ta):=by
 intro pins s Z H R I h;refine FH (qE I hg hm boot_zip (d9 (-55) (by rw[hs,kI]) (by rw[kI];rfl)));obtain⟨r,d,u,l,kvs,ys,e,hr,hd,hv,hb,q⟩:=q1;subst e;obtain⟨u1,u2,rfl,IV,EC⟩:=vals2 r1;cases IV;cases EC;obtain⟨iv,_⟩:=(show dG X.prog X.w H1 s1.heap r (.ext (uq r d))from I1.br r _ hr);obtain⟨lo,o,es,ep,ga,hz,m⟩:=I1.HS hv;obtain⟨A6,IT,AL,xV⟩:=I1.list hb;have I2:Inv X pins Z (upd H1 d (.de o u)) s1:=by
  rcases hv.1 with e|⟨_,e⟩
  ·rw[hd]at e;cases e;exact I1.F5 hd ga
  ·rw[hd]at e;cases e;exact I1.freeze hd ga
 refine Xg iv ga m.2.1 AL.isList λh' n en g kp=>?_;subst en;have I3:Inv X pins Z (upd H1 d (.de o u)) {s1 with heap:=h'}:=I2.kept (t':=s1.toks) kp;refine lO g.self ?_;refine{_,_,_,_,_,rfl,I3,Xp m ?_,g,λc hc=>?_,q o}
 ·exactλt=>absurd t (aL (dC _))
 ·have qi:c=s1.heap.objs.size+4\/c=s1.heap.objs.size+2\/c=s1.heap.objs.size+3\/c=s1.heap.objs.size\/c=s1.heap.objs.size+1:=by simpa[gR]using hc
  have lc:s1.heap.objs.size<=c:=by rcases qi with e|e|e|e|e<;>rw[e]<;>first|exact ar _|exact d7 _ _
  exact I2.qM lc (I2.br.fresh lc)
def Uz{K:Frag}{g:TG}{tb:TS}{D:Ends}(Pv:Nat->St->Hp->Prop)(le:kvs.length=ys.length)(h0:Pv 0 Z H)(hl:∀i Z H,i<=kvs.length->Pv i Z H->H d=some (.de o u)/\bp K H l ys)
  (hs:∀i kv y p q Z H,kvs[i]?=some kv->ys[i]?=some y->Pv i Z H->H q=none->upd H q (.tup [kv.1,kv.2]) p=none->g (.ref p) Z (upd (upd H q (.tup [kv.1,kv.2])) p (.tup [.ref q,y])) λσ2 H2=>tb {D with nx:=Pv (i+1),ct:=Pv (i+1),bk:=D.nx} σ2 H2) (hd:∀Z H,Pv kvs.length Z H->D.nx Z H):
  ∃W:Nat->Nat->St->Hp->Prop,(∃m,W 0 m Z H)/\∀i m Z H,W i m Z H->
   ((Sh K d l o u kvs).stop i H/\D.nx Z H)\/((Sh K d l o u kvs).go i H/\∃N:St->Hp->Prop,(∀σ' H',N σ' H'->∃m',m'<m/\W (i+1) m' σ' H')/\∀x H',(Sh K d l o u kvs).xt i H x H'->g x Z H' λσ2 H2=>tb {D with nx:=N,ct:=N,bk:=D.nx} σ2 H2):=by
 refine{λi m Z H=>m=kvs.length -i/\i<=kvs.length/\Pv i Z H,{kvs.length,by simp,aP _,h0},?_};rintro i m Z H ⟨rfl,hi,p⟩;obtain⟨q1,q2⟩:=hl i Z H hi p;by_cases bK:i<kvs.length
 ·refine .inr {{q1,bK,ys,ys[i]'∅,q2,au _},Pv (i+1),λσ' H' p'=>{kvs.length -(i+1),by lia,rfl,bK,p'},λx H' y=>?_};obtain⟨a,b,kv,v,rfl,hb,ha,rfl,y1,y2⟩:=y;exact hs i kv v a b Z H y1 (y2 ys q2) p hb ha
 ·have e:i=kvs.length:=by lia
  subst e;exact .inl {{q1,ar _},hd Z H p}
section
variable{X:Cx}{P:Program}{w:World}{K:Frag}
def X1(he:PE X e ta)(hb:attributeBase e f X.env (eval e X.env)=eval e X.env)(h:X.K=K:=by rfl):PE X (.Attribute e f pos) (SI K ta f):=h▸mx he hb
def N6(hu:X.A.units+101<cLine)(ho:PE X o td)(he:PE X e ty)(hf:PE X f tz)(m:M2 X o "get" apos e f fD)(h1:X.prog=P:=by rfl)(h2:X.w=w:=by rfl)(h3:X.K=K:=by rfl):
  PE X (.Call (.Attribute o "get" apos) [e,f] [] fD) (L0 P w K td ty tz):=by subst h1 h2 h3;exact GR hu ho he hf m
end
end L2
namespace kr
open PySem PySem.Spec PyProof.Rows L2 zZ gw
seal L2.PE L2.PT L2.PW L2.PA L2.PS L2.mY L2.PI L2.PO L2.BF L2.PG L2.Aa
section
variable{P:Program}{w:World}{K:Frag}{mg:Aad}{base:Heap}{C:Addr}
structure Ee(K:Frag)(C:Addr):Prop where
 c:BQ K C
 tables:pB K C "tables"
 kept:pB K C "kept"
 maps:pB K C "maps"
 tails:pB K C "tails"
def hU(kept ts:Aah):Aah:=(fN ts).filter λt=>decide (t∉kept)
def jU(kept ts:Aah):Aah:=ts.filter λt=>decide (t∉hU kept ts)
def vh(a:Str×Aah)(known:Aah):NK:=.tup [.tup [.key (.inr a.1),eY a.2],eY known]
def Ye(h:vh a k=vh a' k'):a=a'/\k=k':=by unfold vh at h;simp only[NK.tup.injEq,List.cons.injEq,NK.key.injEq,Sum.inr.injEq,and_true]at h;obtain⟨⟨h1,h2⟩,h3⟩:=h;exact{Ed h1 (xM h2),xM h3}
def T3(hq:bF K H q [.ref p,.ref u])(hp:bF K H p [.str a.1,.ref t])(ht:bF K H t (a.2.map V.str))(hu:bF K H u (known.map V.str))(s1:PyData.strOk a.1=true)(s2:tD a.2)(s3:tD known):jA K H (vh a known) q:=by
 refine{?_,pE.good (n:=3) ?_ (-8)}
 ·unfold vh;rw[NV];refine{q,_,rfl,hq,?_};rw[pD];refine{_,_,rfl,?_,?_}
  ·rw[NV];refine{p,_,rfl,hp,?_};rw[pD];refine{_,_,rfl,?_,?_}
   ·rw[NV];rfl
   ·rw[pD];refine{_,_,rfl,JG ht,?_};rw[pD]
  ·rw[pD];refine{_,_,rfl,JG hu,?_};rw[pD]
 ·have up:∀{n m:Nat}{k:NK},pE n k->n<=m->pE m k:=λg l=>{g.1,aD g.2.1 l,aD g.2.2 l};refine DQ λk hk=>?_;rcases aG.mp hk with rfl|hk
  ·refine DQ λk hk=>?_;rcases aG.mp hk with rfl|hk
   ·exact good_str s1
   ·cases ay.mp hk;exact DR s2
  ·cases ay.mp hk;exact up (DR s3) (-8)
abbrev Vf(fs:List En)(a:Str×Aah)(known:Aah):Aah->Aab:=AskP.tails (eO (cP fs a.1)) a.2 known ((fN a.2).filter λt=>decide (t∉known))
structure jw(P:Program)(w:World)(K:Frag)(H:Hp)(td:Addr)(av:Aaj)(fs:List En)(kvs:List (-53)):Prop where
 at_:gn P w K H td kvs
 all:∀a known v,valN kvs (vh a known)=some v->∃d,v=.ref d/\iz P w K H av d (Vf fs a known)
def Pl(P:Program)(w:World)(K:Frag)(H:Hp)(td:Addr)(av:Aaj)(fs:List En)(n:Nat):Prop:=∃kvs,jw P w K H td av fs kvs/\kvs.length<=n
def SB(d:Addr)(H H':Hp):Prop:=∀b u,b≠d->H b=some u->H' b=some u
def SB.tp(s:SB d H H')(h:iN H d):dw H H':=λb xs q=>by
 have hb:b≠d:=λe=>h xs (e▸q);rcases q with q|⟨o,q⟩
 ·exact .inl (s _ _ hb q)
 ·exact .inr {o,s _ _ hb q}
def SB.same(s:bq H H'):SB d H H':=λb u _ e=>s _ _ e
def SB.trans(a:SB d H H1)(b:SB d H1 H2):SB d H H2:=λx u n e=>b x u n (a x u n e)
def jw.fr(x:jw P w K H td av fs kvs)(s:∀b u,b∉av->H b=some u->H' b=some u)(t:dw H H')(e:H' td=H td):jw P w K H' td av fs kvs:=
 {x.at_.tp t e,λa known v h=>by obtain⟨d,e1,e3⟩:=x.all a known v h;exact{d,e1,e3.fr s t}}
def jw.same(x:jw P w K H td av fs kvs)(s:bq H H'):jw P w K H' td av fs kvs:=by obtain⟨u,hu⟩:=x.at_.some;exact x.fr (λb u _ e=>s _ _ e) (dw.same s) (by rw[hu,s _ _ hu])
def Pl.same(x:Pl P w K H td av fs n)(s:bq H H'):Pl P w K H' td av fs n:=by obtain⟨kvs,h1,h2⟩:=x;exact{kvs,h1.same s,h2}
def _root_.L2.gn.uF(h:gn P w K H d kvs)(l:Aao):H d≠some (.lst l):=λe=>by rcases h.1 with q|⟨_,q⟩<;>rw[e]at q<;>cases q
def jw.add(x:jw P w K H td av fs kvs)(ht:td∈av)(hk:jA K H (vh a known) q)(hd:iz P w K H av d (Vf fs a known)):
  jw P w K (upd H td (.ext (DN P w td (putN kvs (vh a known) q (.ref d))))) td av fs (putN kvs (vh a known) q (.ref d)):=by
 have s:∀b u,b∉av->H b=some u->upd H td (.ext (DN P w td (putN kvs (vh a known) q (.ref d)))) b=some u:=λb u n e=>by rw[aE (λz=>n (by rw[z];exact ht))];exact e
 have t:dw H (upd H td (.ext (DN P w td (putN kvs (vh a known) q (.ref d))))):=dw.upd x.at_.qC;refine{x.at_.put hk,λa' aaF v h=>?_};rw[pW]at h;split at h
 ·next c=>
  cases h;obtain⟨rfl,rfl⟩:=Ye c;exact{d,rfl,hd.fr s t}
 ·obtain⟨d',e1,e3⟩:=x.all a' aaF v h;exact{d',e1,e3.fr s t}
structure iK(P:Program)(w:World)(K:Frag)(C:Addr)(H:Hp)(me dx tb kl md td:Addr)(ex:Aaj)(fs:List En)(kept:Aah)(maps:Cm)(n:Nat):Prop where
 ins:H me=some (.ins C dx [("tables",.ref tb),("kept",.ref kl),("maps",.ref md),("tails",.ref td)])
 tab:gY K H tb fs
 xR:H kl=some (.lst (kept.map V.str))
 wm:RowC P w K H md maps
 As:Pl P w K H td (td::md::ex) fs n
 nm:md≠td
 nt:tb≠td
 ke:kl∉ex
def iK.same(x:iK P w K C H self dx tb kl md td ex fs kept maps n)(s:bq H H'):iK P w K C H' self dx tb kl md td ex fs kept maps n:=
 {s _ _ x.ins,x.tab.same s,s _ _ x.xR,x.wm.same s,x.As.same s,x.nm,x.nt,x.ke}
def FinA(a:Str×Aah):Prop:=a.2.length<=4/\PyData.strOk a.1=true/\tD a.2/\∀z∈a.2,z.length<=1000
def acH(a:Str×Aah):cQ [a]=a.2:=by show a.2++[]=a.2;exact b6 _
inductive Dp(P:Program)(w:World)(K:Frag)(C:Addr)(vs:Aao)(H:Hp)(Q:VK)(_x3:XK):Prop
 |mk (self at_ dx tb kl md td:Addr) (ex:Aaj) (fs:List En) (kept:Aah) (maps:Cm) (n:Nat) (a:Str×Aah) (_:vs=[.ref self,.ref at_]) (_:iK P w K C H self dx tb kl md td ex fs kept maps n) (_:mG H (.ref at_) a) (_:FinA a) (_:∀(l:Addr)(H':Hp),bq H H'->H l=none->H' l=some (.lst ((hU kept a.2).map V.str))->Q (.ref l) H')
structure Df6(P:Program)(w:World)(K:Frag)(mg:Aad)(base:Heap):Prop where
 unknowns_of:dP P w K mg base 3 "unknowns_of" ["question"] PJ
def DJ(l:Aah):(fN l).length<=l.length:=F0 l
def Ad:cD ["self","atom"] ["self","atom"] (defScope nr):=jD (-3)
def TF(F:fu K "fresh_unknowns" "Asking.fresh_unknowns" nr f fd)(T:Txt K mg)(O:Ee K C)(D:Df6 P w K mg base):dk P w K mg base fU 4 f fd ["self","atom"] (Dp P w K C):=by
 refine F.ok Ad (λ_ _ _ _ h=>by cases h;subst_vars;rfl) (-4);obtain⟨self,at_,dx,tb,kl,md,td,ex,fs,kept,maps,n,a,rfl,st,ha,fa,k⟩:=h;refine{_,(ba (cN (qb rfl (cU (fs:=["self"]) (fr:=[0])) (fX (cl D.unknowns_of hr (cz (iZ (dR (iZ gN) (iZ (cz (pv 1)))))))) (λ_ _ _ _=>(dh (tM (K:=K)) (pv 0) (X1 (K:=K) (pv 1) rfl) (-59))) (λ_ _ _ _=>(pv 0))))),?_};refine{by show 0<=sizeLine;decide,λe he=>?_};have s1:=aM he (.tup ([]:Aao));have he1:upd H e (.tup []) e=some (.tup []):=aw;generalize (upd H e (.tup []))=H1 at s1 he1⊢;refine{_,rfl,by show 1<=sizeLine;decide,λt ht=>?_};have s2:=aM ht (.tup [V.ref at_]);have zP:upd H1 t (.tup [V.ref at_]) t=some (.tup [V.ref at_]):=aw;generalize (upd H1 t (.tup [V.ref at_]))=H2 at s2 zP⊢;refine{by show 2<=sizeLine;decide,λq hq=>?_};have s3:=aM hq (.tup [V.ref e,V.ref t]);have hq3:upd H2 q (.tup [V.ref e,V.ref t]) q=some (.tup [V.ref e,V.ref t]):=aw;have CK:=s1.trans (s2.trans s3);generalize (upd H2 q (.tup [V.ref e,V.ref t]))=H3 at s3 hq3 CK⊢;refine{.ref q,[],[a],rfl,{q,e,t,[.ref at_],rfl,hq3,s3 _ _ (s2 _ _ he1),s3 _ _ zP,.cons (sD ha CK) .nil},λb hb=>?_,by show 1<=100;decide,λr H4 s4 Wk wz=>?_}
 ·cases ay.mp hb;exact{fa.1,fa.2.2.2}
 rw[acH]at wz;have rh:=CK.trans s4;have lu:=DJ a.2;have l4:=fa.1;refine{r,rfl,{_,bp.of wz},jg (K:=K) (a:=r) (xs:=(fN a.2).map V.str) (λi ys H5=>H5=H4/\i<=(fN a.2).length/\ys=(((fN a.2).take i).filter λt=>decide (t∉kept)).map V.str) (-28) {rfl,aP _,rfl} ?_ ?_ ?_}
 ·rintro i ys H5 hi ⟨rfl,_,rfl⟩;refine{bp.of wz,?_};rw[ak];exact aD (cj _ _) (by rw[aT];lia)
 ·rintro i x ys H5 N hx ⟨rfl,hi,rfl⟩ hN;obtain⟨z,hz,rfl⟩:=js hx;have bK:i<(fN a.2).length:=(ax.mp hz).1;refine{_,rfl,_,rfl,self,C,dx,_,_,rfl,rh _ _ st.ins,O.c,O.kept,rfl,kl,_,rfl,.inl (bp.of (rh _ _ st.xR)),rfl,Ho _,_,rfl,?_};rw[B6];have en:((fN a.2).take (i+1)).filter (λt=>decide (t∉kept))=((fN a.2).take i).filter (λt=>decide (t∉kept))++if z∈kept then[]else[z]:=by rw[bh,hz,cL,ff];congr 1;by_cases c:z∈kept<;>simp[c]
  by_cases c:z∈kept
  ·refine fo (λq=>by simp[c]at q) (λ_=>hN _ _ {rfl,bK,?_});rw[en,aC c,b6]
  ·refine fo (λ_=>{_,rfl,hN _ _ {rfl,bK,?_}}) (λq=>absurd (by simp[c]) q);rw[en,az c,aJ];rfl
 ·rintro ys H5 ⟨rfl,_,rfl⟩ l hl;rw[ak,aV];exact k l _ (rh.trans (aM hl _)) (rh.free hl) aw
def WN(kept ts:Aah):(fN ts).filter (λt=>decide (t∉jU kept ts))=hU kept ts:=by
 refine Cu λt ht=>?_;have h1:t∈ts:=(uM ht).resolve_left λz=>by cases z
 have:t∈jU kept ts↔t∈kept:=by unfold jU hU;rw[bV,iG,bV,iG];exact{λh=>m7 λc=>h.2 ⟨ht,c⟩,λh=>{h1,λz=>z.2 h}}
 simp only[this]
theorem Hs:∀l:Aab,(zb l).length<=l.length
 |[]=>ar _
 |a::r=>by have:=Hs r;unfold zb;split<;>(simp only[bx];lia)
def uy(l:Aab):(eO l).length<=l.length:=by unfold eO;rw[(lU _).length_eq];exact Hs l
def sI(h:z∈cJ):PyData.strOk z=true:=(Em h).2.2
def gY.good(x:gY K H p fs)(z:Str):(cP fs z).length<=5/\∀r∈cP fs z,mK r:=by
 unfold cP;cases q:fs.find? (λe=>decide (e.nm=z))with
 |none=>exact{aP _,λr h=>by cases h}
 |some e=>
  obtain⟨_,_,h3,h4⟩:=x.en e (jM q);exact⟨h3,h4⟩
abbrev dbT(fs:List En)(z:Str):Aab:=eO (cP fs z)
def uX(fs:List En)(kept:Aah)(a:Str×Aah)(v:Aah):Aab:=AskP.tails (dbT fs a.1) a.2 (-48) (hU kept a.2) (AskP.image kept v (-48))
def LW(x:gY K H p fs)(kept:Aah)(a:Str×Aah)(v:Aah):(uX fs kept a v).length<=5:=by unfold uX AskP.tails;rw[ak];exact aD (cj _ _) (aD (uy _) (x.good a.1).1)
abbrev zj(K:Frag)(H:Hp)(av:Aaj)(fs:List En)(kept:Aah)(a:Str×Aah):Aao->Cm->Prop:=Paired λ(y:V)(x:Aah×Int)=>∃t zs,y=.ref t/\t∉av/\H t=some (.lst zs)/\cT K H zs (uX fs kept a x.1)
def Ik(h:zj K H av fs kept a ys m)(s:∀b u,b∉av->H b=some u->H' b=some u)(t:dw H H'):zj K H' av fs kept a ys m:=by
 induction h with
 |nil=>exact .nil
 |cons h _ ih=>
  obtain⟨t',zs,e,n,h1,h2⟩:=h;exact .cons {t',zs,e,n,s _ _ n h1,iE h2 t} ih
def Ij(h:zj K H av fs kept a ys m)(s:bq H H'):zj K H' av fs kept a ys m:=Ik h (λb u _ e=>s _ _ e) (dw.same s)
structure FG(kept:Aah)(maps:Cm):Prop where
 nd:kept.Nodup
 sok:tD kept
 len:kept.length<=100
 row:∀x∈maps,x.1.length=kept.length/\tD x.1
 je:maps.length<=500000
inductive NL(P:Program)(w:World)(K:Frag)(C:Addr)(vs:Aao)(H:Hp)(Q:VK)(_x3:XK):Prop
 |mk (self at_ dx tb kl md td:Addr) (ex:Aaj) (fs:List En) (kept:Aah) (maps:Cm) (n:Nat) (a:Str×Aah) (_:vs=[.ref self,.ref at_]) (_:iK P w K C H self dx tb kl md td ex fs kept maps n) (_:mG H (.ref at_) a) (_:FinA a) (_:FG kept maps) (_:n<=1000000) (_:(∀b∈ex,∃u,H b=some u)) (_:∀(l:Addr)(ys:Aao)(H':Hp),SB td H H'->H l=none->H' l=some (.lst ys)->iK P w K C H' self dx tb kl md td ex fs kept maps (n+1)->zj K H' (td::md::ex) fs kept a ys maps->Q (.ref l) H')
structure Dm6(P:Program)(w:World)(K:Frag)(mg:Aad)(base:Heap)(C:Addr):Prop extends Dn P w K mg base where
 iR:qY P w K mg base C 4 "fresh_unknowns" ["self","atom"] (Dp P w K C)
 rows_of:dP P w K mg base 1 "rows_of" ["tables","name"] (Dm K)
 tails_by_key:dP P w K mg base 3 "tails_by_key" ["rows","terms","known","fresh"] (GA P w K)
def gY.sb(x:gY K H p fs)(s:SB td H H')(nt:iN H td)(nl:∀l,H td≠some (.lst l))(ne:p≠td):gY K H' p fs:={s _ _ ne x.at_,x.nm,λe he=>by obtain⟨h1,h2,h3⟩:=x.en e he;exact{s _ _ (λz=>nl _ (by rw[<-z];exact h1)) h1,iE h2 (s.tp nt),h3}}
def RowC.sb(x:RowC P w K H d m)(s:SB td H H')(nt:iN H td)(ne:d≠td):RowC P w K H' d m:=by obtain⟨kvs,h1,h2⟩:=x;obtain⟨u,hu⟩:=h1.some;exact{kvs,h1.tp (s.tp nt) (by rw[hu,s _ _ ne hu]),h2}
def _root_.L2.gn.EO(h:gn P w K H d kvs):H d≠some (.ins C dx l):=λe=>by rcases h.1 with q|⟨_,q⟩<;>rw[e]at q<;>cases q
def iK.sb(x:iK P w K C H self dx tb kl md td ex fs kept maps n)(s:SB td H H')(ck:jw P w K H' td (td::md::ex) fs kvs)(l:kvs.length<=m):iK P w K C H' self dx tb kl md td ex fs kept maps m:=by obtain⟨_,c0,_⟩:=x.As;exact{s _ _ (λz=>c0.at_.EO (by rw[<-z];exact x.ins)) x.ins,x.tab.sb s c0.at_.qC c0.at_.uF x.nt,s _ _ (λz=>c0.at_.uF _ (by rw[<-z];exact x.xR)) x.xR,x.wm.sb s c0.at_.qC x.nm,⟨kvs,ck,l⟩,x.nm,x.nt,x.ke}
def g8:cD ["self","atom","fresh","known","key","tails","places"] ["self","atom"] (defScope oR):=jD (-3)
def Tx(F:fu K "tails_of_maps" "Asking.tails_of_maps" oR f fd)(T:Txt K mg)(O:Ee K C)(D:Dm6 P w K mg base C):dk P w K mg base fU 5 f fd ["self","atom"] (NL P w K C):=by
 refine F.ok g8 (λ_ _ _ _ h=>by cases h;subst_vars;rfl) (-4);obtain⟨self,at_,dx,tb,kl,md,td,ex,fs,kept,maps,n,a,rfl,st,ha,fa,mo,hn,hex,k⟩:=h;have hu:=kj hr;have hN:=yY hr;have cC:=O.c;refine{_,(aN (jT (i:=2) g8.nd rfl (Or.inr rfl) (MC cC D.iR hr (pv 0) (cz (pv 1)) ∅)) (aN (jT (i:=3) g8.nd rfl (Or.inr rfl) (qb rfl (cU (fs:=["fresh"]) (fr:=[2])) (sL (dq lD (pv 1) bj (-15))) (λ_ _ _ _=>(dh (tM (K:=K)) (pv 0) (pv 1) (-59))) (λ_ _ _ _=>(pv 0)))) (aN (fK 4 g8 (iZ (dR (pv 1) (dF fE rfl T.kE (-3) (cz (pv 3)))))) (aN (gJ (dh (Ql hN) (pv 4) (mx (pv 0) rfl) (-59)) (ba (Jf hN (mx (pv 0) rfl) (pv 4) (cl D.tails_by_key hr (iF (cl D.rows_of hr (dR (mx (pv 0) rfl) (dq lD (pv 1) bj (-15)))) (sN (dq lD (pv 1) bj (-15)) (pv 3) (pv 2)))) rfl)) eG) (aN (jT (i:=5) g8.nd rfl (Or.inr rfl) (To hN (mx (pv 0) rfl) (pv 4) (-15))) (aN (jT (i:=6) g8.nd rfl (Or.inr rfl) (cl D.places_of hr (cz (mx (pv 0) rfl)))) (ba (cN (Jn (hE rfl (cU (fs:=["tails","known","places"]) (fr:=[5,3,6])) (Th (mx (pv 0) rfl)) (λ_ _ _ _=>(N6 (P:=P) (w:=w) (K:=K) hN (pv 1) (cl D.image hr (sN (pv 2) (pv 3) (pv 0))) (fb gN) ⟨rfl,rfl,rfl,rfl⟩)))))))))))),?_}
 refine{_,rfl,self,dx,_,rfl,st.ins,rfl,_,rfl,self,at_,dx,tb,kl,md,td,ex,fs,kept,maps,n,a,rfl,st,ha,fa,λfr H1 s1 hf0 vB=>?_};obtain⟨_,t,e,hp,ht⟩:=id ha;cases e;have l4:=fa.1;refine{_,rfl,_,_,_,_,rfl,rfl,bF.of (s1 _ _ hp),rfl,t,rfl,{_,bF.of (s1 _ _ ht)},zc (K:=K) (a:=t) (xs:=a.2.map V.str) (λi ys H2=>H2=H1/\i<=a.2.length/\ys=((a.2.take i).filter λt=>decide (t∉hU kept a.2)).map V.str) (-28) {rfl,aP _,rfl} ?_ ?_ ?_}
 ·rintro i ys H2 hi ⟨rfl,_,rfl⟩;refine{bF.of (s1 _ _ ht),?_};rw[ak];exact aD (cj _ _) (by rw[aT];lia)
 ·rintro i x ys H2 N hx ⟨rfl,hi,rfl⟩ vD;obtain⟨z,hz,rfl⟩:=js hx;have bK:i<a.2.length:=(ax.mp hz).1;refine{_,rfl,_,rfl,fr,_,rfl,.inl (bp.of vB),rfl,Ho _,_,rfl,?_};rw[B6];have en:(a.2.take (i+1)).filter (λt=>decide (t∉hU kept a.2))=(a.2.take i).filter (λt=>decide (t∉hU kept a.2))++if z∈hU kept a.2 then[]else[z]:=by rw[bh,hz,cL,ff];congr 1;by_cases c:z∈hU kept a.2<;>simp[c]
  by_cases c:z∈hU kept a.2
  ·refine fo (λq=>by simp[c]at q) (λ_=>vD _ _ {rfl,bK,?_});rw[en,aC c,b6]
  ·refine fo (λ_=>{_,rfl,vD _ _ {rfl,bK,?_}}) (λq=>absurd (by simp[c]) q);rw[en,az c,aJ];rfl
 rintro ys H2 ⟨rfl,_,rfl⟩ kn abj;rw[ak,aV];have s2:=aM abj (.lst ((-48).map V.str));have OI:upd H2 kn (.lst ((-48).map V.str)) kn=some (.lst ((-48).map V.str)):=aw;have sJ:=s1.trans s2;have Bb:=s2 _ _ vB;generalize hH:(upd H2 kn (.lst _))=H3;have hH':upd H2 kn (.lst ((-48).map V.str))=H3:=hH;rw[hH']at s2 OI sJ Bb;clear hH hH';refine{_,rfl,_,rfl,kn,_,rfl,.inl {bp.of OI,λtk Q8=>?_}};have s4:=aM Q8 (.tup ((-48).map V.str));have Ua:upd H3 tk (.tup ((-48).map V.str)) tk=some (.tup ((-48).map V.str)):=aw;have rh:=sJ.trans s4;have C7:=s4 _ _ Bb;have Uk:=s4 _ _ OI;generalize (upd H3 tk (.tup ((-48).map V.str)))=H4 at s4 Ua rh C7 Uk⊢;refine{by show 2<=sizeLine;decide,λky hky=>?_};have s5:=aM hky (.tup [V.ref at_,V.ref tk]);have abf:upd H4 ky (.tup [V.ref at_,V.ref tk]) ky=some (.tup [V.ref at_,V.ref tk]):=aw;have xB:=rh.trans s5;have hf5:=s5 _ _ C7;have OH:=s5 _ _ Uk;have aa2:=s5 _ _ Ua;generalize (upd H4 ky (.tup [V.ref at_,V.ref tk]))=H5 at s5 abf xB hf5 OH aa2⊢;have oJ:=st.same xB;have sk:tD (-48):=λz hz=>fa.2.2.1 z (bV.mp hz).1;have lkn:(-48).length<=4:=aD (cj _ _) l4;have key:∀{H':Hp},dw H5 H'->jA K H' (vh a (-48)) ky:=λtp=>xS (T3 (bF.of abf) (bF.of (xB _ _ hp)) (bF.of (xB _ _ ht)) (bF.of aa2) fa.2.1 fa.2.2.1 sk) tp;obtain⟨kvs,ck,lk⟩:=id oJ.As;clear s1 s2 sJ rh s4 s5 vB Bb C7 OI Uk Ua hky Q8 abj;dsimp only[sA];refine IK λNX hNX=>?_;have go:∀(H6:Hp)(QP:List (-53))(d:Addr),SB td H5 H6->jw P w K H6 td (td::md::ex) fs QP->QP.length<=n+1->valN QP (vh a (-48))=some (.ref d)->NX [some (.ref self),some (.ref at_),some (.ref fr),some (.ref kn),some (.ref ky),none,none] H6:=λH6 QP d mq R5 lk6 hv6=>by
  refine hNX _ _ ?_;have tp6:=mq.tp ck.at_.qC;have ml:=oJ.sb mq R5 lk6;have abi:=mq _ _ (λz=>ck.at_.uF _ (by rw[<-z];exact OH)) OH;obtain⟨d',e',tv6⟩:=R5.all _ _ _ hv6;cases e';have et:Vf fs a (-48)=AskP.tails (dbT fs a.1) a.2 (-48) (hU kept a.2):=by show AskP.tails _ _ _ ((fN a.2).filter λt=>decide (t∉jU kept a.2))=_;rw[WN]
  rw[et]at tv6;refine{_,rfl,self,C,dx,_,_,rfl,ml.ins,O.c,O.tails,rfl,_,rfl,td,ky,QP,_,.ref d,rfl,rfl,R5.at_,key tp6,hv6,?_};refine{_,rfl,self,C,dx,_,_,rfl,ml.ins,O.c,O.kept,rfl,kl,kept,rfl,bp.of ml.xR,mo.nd,mo.len,λpd H7 s7 Uh ad7=>?_};have u4:=ml.same s7;obtain⟨qF,Hj,em⟩:=u4.wm;obtain⟨um,Kc⟩:=Hj.some;have Qy:∀u v,H7 md≠some (.de u v):=λu v e=>by rcases Hj.1 with q|⟨_,q⟩<;>rw[e]at q<;>cases q
  have GW:iN H7 md:=Hj.qC;refine{md,Qy,?_};refine{_,rfl,self,C,dx,_,_,rfl,u4.ins,O.c,O.maps,rfl,md,um,qF,rfl,Kc,Hj,λo=>?_};have EA:SB md H7 (upd H7 md (.de o um)):=λb u n e=>by rw[aE n];exact e
  have Ii:=EA.tp GW;have Zn:=(tv6.same s7).fr (λb u n e=>EA b u (λz=>n (by rw[z];exact aB _ aA)) e) Ii;have abh:upd H7 md (.de o um) kn=some (.lst ((-48).map V.str)):=EA _ _ (λz=>Hj.uF _ (by rw[<-z];exact s7 _ _ abi)) (s7 _ _ abi);have pdm:pd≠md:=λz=>by obtain⟨_,h1,_⟩:=ml.wm;obtain⟨_,h2⟩:=h1.some;rw[z,h2]at Uh;cases Uh
  have aa4:upd H7 md (.de o um) pd=some (.dK (placesK kept)):=EA _ _ pdm ad7;have wB:upd H7 md (.de o um) md=some (.de o um):=aw;have avf:∀b∈td::md::ex,∃u,upd H7 md (.de o um) b=some u:=λb hb=>by
   by_cases z:b=md
   ·exact{_,by rw[z];exact wB}
   ·have go7:∀{u:HO},H7 b=some u->∃u,upd H7 md (.de o um) b=some u:=λ{u} e=>{u,by rw[aE z];exact e};by_cases z2:b=td
    ·obtain⟨_,h⟩:=R5.at_.some;exact go7 (s7 _ _ (by rw[z2];exact h))
    ·have Ry:b∈ex:=by
      rcases aG.mp hb with h|h
      ·exact absurd h z2
      ·exact(aG.mp h).resolve_left z
     obtain⟨_,h⟩:=hex b Ry;exact go7 (s7 _ _ (mq _ _ z2 (xB _ _ h)))
  have QM:qF.length=maps.length:=by have:=bU List.length em;unfold sZ at this;rw[ak,ak]at this;exact this
  have gv:∀(i:Nat)(q:NK×Addr×V),qF[i]?=some q->∃x,maps[i]?=some x/\bF K H7 q.2.1 (x.1.map V.str):=λi q hq=>by
   have e1:(sZ maps)[i]?=some (q.1,q.2.2):=by rw[<-em,aK,hq];rfl
   unfold sZ at e1;rw[aK]at e1;obtain⟨x,e2,e3⟩:=aX.mp e1;have e4:eY x.1=q.1:=bU Prod.fst e3;have:=(Hj.2 q (aH hq)).1;rw[<-e4]at this;exact{x,e2,ER this}
  generalize WG:upd H7 md (.de o um)=Hf at Zn abh aa4 wB Ii avf⊢;refine zd (d:=md) (o:=o) (u:=um) (kvs:=qF.map λp=>(V.ref p.2.1,p.2.2)) (λi ys H8=>bq Hf H8/\i<=maps.length/\zj K H8 (td::md::ex) fs kept a ys (maps.take i)) (by rw[ak,QM];exact eJ mo.je (-8)) {λ_ _ x=>x,aP _,.nil} ?_ ?_ ?_
  ·rintro i ys H8 hi ⟨s8,Wr,tl⟩;refine{s8 _ _ wB,?_};rw[bw tl,aT];lia
  ·rintro i kv ys H8 N jd ⟨s8,Wr,tl⟩ vD;rw[aK]at jd;obtain⟨q,hq,rfl⟩:=aX.mp jd;obtain⟨x,hx,hg⟩:=gv i q hq;have bK:i<maps.length:=(ax.mp hx).1;obtain⟨g1,g2⟩:=mo.row x (aH hx);obtain⟨_,kvt,We,nF⟩:=Zn.same s8;refine gq ?_;refine{_,rfl,d,kvt,rfl,We,_,rfl,_,rfl,_,rfl,kn,pd,q.2.1,jU kept a.2,kept,x.1,rfl,.inl (bp.of (s8 _ _ abh)),s8 _ _ aa4,mo.nd,iq (o9 hg Ii) s8,g1,by lia,mo.len,λr H9 s9 Wk hr9=>?_};refine{by show 0<=sizeLine;decide,λl0 mB=>?_};have mw:=s9.trans (aM mB (.lst ([]:Aao)));have yW:upd H9 l0 (.lst []) l0=some (.lst []):=aw;have aa3:=(aM mB (.lst ([]:Aao))) _ _ hr9;generalize (upd H9 l0 (.lst []))=yx at mw yW aa3⊢;obtain⟨_,ads,ad4,abn⟩:=Zn.same (s8.trans mw);refine{r,ads,eY (AskP.image kept x.1 (-48)),rfl,ad4,yU (bF.of aa3) (GD g2 sk),vD _ _ {s8.trans mw,bK,?_}};rw[bh,hx];refine(Ij tl mw).snoc ?_;rcases abn (AskP.image kept x.1 (-48))with⟨h1,h2⟩|⟨l,zs,h1,h4,h2,h3⟩
   ·refine{l0,[],by rw[h1];rfl,λz=>?_,yW,?_}
    ·obtain⟨u,e⟩:=avf l0 z;rw[s9 _ _ (s8 _ _ e)]at mB;cases mB
    unfold uX;rw[h2];exact .nil
   ·exact{l,zs,by rw[h1];rfl,h4,h2,h3}
  ·rintro ys H8 ⟨s8,_,tl⟩ l hl;rw[ak,QM,aV]at tl;have s9:=s8.trans (aM hl (-39));have Ba:upd H8 l (-39) l=some (-39):=aw;have tl9:=Ij tl (aM hl (-39));have lmd:l≠md:=λz=>by rw[z,s8 _ _ wB]at hl;cases hl
   have h7l:H7 l=none:=by
    cases e:H7 l with
    |none=>rfl
    |some u=>
     have:Hf l=some u:=by rw[<-WG,aE lmd];exact e
     rw[s8 _ _ this]at hl;cases hl
   generalize (upd H8 l (-39))=H9 at s9 Ba tl9⊢;refine{o,um,s9 _ _ wB,?_};have sF:bq H7 (upd H9 md um):=λb u e=>by
    by_cases z:b=md
    ·rw[z,Kc]at e;cases e;rw[z,aw]
    ·rw[aE z];exact s9 _ _ (by rw[<-WG,aE z];exact e)
   have nt9:iN H9 md:=λxs q=>by have e9:=s9 _ _ wB;rcases q with q|⟨o',q⟩<;>rw[e9]at q<;>cases q;exact GW xs (.inl Kc)
   have sb9:SB md H9 (upd H9 md um):=λb u n e=>by rw[aE n];exact e
   have tlF:zj K (upd H9 md um) (td::md::ex) fs kept a ys maps:=Ik tl9 (λb u n e=>sb9 b u (λz=>n (by rw[z];exact aB _ aA)) e) (sb9.tp nt9);have WL:H6 l=none:=s7.free h7l;have RD:H l=none:=by
    cases e:H l with
    |none=>rfl
    |some u=>
     by_cases z:l=td
     ·obtain⟨_,h⟩:=R5.at_.some;rw[z,h]at WL;cases WL
     ·rw[mq _ _ z (xB _ _ e)]at WL;cases WL
   exact k l ys _ (((SB.same xB).trans mq).trans (SB.same (s7.trans sF))) RD (by rw[aE lmd];exact Ba) (u4.same sF) tlF
 refine{_,rfl,_,rfl,self,C,dx,_,_,rfl,oJ.ins,O.c,O.tails,rfl,td,ky,kvs,_,rfl,rfl,ck.at_,key (dw.refl _),_,rfl,?_};refine fo (-62) (-62)
 ·have hv:valN kvs (vh a (-48))=none:=by simpa using c
  refine{_,rfl,self,C,dx,_,_,rfl,oJ.ins,O.c,O.tables,rfl,_,rfl,_,_,_,_,rfl,rfl,bF.of (xB _ _ hp),rfl,tb,fs,a.1,rfl,oJ.tab.b,λrl zJ H6 s6 aeL A7 MT _=>?_};have ml:=oJ.same s6;have AF:=xB.trans s6;refine{_,rfl,_,_,_,_,rfl,rfl,bF.of (AF _ _ hp),rfl,_,rfl,_,rfl,rl,t,kn,fr,zJ,dbT fs a.1,a.2,jU kept a.2,hU kept a.2,rfl,bp.of A7,MT,AF _ _ ht,bp.of (s6 _ _ OH),bp.of (s6 _ _ hf5),?_,λr hr=>?_,by lia,by lia,?_,λz hz=>(bV.mp hz).1,λz hz=>(uM (bV.mp hz).1).resolve_left (λh=>by cases h),λd H7 s7 gE tv=>?_}
  ·exact aD (uy _) (aD (oJ.tab.good a.1).1 (-8))
  ·obtain⟨_,h2,h3⟩:=(oJ.tab.good a.1).2 r ((hG _ _).mp hr);exact{by lia,λz hz=>sI (h3 z hz)}
  ·have:=DJ a.2;exact aD (cj _ _) ∅
  have u4:=ml.same s7;have Vt:=s6.trans s7;have ck7:=ck.same Vt;have av:∀b∈td::md::ex,H6 b≠none:=λb hb=>by
   rcases aG.mp hb with rfl|hb
   ·obtain⟨_,h⟩:=ck.at_.some;rw[s6 _ _ h];simp
   ·rcases aG.mp hb with rfl|hb
    ·obtain⟨_,h1,_⟩:=ml.wm;obtain⟨_,h⟩:=h1.some;rw[h];simp
    ·obtain⟨_,h⟩:=hex b hb;rw[AF _ _ h];simp
  refine{_,rfl,self,C,dx,_,_,rfl,u4.ins,O.c,O.tails,rfl,_,rfl,td,ky,kvs,_,rfl,rfl,ck7.at_,key (dw.same Vt),by lia,?_};have tv2:iz P w K H7 (td::md::ex) d (Vf fs a (-48)):=by show iz P w K H7 (td::md::ex) d (AskP.tails _ _ _ ((fN a.2).filter λt=>decide (t∉jU kept a.2)));rw[WN];exact tv _ av
  exact go _ _ d ((SB.same Vt).trans λb u n e=>by rw[aE n];exact e) (ck7.add aA (key (dw.same Vt)) tv2) (aD vf ∅) (by rw[pW,aC rfl])
 ·obtain⟨v,hv⟩:=Option.ne_none_iff_exists'.mp (show ¬valN kvs (vh a (-48))=none by simpa using c);obtain⟨d,rfl,_⟩:=ck.all _ _ _ hv;exact go H5 kvs d (λ_ _ _ e=>e) ck ∅ hv
def iK.mono(x:iK P w K C H self dx tb kl md td ex fs kept maps n)(l:n<=m):iK P w K C H self dx tb kl md td ex fs kept maps m:=
 {x.ins,x.tab,x.xR,x.wm,let⟨kvs,h1,h2⟩:=x.As;{kvs,h1,aD h2 l},x.nm,x.nt,x.ke}
def By(h:mG H v a)(s:SB td H H')(nt:iN H td):mG H' v a:=by obtain⟨p,t,e,h1,h2⟩:=h;exact{p,t,e,s _ _ (λz=>nt _ (.inl (by rw[<-z];exact h1))) h1,s _ _ (λz=>nt _ (.inl (by rw[<-z];exact h2))) h2}
def FC(h:fh H vs as)(s:SB td H H')(nt:iN H td):fh H' vs as:=by
 induction h with
 |nil=>exact .nil
 |cons h _ ih=>exact .cons (By h s nt) ih
def iK.Mw(x:iK P w K C H self dx tb kl md td ex fs kept maps n):iN H td/\∀l,H td≠some (.lst l):=by obtain⟨_,c0,_⟩:=x.As;exact{c0.at_.qC,c0.at_.uF}
inductive PN(P:Program)(w:World)(K:Frag)(C:Addr)(vs:Aao)(H:Hp)(Q:VK)(_x3:XK):Prop
 |mk (self l dx tb kl md td:Addr) (ex:Aaj) (fs:List En) (kept:Aah) (maps:Cm) (n:Nat) (ys:Aao) (ats:Aaa) (_:vs=[.ref self,.ref l]) (_:iK P w K C H self dx tb kl md td ex fs kept maps n) (_:H l=some (.lst ys)) (_:fh H ys ats) (_:(∀a∈ats,FinA a)) (_:0<ats.length) (_:ats.length<=100) (_:FG kept maps) (_:n+100<=1000000) (_:(∀b∈ex,b≠td/\∃u,H b=some u)) (_:∀(i:Nat)(H':Hp),i<ats.length->SB td H H'->iK P w K C H' self dx tb kl md td ex fs kept maps (n+100)->Q (.int i) H')
structure Db6(P:Program)(w:World)(K:Frag)(mg:Aad)(base:Heap)(C:Addr):Prop where
 jo:qY P w K mg base C 5 "tails_of_maps" ["self","atom"] (NL P w K C)
def ir:cD ["self","atoms","best","fewest","place","atom","count"] ["self","atoms"] (defScope rJ):=jD (-3)
def Yb(F:fu K "best_place" "Asking.best_place" rJ f fd)(T:Txt K mg)(O:Ee K C)(D:Db6 P w K mg base C):dk P w K mg base fU 6 f fd ["self","atoms"] (PN P w K C):=by
 refine F.ok ir (λ_ _ _ _ h=>by cases h;subst_vars;rfl) (-4);obtain⟨self,l,dx,tb,kl,md,td,ex,fs,kept,maps,n,ys,ats,rfl,st,hl,rm,fa,l0,l1,mo,hn,hex,k⟩:=h;have hu:=kj hr;have hN:=yY hr;have cC:=O.c;refine{_,(aN (xG (iZ (dR bj xI)) (iY rfl (cA (iu 2 ir) (cA (iu 3 ir) g9)))) (aN (fR bS rfl (FT rfl T.wZ (cz (pv 1))) (iY rfl (cA (iu 4 ir) (cA (iu 5 ir) g9))) (aN (fK 6 ir (cW (UW rfl) rfl T.acj (-3) (cz (hE rfl (cU (fs:=[]) (fr:=[])) (fX (MC cC D.jo hr (pv 0) (cz (pv 5)) ∅)) (λ_ _ _ _=>(cW (Br (K:=K)) rfl T.kW dj (cz (pv 0)))))))) (aN (gJ (PW.pt (EE (dh aao (pv 3) xI (eX _)) (ED (dh ach (pv 6) (pv 3) (eX _))))) (ba (aah (i:=2) (j:=3) rfl ir.nd rfl rfl (-8) rfl rfl (dR (pv 4) (pv 6)) rfl)) eG) (ba (gJ (dh N9 (pv 6) (cW R7 rfl T.kW dj (cz (mx (pv 0) rfl))) (eX _)) (ba (cN (pv 4))) eG))))) (ba (cN (pv 2))))),?_}
 have ly:ys.length=ats.length:=bw rm;obtain⟨nt0,Qx⟩:=st.Mw;have mB:∀{H':Hp},SB td H H'->H' l=some (-39):=λsb=>sb _ _ (λz=>Qx _ (by rw[<-z];exact hl)) hl;refine{by show 2<=sizeLine;decide,λp hp=>{p,_,rfl,bF.of aw,rfl,_,_,rfl,_,_,rfl,rfl,?_}};have s1:=aM hp (.tup [V.int 0,V.cE]);refine{_,rfl,l,rfl,{_,bp.of (s1 _ _ hl)},DS (K:=K) (a:=l) (xs:=ys)
  (λi Z H2=>∃(b:Nat)(fw:V)(x4 x5 x6:Aap),Z=[some (.ref self),some (.ref l),some (.int b),some fw,x4,x5,x6]/\SB td H H2/\iK P w K C H2 self dx tb kl md td ex fs kept maps (n+i)/\b<ats.length/\(fw=.cE\/∃c,fw=.int c))
  {0,.cE,none,none,none,rfl,SB.same s1,st.same s1,l0,.inl rfl} (λi Z H2 _ hq=>by(obtain⟨_,_,_,_,_,_,sb,_⟩:=hq;exact bp.of (mB sb))) ?_ ?_}
 ·rintro i x q Z H2 hx ⟨b,fw,x4,x5,x6,rfl,EB,pX,hb,Wv⟩ hq;obtain⟨a,ha,hxa⟩:=Paired.at rm hx;have bK:i<ats.length:=(ax.mp ha).1;have s3:=aM hq (.tup [V.int i,x]);refine{q,_,rfl,bF.of aw,rfl,_,_,rfl,_,_,rfl,rfl,?_};have GJ:=EB.trans (SB.same s3);have ub:=pX.same s3;generalize (upd H2 q (.tup [V.int i,x]))=H3 at s3 GJ ub⊢;obtain⟨ap,at_,rfl,_⟩:=id hxa;refine{_,rfl,self,dx,_,rfl,ub.ins,rfl,_,rfl,self,ap,dx,tb,kl,md,td,ex,fs,kept,maps,n+i,a,rfl,ub,By hxa GJ nt0,fa a (aH ha),mo,by lia,λb hb=>{_,GJ _ _ (hex b hb).1 (hex b hb).2.choose_spec},λtl tys H4 sb4 T9 aa1 wc qJ=>?_};have CP:tys.length=maps.length:=bw qJ;refine{tl,rfl,{_,bp.of aa1},jg (K:=K) (a:=tl) (xs:=tys) (λj zs H5=>H5=H4/\j<=maps.length/\zs=((maps.take j).map λx=>((uX fs kept a x.1).length:Int)).map V.int) (by rw[CP];exact eJ mo.je (-8)) {rfl,aP _,rfl} ?_ ?_ ?_}
  ·rintro j zs H5 hj ⟨rfl,_,rfl⟩;refine{bp.of aa1,?_};rw[ak,ak,aT];lia
  ·rintro j x zs H5 N hx5 ⟨rfl,hj,rfl⟩ vD;obtain⟨y,hy,t,zz,rfl,_,ht,MT⟩:=Paired.at' qJ hx5;have sV:j<maps.length:=(ax.mp hy).1;refine gq ?_;refine{_,rfl,_,_,rfl,.inl {_,bp.of ht,rfl},vD _ _ {rfl,sV,?_}};rw[bh,hy,aJ,aJ,MT.length];rfl
  rintro zs H5 ⟨rfl,_,rfl⟩ sl He;rw[CP,aV];refine{sl,_,rfl,bp.of aw,?_};have s6:=aM He (.lst ((maps.map λx=>((uX fs kept a x.1).length:Int)).map V.int));have ml:=wc.same s6;have mq:=GJ.trans (sb4.trans (SB.same s6));generalize (upd H5 sl (.lst ((maps.map λx=>((uX fs kept a x.1).length:Int)).map V.int)))=H6 at s6 ml mq⊢;generalize (maps.map λx=>((uX fs kept a x.1).length:Int)).sum=cn;dsimp only[sA];refine IK λNX hNX=>?_;have go:∀(b:Nat)(fw:V)(H7:Hp),b<ats.length->(fw=.cE\/∃c,fw=.int c)->SB td H H7->iK P w K C H7 self dx tb kl md td ex fs kept maps (n+i+1)->NX [some (.ref self),some (.ref l),some (.int b),some fw,some (.int i),some (.ref ap),some (.int cn)] H7:=λb fw H7 hb Wv Ax u4=>by
   refine hNX _ _ ?_;obtain⟨qF,Hj,em⟩:=u4.wm;refine{_,rfl,_,rfl,self,C,dx,_,_,rfl,u4.ins,O.c,O.maps,rfl,md,qF,rfl,Hj,_,_,rfl,rfl,_,rfl,?_};refine fo (-62) (-62)
   ·exact{_,rfl,k i H7 bK Ax (u4.mono ∅)}
   ·exact⟨b,fw,_,_,_,rfl,Ax,u4,hb,Wv⟩
  rcases Wv with rfl|⟨c,rfl⟩
  ·exact{_,rfl,rfl,_,rfl,F2 (F2 {_,rfl,_,rfl,_,_,rfl,go i _ H6 bK (.inr ⟨_,rfl⟩) mq ml})}
  ·refine{_,rfl,rfl,_,rfl,vy {_,rfl,_,rfl,_,_,rfl,rfl,_,rfl,fo (-62) (-62)}}
   ·exact{_,rfl,_,rfl,_,_,rfl,go i _ H6 bK (.inr ⟨_,rfl⟩) mq ml}
   ·exact go b _ H6 hb (.inr ⟨_,rfl⟩) mq ml
 ·rintro Z H2 ⟨b,fw,x4,x5,x6,rfl,EB,pX,hb,Wv⟩;exact{_,rfl,k b H2 hb EB (pX.mono ∅)}
def Ts(h:X.K=K:=by rfl):jh X (binaryOp .Add) (NT K):=h▸FV
abbrev A1(fs:List En)(kept:Aah)(a:Str×Aah)(maps:Cm):Cm:=AskP.longer maps (dbT fs a.1) a.2 kept (-48) (hU kept a.2)
def TR{maps:Cm}(h:maps[i]?=some x):A1 fs kept a (maps.take (i+1))=A1 fs kept a (maps.take i)++(uX fs kept a x.1).map λt=>(x.1++t,x.2):=by unfold A1 AskP.longer;rw[bh,h,cL,Aj,o6,List.flatMap_nil,b6];rfl
def Ym(h:y∈A1 fs kept a maps):∃x∈maps,∃t∈uX fs kept a x.1,y=(x.1++t,x.2):=by unfold A1 AskP.longer at h;obtain⟨x,hx,h⟩:=j6.mp h;obtain⟨t,ht,rfl⟩:=aR.mp h;exact⟨x,hx,t,ht,rfl⟩
def LV(tb:gY K H p fs)(h:t∈uX fs kept a v):t.length=(hU kept a.2).length/\tD t:=by
 unfold uX AskP.tails at h;obtain⟨r,hr,rfl⟩:=aR.mp h;obtain⟨h1,h2⟩:=bV.mp hr;rw[bB]at h2;have le:r.length=a.2.length:=by have:=h2.1;unfold AskP.mV at this;rw[bB]at this;exact bo this.1
 obtain⟨_,_,h3⟩:=(tb.good a.1).2 r ((hG _ _).mp h1);exact{ak _,PU (λz hz=>sI (h3 z hz)) le λz hz=>(uM (bV.mp hz).1).resolve_left λh=>by cases h}
theorem B3(tb:gY K H p fs):∀{maps:Cm},(A1 fs kept a maps).length<=5*maps.length
 |[]=>ar _
 |x::maps=>by have h1:=B3 tb (kept:=kept) (a:=a) (maps:=maps);have h2:=LW tb kept a x.1;unfold A1 AskP.longer at h1⊢;unfold uX at h2;rw[o6,aO,ak,bx];lia
def yD(ts:Aah):(fN ts).Nodup:=by
 have gen:∀(l acc:Aah),acc.Nodup->(l.foldl step acc).Nodup:=by
  intro l
  induction l with
  |nil=>intro acc h;exact h
  |cons t l ih=>
   intro acc h;refine ih _ ?_;unfold step;split
   ·split
    ·exact h
    ·next c=>exact eB.mpr {h,kC _ _,λa ha b hb=>by rw[ay.mp hb];exactλz=>c (by rw[<-z];exact ha)}
   ·exact h
 exact gen ts [] .nil
def Lw(ts:Aah)(nd:kept.Nodup):(kept++hU kept ts).Nodup:=
 eB.mpr {nd,(yD ts).sublist (mO),λx hx y hy e=>by have:=(bV.mp hy).2;rw[iG]at this;exact this (by rw[<-e];exact hx)}
def nv(h:Paired (wI K H) zs m)(t:dw H H'):Paired (wI K H') zs m:=by
 induction h with
 |nil=>exact .nil
 |cons h _ ih=>exact .cons (Jw h t) ih
theorem Jv:∀{l₁ m₁:List α}{aac m₂:List β},Paired F l₁ aac->Paired F m₁ m₂->Paired F (l₁++m₁) (aac++m₂)
 |_,_,_,_,.nil,h=>h
 |_,_,_,_,.cons q t,h=>.cons q (Jv t h)
def iz.EO(x:iz P w K H av d f)(h:H me=some (.ins C dx l0)):iz P w K H (me::av) d f:=by
 obtain⟨h0,kvs,h1,h2⟩:=x;refine{λz=>?_,kvs,h1,λzs=>(h2 zs).imp id λ⟨l,ys,a,n,b,c⟩=>{l,ys,a,λz=>?_,b,c}}
 ·rcases aG.mp z with z|z
  ·exact h1.EO (by rw[z];exact h)
  ·exact h0 z
 ·rcases aG.mp z with z|z
  ·rw[z,h]at b;cases b
  ·exact n z
def jw.to(x:jw P w K H td av fs kvs)(t:dw H H')(e:H' td=H td)(h:∀d f,iz P w K H av d f->iz P w K H' av' d f):jw P w K H' td av' fs kvs:=
 {x.at_.tp t e,λa known v q=>by obtain⟨d,e1,e3⟩:=x.all a known v q;exact{d,e1,h _ _ e3}}
inductive PK(P:Program)(w:World)(K:Frag)(C:Addr)(vs:Aao)(H:Hp)(Q:VK)(_x3:XK):Prop
 |mk (self at_ nd dx tb kl md td:Addr) (ex:Aaj) (fs:List En) (kept:Aah) (maps:Cm) (n:Nat) (a:Str×Aah) (need:Str->Bool) (_:vs=[.ref self,.ref at_,.ref nd]) (_:iK P w K C H self dx tb kl md td ex fs kept maps n) (_:mG H (.ref at_) a) (_:FinA a) (_:FG kept maps) (_:kept.length<=90) (_:n<=900000) (_:abJ H nd (λz=>need z=true)) (_:nd≠td) (_:(∀b∈ex,b≠td/\∃u,H b=some u)) (_:∀(rj zM:Addr)(H':Hp),(∀b u,b≠td->b≠self->H b=some u->H' b=some u)->iK P w K C H' self dx tb rj zM td ex fs ((kept++hU kept a.2).filter need) (AskP.narrowed (A1 fs kept a maps) (kept++hU kept a.2) ((kept++hU kept a.2).filter need)) (n+1)->Q .cE H')
structure Dk6(P:Program)(w:World)(K:Frag)(mg:Aad)(base:Heap)(C:Addr):Prop where
 iR:qY P w K mg base C 4 "fresh_unknowns" ["self","atom"] (Dp P w K C)
 jo:qY P w K mg base C 5 "tails_of_maps" ["self","atom"] (NL P w K C)
 narrowed:dP P w K mg base 3 "narrowed" ["counted_maps","unknowns","terms"] (yH P w K)
def nj:cD ["self","atom","needed","bound","longer","counted_map","tails","given","count"] ["self","atom","needed"] (defScope Du):=jD (-3)
def X6(F:fu K "take" "Asking.take" Du f fd)(T:Txt K mg)(O:Ee K C)(D:Dk6 P w K mg base C):dk P w K mg base fU 6 f fd ["self","atom","needed"] (PK P w K C):=by
 refine F.ok nj (λ_ _ _ _ h=>by cases h;subst_vars;rfl) (-4);obtain⟨self,at_,nd,dx,tb,kl,md,td,ex,fs,kept,maps,n,a,need,rfl,st,ha,fa,mo,lk,hn,Hi,Mz,hex,k⟩:=h;have hu:=kj hr;have hN:=yY hr;have cC:=O.c;refine{_,(aN (fK 3 nj (dM aar (mx (pv 0) rfl) (MC cC D.iR hr (pv 0) (cz (pv 1)) ∅))) (aN (fK 4 nj (fb gN)) (aN (Jc (fR bS rfl (XW rfl T.ES (dR (GQ (mx (pv 0) rfl)) (MC cC D.jo hr (pv 0) (cz (pv 1)) ∅))) (iY rfl (cA (iu 5 nj) (cA (iu 6 nj) g9))) (aN (xG (pv 5) (iY rfl (cA (ot (i:=7) nj.nd rfl (Or.inr rfl)) (cA (ot (i:=8) nj.nd rfl (Or.inr rfl)) g9)))) (ba (lC (ox dc nR nP GZ (pv 4) (cz (hE rfl (cU (fs:=["given","count"]) (fr:=[7,8])) (fX (pv 6)) (λ_ _ _ _=>(iZ (dR (dM (Ts (K:=K)) (pv 1) (pv 0)) (pv 2)))))))))))) (aN (xF (pv 0) (qb rfl (cU (fs:=["needed"]) (fr:=[2])) (fX (pv 3)) (λ_ _ _ _=>(Jb (Jt hu (pv 0) (pv 1)))) (λ_ _ _ _=>(pv 0))) rfl) (ba (xF (pv 0) (cl D.narrowed hr (sN (pv 4) (pv 3) (mx (pv 0) rfl))) rfl)))))),?_}
 refine{_,rfl,self,C,dx,_,_,rfl,st.ins,O.c,O.kept,rfl,_,rfl,self,dx,_,rfl,st.ins,rfl,_,rfl,self,at_,dx,tb,kl,md,td,ex,fs,kept,maps,n,a,rfl,st,ha,fa,λfr H1 s1 hf0 vB=>?_};have lu:(hU kept a.2).length<=4:=aD (cj _ _) (aD (DJ a.2) fa.1);have lb:(-43).length<=100:=by rw[aO];lia
 refine{kl,fr,_,_,rfl,rfl,s1 _ _ st.xR,vB,?_,λbd hbd=>?_}
 ·rw[ak,ak,<-aO];exact bu (bC ∅)
 have s2:=aM hbd (.lst (kept.map V.str++(hU kept a.2).map V.str));have Ry:upd H1 bd (.lst (kept.map V.str++(hU kept a.2).map V.str)) bd=some (.lst ((-43).map V.str)):=by rw[aw,aJ]
 have sJ:=s1.trans s2;generalize (upd H1 bd (.lst (kept.map V.str++(hU kept a.2).map V.str)))=H2 at s2 Ry sJ⊢;refine{by show 0<=sizeLine;decide,λlg Rl=>?_};have s3:=aM Rl (.lst ([]:Aao));have mW:upd H2 lg (.lst ([]:Aao)) lg=some (.lst []):=aw;have CK:=sJ.trans s3;have lg0:H lg=none:=sJ.free Rl;have blg:bd≠lg:=bf Ry Rl;have hb3:=s3 _ _ Ry;have pX:=st.same sJ;have ub:iK P w K C (upd H2 lg (.lst ([]:Aao))) self dx tb kl md td (lg::ex) fs kept maps n:=by
  obtain⟨kvs,ck,l⟩:=pX.As;have c3:jw P w K H2 td (td::md::lg::ex) fs kvs:={ck.at_,λa known v h=>by
   obtain⟨d,e,tv⟩:=ck.all a known v h;exact{d,e,(tv.more Rl).less λb hb=>by simp only[aG]at hb⊢;rcases hb with h|h|h|h<;>simp[h]}}
  have x:=pX.same s3;exact{x.ins,x.tab,x.xR,x.wm,{kvs,c3.same s3,l},x.nm,x.nt,λz=>(aG.mp z).elim (bf pX.xR Rl) pX.ke}
 generalize (upd H2 lg (.lst ([]:Aao)))=H3 at s3 mW CK hb3 ub⊢;obtain⟨nt3,nl3⟩:=ub.Mw;obtain⟨adt,hm3,_⟩:=id ub.wm;have Qy:∀u v,H3 md≠some (.de u v):=λu v e=>by rcases hm3.1 with q|⟨_,q⟩<;>rw[e]at q<;>cases q
 refine{md,Qy,?_};refine{_,rfl,self,C,dx,_,_,rfl,ub.ins,O.c,O.maps,rfl,md,adt,rfl,hm3,λvw xX=>?_};have s4:=aM xX (.ext (uq vw md));have hv4:upd H3 vw (.ext (uq vw md)) vw=some (.ext (uq vw md)):=aw;have wc:=ub.same s4;have rh:=CK.trans s4;have vtd:vw≠td:=λz=>by obtain⟨_,c,_⟩:=ub.As;obtain⟨_,h⟩:=c.at_.some;rw[z,h]at xX;cases xX
 have wD:=s4 _ _ mW;have hb4:=s4 _ _ hb3;generalize (upd H3 vw (.ext (uq vw md)))=H4 at s4 hv4 wc rh wD hb4⊢;obtain⟨nt4,VJ⟩:=wc.Mw;refine{_,rfl,self,dx,_,rfl,wc.ins,rfl,_,rfl,self,at_,dx,tb,kl,md,td,lg::ex,fs,kept,maps,n,a,rfl,wc,sD ha rh,fa,mo,by lia,λb hb=>(aG.mp hb).elim (λz=>{.lst [],by rw[z];exact wD}) λz=>{_,rh _ _ (hex b z).2.choose_spec},λtl tys H5 GI T9 T8 oJ qJ=>?_};obtain⟨qF,wC,em⟩:=id oJ.wm;obtain⟨um,Kc⟩:=wC.some;have E7:H5 lg=some (.lst []):=GI _ _ (λz=>VJ _ (by rw[<-z];exact wD)) wD;have hb5:=GI _ _ (λz=>VJ _ (by rw[<-z];exact hb4)) hb4;have tlg:tl≠lg:=λz=>by rw[z,wD]at T9;cases T9
 refine{vw,md,um,tl,qF,tys,rfl,GI _ _ vtd hv4,Kc,wC,bp.of T8,λo=>?_};have CP:tys.length=maps.length:=bw qJ;have QM:qF.length=maps.length:=by have:=bU List.length em;unfold sZ at this;rw[ak,ak]at this;exact this
 have GW:=wC.qC;have EA:SB md H5 (upd H5 md (.de o um)):=λb u n e=>by rw[aE n];exact e
 have Ii:=EA.tp GW;have nlm:∀{b:Addr}{l:Aao},H5 b=some (.lst l)->b≠md:=λ{b l} e z=>wC.uF l (by rw[<-z];exact e);have C6:=EA _ _ (nlm E7) E7;have aa0:=EA _ _ (nlm T8) T8;have aaZ:=Ik qJ (λb u n e=>EA b u (λz=>n (by rw[z];exact aB _ aA)) e) Ii;have wB:upd H5 md (.de o um) md=some (.de o um):=aw;have gv:∀(i:Nat)(q:NK×Addr×V),qF[i]?=some q->∃x,maps[i]?=some x/\q.2.2=.int x.2/\bF K (upd H5 md (.de o um)) q.2.1 (x.1.map V.str):=λi q hq=>by
  have e1:(sZ maps)[i]?=some (q.1,q.2.2):=by rw[<-em,aK,hq];rfl
  unfold sZ at e1;rw[aK]at e1;obtain⟨x,e2,e3⟩:=aX.mp e1;have e4:eY x.1=q.1:=bU Prod.fst e3;have e5:V.int x.2=q.2.2:=bU Prod.snd e3;have:=(wC.2 q (aH hq)).1;rw[<-e4]at this;exact{x,e2,e5.symm,o9 (ER this) Ii}
 generalize WG:upd H5 md (.de o um)=Hf at C6 aa0 aaZ wB gv Ii⊢;have VF:iN Hf lg:=ny C6;refine Uz (K:=K) (d:=md) (l:=tl) (o:=o) (u:=um) (kvs:=qF.map λp=>(V.ref p.2.1,p.2.2)) (ys:=tys)
  (λi Z H6=>∃x5 x6 x7 x8:Aap,Z=[some (.ref self),some (.ref at_),some (.ref nd),some (.ref bd),some (.ref lg),x5,x6,x7,x8]/\i<=maps.length/\SB lg Hf H6/\∃zs,H6 lg=some (.lst zs)/\Paired (wI K H6) zs (A1 fs kept a (maps.take i))) (by rw[ak,QM,CP])
  {none,none,none,none,rfl,aP _,λ_ _ _ e=>e,[],C6,.nil} (λi Z H6 _ ⟨_,_,_,_,_,_,sb,_⟩=>{sb _ _ (λz=>by rw[z,C6]at wB;cases wB) wB,bp.of (sb _ _ tlg aa0)}) ?_ ?_
 ·rintro i kv y p q Z H6 jd hy ⟨x5,x6,x7,x8,rfl,hi,mq,zs,rA,Ka⟩ hq hp;rw[aK]at jd;obtain⟨c,hc,rfl⟩:=aX.mp jd;obtain⟨x,hx,ex,hg⟩:=gv i c hc;have bK:i<maps.length:=(ax.mp hx).1;obtain⟨x',xW,t,zz,rfl,nt',ht,MT⟩:=Paired.at' aaZ hy;rw[hx]at xW;cases xW;have acU:t≠lg:=λz=>nt' (by rw[z];simp);dsimp only at hp hq⊢;rw[ex]at hp⊢;have s7:=(aM hq (.tup [V.ref c.2.1,V.int x.2])).trans (aM hp (.tup [V.ref q,V.ref t]));have hq7:upd (upd H6 q (.tup [V.ref c.2.1,V.int x.2])) p (.tup [V.ref q,V.ref t]) q=some (.tup [V.ref c.2.1,V.int x.2]):=(aM hp _) _ _ aw;refine{p,_,rfl,bF.of aw,rfl,_,_,rfl,_,_,rfl,rfl,?_};have Ax:=mq.trans (SB.same s7);have zS:=s7 _ _ rA;have V6:=nv Ka (dw.same s7);generalize (upd (upd H6 q (.tup [V.ref c.2.1,V.int x.2])) p (.tup [V.ref q,V.ref t]))=H7 at s7 hq7 Ax zS V6⊢;have tp7:=Ax.tp VF;have Hk:=o9 hg tp7;have ht7:=Ax _ _ acU ht;have MU:=iE MT tp7;have lzz:zz.length=(uX fs kept a x.1).length:=MT.length;have l7:=LW st.tab kept a x.1;refine{_,rfl,q,_,rfl,bF.of hq7,rfl,_,_,rfl,_,_,rfl,rfl,?_};refine{_,rfl,.inl {rfl,_,bp.of zS},_,rfl,t,rfl,{_,bp.of ht7},jg (K:=K) (a:=t) (xs:=zz) (λj ws H8=>bq H7 H8/\j<=zz.length/\Paired (wI K H8) ws (((uX fs kept a x.1).take j).map λt=>(x.1++t,x.2))) (bC ∅) {λ_ _ e=>e,aP _,.nil} ?_ ?_ ?_}
  ·rintro j ws H8 hj ⟨s8,hj2,hw⟩;refine{bp.of (s8 _ _ ht7),?_};rw[bw hw,ak,aT];lia
  ·rintro j v ws H8 N hv ⟨s8,hj,hw⟩ vD;obtain⟨u,xY,ua,rfl,hua⟩:=Paired.at' (cM MU s8) hv;have sV:j<zz.length:=(ax.mp hv).1;refine gq ?_;have hg8:=iq Hk s8;have fin:∀(r:Addr)(H9:Hp),bq H8 H9->bF K H9 r ((x.1++u).map V.str)->∀w9,H9 w9=none->N (ws++[.ref w9]) (upd H9 w9 (.tup [V.ref r,V.int x.2])):=λr H9 s9 hr9 w9 G7=>by have mw:=s9.trans (aM G7 (.tup [V.ref r,V.int x.2]));refine vD _ _ {s8.trans mw,sV,?_};rw[bh,xY,cL,aJ];exact(nv hw (dw.same mw)).snoc {w9,r,rfl,bF.of aw,iq hr9 (aM G7 _)}
   refine{_,rfl,_,rfl,c.2.1,ua,_,_,rfl,rfl,hg8,hua,?_,λe=>?_,λ_ e=>?_,λ_ _ r Wk=>?_}
   ·rw[ak,ak];have h1:=(mo.row x (aH hx)).1;have h2:=(LV st.tab (aH xY)).1;exact bu (bC ∅)
   ·have e':x.1=[]:=mN.mp e;exact{_,rfl,by show 2<=sizeLine;decide,λw9 G7=>fin ua H8 (λ_ _ e=>e) (by rw[e'];exact hua) w9 G7}
   ·have e':u=[]:=mN.mp e;exact{_,rfl,by show 2<=sizeLine;decide,λw9 G7=>fin c.2.1 H8 (λ_ _ e=>e) (by rw[e',b6];exact hg8) w9 G7}
   ·exact{_,rfl,by show 2<=sizeLine;decide,λw9 G7=>fin r _ (aM Wk _) (by rw[aJ];exact bF.of aw) w9 G7}
  rintro ws H8 ⟨s8,_,hw⟩ cl zU;rw[lzz,aV]at hw;have s9:=s8.trans (aM zU (.lst ws));have lws:ws.length<=5:=by rw[bw hw,ak];exact l7
  have lzs:zs.length<=5*maps.length:=by rw[bw Ka];refine aD (B3 st.tab) ?_;rw[aT];lia
  have lm:=mo.je;refine{lg,cl,zs,ws,rfl,rfl,s9 _ _ zS,aw,bu (eJ (show zs.length+ws.length<=4000000 by lia) (-8)),?_};have PF:dw (upd H8 cl (.lst ws)) (upd (upd H8 cl (.lst ws)) lg (.lst (zs++ws))):=dw.upd (ny (s9 _ _ zS));refine{_,_,_,_,rfl,bK,λb u n e=>?_,_,aw,?_}
  ·rw[aE n];exact s9 _ _ (Ax _ _ n e)
  ·rw[TR hx];exact Jv (nv V6 ((dw.same s9).trans PF)) (nv hw ((dw.same (aM zU (.lst ws))).trans PF))
 ·rintro Z H6 ⟨x5,x6,x7,x8,rfl,_,mq,zs,rA,Ka⟩;rw[ak,QM,aV]at Ka;have mlg:md≠lg:=λz=>by rw[z,C6]at wB;cases wB
  have hm6:=mq _ _ mlg wB;refine{o,um,hm6,?_};have K5:SB lg H5 (upd H6 md um):=λb u n e=>by
   by_cases z:b=md
   ·rw[z,Kc]at e;cases e;rw[z,aw]
   ·rw[aE z];exact mq _ _ n (by rw[<-WG,aE z];exact e)
  have nt6:iN H6 md:=λxs q=>by rcases q with q|⟨o',q⟩<;>rw[hm6]at q<;>cases q;exact GW xs (.inl Kc)
  have Ba:upd H6 md um lg=some (.lst zs):=by rw[aE (cb mlg)];exact rA
  have Kb:=nv Ka (dw.upd (o:=um) nt6);have SA:=K5.tp (ny E7);generalize (upd H6 md um)=H9 at K5 Ba Kb SA⊢;have hb9:=K5 _ _ blg hb5;have K0:SB td H H9:=λb u n e=>K5 _ _ (λz=>by rw[z,lg0]at e;cases e) (GI _ _ n (rh _ _ e));obtain⟨nt0,Qx⟩:=st.Mw;have acW:=st.tab.sb K0 nt0 Qx st.nt;obtain⟨kvd,OE,abd⟩:=Hi;have aee:=K0 _ _ Mz OE;have aaN:=K5 _ _ (λz=>by have q:=oJ.ins;rw[z,E7]at q;cases q) oJ.ins;obtain⟨VZ,c5,lc⟩:=oJ.As;have acT:td≠lg:=λz=>c5.at_.uF _ (by rw[z];exact E7);have c9:jw P w K H9 td (self::td::md::lg::ex) fs VZ:=by refine c5.to SA ?_ λd f tv=>(tv.fr (λb u n e=>K5 _ _ (λz=>n (by rw[z];simp)) e) SA).EO aaN;obtain⟨u,h⟩:=c5.at_.some;rw[h,K5 _ _ acT h]
  have lbd:((-43).map V.str).length=(-43).length:=ak _;refine{_,rfl,bd,rfl,{_,bp.of hb9},jg (K:=K) (a:=bd) (xs:=(-43).map V.str) (λj ws yx=>yx=H9/\j<=(-43).length/\ws=(((-43).take j).filter need).map V.str) (by rw[lbd];exact bC ∅) {rfl,aP _,rfl} ?_ ?_ ?_}
  ·rintro j ws yx hj ⟨rfl,_,rfl⟩;refine{bp.of hb9,?_};rw[ak];exact aD (cj _ _) (by rw[aT];lia)
  ·rintro j v ws yx N hv ⟨rfl,hj,rfl⟩ vD;obtain⟨z,hz,rfl⟩:=js hv;have sV:j<(-43).length:=(ax.mp hz).1;refine{_,rfl,_,rfl,nd,_,rfl,kS.k (k:=Sum.inr z) aee,_,rfl,?_};have en:((-43).take (j+1)).filter need=((-43).take j).filter need++if need z=true then[z]else[]:=by rw[bh,hz,cL,ff];congr 1;cases c:need z<;>simp[c]
   refine fo (λc=>{_,rfl,vD _ _ {rfl,sV,?_}}) (λc=>vD _ _ {rfl,sV,?_})
   ·rw[en,aC ((abd z).mp c),aJ];rfl
   ·rw[en,az (λq=>c ((abd z).mpr q)),b6]
  rintro ws yx ⟨rfl,_,rfl⟩ rj Ul;rw[lbd,aV];generalize MY:(-43).filter need=kp;have mw:=aM Ul (.lst (kp.map V.str));have Um:upd yx rj (.lst (kp.map V.str)) rj=some (.lst (kp.map V.str)):=aw;have wq:=mw _ _ aaN;have NH:=acW.same mw;have WZ:=c9.same mw;have yW:=mw _ _ Ba;have Us:=mw _ _ hb9;have Oz:=nv Kb (dw.same mw);have W6:SB td H (upd yx rj (.lst (kp.map V.str))):=K0.trans (SB.same mw);generalize (upd yx rj (.lst (kp.map V.str)))=wL at mw Um wq NH WZ yW Us Oz W6⊢;refine{_,rfl,self,C,dx,_,rfl,wq,O.c,O.kept,by show 4<1000;decide,?_};have aaz:∀{b:Addr}{u:HO},wL b=some u->(∀l,u≠ .ins C dx l)->b≠self:=λ{b u} e n z=>by rw[z,wq]at e;cases e;exact n _ rfl
  have ntS:iN wL self:=AS wq;have nlS:∀l,wL self≠some (.lst l):=λl e=>by rw[wq]at e;cases e
  have KS:SB self wL (upd wL self (-40)):=λb u n e=>by rw[aE n];exact e
  have Ox:upd wL self (-40) self=some (.ins C dx [("tables",.ref tb),("kept",.ref rj),("maps",.ref md),("tails",.ref td)]):=by rw[aw];rfl
  generalize (upd wL self (-40))=H12 at KS Ox⊢;have tpS:=KS.tp ntS;have nL:∀{b:Addr}{l:Aao},wL b=some (.lst l)->b≠self:=λ{b l} e z=>nlS l (by rw[<-z];exact e);have Iq:tb≠self:=λz=>by rw[<-z,NH.at_]at wq;cases wq
  have abV:=NH.sb KS ntS nlS Iq;have Vg:td≠self:=λz=>WZ.at_.EO (by rw[z];exact wq);have WY:jw P w K H12 td (self::td::md::lg::ex) fs VZ:=by refine WZ.fr (λb u n e=>KS _ _ (λz=>n (by rw[z];simp)) e) tpS ?_;obtain⟨u,h⟩:=WZ.at_.some;rw[h,KS _ _ Vg h]
  have abl:=KS _ _ (nL Um) Um;have F4:=KS _ _ (nL yW) yW;have aem:=KS _ _ (nL Us) Us;have T5:=nv Oz tpS;have lkp:kp.length<=100:=by rw[<-MY];exact aD (cj _ _) lb
  have skb:tD (-43):=λz hz=>by
   rcases bg.mp hz with hz|hz
   ·exact mo.sok z hz
   ·exact fa.2.2.1 z ((uM (bV.mp hz).1).resolve_left λh=>by cases h)
  have skp:tD kp:=λz hz=>by rw[<-MY]at hz;exact skb z (bV.mp hz).1
  have lm:=mo.je;refine{_,rfl,_,rfl,_,rfl,self,C,dx,_,_,rfl,Ox,O.c,O.kept,rfl,lg,bd,rj,zs,A1 fs kept a maps,kept++hU kept a.2,kp,rfl,bp.of F4,T5,bp.of aem,Lw a.2 mo.nd,lb,.inl (bp.of abl),lkp,skp,λy hy=>?_,aD (B3 st.tab) ∅,λzM HD IQ Kj rc=>?_}
  ·obtain⟨x,hx,t,ht,rfl⟩:=Ym hy;obtain⟨g1,g2⟩:=mo.row x hx;obtain⟨g3,g4⟩:=LV st.tab ht;refine{by rw[aO,aO,g1,g3],λz hz=>?_};rcases bg.mp hz with hz|hz
   ·exact g2 z hz
   ·exact g4 z hz
  have Oy:=IQ _ _ Ox;refine{_,rfl,self,C,dx,_,rfl,Oy,O.c,O.maps,by show 4<1000;decide,?_};have KF:SB self HD (upd HD self (-41)):=λb u n e=>by rw[aE n];exact e
  have aaM:upd HD self (-41) self=some (.ins C dx [("tables",.ref tb),("kept",.ref rj),("maps",.ref zM),("tails",.ref td)]):=by rw[aw];rfl
  generalize (upd HD self (-41))=HF at KF aaM⊢;have ntF:iN HD self:=AS Oy;have nlF:∀l,HD self≠some (.lst l):=λl e=>by rw[Oy]at e;cases e
  have tpF:=KF.tp ntF;have m2s:zM≠self:=λz=>by rw[z,Ox]at Kj;cases Kj
  have m2t:zM≠td:=λz=>by obtain⟨u,h⟩:=WY.at_.some;rw[z,h]at Kj;cases Kj
  have abk:=IQ _ _ abl;have cF:jw P w K HF td (td::zM::ex) fs VZ:=by
   have e13:HD td=H12 td:=by obtain⟨u,h⟩:=WY.at_.some;rw[h,IQ _ _ h]
   have eF:HF td=HD td:=by obtain⟨u,h⟩:=WY.at_.some;rw[e13,h,KF _ _ Vg (by rw[e13];exact h)]
   refine WY.to ((dw.same IQ).trans tpF) (by rw[eF,e13]) λd f tv=>(((tv.more Kj).same IQ).fr (λb u n e=>KF _ _ (λz=>n (by rw[z];simp)) e) tpF).less λb hb=>?_;simp only[aG]at hb⊢;rcases hb with h|h|h<;>simp[h]
  refine k rj zM HF (λb u n1 n2 e=>?_) {aaM,(abV.same IQ).sb KF ntF nlF Iq,?_,?_,⟨VZ,cF,lc⟩,m2t,st.nt,λz=>?_}
  ·exact KF _ _ n2 (IQ _ _ (KS _ _ n2 (W6 _ _ n1 e)))
  ·rw[MY];exact KF _ _ (λz=>nlF _ (by rw[<-z];exact abk)) abk
  ·rw[MY];exact rc.c.sb KF ntF m2s
  ·obtain⟨n,u,e⟩:=hex _ z;rw[K0 _ _ n e]at Ul;cases Ul
inductive IE(P:Program)(w:World)(K:Frag)(C:Addr)(vs:Aao)(H:Hp)(Q:VK)(_x3:XK):Prop
 |mk (self tb dx:Addr) (fs:List En) (_:vs=[.ref self,.ref tb]) (_:H self=some (.ins C dx [])) (_:gY K H tb fs) (_:∀(kl md td:Addr)(H':Hp),SB self H H'->H td=none->iK P w K C H' self dx tb kl md td [] fs [] [([],1)] 0->Q .cE H')
def HH:cD ["self","tables"] ["self","tables"] (defScope u9):=jD (-3)
def Tz(F:fu K "__init__" "Asking.__init__" u9 f fd)(T:Txt K mg)(O:Ee K C):dk P w K mg base fU 1 f fd ["self","tables"] (IE P w K C):=by
 refine F.ok HH (λ_ _ _ _ h=>by cases h;subst_vars;rfl) (-4);obtain⟨self,tb,dx,fs,rfl,hs,tab,k⟩:=h;have hN:=yY hr;refine{_,(aN (xF (pv 0) (pv 1) rfl) (aN (xF (pv 0) (fb gN) rfl) (aN (xF (pv 0) (Qh hN (Te (iZ gN) bj XU) rfl rfl (-9) (by show 1<=15;decide)) rfl) (ba (xF (pv 0) jy rfl))))),?_}
 have CN:∀{H:Hp}{l:List (Str×V)},H self=some (.ins C dx l)->iN H self/\(∀q,H self≠some (.lst q)):=λe=>{AS e,λq e'=>by rw[e]at e';cases e'};have up:∀{H:Hp}{o:HO},SB self H (upd H self o):=λb u n e=>by rw[aE n];exact e
 have Iq:tb≠self:=λz=>by rw[<-z,tab.at_]at hs;cases hs
 refine{_,rfl,_,rfl,self,C,dx,[],rfl,hs,O.c,O.tables,by decide,?_};have Zx:=tab.sb (up (o:=.ins C dx (fA "tables" (.ref tb) []))) (CN hs).1 (CN hs).2 Iq;have sb1:SB self H (upd H self (.ins C dx (fA "tables" (.ref tb) []))):=up;have wy:upd H self (.ins C dx (fA "tables" (.ref tb) [])) self=some (.ins C dx [("tables",.ref tb)]):=aw;generalize (upd H self (.ins C dx (fA "tables" (.ref tb) [])))=H1 at Zx sb1 wy⊢;refine{by show 0<=sizeLine;decide,λkl MZ=>?_};have s2:=aM MZ (.lst ([]:Aao));have Ro:upd H1 kl (.lst ([]:Aao)) kl=some (.lst []):=aw;have Zw:=Zx.same s2;have EB:=sb1.trans (SB.same s2);have kI:=s2 _ _ wy;generalize (upd H1 kl (.lst ([]:Aao)))=H2 at s2 Ro Zw EB kI⊢;refine{_,rfl,self,C,dx,_,rfl,kI,O.c,O.kept,by show 1<1000;decide,?_};have SF:=Zw.sb (up (o:=.ins C dx (-63))) (CN kI).1 (CN kI).2 Iq;have GJ:=EB.trans (up (o:=.ins C dx (-63)));have kls:kl≠self:=λz=>by rw[<-z,Ro]at kI;cases kI
 have hk3:=(up (o:=.ins C dx (-63))) _ _ kls Ro;have Kf:upd H2 self (.ins C dx (-63)) self=some (.ins C dx [("tables",.ref tb),("kept",.ref kl)]):=by rw[aw];rfl
 generalize (upd H2 self (.ins C dx (-63)))=H3 at SF GJ hk3 Kf⊢;intro md hmd;have s4:=aM hmd (.dK []);have Kk:upd H3 md (.dK []) md=some (.dK []):=aw;generalize (upd H3 md (.dK []))=H4 at s4 Kk⊢;refine{by show 0<=sizeLine;decide,λe he=>?_};have s5:=aM he (.tup ([]:Aao));have he5:upd H4 e (.tup ([]:Aao)) e=some (.tup []):=aw;generalize (upd H4 e (.tup ([]:Aao)))=H5 at s5 he5⊢;have key:jA K H5 (eY []) e:=yU (bF.of he5) λz hz=>by cases hz
 have wC:=s5 _ _ Kk;refine{e,eY [],.int 1,rfl,key,wC,?_};have GL:=s4.trans s5;have um:SB md H5 (-49):=λb u n q=>by rw[aE n];exact q
 have GW:iN H5 md:=rO wC;have nm:∀{b:Addr}{u:HO},H3 b=some u->b≠md:=λe z=>by rw[z,hmd]at e;cases e
 have Zv:gY K (-49) tb fs:=(SF.same GL).sb um GW (λl q=>by rw[wC]at q;cases q) (nm SF.at_);have M5:=um _ _ (nm hk3) (GL _ _ hk3);have Rb:=um _ _ (nm Kf) (GL _ _ Kf);have rc6:RowC P w K (-49) md [([],1)]:={[(eY [],e,.int 1)],{.inl aw,λp hp=>by cases ay.mp hp;exact xS key (um.tp GW)},rfl}
 have mq:SB self H (-49):=λb u n q=>um _ _ (nm (GJ _ _ n q)) (GL _ _ (GJ _ _ n q));generalize hH6:(upd H5 md (.ext (DN _ _ md _)))=H6;have e6:(-49)=H6:=hH6;rw[e6]at Zv M5 Rb rc6 mq;clear hH6 e6 um;refine{_,rfl,self,C,dx,_,rfl,Rb,O.c,O.maps,by show 2<1000;decide,?_};have ms:md≠self:=cb (nm Kf);have SD:=Zv.sb (up (o:=.ins C dx (-26))) (CN Rb).1 (CN Rb).2 Iq;have Ax:=mq.trans (up (o:=.ins C dx (-26)));have Wq:=(up (o:=.ins C dx (-26))) _ _ kls M5;have Z0:=rc6.sb (up (o:=.ins C dx (-26))) (CN Rb).1 ms;have Wg:upd H6 self (.ins C dx (-26)) self=some (.ins C dx [("tables",.ref tb),("kept",.ref kl),("maps",.ref md)]):=by rw[aw];rfl
 generalize (upd H6 self (.ins C dx (-26)))=H7 at SD Ax Wq Z0 Wg⊢;intro td C4;have s8:=aM C4 (.dK []);have We:upd H7 td (.dK []) td=some (.dK []):=aw;have Ra:=s8 _ _ Wg;have nt:∀{b:Addr}{u:HO},H7 b=some u->b≠td:=λe z=>by rw[z,C4]at e;cases e
 have h0:H td=none:=by
  cases q:H td with
  |none=>rfl
  |some u=>rw[Ax _ _ (λz=>by rw[z,Wg]at C4;cases C4) q]at C4;cases C4
 generalize (upd H7 td (.dK []))=H8 at s8 We Ra⊢;refine{_,rfl,self,C,dx,_,rfl,Ra,O.c,O.tails,by show 3<1000;decide,?_};have us:=up (H:=H8) (o:=.ins C dx (fA "tails" (.ref td) [("tables",.ref tb),("kept",.ref kl),("maps",.ref md)]));have Vg:td≠self:=cb (nt Wg);have mt:md≠td:=by obtain⟨_,h,_⟩:=Z0;obtain⟨_,h⟩:=h.some;exact nt h
 refine k kl md td _ (Ax.trans ((SB.same s8).trans us)) h0 {by rw[aw];rfl,(SD.same s8).sb us (CN Ra).1 (CN Ra).2 Iq,us _ _ kls (s8 _ _ Wq),(Z0.same s8).sb us (CN Ra).1 ms,{[],{Gj (us _ _ Vg We),λa known v h=>by cases h},ar _},mt,nt SD.at_,λz=>by cases z}
def Mu(he:PE X e ta)(hb:attributeBase e f X.env (eval e X.env)=eval e X.env:=by rfl):PE X (.Attribute e f pos) (SI X.K ta f):=mx he hb
def K4(P:Program)(w:World)(K:Frag)(mg:Aad)(base:Heap)(C:Addr)(k:Nat)(x:Str)(ps:Aah)(sp:Sp):Prop:=∃f fd,Mk K C f/\dk P w K mg base fU k f fd ps sp/\mg x=some (.ref C)/\Binds K fd ps []
def mkO(D:K4 X.prog X.w X.K X.mg X.base C k x ps sp)(hr:gZ j X.A)(ha:PA X (e::es) t)(hk:k+1<=j)(hg:Gl X x:=by rfl)
  (Bd:(-33)=false:=by decide) (he:starEach (e::es) X.env=(false,eval e X.env)::starEach es X.env:=by rfl) (ud:(-37).any (·.1)=false:=by rfl):
  PE X (-66) (Vk C sp [] E0 t):=by
 obtain⟨f,fd,M,F,m,b⟩:=D;exact X0 M F (hr.mono hk) hg m b .nil N7 ha Bd he ud
def Good(ats:Aaa):Prop:=∀a∈ats,a.2.length<=4/\(∀z∈a.2,pq z)/\1<=a.2.length/\yr a.1
def yw(hz:Aah)(ats:Aaa):Prop:=hz.length<=4/\∀z∈hz,pq z/\(isUnk z=true->z∈cQ ats)
def BV(h:pq z):PyData.strOk z=true/\z.length<=1000:={h.2.2,aD h.2.1 (-8)}
def Yh(h:yr z):PyData.strOk z=true:=h.2.2
def YA(g:Good ats):∀a∈ats,FinA a:=λa ha=>by obtain⟨h1,h2,_,h4⟩:=g a ha;exact{h1,Yh h4,λz hz=>(BV (h2 z hz)).1,λz hz=>(BV (h2 z hz)).2}
def Dk:z∈fN ts↔isUnk z=true/\z∈ts:=by
 constructor
 ·intro h;have gen:∀(l acc:Aah),(∀t∈acc,isUnk t=true)->∀t∈l.foldl step acc,isUnk t=true:=by
   intro l
   induction l with
   |nil=>intro acc h t ht;exact h t ht
   |cons x l ih=>
    intro acc h t ht;refine ih _ (λy hy=>?_) t ht;unfold step at hy;split at hy
    ·next c=>
     split at hy
     ·exact h y hy
     ·rcases bg.mp hy with hy|hy
      ·exact h y hy
      ·rw[ay.mp hy];exact c
    ·exact h y hy
  exact{gen ts [] (λt ht=>by cases ht) z h,(uM h).resolve_left λh=>by cases h}
 ·exactλ⟨h1,h2⟩=>Yi h1 h2
structure AskJ(fs:List En)(ats:Aaa)(hz:Aah)(S lf:Aaa)(kept:Aah)(maps:Cm):Prop extends AskP.AskI isUnk (dbT fs) ats hz S lf kept maps where
 fw:maps.length<=5^S.length
 ls:S.length+lf.length=ats.length
def QG(tab:gY K H tb fs)(g:Good ats)(la:ats.length<=4)(h:AskJ fs ats hz S lf kept maps):FG kept maps/\kept.length<=16:=by
 have hk:∀t∈kept,isUnk t=true/\t∈cQ ats/\pq t:=λt ht=>by obtain⟨u,⟨b,hb,Wd⟩,_⟩:=(h.kt t).mp ht;have hb:=(h.at_ b).mpr (.inl hb);exact{u,qj.mpr ⟨b,hb,Wd⟩,(g b hb).2.1 t Wd}
 have l6:kept.length<=16:=aD (mT (m:=cQ ats) h.nd λt ht=>(hk t ht).2.1) (aD (uP ats λa ha=>(g a ha).1) ∅);have hv:∀a∈ats,∀r∈dbT fs a.1,∀x∈r,x∈cJ:=λa _ r hr x hx=>((tab.good a.1).2 r ((hG _ _).mp hr)).2.2 x hx;refine{{h.nd,λt ht=>(BV (hk t ht).2.2).1,by lia,λx hx=>{h.len hx,λz hz=>sI (h.vals hv hx z hz)},aD h.fw (aD (gu (n:=5) (j:=4) (-8) (by have:=h.ls;lia)) (-8))},l6}
structure Y2(fs:List En)(hz:Aah)(ats:Aaa)(m:Cm):Prop where
 nd:(m.map (·.1)).Nodup
 iff:∀row,row∈m.map (·.1)↔∃g,AskP.tw isUnk (dbT fs) ats g/\row=hz.map g
 je:m.length<=900
inductive IG(P:Program)(w:World)(K:Frag)(vs:Aao)(H:Hp)(Q:VK)(_x3:XK):Prop
 |mk (v:V) (tb:Addr) (fs:List En) (hz:Aah) (ats:Aaa) (_:vs=[v,.ref tb]) (_:Di H v hz ats) (_:Good ats) (_:yw hz ats) (_:ats.length<=4) (_:gY K H tb fs) (_:∀(d:Addr)(m:Cm)(H':Hp),bq H H'->Ph P w K H' d m->Y2 fs hz ats m->Q (.ref d) H')
structure Dc6(P:Program)(w:World)(K:Frag)(mg:Aad)(base:Heap)(C:Addr):Prop where
 T4:K4 P w K mg base C 1 "Asking" ["self","tables"] (IE P w K C)
 vp:qY P w K mg base C 6 "best_place" ["self","atoms"] (PN P w K C)
 JT:qY P w K mg base C 6 "take" ["self","atom","needed"] (PK P w K C)
 needed_terms:dP P w K mg base 1 "needed_terms" ["head","atoms"] (IF K)
 narrowed:dP P w K mg base 3 "narrowed" ["counted_maps","unknowns","terms"] (yH P w K)
theorem AN:∀{l₁:List α}{aac:List β}(i:Nat),Paired F l₁ aac->Paired F (l₁.eraseIdx i) (aac.eraseIdx i)
 |_,_,_,.nil=>.nil
 |_,_,0,.cons _ t=>t
 |_,_,i+1,.cons q t=>.cons q (AN i t)
def Lr{α:Type}{l:List α}{a:α}(h:l[i]?=some a):l=l.take i++a::l.drop (i+1)/\l.eraseIdx i=l.take i++l.drop (i+1):=by obtain⟨hi,e⟩:=ax.mp h;refine{?_,qp _ _};rw[<-e,<-eP hi,c7]
def iK.exL(x:iK P w K C H self dx tb kl md td ex fs kept maps n)(s:SB ll H H')(m:ll∈ex)(hl:H ll=some (-39))(tab:gY K H' tb fs):iK P w K C H' self dx tb kl md td ex fs kept maps n:=by
 have nt:iN H ll:=ny hl;obtain⟨kvs,c,l⟩:=x.As;obtain⟨qF,hm,em⟩:=id x.wm;have tl:td≠ll:=λz=>c.at_.uF _ (by rw[z];exact hl);refine{s _ _ (λz=>?_) x.ins,tab,s _ _ (λz=>x.ke (by rw[z];exact m)) x.xR,x.wm.sb s nt (λz=>hm.uF _ (by rw[z];exact hl)),{kvs,c.fr (λb u n e=>s _ _ (λz=>n (by rw[z];exact aB _ (aB _ m))) e) (s.tp nt) ?_,l},x.nm,x.nt,x.ke}
 ·have q:=x.ins;rw[z,hl]at q;cases q
 ·obtain⟨u,h⟩:=c.at_.some;rw[h,s _ _ tl h]
def lB:cD ["question","tables","head","atoms","asking","left","atom"] ["question","tables"] (defScope wX):=jD (-3)
def JE(F:fu K "counts_of" "counts_of" wX f fd)(T:Txt K mg)(O:Ee K C)(D:Dc6 P w K mg base C):dk P w K mg base fU 7 f fd ["question","tables"] (IG P w K):=by
 refine F.ok lB (λ_ _ _ _ h=>by cases h;subst_vars;rfl) (-4);obtain⟨v,tb,fs,hz,ats,rfl,⟨q,hd,aa,jr,rfl,hq,Wt,sW,nE⟩,good,br,la,tab,k⟩:=h;have hu:=kj hr;have hN:=yY hr;have cC:=O.c;refine{_,(aN (xG (pv 0) (iY rfl (cA (iu 2 lB) (cA (iu 3 lB) g9)))) (aN (fK 4 lB (mkO D.T4 hr (cz (pv 1)) ∅)) (aN (fK 5 lB (dF vH rfl T.vj (-3) (cz (pv 3)))) (aN (Td bS (I0 (pv 5) (λ_=>rfl)) (aN (fK 6 lB (ox dc PySem.F.slot_list_pop PySem.F.type_list_pop TM (pv 5) (cz (MC cC D.vp hr (pv 4) (cz (pv 5)) ∅)))) (ba (lC (MC cC D.JT hr (pv 4) (dR (pv 6) (cl D.needed_terms hr (dR (pv 2) (pv 5)))) ∅))))) (ba (cN (cl D.narrowed hr (sN (dF (Fy hr.hd) rfl T.vj (-3) (cz (GQ (Mu (pv 4))))) (Mu (pv 4)) (pv 2))))))))),?_}
 refine{_,rfl,q,_,rfl,bF.of hq,rfl,_,_,rfl,_,_,rfl,rfl,?_};refine{_,rfl,λx dx hx hdx ne=>?_};have s1:bq H (upd (upd H dx (.own x)) x (.ins C dx [])):=λb u h=>by rw[aE (bf h hx),aE (bf h hdx)];exact h
 have C2:upd (upd H dx (.own x)) x (.ins C dx []) x=some (.ins C dx []):=aw;generalize (upd (upd H dx (.own x)) x (.ins C dx []))=H1 at s1 C2⊢;refine{x,tb,dx,fs,rfl,C2,tab.same s1,λkl md td H2 EB C4 pX=>{rfl,?_}};have h0t:H td=none:=s1.free C4;have sJ:bq H H2:=λb u e=>EB _ _ (bf e hx) (s1 _ _ e);refine{_,rfl,aa,jr,rfl,.inr (bF.of (sJ _ _ sW)),λll qK=>?_};have s3:=aM qK (.lst jr);have mW:upd H2 ll (.lst jr) ll=some (.lst jr):=aw;have CK:=sJ.trans s3;have RD:H ll=none:=sJ.free qK;have ub:iK P w K C (upd H2 ll (.lst jr)) x dx tb kl md td [ll] fs [] [([],1)] 0:=by
  obtain⟨kvs,ck,l⟩:=pX.As;have c3:jw P w K H2 td (td::md::[ll]) fs kvs:={ck.at_,λa known v h=>by
   obtain⟨d,e,tv⟩:=ck.all a known v h;exact{d,e,(tv.more qK).less λb hb=>by simp only[aG,List.not_mem_nil,or_false]at hb⊢;rcases hb with h|h|h<;>simp[h]}}
  have y:=pX.same s3;exact{y.ins,y.tab,y.xR,y.wm,{kvs,c3.same s3,l},y.nm,y.nt,λz=>bf pX.xR qK (ay.mp z)}
 generalize (upd H2 ll (.lst jr))=H3 at s3 mW CK ub⊢;clear s3 pX EB sJ qK;have fin:=YA good;refine{λm Z H4=>∃(kl md n:Nat)(ys:Aao)(lf S:Aaa)(kept:Aah)(maps:Cm)(x6:Aap),m=lf.length/\Z=[some (.ref q),some (.ref tb),some (.ref hd),some (.ref aa),some (.ref x),some (.ref ll),x6]/\bq H H4/\iK P w K C H4 x dx tb kl md td [ll] fs kept maps n/\H4 ll=some (-39)/\fh H4 ys lf/\AskJ fs ats hz S lf kept maps/\n+101*lf.length<=808,
  {ats.length,kl,md,0,jr,ats,[],[],[([],1)],none,rfl,rfl,CK,ub,mW,Bx nE CK,{AskP.AskI.start,ar _,vN _},by lia},?_}
 rintro m Z H4 ⟨kl,md,n,ys,lf,S,kept,maps,x6,rfl,rfl,s4,wc,wD,rm,aj,hn⟩;have ly:ys.length=lf.length:=bw rm;obtain⟨mo,l6⟩:=QG wc.tab good la aj;obtain⟨nt4,VJ⟩:=wc.Mw;have MF:∀b∈lf,b∈ats:=λb hb=>(aj.at_ b).mpr (.inr hb);have lla:lf.length<=8:=by lia
 refine{_,rfl,_,.inl {_,bp.of wD,rfl},?_};cases C6:lf with
 |cons a0 lr=>
  have ig:0<lf.length:=by rw[C6];exact qX _
  have hye:(!ys.isEmpty)=true:=by
   cases ys with
   |nil=>rw[<-ly]at ig;exact absurd ig (dD _)
   |cons _ _=>rfl
  rw[hye];rw[<-C6];have VT:ll≠td:=λz=>VJ _ (by rw[<-z];exact wD);refine F2 {_,λσ' H' h=>h,?_};refine{_,rfl,.inl {rfl,_,bp.of wD},_,rfl,x,dx,_,rfl,wc.ins,rfl,_,rfl,x,ll,dx,tb,kl,md,td,[ll],fs,kept,maps,n,ys,lf,rfl,wc,wD,rm,λb hb=>fin b (MF b hb),ig,by lia,mo,by lia,λb hb=>{by rw[ay.mp hb];exact VT,.lst ys,by rw[ay.mp hb];exact wD},λi H5 hi GI oJ=>?_};have E7:=GI _ _ VT wD;have aaX:=FC rm GI nt4;have s5:bq H H5:=λb u e=>GI _ _ (bf e h0t) (s4 _ _ e);obtain⟨a,ha⟩:∃a,lf[i]?=some a:={_,au hi};obtain⟨y,hy⟩:∃y,ys[i]?=some y:={_,au ∅};obtain⟨a',ha',hya⟩:=Paired.at aaX hy;rw[ha]at ha';cases ha';obtain⟨ap,at_,rfl,_⟩:=id hya;have fa:=fin a (MF a (aH ha));refine{ll,ys,i,i,.ref ap,rfl,rfl,E7,by lia,by lia,PySem.StrLaws.seqIndex_nonneg ∅ ∅,hy,?_};have mq:SB ll H5 (upd H5 ll (.lst (ys.eraseIdx i))):=λb u n e=>by rw[aE n];exact e
  have VF:iN H5 ll:=ny E7;have rA:upd H5 ll (.lst (ys.eraseIdx i)) ll=some (.lst (ys.eraseIdx i)):=aw;have s6:bq H (upd H5 ll (.lst (ys.eraseIdx i))):=λb u e=>mq _ _ (bf e RD) (s5 _ _ e);have T6:=FC (AN i aaX) mq VF;have aaY:=By hya mq VF;have ml:iK P w K C (upd H5 ll (.lst (ys.eraseIdx i))) x dx tb kl md td [ll] fs kept maps (n+100):=oJ.exL mq aA E7 (tab.same s6);generalize (upd H5 ll (.lst (ys.eraseIdx i)))=H6 at mq rA s6 T6 aaY ml⊢;obtain⟨e1,e2⟩:=Lr ha;have lfe:∀b∈lf.eraseIdx i,b∈lf:=λb hb=>List.mem_of_mem_eraseIdx hb;have lle:(lf.eraseIdx i).length=lf.length -1:=mE hi;refine{_,rfl,x,dx,_,rfl,ml.ins,rfl,_,rfl,_,rfl,_,rfl,hd,ll,hz,ys.eraseIdx i,lf.eraseIdx i,rfl,bF.of (s6 _ _ Wt),bp.of rA,T6,?_,by lia,λb hb=>?_,λnd H7 s7 OE Hi=>?_}
  ·have:=br.1;lia
  ·have:=(fin b (MF b (lfe b hb))).1;lia
  have u4:=ml.same s7;have Mz:nd≠td:=λz=>by obtain⟨_,c,_⟩:=ml.As;obtain⟨_,h⟩:=c.at_.some;rw[z,h]at OE;cases OE
  refine{x,ap,nd,dx,tb,kl,md,td,[ll],fs,kept,maps,n+100,a,λz=>decide (z∈hz\/∃b∈lf.eraseIdx i,z∈b.2),rfl,u4,sD aaY s7,fa,mo,by lia,by lia,?_,Mz,λb hb=>{by rw[ay.mp hb];exact VT,.lst (ys.eraseIdx i),by rw[ay.mp hb];exact s7 _ _ rA},λrj zM H8 WO st8=>?_}
  ·obtain⟨kvs,h1,h2⟩:=Hi;exact{kvs,h1,λz=>(h2 z).trans jf.symm}
  have aaz:∀{l:Aao}{b:Addr},H7 b=some (.lst l)->b≠x:=λ{l b} e z=>by have:=u4.ins;rw[<-z,e]at this;cases this
  have zS:=s7 _ _ rA;have hl8:=WO _ _ VT (aaz zS) zS;have ad0:fh H8 (ys.eraseIdx i) (lf.eraseIdx i):=by
   have h7:=Bx T6 s7;obtain⟨nt7,_⟩:=u4.Mw;generalize ys.eraseIdx i=ye at h7⊢;generalize lf.eraseIdx i=le at h7⊢;clear hl8 zS
   induction h7 with
   |nil=>exact .nil
   |cons h _ ih=>
    obtain⟨p,t,e,h1,h2⟩:=h;have nx:∀{b:Addr}{l:Aao},H7 b=some (.tup l)->b≠td/\b≠x:=λ{b l} e=>{λz=>nt7 _ (.inl (by rw[<-z];exact e)),λz=>by have:=u4.ins;rw[<-z,e]at this;cases this}
    exact .cons {p,t,e,WO _ _ (nx h1).1 (nx h1).2 h1,WO _ _ (nx h2).1 (nx h2).2 h2} ih
  have s8:bq H H8:=λb u e=>WO _ _ (bf e h0t) (bf e hx) (s7 _ _ (s6 _ _ e));have aj8:AskJ fs ats hz (a::S) (lf.eraseIdx i) ((-43).filter λz=>decide (z∈hz\/∃b∈lf.eraseIdx i,z∈b.2)) (AskP.narrowed (A1 fs kept a maps) (-43) ((-43).filter λz=>decide (z∈hz\/∃b∈lf.eraseIdx i,z∈b.2))):=by
   rw[e1]at aj;have:=aj.step (known:=jU kept a.2) (fresh:=hU kept a.2) (need:=λz=>decide (z∈hz\/∃b∈lf.eraseIdx i,z∈b.2)) (λt=>?_) ((yD a.2).sublist mO) rfl (λt=>?_)
   ·rw[<-e2]at this;refine{this,aD AskP.AW (aD (B3 (K:=K) tab) ?_),by have:=aj.ls;rw[lle,bx];rw[<-e1]at this;lia};rw[bx,jY,BH];exact Nat.mul_le_mul_right _ aj.fw
   ·unfold hU;rw[bV,jf,Dk];exact{λh=>{h.1.2,h.1.1,h.2},λh=>{{h.2.1,h.1},h.2.2}}
   ·rw[jf,e2]
  exact{_,by rw[lle];lia,rj,zM,n+100+1,ys.eraseIdx i,lf.eraseIdx i,a::S,_,_,_,rfl,rfl,s8,st8,hl8,ad0,aj8,by rw[lle];lia}
 |nil=>
  have hye:ys=[]:=fg.mp (by rw[ly,C6];rfl);rw[hye];refine vy ?_;rw[C6]at aj;obtain⟨qF,Kk,em⟩:=id wc.wm;refine{_,rfl,x,C,dx,_,_,rfl,wc.ins,O.c,O.maps,rfl,md,qF,rfl,Kk,λvw xX=>?_};have s5:=aM xX (.ext (uq vw md));have hv5:upd H4 vw (.ext (uq vw md)) vw=some (.ext (uq vw md)):=aw;have oJ:=wc.same s5;have wC:gn P w K (upd H4 vw (.ext (uq vw md))) md qF:=by obtain⟨u,h⟩:=Kk.some;exact Kk.tp (dw.same s5) (by rw[h,s5 _ _ h])
  generalize (upd H4 vw (.ext (uq vw md)))=H5 at s5 hv5 oJ wC⊢;refine{vw,md,qF,rfl,hv5,wC,λl zs H6 s6 mB rA hps=>?_};have s6:bq H5 H6:=s6;have ml:=oJ.same s6;have AF:=s4.trans (s5.trans s6);have pc:Paired (wI K H6) zs maps:=by
   have hk:∀p∈qF,NV K H6 p.1 (.ref p.2.1):=λp hp=>Od (dw.same s6) _ _ (wC.2 p hp).1;clear rA wC Kk;generalize maps=mm at em
   induction qF generalizing zs mm with
   |nil=>
    cases mm with
    |nil=>cases hps;exact .nil
    |cons _ _=>cases em
   |cons p qF ih=>
    cases mm with
    |nil=>cases em
    |cons y mm=>
     injection em with em1 em2;cases hps with
     |cons h t=>
      obtain⟨b,rfl,hb⟩:=h;have e1:p.1=eY y.1:=bU Prod.fst em1;have e2:p.2.2=V.int y.2:=bU Prod.snd em1;have hn:=hk p aA;rw[e1]at hn;refine .cons {b,p.2.1,rfl,?_,ER hn} (ih _ t (λq hq=>hk q (aB _ hq)) _ em2);rw[<-e2];exact bF.of hb
  have lh:=br.1;refine{_,rfl,x,C,dx,_,_,rfl,ml.ins,O.c,O.kept,rfl,_,rfl,l,kl,hd,zs,maps,kept,hz,rfl,bp.of rA,pc,bp.of ml.xR,mo.nd,mo.len,.inr (bF.of (AF _ _ Wt)),by lia,λz lN=>(BV (br.2 z lN).1).1,mo.row,aD mo.je (-8),λd H7 s7 gE rc=>?_};refine k d _ H7 (AF.trans s7) rc {AskP.rP,aj.end_ λt ht u=>?_,?_}
  ·have:=(br.2 t ht).2 u;unfold cQ at this;obtain⟨ts,qJ,h⟩:=List.mem_flatten.mp this;obtain⟨b,hb,rfl⟩:=aR.mp qJ;exact⟨b,hb,h⟩
  ·exact aD AskP.AW (aD aj.fw (aD (gu (n:=5) (j:=4) (-8) (by have:=aj.ls;lia)) (-8)))
inductive GC(K:Frag)(vs:Aao)(H:Hp)(Q:VK)(_x3:XK):Prop
 |mk (v:V) (tb:Addr) (fs:List En) (hz:Aah) (ats:Aaa) (_:vs=[v,.ref tb]) (_:Di H v hz ats) (_:Good ats) (_:yw hz ats) (_:ats.length<=4) (_:gY K H tb fs) (_:∀(l:Addr)(zs:Aao)(rows:Aab)(H':Hp),bq H H'->H l=none->H' l=some (.lst zs)->cT K H' zs (kg rows)->rows.Nodup->(∀row,row∈rows↔∃g,AskP.tw isUnk (dbT fs) ats g/\row=hz.map g)->(∀z∈zs,∃a xs,z=.ref a/\H' a=some (.tup xs))->rows.length<=900->Q (.ref l) H')
structure Da6(P:Program)(w:World)(K:Frag)(mg:Aad)(base:Heap):Prop where
 counts_of:dP P w K mg base 7 "counts_of" ["question","tables"] (IG P w K)
def NR:cD ["question","tables"] ["question","tables"] (defScope AD):=jD (-3)
def Oc(F:fu K "answers" "answers" AD f fd)(T:Txt K mg)(D:Da6 P w K mg base):dk P w K mg base fU 8 f fd ["question","tables"] (GC K):=by
 refine F.ok NR (λ_ _ _ _ h=>by cases h;subst_vars;rfl) (-4);obtain⟨v,tb,fs,hz,ats,rfl,hq,good,br,la,tab,k⟩:=h;refine{_,(ba (cN (cW (KQ hr.hd) rfl T.vi (-3) (cz (cl D.counts_of hr (dR (pv 0) (pv 1))))))),?_};refine{_,rfl,_,rfl,v,tb,fs,hz,ats,rfl,hq,good,br,la,tab,λd m H1 s1 rc cm=>?_};obtain⟨kvs,ha,em,ie⟩:=rc;have e1:kvs.map (·.1)=(m.map (·.1)).map eY:=by have:=bU (List.map Prod.fst) em;unfold sZ at this;rw[bW,bW]at this;rw[bW];exact this
 have lr:(m.map (·.1)).length<=500000:=by rw[ak];exact aD cm.je (-8)
 refine{d,kvs,m.map (·.1),rfl,ha,e1,λh2 r zQ=>?_,by lia,λl zs hl hr hm=>?_}
 ·intro er;obtain⟨g,_,eg⟩:=(cm.iff r).mp zQ;rw[er]at eg;have ez:hz=[]:=mN.mp eg.symm;have all:∀y∈m.map (·.1),y∈([[]]:Aab):=λy hy=>by obtain⟨g',_,e'⟩:=(cm.iff y).mp hy;rw[e',ez];exact aA
  have:=mT cm.nd all;rw[dA]at this;lia
 ·have s2:=aM hl (.lst zs);refine k l zs _ _ (s1.trans s2) (s1.free hl) aw (cM hr s2) cm.nd cm.iff (λz lN=>?_) (by rw[ak];exact cm.je);obtain⟨p,hp,rfl⟩:=aR.mp (hm z lN);obtain⟨xs,e⟩:=ie p hp;exact{_,xs,rfl,s2 _ _ e}
structure Ds(P:Program)(w:World)(K:Frag)(mg:Aad)(base:Heap):Prop where
 rows_of:dP P w K mg base 1 "rows_of" ["tables","name"] (Dm K)
def Found(K:Frag)(H H':Hp)(p:Addr)(es fs:List En):Prop:=H' p=some (.dK (fs.map dt))/\H p=none/\fs.map (·.nm)=(iV (es.map (·.nm))).filter (λz=>!(cP es z).isEmpty)/\(fs.map (·.ad)).Nodup/\
 ∀e∈fs,H e.ad=none/\e.ad≠p/\H' e.ad=some (.lst e.ys)/\cT K H' e.ys e.rows/\e.rows=eO (cP es e.nm)/\∀y∈e.ys,∃x∈es,y∈x.ys
inductive IC(K:Frag)(vs:Aao)(H:Hp)(Q:VK)(_x3:XK):Prop
 |mk (d:Addr) (es:List En) (_:vs=[.ref d]) (_:Ec K H d es) (_:es.length<=60) (_:∀(p:Addr)(fs:List En)(H':Hp),bq H H'->Found K H H' p es fs->Q (.ref p) H')
def lV:cD ["tables","told","name","rows"] ["tables"] (defScope qy):=jD (-3)
def Lb(rows:Aab):(eO rows).isEmpty=rows.isEmpty:=by
 cases rows with
 |nil=>
  cases h:eO []with
  |nil=>rfl
  |cons b r=>
   have:b∈eO []:=by rw[h];exact aA
   cases(hG b []).mp this
 |cons a r=>
  have:a∈eO (a::r):=(hG a _).mpr aA;cases h:eO (a::r)with
  |nil=>rw[h]at this;cases this
  |cons _ _=>rfl
def DF{f:Addr}{fd:FuncData}(F:fu K "sorted_tables" "sorted_tables" qy f fd)(T:Txt K mg)(D:Ds P w K mg base):dk P w K mg base fU 2 f fd ["tables"] (IC K):=by
 refine F.ok lV (λ_ _ _ _ h=>by cases h;subst_vars;rfl) (-4);obtain⟨d,es,rfl,hT,hl,k⟩:=h;have hu:=kj hr;refine{_,(aN (fK 1 lV jy) (aN (fR bS rfl (fX (cW (KR hr.hd) rfl T.vi (-3) (cz (pv 0)))) (iu 2 lV) (aN (fK 3 lV (cl D.rows_of hr (dR (pv 0) (pv 2)))) (ba (gJ (I0 (pv 3) (λ_=>rfl)) (ba (pY hu (pv 1) (pv 2) (pv 3) rfl)) eG)))) (ba (cN (pv 1))))),?_}
 have hd:=hT.at_;have hn:=hT.nm;intro p hp;have GF:bq H (upd H p (.dK [])):=aM hp _;have ko:upd H p (.dK []) p=some (.dK []):=aw;refine{_,rfl,d,es.map dt,es.map (·.nm),rfl,GF _ _ hd,JL es,by rw[ak];lia,λl mB=>?_};have ndp:d≠p:=bf hd hp;have nlp:p≠l:=bf ko mB;have PV:bq H (upd (upd H p (.dK [])) l (.lst ((iV (es.map (·.nm))).map V.str))):=GF.trans (aM mB _);have qK:H l=none:=by rw[aE nlp.symm]at mB;exact mB
 have ps:=lT (es.map (·.nm));have nds:(iV (es.map (·.nm))).Nodup:=ps.nodup_iff.mpr hn;refine{l,rfl,{_,bp.of aw},pR (K:=K) (a:=l) (xs:=(iV (es.map (·.nm))).map V.str)
  (λi Z H2=>∃(x2 x3:Aap)(fs:List En),Z=[some (.ref d),some (.ref p),x2,x3]/\bq H H2/\H2 l=some (.lst ((iV (es.map (·.nm))).map V.str))/\H2 p=some (.dK (fs.map dt))/\fs.map (·.nm)=((iV (es.map (·.nm))).take i).filter (λz=>!(cP es z).isEmpty)/\(fs.map (·.ad)).Nodup/\
   ∀e∈fs,H e.ad=none/\e.ad≠p/\H2 e.ad=some (.lst e.ys)/\cT K H2 e.ys e.rows/\e.rows=eO (cP es e.nm)/\∀y∈e.ys,∃x∈es,y∈x.ys) ?_ ?_ ?_ ?_}
 ·refine{none,none,[],rfl,PV,aw,?_,rfl,fJ,λe h=>by cases h};rw[aE nlp];exact ko
 ·rintro i Z H2 hi ⟨x2,x3,fs,rfl,wd,jF,_⟩;exact bp.of jF
 ·rintro i x Z H2 hx ⟨x2,x3,fs,rfl,wd,jF,iU,Bb,VN,Hl⟩;obtain⟨z,hz,rfl⟩:=aX.mp (by rw[<-aK];exact hx);have zm:z∈es.map (·.nm):=ps.mem_iff.mp (aH hz);obtain⟨e,he,rfl⟩:=aR.mp zm;have er:=DD hn he;refine{_,rfl,_,rfl,d,es,e.nm,rfl,hT.same wd,λl3 zs H3 mn mW abe hr3 aei=>?_};rw[er]at hr3;have iw:=mn _ _ iU;have keep:∀e∈fs,H e.ad=none/\e.ad≠p/\H3 e.ad=some (.lst e.ys)/\cT K H3 e.ys e.rows/\e.rows=eO (cP es e.nm)/\∀y∈e.ys,∃x∈es,y∈x.ys:=λe' h'=>by obtain⟨q1,q2,q3,q4,q5⟩:=Hl e' h';exact{q1,q2,mn _ _ q3,cM q4 mn,q5}
  have ft:=xb (g:=λz=>!(cP es z).isEmpty) hz;have lz:zs.isEmpty=(cP es e.nm).isEmpty:=by rw[er,<-Lb];have:=hr3.length;cases zs<;>cases h:eO e.rows<;>simp_all
  refine{_,rfl,!zs.isEmpty,.inl {zs,bp.of abe,rfl},?_};rw[lz];refine fo (-62) (-62)
  ·have l3n:H l3=none:=by
    cases q:H l3 with
    |none=>rfl
    |some o=>
     rw[wd _ _ q]at mW;cases mW
   have n3p:l3≠p:=λq=>by rw[q,iU]at mW;cases mW
   have n3l:l≠l3:=bf jF mW;have nm:e.nm∉fs.map (·.nm):=λq=>by
    rw[Bb]at q;have:=(bV.mp q).1;obtain⟨j,hj⟩:=dy.mp this;rw[List.getElem?_take]at hj;split at hj
    next lt=>
     have li:i<(iV (es.map (·.nm))).length:=(ax.mp hz).1;have:=(List.getElem?_inj li nds).mp (hz.trans hj.symm);lia
    next=>cases hj
   have ek:putK (fs.map dt) (Sum.inr e.nm) (V.ref l3)=(fs++[En.mk e.nm l3 zs (eO e.rows)]).map dt:=by rw[yM _ (yB nm),aJ];rfl
   have lfs:fs.length<=1000:=by
    have h1:fs.length=(fs.map (·.nm)).length:=(ak _).symm;rw[Bb]at h1;have h2:=cj (λz=>!(cP es z).isEmpty) ((iV (es.map (·.nm))).take i);have h3:((iV (es.map (·.nm))).take i).length<=(iV (es.map (·.nm))).length:=by rw[aT];exact Nat.min_le_right _ _
    have h4:(iV (es.map (·.nm))).length=es.length:=by rw[ps.length_eq,ak]
    lia
   refine{_,rfl,_,rfl,_,rfl,p,_,rfl,.inl {_,Sum.inr e.nm,iw,rfl,by rw[ak];exact bC lfs,rfl},?_};rw[ek];have Ex:bq H (upd H3 p (.dK ((fs++[En.mk e.nm l3 zs (eO e.rows)]).map dt))):=λb u q=>by rw[aE (bf q hp)];exact mn _ _ (wd _ _ q)
   have tk:∀{ys:Aao}{rows:Aab},cT K H3 ys rows->cT K (upd H3 p (.dK ((fs++[En.mk e.nm l3 zs (eO e.rows)]).map dt))) ys rows:=λh=>iE h (dw.upd (rO iw));refine{_,_,fs++[En.mk e.nm l3 zs (eO e.rows)],rfl,Ex,?_,aw,?_,?_,λe' h'=>?_}
   ·rw[aE nlp.symm];exact mn _ _ jF
   ·rw[aJ,Bb,ft,aC c];rfl
   ·rw[aJ];refine eB.mpr {VN,by simp,λa ha b hb=>?_};rw[kN,ay]at hb;obtain⟨e',h',rfl⟩:=aR.mp ha;rw[hb];intro q;have:=(Hl e' h').2.2.1;rw[q]at this;rw[this]at mW;cases mW
   ·rcases bg.mp h' with h'|h'
    ·obtain⟨q1,q2,q3,q4,q5⟩:=keep e' h';exact{q1,q2,by rw[aE q2];exact q3,tk q4,q5}
    ·rw[ay.mp h'];exact{l3n,n3p,by rw[aE n3p];exact abe,tk hr3,by rw[er],aei}
  ·refine{_,_,fs,rfl,wd.trans mn,mn _ _ jF,iw,?_,VN,keep};rw[ft,az c,b6];exact Bb
 ·rintro Z H2 ⟨x2,x3,fs,rfl,wd,jF,iU,Bb,VN,Hl⟩;rw[ak,aV]at Bb;exact{_,rfl,k p fs H2 wd ⟨iU,hp,Bb,VN,Hl⟩}
def gX(fs:List En)(hz:Aah)(ats:Aaa):Aab:=eO ((AskP.HX isUnk (cP fs) ats (fN (cQ ats)) cJ (fN (cQ ats)).length).map λv=>AskP.image (fN (cQ ats)) v hz)
def Sx{ats:Aaa}(t:Str):t∈fN (cQ ats)↔isUnk t=true/\∃a∈ats,t∈a.2:=by rw[Dk,qj]
def ZN:AskP.tw isUnk (dbT fs) ats g↔AskP.tw isUnk (cP fs) ats g:=qU λ_=>{λh a ha=>(hG _ _).mp (h a ha),λh a ha=>(hG _ _).mpr (h a ha)}
def yT{H:Hp}{tb:Addr}{fs:List En}(tab:gY K H tb fs){hz:Aah}{ats:Aaa}(br:yw hz ats)(row:Aah):row∈gX fs hz ats↔∃g,AskP.tw isUnk (cP fs) ats g/\row=hz.map g:=by unfold gX;rw[hG,aR,<-AskP.Sq Sx (yD _) (λa _ r hr x hx=>((tab.good a.1).2 r hr).2.2 x hx) (λt ht u=>Dk.mpr {u,(br.2 t ht).2 u}) row];exact{λ⟨v,h,e⟩=>{v,h,e.symm},λ⟨v,h,e⟩=>{v,h,e.symm}}
def YY{H:Hp}{tb:Addr}{fs:List En}(tab:gY K H tb fs){hz:Aah}{ats:Aaa}(br:yw hz ats){rows:Aab}(nd:rows.Nodup)(hi:∀row,row∈rows↔∃g,AskP.tw isUnk (cP fs) ats g/\row=hz.map g):kg rows=gX fs hz ats:=by have:=yT (K:=K) tab br;unfold gX at this⊢;exact pN nd λr=>by rw[hi r,<-this r,hG]
def wQ(l:Aab):(eO l).Nodup:=(lU _).nodup_iff.mpr (uE _)
def CD(l:Aab):eO (eO l)=eO l:=by have h:=pN (wQ l) λr=>hG r l;have h2:=pN (l:=eO l) (rows:=eO l) (wQ l) λr=>Cb;exact h2.symm.trans h
structure VA(hz:Aah)(ats:Aaa):Prop where
 good:Good ats
 br:yw hz ats
 l4:ats.length<=4
 l1:1<=hz.length
 hu:∀z∈hz,isUnk z=true
def VQ.va{H:Hp}{v:V}{hz:Aah}{ats:Aaa}(x:VQ H v hz ats):VA hz ats:=⟨λa ha=>let⟨h1,h2,h3,h4⟩:=x.q.good a ha;⟨h3,h4,h2,h1⟩,{x.q.h4,λz lN=>{x.q.hh z lN,λ_=>(x.hu z lN).1}},x.l8,x.l1,λz lN=>(x.hu z lN).2⟩
def Ea{H:Hp}{tb:Addr}{fs:List En}(tab:gY K H tb fs){hz:Aah}{ats:Aaa}(x:VA hz ats):∀r∈gX fs hz ats,mK r:=λr hr=>by obtain⟨g,hg,rfl⟩:=(yT tab x.br r).mp hr;refine{by rw[ak];exact x.l1,by rw[ak];exact x.br.1,λz lN=>?_};obtain⟨t,ht,rfl⟩:=aR.mp lN;obtain⟨a,ha,vz⟩:=qj.mp ((x.br.2 t ht).2 (x.hu t ht));exact((tab.good a.1).2 _ (hg.2 a ha)).2.2 _ (aR.mpr ⟨t,vz,rfl⟩)
def oI(fs:List En)(xs:List View)(z:Str):Aab:=match xs.find? (λx=>decide (x.1=z))with
 |some x=>gX fs x.2.1 x.2.2
 |none=>[]
def Gs{fs es:List En}{xs:List View}(h:Paired (λ(e:En)(x:View)=>e.nm=x.1/\e.rows=gX fs x.2.1 x.2.2) es xs)(z:Str):cP es z=oI fs xs z:=by
 induction h with
 |nil=>rfl
 |@cons e x es xs q _ ih=>
  unfold cP oI at ih⊢;rw[eK,eK,q.1];cases decide (x.1=z)with
  |true=>exact q.2
  |false=>exact ih
theorem Pr{fs:List En}:∀{xs:List View},(xs.map (·.1)).Nodup->∀{x:View},x∈xs->oI fs xs x.1=gX fs x.2.1 x.2.2
 |[],_,_,h=>by cases h
 |y::xs,nd,x,h=>by
  rw[aU,cX]at nd;unfold oI;rcases aG.mp h with rfl|h
  ·rw[dW (p:=λy:View=>decide (y.1=x.1)) (aZ rfl)]
  ·have ne:¬decide (y.1=x.1)=true:=λq=>nd.1 (by rw[bo q];exact cy h);rw[dX (p:=λy:View=>decide (y.1=x.1)) ne];exact Pr nd.2 h
def tm(H:Hp)(ys:Aao):Prop:=∀y∈ys,∃a xs,y=V.ref a/\H a=some (.tup xs)
def tm.keep{H H':Hp}{ys:Aao}(h:tm H ys)(t:eE H H'):tm H' ys:=λy hy=>let⟨a,xs,e,q⟩:=h y hy;{a,xs,e,t _ _ q}
def abK(K:Frag)(H H':Hp)(p:Addr)(fs:List En)(xs:List View)(gs:List En):Prop:=H' p=some (-70)/\H p=none/\gs.map (·.nm)=(iV (xs.map (·.1))).filter (λz=>!(oI fs xs z).isEmpty)/\(gs.map (·.ad)).Nodup/\
 ∀e∈gs,H e.ad=none/\e.ad≠p/\H' e.ad=some (.lst e.ys)/\cT K H' e.ys e.rows/\e.rows=oI fs xs e.nm/\tm H' e.ys
inductive PL(K:Frag)(vs:Aao)(H:Hp)(Q:VK)(_x3:XK):Prop
 |mk (vl tb:Addr) (LM:Aao) (xs:List View) (fs:List En) (_:vs=[.ref vl,.ref tb]) (_:H vl=some (.lst LM)) (_:Dh H LM xs) (_:(xs.map (·.1)).Nodup) (_:xs.length<=12) (_:gY K H tb fs) (_:∀(p:Addr)(gs:List En)(H':Hp),bq H H'->abK K H H' p fs xs gs->Q (.ref p) H')
structure Dse(P:Program)(w:World)(K:Frag)(mg:Aad)(base:Heap):Prop where
 answers:dP P w K mg base 8 "answers" ["question","tables"] (GC K)
 sorted_tables:dP P w K mg base 2 "sorted_tables" ["tables"] (IC K)
def IZ{es:List En}{e:En}(h:e.nm∉es.map (·.nm)):putK (es.map dt) (Sum.inr e.nm) (.ref e.ad)=(es++[e]).map dt:=by rw[yM _ (yB h),aJ];rfl
def EJ{fs es:List En}{xs:List View}(h:Paired (λ(e:En)(x:View)=>e.nm=x.1/\e.rows=gX fs x.2.1 x.2.2) es xs):es.map (·.nm)=xs.map (·.1):=by
 induction h with
 |nil=>rfl
 |cons q _ ih=>rw[aU,aU,q.1,ih]
def MA{xs:List View}{i:Nat}{x:View}(nd:(xs.map (·.1)).Nodup)(h:xs[i]?=some x):x.1∉(xs.take i).map (·.1):=λq=>by obtain⟨hi,e⟩:=ax.mp h;rw[<-c7 i xs,aJ,eP hi,aU,e]at nd;exact(eB.mp nd).2.2 _ q _ aA rfl
def BY:cD ["views","tables","found","name","question"] ["views","tables"] (defScope IL):=jD (-3)
def X7{f:Addr}{fd:FuncData}(F:fu K "seen" "seen" IL f fd)(T:Txt K mg)(D:Dse P w K mg base):dk P w K mg base fU 9 f fd ["views","tables"] (PL K):=by
 refine F.ok BY (λ_ _ _ _ h=>by cases h;subst_vars;rfl) (-4);obtain⟨vl,tb,LM,xs,fs,rfl,ph,hvs,nd,l12,tab,k⟩:=h;have hu:=kj hr;have lv:LM.length=xs.length:=bw hvs;refine{_,(aN (fK 2 BY jy) (aN (fR bS rfl (fX (pv 0)) (iY rfl (cA (iu 3 BY) (cA (iu 4 BY) g9))) (ba (pY hu (pv 2) (pv 3) (cl D.answers hr (dR (pv 4) (pv 1))) rfl))) (ba (cN (cl D.sorted_tables hr (cz (pv 2))))))),?_}
 intro d hd;have s1:=aM hd (.dK []);refine{_,rfl,vl,rfl,{LM,bp.of (s1 _ _ ph)},pR (K:=K) (a:=vl) (xs:=LM) (λi Z H2=>∃(x3 x4:Aap)(es:List En),Z=[some (.ref vl),some (.ref tb),some (.ref d),x3,x4]/\bq H H2/\H2 d=some (.dK (es.map dt))/\Paired (λ(e:En)(x:View)=>e.nm=x.1/\e.rows=gX fs x.2.1 x.2.2) es (xs.take i)/\(∀e∈es,H2 e.ad=some (.lst e.ys)/\cT K H2 e.ys e.rows/\e.rows.length<=900/\(∀r∈e.rows,mK r)/\tm H2 e.ys)/\i<=xs.length) {none,none,[],rfl,s1,aw,.nil,λe h=>(by cases h),aP _} (λi Z H2 _ hq=>by(obtain⟨_,_,_,_,sm,_⟩:=hq;exact bp.of (sm _ _ ph))) ?_ ?_}
 ·rintro i x Z H2 hx ⟨x3,x4,es,rfl,s2,hd2,Fb,Wy,_⟩;obtain⟨y,hy,p,q,rfl,hp,hq,hn⟩:=Paired.at hvs hx;have bK:i<xs.length:=(ax.mp hy).1;have va:=hq.va;have qs:Di H2 q y.2.1 y.2.2:=hq.q.at'.keep (eE.of s2);refine{p,_,rfl,bF.of (s2 _ _ hp),rfl,_,_,rfl,_,_,rfl,rfl,?_};refine{_,rfl,_,rfl,q,tb,fs,y.2.1,y.2.2,rfl,qs,va.good,va.br,va.l4,tab.same s2,λl zs rows H3 s3 mB mW hR rn ri htz je=>?_};have er:kg rows=gX fs y.2.1 y.2.2:=YY (K:=K) tab va.br rn λrow=>(ri row).trans (exists_congr λg=>and_congr_left λ_=>ZN);have nm:({y.1,l,zs,gX fs y.2.1 y.2.2}:En).nm∉es.map (·.nm):=by rw[EJ Fb];exact MA nd hy
  have les:es.length=i:=by rw[bw Fb,aT];lia
  refine{_,rfl,_,rfl,d,_,rfl,vT.k (k:=Sum.inr y.1) (s3 _ _ hd2) (-28),?_};rw[IZ (e:={y.1,l,zs,gX fs y.2.1 y.2.2}) nm];have vC:=s3 _ _ hd2;have ndl:l≠d:=λz=>by rw[z,hd2]at mB;cases mB
  refine{_,_,es++[{y.1,l,zs,gX fs y.2.1 y.2.2}],rfl,λb u e=>?_,aw,?_,λe he=>?_,bK}
  ·rw[aE (bf e hd)];exact s3 _ _ (s2 _ _ e)
  ·rw[bh,hy];exact Paired.Ew Fb ⟨rfl,rfl⟩
  ·have t3:dw H3 (upd H3 d (.dK ((es++[({y.1,l,zs,gX fs y.2.1 y.2.2}:En)]).map dt))):=dw.upd (rO vC);have u3:eE H3 (upd H3 d (.dK ((es++[({y.1,l,zs,gX fs y.2.1 y.2.2}:En)]).map dt))):=λb xs q=>by rw[aE (yR q vC λz=>by cases z)];exact q
   rcases bg.mp he with he|he
   ·obtain⟨h1,h2,h3,h4,h5⟩:=Wy e he;have ne:e.ad≠d:=λz=>by rw[z,hd2]at h1;cases h1
    exact{by rw[aE ne];exact s3 _ _ h1,iE (cM h2 s3) t3,h3,h4,(h5.keep (eE.of s3)).keep u3}
   ·rw[ay.mp he];refine{by rw[aE ndl];exact mW,iE (by rw[<-er];exact hR) t3,?_,Ea tab va,tm.keep htz u3};rw[<-er,(lU _).length_eq];exact je
 ·rintro Z H2 ⟨x3,x4,es,rfl,s2,hd2,Fb,Wy,_⟩;rw[lv,aV]at Fb;have en:=EJ Fb;refine{_,rfl,d,es,rfl,{hd2,by rw[en];exact nd,λe he=>let⟨h1,h2,h3,h4,_⟩:=Wy e he;⟨h1,h2,h3,h4⟩},by rw[bw Fb];lia,λp gs H3 s3 ⟨f1,f2,f3,f4,f5⟩=>k p gs H3 (s2.trans s3) {f1,s2.free f2,?_,f4,λe he=>?_}}
  ·rw[f3,en];exact Cu λz _=>by rw[Gs Fb]
  ·obtain⟨q1,q2,q3,q4,q5,q6⟩:=f5 e he;refine{s2.free q1,q2,q3,q4,?_,λy hy=>let⟨x,hx,hyx⟩:=q6 y hy;let⟨_,_,_,_,h5⟩:=Wy x hx;(h5.keep (eE.of s3)) y hyx};rw[q5,Gs Fb];unfold oI;split
   ·exact CD _
   ·exact(pN (l:=[]) (rows:=[]) fJ λ_=>Cb).symm.trans (u5 (.refl _) .nil).symm
end
end kr
namespace L2
open PySem PySem.Spec PyProof.Rows
section
variable{K:Frag}{a d:Addr}{o:Obj}{u:HO}{kvs:Aam}{xs:Aao}{lo:Int}{n:Nat}{g:TG}{tb:TS}{D:Ends}{Z:St}{H:Hp}
def UA(Pv:Nat->St->Hp->Prop)(h0:Pv 0 Z H)(hl:∀i Z H,i<=xs.length->Pv i Z H->bF K H a xs)
  (hs:∀i x Z H(D':Ends),xs[i]?=some x->Pv i Z H->(∀σ' H',Pv (i+1) σ' H'->D'.nx σ' H')->(∀v H',D.rt v H'->D'.rt v H')->g x Z H λσ2 H2=>tb D' σ2 H2) (hd:∀Z H,Pv xs.length Z H->D.nx Z H):=
 B8 (K:=K) (a:=a) (xs:=xs) (g:=g) (tb:=tb) (D:=D) (Z:=Z) (H:=H) Pv h0 hl (λi x Z H hx hp=>hs i x Z H _ hx hp (λ_ _ h=>h) λ_ _ h=>h) hd
def Bi(Pv:Nat->St->Hp->Prop)(h0:Pv 0 Z H)(hl:∀i Z H,i<=xs.length->Pv i Z H->bp K H a xs)
  (hs:∀i x Z H(D':Ends),xs[i]?=some x->Pv i Z H->(∀σ' H',Pv (i+1) σ' H'->D'.nx σ' H')->(∀v H',D.rt v H'->D'.rt v H')->g x Z H λσ2 H2=>tb D' σ2 H2) (hd:∀Z H,Pv xs.length Z H->D.nx Z H):=
 pR (K:=K) (a:=a) (xs:=xs) (g:=g) (tb:=tb) (D:=D) (Z:=Z) (H:=H) Pv h0 hl (λi x Z H hx hp=>hs i x Z H _ hx hp (λ_ _ h=>h) λ_ _ h=>h) hd
def Ff(Pv:Nat->St->Hp->Prop)(h0:Pv 0 Z H)
  (hs:∀i Z H(D':Ends),i<n->Pv i Z H->(∀σ' H',Pv (i+1) σ' H'->D'.nx σ' H')->(∀v H',D.rt v H'->D'.rt v H')->g (.int (lo+i)) Z H λσ2 H2=>tb D' σ2 H2) (hd:∀Z H,Pv n Z H->D.nx Z H):=
 wG (lo:=lo) (n:=n) (g:=g) (tb:=tb) (D:=D) (Z:=Z) (H:=H) Pv h0 (λi Z H hx hp=>hs i Z H _ hx hp (λ_ _ h=>h) λ_ _ h=>h) hd
def OT(Pv:Nat->St->Hp->Prop)(h0:Pv 0 Z H)(hl:∀i Z H,i<=kvs.length->Pv i Z H->H d=some (.de o u))
  (hs:∀i kv Z H(D':Ends),kvs[i]?=some kv->Pv i Z H->(∀σ' H',Pv (i+1) σ' H'->D'.nx σ' H')->(∀v H',D.rt v H'->D'.rt v H')->g kv.1 Z H λσ2 H2=>tb D' σ2 H2) (hd:∀Z H,Pv kvs.length Z H->D.nx Z H):=
 RF (d:=d) (o:=o) (u:=u) (kvs:=kvs) (g:=g) (tb:=tb) (D:=D) (Z:=Z) (H:=H) Pv h0 hl (λi kv Z H hx hp=>hs i kv Z H _ hx hp (λ_ _ h=>h) λ_ _ h=>h) hd
def RG(Pv:Nat->St->Hp->Prop)(h0:Pv 0 Z H)(hl:∀i Z H,i<=xs.length->Pv i Z H->bp K H a xs)
  (hs:∀i x p Z H(D':Ends),xs[i]?=some x->Pv i Z H->H p=none->(∀σ' H',Pv (i+1) σ' H'->D'.nx σ' H')->g (.ref p) Z (upd H p (.tup [.int i,x])) λσ2 H2=>tb D' σ2 H2) (hd:∀Z H,Pv xs.length Z H->D.nx Z H):=
 DS (K:=K) (a:=a) (xs:=xs) (g:=g) (tb:=tb) (D:=D) (Z:=Z) (H:=H) Pv h0 hl (λi x p Z H hx hp hn=>hs i x p Z H _ hx hp hn λ_ _ h=>h) hd
end
end L2
namespace kr
open PySem PySem.Spec PyProof.Rows L2 zZ gw
seal L2.PE L2.PT L2.PW L2.PA L2.PS L2.mY L2.PI L2.PO L2.BF L2.PG L2.Aa
section
variable{P:Program}{w:World}{K:Frag}{mg:Aad}{base:Heap}
def SW(h:∀T,T=u->NJ t T D Z H):NJ t u D Z H:=h u rfl
inductive IB(K:Frag)(vs:Aao)(H:Hp)(Q:VK)(_x3:XK):Prop
 |mk (f nl:Addr) (gC:Aah) (_:vs=[.ref f,.ref nl]) (_:dY K f H) (_:nl≠f) (_:H nl=some (.lst (gC.map V.str))) (_:gC.length<=3) (_:(∀z∈gC,z∈cJ)) (_:∀(d:Addr)(kvs:List (Key×V))(H':Hp),dY K f H'->Ext f H H'->TabAt f H' d kvs->H d=none->Q (.ref d) H')
noncomputable def mQ:Aah:=["a","12","r","0"]
def Xl:(mQ.all λz=>decide (z∈cJ))=true:=by decide+kernel
def iW:cD ["_law_feed_here","_law_names","_law_tables_here","_law_values","_law_j","_law_name","_law_rows","_law_k","_law_long"] ["_law_feed_here","_law_names"] (defScope yJ):=jD (-3)
def Qr(F:fu K "_law_tables" "_law_tables" yJ f fd)(T:Txt K mg)(D:Dr P w K mg base):dk P w K mg base fU 2 f fd ["_law_feed_here","_law_names"] (IB K):=by
 refine F.ok iW (λ_ _ _ _ h=>by cases h;subst_vars;rfl) (-4);obtain⟨fe,nl,gC,rfl,hF,qD,vA,ue,hn3,k⟩:=h;have hu:=kj hr;refine{_,(aN (fK 2 iW jy) (aN (jT (i:=3) iW.nd rfl (Or.inr rfl) (rN FL (fb (iF f7 (sN f7 f7 f7))) uO (uN (dM jE bj (-23))))) (aN (fR bS rfl (FT rfl T.wZ (cz (pv 1))) (iY rfl (cA (iu 4 iW) (cA (iu 5 iW) g9))) (aN (fK 6 iW (fb gN)) (aN (fR bS rfl (jO rfl T.mJ (cz (-23))) (iu 7 iW) (aN (fK 8 iW (dq hJ (fb (sN bj bj bj)) (dM pf (pv 4) bj) (-15))) (aN (gJ (dh uD (-23) bj (eX _)) (ba (fK 8 iW (dM jE bj (-23)))) eG) (ba (lC (ox dc gc f9 qe (pv 6) (cz (dF fE rfl T.kE (-3) (cz (hE rfl (cU (fs:=["_law_values","_law_feed_here"]) (fr:=[3,0])) (jO rfl T.mJ (cz (pv 8))) (λ_ _ _ _=>(dq (vv (K:=K)) (pv 1) (cl D.fB hr (dR (pv 2) (cW (Br (K:=K)) rfl T.kW dj (cz (pv 1))))) (-15))))))))))))) (ba (gJ (PW.pt (EE (dh (Qm hr.Ic) (pv 6) (fb gN) (eX _)) (ED (dh uD (-23) bj (eX _))))) (ba (pY hu (pv 2) (pv 5) (pv 6) rfl)) eG))))) (ba (cN (pv 2)))))),?_}
 intro d hd;have nd:=hF.qd hd;have x0:=(Ext.refl fe H).new hd (.dK []);refine{(by show 4<=sizeLine;decide),λp0 ko=>AU {_,rfl,fe,3,rfl,(hF.new hd _).new ko _,by decide,by decide,λi1 H1 i0 i2 oM rB=>{_,_,rfl,rfl,_,rfl,p0,mQ.map V.str,rfl,bp.of (rB _ _ ((hF.new hd _).qd ko) aw),λvl ph=>?_}}};have x1:=(x0.new ko (.lst (mQ.map V.str))).trans rB;have uf:H1 d=some (.dK []):=rB _ _ nd (by rw[aE (bf aw ko)];exact aw);obtain⟨m,rfl⟩:∃m:Nat,i1=m:={i1.toNat,by lia};have ec:kA (mQ.map V.str) none (some (1+(m:Int)))=(mQ.take (1+m)).map V.str:=by rw[show(1+(m:Int))=((1+m:Nat):Int) by lia,KJ,tW]
 have x2:=x1.new ph (-45);have jV:=oM.new ph (-45);have hd2:upd H1 vl (-45) d=some (.dK []):=by rw[aE (bf uf ph)];exact uf
 have EZ:upd H1 vl (-45) vl=some (.lst ((mQ.take (1+m)).map V.str)):=by rw[aw,ec]
 have sO:=oM.qd ph;have v0:H vl=none:=x1.none sO ph;generalize upd H1 vl (-45)=H2 at x2 jV hd2 EZ⊢;have lv:(mQ.take (1+m)).length=1+m:=by rw[aT];show min (1+m) 4=_;lia
 have xX:∀z∈mQ.take (1+m),z∈cJ:=λz hz=>bo (bZ.mp Xl z (gx hz));generalize mQ.take (1+m)=Pt at EZ lv xX;have lvl:(Pt.map V.str).length=Pt.length:=ak _;clear ec uf ph ko rB x1 x0 oM;refine{_,rfl,nl,rfl,{_,bp.of (x2 _ _ qD vA)},RG (K:=K) (a:=nl) (xs:=gC.map V.str)
  (λi Z H3=>∃(x4 x5 x6 x7 x8:Aap)(kvs:List (Key×V)),Z=[some (.ref fe),some (.ref nl),some (.ref d),some (.ref vl),x4,x5,x6,x7,x8]/\dY K fe H3/\Ext fe H H3/\H3 vl=some (.lst (Pt.map V.str))/\H3 d=some (.dK kvs)/\(kvs.map (·.1)).Nodup/\kvs.length<=i/\∀kv∈kvs,Eb fe H3 kv)
  {none,none,none,none,none,[],rfl,jV,x2,EZ,hd2,fJ,ar _,λkv h=>by cases h} (λi Z H3 _ hq=>by(obtain⟨_,_,_,_,_,_,_,_,sm,_⟩:=hq;exact bp.of (sm _ _ qD vA))) ?_ ?_}
 ·rintro i x p Z H3 D1 hx ⟨x4,x5,x6,x7,x8,kvs,rfl,jP,iy,MQ,vC,VM,mW,Wz⟩ hp EM;obtain⟨z,hz,rfl⟩:=js hx;have li:i<gC.length:=(ax.mp hz).1;have zp:=hn3 z (aH hz);refine{p,_,rfl,bF.of aw,rfl,_,_,rfl,_,_,rfl,rfl,?_};have np:=jP.qd hp;have Ze:Ext fe H3 (upd H3 p (.tup [.int i,.str z])):=(Ext.refl fe H3).new hp _;have nG:=jP.new hp (.tup [.int i,.str z]);generalize upd H3 p (.tup [.int i,.str z])=H4 at Ze nG⊢;refine{(-18),λrl Wh=>?_};have JH:=nG.qd Wh;have rl0:H3 rl=none:=Ze.none JH Wh;have x5':Ext fe H3 (upd H4 rl (.lst [])):=Ze.new Wh _;refine{_,rfl,fe,6,rfl,nG.new Wh _,by decide,by decide,λi5 H5 j0 j1 vE sX=>?_};have F6:=x5'.trans sX;refine{_,rfl,by lia,by lia,wG (lo:=0) (n:=i5.toNat)
   (λj Z H6=>∃(y7 y8:Aap)(ys:Aao)(rows:Aab),Z=[some (.ref fe),some (.ref nl),some (.ref d),some (.ref vl),some (.int i),some (.str z),some (.ref rl),y7,y8]/\dY K fe H6/\Ext fe H3 H6/\H6 rl=some (-39)/\uK fe H6 ys rows/\(∀r∈rows,mK r)/\rows.length=j)
   {_,_,[],[],rfl,vE,F6,sX _ _ JH aw,.nil,λr h=>(by cases h),rfl} ?_ ?_}
  ·rintro j Z H6 hj ⟨y7,y8,ys,rows,rfl,ug,mC,A7,Kg,hg6,hj6⟩;have ly:ys.length=rows.length:=Kg.length;refine SW λT1 e1=>?_;refine{(by show 3<=sizeLine;decide),λq hq=>?_};obtain⟨lg,ev,l0,l1⟩:=VU (i:=(i:Int)) ∅;refine{_,rfl,_,_,rfl,rfl,(by show(0:Int)<3;decide),_,_,_,_,rfl,rfl,bp.of aw,ev,?_};have Bf:=ug.new hq (-69);have Fj:=mC.new hq (-69);have DM:upd H6 q (-69) rl=some (-39):=by rw[aE (bf A7 hq)];exact A7
   have MU:=oq Kg ((Ext.refl fe H6).new hq (-69));generalize upd H6 q (-69)=H7 at Bf Fj DM MU⊢;show T1 _ _ _;subst e1;refine IK λR hR=>?_;have rest:∀(lg:Int)(H8:Hp),1<=lg->lg<=4->dY K fe H8->Ext fe H7 H8->R [some (.ref fe),some (.ref nl),some (.ref d),some (.ref vl),some (.int i),some (.str z),some (.ref rl),some (.int (0+(j:Int))),some (.int lg)] H8:=λlg H8 l0 l1 Fd Bj=>by
    refine hR _ _ ?_;have ad6:=Bj _ _ JH DM;refine{_,rfl,.inl {rfl,_,bp.of ad6},_,rfl,lg,rfl,by lia,by lia,λj m zs H9=>∃ts:Aah,zs=ts.map V.str/\ts.length=j/\j<=lg.toNat/\m=lg.toNat -j/\dY K fe H9/\Ext fe H8 H9/\∀t∈ts,t∈cJ,{_,[],rfl,rfl,aP _,rfl,Fd,Ext.refl _ _,λt h=>by cases h},?_};rintro j5 m5 zs H9 ⟨ts,rfl,bK,hle,rfl,WK,WS,qJ⟩;have abr:=Bj.trans WS;have hv9:=(Fj.trans abr) _ _ sO MQ;by_cases lt5:j5<lg.toNat
    ·refine .inr {lt5,by rw[ak,bK];exact bC ∅,?_};rintro v Ha ⟨rfl,rfl⟩;refine gq ?_;refine{_,rfl,_,rfl,_,rfl,_,_,rfl,.inl {_,bp.of hv9,rfl},fe,_,rfl,WK,by lia,by lia,λi8 Hb n0 n1 WI exb=>?_};obtain⟨z9,Kb,ev9⟩:=rM (zs:=Pt) n0 ∅;refine{_,_,_,_,rfl,rfl,bp.of (exb _ _ sO hv9),ev9,?_};refine{lg.toNat -(j5+1),by lia,ts++[z9],by rw[aJ];rfl,by rw[aO,bK];rfl,lt5,rfl,WI,WS.trans exb,λt h=>?_};rcases bg.mp h with q|q
     ·exact qJ t q
     ·rw[ay.mp q];exact xX z9 Kb
    ·refine .inl {by show lg.toNat<=j5;lia,by rw[ak,bK];exact bu (bC ∅),λl hl=>?_};refine{_,_,rfl,.inl {bp.of aw,λtt wx=>?_}};have WJ:=WK.new hl (.lst (ts.map V.str));have EN:=WJ.qd wx;have xa:Ext fe H7 (upd (upd H9 l (.lst (ts.map V.str))) tt (.tup (ts.map V.str))):=(abr.new hl _).new wx _;have WI:=WJ.new wx (.tup (ts.map V.str));have T7:upd (upd H9 l (.lst (ts.map V.str))) tt (.tup (ts.map V.str)) tt=some (.tup (ts.map V.str)):=aw;generalize upd (upd H9 l (.lst (ts.map V.str))) tt (.tup (ts.map V.str))=Hb at xa WI T7⊢;have OC:=xa _ _ JH DM;refine{_,_,_,rfl,rfl,OC,bC ∅,?_};have hrb:uK fe (upd Hb rl (.lst (ys++[.ref tt]))) (ys++[.ref tt]) (rows++[ts]):=by
      refine Paired.Ew (Paired.vo (oq MU xa) λy r ⟨b,e1,nb,hb⟩=>{b,e1,nb,?_}) {tt,rfl,EN,?_}
      ·rw[aE (yR hb OC λz=>by cases z)];exact hb
      ·rw[aE (yR T7 OC λz=>by cases z)];exact T7
     refine{_,_,_,rows++[ts],rfl,WI.lst OC JH _,(Fj.trans xa).own rl0 _,aw,hrb,λr h=>?_,by rw[aO,hj6];rfl};rcases bg.mp h with q|q
     ·exact hg6 r q
     ·rw[ay.mp q];exact{by lia,by lia,qJ}
   refine{_,rfl,fe,8,rfl,Bf,by decide,by decide,λi8 H8 c0 c1 Fd Bj=>{rfl,_,rfl,?_}};refine fo (-62) (-62)
   ·exact{_,rfl,fe,4,rfl,Fd,by decide,by decide,λi9 H9 d0 d1 WK WS=>{_,_,rfl,rfl,rest _ H9 ∅ ∅ WK (Bj.trans WS)}}
   ·exact rest lg H8 l0 l1 Fd Bj
  ·rintro Z H6 ⟨y7,y8,ys,rows,rfl,ug,mC,A7,Kg,hg6,hj6⟩;have ly:ys.length=rows.length:=Kg.length;have put:∀(H7:Hp),dY K fe H7->Ext fe H6 H7->∃(x4 x5 x6 x7 x8:Aap)(Ov:List (Key×V)),[some (V.ref fe),some (.ref nl),some (.ref d),some (.ref vl),some (.int i),some (.str z),some (.ref rl),y7,y8]=[some (.ref fe),some (.ref nl),some (.ref d),some (.ref vl),x4,x5,x6,x7,x8]/\dY K fe (upd H7 d (-42))/\Ext fe H (upd H7 d (-42))/\upd H7 d (-42) vl=some (.lst (Pt.map V.str))/\upd H7 d (-42) d=some (.dK Ov)/\(Ov.map (·.1)).Nodup/\Ov.length<=i+1/\∀kv∈Ov,Eb fe (upd H7 d (-42)) kv:=λH7 Bf Fj=>by
    have OY:=mC.trans Fj;have Rv:=OY _ _ nd vC;have DM:=Fj _ _ JH A7;have nrd:rl≠d:=λe=>by rw[e,Rv]at DM;cases DM
    have nvd:vl≠d:=λe=>by rw[e,vC]at MQ;cases MQ
    have keep:∀{a:Addr}{o:HO},H7 a=some o->a≠d->upd H7 d (-42) a=some o:=λh n=>by rw[aE n];exact h
    have keepR:∀{ys:Aao}{rows:Aab},uK fe H7 ys rows->uK fe (upd H7 d (-42)) ys rows:=λh=>Paired.vo h λy r ⟨b,e1,nb,hb⟩=>{b,e1,nb,keep hb λe=>by rw[e,Rv]at hb;cases hb};refine{_,_,_,_,_,_,rfl,Bf.dic Rv nd _,(iy.trans OY).own hd _,keep (OY _ _ sO MQ) nvd,aw,NZ VM,aD Tc (Nat.add_le_add_right mW 1),λkv jd=>?_};rcases Ta jd with q|rfl
    ·obtain⟨z',a,jC,acd,e1,lN,na,ha,zQ,hg',qL⟩:=(Wz kv q).keep OY;exact{z',a,jC,acd,e1,lN,na,keep ha (λe=>by rw[e,Rv]at ha;cases ha),keepR zQ,hg',qL}
    ·exact{z,rl,ys,rows,rfl,zp,JH,keep DM nrd,keepR (oq Kg Fj),hg6,by lia}
   have kl:(kvs:List (Key×V)).length<=1000:=by lia
   refine{_,rfl,(-18),λe0 wF=>{rl,e0,ys,rfl,rfl,bp.of (by rw[aE (bf A7 wF)];exact A7),bp.of aw,_,rfl,?_}};have Bf:=ug.new wF (.lst []);have LI:=(Ext.refl fe H6).new wF (.lst []);generalize upd H6 e0 (.lst [])=H7 at Bf LI⊢;refine fo (-62) (-62)
   ·refine F2 ?_;exact{_,rfl,_,rfl,_,rfl,d,_,rfl,.inl {kvs,Sum.inr z,(mC.trans LI) _ _ nd vC,rfl,bC kl,rfl},EM _ _ (put H7 Bf LI)}
   ·refine{_,rfl,fe,2,rfl,Bf,by decide,by decide,λi8 H8 k0 k1 Fd Bj=>{rfl,_,rfl,?_}};refine fo (-62) (-62)
    ·exact{_,rfl,_,rfl,_,rfl,d,_,rfl,.inl {kvs,Sum.inr z,(mC.trans (LI.trans Bj)) _ _ nd vC,rfl,bC kl,rfl},EM _ _ (put H8 Fd (LI.trans Bj))}
    ·have OX:=mC.trans (LI.trans Bj);exact EM _ _ {_,_,_,_,_,kvs,rfl,Fd,iy.trans OX,OX _ _ sO MQ,OX _ _ nd vC,VM,by lia,λkv h=>(Wz kv h).keep OX}
 ·rintro Z H3 ⟨x4,x5,x6,x7,x8,kvs,rfl,jP,iy,MQ,vC,VM,mW,Wz⟩;rw[ak]at mW;exact{_,rfl,k d kvs H3 jP iy {nd,vC,VM,by lia,Wz} hd}
def gD(g:List (Str×Str)):List (Key×V):=g.map λp=>(Sum.inr p.1,V.str p.2)
def VY(g:List (Str×Str))(z:Str):Option Str:=(g.find? λp=>decide (p.1=z)).map (·.2)
def w5(g:List (Str×Str))(z:Str):Str:=(VY g z).getD z
theorem LP(z:Str):∀g:List (Str×Str),fk (gD g) (Sum.inr z:Key)=(VY g z).map V.str
 |[]=>rfl
 |p::r=>by
  have ih:=LP z r;unfold fk VY at*;show Option.map _ (List.find? _ ((Sum.inr p.1,V.str p.2)::gD r))=_;rw[eK,eK];by_cases h:p.1=z
  ·rw[aZ h,aZ (show(Sum.inr p.1:Key)=Sum.inr z from bU _ h)];rfl
  ·rw[bI h,bI (show ¬(Sum.inr p.1:Key)=Sum.inr z fromλe=>h (by injection e))];exact ih
inductive Vp(vs:Aao)(H:Hp)(Q:VK)(_x3:XK):Prop
 |mk (t d:Addr) (ts:Aah) (g:List (Str×Str)) (_:vs=[.ref t,.ref d]) (_:H t=some (.tup (ts.map V.str))) (_:H d=some (.dK (gD g))) (_:ts.length<=100) (_:∀(r:Addr)(H':Hp),bq H H'->H' r=some (.tup ((ts.map (w5 g)).map V.str))->Q (.ref r) H')
def SX:cD ["_law_terms","_law_given"] ["_law_terms","_law_given"] (defScope FO):=jD (-3)
def aas{f:Addr}{fd:FuncData}(F:fu K "_law_led" "_law_led" FO f fd)(T:Txt K mg):dk P w K mg base fU 1 f fd ["_law_terms","_law_given"] Vp:=by
 refine F.ok SX (λ_ _ _ _ h=>by cases h;subst_vars;rfl) (-4);obtain⟨t,d,ts,g,rfl,ht,hd,hl,k⟩:=h;have hu:=kj hr;refine{_,(ba (cN (dF fE rfl T.kE (-3) (cz (hE rfl (cU (fs:=["_law_given"]) (fr:=[1])) (sL (pv 0)) (λ_ _ _ _=>(yN hu (pv 1) (pv 0) (pv 0) VR))))))),?_};refine{_,rfl,t,rfl,{_,bF.of ht},zc (K:=K) (a:=t) (xs:=ts.map V.str) (λi ys H2=>H2=H/\i<=ts.length/\ys=((ts.take i).map (w5 g)).map V.str) (-28) {rfl,aP _,rfl} ?_ ?_ ?_}
 ·rintro i ys H2 hi ⟨rfl,_,rfl⟩;refine{bF.of ht,?_};rw[ak,ak,aT];lia
 ·rintro i x ys H2 N hc ⟨rfl,hi,rfl⟩ hN;obtain⟨z,hz,rfl⟩:=js hc;have bK:i<ts.length:=(ax.mp hz).1;refine gq ?_;refine{_,rfl,d,rfl,.inl {_,.inl hd},_,rfl,_,rfl,_,kS.k (k:=Sum.inr z) hd,?_};have e:(fk (gD g) (Sum.inr z:Key)).getD (.str z)=.str (w5 g z):=by rw[LP];unfold w5;cases VY g z<;>rfl
  rw[e];refine hN _ _ {rfl,bK,?_};rw[bh,hz,aJ,aJ];rfl
 ·rintro ys H2 ⟨rfl,_,rfl⟩ l qL;rw[ak,aV];refine{l,_,rfl,.inl {bp.of aw,λp hp=>?_}};exact k p _ ((aM qL _).trans (aM hp _)) aw
def gK(g:iC):List (Key×V):=g.map λp=>(Sum.inr p.1,.str p.2)
def HZ(g:iC)(u:Str):fk (gK g) (Sum.inr u:Key)=(gw.get g u).map V.str:=by
 unfold gK gw.get
 induction g with
 |nil=>rfl
 |cons p r ih=>
  by_cases c:p.1=u
  ·rw[aU,ip (bU Sum.inr c),dW (p:=λp:Str×Str=>decide (p.1=u)) (aZ c)];rfl
  ·rw[aU,gW (λe=>c (by injection e)),dX (p:=λp:Str×Str=>decide (p.1=u)) (λd=>c (bo d))];exact ih
def Z9{g:iC}{u v:Str}(n:gw.get g u=none):putK (gK g) (Sum.inr u) (.str v)=gK (g++[(u,v)]):=by rw[yM _ (by rw[HZ,n];rfl)];unfold gK;rw[aJ];rfl
def Er{H H':Hp}{a:Addr}{xs:Aao}(q:bF K H a xs)(s:bq H H'):bF K H' a xs:=by
 rcases q with(q|⟨o,q⟩)|q
 ·exact .inl (.inl (s _ _ q))
 ·exact .inl (.inr {o,s _ _ q})
 ·exact .inr q
theorem B9:∀{ts as:Aah}{g:iC},ts.length≠as.length->gw.fit isUnk g ts as=none
 |[],[],_,h=>absurd rfl h
 |[],_::_,_,_=>rfl
 |_::_,[],_,_=>rfl
 |t::ts,a::as,g,h=>by
  have h':ts.length≠as.length:=λe=>h (by rw[bx,bx,e]);unfold gw.fit;split
  ·split
   ·split
    ·exact B9 h'
    ·rfl
   ·exact B9 h'
  ·split
   ·exact B9 h'
   ·rfl
inductive L9(K:Frag)(vs:Aao)(H:Hp)(Q:VK)(_x3:XK):Prop
 |mk (d t a:Addr) (g:iC) (ts as:Aah) (_:vs=[.ref t,.ref a,.ref d]) (_:H d=some (.dK (gK g))) (_:g.length<=1000) (_:(keys g).Nodup) (_:bF K H t (ts.map V.str)) (_:bF K H a (as.map V.str)) (_:ts.length<=1000) (_:as.length<=1000) (_:(∀z∈ts,qg z=true/\z.length<=100)) (_:(∀H',bq H H'->gw.fit isUnk g ts as=none->Q .cE H')) (_:∀p g' H',bq H H'->H p=none->H' p=some (.dK (gK g'))->gw.fit isUnk g ts as=some g'->Q (.ref p) H')
def S8{g:iC}{u v:Str}(nd:(keys g).Nodup)(h:gw.get g u=some v):putK (gK g) (Sum.inr u) (.str v)=gK g:=by
 have hs:(fk (gK g) (Sum.inr u:Key)).isSome=true:=by rw[HZ,h];rfl
 unfold putK;rw[m9,aC hs];unfold gK;rw[bW];refine bX λp hp=>?_;show(if(Sum.inr p.1:Key)=Sum.inr u then((Sum.inr p.1:Key),V.str v)else(Sum.inr p.1,V.str p.2))=(Sum.inr p.1,V.str p.2);by_cases c:p.1=u
 ·rw[aC (bU Sum.inr c)];have:=gw.get_mem nd (u:=p.1) (v:=p.2) hp;rw[c,h]at this;rw[bN this]
 ·rw[az (λe=>c (by injection e))]
def uC:cD ["_law_terms","_law_row","_law_given","_law_more","_law_term","_law_value"] ["_law_terms","_law_row","_law_given"] (defScope AB):=jD (-3)
def TH{f:Addr}{fd:FuncData}(F:fu K "_law_bound" "_law_bound" AB f fd)(T:Txt K mg):dk P w K mg base fU 1 f fd ["_law_terms","_law_row","_law_given"] (L9 K):=by
 refine F.ok uC (λ_ _ _ _ h=>by cases h;subst_vars;rfl) (-4);obtain⟨d,t,a,g,ts,as,rfl,hd,lg,nd,ht,ha,lt,la,hz,k1,k2⟩:=h;have hu:=kj hr;refine{_,(aN (gJ (dh B1 (cW iS rfl T.kW dj (cz (pv 0))) (cW iS rfl T.kW dj (cz (pv 1))) (eX _)) (ba (cN xI)) eG) (aN (fK 3 uC (dF Pd rfl T.AX (-3) (cz (pv 2)))) (aN (fR bS rfl (Mq rfl T.ES (dR (pv 0) (pv 1))) (iY rfl (cA (iu 4 uC) (cA (iu 5 uC) g9))) (ba (gJ (dh uD (dq QX (pv 4) bj (-15)) f7 (eX _)) (aN (gJ (dh B1 (yN hu (pv 3) (pv 4) (pv 5) VR) (pv 5) (eX _)) (ba (cN xI)) eG) (ba (pY hu (pv 3) (pv 4) (pv 5) rfl))) (ba (gJ (dh B1 (pv 4) (pv 5) (eX _)) (ba (cN xI)) eG))))) (ba (cN (pv 3)))))),?_}
 have CP:(ts.map V.str).length=ts.length:=ak _;have las:(as.map V.str).length=as.length:=ak _;refine{_,rfl,_,_,rfl,.inr ⟨_,ht,rfl⟩,_,rfl,_,_,rfl,.inr ⟨_,ha,rfl⟩,rfl,_,rfl,?_};refine fo (-62) (-62)
 ·refine k1 H (bq.refl H) (B9 λe=>?_);rw[CP,las,e]at c;simp at c
 have le:ts.length=as.length:=by rw[CP,las]at c;have:¬¬(V.int (ts.length:Int)=V.int (as.length:Int)):=λh=>c (by simpa using h);have:=uu.mp this;injection this with this;lia
 refine{_,rfl,d,gK g,rfl,.inl hd,λp hp=>?_};have s1:bq H (upd H p (.dK (gK g))):=aM hp _;have wA:upd H p (.dK (gK g)) p=some (.dK (gK g)):=aw;generalize (upd H p (.dK (gK g)))=H1 at s1 wA⊢;refine{_,rfl,_,rfl,t,a,rfl,{_,Er ht s1},{_,Er ha s1},Uy (K:=K) (a:=t) (b:=a) (xs:=ts.map V.str) (ys:=as.map V.str)
  (λi Z H2=>∃(x4 x5:Aap)(gi:iC),Z=[some (.ref t),some (-51),some (.ref d),some (.ref p),x4,x5]/\bq H H2/\H2 p=some (.dK (gK gi))/\(keys gi).Nodup/\gi.length<=g.length+i/\gw.fit isUnk g ts as=gw.fit isUnk gi (ts.drop i) (as.drop i))
  (by rw[CP,las,le]) {_,_,g,rfl,s1,wA,nd,ar _,rfl} ?_ ?_ ?_}
 ·rintro i Z H2 hi ⟨x4,x5,gi,rfl,s2,_⟩;exact{Er ht s2,Er ha s2}
 ·rintro i x y q Z H2 hx hy ⟨x4,x5,gi,rfl,s2,iU,MB,lg2,ef⟩ hq;rw[aK]at hx hy;obtain⟨z,V5,rfl⟩:=aX.mp hx;obtain⟨b,hbi,rfl⟩:=aX.mp hy;have li:i<ts.length:=(ax.mp V5).1;have dz:ts.drop i=z::ts.drop (i+1):=by rw[eP li];rw[au li]at V5;cases V5;rfl
  have db:as.drop i=b::as.drop (i+1):=by
   have li':i<as.length:=by lia
   rw[eP li'];rw[au li']at hbi;cases hbi;rfl
  rw[dz,db]at ef;have s3:bq H2 (upd H2 q (.tup [.str z,.str b])):=aM hq _;have iw:=s3 _ _ iU;refine{q,_,rfl,bF.of aw,rfl,_,_,rfl,_,_,rfl,rfl,?_};generalize (upd H2 q (.tup [.str z,.str b]))=H3 at s3 iw⊢;obtain⟨zT,zl⟩:=hz z (aH V5);obtain⟨c,Rx⟩:=Io zT;refine{_,rfl,_,_,_,rfl,rfl,bu (bC ∅),kF (j:=0) Rx,rfl,_,rfl,?_};rw[Ip zT Rx];have zI:=s2.trans s3;have lgk:(gK gi).length=gi.length:=ak _;refine fo (λc1=>?_) (λc1=>?_)
  ·have c1:isUnk z=true:=c1;refine{_,rfl,p,rfl,.inl {_,.inl iw},_,rfl,_,rfl,_,kS.k (k:=Sum.inr z) iw,?_};rw[HZ];cases hm:gw.get gi z with
   |some m=>
    refine{_,rfl,rfl,_,rfl,?_};refine fo (λc2=>?_) (λc2=>?_)
    ·refine k1 H3 zI ?_;rw[ef];unfold gw.fit;rw[aC c1,hm];show(if m=b then _ else none)=none;rw[az (λe=>by rw[e]at c2;simp at c2)]
    ·have e2:m=b:=by have:¬¬(V.str m=V.str b):=λh=>c2 (by simpa using h);have:=uu.mp this;injection this
     refine{_,rfl,_,rfl,_,rfl,p,_,rfl,vT.k (k:=Sum.inr z) iw (by rw[lgk];exact a9 (show gi.length<3000 by lia) (by rw[b8];decide)),?_};rw[S8 MB (by rw[hm,e2])];refine{_,_,gi,rfl,λb' u h=>?_,aw,MB,by lia,?_}
     ·rw[aE (bf h hp)];exact zI _ _ h
     ·rw[ef]
      conv=>lhs;unfold gw.fit
      rw[aC c1,hm];show(if m=b then _ else none)=_;rw[aC e2]
   |none=>
    refine{_,rfl,rfl,_,rfl,?_};refine fo (λc2=>?_) (λc2=>?_)
    ·simp at c2
    ·refine{_,rfl,_,rfl,_,rfl,p,_,rfl,vT.k (k:=Sum.inr z) iw (by rw[lgk];exact a9 (show gi.length<3000 by lia) (by rw[b8];decide)),?_};rw[Z9 hm];refine{_,_,gi++[(z,b)],rfl,λb' u h=>?_,aw,AR MB hm,by rw[aO];show gi.length+1<=_;lia,?_}
     ·rw[aE (bf h hp)];exact zI _ _ h
     ·rw[ef]
      conv=>lhs;unfold gw.fit
      rw[aC c1,hm]
  ·have c1:¬isUnk z=true:=c1;refine{_,rfl,_,rfl,rfl,_,rfl,?_};refine fo (λc2=>?_) (λc2=>?_)
   ·refine k1 H3 zI ?_;rw[ef];unfold gw.fit;rw[az c1,az (λe=>by rw[e]at c2;simp at c2)]
   ·have e2:z=b:=by have:¬¬(V.str z=V.str b):=λh=>c2 (by simpa using h);have:=uu.mp this;injection this
    refine{_,_,gi,rfl,zI,iw,MB,by lia,?_};rw[ef]
    conv=>lhs;unfold gw.fit
    rw[az c1,aC e2]
 ·rintro Z H2 ⟨x4,x5,gi,rfl,s2,iU,MB,lg2,ef⟩;rw[CP,xq (ar _),xq ∅]at ef;exact{_,rfl,k2 p gi H2 s2 hp iU ef}
def uA(fs:List En)(ws:List iC)(a:Str×Aah):List iC:=ws.flatMap λg=>(eO (cP fs a.1)).filterMap (gw.fit isUnk g a.2)
def qt(fs:List En)(ats:Aaa):List iC:=ats.foldl (uA fs) [[]]
structure zw(fs:List En)(as:Aaa)(ws:List iC):Prop where
 nd:∀g∈ws,(keys g).Nodup
 kk:∀g∈ws,∀u,u∈keys g↔isUnk u=true/\∃a∈as,u∈a.2
 ft:∀g∈ws,∀h,j9 g h->∀a∈as,a.2.map (ap isUnk h)∈cP fs a.1
 al:∀h,(∀a∈as,a.2.map (ap isUnk h)∈cP fs a.1)->∃g∈ws,j9 g h
 ln:ws.length<=5^as.length
 gl:∀g∈ws,g.length<=4*as.length
def zw.start(fs:List En):zw fs [] [[]]:={λg h=>by rw[ay.mp h];exact fJ,λg h u=>by rw[ay.mp h];exact{λq=>(by cases q),λ⟨_,_,q,_⟩=>by cases q},λ_ _ _ _ _ q=>(by cases q),λh _=>{[],ay.mpr rfl,λp hp=>by cases hp},ar _,λg h=>by rw[ay.mp h];exact aP _}
theorem y0:∀{ts as:Aah}{g g':iC},gw.fit isUnk g ts as=some g'->g'.length<=g.length+ts.length
 |[],[],g,g',e=>by cases e;exact ar _
 |[],_::_,_,_,e=>by cases e
 |_::_,[],_,_,e=>by cases e
 |t::ts,a::as,g,g',e=>by
  unfold gw.fit at e;rw[bx];split at e
  ·split at e
   ·split at e
    ·have:=y0 e;lia
    ·cases e
   ·have:=y0 e;rw[aO,dA]at this;lia
  ·split at e
   ·have:=y0 e;lia
   ·cases e
theorem zX{α β:Type}(f:α->Option β):∀l:List α,(l.filterMap f).length<=l.length
 |[]=>ar _
 |a::l=>by
  have:=zX f l;rw[fP,bx];split
  ·lia
  ·rw[bx];lia
def zw.step{fs:List En}{as:Aaa}{ws:List iC}(x:zw fs as ws){a:Str×Aah}(l5:(cP fs a.1).length<=5)(l4:a.2.length<=4):zw fs (as++[a]) (uA fs ws a):=by
 have of:∀{g'},g'∈uA fs ws a->∃g∈ws,∃row∈cP fs a.1,gw.fit isUnk g a.2 row=some g':=λh=>by obtain⟨g,hg,h⟩:=j6.mp h;obtain⟨row,hr,e⟩:=kM.mp h;exact{g,hg,row,(hG _ _).mp hr,e}
 refine{λg' h=>?_,λg' h u=>?_,λg' h hh ag b hb=>?_,λh hf=>?_,?_,λg' h=>?_}
 ·obtain⟨g,hg,row,hr,e⟩:=of h;exact(rR (x.nd g hg) e).1
 ·obtain⟨g,hg,row,hr,e⟩:=of h;rw[(rR (x.nd g hg) e).2.2.1 u,x.kk g hg u];constructor
  ·rintro(⟨u1,b,hb,q⟩|⟨q,u1⟩)
   ·exact{u1,b,gz _ hb,q}
   ·exact{u1,a,cc _ (ay.mpr rfl),q}
  ·rintro⟨u1,b,hb,q⟩;rcases bg.mp hb with hb|hb
   ·exact .inl ⟨u1,b,hb,q⟩
   ·rw[ay.mp hb]at q;exact .inr ⟨q,u1⟩
 ·obtain⟨g,hg,row,hr,e⟩:=of h;obtain⟨_,lg,_,rw_⟩:=rR (x.nd g hg) e;rcases bg.mp hb with hb|hb
  ·exact x.ft g hg hh (j9.longer (x.nd g hg) lg ag) b hb
  ·rw[ay.mp hb,rw_ hh ag];exact hr
 ·obtain⟨g,hg,ag⟩:=x.al h λb hb=>hf b (gz _ hb);obtain⟨g',e,ag'⟩:=Fg (gH:=isUnk) (ts:=a.2) (x.nd g hg) ag;exact{g',j6.mpr {g,hg,kM.mpr {_,(hG _ _).mpr (hf a (cc _ (ay.mpr rfl))),e}},ag'}
 ·rw[aO,dA,jY,BH];refine aD ?_ (Nat.mul_le_mul_left 5 x.ln);unfold uA;generalize ws=l
  induction l with
  |nil=>exact aP _
  |cons g l ih=>
   rw[o6,aO,bx,Nat.mul_succ];have h1:=zX (gw.fit isUnk g a.2) (eO (cP fs a.1));have h2:=uy (cP fs a.1);lia
 ·obtain⟨g,hg,row,hr,e⟩:=of h;have h1:=y0 e;have h2:=x.gl g hg;rw[aO,dA];lia
def Eo(fs:List En)(as:Aaa)(a:Str×Aah):qt fs (as++[a])=uA fs (qt fs as) a:=by unfold qt;rw[oZ];rfl
theorem OO{H:Hp}{tb:Addr}{fs:List En}(tab:gY K H tb fs){ats:Aaa}(g:Good ats):∀i,i<=ats.length->zw fs (ats.take i) (qt fs (ats.take i))
 |0,_=>zw.start fs
 |i+1,h=>by rw[bh,au (show i<ats.length by lia)];show zw fs (ats.take i++[ats[i]]) (qt fs (ats.take i++[ats[i]]));rw[Eo];exact(OO tab g i ∅).step (tab.good _).1 (g _ (gh _)).1
def TV(g:iC)(z:Str):w5 g z=over g (λu=>u) z:=rfl
def Gq{fs:List En}{ats:Aaa}{ws:List iC}(x:zw fs ats ws){hz:Aah}(br:yw hz ats)(row:Aah):(∃g∈ws,row=hz.map (w5 g))↔∃s,AskP.tw isUnk (cP fs) ats s/\row=hz.map s:=by
 constructor
 ·rintro⟨g,hg,rfl⟩;refine{ap isUnk (over g λu=>u),{λt u=>az (by rw[u];exact aW),λa ha=>x.ft g hg _ (Li (x.nd g hg)) a ha},bX λz lN=>?_};unfold ap;cases u:isUnk z with
  |true=>exact TV g z
  |false=>
   have n:z∉keys g:=λq=>by rw[((x.kk g hg z).mp q).1]at u;cases u
   show((gw.get g z).getD z)=z;rw[get_none.mpr n];rfl
 ·rintro⟨s,hs,rfl⟩;have ea:∀ts:Aah,ts.map (ap isUnk s)=ts.map s:=λts=>bX λt _=>by
   unfold ap;cases u:isUnk t with
   |true=>rfl
   |false=>exact(hs.1 t u).symm
  obtain⟨g,hg,ag⟩:=x.al s λa ha=>by rw[ea];exact hs.2 a ha
  refine{g,hg,bX λz lN=>?_};show s z=(gw.get g z).getD z;cases e:gw.get g z with
  |some v=>exact ag.get e
  |none=>
   cases u:isUnk z with
   |false=>exact hs.1 z u
   |true=>exact absurd ((x.kk g hg z).mpr {u,qj.mp ((br.2 z lN).2 u)}) (get_none.mp e)
abbrev Gn(H:Hp):Aao->List iC->Prop:=Paired λ(v:V)(g:iC)=>∃p,v=.ref p/\H p=some (.dK (gK g))
def Bh{H H':Hp}{vs:Aao}{gs:List iC}(h:Gn H vs gs)(s:bq H H'):Gn H' vs gs:=Paired.vo h λ_ _ ⟨p,e,q⟩=>{p,e,s _ _ q}
inductive PQ(K:Frag)(vs:Aao)(H:Hp)(Q:VK)(_x3:XK):Prop
 |mk (v:V) (tb:Addr) (fs:List En) (hz:Aah) (ats:Aaa) (_:vs=[v,.ref tb]) (_:Di H v hz ats) (_:VA hz ats) (_:gY K H tb fs) (_:∀(l:Addr)(zs:Aao)(H':Hp),bq H H'->H l=none->H' l=some (.lst zs)->cT K H' zs (gX fs hz ats)->Q (.ref l) H')
structure aex(P:Program)(w:World)(K:Frag)(mg:Aad)(base:Heap):Prop where
 Ys:dP P w K mg base 1 "_law_bound" ["_law_terms","_law_row","_law_given"] (L9 K)
 aco:dP P w K mg base 1 "_law_led" ["_law_terms","_law_given"] Vp
def yb{α β:Type}(f:α->Option β)(l:List α){i:Nat}{x:α}(h:l[i]?=some x):(l.take (i+1)).filterMap f=(l.take i).filterMap f++(f x).toList:=by
 rw[bh,h,List.filterMap_append];cases e:f x with
 |none=>simp[e]
 |some y=>simp[e]
def fm:cD ["_law_question_here","_law_tables_here","_law_ways","_law_name","_law_terms","_law_further","_law_given","_law_row","_law_more"] ["_law_question_here","_law_tables_here"] (defScope qz):=jD (-3)
def Yc{f:Addr}{fd:FuncData}(F:fu K "_law_all_answers" "_law_all_answers" qz f fd)(T:Txt K mg)(D:aex P w K mg base):dk P w K mg base fU 2 f fd ["_law_question_here","_law_tables_here"] (PQ K):=by
 refine F.ok fm (λ_ _ _ _ h=>by cases h;subst_vars;rfl) (-4);obtain⟨v,tb,fs,hz,ats,rfl,⟨q,h0,aa,jr,rfl,hq,hh0,sW,nE⟩,va,tab,k⟩:=h;have hu:=kj hr;have la:jr.length=ats.length:=bw nE;refine{_,(aN (fK 2 fm (fb (cz jy))) (aN (fR bS rfl (sL (dq lD (pv 0) bj (-15))) (iY rfl (cA (iu 3 fm) (cA (iu 4 fm) g9))) (aN (fK 5 fm (fb gN)) (aN (fR bS rfl (fX (pv 2)) (iu 6 fm) (ba (fR bS rfl (fX (cW (rU hr.hd) rfl T.vi (-3) (cz (dF (Bq hr.hd hr.units) rfl T.Of (-3) (cz (yN hu (pv 1) (pv 3) (fb gN) VS)))))) (iu 7 fm) (aN (fK 8 fm (cl D.Ys hr (sN (pv 4) (pv 7) (pv 6)))) (ba (gJ (dh X5 (pv 8) xI (eX _)) (ba (lC (ox dc gc f9 qe (pv 5) (cz (pv 8))))) eG)))))) (ba (fK 2 fm (pv 5)))))) (ba (cN (cW (rU hr.hd) rfl T.vi (-3) (cz (dF (Bq hr.hd hr.units) rfl T.Of (-3) (cz (hE rfl (cU (fs:=["_law_question_here"]) (fr:=[0])) (fX (pv 2)) (λ_ _ _ _=>(cl D.aco hr (dR (dq (uR (K:=K)) (pv 1) bj (-15)) (pv 0))))))))))))),?_}
 intro d0 gE;have s1:=aM gE (.dK []);refine{(by show 1<=sizeLine;decide),λw0 V8=>?_};have s2:=s1.trans (aM V8 (.lst [V.ref d0]));have hw2:upd (upd H d0 (.dK [])) w0 (.lst [V.ref d0]) w0=some (.lst [V.ref d0]):=aw;have Wu:Gn (upd (upd H d0 (.dK [])) w0 (.lst [V.ref d0])) [V.ref d0] [[]]:=.cons {d0,rfl,aM V8 _ _ _ aw} .nil;generalize upd (upd H d0 (.dK [])) w0 (.lst [V.ref d0])=H2 at s2 hw2 Wu⊢;refine{_,rfl,_,_,_,_,rfl,rfl,bF.of (s2 _ _ hq),rfl,aa,rfl,{jr,bF.of (s2 _ _ sW)},UA (K:=K) (a:=aa) (xs:=jr) (λi Z H3=>∃(wl:Addr)(zs:Aao)(x3 x4 x5 x6 x7 x8:Aap),Z=[some (.ref q),some (.ref tb),some (.ref wl),x3,x4,x5,x6,x7,x8]/\bq H H3/\H3 wl=some (.lst zs)/\Gn H3 zs (qt fs (ats.take i))/\i<=ats.length) {w0,_,none,none,none,none,none,none,rfl,s2,hw2,Wu,aP _} (λi Z H3 _ hq=>by(obtain⟨_,_,_,_,_,_,_,_,_,sm,_⟩:=hq;exact bF.of (sm _ _ sW))) ?_ ?_}
 ·rintro i x Z H3 D1 hx ⟨wl,zs,x3,x4,x5,x6,x7,x8,rfl,s3,Q7,E9,_⟩ EM _;obtain⟨a,ha,p,t,rfl,hp,ht⟩:=Paired.at nE hx;have bK:i<ats.length:=(ax.mp ha).1;obtain⟨l4,Wc,_,_⟩:=va.good a (aH ha);have G:=OO (K:=K) tab va.good i ∅;have e5:5^(ats.take i).length<=625:=aD (gu (n:=5) (j:=4) (-8) (by have:=va.l4;rw[aT];lia)) (-8);have lg4:4*(ats.take i).length<=16:=by have:=va.l4;rw[aT];lia
  have en:qt fs (ats.take (i+1))=uA fs (qt fs (ats.take i)) a:=by rw[bh,ha];exact Eo _ _ _
  rw[en]at EM;generalize qt fs (ats.take i)=ws at G E9 en EM;have lw:=G.ln;have lz:zs.length=ws.length:=bw E9;refine{p,_,rfl,bF.of (s3 _ _ hp),rfl,_,_,rfl,_,_,rfl,rfl,?_};refine{(-18),λfl hfl=>?_};have s4:=aM hfl (.lst []);refine{_,rfl,wl,rfl,{zs,bp.of (s4 _ _ Q7)},Bi (K:=K) (a:=wl) (xs:=zs) (λj Z H4=>∃(us:Aao)(y6 y7 y8:Aap),Z=[some (.ref q),some (.ref tb),some (.ref wl),some (.str a.1),some (.ref t),some (.ref fl),y6,y7,y8]/\bq H3 H4/\H4 fl=some (.lst us)/\Gn H4 us (uA fs (ws.take j) a)/\us.length<=5*j/\j<=ws.length) {_,_,_,_,rfl,s4,aw,.nil,ar _,aP _} (λj Z H4 _ hq=>by(obtain⟨_,_,_,_,_,sm,_⟩:=hq;exact bp.of (sm _ _ Q7))) ?_ ?_}
  ·rintro j y Z H4 D2 hy ⟨us,y6,y7,y8,rfl,Vv,C7,Wb,lu4,_⟩ VE _;obtain⟨g,hg,gp,rfl,hgp⟩:=Paired.at E9 hy;have hj:j<ws.length:=(ax.mp hg).1;have gm:=aH hg;have rh:=s3.trans Vv;have SE:=tab.b.same rh;refine{_,rfl,tb,rfl,.inl {_,.inl SE.at_},_,rfl,(-18),λl0 mB=>?_};have m0:=aM mB (.lst []);have k0:upd H4 l0 (.lst []) l0=some (.lst []):=aw;generalize upd H4 l0 (.lst [])=H5 at m0 k0⊢;obtain⟨rq,ys,eq,hrq,hR,Rj,hgr,_⟩:=Ku (SE.same m0) k0 a.1;have l5:=(tab.good a.1).1;refine{_,kS.k (k:=Sum.inr a.1) (m0 _ _ SE.at_),?_};rw[eq];refine{rq,ys,cP fs a.1,rfl,bp.of hrq,hR,by lia,λsa vs Na nu mu lu E1=>?_};have m1:=aM Na (.ext (kB P w sa vs));have Hm:upd H5 sa (.ext (kB P w sa vs)) sa=some (.ext (kB P w sa vs)):=aw;refine{sa,vs,ys,rfl,Hm,λx hx=>{iq (E1 x hx).1 m1,(E1 x hx).2},λ_ x hx=>?_,by lia,λl zJ hl xZ _=>?_}
   ·have:=hgr x.1 ((mu x.1).mp (cy hx));intro q;have:=this.1;rw[q]at this;cases this
   rw[pN nu mu]at xZ
   replace hl:upd H5 sa (.ext (kB P w sa vs)) l=none:=hl
   have m2:=aM hl (.lst zJ);have Vu:=m0.trans (m1.trans m2);have hR6:=cM xZ m2;have rA:upd (upd H5 sa (.ext (kB P w sa vs))) l (.lst zJ) l=some (.lst zJ):=aw;clear xZ E1 mu nu Hm m1 m2 eq hR;have nfl:l≠fl:=λz=>by rw[z]at hl;have h1:=m0 _ _ C7;rw[aE (λe=>by rw[e,Na]at h1;cases h1),h1]at hl;cases hl
   obtain⟨H6,e6⟩:∃H6,H6=(upd (upd H5 sa (.ext (kB P w sa vs))) l (.lst zJ)):=⟨_,rfl⟩;have i6:∀b u,b≠fl->H6 b=some u->(upd (upd H5 sa (.ext (kB P w sa vs))) l (.lst zJ)) b=some u:=λb u _ h=>by rw[e6]at h;exact h
   have k6:=Vu;rw[<-e6]at k6 hR6 rA;have lry:zJ.length=(eO (cP fs a.1)).length:=bw hR6;have lun:=uy (cP fs a.1);have s46:=Vv.trans Vu;refine{l,rfl,{_,bp.of aw},Bi (K:=K) (a:=l) (xs:=zJ) (λm Z H7=>∃(vs:Aao)(y7 y8:Aap),Z=[some (.ref q),some (.ref tb),some (.ref wl),some (.str a.1),some (.ref t),some (.ref fl),some (.ref gp),y7,y8]/\bq H3 H7/\(∀b u,b≠fl->H6 b=some u->H7 b=some u)/\H7 fl=some (.lst vs)/\Gn H7 vs (uA fs (ws.take j) a++((eO (cP fs a.1)).take m).filterMap (gw.fit isUnk g a.2))/\vs.length<=5*j+m/\m<=(eO (cP fs a.1)).length) {us,_,_,rfl,s46,i6,Vu _ _ C7,?_,by lia,aP _} (λm Z H7 _ hq=>by(obtain⟨_,_,_,_,_,kp,_⟩:=hq;exact bp.of (kp _ _ nfl rA))) ?_ ?_}
   ·rw[yt,List.filterMap_nil,b6];exact Bh Wb Vu
   ·rintro m r Z H7 D3 zQ ⟨vs,y7,y8,rfl,s7,kp,Wx,Hk,lv7,_⟩ VD _;obtain⟨row,OB,ra,rfl,Wi⟩:=Paired.at hR6 zQ;have hm:m<(eO (cP fs a.1)).length:=(ax.mp OB).1;have t67:dw H6 H7:=λb xs h=>by
     rcases h with h|⟨o,h⟩
     ·exact .inl (kp _ _ (λe=>by rw[e,k6 _ _ C7]at h;cases h) h)
     ·exact .inr {o,kp _ _ (λe=>by rw[e,k6 _ _ C7]at h;cases h) h}
    have F3:=o9 Wi t67;obtain⟨gr1,gr2,_⟩:=(tab.good a.1).2 row ((hG _ _).mp (aH OB));have gl:=G.gl g gm;refine{_,rfl,_,rfl,_,rfl,gp,t,ra,g,a.2,row,rfl,s7 _ _ hgp,by lia,G.nd g gm,bF.of (s7 _ _ (s3 _ _ ht)),F3,by lia,by lia,λz lN=>{(Wc z lN).1,(Wc z lN).2.1},λH8 s8 e=>?_,λpp g' H8 s8 ko hp8 e=>?_}
    ·refine{_,rfl,rfl,_,rfl,vy (VD _ _ {vs,_,_,rfl,s7.trans s8,λb u n h=>s8 _ _ (kp b u n h),s8 _ _ Wx,?_,by lia,hm})};rw[yb _ _ OB,e,Option.toList_none,b6];exact Bh Hk s8
    ·have hf8:=s8 _ _ Wx;refine{_,rfl,rfl,_,rfl,F2 {_,rfl,.inl {rfl,_,bp.of hf8},_,rfl,_,_,_,rfl,rfl,hf8,by rw[b8];lia,?_}};have ki:∀b u,b≠fl->H8 b=some u->upd H8 fl (.lst (vs++[V.ref pp])) b=some u:=λb u n h=>by rw[aE n];exact h
     refine VD _ _ {_,_,_,rfl,λb u h=>ki _ _ (bf h hfl) (s8 _ _ (s7 _ _ h)),λb u n h=>ki _ _ n (s8 _ _ (kp b u n h)),aw,?_,by rw[aO];show vs.length+1<=_;lia,hm};rw[yb _ _ OB,e,cL,<-cR];have up:∀{b:Addr}{g:iC},H8 b=some (.dK (gK g))->upd H8 fl (.lst (vs++[V.ref pp])) b=some (.dK (gK g)):=λh=>ki _ _ (λz=>by rw[z,hf8]at h;cases h) h;exact Paired.Ew (Paired.vo (Bh Hk s8) λ_ _ ⟨b,e,h⟩=>{b,e,up h}) {pp,rfl,up hp8}
   ·rintro Z H7 ⟨vs,y7,y8,rfl,s7,kp,Wx,Hk,lv7,_⟩;rw[lry,aV]at Hk;refine VE _ _ {vs,_,_,_,rfl,s7,Wx,?_,by rw[lry]at lv7;lia,hj};rw[bh,hg];unfold uA at Hk⊢;rw[cL,Aj,o6,List.flatMap_nil,b6];exact Hk
  ·rintro Z H4 ⟨us,y6,y7,y8,rfl,Vv,C7,Wb,lu4,_⟩;rw[lz,aV]at Wb;exact{_,rfl,EM _ _ {fl,us,_,_,_,_,_,_,rfl,s3.trans Vv,C7,Wb,bK}}
 ·rintro Z H3 ⟨wl,zs,x3,x4,x5,x6,x7,x8,rfl,s3,Q7,E9,_⟩;have G:=OO (K:=K) tab va.good ats.length (ar _);rw[la]at E9;rw[aV]at E9 G;have e5:5^ats.length<=625:=aD (gu (n:=5) (j:=4) (-8) va.l4) (-8);generalize qt fs ats=ws at G E9;have lw:=G.ln;have lz:zs.length=ws.length:=bw E9;refine{_,rfl,wl,rfl,{_,bp.of Q7},jg (K:=K) (a:=wl) (xs:=zs) (λj ys H4=>bq H3 H4/\j<=ws.length/\cT K H4 ys ((ws.take j).map λg=>hz.map (w5 g))) (bC ∅) {bq.refl _,aP _,.nil} ?_ ?_ ?_}
  ·rintro j ys H4 hj ⟨s4,_,wz⟩;have:=bw wz;rw[ak,aT]at this;exact{bp.of (s4 _ _ Q7),by lia}
  ·rintro j x ys H4 N hx ⟨s4,_,wz⟩ hN;obtain⟨g,hg,gp,rfl,hgp⟩:=Paired.at E9 hx;have rh:=s3.trans s4;refine gq {_,rfl,_,_,_,_,rfl,rfl,bF.of (rh _ _ hq),rfl,_,rfl,h0,gp,hz,g,rfl,rh _ _ hh0,s4 _ _ hgp,by have:=va.br.1;lia,λr H5 s5 Wj=>hN _ _ {s4.trans s5,(ax.mp hg).1,?_}};rw[bh,hg,cL,aJ];exact kR (cM wz s5) {r,rfl,bF.of Wj}
  rintro ys H4 ⟨s4,_,wz⟩ yl hyl;rw[lz,aV]at wz;have s5:=aM hyl (-39);have hy5:upd H4 yl (-39) yl=some (-39):=aw;have Wj:=cM wz s5;have xB:=s3.trans (s4.trans s5);generalize upd H4 yl (-39)=H5 at s5 hy5 Wj xB⊢;have lr:(ws.map λg=>hz.map (w5 g)).length=ws.length:=ak _;have mem:∀r,r∈(ws.map λg=>hz.map (w5 g))↔r∈gX fs hz ats:=λr=>by rw[yT (K:=K) tab va.br r,<-Gq G va.br r,aR];exact{λ⟨g,hg,e⟩=>{g,hg,e.symm},λ⟨g,hg,e⟩=>{g,hg,e.symm}}
  refine{yl,ys,_,rfl,bp.of hy5,Wj,by lia,λsa us Na nu mu lu E1=>?_};have m1:=aM Na (.ext (kB P w sa us));have Hm:upd H5 sa (.ext (kB P w sa us)) sa=some (.ext (kB P w sa us)):=aw;refine{sa,us,ys,rfl,Hm,λx hx=>{iq (E1 x hx).1 m1,(E1 x hx).2},λ_ x hx=>?_,by lia,λl zJ hl xZ _=>?_}
  ·intro q;have:=(Ea (K:=K) tab va x.1 ((mem x.1).mp ((mu x.1).mp (cy hx)))).1;rw[q]at this;cases this
  have ea:kg (us.map (·.1))=gX fs hz ats:=by have h1:=pN nu λr=>(mu r).trans (mem r);rw[h1];unfold gX;exact CD _
  rw[ea]at xZ
  replace hl:upd H5 sa (.ext (kB P w sa us)) l=none:=hl
  have m2:=aM hl (.lst zJ);exact k l zJ _ (xB.trans (m1.trans m2)) ((xB.trans m1).free hl) aw (cM xZ m2)
end
end kr
namespace L2
open PySem PySem.Spec PyProof.Rows
def W5(K:Frag)(H:Hp)(p q:Key×V):Prop:=p.1=q.1/\∃d,Dt K H d p.2/\Dt K H d q.2/\SeqAt.shaped d=true/\PyData.eqv d d=true
inductive ac9(K:Frag)(x:V)(y:V)(H:Hp)(Q:VK):Prop
 |mk a b ka kb (_:x=.ref a) (_:y=.ref b) (_:H a=some (.dK ka)) (_:H b=some (.dK kb)) (_:ka.length=kb.length) (_:(∀p∈ka,∃q∈kb,W5 K H p q)) (_:Q (.bl false) H)
section
variable{X:Cx}
theorem kv_mem{q:Key×V}:∀{kb:List (Key×V)}{vb:List (Key×Value)},KV kb vb->q∈kb->∃b∈vb,KV [q] [b]
 |_,_,.cons h t,hq=>by
  rcases aG.mp hq with rfl|hq
  ·exact{_,aA,.cons h .nil}
  ·obtain⟨b,hb,k⟩:=kv_mem t hq;exact{b,aB _ hb,k}
def acB{pins:Aac}{Z:St}{H:Hp}{s:Shared}(hu:X.A.units+96<cLine)(I:Inv X pins Z H s){kb:List (Key×V)}{vb:List (Key×Value)}(nd:(vb.map (·.1)).Nodup)(rb:KV kb vb):∀{ka:List (Key×V)}{va:List (Key×Value)},(∀p∈ka,∃q∈kb,W5 X.K H p q)->KV ka va->PySem.W.KeqHits X.A.in1 s vb va true:=by
 intro ka
 induction ka with
 |nil=>intro va _ r;cases r;exact .nil
 |cons p ka ih=>
  intro va h r;cases r with
  |@cons _ a _ as h1 t1=>
   obtain⟨q,hq,e,d,d1,d2,sh,ev⟩:=h p aA;obtain⟨b,hb,k⟩:=kv_mem rb hq;cases k with
   |cons h2 _=>
    obtain⟨k,v⟩:=a;obtain⟨k',v'⟩:=b;have ek:k=k':=h1.1.symm.trans (e.trans h2.1);subst ek;obtain⟨as1,ra⟩:=pO I d p.2 v d1 h1.2;obtain⟨bs1,rb'⟩:=pO I d q.2 v' d2 h2.2;have at':=PySem.W.keq_at (A:=X.A) ra rb' sh sh (show X.A.units+1+64<cLine by lia);rw[ev]at at';obtain⟨i,hi⟩:=dy.mp hb;exact .hit (e:=true) (b:=true) (valueAt_of_get nd hi) at' (ih (λx hx=>h x (aB _ hx)) t1)
def aal(hu:X.A.units+96<cLine):jh X (compareOp .NotEq) (ac9 X.K):=by
 intro pins s Z H x y v u Q I rx ry h;obtain⟨a,b,ka,kb,rfl,rfl,ha,hb,hl,hs,q⟩:=h;cases rx;cases ry;obtain⟨_,la,va,ra,da⟩:=oB I.br ha;obtain⟨_,lb,vb,rb,db⟩:=oB I.br hb;have le:va.length=vb.length:=by rw[<-ra.length,<-rb.length];exact hl
 refine PySem.W.keq_ne (r:=true) la lb da db ∅ (λ_=>acB hu I ?_ rb hs ra) ?_
 ·obtain⟨_,_,_,_,_,_,_,_,nd⟩:=db;exact nd
 ·rw[le];simp only[Gp,gP,iI];exact{.bl false,H,I,rfl,q}
end
end L2
namespace kr
open PySem PySem.Spec PyProof.Rows L2 zZ gw
seal L2.PE L2.PT L2.PW L2.PA L2.PS L2.mY L2.PI L2.PO L2.BF L2.PG L2.Aa
def YW{κ:Type}[DecidableEq κ]{l:List (κ×V)}{k:κ}(h:k∉l.map (·.1)):(l.any λkv=>decide (kv.1=k))=false:=by rw[fM];intro e;obtain⟨kv,h1,h2⟩:=j7.mp e;exact h (aR.mpr {kv,h1,bo h2})
def XQ{k:Key}{v:V}(h:k∉l.map (·.1)):putK l k v=l++[(k,v)]:=by unfold putK;rw[YW h];rfl
theorem JN:∀(kvs l:List (Key×V)),((l++kvs).map (·.1)).Nodup->iO l kvs=l++kvs
 |[],l,_=>by rw[b6];rfl
 |kv::r,l,h=>by
  have hn:kv.1∉l.map (·.1):=by rw[aJ,eB]at h;intro e;exact h.2.2 _ e _ (by rw[aU];exact aA) rfl
  show iO (putK l kv.1 kv.2) r=_;rw[XQ hn,JN r (l++[(kv.1,kv.2)]) (by rw[cR];exact h),cR];rfl
def Pz(x:Ext d H H1)(sm:bq H1 H2)(hu:H d=some u):bq H (upd H2 d u):=λb z h=>by
 by_cases e:b=d
 ·subst e;rw[aw,<-h,hu]
 ·rw[aE e];exact sm b z (x b z e h)
def TK{es:List En}(h:(es.map (·.nm)).Nodup):((es.map dt).map (·.1)).Nodup:=by rw[JL];exact GY.mpr h
def U2(es fL:List En):Prop:=Paired (λ(e e':En)=>e'.nm=e.nm/\e'.ys=e.ys/\e'.rows=e.rows) es fL
def same_none(s:bq H H')(h:H' a=none):H a=none:=by
 cases q:H a with
 |none=>rfl
 |some o=>
  rw[s _ _ q]at h;cases h
section
def sE(F:∀{α:Type},List α->List α)(es fL:List En):Prop:=Paired (λ(e e':En)=>e'.nm=e.nm/\e'.ys=F e.ys/\e'.rows=F e.rows) es fL
variable{K:Frag}{F:∀{α:Type},List α->List α}
def sE.gC{es fL:List En}(h:sE F es fL):fL.map (·.nm)=es.map (·.nm):=by
 unfold sE at h
 induction h with
 |nil=>rfl
 |cons q _ ih=>rw[aU,aU,ih,q.1]
theorem sE.cP{es fL:List En}(h:sE F es fL)(h0:F ([]:Aab)=[])(z:Str):cP fL z=F (cP es z):=by
 unfold sE at h
 induction h with
 |nil=>exact h0.symm
 |@cons a b as bs q _ ih=>
  unfold kr.cP at ih⊢;rw[eK,eK,q.1];cases decide (a.nm=z)with
  |true=>exact q.2.2
  |false=>exact ih
def TQ:∀{es fL:List En},sE F es fL->∀{i:Nat}{e':En},fL[i]?=some e'->∃e,es[i]?=some e/\e'.nm=e.nm/\e'.ys=F e.ys/\e'.rows=F e.rows:=by
 intro es fL h;unfold sE at h
 induction h with
 |nil=>intro i e' h;cases h
 |@cons a b as bs q _ ih=>
  intro i e' h;cases i with
  |zero=>cases h;exact⟨a,rfl,q⟩
  |succ i=>exact ih (i:=i) h
def YQ{te:TE}{Z:L2.St}{j:Nat}{H:Hp}{Q:VK}{fe d:Addr}{es:List En}(e:Z[j]?=some (some (.ref d)))(hT:BB fe H d es)(hfo:∃o,H fe=some o)
  (hF:∀x∈es,(F x.rows).length<=5) (sub:∀{α:Type}(l:List α)(x:α),x∈F l->x∈l) (hP:∀{α β:Type}{R:α->β->Prop}{l:List α}{m:List β},Paired R l m->Paired R (F l) (F m))
  (hte:∀(x:En)(H2:Hp)(N:VK),x∈es->kS H2 d (.str x.nm) (some (.ref x.ad))->H2 x.ad=some (.lst x.ys)->(∀l H3,bq H2 H3->H2 l=none->H3 l=some (.lst (F x.ys))->N (.ref l) H3)->te (some (.str x.nm)::slotsOf [j] Z) H2 N)
  (k:∀(p:Addr)(fL:List En)(H':Hp),bq H H'->H p=none->BB fe H' p fL->sE F es fL->Q (.ref p) H'):
  PB (ZL (Qc K) (si (uz (V4 (NI j)) [j] BW (Zz (si (NI 0) (si te FK)))) FK)) Z H Q:=by
 obtain⟨ofe,hfe⟩:=hfo;obtain⟨nd,hd,hn,hl,ho⟩:=id hT;have adl:∀(u:Obj)(v:HO),H d≠some (.de u v):=λu v=>by rw[hd];exactλz=>nomatch z
 refine{d,adl,_,e,d,es.map dt,rfl,hd,λo=>?_};have x1:Ext d H (upd H d (.de o (.dK (es.map dt)))):=λb z n h=>by rw[aE n];exact h
 have uf:upd H d (.de o (.dK (es.map dt))) d=some (.de o (.dK (es.map dt))):=aw;generalize (upd H d (.de o (.dK (es.map dt))))=H1 at x1 uf⊢;refine R1 (λi ys H2=>bq H1 H2/\∃fL:List En,sE F (es.take i) fL/\Paired (λ(y:V)(e:En)=>∃t,y=.ref t/\H2 t=some (.tup [.str e.nm,.ref e.ad])/\H1 t=none) ys fL/\∀e∈fL,H1 e.ad=none/\H2 e.ad=some (.lst e.ys)) (-28) {bq.refl H1,[],.nil,.nil,λe h=>by cases h} ?_ ?_ ?_
 ·rintro i ys H2 hi ⟨sm,fL,hk,hp,_⟩;refine{sm _ _ uf,?_};rw[hp.length,<-hk.length,aT];lia
 ·rintro i kv ys H2 N hc ⟨sm,fL,hk,hp,Bc⟩ hN;rw[aK]at hc;obtain⟨e,hce,rfl⟩:=aX.mp hc;have he:=aH hce;obtain⟨hz,na,ha,hR,hg,Rj⟩:=ho e he;have ned:e.ad≠d:=λq=>by rw[q,hd]at ha;cases ha
  have ha2:=sm _ _ (x1 _ _ ned ha);have g:kS H2 d (.str e.nm) (some (.ref e.ad)):=.inl {es.map dt,Sum.inr e.nm,.inr {o,sm _ _ uf},rfl,(BU hn he).symm};refine gq {_,rfl,hte e H2 _ he g ha2 λl H3 s3 hl mW=>{(-36),λt ht=>hN _ _ ?_}};have s4:=aM ht (.tup [.str e.nm,.ref l]);refine{(sm.trans s3).trans s4,fL++[{e.nm,l,F e.ys,F e.rows}],?_,?_,λe' h'=>?_}
  ·rw[bh,hce];exact kR hk ⟨rfl,rfl,rfl⟩
  ·exact kR (Paired.vo hp λy e' ⟨t',e1,h1,h2⟩=>{t',e1,(s3.trans s4) _ _ h1,h2}) {t,rfl,aw,same_none (sm.trans s3) ht}
  ·rcases bg.mp h' with h'|h'
   ·exact{(Bc e' h').1,(s3.trans s4) _ _ (Bc e' h').2}
   ·rw[ay.mp h'];exact{same_none sm hl,s4 _ _ mW}
 ·rintro ys H2 ⟨sm,fL,hk,hp,Bc⟩ l Ba;rw[ak,aV]at hk;have s3:bq H2 (upd H2 l (-39)):=aM Ba _;have mW:upd H2 l (-39) l=some (-39):=aw;generalize (upd H2 l (-39))=H3 at s3 mW⊢;have iw:Paired (λ(y:V)(kv:Key×V)=>∃t,y=.ref t/\H3 t=some (.tup [kV kv.1,kv.2])) ys (fL.map dt):=by
   have:∀{ys:Aao}{fL:List En},Paired (λ(y:V)(e:En)=>∃t,y=.ref t/\H2 t=some (.tup [.str e.nm,.ref e.ad])/\H1 t=none) ys fL->Paired (λ(y:V)(kv:Key×V)=>∃t,y=.ref t/\H3 t=some (.tup [kV kv.1,kv.2])) ys (fL.map dt):=λh=>by
    induction h with
    |nil=>exact .nil
    |cons q _ ih=>
     obtain⟨t,e1,h1,_⟩:=q;exact .cons {t,e1,s3 _ _ h1} ih
   exact this hp
  have MX:(fL.map (·.nm)).Nodup:=by rw[hk.gC];exact hn
  refine{l,ys,fL.map dt,rfl,bp.of mW,iw,λp Hg=>?_};rw[JN (fL.map dt) [] (by rw[kL];exact TK MX),kL];have s4:bq H3 (upd H3 p (.dK (fL.map dt))):=aM Hg _;have s14:=(sm.trans s3).trans s4;have Kq:=s14 _ _ uf;refine{o,_,Kq,?_};have sT:=Pz x1 s14 hd;have npd:p≠d:=λq=>by rw[q,s3 _ _ (sm _ _ uf)]at Hg;cases Hg
  have hpH:H p=none:=by
   cases q:H p with
   |none=>rfl
   |some z=>
    rw[s3 _ _ (sm _ _ (x1 _ _ npd q))]at Hg;cases Hg
  refine k p fL _ sT hpH {λq=>?_,?_,MX,by rw[<-hk.length];exact hl,λe' h'=>?_} hk
  ·rw[q,hfe]at hpH;cases hpH
  ·rw[aE npd,aw]
  ·obtain⟨i,hi⟩:=dy.mp h';obtain⟨e,he,q1,q2,q3⟩:=TQ hk hi;obtain⟨hz,na,ha,hR,hg,Rj⟩:=ho e (aH he);obtain⟨r1,r2⟩:=Bc e' h';have nad:e'.ad≠d:=λq=>by rw[q,uf]at r1;cases r1
   refine{by rw[q1];exact hz,λq=>?_,?_,?_,?_,?_}
   ·rw[q,x1 _ _ (cb nd) hfe]at r1;cases r1
   ·rw[aE nad];exact s4 _ _ (s3 _ _ r2)
   ·rw[q2,q3];exact hP (oq hR (Ext.of sT))
   ·rw[q3]
    exactλr hr=>hg r (sub _ _ hr)
   ·rw[q3];exact hF e (aH he)
def Yx(h:∀r∈rows,mK r):qW rows:=λr hr z hz=>sI ((h r hr).2.2 z hz)
def BB.r(h:BB f H d es):gY K H d es:={h.2.1,h.2.2.1,λe he=>by obtain⟨_,_,h3,h4,h5,h6⟩:=h.2.2.2.2 e he;exact{h3,DC h4,h6,h5}}
def XB:∀{es fL:List En},U2 es fL->(∀e∈fL,Ei f H e)->(∀e∈es,Ei f H e)->K2 K H (fL.map dt) (es.map dt):=by
 intro es fL h;unfold U2 at h
 induction h with
 |nil=>intro _ _;exact .nil
 |@cons a b as bs q _ ih=>
  intro h1 h2;obtain⟨_,_,hb,hRb,hg,_⟩:=h1 b aA;obtain⟨_,_,ha,hRa,_,_⟩:=h2 a aA;refine .cons {bU Sum.inr q.1,kh b.rows,yg (bp.of hb) (DC hRb),?_,CH (Yx hg),by rw[DU];exact aZ rfl} (ih (λe he=>h1 e (aB _ he)) (λe he=>h2 e (aB _ he)));rw[q.2.2];exact yg (bp.of ha) (DC hRa)
end
end kr
namespace L2
open PySem PySem.Spec PyProof.Rows
section
variable{X:Cx}
inductive Yw(P:Program)(w:World)(R:It->Hp->Prop)(x:V)(H1:Hp):Prop
 |mk d o u kvs (_:x=.ref d) (_:H1 d=some (.de o u)) (_:HV P w d u kvs) (_:R (HB d o u kvs) H1)
def aaU(P:Program)(w:World)(tl:TE):TI:=λZ H R=>tl Z H λx H1=>Yw P w R x H1
def Jj{tg l:Expr}{tl:TE}(hl:PE X l tl):PI X tg l (aaU X.prog X.w tl):=by
 intro pins s Z H R I h;refine df (hl pins s Z H _ I h) λv s1 x H1 I1 r1 q1=>?_;obtain⟨d,o,u,kvs,e,hd,hv,q⟩:=q1;subst e;cases r1;obtain⟨ho,hu⟩:=I1.br d _ hd;obtain⟨lo,o',es,ep,ga,m⟩:=Ng hu hv;obtain rfl:o=o':=bN (ho.symm.trans ga);refine BZ lo ga m.1 m.2.1 ?_;refine{s1.heap.objs.size,[s1.heap.objs.size],_,_,_,rfl,I1.kept (t':=s1.toks) λb o e=>aq _ e,Ie m,{_,aF _ rfl,rfl,rfl},λb hb=>?_,q};have e:b=s1.heap.objs.size:=by simpa using hb
 subst e;exact I1.qM (ar _) (I1.br.fresh (ar _))
end
end L2
namespace kr
open PySem PySem.Spec PyProof.Rows L2 zZ gw
seal L2.PE L2.PT L2.PW L2.PA L2.PS L2.mY L2.PI L2.PO L2.BF L2.PG L2.Aa
theorem Oe{α β:Type}(f:α->β):∀{l:List α},(l.map f).Nodup->∀{a b:α},a∈l->b∈l->f a=f b->a=b
 |[],_,_,_,h,_,_=>by cases h
 |x::r,nd,a,b,ha,hb,e=>by
  rw[aU,cX]at nd;rcases aG.mp ha with e1|h1
  ·rcases aG.mp hb with e2|h2
   ·rw[e1,e2]
   ·exact absurd (aR.mpr {b,h2,by rw[<-e,e1]}) nd.1
  ·rcases aG.mp hb with e2|h2
   ·exact absurd (aR.mpr {a,h1,by rw[e,e2]}) nd.1
   ·exact Oe f nd.2 h1 h2 e
def Iu{fs:List En}{j:Nat}{x:En}(q:En->Bool)(h:fs[j]?=some x):(fs.take (j+1)).filter q=(fs.take j).filter q++if q x=true then[x]else[]:=by rw[bh,h,ff];show _++List.filter q [x]=_;rw[gj];rfl
abbrev zo(K:Frag)(G:Addr->Prop)(H:Hp):Aao->List En->Prop:=Paired λy e=>∃a ys,y=.ref a/\G a/\H a=some (-39)/\cT K H ys e.rows
theorem B2{K:Frag}{G G':Addr->Prop}{H H':Hp}(g:∀a,G a->G' a)(k:∀a u,G a->H a=some u->H' a=some u)(t:dw H H'):∀{zs:Aao}{es:List En},zo K G H zs es->zo K G' H' zs es
 |_,_,.nil=>.nil
 |_,_,.cons ⟨a,ys,e,ga,h,r⟩ tl=>.cons {a,ys,e,g a ga,k _ _ ga h,iE r t} (B2 g k t tl)
def MD{K:Frag}{G:Addr->Prop}{H:Hp}{zs:Aao}{es:List En}{y:V}{e:En}(h:zo K G H zs es)(q:∃a ys,y=.ref a/\G a/\H a=some (-39)/\cT K H ys e.rows):zo K G H (zs++[y]) (es++[e]):=Paired.app h (.cons q .nil)
def oy(es:List En):PyData:=.list (es.map λe=>kh e.rows)
theorem F8{K:Frag}{G:Addr->Prop}{H:Hp}:∀{zs:Aao}{es:List En},zo K G H zs es->lZ K H (es.map λe=>kh e.rows) zs
 |_,_,.nil=>by rw[ji,lZ]
 |_,_,.cons ⟨a,ys,e,_,h,r⟩ t=>by rw[aU,lZ];exact{_,_,rfl,by rw[e];exact yg (bp.of h) r,F8 t}
theorem Kz:∀es:List En,PyData.eqvAll (es.map λe=>kh e.rows) (es.map λe=>kh e.rows)=true
 |[]=>by simp[PyData.eqvAll]
 |a::r=>by rw[aU,PyData.eqvAll,DU,Kz r,aZ rfl];rfl
theorem JX:∀es:List En,(∀e∈es,qW e.rows)->PyData.canLayAll0 (es.map λe=>kh e.rows)=true
 |[],_=>rfl
 |a::r,h=>by have h1:(kh a.rows).canLay0=true:=DK a.rows (h a aA);have h2:=JX r λe he=>h e (aB _ he);rw[aU,PyData.canLayAll0,h1,h2];rfl
theorem Fs:∀es:List En,PyData.depthAll (es.map λe=>kh e.rows)<=2
 |[]=>by simp[PyData.depthAll]
 |a::r=>by
  have h1:=za a.rows;have h2:=Fs r;have h3:(kh a.rows).depth<=2:=by unfold kh;rw[PyData.depth];lia
  rw[aU,PyData.depthAll];lia
def CI{es:List En}(h:∀e∈es,qW e.rows):SeqAt.shaped (oy es)=true:=by have h1:=JX es h;have h2:=Fs es;simp[SeqAt.shaped,oy,PyData.canLay0,PyData.depth,h1];lia
section
variable{P:Program}{w:World}{K:Frag}{mg:Aad}{base:Heap}
def FE.same{H H':Hp}{a:Addr}{xs:Aao}(h:FE K H a xs)(s:bq H H'):FE K H' a xs:=by
 rcases h with⟨ob,h⟩|h
 ·exact .inl {ob,s _ _ h}
 ·exact .inr h
def YX{H:Hp}{tb:Addr}{fs:List En}(tab:gY K H tb fs){hz:Aah}{ats:Aaa}(x:VA hz ats):(gX fs hz ats).length<=625:=by
 have G:=OO (K:=K) tab x.good ats.length (ar _);rw[aV]at G;have h:=mT (l:=gX fs hz ats) (m:=(qt fs ats).map λg=>hz.map (w5 g)) (wQ _) λr hr=>by obtain⟨g,hg,e⟩:=(Gq G x.br r).mpr ((yT (K:=K) tab x.br r).mp hr);exact aR.mpr {g,hg,e.symm}
 rw[ak]at h;exact aD h (aD G.ln (aD (gu (n:=5) (j:=4) (-8) x.l4) (-8)))
def abP{H:Hp}{tb:Addr}{fs:List En}(tab:gY K H tb fs){xs:List View}(hx:∀x∈xs,VA x.2.1 x.2.2)(z:Str):qW (oI fs xs z)/\(oI fs xs z).length<=625:=by
 unfold oI;split
 ·next x e=>
  have va:=hx x (jM e);exact{λr hr y hy=>sI ((Ea (K:=K) tab va r hr).2.2 y hy),YX (K:=K) tab va}
 ·exact{λr hr=>(by cases hr),aP _}
def FI{fs fs':List En}(h:cP fs'=cP fs)(xs:List View):oI fs' xs=oI fs xs:=by funext z;unfold oI gX;rw[h]
def TL(K:Frag)(H:Hp)(es:List En):Prop:=∀e∈es,H e.ad=some (.lst e.ys)/\cT K H e.ys e.rows/\tm H e.ys/\qW e.rows/\e.rows.length<=900
def Sr{H:Hp}{vs:Aao}{xs:List View}(h:Dh H vs xs):∀x∈xs,VA x.2.1 x.2.2:=by
 induction h with
 |nil=>intro x h;cases h
 |cons q _ ih=>
  intro x hx;rcases aG.mp hx with rfl|hx
  ·obtain⟨_,_,_,_,h,_⟩:=q;exact h.va
  ·exact ih x hx
def acO{es gs:List En}(h:es.map (λe=>(e.nm,e.ad))=gs.map λe=>(e.nm,e.ad)):es.map dt=gs.map dt/\es.map (·.nm)=gs.map (·.nm)/\es.map (·.ad)=gs.map (·.ad):=by
 refine{?_,?_,?_}
 ·have:=bU (List.map λp:Str×Addr=>((Sum.inr p.1:Key),V.ref p.2)) h;rw[bW,bW]at this;exact this
 ·have:=bU (List.map λp:Str×Addr=>p.1) h;rw[bW,bW]at this;exact this
 ·have:=bU (List.map λp:Str×Addr=>p.2) h;rw[bW,bW]at this;exact this
def not_false(n:Nat):G5 (.bl false) (List.replicate n (V.bl true))=false:=by
 induction n with
 |zero=>rfl
 |succ n ih=>
  rw[Ah];unfold G5 at ih⊢;rw[mF,ih];rfl
def RH(n:Nat):(List.replicate n (V.bl true)).all qN=true:=by
 induction n with
 |zero=>rfl
 |succ n ih=>rw[Ah,Ab,ih];rfl
inductive HP(K:Frag)(vs:Aao)(H:Hp)(Q:VK)(_x3:XK):Prop
 |mk (a:Addr) (ns:List Int) (_:vs=[.ref a]) (_:FE K H a (ns.map V.int)) (_:ns.length<=63) (_:∀H',Q (.bl true) H')
structure Dq(P:Program)(w:World)(K:Frag)(mg:Aad)(base:Heap):Prop where
 QO:dP P w K mg base 1 "_law_feed" ["_law_script","_law_k"] (PM K)
 fB:dP P w K mg base 1 "_law_draw" ["_law_feed_here","_law_many"] (Es K)
 uQ:dP P w K mg base 2 "_law_words" ["_law_feed_here","_law_many"] (BX K)
 Yr:dP P w K mg base 5 "_law_views" ["_law_feed_here","_law_names","_law_many"] (IA K)
 TZ:dP P w K mg base 2 "_law_tables" ["_law_feed_here","_law_names"] (IB K)
 HL:dP P w K mg base 2 "_law_all_answers" ["_law_question_here","_law_tables_here"] (PQ K)
 seen:dP P w K mg base 9 "seen" ["views","tables"] (PL K)
def jS:cD ["_law_script","_law_feed_here","_law_names","_law_views_here","_law_j","_law_tables_here","_law_handed","_law_due","_law_name","_law_made","_law_rows","_law_turn","_law_told","_law_kept"] ["_law_script"] (defScope NS):=jD (-3)
def aat(F:fu K "law" "law" NS f fd)(T:Txt K mg)(D:Dq P w K mg base):dk P w K mg base fU 10 f fd ["_law_script"] (HP K):=by
 refine F.ok jS (λ_ _ _ _ h=>by cases h;subst_vars;rfl) (-4);obtain⟨a,ns,rfl,hS,hn,k⟩:=h;have hu:=kj hr;refine{_,(aN (fK 1 jS (cl D.QO hr (dR (pv 0) bj))) (aN (fK 2 jS (cl D.uQ hr (dR (pv 1) bj))) (aN (fK 3 jS (cl D.Yr hr (sN (pv 1) (pv 2) (cl D.fB hr (dR (pv 1) bj))))) (aN (fR bS rfl (jO rfl T.mJ (cz bj)) (iu 4 jS) (aN (jT (i:=5) jS.nd rfl (Or.inr rfl) (cl D.TZ hr (dR (cl D.QO hr (dR (pv 0) (dM jE bj (pv 4)))) (pv 2)))) (aN (fK 6 jS (Jn (dF (Fz hr.hd) rfl T.AX (-3) (cz (hE rfl (cU (fs:=["_law_tables_here"]) (fr:=[5])) (XX (pv 5)) (λ_ _ _ _=>(iZ (dR (pv 0) (dF (zY (K:=K)) rfl T.vj (-3) (cz (pZ hu (pv 1) (pv 0) (-15)))))))))))) (aN (fK 7 jS jy) (aN (fR bS rfl (fX (pv 3)) (iY rfl (cA (ot (i:=8) jS.nd rfl (Or.inr rfl)) (cA (iu 9 jS) g9))) (aN (fK 10 jS (cl D.HL hr (dR (pv 9) (pv 5)))) (ba (gJ (dh (Qm hr.Ic) (pv 10) (fb gN) (eX _)) (ba (pY hu (pv 7) (pv 8) (pv 10) rfl)) eG)))) (ba (fR bS rfl (jO rfl T.mJ (cz bj)) (iu 11 jS) (aN (jT (i:=12) jS.nd rfl (Or.inr rfl) (cl D.seen hr (dR (dF vH rfl T.vj (-3) (cz (pv 3))) (pv 6)))) (aN (gJ (PW.pt (EE (Ja (AJ (cW pk rfl T.nB (-3) (dR (pv 12) (EH (n:="dict") rfl T.AX (-3)))))) (EE (dh (aal (Zl hr)) (pv 12) (pv 7) (eX _)) (ED (dh (aam (Zl hr)) (pv 6) (pv 5) (eX _)))))) (ba (cN yO)) eG) (aN (Jc (fR bS rfl (Tg (pv 12)) (ot (i:=8) jS.nd rfl (Or.inr rfl)) (aN (gJ (PW.pt (EE (Ja (AJ (cW pk rfl T.nB (-3) (dR (pZ hu (pv 12) (pv 8) (-15)) (EH (n:="list") rfl T.vj (-3)))))) (ED (dh Qo yO (hE rfl (cU (fs:=[]) (fr:=[])) (fX (pZ hu (pv 12) (pv 8) (-15))) (λ_ _ _ _=>(cW (KU (K:=K)) rfl T.nB (-3) (dR (pv 0) (EH (n:="tuple") rfl T.kE (-3)))))) (-59))))) (ba (cN yO)) eG) (aN (Jd (j:=13) jS.nd rfl rfl rfl (cU (fs:=["_law_told","_law_name"]) (fr:=[12,8])) (Jj (pv 12)) (λ_ _ _ _=>(dh B1 (pv 0) (pv 2) (eX _))) (λ_ _ _ _=>(dF (zY (K:=K)) rfl T.vj (-3) (cz (pZ hu (pv 1) (pv 0) (-15)))))) (aN (lC (ox dc gc f9 qe (pZ hu (pv 12) (pv 8) (-15)) (cz (iZ gN)))) (ba (gJ (dh (aan hr.units) (pv 13) (qb rfl (cU (fs:=["_law_told","_law_name"]) (fr:=[12,8])) (Jj (pv 12)) (λ_ _ _ _=>(dh B1 (pv 0) (pv 2) (eX _))) (λ_ _ _ _=>(pZ hu (pv 1) (pv 0) (-15)))) (eX _)) (ba (cN yO)) eG))))))) (ba (pY hu (pv 12) f7 (fb gN) rfl)))))))))))) (ba (cN (FU (aaq (Zl hr)) (cl D.seen hr (dR (fb gN) jy)) jy (eX _)))))))),?_}
 refine{_,rfl,a,ns,0,rfl,hS,hn,Int.le_refl _,λfe H1 oM s1 hfe=>?_};refine{_,rfl,fe,3,rfl,oM,by decide,by decide,λnl gC H2 jV jW qD Qx vA ln nn E5=>?_};refine{_,rfl,_,rfl,_,rfl,fe,7,rfl,jV,by decide,by decide,λmany Hd m0 m1 hFd WR=>?_};refine{fe,nl,many,gC,rfl,hFd,qD,{WR _ _ qD vA,by lia,by lia},E5,m0,by lia,λvl zF xs H3 jP iy sO vl0 ph xX lxs VC=>?_};have abc:=iy _ _ qD (WR _ _ qD vA);have hS3:FE K H3 a (-68):=by
  obtain⟨_,_,_,hf⟩:=oM;rcases hS.same s1 with⟨ob,h1⟩|h1
  ·have ne:=yR h1 hf λz=>by cases z
   exact .inl {ob,iy _ _ ne (WR _ _ ne (jW _ _ ne h1))}
  ·exact .inr h1
 have vas:=Sr xX;clear vA WR iy jW s1 hS oM jV hFd Qx vl0;refine{3,rfl,by decide,by decide,Ff (lo:=0) (n:=3) (λi Z Hx=>∃(x4 x5 x6 x7 x8 x9 zE An Am uV:Aap),Z=[some (-51),some (.ref fe),some (.ref nl),some (.ref vl),x4,x5,x6,x7,x8,x9,zE,An,Am,uV]/\bq H3 Hx) {_,_,_,_,_,_,_,_,_,_,rfl,bq.refl _} ?_ ?_}
 ·rintro i Z H4 D1 hi ⟨x4,x5,x6,x7,x8,x9,zE,An,Am,uV,rfl,s4⟩ EM _;refine{_,rfl,_,rfl,_,_,rfl,rfl,a,ns,_,rfl,hS3.same s4,hn,by lia,λf2 H5 vE s5 Ur=>?_};have abb:=s5 _ _ (s4 _ _ abc);refine{_,rfl,f2,nl,gC,rfl,vE,bf (s4 _ _ abc) Ur,abb,by lia,E5,λd kvs H6 ug mC hT0 gE=>?_};obtain⟨es,rfl,hT⟩:=hT0.tabs;have s6:bq H3 H6:=λb u h=>mC _ _ (bf (s4 _ _ h) Ur) (s5 _ _ (s4 _ _ h));have hf6:∃o,H6 f2=some o:=by obtain⟨_,_,_,hf⟩:=ug;exact⟨_,hf⟩
  clear hT0 vE ug mC s5 Ur abb s4 gE;refine YQ (F:=λl=>l) (j:=5) (d:=d) rfl hT hf6 (λx hx=>(hT.2.2.2.2 x hx).2.2.2.2.2) (λ_ _ h=>h) (λh=>h) (λx H2 N' hx g ha k'=>{_,rfl,_,rfl,d,_,rfl,g,x.ad,x.ys,rfl,.inl (bp.of ha),λl hl=>k' l _ (aM hl _) hl aw}) λp fL H7 s7 ko hT7 hk=>?_;have er:cP fL=cP es:=funext (hk.cP rfl);have hT6:=hT.keep (Ext.of s7);have P1:=s6.trans s7;have tab:gY K H7 d es:=hT6.r;have acV:gY K H7 p fL:=hT7.r;intro du hdu;have s8:=aM hdu (.dK []);refine{_,rfl,vl,rfl,{zF,bp.of (s8 _ _ (P1 _ _ ph))},Bi (K:=K) (a:=vl) (xs:=zF) (λj Z H8=>∃(x8 x9 zE An Am uV:Aap)(ds:List En),Z=[some (-51),some (.ref fe),some (.ref nl),some (.ref vl),some (.int (0+(i:Int))),some (.ref d),some (.ref p),some (.ref du),x8,x9,zE,An,Am,uV]/\bq H7 H8/\H8 du=some (.dK (ds.map dt))/\ds.map (·.nm)=((xs.take j).map (·.1)).filter (λz=>!(oI es xs z).isEmpty)/\(∀e∈ds,H8 e.ad=some (.lst e.ys)/\cT K H8 e.ys e.rows/\e.rows=oI es xs e.nm)/\j<=xs.length) {_,_,_,_,_,_,[],rfl,s8,aw,rfl,λe h=>(by cases h),aP _} (λj Z H8 _ ⟨_,_,_,_,_,_,_,_,sm,_⟩=>bp.of (sm _ _ (P1 _ _ ph))) ?_ ?_}
  ·rintro j x Z H8 D2 hx ⟨x8,x9,zE,An,Am,uV,ds,rfl,AE,hd8,JM,WV,_⟩ VE _;obtain⟨y,hy,yp,q,rfl,hyp,hq,hyn⟩:=Paired.at xX hx;have bK:j<xs.length:=(ax.mp hy).1;have va:=hq.va;have s38:=P1.trans AE;have eR:oI es xs y.1=gX es y.2.1 y.2.2:=Pr VC (aH hy);refine{yp,_,rfl,bF.of (s38 _ _ hyp),rfl,_,_,rfl,_,_,rfl,rfl,?_};refine{_,rfl,_,rfl,q,d,es,y.2.1,y.2.2,rfl,hq.q.at'.keep (eE.of s38),va,tab.same AE,λl zs H9 s9 mB Ba hR=>?_};refine{_,rfl,(-18),λe0 wF=>{l,e0,zs,rfl,rfl,bp.of (by rw[aE (bf Ba wF)];exact Ba),bp.of aw,_,rfl,?_}};have mw:=s9.trans (aM wF (.lst []));have yW:=aM wF (.lst []) _ _ Ba;have abo:=cM hR (aM wF (.lst []));generalize upd H9 e0 (.lst [])=Ha at mw yW abo⊢;have OK:=mw _ _ hd8;have lz:zs.length=(gX es y.2.1 y.2.2).length:=bw hR;have ez:zs.isEmpty=(oI es xs y.1).isEmpty:=by rw[eR];generalize gX es y.2.1 y.2.2=rr at lz;cases zs<;>cases rr<;>first|rfl|cases lz
   have ft:((xs.take (j+1)).map (·.1)).filter (λz=>!(oI es xs z).isEmpty)=((xs.take j).map (·.1)).filter (λz=>!(oI es xs z).isEmpty)++if(!(oI es xs y.1).isEmpty)=true then[y.1]else[]:=by rw[bh,hy,cL,aJ,ff];show _++List.filter _ [y.1]=_;rw[gj];rfl
   show if(!zs.isEmpty)=true then _ else _;rw[ez];refine fo (-62) (-62)
   ·rw[aC c]at ft;have nm:({y.1,l,zs,gX es y.2.1 y.2.2}:En).nm∉ds.map (·.nm):=λq=>by rw[JM]at q;exact MA VC hy (bV.mp q).1
    have lds:ds.length<=xs.length:=by have h1:=bU List.length JM;have h2:=cj (λz=>!(oI es xs z).isEmpty) ((xs.take j).map (·.1));rw[ak]at h1;rw[ak,aT]at h2;lia
    refine{_,rfl,_,rfl,_,rfl,du,_,rfl,vT.k (k:=Sum.inr y.1) OK (-28),?_};rw[IZ (e:={y.1,l,zs,gX es y.2.1 y.2.2}) nm];have PF:dw Ha (upd Ha du (.dK ((ds++[({y.1,l,zs,gX es y.2.1 y.2.2}:En)]).map dt))):=dw.upd (rO OK);have ki:∀{b:Addr}{ys:Aao},Ha b=some (-39)->upd Ha du (.dK ((ds++[({y.1,l,zs,gX es y.2.1 y.2.2}:En)]).map dt)) b=some (-39):=λh=>by rw[aE (λz=>by rw[z,OK]at h;cases h)];exact h
    refine VE _ _ {_,_,_,_,_,_,ds++[{y.1,l,zs,gX es y.2.1 y.2.2}],rfl,λb u h=>?_,aw,?_,λe he=>?_,bK}
    ·rw[aE (bf h hdu)];exact mw _ _ (AE _ _ h)
    ·rw[ft,aJ,JM];rfl
    ·rcases bg.mp he with he|he
     ·obtain⟨h1,h2,h3⟩:=WV e he;exact{ki (mw _ _ h1),iE (cM h2 mw) PF,h3}
     ·rw[ay.mp he];exact{ki yW,iE abo PF,eR.symm}
   ·rw[az c,b6]at ft;exact VE _ _ {_,_,_,_,_,_,ds,rfl,AE.trans mw,OK,by rw[ft];exact JM,λe he=>let⟨h1,h2,h3⟩:=WV e he;{mw _ _ h1,cM h2 mw,h3},bK}
  ·rintro Z H8 ⟨x8,x9,zE,An,Am,uV,ds,rfl,AE,hd8,JM,WV,_⟩;rw[show zF.length=xs.length from bw xX,aV]at JM;have Rv:=AE _ _ tab.at_;have l6:xs.length<=6:=by lia
   have ndn:(iV (xs.map (·.1))).Nodup:=(lT _).nodup_iff.mpr VC;refine{2,rfl,by decide,by decide,Ff (lo:=0) (n:=2) (λj Z H9=>∃(x8 x9 zE An Am uV:Aap),Z=[some (-51),some (.ref fe),some (.ref nl),some (.ref vl),some (.int (0+(i:Int))),some (.ref d),some (.ref p),some (.ref du),x8,x9,zE,An,Am,uV]/\bq H8 H9) {_,_,_,_,_,_,rfl,bq.refl _} ?_ ?_}
   ·rintro j Z H9 D3 hj ⟨x8,x9,zE,An,Am,uV,rfl,IP⟩ VD _;have s39:=P1.trans (AE.trans IP);have s79:=AE.trans IP;refine{_,rfl,vl,zF,rfl,.inl (bp.of (s39 _ _ ph)),λl2 jF=>?_};have sa:=aM jF (.lst zF);refine{_,rfl,l2,p,zF,xs,fL,rfl,aw,Dh.keep (eE.of (s39.trans sa)) xX,VC,by lia,acV.same (s79.trans sa),λtp gs Ha s9a adC=>?_};obtain⟨f1,f2,f3,f4,f5⟩:=adC;have Me:=IP.trans (sa.trans s9a);have t0:H8 tp=none:=(IP.trans sa).free f2;rw[FI er xs]at f3;have gnd:(gs.map (·.nm)).Nodup:=by rw[f3];exact ndn.sublist mO
    have vok:=abP (K:=K) tab vas;have fr:∀e∈gs,H8 e.ad=none:=λe he=>(IP.trans sa).free (f5 e he).1;have tl:TL K Ha gs:=λe he=>by obtain⟨_,_,h3,h4,h5,h6⟩:=f5 e he;rw[FI er xs]at h5;have:=vok e.nm;rw[<-h5]at this;exact{h3,h4,h6,this.1,aD this.2 (-8)}
    have nea:∀e∈gs,e.ad≠tp:=λe he=>(f5 e he).2.1;refine{_,rfl,_,_,_,_,rfl,.dK f1,(by rfl:_=some true),_,rfl,vy ?_};have pm:(gs.map (·.nm)).Perm (ds.map (·.nm)):=by rw[f3,JM];exact(lT _).filter _
    refine{_,rfl,_,rfl,tp,du,gs.map dt,ds.map dt,rfl,rfl,f1,Me _ _ hd8,by
     have:=pm.length_eq;rw[ak,ak]at this;rw[ak,ak,this],λq hq=>?_,_,rfl,vy ?_}
    ·obtain⟨e,he,rfl⟩:=aR.mp hq;obtain⟨x,hx,ex⟩:=aR.mp (pm.mem_iff.mp (cy he));obtain⟨_,_,h3,h4,h5,_⟩:=f5 e he;obtain⟨q1,q2,q3⟩:=WV x hx;rw[FI er xs]at h5;have ee:x.rows=e.rows:=by rw[q3,h5,ex]
     refine{dt x,cy hx,bU Sum.inr ex.symm,kh e.rows,yg (bp.of h3) h4,?_,CH (by rw[h5];exact(vok e.nm).1),by rw[DU];exact aZ rfl};rw[<-ee];exact yg (bp.of (Me _ _ q1)) (cM q2 Me)
    have hA:=(hT7.keep (Ext.of AE)).keep (Ext.of Me);have hB:=(hT6.keep (Ext.of AE)).keep (Ext.of Me);refine{_,rfl,_,rfl,p,d,fL.map dt,es.map dt,rfl,rfl,hA.2.1,hB.2.1,XB (show U2 es fL from hk) hA.2.2.2.2 hB.2.2.2.2,_,rfl,vy ?_};have Qy:∀o v,Ha tp≠some (.de o v):=λo v e=>by rw[f1]at e;cases e
    refine{tp,Qy,_,rfl,tp,_,_,rfl,f1,.inl ⟨_,rfl,rfl⟩,λo=>?_};have wA:upd Ha tp (.de o (-70)) tp=some (.de o (-70)):=aw;have t1:dw Ha (upd Ha tp (.de o (-70))):=dw.upd (rO f1);have b1:∀b u,b≠tp->Ha b=some u->upd Ha tp (.de o (-70)) b=some u:=λb u n h=>by rw[aE n];exact h
    have tl1:TL K (upd Ha tp (.de o (-70))) gs:=λe he=>by obtain⟨h1,h2,h3,h4⟩:=tl e he;exact{b1 _ _ (nea e he) h1,iE h2 t1,h3.keep λb ys q=>b1 _ _ (λz=>by rw[z,f1]at q;cases q) q,h4}
    have s1:bq H8 (upd Ha tp (.de o (-70))):=λb u h=>b1 _ _ (bf h t0) (Me _ _ h);generalize (upd Ha tp (.de o (-70)))=Hb at wA t1 b1 tl1 s1⊢;clear tl b1 t1 f5 pm;have lgs:gs.length<=6:=by have h1:=bU List.length f3;have h2:=cj (λz=>!(oI es xs z).isEmpty) (iV (xs.map (·.1)));rw[ak]at h1;rw[(lT _).length_eq,ak]at h2;lia
    have lk:((gs.map dt).map λp=>(kV p.1,p.2)).length=gs.length:=by rw[ak,ak]
    refine OT (d:=tp) (o:=o) (u:=.dK (gs.map dt)) (λm Z H2=>∃(x8 uV:Aap)(ts:List En),Z=[some (-51),some (.ref fe),some (.ref nl),some (.ref vl),some (.int (0+(i:Int))),some (.ref d),some (.ref p),some (.ref du),x8,x9,zE,some (.int (0+(j:Int))),some (.ref tp),uV]/\bq H8 H2/\H2 tp=some (.de o (-70))/\ts.map (λe=>(e.nm,e.ad))=gs.map (λe=>(e.nm,e.ad))/\(∀e∈ts,H2 e.ad=some (.lst e.ys)/\cT K H2 e.ys e.rows/\tm H2 e.ys/\qW e.rows/\e.rows.length<=900+m)) ⟨_,_,gs,rfl,s1,wA,rfl,tl1⟩ (λm Z H2 _ ⟨_,_,_,_,_,h,_⟩=>h) ?_ ?_
    ·rintro m kv Z H2 D4 jd ⟨x8,uV,ts,rfl,s2,iU,WT,Il⟩ nx4 _;obtain⟨ek,en,ea⟩:=acO WT;have tnd:(ts.map (·.nm)).Nodup:=by rw[en];exact gnd
     have and:(ts.map (·.ad)).Nodup:=by rw[ea];exact f4
     rw[<-ek]at jd iU nx4;have CP:ts.length<=6:=by have:=bU List.length WT;rw[ak,ak]at this;lia
     rw[bW,aK]at jd;obtain⟨e,wF,ekv⟩:=aX.mp jd;have ekv:kv=(.str e.nm,.ref e.ad):=ekv.symm;subst ekv;have he:=aH wF;have hm:m<ts.length:=(ax.mp wF).1;obtain⟨ae,re,te,oe,le⟩:=Il e he;have ntp:∀x∈ts,x.ad≠tp:=λx hx z=>by have:=(Il x hx).1;rw[z,iU]at this;cases this
     have dg:∀{H:Hp}{x:En},H tp=some (.de o (.dK (ts.map dt)))->x∈ts->kS H tp (.str x.nm) (some (.ref x.ad)):=λh hx=>.inl {ts.map dt,Sum.inr _,.inr ⟨o,h⟩,rfl,(BU tnd hx).symm};have lye:e.ys.length=e.rows.length:=bw re;refine{_,rfl,_,rfl,tp,.ref e.ad,rfl,dg iU he,_,_,_,_,rfl,.lst ae,(by rfl:_=some true),_,rfl,vy ?_};refine{_,rfl,_,rfl,tp,.ref e.ad,rfl,dg iU he,e.ad,rfl,{_,bp.of ae},jg (K:=K) (a:=e.ad) (xs:=e.ys) (λj zs H3=>H3=H2/\zs=List.replicate j (V.bl true)) (by rw[b8];lia) ⟨rfl,rfl⟩ ?_ ?_ ?_}
     ·rintro j zs H3 hj ⟨rfl,rfl⟩;exact{bp.of ae,by rw[hW];exact ar _}
     ·rintro j x zs H3 N hx ⟨rfl,rfl⟩ hN;obtain⟨ta,txs,rfl,vz⟩:=te x (aH hx);refine gq {_,rfl,_,_,_,_,rfl,.tup vz,(by rfl:_=some true),hN _ _ {rfl,?_}};rw[List.replicate_succ']
     rintro zs H3 ⟨rfl,rfl⟩ bl hbl;have sb:=aM hbl (.lst (List.replicate e.ys.length (V.bl true)));refine{bl,_,rfl,.inl (bp.of aw),rfl,RH _,?_};rw[not_false];refine{_,rfl,vy ?_};generalize upd H3 bl (.lst (List.replicate e.ys.length (V.bl true)))=H3' at sb⊢;have iw:=sb _ _ iU;have Py:∀x∈ts,H3' x.ad=some (.lst x.ys)/\cT K H3' x.ys x.rows:=λx hx=>{sb _ _ (Il x hx).1,cM (Il x hx).2.1 sb};have te3:=te.keep (eE.of sb);have s3:=s2.trans sb;have VX:((ts.map dt).map λp=>(kV p.1,p.2)).length=ts.length:=by rw[ak,ak]
     have ed:∀x:En,(!decide (V.str x.nm=V.str e.nm))=!decide (x.nm=e.nm):=λx=>by congr 1;exact decide_eq_decide.mpr {λq=>by injection q,λq=>by rw[q]}
     generalize H3'=H3 at sb iw Py te3 s3⊢;refine{_,rfl,tp,o,.dK (ts.map dt),_,rfl,iw,.inl ⟨_,rfl,rfl⟩,zd (d:=tp) (o:=o) (u:=.dK (ts.map dt)) (λj zs H4=>bq H3 H4/\j<=ts.length/\zs.length<=j/\zo K (λa=>H3 a=none) H4 zs ((ts.take j).filter λx=>!decide (x.nm=e.nm))) (by rw[VX];exact bC ∅) {bq.refl _,aP _,ar _,.nil} ?_ ?_ ?_}
     ·rintro j zs H4 hj ⟨s4,_,lz,_⟩;exact{s4 _ _ iw,lz}
     ·rintro j kv zs H4 N Kl ⟨s4,hj,lz,ls⟩ hN;rw[bW,aK]at Kl;obtain⟨e',DP,DV⟩:=aX.mp Kl;have DV:kv=(.str e'.nm,.ref e'.ad):=DV.symm;subst DV;have Bc:=aH DP;have bK:j<ts.length:=(ax.mp DP).1;obtain⟨a2,r2⟩:=Py e' Bc;refine{_,rfl,_,rfl,rfl,_,rfl,?_};have tf:=Iu (λx=>!decide (x.nm=e.nm)) DP;show if(!decide (V.str e'.nm=V.str e.nm))=true then _ else _;rw[ed e'];refine fo (-62) (-62)
      ·rw[aC c]at tf;refine{_,rfl,_,rfl,tp,.ref e'.ad,rfl,dg (s4 _ _ iw) Bc,e'.ad,_,rfl,.inl (bp.of (s4 _ _ a2)),λl hl=>hN _ _ {s4.trans (aM hl _),bK,?_,?_}}
       ·rw[aO];exact lW lz
       ·rw[tf];refine MD (B2 (λ_ g=>g) (λa u _ h=>aM hl _ _ _ h) (dw.same (aM hl _)) ls) {l,_,rfl,s4.free hl,aw,cM r2 (s4.trans (aM hl _))}
      ·rw[az c,b6]at tf;exact hN _ _ {s4,bK,by lia,by rw[tf];exact ls}
     rintro zs H4 ⟨s4,_,lz,ls⟩ kl MZ;rw[VX]at lz ls;rw[aV]at ls;have s5:bq H4 (upd H4 kl (.lst zs)):=aM MZ _;have h5:upd H4 kl (.lst zs) kl=some (.lst zs):=aw;generalize (upd H4 kl (.lst zs))=H5 at s5 h5⊢;have GL:=s4.trans s5;have ls5:zo K (λa=>H3 a=none) H5 zs (-25):=B2 (λ_ g=>g) (λa u _ h=>s5 _ _ h) (dw.same s5) ls;have nkl:H3 kl=none:=s4.free MZ;have ae3:=(Py e he).1;have ae5:=GL _ _ ae3;refine{_,rfl,_,rfl,tp,.ref e.ad,rfl,dg (GL _ _ iw) he,.inl {rfl,_,bp.of ae5},(-18),λpt hpt=>?_};have s6:=aM hpt (.tup []);have Ug:upd H5 pt (.tup []) pt=some (.tup []):=aw;generalize upd H5 pt (.tup [])=H6 at s6 Ug⊢;have GK:=GL.trans s6;have ae6:=GK _ _ ae3;refine{_,_,_,rfl,rfl,ae6,by rw[b8];lia,?_};have b7:∀b u,b≠e.ad->H6 b=some u->upd H6 e.ad (.lst (e.ys++[V.ref pt])) b=some u:=λb u n h=>by rw[aE n];exact h
     have t7:dw H6 (upd H6 e.ad (.lst (e.ys++[V.ref pt]))):=dw.upd (ny ae6);have h7:upd H6 e.ad (.lst (e.ys++[V.ref pt])) e.ad=some (.lst (e.ys++[V.ref pt])):=aw;generalize (upd H6 e.ad (.lst (e.ys++[V.ref pt])))=H7 at b7 t7 h7⊢;have u7:eE H6 H7:=λb ys q=>b7 _ _ (yR q ae6 λz=>by cases z) q;have nfr:∀a,H3 a=none->a≠e.ad:=λa h q=>by rw[q,ae3]at h;cases h
     have MV:=b7 _ _ (ntp e he).symm (GK _ _ iw);have ls7:zo K (λa=>H3 a=none) H7 zs (-25):=B2 (λ_ g=>g) (λa u g h=>b7 _ _ (nfr a g) (s6 _ _ h)) ((dw.same s6).trans t7) ls5;have Wq:=b7 _ _ (nfr kl nkl) (s6 _ _ h5);have ot7:∀x∈ts,x.nm≠e.nm->H7 x.ad=some (.lst x.ys)/\cT K H7 x.ys x.rows:=λx hx n=>by obtain⟨q1,q2⟩:=Py x hx;have nx:x.ad≠e.ad:=λq=>n (by rw[Oe (·.ad) and hx he q]);exact{b7 _ _ nx (GK _ _ q1),iE (cM q2 GK) t7}
     refine{_,rfl,_,rfl,tp,o,.dK (ts.map dt),_,rfl,MV,.inl ⟨_,rfl,rfl⟩,zd (d:=tp) (o:=o) (u:=.dK (ts.map dt)) (λj us HC=>HC=H7/\j<=ts.length/\us.length<=j/\zo K (λ_=>True) H7 us ((ts.take j).filter λx=>!decide (x.nm=e.nm))) (by rw[VX];exact bC ∅) {rfl,aP _,ar _,.nil} ?_ ?_ ?_}
     ·rintro j us HC hj ⟨rfl,_,lu,_⟩;exact⟨MV,lu⟩
     ·rintro j kv us HC N Kl ⟨rfl,hj,lu,QH⟩ hN;rw[bW,aK]at Kl;obtain⟨e',DP,DV⟩:=aX.mp Kl;have DV:kv=(.str e'.nm,.ref e'.ad):=DV.symm;subst DV;have Bc:=aH DP;have bK:j<ts.length:=(ax.mp DP).1;refine{_,rfl,_,rfl,rfl,_,rfl,?_};have tf:=Iu (λx=>!decide (x.nm=e.nm)) DP;show if(!decide (V.str e'.nm=V.str e.nm))=true then _ else _;rw[ed e'];refine fo (-62) (-62)
      ·rw[aC c]at tf;have ne:e'.nm≠e.nm:=λq=>by rw[q,aZ rfl]at c;cases c
       obtain⟨q1,q2⟩:=ot7 e' Bc ne;refine{_,rfl,_,rfl,tp,.ref e'.ad,rfl,dg MV Bc,hN _ _ {rfl,bK,?_,?_}}
       ·rw[aO];exact lW lu
       ·rw[tf];exact MD QH {e'.ad,_,rfl,trivial,q1,q2}
      ·rw[az c,b6]at tf;exact hN _ _ {rfl,bK,by lia,by rw[tf];exact QH}
     rintro us HC ⟨rfl,_,lu,QH⟩ ul MR;rw[VX,aV]at QH;have s9:bq HC (upd HC ul (.lst us)):=aM MR _;have h9:upd HC ul (.lst us) ul=some (.lst us):=aw;generalize (upd HC ul (.lst us))=H9' at s9 h9⊢;have okF:∀x∈ts.filter (λx=>!decide (x.nm=e.nm)),qW x.rows:=λx hx=>(Il x (bV.mp hx).1).2.2.2.1;refine{oy (-25),oy (-25),?_,?_,CI okF,CI okF,_,rfl,?_}
     ·unfold oy;rw[Dt];exact{kl,_,rfl,bp.of (s9 _ _ Wq),F8 (B2 (G':=λ_=>True) (λ_ _=>trivial) (λa u _ h=>s9 _ _ h) (dw.same s9) ls7)}
     ·unfold oy;rw[Dt];exact{ul,_,rfl,bp.of h9,F8 (B2 (G':=λ_=>True) (λ_ _=>trivial) (λa u _ h=>s9 _ _ h) (dw.same s9) QH)}
     have ee:PyData.eqv (oy (-25)) (oy (-25))=true:=by unfold oy;rw[PyData.eqv];exact Kz _
     have ev:(if true=true then !PyData.eqv (oy (-25)) (oy (-25))else PyData.eqv (oy (-25)) (oy (-25)))=false:=by rw[aC rfl,ee];rfl
     rw[ev];refine vy ?_;have ab9:∀b u,b≠e.ad->H3 b=some u->H9' b=some u:=λb u n h=>s9 _ _ (b7 _ _ n (GK _ _ h));have ah:H8 e.ad=none:=by obtain⟨g,hg,eg⟩:=aR.mp (show e.ad∈gs.map (·.ad) by rw[<-ea];exact cy he);rw[<-eg];exact fr g hg
     refine nx4 _ _ {_,_,ts.map λx=>if x.nm=e.nm then{e.nm,e.ad,e.ys++[V.ref pt],e.rows++[[]]}else x,rfl,λb u h=>ab9 _ _ (bf h ah) (s3 _ _ h),s9 _ _ MV,?_,λx hx=>?_}
     ·rw[<-WT,bW];refine bX λx hx=>?_;show((if x.nm=e.nm then({e.nm,e.ad,e.ys++[V.ref pt],e.rows++[[]]}:En)else x).nm,(if x.nm=e.nm then({e.nm,e.ad,e.ys++[V.ref pt],e.rows++[[]]}:En)else x).ad)=(x.nm,x.ad);by_cases c:x.nm=e.nm
      ·rw[aC c,Oe (·.nm) tnd hx he c]
      ·rw[az c]
     ·obtain⟨y,hy,rfl⟩:=aR.mp hx;by_cases c:y.nm=e.nm
      ·rw[aC c];refine{s9 _ _ h7,kR (cM (iE (cM (Py e he).2 GK) t7) s9) {pt,rfl,bF.of (s9 _ _ (u7 _ _ Ug))},λz hz=>?_,λr zQ z hz=>?_,by rw[aO];show _+1<=_;lia}
       ·rcases bg.mp hz with hz|hz
        ·exact(((te3.keep (eE.of GK)).keep u7).keep (eE.of s9)) z hz
        ·rw[ay.mp hz];exact{pt,_,rfl,s9 _ _ (u7 _ _ Ug)}
       ·rcases bg.mp zQ with zQ|zQ
        ·exact oe r zQ z hz
        ·rw[ay.mp zQ]at hz;cases hz
      ·rw[az c];obtain⟨_,_,t5,o5,l5⟩:=Il y hy;obtain⟨q1,q2⟩:=ot7 y hy c;exact{s9 _ _ q1,cM q2 s9,(((t5.keep (eE.of sb)).keep (eE.of GK)).keep u7).keep (eE.of s9),o5,by lia}
    ·rintro Z H2 ⟨x8,uV,ts,rfl,s2,iU,WT,Il⟩;refine{o,_,iU,?_};have s3:bq H8 (upd H2 tp (-70)):=λb u h=>by rw[aE (bf h t0)];exact s2 _ _ h
     have h3:upd H2 tp (-70) tp=some (-70):=aw;generalize upd H2 tp (-70)=H3 at s3 h3⊢;refine{(-18),λzl hzl=>{_,rfl,tp,_,rfl,vT.k (k:=Sum.inr "zz") (aM hzl _ _ _ h3) (-28),?_}};refine VD _ _ {_,_,_,_,_,_,rfl,λb u h=>?_};rw[aE (bf h t0)];exact aM hzl _ _ _ (s3 _ _ h)
   ·rintro Z H9 ⟨x8,x9,zE,An,Am,uV,rfl,IP⟩;exact EM _ _ {_,_,_,_,_,_,_,_,_,_,rfl,P1.trans (AE.trans IP)}
 ·rintro Z Hx ⟨x4,x5,x6,x7,x8,x9,zE,An,Am,uV,rfl,sx⟩;refine{(-18),λl0 mB d0 gE=>?_};refine{l0,d0,[],[],[],rfl,aM gE _ _ _ aw,.nil,fJ,aP _,{aw,fJ,λe h=>by cases h},λp gs H9 s9 adB=>?_};obtain⟨f1,_,f3,_⟩:=adB;rw[ji,show iV ([]:Aah)=[]from List.perm_nil.mp (lT _)]at f3;have eg:gs=[]:=mN.mp f3;rw[eg]at f1;intro d2 hd2;exact{p,d2,[],[],rfl,rfl,aM hd2 _ _ _ f1,aw,.nil,k _}
end
end kr
namespace Hd
open PySem PySem.W PyProof.Rows PySem.W.Fast
abbrev pos0:Pos:={0,0,0,0}
abbrev tb:=tw14364793385576792824
abbrev an0:Option Value:=some (.ref 6)
def env0(p:Program):Env:={scope:=p.main.scope,locals:=mainNs,globals:=mainNs,cells:=[],code:=.ref 13,frame:=some 14}
def cd0(p:Program):Code:=.body (behindTheImports p) (env0 p)
abbrev B0:List Frame:=[topFrame pos0]
def S0(w:World)(os:OsState):Shared:={boot_heap w.params,Array.mk [],boot_drawn,boot_toks,os}
def mkT(l:List Obj):Nat->Nat->Nat->BT
 |0,_,_=>.nil
 |f+1,a,b=>match l[b]? with
  |some o=>.node o (mkT l f (2*a) (a+b)) (mkT l f (2*a) (2*a+b))
  |none=>.nil
def toT(s:Shared):SharedT:={mkT s.heap.objs.toList 6 1 0,s.heap.objs.size,s.heap.life,s.gens,s.drawn,s.toks,s.os}
def pre(p:Program)(w:World)(os:OsState):SharedT:=match tw15667345088766844465 tb p w 11 an0 12 (S0 w os) (topStub p)with
 |some r=>toT r.1
 |none=>toT (S0 w os)
def body(p:Program)(n:Nat)(w:World)(os:OsState):Option (Flow×SharedT×Code×Pos):=
 tw10110043849684766642 tb p w 11 an0 1 n (pre p w os) (piecesOf (behindTheImports p) (env0 p) (cd0 p) pos0 B0)
def aft(p:Program)(n:Nat)(w:World)(os:OsState):SharedT:=match body p n w os with
 |some r=>r.2.1
 |none=>toT (S0 w os)
def posL(p:Program)(n:Nat)(w:World)(os:OsState):Pos:=match body p n w os with
 |some r=>r.2.2.2
 |none=>pos0
def fin(p:Program)(n:Nat)(w:World)(os:OsState):Shared:=match tw14082659384304107361 tb p w 11 an0 2 (aft p n w os).abs {doneF .next,cd0 p,posL p n w os,B0}with
 |some s=>s
 |none=>S0 w os
structure Ok(p:Program)(n:Nat):Prop where
 pre:∀w os,tw15667345088766844465 tb p w 11 an0 12 (S0 w os) (topStub p)=some ((Hd.pre p w os).abs,{tw11892475500146522536 tb (cd0 p),cd0 p,pos0,B0})
 block:∀w os,tw14374325043358763698 tb p w 11 an0 1 1 (Hd.pre p w os).abs (blockOf (behindTheImports p) (env0 p) (cd0 p) pos0 B0)=some (.next,(Hd.pre p w os).abs,cd0 p,pos0)
 body:∀w os,Hd.body p n w os=some (.next,aft p n w os,cd0 p,posL p n w os)
 fin:∀w os,tw14082659384304107361 tb p w 11 an0 2 (aft p n w os).abs {doneF .next,cd0 p,posL p n w os,B0}=some (Hd.fin p n w os)
def run(o:Ok p n)(w:World)(os:OsState):topRun treeTable p w 11 an0 (12+(1+(n+2))) (S0 w os) (topStub p)=some (fin p n w os):=by have h1:=o.pre w os;have h2:=o.block w os;have h3:=o.body w os;have h4:=o.fin w os;unfold Hd.body at h3;unfold tb at h1 h2 h3 h4;rw[<-te15667345088766844465,<-te14364793385576792824,<-te11892475500146522536]at h1;rw[<-te14374325043358763698,<-te14364793385576792824]at h2;rw[<-te10110043849684766642,<-te14364793385576792824]at h3;rw[<-te14082659384304107361,<-te14364793385576792824]at h4;have k:topRun treeTable p w 11 an0 (n+2) (Hd.pre p w os).abs (restOf (behindTheImports p++[]) (env0 p) (cd0 p) pos0 B0)=some (fin p n w os):=piece_app (segRun_of h3) (piece_nil h4);rw[b6]at k;exact go_top h1 (piece_block h2 k)
def left(o:Ok p n)(hN:Nat.ble (12+(1+(n+2))) N=true)(he:opening p=plainProg p.main.scope.names)(h6:Nat.ble 600 N=true)(hf:∀s,fenceModules? p s=some s)
  (l1:∀w os,(staticsOk (importedModules p.main.body) (boot_heap w.params) (fin p n w os).heap&&namesBound p (fin p n w os).heap&&gensDone (fin p n w os)&&laidKept (boot_heap w.params) (fin p n w os).heap)=true)
  (l2:∀w os,openSeen q loose (importedModules p.main.body) Xt g0 (fin p n w os)=openGood q loose) (l3:∀w os,Yf (fin p n w os)=Ya w):LeftO p q loose Xt Yf Ya N g0:=λw=>by
 obtain⟨s,e,e'⟩:=aX.mp (boot_open he h6 hf w);obtain⟨os,rfl⟩:∃os,s=S0 w os:=by obtain⟨h,g,d,t,os⟩:=s;simp only[Prod.mk.injEq]at e';obtain⟨rfl,rfl,rfl,rfl⟩:=e';exact⟨os,rfl⟩
 have r:=topRun_mono (N -(12+(1+(n+2)))) _ _ _ _ (run o w os);rw[show 12+(1+(n+2))+(N -(12+(1+(n+2))))=N by have:=Nat.le_of_ble_eq_true hN;lia]at r;have z1:((S0 w os).heap.isNs mainGlobals&&(S0 w os).gens.size==0)=true:=by kernel_rfl
 have z2:(S0 w os).heap.objs.size=11:=by kernel_rfl
 have z3:(S0 w os).heap.nsMap mainGlobals "__annotations__"=an0:=by kernel_rfl
 have t:topFrom treeTable p w N (S0 w os)=some (fin p n w os):=by unfold topFrom;rw[z1,z2,z3,r];have q:=l1 w os;show(match _ with|true=>_|false=>_)=_;rw[show(staticsOk (importedModules p.main.body) (S0 w os).heap (fin p n w os).heap&&namesBound p (fin p n w os).heap&&gensDone (fin p n w os)&&laidKept (S0 w os).heap (fin p n w os).heap)=true from q]
 unfold openEnds;rw[e];show(topFrom treeTable p w N _).map _=_;rw[t];exact bU some (Ed (l2 w os) (l3 w os))
end Hd
namespace kr
open PySem PySem.Spec PyProof.Rows L2
abbrev tO(vs:Aag):Obj:={.type "tuple",none,.seq vs.toArray 0,#[]}
abbrev cO(vs:Aag):Obj:={.type "code",none,.fields vs.toArray,#[]}
abbrev kO(P:Params)(x:Str)(t:Tok)(v:Value):DictEntry:={PyData.keyHash P x,.str x t,v}
abbrev fO(s:Stmt)(n q:Str)(pm cd:Value):Obj:={.type "function",none,.func (fnOf n q (defArgs s) (defBody s) (defScope s) .none .none .none pm none cd .none),#[]}
abbrev cF(x q:Str)(a b c:Tok)(l n:Int)(r r1:Addr)(v1 v2:Value)(r2:Addr)(i:Int)(d:Tok):Obj:=cO [.str x a,.str q b,.str "/claim/cut.py" c,.int l 0,.int n 0,.int 0 0,.int 0 0,.int 3 0,.ref r,.bool true,.int 181 0,.ref r1,.none,v1,v2,.ref r2,.int i 0,.int l 0,.str "/claim/cut.py" d]
abbrev cG(x:Str)(a b c:Tok)(l n:Int)(r r1:Addr)(v1 v2:Value)(r2:Addr)(i:Int)(d:Tok):Obj:=cF x x a b c l n r r1 v1 v2 r2 i d
abbrev fF(s:Stmt)(x:Str)(m:Value)(r:Addr):Obj:=fO s x x m (.ref r)
abbrev mO0:Value:=Value.str "askviews.terms" 187
abbrev mO1:Value:=Value.str "askviews.questions" 206
abbrev mO2:Value:=Value.str "askviews.tables" 218
abbrev mO3:Value:=Value.str "askviews.answers" 238
abbrev mO4:Value:=Value.str "askviews.views" 370
abbrev mO5:Value:=Value.str "law_askviews_k41_what_views_see" 383
noncomputable def KF(P:Params):Frag:=
 (nat_lit 2,{.none,none,.dict #[] 0,#[]})::
 (nat_lit 3,{(.type "dict"),none,.dict #[kO P "__name__" 165 (.str "law_askviews_k41_what_views_see" 383),kO P "__doc__" 166 .none,kO P "__package__" 167 .none,kO P "__loader__" 168 (.builtin "__main__.__loader__#opaque"),kO P "__spec__" 169 .none,kO P "__annotations__" 170 (.ref 6),kO P "__builtins__" 171 (.ref 4),kO P "__file__" 173 (.str "/claim/cut.py" 172),kO P "__cached__" 174 .none,kO P "SIGNS" 190 (.str "abcdefghijklmnopqrstuvwxyz0123456789" 189),kO P "MOST_SIGNS" 192 (.int 8 191),kO P "is_value" 198 (.ref 19),kO P "is_unknown" 205 (.ref 26),kO P "unknowns_of" 217 (.ref 33),kO P "rows_of" 227 (.ref 40),kO P "sorted_tables" 237 (.ref 47),kO P "answers" 247 (.ref 54),kO P "counts_of" 260 (.ref 61),kO P "needed_terms" 271 (.ref 68),kO P "Asking" 327 (.ref 105),kO P "narrowed" 341 (.ref 116),kO P "places_of" 351 (.ref 123),kO P "image" 357 (.ref 128),kO P "is_image" 363 (.ref 133),kO P "tails_by_key" 369 (.ref 138),kO P "seen" 382 (.ref 145),kO P "_law_feed" 392 (.ref 152),kO P "_law_draw" 402 (.ref 159),kO P "_law_words" 408 (.ref 164),kO P "_law_atom" 423 (.ref 171),kO P "_law_head" 429 (.ref 176),kO P "_law_question" 435 (.ref 181),kO P "_law_led" 441 (.ref 186),kO P "_law_unknowns" 447 (.ref 191),kO P "_law_bound" 459 (.ref 198),kO P "_law_tables" 465 (.ref 203),kO P "_law_all_answers" 471 (.ref 208),kO P "_law_view_question" 487 (.ref 215),kO P "_law_views" 493 (.ref 220),kO P "law" 499 (.ref 225)] 40,#[]})::
 (nat_lit 15,tO [])::
 (nat_lit 18,cG "is_value" 193 194 195 4 1 15 16 .none .none 17 196 197)::
 (nat_lit 19,fF (top 3) "is_value" mO0 18)::
 (nat_lit 20,tO [])::
 (nat_lit 22,tO [(.str "thing" 202)])::
 (nat_lit 23,tO [])::
 (nat_lit 25,cG "is_unknown" 199 200 201 8 1 20 21 (.ref 22) (.ref 23) 24 203 204)::
 (nat_lit 26,fF (top 4) "is_unknown" mO0 25)::
 (nat_lit 27,tO [])::
 (nat_lit 29,tO [(.str "question" 211),(.str "found" 212),(.str "atom" 213),(.str "term" 214)])::
 (nat_lit 30,tO [])::
 (nat_lit 32,cG "unknowns_of" 208 209 210 11 1 27 28 (.ref 29) (.ref 30) 31 215 216)::
 (nat_lit 33,fF (top 6) "unknowns_of" mO1 32)::
 (nat_lit 34,tO [])::
 (nat_lit 36,tO [(.str "tables" 223),(.str "name" 224)])::
 (nat_lit 37,tO [])::
 (nat_lit 39,cG "rows_of" 220 221 222 19 2 34 35 (.ref 36) (.ref 37) 38 225 226)::
 (nat_lit 40,fF (top 8) "rows_of" mO2 39)::
 (nat_lit 41,tO [])::
 (nat_lit 43,tO [(.str "tables" 231),(.str "told" 232),(.str "name" 233),(.str "rows" 234)])::
 (nat_lit 44,tO [])::
 (nat_lit 46,cG "sorted_tables" 228 229 230 21 1 41 42 (.ref 43) (.ref 44) 45 235 236)::
 (nat_lit 47,fF (top 9) "sorted_tables" mO2 46)::
 (nat_lit 48,tO [])::
 (nat_lit 50,tO [(.str "question" 243),(.str "tables" 244)])::
 (nat_lit 51,tO [])::
 (nat_lit 53,cG "answers" 240 241 242 29 2 48 49 (.ref 50) (.ref 51) 52 245 246)::
 (nat_lit 54,fF (top 11) "answers" mO3 53)::
 (nat_lit 55,tO [])::
 (nat_lit 57,tO [(.str "question" 251),(.str "tables" 252),(.str "head" 253),(.str "atoms" 254),(.str "asking" 255),(.str "left" 256),(.str "atom" 257)])::
 (nat_lit 58,tO [])::
 (nat_lit 60,cG "counts_of" 248 249 250 31 2 55 56 (.ref 57) (.ref 58) 59 258 259)::
 (nat_lit 61,fF (top 12) "counts_of" mO3 60)::
 (nat_lit 62,tO [])::
 (nat_lit 64,tO [(.str "head" 264),(.str "atoms" 265),(.str "needed" 266),(.str "name" 267),(.str "terms" 268)])::
 (nat_lit 65,tO [])::
 (nat_lit 67,cG "needed_terms" 261 262 263 39 2 62 63 (.ref 64) (.ref 65) 66 269 270)::
 (nat_lit 68,fF (top 13) "needed_terms" mO3 67)::
 (nat_lit 76,tO [])::
 (nat_lit 78,tO [(.str "self" 287),(.str "tables" 288)])::
 (nat_lit 79,tO [])::
 (nat_lit 81,cF "__init__" "Asking.__init__" 284 285 286 46 2 76 77 (.ref 78) (.ref 79) 80 289 290)::
 (nat_lit 82,fO (inClass (top 14) 0) "__init__" "Asking.__init__" mO3 (.ref 81))::
 (nat_lit 83,tO [])::
 (nat_lit 86,cF "best_place" "Asking.best_place" 292 293 294 52 2 83 84 .none .none 85 295 296)::
 (nat_lit 87,fO (inClass (top 14) 1) "best_place" "Asking.best_place" mO3 (.ref 86))::
 (nat_lit 88,tO [])::
 (nat_lit 91,cF "take" "Asking.take" 298 299 300 62 3 88 89 .none .none 90 301 302)::
 (nat_lit 92,fO (inClass (top 14) 2) "take" "Asking.take" mO3 (.ref 91))::
 (nat_lit 93,tO [])::
 (nat_lit 96,cF "fresh_unknowns" "Asking.fresh_unknowns" 304 305 306 71 2 93 94 .none .none 95 307 308)::
 (nat_lit 97,fO (inClass (top 14) 3) "fresh_unknowns" "Asking.fresh_unknowns" mO3 (.ref 96))::
 (nat_lit 98,tO [])::
 (nat_lit 101,cF "tails_of_maps" "Asking.tails_of_maps" 310 311 312 74 2 98 99 .none .none 100 313 314)::
 (nat_lit 102,fO (inClass (top 14) 4) "tails_of_maps" "Asking.tails_of_maps" mO3 (.ref 101))::
 (nat_lit 103,tO [(.str "kept" 316),(.str "maps" 317),(.str "tables" 318),(.str "tails" 319)])::
 (nat_lit 104,{(.type "dict"),none,.dict #[kO P "__module__" 279 (.str "askviews.answers" 238),kO P "__firstlineno__" 283 (.int 44 282),kO P "__init__" 291 (.ref 82),kO P "best_place" 297 (.ref 87),kO P "take" 303 (.ref 92),kO P "fresh_unknowns" 309 (.ref 97),kO P "tails_of_maps" 315 (.ref 102),kO P "__static_attributes__" 320 (.ref 103),kO P "__dict__" 322 (.ref 106),kO P "__weakref__" 324 (.ref 107),kO P "__doc__" 325 .none] 4,#[]})::
 (nat_lit 105,{(.type "type"),none,.cls {"Asking",[(.type "object")],[(.ref 105),(.type "object")],104,"Asking",true,[],[],false,none,false},#[none,none,some (.str "Asking" 272),some (.str "Asking" 280),some (.builtin "object.__new__"),some (.bool true)]})::
 (nat_lit 106,{(.type "getset_descriptor"),none,.fields #[(.str "__dict__" 321),(.ref 105),(.builtin "function.__dict__"),(.builtin "function.__dict__#set")],#[]})::
 (nat_lit 107,{(.type "getset_descriptor"),none,.fields #[(.str "__weakref__" 323),(.ref 105),(.builtin "ExceptionGroup.__weakref__"),.none],#[]})::
 (nat_lit 110,tO [])::
 (nat_lit 112,tO [(.str "counted_maps" 331),(.str "unknowns" 332),(.str "terms" 333),(.str "places" 334),(.str "counts" 335),(.str "given" 336),(.str "count" 337),(.str "row" 338)])::
 (nat_lit 113,tO [])::
 (nat_lit 115,cG "narrowed" 328 329 330 83 3 110 111 (.ref 112) (.ref 113) 114 339 340)::
 (nat_lit 116,fF (top 15) "narrowed" mO3 115)::
 (nat_lit 117,tO [])::
 (nat_lit 119,tO [(.str "unknowns" 345),(.str "places" 346),(.str "place" 347),(.str "unknown" 348)])::
 (nat_lit 120,tO [])::
 (nat_lit 122,cG "places_of" 342 343 344 90 1 117 118 (.ref 119) (.ref 120) 121 349 350)::
 (nat_lit 123,fF (top 16) "places_of" mO3 122)::
 (nat_lit 124,tO [])::
 (nat_lit 127,cG "image" 352 353 354 95 3 124 125 .none .none 126 355 356)::
 (nat_lit 128,fF (top 17) "image" mO3 127)::
 (nat_lit 129,tO [])::
 (nat_lit 132,cG "is_image" 358 359 360 97 2 129 130 .none .none 131 361 362)::
 (nat_lit 133,fF (top 18) "is_image" mO3 132)::
 (nat_lit 134,tO [])::
 (nat_lit 137,cG "tails_by_key" 364 365 366 101 4 134 135 .none .none 136 367 368)::
 (nat_lit 138,fF (top 19) "tails_by_key" mO3 137)::
 (nat_lit 139,tO [])::
 (nat_lit 141,tO [(.str "views" 375),(.str "tables" 376),(.str "found" 377),(.str "name" 378),(.str "question" 379)])::
 (nat_lit 142,tO [])::
 (nat_lit 144,cG "seen" 372 373 374 109 2 139 140 (.ref 141) (.ref 142) 143 380 381)::
 (nat_lit 145,fF (top 21) "seen" mO4 144)::
 (nat_lit 146,tO [])::
 (nat_lit 148,tO [(.str "_law_script" 388),(.str "_law_k" 389)])::
 (nat_lit 149,tO [])::
 (nat_lit 151,cG "_law_feed" 385 386 387 115 2 146 147 (.ref 148) (.ref 149) 150 390 391)::
 (nat_lit 152,fF (top 23) "_law_feed" mO5 151)::
 (nat_lit 153,tO [])::
 (nat_lit 155,tO [(.str "_law_feed_here" 396),(.str "_law_many" 397),(.str "_law_digit" 398),(.str "_law_seed" 399)])::
 (nat_lit 156,tO [])::
 (nat_lit 158,cG "_law_draw" 393 394 395 119 2 153 154 (.ref 155) (.ref 156) 157 400 401)::
 (nat_lit 159,fF (top 24) "_law_draw" mO5 158)::
 (nat_lit 160,tO [])::
 (nat_lit 163,cG "_law_words" 403 404 405 128 2 160 161 .none .none 162 406 407)::
 (nat_lit 164,fF (top 25) "_law_words" mO5 163)::
 (nat_lit 165,tO [])::
 (nat_lit 167,tO [(.str "_law_feed_here" 412),(.str "_law_names" 413),(.str "_law_unknowns_here" 414),(.str "_law_values" 415),(.str "_law_at" 416),(.str "_law_long" 417),(.str "_law_terms" 418),(.str "_law_k" 419),(.str "_law_term" 420)])::
 (nat_lit 168,tO [])::
 (nat_lit 170,cG "_law_atom" 409 410 411 133 4 165 166 (.ref 167) (.ref 168) 169 421 422)::
 (nat_lit 171,fF (top 26) "_law_atom" mO5 170)::
 (nat_lit 172,tO [])::
 (nat_lit 175,cG "_law_head" 424 425 426 145 2 172 173 .none .none 174 427 428)::
 (nat_lit 176,fF (top 27) "_law_head" mO5 175)::
 (nat_lit 177,tO [])::
 (nat_lit 180,cG "_law_question" 430 431 432 150 3 177 178 .none .none 179 433 434)::
 (nat_lit 181,fF (top 28) "_law_question" mO5 180)::
 (nat_lit 182,tO [])::
 (nat_lit 185,cG "_law_led" 436 437 438 158 2 182 183 .none .none 184 439 440)::
 (nat_lit 186,fF (top 29) "_law_led" mO5 185)::
 (nat_lit 187,tO [])::
 (nat_lit 190,cG "_law_unknowns" 442 443 444 160 1 187 188 .none .none 189 445 446)::
 (nat_lit 191,fF (top 30) "_law_unknowns" mO5 190)::
 (nat_lit 192,tO [])::
 (nat_lit 194,tO [(.str "_law_terms" 451),(.str "_law_row" 452),(.str "_law_given" 453),(.str "_law_more" 454),(.str "_law_term" 455),(.str "_law_value" 456)])::
 (nat_lit 195,tO [])::
 (nat_lit 197,cG "_law_bound" 448 449 450 165 3 192 193 (.ref 194) (.ref 195) 196 457 458)::
 (nat_lit 198,fF (top 31) "_law_bound" mO5 197)::
 (nat_lit 199,tO [])::
 (nat_lit 202,cG "_law_tables" 460 461 462 177 2 199 200 .none .none 201 463 464)::
 (nat_lit 203,fF (top 32) "_law_tables" mO5 202)::
 (nat_lit 204,tO [])::
 (nat_lit 207,cG "_law_all_answers" 466 467 468 190 2 204 205 .none .none 206 469 470)::
 (nat_lit 208,fF (top 33) "_law_all_answers" mO5 207)::
 (nat_lit 209,tO [])::
 (nat_lit 211,tO [(.str "_law_feed_here" 475),(.str "_law_names" 476),(.str "_law_most" 477),(.str "_law_made" 478),(.str "_law_some" 479),(.str "_law_name" 480),(.str "_law_terms" 481),(.str "_law_head_here" 482),(.str "_law_k" 483),(.str "_law_unknown" 484)])::
 (nat_lit 212,tO [])::
 (nat_lit 214,cG "_law_view_question" 472 473 474 201 3 209 210 (.ref 211) (.ref 212) 213 485 486)::
 (nat_lit 215,fF (top 34) "_law_view_question" mO5 214)::
 (nat_lit 216,tO [])::
 (nat_lit 219,cG "_law_views" 488 489 490 214 3 216 217 .none .none 218 491 492)::
 (nat_lit 220,fF (top 35) "_law_views" mO5 219)::
 (nat_lit 221,tO [])::
 (nat_lit 224,cG "law" 494 495 496 216 1 221 222 .none .none 223 497 498)::
 (nat_lit 225,fF (top 36) "law" mO5 224)::[]
noncomputable def asF:Aaj:=[2,3,15,18,19,20,22,23,25,26,27,29,30,32,33,34,36,37,39,40,41,43,44,46,47,48,50,51,53,54,55,57,58,60,61,62,64,65,67,68,76,78,79,81,82,83,86,87,88,91,92,93,96,97,98,101,102,103,104,105,106,107,110,112,113,115,116,117,119,120,122,123,124,127,128,129,132,133,134,137,138,139,141,142,144,145,146,148,149,151,152,153,155,156,158,159,160,163,164,165,167,168,170,171,172,175,176,177,180,181,182,185,186,187,190,191,192,194,195,197,198,199,202,203,204,207,208,209,211,212,214,215,216,219,220,221,224,225]
def HF:PySem.W.Hook:=PySem.W.kHook KF asF λ_=>by kernel_rfl
noncomputable def qf(p:Program):Program:={p with main:={p.main with body:=[1,2,3,4,6,8,9,11,12,13,14,15,16,17,18,19,21,23,24,25,26,27,28,29,30,31,32,33,34,35,36].filterMap λi=>p.main.body[i]?}}
abbrev XF(p:Program)(s:Shared):Bool:=PySem.W.xlAt (qf p) [] s&&PySem.W.recOk [] s
abbrev LF(p:Program):Prop:=PySem.W.LeftO p (qf p) [] (XF p) (PySem.W.Hook.obs HF) (PySem.W.Hook.val HF) 2606
abbrev pL:Program:=PySem.Challenge.pw_askviews_k41_what_views_see
def okL:Hd.Ok pL 1241:={λw os=>by kernel_rfl,λw os=>by kernel_rfl,λw os=>by kernel_rfl,λw os=>by kernel_rfl}
def l1L(w:World)(os:OsState):(PySem.W.staticsOk (importedModules pL.main.body) (PySem.W.boot_heap w.params) (Hd.fin pL 1241 w os).heap&&PySem.W.namesBound pL (Hd.fin pL 1241 w os).heap&&PySem.W.gensDone (Hd.fin pL 1241 w os)&&PySem.W.laidKept (PySem.W.boot_heap w.params) (Hd.fin pL 1241 w os).heap)=true:=by kernel_rfl
def l2L(w:World)(os:OsState):PySem.W.Fast.tw4187177175401517315 (qf pL) [] (importedModules pL.main.body) (XF pL) true (Hd.fin pL 1241 w os)=PySem.W.openGood (qf pL) []:=by kernel_rfl
def l3L(w:World)(os:OsState):asF.map (Hd.fin pL 1241 w os).heap.get?=(KF w.params).map λp=>some p.2:=by kernel_rfl
def headL:LF pL:=Hd.left (n:=1241) okL (by kernel_rfl) (by kernel_rfl) (by kernel_rfl) (λs=>by kernel_rfl) l1L (λw os=>by rw[PySem.W.Fast.te4187177175401517315];exact l2L w os) l3L
def head:LF PySem.Challenge.pw_askviews_k41_what_views_see:=headL
def ZR{K:Frag}(hO:Pj H)(h:bp K H a xs):FE K H a xs:=by
 rcases h with(h|h)|h
 ·rcases hO a with e|⟨o,ys,e⟩
  ·rw[e]at h;cases h
  ·rw[e]at h;cases h
 ·exact .inl h
 ·exact .inr h
def FN(K:Frag)(x:Str)(st:Stmt):Prop:=∃f fd,nsIn K mainGlobals x=some (some (.ref f))/\fu K x x st f fd
def acG{K:Frag}{x:Str}{st:Stmt}{f:Addr}{oc:Value}{od an:Aak}{zK:Array (Option Value)}{kV doc pm dm ct:Value}(a:nsIn K mainGlobals x=some (some (.ref f)))(l:K.lookup f=some {oc,od,.func (fnOf x x (defArgs st) (defBody st) (defScope st) .none kV doc pm an dm ct),zK})(c:codeIn K dm x=true)(k:keepIn K (.ref f)=true):FN K x st:={f,_,a,RE l c k}
section
variable{K:Frag}{h base:Heap}{x q p p2 r s:Str}{st:Stmt}{mg:Aad}{f C:Addr}{fd:FuncData}{P:Program}{w:World}{k:Nat}{sp:Sp}{ps:Aah}
def O5(b:FN K x st)(hb:∀f fd,fu K x x st f fd->Binds K fd ps [])(X:K.In h)(G:h.Ns mainGlobals mg)(ok:∀f fd,fu K x x st f fd->dk P w K mg base fU k f fd ps sp):dP P w K mg base k x ps sp:=
 have⟨f,fd,a,F⟩:=b
 {f,fd,ok f fd F,pK X G a,F.kp,hb f fd F}
abbrev Bd1(x q:Str)(st:Stmt)(p:Str):Prop:=(λ(a kV doc pm dm ct:Value)(an:Aak)=>bindArgs (-24) {[a],[]})=λa _ _ _ _ _ _=>pure [(p,a)]
def bd1(F:fu K x q st f fd)(h:Bd1 x q st p):Binds K fd [p] []:=F.binds λk1 k2 k3 k4 k5 k6 us hl=>by rcases us with _|⟨a,_|⟨e,us⟩⟩<;>first|exact cI (cI (cI (cI (cI (cI (cI h a) k1) k2) k3) k5) k6) k4|cases hl
def d1(P:Program)(w:World)(base:Heap)(X:K.In h)(G:h.Ns mainGlobals mg)(b:FN K x st)(ok:∀f fd,fu K x x st f fd->dk P w K mg base fU k f fd [p] sp)(h:Bd1 x x st p:=by rfl):dP P w K mg base k x [p] sp:=O5 b (λ_ _ F=>bd1 F h) X G ok
abbrev Bd2(x q:Str)(st:Stmt)(p p2:Str):Prop:=(λ(a b kV doc pm dm ct:Value)(an:Aak)=>bindArgs (-24) {[a,b],[]})=λa b _ _ _ _ _ _=>pure [(p,a),(p2,b)]
def bd2(F:fu K x q st f fd)(h:Bd2 x q st p p2):Binds K fd [p,p2] []:=F.binds λk1 k2 k3 k4 k5 k6 us hl=>by rcases us with _|⟨a,_|⟨b,_|⟨e,us⟩⟩⟩<;>first|exact cI (cI (cI (cI (cI (cI (cI (cI h a) b) k1) k2) k3) k5) k6) k4|cases hl
def d2(P:Program)(w:World)(base:Heap)(X:K.In h)(G:h.Ns mainGlobals mg)(b:FN K x st)(ok:∀f fd,fu K x x st f fd->dk P w K mg base fU k f fd [p,p2] sp)(h:Bd2 x x st p p2:=by rfl):dP P w K mg base k x [p,p2] sp:=O5 b (λ_ _ F=>bd2 F h) X G ok
abbrev Bd3(x q:Str)(st:Stmt)(p p2 r:Str):Prop:=(λ(a b c kV doc pm dm ct:Value)(an:Aak)=>bindArgs (-24) {[a,b,c],[]})=λa b c _ _ _ _ _ _=>pure [(p,a),(p2,b),(r,c)]
def bd3(F:fu K x q st f fd)(h:Bd3 x q st p p2 r):Binds K fd [p,p2,r] []:=F.binds λk1 k2 k3 k4 k5 k6 us hl=>by rcases us with _|⟨a,_|⟨b,_|⟨c,_|⟨e,us⟩⟩⟩⟩<;>first|exact cI (cI (cI (cI (cI (cI (cI (cI (cI h a) b) c) k1) k2) k3) k5) k6) k4|cases hl
def d3(P:Program)(w:World)(base:Heap)(X:K.In h)(G:h.Ns mainGlobals mg)(b:FN K x st)(ok:∀f fd,fu K x x st f fd->dk P w K mg base fU k f fd [p,p2,r] sp)(h:Bd3 x x st p p2 r:=by rfl):dP P w K mg base k x [p,p2,r] sp:=O5 b (λ_ _ F=>bd3 F h) X G ok
abbrev Bd4(x q:Str)(st:Stmt)(p p2 r s:Str):Prop:=(λ(a b c d kV doc pm dm ct:Value)(an:Aak)=>bindArgs (-24) {[a,b,c,d],[]})=λa b c d _ _ _ _ _ _=>pure [(p,a),(p2,b),(r,c),(s,d)]
def bd4(F:fu K x q st f fd)(h:Bd4 x q st p p2 r s):Binds K fd [p,p2,r,s] []:=F.binds λk1 k2 k3 k4 k5 k6 us hl=>by rcases us with _|⟨a,_|⟨b,_|⟨c,_|⟨d,_|⟨e,us⟩⟩⟩⟩⟩<;>first|exact cI (cI (cI (cI (cI (cI (cI (cI (cI (cI h a) b) c) d) k1) k2) k3) k5) k6) k4|cases hl
def d4(P:Program)(w:World)(base:Heap)(X:K.In h)(G:h.Ns mainGlobals mg)(b:FN K x st)(ok:∀f fd,fu K x x st f fd->dk P w K mg base fU k f fd [p,p2,r,s] sp)(h:Bd4 x x st p p2 r s:=by rfl):dP P w K mg base k x [p,p2,r,s] sp:=O5 b (λ_ _ F=>bd4 F h) X G ok
def MN(K:Frag)(C:Addr)(x q:Str)(st:Stmt):Prop:=∃f fd,findIn K (.ref C) x=some (some (.ref f))/\isFn K (.ref f)=true/\fu K x q st f fd
def ack{K:Frag}{x q:Str}{st:Stmt}{f C:Addr}{oc:Value}{od an:Aak}{zK:Array (Option Value)}{kV doc pm dm ct:Value}(a:findIn K (.ref C) x=some (some (.ref f)))(i:isFn K (.ref f)=true)(l:K.lookup f=some {oc,od,.func (-24),zK})(c:codeIn K dm q=true)(k:keepIn K (.ref f)=true):MN K C x q st:={f,_,a,i,RE l c k}
def m2(P:Program)(w:World)(base:Heap)(mg:Aad)(b:MN K C x q st)(ok:∀f fd,fu K x q st f fd->dk P w K mg base fU k f fd [p,p2] sp)(h:Bd2 x q st p p2:=by rfl):qY P w K mg base C k x [p,p2] sp:=
 have⟨f,fd,a,i,F⟩:=b
 {f,fd,ok f fd F,{a,i,F.kp},bd2 F h}
def m3(P:Program)(w:World)(base:Heap)(mg:Aad)(b:MN K C x q st)(ok:∀f fd,fu K x q st f fd->dk P w K mg base fU k f fd [p,p2,r] sp)(h:Bd3 x q st p p2 r:=by rfl):qY P w K mg base C k x [p,p2,r] sp:=
 have⟨f,fd,a,i,F⟩:=b
 {f,fd,ok f fd F,{a,i,F.kp},bd3 F h}
end
def all_mk{l:PySem.W.OpenLaw}{w:World}{K:Frag}{h:Heap}{mg:Aad}{fa C0:Addr}{t0 t1:Tok}(X:K.In h)(G:h.Ns mainGlobals mg)(hfa:mg "law"=some (.ref fa))
  (zg:FN K "is_value" yK)
  (vL:FN K "is_unknown" ve)
  (tQ:FN K "unknowns_of" tL)
  (Bs:FN K "rows_of" Ay)
  (qS:FN K "sorted_tables" qy)
  (Bw:FN K "answers" AD)
  (xg:FN K "counts_of" wX)
  (rW:FN K "needed_terms" rH)
  (ze:FN K "narrowed" yI)
  (xf:FN K "places_of" wW)
  (Gi:FN K "image" FP)
  (zi:FN K "is_image" yL)
  (rV:FN K "tails_by_key" rG)
  (KW:FN K "seen" IL)
  (D7:FN K "_law_feed" Dz)
  (D8:FN K "_law_draw" DA)
  (Bt:FN K "_law_words" Az)
  (D9:FN K "_law_atom" DB)
  (D6:FN K "_law_head" Dy)
  (vK:FN K "_law_question" vd)
  (Gh:FN K "_law_led" FO)
  (vJ:FN K "_law_unknowns" vc)
  (Bv:FN K "_law_bound" AB)
  (zf:FN K "_law_tables" yJ)
  (qT:FN K "_law_all_answers" qz)
  (oV:FN K "_law_view_question" oS)
  (Bu:FN K "_law_views" AA)
  (Pe:FN K "law" NS)
  (cA0:nsIn K mainGlobals "Asking"=some (some (.ref C0)))
  (UP:plainGet K C0 Str.empty=true)
  (UT:hasDictIn K C0=true)
  (UO:PySem.W.plainOver K C0=true)
  (UN:findIn K (.ref C0) "__setattr__"=some (some (.builtin "object.__setattr__")))
  (UR:PySem.W.makesIn K C0=true)
  (US:keepIn K (.ref C0)=true)
  (Bp:findIn K (.ref C0) "tables"=some none)
  (Ge:findIn K (.ref C0) "kept"=some none)
  (Gd:findIn K (.ref C0) "maps"=some none)
  (DW:findIn K (.ref C0) "tails"=some none)
  (vI:MN K C0 "__init__" "Asking.__init__" u9)
  (rX:MN K C0 "best_place" "Asking.best_place" rJ)
  (D5:MN K C0 "take" "Asking.take" Du)
  (nK:MN K C0 "fresh_unknowns" "Asking.fresh_unknowns" nr)
  (oU:MN K C0 "tails_of_maps" "Asking.tails_of_maps" oR)
  (z0:nsIn K mainGlobals "len"=some none)
  (z1:nsIn K mainGlobals "range"=some none)
  (z2:nsIn K mainGlobals "tuple"=some none)
  (z3:nsIn K mainGlobals "list"=some none)
  (z4:nsIn K mainGlobals "isinstance"=some none)
  (z5:nsIn K mainGlobals "all"=some none)
  (z6:nsIn K mainGlobals "str"=some none)
  (z7:nsIn K mainGlobals "bool"=some none)
  (z8:nsIn K mainGlobals "int"=some none)
  (z9:nsIn K mainGlobals "dict"=some none)
  (Zb:nsIn K mainGlobals "enumerate"=some none)
  (Za:nsIn K mainGlobals "zip"=some none)
  (Y9:nsIn K mainGlobals "sum"=some none)
  (Y8:nsIn K mainGlobals "sorted"=some none)
  (Y7:nsIn K mainGlobals "set"=some none)
  (mc0:nsIn K mainGlobals "SIGNS"=some (some (.str "abcdefghijklmnopqrstuvwxyz0123456789" t0)))
  (mc1:nsIn K mainGlobals "MOST_SIGNS"=some (some (.int 8 t1)))
  :∃fd:FuncData,(∀(s:Shared)(v:Value),BindsTo s fd {[v],[]} [("_law_script",v)])/\∀base:Heap,K.In base->base.Ns mainGlobals mg->dk l.prog w K mg base fU 10 fa fd ["_law_script"] (HP K):=by
 obtain⟨f,fd,a,F⟩:=Pe;have e:=hfa.symm.trans (pK X G a);cases e;have T:Txt K mg:={cK X G z0,cK X G z1,cK X G z2,cK X G z3,cK X G z4,cK X G z5,cK X G z6,cK X G z7,cK X G z8,cK X G z9,cK X G Zb,cK X G Za,cK X G Y9,cK X G Y8,cK X G Y7,{_,pK X G mc0},{_,pK X G mc1}};refine{fd,?_,λbase _ _=>?_}
 ·obtain⟨_,_,_,_,_,_,_,_,_,rfl,_,_⟩:=F.ex
  exactλs v=>.of_eq rfl
 have Fw:=d1 l.prog w base X G zg λ_ _ F=>Lk F T;have KI:=d1 l.prog w base X G vL λ_ _ F=>HJ F T ⟨Fw⟩;have HM:=d1 l.prog w base X G tQ λ_ _ F=>FX F T {⟨Fw⟩,KI};have Ht:=d2 l.prog w base X G Bs λ_ _ F=>Ob F T;have Dd:=d1 l.prog w base X G xf λ_ _ F=>JC F T;have Nm:=d3 l.prog w base X G Gi λ_ _ F=>TB F T;have O7:=d2 l.prog w base X G zi λ_ _ F=>Ll F T;have F9:=d4 l.prog w base X G rV λ_ _ F=>EK F T ⟨O7⟩;have Fu:=d3 l.prog w base X G ze λ_ _ F=>Lj F T ⟨Dd,Nm⟩;have Ga:=d2 l.prog w base X G rW λ_ _ F=>EL F T;have O:Ee K C0:={⟨UP,UT,UO,UN⟩,Bp,Ge,Gd,DW};have iR:=m2 l.prog w base mg nK λ_ _ F=>TF F T O ⟨HM⟩;have jo:=m2 l.prog w base mg oU λ_ _ F=>Tx F T O {⟨Dd,Nm⟩,iR,Ht,F9};have vp:=m2 l.prog w base mg rX λ_ _ F=>Yb F T O ⟨jo⟩;have JT:=m3 l.prog w base mg D5 λ_ _ F=>X6 F T O ⟨iR,jo,Fu⟩;obtain⟨fi,fdi,ai,ii,Fi⟩:=vI;have k_A:K4 l.prog w K mg base C0 1 "Asking" ["self","tables"] (IE l.prog w K C0):={_,_,⟨UR,ai,ii,US⟩,Tz Fi T O,pK X G cA0,bd2 Fi rfl};have Lu:=d2 l.prog w base X G xg λ_ _ F=>JE F T O ⟨k_A,vp,JT,Ga,Fu⟩;have RY:=d2 l.prog w base X G Bw λ_ _ F=>Oc F T ⟨Lu⟩;have Ft:=d1 l.prog w base X G qS λ_ _ F=>DF F T ⟨Ht⟩;have abz:=d2 l.prog w base X G KW λ_ _ F=>X7 F T ⟨RY,Ft⟩;have UK:=d2 l.prog w base X G D7 λ_ _ F=>X8 F T;have pS:=d2 l.prog w base X G D8 λ_ _ F=>X9 F T;have Bn:=d2 l.prog w base X G Bt λ_ _ F=>Tv F T ⟨pS⟩;have UL:=d4 l.prog w base X G D9 λ_ _ F=>TJ F T ⟨pS⟩;have UJ:=d2 l.prog w base X G D6 λ_ _ F=>TC F T ⟨pS⟩;have KH:=d3 l.prog w base X G vK λ_ _ F=>JB F T {⟨pS⟩,Bn,UL,UJ};have KG:=d1 l.prog w base X G vJ λ_ _ F=>JA F T;have Ck:=d3 l.prog w base X G oV λ_ _ F=>Tw F T ⟨pS,KH,KG⟩;have RV:=d3 l.prog w base X G Bu λ_ _ F=>Qq F T ⟨Bn,Ck⟩;have O6:=d2 l.prog w base X G zf λ_ _ F=>Qr F T ⟨pS⟩;have YN:=d2 l.prog w base X G Gh λ_ _ F=>aas F T;have RW:=d3 l.prog w base X G Bv λ_ _ F=>TH F T;have Fv:=d2 l.prog w base X G qT λ_ _ F=>Yc F T ⟨RW,YN⟩;exact aat F T ⟨UK,pS,Bn,RV,O6,Fv,abz⟩
def walk{l:PySem.W.OpenLaw}{K:Params->Frag}(hn:l.most=some 63)(Ru:d.params.defaults=[])
  (hY:∀(w:World)(h:Heap),YP w h->(K w.params).In h)
  (F:∀(w:World)(mg:Aad)(fa:Addr)(h:Heap),(K w.params).In h->h.Ns mainGlobals mg->mg d.name=some (.ref fa)->
   ∃fd:FuncData,(∀(s:Shared)(u:Value),BindsTo s fd {[u],[]} [("_law_script",u)])/\∀base:Heap,(K w.params).In base->base.Ns mainGlobals mg->dk l.prog w (K w.params) mg base fU 10 fa fd ["_law_script"] (HP (K w.params))):
  PySem.W.WalkO q loose XP YP l.row.toRowW d [] (λf vs=>PySem.call f vs):=
 L2.Xk (n:=63) (k:=10) (x:="_law_script") (CX:=λ_=>fU) (sp:=λw=>HP (K w.params)) hn (-8) Ru {rfl,by decide,by decide} hY F (λ_ H a ns hl hO hS=>{a,ns,rfl,ZR hO hS,hl,λ_=>rfl}) λ_ _ _ _ _ z=>z
end kr
open PySem PySem.W PyProof.Rows
set_option maxHeartbeats 0 in
theorem PySem.Challenge.cw_askviews_k41_what_views_see_holds : PySem.Challenge.rw_askviews_k41_what_views_see.Holds := by
 w_on;refine holds_law (by rw[PySem.W.Fast.te9446332074065402090];kernel_rfl) λaeH=>?_
 refine holds_open (q:=kr.qf PySem.Challenge.pw_askviews_k41_what_views_see) (loose:=[]) (Xt:=kr.XF PySem.Challenge.pw_askviews_k41_what_views_see) (XP:=XL (kr.qf PySem.Challenge.pw_askviews_k41_what_views_see) []) (Yf:=Hook.obs kr.HF) (Ya:=Hook.val kr.HF) (YP:=Hook.says kr.HF) (N:=2606) kr.head (Hook.of kr.HF) (Hook.keeps kr.HF)
  (λs e=>xl_of s (q9.mp e).1) XL.keeps (by rfl) (by rfl) (by rfl) (λs e=>recFacts_of (q9.mp e).2) (by rfl) (by first|assumption|decide+kernel) (-3) {rfl,rfl,rfl,rfl,rfl,by decide+kernel} ?hw ?hc
 case hw=>w_witness2
 case hc=>
 unfold kr.HF
 k_fill
 refine kr.walk (l:=PySem.Challenge.rw_askviews_k41_what_views_see) rfl rfl (λw h Y=>PySem.W.kIn_of Y) ?F
 case F=>
  intro w mg fa h KX G Rf
  refine' kr.all_mk KX G Rf ?zg ?vL ?tQ ?Bs ?qS ?Bw ?xg ?rW ?ze ?xf ?Gi ?zi ?rV ?KW ?D7 ?D8 ?Bt ?D9 ?D6 ?vK ?Gh ?vJ ?Bv ?zf ?qT ?oV ?Bu ?Pe ?cA0 ?UP ?UT ?UO ?UN ?UR ?US ?Bp ?Ge ?Gd ?DW ?vI ?rX ?D5 ?nK ?oU ?z0 ?z1 ?z2 ?z3 ?z4 ?z5 ?z6 ?z7 ?z8 ?z9 ?Zb ?Za ?Y9 ?Y8 ?Y7 ?mc0 ?mc1
  case zg|vL|tQ|Bs|qS|Bw|xg|rW|ze|xf|Gi|zi|rV|KW|D7|D8|Bt|D9|D6|vK|Gh|vJ|Bv|zf|qT|oV|Bu|Pe=>refine' kr.acG ?a ?l ?c ?k;case a|l|c|k=>k_is
  case cA0|UP|UT|UO|UN|UR|US|Bp|Ge|Gd|DW=>k_is
  case vI|rX|D5|nK|oU=>refine' kr.ack ?a ?i ?l ?c ?k;case a|i|l|c|k=>k_is
  case z0|z1|z2|z3|z4|z5|z6|z7|z8|z9|Zb|Za|Y9|Y8|Y7|mc0|mc1=>k_is
