import PyProof.Rows.All
import Wide.All
import OpenK.AllK
import PySem.Challenge.RW_askviews_k41_what_views_see
set_option Elab.async false
set_option linter.all false
set_option bootstrap.genMatcherCode false
set_option maxRecDepth 100000
set_option maxHeartbeats 4000000
local macro_rules|`({$xs:term,*})=>`(⟨$xs,*⟩)
local macro_rules|`(∅)=>`((by lia))
set_option hygiene false
local macro_rules|`(-3)=>`((by decide+kernel))
local macro_rules|`(-4)=>`(λdm A outer s H vs Q E hr h=>?_)
local macro_rules|`(-5)=>`(model prog w)
local macro_rules|`(-6)=>`(model X.prog X.w)
local macro_rules|`(-7)=>`(d8 X (x::more++fs) scope g3.objs.size {s2 with heap:=g3} H2 (s2.heap.objs.size::fp))
local macro_rules|`(-8)=>`((by decide))
local macro_rules|`(-9)=>`((by simp))
local macro_rules|`(-10)=>`(λ(p:NK×Addr×V)(q:NK×Addr×Value)=>p.1=q.1/\p.2.1=q.2.1/\RelV p.2.2 q.2.2)
local macro_rules|`(-11)=>`(arrOf st)
local macro_rules|`(-12)=>`(.ref s.heap.objs.size)
local macro_rules|`(-13)=>`((xs.map (ent knd)).toArray)
local macro_rules|`(-14)=>`(tupleKeyHash knd k)
local macro_rules|`(-15)=>`(λ_ _=>rfl)
local macro_rules|`(-16)=>`(λt=>hc (by simp[gQ,t]))
local macro_rules|`(-17)=>`(s.heap.objs.size+1)
local macro_rules|`(-18)=>`((by show 0<=sizeLine;decide))
local macro_rules|`(-19)=>`(((dH items.size 0 lo:Nat):Int)==0&&(1:Int)==1&&(dH items.size items.size hi -dH items.size 0 lo)==items.size)
local macro_rules|`(-20)=>`(d8 X (x::more++fs) scope C s H ex)
local macro_rules|`(-21)=>`(lp mask h n)
local macro_rules|`(-22)=>`(cl D.fA hr (dR (pv 0) bh))
local macro_rules|`(-23)=>`(fnOf x q (defArgs st) (defBody st) (defScope st) .none kV doc pm an dm ct)
local macro_rules|`(-24)=>`(ts.filter λx=>!decide (x.nm=e.nm))
local macro_rules|`(-25)=>`(fu "maps" (.ref md) [("tables",.ref tb),("kept",.ref kl)])
local macro_rules|`(-26)=>`(.ListComp elt [{tg,iter,ifs,0}] scope pos)
local macro_rules|`(-27)=>`((by rw[ak];exact bC ∅))
local macro_rules|`(-28)=>`(dZ (wpAny_callSpecial?_slot (name:=Str.ofString "__next__") hT eU (bz eU hT mW ?_ (oE _))))
local macro_rules|`(-29)=>`(model P w)
local macro_rules|`(-30)=>`(ps t.mask h D)
local macro_rules|`(-31)=>`(seqObj "list" acc.toList.toArray 0)
local macro_rules|`(-32)=>`(x==("__debug__":Str))
local macro_rules|`(-33)=>`(xs.map λx=>tupleKeyHash knd x.1)
local macro_rules|`(-34)=>`(s.heap.push {cls:=.type "tuple",data:=.seq (ps.map λ(i:Nat)=>rawInt i).toArray})
local macro_rules|`(-35)=>`((by show 2<=sizeLine;decide))
local macro_rules|`(-36)=>`(backTo pos (starEach es X.env))
local macro_rules|`(-37)=>`(d8 X (x::fs) scope C s H ex)
local macro_rules|`(-38)=>`(.lst ys)
local macro_rules|`(-39)=>`((known.map (AskP.atT r ts)).map V.str)
local macro_rules|`(-40)=>`(.ins C dx (fu "kept" (.ref rm) [("tables",.ref tb),("kept",.ref kl),("maps",.ref md),("tails",.ref td)]))
local macro_rules|`(-41)=>`(.ins C dx (fu "maps" (.ref zN) [("tables",.ref tb),("kept",.ref rm),("maps",.ref md),("tails",.ref td)]))
local macro_rules|`(-42)=>`(.dK (putK kvs (Sum.inr z) (.ref rl)))
local macro_rules|`(-43)=>`(kept++hG kept a.2)
local macro_rules|`(-44)=>`((items.toList.drop (dH items.size 0 lo)).take (dH items.size items.size hi -dH items.size 0 lo))
local macro_rules|`(-45)=>`(.lst (kr (mP.map V.str) none (some (1+(m:Int)))))
local macro_rules|`(-46)=>`(qC {aD (qW z _ _) hz,λt' k=>{.str _,H,I.tok k,⟨_,rfl⟩,q}})
local macro_rules|`(-47)=>`(Obj.mapSeq λ_=>(#[]:Aal))
local macro_rules|`(-48)=>`(jV kept a.2)
local macro_rules|`(-49)=>`(upd H5 md (.ext (DN P w md [(fR [],e,.int 1)])))
local macro_rules|`(-50)=>`(Builtin.«zip.__next__» {[.ref z],[]})
local macro_rules|`(-51)=>`(.ref a)
local macro_rules|`(-52)=>`(λr s'=>r=.ok (.ret (.bool true))/\OldK aaa.heap s'.heap/\s'.os=aaa.os/\AllBare s'.gens)
local macro_rules|`(-53)=>`(NK×Addr×V)
local macro_rules|`(-54)=>`(iO [] ((a.2.map (Sum.inr:Str->Key)).zip (a.2.map V.str)))
local macro_rules|`(-55)=>`(qw (ha pos pins s Z H _ I h) λus s1 vs H1 I1 r1 q1=>?_)
local macro_rules|`(-56)=>`(kvs.any λkv=>decide (kv.1=k))
local macro_rules|`(-57)=>`(λ(p:V×V)(e:DictEntry)=>RelV p.1 e.key/\RelV p.2 e.val)
local macro_rules|`(-58)=>`((by with_unfolding_all rfl))
local macro_rules|`(-59)=>`(s.heap.push {cls:=.type "range",data:=.fields #[.int lo t,.int hi u,.int 1 v]})
local macro_rules|`(-60)=>`(Obj.putSet ((jc xs p (k,b)).map (ent knd)).toArray t2)
local macro_rules|`(-61)=>`(λc=>?_)
local macro_rules|`(-62)=>`(fu "kept" (.ref kl) [("tables",.ref tb)])
local macro_rules|`(-63)=>`(λ(u:Value)(p:Key×Value)=>(bH prog w).is p.1 u=true)
local macro_rules|`(-64)=>`(fnOf x qual (defArgs st) (defBody st) (defScope st) .none kV doc pm an dm ct)
local macro_rules|`(-65)=>`(.Call (.Name x p) (e::es) [] pos)
local macro_rules|`(-66)=>`(envOfC qual scope s.heap.objs.size f cd)
local macro_rules|`(-67)=>`(ns.map V.int)
local macro_rules|`(-68)=>`(.lst [.int 2,.int 1,.int 3])
local macro_rules|`(-69)=>`(.dK (gs.map dt))
local macro_rules|`(-70)=>`(A.under (.builtin "type.__call__" {.ref C::us,kw}))
local macro_rules|`(-71)=>`(I.br.fresh (ar _))
local macro_rules|`(-72)=>`(Value.ref d==Value.none)
local macro_rules|`(-73)=>`(λz=>hc (by simp[z]))
local macro_rules|`(-74)=>`(.lst ((ws.take many.toNat).map V.str))
noncomputable section
open PySem.W (Frag findIn nsIn fnOf emptyDict keepIn instObj plainGet kitOne codeIn hasDictIn isFn lookIn)
abbrev Aaa:=List (PySem.Str×List PySem.Str)
abbrev Aab:=List (List PySem.Str)
abbrev Aac:=List (PySem.Addr×PySem.Obj)
abbrev Aad:=PySem.Str->Option PySem.Value
abbrev Aae:=PySem.Value->PySem.Shared->Prop
abbrev Aag:=List PySem.Value
abbrev Aah:=List PySem.Str
abbrev Aaj:=List PySem.Addr
abbrev Aak:=Option PySem.Addr
abbrev Aal:=Array PySem.Value
section
open PySem
def af:=@wpAny_bind
def ak:=@List.length_map
def ao:=@wpAny_pure
def aq:=@PySem.Heap.get?_push_of_some
def ar:=@Nat.le_refl
def au:=@List.getElem?_eq_getElem
def ax:=@List.getElem?_eq_some_iff
def ay:=@List.mem_singleton
def az:=@if_neg
def aA:=@List.mem_cons_self
def aB:=@List.mem_cons_of_mem
def aC:=@if_pos
def aD:=@Nat.le_trans
def aF:=@PySem.Heap.get?_push_size
def aG:=@List.mem_cons
def aH:=@List.mem_of_getElem?
def aI:=@PySem.Heap.lt_size
def aJ:=@List.map_append
def aK:=@List.getElem?_map
def aL:=@Nat.ne_of_lt
def aO:=@List.length_append
def aP:=@Nat.zero_le
def aQ:=@List.size_toArray
def aR:=@List.mem_map
def aS:=@Array.length_toList
def aT:=@List.length_take
def aU:=@List.map_cons
def aV:=@List.take_length
def aW:=@Bool.false_ne_true
def aX:=@Option.map_eq_some_iff
def aZ:=@Nat.lt_of_lt_of_le
def bf:=@List.mem_append
def bg:=@List.take_add_one
def bj:=@of_decide_eq_true
def bp:=@decide_eq_true
def bu:=@Nat.le_of_lt
def bw:=@PySem.Paired.length
def bx:=@List.length_cons
def bz:=@wpAny_call_entry
def bA:=@Nat.ne_of_gt
def bB:=@Bool.and_eq_true
def bD:=@Array.getElem?_eq_getElem
def bI:=@Array.getElem?_toList
def bK:=@Option.some.inj
def bN:=@PySem.Heap.get?_update_other
def bO:=@wpAny_field
def bP:=@wpAny_holding
def bQ:=@decide_eq_false
def bS:=@PySem.PassesOwn.never
def bT:=@PySem.Heap.SameBut.update
def bU:=@congrArg
def bV:=@List.mem_filter
def bW:=@List.map_map
def bX:=@List.map_congr_left
def bY:=@wpAny_seqItems
def bZ:=@List.all_eq_true
def b6:=@List.append_nil
def b8:=@sizeLine_eq
def b9:=@PySem.F.slot_dict_itemiterator_next
def cb:=@Ne.symm
def cc:=@List.mem_append_right
def cj:=@List.length_filter_le
def cq:=@List.getD_eq_getElem?_getD
def cu:=@wpAny_setField_rec
def cw:=@Bool.false_eq_true
def cx:=@wpAny_newObj_type
def cy:=@List.mem_map_of_mem
def cB:=@PySem.Heap.size_push
def cH:=@PySem.Heap.get?_update_self
def cI:=@congrFun
def cK:=@PySem.W.mg_none_of
def cL:=@Option.toList_some
def cR:=@List.append_assoc
def cV:=@List.idxOf_lt_length_of_mem
def cX:=@List.nodup_cons
def cY:=@List.mem_range
def cZ:=@Int.toNat_natCast
def c6:=@Array.getElem_mem
def c8:=@List.take_append_drop
def dc:=@wpAny_mono
def de:=@PySem.F.plainAttrs_list
def dj:=@boot_len
def dv:=@codeAny_builtin
def dy:=@List.mem_iff_getElem?
def dA:=@List.length_singleton
def dB:=@beq_eq_false_iff_ne
def dC:=@Nat.lt_succ_self
def dD:=@Nat.lt_irrefl
def dE:=@List.getElem?_append_right
def dO:=@List.getElem?_append_left
def dU:=@List.take_of_length_le
def dW:=@List.find?_cons_of_pos
def dX:=@List.find?_cons_of_neg
def dZ:=@wpAny_attempt
def d5:=@List.length_nil
def d6:=@if_false
def d7:=@Nat.le_add_right
def d9:=@PyProof.Rows.callWith_type1
def eA:=@Nat.lt_succ_of_lt
def eB:=@List.nodup_append
def eC:=@PyProof.Rows.slot_tuple_getitem
def eI:=@Option.map_some
def eJ:=@Nat.lt_of_le_of_lt
def eK:=@List.find?_cons
def eM:=@PySem.F.slot_zip_next
def eO:=@List.drop_eq_getElem_cons
def eT:=@PySem.F.slot_dict_keyiterator_next
def eY:=@PySem.W.kia_one
def fb:=@List.filter_append
def ff:=@List.length_eq_zero_iff
def fo:=@List.mem_iff_getElem
def fB:=@forall_congr'
def fE:=@Nat.lt_trans
def fG:=@wpAny_setField
def fH:=@Nat.le_succ
def fI:=@List.nodup_nil
def fL:=@Bool.eq_false_iff
def fN:=@List.filterMap_cons
def fP:=@wpAny_rule
def fS:=@List.pairwise_iff_getElem
def fT:=@List.foldl_cons
def fV:=@Bool.eq_iff_iff
def fW:=@PySem.F.args_dict_itemiterator_next_1
def fY:=@builtinLookup_eq_fast
def fZ:=@wpAny_typeOf
def f6:=@wpAny_isInstance
def f9:=@PySem.F.type_list_append
def gc:=@PySem.F.slot_list_append
def gf:=@PySem.F.entry_dict_itemiterator_next
def gg:=@PyProof.Rows.F.plain_set_update_loop
def gh:=@List.getElem_mem
def gj:=@List.filter_cons
def gk:=@PySem.Calls.spliced_cons
def gw:=@Nat.pow_le_pow_right
def gx:=@List.mem_of_mem_take
def gz:=@List.mem_append_left
def gA:=@PySem.Around.under_plainId
def gF:=@wpAny_dictEntries
def gG:=@List.length_range
def gL:=@Nat.min_eq_left
def gN:=@plainId_quiet
def gO:=@Bool.true_and
def gP:=@Array.getElem?_eq_some_iff
def gY:=@List.length_drop
def hJ:=@List.length_replicate
def hU:=@List.getElem?_eq_none
def hW:=@PySem.F.plain_extend_loop
def hX:=@List.rel_of_pairwise_cons
def ij:=@wpAny_typeNameOfWhole_itemiter
def ik:=@wpAny_specialOf
def iA:=@Nat.not_lt_zero
def iB:=@PySem.Heap.get?_none_of_le
def iD:=@wpAny_truthy_bool
def iG:=@decide_eq_true_eq
def iH:=@LawfulBEq.eq_of_beq
def iI:=@Bool.not_true
def iJ:=@wpAny_typeNameOfWhole_keyiter
def iM:=@PySem.F.plainAttrs_dict
def iP:=@wpAny_fieldsOf
def iX:=@PySem.Calls.callWith_builtin
def jf:=@decide_eq_true_iff
def ji:=@List.map_nil
def jj:=@PySem.Code.quiet_builtin
def jk:=@wpAny_updateSeq
def jl:=@wpAny_passesOwn
def jm:=@wpAny_notOrdered_dict
def jn:=@typeLookup_type
def jt:=@PySem.F.slot_dict_get
def ju:=@List.perm_append_comm
def jz:=@PySem.F.slot_NoneType_hash
def jB:=@PySem.F.slot_tuple_iterator_next
def jG:=@bne_self_eq_false
def jH:=@Option.isSome_map
def jJ:=@PySem.F.args_zip_next_1
def jK:=@lookup_relabel_local
def jM:=@List.pairwise_append
def jN:=@List.mem_of_find?_eq_some
def jO:=@PySem.Calls.call_function_entry
def jR:=@isSubtype_stop
def jS:=@wpAny_forIn_list
def jY:=@Option.isSome_iff_exists
def jZ:=@Nat.pow_succ
def j3:=@Nat.le_of_not_lt
def j4:=@Nat.add_zero
def j6:=@List.mem_reverse
def j7:=@List.mem_flatMap
def j8:=@List.any_eq_true
def j9:=@PySem.F.entry_zip_next
def kj:=@mem_of_lookup
def ko:=@wpAny_getItem_str_slice
def kA:=@List.pairwise_singleton
def kE:=@Nat.mul_assoc
def kF:=@wpAny_dictEpoch
def kJ:=@List.pairwise_cons
def kK:=@List.nil_append
def kL:=@List.mem_filterMap
def kM:=@List.map_singleton
def kN:=@List.getElem_idxOf
def kP:=@Int.emod_lt_of_pos
def kQ:=@PySem.Paired.snoc
def kS:=@Array.getElem?_eq_none
def kT:=@wpAny_pyIter_list
def kX:=@Nat.lt_trichotomy
def kZ:=@List.pairwise_map
def k7:=@PySem.F.slot_tuple_hash
def k8:=@PySem.Calls.spliced_nil
def k9:=@Array.toList_push
def lq:=@wpAny_newTuple
def lD:=@if_true
def lF:=@codeAny_mono
def lJ:=@List.pairwise_reverse
def lK:=@Bool.false_and
def lN:=@wpAny_pyIter_zip
def lO:=@PyProof.Rows.vals1
def lV:=@Nat.succ_le_succ
def lW:=@Nat.mod_lt
def lX:=@List.cons_append
def lZ:=@PySem.Calls.evalArgs_plain
def l9:=@Array.mem_toList_iff
def mf:=@Array.getElem_toList
def mh:=@wpAny_onRaise
def mD:=@List.length_eraseIdx_of_lt
def mE:=@List.any_cons
def mG:=@wpAny_letGo
def mL:=@Std.Legacy.Range.forIn_eq_forIn_range'
def mM:=@List.map_eq_nil_iff
def mN:=@List.filter_sublist
def mO:=@wpAny_ite_split
def mX:=@List.forIn_cons
def mY:=@Int.emod_nonneg
def mZ:=@Classical.byContradiction
def m6:=@wpAny_Call_Name_kw
def m9:=@tupleKind_room_in1
def ng:=@sub_AttributeError
def nO:=@PySem.F.type_tuple_index
def nP:=@PySem.F.type_list_extend
def nQ:=@PySem.F.slot_tuple_index
def nR:=@PySem.F.slot_list_extend
def nU:=@PySem.F.plainAttrs_tuple
def nV:=@PySem.F.args_tuple_add_2
def nW:=@PySem.F.args_dict_keyiterator_next_1
def nX:=@PyProof.Rows.F.entry_set_update_loop
def nY:=@PySem.Obj.data_mapFields
def og:=@List.getElem?_take_of_lt
def oh:=@Array.forIn_toList
def oj:=@typeIs_str
def oH:=@PySem.F.entry_dict_keyiterator_next
def oN:=@PySem.F.entry_tuple_add
def oO:=@PySem.F.args_dict_get_3
def oP:=@List.getElem?_cons_succ
def oR:=@wpAny_pyIter_slot
def oY:=@Nat.lt_of_succ_lt
def oZ:=@List.take_sublist
def o6:=@List.foldl_append
def o7:=@List.flatMap_cons
def o8:=@wpAny_isOneOf_itemiter
def pA:=@PySem.F.slot_tuple_add
def pB:=@PySem.F.entry_dict_get
def pD:=@Nat.mul_add
def pM:=@PySem.W.mg_of
def pN:=@Nat.add_assoc
def pQ:=@merged_length_le
def pT:=@List.zipIdx_cons
def pU:=@List.isEmpty_nil
def qp:=@List.Perm.append_left
def qq:=@List.eraseIdx_eq_take_drop_succ
def qr:=@wpAny_pyIter_keyiter
def qt:=@wpAny_execs_nil
def qC:=@post_val_or_str
def qQ:=@codeAny_call_builtin
def qR:=@call_meetsIn
def qS:=@beq_iff_eq
def qV:=@and_congr_right
def qW:=@PySem.Txt.slice_le
def qY:=@Nat.succ_pos
def q9:=@List.length_zip
def rf:=@Bool.and_eq_true_iff
def rg:=@Array.toList_extract
def rh:=@wpAny_dictSet_pairs
def rD:=@PySem.W.plainGet_of
def rE:=@PySem.F.plain_extend_loop
def rF:=@Array.toList_append
def rZ:=@PySem.F.slot_dict_setdefault
def sd:=@PySem.F.slot_dict_items_iter
def se:=@List.dropLast_concat_getLast
def sf:=@PySem.F.args_tuple_iterator_next_1
def si:=@Bool.and_false
def sH:=@wpAny_pyIter_tuple
def sZ:=@PyProof.Rows.assignInOrder_cons
def tF:=@PySem.W.callWith_K
def tG:=@List.find?_eq_none
def tH:=@List.filterMap_map
def tJ:=@PySem.F.entry_tuple_iterator_next
def tK:=@wpAny_standAt
def tL:=@wpAny_newList
def tP:=@PyProof.Rows.listUpdate_at
def tV:=@List.take_subset_take_left
def tW:=@List.perm_ext_iff_of_nodup
def tX:=@List.map_take
def tY:=@PySem.Calls.Name_function_global
def tZ:=@Array.perm_iff_toList_perm
def t4:=@wpAny_setState_of
def t6:=@wpAny_Call_method
def uj:=@Nat.mul_left_comm
def uk:=@List.reverse_perm
def uo:=@List.ext_getElem?
def uq:=@List.drop_sublist
def uu:=@Function.comp_def
def uv:=@Decidable.not_not
def ux:=@wpAny_letOwnedTupleGo_zip
def uJ:=@call_meets
def uM:=@PySem.F.entry_extend_loop
def uX:=@wpAny_askSetting
def vh:=@noFill_tuple_add
def vm:=@merged_take_succ
def vN:=@PySem.F.slot_dict_update
def vO:=@Nat.zero_add
def vP:=@Nat.sub_self
def vQ:=@List.lookup_cons
def vR:=@List.getElem_zip
def vS:=@List.getElem_map
def vT:=@Int.zero_add
def vV:=@Array.toList_inj
def vW:=@Array.getElem?_replicate
def vX:=@meetsH_dict_get_default
def vY:=@decide_eq_false_iff_not
def vZ:=@PySem.F.slot_dict_items
def v3:=@Nat.add_sub_cancel_left
def v5:=@List.pairwise_mergeSort
def v7:=@List.lookup_eq_some_iff
def v8:=@List.getElem?_replicate
def v9:=@List.filter_cons_of_neg
def wa:=@List.Pairwise.filterMap
def wg:=@size_of_entries
def wJ:=@List.of_mem_zip
def wK:=@PySem.Heap.DictOf.new
def wM:=@wpAny_pyNext_list_item
def wN:=@wpAny_Assign_Subscript
def wR:=@PyProof.Rows.subscriptTail_builtinR
def wV:=@PyProof.Rows.seqEpoch_at
def xh:=@PySem.W.cellsFrom_some
def xi:=@PySem.F.slot_dict_iter
def xj:=@Option.map_eq_none_iff
def xk:=@Nat.mod_mul
def xl:=@List.range_succ_eq_map
def xm:=@List.pairwise_lt_range
def xn:=@List.not_of_lt_findIdx
def xo:=@List.getElem?_set_self
def xp:=@List.drop_of_length_le
def xq:=@List.drop_eq_nil_of_le
def xr:=@List.Perm.append_right
def xu:=@wpAny_tryCatch
def xv:=@wpAny_pyNext_list_end
def xw:=@wpAny_isTrue_Compare1
def xx:=@wpAny_isOneOf_keyiter
def xy:=@wpAny_eqIsQuiet_tuple
def xU:=@isSubtype_type
def yf:=@entryFor_alias
def yi:=@callType_codes
def yn:=@PySem.F.type_dict_get
def yo:=@PySem.F.plain_set_new
def yq:=@PySem.Obj.isFreed_of_fields
def yt:=@List.take_zero
def yu:=@List.forIn_nil
def yz:=@wpAny_raiseAttrError
def zo:=@PySem.Obj.data_mapDictKeys
def zu:=@List.mem_of_mem_drop
def zv:=@List.getElem?_set_ne
def zy:=@PySem.F.kt_typeCall_dict_1
def zA:=@PySem.F.args_object_init_3
def zB:=@PySem.F.args_list_extend_2
def zC:=@PySem.F.args_list_append_2
def zE:=@Array.toList_reverse
def zI:=@seq_tuple_add
def Ab:=@List.all_cons
def Ac:=@Bool.or_false
def Af:=@PyProof.Rows.entry_tuple_getitem
def Ag:=@PySem.W.kdu_collect
def Ah:=@List.replicate_succ
def Ai:=@List.mergeSort_perm
def Aj:=@List.flatMap_append
def Ak:=@PySem.F.entry_list_extend
def Al:=@PySem.F.entry_list_append
def Ap:=@wpAny_setItem_heap
def Aq:=@wpAny_getItem_heap
def Aw:=@seqIndex_neg
def AI:=@putSet_of
def AK:=@PyProof.Rows.plain_sorted
def AQ:=@of_decide_eq_false
def Bl:=@PyProof.Rows.entry_sorted
def Bo:=@concat_meets
def Bz:=@PyProof.Rows.args_tuple_getitem
def BA:=@PyProof.Rows.args_sorted1
def BC:=@PySem.SeqAt.EqAt.str_int
def BD:=@PySem.SeqAt.EqAt.int_str
def BE:=@PySem.F.called_set
def BF:=@Nat.sub_zero
def BG:=@Nat.mul_comm
def BH:=@Nat.le_of_eq
def BI:=@List.getElem?_drop
def BJ:=@List.countP_append
def BK:=@List.all_map
def BL:=@PyProof.Rows.IsTup.new
def BM:=@PySem.F.slot_list_extend
def BN:=@PySem.F.slot_list_append
def BO:=@PySem.F.args_dict_init_2
def BQ:=@Array.size_extract
def Ca:=@Iff.rfl
def Cb:=@wpAny_storeSet_of
def Cc:=@wpAny_sequenceKey
def Cd:=@wpAny_pyIter_enum
def Ce:=@wpAny_assign_Name
def Ci:=@eqIsQuiet_byValue
def Ck:=@PyProof.Rows.assignInOrder_nil
def Cn:=@PySem.StrLaws.subAt_one
def Co:=@list_append
def Cp:=@PySem.W.kitx_list
def Cq:=@PySem.W.kitx_dict
def Cr:=@PySem.Obj.cls_mapFields
def Cs:=@List.filter_congr
def Cu:=@PySem.Heap.SameBut.refl
def Cv:=@PySem.F.plain_list_iadd
def Cw:=@PySem.F.entry_dict_init
def Cy:=@Bool.not_eq_true'
def Cz:=@wpAny_of_eq
def CA:=@wpAny_mkInt
def CI:=@seqIndex_of
def CV:=@PyProof.Rows.kind_sorted
def Dg:=@Nat.add_mul
def Eb:=@Prod.ext
def Eh:=@wpAny_load
def Ei:=@wpAny_call
def Ej:=@wpAny_Name
def Fz:=@PyProof.Rows.Subscript_
def FD:=@Nat.not_lt
def FF:=@PyProof.Rows.Call_
def Gk:=@BEq.rfl
end
namespace L2
open PySem PySem.Spec PyProof.Rows
abbrev Key:=Sum Int Str
def yV:Key->Value->Bool
 | .inl k,v=>Value.isInt k v
 | .inr x,v=>Value.isStrOf x v
def adz(w:World):Key->Int
 | .inl k=>hashInt k
 | .inr x=>hashStr w x
theorem ig:∀{k:Key}{v:Value},yV k v=true->(∃i t,k=Sum.inl i/\v=Value.int i t)\/(∃x t,k=Sum.inr x/\v=Value.str x t)
 | .inl i,v,h=>by obtain⟨t,e⟩:=Value.isInt_shape h;exact .inl ⟨i,t,rfl,e⟩
 | .inr x,v,h=>by obtain⟨t,e⟩:=Value.isStrOf_shape h;exact .inr ⟨x,t,rfl,e⟩
def QX(i:Int)(t:Tok):yV (.inl i) (.int i t)=true:=by simp[yV,Value.isInt]
def QV(x:Str)(t:Tok):yV (.inr x) (.str x t)=true:=by simp[yV,Value.isStrOf]
def aaL(a b:Int):decide ((Sum.inl a:Key)=Sum.inl b)=(a==b):=by
 by_cases e:a=b
 ·subst e;simp
 ·have h:¬(Sum.inl a:Key)=Sum.inl b:=λq=>e (Sum.inl.inj q);rw[bQ h];exact(dB.mpr e).symm
def aaI(a b:Str):decide ((Sum.inr a:Key)=Sum.inr b)=decide (a=b):=by
 by_cases e:a=b
 ·subst e;simp
 ·have h:¬(Sum.inr a:Key)=Sum.inr b:=λq=>e (Sum.inr.inj q);rw[bQ h,bQ e]
def aaK(a:Int)(b:Str):decide ((Sum.inl a:Key)=Sum.inr b)=false:=bQ (λq=>nomatch q)
def aaJ(a:Str)(b:Int):decide ((Sum.inr a:Key)=Sum.inl b)=false:=bQ (λq=>nomatch q)
noncomputable def bH(prog:Program)(w:World):PySem.KeyKind prog w Key where
 is:=yV
 hash:=adz w
 inj:=λv a b ha hb=>by
  rcases ig ha with⟨i,t,rfl,rfl⟩|⟨x,t,rfl,rfl⟩
  ·rcases ig hb with⟨j,u,rfl,e⟩|⟨y,u,rfl,e⟩
   ·injection e with e1 _;rw[e1]
   ·exact nomatch e
  ·rcases ig hb with⟨j,u,rfl,e⟩|⟨y,u,rfl,e⟩
   ·exact nomatch e
   ·injection e with e1 _;rw[e1]
 byValue:=λk v h=>by rcases ig h with⟨i,t,rfl,rfl⟩|⟨x,t,rfl,rfl⟩<;>rfl
 pyHash:=λhv h=>by
  rcases ig hv with⟨i,t,rfl,rfl⟩|⟨x,t,rfl,rfl⟩
  ·exact wpAny_pyHash_int h
  ·exact wpAny_pyHash_str h
 eqBool:=λhu hv h=>by
  rcases ig hu with⟨i,t,rfl,rfl⟩|⟨x,t,rfl,rfl⟩
  ·rcases ig hv with⟨j,u,rfl,rfl⟩|⟨y,u,rfl,rfl⟩
   ·rw[aaL]at h;exact wpAny_eqBool_int h
   ·rw[aaK]at h;exact BD i t y u _ _ _ _ h
  ·rcases ig hv with⟨j,u,rfl,rfl⟩|⟨y,u,rfl,rfl⟩
   ·rw[aaJ]at h;exact BC x t j u _ _ _ _ h
   ·rw[aaI]at h;exact wpAny_eqBool_str h
 «strs»:=λk x t v h=>by
  rcases ig h with⟨i,u,rfl,e⟩|⟨y,u,rfl,e⟩
  ·exact nomatch e
  ·injection e with e1 _;subst e1;cases v<;>rfl
def Ll(prog:Program)(w:World)(i:Int)(t:Tok):(bH prog w).is (.inl i) (.int i t)=true:=QX i t
def CN(prog:Program)(w:World)(x:Str)(t:Tok):(bH prog w).is (.inr x) (.str x t)=true:=QV x t
inductive V where
 |cE|bl (b:Bool)|int (i:Int)|str (x:Str)|ui (b:Array UInt8)|Kv (b:UInt64)|ref (a:Addr)|ty (n:String)
 deriving DecidableEq
abbrev Aam:=List (V×V)
abbrev Aao:=List V
abbrev Aap:=Option V
def RelV:V->Value->Prop
 | .cE,u=>u=Value.none
 | .bl b,u=>u=Value.bool b
 | .int i,u=>∃t,u=Value.int i t
 | .str x,u=>∃t,u=Value.str x t
 | .ui b,u=>∃t,u=Value.bytes b t
 | .Kv b,u=>∃t,u=Value.float b t
 | .ref a,u=>u=Value.ref a
 | .ty n,u=>u=Value.type n
abbrev Vals:Aao->Aag->Prop:=Paired RelV
def Vals.length(r:Vals xs us):xs.length=us.length:=bw r
theorem Vals.get:∀{xs:Aao}{us:Aag}{i:Nat}{x:V},Vals xs us->xs[i]?=some x->∃u,us[i]?=some u/\RelV x u
 |_,_,_,_,.nil,e=>by simp at e
 |_,_,0,_,.cons r _,e=>by simp at e;subst e;exact⟨_,rfl,r⟩
 |_,_,i+1,x,.cons _ t,e=>by obtain⟨u,h1,h2⟩:=Vals.get (i:=i) (x:=x) t (by simpa using e);exact{u,by simpa using h1,h2}
theorem Vals.set(r:RelV x u):∀{xs:Aao}{us:Aag}(i:Nat),Vals xs us->Vals (xs.set i x) (us.set i u)
 |_,_,_,.nil=>.nil
 |_,_,0,.cons _ t=>.cons r t
 |_,_,i+1,.cons q t=>.cons q (Vals.set r i t)
theorem Vals.append:∀{xs ys:Aao}{us ws:Aag},Vals xs us->Vals ys ws->Vals (xs++ys) (us++ws)
 |_,_,_,_,.nil,s=>s
 |_,_,_,_,.cons r t,s=>.cons r (Vals.append t s)
theorem Vals.take:∀{xs:Aao}{us:Aag}(n:Nat),Vals xs us->Vals (xs.take n) (us.take n)
 |_,_,0,_=>.nil
 |_,_,_+1,.nil=>.nil
 |_,_,n+1,.cons r t=>.cons r (Vals.take n t)
theorem Vals.drop:∀{xs:Aao}{us:Aag}(n:Nat),Vals xs us->Vals (xs.drop n) (us.drop n)
 |_,_,0,r=>r
 |_,_,_+1,.nil=>.nil
 |_,_,n+1,.cons _ t=>Vals.drop n t
def lG:Aap->Option Value->Prop
 |some v,some u=>RelV v u
 |none,none=>True
 |_,_=>False
def KV:List (κ×V)->List (κ×Value)->Prop:=Paired λ(p:κ×V)(q:κ×Value)=>p.1=q.1/\RelV p.2 q.2
def kV:Key->V
 | .inl i=>.int i
 | .inr x=>.str x
inductive HO where
 |lst (xs:Aao)
 |tup (xs:Aao)
 |dK (kvs:List (Key×V))|dT (kvs:List (List Key×V))
 |set (S:Int->Bool) (n:Nat)
 |ins (C dx:Addr) (fs:List (Str×V))
 |own (x:Addr)
 |xd (fs:List (Str×V))
 |met (f x:Addr)
 |Z1 (lo hi:Int)
 |c7 (o:Obj) (u:HO)
 |Ip (ps:Aal)
 |ext (φ:Heap->Prop)
abbrev Hp:=Addr->Option HO
def upd(H:Hp)(a:Addr)(o:HO):Hp:=λb=>if b=a then some o else H b
def aw:upd H a o a=some o:=by unfold upd;rw[aC rfl]
def aE(h:b≠a):upd H a o b=H b:=by unfold upd;rw[az h]
def yR{H:Hp}(h:H a=some o)(h':H b=some u)(d:o≠u):a≠b:=by intro e;subst e;rw[h]at h';exact d (bK h')
def ba{H:Hp}(h:H a=some o)(h':H b=none):a≠b:=by intro e;subst e;rw[h]at h';cases h'
section
variable(P:Program)(w:World)
noncomputable def dG(H:Hp)(h:Heap)(a:Addr):HO->Prop
 | .lst xs=>xs.length<=sizeLine/\∃(aY:Aag)(n:Nat),Vals xs aY/\h.get? a=some {cls:=.type "list",data:=.seq aY.toArray n}
 | .tup xs=>xs.length<=sizeLine/\∃aY:Aag,Vals xs aY/\IsTup h a aY.toArray/\∃o,h.get? a=some o/\o.dict=none
 | .dK kvs=>kvs.length<=sizeLine/\(a==sysModules)=false/\∃vs,KV kvs vs/\h.DictOf (bH P w) a vs
 | .dT kvs=>kvs.length<=sizeLine/\(a==sysModules)=false/\∃xs:List (List Key×Addr×Value),
   Paired (λ(p:List Key×V)(q:List Key×Addr×Value)=>p.1=q.1/\H q.2.1=some (.tup (p.1.map kV))/\RelV p.2 q.2.2) kvs xs/\
   ∃o es ep,h.get? a=some o/\o.ExactDict/\o.data=.dict es ep/\es.toList=xs.map (entryOfKey (tupleKind (bH P w)))/\(xs.map (·.1)).Nodup
 | .set S n=>h.SetOf (intKind P w) a S n
 | .ins C dx fs=>H dx=some (.own a)/\fs.length<=1000/\dx≠a/\h.get? a=some (instObj C dx)/\
   ∃mA,h.Ns1 dx mA/\(∀f,lG (fs.lookup f) (mA f))/\PySem.Within mA (fs.map (·.1))
 | .own _=>∃o,h.get? a=some o
 | .xd fs=>∃mA,h.Ns1 a mA/\∀f,lG (fs.lookup f) (mA f)
 | .Z1 lo hi=>∃t u v,h.get? a=some {cls:=.type "range",data:=.fields #[.int lo t,.int hi u,.int 1 v]}
 | .c7 o u=>h.get? a=some o/\dG H h a u
 | .Ip ps=>h.get? a=some {cls:=.none,data:=.fields ps}
 | .met f x=>h.get? a=some (PySem.W.methodObj (.ref f) (.ref x))
 | .ext φ=>φ h/\(∃o,h.get? a=some o)/\∀h1 h2:Heap,φ h1->(∀o,h1.get? a=some o->h2.get? a=some o)->φ h2
def jI(H:Hp)(h:Heap):Prop:=∀a o,H a=some o->dG P w H h a o
end
section
variable{P:Program}{w:World}{H H':Hp}{h h':Heap}{a:Addr}{o:HO}
def dG.lt(x:dG P w H h a o):a<h.objs.size:=by
 cases o with
 |lst xs=>obtain⟨_,_,_,_,e⟩:=x;exact aI e
 |tup xs=>obtain⟨_,_,_,p,_⟩:=x;exact p.lt
 |dK kvs=>obtain⟨_,_,_,_,o,_,_,e,_⟩:=x;exact aI e
 |dT kvs=>obtain⟨_,_,_,_,o,_,_,e,_⟩:=x;exact aI e
 |set S n=>obtain⟨o,_,_,_,e,_⟩:=x;exact aI e
 |ins C dx fs=>obtain⟨_,_,_,e,_⟩:=x;exact aI e
 |own y=>obtain⟨_,e⟩:=x;exact aI e
 |xd fs=>obtain⟨_,⟨_,_,_,e,_⟩,_⟩:=x;exact aI e
 |Z1 lo hi=>obtain⟨_,_,_,e⟩:=x;exact aI e
 |c7 ob u=>obtain⟨e,_⟩:=x;exact aI e
 |Ip ps=>exact aI (show h.get? a=some _ from x)
 |met f y=>exact aI (show h.get? a=some _ from x)
 |ext φ=>obtain⟨_,⟨_,e⟩,_⟩:=x;exact aI e
theorem Paired.vp:∀{l₁:List α}{aac:List β},Paired F l₁ aac->(∀a b,F a b->G a b)->Paired G l₁ aac
 |_,_,.nil,_=>.nil
 |_,_,.cons r t,f=>.cons (f _ _ r) (Paired.vp t f)
def Paired.imp'(f:∀a b,F a b->G a b)(r:Paired F l₁ aac):Paired G l₁ aac:=Paired.vp r f
def dG.jx(x:dG P w H h a o)(k:∀b u,(b=a\/H b=some (.own a))->h.get? b=some u->h'.get? b=some u)
  (ho:∀b,H b=some (.own a)->H' b=some (.own a)) (ht:∀b xs,H b=some (.tup xs)->H' b=some (.tup xs)):dG P w H' h' a o:=by
 induction o with
 |lst xs=>obtain⟨z,aY,n,r,e⟩:=x;exact{z,aY,n,r,k _ _ (.inl rfl) e}
 |tup xs=>obtain⟨z,aY,r,⟨ob,e,c⟩,o2,e2,c2⟩:=x;exact{z,aY,r,{ob,k _ _ (.inl rfl) e,c},o2,k _ _ (.inl rfl) e2,c2}
 |dK kvs=>obtain⟨z,y,vs,r,ob,es,ep,e,c⟩:=x;exact{z,y,vs,r,ob,es,ep,k _ _ (.inl rfl) e,c}
 |dT kvs=>
  obtain⟨z,y,xs,r,ob,es,ep,e,c⟩:=x;exact{z,y,xs,Paired.vp r λp q z=>{z.1,ht _ _ z.2.1,z.2.2},ob,es,ep,k _ _ (.inl rfl) e,c}
 |set S n=>obtain⟨ob,es,ep,t,e,c⟩:=x;exact{ob,es,ep,t,k _ _ (.inl rfl) e,c}
 |ins C dx fs=>
  obtain⟨d,z,ne,e,mA,⟨od,es,ep,e2,c⟩,r⟩:=x;exact{ho _ d,z,ne,k _ _ (.inl rfl) e,mA,{od,es,ep,k _ _ (.inr d) e2,c},r}
 |own y=>obtain⟨ob,e⟩:=x;exact{ob,k _ _ (.inl rfl) e}
 |xd fs=>obtain⟨mA,⟨od,es,ep,e,c⟩,r⟩:=x;exact{mA,{od,es,ep,k _ _ (.inl rfl) e,c},r}
 |Z1 lo hi=>obtain⟨t,u,v,e⟩:=x;exact{t,u,v,k _ _ (.inl rfl) e}
 |c7 ob u ih=>obtain⟨e,q⟩:=x;exact{k _ _ (.inl rfl) e,ih q}
 |Ip ps=>
  have e:=x;exact k a _ (.inl rfl) e
 |met f y=>
  have e:=x;exact k a _ (.inl rfl) e
 |ext φ=>obtain⟨p,⟨o,e⟩,st⟩:=x;exact{st _ _ p λo q=>k _ _ (.inl rfl) q,{o,k _ _ (.inl rfl) e},st}
def jI.lt(x:jI P w H h)(e:H a=some o):a<h.objs.size:=(x a o e).lt
def jI.fresh(x:jI P w H h)(e:h.objs.size<=a):H a=none:=by
 cases q:H a with
 |none=>rfl
 |some u=>exact absurd (aZ (x.lt q) e) (dD _)
def jI.kept(x:jI P w H h)(k:∀b u,h.get? b=some u->h'.get? b=some u):jI P w H h':=λa o e=>
 (x a o e).jx (λb u _ q=>k b u q) (λ_ q=>q) λ_ _ q=>q
def jI.laid(x:jI P w H h)(k:∀b u,h.get? b=some u->h'.get? b=some u)(hp:h.objs.size<=a)(new:dG P w (upd H a o) h' a o):jI P w (upd H a o) h':=λb u e=>by
 have hn:=x.fresh hp;by_cases hb:b=a
 ·subst hb;rw[aw]at e;cases e;exact new
 ·rw[aE hb]at e;exact(x b u e).jx (λc v _ q=>k c v q) (λc q=>by rw[aE (ba q hn)];exact q) λc xs q=>by rw[aE (ba q hn)];exact q
end
def Rd(H:Hp)(a:Addr)(u:HO):Prop:=H a=some u\/∃o,H a=some (.c7 o u)
def Rd.ok(r:Rd H a u)(x:jI P w H h):dG P w H h a u:=by
 rcases r with r|⟨o,r⟩
 ·exact x a u r
 ·obtain⟨_,q⟩:=x a _ r;exact q
def Sg:Option HO->Prop
 |some (.lst _)=>True
 |some (.dK _)=>True
 |some (.dT _)=>True
 |some (.set _ _)=>True
 |some (.ins _ _ _)=>True
 |some (.ext _)=>True
 |_=>False
section
variable{P:Program}{w:World}{H:Hp}{h h':Heap}{x e:Addr}{o':HO}
def jI.write(ok:jI P w H h)(mu:Sg (H x))(he:e=x\/H e=some (.own x))(k:∀b u,b≠e->h.get? b=some u->h'.get? b=some u)(M5:∃u,h'.get? e=some u)
  (new:dG P w (upd H x o') h' x o'):jI P w (upd H x o') h':=λb u q=>by
 have aaw:∀c y,H c=some (.own y)->c≠x:=λc y r z=>by subst z;rw[r]at mu;exact mu
 have adn:∀c xs,H c=some (.tup xs)->c≠x:=λc xs r z=>by subst z;rw[r]at mu;exact mu
 by_cases hb:b=x
 ·subst hb;rw[aw]at q;cases q;exact new
 ·rw[aE hb]at q;by_cases Ko:b=e
  ·have q':H b=some (.own x):=by
    rcases he with z|z
    ·exact absurd (Ko.trans z) hb
    ·rw[Ko];exact z
   rw[q]at q';cases q';obtain⟨v,hv⟩:=M5;exact{v,by rw[Ko];exact hv}
  ·refine(ok b u q).jx (λc v hc r=>k c v ?_ r) (λc r=>by rw[aE (aaw c b r)];exact r) λc xs r=>by rw[aE (adn c xs r)];exact r
   rcases hc with rfl|hc
   ·exact Ko
   ·rintro rfl;rcases he with z|z
    ·exact aaw c b hc z
    ·rw[hc]at z;cases z;exact hb rfl
end
structure Un(fs ex:Aaj)(H H':Hp)(h h':Heap):Prop where
 keep:∀b o,h.get? b=some o->H b=none->b∉fs->b∉ex->h'.get? b=some o
 slot:∀b o,h.get? b=some o->H b=none->b∈fs->b∉ex->∃sl,h'.get? b=some {o with slots:=sl}
 free:∀b o,h.get? b=some o->H b=none->b∉ex->H' b=none
 there:∀b o,h.get? b=some o->b∉ex->∃o',h'.get? b=some o'
 m8:∀b xs,H b=some (.tup xs)->H' b=some (.tup xs)
 tQ:∀b o u,H b=some (.c7 o u)->H' b=some (.c7 o u)
 yE:∀b ps,H b=some (.Ip ps)->∃more,H' b=some (.Ip (ps++more))
section
variable{fs ex:Aaj}{H H1:Hp}{h h1 h':Heap}{a x e:Addr}{o:HO}
def Un.any(u:Un fs ex H H1 h h1)(q:h.get? b=some ob)(n:H b=none)(hx:b∉ex):∃sl,h1.get? b=some {ob with slots:=sl}:=by
 by_cases hb:b∈fs
 ·exact u.slot b ob q n hb hx
 ·exact{ob.slots,u.keep b ob q n hb hx}
def Un.kept(k:∀b u,h.get? b=some u->h'.get? b=some u):Un fs ex H H h h':=
 {λb ob q _ _ _=>k b ob q,λb ob q _ _ _=>{ob.slots,k b ob q},λ_ _ _ n _=>n,λb ob q _=>{ob,k b ob q},λ_ _ q=>q,λ_ _ _ q=>q,λ_ ps q=>{#[],by rw[q];simp}}
def Un.refl:Un fs ex H H h h:=Un.kept λ_ _ q=>q
def Un.laid(k:∀b u,h.get? b=some u->h'.get? b=some u)(hp:h.objs.size<=a)(hn:H a=none):Un fs ex H (upd H a o) h h' where
 keep:=λb u q _ _ _=>k b u q
 slot:=λb u q _ _ _=>{u.slots,k b u q}
 free:=λb u q n _=>by rw[aE (aL (aZ (aI q) hp))];exact n
 there:=λb u q _=>{u,k b u q}
 m8:=λb xs q=>by rw[aE (ba q hn)];exact q
 tQ:=λb u xs q=>by rw[aE (ba q hn)];exact q
 yE:=λb ps q=>{#[],by rw[aE (ba q hn),q];simp}
def Un.write(mu:Sg (H x))(he:e=x\/H e=some (.own x))(k:∀b u,b≠e->h.get? b=some u->h'.get? b=some u)(M5:∃u,h'.get? e=some u):Un fs ex H (upd H x o) h h':=by
 have hx:∀b,H b=none->b≠x:=λb n z=>by subst z;rw[n]at mu;exact mu
 have hb:∀b,H b=none->b≠e:=λb n z=>by
  subst z;rcases he with r|r
  ·exact hx b n r
  ·rw[n]at r;cases r
 have hm:∀b u,H b=some u->¬Sg (some u)->b≠x:=λb u q nm z=>by subst z;rw[q]at mu;exact nm mu
 refine{λb u q n _ _=>k b u (hb b n) q,λb u q n _ _=>{u.slots,k b u (hb b n) q},λb u q n _=>by rw[aE (hx b n)];exact n,λb u q _=>?_,
  λb xs q=>by rw[aE (hm b _ q λz=>z)];exact q,λb u xs q=>by rw[aE (hm b _ q λz=>z)];exact q,λb ps q=>{#[],by rw[aE (hm b _ q λz=>z),q];simp}}
 by_cases Ko:b=e
 ·subst Ko;exact M5
 ·exact{u,k b u Ko q}
end
def Vk(h:Heap)(H:Hp):Aaj:=(List.range h.objs.size).filter λa=>(H a).isSome
def yX(h:Heap)(H:Hp):Heap:=PySem.W.hideAll h (Vk h H)
def Ru(h:Heap)(H:Hp):(yX h H).objs.size=h.objs.size:=PySem.W.hideAll_size _ _
def Ut(e:h.get? b=some o)(n:H b=none):(yX h H).get? b=some o:=
 PySem.W.hideAll_get _ e λhm=>by have q:=(bV.mp hm).2;rw[n]at q;simp at q
def Yh(e:(yX h H).get? b=some o):h.get? b=some o/\H b=none:=by
 have e':=PySem.W.of_hideAll (Vk h H) e;refine{e',?_};cases q:H b with
 |none=>rfl
 |some x=>
  have hm:b∈Vk h H:=bV.mpr {cY.mpr (aI e'),by simp[q]};have z:(yX h H).get? b=none:=PySem.W.hideAll_none (Vk h H) hm;rw[z]at e;cases e
def Y2(g h:Heap)(L:Addr):Aac:=(List.range h.objs.size).filterMap λa=>if a=L\/(g.get? a).isSome=true then none else(h.get? a).map λo=>(a,o)
def rest(g h:Heap)(L d:Addr):Aac:=(Y2 g h L).filter λp=>decide (p.1≠d)
structure Mod(K:Frag)(mg:Aad)(base:Heap):Prop where
 QS:K.In base
 glob:base.Ns mainGlobals mg
 blt:∃mb,base.Ns builtinsNs mb/\∀x:Str,x≠"__name__"->mb x=bootBuiltins x
 nolimit:base.NoLimit
structure Cx where
 prog:Program
 w:World
 K:Frag
 mg:Aad
 base:Heap
 A:Around
 N:Aah
 aab:Shared
 aae:Hp
 env:Env
 outer:List Env
 stack:List Env
 ex:Aaj
 fn:Str->Bool
 calm:Bool
 pn:Aac
 xe:Aae
def zY(l:List Env):Aaj:=l.filterMap (·.frame)
abbrev Cx.fs(X:Cx):Aaj:=zY X.outer
def Vis(sc:Scope)(x:Str):Prop:=sc.names.lookup x=some .local\/sc.names.lookup x=some .cell\/sc.names.lookup x=some .free
def Loc(sc:Scope)(x:Str):Prop:=sc.names.lookup x=some .local\/sc.names.lookup x=some .cell
def Look(env:Env)(h:Heap)(m:Aad)(x:Str)(u:Value):Prop:=
 (env.kindOf x=some .local/\m x=some u)\/((env.kindOf x=some .cell\/env.kindOf x=some .free)/\∃c,env.cells.lookup x=some c/\h.IsCell c (some u))
structure Cx.Ok(X:Cx):Prop where
 mod:Mod X.K X.mg X.base
 kind:X.env.scope.kind=.function
 glob:X.env.globals=mainGlobals
 blt:X.env.builtins=builtinsNs
 above:X.aab.heap.objs.size<=X.env.locals
 inj:∀x y c,X.env.cells.lookup x=some c->X.env.cells.lookup y=some c->x=y
 has:∀x,(X.env.kindOf x=some .cell\/X.env.kindOf x=some .free)->∃c,X.env.cells.lookup x=some c
 Nm:∀x c,X.fn x=true->X.env.cells.lookup x=some c->X.aab.heap.objs.size<=c
 hd:X.calm=true->X.A.handled=none
 frames:X.A.frames=some X.stack
 PH:X.stack=X.outer\/(X.stack=X.env::X.outer/\X.env.frame=some X.env.locals)
 RO:∀b∈X.ex,b≠X.env.locals/\∀x c,X.env.cells.lookup x=some c->c≠b
 bs:∀b o,X.base.get? b=some o->X.aab.heap.get? b=some o/\X.aae b=none
 Dd:X.base.objs.size<=X.aab.heap.objs.size
 FW:∀b o,X.base.get? b=some o->b∉X.ex
 DR:∀b∈X.ex,b∉X.fs
 rR:X.aab.heap.FunFrames X.base X.outer
 Hj:∀b∈X.fs,X.aae b=none
structure Inv(X:Cx)(pins:Aac)(Z:List (Aap))(H:Hp)(s:Shared):Prop where
 ok:X.Ok
 os:s.os=X.aab.os
 bare:AllBare s.gens
 base:Un X.fs X.ex X.aae H X.aab.heap s.heap
 loc:∃m,s.heap.Ns X.env.locals m/\∀(i:Nat)(x:Str)(v:V),X.N[i]?=some x->Z[i]?=some (some v)->Vis X.env.scope x->∃u,RelV v u/\Look X.env s.heap m x u
 cell:∀x c,X.env.cells.lookup x=some c->∃v,s.heap.IsCell c v
 free:H X.env.locals=none
 oA:∀x c,X.env.cells.lookup x=some c->H c=none
 pin:∀p∈X.pn++pins,s.heap.get? p.1=some p.2/\H p.1=none/\p.1≠X.env.locals/\p.1∉X.fs/\∀v,p.2.data≠ .cell v
 br:jI X.prog X.w H s.heap
 len:Z.length=X.N.length
section
variable{X:Cx}{pins:Aac}{Z:List (Aap)}{H H':Hp}{s:Shared}{h':Heap}
def Cx.Ok.adq(ok:X.Ok)(e:X.base.get? b=some o):b∉X.fs:=λhb=>by have:=(ok.rR.mem hb).1;rw[e]at this;cases this
def Inv.bs(I:Inv X pins Z H s):∀b o,X.base.get? b=some o->s.heap.get? b=some o/\H b=none:=λb o e=>
 {I.base.keep b o (I.ok.bs b o e).1 (I.ok.bs b o e).2 (I.ok.adq e) (I.ok.FW b o e),I.base.free b o (I.ok.bs b o e).1 (I.ok.bs b o e).2 (I.ok.FW b o e)}
def Inv.bk(I:Inv X pins Z H s):∀b o,X.base.get? b=some o->s.heap.get? b=some o:=λb o e=>(I.bs b o e).1
def Inv.mod(I:Inv X pins Z H s):Mod X.K X.mg X.base:=I.ok.mod
def Inv.mT(I:Inv X pins Z H s):X.K.In s.heap:=I.ok.mod.QS.keeps I.bk
def Inv.lt(I:Inv X pins Z H s):X.env.locals<s.heap.objs.size:=let⟨_,hn,_⟩:=I.loc;hn.lt
def Inv.sz(I:Inv X pins Z H s):X.aab.heap.objs.size<=s.heap.objs.size:=aD I.ok.above (bu I.lt)
def Inv.aax(I:Inv X pins Z H s)(h:s.heap.objs.size<=a):a∉X.fs:=λhb=>by obtain⟨_,o,ho,_⟩:=I.ok.rR.mem hb;exact absurd (aZ (aI ho) (aD I.sz h)) (dD _)
def Inv.KL(I:Inv X pins Z H s):∀x c,X.env.cells.lookup x=some c->c≠X.env.locals:=λx c e z=>by obtain⟨v,o,ho,hd⟩:=I.cell x c e;obtain⟨m,⟨o',es,ep,rA,qh,_⟩,_⟩:=I.loc;rw[z,rA]at ho;cases ho;rw[qh]at hd;cases hd
def Inv.rR(I:Inv X pins Z H s):s.heap.FunFrames X.base X.outer:=by
 have all:∀(l:List Env),(∀b∈zY l,b∈X.fs)->X.aab.heap.FunFrames X.base l->s.heap.FunFrames X.base l:=by
  intro l
  induction l with
  |nil=>intro _ _;trivial
  |cons env r ih=>
   intro hs hl;obtain⟨hk,⟨L,o,hf,hn,ho,hd⟩,hr⟩:=hl;have hL:=hs L (by unfold zY;rw[fN,hf];exact aA);obtain⟨sl,e⟩:=I.base.slot L o ho (I.ok.Hj L hL) hL λz=>I.ok.DR L z hL;exact{hk,⟨L,_,hf,hn,e,hd⟩,ih (λb hb=>hs b (by unfold zY;rw[fN,hf];exact aB _ hb)) hr}
 exact all X.outer (λ_ hb=>hb) I.ok.rR
def Inv.stack(I:Inv X pins Z H s):s.heap.FunFrames X.base X.stack:=by
 rcases I.ok.PH with e|⟨e,hf⟩
 ·rw[e];exact I.rR
 ·rw[e];obtain⟨m,hn,_⟩:=I.loc;refine .cons (by rw[I.ok.kind];decide) hf hn ?_ I.rR;exact iB (aD I.ok.Dd I.ok.above)
def Inv.Iw(I:Inv X pins Z H s):∀b∈zY X.stack,b∈X.env.locals::X.fs:=λb hb=>by
 rcases I.ok.PH with e|⟨e,hf⟩
 ·rw[e]at hb;exact aB _ hb
 ·rw[e]at hb;unfold zY at hb;rw[fN,hf]at hb;exact hb
def Inv.L1(I:Inv X pins Z H s):∀b∈zY X.stack,H b=none:=λb hb=>by
 rcases aG.mp (I.Iw b hb)with e|hb
 ·rw[e];exact I.free
 ·obtain⟨_,o,ho,_⟩:=I.ok.rR.mem hb;exact I.base.free b o ho (I.ok.Hj b hb) λz=>I.ok.DR b z hb
def Inv.step{ch:Aaj}(I:Inv X pins Z H s)
  (C6:∀b∈ch,(b∈X.ex\/X.aab.heap.objs.size<=b)/\b≠X.env.locals/\(∀x c,X.env.cells.lookup x=some c->c≠b)/\∀p∈X.pn++pins,p.1≠b)
  (keep:∀b o,b≠X.env.locals->b∉X.fs->b∉ch->s.heap.get? b=some o->H b=none->h'.get? b=some o)
  (slot:∀b o,b≠X.env.locals->b∈X.fs->b∉ch->s.heap.get? b=some o->H b=none->∃sl,h'.get? b=some {o with slots:=sl}) (free:∀b o,b∉ch->s.heap.get? b=some o->H b=none->H' b=none)
  (there:∀b o,b∉ch->s.heap.get? b=some o->∃o',h'.get? b=some o')
  (m8:∀b xs,H b=some (.tup xs)->H' b=some (.tup xs)) (tQ:∀b o u,H b=some (.c7 o u)->H' b=some (.c7 o u)) (yE:∀b ps,H b=some (.Ip ps)->∃more,H' b=some (.Ip (ps++more)))
  (ns:∀m,s.heap.Ns X.env.locals m->h'.Ns X.env.locals m) (br:jI X.prog X.w H' h') (hg:AllBare g'):
  Inv X pins Z H' {s with heap:=h',gens:=g',drawn:=d',toks:=t'}:=by
 have Mw:∀b o,X.aab.heap.get? b=some o->b≠X.env.locals:=λb o e=>aL (aZ (aI e) I.ok.above);have VS:∀b o,X.aab.heap.get? b=some o->b∉X.ex->b∉ch:=λb o e hx hb=>by
  rcases(C6 b hb).1 with z|z
  ·exact hx z
  ·exact absurd (aZ (aI e) z) (dD _)
 have cellK:∀x c,X.env.cells.lookup x=some c->∀v,s.heap.IsCell c v->h'.IsCell c v:=λx c e v ⟨o,ho,hd⟩=>by
  have QA:=λz=>(C6 c z).2.2.1 x c e rfl;by_cases hc:c∈X.fs
  ·obtain⟨sl,q⟩:=slot c o (I.KL x c e) hc QA ho (I.oA x c e);exact⟨_,q,hd⟩
  ·exact{o,keep c o (I.KL x c e) hc QA ho (I.oA x c e),hd}
 refine{I.ok,I.os,hg,{λb o e n hb hx=>?_,λb o e n hb hx=>?_,λb o e n hx=>?_,λb o e hx=>?_,λb xs e=>m8 b xs (I.base.m8 b xs e),λb o xs e=>tQ b o xs (I.base.tQ b o xs e),λb ps e=>?_},?_,λx c e=>?_,?_,λx c e=>?_,λp hp=>?_,br,I.len}
 ·exact keep b o (Mw b o e) hb (VS b o e hx) (I.base.keep b o e n hb hx) (I.base.free b o e n hx)
 ·obtain⟨sl,e1⟩:=I.base.slot b o e n hb hx;obtain⟨sl',e2⟩:=slot b _ (Mw b o e) hb (VS b o e hx) e1 (I.base.free b o e n hx);exact⟨sl',e2⟩
 ·obtain⟨o',e1⟩:=I.base.there b o e hx;exact free b o' (VS b o e hx) e1 (I.base.free b o e n hx)
 ·obtain⟨o',e1⟩:=I.base.there b o e hx;exact there b o' (VS b o e hx) e1
 ·obtain⟨m1,e1⟩:=I.base.yE b ps e;obtain⟨m2,e2⟩:=yE b _ e1;exact{m1++m2,by rw[e2,Array.append_assoc]}
 ·obtain⟨m,hn,hl⟩:=I.loc;refine{m,ns m hn,λi x v e1 e2 e3=>?_};obtain⟨u,r,l⟩:=hl i x v e1 e2 e3;refine{u,r,?_};rcases l with l|⟨k,c,e,z⟩
  ·exact .inl l
  ·exact .inr {k,c,e,cellK x c e _ z}
 ·obtain⟨v,z⟩:=I.cell x c e;exact{v,cellK x c e v z}
 ·obtain⟨m,⟨o,_,_,ho,_⟩,_⟩:=I.loc;exact free _ o (λz=>(C6 _ z).2.1 rfl) ho I.free
 ·obtain⟨v,o,ho,hd⟩:=I.cell x c e;exact free c o (λz=>(C6 c z).2.2.1 x c e rfl) ho (I.oA x c e)
 ·obtain⟨e,n,ne,nf,d⟩:=I.pin p hp;have QA:=λz=>(C6 p.1 z).2.2.2 p hp rfl;exact{keep p.1 p.2 ne nf QA e n,free p.1 p.2 QA e n,ne,nf,d}
def Inv.un(I:Inv X pins Z H s)(u:Un X.fs [] H H' s.heap h')(br:jI X.prog X.w H' h'):Inv X pins Z H' {s with heap:=h',toks:=t'}:=by
 obtain⟨m,⟨o,es,ep,ho,r⟩,_⟩:=id I.loc;obtain⟨sl,hL⟩:=u.any ho I.free (-9);exact I.step (ch:=[]) (λ_ z=>nomatch z) (λb o _ hb _ e n=>u.keep b o e n hb (-9)) (λb o _ hb _ e n=>u.slot b o e n hb (-9)) (λb o _ e n=>u.free b o e n (-9)) (λb o _ e=>u.there b o e (-9)) u.m8 u.tQ u.yE (λm' hm=>by obtain⟨o',fK,Bk,rA,r'⟩:=hm;rw[ho]at rA;cases rA;exact⟨_,fK,Bk,hL,r'⟩) br I.bare
def Inv.call(I:Inv X pins Z H s)(u:Un (zY X.stack) ch H H' s.heap h')(br:jI X.prog X.w H' h')(hg:AllBare g')
  (C6:∀b∈ch,(b∈X.ex\/X.aab.heap.objs.size<=b)/\b≠X.env.locals/\(∀x c,X.env.cells.lookup x=some c->c≠b)/\∀p∈X.pn++pins,p.1≠b):
  Inv X pins Z H' {s with heap:=h',gens:=g',drawn:=d',toks:=t'}:=by
 obtain⟨m,⟨o,es,ep,ho,r⟩,_⟩:=id I.loc;obtain⟨sl,hL⟩:=u.any ho I.free λz=>(C6 _ z).2.1 rfl;exact I.step C6 (λb o hL hb hc e n=>u.keep b o e n (λz=>(aG.mp (I.Iw b z)).elim hL hb) hc) (λb o _ _ hc e n=>u.any e n hc) (λb o hc e n=>u.free b o e n hc) (λb o hc e=>u.there b o e hc) u.m8 u.tQ u.yE (λm' hm=>by obtain⟨o',fK,Bk,rA,r'⟩:=hm;rw[ho]at rA;cases rA;exact⟨_,fK,Bk,hL,r'⟩) br hg
def Inv.turned(I:Inv X pins Z H s)(k:∀b o,b≠it->s.heap.get? b=some o->h'.get? b=some o)(hn:H it=none)(hL:it≠X.env.locals)
  (h1:it∈X.ex\/X.aab.heap.objs.size<=it) (h2:∀x c,X.env.cells.lookup x=some c->c≠it) (h3:∀p∈X.pn++pins,p.1≠it):Inv X pins Z H {s with heap:=h',toks:=t'}:=by
 have nit:∀b u,H b=some u->b≠it:=λb u e z=>by rw[z,hn]at e;cases e
 refine I.step (ch:=[it]) (λb hb=>?_) (λb o _ _ hc e _=>k b o (-73) e) (λb o _ _ hc e _=>{o.slots,k b o (-73) e}) (λ_ _ _ _ n=>n)
  (λb o hc e=>{o,k b o (-73) e}) (λ_ _ e=>e) (λ_ _ _ e=>e) (λb ps e=>{#[],by rw[e];simp}) (λm hm=>?_) (λb u e=>?_) I.bare
 ·have e:b=it:=by simpa using hb
  subst e;exact⟨h1,hL,h2,h3⟩
 ·obtain⟨o,es,ep,ho,r⟩:=hm;exact{o,es,ep,k _ o (cb hL) ho,r}
 ·refine(I.br b u e).jx (λc v hc q=>k c v ?_ q) (λ_ q=>q) λ_ _ q=>q;rcases hc with z|z
  ·rw[z];exact nit b u e
  ·exact nit c _ z
def Inv.tok(I:Inv X pins Z H s)(t:Nat):Inv X pins Z H {s with toks:=t}:=I.un Un.refl I.br
def Inv.kept(I:Inv X pins Z H s)(k:∀b u,s.heap.get? b=some u->h'.get? b=some u):Inv X pins Z H {s with heap:=h',toks:=t'}:=I.un (Un.kept k) (I.br.kept k)
def Inv.laid(I:Inv X pins Z H s)(k:∀b u,s.heap.get? b=some u->h'.get? b=some u)(hp:s.heap.objs.size<=a)(new:dG X.prog X.w (upd H a o) h' a o):
  Inv X pins Z (upd H a o) {s with heap:=h',toks:=t'}:=I.un (Un.laid k hp (I.br.fresh hp)) (I.br.laid k hp new)
def Inv.write(I:Inv X pins Z H s)(mu:Sg (H x))(he:e=x\/H e=some (.own x))(k:∀b u,b≠e->s.heap.get? b=some u->h'.get? b=some u)(M5:∃u,h'.get? e=some u)
  (new:dG X.prog X.w (upd H x o) h' x o):Inv X pins Z (upd H x o) {s with heap:=h',toks:=t'}:=I.un (Un.write mu he k M5) (I.br.write mu he k M5 new)
def Inv.xH(I:Inv X pins Z H s)(h:∀p∈acj,s.heap.get? p.1=some p.2/\H p.1=none/\p.1≠X.env.locals/\p.1∉X.fs/\∀v,p.2.data≠ .cell v):Inv X acj Z H s:=
 {I.ok,I.os,I.bare,I.base,I.loc,I.cell,I.free,I.oA,λp hp=>(bf.mp hp).elim (λz=>I.pin p (gz _ z)) (h p),I.br,I.len}
def JI{N:Aah}(hN:N.Nodup){i j:Nat}(a:N[i]?=some x)(b:N[j]?=some x):i=j:=by obtain⟨h1,e1⟩:=ax.mp a;obtain⟨h2,e2⟩:=ax.mp b;exact(List.getElem_inj hN).mp (e1.trans e2.symm)
def Gv(I:Inv X pins Z H s)(hN:X.N.Nodup)(hi:X.N[i]?=some x)(hx:Loc X.env.scope x)(r:RelV v u)
  (h:∀s',Inv X pins (Z.set i (some v)) H s'->(∃a,Heap.SameBut a s.heap s'.heap/\(a=X.env.locals\/X.env.cells.lookup x=some a))->Q () s') (hf:X.fn x=true\/X.env.scope.names.lookup x=some .local:=by first|exact .inl rfl|exact .inr rfl|assumption):wpAny M A (storeName X.env x u) Q E s:=by
 obtain⟨m,hn,hl⟩:=id I.loc;have aep:(X.env.scope.kind==.class||(X.env.scope.kind==.module&&X.env.locals !=X.env.globals))=false:=by rw[I.ok.kind];rfl
 have hiZ:i<Z.length:=by rw[I.len];exact(ax.mp hi).1
 have KL:=I.KL;have tracked:∀{a:Addr}{h':Heap},(∃o,s.heap.get? a=some o/\H a=none)->Heap.SameBut a s.heap h'->jI X.prog X.w H h':=λ{a h'} ha hs b ob e=>by
  obtain⟨_,_,WB⟩:=ha;refine(I.br b ob e).jx (λc w' hc q=>(hs.2 c ?_).trans q) (λ_ q=>q) λ_ _ q=>q;rintro rfl;rcases hc with rfl|hc
  ·rw[WB]at e;cases e
  ·rw[WB]at hc;cases hc
 rcases hx with hk|hk
 ·refine wpAny_storeName_local hk hn (λh' MV hs=>?_) aep;obtain⟨oL,_,_,E1,_⟩:=id hn;refine h _ {I.ok,I.os,I.bare,{λb o e n hb hx=>?_,λb o e n hb hx=>?_,I.base.free,λb o e hx=>?_,I.base.m8,I.base.tQ,I.base.yE},{_,MV,λj y v' e1 e2 e3=>?_},λy c e=>?_,I.free,I.oA,λp hp=>?_,tracked {oL,E1,I.free} hs,by simpa using I.len} {_,hs,.inl rfl}
  ·exact(hs.2 b (aL (aZ (aI e) I.ok.above))).trans (I.base.keep b o e n hb hx)
  ·obtain⟨sl,e1⟩:=I.base.slot b o e n hb hx;exact{sl,(hs.2 b (aL (aZ (aI e) I.ok.above))).trans e1}
  ·obtain⟨o',e1⟩:=I.base.there b o e hx;exact{o',(hs.2 b (aL (aZ (aI e) I.ok.above))).trans e1}
  ·by_cases hj:j=i
   ·subst hj;rw[hi]at e1;cases e1;rw[xo hiZ]at e2;cases e2;exact{u,r,.inl {hk,by simp}}
   ·rw[zv (cb hj)]at e2;obtain⟨u',r',q⟩:=hl j y v' e1 e2 e3;refine{u',r',?_};rcases q with⟨k,e⟩|⟨k,c,e,z⟩
    ·refine .inl {k,?_};have:y≠x:=λe=>hj (JI hN e1 (e▸hi));simp[this,e]
    ·exact .inr {k,c,e,z.sameBut hs (KL y c e)}
  ·obtain⟨w',z⟩:=I.cell y c e;exact{w',z.sameBut hs (KL y c e)}
  ·obtain⟨e,n,ne,nf,d⟩:=I.pin p hp;exact{(hs.2 p.1 ne).trans e,n,ne,nf,d}
 ·have hfn:X.fn x=true:=by
   rcases hf with z|z
   ·exact z
   ·rw[z]at hk;cases hk
  obtain⟨c,hc⟩:=I.ok.has x (.inl hk);obtain⟨w',z⟩:=I.cell x c hc;refine wpAny_storeName_cell I.ok.kind hk hc z (λh' qi hs=>?_);obtain⟨oc,hoc,aeg⟩:=id z;refine h {s with heap:=h'} {I.ok,I.os,I.bare,{λb o e n hb hx=>?_,λb o e n hb hx=>?_,I.base.free,λb o e hx=>?_,I.base.m8,I.base.tQ,I.base.yE},{m,hn.sameBut hs (cb (KL x c hc)),λj y v' e1 e2 e3=>?_},λy c' e=>?_,I.free,I.oA,λp hp=>?_,tracked {oc,hoc,I.oA x c hc} hs,by simpa using I.len} {c,hs,.inr hc}
  ·exact(hs.2 b (aL (aZ (aI e) (I.ok.Nm x c hfn hc)))).trans (I.base.keep b o e n hb hx)
  ·obtain⟨sl,e1⟩:=I.base.slot b o e n hb hx;exact{sl,(hs.2 b (aL (aZ (aI e) (I.ok.Nm x c hfn hc)))).trans e1}
  ·obtain⟨o',e1⟩:=I.base.there b o e hx;exact{o',(hs.2 b (aL (aZ (aI e) (I.ok.Nm x c hfn hc)))).trans e1}
  ·by_cases hj:j=i
   ·subst hj;rw[hi]at e1;cases e1;rw[xo hiZ]at e2;cases e2;exact{u,r,.inr {.inl hk,c,hc,qi}}
   ·rw[zv (cb hj)]at e2;obtain⟨u',r',q⟩:=hl j y v' e1 e2 e3;refine{u',r',?_};rcases q with q|⟨k,c',e,z'⟩
    ·exact .inl q
    ·refine .inr {k,c',e,z'.sameBut hs ?_};rintro rfl;exact hj (JI hN e1 (I.ok.inj _ _ _ e hc▸hi))
  ·by_cases hcc:c'=c
   ·subst hcc;exact⟨_,qi⟩
   ·obtain⟨w2,z2⟩:=I.cell y c' e;exact{w2,z2.sameBut hs hcc}
  ·obtain⟨e,n,ne,nf,d⟩:=I.pin p hp;refine{(hs.2 p.1 ?_).trans e,n,ne,nf,d};intro q;rw[q,hoc]at e;have q':=bK e;exact d w' (by rw[<-q'];exact aeg)
def yF(I:Inv X pins Z H s)(hN:X.N.Nodup)(hi:X.N[i]?=some x)(hx:Loc X.env.scope x)(r:RelV v u)
  (h:∀s',Inv X pins (Z.set i (some v)) H s'->Q () s') (hf:X.fn x=true\/X.env.scope.names.lookup x=some .local:=by first|exact .inl rfl|exact .inr rfl|assumption):wpAny M A (storeName X.env x u) Q E s:=
 Gv I hN hi hx r (λs' I' _=>h s' I') hf
def Inv.acQ(I:Inv X pins Z H s)(ho:s'.os=s.os)(u:Un (zY X.stack) ch H H' s.heap s'.heap)(br:jI X.prog X.w H' s'.heap)(hg:AllBare s'.gens)
  (C6:∀b∈ch,(b∈X.ex\/X.aab.heap.objs.size<=b)/\b≠X.env.locals/\(∀x c,X.env.cells.lookup x=some c->c≠b)/\∀p∈X.pn++pins,p.1≠b):Inv X pins Z H' s':=by
 obtain⟨h',g',d',t',o'⟩:=s';have e:=ho;subst e;exact I.call u br hg C6
abbrev XK:=Value->Aak->Hp->Prop
abbrev St:=List (Aap)
abbrev VK:=V->Hp->Prop
abbrev TE:=St->Hp->VK->Prop
abbrev TT:=St->Hp->(Bool->Hp->Prop)->Prop
abbrev TA:=St->Hp->(Aao->Hp->Prop)->Prop
structure Ends where
 nx:St->Hp->Prop
 rt:VK
 bk:St->Hp->Prop:=λ_ _=>False
 ct:St->Hp->Prop:=λ_ _=>False
abbrev TS:=Ends->St->Hp->Prop
end
inductive EP(X:Cx)(pins:Aac)(Z:St)(Q:VK)(u:Value)(s':Shared):Prop
 |mk v H' (_:Inv X pins Z H' s') (_:RelV v u) (_:Q v H')
inductive TP(X:Cx)(pins:Aac)(Z:St)(Q:Bool->Hp->Prop)(b:Bool)(s':Shared):Prop
 |mk H' (_:Inv X pins Z H' s') (_:Q b H')
inductive AP(X:Cx)(pins:Aac)(Z:St)(Q:Aao->Hp->Prop)(us:Aag)(s':Shared):Prop
 |mk vs H' (_:Inv X pins Z H' s') (_:Vals vs us) (_:Q vs H')
def SP(X:Cx)(pins:Aac)(D:Ends)(f:Flow)(s':Shared):Prop:=
 match f with
 | .next=>∃σ' H',Inv X pins σ' H' s'/\D.nx σ' H'
 | .brk=>∃σ' H',Inv X pins σ' H' s'/\D.bk σ' H'
 | .cont=>∃σ' H',Inv X pins σ' H' s'/\D.ct σ' H'
 | .ret u=>∃v σ' H',Inv X pins σ' H' s'/\RelV v u/\D.rt v H'
def PE(X:Cx)(e:Expr)(t:TE):Prop:=
 ∀(pins:Aac)(s:Shared)(Z:St)(H:Hp)(Q:VK),Inv X pins Z H s->t Z H Q->wpAny (-6) X.A (eval e X.env) (EP X pins Z Q) X.xe s
def PT(X:Cx)(e:Expr)(t:TT):Prop:=
 ∀(pins:Aac)(s:Shared)(Z:St)(H:Hp)(Q:Bool->Hp->Prop),Inv X pins Z H s->t Z H Q->wpAny (-6) X.A (isTrue e X.env (eval e X.env)) (TP X pins Z Q) X.xe s
def PW(X:Cx)(e:Expr)(t:TT):Prop:=
 ∀(whole:Sem Value)(pins:Aac)(s:Shared)(Z:St)(H:Hp)(Q:Bool->Hp->Prop),Inv X pins Z H s->t Z H Q->wpAny (-6) X.A (isTrue e X.env whole) (TP X pins Z Q) X.xe s
def PW.pt(h:PW X e t):PT X e t:=h _
def PA(X:Cx)(es:List Expr)(t:TA):Prop:=
 ∀(pos:Pos)(pins:Aac)(s:Shared)(Z:St)(H:Hp)(Q:Aao->Hp->Prop),Inv X pins Z H s->t Z H Q->wpAny (-6) X.A (spliced (-36)) (AP X pins Z Q) X.xe s
def PS(X:Cx)(st:Stmt)(t:TS):Prop:=
 ∀(pins:Aac)(s:Shared)(Z:St)(H:Hp)(D:Ends),Inv X pins Z H s->t D Z H->wpAny (-6) X.A (exec st X.env) (SP X pins D) X.xe s
def qo(X:Cx)(st:List Stmt)(t:TS):Prop:=
 ∀(pins:Aac)(s:Shared)(Z:St)(H:Hp)(D:Ends),Inv X pins Z H s->t D Z H->wpAny (-6) X.A (execs st X.env) (SP X pins D) X.xe s
def iT(h:wpAny M A t Q E s)(hQ:∀a s,Q a s->Q' a s):wpAny M A t Q' E s:=dc h hQ λ_ _ x=>x
def df{X:Cx}{pins:Aac}{Z:St}{Q:VK}{t:Sem Value}{Q':Aae}{s:Shared}(h:wpAny (-6) X.A t (EP X pins Z Q) X.xe s)(k:∀u s x H,Inv X pins Z H s->RelV x u->Q x H->Q' u s):wpAny (-6) X.A t Q' X.xe s:=iT h λu s ⟨x,H,I,r,q⟩=>k u s x H I r q
def qw{X:Cx}{pins:Aac}{Z:St}{Q:Aao->Hp->Prop}{t:Sem (Aag)}{Q':Aag->Shared->Prop}{s:Shared}(h:wpAny (-6) X.A t (AP X pins Z Q) X.xe s)(k:∀u s x H,Inv X pins Z H s->Vals x u->Q x H->Q' u s):wpAny (-6) X.A t Q' X.xe s:=iT h λu s ⟨x,H,I,r,q⟩=>k u s x H I r q
def Ik{X:Cx}{pins:Aac}{Z:St}{Q:Bool->Hp->Prop}{t:Sem Bool}{Q':Bool->Shared->Prop}{s:Shared}(h:wpAny (-6) X.A t (TP X pins Z Q) X.xe s)(k:∀u s H,Inv X pins Z H s->Q u H->Q' u s):wpAny (-6) X.A t Q' X.xe s:=iT h λu s ⟨H,I,q⟩=>k u s H I q
section
variable{X:Cx}
inductive NI(i:Nat)(Z:St)(H:Hp)(Q:VK):Prop
 |mk v (_:Z[i]?=some (some v)) (_:Q v H)
def tC(v:V):TE:=λ_ H Q=>Q v H
def aal(hN:X.N[i]?=some x)(hv:Vis X.env.scope x)(hd:(-32)=false:=by decide)(Be:(x==("__classdict__":Str))=false:=by decide):PE X (.Name x pos) (NI i):=by
 intro pins s Z H Q I h;obtain⟨v,e,h⟩:=h;obtain⟨m,hn,hl⟩:=I.loc;obtain⟨u,r,l⟩:=hl i x v hN e hv;have fin:EP X pins Z Q u s:=⟨v,H,I,r,h⟩;rcases l with⟨hk,hm⟩|⟨hk,c,hc,WH⟩
 ·exact Ej (wpAny_loadName_local I.ok.kind hk hn hm fin) hd
 ·rcases hk with hk|hk
  ·exact Ej (wpAny_loadName_cell I.ok.kind hk hc WH fin) hd
  ·exact Ej (wpAny_loadName_free I.ok.kind hk hc WH fin Be) hd
def bh{i j pos}:PE X (.Constant (.int i) j pos) (tC (.int i)):=λ_ _ _ H _ I h=>wpAny_Constant_int {.int i,H,I.tok _,⟨_,rfl⟩,h}
def yO{b j pos}:PE X (.Constant (.bool b) j pos) (tC (.bl b)):=λ_ _ _ H _ I h=>Constant_bool {.bl b,H,I,rfl,h}
def xI{j pos}:PE X (.Constant .none j pos) (tC .cE):=λ_ _ _ H _ I h=>Constant_none {.cE,H,I,rfl,h}
def f7{x j pos}:PE X (.Constant (.str x) j pos) (tC (.str x)):=λ_ _ _ H _ I h=>Calls.Constant_str {.str x,H,I.tok _,⟨_,rfl⟩,h}
def Gl(X:Cx)(x:Str):Prop:=X.env.kindOf x=some .globalImplicit
def FZ(I:Inv X pins Z H s)(hg:Gl X x)(hm:X.mg x=some u)(h:Q u s)
  (hd:(-32)=false:=by decide):wpAny (-6) X.A (eval (.Name x pos) X.env) Q E s:=
 tY I.ok.kind hg (Calls.loadGlobal_global (by rw[I.ok.glob];exact I.mod.glob.keeps I.bk) hm h) hd
def qF(I:Inv X pins Z H s)(hg:Gl X x)(hm:X.mg x=none)(hv:bootBuiltins x=some u)(h:Q u s)
  (hn:x≠"__name__":=by decide) (hd:(-32)=false:=by decide):wpAny (-6) X.A (eval (.Name x pos) X.env) Q E s:=by
 obtain⟨mb,h1,h2⟩:=I.mod.blt;exact tY I.ok.kind hg (Calls.loadGlobal_builtin (by rw[I.ok.glob];exact I.mod.glob.keeps I.bk) hm (by rw[I.ok.blt];exact h1.keeps I.bk) ((h2 x hn).trans hv) h) hd
def Mr(hg:Gl X x)(hm:X.mg x=some u)(r:RelV v u)(hd:(-32)=false:=by decide):PE X (.Name x pos) (tC v):=
 λ_ _ _ H _ I h=>FZ I hg hm ⟨v,H,I,r,h⟩ hd
def X6(hg:Gl X x)(hm:X.mg x=none)(hv:bootBuiltins x=some u)(r:RelV v u)(hn:x≠"__name__":=by decide)(hd:(-32)=false:=by decide):PE X (.Name x pos) (tC v):=
 λ_ _ _ H _ I h=>qF I hg hm hv ⟨v,H,I,r,h⟩ hn hd
variable{a b:Expr}{pos:Pos}
def PC(X:Cx)(op:CmpOp)(a b:Expr)(t:TE):Prop:=
 ∀(pins:Aac)(s:Shared)(Z:St)(H:Hp)(Q:VK),Inv X pins Z H s->t Z H Q->
  wpAny (-6) X.A (eval a X.env) (λv aaa=>wpAny (-6) X.A (eval b X.env) (λu aad=>wpAny (-6) X.A (compareOp op v u) (EP X pins Z Q) X.xe aad) X.xe aaa) X.xe s
inductive Vs(Q:Bool->Hp->Prop)(x:V)(H1:Hp):Prop
 |mk c (_:x=.bl c) (_:Q c H1)
def tB(t:TE):TT:=λZ H Q=>t Z H λx H1=>Vs Q x H1
def I0(h:PC X op a b t)(h1:behindInMarks op b=false:=by first|exact ads _ (by decide) (by decide)|rfl):PT X (.Compare a [op] [b] pos) (tB t):=by intro pins s Z H Q I hw;refine xw (iT (h pins s Z H _ I hw) λv s1 h1=>iT h1 λu s2 h2=>iT h2 λc s3 wx=>?_) h1;obtain⟨x,H1,I1,r1,q1⟩:=wx;obtain⟨d,rfl,q⟩:=q1;cases r1;exact iD ⟨H1,I1,q⟩
def AJ(h:PE X e t)(he:∀whole,isTrue e X.env whole=(do let v<-whole;standAt e.pos;holding [v] (truthy v)):=by intro _;rfl):PT X e (tB t):=by intro pins s Z H Q I hw;refine isTrue_plain (df (h pins s Z H _ I hw) λv s1 x H1 I1 r1 q1=>?_) (he _);obtain⟨d,rfl,q⟩:=q1;cases r1;exact iD ⟨H1,I1,q⟩
variable{ta tb:TE}{tA Vs:TT}{rest:List Expr}
def tOr(t u:TT):TT:=λZ H Q=>t Z H λc H1=>if c=true then Q true H1 else u Z H1 Q
def ac3(t:TT):TT:=λZ H Q=>t Z H λc H1=>Q (!c) H1
def EB(ha:PT X a tA):PW X (.BoolOp .Or [a] pos) tA:=by
 intro wh pins s Z H Q I h;refine isTrue_or (iT (ha pins s Z H Q I h) λc s1 e=>?_);cases c with
 |false=>exact isTrue_or_nil e
 |true=>exact e
def EC(ha:PT X a tA)(hb:PW X (.BoolOp .Or (b::rest) pos) Vs):PW X (.BoolOp .Or (a::b::rest) pos) (tOr tA Vs):=by
 intro wh pins s Z H Q I h;refine isTrue_or (Ik (ha pins s Z H _ I h) λc s1 H1 I1 q1=>?_);cases c with
 |true=>exact⟨H1,I1,q1⟩
 |false=>exact hb wh pins s1 Z H1 Q I1 q1
def IZ(ha:PT X a tA):PT X (.UnaryOp .Not a pos) (ac3 tA):=by intro pins s Z H Q I h;exact isTrue_not (Ik (ha pins s Z H (λc H1=>Q (!c) H1) I h) λ_ _ a b c=>⟨a,b,c⟩)
inductive ZP(tb:TE)(Z:St)(Q:VK)(x:V)(H1:Hp):Prop
 |mk c (_:x=.bl c) (_:if c=true then tb Z H1 Q else Q (.bl false) H1)
def ab8(ta tb:TE):TE:=λZ H Q=>ta Z H λx H1=>ZP tb Z Q x H1
def Qh{op}(h:PE X a t):PE X (.BoolOp op [a] pos) t:=λpins s Z H Q I hw=>BoolOp_one (h pins s Z H Q I hw)
def Jq(ha:PE X a ta)(hb:PE X (.BoolOp .And (b::rest) pos) tb):PE X (.BoolOp .And (a::b::rest) pos) (ab8 ta tb):=by
 intro pins s Z H Q I h;refine BoolOp_and (df (ha pins s Z H _ I h) λv s1 x H1 I1 r1 q1=>?_);obtain⟨c,rfl,q1⟩:=q1;cases r1;refine iD ?_;cases c with
 |true=>exact hb pins s1 Z H1 Q I1 q1
 |false=>exact{.bl false,H1,I1,rfl,q1}
def tIf(t:TT)(ta tb:TE):TE:=λZ H Q=>t Z H λc H1=>if c=true then ta Z H1 Q else tb Z H1 Q
def Jm(hc:PT X c tA)(ha:PE X a ta)(hb:PE X b tb):PE X (.IfExp c a b pos) (tIf tA ta tb):=by
 intro pins s Z H Q I h;refine wpAny_IfExp (Ik (hc pins s Z H _ I h) λd s1 H1 I1 q1=>?_);cases d with
 |true=>exact ha pins s1 Z H1 Q I1 q1
 |false=>exact hb pins s1 Z H1 Q I1 q1
end
def bo(K:Frag)(H:Hp)(a:Addr)(xs:Aao):Prop:=
 Rd H a (.lst xs)\/
  ∃(o:Obj)(aY:Aal)(n:Nat),K.lookup a=some o/\o.cls=.type "list"/\o.dict=none/\o.data=.seq aY n/\aY.size<=sizeLine/\Vals xs aY.toList
def bF(K:Frag)(H:Hp)(a:Addr)(xs:Aao):Prop:=
 Rd H a (.tup xs)\/
  ∃(o:Obj)(aY:Aal)(n:Nat),K.lookup a=some o/\o.cls=.type "tuple"/\o.data=.seq aY n/\aY.size<=sizeLine/\Vals xs aY.toList
def aey:Value->Aap
 | .none=>some .cE
 | .bool b=>some (.bl b)
 | .int i _=>some (.int i)
 | .str x _=>some (.str x)
 | .bytes b _=>some (.ui b)
 | .float b _=>some (.Kv b)
 | .ref a=>some (-51)
 | .type n=>some (.ty n)
 |_=>none
def RelV.abs(r:RelV x u):aey u=some x:=by
 cases x with
 |cE=>cases r;rfl
 |bl _=>cases r;rfl
 |int _=>obtain⟨t,rfl⟩:=r;rfl
 |str _=>obtain⟨t,rfl⟩:=r;rfl
 |ui _=>obtain⟨t,rfl⟩:=r;rfl
 |Kv _=>obtain⟨t,rfl⟩:=r;rfl
 |ref _=>cases r;rfl
 |ty _=>cases r;rfl
def RelV.inj(r:RelV x u)(q:RelV y u):x=y:=bK (r.abs.symm.trans q.abs)
theorem Vals.inj:∀{xs ys:Aao}{us:Aag},Vals xs us->Vals ys us->xs=ys
 |_,_,_,.nil,.nil=>rfl
 |_,_,_,.cons r t,.cons r' t'=>by rw[r.inj r',Vals.inj t t']
section
variable{X:Cx}{pins:Aac}{Z:St}{H:Hp}{s:Shared}{a:Addr}{xs ys:Aao}
def bo.of{K:Frag}(h:H a=some (.lst xs)):bo K H a xs:=.inl (.inl h)
def bF.of{K:Frag}(h:H a=some (.tup xs)):bF K H a xs:=.inl (.inl h)
def Inv.list(I:Inv X pins Z H s)(h:bo X.K H a xs):∃aY:Aag,Vals xs aY/\PlainL s.heap a aY.toArray/\xs.length<=sizeLine:=by
 rcases h with h|⟨o,aY,n,hk,hc,hd,hs,hz,r⟩
 ·obtain⟨z,aY,n,r,e⟩:=h.ok I.br;exact{aY,r,⟨_,n,e,rfl,rfl,rfl⟩,z}
 ·refine{aY.toList,r,{o,n,I.mT a o hk,hc,hd,by simpa using hs},?_};have e:=r.length;simp only[aS]at e;lia
def Inv.tuple(I:Inv X pins Z H s)(h:bF X.K H a xs):∃aY:Aag,Vals xs aY/\IsTup s.heap a aY.toArray/\xs.length<=sizeLine:=by
 rcases h with h|⟨o,aY,n,hk,hc,hs,hz,r⟩
 ·obtain⟨z,aY,r,p,_⟩:=h.ok I.br;exact⟨aY,r,p,z⟩
 ·refine{aY.toList,r,{o,I.mT a o hk,hc,n,by simpa using hs},?_};have e:=r.length;simp only[aS]at e;lia
def Inv.DF(I:Inv X pins Z H s)(h:bo X.K H a xs)(h':bo X.K H a ys):xs=ys:=by
 obtain⟨aY,r,⟨o,n,e,_,_,d⟩,_⟩:=I.list h;obtain⟨its',r',⟨o',n',e',_,_,d'⟩,_⟩:=I.list h';rw[e]at e';cases e';rw[d]at d';injection d' with d1 _;have:aY=its':=by simpa using bU Array.toList d1
 subst this;exact r.inj r'
def Inv.Ar(I:Inv X pins Z H s)(h:bF X.K H a xs)(h':bF X.K H a ys):xs=ys:=by
 obtain⟨aY,r,⟨o,e,_,n,d⟩,_⟩:=I.tuple h;obtain⟨its',r',⟨o',e',_,n',d'⟩,_⟩:=I.tuple h';rw[e]at e';cases e';rw[d]at d';injection d' with d1 _;have:aY=its':=by simpa using bU Array.toList d1
 subst this;exact r.inj r'
end
abbrev Cx.wO(X:Cx)(E:Aae):Cx:={X with xe:=E}
abbrev Cx.VP(X:Cx):Cx:=X.wO λ_ _=>False
def Cx.Ok.wO{X:Cx}(ok:X.Ok)(E:Aae):(X.wO E).Ok:=
 {ok.mod,ok.kind,ok.glob,ok.blt,ok.above,ok.inj,ok.has,ok.Nm,ok.hd,ok.frames,ok.PH,ok.RO,ok.bs,ok.Dd,ok.FW,ok.DR,ok.rR,ok.Hj}
def Cx.Ok.sI{X:Cx}(ok:(X.wO E).Ok):X.Ok:=
 {ok.mod,ok.kind,ok.glob,ok.blt,ok.above,ok.inj,ok.has,ok.Nm,ok.hd,ok.frames,ok.PH,ok.RO,ok.bs,ok.Dd,ok.FW,ok.DR,ok.rR,ok.Hj}
section
variable{X:Cx}{pins:Aac}{Z:St}{H:Hp}{s:Shared}{E:Aae}
def Inv.wO(I:Inv X pins Z H s)(E:Aae):Inv (X.wO E) pins Z H s:={I.ok.wO E,I.os,I.bare,I.base,I.loc,I.cell,I.free,I.oA,I.pin,I.br,I.len}
def Inv.sI(I:Inv (X.wO E) pins Z H s):Inv X pins Z H s:={I.ok.sI,I.os,I.bare,I.base,I.loc,I.cell,I.free,I.oA,I.pin,I.br,I.len}
def SP.sI(h:SP (X.wO E) pins D f s'):SP X pins D f s':=by
 cases f with
 |next=>obtain⟨σ',H',I,q⟩:=h;exact{σ',H',I.sI,q}
 |brk=>obtain⟨σ',H',I,q⟩:=h;exact{σ',H',I.sI,q}
 |cont=>obtain⟨σ',H',I,q⟩:=h;exact{σ',H',I.sI,q}
 |ret u=>obtain⟨v,σ',H',I,r,q⟩:=h;exact{v,σ',H',I.sI,r,q}
def qo.VP{st:List Stmt}(h:qo X.VP st t):qo X st t:=λpins s Z H D I hw=>
 dc (h pins s Z H D (I.wO _) hw) (λ_ _ q=>q.sI) λ_ _ z=>False.elim z
end
section
variable{X:Cx}{st:Stmt}{rest:List Stmt}{t u:TS}{e:Expr}{te:TE}{pos:Pos}
def ab2:TS:=λD Z H=>D.nx Z H
def NJ(t u:TS):TS:=λD Z H=>t {D with nx:=u D} Z H
def eG:qo X [] ab2:=λ_ _ Z H _ I h=>qt ⟨Z,H,I,h⟩
def aN(h1:PS X st t)(h2:qo X rest u):qo X (st::rest) (NJ t u):=by
 intro pins s Z H D I h;refine wpAny_execs_cons (iT (h1 pins s Z H {D with nx:=u D} I h) λf s1 q=>?_);cases f with
 |next=>
  obtain⟨σ',H',I',q⟩:=q;exact h2 pins s1 σ' H' D I' q
 |ret v=>exact q
 |brk=>exact q
 |cont=>exact q
def a9(h1:PS X st t):qo X [st] t:=by
 intro pins s Z H D I h;refine wpAny_execs_cons (iT (h1 pins s Z H D I h) λf s1 q=>?_);cases f with
 |next=>exact qt q
 |ret v=>exact q
 |brk=>exact q
 |cont=>exact q
def Inv.quiet(I:Inv X pins Z H s):interactive X.env=false:=by simp[interactive,I.ok.kind]
def ab4(te:TE):TS:=λD Z H=>te Z H λ_ H1=>D.nx Z H1
def lB(he:PE X e te)(hs:swapsWith e none pos.line X.env=pure false:=by rfl):PS X (.Expr e pos) (ab4 te):=by intro pins s Z H D I h;exact wpAny_Expr_any (df (he pins s Z H _ I h) λv s1 x H1 I1 r1 q1=>⟨Z,H1,I1,q1⟩) I.quiet hs
def ac1(te:TE):TS:=λD Z H=>te Z H D.rt
def cN(he:PE X e te):PS X (.Return (some e) pos) (ac1 te):=by intro pins s Z H D I h;exact wpAny_Return_some (df (he pins s Z H _ I h) λv s1 x H1 I1 r1 q1=>⟨x,Z,H1,I1,r1,q1⟩)
def ac5(c:TT)(t u:TS):TS:=λD Z H=>c Z H λb H1=>if b=true then t D Z H1 else u D Z H1
def gJ(hc:PT X c tc)(ha:qo X a t)(hb:qo X b u):PS X (.If c a b pos) (ac5 tc t u):=by
 intro pins s Z H D I h;refine wpAny_If (Ik (hc pins s Z H _ I h) λd s1 H1 I1 q1=>?_);cases d with
 |true=>exact ha pins s1 Z H1 D I1 q1
 |false=>exact hb pins s1 Z H1 D I1 q1
abbrev TG:=V->St->Hp->(St->Hp->Prop)->Prop
abbrev W6:=Aao->St->Hp->(St->Hp->Prop)->Prop
end
def PG(X:Cx)(target:Expr)(t:TG):Prop:=
 ∀(pins:Aac)(s:Shared)(Z:St)(H:Hp)(v:V)(u:Value)(Q:St->Hp->Prop),Inv X pins Z H s->RelV v u->t v Z H Q->
  wpAny (-6) X.A (assign target X.env u) (λ_ s'=>∃σ' H',Inv X pins σ' H' s'/\Q σ' H') X.xe s
def Hy(X:Cx)(ts:List Expr)(t:W6):Prop:=
 ∀(pins:Aac)(s:Shared)(Z:St)(H:Hp)(vs:Aao)(us:Aag)(Q:St->Hp->Prop),Inv X pins Z H s->Vals vs us->t vs Z H Q->
  wpAny (-6) X.A (assignInOrder ((assignEach ts X.env).map (·.2)) us) (λ_ s'=>∃σ' H',Inv X pins σ' H' s'/\Q σ' H') X.xe s
abbrev abI:=V->V->V->Hp->(Hp->Prop)->Prop
def abJ(X:Cx)(t:abI):Prop:=
 ∀(pins:Aac)(s:Shared)(Z:St)(H:Hp)(o i v:V)(ov iv u:Value)(Q:Hp->Prop),Inv X pins Z H s->RelV o ov->RelV i iv->RelV v u->t o i v H Q->
  wpAny (-6) X.A (setItem ov iv u) (λ_ s'=>∃H',Inv X pins Z H' s'/\Q H') X.xe s
section
variable{X:Cx}{pos:Pos}
def sC(i:Nat):TG:=λv Z H Q=>Q (Z.set i (some v)) H
def ot(hN:X.N.Nodup)(hi:X.N[i]?=some x)(hx:Loc X.env.scope x)(hf:X.fn x=true\/X.env.scope.names.lookup x=some .local:=by first|exact .inl rfl|exact .inr rfl|assumption):PG X (.Name x pos) (sC i):=by intro pins s Z H v u Q I r h;exact Ce (yF I hN hi hx r (λs' I'=>⟨_,H,I',h⟩) hf)
def abt:W6:=λvs Z H Q=>vs=[]/\Q Z H
inductive OR(t:TG)(u:W6)(vs:Aao)(Z:St)(H:Hp)(Q:St->Hp->Prop):Prop
 |mk v r (_:vs=v::r) (_:t v Z H λσ' H'=>u r σ' H' Q)
def g7:Hy X [] abt:=by intro pins s Z H vs us Q I r h;obtain⟨e,h⟩:=h;subst e;cases r;exact Ck ⟨Z,H,I,h⟩
def cA(h1:PG X e t)(h2:Hy X es u)
  (hs:(assignEach (e::es) X.env).map (·.2)=assign e X.env::(assignEach es X.env).map (·.2):=by rfl):Hy X (e::es) (OR t u):=by
 intro pins s Z H vs us Q I r h;obtain⟨v,vr,e1,h⟩:=h;subst e1;cases r with
 |cons r rr=>
  rw[hs];refine sZ (iT (h1 pins s Z H _ _ _ I r h) λ_ s1 xV=>?_);obtain⟨σ1,H1,I1,q1⟩:=xV;exact h2 pins s1 σ1 H1 _ _ Q I1 rr q1
inductive UA(K:Frag)(n:Nat)(t:W6)(v:V)(Z:St)(H:Hp)(Q:St->Hp->Prop):Prop
 |mk a xs (_:v=.ref a) (_:bF K H a xs) (_:xs.length=n) (_:t xs Z H Q)
def iY(hc:X.calm=true)(h:Hy X es t)
  (hn:(assignEach es X.env).length=n:=by rfl) (ic:(assignEach es X.env).findIdx? (·.1)=none:=by rfl):PG X (.Tuple es k pos) (UA X.K n t):=by
 intro pins s Z H v u Q I r hw;obtain⟨a,xs,e1,hq,hl,hw⟩:=hw;subst e1;cases r;obtain⟨aY,rv,ht,hz⟩:=I.tuple hq;refine assign_Tuple_tuple (I.ok.hd hc) ht (by simp[hn,<-hl,rv.length]) ic λh' hx=>?_;have I1:=I.kept (t':=s.toks) λb o e=>hx b o (aL (aI e)) e;exact h pins _ Z H xs _ Q I1 (by simpa using rv) hw
def aes(to ti:TE)(t:abI):TG:=λv Z H Q=>to Z H λo H1=>ti Z H1 λi H2=>t o i v H2 λH3=>Q Z H3
def Qg(ho:PE X o to)(hi:PE X i ti)(hs:abJ X t)
  (ha:∀v,assign (.Subscript o i pos) X.env v=(do
   let ov<-holding [v] (eval o X.env)
   let iv<-holding [v,ov] (eval i X.env)
   standAt pos
   holding [v,ov,iv] (setItem ov iv v)
   release [v,ov,iv] []):=by intro _;rfl):PG X (.Subscript o i pos) (aes to ti t):=by
 intro pins s Z H v u Q I r h;rw[ha];refine af (bP (df (ho pins s Z H _ I h) λov s1 x H1 I1 r1 q1=>?_));refine af (bP (df (hi pins s1 Z H1 _ I1 q1) λiv s2 y H2 I2 r2 q2=>?_));refine af (tK (af (bP (iT (hs pins s2 Z H2 x y v ov iv u _ I2 r1 r2 r q2) λ_ s3 hz3=>?_))));obtain⟨H3,I3,q3⟩:=hz3;exact wpAny_release ⟨Z,H3,I3,q3⟩
def SO(te:TE)(g:TG):TS:=λD Z H=>te Z H λx H1=>g x Z H1 D.nx
def xG(he:PE X e te)(hg:PG X tg g)(hs:swapsWithSole [tg] e pos.line X.env=pure false:=by rfl)(hw:swappedStores [tg] e X.env=pure none:=by rfl)
  (h1:(assignEach [tg] X.env).map (·.2)=[assign tg X.env]:=by rfl):PS X (.Assign [tg] e pos) (SO te g):=by
 intro pins s Z H D I h;refine wpAny_Assign_stores (df (he pins s Z H _ I h) λv s1 x H1 I1 r1 q1=>?_) hs hw;rw[h1];exact iT (hg pins s1 Z H1 x v _ I1 r1 q1) λ_ s2 q=>q
def jU(hN:X.N.Nodup)(hi:X.N[i]?=some x)(hx:Loc X.env.scope x)(he:PE X e te)(hs:swapsWith e (some (.Name x pos')) pos.line X.env=pure false:=by rfl)(hf:X.fn x=true\/X.env.scope.names.lookup x=some .local:=by first|exact .inl rfl|exact .inr rfl|assumption):
  PS X (.Assign [.Name x pos'] e pos) (SO te (sC i)):=by
 intro pins s Z H D I h;refine wpAny_Assign_Name (df (he pins s Z H _ I h) λv s1 y H1 I1 r1 q1=>?_) hs;exact yF I1 hN hi hx r1 (λs2 I2=>⟨_,H1,I2,q1⟩) hf
inductive ab1(i:Nat)(j:Nat)(D:Ends)(Z:St)(vs:Aao)(H1:Hp):Prop
 |mk v w (_:vs=[v,w]) (_:D.nx ((Z.set i (some v)).set j (some w)) H1)
def ac2(i j:Nat)(ta:TA):TS:=λD Z H=>ta Z H λvs H1=>ab1 i j D Z vs H1
def aaj{kt k2 pt2}(hc:X.calm=true)(hN:X.N.Nodup)(hi:X.N[i]?=some x)(hj:X.N[j]?=some y)(hij:i≠j)
  (hx:X.env.scope.names.lookup x=some .local) (hy:X.env.scope.names.lookup y=some .local) (ha:PA X [a,b] ta)
  (hw:swappedStores [.Tuple [.Name x px,.Name y py] kt pt] (.Tuple [a,b] k2 pt2) X.env=pure (some [x,y]))
  (hs:swapsWithSole [.Tuple [.Name x px,.Name y py] kt pt] (.Tuple [a,b] k2 pt2) pos.line X.env=pure false:=by rfl):
  PS X (.Assign [.Tuple [.Name x px,.Name y py] kt pt] (.Tuple [a,b] k2 pt2) pos) (ac2 i j ta):=by
 intro pins s Z H D I h;rw[exec_Assign_arm];refine af (tK ?_);rw[hs];refine af (ao ?_);rw[az (-8)];refine af (Tuple_ (qw (ha _ pins s Z H _ I h) λus s1 vs H1 I1 r1 q1=>?_));obtain⟨v,w,e1,q1⟩:=q1;subst e1;obtain⟨u1,u2,rfl,rv,pf⟩:∃u1 u2,us=[u1,u2]/\RelV v u1/\RelV w u2:=by
  cases r1 with
  |cons p q=>
   cases q with
   |cons p' q'=>
    cases q';exact⟨_,_,rfl,p,p'⟩
 refine cx ?_ (-35);have I2:Inv X pins Z H1 {s1 with heap:=s1.heap.push {cls:=.type "tuple",data:=.seq [u1,u2].toArray}}:=I1.kept λb o e=>aq _ e;rw[hw];refine af (ao ?_);refine af (fP (af (unpackItems_tuple (items:=#[u1,u2]) (I.ok.hd hc) (BL s1.heap _) λh' xW=>?_)));have I3:=I2.kept (t':=s1.toks) λb o e=>xW b o (aL (aI e)) e;refine af (sZ (wpAny_bindName (yF I3 hN hj (.inl hy) pf (λs2 I4=>?_) (.inr hy))));refine sZ (wpAny_bindName (yF I4 hN hi (.inl hx) rv (λs3 I5=>Ck (ao ?_)) (.inr hx)));rw[List.set_comm _ _ (cb hij)]at I5;exact⟨_,H1,I5,q1⟩
def ZC(c:TT)(tb:TS):TS:=λD Z H=>∃W:Nat->St->Hp->Prop,(∃m,W m Z H)/\∀m Z H,W m Z H->
 c Z H λb H1=>if b=true then∃N:St->Hp->Prop,(∀σ' H',N σ' H'->∃m',m'<m/\W m' σ' H')/\tb {D with nx:=N,ct:=N,bk:=D.nx} Z H1 else D.nx Z H1
def Tg(hp:PassesOwn (-6) X.A X.env X.xe)(hc:PT X c tc)(hb:qo X body tb):PS X (.While c body [] pos) (ZC tc tb):=by
 intro pins s Z H D I h;obtain⟨W,⟨m0,w0⟩,turn⟩:=h;refine wpAny_While (codeAny_whileLoop (λn s'=>∃σ' H',Inv X pins σ' H' s'/\W n σ' H') ?_ m0 ⟨Z,H,I,w0⟩);rintro n s1 ⟨σ1,H1,I1,w1⟩;refine jl hp (Ik (hc pins s1 σ1 H1 _ I1 (turn n σ1 H1 w1)) λb s2 H2 I2 q2=>?_);cases b with
 |true=>
  obtain⟨N,hN,q2⟩:=q2;rw[aC rfl];refine jl hp (iT (hb pins s2 σ1 H2 _ I2 q2) λf s3 q3=>?_);cases f with
  |next=>
   obtain⟨σ3,H3,I3,n3⟩:=q3;obtain⟨m',hm,w3⟩:=hN σ3 H3 n3;exact⟨m',hm,σ3,H3,I3,w3⟩
  |cont=>
   obtain⟨σ3,H3,I3,n3⟩:=q3;obtain⟨m',hm,w3⟩:=hN σ3 H3 n3;exact⟨m',hm,σ3,H3,I3,w3⟩
  |brk=>exact q3
  |ret v=>exact q3
 |false=>
  rw[az aW];exact qt ⟨σ1,H2,I2,q2⟩
structure It where
 go:Nat->Hp->Prop
 xt:Nat->Hp->V->Hp->Prop
 stop:Nat->Hp->Prop
end
def pV(X:Cx)(pins:Aac)(H:Hp)(b:Addr):Prop:=
 H b=none/\b≠X.env.locals/\b∉X.fs/\(b∈X.ex\/X.aab.heap.objs.size<=b)/\(∀x c,X.env.cells.lookup x=some c->c≠b)/\∀p∈X.pn++pins,p.1≠b
def Inv.qN(I:Inv X pins Z H s)(hb:s.heap.objs.size<=b)(hn:H' b=none):pV X pins H' b:=by
 refine{hn,bA (aZ I.lt hb),I.aax hb,.inr (aD I.sz hb),λx c e z=>?_,λp hp z=>?_}
 ·obtain⟨v,q⟩:=I.cell x c e;exact absurd (aZ q.lt (by rw[z];exact hb)) (dD _)
 ·exact absurd (aZ (aI (I.pin p hp).1) (by rw[z];exact hb)) (dD _)
structure Turn(P:Program)(w:World)(K:Frag)(tg:Expr)(J:It)(fp:Aaj)(it:Addr)(tn:Nat->Heap->Prop):Prop where
 mem:it∈fp
 obj:∀i h,tn i h->∀b∈fp,∃o,h.get? b=some o/\∀v,o.data≠ .cell v
 keep:∀i h h',tn i h->(∀b∈fp,∀o,h.get? b=some o->h'.get? b=some o)->tn i h'
 item:∀(X:Cx),X.prog=P->X.w=w->X.K=K->X.calm=true->∀(i:Nat)(pins:Aac)(s:Shared)(Z:St)(H:Hp)(E:Aae),Inv X pins Z H s->(∀b∈fp,pV X pins H b)->tn i s.heap->J.go i H->
  wpAny (-29) X.A (pyNext (.ref it)) (λr s1=>∃u,r=some u/\
   wpAny (-29) X.A (letOwnedTupleGo tg (.ref it) u) (λ_ s2=>∃x H',Inv X pins Z H' s2/\RelV x u/\J.xt i H x H'/\tn (i+1) s2.heap/\∀b∈fp,H' b=none) E s1) E s
 done:∀(X:Cx),X.prog=P->X.w=w->X.K=K->X.calm=true->∀(i:Nat)(pins:Aac)(s:Shared)(Z:St)(H:Hp)(E:Aae),Inv X pins Z H s->(∀b∈fp,pV X pins H b)->tn i s.heap->J.stop i H->
  wpAny (-29) X.A (pyNext (.ref it)) (λr s1=>r=none/\Inv X pins Z H s1) E s
 self:∀(A:Around)(i:Nat)(s:Shared)(Q:Aae)(E:Aae),tn i s.heap->Q (.ref it) s->wpAny (-29) A (pyIter (.ref it)) Q E s
abbrev TI:=St->Hp->(It->Hp->Prop)->Prop
def PIE(X:Cx)(pins:Aac)(Z:St)(tg:Expr)(R:It->Hp->Prop)(itv:Value)(s2:Shared):Prop:=
 ∃(it:Addr)(fp:Aaj)(tn:Nat->Heap->Prop)(J:It)(H':Hp),itv=.ref it/\Inv X pins Z H' s2/\Turn X.prog X.w X.K tg J fp it tn/\tn 0 s2.heap/\(∀b∈fp,pV X pins H' b)/\R J H'
def PI(X:Cx)(tg iter:Expr)(wi:TI):Prop:=
 ∀(pins:Aac)(s:Shared)(Z:St)(H:Hp)(R:It->Hp->Prop),Inv X pins Z H s->wi Z H R->
  wpAny (-6) X.A (eval iter X.env) (λv s1=>wpAny (-6) X.A (pyIter v) (PIE X pins Z tg R) X.xe s1) X.xe s
def B6(ho:s.heap.get? it=some o)(hc:o.cls=.type n)(hd:o.data=.fields vs)
  (hn:["enumerate","zip","dict_itemiterator","dict_reverseitemiterator","odict_iterator","itertools.zip_longest","itertools.pairwise"].contains n=false) (hQ:Q () s):wpAny M A (letOwnedTupleGo tg (.ref it) u) Q E s:=by
 unfold letOwnedTupleGo;cases tg<;>first
  |exact ao hQ
  |(cases u<;>first
    |exact ao hQ
    |(refine af (Eh ho ?_);rw[hc,hd];show wpAny M A (if(["enumerate","zip","dict_itemiterator","dict_reverseitemiterator","odict_iterator","itertools.zip_longest","itertools.pairwise"].contains n&&vs[0]?==some (rawInt _))=true then _ else _) Q E s;rw[az (by intro h;rw[hn,lK]at h;cases h)];exact ao hQ))
def Nz(K:Frag)(a:Addr):It:=
 {λi H=>∃xs x,bo K H a xs/\xs[i]?=some x,λi H x H'=>H'=H/\∀xs,bo K H a xs->xs[i]?=some x,λi H=>∃xs,bo K H a xs/\xs.length<=i}
def Nx(K:Frag)(a:Addr):It:=
 {λi H=>∃xs x,bF K H a xs/\xs[i]?=some x,λi H x H'=>H'=H/\∀xs,bF K H a xs->xs[i]?=some x,λi H=>∃xs,bF K H a xs/\xs.length<=i}
def Ny(lo:Int)(n:Nat):It:={λi _=>i<n,λi H x H'=>H'=H/\x=.int (lo+i),λi _=>n<=i}
def Pu{K:Frag}(a it:Addr):Turn P w K tg (Nz K a) [it] it (λi h=>h.IsListIter it a i) where
 mem:=by simp
 obj:=λi h st b hb=>by
  have e:b=it:=by simpa using hb
  subst e;obtain⟨o,e,c,d⟩:=st;exact{o,e,λv z=>by rw[d]at z;cases z}
 keep:=λi h h' st k=>st.at λo e=>k it (-9) o e
 item:=by intro X hP hw hK hc i pins s Z H E I hf st hg;subst hP hw hK;obtain⟨xs,x,hq,hx⟩:=hg;obtain⟨aY,rv,p,hz⟩:=I.list hq;obtain⟨u,hu,ru⟩:=rv.get hx;obtain⟨f0,f1,f2,f3,f4,f5⟩:=hf it (-9);refine wM st p.isList (by simpa using hu) λh' gZ sb=>?_;have I1:=I.turned (t':=s.toks) (λb o hb e=>(sb.2 b hb).trans e) f0 f1 f3 f4 f5;obtain⟨o,e,c,d⟩:=id gZ;exact{u,rfl,B6 e c d (-8) {x,H,I1,ru,{rfl,λys hy=>by rw[I.DF hy hq];exact hx},gZ,λb hb=>(hf b hb).1}}
 done:=by intro X hP hw hK hc i pins s Z H E I hf st hg;subst hP hw hK;obtain⟨xs,hq,hx⟩:=hg;obtain⟨aY,rv,p,hz⟩:=I.list hq;obtain⟨f0,f1,f2,f3,f4,f5⟩:=hf it (-9);have hl:=rv.length;exact xv (I.ok.hd hc) st p.isList (by simp;lia) λh' eb=>{rfl,I.turned (λb o hb e=>eb b o hb e) f0 f1 f3 f4 f5}
 self:=λ_ _ _ _ _ st h=>wpAny_pyIter_listiter st h
def NB{K:Frag}(a it:Addr):Turn P w K tg (Nx K a) [it] it (λi h=>h.IsTupleIter it a i) where
 mem:=by simp
 obj:=λi h st b hb=>by
  have e:b=it:=by simpa using hb
  subst e;obtain⟨o,e,c,d⟩:=st;exact{o,e,λv z=>by rw[d]at z;cases z}
 keep:=λi h h' st k=>st.at λo e=>k it (-9) o e
 item:=by intro X hP hw hK hc i pins s Z H E I hf st hg;subst hP hw hK;obtain⟨xs,x,hq,hx⟩:=hg;obtain⟨aY,rv,p,hz⟩:=I.tuple hq;obtain⟨u,hu,ru⟩:=rv.get hx;obtain⟨f0,f1,f2,f3,f4,f5⟩:=hf it (-9);refine wpAny_pyNext_tuple_item st (show s.heap.IsTuple a aY.toArray from p) (by simpa using hu) λh' gZ sb=>?_;have I1:=I.turned (t':=s.toks) (λb o hb e=>(sb.2 b hb).trans e) f0 f1 f3 f4 f5;obtain⟨o,e,c,d⟩:=id gZ;exact{u,rfl,B6 e c d (-8) {x,H,I1,ru,{rfl,λys hy=>by rw[I.Ar hy hq];exact hx},gZ,λb hb=>(hf b hb).1}}
 done:=by intro X hP hw hK hc i pins s Z H E I hf st hg;subst hP hw hK;obtain⟨xs,hq,hx⟩:=hg;obtain⟨aY,rv,p,hz⟩:=I.tuple hq;obtain⟨f0,f1,f2,f3,f4,f5⟩:=hf it (-9);have hl:=rv.length;exact wpAny_pyNext_tuple_end (I.ok.hd hc) st (show s.heap.IsTuple a aY.toArray from p) (by simp;lia) λh' eb=>{rfl,I.turned (λb o hb e=>eb b o hb e) f0 f1 f3 f4 f5}
 self:=λ_ _ _ _ _ st h=>wpAny_pyIter_tupleiter st h
def NC{K:Frag}(it:Addr)(lo:Int)(n:Nat):Turn P w K tg (Ny lo n) [it] it (λi h=>IsRangeIter h it (lo+(i:Nat)*1) ((n:Int) -(i:Nat)) 1) where
 mem:=by simp
 obj:=λi h st b hb=>by
  have e:b=it:=by simpa using hb
  subst e;exact{_,st,λv z=>by have z':=z;cases z'}
 keep:=λi h h' st k=>k it (-9) _ st
 item:=by intro X hP hw hK hc i pins s Z H E I hf st hg;subst hP hw hK;obtain⟨f0,f1,f2,f3,f4,f5⟩:=hf it (-9);have W:=Walks.range (prog:=X.prog) (w:=X.w) (I.ok.hd hc) it lo 1 n;refine W.item i s _ _ hg st λv h' tk hv gZ kk=>?_;obtain⟨t,rfl⟩:=hv;have I1:Inv X pins Z H {s with heap:=h',toks:=tk}:=I.turned (λb o hb e=>kk b o (by simpa using hb) e) f0 f1 f3 f4 f5;refine{_,rfl,B6 gZ rfl rfl (-8) {.int (lo+i),H,I1,{t,?_},⟨rfl,rfl⟩,gZ,λb hb=>(hf b hb).1}};rw[Int.mul_one]
 done:=by intro X hP hw hK hc i pins s Z H E I hf st hg;obtain⟨f0,f1,f2,f3,f4,f5⟩:=hf it (-9);exact wpAny_pyNext_range_end (I.ok.hd hc) st (by have:n<=i:=hg;lia) λh' eb=>{rfl,I.turned (λb o hb e=>eb b o hb e) f0 f1 f3 f4 f5}
 self:=λ_ _ _ _ _ st h=>wpAny_pyIter_rangeiter st h
section
variable{X:Cx}{tg:Expr}
inductive aaT(K:Frag)(R:It->Hp->Prop)(x:V)(H1:Hp):Prop
 |mk a (_:x=.ref a) (_:(∃xs,bo K H1 a xs)) (_:R (Nz K a) H1)
def acz(K:Frag)(tl:TE):TI:=λZ H R=>tl Z H λx H1=>aaT K R x H1
inductive acw(K:Frag)(R:It->Hp->Prop)(x:V)(H1:Hp):Prop
 |mk a (_:x=.ref a) (_:(∃xs,bF K H1 a xs)) (_:R (Nx K a) H1)
def adB(K:Frag)(tl:TE):TI:=λZ H R=>tl Z H λx H1=>acw K R x H1
def fX(hl:PE X l tl):PI X tg l (acz X.K tl):=by
 intro pins s Z H R I h;refine df (hl pins s Z H _ I h) λv s1 x H1 I1 r1 q1=>?_;obtain⟨a,e,⟨xs,hq⟩,q⟩:=q1;subst e;cases r1;obtain⟨aY,rv,p,hz⟩:=I1.list hq;refine kT p.isList ?_;refine{s1.heap.objs.size,[s1.heap.objs.size],_,_,H1,rfl,I1.kept λb o e=>aq _ e,Pu a _,{_,aF _ rfl,rfl,rfl},λb hb=>?_,q};have e:b=s1.heap.objs.size:=by simpa using hb
 subst e;exact I1.qN (ar _) (I1.br.fresh (ar _))
def sM(hl:PE X l tl):PI X tg l (adB X.K tl):=by
 intro pins s Z H R I h;refine df (hl pins s Z H _ I h) λv s1 x H1 I1 r1 q1=>?_;obtain⟨a,e,⟨xs,hq⟩,q⟩:=q1;subst e;cases r1;obtain⟨aY,rv,p,hz⟩:=I1.tuple hq;refine sH (show s1.heap.IsTuple a aY.toArray from p) ?_;refine{s1.heap.objs.size,[s1.heap.objs.size],_,_,H1,rfl,I1.kept λb o e=>aq _ e,NB a _,{_,aF _ rfl,rfl,rfl},λb hb=>?_,q};have e:b=s1.heap.objs.size:=by simpa using hb
 subst e;exact I1.qN (ar _) (I1.br.fresh (ar _))
def S9{lo hi:Int}(I:Inv X pins Z H s)(h1:-(2^62)<=lo)(h2:lo<2^62)(h3:-(2^62)<=hi)(h4:hi<2^62)
  (q:R (Ny lo (hi -lo).toNat) H):wpAny (-6) X.A (pyIter (-12)) (PIE X pins Z tg R) E {s with heap:=s.heap.push {cls:=.type "range",data:=.fields #[.int lo t,.int hi u,.int 1 v]},toks:=tk}:=by
 refine wpAny_pyIter_range (IsRange.new ..) (small_one h1 h2 h3 h4) ?_;have I1:Inv X pins Z H {s with heap:=s.heap.push {cls:=.type "range",data:=.fields #[.int lo t,.int hi u,.int 1 v]},toks:=tk}:=I.kept λb o e=>aq _ e;refine{(-59).objs.size,[(-59).objs.size],_,_,H,rfl,
  I1.kept λb o e=>aq _ e,NC _ lo (hi -lo).toNat,?_,λb hb=>?_,q}
 ·have e1:lo+((0:Nat):Int)*1=lo:=by simp
  have e2:(((hi -lo).toNat:Nat):Int) -((0:Nat):Int)=Builtin.Range.rangeSize lo hi 1:=by rw[rangeSize_one];split<;>lia
  rw[e1,e2];exact aF _ rfl
 ·have e:b=(-59).objs.size:=by simpa using hb
  subst e;exact I1.qN (ar _) (I1.br.fresh (ar _))
inductive aaS(R:It->Hp->Prop)(vs:Aao)(H1:Hp):Prop
 |mk (j:Int) (_:vs=[.int j]) (_:-(2^62)<=j) (_:j<2^62) (_:R (Ny 0 j.toNat) H1)
def acy(ta:TA):TI:=λZ H R=>ta Z H λvs H1=>aaS R vs H1
def jP(hg:Gl X "range")(hm:X.mg "range"=none)(ha:PA X [a] ta)(hs:starEach [a] X.env=[(false,eval a X.env)]:=by rfl):PI X tg (.Call (.Name "range" p) [a] [] pos) (acy ta):=by
 intro pins s Z H R I h;refine FF (qF I hg hm boot_range (d9 (-55) hs rfl));obtain⟨j,e,q1,q2,q⟩:=q1;subst e;cases r1 with
 |cons r rr=>
  cases rr;obtain⟨t,rfl⟩:=r;exact call_range_1 (S9 I1 ∅ ∅ q1 q2 (by simpa using q))
def ac6(wi:TI)(g:TG)(tb:TS):TS:=λD Z H=>wi Z H λJ H1=>∃W:Nat->Nat->St->Hp->Prop,(∃m,W 0 m Z H1)/\∀i m Z H,W i m Z H->
 (J.stop i H/\D.nx Z H)\/(J.go i H/\∃N:St->Hp->Prop,(∀σ' H',N σ' H'->∃m',m'<m/\W (i+1) m' σ' H')/\∀x H',J.xt i H x H'->g x Z H' λσ2 H2=>tb {D with nx:=N,ct:=N,bk:=D.nx} σ2 H2)
def AM(fp:Aaj)(h:Heap):Aac:=fp.filterMap λb=>(h.get? b).map λo=>(b,o)
def uI(hb:b∈fp)(e:h.get? b=some o):(b,o)∈AM fp h:=kL.mpr {b,hb,by rw[e];rfl}
def Qt(hp:p∈AM fp h):p.1∈fp/\h.get? p.1=some p.2:=by
 obtain⟨b,hb,e⟩:=kL.mp hp;cases q:h.get? b with
 |none=>rw[q]at e;cases e
 |some o=>
  rw[q]at e;have e':=bK e;subst e';exact⟨hb,q⟩
def Inv.pinned(I:Inv X pins Z H s)(hf:∀b∈fp,pV X pins H b)(ho:∀b∈fp,∃o,s.heap.get? b=some o/\∀v,o.data≠ .cell v):Inv X (pins++AM fp s.heap) Z H s:=
 I.xH λp hp=>(bf.mp hp).elim (λz=>I.pin p (cc _ z)) λz=>by obtain⟨hb,e⟩:=Qt z;obtain⟨f0,f1,f2,_⟩:=hf p.1 hb;obtain⟨o,e',d⟩:=ho p.1 hb;rw[e]at e';cases e';exact⟨e,f0,f1,f2,d⟩
def Inv.yC(I:Inv X (pins++pl) Z H s):Inv X pins Z H s:=I.xH λp hp=>I.pin p (cc _ (gz _ hp))
def fQ(hp:PassesOwn (-6) X.A X.env X.xe)(hc:X.calm=true)(hi:PI X tg iter wi)(hg:PG X tg g)(hb:qo X body tb)
  (hs:∀x,foldedSetIterable iter X.env x=pure x:=by intro _;rfl):PS X (.For tg iter body [] pos) (ac6 wi g tb):=by
 intro pins s Z H D I h;refine wpAny_For (iT (hi pins s Z H _ I h) λv s1 h1=>iT h1 λitv s2 h2=>?_) hs;obtain⟨it,fp,tn,J,H2,e,I2,T,pX,f2,W,⟨m0,w0⟩,turn⟩:=h2;subst e;have SQ:∀{H':Hp},(∀b∈fp,H' b=none)->∀b∈fp,pV X pins H' b:=λhn b hb=>{hn b hb,(f2 b hb).2};refine codeAny_forLoop_any (λn s'=>∃i σ' H',Inv X pins σ' H' s'/\tn i s'.heap/\(∀b∈fp,H' b=none)/\W i n σ' H') ?_ m0 {0,Z,H2,I2,pX,λb hb=>(f2 b hb).1,w0};rintro n s3 ⟨i,σ3,H3,I3,uc,fr3,w3⟩;rcases turn i n σ3 H3 w3 with⟨stop,qn⟩|⟨go,N,hN,step⟩
 ·refine jl hp (iT (T.done X rfl rfl rfl hc i pins s3 σ3 H3 X.xe I3 (SQ fr3) uc stop) λr s4 Wd=>?_);obtain⟨hr,I4⟩:=Wd;subst hr;exact qt ⟨σ3,H3,I4,qn⟩
 ·refine jl hp (iT (T.item X rfl rfl rfl hc i pins s3 σ3 H3 X.xe I3 (SQ fr3) uc go) λr s4 hz5=>?_);obtain⟨u,hr,h4⟩:=hz5;subst hr;refine jl hp (iT h4 λ_ s5 hz6=>?_);obtain⟨x,H5,I5,r5,y5,oJ,fr5⟩:=hz6;have I5':=I5.pinned (SQ fr5) (T.obj _ _ oJ);refine jl hp (iT (hg _ s5 σ3 H5 x u _ I5' r5 (step x H5 y5)) λ_ s6 Wc=>?_);obtain⟨σ6,H6,I6,q6⟩:=Wc;refine jl hp (iT (hb _ s6 σ6 H6 _ I6 q6) λf s7 q7=>?_);have again:∀{σ7:St}{H7:Hp},Inv X (pins++AM fp s5.heap) σ7 H7 s7->N σ7 H7->∃m,m<n/\∃i σ' H',Inv X pins σ' H' s7/\tn i s7.heap/\(∀b∈fp,H' b=none)/\W i m σ' H':=λ{σ7 H7} I7 n7=>by obtain⟨m',hm,w7⟩:=hN σ7 H7 n7;refine{m',hm,i+1,σ7,H7,I7.yC,T.keep _ _ _ oJ λb hb o e=>(I7.pin (b,o) (cc _ (cc _ (uI hb e)))).1,λb hb=>?_,w7};obtain⟨o,e,d⟩:=T.obj _ _ oJ b hb;exact(I7.pin (b,o) (cc _ (cc _ (uI hb e)))).2.1
  cases f with
  |next=>obtain⟨σ7,H7,I7,n7⟩:=q7;exact again I7 n7
  |cont=>obtain⟨σ7,H7,I7,n7⟩:=q7;exact again I7 n7
  |brk=>obtain⟨σ7,H7,I7,q7⟩:=q7;exact{σ7,H7,I7.yC,q7}
  |ret v=>obtain⟨x7,σ7,H7,I7,r7,q7⟩:=q7;exact{x7,σ7,H7,I7.yC,r7,q7}
def DP{K:Frag}{g:TG}{tb:TS}{D:Ends}(Pv:Nat->St->Hp->Prop)(h0:Pv 0 Z H)(hl:∀i Z H,i<=xs.length->Pv i Z H->bo K H a xs)
  (hs:∀i x Z H,xs[i]?=some x->Pv i Z H->g x Z H λσ2 H2=>tb {D with nx:=Pv (i+1),ct:=Pv (i+1),bk:=D.nx} σ2 H2) (hd:∀Z H,Pv xs.length Z H->D.nx Z H):
  ∃W:Nat->Nat->St->Hp->Prop,(∃m,W 0 m Z H)/\∀i m Z H,W i m Z H->
   ((Nz K a).stop i H/\D.nx Z H)\/((Nz K a).go i H/\∃N:St->Hp->Prop,(∀σ' H',N σ' H'->∃m',m'<m/\W (i+1) m' σ' H')/\∀x H',(Nz K a).xt i H x H'->g x Z H' λσ2 H2=>tb {D with nx:=N,ct:=N,bk:=D.nx} σ2 H2):=by
 refine{λi m Z H=>m=xs.length -i/\i<=xs.length/\Pv i Z H,{xs.length,by simp,aP _,h0},?_};rintro i m Z H ⟨rfl,hi,p⟩;have q:=hl i Z H hi p;by_cases bJ:i<xs.length
 ·refine .inr {{xs,xs[i],q,by simp[bJ]},Pv (i+1),λσ' H' p'=>{xs.length -(i+1),by lia,rfl,bJ,p'},λx H' y=>?_};obtain⟨e,y⟩:=y;subst e;exact hs i x Z _ (y xs q) p
 ·have e:i=xs.length:=by lia
  subst e;exact .inl {{xs,q,ar _},hd Z H p}
def B7{K:Frag}{g:TG}{tb:TS}{D:Ends}(Pv:Nat->St->Hp->Prop)(h0:Pv 0 Z H)(hl:∀i Z H,i<=xs.length->Pv i Z H->bF K H a xs)
  (hs:∀i x Z H,xs[i]?=some x->Pv i Z H->g x Z H λσ2 H2=>tb {D with nx:=Pv (i+1),ct:=Pv (i+1),bk:=D.nx} σ2 H2) (hd:∀Z H,Pv xs.length Z H->D.nx Z H):
  ∃W:Nat->Nat->St->Hp->Prop,(∃m,W 0 m Z H)/\∀i m Z H,W i m Z H->
   ((Nx K a).stop i H/\D.nx Z H)\/((Nx K a).go i H/\∃N:St->Hp->Prop,(∀σ' H',N σ' H'->∃m',m'<m/\W (i+1) m' σ' H')/\∀x H',(Nx K a).xt i H x H'->g x Z H' λσ2 H2=>tb {D with nx:=N,ct:=N,bk:=D.nx} σ2 H2):=by
 refine{λi m Z H=>m=xs.length -i/\i<=xs.length/\Pv i Z H,{xs.length,by simp,aP _,h0},?_};rintro i m Z H ⟨rfl,hi,p⟩;have q:=hl i Z H hi p;by_cases bJ:i<xs.length
 ·refine .inr {{xs,xs[i],q,by simp[bJ]},Pv (i+1),λσ' H' p'=>{xs.length -(i+1),by lia,rfl,bJ,p'},λx H' y=>?_};obtain⟨e,y⟩:=y;subst e;exact hs i x Z _ (y xs q) p
 ·have e:i=xs.length:=by lia
  subst e;exact .inl {{xs,q,ar _},hd Z H p}
def Bi{lo:Int}{g:TG}{tb:TS}{D:Ends}(Pv:Nat->St->Hp->Prop)(h0:Pv 0 Z H)
  (hs:∀i Z H,i<n->Pv i Z H->g (.int (lo+i)) Z H λσ2 H2=>tb {D with nx:=Pv (i+1),ct:=Pv (i+1),bk:=D.nx} σ2 H2) (hd:∀Z H,Pv n Z H->D.nx Z H):
  ∃W:Nat->Nat->St->Hp->Prop,(∃m,W 0 m Z H)/\∀i m Z H,W i m Z H->
   ((Ny lo n).stop i H/\D.nx Z H)\/((Ny lo n).go i H/\∃N:St->Hp->Prop,(∀σ' H',N σ' H'->∃m',m'<m/\W (i+1) m' σ' H')/\∀x H',(Ny lo n).xt i H x H'->g x Z H' λσ2 H2=>tb {D with nx:=N,ct:=N,bk:=D.nx} σ2 H2):=by
 refine{λi m Z H=>m=n -i/\i<=n/\Pv i Z H,{n,by simp,aP _,h0},?_};rintro i m Z H ⟨rfl,hi,p⟩;by_cases bJ:i<n
 ·refine .inr {bJ,Pv (i+1),λσ' H' p'=>{n -(i+1),by lia,rfl,bJ,p'},λx H' y=>?_};obtain⟨e,y⟩:=y;subst e y;exact hs i Z _ bJ p
 ·have e:i=n:=by lia
  subst e;exact .inl {ar _,hd Z H p}
abbrev R2:=V->V->Hp->VK->Prop
end
def jh(X:Cx)(f:Value->Value->Sem Value)(r:R2):Prop:=
 ∀(pins:Aac)(s:Shared)(Z:St)(H:Hp)(x y:V)(v u:Value)(Q:VK),Inv X pins Z H s->RelV x v->RelV y u->r x y H Q->
  wpAny (-6) X.A (f v u) (EP X pins Z Q) X.xe s
def jv(X:Cx)(f:Value)(r:Aao->Hp->VK->Prop):Prop:=
 ∀(pins:Aac)(s:Shared)(Z:St)(H:Hp)(xs:Aao)(us:Aag)(Q:VK),Inv X pins Z H s->Vals xs us->r xs H Q->
  wpAny (-6) X.A (call f us) (EP X pins Z Q) X.xe s
def aez(X:Cx)(r:V->Hp->(Bool->Hp->Prop)->Prop):Prop:=
 ∀(pins:Aac)(s:Shared)(Z:St)(H:Hp)(x:V)(v:Value)(Q:Bool->Hp->Prop),Inv X pins Z H s->RelV x v->r x H Q->
  wpAny (-6) X.A (truthy v) (TP X pins Z Q) X.xe s
def Vo(r:R2)(ta tb:TE):TE:=λZ H Q=>ta Z H λx H1=>tb Z H1 λy H2=>r x y H2 Q
inductive rI(C:Int->Int->Prop)(g:Int->Int->V)(x:V)(y:V)(H:Hp)(Q:VK):Prop
 |mk i j (_:x=.int i) (_:y=.int j) (_:C i j) (_:Q (g i j) H)
inductive Ml(g:Int->Int->V)(x:V)(y:V)(H:Hp)(Q:VK):Prop
 |mk i j (_:x=.int i) (_:y=.int j) (_:Q (g i j) H)
section
variable{X:Cx}{a b:Expr}{ta tb:TE}{pos:Pos}
def U1(ha:PE X a ta)(hb:PE X b tb){R:V->V->Hp->Prop}(I:Inv X pins Z H s)
  (h:ta Z H λx H1=>tb Z H1 λy H2=>R x y H2) {f:Value->Value->Sem Value}
  (hf:∀v u s2 x y H2,Inv X pins Z H2 s2->RelV x v->RelV y u->R x y H2->wpAny (-6) X.A (f v u) Q X.xe s2):
  wpAny (-6) X.A (eval a X.env) (λv aaa=>wpAny (-6) X.A (eval b X.env) (λu aad=>wpAny (-6) X.A (f v u) Q X.xe aad) X.xe aaa) X.xe s:=by
 refine df (ha pins s Z H _ I h) λv s1 x H1 I1 r1 q1=>?_;refine df (hb pins s1 Z H1 _ I1 q1) λu s2 y H2 I2 r2 q2=>?_;exact hf v u s2 x y H2 I2 r1 r2 q2
def dM(ho:jh X (binaryOp op) r)(ha:PE X a ta)(hb:PE X b tb):PE X (.BinOp a op b pos) (Vo r ta tb):=by intro pins s Z H Q I h;exact wpAny_BinOp (U1 ha hb I h λv u s2 x y H2 I2 rx ry q=>ho pins s2 Z H2 x y v u Q I2 rx ry q)
def VH{g:Int->Int->Int}
  (rule:∀(i j:Int)(t u:Tok)(s:Shared)(Q:Aae)(E:Aae),C i j->Q (.int (g i j) s.toks) {s with toks:=s.toks+1}->wpAny (-6) X.A (f (.int i t) (.int j u)) Q E s):
  jh X f (rI C λi j=>.int (g i j)):=by
 intro pins s Z H x y v u Q I rx ry h;obtain⟨i,j,rfl,rfl,hc,q⟩:=h;obtain⟨t,rfl⟩:=rx;obtain⟨t',rfl⟩:=ry;exact rule i j t t' s _ _ hc {.int (g i j),H,I.tok _,⟨_,rfl⟩,q}
def adl{g:Int->Int->Int}
  (rule:∀(i j:Int)(t u:Tok)(s:Shared)(Q:Aae)(E:Aae),Q (.int (g i j) s.toks) {s with toks:=s.toks+1}->wpAny (-6) X.A (f (.int i t) (.int j u)) Q E s):
  jh X f (Ml λi j=>.int (g i j)):=by
 intro pins s Z H x y v u Q I rx ry h;obtain⟨i,j,rfl,rfl,q⟩:=h;obtain⟨t,rfl⟩:=rx;obtain⟨t',rfl⟩:=ry;exact rule i j t t' s _ _ {.int (g i j),H,I.tok _,⟨_,rfl⟩,q}
def Tw{g:Int->Int->Bool}
  (rule:∀(i j:Int)(t u:Tok)(s:Shared)(Q:Aae)(E:Aae),Q (.bool (g i j)) s->wpAny (-6) X.A (f (.int i t) (.int j u)) Q E s):
  jh X f (Ml λi j=>.bl (g i j)):=by
 intro pins s Z H x y v u Q I rx ry h;obtain⟨i,j,rfl,rfl,q⟩:=h;obtain⟨t,rfl⟩:=rx;obtain⟨t',rfl⟩:=ry;exact rule i j t t' s _ _ {.bl (g i j),H,I,rfl,q}
def aeC(i j:Int):Prop:=0<=j/\j<=1000000/\i.natAbs<2^64
def U8(i j:Int):Prop:=(-(2^64)<i/\i<2^64)\/(-(2^64)<j/\j<2^64)
def U8.ok(h:U8 i j):IntMulOk i j:=by
 rcases h with⟨h1,h2⟩|⟨h1,h2⟩
 ·exact .of_left (intBits_le_64 h1 h2)
 ·exact .of_right (intBits_le_64 h1 h2)
def jE:jh X (binaryOp .Add) (Ml λi j=>.int (i+j)):=adl λ_ _ _ _ _ _ _ q=>add_int q
def xK:jh X (binaryOp .Mult) (rI U8 λi j=>.int (i*j)):=VH λ_ _ _ _ _ _ _ hc q=>mul_int q hc.ok
def ph:jh X (binaryOp .Mod) (rI (λ_ j=>0<j) λi j=>.int (i % j)):=VH λi j _ _ _ _ _ hc q=>by have h1:(0:Int)<j:=hc;exact mod_int' ∅ (by rw[Int.fmod_eq_emod_of_nonneg i ∅];exact q)
def aam:jh X (binaryOp .Pow) (rI aeC λi j=>.int (i^j.toNat)):=VH λ_ _ _ _ _ _ _ hc q=>pow_int_small hc.1 hc.2.1 hc.2.2 q
def ZV:V->V->Bool
 | .cE,.cE=>true| .cE,.int _=>true| .int _,.cE=>true| .cE,.bl _=>true| .bl _,.cE=>true| .cE,.str _=>true| .str _,.cE=>true
 | .int _,.int _=>true| .bl _,.bl _=>true| .str _,.str _=>true| .ui _,.ui _=>true
 | .int _,.str _=>true| .str _,.int _=>true| .bl _,.str _=>true| .str _,.bl _=>true
 |_,_=>false
def rEq:R2:=λx y H Q=>ZV x y=true/\Q (.bl (decide (x=y))) H
def rNe:R2:=λx y H Q=>ZV x y=true/\Q (.bl (!decide (x=y))) H
def Nh:decide (V.int i=V.int j)=(i==j):=by rw[fV];simp
def RV:decide (V.bl i=V.bl j)=(i==j):=by rw[fV];simp
def Ng:decide (V.str i=V.str j)=(i==j):=by rw[fV];simp
def Ni:decide (V.ui i=V.ui j)=(i.toList==j.toList):=by rw[fV];cases i;cases j;simp
variable{c:Expr}{tc:TE}
def dJ(I:Inv X pins Z H s)(q:Q (.bl k) H)(e:k=k'):EP X pins Z Q (.bool k') s:=by subst e;exact{.bl k,H,I,rfl,q}
def uE:jh X (compareOp .Eq) rEq:=by
 intro pins s Z H x y v u Q I rx ry h;obtain⟨hs,q⟩:=h;cases x with
 |cE=>
  cases rx;cases y with
  |cE=>cases ry;exact PySem.EqNone.eq_none_none (dJ I q (-9))
  |bl j=>cases ry;exact PySem.EqNone.eq_none_bool (dJ I q (-9))
  |int j=>obtain⟨t',rfl⟩:=ry;exact PySem.EqNone.eq_none_int (dJ I q (-9))
  |str j=>obtain⟨t',rfl⟩:=ry;exact PySem.EqNone.eq_none_str (dJ I q (-9))
  |_=>exact absurd (show false=true from hs) aW
 |bl i=>
  cases rx;cases y with
  |cE=>cases ry;exact PySem.EqNone.eq_bool_none (dJ I q (-9))
  |bl j=>cases ry;exact eq_bool (dJ I q RV)
  |str j=>obtain⟨t',rfl⟩:=ry;exact PySem.EqMixed.eq_bool_str (dJ I q (-9))
  |_=>exact absurd (show false=true from hs) aW
 |int i=>
  obtain⟨t,rfl⟩:=rx;cases y with
  |cE=>cases ry;exact PySem.EqNone.eq_int_none (dJ I q (-9))
  |int j=>obtain⟨t',rfl⟩:=ry;exact eq_int (dJ I q Nh)
  |str j=>obtain⟨t',rfl⟩:=ry;exact PySem.EqMixed.eq_int_str (dJ I q (-9))
  |_=>exact absurd (show false=true from hs) aW
 |str i=>
  obtain⟨t,rfl⟩:=rx;cases y with
  |cE=>cases ry;exact PySem.EqNone.eq_str_none (dJ I q (-9))
  |bl j=>cases ry;exact PySem.EqMixed.eq_str_bool (dJ I q (-9))
  |int j=>obtain⟨t',rfl⟩:=ry;exact PySem.EqMixed.eq_str_int (dJ I q (-9))
  |str j=>obtain⟨t',rfl⟩:=ry;exact eq_str (dJ I q Ng)
  |_=>exact absurd (show false=true from hs) aW
 |ui i=>
  obtain⟨t,rfl⟩:=rx;cases y with
  |ui j=>obtain⟨t',rfl⟩:=ry;exact PySem.W.eq_bytes (dJ I q Ni)
  |_=>exact absurd (show false=true from hs) aW
 |_=>cases y<;>exact absurd (show false=true from hs) aW
def BZ:jh X (compareOp .NotEq) rNe:=by
 intro pins s Z H x y v u Q I rx ry h;obtain⟨hs,q⟩:=h;cases x with
 |cE=>
  cases rx;cases y with
  |cE=>cases ry;exact PySem.EqNone.ne_none_none (dJ I q (-9))
  |bl j=>cases ry;exact PySem.EqNone.ne_none_bool (dJ I q (-9))
  |int j=>obtain⟨t',rfl⟩:=ry;exact PySem.EqNone.ne_none_int (dJ I q (-9))
  |str j=>obtain⟨t',rfl⟩:=ry;exact PySem.EqNone.ne_none_str (dJ I q (-9))
  |_=>exact absurd (show false=true from hs) aW
 |bl i=>
  cases rx;cases y with
  |cE=>cases ry;exact PySem.EqNone.ne_bool_none (dJ I q (-9))
  |bl j=>cases ry;exact ne_bool (dJ I q (bU not RV))
  |str j=>obtain⟨t',rfl⟩:=ry;exact PySem.EqMixed.ne_bool_str (dJ I q (-9))
  |_=>exact absurd (show false=true from hs) aW
 |int i=>
  obtain⟨t,rfl⟩:=rx;cases y with
  |cE=>cases ry;exact PySem.EqNone.ne_int_none (dJ I q (-9))
  |int j=>obtain⟨t',rfl⟩:=ry;exact ne_int (dJ I q (bU not Nh))
  |str j=>obtain⟨t',rfl⟩:=ry;exact PySem.EqMixed.ne_int_str (dJ I q (-9))
  |_=>exact absurd (show false=true from hs) aW
 |str i=>
  obtain⟨t,rfl⟩:=rx;cases y with
  |cE=>cases ry;exact PySem.EqNone.ne_str_none (dJ I q (-9))
  |bl j=>cases ry;exact PySem.EqMixed.ne_str_bool (dJ I q (-9))
  |int j=>obtain⟨t',rfl⟩:=ry;exact PySem.EqMixed.ne_str_int (dJ I q (-9))
  |str j=>obtain⟨t',rfl⟩:=ry;exact ne_str (dJ I q (bU not Ng))
  |_=>exact absurd (show false=true from hs) aW
 |ui i=>
  obtain⟨t,rfl⟩:=rx;cases y with
  |ui j=>obtain⟨t',rfl⟩:=ry;exact PySem.W.ne_bytes (dJ I q (bU not Ni))
  |_=>exact absurd (show false=true from hs) aW
 |_=>cases y<;>exact absurd (show false=true from hs) aW
def ack:jh X (compareOp .Lt) (Ml λi j=>.bl (decide (i<j))):=Tw λ_ _ _ _ _ _ _ q=>lt_int q
def N9:jh X (compareOp .LtE) (Ml λi j=>.bl (decide (i<=j))):=Tw λ_ _ _ _ _ _ _ q=>le_int q
def acm:jh X (compareOp .GtE) (Ml λi j=>.bl (decide (j<=i))):=Tw λ_ _ _ _ _ _ _ q=>ge_int q
def Qo:jh X (compareOp .In) (λx y H Q=>∃i j,x=.str i/\y=.str j/\Q (.bl (!(Builtin.Str.occurrences j i 0 j.length 1).isEmpty)) H):=by intro pins s Z H x y v u Q I rx ry h;obtain⟨i,j,rfl,rfl,q⟩:=h;obtain⟨t,rfl⟩:=rx;obtain⟨t',rfl⟩:=ry;exact in_str (dJ I q rfl)
def aaq:jh X (compareOp .Is) (λx y H Q=>y=.cE/\Q (.bl (decide (x=.cE))) H):=by
 intro pins s Z H x y v u Q I rx ry h;obtain⟨rfl,q⟩:=h;cases ry;refine is_none_gen (dJ I q ?_);cases x<;>first
  |(cases rx;rfl)
  |(obtain⟨t,rfl⟩:=rx;rfl)
def X8:jh X (compareOp .IsNot) (λx y H Q=>y=.cE/\Q (.bl (!decide (x=.cE))) H):=by
 intro pins s Z H x y v u Q I rx ry h;obtain⟨rfl,q⟩:=h;cases ry;refine isnot_none_gen (dJ I q ?_);cases x<;>first
  |(cases rx;rfl)
  |(obtain⟨t,rfl⟩:=rx;rfl)
def eW(b:Expr)(h:op≠ .In:=by decide)(h2:op≠ .NotIn:=by decide):behindInMarks op b=false:=by
 have e1:(op==CmpOp.In)=false:=by cases op<;>first|rfl|exact absurd rfl h
 have e2:(op==CmpOp.NotIn)=false:=by cases op<;>first|rfl|exact absurd rfl h2
 cases b<;>simp[behindInMarks,e1,e2]
def FR(ho:jh X (compareOp op) r)(ha:PE X a ta)(hb:PE X b tb)(hm:behindInMarks op b=false):PE X (.Compare a [op] [b] pos) (Vo r ta tb):=by intro pins s Z H Q I h;exact wpAny_Compare1 (U1 ha hb I h λv u s2 x y H2 I2 rx ry q=>ho pins s2 Z H2 x y v u Q I2 rx ry q) hm
inductive ZF(Q:Bool->Hp->Prop)(x:V)(H':Hp):Prop
 |mk k (_:x=.bl k) (_:Q k H')
def abZ(t:TE):TT:=λZ H Q=>t Z H λx H'=>ZF Q x H'
def dh(ho:jh X (compareOp op) r)(ha:PE X a ta)(hb:PE X b tb)(hm:behindInMarks op b=false):PT X (.Compare a [op] [b] pos) (abZ (Vo r ta tb)):=by intro pins s Z H Q I h;refine xw (df (ha pins s Z H _ I h) λv s1 x H1 I1 r1 q1=>df (hb pins s1 Z H1 _ I1 q1) λu s2 y H2 I2 r2 q2=>iT (ho pins s2 Z H2 x y v u _ I2 r1 r2 q2) λc s3 hz8=>?_) hm;obtain⟨z,H3,I3,r3,k,e,q3⟩:=hz8;subst e;cases r3;exact iD ⟨H3,I3,q3⟩
def ZN(r r':R2)(ta tb tc:TE):TE:=λZ H Q=>ta Z H λx H1=>tb Z H1 λy H2=>r x y H2 λz H3=>∃k,z=.bl k/\
 (if k=true then tc Z H3 λw' H4=>r' y w' H4 Q else Q (.bl false) H3)
def Tt(ho:jh X (compareOp op) r)(rA:jh X (compareOp op') r')(ha:PE X a ta)(hb:PE X b tb)(hc:PE X c tc)
  (hm:lastMarks [op,op'] [b,c]=false:=by with_unfolding_all rfl):PE X (.Compare a [op,op'] [b,c] pos) (ZN r r' ta tb tc):=by
 intro pins s Z H Q I h;refine Compare_chain (df (ha pins s Z H _ I h) λv s1 x H1 I1 r1 q1=>chain_link (df (hb pins s1 Z H1 _ I1 q1) λu s2 y H2 I2 r2 q2=>iT (ho pins s2 Z H2 x y v u _ I2 r1 r2 q2) λd s3 J5=>?_)) hm;obtain⟨z,H3,I3,r3,k,e,q3⟩:=J5;subst e;cases r3;refine iD ?_;cases k with
 |false=>exact ite_ff {.bl false,H3,I3,rfl,q3}
 |true=>exact ite_tt (chain_last (iT (hc pins s3 Z H3 _ I3 q3) λw' s4 ⟨z',H4,I4,r4,q4⟩=>rA pins s4 Z H4 y z' u w' Q I4 r2 r4 q4))
def abH(K:Frag)(x:V)(H:Hp)(k:Bool):Prop:=
 match x with
 | .cE=>k=false
 | .bl b=>k=b
 | .int i=>k=(i !=0)
 | .str y=>y.length<=sizeLine/\k=((y.length:Int) !=0)
 | .ui y=>y.size<=sizeLine/\k=((y.size:Int) !=0)
 | .ref p=>(∃xs,bo K H p xs/\k=!xs.isEmpty)\/(∃xs,bF K H p xs/\k=!xs.isEmpty)\/∃kvs,H p=some (.dK kvs)/\k=!kvs.isEmpty
 |_=>False
def Ow(r:KV kvs vs):(!vs.isEmpty)=!kvs.isEmpty:=by cases r<;>rfl
def EU(r:Vals xs aY):(!aY.toArray.isEmpty)=!xs.isEmpty:=by cases r<;>simp
def xP:(sizeLine:Nat)<2^63:=by rw[b8];decide
def Zw:aez X (λx H Q=>∃k,abH X.K x H k/\Q k H):=by
 intro pins s Z H x v Q I rx h;obtain⟨k,e,q⟩:=h;have hl:=xP;have hs:sizeLine=16777216:=b8;cases x with
 |cE=>
  cases rx;have e':k=false:=e;subst e';exact truthy_none ⟨H,I,q⟩
 |bl b=>
  cases rx;have e':k=b:=e;subst e';exact iD ⟨H,I,q⟩
 |int i=>
  obtain⟨t,rfl⟩:=rx;have e':k=(i !=0):=e;subst e';exact PySem.P.truthy_int ⟨H,I,q⟩
 |str y=>
  obtain⟨t,rfl⟩:=rx;obtain⟨hy,e'⟩:y.length<=sizeLine/\k=((y.length:Int) !=0):=e;subst e';exact PySem.P.truthy_str ∅ {H,I.tok _,q}
 |ui y=>
  obtain⟨t,rfl⟩:=rx;obtain⟨hy,e'⟩:y.size<=sizeLine/\k=((y.size:Int) !=0):=e;subst e';exact PySem.W.truthy_bytes ∅ {H,I.tok _,q}
 |ref p=>
  cases rx;have e':(∃xs,bo X.K H p xs/\k=!xs.isEmpty)\/(∃xs,bF X.K H p xs/\k=!xs.isEmpty)\/∃kvs,H p=some (.dK kvs)/\k=!kvs.isEmpty:=e;rcases e' with⟨xs,hx,e'⟩|⟨xs,hx,e'⟩|⟨kvs,hx,e'⟩
  ·subst e';obtain⟨aY,r,pl,hz⟩:=I.list hx;have hlen:=r.length;exact wpAny_truthy_list pl.isList (by simp only[aQ];lia) {H,I.tok _,by rw[EU r];exact q}
  ·subst e';obtain⟨aY,r,pl,hz⟩:=I.tuple hx;have hlen:=r.length;exact truthy_tuple pl (by simp only[aQ];lia) {H,I.tok _,by rw[EU r];exact q}
  ·subst e';obtain⟨hz,hS,vs,r,m⟩:kvs.length<=sizeLine/\(p==sysModules)=false/\∃vs,KV kvs vs/\s.heap.DictOf (bH X.prog X.w) p vs:=I.br p _ hx;have hlen:kvs.length=vs.length:=bw r;exact wpAny_truthy_dict hS m ∅ {H,I.tok _,by rw[Ow r];exact q}
 |_=>exact(show False from e).elim
def IY(ha:PE X a ta)(he:∀whole,isTrue a X.env whole=(do let v<-whole;standAt a.pos;holding [v] (truthy v))):
  PT X a (λZ H Q=>ta Z H λx H'=>∃k,abH X.K x H' k/\Q k H'):=by
 intro pins s Z H Q I h;exact isTrue_plain (df (ha pins s Z H _ I h) λv s1 x H1 I1 r1 q1=>Zw pins s1 Z H1 x v Q I1 r1 q1) (he _)
def Oa:jh X (binaryOp .Add) (λx y H Q=>∃i j,x=.str i/\y=.str j/\i.length+j.length<=sizeLine/\Q (.str (i++j)) H):=by intro pins s Z H x y v u Q I rx ry h;obtain⟨i,j,rfl,rfl,hz,q⟩:=h;obtain⟨t,rfl⟩:=rx;obtain⟨t',rfl⟩:=ry;exact add_str (λt' tk=>{.str (i++j),H,I.tok _,⟨_,rfl⟩,q}) hz
def lO(r:Vals [x] us):∃u,us=[u]/\RelV x u:=by
 cases r with
 |cons r1 r2=>cases r2;exact⟨_,rfl,r1⟩
def vals2(r:Vals [x,y] us):∃u w',us=[u,w']/\RelV x u/\RelV y w':=by
 cases r with
 |cons r1 r2=>
  cases r2 with
  |cons r3 r4=>cases r4;exact⟨_,_,rfl,r1,r3⟩
def abL(K:Frag)(x:V)(H:Hp)(n:Nat):Prop:=
 match x with
 | .str y=>y.length<=sizeLine/\n=y.length
 | .ui y=>y.size<=sizeLine/\n=y.size
 | .ref p=>(∃xs,bo K H p xs/\n=xs.length)\/∃xs,bF K H p xs/\n=xs.length
 |_=>False
def iS:jv X (.builtin "len") (λxs H Q=>∃x n,xs=[x]/\abL X.K x H n/\Q (.int n) H):=by
 intro pins s Z H xs us Q I r h;obtain⟨x,n,rfl,e,q⟩:=h;obtain⟨u,rfl,rx⟩:=lO r;have hl:=xP;have hs:sizeLine=16777216:=b8;cases x with
 |str y=>
  obtain⟨t,rfl⟩:=rx;obtain⟨hy,e'⟩:y.length<=sizeLine/\n=y.length:=e;subst e';exact len_str ∅ {.int _,H,I.tok _,⟨_,rfl⟩,q}
 |ui y=>
  obtain⟨t,rfl⟩:=rx;obtain⟨hy,e'⟩:y.size<=sizeLine/\n=y.size:=e;subst e';exact PySem.W.len_bytes ∅ {.int _,H,I.tok _,⟨_,rfl⟩,q}
 |ref p=>
  cases rx;have e':(∃xs,bo X.K H p xs/\n=xs.length)\/∃xs,bF X.K H p xs/\n=xs.length:=e;rcases e' with⟨xs,hx,e'⟩|⟨xs,hx,e'⟩
  ·subst e';obtain⟨aY,r',pl,hz⟩:=I.list hx;have hlen:=r'.length;exact Calls.call_len_list pl.isList (by simp only[aQ];lia) {.int xs.length,H,I.tok _,{_,by simp only[aQ];rw[hlen]},q}
  ·subst e';obtain⟨aY,r',pl,hz⟩:=I.tuple hx;have hlen:=r'.length;exact len_tuple pl (by simp only[aQ];lia) {.int xs.length,H,I.tok _,{_,by simp only[aQ];rw[hlen]},q}
 |_=>exact(show False from e).elim
structure Ed(h:Heap)(x dx C:Addr)(mA:Aad):Prop where
 obj:h.get? x=some (instObj C dx)
 ns:h.Ns1 dx mA
 ne:dx≠x
def QL{h:Heap}(n:h.Ns1 dx mA):∃od,h.get? dx=some od/\∀name,lookIn name od=some (mA name):=by
 obtain⟨o,es,ep,ho,hd,hk,_,hm⟩:=n;refine{o,ho,λname=>?_};have e:=hm name;unfold nsFind findBy at e;rw[<-Array.find?_toList]at e;unfold lookIn;rw[hd];dsimp only;split
 ·rename_i y q;rw[q]at e;exact bU some e
 ·rename_i q;rw[q]at e;have a:es.toList.any (·.refKey)=false:=by rw[List.any_eq_false];intro y hy;obtain⟨z,t,lE⟩:=hk y (l9.mp hy);simp[DictEntry.refKey,lE]
  have a':¬es.toList.any (·.refKey)=true:=by rw[a];exact aW
  rw[az a'];exact bU some e
def Ed.look(I:Ed h x dx C mA):∃od,PySem.W.InstAt h x (instObj C dx) C (some od)/\∀name,lookIn name od=some (mA name):=
 let⟨od,ho,hl⟩:=QL I.ns
 {od,{I.obj,rfl,rfl,ho},hl}
variable{prog:Program}{w:World}{A:Around}{E:Aae}{s:Shared}{K:Frag}{x dx C f:Addr}{mA:Aad}{name:Str}{v:Value}
def get_map(X:K.In s.heap)(I:Ed s.heap x dx C mA)(hg:plainGet K C name=true)(hh:hasDictIn K C=true)
  (ha:findIn K (.ref C) name=some none) (hv:mA name=some v) (hv':PySem.W.handedIn v=true) (h:Q v {s with toks:=s.toks+1}):
  wpAny (-5) A (getAttr (.ref x) name expr) Q E s:=by
 obtain⟨od,J,hl⟩:=I.look;exact PySem.W.get_value X J (rD hg).1 (PySem.W.findObj_own hh ha rfl (by rw[hl,hv])) hv' h
def Uy(X:K.In s.heap)(I:Ed s.heap x dx C mA)(hg:plainGet K C name=true)
  (hf:findIn K (.ref C) name=some (some (.ref f))) (ht:isFn K (.ref f)=true) (hv:mA name=none) (h:Q (.ref f,[.ref x]) s):
  wpAny (-5) A (getMethod (.ref x) name pl) Q E s:=by
 obtain⟨od,J,hl⟩:=I.look;exact PySem.W.method_fn X J (rD hg).1 (rD hg).2 hf (qS.mp ht) (by show(lookIn name od).map (·.isSome)=some false;rw[hl,hv];rfl) h
def XB(X:K.In s.heap)(I:Ed s.heap x dx C mA)
  (hs:findIn K (.ref C) "__setattr__"=some (some (.builtin "object.__setattr__"))) (hp:PySem.W.plainOver K C=true) (ht:PySem.W.takerIn K C name=some none) (hh:hasDictIn K C=true)
  (hw:PySem.Within mA ns) (hsz:ns.length<=sizeLine)
  (h:∀h',Ed h' x dx C (λy=>if y=name then some v else mA y)->Heap.SameBut dx s.heap h'->Q () {s with heap:=h',toks:=s.toks+2}):
  wpAny (-5) A (setAttr (.ref x) name v) Q E s:=by
 obtain⟨od,J,hl⟩:=I.look;refine PySem.W.set_plain X J hs (PySem.W.osa_open X J hp ht λb=>?_);obtain⟨cd,hc,qh⟩:=PySem.W.any_some hh;have hx:=I.obj;refine af (ao (af (af (wpAny_loadPart hx (af (PySem.W.Looks.here (PySem.W.looks_clsIn X hc) ?_))))));rw[qh];refine ao (af (ao (af ?_)));refine wpAny_nsSet1 I.ns λh' uf kH=>?_;obtain⟨oD,esD,epD,hoD,hdD,hcD⟩:=uf.count (PySem.Within.cons name v hw);refine af (wpAny_lookBehind hoD (by rw[hdD];exact pastItsLine_dict (aD hcD (by rw[bx];lia))) ?_);exact ao (h _ {(kH.2 _ (cb I.ne)).trans I.obj,uf,I.ne} kH)
def TU(X:K.In s.heap)(hm:PySem.W.makesIn K C=true)
  (hi:findIn K (.ref C) "__init__"=some (some (.ref f))) (hf:PySem.W.typeIn K (.ref f)=some (.type "function"))
  (h:codeAny (-5) (A.under (.builtin "type.__call__" {.ref C::vs,kw})) (.call (.ref f) {.ref (-17)::vs,kw}) (PySem.W.InitBack (-17) R)
   {s with heap:=(s.heap.push emptyDict).push (instObj C s.heap.objs.size)}):
  codeAny (-5) A (.call (.ref C) ⟨vs,kw⟩) R s:=by
 obtain⟨hh,g,d,t,os⟩:=s;exact PySem.W.make_core (PySem.W.makes_of X hm) (PySem.W.looks_findIn X hi) (λself=>PySem.W.bind_fn X self hf) (.inl rfl) h
end
def fu(f:Str)(v:V):List (Str×V)->List (Str×V)
 |[]=>[(f,v)]
 |(g,x)::r=>if g=f then(g,v)::r else(g,x)::fu f v r
theorem CP(f g:Str)(v:V):∀fs:List (Str×V),(fu f v fs).lookup g=if g=f then some v else fs.lookup g
 |[]=>by
  show List.lookup g [(f,v)]=_;by_cases h:g=f
  ·have hb:(g==f)=true:=qS.mpr h;simp only[List.lookup,hb,aC h]
  ·have hb:=dB.mpr h;simp only[List.lookup,hb,az h]
 |(k,x)::r=>by
  have ih:=CP f g v r;rw[show fu f v ((k,x)::r)=(if k=f then(k,v)::r else(k,x)::fu f v r)from rfl];by_cases hk:k=f
  ·rw[aC hk];by_cases h:g=k
   ·have hb:=qS.mpr h;simp only[List.lookup,hb,aC (h.trans hk)]
   ·have hb:=dB.mpr h;simp only[List.lookup,hb,az (λe:g=f=>h (e.trans hk.symm))]
  ·rw[az hk];by_cases h:g=k
   ·have hb:=qS.mpr h;simp only[List.lookup,hb,az (λe:g=f=>hk (h.symm.trans e))]
   ·have hb:=dB.mpr h;simp only[List.lookup,hb];exact ih
theorem A3(f:Str)(v:V):∀fs:List (Str×V),f∈(fu f v fs).map (·.1)/\∀g,g∈fs.map (·.1)->g∈(fu f v fs).map (·.1)
 |[]=>{by simp[fu],λg h=>by simp at h}
 |(k,x)::r=>by
  obtain⟨i1,i2⟩:=A3 f v r;rw[show fu f v ((k,x)::r)=(if k=f then(k,v)::r else(k,x)::fu f v r)from rfl];by_cases hk:k=f
  ·rw[aC hk];subst hk;exact{by simp,λg h=>by simpa using h}
  ·rw[az hk];refine{?_,λg h=>?_}
   ·rw[aU];exact aB _ i1
   ·rw[aU]at h⊢;rcases aG.mp h with e|e
    ·exact aG.mpr (.inl e)
    ·exact aB _ (i2 g e)
theorem CQ(f:Str)(v:V):∀fs:List (Str×V),(fu f v fs).length<=fs.length+1
 |[]=>by simp[fu]
 |(k,x)::r=>by
  have ih:=CQ f v r;rw[show fu f v ((k,x)::r)=(if k=f then(k,v)::r else(k,x)::fu f v r)from rfl];by_cases hk:k=f
  ·rw[aC hk,bx,bx];lia
  ·rw[az hk,bx,bx];lia
def lG.some_of(r:lG (some v) o):∃u,o=some u/\RelV v u:=by
 cases o with
 |none=>exact(show False from r).elim
 |some u=>exact⟨u,rfl,r⟩
def lG.none_of(r:lG none o):o=none:=by
 cases o with
 |none=>rfl
 |some u=>exact(show False from r).elim
def RD(r:RelV v u):PySem.W.handedIn u=true:=by
 cases v with
 |cE=>cases(show u=Value.none from r);rfl
 |bl b=>cases(show u=Value.bool b from r);rfl
 |int i=>obtain⟨t,e⟩:=(show∃t,u=Value.int i t from r);cases e;rfl
 |str x=>obtain⟨t,e⟩:=(show∃t,u=Value.str x t from r);cases e;rfl
 |ui b=>obtain⟨t,e⟩:=(show∃t,u=Value.bytes b t from r);cases e;rfl
 |Kv b=>obtain⟨t,e⟩:=(show∃t,u=Value.float b t from r);cases e;rfl
 |ref a=>cases(show u=Value.ref a from r);rfl
 |ty n=>cases(show u=Value.type n from r);rfl
section
variable{P:Program}{w:World}{H:Hp}{h:Heap}{a C dx:Addr}{fs:List (Str×V)}
def B4(br:jI P w H h)(e:H a=some (.ins C dx fs)):∃mA,Ed h a dx C mA/\(∀f,lG (fs.lookup f) (mA f))/\PySem.Within mA (fs.map (·.1))/\fs.length<=1000/\H dx=some (.own a):=by obtain⟨d,z,ne,ob,mA,n,r,q⟩:=(show dG P w H h a (.ins C dx fs)from br a _ e);exact{mA,⟨ob,n,ne⟩,r,q,z,d}
end
structure BP(K:Frag)(C:Addr):Prop where
 pg:plainGet K C Str.empty=true
 hd:hasDictIn K C=true
 po:PySem.W.plainOver K C=true
 sa:findIn K (.ref C) "__setattr__"=some (some (.builtin "object.__setattr__"))
def BP.get{K:Frag}(c:BP K C)(f:Str):plainGet K C f=true:=c.pg
def pC(K:Frag)(C:Addr)(f:Str):Prop:=findIn K (.ref C) f=some none
def pC.abX{K:Frag}(n:pC K C f):PySem.W.takerIn K C f=some none:=by unfold PySem.W.takerIn;rw[show findIn K (.ref C) f=some none from n];rfl
structure Con(K:Frag)(C:Addr)(f:Str)(v:V)(u:Value):Prop where
 at_:findIn K (.ref C) f=some (some u)
 rel:RelV v u
 get:PySem.W.specialIn K u "__get__"=some none
 cp:PySem.W.copiedNames.contains f=false
structure Meth(K:Frag)(C:Addr)(m:Str)(f:Addr):Prop where
 at_:findIn K (.ref C) m=some (some (.ref f))
 fn:isFn K (.ref f)=true
 kp:keepIn K (.ref f)=true
section
variable{X:Cx}{pins:Aac}{Z:St}{H:Hp}{s:Shared}{a C dx:Addr}{fs:List (Str×V)}{f:Str}{v:V}{A:Around}{E:Aae}
def OQ(I:Inv X pins Z H s)(e:H a=some (.ins C dx fs))(c:BP X.K C)(n:pC X.K C f)(l:fs.lookup f=some v)
  (h:∀u s',Inv X pins Z H s'->RelV v u->Q u s'):wpAny (-6) A (getAttr (-51) f b) Q E s:=by
 obtain⟨mA,O,r,_,_,_⟩:=B4 I.br e;obtain⟨u,hu,ru⟩:=lG.some_of (by rw[<-l];exact r f);exact get_map I.mT O (c.get f) c.hd n hu (RD ru) (h u _ (I.tok _) ru)
def OP(I:Inv X pins Z H s)(e:H a=some (.ins C dx fs))(c:BP X.K C)(k:Meth X.K C m g)(l:fs.lookup m=none)
  (h:Q (.ref g,[.ref a]) s):wpAny (-6) A (getMethod (-51) m pl) Q E s:=by
 obtain⟨mA,O,r,_,_,_⟩:=B4 I.br e;have hn:=lG.none_of (by rw[<-l];exact r m);exact Uy I.mT O (c.get m) k.at_ k.fn hn h
def NO(I:Inv X pins Z H s)(e:H a=some (.ins C dx fs))(c:BP X.K C)(n:pC X.K C f)(hl:fs.length<1000)(ry:RelV y u)
  (h:∀s',Inv X pins Z (upd H a (.ins C dx (fu f y fs))) s'->Q () s'):wpAny (-6) A (setAttr (-51) f u) Q E s:=by
 obtain⟨mA,O,r,wi,_,ho⟩:=B4 I.br e;have hz:(fs.map (·.1)).length<=sizeLine:=by rw[ak,b8];lia
 refine XB I.mT O c.sa c.po n.abX c.hd wi hz λh' O' sb=>h _ ?_;have hd:∃o,h'.get? dx=some o:=let⟨o,_,_,e',_⟩:=O'.ns;⟨o,e'⟩
 refine I.write (by rw[e];exact True.intro) (.inr ho) (λb q hb z=>(sb.2 b hb).trans z) hd ?_;refine{by rw[aE O.ne];exact ho,?_,O.ne,O'.obj,_,O'.ns,λg=>?_,λg hg=>?_}
 ·have:=CQ f y fs;lia
 ·show lG ((fu f y fs).lookup g) (if g=f then some u else mA g);rw[CP];by_cases q:g=f
  ·rw[aC q,aC q];exact ry
  ·rw[az q,az q];exact r g
 ·by_cases q:g=f
  ·rw[q];exact(A3 f y fs).1
  ·refine(A3 f y fs).2 g (wi g λz=>hg ?_);show(if g=f then some u else mA g)=none;rw[az q];exact z
def Inv.made(I:Inv X pins Z H s):Inv X pins Z (upd (upd H s.heap.objs.size (.own (-17))) (-17) (.ins C s.heap.objs.size []))
  {s with heap:=(s.heap.push emptyDict).push (instObj C s.heap.objs.size)}:=by
 have e1:(s.heap.push emptyDict).get? s.heap.objs.size=some emptyDict:=aF s.heap rfl;have e2:((s.heap.push emptyDict).push (instObj C s.heap.objs.size)).get? (-17)=some (instObj C s.heap.objs.size):=by have:=aF (s.heap.push emptyDict) (o:=instObj C s.heap.objs.size) rfl;rwa [cB]at this
 have e3:(s.heap.push emptyDict).Ns s.heap.objs.size (λ_=>none):={emptyDict,#[],_,e1,rfl,(λe he=>absurd he (-9)),λ_=>rfl};have I1:=I.laid (o:=.own (-17)) (t':=s.toks) (λb u q=>aq _ q) (ar _) ⟨_,e1⟩;refine I1.laid (λb u q=>aq _ q) (BH (cB _ _)) ?_;have ne:s.heap.objs.size≠s.heap.objs.size+1:=aL (dC _);refine{by rw[aE ne,aw],aP _,ne,e2,λ_=>none,(Heap.Ns1.of_empty e3).at λo q=>aq _ q,λ_=>True.intro,λy hy=>absurd rfl hy}
def YY(hb:attributeBase e f env (eval e env)=eval e env)
  (h:wpAny (-5) A (eval e env) (λo aaa=>wpAny (-5) A (getAttr o f true) Q E aaa) E s):wpAny (-5) A (eval (.Attribute e f pos) env) Q E s:=
 Attribute_any_ h (by rw[arm_eval_Attribute,hb])
end
inductive ab3(K:Frag)(f:Str)(Q:VK)(x:V)(H1:Hp):Prop
 |mk a C dx fs v (_:x=.ref a) (_:H1 a=some (.ins C dx fs)) (_:BP K C) (_:pC K C f) (_:fs.lookup f=some v) (_:Q v H1)
def SM(K:Frag)(ta:TE)(f:Str):TE:=λZ H Q=>ta Z H λx H1=>ab3 K f Q x H1
inductive ace(K:Frag)(f:Str)(D:Ends)(Z:St)(y:V)(x:V)(H2:Hp):Prop
 |mk a C dx fs (_:x=.ref a) (_:H2 a=some (.ins C dx fs)) (_:BP K C) (_:pC K C f) (_:fs.length<1000) (_:D.nx Z (upd H2 a (.ins C dx (fu f y fs))))
def ada(K:Frag)(ta tv:TE)(f:Str):TS:=λD Z H=>tv Z H λy H1=>ta Z H1 λx H2=>ace K f D Z y x H2
section
variable{X:Cx}{o e value:Expr}{f:Str}{pos pos':Pos}{ta tv:TE}
def mw(he:PE X e ta)(hb:attributeBase e f X.env (eval e X.env)=eval e X.env):PE X (.Attribute e f pos) (SM X.K ta f):=by intro pins s Z H Q I h;refine YY hb (df (he pins s Z H _ I h) λu s1 x H1 I1 rx Oz=>?_);obtain⟨a,C,dx,fs,v,ex,ea,c,n,l,q⟩:=Oz;subst ex;obtain rfl:u=Value.ref a:=rx;exact OQ I1 ea c n l λu' s2 I2 ru=>⟨v,H1,I2,ru,q⟩
def xF(ha:PE X o ta)(hv:PE X value tv)(hs:swapsWith value (some (.Attribute o f pos')) pos.line X.env=pure false):PS X (.Assign [.Attribute o f pos'] value pos) (ada X.K ta tv f):=by intro pins s Z H D I h;refine plainObj_wpAny_Assign_Attribute (df (hv pins s Z H _ I h) λu s1 y H1 I1 ry q=>df (ha pins s1 Z H1 _ I1 q) λov s2 x H2 I2 rx ad3=>?_) hs;obtain⟨a,C,dx,fs,ex,ea,c,n,l,q2⟩:=ad3;subst ex;obtain rfl:ov=Value.ref a:=rx;exact NO I2 ea c n l ry λs3 I3=>⟨Z,_,I3,q2⟩
end
section
variable{X:Cx}{pins:Aac}{Z:St}{H:Hp}{s:Shared}{A:Around}{E Q:Aae}{c:Value}{b:Bool}
inductive oX(K:Frag)(H:Hp):V->Value->Prop where
 |cE:oX K H .cE (.type "NoneType")
 |bl (x:Bool):oX K H (.bl x) (.type "bool")
 |int (i:Int):oX K H (.int i) (.type "int")
 |str (x:Str):oX K H (.str x) (.type "str")
 |Kv (x:UInt64):oX K H (.Kv x) (.type "float")
 |lst {a:Addr} {xs:Aao} (e:H a=some (.lst xs)):oX K H (.ref a) (.type "list")
 |c7 {a:Addr} {o:Obj} {xs:Aao} (e:H a=some (.c7 o (.lst xs))):oX K H (.ref a) (.type "list")
 |tup {a:Addr} {xs:Aao} (e:H a=some (.tup xs)):oX K H (.ref a) (.type "tuple")
 |dK {a:Addr} {kvs:List (Key×V)} (e:H a=some (.dK kvs)):oX K H (.ref a) (.type "dict")
 |dT {a:Addr} {kvs:List (List Key×V)} (e:H a=some (.dT kvs)):oX K H (.ref a) (.type "dict")
 |ins {a C dx:Addr} {fs:List (Str×V)} (e:H a=some (.ins C dx fs)) (cl:BP K C) (ha:findIn K (.ref C) "__class__"=some (some (.builtin "object.__class__")))
   (hn:PySem.W.specialIn K (.builtin "object.__class__") "__get__"=some (some (.builtin "getset_descriptor.__get__"))) (Ra:PySem.W.takesIn K (.builtin "object.__class__")=some true)
   (hm:PySem.W.mroIn K C (.type "object")=some true):oX K H (-51) (.ref C)
def Q0(I:Inv X pins Z H s)(rx:RelV x u)(ty:oX X.K H x t)(e:kitOne X.K t c=some b)(h:∀tk,Q (.bool b) {s with toks:=tk}):
  wpAny (-6) A (call (.builtin "isinstance") [u,c]) Q E s:=by
 cases ty with
 |cE=>cases(show u=Value.none from rx);exact eY PySem.W.kitx_none I.mT True.intro e (λz=>nomatch z) h
 |bl y=>cases(show u=Value.bool y from rx);exact eY PySem.W.kitx_bool I.mT True.intro e (λz=>nomatch z) h
 |int i=>obtain⟨t,q⟩:=(show∃t,u=Value.int i t from rx);cases q;exact eY PySem.W.kitx_int I.mT True.intro e (λz=>nomatch z) h
 |str y=>obtain⟨t,q⟩:=(show∃t,u=Value.str y t from rx);cases q;exact eY PySem.W.kitx_str I.mT True.intro e (λz=>nomatch z) h
 |Kv y=>obtain⟨t,q⟩:=(show∃t,u=Value.float y t from rx);cases q;exact eY PySem.W.kitx_float I.mT True.intro e (λz=>nomatch z) h
 |@lst a xs ea=>
  cases(show u=Value.ref a from rx);obtain⟨_,_,n,_,h1⟩:=(show dG X.prog X.w H s.heap a (.lst xs)from I.br a _ ea);exact eY Cp I.mT ⟨_,h1,rfl⟩ e (λz=>nomatch z) h
 |@c7 a ob xs ea=>
  cases(show u=Value.ref a from rx);obtain⟨_,_,_,n,_,h1⟩:=(show dG X.prog X.w H s.heap a (.c7 ob (.lst xs))from I.br a _ ea);exact eY Cp I.mT ⟨_,h1,rfl⟩ e (λz=>nomatch z) h
 |@tup a xs ea=>
  cases(show u=Value.ref a from rx);obtain⟨_,_,_,p,_⟩:=(show dG X.prog X.w H s.heap a (.tup xs)from I.br a _ ea);obtain⟨o,h1,h2,_⟩:=p;exact eY PySem.W.kitx_tuple I.mT ⟨o,h1,h2⟩ e (λz=>nomatch z) h
 |@dK a kvs ea=>
  cases(show u=Value.ref a from rx);obtain⟨_,_,vs,_,p⟩:=(show dG X.prog X.w H s.heap a (.dK kvs)from I.br a _ ea);obtain⟨o,es,ep,h1,h2,_⟩:=p;exact eY Cq I.mT {o,h1,h2.1} e (λz=>nomatch z) h
 |@dT a kvs ea=>
  cases(show u=Value.ref a from rx);obtain⟨_,_,xs,_,o,es,ep,h1,h2,_⟩:=(show dG X.prog X.w H s.heap a (.dT kvs)from I.br a _ ea);exact eY Cq I.mT {o,h1,h2.1} e (λz=>nomatch z) h
 |@ins a C dx fs ea cl ha hn Ra hm=>
  cases(show u=Value.ref a from rx);obtain⟨mA,O,_⟩:=B4 I.br ea;obtain⟨od,J,_⟩:=O.look;exact eY (PySem.W.kitx_own (cl.get _) cl.hd ha hn Ra hm) I.mT J e (λz=>nomatch z) h
end
structure gX(k:Nat)(A:Around):Prop where
 hd:A.handled=none
 dp:A.depth+3*k+5<recursionLimit
 un:A.units+16*k+200<cLine
def gX.mono(r:gX k A)(h:j<=k):gX j A:={r.hd,by have:=r.dp;lia,by have:=r.un;lia}
def gX.deeper(r:gX (k+1) A)(env:Env):gX k (A.deeper env):=
 {r.hd,by have:=r.dp;show A.depth+1+3*k+5<_;lia,by have:=r.un;show A.units+3+16*k+200<_;lia}
def Oj{A:Around}:(-70).depth=A.depth+1:=by
 first|rfl|simp[Around.under,Code.weight,Code.isCreation,Code.isGuard,Code.isCaller,Code.frames,Code.isFrame,guardIds]
def Oi{A:Around}:(-70).units=A.units+1:=by
 first|rfl|simp[Around.under,Code.cUnits,Code.frames,Code.isFrame]
def gX.make(r:gX (k+1) A)(C:Addr)(us:Aag)(kw:List (Str×Value)):gX k (-70):=
 {r.hd,by have:=r.dp;rw[Oj];lia,by have:=r.un;rw[Oi];lia}
def gX.depth(r:gX k A):A.depth<recursionLimit:=by have:=r.dp;lia
def gX.units(r:gX k A):A.units+64<cLine:=by have:=r.un;lia
def gX.Ia(r:gX k A):A.units<cLine:=by have:=r.un;lia
def FI:TA:=λ_ H Q=>Q [] H
def sj(ta:TE)(tr:TA):TA:=λZ H Q=>ta Z H λx H1=>tr Z H1 λxs H2=>Q (x::xs) H2
section
variable{X:Cx}{e:Expr}{es:List Expr}{te:TE}{t:TA}{pos:Pos}
def gM:PA X [] FI:=λ_ _ _ _ H Q I h=>k8 {[],H,I,.nil,h}
def iF(ha:PE X e te)(hr:PA X es t)(hs:starEach (e::es) X.env=(false,eval e X.env)::starEach es X.env:=by rfl):PA X (e::es) (sj te t):=by intro pos pins s Z H Q I h;rw[hs];refine gk (df (ha pins s Z H _ I h) λu s1 x H1 I1 r1 q1=>?_);exact qw (hr pos pins s1 Z H1 _ I1 q1) λus s2 xs H2 I2 r2 q2=>{x::xs,H2,I2,.cons r1 r2,q2}
def cz{X:Cx}{e:Expr}{te:TE}(ha:PE X e te)(hs:starEach [e] X.env=(false,eval e X.env)::starEach [] X.env:=by rfl):PA X [e] (sj te FI):=iF ha gM hs
def dR{X:Cx}{e f:Expr}{te tf:TE}(ha:PE X e te)(hb:PE X f tf)(hs:starEach [e,f] X.env=(false,eval e X.env)::starEach [f] X.env:=by rfl)(ht:starEach [f] X.env=(false,eval f X.env)::starEach [] X.env:=by rfl):PA X [e,f] (sj te (sj tf FI)):=iF ha (cz hb ht) hs
def sO{X:Cx}{e f g:Expr}{te tf tg:TE}(ha:PE X e te)(hb:PE X f tf)(hc:PE X g tg)(hs:starEach [e,f,g] X.env=(false,eval e X.env)::starEach [f,g] X.env:=by rfl)(ht:starEach [f,g] X.env=(false,eval f X.env)::starEach [g] X.env:=by rfl)(hu:starEach [g] X.env=(false,eval g X.env)::starEach [] X.env:=by rfl):PA X [e,f,g] (sj te (sj tf (sj tg FI))):=iF ha (dR hb hc ht hu) hs
def ZD(t:TA):TE:=λZ H Q=>t Z H λxs H1=>xs.length<=sizeLine/\∀p,H1 p=none->Q (.ref p) (upd H1 p (.tup xs))
def ac4(t:TA):TE:=λZ H Q=>t Z H λxs H1=>xs.length<=sizeLine/\∀p,H1 p=none->Q (.ref p) (upd H1 p (.lst xs))
def iZ{x1}(h:PA X es t):PE X (.Tuple es x1 pos) (ZD t):=by intro pins s Z H Q I hq;refine wpAny_Tuple_spliced (qw (h pos pins s Z H _ I hq) λus s1 xs H1 I1 r ⟨z,q⟩=>{by rw[<-r.length];exact z,?_});have hf:=I1.br.fresh (ar _);refine{.ref s1.heap.objs.size,upd H1 s1.heap.objs.size (.tup xs),I1.laid (λb u e=>aq _ e) (ar _) ?_,rfl,q _ hf};exact{z,us,r,{_,aF _ rfl,rfl,_,rfl},_,aF _ rfl,rfl}
def eZ(h:PA X es t):PE X (.List es pos) (ac4 t):=by intro pins s Z H Q I hq;refine wpAny_List_spliced (qw (h pos pins s Z H _ I hq) λus s1 xs H1 I1 r ⟨z,q⟩=>{by rw[<-r.length];exact z,?_});have hf:=I1.br.fresh (ar _);refine{.ref s1.heap.objs.size,upd H1 s1.heap.objs.size (.lst xs),I1.laid (λb u e=>aq _ e) (ar _) ?_,rfl,q _ hf};exact{z,us,0,r,aF _ rfl}
abbrev Sp:=Aao->Hp->VK->XK->Prop
abbrev K7:=List Env->Hp->Shared->XK->Aae
structure Ef(P:Program)(w:World)(K:Frag)(mg:Aad)(base:Heap)(A:Around)(outer:List Env)(s:Shared)(H:Hp):Prop where
 frames:A.frames=some outer
 mod:Mod K mg base
 bs:∀b o,base.get? b=some o->s.heap.get? b=some o/\H b=none
 Dd:base.objs.size<=s.heap.objs.size
 rR:s.heap.FunFrames base outer
 Hj:∀b∈zY outer,H b=none
 br:jI P w H s.heap
 bare:AllBare s.gens
def CE(outer:List Env)(P:Program)(w:World)(H:Hp)(s:Shared)(Q:VK)(u:Value)(s':Shared):Prop:=
 ∃v H',s'.os=s.os/\AllBare s'.gens/\Un (zY outer) [] H H' s.heap s'.heap/\jI P w H' s'.heap/\RelV v u/\Q v H'
end
def CR(CX:K7)(outer:List Env)(P:Program)(w:World)(H:Hp)(s:Shared)(Q:VK)(E:XK)(r:Result)(s':Shared):Prop:=
 match r with
 | .ok (.ret u)=>CE outer P w H s Q u s'
 | .ok _=>False
 | .error e=>CX outer H s E e s'
structure dk(P:Program)(w:World)(K:Frag)(mg:Aad)(base:Heap)(CX:K7)(k:Nat)(f:Addr)(fd:FuncData)(ps:Aah)(sp:Sp):Prop where
 len:∀vs H Q E,sp vs H Q E->vs.length=ps.length
 run:∀(A:Around)(outer:List Env)(s:Shared)(H:Hp)(args:Args)(us:Aag)(vs:Aao)(Q:VK)(E:XK),gX k A->Ef P w K mg base A outer s H->BindsTo s fd args (ps.zip us)->Vals vs us->sp vs H Q E->
  codeAny (-29) A (.call (.ref f) args) (CR CX outer P w H s Q E) s
def Ef.make{K:Frag}(e:Ef P w K mg base A outer s H)(C:Addr)(us:Aag)(kw:List (Str×Value)):
  Ef P w K mg base (-70) outer s H:={by first|exact e.frames|(simpa[Around.under,Code.envs,Code.isFrame,pushEnvs]using e.frames),e.mod,e.bs,e.Dd,e.rR,e.Hj,e.br,e.bare}
section
variable{X:Cx}{pins:Aac}{Z:St}{H:Hp}{s s':Shared}
def Inv.env0(I:Inv X pins Z H s):Ef X.prog X.w X.K X.mg X.base X.A X.stack s H:=
 {I.ok.frames,I.ok.mod,I.bs,aD I.ok.Dd I.sz,I.stack,I.L1,I.br,I.bare}
def Inv.after(I:Inv X pins Z H s)(h:CE X.stack X.prog X.w H s Q u s'):EP X pins Z Q u s':=by obtain⟨v,H',os,bare,un,br,r,q⟩:=h;obtain⟨hh,g,d,t,VG⟩:=s';obtain rfl:VG=s.os:=os;exact{v,H',I.call un br bare (λb z=>absurd z (-9)),r,q}
end
def Vr(sp:Sp)(qm:Aao)(E:XK)(t:TA):TE:=λZ H Q=>t Z H λvs H1=>sp (vs++qm) H1 Q E
inductive ZH(C:Addr)(m:Str)(sp:Sp)(qm:Aao)(E:XK)(t:TA)(Z:St)(Q:VK)(x:V)(H1:Hp):Prop
 |mk a dx fs (_:x=.ref a) (_:H1 a=some (.ins C dx fs)) (_:fs.lookup m=none) (_:t Z H1 λvs H2=>sp (x::(vs++qm)) H2 Q E)
def Vp(C:Addr)(m:Str)(sp:Sp)(qm:Aao)(E:XK)(ta:TE)(t:TA):TE:=λZ H Q=>ta Z H λx H1=>ZH C m sp qm E t Z Q x H1
def Vq(C:Addr)(sp:Sp)(qm:Aao)(E:XK)(t:TA):TE:=λZ H Q=>t Z H λvs H1=>∀x dx,H1 x=none->H1 dx=none->dx≠x->
 sp (.ref x::(vs++qm)) (upd (upd H1 dx (.own x)) x (.ins C dx [])) (λv H2=>v=.cE/\Q (.ref x) H2) E
def Binds(K:Frag)(fd:FuncData)(ps:Aah)(ds:Aag):Prop:=
 ∀(s:Shared)(us:Aag),K.In s.heap->(us++ds).length=ps.length->BindsTo s fd {us,[]} (ps.zip (us++ds))
def Binds.all{K:Frag}(h:∀us:Aag,us.length=ps.length->bindArgs fd {us,[]}=pure (ps.zip us)):Binds K fd ps []:=λs us _ hl=>by rw[b6]at hl⊢;exact .of_eq (h us hl)
def Passes(CX:K7)(X:Cx)(E:XK):Prop:=∀(pins:Aac)(Z:St)(H:Hp)(s:Shared)(e:Value)(s':Shared),Inv X pins Z H s->CX X.stack H s E e s'->X.xe e s'
section
variable{X:Cx}{CX:K7}{k:Nat}{f C:Addr}{fd:FuncData}{ps:Aah}{sp:Sp}{qm:Aao}{ds:Aag}{E:XK}{x m:Str}{p pos apos:Pos}{e o:Expr}{es:List Expr}{ta:TE}{t:TA}
def P7(F:dk X.prog X.w X.K X.mg X.base CX k f fd ps sp)(hr:gX k X.A)(hb:Binds X.K fd ps ds)(hd:Vals qm ds)(hx:Passes CX X E)
  (I:Inv X pins Z H s) (r:Vals vs us) (h:sp (vs++qm) H Q E):wpAny (-6) X.A (call (.ref f) us) (EP X pins Z Q) X.xe s:=by
 have r2:=r.append hd;have hl:(us++ds).length=ps.length:=by rw[<-r2.length];exact F.len _ _ _ _ h
 refine Ei (lF (F.run X.A X.stack s H {us,[]} (us++ds) (vs++qm) Q E hr I.env0 (hb s us I.mT hl) r2 h) λr s' hq=>?_);cases r with
 |error e=>exact hx pins Z H s e s' I hq
 |ok fl=>
  cases fl with
  |ret u=>exact I.after hq
  |next=>exact False.elim hq
  |brk=>exact False.elim hq
  |cont=>exact False.elim hq
def X5(F:dk X.prog X.w X.K X.mg X.base CX k f fd ps sp)(hr:gX k X.A)(hg:Gl X x)(hm:X.mg x=some (.ref f))(hk:keepIn X.K (.ref f)=true)(hb:Binds X.K fd ps ds)(hd:Vals qm ds)(hx:Passes CX X E)
  (ha:PA X (e::es) t) (Bd:(-32)=false:=by decide) (he:starEach (e::es) X.env=(false,eval e X.env)::starEach es X.env:=by rfl) (ue:(-36).any (·.1)=false:=by rfl):
  PE X (-65) (Vr sp qm E t):=by
 intro pins s Z H Q I h;refine m6 (FZ I hg hm ?_ Bd);refine tF I.ok.mod.QS hk (qw (ha pos pins s Z H _ I h) λus s1 vs H1 I1 r q=>{I1.mT,?_}) he ue;exact P7 F hr hb hd hx I1 r q
def X2(he:PE X o ta)(c:BP X.K C)(hm:Meth X.K C m f)(F:dk X.prog X.w X.K X.mg X.base CX k f fd ps sp)(hr:gX k X.A)(hb:Binds X.K fd ps ds)(hd:Vals qm ds)(hx:Passes CX X E)(ha:PA X (e::es) t)
  (ic:starEach (e::es) X.env=(false,eval e X.env)::starEach es X.env:=by rfl) (ue:(-36).any (·.1)=false:=by rfl)
  (ht:eval (.Call (.Attribute o m apos) (e::es) [] pos) X.env=(do
   let ov<-eval o X.env
   standAt apos.atName
   let(f,first)<-holding [ov] (getMethod ov m pl)
   callWith pos f first (backTo pos (starEach (e::es) X.env)) (backToKw pos (keywordEach [] X.env))):=by rfl):
  PE X (.Call (.Attribute o m apos) (e::es) [] pos) (Vp C m sp qm E ta t):=by
 intro pins s Z H Q I h;refine PySem.W.methodCall_KW (df (he pins s Z H _ I h) λu s1 x H1 I1 rx T8=>?_) ht;obtain⟨a,dx,fs,ex,ea,l,q⟩:=T8;subst ex;obtain rfl:u=Value.ref a:=rx;refine OP I1 ea c hm l ?_;refine tF I.ok.mod.QS hm.kp (qw (ha pos pins s1 Z H1 _ I1 q) λus s2 vs H2 I2 r q2=>{I2.mT,?_}) ic ue;exact P7 (vs:=.ref a::vs) F hr hb hd hx I2 (.cons rfl r) q2
structure Mk(K:Frag)(C f:Addr):Prop where
 makes:PySem.W.makesIn K C=true
 init:findIn K (.ref C) "__init__"=some (some (.ref f))
 fn:isFn K (.ref f)=true
 kp:keepIn K (.ref C)=true
def S7(M:Mk X.K C f)(F:dk X.prog X.w X.K X.mg X.base CX k f fd ps sp)(hr:gX (k+1) X.A)(hb:Binds X.K fd ps ds)(hd:Vals qm ds)
  (hx:Passes CX X E) (I:Inv X pins Z H s) (r:Vals vs us)
  (h:∀x dx,H x=none->H dx=none->dx≠x->sp (.ref x::(vs++qm)) (upd (upd H dx (.own x)) x (.ins C dx [])) (λv H2=>v=.cE/\Q (.ref x) H2) E):
  wpAny (-6) X.A (call (.ref C) us) (EP X pins Z Q) X.xe s:=by
 have hq:=h (-17) s.heap.objs.size (I.br.fresh (fH _)) (-71) (aL (dC _));have I2:=Inv.made (C:=C) I;have r2:Vals (V.ref (-17)::(vs++qm)) (Value.ref (-17)::(us++ds)):=.cons rfl (r.append hd);have hl:(Value.ref (-17)::us++ds).length=ps.length:=by have e:=r2.length;rw[F.len _ _ _ _ hq]at e;exact e.symm
 refine Ei (TU I.mT M.makes M.init (qS.mp M.fn) (lF (F.run _ X.stack _ _ {Value.ref (-17)::us,[]} (Value.ref (-17)::(us++ds)) _ _ E (hr.make C us [])
  (I2.env0.make C us []) (hb _ (Value.ref (-17)::us) I2.mT hl) r2 hq) λr s' Rh=>?_))
 cases r with
 |error e=>exact hx pins Z _ _ e s' I2 Rh
 |ok fl=>
  cases fl with
  |ret u=>
   obtain⟨v,H',I3,rv,ev,q3⟩:=I2.after Rh;subst ev;exact{rv,{V.ref (-17),H',I3,rfl,q3}}
  |next=>exact False.elim Rh
  |brk=>exact False.elim Rh
  |cont=>exact False.elim Rh
def X3(M:Mk X.K C f)(F:dk X.prog X.w X.K X.mg X.base CX k f fd ps sp)(hr:gX (k+1) X.A)(hg:Gl X x)(hm:X.mg x=some (.ref C))(hb:Binds X.K fd ps ds)(hd:Vals qm ds)(hx:Passes CX X E)
  (ha:PA X (e::es) t) (Bd:(-32)=false:=by decide) (he:starEach (e::es) X.env=(false,eval e X.env)::starEach es X.env:=by rfl) (ue:(-36).any (·.1)=false:=by rfl):
  PE X (-65) (Vq C sp qm E t):=by
 intro pins s Z H Q I h;refine m6 (FZ I hg hm ?_ Bd);refine tF I.ok.mod.QS M.kp (qw (ha pos pins s Z H _ I h) λus s1 vs H1 I1 r q=>{I1.mT,?_}) he ue;exact S7 M F hr hb hd hx I1 r q
variable{ks:Aah}
structure aeF(K:Frag)(fd:FuncData)(ps ks:Aah)(g:Aag->Aag->Aag)(gV:Aao->Aao->Aao):Prop where
 to:∀(s:Shared)(us ws:Aag),K.In s.heap->(g us ws).length=ps.length->BindsTo s fd {us,ks.zip ws} (ps.zip (g us ws))
 rel:∀{vs:Aao}{us:Aag}{zs:Aao}{ws:Aag},Vals vs us->Vals zs ws->Vals (gV vs zs) (g us ws)
end
structure cD(N P:Aah)(sc:Scope):Prop where
 kind:sc.kind=.function
 co:sc.isCoroutine=false
 gen:sc.isGenerator=false
 nd:N.Nodup
 pre:N.take P.length=P
 par:∀x∈P,sc.names.lookup x=some .local\/sc.names.lookup x=some .cell
 aay:∀y∈sc.names,y.2≠ .free
def jD{N P:Aah}{sc:Scope}(h:sc.kind=.function/\sc.isCoroutine=false/\sc.isGenerator=false/\N.Nodup/\N.take P.length=P/\(∀x∈P,sc.names.lookup x=some .local\/sc.names.lookup x=some .cell)/\∀y∈sc.names,y.2≠ .free):cD N P sc:={h.1,h.2.1,h.2.2.1,h.2.2.2.1,h.2.2.2.2.1,h.2.2.2.2.2.1,h.2.2.2.2.2.2}
def ir{X:Cx}{x:Str}{pos:Pos}{ps:Aah}{sc:Scope}(i:Nat)(S:cD X.N ps sc)(hi:X.N[i]?=some x:=by rfl)(hx:X.env.scope.names.lookup x=some .local:=by rfl):PG X (.Name x pos) (sC i):=ot S.nd hi (Or.inl hx) (Or.inr hx)
def fJ{X:Cx}{x:Str}{pos pos':Pos}{e:Expr}{te:TE}{ps:Aah}{sc:Scope}(i:Nat)(S:cD X.N ps sc)(he:PE X e te)(hi:X.N[i]?=some x:=by rfl)(hx:X.env.scope.names.lookup x=some .local:=by rfl)(hs:swapsWith e (some (.Name x pos')) pos.line X.env=pure false:=by rfl):PS X (.Assign [.Name x pos'] e pos) (SO te (sC i)):=jU S.nd hi (Or.inl hx) he hs (Or.inr hx)
theorem Hr{kindOf:Str->Option NameKind}:∀{binds:List (Str×Value)}{m:Aad},(∀v,(x,v)∉binds)->bindL kindOf binds m x=m x
 |[],_,_=>rfl
 |(n,v)::r,m,h=>by
  unfold bindL;rw[Hr λw hw=>h w (aB _ hw)];split
  ·have:x≠n:=by rintro rfl;exact h v aA
   simp[this]
  ·rfl
theorem Ht{kindOf:Str->Option NameKind}:∀{binds:List (Str×Value)}{m:Aad},(∀v,(x,v)∉binds)->bindC kindOf binds m x=m x
 |[],_,_=>rfl
 |(n,v)::r,m,h=>by
  unfold bindC;rw[Ht λw hw=>h w (aB _ hw)];split
  ·rfl
  ·have:x≠n:=by rintro rfl;exact h v aA
   simp[this]
theorem Hs{kindOf:Str->Option NameKind}:∀{P:Aah}{vs:Aag}{i:Nat}{m:Aad},P.Nodup->P[i]?=some x->vs[i]?=some v->kindOf x=some .local->
  bindL kindOf (P.zip vs) m x=some v
 |[],_,_,_,_,h,_,_=>by simp at h
 |_::_,[],_,_,_,_,h,_=>by simp at h
 |p::P,w::vs,0,m,nd,h1,h2,hk=>by simp at h1 h2;subst h1;subst h2;show bindL kindOf ((p,w)::P.zip vs) m p=_;unfold bindL;rw[Hr λv hv=>(cX.mp nd).1 (wJ hv).1,aC hk];simp
 |p::P,w::vs,i+1,m,nd,h1,h2,hk=>by show bindL kindOf ((p,w)::P.zip vs) m x=_;unfold bindL;exact Hs (i:=i) (cX.mp nd).2 (by simpa using h1) (by simpa using h2) hk
theorem Hu{kindOf:Str->Option NameKind}:∀{P:Aah}{vs:Aag}{i:Nat}{m:Aad},P.Nodup->P[i]?=some x->vs[i]?=some v->kindOf x≠some .local->
  bindC kindOf (P.zip vs) m x=some v
 |[],_,_,_,_,h,_,_=>by simp at h
 |_::_,[],_,_,_,_,h,_=>by simp at h
 |p::P,w::vs,0,m,nd,h1,h2,hk=>by simp at h1 h2;subst h1;subst h2;show bindC kindOf ((p,w)::P.zip vs) m p=_;unfold bindC;rw[Ht λv hv=>(cX.mp nd).1 (wJ hv).1,az hk];simp
 |p::P,w::vs,i+1,m,nd,h1,h2,hk=>by show bindC kindOf ((p,w)::P.zip vs) m x=_;unfold bindC;exact Hu (i:=i) (cX.mp nd).2 (by simpa using h1) (by simpa using h2) hk
def start(N:Aah)(vs:Aao):St:=vs.map some++List.replicate (N.length -vs.length) none
noncomputable def F8(CX:K7)(P:Program)(w:World)(K:Frag)(mg:Aad)(base:Heap)(N:Aah)(qual:Str)(scope:Scope)(f:Addr)(cd:Value)(A:Around)(outer:List Env)(s:Shared)(H:Hp)(E:XK):Cx where
 prog:=P
 w:=w
 K:=K
 mg:=mg
 base:=base
 A:=A.deeper (-66)
 N:=N
 aab:=s
 aae:=H
 env:=envOfC qual scope s.heap.objs.size f cd
 outer:=outer
 stack:=envOfC qual scope s.heap.objs.size f cd::outer
 ex:=[]
 calm:=true
 fn:=λ_=>true
 pn:=[]
 xe:=λe s'=>wpAny (-29) (A.deeper (-66)) (leaving (-66) e) (λ_ ZZ=>CX outer H s E e ZZ) (λe' ZZ=>CX outer H s E e' ZZ) s'
def KN{sc:Scope}(h:sc.names.lookup x=some .cell):∃c,(cellsFrom n sc.names []).lookup x=some c:=by have q:=xh sc.names n [] (.inl h);exact jY.mp q
def Q2{K:Frag}
  (S:cD N ps scope) (hd:A.handled=none) (e0:Ef P w K mg base A outer s H) (hl:vs.length=ps.length) (r:Vals vs us)
  (x:InCallC s s.heap.objs.size (bindL (-66).kindOf (ps.zip us) λ_=>none) (cellsFrom (-17) scope.names []) (bindC (-66).kindOf (ps.zip us) λ_=>none) s1):
  Inv (F8 CX P w K mg base N qual scope f cd A outer s H E) [] (start N vs) H s1:=by
 have ue:ps.length<=N.length:=by have:=bU List.length S.pre;rw[aT]at this;lia
 obtain⟨h1,tk,rfl,hk⟩:=x.done;have Qx:∀b:Addr,b∉(F8 CX P w K mg base N qual scope f cd A outer s H E).ex:=λb z=>absurd (show b∈([]:Aaj)from z) (-9);refine{{e0.mod,S.kind,rfl,rfl,ar _,λy z c h1 h2=>?_,λy hy=>?_,λy c _ h=>?_,λ_=>hd,Around.frames_deeper e0.frames,.inr ⟨rfl,rfl⟩,λb z=>absurd z (Qx b),e0.bs,e0.Dd,λb _ _=>Qx b,λb z=>absurd z (Qx b),e0.rR,e0.Hj},
  rfl,e0.bare,Un.kept hk,{_,x.toInCall.ns,λi y v h1 h2 h3=>?_},λy c h=>{_,x.cell y c h},e0.br.fresh (ar _),λy c h=>?_,λp hp=>absurd (show p∈([]:Aac)from hp) (-9),e0.br.kept hk,?_}
 ·exact name_of_addr x.apart (kj h1) (kj h2)
 ·have hy:=hy;rcases hy with hy|hy
  ·exact KN hy
  ·exact absurd rfl (S.aay _ (kj hy))
 ·exact bu (x.above y c (kj h))
 ·have hi:i<vs.length:=by
   unfold start at h2;by_cases hi:i<vs.length
   ·exact hi
   ·rw[dE (by simpa using hi)]at h2;rw[v8]at h2;split at h2<;>cases h2
  have ha:vs[i]?=some v:=by
   unfold start at h2;rw[dO (by simpa using hi),aK]at h2;cases e:vs[i]? with
   |none=>rw[e]at h2;cases h2
   |some a=>rw[e]at h2;cases h2;rfl
  obtain⟨u,hu,rv⟩:=r.get ha;have hp:ps[i]?=some y:=by rw[<-S.pre,og ∅];exact h1
  have ndP:ps.Nodup:=by rw[<-S.pre];exact S.nd.sublist (oZ _ _)
  refine{u,rv,?_};rcases S.par y (aH hp)with k|k
  ·exact .inl {k,Hs ndP hp hu k}
  ·obtain⟨c,e⟩:=KN k;refine .inr {.inl k,c,e,?_};have q:=x.cell y c e;rw[Hu ndP hp hu (by show scope.names.lookup y≠_;rw[k];decide)]at q;exact q
 ·exact e0.br.fresh (bu (x.above y c (kj h)))
 ·unfold start;show _=N.length;rw[aO,ak,hJ];lia
def acI{K:Frag}{dV kV doc pm dm ct oc:Value}
     (lk:K.lookup f=some {oc,od,.func (fnOf name qual params body scope dV kV doc pm an dm ct),zL}) (Be:codeIn K dm qual=true) (S:cD N ps scope)
  (len:∀vs H Q E,sp vs H Q E->vs.length=ps.length)
  (OL:∀(A:Around)(outer:List Env)(s:Shared)(H:Hp)(vs:Aao)(Q:VK)(E:XK),gX k (A.deeper (envOfC qual scope s.heap.objs.size f dm))->sp vs H Q E->
   ∃t,qo (F8 CX P w K mg base N qual scope f dm A outer s H E) body t/\t {nx:=λ_ H'=>Q .cE H',rt:=Q} (start N vs) H):
  dk P w K mg base CX (k+1) f (fnOf name qual params body scope dV kV doc pm an dm ct) ps sp:=by
 refine{len,λA outer s H args us vs Q E hr e0 hb r G6=>?_};have hl:=len _ _ _ _ G6;have KX:=e0.mod.QS.keeps λb o e=>(e0.bs b o e).1;have lim:=e0.mod.nolimit.keeps λb o e=>(e0.bs b o e).1;have acD:∀y∈ps.zip us,scope.names.lookup y.1=some .local\/(scope.names.lookup y.1=some .cell/\((cellsFrom (-17) scope.names []).lookup y.1).isSome=true):=λ⟨n,v⟩ hy=>by
  rcases S.par n (wJ hy).1 with q|q
  ·exact .inl q
  ·exact .inr {q,xh _ _ _ (.inl q)}
 refine codeAny_call_function hr.depth (KX _ _ lk) rfl S.co S.gen rfl (PySem.W.codeRec_of KX Be) (hb _ _ _ _ ?_);refine wpAny_newFunctionEnv_cells S.kind acD λenv he s1 x=>?_;subst he;refine{lim.keeps x.toInCall.keep,codeAny_func ?_};obtain⟨t,ht,hq⟩:=OL A outer s H vs Q E (hr.deeper _) G6;have I:Inv (F8 CX P w K mg base N qual scope f dm A outer s H E) [] (start N vs) H s1:=Q2 S hr.hd e0 hl r x;refine dc (ht [] s1 (start N vs) H _ I hq) (λfl s' hs=>?_) λe s' hs=>hs;have fin:∀{σ':St}{H':Hp}{v:V}{u:Value},Inv (F8 CX P w K mg base N qual scope f dm A outer s H E) [] σ' H' s'->RelV v u->Q v H'->CE outer P w H s Q u s':=
  λ{σ' H' v u} J rv q=>{v,H',J.os,J.bare,J.base,J.br,rv,q}
 cases fl with
 |ret u=>
  obtain⟨v,σ',H',J,rv,q⟩:=hs;exact fin J rv q
 |next=>
  obtain⟨σ',H',J,q⟩:=hs;exact fin (v:=V.cE) J rfl q
 |brk=>
  obtain⟨_,_,_,q⟩:=hs;exact False.elim q
 |cont=>
  obtain⟨_,_,_,q⟩:=hs;exact False.elim q
section
variable{X:Cx}{x:Str}{p pos:Pos}{e:Expr}{es:List Expr}{t:TA}{id T:String}{r:Aao->Hp->VK->Prop}
def ZO(r:Aao->Hp->VK->Prop)(t:TA):TE:=λZ H Q=>t Z H λvs H1=>r vs H1 Q
def cW(hc:jv X (.builtin id) r)(hg:Gl X x)(hm:X.mg x=none)(hv:bootBuiltins x=some (.builtin id))(ha:PA X (e::es) t)(hn:x≠"__name__":=by decide)(Bd:(-32)=false:=by decide)
  (he:starEach (e::es) X.env=(false,eval e X.env)::starEach es X.env:=by rfl) (ue:(-36).any (·.1)=false:=by rfl):PE X (-65) (ZO r t):=by
 intro pins s Z H Q I h;refine m6 (qF I hg hm hv ?_ hn Bd);exact PyProof.Rows.callWith_builtin1 (qw (ha pos pins s Z H _ I h) λus s1 vs H1 I1 r1 q1=>hc pins s1 Z H1 vs us Q I1 r1 q1) he ue
def dF(hc:jv X (.type T) r)(hg:Gl X x)(hm:X.mg x=none)(hv:bootBuiltins x=some (.type T))(ha:PA X (e::es) t)(hn:x≠"__name__":=by decide)(Bd:(-32)=false:=by decide)
  (he:starEach (e::es) X.env=(false,eval e X.env)::starEach es X.env:=by rfl) (ue:(-36).any (·.1)=false:=by rfl):PE X (-65) (ZO r t):=by
 intro pins s Z H Q I h;refine m6 (qF I hg hm hv ?_ hn Bd);exact d9 (qw (ha pos pins s Z H _ I h) λus s1 vs H1 I1 r1 q1=>hc pins s1 Z H1 vs us Q I1 r1 q1) he ue
end
end L2
namespace HT
open PySem PyProof.Rows
section
open PySem.SeqAt
open PySem.AutoSeq1 (wpAny_loadPart')
open PySem.MeetsSeq PySem.MeetsSeq2 PySem.MeetsSeq3
end
section
variable{prog:Program}{w:World}{A:Around}{E:Aae}{s:Shared}
def YW(ht:IsTup s.heap t vs.toArray)(hb:IsTup s.heap b ws.toArray)(hv:vs≠[])
  (h1:ws=[]->Q (.ref t) s) (h2:ws≠[]->Q (-12) {s with heap:=s.heap.push {cls:=.type "tuple",data:=.seq (vs++ws).toArray}})
  (hsz:vs.length+ws.length<=sizeLine):wpAny (-5) A (binaryOp .Add (.ref t) (.ref b)) Q E s:=by
 obtain⟨⟨cls,dd,data,sl⟩,ho,hc,n,hd⟩:=id ht;obtain⟨⟨aew,Nj,data2,Vy⟩,zU,ya,n2,hd2⟩:=id hb;simp only at hc hd ya hd2;subst hc hd ya hd2;have e:vs.toArray++ws.toArray=(vs++ws).toArray:=by simp
 by_cases hw:ws=[]
 ·exact Bo ⟨_,ho,rfl⟩ ⟨_,zU,rfl⟩ vh zI pA oN (nV _ _)
   (tuple_addW1 t b vs.toArray ws.toArray n n2 dd Nj sl Vy (by simpa using hv) (by simp[hw])) {ho,zU,h1 hw}
 ·refine Bo ⟨_,ho,rfl⟩ ⟨_,zU,rfl⟩ vh zI pA oN (nV _ _)
   (tuple_addW2 t b vs.toArray ws.toArray n n2 dd Nj sl Vy (by simpa using hv) (by simpa using hw) (by rw[aQ,aQ];exact hsz)) {ho,zU,?_}
  rw[e];exact h2 hw
def dH(n d:Nat):Option Int->Nat
 |none=>d
 |some v=>if v<0 then(v+(n:Int)).toNat else min v.toNat n
def IK(n d:Nat):dH n d none=d:=rfl
def Mb(n d k:Nat):dH n d (some (k:Int))=min k n:=by show(if(k:Int)<0 then((k:Int)+(n:Int)).toNat else min (k:Int).toNat n)=min k n;rw[az ∅,cZ]
def ZW(n d:Nat)(hd:d<=n)(o:Option Int):dH n d o<=n:=by
 cases o with
 |none=>exact hd
 |some v=>
  show(if v<0 then(v+(n:Int)).toNat else min v.toNat n)<=n;by_cases hv:v<0
  ·rw[aC hv];lia
  ·rw[az hv];exact Nat.min_le_right _ _
def Nl(v:Int)(n d:Nat):(if v<0 then max (v+(n:Int)) 0 else min v (n:Int))=((dH n d (some v):Nat):Int):=by
 show(if v<0 then max (v+(n:Int)) 0 else min v (n:Int))=(((if v<0 then(v+(n:Int)).toNat else min v.toNat n):Nat):Int);by_cases hv:v<0
 ·simp only[aC hv];lia
 ·simp only[az hv];lia
def Pf(lo hi:Option Int)(n:Nat):Builtin.Slice.sliceAdjust lo hi 1 (n:Int)=(((dH n 0 lo:Nat):Int),((dH n n hi:Nat):Int)):=by
 have h1:¬((1:Int)<0):=by lia
 unfold Builtin.Slice.sliceAdjust;simp only[h1,d6];refine Eb ?_ ?_
 ·cases lo with
  |none=>rfl
  |some v=>exact Nl v n 0
 ·cases hi with
  |none=>rfl
  |some v=>exact Nl v n n
def N4(i j:Nat):Builtin.Slice.slicePlaces (i:Int) (j:Int) 1=j -i:=by
 unfold Builtin.Slice.slicePlaces;have h1:(1:Int)>0:=by lia
 simp only[h1,lD,Int.ediv_one];split<;>lia
def Ew{v:Value}{o:Option Int}{Q:Option Int->Shared->Prop}(p:IsPart v o)(h:Q o s):wpAny (-5) A (Builtin.Slice.slicePartIndex v) Q E s:=by
 cases p with
 |none=>exact slicePart_none h
 |int i t=>exact slicePart_int h
def u9{sl:Addr}{vl vu:Value}{lo hi:Option Int}{n:Nat}{Q:Int×Int×Nat->Shared->Prop}(hs:s.heap.IsSliceOf sl vl vu .none)(pl:IsPart vl lo)(pu:IsPart vu hi)
  (h:Q (((dH n 0 lo:Nat):Int),1,dH n n hi -dH n 0 lo) s):wpAny (-5) A (Builtin.Slice.sliceApplied (.ref sl) (pure (n:Int))) Q E s:=by
 obtain⟨os,Kg,WG,Rv⟩:=id hs;unfold Builtin.Slice.sliceApplied Builtin.Slice.sliceFields;refine af (af (bO Kg Rv (x:=vl) rfl (af (bO Kg Rv (x:=vu) rfl (af (bO Kg Rv (x:=.none) rfl (ao ?_)))))));refine af (slicePart_none ?_);show wpAny _ _ (if((1:Int)==0)=true then _ else _) _ _ s;rw[az (-8)];refine af (Ew pl (af (Ew pu (af (ao ?_)))));show wpAny _ _ (match Builtin.Slice.sliceAdjust lo hi 1 (n:Int)with|(lo,hi)=>pure (lo,(1:Int),Builtin.Slice.slicePlaces lo hi 1)) _ _ s;rw[Pf lo hi n];show wpAny _ _ (pure (((dH n 0 lo:Nat):Int),(1:Int),Builtin.Slice.slicePlaces ((dH n 0 lo:Nat):Int) ((dH n n hi:Nat):Int) 1)) _ _ s;rw[N4];exact ao h
def Ti(xs:Aal)(i k:Nat):((List.range k).filterMap λ(m:Nat)=>xs[((i:Int)+(m:Int)*1).toNat]?).toArray=((xs.toList.drop i).take k).toArray:=by
 have e:(λ(m:Nat)=>xs[((i:Int)+(m:Int)*1).toNat]?)=λm=>xs[i+m]?:=by
  funext m;have:((i:Int)+(m:Int)*1).toNat=i+m:=by lia
  rw[this]
 rw[e];have:=pick_run xs i k;rw[tH]at this;have e2:((λx=>xs[x]?)∘λx=>i+x)=λm=>xs[i+m]?:=rfl;rw[e2]at this;rw[this]
def Cg{t sl:Addr}{items:Aal}{vl vu:Value}{lo hi:Option Int}{Q:Aae}(ht:IsTup s.heap t items)(hs:s.heap.IsSliceOf sl vl vu .none)(pl:IsPart vl lo)(pu:IsPart vu hi)
  (hw:¬(dH items.size 0 lo=0/\dH items.size items.size hi=items.size))
  (h:Q (-12) {s with heap:=s.heap.push {cls:=.type "tuple",data:=.seq (-44).toArray}})
  (hsz:items.size<=sizeLine):wpAny (-5) A (getItem (.ref t) (.ref sl)) Q E s:=by
 have HN:sizeOk (.seq (-44).toArray):=by show(-44).toArray.size<=sizeLine;rw[aQ,aT,gY,aS];lia
 have hj:dH items.size items.size hi<=items.size:=ZW _ _ (ar _) hi;obtain⟨os,Kg,WG,Rv⟩:=id hs;have hTs:s.TypeIs (.ref sl) "slice":=⟨os,Kg,WG⟩;unfold getItem
 try with_reducible refine bP ?_
 first|refine af (ao ?_)|skip
 refine af (Cc ht.typeIs (-8) ?_);refine af (wpAny_callSpecial?_slot (name:=Str.ofString "__getitem__") ht.typeIs eC
  (bz eC ht.typeIs Af ?_ (Bz _ _)))
 show wpAny _ _ (Builtin.Tuple.tupleItemsOf (.ref t)>>=_) _ _ s;refine af (tupleItemsOf_ ht ?_);refine af (fZ hTs ?_);rw[aC (-8)];refine af (u9 hs pl pu ?_);have E2:¬((-19)=true):=by intro q;rw[bB,bB]at q;have q1:((dH items.size 0 lo:Nat):Int)=0:=iH q.1.1;have q2:dH items.size items.size hi -dH items.size 0 lo=items.size:=iH q.2;exact hw {by lia,by lia}
 show wpAny _ _ (if(-19)=true then _ else _) _ _ s;rw[az E2,Ti]
 first
  |exact af (m:=Builtin.Tuple.tupleExact _) (cx (ao ⟨_,rfl,ao h⟩) HN)
  |exact af (m:=Builtin.Tuple.tupleExact _) (cx (af (ao (ao ⟨_,rfl,ao h⟩))) HN)
  |exact af (af (m:=Builtin.Tuple.tupleExact _) (cx (ao (ao ⟨_,rfl,ao h⟩)) HN))
  |exact af (af (m:=Builtin.Tuple.tupleExact _) (cx (ao ⟨_,rfl,ao h⟩) HN))
end
end HT
namespace L2
open PySem PySem.Spec PyProof.Rows
abbrev TO:=St->Hp->(Option Int->Hp->Prop)->Prop
def PO(X:Cx)(e:Option Expr)(t:TO):Prop:=
 ∀(pins:Aac)(s:Shared)(Z:St)(H:Hp)(Q:Option Int->Hp->Prop),Inv X pins Z H s->t Z H Q->
  wpAny (-6) X.A (evalPart e X.env) (λu s'=>∃o H',Inv X pins Z H' s'/\IsPart u o/\Q o H') X.xe s
def LW:TO:=λ_ H Q=>Q none H
inductive ZG(Q:Option Int->Hp->Prop)(x:V)(H1:Hp):Prop
 |mk i (_:x=.int i) (_:Q (some i) H1)
def ab0(t:TE):TO:=λZ H Q=>t Z H λx H1=>ZG Q x H1
section
variable{X:Cx}{e:Expr}{te:TE}{lo hi:Option Expr}{tl th:TO}{pos p2:Pos}
def uP:PO X none LW:=by intro pins s Z H Q I h;rw[evalPart_none];exact ao {none,H,I,.none,h}
def uO(h:PE X e te):PO X (some e) (ab0 te):=by intro pins s Z H Q I hw;rw[evalPart_some];refine df (h pins s Z H _ I hw) λu s1 x H1 I1 r1 q1=>?_;obtain⟨i,rfl,q⟩:=q1;obtain⟨t,rfl⟩:=r1;exact{some i,H1,I1,.int i t,q}
def Nu(X:Cx)(r:V->Option Int->Option Int->Hp->VK->Prop):Prop:=
 ∀(pins:Aac)(s:Shared)(Z:St)(H:Hp)(x:V)(v vl vu:Value)(lo hi:Option Int)(sl:Addr)(Q:VK),Inv X pins Z H s->RelV x v->s.heap.IsSliceOf sl vl vu .none->IsPart vl lo->IsPart vu hi->r x lo hi H Q->
  ∃T id,typeLookup (.type T) "__getitem__"=pure (some (.builtin id))/\s.TypeIs v T/\wpAny (-6) X.A (getItem v (.ref sl)) (EP X pins Z Q) X.xe s
def tSl(r:V->Option Int->Option Int->Hp->VK->Prop)(te:TE)(tl th:TO):TE:=λZ H Q=>te Z H λx H1=>tl Z H1 λl H2=>th Z H2 λu H3=>r x l u H3 Q
def rO(hr:Nu X r)(he:PE X e te)(hl:PO X lo tl)(hu:PO X hi th):PE X (.Subscript e (.Slice lo hi none p2) pos) (tSl r te tl th):=by intro pins s Z H Q I h;refine Fz (df (he pins s Z H _ I h) λv s1 x H1 I1 r1 q1=>?_);refine wpAny_Slice (iT (hl pins s1 Z H1 _ I1 q1) λvl s2 ad2=>?_);obtain⟨l,H2,I2,pl,q2⟩:=ad2;refine iT (hu pins s2 Z H2 _ I2 q2) λvu s3 ad1=>?_;obtain⟨u,H3,I3,pu,q3⟩:=ad1;rw[evalPart_none];refine ao ?_;have I4:Inv X pins Z H3 {s3 with heap:=s3.heap.push {cls:=.type "slice",data:=.fields #[vl,vu,.none]}}:=I3.kept (t':=s3.toks) λb ob q=>aq _ q;obtain⟨T,id,hT,ht,hg⟩:=hr pins {s3 with heap:=s3.heap.push {cls:=.type "slice",data:=.fields #[vl,vu,.none]}} Z H3 x v vl vu l u s3.heap.objs.size Q I4 r1 (Heap.IsSliceOf.new ..) pl pu q3;show wpAny (-6) X.A (subscriptTail e (.Slice lo hi none p2) v (.ref s3.heap.objs.size)) (EP X pins Z Q) X.xe {s3 with heap:=s3.heap.push {cls:=.type "slice",data:=.fields #[vl,vu,.none]}};exact tail_any (ops:=[.ref s3.heap.objs.size,v]) ht hT hg (-58)
def kr(xs:Aao)(lo hi:Option Int):Aao:=(xs.drop (HT.dH xs.length 0 lo)).take (HT.dH xs.length xs.length hi -HT.dH xs.length 0 lo)
def Dc(xs:Aao)(lo hi:Option Int):(kr xs lo hi).length<=xs.length:=by unfold kr;rw[aT,gY];lia
def adb(K:Frag):V->Option Int->Option Int->Hp->VK->Prop:=λx lo hi H Q=>∃a xs,x=.ref a/\bF K H a xs/\
 ¬(HT.dH xs.length 0 lo=0/\HT.dH xs.length xs.length hi=xs.length)/\∀p,H p=none->Q (.ref p) (upd H p (.tup (kr xs lo hi)))
def ZS:Nu X (adb X.K):=by
 intro pins s Z H x v vl vu lo hi sl Q I rx hs pl pu h;obtain⟨a,xs,rfl,hx,hw,q⟩:=h;cases rx;obtain⟨aY,r,ht,hz⟩:=I.tuple hx;have hlen:aY.toArray.size=xs.length:=by rw[aQ];exact r.length.symm
 refine{"tuple",_,eC.lookup,ht.typeIs,?_};refine HT.Cg ht hs pl pu (by rw[hlen];exact hw) ?_ (by rw[hlen];exact hz);rw[hlen];refine{.ref s.heap.objs.size,_,I.laid (t':=s.toks) (o:=.tup (kr xs lo hi)) (λb ob q=>aq _ q) (ar _) ?_,rfl,q _ (-71)};exact{aD (Dc xs lo hi) hz,_,(r.drop (HT.dH xs.length 0 lo)).take (HT.dH xs.length xs.length hi -HT.dH xs.length 0 lo),BL _ _,_,aF _ rfl,rfl}
def Vals.xN(r:Vals xs us):us=[]↔xs=[]:=by
 cases r with
 |nil=>simp
 |cons _ _=>simp
def JZ(n:Nat)(i:Int):Option Nat:=if 0<=i then(if i<n then some i.toNat else none)else if -(n:Int)<=i then some (i+n).toNat else none
def wH(xs:List α)(i:Int):Option α:=(JZ xs.length i).bind λj=>xs[j]?
def MK(h:JZ n i=some j):seqIndex? i n=some j/\j<n/\-(n:Int)<=i/\i<n:=by
 unfold JZ at h;by_cases h0:0<=i
 ·rw[aC h0]at h;by_cases h1:i<n
  ·rw[aC h1]at h;have e:=bK h;exact{by rw[CI h0 h1,e],by lia,by lia,h1}
  ·rw[az h1]at h;cases h
 ·rw[az h0]at h;by_cases h1:-(n:Int)<=i
  ·rw[aC h1]at h;have e:=bK h;exact{by rw[Aw ∅ h1,e],by lia,h1,by lia}
  ·rw[az h1]at h;cases h
def Gh(h:wH xs i=some v):∃j,seqIndex? i xs.length=some j/\xs[j]?=some v/\j<xs.length/\-(xs.length:Int)<=i/\i<xs.length:=by
 unfold wH at h;cases e:JZ xs.length i with
 |none=>rw[e]at h;cases h
 |some j=>
  rw[e]at h;obtain⟨h1,h2,h3,h4⟩:=MK e;exact⟨j,h1,h,h2,h3,h4⟩
def kD{xs:List α}{j:Nat}{v:α}(h:xs[j]?=some v):wH xs (j:Int)=some v:=by
 have hj:=(ax.mp h).1;have e:JZ xs.length (j:Int)=some j:=by unfold JZ;rw[aC ∅,aC ∅];simp
 unfold wH;rw[e];exact h
def Y4(b:Expr):Prop:=∀o i,subscripted b false o i=operate [o,i] (getItem o i)
end
def Nv(X:Cx)(r:R2):Prop:=
 ∀(value slice:Expr)(pins:Aac)(s:Shared)(Z:St)(H:Hp)(x y:V)(v u:Value)(Q:VK),Inv X pins Z H s->RelV x v->RelV y u->r x y H Q->
  subscripted slice false v u=operate [v,u] (getItem v u)->wpAny (-6) X.A (subscriptTail value slice v u) (EP X pins Z Q) X.xe s
def Sh(X:Cx)(id:String)(r:V->Aao->Hp->VK->Prop):Prop:=
 ∀(pins:Aac)(s:Shared)(Z:St)(H:Hp)(x:V)(xs:Aao)(v:Value)(us:Aag)(Q:VK),Inv X pins Z H s->RelV x v->Vals xs us->r x xs H Q->
  wpAny (-6) X.A (call (.builtin id) (v::us)) (EP X pins Z Q) X.xe s
section
variable{X:Cx}{a b:Expr}{ta tb:TE}{pos:Pos}
def dq(hr:Nv X r)(ha:PE X a ta)(hb:PE X b tb)(hs:Y4 b):PE X (.Subscript a b pos) (Vo r ta tb):=by intro pins s Z H Q I h;exact Fz (U1 ha hb I h λv u s2 x y H2 I2 rx ry q=>hr a b pins s2 Z H2 x y v u Q I2 rx ry q (hs _ _))
inductive Z9(K:Frag)(x:V)(y:V)(H:Hp)(Q:VK):Prop
 |mk p xs i v (_:x=.ref p) (_:y=.int i) (_:bo K H p xs) (_:wH xs i=some v) (_:Q v H)
inductive Z8(K:Frag)(x:V)(y:V)(H:Hp)(Q:VK):Prop
 |mk p xs i v (_:x=.ref p) (_:y=.int i) (_:bF K H p xs) (_:wH xs i=some v) (_:Q v H)
inductive adg(x:V)(y:V)(H:Hp)(Q:VK):Prop
 |mk z i c (_:x=.str z) (_:y=.int i) (_:z.length<=sizeLine) (_:wH z.cps.toList i=some c) (_:Q (.str ⟨#[c]⟩) H)
def hE:Nv X (Z9 X.K):=by
 intro value slice pins s Z H x y v u Q I rx ry h hs;obtain⟨p,xs,i,z,rfl,rfl,hq,he,q⟩:=h;cases rx;obtain⟨t,rfl⟩:=ry;obtain⟨aY,r,pl,hz⟩:=I.list hq;obtain⟨j,h1,h2,h3,h4,h5⟩:=Gh he;obtain⟨w,ew,pf⟩:=r.get h2;have hl:=r.length;have hn:=xP;have fin:EP X pins Z Q w s:=⟨z,H,I,pf,q⟩;by_cases h0:0<=i
 ·have hj:i.toNat=j:=by rw[CI h0 h5]at h1;exact bK h1
  exact item_listR pl.isList h0 ∅ (by rw[hj];simpa using ew) fin hs
 ·have hj:(i+(aY.toArray.size:Int)).toNat=j:=by rw[Aw ∅ h4]at h1;rw[aQ,<-hl];exact bK h1
  exact wR pl.isList.typeIs slot_list_getitem.lookup
   (wpAny_getItem_list_neg pl.isList ∅ (by rw[aQ]<;>lia) ∅ (by rw[hj];simpa using ew) ⟨rfl,fin⟩) hs
def lC:Nv X (Z8 X.K):=by
 intro value slice pins s Z H x y v u Q I rx ry h hs;obtain⟨p,xs,i,z,rfl,rfl,hq,he,q⟩:=h;cases rx;obtain⟨t,rfl⟩:=ry;obtain⟨aY,r,pl,hz⟩:=I.tuple hq;obtain⟨j,h1,h2,h3,h4,h5⟩:=Gh he;obtain⟨w,ew,pf⟩:=r.get h2;have hl:=r.length;have hn:=xP;have fin:EP X pins Z Q w s:=⟨z,H,I,pf,q⟩;exact wR pl.typeIs slot_tuple_getitem.lookup
  (getItem_tuple pl ∅ ∅ (by rw[aQ,<-hl];exact h1) (by simpa using ew) ⟨rfl,fin⟩) hs
def QZ:Nv X adg:=by
 intro value slice pins s Z H x y v u Q I rx ry h hs;obtain⟨z,i,c,rfl,rfl,hz,he,q⟩:=h;obtain⟨t,rfl⟩:=rx;obtain⟨t',rfl⟩:=ry;obtain⟨j,h1,h2,h3,h4,h5⟩:=Gh he;have hl:z.cps.toList.length=z.length:=by simp[Str.length]
 rw[hl]at h1 h4 h5;have hn:=xP;exact tail_any (oj s z t) slot_str_getitem.lookup (getItem_str (by
  have e1:decide (i< -(2^63:Int))=false:=bQ ∅;have e2:decide (i≥2^63)=false:=bQ ∅;rw[e1,e2,Ac]) (by rw[h1];simpa using h2) {.str ⟨#[c]⟩,H,I.tok _,⟨_,rfl⟩,q}) hs
def Oh(aY:Aag)(n j:Nat)(u:Value):Obj.mapSeq (·.setIfInBounds j u) {cls:=.type "list",data:=.seq aY.toArray n}={cls:=.type "list",data:=.seq (aY.set j u).toArray n}:=by simp[Obj.mapSeq]
def Inv.lst(I:Inv X pins Z H s)(h:H p=some (.lst xs)):
  ∃(aY:Aag)(n:Nat),Vals xs aY/\s.heap.get? p=some {cls:=.type "list",data:=.seq aY.toArray n}/\xs.length<=sizeLine:=by
 obtain⟨z,aY,n,r,e⟩:=I.br p _ h;exact⟨aY,n,r,e,z⟩
def Inv.aaD{aY its':Aag}(I:Inv X pins Z H s)(h:H p=some (.lst xs))
  (ho:s.heap.get? p=some {cls:=.type "list",data:=.seq aY.toArray n}) (hf:f {cls:=.type "list",data:=.seq aY.toArray n}={cls:=.type "list",data:=.seq its'.toArray n'}) (r:Vals ys its') (hz:ys.length<=sizeLine) (t:Nat):
  Inv X pins Z (upd H p (-38)) {s with heap:=s.heap.update p f,toks:=t}:=by
 have e:(s.heap.update p f).get? p=some {cls:=.type "list",data:=.seq its'.toArray n'}:=by rw[cH f ho (by rw[hf]<;>rfl),hf]
 refine I.write (by rw[h];trivial) (.inl rfl) (λb u hb q=>(bN _ _ (cb hb)).trans q) ⟨_,e⟩ ?_;exact⟨hz,its',n',r,e⟩
inductive ach(o:V)(i:V)(v:V)(H:Hp)(Q:Hp->Prop):Prop
 |mk p xs k j (_:o=.ref p) (_:i=.int k) (_:H p=some (.lst xs)) (_:JZ xs.length k=some j) (_:Q (upd H p (.lst (xs.set j v))))
def set_list:abJ X ach:=by
 intro pins s Z H o i v ov iv u Q I ro ri rv h;obtain⟨p,xs,k,j,rfl,rfl,hp,hj,q⟩:=h;cases ro;obtain⟨t,rfl⟩:=ri;obtain⟨aY,n,r,ho,hz⟩:=I.lst hp;obtain⟨h1,h2,h3,h4⟩:=MK hj;have hl:=r.length;have hn:=xP;have I':Inv X pins Z (upd H p (.lst (xs.set j v))) {s with heap:=s.heap.update p (Obj.mapSeq (·.setIfInBounds j u))}:=
  I.aaD hp ho (Oh aY n j u) (r.set rv j) (by rw[List.length_set];exact hz) s.toks
 by_cases h0:0<=k
 ·have hk:k.toNat=j:=by rw[CI h0 h4]at h1;exact bK h1
  exact PySem.W.ki_setAt ho h0 ∅ (by rw[aQ,<-hl];exact h4) (by rw[hk];exact⟨_,I',q⟩)
 ·have hk:(k+(aY.toArray.size:Int)).toNat=j:=by rw[Aw ∅ h3]at h1;rw[aQ,<-hl];exact bK h1
  exact PySem.W.ki_setBack ho ∅ (by rw[aQ,<-hl];exact h3) ∅ (by rw[hk];exact⟨_,I',q⟩)
def IG(lo hi:Option Int)(n:Nat):(sliceBounds lo hi none n).1=((HT.dH n 0 lo:Nat):Int)/\(sliceBounds lo hi none n).2.1=((HT.dH n n hi:Nat):Int)/\(sliceBounds lo hi none n).2.2=1:=by
 refine{?_,?_,rfl}
 ·cases lo with
  |none=>simp[sliceBounds,HT.dH]
  |some i=>
   simp only[sliceBounds,HT.dH,Option.getD_none,show(1:Int)>0 by decide,lD];by_cases h:i<0
   ·simp only[h,lD]<;>lia
   ·simp only[h,d6]<;>lia
 ·cases hi with
  |none=>simp[sliceBounds,HT.dH]
  |some i=>
   simp only[sliceBounds,HT.dH,Option.getD_none,show(1:Int)>0 by decide,lD];by_cases h:i<0
   ·simp only[h,lD]<;>lia
   ·simp only[h,d6]<;>lia
def HD(aY:Aag)(lo hi:Option Int):slicePick aY.toArray lo hi none=((aY.drop (HT.dH aY.length 0 lo)).take (HT.dH aY.length aY.length hi -HT.dH aY.length 0 lo)).toArray:=by obtain⟨h1,h2,h3⟩:=IG lo hi aY.toArray.size;unfold slicePick;rw[h1,h2,h3];simp only[sliceRange_one,pick_run,aQ]<;>rfl
inductive Z4(K:Frag)(x:V)(lo:Option Int)(hi:Option Int)(H:Hp)(Q:VK):Prop
 |mk a xs (_:x=.ref a) (_:bo K H a xs) (_:∀p,H p=none->Q (.ref p) (upd H p (.lst (kr xs lo hi))))
def FJ:Nu X (Z4 X.K):=by intro pins s Z H x v vl vu lo hi sl Q I rx hs pl pu h;obtain⟨a,xs,rfl,hx,q⟩:=h;cases rx;obtain⟨aY,r,ht,hz⟩:=I.list hx;have hlen:=r.length;refine{"list",_,slot_list_getitem.lookup,ht.isList.typeIs,?_};refine wpAny_getItem_list_slice ht.isList hs pl pu .none (-9) ?_ (by rw[aQ]<;>lia);rw[HD,<-hlen];refine{.ref s.heap.objs.size,_,I.laid (λb ob q=>aq _ q) (ar _) ?_,rfl,q _ (-71)};exact{aD (Dc xs lo hi) hz,_,0,(r.drop (HT.dH xs.length 0 lo)).take (HT.dH xs.length xs.length hi -HT.dH xs.length 0 lo),aF _ rfl}
def qO:V->Bool
 | .cE=>true
 | .bl _=>true
 | .int _=>true
 | .str _=>true
 |_=>false
def Hl:V->V->Bool
 | .cE,.cE=>true
 | .bl a,.bl b=>a==b
 | .bl a,.int b=>(if a then 1 else 0)==b
 | .int a,.bl b=>a==(if b then 1 else 0)
 | .int a,.int b=>a==b
 | .str a,.str b=>a==b
 |_,_=>false
def abx(ry:RelV y u)(rx:RelV x v)(fy:qO y=true)(fx:qO x=true):SeqAt.EqAt A s u v (Hl y x):=by
 cases y with
 |cE=>
  cases ry;cases x with
  |cE=>cases rx;exact SeqAt.EqAt.same _
  |bl b=>cases rx;exact SeqAt.EqAt.none_bool b
  |int b=>obtain⟨t,rfl⟩:=rx;exact SeqAt.EqAt.none_int b t
  |str b=>obtain⟨t,rfl⟩:=rx;exact SeqAt.EqAt.none_str b t
  |_=>exact absurd (show false=true from fx) aW
 |bl a=>
  cases ry;cases x with
  |cE=>cases rx;exact SeqAt.EqAt.bool_none a
  |bl b=>cases rx;exact SeqAt.EqAt.bool_bool a b
  |int b=>obtain⟨t,rfl⟩:=rx;exact SeqAt.EqAt.bool_int a b t
  |str b=>obtain⟨t,rfl⟩:=rx;exact SeqAt.EqAt.bool_str a b t
  |_=>exact absurd (show false=true from fx) aW
 |int a=>
  obtain⟨t',rfl⟩:=ry;cases x with
  |cE=>cases rx;exact SeqAt.EqAt.int_none a t'
  |bl b=>cases rx;exact SeqAt.EqAt.int_bool a t' b
  |int b=>obtain⟨t,rfl⟩:=rx;exact SeqAt.EqAt.int_int a t' b t
  |str b=>obtain⟨t,rfl⟩:=rx;exact BD a t' b t
  |_=>exact absurd (show false=true from fx) aW
 |str a=>
  obtain⟨t',rfl⟩:=ry;cases x with
  |cE=>cases rx;exact SeqAt.EqAt.str_none a t'
  |bl b=>cases rx;exact SeqAt.EqAt.str_bool a t' b
  |int b=>obtain⟨t,rfl⟩:=rx;exact BC a t' b t
  |str b=>obtain⟨t,rfl⟩:=rx;exact SeqAt.EqAt.str_str a t' b t
  |_=>exact absurd (show false=true from fx) aW
 |_=>exact absurd (show false=true from fy) aW
def vG(x:V)(u:Value):Bool:=match u with
 | .none=>Hl .cE x
 | .bool b=>Hl (.bl b) x
 | .int i _=>Hl (.int i) x
 | .str z _=>Hl (.str z) x
 |_=>false
def RR(r:RelV y u)(f:qO y=true):vG x u=Hl y x:=by
 cases y with
 |cE=>cases r;rfl
 |bl b=>cases r;rfl
 |int i=>obtain⟨t,rfl⟩:=r;rfl
 |str z=>obtain⟨t,rfl⟩:=r;rfl
 |_=>exact absurd (show false=true from f) aW
theorem yj:∀{xs:Aao}{us:Aag},Vals xs us->xs.all qO=true->us.any (vG x)=xs.any λy=>Hl y x
 |_,_,.nil,_=>rfl
 |y::xs,u::us,.cons r t,f=>by rw[Ab,bB]at f;rw[mE,mE,RR r f.1,yj t f.2]
theorem vn(rx:RelV x v)(fx:qO x=true):∀{xs:Aao}{us:Aag},Vals xs us->xs.all qO=true->∀u∈us,SeqAt.EqAt A s u v (vG x u)
 |_,_,.nil,_=>λu hu=>by cases hu
 |y::xs,u::us,.cons r t,f=>λu' hu=>by
  rw[Ab,bB]at f;rcases aG.mp hu with rfl|hu
  ·rw[RR r f.1];exact abx r rx f.1 fx
  ·exact vn rx fx t f.2 u' hu
def G1(x:V)(xs:Aao):Bool:=xs.any λy=>Hl y x
inductive rIn(K:Frag)(neg:Bool)(x:V)(y:V)(H:Hp)(Q:VK):Prop
 |mk p xs (_:y=.ref p) (_:(bo K H p xs\/bF K H p xs)) (_:qO x=true) (_:xs.all qO=true) (_:Q (.bl (if neg then !G1 x xs else G1 x xs)) H)
def Qp:jh X (compareOp .In) (rIn X.K false):=by
 intro pins s Z H x y v u Q I rx ry h;obtain⟨p,xs,rfl,hq,fx,fs,q⟩:=h;cases ry;rcases hq with hq|hq
 ·obtain⟨aY,r,pl,hz⟩:=I.list hq;refine SeqAt.in_listAt (vG x) pl.isList (λw hw=>vn rx fx r fs w (by simpa using hw)) {.bl _,H,I,rfl,?_};rw[show aY.toArray.any (vG x)=aY.any (vG x) by simp,yj r fs];exact q
 ·obtain⟨aY,r,pl,hz⟩:=I.tuple hq;refine SeqAt.in_tupleAt (vG x) pl (λw hw=>vn rx fx r fs w (by simpa using hw)) {.bl _,H,I,rfl,?_};rw[show aY.toArray.any (vG x)=aY.any (vG x) by simp,yj r fs];exact q
def AO:jh X (compareOp .NotIn) (rIn X.K true):=by
 intro pins s Z H x y v u Q I rx ry h;obtain⟨p,xs,rfl,hq,fx,fs,q⟩:=h;cases ry;rcases hq with hq|hq
 ·obtain⟨aY,r,pl,hz⟩:=I.list hq;refine SeqAt.notIn_listAt (vG x) pl.isList (λw hw=>vn rx fx r fs w (by simpa using hw)) {.bl _,H,I,rfl,?_};rw[show aY.toArray.any (vG x)=aY.any (vG x) by simp,yj r fs];exact q
 ·obtain⟨aY,r,pl,hz⟩:=I.tuple hq;refine SeqAt.notIn_tupleAt (vG x) pl (λw hw=>vn rx fx r fs w (by simpa using hw)) {.bl _,H,I,rfl,?_};rw[show aY.toArray.any (vG x)=aY.any (vG x) by simp,yj r fs];exact q
def vI:jv X (.type "list") (λxs H Q=>∃p ys,xs=[.ref p]/\(bo X.K H p ys\/bF X.K H p ys)/\∀l,H l=none->Q (.ref l) (upd H l (-38))):=by
 intro pins s Z H xs us Q I r h;obtain⟨p,ys,rfl,hq,q⟩:=h;obtain⟨u,rfl,rx⟩:=lO r;cases rx;have fin:∀(aY:Aag),Vals ys aY->ys.length<=sizeLine->∀(h':Heap)(c':Nat),(∀b o',s.heap.get? b=some o'->h'.get? b=some o')->
   h'.get? s.heap.objs.size=some {cls:=.type "list",dict:=none,data:=.seq aY.toArray c',slots:=#[]}->EP X pins Z Q (-12) {s with heap:=h'}:=λaY r' hz h' c' kp e=>
  {.ref s.heap.objs.size,_,I.laid kp (ar _) (show dG X.prog X.w _ h' _ (-38)from⟨hz,aY,c',r',e⟩),rfl,q _ (-71)}
 rcases hq with hq|hq
 ·obtain⟨aY,r',pl,hz⟩:=I.list hq;have hlen:=r'.length;obtain⟨o,ho,hc,n,hd⟩:=pl.isList;exact call_list_seq p (.inl rfl) ho hc hd (λh' c' kp e=>fin aY r' hz h' c' kp e) (by simp only[aQ]<;>lia)
 ·obtain⟨aY,r',pl,hz⟩:=I.tuple hq;have hlen:=r'.length;obtain⟨o,ho,hc,n,hd⟩:=pl;exact call_list_seq p (.inr rfl) ho hc hd (λh' c' kp e=>fin aY r' hz h' c' kp e) (by simp only[aQ]<;>lia)
def fD:jv X (.type "tuple") (λxs H Q=>∃p ys,xs=[.ref p]/\((bo X.K H p ys/\∀l,H l=none->Q (.ref l) (upd H l (.tup ys)))\/(bF X.K H p ys/\Q (.ref p) H))):=by
 intro pins s Z H xs us Q I r h;obtain⟨p,ys,rfl,h⟩:=h;obtain⟨u,rfl,rx⟩:=lO r;cases rx;rcases h with⟨hq,q⟩|⟨hq,q⟩
 ·obtain⟨aY,r',pl,hz⟩:=I.list hq;have hlen:=r'.length;refine call_tuple_list pl.isList (λh' kp=>?_) (by simp only[aQ]<;>lia);have I1:=I.kept (t':=s.toks) kp;have I2:Inv X pins Z (upd H h'.objs.size (.tup ys)) {s with heap:=h'.push {cls:=.type "tuple",data:=.seq aY.toArray}}:=
   I1.laid (λb o e=>aq _ e) (ar _) (show dG X.prog X.w _ _ _ (.tup ys)from{hz,aY,r',BL _ _,_,aF _ rfl,rfl})
  exact{.ref h'.objs.size,_,I2,rfl,q _ (I1.br.fresh (ar _))}
 ·obtain⟨aY,r',pl,hz⟩:=I.tuple hq;exact call_tuple_same pl {.ref p,H,I,rfl,q}
noncomputable def tyV(K:Frag)(T:String)(x:V)(H:Hp):Prop:=match x with
 | .str _=>T="str"
 | .int _=>T="int"
 | .ref p=>(T="list"/\∃xs,bo K H p xs)\/(T="tuple"/\((∃xs,H p=some (.tup xs))\/∃o,K.lookup p=some o/\o.cls=.type "tuple"/\o.dict=none))\/
   (T="dict"/\((∃kvs,H p=some (.dK kvs))\/∃kvs,H p=some (.dT kvs)))\/(T="set"/\∃S n,H p=some (.set S n))
 |_=>False
def Zp(I:Inv X pins Z H s)(r:RelV x v)(ty:tyV X.K T x H):
  s.TypeIs v T/\∀a,v=.ref a->∃ob,s.heap.get? a=some ob/\ob.dict=none:=by
 cases x with
 |str z=>
  obtain⟨t,rfl⟩:=r;cases(show T="str"from ty);exact{oj s z t,λ_ e=>nomatch e}
 |int i=>
  obtain⟨t,rfl⟩:=r;cases(show T="int"from ty);exact{typeIs_int s i t,λ_ e=>nomatch e}
 |ref p=>
  cases r;rcases ty with⟨rfl,xs,hq⟩|⟨rfl,⟨xs,hq⟩|⟨o,hk,hc,hd⟩⟩|⟨rfl,hk⟩|⟨rfl,S,n,hk⟩
  ·obtain⟨aY,_,pl,_⟩:=I.list hq;refine{pl.isList.typeIs,λa e=>?_};cases e;obtain⟨o,n,e,c,hd,_⟩:=pl;exact⟨o,e,hd⟩
  ·obtain⟨_,_,_,⟨o1,e1,c1,_⟩,o,e,hd⟩:=I.br p _ hq;refine{⟨o1,e1,c1⟩,λa e2=>?_};cases e2;exact⟨o,e,hd⟩
  ·refine{{o,I.mT p o hk,hc},λa e=>?_};cases e;exact{o,I.mT _ o hk,hd}
  ·have z:∃o,s.heap.get? p=some o/\o.ExactDict:=by
    rcases hk with⟨kvs,hk⟩|⟨kvs,hk⟩
    ·obtain⟨_,_,_,_,o,_,_,e,ex,_⟩:=I.br p _ hk;exact⟨o,e,ex⟩
    ·obtain⟨_,_,_,_,o,_,_,e,ex,_⟩:=I.br p _ hk;exact⟨o,e,ex⟩
   obtain⟨o,e,ex⟩:=z;refine{{o,e,ex.1},λa e2=>?_};cases e2;exact{o,e,ex.2.1}
  ·obtain⟨o,_,_,_,e,ex,_⟩:=I.br p _ hk;refine{{o,e,ex.1},λa e2=>?_};cases e2;exact{o,e,ex.2.1}
 |_=>exact False.elim ty
def tBM(K:Frag)(T:String)(r:V->Aao->Hp->VK->Prop)(to:TE)(t:TA):TE:=λZ H Q=>to Z H λx H1=>tyV K T x H1/\t Z H1 λxs H2=>r x xs H2 Q
variable{o e:Expr}{es:List Expr}{to:TE}{t:TA}{name:Str}{apos fC:Pos}{T id:String}{r:V->Aao->Hp->VK->Prop}
def ox(pa:PlainAttrs T)(slot:Slot T name id)(hty:typeOf (.builtin id)=pure (.type "method_descriptor"))(hm:Sh X id r)(ho:PE X o to)(ha:PA X (e::es) t)
  (E9:attributeBase o name X.env (eval o X.env)=eval o X.env:=by rfl)
  (Uu:((backTo fC (starEach (e::es) X.env)).all (λx=>!x.1)&&(backToKw fC (keywordEach [] X.env)).all (λx=>x.1.isSome)
   &&decide ((e::es).length+([]:List Keyword).length+(if([]:List Keyword).isEmpty then 0 else 1)<30))=true:=by rfl)
  (E4:(apos.endLine==fC.line)=true:=by rfl) (hs:starEach (e::es) X.env=(false,eval e X.env)::starEach es X.env:=by rfl) (Kf:(backTo fC (starEach es X.env)).any (·.1)=false:=by rfl):
  PE X (.Call (.Attribute o name apos) (e::es) [] fC) (tBM X.K T r to t):=by
 intro pins s Z H Q I h;refine wpAny_Call_method_late E9 Uu E4 rfl (df (ho pins s Z H _ I h) λv s1 x H1 I1 r1 ad0=>?_);obtain⟨ty,q1⟩:=ad0;obtain⟨h1,h2⟩:=Zp I1 r1 ty;refine{T,id,pa,slot,hty,h1,h2,?_};have hA:=ha fC pins s1 Z H1 _ I1 q1;rw[hs]at hA⊢;refine iX (by show(false||(backTo fC (starEach es X.env)).any (·.1))=false;rw[Kf]<;>rfl) (lZ ?_);exact iT hA λus s2 ⟨vs,H2,I2,r2,q2⟩=>hm pins s2 Z H2 x vs v us Q I2 r1 r2 q2
end
def Si(X:Cx)(id:String)(r:V->Aao->Hp->VK->Prop):Prop:=
 ∀(pins:Aac)(s:Shared)(Z:St)(H:Hp)(x:V)(xs:Aao)(v:Value)(us:Aag)(Q:VK),Inv X pins Z H s->RelV x v->Vals xs us->r x xs H Q->
  wpAny (-6) X.A (call (.builtin id) (v::us)) (EP X pins Z Q) X.xe s
theorem Vals.one:∀{x:V}{us:Aag},Vals [x] us->∃u,us=[u]/\RelV x u
 |_,_,.cons r .nil=>⟨_,rfl,r⟩
theorem Vals.eraseIdx:∀{xs:Aao}{us:Aag}(i:Nat),Vals xs us->Vals (xs.eraseIdx i) (us.eraseIdx i)
 |_,_,_,.nil=>.nil
 |_,_,0,.cons _ t=>t
 |_,_,i+1,.cons r t=>.cons r (Vals.eraseIdx i t)
theorem GX{α:Type}:∀(l:List α)(i:Nat),(l.eraseIdx i).length<=l.length
 |[],_=>ar _
 |_::_,0=>fH _
 |_::r,i+1=>lV (GX r i)
section
variable{X:Cx}{pins:Aac}{Z:St}{H:Hp}{s:Shared}{l:Addr}{xs ys:Aao}
def Inv.Om{aY its':Aag}(I:Inv X pins Z H s)(hH:H l=some (.lst xs))
  (e:s.heap.get? l=some {cls:=.type "list",data:=.seq aY.toArray n}) (hf:f aY.toArray=its'.toArray) (hv:Vals ys its') (hz:ys.length<=sizeLine):
  Inv X pins Z (upd H l (-38)) {s with heap:=s.heap.update l (Obj.mapSeq f),toks:=t'}:=by
 have q:=PySem.IsL.update e f;rw[hf]at q;refine I.write (by rw[hH];exact trivial) (.inl rfl) (λb' u hb hu=>(bN s.heap (Obj.mapSeq f) (cb hb)).trans hu) ⟨_,q⟩ ?_;exact⟨hz,its',_,hv,q⟩
def Inv.adt(I:Inv X pins Z H s)(hv:Vals ys aY)(hz:ys.length<=sizeLine):
  Inv X pins Z (upd H s.heap.objs.size (-38)) {s with heap:=s.heap.push {cls:=.type "list",data:=.seq aY.toArray},toks:=t'}:=
 I.laid (λ_ _ q=>aq _ q) (ar _) {hz,aY,0,hv,aF _ rfl}
def Inv.fresh(I:Inv X pins Z H s):H s.heap.objs.size=none:=I.br.fresh (ar _)
def Inv.DE(I:Inv X pins Z H s)(hH:H l=some (.lst xs)):xs.length<=sizeLine/\∃(aY:Aag)(n:Nat),Vals xs aY/\xs.length=aY.length/\s.heap.get? l=some {cls:=.type "list",data:=.seq aY.toArray n}:=by obtain⟨z,aY,n,r,e⟩:=I.br l _ hH;exact{z,aY,n,r,r.length,e}
def JH(h:n<=sizeLine):Builtin.List.listTooLong n=false:=by unfold Builtin.List.listTooLong;exact bQ ∅
end
section
variable{X:Cx}
inductive XS(x:V)(vs:Aao)(H:Hp)(Q:VK):Prop
 |mk l xs y (_:x=.ref l) (_:vs=[y]) (_:H l=some (.lst xs)) (_:xs.length<sizeLine) (_:Q .cE (upd H l (.lst (xs++[y]))))
def qe:Si X "list.append" XS:=by intro pins s Z H x vs v us Q I rx rv h;obtain⟨l,xs,y,rfl,rfl,hH,hz,q⟩:=h;cases rx;obtain⟨u,rfl,ru⟩:=rv.one;obtain⟨z,aY,n,r,hl,e⟩:=I.DE hH;refine uJ BN ⟨_,e,rfl⟩ Al (zC _ _) (Co l aY.toArray n u (by rw[aQ];lia)) {e,?_};refine{.cE,_,I.Om hH e (-9) (r.append (.cons ru .nil)) ?_,rfl,q};rw[aO,dA];lia
inductive XR(x:V)(vs:Aao)(H:Hp)(Q:VK):Prop
 |mk l b xs zs (_:x=.ref l) (_:vs=[.ref b]) (_:H l=some (.lst xs)) (_:H b=some (.lst zs)) (_:xs.length+zs.length<=sizeLine) (_:Q .cE (upd H l (.lst (xs++zs))))
def GV:Si X "list.extend" XR:=by
 intro pins s Z H x vs v us Q I rx rv h;obtain⟨l,b,xs,zs,rfl,rfl,hH,hB,hz,q⟩:=h;cases rx;obtain⟨u,rfl,ru⟩:=rv.one;cases ru;obtain⟨z,aY,n,r,hl,e⟩:=I.DE hH;obtain⟨z2,qI,n2,r2,jF,e2⟩:=I.DE hB;have hsz:aY.toArray.size+qI.toArray.size<=sizeLine:=by rw[aQ,aQ];lia
 have OF:¬(!aY.toArray.isEmpty&&Builtin.List.listTooLong (aY.toArray.size+qI.toArray.size))=true:=by rw[JH hsz,si];exact aW
 refine uJ BM ⟨_,e,rfl⟩ Ak (zB _ _)
  (AutoSeq1.list_extend_list_list_0 l aY.toArray n b qI.toArray n2 OF (by rw[aQ];lia) ∅) {e,e2,?_}
 refine{.cE,_,I.Om hH e (-9) (r.append r2) ?_,rfl,q};rw[aO];lia
inductive Z6(x:V)(vs:Aao)(H:Hp)(Q:VK):Prop
 |mk l xs i k y (_:x=.ref l) (_:vs=[.int i]) (_:H l=some (.lst xs)) (_:-(2^63)<=i) (_:i<2^63) (_:seqIndex? i xs.length=some k) (_:xs[k]?=some y) (_:Q y (upd H l (.lst (xs.eraseIdx k))))
def TR:Si X "list.pop" Z6:=by
 intro pins s Z H x vs v us Q I rx rv h;obtain⟨l,xs,i,k,y,rfl,rfl,hH,h1,h2,hk,hy,q⟩:=h;cases rx;obtain⟨u,rfl,ru⟩:=rv.one;obtain⟨t,rfl⟩:=ru;obtain⟨z,aY,n,r,hl,e⟩:=I.DE hH;obtain⟨w,hw,pf⟩:=r.get hy;refine uJ F.slot_list_pop ⟨_,e,rfl⟩ F.entry_list_pop (F.args_list_pop_2 _ _)
  (MeetsSeq.list_pop_at l aY.toArray n i t k w (fitsIndex_both h1 h2) (by rw[aQ,<-hl];exact hk) (by rw[<-bI];exact hw) (by rw[aQ];lia)) {e,?_}
 refine{y,_,I.Om hH e ?_ (r.eraseIdx k) ?_,pf,q}
 ·show aY.toArray.eraseIdxIfInBounds k=(aY.eraseIdx k).toArray;rw[List.eraseIdxIfInBounds_toArray]
 ·have:=GX xs k;lia
inductive adj(x:V)(y:V)(H:Hp)(Q:VK):Prop
 |mk l b xs zs (_:x=.ref l) (_:y=.ref b) (_:H l=some (.lst xs)) (_:H b=some (.lst zs)) (_:xs.length+zs.length<=sizeLine) (_:∀p,H p=none->Q (.ref p) (upd H p (.lst (xs++zs))))
def aat:jh X (binaryOp .Add) adj:=by
 intro pins s Z H x y v u Q I rx ry h;obtain⟨l,b,xs,zs,rfl,rfl,hH,hB,hz,q⟩:=h;cases rx;cases ry;obtain⟨z,aY,n,r,hl,e⟩:=I.DE hH;obtain⟨z2,qI,n2,r2,jF,e2⟩:=I.DE hB;refine PySem.P.add_list e e2 ?_ (by rw[aQ,aQ];lia);have ea:aY.toArray++qI.toArray=(aY++qI).toArray:=by simp
 rw[ea];exact{.ref _,_,I.adt (r.append r2) (by rw[aO];lia),rfl,q _ I.fresh}
end
section
variable{κ:Type}[DecidableEq κ]
def fh(kvs:List (κ×V))(k:κ):Aap:=(kvs.find? λkv=>decide (kv.1=k)).map (·.2)
def putK(kvs:List (κ×V))(k:κ)(v:V):List (κ×V):=
 if(-56)=true then kvs.map (λkv=>if kv.1=k then(kv.1,v)else kv)else kvs++[(k,v)]
def il{p:κ×V}{k:κ}(e:p.1=k):fh (p::r) k=some p.2:=by simp[fh,eK,e]
def gR{p:κ×V}{k:κ}(e:¬p.1=k):fh (p::r) k=fh r k:=by simp[fh,eK,e]
theorem m7(k:κ):∀kvs:List (κ×V),(-56)=(fh kvs k).isSome
 |[]=>rfl
 |p::r=>by
  rw[mE];by_cases e:p.1=k
  ·simp only[il e,bp e,Bool.true_or,Option.isSome_some]
  ·rw[gR e,bQ e,Bool.false_or];exact m7 k r
theorem HY(k j:κ)(y:V):∀kvs:List (κ×V),fh (kvs.map λkv=>if kv.1=k then(kv.1,y)else kv) j=(fh kvs j).map λx=>if j=k then y else x
 |[]=>rfl
 |p::r=>by
  have ih:=HY k j y r;rw[aU];by_cases h:p.1=k
  ·rw[aC h];by_cases e:p.1=j
   ·rw[il (p:=(p.1,y)) e,il e,eI,aC (e.symm.trans h)]
   ·rw[gR (p:=(p.1,y)) e,gR e,ih]
  ·rw[az h];by_cases e:p.1=j
   ·rw[il (p:=p) e,il e,eI,az (λz=>h (e.trans z))]
   ·rw[gR (p:=p) e,gR e,ih]
theorem Gr(k j:κ)(y:V):∀kvs:List (κ×V),fh kvs k=none->fh (kvs++[(k,y)]) j=if j=k then some y else fh kvs j
 |[],_=>by
  by_cases e:k=j
  ·rw[aC e.symm];exact il (p:=(k,y)) e
  ·rw[az (λz=>e z.symm)];exact gR (p:=(k,y)) e
 |p::r,hn=>by
  rw[lX];have hk:¬p.1=k:=λz=>by rw[il z]at hn;cases hn
  rw[gR hk]at hn;have ih:=Gr k j y r hn;by_cases e:p.1=j
  ·rw[il e,il e,az (λz=>hk (e.trans z))]
  ·rw[gR e,gR e,ih]
def Sw(kvs:List (κ×V))(k j:κ)(y:V):fh (putK kvs k y) j=if j=k then some y else fh kvs j:=by
 unfold putK;by_cases a:(-56)=true
 ·rw[aC a,HY];rw[m7]at a;by_cases e:j=k
  ·obtain⟨x,hx⟩:=jY.mp a;rw[aC e,e,hx,eI,aC rfl]
  ·rw[az e];cases fh kvs j with
   |none=>rfl
   |some x=>rw[eI,az e]
 ·rw[az a];refine Gr k j y kvs ?_;rw[m7]at a;cases q:fh kvs k with
  |none=>rfl
  |some x=>rw[q]at a;exact(a rfl).elim
def w4(kvs:List (κ×V))(k:κ)(v:V):(putK kvs k v).length<=kvs.length+1:=by
 unfold putK;split
 ·rw[ak];lia
 ·rw[aO,bx,d5];lia
def yM{k:κ}(v:V)(h:fh kvs k=none):putK kvs k v=kvs++[(k,v)]:=by unfold putK;rw[m7,h];exact az (-8)
def lG.sS(r:lG o u):o.isSome=u.isSome:=by
 cases o with
 |none=>cases u with
  |none=>rfl
  |some _=>exact(show False from r).elim
 |some _=>cases u with
  |none=>exact(show False from r).elim
  |some _=>rfl
def lG.getD(r:lG o u)(rd:RelV d d'):RelV (o.getD d) (u.getD d'):=by
 cases o with
 |none=>cases u with
  |none=>exact rd
  |some _=>exact(show False from r).elim
 |some _=>cases u with
  |none=>exact(show False from r).elim
  |some _=>exact r
def KV.val(r:KV kvs vs)(k:κ):lG (fh kvs k) (valueAt vs k):=by
 unfold KV at r
 induction r with
 |nil=>exact True.intro
 |@cons p q ps qs h t ih=>
  obtain⟨h1,h2⟩:=h;by_cases e:p.1=k
  ·have e':q.1=k:=h1.symm.trans e;have b:valueAt (q::qs) k=some q.2:=by simp[valueAt,eK,e']
   rw[il e,b];exact h2
  ·have e':¬q.1=k:=λz=>e (h1.trans z);have b:valueAt (q::qs) k=valueAt qs k:=by simp[valueAt,eK,e']
   rw[gR e,b];exact ih
def KV.any(r:KV kvs vs)(k:κ):(-56)=vs.any λkv=>decide (kv.1=k):=by
 unfold KV at r
 induction r with
 |nil=>rfl
 |cons h t ih=>rw[mE,mE,ih,h.1]
def KV.S8(r:KV kvs vs)(k:κ)(ry:RelV y u):
  KV (kvs.map λkv=>if kv.1=k then(kv.1,y)else kv) (vs.map λkv=>if kv.1=k then(kv.1,u)else kv):=by
 unfold KV at r⊢
 induction r with
 |nil=>exact .nil
 |@cons p q ps qs h t ih=>
  rw[aU,aU];refine .cons ?_ ih;obtain⟨h1,h2⟩:=h;by_cases e:p.1=k
  ·rw[aC e,aC (h1.symm.trans e)];exact⟨h1,ry⟩
  ·rw[az e,az (λz=>e (h1.trans z))];exact⟨h1,h2⟩
def KV.put(r:KV kvs vs)(k:κ)(ry:RelV y u):KV (putK kvs k y) (stored vs k u):=by
 unfold putK stored;rw[r.any k];by_cases e:(vs.any λkv=>decide (kv.1=k))=true
 ·rw[aC e,aC e];exact r.S8 k ry
 ·rw[az e,az e];exact kQ r ⟨rfl,ry⟩
def KV.keys{kvs:List (κ×V)}(r:KV kvs vs):kvs.map (·.1)=vs.map (·.1):=by
 unfold KV at r
 induction r with
 |nil=>rfl
 |cons h t ih=>rw[aU,aU,ih,h.1]
def KV.length{kvs:List (κ×V)}(r:KV kvs vs):kvs.length=vs.length:=bw r
end
def wq(r:RelV (kV k) u):(bH P w).is k u=true:=by
 cases k with
 |inl i=>obtain⟨t,e⟩:=(show∃t,u=Value.int i t from r);subst e;exact Ll P w i t
 |inr x=>obtain⟨t,e⟩:=(show∃t,u=Value.str x t from r);subst e;exact CN P w x t
theorem G0:∀{ks:List Key}{us:Aag},Vals (ks.map kV) us->ItemsAre (bH P w) ks us
 |[],_,r=>by rw[ji]at r;cases r;exact .nil
 |k::ks,_,r=>by
  rw[aU]at r;cases r with
  |cons h t=>exact .cons (wq h) (G0 t)
abbrev KT(H:Hp):List (List Key×V)->List (List Key×Addr×Value)->Prop:=Paired λp q=>p.1=q.1/\H q.2.1=some (.tup (p.1.map kV))/\RelV p.2 q.2.2
def KT.val(r:KT H kvs xs)(k:List Key):lG (fh kvs k) ((atKey xs k).map (·.2)):=by
 induction r with
 |nil=>exact True.intro
 |@cons p q ps qs h t ih=>
  obtain⟨h1,_,h2⟩:=h;by_cases e:p.1=k
  ·have e':q.1=k:=h1.symm.trans e;have b:atKey (q::qs) k=some q.2:=by simp[atKey,eK,e']
   rw[il e,b];exact h2
  ·have e':¬q.1=k:=λz=>e (h1.trans z);have b:atKey (q::qs) k=atKey qs k:=by simp[atKey,eK,e']
   rw[gR e,b];exact ih
def KT.S8(r:KT H kvs xs)(k:List Key)(ry:RelV y u):
  KT H (kvs.map λkv=>if kv.1=k then(kv.1,y)else kv) (xs.map (putAt k u)):=by
 induction r with
 |nil=>exact .nil
 |@cons p q ps qs h t ih=>
  rw[aU,aU];refine .cons ?_ ih;obtain⟨h1,h2,h3⟩:=h;unfold putAt;by_cases e:p.1=k
  ·rw[aC e,aC (h1.symm.trans e)];exact⟨h1,h2,ry⟩
  ·rw[az e,az (λz=>e (h1.trans z))];exact⟨h1,h2,h3⟩
def KT.put(r:KT H kvs xs)(k:List Key)(hb:H b=some (.tup (k.map kV)))(ry:RelV y u):
  KT H (putK kvs k y) (storedH xs k b u):=by
 have e:(-56)=(atKey xs k).isSome:=by rw[m7,(r.val k).sS,jH]
 unfold putK storedH;rw[e];by_cases q:(atKey xs k).isSome=true
 ·rw[aC q,aC q];exact r.S8 k ry
 ·rw[az q,az q];exact kQ r ⟨rfl,hb,ry⟩
def KT.keeps(r:KT H kvs xs)(ht:∀b ys,H b=some (.tup ys)->H' b=some (.tup ys)):KT H' kvs xs:=
 Paired.vp r λ_ _ z=>{z.1,ht _ _ z.2.1,z.2.2}
section
variable{P:Program}{w:World}{H:Hp}{h:Heap}{a:Addr}
def VF(ok:jI P w H h)(e:Rd H a u):dG P w H h a u:=e.ok ok
def za(ok:jI P w H h)(e:Rd H a (.dK kvs)):kvs.length<=sizeLine/\(a==sysModules)=false/\∃vs,KV kvs vs/\h.DictOf (bH P w) a vs:=
 show dG P w H h a (.dK kvs)from VF ok e
def oB(ok:jI P w H h)(e:H a=some (.dK kvs)):kvs.length<=sizeLine/\(a==sysModules)=false/\∃vs,KV kvs vs/\h.DictOf (bH P w) a vs:=za ok (.inl e)
def A4(ok:jI P w H h)(e:H a=some (.tup (ks.map kV))):(tupleKind (bH P w)).is h ks a:=by obtain⟨_,aY,r,⟨o,h1,h2,n,h3⟩,_⟩:=(show dG P w H h a (.tup (ks.map kV))from ok a _ e);exact{o,aY.toArray,n,h1,h2,h3,by simpa using G0 r}
def B9(ok:jI P w H h)(e:Rd H a (.dT kvs)):kvs.length<=sizeLine/\(a==sysModules)=false/\
  ∃xs,KT H kvs xs/\h.DictOfH (tupleKind (bH P w)) a xs:=by
 obtain⟨z,y,xs,r,o,es,ep,h1,h2,h3,h4,h5⟩:=(show dG P w H h a (.dT kvs)from VF ok e);refine{z,y,xs,r,o,es,ep,h1,h2,h3,h4,λx hx=>?_,h5};have all:∀{l:List (List Key×V)}{m:List (List Key×Addr×Value)},KT H l m->∀x∈m,(tupleKind (bH P w)).is h x.1 x.2.1:=by
  intro l m q
  induction q with
  |nil=>intro x hx;exact nomatch hx
  |@cons p q ps qs hq t ih=>
   intro x hx;rcases aG.mp hx with e|hx
   ·subst e;exact A4 ok (by rw[<-hq.1];exact hq.2.1)
   ·exact ih x hx
 exact all r x hx
def acN(ok:jI P w H h)(e:H a=some (.dT kvs)):kvs.length<=sizeLine/\(a==sysModules)=false/\
  ∃xs,KT H kvs xs/\h.DictOfH (tupleKind (bH P w)) a xs:=B9 ok (.inl e)
end
def kR(H:Hp)(a:Addr)(y:V)(r:Aap):Prop:=
 (∃kvs k,Rd H a (.dK kvs)/\y=kV k/\r=fh kvs k)\/∃kvs k b,Rd H a (.dT kvs)/\y=.ref b/\H b=some (.tup (k.map kV))/\r=fh kvs k
def vU(H:Hp)(a:Addr)(y v:V)(H':Hp):Prop:=
 (∃kvs k,H a=some (.dK kvs)/\y=kV k/\kvs.length<sizeLine/\H'=upd H a (.dK (putK kvs k v)))\/
 ∃kvs k b,H a=some (.dT kvs)/\y=.ref b/\H b=some (.tup (k.map kV))/\kvs.length<sizeLine/\H'=upd H a (.dT (putK kvs k v))
theorem kR.k{H:Hp}{a:Addr}{kvs:List (Key×V)}{k:Key}(e:H a=some (.dK kvs)):kR H a (kV k) (fh kvs k):=.inl {kvs,k,.inl e,rfl,rfl}
theorem vU.k{H:Hp}{a:Addr}{kvs:List (Key×V)}{k:Key}{v:V}(e:H a=some (.dK kvs))(hl:kvs.length<sizeLine):vU H a (kV k) v (upd H a (.dK (putK kvs k v))):=.inl ⟨kvs,k,e,rfl,hl,rfl⟩
section
variable{X:Cx}{pins:Aac}{Z:St}{H:Hp}{s:Shared}{a:Addr}{y v:V}{u r:Value}{o:Aap}{A:Around}{E:Aae}
def Inv.big(I:Inv X pins Z H s):sysModules<s.heap.objs.size:=by have h:mainGlobals<s.heap.objs.size:=(I.mod.glob.keeps I.bk).lt;exact fE (-8) h
def R0(hu:A.units+1<cLine)(I:Inv X pins Z H s)(g:kR H a y (some v))(ry:RelV y u)(h:∀w' s',Inv X pins Z H s'->RelV v w'->Q w' s'):
  wpAny (-6) A (getItem (-51) u) Q E s:=by
 rcases g with⟨kvs,k,e,ey,l⟩|⟨kvs,k,b,e,ey,eb,l⟩
 ·subst ey;obtain⟨z,hd,vs,rel,dd⟩:=za I.br e;obtain⟨w',hw,pf⟩:=lG.some_of (v:=v) (o:=valueAt vs k) (by rw[l];exact rel.val k);exact wpAny_getItem_of (wq ry) dd.mapOf hw (h w' _ (I.tok _) pf)
 ·subst ey;cases(show u=Value.ref b from ry);obtain⟨z,hd,xs,rel,dd⟩:=B9 I.br e;obtain⟨w',hw,pf⟩:=lG.some_of (v:=v) (o:=(atKey xs k).map (·.2)) (by rw[l];exact rel.val k);obtain⟨p,hp,iU⟩:=aX.mp hw;refine Aq (m9 hu) (A4 I.br eb) dd hp ?_;rw[iU];exact h w' _ (I.tok _) pf
def aev(hu:A.units+1<cLine)(I:Inv X pins Z H s)(g:kR H a y o)(ry:RelV y u)(h:∀s',Inv X pins Z H s'->Q (.bool o.isSome) s'):
  wpAny (-6) A (compareOp .In u (-51)) Q E s:=by
 rcases g with⟨kvs,k,e,ey,l⟩|⟨kvs,k,b,e,ey,eb,l⟩
 ·subst ey;obtain⟨z,hd,vs,rel,dd⟩:=za I.br e;refine wpAny_in_of (wq ry) hd dd.mapOf ?_;rw[<-(rel.val k).sS,<-l];exact h _ (I.tok _)
 ·subst ey;cases(show u=Value.ref b from ry);obtain⟨z,hd,xs,rel,dd⟩:=B9 I.br e;refine wpAny_in_heap (m9 hu) (A4 I.br eb) hd dd ?_;have q:=(rel.val k).sS;rw[jH]at q;rw[<-q,<-l];exact h _ (I.tok _)
def uU(I:Inv X pins Z H s)(mu:Sg (H a))(hs:Heap.SameBut a s.heap h')(he:∃q,h'.get? a=some q)(new:dG X.prog X.w (upd H a ob) h' a ob):
  Inv X pins Z (upd H a ob) {s with heap:=h',toks:=t'}:=
 I.write (x:=a) (e:=a) mu (.inl rfl) (λb q hb z=>(hs.2 b hb).trans z) he new
def Bm(z:kvs.length<=sizeLine)(hd:(a==sysModules)=false)(rel:KV kvs vs)(dd:h'.DictOf (bH P w) a vs):
  dG P w H' h' a (.dK kvs):=⟨z,hd,vs,rel,dd⟩
def RW(hu:A.units+1<cLine)(I:Inv X pins Z H s)(g:vU H a y v H')(ry:RelV y u)(rv:RelV v r)(h:∀s',Inv X pins Z H' s'->Q () s'):
  wpAny (-6) A (setItem (-51) u r) Q E s:=by
 rcases g with⟨kvs,k,e,ey,l,eH⟩|⟨kvs,k,b,e,ey,eb,l,eH⟩
 ·subst ey eH;obtain⟨z,hd,vs,rel,dd⟩:=oB I.br e;have hz:vs.length<=sizeLine:=by rw[<-rel.length];exact z
  have hl:(putK kvs k v).length<=sizeLine:=by have:=w4 kvs k v;lia
  refine wpAny_setItem_pairs (hsz:=hz) (wq ry) dd λh' vH hs=>h _ ?_;have he:∃q,h'.get? a=some q:=let⟨q,_,_,hq,_⟩:=vH;⟨q,hq⟩
  exact uU I (by rw[e];exact True.intro) hs he (Bm hl hd (rel.put k rv) vH)
 ·subst ey eH;cases(show u=Value.ref b from ry);obtain⟨z,hd,xs,rel,dd⟩:=acN I.br e;have hz:xs.length<=sizeLine:=by rw[<-bw rel];exact z
  have hl:(putK kvs k v).length<=sizeLine:=by have:=w4 kvs k v;lia
  refine Ap (hsz:=hz) (m9 hu) (A4 I.br eb) dd λh' vH hs=>h _ ?_;obtain⟨q,es,ep,hq,h2,h3,h4,_,h5⟩:=vH;refine uU I (by rw[e];exact True.intro) hs ⟨q,hq⟩ {hl,hd,_,(rel.put k eb rv).keeps λc ys ec=>?_,q,es,ep,hq,h2,h3,h4,h5};rw[aE (yR ec e (λz=>nomatch z))];exact ec
def U6(i:Expr):Prop:=∀ov iv,subscripted i false ov iv=operate [ov,iv] (getItem ov iv)
end
def LZ{T id:String}
  (hl:typeLookup (.type T) "__getitem__"=pure (some (.builtin id))) (hs:U6 slice)
  (h:wpAny (-5) A (eval value env) (λo aaa=>wpAny (-5) A (eval slice env) (λi aad=>aad.TypeIs o T/\wpAny (-5) A (getItem o i) Q E aad) E aaa) E s):
  wpAny (-5) A (eval (.Subscript value slice pos) env) Q E s:=by
 refine Fz (dc h (λo aaa adE=>dc adE (λi aad aaf=>?_) λ_ _ x=>x) λ_ _ x=>x);obtain⟨hT,aaf⟩:=aaf;unfold subscriptTail;refine af ?_;rw[getitemInPython_of_ne hT.not_modules];refine af (ik hT hl ?_);have fin:wpAny (-5) A (subscripted slice false o i) (λr aag=>wpAny (-5) A (letTemporaryGo value o r>>=λ_=>pure r) Q E aag) E aad:=by rw[hs o i];exact wpAny_operating (dc aaf (λr aag adD=>af (wpAny_letTemporaryGo (ao adD))) λ_ _ x=>x)
 first
  |exact ao (af fin)
  |exact af (ao (af fin))
  |exact af fin
def Lr(I:Inv X pins Z H s)(g:kR H a y o):s.TypeIs (-51) "dict":=by
 rcases g with⟨kvs,k,e,_,_⟩|⟨kvs,k,b,e,_,_,_⟩
 ·obtain⟨_,_,vs,_,dd⟩:=za I.br e;exact dd.typeIs
 ·obtain⟨_,_,xs,_,dd⟩:=B9 I.br e;exact dd.typeIs
inductive ZM(Q:VK)(x:V)(y:V)(H2:Hp):Prop
 |mk a v (_:x=.ref a) (_:kR H2 a y (some v)) (_:Q v H2)
def ab7(td ty:TE):TE:=λZ H Q=>td Z H λx H1=>ty Z H1 λy H2=>ZM Q x y H2
inductive ab6(Q:VK)(y:V)(x:V)(H2:Hp):Prop
 |mk a o (_:x=.ref a) (_:kR H2 a y o) (_:Q (.bl o.isSome) H2)
def ac8(ty td:TE):TE:=λZ H Q=>ty Z H λy H1=>td Z H1 λx H2=>ab6 Q y x H2
inductive ZY(D:Ends)(Z:St)(v:V)(x:V)(y:V)(H3:Hp):Prop
 |mk a H4 (_:x=.ref a) (_:vU H3 a y v H4) (_:D.nx Z H4)
def acf(td ty tv:TE):TS:=λD Z H=>tv Z H λv H1=>td Z H1 λx H2=>ty Z H2 λy H3=>ZY D Z v x y H3
section
variable{X:Cx}{o i value:Expr}{pos pos':Pos}{td ty tv:TE}
def pZ(hu:X.A.units+1<cLine)(ho:PE X o td)(hi:PE X i ty)(hs:U6 i):PE X (.Subscript o i pos) (ab7 td ty):=by intro pins s Z H Q I h;refine LZ PySem.F.slot_dict_getitem.lookup hs (df (ho pins s Z H _ I h) λu s1 x H1 I1 rx q1=>df (hi pins s1 Z H1 _ I1 q1) λiv s2 y H2 I2 ry adZ=>?_);obtain⟨a,v,ex,g,q2⟩:=adZ;subst ex;obtain rfl:u=Value.ref a:=rx;exact{Lr I2 g,R0 hu I2 g ry λw' s3 I3 pf=>⟨v,H2,I3,pf,q2⟩}
def Jr(hu:X.A.units+1<cLine)(hi:PE X i ty)(ho:PE X o td):PC X .In i o (ac8 ty td):=by intro pins s Z H Q I h;refine df (hi pins s Z H _ I h) λiv s1 y H1 I1 ry q1=>df (ho pins s1 Z H1 _ I1 q1) λu s2 x H2 I2 rx adY=>?_;obtain⟨a,ov,ex,g,q2⟩:=adY;subst ex;obtain rfl:u=Value.ref a:=rx;exact aev hu I2 g ry λs3 I3=>{.bl ov.isSome,H2,I3,rfl,q2}
def pY(hu:X.A.units+1<cLine)(ho:PE X o td)(hi:PE X i ty)(hv:PE X value tv)(hs:swapsWith value (some (.Subscript o i pos')) pos.line X.env=pure false):
  PS X (.Assign [.Subscript o i pos'] value pos) (acf td ty tv):=by
 intro pins s Z H D I h;refine wN (df (hv pins s Z H _ I h) λr s1 v H1 I1 rv q1=>df (ho pins s1 Z H1 _ I1 q1) λu s2 x H2 I2 rx q2=>df (hi pins s2 Z H2 _ I2 q2) λiv s3 y H3 I3 ry adX=>?_) hs;obtain⟨a,H4,ex,g,q3⟩:=adX;subst ex;obtain rfl:u=Value.ref a:=rx;exact RW hu I3 g ry rv λs4 I4=>⟨Z,H4,I4,q3⟩
def Kz(h:Heap)(hb:sysModules<h.objs.size):dG P w H (h.push {cls:=.type "dict",data:=.dict #[]}) h.objs.size (.dK []):=
 {aP _,dB.mpr (cb (aL hb)),[],.nil,wK h}
def ZJ:TE:=λ_ H Q=>∀p,H p=none->Q (.ref p) (upd H p (.dK []))
def jy:PE X (.Dict [] [] pos) ZJ:=λpins s Z H Q I h=>
 wpAny_Dict_empty {.ref s.heap.objs.size,_,I.laid (a:=s.heap.objs.size) (o:=.dK []) (t':=s.toks) (λ_ _ q=>aq _ q) (ar _) (Kz s.heap I.big),rfl,h _ (-71)}
end
def Ir:List (TE×TE)->St->Hp->(Aam->Hp->Prop)->Prop
 |[],_,H,Q=>Q [] H
 |(tk,tv)::r,Z,H,Q=>tk Z H λx H1=>tv Z H1 λy H2=>Ir r Z H2 λps H3=>Q ((x,y)::ps) H3
abbrev VV:Aam->List (Value×Value)->Prop:=Paired λp q=>RelV p.1 q.1/\RelV p.2 q.2
def K2(X:Cx)(pos:Pos)(keys:List (Option Expr))(values:List Expr)(Ie:List (TE×TE)):Prop:=
 ∀(pins:Aac)(s:Shared)(Z:St)(H:Hp)(Q:Aam->Hp->Prop),Inv X pins Z H s->Ir Ie Z H Q->
  wpAny (-6) X.A (evalPairs (pairTrees keys values X.env pos)) (λvs s'=>∃ps H',Inv X pins Z H' s'/\VV ps vs/\Q ps H') X.xe s
def XY:K2 X pos [] [] []:=λpins s Z H Q I h=>pairTrees_nil_walk {[],H,I,.nil,h}
def Th(hk:PE X k tk)(hv:PE X v tv)(hr:K2 X pos ks vs Ie):
  K2 X pos (some k::ks) (v::vs) ((tk,tv)::Ie):=λpins s Z H Q I h=>
 pairTrees_cons_walk (df (hk pins s Z H _ I h) λu s1 x H1 I1 rx q1=>df (hv pins s1 Z H1 _ I1 q1) λw2 s2 y H2 I2 ry q2=>
  iT (hr pins s2 Z H2 _ I2 q2) λws s3 ⟨ps,H3,I3,rel,q3⟩=>{(x,y)::ps,H3,I3,.cons ⟨rx,ry⟩ rel,q3})
def iO(kvs more:List (Key×V)):List (Key×V):=more.foldl (λacc kv=>putK acc kv.1 kv.2) kvs
def KV.merge:∀{more:List (Key×V)}{rs:List (Key×Value)}{kvs:List (Key×V)}{vs:List (Key×Value)},KV more rs->KV kvs vs->KV (iO kvs more) (merged vs rs):=by
 intro more rs kvs vs r;unfold KV at r
 induction r generalizing kvs vs with
 |nil=>intro q;exact q
 |@cons p q ps qs h t ih=>
  intro r0;have e:KV (putK kvs p.1 p.2) (stored vs q.1 q.2):=by have:=r0.put p.1 h.2;rw[<-h.1];exact this
  exact ih e
theorem mx:∀(more kvs:List (Key×V)),(iO kvs more).length<=kvs.length+more.length
 |[],kvs=>by show kvs.length<=kvs.length+0;lia
 |p::r,kvs=>by have h1:=mx r (putK kvs p.1 p.2);have h2:=w4 kvs p.1 p.2;show(iO (putK kvs p.1 p.2) r).length<=_;rw[bx];lia
structure M1(X:Cx)(o:Expr)(m:Str)(apos:Pos)(e:Expr)(fC:Pos):Prop where
 base:attributeBase o m X.env (eval o X.env)=eval o X.env
 je:((backTo fC (starEach [e] X.env)).all (λx=>!x.1)&&(backToKw fC (keywordEach [] X.env)).all (λx=>x.1.isSome)
  &&decide (([e]:List Expr).length+([]:List Keyword).length+(if([]:List Keyword).isEmpty then 0 else 1)<30))=true
 line:(apos.endLine==fC.line)=true
 trees:backTo fC (starEach [e] X.env)=[(false,eval e X.env)]
structure M2(X:Cx)(o:Expr)(m:Str)(apos:Pos)(e f:Expr)(fC:Pos):Prop where
 base:attributeBase o m X.env (eval o X.env)=eval o X.env
 je:((backTo fC (starEach [e,f] X.env)).all (λx=>!x.1)&&(backToKw fC (keywordEach [] X.env)).all (λx=>x.1.isSome)
  &&decide (([e,f]:List Expr).length+([]:List Keyword).length+(if([]:List Keyword).isEmpty then 0 else 1)<30))=true
 line:(apos.endLine==fC.line)=true
 trees:backTo fC (starEach [e,f] X.env)=[(false,eval e X.env),(false,eval f X.env)]
def IsD(H:Hp)(a:Addr):Prop:=(∃kvs,Rd H a (.dK kvs))\/∃kvs,Rd H a (.dT kvs)
def aaN(I:Inv X pins Z H s)(d:IsD H a):
  s.TypeIs (-51) "dict"/\(∀b,Value.ref a=.ref b->∃ob,s.heap.get? b=some ob/\ob.dict=none)/\(a==sysModules)=false:=by
 rcases d with⟨kvs,e⟩|⟨kvs,e⟩
 ·obtain⟨_,hd,vs,_,dd⟩:=za I.br e;refine{dd.typeIs,λb q=>?_,hd};cases q;obtain⟨ob,_,_,h1,h2,_⟩:=dd;exact{ob,h1,h2.2.1}
 ·obtain⟨_,hd,xs,_,dd⟩:=B9 I.br e;refine{dd.typeIs,λb q=>?_,hd};cases q;obtain⟨ob,_,_,h1,h2,_⟩:=dd;exact{ob,h1,h2.2.1}
section
variable{X:Cx}{pins:Aac}{Z:St}{H:Hp}{s:Shared}{a:Addr}{y d:V}{u r:Value}{o:Aap}{A:Around}{E:Aae}
def abE(hu:A.units+1<cLine)(I:Inv X pins Z H s)(g:kR H a y o)(ry:RelV y u)(rd:RelV d r)(h:∀w' s',Inv X pins Z H s'->RelV (o.getD d) w'->Q w' s'):
  wpAny (-6) A (call (.builtin "dict.get") [.ref a,u,r]) Q E s:=by
 rcases g with⟨kvs,k,e,ey,l⟩|⟨kvs,k,b,e,ey,eb,l⟩
 ·subst ey;obtain⟨z,hd,vs,rel,dd⟩:=za I.br e;refine qR jt dd.typeIs pB (oO _ _ _) (meets_dict_get_default (bH X.prog X.w) a (wq ry) hd r) {_,dd.mapOf,h _ _ (I.tok _) ?_};rw[l];exact(rel.val k).getD rd
 ·subst ey;cases(show u=Value.ref b from ry);obtain⟨z,hd,xs,rel,dd⟩:=B9 I.br e;refine qR jt dd.typeIs pB (oO _ _ _) (vX (tupleKind (bH X.prog X.w)) a b hd r) {m9 hu,k,xs,A4 I.br eb,dd,h _ _ (I.tok _) ?_};rw[l];exact(rel.val k).getD rd
end
inductive Xy(ty:TE)(tx:TE)(Z:St)(Q:VK)(x:V)(H1:Hp):Prop
 |mk a (_:x=.ref a) (_:IsD H1 a) (_:ty Z H1 λy H2=>tx Z H2 λz H3=>∃o,kR H3 a y o/\Q (o.getD z) H3)
def ZL(td ty tx:TE):TE:=λZ H Q=>td Z H λx H1=>Xy ty tx Z Q x H1
section
variable{X:Cx}{o e f:Expr}{apos fC:Pos}{td ty tx:TE}
def yN(hu:X.A.units+1<cLine)(ho:PE X o td)(he:PE X e ty)(hf:PE X f tx)(m:M2 X o "get" apos e f fC):PE X (.Call (.Attribute o "get" apos) [e,f] [] fC) (ZL td ty tx):=by intro pins s Z H Q I h;refine t6 m.base m.je m.line iM jt yn (df (ho pins s Z H _ I h) λu s1 x H1 I1 rx adW=>?_);obtain⟨a,ex,d,q1⟩:=adW;subst ex;obtain rfl:u=Value.ref a:=rx;obtain⟨t1,t2,_⟩:=aaN I1 d;refine{t1,t2,?_};rw[m.trees];refine iX rfl (lZ (gk (df (he pins s1 Z H1 _ I1 q1) λiv s2 y H2 I2 ry q2=>gk (df (hf pins s2 Z H2 _ I2 q2) λfv s3 z H3 I3 rz ⟨ov,g,q3⟩=>k8 ?_))));exact abE hu I3 g ry rz λw' s4 I4 pf=>⟨_,H3,I4,pf,q3⟩
variable{pins:Aac}{Z:St}{H:Hp}{s:Shared}{a:Addr}{kvs:List (Key×V)}{A:Around}{E:Aae}
def UQ(I:Inv X pins Z H s)(e:Rd H a (.dK kvs))(h:∀p s',H p=none->Inv X pins Z (upd H p (.dK kvs)) s'->Q (.ref p) s'):wpAny (-6) A (call (.type "dict") [.ref a]) Q E s:=by obtain⟨z,hd,vs,rel,dd⟩:=za I.br e;refine kt_call_dict hd dd (by rw[<-rel.length];exact z) λh' vH hs=>?_;refine h _ _ (-71) (I.laid (a:=s.heap.objs.size) (o:=.dK kvs) (t':=s.toks) (λb q hq=>?_) (ar _) (Bm z (dB.mpr (cb (aL I.big))) rel vH));exact(hs.2 b (aL (aI hq))).trans (aq _ hq)
end
end L2
namespace Att
open PySem PySem.W PySem.Calls PyProof.Rows
def EW:∀(ns:List Int)(vs:Aag),WellAll P h vs (ns.map WData.int)->IntsAre vs ns:=by
 intro ns
 induction ns with
 |nil=>
  intro vs w;rw[ji]at w;cases w;exact .nil
 |cons n ns ih=>
  intro vs w;rw[aU]at w;cases w with
  |cons a b=>
   cases a;exact .cons _ _ (ih _ b)
def PZ{l:OpenLaw}(hn:l.most=some n)
  (OD:l.row.toRowW.claim.pre args=true) (G2:WellAll P h vals args):
  ∃a vs ns,vals=[Value.ref a]/\args=[WData.list (ns.map WData.int)]/\h.get? a=some {cls:=.type "list",data:=.seq vs.toArray}/\IntsAre vs ns/\ns.length<=n:=by
 have hsh:WShape.hasAll [] args [.list .int]=true:=(pre_splitW OD).1;have hc:l.pre.holds [] {args:=args}=true:=(pre_splitW OD).2;obtain⟨d,r,rfl,h1,h2⟩:=hasAllW_cons hsh;obtain rfl:=hasAllW_nil h2;obtain⟨xs,rfl,h3⟩:=hasW_list h1;obtain⟨ns,rfl⟩:=items_int h3;have hlen:ns.length<=n:=by
  unfold OpenLaw.pre at hc;have h4:(WTm.not (.lt (.lit (.int (n:Int))) (.len (.arg 0)))).holds [] {args:=[.list (ns.map .int)]}=true:=by have h4:=(holds_andW hc).1;rw[hn]at h4;exact h4
  have h5:=condW_of h4 (w_not (w_lt w_lit (w_len_list (w_arg rfl))));rw[ak]at h5;refine j3 λq=>?_;have q':(n:Int)<((ns.length:Nat):Int):=by lia
  first
   |(rw[bp q']at h5;exact absurd h5 (by decide))
   |(simp at h5;lia)
 cases G2 with
 |cons w1 w2=>
  cases w2;cases w1 with
  |list ho nE=>exact{_,_,ns,rfl,rfl,ho,EW ns _ nE,hlen}
def Qe(l:OpenLaw)(args:List WData):l.row.toRowW.claim.post args (.bool true) args=true:=
 postW_of (r:=l.row.toRowW) (X:=(true==true))
  (show WShape.has [] (.bool true) .bool=true by first|rfl|decide|simp[WShape.has,WShape.arms,WShape.armsAll])
  (show(WTm.eq .res (.lit (.bool true))).value [] {args:=args,res:=some (.bool true),after:=args}=some (.bool (true==true))from w_eq_bool (w_res rfl) w_lit) rfl
def Lw{l:OpenLaw}
  (hn:l.most=some n) (Rx:d.params.defaults=[])
  (call:∀(w:World)(aab aaa:Shared)(mg mb:Aad)(fa:Addr)(o:Obj)(pm cd doc:Value)(a:Addr)(vs:Aag)(ns:List Int),
   Ground q loose [] XP w aab mg mb aaa.heap->YP w aaa.heap->
   aaa.heap.get? fa=some o->o.data=.func (docDef d.name d.params d.body d.scope pm cd doc)->aaa.heap.CodeRec cd d.name->mg d.name=some (.ref fa)->
   aaa.heap.get? a=some {cls:=.type "list",data:=.seq vs.toArray}->IntsAre vs ns->ns.length<=n->aaa.gens=#[]->
   codeAny (model l.prog w) callerA (.call (.ref fa) {[.ref a],[]}) (-52) aaa):
  WalkO q loose XP YP l.row.toRowW d [] (λf vs=>PySem.call f vs):=by
 intro w aab aaa mg mb G Y fa o pm cd doc dV kV ho hd Be hD Ri hg args vals as OD aeR hrd G2 hlo;obtain rfl:dV=.none:=Dflts.none hD Rx;obtain rfl:kV=.none:=Dflts.noKw hD;obtain⟨a,vs,ns,rfl,rfl,Um,hints,hlen⟩:=PZ hn OD G2;refine enter_call (lF (call w aab aaa mg mb fa o pm cd doc a vs ns G Y ho (fd_plain hd) Be Ri Um hints hlen hg) λr s' hq=>?_);obtain⟨rfl,h2,h3,h4⟩:=hq;exact{.inl {.bool true,.bool true,[],rfl,λ_=>rfl,.bool true,Qe l _,λ_=>{List.Pairwise.nil,λ_ hm=>(nomatch hm)}},h2,h3,h4}
section
def ledger(h:Heap)(L d:Addr):Aac:=(List.range h.objs.size).filterMap λa=>if a=L\/a=d then none else(h.get? a).map λo=>(a,o)
end
end Att
namespace L2
open PySem PySem.Spec PyProof.Rows
theorem Gq:∀{vs:Aag}{ns:List Int},IntsAre vs ns->Vals (-67) vs
 |_,_,.nil=>.nil
 |_,_,.cons n t h=>.cons ⟨t,rfl⟩ (Gq h)
def Pj(H:Hp):Prop:=∀b,H b=none\/∃o xs,H b=some (.c7 o (.lst xs))
def T3{K:Frag}
  (KX:K.In aaa.heap) (hns:aaa.heap.Ns mainGlobals mg) (hb:aaa.heap.Ns builtinsNs mb) (hbb:∀x:Str,x≠"__name__"->mb x=bootBuiltins x) (aej:aaa.heap.NoLimit) (hg:aaa.gens=#[])
  (ha:aaa.heap.get? a=some {cls:=.type "list",data:=.seq vs.toArray}) (hi:IntsAre vs ns) (hl:ns.length<=sizeLine) (hr:gX k callerA)
  (F:∀base:Heap,K.In base->base.Ns mainGlobals mg->dk P w K mg base CX k fa fd [x] sp) (acF:∀(s:Shared)(u:Value),BindsTo s fd {[u],[]} [(x,u)])
  (G6:∀H:Hp,Pj H->bo K H a (-67)->sp [.ref a] H (λv _=>v=.bl true) λ_ _ _=>False)
  (hCX:∀H e s',CX [] H aaa (λ_ _ _=>False) e s'->False):
  codeAny (-29) callerA (.call (.ref fa) {[.ref a],[]}) (-52) aaa:=by
 have rv:=Gq hi;have adu:=hi.length;have core:∀H:Hp,Pj H->bo K H a (-67)->jI P w H aaa.heap->(∀b,H b≠none->b=a)->(H a≠none->K.lookup a=none)->
   codeAny (-29) callerA (.call (.ref fa) {[.ref a],[]}) (-52) aaa:=by
  intro H hO hS br hA hK;have Nn:∀{b:Addr}{o:Obj},aaa.heap.get? b=some o->H b=none->(yX aaa.heap H).get? b=some o:=λe n=>Ut e n;have Qx:∀{b:Addr}{o:Obj}{es:Array DictEntry}{ep:Nat},aaa.heap.get? b=some o->o.data=.dict es ep->H b=none:=λ{b o es ep} e d=>by
   cases q:H b with
   |none=>rfl
   |some u=>
    have e':b=a:=hA b (by rw[q];simp);subst e';rw[ha]at e;cases e;have d':Data.seq vs.toArray _=Data.dict es ep:=d;cases d'
  have VO:∀{b:Addr}{m:Aad},aaa.heap.Ns b m->(yX aaa.heap H).Ns b m:=λ{b m} ⟨o,es,ep,e,d,r⟩=>{o,es,ep,Nn e (Qx e d),d,r};have hKb:K.In (yX aaa.heap H):=λb o e=>Nn (KX b o e) (by
   cases q:H b with
   |none=>rfl
   |some u=>
    have e':b=a:=hA b (by rw[q];simp);subst e';rw[hK (by rw[q];simp)]at e;cases e)
  have hM:Mod K mg (yX aaa.heap H):={hKb,VO hns,{mb,VO hb,hbb},let⟨mc,h1,h2⟩:=aej;{mc,VO h1,h2}};have e0:Ef P w K mg (yX aaa.heap H) callerA [] aaa H:={rfl,hM,λb o e=>Yh e,BH (Ru _ _),trivial,λb hb=>absurd (show b∈([]:Aaj)from hb) (-9),br,.of_eq hg};refine lF ((F _ hKb (VO hns)).run callerA [] aaa H {[.ref a],[]} [.ref a] [.ref a] _ _ hr e0 (acF aaa (-51)) (.cons rfl .nil) (G6 H hO hS)) λr s' h=>?_;cases r with
  |error e=>exact(hCX H e s' h).elim
  |ok fl=>
   cases fl with
   |next=>exact False.elim h
   |brk=>exact False.elim h
   |cont=>exact False.elim h
   |ret u=>
    obtain⟨v,H',os,bare,un,aef,r',q⟩:=h;have q':v=.bl true:=q;subst q';obtain rfl:u=Value.bool true:=r';refine{rfl,OldK.of_keep λb o e=>?_,os,bare};cases q:H b with
    |none=>exact un.keep b o e q (by intro z;exact absurd (show b∈([]:Aaj)from z) (-9)) (-9)
    |some u=>
     rcases hO b with z|⟨ob,xs,z⟩
     ·rw[q]at z;cases z
     ·have z2:=un.tQ b ob _ z;obtain⟨e1,_⟩:=br b _ z;obtain⟨e2,_⟩:=aef b _ z2;rw[e]at e1;cases e1;exact e2
 cases hk:K.lookup a with
 |some o=>
  have e:=KX a o hk;rw[ha]at e;cases e;refine core (λ_=>none) (λ_=>.inl rfl) (.inr {_,vs.toArray,_,hk,rfl,rfl,rfl,by rw[aQ,adu];exact hl,by simpa using rv}) (λb u z=>by have z':(none:Option HO)=some u:=z;cases z') (λb z=>absurd rfl z) λz=>absurd rfl z
 |none=>
  refine core (λb=>if b=a then some (.c7 {cls:=.type "list",data:=.seq vs.toArray} (.lst (-67)))else none) (λb=>?_) (.inl (.inr ⟨{cls:=.type "list",data:=.seq vs.toArray},aC rfl⟩)) (λb u z=>?_) (λb z=>?_) λ_=>hk
  ·by_cases hb:b=a
   ·exact .inr {_,_,aC hb}
   ·exact .inl (az hb)
  ·by_cases hb:b=a
   ·have z':=(aC hb).symm.trans z;cases z';subst hb;exact{ha,by rw[ak];exact hl,vs,_,rv,ha}
   ·have z':=(az hb).symm.trans z;cases z'
  ·by_cases hb:b=a
   ·exact hb
   ·exact absurd (az hb) z
abbrev KOf{K:Frag}{h:Heap}(_:K.In h):Frag:=K
def Xn{l:PySem.W.OpenLaw}{K:Params->Frag}{CX:World->K7}{sp:World->Sp}
  (hn:l.most=some n) (uf:n<=sizeLine) (Rx:d.params.defaults=[]) (hr:gX k callerA)
  (hY:∀(w:World)(h:Heap),YP w h->(K w.params).In h)
  (F:∀(w:World)(mg:Aad)(fa:Addr)(h:Heap),(K w.params).In h->h.Ns mainGlobals mg->mg d.name=some (.ref fa)->
   ∃fd:FuncData,(∀(s:Shared)(u:Value),BindsTo s fd {[u],[]} [(x,u)])/\
    ∀base:Heap,(K w.params).In base->base.Ns mainGlobals mg->dk l.prog w (K w.params) mg base (CX w) k fa fd [x] (sp w))
  (G6:∀(w:World)(H:Hp)(a:Addr)(ns:List Int),ns.length<=n->Pj H->bo (K w.params) H a (-67)->sp w [.ref a] H (λv _=>v=.bl true) λ_ _ _=>False)
  (hCX:∀(w:World)(H:Hp)(s:Shared)(e:Value)(s':Shared),CX w [] H s (λ_ _ _=>False) e s'->False):
  PySem.W.WalkO q loose XP YP l.row.toRowW d [] (λf vs=>PySem.call f vs):=by
 refine Att.Lw hn Rx λw aab aaa mg mb fa o pm cd doc a vs ns G Y ho hd Be Ri Um hints hlen hg=>?_;have KX:=hY w _ Y;obtain⟨fd,hb,hF⟩:=F w mg fa _ KX G.T.g Ri;exact T3 KX G.T.g G.T.b G.T.builtins G.T.nolimit hg Um hints (aD hlen uf) hr hF hb (λH hO hS=>G6 w H a ns hlen hO hS) λH e s'=>hCX w H aaa e s'
def inClass(s:Stmt)(j:Nat):Stmt:=match s with
 | .ClassDef _ _ _ body _ _ _ _ _ _ _=>body.getD j (.Pass {0,0,0,0})
 |_=>.Pass {0,0,0,0}
def defArgs(s:Stmt):Arguments:=match s with
 | .FunctionDef _ a _ _ _ _ _ _ _ _=>a
 |_=>{posonlyargs:=[],args:=[],vararg:=none,kwonlyargs:=[],kw_defaults:=[],kwarg:=none,defaults:=[]}
def defBody(s:Stmt):List Stmt:=match s with
 | .FunctionDef _ _ b _ _ _ _ _ _ _=>b
 |_=>[]
def defScope(s:Stmt):Scope:=match s with
 | .FunctionDef _ _ _ _ _ _ sc _ _ _=>sc
 |_=>{kind:=.function,names:=[],isGenerator:=false,isCoroutine:=false}
abbrev fU:K7:=λ_ _ _ _ _ _=>False
abbrev E0:XK:=λ_ _ _=>False
def N7:Passes fU X E0:=λ_ _ _ _ _ _ _ h=>h.elim
structure fq(K:Frag)(x qual:Str)(st:Stmt)(f:Addr)(fd:FuncData):Prop where
 ex:∃(oc:Value)(od:Aak)(kV doc pm:Value)(an:Aak)(dm ct:Value)(zL:Array (Option Value)),
  fd=fnOf x qual (defArgs st) (defBody st) (defScope st) .none kV doc pm an dm ct/\K.lookup f=some {oc,od,.func fd,zL}/\codeIn K dm qual=true
 kp:keepIn K (.ref f)=true
section
variable{P:Program}{w:World}{K:Frag}{mg:Aad}{base:Heap}
def fq.ok{st:Stmt}(F:fq K x qual st f fd)(S:cD N ps (defScope st))(len:∀vs H Q E,sp vs H Q E->vs.length=ps.length)
  (OL:∀(dm:Value)(A:Around)(outer:List Env)(s:Shared)(H:Hp)(vs:Aao)(Q:VK)(E:XK),gX k (A.deeper (envOfC qual (defScope st) s.heap.objs.size f dm))->sp vs H Q E->
   ∃t,qo (F8 fU P w K mg base N qual (defScope st) f dm A outer s H E).VP (defBody st) t/\t {nx:=λ_ H'=>Q .cE H',rt:=Q} (start N vs) H):dk P w K mg base fU (k+1) f fd ps sp:=by
 obtain⟨oc,od,kV,doc,pm,an,dm,ct,zL,rfl,lk,Be⟩:=F.ex;refine acI lk Be S len λA outer s H vs Q E hr G6=>?_;obtain⟨t,h,q⟩:=OL dm A outer s H vs Q E hr G6;exact{t,h.VP,q}
def fq.binds{st:Stmt}(F:fq K x qual st f fd)
  (h:∀(kV doc pm:Value)(an:Aak)(dm ct:Value)(us:Aag),us.length=ps.length->bindArgs (-64) {us,[]}=pure (ps.zip us)):Binds K fd ps []:=by
 obtain⟨oc,od,kV,doc,pm,an,dm,ct,zL,rfl,lk,Be⟩:=F.ex;exact .all (h kV doc pm an dm ct)
def RG{st:Stmt}{kV doc pm dm ct:Value}(l:K.lookup f=some {oc,od,.func (-64),zL})
  (c:codeIn K dm qual=true) (k:keepIn K (.ref f)=true):fq K x qual st f (-64):={⟨oc,od,kV,doc,pm,an,dm,ct,zL,rfl,l,c⟩,k}
def jL(hr:gX k A):A.units+1<cLine:=eJ (Nat.add_le_add_left (by decide:1<=64) _) hr.units
def bC(h:n<=1000):n<sizeLine:=eJ h (-8)
variable{X:Cx}
def pv(i:Nat)(hN:X.N[i]?=some x:=by rfl)(hv:Vis X.env.scope x:=by first|exact Or.inl rfl|exact Or.inr (Or.inl rfl)|exact Or.inr (Or.inr rfl))(hd:(-32)=false:=by decide)
  (Be:(x==("__classdict__":Str))=false:=by decide):PE X (.Name x pos) (NI i):=aal hN hv hd Be
def vz{A B:Prop}(h:B):if false=true then A else B:=by rw[az aW];exact h
def F0{A B:Prop}(h:A):if true=true then A else B:=by rw[aC rfl];exact h
def fm{c A B:Prop}[Decidable c](h1:c->A)(h2:¬c->B):if c then A else B:=by
 by_cases h:c
 ·rw[aC h];exact h1 h
 ·rw[az h];exact h2 h
def bq(H H':Hp):Prop:=∀b o,H b=some o->H' b=some o
def bq.refl(H:Hp):bq H H:=λ_ _ h=>h
def bq.trans(a:bq H H1)(b:bq H1 H2):bq H H2:=λc o h=>b c o (a c o h)
def bq.free(e:bq H H')(h:H' l=Option.none):H l=Option.none:=by
 cases q:H l with
 |none=>rfl
 |some o=>
  rw[e l o q]at h;cases h
end
section
variable{κ:Type}[DecidableEq κ]
def Sx{k:κ}(h:fh kvs k=none):¬k∈kvs.map (·.1):=by intro m;obtain⟨p,hp,e⟩:=aR.mp m;have q:(-56)=true:=j8.mpr {p,hp,bp e};rw[m7,h]at q;exact absurd q (-9)
def Xq{k:κ}{v:V}(h:fh kvs k=some v):k∈kvs.map (·.1):=by
 have q:(-56)=true:=by rw[m7,h];all_goals rfl
 obtain⟨p,hp,e⟩:=j8.mp q;exact aR.mpr {p,hp,bj e}
end
def Its(z:Str):It:={λi _=>i<z.cps.size,λi H x H'=>H'=H/\∃c,z.cps[i]?=some c/\x=.str ⟨#[c]⟩,λi _=>i=z.cps.size}
def Gn(hh:A.handled=none)(I:Addr)(x:Str)(t:Tok):
  Walks prog w A I [I] [I] x.cps.size (SignAt x) (λi h=>h.IsStrIter I (strIterType x) x t i):=by
 unfold strIterType;cases x.cps.all (·<128)with
 |true=>exact Walks.strAscii hh I x t
 |false=>exact Walks.strWide hh I x t
def HC(x:Str):["enumerate","zip","dict_itemiterator","dict_reverseitemiterator","odict_iterator","itertools.zip_longest","itertools.pairwise"].contains (strIterType x)=false:=by
 unfold strIterType;cases x.cps.all (·<128)with
 |true=>decide
 |false=>decide
def SE{K:Frag}(it:Addr)(z:Str)(t:Tok):Turn P w K tg (Its z) [it] it (λi h=>h.IsStrIter it (strIterType z) z t i) where
 mem:=by simp
 obj:=λi h st b hb=>by
  have e:b=it:=by simpa using hb
  subst e;obtain⟨o,e,c,d⟩:=st;exact{o,e,λv z=>by rw[d]at z;cases z}
 keep:=λi h h' st k=>by obtain⟨o,e,r⟩:=st;exact{o,k it (-9) o e,r}
 item:=by intro X hP hw hK hc i pins s Z H E I hf st hg;subst hP hw hK;obtain⟨f0,f1,f2,f3,f4,f5⟩:=hf it (-9);have W:=Gn (prog:=X.prog) (w:=X.w) (I.ok.hd hc) it z t;refine W.item i s _ _ hg st λv h' tk hv gZ kk=>?_;obtain⟨c,u,qi,rfl⟩:=hv;have I1:Inv X pins Z H {s with heap:=h',toks:=tk}:=I.turned (λb o hb e=>kk b o (by simpa using hb) e) f0 f1 f3 f4 f5;obtain⟨o,e,c1,d1⟩:=id gZ;exact{_,rfl,B6 (s:={s with heap:=h',toks:=tk}) e c1 d1 (HC z) {.str ⟨#[c]⟩,H,I1,⟨u,rfl⟩,⟨rfl,c,qi,rfl⟩,gZ,λb hb=>(hf b hb).1}}
 done:=by intro X hP hw hK hc i pins s Z H E I hf st hg;subst hP hw hK;obtain⟨f0,f1,f2,f3,f4,f5⟩:=hf it (-9);have W:=Gn (prog:=X.prog) (w:=X.w) (I.ok.hd hc) it z t;have e:i=z.cps.size:=hg;subst e;exact W.done s _ _ st λh' tk kk=>{rfl,I.turned (λb o hb e=>kk b o (by simpa using hb) e) f0 f1 f3 f4 f5}
 self:=λA i s Q E st h=>by
  unfold strIterType at st;cases hx:z.cps.all (·<128)with
  |true=>rw[hx]at st;exact wpAny_pyIter_striter_ascii st h
  |false=>rw[hx]at st;exact wpAny_pyIter_striter_wide st h
section
variable{X:Cx}{tg:Expr}
inductive acx(R:It->Hp->Prop)(x:V)(H1:Hp):Prop
 |mk z (_:x=.str z) (_:R (Its z) H1)
def adC(tl:TE):TI:=λZ H R=>tl Z H λx H1=>acx R x H1
def aak(hl:PE X l tl):PI X tg l (adC tl):=by
 intro pins s Z H R I h;refine df (hl pins s Z H _ I h) λv s1 x H1 I1 r1 q1=>?_;obtain⟨z,e,q⟩:=q1;subst e;obtain⟨t,rfl⟩:=r1;refine wpAny_pyIter_strU ?_;have I2:Inv X pins Z H1 {s1 with heap:=s1.heap.push {cls:=.type (strIterType z),data:=.fields #[.str z t,.int 0 0]}}:=I1.kept (t':=s1.toks) λb o e=>aq _ e;refine{s1.heap.objs.size,[s1.heap.objs.size],_,Its z,H1,rfl,I2,SE s1.heap.objs.size z t,{_,aF _ rfl,rfl,rfl},λb hb=>?_,q};have e:b=s1.heap.objs.size:=by simpa using hb
 subst e;exact I1.qN (ar _) (I1.br.fresh (ar _))
def frees(scope:Scope):Aah:=(scope.names.filter λp=>p.2==.free).map (·.1)
def DV(scope:Scope)(env:Env):List (Str×Addr):=(frees scope).reverse.map λn=>(n,(env.cells.lookup n).getD 0)
theorem Gb(env:Env):∀(names:List (Str×NameKind))(cs:List (Str×Addr)),(∀n∈(names.filter λp=>p.2==.free).map (·.1),∃c,env.cells.lookup n=some c)->
  (forIn names cs λ(x:Str×NameKind)(r:List (Str×Addr))=>(if x.2==.free then do let c<-cellOf env x.1;pure (ForInStep.yield ((x.1,c)::r))else pure (ForInStep.yield r):Sem (ForInStep (List (Str×Addr)))))=
   pure ((((names.filter λp=>p.2==.free).map (·.1)).reverse.map λn=>(n,(env.cells.lookup n).getD 0))++cs)
 |[],cs,_=>rfl
 |(n,k)::r,cs,h=>by
  rw[mX];cases hk:(k==NameKind.free)with
  |false=>
   have h':∀m∈(r.filter λp=>p.2==.free).map (·.1),∃c,env.cells.lookup m=some c:=λm hm=>h m (by simpa[gj,hk]using hm);have ih:=Gb env r cs h';simp only[hk,cw,d6,gj,pure_bind];exact ih
  |true=>
   obtain⟨c,hc⟩:=h n (by simp[gj,hk]);have h':∀m∈(r.filter λp=>p.2==.free).map (·.1),∃c,env.cells.lookup m=some c:=λm hm=>h m (by
    simp only[gj,hk,lD,aU];exact aB _ hm)
   have ih:=Gb env r ((n,c)::cs) h';have ec:cellOf env n=pure c:=by unfold cellOf;rw[hc]
   simp only[hk,lD,gj,aU,List.reverse_cons,aJ,ji,cR,lX,kK,ec,pure_bind,hc,Option.getD_some];exact ih
def Fu(h:∀n∈frees scope,∃c,env.cells.lookup n=some c):closureFor scope env=pure (DV scope env):=by have e:=Gb env scope.names [] h;rw[b6]at e;have q:closureFor scope env=((forIn scope.names ([]:List (Str×Addr)) λ(x:Str×NameKind)(r:List (Str×Addr))=>(if x.2==.free then do let c<-cellOf env x.1;pure (ForInStep.yield ((x.1,c)::r))else pure (ForInStep.yield r):Sem (ForInStep (List (Str×Addr)))))>>=λr=>pure r):=rfl;rw[q,bind_pure];exact e
theorem AZ{β:Type}(g:Str->β)(y:Str):∀l:Aah,(l.map λn=>(n,g n)).lookup y=if y∈l then some (g y)else none
 |[]=>by simp
 |n::r=>by
  have ih:=AZ g y r;rw[aU,vQ];cases e:(y==n)with
  |true=>
   have e':y=n:=iH e;subst e';simp
  |false=>
   have e':y≠n:=λq=>by rw[q]at e;simp at e
   show(r.map λn=>(n,g n)).lookup y=_;rw[ih];simp[e']
def sD(h:∀n∈frees scope,∃c,env.cells.lookup n=some c):(DV scope env).lookup y=some c↔y∈frees scope/\env.cells.lookup y=some c:=by
 unfold DV;rw[AZ (λn=>(env.cells.lookup n).getD 0)];by_cases hy:y∈frees scope
 ·obtain⟨d,hd⟩:=h y hy;rw[aC (j6.mpr hy),hd];simp[hy]
 ·rw[az λq=>hy (j6.mp q)];simp[hy]
theorem A0(f:Str->NameKind->NameKind)(y:Str):∀names:List (Str×NameKind),(names.map λp=>(p.1,f p.1 p.2)).lookup y=(names.lookup y).map (f y)
 |[]=>rfl
 |(n,k)::r=>by
  have ih:=A0 f y r;rw[aU,vQ,vQ];cases e:(y==n)with
  |true=>
   have e':y=n:=iH e;subst e';rfl
  |false=>exact ih
def xD(scope:Scope)(env:Env)(y:Str):(relabel scope env).names.lookup y=(scope.names.lookup y).map λk=>if(k==.free&&env.scope.kind==.function&&env.kindOf y==some .cell)=true then NameKind.cell else k:=by
 have e:(relabel scope env).names=scope.names.map λp=>(p.1,(λ(n:Str)(k:NameKind)=>if(k==.free&&env.scope.kind==.function&&env.kindOf n==some .cell)=true then NameKind.cell else k) p.1 p.2):=by unfold relabel;refine bX λp _=>?_;obtain⟨n,k⟩:=p;show(if(k==.free&&env.scope.kind==.function&&env.kindOf n==some .cell)=true then(n,NameKind.cell)else(n,k))=_;split<;>simp_all
 rw[e];exact A0 (λ(n:Str)(k:NameKind)=>if(k==.free&&env.scope.kind==.function&&env.kindOf n==some .cell)=true then NameKind.cell else k) y scope.names
end
structure pG(X:Cx)(scope:Scope)(x:Str)(fs:Aah)(fr:List Nat):Prop where
 kind:scope.kind=.function
 loc:scope.names.lookup x=some .local
 names:∀y∈scope.names,y.2=.local->scope.names.lookup y.1=some .local
 Qv:∀y∈scope.names,y.2≠ .cell
 free:∀n∈frees scope,X.env.kindOf n=some .cell/\scope.names.lookup n=some .free
 nd:(x::fs).Nodup
 len:fr.length=fs.length
 slots:∀(j:Nat)(y:Str)(k:Nat),fs[j]?=some y->fr[j]?=some k->X.N[k]?=some y/\y∈frees scope
abbrev d8(X:Cx)(N':Aah)(scope:Scope)(C:Addr)(s:Shared)(H:Hp)(ex:Aaj):Cx:=
 {X with N:=N',aab:=s,aae:=H,env:=compEnvC scope (DV scope X.env) C X.env,outer:=X.stack,stack:=X.stack,ex:=ex,fn:=λ_=>false,pn:=[],xe:=λ_ _=>False}
def CT(X:Cx)(ifs:List Expr)(tt:TT):Prop:=
 ∀(pins:Aac)(s:Shared)(Z:St)(H:Hp)(Q:Bool->Hp->Prop),Inv X pins Z H s->tt Z H Q->
  wpAny (-6) X.A (forIn ifs true λc r=>if r=true then do let ok<-isTrue c X.env (eval c X.env);pure (ForInStep.yield ok)else pure (ForInStep.yield r)) (TP X pins Z Q) X.xe s
def BV:TT:=λ_ H Q=>Q true H
def KJ:CT X [] BV:=λ_ _ _ H _ I h=>wpAny_tests_nil ⟨H,I,h⟩
def R4(h:PT X c tc):CT X [c] tc:=λpins s Z H Q I hq=>wpAny_tests_one (h pins s Z H Q I hq)
def slotsOf(fr:List Nat)(Z:St):St:=fr.map λk=>(Z[k]?).getD none
def uA(wi:TI)(fr:List Nat)(tt:TT)(te:TE):TE:=λZ H Q=>wi Z H λJ H1=>∃W:Nat->Nat->Aao->Hp->Prop,(∃m,W 0 m [] H1)/\∀i m ys H2,W i m ys H2->
 (J.stop i H2/\ys.length<=sizeLine/\∀l,H2 l=none->Q (.ref l) (upd H2 l (-38)))\/
 (J.go i H2/\ys.length<sizeLine/\∀v H3,J.xt i H2 v H3->tt (some v::slotsOf fr Z) H3 λb H4=>
  if b=true then te (some v::slotsOf fr Z) H4 (λy H5=>∃m',m'<m/\W (i+1) m' (ys++[y]) H5)else∃m',m'<m/\W (i+1) m' ys H4)
section
variable{X:Cx}
def CY{h h':Heap}(k:∀b o,h.get? b=some o->h'.get? b=some o)(z:h.IsCell c v):h'.IsCell c v:=by obtain⟨o,e,d⟩:=z;exact{o,k _ _ e,d}
def Inv.adopt(I:Inv X pins Z H s)(hn:H D=none)(e:s.heap.get? D=some {cls:=.type "list",data:=.seq vs.toArray k})(r:Vals ys vs)(hz:ys.length<=sizeLine)
  (h1:X.aab.heap.objs.size<=D) (hL:D≠X.env.locals) (h2:∀x c,X.env.cells.lookup x=some c->c≠D) (h3:∀p∈X.pn++pins,p.1≠D):Inv X pins Z (upd H D (-38)) s:=by
 have nD:∀b u,H b=some u->b≠D:=λb u q z=>by rw[z,hn]at q;cases q
 have br:jI X.prog X.w (upd H D (-38)) s.heap:=λb u q=>by
  by_cases hb:b=D
  ·subst hb;rw[aw]at q;cases q;exact⟨hz,vs,k,r,e⟩
  ·rw[aE hb]at q;exact(I.br b u q).jx (λ_ _ _ z=>z) (λc z=>by rw[aE (nD c _ z)];exact z) λc xs z=>by rw[aE (nD c _ z)];exact z
 have J:=I.step (H':=upd H D (-38)) (h':=s.heap) (g':=s.gens) (t':=s.toks) (d':=s.drawn) (ch:=[D])
  (λb hb=>by
   have e':b=D:=by simpa using hb
   subst e';exact{.inr h1,hL,h2,h3})
  (λb o _ _ _ q _=>q) (λb o _ _ _ q _=>{o.slots,q}) (λb o hc _ n=>by rw[aE λz=>hc (by simp[z])];exact n) (λb o _ q=>⟨o,q⟩)
  (λb xs q=>by rw[aE (nD b _ q)];exact q) (λb o u q=>by rw[aE (nD b _ q)];exact q) (λb ps q=>{#[],by rw[aE (nD b _ q),q];simp}) (λm hm=>hm) br I.bare
 exact J
def YU(S:pG X scope x fs fr)(I2:Inv X pins Z H s2)(I3:Inv X pins Z H s)
  (hD:D=s2.heap.objs.size) (hs:s.heap.objs.size=D+1) (bJ:∀b∈fp,b<D) (f2:∀b∈fp,pV X pins H b):(d8 X (x::fs) scope s.heap.objs.size s H (D::fp)).Ok:=by
 have zW:∀n∈frees scope,∃c,X.env.cells.lookup n=some c:=λn hn=>I3.ok.has n (.inl (S.free n hn).1);have sub:∀{y:Str}{c:Addr},(DV scope X.env).lookup y=some c->X.env.cells.lookup y=some c:=λh=>((sD zW).mp h).2;refine{I3.ok.mod,S.kind,I3.ok.glob,I3.ok.blt,ar _,λa b c h1 h2=>I3.ok.inj a b c (sub h1) (sub h2),λy hy=>?_,(λ_ _ h=>by cases h),I3.ok.hd,I3.ok.frames,.inl rfl,λb hb=>?_,I3.bs,aD I3.ok.Dd I3.sz,λb o e hb=>?_,λb hb hf=>?_,I3.stack,I3.L1}
 ·have q:(relabel scope X.env).names.lookup y=some .cell\/(relabel scope X.env).names.lookup y=some .free:=hy;have nf:scope.names.lookup y=some .free:=by
   rw[xD]at q;cases e:scope.names.lookup y with
   |none=>rw[e]at q;simp at q
   |some k=>
    rw[e]at q;cases k with
    |free=>rfl
    |cell=>
     have hm:(y,NameKind.cell)∈scope.names:=by have:=v7.mp e;obtain⟨l1,l2,z,_⟩:=this;rw[z];simp
     exact absurd rfl (S.Qv _ hm)
    |_=>simp at q
  have hm:y∈frees scope:=by obtain⟨l1,l2,z,_⟩:=v7.mp nf;unfold frees;rw[z];simp
  obtain⟨c,hc⟩:=zW y hm;exact{c,(sD zW).mpr ⟨hm,hc⟩}
 ·rcases aG.mp hb with rfl|hb
  ·refine{λz=>?_,λy c h z=>?_}
   ·exact absurd (hs.symm.trans z.symm:b+1=b) (Nat.succ_ne_self b)
   ·obtain⟨v,q⟩:=I2.cell y c (sub h);have:=q.lt;rw[z,hD]at this;exact absurd this (dD _)
  ·refine{λz=>?_,λy c h=>(f2 b hb).2.2.2.2.1 y c (sub h)};have q:b<D+1:=eA (bJ b hb);rw[z]at q;exact absurd q (by show ¬s.heap.objs.size<D+1;rw[hs];exact dD _)
 ·have kI:b<X.base.objs.size:=aI e;have h1:=I2.ok.Dd;have h2:=I2.sz;rcases aG.mp hb with rfl|hb
  ·rw[hD]at kI;exact absurd (aZ kI (aD h1 h2)) (dD _)
  ·rcases(f2 b hb).2.2.2.1 with z|z
   ·exact I2.ok.FW b o e z
   ·exact absurd (aZ kI (aD h1 z)) (dD _)
 ·have hf':b∈zY X.stack:=hf;rcases aG.mp (I2.Iw b hf')with z|z
  ·rcases aG.mp hb with rfl|hb
   ·have:=I2.lt;rw[<-z,hD]at this;exact absurd this (dD _)
   ·exact(f2 b hb).2.1 z
  ·rcases aG.mp hb with rfl|hb
   ·exact I2.aax (BH hD.symm) z
   ·exact(f2 b hb).2.2.1 z
def UU(S:pG X scope x fs fr)(I3:Inv X pins Z H s)
  (ok:(d8 X (x::fs) scope s.heap.objs.size s H ex).Ok) (hn:h4.Ns s.heap.objs.size m) (old:∀b o,s.heap.get? b=some o->h4.get? b=some o):
  Inv (d8 X (x::fs) scope s.heap.objs.size s H ex) [] (none::slotsOf fr Z) H {s with heap:=h4,toks:=t}:=by
 have zW:∀n∈frees scope,∃c,X.env.cells.lookup n=some c:=λn hn=>I3.ok.has n (.inl (S.free n hn).1);have sub:∀{y:Str}{c:Addr},(DV scope X.env).lookup y=some c->X.env.cells.lookup y=some c:=λh=>((sD zW).mp h).2;refine{ok,rfl,I3.bare,Un.kept old,{m,hn,λi y v e1 e2 e3=>?_},λy c h=>?_,I3.br.fresh (ar _),λy c h=>I3.oA y c (sub h),λp hp=>absurd hp (-9),I3.br.kept old,?_}
 ·cases i with
  |zero=>
   have Hm:(none:Aap)=some v:=by simpa using e2
   cases Hm
  |succ j=>
   have e1':fs[j]?=some y:=by simpa using e1
   have Hm:(slotsOf fr Z)[j]?=some (some v):=by simpa using e2
   unfold slotsOf at Hm;rw[aK]at Hm;cases hk:fr[j]? with
   |none=>rw[hk]at Hm;cases Hm
   |some k=>
    rw[hk]at Hm;have e4:(Z[k]?).getD none=some v:=by simpa using Hm
    have e5:Z[k]?=some (some v):=by
     cases q:Z[k]? with
     |none=>rw[q]at e4;cases e4
     |some z=>rw[q]at e4;exact bU some e4
    obtain⟨n1,n2⟩:=S.slots j y k e1' hk;obtain⟨m0,_,hl⟩:=I3.loc;obtain⟨u,ru,l⟩:=hl k y v n1 e5 (.inr (.inl (S.free y n2).1));have kc:=(S.free y n2).1;rcases l with⟨l,_⟩|⟨_,c,hc,cl⟩
    ·rw[kc]at l;cases l
    ·refine{u,ru,.inr {.inl ?_,c,(sD zW).mpr ⟨n2,hc⟩,CY old cl}};show(relabel scope X.env).names.lookup y=some .cell;have kf:X.env.scope.kind=.function:=I3.ok.kind;rw[xD,(S.free y n2).2,kf,kc];rfl
 ·obtain⟨v,z⟩:=I3.cell y c (sub h);exact{v,CY old z}
 ·show(none::slotsOf fr Z).length=(x::fs).length;simp[slotsOf,S.len]
abbrev lobj(vs:Aag)(k:Nat):Obj:={cls:=.type "list",data:=.seq vs.toArray k}
theorem LM:∀(xs:Aao)(us:Aag),xs.length=us.length->(∀(j:Nat)(x:V)(u:Value),xs[j]?=some x->us[j]?=some u->RelV x u)->Vals xs us
 |[],[],_,_=>.nil
 |[],_::_,h,_=>by cases h
 |_::_,[],h,_=>by cases h
 |x::xs,u::us,h,f=>.cons (f 0 x u rfl rfl) (LM xs us (by simpa using h) λj a b e1 e2=>f (j+1) a b (by simpa using e1) (by simpa using e2))
def rM(h:yV k v=true):RelV (kV k) v:=by
 rcases ig h with⟨i,t,rfl,rfl⟩|⟨x,t,rfl,rfl⟩
 ·exact⟨t,rfl⟩
 ·exact⟨t,rfl⟩
def range_all(bs:List Bool):((List.range bs.length).all λi=>(bs[i]?).getD true)=bs.all id:=by
 rw[fV,bZ,bZ];constructor
 ·intro h b hb;obtain⟨i,hi⟩:=dy.mp hb;have:=h i (cY.mpr (ax.mp hi).1);rw[hi]at this;exact this
 ·intro h i hi;have bJ:=cY.mp hi;rw[au bJ];exact h _ (gh bJ)
def Gd(hc:X.calm=true):jv X (.type "list") (λxs H Q=>∃a kvs,xs=[.ref a]/\H a=some (.dK kvs)/\∀l,H l=none->Q (.ref l) (upd H l (.lst (kvs.map λkv=>kV kv.1)))):=by
 intro pins s Z H xs us Q I r h;obtain⟨a,kvs,rfl,ha,q⟩:=h;obtain⟨u,rfl,ru⟩:=lO r;cases ru;obtain⟨hz,lo,vs,rel,o,es,ep,m⟩:=oB I.br ha;have at':s.heap.DictAt (bH X.prog X.w) a vs ep:=⟨o,es,m⟩;have hl:kvs.length=vs.length:=rel.length;have hk:kvs.map (·.1)=vs.map (·.1):=rel.keys;refine PySem.W.kdl_call (PySem.W.kdl_dict lo) (I.ok.hd hc) at' (by rw[<-hl];exact hz) λh' tk tU c' kp e it=>?_;have rv:Vals (kvs.map λkv=>kV kv.1) tU.toList:=by
  refine LM _ _ (by simp[it.1,hl]) λj x v e1 e2=>?_;obtain⟨k,y,e3,e4⟩:=it.2 j v (by rw[<-bI];exact e2);have e5:(kvs.map (·.1))[j]?=some k:=by rw[hk,aK,e3];rfl
  rw[aK]at e1 e5;cases e6:kvs[j]? with
  |none=>rw[e6]at e1;cases e1
  |some p=>
   rw[e6]at e1 e5;obtain rfl:kV p.1=x:=bK e1;obtain rfl:p.1=k:=bK e5;exact rM e4
 exact{.ref s.heap.objs.size,_,I.laid (t':=tk) kp (ar _) (show dG X.prog X.w _ h' _ (.lst _)from{by rw[ak];exact hz,tU.toList,c',rv,by simpa using e}),rfl,q _ I.fresh}
def yh(hc:X.calm=true):jv X (.builtin "all") (λxs H Q=>∃(a:Addr)(bs:List Bool),xs=[.ref a]/\bo X.K H a (bs.map V.bl)/\Q (.bl (bs.all id)) H):=by
 intro pins s Z H xs us Q I r h;obtain⟨a,bs,rfl,ha,q⟩:=h;obtain⟨u,rfl,ru⟩:=lO r;cases ru;obtain⟨aY,rv,p,hz⟩:=I.list ha;have hl:aY.length=bs.length:=by have:=rv.length;simpa using this.symm
 have ie:a≠s.heap.objs.size:=by obtain⟨o,n,e,_⟩:=id p;exact aL (aI e)
 refine call_all_walk (kT p.isList ?_);refine{s.heap.objs.size,_,_,aY.toArray.size,_,_,λi=>(bs[i]?).getD true,rfl,Walks.list (A:=X.A.in1) (show X.A.in1.handled=none from I.ok.hd hc) s.heap.objs.size a ie aY.toArray,{{_,aF _ rfl,rfl,rfl},p.isList.at λo e=>aq _ e},?_,λh' tk kp=>?_}
 ·intro i v s' Q' E' hP hQ;have hP':aY[i]?=some v:=by simpa using hP
  have hi:i<bs.length:=by rw[<-hl];exact(ax.mp hP').1
  have e1:(bs.map V.bl)[i]?=some (.bl bs[i]):=by rw[aK,au hi];rfl
  obtain⟨u,hu,ru⟩:=rv.get e1;rw[hP']at hu;cases hu;cases ru;refine iD ?_;have e2:(bs[i]?).getD true=bs[i]:=by rw[au hi];rfl
  rw[<-e2];exact hQ
 ·refine{.bl (bs.all id),H,I.kept (t':=tk) λb o e=>kp b o (by simpa using aL (aI e)) (aq _ e),?_,q};show Value.bool _=Value.bool _;rw[aQ,hl,range_all]
def pq:jv X (.builtin "isinstance") (λxs H Q=>∃x n t b,xs=[x,.ty n]/\oX X.K H x t/\kitOne X.K t (.type n)=some b/\Q (.bl b) H):=by intro pins s Z H xs us Q I r h;obtain⟨x,n,t,b,rfl,ty,e,q⟩:=h;obtain⟨u,w',rfl,ru,pf⟩:=vals2 r;cases pf;exact Q0 I ru ty e λtk=>{.bl b,H,I.tok tk,rfl,q}
inductive XQ(x:V)(vs:Aao)(H:Hp)(Q:VK):Prop
 |mk a b (_:x=.str a) (_:vs=[.str b]) (_:Q (.bl (Txt.startswith a b)) H)
def HI:Sh X "str.startswith" XQ:=by intro pins s Z H x vs v us Q I rx rv h;obtain⟨a,b,rfl,rfl,q⟩:=h;obtain⟨t,rfl⟩:=rx;obtain⟨u,rfl,ru⟩:=rv.one;obtain⟨t',rfl⟩:=ru;exact call_gives F.slot_str_startswith (oj s a t) F.entry_str_startswith (F.args_str_startswith_2 _ _) (gives_str_startswith a b t t') {.bl _,H,I,rfl,q}
inductive ade(x:V)(lo:Option Int)(hi:Option Int)(H:Hp)(Q:VK):Prop
 |mk z (_:x=.str z) (_:z.length<=sizeLine) (_:Q (.str (Txt.slice z lo hi)) H)
def ZT:Nu X ade:=by
 intro pins s Z H x v vl vu lo hi sl Q I rx hs pl pu h;obtain⟨z,rfl,hz,q⟩:=h;obtain⟨t,rfl⟩:=rx;cases pl with
 |none=>
  cases pu with
  |none=>exact{"str",_,F.slot_str_getitem.lookup,oj _ _ _,ko (l:=none) (u:=none) (st:=none) hs rfl (-46)}
  |int j tj=>exact{"str",_,F.slot_str_getitem.lookup,oj _ _ _,ko (l:=none) (u:=some (j,tj)) (st:=none) hs rfl (-46)}
 |int i ti=>
  cases pu with
  |none=>exact{"str",_,F.slot_str_getitem.lookup,oj _ _ _,ko (l:=some (i,ti)) (u:=none) (st:=none) hs rfl (-46)}
  |int j tj=>exact{"str",_,F.slot_str_getitem.lookup,oj _ _ _,ko (l:=some (i,ti)) (u:=some (j,tj)) (st:=none) hs rfl (-46)}
def acV(_i j:Int):Prop:=0<j/\j.natAbs.log2<9000
def Tu:jh X (binaryOp .FloorDiv) (rI acV λi j=>.int (i/j)):=VH λi j _ _ _ _ _ hc q=>by have h1:(0:Int)<j:=hc.1;exact floordiv_int ∅ (by rw[Int.fdiv_eq_ediv_of_nonneg i ∅];exact q) (.inl (PyProof.noPylong_of_log2 hc.2))
mutual
def Dt(K:Frag)(H:Hp):PyData->V->Prop
 | .none,x=>x=.cE
 | .bool b,x=>x=.bl b
 | .int i,x=>x=.int i
 | .str z,x=>x=.str z
 | .list ds,x=>∃a xs,x=.ref a/\bo K H a xs/\lY K H ds xs
 | .tuple ds,x=>∃a xs,x=.ref a/\bF K H a xs/\lY K H ds xs
 | .dict _,_=>False
def lY(K:Frag)(H:Hp):List PyData->Aao->Prop
 |[],xs=>xs=[]
 |d::ds,xs=>∃x r,xs=x::r/\Dt K H d x/\lY K H ds r
end
mutual
theorem pP(I:Inv X pins Z H s):∀(d:PyData)(x:V)(v:Value),Dt X.K H d x->RelV x v->∃as,Reads s.heap v d as
 | .none,x,v,h,r=>by rw[Dt]at h;subst h;cases r;exact{_,.none}
 | .bool b,x,v,h,r=>by rw[Dt]at h;subst h;cases r;exact{_,.bool b}
 | .int i,x,v,h,r=>by rw[Dt]at h;subst h;obtain⟨t,rfl⟩:=r;exact{_,.int i t}
 | .str z,x,v,h,r=>by rw[Dt]at h;subst h;obtain⟨t,rfl⟩:=r;exact{_,.str z t}
 | .list ds,x,v,h,r=>by rw[Dt]at h;obtain⟨a,xs,rfl,hq,ha⟩:=h;cases r;obtain⟨aY,rv,⟨o,n,e,c,_,d⟩,_⟩:=I.list hq;obtain⟨as,ra⟩:=wY I ds xs aY ha rv;exact{_,.list e c d (by simpa using ra)}
 | .tuple ds,x,v,h,r=>by rw[Dt]at h;obtain⟨a,xs,rfl,hq,ha⟩:=h;cases r;obtain⟨aY,rv,⟨o,e,c,n,d⟩,_⟩:=I.tuple hq;obtain⟨as,ra⟩:=wY I ds xs aY ha rv;exact{_,.tuple e c d (by simpa using ra)}
 | .dict _,x,v,h,r=>by rw[Dt]at h;exact h.elim
theorem wY(I:Inv X pins Z H s):∀(ds:List PyData)(xs:Aao)(vs:Aag),lY X.K H ds xs->Vals xs vs->∃as,ReadsAll s.heap vs ds as
 |[],xs,vs,h,r=>by rw[lY]at h;subst h;cases r;exact{_,.nil}
 |d::ds,xs,vs,h,r=>by
  rw[lY]at h;obtain⟨x,r',rfl,h1,h2⟩:=h;cases r with
  |cons r1 r2=>
   obtain⟨as,q1⟩:=pP I d x _ h1 r1;obtain⟨bs,q2⟩:=wY I ds r' _ h2 r2;exact{_,.cons q1 q2}
end
inductive adi(K:Frag)(neg:Bool)(x:V)(y:V)(H:Hp)(Q:VK):Prop
 |mk d e (_:Dt K H d x) (_:Dt K H e y) (_:SeqAt.shaped d=true) (_:SeqAt.shaped e=true) (_:Q (.bl (if neg then !PyData.eqv d e else PyData.eqv d e)) H)
def aap(hu:X.A.units+64<cLine):jh X (compareOp .NotEq) (adi X.K true):=by intro pins s Z H x y v u Q I rx ry h;obtain⟨d,e,h1,h2,h3,h4,q⟩:=h;obtain⟨as,r1⟩:=pP I d x v h1 rx;obtain⟨bs,r2⟩:=pP I e y u h2 ry;exact ne_dataH r1 r2 h3 h4 hu {.bl _,H,I,rfl,q}
theorem Fl{K:Frag}:∀zs:Aah,lY K H (zs.map PyData.str) (zs.map V.str)
 |[]=>by rw[ji,lY];rfl
 |z::r=>by rw[aU,aU,lY];exact{_,_,rfl,by rw[Dt],Fl r}
theorem C7:∀xs ys:Aah,PyData.eqvAll (xs.map PyData.str) (ys.map PyData.str)=decide (xs=ys)
 |[],[]=>by simp[PyData.eqvAll]
 |[],_::_=>by simp[PyData.eqvAll]
 |_::_,[]=>by simp[PyData.eqvAll]
 |a::r,b::t=>by simp only[aU,PyData.eqvAll,PyData.eqv,C7 r t];by_cases h:a=b<;>by_cases h':r=t<;>simp[h,h']
theorem JU:∀zs:Aah,(∀z∈zs,PyData.strOk z=true)->PyData.canLayAll0 (zs.map PyData.str)=true
 |[],_=>rfl
 |z::r,h=>by have h1:=h z aA;have h2:=JU r λy hy=>h y (aB _ hy);simp[PyData.canLayAll0,PyData.canLay0,h1,h2]
theorem Fn:∀zs:Aah,PyData.depthAll (zs.map PyData.str)=0
 |[]=>rfl
 |_::r=>by simp[PyData.depthAll,PyData.depth,Fn r]
def O9(osc:Scope)(N:Aah)(scope:Scope)(x:Str)(fs:Aah)(fr:List Nat):Bool:=
 scope.kind==.function&&scope.names.lookup x==some .local&&scope.names.all (λy=>!(y.2==.local)||scope.names.lookup y.1==some .local)&&scope.names.all (λy=>!(y.2==.cell))&&
  (frees scope).all (λn=>osc.names.lookup n==some .cell&&scope.names.lookup n==some .free)&&decide ((x::fs).Nodup)&&fr.length==fs.length&&
  (List.range fs.length).all (λj=>match fs[j]?,fr[j]? with|some y,some k=>N[k]?==some y&&decide (y∈frees scope)|_,_=>false)
end
def cU(h:O9 X.env.scope X.N scope x fs fr=true:=by kernel_rfl):pG X scope x fs fr:=by
 unfold O9 at h;simp only[bB]at h;obtain⟨⟨⟨⟨⟨⟨⟨h1,h2⟩,h3⟩,h4⟩,h5⟩,h6⟩,h7⟩,h8⟩:=h;refine{iH h1,iH h2,λy hy e=>?_,λy hy e=>?_,λn hn=>?_,bj h6,iH h7,λj y k e1 e2=>?_}
 ·have:=bZ.mp h3 y hy;rw[e]at this;simpa using this
 ·have:=bZ.mp h4 y hy;rw[e]at this;simp at this
 ·have:=bZ.mp h5 n hn;rw[bB]at this;exact{iH this.1,iH this.2}
 ·have:=bZ.mp h8 j (cY.mpr (ax.mp e1).1);rw[e1,e2]at this;simp only[bB]at this;exact{iH this.1,bj this.2}
def dP(P:Program)(w:World)(K:Frag)(mg:Aad)(base:Heap)(k:Nat)(x:Str)(ps:Aah)(sp:Sp):Prop:=
 ∃f fd,dk P w K mg base fU k f fd ps sp/\mg x=some (.ref f)/\keepIn K (.ref f)=true/\Binds K fd ps []
def cl(D:dP X.prog X.w X.K X.mg X.base k x ps sp)(hr:gX j X.A)(ha:PA X (e::es) t)(hk:k<=j:=by decide)(hg:Gl X x:=by rfl)
  (Bd:(-32)=false:=by decide) (he:starEach (e::es) X.env=(false,eval e X.env)::starEach es X.env:=by rfl) (ue:(-36).any (·.1)=false:=by rfl):
  PE X (-65) (Vr sp [] E0 t):=by
 obtain⟨f,fd,F,m,kp,b⟩:=D;exact X5 F (hr.mono hk) hg m kp b .nil N7 ha Bd he ue
def ER(l:Addr)(items:Aal)(n:Nat)(b:Addr)(dd:Aak)(sl:Array (Option Value))(xT:Aal)(n2:Nat)(hs0:¬(!items.isEmpty&&Builtin.List.listTooLong (items.size+xT.size))=true)(wz:items.size<=sizeLine)(kH:items.size+xT.size<=sizeLine+1):
  Meets (Builtin.«list.extend» {[.ref l,.ref b],[]}) (λ_ R s=>s.heap.get? l=some {cls:=.type "list",dict:=none,data:=.seq items n,slots:=#[]}/\s.heap.get? b=some {cls:=.type "tuple",dict:=dd,data:=.seq xT n2,slots:=sl}/\R (.ok (.ret Value.none)) {s with heap:=s.heap.update l (Obj.mapSeq λx=>x++xT),toks:=s.toks}):=
 .of_wp λprog w A R s h=>by
  obtain⟨hp,g,d,tk,os⟩:=s;obtain⟨hl,hb,h⟩:=h;have lM:(items++xT).size<=sizeLine+1:=by rw[Array.size_append];exact kH
  wp_walk using(jk hl rfl (hz:=wz) (_hz':=lM)),wpAny_loadPart' hl,wpAny_loadPart' hb
  exact⟨_,rfl,h⟩
section
variable{X:Cx}
inductive Ta(K:Frag)(x:V)(vs:Aao)(H:Hp)(Q:VK):Prop
 |mk l b xs zs (_:x=.ref l) (_:vs=[.ref b]) (_:H l=some (.lst xs)) (_:bF K H b zs) (_:xs.length+zs.length<=sizeLine) (_:Q .cE (upd H l (.lst (xs++zs))))
def Og:Si X "list.extend" (Ta X.K):=by
 intro pins s Z H x vs v us Q I rx rv h;obtain⟨l,b,xs,zs,rfl,rfl,hH,hB,hz,q⟩:=h;cases rx;obtain⟨u,rfl,ru⟩:=rv.one;cases ru;obtain⟨z,aY,n,r,hl,e⟩:=I.DE hH;obtain⟨qI,r2,⟨⟨cls,dd,data,sl⟩,e2,ya,n2,hd2⟩,z2⟩:=I.tuple hB;simp only at ya hd2;subst ya hd2;have jF:=r2.length;have hsz:aY.toArray.size+qI.toArray.size<=sizeLine:=by rw[aQ,aQ];lia
 have OF:¬(!aY.toArray.isEmpty&&Builtin.List.listTooLong (aY.toArray.size+qI.toArray.size))=true:=by rw[JH hsz,si];exact aW
 refine uJ BM ⟨_,e,rfl⟩ Ak (zB _ _)
  (ER l aY.toArray n b dd sl qI.toArray n2 OF (by rw[aQ];lia) ∅) {e,e2,?_}
 refine{.cE,_,I.Om (its':=aY++qI) hH e (-9) (r.append r2) ?_,rfl,q};rw[aO];lia
end
def cut(n:Nat)(C:St->Hp->Prop)(ht:∃t2,qo X (body.drop n) t2/\∀Z H,C Z H->t2 D Z H)
  (hh:∀t2,qo X (body.drop n) t2->∃t,qo X body t/\((∀Z H,C Z H->t2 D Z H)->t D σ0 H0)):∃t,qo X body t/\t D σ0 H0:=by
 obtain⟨t2,p,q⟩:=ht;obtain⟨t,p',q'⟩:=hh t2 p;exact{t,p',q' q}
def Tq(hg:Gl X x)(hm:∃t,X.mg x=some (.int i t))(hd:(-32)=false:=by decide):PE X (.Name x pos) (tC (.int i)):=by obtain⟨t,hm⟩:=hm;exact Mr hg hm ⟨t,rfl⟩ hd
def Tp(hg:Gl X x)(hm:∃t,X.mg x=some (.str z t))(hd:(-32)=false:=by decide):PE X (.Name x pos) (tC (.str z)):=by obtain⟨t,hm⟩:=hm;exact Mr hg hm ⟨t,rfl⟩ hd
section
variable{X:Cx}{K:Frag}
def vy(h:X.K=K:=by rfl):Nv X (Z9 K):=h▸hE
def uS(h:X.K=K:=by rfl):Nv X (Z8 K):=h▸lC
def Br(h:X.K=K:=by rfl):jv X (.builtin "len") (λxs H Q=>∃x n,xs=[x]/\abL K x H n/\Q (.int n) H):=h▸iS
def tN(h:X.K=K:=by rfl):jh X (compareOp .NotIn) (rIn K true):=h▸AO
def KQ(h:X.K=K:=by rfl):jv X (.builtin "isinstance") (λxs H Q=>∃x n t b,xs=[x,.ty n]/\oX K H x t/\kitOne K t (.type n)=some b/\Q (.bl b) H):=h▸pq
def gu{A B:Hp->Prop}(h:A H):BV Z H (λb H4=>if b=true then A H4 else B H4):=by show(if true=true then A H else B H);rw[aC rfl];exact h
end
end L2
namespace HT
open PySem PySem.Spec PyProof.Rows
section
variable{prog:Program}{w:World}{A:Around}{E:Aae}{s:Shared}
def Ae{t sl:Addr}{items:Aal}{vl vu:Value}{lo hi:Option Int}{Q:Aae}(ht:IsTup s.heap t items)(hs:s.heap.IsSliceOf sl vl vu .none)(pl:IsPart vl lo)(pu:IsPart vu hi)
  (hw:dH items.size 0 lo=0/\dH items.size items.size hi=items.size) (h:Q (.ref t) s):wpAny (-5) A (getItem (.ref t) (.ref sl)) Q E s:=by
 obtain⟨os,Kg,WG,Rv⟩:=id hs;have hTs:s.TypeIs (.ref sl) "slice":=⟨os,Kg,WG⟩;unfold getItem
 try with_reducible refine bP ?_
 first|refine af (ao ?_)|skip
 refine af (Cc ht.typeIs (-8) ?_);refine af (wpAny_callSpecial?_slot (name:=Str.ofString "__getitem__") ht.typeIs eC
  (bz eC ht.typeIs Af ?_ (Bz _ _)))
 show wpAny _ _ (Builtin.Tuple.tupleItemsOf (.ref t)>>=_) _ _ s;refine af (tupleItemsOf_ ht ?_);refine af (fZ hTs ?_);rw[aC (-8)];refine af (u9 hs pl pu ?_);have ad5:(-19)=true:=by rw[hw.1,hw.2];simp
 show wpAny _ _ (if(-19)=true then _ else _) _ _ s;rw[aC ad5];unfold Builtin.Tuple.tupleIsExact;refine af (af (fZ ht.typeIs ?_));refine ao ?_;rw[aC (-8)]
 wp_walk
 exact{_,rfl,ao h}
def UZ(ht:IsTup s.heap t vs.toArray)(hb:IsTup s.heap b ws.toArray)(h0:vs=[]->Q (.ref b) s)
  (h1:vs≠[]->ws=[]->Q (.ref t) s) (h2:vs≠[]->ws≠[]->Q (-12) {s with heap:=s.heap.push {cls:=.type "tuple",data:=.seq (vs++ws).toArray}})
  (hsz:vs.length+ws.length<=sizeLine):wpAny (-5) A (binaryOp .Add (.ref t) (.ref b)) Q E s:=by
 by_cases hv:vs=[]
 ·obtain⟨⟨cls,dd,data,sl⟩,ho,hc,n,hd⟩:=id ht;obtain⟨⟨aew,Nj,data2,Vy⟩,zU,ya,n2,hd2⟩:=id hb;simp only at hc hd ya hd2;subst hc hd ya hd2;exact Bo ⟨_,ho,rfl⟩ ⟨_,zU,rfl⟩ vh zI pA oN (nV _ _)
   (tuple_addW0 t b vs.toArray ws.toArray n n2 dd Nj sl Vy (by simp[hv])) {ho,zU,h0 hv}
 ·exact YW ht hb hv (h1 hv) (h2 hv) hsz
end
end HT
namespace L2
open PySem PySem.Spec PyProof.Rows
section
variable{X:Cx}
inductive Z5(K:Frag)(x:V)(lo:Option Int)(hi:Option Int)(H:Hp)(Q:VK):Prop
 |mk a xs (_:x=.ref a) (_:bF K H a xs) (_:((HT.dH xs.length 0 lo=0/\HT.dH xs.length xs.length hi=xs.length)->Q (.ref a) H)) (_:(¬(HT.dH xs.length 0 lo=0/\HT.dH xs.length xs.length hi=xs.length)->∀p,H p=none->Q (.ref p) (upd H p (.tup (kr xs lo hi)))))
def Ma:Nu X (Z5 X.K):=by
 intro pins s Z H x v vl vu lo hi sl Q I rx hs pl pu h;obtain⟨a,xs,rfl,hx,q1,q2⟩:=h;by_cases hw:HT.dH xs.length 0 lo=0/\HT.dH xs.length xs.length hi=xs.length
 ·cases rx;obtain⟨aY,r,ht,hz⟩:=I.tuple hx;have hlen:aY.toArray.size=xs.length:=by rw[aQ];exact r.length.symm
  refine{"tuple",_,eC.lookup,ht.typeIs,?_};exact HT.Ae ht hs pl pu (by rw[hlen];exact hw) {.ref a,H,I,rfl,q1 hw}
 ·exact ZS pins s Z H (-51) v vl vu lo hi sl Q I rx hs pl pu {a,xs,rfl,hx,hw,q2 hw}
inductive NT(K:Frag)(x:V)(y:V)(H:Hp)(Q:VK):Prop
 |mk a b xs ys (_:x=.ref a) (_:y=.ref b) (_:bF K H a xs) (_:bF K H b ys) (_:xs.length+ys.length<=sizeLine) (_:(xs=[]->Q (.ref b) H)) (_:(xs≠[]->ys=[]->Q (.ref a) H)) (_:(xs≠[]->ys≠[]->∀p,H p=none->Q (.ref p) (upd H p (.tup (xs++ys)))))
def FT:jh X (binaryOp .Add) (NT X.K):=by intro pins s Z H x y v u Q I rx ry h;obtain⟨a,b,xs,ys,rfl,rfl,ha,hb,hz,q0,q1,q2⟩:=h;cases rx;cases ry;obtain⟨aY,r1,p1,_⟩:=I.tuple ha;obtain⟨qI,r2,p2,_⟩:=I.tuple hb;refine HT.UZ p1 p2 (λz=>{.ref b,H,I,rfl,q0 (r1.xN.mp z)}) (λn z=>{.ref a,H,I,rfl,q1 (λz=>n (r1.xN.mpr z)) (r2.xN.mp z)}) (λn z=>?_) (by rw[<-r1.length,<-r2.length];exact hz);refine{.ref s.heap.objs.size,_,I.laid (t':=s.toks) (o:=.tup (xs++ys)) (λb ob q=>aq _ q) (ar _) ?_,rfl,q2 (λz=>n (r1.xN.mpr z)) (λw=>z (r2.xN.mpr w)) _ (-71)};exact{by rw[aO];exact hz,_,r1.append r2,BL _ _,_,aF _ rfl,rfl}
inductive Z7(K:Frag)(neg:Bool)(x:V)(y:V)(H:Hp)(Q:VK):Prop
 |mk a b xs (_:x=.ref a) (_:y=.ref b) (_:bo K H a xs) (_:bo K H b []) (_:Q (.bl (if neg then !xs.isEmpty else xs.isEmpty)) H)
def aar(hu:X.A.units<cLine):jh X (compareOp .Eq) (Z7 X.K false):=by
 intro pins s Z H x y v u Q I rx ry h;obtain⟨a,b,xs,rfl,rfl,ha,hb,q⟩:=h;cases rx;cases ry;obtain⟨aY,r1,p1,_⟩:=I.list ha;obtain⟨qI,r2,p2,_⟩:=I.list hb;cases r2;cases xs with
 |nil=>
  cases r1;exact SeqAt.eq_listAt (e:=λ_=>true) p1.isList p2.isList rfl hu (λj h1 _=>absurd h1 (iA _)) {.bl true,H,I,rfl,q}
 |cons c l=>
  cases r1 with
  |cons r0 r1=>exact SeqAt.eq_list_lengthsAt p1.isList p2.isList (-9) hu {.bl false,H,I,rfl,q}
def Qn(hu:X.A.units<cLine):jh X (compareOp .NotEq) (Z7 X.K true):=by
 intro pins s Z H x y v u Q I rx ry h;obtain⟨a,b,xs,rfl,rfl,ha,hb,q⟩:=h;cases rx;cases ry;obtain⟨aY,r1,p1,_⟩:=I.list ha;obtain⟨qI,r2,p2,_⟩:=I.list hb;cases r2;cases xs with
 |nil=>
  cases r1;exact SeqAt.RcNeAt.lists (e:=λ_=>true) p1.isList p2.isList rfl hu (λj h1 _=>absurd h1 (iA _)) X.prog X.w X.xe _ {.bl false,H,I,rfl,q}
 |cons c l=>
  cases r1 with
  |cons r0 r1=>exact SeqAt.RcNeAt.lists_lengths p1.isList p2.isList (-9) hu X.prog X.w X.xe _ {.bl true,H,I,rfl,q}
variable{K:Frag}{a:Addr}{xs:Aao}{fr:List Nat}{tt:TT}{te:TE}{Z:St}{H1:Hp}{R:Addr->Aao->Hp->Prop}
abbrev zD(J:It)(fr:List Nat)(tt:TT)(te:TE)(Z:St)(H1:Hp)(R:Addr->Aao->Hp->Prop):Prop:=
 ∃W:Nat->Nat->Aao->Hp->Prop,(∃m,W 0 m [] H1)/\∀i m ys H2,W i m ys H2->
 (J.stop i H2/\ys.length<=sizeLine/\∀l,H2 l=none->R l ys H2)\/
 (J.go i H2/\ys.length<sizeLine/\∀v H3,J.xt i H2 v H3->tt (some v::slotsOf fr Z) H3 λb H4=>
  if b=true then te (some v::slotsOf fr Z) H4 (λy H5=>∃m',m'<m/\W (i+1) m' (ys++[y]) H5)else∃m',m'<m/\W (i+1) m' ys H4)
def zd(Pv:Nat->Aao->Hp->Prop)(hx:xs.length<sizeLine)(h0:Pv 0 [] H1)(hl:∀i ys H,i<=xs.length->Pv i ys H->bF K H a xs/\ys.length<=i)
  (hs:∀(i:Nat)(x:V)(ys:Aao)(H:Hp)(N:Aao->Hp->Prop),xs[i]?=some x->Pv i ys H->(∀jC H',Pv (i+1) jC H'->N jC H')->
   tt (some x::slotsOf fr Z) H λb H4=>if b=true then te (some x::slotsOf fr Z) H4 (λy H5=>N (ys++[y]) H5)else N ys H4)
  (hd:∀ys H,Pv xs.length ys H->∀l,H l=none->R l ys H):zD (Nx K a) fr tt te Z H1 R:=by
 refine{λi m ys H=>m=xs.length -i/\i<=xs.length/\Pv i ys H,{xs.length,by simp,aP _,h0},?_};rintro i m ys H ⟨rfl,hi,p⟩;obtain⟨q,hy⟩:=hl i ys H hi p;by_cases bJ:i<xs.length
 ·refine .inr {{xs,_,q,au bJ},by lia,?_};rintro v H3 ⟨rfl,hv⟩;exact hs i v ys H3 (λjC H'=>∃m',m'<xs.length -i/\m'=xs.length -(i+1)/\i+1<=xs.length/\Pv (i+1) jC H') (hv xs q) p λjC H' p'=>{_,by lia,rfl,bJ,p'}
 ·have e:i=xs.length:=by lia
  subst e;exact .inl {{xs,q,ar _},by lia,hd ys H p}
def jg(Pv:Nat->Aao->Hp->Prop)(hx:xs.length<sizeLine)(h0:Pv 0 [] H1)(hl:∀i ys H,i<=xs.length->Pv i ys H->bo K H a xs/\ys.length<=i)
  (hs:∀(i:Nat)(x:V)(ys:Aao)(H:Hp)(N:Aao->Hp->Prop),xs[i]?=some x->Pv i ys H->(∀jC H',Pv (i+1) jC H'->N jC H')->
   tt (some x::slotsOf fr Z) H λb H4=>if b=true then te (some x::slotsOf fr Z) H4 (λy H5=>N (ys++[y]) H5)else N ys H4)
  (hd:∀ys H,Pv xs.length ys H->∀l,H l=none->R l ys H):zD (Nz K a) fr tt te Z H1 R:=by
 refine{λi m ys H=>m=xs.length -i/\i<=xs.length/\Pv i ys H,{xs.length,by simp,aP _,h0},?_};rintro i m ys H ⟨rfl,hi,p⟩;obtain⟨q,hy⟩:=hl i ys H hi p;by_cases bJ:i<xs.length
 ·refine .inr {{xs,_,q,au bJ},by lia,?_};rintro v H3 ⟨rfl,hv⟩;exact hs i v ys H3 (λjC H'=>∃m',m'<xs.length -i/\m'=xs.length -(i+1)/\i+1<=xs.length/\Pv (i+1) jC H') (hv xs q) p λjC H' p'=>{_,by lia,rfl,bJ,p'}
 ·have e:i=xs.length:=by lia
  subst e;exact .inl {{xs,q,ar _},by lia,hd ys H p}
variable{P:Program}{w:World}{A:Around}{E:Aae}{z:Shared}
def uH(g:z.heap.IsTupleIter j p k)(gp:z.heap.IsTuple p aY)(gy:aY[k]?=some y)
  (q:∀h',h'.IsTupleIter j p (k+1)->Heap.SameBut j z.heap h'->Q y {z with heap:=h'}):wpAny (-29) A (Builtin.SmallTypes.nextOf (.ref j)) Q E z:=by
 obtain⟨ob,g0,g1,g2⟩:=id g;obtain⟨op,p0,_,np,p2⟩:=gp;unfold Builtin.SmallTypes.nextOf;refine af (wpAny_callSpecial?_slot g.typeIs jB (bz jB g.typeIs tJ ?_ (sf _)));show wpAny _ _ (field (.ref j) 0>>=_) _ _ z;refine af (bO g0 g2 rfl ?_);show wpAny _ _ (if(Value.ref p==Value.none)=true then _ else _) _ _ z;rw[az (show ¬((Value.ref p==Value.none)=true)from aW)];refine af (bO g0 g2 rfl ?_);refine af (bY p0 p2 ?_);simp only[cZ,gy];refine af (fG g0 g2 (-9) (ao {y,rfl,ao (q _ ?_ (bT ..))}));exact{_,cH _ g0 (yq (nY g2 _)),(Cr ..).trans g1,by rw[nY g2];simp[rawInt]}
def xO(hd:A.handled=none)(g:z.heap.IsTupleIter j p k)(gp:z.heap.IsTuple p aY)(gy:aY[k]?=none)
  (q:∀h' e,Heap.ExtBut j z.heap h'->(∃o,h'.get? e=some o/\o.cls=.type "StopIteration")->E (.ref e) {z with heap:=h'}):wpAny (-29) A (Builtin.SmallTypes.nextOf (.ref j)) Q E z:=by
 obtain⟨ob,g0,g1,g2⟩:=id g;obtain⟨op,p0,_,np,p2⟩:=gp;unfold Builtin.SmallTypes.nextOf;refine af (wpAny_callSpecial?_slot g.typeIs jB (bz jB g.typeIs tJ ?_ (sf _)));show wpAny _ _ (field (.ref j) 0>>=_) _ _ z;refine af (bO g0 g2 rfl ?_);show wpAny _ _ (if(Value.ref p==Value.none)=true then _ else _) _ _ z;rw[az (show ¬((Value.ref p==Value.none)=true)from aW)];refine af (bO g0 g2 rfl ?_);refine af (bY p0 p2 ?_);simp only[cZ,gy];refine af (fP (af (fG g0 g2 (-9) ?_)));refine af ?_;refine af (cx ?_ (by size_fits));refine af (Cz (by first|rfl|(simp only[firstArgMember];rfl)) ?_);refine cx ?_ (by size_fits);refine af (wpAny_handled ?_)
 first|rw[show A.in1.handled=none from hd]|rw[hd]
 refine af (ao (wpAny_throw ?_));exact q _ _ (((bT ..).extBut.push _).push _) {_,aF _ rfl,rfl}
end
section
variable{X:Cx}{pins:Aac}{Z:St}{H:Hp}{s:Shared}{h':Heap}
def Inv.Xr(I:Inv X pins Z H s)(k:∀b o,b≠e->b≠j->s.heap.get? b=some o->h'.get? b=some o)(fe:pV X pins H e)(fj:pV X pins H j)
  (hp:s.heap.objs.size<=p) (ht:IsTup h' p us.toArray/\∃o,h'.get? p=some o/\o.dict=none) (r:Vals xs us) (hz:xs.length<=sizeLine):Inv X pins Z (upd H p (.tup xs)) {s with heap:=h',toks:=t'}:=by
 have hn:=I.br.fresh hp;have fp:=I.qN hp hn;have nH:∀b u,H b=some u->b≠e/\b≠j/\b≠p:=λb u g=>{(λz=>by rw[z,fe.1]at g;cases g),(λz=>by rw[z,fj.1]at g;cases g),λz=>by rw[z,hn]at g;cases g};refine I.step (ch:=[e,j,p]) (λb hb=>?_) (λb o _ _ hc g _=>k b o (-73) (-73) g) (λb o _ _ hc g _=>{o.slots,k b o (-73) (-73) g})
  (λb o hc g n=>by rw[aE λz=>hc (by simp[z])];exact n) (λb o hc g=>{o,k b o (-73) (-73) g})
  (λb ys g=>by rw[aE (nH b _ g).2.2];exact g) (λb o u g=>by rw[aE (nH b _ g).2.2];exact g) (λb ps g=>{#[],by rw[aE (nH b _ g).2.2,g];simp}) (λm hm=>?_) (λb u g=>?_) I.bare
 ·have kI:b=e\/b=j\/b=p:=by simpa using hb
  rcases kI with rfl|rfl|rfl
  ·exact{fe.2.2.2.1,fe.2.1,fe.2.2.2.2.1,fe.2.2.2.2.2}
  ·exact{fj.2.2.2.1,fj.2.1,fj.2.2.2.2.1,fj.2.2.2.2.2}
  ·exact{fp.2.2.2.1,fp.2.1,fp.2.2.2.2.1,fp.2.2.2.2.2}
 ·obtain⟨o,es,ep,ho,r'⟩:=hm;exact{o,es,ep,k _ o (cb fe.2.1) (cb fj.2.1) ho,r'}
 ·by_cases hb:b=p
  ·subst hb;rw[aw]at g;cases g;exact⟨hz,us,r,ht⟩
  ·rw[aE hb]at g;refine(I.br b u g).jx (λc v hc q=>?_) (λc q=>?_) λc ys q=>?_
   ·rcases hc with z|z
    ·rw[z];rw[z]at q;exact k b v (nH b _ g).1 (nH b _ g).2.1 q
    ·exact k c v (nH c _ z).1 (nH c _ z).2.1 q
   ·rw[aE (nH c _ q).2.2];exact q
   ·rw[aE (nH c _ q).2.2];exact q
def RS{D:Addr->Prop}{E:Aae}{e j:Addr}{fp:Aaj}{n i:Nat}{Pv:Nat->Value->Prop}{St':Nat->Heap->Prop}{old:Value}{elts:List Expr}{kk:Nat}{ps:Pos}{y:V}
  (W:Draws X.prog X.w X.A.in1 j fp n Pv St') (he:IsEnum s.heap e j i old) (st:St' i s.heap) (hi:i<n) (ie:e≠j) (hef:e∉fp) (I:Inv X pins Z H s) (fe:pV X pins H e) (fj:pV X pins H j) (hP:∀u,Pv i u->RelV y u):
  wpAny (-6) X.A (pyNext (.ref e)) (λr s1=>∃u,r=some u/\
   wpAny (-6) X.A (letOwnedTupleGo (.Tuple elts kk ps) (.ref e) u) (λ_ s2=>∃p,u=.ref p/\H p=none/\Inv X pins Z (upd H p (.tup [.int i,y])) s2/\(∃adm,IsEnum s2.heap e j ((i:Int)+1) adm)/\St' (i+1) s2.heap/\e≠p/\j≠p) E s1) E s:=by
 refine wpAny_pyNext_enum_itemD W he st hi ie hef λx h1 tk hx ho st1 hT hsz hk=>?_;refine{_,rfl,wpAny_letOwnedTupleGo_enum ho λh2 Hh kH=>?_};have hel:=aI he;have sW:j<s.heap.objs.size:=by obtain⟨o,z⟩:=W.live _ _ st;exact aI z
 have OA:=kH;have hT2:IsTup h2 s.heap.objs.size ([.int (i:Int) tk,x]:Aag).toArray/\∃o,h2.get? s.heap.objs.size=some o/\o.dict=none:={{_,OA.extBut _ _ (bA hel) hT,rfl,_,rfl},_,OA.extBut _ _ (bA hel) hT,rfl};refine{s.heap.objs.size,rfl,I.br.fresh (ar _),I.Xr (λb o n1 n2 g=>OA.extBut b o n1 (hk b o n1 n2 g)) fe fj (ar _) hT2 (.cons ⟨tk,rfl⟩ (.cons (hP x hx) .nil)) (-35),⟨_,Hh⟩,?_,aL hel,aL sW};exact W.frame _ _ _ st1 λb hb o g=>OA.extBut b o (λz=>hef (z▸hb)) g
end
def Sj(K:Frag)(a:Addr):It:=
 {λi H=>∃xs x,bo K H a xs/\xs[i]?=some x,λi H x H'=>∃p y,x=.ref p/\H p=none/\H'=upd H p (.tup [.int i,y])/\∀xs,bo K H a xs->xs[i]?=some y,λi H=>∃xs,bo K H a xs/\xs.length=i}
def R7{h:Heap}(e:h.get? a=some o)(e':h.get? b=some o')(n:o.cls≠o'.cls):a≠b:=λz=>by rw[z,e']at e;cases e;exact n rfl
def Pw{K:Frag}(a e j:Addr):Turn P w K (.Tuple elts kk ps) (Sj K a) [e,j] e (λi h=>(∃old,IsEnum h e j i old)/\h.IsListIter j a i/\e≠j) where
 mem:=by simp
 obj:=λi h st b hb=>by
  obtain⟨⟨old,he⟩,⟨o,g,c,d⟩,_⟩:=st;have kI:b=e\/b=j:=by simpa using hb
  rcases kI with rfl|rfl
  ·exact{_,he,λv z=>by cases z}
  ·exact{o,g,λv z=>by rw[d]at z;cases z}
 keep:=λi h h' st k=>by obtain⟨⟨old,he⟩,⟨o,g,r⟩,n⟩:=st;exact{{old,k e (-9) _ he},{o,k j (-9) o g,r},n}
 item:=by
  intro X hP hw hK hc i pins s Z H E I hf st hg;subst hP hw hK;obtain⟨xs,x,hq,hx⟩:=hg;obtain⟨aY,rv,pl,hz⟩:=I.list hq;obtain⟨⟨old,he⟩,hj,ie⟩:=st;have hl:=rv.length;have hil:=(ax.mp hx).1;obtain⟨o0,g0,c0,_⟩:=id pl.isList;obtain⟨o1,g1,c1,_⟩:=id hj;have nae:=R7 g0 he (by rw[c0];show Value.type "list"≠Value.type "enumerate";decide);have naj:=R7 g0 g1 (by rw[c0,c1];decide);have W:=Draws.list (prog:=X.prog) (w:=X.w) (show X.A.in1.handled=none from I.ok.hd hc) j a naj aY.toArray;refine iT (RS (D:=λ_=>True) (y:=x) W he {hj,pl.isList} (by rw[aQ];lia) ie (by simp[ie,nae.symm]) I (hf e (-9)) (hf j (-9)) λu hu=>?_) λr s1 ⟨u,er,h1⟩=>{u,er,iT h1 λ_ s2 ⟨p,eu,hp,I2,Hh,pX,n1,n2⟩=>?_}
  ·obtain⟨u',xY,ru⟩:=rv.get hx;have zQ:aY[i]?=some u:=by simpa using hu
   rw[zQ]at xY;cases xY;exact ru
  ·subst eu;refine{.ref p,_,I2,rfl,{p,x,rfl,hp,rfl,λys hy=>by rw[I.DF hy hq];exact hx},{Hh,pX.1,ie},λb hb=>?_};have kI:b=e\/b=j:=by simpa using hb
   rcases kI with rfl|rfl
   ·rw[aE n1];exact(hf b (-9)).1
   ·rw[aE n2];exact(hf b (-9)).1
 done:=by intro X hP hw hK hc i pins s Z H E I hf st hg;subst hP hw hK;obtain⟨xs,hq,hx⟩:=hg;obtain⟨aY,rv,pl,hz⟩:=I.list hq;obtain⟨⟨old,he⟩,hj,ie⟩:=st;have hl:=rv.length;obtain⟨f0,f1,f2,f3,f4,f5⟩:=hf j (-9);exact wpAny_pyNext_enum_end (I.ok.hd hc) he hj pl.isList (by simp;lia) λh' eb=>{rfl,I.turned (λb o hb g=>eb b o hb g) f0 f1 f3 f4 f5}
 self:=λ_ _ _ _ _ st h=>by obtain⟨⟨old,he⟩,_⟩:=st;exact Cd he h
section
variable{X:Cx}{elts:List Expr}{kk:Nat}{ps:Pos}
inductive aaX(K:Frag)(R:It->Hp->Prop)(vs:Aao)(H1:Hp):Prop
 |mk a (_:vs=[.ref a]) (_:(∃xs,bo K H1 a xs)) (_:R (Sj K a) H1)
def acA(K:Frag)(ta:TA):TI:=λZ H R=>ta Z H λvs H1=>aaX K R vs H1
def YF(I:Inv X pins Z H s):∀b∈[s.heap.objs.size+1,s.heap.objs.size],pV X pins H b:=λb hb=>by
 have kI:b=s.heap.objs.size+1\/b=s.heap.objs.size:=by simpa using hb
 rcases kI with rfl|rfl
 ·exact I.qN (fH _) (I.br.fresh (fH _))
 ·exact I.qN (ar _) (-71)
def FQ(hg:Gl X "enumerate")(hm:X.mg "enumerate"=none)(ha:PA X [a] ta)(hs:starEach [a] X.env=[(false,eval a X.env)]:=by rfl):PI X (.Tuple elts kk ps) (.Call (.Name "enumerate" p) [a] [] pos) (acA X.K ta):=by intro pins s Z H R I h;refine FF (qF I hg hm boot_enumerate (d9 (-55) hs rfl));obtain⟨l,e,⟨xs,hq⟩,q⟩:=q1;subst e;obtain⟨u,rfl,ru⟩:=lO r1;cases ru;obtain⟨aY,rv,pl,hz⟩:=I1.list hq;refine call_enumerate_list pl.isList λh' he hj _ hk=>?_;have I2:=I1.kept (t':=s1.toks) hk;refine Cd he ?_;exact{_,_,_,_,H1,rfl,I2,Pw l _ s1.heap.objs.size,{⟨_,he⟩,hj,Nat.succ_ne_self _},YF I1,q}
def DQ{K:Frag}{g:TG}{tb:TS}{D:Ends}(Pv:Nat->St->Hp->Prop)(h0:Pv 0 Z H)(hl:∀i Z H,i<=xs.length->Pv i Z H->bo K H a xs)
  (hs:∀i x p Z H,xs[i]?=some x->Pv i Z H->H p=none->g (.ref p) Z (upd H p (.tup [.int i,x])) λσ2 H2=>tb {D with nx:=Pv (i+1),ct:=Pv (i+1),bk:=D.nx} σ2 H2) (hd:∀Z H,Pv xs.length Z H->D.nx Z H):
  ∃W:Nat->Nat->St->Hp->Prop,(∃m,W 0 m Z H)/\∀i m Z H,W i m Z H->
   ((Sj K a).stop i H/\D.nx Z H)\/((Sj K a).go i H/\∃N:St->Hp->Prop,(∀σ' H',N σ' H'->∃m',m'<m/\W (i+1) m' σ' H')/\∀x H',(Sj K a).xt i H x H'->g x Z H' λσ2 H2=>tb {D with nx:=N,ct:=N,bk:=D.nx} σ2 H2):=by
 refine{λi m Z H=>m=xs.length -i/\i<=xs.length/\Pv i Z H,{xs.length,by simp,aP _,h0},?_};rintro i m Z H ⟨rfl,hi,p⟩;have q:=hl i Z H hi p;by_cases bJ:i<xs.length
 ·refine .inr {{xs,xs[i],q,by simp[bJ]},Pv (i+1),λσ' H' p'=>{xs.length -(i+1),by lia,rfl,bJ,p'},λx H' y=>?_};obtain⟨r,z,rfl,hr,rfl,y⟩:=y;exact hs i z r Z H (y xs q) p hr
 ·have e:i=xs.length:=by lia
  subst e;exact .inl {⟨xs,q,rfl⟩,hd Z H p}
def HL(j:Nat)(t:TE):TS:=λD Z H=>t Z H λv H1=>D.nx (Z.set j (some v)) H1
variable{K:Frag}
def SY(h:X.K=K:=by rfl):Nu X (Z4 K):=h▸FJ
variable{prog:Program}{w:World}{A:Around}{E:Aae}
def Fm:typeLookup (.type "list") "__getattr__"=pure none:=by rw[jn,fY];kernel_rfl
def Ky:typeLookup (.type "list") "keys"=pure none:=by rw[jn,fY];kernel_rfl
def YL{sl}{os:OsState}(hx:h.get? a=some {cls:=.type "list",dict:=none,data:=.seq aY n,slots:=sl})(hA:A.handled=none)
  (k:∀h' tk e,Heap.NewAttrErr h h' e (-51) "keys"->E (.ref e) ⟨h',g,d,tk,os⟩):
  wpAny (-5) A (Builtin.«object.__getattribute__» {[.ref a,.str "keys" u],[]}) Q E ⟨h,g,d,t,os⟩:=by
 have hT:(⟨h,g,d,t,os⟩:Shared).TypeIs (-51) "list":=⟨_,hx,rfl⟩;have f4:=Ky;unfold Builtin.«object.__getattribute__»
 repeat (any_goals (first|(assumption)|(wp_step)))
 refine yz hA k ?_;exact attrMsg_fits (-3) (by size_fits)
def YO{sl}{os:OsState}(hx:h.get? a=some {cls:=.type "list",dict:=none,data:=.seq aY n,slots:=sl})(hA:A.handled=none)
  (k:∀h' tk e,Heap.NewAttrErr h h' e (-51) "keys"->R (.error (.ref e)) ⟨h',g,d,tk,os⟩):
  codeAny (-5) A (.call (.builtin "list.__getattribute__") {[.ref a,.str "keys" u],[]}) R ⟨h,g,d,t,os⟩:=
 qQ F.slot_list_getattribute.plain F.entry_list_ga (F.slot_list_getattribute.check _ _ _ _ _ _ _ _ (show(⟨h,g,d,t,os⟩:Shared).TypeIs (-51) "list"from⟨_,hx,rfl⟩) (F.args_list_getattribute_2 _ _) (YL hx hA k))
def acO{sl}{os:OsState}(hx:h.get? a=some {cls:=.type "list",dict:=none,data:=.seq aY n,slots:=sl})(hA:A.handled=none)
  (k:∀h' tk e,Heap.NewAttrErr h h' e (-51) "keys"->E (.ref e) ⟨h',g,d,tk,os⟩):
  wpAny (-5) A (getAttrBy (-51) (.str "keys" u) false) Q E ⟨h,g,d,t,os⟩:=by
 have hT:(⟨h,g,d,t,os⟩:Shared).TypeIs (-51) "list":=⟨_,hx,rfl⟩;have g2:=F.slot_list_getattribute.lookup;have g3:=F.slot_list_getattribute.bind (-51);have f5:=Fm;have f1:=ng
 repeat (any_goals (first|(assumption)|(wp_step)))
 refine YO hx hA λh' tk e ne=>?_;obtain⟨t',u',he⟩:=ne.there;show wpAny (-5) A (getattributeRaised (-51) (.str "keys" u) _ _ _ _ _) _ _ _;unfold getattributeRaised
 repeat (any_goals (first|(assumption)|(wp_step)))
 exact k _ _ _ ne
def YQ{sl}{os:OsState}(hx:h.get? a=some {cls:=.type "list",dict:=none,data:=.seq aY n,slots:=sl})(hA:A.handled=none)
  (k:∀h' tk e,Heap.NewAttrErr h h' e (-51) "keys"->Q none ⟨h',g,d,tk,os⟩):
  wpAny (-5) A (getAttr? (-51) "keys") Q E ⟨h,g,d,t,os⟩:=by
 have f1:=ng;unfold getAttr? getAttrBy?
 repeat (any_goals (first|assumption|(with_reducible refine acO hx hA λh' tk e ne=>?_)|wp_step))
 obtain⟨t',u',he⟩:=ne.there
 repeat (any_goals (first|(assumption)|(wp_step)))
 exact k _ _ _ ne
theorem Paired.at':∀{l₁:List α}{aac:List β}{i:Nat}{x:α},Paired F l₁ aac->l₁[i]?=some x->∃y,aac[i]?=some y/\F x y
 |_,_,_,_,.nil,e=>by simp at e
 |_,_,0,_,.cons r _,e=>by simp at e;subst e;exact⟨_,rfl,r⟩
 |_,_,i+1,x,.cons _ t,e=>by obtain⟨y,h1,h2⟩:=Paired.at' (i:=i) (x:=x) t (by simpa using e);exact{y,by simpa using h1,h2}
def rU:entryFor table "dict.update.loop"=some Builtin.«dict.update.loop»:=entryFor_of_tree (by kernel_rfl)
def K1(prog:Program)(w:World)(h0:Heap)(x:Value)(kv:Key×Value):Prop:=∃t o n ku,x=.ref t/\h0.get? t=some o/\o.cls=.type "tuple"/\o.data=.seq #[ku,kv.2] n/\(bH prog w).is kv.1 ku=true
def YM(hA:A.handled=none)(gE:h0.get? d=none)(hi0:h0.get? it=none)(hdi:d≠it)
  (hl:h0.IsList l items.toArray) (hp:Paired (K1 prog w h0) items pairs) (hsz:pairs.length<=sizeLine) (g:Array GenState) (dr:Drawn) (os:OsState)
  (k:∀h' tk,(∀b o,h0.get? b=some o->h'.get? b=some o)->h'.DictOf (bH prog w) d (merged [] pairs)->R (.ok (.ret .none)) ⟨h',g,dr,tk,os⟩):
  ∀(m i:Nat)(h:Heap)(tk:Nat),items.length -i=m->i<=items.length->(∀b o,h0.get? b=some o->h.get? b=some o)->h.IsListIter it l i->h.DictOf (bH prog w) d (merged [] (pairs.take i))->
   codeAny (-5) A (.builtin "dict.update.loop" {[.ref d,.ref it,rawInt i,.none],[]}) R ⟨h,g,dr,tk,os⟩:=by
 intro m;have lp:items.length=pairs.length:=bw hp
 induction m with
 |zero=>
  intro i h tk em hi kp hit hd;have ei:i=items.length:=by lia
  refine dv rU ?_;unfold Builtin.«dict.update.loop»;obtain⟨ol,MU,hlc,nl,hld⟩:=hl;show wpAny _ _ (pyNext (.ref it)>>=_) _ _ _;refine af (xv (show(A.under _).handled=none from hA) hit {ol,kp _ _ MU,hlc,nl,hld} (by rw[ei];simp) λh' hs=>?_);show wpAny _ _ (Builtin.Dict.addKeywords d []>>=_) _ _ _;refine af (ao (ao ?_));rw[ei,lp,aV]at hd;exact k h' _ (λb o hb=>hs b o (λe=>by rw[e,hi0]at hb;cases hb) (kp b o hb)) (hd.extBut hs hdi)
 |succ m ih=>
  intro i h tk em hi kp hit hd;have bJ:i<items.length:=by lia
  obtain⟨x,hx⟩:∃x,items[i]?=some x:={_,au bJ};obtain⟨kv,jd,t,o,n,ku,rfl,hto,htc,C2,Rp⟩:=Paired.at' hp hx;refine dv rU ?_;unfold Builtin.«dict.update.loop»;obtain⟨ol,MU,hlc,nl,hld⟩:=hl;show wpAny _ _ (pyNext (.ref it)>>=_) _ _ _;refine af (wM hit {ol,kp _ _ MU,hlc,nl,hld} (x:=.ref t) (by simpa using hx) λh1 ael wz=>?_);have A2:∀b o,h0.get? b=some o->h1.get? b=some o:=λb o hb=>(wz.2 b (λe=>by rw[e,hi0]at hb;cases hb)).trans (kp b o hb);have ug:=hd.sameBut wz hdi;refine af (bP (af (xu ?_)));unfold Builtin.Dict.pairItems;refine af (fZ (T:="tuple") {o,A2 _ _ hto,htc} ?_);rw[aC (-8)];refine af (bY (A2 _ _ hto) C2 (ao ?_));show wpAny _ _ (holding [ku,kv.2] (dictSet d ku kv.2)) _ _ _;have lm:(merged [] (pairs.take i)).length<=sizeLine:=by have e1:=pQ [] (pairs.take i);rw[aT]at e1;simp only[d5]at e1;lia
  refine bP (rh (hsz:=lm) Rp ug λh2 hd2 kH=>?_);refine ao {jj _ (-3),?_};have OJ:h2.IsListIter it l (i+1):=by obtain⟨oi,G9,r⟩:=ael;exact{oi,(kH.2 it (cb hdi)).trans G9,r}
  have vv:∀b o,h0.get? b=some o->h2.get? b=some o:=λb o hb=>(kH.2 b (λe=>by rw[e,gE]at hb;cases hb)).trans (A2 b o hb);exact ih (i+1) h2 _ ∅ bJ vv OJ (by rw[vm [] pairs i kv jd];exact hd2)
def YN(hA:A.handled=none)(pl:PlainL s.heap p items.toArray)(hp:Paired (K1 prog w s.heap) items pairs)(hsz:pairs.length<=sizeLine)
  (k:∀h' tk,(∀b o,s.heap.get? b=some o->h'.get? b=some o)->h'.DictOf (bH prog w) s.heap.objs.size (merged [] pairs)->Q (-12) {s with heap:=h',toks:=tk}):
  wpAny (-5) A (call (.type "dict") [.ref p]) Q E s:=by
 refine yi (Q₁:=λv1 z1=>v1=.ref s.heap.objs.size/\z1={s with heap:=s.heap.push {cls:=.type "dict",data:=.dict #[]}}) F.kt_called_dict (zy _) Cw (kt_code_dict_new _ ⟨rfl,rfl⟩) ?_;rintro v1 z1 ⟨rfl,rfl⟩;obtain⟨km,g,dr,tk,os⟩:=s;obtain⟨⟨oc,od,oda,zL⟩,n,ho,hc,M6,hdd⟩:=pl;have hc:oc=.type "list":=hc;have M6:od=none:=M6;have hdd:oda=.seq items.toArray n:=hdd;subst hc M6 hdd;have DK:(km.push {cls:=.type "dict",data:=.dict #[]}).DictOf (bH prog w) km.objs.size []:=wK km;have A8:=aq {cls:=.type "dict",data:=.dict #[]} ho;refine{DK.typeIs,BO _ _,?_};unfold Builtin.«dict.__init__»;refine af ?_;unfold Builtin.Dict.selfAndRest;refine af (jm DK.typeIs (ao ?_));show wpAny (-5) _ (Builtin.Dict.updateFrom "dict.__init__" km.objs.size (.ref p) [] .none) _ _ _;unfold Builtin.Dict.updateFrom;refine af (fZ (T:="list") ⟨_,A8,rfl⟩ ?_);rw[aC (-8)];refine af (YQ A8 hA λh2 tk2 e ne=>?_);rw[aC (-8)];refine af (fP ?_);have zU:=ne.keeps _ _ A8;refine af (kT (items:=items.toArray) ⟨_,zU,rfl,n,rfl⟩ ?_);have kp:∀b o,km.get? b=some o->(h2.push {cls:=.type "list_iterator",data:=.fields #[.ref p,.int 0 0]}).get? b=some o:=λb o hb=>aq _ (ne.keeps _ _ (aq _ hb));have hd2:h2.DictOf (bH prog w) km.objs.size []:=by obtain⟨o',es,ep,h',r⟩:=DK;exact{o',es,ep,ne.keeps _ _ h',r}
 have ld:km.objs.size<h2.objs.size:=by obtain⟨o',es,ep,h',r⟩:=hd2;exact aI h'
 refine ao {jj _ (-3),?_};refine YM (l:=p) (d:=km.objs.size) (it:=h2.objs.size) (items:=items) (h0:=km) (pairs:=pairs) (show A.in1.handled=none from hA) (iB (ar _)) (iB (bu ld)) (aL ld) ⟨_,ho,rfl,n,rfl⟩ hp hsz g dr os (λh' Em CU qh=>{rfl,k h' Em CU qh}) items.length 0 _ _ rfl (aP _) kp ?_ (hd2.push _);exact{_,aF _ rfl,rfl,rfl}
end
section
variable{X:Cx}
inductive Qd(K:Frag)(xs:Aao)(H:Hp)(Q:VK):Prop
 |mk p ys kvs (_:xs=[.ref p]) (_:bo K H p ys) (_:Paired (λ(y:V)(kv:Key×V)=>∃t,y=.ref t/\H t=some (.tup [kV kv.1,kv.2])) ys kvs) (_:∀d,H d=none->Q (.ref d) (upd H d (.dK (iO [] kvs))))
theorem Js(ok:jI P w H h):∀{ys:Aao}{us:Aag}{kvs:List (Key×V)},Vals ys us->Paired (λ(y:V)(kv:Key×V)=>∃t,y=.ref t/\H t=some (.tup [kV kv.1,kv.2])) ys kvs->∃ps,Paired (K1 P w h) us ps/\KV kvs ps
 |_,_,_,.nil,.nil=>{[],.nil,.nil}
 |_,_,_,.cons (b:=u) r t,.cons (b:=kv) ⟨a,ea,ha⟩ q=>by
  obtain⟨ps,h1,h2⟩:=Js ok t q;subst ea;cases(show u=Value.ref a from r);obtain⟨_,aY,ri,⟨o,e1,e2,n,e3⟩,_⟩:=(show dG P w H h a (.tup [kV kv.1,kv.2])from ok a _ ha)
  match aY,ri with
  |[ku,vu],.cons rk (.cons rv .nil)=>exact{(kv.1,vu)::ps,.cons {a,o,n,ku,rfl,e1,e2,e3,wq rk} h1,.cons ⟨rfl,rv⟩ h2}
def Fw(hA:X.A.handled=none):jv X (.type "dict") (Qd X.K):=by
 intro pins s Z H xs us Q I r h;obtain⟨p,ys,kvs,rfl,hq,hk,q⟩:=h;obtain⟨u,rfl,rx⟩:=lO r;cases rx;obtain⟨aY,r',pl,hz⟩:=I.list hq;obtain⟨ps,h1,h2⟩:=Js I.br r' hk;have l1:aY.length=ps.length:=bw h1;have l2:=r'.length;refine YN hA pl h1 ∅ λh' tk kp hd=>?_;have rel:KV (iO [] kvs) (merged [] ps):=KV.merge h2 .nil;have lz:(iO [] kvs).length<=sizeLine:=by have e1:=pQ [] ps;rw[rel.length];simp only[d5]at e1;lia
 exact{.ref s.heap.objs.size,_,I.laid (t':=tk) kp (ar _) (Bm lz (dB.mpr (cb (aL I.big))) rel hd),rfl,q _ (-71)}
variable{prog:Program}{w:World}{A:Around}{s:Shared}{R:Result->Shared->Prop}
theorem Pa(Iv:Nat->Shared->Prop)
  (turn:∀n z,Iv n z->wpAny (-5) A (pyNext it) (λr z1=>match r with
   |none=>R (.ok .next) z1
   |some v=>wpAny (-5) A (letOwnedTupleGo tg it v) (λ_ y2=>wpAny (-5) A (assign tg env v) (λ_ z2=>
     wpAny (-5) A (forIn ifs true λc r=>if r=true then do let ok<-isTrue c env (eval c env);pure (ForInStep.yield ok)else pure (ForInStep.yield r)) (λok z3=>
      if ok=true then wpAny (-5) A (eval elt env) (λx z4=>
       wpAny (-5) A (call (.builtin "list.append") [acc,x]) (λ_ z5=>∃m,m<n/\Iv m z5) (notedBy (-5) A env λe z'=>R (.error e) z') z4) (notedBy (-5) A env λe z'=>R (.error e) z') z3
      else∃m,m<n/\Iv m z3) (notedBy (-5) A env λe z'=>R (.error e) z') z2) (notedBy (-5) A env λe z'=>R (.error e) z') y2) (notedBy (-5) A env λe z'=>R (.error e) z') z1) (notedBy (-5) A env λe z'=>R (.error e) z') z)
  (n:Nat) (h:Iv n s):codeAny (-5) A (.compLoop (-26) 0 it acc env) R s:=by
 refine codeAny_loop rfl Iv (λn z hI=>?_) n h;show wpAny (-5) A ((compTurn (-26) 0 it acc env).onRaise (λx=>do noteFrame x env;theTreesLotGoes x)) _ _ z;refine wpAny_noted ?_;rw[compTurn_list];refine af (tK (af (dc (turn n z hI) (λr z1 q1=>?_) λ_ _ q=>q)));cases r with
 |none=>exact ao q1
 |some v=>
  refine af (dc q1 (λ_ z2 q3=>af (dc q3 (λ_ z3 q4=>af (dc q4 (λok z4 q5=>?_) λ_ _ q=>q)) λ_ _ q=>q)) λ_ _ q=>q);cases ok with
  |false=>exact ao ⟨rfl,q5⟩
  |true=>exact af (af (dc q5 (λx z5 q6=>af (dc q6 (λ_ z6 q7=>ao (ao ⟨rfl,q7⟩)) λ_ _ q=>q)) λ_ _ q=>q))
end
structure uV(X:Cx)(scope:Scope)(x:Str)(more fs:Aah)(fr:List Nat):Prop where
 one:pG X scope x fs fr
 Mz:(x::more++fs).Nodup
def uZ(wi:TI)(k:Nat)(fr:List Nat)(g:TG)(tt:TT)(te:TE):TE:=λZ H Q=>wi Z H λJ H1=>∃W:Nat->Nat->Aao->Hp->Prop,(∃m,W 0 m [] H1)/\∀i m ys H2,W i m ys H2->
 (J.stop i H2/\ys.length<=sizeLine/\∀l,H2 l=none->Q (.ref l) (upd H2 l (-38)))\/
 (J.go i H2/\ys.length<sizeLine/\∀v H3,J.xt i H2 v H3->∀own:St,own.length=k->g v (own++slotsOf fr Z) H3 λσ4 H4=>∃Jw,σ4=Jw++slotsOf fr Z/\Jw.length=k/\tt σ4 H4 λb H5=>
  if b=true then te σ4 H5 (λy H6=>∃m',m'<m/\W (i+1) m' (ys++[y]) H6)else∃m',m'<m/\W (i+1) m' ys H5)
section
variable{X:Cx}
def JB(N2:Aah)(h:(d8 X N1 scope C s H ex).Ok):(d8 X N2 scope C s H ex).Ok:=
 {h.mod,h.kind,h.glob,h.blt,h.above,h.inj,h.has,h.Nm,h.hd,h.frames,h.PH,h.RO,h.bs,h.Dd,h.FW,h.DR,h.rR,h.Hj}
def R5(S:uV X scope x more fs fr)(I3:Inv X pins Z H s)
  (ok:(d8 X (x::fs) scope s.heap.objs.size s H ex).Ok) (hn:h4.Ns s.heap.objs.size m) (old:∀b o,s.heap.get? b=some o->h4.get? b=some o):
  Inv (d8 X (x::more++fs) scope s.heap.objs.size s H ex) [] (List.replicate (more.length+1) none++slotsOf fr Z) H {s with heap:=h4,toks:=t}:=by
 have J:=UU (t:=t) S.one I3 ok hn old;refine{JB _ J.ok,J.os,J.bare,J.base,?_,J.cell,J.free,J.oA,J.pin,J.br,?_}
 ·obtain⟨m1,A9,hl⟩:=J.loc;refine{m1,A9,λi y v e1 e2 e3=>?_};by_cases hi:i<more.length+1
  ·have e2:(List.replicate (more.length+1) (none:Aap)++slotsOf fr Z)[i]?=some (some v):=e2;rw[dO (by rw[hJ];exact hi),v8,aC hi]at e2;cases e2
  ·obtain⟨j,rfl⟩:∃j,i=more.length+1+j:={i -(more.length+1),by lia};have e2:(List.replicate (more.length+1) (none:Aap)++slotsOf fr Z)[more.length+1+j]?=some (some v):=e2;have e1:((x::more)++fs)[more.length+1+j]?=some y:=e1;rw[dE (by rw[hJ];lia),hJ,v3]at e2;rw[dE (by rw[bx];lia),bx,v3]at e1;exact hl (j+1) y v (by simpa using e1) (by simpa using e2) e3
 ·show(List.replicate (more.length+1) none++slotsOf fr Z).length=((x::more)++fs).length;have h1:=S.one.len;simp[slotsOf,h1];lia
def Hq{elt iter tg:Expr}{x:Str}{more:Aah}{g:TG}{ifs:List Expr}{scope:Scope}{pos:Pos}{wi:TI}{fs:Aah}{fr:List Nat}{tt:TT}{te:TE}{use:Option (Value->Sem Unit)}{R:Aae}{pins:Aac}{s:Shared}{Z:St}{H:Hp}{Q:VK}{Jg:Pos}(hc:X.calm=true)(ST:uV X scope x more fs fr)(hi:PI X tg iter wi)(hg:∀C s H ex,PG (-20) tg g)
  (ht:∀C s H ex,CT (-20) ifs tt) (he:∀C s H ex,PE (-20) elt te) (hs:∀z,foldedSetIterable iter X.env z=pure z)
  (I:Inv X pins Z H s) (h:uZ wi (more.length+1) fr g tt te Z H Q)
  (aen:∀(D C:Addr)(s':Shared)(H':Hp)(ys:Aao)(vs:Aag)(k:Nat)(m:Aad),Inv X pins Z H' s'->D<C->X.aab.heap.objs.size<=D->X.env.locals<D->(∀y c,X.env.cells.lookup y=some c->c<D)->(∀p∈X.pn++pins,p.1<D)->
   s'.heap.get? D=some (lobj vs k)->H' D=none->H' C=none->s'.heap.Ns C m->Vals ys vs->ys.length<=sizeLine->(∀l,H' l=none->Q (.ref l) (upd H' l (-38)))->compPost (-6) X.A X.xe use R (.ref D) C (.ok .next) s'):
  wpAny (-6) X.A (comprehension (-26) scope X.env Jg (newList []) false (eval iter X.env) use) R X.xe s:=by
 have S:=ST.one;refine wpAny_comprehension_free (use:=use) rfl hs (Fu λn hn=>I.ok.has n (.inl (S.free n hn).1)) S.kind S.names ?_;refine iT (hi pins s Z H _ I h) λv s1 h1=>iT h1 λitv s2 h2=>?_;obtain⟨it,fp,tn,J,H2,e,I2,T,pX,f2,W,⟨m0,w0⟩,turn⟩:=h2;subst e;have bJ:∀b∈fp,b<s2.heap.objs.size:=λb hb=>by obtain⟨o,e,_⟩:=T.obj 0 _ pX b hb;exact aI e
 refine cx (wpAny_newFunctionEnv S.Qv (by intro y hy;simp at hy) (λh4 Uo Uh=>?_) S.kind);dsimp only at Uo Uh⊢;generalize hH3:s2.heap.push {cls:=.type "list",dict:=none,data:=.seq ([]:Aag).toArray}=g3 at Uo Uh⊢;have hC:g3.objs.size=s2.heap.objs.size+1:=by rw[<-hH3,cB]
 have FU:∀b o,s2.heap.get? b=some o->g3.get? b=some o:=λb o e=>hH3▸aq _ e;have I3:Inv X pins Z H2 {s2 with heap:=g3}:=I2.kept (t':=s2.toks) FU;have aex:g3.get? s2.heap.objs.size=some (lobj [] 0):=hH3▸aF _ rfl;have Tx:∀b o,g3.get? b=some o->h4.get? b=some o:=λb o e=>Uh.extBut b o (aL (aI e)) (aq _ e);have ok1:=YU (s:={s2 with heap:=g3}) (D:=s2.heap.objs.size) (fp:=fp) S I2 I3 rfl hC bJ f2;have ok:=JB (x::more++fs) ok1;have I4:=R5 (t:=s2.toks+([]:List (Str×Value)).length) ST I3 ok1 Uo Tx;have W2:=ok.RO s2.heap.objs.size aA;have dnf:=ok.DR s2.heap.objs.size aA;have UB:∀{H':Hp}{vs:Aag}{k:Nat},(∀b∈fp,H' b=none)->∀b∈fp,pV (-7) [(s2.heap.objs.size,lobj vs k)] H' b:=λ{H' vs k} hn b hb=>by
  have q:=ok.RO b (aB _ hb);refine{hn b hb,q.1,ok.DR b (aB _ hb),.inl (aB _ hb),q.2,λp hp=>?_};have e:p=(s2.heap.objs.size,lobj vs k):=by simpa using hp
  rw[e];exact bA (bJ b hb)
 have start:Inv (-7) [(s2.heap.objs.size,lobj [] 0)] (List.replicate (more.length+1) none++slotsOf fr Z) H2 {s2 with heap:=h4,toks:=s2.toks+([]:List (Str×Value)).length}:=
  I4.xH λp hp=>by
   have e:p=(s2.heap.objs.size,lobj [] 0):=by simpa using hp
   subst e;exact{Tx _ _ aex,I2.br.fresh (ar _),W2.1,dnf,λv z=>by cases z}
 have stn:tn 0 h4:=T.keep 0 _ _ pX λb _ o e=>Tx b o (FU b o e);have fin:∀{i:Nat}{σ0:St}{H':Hp}{ys:Aao}{vs:Aag}{k:Nat}{s':Shared},Inv (-7) [(s2.heap.objs.size,lobj vs k)] (σ0++slotsOf fr Z) H' s'->Vals ys vs->ys.length<=sizeLine->
   (∀l,H' l=none->Q (.ref l) (upd H' l (-38)))->compPost (-6) X.A X.xe use R (.ref s2.heap.objs.size) g3.objs.size (.ok .next) s':=by
  intro i σ0 H' ys vs k s' J1 rv hz q;obtain⟨m,hn,_⟩:=id J1.loc;have below:∀y c,X.env.cells.lookup y=some c->c<s2.heap.objs.size:=λy c z=>by obtain⟨v,q⟩:=I2.cell y c z;exact q.lt
  have sN:∀p∈X.pn++pins,p.1<s2.heap.objs.size:=λp hp=>aI (I2.pin p hp).1;have I5:Inv X pins Z H' s':=I3.acQ (ch:=s2.heap.objs.size::fp) J1.os J1.base J1.br J1.bare λb hb=>by
   rcases aG.mp hb with e|hb
   ·rw[e];exact{.inr I2.sz,bA I2.lt,λy c z=>aL (below y c z),λp hp=>aL (sN p hp)}
   ·exact{(f2 b hb).2.2.2.1,(f2 b hb).2.1,(f2 b hb).2.2.2.2.1,(f2 b hb).2.2.2.2.2}
  have u4:s2.heap.objs.size<g3.objs.size:=by(first|lia|omega)
  obtain⟨eD,nD,_⟩:=J1.pin (s2.heap.objs.size,lobj vs k) (-9);exact aen _ _ s' H' ys vs k m I5 u4 I2.sz I2.lt below sN eD nD J1.free hn rv hz q
 have loop:∀s4:Shared,s4={s2 with heap:=h4,toks:=s2.toks+([]:List (Str×Value)).length}->
   codeAny (-6) X.A (.compLoop (-26) 0 (.ref it) (.ref s2.heap.objs.size) (compEnvC scope (DV scope X.env) g3.objs.size X.env))
    (compPost (-6) X.A X.xe use R (.ref s2.heap.objs.size) g3.objs.size) s4:=by
  rintro s4 rfl;refine Pa (λn s'=>∃i σ0 H' ys vs k,σ0.length=more.length+1/\Inv (-7) [(s2.heap.objs.size,lobj vs k)] (σ0++slotsOf fr Z) H' s'/\tn i s'.heap/\(∀b∈fp,H' b=none)/\Vals ys vs/\W i n ys H') ?_ m0
   {0,List.replicate (more.length+1) none,H2,[],[],0,hJ,start,stn,λb hb=>(f2 b hb).1,.nil,w0}
  rintro n s' ⟨i,σ0,H',ys,vs,k,h0,J1,st,fr1,rv,w1⟩;rcases turn i n ys H' w1 with⟨stop,hz,q⟩|⟨go,hz,step⟩
  ·refine iT (T.done (-7) rfl rfl rfl hc i _ s' _ H' _ J1 (UB fr1) st stop) λr s5 adV=>?_;obtain⟨hr,J2⟩:=adV;subst hr;exact fin (i:=i) J2 rv hz q
  ·refine iT (T.item (-7) rfl rfl rfl hc i _ s' _ H' _ J1 (UB fr1) st go) λr s5 adU=>?_;obtain⟨u,hr,h5⟩:=adU;subst hr;refine iT h5 λ_ s6 adT=>?_;obtain⟨v,H6,J6,r6,y6,mi,fr6⟩:=adT;have J6':=J6.pinned (fp:=fp) (UB fr6) (T.obj _ _ mi);refine dc (hg _ _ _ _ _ s6 _ H6 v u _ J6' r6 (step v H6 y6 σ0 h0)) (λ_ s7 adS=>?_) (λ_ _ z=>z.elim);obtain⟨σ7,H7,J7,own,e7,l7,q7⟩:=adS;subst e7;have pfp:∀{σ8:St}{H8:Hp}{s8:Shared},Inv (-7) ([(s2.heap.objs.size,lobj vs k)]++AM fp s6.heap) σ8 H8 s8->
     tn (i+1) s8.heap/\∀b∈fp,H8 b=none:=λ{σ8 H8 s8} J8=>by
    refine{T.keep _ _ _ mi λb hb o e=>(J8.pin (b,o) (cc _ (cc _ (uI hb e)))).1,λb hb=>?_};obtain⟨o,e,d⟩:=T.obj _ _ mi b hb;exact(J8.pin (b,o) (cc _ (cc _ (uI hb e)))).2.1
   refine dc (ht _ _ _ _ _ s7 _ H7 _ J7 q7) (λok8 s8 adR=>?_) (λ_ _ z=>z.elim);obtain⟨H8,J8,q8⟩:=adR;cases ok8 with
   |false=>
    rw[az aW]at q8;rw[az aW];obtain⟨m',hm,w8⟩:=q8;obtain⟨t8,n8⟩:=pfp J8;exact{m',hm,i+1,own,H8,ys,vs,k,l7,J8.yC,t8,n8,rv,w8}
   |true=>
    rw[aC rfl]at q8;rw[aC rfl];refine dc (he _ _ _ _ _ s8 _ H8 _ J8 q8) (λy s9 adQ=>?_) (λ_ _ z=>z.elim);obtain⟨yv,H9,J9,r9,m',hm,w9⟩:=adQ;obtain⟨t9,n9⟩:=pfp J9;obtain⟨eD,nD,_⟩:=J9.pin (s2.heap.objs.size,lobj vs k) (-9);have hl:=rv.length;refine uJ BN ⟨_,eD,rfl⟩ Al (zC _ _) (Co s2.heap.objs.size vs.toArray k y (by rw[aQ];(first|lia|omega))) {eD,?_};have eN:=PySem.IsL.update (h:=s9.heap) (l:=s2.heap.objs.size) (items:=vs.toArray) (n:=k) eD (·.push y);have eV:vs.toArray.push y=(vs++[y]).toArray:=by simp
    rw[eV]at eN;obtain⟨k',eN⟩:∃k',(s9.heap.update s2.heap.objs.size (Obj.mapSeq (·.push y))).get? s2.heap.objs.size=some (lobj (vs++[y]) k'):=⟨_,eN⟩;have K9:Inv (-7) [] (own++slotsOf fr Z) H9 s9:=J9.xH λp hp=>absurd hp (-9);have W9:Inv (-7) [] (own++slotsOf fr Z) H9 {s9 with heap:=s9.heap.update s2.heap.objs.size (Obj.mapSeq (·.push y))}:=
     K9.turned (t':=s9.toks) (it:=s2.heap.objs.size) (λb o hb e=>(bN s9.heap (Obj.mapSeq (·.push y)) (cb hb)).trans e) nD W2.1 (.inl aA) W2.2 (λp hp=>absurd hp (-9))
    refine{m',hm,i+1,own,H9,ys++[yv],vs++[y],k',l7,W9.xH λp hp=>?_,T.keep _ _ _ t9 λb hb o e=>(bN s9.heap (Obj.mapSeq (·.push y)) (bA (bJ b hb))).trans e,n9,rv.append (.cons r9 .nil),w9};have e:p=(s2.heap.objs.size,lobj (vs++[y]) k'):=ay.mp hp;rw[e];exact{eN,nD,W2.1,dnf,λv z=>by cases z}
 exact codeAny_compStart_list (loop _ rfl) (T.self X.A 0 _ _ _ stn (loop _ rfl))
def GO(hc:X.calm=true)(ST:uV X scope x more fs fr)(hi:PI X tg iter wi)(hg:∀C s H ex,PG (-20) tg g)
  (ht:∀C s H ex,CT (-20) ifs tt) (he:∀C s H ex,PE (-20) elt te) (hs:∀z,foldedSetIterable iter X.env z=pure z:=by intro _;rfl):
  PE X (-26) (uZ wi (more.length+1) fr g tt te):=by
 intro pins s Z H Q I h;rw[eval_ListComp];refine Hq hc ST hi hg ht he hs I h ?_;intro D C s' H' ys vs k m I5 u4 lo lt below sN eD nD nC hn rv hz q;refine{m,hn,λh' sb=>?_};have I6:Inv X pins Z H' {s' with heap:=h'}:=I5.turned (t':=s'.toks) (it:=C) (λb o hb e=>sb.extBut b o hb e) nC (bA (fE lt u4)) (.inr (bu (eJ lo u4))) (λy c z=>aL (fE (below y c z) u4)) (λp hp=>aL (fE (sN p hp) u4));have eD':h'.get? D=some (lobj vs k):=sb.extBut _ _ (aL u4) eD;exact{.ref D,_,I6.adopt nD eD' rv hz lo (bA lt) (λy c z=>aL (below y c z)) (λp hp=>aL (sN p hp)),rfl,q _ nD}
def Jc{elt iter tg:Expr}{x y:Str}{py yG:Pos}{j:Nat}{more:Aah}{g:TG}{ifs:List Expr}{scope:Scope}{pos:Pos}{wi:TI}{fs:Aah}{fr:List Nat}{tt:TT}{te:TE}(hN:X.N.Nodup)(hj:X.N[j]?=some y)(hy:X.env.scope.names.lookup y=some .local)(hc:X.calm=true)(ST:uV X scope x more fs fr)(hi:PI X tg iter wi)(hg:∀C s H ex,PG (-20) tg g)
  (ht:∀C s H ex,CT (-20) ifs tt) (he:∀C s H ex,PE (-20) elt te) (hs:∀z,foldedSetIterable iter X.env z=pure z:=by intro _;rfl)
  (Kc:swapsWith (-26) (some (.Name y py)) yG.line X.env=pure true:=by rfl):PS X (.Assign [.Name y py] (-26) yG) (HL j (uZ wi (more.length+1) fr g tt te)):=by
 intro pins s Z H D I h;obtain⟨Q,eQ⟩:∃Q:VK,Q=λv H1=>D.nx (Z.set j (some v)) H1:=⟨_,rfl⟩;have h:uZ wi (more.length+1) fr g tt te Z H Q:=by rw[eQ];exact h
 have S:=ST.one;rw[exec_Assign_Name_used _ _ _ _ Kc];refine af (tK (af ?_));show wpAny _ _ (comprehension (-26) scope X.env _ (newList []) false (eval iter X.env) (some (assign (.Name y py) X.env))>>=λ_=>pure ()) _ _ s;refine af (dc (Hq (Q:=Q) (R:=λ_ s'=>SP X pins D .next s') hc ST hi hg ht he hs I h ?_) (λ_ s' hq=>ao (ao hq)) λ_ _ e=>e);intro D1 C s' H' ys vs k m I5 u4 lo lt below sN eD nD nC hn rv hz q;have I7:=I5.adopt nD eD rv hz lo (bA lt) (λy c z=>aL (below y c z)) (λp hp=>aL (sN p hp));refine Ce (Gv (v:=.ref D1) I7 hN hj (.inl hy) rfl (λs3 I8 wx=>?_) (.inr hy));obtain⟨a,sb,ha⟩:=wx;refine{m,hn.sameBut sb ?_,λh' qy=>?_}
 ·rcases ha with e|e
  ·rw[e];exact bA (fE lt u4)
  ·exact bA (fE (below _ _ e) u4)
 ·have nC2:upd H' D1 (-38) C=none:=by rw[aE (bA u4)];exact nC
  have I9:Inv X pins (Z.set j (some (.ref D1))) (upd H' D1 (-38)) {s3 with heap:=h'}:=I8.turned (t':=s3.toks) (it:=C) (λb o hb e=>qy.extBut b o hb e) nC2 (bA (fE lt u4)) (.inr (bu (eJ lo u4)))
   (λy c z=>aL (fE (below y c z) u4)) (λp hp=>aL (fE (sN p hp) u4))
  have q':=q _ nD;rw[eQ]at q';exact⟨_,_,I9,q'⟩
def Gu(wi:TI)(fr:List Nat)(tt:TT)(te:TE):uA wi fr tt te=uZ wi 1 fr (sC 0) tt te:=by
 funext Z H Q;unfold uA uZ;congr 1;funext J H1;refine propext (exists_congr λW=>qV λ_=>?_);refine fB λi=>fB λm=>fB λys=>fB λH2=>fB λ_=>?_;refine or_congr Ca (qV λ_=>qV λ_=>fB λv=>fB λH3=>fB λ_=>?_);constructor
 ·intro h own ho
  match own,ho with
  |[o],_=>exact{[some v],rfl,rfl,h}
 ·intro h;obtain⟨o4,e,l,q⟩:=h [none] rfl;exact q
def Jo(hc:X.calm=true)(S:pG X scope x fs fr)(hi:PI X (.Name x px) iter wi)
  (ht:∀C s H ex,CT (-37) ifs tt) (he:∀C s H ex,PE (-37) elt te) (hs:∀z,foldedSetIterable iter X.env z=pure z:=by intro _;rfl):
  PE X (.ListComp elt [{.Name x px,iter,ifs,0}] scope pos) (uA wi fr tt te):=by
 rw[Gu];exact GO (more:=[]) hc {S,S.nd} hi (λC s H ex=>ot (i:=0) S.nd rfl (Or.inl (jK S.loc)) (.inr (jK S.loc))) ht he hs
def g8(hc:X.calm=true)(S:pG X scope x fs fr)(hi:PI X (.Name x px) iter wi)
  (he:∀C s H ex,PE (-37) elt te) (hs:∀z,foldedSetIterable iter X.env z=pure z:=by intro _;rfl):
  PE X (.ListComp elt [{.Name x px,iter,[],0}] scope pos) (uA wi fr BV te):=Jo hc S hi (λ_ _ _ _=>KJ) he hs
def qb(hc:X.calm=true)(S:pG X scope x fs fr)(hi:PI X (.Name x px) iter wi)
  (ht:∀C s H ex,PT (-37) c tc) (he:∀C s H ex,PE (-37) elt te) (hs:∀z,foldedSetIterable iter X.env z=pure z:=by intro _;rfl):
  PE X (.ListComp elt [{.Name x px,iter,[c],0}] scope pos) (uA wi fr tc te):=Jo hc S hi (λC s H ex=>R4 (ht C s H ex)) he hs
def CL(hN:X.N.Nodup)(hj:X.N[j]?=some y)(hy:X.env.scope.names.lookup y=some .local)
  (hc:X.calm=true) (S:pG X scope x fs fr) (hi:PI X (.Name x px) iter wi)
  (ht:∀C s H ex,CT (-37) ifs tt) (he:∀C s H ex,PE (-37) elt te) (hs:∀z,foldedSetIterable iter X.env z=pure z:=by intro _;rfl)
  (Kc:swapsWith (.ListComp elt [{.Name x px,iter,ifs,0}] scope pos) (some (.Name y py)) yG.line X.env=pure true:=by rfl):
  PS X (.Assign [.Name y py] (.ListComp elt [{.Name x px,iter,ifs,0}] scope pos) yG) (HL j (uA wi fr tt te)):=by
 rw[Gu];exact Jc (more:=[]) hN hj hy hc {S,S.nd} hi (λC s H ex=>ot (i:=0) S.nd rfl (Or.inl (jK S.loc)) (.inr (jK S.loc))) ht he hs Kc
def N0{elt iter:Expr}{x y:Str}{px py yG:Pos}{scope:Scope}{pos:Pos}{wi:TI}{fs:Aah}{fr:List Nat}{te:TE}{j:Nat}(hN:X.N.Nodup)(hj:X.N[j]?=some y)(hy:X.env.scope.names.lookup y=some .local)
  (hc:X.calm=true) (S:pG X scope x fs fr) (hi:PI X (.Name x px) iter wi)
  (he:∀C s H ex,PE (-37) elt te) (hs:∀z,foldedSetIterable iter X.env z=pure z:=by intro _;rfl)
  (Kc:swapsWith (.ListComp elt [{.Name x px,iter,[],0}] scope pos) (some (.Name y py)) yG.line X.env=pure true:=by rfl):
  PS X (.Assign [.Name y py] (.ListComp elt [{.Name x px,iter,[],0}] scope pos) yG) (HL j (uA wi fr BV te)):=CL hN hj hy hc S hi (λ_ _ _ _=>KJ) he hs Kc
def Jb(hN:X.N.Nodup)(hj:X.N[j]?=some y)(hy:X.env.scope.names.lookup y=some .local)
  (hc:X.calm=true) (S:pG X scope x fs fr) (hi:PI X (.Name x px) iter wi)
  (ht:∀C s H ex,PT (-37) c tc) (he:∀C s H ex,PE (-37) elt te) (hs:∀z,foldedSetIterable iter X.env z=pure z:=by intro _;rfl)
  (Kc:swapsWith (.ListComp elt [{.Name x px,iter,[c],0}] scope pos) (some (.Name y py)) yG.line X.env=pure true:=by rfl):
  PS X (.Assign [.Name y py] (.ListComp elt [{.Name x px,iter,[c],0}] scope pos) yG) (HL j (uA wi fr tc te)):=CL hN hj hy hc S hi (λC s H ex=>R4 (ht C s H ex)) he hs Kc
def Ts(hc:X.calm=true)(S:uV X scope x more fs fr)(hi:PI X tg iter wi)(hg:∀C s H ex,PG (-20) tg g)
  (he:∀C s H ex,PE (-20) elt te) (hs:∀z,foldedSetIterable iter X.env z=pure z:=by intro _;rfl):
  PE X (.ListComp elt [{tg,iter,[],0}] scope pos) (uZ wi (more.length+1) fr g BV te):=GO hc S hi hg (λ_ _ _ _=>KJ) he hs
def Pb(h:O9 X.env.scope X.N scope x fs fr=true:=by kernel_rfl)(h2:decide (x::more++fs).Nodup=true:=by kernel_rfl):uV X scope x more fs fr:={cU h,bj h2}
def X1{K:Frag}(hc:X.calm=true)(h:Hy X es t)(hK:X.K=K:=by rfl)
  (hn:(assignEach es X.env).length=n:=by rfl) (ic:(assignEach es X.env).findIdx? (·.1)=none:=by rfl):PG X (.Tuple es k pos) (UA K n t):=hK▸iY hc h hn ic
def Ji(hN:decide X.N.Nodup=true:=by kernel_rfl)(hi:X.N[i]?=some x:=by rfl)(hl:X.env.scope.names.lookup x=some .local:=by first|rfl|exact jK rfl):PG X (.Name x pos) (sC i):=
 ot (bj hN) hi (.inl hl) (.inr hl)
variable{K:Frag}{fr:List Nat}{tt:TT}{te:TE}{Z:St}{H1:Hp}{R:Addr->Aao->Hp->Prop}
abbrev WR(K:Frag):TG:=UA K 2 (OR (sC 0) (OR (sC 1) abt))
abbrev Sl(J:It)(k:Nat)(fr:List Nat)(g:TG)(tt:TT)(te:TE)(Z:St)(H1:Hp)(R:Addr->Aao->Hp->Prop):Prop:=
 ∃W:Nat->Nat->Aao->Hp->Prop,(∃m,W 0 m [] H1)/\∀i m ys H2,W i m ys H2->
 (J.stop i H2/\ys.length<=sizeLine/\∀l,H2 l=none->R l ys H2)\/
 (J.go i H2/\ys.length<sizeLine/\∀v H3,J.xt i H2 v H3->∀own:St,own.length=k->g v (own++slotsOf fr Z) H3 λσ4 H4=>∃Jw,σ4=Jw++slotsOf fr Z/\Jw.length=k/\tt σ4 H4 λb H5=>
  if b=true then te σ4 H5 (λy H6=>∃m',m'<m/\W (i+1) m' (ys++[y]) H6)else∃m',m'<m/\W (i+1) m' ys H5)
def X7{v a b:V}{own rest:St}(ho:own.length=2)(ev:v=.ref p)(hp:bF K H p [a,b])(h:Q (some a::some b::rest) H):WR K v (own++rest) H Q:=by
 match own,ho with
 |[o1,o2],_=>exact⟨p,_,ev,hp,rfl,_,_,rfl,_,_,rfl,rfl,h⟩
def sQ(a b:Str):Bool:=!decide (b.cps.toList<a.cps.toList)
def B3(a b:Str):sQ a b=true↔a.cps.toList<=b.cps.toList:=by unfold sQ;rw[Cy,vY];exact Ca
def GY(a b c:Str)(h1:sQ a b=true)(h2:sQ b c=true):sQ a c=true:=by rw[B3]at*;exact List.le_trans h1 h2
def T2{a b:Str}(h1:sQ a b=true)(h2:sQ b a=true):a=b:=by rw[B3]at*;exact ext_toList (List.le_antisymm h1 h2)
def QO(a b:Str):(sQ a b||sQ b a)=true:=by
 rcases List.le_total a.cps.toList b.cps.toList with h|h
 ·rw[(B3 a b).mpr h,Bool.true_or]
 ·rw[(B3 b a).mpr h,Bool.or_true]
def iV(zs:Aah):Aah:=zs.mergeSort sQ
def lR(zs:Aah):(iV zs).Perm zs:=Ai zs sQ
def NM(zs:Aah):(iV zs).Pairwise (λa b=>sQ a b=true):=v5 GY QO zs
theorem CK:∀(r:Aah)(p:Str),risingS p r=true->(p::r).Pairwise (λa b=>sQ a b=true)
 |[],p,_=>by simp
 |x::r,p,h=>by
  have h':(!ltCps x.cps.toList p.cps.toList&&risingS x r)=true:=h;rw[bB]at h';have ih:=CK r x h'.2;have h1:sQ p x=true:=by have:=h'.1;rw[ltCps_eq]at this;exact this
  refine kJ.mpr {λy hy=>?_,ih};rcases aG.mp hy with rfl|hy
  ·exact h1
  ·exact GY p x y h1 (hX ih hy)
theorem Ld:∀(l:Aah),sortedS l=true->l.Pairwise (λa b=>sQ a b=true)
 |[],_=>.nil
 |x::r,h=>CK r x h
theorem Mq:∀{l m:Aah},l.Perm m->l.Pairwise (λa b=>sQ a b=true)->m.Pairwise (λa b=>sQ a b=true)->l=m
 |[],m,h,_,_=>(List.nil_perm.mp h).symm
 |a::l,[],h,_,_=>absurd h.length_eq (-9)
 |a::l,b::m,h,h1,h2=>by
  have e:a=b:=by
   rcases aG.mp (h.mem_iff.mp (aA (a:=a) (l:=l)))with e|e
   ·exact e
   ·rcases aG.mp (h.mem_iff.mpr (aA (a:=b) (l:=m)))with q|q
    ·exact q.symm
    ·exact T2 (hX h1 q) (hX h2 e)
  subst e;rw[Mq (List.perm_cons a|>.mp h) (kJ.mp h1).2 (kJ.mp h2).2]
def SV{l zs:Aah}(h:l.Perm zs)(hs:sortedS l=true):l=iV zs:=Mq (h.trans (lR zs).symm) (Ld l hs) (NM zs)
theorem Iu:∀{zs:Aah}{us:Aag},StrsAre us zs->Vals (zs.map V.str) us
 |_,_,.nil=>.nil
 |_,_,.cons y t h=>.cons ⟨t,rfl⟩ (Iu h)
def VZ(hl:(apos.endLine==fC.line)=true:=by rfl)(hb:attributeBase (.Name d pd) "get" X.env (eval (.Name d pd) X.env)=eval (.Name d pd) X.env:=by rfl):M2 X (.Name d pd) "get" apos (.Name x px) (.Name y py) fC:=⟨hb,rfl,hl,rfl⟩
end
end L2
namespace L2
open PySem PySem.Spec PyProof.Rows PySem.W Builtin Builtin.ObjectAttr
noncomputable def RP:Aag->Bool
 | .ref _::r=>RP r
 |l=>l==[.type "ValueError",.type "Exception",.type "BaseException",.type "object"]
structure aeT(K:Frag)(C:Addr):Prop where
 ga:findIn K (.ref C) "__getattribute__"=some (some (.builtin "BaseException.__getattribute__"))
 gt:findIn K (.ref C) "__getattr__"=some none
 sa:findIn K (.ref C) "__setattr__"=some (some (.builtin "object.__setattr__"))
 be:mroIn K C (.type "BaseException")=some true
 ob:mroIn K C (.type "object")=some true
 hd:hasDictIn K C=true
 tl:(clsIn K C).any (λcd=>RP cd.mro)=true
 cl:findIn K (.ref C) "__class__"=some (some (.builtin "object.__class__"))
 cg:specialIn K (.builtin "object.__class__") "__get__"=some (some (.builtin "getset_descriptor.__get__"))
 ct:takesIn K (.builtin "object.__class__")=some true
end L2
namespace L2
open PySem PySem.Spec PyProof.Rows PySem.W
abbrev aet(C:Addr)(dd:Aak)(t:Addr)(tb:Value):Obj:={cls:=.ref C,dict:=dd,data:=.fields #[.ref t,tb,.none,.none,.bool false,.none]}
def aeA(e C:Addr)(dd:Aak):Heap->Prop:=λh=>∃t tb,h.get? e=some (aet C dd t tb)
def gone(H:Hp)(e C:Addr)(dd:Aak):Hp:=upd H e (.ext (aeA e C dd))
abbrev Cx.held(X:Cx)(q:Aac)(E:Aae):Cx:={X with pn:=q,xe:=E}
section
variable{X:Cx}{K:Frag}
def Aa(h:X.K=K:=by rfl):jv X (.type "list") (λxs H Q=>∃p ys,xs=[.ref p]/\(bo K H p ys\/bF K H p ys)/\∀l,H l=none->Q (.ref l) (upd H l (-38))):=h▸vI
def Jp{T id:String}(pa:PlainAttrs T)(slot:Slot T name id)(hty:typeOf (.builtin id)=pure (.type "method_descriptor"))(hm:Sh X id r)(ho:PE X o to)(ha:PA X (e::es) t)
  (E9:attributeBase o name X.env (eval o X.env)=eval o X.env:=by rfl)
  (Uu:((backTo fC (starEach (e::es) X.env)).all (λx=>!x.1)&&(backToKw fC (keywordEach [] X.env)).all (λx=>x.1.isSome)&&decide ((e::es).length+([]:List Keyword).length+(if([]:List Keyword).isEmpty then 0 else 1)<30))=true:=by rfl)
  (E4:(apos.endLine==fC.line)=true:=by rfl) (hs:starEach (e::es) X.env=(false,eval e X.env)::starEach es X.env:=by rfl) (Kf:(backTo fC (starEach es X.env)).any (·.1)=false:=by rfl) (h:X.K=K:=by rfl):
  PE X (.Call (.Attribute o name apos) (e::es) [] fC) (tBM K T r to t):=h▸ox pa slot hty hm ho ha E9 Uu E4 hs Kf
end
end L2
namespace L2
open PySem PySem.Spec PyProof.Rows
section
variable{P:Program}{w:World}{A:Around}{E:Aae}{v:Shared}
structure Zt(h:Heap)(z ti to i1 i2 l1 l2:Addr)(f:Value)(k:Nat):Prop where
 self:IsZip h z ti to f
 ins:IsPair h ti (.ref i1) (.ref i2)
 outs:∃a b,IsPair h to a b
 w1:h.IsTupleIter i1 l1 k
 w2:h.IsTupleIter i2 l2 k
structure Se(z ti to i1 i2 l1 l2:Addr):Prop where
 EK:ti≠to
 Mu:i1≠i2
 nl1:l1≠to
 nl2:l2≠to
def cS{h:Heap}(e:h.get? a=some o)(e':h.get? b=some o')(c:o.cls=.type m)(c':o'.cls=.type n)(d:m≠n):a≠b:=λg=>by rw[g,e']at e;cases e;rw[c]at c';cases c';exact d rfl
def Zt.ne(g:Zt h z ti to i1 i2 l1 l2 f k):(ti≠z/\to≠z/\i1≠z/\i2≠z)/\(ti≠i1/\ti≠i2/\to≠i1/\to≠i2):=by
 obtain⟨gs,gi,⟨a,b,go⟩,⟨o1,q1,c1,_⟩,⟨o2,q2,c2,_⟩⟩:=g;exact{{cS gi gs rfl rfl (-8),cS go gs rfl rfl (-8),cS q1 gs c1 rfl (-8),cS q2 gs c2 rfl (-8)},
  cS gi q1 rfl c1 (-8),cS gi q2 rfl c2 (-8),cS go q1 rfl c1 (-8),cS go q2 rfl c2 (-8)}
def tup_ne(g:Zt h z ti to i1 i2 l1 l2 f k)(t:h.IsTuple l xs):l≠z/\l≠i1/\l≠i2:=by obtain⟨gs,_,_,⟨o1,q1,c1,_⟩,⟨o2,q2,c2,_⟩⟩:=g;obtain⟨o,q,c,_⟩:=t;exact{cS q gs c rfl (-8),cS q q1 c c1 (-8),cS q q2 c c2 (-8)}
def jq(g:h.IsTupleIter j p k)(s:Heap.SameBut b h h')(n:j≠b):h'.IsTupleIter j p k:=by obtain⟨o,q,r⟩:=g;exact{o,s.extBut _ _ n q,r}
def om(g:h.IsTuple l xs)(s:Heap.SameBut b h h')(n:l≠b):h'.IsTuple l xs:=by obtain⟨o,q,r⟩:=g;exact{o,s.extBut _ _ n q,r}
def yP(g:IsPair v.heap t a b)
  (q:∀h',h'.get? t=some {cls:=.type "tuple",data:=.seq ((#[a,b]:Aal).setIfInBounds k x)}->Heap.SameBut t v.heap h'->Q () {v with heap:=h'}):
  wpAny (-29) A (updateSeq t (·.setIfInBounds k x)) Q E v:=wpAny_updateSeq_pair g q
def Xf{Q:Aae}(d:Se z ti to i1 i2 l1 l2)(g:Zt v.heap z ti to i1 i2 l1 l2 .none k)
  (t1:v.heap.IsTuple l1 xs) (t2:v.heap.IsTuple l2 ys) (ex:xs[k]?=some x) (ey:ys[k]?=some y)
  (q:∀h',Zt h' z ti to i1 i2 l1 l2 (rawInt v.heap.objs.size) (k+1)->IsPair h' v.heap.objs.size x y->(∀c o,c≠z->c≠to->c≠i1->c≠i2->v.heap.get? c=some o->h'.get? c=some o)->Q (.ref v.heap.objs.size) {v with heap:=h'}):
  wpAny (-29) A (-50) (λfin s'=>∃u,fin=.done (.ret u)/\Q u s') E v:=by
 obtain⟨⟨a1,a2,a3,a4⟩,a5,a6,a7,a8⟩:=g.ne;obtain⟨b1,b2,b3⟩:=tup_ne g t1;obtain⟨c1,c2,c3⟩:=tup_ne g t2;obtain⟨gs,gi,⟨a,b,go⟩,g1,g2⟩:=g;show wpAny _ _ (field (.ref z) 2>>=_) _ _ _;refine af (bO gs rfl (x:=.bool false) rfl ?_);show wpAny _ _ (field (.ref z) 3>>=_) _ _ _;refine af (bO gs rfl (x:=.ref ti) rfl ?_);refine af (bY gi rfl ?_);show wpAny _ _ (Builtin.SmallTypes.ownedTupleIsFree (.ref z)>>=_) _ _ _;refine af ?_;unfold Builtin.SmallTypes.ownedTupleIsFree;refine af (bO gs rfl (x:=.none) rfl (ao ?_));simp only[lD];refine af (fP ?_);refine af (bO gs rfl (x:=.ref to) rfl ?_);refine af (cu gs (-9) λp1 k1 r1=>?_)
 replace k1:IsZip p1 z ti to .ellipsis:=k1
 refine af ?_;simp only[pT,List.zipIdx_nil,mX,yu];refine af (af (mh ?_));show wpAny _ _ (Builtin.SmallTypes.nextOf (.ref i1)>>=_) _ _ _;refine af (uH (jq g1 r1 a3) (om t1 r1 b1) ex λp2 k2 r2=>ao ?_);have o2:IsPair p2 to a b:=r2.extBut _ _ a7 (r1.extBut _ _ a2 go);refine af (bY o2 rfl ?_);refine af (yP o2 λp3 o3 r3=>?_)
 replace o3:IsPair p3 to x b:=o3
 refine af (mG (ao ?_));refine af (af (mh ?_));show wpAny _ _ (Builtin.SmallTypes.nextOf (.ref i2)>>=_) _ _ _;refine af (uH (jq (jq (jq g2 r1 a4) r2 d.Mu.symm) r3 a8.symm) (om (om (om t2 r1 c1) r2 c2) r3 d.nl2) ey λp4 k4 r4=>ao ?_);have o4:IsPair p4 to x b:=r4.extBut _ _ a8 o3;refine af (bY o4 rfl ?_);refine af (yP o4 λp5 o5 r5=>?_)
 replace o5:IsPair p5 to x y:=o5
 refine af (mG (ao (ao ?_)));refine af (bY o5 rfl ?_);refine af (lq ?_);have sz:p5.objs.size=v.heap.objs.size:=by rw[r5.1,r4.1,r3.1,r2.1,r1.1]
 have z5:IsZip p5 z ti to .ellipsis:=r5.extBut _ _ a2.symm (r4.extBut _ _ a4.symm (r3.extBut _ _ a2.symm (r2.extBut _ _ a3.symm k1)));have st:∀c o,c≠z->c≠to->c≠i1->c≠i2->v.heap.get? c=some o->p5.get? c=some o:=λc o m1 m2 m3 m4 e=>
  r5.extBut _ _ m2 (r4.extBut _ _ m4 (r3.extBut _ _ m2 (r2.extBut _ _ m3 (r1.extBut _ _ m1 e))))
 have j1:p5.IsTupleIter i1 l1 (k+1):=jq (jq (jq k2 r3 a7.symm) r4 d.Mu) r5 a7.symm;have j2:p5.IsTupleIter i2 l2 (k+1):=jq k4 r5 a8.symm;have lz:z<p5.objs.size:=aI z5;show wpAny _ _ (Builtin.SmallTypes.ownedTupleHandOut (.ref z) (.ref p5.objs.size)>>=_) _ _ _;refine af ?_;unfold Builtin.SmallTypes.ownedTupleHandOut;have z6:IsZip (p5.push {cls:=.type "tuple",data:=.seq #[x,y]}) z ti to .ellipsis:=aq _ z5;refine af (cu z6 (-9) λp7 z7 r7=>?_)
 replace z7:IsZip p7 z ti to (rawInt p5.objs.size):=z7
 refine cu z7 (-9) λp8 z8 r8=>?_
 replace z8:IsZip p8 z ti to (rawInt p5.objs.size):=z8
 have up:∀c o,c≠z->p5.get? c=some o->p8.get? c=some o:=λc o m e=>r8.extBut _ _ m (r7.extBut _ _ m (aq _ e));have n8:IsPair p8 p5.objs.size x y:=r8.extBut _ _ (bA lz) (r7.extBut _ _ (bA lz) (aF _ rfl));rw[sz]at z8 n8;refine ao {_,rfl,?_};show Q (.ref p5.objs.size) _;rw[sz];obtain⟨oa,ja,ra⟩:=j1;obtain⟨ob,jb,rb⟩:=j2;refine q p8 {z8,?_,{x,y,up _ _ a2 o5},{oa,up _ _ a3 ja,ra},{ob,up _ _ a4 jb,rb}} n8 λc o m1 m2 m3 m4 e=>up c o m1 (st c o m1 m2 m3 m4 e);exact up _ _ a1 (st _ _ a1 d.EK a5 a6 gi)
def Y7{z ti to i1 i2 l1 l2:Addr}{k:Nat}{xs ys:Aal}{Q:Fin->Shared->Prop}(hh:A.handled=none)(d:Se z ti to i1 i2 l1 l2)(g:Zt v.heap z ti to i1 i2 l1 l2 .none k)
  (t1:v.heap.IsTuple l1 xs) (ex:xs[k]?=none)
  (q:∀h' e,(∀c o,c≠z->c≠to->c≠i1->c≠i2->v.heap.get? c=some o->h'.get? c=some o)->(∃o,h'.get? e=some o/\o.cls=.type "StopIteration")->E (.ref e) {v with heap:=h'}):
  wpAny (-29) A (-50) Q E v:=by
 obtain⟨⟨a1,a2,a3,a4⟩,a5,a6,a7,a8⟩:=g.ne;obtain⟨b1,b2,b3⟩:=tup_ne g t1;obtain⟨gs,gi,⟨a,b,go⟩,g1,g2⟩:=g;show wpAny _ _ (field (.ref z) 2>>=_) _ _ _;refine af (bO gs rfl (x:=.bool false) rfl ?_);show wpAny _ _ (field (.ref z) 3>>=_) _ _ _;refine af (bO gs rfl (x:=.ref ti) rfl ?_);refine af (bY gi rfl ?_);show wpAny _ _ (Builtin.SmallTypes.ownedTupleIsFree (.ref z)>>=_) _ _ _;refine af ?_;unfold Builtin.SmallTypes.ownedTupleIsFree;refine af (bO gs rfl (x:=.none) rfl (ao ?_));simp only[lD];refine af (fP ?_);refine af (bO gs rfl (x:=.ref to) rfl ?_);refine af (cu gs (-9) λp1 k1 r1=>?_)
 replace k1:IsZip p1 z ti to .ellipsis:=k1
 refine af ?_;simp only[pT,List.zipIdx_nil,mX,yu];refine af (af (mh ?_));show wpAny _ _ (Builtin.SmallTypes.nextOf (.ref i1)>>=_) _ _ _;refine af (xO hh (jq g1 r1 a3) (om t1 r1 b1) ex λp2 e r2 he=>?_);obtain⟨oe,ge,ce⟩:=he;have z2:IsZip p2 z ti to .ellipsis:=r2 _ _ a3.symm k1;have nez:e≠z:=cS ge z2 ce rfl (-8);refine cu z2 (-9) λp3 _ r3=>q p3 e (λc o m1 _ m3 _ e=>r3.extBut _ _ m1 (r2 _ _ m3 (r1.extBut _ _ m1 e))) {oe,r3.extBut _ _ nez ge,ce}
variable{X:Cx}{pins:Aac}{Z:St}{H:Hp}{s:Shared}
def Inv.freeze(I:Inv X pins Z H s)(hd:H d=some (.dK kvs))(ho:s.heap.get? d=some o):Inv X pins Z (upd H d (.c7 o (.dK kvs))) s:=by
 have nd:∀b u,H b=some u->(∀l,u≠ .dK l)->b≠d:=λb u q n z=>by rw[z,hd]at q;exact n kvs (bK q).symm
 have ie:∀b,H b=none->b≠d:=λb q z=>by rw[z,hd]at q;cases q
 refine I.un (h':=s.heap) (t':=s.toks) {λb u e _ _ _=>e,λb u e _ _ _=>{u.slots,e},λb u e n _=>by rw[aE (ie b n)];exact n,λb u e _=>⟨u,e⟩,λb xs q=>by rw[aE (nd b _ q λl z=>by cases z)];exact q,λb u v q=>by rw[aE (nd b _ q λl z=>by cases z)];exact q,λb ps q=>{#[],by rw[aE (nd b _ q λl z=>by cases z),q];simp}} λb u g=>?_;by_cases hb:b=d
 ·subst hb;rw[aw]at g;cases g;exact{ho,I.br b _ hd}
 ·rw[aE hb]at g;exact(I.br b u g).jx (λc v hc q=>q) (λc q=>by rw[aE (nd c _ q λl z=>by cases z)];exact q) λc ys q=>by rw[aE (nd c _ q λl z=>by cases z)];exact q
end
def Itd(d:Addr)(o:Obj)(kvs:List (Key×V)):It:=
 {λi H=>H d=some (.c7 o (.dK kvs))/\i<kvs.length,λi H x H'=>H'=H/\∃kv,kvs[i]?=some kv/\x=kV kv.1,λi H=>H d=some (.c7 o (.dK kvs))/\kvs.length<=i}
inductive aaY(R:It->Hp->Prop)(x:V)(H1:Hp):Prop
 |mk d kvs (_:x=.ref d) (_:H1 d=some (.dK kvs)) (_:∀o,R (Itd d o kvs) (upd H1 d (.c7 o (.dK kvs))))
def Wa(tl:TE):TI:=λZ H R=>tl Z H λx H1=>aaY R x H1
def Px{K:Frag}(rel:KV kvs vs)
  (m:o.ExactDict/\o.data=.dict es ep/\KeysOf (bH P w) es/\Pairs (bH P w) es.toList vs/\(vs.map (·.1)).Nodup):Turn P w K tg (Itd d o kvs) [it] it (λi h=>h.IsKeyIter it d i vs.length ep) where
 mem:=by simp
 obj:=λi h st b hb=>by
  have e:b=it:=by simpa using hb
  subst e;obtain⟨u,e,c,q⟩:=st;exact{u,e,λv z=>by rw[q]at z;cases z}
 keep:=λi h h' st k=>by obtain⟨u,e,r⟩:=st;exact{u,k it (-9) u e,r}
 item:=by
  intro X hP hw hK hc i pins s Z H E I hf st hg;subst hP hw hK;obtain⟨hd,hi⟩:=hg;have hl:kvs.length=vs.length:=rel.length;have ga:s.heap.get? d=some o:=(I.br d _ hd).1;have at':s.heap.DictAt (bH X.prog X.w) d vs ep:=⟨o,es,ga,m⟩;obtain⟨f0,f1,f2,f3,f4,f5⟩:=hf it (-9);obtain⟨kv,jd⟩:∃kv,kvs[i]?=some kv:={_,au hi};obtain⟨qv,hqv⟩:∃qv,vs[i]?=some qv:={_,au ∅};have ek:kv.1=qv.1:=by obtain⟨y,hy,r⟩:=Paired.at' rel jd;rw[hqv]at hy;cases hy;exact r.1
  refine wpAny_pyNext_dict_item (k:=qv.1) (v:=qv.2) st at' hqv λkey h' hk gZ sb=>?_;have I1:Inv X pins Z H {s with heap:=h'}:=I.turned (t':=s.toks) (λb o hb e=>(sb.2 b hb).trans e) f0 f1 f3 f4 f5;obtain⟨u,e,c,q⟩:=id gZ;exact{key,rfl,B6 (s:={s with heap:=h'}) e c q (-8) {kV kv.1,H,I1,rM (by rw[ek];exact hk),⟨rfl,kv,jd,rfl⟩,gZ,λb hb=>(hf b hb).1}}
 done:=by intro X hP hw hK hc i pins s Z H E I hf st hg;subst hP hw hK;obtain⟨hd,hi⟩:=hg;have hl:kvs.length=vs.length:=rel.length;have ga:s.heap.get? d=some o:=(I.br d _ hd).1;have at':s.heap.DictAt (bH X.prog X.w) d vs ep:=⟨o,es,ga,m⟩;obtain⟨f0,f1,f2,f3,f4,f5⟩:=hf it (-9);exact wpAny_pyNext_dict_end (I.ok.hd hc) st at' (hU ∅) λh' eb=>{rfl,I.turned (t':=s.toks) (λb o hb e=>eb b o hb e) f0 f1 f3 f4 f5}
 self:=λ_ _ _ _ _ st h=>qr st h
def X0(hl:PE X l tl):PI X tg l (Wa tl):=by
 intro pins s Z H R I h;refine df (hl pins s Z H _ I h) λv s1 x H1 I1 r1 q1=>?_;obtain⟨d,kvs,e,hd,q⟩:=q1;subst e;cases r1;obtain⟨hz,lo,vs,rel,o,es,ep,ga,m⟩:=oB I1.br hd;have at':s1.heap.DictAt (bH X.prog X.w) d vs ep:=⟨o,es,ga,m⟩;refine wpAny_pyIter_dict lo at' ?_;have I2:=I1.freeze hd ga;refine{s1.heap.objs.size,[s1.heap.objs.size],_,_,_,rfl,I2.kept (t':=s1.toks) λb o e=>aq _ e,Px rel m,{_,aF _ rfl,rfl,rfl},λb hb=>?_,q o};have e:b=s1.heap.objs.size:=by simpa using hb
 subst e;exact I2.qN (ar _) (I2.br.fresh (ar _))
def R6(Pv:Nat->Aao->Hp->Prop)(hx:kvs.length<sizeLine)(h0:Pv 0 [] H1)(hl:∀i ys H,i<=kvs.length->Pv i ys H->H d=some (.c7 o (.dK kvs))/\ys.length<=i)
  (hs:∀(i:Nat)(kv:Key×V)(ys:Aao)(H:Hp)(N:Aao->Hp->Prop),kvs[i]?=some kv->Pv i ys H->(∀jC H',Pv (i+1) jC H'->N jC H')->
   tt (some (kV kv.1)::slotsOf fr Z) H λb H4=>if b=true then te (some (kV kv.1)::slotsOf fr Z) H4 (λy H5=>N (ys++[y]) H5)else N ys H4)
  (hd:∀ys H,Pv kvs.length ys H->∀l,H l=none->R l ys H):zD (Itd d o kvs) fr tt te Z H1 R:=by
 refine{λi m ys H=>m=kvs.length -i/\i<=kvs.length/\Pv i ys H,{kvs.length,by simp,aP _,h0},?_};rintro i m ys H ⟨rfl,hi,p⟩;obtain⟨q,hy⟩:=hl i ys H hi p;by_cases bJ:i<kvs.length
 ·refine .inr {⟨q,bJ⟩,by lia,?_};rintro v H3 ⟨rfl,kv,jd,rfl⟩;exact hs i kv ys H3 (λjC H'=>∃m',m'<kvs.length -i/\m'=kvs.length -(i+1)/\i+1<=kvs.length/\Pv (i+1) jC H') jd p λjC H' p'=>{_,by lia,rfl,bJ,p'}
 ·have e:i=kvs.length:=by lia
  subst e;exact .inl {{q,ar _},by lia,hd ys H p}
section
variable{X:Cx}
theorem ints_of:∀{ns:List Int}{us:Aag},Vals (-67) us->IntsAre us ns
 |[],_,.nil=>.nil
 |n::ns,_,.cons ⟨t,r⟩ q=>by subst r;exact .cons _ _ (ints_of q)
def U0(hc:X.calm=true):jv X (.builtin "sum") (λxs H Q=>∃(a:Addr)(ns:List Int),xs=[.ref a]/\bo X.K H a (-67)/\Q (.int ns.sum) H):=by
 intro pins s Z H xs us Q I r h;obtain⟨a,ns,rfl,hq,q⟩:=h;obtain⟨u,rfl,ru⟩:=lO r;cases ru;obtain⟨aY,rv,pl,hz⟩:=I.list hq;have ia:=ints_of rv;obtain⟨ws,ex⟩:=ia.allInts.items;have en:ws.toList.map (·.1)=ns:=by rw[<-nums_intItems,<-ex];exact ia.numsOf
 refine sum_intListG (xs:=ws) (I.ok.hd hc) (by rw[<-ex];exact pl.isList) λh' tk t' hk=>?_;have e:preSum (numAt ws) ws.size=ns.sum:=by rw[preSum_eq,dU (-9),en]
 rw[e];exact{.int ns.sum,H,I.kept (t':=tk) hk,⟨_,rfl⟩,q}
variable{pins:Aac}{Z:St}{H:Hp}{s:Shared}{h':Heap}
def Inv.LQ{ch:Aaj}(I:Inv X pins Z H s)(k:∀b o,b∉ch->s.heap.get? b=some o->h'.get? b=some o)(fc:∀b∈ch,pV X pins H b)
  (hp:s.heap.objs.size<=p) (ht:IsTup h' p us.toArray/\∃o,h'.get? p=some o/\o.dict=none) (r:Vals xs us) (hz:xs.length<=sizeLine):Inv X pins Z (upd H p (.tup xs)) {s with heap:=h',toks:=t'}:=by
 have hn:=I.br.fresh hp;have fp:=I.qN hp hn;have nH:∀b u,H b=some u->b∉ch/\b≠p:=λb u g=>{(λz=>by rw[(fc b z).1]at g;cases g),λz=>by rw[z,hn]at g;cases g};refine I.step (g':=s.gens) (d':=s.drawn) (ch:=p::ch) (λb hb=>?_) (λb o _ _ hc g _=>k b o (λz=>hc (aB _ z)) g) (λb o _ _ hc g _=>{o.slots,k b o (λz=>hc (aB _ z)) g})
  (λb o hc g n=>by rw[aE λz=>hc (by rw[z];exact aA)];exact n) (λb o hc g=>{o,k b o (λz=>hc (aB _ z)) g})
  (λb ys g=>by rw[aE (nH b _ g).2];exact g) (λb o u g=>by rw[aE (nH b _ g).2];exact g) (λb ps g=>{#[],by rw[aE (nH b _ g).2,g];simp}) (λm hm=>?_) (λb u g=>?_) I.bare
 ·rcases aG.mp hb with rfl|z
  ·exact{fp.2.2.2.1,fp.2.1,fp.2.2.2.2.1,fp.2.2.2.2.2}
  ·have f:=fc b z;exact{f.2.2.2.1,f.2.1,f.2.2.2.2.1,f.2.2.2.2.2}
 ·obtain⟨o,es,ep,ho,r'⟩:=hm;exact{o,es,ep,k _ o (λz=>(fc _ z).2.1 rfl) ho,r'}
 ·by_cases hb:b=p
  ·subst hb;rw[aw]at g;cases g;exact⟨hz,us,r,ht⟩
  ·rw[aE hb]at g;refine(I.br b u g).jx (λc v hc q=>?_) (λc q=>?_) λc ys q=>?_
   ·rcases hc with z|z
    ·rw[z];rw[z]at q;exact k b v (nH b _ g).1 q
    ·exact k c v (nH c _ z).1 q
   ·rw[aE (nH c _ q).2];exact q
   ·rw[aE (nH c _ q).2];exact q
def Inv.LR{ch:Aaj}(I:Inv X pins Z H s)(k:∀b o,b∉ch->s.heap.get? b=some o->h'.get? b=some o)(fc:∀b∈ch,pV X pins H b):Inv X pins Z H {s with heap:=h',toks:=t'}:=by
 have nH:∀b u,H b=some u->b∉ch:=λb u g z=>by rw[(fc b z).1]at g;cases g
 refine I.step (g':=s.gens) (d':=s.drawn) (ch:=ch) (λb z=>?_) (λb o _ _ hc g _=>k b o hc g) (λb o _ _ hc g _=>{o.slots,k b o hc g}) (λ_ _ _ _ n=>n) (λb o hc g=>{o,k b o hc g})
  (λ_ _ g=>g) (λ_ _ _ g=>g) (λb ps g=>{#[],by rw[g];simp}) (λm hm=>?_) (λb u g=>?_) I.bare
 ·have f:=fc b z;exact{f.2.2.2.1,f.2.1,f.2.2.2.2.1,f.2.2.2.2.2}
 ·obtain⟨o,es,ep,ho,r'⟩:=hm;exact{o,es,ep,k _ o (λz=>(fc _ z).2.1 rfl) ho,r'}
 ·refine(I.br b u g).jx (λc v hc q=>k c v ?_ q) (λ_ q=>q) λ_ _ q=>q;rcases hc with z|z
  ·rw[z];exact nH b _ g
  ·exact nH c _ z
end
section
variable{P:Program}{w:World}{A:Around}{E:Aae}{v:Shared}
def Ly(d:Se z ti to i1 i2 l1 l2)(g:Zt v.heap z ti to i1 i2 l1 l2 .none k)
  (t1:v.heap.IsTuple l1 xs) (t2:v.heap.IsTuple l2 ys) (ex:xs[k]?=some x) (ey:ys[k]?=some y)
  (q:∀h',Zt h' z ti to i1 i2 l1 l2 (rawInt v.heap.objs.size) (k+1)->IsPair h' v.heap.objs.size x y->(∀c o,c≠z->c≠to->c≠i1->c≠i2->v.heap.get? c=some o->h'.get? c=some o)->Q (some (.ref v.heap.objs.size)) {v with heap:=h'}):
  wpAny (-29) A (pyNext (.ref z)) Q E v:=by
 have ty:v.TypeIs (.ref z) "zip":={_,g.self,rfl};unfold pyNext;exact af (dZ (wpAny_callSpecial?_slot (name:=Str.ofString "__next__") ty eM (bz eM ty j9 (Xf d g t1 t2 ex ey λh' b1 b2 b3=>ao (q h' b1 b2 b3)) (jJ _))))
def Lx(hh:A.handled=none)(d:Se z ti to i1 i2 l1 l2)(g:Zt v.heap z ti to i1 i2 l1 l2 .none k)
  (t1:v.heap.IsTuple l1 xs) (ex:xs[k]?=none)
  (q:∀h',(∀c o,c≠z->c≠to->c≠i1->c≠i2->v.heap.get? c=some o->h'.get? c=some o)->Q none {v with heap:=h'}):
  wpAny (-29) A (pyNext (.ref z)) Q E v:=by
 have ty:v.TypeIs (.ref z) "zip":={_,g.self,rfl};unfold pyNext;refine af (dZ (wpAny_callSpecial?_slot (name:=Str.ofString "__next__") ty eM (bz eM ty j9 (Y7 (ys:=#[]) hh d g t1 ex λh' e hk he=>?_) (jJ _))));obtain⟨o,ho,hc⟩:=he;exact af (f6 (T:="StopIteration") (b:=true) ⟨o,ho,hc⟩ jR (ao (q _ hk)))
abbrev Vd(h:Heap)(l1:Addr):Heap:=h.push {cls:=.type "tuple_iterator",data:=.fields #[.ref l1,.int 0 0]}
abbrev Vc(h:Heap)(l1 l2:Addr):Heap:=(Vd h l1).push {cls:=.type "tuple_iterator",data:=.fields #[.ref l2,.int 0 0]}
abbrev Vb(h:Heap)(l1 l2:Addr):Heap:=(Vc h l1 l2).push {cls:=.type "tuple",data:=.seq #[.ref h.objs.size,.ref (Vd h l1).objs.size]}
abbrev Va(h:Heap)(l1 l2:Addr):Heap:=(Vb h l1 l2).push {cls:=.type "tuple",data:=.seq #[.none,.none]}
abbrev LC(h:Heap)(l1 l2:Addr):Heap:=(Va h l1 l2).push {cls:=.type "zip",data:=.fields #[.none,.bool false,.bool false,.ref (Vc h l1 l2).objs.size,.ref (Vb h l1 l2).objs.size]}
def Y8(l1 l2:Addr)(xs ys:Aal):
  Meets (Builtin.«zip.__new__» {[.type "zip",.ref l1,.ref l2],[]}) (λ_ R s=>s.heap.IsTuple l1 xs/\s.heap.IsTuple l2 ys/\R (.ok (.ret (.ref (Va s.heap l1 l2).objs.size))) {s with heap:=LC s.heap l1 l2}):=
 .of_wp λprog w A R s h=>by
  obtain⟨hp,g,d,tk,os⟩:=s;obtain⟨pk,jF,h⟩:=h;have Ue:=sub_zip;have hL1:Heap.IsTuple (Shared.heap ⟨hp,g,d,tk,os⟩) l1 xs:=pk;have hL2:Heap.IsTuple (Shared.heap ⟨hp.push {cls:=.type "tuple_iterator",data:=.fields #[.ref l1,.int 0 0]},g,d,tk,os⟩) l2 ys:=by obtain⟨o,e,r⟩:=jF;exact{o,aq _ e,r}
  wp_walk using sH hL1,sH hL2
  exact⟨_,rfl,h⟩
def LB(h1:v.heap.IsTuple l1 xs)(h2:v.heap.IsTuple l2 ys)
  (q:∀h' n,n=v.heap.objs.size->Zt h' (n+4) (n+2) (n+3) n (n+1) l1 l2 .none 0->(∀c o,v.heap.get? c=some o->h'.get? c=some o)->Q (.ref (n+4)) {v with heap:=h'}):
  wpAny (-29) A (call (.type "zip") [.ref l1,.ref l2]) Q E v:=by
 refine callType_new F.called_zip (-8) (F.typeCall_zip_2 _ _) (F.newCall_zip_2 _ _) (λobj=>zA obj _ _) F.entry_zip_new (Y8 l1 l2 xs ys) {h1,h2,?_};have e1:(Vd v.heap l1).objs.size=v.heap.objs.size+1:=cB ..;have e2:(Vc v.heap l1 l2).objs.size=v.heap.objs.size+2:=by rw[cB,e1]
 have e3:(Vb v.heap l1 l2).objs.size=v.heap.objs.size+3:=by rw[cB,e2]
 have e4:(Va v.heap l1 l2).objs.size=v.heap.objs.size+4:=by rw[cB,e3]
 have g5:(LC v.heap l1 l2).get? (Va v.heap l1 l2).objs.size=some _:=aF _ rfl;have g4:(LC v.heap l1 l2).get? (Vb v.heap l1 l2).objs.size=some _:=aq _ (aF _ rfl);have g3:(LC v.heap l1 l2).get? (Vc v.heap l1 l2).objs.size=some _:=aq _ (aq _ (aF _ rfl));have g2:(LC v.heap l1 l2).get? (Vd v.heap l1).objs.size=some _:=aq _ (aq _ (aq _ (aF _ rfl)));have g1:(LC v.heap l1 l2).get? v.heap.objs.size=some _:=aq _ (aq _ (aq _ (aq _ (aF _ rfl))));show _/\_;rw[e2,e3,e4]at g5;rw[e1,e2]at g3;rw[e3]at g4;rw[e1]at g2;rw[e4];exact{⟨_,g5,rfl⟩,q _ _ rfl {g5,g3,⟨_,_,g4⟩,⟨_,g1,rfl,rfl⟩,⟨_,g2,rfl,rfl⟩} λc o x=>aq _ (aq _ (aq _ (aq _ (aq _ x))))}
def Nw(K:Frag)(a b:Addr):It:=
 {λi H=>∃xs ys x y,bF K H a xs/\bF K H b ys/\xs[i]?=some x/\ys[i]?=some y,
  λi H u H'=>∃p x y,u=.ref p/\H p=none/\H'=upd H p (.tup [x,y])/\(∀xs,bF K H a xs->xs[i]?=some x)/\∀ys,bF K H b ys->ys[i]?=some y,
  λi H=>∃xs,bF K H a xs/\xs.length=i}
def gQ(z ti to i1 i2:Addr):Aaj:=[z,ti,to,i1,i2]
end
def SD{K:Frag}(a b z ti to i1 i2:Addr)(dd:Se z ti to i1 i2 a b):Turn P w K (.Tuple elts kk ps) (Nw K a b) (gQ z ti to i1 i2) z (λi h=>Zt h z ti to i1 i2 a b .none i) where
 mem:=aA
 obj:=λi h st c hc=>by
  obtain⟨gs,gi,⟨u,v,go⟩,⟨o1,q1,c1,d1⟩,⟨o2,q2,c2,d2⟩⟩:=st;have qi:c=z\/c=ti\/c=to\/c=i1\/c=i2:=by simpa[gQ]using hc
  rcases qi with rfl|rfl|rfl|rfl|rfl
  ·exact{_,gs,λv z=>by cases z}
  ·exact{_,gi,λv z=>by cases z}
  ·exact{_,go,λv z=>by cases z}
  ·exact{_,q1,λv z=>by rw[d1]at z;cases z}
  ·exact{_,q2,λv z=>by rw[d2]at z;cases z}
 keep:=λi h h' st k=>by obtain⟨gs,gi,⟨u,v,go⟩,⟨o1,q1,r1⟩,⟨o2,q2,r2⟩⟩:=st;exact{k z (by simp[gQ]) _ gs,k ti (by simp[gQ]) _ gi,{u,v,k to (by simp[gQ]) _ go},{o1,k i1 (by simp[gQ]) _ q1,r1},{o2,k i2 (by simp[gQ]) _ q2,r2}}
 item:=by
  intro X hP hw hK hc i pins s Z H E I hf st hg;subst hP hw hK;obtain⟨xs,ys,x,y,ha,hb,hx,hy⟩:=hg;obtain⟨EV,IS,EE,wx⟩:=I.tuple ha;obtain⟨A6,IQ,AL,xV⟩:=I.tuple hb;obtain⟨u1,Kb,IT⟩:=IS.get hx;obtain⟨u2,zQ,EA⟩:=IQ.get hy;refine Ly dd st (show s.heap.IsTuple a EV.toArray from EE) (show s.heap.IsTuple b A6.toArray from AL) (x:=u1) (y:=u2) (by simpa using Kb) (by simpa using zQ) λh1 g1 pr kp=>{_,rfl,?_};refine ux g1.self λh2 z2 sb=>?_;have qy:Heap.SameBut z h1 h2:=sb;have lz:z<s.heap.objs.size:=aI st.self;have al:∀c∈gQ z ti to i1 i2,c<s.heap.objs.size:=λc hc=>by
   obtain⟨gs,gi,⟨u,v,go⟩,⟨o1,q1,r1⟩,⟨o2,q2,r2⟩⟩:=id st;have qi:c=z\/c=ti\/c=to\/c=i1\/c=i2:=by simpa[gQ]using hc
   rcases qi with rfl|rfl|rfl|rfl|rfl
   ·exact aI gs
   ·exact aI gi
   ·exact aI go
   ·exact aI q1
   ·exact aI q2
  have vv:∀c o,c∉gQ z ti to i1 i2->s.heap.get? c=some o->h2.get? c=some o:=λc o hc e=>
   qy.extBut c o (-16) (kp c o (-16) (-16) (-16) (-16) e)
  have tp:IsTup h2 s.heap.objs.size ([u1,u2]:Aag).toArray/\∃o,h2.get? s.heap.objs.size=some o/\o.dict=none:={{_,qy.extBut _ _ (bA lz) pr,rfl,_,rfl},_,qy.extBut _ _ (bA lz) pr,rfl};have I2:=I.LQ (t':=s.toks) (xs:=[x,y]) vv hf (ar _) tp (.cons IT (.cons EA .nil)) (-35);obtain⟨⟨n1,n2,n3,n4⟩,n5,n6,n7,n8⟩:=g1.ne;obtain⟨gs,gi,⟨u,v,go⟩,⟨o1,q1,r1⟩,⟨o2,q2,r2⟩⟩:=g1;refine{.ref s.heap.objs.size,_,I2,rfl,{_,x,y,rfl,I.br.fresh (ar _),rfl,λzs hz=>by rw[I.Ar hz ha];exact hx,λzs hz=>by rw[I.Ar hz hb];exact hy},{z2,qy.extBut _ _ n1 gi,{u,v,qy.extBut _ _ n2 go},{o1,qy.extBut _ _ n3 q1,r1},{o2,qy.extBut _ _ n4 q2,r2}},λc hc=>?_};rw[aE (aL (al c hc))];exact(hf c hc).1
 done:=by intro X hP hw hK hc i pins s Z H E I hf st hg;subst hP hw hK;obtain⟨xs,ha,hx⟩:=hg;obtain⟨EV,IS,EE,wx⟩:=I.tuple ha;have hl:=IS.length;refine Lx (I.ok.hd hc) dd st (show s.heap.IsTuple a EV.toArray from EE) (by simp;lia) λh1 kp=>{rfl,I.LR (t':=s.toks) (ch:=gQ z ti to i1 i2) (λc o hc e=>kp c o (-16) (-16) (-16) (-16) e) hf}
 self:=λ_ _ _ _ _ st h=>lN st.self h
inductive aaQ(K:Frag)(R:It->Hp->Prop)(vs:Aao)(H1:Hp):Prop
 |mk a b (_:vs=[.ref a,.ref b]) (_:(∃xs,bF K H1 a xs)) (_:(∃ys,bF K H1 b ys)) (_:R (Nw K a b) H1)
def acu(K:Frag)(ta:TA):TI:=λZ H R=>ta Z H λvs H1=>aaQ K R vs H1
def Mo(hg:Gl X "zip")(hm:X.mg "zip"=none)(ha:PA X [a,b] ta)(hs:starEach [a,b] X.env=[(false,eval a X.env),(false,eval b X.env)]:=by rfl)(kH:starEach [b] X.env=[(false,eval b X.env)]:=by rfl):
  PI X (.Tuple elts kk ps) (.Call (.Name "zip" p) [a,b] [] pos) (acu X.K ta):=by
 intro pins s Z H R I h;refine FF (qF I hg hm boot_zip (d9 (-55) (by rw[hs,kH]) (by rw[kH];rfl)));obtain⟨l1,l2,e,⟨xs,ha⟩,⟨ys,hb⟩,q⟩:=q1;subst e;obtain⟨u1,u2,rfl,IT,EA⟩:=vals2 r1;cases IT;cases EA;obtain⟨EV,IS,EE,wx⟩:=I1.tuple ha;obtain⟨A6,IQ,AL,xV⟩:=I1.tuple hb;have t1:s1.heap.IsTuple l1 EV.toArray:=EE;have t2:s1.heap.IsTuple l2 A6.toArray:=AL;have b1:l1<s1.heap.objs.size:=by obtain⟨o,e,_⟩:=t1;exact aI e
 have b2:l2<s1.heap.objs.size:=by obtain⟨o,e,_⟩:=t2;exact aI e
 refine LB t1 t2 λh' n en g kp=>?_;subst en;have I2:Inv X pins Z H1 {s1 with heap:=h'}:=I1.kept (t':=s1.toks) kp;refine lN g.self ?_;refine{_,_,_,_,H1,rfl,I2,SD l1 l2 _ _ _ _ _ {?_,?_,?_,?_},g,λc hc=>?_,q}
 ·exactλt=>absurd t (aL (dC _))
 ·exactλt=>absurd t (aL (dC _))
 ·exact aL (aZ b1 (d7 _ _))
 ·exact aL (aZ b2 (d7 _ _))
 ·have qi:c=s1.heap.objs.size+4\/c=s1.heap.objs.size+2\/c=s1.heap.objs.size+3\/c=s1.heap.objs.size\/c=s1.heap.objs.size+1:=by simpa[gQ]using hc
  have lc:s1.heap.objs.size<=c:=by rcases qi with e|e|e|e|e<;>rw[e]<;>first|exact ar _|exact d7 _ _
  exact I1.qN lc (I1.br.fresh lc)
def UC{K:Frag}{a b:Addr}{xs ys:Aao}{g:TG}{tb:TS}{D:Ends}{Z:St}{H:Hp}(Pv:Nat->St->Hp->Prop)(le:xs.length=ys.length)(h0:Pv 0 Z H)(hl:∀i Z H,i<=xs.length->Pv i Z H->bF K H a xs/\bF K H b ys)
  (hs:∀i x y p Z H,xs[i]?=some x->ys[i]?=some y->Pv i Z H->H p=none->g (.ref p) Z (upd H p (.tup [x,y])) λσ2 H2=>tb {D with nx:=Pv (i+1),ct:=Pv (i+1),bk:=D.nx} σ2 H2) (hd:∀Z H,Pv xs.length Z H->D.nx Z H):
  ∃W:Nat->Nat->St->Hp->Prop,(∃m,W 0 m Z H)/\∀i m Z H,W i m Z H->
   ((Nw K a b).stop i H/\D.nx Z H)\/((Nw K a b).go i H/\∃N:St->Hp->Prop,(∀σ' H',N σ' H'->∃m',m'<m/\W (i+1) m' σ' H')/\∀x H',(Nw K a b).xt i H x H'->g x Z H' λσ2 H2=>tb {D with nx:=N,ct:=N,bk:=D.nx} σ2 H2):=by
 refine{λi m Z H=>m=xs.length -i/\i<=xs.length/\Pv i Z H,{xs.length,by simp,aP _,h0},?_};rintro i m Z H ⟨rfl,hi,p⟩;obtain⟨q1,q2⟩:=hl i Z H hi p;by_cases bJ:i<xs.length
 ·refine .inr {{xs,ys,xs[i],ys[i]'∅,q1,q2,by simp[bJ],au _},Pv (i+1),λσ' H' p'=>{xs.length -(i+1),by lia,rfl,bJ,p'},λx H' y=>?_};obtain⟨r,u,v,rfl,hr,rfl,y1,y2⟩:=y;exact hs i u v r Z H (y1 xs q1) (y2 ys q2) p hr
 ·have e:i=xs.length:=by lia
  subst e;exact .inl {⟨xs,q1,rfl⟩,hd Z H p}
section
variable{P:Program}{w:World}{A:Around}{E:Aae}{v:Shared}
def CB(h:Q (v.heap.get? a) v):wpAny M A (loadIfAlive a) Q E v:=λΓ p _=>by show Sem.wp M Γ (Sem.loadIfAlive a Sem.pure) _ _ p v;rw[Sem.wp_loadIfAlive];exact h
abbrev yy(f0:Value)(b:Bool)(ti to:Addr):Obj:={cls:=.type "zip",dict:=none,data:=.fields #[f0,.bool b,.bool false,.ref ti,.ref to],slots:=#[]}
structure Zs(h:Heap)(z ti to i1 i2 l1 l2 T:Addr)(k:Nat):Prop where
 self:∃b,h.get? z=some (yy (rawInt T) b ti to)
 live:∃o,h.get? T=some o
 ins:IsPair h ti (.ref i1) (.ref i2)
 w1:h.IsListIter i1 l1 k
 w2:h.IsListIter i2 l2 k
def Lz{z ti to T:Addr}(g:v.heap.get? z=some (yy (rawInt T) b ti to))(l:∃o,v.heap.get? T=some o)
  (q:∀h',h'.get? z=some (yy (rawInt T) true ti to)->Heap.SameBut z v.heap h'->Q false {v with heap:=h'}):wpAny (-29) A (Builtin.SmallTypes.ownedTupleIsFree (.ref z)) Q E v:=by
 obtain⟨o,l⟩:=l;unfold Builtin.SmallTypes.ownedTupleIsFree;refine af (bO g rfl rfl ?_);refine af (CB ?_);rw[cZ,l];refine af (bO g rfl rfl ?_);cases b with
 |true=>
  exact ao (q v.heap g (Cu _ _))
 |false=>
  refine af (cu g (-9) λh1 g1 s1=>ao (q h1 g1 s1))
variable{prog:Program}
def OZ:typeLookup (.type "zip") "__getattr__"=pure none:=by rw[jn,fY];kernel_rfl
def YH:typeLookup (.type "zip") "keys"=pure none:=by rw[jn,fY];kernel_rfl
def acL:entryFor table "zip.__getattribute__"=some Builtin.«object.__getattribute__»:=yf (id':="object.__getattribute__") (by kernel_rfl) (-3) (-3) (by kernel_rfl)
def YG{os:OsState}(hx:h.get? a=some (yy f0 b ti to))(hA:A.handled=none)
  (k:∀h' tk e,Heap.NewAttrErr h h' e (-51) "keys"->E (.ref e) ⟨h',g,d,tk,os⟩):
  wpAny (-5) A (Builtin.«object.__getattribute__» {[.ref a,.str "keys" u],[]}) Q E ⟨h,g,d,t,os⟩:=by
 have f4:=YH;unfold Builtin.«object.__getattribute__»
 repeat (any_goals (first|(assumption)|(wp_step)))
 refine yz hA k ?_;exact attrMsg_fits (-3) (by size_fits)
def YI{os:OsState}(hx:h.get? a=some (yy f0 b ti to))(hA:A.handled=none)
  (k:∀h' tk e,Heap.NewAttrErr h h' e (-51) "keys"->R (.error (.ref e)) ⟨h',g,d,tk,os⟩):
  codeAny (-5) A (.call (.builtin "zip.__getattribute__") {[.ref a,.str "keys" u],[]}) R ⟨h,g,d,t,os⟩:=
 qQ F.slot_zip_getattribute.plain acL (F.slot_zip_getattribute.check _ _ _ _ _ _ _ _ (show(⟨h,g,d,t,os⟩:Shared).TypeIs (-51) "zip"from⟨_,hx,rfl⟩) (F.args_zip_getattribute_2 _ _) (YG hx hA k))
def acM{os:OsState}(hx:h.get? a=some (yy f0 b ti to))(hA:A.handled=none)
  (k:∀h' tk e,Heap.NewAttrErr h h' e (-51) "keys"->E (.ref e) ⟨h',g,d,tk,os⟩):
  wpAny (-5) A (getAttrBy (-51) (.str "keys" u) false) Q E ⟨h,g,d,t,os⟩:=by
 have g2:=F.slot_zip_getattribute.lookup;have g3:=F.slot_zip_getattribute.bind (-51);have f5:=OZ;have f1:=ng
 repeat (any_goals (first|(assumption)|(wp_step)))
 refine YI hx hA λh' tk e ne=>?_;obtain⟨t',u',he⟩:=ne.there;unfold getattributeRaised
 repeat (any_goals (first|(assumption)|(wp_step)))
 exact k _ _ _ ne
def YJ{os:OsState}(hx:h.get? a=some (yy f0 b ti to))(hA:A.handled=none)
  (k:∀h' tk e,Heap.NewAttrErr h h' e (-51) "keys"->Q none ⟨h',g,d,tk,os⟩):
  wpAny (-5) A (getAttr? (-51) "keys") Q E ⟨h,g,d,t,os⟩:=by
 have f1:=ng;unfold getAttr? getAttrBy?
 repeat (any_goals (first|assumption|(with_reducible refine acM hx hA λh' tk e ne=>?_)|wp_step))
 obtain⟨t',u',he⟩:=ne.there
 repeat (any_goals (first|(assumption)|(wp_step)))
 exact k _ _ _ ne
end
section
theorem LD:∀{ks:List Key}{ys:Aao}{us vs:Aag},Vals (ks.map kV) us->Vals ys vs->ks.length=ys.length->∃pairs:List (Key×Value),Paired (λ(u:Value)(p:Key×Value)=>(bH P w).is p.1 u=true) us pairs/\vs=pairs.map (·.2)/\KV (ks.zip ys) pairs/\pairs.length=ks.length
 |[],[],_,_,.nil,.nil,_=>{[],.nil,rfl,.nil,rfl}
 |k::ks,y::ys,_,_,.cons (b:=u) r1 t1,.cons (b:=v) r2 t2,h=>by obtain⟨ps,h1,h2,h3,h4⟩:=LD t1 t2 (Nat.succ.inj h);exact{(k,v)::ps,.cons (wq r1) h1,by rw[aU,<-h2],.cons ⟨rfl,r2⟩ h3,bU Nat.succ h4}
end
end L2
namespace Tb
open PySem PySem.SetTable
def S:Nat->Nat
 |0=>0
 |n+1=>5*S n+1
def F:Nat->Nat->Nat
 |0,i=>i
 |n+1,i=>5*F n i+1
theorem K4:∀n i,F n i=i+S n*(4*i+1)
 |0,i=>by simp[F,S]
 |n+1,i=>by show 5*F n i+1=i+(5*S n+1)*(4*i+1);rw[K4 n i,Dg,kE,pD];generalize S n*(4*i+1)=z;lia
def Xb(m:Nat):∀n i,F (m+n) i=F m (F n i):=by
 intro n i
 induction m with
 |zero=>simp[F]
 |succ m ih=>
  rw[show m+1+n=(m+n)+1 by lia];show 5*F (m+n) i+1=5*F m (F n i)+1;rw[ih]
def acU(n:Nat):S (n+n)=2*S n*(2*S n+1):=by have h:=Xb n n 0;rw[K4,K4 n (F n 0),K4 n 0]at h;simp only[Nat.mul_zero,vO,Nat.mul_one]at h;rw[h];generalize S n=x;rw[pD,pD,show x*(4*x)=2*x*(2*x) by rw[uj,show(4:Nat)=2*2 from rfl,kE,kE,uj x 2 x]];lia
theorem W7:∀k,∃c,S (2^k)=2^k*(2*c+1)
 |0=>{0,rfl}
 |k+1=>by
  obtain⟨c,hc⟩:=W7 k;refine{2*c*S (2^k)+c+S (2^k),?_};rw[show 2^(k+1)=2^k+2^k by rw[jZ];lia,acU];generalize hs:S (2^k)=s at hc;have e:2*s*(2*s+1)=2*(2^k*(2*c+1))*(2*s+1):=by rw[<-hc]
  rw[e,<-Nat.two_mul,<-kE,kE (2*2^k)];congr 1;rw[Dg,pD,pD,pD];have:2*c*(2*s)=2*(2*c*s):=by rw[uj]
  lia
theorem cover:∀(k i j:Nat),∃n,n<2^k/\F n i % 2^k=j % 2^k
 |0,i,j=>{0,by decide,by simp[Nat.mod_one]}
 |k+1,i,j=>by
  obtain⟨n,hn,e⟩:=cover k i j;have hm:=Nat.two_pow_pos k;rw[jZ];by_cases c:F n i/2^k % 2=j/2^k % 2
  ·exact{n,by lia,by rw[xk,xk,e,c]}
  ·obtain⟨z,hz⟩:=W7 k;refine{2^k+n,by lia,?_};have e2:F (2^k+n) i=F n i+2^k*(2*(z*(4*F n i+1)+2*F n i)+1):=by rw[Xb,K4 (2^k),hz,kE];congr 2;rw[Dg,Nat.one_mul,kE];generalize z*(4*F n i+1)=w;lia
   rw[e2,xk,xk,Nat.add_mul_mod_self_left,Nat.add_mul_div_left _ _ hm,e];congr 2;generalize z*(4*F n i+1)+2*F n i=y;lia
def De(mask:Nat)(p:Probe):Probe:=
 if p.more>0 then{p with j:=p.j+1,more:=p.more -1}else
 {p with j:=(leap mask p.i p.perturb).1,more:=runEnd mask (leap mask p.i p.perturb).1 -(leap mask p.i p.perturb).1,i:=(leap mask p.i p.perturb).1,perturb:=(leap mask p.i p.perturb).2}
abbrev L0(mask i q:Nat):Probe:={j:=i,more:=runEnd mask i -i,i:=i,perturb:=q,dummy:=none}
def pr(mask:Nat)(h:Int):Nat->Probe
 |0=>L0 mask (bits h %(mask+1)) (bits h)
 |d+1=>De mask (pr mask h d)
def SR(t:SetTable)(h:Int):t.probeStart h=pr t.mask h 0:=rfl
def ps(mask:Nat)(h:Int)(d:Nat):Nat:=(pr mask h d).j
def lp(mask:Nat)(h:Int):Nat->Nat×Nat
 |0=>(bits h %(mask+1),bits h)
 |n+1=>leap mask (-21).1 (-21).2
def run(mask i:Nat):Nat:=runEnd mask i -i
def Tn(mask:Nat)(h:Int):Nat->Nat
 |0=>0
 |n+1=>Tn mask h n+run mask (-21).1+1
def Z0(mask i:Nat):run mask i<=9:=by unfold run runEnd;split<;>lia
theorem W5(mask:Nat)(h:Int):∀n,Tn mask h n<=10*n
 |0=>ar _
 |n+1=>by have:=W5 mask h n;have:=Z0 mask (-21).1;show Tn mask h n+run mask (-21).1+1<=_;lia
def XX(mask:Nat)(h:Int):∀n,pr mask h (Tn mask h n)=L0 mask (-21).1 (-21).2/\∀e,e<=run mask (-21).1->pr mask h (Tn mask h n+e)={j:=(-21).1+e,more:=run mask (-21).1 -e,i:=(-21).1,perturb:=(-21).2,dummy:=none}:=by
 have P6:∀n,pr mask h (Tn mask h n)=L0 mask (-21).1 (-21).2->∀e,e<=run mask (-21).1->pr mask h (Tn mask h n+e)={j:=(-21).1+e,more:=run mask (-21).1 -e,i:=(-21).1,perturb:=(-21).2,dummy:=none}:=by
  intro n h0 e
  induction e with
  |zero=>intro _;rw[j4,h0];rfl
  |succ e ih=>
   intro he;rw[<-pN];show De mask (pr mask h (Tn mask h n+e))=_;rw[ih ∅];unfold De;rw[aC (show run mask (-21).1 -e>0 by lia)];congr 1
 intro n
 induction n with
 |zero=>exact{rfl,P6 0 rfl}
 |succ n ih=>
  have h1:pr mask h (Tn mask h (n+1))=L0 mask (lp mask h (n+1)).1 (lp mask h (n+1)).2:=by show De mask (pr mask h (Tn mask h n+run mask (-21).1))=_;rw[ih.2 _ (ar _)];unfold De;rw[az (-9)];rfl
  exact{h1,P6 _ h1}
def ED{mask:Nat}(he:e<=run mask (-21).1):ps mask h (Tn mask h n+e)=(-21).1+e:=by unfold ps;rw[(XX mask h n).2 e he]
theorem acp(mask:Nat)(h:Int):∀n,(-21).1<mask+1
 |0=>lW _ (qY _)
 |n+1=>lW _ (qY _)
theorem aaE(mask:Nat)(h:Int):∀n,(-21).2=bits h/32^n
 |0=>by simp[lp]
 |n+1=>by show(-21).2/32=_;rw[aaE mask h n,Nat.div_div_eq_div_mul,jZ]
def YX(h:Int):bits h<2^64:=by unfold bits;lia
theorem MC{mask k:Nat}(hk:mask+1=2^k)(h:Int):∀n,(lp mask h (13+n)).1=F n (lp mask h 13).1 % 2^k
 |0=>by have:=acp mask h 13;show(lp mask h 13).1=(lp mask h 13).1 % 2^k;rw[Nat.mod_eq_of_lt ∅]
 |n+1=>by
  show((lp mask h (13+n)).1*5+1+(lp mask h (13+n)).2/32) %(mask+1)=(5*F n (lp mask h 13).1+1) % 2^k;have q0:(lp mask h (13+n)).2/32=0:=by rw[aaE];have h1:=YX h;have h2:32^13<=32^(13+n):=gw (-8) ∅;rw[Nat.div_eq_of_lt (show bits h<32^(13+n)from aZ (fE h1 (-8)) h2)]
  rw[q0,MC hk h n,hk,j4,Nat.add_mod,Nat.mul_mod,Nat.mod_mod,<-Nat.mul_mod,<-Nat.add_mod,BG]
def hits{mask k:Nat}(hk:mask+1=2^k)(h:Int)(hj:j<=mask):∃n,n<=13+mask/\(-21).1=j/\ps mask h (Tn mask h n)=j:=by obtain⟨n,hn,e⟩:=cover k (lp mask h 13).1 j;have e2:=MC hk h n;rw[e,Nat.mod_eq_of_lt ∅]at e2;refine{13+n,by lia,e2,?_};have:=ED (mask:=mask) (h:=h) (n:=13+n) (aP _);rw[j4,j4]at this;rw[this,e2]
def N3{mask:Nat}:ps mask h d<=mask:=by
 have key:∀d,(pr mask h d).j+(pr mask h d).more<=mask:=by
  have base:∀i q,i<mask+1->(L0 mask i q).j+(L0 mask i q).more<=mask:=λi q hi=>by show i+(runEnd mask i -i)<=mask;unfold runEnd;split<;>lia
  intro d
  induction d with
  |zero=>exact base _ _ (lW _ (qY _))
  |succ d ih=>
   show(De mask (pr mask h d)).j+(De mask (pr mask h d)).more<=mask;unfold De;split
   ·show(pr mask h d).j+1+((pr mask h d).more -1)<=mask;lia
   ·exact base _ 0 (lW _ (qY _))
 have:=key d;unfold ps;lia
def least{p:Nat->Prop}:∀{n},p n->∃m,m<=n/\p m/\∀e,e<m->¬p e:=by
 intro n
 induction n using Nat.strongRecOn with
 |ind n ih=>
  intro hn;by_cases c:∃e,e<n/\p e
  ·obtain⟨e,he,pe⟩:=c;obtain⟨m,h1,h2,h3⟩:=ih e he pe;exact{m,by lia,h2,h3}
  ·exact{n,ar _,hn,λe he pe=>c ⟨e,he,pe⟩}
def nN(xs:Array Nat):Prop:=∀i k,i<k->k<xs.size->xs.getD i 0<xs.getD k 0
def Uz{xs:Array Nat}(h:i<xs.size):xs.getD i a=xs.getD i b:=by simp[Array.getD,h]
def getD_some{xs:Array Nat}:xs[i]?=some j↔i<xs.size/\xs.getD i 0=j:=by
 constructor
 ·intro e;obtain⟨h,e⟩:=gP.mp e;exact{h,by simp[Array.getD,h,e]}
 ·rintro⟨h,e⟩;rw[bD h];simpa[Array.getD,h]using e
theorem DW(hr:nN xs)(j:Nat):∀(f lo hi:Nat),lo<=hi->hi<=xs.size->hi -lo<=f->(∀i,i<lo->xs.getD i 0<j)->(∀i,hi<=i->i<xs.size->j<=xs.getD i 0)->
  below.go xs j f lo hi<=xs.size/\(∀i,i<below.go xs j f lo hi->xs.getD i 0<j)/\∀i,below.go xs j f lo hi<=i->i<xs.size->j<=xs.getD i 0
 |0,lo,hi,h1,h2,h3,h4,h5=>by show lo<=xs.size/\(∀i,i<lo->xs.getD i 0<j)/\∀i,lo<=i->i<xs.size->j<=xs.getD i 0;exact{by lia,h4,λi a b=>h5 i ∅ b}
 |f+1,lo,hi,h1,h2,h3,h4,h5=>by
  unfold below.go;by_cases c:lo<hi
  ·simp only[aC c];have hm:(lo+hi)/2<xs.size:=by lia
   rw[Uz (b:=0) hm];by_cases d:xs.getD ((lo+hi)/2) 0<j
   ·simp only[aC d];refine DW hr j f _ _ ∅ h2 ∅ (λi Wx=>?_) h5;by_cases e:i=(lo+hi)/2
    ·rw[e];exact d
    ·exact fE (hr i _ ∅ hm) d
   ·simp only[az d];refine DW hr j f _ _ ∅ ∅ ∅ h4 λi a b=>?_;by_cases e:i=(lo+hi)/2
    ·rw[e];lia
    ·have:=hr ((lo+hi)/2) i ∅ b;lia
  ·simp only[az c];exact{by lia,h4,λi a b=>h5 i ∅ b}
def uK(hr:nN xs)(j:Nat):below xs j<=xs.size/\(∀i,i<below xs j->xs.getD i 0<j)/\∀i,below xs j<=i->i<xs.size->j<=xs.getD i 0:=
 DW hr j xs.size 0 xs.size (aP _) (ar _) ∅ (λi h=>absurd h (iA _)) λi a b=>by lia
def below_at(hr:nN xs)(e:xs[i]?=some j):below xs j=i:=by
 obtain⟨h1,h2,h3⟩:=uK hr j;obtain⟨hi,e⟩:=getD_some.mp e;rcases kX (below xs j) i with c|c|c
 ·have:=h3 _ (ar _) ∅;have:=hr _ _ c hi;lia
 ·exact c
 ·have:=h2 i c;lia
def GC{t:SetTable}(hr:nN t.place)(e:t.place[i]?=some j):t.slot j=.live i:=by unfold SetTable.slot;rw[below_at hr e];simp[e]
def PX{t:SetTable}(hd:t.dummies=#[])(e:∀i:Nat,t.place[i]?≠some j):t.slot j=.empty:=by unfold SetTable.slot;have h1:¬(t.place[below t.place j]?==some j)=true:=λh=>e _ (iH h);rw[az h1,hd];rw[az (by simp[has])]
def OS{mask:Nat}(hr:nN xs)(hs:xs.size<=mask):∃j:Nat,j<=mask/\∀i:Nat,xs[i]?≠some j:=by
 by_cases c:∃j:Nat,j<=mask/\∀i:Nat,xs[i]?≠some j
 ·exact c
 ·exfalso;have all:∀j:Nat,j<=mask->∃i:Nat,xs[i]?=some j:=λj hj=>mZ λn=>c {j,hj,λi e=>n ⟨i,e⟩};have key:∀m:Nat,m<=mask->xs[m]?=some m:=by
   intro m
   induction m using Nat.strongRecOn with
   |ind m ih=>
    intro hm;obtain⟨i,e⟩:=all m hm;rcases kX i m with q|q|q
    ·have:=ih i q ∅;rw[this]at e;cases e;lia
    ·rw[<-q];rw[q]at e⊢;exact e
    ·obtain⟨hi,ei⟩:=getD_some.mp e;have h1:=hr m i q hi;have h2:m<=xs.getD m 0:=by
      cases m with
      |zero=>exact aP _
      |succ m=>
       obtain⟨_,e3⟩:=getD_some.mp (ih m ∅ ∅);have:=hr m (m+1) ∅ ∅;lia
     lia
  obtain⟨h,_⟩:=getD_some.mp (key mask (ar _));lia
structure Tab(t:SetTable)(hs:List Int):Prop where
 pow:∃k,t.mask+1=2^k
 big:7<=t.mask
 RU:t.dummies=#[]
 rise:nN t.place
 sz:t.place.size=hs.length
 je:hs.length<=t.mask
 le:∀i j:Nat,t.place[i]?=some j->j<=t.mask
 reach:∀(i:Nat)(h:Int),hs[i]?=some h->∃d,t.place[i]?=some (ps t.mask h d)/\∀e,e<d->∃i':Nat,t.place[i']?=some (ps t.mask h e)
def Tab.fits(T:Tab t hs):t.fits hs.length=true:=by unfold SetTable.fits SetTable.fill;have h1:=T.sz;have h2:=T.je;rw[T.RU,h1];simp[h2]
def Tab.way(T:Tab t hs):t.gaveWay=false:=by
 obtain⟨k,hk⟩:=T.pow;have:=T.big;unfold SetTable.gaveWay;cases k with
 |zero=>rw[Nat.pow_zero]at hk;lia
 |succ k=>rw[jZ]at hk;simp;lia
def Tab.fresh(finger moves:Nat)(led:Bool):Tab (.fresh finger moves led) [] where
 pow:={3,rfl}
 big:=ar 7
 RU:=rfl
 rise:=λi k _ h=>absurd h (iA _)
 sz:=rfl
 je:=aP _
 le:=λi j e=>by simp[SetTable.fresh]at e
 reach:=λi h e=>by simp at e
structure Pk(t:SetTable)(h:Int)(D:Nat):Prop where
 lt:D<10*turns t.mask
 no:∀i:Nat,t.place[i]?≠some (-30)
 ahead:∀e,e<D->∃i:Nat,t.place[i]?=some (ps t.mask h e)
def Tab.free(T:Tab t hs)(h:Int):∃D,Pk t h D:=by obtain⟨k,hk⟩:=T.pow;obtain⟨j,hj,hn⟩:=OS T.rise (show t.place.size<=t.mask by rw[T.sz];exact T.je);obtain⟨n,A9,_,e⟩:=hits hk h hj;obtain⟨D,h1,h2,h3⟩:=least (p:=λd=>∀i:Nat,t.place[i]?≠some (ps t.mask h d)) (n:=Tn t.mask h n) (by rw[e];exact hn);have:=W5 t.mask h n;refine{D,by unfold turns;lia,h2,λe he=>mZ λq=>h3 e he λi z=>q ⟨i,z⟩}
theorem Jf(mask:Nat)(h:Int):∀d,(pr mask h d).dummy=none
 |0=>rfl
 |d+1=>by show(De mask (pr mask h d)).dummy=none;unfold De;split<;>exact Jf mask h d
def Tab.live(T:Tab t hs){i j:Nat}(e:t.place[i]?=some j):∃h,hs[i]?=some h:=by obtain⟨hi,_⟩:=getD_some.mp e;rw[T.sz]at hi;exact{_,au hi}
theorem Je(T:Tab t hs)(fr:Pk t h D)(ha:∀(i:Nat)(g:Int),hs[i]?=some g->hashAt i=g):∀(f d:Nat),d<=D->D -d<f->
  (probe.go t hashAt h f (pr t.mask h d)=some (.empty (-30) none)/\∀e,d<=e->e<D->∀i:Nat,t.place[i]?=some (ps t.mask h e)->hs[i]?≠some h)\/
  ∃e i,d<=e/\e<D/\t.place[i]?=some (ps t.mask h e)/\hs[i]?=some h/\probe.go t hashAt h f (pr t.mask h d)=some (.candidate (ps t.mask h e) i (pr t.mask h (e+1)))/\∀e',d<=e'->e'<e->∀i':Nat,t.place[i']?=some (ps t.mask h e')->hs[i']?≠some h
 |0,d,_,hf=>absurd hf (iA _)
 |f+1,d,hd,hf=>by
  unfold probe.go;by_cases c:d=D
  ·subst c;have e:t.slot (pr t.mask h d).j=.empty:=PX T.RU fr.no;rw[e];refine .inl {?_,λe a b=>by lia};show some (Met.empty (ps t.mask h d) (pr t.mask h d).dummy)=_;rw[Jf]
  ·obtain⟨i,hi⟩:=fr.ahead d ∅;have e:t.slot (pr t.mask h d).j=.live i:=GC T.rise hi;rw[e];obtain⟨g,hg⟩:=T.live hi;have hu:∀i':Nat,t.place[i']?=some (ps t.mask h d)->i'=i:=λi' q=>by rw[<-below_at T.rise q,<-below_at T.rise hi]
   by_cases c2:hashAt i=h
   ·refine .inr {d,i,ar _,by lia,hi,?_,?_,λe' a b=>by lia}
    ·rw[ha i g hg]at c2;rw[hg,c2]
    ·show(if(hashAt i==h)=true then some (Met.candidate (ps t.mask h d) i (t.advance (pr t.mask h d)))else probe.go t hashAt h f (t.advance (pr t.mask h d)))=_;rw[aC (by rw[c2];exact Gk)];rfl
   ·have no:∀i':Nat,t.place[i']?=some (ps t.mask h d)->hs[i']?≠some h:=λi' q z=>by rw[hu i' q]at z;exact c2 (ha i h z)
    have ih:=Je T fr ha f (d+1) ∅ ∅;have eq:(if(hashAt i==h)=true then some (Met.candidate (ps t.mask h d) i (t.advance (pr t.mask h d)))else probe.go t hashAt h f (t.advance (pr t.mask h d)))=probe.go t hashAt h f (pr t.mask h (d+1)):=by rw[az (by simpa using c2)];rfl
    rcases ih with⟨h1,h2⟩|⟨e,i2,h1,h2,h3,h4,h5,h6⟩
    ·refine .inl {eq.trans h1,λe a b i' q=>?_};by_cases z:e=d
     ·rw[z]at q;exact no i' q
     ·exact h2 e ∅ b i' q
    ·refine .inr {e,i2,by lia,h2,h3,h4,eq.trans h5,λe' a b i' q=>?_};by_cases z:e'=d
     ·rw[z]at q;exact no i' q
     ·exact h6 e' ∅ b i' q
def jc(l:List α)(p:Nat)(x:α):List α:=l.take p++x::l.drop p
def J3(l:List α)(x:α)(hp:p<=l.length)(i:Nat):(jc l p x)[i]?=if i<p then l[i]? else if i=p then some x else l[i -1]?:=by
 unfold jc;by_cases c:i<p
 ·rw[aC c,dO (by rw[aT];lia),og c]
 ·rw[az c,dE (by rw[aT];lia),aT,gL hp];by_cases c2:i=p
  ·rw[aC c2,c2,vP];rfl
  ·rw[az c2,show i -p=(i -p -1)+1 by lia,oP,BI];congr 1;lia
def w6(l:List α)(x:α)(hp:p<=l.length):(jc l p x).length=l.length+1:=by unfold jc;rw[aO,bx,aT,gY];lia
def Q3(l:List α)(p:Nat)(x:α):(jc l p x).Perm (x::l):=by unfold jc;refine List.perm_middle.trans ?_;rw[c8]
def J0(f:α->β)(l:List α)(p:Nat)(x:α):(jc l p x).map f=jc (l.map f) p (f x):=by unfold jc;simp
def qJ(xs:Array α)(p:Nat)(x:α):(insertAt xs p x).toList=jc xs.toList p x:=by unfold insertAt jc;simp[dU]
def nN.of_get(h:∀i k a b:Nat,i<k->xs[i]?=some a->xs[k]?=some b->a<b):nN xs:=λi k Km hk=>
 h i k _ _ Km (getD_some.mpr {by lia,rfl}) (getD_some.mpr ⟨hk,rfl⟩)
def nN.get(h:nN xs){i k a b:Nat}(Km:i<k)(ha:xs[i]?=some a)(hb:xs[k]?=some b):a<b:=by obtain⟨h1,e1⟩:=getD_some.mp ha;obtain⟨h2,e2⟩:=getD_some.mp hb;have:=h i k Km h2;lia
def AH{t:SetTable}(hr:nN t.place)(j i:Nat):(t.put j).1.place[i]?=if i<below t.place j then t.place[i]? else if i=below t.place j then some j else t.place[i -1]?:=by show(insertAt t.place (below t.place j) j)[i]?=_;rw[<-bI,qJ,J3 _ _ (by rw[aS];exact(uK hr j).1)];simp only[bI]
def FP{t:SetTable}(hr:nN t.place){i v:Nat}(e:t.place[i]?=some v):∃i':Nat,(t.put j).1.place[i']?=some v:=by
 by_cases c:i<below t.place j
 ·exact{i,by rw[AH hr,aC c,e]}
 ·exact{i+1,by rw[AH hr,az ∅,az ∅,Nat.add_sub_cancel,e]}
def Tab.put(T:Tab t hs)(fr:Pk t h D)(room:hs.length+1<=t.mask):Tab (t.put (-30)).1 (jc hs (t.put (-30)).2 h):=by
 have hb:=uK T.rise (-30);have hp:(t.put (-30)).2=below t.place (-30):=rfl;have wB:below t.place (-30)<=hs.length:=by rw[<-T.sz];exact hb.1
 rw[hp];have pl:=λi=>AH T.rise (-30) i;have hl:=J3 hs h wB;have at_:(t.put (-30)).1.place[below t.place (-30)]?=some (-30):=by rw[pl,az (dD _),aC rfl]
 have lo:∀i a:Nat,i<below t.place (-30)->t.place[i]?=some a->a<ps t.mask h D:=λi a c e=>by obtain⟨_,e⟩:=getD_some.mp e;have:=hb.2.1 i c;lia
 have hi:∀i a:Nat,below t.place (-30)<=i->t.place[i]?=some a->ps t.mask h D<a:=λi a c e=>by obtain⟨l,e'⟩:=getD_some.mp e;have:=hb.2.2 i c l;have ne:a≠ps t.mask h D:=λz=>fr.no i (by rw[e,z]);lia
 refine{T.pow,T.big,?_,?_,?_,?_,λi j e=>?_,λi g e=>?_}
 ·show(if has t.dummies (-30)=true then _ else t.dummies)=_;rw[T.RU];simp[has]
 ·refine nN.of_get λi k a b Km ha kI=>?_;rw[pl]at ha kI;by_cases c1:i<below t.place (-30)
  ·rw[aC c1]at ha;by_cases c2:k<below t.place (-30)
   ·rw[aC c2]at kI;exact T.rise.get Km ha kI
   ·rw[az c2]at kI;by_cases c3:k=below t.place (-30)
    ·rw[aC c3]at kI;cases kI;exact lo i a c1 ha
    ·rw[az c3]at kI;exact fE (lo i a c1 ha) (hi _ b ∅ kI)
  ·rw[az c1]at ha;rw[az ∅,az ∅]at kI;by_cases c3:i=below t.place (-30)
   ·rw[aC c3]at ha;cases ha;exact hi _ b ∅ kI
   ·rw[az c3]at ha;exact T.rise.get ∅ ha kI
 ·rw[w6 _ _ wB,<-T.sz,<-aS];show(insertAt t.place (below t.place (-30)) (-30)).toList.length=_;rw[qJ,w6 _ _ (by rw[aS];exact hb.1),aS]
 ·rw[w6 _ _ wB];exact room
 ·rw[pl]at e;by_cases c1:i<below t.place (-30)
  ·rw[aC c1]at e;exact T.le i j e
  ·rw[az c1]at e;by_cases c3:i=below t.place (-30)
   ·rw[aC c3]at e;cases e;exact N3
   ·rw[az c3]at e;exact T.le _ j e
 ·have mk:(t.put (-30)).1.mask=t.mask:=rfl;rw[mk];rw[hl]at e;by_cases c1:i<below t.place (-30)
  ·rw[aC c1]at e;obtain⟨d,h1,h2⟩:=T.reach i g e;exact{d,by rw[pl,aC c1];exact h1,λx hx=>let⟨_,q⟩:=h2 x hx;FP T.rise q}
  ·rw[az c1]at e;by_cases c3:i=below t.place (-30)
   ·rw[aC c3]at e;cases e;exact{D,by rw[c3];exact at_,λx hx=>let⟨_,q⟩:=fr.ahead x hx;FP T.rise q}
   ·rw[az c3]at e;obtain⟨d,h1,h2⟩:=T.reach _ g e;exact{d,by rw[pl,az c1,az c3];exact h1,λx hx=>let⟨_,q⟩:=h2 x hx;FP T.rise q}
def Tab.of_eq(T:Tab t hs)(h1:t'.mask=t.mask)(h2:t'.place=t.place)(h3:t'.dummies=t.dummies):Tab t' hs:=by obtain⟨a1,a2,a3,a4,a5,a6,a7,a8⟩:=T;rw[<-h1]at a1 a2 a6 a7 a8;rw[<-h2]at a4 a5 a7 a8;rw[<-h3]at a3;exact⟨a1,a2,a3,a4,a5,a6,a7,a8⟩
structure Own(mask:Nat)(ow:Array (Option Nat))(hs:List Int):Prop where
 sz:ow.size=mask+1
 lt:∀j i:Nat,ow[j]?=some (some i)->i<hs.length
 inj:∀j j' i:Nat,ow[j]?=some (some i)->ow[j']?=some (some i)->j=j'
 at_:∀(i:Nat)(h:Int),hs[i]?=some h->∃d,ow[ps mask h d]?=some (some i)/\∀e,e<d->∃i':Nat,ow[ps mask h e]?=some (some i')
def Own.empty{mask:Nat}(O:Own mask ow hs)(je:hs.length<=mask):∃j:Nat,j<=mask/\ow[j]?=some none:=by
 by_cases c:∃j:Nat,j<=mask/\ow[j]?=some none
 ·exact c
 ·exfalso;have all:∀j:Nat,j<=mask->ow[j]?=some (some ((ow.getD j none).getD 0)):=λj hj=>by
   have hl:j<ow.size:=by rw[O.sz];lia
   have e:ow[j]?=some (ow.getD j none):=by rw[bD hl];simp[Array.getD,hl]
   cases q:ow.getD j none with
   |none=>exact(c {j,hj,by rw[e,q]}).elim
   |some i=>rw[e,q];rfl
  have nd:((List.range (mask+1)).map λj=>(ow.getD j none).getD 0).Nodup:=by
   refine kZ.mpr (List.Pairwise.imp_of_mem (λ{a b} ha hb ne e=>ne (O.inj a b _ (all a ?_) (e▸all b ?_))) List.nodup_range)
   ·have:=cY.mp ha;lia
   ·have:=cY.mp hb;lia
  have sub:((List.range (mask+1)).map λj=>(ow.getD j none).getD 0)⊆List.range hs.length:=λx hx=>by obtain⟨j,hj,rfl⟩:=aR.mp hx;have:=cY.mp hj;exact cY.mpr (O.lt j _ (all j ∅))
  have:=List.Nodup.length_le_of_subset nd sub;rw[ak,gG,gG]at this;lia
def Y3(mask:Nat)(h:Int)(hmn:m<=n):Tn mask h m<=Tn mask h n:=by
 induction n with
 |zero=>rw[Nat.le_zero.mp hmn];exact ar _
 |succ n ih=>
  by_cases c:m=n+1
  ·rw[c];exact ar _
  ·have:=ih ∅;show _<=Tn mask h n+run mask (-21).1+1;lia
def XH(mask i:Nat):runEnd mask i+1 -i=run mask i+1:=by unfold run runEnd;split<;>lia
theorem Nc{mask:Nat}(hD:ow[ps mask h D]?=some none)(hb:∀e,e<D->∃i':Nat,ow[ps mask h e]?=some (some i'))(hn0:D<=Tn mask h n0):∀(f n:Nat),Tn mask h n<=D->n0 -n<f->layClean.free mask ow f (-21).1 (-21).2=some (ps mask h D)
 |0,n,_,hf=>absurd hf (iA _)
 |f+1,n,hn,hf=>by
  have own:∀e,e<=run mask (-21).1->Tn mask h n+e<D->(ow.getD ((-21).1+e) (some 0)).isNone=false:=λe he bJ=>by obtain⟨i',q⟩:=hb _ bJ;rw[ED he]at q;obtain⟨l,q⟩:=gP.mp q;simp[Array.getD,l,q]
  unfold layClean.free;rw[XH];by_cases c:D<=Tn mask h n+run mask (-21).1
  ·have e1:(List.range (run mask (-21).1+1)).find? (λk=>(ow.getD ((-21).1+k) (some 0)).isNone)=some (D -Tn mask h n):=by
    refine List.find?_range_eq_some.mpr {?_,cY.mpr ∅,λj hj=>?_}
    ·have q:=hD;rw[show D=Tn mask h n+(D -Tn mask h n) by lia,ED ∅]at q;obtain⟨l,q⟩:=gP.mp q;simp[Array.getD,l,q]
    ·rw[own j ∅ ∅];rfl
   simp only[e1];rw[<-ED ∅,show Tn mask h n+(D -Tn mask h n)=D by lia]
  ·have e1:(List.range (run mask (-21).1+1)).find? (λk=>(ow.getD ((-21).1+k) (some 0)).isNone)=none:=by refine List.find?_range_eq_none.mpr λj hj=>?_;rw[own j ∅ ∅];rfl
   simp only[e1];have lt:n<n0:=by
    rcases Nat.lt_or_ge n n0 with q|q
    ·exact q
    ·have:=Y3 mask h q;lia
   exact Nc hD hb hn0 f (n+1) (by show Tn mask h n+run mask (-21).1+1<=D;lia) ∅
abbrev xQ(mask:Nat)(acc:Option (Array (Option Nat)×Nat))(h:Int):Option (Array (Option Nat)×Nat):=do
  let(owner,k)<-acc
  let j<-layClean.free mask owner (turns mask) (bits h %(mask+1)) (bits h)
  pure (owner.setIfInBounds j (some k),k+1)
def Lo(mask:Nat)(hashes:Array Int):layClean mask hashes=(hashes.toList.foldl (xQ mask) (some (Array.replicate (mask+1) none,0))).map (·.1):=by rw[Array.foldl_toList];rfl
def Own.step{mask k:Nat}(hk:mask+1=2^k)(O:Own mask ow hs)(je:hs.length<mask)(h:Int):∃Ql,xQ mask (some (ow,hs.length)) h=some (Ql,hs.length+1)/\Own mask Ql (hs++[h]):=by
 obtain⟨j,hj,ej⟩:=O.empty (bu je);obtain⟨n0,hn0,_,e0⟩:=hits hk h hj;obtain⟨D,h1,h2,h3⟩:=least (p:=λd=>ow[ps mask h d]?=some none) (by rw[e0];exact ej);have hb:∀e,e<D->∃i':Nat,ow[ps mask h e]?=some (some i'):=λe he=>by
  have l:ps mask h e<ow.size:=by rw[O.sz];have:=N3 (mask:=mask) (h:=h) (d:=e);lia
  cases q:ow[ps mask h e]with
  |none=>exact(h3 e he (by rw[bD l,q])).elim
  |some i=>exact{i,by rw[bD l,q]}
 have ef:=Nc h2 hb h1 (turns mask) 0 (aP _) (by unfold turns;lia);have ef':layClean.free mask ow (turns mask) (bits h %(mask+1)) (bits h)=some (ps mask h D):=ef;refine{ow.setIfInBounds (ps mask h D) (some hs.length),by simp[xQ,ef'],?_};have l:ps mask h D<ow.size:=by rw[O.sz];have:=N3 (mask:=mask) (h:=h) (d:=D);lia
 have get:∀x:Nat,(ow.setIfInBounds (ps mask h D) (some hs.length))[x]?=if x=ps mask h D then some (some hs.length)else ow[x]?:=λx=>by
  rw[Array.getElem?_setIfInBounds];by_cases c:x=ps mask h D
  ·rw[aC c,aC c.symm,aC l]
  ·rw[az c,az (cb c)]
 have keep:∀x i:Nat,ow[x]?=some (some i)->(ow.setIfInBounds (ps mask h D) (some hs.length))[x]?=some (some i):=λx i e=>by rw[get,az λz=>by rw[z,h2]at e;cases e];exact e
 refine{by simp[O.sz],λx i e=>?_,λx y i ex ey=>?_,λi g e=>?_}
 ·rw[get]at e;rw[aO,dA];by_cases c:x=ps mask h D
  ·rw[aC c]at e;cases e;lia
  ·rw[az c]at e;have:=O.lt x i e;lia
 ·rw[get]at ex ey;by_cases c:x=ps mask h D
  ·rw[aC c]at ex;cases ex;by_cases c2:y=ps mask h D
   ·rw[c,c2]
   ·rw[az c2]at ey;exact absurd (O.lt y _ ey) (dD _)
  ·rw[az c]at ex;by_cases c2:y=ps mask h D
   ·rw[aC c2]at ey;cases ey;exact absurd (O.lt x _ ex) (dD _)
   ·rw[az c2]at ey;exact O.inj x y i ex ey
 ·by_cases c:i<hs.length
  ·rw[dO c]at e;obtain⟨d,q1,q2⟩:=O.at_ i g e;exact{d,keep _ _ q1,λx hx=>let⟨i',q⟩:=q2 x hx;{i',keep _ _ q}}
  ·rw[dE ∅]at e;have ei:i=hs.length:=by
    rcases kX i hs.length with q|q|q
    ·lia
    ·exact q
    ·rw[hU (by rw[dA];lia)]at e;cases e
   subst ei;rw[vP]at e;cases e;exact{D,by rw[get,aC rfl],λx hx=>let⟨i',q⟩:=hb x hx;{i',keep _ _ q}}
theorem Jv{mask k:Nat}(hk:mask+1=2^k):∀(rest:List Int)(ow:Array (Option Nat))(hs:List Int),Own mask ow hs->(hs++rest).length<=mask->∃Ql,rest.foldl (xQ mask) (some (ow,hs.length))=some (Ql,(hs++rest).length)/\Own mask Ql (hs++rest)
 |[],ow,hs,O,_=>{ow,by simp,by simpa using O}
 |h::rest,ow,hs,O,je=>by rw[aO,bx]at je;obtain⟨ow1,e1,O1⟩:=O.step hk ∅ h;obtain⟨ow2,e2,O2⟩:=Jv hk rest ow1 (hs++[h]) O1 (by rw[aO,aO,dA];lia);rw[cR]at e2 O2;refine{ow2,?_,O2};rw[fT,e1];rw[aO,dA]at e2;exact e2
def Yt{mask k:Nat}(hk:mask+1=2^k)(big:7<=mask)(finger moves:Nat)(led plain:Bool)(hs:List Int)(je:hs.length<=mask):
  ∃t order,laid mask finger moves led plain hs.toArray=some (t,order)/\t.mask=mask/\t.finger=finger/\t.led=led/\t.moves=moves/\t.plain=plain/\order.toList.Perm (List.range hs.length)/\Tab t (order.toList.map λi=>hs.getD i 0):=by
 have O0:Own mask (Array.replicate (mask+1) none) []:={by simp,λj i e=>by simp[vW]at e,λj j' i e=>by simp[vW]at e,λi h e=>by simp at e};obtain⟨ow,e,O⟩:=Jv hk hs _ _ O0 (by simpa using je);rw[kK]at e O;have el:layClean mask hs.toArray=some ow:=by rw[Lo];have e':(hs.toArray.toList.foldl (xQ mask) (some (Array.replicate (mask+1) none,0)))=some (ow,hs.length):=e;rw[e'];rfl
 obtain⟨live,Rl⟩:∃live,live=(List.range (mask+1)).filterMap λj=>(ow.getD j none).map (j,·):=⟨_,rfl⟩;have mem:∀p:Nat×Nat,p∈live↔ow[p.1]?=some (some p.2):=λp=>by
  rw[Rl,kL];constructor
  ·rintro⟨j,hj,q⟩;have lj:j<ow.size:=by rw[O.sz];exact cY.mp hj
   obtain⟨i,q1,q2⟩:=aX.mp q;subst q2;rw[bD lj];have q3:ow[j]=some i:=by simpa[Array.getD,lj]using q1
   rw[q3]
  ·intro q;obtain⟨l,q'⟩:=gP.mp q;refine{p.1,cY.mpr (by rw[<-O.sz];exact l),?_};have q3:ow.getD p.1 none=some p.2:=by simp[Array.getD,l,q']
   rw[q3];rfl
 have sub:∀(j:Nat)(b:Nat×Nat),(ow.getD j none).map (j,·)=some b->b.1=j/\ow[j]?=some (some b.2):=λj b q=>by
  obtain⟨i,q1,q2⟩:=aX.mp q;subst q2;refine{rfl,?_};by_cases l:j<ow.size
  ·rw[bD l];have q3:ow[j]=some i:=by simpa[Array.getD,l]using q1
   rw[q3]
  ·simp[Array.getD,l]at q1
 have p1:live.Pairwise (λa b=>a.1<b.1):=by rw[Rl];refine wa _ (λa a' bJ b hb b' kI=>?_) xm;rw[(sub a b hb).1,(sub a' b' kI).1];exact bJ
 have p2:live.Pairwise (λa b=>a.2≠b.2):=by rw[Rl];refine wa _ (λa a' bJ b hb b' kI ne=>?_) xm;have q1:=(sub a b hb).2;have q2:=(sub a' b' kI).2;rw[<-ne]at q2;have:=O.inj a a' _ q1 q2;lia
 have perm:(live.map (·.2)).Perm (List.range hs.length):=by
  refine(tW (kZ.mpr p2) List.nodup_range).mpr λi=>?_;rw[cY,aR];constructor
  ·rintro⟨p,hp,rfl⟩;exact O.lt _ _ ((mem p).mp hp)
  ·intro hi;obtain⟨d,q,_⟩:=O.at_ i _ (au hi);exact{(_,i),(mem (_,i)).mpr q,rfl}
 have ll:live.length=hs.length:=by have:=perm.length_eq;rwa [ak,gG]at this
 have pl:∀m:Nat,((live.map (·.1)).toArray)[m]?=live[m]?.map (·.1):=λm=>by simp
 refine⟨{mask,place:=(live.map (·.1)).toArray,dummies:=#[],finger,led,moves,plain},(live.map (·.2)).toArray,?_,rfl,rfl,rfl,rfl,rfl,by simpa using perm,?_⟩
 ·unfold laid;rw[el,Rl];rfl
 ·refine{⟨k,hk⟩,big,rfl,?_,?_,?_,λi j q=>?_,λm h q=>?_}
  ·refine nN.of_get λi k a b Km ha hb=>?_;rw[pl]at ha hb;obtain⟨x,hx,rfl⟩:=aX.mp ha;obtain⟨y,hy,rfl⟩:=aX.mp hb;obtain⟨lx,ex⟩:=ax.mp hx;obtain⟨ly,ey⟩:=ax.mp hy;subst ex ey;exact fS.mp p1 i k lx ly Km
  ·simp
  ·simp[ll,je]
  ·rw[pl]at q;obtain⟨x,hx,rfl⟩:=aX.mp q;have:=(mem x).mp (aH hx);obtain⟨l,_⟩:=gP.mp this;rw[O.sz]at l;show x.1<=mask;lia
  ·have q':(live.map λp=>hs.getD p.2 0)[m]?=some h:=by
    have e3:(live.map (·.2)).toArray.toList.map (λi=>hs.getD i 0)=live.map λp=>hs.getD p.2 0:=by simp
    rw[<-e3];exact q
   rw[aK]at q';obtain⟨x,hx,rfl⟩:=aX.mp q';have hw:=(mem x).mp (aH hx);have hl:=O.lt _ _ hw;have eh:hs[x.2]?=some (hs.getD x.2 0):=by rw[au hl];simp[hl]
   obtain⟨d,d1,d2⟩:=O.at_ x.2 _ eh;have ej:=O.inj _ _ _ d1 hw;refine{d,?_,λe he=>?_}
   ·show((live.map (·.1)).toArray)[m]?=some (ps mask (hs.getD x.2 0) d);rw[pl,hx,ej];rfl
   ·obtain⟨i',q3⟩:=d2 e he;obtain⟨m',hm'⟩:=dy.mp ((mem (_,i')).mpr q3);refine{m',?_};rw[pl,hm'];rfl
theorem Av(n:Nat):∀(f j:Nat),n<2^(j+f)->∃k,j<=k/\sizeAbove.go n f (2^j)=2^k/\n<2^k/\(k=j\/2^k<=2*n)
 |0,j,h=>{j,ar _,rfl,h,.inl rfl}
 |f+1,j,h=>by
  unfold sizeAbove.go;by_cases c:2^j<=n
  ·rw[aC c,<-jZ];obtain⟨k,h1,h2,h3,h4⟩:=Av n f (j+1) (by rw[show j+1+f=j+(f+1) by lia];exact h);refine{k,by lia,h2,h3,.inr ?_};rcases h4 with h4|h4
   ·rw[h4,jZ];lia
   ·exact h4
  ·rw[az c];exact{j,ar _,rfl,by lia,.inl rfl}
def Au(h:n<2^64):∃k,sizeAbove n=2^k/\8<=2^k/\n<2^k/\2^k<=2*n+8:=by
 obtain⟨k,h1,h2,h3,h4⟩:=Av n 64 3 (aZ h (-8));have:2^3<=2^k:=gw (-8) h1;refine{k,h2,this,h3,?_};rcases h4 with h4|h4
 ·rw[h4];lia
 ·lia
def Qc(t:SetTable)(hs:List Int)(h:n<2^64)(je:hs.length<n):∃t' order,t.relaid hs.toArray n=some (t',order)/\n<=t'.mask/\t'.mask<=2*n+7/\t'.finger=t.finger/\t'.led=t.led/\t'.plain=t.plain/\order.toList.Perm (List.range hs.length)/\Tab t' (order.toList.map λi=>hs.getD i 0):=by obtain⟨k,e,h1,h2,h3⟩:=Au h;obtain⟨t',order,q1,q2,q3,q4,_,q5,q6,q7⟩:=Yt (mask:=sizeAbove n -1) (k:=k) (by rw[e];lia) (by rw[e];lia) t.finger (t.movedTo (sizeAbove n -1)) t.led t.plain hs (by rw[e];lia);exact{t',order,q1,by rw[q2,e];lia,by rw[q2,e];lia,q3,q4,q5,q6,q7}
theorem AG{α:Type}:∀l:List α,(List.range l.length).filterMap (λi=>l[i]?)=l
 |[]=>rfl
 |x::l=>by rw[bx,xl,fN];show x::_=_;rw[tH];congr 1;exact AG l
def N8{α:Type}{es:Array α}{order:Array Nat}(hp:order.toList.Perm (List.range es.size)):(order.filterMap (es[·]?)).toList.Perm es.toList/\∀(g:α->Int),(order.filterMap (es[·]?)).toList.map g=order.toList.map λi=>(es.toList.map g).getD i 0:=by
 have e1:(order.filterMap (es[·]?)).toList=order.toList.filterMap (es.toList[·]?):=by simp
 rw[e1];constructor
 ·have:=hp.filterMap (es.toList[·]?);rw[<-aS]at this;rwa [AG]at this
 ·intro g;have lt:∀i∈order.toList,i<es.toList.length:=λi hi=>by rw[aS];exact cY.mp (hp.mem_iff.mp hi)
  generalize order.toList=l at lt
  induction l with
  |nil=>rfl
  |cons i l ih=>
   have li:=lt i (aA ..);rw[fN,au li];show g _::_=_;rw[aU,ih λj hj=>lt j (aB _ hj)];congr 1;rw[cq,aK,au li];rfl
section
variable{prog:Program}{w:World}{K:Type}[DecidableEq K]{knd:KeyKind prog w K}{A:Around}{E:Aae}{s:Shared}
abbrev ent(knd:KeyKind prog w K)(x:List K×Addr):Int×Value:=(tupleKeyHash knd x.1,Value.ref x.2)
structure nM(knd:KeyKind prog w K)(h:Heap)(a:Addr)(o:Obj)(ep:Nat)(t:SetTable)(xs:List (List K×Addr)):Prop where
 ob:h.get? a=some o
 ex:o.ExactSet
 data:o.data=.set (xs.map (ent knd)).toArray ep t
 tab:Tab t (-33)
 je:xs.length*5<t.mask*3
 cap:t.mask<=8*xs.length+15
 nd:(xs.map (·.1)).Nodup
 is:∀x∈xs,IsTupleKey knd h x.1 x.2
def nM.fits(S:nM knd h a o ep t xs):t.fits (-13).size=true:=by have:=S.tab.fits;rw[ak]at this;simpa using this
def nM.state(S:nM knd s.heap a o ep t xs)(h:Q ((xs.map (ent knd)).toArray,ep,t) s):wpAny (-5) A (setState a) Q E s:=
 t4 S.ob S.data S.fits h
def nM.ne(S:nM knd h a o ep t xs)(hk:IsTupleKey knd h ks b):b≠a:=by rintro rfl;obtain⟨o',items,n,rA,_,qh,_⟩:=hk;obtain rfl:o'=o:=bK (rA.symm.trans S.ob);rw[S.data]at qh;cases qh
def HU(hx:IsTupleKey knd s.heap ks b)(h:Q false s):wpAny (-5) A (ofAClassStatement 8 (.ref b)) Q E s:=by
 have hT:=hx.typeIs;obtain⟨o,items,n,ho,_,hd,hi⟩:=hx;unfold ofAClassStatement;refine af (fZ hT ?_);dsimp only;rw[aC (-8)];refine af (ao ?_);refine af (bY ho hd ?_);refine af ?_;rw[<-oh];refine jS _ (λrest r s'=>r.1=none/\s'=s/\∀v∈rest,carriedByValue v=true) _ ?_ ?_ _ _ {rfl,rfl,hi.byValue}
 ·rintro v rest r s' ⟨hr,rfl,nE⟩;have hv:=nE v aA;have e:ofAClassStatement 7 v=pure false:=by
   cases v with
   |ref a=>simp[carriedByValue]at hv
   |_=>first|rfl|(unfold ofAClassStatement;rfl)
  rw[e];refine af (ao ?_);exact ao {rfl,rfl,λu xY=>nE u (aB _ xY)}
 ·rintro⟨r1,r2⟩ s' ⟨hr,rfl,_⟩;simp only at hr;subst hr;exact ao h
def Xk(hx:IsTupleKey knd s.heap x b)(l:Aag)(hl:∀v∈l,∃ks c,v=Value.ref c/\IsTupleKey knd s.heap ks c)(h:Q false s):wpAny (-5) A (searchCouldBeSeen (.ref b) l) Q E s:=by
 unfold searchCouldBeSeen;refine af ?_;refine jS _ (λrest r s'=>r.1=none/\s'=s/\∀v∈rest,∃ks c,v=Value.ref c/\IsTupleKey knd s.heap ks c) _ ?_ ?_ _ _ ⟨rfl,rfl,hl⟩
 ·rintro v rest r s' ⟨hr,rfl,nE⟩;obtain⟨ks,c,rfl,hk⟩:=nE v aA;have VE:=λu xY=>nE u (aB _ xY);by_cases e:(b==c||(carriedByValue (.ref b)&&carriedByValue (.ref c)))=true
  ·rw[aC e];exact ao ⟨rfl,rfl,VE⟩
  ·rw[az e];refine af (xy hx ?_);refine af (xy hk ?_);refine af (HU hx ?_);refine af (HU hk ?_);exact ao ⟨rfl,rfl,VE⟩
 ·rintro⟨r1,r2⟩ s' ⟨hr,rfl,_⟩;simp only at hr;subst hr;exact ao h
def Pn(hu:A.units<cLine)(S:nM knd s.heap a o ep t xs)(hk:IsTupleKey knd s.heap k b)(fr:Pk t (-14) D)
  (h1:(∃x∈xs,x.1=k)->Q (.there none) s) (h2:(∀x∈xs,x.1≠k)->Q (.free (ps t.mask (-14) D) false) s):
  ∀(m fuel d:Nat)(st:Option Probe),D -d=m->d<=D->m<fuel->st.getD (t.probeStart (-14))=pr t.mask (-14) d->(∀e,e<d->∀(i:Nat)(x:List K×Addr),t.place[i]?=some (ps t.mask (-14) e)->xs[i]?=some x->x.1≠k)->
   wpAny (-5) A (setSearchFrom a (.ref b) (-14) true fuel st) Q E s:=by
 intro m
 induction m using Nat.strongRecOn with
 |ind m ih=>
  intro fuel d st hm hd hf ic E2;cases fuel with
  |zero=>exact absurd hf (iA _)
  |succ fuel=>
   unfold setSearchFrom;refine af (S.state ?_);dsimp only;rw[S.tab.way];rw[ic];have hsL:∀(i:Nat)(x:List K×Addr),xs[i]?=some x->(-33)[i]?=some (tupleKeyHash knd x.1):=λi x e=>by rw[aK,e];rfl
   have hsR:∀(i:Nat)(g:Int),(-33)[i]?=some g->∃x,xs[i]?=some x/\tupleKeyHash knd x.1=g:=λi g e=>by rw[aK]at e;exact aX.mp e
   rcases Je S.tab fr (hashAt:=λi=>(((-13)[i]?).map (·.1)).getD 0) (λi g e=>by obtain⟨x,hx,rfl⟩:=hsR i g e;simp[hx]) (10*turns t.mask) d hd (by have:=fr.lt;lia)with⟨e1,e2⟩|⟨e,i,a1,a2,a3,a4,a5,a6⟩
   ·have e1':t.probe (λi=>(((-13)[i]?).map (·.1)).getD 0) (-14) (pr t.mask (-14) d)=some (.empty (ps t.mask (-14) D) none):=e1;show wpAny (-5) A (match t.probe (λi=>(((-13)[i]?).map (·.1)).getD 0) (-14) (pr t.mask (-14) d)with|some met=>_|_=>_) Q E s;rw[e1'];refine ao (h2 λx hx ex=>?_);obtain⟨i,hi⟩:=dy.mp hx;obtain⟨d',q1,q2⟩:=S.tab.reach i _ (hsL i x hi);rw[ex]at q1 q2;have lt:d'<D:=by
     rcases kX d' D with q|q|q
     ·exact q
     ·rw[q]at q1;exact(fr.no i q1).elim
     ·obtain⟨i',z⟩:=q2 D q;exact(fr.no i' z).elim
    by_cases c:d'<d
    ·exact E2 d' c i x q1 hi ex
    ·exact e2 d' ∅ lt i q1 (by rw[hsL i x hi,ex])
   ·obtain⟨y,hy,ey⟩:=hsR i _ a4;have a5':t.probe (λi=>(((-13)[i]?).map (·.1)).getD 0) (-14) (pr t.mask (-14) d)=some (.candidate (ps t.mask (-14) e) i (pr t.mask (-14) (e+1))):=a5;show wpAny (-5) A (match t.probe (λi=>(((-13)[i]?).map (·.1)).getD 0) (-14) (pr t.mask (-14) d)with|some met=>_|_=>_) Q E s;rw[a5'];have ym:=aH hy;have yk:=S.is y ym;have eL:(-13)[i]?=some (ent knd y):=by simp[hy]
    have cont:wpAny (-5) A (do
      let some (_,y):=(-13)[i]?|unsupported "internal:set-entry"
      let equal<-holding [y] (eqBool y (.ref b))
      let(fK,_,t')<-setState a
      if true&&equal then return .there none
      let some same:=t'.sameMemory t.moves t.mask|unsupported "set.changed-during-lookup:is-the-new-block-at-the-old-address"
      let ab9<-match(if same then t'.slot (ps t.mask (-14) e)else .empty)with
       | .live i'=>match fK[i']? with
        |some (_,y')=>do pure (if<-isSame y' y then some i' else none)
        |none=>pure none
       |_=>pure none
      match ab9 with
      |none=>rule "set.search.anew";setSearchFrom a (.ref b) (-14) true fuel none
      |some i'=>if equal then return .there (some i')else setSearchFrom a (.ref b) (-14) true fuel (some (pr t.mask (-14) (e+1)))) Q E s:=by
     rw[eL];refine af (bP (wpAny_eqBool_tuple hu yk hk ?_));refine af (S.state ?_);by_cases c:y.1=k
     ·rw[bp c];exact ao (h1 ⟨y,ym,c⟩)
     ·rw[bQ c];simp only[si,cw,d6];have sm:t.sameMemory t.moves t.mask=some true:=by simp[SetTable.sameMemory]
      rw[sm];simp only[lD];rw[GC S.tab.rise a3];dsimp only;rw[eL];dsimp only;have iss:isSame (Value.ref y.2) (Value.ref y.2)=pure true:=aC (beq_self_eq_true _);rw[iss];refine af (ao ?_);refine af (ao ?_);refine ih (D -(e+1)) ∅ fuel (e+1) _ rfl ∅ ∅ rfl λe' Bc i' x q1 q2 qk=>?_;by_cases c2:e'<d
      ·exact E2 e' c2 i' x q1 q2 qk
      ·by_cases c3:e'=e
       ·rw[c3]at q1;have:i'=i:=by rw[<-below_at S.tab.rise q1,<-below_at S.tab.rise a3]
        rw[this,hy]at q2;cases q2;exact c qk
       ·exact a6 e' ∅ ∅ i' q1 (by rw[hsL i' x q2,qk])
    by_cases led:t.led=true
    ·rw[led];exact cont
    ·have lf:t.led=false:=by cases q:t.led with|false=>rfl|true=>exact(led q).elim
     rw[lf];refine af (Xk hk _ (λv hv=>?_) ?_)
     ·obtain⟨p,hp,rfl⟩:=aR.mp hv;have hp':p∈xs.map (ent knd):=by have:=(Array.mem_filter.mp (l9.mp hp)).1;simpa using this
      obtain⟨x,hx,rfl⟩:=aR.mp hp';exact{x.1,x.2,rfl,S.is x hx}
     ·simp only[cw,d6];exact cont
end
section
variable{prog:Program}{w:World}{K:Type}[DecidableEq K]{knd:KeyKind prog w K}{A:Around}{E:Aae}{s:Shared}
def Lp(n:Nat)(h:carriedByValue v=true):∃b,hashByValue n v=pure b:=by
 cases v with
 |ref a=>simp[carriedByValue]at h
 |_=>cases n<;>exact⟨_,rfl⟩
def Zj(hx:IsTupleKey knd s.heap ks b)(h:∀c,Q c s):wpAny (-5) A (hashByValue 8 (.ref b)) Q E s:=by
 have hT:=hx.typeIs;obtain⟨o,items,n,ho,_,hd,hi⟩:=hx;unfold hashByValue;refine af (ik hT k7.lookup ?_);refine af (bY ho hd ?_);refine af ?_;rw[<-oh];refine jS _ (λrest r s'=>r.1=none/\s'=s/\∀v∈rest,carriedByValue v=true) _ ?_ ?_ _ _ {rfl,rfl,hi.byValue}
 ·rintro v rest r s' ⟨hr,rfl,nE⟩;obtain⟨c,e⟩:=Lp 7 (nE v aA);rw[e];refine af (ao ?_);cases c with
  |false=>
   exact ao (ao (h false))
  |true=>
   exact ao {rfl,rfl,λu xY=>nE u (aB _ xY)}
 ·rintro⟨r1,r2⟩ s' ⟨hr,rfl,_⟩;simp only at hr;subst hr;exact ao (h true)
def Sm(ob:s.heap.get? a=some o)(ex:o.ExactSet)(hd:o.data=.set (xs.map (ent knd)).toArray ep t)(tab:Tab t (-33))(nd:(xs.map (·.1)).Nodup)(is:∀x∈xs,IsTupleKey knd s.heap x.1 x.2)
  (hn:xs.length*2<=n) (hn4:n<=xs.length*4) (h0:0<n) (hx:xs.length<=100000) (uf:n<=100000) (h:∀h' ys o' Bk t',Heap.SameBut a s.heap h'->nM knd h' a o' Bk t' ys->t'.led=t.led->ys.Perm xs->Q () {s with heap:=h'}):wpAny (-5) A (setRelay a n) Q E s:=by
 have fits:t.fits (-13).size=true:=by have:=tab.fits;rw[ak]at this;simpa using this
 unfold setRelay;refine af (t4 ob hd fits ?_);dsimp only;obtain⟨k,e1,e2,e3,e4⟩:=Au (n:=n) ∅;rw[az (by rw[e1,b8];lia)];have hm:(-13).map (·.1)=(-33).toArray:=by simp[uu]
 obtain⟨t',order,q1,q2,qc,q3,q4,q5,q6,q7⟩:=Qc t (-33) (n:=n) ∅ (by rw[ak];lia);rw[hm,q1];rw[ak]at q6;have oz:order.toList.Perm (List.range (-13).size):=by simpa using q6
 obtain⟨o1,o2⟩:=N8 oz;have rp:(order.filterMap ((-13)[·]?))=((order.toList.filterMap (xs[·]?)).map (ent knd)).toArray:=by apply vV.mp;simp[List.map_filterMap]
 have py:(order.toList.filterMap (xs[·]?)).Perm xs:=by have:=q6.filterMap (xs[·]?);rwa [AG]at this
 have ly:=py.length_eq;have hh:(order.toList.filterMap (xs[·]?)).map (λx=>tupleKeyHash knd x.1)=order.toList.map λi=>(-33).getD i 0:=by have:=o2 (·.1);rw[rp]at this;simpa[uu]using this
 rw[<-hh]at q7;generalize order.toList.filterMap (xs[·]?)=ys at*;refine af ?_;show wpAny (-5) A (if((order.filterMap ((-13)[·]?)).size !=(-13).size)=true then unsupported _ else pure (order.filterMap ((-13)[·]?),t')) _ E s;rw[rp,az (by simp[ly])];refine ao ?_;refine Cb ob hd ?_ (by rw[aQ,ak,ly,b8];lia);have S2:nM knd (s.heap.update a (Obj.putSet (ys.map (ent knd)).toArray t')) a {o with data:=.set (ys.map (ent knd)).toArray (ep+1) t'} (ep+1) t' ys:=by
  have sb:=bT s.heap a (Obj.putSet (ys.map (ent knd)).toArray t');refine{?_,ex,rfl,q7,by lia,by lia,(py.map _).nodup_iff.mpr nd,λx hx=>?_}
  ·have:=cH (Obj.putSet (ys.map (ent knd)).toArray t') ob (by rw[AI _ t' hd];rfl);rw[AI _ t' hd]at this;exact this
  ·have xW:=is x (py.mem_iff.mp hx);have ne:x.2≠a:=by intro z;obtain⟨o',items,n,rA,_,qh,_⟩:=xW;rw[z]at rA;obtain rfl:o'=o:=bK (rA.symm.trans ob);rw[hd]at qh;cases qh
   obtain⟨o',items,n,rA,hc,qh,hi⟩:=xW;exact{o',items,n,(sb.2 _ ne).trans rA,hc,qh,hi}
 exact h _ ys _ _ _ (bT s.heap a _) S2 q4 py
def Zk(hu:A.units<cLine)(S:nM knd s.heap a o ep t xs)(hk:IsTupleKey knd s.heap k b)(hx:xs.length<=1000)
  (h1:(∃x∈xs,x.1=k)->Q false s) (h2:(∀x∈xs,x.1≠k)->∀h' ys o' Bk t',Heap.SameBut a s.heap h'->nM knd h' a o' Bk t' ys->t'.led=t.led->ys.Perm ((k,b)::xs)->Q true {s with heap:=h'}):
  wpAny (-5) A (setAddHashed a (.ref b) (-14)) Q E s:=by
 unfold setAddHashed setAddHashedIn;refine bP (af (S.state ?_));dsimp only;have nb:byScan (.ref b) (xs.map (ent knd)).toArray=false:=by simp[byScan,Value.scannable]
 rw[nb];obtain⟨D,fr⟩:=S.tab.free (-14);unfold setSearch;have bound:=fr.lt;have hm:=S.cap;unfold turns at bound;refine af (Pn hu S hk fr (λq=>ao (h1 q)) (λq=>?_) D 100000 0 none rfl (aP _) ∅ (SR t _) λe he=>absurd he (iA _));refine af (S.state ?_);have je:=S.je;have room:(-33).length+1<=t.mask:=by rw[ak];lia
 have tb:=S.tab.put fr room;generalize ep1:t.put (ps t.mask (-14) D)=tp at tb;obtain⟨t1,p⟩:=tp;have mk1:t1.mask=t.mask:=by have:(t.put (ps t.mask (-14) D)).1.mask=t.mask:=rfl;rw[ep1]at this;exact this
 have ld1:t1.led=t.led:=by have:(t.put (ps t.mask (-14) D)).1.led=t.led:=rfl;rw[ep1]at this;exact this
 have esz:(-13).size=xs.length:=by simp
 have ins:insertAt (xs.map (ent knd)).toArray p (tupleKeyHash knd k,Value.ref b)=((jc xs p (k,b)).map (ent knd)).toArray:=by apply vV.mp;rw[qJ,J0]
 have hsI:(jc xs p (k,b)).map (λx=>tupleKeyHash knd x.1)=jc (-33) p (-14):=J0 _ _ _ _;have pI:=Q3 xs p (k,b);have nI:((jc xs p (k,b)).map (·.1)).Nodup:=by refine(pI.map _).nodup_iff.mpr ?_;rw[aU];refine cX.mpr {λz=>?_,S.nd};obtain⟨x,hx,e⟩:=aR.mp z;exact q x hx e
 have isI:∀x∈jc xs p (k,b),IsTupleKey knd s.heap x.1 x.2:=λx hx=>by
  rcases aG.mp (pI.mem_iff.mp hx)with rfl|hx
  ·exact hk
  ·exact S.is x hx
 have lI:(jc xs p (k,b)).length=xs.length+1:=by rw[pI.length_eq];rfl
 have fin:∀t2:SetTable,t2.mask=t1.mask->t2.place=t1.place->t2.dummies=t1.dummies->t2.led=t1.led->wpAny (-5) A (do
   storeSet a (insertAt (xs.map (ent knd)).toArray p (tupleKeyHash knd k,Value.ref b)) t2
   if(!false&&t2.tooFull)=true then
    setRelay a (SetTable.grown ((-13).size+1))
    pure true
   else pure true) Q E s:=λt2 e1 e2 e3 e4=>by
  have Vn:Tab t2 ((jc xs p (k,b)).map λx=>tupleKeyHash knd x.1):=by rw[hsI];exact tb.of_eq e1 e2 e3
  rw[ins];refine af (Cb S.ob S.data ?_ (by rw[aQ,ak,lI,b8];lia));have sb:=bT s.heap a (-60);have ob2:(s.heap.update a (-60)).get? a=some {o with data:=.set ((jc xs p (k,b)).map (ent knd)).toArray (ep+1) t2}:=by have:=cH (-60) S.ob (by rw[AI _ t2 S.data];rfl);rw[AI _ t2 S.data]at this;exact this
  have fl:t2.tooFull=decide ((xs.length+1)*5≥t.mask*3):=by unfold SetTable.tooFull SetTable.fill;rw[Vn.RU,Vn.sz,ak,lI,e1,mk1];rfl
  have A6:∀x∈jc xs p (k,b),IsTupleKey knd (s.heap.update a (-60)) x.1 x.2:=λx hx=>by have ne:=S.ne (isI x hx);obtain⟨o',items,n,rA,hc,qh,hi⟩:=isI x hx;exact{o',items,n,(sb.2 _ ne).trans rA,hc,qh,hi}
  by_cases c:t2.tooFull=true
  ·rw[c];have g:SetTable.grown ((-13).size+1)=(xs.length+1)*4:=by unfold SetTable.grown;rw[esz,az ∅]
   rw[g];refine af (Sm ob2 S.ex rfl Vn nI A6 ∅ ∅ ∅ ∅ ∅ λh' ys o' Bk t' qy S' l' py=>?_);exact ao (h2 q h' ys o' Bk t' (sb.trans qy) S' (l'.trans (e4.trans ld1)) (py.trans pI))
  ·rw[fL.mpr c];rw[fl]at c;have c':¬(xs.length+1)*5≥t.mask*3:=λz=>c (bp z);exact ao (h2 q _ (jc xs p (k,b)) _ _ _ sb {ob2,S.ex,rfl,Vn,by rw[lI,e1,mk1];lia,by rw[lI,e1,mk1];lia,nI,A6} (e4.trans ld1) pI)
 by_cases c:t1.plain=true
 ·rw[aC c];refine af (Zj hk λbv=>?_);cases bv with
  |true=>exact fin t1 rfl rfl rfl rfl
  |false=>exact fin {t1 with plain:=false} rfl rfl rfl rfl
 ·rw[az c];refine af (ao ?_);exact fin t1 rfl rfl rfl rfl
end
end Tb
namespace Tb
open PySem
def Fg{α:Type}{l:List α}(h:i<l.length):(l[i]::l.eraseIdx i).Perm l:=by rw[qq];refine List.perm_middle.symm.trans ?_;rw[List.getElem_cons_drop,c8]
theorem Mn(next:Nat->Nat):∀(f k:Nat)(left:List α)(out:Array α),f=left.length->(pickOrder.go next f k left out).toList.Perm (out.toList++left)
 |0,k,left,out,h=>by rw[ff.mp h.symm,b6];exact .refl _
 |f+1,k,left,out,h=>by
  have hl:next k % left.length<left.length:=lW _ ∅
  unfold pickOrder.go;rw[au hl];refine(Mn next f (k+1) (left.eraseIdx (next k % left.length)) (out.push left[next k % left.length]) (by rw[mD hl];lia)).trans ?_;rw[k9,cR];exact(Fg hl).append_left _
def Qf(next:Nat->Nat)(xs:Array α):(pickOrder next xs).toList.Perm xs.toList:=by
 have:=Mn next xs.size 0 xs.toList #[] (-9)
 rw[kK]at this;exact this
section
variable{M:Model}{A:Around}{E:Aae}
theorem LJ:∀(n:Nat)(xs:List α)(s:Shared){Q:List α->Shared->Prop},n=xs.length->(∀ys d,ys.Perm xs->Q ys {s with drawn:=d})->wpAny M A (drawOrder n xs) Q E s
 |0,xs,s,Q,hn,h=>by have e:xs=[]:=ff.mp hn.symm;subst e;unfold drawOrder;exact ao (h [] s.drawn (.refl _))
 |n+1,[],s,Q,hn,h=>by simp at hn
 |n+1,x::xs,s,Q,hn,h=>by
  unfold drawOrder;refine af (λΓ p hΓ=>?_);refine{by simp,?_};have hl:M.w.draws .order (s.drawn.get .order) %(x::xs).length<(x::xs).length:=lW _ (-9);generalize M.w.draws .order (s.drawn.get .order) %(x::xs).length=i at hl;have key:wpAny M A (match(x::xs)[i]? with
   |some y=>do return y::(<-drawOrder n ((x::xs).eraseIdx i))
   |none=>unsupported "internal:drawOrder") Q E {s with drawn:=s.drawn.bump .order}:=by
   rw[au hl];dsimp only;refine af (LJ n _ _ (by rw[mD hl];lia) λys d hp=>ao ?_);exact h _ d ((hp.cons _).trans (Fg hl))
  exact key
end
end Tb
namespace Tb
open PySem PySem.SetTable PyProof.Rows
section
variable{prog:Program}{w:World}{K:Type}[DecidableEq K]{knd:KeyKind prog w K}
def LV(x:IsTupleKey knd h k b)(kp:∀b o,h.get? b=some o->h'.get? b=some o):IsTupleKey knd h' k b:=by obtain⟨o,aY,n,ho,r⟩:=x;exact{o,aY,n,kp _ _ ho,r}
structure Ee(knd:KeyKind prog w K)(ks:List (List K))(bs:Aaj)(i:Nat)(xs:List (List K×Addr)):Prop where
 len:xs.length<=i
 mem:∀k,k∈xs.map (·.1)↔k∈ks.take i
 HP:∀x∈xs,∃j:Nat,ks[j]?=some x.1/\bs[j]?=some x.2
section
variable{A:Around}{R:Result->Shared->Prop}{I:Addr}{fp wr:Aaj}{G:Array GenState->Array GenState->Prop}{n:Nat}{P:Nat->Value->Prop}{St:Nat->Shared->Prop}
def acq(W:WalksS prog w A.in1 I fp wr G n P St)(S:Addr)(nS:S∉fp)(hS0:h0.get? S=none)(We:∀b∈wr,h0.get? b=none)(ks:List (List K))(bs:Aaj)(lk:ks.length=n)(lb:bs.length=n)(hv:∀(i:Nat) v,P i v->∃b,bs[i]?=some b/\v=.ref b)
  (hk:∀(i:Nat) k b,ks[i]?=some k->bs[i]?=some b->IsTupleKey knd h0 k b) (hu:A.in1.units<cLine) (hn:n<=1000) (led:Bool) (m:Nat):
  ∀(i:Nat)(s:Shared)(o:Obj)(ep:Nat)(t:SetTable)(xs:List (List K×Addr)),n -i=m->i<=n->St i s->(∀b o,h0.get? b=some o->s.heap.get? b=some o)->nM knd s.heap S o ep t xs->t.led=led->Ee knd ks bs i xs->
   (∀s' o ep t xs,Moved (S::wr) G s s'->nM knd s'.heap S o ep t xs->t.led=led->Ee knd ks bs n xs->R (.ok (.ret .none)) s')->
   codeAny (-5) A (.builtin "set.update.loop" {[.ref S,.ref I],[]}) R s:=by
 have nw:S∉wr:=λh=>nS (W.sub _ h);have sub:∀b∈wr,b∈S::wr:=λb q=>aB _ q;have jx:∀{s s':Shared}{o:Obj}{ep:Nat}{t:SetTable}{xs:List (List K×Addr)}{i:Nat},Moved wr G s s'->(∀b o,h0.get? b=some o->s.heap.get? b=some o)->nM knd s.heap S o ep t xs->Ee knd ks bs i xs->nM knd s'.heap S o ep t xs/\∀b o,h0.get? b=some o->s'.heap.get? b=some o:=λ{s s' o ep t xs i} hm kp hS hH=>by have CU:∀b o,h0.get? b=some o->s'.heap.get? b=some o:=λb o e=>hm.heap b o (λz=>by rw[We b z]at e;cases e) (kp b o e);refine{{hm.heap S _ nw hS.ob,hS.ex,hS.data,hS.tab,hS.je,hS.cap,hS.nd,λx hx=>?_},CU};obtain⟨j,j1,j2⟩:=hH.HP x hx;exact LV (hk j _ _ j1 j2) CU
 induction m with
 |zero=>
  intro i s o ep t xs hm hi st kp hS hl hH hR;have e:i=n:=by lia
  subst e;refine dv nX ?_;rw[gA gg _];refine af (m:=pyNext (.ref I)) (W.done s _ _ st λs' hm=>ao (hR s' o ep t xs (hm.mono sub) (jx hm kp hS hH).1 hl hH))
 |succ m ih=>
  intro i s o ep t xs hm hi st kp hS hl hH hR;have bJ:i<n:=by lia
  refine dv nX ?_;rw[gA gg _];refine af (m:=pyNext (.ref I)) (W.item i s _ _ bJ st λv s' hP gZ hm=>?_);obtain⟨b,hb,rfl⟩:=hv i v hP;obtain⟨k,Kk⟩:∃k,ks[i]?=some k:={_,au ∅};obtain⟨zX,CU⟩:=jx hm kp hS hH;have kb:IsTupleKey knd s'.heap k b:=LV (hk i k b Kk hb) CU;have et:ks.take (i+1)=ks.take i++[k]:=by rw[bg,Kk];rfl
  have pk:=hH.len;refine af (m:=holding [Value.ref b] (setAdd S (.ref b))) (bP ?_);unfold setAdd;refine bP (af (wpAny_pyHash_tuple hu kb ?_));refine Zk (s:={s' with toks:=s'.toks+(k.length+1)}) hu zX kb ∅ (λq=>?_) λq h' ys o' Bk t' sb S2 adw py=>?_
  ·have hH2:Ee knd ks bs (i+1) xs:={by lia,λz=>by
    rw[et,bf,<-hH.mem,ay];exact{.inl,λc=>c.elim id λe=>by obtain⟨x,hx,ex⟩:=q;rw[e,<-ex];exact aR.mpr ⟨x,hx,rfl⟩},hH.HP}
   refine ao {gN gg _,ih (i+1) _ o ep t xs ∅ bJ (W.frame _ s' s'.heap _ gZ (d7 _ _) λb q o e=>e) CU zX hl hH2 λs2 o2 ep2 t2 Zg m2 a1 a2 a3=>hR s2 o2 ep2 t2 Zg (Moved.trans W.gtrans ((hm.mono sub).then_heap (h':=s'.heap) (d7 _ _) λb o _ e=>e) m2) a1 a2 a3}
  ·have hH2:Ee knd ks bs (i+1) ys:={by rw[py.length_eq,bx];lia,λz=>by
    rw[et,bf,<-hH.mem,ay,(py.map (·.1)).mem_iff,aU,aG];exact Or.comm,λx hx=>by
    rcases aG.mp (py.mem_iff.mp hx)with rfl|hx
    ·exact⟨i,Kk,hb⟩
    ·exact hH.HP x hx}
   refine ao {gN gg _,ih (i+1) _ o' Bk t' ys ∅ bJ (W.frame _ s' h' _ gZ (d7 _ _) λb q o e=>?_) (λb o e=>?_) S2 (adw.trans hl) hH2 λs2 o2 ep2 t2 Zg m2 a1 a2 a3=>hR s2 o2 ep2 t2 Zg (Moved.trans W.gtrans ((hm.mono sub).then_heap (h':=h') (d7 _ _) λb o q e=>?_) m2) a1 a2 a3}
   ·rw[sb.2 b λh:b=S=>nS (h▸q)];exact e
   ·rw[sb.2 b λh:b=S=>by rw[h,hS0]at e;cases e];exact CU b o e
   ·rw[sb.2 b λh:b=S=>q (h▸aA)];exact e
end
section
variable{A:Around}{E:Aae}{s:Shared}
abbrev pR(w:World):Bool:=!w.params.followText "set-order"
abbrev sr(led:Bool):Obj:={cls:=.type "set",dict:=none,data:=.set #[] 0 (.fresh 0 0 led)}
def code_set_new(a:Value)(h:Q₁ (-12) {s with heap:=s.heap.push (sr (pR w))}):
  codeAny (-5) A (.call (.builtin "set.__new__") {[.type "set",a],[]}) (wants Q₁ E) s:=by
 refine codeAny_of_tree ?_;show wpAny _ A.in1 (do checkBuiltinCall "set.__new__" {[.type "set",a],[]};again (.builtin "set.__new__" {[.type "set",a],[]})) _ _ s;refine af (Cz (PySem.F.newCall_set_1 a) (ao {gN yo _,dv PySem.F.entry_set_new ?_}));rw[gA yo _];unfold Builtin.«set.__new__» Builtin.Frozenset.newClass;have Ue:=sub_set_self;obtain⟨hp,g,d,tk,os⟩:=s;dsimp only
 wp_walk
 refine uX (ao ?_);dsimp only;simp only[newObj];refine af (wpAny_alloc (ao ?_));exact ao h
def R9(hA:A.handled=none)(hu:A.in1.in1.in1.units<cLine)(hl:s.heap.IsList l items)(hi:items.toList=bs.map Value.ref)(lb:ks.length=bs.length)(hk:∀(i:Nat) k b,ks[i]?=some k->bs[i]?=some b->IsTupleKey knd s.heap k b)(hb:bs.length<=1000)
  (k:∀(h':Heap)(tk:Nat) o ep t xs,nM knd h' s.heap.objs.size o ep t xs->t.led=pR w->Ee knd ks bs bs.length xs->(∀b o,s.heap.get? b=some o->h'.get? b=some o)->Q (-12) {s with heap:=h',toks:=tk}):
  wpAny (-5) A (call (.type "set") [.ref l]) Q E s:=by
 obtain⟨c,tl,aeQ⟩:=BE.mro;have ft:=BE;have aeI:=ft.made;have Ue:=ft.sub;refine Ei (codeAny_of_tree ?_);show wpAny _ _ (callAny (.type "set") _) _ _ _;refine ao {jj _ (-3),dv PySem.F.entry_type_call ?_};rw[Around.under_plain (weight_type_call_type "set" [.ref l] []) rfl];have h1:=ft.notType;have h2:=ft.canCreate;have hct:=PySem.F.typeCall_set_1 (.ref l)
 repeat (any_goals (first|assumption|wp_step))
 refine lF (code_set_new (.ref l) (E:=E) (Q₁:=λx z=>x=.ref s.heap.objs.size/\z={s with heap:=s.heap.push (sr (pR w))}) ⟨rfl,rfl⟩) λr z hr=>?_;cases r with
 |error e=>exact hr
 |ok fl=>
  cases fl with
  |ret x=>
   obtain⟨rfl,rfl⟩:=hr;have hS:(s.heap.push (sr (pR w))).get? s.heap.objs.size=some (sr (pR w)):=aF _ rfl;have hT:Shared.TypeIs {s with heap:=s.heap.push (sr (pR w))} (-12) "set":=⟨_,hS,rfl⟩;have hli:=ft.init.lookup;have hbi:=ft.init.bind (-12)
   repeat (any_goals (first|assumption|wp_step))
   refine lF (qQ (R:=wants (λr z=>r=.none/\∃h' tk o ep t xs,z={s with heap:=h',toks:=tk}/\nM knd h' s.heap.objs.size o ep t xs/\t.led=pR w/\Ee knd ks bs bs.length xs/\(∀b o,s.heap.get? b=some o->h'.get? b=some o)) E) ft.init.plain PySem.F.entry_set_init (check_set_init_1 hT ?_)) λr2 z2 xZ=>?_
   ·obtain⟨⟨oc,od,oda,zL⟩,MU,zW,nl,hdl⟩:=hl;simp only at zW hdl;subst zW hdl;have aee:=aq (sr (pR w)) MU;have aeN:=PySem.F.sub_list_set;have aeO:=PySem.F.sub_list_frozenset;have ie:(Value.type "list"==Value.type "dict")=false:=by decide
    have pk:(s.heap.push (sr (pR w))).IsList l items:=⟨_,aee,rfl,nl,rfl⟩;have hh3:A.in1.in1.in1.handled=none:=by simp[hA]
    unfold Builtin.«set.__init__» noKeywords Builtin.Frozenset.updateFrom;generalize hPI:pyIter=PI
    wp_walk
    subst hPI;refine kT pk (af (wpAny_runValue ?_));have hlS:l<s.heap.objs.size:=aI MU;have nI:l≠(s.heap.push (sr (pR w))).objs.size:=by rw[cB];exact aL (eA hlS)
    have nS:s.heap.objs.size∉[(s.heap.push (sr (pR w))).objs.size,l]:=by
     rw[cB];intro hm;rcases aG.mp hm with hm|hm
     ·exact absurd hm (aL (dC _))
     ·exact absurd (ay.mp hm) (bA hlS)
    have hsz:items.size=bs.length:=by rw[<-aS,hi,ak]
    refine acq (knd:=knd) (h0:=s.heap) ((Walks.list hh3 _ l nI items).toS) s.heap.objs.size nS (iB (ar _)) (λb hb=>iB (by rw[ay.mp hb,cB];exact fH _)) ks bs ∅ ∅ (λi v hv=>?_) hk (by first|exact hu|simpa using hu) ∅ (pR w) items.size 0 _ (sr (pR w)) 0 (.fresh 0 0 (pR w)) [] rfl (aP _) {{_,aF _ rfl,rfl,rfl},pk.push _} (λb o e=>aq _ (aq _ e)) ?_ rfl {ar _,λk=>by simp,λx hx=>nomatch hx} λs' o ep t xs hm zX qM hH=>?_
    ·have e:items.toList[i]?=some v:=by rw[bI];exact hv
     rw[hi,aK]at e;obtain⟨b,hb,rfl⟩:=aX.mp e;exact⟨b,hb,rfl⟩
    ·exact{aq _ hS,⟨rfl,rfl,rfl⟩,rfl,Tab.fresh 0 0 _,by show 0*5<7*3;decide,by show 7<=15;decide,fI,λx hx=>nomatch hx}
    ·obtain⟨h',g',d',Em,VG⟩:=s';have eg:g'=s.gens:=hm.gens;have ed:d'=s.drawn:=hm.drawn;have eo:VG=s.os:=hm.os;subst eg ed eo;rw[hsz]at hH;refine ao (ao {rfl,h',Em,o,ep,t,xs,rfl,zX,qM,hH,λb o e=>hm.heap b o ?_ (aq _ (aq _ e))});have lt:=aI e;rintro(_|⟨_,q⟩)
     ·exact dD _ lt
     ·rw[ay.mp q,cB]at lt;exact absurd lt (FD.mpr (fH _))
   ·cases r2 with
    |error e=>exact xZ
    |ok fl2=>
     cases fl2 with
     |ret r=>
      obtain⟨rfl,h',tk,o,ep,t,xs,rfl,zX,qM,hH,Kk⟩:=xZ
      repeat (any_goals (first|assumption|wp_step))
      exact k _ _ o ep t xs zX qM hH Kk
     |_=>exact xZ.elim
  |_=>exact hr.elim
end
end
end Tb
namespace Tb
open PySem PySem.SetTable
def F4:entryFor table "set.__iter__"=some Builtin.«frozenset.__iter__»:=
 yf (id':="frozenset.__iter__") (by kernel_rfl) rfl (-3) (by kernel_rfl)
def eU:Slot "set_iterator" "__next__" "set_iterator.__next__":=
 .of (owner:="set_iterator") (n:="__next__") (by rw[jn,fY];kernel_rfl) (-3) (-3) (-3)
  (by first|exact .inl (by decide+kernel)|exact .inr (by decide+kernel)) (by rw[xU];kernel_rfl)
def mW:entryFor table "set_iterator.__next__"=some Builtin.«set_iterator.__next__»:=entryFor_of_tree (by kernel_rfl)
def oE(a:Value):argsOk "set_iterator.__next__" {[a],[]}:=by unfold argsOk;kernel_rfl
def xA:Slot "set_iterator" "__iter__" "set_iterator.__iter__":=
 .of (owner:="set_iterator") (n:="__iter__") (by rw[jn,fY];kernel_rfl) (-3) (-3) (-3)
  (by first|exact .inl (by decide+kernel)|exact .inr (by decide+kernel)) (by rw[xU];kernel_rfl)
def Fh:entryFor table "set_iterator.__iter__"=some Builtin.«dict_keyiterator.__iter__»:=
 yf (id':="dict_keyiterator.__iter__") (by kernel_rfl) rfl (-3) (by kernel_rfl)
def Gi(a:Value):argsOk "set_iterator.__iter__" {[a],[]}:=by unfold argsOk;kernel_rfl
def XC:typeLookup (.type "set") "__len__"=pure (some (.builtin "set.__len__")):=by rw[jn,fY];kernel_rfl
section
variable{prog:Program}{w:World}{A:Around}{E:Aae}{s:Shared}
structure Sat(w:World)(h:Heap)(S:Addr)(es:Array (Int×Value))(ep:Nat)(t:SetTable):Prop where
 ob:∃o,h.get? S=some o/\o.ExactSet/\o.data=.set es ep t
 fits:t.fits es.size=true
 led:t.led=!w.params.followText "set-order"
 rise:nN t.place
def Sat.keep{S:Addr}(x:Sat w h S es ep t)(k:∀o,h.get? S=some o->h'.get? S=some o):Sat w h' S es ep t:=by obtain⟨⟨o,ho,r⟩,a,b,c⟩:=x;exact{{o,k o ho,r},a,b,c}
def Sat.state{S:Addr}(x:Sat w s.heap S es ep t)(h:Q (es,ep,t) s):wpAny (-5) A (setState S) Q E s:=by obtain⟨⟨o,ho,_,hd⟩,hf,_,_⟩:=x;exact t4 ho hd hf h
def Ao(h:Q (w.params.followText "set-order") s):wpAny (-5) A setsByText Q E s:=by unfold setsByText;exact af (uX (ao h))
def su(w:World)(S:Addr)(es:Array (Int×Value))(ep:Nat):List (Int×Value):=if w.params.followText "set-order"=true then(pickOrder (w.params.setOrder S ep) es).toList else es.toList
def wU(w:World)(t:SetTable):Nat->Nat
 |0=>0
 |i+1=>if w.params.followText "set-order"=true then 0 else t.place.getD i 0+1
def yQ(w:World)(S:Addr)(es:Array (Int×Value))(ep:Nat):(su w S es ep).Perm es.toList:=by
 unfold su;split
 ·exact Qf _ _
 ·exact .refl _
def IH(t:SetTable):Nat->Nat
 |0=>0
 |i+1=>t.place.getD i 0+1
def U2(hr:nN t.place):∀i,i<=t.place.size->below t.place (IH t i)=i:=by
 intro i hi;obtain⟨h1,h2,h3⟩:=uK hr (IH t i);generalize eb:below t.place (IH t i)=b at h1 h2 h3⊢;rcases kX b i with c|c|c
 ·cases i with
  |zero=>lia
  |succ i=>
   have:=h3 b (ar _) ∅;rw[show IH t (i+1)=t.place.getD i 0+1 from rfl]at this;by_cases e:b=i
   ·rw[e]at this;lia
   ·have:=hr b i ∅ ∅;lia
 ·exact c
 ·have:=h2 i c;cases i with
  |zero=>rw[show IH t 0=0 from rfl]at this;lia
  |succ i=>
   rw[show IH t (i+1)=t.place.getD i 0+1 from rfl]at this;have:=hr i (i+1) ∅ ∅;lia
def LI{S:Addr}(x:Sat w s.heap S es ep t)(hi:i<=es.size)(hd:w.params.followText "set-order"=true\/(!t.plain&&decide (es.size>1))=false)
  (h:Q ((su w S es ep)[i]?.map λe=>(e.2,wU w t (i+1))) s):wpAny (-5) A (setNext S (wU w t i) i ep) Q E s:=by
 unfold setNext;refine af (x.state ?_);dsimp only;refine af (Ao ?_);by_cases c:w.params.followText "set-order"=true
 ·rw[aC c];rw[az (-9)];refine af ?_;unfold setWalk;refine af (x.state ?_);dsimp only;refine af (Ao ?_);rw[aC c];refine af (uX (ao (ao ?_)));have e1:su w S es ep=(pickOrder (w.params.setOrder S ep) es).toList:=aC c;have e2:wU w t (i+1)=wU w t i:=by
   cases i with
   |zero=>exact aC c
   |succ i=>exact(aC c).trans (aC c).symm
  rw[e1,e2,bI]at h;exact h
 ·rw[az c];have qh:=hd.resolve_left c;have cf:w.params.followText "set-order"=false:=fL.mpr c;have fz:=x.fits;have sz:t.place.size=es.size:=by unfold SetTable.fits at fz;have:=(rf.mp fz).1;exact iH this
  show wpAny (-5) A (if(!t.plain&&decide (es.size>1))=true then _ else _) Q E s;rw[qh];simp only[cw,d6];refine af ?_;show wpAny (-5) A (if(!t.led&&!es.isEmpty)=true then _ else _) _ E s;rw[x.led,cf];simp only[Bool.not_false,iI,lK,cw,d6];refine ao (ao ?_);have e0:wU w t i=IH t i:=by
   cases i with
   |zero=>rfl
   |succ i=>exact az c
  rw[e0,U2 x.rise i ∅];have e1:su w S es ep=es.toList:=az c;rw[e1,bI]at h;by_cases lt:i<es.size
  ·have g1:es[i]?=some es[i]:=bD lt;have g2:t.place[i]?=some (t.place.getD i 0):=getD_some.mpr {by lia,rfl};have g3:wU w t (i+1)=t.place.getD i 0+1:=az c;rw[g1]at h⊢;rw[g2];rw[eI,g3]at h;exact h
  ·have g1:es[i]?=none:=kS ∅;rw[g1]at h⊢;exact h
def GD(hT:s.TypeIs (.ref I) "set_iterator")(h:Q (.ref I) s):wpAny (-5) A (pyIter (.ref I)) Q E s:=by refine oR hT xA (bz xA hT Fh ?_ (Gi _));show wpAny _ _ (ret (.ref I)) _ _ s;exact ao {_,rfl,"set_iterator",_,hT,eU.lookup,h}
abbrev oK(first:Value)(i:Nat)(S:Addr)(n ep:Nat):Obj:={cls:=.type "set_iterator",data:=.fields #[first,.int i 0,.ref S,.int n 0,.int ep 0]}
def BR(hh:A.handled=none)(k:∀(h':Heap)(e:Addr),(∀b o,h.get? b=some o->h'.get? b=some o)->(∃o,h'.get? e=some o/\o.cls=.type "StopIteration")->E (.ref e) {s with heap:=h'}):
  wpAny (-5) A (newExc (.type "StopIteration") []>>=λe=>(raiseNew e:Sem α)) Q E {s with heap:=h}:=by
 refine af ?_;simp only[newExc,newTuple];refine af (cx ?_ (by size_fits));refine af (m:=firstArgMember _ _) (Cz (a:=Value.none) (by first|rfl|(simp only[firstArgMember];rfl)) ?_);refine cx ?_ (by size_fits);simp only[raiseNew];refine af (wpAny_handled ?_);rw[hh];refine af (ao (wpAny_throw ?_));exact k _ _ (λb o e=>aq _ (aq _ e)) {_,aF _ rfl,rfl}
def uy{h:Heap}(ho:h.get? a=some {cls:=cls,data:=.fields vs}):(h.update a (Obj.mapFields (·.setIfInBounds i x))).get? a=some {cls:=cls,data:=.fields (vs.setIfInBounds i x)}:=cH _ ho rfl
def abP(hh:A.handled=none){S I:Addr}(ne:S≠I)(hd:w.params.followText "set-order"=true\/(!t.plain&&decide (es.size>1))=false):
  WalksS prog w A I [I,S] [I] (λa b=>b=a) es.size (λi v=>((su w S es ep).map (·.2))[i]?=some v) (λi s=>Sat w s.heap S es ep t/\s.heap.get? I=some (oK (.int (wU w t i) 0) i S es.size ep)) where
 sub:=λb hb=>by rw[ay.mp hb];exact aA
 grefl:=λ_=>rfl
 gtrans:=λ_ _ _ h1 h2=>h2.trans h1
 frame:=λi s h' tk st _ hk=>{st.1.keep λo e=>hk S (-9) o e,hk I (-9) _ st.2}
 item:=by
  intro i s Q E hi ⟨x,hI⟩ k;have hT:s.TypeIs (.ref I) "set_iterator":=⟨_,hI,rfl⟩;unfold pyNext;refine af (-28);unfold Builtin.«set_iterator.__next__» slotArgs;simp only[pU,iI,cw,d6,d5,jG];refine af (af (ao (ao ?_)));refine af (iP hI rfl ?_);dsimp only;refine af ?_;unfold setEntries;refine af (x.state (ao ?_));dsimp only;rw[az (-9)];simp only[cZ];refine af (LI x (bu hi) hd ?_);have lo:i<(su w S es ep).length:=by rw[(yQ w S es ep).length_eq,aS];exact hi
  rw[au lo,eI];dsimp only;refine af (fG hI rfl (-9) ?_);have M9:=uy (i:=0) (x:=rawInt (wU w t (i+1))) hI;refine af (fG M9 rfl (-9) ?_);have hI2:=uy (i:=1) (x:=rawInt ((i:Int)+1)) M9;refine ao {_,rfl,ao ?_};have xJ:∀b o,b≠I->s.heap.get? b=some o->((s.heap.update I (Obj.mapFields (·.setIfInBounds 0 (rawInt (wU w t (i+1)))))).update I (Obj.mapFields (·.setIfInBounds 1 (rawInt ((i:Int)+1))))).get? b=some o:=λb o nb e=>(bN _ _ (cb nb)).trans ((bN _ _ (cb nb)).trans e);refine k _ _ (by rw[aK,au lo];rfl) {x.keep λo e=>xJ S o ne e,?_} {λb o hb e=>xJ b o (λz=>hb (ay.mpr z)) e,rfl,rfl,rfl,ar _};exact hI2
 done:=by intro s Q E ⟨x,hI⟩ k;have hT:s.TypeIs (.ref I) "set_iterator":=⟨_,hI,rfl⟩;unfold pyNext;refine af (-28);unfold Builtin.«set_iterator.__next__» slotArgs;simp only[pU,iI,cw,d6,d5,jG];refine af (af (ao (ao ?_)));refine af (iP hI rfl ?_);dsimp only;refine af ?_;unfold setEntries;refine af (x.state (ao ?_));dsimp only;rw[az (-9)];simp only[cZ];refine af (LI x (ar _) hd ?_);have lo:(su w S es ep)[es.size]?=none:=hU (by rw[(yQ w S es ep).length_eq,aS];exact ar _);rw[lo,Option.map_none];dsimp only;refine af (fG hI rfl (-9) ?_);have xJ:∀b o,b≠I->s.heap.get? b=some o->(s.heap.update I (Obj.mapFields (·.setIfInBounds 2 Value.none))).get? b=some o:=λb o nb e=>(bN _ _ (cb nb)).trans e;refine BR (s:=s) (show A.in1.handled=none from hh) λh' e kp adP=>?_;obtain⟨o,ho,hc⟩:=adP;refine af (f6 (T:="StopIteration") (b:=true) ⟨o,ho,hc⟩ jR (ao (k _ {λb o hb q=>kp b o (xJ b o (λz=>hb (ay.mpr z)) q),rfl,rfl,rfl,ar _})))
 self:=by intro i s Q E ⟨x,hI⟩ h;exact GD ⟨_,hI,rfl⟩ h
def abO(hh:A.handled=none){S I T:Addr}(ne:S≠I)(nT:T≠I){ps:List Nat}(hp:ps.Perm (List.range es.size)):
  WalksS prog w A I [I,S,T] [I] (λa b=>b=a) es.size (λi v=>((ps.filterMap (es[·]?)).map (·.2))[i]?=some v) (λi s=>Sat w s.heap S es ep t/\s.heap.get? I=some (oK (.ref T) i S es.size ep)/\s.heap.get? T=some {cls:=.type "tuple",data:=.seq (ps.map λ(i:Nat)=>rawInt i).toArray}) where
 sub:=λb hb=>by rw[ay.mp hb];exact aA
 grefl:=λ_=>rfl
 gtrans:=λ_ _ _ h1 h2=>h2.trans h1
 frame:=λi s h' tk st _ hk=>{st.1.keep λo e=>hk S (-9) o e,hk I (-9) _ st.2.1,hk T (-9) _ st.2.2}
 item:=by
  intro i s Q E hi ⟨x,hI,WI⟩ k;have hT:s.TypeIs (.ref I) "set_iterator":=⟨_,hI,rfl⟩;unfold pyNext;refine af (-28);unfold Builtin.«set_iterator.__next__» slotArgs;simp only[pU,iI,cw,d6,d5,jG];refine af (af (ao (ao ?_)));refine af (iP hI rfl ?_);dsimp only;refine af ?_;unfold setEntries;refine af (x.state (ao ?_));dsimp only;rw[az (-9)];simp only[cZ];refine af (bY WI rfl ?_);have lp:ps.length=es.size:=by rw[hp.length_eq,gG]
  have li:i<ps.length:=by lia
  have lpi:ps[i]<es.size:=cY.mp (hp.mem_iff.mp (gh li));have e1:((ps.map λ(i:Nat)=>rawInt i).toArray)[i]?=some (.int (ps[i]:Nat) 0):=by simp[li,rawInt]
  dsimp only;rw[e1];dsimp only;refine af ?_;unfold setNextDrawn;refine af (x.state ?_);dsimp only;rw[az (-9)];simp only[cZ];rw[bD lpi];refine ao ?_;refine af (fG hI rfl (-9) ?_);have M9:=uy (i:=1) (x:=rawInt ((i:Int)+1)) hI;refine ao {_,rfl,ao ?_};have xJ:∀b o,b≠I->s.heap.get? b=some o->(s.heap.update I (Obj.mapFields (·.setIfInBounds 1 (rawInt ((i:Int)+1))))).get? b=some o:=λb o nb e=>(bN _ _ (cb nb)).trans e;refine k _ _ ?_ {x.keep λo e=>xJ S o ne e,M9,xJ T _ nT WI} {λb o hb e=>xJ b o (λz=>hb (ay.mpr z)) e,rfl,rfl,rfl,ar _};have all:∀(l:List Nat),(∀p∈l,p<es.size)->∀j:Nat,(l.filterMap (es[·]?))[j]?=(l[j]?).bind (es[·]?):=by
   intro l
   induction l with
   |nil=>intro _ j;simp
   |cons p l ih=>
    intro hl j;have lp:=hl p aA;rw[fN,bD lp];cases j with
    |zero=>simp[lp]
    |succ j=>
     simp only[oP];exact ih (λq hq=>hl q (aB _ hq)) j
  rw[aK,all ps (λp hq=>cY.mp (hp.mem_iff.mp hq)) i,au li];simp[lpi]
 done:=by
  intro s Q E ⟨x,hI,WI⟩ k;have hT:s.TypeIs (.ref I) "set_iterator":=⟨_,hI,rfl⟩;unfold pyNext;refine af (-28);unfold Builtin.«set_iterator.__next__» slotArgs;simp only[pU,iI,cw,d6,d5,jG];refine af (af (ao (ao ?_)));refine af (iP hI rfl ?_);dsimp only;refine af ?_;unfold setEntries;refine af (x.state (ao ?_));dsimp only;rw[az (-9)];simp only[cZ];refine af (bY WI rfl ?_);have lp:ps.length=es.size:=by rw[hp.length_eq,gG]
  have e1:((ps.map λ(i:Nat)=>rawInt i).toArray)[es.size]?=none:=by simp[lp]
  dsimp only;rw[e1];dsimp only;refine af (fG hI rfl (-9) ?_);have M9:=uy (i:=0) (x:=rawInt 0) hI;refine af (fG M9 rfl (-9) ?_);have xJ:∀b o,b≠I->s.heap.get? b=some o->((s.heap.update I (Obj.mapFields (·.setIfInBounds 0 (rawInt 0)))).update I (Obj.mapFields (·.setIfInBounds 2 Value.none))).get? b=some o:=λb o nb e=>(bN _ _ (cb nb)).trans ((bN _ _ (cb nb)).trans e);refine BR (s:=s) (show A.in1.handled=none from hh) λh' e kp adO=>?_;obtain⟨o,ho,hc⟩:=adO;refine af (f6 (T:="StopIteration") (b:=true) ⟨o,ho,hc⟩ jR (ao (k _ {λb o hb q=>kp b o (xJ b o (λz=>hb (ay.mpr z)) q),rfl,rfl,rfl,ar _})))
 self:=by intro i s Q E ⟨x,hI,_⟩ h;exact GD ⟨_,hI,rfl⟩ h
def Kl(hT:s.TypeIs (.ref r) "set")(h:Q false s):wpAny (-5) A (Builtin.List.listLengthHint (.ref r)) Q E s:=by
 unfold Builtin.List.listLengthHint;refine af (ik hT XC ?_);generalize hid:("set.__len__":String)=id0
 wp_delta
 rw[show splitId id0=some ("set","__len__")from by subst hid;decide+kernel];subst hid;refine af (f6 (T:="set") (b:=true) hT (by rw[xU];kernel_rfl) ?_);refine mO (λhab=>absurd hab (-8)) (λ_=>?_);refine mO (λ_=>?_) (λhab=>absurd (-3) hab);refine af (fZ hT ?_);exact ao h
def Xl{S:Addr}(x:Sat w s.heap S es ep t)(hn:es.size<=100000)
  (h1:(w.params.followText "set-order"=true\/(!t.plain&&decide (es.size>1))=false)->Q (-12) {s with heap:=s.heap.push (oK (.int 0 0) 0 S es.size ep)})
  (h2:∀(ps:List Nat) d,ps.Perm (List.range es.size)->Q (.ref (-17)) {s with heap:=(-34).push (oK (-12) 0 S es.size ep),drawn:=d}):
  wpAny (-5) A (pyIter (.ref S)) Q E s:=by
 obtain⟨o,ho,hex,hd⟩:=x.ob;have hT:s.TypeIs (.ref S) "set":={o,ho,hex.1};refine oR hT F.slot_set_iter (bz F.slot_set_iter hT F4 ?_ (F.args_set_iter_1 _));unfold Builtin.«frozenset.__iter__» Builtin.Frozenset.slot0 slotArgs;refine af (af (ao (ao ?_)));refine af ?_;unfold Builtin.Frozenset.sizeOf setEntries;refine af (af (x.state (ao (ao ?_))));refine af ?_;unfold setDrawn;refine af (x.state ?_);refine af (Ao ?_);refine ao ?_;show wpAny (-5) _ (if(!w.params.followText "set-order"&&(!t.plain&&decide (es.size>1)))=true then _ else _) _ _ s;by_cases c:(!w.params.followText "set-order"&&(!t.plain&&decide (es.size>1)))=true
 ·rw[aC c];refine af (LJ es.size (List.range es.size) s (-9) λps d hp=>?_);refine af (cx ?_ (by show(ps.map _).toArray.size<=_;rw[aQ,ak,hp.length_eq,gG,b8];lia));have x2:Sat w (-34) S es ep t:=x.keep λo e=>aq _ e;refine af ?_;unfold setEpoch;refine af (Sat.state x2 (ao ?_));refine af (cx (ao {_,rfl,"set_iterator",_,{_,aF _ rfl,rfl},eU.lookup,?_}));have:=h2 ps d hp;rw[cB];exact this
 ·rw[az c];refine af (ao ?_);refine af ?_;unfold setEpoch;refine af (x.state (ao ?_));refine af (cx (ao {_,rfl,"set_iterator",_,{_,aF _ rfl,rfl},eU.lookup,h1 ?_}));cases q:w.params.followText "set-order"with
  |true=>exact .inl rfl
  |false=>
   rw[q]at c;exact .inr (fL.mpr c)
def Mp(l:Aag)(acc:Aal)(ha:ItemsOf (λi v=>l[i]?=some v) acc l.length):acc.toList=l:=by
 refine uo λi=>?_;by_cases c:i<l.length
 ·have ci:i<acc.size:=by rw[ha.1];exact c
  have:=ha.2 i acc[i] (bD ci);rw[this,bI,bD ci]
 ·rw[hU (by rw[aS,ha.1];lia),hU ∅]
theorem Qb{α:Type}:∀l:List α,(List.range l.length).filterMap (λi=>l[i]?)=l
 |[]=>rfl
 |x::l=>by rw[bx,xl,fN];show x::_=_;rw[tH];congr 1;exact Qb l
def OV{S L:Addr}(hh:A.handled=none)(x:Sat w s.heap S es ep t)(hn:es.size<=100000)(Mw:L≠S)(hL:s.heap.get? L=some {cls:=.type "list",data:=.seq #[] c₀})
  (hR:∀h' tk d acc c,(∀b o,b≠L->s.heap.get? b=some o->h'.get? b=some o)->h'.get? L=some {cls:=.type "list",dict:=none,data:=.seq acc c,slots:=#[]}->acc.toList.Perm (es.toList.map (·.2))->R (.ok (.ret res)) {s with heap:=h',toks:=tk,drawn:=d}):
  wpAny (-5) A.in1 (Builtin.List.listExtendWith (.ref L) (.ref S) res)
   (λfin s'=>match fin with| .done f=>R (.ok f) s'| .again c'=>c'.quiet=true/\codeAny (-5) A c' R s') (λe s'=>R (.error e) s') s:=by
 obtain⟨o,ho,hex,hd⟩:=x.ob;have hS:=aI ho;have hLl:=aI hL;have key:∀(I:Addr)(fp:Aaj)(P:Nat->Value->Prop)(St:Nat->Shared->Prop),WalksS prog w A.in1 I fp [I] (λa b=>b=a) es.size P St->s.heap.objs.size<=I->L∉fp->(∀acc:Aal,ItemsOf P acc es.size->acc.toList.Perm (es.toList.map (·.2)))->
   ∀(h:Heap)(d:Drawn)(c₁ tk:Nat),(∀b o,b≠L->s.heap.get? b=some o->h.get? b=some o)->h.get? L=some {cls:=.type "list",data:=.seq #[] c₁}->St 0 {s with heap:=h,toks:=tk,drawn:=d}->
   codeAny (-5) A (.builtin "list.extend.loop" {[.ref L,.ref I,res],[]}) R {s with heap:=h,toks:=tk,drawn:=d}:=by
  intro I fp P St W hI nf hP h d c₁ tk hk acH st;refine codeAny_extend_loopS W (by rw[b8];lia) _ nf _ es.size 0 _ _ _ rfl (aP _) st acH (ItemsOf.nil P) λs' tU c' hm zX aer=>?_;obtain⟨h',g',d',Em,VG⟩:=s';have eg:=hm.gens;have ed:d'=d:=hm.drawn;have eo:=hm.os;subst eg ed eo;refine hR h' Em d' tU c' (λb o hb e=>hm.heap b o ?_ (hk b o hb e)) zX (hP tU aer);have lt:=aI e;intro q;rcases aG.mp q with q|q
  ·exact hb q
  ·rw[ay.mp q]at lt;exact absurd (aZ lt hI) (dD _)
 have tail:∀(I:Addr)(fp:Aaj)(P:Nat->Value->Prop)(St:Nat->Shared->Prop),WalksS prog w A.in1 I fp [I] (λa b=>b=a) es.size P St->s.heap.objs.size<=I->L∉fp->(∀acc:Aal,ItemsOf P acc es.size->acc.toList.Perm (es.toList.map (·.2)))->
   ∀(h:Heap)(d:Drawn),(∀b o,s.heap.get? b=some o->h.get? b=some o)->St 0 {s with heap:=h,drawn:=d}->
   wpAny (-5) A.in1 (Builtin.List.listTouch (.ref L)>>=λ_=>again (.builtin "list.extend.loop" {[.ref L,.ref I,res],[]})) (λfin s'=>match fin with| .done f=>R (.ok f) s'| .again c'=>c'.quiet=true/\codeAny (-5) A c' R s') (λe s'=>R (.error e) s') {s with heap:=h,drawn:=d}:=by
  intro I fp P St W hI nf hP h d hk st;refine af ?_;have WK:=hk _ _ hL;refine af (jk WK rfl ?_);have WJ:=cH (Obj.mapSeq (·.push Value.none)) WK rfl;refine jk WJ rfl ?_;have acG:=cH (Obj.mapSeq (·.pop)) WJ rfl;have xJ:∀b o,b≠L->h.get? b=some o->((h.update L (Obj.mapSeq (·.push Value.none))).update L (Obj.mapSeq (·.pop))).get? b=some o:=
   λb o hb e=>(bN _ _ (cb hb)).trans ((bN _ _ (cb hb)).trans e)
  exact ao {gN rE _,key I fp P St W hI nf hP _ d _ s.toks (λb o hb e=>xJ b o hb (hk b o e)) acG (W.frame 0 {s with heap:=h,drawn:=d} _ s.toks st (ar _) λb hb o e=>xJ b o (λz=>nf (z▸hb)) e)}
 have hT:s.TypeIs (.ref S) "set":={o,ho,hex.1};have e1:Builtin.List.listSameRef (.ref L) (.ref S)=false:=by simp[Builtin.List.listSameRef,Mw]
 have e2:(Value.type "set"==Value.type "list")=false:=by decide
 have e3:(Value.type "set"==Value.type "tuple")=false:=by decide
 unfold Builtin.List.listExtendWith;refine af (fZ hT ?_);simp only[e1,e2,e3,Ac,cw,d6];refine af (Xl x hn (λhc=>?_) λps d hp=>?_)
 ·have W:=abP (prog:=prog) (A:=A.in1) (ep:=ep) (by simpa using hh) (aL hS) hc;have nf:L∉[s.heap.objs.size,S]:=λhb=>by
   rcases aG.mp hb with q|q
   ·exact absurd q (aL hLl)
   ·exact Mw (ay.mp q)
  have hP:∀acc:Aal,ItemsOf (λi v=>((su w S es ep).map (·.2))[i]?=some v) acc es.size->acc.toList.Perm (es.toList.map (·.2)):=λacc ha=>by
   have lo:((su w S es ep).map (·.2)).length=es.size:=by rw[ak,(yQ w S es ep).length_eq,aS]
   rw[<-lo]at ha;rw[Mp _ acc ha];exact(yQ w S es ep).map _
  have kp:∀b o,s.heap.get? b=some o->(s.heap.push (oK (.int 0 0) 0 S es.size ep)).get? b=some o:=λb o e=>aq _ e;have st:Sat w (s.heap.push (oK (.int 0 0) 0 S es.size ep)) S es ep t/\(s.heap.push (oK (.int 0 0) 0 S es.size ep)).get? s.heap.objs.size=some (oK (.int (wU w t 0) 0) 0 S es.size ep):={x.keep λo e=>kp _ _ e,aF _ rfl};refine af (bP (Kl {o,kp _ _ ho,hex.1} ?_));refine mO (λ_=>?_) (λ_=>ao {gN rE _,key _ _ _ _ W (ar _) nf hP _ s.drawn c₀ s.toks (λb o _ e=>kp b o e) (kp _ _ hL) st});exact af (fP (tail _ _ _ _ W (ar _) nf hP _ s.drawn kp st))
 ·have nT:s.heap.objs.size≠s.heap.objs.size+1:=aL (dC _);have W:=abO (prog:=prog) (w:=w) (A:=A.in1) (ep:=ep) (t:=t) (by simpa using hh) (aL (eA hS)) nT hp;have nf:L∉[s.heap.objs.size+1,S,s.heap.objs.size]:=λhb=>by
   rcases aG.mp hb with q|q
   ·exact absurd q (aL (eA hLl))
   ·rcases aG.mp q with q|q
    ·exact Mw q
    ·exact absurd (ay.mp q) (aL hLl)
  have hP:∀acc:Aal,ItemsOf (λi v=>((ps.filterMap (es[·]?)).map (·.2))[i]?=some v) acc es.size->acc.toList.Perm (es.toList.map (·.2)):=λacc ha=>by
   have hl:(ps.filterMap (es[·]?)).Perm es.toList:=by
    have:=hp.filterMap (es.toList[·]?);rw[<-aS]at this;have e4:(ps.filterMap (es[·]?))=ps.filterMap (es.toList[·]?):=by simp
    rw[e4];rwa [Qb]at this
   have lo:((ps.filterMap (es[·]?)).map (·.2)).length=es.size:=by rw[ak,hl.length_eq,aS]
   rw[<-lo]at ha;rw[Mp _ acc ha];exact hl.map _
  generalize E6:(-34).push (oK (-12) 0 S es.size ep)=iU;have kp:∀b o,s.heap.get? b=some o->iU.get? b=some o:=λb o e=>by rw[<-E6];exact aq _ (aq _ e)
  have gI:iU.get? (-17)=some (oK (-12) 0 S es.size ep):=by have:=aF (-34) (o:=oK (-12) 0 S es.size ep) rfl;rw[cB]at this;rw[<-E6];exact this
  have gT:iU.get? s.heap.objs.size=some {cls:=.type "tuple",data:=.seq (ps.map λ(i:Nat)=>rawInt i).toArray}:=by rw[<-E6];exact aq _ (aF _ rfl)
  have st:Sat w iU S es ep t/\iU.get? (-17)=some (oK (-12) 0 S es.size ep)/\iU.get? s.heap.objs.size=some {cls:=.type "tuple",data:=.seq (ps.map λ(i:Nat)=>rawInt i).toArray}:={x.keep λo e=>kp _ _ e,gI,gT};refine af (bP (Kl {o,kp _ _ ho,hex.1} ?_));refine mO (λ_=>?_) (λ_=>ao {gN rE _,key _ _ _ _ W (fH _) nf hP iU d c₀ s.toks (λb o _ e=>kp b o e) (kp _ _ hL) st});exact af (fP (tail _ _ _ _ W (fH _) nf hP iU d kp st))
def Lu{S:Addr}(hh:A.handled=none)(x:Sat w s.heap S es ep t)(hn:es.size<=100000)
  (h:∀h' tk d vs,vs.Perm (es.toList.map (·.2))->(∀b o,s.heap.get? b=some o->h'.get? b=some o)->R vs {s with heap:=h',toks:=tk,drawn:=d}):wpAny (-5) A (collect (.ref S)) R E s:=by
 obtain⟨o,ho,hex,hd⟩:=x.ob;have hS:=aI ho;unfold collect;refine af (wpAny_runValue (dv F.entry_proto_collect ?_));rw[gA F.plain_proto_collect _];refine af (cx ?_);refine ao {gN Cv _,dv F.entry_list_iadd ?_};rw[gA Cv _];have k1:∀b o,s.heap.get? b=some o->(s.heap.push {cls:=.type "list",data:=.seq ([]:Aag).toArray}).get? b=some o:=λb o e=>aq _ e;have hL:(s.heap.push {cls:=.type "list",data:=.seq ([]:Aag).toArray}).get? s.heap.objs.size=some {cls:=.type "list",data:=.seq #[]}:=aF _ rfl;have key:=OV (prog:=prog) (s:={s with heap:=s.heap.push {cls:=.type "list",data:=.seq ([]:Aag).toArray}})
  (R:=λ(q:Result)(s':Shared)=>∃(h':Heap)(tk:Nat)(d:Drawn)(tU:Aal)(c':Nat),q=.ok (.ret (-12))/\s'={s with heap:=h',toks:=tk,drawn:=d}/\
   (∀b o,s.heap.get? b=some o->h'.get? b=some o)/\h'.get? s.heap.objs.size=some {cls:=.type "list",dict:=none,data:=.seq tU c',slots:=#[]}/\tU.toList.Perm (es.toList.map (·.2)))
  hh (x.keep λo e=>k1 _ _ e) hn (bA hS) hL λh' tk d acc c kp g pm=>{h',tk,d,acc,c,rfl,rfl,λb o e=>kp b o (aL (aI e)) (k1 _ _ e),g,pm}
 refine dc key (λfin s' x=>?_) λe s' x=>?_
 ·cases fin with
  |done f=>
   obtain⟨h',tk,d,tU,c',e,rfl,hk,zX,pm⟩:=x;cases e;refine af (Eh zX ?_);exact ao (h h' tk d tU.toList pm hk)
  |again c₁=>
   refine{x.1,lF x.2 λq aad y=>?_};obtain⟨h',tk,d,tU,c',rfl,rfl,hk,zX,pm⟩:=y;refine af (Eh zX ?_);exact ao (h h' tk d tU.toList pm hk)
 ·obtain⟨_,_,_,_,_,e',_⟩:=x;cases e'
end
end Tb
namespace Nt
open PySem PyProof.Rows
def uT:Bool->Keyed->Array Keyed->Nat->Nat->Nat->StateT SortSt Sem (Option Nat):=sortPriv% PySem.Builtin.gallop
def JM:Array Keyed->Array Keyed->StateT SortSt Sem (Array Keyed):=sortPriv% PySem.Builtin.mergeLo
def JN:Array Keyed->Array Keyed->StateT SortSt Sem (Array Keyed):=sortPriv% PySem.Builtin.mergeHi
structure Ct where
 prog:Program
 w:World
 A:Around
 J:Shared->Prop
 κ:SortKind
 rk:Keyed->Nat
 In:Keyed->Prop
 lt:∀x y,In x->In y->∀s,J s->wpAny (-5) A (keyLt' κ x.1 y.1) (λb s'=>b=decide (rk x<rk y)/\J s') (λ_ _=>False) s
variable{C:Ct}
def W(C:Ct)(m:StateT SortSt Sem α)(Q:α->SortSt->Prop)(st:SortSt):Prop:=
 ∀s,C.J s->wpAny (model C.prog C.w) C.A (m.run st) (λr s'=>C.J s'/\Q r.1 r.2) (λ_ _=>False) s
section
variable{α β:Type}{Q:α->SortSt->Prop}{st:SortSt}
def W.pure(h:Q a st):W C (pure a) Q st:=λs j=>by rw[StateT.run_pure];exact ao ⟨j,h⟩
def W.bind(h:W C m (λb gZ=>W C (f b) Q gZ) st):W C (m>>=f) Q st:=λs j=>by rw[StateT.run_bind];exact af (dc (h s j) (λr s' x=>x.2 s' x.1) λ_ _ e=>e)
def W.mono(h:W C m Q' st)(k:∀a gZ,Q' a gZ->Q a gZ):W C m Q st:=λs j=>
 dc (h s j) (λr s' x=>{x.1,k _ _ x.2}) λ_ _ e=>e
def W.get{Q:SortSt->SortSt->Prop}(h:Q st st):W C (get:StateT SortSt Sem SortSt) Q st:=λs j=>by rw[StateT.run_get];exact ao ⟨j,h⟩
def W.modify{Q:PUnit->SortSt->Prop}(h:Q ⟨⟩ (f st)):W C (modify f:StateT SortSt Sem PUnit) Q st:=λs j=>by rw[StateT.run_modify];exact ao ⟨j,h⟩
def W.rl{Q:PUnit->SortSt->Prop}(h:Q ⟨⟩ st):W C (liftM (PySem.rule r:Sem PUnit):StateT SortSt Sem PUnit) Q st:=λs j=>by show wpAny _ _ ((StateT.lift (PySem.rule r:Sem PUnit):StateT SortSt Sem PUnit).run st) _ _ s;rw[StateT.run_lift];exact af (fP (ao ⟨j,h⟩))
def W.lt{Q:Option Bool->SortSt->Prop}(hk:kindOf st=C.κ)(hx:C.In x)(hy:C.In y)(h:Q (some (decide (C.rk x<C.rk y))) st):W C (lt' x y) Q st:=by rw[lt'_eq];refine W.bind (W.get ?_);rw[hk];refine W.bind λs j=>?_;show wpAny _ _ ((StateT.lift _:StateT SortSt Sem _).run st) _ _ s;rw[StateT.run_lift];refine af (dZ (dc (C.lt x y hx hy s j) (λb s' q=>?_) λ_ _ e=>e.elim));obtain⟨rfl,j'⟩:=q;exact ao {j',W.pure h}
def W.elem{Q:Keyed->SortSt->Prop}(hi:i<a.size)(h:Q a[i] st):W C (elem' a i) Q st:=by rw[elem'_eq,getElem?_pos a i hi];exact W.pure h
def W.for(I:Nat->β->SortSt->Prop){Q:β->SortSt->Prop}
  (hs:∀i c st,a<=i->i<b->I i c st->W C (f i c) (λr gZ=>match r with| .done c'=>Q c' gZ| .yield c'=>I (i+1) c' gZ) st)
  (he:∀c st,I (max a b) c st->Q c st) (h:I a c st):W C (forIn [a:b] c f) Q st:=by
 rw[mL];have hsz:([a:b]:Std.Legacy.Range).size=b -a:=by simp[Std.Legacy.Range.size]
 show W C (forIn (List.range' a ([a:b]:Std.Legacy.Range).size 1) c f) Q st;rw[hsz]
 suffices go:∀n i c st,a<=i->i+n=max a b->I i c st->W C (forIn (List.range' i n 1) c f) Q st from go (b -a) a c st (ar _) ∅ h
 intro n
 induction n with
 |zero=>
  intro i c st _ e h;rw[List.range'_zero,yu];rw[show i=max a b by lia]at h;exact W.pure (he _ _ h)
 |succ n ih=>
  intro i c st ha e h;rw[List.range'_succ,mX];refine W.bind (W.mono (hs i c st ha ∅ h) λr gZ x=>?_);cases r with
  |done c'=>exact W.pure x
  |yield c'=>exact ih (i+1) c' gZ ∅ ∅ x
end
variable{C:Ct}
def Fx(C:Ct)(left:Bool)(key x:Keyed):Bool:=if left then decide (C.rk x<C.rk key)else !decide (C.rk key<C.rk x)
def abR{st:SortSt}(hk:kindOf st=C.κ)(lE:C.In key)(hi:i<arr.size)(gq:C.In arr[i])(h:Q (some (Fx C left key arr[i])) st):W C (do
  let x<-elem' arr i
  if left=true then lt' x key else do
   let r<-lt' key x
   pure (r.map (!·))) Q st:=by
 refine W.bind (W.elem hi ?_);unfold Fx at h;cases left with
 |true=>exact W.lt hk gq lE h
 |false=>exact W.bind (W.lt hk lE gq (W.pure h))
def gB(C:Ct)(left:Bool)(key:Keyed)(arr:Array Keyed)(i:Nat):Bool:=(arr[i]?).elim false (Fx C left key)
def HW{st:SortSt}(hk:kindOf st=C.κ)(lE:C.In key)(gq:∀x∈arr,C.In x)(hb:base+n<=arr.size)(hh:hint<n)
  (mono:∀i j,i<=j->j<n->gB C left key arr (base+j)=true->gB C left key arr (base+i)=true)
  (h:∀k,k<=n->(∀i,i<k->gB C left key arr (base+i)=true)->(∀i,k<=i->i<n->gB C left key arr (base+i)=false)->Q (some k) st):W C (uT left key arr base n hint) Q st:=by
 have bb:∀{i:Nat}{Q:Option Bool->SortSt->Prop}(q:i<n),Q (some (gB C left key arr (base+i))) st->W C (do
  let x<-elem' arr (base+i)
  if left=true then lt' x key else do
   let r<-lt' key x
   pure (r.map (!·))) Q st:=λ{i Q} q x=>abR hk lE ∅ (gq _ (c6 ∅)) (by
    unfold gB at x;rw[getElem?_pos arr (base+i) ∅]at x;exact x)
 have nm:∀i j,i<=j->j<n->gB C left key arr (base+i)=false->gB C left key arr (base+j)=false:=λi j h1 h2 e=>by
  cases e2:gB C left key arr (base+j)with
  |false=>rfl
  |true=>rw[mono i j h1 h2 e2]at e;cases e
 generalize gB C left key arr=B at mono h bb nm;unfold uT;refine W.bind (bb hh ?_);have fin:∀{lo hi:Nat},lo<=hi->hi<=n->(∀i,i<lo->B (base+i)=true)->(∀i,hi<=i->i<n->B (base+i)=false)->∀{f:Nat->Option (Option Nat)×Nat×Nat->StateT SortSt Sem (ForInStep (Option (Option Nat)×Nat×Nat))}{g:Option (Option Nat)×Nat×Nat->StateT SortSt Sem (Option Nat)},
   (∀x lo hi(P:ForInStep (Option (Option Nat)×Nat×Nat)->SortSt->Prop),lo<=hi->hi<=n->(lo≥hi->P (.done (none,lo,hi)) st)->(lo<hi->(B (base+(lo+(hi -lo)/2))=true->P (.yield (none,lo+(hi -lo)/2+1,hi)) st)/\(B (base+(lo+(hi -lo)/2))=false->P (.yield (none,lo,lo+(hi -lo)/2)) st))->W C (f x (none,lo,hi)) P st)->
   (∀lo hi,W C (pure (some hi)) Q st->W C (g (none,lo,hi)) Q st)->W C (forIn [0:n] (none,lo,hi) f>>=g) Q st:=by
  intro lo hi h1 h2 h3 h4 f g hf hg;refine W.bind (W.mono (W.for (I:=λx c s'=>s'=st/\∃lo hi,c=(none,lo,hi)/\lo<=hi/\hi<=n/\hi -lo<=n -x/\(∀i,i<lo->B (base+i)=true)/\(∀i,hi<=i->i<n->B (base+i)=false))
   (Q:=λc s'=>s'=st/\∃hi,c=(none,hi,hi)/\hi<=n/\(∀i,i<hi->B (base+i)=true)/\(∀i,hi<=i->i<n->B (base+i)=false)) ?_ ?_ {rfl,lo,hi,rfl,h1,h2,by lia,h3,h4}) ?_)
  ·rintro x c s' _ hx ⟨rfl,lo,hi,rfl,a1,a2,a3,a4,a5⟩;exact hf x lo hi _ a1 a2 (λq=>{rfl,hi,by rw[show lo=hi by lia],a2,λi q=>a4 i ∅,a5}) λq=>{λe=>{rfl,_,_,rfl,by lia,a2,by lia,λi q=>mono i _ ∅ ∅ e,a5},λe=>{rfl,_,_,rfl,by lia,by lia,by lia,a4,λi q z=>nm _ i q z e}}
  ·rintro c s' ⟨rfl,lo,hi,rfl,a1,a2,a3,a4,a5⟩;have:lo=hi:=by lia
   subst this;exact⟨rfl,_,rfl,a2,a4,a5⟩
  ·rintro c s' ⟨rfl,hi,rfl,a2,a4,a5⟩;exact hg _ _ (W.pure (h hi a2 a4 a5))
 cases e0:B (base+hint)with
 |true=>
  refine W.bind (W.mono (W.for (I:=λx c s'=>s'=st/\∃l o,c=(none,l,o)/\l<o/\x<=l/\hint+l<n/\B (base+(hint+l))=true)
   (Q:=λc s'=>s'=st/\∃l o,c=(none,l,o)/\l<o/\hint+l<n/\B (base+(hint+l))=true/\(n -hint<=o\/B (base+(hint+o))=false)) ?_ ?_ {rfl,0,1,rfl,by lia,by lia,by lia,e0}) ?_)
  ·rintro x c s' _ hx ⟨rfl,l,o,rfl,a1,a2,a3,a4⟩;by_cases c:o≥n -hint
   ·dsimp only;rw[aC c];exact W.pure {rfl,l,o,rfl,a1,a3,a4,.inl c}
   ·dsimp only;rw[az c];refine W.bind (bb ∅ ?_);cases e1:B (base+(hint+o))with
    |true=>exact W.pure {rfl,o,2*o+1,rfl,by lia,by lia,by lia,e1}
    |false=>exact W.pure {rfl,l,o,rfl,a1,a3,a4,.inr e1}
  ·rintro c s' ⟨rfl,l,o,rfl,a1,a2,a3,a4⟩;lia
  ·rintro c s' ⟨rfl,l,o,rfl,a1,a3,a4,a5⟩;refine fin (lo:=hint+l+1) (hi:=hint+min o (n -hint)) ∅ ∅ (λi q=>mono i _ ∅ a3 a4) (λi q z=>?_) (λx lo hi P a1 a2 p1 p2=>?_) λlo hi x=>x
   ·rcases a5 with a5|a5
    ·lia
    ·exact nm _ i ∅ z a5
   ·by_cases c:lo≥hi
    ·dsimp only;rw[aC c];exact W.pure (p1 c)
    ·dsimp only;rw[az c];refine W.bind (bb ∅ ?_);cases e1:B (base+(lo+(hi -lo)/2))with
     |true=>exact W.pure ((p2 ∅).1 e1)
     |false=>exact W.pure ((p2 ∅).2 e1)
 |false=>
  refine W.bind (W.mono (W.for (I:=λx c s'=>s'=st/\∃l o,c=(none,l,o)/\l<o/\x<=l/\l<=hint/\B (base+(hint -l))=false)
   (Q:=λc s'=>s'=st/\∃l o,c=(none,l,o)/\l<o/\l<=hint/\B (base+(hint -l))=false/\(hint+1<=o\/B (base+(hint -o))=true)) ?_ ?_ {rfl,0,1,rfl,by lia,by lia,by lia,e0}) ?_)
  ·rintro x c s' _ hx ⟨rfl,l,o,rfl,a1,a2,a3,a4⟩;by_cases c:o≥hint+1
   ·dsimp only;rw[aC c];exact W.pure {rfl,l,o,rfl,a1,a3,a4,.inl c}
   ·dsimp only;rw[az c];refine W.bind (bb ∅ ?_);cases e1:B (base+(hint -o))with
    |true=>exact W.pure {rfl,l,o,rfl,a1,a3,a4,.inr e1}
    |false=>exact W.pure {rfl,o,2*o+1,rfl,by lia,by lia,by lia,e1}
  ·rintro c s' ⟨rfl,l,o,rfl,a1,a2,a3,a4⟩;lia
  ·rintro c s' ⟨rfl,l,o,rfl,a1,a3,a4,a5⟩;refine fin (lo:=hint+1 -min o (hint+1)) (hi:=hint -l) ∅ ∅ (λi q=>?_) (λi q z=>nm _ i ∅ z a4) (λx lo hi P a1 a2 p1 p2=>?_) λlo hi x=>x
   ·rcases a5 with a5|a5
    ·lia
    ·exact mono i _ ∅ ∅ a5
   ·by_cases c:lo≥hi
    ·dsimp only;rw[aC c];exact W.pure (p1 c)
    ·dsimp only;rw[az c];refine W.bind (bb ∅ ?_);cases e1:B (base+(lo+(hi -lo)/2))with
     |true=>exact W.pure ((p2 ∅).1 e1)
     |false=>exact W.pure ((p2 ∅).2 e1)
section
variable{α:Type}{r:α->α->Prop}{la lb out:List α}{ia ib:Nat}
structure Mg(r:α->α->Prop)(la lb out:List α)(ia ib:Nat):Prop where
 pm:out.Perm (la.take ia++lb.take ib)
 so:out.Pairwise r
 ga:∀x∈out,∀y∈la.drop ia,r x y
 gb:∀x∈out,∀y∈lb.drop ib,r x y
def Mg.swap(h:Mg r la lb out ia ib):Mg r lb la out ib ia:={h.pm.trans ju,h.so,h.gb,h.ga}
def Mg.go(h:Mg r la lb out ia ib)(hs:la.Pairwise r)(k:Nat)(c:∀x∈(la.drop ia).take k,∀y∈lb.drop ib,r x y):Mg r la lb (out++(la.drop ia).take k) (ia+k) ib:=by
 have e:=c8 k (la.drop ia);have s2:=hs.sublist (uq ia la);rw[<-e]at s2;obtain⟨s3,s4,s5⟩:=jM.mp s2;rw[List.drop_drop]at s5;have m:∀y∈(la.drop ia).take k,y∈la.drop ia:=λy hy=>gx hy;have m2:∀y∈la.drop (ia+k),y∈la.drop ia:=λy hy=>by rw[<-List.drop_drop]at hy;exact zu hy
 refine{?_,jM.mpr {h.so,s3,λx hx y hy=>h.ga x hx y (m y hy)},λx hx y hy=>?_,λx hx y hy=>?_}
 ·rw[List.take_add];refine(h.pm.append_right _).trans ?_;rw[cR,cR];exact qp _ ju
 ·rcases bf.mp hx with hx|hx
  ·exact h.ga x hx y (m2 y hy)
  ·exact s5 x hx y hy
 ·rcases bf.mp hx with hx|hx
  ·exact h.gb x hx y hy
  ·exact c x hx y hy
def Mg.end(h:Mg r la lb out ia ib)(ha:la.Pairwise r)(hb:lb.Pairwise r)(c:∀x∈la.drop ia,∀y∈lb.drop ib,r x y):(out++la.drop ia++lb.drop ib).Perm (la++lb)/\(out++la.drop ia++lb.drop ib).Pairwise r:=by
 constructor
 ·rw[cR];refine(h.pm.append_right _).trans ?_
  conv=>rhs;rw[<-c8 ia la,<-c8 ib lb]
  rw[cR,cR];refine qp _ ?_;rw[<-cR,<-cR];exact xr _ ju
 ·refine jM.mpr {jM.mpr {h.so,ha.sublist (uq _ _),h.ga},hb.sublist (uq _ _),λx hx y hy=>?_};rcases bf.mp hx with hx|hx
  ·exact h.gb x hx y hy
  ·exact c x hx y hy
end
variable{C:Ct}
def Res(C:Ct)(a b m:Array Keyed):Prop:=m.toList.Perm (a.toList++b.toList)/\m.toList.Pairwise λx y=>C.rk x<=C.rk y
abbrev So(C:Ct)(a:Array Keyed):Prop:=a.toList.Pairwise λx y=>C.rk x<=C.rk y
abbrev Rk(C:Ct)(x y:Keyed):Prop:=C.rk x<=C.rk y
def So.at(h:So C a)(hj:j<a.size)(q:i<=j):C.rk (a[i]'∅)<=C.rk a[j]:=by
 rcases Nat.lt_or_ge i j with z|z
 ·exact fS.mp h i j (by simpa using(by lia:i<a.size)) (by simpa using hj) z
 ·have:i=j:=by lia
  subst this;exact ar _
def AY{a:Array Keyed}(h:x∈a.toList.drop n):∃i,∃q:i<a.size,n<=i/\x=a[i]:=by obtain⟨i,hi,e⟩:=fo.mp h;rw[gY,aS]at hi;exact{n+i,by lia,by lia,by rw[<-e];simp}
def QE{a:Array Keyed}(h:x∈(a.toList.drop n).take k):∃i,∃q:i<a.size,n<=i/\i<n+k/\x=a[i]:=by obtain⟨i,hi,e⟩:=fo.mp h;rw[aT,gY,aS]at hi;exact{n+i,by lia,by lia,by lia,by rw[<-e];simp}
section
variable{a b:Array Keyed}{out:List Keyed}{ia ib:Nat}
def Mg.on(m:Mg (Rk C) a.toList b.toList out ia ib)(sa:So C a)(k v:Nat)(hx:∀i,ia<=i->i<ia+k->(q:i<a.size)->C.rk a[i]<=v)(hy:∀j,ib<=j->(q:j<b.size)->v<=C.rk b[j]):Mg (Rk C) a.toList b.toList (out++(a.toList.drop ia).take k) (ia+k) ib:=
 m.go sa k λx xW y MM=>by obtain⟨i,q,h1,h2,rfl⟩:=QE xW;obtain⟨j,z,h3,rfl⟩:=AY MM;exact aD (hx i h1 h2 q) (hy j h3 z)
def Qq(h:ia<a.size):(a.toList.drop ia).take 1=[a[ia]]:=by rw[eO (by simpa using h)];simp
structure MI(C:Ct)(a b out:Array Keyed)(ia ib:Nat):Prop where
 mg:Mg (Rk C) a.toList b.toList out.toList ia ib
 la:ia+1<a.size
 lb:ib<b.size
end
section
variable{a b out:Array Keyed}{ia ib:Nat}
def NY(m:Mg (Rk C) a.toList b.toList out.toList ia ib)(sa:So C a)(sb:So C b)(q:ia<a.size)(c:∀z:ib<b.size,C.rk a[ia]<=C.rk b[ib]):Mg (Rk C) a.toList b.toList (out.push a[ia]).toList (ia+1) ib:=by have:=m.on sa 1 (C.rk a[ia]) (λi h1 h2 z=>sa.at q ∅) λj h1 z=>aD (c ∅) (sb.at z h1);rw[Qq q]at this;simpa using this
def NW(m:Mg (Rk C) a.toList b.toList out.toList ia ib)(sa:So C a)(sb:So C b)(q:ib<b.size)(c:∀z:ia<a.size,C.rk b[ib]<=C.rk a[ia]):Mg (Rk C) a.toList b.toList (out.push b[ib]).toList ia (ib+1):=(NY m.swap sb sa q c).swap
def WU:(out++a.extract n (n+k)).toList=out.toList++(a.toList.drop n).take k:=by simp[List.extract_eq_drop_take]
def Fj(m:Mg (Rk C) a.toList b.toList out.toList ia ib)(sa:So C a)(sb:So C b)(c:ib=b.size\/ia=a.size):Res C a b (out++a.extract ia a.size++b.extract ib b.size):=by
 have:=m.end sa sb λx hx y hy=>by obtain⟨i,q,h1,rfl⟩:=AY hx;obtain⟨j,z,h2,rfl⟩:=AY hy;lia
 unfold Res;simpa[List.extract_eq_drop_take,dU]using this
def HR(m:Mg (Rk C) a.toList b.toList out.toList ia ib)(sa:So C a)(sb:So C b)(c:ia+1=a.size)(hl:∀y∈b,C.rk y<C.rk (a[a.size -1]'∅)):Res C a b (out++b.extract ib b.size++a.extract ia a.size):=by
 have:=m.swap.end sb sa λx hx y hy=>by
  obtain⟨i,q,h1,rfl⟩:=AY hx;obtain⟨j,z,h2,rfl⟩:=AY hy;have:=hl _ (c6 q);have e:j=a.size -1:=by lia
  subst e;lia
 unfold Res;refine{?_,?_}
 ·refine List.Perm.trans ?_ ju;simpa[List.extract_eq_drop_take,dU]using this.1
 ·simpa[List.extract_eq_drop_take,dU]using this.2
def Fc(q:i<arr.size):gB C left key arr i=Fx C left key arr[i]:=by unfold gB;rw[getElem?_pos arr i q];rfl
def Nb(sg:∀i j,base<=i->(z:i<=j)->j<base+n->(q:j<arr.size)->C.rk (arr[i]'∅)<=C.rk arr[j])(hb:base+n<=arr.size):∀i j,i<=j->j<n->gB C left key arr (base+j)=true->gB C left key arr (base+i)=true:=λi j h1 h2 e=>by
 rw[Fc ∅]at e⊢;have:=sg (base+i) (base+j) ∅ ∅ ∅ ∅;unfold Fx at e⊢;cases left
 ·simp at e⊢;lia
 ·simp at e⊢;lia
def LK{st:SortSt}(hk:kindOf st=C.κ)(lE:C.In key)(gq:∀x∈arr,C.In x)(sg:∀i j,base<=i->(z:i<=j)->j<base+n->(q:j<arr.size)->C.rk (arr[i]'∅)<=C.rk arr[j])(hb:base+n<=arr.size)(hh:hint<n)
  (h:∀k,k<=n->(∀i,base<=i->i<base+k->(q:i<arr.size)->C.rk arr[i]<=C.rk key)->(∀i,base+k<=i->i<base+n->(q:i<arr.size)->C.rk key<C.rk arr[i])->Q (some k) st):W C (uT false key arr base n hint) Q st:=
 HW hk lE gq hb hh (Nb sg hb) λk hk a1 a2=>h k hk (λi q1 q2 q=>by
  have:=a1 (i -base) ∅;rw[show base+(i -base)=i by lia,Fc q]at this;unfold Fx at this;simpa using this) λi q1 q2 q=>by
  have:=a2 (i -base) ∅ ∅;rw[show base+(i -base)=i by lia,Fc q]at this;unfold Fx at this;simpa using this
def w_left{st:SortSt}(hk:kindOf st=C.κ)(lE:C.In key)(gq:∀x∈arr,C.In x)(sg:∀i j,base<=i->(z:i<=j)->j<base+n->(q:j<arr.size)->C.rk (arr[i]'∅)<=C.rk arr[j])(hb:base+n<=arr.size)(hh:hint<n)
  (h:∀k,k<=n->(∀i,base<=i->i<base+k->(q:i<arr.size)->C.rk arr[i]<C.rk key)->(∀i,base+k<=i->i<base+n->(q:i<arr.size)->C.rk key<=C.rk arr[i])->Q (some k) st):W C (uT true key arr base n hint) Q st:=
 HW hk lE gq hb hh (Nb sg hb) λk hk a1 a2=>h k hk (λi q1 q2 q=>by
  have:=a1 (i -base) ∅;rw[show base+(i -base)=i by lia,Fc q]at this;unfold Fx at this;simpa using this) λi q1 q2 q=>by
  have:=a2 (i -base) ∅ ∅;rw[show base+(i -base)=i by lia,Fc q]at this;unfold Fx at this;simpa using this
end
variable{C:Ct}
abbrev GS(st:SortSt)(g:Nat):SortSt:=SortSt.mk' (kindOf st) (-11) (pendingOf st) g (failedOf st)
def W.ite[Decidable c]{x y:StateT SortSt Sem α}{Q:α->SortSt->Prop}{st:SortSt}(h1:c->W C x Q st)(h2:¬c->W C y Q st):W C (if c then x else y) Q st:=by
 by_cases h:c
 ·rw[aC h];exact h1 h
 ·rw[az h];exact h2 h
section
variable{α β:Type}{Q:α->SortSt->Prop}{st:SortSt}
def W.bE{a:Array Keyed}{i:Nat}{f:Keyed->StateT SortSt Sem α}(hi:i<a.size)(h:W C (f a[i]) Q st):W C (elem' a i>>=f) Q st:=W.bind (W.elem hi h)
def W.bLt{x y:Keyed}{f:Option Bool->StateT SortSt Sem α}(hk:kindOf st=C.κ)(hx:C.In x)(hy:C.In y)(h1:C.rk x<C.rk y->W C (f (some true)) Q st)(h2:¬C.rk x<C.rk y->W C (f (some false)) Q st):W C (lt' x y>>=f) Q st:=W.bind (W.lt hk hx hy (by
 by_cases e:C.rk x<C.rk y
 ·rw[bp e];exact h1 e
 ·rw[bQ e];exact h2 e))
def W.Np{r:String}{f:PUnit->StateT SortSt Sem α}(h:W C (f ⟨⟩) Q st):W C ((liftM (PySem.rule r:Sem PUnit):StateT SortSt Sem PUnit)>>=f) Q st:=W.bind (W.rl h)
def W.bM{g:SortSt->SortSt}{f:PUnit->StateT SortSt Sem α}(h:W C (f ⟨⟩) Q (g st)):W C ((_root_.modify g:StateT SortSt Sem PUnit)>>=f) Q st:=W.bind (W.modify h)
def W.bG{f:SortSt->StateT SortSt Sem α}(h:W C (f st) Q st):W C ((MonadState.get:StateT SortSt Sem SortSt)>>=f) Q st:=W.bind (W.get h)
def W.loop{T:Type}{a b:Array Keyed}{lo hi g:Nat}(mc:Option (Array Keyed)->Array Keyed->Nat->Nat->T->β){f:Nat->β->StateT SortSt Sem (ForInStep β)}{k:β->StateT SortSt Sem α}(P:Nat->Array Keyed->Nat->Nat->Prop)(B:Array Keyed->Nat->Nat->Prop){o:Array Keyed}{ia ib:Nat}{t:T}(h0:P lo o ia ib)
  (he:∀o ia ib,P (max lo hi) o ia ib->False)
  (hs:∀i g o ia ib t(E:ForInStep β->SortSt->Prop),P i o ia ib->(∀m g o ia ib t,Res C a b m->E (.done (mc (some m) o ia ib t)) (GS st g))->(∀g o ia ib t,B o ia ib->E (.done (mc none o ia ib t)) (GS st g))->(∀g o ia ib t,P (i+1) o ia ib->E (.yield (mc none o ia ib t)) (GS st g))->W C (f i (mc none o ia ib t)) E (GS st g))
  (k1:∀m g o ia ib t,Res C a b m->W C (k (mc (some m) o ia ib t)) Q (GS st g)) (k2:∀g o ia ib t,B o ia ib->W C (k (mc none o ia ib t)) Q (GS st g)):W C (forIn [lo:hi] (mc none o ia ib t) f>>=k) Q (GS st g):=by
 refine W.bind (W.mono (W.for (I:=λi c s'=>∃g o ia ib t,s'=GS st g/\c=mc none o ia ib t/\P i o ia ib) (Q:=λc s'=>W C (k c) Q s') ?_ ?_ ⟨_,_,_,_,_,rfl,rfl,h0⟩) λ_ _ h=>h)
 ·rintro i c s' _ _ ⟨g,o,ia,ib,t,rfl,rfl,h⟩;exact hs i g o ia ib t _ h k1 k2 λg o ia ib t h=>⟨g,o,ia,ib,t,rfl,rfl,h⟩
 ·rintro c s' ⟨g,o,ia,ib,t,rfl,rfl,h⟩;exact(he _ _ _ h).elim
def W.bR{key:Keyed}{arr:Array Keyed}{base n hint:Nat}{f:Option Nat->StateT SortSt Sem α}(hk:kindOf st=C.κ)(lE:C.In key)(gq:∀x∈arr,C.In x)(sg:So C arr)(hb:base+n<=arr.size)(hh:hint<n)
  (h:∀k,k<=n->(∀i,base<=i->i<base+k->(q:i<arr.size)->C.rk arr[i]<=C.rk key)->(∀i,base+k<=i->i<base+n->(q:i<arr.size)->C.rk key<C.rk arr[i])->W C (f (some k)) Q st):W C (uT false key arr base n hint>>=f) Q st:=W.bind (LK hk lE gq (λ_ _ _ z _ q=>sg.at q z) hb hh h)
def W.bL{key:Keyed}{arr:Array Keyed}{base n hint:Nat}{f:Option Nat->StateT SortSt Sem α}(hk:kindOf st=C.κ)(lE:C.In key)(gq:∀x∈arr,C.In x)(sg:So C arr)(hb:base+n<=arr.size)(hh:hint<n)
  (h:∀k,k<=n->(∀i,base<=i->i<base+k->(q:i<arr.size)->C.rk arr[i]<C.rk key)->(∀i,base+k<=i->i<base+n->(q:i<arr.size)->C.rk key<=C.rk arr[i])->W C (f (some k)) Q st):W C (uT true key arr base n hint>>=f) Q st:=W.bind (w_left hk lE gq (λ_ _ _ z _ q=>sg.at q z) hb hh h)
def O8{T p:Nat->Array Keyed->Prop}{G:Prop}(k:(∀j o,p j o->T j o)->G)(h:∀j o,p j o->T j o):G:=k h
def both{T:Nat->Prop}{G:Prop}(k:(∀z,T z)->G)(h:∀z,T z):G:=k h
end
def Po{st:SortSt}(hk:kindOf st=C.κ)(ha:∀x∈a,C.In x)(hb:∀x∈b,C.In x)(sa:So C a)(sb:So C b)(a1:0<a.size)(b1:0<b.size)(h0:C.rk b[0]<C.rk a[0])(hl:∀y∈b,C.rk y<C.rk a[a.size -1])
  (h:∀m g,Res C a b m->Q m (GS st g)):W C (JM a b) Q st:=by
 have sw:st=GS st (gallopOf st):=rfl;have Q6:∀{i:Nat}(q:i<a.size),C.In a[i]:=λq=>ha _ (c6 q);have Q5:∀{i:Nat}(q:i<b.size),C.In b[i]:=λq=>hb _ (c6 q);unfold JM;refine(W.Np ((W.bE b1 ?_)));have m0:Mg (Rk C) a.toList b.toList (#[b[0]]:Array Keyed).toList 0 1:=by have:Mg (Rk C) a.toList b.toList (#[]:Array Keyed).toList 0 0:={by simp,.nil,(λx hx=>by cases hx),(λx hx=>by cases hx)};have:=NW this sa sb b1 λz=>bu h0;simpa using this
 refine W.ite (λc=>W.pure (by rw[sw];exact h _ _ (Fj m0 sa sb (.inl (by simpa using c))))) λc1=>?_;refine W.ite (λc=>W.pure (by rw[sw];exact h _ _ (HR m0 sa sb (by simpa using c) hl))) λc2=>?_;have l1:0+1<a.size:=by simp at c2;lia
 have l2:1<b.size:=by simp at c1;lia
 refine W.bG (W.loop (T:=Nat) (a:=a) (b:=b) (g:=gallopOf st) (λr o i j t=>(r,o,i,j,t)) (λi o ia ib=>MI C a b o ia ib/\i+1<=ia+ib) (λ_ _ _=>False) {⟨m0,l1,l2⟩,ar 1} ?_ ?_ ?_ λ_ _ _ _ _ h=>h.elim)
 ·rintro o ia ib ⟨⟨_,h1,h2⟩,h3⟩;lia
 ·intro i g o ia ib mg E hM dn _ yd;obtain⟨M,n1⟩:=hM;refine W.loop (T:=Nat×Nat) (a:=a) (b:=b) (λr o i j t=>(r,o,i,j,t)) (λx o i j=>MI C a b o i j/\ia+ib+x<=i+j) (λo i j=>MI C a b o i j/\ia+ib+1<=i+j) {M,ar _} ?_ ?_ (λm g o i j t R=>W.pure (dn _ _ _ _ _ _ R)) ?_
  ·rintro o ia ib ⟨⟨_,h1,h2⟩,h3⟩;lia
  ·intro x g o ja jb t E hM dn dN yd;obtain⟨M,n2⟩:=hM;have l1:=M.la;have l2:=M.lb;refine W.bE l2 (W.bE (oY l1) (W.bLt hk (Q5 l2) (Q6 (oY l1)) (λe=>?_) λe=>?_))
   ·have m':=NW M.mg sa sb l2 λz=>bu e;exact W.bE l2 (W.ite (λc=>W.pure (dn _ _ _ _ _ _ (Fj m' sa sb (.inl (by simpa using c))))) λc=>by
     have l3:jb+1<b.size:=by simp at c;lia
     exact W.ite (λ_=>W.pure (dN _ _ ja (jb+1) _ {⟨m',l1,l3⟩,by lia})) λ_=>W.pure (yd _ _ ja (jb+1) _ {⟨m',l1,l3⟩,by lia}))
   ·have m':=NY M.mg sa sb ∅ λz=>j3 e;exact W.bE (oY l1) (W.ite (λc=>W.pure (dn _ _ _ _ _ _ (HR m' sa sb (by simpa using c) hl))) λc=>by
     have l3:ja+1+1<a.size:=by simp at c;lia
     exact W.ite (λ_=>W.pure (dN _ _ (ja+1) jb _ {⟨m',l3,l2⟩,by lia})) λ_=>W.pure (yd _ _ (ja+1) jb _ {⟨m',l3,l2⟩,by lia}))
  intro g o ja jb t hM;obtain⟨M',n2⟩:=hM;refine W.Np (W.loop (T:=Nat×Nat×Nat) (a:=a) (b:=b) (λr o i j t=>(r,o,i,j,t)) (λx o i j=>MI C a b o i j/\ia+ib+1+x<=i+j) (λo i j=>MI C a b o i j/\ia+ib+1<=i+j) ⟨M',n2⟩ ?_ ?_ (λm g o i j t R=>W.pure (dn _ _ _ _ _ _ R)) λg o i j t h=>W.bM (W.pure (yd _ _ i j _ {h.1,by have:=h.2;lia})))
  ·rintro o ia ib ⟨⟨_,h1,h2⟩,h3⟩;lia
  ·intro x g out ia ib t E hM dn dN yd;obtain⟨mg,ac,bc⟩:=t;obtain⟨M,n3⟩:=hM;have l1:=M.la;have l2:=M.lb;dsimp only;generalize mg -1=m1;revert m1 mg;refine both (λkey mg m1=>W.ite (λ_=>key m1) λ_=>key mg) λmg=>?_;refine W.bM (W.bE l2 (W.bR hk (Q5 l2) ha sa ∅ ∅ λk q1 q2 q3=>?_));have M2:Mg (Rk C) a.toList b.toList (out++a.extract ia (ia+k)).toList (ia+k) ib:=by rw[WU];exact M.mg.on sa k _ q2 λj h1 z=>sb.at z h1
   have q3:∀z:ia+k<a.size,C.rk b[ib]<=C.rk a[ia+k]:=λz=>bu (q3 _ (ar _) ∅ z);dsimp only;generalize hja:ia+k=ja at M2 q3⊢;generalize out++a.extract ia ja=ou at M2⊢;clear q2;revert ja ou;refine O8 (p:=λja ou=>Mg (Rk C) a.toList b.toList ou.toList ja ib/\(∀z:ja<a.size,C.rk b[ib]<=C.rk a[ja])/\ja+1<a.size/\ia<=ja) (λR ja hja q3 ou M2=>W.ite (λc=>W.ite (λd=>W.pure (dn _ _ _ _ _ _ (HR M2 sa sb (by simpa using d) hl))) λd=>W.ite (λd2=>W.pure (dn _ _ _ _ _ _ (Fj M2 sa sb (.inr (by simpa using d2))))) λd2=>R ja ou {M2,q3,(by simp at d d2;lia),∅}) λc=>R ia out {M.mg,(by obtain rfl:ia=ja:=∅;exact q3),l1,ar _}) λja ou hp=>?_;obtain⟨M2,q3,l1,le⟩:=hp;have m3:=NW M2 sa sb l2 q3;refine W.bE l2 (W.ite (λd=>W.pure (dn _ _ _ _ _ _ (Fj m3 sa sb (.inl (by simpa using d))))) λd=>?_);have l3:ib+1<b.size:=by simp at d;lia
   have la:=oY l1;refine W.bE la (W.bL hk (Q6 la) hb sb ∅ ∅ λk2 p1 p2 p3=>?_);have M4:=(m3.swap.on sb k2 _ (λi h1 h2 z=>bu (p2 i h1 h2 z)) λj h1 z=>sa.at z h1).swap;rw[<-WU]at M4;have p3:∀z:ib+1+k2<b.size,C.rk a[ja]<=C.rk b[ib+1+k2]:=λz=>p3 _ (ar _) ∅ z;dsimp only;generalize hjb:ib+1+k2=jb at M4 p3⊢;generalize ou.push b[ib]++b.extract (ib+1) jb=ov at M4⊢;clear p2;revert jb ov;refine O8 (p:=λjb ov=>Mg (Rk C) a.toList b.toList ov.toList ja jb/\(∀z:jb<b.size,C.rk a[ja]<=C.rk b[jb])/\jb<b.size/\ib<jb) (λR jb hjb p3 ov M4=>W.ite (λc=>W.ite (λd=>W.pure (dn _ _ _ _ _ _ (Fj M4 sa sb (.inl (by simpa using d))))) λd=>R jb ov {M4,p3,(by simp at d;lia),∅}) λc=>R (ib+1) (ou.push b[ib]) {m3,(by obtain rfl:ib+1=jb:=∅;exact p3),l3,dC _}) λjb ov hp=>?_;obtain⟨M4,p3,l4,lb⟩:=hp;have m5:=NY (ia:=ja) M4 sa sb la p3;exact W.bE la (W.ite (λd=>W.pure (dn _ _ _ _ _ _ (HR m5 sa sb (by simpa using d) hl))) λd=>by
    have l6:ja+1+1<a.size:=by simp at d;lia
    exact W.ite (λ_=>W.pure (dN _ _ _ _ _ {⟨m5,l6,l4⟩,by lia})) λ_=>W.pure (yd _ _ _ _ _ {⟨m5,l6,l4⟩,by lia}))
 ·intro m g o ia ib t R;exact W.pure (h _ _ R)
variable{C:Ct}
abbrev Rg(C:Ct)(x y:Keyed):Prop:=C.rk y<=C.rk x
abbrev MH(C:Ct)(a b out:Array Keyed)(na nb:Nat):Prop:=Mg (Rg C) a.toList.reverse b.toList.reverse out.toList (a.size -na) (b.size -nb)
def rT{a:Array Keyed}(h:n<=a.size):a.toList.reverse.drop (a.size -n)=(a.toList.take n).reverse:=by rw[List.drop_reverse,aS,show a.size -(a.size -n)=n by lia]
def JO{a:Array Keyed}(h:x∈a.toList.take n):∃i,∃q:i<a.size,i<n/\x=a[i]:=by obtain⟨i,hi,e⟩:=fo.mp h;rw[aT,aS]at hi;exact{i,by lia,by lia,by rw[<-e];simp}
section
variable{a b out:Array Keyed}{na nb:Nat}
def MH.on(m:MH C a b out na nb)(sa:So C a)(ha:na<=a.size)(hb:nb<=b.size)(at_ v:Nat)(q:at_<=na)(hx:∀i,at_<=i->i<na->(q:i<a.size)->v<=C.rk a[i])(hy:∀j,j<nb->(q:j<b.size)->C.rk b[j]<=v):MH C a b (out++(a.extract at_ na).reverse) at_ nb:=by
 have e:(a.toList.reverse.drop (a.size -na)).take (na -at_)=((a.extract at_ na).reverse).toList:=by rw[rT ha,List.take_reverse];simp[List.extract_eq_drop_take,aT,List.drop_take,gL ha];rw[show na -(na -at_)=at_ by lia]
 have:=m.go (lJ.mpr sa) (na -at_) λx xW y MM=>by rw[e]at xW;rw[rT hb]at MM;simp only[zE,j6,rg,List.extract_eq_drop_take]at xW;obtain⟨i,q1,h1,h2,rfl⟩:=QE xW;obtain⟨j,z,h3,rfl⟩:=JO (j6.mp MM);exact aD (hy j h3 z) (hx i h1 ∅ q1)
 rw[e,show a.size -na+(na -at_)=a.size -at_ by lia,<-rF]at this;exact this
def MH.sw(m:MH C a b out na nb):MH C b a out nb na:=m.swap
def MH.put(m:MH C a b out na nb)(sa:So C a)(sb:So C b)(ha:na<=a.size)(hb:nb<=b.size)(q:0<na)(c:∀z:0<nb,C.rk (b[nb -1]'∅)<=C.rk (a[na -1]'∅)):MH C a b (out.push (a[na -1]'∅)) (na -1) nb:=by
 have:=m.on sa ha hb (na -1) (C.rk (a[na -1]'∅)) ∅ (λi h1 h2 z=>by
  have e:i=na -1:=by lia
  subst e;exact ar _) λj h1 z=>aD (sb.at ∅ ∅) (c ∅)
 have e:out++(a.extract (na -1) na).reverse=out.push (a[na -1]'∅):=by apply Array.ext';rw[rF,zE,k9,rg,List.extract_eq_drop_take,show na -(na -1)=1 by lia,Qq ∅];rfl
 rw[e]at this;exact this
def MH.fin(m:MH C a b out na nb)(sa:So C a)(sb:So C b)(ha:na<=a.size)(hb:nb<=b.size)(c:∀i j,i<na->j<nb->(q:i<a.size)->(z:j<b.size)->C.rk b[j]<=C.rk a[i]):Res C a b (b.extract 0 nb++a.extract 0 na++out.reverse):=by
 have:=m.end (lJ.mpr sa) (lJ.mpr sb) λx hx y hy=>by rw[rT ha]at hx;rw[rT hb]at hy;obtain⟨i,q,h1,rfl⟩:=JO (j6.mp hx);obtain⟨j,z,h2,rfl⟩:=JO (j6.mp hy);exact c i j h1 h2 q z
 rw[rT ha,rT hb]at this;have e:(b.extract 0 nb++a.extract 0 na++out.reverse).toList=(out.toList++(a.toList.take na).reverse++(b.toList.take nb).reverse).reverse:=by simp[List.extract_eq_drop_take]
 unfold Res;rw[e];refine{(uk _).trans (this.1.trans ((uk _).append (uk _))),?_};rw[lJ];exact this.2
def MH.end(m:MH C a b out na nb)(sa:So C a)(sb:So C b)(ha:na<=a.size)(hb:nb<=b.size)(c:na=0\/nb=0):Res C a b (a.extract 0 na++b.extract 0 nb++out.reverse):=by
 have:=m.sw.fin sb sa hb ha λi j h1 h2=>by lia
 exact{this.1.trans ju,this.2}
end
structure MJ(C:Ct)(a b out:Array Keyed)(na nb:Nat):Prop where
 mg:MH C a b out na nb
 la:0<na/\na<=a.size
 lb:1<nb/\nb<=b.size
def Pp{st:SortSt}(hk:kindOf st=C.κ)(ha:∀x∈a,C.In x)(hb:∀x∈b,C.In x)(sa:So C a)(sb:So C b)(a1:0<a.size)(b1:0<b.size)(h0:C.rk b[0]<C.rk a[0])(hl:∀y∈b,C.rk y<C.rk a[a.size -1])
  (h:∀m g,Res C a b m->Q m (GS st g)):W C (JN a b) Q st:=by
 have sw:st=GS st (gallopOf st):=rfl;have Q6:∀{i:Nat}(q:i<a.size),C.In a[i]:=λq=>ha _ (c6 q);have Q5:∀{i:Nat}(q:i<b.size),C.In b[i]:=λq=>hb _ (c6 q);have b0:∀i j,j<1->(q:i<a.size)->(z:j<b.size)->C.rk b[j]<=C.rk a[i]:=λi j h1 q z=>by
  have e:j=0:=by lia
  subst e;exact aD (bu h0) (sa.at q (aP _))
 unfold JN;refine W.Np (W.bE (i:=a.size -1) ∅ ?_);have m0:MH C a b (#[a[a.size -1]]:Array Keyed) (a.size -1) b.size:=by have:MH C a b (#[]:Array Keyed) a.size b.size:={by simp,.nil,(λx hx=>by cases hx),(λx hx=>by cases hx)};exact this.put sa sb (ar _) (ar _) a1 λz=>bu (hl _ (c6 _))
 refine W.ite (λc1=>W.pure (by rw[sw];exact h _ _ (m0.end sa sb ∅ (ar _) (.inl (by simpa using c1))))) λc1=>?_;refine W.ite (λc2=>W.pure (by rw[sw];exact h _ _ (m0.fin sa sb ∅ (ar _) λi j h1 h2=>b0 i j (by simp at c2;lia)))) λc2=>?_;have l1:0<a.size -1:=by simp at c1;lia
 have l2:1<b.size:=by simp at c2;lia
 refine W.bG (W.loop (T:=Nat) (a:=a) (b:=b) (g:=gallopOf st) (λr o i j t=>(r,i,j,o,t)) (λi o na nb=>MJ C a b o na nb/\na+nb+i+1<=a.size+b.size) (λ_ _ _=>False) {{m0,{l1,by lia},{l2,ar _}},by lia} ?_ ?_ ?_ λ_ _ _ _ _ h=>h.elim)
 ·rintro o na nb ⟨⟨_,h1,h2⟩,h3⟩;lia
 ·intro i g o na nb mg E hM dn _ yd;obtain⟨M,n1⟩:=hM;have lm:=M.la;have lm':=M.lb;refine W.loop (T:=Nat×Nat) (a:=a) (b:=b) (λr o i j t=>(r,i,j,o,t)) (λx o i j=>MJ C a b o i j/\i+j+x<=na+nb) (λo i j=>MJ C a b o i j/\i+j+1<=na+nb) {M,ar _} ?_ ?_ (λm g o i j t R=>W.pure (dn _ _ _ _ _ _ R)) ?_
  ·rintro o ia ib ⟨⟨_,h1,h2⟩,h3⟩;lia
  ·intro x g o ja jb t E hM dn dN yd;obtain⟨M,n2⟩:=hM;have l1:=M.la;have l2:=M.lb;have la:ja -1<a.size:=by lia
   have lb:jb -1<b.size:=by lia
   refine W.bE lb (W.bE la (W.bLt hk (Q5 lb) (Q6 la) (λe=>?_) λe=>?_))
   ·have m':=M.mg.put sa sb l1.2 l2.2 l1.1 λz=>bu e;exact W.bE la (W.ite (λd=>W.pure (dn _ _ _ _ _ _ (m'.end sa sb (bu la) l2.2 (.inl (by simpa using d))))) λd=>by
     have l3:0<ja -1/\ja -1<=a.size:=by simp at d;lia
     exact W.ite (λ_=>W.pure (dN _ _ (ja -1) jb _ {⟨m',l3,l2⟩,by lia})) λ_=>W.pure (yd _ _ (ja -1) jb _ {⟨m',l3,l2⟩,by lia}))
   ·have m':=(M.mg.sw.put sb sa l2.2 l1.2 ∅ λz=>j3 e).sw;exact W.bE lb (W.ite (λd=>W.pure (dn _ _ _ _ _ _ (m'.fin sa sb l1.2 (bu lb) λi j h1 h2=>b0 i j (by simp at d;lia)))) λd=>by
     have l3:1<jb -1/\jb -1<=b.size:=by simp at d;lia
     exact W.ite (λ_=>W.pure (dN _ _ ja (jb -1) _ {⟨m',l1,l3⟩,by lia})) λ_=>W.pure (yd _ _ ja (jb -1) _ {⟨m',l1,l3⟩,by lia}))
  intro g o ja jb t hM;obtain⟨M',n2⟩:=hM;refine W.Np (W.loop (T:=Nat×Nat×Nat) (a:=a) (b:=b) (λr o i j t=>(r,i,j,o,t)) (λx o i j=>MJ C a b o i j/\i+j+1+x<=na+nb) (λo i j=>MJ C a b o i j/\i+j+1<=na+nb) ⟨M',n2⟩ ?_ ?_ (λm g o i j t R=>W.pure (dn _ _ _ _ _ _ R)) λg o i j t h=>W.bM (W.pure (yd _ _ i j _ {h.1,by have:=h.2;lia})))
  ·rintro o ia ib ⟨⟨_,h1,h2⟩,h3⟩;lia
  ·clear n2 M' M n1;intro x g out na nb t E hM dn dN yd;obtain⟨mg,ac,bc⟩:=t;obtain⟨M,n3⟩:=hM;have l1:=M.la;have l2:=M.lb;have lb:nb -1<b.size:=by lia
   dsimp only;generalize mg -1=m1;revert m1 mg;refine both (λkey mg m1=>W.ite (λ_=>key m1) λ_=>key mg) λmg=>?_;refine W.bM (W.bE lb (W.bR hk (Q5 lb) ha sa ∅ ∅ λk q1 q2 q3=>?_));have M2:=M.mg.on sa l1.2 l2.2 k (C.rk b[nb -1]) q1 (λi h1 h2 z=>bu (q3 i ∅ ∅ z)) λj h1 z=>sb.at ∅ ∅;dsimp only;generalize out++(a.extract k na).reverse=ou at M2⊢;generalize hct:na -k=ct;clear q3;have q2:∀z:k -1<a.size,0<k->C.rk a[k -1]<=C.rk b[nb -1]:=λz h=>q2 _ ∅ ∅ z;revert k ou;refine O8 (p:=λja ou=>MH C a b ou ja nb/\(∀z:ja -1<a.size,0<ja->C.rk a[ja -1]<=C.rk b[nb -1])/\0<ja/\ja<=na) (λR k q1 _ ou M2 hct q2=>W.ite (λc=>W.ite (λd=>W.pure (dn _ _ _ _ _ _ (M2.end sa sb ∅ l2.2 (.inl (by simpa using d))))) λd=>R k ou {M2,q2,(by simp at d;lia),q1}) λc=>R na out {M.mg,(by obtain rfl:k=na:=∅;exact q2),l1.1,ar _}) λk ou hp=>?_;obtain⟨M2,q2,l5,le⟩:=hp;have la:k -1<a.size:=by lia
   have m3:=(M2.sw.put sb sa l2.2 ∅ ∅ λz=>q2 la z).sw;refine W.bE lb (W.ite (λd=>W.pure (dn _ _ _ _ _ _ (m3.fin sa sb ∅ ∅ λi j h1 h2=>b0 i j (by simp at d;lia)))) λd=>?_);have l3:1<nb -1:=by simp at d;lia
   refine W.bE la (W.bL hk (Q6 la) hb sb ∅ ∅ λk2 p1 p2 p3=>?_);have M4:=(m3.sw.on sb ∅ ∅ k2 (C.rk a[k -1]) p1 (λi h1 h2 z=>p3 i ∅ ∅ z) λj h1 z=>sa.at ∅ ∅).sw;dsimp only;generalize ou.push b[nb -1]++(b.extract k2 (nb -1)).reverse=ov at M4⊢;generalize hcv:nb -1 -k2=cv;clear p3;have p2:∀z:k2 -1<b.size,0<k2->C.rk b[k2 -1]<=C.rk a[k -1]:=λz h=>bu (p2 _ ∅ ∅ z);revert k2 ov;refine O8 (p:=λjb ov=>MH C a b ov k jb/\(∀z:jb -1<b.size,0<jb->C.rk b[jb -1]<=C.rk a[k -1])/\1<jb/\jb<=nb -1) (λR k2 p1 _ ov M4 hcv p2=>W.ite (λc=>W.ite (λd=>W.pure (dn _ _ _ _ _ _ (M4.fin sa sb ∅ ∅ λi j h1 h2=>b0 i j (by simp at d;lia)))) λd=>W.ite (λd2=>W.pure (dn _ _ _ _ _ _ (M4.end sa sb ∅ ∅ (.inr (by simpa using d2))))) λd2=>R k2 ov {M4,p2,(by simp at d d2;lia),p1}) λc=>R (nb -1) (ou.push b[nb -1]) {m3,(by obtain rfl:k2=nb -1:=∅;exact p2),l3,ar _}) λk2 ov hp=>?_;obtain⟨M4,p2,l4,lk⟩:=hp;have m5:=M4.put sa sb ∅ ∅ ∅ λz=>p2 ∅ z;exact W.bE la (W.ite (λd=>W.pure (dn _ _ _ _ _ _ (m5.end sa sb ∅ ∅ (.inl (by simpa using d))))) λd=>by
    have l6:0<k -1/\k -1<=a.size:=by simp at d;lia
    have l7:1<k2/\k2<=b.size:=by lia
    exact W.ite (λ_=>W.pure (dN _ _ (k -1) k2 _ {⟨m5,l6,l7⟩,by lia})) λ_=>W.pure (yd _ _ (k -1) k2 _ {⟨m5,l6,l7⟩,by lia}))
 ·intro m g o ia ib t R;exact W.pure (h _ _ R)
variable{C:Ct}
def ky(C:Ct)(a:Array Keyed)(k:Nat):Nat:=(a[k]?).elim 0 C.rk
def iL(h:k<a.size):ky C a k=C.rk a[k]:=by unfold ky;rw[getElem?_pos a k h];rfl
def ET(h:a[i]?=b[j]?):ky C a i=ky C b j:=by unfold ky;rw[h]
def Up(C:Ct)(a:Array Keyed)(lo hi:Nat):Prop:=∀i j,lo<=i->i<=j->j<hi->ky C a i<=ky C a j
def Dn(C:Ct)(a:Array Keyed)(lo hi:Nat):Prop:=∀i j,lo<=i->i<=j->j<hi->ky C a j<=ky C a i
structure Mv(a a':Array Keyed)(lo hi:Nat):Prop where
 pm:a'.Perm a
 ou:∀k,k<lo\/hi<=k->a'[k]?=a[k]?
def Mv.sz{lo hi:Nat}(m:Mv a a' lo hi):a'.size=a.size:=m.pm.size_eq
def Mv.refl{lo hi:Nat}:Mv a a lo hi:={.refl _,λ_ _=>rfl}
def Mv.trans{lo hi:Nat}(m:Mv a b lo hi)(n:Mv b c lo hi):Mv a c lo hi:={n.pm.trans m.pm,λk h=>(n.ou k h).trans (m.ou k h)}
def Mv.wide{lo hi QM Wx:Nat}(m:Mv a b lo hi)(h1:QM<=lo)(h2:hi<=Wx):Mv a b QM Wx:={m.pm,λk h=>m.ou k ∅}
def Mv.in{lo hi:Nat}(m:Mv a a' lo hi)(h:∀x∈a,C.In x):∀x∈a',C.In x:=λx hx=>h x (m.pm.mem_iff.mp hx)
def Mv.up{lo hi l h:Nat}(m:Mv a a' lo hi)(u:Up C a l h)(c:h<=lo\/hi<=l):Up C a' l h:=λi j h1 h2 h3=>by rw[ET (m.ou i ∅),ET (m.ou j ∅)];exact u i j h1 h2 h3
def wm(hj:j<=a.size):Mv a (mirror a i j ((j -i)/2)) i j:={mirror_perm _ _ _ _,λk h=>by rw[getElem?_mirror_all hj,az ∅]}
def sR(hj:j<=a.size)(k:Nat):ky C (mirror a i j ((j -i)/2)) k=if i<=k/\k<j then ky C a (i+j -1 -k)else ky C a k:=by unfold ky;rw[getElem?_mirror_all hj];split<;>rfl
def QB(hs:s<a.size)(hd:d<=s):Mv a (bubble a s (s -d)) d (s+1):={bubble_perm _ _ _,λk h=>by rw[getElem?_bubble hs _ ∅,az ∅,az ∅]}
section
variable{st:SortSt}
def W.at(hk:kindOf st=C.κ)(gq:∀x∈arrOf st,C.In x)(hi:i<(-11).size)(hj:j<(-11).size)(h:Q (some (decide (ky C (-11) i<ky C (-11) j))) st):W C (ltAt' i j) Q st:=by rw[iL hi,iL hj]at h;rw[ltAt'_eq];exact W.bind (W.get (W.bind (W.elem hi (W.bind (W.elem hj (W.lt hk (gq _ (c6 _)) (gq _ (c6 _)) h))))))
def W.rev(h:Q ⟨⟩ (setArr st (mirror (-11) i j ((j -i)/2)))):W C (reverseSlice' i j) Q st:=by rw[reverseSlice'_eq];exact W.modify h
def Up.more{lo hi:Nat}(u:Up C a lo hi)(h:lo<hi)(c:ky C a (hi -1)<=ky C a hi):Up C a lo (hi+1):=λi j h1 h2 h3=>by
 by_cases e:j=hi
 ·subst e;by_cases e2:i=j
  ·rw[e2];exact ar _
  ·exact aD (u i (j -1) h1 ∅ ∅) c
 ·exact u i j h1 h2 ∅
def Dn.more{lo hi:Nat}(u:Dn C a lo hi)(h:lo<hi)(c:ky C a hi<=ky C a (hi -1)):Dn C a lo (hi+1):=λi j h1 h2 h3=>by
 by_cases e:j=hi
 ·subst e;by_cases e2:i=j
  ·rw[e2];exact ar _
  ·exact aD c (u i (j -1) h1 ∅ ∅)
 ·exact u i j h1 h2 ∅
def Dn.of{lo hi:Nat}(u:Dn C a lo hi)(e:∀k,ky C b k=ky C a k):Dn C b lo hi:=λi j h1 h2 h3=>by rw[e,e];exact u i j h1 h2 h3
def W.Nq{α:Type}{Q:α->SortSt->Prop}{i j:Nat}{f:Option Bool->StateT SortSt Sem α}(hk:kindOf st=C.κ)(gq:∀x∈arrOf st,C.In x)(hi:i<(-11).size)(hj:j<(-11).size)(h1:ky C (-11) i<ky C (-11) j->W C (f (some true)) Q st)(h2:¬ky C (-11) i<ky C (-11) j->W C (f (some false)) Q st):W C (ltAt' i j>>=f) Q st:=W.bind (W.at hk gq hi hj (by
 by_cases e:ky C (-11) i<ky C (-11) j
 ·rw[bp e];exact h1 e
 ·rw[bQ e];exact h2 e))
def W.U3{α:Type}{Q:α->SortSt->Prop}{i j:Nat}{f:PUnit->StateT SortSt Sem α}(h:∀a,a=mirror (-11) i j ((j -i)/2)->W C (f ⟨⟩) Q (setArr st a)):W C (reverseSlice' i j>>=f) Q st:=W.bind (W.rev (h _ rfl))
def abF{T p:Array Keyed->Prop}{G:Prop}(k:(∀a,p a->T a)->G)(h:∀a,p a->T a):G:=k h
def W.EO{α β U V:Type}{Q:α->SortSt->Prop}{lo hi:Nat}{f:Nat->β->StateT SortSt Sem (ForInStep β)}{k:β->StateT SortSt Sem α}(mc:Nat->U->V->β)(ms:U->V->SortSt)(P B:Nat->U->V->Prop){u:U}{v:V}(h0:P lo u v)(he:∀u v,P (max lo hi) u v->B (max lo hi) u v)
  (hs:∀i u v(E:ForInStep β->SortSt->Prop),lo<=i->i<hi->P i u v->(∀x u v,B x u v->E (.done (mc x u v)) (ms u v))->(∀u v,P (i+1) u v->E (.yield (mc (i+1) u v)) (ms u v))->W C (f i (mc i u v)) E (ms u v))
  (hk:∀x u v,B x u v->W C (k (mc x u v)) Q (ms u v)):W C (forIn [lo:hi] (mc lo u v) f>>=k) Q (ms u v):=by
 refine W.bind (W.mono (W.for (I:=λi c s'=>∃u v,s'=ms u v/\c=mc i u v/\P i u v) (Q:=λc s'=>W C (k c) Q s') ?_ ?_ ⟨_,_,rfl,rfl,h0⟩) λ_ _ h=>h)
 ·rintro i c s' h1 h2 ⟨u,v,rfl,rfl,h⟩;exact hs i u v _ h1 h2 h hk λu v h=>⟨u,v,rfl,rfl,h⟩
 ·rintro c s' ⟨u,v,rfl,rfl,h⟩;exact hk _ _ _ (he _ _ h)
def w_count{lo nrem:Nat}(hk:kindOf st=C.κ)(gq:∀x∈arrOf st,C.In x)(h1:1<=nrem)(hs:lo+nrem<=(-11).size)
  (h:∀m a',Mv (-11) a' lo (lo+nrem)->1<=m->m<=nrem->Up C a' lo (lo+m)->Q (some m) (setArr st a')):W C (countRun' lo nrem) Q st:=by
 have sw:st=setArr st (-11):=rfl;unfold countRun';refine W.EO (U:=PUnit) (V:=PUnit) (λx _ _=>(none,x)) (λ_ _=>st) (λx _ _=>Up C (-11) lo (lo+x)) (λn _ _=>1<=n/\n<=nrem/\Up C (-11) lo (lo+n)/\(n=nrem\/ky C (-11) (lo+n)<ky C (-11) (lo+n -1))) (u:=⟨⟩) (v:=⟨⟩) (λi j q1 q2 q3=>by rw[show i=j by lia];exact ar _) ?_ ?_ ?_
 ·intro _ _ u;rw[show max 1 nrem=nrem by lia]at u⊢;exact{by lia,ar _,u,.inl rfl}
 ·intro x _ _ E zP hx2 u dn yd;exact W.Nq (i:=lo+x) (j:=lo+x -1) hk gq ∅ ∅ (λe=>W.pure (dn x ⟨⟩ ⟨⟩ {zP,by lia,u,.inr e})) λe=>W.pure (yd ⟨⟩ ⟨⟩ (u.more ∅ (j3 e)))
 intro n _ _ hn;obtain⟨n1,n2,u,last⟩:=hn;refine W.ite (λc=>W.pure (by rw[sw];exact h n _ .refl n1 n2 u)) λc=>?_;have last:ky C (-11) (lo+n)<ky C (-11) (lo+n -1):=last.resolve_left (by simpa using c);have n3:n<nrem:=by simp at c;lia
 refine abF (p:=λa0=>Mv (-11) a0 lo (lo+nrem)/\Dn C a0 lo (lo+n+1)) (λR=>W.ite (λc=>W.Nq hk gq ∅ ∅ (λe=>W.pure (by rw[sw];exact h n _ .refl n1 n2 u)) λ(e:¬ky C (arrOf st) lo<ky C (arrOf st) (lo+n -1))=>W.U3 λa0 ea=>R a0 ?_) λc=>R (-11) {.refl,Dn.more (λi j q1 q2 q3=>by rw[show i=j by lia];exact ar _) ∅ (bu last)}) λa0 hp=>?_
 ·subst ea;have al:∀k,lo<=k->k<lo+n->ky C (-11) k=ky C (-11) lo:=λk q1 q2=>by have:=u lo k (ar _) q1 q2;have:=u k (lo+n -1) q1 ∅ ∅;lia
  have kk:∀k,ky C (mirror (-11) lo (lo+n) ((lo+n -lo)/2)) k=ky C (-11) k:=λk=>by
   rw[sR ∅];split
   ·rw[al _ ∅ ∅,al k ∅ ∅]
   ·rfl
  exact{(wm ∅).wide (ar _) ∅,(Dn.of (a:=arrOf st) (λi j q1 q2 q3=>by rw[al i q1 ∅,al j ∅ q3];exact ar _) kk).more ∅ (by rw[kk,kk];lia)}
 obtain⟨M0,D0⟩:=hp;refine W.Np (W.EO (U:=Array Keyed) (V:=Nat) (λx _ q=>(none,x,q)) (λa _=>setArr st a) (λx a' q=>Mv (-11) a' lo (lo+nrem)/\Dn C a' lo (lo+x)/\q+1<=x/\∀k,lo+x -(q+1)<=k->k<lo+x->ky C a' k=ky C a' (lo+x -1))
   (λm a' q=>n+1<=m/\m<=nrem/\Mv (-11) a' lo (lo+nrem)/\Dn C a' lo (lo+m)/\q+1<=m/\∀k,lo+m -(q+1)<=k->k<lo+m->ky C a' k=ky C a' (lo+m -1)) (u:=a0) (v:=0) {M0,D0,by lia,λk q1 q2=>by rw[show k=lo+(n+1) -1 by lia]} ?_ ?_ ?_)
 ·rw[show max (n+1) nrem=nrem by lia]
  exactλa' q hp=>{n3,ar _,hp}
 ·intro x a' q E zP hx2 hp dn yd;obtain⟨M,D,q1,al⟩:=hp;have zP:n+1<=x:=zP;have sz:=M.sz;have kk:∀k,ky C (mirror a' (lo+x -(q+1)) (lo+x) ((lo+x -(lo+x -(q+1)))/2)) k=ky C a' k:=λk=>by
   rw[sR ∅];split
   ·rw[al _ ∅ ∅,al k ∅ ∅]
   ·rfl
  exact W.Nq (i:=lo+x) (j:=lo+x -1) hk (M.in gq) (by rw[sz];lia) (by rw[sz];lia) (λ(e:ky C a' (lo+x)<ky C a' (lo+x -1))=>W.ite (λ_=>W.ite (λ_=>W.bind (W.rev (i:=lo+x -(q+1)) (j:=lo+x) (W.pure (yd _ 0 {M.trans ((wm ∅).wide ∅ ∅),(D.of kk).more ∅ (by rw[kk,kk];lia),by lia,λk q1 q2=>by rw[show k=lo+(x+1) -1 by lia]})))) λ_=>W.pure (yd a' 0 {M,D.more ∅ ∅,by lia,λk q1 q2=>by rw[show k=lo+(x+1) -1 by lia]})) λz=>absurd rfl z)
   λ(e:¬ky C a' (lo+x)<ky C a' (lo+x -1))=>W.Nq (i:=lo+x -1) (j:=lo+x) hk (M.in gq) (by rw[sz];lia) (by rw[sz];lia) (λe2=>W.pure (dn x a' q {zP,by lia,M,D,q1,al})) λ(e2:¬ky C a' (lo+x -1)<ky C a' (lo+x))=>W.pure (yd a' (q+1) {M,D.more ∅ ∅,by lia,λk q1 q2=>by
    rw[show lo+(x+1) -1=lo+x by lia];by_cases z:k=lo+x
    ·rw[z]
    ·rw[al k ∅ ∅];lia})
 intro m a' q hp;obtain⟨m1,m2,M,D,q1,al⟩:=hp;have sz:=M.sz;refine abF (p:=λa2=>Mv (-11) a2 lo (lo+nrem)/\Dn C a2 lo (lo+m)) (λR=>W.ite (λ_=>W.U3 (i:=lo+m -(q+1)) (j:=lo+m) λa2 ea=>R a2 ?_) λ_=>R a' ⟨M,D⟩) λa2 hp=>?_
 ·subst ea;exact{M.trans ((wm (i:=lo+m -(q+1)) (j:=lo+m) ∅).wide ∅ ∅),D.of λk=>by
   show ky C (mirror a' _ _ _) k=_;rw[sR ∅];split
   ·rw[al _ ∅ ∅,al k ∅ ∅]
   ·rfl}
 obtain⟨M2,D⟩:=hp;have sz:=M2.sz;refine W.U3 (i:=lo) (j:=lo+m) λa3 ea=>?_;have ea:a3=mirror a2 lo (lo+m) ((lo+m -lo)/2):=ea;have M3:Mv (-11) a3 lo (lo+nrem):=by rw[ea];exact M2.trans ((wm (i:=lo) (j:=lo+m) ∅).wide ∅ ∅)
 have u0:Up C a3 lo (lo+m):=λi j q1 q2 q3=>by rw[ea,sR ∅,sR ∅,aC ∅,aC ∅];exact D _ _ ∅ ∅ ∅
 refine W.EO (U:=PUnit) (V:=PUnit) (λx _ _=>(none,x)) (λ_ _=>setArr st a3) (λx _ _=>Up C a3 lo (lo+x)) (λr _ _=>m<=r/\r<=nrem/\Up C a3 lo (lo+r)) (u:=⟨⟩) (v:=⟨⟩) u0 ?_ ?_ λr _ _ hp=>W.pure (h r _ M3 ∅ hp.2.1 hp.2.2)
 ·intro _ _ u;rw[show max m nrem=nrem by lia]at u⊢;exact{by lia,ar _,u}
 ·intro x _ _ E zP hx2 u dn yd;have zP:m<=x:=zP;exact W.Nq (i:=lo+x) (j:=lo+x -1) hk (M3.in gq) (by rw[M3.sz];lia) (by rw[M3.sz];lia) (λe=>W.pure (dn x ⟨⟩ ⟨⟩ {zP,by lia,u})) λe=>W.pure (yd ⟨⟩ ⟨⟩ (u.more ∅ (j3 e)))
end
variable{C:Ct}{st:SortSt}
def GZ(hs:s<a.size)(hd:d<=s)(k:Nat):ky C (bubble a s (s -d)) k=if k=d then ky C a s else if d<k/\k<=s then ky C a (k -1)else ky C a k:=by
 unfold ky;rw[getElem?_bubble hs _ ∅,show s -(s -d)=d by lia];split
 ·rfl
 ·split<;>rfl
def abQ{lo n ok:Nat}(hk:kindOf st=C.κ)(gq:∀x∈arrOf st,C.In x)(br:ok<=n)(hs:lo+n<=(-11).size)(u0:Up C (-11) lo (lo+ok))
  (h:∀a',Mv (-11) a' lo (lo+n)->Up C a' lo (lo+n)->Q true (setArr st a')):W C (binarySort' lo n ok) Q st:=by
 unfold binarySort';refine W.EO (U:=Array Keyed) (V:=PUnit) (λ_ _ _=>(none,())) (λa _=>setArr st a) (λk a' _=>Mv (-11) a' lo (lo+n)/\Up C a' lo (lo+min k n)) (λ_ a' _=>Mv (-11) a' lo (lo+n)/\Up C a' lo (lo+n)) (u:=arrOf st) (v:=⟨⟩) {.refl,λi j q1 q2 q3=>?_} ?_ ?_ λ_ a' _ hp=>W.pure (h a' hp.1 hp.2)
 ·by_cases z:ok=0
  ·rw[show i=j by lia];exact ar _
  ·exact u0 i j q1 q2 ∅
 ·rw[show min (max (max ok 1) n) n=n by lia]
  exactλ_ _ h=>h
 ·intro k a' _ E k1 k2 hp dn yd;obtain⟨M,u⟩:=hp;rw[show min k n=k by lia]at u;have sz:=M.sz;refine W.EO (U:=Nat) (V:=Nat) (λ_ l r=>(none,l,r)) (λ_ _=>setArr st a') (λx l r=>l<=r/\r<=k/\r -l<=k -x/\(∀i,lo<=i->i<lo+l->ky C a' i<=ky C a' (lo+k))/\(∀i,lo+r<=i->i<lo+k->ky C a' (lo+k)<=ky C a' i))
   (λ_ l _=>l<=k/\(∀i,lo<=i->i<lo+l->ky C a' i<=ky C a' (lo+k))/\(∀i,lo+l<=i->i<lo+k->ky C a' (lo+k)<=ky C a' i)) (u:=0) (v:=k) {by lia,by lia,by lia,λi h1 h2=>by lia,λi h1 h2=>by lia} ?_ ?_ ?_
  ·exactλl r ⟨b1,b2,b3,b4,b5⟩=>{by lia,b4,λi q1 q2=>b5 i ∅ q2}
  ·intro x l r E _ hx hp dn yd;obtain⟨b1,b2,b3,b4,b5⟩:=hp;exact W.ite (λ(c:l≥r)=>W.pure (dn 0 l r {by lia,b4,λi q1 q2=>b5 i ∅ q2})) λ(c:¬l≥r)=>W.Nq (i:=lo+k) (j:=lo+(l+r)/2) hk (M.in gq) (by rw[sz];lia) (by rw[sz];lia)
    (λe=>W.pure (yd l ((l+r)/2) {by lia,by lia,by lia,b4,λi q1 q2=>aD (bu e) (u _ _ ∅ q1 q2)}))
    λe=>W.pure (yd ((l+r)/2+1) r {by lia,by lia,by lia,λi q1 q2=>aD (u _ (lo+(l+r)/2) q1 ∅ ∅) (j3 e),b5})
  ·intro _ l r hp;obtain⟨b1,b4,b5⟩:=hp;refine W.bM (W.pure (yd (bubble a' (lo+k) (lo+k -(lo+l))) ⟨⟩ {M.trans ((QB ∅ ∅).wide ∅ ∅),?_}));rw[show min (k+1) n=k+1 by lia];intro i j q1 q2 q3;rw[GZ ∅ ∅,GZ ∅ ∅];split
   ·split
    ·exact ar _
    ·split
     ·exact b5 _ ∅ ∅
     ·lia
   ·split
    ·split
     ·lia
     ·split
      ·exact u _ _ ∅ ∅ ∅
      ·lia
    ·split
     ·exact b4 _ ∅ ∅
     ·split
      ·exact u _ _ ∅ ∅ ∅
      ·exact u _ _ ∅ ∅ ∅
variable{C:Ct}{st:SortSt}
def W.set(h:Q ⟨⟩ s'):W C (set s':StateT SortSt Sem PUnit) Q st:=λs j=>by rw[StateT.run_set];exact ao ⟨j,h⟩
theorem IW(sa:Nat):∀(l:List Keyed)(n:Nat)(a:Array Keyed),sa+n+l.length<=a.size->∀k,((l.zipIdx n).foldl (λa(x:Keyed×Nat)=>a.setIfInBounds (sa+x.2) x.1) a)[k]?=if sa+n<=k/\k<sa+n+l.length then l[k -(sa+n)]? else a[k]?
 |[],n,a,_,k=>by rw[az (-9)];rfl
 |x::l,n,a,h,k=>by
  rw[bx]at h⊢;rw[pT,fT,IW sa l (n+1) _ (by rw[Array.size_setIfInBounds];lia)];by_cases e:k=sa+n
  ·subst e;rw[az ∅,aC ∅,Array.getElem?_setIfInBounds_self_of_lt ∅];simp
  ·rw[Array.getElem?_setIfInBounds_ne ∅];by_cases c:sa+n<=k/\k<sa+n+(l.length+1)
   ·rw[aC c,aC ∅,show k -(sa+n)=k -(sa+(n+1))+1 by lia,oP]
   ·rw[az c,az ∅]
def XW{a:Array Keyed}(h:sa+l.length<=a.size):(l.zipIdx.foldl (λa(x:Keyed×Nat)=>a.setIfInBounds (sa+x.2) x.1) a).toList=a.toList.take sa++l++a.toList.drop (sa+l.length):=by
 apply uo;intro k;rw[bI,IW sa l 0 a h,j4];by_cases c:k<sa
 ·rw[az ∅,cR,dO (by simp;lia),og c,bI]
 ·by_cases d:k<sa+l.length
  ·rw[aC {by lia,d},dO (by simp;lia),dE (by simp;lia)];simp[show min sa a.size=sa by lia]
  ·rw[az ∅,dE (by simp;lia),BI];simp[show min sa a.size=sa by lia];rw[show sa+l.length+(k -(sa+l.length))=k by lia]
def yc{a:Array Keyed}(hh:h<=a.size)(q:i<(a.extract l h).size):(a.extract l h)[i]=a[l+i]'(by rw[BQ]at q;lia):=by simp
def Fe{a:Array Keyed}(hh:h<=a.size):(a.extract l h).size=h -l:=by rw[BQ];lia
def RN(u:Up C a l' h')(hh:h<=a.size)(c1:l'<=l)(c2:h<=h'):So C (a.extract l h):=by refine fS.mpr λi j hi hj z=>?_;rw[aS]at hi hj;rw[mf,mf,yc hh,yc hh,<-iL,<-iL];rw[Fe hh]at hj;exact u _ _ ∅ ∅ ∅
def ext_mem{a:Array Keyed}(hh:h<=a.size)(m:x∈a.extract l h):∃i,∃q:i<a.size,l<=i/\i<h/\x=a[i]:=by obtain⟨i,hi,e⟩:=Array.mem_iff_getElem.mp m;have:=Fe (l:=l) hh;exact{l+i,by lia,by lia,by lia,by rw[<-e,yc hh]}
def Pq(hk:kindOf st=C.κ)(hf:failedOf st=none)(gq:∀x∈arrOf st,C.In x)(e1:(pendingOf st)[i]?=some (sa,na,pw))(e2:(pendingOf st)[i+1]?=some (sb,nb,x))(hsb:sb=sa+na)(na1:0<na)(nb1:0<nb)(sz:sb+nb<=(-11).size)(u1:Up C (-11) sa sb)(u2:Up C (-11) sb (sb+nb))
  (h:∀a' g,Mv (-11) a' sa (sb+nb)->Up C a' sa (sb+nb)->Q true (SortSt.mk' (kindOf st) a' (((pendingOf st).setIfInBounds i (sa,na+nb,pw)).eraseIdxIfInBounds (i+1)) g none)):W C (mergeAt' i) Q st:=by
 have rk:∀{l hi:Nat},Up C (-11) l hi->∀i j,l<=i->(z:i<=j)->j<hi->(q:j<(-11).size)->C.rk ((-11)[i]'∅)<=C.rk (-11)[j]:=λu i j h1 z h2 q=>by rw[<-iL,<-iL];exact u i j h1 z h2
 unfold mergeAt';refine(W.bG ?_);show W C (match((pendingOf st)[i]?,(pendingOf st)[i+1]?)with|(some (sa,na,power),some (sb,nb,_))=>_|_=>_) Q st;rw[e1,e2];have nx:∀{g:Nat}{a':Array Keyed},Mv (-11) a' sa (sb+nb)->Up C a' sa (sb+nb)->Q true (SortSt.mk' (kindOf st) a' (((pendingOf st).setIfInBounds i (sa,na+nb,pw)).eraseIdxIfInBounds (i+1)) g (failedOf st)):=λm u=>by rw[hf];exact h _ _ m u
 refine W.bind (W.set ((W.bE (a:=arrOf st) (i:=sb) ∅ (W.bind (LK (arr:=arrOf st) (base:=sa) (n:=na) (hint:=0) hk (gq _ (c6 _)) gq (by rw[<-hsb];exact rk u1) ∅ na1 λk q1 q2 q3=>?_)))));have f2:∀i,sa<=i->i<sa+k->ky C (-11) i<=ky C (-11) sb:=λi z1 z2=>by have:=q2 i z1 z2 ∅;rw[<-iL,<-iL]at this;exact this
 have f3:∀i,sa+k<=i->i<sb->ky C (-11) sb<ky C (-11) i:=λi z1 z2=>by have:=q3 i z1 ∅ ∅;rw[<-iL,<-iL]at this;exact this
 refine W.ite (λc=>W.pure (nx .refl λi j z1 z2 z3=>?_)) λc=>?_
 ·have c:k=na:=by simp at c;lia
  by_cases i1:i<sb
  ·by_cases j1:j<sb
   ·exact u1 i j z1 z2 j1
   ·exact aD (f2 i z1 ∅) (u2 sb j (ar _) ∅ z3)
  ·exact u2 i j ∅ z2 z3
 have c:k<na:=by simp at c;lia
 have ix:sa+k+(na -k) -1=sb -1:=by lia
 refine(W.bE (a:=arrOf st) (i:=sa+k+(na -k) -1) ∅ (W.bind (w_left (arr:=arrOf st) (base:=sb) (n:=nb) (hint:=nb -1) hk (gq _ (c6 _)) gq (rk u2) ∅ ∅ λnc p1 p2 p3=>?_)));have f4:∀i,sb<=i->i<sb+nc->ky C (-11) i<ky C (-11) (sb -1):=λi z1 z2=>by have:=p2 i z1 z2 ∅;rw[<-iL,<-iL,ix]at this;exact this
 have f5:∀i,sb+nc<=i->i<sb+nb->ky C (-11) (sb -1)<=ky C (-11) i:=λi z1 z2=>by have:=p3 i z1 z2 ∅;rw[<-iL,<-iL,ix]at this;exact this
 refine W.ite (λc=>W.pure (nx .refl λi j z1 z2 z3=>?_)) λc2=>?_
 ·have c:nc=0:=by simpa using c
  by_cases i1:i<sb
  ·by_cases j1:j<sb
   ·exact u1 i j z1 z2 j1
   ·exact aD (u1 i (sb -1) z1 ∅ ∅) (f5 j ∅ z3)
  ·exact u2 i j ∅ z2 z3
 have c2:0<nc:=by simp at c2;lia
 have sx:=Fe (a:=arrOf st) (l:=sa+k) (h:=sb) ∅;have sy:=Fe (a:=arrOf st) (l:=sb) (h:=sb+nc) ∅;have e0:C.rk (((-11).extract sb (sb+nc))[0]'∅)<C.rk (((-11).extract (sa+k) sb)[0]'∅):=by rw[yc ∅,yc ∅,<-iL,<-iL];exact f3 _ ∅ ∅
 have el:∀y∈(-11).extract sb (sb+nc),C.rk y<C.rk (((-11).extract (sa+k) sb)[((-11).extract (sa+k) sb).size -1]'∅):=λy hy=>by obtain⟨i,q,z1,z2,rfl⟩:=ext_mem ∅ hy;rw[yc ∅,<-iL,<-iL,sx,show sa+k+(sb -(sa+k) -1)=sb -1 by lia];exact f4 i z1 z2
 have hx:∀{l h:Nat},h<=(-11).size->∀x∈(-11).extract l h,C.In x:=λhh x hx=>by obtain⟨i,q,z1,z2,rfl⟩:=ext_mem hh hx;exact gq _ (c6 _)
 have fin:∀(m:Array Keyed),Res C ((-11).extract (sa+k) sb) ((-11).extract sb (sb+nc)) m->Mv (-11) (m.toList.zipIdx.foldl (λa(x:Keyed×Nat)=>a.setIfInBounds (sa+k+x.2) x.1) (-11)) sa (sb+nb)/\Up C (m.toList.zipIdx.foldl (λa(x:Keyed×Nat)=>a.setIfInBounds (sa+k+x.2) x.1) (-11)) sa (sb+nb):=by
  rintro m ⟨pm,so⟩;have lm:m.toList.length=sb+nc -(sa+k):=by rw[pm.length_eq,aO,aS,aS];lia
  have el:=IW (sa+k) m.toList 0 (-11) ∅;rw[lm,j4,show sa+k+(sb+nc -(sa+k))=sb+nc by lia]at el;have pl:=XW (sa:=sa+k) (l:=m.toList) (a:=arrOf st) ∅;rw[lm,show sa+k+(sb+nc -(sa+k))=sb+nc by lia]at pl;generalize m.toList.zipIdx.foldl (λa(x:Keyed×Nat)=>a.setIfInBounds (sa+k+x.2) x.1) (-11)=a' at el pl⊢;have inn:∀i,sa+k<=i->i<sb+nc->∃j,sa+k<=j/\j<sb+nc/\ky C a' i=ky C (-11) j:=λi z1 z2=>by
   have e:=el i;rw[aC ⟨z1,z2⟩,au ∅]at e;have hm:=pm.mem_iff.mp (gh (l:=m.toList) (n:=i -(sa+k)) ∅);have ek:ky C a' i=C.rk (m.toList[i -(sa+k)]'∅):=by unfold ky;rw[e];rfl
   rw[ek];rcases bf.mp hm with hm|hm
   ·obtain⟨j,q,z3,z4,e3⟩:=ext_mem ∅ (l9.mp hm);exact{j,z3,by lia,by rw[e3,iL]}
   ·obtain⟨j,q,z3,z4,e3⟩:=ext_mem ∅ (l9.mp hm);exact{j,by lia,z4,by rw[e3,iL]}
  have out:∀i,i<sa+k\/sb+nc<=i->ky C a' i=ky C (-11) i:=λi z=>ET (by rw[el i,az ∅]);refine{{tZ.mpr ?_,λi z=>by rw[el i,az ∅]},λi j z1 z2 z3=>?_}
  ·rw[pl];have e:(-11).toList=(-11).toList.take (sa+k)++(((-11).extract (sa+k) sb).toList++((-11).extract sb (sb+nc)).toList)++(-11).toList.drop (sb+nc):=by
    have e':((-11).extract (sa+k) sb).toList++((-11).extract sb (sb+nc)).toList=((-11).toList.drop (sa+k)).take (sb+nc -(sa+k)):=by rw[<-rF,Array.extract_append_extract,gL ∅,Nat.max_eq_right ∅,rg,List.extract_eq_drop_take]
    rw[e']
    conv=>lhs;rw[<-c8 (sb+nc) (-11).toList,<-c8 (sa+k) ((-11).toList.take (sb+nc))]
    rw[List.take_take,gL ∅,List.drop_take]
   conv=>rhs;rw[e]
   exact xr _ (qp _ pm)
  ·have lo:∀j,sa+k<=j->j<sb+nc->ky C (-11) sb<=ky C (-11) j:=λj y1 y2=>by
    by_cases c:j<sb
    ·exact bu (f3 j y1 c)
    ·exact u2 sb j (ar _) ∅ ∅
   have hi:∀i j,sa+k<=i->i<sb+nc->sb+nc<=j->j<sb+nb->ky C (-11) i<=ky C (-11) j:=λi j y1 y2 y3 y4=>by
    by_cases c:i<sb
    ·exact aD (u1 i (sb -1) ∅ ∅ ∅) (f5 j y3 y4)
    ·exact u2 i j ∅ ∅ y4
   by_cases i1:i<sa+k
   ·rw[out i (.inl i1)];by_cases j1:j<sa+k
    ·rw[out j (.inl j1)];exact u1 i j z1 z2 ∅
    ·by_cases j2:j<sb+nc
     ·obtain⟨t,t1,t2,e⟩:=inn j ∅ j2;rw[e];exact aD (f2 i z1 i1) (lo t t1 t2)
     ·rw[out j (.inr ∅)];exact aD (f2 i z1 i1) (u2 sb j (ar _) ∅ z3)
   ·by_cases i2:i<sb+nc
    ·by_cases j2:j<sb+nc
     ·have hso:=fS.mp so;have g:∀i,(z1:sa+k<=i)->(z2:i<sb+nc)->ky C a' i=C.rk (m.toList[i -(sa+k)]'∅):=λi z1 z2=>by unfold ky;rw[el i,aC ⟨z1,z2⟩,au ∅];rfl
      rw[g i ∅ i2,g j ∅ j2];by_cases e:i=j
      ·subst e;exact ar _
      ·exact hso _ _ _ _ ∅
     ·obtain⟨t,t1,t2,e⟩:=inn i ∅ i2;rw[e,out j (.inr ∅)];exact hi t j t1 t2 ∅ z3
    ·rw[out i (.inr ∅),out j (.inr ∅)];exact u2 i j ∅ z2 z3
 have o1:So C ((-11).extract (sa+k) sb):=RN u1 ∅ ∅ (ar _);have o2:So C ((-11).extract sb (sb+nc)):=RN u2 ∅ (ar _) ∅;have h1:=hx (l:=sa+k) (h:=sb) ∅;have h2:=hx (l:=sb) (h:=sb+nc) ∅;have l1:0<((-11).extract (sa+k) sb).size:=by lia
 have l2:0<((-11).extract sb (sb+nc)).size:=by lia
 refine W.ite (λ_=>W.bind (Po hk h1 h2 o1 o2 l1 l2 e0 el λm g R=>?_)) (λ_=>W.bind (Pp hk h1 h2 o1 o2 l1 l2 e0 el λm g R=>?_));all_goals
  refine(W.bM ((W.bG (W.pure ?_))));show Q (Option.isNone (failedOf st)) _;have e9:Option.isNone (failedOf st)=true:=by rw[hf];rfl
  rw[e9];exact nx (fin m R).1 (fin m R).2
variable{C:Ct}{st:SortSt}
abbrev R3:=Nat×Nat×Nat
def Rn(C:Ct)(a:Array Keyed):Nat->List R3->Nat->Prop
 |b,[],e=>b=e
 |b,r::l,e=>r.1=b/\0<r.2.1/\Up C a b (b+r.2.1)/\Rn C a (b+r.2.1) l e
theorem Rn.le:∀{l:List R3}{b e:Nat},Rn C a b l e->b+l.length<=e
 |[],b,e,h=>by rw[show b=e from h];exact ar _
 |r::l,b,e,⟨_,h1,_,h⟩=>by have:=h.le;rw[bx];lia
theorem Rn.app:∀{l m:List R3}{b e:Nat},Rn C a b (l++m) e↔∃k,Rn C a b l k/\Rn C a k m e
 |[],m,b,e=>{λh=>⟨b,rfl,h⟩,λ⟨k,h1,h2⟩=>by rw[show b=k from h1];exact h2}
 |r::l,m,b,e=>⟨λ⟨h1,h2,h3,h4⟩=>by obtain⟨k,q1,q2⟩:=Rn.app.mp h4;exact{k,⟨h1,h2,h3,q1⟩,q2},λ⟨k,⟨h1,h2,h3,q1⟩,q2⟩=>{h1,h2,h3,Rn.app.mpr ⟨k,q1,q2⟩}⟩
theorem Rn.mv{lo hi:Nat}(m:Mv a a' lo hi):∀{l:List R3}{b e:Nat},Rn C a b l e->(e<=lo\/hi<=b)->Rn C a' b l e
 |[],b,e,h,_=>h
 |r::l,b,e,⟨h1,h2,h3,h⟩,c=>by have:=h.le;exact{h1,h2,m.up h3 ∅,Rn.mv m h ∅}
def Rn.pow(h:Rn C a b (l++[r]) e):Rn C a b (l++[(r.1,r.2.1,p)]) e:=by obtain⟨k,h1,h2⟩:=Rn.app.mp h;exact Rn.app.mpr ⟨k,h1,h2⟩
def U5{i:Nat}{r s:R3}(h1:l[i]?=some r)(h2:l[i+1]?=some s):∃m n,l=m++r::s::n/\m.length=i:=by
 obtain⟨q1,e1⟩:=ax.mp h1;obtain⟨q2,e2⟩:=ax.mp h2;refine{l.take i,l.drop (i+2),?_,by rw[aT];lia}
 conv=>lhs;rw[<-c8 i l,eO q1,eO q2,e1,e2]
abbrev SS(st:SortSt)(a:Array Keyed)(P:Array R3)(g:Nat):SortSt:=SortSt.mk' (kindOf st) a P g none
def Zn(hk:kindOf st=C.κ)(gq:∀x∈a,C.In x)(hr:Rn C a 0 P.toList e)(he:e<=a.size)(hi:i+1<P.size)
  (h:∀a' P' g,a'.Perm a->P'.size+1=P.size->Rn C a' 0 P'.toList e->(∀k,e<=k->a'[k]?=a[k]?)->Q true (SS st a' P' g)):W C (mergeAt' i) Q (SS st a P g):=by
 have q1:P.toList[i]?=some (P[i]'∅):=by rw[bI,getElem?_pos]
 have q2:P.toList[i+1]?=some (P[i+1]'hi):=by rw[bI,getElem?_pos]
 obtain⟨m,n,el,lm⟩:=U5 q1 q2;rw[el]at hr;obtain⟨b,r1,r2,r3,r4,r5,r6,r7,r8⟩:=Rn.app.mp hr;have r9:=r8.le;generalize P[i]'∅=x at*;generalize P[i+1]'hi=y at*;refine Pq hk rfl gq (by rw[<-bI];exact q1) (by rw[<-bI];exact q2) ∅ r3 r6 (by show y.1+y.2.1<=a.size;lia) (by rw[r5,r2];exact r4) (by rw[r5];exact r7) λa' g' mv u=>?_;have el2:(((P.setIfInBounds i (x.1,x.2.1+y.2.1,x.2.2)).eraseIdxIfInBounds (i+1))).toList=m++(x.1,x.2.1+y.2.1,x.2.2)::n:=by rw[Array.toList_eraseIdxIfInBounds,Array.toList_setIfInBounds,el];subst lm;simp;rw[List.eraseIdx_append_of_length_le ∅,show m.length+1 -m.length=1 by lia];rfl
 refine h a' _ g' mv.pm ?_ ?_ λk hk=>mv.ou k (.inr ∅)
 ·rw[<-aS,el2,<-aS,el];simp;lia
 ·rw[el2];refine Rn.app.mpr {b,Rn.mv mv r1 (.inl ∅),r2,by dsimp only;lia,?_,?_}
  ·rw[r2,r5]at u;rw[show b+(x.2.1+y.2.1)=b+x.2.1+y.2.1 by lia];exact u
  ·rw[show b+(x.2.1+y.2.1)=b+x.2.1+y.2.1 by lia];exact Rn.mv mv r8 (.inr ∅)
abbrev S3(C:Ct)(a:Array Keyed)(P:Array R3)(g:Nat):SortSt:=SortSt.mk' C.κ a P g none
def Rn.push{P:Array R3}{lo n:Nat}(h:Rn C a 0 P.toList lo)(hn:0<n)(u:Up C a lo (lo+n)):Rn C a 0 (P.push (lo,n,0)).toList (lo+n):=by rw[k9];exact Rn.app.mpr ⟨lo,h,rfl,hn,u,rfl⟩
def Rn.adk{P:Array R3}{lo pw:Nat}(h:Rn C a 0 P.toList lo)(hp:0<P.size):Rn C a 0 (P.modify (P.size -1) λx=>(x.1,x.2.1,pw)).toList lo:=by
 have ne:P.toList≠[]:=λz=>by rw[<-aS,z]at hp;exact absurd hp (-8)
 have e:(P.modify (P.size -1) λx=>(x.1,x.2.1,pw)).toList=P.toList.dropLast++[((P.toList.getLast ne).1,(P.toList.getLast ne).2.1,pw)]:=by rw[Array.toList_modify,List.modify_eq_take_cons_drop (by simpa using Nat.sub_lt hp Nat.one_pos),xp (by simp;lia),List.dropLast_eq_take,List.getLast_eq_getElem];simp
 rw[e];rw[<-se ne]at h;exact h.pow
def acR{T p:Nat->Array Keyed->Prop}{G:Prop}(k:(∀n b,p n b->T n b)->G)(h:∀n b,p n b->T n b):G:=k h
def W.adA{α:Type}{c:Prop}{_:Decidable c}{x y:StateT SortSt Sem α}{Q:α->SortSt->Prop}{st:SortSt}(h2:¬c->W C y Q st)(h1:c->W C x Q st):W C (if c then x else y) Q st:=W.ite h1 h2
def Zm(gq:∀x∈a0,C.In x)(h2:2<=a0.size)
  (h:∀a' P g,a'.Perm a0->Up C a' 0 a0.size->Q () (S3 C a' P g)):W C sortRuns' Q (S3 C a0 #[] g0):=by
 unfold sortRuns';refine(W.bG ?_);dsimp only[S3,SortSt.mk'];generalize hN:a0.size=N at*;refine W.bind (W.mono (W.for (I:=λx c s'=>∃a P g lo,s'=S3 C a P g/\c=(none,lo)/\a.Perm a0/\Rn C a 0 P.toList lo/\x<=lo/\lo<=N)
  (Q:=λc s'=>∃a P g,s'=S3 C a P g/\c=(none,N)/\a.Perm a0/\Rn C a 0 P.toList N) ?_ ?_ {a0,#[],g0,0,rfl,rfl,.refl _,rfl,by lia,by lia}) ?_)
 ·rintro x c s' _ hx ⟨a,P,g,lo,rfl,rfl,pm,rn,l1,l2⟩;have sz:a.size=N:=by rw[pm.size_eq,hN]
  have ia:∀x∈a,C.In x:=λx hx=>gq x (pm.mem_iff.mp hx);refine W.ite (λc=>W.pure ?_) λc=>?_
  ·have c:lo=N:=by dsimp only at c;lia
   subst c;exact⟨a,P,g,rfl,rfl,pm,rn⟩
  have c:lo<N:=by dsimp only at c;lia
  refine W.bind (w_count (st:=S3 C a P g) (lo:=lo) (nrem:=N -lo) rfl ia ∅ (show lo+(N -lo)<=a.size by lia) ?_);refine acR (p:=λn b=>0<n/\lo+n<=N/\Mv a b lo (lo+(N -lo))/\Up C b lo (lo+n)) (λkey m a1 mv m1 m2 u=>W.adA (λc1=>key m a1 {m1,by lia,mv,u}) λc1=>(W.Np (W.bind (abQ (st:=S3 C a1 P g) (lo:=lo) (n:=min (N -lo) (minRun' N N 0)) (ok:=m) rfl (Mv.in (a:=a) mv ia) ?_ ?_ u λa2 mv2 u2=>W.ite (λz=>by simp at z) λ_=>key _ a2 {?_,?_,Mv.trans (a:=a) mv (Mv.wide mv2 (ar _) ∅),u2})))) ?_
  ·have c1:m<minRun' N N 0:=c1;lia
  ·have sz1:=Mv.sz (a:=a) mv;show lo+min (N -lo) (minRun' N N 0)<=a1.size;lia
  ·have c1:m<minRun' N N 0:=c1;lia
  ·lia
  rintro m a1 ⟨n1,n2,mv,u⟩;show W C _ _ (S3 C a1 P g);have rn1:Rn C a1 0 P.toList lo:=Rn.mv mv rn (.inl (ar _));have pm1:a1.Perm a0:=mv.pm.trans pm;refine(W.bG ?_);cases hb:P.back? with
  |none=>
   exact(W.bM (W.pure {a1,P.push (lo,m,0),g,lo+m,rfl,rfl,pm1,rn1.push n1 u,by lia,by lia}))
  |some r=>
   obtain⟨s1,k1,w1⟩:=r;have p0:0<P.size:=by
    rcases Nat.eq_zero_or_pos P.size with z|z
    ·rw[Array.back?_eq_getElem?,getElem?_neg P _ ∅]at hb;cases hb
    ·exact z
   refine W.bind (W.mono (W.for (I:=λy c s'=>∃a2 P2 g2,s'=S3 C a2 P2 g2/\c=(none,())/\a2.Perm a1/\(∀k,lo<=k->a2[k]?=(a1)[k]?)/\Rn C a2 0 P2.toList lo/\0<P2.size) (Q:=λc s'=>∃a2 P2 g2,s'=S3 C a2 P2 g2/\c=(none,())/\a2.Perm a1/\(∀k,lo<=k->a2[k]?=(a1)[k]?)/\Rn C a2 0 P2.toList lo/\0<P2.size) ?_ (λ_ _ h=>h) {_,_,_,rfl,rfl,.refl _,λ_ _=>rfl,rn1,p0}) ?_)
   ·rintro y c s' _ hy ⟨a2,P2,g2,rfl,rfl,ud,ou,xC,p2⟩;refine(W.bG ?_);by_cases c:P2.size>1
    ·have e1:(if(pendingOf (S3 C a2 P2 g2)).size>1 then(pendingOf (S3 C a2 P2 g2))[(pendingOf (S3 C a2 P2 g2)).size -2]? else none)=some ((P2[P2.size -2]'∅).1,(P2[P2.size -2]'∅).2.1,(P2[P2.size -2]'∅).2.2):=by rw[aC c,getElem?_pos P2 (P2.size -2) ∅]
     dsimp only;rw[e1];refine W.ite (λ_=>W.pure ⟨_,_,_,rfl,rfl,ud,ou,xC,p2⟩) λ_=>W.bind (Zn (st:=S3 C a2 P2 g2) (e:=lo) rfl (λx hx=>ia x (mv.pm.mem_iff.mp (ud.mem_iff.mp hx))) xC (by rw[ud.size_eq,mv.pm.size_eq,sz];lia) (show P2.size -2+1<P2.size by lia) λa3 P3 g3 q1 q2 q3 q4=>?_);exact W.pure {a3,P3,g3,rfl,rfl,q1.trans ud,λk hk=>(q4 k hk).trans (ou k hk),q3,by lia}
    ·have e1:(if(pendingOf (S3 C a2 P2 g2)).size>1 then(pendingOf (S3 C a2 P2 g2))[(pendingOf (S3 C a2 P2 g2)).size -2]? else none)=none:=az c;dsimp only;rw[e1];exact W.pure ⟨_,_,_,rfl,rfl,ud,ou,xC,p2⟩
   ·rintro c s' ⟨a2,P2,g2,rfl,rfl,ud,ou,xC,p2⟩;refine(W.bM ((W.bM (W.pure {a2,_,g2,lo+m,rfl,rfl,ud.trans pm1,Rn.push (xC.adk p2) n1 λi j z1 z2 z3=>?_,by lia,by lia}))));rw[ET (ou i z1),ET (ou j ∅)];exact u i j z1 z2 z3
 ·rintro c s' ⟨a,P,g,lo,rfl,rfl,pm,rn,l1,l2⟩;have c:lo=N:=by lia
  subst c;exact⟨a,P,g,rfl,rfl,pm,rn⟩
 ·rintro c s' ⟨a,P,g,rfl,rfl,pm,rn⟩;refine W.bind (W.mono (W.for (I:=λy c s'=>∃a2 P2 g2,s'=S3 C a2 P2 g2/\c=(none,())/\a2.Perm a0/\Rn C a2 0 P2.toList N/\(P2.size+y<=N\/P2.size<=1)) (Q:=λc s'=>∃a2 P2 g2,s'=S3 C a2 P2 g2/\c=(none,())/\a2.Perm a0/\Rn C a2 0 P2.toList N/\P2.size<=1) ?_ ?_ {_,_,_,rfl,rfl,pm,rn,.inl ?_}) ?_)
  ·rintro y c s' _ hy ⟨a2,P2,g2,rfl,rfl,ud,xC,p2⟩;refine(W.bG (W.ite (λc=>W.pure ⟨_,_,_,rfl,rfl,ud,xC,c⟩) λc=>?_));have c:1<P2.size:=Nat.lt_of_not_le c;refine W.bind (Zn (st:=S3 C a2 P2 g2) (e:=N) rfl (λx hx=>gq x (ud.mem_iff.mp hx)) xC (by rw[ud.size_eq,hN];lia) ?_ λa3 P3 g3 q1 q2 q3 q4=>W.pure {a3,P3,g3,rfl,rfl,q1.trans ud,q3,by lia});have two:∀{c:Prop}[Decidable c],(if c then P2.size -2 -1 else P2.size -2)+1<P2.size:=λ{c} _=>by
    by_cases z:c
    ·rw[aC z];lia
    ·rw[az z];lia
   exact two
  ·rintro c s' ⟨a2,P2,g2,rfl,rfl,ud,xC,p2⟩;exact{_,_,_,rfl,rfl,ud,xC,by lia}
  ·have:=rn.le;rw[aS]at this;lia
  ·rintro c s' ⟨a2,P2,g2,rfl,rfl,ud,xC,p2⟩;refine W.pure (h a2 P2 g2 ud ?_);rw[<-aS]at p2;generalize P2.toList=l at xC p2
   match l,p2,xC with
   |[],_,e=>exact absurd (show 0=N from e) ∅
   |[r],_,⟨_,_,u,e⟩=>
    have e:0+r.2.1=N:=e;rw[e]at u;exact u
end Nt
namespace Hw
open PySem PySem.W PyProof.Rows PySem.Calls
section
variable{prog:Program}{w:World}{A:Around}{E:Aae}{s:Shared}{vs:Aag}
def Tk(s s':Shared):Prop:=∃t,s'={s with toks:=t}
def Tk.refl(s:Shared):Tk s s:={s.toks,rfl}
abbrev iu(h:Heap)(a:Addr)(vs:Aag):Heap:=((h.update a (-47)).push (seqObj "tuple" vs.toArray 0)).push (seqObj "list" #[] 0)
def XA{rk:Value->Nat}(ho:s.heap.get? a=some (seqObj "list" vs.toArray n))(h2:2<=vs.length)(Bg:vs.length<1000000)
  (hk:∀s',Tk {s with heap:=iu s.heap a vs} s'->wpAny (-5) A (keyKind' vs.toArray) (λk s2=>k=κ/\Tk {s with heap:=iu s.heap a vs} s2) (λ_ _=>False) s')
  (hc:∀x∈vs,∀y∈vs,∀s',Tk {s with heap:=iu s.heap a vs} s'->wpAny (-5) A (keyLt' κ x y) (λb s2=>b=decide (rk x<rk y)/\Tk {s with heap:=iu s.heap a vs} s2) (λ_ _=>False) s')
  (k:∀(us:Aag)(h':Heap)(tk c:Nat),us.Perm vs->us.Pairwise (λx y=>rk x<=rk y)->h'.get? a=some (seqObj "list" us.toArray c)->(∀b o,b≠a->s.heap.get? b=some o->h'.get? b=some o)->P (.done (.ret .none)) {s with heap:=h',toks:=tk}):
  wpAny (-5) A (Builtin.«list.sort» {[.ref a],[]}) P E s:=by
 have la:a<s.heap.objs.size:=aI ho;obtain⟨e1,A8⟩:∃e1,(s.heap.update a (-47)).get? a=some (seqObj "list" #[] e1):={_,get?_update_seq ho λ_=>#[]};have Kr:(iu s.heap a vs).get? a=some (seqObj "list" #[] e1):=aq _ (aq _ A8);have FU:∀b o,b≠a->s.heap.get? b=some o->(iu s.heap a vs).get? b=some o:=λb o nb q=>aq _ (aq _ ((bT s.heap a _).extBut b o nb q));rw[list_sort_plain];refine af (listItems_at ho rfl ?_);refine af (tP ho rfl ?_ (by rw[aQ,b8];lia) (aP _));refine af (wV A8 rfl ?_);refine af (lq ?_ (by show vs.length<=_;rw[b8];lia));refine af (tL ?_ (aP _));refine bP ?_;show wpAny (-5) A _ P E {s with heap:=iu s.heap a vs};dsimp only;have big:¬vs.toArray.size<2:=by rw[aQ];lia
 rw[az big,az big];refine af (dc (hk _ (Tk.refl _)) (λkd s0 hq=>?_) λ_ _ x=>x.elim);obtain⟨rfl,t0⟩:=hq
 let C:Nt.Ct:={prog,w,A,Tk {s with heap:=iu s.heap a vs},kd,λx=>rk x.1,λx=>x.2=x.1/\x.1∈vs,λx y hx hy s' tk=>hc x.1 hx.2 y.1 hy.2 s' tk}
 have hz:∀x∈vs.toArray.zip vs.toArray,x.2=x.1/\x.1∈vs:=λx hx=>by
  rw[List.zip_toArray]at hx;have hx:x∈vs.zip vs:=by simpa using hx
  obtain⟨i,hi,e⟩:=fo.mp hx;rw[vR]at e;rw[<-e];exact{rfl,gh _}
 have ad9:=Nt.Zm (C:=C) (a0:=vs.toArray.zip vs.toArray) (g0:=7) (Q:=λ_ gZ=>∃a',arrOf gZ=a'/\failedOf gZ=none/\a'.Perm (vs.toArray.zip vs.toArray)/\Nt.Up C a' 0 (vs.toArray.zip vs.toArray).size) hz (by rw[Array.size_zip,aQ];lia) (λa' P g p u=>⟨a',rfl,rfl,p,u⟩) s0 t0;refine af (dc ad9 ?_ λ_ _ e=>e.elim);rintro⟨⟨⟩,gZ⟩ s' ⟨⟨tk,rfl⟩,a',ea,hf,pm,up⟩;have sz:a'.size=vs.length:=by rw[pm.size_eq,Array.size_zip,aQ,Nat.min_self]
 obtain⟨out,eo⟩:∃out,out=a'.toList.map (·.2):=⟨_,rfl⟩;have e2:(arrOf gZ).map (·.2)=out.toArray:=by have ea:arrOf gZ=a':=ea;rw[ea,eo];apply Array.ext';rw[Array.toList_map]
 have lp:out.length=vs.length:=by rw[eo,ak,aS,sz]
 have gq:∀x∈a',x.2=x.1/\x.1∈vs:=λx hx=>hz x (pm.mem_iff.mp hx);have po:out.Perm vs:=by rw[eo];have:=(tZ.mp pm).map (·.2);refine this.trans ?_;rw[List.zip_toArray];show(List.map (λx=>x.2) (vs.zip vs)).Perm vs;rw[List.map_snd_zip (ar _)]
 have so:out.Pairwise λx y=>rk x<=rk y:=by rw[eo];refine kZ.mpr (fS.mpr λi j hi hj hij=>?_);rw[aS]at hi hj;have:=up i j (aP _) (bu hij) (by rw[<-pm.size_eq];exact hj);rw[Nt.iL hi,Nt.iL hj]at this;rw[mf,mf,(gq _ (c6 hi)).1,(gq _ (c6 hj)).1];exact this
 show wpAny _ _ _ _ _ _;dsimp only;have e3:Array.map (λx:Keyed=>x.2) (arrOf gZ)=out.toArray:=e2;rw[e3];obtain⟨c2,ya⟩:∃c2,((iu s.heap a vs).update a (Obj.mapSeq λ_=>out.toArray)).get? a=some (seqObj "list" out.toArray c2):={_,get?_update_seq Kr λ_=>out.toArray};refine af (wV Kr rfl ?_);refine af (tP Kr rfl ?_ (aP _) (by rw[aQ,lp,b8];lia));rw[hf];simp only[jG,cw,d6];exact ao (k out _ tk c2 po so ya λb o nb q=>(bT (iu s.heap a vs) a _).extBut b o nb (FU b o nb q))
def SU(ho:s.heap.get? a=some (seqObj "list" vs.toArray n))(h2:vs.length<2)
  (k:∀(h':Heap)(c:Nat),h'.get? a=some (seqObj "list" vs.toArray c)->(∀b o,b≠a->s.heap.get? b=some o->h'.get? b=some o)->P (.done (.ret .none)) {s with heap:=h'}):
  wpAny (-5) A (Builtin.«list.sort» {[.ref a],[]}) P E s:=by
 obtain⟨e1,A8⟩:∃e1,(s.heap.update a (-47)).get? a=some (seqObj "list" #[] e1):={_,get?_update_seq ho λ_=>#[]};have Kr:(iu s.heap a vs).get? a=some (seqObj "list" #[] e1):=aq _ (aq _ A8);have FU:∀b o,b≠a->s.heap.get? b=some o->(iu s.heap a vs).get? b=some o:=λb o nb q=>aq _ (aq _ ((bT s.heap a _).extBut b o nb q));rw[list_sort_plain];refine af (listItems_at ho rfl ?_);refine af (tP ho rfl ?_ (by rw[aQ,b8];lia) (aP _));refine af (wV A8 rfl ?_);refine af (lq ?_ (by show vs.length<=_;rw[b8];lia));refine af (tL ?_ (aP _));refine bP ?_;show wpAny (-5) A _ P E {s with heap:=iu s.heap a vs};dsimp only;have je:vs.toArray.size<2:=by rw[aQ];lia
 rw[aC je,aC je];refine af (ao ?_);refine af (ao ?_);dsimp only;have es:(arrOf (SortSt.mk' general' (vs.toArray.zip vs.toArray) #[] 7 none)).map (·.2)=vs.toArray:=by show(vs.toArray.zip vs.toArray).map (·.2)=vs.toArray;apply vV.mp;simp[List.map_snd_zip]
 rw[es];obtain⟨c2,ya⟩:∃c2,((iu s.heap a vs).update a (Obj.mapSeq λ_=>vs.toArray)).get? a=some (seqObj "list" vs.toArray c2):={_,get?_update_seq Kr λ_=>vs.toArray};refine af (wV Kr rfl ?_);refine af (tP Kr rfl ?_ (aP _) (by rw[aQ,b8];lia));simp only[jG,cw,d6];exact ao (k _ c2 ya λb o nb q=>(bT (iu s.heap a vs) a _).extBut b o nb (FU b o nb q))
abbrev JS(a b:Str):Bool:=decide (a.cps.toList<b.cps.toList)
def eP:Aah->Aah->Bool
 |_,[]=>false
 |[],_::_=>true
 |a::r,b::q=>if a=b then eP r q else JS a b
def Ol(a:Str):JS a a=false:=bQ (List.lt_irrefl _)
def QJ(h1:JS a b=true)(h2:JS b c=true):JS a c=true:=bp (List.lt_trans (bj h1) (bj h2))
def QK(h:JS a b=false)(h2:JS b a=false):a=b:=by have h1:=List.not_lt.mp (AQ h);have h3:=List.not_lt.mp (AQ h2);exact ext_toList (List.le_antisymm h3 h1)
theorem vt:∀a,eP a a=false
 |[]=>rfl
 |a::r=>by unfold eP;rw[aC rfl];exact vt r
theorem sv:∀{a b c:Aah},eP a b=true->eP b c=true->eP a c=true
 |_,[],[],_,h=>by unfold eP at h;cases h
 |_,_::_,[],_,h=>by unfold eP at h;cases h
 |_,[],_::_,h,_=>by unfold eP at h;cases h
 |[],_::_,_::_,_,_=>rfl
 |a::r,b::q,c::p,h1,h2=>by
  unfold eP at h1 h2⊢;by_cases e1:a=b
  ·subst e1;rw[aC rfl]at h1;by_cases e2:a=c
   ·rw[aC e2]at h2⊢;exact sv h1 h2
   ·rw[az e2]at h2⊢;exact h2
  ·rw[az e1]at h1;by_cases e2:b=c
   ·subst e2;rw[az e1];exact h1
   ·rw[az e2]at h2;have h3:=QJ h1 h2;have ne:a≠c:=λe=>by rw[e,Ol]at h3;cases h3
    rw[az ne];exact h3
theorem sA:∀{a b:Aah},eP a b=false->eP b a=false->a=b
 |[],[],_,_=>rfl
 |[],_::_,h,_=>by unfold eP at h;cases h
 |_::_,[],_,h=>by unfold eP at h;cases h
 |a::r,b::q,h1,h2=>by
  unfold eP at h1 h2;by_cases e:a=b
  ·subst e;rw[aC rfl]at h1 h2;rw[sA h1 h2]
  ·rw[az e]at h1;rw[az (cb e)]at h2;exact(e (QK h1 h2)).elim
abbrev kW(a b:Aah):Bool:=!eP b a
def Lm(a b c:Aah)(h1:kW a b=true)(h2:kW b c=true):kW a c=true:=by
 have h1':eP b a=false:=by simpa using h1
 have h2':eP c b=false:=by simpa using h2
 cases q:eP c a with
 |false=>simp[kW,q]
 |true=>
  cases p:eP a b with
  |true=>rw[sv q p]at h2';cases h2'
  |false=>rw[sA p h1',h2']at q;cases q
def Ln(a b:Aah):(kW a b||kW b a)=true:=by
 cases q:eP b a with
 |false=>simp[kW,q]
 |true=>
  cases p:eP a b with
  |false=>simp[kW,p]
  |true=>have:=sv q p;rw[vt]at this;cases this
def Oq(h1:kW a b=true)(h2:kW b a=true):a=b:=sA (by simpa using h2) (by simpa using h1)
def kG(l:Aab):Aab:=l.mergeSort kW
def lT(l:Aab):(kG l).Perm l:=Ai l kW
def Es(l:Aab):(kG l).Pairwise (λa b=>kW a b=true):=v5 Lm Ln l
theorem Jk:∀{l m:Aab},l.Perm m->l.Pairwise (λa b=>kW a b=true)->m.Pairwise (λa b=>kW a b=true)->l=m
 |[],m,h,_,_=>(List.nil_perm.mp h).symm
 |a::l,[],h,_,_=>absurd h.length_eq (-9)
 |a::l,b::m,h,h1,h2=>by
  have e:a=b:=by
   rcases aG.mp (h.mem_iff.mp (aA))with e|e
   ·exact e
   ·rcases aG.mp (h.mem_iff.mpr (aA))with q|q
    ·exact q.symm
    ·exact Oq (hX h1 q) (hX h2 e)
  subst e;rw[Jk (List.perm_cons a|>.mp h) (kJ.mp h1).2 (kJ.mp h2).2]
def u6(h:l.Perm zs)(hs:l.Pairwise (λa b=>kW a b=true)):l=kG zs:=Jk (h.trans (lT zs).symm) hs (Es zs)
def CF(h:l.Perm m):kG l=kG m:=u6 ((lT l).trans h) (Es l)
def Me(rows:Aab)(a:Aah):Nat:=rows.countP λr=>eP r a
def VD(ha:a∈rows)(hb:b∈rows):decide (Me rows a<Me rows b)=eP a b:=by
 have strict:∀{a b:Aah},a∈rows->eP a b=true->Me rows a<Me rows b:=λ{a b} hm h=>by unfold Me;obtain⟨l1,l2,e⟩:=List.append_of_mem hm;have c1:∀l:Aab,(l.countP λr=>eP r a)<=l.countP λr=>eP r b:=λl=>List.countP_mono_left λr _ hr=>sv hr h;rw[e,BJ,BJ,List.countP_cons,List.countP_cons,vt,h];have:=c1 l1;have:=c1 l2;simp;lia
 cases q:eP a b with
 |true=>exact bp (strict ha q)
 |false=>
  refine bQ (FD.mpr ?_);cases p:eP b a with
  |true=>exact bu (strict hb p)
  |false=>rw[sA q p];exact ar _
end
inductive oG:Aah->Aag->Prop where
 |nil:oG [] []
 |cons {z:Str} {t:Tok} {zs:Aah} {vs:Aag}:oG zs vs->oG (z::zs) (.str z t::vs)
def TupIs(h:Heap)(v:Value)(zs:Aah):Prop:=∃a o aY n,v=.ref a/\h.get? a=some o/\o.cls=.type "tuple"/\o.data=.seq aY n/\oG zs aY.toList
def TupIs.mono(x:TupIs h v zs)(kp:∀b o,h.get? b=some o->h'.get? b=some o):TupIs h' v zs:=by obtain⟨a,o,aY,n,e,ho,r⟩:=x;exact{a,o,aY,n,e,kp _ _ ho,r}
theorem oG.one:∀{xs ys:Aah}{vs:Aag},oG xs vs->oG ys vs->xs=ys
 |_,_,_,.nil,.nil=>rfl
 |_,_,_,.cons a,.cons b=>by rw[a.one b]
def TupIs.one(a:TupIs h v xs)(b:TupIs h v ys):xs=ys:=by obtain⟨a,o,aY,n,rfl,h1,_,h2,h3⟩:=a;obtain⟨b,p,itq,m,e,q1,_,q2,q3⟩:=b;cases e;rw[h1]at q1;cases q1;rw[h2]at q2;cases q2;exact h3.one q3
open Classical in
def rowOf(h:Heap)(v:Value):Aah:=if x:∃r,TupIs h v r then Classical.choose x else[]
def rL(x:TupIs h v r):rowOf h v=r:=by unfold rowOf;rw[dif_pos ⟨r,x⟩];exact(Classical.choose_spec (⟨r,x⟩:∃r,TupIs h v r)).one x
section
variable{prog:Program}{w:World}{A:Around}{E:Aae}{s:Shared}
def eq_str(h:Q (decide (a=b)) s):wpAny (-5) A (eqBool (.str a t) (.str b u)) Q E s:=
 (PySem.strKind prog w).eqBool (strKind_is _ _ _ _) (strKind_is _ _ _ _) h
theorem ME:∀(xs ys:Aah)(vs us:Aag)(i:Nat)(s:Shared),oG xs vs->oG ys us->(fin=decide (xs.length<ys.length))->C (eP xs ys) s->KatLex prog w A true fin C (vs.zip us) i s
 |[],[],_,_,i,s,.nil,.nil,hf,h=>by refine kat_nil ?_;rw[hf];exact h
 |[],_::_,_,_,i,s,.nil,.cons r,hf,h=>by refine kat_nil ?_;rw[hf];exact h
 |_::_,[],_,_,i,s,.cons r,.nil,hf,h=>by refine kat_nil ?_;rw[hf];exact h
 |a::xs,b::ys,_,_,i,s,.cons (t:=t) r1,.cons (t:=u) r2,hf,h=>by
  refine kat_cons (eq_str ?_);unfold eP at h;by_cases e:a=b
  ·rw[bp e];rw[aC e]at h;refine kat_yes (ME xs ys _ _ (i+1) s r1 r2 ?_ h);rw[hf];simp
  ·rw[bQ e];rw[az e]at h;refine kat_no ?_;cases i with
   |zero=>exact oneLt_str h
   |succ i=>
    have e2:(true&&(i+1==0))=false:=by simp
    rw[e2];refine kat_one _ _ ?_;exact PyProof.Rows.lt_str h
def aaC(hx:TupIs s.heap x xs)(hy:TupIs s.heap y ys)(h:C (eP xs ys) s):wpAny (-5) A (keyLt' (tuples' true) x y) C E s:=by
 obtain⟨a,o,aY,n,rfl,ho,hc,hd,hr⟩:=hx;obtain⟨b,p,itq,m,rfl,hp,hpc,hpd,hq⟩:=hy;refine kat_lt ho hd hp hpd (ME xs ys _ _ 0 s hr hq ?_ h);have len:∀{zs:Aah}{vs:Aag},oG zs vs->zs.length=vs.length:=by
  intro zs vs r
  induction r with
  |nil=>rfl
  |cons _ ih=>simp[ih]
 rw[len hr,len hq,aS,aS]
def T5{vs:Aag}{rows:Aab}(hl:vs.length=rows.length)(h2:2<=vs.length)(ht:∀(i:Nat) v r,vs[i]?=some v->rows[i]?=some r->TupIs s.heap v r)(ie:∀r∈rows,r≠[])(h:Q (tuples' true) s):wpAny (-5) A (keyKind' vs.toArray) Q E s:=by
 have key:∀(vs:Aag)(rows:Aab),vs.length=rows.length->(∀(i:Nat) v r,vs[i]?=some v->rows[i]?=some r->TupIs s.heap v r)->(∀r∈rows,r≠[])->∃fs,KatTups s.heap vs fs/\fs.length=vs.length/\∀f∈fs,∃z t,f=Value.str z t:=by
  intro vs
  induction vs with
  |nil=>intro rows hl _ _;exact{[],KatTups.nil,rfl,λf hf=>nomatch hf}
  |cons v vs ih=>
   intro rows hl ht ie;cases rows with
   |nil=>simp at hl
   |cons r rows=>
    obtain⟨fs,h1,h2,h3⟩:=ih rows (by simpa using hl) (λi v' r' e1 e2=>ht (i+1) v' r' (by simpa using e1) (by simpa using e2)) λr' hr=>ie r' (aB _ hr);obtain⟨a,o,aY,n,rfl,ho,hc,hd,hr⟩:=ht 0 v r rfl rfl;cases r with
    |nil=>exact(ie [] aA rfl).elim
    |cons z zs=>
     generalize eL:aY.toList=L at hr;cases hr with
     |@cons _ t _ o9 zS=>
      have e0:aY[0]?=some (.str z t):=by rw[<-bI,eL];rfl
      refine{.str z t::fs,KatTups.cons ho hc hd e0 h1,by simp[h2],λf hf=>?_};rcases aG.mp hf with rfl|hf
      ·exact⟨z,t,rfl⟩
      ·exact h3 f hf
 obtain⟨fs,h1,h3,h4⟩:=key vs rows hl ht ie;refine kat_kind (T:=.type "str") h1 ∅ (λv hv=>?_) (-8) ?_
 ·obtain⟨z,t,rfl⟩:=h4 v hv;exact Looks.of_pure rfl
 ·have e:((Value.type "str") !=Value.type "tuple")=true:=by decide
  rw[e];exact h
def PR(ho:s.heap.get? a=some (seqObj "list" vs.toArray n))(hl:vs.length=rows.length)(ht:∀(i:Nat) v r,vs[i]?=some v->rows[i]?=some r->TupIs s.heap v r)(ie:2<=rows.length->∀r∈rows,r≠[])(Bg:vs.length<1000000)
  (k:∀(h':Heap)(tk c:Nat)(us:Aag),h'.get? a=some (seqObj "list" us.toArray c)->(∀b o,b≠a->s.heap.get? b=some o->h'.get? b=some o)->us.Perm vs->(∀(i:Nat) v r,us[i]?=some v->(kG rows)[i]?=some r->TupIs s.heap v r)->P (.done (.ret .none)) {s with heap:=h',toks:=tk}):
  wpAny (-5) A (Builtin.«list.sort» {[.ref a],[]}) P E s:=by
 by_cases c2:vs.length<2
 ·refine SU ho c2 λh' c g kp=>?_;have e:kG rows=rows:=by
   have:rows.length<2:=by lia
   match rows,this with
   |[],_=>exact(u6 (.refl _) .nil).symm
   |[r],_=>exact(u6 (.refl _) (-9)).symm
   |_::_::_,q=>simp at q;lia
  rw[e]at k;exact k h' s.toks c vs g kp (.refl _) ht
 ·have na:∀v r,TupIs s.heap v r->v≠ .ref a:=λv r x z=>by obtain⟨b,o,aY,m,rfl,hb,hc,_⟩:=x;cases z;rw[ho]at hb;cases hb;have qi:=hc;injection qi with z;exact absurd z (-8)
  have G5:∀s',Tk {s with heap:=iu s.heap a vs} s'->∀(i:Nat) v r,vs[i]?=some v->rows[i]?=some r->TupIs s'.heap v r:=λs' ⟨t,e⟩ i v r e1 e2=>by subst e;have x:=ht i v r e1 e2;have ne:=na v r x;obtain⟨b,o,aY,m,rfl,hb,r⟩:=x;have nb:b≠a:=λz=>ne (by rw[z]);exact{b,o,aY,m,rfl,aq _ (aq _ ((bT s.heap a _).extBut b o nb hb)),r}
  have mr:∀v∈vs,∃r,r∈rows/\TupIs s.heap v r/\∀s',Tk {s with heap:=iu s.heap a vs} s'->TupIs s'.heap v r:=λv hv=>by obtain⟨i,hi,rfl⟩:=fo.mp hv;have e1:=au hi;have e2:=au (l:=rows) (i:=i) ∅;exact{_,gh _,ht i _ _ e1 e2,λs' tk=>G5 s' tk i _ _ e1 e2}
  refine XA (κ:=tuples' true) (rk:=λv=>Me rows (rowOf s.heap v)) ho ∅ Bg (λs' tk=>?_) (λx hx y hy s' tk=>?_) λus h' tk c po so g kp=>?_
  ·exact T5 hl ∅ (G5 s' tk) (ie ∅) ⟨rfl,tk⟩
  ·obtain⟨r,m1,t1,k1⟩:=mr x hx;obtain⟨q,m2,t2,k2⟩:=mr y hy;refine aaC (k1 s' tk) (k2 s' tk) {?_,tk};rw[rL t1,rL t2,VD m1 m2]
  ·have er:us.map (rowOf s.heap)=kG rows:=by
    have ev:vs.map (rowOf s.heap)=rows:=by refine List.ext_getElem (by simpa using hl) λi h1 h2=>?_;rw[vS];exact rL (ht i _ _ (au _) (au h2))
    refine u6 (by rw[<-ev];exact po.map _) (kZ.mpr (so.imp_of_mem λ{x y} hx hy q=>?_));obtain⟨r,m1,t1,k1⟩:=mr x (po.mem_iff.mp hx);obtain⟨p,m2,t2,k2⟩:=mr y (po.mem_iff.mp hy);rw[rL t1,rL t2]at q⊢;have z:=VD m2 m1;rw[bQ (FD.mpr q)]at z;show(!eP _ _)=true;rw[<-z];rfl
   refine k h' tk c us g kp po λi v r e1 e2=>?_;rw[<-er,aK,e1]at e2;cases e2;obtain⟨r,m1,t1,k1⟩:=mr v (po.mem_iff.mp (aH e1));rw[rL t1];exact t1
end
end Hw
namespace L2
open PySem PySem.Spec PyProof.Rows Hw
abbrev cT(K:Frag)(H:Hp):Aao->Aab->Prop:=Paired λ(y:V)(zs:Aah)=>∃a,y=.ref a/\bF K H a (zs.map V.str)
theorem IU:∀{zs:Aah}{us:Aag},Vals (zs.map V.str) us->oG zs us
 |[],_,.nil=>.nil
 |z::r,_,.cons ⟨t,e⟩ h=>by subst e;exact .cons (IU h)
theorem QU:∀{zs:Aah}{us:Aag},Vals (zs.map V.str) us->ItemsAre (bH P w) (zs.map Sum.inr) us
 |[],_,.nil=>.nil
 |z::r,_,.cons ⟨t,e⟩ h=>by subst e;exact .cons (CN _ _ _ _) (QU h)
section
variable{X:Cx}{pins:Aac}{Z:St}{H:Hp}{s:Shared}
def Inv.row(I:Inv X pins Z H s)(h:bF X.K H a (zs.map V.str)):TupIs s.heap (-51) zs/\IsTupleKey (bH X.prog X.w) s.heap (zs.map Sum.inr) a:=by obtain⟨aY,r,⟨o,e,c,n,d⟩,_⟩:=I.tuple h;exact{{a,o,aY.toArray,n,rfl,e,c,d,by simpa using IU r},{o,aY.toArray,n,e,c,d,by simpa using QU r}}
theorem Inv.rows(I:Inv X pins Z H s):∀{ys:Aao}{rows:Aab}{us:Aag},cT X.K H ys rows->Vals ys us->∃bs:Aaj,us=bs.map Value.ref/\ys=bs.map V.ref/\bs.length=rows.length/\∀(i:Nat) z b,rows[i]?=some z->bs[i]?=some b->bF X.K H b (z.map V.str)
 |_,_,_,.nil,.nil=>{[],rfl,rfl,rfl,λi z b e=>by simp at e}
 |_,_,_,.cons (b:=zs) ⟨a,e,h⟩ r,.cons (b:=u) ru q=>by
  obtain⟨bs,h1,h2,h3,h4⟩:=I.rows r q;subst e;cases(show u=Value.ref a from ru);refine{a::bs,by rw[h1];rfl,by rw[h2];rfl,by simp[h3],λi z b e1 e2=>?_};cases i with
  |zero=>cases e1;cases e2;exact h
  |succ i=>exact h4 i z b (by simpa using e1) (by simpa using e2)
end
theorem Md{K:Frag}:∀{bs:Aaj}{rows:Aab},bs.length=rows.length->(∀(i:Nat) z b,rows[i]?=some z->bs[i]?=some b->bF K H b (z.map V.str))->cT K H (bs.map V.ref) rows
 |[],[],_,_=>.nil
 |[],_::_,h,_=>by simp at h
 |_::_,[],h,_=>by simp at h
 |b::bs,z::rows,h,k=>.cons {b,rfl,k 0 z b rfl rfl} (Md (by simpa using h) λi z' b' e1 e2=>k (i+1) z' b' (by simpa using e1) (by simpa using e2))
theorem LL:∀bs:Aaj,Vals (bs.map V.ref) (bs.map Value.ref)
 |[]=>.nil
 |b::bs=>.cons rfl (LL bs)
def abT:Value->Addr
 | .ref a=>a
 |_=>0
def XN(h:us.Perm (bs.map Value.ref)):∃cs:Aaj,us=cs.map Value.ref/\cs.Perm bs:=by
 have all:∀{us:Aag},(∀u∈us,∃b,u=Value.ref b)->∃cs:Aaj,us=cs.map Value.ref:=by
  intro us
  induction us with
  |nil=>intro _;exact{[],rfl}
  |cons u us ih=>
   intro hu;obtain⟨b,rfl⟩:=hu u aA;obtain⟨cs,rfl⟩:=ih λv hv=>hu v (aB _ hv);exact{b::cs,rfl}
 obtain⟨cs,rfl⟩:=all λu hu=>by obtain⟨b,_,e⟩:=aR.mp (h.mem_iff.mp hu);exact{b,e.symm}
 refine{cs,rfl,?_};have e:∀l:Aaj,(l.map Value.ref).map abT=l:=λl=>by
  induction l with
  |nil=>rfl
  |cons a l ih=>exact bU (a::·) ih
 rw[<-e cs,<-e bs];exact h.map _
def zc:Aab->Aab
 |[]=>[]
 |r::l=>if r∈l then zc l else r::zc l
theorem vo(x:Aah):∀l,x∈zc l↔x∈l
 |[]=>Ca
 |r::l=>by
  unfold zc;by_cases c:r∈l
  ·rw[aC c,vo x l,aG];exact{.inr,λh=>h.elim (λe=>e▸c) id}
  ·rw[az c,aG,aG,vo x l]
theorem uF:∀l,(zc l).Nodup
 |[]=>fI
 |r::l=>by
  unfold zc;by_cases c:r∈l
  ·rw[aC c];exact uF l
  ·rw[az c];exact cX.mpr {λh=>c ((vo r l).mp h),uF l}
def eX(l:Aab):Aab:=kG (zc l)
def pO(nd:l.Nodup)(h:∀r,r∈l↔r∈rows):kG l=eX rows:=
 CF ((tW nd (uF rows)).mpr λr=>by rw[h,vo])
def g9(x:Aah)(l:Aab):x∈eX l↔x∈l:=by unfold eX;rw[(lT _).mem_iff,vo]
section
variable{prog:Program}{w:World}{A:Around}{E:Aae}{s:Shared}
def Lc{Q:Aae}(hl:vs.length=rows.length)(ht:∀(i:Nat) v r,vs[i]?=some v->rows[i]?=some r->TupIs s.heap v r)(ie:2<=rows.length->∀r∈rows,r≠[])(Bg:vs.length<1000000)
  (k:∀(h':Heap)(tk c:Nat)(us:Aag),h'.get? s.heap.objs.size=some (seqObj "list" us.toArray c)->(∀b o,s.heap.get? b=some o->h'.get? b=some o)->us.Perm vs->(∀(i:Nat) v r,us[i]?=some v->(kG rows)[i]?=some r->TupIs s.heap v r)->Q (-12) {s with heap:=h',toks:=tk}):
  wpAny (-5) A (newList vs>>=λl=>holding [l] (call (.builtin "list.sort") [l] [])>>=λ_=>ret l) (λfin s'=>∃v,fin=Fin.done (.ret v)/\Q v s') E s:=by
 refine af (tL ?_ (by rw[b8];lia));have E1:(s.heap.push (seqObj "list" vs.toArray 0)).get? s.heap.objs.size=some (seqObj "list" vs.toArray 0):=aF _ rfl;refine af (bP (bz slot_list_sort ⟨_,E1,rfl⟩ entry_list_sort (PR E1 hl (λi v r e1 e2=>(ht i v r e1 e2).mono λb o e=>aq _ e) ie Bg λh' tk c us g kp pm q=>{_,rfl,?_}) (args_list_sort _)));refine ao {_,rfl,k h' tk c us g (λb o e=>kp b o (aL (aI e)) (aq _ e)) pm λi v r e1 e2=>?_};have x:=q i v r e1 e2;have hv:=pm.mem_iff.mp (aH e1);obtain⟨j,hj⟩:=dy.mp hv;have sW:j<rows.length:=by have:=(ax.mp hj).1;lia
 have y:=ht j v _ hj (au sW);obtain⟨b,o,aY,m,rfl,hb,r1⟩:=y;obtain⟨b',o',its',m',e',kI,r1'⟩:=x;cases e';have:o'=o:=by have:=aq (seqObj "list" vs.toArray 0) hb;exact bK (kI.symm.trans this)
 subst this;exact⟨b,o',its',m',rfl,hb,r1'⟩
variable{X:Cx}
def SortedTo(K:Frag)(H:Hp)(ys:Aao)(rows:Aab)(Q:VK):Prop:=∀l zs,H l=none->cT K H zs (kG rows)->(∀z∈zs,z∈ys)->Q (.ref l) (upd H l (.lst zs))
def Er{pins:Aac}{Z:St}{H:Hp}{s s1:Shared}{bs:Aaj}{rows:Aab}{Q:VK}(I:Inv X pins Z H s1)(lb:bs.length=rows.length)(hb:∀(i:Nat) z b,rows[i]?=some z->bs[i]?=some b->bF X.K H b (z.map V.str))(ie:2<=rows.length->∀r∈rows,r≠[])(Bg:rows.length<1000000)(q:SortedTo X.K H (bs.map V.ref) rows Q){A:Around}{E:Aae}:
  wpAny (-6) A (newList (bs.map Value.ref)>>=λl=>holding [l] (call (.builtin "list.sort") [l] [])>>=λ_=>ret l) (λfin s'=>∃v,fin=Fin.done (.ret v)/\EP X pins Z Q v s') E s1:=by
 refine Lc (by rw[ak];exact lb) (λi v r e1 e2=>?_) ie (by rw[ak];lia) λh' tk c us g kp pm srt=>?_
 ·rw[aK]at e1;obtain⟨b,e3,rfl⟩:=aX.mp e1;exact(I.row (hb i r b e2 e3)).1
 ·obtain⟨cs,rfl,pc⟩:=XN pm;have lc:cs.length=rows.length:=by rw[pc.length_eq,lb]
  have lz:(cs.map V.ref).length<=sizeLine:=by rw[ak,b8];lia
  refine{.ref s1.heap.objs.size,_,I.laid kp (ar _) (show dG X.prog X.w _ _ _ (.lst (cs.map V.ref))from{lz,cs.map Value.ref,c,LL cs,g}),rfl,q _ (cs.map V.ref) (-71) (Md (by rw[lc,(lT rows).length_eq]) λi z b e1 e2=>?_) λz hz=>(pc.map _).mem_iff.mp hz};have t:=srt i (.ref b) z (by rw[aK,e2];rfl) e1;obtain⟨j,hj⟩:=dy.mp (pc.mem_iff.mp (aH e2));have sW:j<rows.length:=by have:=(ax.mp hj).1;lia
  have hr:=hb j _ b (au sW) hj;have t2:=(I.row hr).1;have e:rows[j]=z:=by
   obtain⟨b1,o1,i1,n1,e1,g1,c1,d1,r1⟩:=t;obtain⟨b2,o2,i2,n2,e2,g2,c2,d2,r2⟩:=t2;cases e1;cases e2;rw[g1]at g2;cases g2;rw[d1]at d2;cases d2;have inj:∀{x y:Aah}{vs:Aag},oG x vs->oG y vs->x=y:=by
    intro x y vs hx
    induction hx generalizing y with
    |nil=>intro hy;cases hy;rfl
    |cons _ ih=>intro hy;cases hy with|cons hy=>rw[ih hy]
   exact inj r2 r1
  rw[<-e];exact hr
def Jj{α β:Type}{f:α->β}:∀{l k:List β},l.Perm k->∀{m:List α},k=m.map f->∃m':List α,m'.Perm m/\l=m'.map f:=by
 intro l k h
 induction h with
 |nil=>intro m e;exact{m,.refl _,e}
 |@cons x l1 l2 _ ih=>
  intro m e;cases m with
  |nil=>cases e
  |cons a m=>
   rw[aU]at e;injection e with e1 e2;obtain⟨m',p,q⟩:=ih e2;exact{a::m',p.cons a,by rw[e1,q];rfl}
 |swap x y l=>
  intro m e
  match m,e with
  |a::b::m,e=>
   rw[aU,aU]at e;injection e with e1 e2;injection e2 with e2 e3;exact{b::a::m,.swap _ _ _,by rw[e1,e2,e3];rfl}
 |trans _ _ ih1 Q8=>
  intro m e;obtain⟨m1,p1,q1⟩:=Q8 e;obtain⟨m2,p2,q2⟩:=ih1 q1;exact{m2,p2.trans p1,q2}
def pH:Key->Str
 | .inr z=>z
 | .inl _=>""
def wc(z:Aah):(z.map (Sum.inr:Str->Key)).map pH=z:=by
 induction z with
 |nil=>rfl
 |cons a z ih=>exact bU (a::·) ih
end
def kz(P:Program)(w:World)(a:Addr)(us:List (Aah×Addr)):Heap->Prop:=λh=>∃o ep t,h.get? a=some o/\o.ExactSet/\o.data=.set (us.map λx=>Tb.ent (bH P w) (x.1.map Sum.inr,x.2)).toArray ep t/\t.fits us.length=true/\t.led=Tb.pR w/\Tb.nN t.place
def XD(x:kz P w a us h):dG P w H h a (.ext (kz P w a us)):=
 {x,let⟨o,_,_,q,_⟩:=x;⟨o,q⟩,λ_ _ ⟨o,ep,t,q,r⟩ k=>{o,ep,t,k _ q,r}}
section
variable{X:Cx}{pins:Aac}{Z:St}{H:Hp}{s:Shared}{h':Heap}
def Inv.acs(I:Inv X pins Z H s)(k:∀b u,s.heap.get? b=some u->h'.get? b=some u):Inv X pins Z H {s with heap:=h',drawn:=d',toks:=t'}:=
 I.step (g':=s.gens) (ch:=[]) (λ_ z=>nomatch z) (λb o _ _ _ e _=>k b o e) (λb o _ _ _ e _=>{o.slots,k b o e}) (λ_ _ _ _ n=>n) (λb o _ e=>{o,k b o e}) (λ_ _ e=>e) (λ_ _ _ e=>e) (λb ps e=>{#[],by rw[e];simp}) (λm hm=>by obtain⟨o,es,ep,ho,r⟩:=hm;exact{o,es,ep,k _ _ ho,r}) (I.br.kept k) I.bare
end
section
variable{X:Cx}
def Bq(hA:X.A.handled=none)(hu:X.A.units+64<cLine):jv X (.type "set") (λxs H Q=>∃p ys rows,xs=[.ref p]/\bo X.K H p ys/\cT X.K H ys rows/\rows.length<=1000/\∀a us,H a=none->(us.map (·.1)).Nodup->(∀r,r∈us.map (·.1)↔r∈rows)->us.length<=rows.length->(∀x∈us,bF X.K H x.2 (x.1.map V.str)/\V.ref x.2∈ys)->Q (-51) (upd H a (.ext (kz X.prog X.w a us)))):=by
 intro pins s Z H xs us Q I r h;obtain⟨p,ys,rows,rfl,hq,hr,hz,q⟩:=h;obtain⟨u,rfl,rx⟩:=lO r;cases rx;obtain⟨aY,r',pl,_⟩:=I.list hq;obtain⟨bs,rfl,rfl,lb,hb⟩:=I.rows hr r';refine Tb.R9 (knd:=bH X.prog X.w) (ks:=rows.map λz=>z.map Sum.inr) (bs:=bs) hA (by show X.A.units+1+1+1<cLine;lia) pl.isList (-9) (by rw[ak,lb]) (λi k b e1 e2=>?_) ∅ λh' tk o ep t xs S hl hH kp=>?_
 ·rw[aK]at e1;obtain⟨z,e3,rfl⟩:=aX.mp e1;exact(I.row (hb i z b e3 e2)).2
 ·have inj:∀x∈xs,∃(j:Nat)(z:Aah),rows[j]?=some z/\x.1=z.map Sum.inr/\bs[j]?=some x.2:=λx hx=>by obtain⟨j,j1,j2⟩:=hH.HP x hx;rw[aK]at j1;obtain⟨z,e3,e4⟩:=aX.mp j1;exact{j,z,e3,e4.symm,j2}
  have back:(xs.map λx=>(x.1.map pH,x.2)).map (λx=>((x.1.map Sum.inr:List Key),x.2))=xs:=by
   rw[bW];have:∀x∈xs,((λx:Aah×Addr=>((x.1.map Sum.inr:List Key),x.2))∘λx:List Key×Addr=>(x.1.map pH,x.2)) x=x:=λx hx=>by obtain⟨j,z,_,e,_⟩:=inj x hx;show((x.1.map pH).map Sum.inr,x.2)=x;rw[e,wc];exact Eb e.symm rfl
   rw[bX this,List.map_id']
  have fst:∀r,r∈(xs.map λx=>(x.1.map pH,x.2)).map (·.1)↔r∈rows:=λr=>by
   rw[bW,aR];constructor
   ·rintro⟨x,hx,rfl⟩;obtain⟨j,z,e1,e,_⟩:=inj x hx;show x.1.map pH∈rows;rw[e,wc];exact aH e1
   ·intro hr;have:r.map Sum.inr∈xs.map (·.1):=(hH.mem _).mpr (by
     rw[dU (by rw[ak,lb];exact ar _)];exact aR.mpr ⟨r,hr,rfl⟩)
    obtain⟨x,hx,e⟩:=aR.mp this;exact{x,hx,by show x.1.map pH=r;rw[e,wc]}
  have nd:((xs.map λx=>(x.1.map pH,x.2)).map (·.1)).Nodup:=by
   have h1:=S.nd;rw[<-back,bW]at h1;have h2:((xs.map λx=>(x.1.map pH,x.2)).map ((·.1)∘λx:Aah×Addr=>((x.1.map Sum.inr:List Key),x.2)))=((xs.map λx=>(x.1.map pH,x.2)).map (·.1)).map λz=>z.map Sum.inr:=by simp only[bW];rfl
   rw[h2]at h1;exact(kZ.mp h1).imp λne e=>ne (by rw[e])
  have hd:o.data=.set ((xs.map λx=>(x.1.map pH,x.2)).map λx=>Tb.ent (bH X.prog X.w) (x.1.map Sum.inr,x.2)).toArray ep t:=by rw[S.data];congr 2;have:=bU (List.map (Tb.ent (bH X.prog X.w))) back;rw[bW]at this;exact this.symm
  refine{.ref s.heap.objs.size,_,I.laid (t':=tk) kp (ar _) (XD {o,ep,t,S.ob,S.ex,hd,?_,hl,S.tab.rise}),rfl,q _ _ (-71) nd fst ?_ λx hx=>?_}
  ·have:=S.fits;simpa using this
  ·rw[ak];have:=hH.len;lia
  ·obtain⟨y,hy,rfl⟩:=aR.mp hx;obtain⟨j,z,e1,e,e2⟩:=inj y hy;refine{?_,aR.mpr {y.2,aH e2,rfl}};show bF X.K H y.2 ((y.1.map pH).map V.str);rw[e,wc];exact hb j z y.2 e1 e2
def rV(hA:X.A.handled=none):jv X (.builtin "sorted") (λxs H Q=>∃a us ys,xs=[.ref a]/\H a=some (.ext (kz X.prog X.w a us))/\(∀x∈us,bF X.K H x.2 (x.1.map V.str)/\V.ref x.2∈ys)/\(2<=us.length->∀x∈us,x.1≠[])/\us.length<1000/\SortedTo X.K H ys (us.map (·.1)) Q):=by
 intro pins s Z H xs us Q I r h;obtain⟨a,Vj,ys,rfl,ha,hx,ie,Bg,q⟩:=h;obtain⟨u,rfl,rx⟩:=lO r;cases rx;obtain⟨⟨o,ep,t,ho,hex,hd,hf,hl,acC⟩,_⟩:=(show dG X.prog X.w H s.heap a (.ext (kz X.prog X.w a Vj))from I.br a _ ha);refine jO CV AK Bl (BA _) ?_;unfold Builtin.«sorted»;refine af (m:=checkCount "sorted" 1 1 _) (ao ?_);refine af (Tb.Lu (A:=X.A.in1) (by simpa using hA) {⟨o,ho,hex,hd⟩,by simpa using hf,hl,acC} (by simp;lia) λh' tk d vs pm kp=>?_);have e0:(Vj.map λx=>Tb.ent (bH X.prog X.w) (x.1.map Sum.inr,x.2)).toArray.toList.map (·.2)=Vj.map λx=>Value.ref x.2:=by simp[uu]
 rw[e0]at pm;obtain⟨o9,pv,rfl⟩:=Jj pm rfl;have lb:(o9.map (·.2)).length=(o9.map (·.1)).length:=by rw[ak,ak]
 have lu:=pv.length_eq;have e1:(o9.map λx=>Value.ref x.2)=(o9.map (·.2)).map Value.ref:=by rw[bW];rfl
 rw[e1];have sc:kG (o9.map (·.1))=kG (Vj.map (·.1)):=CF (pv.map _);refine Er (s:=s) (I.acs (t':=tk) (d':=d) kp) lb (λi z b e2 e3=>?_) (λh2 r hr=>?_) (by rw[ak];lia) λl zs jF hz hm=>?_
 ·rw[aK]at e2 e3;obtain⟨x,ex,rfl⟩:=aX.mp e2;rw[ex]at e3;cases e3;exact(hx x (pv.mem_iff.mp (aH ex))).1
 ·obtain⟨x,hxm,rfl⟩:=aR.mp hr;exact ie (by rw[ak]at h2;lia) x (pv.mem_iff.mp hxm)
 ·rw[sc]at hz;refine q l zs jF hz λz hzm=>?_;obtain⟨b,hb,rfl⟩:=aR.mp (hm z hzm);obtain⟨x,hxm,rfl⟩:=aR.mp hb;exact(hx x (pv.mem_iff.mp hxm)).2
def KP(hA:X.A.handled=none):jv X (.builtin "sorted") (λxs H Q=>∃(a:Addr)(kvs:List (Key×V))(zs:Aah),xs=[.ref a]/\H a=some (.dK kvs)/\kvs.map (·.1)=zs.map Sum.inr/\zs.length<64/\∀l,H l=none->Q (.ref l) (upd H l (.lst ((iV zs).map V.str)))):=by
 intro pins s Z H xs us Q I r h;obtain⟨a,kvs,zs,rfl,ha,hk,Bg,q⟩:=h;obtain⟨u,rfl,ru⟩:=lO r;cases ru;obtain⟨hz,lo,vs,rel,o,es,ep,m⟩:=oB I.br ha;have at':s.heap.DictAt (bH X.prog X.w) a vs ep:=⟨o,es,m⟩;have hl:kvs.length=vs.length:=rel.length;have Rq:kvs.map (·.1)=vs.map (·.1):=rel.keys;refine jO CV AK Bl (BA _) ?_;unfold Builtin.«sorted»;refine af (m:=checkCount "sorted" 1 1 _) (ao ?_);refine af (Ag (A:=X.A.in1) (PySem.W.kdl_dict lo) (by simpa using hA) at' (by rw[<-hl];exact hz) λh' tk acc kp it=>?_);have hS:StrsAre acc.toList zs:=by
  have len:acc.toList.length=zs.length:=by have e1:=bU List.length hk;simp only[ak]at e1;rw[aS,it.1];lia
  have at_:∀(j:Nat)(v:Value),acc.toList[j]?=some v->∃t,v=.str (zs.getD j "") t:=λj v e=>by
   obtain⟨k,y,e3,e4⟩:=it.2 j v (by rw[<-bI];exact e);have e5:(zs.map (Sum.inr:Str->Key))[j]?=some k:=by rw[<-hk,Rq,aK,e3];rfl
   rw[aK]at e5;obtain⟨z,e6,rfl⟩:=aX.mp e5;have e8:RelV (kV (Sum.inr z)) v:=rM (k:=Sum.inr z) e4;obtain⟨t,e7⟩:=(show∃t,v=Value.str z t from e8);exact{t,by rw[e7,cq,e6];rfl}
  have go:∀(us:Aag)(zs:Aah),us.length=zs.length->(∀(j:Nat)(v:Value),us[j]?=some v->∃t,v=.str (zs.getD j "") t)->StrsAre us zs:=by
   intro us
   induction us with
   |nil=>intro zs hl _;rw[ff.mp hl.symm];exact .nil
   |cons u us ih=>
    intro zs hl hk;cases zs with
    |nil=>simp at hl
    |cons z zs=>
     obtain⟨t,rfl⟩:=hk 0 u rfl;exact .cons z t (ih zs (by simpa using hl) λj v e=>by obtain⟨t,e'⟩:=hk (j+1) v (by simpa using e);exact{t,by simpa using e'})
  exact go _ _ len at_
 have aek:acc.toList.length<64:=by have:=hS.strs;rw[<-this,ak]at Bg;exact Bg
 refine af (tL ?_ (by rw[b8];lia));have E1:(h'.push (-31)).get? h'.objs.size=some (-31):=aF _ rfl;have I1:Inv X pins Z H {s with heap:=h',toks:=tk}:=I.kept kp;refine af (bP (bz slot_list_sort ⟨_,E1,rfl⟩ entry_list_sort (list_sort_treeK strKind_oneLt (s:={s with heap:=h'.push (-31),toks:=tk}) E1 hS.keysOf (λaeK aeJ rest e=>keyKind_strs (by rw[<-e];exact hS)) aek λgZ hp hs=>{_,rfl,?_}) (args_list_sort _)));obtain⟨ss',h1,h2,h3⟩:=sorted_out_str hS hp hs;have e:=SV h2 h3;subst e;generalize (arrOf gZ).map (·.2)=out at h1;have lt:h'.objs.size<(h'.push (-31)).objs.size:=aI E1;have ln:((iV zs).map V.str).length<=sizeLine:=by rw[ak,(lR zs).length_eq];exact bu (bC ∅)
 obtain⟨n,he⟩:∃n,(sortedHeap (h'.push (-31)) h'.objs.size acc.toList out).get? h'.objs.size=some (seqObj "list" out n):=by obtain⟨e1,A8⟩:∃e1,((h'.push (-31)).update h'.objs.size (-47)).get? h'.objs.size=some (seqObj "list" #[] e1):={_,get?_update_seq E1 λ_=>#[]};have ho3:=aq (seqObj "list" #[] 0) (aq (seqObj "tuple" acc.toList.toArray 0) A8);exact{_,get?_update_seq ho3 λ_=>out}
 have old:∀b o,h'.get? b=some o->(sortedHeap (h'.push (-31)) h'.objs.size acc.toList out).get? b=some o:=λb o e=>by have nb:b≠h'.objs.size:=aL (aI e);have g1:=aq (-31) e;have g2:=(bT (h'.push (-31)) h'.objs.size (-47)).extBut b o nb g1;have g3:=aq (seqObj "list" #[] 0) (aq (seqObj "tuple" acc.toList.toArray 0) g2);exact(bT _ h'.objs.size (Obj.mapSeq λ_=>out)).extBut b o nb g3
 refine ao {_,rfl,.ref h'.objs.size,_,I1.laid (t':=tk) old (ar _) (show dG X.prog X.w _ _ _ (.lst ((iV zs).map V.str))from{ln,out.toList,n,Iu h1,?_}),rfl,q _ (I1.br.fresh (ar _))};exact he
end
def V0(hl:(apos.endLine==fC.line)=true:=by rfl)(hb:attributeBase (.Name d pd) "get" X.env (eval (.Name d pd) X.env)=eval (.Name d pd) X.env:=by rfl):M2 X (.Name d pd) "get" apos (.Name x px) (.List [] pl) fC:=⟨hb,rfl,hl,rfl⟩
section
variable{prog:Program}{w:World}{A:Around}{E:Aae}{s:Shared}{d it:Addr}{o:Obj}{es:Array DictEntry}{ep i:Nat}
def BY(lo:(d==sysModules)=false)(ho:s.heap.get? d=some o)(hx:o.ExactDict)(hd:o.data=.dict es ep)
  (q:Q (-12) {s with heap:=s.heap.push {cls:=.type "dict_keyiterator",data:=.fields #[.ref d,.int 0 0,.int es.size 0,.int ep 0]}}):wpAny (-5) A (pyIter (.ref d)) Q E s:=by
 have ty:s.TypeIs (.ref d) "dict":={o,ho,hx.1};refine oR ty xi (bz xi ty PySem.F.entry_dict_iter ?_ (PySem.F.args_dict_iter_1 _));unfold Builtin.«dict.__iter__» Builtin.Dict.dictSlotNone;refine af (af (jm ty (ao (a:=Value.ref d) ?_)));show wpAny _ _ (Builtin.Dict.showsAll d>>=_) _ _ s;unfold Builtin.Dict.showsAll;rw[lo];refine af (ao (af (gF ho hd (af (kF ho hd ?_)))));exact af (cx (ao {_,rfl,"dict_keyiterator",_,{_,aF _ rfl,rfl},eT.lookup,q}))
def P5(hit:s.heap.IsKeyIter it d i es.size ep)(ho:s.heap.get? d=some o)(hd:o.data=.dict es ep)(hi:i<es.size)
  (q:∀h',h'.IsKeyIter it d (i+1) es.size ep->Heap.SameBut it s.heap h'->Q (some es[i].key) {s with heap:=h'}):wpAny (-5) A (pyNext (.ref it)) Q E s:=by
 obtain⟨oi,G9,ci,di⟩:=id hit;unfold pyNext;refine af (dZ (wpAny_callSpecial?_slot (name:=Str.ofString "__next__") hit.typeIs eT (bz eT hit.typeIs oH ?_ (nW _))));refine af (ao (af (af (af (iJ hit.typeIs (ao ?_))))));refine af (iP G9 di ?_);have own:Builtin.Dict_items.ownsTuple "dict_keyiterator"=false:=by decide
 simp only[own,cw,d6];show wpAny _ _ (if(-72)=true then _ else _) _ _ s;rw[az (show ¬((-72)=true)from aW)];refine af (ao (af (gF ho hd ?_)));rw[az (-9)];refine af (ao (af (kF ho hd ?_)));rw[az (-9)];refine ao ?_;simp only[show ¬((i:Int)<0)from by lia,d6,cZ,bD hi];refine af (af (iJ hit.typeIs (ao (af (xx hit.typeIs ?_)))));show wpAny _ _ (setField (.ref it) 1 (rawInt ((i:Int)+1))>>=_) _ _ s;refine af (fG G9 di (-9) ?_);have OJ:(s.heap.update it (Obj.mapFields (·.setIfInBounds 1 (rawInt ((i:Int)+1))))).IsKeyIter it d (i+1) es.size ep:=
  {_,cH _ G9 (yq (nY di _)),(Cr ..).trans ci,by rw[nY di];simp[rawInt]}
 refine af (bP (af (xx (s:={s with heap:=s.heap.update it (Obj.mapFields (·.setIfInBounds 1 (rawInt ((i:Int)+1))))}) OJ.typeIs ?_)));show wpAny _ _ (pure es[i].key) _ _ _;exact ao (ao {_,rfl,ao (q _ OJ (bT ..))})
def GJ(hh:A.handled=none)(hit:s.heap.IsKeyIter it d i es.size ep)(ho:s.heap.get? d=some o)(hd:o.data=.dict es ep)(hi:es.size<=i)
  (q:∀h',(∀b x,b≠it->s.heap.get? b=some x->h'.get? b=some x)->Q none {s with heap:=h'}):wpAny (-5) A (pyNext (.ref it)) Q E s:=by
 obtain⟨oi,G9,ci,di⟩:=id hit;unfold pyNext;refine af (dZ (wpAny_callSpecial?_slot (name:=Str.ofString "__next__") hit.typeIs eT (bz eT hit.typeIs oH ?_ (nW _))));refine af (ao (af (af (af (iJ hit.typeIs (ao ?_))))));refine af (iP G9 di ?_);have own:Builtin.Dict_items.ownsTuple "dict_keyiterator"=false:=by decide
 simp only[own,cw,d6];show wpAny _ _ (if(-72)=true then _ else _) _ _ s;rw[az (show ¬((-72)=true)from aW)];refine af (ao (af (gF ho hd ?_)));rw[az (-9)];refine af (ao (af (kF ho hd ?_)));rw[az (-9)];refine ao ?_;simp only[show ¬((i:Int)<0)from by lia,d6,cZ,kS hi];refine af (af (iJ hit.typeIs (ao ?_)));show wpAny _ _ (setField (.ref it) 0 .none>>=_) _ _ s;refine af (fG G9 di (-9) ?_);refine Tb.BR (s:=s) (show A.in1.handled=none from hh) λh' e kp adN=>?_;obtain⟨oe,he,ce⟩:=adN;exact af (f6 (T:="StopIteration") (b:=true) ⟨oe,he,ce⟩ jR (ao (q _ λb x nb g=>kp b x ((bN _ _ (cb nb)).trans g))))
end
def DX(P:Program)(w:World)(d:Addr)(kvs:List (Key×V))(ok ov:V):Heap->Prop:=λh=>(d==sysModules)=false/\∃o es ep vs e,h.get? d=some o/\o.ExactDict/\o.data=.dict (es.push e) ep/\KV kvs vs/\KeysOf (bH P w) es/\Pairs (bH P w) es.toList vs/\(vs.map (·.1)).Nodup/\RelV ok e.key/\RelV ov e.val/\kvs.length<=1000
section
variable{X:Cx}{pins:Aac}{Z:St}{H:Hp}{s:Shared}
def Inv.F2(I:Inv X pins Z H s)(hd:H d=some (.ext φ))(ho:s.heap.get? d=some o):Inv X pins Z (upd H d (.c7 o (.ext φ))) s:=by
 have nd:∀b u,H b=some u->(∀l,u≠ .ext l)->b≠d:=λb u q n z=>by rw[z,hd]at q;exact n φ (bK q).symm
 have ie:∀b,H b=none->b≠d:=λb q z=>by rw[z,hd]at q;cases q
 refine I.un {λb u e _ _ _=>e,λb u e _ _ _=>{u.slots,e},λb u e n _=>by rw[aE (ie b n)];exact n,λb u e _=>⟨u,e⟩,λb xs q=>by rw[aE (nd b _ q λl z=>by cases z)];exact q,λb u v q=>by rw[aE (nd b _ q λl z=>by cases z)];exact q,λb ps q=>{#[],by rw[aE (nd b _ q λl z=>by cases z),q];simp}} λb u g=>?_;by_cases hb:b=d
 ·subst hb;rw[aw]at g;cases g;exact{ho,I.br b _ hd}
 ·rw[aE hb]at g;exact(I.br b u g).jx (λc v hc q=>q) (λc q=>by rw[aE (nd c _ q λl z=>by cases z)];exact q) λc ys q=>by rw[aE (nd c _ q λl z=>by cases z)];exact q
def Inv.ND(I:Inv X pins Z H s)(hd:H d=some (.c7 o u))(hn:∀u v,X.aae d≠some (.c7 u v)):Inv X pins Z (upd H d u) s:=by
 have nd:∀b u,H b=some u->(∀v l,u≠ .c7 v l)->b≠d:=λb u q n z=>by rw[z,hd]at q;exact n _ _ (bK q).symm
 have ie:∀b,H b=none->b≠d:=λb q z=>by rw[z,hd]at q;cases q
 refine{I.ok,I.os,I.bare,{I.base.keep,I.base.slot,λb u e n hx=>?_,I.base.there,λb xs q=>?_,λb u v q=>?_,λb ps q=>?_},I.loc,I.cell,?_,λx c e=>?_,λp hp=>?_,λb v g=>?_,I.len}
 ·have z:=I.base.free b u e n hx;rw[aE (ie b z)];exact z
 ·have z:=I.base.m8 b xs q;rw[aE (nd b _ z λv l t=>by cases t)];exact z
 ·have z:=I.base.tQ b u v q;rw[aE (show b≠d fromλt=>hn u v (by rw[<-t];exact q))];exact z
 ·obtain⟨m,z⟩:=I.base.yE b ps q;exact{m,by rw[aE (nd b _ z λv l t=>by cases t)];exact z}
 ·rw[aE (ie _ I.free)];exact I.free
 ·rw[aE (ie _ (I.oA x c e))];exact I.oA x c e
 ·obtain⟨a1,a2,a3,a4,a5⟩:=I.pin p hp;exact{a1,by rw[aE (ie _ a2)];exact a2,a3,a4,a5}
 ·by_cases hb:b=d
  ·subst hb;rw[aw]at g;cases g;exact((I.br b _ hd).2).jx (λc v hc q=>q) (λc q=>by rw[aE (nd c _ q λv l z=>by cases z)];exact q) λc ys q=>by rw[aE (nd c _ q λv l z=>by cases z)];exact q
  ·rw[aE hb]at g;exact(I.br b v g).jx (λc v hc q=>q) (λc q=>by rw[aE (nd c _ q λv l z=>by cases z)];exact q) λc ys q=>by rw[aE (nd c _ q λv l z=>by cases z)];exact q
end
inductive PB(t:TE)(Z:St)(H:Hp)(Q:VK):Prop
 |mk (d:Addr) (_:(∀u v,H d≠some (.c7 u v))) (_:t Z H λv H'=>∃o u,H' d=some (.c7 o u)/\Q v (upd H' d u))
def Jl(h:PE X e t):PE X e (PB t):=by intro pins s Z H Q I ht;obtain⟨d,hd,ht⟩:=ht;have h0:=λu v e=>hd u v (I.base.tQ d u v e);refine df (h pins s Z H _ I ht) λv s1 x H1 I1 r1 ⟨o,u,e,q⟩=>{x,_,I1.ND e h0,r1,q}
def Hz(d:Addr)(o:Obj)(u:HO)(kvs:Aam):It:=
 {λi H=>H d=some (.c7 o u)/\i<kvs.length,λi H x H'=>H'=H/\∃kv,kvs[i]?=some kv/\x=kv.1,λi H=>H d=some (.c7 o u)/\kvs.length<=i}
def K6(o:Obj)(es:Array DictEntry)(ep:Nat)(kvs:Aam):Prop:=o.ExactDict/\o.data=.dict es ep/\Paired (-57) kvs es.toList
def Ib{K:Frag}(m:K6 o es ep kvs):Turn P w K tg (Hz d o u kvs) [it] it (λi h=>h.IsKeyIter it d i es.size ep) where
 mem:=by simp
 obj:=λi h st b hb=>by
  have e:b=it:=by simpa using hb
  subst e;obtain⟨v,e,c,q⟩:=st;exact{v,e,λv z=>by rw[q]at z;cases z}
 keep:=λi h h' st k=>by obtain⟨v,e,r⟩:=st;exact{v,k it (-9) v e,r}
 item:=by
  intro X hP hw hK hc i pins s Z H E I hf st hg;obtain⟨hd,hi⟩:=hg;have hl:kvs.length=es.size:=by rw[bw m.2.2,aS]
  have ga:=(I.br d _ hd).1;obtain⟨f0,f1,f2,f3,f4,f5⟩:=hf it (-9);obtain⟨kv,jd⟩:∃kv,kvs[i]?=some kv:={_,au hi};have Rt:i<es.size:=by lia
  obtain⟨e,he,r⟩:=Paired.at' m.2.2 jd;have ee:es[i]=e:=by rw[bI,bD Rt]at he;exact bK he
  refine P5 st ga m.2.1 Rt λh' gZ sb=>?_;have I1:=I.turned (t':=s.toks) (λb o hb e=>(sb.2 b hb).trans e) f0 f1 f3 f4 f5;obtain⟨v,ev,c,q⟩:=id gZ;exact{_,rfl,B6 ev c q (-8) {kv.1,H,I1,by rw[ee];exact r.1,⟨rfl,kv,jd,rfl⟩,gZ,λb hb=>(hf b hb).1}}
 done:=by
  intro X hP hw hK hc i pins s Z H E I hf st hg;obtain⟨hd,hi⟩:=hg;have hl:kvs.length=es.size:=by rw[bw m.2.2,aS]
  have ga:=(I.br d _ hd).1;obtain⟨f0,f1,f2,f3,f4,f5⟩:=hf it (-9);exact GJ (I.ok.hd hc) st ga m.2.1 ∅ λh' eb=>{rfl,I.turned (λb o hb e=>eb b o hb e) f0 f1 f3 f4 f5}
 self:=λ_ _ _ _ _ st h=>qr st h
def HS(P:Program)(w:World)(d:Addr)(u:HO)(kvs:Aam):Prop:=(∃l,u=.dK l/\kvs=l.map λp=>(kV p.1,p.2))\/∃l ok ov,u=.ext (DX P w d l ok ov)/\kvs=(l.map λp=>(kV p.1,p.2))++[(ok,ov)]
def EG(rel:KV kvs vs)(hp:Pairs (bH P w) es vs):Paired (-57) (kvs.map λp=>(kV p.1,p.2)) es:=by
 unfold KV at rel
 induction hp generalizing kvs with
 |nil=>cases rel;exact .nil
 |@cons e kv es vs hk hv _ ih=>
  cases rel with
  |@cons p _ ps _ hr t=>exact .cons {rM (by rw[hr.1];exact hk),by rw[hv];exact hr.2} (ih t)
def Nd(x:dG P w H h d u)(hv:HS P w d u kvs):(d==sysModules)=false/\∃o es ep,h.get? d=some o/\K6 o es ep kvs:=by
 rcases hv with⟨l,rfl,rfl⟩|⟨l,ok,ov,rfl,rfl⟩
 ·obtain⟨_,lo,vs,rel,o,es,ep,ga,hx,hd,_,hp,_⟩:=x;exact{lo,o,es,ep,ga,hx,hd,EG rel hp}
 ·obtain⟨⟨lo,o,es,ep,vs,e,ga,hx,hd,rel,_,hp,_,r1,r2,_⟩,_⟩:=x;refine{lo,o,_,ep,ga,hx,hd,?_};rw[k9];exact kQ (EG rel hp) ⟨r1,r2⟩
def Inv.YC(I:Inv X pins Z H s)(hd:H d=some u)(hv:HS X.prog X.w d u kvs)(ho:s.heap.get? d=some o):Inv X pins Z (upd H d (.c7 o u)) s:=by
 rcases hv with⟨l,rfl,rfl⟩|⟨l,ok,ov,rfl,rfl⟩
 ·exact I.freeze hd ho
 ·exact I.F2 hd ho
inductive Yx(P:Program)(w:World)(R:It->Hp->Prop)(x:V)(H1:Hp):Prop
 |mk d u kvs (_:x=.ref d) (_:H1 d=some u) (_:HS P w d u kvs) (_:∀o,R (Hz d o u kvs) (upd H1 d (.c7 o u)))
def aaU(P:Program)(w:World)(tl:TE):TI:=λZ H R=>tl Z H λx H1=>Yx P w R x H1
def Tj(hl:PE X l tl):PI X tg l (aaU X.prog X.w tl):=by
 intro pins s Z H R I h;refine df (hl pins s Z H _ I h) λv s1 x H1 I1 r1 q1=>?_;obtain⟨d,u,kvs,e,hd,hv,q⟩:=q1;subst e;cases r1;obtain⟨lo,o,es,ep,ga,m⟩:=Nd (I1.br d _ hd) hv;refine BY lo ga m.1 m.2.1 ?_;have I2:=I1.YC hd hv ga;refine{s1.heap.objs.size,[s1.heap.objs.size],_,_,_,rfl,I2.kept λb o e=>aq _ e,Ib m,{_,aF _ rfl,rfl,rfl},λb hb=>?_,q o};have e:b=s1.heap.objs.size:=by simpa using hb
 subst e;exact I2.qN (ar _) (I2.br.fresh (ar _))
def IP(hv:s.heap.IsItemsView v d)(ho:s.heap.get? d=some o)(hd:o.data=.dict es ep)
  (q:Q (-12) {s with heap:=s.heap.push {cls:=.type "dict_itemiterator",data:=.fields #[.none,.bool false,.ref d,.int 0 0,.int es.size 0,.int ep 0,.none,.none]}}):wpAny (-5) A (pyIter (.ref v)) Q E s:=by
 obtain⟨ov,hov,hcv,hdv⟩:=id hv;refine oR hv.typeIs sd (bz sd hv.typeIs PySem.F.entry_dict_items_iter ?_ (PySem.F.args_dict_items_iter_1 _));unfold Builtin.«dict_items.__iter__» Builtin.Dict_items.dictOf Builtin.Dict_items.newIterator;refine af (ao (af (af (bO hov hdv rfl (ao ?_)))));refine af (af (gF ho hd (af (kF ho hd ?_))));have own:Builtin.Dict_items.ownsTuple "dict_itemiterator"=true:=by decide
 simp only[own,lD];refine cx (ao {_,rfl,"dict_itemiterator",_,{_,aF _ rfl,rfl},b9.lookup,?_}) (by simp only[sizeOk,Builtin.Dict_items.ownedTupleFields,aQ,aO,bx,d5,b8];lia);simpa[rawInt,Builtin.Dict_items.ownedTupleFields]using q
inductive ZE(t:TS)(D:Ends)(Z:St)(H:Hp):Prop
 |mk (d:Addr) (_:(∀u v,H d≠some (.c7 u v))) (_:t {D with nx:=λσ' H'=>∃o u,H' d=some (.c7 o u)/\D.nx σ' (upd H' d u),rt:=λv H'=>∃o u,H' d=some (.c7 o u)/\D.rt v (upd H' d u)} Z H)
def Ja{st:Stmt}(h:PS X st t):PS X st (ZE t):=by
 intro pins s Z H D I ht;obtain⟨d,hd,ht⟩:=ht;have h0:=λu v e=>hd u v (I.base.tQ d u v e);refine iT (h pins s Z H _ I ht) λf s1 q=>?_;cases f with
 |next=>
  obtain⟨σ',H',J,o,u,e,n⟩:=q;exact{σ',_,J.ND e h0,n}
 |brk=>exact q
 |cont=>exact q
 |ret u=>
  obtain⟨v,σ',H',J,r,o,u',e,n⟩:=q;exact{v,σ',_,J.ND e h0,r,n}
section
variable{d:Addr}{o:Obj}{u:HO}{kvs:Aam}
def RJ{g:TG}{tb:TS}{D:Ends}(Pv:Nat->St->Hp->Prop)(h0:Pv 0 Z H)(hl:∀i Z H,i<=kvs.length->Pv i Z H->H d=some (.c7 o u))
  (hs:∀i kv Z H,kvs[i]?=some kv->Pv i Z H->g kv.1 Z H λσ2 H2=>tb {D with nx:=Pv (i+1),ct:=Pv (i+1),bk:=D.nx} σ2 H2) (hd:∀Z H,Pv kvs.length Z H->D.nx Z H):
  ∃W:Nat->Nat->St->Hp->Prop,(∃m,W 0 m Z H)/\∀i m Z H,W i m Z H->
   ((Hz d o u kvs).stop i H/\D.nx Z H)\/((Hz d o u kvs).go i H/\∃N:St->Hp->Prop,(∀σ' H',N σ' H'->∃m',m'<m/\W (i+1) m' σ' H')/\∀x H',(Hz d o u kvs).xt i H x H'->g x Z H' λσ2 H2=>tb {D with nx:=N,ct:=N,bk:=D.nx} σ2 H2):=by
 refine{λi m Z H=>m=kvs.length -i/\i<=kvs.length/\Pv i Z H,{kvs.length,by simp,aP _,h0},?_};rintro i m Z H ⟨rfl,hi,p⟩;have q:=hl i Z H hi p;by_cases bJ:i<kvs.length
 ·refine .inr {⟨q,bJ⟩,Pv (i+1),λσ' H' p'=>{kvs.length -(i+1),by lia,rfl,bJ,p'},λx H' y=>?_};obtain⟨rfl,kv,hk,rfl⟩:=y;exact hs i kv Z _ hk p
 ·have e:i=kvs.length:=by lia
  subst e;exact .inl {{q,ar _},hd Z H p}
def ze(Pv:Nat->Aao->Hp->Prop)(hx:kvs.length<sizeLine)(h0:Pv 0 [] H1)(hl:∀i ys H,i<=kvs.length->Pv i ys H->H d=some (.c7 o u)/\ys.length<=i)
  (hs:∀(i:Nat)(kv:V×V)(ys:Aao)(H:Hp)(N:Aao->Hp->Prop),kvs[i]?=some kv->Pv i ys H->(∀jC H',Pv (i+1) jC H'->N jC H')->
   tt (some kv.1::slotsOf fr Z) H λb H4=>if b=true then te (some kv.1::slotsOf fr Z) H4 (λy H5=>N (ys++[y]) H5)else N ys H4)
  (hd:∀ys H,Pv kvs.length ys H->∀l,H l=none->R l ys H):zD (Hz d o u kvs) fr tt te Z H1 R:=by
 refine{λi m ys H=>m=kvs.length -i/\i<=kvs.length/\Pv i ys H,{kvs.length,by simp,aP _,h0},?_};rintro i m ys H ⟨rfl,hi,p⟩;obtain⟨q,hy⟩:=hl i ys H hi p;by_cases bJ:i<kvs.length
 ·refine .inr {⟨q,bJ⟩,by lia,?_};rintro v H3 ⟨rfl,kv,jd,rfl⟩;exact hs i kv ys H3 (λjC H'=>∃m',m'<kvs.length -i/\m'=kvs.length -(i+1)/\i+1<=kvs.length/\Pv (i+1) jC H') jd p λjC H' p'=>{_,by lia,rfl,bJ,p'}
 ·have e:i=kvs.length:=by lia
  subst e;exact .inl {{q,ar _},by lia,hd ys H p}
end
def KZ(K:Frag)(H:Hp):List (Key×V)->List (Key×V)->Prop:=Paired λp q=>p.1=q.1/\∃d,Dt K H d p.2/\Dt K H d q.2/\SeqAt.shaped d=true/\PyData.eqv d d=true
inductive aah(K:Frag)(neg:Bool)(x:V)(y:V)(H:Hp)(Q:VK):Prop
 |mk a b ka kb (_:x=.ref a) (_:y=.ref b) (_:H a=some (.dK ka)) (_:H b=some (.dK kb)) (_:KZ K H ka kb) (_:Q (.bl (!neg)) H)
section
variable{X:Cx}
def MZ(hu:X.A.units+96<cLine)(I:Inv X pins Z H s)(nd:(kb.map (·.1)).Nodup):∀{ka kb':List (Key×V)}{va vb:List (Key×Value)},KZ X.K H ka kb'->KV ka va->KV kb' vb->(∀p∈vb,p∈kb)->PySem.W.KeqHits X.A.in1 s kb va true:=by
 intro ka kb' va vb h
 induction h generalizing va vb with
 |nil=>
  intro r1 r2 _;cases r1;exact .nil
 |@cons p q ps qs hr _ ih=>
  intro r1 r2 hm;cases r1 with
  |@cons _ a _ as h1 t1=>
   cases r2 with
   |@cons _ b _ bs h2 t2=>
    obtain⟨e,d,d1,d2,sh,ev⟩:=hr;obtain⟨k,v⟩:=a;obtain⟨k',v'⟩:=b;have ek:=h1.1.symm.trans (e.trans h2.1);subst ek;obtain⟨as1,ra⟩:=pP I d p.2 v d1 h1.2;obtain⟨bs1,rb⟩:=pP I d q.2 v' d2 h2.2;have at':=PySem.W.keq_at ra rb sh sh (show X.A.units+1+64<cLine by lia);rw[ev]at at';obtain⟨i,hi⟩:=dy.mp (hm (k,v') aA);exact .hit (valueAt_of_get nd hi) at' (ih t1 t2 λx hx=>hm x (aB _ hx))
def aas(hu:X.A.units+96<cLine):jh X (compareOp .Eq) (aah X.K false):=by
 intro pins s Z H x y v u Q I rx ry h;obtain⟨a,b,ka,kb,rfl,rfl,ha,hb,hs,q⟩:=h;cases rx;cases ry;obtain⟨_,la,va,ra,da⟩:=oB I.br ha;obtain⟨_,lb,vb,rb,db⟩:=oB I.br hb;have le:va.length=vb.length:=by rw[<-ra.length,<-rb.length];exact hs.length
 refine PySem.W.keq_eq (r:=true) la lb da db ∅ (λ_=>MZ hu I ?_ hs ra rb λ_ h=>h) ?_
 ·obtain⟨_,_,_,_,_,_,_,_,nd⟩:=db;exact nd
 ·rw[le];simp only[Gk,gO];exact{.bl true,H,I,rfl,q}
def aao(hu:X.A.units+96<cLine):jh X (compareOp .NotEq) (aah X.K true):=by
 intro pins s Z H x y v u Q I rx ry h;obtain⟨a,b,ka,kb,rfl,rfl,ha,hb,hs,q⟩:=h;cases rx;cases ry;obtain⟨_,la,va,ra,da⟩:=oB I.br ha;obtain⟨_,lb,vb,rb,db⟩:=oB I.br hb;have le:va.length=vb.length:=by rw[<-ra.length,<-rb.length];exact hs.length
 refine PySem.W.keq_ne la lb da db ∅ (λ_=>MZ hu I ?_ hs ra rb λ_ h=>h) ?_
 ·obtain⟨_,_,_,_,_,_,_,_,nd⟩:=db;exact nd
 ·rw[le];simp only[Gk,gO,iI];exact{.bl false,H,I,rfl,q}
def qB(r:Aah):PyData:=.tuple (r.map PyData.str)
def kh(rows:Aab):PyData:=.list (rows.map qB)
def qX(rows:Aab):Prop:=∀r∈rows,∀z∈r,PyData.strOk z=true
variable{K:Frag}{H:Hp}
def abz(h:∃a,y=.ref a/\bF K H a (r.map V.str)):Dt K H (qB r) y:=by obtain⟨a,rfl,h⟩:=h;unfold qB;rw[Dt];exact{a,_,rfl,h,Fl r}
def O3:∀{ys:Aao}{rows:Aab},cT K H ys rows->lY K H (rows.map qB) ys:=by
 intro ys rows h
 induction h with
 |nil=>rw[ji,lY]
 |cons hr _ ih=>
  rw[aU,lY];exact{_,_,rfl,abz hr,ih}
def yg(h:bo K H p ys)(hr:cT K H ys rows):Dt K H (kh rows) (.ref p):=by unfold kh;rw[Dt];exact{p,ys,rfl,h,O3 hr}
def YE(r t:Aah):PyData.eqv (qB r) (qB t)=decide (r=t):=by unfold qB;rw[PyData.eqv,C7]
theorem C8:∀a b:Aab,PyData.eqvAll (a.map qB) (b.map qB)=decide (a=b)
 |[],[]=>by simp[PyData.eqvAll]
 |[],_::_=>by simp[PyData.eqvAll]
 |_::_,[]=>by simp[PyData.eqvAll]
 |a::r,b::t=>by simp only[aU,PyData.eqvAll,YE,C8 r t];by_cases h:a=b<;>by_cases h':r=t<;>simp[h,h']
def DS(a b:Aab):PyData.eqv (kh a) (kh b)=decide (a=b):=by unfold kh;rw[PyData.eqv,C8]
theorem DH:∀rows:Aab,qX rows->PyData.canLayAll0 (rows.map qB)=true
 |[],_=>rfl
 |z::r,h=>by have h1:(qB z).canLay0=true:=JU z (h z aA);have h2:=DH r λy hy=>h y (aB _ hy);simp[PyData.canLayAll0,h1,h2]
theorem zb:∀rows:Aab,PyData.depthAll (rows.map qB)<=1
 |[]=>by simp[PyData.depthAll]
 |z::r=>by
  have h1:(qB z).depth=1:=by simp[qB,PyData.depth,Fn]
  have:=zb r;simp[PyData.depthAll,h1];lia
def CG(h:qX rows):SeqAt.shaped (kh rows)=true:=by have:=zb rows;simp[SeqAt.shaped,kh,PyData.canLay0,PyData.depth,DH rows h];lia
end
def cT.keep{K:Frag}(h:cT K H ys rows)(k:∀a xs,bF K H a xs->bF K H' a xs):cT K H' ys rows:=by
 induction h with
 |nil=>exact .nil
 |cons hr _ ih=>
  obtain⟨a,e,hr⟩:=hr;exact .cons {a,e,k _ _ hr} ih
inductive NK:Type
 |cE
 |key (k:Key)
 |tup (ks:List NK)
noncomputable instance:DecidableEq NK:=λa b=>Classical.propDecidable (a=b)
section
variable(P:Program)(w:World)
mutual
inductive kY(h:Heap):NK->Value->Prop
 |cE:kY h .cE .none
 |key {k:Key} {v:Value}:(bH P w).is k v=true->kY h (.key k) v
 |tup {ks:List NK} {a:Addr} {o:Obj} {items:Aal} {n:Nat}:h.get? a=some o->o.cls=.type "tuple"->o.data=.seq items n->lH h ks items.toList->kY h (.tup ks) (.ref a)
inductive lH(h:Heap):List NK->Aag->Prop
 |nil:lH h [] []
 |cons {k:NK} {v:Value} {ks:List NK} {vs:Aag}:kY h k v->lH h ks vs->lH h (k::ks) (v::vs)
end
mutual
def NK.hash:NK->Int
 | .cE=>0xFCA86420
 | .key k=>(bH P w).hash k
 | .tup ks=>reduceHash (Builtin.Tuple.tupleHashOf (NK.hashes ks))
def NK.hashes:List NK->List Int
 |[]=>[]
 |k::ks=>NK.hash k::NK.hashes ks
end
mutual
def NK.draws:NK->Nat
 | .cE=>1
 | .key _=>1
 | .tup ks=>NK.nJ ks+1
def NK.nJ:List NK->Nat
 |[]=>0
 |k::ks=>NK.draws k+NK.nJ ks
end
mutual
def NK.deep:NK->Nat
 | .cE=>0
 | .key _=>0
 | .tup ks=>NK.oC ks+1
def NK.oC:List NK->Nat
 |[]=>0
 |k::ks=>max (NK.deep k) (NK.oC ks)
end
end
section
variable{P:Program}{w:World}{A:Around}{E:Aae}{s:Shared}
def ON(q:Q 0xFCA86420 {s with toks:=s.toks+1}):wpAny (-29) A (pyHash .none) Q E s:=by have ty:s.TypeIs .none "NoneType":=rfl;unfold pyHash pyHashByItsType;refine af (wpAny_cRoomFor_byValue rfl (af (ik ty jz.lookup ?_)));rw[az (by rw[beq_builtin_none];exact aW)];refine af (ik ty jz.lookup ?_);refine af (wpAny_callSpecialIfBoundUnlessNone?_slot ty jz (bz jz ty PySem.F.entry_NoneType_hash (show wpAny _ _ (do ret (<-mkInt 0xFCA86420)) _ _ s from wpAny_ret_mkInt ?_) (PySem.F.args_NoneType_hash_1 _)));exact ao q
def NK.Ux(ks:List NK):NK.hash P w (.tup ks)=reduceHash (Builtin.Tuple.tupleHashOf (NK.hashes P w ks)):=by rw[NK.hash]
def RB(hu:A.units<cLine)(ho:s.heap.get? a=some o)(hc:o.cls=.type "tuple")(hd:o.data=.seq items n)(hi:lH P w s.heap ks items.toList)
  (ih:∀(A':Around)(k:NK)(v:Value)(t:Nat)(E':Aae)(R:Int->Shared->Prop),A'.units<=A.units+4->k∈ks->kY P w s.heap k v->R (NK.hash P w k) {s with toks:=t+NK.draws k}->wpAny (-29) A' (pyHash v) R E' {s with toks:=t})
  (h:Q (NK.hash P w (.tup ks)) {s with toks:=s.toks+NK.draws (.tup ks)}):wpAny (-29) A (pyHash (-51)) Q E s:=by
 have hT:s.TypeIs (-51) "tuple":=⟨o,ho,hc⟩;unfold pyHash pyHashByItsType;refine af (wpAny_cRoomFor_or (.inr hu) ?_);refine af (ik hT k7.lookup ?_);rw[az (by rw[beq_builtin_none];exact aW)];refine af (ik hT k7.lookup ?_);refine af (wpAny_callSpecialIfBoundUnlessNone?_slot hT k7 (bz k7 hT F.entry_tuple_hash ?_ (F.args_tuple_hash_1 _)));show wpAny _ _ (Builtin.Tuple.tupleItemsOf (-51)>>=_) _ _ s;refine af (wpAny_tupleItemsOf ho hd ?_);refine af ?_;rw[<-oh];refine jS _
  (λrest(b:Array Int) s'=>∃done left,ks=done++left/\lH P w s.heap left rest/\b.toList=NK.hashes P w done/\s'={s with toks:=s.toks+NK.nJ done})
  _ ?_ ?_ _ _ {[],ks,rfl,hi,by simp[NK.hashes],by simp[NK.nJ]}
 ·rintro x rest b s' ⟨done,left,e,hl,hb,rfl⟩;cases hl with
  |@cons k _ ks' _ h1 qM=>
   have e2:NK.hashes P w (done++[k])=NK.hashes P w done++[NK.hash P w k]:=by
    clear e hb
    induction done with
    |nil=>simp[NK.hashes]
    |cons a r Q8=>simp only[lX,NK.hashes,Q8]
   have e3:NK.nJ (done++[k])=NK.nJ done+NK.draws k:=by
    clear e hb e2
    induction done with
    |nil=>simp[NK.nJ]
    |cons a r Q8=>simp only[lX,NK.nJ,Q8];lia
   refine af (ih _ k x _ _ _ ?_ (by rw[e];simp) h1 ?_)
   ·show A.units+1<=A.units+4;lia
   ·exact ao {done++[k],ks',by rw[e];simp,qM,by simp[hb,e2],by rw[e3,pN]}
 ·rintro b s' ⟨done,left,rfl,hl,hb,rfl⟩;cases hl;rw[b6]at h;show wpAny _ _ (retInt (Builtin.Tuple.tupleHashOf b.toList)) _ _ _;rw[hb];refine wpAny_ret_mkInt ?_;show wpAny _ _ (if(decide (-(2:Int)^63<=Builtin.Tuple.tupleHashOf (NK.hashes P w done))&&decide (Builtin.Tuple.tupleHashOf (NK.hashes P w done)<2^63))=true then _ else _) Q E _;rw[NK.Ux,NK.draws]at h;unfold reduceHash at h;by_cases hr:(decide (-(2:Int)^63<=Builtin.Tuple.tupleHashOf (NK.hashes P w done))&&decide (Builtin.Tuple.tupleHashOf (NK.hashes P w done)<2^63))=true
  ·rw[aC hr];rw[aC hr]at h;exact ao (by simpa[pN]using h)
  ·rw[az hr];rw[az hr]at h;exact af (fP (ao (by simpa[pN]using h)))
mutual
theorem RC:∀(k:NK)(A:Around)(E:Aae)(s:Shared)(v:Value)(Q:Int->Shared->Prop),A.units+4*NK.deep k<cLine->kY P w s.heap k v->Q (NK.hash P w k) {s with toks:=s.toks+NK.draws k}->wpAny (-29) A (pyHash v) Q E s
 | .cE,A,E,s,v,Q,hu,r,q=>by cases r;rw[NK.hash,NK.draws]at q;exact ON q
 | .key k,A,E,s,v,Q,hu,r,q=>by
  cases r with
  |key h=>
   rw[NK.hash,NK.draws]at q;exact(bH P w).pyHash h q
 | .tup ks,A,E,s,v,Q,hu,r,q=>by
  cases r with
  |tup ho hc hd hi=>
   rw[NK.deep]at hu;exact RB ∅ ho hc hd hi (λA' k v t E' R hA hk r q=>Kq ks k hk A' E' {s with toks:=t} v R ∅ r q) q
theorem Kq:∀(ks:List NK)(k:NK),k∈ks->∀(A:Around)(E:Aae)(s:Shared)(v:Value)(Q:Int->Shared->Prop),A.units+4*NK.oC ks<cLine->kY P w s.heap k v->Q (NK.hash P w k) {s with toks:=s.toks+NK.draws k}->wpAny (-29) A (pyHash v) Q E s
 |[],k,h,A,E,s,v,Q,hu,r,q=>by cases h
 |k0::ks,k,h,A,E,s,v,Q,hu,r,q=>by
  rw[NK.oC]at hu;rcases aG.mp h with e|h
  ·rw[e]at r q;exact RC k0 A E s v Q ∅ r q
  ·exact Kq ks k h A E s v Q ∅ r q
end
end
section
variable{P:Program}{w:World}
mutual
theorem Mm:∀(k:NK)(n:Nat)(A:Around)(E:Aae)(s:Shared)(v:Value)(Q:Bool->Shared->Prop),kY P w s.heap k v->NK.deep k<=n->Q true s->wpAny (-29) A (eqIsQuiet n v) Q E s
 | .cE,n,A,E,s,v,Q,r,_,q=>by cases r;rw[Ci n rfl];exact ao q
 | .key k,n,A,E,s,v,Q,r,_,q=>by
  cases r with
  |key h=>
   rw[Ci n ((bH P w).byValue _ _ h)];exact ao q
 | .tup ks,0,A,E,s,v,Q,r,hn,q=>by rw[NK.deep]at hn;exact absurd hn ∅
 | .tup ks,n+1,A,E,s,v,Q,r,hn,q=>by
  cases r with
  |@tup _ a o items m ho hc hd hi=>
   rw[NK.deep]at hn;have hT:s.TypeIs (-51) "tuple":=⟨o,ho,hc⟩;unfold eqIsQuiet;refine af (ik hT F.slot_tuple_eq.lookup ?_);show wpAny _ _ (isInstance (-51) (.type "tuple")>>=_) _ _ s;refine af (f6 hT isSubtype_tuple_tuple ?_);simp only[iI,cw,d6];refine af (bY ho hd ?_);refine af ?_;show wpAny _ _ (forIn items _ _) _ _ s;rw[<-oh];refine jS _ (λrest r s'=>r.1=none/\s'=s/\∃left,lH P w s.heap left rest/\∀k∈left,k∈ks) _ ?_ ?_ _ _ {rfl,rfl,ks,hi,λ_ h=>h}
   ·rintro v rest r s' ⟨hr,rfl,left,hl,hm⟩;cases hl with
    |@cons k _ ks' _ h1 qM=>
     refine af (GK ks k (hm k aA) n _ _ _ v _ h1 ∅ ?_);simp only[iI,cw,d6];exact ao {rfl,rfl,ks',qM,λk' Kk=>hm k' (aB _ Kk)}
   ·rintro⟨r1,r2⟩ s' ⟨hr,rfl,_⟩;simp only at hr;subst hr;exact ao q
theorem GK:∀(ks:List NK)(k:NK),k∈ks->∀(n:Nat)(A:Around)(E:Aae)(s:Shared)(v:Value)(Q:Bool->Shared->Prop),kY P w s.heap k v->NK.oC ks<=n->Q true s->wpAny (-29) A (eqIsQuiet n v) Q E s
 |[],k,h,n,A,E,s,v,Q,r,hn,q=>by cases h
 |k0::ks,k,h,n,A,E,s,v,Q,r,hn,q=>by
  rw[NK.oC]at hn;rcases aG.mp h with e|h
  ·rw[e]at r;exact Mm k0 n A E s v Q r ∅ q
  ·exact GK ks k h n A E s v Q r ∅ q
end
mutual
def NK.toD:NK->PyData
 | .cE=>.none
 | .key (.inl i)=>.int i
 | .key (.inr z)=>.str z
 | .tup ks=>.tuple (NK.mK ks)
def NK.mK:List NK->List PyData
 |[]=>[]
 |k::ks=>NK.toD k::NK.mK ks
end
mutual
theorem FO:∀(k:NK){h:Heap}{v:Value},kY P w h k v->∃as,Reads h v (NK.toD k) as
 | .cE,h,v,r=>by cases r;rw[NK.toD];exact{_,.none}
 | .key (.inl i),h,v,r=>by
  cases r with
  |key q=>
   obtain⟨t,rfl⟩:=(show RelV (.int i) v from rM (k:=Sum.inl i) q);rw[NK.toD];exact{_,.int i t}
 | .key (.inr z),h,v,r=>by
  cases r with
  |key q=>
   obtain⟨t,rfl⟩:=(show RelV (.str z) v from rM (k:=Sum.inr z) q);rw[NK.toD];exact{_,.str z t}
 | .tup ks,h,v,r=>by
  cases r with
  |tup ho hc hd hi=>
   obtain⟨as,q⟩:=IV ks hi;rw[NK.toD];exact{_,.tuple ho hc hd q}
theorem IV:∀(ks:List NK){h:Heap}{vs:Aag},lH P w h ks vs->∃as,ReadsAll h vs (NK.mK ks) as
 |[],h,vs,r=>by cases r;rw[NK.mK];exact{_,.nil}
 |k::ks,h,vs,r=>by
  cases r with
  |cons r1 r2=>
   obtain⟨as,q1⟩:=FO k r1;obtain⟨bs,q2⟩:=IV ks r2;rw[NK.mK];exact{_,.cons q1 q2}
end
mutual
theorem WY:∀(x y:NK),PyData.eqv (NK.toD x) (NK.toD y)=true↔x=y
 | .cE,.cE=>by simp[NK.toD,PyData.eqv]
 | .cE,.key (.inl _)=>by simp[NK.toD,PyData.eqv]
 | .cE,.key (.inr _)=>by simp[NK.toD,PyData.eqv]
 | .cE,.tup _=>by simp[NK.toD,PyData.eqv]
 | .key (.inl _),.cE=>by simp[NK.toD,PyData.eqv]
 | .key (.inl i),.key (.inl j)=>by simp[NK.toD,PyData.eqv]
 | .key (.inl _),.key (.inr _)=>by simp[NK.toD,PyData.eqv]
 | .key (.inl _),.tup _=>by simp[NK.toD,PyData.eqv]
 | .key (.inr _),.cE=>by simp[NK.toD,PyData.eqv]
 | .key (.inr _),.key (.inl _)=>by simp[NK.toD,PyData.eqv]
 | .key (.inr a),.key (.inr b)=>by simp[NK.toD,PyData.eqv]
 | .key (.inr _),.tup _=>by simp[NK.toD,PyData.eqv]
 | .tup _,.cE=>by simp[NK.toD,PyData.eqv]
 | .tup _,.key (.inl _)=>by simp[NK.toD,PyData.eqv]
 | .tup _,.key (.inr _)=>by simp[NK.toD,PyData.eqv]
 | .tup xs,.tup ys=>by rw[NK.toD,NK.toD,PyData.eqv,RQ xs ys];exact{bU NK.tup,λh=>by injection h}
theorem RQ:∀(xs ys:List NK),PyData.eqvAll (NK.mK xs) (NK.mK ys)=true↔xs=ys
 |[],[]=>by simp[NK.mK,PyData.eqvAll]
 |[],_::_=>by simp[NK.mK,PyData.eqvAll]
 |_::_,[]=>by simp[NK.mK,PyData.eqvAll]
 |x::xs,y::ys=>by rw[NK.mK,NK.mK,PyData.eqvAll,bB,WY x y,RQ xs ys];simp
end
def CW(h:(bH P w).is k (-51)=true):False:=by have:=(bH P w).byValue _ _ h;cases this
def A5(h:(bH P w).is k .none=true):False:=by
 have:=rM (k:=k) h;cases k with
 |inl i=>obtain⟨t,e⟩:=(show∃t,Value.none=Value.int i t from this);cases e
 |inr z=>obtain⟨t,e⟩:=(show∃t,Value.none=Value.str z t from this);cases e
mutual
theorem V9:∀(x y:NK){h:Heap}{v:Value},kY P w h x v->kY P w h y v->x=y
 | .cE,y,h,v,r1,r2=>by
  cases r1;cases r2 with
  |cE=>rfl
  |key q=>exact(A5 q).elim
 | .key k,y,h,v,r1,r2=>by
  cases r1 with
  |key q=>
   cases r2 with
   |cE=>exact(A5 q).elim
   |key q2=>rw[(bH P w).inj _ _ _ q q2]
   |tup=>exact(CW q).elim
 | .tup ks,y,h,v,r1,r2=>by
  cases r1 with
  |tup ho hc hd hi=>
   cases r2 with
   |key q=>exact(CW q).elim
   |@tup ks2 _ o2 xT n2 zU ya hd2 Ww=>
    rw[ho]at zU;cases zU;rw[hd]at hd2;injection hd2 with e1 _;subst e1;rw[Q4 ks ks2 hi Ww]
theorem Q4:∀(xs ys:List NK){h:Heap}{vs:Aag},lH P w h xs vs->lH P w h ys vs->xs=ys
 |[],ys,h,vs,r1,r2=>by cases r1;cases r2;rfl
 |x::xs,ys,h,vs,r1,r2=>by
  cases r1 with
  |cons a b=>
   cases r2 with
   |@cons y _ ys _ c d=>rw[V9 x y a c,Q4 xs ys b d]
end
mutual
theorem QY(h h':Heap)(k:∀b o,(∀es ep,o.data≠ .dict es ep)->h.get? b=some o->h'.get? b=some o):∀(x:NK){v:Value},kY P w h x v->kY P w h' x v
 | .cE,v,r=>by cases r;exact .cE
 | .key _,v,r=>by
  cases r with
  |key q=>exact .key q
 | .tup ks,v,r=>by
  cases r with
  |tup ho hc hd hi=>exact .tup (k _ _ (λes ep e=>by rw[hd]at e;cases e) ho) hc hd (MF h h' k ks hi)
theorem MF(h h':Heap)(k:∀b o,(∀es ep,o.data≠ .dict es ep)->h.get? b=some o->h'.get? b=some o):∀(xs:List NK){vs:Aag},lH P w h xs vs->lH P w h' xs vs
 |[],vs,r=>by cases r;exact .nil
 |x::xs,vs,r=>by
  cases r with
  |cons a b=>exact .cons (QY h h' k x a) (MF h h' k xs b)
end
def abK(P:Program)(w:World)(h:Heap)(k:NK)(a:Addr):Prop:=kY P w h k (-51)/\(NK.toD k).canLay0=true/\(NK.toD k).depth<=7/\NK.deep k<=7
noncomputable def ny(P:Program)(w:World):HeapKind P w NK where
 is:=abK P w
 hash:=NK.hash P w
 draws:=NK.draws
 room:=λA=>A.units+100<cLine
 inj:=λhx hy=>V9 _ _ hx.1 hy.1
 keeps:=λx ho hd hs=>{QY _ _ (λb o' n e=>by refine(hs.2 b ?_).trans e;rintro rfl;rw[ho]at e;cases e;exact n _ _ hd) _ x.1,x.2}
 pyHash:=λhu hk h=>RC _ _ _ _ _ _ (by have:=hk.2.2.2;lia) hk.1 h
 eqBool:=λ{A E s x y a b Q} hu hx hy h=>by
  obtain⟨as,r1⟩:=FO x hx.1;obtain⟨bs,r2⟩:=FO y hy.1;have e:PyData.eqv (NK.toD x) (NK.toD y)=decide (x=y):=by rw[fV,WY,jf]
  have:=SeqAt.eqAt_reads _ _ A s _ _ as bs r1 r2 hx.2.1 hy.2.1 (by have:=hx.2.2.1;have:=Nat.min_le_left (NK.toD x).depth (NK.toD y).depth;lia);rw[e]at this;exact this P w E Q h
 quiet:=λhk h=>Mm _ 8 _ _ _ _ _ hk.1 (by have:=hk.2.2.2;lia) h
end
def DN(P:Program)(w:World)(d:Addr)(kvs:List (-53)):Heap->Prop:=λh=>(d==sysModules)=false/\∃xs:List (NK×Addr×Value),Paired (-10) kvs xs/\kvs.length<=10000000/\
 ∃o es ep,h.get? d=some o/\o.ExactDict/\o.data=.dict es ep/\es.toList=xs.map (entryOfKey (ny P w))/\(xs.map (·.1)).Nodup
def O4(x:DN P w d kvs h):dG P w H h d (.ext (DN P w d kvs)):=
 {x,let⟨_,_,_,_,o,_,_,q,_⟩:=x;⟨o,q⟩,λ_ _ ⟨l,xs,p,n,o,es,ep,q,r⟩ k=>{l,xs,p,n,o,es,ep,k _ q,r}}
mutual
def NV(K:Frag)(H:Hp):NK->V->Prop
 | .cE,v=>v=.cE
 | .key k,v=>v=kV k
 | .tup ks,v=>∃a xs,v=.ref a/\bF K H a xs/\pE K H ks xs
def pE(K:Frag)(H:Hp):List NK->Aao->Prop
 |[],xs=>xs=[]
 |k::ks,xs=>∃x r,xs=x::r/\NV K H k x/\pE K H ks r
end
section
variable{X:Cx}{pins:Aac}{Z:St}{H:Hp}{s:Shared}
mutual
theorem JG(I:Inv X pins Z H s):∀(k:NK)(v:V)(u:Value),NV X.K H k v->RelV v u->kY X.prog X.w s.heap k u
 | .cE,v,u,h,r=>by rw[NV]at h;subst h;cases(show u=Value.none from r);exact .cE
 | .key k,v,u,h,r=>by rw[NV]at h;subst h;exact .key (wq r)
 | .tup ks,v,u,h,r=>by rw[NV]at h;obtain⟨a,xs,rfl,hq,ha⟩:=h;cases r;obtain⟨aY,rv,⟨o,e,c,n,d⟩,_⟩:=I.tuple hq;exact .tup e c d (by simpa using GR I ks xs aY ha rv)
theorem GR(I:Inv X pins Z H s):∀(ks:List NK)(xs:Aao)(us:Aag),pE X.K H ks xs->Vals xs us->lH X.prog X.w s.heap ks us
 |[],xs,us,h,r=>by rw[pE]at h;subst h;cases r;exact .nil
 |k::ks,xs,us,h,r=>by
  rw[pE]at h;obtain⟨x,t,rfl,h1,h2⟩:=h;cases r with
  |cons r1 r2=>exact .cons (JG I k x _ h1 r1) (GR I ks t _ h2 r2)
end
def Xa(k:NK):Prop:=(NK.toD k).canLay0=true/\(NK.toD k).depth<=7/\NK.deep k<=7
end
def jA(K:Frag)(H:Hp)(k:NK)(a:Addr):Prop:=NV K H k (-51)/\Xa k
def gn(P:Program)(w:World)(K:Frag)(H:Hp)(a:Addr)(kvs:List (-53)):Prop:=(H a=some (.ext (DN P w a kvs))\/(kvs=[]/\H a=some (.dK [])))/\∀p∈kvs,jA K H p.1 p.2.1
def valN(kvs:List (-53))(k:NK):Aap:=(kvs.find? λp=>decide (p.1=k)).map (·.2.2)
def putN(kvs:List (-53))(k:NK)(a:Addr)(v:V):List (-53):=if(valN kvs k).isSome then kvs.map (λp=>if p.1=k then(p.1,p.2.1,v)else p)else kvs++[(k,a,v)]
def xE(rel:Paired (-10) kvs xs)(k:NK):lG (valN kvs k) ((atKey xs k).map (·.2)):=by
 unfold valN atKey
 induction rel with
 |nil=>exact trivial
 |@cons p q ps qs h _ ih=>
  by_cases c:p.1=k
  ·rw[dW (p:=λp:NK×Addr×V=>decide (p.1=k)) (bp c),dW (p:=λx:NK×Addr×Value=>decide (x.1=k)) (bp (h.1.symm.trans c))];exact h.2.2
  ·rw[dX (p:=λp:NK×Addr×V=>decide (p.1=k)) (λd=>c (bj d)),dX (p:=λx:NK×Addr×Value=>decide (x.1=k)) (λd=>c (h.1.trans (bj d)))];exact ih
section
variable{X:Cx}{pins:Aac}{Z:St}{H:Hp}{s:Shared}{A:Around}{E:Aae}{a b:Addr}{kvs:List (NK×Addr×V)}{k:NK}{v:V}
def Inv.DI(I:Inv X pins Z H s)(h:jA X.K H k b):(ny X.prog X.w).is s.heap k b:={JG I k (.ref b) (.ref b) h.1 rfl,h.2}
def Inv.qP(I:Inv X pins Z H s)(h:gn X.prog X.w X.K H a kvs):(a==sysModules)=false/\∃xs,Paired (-10) kvs xs/\kvs.length<=10000000/\s.heap.DictOfH (ny X.prog X.w) a xs:=by
 obtain⟨h1,h2⟩:=h;have keys:∀{l:List (-53)}{xs:List (NK×Addr×Value)},Paired (-10) l xs->(∀p∈l,jA X.K H p.1 p.2.1)->∀x∈xs,(ny X.prog X.w).is s.heap x.1 x.2.1:=λr=>by
  induction r with
  |nil=>intro _ x hx;cases hx
  |@cons p q ps qs h _ ih=>
   intro hk x hx;rcases aG.mp hx with rfl|hx
   ·rw[<-h.1,<-h.2.1];exact I.DI (hk p aA)
   ·exact ih (λp hp=>hk p (aB _ hp)) x hx
 rcases h1 with h1|⟨rfl,h1⟩
 ·obtain⟨⟨lo,xs,rel,hl,o,es,ep,g,hx,hd,he,nd⟩,_⟩:=(show dG X.prog X.w H s.heap a (.ext (DN X.prog X.w a kvs))from I.br a _ h1);exact{lo,xs,rel,hl,o,es,ep,g,hx,hd,he,keys rel h2,nd}
 ·obtain⟨_,lo,vs,rel,o,es,ep,g,hx,hd,_,hp,_⟩:=oB I.br h1;unfold KV at rel;cases rel;have e0:es.toList=[]:=by have:=hp.length;exact ff.mp this
  exact{lo,[],.nil,aP _,o,es,ep,g,hx,hd,by rw[e0];rfl,λx h=>(by cases h),fI}
def abD(hu:A.units+101<cLine)(I:Inv X pins Z H s)(h:gn X.prog X.w X.K H a kvs)(hk:jA X.K H k b)(hv:valN kvs k=some v)(q:∀w' s',Inv X pins Z H s'->RelV v w'->Q w' s'):wpAny (-6) A (getItem (-51) (.ref b)) Q E s:=by obtain⟨lo,xs,rel,hl,dd⟩:=I.qP h;obtain⟨w',hw,pf⟩:=lG.some_of (by rw[<-hv];exact xE rel k);obtain⟨p,hp,iU⟩:=aX.mp hw;refine Aq (show A.units+1+100<cLine by lia) (I.DI hk) dd hp ?_;rw[iU];exact q w' _ (I.tok _) pf
def UM(hu:A.units+101<cLine)(I:Inv X pins Z H s)(h:gn X.prog X.w X.K H a kvs)(hk:jA X.K H k b)(q:∀s',Inv X pins Z H s'->Q (.bool (!(valN kvs k).isSome)) s'):wpAny (-6) A (compareOp .NotIn (.ref b) (-51)) Q E s:=by obtain⟨lo,xs,rel,hl,dd⟩:=I.qP h;refine wpAny_notIn_heap (show A.units+1+100<cLine by lia) (I.DI hk) lo dd ?_;have e:=(xE rel k).sS;rw[jH]at e;rw[<-e];exact q _ (I.tok _)
def DB(rel:Paired (-10) kvs xs)(rv:RelV v r):Paired (-10) (putN kvs k b v) (storedH xs k b r):=by
 have e:=(xE rel k).sS;rw[jH]at e;unfold putN storedH;rw[e];split
 next hs=>
  clear e hs
  induction rel with
  |nil=>exact .nil
  |@cons p q ps qs h _ ih=>
   refine .cons ?_ ih;unfold putAt;show(if p.1=k then(p.1,p.2.1,v)else p).1=(if q.1=k then(q.1,q.2.1,r)else q).1/\(if p.1=k then(p.1,p.2.1,v)else p).2.1=(if q.1=k then(q.1,q.2.1,r)else q).2.1/\RelV (if p.1=k then(p.1,p.2.1,v)else p).2.2 (if q.1=k then(q.1,q.2.1,r)else q).2.2;by_cases c:p.1=k
   ·rw[aC c,aC (h.1.symm.trans c)];exact{h.1,h.2.1,rv}
   ·rw[az c,az (λd=>c (h.1.trans d))];exact h
 next=>exact kQ rel ⟨rfl,rfl,rv⟩
def vg:(putN kvs k b v).length<=kvs.length+1:=by
 unfold putN;split
 ·rw[ak];lia
 ·rw[aO];exact ar _
def abA(hu:A.units+101<cLine)(I:Inv X pins Z H s)(h:gn X.prog X.w X.K H a kvs)(hk:jA X.K H k b)(pk:kvs.length<10000000)(rv:RelV v r)
  (q:∀s',Inv X pins Z (upd H a (.ext (DN X.prog X.w a (putN kvs k b v)))) s'->Q () s'):wpAny (-6) A (setItem (-51) (.ref b) r) Q E s:=by
 obtain⟨lo,xs,rel,hl,dd⟩:=I.qP h;have lx:xs.length<=sizeLine:=by rw[<-rel.length,b8];lia
 refine Ap (show A.units+1+100<cLine by lia) (I.DI hk) dd λh' vH hs=>q _ ?_;obtain⟨o,es,ep,g,h2,h3,h4,_,h5⟩:=vH;have lp:=vg (kvs:=kvs) (k:=k) (b:=b) (v:=v);refine uU I ?_ hs ⟨o,g⟩ (O4 {lo,_,DB rel rv,by lia,o,es,ep,g,h2,h3,h4,h5});rcases h.1 with e|⟨_,e⟩<;>rw[e]<;>exact True.intro
end
inductive Xx(P:Program)(w:World)(K:Frag)(Q:VK)(x:V)(y:V)(H2:Hp):Prop
 |mk a b kvs k v (_:x=.ref a) (_:y=.ref b) (_:gn P w K H2 a kvs) (_:jA K H2 k b) (_:valN kvs k=some v) (_:Q v H2)
def ZK(P:Program)(w:World)(K:Frag)(td ty:TE):TE:=λZ H Q=>td Z H λx H1=>ty Z H1 λy H2=>Xx P w K Q x y H2
inductive adh(P:Program)(w:World)(K:Frag)(neg:Bool)(x:V)(y:V)(H:Hp)(Q:VK):Prop
 |mk a b kvs k (_:x=.ref b) (_:y=.ref a) (_:gn P w K H a kvs) (_:jA K H k b) (_:Q (.bl (if neg then !(valN kvs k).isSome else(valN kvs k).isSome)) H)
inductive XG(P:Program)(w:World)(K:Frag)(D:Ends)(Z:St)(v:V)(x:V)(y:V)(H3:Hp):Prop
 |mk a b kvs k (_:x=.ref a) (_:y=.ref b) (_:gn P w K H3 a kvs) (_:jA K H3 k b) (_:kvs.length<10000000) (_:D.nx Z (upd H3 a (.ext (DN P w a (putN kvs k b v)))))
def ZX(P:Program)(w:World)(K:Frag)(td ty tv:TE):TS:=λD Z H=>tv Z H λv H1=>td Z H1 λx H2=>ty Z H2 λy H3=>XG P w K D Z v x y H3
section
variable{X:Cx}{o i value:Expr}{pos pos':Pos}{td ty tv:TE}
def abV(I:Inv X pins Z H s)(h:gn X.prog X.w X.K H a kvs):s.TypeIs (-51) "dict":=by obtain⟨_,_,_,_,o,_,_,g,hx,_⟩:=I.qP h;exact{o,g,hx.1}
def Tr(hu:X.A.units+101<cLine)(ho:PE X o td)(hi:PE X i ty)(hs:U6 i):PE X (.Subscript o i pos) (ZK X.prog X.w X.K td ty):=by intro pins s Z H Q I h;refine LZ PySem.F.slot_dict_getitem.lookup hs (df (ho pins s Z H _ I h) λu s1 x H1 I1 rx q1=>df (hi pins s1 Z H1 _ I1 q1) λiv s2 y H2 I2 ry adM=>?_);obtain⟨a,b,kvs,k,v,ex,ey,g,hk,hv,q2⟩:=adM;subst ex ey;obtain rfl:u=Value.ref a:=rx;obtain rfl:iv=Value.ref b:=ry;exact{abV I2 g,abD hu I2 g hk hv λw' s3 I3 pf=>⟨v,H2,I3,pf,q2⟩}
def Qm(hu:X.A.units+101<cLine):jh X (compareOp .NotIn) (adh X.prog X.w X.K true):=by intro pins s Z H x y v u Q I rx ry h;obtain⟨a,b,kvs,k,rfl,rfl,g,hk,q⟩:=h;cases rx;cases ry;exact UM hu I g hk λs' I'=>{.bl _,H,I',rfl,q}
def Jd(hu:X.A.units+101<cLine)(ho:PE X o td)(hi:PE X i ty)(hv:PE X value tv)(hs:swapsWith value (some (.Subscript o i pos')) pos.line X.env=pure false):
  PS X (.Assign [.Subscript o i pos'] value pos) (ZX X.prog X.w X.K td ty tv):=by
 intro pins s Z H D I h;refine wN (df (hv pins s Z H _ I h) λr s1 v H1 I1 rv q1=>df (ho pins s1 Z H1 _ I1 q1) λu s2 x H2 I2 rx q2=>df (hi pins s2 Z H2 _ I2 q2) λiv s3 y H3 I3 ry adL=>?_) hs;obtain⟨a,b,kvs,k,ex,ey,g,hk,hl,q⟩:=adL;subst ex ey;obtain rfl:u=Value.ref a:=rx;obtain rfl:iv=Value.ref b:=ry;exact abA hu I3 g hk hl rv λs4 I4=>⟨Z,_,I4,q⟩
def Pd:jv X (.type "dict") (λxs H Q=>∃a kvs,xs=[.ref a]/\Rd H a (.dK kvs)/\∀p,H p=none->Q (.ref p) (upd H p (.dK kvs))):=by intro pins s Z H xs us Q I r h;obtain⟨a,kvs,rfl,ha,q⟩:=h;obtain⟨u,rfl,ru⟩:=lO r;cases ru;exact UQ I ha λp s' hp I'=>{.ref p,_,I',rfl,q p hp}
end
end L2
namespace L2
open PySem PySem.Spec PyProof.Rows
structure aeD(X:Cx)(scope:Scope)(x:Str)(fs:Aah)(fr:List Nat):Prop where
 kind:scope.kind=.function
 loc:scope.names.lookup x=some .cell
 names:∀y∈scope.names,y.2=.local->scope.names.lookup y.1=some .local
 one:∃a b,scope.names=a++(x,.cell)::b/\(∀y∈a,y.2≠ .cell)/\∀y∈b,y.2≠ .cell
 free:∀n∈frees scope,X.env.kindOf n=some .cell/\scope.names.lookup n=some .free
 nd:(x::fs).Nodup
 len:fr.length=fs.length
 slots:∀(j:Nat)(y:Str)(k:Nat),fs[j]?=some y->fr[j]?=some k->X.N[k]?=some y/\y∈frees scope
end L2
namespace L2
open PySem PySem.Spec PyProof.Rows Hw
section
variable{prog:Program}{w:World}{κ:Type}[DecidableEq κ]{kd:HeapKind prog w κ}{A:Around}{E:Aae}{s:Shared}
def Ex(hu:kd.room A)(lE:kd.is s.heap k a)(hm:s.heap.DictOfH kd d xs)
  (h1:∀p,atKey xs k=some p->Q p.2 {s with toks:=s.toks+kd.draws k})
  (h2:atKey xs k=none->∀h',h'.DictOfH kd d (storedH xs k a v)->Heap.SameBut d s.heap h'->Q v {s with heap:=h',toks:=s.toks+kd.draws k}) (hsz:xs.length<=sizeLine):
  wpAny (-5) A (dictSetDefault d (-51) v) Q E s:=by
 obtain⟨o,es,ep,ho,hc,hd,he,his,hn⟩:=hm;unfold dictSetDefault
 try with_reducible refine bP ?_
 have lz:=wg he;refine af (kd.pyHash hu lE (af (wpAny_dictFind_heap hu lE ho hd he his hn (λE2=>?_) (λj p hj=>?_))))
 ·have nk:=not_mem_keys_of_get E2;have e0:=atKey_none_of_get E2;have e1:=storedH_new e0;refine af (fP (af (wpAny_updateDictKeys ho hd (ao (h2 e0 _ {_,_,ep+1,cH _ ho (Obj.isFreed_of_dict (zo hd _)),hc.mapDictKeys _,zo hd _,?_,?_,?_} (bT ..))))))
  ·rw[e1,aJ,<-he];simp[entryOfKey]
  ·rw[e1];intro x hx;rcases bf.mp hx with q|q
   ·exact kd.keeps (his x q) ho hd (bT ..)
   ·rw[ay.mp q];exact kd.keeps lE ho hd (bT ..)
  ·rw[e1,aJ];refine eB.mpr {hn,by simp,λx hx y hy e=>?_};have MM:y=k:=by simpa using hy
   exact nk (by rw[<-MM,<-e];exact hx)
 ·refine af (gF ho hd ?_);rw[PySem.entry_at he j,hj];exact af (fP (ao (h1 p (atKey_of_get hn hj))))
def Cf(kd:HeapKind prog w κ)(d a:Addr)(hd:(d==sysModules)=false)(z:Value):
  MeetsIn prog w (Builtin.«dict.setdefault» {[.ref d,.ref a,z],[]}) (λA R s=>kd.room A.in1/\∃k xs,kd.is s.heap k a/\s.heap.DictOfH kd d xs/\xs.length<=sizeLine/\
   (∀p,atKey xs k=some p->R (.ok (.ret p.2)) {s with toks:=s.toks+kd.draws k})/\
   (atKey xs k=none->∀h',h'.DictOfH kd d (storedH xs k a z)->Heap.SameBut d s.heap h'->R (.ok (.ret z)) {s with heap:=h',toks:=s.toks+kd.draws k})):=
 .of_wp λA R s ⟨hu,k,xs,lE,hm,hz,h1,h2⟩=>by unfold Builtin.«dict.setdefault»;refine af ?_;unfold Builtin.Dict.keyAndDefault;refine af (jm hm.typeIs ?_);refine ao ?_;show wpAny _ _ (if(d==sysModules)=true then _ else(dictSetDefault d (-51) z>>=_)) _ _ s;rw[az (by rw[hd];exact aW)];exact af (Ex hu lE hm (λp hp=>ao {_,rfl,h1 p hp}) (λhn h' m' b'=>ao {z,rfl,h2 hn h' m' b'}) hz)
def Yq(hd:(d==sysModules)=false)(ho:s.heap.get? d=some o)(hx:o.ExactDict)(aeo:o.data=.dict es ep)(aeS:(es.size:Int)<2^63)
  (h:∀t t',Q (.int es.size t) {s with toks:=t'}):wpAny (-5) A (call (.builtin "len") [.ref d]) Q E s:=by
 have ty:s.TypeIs (.ref d) "dict":={o,ho,hx.1};refine jO kind_len plain_len entry_len (args_len1 _) ?_;unfold Builtin.«len»;refine af (ao ?_);refine af (wpAny_callSpecial?_slot ty F.slot_dict_len
  (bz F.slot_dict_len ty F.entry_dict_len ?_ (F.args_dict_len_1 _)))
 show wpAny _ _ (dictSize d>>=_) _ _ s;unfold dictSize;refine af (af (gF ho aeo (ao ?_)));refine af (wpAny_pendingCount_other hd ?_);refine af (CA (ao {_,rfl,?_}));refine af (bP (ao ?_));refine af (mG ?_);rw[j4];rw[az ∅];rw[az ∅];exact af (CA (ao {_,rfl,h _ _}))
end
section
variable{X:Cx}{pins:Aac}{Z:St}{H:Hp}{s:Shared}{A:Around}{E:Aae}{a b:Addr}{kvs:List (NK×Addr×V)}{k:NK}{z:V}
def RX(hu:A.units+101<cLine)(I:Inv X pins Z H s)(h:gn X.prog X.w X.K H a kvs)(hk:jA X.K H k b)(pk:kvs.length<10000000)(rv:RelV z r)
  (q1:∀v w' s',valN kvs k=some v->Inv X pins Z H s'->RelV v w'->Q w' s')
  (q2:valN kvs k=none->∀s',Inv X pins Z (upd H a (.ext (DN X.prog X.w a (putN kvs k b z)))) s'->Q r s'):wpAny (-6) A (call (.builtin "dict.setdefault") [.ref a,.ref b,r]) Q E s:=by
 obtain⟨lo,xs,rel,hl,dd⟩:=I.qP h;have lx:xs.length<=sizeLine:=by rw[<-rel.length,b8];lia
 have e:=xE rel k;refine qR rZ dd.typeIs PySem.F.entry_dict_setdefault (PySem.F.args_dict_setdefault_3 _ _ _) (Cf (ny X.prog X.w) a b lo r)
  {show A.units+1+100<cLine by lia,k,xs,I.DI hk,dd,lx,λp hp=>?_,λhn h' vH hs=>?_}
 ·rw[hp]at e;cases ev:valN kvs k with
  |none=>rw[ev]at e;exact e.elim
  |some v=>rw[ev]at e;exact q1 v _ _ ev (I.tok _) e
 ·rw[hn]at e;cases ev:valN kvs k with
  |some v=>rw[ev]at e;exact e.elim
  |none=>
   obtain⟨o,es,ep,g,x2,x3,x4,_,x5⟩:=vH;have lp:=vg (kvs:=kvs) (k:=k) (b:=b) (v:=z);refine q2 ev _ (uU I ?_ hs ⟨o,g⟩ (O4 {lo,_,DB rel rv,by lia,o,es,ep,g,x2,x3,x4,x5}));rcases h.1 with e|⟨_,e⟩<;>rw[e]<;>exact True.intro
def YS(hu:A.units+101<cLine)(I:Inv X pins Z H s)(h:gn X.prog X.w X.K H a kvs)(hk:jA X.K H k b)(rv:RelV z r)(q:∀w' s',Inv X pins Z H s'->RelV ((valN kvs k).getD z) w'->Q w' s'):
  wpAny (-6) A (call (.builtin "dict.get") [.ref a,.ref b,r]) Q E s:=by
 obtain⟨lo,xs,rel,hl,dd⟩:=I.qP h;exact qR jt dd.typeIs pB (oO _ _ _) (vX (ny X.prog X.w) a b lo r)
  {show A.units+1+100<cLine by lia,k,xs,I.DI hk,dd,q _ _ (I.tok _) ((xE rel k).getD rv)}
def ML(I:Inv X pins Z H s)(h:gn X.prog X.w X.K H a kvs):s.TypeIs (-51) "dict"/\∀b,Value.ref a=.ref b->∃ob,s.heap.get? b=some ob/\ob.dict=none:=by obtain⟨lo,xs,rel,hl,dd⟩:=I.qP h;refine{dd.typeIs,λb q=>?_};cases q;obtain⟨ob,_,_,h1,h2,_⟩:=dd;exact{ob,h1,h2.2.1}
def abC(I:Inv X pins Z H s)(h:gn X.prog X.w X.K H a kvs)(q:∀t s',Inv X pins Z H s'->Q (.int kvs.length t) s'):wpAny (-6) A (call (.builtin "len") [.ref a]) Q E s:=by
 obtain⟨lo,xs,rel,hl,o,es,ep,g,hx,hd,he,_⟩:=I.qP h;have l1:es.size=kvs.length:=by rw[wg he,rel.length]
 refine Yq lo g hx hd ∅ λt t'=>?_;rw[l1];exact q t _ (I.tok _)
end
inductive PD(P:Program)(w:World)(K:Frag)(ty:TE)(tz:TE)(Z:St)(Q:VK)(x:V)(H1:Hp):Prop
 |mk a JW (_:x=.ref a) (_:gn P w K H1 a JW) (_:ty Z H1 λy H2=>tz Z H2 λz H3=>∃b kvs k,y=.ref b/\gn P w K H3 a kvs/\jA K H3 k b/\kvs.length<10000000/\(∀v,valN kvs k=some v->Q v H3)/\(valN kvs k=none->Q z (upd H3 a (.ext (DN P w a (putN kvs k b z))))))
def SJ(P:Program)(w:World)(K:Frag)(td ty tz:TE):TE:=λZ H Q=>td Z H λx H1=>PD P w K ty tz Z Q x H1
inductive SN(P:Program)(w:World)(K:Frag)(ty:TE)(tz:TE)(Z:St)(Q:VK)(x:V)(H1:Hp):Prop
 |mk a JW (_:x=.ref a) (_:gn P w K H1 a JW) (_:ty Z H1 λy H2=>tz Z H2 λz H3=>∃b kvs k,y=.ref b/\gn P w K H3 a kvs/\jA K H3 k b/\Q ((valN kvs k).getD z) H3)
def LY(P:Program)(w:World)(K:Frag)(td ty tz:TE):TE:=λZ H Q=>td Z H λx H1=>SN P w K ty tz Z Q x H1
section
variable{X:Cx}{o e f:Expr}{apos fC:Pos}{td ty tz:TE}
def N5(hu:X.A.units+101<cLine)(ho:PE X o td)(he:PE X e ty)(hf:PE X f tz)(m:M2 X o "setdefault" apos e f fC):PE X (.Call (.Attribute o "setdefault" apos) [e,f] [] fC) (SJ X.prog X.w X.K td ty tz):=by intro pins s Z H Q I h;refine t6 m.base m.je m.line iM rZ PySem.F.type_dict_setdefault (df (ho pins s Z H _ I h) λu s1 x H1 I1 rx adK=>?_);obtain⟨a,JW,ex,d,q1⟩:=adK;subst ex;obtain rfl:u=Value.ref a:=rx;obtain⟨t1,t2⟩:=ML I1 d;refine{t1,t2,?_};rw[m.trees];refine iX rfl (lZ (gk (df (he pins s1 Z H1 _ I1 q1) λiv s2 y H2 I2 ry q2=>gk (df (hf pins s2 Z H2 _ I2 q2) λfv s3 z H3 I3 rz ⟨b,kvs,k,ey,g,hk,hl,k1,k2⟩=>k8 ?_))));subst ey;obtain rfl:iv=Value.ref b:=ry;exact RX hu I3 g hk hl rz (λv w' s4 ev I4 r4=>{v,H3,I4,r4,k1 v ev}) λev s4 I4=>{z,_,I4,rz,k2 ev}
def GN(hu:X.A.units+101<cLine)(ho:PE X o td)(he:PE X e ty)(hf:PE X f tz)(m:M2 X o "get" apos e f fC):PE X (.Call (.Attribute o "get" apos) [e,f] [] fC) (LY X.prog X.w X.K td ty tz):=by intro pins s Z H Q I h;refine t6 m.base m.je m.line iM jt yn (df (ho pins s Z H _ I h) λu s1 x H1 I1 rx adJ=>?_);obtain⟨a,JW,ex,d,q1⟩:=adJ;subst ex;obtain rfl:u=Value.ref a:=rx;obtain⟨t1,t2⟩:=ML I1 d;refine{t1,t2,?_};rw[m.trees];refine iX rfl (lZ (gk (df (he pins s1 Z H1 _ I1 q1) λiv s2 y H2 I2 ry q2=>gk (df (hf pins s2 Z H2 _ I2 q2) λfv s3 z H3 I3 rz ⟨b,kvs,k,ey,g,hk,k1⟩=>k8 ?_))));subst ey;obtain rfl:iv=Value.ref b:=ry;exact YS hu I3 g hk rz λw' s4 I4 r4=>⟨_,H3,I4,r4,k1⟩
def Sa:jv X (.builtin "len") (λxs H Q=>∃a kvs,xs=[V.ref a]/\gn X.prog X.w X.K H a kvs/\Q (.int kvs.length) H):=by intro pins s Z H xs us Q I r h;obtain⟨a,kvs,rfl,ha,q⟩:=h;obtain⟨u,rfl,ru⟩:=lO r;cases ru;exact abC I ha λt s' I'=>{.int kvs.length,H,I',⟨t,rfl⟩,q}
inductive Yy(P:Program)(w:World)(K:Frag)(R:It->Hp->Prop)(x:V)(H1:Hp):Prop
 |mk d u kvs (_:x=.ref d) (_:H1 d=some u) (_:gn P w K H1 d kvs) (_:∀o,R (Hz d o u (kvs.map λp=>(.ref p.2.1,p.2.2))) (upd H1 d (.c7 o u)))
def aaV(P:Program)(w:World)(K:Frag)(tl:TE):TI:=λZ H R=>tl Z H λx H1=>Yy P w K R x H1
def To(hl:PE X l tl):PI X tg l (aaV X.prog X.w X.K tl):=by
 intro pins s Z H R I h;refine df (hl pins s Z H _ I h) λv s1 x H1 I1 r1 q1=>?_;obtain⟨d,u,kvs,e,hd,hv,q⟩:=q1;subst e;cases r1;obtain⟨lo,xs,rel,_,o,es,ep,ga,hx,hdt,he,_⟩:=I1.qP hv;have ents:∀{l:List (-53)}{xs:List (NK×Addr×Value)},Paired (-10) l xs->Paired (-57) (l.map λp=>(V.ref p.2.1,p.2.2)) (xs.map (entryOfKey (ny X.prog X.w))):=λr=>by
  induction r with
  |nil=>exact .nil
  |@cons p q ps qs h _ ih=>exact .cons {by show Value.ref q.2.1=Value.ref p.2.1;rw[h.2.1],h.2.2} ih
 have m:K6 o es ep (kvs.map λp=>(V.ref p.2.1,p.2.2)):={hx,hdt,by rw[he];exact ents rel};have I2:Inv X pins Z (upd H1 d (.c7 o u)) s1:=by
  rcases hv.1 with e|⟨_,e⟩
  ·rw[hd]at e;cases e;exact I1.F2 hd ga
  ·rw[hd]at e;cases e;exact I1.freeze hd ga
 refine BY lo ga m.1 m.2.1 ?_;refine{s1.heap.objs.size,[s1.heap.objs.size],_,_,_,rfl,I2.kept λb o e=>aq _ e,Ib m,{_,aF _ rfl,rfl,rfl},λb hb=>?_,q o};have e:b=s1.heap.objs.size:=by simpa using hb
 subst e;exact I2.qN (ar _) (I2.br.fresh (ar _))
def pF(n:Nat)(k:NK):Prop:=(NK.toD k).canLay0=true/\(NK.toD k).depth<=n/\NK.deep k<=n
def good_str(h:PyData.strOk z=true):pF n (.key (.inr z)):={by simp[NK.toD,PyData.canLay0,h],by simp[NK.toD,PyData.depth],by simp[NK.deep]}
theorem Kt:∀{ks:List NK},(∀k∈ks,pF n k)->PyData.canLayAll0 (NK.mK ks)=true/\PyData.depthAll (NK.mK ks)<=n/\NK.oC ks<=n
 |[],_=>{by simp[NK.mK,PyData.canLayAll0],by simp[NK.mK,PyData.depthAll],by simp[NK.oC]}
 |k::ks,h=>by
  obtain⟨a1,a2,a3⟩:=h k aA;obtain⟨b1,b2,b3⟩:=Kt λk hk=>h k (aB _ hk);refine{by simp[NK.mK,PyData.canLayAll0,a1,b1],?_,?_}
  ·simp only[NK.mK,PyData.depthAll];lia
  ·simp only[NK.oC];lia
def DM(h:∀k∈ks,pF n k):pF (n+1) (.tup ks):=by obtain⟨b1,b2,b3⟩:=Kt h;refine{by simp only[NK.toD,PyData.canLay0];exact b1,by simp only[NK.toD,PyData.depth];lia,by simp only[NK.deep];lia}
def pF.good(h:pF n k)(hn:n<=7):Xa k:={h.1,aD h.2.1 hn,aD h.2.2 hn}
def fR(zs:Aah):NK:=.tup (zs.map λz=>.key (.inr z))
def xM(h:fR xs=fR ys):xs=ys:=by unfold fR at h;injection h with h;exact List.map_inj_right (λa b e=>by injection e with e;injection e)|>.mp h
def DO(h:∀z∈zs,PyData.strOk z=true):pF 1 (fR zs):=DM λk hk=>by obtain⟨z,hz,rfl⟩:=aR.mp hk;exact good_str (h z hz)
theorem JD{K:Frag}:∀zs:Aah,pE K H (zs.map λz=>NK.key (.inr z)) (zs.map V.str)
 |[]=>by rw[ji,pE];rfl
 |z::r=>by rw[aU,pE];exact{_,_,rfl,by rw[NV];rfl,JD r}
def JE{K:Frag}(h:bF K H a (zs.map V.str)):NV K H (fR zs) (-51):=by unfold fR;rw[NV];exact{a,_,rfl,h,JD zs}
def yU{K:Frag}(h:bF K H a (zs.map V.str))(hz:∀z∈zs,PyData.strOk z=true):jA K H (fR zs) a:={JE h,(DO hz).good (-8)}
def EM{K:Frag}(h:NV K H (fR zs) (-51)):bF K H a (zs.map V.str):=by
 have all:∀{zs:Aah}{xs:Aao},pE K H (zs.map λz=>NK.key (.inr z)) xs->xs=zs.map V.str:=by
  intro zs
  induction zs with
  |nil=>intro xs h;rw[ji,pE]at h;exact h
  |cons z r ih=>
   intro xs h;rw[aU,pE]at h;obtain⟨x,t,rfl,h1,h2⟩:=h;rw[NV]at h1;rw[h1,ih h2];rfl
 unfold fR at h;rw[NV]at h;obtain⟨b,xs,e,hq,h⟩:=h;cases e;rw[<-all h];exact hq
def lP(e:p.1=k):valN (p::r) k=some p.2.2:=by unfold valN;rw[dW (p:=λp:NK×Addr×V=>decide (p.1=k)) (bp e)];rfl
def lQ(e:¬p.1=k):valN (p::r) k=valN r k:=by unfold valN;rw[dX (p:=λp:NK×Addr×V=>decide (p.1=k)) (λq=>e (bj q))]
theorem HZ:∀kvs:List (-53),valN (kvs.map λp=>if p.1=k then(p.1,p.2.1,v)else p) j=(valN kvs j).map λx=>if j=k then v else x
 |[]=>rfl
 |p::r=>by
  have ih:=HZ (k:=k) (j:=j) (v:=v) r;rw[aU];by_cases h:p.1=k
  ·rw[aC h];by_cases e:p.1=j
   ·rw[lP (p:=(p.1,p.2.1,v)) e,lP e,eI,aC (e.symm.trans h)]
   ·rw[lQ (p:=(p.1,p.2.1,v)) e,lQ e,ih]
  ·rw[az h];by_cases e:p.1=j
   ·rw[lP e,lP e,eI,az (λz=>h (e.trans z))]
   ·rw[lQ e,lQ e,ih]
theorem Gs:∀kvs:List (-53),valN kvs k=none->valN (kvs++[(k,a,v)]) j=if j=k then some v else valN kvs j
 |[],_=>by
  by_cases e:k=j
  ·rw[aC e.symm];exact lP (p:=(k,a,v)) e
  ·rw[az (λz=>e z.symm)];exact lQ (p:=(k,a,v)) e
 |p::r,hn=>by
  rw[lX];have hk:¬p.1=k:=λz=>by rw[lP z]at hn;cases hn
  rw[lQ hk]at hn;have ih:=Gs (j:=j) (a:=a) (v:=v) r hn;by_cases e:p.1=j
  ·rw[lP e,lP e,az (λz=>hk (e.trans z))]
  ·rw[lQ e,lQ e,ih]
def pW:valN (putN kvs k a v) j=if j=k then some v else valN kvs j:=by
 unfold putN;split
 ·next hs=>
  rw[HZ];by_cases c:j=k
  ·obtain⟨x,hx⟩:=jY.mp hs;rw[aC c,c,hx,eI,aC rfl]
  ·rw[az c];cases valN kvs j with
   |none=>rfl
   |some x=>rw[eI,az c]
 ·next hs=>
  refine Gs kvs ?_;cases e:valN kvs k with
  |none=>rfl
  |some x=>rw[e]at hs;exact absurd rfl hs
def JP(h:p∈putN kvs k a v):(∃q∈kvs,p.1=q.1/\p.2.1=q.2.1)\/(p.1=k/\p.2.1=a):=by
 unfold putN at h;split at h
 ·obtain⟨q,hq,rfl⟩:=aR.mp h;refine .inl {q,hq,?_};split<;>exact⟨rfl,rfl⟩
 ·rcases bf.mp h with h|h
  ·exact .inl ⟨p,h,rfl,rfl⟩
  ·rw[ay.mp h];exact .inr ⟨rfl,rfl⟩
end
end L2
namespace L2
open PySem PySem.Spec PyProof.Rows PySem.W Hw
section
variable{X:Cx}{pins:Aac}{Z:St}{H:Hp}{s:Shared}
def Inv.KY(I:Inv X pins Z H s)(hn:H D=none)(new:dG X.prog X.w (upd H D o) s.heap D o)
  (h1:X.aab.heap.objs.size<=D) (hL:D≠X.env.locals) (h2:∀x c,X.env.cells.lookup x=some c->c≠D) (h3:∀p∈X.pn++pins,p.1≠D):Inv X pins Z (upd H D o) s:=by
 have nD:∀b u,H b=some u->b≠D:=λb u q z=>by rw[z,hn]at q;cases q
 have br:jI X.prog X.w (upd H D o) s.heap:=λb u q=>by
  by_cases hb:b=D
  ·subst hb;rw[aw]at q;cases q;exact new
  ·rw[aE hb]at q;exact(I.br b u q).jx (λ_ _ _ z=>z) (λc z=>by rw[aE (nD c _ z)];exact z) λc xs z=>by rw[aE (nD c _ z)];exact z
 have J:=I.step (t':=s.toks) (d':=s.drawn) (ch:=[D])
  (λb hb=>by
   have e':b=D:=by simpa using hb
   subst e';exact{.inr h1,hL,h2,h3})
  (λb o _ _ _ q _=>q) (λb o _ _ _ q _=>{o.slots,q}) (λb o hc _ n=>by rw[aE λz=>hc (by simp[z])];exact n) (λb o _ q=>⟨o,q⟩)
  (λb xs q=>by rw[aE (nD b _ q)];exact q) (λb o u q=>by rw[aE (nD b _ q)];exact q) (λb ps q=>{#[],by rw[aE (nD b _ q),q];simp}) (λm hm=>hm) br I.bare
 exact J
def ur(r d:Addr):Heap->Prop:=λh=>h.IsItemsView r d
end
def aaM(x:ur r d h):dG P w H h r (.ext (ur r d)):=
 {x,let⟨o,q,_⟩:=x;⟨o,q⟩,λ_ _ ⟨o,q,z⟩ k=>{o,k _ q,z}}
section
variable{X:Cx}
def qZ(P:Program)(w:World)(K:Frag)(mg:Aad)(base:Heap)(C:Addr)(k:Nat)(m:Str)(ps:Aah)(sp:Sp):Prop:=
 ∃f fd,dk P w K mg base fU k f fd ps sp/\Meth K C m f/\Binds K fd ps []
def MA(c:BP X.K C)(D:qZ X.prog X.w X.K X.mg X.base C k m ps sp)(hr:gX j X.A)(ho:PE X o ta)(ha:PA X (e::es) t)(hk:k<=j:=by decide)
  (ic:starEach (e::es) X.env=(false,eval e X.env)::starEach es X.env:=by rfl) (ue:(-36).any (·.1)=false:=by rfl)
  (ht:eval (.Call (.Attribute o m apos) (e::es) [] pos) X.env=(do
   let ov<-eval o X.env
   standAt apos.atName
   let(f,first)<-holding [ov] (getMethod ov m pl)
   callWith pos f first (backTo pos (starEach (e::es) X.env)) (backToKw pos (keywordEach [] X.env))):=by rfl):
  PE X (.Call (.Attribute o m apos) (e::es) [] pos) (Vp C m sp [] E0 ta t):=by
 obtain⟨f,fd,F,me,b⟩:=D;exact X2 ho c me F (hr.mono hk) b .nil N7 ha ic ue ht
def yY(hr:gX k A):A.units+101<cLine:=by have:=hr.un;lia
theorem mS{α:Type}[DecidableEq α]:∀{l m:List α},l.Nodup->(∀x∈l,x∈m)->l.length<=m.length
 |[],m,_,_=>aP _
 |x::l,m,h,s=>by obtain⟨h1,h2⟩:=cX.mp h;have hx:=s x aA;have:=mS h2 λy hy=>(List.mem_erase_of_ne (show y≠x fromλe=>h1 (by rw[<-e];exact hy))).mpr (s y (aB _ hy));rw[List.length_erase_of_mem hx]at this;have hp:=List.length_pos_of_mem hx;rw[bx];lia
end
end L2
namespace L2
open PySem PySem.Spec PyProof.Rows
end L2
namespace AskP
section
variable{α:Type}[DecidableEq α]
abbrev Rw(α:Type):=List α
abbrev uw(α:Type):=α×List α
def my(xs vs:List α)(t:α):α:=if t∈xs then vs.getD (xs.idxOf t) t else t
def image(xs vs ts:List α):List α:=ts.map (my xs vs)
def tT(m:List (Rw α×Int))(r:Rw α)(c:Int):List (Rw α×Int):=if r∈m.map (·.1)then m.map (λx=>if x.1=r then(x.1,x.2+c)else x)else m++[(r,c)]
def narrowed(l:List (Rw α×Int))(xs ts:List α):List (Rw α×Int):=l.foldl (λm x=>tT m (image xs x.1 ts) x.2) []
def mU(r ts:List α):Bool:=decide (r.length=ts.length)&&(ts.zip r).all λx=>decide (r[ts.idxOf x.1]?=some x.2)
def atT(r ts:List α)(t:α):α:=r.getD (ts.idxOf t) t
def tails(rows:List (Rw α))(ts known fresh:List α)(key:Rw α):List (Rw α):=(rows.filter λr=>mU r ts&&decide (known.map (atT r ts)=key)).map λr=>fresh.map (atT r ts)
def longer(maps:List (Rw α×Int))(rows:List (Rw α))(ts kept known fresh:List α):List (Rw α×Int):=maps.flatMap λx=>(tails rows ts known fresh (image kept x.1 known)).map λt=>(x.1++t,x.2)
def Sd{r v:Rw α}{c:Int}:v∈(tT m r c).map (·.1)↔v∈m.map (·.1)\/v=r:=by
 unfold tT;split
 ·next h=>
  have e:(m.map λx=>if x.1=r then(x.1,x.2+c)else x).map (·.1)=m.map (·.1):=by rw[bW];refine bX λx _=>?_;show(if x.1=r then(x.1,x.2+c)else x).1=x.1;split<;>rfl
  rw[e];exact{.inl,λz=>z.elim id λz=>z▸h}
 ·rw[aJ,bf,kM,ay]
def Pg{r:Rw α}{c:Int}(h:(m.map (·.1)).Nodup):((tT m r c).map (·.1)).Nodup:=by
 unfold tT;split
 ·have e:(m.map λx=>if x.1=r then(x.1,x.2+c)else x).map (·.1)=m.map (·.1):=by rw[bW];refine bX λx _=>?_;show(if x.1=r then(x.1,x.2+c)else x).1=x.1;split<;>rfl
  rw[e];exact h
 ·next q=>
  rw[aJ,kM];exact eB.mpr {h,kA _ _,λa ha b hb=>by rw[ay.mp hb];exactλz=>q (by rw[<-show a=r from z];exact ha)}
def zM{xs ts:List α}{v:Rw α}:v∈(narrowed l xs ts).map (·.1)↔∃x∈l,v=image xs x.1 ts:=by
 unfold narrowed
 suffices H:∀m:List (Rw α×Int),v∈(l.foldl (λm x=>tT m (image xs x.1 ts) x.2) m).map (·.1)↔v∈m.map (·.1)\/∃x∈l,v=image xs x.1 ts by
  rw[H []];exact{λh=>h.elim (λz=>by cases z) id,.inr}
 induction l with
 |nil=>intro m;exact{.inl,λh=>h.elim id λ⟨x,hx,_⟩=>by cases hx}
 |cons x l ih=>
  intro m;rw[fT,ih,Sd];constructor
  ·rintro((h|h)|⟨y,hy,h⟩)
   ·exact .inl h
   ·exact .inr ⟨x,aA,h⟩
   ·exact .inr {y,aB _ hy,h}
  ·rintro(h|⟨y,hy,h⟩)
   ·exact .inl (.inl h)
   ·rcases aG.mp hy with rfl|hy
    ·exact .inl (.inr h)
    ·exact .inr ⟨y,hy,h⟩
def rQ{xs ts:List α}:((narrowed l xs ts).map (·.1)).Nodup:=by
 unfold narrowed
 suffices H:∀m:List (Rw α×Int),(m.map (·.1)).Nodup->((l.foldl (λm x=>tT m (image xs x.1 ts) x.2) m).map (·.1)).Nodup from H [] .nil
 induction l with
 |nil=>intro m h;exact h
 |cons x l ih=>intro m h;exact ih _ (Pg h)
def Yw{g:α->α}{t:α}(h:t∈xs):my xs (xs.map g) t=g t:=by unfold my;have:=cV h;rw[aC h,cq,aK,au this,kN];rfl
def sU{g:α->α}(h:∀t∈ts,t∉xs->g t=t):image xs (xs.map g) ts=ts.map g:=by
 refine bX λt ht=>?_;by_cases c:t∈xs
 ·exact Yw c
 ·unfold my;rw[az c,h t ht c]
def Q1{g:α->α}:mU (ts.map g) ts=true:=by
 unfold mU;rw[ak,bp rfl,gO,bZ];intro x hx;obtain⟨i,hi,e⟩:=fo.mp hx;rw[vR,vS]at e;have m:x.1∈ts:=by rw[<-e];exact gh _
 have:=cV m;refine bp ?_;rw[aK,au this,kN,eI,<-e]
def Nr{g:α->α}{t:α}(h:t∈ts):atT (ts.map g) ts t=g t:=by unfold atT;have:=cV h;rw[cq,aK,au this,kN];rfl
def Ym{r ts:List α}(h:mU r ts=true):ts.map (atT r ts)=r:=by unfold mU at h;rw[bB,bZ]at h;have hl:=bj h.1;refine List.ext_getElem (by rw[ak,hl]) λi h1 h2=>?_;rw[vS];have q:=bj (h.2 (ts[i]'(by rw[<-hl];exact h2),r[i]) (fo.mpr {i,by rw[q9];lia,by rw[vR]}));unfold atT;rw[cq,q];rfl
def tD(un:α->Bool)(db:α->List (Rw α))(S:List (uw α))(g:α->α):Prop:=(∀t,un t=false->g t=t)/\∀a∈S,a.2.map g∈db a.1
def Kp(un:α->Bool)(db:α->List (Rw α))(S:List (uw α))(kept:List α)(maps:List (Rw α×Int)):Prop:=∀v,v∈maps.map (·.1)↔∃g,tD un db S g/\v=kept.map g
def Xu{un:α->Bool}{db:α->List (Rw α)}{S:List (uw α)}{maps:List (Rw α×Int)}{a:uw α}(h:Kp un db S kept maps)
  (hf:∀t,t∈fresh↔t∈a.2/\un t=true/\t∉kept) (hk:known=a.2.filter (λt=>decide (t∉fresh))) (hu:∀t∈kept,un t=true) (hs:∀b∈S,∀t∈b.2,t∈a.2->un t=true->t∈kept) (h':∀t∈V7,t∈kept++fresh):
  Kp un db (a::S) V7 (narrowed (longer maps (db a.1) a.2 kept known fresh) (kept++fresh) V7):=by
 have kn:∀t,t∈known↔t∈a.2/\t∉fresh:=λt=>by rw[hk,bV,iG]
 have key:∀g:α->α,(∀t,un t=false->g t=t)->image kept (kept.map g) known=known.map g:=λg hg=>sU λt ht c=>by
  have⟨z1,z2⟩:=(kn t).mp ht;cases e:un t with
  |false=>exact hg t e
  |true=>exact absurd ((hf t).mpr ⟨z1,e,c⟩) z2
 intro v;rw[zM];constructor
 ·rintro⟨x,hx,rfl⟩;unfold longer at hx;obtain⟨y,hy,hx⟩:=j7.mp hx;obtain⟨tl,ht,rfl⟩:=aR.mp hx;unfold tails at ht;obtain⟨r,hr,rfl⟩:=aR.mp ht;obtain⟨hr,hc⟩:=bV.mp hr;rw[bB,iG]at hc;obtain⟨g,hg,eg⟩:=(h y.1).mp (aR.mpr ⟨y,hy,rfl⟩);rw[eg,key g hg.1]at hc
  let g2:α->α:=λt=>if t∈fresh then atT r a.2 t else g t
  have e1:kept.map g=kept.map g2:=bX λt ht=>by show g t=if t∈fresh then _ else g t;rw[az λz=>((hf t).mp z).2.2 ht]
  have e2:fresh.map (atT r a.2)=fresh.map g2:=bX λt ht=>by show _=if t∈fresh then _ else g t;rw[aC ht]
  have e3:a.2.map g2=r:=by
   conv=>rhs;rw[<-Ym hc.1]
   refine bX λt ht=>?_;show(if t∈fresh then atT r a.2 t else g t)=_;by_cases c:t∈fresh
   ·rw[aC c]
   ·rw[az c];exact(List.map_inj_left.mp hc.2 t ((kn t).mpr ⟨ht,c⟩)).symm
  refine{g2,{λt ht=>?_,λb hb=>?_},?_}
  ·show(if t∈fresh then atT r a.2 t else g t)=t;rw[az λz=>by rw[((hf t).mp z).2.1]at ht;cases ht];exact hg.1 t ht
  ·rcases aG.mp hb with rfl|hb
   ·rw[e3];exact hr
   ·have:b.2.map g2=b.2.map g:=bX λt ht=>by show(if t∈fresh then _ else g t)=g t;rw[az λz=>((hf t).mp z).2.2 (hs b hb t ht ((hf t).mp z).1 ((hf t).mp z).2.1)]
    rw[this];exact hg.2 b hb
  ·rw[eg,e1,e2,<-aJ];exact sU λt ht c=>absurd (h' t ht) c
 ·rintro⟨g,hg,rfl⟩;have hS:tD un db S g:={hg.1,λb hb=>hg.2 b (aB _ hb)};obtain⟨y,hy,ey⟩:=aR.mp ((h (kept.map g)).mpr ⟨g,hS,rfl⟩);refine{(y.1++fresh.map g,y.2),j7.mpr {y,hy,aR.mpr {fresh.map g,aR.mpr {a.2.map g,bV.mpr {hg.2 a aA,?_},?_},rfl}},?_}
  ·rw[Q1,gO,ey,key g hg.1];exact bp (bX λt ht=>Nr ((kn t).mp ht).1)
  ·exact bX λt ht=>Nr ((hf t).mp ht).1
  ·rw[ey,<-aJ];exact(sU λt ht c=>absurd (h' t ht) c).symm
end
section
variable{α:Type}[DecidableEq α]
def fits(un:α->Bool)(db:α->List (Rw α))(atoms:List (uw α))(known v:List α):Bool:=atoms.all λa=>!decide (a.2.filter (λt=>un t&&decide (t∉known))=[])||decide (image known v a.2∈db a.1)
def Kw{un:α->Bool}{atoms:List (uw α)}{known v:List α}:fits un db atoms known v=true↔∀a∈atoms,(∀t∈a.2,un t=true->t∈known)->image known v a.2∈db a.1:=by
 unfold fits;rw[bZ];refine fB λa=>fB λ_=>?_;have e:(a.2.filter (λt=>un t&&decide (t∉known))=[])↔∀t∈a.2,un t=true->t∈known:=by rw[List.filter_eq_nil_iff];refine fB λt=>fB λ_=>?_;rw[bB,iG];exact{λh u=>Decidable.byContradiction λz=>h ⟨u,z⟩,λh z=>z.2 (h z.1)}
 rw[Bool.or_eq_true,Cy,vY,iG,e];exact{λh q=>h.elim (λz=>absurd q z) id,λh=>Decidable.byCases (λq=>.inr (h q)) .inl}
def HV(un:α->Bool)(db:α->List (Rw α))(atoms:List (uw α))(us vals:List α):Nat->List (List α)
 |0=>[[]].filter (fits un db atoms (us.take 0))
 |p+1=>((HV un db atoms us vals p).flatMap λv=>vals.map λx=>v++[x]).filter (fits un db atoms (us.take (p+1)))
def Q7{us v:List α}(h:t∈us.take p)(hv:v.length=p)(hp:p<=us.length)(x:α):my (us.take (p+1)) (v++[x]) t=my (us.take p) v t:=by
 have l:=cV h;have m:=(tV us (fH p)) h;have e:(us.take (p+1)).idxOf t=(us.take p).idxOf t:=by
  conv=>lhs;rw[<-c8 p (us.take (p+1)),List.take_take,gL (fH p)]
  rw[List.idxOf_append,aC h]
 unfold my;rw[aC h,aC m,e,cq,cq,dO];rw[aT]at l;lia
theorem DD(hu:∀t∈us,un t=true):∀(p:Nat)(v:List α),p<=us.length->(v∈HV un db atoms us vals p↔v.length=p/\(∀x∈v,x∈vals)/\∀a∈atoms,(∀t∈a.2,un t=true->t∈us.take p)->image (us.take p) v a.2∈db a.1)
 |0,v,_=>by show v∈[[]].filter _↔_;rw[bV,ay,Kw];exact{λ⟨h1,h2⟩=>{by rw[h1];rfl,(λx hx=>by rw[h1]at hx;cases hx),h2},λ⟨h1,_,h2⟩=>{List.eq_nil_of_length_eq_zero h1,h2}}
 |p+1,v,hp=>by
  show v∈(((HV un db atoms us vals p).flatMap λv=>vals.map λx=>v++[x]).filter _)↔_;rw[bV,Kw,j7];constructor
  ·rintro⟨⟨w,hw,hv⟩,h2⟩;obtain⟨x,hx,rfl⟩:=aR.mp hv;obtain⟨w1,w2,w3⟩:=(DD hu p w ∅).mp hw;refine{by rw[aO,w1];rfl,λy hy=>?_,h2};rcases bf.mp hy with hy|hy
   ·exact w2 y hy
   ·rw[ay.mp hy];exact hx
  ·rintro⟨h1,h2,h3⟩;have ne:v≠[]:=λz=>by rw[z]at h1;cases h1
   have ev:=se ne;have lv:v.dropLast.length=p:=by rw[List.length_dropLast,h1];rfl
   refine{{v.dropLast,(DD hu p _ ∅).mpr {lv,λx hx=>h2 x (List.dropLast_subset v hx),λa ha q=>?_},aR.mpr {v.getLast ne,h2 _ (List.getLast_mem ne),ev}},h3};have:=h3 a ha λt ht u=>tV us (fH p) (q t ht u);rw[<-ev]at this;have e:image (us.take (p+1)) (v.dropLast++[v.getLast ne]) a.2=image (us.take p) v.dropLast a.2:=bX λt ht=>by
    cases c:un t with
    |true=>exact Q7 (q t ht c) lv ∅ _
    |false=>
     have n1:∀n,t∉us.take n:=λn z=>by rw[hu t (gx z)]at c;cases c
     unfold my;rw[az (n1 _),az (n1 _)]
   rw[e]at this;exact this
def Su(hu:∀t,t∈us↔un t=true/\∃a∈atoms,t∈a.2)(nd:us.Nodup)(hv:∀a∈atoms,∀r∈db a.1,∀x∈r,x∈vals)(hh:∀t∈head,un t=true->t∈us)(row:Rw α):
  (∃v∈HV un db atoms us vals us.length,row=image us v head)↔∃g,tD un db atoms g/\row=head.map g:=by
 have m:=DD (db:=db) (atoms:=atoms) (vals:=vals) (λt ht=>((hu t).mp ht).1) us.length;rw[aV]at m;constructor
 ·rintro⟨v,h,rfl⟩;obtain⟨h1,h2,h3⟩:=(m v (ar _)).mp h;refine{my us v,{λt ht=>?_,λa ha=>h3 a ha λt ht u=>(hu t).mpr ⟨u,a,ha,ht⟩},rfl};unfold my;rw[az λz=>by rw[((hu t).mp z).1]at ht;cases ht]
 ·rintro⟨g,hg,rfl⟩;have im:∀ts:List α,(∀t∈ts,un t=true->t∈us)->image us (us.map g) ts=ts.map g:=λts h=>sU λt ht c=>by
   cases e:un t with
   |false=>exact hg.1 t e
   |true=>exact absurd (h t ht e) c
  refine{us.map g,(m _ (ar _)).mpr {ak ..,λx hx=>?_,λa ha q=>by rw[im a.2 q];exact hg.2 a ha},(im head hh).symm};obtain⟨t,ht,rfl⟩:=aR.mp hx;obtain⟨_,a,ha,vA⟩:=(hu t).mp ht;exact hv a ha _ (hg.2 a ha) _ (aR.mpr ⟨t,vA,rfl⟩)
def tD.of{un:α->Bool}{S T:List (uw α)}{g:α->α}(h:tD un db S g)(e:∀a∈T,a∈S):tD un db T g:={h.1,λa ha=>h.2 a (e a ha)}
def Ys(h:Kp un db S kept maps)(hh:∀t∈head,un t=true->t∈kept)(row:Rw α):row∈(narrowed maps kept head).map (·.1)↔∃g,tD un db S g/\row=head.map g:=by
 have im:∀g,tD un db S g->image kept (kept.map g) head=head.map g:=λg hg=>sU λt ht c=>by
  cases e:un t with
  |false=>exact hg.1 t e
  |true=>exact absurd (hh t ht e) c
 rw[zM];constructor
 ·rintro⟨x,hx,rfl⟩;obtain⟨g,hg,e⟩:=(h x.1).mp (aR.mpr ⟨x,hx,rfl⟩);exact{g,hg,by rw[e,im g hg]}
 ·rintro⟨g,hg,rfl⟩;obtain⟨y,hy,ey⟩:=aR.mp ((h _).mpr ⟨g,hg,rfl⟩);exact{y,hy,by rw[ey,im g hg]}
end
section
variable{α:Type}[DecidableEq α]
def words(A:List α):Nat->List (List α)
 |0=>[[]]
 |k+1=>(words A k).flatMap λv=>A.map λx=>x::v
structure AskI(un:α->Bool)(db:α->List (Rw α))(atoms:List (uw α))(head:List α)(S left:List (uw α))(kept:List α)(maps:List (Rw α×Int)):Prop where
 kp:Kp un db S kept maps
 at_:∀a,a∈atoms↔a∈S\/a∈left
 kt:∀t,t∈kept↔un t=true/\(∃b∈S,t∈b.2)/\(t∈head\/∃b∈left,t∈b.2)
 nd:kept.Nodup
 md:(maps.map (·.1)).Nodup
variable{un:α->Bool}{db:α->List (Rw α)}{atoms:List (uw α)}{head:List α}{S left:List (uw α)}{kept:List α}{maps:List (Rw α×Int)}
def AskI.start:AskI un db atoms head [] atoms [] [([],1)]:={λv=>{λh=>{id,{λ_ _=>rfl,λa ha=>by cases ha},ay.mp h},λ⟨_,_,e⟩=>ay.mpr e},λa=>{.inr,λh=>h.elim (λz=>by cases z) id},λt=>{λh=>(by cases h),λ⟨_,⟨b,hb,_⟩,_⟩=>(by cases hb)},.nil,kA _ _}
def AskI.len(h:AskI un db atoms head S left kept maps)(hx:x∈maps):x.1.length=kept.length:=by obtain⟨g,_,e⟩:=(h.kp x.1).mp (aR.mpr ⟨x,hx,rfl⟩);rw[e,ak]
theorem AskI.vals{vals:List α}(h:AskI un db atoms head S left kept maps)(hv:∀a∈atoms,∀r∈db a.1,∀x∈r,x∈vals)(hx:x∈maps):∀y∈x.1,y∈vals:=λy hy=>by obtain⟨g,hg,e⟩:=(h.kp x.1).mp (aR.mpr ⟨x,hx,rfl⟩);rw[e]at hy;obtain⟨t,ht,rfl⟩:=aR.mp hy;obtain⟨_,⟨b,hb,Wi⟩,_⟩:=(h.kt t).mp ht;exact hv b ((h.at_ b).mpr (.inl hb)) _ (hg.2 b hb) _ (aR.mpr ⟨t,Wi,rfl⟩)
def AskI.step(h:AskI un db atoms head S (l1++a::l2) kept maps)(hf:∀t,t∈fresh↔t∈a.2/\un t=true/\t∉kept)(fn:fresh.Nodup)(hk:known=a.2.filter (λt=>decide (t∉fresh)))
  (hn:∀t,need t=true↔t∈head\/∃b∈l1++l2,t∈b.2):
  AskI un db atoms head (a::S) (l1++l2) ((kept++fresh).filter need) (narrowed (longer maps (db a.1) a.2 kept known fresh) (kept++fresh) ((kept++fresh).filter need)):=by
 have mid:∀b,b∈l1++a::l2↔b=a\/b∈l1++l2:=λb=>by rw[bf,aG,bf];exact{λh=>h.elim (λz=>.inr (.inl z)) λh=>h.elim .inl λz=>.inr (.inr z),λh=>h.elim (λz=>.inr (.inl z)) λh=>h.elim .inl λz=>.inr (.inr z)}
 have hs:∀b∈S,∀t∈b.2,t∈a.2->un t=true->t∈kept:=λb hb t ht vA u=>(h.kt t).mpr {u,⟨b,hb,ht⟩,.inr {a,(mid a).mpr (.inl rfl),vA}};refine{Xu h.kp hf hk (λt ht=>((h.kt t).mp ht).1) hs λt ht=>(bV.mp ht).1,λb=>?_,λt=>?_,?_,rQ}
 ·rw[h.at_ b,mid b,aG];exact{λh=>h.elim (λz=>.inl (.inr z)) λh=>h.elim (λz=>.inl (.inl z)) .inr,λh=>h.elim (λh=>h.elim (λz=>.inr (.inl z)) .inl) λz=>.inr (.inr z)}
 ·rw[bV,bf,hn,hf,h.kt];constructor
  ·rintro⟨⟨u,⟨b,hb,ht⟩,_⟩|⟨ht,u,_⟩,q⟩
   ·exact{u,{b,aB _ hb,ht},q}
   ·exact{u,⟨a,aA,ht⟩,q}
  ·rintro⟨u,⟨b,hb,ht⟩,q⟩;refine{?_,q};have q':t∈head\/∃b∈l1++a::l2,t∈b.2:=q.imp id λ⟨b,hb,ht⟩=>{b,(mid b).mpr (.inr hb),ht};rcases aG.mp hb with rfl|hb
   ·by_cases c:t∈kept
    ·exact .inl ((h.kt t).mp c)
    ·exact .inr {ht,u,λz=>c ((h.kt t).mpr z)}
   ·exact .inl {u,⟨b,hb,ht⟩,q'}
 ·refine List.Pairwise.sublist mN (eB.mpr {h.nd,fn,λx hx y hy e=>?_});subst e;exact((hf x).mp hy).2.2 hx
def AskI.end_(h:AskI un db atoms head S [] kept maps)(hh:∀t∈head,un t=true->∃a∈atoms,t∈a.2)(row:Rw α):row∈(narrowed maps kept head).map (·.1)↔∃g,tD un db atoms g/\row=head.map g:=by
 have e:∀a,a∈atoms↔a∈S:=λa=>by rw[h.at_ a];exact{λz=>z.elim id (λz=>by cases z),.inl}
 rw[Ys h.kp λt ht u=>(h.kt t).mpr {u,let⟨a,ha,q⟩:=hh t ht u;{a,(e a).mp ha,q},.inl ht}];exact{λ⟨g,hg,q⟩=>{g,hg.of λa ha=>(e a).mp ha,q},λ⟨g,hg,q⟩=>{g,hg.of λa ha=>(e a).mpr ha,q}}
end
section
variable{α:Type}[DecidableEq α]
def ac9{β:Type}(l:List β)(f:β->Int):Int:=(l.map f).sum
abbrev ind(p:Prop)[Decidable p]:Int:=if p then 1 else 0
structure aeU(un:α->Bool)(db:α->List (Rw α))(S:List (uw α))(kept:List α)(maps:List (Rw α×Int))(bs:List α)(L:List (Rw α)):Prop where
 bt:∀t,t∈bs↔un t=true/\∃b∈S,t∈b.2
 bn:bs.Nodup
 ln:L.Nodup
 lm:∀v,v∈L↔∃g,tD un db S g/\v=bs.map g
 ct:∀x∈maps,x.2=ac9 L λv=>ind (image bs v kept=x.1)
variable{un:α->Bool}{db:α->List (Rw α)}{atoms:List (uw α)}{head:List α}{S left:List (uw α)}{kept:List α}{maps:List (Rw α×Int)}{bs:List α}{L:List (Rw α)}
end
section
variable{α:Type}[DecidableEq α]
def AW{xs ts:List α}{l:List (Rw α×Int)}:(narrowed l xs ts).length<=l.length:=by
 have gen:∀(l m:List (Rw α×Int)),(l.foldl (λm x=>tT m (image xs x.1 ts) x.2) m).length<=m.length+l.length:=by
  intro l
  induction l with
  |nil=>intro m;exact ar _
  |cons y l ih=>
   intro m;refine aD (ih _) ?_;have:(tT m (image xs y.1 ts) y.2).length<=m.length+1:=by
    unfold tT;split
    ·rw[ak];lia
    ·rw[aO];exact ar _
   dsimp only;rw[bx];lia
 have:=gen l [];rw[d5,vO]at this;exact this
variable{un:α->Bool}{db:α->List (Rw α)}{S S1 S2:List (uw α)}{us us1 us2 vals h1 h2:List α}
end
end AskP
namespace hZ
open PySem
abbrev Atom:=Str×Aah
abbrev iC:=List (Str×Str)
section
variable(gH:Str->Bool)
def ap(h:Str->Str)(t:Str):Str:=if gH t then h t else t
def Fits(D:List Atom)(h:Str->Str)(as:List Atom):Prop:=∀a∈as,(a.1,a.2.map (ap gH h))∈D
def kg(g:iC)(h:Str->Str):Prop:=∀p∈g,h p.1=p.2
def Can(D:List Atom)(g:iC)(as:List Atom):Prop:=∃h,kg g h/\Fits gH D h as
def Sy(as:List Atom):Aah:=(as.map λa=>a.2.filter gH).flatten
def keys(g:iC):Aah:=g.map (·.1)
def get(g:iC)(u:Str):Option Str:=(g.find? λp=>decide (p.1=u)).map (·.2)
def nZ(g g':iC):Prop:=∀u v,get g u=some v->get g' u=some v
end
section
variable{gH:Str->Bool}{g g':iC}{h:Str->Str}{as:List Atom}
def get_some{u v:Str}(h:get g u=some v):(u,v)∈g:=by unfold get at h;obtain⟨p,hp,rfl⟩:=aX.mp h;have:=List.find?_some hp;have e:p.1=u:=bj this;rw[<-e];exact jN hp
def get_none{u:Str}:get g u=none↔u∉keys g:=by
 unfold get keys;rw[xj,tG];constructor
 ·intro h q;obtain⟨p,hp,e⟩:=aR.mp q;exact h p hp (bp e)
 ·intro h p hp q;exact h (aR.mpr {p,hp,bj q})
def get_mem(nd:(keys g).Nodup){u v:Str}(h:(u,v)∈g):get g u=some v:=by
 induction g with
 |nil=>cases h
 |cons p r ih=>
  unfold keys at nd;rw[aU,cX]at nd;unfold get;rcases aG.mp h with e|h
  ·rw[dW (p:=λp:Str×Str=>decide (p.1=u)) (bp (by rw[<-e]))];rw[<-e];rfl
  ·have ne:¬decide (p.1=u)=true:=λq=>nd.1 (by
    rw[bj q];exact aR.mpr ⟨_,h,rfl⟩)
   rw[dX (p:=λp:Str×Str=>decide (p.1=u)) ne];exact ih nd.2 h
def kg.get(a:kg g h){u v:Str}(e:get g u=some v):h u=v:=a (u,v) (get_some e)
def Hv(nd:(keys g).Nodup)(e:∀u v,get g u=some v->h u=v):kg g h:=λp hp=>e p.1 p.2 (get_mem nd hp)
def kg.longer(nd:(keys g).Nodup)(l:nZ g g')(a:kg g' h):kg g h:=Hv nd λu v e=>a.get (l u v e)
def over(g:iC)(h:Str->Str)(u:Str):Str:=(get g u).getD (h u)
def Lh(nd:(keys g).Nodup):kg g (over g h):=Hv nd λu v e=>by unfold over;rw[e];rfl
def fit(gH:Str->Bool)(g:iC):Aah->Aah->Option iC
 |[],[]=>some g
 |t::ts,a::as=>if gH t then(match get g t with
   |some m=>if m=a then fit gH g ts as else none
   |none=>fit gH (g++[(t,a)]) ts as)else if t=a then fit gH g ts as else none
 |_,_=>none
def Na{u v x:Str}(n:get g u=none):get (g++[(u,v)]) x=if x=u then some v else get g x:=by
 unfold get at n⊢;rw[List.find?_append];by_cases c:x=u
 ·subst c;rw[aC rfl,xj.mp n];simp
 ·rw[az c];cases q:g.find? λp=>decide (p.1=x)with
  |none=>
   have:([(u,v)]:iC).find? (λp=>decide (p.1=x))=none:=by rw[tG];intro p hp;rw[ay.mp hp];simpa usingλe=>c e.symm
   rw[this];rfl
  |some p=>rfl
def Oo{u v:Str}(n:get g u=none):nZ g (g++[(u,v)]):=λx y e=>by
 rw[Na n];split
 next c=>rw[c,n]at e;cases e
 next=>exact e
def nZ.refl(g:iC):nZ g g:=λ_ _ h=>h
def nZ.trans{g1 g2 g3:iC}(a:nZ g1 g2)(b:nZ g2 g3):nZ g1 g3:=λu v h=>b u v (a u v h)
def AR{u v:Str}(nd:(keys g).Nodup)(n:get g u=none):(keys (g++[(u,v)])).Nodup:=by unfold keys;rw[aJ];refine eB.mpr {nd,by simp,λa ha b hb=>?_};rw[kM,ay]at hb;rw[hb];rintro rfl;exact get_none.mp n ha
theorem rS:∀{ts as:Aah}{g g':iC},(keys g).Nodup->fit gH g ts as=some g'->(keys g').Nodup/\nZ g g'/\(∀u,u∈keys g'↔u∈keys g\/(u∈ts/\gH u=true))/\∀h,kg g' h->ts.map (ap gH h)=as
 |[],[],g,g',nd,e=>by cases e;exact{nd,nZ.refl g,λu=>by simp,λh _=>rfl}
 |[],_::_,g,g',nd,e=>by cases e
 |_::_,[],g,g',nd,e=>by cases e
 |t::ts,a::as,g,g',nd,e=>by
  unfold fit at e;split at e
  next ut=>
   split at e
   next m em=>
    split at e
    next ma=>
     obtain⟨n1,l1,k1,f1⟩:=rS nd e;have tk:t∈keys g:=by
      by_cases q:t∈keys g
      ·exact q
      ·rw[get_none.mpr q]at em;cases em
     refine{n1,l1,λu=>?_,λh ag=>?_}
     ·rw[k1];constructor
      ·rintro(h|⟨h,h2⟩)
       ·exact .inl h
       ·exact .inr {aB _ h,h2}
      ·rintro(h|⟨h,h2⟩)
       ·exact .inl h
       ·rcases aG.mp h with rfl|h
        ·exact .inl tk
        ·exact .inr ⟨h,h2⟩
     ·rw[aU,f1 h ag];have:ap gH h t=a:=by unfold ap;rw[aC ut,ag.get (l1 t m em),ma]
      rw[this]
    next=>cases e
   next em=>
    obtain⟨n1,l1,k1,f1⟩:=rS (AR nd em) e;refine{n1,(Oo em).trans l1,λu=>?_,λh ag=>?_}
    ·rw[k1];have:u∈keys (g++[(t,a)])↔u∈keys g\/u=t:=by unfold keys;rw[aJ,bf];exact or_congr_right ay
     rw[this];constructor
     ·rintro((h|rfl)|⟨h,h2⟩)
      ·exact .inl h
      ·exact .inr ⟨aA,ut⟩
      ·exact .inr {aB _ h,h2}
     ·rintro(h|⟨h,h2⟩)
      ·exact .inl (.inl h)
      ·rcases aG.mp h with rfl|h
       ·exact .inl (.inr rfl)
       ·exact .inr ⟨h,h2⟩
    ·rw[aU,f1 h ag];have:ap gH h t=a:=by unfold ap;rw[aC ut];exact ag.get (l1 t a (by rw[Na em,aC rfl]))
     rw[this]
  next ut=>
   split at e
   next ta=>
    obtain⟨n1,l1,k1,f1⟩:=rS nd e;refine{n1,l1,λu=>?_,λh ag=>?_}
    ·rw[k1];constructor
     ·rintro(h|⟨h,h2⟩)
      ·exact .inl h
      ·exact .inr {aB _ h,h2}
     ·rintro(h|⟨h,h2⟩)
      ·exact .inl h
      ·rcases aG.mp h with rfl|h
       ·exact absurd h2 ut
       ·exact .inr ⟨h,h2⟩
    ·rw[aU,f1 h ag];have:ap gH h t=a:=by unfold ap;rw[az ut,ta]
     rw[this]
   next=>cases e
theorem Fd:∀{ts:Aah}{g:iC},(keys g).Nodup->kg g h->∃g',fit gH g ts (ts.map (ap gH h))=some g'/\kg g' h
 |[],g,nd,ag=>⟨g,rfl,ag⟩
 |t::ts,g,nd,ag=>by
  rw[aU];unfold fit;by_cases ut:gH t=true
  ·rw[aC ut];have ea:ap gH h t=h t:=by unfold ap;rw[aC ut]
   cases em:get g t with
   |some m=>
    rw[ea];show∃g',(if m=h t then fit gH g ts (ts.map (ap gH h))else none)=some g'/\_;rw[aC (ag.get em).symm];exact Fd nd ag
   |none=>
    show∃g',fit gH (g++[(t,ap gH h t)]) ts (ts.map (ap gH h))=some g'/\_;refine Fd (AR nd em) λp hp=>?_;rcases bf.mp hp with q|q
    ·exact ag p q
    ·rw[ay.mp q];exact ea.symm
  ·rw[az ut];have ea:ap gH h t=t:=by unfold ap;rw[az ut]
   rw[ea,aC rfl];exact Fd nd ag
end
section
variable(gH:Str->Bool)(g:iC)
def abW(p:List Atom)(a:Atom):Bool:=p.any λo=>(a.2.filter λt=>gH t&&(get g t).isNone).any λt=>decide (t∈o.2)
def step(a:Atom):List (List Atom)->List Atom×List (List Atom)
 |[]=>([a],[])
 |ps=>ps.foldl (λacc p=>if abW gH g p a then(p++acc.1,acc.2)else(acc.1,acc.2++[p])) ([a],[])
def Apart(p q:List Atom):Prop:=∀u,u∈Sy gH p->u∈Sy gH q->u∈keys g
end
section
variable{gH:Str->Bool}{g:iC}
structure Stp(gH:Str->Bool)(g:iC)(a:Atom)(done:List (List Atom))(x:List Atom×List (List Atom)):Prop where
 mem:∀b,(b∈x.1\/∃p∈x.2,b∈p)↔(b=a\/∃p∈done,b∈p)
 len:x.1.length+(x.2.map List.length).sum=1+(done.map List.length).sum
 one:∀p∈x.2,Apart gH g p x.1
 two:x.2.Pairwise (Apart gH g)
 sub:∀p∈x.2,p∈done
 mrg:∀r,Apart gH g r [a]->(∀p∈done,Apart gH g r p)->Apart gH g r x.1
 ne:x.1≠[]
end
section
variable(gH:Str->Bool)(D:List Atom)
structure Got(g g':iC)(as:List Atom):Prop where
 nd:(keys g').Nodup
 lg:nZ g g'
 ks:∀u,u∈keys g'↔u∈keys g\/u∈Sy gH as
 ft:∀h,kg g' h->Fits gH D h as
def Res(g:iC)(as:List Atom):Option iC->Prop
 |none=>¬Can gH D g as
 |some g'=>Got gH D g g' as
end
end hZ
namespace L2
open PySem PySem.Spec PyProof.Rows
section
variable{K:Frag}{a b:Addr}{xs zs:Aao}{fr:List Nat}{tt:TT}{te:TE}{Z:St}{H1:Hp}{R:Addr->Aao->Hp->Prop}
def Pc(Pv:Nat->Aao->Hp->Prop)(hx:xs.length<sizeLine)(le:xs.length=zs.length)(h0:Pv 0 [] H1)(hl:∀i ys H,i<=xs.length->Pv i ys H->(bF K H a xs/\bF K H b zs)/\ys.length<=i)
  (hs:∀(i:Nat)(x z:V)(p:Addr)(ys:Aao)(H:Hp)(N:Aao->Hp->Prop),xs[i]?=some x->zs[i]?=some z->Pv i ys H->H p=none->(∀jC H',Pv (i+1) jC H'->N jC H')->
   tt (some x::some z::slotsOf fr Z) (upd H p (.tup [x,z])) λt H4=>if t=true then te (some x::some z::slotsOf fr Z) H4 (λy H5=>N (ys++[y]) H5)else N ys H4)
  (hd:∀ys H,Pv xs.length ys H->∀l,H l=none->R l ys H):Sl (Nw K a b) 2 fr (WR K) tt te Z H1 R:=by
 refine{λi m ys H=>m=xs.length -i/\i<=xs.length/\Pv i ys H,{xs.length,by simp,aP _,h0},?_};rintro i m ys H ⟨rfl,hi,p⟩;obtain⟨⟨q1,q2⟩,hy⟩:=hl i ys H hi p;by_cases bJ:i<xs.length
 ·refine .inr {{xs,zs,xs[i],zs[i]'∅,q1,q2,au bJ,au _},by lia,?_};rintro v H3 ⟨r,u,z,rfl,hr,rfl,y1,y2⟩ own ho;have h:=hs i u z r ys H (λjC H'=>∃m',m'<xs.length -i/\m'=xs.length -(i+1)/\i+1<=xs.length/\Pv (i+1) jC H') (y1 xs q1) (y2 zs q2) p hr λjC H' p'=>{_,by lia,rfl,bJ,p'};exact X7 ho rfl (bF.of aw) {[some u,some z],rfl,rfl,h}
 ·have e:i=xs.length:=by lia
  subst e;exact .inl {⟨xs,q1,rfl⟩,by lia,hd ys H p}
end
end L2
namespace L2
open PySem PySem.Spec PyProof.Rows PySem.W
section
variable{X:Cx}
inductive Mj(K:Frag)(x:V)(vs:Aao)(H:Hp)(Q:VK):Prop
 |mk (l:Addr) (zs:Aah) (z:Str) (j:Nat) (_:x=.ref l) (_:vs=[.str z]) (_:bF K H l (zs.map V.str)) (_:zs[j]?=some z) (_:(∀m,m<j->zs[m]?≠some z)) (_:Q (.int (j:Int)) H)
def QD:Sh X "tuple.index" (Mj X.K):=by
 intro pins s Z H x vs v us Q I rx rv h;obtain⟨l,zs,z,j,rfl,rfl,hH,hj,E2,q⟩:=h;cases rx;obtain⟨u,rfl,ru⟩:=rv.one;obtain⟨t,rfl⟩:=ru;obtain⟨aY,r,ht,hl⟩:=I.tuple hH;obtain⟨o,ho,hc,n,hd⟩:=ht;have lz:=r.length;rw[ak]at lz;have eat:∀m:Nat,m<aY.length->∃y t',aY[m]?=some (.str y t')/\zs[m]?=some y:=λm hm=>by
  have hz:m<zs.length:=by lia
  obtain⟨u',xY,t',rfl⟩:=r.get (i:=m) (x:=.str zs[m]) (by rw[aK,au hz];rfl);exact{zs[m],t',xY,au hz}
 have sW:j<aY.length:=by have:=(ax.mp hj).1;lia
 refine bz F.slot_tuple_index ⟨_,ho,hc⟩ F.entry_tuple_index ?_ (F.args_tuple_index_2 _ _);unfold Builtin.«tuple.index»;refine af (ao ?_);refine af (af (bY ho hd (ao ?_)));refine af (ao (af (ao ?_)));dsimp only;rw[Nat.min_self,mL];have hsz:([0:aY.toArray.size]:Std.Legacy.Range).size=aY.length:=by simp[Std.Legacy.Range.size]
 refine af (dc (jS _ (λl b s'=>∃m,l=List.range' m (aY.length -m) 1/\m<=j/\b=(none,())/\s'=s) (λb s'=>∃tk,b=(some (PySem.Fin.done (Flow.ret (.int j tk))),())/\s'={s with toks:=s.toks+1}) ?_ ?_ _ _ {0,?_,aP _,rfl,rfl}) ?_ λ_ _ e=>e)
 ·rintro x rest b s' ⟨m,el,mj,rfl,rfl⟩;obtain⟨k,hk⟩:∃k,aY.length -m=k+1:={aY.length -m -1,by lia};rw[hk,List.range'_succ]at el;obtain⟨rfl,rfl⟩:=List.cons.inj el;obtain⟨y,t',e1,e2⟩:=eat x ∅;have e3:aY.toArray[x]?=some (.str y t'):=by rw[<-e1];simp
  rw[e3];refine af (Hw.eq_str ?_);by_cases e:x=j
  ·subst e;rw[hj]at e2;cases e2;rw[bp rfl];exact af (af (CA (ao (ao ⟨_,rfl,rfl⟩))))
  ·have ne:y≠z:=λq=>E2 x ∅ (by rw[e2,q]);rw[bQ ne];exact ao {x+1,by rw[show aY.length -(x+1)=k by lia],by lia,rfl,rfl}
 ·rintro b s' ⟨m,el,mj,rfl,rfl⟩;have:aY.length -m=0:=by have:=bU List.length el;simpa using this.symm
  lia
 ·show List.range' 0 ([0:aY.toArray.size]:Std.Legacy.Range).size 1=_;rw[hsz];rfl
 ·rintro b s' ⟨tk,rfl,rfl⟩;exact ao {_,rfl,{.int _,H,I.tok _,⟨_,rfl⟩,q}}
def yS{K:Frag}(h:X.K=K:=by rfl):Sh X "tuple.index" (Mj K):=h▸QD
end
end L2
namespace L2
open PySem PySem.Spec PyProof.Rows
section
variable{P:Program}{w:World}{A:Around}{E:Aae}{v:Shared}
structure Zu(h:Heap)(z ti to i1 i2 l1 l2 T:Addr)(k:Nat):Prop where
 self:∃b,h.get? z=some (yy (rawInt T) b ti to)
 live:∃o,h.get? T=some o
 ins:IsPair h ti (.ref i1) (.ref i2)
 w1:h.IsTupleIter i1 l1 k
 w2:h.IsTupleIter i2 l2 k
def Xe{Q:Aae}(D:ZipApart z ti to i1 i2 l1 l2)(nT:T≠z)(g:Zu v.heap z ti to i1 i2 l1 l2 T k)
  (t1:v.heap.IsTuple l1 xs) (t2:v.heap.IsTuple l2 ys) (ex:xs[k]?=some x) (ey:ys[k]?=some y)
  (q:∀h',Zu h' z ti to i1 i2 l1 l2 T (k+1)->IsPair h' v.heap.objs.size x y->(∀c o,c≠z->c≠i1->c≠i2->v.heap.get? c=some o->h'.get? c=some o)->Q (.ref v.heap.objs.size) {v with heap:=h'}):
  wpAny (-29) A (-50) (λfin s'=>∃u,fin=.done (.ret u)/\Q u s') E v:=by
 obtain⟨⟨b,gs⟩,gT,gi,g1,g2⟩:=g;show wpAny _ _ (field (.ref z) 2>>=_) _ _ _;refine af (bO gs rfl rfl ?_);refine af (bO gs rfl rfl ?_);refine af (bY gi rfl ?_);refine af (Lz gs gT λp1 z1 r1=>?_);refine af ?_;refine af (af (bP ?_));refine af (uH (jq g1 r1 D.i1z) (om t1 r1 D.l1z) ex λp2 k2 r2=>ao ?_);refine ao ?_;refine af (af (bP ?_));refine af (uH (jq (jq g2 r1 D.i2z) r2 D.i12.symm) (om (om t2 r1 D.l2z) r2 D.l2i1) ey λp3 k3 r3=>ao ?_);refine ao (ao ?_);show wpAny _ _ (newTuple [x,y]>>=_) _ _ _;refine af (lq (ao {_,rfl,?_}));have sz:p3.objs.size=v.heap.objs.size:=by rw[r3.1,r2.1,r1.1]
 have z3:=r3.extBut _ _ D.i2z.symm (r2.extBut _ _ D.i1z.symm z1);have st:∀c o,c≠z->c≠i1->c≠i2->v.heap.get? c=some o->p3.get? c=some o:=λc o m1 m2 m3 e=>r3.extBut _ _ m3 (r2.extBut _ _ m2 (r1.extBut _ _ m1 e));have j1:=jq k2 r3 D.i12;rw[sz];obtain⟨oa,ja,ra⟩:=j1;obtain⟨ob,jb,rb⟩:=k3;obtain⟨oT,gT⟩:=gT;obtain⟨o1,e1,c1,_⟩:=g1;obtain⟨o2,e2,c2,_⟩:=g2;refine q _ {{true,aq _ z3},?_,aq _ (st _ _ D.TIz D.TIi1 D.TIi2 gi),{oa,aq _ ja,ra},{ob,aq _ jb,rb}} ?_ λc o m1 m2 m3 e=>aq _ (st c o m1 m2 m3 e)
 ·by_cases n1:T=i1
  ·rw[n1];exact{oa,aq _ ja}
  ·by_cases n2:T=i2
   ·rw[n2];exact{ob,aq _ jb}
   ·exact{oT,aq _ (st _ _ nT n1 n2 gT)}
 ·have:=aF p3 (o:={cls:=.type "tuple",data:=.seq #[x,y]}) rfl;rw[sz]at this;exact this
def Y6(hh:A.handled=none)(D:ZipApart z ti to i1 i2 l1 l2)(g:Zu v.heap z ti to i1 i2 l1 l2 T k)
  (t1:v.heap.IsTuple l1 xs) (ex:xs[k]?=none)
  (q:∀h' e,(∀c o,c≠z->c≠i1->c≠i2->v.heap.get? c=some o->h'.get? c=some o)->(∃o,h'.get? e=some o/\o.cls=.type "StopIteration")->E (.ref e) {v with heap:=h'}):
  wpAny (-29) A (-50) Q E v:=by
 obtain⟨⟨b,gs⟩,gT,gi,g1,g2⟩:=g;show wpAny _ _ (field (.ref z) 2>>=_) _ _ _;refine af (bO gs rfl rfl ?_);refine af (bO gs rfl rfl ?_);refine af (bY gi rfl ?_);refine af (Lz gs gT λp1 z1 r1=>?_);refine af ?_;refine af (af (bP ?_));exact af (xO hh (jq g1 r1 D.i1z) (om t1 r1 D.l1z) ex λp2 e r2 he=>q p2 e (λc o m1 m2 m3 x=>r2 _ _ m2 (r1.extBut _ _ m1 x)) he)
def Xd(D:ZipApart z ti to i1 i2 l1 l2)(nT:T≠z)(g:Zu v.heap z ti to i1 i2 l1 l2 T k)
  (t1:v.heap.IsTuple l1 xs) (t2:v.heap.IsTuple l2 ys) (ex:xs[k]?=some x) (ey:ys[k]?=some y)
  (q:∀h',Zu h' z ti to i1 i2 l1 l2 T (k+1)->IsPair h' v.heap.objs.size x y->(∀c o,c≠z->c≠i1->c≠i2->v.heap.get? c=some o->h'.get? c=some o)->Q (some (.ref v.heap.objs.size)) {v with heap:=h'}):
  wpAny (-29) A (pyNext (.ref z)) Q E v:=by
 obtain⟨b,gs⟩:=g.self;have ty:v.TypeIs (.ref z) "zip":=⟨_,gs,rfl⟩;unfold pyNext;exact af (dZ (wpAny_callSpecial?_slot ty eM (bz eM ty j9 (Xe D nT g t1 t2 ex ey λh' b1 b2 b3=>ao (q h' b1 b2 b3)) (jJ _))))
def Xc(hh:A.handled=none)(D:ZipApart z ti to i1 i2 l1 l2)(g:Zu v.heap z ti to i1 i2 l1 l2 T k)
  (t1:v.heap.IsTuple l1 xs) (ex:xs[k]?=none) (q:∀h',(∀c o,c≠z->c≠i1->c≠i2->v.heap.get? c=some o->h'.get? c=some o)->Q none {v with heap:=h'}):
  wpAny (-29) A (pyNext (.ref z)) Q E v:=by
 obtain⟨b,gs⟩:=g.self;have ty:v.TypeIs (.ref z) "zip":=⟨_,gs,rfl⟩;unfold pyNext;refine af (dZ (wpAny_callSpecial?_slot ty eM (bz eM ty j9 (Y6 hh D g t1 ex λh' e hk he=>?_) (jJ _))));obtain⟨o,ho,hc⟩:=he;exact af (f6 ⟨o,ho,hc⟩ jR (ao (q _ hk)))
variable{prog:Program}
def YK{h0:Heap}(hA:A.handled=none)(D:ZipApart z ti to i1 i2 l1 l2)(gE:h0.get? d=none)(n1:d≠z)(n2:d≠i1)(n3:d≠i2)(n4:d≠ti)
  (pk:h0.IsTuple l1 us.toArray) (jF:h0.IsTuple l2 vs.toArray) (hp:Paired (-63) us pairs) (hv:vs=pairs.map (·.2)) (hsz:pairs.length<=sizeLine) (g:Array GenState) (dr:Drawn) (os:OsState)
  (k:∀h' tk,(∀b o,b≠z->b≠to->b≠i1->b≠i2->h0.get? b=some o->h'.get? b=some o)->h'.DictOf (bH prog w) d (merged [] pairs)->R (.ok (.ret .none)) ⟨h',g,dr,tk,os⟩):
  ∀(m i:Nat)(h:Heap)(tk:Nat)(T:Addr),us.length -i=m->i<=us.length->(∀b o,b≠z->b≠to->b≠i1->b≠i2->h0.get? b=some o->h.get? b=some o)->T≠z->Zu h z ti to i1 i2 l1 l2 T i->h.DictOf (bH prog w) d (merged [] (pairs.take i))->
   codeAny (-5) A (.builtin "dict.update.loop" {[.ref d,.ref z,rawInt i,.none],[]}) R ⟨h,g,dr,tk,os⟩:=by
 intro m;have lp:=bw hp;have V8:∀(h:Heap),(∀b o,b≠z->b≠to->b≠i1->b≠i2->h0.get? b=some o->h.get? b=some o)->h.IsTuple l1 us.toArray/\h.IsTuple l2 vs.toArray:=λh kp=>by obtain⟨o1,e1,r1⟩:=pk;obtain⟨o2,e2,r2⟩:=jF;exact{{o1,kp _ _ D.l1z D.l1TO D.l1i1 D.l1i2 e1,r1},{o2,kp _ _ D.l2z D.l2TO D.l2i1 D.l2i2 e2,r2}}
 induction m with
 |zero=>
  intro i h tk T em hi kp nT hz hd;have ei:i=us.length:=by lia
  refine dv rU ?_;unfold Builtin.«dict.update.loop»;refine af (Xc (show(A.under _).handled=none from hA) D hz (V8 h kp).1 (by rw[ei];simp) λh' hs=>?_);refine af (ao (ao ?_));rw[ei,lp,aV]at hd;obtain⟨o,es,ep,e,r⟩:=hd;exact k h' _ (λb o m1 m2 m3 m4 hb=>hs b o m1 m3 m4 (kp b o m1 m2 m3 m4 hb)) {o,es,ep,hs _ _ n1 n2 n3 e,r}
 |succ m ih=>
  intro i h tk T em hi kp nT hz hd;have bJ:i<us.length:=by lia
  obtain⟨x,hx⟩:∃x,us[i]?=some x:={_,au bJ};obtain⟨kv,jd,Rp⟩:=Paired.at' hp hx;have hy:vs[i]?=some kv.2:=by rw[hv,aK,jd];rfl
  refine dv rU ?_;unfold Builtin.«dict.update.loop»;obtain⟨t1,t2⟩:=V8 h kp;refine af (Xd D nT hz t1 t2 (by simpa using hx) (by simpa using hy) λh1 wx pr wz=>?_);have A2:=λb o m1 m2 m3 m4 hb=>wz b o m1 m3 m4 (kp b o m1 m2 m3 m4 hb);obtain⟨od,es,ep,ed,rd⟩:=hd;have ug:h1.DictOf (bH prog w) d (merged [] (pairs.take i)):={od,es,ep,wz _ _ n1 n2 n3 ed,rd};refine af (bP (af (xu ?_)));unfold Builtin.Dict.pairItems;refine af (fZ ⟨_,pr,rfl⟩ ?_);rw[aC (-8)];refine af (bY pr rfl (ao ?_));have lm:(merged [] (pairs.take i)).length<=sizeLine:=by have e1:=pQ [] (pairs.take i);rw[aT]at e1;simp only[d5]at e1;lia
  refine bP (rh Rp ug λh2 hd2 kH=>?_);refine ao {jj _ (-3),?_};have st:∀b o,b≠d->h1.get? b=some o->h2.get? b=some o:=λb o n e=>(kH.2 b n).trans e;have vv:=λb o m1 m2 m3 m4 hb=>st b o (λe=>by rw[e,gE]at hb;cases hb) (A2 b o m1 m2 m3 m4 hb);obtain⟨⟨b,gs⟩,⟨oT,gT⟩,gi,⟨oa,ja,ra⟩,⟨ob,jb,rb⟩⟩:=wx;have xV:Zu h2 z ti to i1 i2 l1 l2 T (i+1):=by
   refine{{b,st _ _ (cb n1) gs},?_,st _ _ (cb n4) gi,{oa,st _ _ (cb n2) ja,ra},{ob,st _ _ (cb n3) jb,rb}};by_cases nd:T=d
   ·obtain⟨o',_,_,e',_⟩:=hd2;rw[nd];exact⟨o',e'⟩
   ·exact{oT,st _ _ nd gT}
  exact ih (i+1) h2 _ T ∅ bJ vv nT xV (by rw[vm [] pairs i kv jd];exact hd2)
def UK{h0 h:Heap}(hA:A.handled=none)(D:ZipApart z ti to i1 i2 l1 l2)(gE:h0.get? d=none)(n1:d≠z)(n2:d≠i1)(n3:d≠i2)(n4:d≠ti)(n5:d≠to)
  (pk:h0.IsTuple l1 us.toArray) (jF:h0.IsTuple l2 vs.toArray) (hp:Paired (-63) us pairs) (hv:vs=pairs.map (·.2)) (hsz:pairs.length<=sizeLine) (h1l:1<=us.length) (g:Array GenState) (dr:Drawn) (os:OsState)
  (k:∀h' tk,(∀b o,b≠z->b≠to->b≠i1->b≠i2->h0.get? b=some o->h'.get? b=some o)->h'.DictOf (bH prog w) d (merged [] pairs)->R (.ok (.ret .none)) ⟨h',g,dr,tk,os⟩)
  (kp:∀b o,b≠z->b≠to->b≠i1->b≠i2->h0.get? b=some o->h.get? b=some o) (hz:IsZip h z ti to .none) (hi:IsPair h ti (.ref i1) (.ref i2)) (ho:∃a b,IsPair h to a b) (j1:h.IsTupleIter i1 l1 0) (j2:h.IsTupleIter i2 l2 0) (hd:h.DictOf (bH prog w) d []):
   codeAny (-5) A (.builtin "dict.update.loop" {[.ref d,.ref z,rawInt 0,.none],[]}) R ⟨h,g,dr,tk,os⟩:=by
 obtain⟨x,hx⟩:∃x,us[0]?=some x:={_,au ∅};obtain⟨kv,jd,Rp⟩:=Paired.at' hp hx;have hy:vs[0]?=some kv.2:=by rw[hv,aK,jd];rfl
 have t1:h.IsTuple l1 us.toArray:=by obtain⟨o1,e1,r1⟩:=pk;exact{o1,kp _ _ D.l1z D.l1TO D.l1i1 D.l1i2 e1,r1}
 have t2:h.IsTuple l2 vs.toArray:=by obtain⟨o2,e2,r2⟩:=jF;exact{o2,kp _ _ D.l2z D.l2TO D.l2i1 D.l2i2 e2,r2}
 refine dv rU ?_;unfold Builtin.«dict.update.loop»;obtain⟨a,b,ho⟩:=ho;have lz:=aI hz;refine af (Ly {D.TITO,D.i12,D.l1TO,D.l2TO} {hz,hi,⟨a,b,ho⟩,j1,j2} t1 t2 (by simpa using hx) (by simpa using hy) λh1 adI a5 wz=>?_);obtain⟨a1,_,_,a3,a4⟩:=adI;obtain⟨od,es,ep,ed,rd⟩:=hd;have ug:h1.DictOf (bH prog w) d []:={od,es,ep,wz _ _ n1 n5 n2 n3 ed,rd};refine af (bP (af (xu ?_)));unfold Builtin.Dict.pairItems;refine af (fZ ⟨_,a5,rfl⟩ ?_);rw[aC (-8)];refine af (bY a5 rfl (ao ?_));refine bP (rh Rp ug λh2 hd2 kH=>?_);refine ao {jj _ (-3),?_};have st:∀b o,b≠d->h1.get? b=some o->h2.get? b=some o:=λb o n e=>(kH.2 b n).trans e;obtain⟨oa,ja,ra⟩:=a3;obtain⟨ob,jb,rb⟩:=a4;have xV:Zu h2 z ti to i1 i2 l1 l2 h.objs.size 1:=by
  refine{{false,st _ _ (cb n1) a1},?_,st _ _ (cb n4) (wz _ _ D.TIz D.TITO D.TIi1 D.TIi2 hi),{oa,st _ _ (cb n2) ja,ra},{ob,st _ _ (cb n3) jb,rb}};by_cases nd:h.objs.size=d
  ·obtain⟨o',_,_,e',_⟩:=hd2;rw[nd];exact⟨o',e'⟩
  ·exact{_,st _ _ nd a5}
 exact YK hA D gE n1 n2 n3 n4 pk jF hp hv hsz g dr os k (us.length -1) 1 h2 _ h.objs.size rfl ∅ (λb o m1 m2 m3 m4 hb=>st b o (λe=>by rw[e,gE]at hb;cases hb) (wz b o m1 m2 m3 m4 (kp b o m1 m2 m3 m4 hb))) (bA lz) xV (by rw[vm [] pairs 0 kv jd];exact hd2)
def aby{h0 h:Heap}(hA:A.handled=none)(D:ZipApart z ti to i1 i2 l1 l2)(gE:h0.get? d=none)(n1:d≠z)(n2:d≠i1)(n3:d≠i2)(n4:d≠ti)(n5:d≠to)
  (pk:h0.IsTuple l1 us.toArray) (jF:h0.IsTuple l2 vs.toArray) (hp:Paired (-63) us pairs) (hv:vs=pairs.map (·.2)) (hsz:pairs.length<=sizeLine) (g:Array GenState) (dr:Drawn) (os:OsState)
  (k:∀h' tk,(∀b o,b≠z->b≠to->b≠i1->b≠i2->h0.get? b=some o->h'.get? b=some o)->h'.DictOf (bH prog w) d (merged [] pairs)->R (.ok (.ret .none)) ⟨h',g,dr,tk,os⟩)
  (kp:∀b o,b≠z->b≠to->b≠i1->b≠i2->h0.get? b=some o->h.get? b=some o) (hz:IsZip h z ti to .none) (hi:IsPair h ti (.ref i1) (.ref i2)) (ho:∃a b,IsPair h to a b) (j1:h.IsTupleIter i1 l1 0) (j2:h.IsTupleIter i2 l2 0) (hd:h.DictOf (bH prog w) d []):
   codeAny (-5) A (.builtin "dict.update.loop" {[.ref d,.ref z,rawInt 0,.none],[]}) R ⟨h,g,dr,tk,os⟩:=by
 by_cases h1l:1<=us.length
 ·exact UK hA D gE n1 n2 n3 n4 n5 pk jF hp hv hsz h1l g dr os k kp hz hi ho j1 j2 hd
 ·have lp:=bw hp;have e1:us=[]:=ff.mp ∅;have e2:pairs=[]:=ff.mp ∅;subst e1 e2;have t1:h.IsTuple l1 ([]:Aag).toArray:=by obtain⟨o1,e1,r1⟩:=pk;exact{o1,kp _ _ D.l1z D.l1TO D.l1i1 D.l1i2 e1,r1}
  have t2:h.IsTuple l2 vs.toArray:=by obtain⟨o2,e2,r2⟩:=jF;exact{o2,kp _ _ D.l2z D.l2TO D.l2i1 D.l2i2 e2,r2}
  refine dv rU ?_;unfold Builtin.«dict.update.loop»;obtain⟨a,b,ho⟩:=ho;refine af (Lx (show(A.under _).handled=none from hA) {D.TITO,D.i12,D.l1TO,D.l2TO} {hz,hi,⟨a,b,ho⟩,j1,j2} t1 (-9) λh' hs=>?_);refine af (ao (ao ?_));obtain⟨o,es,ep,e,r⟩:=hd;exact k h' _ (λb o m1 m2 m3 m4 hb=>hs b o m1 m2 m3 m4 (kp b o m1 m2 m3 m4 hb)) {o,es,ep,hs _ _ n1 n5 n2 n3 e,r}
def UL(hA:A.handled=none)(D:ZipApart z ti to i1 i2 l1 l2)
  (pk:s.heap.IsTuple l1 us.toArray) (jF:s.heap.IsTuple l2 vs.toArray) (hp:Paired (-63) us pairs) (hv:vs=pairs.map (·.2)) (hsz:pairs.length<=sizeLine)
  (hz:IsZip s.heap z ti to .none) (hi:IsPair s.heap ti (.ref i1) (.ref i2)) (ho:∃a b,IsPair s.heap to a b) (j1:s.heap.IsTupleIter i1 l1 0) (j2:s.heap.IsTupleIter i2 l2 0)
  (k:∀h' tk,(∀b o,b≠z->b≠to->b≠i1->b≠i2->s.heap.get? b=some o->h'.get? b=some o)->h'.DictOf (bH prog w) s.heap.objs.size (merged [] pairs)->Q (-12) {s with heap:=h',toks:=tk}):
  wpAny (-5) A (call (.type "dict") [.ref z]) Q E s:=by
 refine yi (Q₁:=λv1 z1=>v1=.ref s.heap.objs.size/\z1={s with heap:=s.heap.push {cls:=.type "dict",data:=.dict #[]}}) F.kt_called_dict (zy _) Cw (kt_code_dict_new _ ⟨rfl,rfl⟩) ?_;rintro v1 z1 ⟨rfl,rfl⟩;obtain⟨km,g,dr,tk,os⟩:=s;have DK:(km.push {cls:=.type "dict",data:=.dict #[]}).DictOf (bH prog w) km.objs.size []:=wK km;have wx:(km.push {cls:=.type "dict",data:=.dict #[]}).get? z=some (yy .none false ti to):=aq _ hz;refine{DK.typeIs,BO _ _,?_};unfold Builtin.«dict.__init__»;refine af ?_;unfold Builtin.Dict.selfAndRest;refine af (jm DK.typeIs (ao ?_));show wpAny (-5) _ (Builtin.Dict.updateFrom "dict.__init__" km.objs.size (.ref z) [] .none) _ _ _;unfold Builtin.Dict.updateFrom;refine af (fZ ⟨_,wx,rfl⟩ ?_);rw[aC (-8)];refine af (YJ wx hA λh2 tk2 e ne=>?_);rw[aC (-8)];refine af (fP ?_);have kp:∀b o,km.get? b=some o->h2.get? b=some o:=λb o hb=>ne.keeps _ _ (aq _ hb);have xV:=kp _ _ hz;refine af (lN xV ?_);have hd2:h2.DictOf (bH prog w) km.objs.size []:=by obtain⟨o',es,ep,h',r⟩:=DK;exact{o',es,ep,ne.keeps _ _ h',r}
 refine ao {jj _ (-3),?_};obtain⟨a,b,ho⟩:=ho;obtain⟨oa,ja,ra⟩:=j1;obtain⟨ob,jb,rb⟩:=j2;have nz:∀{c:Addr}{o:Obj},km.get? c=some o->km.objs.size≠c:=λe=>bA (aI e);exact aby (show A.in1.handled=none from hA) D (iB (ar _)) (nz hz) (nz ja) (nz jb) (nz hi) (nz ho) pk jF hp hv hsz g dr os (λh' Em CU qh=>{rfl,k h' Em CU qh}) (λb o _ _ _ _ hb=>kp b o hb) xV (kp _ _ hi) {a,b,kp _ _ ho} {oa,kp _ _ ja,ra} {ob,kp _ _ jb,rb} hd2
inductive ab5(K:Frag)(Q:VK)(vs:Aao)(H1:Hp):Prop
 |mk (l1 l2:Addr) (ks:List Key) (ys:Aao) (_:vs=[.ref l1,.ref l2]) (_:bF K H1 l1 (ks.map kV)) (_:bF K H1 l2 ys) (_:ks.length=ys.length) (_:∀d,H1 d=none->Q (.ref d) (upd H1 d (.dK (iO [] (ks.zip ys)))))
def ac7(K:Frag)(ta:TA):TE:=λZ H Q=>ta Z H λvs H1=>ab5 K Q vs H1
variable{X:Cx}
def Jn(hg:Gl X "dict")(hm:X.mg "dict"=none)(Wz:Gl X "zip")(Rj:X.mg "zip"=none)(hA:X.A.handled=none)(ha:PA X [a,b] ta)
  (hs:starEach [a,b] X.env=[(false,eval a X.env),(false,eval b X.env)]:=by rfl) (kH:starEach [b] X.env=[(false,eval b X.env)]:=by rfl) (Kd:starEach [.Call (.Name "zip" p2) [a,b] [] Jg] X.env=[(false,eval (.Call (.Name "zip" p2) [a,b] [] Jg) X.env)]:=by rfl):
  PE X (.Call (.Name "dict" p) [.Call (.Name "zip" p2) [a,b] [] Jg] [] pos) (ac7 X.K ta):=by
 intro pins s Z H Q I h;refine FF (qF I hg hm (by decide+kernel:bootBuiltins "dict"=some (.type "dict")) (d9 ?_ Kd rfl));rw[Kd];refine gk (FF (qF I Wz Rj boot_zip (d9 (qw (ha Jg pins s Z H _ I h) λus s1 vs H1 I1 r1 q1=>?_) (by rw[hs,kH]) (by rw[kH];rfl))));obtain⟨l1,l2,ks,ys,e,h1,h2,MX,q⟩:=q1;subst e;obtain⟨u1,u2,rfl,IT,EA⟩:=vals2 r1;cases IT;cases EA;obtain⟨EV,IS,EE,wx⟩:=I1.tuple h1;obtain⟨A6,IQ,AL,xV⟩:=I1.tuple h2;obtain⟨pairs,wB,iU,iu,G8⟩:=LD IS IQ MX;have b1:l1<s1.heap.objs.size:=by obtain⟨o,e,_⟩:=id EE;exact aI e
 have b2:l2<s1.heap.objs.size:=by obtain⟨o,e,_⟩:=id AL;exact aI e
 have lz:ks.length<=sizeLine:=by rw[ak]at wx;exact wx
 refine LB (show s1.heap.IsTuple l1 EV.toArray from EE) (show s1.heap.IsTuple l2 A6.toArray from AL) λh' n en zt kp=>?_;subst en;have I2:=I1.kept (t':=s1.toks) kp;refine k8 ?_;have t1:h'.IsTuple l1 EV.toArray:=by obtain⟨o,e,r⟩:=id EE;exact{o,kp _ _ e,r}
 have t2:h'.IsTuple l2 A6.toArray:=by obtain⟨o,e,r⟩:=id AL;exact{o,kp _ _ e,r}
 have l0:EV.length=ks.length:=by have:=IS.length;rw[ak]at this;exact this.symm
 refine UL hA (zipApart_new b1 b2) t1 t2 wB iU ∅ zt.self zt.ins zt.outs zt.w1 zt.w2 λh2 tk vv hd=>?_;have rel:=KV.merge iu .nil;have lzm:(iO [] (ks.zip ys)).length<=sizeLine:=by have e1:=pQ [] pairs;rw[rel.length];simp only[d5]at e1;lia
 have kpA:∀c o,s1.heap.get? c=some o->h2.get? c=some o:=λc o e=>by have lc:=aI e;exact vv c o (aL (aZ lc (d7 _ _))) (aL (aZ lc (d7 _ _))) (aL lc) (aL (aZ lc (d7 _ _))) (kp c o e)
 have ld:s1.heap.objs.size<=h'.objs.size:=by exact aD (d7 _ 4) (bu (aI zt.self))
 exact{.ref h'.objs.size,_,I1.laid kpA ld (Bm lzm (dB.mpr (cb (aL (aZ I1.big ld)))) rel hd),rfl,q _ (I1.br.fresh ld)}
inductive XO(x:V)(vs:Aao)(H:Hp)(Q:VK):Prop
 |mk (a b:Addr) (kvs more:List (Key×V)) (_:x=.ref a) (_:vs=[.ref b]) (_:a≠b) (_:H a=some (.dK kvs)) (_:H b=some (.dK more)) (_:kvs.length+more.length<=sizeLine) (_:Q .cE (upd H a (.dK (iO kvs more))))
def QC:Si X "dict.update" XO:=by
 intro pins s Z H x vs v us Q I rx rv h;obtain⟨a,b,kvs,more,rfl,rfl,ne,hH,hb,hl,q⟩:=h;cases rx;obtain⟨u,rfl,r1⟩:=rv.one;cases r1;obtain⟨zz,hd,ws,rel,dd⟩:=oB I.br hH;obtain⟨U9,hd2,ws2,Z2,Nj⟩:=oB I.br hb;refine qR vN dd.typeIs PySem.F.entry_dict_update (PySem.F.args_dict_update_2 _ _) (meets_dict_update (bH X.prog X.w) a b ne hd2) {ws,ws2,dd,Nj,by rw[<-rel.length,<-Z2.length];exact hl,λh' vH _ hs=>?_};have he:∃o,h'.get? a=some o:=let⟨o,_,_,ho,_⟩:=vH;⟨o,ho⟩
 have hlen:=aD (mx more kvs) hl;exact{.cE,_,uU I (by rw[hH];exact True.intro) hs he (Bm hlen hd (Z2.merge rel) vH),rfl,q}
variable{s:Shared}{it d:Addr}{i ep:Nat}{es:Array DictEntry}{o:Obj}
abbrev oK(f0:Value)(b:Bool)(d:Addr)(i n ep:Nat)(ok ov:Value):Obj:={cls:=.type "dict_itemiterator",dict:=none,data:=.fields #[f0,.bool b,.ref d,.int i 0,.int n 0,.int ep 0,ok,ov],slots:=#[]}
def RI(h:Heap)(it d:Addr)(i n ep:Nat):Prop:=∃f0 b ok ov,h.get? it=some (oK f0 b d i n ep ok ov)/\(f0=.none\/∃a:Nat,f0=rawInt a)
def RI.ty(x:RI s.heap it d i es.size ep):s.TypeIs (.ref it) "dict_itemiterator":=by obtain⟨_,_,_,_,e,_⟩:=x;exact⟨_,e,rfl⟩
def RI.jx(x:RI h it d i n ep)(k:∀o,h.get? it=some o->h'.get? it=some o):RI h' it d i n ep:=by obtain⟨f0,b,ok,ov,e,c⟩:=x;exact{f0,b,ok,ov,k _ e,c}
def XM(g:s.heap.get? it=some (oK f0 b d i n ep ok ov))(hf:f0=.none\/∃a:Nat,f0=rawInt a)(q1:Q true s)
  (q2:∀h',h'.get? it=some (oK f0 true d i n ep ok ov)->Heap.SameBut it s.heap h'->Q false {s with heap:=h'}):wpAny (-29) A (Builtin.Dict_items.ownedTupleIsFree (.ref it)) Q E s:=by
 unfold Builtin.Dict_items.ownedTupleIsFree;rcases hf with rfl|⟨a,rfl⟩
 ·exact af (bO g rfl rfl (ao q1))
 ·refine af (bO g rfl rfl ?_);refine af (CB ?_);rw[cZ];cases s.heap.get? a with
  |none=>exact ao q1
  |some u=>
   refine af (bO g rfl rfl ?_);cases b with
   |true=>exact ao (q2 s.heap g (Cu _ _))
   |false=>exact af (cu g (-9) λh1 g1 s1=>ao (q2 h1 g1 s1))
def Mf{Q:Aae}(ic:RI s.heap it d i es.size ep)(ho:s.heap.get? d=some o)(hd:o.data=.dict es ep)(hi:i<es.size)
  (q:∀h',RI h' it d (i+1) es.size ep->h'.get? s.heap.objs.size=some {cls:=.type "tuple",data:=.seq #[es[i].key,es[i].val]}->(∀b x,b≠it->s.heap.get? b=some x->h'.get? b=some x)->h'.objs.size=s.heap.objs.size+1->Q (-12) {s with heap:=h'}):
  wpAny (-29) A (Builtin.«dict_itemiterator.__next__» {[.ref it],[]}) (λfin s'=>∃u,fin=.done (.ret u)/\Q u s') E s:=by
 have hT:=ic.ty;obtain⟨f0,b,ok,ov,hit,hf⟩:=ic;obtain⟨hp,g,dr,tk,os⟩:=s;refine af (ao (af (af (af (ij hT (ao ?_))))));refine af (iP hit rfl ?_);have own:Builtin.Dict_items.ownsTuple "dict_itemiterator"=true:=by decide
 show wpAny _ _ (if(-72)=true then _ else _) _ _ _;rw[az (show ¬((-72)=true)from aW)];refine af (ao (af (gF ho hd ?_)));rw[az (-9)];refine af (ao (af (kF ho hd ?_)));rw[az (-9)];refine ao ?_;simp only[show ¬((i:Int)<0)from by lia,d6,cZ,bD hi];refine af (af (ij hT (ao (af (o8 hT ?_)))));show wpAny _ _ (setField (.ref it) 3 (rawInt ((i:Int)+1))>>=_) _ _ ⟨hp,g,dr,tk,os⟩;refine af (cu hit (-9) λh1 e1 s1=>?_);have e1:h1.get? it=some (oK f0 b d (i+1) es.size ep ok ov):=by
  have e:((i+1:Nat):Int)=(i:Int)+1:=by lia
  unfold oK;rw[e];simpa[rawInt]using e1
 have hT1:Shared.TypeIs ⟨h1,g,dr,tk,os⟩ (.ref it) "dict_itemiterator":=⟨_,e1,rfl⟩;refine af (bP (af (o8 hT1 (af (o8 hT1 ?_)))));unfold Builtin.Dict_items.pairFromOwner;refine af (lq ?_);have lt:=aI hit;have z1:=s1.1;obtain⟨h2,E6⟩:∃h2,h2=h1.push {cls:=.type "tuple",data:=.seq #[es[i].key,es[i].val]}:=⟨_,rfl⟩;have e2:h2.get? it=some (oK f0 b d (i+1) es.size ep ok ov):=by rw[E6];exact aq _ e1
 have t2:h2.get? hp.objs.size=some {cls:=.type "tuple",data:=.seq #[es[i].key,es[i].val]}:=by rw[E6,<-z1];exact aF _ rfl
 have k2:∀b x,b≠it->hp.get? b=some x->h2.get? b=some x:=λb x nb e=>by rw[E6];exact aq _ (s1.extBut b x nb e)
 have z2:h2.objs.size=hp.objs.size+1:=by rw[E6,cB,z1]
 rw[<-E6,z1];refine af (XM e2 hf ?_ λh3 e3 s3=>?_)
 ·simp only[lD];refine af (bO e2 rfl rfl (af (bO e2 rfl rfl ?_)));refine af (cu e2 (-9) λh3 e3 s3=>?_);refine af (cu e3 (-9) λh4 e4 s4=>?_);refine af (cu e4 (-9) λh5 e5 s5=>?_);refine af (cu e5 (-9) λh6 e6 s6=>?_);have up:=λb x nb e=>s6.extBut b x nb (s5.extBut b x nb (s4.extBut b x nb (s3.extBut b x nb e)));exact af (mG (ao (ao {_,rfl,q h6 {_,_,_,_,e6,.inr ⟨_,rfl⟩} (up _ _ (bA lt) t2) (λb x nb e=>up b x nb (k2 b x nb e)) (by rw[s6.1,s5.1,s4.1,s3.1,z2])})))
 ·have s3:=s3;exact ao (ao {_,rfl,q h3 ⟨_,_,_,_,e3,hf⟩ (s3.extBut _ _ (bA lt) t2) (λb x nb e=>s3.extBut b x nb (k2 b x nb e)) (by rw[s3.1,z2])})
def Qa(hh:A.handled=none)(ic:RI s.heap it d i es.size ep)(ho:s.heap.get? d=some o)(hd:o.data=.dict es ep)(hi:es.size<=i)
  (q:∀h' e,(∀b x,b≠it->s.heap.get? b=some x->h'.get? b=some x)->(∃o,h'.get? e=some o/\o.cls=.type "StopIteration")->E (.ref e) {s with heap:=h'}):
  wpAny (-29) A (Builtin.«dict_itemiterator.__next__» {[.ref it],[]}) Q E s:=by
 have hT:=ic.ty;obtain⟨f0,b,ok,ov,hit,hf⟩:=ic;refine af (ao (af (af (af (ij hT (ao ?_))))));refine af (iP hit rfl ?_);show wpAny _ _ (if(-72)=true then _ else _) _ _ s;rw[az (show ¬((-72)=true)from aW)];refine af (ao (af (gF ho hd ?_)));rw[az (-9)];refine af (ao (af (kF ho hd ?_)));rw[az (-9)];refine ao ?_;simp only[show ¬((i:Int)<0)from by lia,d6,cZ,kS hi];refine af (af (ij hT (ao ?_)));show wpAny _ _ (setField (.ref it) 2 .none>>=_) _ _ s;refine af (fG hit rfl (-9) ?_);exact Tb.BR hh λh' e kp he=>q h' e (λb x nb g=>kp b x ((bN _ _ (cb nb)).trans g)) he
def XJ(ic:RI s.heap it d i es.size ep)(ho:s.heap.get? d=some o)(hd:o.data=.dict es ep)(hi:i<es.size)
  (q:∀h',RI h' it d (i+1) es.size ep->h'.get? s.heap.objs.size=some {cls:=.type "tuple",data:=.seq #[es[i].key,es[i].val]}->(∀b x,b≠it->s.heap.get? b=some x->h'.get? b=some x)->h'.objs.size=s.heap.objs.size+1->Q (some (-12)) {s with heap:=h'}):
  wpAny (-29) A (pyNext (.ref it)) Q E s:=by
 unfold pyNext;exact af (dZ (wpAny_callSpecial?_slot ic.ty b9 (bz b9 ic.ty gf (Mf ic ho hd hi λh' a b c e=>ao (q h' a b c e)) (fW _))))
def P9(ic:RI s.heap it d i es.size ep)(ho:s.heap.get? d=some o)(hd:o.data=.dict es ep)(hi:i<es.size)
  (q:∀h',RI h' it d (i+1) es.size ep->h'.get? s.heap.objs.size=some {cls:=.type "tuple",data:=.seq #[es[i].key,es[i].val]}->(∀b x,b≠it->s.heap.get? b=some x->h'.get? b=some x)->h'.objs.size=s.heap.objs.size+1->Q (-12) {s with heap:=h'}):
  wpAny (-29) A (Builtin.SmallTypes.nextOf (.ref it)) Q E s:=by
 unfold Builtin.SmallTypes.nextOf;exact af (wpAny_callSpecial?_slot ic.ty b9 (bz b9 ic.ty gf (Mf ic ho hd hi λh' a b c e=>ao (q h' a b c e)) (fW _)))
def XI(hh:A.handled=none)(ic:RI s.heap it d i es.size ep)(ho:s.heap.get? d=some o)(hd:o.data=.dict es ep)(hi:es.size<=i)
  (q:∀h',(∀b x,b≠it->s.heap.get? b=some x->h'.get? b=some x)->Q none {s with heap:=h'}):wpAny (-29) A (pyNext (.ref it)) Q E s:=by
 unfold pyNext;refine af (dZ (wpAny_callSpecial?_slot ic.ty b9 (bz b9 ic.ty gf (Qa (show A.in1.handled=none from hh) ic ho hd hi λh' e kp ⟨oe,he,ce⟩=>?_) (fW _))));exact af (f6 ⟨oe,he,ce⟩ jR (ao (q _ kp)))
def P8(hh:A.handled=none)(ic:RI s.heap it d i es.size ep)(ho:s.heap.get? d=some o)(hd:o.data=.dict es ep)(hi:es.size<=i)
  (q:∀h' e,(∀b x,b≠it->s.heap.get? b=some x->h'.get? b=some x)->(∃o,h'.get? e=some o/\o.cls=.type "StopIteration")->E (.ref e) {s with heap:=h'}):wpAny (-29) A (Builtin.SmallTypes.nextOf (.ref it)) Q E s:=by
 unfold Builtin.SmallTypes.nextOf;exact af (wpAny_callSpecial?_slot ic.ty b9 (bz b9 ic.ty gf (Qa (show A.in1.handled=none from hh) ic ho hd hi λh' e kp he=>q h' e kp he) (fW _)))
end
structure Tk(es:Array DictEntry)(lo:Addr)(h:Heap)(as:Aaj):Prop where
 up:as.Pairwise (·<·)
 ab:∀a∈as,lo<=a
 tp:∀(j:Nat)(a:Addr),as[j]?=some a->∃hj:j<es.size,h.get? a=some {cls:=.type "tuple",data:=.seq #[es[j].key,es[j].val]}
section
variable{P:Program}{w:World}{A:Around}{s:Shared}{R:Result->Shared->Prop}{es:Array DictEntry}{ep:Nat}{d:Addr}{o:Obj}
def Tk.low{lo QM:Addr}(x:Tk es lo h as)(l:QM<=lo):Tk es QM h as:={x.up,λa ha=>aD l (x.ab a ha),x.tp}
abbrev zO(acc:Aal)(c:Nat):Obj:={cls:=.type "list",dict:=none,data:=.seq acc c,slots:=#[]}
def Yn(hh:A.handled=none)(nSI:S≠I)(dS:d≠S)(dI:d≠I)(sV:o.data=.dict es ep)(hz:es.size<=sizeLine)(res:Value){h0:Heap}(lS:S<h0.objs.size)(lI:I<h0.objs.size)
  (k:∀h' tk acc c as,(∀b x,b≠S->b≠I->h0.get? b=some x->h'.get? b=some x)->h'.get? S=some (zO acc c)->as.length=es.size->Tk es h0.objs.size h' as->acc.toList=as.map Value.ref->R (.ok (.ret res)) {s with heap:=h',toks:=tk}):
  ∀(n i:Nat)(h:Heap)(tk c:Nat)(acc:Aal)(as:Aaj),es.size -i=n->i<=es.size->RI h I d i es.size ep->h.get? d=some o->(∀b x,b≠S->b≠I->h0.get? b=some x->h.get? b=some x)->h.get? S=some (zO acc c)->
   acc.toList=as.map Value.ref->as.length=i->Tk es h0.objs.size h as->h0.objs.size<=h.objs.size->codeAny (-29) A (.builtin "list.extend.loop" {[.ref S,.ref I,res],[]}) R {s with heap:=h,toks:=tk}:=by
 intro n
 induction n with
 |zero=>
  intro i h tk c acc as en hi st gd kp gS ea la T lh;refine dv uM ?_;rw[gA hW];refine af (XI hh st gd sV ∅ λh' kq=>ao ?_);exact k h' tk acc c as (λb x n1 n2 e=>kq b x n2 (kp b x n1 n2 e)) (kq _ _ nSI gS) ∅ {T.up,T.ab,λj a hj=>(T.tp j a hj).imp λ_ e=>kq a _ (bA (aZ lI (T.ab a (aH hj)))) e} ea
 |succ n ih=>
  intro i h tk c acc as en hi st gd kp gS ea la T lh;have bJ:i<es.size:=by lia
  have la2:acc.size=i:=by rw[<-aS,ea,ak,la]
  refine dv uM ?_;rw[gA hW];refine af (XJ st gd sV bJ λh' gZ gt kq zq=>?_);have gS':=kq S _ nSI gS;obtain⟨h2,eh⟩:∃h2,h2=h'.update S (Obj.mapSeq (·.push (Value.ref h.objs.size))):=⟨_,rfl⟩;have go:∀b x,b≠S->h'.get? b=some x->h2.get? b=some x:=λb x nb e=>by rw[eh];exact(bN _ _ (cb nb)).trans e
  have gU:=cH (Obj.mapSeq (·.push (Value.ref h.objs.size))) gS' rfl;rw[<-eh]at gU;obtain⟨c2,gS2⟩:∃c,h2.get? S=some (zO (acc.push (Value.ref h.objs.size)) c):=⟨_,gU⟩;refine af (jk gS' rfl (ao {gN hW _,?_}) (by rw[la2];lia) (by show(acc.push (Value.ref h.objs.size)).size<=sizeLine+1;rw[Array.size_push,la2];lia));have nS:=bA (aZ lS lh);have z2:=aI (go _ _ nS gt);have fin:=ih (i+1) h2 tk _ (acc.push (Value.ref h.objs.size)) (as++[h.objs.size]) ∅ bJ (gZ.jx λx e=>go I x (cb nSI) e) (go d o dS (kq d o dI gd)) (λb x n1 n2 e=>go b x n1 (kq b x n2 (kp b x n1 n2 e))) gS2
   (by rw[k9,ea,aJ];rfl) (by rw[aO,la];rfl) {jM.mpr {T.up,kA _ _,λa ha b hb=>?_},λa ha=>?_,λj a hj=>?_} (bu (eJ lh z2))
  ·rw[eh]at fin;exact fin
  ·rw[ay.mp hb];obtain⟨j,hj⟩:=dy.mp ha;obtain⟨_,e⟩:=T.tp j a hj;exact aI e
  ·rcases bf.mp ha with ha|ha
   ·exact T.ab a ha
   ·rw[ay.mp ha];exact lh
  ·by_cases q:j<as.length
   ·rw[dO q]at hj;have l1:=T.ab a (aH hj);exact(T.tp j a hj).imp λ_ e=>go a _ (bA (aZ lS l1)) (kq a _ (bA (aZ lI l1)) e)
   ·have ej:j=i:=by have:=(ax.mp hj).1;rw[aO,dA]at this;lia
    subst ej;rw[dE ∅,la,vP]at hj;have hb:h.objs.size=a:=by simpa using hj
    subst hb;exact{bJ,go _ _ nS gt}
variable{E:Aae}{r:Addr}
def Yo(hh:A.handled=none)(hv:s.heap.IsItemsView r d)(gd:s.heap.get? d=some o)(sV:o.data=.dict es ep)(hz:es.size<=sizeLine)
  (q:∀h' tk acc c as,(∀b x,s.heap.get? b=some x->h'.get? b=some x)->h'.get? s.heap.objs.size=some (zO acc c)->as.length=es.size->Tk es (-17) h' as->acc.toList=as.map Value.ref->Q (-12) {s with heap:=h',toks:=tk}):
  wpAny (-29) A (call (.type "list") [.ref r]) Q E s:=by
 refine yi (Q₁:=λv z=>v=.ref s.heap.objs.size/\z={s with heap:=s.heap.push (zO #[] 0)}) PySem.F.called_list (PySem.F.typeCall_list_1 _) PySem.F.entry_list_init (code_list_new _ ⟨rfl,rfl⟩) ?_;rintro v z ⟨rfl,rfl⟩;have g1:(s.heap.push (zO #[] 0)).get? s.heap.objs.size=some (zO #[] 0):=aF _ rfl;refine{⟨_,g1,rfl⟩,PySem.F.args_list_init_2 _ _,?_};obtain⟨ov,go,hc,hd⟩:=id hv;have lr:=aI go;have ld:=aI gd;obtain⟨S,eS⟩:∃S,S=s.heap.objs.size:=⟨_,rfl⟩;rw[<-eS]at g1 q lr ld⊢;have A2:∀b x,s.heap.get? b=some x->(s.heap.push (zO #[] 0)).get? b=some x:=λb x e=>aq _ e;have z1:(s.heap.push (zO #[] 0)).objs.size=S+1:=by rw[cB,eS]
 generalize (s.heap.push (zO #[] 0))=h1 at g1 A2 z1⊢;show wpAny _ _ (do let old<-Builtin.List.listItems (.ref S);Builtin.List.listUpdate (.ref S) (λ_=>#[]);letGo old.toList.reverse;Builtin.List.listExtendWith (.ref S) (.ref r) .none) _ _ _;unfold Builtin.List.listItems;refine af (af (bY g1 rfl (ao ?_)));refine af (jk g1 rfl (af (mG ?_)));have g2:=cH (-47) g1 rfl;have vv:∀b x,b≠S->h1.get? b=some x->(h1.update S (-47)).get? b=some x:=λb x nb e=>(bN _ _ (cb nb)).trans e;have z2:(h1.update S (-47)).objs.size=S+1:=by rw[<-z1];exact(bT ..).1
 generalize (h1.update S (-47))=h2 at g2 vv z2⊢;obtain⟨c2,g2⟩:∃c,h2.get? S=some (zO #[] c):=⟨_,g2⟩;unfold Builtin.List.listExtendWith;have EX:h2.IsItemsView r d:={ov,vv _ _ (aL lr) (A2 _ _ go),hc,hd};refine af (fZ EX.typeIs ?_);have a1:Builtin.List.listSameRef (.ref S) (.ref r)=false:=by simp[Builtin.List.listSameRef,bA lr]
 have a2:(Value.type "dict_items"==Value.type "list")=false:=by decide
 have a3:(Value.type "dict_items"==Value.type "tuple")=false:=by decide
 simp only[a1,a2,a3,Ac,cw,d6];have gd2:=vv _ _ (aL ld) (A2 _ _ gd);refine af (IP EX gd2 sV ?_);obtain⟨h3,W0⟩:∃h3,h3=h2.push (oK .none false d 0 es.size ep .none .none):=⟨_,rfl⟩;have V6:∀b x,h2.get? b=some x->h3.get? b=some x:=λb x e=>by rw[W0];exact aq _ e
 have g3:h3.get? (S+1)=some (oK .none false d 0 es.size ep .none .none):=by rw[W0,<-z2];exact aF _ rfl
 have z3:h3.objs.size=S+2:=by rw[W0,cB,z2]
 show wpAny _ _ _ _ _ {s with heap:=h2.push (oK .none false d 0 es.size ep .none .none)};rw[<-W0];rw[show({s with heap:=h2}:Shared).heap.objs.size=S+1 from z2];have key:∀(h:Heap)(c tk:Nat),(∀b x,b≠S->h3.get? b=some x->h.get? b=some x)->h.get? S=some (zO #[] c)->h.objs.size=S+2->
   codeAny (-29) A.in1 (.builtin "list.extend.loop" {[.ref S,.ref (S+1),.none],[]}) (wants (λr aad=>r=Value.none/\Q (Value.ref S) aad) E) {s with heap:=h,toks:=tk}:=λh c tk kp gS zh=>by
  refine Yn (show A.in1.handled=none from hh) (aL (dC S)) (aL ld) (aL (eA ld)) sV hz .none (by rw[zh];exact Nat.lt_add_of_pos_right (-8)) (by rw[zh];exact dC _) (λh' Em acc c' as k1 k2 k3 k4 k5=>{rfl,q h' Em acc c' as (λb x e=>?_) k2 k3 (k4.low (by rw[zh];exact fH _)) k5})
   es.size 0 h tk c #[] [] (BF _) (aP _) {_,_,_,_,kp _ _ (bA (dC S)) g3,.inl rfl} (kp _ _ (aL ld) (V6 _ _ gd2)) (λb x _ _ e=>e) gS rfl rfl {.nil,λa ha=>(by cases ha),λj a hj=>(by simp at hj)} (ar _)
  have lb:b<S:=by rw[eS];exact aI e
  exact k1 b x (aL lb) (aL (eA lb)) (kp _ _ (aL lb) (V6 _ _ (vv _ _ (aL lb) (A2 _ _ e))))
 have gS3:=V6 _ _ g2;refine af (bP (PySem.W.kdx_hint {_,V6 _ _ (vv _ _ (aL lr) (A2 _ _ go)),hc} ?_));refine mO (λ_=>?_) (λ_=>ao {gN hW _,key _ c2 _ (λb x _ e=>e) gS3 z3});refine af (fP (af ?_));refine af (jk gS3 rfl ?_);have g4:=cH (Obj.mapSeq (·.push Value.none)) gS3 rfl;refine jk g4 rfl ?_;refine ao {gN hW _,key _ _ _ (λb x nb e=>?_) (cH (Obj.mapSeq (·.pop)) g4 rfl) ?_}
 ·exact(bN _ _ (cb nb)).trans ((bN _ _ (cb nb)).trans e)
 ·rw[(bT ..).1,(bT ..).1,z3]
end
section
variable{X:Cx}{pins:Aac}{Z:St}{H:Hp}{s:Shared}
theorem Inv.Sb{lo:Addr}(hlo:X.aab.heap.objs.size<=lo/\X.env.locals<lo/\(∀x c,X.env.cells.lookup x=some c->c<lo)/\∀p∈X.pn++pins,p.1<lo):
  ∀(as:Aaj)(ps:Aam)(H:Hp),Inv X pins Z H s->as.length=ps.length->as.Nodup->(∀a∈as,lo<=a/\H a=none)->
   (∀(j:Nat) a p,as[j]?=some a->ps[j]?=some p->∃t u,RelV p.1 t/\RelV p.2 u/\s.heap.get? a=some {cls:=.type "tuple",data:=.seq #[t,u]})->
   ∃H',Inv X pins Z H' s/\(∀b u,H b=some u->H' b=some u)/\(∀b,b∉as->H' b=H b)/\∀(j:Nat) a p,as[j]?=some a->ps[j]?=some p->H' a=some (.tup [p.1,p.2])
 |[],[],H,I,_,_,_,_=>{H,I,λ_ _ h=>h,λ_ _=>rfl,λj a p e=>by simp at e}
 |[],_::_,_,_,e,_,_,_=>by simp at e
 |_::_,[],_,_,e,_,_,_=>by simp at e
 |a::as,p::ps,H,I,e,nd,fr,tp=>by
  obtain⟨n1,n2⟩:=cX.mp nd;obtain⟨l1,l2,l3,l4⟩:=hlo;obtain⟨ha,hna⟩:=fr a aA;obtain⟨t,u,r1,r2,g⟩:=tp 0 a p rfl rfl;have I1:=I.KY (o:=.tup [p.1,p.2]) hna {by show 2<=sizeLine;decide,[t,u],.cons r1 (.cons r2 .nil),{_,g,rfl,0,rfl},_,g,rfl} (aD l1 ha) (bA (aZ l2 ha))
   (λx c h=>aL (aZ (l3 x c h) ha)) (λq hq=>aL (aZ (l4 q hq) ha))
  obtain⟨H',I2,k1,k2,k3⟩:=Inv.Sb ⟨l1,l2,l3,l4⟩ as ps _ I1 (by simpa using e) n2 (λb hb=>{(fr b (aB _ hb)).1,by rw[aE (show b≠a fromλz=>n1 (by rw[<-z];exact hb))];exact(fr b (aB _ hb)).2})
   (λj b q e1 e2=>tp (j+1) b q (by simpa using e1) (by simpa using e2))
  refine{H',I2,λb v h=>k1 b v (by rw[aE (ba h hna)];exact h),λb hb=>?_,λj b q e1 e2=>?_}
  ·rw[k2 b (λz=>hb (aB _ z)),aE (λz=>hb (by rw[z];exact aA))]
  ·cases j with
   |zero=>
    obtain rfl:a=b:=by simpa using e1
    obtain rfl:p=q:=by simpa using e2
    rw[k2 a n1];exact aw
   |succ j=>exact k3 j b q (by simpa using e1) (by simpa using e2)
def Inv.low(I:Inv X pins Z H s):X.aab.heap.objs.size<=s.heap.objs.size/\X.env.locals<s.heap.objs.size/\(∀x c,X.env.cells.lookup x=some c->c<s.heap.objs.size)/\∀p∈X.pn++pins,p.1<s.heap.objs.size:=
 {I.sz,I.lt,λx c hc=>let⟨_,z⟩:=I.cell x c hc;z.lt,λp hp=>aI (I.pin p hp).1}
def Inv.HQ(I:Inv X pins Z H s)(h:gn X.prog X.w X.K H d kvs):(d==sysModules)=false/\∃o es ep,s.heap.get? d=some o/\es.size<=10000000/\K6 o es ep (kvs.map λp=>(V.ref p.2.1,p.2.2)):=by
 obtain⟨lo,xs,rel,hl,o,es,ep,ga,hx,hdt,he,_⟩:=I.qP h;have ents:∀{l:List (-53)}{xs:List (NK×Addr×Value)},Paired (-10) l xs->Paired (-57) (l.map λp=>(V.ref p.2.1,p.2.2)) (xs.map (entryOfKey (ny X.prog X.w))):=λr=>by
  induction r with
  |nil=>exact .nil
  |@cons p q ps qs h _ ih=>exact .cons {by show Value.ref q.2.1=Value.ref p.2.1;rw[h.2.1],h.2.2} ih
 exact{lo,o,es,ep,ga,by rw[wg he,<-rel.length];exact hl,hx,hdt,by rw[he];exact ents rel}
inductive SK(P:Program)(w:World)(K:Frag)(Q:VK)(x:V)(H1:Hp):Prop
 |mk d kvs (_:x=.ref d) (_:gn P w K H1 d kvs) (_:∀p,H1 p=none->Q (.ref p) (upd H1 p (.ext (ur p d))))
end
def Xv(P:Program)(w:World)(K:Frag)(td:TE):TE:=λZ H Q=>td Z H λx H1=>SK P w K Q x H1
section
variable{X:Cx}
def GL(hl:PE X l tl)(E9:attributeBase l "items" X.env (eval l X.env)=eval l X.env:=by rfl)(E4:(apos.endLine==fC.line)=true:=by rfl):
  PE X (.Call (.Attribute l "items" apos) [] [] fC) (Xv X.prog X.w X.K tl):=by
 intro pins s Z H R I h;refine wpAny_Call_method0_late E9 E4 (df (hl pins s Z H _ I h) λv s1 x H1 I1 r1 q1=>?_);obtain⟨d,kvs,e,hd,q⟩:=q1;subst e;cases r1;obtain⟨lo,o,es,ep,ga,_,m⟩:=I1.HQ hd;have ty:s1.TypeIs (.ref d) "dict":={o,ga,m.1.1};refine{"dict","dict.items",iM,vZ,PySem.F.type_dict_items,ty,λb q=>?_,iX rfl (PySem.evalArgs_none ?_)}
 ·cases q;exact{o,ga,m.1.2.1}
 ·refine bz vZ ty PySem.F.entry_dict_items ?_ (PySem.F.args_dict_items_1 _);unfold Builtin.«dict.items» Builtin.Dict.noArgs;refine af (af (jm ty (ao ?_)));unfold Builtin.Dict.showsAll;rw[lo];refine af (ao (af (cx (ao {_,rfl,?_}))));exact{.ref s1.heap.objs.size,_,I1.laid (λb o e=>aq _ e) (ar _) (aaM {_,aF _ rfl,rfl,rfl}),rfl,q _ (I1.br.fresh (ar _))}
abbrev Sf(H:Hp):Aao->Aam->Prop:=Paired λ(y:V)(p:V×V)=>∃a,y=.ref a/\H a=some (.tup [p.1,p.2])
theorem GP:∀{as:Aaj}{ps:Aam},as.length=ps.length->(∀(j:Nat) a p,as[j]?=some a->ps[j]?=some p->H a=some (.tup [p.1,p.2]))->Sf H (as.map V.ref) ps
 |[],[],_,_=>.nil
 |[],_::_,e,_=>by simp at e
 |_::_,[],e,_=>by simp at e
 |a::as,p::ps,e,h=>.cons {a,rfl,h 0 a p rfl rfl} (GP (by simpa using e) λj b q e1 e2=>h (j+1) b q (by simpa using e1) (by simpa using e2))
theorem Vi:∀as:Aaj,Vals (as.map V.ref) (as.map Value.ref)
 |[]=>.nil
 |_::as=>.cons rfl (Vi as)
def Fv(hA:X.A.handled=none):jv X (.type "list") (λxs H Q=>∃(r d:Addr)(kvs:List (-53)),xs=[.ref r]/\H r=some (.ext (ur r d))/\gn X.prog X.w X.K H d kvs/\
  ∀l ys H',(∀b u,H b=some u->H' b=some u)->H l=none->H' l=some (-38)->Sf H' ys (kvs.map λp=>(.ref p.2.1,p.2.2))->Q (.ref l) H'):=by
 intro pins s Z H xs us Q I r h;obtain⟨v,d,kvs,rfl,hv,hd,q⟩:=h;obtain⟨u,rfl,ru⟩:=lO r;cases ru;obtain⟨iv,_⟩:=(show dG X.prog X.w H s.heap v (.ext (ur v d))from I.br v _ hv);obtain⟨lo,o,es,ep,ga,hz,m⟩:=I.HQ hd;have hl:(kvs.map λp=>(V.ref p.2.1,p.2.2)).length=es.size:=by rw[bw m.2.2,aS]
 have hs:es.size<=sizeLine:=by rw[b8];lia
 refine Yo hA iv ga m.2.1 hs λh' tk acc c as kp gl la T ea=>?_;have I1:=I.kept (t':=tk) kp;have low:=I.low;have z1:s.heap.objs.size<=s.heap.objs.size+1:=fH _;obtain⟨H',I2,k1,k2,k3⟩:=Inv.Sb {low.1,low.2.1,low.2.2.1,low.2.2.2} as (kvs.map λp=>(V.ref p.2.1,p.2.2)) H I1 (by rw[la,hl]) (T.up.imp λh=>aL h)
  (λa ha=>{aD z1 (T.ab a ha),I.br.fresh (aD z1 (T.ab a ha))}) (λj a p e1 e2=>by obtain⟨hj,e3⟩:=T.tp j a e1;obtain⟨e,he,r1,r2⟩:=Paired.at' m.2.2 e2;rw[bI,bD hj]at he;cases he;exact⟨_,_,r1,r2,e3⟩)
 have na:s.heap.objs.size∉as:=λz=>absurd (T.ab _ z) (Nat.not_succ_le_self _);have hn:=I.br.fresh (ar _);have MV:H' s.heap.objs.size=none:=by rw[k2 _ na];exact hn
 have I3:=I2.KY (o:=.lst (as.map V.ref)) MV {by rw[ak,la];exact hs,as.map Value.ref,c,Vi as,by rw[<-ea];exact gl} low.1 (bA low.2.1) (λx c h=>aL (low.2.2.1 x c h)) (λp hp=>aL (low.2.2.2 p hp));refine{.ref s.heap.objs.size,_,I3,rfl,q _ (as.map V.ref) _ (λb u e=>?_) hn aw (GP (by rw[la,hl]) λj a p e1 e2=>?_)}
 ·rw[aE (ba e hn)];exact k1 b u e
 ·rw[aE (λz=>na (by rw[<-z];exact aH e1))];exact k3 j a p e1 e2
variable{P:Program}{w:World}{d:Addr}{o:Obj}{es:Array DictEntry}{ep:Nat}
def Xz(lo:(d==sysModules)=false)(hx:o.ExactDict)(hd:o.data=.dict es ep):PySem.W.KdlSrc P w "dict" d d es.size (λi v=>∃hi:i<es.size,v=es[i].key) (λh=>h.get? d=some o) where
 type:=λ_ g=>{o,g,hx.1}
 there:=λ_ g=>{aI g,aI g}
 keep:=λ_ _ g k=>k d (.inl rfl) _ g
 notList:=by decide
 notTuple:=by decide
 hint:=λ_ _ _ _ g q=>PySem.W.kdl_hint_dict {o,g,hx.1} q
 iter:=λA s hh g=>{_,λi h=>h.IsKeyIter s.heap.objs.size d i es.size ep/\h.get? d=some o,λ_ _ q=>BY lo g hx hd q,{
  sub:=λb hb=>by simp at hb;simp[hb]
  frame:=λi h h' st k=>by obtain⟨⟨v,e,c⟩,g'⟩:=st;exact{{v,k _ (-9) _ e,c},k d (-9) _ g'}
  item:=λi s' Q E hi st q=>P5 st.1 st.2 hd hi λh' it' sb=>q _ h' s'.toks ⟨hi,rfl⟩ {it',sb.extBut _ _ (aL (aI g)) st.2} λb x hb e=>sb.extBut b x (λz=>hb (by simp[z])) e
  done:=λs' Q E st q=>GJ hh st.1 st.2 hd (ar _) λh' kp=>q h' s'.toks λb x hb e=>kp b x (λz=>hb (by simp[z])) e
  self:=λ_ _ _ _ st q=>qr st.1 q},{{_,aF _ rfl,rfl,rfl},aq _ g}}
def KO(hA:X.A.handled=none):jv X (.builtin "sorted") (λxs H Q=>∃(a:Addr)(kvs:List (-53))(rows:Aab),xs=[.ref a]/\gn X.prog X.w X.K H a kvs/\kvs.map (·.1)=rows.map fR/\(2<=rows.length->∀r∈rows,r≠[])/\rows.length<1000000/\SortedTo X.K H (kvs.map λp=>.ref p.2.1) rows Q):=by
 intro pins s Z H xs us Q I r h;obtain⟨a,kvs,rows,rfl,ha,hk,ie,Bg,q⟩:=h;obtain⟨u,rfl,rx⟩:=lO r;cases rx;obtain⟨lo,o,es,ep,ga,hz,m⟩:=I.HQ ha;have hl:(kvs.map λp=>(V.ref p.2.1,p.2.2)).length=es.size:=by rw[bw m.2.2,aS]
 rw[ak]at hl;have Rm:kvs.length=rows.length:=by have:=bU List.length hk;rw[ak,ak]at this;exact this
 refine jO CV AK Bl (BA _) ?_;unfold Builtin.«sorted»;refine af (ao ?_);refine af (Ag (Xz lo m.1 m.2.1) (by simpa using hA) ga (by rw[b8];lia) λh' tk acc kp it=>?_);have ea:acc.toList=(kvs.map λp=>p.2.1).map Value.ref:=by
  refine uo λj=>?_;rw[bI,bW,aK];by_cases hj:j<es.size
  ·have Rr:j<acc.size:=by rw[it.1];exact hj
   obtain⟨_,e1⟩:=it.2 j _ (bD Rr);have jd:kvs[j]?=some (kvs[j]'∅):=au ∅;obtain⟨e,he,r1,_⟩:=Paired.at' m.2.2 (by rw[aK,jd];rfl);rw[bI,bD hj]at he;cases he;rw[bD Rr,e1,jd,eI];exact bU some r1
  ·rw[kS (by rw[it.1];lia),hU ∅];rfl
 rw[ea];have e2:(kvs.map λp=>V.ref p.2.1)=(kvs.map λp=>p.2.1).map V.ref:=by rw[bW];rfl
 rw[e2]at q;refine Er (s:=s) (I.kept kp) (by rw[ak,Rm]) (λi z b e3 e4=>?_) ie Bg q;rw[aK]at e4;obtain⟨p,e5,rfl⟩:=aX.mp e4;have e6:(kvs.map (·.1))[i]?=some (fR z):=by rw[hk,aK,e3];rfl
 rw[aK,e5]at e6;have:=(ha.2 p (aH e5)).1;rw[show p.1=fR z from bK e6]at this;exact EM this
end
def Xw(P:Program)(w:World)(K:Frag)(Ie:List (TE×TE)):TE:=λZ H Q=>∀p,H p=none->Ir Ie Z (upd H p (.dK [])) λps H2=>∃b k v,ps=[(.ref b,v)]/\jA K H2 k b/\H2 p=some (.dK [])/\Q (.ref p) (upd H2 p (.ext (DN P w p [(k,b,v)])))
def Qi(hu:X.A.units+101<cLine)(h:K2 X pos keys values Ie)(nE:keys.all (·.isSome)=true)(hl:keys.length=values.length)(h0:keys≠[])
  (h15:keys.length<=15):PE X (.Dict keys values pos) (Xw X.prog X.w X.K Ie):=by
 intro pins s Z H Q I q;have hn:=I.br.fresh (ar s.heap.objs.size);have I1:=I.laid (t':=s.toks) (λ_ _ q=>aq _ q) (ar _) (Kz s.heap I.big);refine wpAny_Dict_any nE hl h0 h15 (iT (h pins _ Z _ _ I1 (q _ hn)) λws s2 adH=>?_);obtain⟨ps,H2,I2,rel,b,k,v,e,hk,hp,q2⟩:=adH;subst e;cases rel with
 |@cons _ x _ _ r1 t=>
  cases t;obtain⟨kx,vx⟩:=x;obtain⟨r1,r2⟩:=r1;obtain rfl:kx=Value.ref b:=r1;unfold storeAll;rw[mX];have ha:gn X.prog X.w X.K H2 s.heap.objs.size []:={.inr ⟨rfl,hp⟩,λ_ hp=>by cases hp};obtain⟨lo,xs,rl,jF,dd⟩:=I2.qP ha;have lx:xs.length<=sizeLine:=by rw[<-rl.length];exact aP _
  refine af (af (wpAny_dictSet_heap (show X.A.units+100<cLine by lia) (I2.DI hk) dd λh' vH hs=>ao ?_));obtain⟨o,es,ep,g,g2,g3,g4,_,g5⟩:=vH;have I3:∀tk,Inv X pins Z (upd H2 s.heap.objs.size (.ext (DN X.prog X.w s.heap.objs.size [(k,b,v)]))) {s2 with heap:=h',toks:=tk}:=λtk=>
   uU I2 (by rw[hp];exact True.intro) hs ⟨o,g⟩ (O4 {lo,_,DB rl r2,by show 1<=10000000;decide,o,es,ep,g,g2,g3,g4,g5})
  exact ao {.ref s.heap.objs.size,_,I3 _,rfl,q2}
section
variable{P:Program}{w:World}{A:Around}{E:Aae}{v:Shared}{es:Array DictEntry}{ep:Nat}{o:Obj}
structure Zi(h:Heap)(z ti to i1 i2 d l:Addr)(f:Value)(k n ep:Nat):Prop where
 self:IsZip h z ti to f
 ins:IsPair h ti (.ref i1) (.ref i2)
 outs:∃a b,IsPair h to a b
 w1:RI h i1 d k n ep
 w2:h.IsListIter i2 l k
def Zi.ne(g:Zi h z ti to i1 i2 d l f k n ep):(ti≠z/\to≠z/\i1≠z/\i2≠z)/\(ti≠i1/\ti≠i2/\to≠i1/\to≠i2)/\i1≠i2:=by
 obtain⟨gs,gi,⟨a,b,go⟩,⟨_,_,_,_,q1,_⟩,⟨o2,q2,c2,_⟩⟩:=g;exact{{cS gi gs rfl rfl (-8),cS go gs rfl rfl (-8),cS q1 gs rfl rfl (-8),cS q2 gs c2 rfl (-8)},
  {cS gi q1 rfl rfl (-8),cS gi q2 rfl c2 (-8),cS go q1 rfl rfl (-8),cS go q2 rfl c2 (-8)},cS q1 q2 rfl c2 (-8)}
def Xi{Q:Aae}(EK:ti≠to)(g:Zi v.heap z ti to i1 i2 d l .none k es.size ep)
  (gd:v.heap.get? d=some o) (hx:o.ExactDict) (sV:o.data=.dict es ep) (t2:v.heap.IsList l ys) (hk:k<es.size) (ey:ys[k]?=some y)
  (q:∀h',Zi h' z ti to i1 i2 d l (rawInt (v.heap.objs.size+1)) (k+1) es.size ep->h'.get? v.heap.objs.size=some {cls:=.type "tuple",data:=.seq #[es[k].key,es[k].val]}->IsPair h' (v.heap.objs.size+1) (.ref v.heap.objs.size) y->(∀c o,c≠z->c≠to->c≠i1->c≠i2->v.heap.get? c=some o->h'.get? c=some o)->Q (.ref (v.heap.objs.size+1)) {v with heap:=h'}):
  wpAny (-29) A (-50) (λfin s'=>∃u,fin=.done (.ret u)/\Q u s') E v:=by
 obtain⟨⟨a1,a2,a3,a4⟩,⟨a5,a6,a7,a8⟩,Mu⟩:=g.ne;obtain⟨gs,gi,⟨a,b,go⟩,g1,g2⟩:=g;have dz:=cS gd gs hx.1 rfl (-8);obtain⟨o2,q2,c2,_⟩:=id g2;obtain⟨ol,ql,cl,_⟩:=id t2;have c1:=cS ql gs cl rfl (-8);have c4:=cS ql go cl rfl (-8);have c5:l≠i1:=by obtain⟨_,_,_,_,e1,_⟩:=id g1;exact cS ql e1 cl rfl (-8)
 show wpAny _ _ (field (.ref z) 2>>=_) _ _ _;refine af (bO gs rfl rfl ?_);refine af (bO gs rfl rfl ?_);refine af (bY gi rfl ?_);refine af ?_;unfold Builtin.SmallTypes.ownedTupleIsFree;refine af (bO gs rfl rfl (ao ?_));refine af (fP ?_);refine af (bO gs rfl rfl ?_);refine af (cu gs (-9) λp1 k1 r1=>?_)
 replace k1:IsZip p1 z ti to .ellipsis:=k1
 have z1:=r1.1;refine af ?_;refine af (af (mh ?_));refine af (P9 (g1.jx λo e=>r1.extBut _ _ a3 e) (r1.extBut _ _ dz gd) sV hk λp2 k2 tq r2 U9=>ao ?_);have U9:p2.objs.size=v.heap.objs.size+1:=by rw[<-z1];exact U9
 have tq:p2.get? v.heap.objs.size=some {cls:=.type "tuple",data:=.seq #[es[k].key,es[k].val]}:=by rw[<-z1];exact tq
 rw[show({v with heap:=p1}:Shared).heap.objs.size=v.heap.objs.size from z1];have o2:=r2 _ _ a7 (r1.extBut _ _ a2 go);refine af (bY o2 rfl ?_);refine af (yP o2 λp3 o3 r3=>?_)
 replace o3:IsPair p3 to (.ref v.heap.objs.size) b:=o3
 refine af (mG (ao ?_));refine af (af (mh ?_));have w3:p3.IsListIter i2 l k:=by obtain⟨o',e',r'⟩:=g2;exact{o',r3.extBut _ _ a8.symm (r2 _ _ Mu.symm (r1.extBut _ _ a4 e')),r'}
 have t3:p3.IsList l ys:=by obtain⟨o',e',r'⟩:=t2;exact{o',r3.extBut _ _ c4 (r2 _ _ c5 (r1.extBut _ _ c1 e')),r'}
 refine af (wpAny_nextOf_list_item w3 t3 ey λp4 k4 r4=>ao ?_);have o4:=r4.extBut _ _ a8 o3;refine af (bY o4 rfl ?_);refine af (yP o4 λp5 o5 r5=>?_)
 replace o5:IsPair p5 to (.ref v.heap.objs.size) y:=o5
 refine af (mG (ao (ao ?_)));refine af (bY o5 rfl ?_);refine af (lq ?_);have sz:p5.objs.size=v.heap.objs.size+1:=by rw[r5.1,r4.1,r3.1,U9]
 have z5:=r5.extBut _ _ a2.symm (r4.extBut _ _ a4.symm (r3.extBut _ _ a2.symm (r2 _ _ a3.symm k1)));have st:∀c o,c≠z->c≠to->c≠i1->c≠i2->v.heap.get? c=some o->p5.get? c=some o:=λc o m1 m2 m3 m4 e=>
  r5.extBut _ _ m2 (r4.extBut _ _ m4 (r3.extBut _ _ m2 (r2 _ _ m3 (r1.extBut _ _ m1 e))))
 have j1:=k2.jx λo e=>r5.extBut _ _ a7.symm (r4.extBut _ _ Mu (r3.extBut _ _ a7.symm e));have j2:p5.IsListIter i2 l (k+1):=by obtain⟨o',e',r'⟩:=k4;exact{o',r5.extBut _ _ a8.symm e',r'}
 have nto:=bA (aI go);have ni2:=bA (aI q2);have nz:=bA (aI gs);have t5:=r5.extBut _ _ nto (r4.extBut _ _ ni2 (r3.extBut _ _ nto tq));have lz:=aI z5;refine af ?_;unfold Builtin.SmallTypes.ownedTupleHandOut;have z6:IsZip (p5.push {cls:=.type "tuple",data:=.seq #[.ref v.heap.objs.size,y]}) z ti to .ellipsis:=aq _ z5;refine af (cu z6 (-9) λp7 z7 r7=>?_)
 replace z7:IsZip p7 z ti to (rawInt p5.objs.size):=z7
 refine cu z7 (-9) λp8 z8 r8=>?_
 replace z8:IsZip p8 z ti to (rawInt p5.objs.size):=z8
 have up:∀c o,c≠z->p5.get? c=some o->p8.get? c=some o:=λc o m e=>r8.extBut _ _ m (r7.extBut _ _ m (aq _ e));have n8:=r8.extBut _ _ (bA lz) (r7.extBut _ _ (bA lz) (aF _ rfl));rw[sz]at z8 n8;refine ao {_,rfl,?_};rw[sz];obtain⟨ob,jb,rb⟩:=j2;exact q p8 {z8,up _ _ a1 (st _ _ a1 EK a5 a6 gi),{_,_,up _ _ a2 o5},j1.jx λo e=>up _ _ a3 e,{ob,up _ _ a4 jb,rb}} (up _ _ nz t5) n8 λc o m1 m2 m3 m4 e=>up c o m1 (st c o m1 m2 m3 m4 e)
def Y9(hh:A.handled=none)(g:Zi v.heap z ti to i1 i2 d l .none k es.size ep)(gd:v.heap.get? d=some o)(hx:o.ExactDict)(sV:o.data=.dict es ep)(hk:es.size<=k)
  (q:∀h' e,(∀c o,c≠z->c≠to->c≠i1->c≠i2->v.heap.get? c=some o->h'.get? c=some o)->(∃o,h'.get? e=some o/\o.cls=.type "StopIteration")->E (.ref e) {v with heap:=h'}):
  wpAny (-29) A (-50) Q E v:=by
 obtain⟨⟨a1,a2,a3,a4⟩,⟨a5,a6,a7,a8⟩,Mu⟩:=g.ne;obtain⟨gs,gi,⟨a,b,go⟩,g1,g2⟩:=g;have dz:=cS gd gs hx.1 rfl (-8);show wpAny _ _ (field (.ref z) 2>>=_) _ _ _;refine af (bO gs rfl rfl ?_);refine af (bO gs rfl rfl ?_);refine af (bY gi rfl ?_);refine af ?_;unfold Builtin.SmallTypes.ownedTupleIsFree;refine af (bO gs rfl rfl (ao ?_));refine af (fP ?_);refine af (bO gs rfl rfl ?_);refine af (cu gs (-9) λp1 k1 r1=>?_)
 replace k1:IsZip p1 z ti to .ellipsis:=k1
 refine af ?_;refine af (af (mh ?_));refine af (P8 hh (g1.jx λo e=>r1.extBut _ _ a3 e) (r1.extBut _ _ dz gd) sV hk λp2 e r2 he=>?_);obtain⟨oe,ge,ce⟩:=he;have z2:=r2 _ _ a3.symm k1;have nez:=cS ge z2 ce rfl (-8);exact cu z2 (-9) λp3 _ r3=>q p3 e (λc o m1 _ m3 _ e=>r3.extBut _ _ m1 (r2 _ _ m3 (r1.extBut _ _ m1 e))) {oe,r3.extBut _ _ nez ge,ce}
def Xh(EK:ti≠to)(g:Zi v.heap z ti to i1 i2 d l .none k es.size ep)
  (gd:v.heap.get? d=some o) (hx:o.ExactDict) (sV:o.data=.dict es ep) (t2:v.heap.IsList l ys) (hk:k<es.size) (ey:ys[k]?=some y)
  (q:∀h',Zi h' z ti to i1 i2 d l (rawInt (v.heap.objs.size+1)) (k+1) es.size ep->h'.get? v.heap.objs.size=some {cls:=.type "tuple",data:=.seq #[es[k].key,es[k].val]}->IsPair h' (v.heap.objs.size+1) (.ref v.heap.objs.size) y->(∀c o,c≠z->c≠to->c≠i1->c≠i2->v.heap.get? c=some o->h'.get? c=some o)->Q (some (.ref (v.heap.objs.size+1))) {v with heap:=h'}):
  wpAny (-29) A (pyNext (.ref z)) Q E v:=by
 have ty:v.TypeIs (.ref z) "zip":={_,g.self,rfl};unfold pyNext;exact af (dZ (wpAny_callSpecial?_slot (name:=Str.ofString "__next__") ty eM (bz eM ty j9 (Xi EK g gd hx sV t2 hk ey λh' b1 b2 b3 b4=>ao (q h' b1 b2 b3 b4)) (jJ _))))
def Xg(hh:A.handled=none)(g:Zi v.heap z ti to i1 i2 d l .none k es.size ep)(gd:v.heap.get? d=some o)(hx:o.ExactDict)(sV:o.data=.dict es ep)(hk:es.size<=k)
  (q:∀h',(∀c o,c≠z->c≠to->c≠i1->c≠i2->v.heap.get? c=some o->h'.get? c=some o)->Q none {v with heap:=h'}):
  wpAny (-29) A (pyNext (.ref z)) Q E v:=by
 have ty:v.TypeIs (.ref z) "zip":={_,g.self,rfl};unfold pyNext;refine af (dZ (wpAny_callSpecial?_slot (name:=Str.ofString "__next__") ty eM (bz eM ty j9 (Y9 (show A.in1.handled=none from hh) g gd hx sV hk λh' e hk he=>?_) (jJ _))));obtain⟨o,ho,hc⟩:=he;exact af (f6 (T:="StopIteration") (b:=true) ⟨o,ho,hc⟩ jR (ao (q _ hk)))
abbrev Pm(h:Heap)(d:Addr)(n ep:Nat):Heap:=h.push {cls:=.type "dict_itemiterator",data:=.fields #[.none,.bool false,.ref d,.int 0 0,.int n 0,.int ep 0,.none,.none]}
abbrev Vg(h:Heap)(d l:Addr)(n ep:Nat):Heap:=(Pm h d n ep).push {cls:=.type "list_iterator",data:=.fields #[.ref l,.int 0 0]}
abbrev Vf(h:Heap)(d l:Addr)(n ep:Nat):Heap:=(Vg h d l n ep).push {cls:=.type "tuple",data:=.seq #[.ref h.objs.size,.ref (Pm h d n ep).objs.size]}
abbrev Ve(h:Heap)(d l:Addr)(n ep:Nat):Heap:=(Vf h d l n ep).push {cls:=.type "tuple",data:=.seq #[.none,.none]}
abbrev LG(h:Heap)(d l:Addr)(n ep:Nat):Heap:=(Ve h d l n ep).push {cls:=.type "zip",data:=.fields #[.none,.bool false,.bool false,.ref (Vg h d l n ep).objs.size,.ref (Vf h d l n ep).objs.size]}
def Zf(r d l:Addr)(ys:Aal)(o:Obj)(es:Array DictEntry)(ep:Nat)(sV:o.data=.dict es ep):
  Meets (Builtin.«zip.__new__» {[.type "zip",.ref r,.ref l],[]}) (λ_ R s=>s.heap.IsItemsView r d/\s.heap.get? d=some o/\s.heap.IsList l ys/\R (.ok (.ret (.ref (Ve s.heap d l es.size ep).objs.size))) {s with heap:=LG s.heap d l es.size ep}):=
 .of_wp λprog w A R s h=>by
  obtain⟨hp,g,dr,tk,os⟩:=s;obtain⟨hv,gd,hl,h⟩:=h;have Ue:=sub_zip;have hV:Heap.IsItemsView (Shared.heap ⟨hp,g,dr,tk,os⟩) r d:=hv;have hL:Heap.IsList (Shared.heap {Pm hp d es.size ep,g,dr,tk,os}) l ys:=by obtain⟨o,e,r⟩:=hl;exact{o,aq _ e,r}
  wp_walk using IP hV gd sV,kT hL
  exact⟨_,rfl,h⟩
def Xj(hv:v.heap.IsItemsView r d)(gd:v.heap.get? d=some o)(sV:o.data=.dict es ep)(hl:v.heap.IsList l ys)
  (q:∀h' n,n=v.heap.objs.size->Zi h' (n+4) (n+2) (n+3) n (n+1) d l .none 0 es.size ep->(∀c o,v.heap.get? c=some o->h'.get? c=some o)->Q (.ref (n+4)) {v with heap:=h'}):
  wpAny (-29) A (call (.type "zip") [.ref r,.ref l]) Q E v:=by
 refine callType_new F.called_zip (-8) (F.typeCall_zip_2 _ _) (F.newCall_zip_2 _ _) (λobj=>zA obj _ _) F.entry_zip_new (Zf r d l ys o es ep sV) {hv,gd,hl,?_};have e1:(Pm v.heap d es.size ep).objs.size=v.heap.objs.size+1:=cB ..;have e2:(Vg v.heap d l es.size ep).objs.size=v.heap.objs.size+2:=by rw[cB,e1]
 have e3:(Vf v.heap d l es.size ep).objs.size=v.heap.objs.size+3:=by rw[cB,e2]
 have e4:(Ve v.heap d l es.size ep).objs.size=v.heap.objs.size+4:=by rw[cB,e3]
 have g5:(LG v.heap d l es.size ep).get? (Ve v.heap d l es.size ep).objs.size=some _:=aF _ rfl;have g4:(LG v.heap d l es.size ep).get? (Vf v.heap d l es.size ep).objs.size=some _:=aq _ (aF _ rfl);have g3:(LG v.heap d l es.size ep).get? (Vg v.heap d l es.size ep).objs.size=some _:=aq _ (aq _ (aF _ rfl));have g2:(LG v.heap d l es.size ep).get? (Pm v.heap d es.size ep).objs.size=some _:=aq _ (aq _ (aq _ (aF _ rfl)));have g1:(LG v.heap d l es.size ep).get? v.heap.objs.size=some _:=aq _ (aq _ (aq _ (aq _ (aF _ rfl))));show _/\_;rw[e2,e3,e4]at g5;rw[e1,e2]at g3;rw[e3]at g4;rw[e1]at g2;rw[e4];exact{⟨_,g5,rfl⟩,q _ _ rfl {g5,g3,⟨_,_,g4⟩,{_,_,_,_,g1,.inl rfl},⟨_,g2,rfl,rfl⟩} λc o x=>aq _ (aq _ (aq _ (aq _ (aq _ x))))}
end
def Sk(K:Frag)(d l:Addr)(o:Obj)(u:HO)(kvs:Aam):It:=
 {λi H=>H d=some (.c7 o u)/\i<kvs.length/\∃ys y,bo K H l ys/\ys[i]?=some y,
  λi H x H'=>∃p q kv y,x=.ref p/\H q=none/\upd H q (.tup [kv.1,kv.2]) p=none/\H'=upd (upd H q (.tup [kv.1,kv.2])) p (.tup [.ref q,y])/\kvs[i]?=some kv/\∀ys,bo K H l ys->ys[i]?=some y,
  λi H=>H d=some (.c7 o u)/\kvs.length<=i}
def Xs{K:Frag}(m:K6 o es ep kvs)(EK:ti≠to):
  Turn P w K (.Tuple elts kk ps) (Sk K d l o u kvs) (gQ z ti to i1 i2) z (λi h=>Zi h z ti to i1 i2 d l .none i es.size ep) where
 mem:=aA
 obj:=λi h st c hc=>by
  obtain⟨gs,gi,⟨u,v,go⟩,⟨_,_,_,_,q1,_⟩,⟨o2,q2,c2,d2⟩⟩:=st;have qi:c=z\/c=ti\/c=to\/c=i1\/c=i2:=by simpa[gQ]using hc
  rcases qi with rfl|rfl|rfl|rfl|rfl
  ·exact{_,gs,λv z=>by cases z}
  ·exact{_,gi,λv z=>by cases z}
  ·exact{_,go,λv z=>by cases z}
  ·exact{_,q1,λv z=>by cases z}
  ·exact{_,q2,λv z=>by rw[d2]at z;cases z}
 keep:=λi h h' st k=>by obtain⟨gs,gi,⟨u,v,go⟩,w1,⟨o2,q2,r2⟩⟩:=st;exact{k z (by simp[gQ]) _ gs,k ti (by simp[gQ]) _ gi,{u,v,k to (by simp[gQ]) _ go},w1.jx λo e=>k i1 (by simp[gQ]) _ e,{o2,k i2 (by simp[gQ]) _ q2,r2}}
 item:=by
  intro X hP hw hK hc i pins s Z H E I hf st hg;subst hP hw hK;obtain⟨hd,hi,ys,y,hb,hy⟩:=hg;obtain⟨A6,IQ,AL,xV⟩:=I.list hb;obtain⟨u2,zQ,EA⟩:=IQ.get hy;have hl:kvs.length=es.size:=by rw[bw m.2.2,aS]
  have ga:s.heap.get? d=some o:=(I.br d _ hd).1;obtain⟨kv,jd⟩:∃kv,kvs[i]?=some kv:={_,au hi};have Rt:i<es.size:=by lia
  obtain⟨e,he,r⟩:=Paired.at' m.2.2 jd;have ee:es[i]=e:=by rw[bI,bD Rt]at he;exact bK he
  refine Xh EK st ga m.1 m.2.1 AL.isList Rt (y:=u2) (by simpa using zQ) λh1 g1 tq pr kp=>{_,rfl,?_};refine ux g1.self λh2 z2 sb=>?_;have qy:Heap.SameBut z h1 h2:=sb;have al:∀c∈gQ z ti to i1 i2,c<s.heap.objs.size:=λc hc=>by
   obtain⟨gs,gi,⟨u,v,go⟩,⟨_,_,_,_,q1,_⟩,⟨o2,q2,r2⟩⟩:=id st;have qi:c=z\/c=ti\/c=to\/c=i1\/c=i2:=by simpa[gQ]using hc
   rcases qi with rfl|rfl|rfl|rfl|rfl
   ·exact aI gs
   ·exact aI gi
   ·exact aI go
   ·exact aI q1
   ·exact aI q2
  have lz:z<s.heap.objs.size:=al z aA;have vv:∀c o,c∉gQ z ti to i1 i2->s.heap.get? c=some o->h2.get? c=some o:=λc o hc e=>
   qy.extBut c o (-16) (kp c o (-16) (-16) (-16) (-16) e)
  have t2:=qy.extBut _ _ (bA lz) tq;have lz1:z<s.heap.objs.size+1:=eA lz;have p2:=qy.extBut _ _ (bA lz1) pr;have I2:=I.LQ (t':=s.toks) (xs:=[kv.1,kv.2]) (us:=[es[i].key,es[i].val]) vv hf (ar _) {⟨_,t2,rfl,_,rfl⟩,_,t2,rfl} (.cons (by rw[ee];exact r.1) (.cons (by rw[ee];exact r.2) .nil)) (-35);have low:=I.low;have A9:H (-17)=none:=I.br.fresh (fH _);have uf:upd H s.heap.objs.size (.tup [kv.1,kv.2]) (-17)=none:=by rw[aE (bA (dC _))];exact A9
  have I3:=I2.KY (D:=s.heap.objs.size+1) (o:=.tup [.ref s.heap.objs.size,y]) uf {by show 2<=sizeLine;decide,[.ref s.heap.objs.size,u2],.cons rfl (.cons EA .nil),{_,p2,rfl,0,rfl},_,p2,rfl} (Nat.le_succ_of_le low.1) (bA (eA low.2.1)) (λx c h=>aL (eA (low.2.2.1 x c h))) (λq hq=>aL (eA (low.2.2.2 q hq)));obtain⟨⟨n1,n2,n3,n4⟩,_,_⟩:=g1.ne;obtain⟨gs,gi,⟨u,v,go⟩,w1,⟨o2,q2,r2⟩⟩:=g1;refine{.ref (-17),_,I3,rfl,{_,_,kv,y,rfl,I.br.fresh (ar _),uf,rfl,jd,λzs hz=>by rw[I.DF hz hb];exact hy},{z2,qy.extBut _ _ n1 gi,{u,v,qy.extBut _ _ n2 go},w1.jx λo e=>qy.extBut _ _ n3 e,{o2,qy.extBut _ _ n4 q2,r2}},λc hc=>?_};rw[aE (aL (eA (al c hc))),aE (aL (al c hc))];exact(hf c hc).1
 done:=by
  intro X hP hw hK hc i pins s Z H E I hf st hg;subst hP hw hK;obtain⟨hd,hi⟩:=hg;have hl:kvs.length=es.size:=by rw[bw m.2.2,aS]
  have ga:s.heap.get? d=some o:=(I.br d _ hd).1;exact Xg (I.ok.hd hc) st ga m.1 m.2.1 ∅ λh1 kp=>{rfl,I.LR (t':=s.toks) (ch:=gQ z ti to i1 i2) (λc o hc e=>kp c o (-16) (-16) (-16) (-16) e) hf}
 self:=λ_ _ _ _ _ st h=>lN st.self h
inductive aaR(P:Program)(w:World)(K:Frag)(R:It->Hp->Prop)(vs:Aao)(H1:Hp):Prop
 |mk r d u l kvs ys (_:vs=[.ref r,.ref l]) (_:H1 r=some (.ext (ur r d))) (_:H1 d=some u) (_:gn P w K H1 d kvs) (_:bo K H1 l ys) (_:∀o,R (Sk K d l o u (kvs.map λp=>(.ref p.2.1,p.2.2))) (upd H1 d (.c7 o u)))
def acv(P:Program)(w:World)(K:Frag)(ta:TA):TI:=λZ H R=>ta Z H λvs H1=>aaR P w K R vs H1
def XZ(hg:Gl X "zip")(hm:X.mg "zip"=none)(ha:PA X [a,b] ta)(hs:starEach [a,b] X.env=[(false,eval a X.env),(false,eval b X.env)]:=by rfl)(kH:starEach [b] X.env=[(false,eval b X.env)]:=by rfl):
  PI X (.Tuple elts kk ps) (.Call (.Name "zip" p) [a,b] [] pos) (acv X.prog X.w X.K ta):=by
 intro pins s Z H R I h;refine FF (qF I hg hm boot_zip (d9 (-55) (by rw[hs,kH]) (by rw[kH];rfl)));obtain⟨r,d,u,l,kvs,ys,e,hr,hd,hv,hb,q⟩:=q1;subst e;obtain⟨u1,u2,rfl,IT,EA⟩:=vals2 r1;cases IT;cases EA;obtain⟨iv,_⟩:=(show dG X.prog X.w H1 s1.heap r (.ext (ur r d))from I1.br r _ hr);obtain⟨lo,o,es,ep,ga,hz,m⟩:=I1.HQ hv;obtain⟨A6,IQ,AL,xV⟩:=I1.list hb;have I2:Inv X pins Z (upd H1 d (.c7 o u)) s1:=by
  rcases hv.1 with e|⟨_,e⟩
  ·rw[hd]at e;cases e;exact I1.F2 hd ga
  ·rw[hd]at e;cases e;exact I1.freeze hd ga
 refine Xj iv ga m.2.1 AL.isList λh' n en g kp=>?_;subst en;have I3:Inv X pins Z (upd H1 d (.c7 o u)) {s1 with heap:=h'}:=I2.kept (t':=s1.toks) kp;refine lN g.self ?_;refine{_,_,_,_,_,rfl,I3,Xs m ?_,g,λc hc=>?_,q o}
 ·exactλt=>absurd t (aL (dC _))
 ·have qi:c=s1.heap.objs.size+4\/c=s1.heap.objs.size+2\/c=s1.heap.objs.size+3\/c=s1.heap.objs.size\/c=s1.heap.objs.size+1:=by simpa[gQ]using hc
  have lc:s1.heap.objs.size<=c:=by rcases qi with e|e|e|e|e<;>rw[e]<;>first|exact ar _|exact d7 _ _
  exact I2.qN lc (I2.br.fresh lc)
def UD{K:Frag}{g:TG}{tb:TS}{D:Ends}(Pv:Nat->St->Hp->Prop)(le:kvs.length=ys.length)(h0:Pv 0 Z H)(hl:∀i Z H,i<=kvs.length->Pv i Z H->H d=some (.c7 o u)/\bo K H l ys)
  (hs:∀i kv y p q Z H,kvs[i]?=some kv->ys[i]?=some y->Pv i Z H->H q=none->upd H q (.tup [kv.1,kv.2]) p=none->g (.ref p) Z (upd (upd H q (.tup [kv.1,kv.2])) p (.tup [.ref q,y])) λσ2 H2=>tb {D with nx:=Pv (i+1),ct:=Pv (i+1),bk:=D.nx} σ2 H2) (hd:∀Z H,Pv kvs.length Z H->D.nx Z H):
  ∃W:Nat->Nat->St->Hp->Prop,(∃m,W 0 m Z H)/\∀i m Z H,W i m Z H->
   ((Sk K d l o u kvs).stop i H/\D.nx Z H)\/((Sk K d l o u kvs).go i H/\∃N:St->Hp->Prop,(∀σ' H',N σ' H'->∃m',m'<m/\W (i+1) m' σ' H')/\∀x H',(Sk K d l o u kvs).xt i H x H'->g x Z H' λσ2 H2=>tb {D with nx:=N,ct:=N,bk:=D.nx} σ2 H2):=by
 refine{λi m Z H=>m=kvs.length -i/\i<=kvs.length/\Pv i Z H,{kvs.length,by simp,aP _,h0},?_};rintro i m Z H ⟨rfl,hi,p⟩;obtain⟨q1,q2⟩:=hl i Z H hi p;by_cases bJ:i<kvs.length
 ·refine .inr {{q1,bJ,ys,ys[i]'∅,q2,au _},Pv (i+1),λσ' H' p'=>{kvs.length -(i+1),by lia,rfl,bJ,p'},λx H' y=>?_};obtain⟨a,b,kv,v,rfl,hb,ha,rfl,y1,y2⟩:=y;exact hs i kv v a b Z H y1 (y2 ys q2) p hb ha
 ·have e:i=kvs.length:=by lia
  subst e;exact .inl {{q1,ar _},hd Z H p}
section
variable{X:Cx}{P:Program}{w:World}{K:Frag}
def X4(he:PE X e ta)(hb:attributeBase e f X.env (eval e X.env)=eval e X.env)(h:X.K=K:=by rfl):PE X (.Attribute e f pos) (SM K ta f):=h▸mw he hb
def N6(hu:X.A.units+101<cLine)(ho:PE X o td)(he:PE X e ty)(hf:PE X f tz)(m:M2 X o "get" apos e f fC)(h1:X.prog=P:=by rfl)(h2:X.w=w:=by rfl)(h3:X.K=K:=by rfl):
  PE X (.Call (.Attribute o "get" apos) [e,f] [] fC) (LY P w K td ty tz):=by subst h1 h2 h3;exact GN hu ho he hf m
end
end L2
namespace L2
def acP{T p:V->Hp->Prop}{G:Prop}(k:(∀v H,p v H->T v H)->G)(h:∀v H,p v H->T v H):G:=k h
open PySem PySem.Spec PyProof.Rows
section
variable{K:Frag}{a d:Addr}{o:Obj}{u:HO}{kvs:Aam}{xs:Aao}{lo:Int}{n:Nat}{g:TG}{tb:TS}{D:Ends}{Z:St}{H:Hp}
def UE(Pv:Nat->St->Hp->Prop)(h0:Pv 0 Z H)(hl:∀i Z H,i<=xs.length->Pv i Z H->bF K H a xs)
  (hs:∀i x Z H(D':Ends),xs[i]?=some x->Pv i Z H->(∀σ' H',Pv (i+1) σ' H'->D'.nx σ' H')->(∀v H',D.rt v H'->D'.rt v H')->g x Z H λσ2 H2=>tb D' σ2 H2) (hd:∀Z H,Pv xs.length Z H->D.nx Z H):=
 B7 (K:=K) (a:=a) (xs:=xs) (g:=g) (tb:=tb) (D:=D) (Z:=Z) (H:=H) Pv h0 hl (λi x Z H hx hp=>hs i x Z H _ hx hp (λ_ _ h=>h) λ_ _ h=>h) hd
def nG(Pv:Nat->St->Hp->Prop)(h0:Pv 0 Z H)(hl:∀i Z H,i<=xs.length->Pv i Z H->bo K H a xs)
  (hs:∀i x Z H(D':Ends),xs[i]?=some x->Pv i Z H->(∀σ' H',Pv (i+1) σ' H'->D'.nx σ' H')->(∀v H',D.rt v H'->D'.rt v H')->g x Z H λσ2 H2=>tb D' σ2 H2) (hd:∀Z H,Pv xs.length Z H->D.nx Z H):=
 DP (K:=K) (a:=a) (xs:=xs) (g:=g) (tb:=tb) (D:=D) (Z:=Z) (H:=H) Pv h0 hl (λi x Z H hx hp=>hs i x Z H _ hx hp (λ_ _ h=>h) λ_ _ h=>h) hd
def yZ(Pv:Nat->St->Hp->Prop)(h0:Pv 0 Z H)
  (hs:∀i Z H(D':Ends),i<n->Pv i Z H->(∀σ' H',Pv (i+1) σ' H'->D'.nx σ' H')->(∀v H',D.rt v H'->D'.rt v H')->g (.int (lo+i)) Z H λσ2 H2=>tb D' σ2 H2) (hd:∀Z H,Pv n Z H->D.nx Z H):=
 Bi (lo:=lo) (n:=n) (g:=g) (tb:=tb) (D:=D) (Z:=Z) (H:=H) Pv h0 (λi Z H hx hp=>hs i Z H _ hx hp (λ_ _ h=>h) λ_ _ h=>h) hd
def OT(Pv:Nat->St->Hp->Prop)(h0:Pv 0 Z H)(hl:∀i Z H,i<=kvs.length->Pv i Z H->H d=some (.c7 o u))
  (hs:∀i kv Z H(D':Ends),kvs[i]?=some kv->Pv i Z H->(∀σ' H',Pv (i+1) σ' H'->D'.nx σ' H')->(∀v H',D.rt v H'->D'.rt v H')->g kv.1 Z H λσ2 H2=>tb D' σ2 H2) (hd:∀Z H,Pv kvs.length Z H->D.nx Z H):=
 RJ (d:=d) (o:=o) (u:=u) (kvs:=kvs) (g:=g) (tb:=tb) (D:=D) (Z:=Z) (H:=H) Pv h0 hl (λi kv Z H hx hp=>hs i kv Z H _ hx hp (λ_ _ h=>h) λ_ _ h=>h) hd
def RK(Pv:Nat->St->Hp->Prop)(h0:Pv 0 Z H)(hl:∀i Z H,i<=xs.length->Pv i Z H->bo K H a xs)
  (hs:∀i x p Z H(D':Ends),xs[i]?=some x->Pv i Z H->H p=none->(∀σ' H',Pv (i+1) σ' H'->D'.nx σ' H')->g (.ref p) Z (upd H p (.tup [.int i,x])) λσ2 H2=>tb D' σ2 H2) (hd:∀Z H,Pv xs.length Z H->D.nx Z H):=
 DQ (K:=K) (a:=a) (xs:=xs) (g:=g) (tb:=tb) (D:=D) (Z:=Z) (H:=H) Pv h0 hl (λi x p Z H hx hp hn=>hs i x p Z H _ hx hp hn λ_ _ h=>h) hd
noncomputable def RH{l:Addr}{ys:Aao}(Pv:Nat->St->Hp->Prop)(le:kvs.length=ys.length)(h0:Pv 0 Z H)(hl:∀i Z H,i<=kvs.length->Pv i Z H->H d=some (.c7 o u)/\bo K H l ys)
  (hs:∀i kv y p q Z H(D':Ends),kvs[i]?=some kv->ys[i]?=some y->Pv i Z H->H q=none->upd H q (.tup [kv.1,kv.2]) p=none->(∀σ' H',Pv (i+1) σ' H'->D'.nx σ' H')->g (.ref p) Z (upd (upd H q (.tup [kv.1,kv.2])) p (.tup [.ref q,y])) λσ2 H2=>tb D' σ2 H2) (hd:∀Z H,Pv kvs.length Z H->D.nx Z H):=
 UD (K:=K) (d:=d) (l:=l) (o:=o) (u:=u) (kvs:=kvs) (ys:=ys) (g:=g) (tb:=tb) (D:=D) (Z:=Z) (H:=H) Pv le h0 hl (λi kv y p q Z H a b c e f=>hs i kv y p q Z H _ a b c e f λ_ _ h=>h) hd
end
end L2
namespace oQ
open PySem PySem.Spec PyProof.Rows L2 Hw hZ
seal L2.PE L2.PT L2.PW L2.PA L2.PS L2.qo L2.PI L2.PO L2.K2 L2.PG L2.Hy
def top(i:Nat):Stmt:=PySem.Challenge.pw_askviews_k41_what_views_see.main.body.getD i (.Pass {0,0,0,0})
abbrev yK:Stmt:=top 3
abbrev vf:Stmt:=top 4
abbrev tM:Stmt:=top 6
abbrev Ay:Stmt:=top 8
abbrev qz:Stmt:=top 9
abbrev AD:Stmt:=top 11
abbrev wX:Stmt:=top 12
abbrev rJ:Stmt:=top 13
abbrev yI:Stmt:=top 15
abbrev wW:Stmt:=top 16
abbrev FL:Stmt:=top 17
abbrev yL:Stmt:=top 18
abbrev rH:Stmt:=top 19
abbrev IJ:Stmt:=top 21
abbrev Dp:Stmt:=top 23
abbrev Du:Stmt:=top 24
abbrev Az:Stmt:=top 25
abbrev Dy:Stmt:=top 26
abbrev Dm:Stmt:=top 27
abbrev ve:Stmt:=top 28
abbrev FK:Stmt:=top 29
abbrev vd:Stmt:=top 30
abbrev AB:Stmt:=top 31
abbrev yJ:Stmt:=top 32
abbrev qA:Stmt:=top 33
abbrev oU:Stmt:=top 34
abbrev AA:Stmt:=top 35
abbrev NS:Stmt:=top 36
abbrev vc:Stmt:=inClass (top 14) 0
abbrev rK:Stmt:=inClass (top 14) 1
abbrev Dl:Stmt:=inClass (top 14) 2
abbrev ni:Stmt:=inClass (top 14) 3
abbrev oS:Stmt:=inClass (top 14) 4
def FA(K:Frag)(H:Hp)(a:Addr)(xs:Aao):Prop:=
 (∃o,H a=some (.c7 o (.lst xs)))\/∃(o:Obj)(aY:Aal)(n:Nat),K.lookup a=some o/\o.cls=.type "list"/\o.dict=none/\o.data=.seq aY n/\aY.size<=sizeLine/\Vals xs aY.toList
def FA.sq{K:Frag}(h:FA K H a xs):bo K H a xs:=by
 rcases h with⟨o,h⟩|h
 ·exact .inl (.inr ⟨o,h⟩)
 ·exact .inr h
def dY(_K:Frag)(f:Addr)(H:Hp):Prop:=∃x p q:Int,H f=some (.lst [.int x,.int p,.int q])
def Ext(f:Addr)(H H':Hp):Prop:=∀b o,b≠f->H b=some o->H' b=some o
def Ext.refl(f:Addr)(H:Hp):Ext f H H:=λ_ _ _ h=>h
def Ext.trans(a:Ext f H H1)(b:Ext f H1 H2):Ext f H H2:=λc o n h=>b c o n (a c o n h)
def Ext.new(a:Ext f H H1)(h:H1 p=none)(o:HO):Ext f H (upd H1 p o):=λb u n q=>by rw[aE (ba (a b u n q) h)];exact a b u n q
def Ext.own(a:Ext f H H1)(h:H p=none)(o:HO):Ext f H (upd H1 p o):=λb u n q=>by rw[aE (ba q h)];exact a b u n q
def Ext.feed(a:Ext f H H1)(o:HO):Ext f H (upd H1 f o):=λb u n q=>by rw[aE n];exact a b u n q
def Ext.none(a:Ext f H H1)(n:p≠f)(h:H1 p=Option.none):H p=Option.none:=by
 cases q:H p with
 |none=>rfl
 |some o=>
  rw[a p o n q]at h;cases h
def dY.new{K:Frag}(h:dY K f H)(hp:H p=none)(o:HO):dY K f (upd H p o):=by obtain⟨x,y,z,hf⟩:=h;exact{x,y,z,by rw[aE (ba hf hp)];exact hf}
def dY.lst{K:Frag}(h:dY K f H)(hp:H p=some (.lst xs))(n:p≠f)(o:HO):dY K f (upd H p o):=by obtain⟨x,y,z,hf⟩:=h;exact{x,y,z,by rw[aE n.symm];exact hf}
def dY.qd{K:Frag}(h:dY K f H)(hp:H p=none):p≠f:=by obtain⟨x,y,z,hf⟩:=h;exact(ba hf hp).symm
def dY.same{K:Frag}{f:Addr}{H H':Hp}(h:dY K f H)(sm:bq H H'):dY K f H':=by obtain⟨x,y,z,hf⟩:=h;exact{x,y,z,sm _ _ hf}
inductive Ep(K:Frag)(vs:Aao)(H:Hp)(Q:VK)(_x3:XK):Prop
 |mk (f:Addr) (many:Int) (_:vs=[.ref f,.int many]) (_:dY K f H) (_:0<many) (_:many<1073741824) (_:∀(i:Int)(H':Hp),0<=i->i<many->dY K f H'->Ext f H H'->Q (.int i) H')
inductive PM(K:Frag)(vs:Aao)(H:Hp)(Q:VK)(_x3:XK):Prop
 |mk (a:Addr) (ns:List Int) (k:Int) (_:vs=[.ref a,.int k]) (_:FA K H a (ns.map V.int)) (_:ns.length<=63) (_:0<=k) (_:∀(r:Addr)(H':Hp),dY K r H'->bq H H'->H r=none->Q (.ref r) H')
noncomputable def cJ:Aah:=["a","ab","r","rs","abc","12","1","x","s","x1","0","abcdefgh"]
inductive BW(K:Frag)(vs:Aao)(H:Hp)(Q:VK)(_x3:XK):Prop
 |mk (f:Addr) (many:Int) (_:vs=[.ref f,.int many]) (_:dY K f H) (_:0<=many) (_:many<=12) (_:∀(r:Addr)(ws:Aah)(H':Hp),dY K f H'->Ext f H H'->r≠f->H r=none->H' r=some (.lst (ws.map V.str))->(ws.length:Int)=many->ws.Nodup->(∀z∈ws,z∈cJ)->Q (.ref r) H')
section
variable{P:Program}{w:World}{K:Frag}{mg:Aad}{base:Heap}
structure Txt(K:Frag)(mg:Aad):Prop where
 kU:mg "len"=none
 mI:mg "range"=none
 kC:mg "tuple"=none
 vk:mg "list"=none
 nA:mg "isinstance"=none
 VY:mg "all"=none
 VX:mg "str"=none
 aeE:mg "bool"=none
 aeG:mg "int"=none
 AX:mg "dict"=none
 wZ:mg "enumerate"=none
 EN:mg "zip"=none
 acn:mg "sum"=none
 vj:mg "sorted"=none
 Of:mg "set"=none
 YB:∃t,mg "SIGNS"=some (.str "abcdefghijklmnopqrstuvwxyz0123456789" t)
 Ku:∃t,mg "MOST_SIGNS"=some (.int 8 t)
def Zo(r:gX k A):A.units+96<cLine:=by have:=r.un;lia
def P0:cD ["_law_script","_law_k"] ["_law_script","_law_k"] (defScope Dp):=jD (-3)
def Yc(F:fq K "_law_feed" "_law_feed" Dp f fd)(T:Txt K mg):dk P w K mg base fU 1 f fd ["_law_script","_law_k"] (PM K):=by
 refine F.ok P0 (λ_ _ _ _ h=>by cases h;subst_vars;rfl) (-4);obtain⟨a,ns,kk,rfl,hS,hn,hk,k⟩:=h;refine{_,(aN (gJ (dh uE (cW iS rfl T.kU dj (cz (pv 0))) bh (eW _)) (a9 (cN (eZ (sO bh bh (pv 1))))) eG) (a9 (cN (eZ (sO (dq hE (pv 0) (dM ph (pv 1) (cW iS rfl T.kU dj (cz (pv 0)))) (-15)) bh (pv 1)))))),?_}
 have nl:(-67).length=ns.length:=ak _;refine{_,rfl,_,_,rfl,.inl {_,hS.sq,rfl},rfl,_,rfl,?_};refine fm (-61) (-61)
 ·refine{_,rfl,(by show 3<=sizeLine;decide),λp hp=>?_};exact k p _ ⟨_,_,_,aw⟩ (λb u q=>by rw[aE (ba q hp)];exact q) hp
 ·have c1:((-67).length:Int)≠0:=λe=>c (bp (bU V.int e));have c3:(0:Int)<((-67).length:Int):=by lia
  have c4:=mY kk (show((-67).length:Int)≠0 by lia);have c5:=kP kk c3;obtain⟨v,hv⟩:∃v,ns[(kk %((-67).length:Int)).toNat]?=some v:={_,au (by rw[<-nl];lia)};have ev:wH (-67) (kk %((-67).length:Int))=some (.int v):=by
   have e0:kk %((-67).length:Int)=(((kk %((-67).length:Int)).toNat:Nat):Int):=by lia
   rw[e0];exact kD (by rw[aK,hv];rfl)
  refine{_,rfl,_,rfl,_,rfl,_,_,rfl,.inl {_,hS.sq,rfl},_,_,rfl,rfl,c3,_,_,_,_,rfl,rfl,hS.sq,ev,_,rfl,(by show 3<=sizeLine;decide),λp hp=>?_};exact k p _ ⟨_,_,_,aw⟩ (λb u q=>by rw[aE (ba q hp)];exact q) hp
def wk:cD ["_law_feed_here","_law_many","_law_digit","_law_seed"] ["_law_feed_here","_law_many"] (defScope Du):=jD (-3)
def Yd(F:fq K "_law_draw" "_law_draw" Du f fd)(T:Txt K mg):dk P w K mg base fU 1 f fd ["_law_feed_here","_law_many"] (Ep K):=by
 refine F.ok wk (λ_ _ _ _ h=>by cases h;subst_vars;rfl) (-4);obtain⟨fe,many,rfl,⟨x,p,q,hf⟩,hm,Rj,k⟩:=h;have lo:∀(x m:Int),0<m->m<2^32->-(2^64)<x % m/\x % m<2^64:=λx m h1 h2=>by have h3:=mY x (show m≠0 by lia);have h4:=kP x h1;lia
 refine{_,(aN (xG (dM jE (dq hE (pv 0) bh (-15)) bh) (Qg (pv 0) bh set_list)) (aN (gJ (dh acm (dq hE (pv 0) bh (-15)) (dM aam bh bh) (eW _)) (aN (fJ 2 wk (dM ph (dq hE (pv 0) bh (-15)) (pv 1))) (aN (xG (dM Tu (dq hE (pv 0) bh (-15)) (pv 1)) (Qg (pv 0) bh set_list)) (a9 (cN (pv 2))))) eG) (aN (fJ 3 wk (dM jE (dM jE (dM jE (dM ph (dq hE (pv 0) bh (-15)) bh) (dM xK bh (dq hE (pv 0) bh (-15)))) (dM xK bh (dq hE (pv 0) bh (-15)))) bh)) (aN (fJ 3 wk (dM ph (dM xK (pv 3) bh) bh)) (a9 (cN (dM ph (dM ph (dM xK (dM ph (dM jE (dM xK (pv 3) bh) (dq hE (pv 0) bh (-15))) bh) bh) bh) (pv 1)))))))),?_}
 refine{_,rfl,fe,_,_,_,rfl,rfl,bo.of hf,rfl,_,_,rfl,rfl,_,rfl,fe,_,_,_,rfl,rfl,hf,rfl,?_};have vC:upd H fe (.lst [.int x,.int (p+1),.int q]) fe=some (.lst [.int x,.int (p+1),.int q]):=aw;have rC:Ext fe H (upd H fe (.lst [.int x,.int (p+1),.int q])):=(Ext.refl fe H).feed _;refine{_,rfl,fe,_,_,_,rfl,rfl,bo.of vC,rfl,_,_,rfl,rfl,{by decide,by decide,by decide},_,_,rfl,rfl,_,rfl,?_};refine fm (-61) (-61)
 ·refine{_,rfl,fe,_,_,_,rfl,rfl,bo.of vC,rfl,_,rfl,_,_,rfl,rfl,hm,?_};have l2:many.natAbs.log2<9000:=by
   by_cases hz:many.natAbs=0
   ·rw[hz];decide
   ·rw[Nat.log2_lt hz];exact fE (show many.natAbs<2^30 by lia) (Nat.pow_lt_pow_right (-8) (-8))
  refine{_,rfl,fe,_,_,_,rfl,rfl,bo.of vC,rfl,_,rfl,_,_,rfl,rfl,⟨hm,l2⟩,_,rfl,fe,_,_,_,rfl,rfl,vC,rfl,?_};refine{_,rfl,?_};exact k _ _ (mY _ ∅) (kP _ hm) ⟨_,_,_,aw⟩ (rC.feed _)
 ·refine{_,rfl,fe,_,_,_,rfl,rfl,bo.of vC,rfl,_,_,rfl,rfl,(by show(0:Int)<2147483647;decide),?_};refine{_,rfl,fe,_,_,_,rfl,rfl,bo.of vC,rfl,_,_,rfl,rfl,.inl {by decide,by decide},_,_,rfl,rfl,?_};refine{_,rfl,fe,_,_,_,rfl,rfl,bo.of vC,rfl,_,_,rfl,rfl,.inl {by decide,by decide},_,_,rfl,rfl,_,_,rfl,rfl,?_};refine{_,rfl,_,_,rfl,rfl,.inr {by decide,by decide},_,_,rfl,rfl,(by show(0:Int)<2147483647;decide),?_};refine{_,rfl,_,_,rfl,rfl,.inr {by decide,by decide},_,rfl,fe,_,_,_,rfl,rfl,bo.of vC,rfl,_,_,rfl,rfl,_,_,rfl,rfl,(by show(0:Int)<2147483399;decide),_,_,rfl,rfl,.inr {by decide,by decide},_,_,rfl,rfl,(by show(0:Int)<2147483563;decide),_,rfl,_,_,rfl,rfl,hm,?_};exact k _ _ (mY _ ∅) (kP _ hm) ⟨_,_,_,vC⟩ rC
structure Dr(P:Program)(w:World)(K:Frag)(mg:Aad)(base:Heap):Prop where
 fA:dP P w K mg base 1 "_law_draw" ["_law_feed_here","_law_many"] (Ep K)
def wordAt(i s j:Nat):Str:=cJ.getD ((i+s*j) % 12) ""
def Sq:((List.range 12).all λi=>([1,5,7,11]:List Nat).all λs=>decide (((List.range 12).map λj=>wordAt i s j).Nodup))=true:=by decide+kernel
def Sr:((List.range 12).all λi=>decide (cJ.getD i ""∈cJ))=true:=by decide+kernel
def K8{i s m:Nat}(hi:i<12)(hs:s∈([1,5,7,11]:List Nat))(hm:m<=12):((List.range m).map λj=>wordAt i s j).Nodup:=by
 have h1:=bj (bZ.mp (bZ.mp Sq i (cY.mpr hi)) s hs);have h2:((List.range m).map λj=>wordAt i s j)=(((List.range 12).map λj=>wordAt i s j)).take m:=by rw[<-tX,List.take_range,gL hm]
 rw[h2];exact h1.sublist (oZ _ _)
def Xm(i s j:Nat):wordAt i s j∈cJ:=bj (bZ.mp Sr ((i+s*j) % 12) (cY.mpr (lW _ (-8))))
def aca{i:Int}(h0:0<=i)(h1:i<4):∃s:Nat,s∈([1,5,7,11]:List Nat)/\wH [V.int 1,V.int 5,V.int 7,V.int 11] i=some (.int (s:Int)):=by
 have c:i=0\/i=1\/i=2\/i=3:=by lia
 rcases c with rfl|rfl|rfl|rfl
 ·exact{1,by decide,rfl}
 ·exact{5,by decide,rfl}
 ·exact{7,by decide,rfl}
 ·exact{11,by decide,rfl}
def uC:cD ["_law_feed_here","_law_many","_law_some","_law_first","_law_step"] ["_law_feed_here","_law_many"] (defScope Az):=jD (-3)
def Tz{f:Addr}{fd:FuncData}(F:fq K "_law_words" "_law_words" Az f fd)(T:Txt K mg)(D:Dr P w K mg base):dk P w K mg base fU 2 f fd ["_law_feed_here","_law_many"] (BW K):=by
 refine F.ok uC (λ_ _ _ _ h=>by cases h;subst_vars;rfl) (-4);obtain⟨fe,many,rfl,hF,hm0,Wt,k⟩:=h;refine{_,(aN (jU (i:=2) uC.nd rfl (Or.inr rfl) (eZ (iF f7 (iF f7 (iF f7 (iF f7 (iF f7 (iF f7 (iF f7 (iF f7 (iF f7 (sO f7 f7 f7)))))))))))) (aN (jU (i:=3) uC.nd rfl (Or.inr rfl) (-22)) (aN (jU (i:=4) uC.nd rfl (Or.inr rfl) (dq hE (eZ (iF bh (sO bh bh bh))) (-22) (-15))) (a9 (cN (g8 rfl (cU (fs:=["_law_some","_law_first","_law_step"]) (fr:=[2,3,4])) (jP rfl T.mI (cz (pv 1))) (λ_ _ _ _=>(dq (vy (K:=K)) (pv 1) (dM ph (dM jE (pv 2) (dM xK (pv 3) (pv 0))) bh) (-15))))))))),?_}
 refine{(by show 12<=sizeLine;decide),λp hp=>?_};have np:=hF.qd hp;have oM:=hF.new hp (.lst [.str "a",.str "ab",.str "r",.str "rs",.str "abc",.str "12",.str "1",.str "x",.str "s",.str "x1",.str "0",.str "abcdefgh"]);refine{_,rfl,fe,12,rfl,oM,by decide,by decide,λi H1 i0 i1 oM rC=>?_};refine{(by show 4<=sizeLine;decide),λp2 iU=>?_};have np2:=oM.qd iU;refine{_,rfl,fe,4,rfl,oM.new iU _,by decide,by decide,λj H2 j0 j1 jW jX=>?_};obtain⟨st,ic,ev⟩:=aca j0 j1;refine{_,_,_,_,rfl,rfl,bo.of (jX _ _ np2 aw),ev,?_};have wB:H1 p=some (.lst (cJ.map V.str)):=rC _ _ np aw;have npp:p≠p2:=ba wB iU;have Wr:H2 p=some (.lst (cJ.map V.str)):=jX _ _ np (by rw[aE npp];exact wB);have ex:Ext fe H H2:=(((Ext.refl fe H).new hp _).trans rC).trans (((Ext.refl fe H1).new iU _).trans jX);refine{_,rfl,many,rfl,by lia,by lia,λn m ys H3=>H3=H2/\n<=many.toNat/\m=many.toNat -n/\ys=((List.range n).map λj=>wordAt i.toNat st j).map V.str,{_,rfl,aP _,rfl,rfl},?_};rintro n m ys H3 ⟨rfl,hn,rfl,rfl⟩;have ly:(((List.range n).map λj=>wordAt i.toNat st j).map V.str).length=n:=by rw[ak,ak,gG]
 by_cases bJ:n<many.toNat
 ·refine .inr {bJ,by rw[ly];exact bC ∅,?_};rintro v H4 ⟨rfl,rfl⟩;refine gu ?_;have hix:wH (cJ.map V.str) ((i+(st:Int)*(0+(n:Int))) % 12)=some (.str (wordAt i.toNat st n)):=by
   have e0:(i+(st:Int)*(0+(n:Int))) % 12=(((i.toNat+st*n) % 12:Nat):Int):=by
    have e1:i=(i.toNat:Int):=by lia
    rw[vT,e1];simp
   rw[e0];refine kD ?_;have Wu:(i.toNat+st*n) % 12<cJ.length:=lW _ (-8);rw[aK,au Wu];unfold wordAt;rw[cq,au Wu];rfl
  have acB:-(2^64)<(st:Int)/\(st:Int)<2^64:=by simp at ic;lia
  refine{_,rfl,_,rfl,_,rfl,_,rfl,_,_,rfl,rfl,.inl acB,_,_,rfl,rfl,_,_,rfl,rfl,(by show(0:Int)<12;decide),_,_,_,_,rfl,rfl,bo.of Wr,hix,?_};refine{many.toNat -(n+1),by lia,rfl,bJ,rfl,?_};rw[List.range_succ,aJ,aJ];rfl
 ·have en:n=many.toNat:=by lia
  refine .inl {by show many.toNat<=n;lia,by rw[ly];exact bu (bC ∅),λl hl=>?_};have nl:=jW.qd hl;refine k l _ _ (jW.new hl _) (ex.new hl _) nl (ex.none nl hl) aw ?_ (K8 ∅ ic ∅) λz hz=>?_
  ·rw[ak,gG];lia
  ·obtain⟨j,_,rfl⟩:=aR.mp hz;exact Xm _ _ _
def EF(hg:Gl X x)(hm:X.mg x=none)(hv:bootBuiltins x=some (.type n))(hn:x≠"__name__":=by decide)(hd:(-32)=false:=by decide):PE X (.Name x pos) (tC (.ty n)):=X6 hg hm hv rfl hn hd
def SIGNS:Str:="abcdefghijklmnopqrstuvwxyz0123456789"
def sgn(c:Nat):Bool:=!(Builtin.Str.occurrences SIGNS ⟨#[c]⟩ 0 SIGNS.length 1).isEmpty
def isVal(s:Str):Bool:=decide ((1:Int)<=(s.length:Int))&&(decide ((s.length:Int)<=8)&&(s.cps.toList.map sgn).all id)
def isUnk(s:Str):Bool:=Txt.startswith s "?"&&isVal (Txt.slice s (some 1) none)
inductive Vt(vs:Aao)(H:Hp)(Q:VK)(_x3:XK):Prop
 |mk (z:Str) (_:vs=[.str z]) (_:z.length<=1000) (_:∀H',bq H H'->Q (.bl (isVal z)) H')
inductive Vu(vs:Aao)(H:Hp)(Q:VK)(_x3:XK):Prop
 |mk (z:Str) (_:vs=[.str z]) (_:z.length<=1000) (_:∀H',bq H H'->Q (.bl (isUnk z)) H')
def aM(h:H p=none)(o:HO):bq H (upd H p o):=λb u q=>by rw[aE (ba q h)];exact q
def JX(t:Value):kitOne K t t=some true:=by unfold kitOne;rw[aC (beq_self_eq_true t)]
def Le:cD ["thing"] ["thing"] (defScope yK):=jD (-3)
def Lj(F:fq K "is_value" "is_value" yK f fd)(T:Txt K mg):dk P w K mg base fU 1 f fd ["thing"] Vt:=by
 refine F.ok Le (λ_ _ _ _ h=>by cases h;subst_vars;rfl) (-4);obtain⟨z,rfl,hz,k⟩:=h;refine{_,(aN (gJ (IZ (AJ (cW pq rfl T.nA (-3) (dR (pv 0) (EF (n:="str") rfl T.VX (-3)))))) (a9 (cN yO)) eG) (a9 (cN (Jq (Tt N9 N9 bh (cW iS rfl T.kU dj (cz (pv 0))) (Tq rfl T.Ku)) (Qh (cW (yh rfl) rfl T.VY boot_all (cz (g8 rfl (cU (fs:=[]) (fr:=[])) (aak (pv 0)) (λ_ _ _ _=>(FR Qo (pv 0) (Tp rfl T.YB) (-58))))))))))),?_}
 have lM:z.length<=sizeLine:=bu (bC hz);refine{_,rfl,_,_,_,true,rfl,oX.str z,JX _,_,rfl,?_};refine vz ?_;refine{_,rfl,_,_,rfl,⟨lM,rfl⟩,_,_,rfl,rfl,_,rfl,?_};refine fm (λc1=>?_) (λc1=>?_)
 ·refine{_,_,rfl,rfl,_,rfl,?_};refine fm (λc2=>?_) (λc2=>?_)
  ·refine{_,rfl,_,rfl,λi m ys H2=>H2=H/\i<=z.cps.size/\m=z.cps.size -i/\ys=((z.cps.toList.take i).map sgn).map V.bl,{_,rfl,aP _,rfl,rfl},?_};rintro i m ys H2 ⟨rfl,hi,rfl,rfl⟩;have hl:∀j,(((z.cps.toList.take j).map sgn).map V.bl).length<=1000:=λj=>by
    rw[ak,ak,aT];have:z.cps.toList.length=z.length:=by simp[Str.length]
    lia
   by_cases bJ:i<z.cps.size
   ·refine .inr {bJ,bC (hl i),?_};rintro v H3 ⟨rfl,c,hc,rfl⟩;refine gu ?_;refine{_,rfl,_,_,rfl,rfl,_,?_,rfl,bJ,rfl,?_}
    ·exact Nat.sub_lt_sub_left bJ (dC i)
    ·have qi:z.cps.toList[i]?=some c:=by simpa using hc
     rw[bg,qi,aJ,aJ];rfl
   ·have e:i=z.cps.size:=by lia
    refine .inl {e,bu (bC (hl i)),λl qM=>?_};refine{_,(z.cps.toList.take i).map sgn,rfl,bo.of aw,?_};have et:z.cps.toList.take i=z.cps.toList:=dU (by rw[e];simp);have ev:isVal z=((z.cps.toList.take i).map sgn).all id:=by unfold isVal;rw[c1,c2,et,gO,gO]
    rw[<-ev];exact k _ (aM qM _)
  ·have ev:isVal z=false:=by unfold isVal;rw[fL.mpr c2,lK,si]
   have q:=k H (bq.refl H);rw[ev]at q;exact q
 ·have ev:isVal z=false:=by unfold isVal;rw[fL.mpr c1,lK]
  have q:=k H (bq.refl H);rw[ev]at q;refine{_,rfl,?_};exact vz q
structure Dv(P:Program)(w:World)(K:Frag)(mg:Aad)(base:Heap):Prop where
 is_value:dP P w K mg base 1 "is_value" ["thing"] Vt
def HG:cD ["thing"] ["thing"] (defScope vf):=jD (-3)
def slice_le(z:Str):(Txt.slice z (some 1) none).length<=z.length:=qW z _ _
def HH(F:fq K "is_unknown" "is_unknown" vf f fd)(T:Txt K mg)(D:Dv P w K mg base):dk P w K mg base fU 2 f fd ["thing"] Vu:=by
 refine F.ok HG (λ_ _ _ _ h=>by cases h;subst_vars;rfl) (-4);obtain⟨z,rfl,hz,k⟩:=h;refine{_,(a9 (cN (Jq (cW pq rfl T.nA (-3) (dR (pv 0) (EF (n:="str") rfl T.VX (-3)))) (Jq (ox PySem.F.plainAttrs_str PySem.F.slot_str_startswith PySem.F.type_str_startswith HI (pv 0) (cz f7)) (Qh (cl D.is_value hr (cz (rO ZT (pv 0) (uO bh) uP)))))))),?_};have lM:z.length<=sizeLine:=bu (bC hz);refine{_,rfl,_,_,_,true,rfl,oX.str z,JX _,_,rfl,?_};refine F0 ?_;refine{_,rfl,rfl,_,_,rfl,rfl,_,rfl,?_};refine fm (λc1=>?_) (λc1=>?_)
 ·refine{_,rfl,_,rfl,_,rfl,lM,_,rfl,aD (slice_le z) hz,λH' sm=>?_};have ev:isUnk z=isVal (Txt.slice z (some 1) none):=by unfold isUnk;rw[c1,gO]
  rw[<-ev];exact k H' sm
 ·have ev:isUnk z=false:=by unfold isUnk;rw[fL.mpr c1,lK]
  have q:=k H (bq.refl H);rw[ev]at q;exact q
def step(acc:Aah)(t:Str):Aah:=if isUnk t=true then(if t∈acc then acc else acc++[t])else acc
def fM(fl:Aah):Aah:=fl.foldl step []
def TY(acc:Aah)(t:Str):(step acc t).length<=acc.length+1:=by
 unfold step;split
 ·split
  ·lia
  ·rw[aO];exact ar _
 ·lia
theorem JT:∀(fl acc:Aah),(fl.foldl step acc).length<=acc.length+fl.length
 |[],acc=>by simp
 |t::r,acc=>by have h1:=JT r (step acc t);have h2:=TY acc t;rw[fT,bx];lia
def FY(fl:Aah):(fM fl).length<=fl.length:=by have:=JT fl [];simpa[fM]using this
def Sz(fl:Aah)(t:Str):fM (fl++[t])=step (fM fl) t:=by unfold fM;rw[o6];rfl
def qH(acc:Aah):List (Key×V):=acc.map λt=>(Sum.inr t,V.bl true)
def any_keys(acc:Aah)(t:Str):((qH acc).any λkv=>decide (kv.1=(Sum.inr t:Key)))=decide (t∈acc):=by
 unfold qH;rw[List.any_map,fV,j8];constructor
 ·rintro⟨x,hx,e⟩;have e':(Sum.inr x:Key)=Sum.inr t:=bj e;injection e' with e';exact bp (e'▸hx)
 ·intro h;exact{t,bj h,bp rfl}
def Td(acc:Aah)(t:Str):putK (qH acc) (Sum.inr t:Key) (V.bl true)=qH (if t∈acc then acc else acc++[t]):=by
 unfold putK;rw[any_keys];by_cases h:t∈acc
 ·rw[bp h,aC rfl,aC h];unfold qH;rw[bW];refine bX λx _=>?_;show(if(Sum.inr x:Key)=Sum.inr t then((Sum.inr x:Key),V.bl true)else(Sum.inr x,V.bl true))=_;split<;>rfl
 ·rw[bQ h,az aW,az h];unfold qH;rw[aJ];rfl
def QT(acc:Aah):((qH acc).map λkv=>kV kv.1)=acc.map V.str:=by unfold qH;rw[bW];rfl
def eE(H H':Hp):Prop:=∀b xs,H b=some (.tup xs)->H' b=some (.tup xs)
def eE.trans(a:eE H H1)(b:eE H1 H2):eE H H2:=λc xs h=>b c xs (a c xs h)
def eE.of{H H':Hp}(a:bq H H'):eE H H':=λc xs h=>a c _ h
def eE.refl(H:Hp):eE H H:=λ_ _ h=>h
def eE.new(a:eE H H1)(h:H1 p=none)(o:HO):eE H (upd H1 p o):=λb xs q=>by rw[aE (ba (a b xs q) h)];exact a b xs q
def eE.ext(hf:H f=some (-38))(a:Ext f H H1):eE H H1:=λb xs q=>a b _ (yR q hf λz=>by cases z) q
def dY.m8{K:Frag}(h:dY K f H)(a:Ext f H H1):eE H H1:=by obtain⟨_,_,_,hf⟩:=h;exact eE.ext hf a
def mF(H:Hp)(v:V)(a:Str×Aah):Prop:=∃(p t:Addr),v=.ref p/\H p=some (.tup [.str a.1,.ref t])/\H t=some (.tup (a.2.map V.str))
abbrev fg(H:Hp):Aao->Aaa->Prop:=Paired (mF H)
def mF.keep(a:eE H H')(h:mF H v b):mF H' v b:=by obtain⟨p,t,e,h1,h2⟩:=h;exact{p,t,e,a _ _ h1,a _ _ h2}
def fg.keep(a:eE H H')(h:fg H vs ats):fg H' vs ats:=Paired.imp' (λ_ _ q=>q.keep a) h
def FC(H:Hp)(v:V)(hz:Aah)(ats:Aaa):Prop:=∃(q h a:Addr)(vs:Aao),v=.ref q/\H q=some (.tup [.ref h,.ref a])/\H h=some (.tup (hz.map V.str))/\H a=some (.tup vs)/\fg H vs ats
def FC.keep{H H':Hp}{v:V}{hz:Aah}{ats:Aaa}(t:eE H H')(x:FC H v hz ats):FC H' v hz ats:=by obtain⟨q,h,a,vs,e,h1,h2,h3,h4⟩:=x;exact{q,h,a,vs,e,t _ _ h1,t _ _ h2,t _ _ h3,fg.keep t h4}
def Paired.Et(h:Paired F l₁ aac)(q:F a b):Paired F (l₁++[a]) (aac++[b]):=h.snoc q
theorem Paired.app{α β:Type}{F:α->β->Prop}:∀{l₁ m₁:List α}{aac m₂:List β},Paired F l₁ aac->Paired F m₁ m₂->Paired F (l₁++m₁) (aac++m₂)
 |_,_,_,_,.nil,h=>h
 |_,_,_,_,.cons a t,h=>.cons a (Paired.app t h)
theorem Paired.at:∀{l₁:List α}{aac:List β}{i:Nat}{x:α},Paired F l₁ aac->l₁[i]?=some x->∃y,aac[i]?=some y/\F x y
 |_,_,_,_,.nil,e=>by simp at e
 |_,_,0,_,.cons r _,e=>by simp at e;subst e;exact⟨_,rfl,r⟩
 |_,_,i+1,x,.cons _ t,e=>by obtain⟨y,h1,h2⟩:=Paired.at (i:=i) (x:=x) t (by simpa using e);exact{y,by simpa using h1,h2}
def cQ(ats:Aaa):Aah:=(ats.map (·.2)).flatten
def OU(l:Aaa)(a:Str×Aah):cQ (l++[a])=cQ l++a.2:=by unfold cQ;rw[aJ,List.flatten_append];simp
def y0{ats:Aaa}(h:ats[i]?=some a):cQ (ats.take (i+1))=cQ (ats.take i)++a.2:=by rw[bg,h];exact OU _ _
def rN{zs:Aah}(h0:0<=i)(h1:i<(zs.length:Int)):∃z,z∈zs/\wH (zs.map V.str) i=some (.str z):=by
 obtain⟨z,hz⟩:∃z,zs[i.toNat]?=some z:={_,au ∅};refine{z,aH hz,?_};have e:i=((i.toNat:Nat):Int):=by lia
 rw[e];exact kD (by rw[aK,hz];rfl)
theorem uQ:∀l:Aaa,(∀a∈l,a.2.length<=4)->(cQ l).length<=4*l.length
 |[],_=>ar _
 |a::r,q=>by have h1:=uQ r λts qK=>q ts (aB _ qK);have h2:=q a aA;show(a.2++cQ r).length<=_;rw[aO,bx];lia
def qj{ats:Aaa}{z:Str}:z∈cQ ats↔∃a∈ats,z∈a.2:=by
 unfold cQ;rw[List.mem_flatten];constructor
 ·rintro⟨l,h1,h2⟩;obtain⟨a,ha,rfl⟩:=aR.mp h1;exact⟨a,ha,h2⟩
 ·rintro⟨a,ha,h⟩;exact{a.2,cy ha,h}
def pJ(z:Str):Str:=("?":Str)++z
def rG:Aah:=cJ.map pJ
end
inductive L8(K:Frag)(vs:Aao)(H:Hp)(Q:VK)(_x3:XK):Prop
 |mk (f nl ul vl:Addr) (gC us ws:Aah) (_:vs=[.ref f,.ref nl,.ref ul,.ref vl]) (_:dY K f H) (_:(nl≠f/\ul≠f/\vl≠f)) (_:(H nl=some (.lst (gC.map V.str))/\1<=gC.length/\gC.length<=100)) (_:(H ul=some (.lst (us.map V.str))/\1<=us.length/\us.length<=100)) (_:(H vl=some (.lst (ws.map V.str))/\1<=ws.length/\ws.length<=100)) (_:∀(r:Addr)(a:Str×Aah)(H':Hp),dY K f H'->Ext f H H'->mF H' (.ref r) a->a.1∈gC->1<=a.2.length->a.2.length<=4->(∀z∈a.2,z∈us\/z∈ws)->Q (.ref r) H')
section
variable{P:Program}{w:World}{K:Frag}{mg:Aad}{base:Heap}
def V2{i:Int}(h0:0<=i):∃n:Int,wH [V.int 2,V.int 1,V.int 3] (i % 3)=some (.int n)/\1<=n/\n<=4:=by
 have h1:=mY i (show(3:Int)≠0 by decide);have h2:=kP i (show(0:Int)<3 by decide);generalize i % 3=j at h1 h2;have c:j=0\/j=1\/j=2:=by lia
 rcases c with rfl|rfl|rfl
 ·exact{2,rfl,by decide,by decide}
 ·exact{1,rfl,by decide,by decide}
 ·exact{3,rfl,by decide,by decide}
def lL:cD ["_law_feed_here","_law_names","_law_unknowns_here","_law_values","_law_at","_law_long","_law_terms","_law_k","_law_term"] ["_law_feed_here","_law_names","_law_unknowns_here","_law_values"] (defScope Dy):=jD (-3)
def TN{f:Addr}{fd:FuncData}(F:fq K "_law_atom" "_law_atom" Dy f fd)(T:Txt K mg)(D:Dr P w K mg base):dk P w K mg base fU 2 f fd ["_law_feed_here","_law_names","_law_unknowns_here","_law_values"] (L8 K):=by
 refine F.ok lL (λ_ _ _ _ h=>by cases h;subst_vars;rfl) (-4);obtain⟨fe,nl,ul,vl,gC,us,ws,rfl,hF,⟨qE,nul,sP⟩,⟨vB,A9,uf⟩,⟨MP,Kb,zQ⟩,⟨pj,hv1,EX⟩,k⟩:=h;have ln:(gC.map V.str).length=gC.length:=ak _;have lu:(us.map V.str).length=us.length:=ak _;have lv:(ws.map V.str).length=ws.length:=ak _;refine cut 3 (λZ H2=>∃(at' lg:Int)(x6 x7 x8:Aap),Z=[some (.ref fe),some (.ref nl),some (.ref ul),some (.ref vl),some (.int at'),some (.int lg),none,none,none]/\0<=at'/\at'<(gC.length:Int)/\1<=lg/\lg<=4/\dY K fe H2/\Ext fe H H2)
  {_,(aN (fJ 6 lL (eZ gM)) (aN (fQ bS rfl (jP rfl T.mI (cz (pv 5))) (ir 7 lL) (aN (fJ 8 lL (dq hE (pv 2) (cl D.fA hr (dR (pv 0) (cW iS rfl T.kU dj (cz (pv 2))))) (-15))) (aN (gJ (dh uE (-22) bh (eW _)) (a9 (fJ 8 lL (dq hE (pv 3) (cl D.fA hr (dR (pv 0) (cW iS rfl T.kU dj (cz (pv 3))))) (-15)))) eG) (a9 (lB (ox de gc f9 qe (pv 6) (cz (pv 8)))))))) (a9 (cN (iZ (dR (dq hE (pv 1) (pv 4) (-15)) (dF fD rfl T.kC (-3) (cz (pv 6))))))))),?_} (λt2 ht=>{_,(aN (fJ 4 lL (cl D.fA hr (dR (pv 0) (cW iS rfl T.kU dj (cz (pv 1)))))) (aN (fJ 5 lL (dq hE (eZ (sO bh bh bh)) (dM ph (pv 4) bh) (-15))) (aN (gJ (dh uE (-22) bh (eW _)) (a9 (fJ 5 lL (dM jE bh (-22)))) eG) ht))),λtl=>?_})
 ·rintro Z H2 ⟨at',lg,_,_,_,rfl,a0,a1,l0,l1,jW,jX⟩;refine{(-18),λt ht=>?_};have nt:=jW.qd ht;have Rb:H t=none:=jX.none nt ht;refine{_,rfl,lg,rfl,by lia,by lia,yZ (lo:=0) (n:=lg.toNat)
   (λj Z H3=>∃(y7 y8:Aap)(ts:Aah),Z=[some (.ref fe),some (.ref nl),some (.ref ul),some (.ref vl),some (.int at'),some (.int lg),some (.ref t),y7,y8]/\dY K fe H3/\Ext fe H H3/\H3 t=some (.lst (ts.map V.str))/\ts.length=j/\∀z∈ts,z∈us\/z∈ws)
   {none,none,[],rfl,jW.new ht _,jX.new ht _,aw,rfl,λz h=>by cases h} ?_ ?_}
  ·rintro j Z H3 D1 hj ⟨y7,y8,ts,rfl,jQ,iw,G5,bJ,qK⟩ nr _;refine{_,rfl,_,rfl,_,rfl,_,_,rfl,.inl {_,bo.of (iw _ _ nul MP),rfl},fe,_,rfl,jQ,by lia,by lia,λi4 H4 i0 i1 nF mC=>?_};have abv:=iw.trans mC;obtain⟨z,hz,ev⟩:=rN (zs:=us) i0 ∅;refine{_,_,_,_,rfl,rfl,bo.of (abv _ _ nul MP),ev,?_};have G4:=mC _ _ nt G5;refine{_,rfl,fe,6,rfl,nF,by decide,by decide,λi5 H5 j0 j1 vF sY=>{rfl,_,rfl,?_}};have F3:=abv.trans sY;have C3:=sY _ _ nt G4;refine fm (-61) (-61)
   ·refine{_,rfl,_,rfl,_,rfl,_,_,rfl,.inl {_,bo.of (F3 _ _ sP pj),rfl},fe,_,rfl,vF,by lia,by lia,λi6 H6 k0 k1 uh mB=>?_};obtain⟨y,hy,ev6⟩:=rN (zs:=ws) k0 ∅;have ht6:=mB _ _ nt C3;refine{_,_,_,_,rfl,rfl,bo.of ((F3.trans mB) _ _ sP pj),ev6,?_};refine{_,rfl,.inl {rfl,_,bo.of ht6},_,rfl,_,_,_,rfl,rfl,ht6,by rw[ak];exact bC ∅,?_};refine nr _ _ {_,_,ts++[y],rfl,uh.lst ht6 nt _,(F3.trans mB).own Rb _,by rw[aw,aJ];rfl,by rw[aO,bJ];rfl,λz' h=>?_};rcases bf.mp h with q|q
    ·exact qK z' q
    ·rw[ay.mp q];exact .inr hy
   ·refine{_,rfl,.inl {rfl,_,bo.of C3},_,rfl,_,_,_,rfl,rfl,C3,by rw[ak];exact bC ∅,?_};refine nr _ _ {_,_,ts++[z],rfl,vF.lst C3 nt _,F3.own Rb _,by rw[aw,aJ];rfl,by rw[aO,bJ];rfl,λz' h=>?_};rcases bf.mp h with q|q
    ·exact qK z' q
    ·rw[ay.mp q];exact .inl hz
  ·rintro Z H3 ⟨y7,y8,ts,rfl,jQ,iw,G5,bJ,qK⟩;obtain⟨z,hz,ev⟩:=rN (zs:=gC) a0 ∅;refine{_,rfl,_,rfl,_,_,_,_,rfl,rfl,bo.of (iw _ _ qE vB),ev,?_};refine{_,rfl,t,_,rfl,.inl {bo.of G5,λtt wy=>?_}};refine{(-35),λap M7=>?_};have WN:=(jQ.new wy (.tup (ts.map V.str))).new M7 (.tup [.str z,.ref tt]);have nta:tt≠ap:=λe=>by rw[<-e,aw]at M7;cases M7
   exact k ap (z,ts) _ WN ((iw.new wy _).new M7 _) {ap,tt,rfl,aw,by rw[aE nta,aw]} hz (by show 1<=ts.length;lia) (by show ts.length<=4;lia) qK
 ·--at,long
  refine{_,rfl,_,rfl,_,_,rfl,.inl {_,bo.of vB,rfl},fe,_,rfl,hF,by lia,by lia,λi1 H1 a0 a1 oM rC=>?_};refine{(by show 3<=sizeLine;decide),λp hp=>?_};obtain⟨lg,ev,l0,l1⟩:=V2 a0;refine{_,rfl,_,_,rfl,rfl,(by show(0:Int)<3;decide),_,_,_,_,rfl,rfl,bo.of aw,ev,?_};have jW:=oM.new hp (-68);have jX:=rC.new hp (-68);refine{_,rfl,fe,8,rfl,jW,by decide,by decide,λi3 H3 c0 c1 jQ iw=>{rfl,_,rfl,?_}};refine fm (-61) (-61)
  ·refine{_,rfl,fe,4,rfl,jQ,by decide,by decide,λi4 H4 d0 d1 nF mC=>{_,_,rfl,rfl,?_}};exact tl _ _ {i1,_,none,none,none,rfl,a0,by lia,by lia,by lia,nF,(jX.trans iw).trans mC}
  ·exact tl _ _ {i1,lg,none,none,none,rfl,a0,by lia,l0,l1,jQ,jX.trans iw}
inductive L6(K:Frag)(vs:Aao)(H:Hp)(Q:VK)(_x3:XK):Prop
 |mk (f al:Addr) (jr:Aao) (ats:Aaa) (_:vs=[.ref f,.ref al]) (_:dY K f H) (_:al≠f) (_:H al=some (.lst jr)) (_:fg H jr ats) (_:1<=ats.length) (_:ats.length<=100) (_:(∀a∈ats,1<=a.2.length/\a.2.length<=4)) (_:∀(r:Addr)(hz:Aah)(H':Hp),dY K f H'->Ext f H H'->H' r=some (.tup (hz.map V.str))->hz.length<=4->(∀z∈hz,z∈cQ ats)->Q (.ref r) H')
def wj:cD ["_law_feed_here","_law_atoms","_law_terms","_law_name","_law_some"] ["_law_feed_here","_law_atoms"] (defScope Dm):=jD (-3)
theorem UG:∀{ats:Aaa},1<=ats.length->(∀a∈ats,1<=a.2.length/\a.2.length<=4)->1<=(cQ ats).length
 |[],h,_=>absurd h (-8)
 |a::r,_,g=>by have:=(g a aA).1;show 1<=(a.2++cQ r).length;rw[aO];lia
def TJ{f:Addr}{fd:FuncData}(F:fq K "_law_head" "_law_head" Dm f fd)(T:Txt K mg)(D:Dr P w K mg base):dk P w K mg base fU 2 f fd ["_law_feed_here","_law_atoms"] (L6 K):=by
 refine F.ok wj (λ_ _ _ _ h=>by cases h;subst_vars;rfl) (-4);obtain⟨fe,al,jr,ats,rfl,hF,nal,hal,nB,pk,jF,hg,k⟩:=h;refine{_,(aN (jU (i:=2) wj.nd rfl (Or.inr rfl) (eZ gM)) (aN (fQ bS rfl (fX (pv 1)) (iY rfl (cA (ir 3 wj) (cA (ir 4 wj) g7))) (a9 (lB (ox de nR nP Og (pv 2) (cz (pv 4)))))) (a9 (cN (dF fD rfl T.kC (-3) (cz (g8 rfl (cU (fs:=["_law_terms","_law_feed_here"]) (fr:=[2,0])) (jP rfl T.mI (cz (-22))) (λ_ _ _ _=>(dq (vy (K:=K)) (pv 1) (cl D.fA hr (dR (pv 2) (cW (Br (K:=K)) rfl T.kU dj (cz (pv 1))))) (-15)))))))))),?_}
 have la:jr.length=ats.length:=bw nB;refine{(-18),λt ht=>?_};have nt:=hF.qd ht;have nta:al≠t:=ba hal ht;have fl:∀n,(cQ (ats.take n)).length<=4*ats.length:=λn=>by
  have h1:=uQ (ats.take n) λa ha=>(hg a (gx ha)).2;have h2:(ats.take n).length<=ats.length:=by rw[aT];lia
  lia
 refine{_,rfl,al,rfl,{jr,bo.of (by rw[aE nta];exact hal)},nG (K:=K) (a:=al) (xs:=jr)
  (λi Z H2=>∃(x3 x4:Aap),Z=[some (.ref fe),some (.ref al),some (.ref t),x3,x4]/\dY K fe H2/\Ext fe H H2/\H2 t=some (.lst ((cQ (ats.take i)).map V.str))) {none,none,rfl,hF.new ht _,(Ext.refl fe H).new ht _,aw} (λi Z H2 _ hq=>by(obtain⟨_,_,_,_,ex,_⟩:=hq;exact bo.of (ex _ _ nal hal))) ?_ ?_}
 ·rintro i x Z H2 D1 hx ⟨x3,x4,rfl,jW,jX,zR⟩ nr _;obtain⟨a,vA,p,tt,rfl,hp,wy⟩:=Paired.at nB hx;have g:=hg a (aH vA);have hi:i<ats.length:=(ax.mp vA).1;have tu:=hF.m8 jX;have lf:=fl i;refine{p,_,rfl,bF.of (tu _ _ hp),rfl,_,_,rfl,_,_,rfl,rfl,?_};refine{_,rfl,.inl {rfl,_,bo.of zR},_,rfl,_,_,_,_,rfl,rfl,zR,bF.of (tu _ _ wy),?_,?_}
  ·rw[ak,ak];exact bu (bC ∅)
  ·refine nr _ _ {_,_,rfl,jW.lst zR nt _,jX.own ht _,?_};rw[aw,y0 vA,aJ]
 ·rintro Z H2 ⟨x3,x4,rfl,jW,jX,zR⟩;rw[la,aV]at zR;have lf:=fl ats.length;rw[aV]at lf;have lp:=UG pk hg;refine{_,rfl,fe,5,rfl,jW,by decide,by decide,λn H3 n0 n1 jQ iw=>?_};have G5:=iw _ _ nt zR;refine{n,rfl,by lia,by lia,λj m ys H4=>j<=n.toNat/\m=n.toNat -j/\dY K fe H4/\Ext fe H3 H4/\∃hz:Aah,ys=hz.map V.str/\hz.length=j/\∀z∈hz,z∈cQ ats,{_,aP _,rfl,jQ,Ext.refl _ _,[],rfl,rfl,λz h=>by cases h},?_};rintro j m ys H4 ⟨hj,rfl,nF,mC,hz,rfl,hlz,CZ⟩;have ly:(hz.map V.str).length=j:=by rw[ak,hlz]
  have G4:=mC _ _ nt G5;have lt4:((cQ ats).map V.str).length=(cQ ats).length:=ak _;by_cases bJ:j<n.toNat
  ·refine .inr {bJ,by rw[ly];exact bC ∅,?_};rintro v H5 ⟨rfl,rfl⟩;refine gu ?_;refine{_,rfl,_,rfl,_,rfl,_,_,rfl,.inl {_,bo.of G4,rfl},fe,_,rfl,nF,by lia,by lia,λi6 H6 k0 k1 uh mB=>?_};obtain⟨z,hzm,ev⟩:=rN (zs:=cQ ats) k0 ∅;refine{_,_,_,_,rfl,rfl,bo.of (mB _ _ nt G4),ev,?_};refine{n.toNat -(j+1),by lia,bJ,rfl,uh,mC.trans mB,hz++[z],by rw[aJ];rfl,by rw[aO,hlz];rfl,λz' h=>?_};rcases bf.mp h with q|q
   ·exact CZ z' q
   ·rw[ay.mp q];exact hzm
  ·refine .inl {by show n.toNat<=j;lia,by rw[ly];exact bu (bC ∅),λl hl=>?_};refine{l,_,rfl,.inl {bo.of aw,λtp C1=>?_}};exact k tp hz _ ((nF.new hl _).new C1 _) ((((jX.trans iw).trans mC).new hl _).new C1 _) aw ∅ CZ
def GoodW(gC:Aah)(ats:Aaa):Prop:=∀a∈ats,a.1∈gC/\1<=a.2.length/\a.2.length<=4/\∀z∈a.2,z∈rG\/z∈cJ
inductive CD(K:Frag)(vs:Aao)(H:Hp)(Q:VK)(_x3:XK):Prop
 |mk (f nl:Addr) (most:Int) (gC:Aah) (_:vs=[.ref f,.ref nl,.int most]) (_:dY K f H) (_:nl≠f) (_:(H nl=some (.lst (gC.map V.str))/\1<=gC.length/\gC.length<=100)) (_:1<=most) (_:most<=20) (_:∀(r:Addr)(hz:Aah)(ats:Aaa)(H':Hp),dY K f H'->Ext f H H'->FC H' (.ref r) hz ats->1<=ats.length->(ats.length:Int)<=2*most->GoodW gC ats->hz.length<=4->(∀z∈hz,z∈cQ ats)->Q (.ref r) H')
structure Dr2(P:Program)(w:World)(K:Frag)(mg:Aad)(base:Heap):Prop extends Dr P w K mg base where
 uR:dP P w K mg base 2 "_law_words" ["_law_feed_here","_law_many"] (BW K)
 aaG:dP P w K mg base 2 "_law_atom" ["_law_feed_here","_law_names","_law_unknowns_here","_law_values"] (L8 K)
 aaF:dP P w K mg base 2 "_law_head" ["_law_feed_here","_law_atoms"] (L6 K)
def kB:cD ["_law_feed_here","_law_names","_law_most","_law_unknowns_here","_law_values","_law_many","_law_atoms"] ["_law_feed_here","_law_names","_law_most"] (defScope ve):=jD (-3)
def Ss:(cJ.all λz=>decide (z.length<=8))=true:=by decide+kernel
def aci:("?":Str).length=1:=by decide+kernel
def Jz{f:Addr}{fd:FuncData}(F:fq K "_law_question" "_law_question" ve f fd)(T:Txt K mg)(D:Dr2 P w K mg base):dk P w K mg base fU 3 f fd ["_law_feed_here","_law_names","_law_most"] (CD K):=by
 refine F.ok kB (λ_ _ _ _ h=>by cases h;subst_vars;rfl) (-4);obtain⟨fe,nl,most,gC,rfl,hF,qE,⟨vB,A9,uf⟩,Wt,Rj,k⟩:=h;have big:10000<=sizeLine:=by rw[b8];decide
 refine cut 4 (λZ H2=>∃(ul vl:Addr)(us ws:Aah)(many:Int),Z=[some (.ref fe),some (.ref nl),some (.int most),some (.ref ul),some (.ref vl),some (.int many),none]/\(ul≠fe/\vl≠fe)/\(H2 ul=some (.lst (us.map V.str))/\1<=us.length/\us.length<=100)/\(H2 vl=some (.lst (ws.map V.str))/\1<=ws.length/\ws.length<=100)/\(∀z∈us,z∈rG)/\(∀z∈ws,z∈cJ)/\1<=many/\many<=2*most/\dY K fe H2/\Ext fe H H2)
  {_,(aN (N0 (j:=6) kB.nd rfl rfl rfl (cU (fs:=["_law_feed_here","_law_names","_law_unknowns_here","_law_values"]) (fr:=[0,1,3,4])) (jP rfl T.mI (cz (pv 5))) (λ_ _ _ _=>(cl D.aaG hr (iF (pv 1) (sO (pv 2) (pv 3) (pv 4)))))) (a9 (cN (iZ (dR (cl D.aaF hr (dR (pv 0) (pv 6))) (dF fD rfl T.kC (-3) (cz (pv 6)))))))),?_} (λt2 ht=>{_,(aN (jU (i:=3) kB.nd rfl (Or.inr rfl) (g8 rfl (cU (fs:=[]) (fr:=[])) (fX (cl D.uR hr (dR (pv 0) (dM jE bh (-22))))) (λ_ _ _ _=>(dM Oa f7 (pv 0))))) (aN (jU (i:=4) kB.nd rfl (Or.inr rfl) (cl D.uR hr (dR (pv 0) bh))) (aN (fJ 5 kB (dM jE bh (cl D.fA hr (dR (pv 0) (pv 2))))) (aN (gJ (dh uE (-22) bh (eW _)) (a9 (fJ 5 kB (dM jE (pv 2) (cl D.fA hr (dR (pv 0) (dM jE (pv 2) bh)))))) eG) ht)))),λtl=>?_})
 ·rintro Z H2 ⟨ul,vl,us,ws,many,rfl,⟨nul,sP⟩,⟨MP,Kb,zQ⟩,⟨pj,hv1,EX⟩,Wf,hww,m1,m2,jW,jX⟩;refine{_,rfl,many,rfl,by lia,by lia,λj m ys H4=>j<=many.toNat/\m=many.toNat -j/\dY K fe H4/\Ext fe H2 H4/\∃ats:Aaa,fg H4 ys ats/\ats.length=j/\GoodW gC ats,{_,aP _,rfl,jW,Ext.refl _ _,[],.nil,rfl,λa h=>by cases h},?_};rintro j m ys H4 ⟨hj,rfl,nF,mC,ats,nB,hla,hg⟩;have ly:ys.length=j:=by rw[<-hla];exact bw nB
  by_cases bJ:j<many.toNat
  ·refine .inr {bJ,by rw[ly];exact bC ∅,?_};rintro v H5 ⟨rfl,rfl⟩;refine gu ?_;refine{_,rfl,_,rfl,_,rfl,_,rfl,fe,nl,ul,vl,gC,us,ws,rfl,nF,⟨qE,nul,sP⟩,{mC _ _ qE (jX _ _ qE vB),A9,uf},{mC _ _ nul MP,Kb,zQ},{mC _ _ sP pj,hv1,EX},λr a H6 uh mB hA Hi pk wF qK=>?_};refine{many.toNat -(j+1),by lia,bJ,rfl,uh,mC.trans mB,ats++[a],Paired.Et (fg.keep (nF.m8 mB) nB) hA,by rw[aO,hla];rfl,λb hb=>?_};rcases bf.mp hb with q|q
   ·exact hg b q
   ·rw[ay.mp q];refine{Hi,pk,wF,λz hz=>?_};rcases qK z hz with q|q
    ·exact .inl (Wf z q)
    ·exact .inr (hww z q)
  ·refine .inl {by show many.toNat<=j;lia,by rw[ly];exact bu (bC ∅),λl hl=>?_};have AV:=nF.qd hl;have hFl:=nF.new hl (-38);have exl:=mC.new hl (-38);have OM:=fg.keep ((eE.refl H4).new hl (-38)) nB;have qL:upd H4 l (-38) l=some (-38):=aw;generalize upd H4 l (-38)=H5 at hFl exl OM qL⊢;refine{_,rfl,_,rfl,fe,l,ys,ats,rfl,hFl,AV,qL,OM,by lia,by lia,λa ha=>{(hg a ha).2.1,(hg a ha).2.2.1},λr hz H6 uh mB Ke Wd CZ=>?_};have Zr:=hFl.m8 mB;refine{_,rfl,l,_,rfl,.inl {bo.of (mB _ _ AV qL),λta vA=>?_}};refine{(-35),λq hq=>?_};have tu7:=(((eE.refl H6).new vA (.tup ys)).new hq (.tup [.ref r,.ref ta]));have nq:ta≠q:=λe=>by rw[<-e,aw]at hq;cases hq
   exact k q hz ats _ ((uh.new vA _).new hq _) ((((jX.trans exl).trans mB).new vA _).new hq _) {q,r,ta,ys,rfl,aw,tu7 _ _ Ke,by rw[aE nq,aw],fg.keep (Zr.trans tu7) OM} ∅ ∅ hg Wd CZ
 ·--unknowns
  refine{_,rfl,_,rfl,fe,5,rfl,hF,by decide,by decide,λi1 H1 a0 a1 oM rC=>{_,_,rfl,rfl,fe,_,rfl,oM,by lia,by lia,λwl ub H2 jW jX nwl ad6 G2 hlw ndw gq=>?_}};refine{wl,rfl,{_,bo.of G2},jg (K:=K) (a:=wl) (xs:=ub.map V.str) (λi ys H3=>H3=H2/\i<=ub.length/\ys=((ub.take i).map pJ).map V.str) (-27) {rfl,aP _,rfl} ?_ ?_ ?_}
  ·rintro i ys H3 hi ⟨rfl,_,rfl⟩;refine{bo.of G2,?_};rw[ak,ak,aT];lia
  ·rintro i x ys H3 N hc ⟨rfl,hi,rfl⟩ hN;have bJ:i<(ub.map V.str).length:=(ax.mp hc).1;rw[ak]at bJ;rw[aK,au bJ]at hc;obtain rfl:V.str ub[i]=x:=bK hc;have lw:=bj (bZ.mp Ss ub[i] (gq _ (gh bJ)));refine gu ?_;refine{_,rfl,_,_,rfl,rfl,by rw[aci];lia,hN _ _ {rfl,bJ,?_}};rw[bg,au bJ,aJ,aJ];rfl
  ·rintro ys H3 ⟨rfl,_,rfl⟩ l hl;rw[ak,aV];have AV:=jW.qd hl;have jQ:=jW.new hl (.lst ((ub.map pJ).map V.str));have qL:upd H3 l (.lst ((ub.map pJ).map V.str)) l=some (.lst ((ub.map pJ).map V.str)):=aw;have iw:=(rC.trans jX).new hl (.lst ((ub.map pJ).map V.str));generalize upd H3 l (.lst ((ub.map pJ).map V.str))=H4 at jQ qL iw⊢;refine{_,rfl,fe,2,rfl,jQ,by decide,by decide,λvl zG H5 vF sY sP aeM pj Rl ndv hinv=>?_};refine{_,rfl,_,rfl,fe,most,rfl,vF,by lia,by lia,λi6 H6 b0 b1 uh mB=>{_,_,rfl,rfl,?_}};have Wf:∀z∈ub.map pJ,z∈rG:=λz hz=>by obtain⟨y,hy,rfl⟩:=aR.mp hz;exact cy (gq y hy)
   have lus:(ub.map pJ).length=ub.length:=ak _;refine{_,rfl,fe,8,rfl,uh,by decide,by decide,λi7 H7 c0 c1 Bf Ff=>{rfl,_,rfl,?_}};have OW:=mB.trans Ff;refine fm (-61) (-61)
   ·refine{_,rfl,_,rfl,_,rfl,_,_,rfl,rfl,fe,_,rfl,Bf,by lia,by lia,λi8 H8 d0 d1 Fb Bj=>{_,_,rfl,rfl,?_}};have UI:=OW.trans Bj;exact tl _ _ {l,vl,ub.map pJ,zG,_,rfl,⟨AV,sP⟩,{UI _ _ AV (sY _ _ AV qL),by lia,by lia},{UI _ _ sP pj,by lia,by lia},Wf,hinv,by lia,by lia,Fb,(iw.trans sY).trans UI}
   ·exact tl _ _ {l,vl,ub.map pJ,zG,_,rfl,⟨AV,sP⟩,{OW _ _ AV (sY _ _ AV qL),by lia,by lia},{OW _ _ sP pj,by lia,by lia},Wf,hinv,by lia,by lia,Bf,(iw.trans sY).trans OW}
def Jx(c d:Nat):decide ((⟨#[c]⟩:Str)=⟨#[d]⟩)=(c==d):=by
 by_cases h:c=d
 ·subst h;simp
 ·have:¬((⟨#[c]⟩:Str)=⟨#[d]⟩):=λe=>h (by injection e with e;simpa using e);rw[bQ this];exact(dB.mpr h).symm
def NU:("?":Str)=⟨#[63]⟩:=by decide+kernel
def Di{z:Str}{c:Nat}(h:z.cps.toList[0]?=some c):Txt.startswith z "?"=decide ((⟨#[c]⟩:Str)="?"):=by rw[NU,Jx];rw[fV,qS];unfold Txt.startswith;rw[bB,jf,Cn,h];exact{λe=>bK e,λe=>by rw[e]}
def Lb{z:Str}(h:z.cps.toList[0]?=none):Txt.startswith z "?"=false:=by rw[NU];refine fL.mpr λe=>?_;unfold Txt.startswith at e;rw[bB,jf,Cn,h]at e;cases e
def UH{z:Str}(h:z≠""):∃c,z.cps.toList[0]?=some c:=by
 cases e:z.cps.toList with
 |cons c r=>exact⟨c,rfl⟩
 |nil=>
  exact absurd (PyProof.Rows.ext_toList (a:=z) (b:="") (e.trans rfl)) h
def xb{α:Type}{g:α->Bool}{l:List α}{i:Nat}{x:α}(h:l[i]?=some x):(l.take (i+1)).filter g=(l.take i).filter g++(if g x=true then[x]else[]):=by rw[bg,h,fb];show _++[x].filter g=_;rw[gj,List.filter_nil]
def isEmpty_map{α β:Type}(g:α->β)(l:List α):(l.map g).isEmpty=l.isEmpty:=by cases l<;>rfl
def AU(h:q none H):LW Z H q:=h
def PY:sgn 63=false:=by decide+kernel
def Xp{z:Str}(h:isVal z=true):isUnk z=false:=by
 unfold isVal at h;rw[bB,bB]at h;have h1:=bj h.1;unfold isUnk;cases e:z.cps.toList with
 |nil=>
  have:z.length=0:=by show z.cps.size=0;rw[<-aS,e];rfl
  lia
 |cons c r=>
  have e0:z.cps.toList[0]?=some c:=by rw[e];rfl
  have hc:sgn c=true:=bZ.mp h.2.2 _ (cy (by rw[e];exact aA));have nc:c≠63:=λz=>by rw[z,PY]at hc;cases hc
  rw[Di e0,NU,Jx,dB.mpr nc,lK]
def B5(z:Str)(l:Aah):G1 (.str z) (l.map V.str)=decide (z∈l):=by
 unfold G1;rw[List.any_map,fV,j8];constructor
 ·rintro⟨y,hy,e⟩;have e':(y==z)=true:=e;rw[iH e']at hy;exact bp hy
 ·intro h;exact{z,bj h,by show(z==z)=true;simp}
def RM(l:Aah):(l.map V.str).all qO=true:=by rw[BK];exact bZ.mpr λ_ _=>rfl
def qg(z:Str):Bool:=isVal z||isUnk z
def tS(acc:Aah)(t:Str):Aah:=if t∈acc then acc else acc++[t]
def xc(g:Aah):Aah:=g.foldl tS []
def KA(g:Aah)(t:Str):xc (g++[t])=tS (xc g) t:=by unfold xc;rw[o6];rfl
theorem JQ:∀(g acc:Aah)(z:Str),z∈g.foldl tS acc↔z∈acc\/z∈g
 |[],acc,z=>by simp
 |t::r,acc,z=>by
  rw[fT,JQ r (tS acc t) z];unfold tS;by_cases d:t∈acc
  ·rw[aC d];constructor
   ·rintro(h|h)
    ·exact .inl h
    ·exact .inr (aB _ h)
   ·rintro(h|h)
    ·exact .inl h
    ·rcases aG.mp h with rfl|h
     ·exact .inl d
     ·exact .inr h
  ·rw[az d];constructor
   ·rintro(h|h)
    ·rcases bf.mp h with h|h
     ·exact .inl h
     ·rw[ay.mp h];exact .inr aA
    ·exact .inr (aB _ h)
   ·rintro(h|h)
    ·exact .inl (gz _ h)
    ·rcases aG.mp h with rfl|h
     ·exact .inl (cc _ (ay.mpr rfl))
     ·exact .inr h
def FX(g:Aah)(z:Str):z∈xc g↔z∈g:=by unfold xc;rw[JQ];simp
theorem Nf:∀(g acc:Aah),(g.foldl tS acc).length<=acc.length+g.length
 |[],acc=>by simp
 |t::r,acc=>by
  have h1:=Nf r (tS acc t);have h2:(tS acc t).length<=acc.length+1:=by
   unfold tS;split
   ·lia
   ·rw[aO];exact ar _
  rw[fT,bx];lia
def Yr(g:Aah):(xc g).length<=g.length:=by have:=Nf g [];simpa[xc]using this
theorem Gw:∀(fl acc:Aah),fl.foldl step acc=(fl.filter isUnk).foldl tS acc
 |[],acc=>rfl
 |t::r,acc=>by
  rw[fT,gj,Gw r];unfold step;by_cases c:isUnk t=true
  ·rw[aC c,aC c,fT];rfl
  ·rw[az c,az c]
def LP(fl:Aah):fM fl=xc (fl.filter isUnk):=Gw fl []
def Zx{z:Str}(h:qg z=true):Txt.startswith z "?"=isUnk z:=by
 have h':(isVal z||isUnk z)=true:=h;cases e:isVal z with
 |true=>
  rw[Xp e];cases e1:z.cps.toList with
  |nil=>exact Lb (by rw[e1];rfl)
  |cons c r=>
   have e0:z.cps.toList[0]?=some c:=by rw[e1];rfl
   unfold isVal at e;rw[bB,bB]at e;have hc:sgn c=true:=bZ.mp e.2.2 _ (cy (by rw[e1];exact aA));have nc:c≠63:=λz=>by rw[z,PY]at hc;cases hc
   rw[Di e0,NU,Jx,dB.mpr nc]
 |false=>
  rw[e,Bool.false_or]at h';rw[h'];unfold isUnk at h';rw[bB]at h';exact h'.1
def Il{z:Str}(h:qg z=true):∃c,z.cps.toList[0]?=some c:=by
 refine UH λe=>?_;rw[e]at h;have:qg ""=false:=by decide+kernel
 rw[this]at h;cases h
def Im{z:Str}(h:qg z=true){c:Nat}(hc:z.cps.toList[0]?=some c):decide (V.str ⟨#[c]⟩=V.str "?")=isUnk z:=by rw[<-Zx h,Di hc,fV];simp
def KH(xs:Aao)(j:Nat):kr xs none (some (j:Int))=xs.take j:=by
 unfold kr;rw[HT.IK,HT.Mb,List.drop_zero,BF];by_cases h:j<=xs.length
 ·rw[gL h]
 ·rw[Nat.min_eq_right ∅,aV,dU ∅]
def KI(xs:Aao)(j:Nat):kr xs (some (j:Int)) none=xs.drop j:=by
 unfold kr;rw[HT.IK,HT.Mb];by_cases h:j<=xs.length
 ·rw[gL h,dU (by rw[gY];exact ar _)]
 ·rw[Nat.min_eq_right ∅,vP,yt,xp ∅]
def pz(z:Str):Prop:=qg z=true/\z.length<=100/\PyData.strOk z=true
def yr(z:Str):Prop:=isVal z=true/\z.length<=100/\PyData.strOk z=true
def Sn:(cJ.all λz=>isVal z&&decide (z.length<=100)&&PyData.strOk z)=true:=by decide+kernel
def LO:(rG.all λz=>qg z&&isUnk z&&decide (z.length<=100)&&PyData.strOk z)=true:=by decide+kernel
def Ek{z:Str}(h:z∈cJ):yr z:=by have:=bZ.mp Sn z h;rw[bB,bB]at this;exact{this.1.1,bj this.1.2,this.2}
def aaA{z:Str}(h:yr z):pz z:={by unfold qg;rw[h.1];rfl,h.2}
def Zl{z:Str}(h:z∈cJ):pz z:=aaA (Ek h)
def NA{z:Str}(h:z∈rG):pz z:=by have:=bZ.mp LO z h;rw[bB,bB,bB]at this;exact{this.1.1.1,bj this.1.2,this.2}
def abU{z:Str}(h:z∈rG):isUnk z=true:=by have:=bZ.mp LO z h;rw[bB,bB,bB]at this;exact this.1.1.2
def zw(ats:Aaa):Prop:=∀a∈ats,yr a.1/\1<=a.2.length/\a.2.length<=4/\∀z∈a.2,pz z
structure QW(H:Hp)(v:V)(hz:Aah)(ats:Aaa):Prop where
 at':FC H v hz ats
 l1:1<=ats.length
 l8:ats.length<=200
 good:zw ats
 h4:hz.length<=4
 hh:∀z∈hz,pz z
def QW.keep{H H':Hp}{v:V}{hz:Aah}{ats:Aaa}(t:eE H H')(x:QW H v hz ats):QW H' v hz ats:={x.at'.keep t,x.l1,x.l8,x.good,x.h4,x.hh}
def zw.flat{ats:Aaa}(g:zw ats){z:Str}(h:z∈cQ ats):pz z:=by obtain⟨a,ha,hz⟩:=qj.mp h;exact(g a ha).2.2.2 z hz
def zw.len{ats:Aaa}(g:zw ats)(n:Nat):(cQ (ats.take n)).length<=4*ats.length:=by
 have h1:=uQ (ats.take n) λa ha=>(g a (gx ha)).2.2.1;have h2:(ats.take n).length<=ats.length:=by rw[aT];lia
 lia
def js{zs:Aah}{i:Nat}(h:(zs.map V.str)[i]?=some y):∃z,zs[i]?=some z/\y=V.str z:=by
 rw[aK]at h;cases e:zs[i]? with
 |none=>rw[e]at h;cases h
 |some z=>rw[e]at h;exact{z,rfl,(bK h).symm}
inductive L4(vs:Aao)(H:Hp)(Q:VK)(_x3:XK):Prop
 |mk (v:V) (hz:Aah) (ats:Aaa) (_:vs=[v]) (_:QW H v hz ats) (_:∀(r:Addr)(H':Hp),bq H H'->H r=none->H' r=some (.lst ((fM (cQ ats)).map V.str))->Q (.ref r) H')
def pK:cD ["_law_question_here","_law_found","_law_name","_law_terms"] ["_law_question_here"] (defScope vd):=jD (-3)
def Jy{f:Addr}{fd:FuncData}(F:fq K "_law_unknowns" "_law_unknowns" vd f fd)(T:Txt K mg):dk P w K mg base fU 1 f fd ["_law_question_here"] L4:=by
 refine F.ok pK (λ_ _ _ _ h=>by cases h;subst_vars;rfl) (-4);obtain⟨v,hz0,ats,rfl,⟨⟨q,qh,aa,jr,rfl,hq,Wy,sX,nB⟩,l1,l8,good,h4,hh⟩,k⟩:=h;have la:jr.length=ats.length:=bw nB;refine{_,(aN (jU (i:=1) pK.nd rfl (Or.inr rfl) (eZ gM)) (aN (fQ bS rfl (sM (dq lC (pv 0) bh (-15))) (iY rfl (cA (ir 2 pK) (cA (ir 3 pK) g7))) (a9 (lB (ox de nR nP GV (pv 1) (cz (qb rfl (cU (fs:=[]) (fr:=[])) (sM (pv 3)) (λ_ _ _ _=>(dh uE (dq QZ (pv 0) bh (-15)) f7 (eW _))) (λ_ _ _ _=>(pv 0)))))))) (a9 (cN (qb rfl (cU (fs:=["_law_found"]) (fr:=[1])) (jP rfl T.mI (cz (cW iS rfl T.kU dj (cz (pv 1))))) (λ_ _ _ _=>(dh (tN (K:=K)) (dq (vy (K:=K)) (pv 1) (pv 0) (-15)) (rO (SY (K:=K)) (pv 1) uP (uO (pv 0))) (-58))) (λ_ _ _ _=>(dq (vy (K:=K)) (pv 1) (pv 0) (-15)))))))),?_}
 have lf:∀i,((cQ (ats.take i)).filter isUnk).length<=800:=λi=>by have h1:=cj isUnk (cQ (ats.take i));have h2:=good.len i;lia
 refine{(-18),λd gE=>?_};refine{_,rfl,_,_,_,_,rfl,rfl,bF.of (aM gE _ _ _ hq),rfl,aa,rfl,{jr,bF.of (aM gE _ _ _ sX)},B7 (K:=K) (a:=aa) (xs:=jr)
  (λi Z H2=>∃(x2 x3:Aap),Z=[some (.ref q),some (.ref d),x2,x3]/\bq H H2/\H2 d=some (.lst (((cQ (ats.take i)).filter isUnk).map V.str))) {none,none,rfl,aM gE _,aw} (λi Z H2 _ hq=>by(obtain⟨_,_,_,sm,_⟩:=hq;exact bF.of (sm _ _ sX))) ?_ ?_}
 ·rintro i x Z H2 hx ⟨x2,x3,rfl,sm,hd2⟩;obtain⟨ta,ht,p,t,rfl,hp,wy⟩:=Paired.at nB hx;have g:=good ta (aH ht);have l4':=g.2.2.1;have lfi:=lf i;refine{p,_,rfl,bF.of (sm _ _ hp),rfl,_,_,rfl,_,_,rfl,rfl,?_};refine{_,rfl,.inl {rfl,_,bo.of hd2},_,rfl,t,rfl,{_,bF.of (sm _ _ wy)},zd (K:=K) (a:=t) (xs:=ta.2.map V.str) (λj ys H3=>H3=H2/\j<=ta.2.length/\ys=((ta.2.take j).filter isUnk).map V.str) (-27) {rfl,aP _,rfl} ?_ ?_ ?_}
  ·rintro j ys H3 hj ⟨rfl,_,rfl⟩;refine{bF.of (sm _ _ wy),?_};rw[ak];refine aD (cj _ _) ?_;rw[aT];lia
  ·rintro j y ys H3 N hc ⟨rfl,hj,rfl⟩ hN;obtain⟨z,hz,rfl⟩:=js hc;have Rr:j<ta.2.length:=(ax.mp hz).1;have CZ:=(g.2.2.2 z (aH hz));have aeH:=CZ.2.1;obtain⟨c,Rz⟩:=Il CZ.1;have ei:wH z.cps.toList 0=some c:=kD (j:=0) Rz;refine{_,rfl,_,_,_,rfl,rfl,bu (bC ∅),ei,rfl,_,rfl,?_};rw[Im CZ.1 Rz];refine fm (λc1=>?_) (λc1=>?_)
   ·refine{_,rfl,hN _ _ {rfl,Rr,?_}};rw[xb hz,aC c1,aJ];rfl
   ·refine hN _ _ {rfl,Rr,?_};rw[xb hz,az c1,b6]
  ·rintro ys H3 ⟨rfl,_,rfl⟩ l hl;rw[ak,aV];have nl:d≠l:=ba hd2 hl;refine{_,_,_,_,rfl,rfl,by rw[aE nl];exact hd2,aw,?_,?_}
   ·rw[ak,ak];have:=aD (cj isUnk ta.2) l4';exact bu (bC ∅)
   ·refine{_,_,rfl,λb u e=>?_,?_}
    ·rw[aE (ba e gE)];exact aM hl _ _ _ (sm _ _ e)
    ·rw[aw,y0 ht,fb,aJ]
 ·rintro Z H2 ⟨x2,x3,rfl,sm,hd2⟩;rw[la,aV]at hd2;have MD:=lf ats.length;rw[aV]at MD;rw[LP]at k;generalize (cQ ats).filter isUnk=g at hd2 MD k;have lg:(g.map V.str).length=g.length:=ak _;refine{_,rfl,_,_,rfl,.inl {_,bo.of hd2,rfl},_,rfl,by lia,by lia,λj m' ys H3=>j<=g.length/\m'=g.length -j/\bq H2 H3/\ys=(xc (g.take j)).map V.str,{_,aP _,rfl,bq.refl _,rfl},?_};rintro j m' ys H3 ⟨hj,rfl,ml,rfl⟩;have ly:((xc (g.take j)).map V.str).length<=800:=by rw[ak];refine aD (Yr _) ?_;rw[aT];lia
  by_cases bJ:j<g.length
  ·refine .inr {by show j<((g.map V.str).length:Int).toNat;lia,bC ∅,?_};rintro v H4 ⟨rfl,rfl⟩;have Kn:=ml _ _ hd2;obtain⟨z,hz⟩:∃z,g[j]?=some z:={_,au bJ};have ev:wH (g.map V.str) (0+(j:Int))=some (.str z):=by rw[vT];exact kD (by rw[aK,hz];rfl)
   refine{_,rfl,_,rfl,_,_,_,_,rfl,rfl,bo.of Kn,ev,?_};refine{_,rfl,AU {_,rfl,_,rfl,_,_,rfl,bo.of Kn,λp hp=>?_}};have ec:kr (g.map V.str) none (some (0+(j:Int)))=(g.take j).map V.str:=by rw[vT,KH,tX]
   rw[ec];refine{p,_,rfl,.inl (bo.of aw),rfl,RM _,_,rfl,?_};have L9:bq H2 (upd H4 p (.lst ((g.take j).map V.str))):=ml.trans (aM hp _);have et:g.take (j+1)=g.take j++[z]:=by rw[bg,hz];rfl
   show if(!G1 (.str z) ((g.take j).map V.str))=true then _ else _;rw[B5];refine fm (λc1=>?_) (λc1=>?_)
   ·have c1:z∉g.take j:=by simpa using c1
    refine{_,rfl,_,rfl,_,_,_,_,rfl,rfl,bo.of (L9 _ _ hd2),ev,?_};refine{_,by lia,bJ,rfl,L9,?_};rw[et,KA];unfold tS;rw[az (λh=>c1 ((FX _ _).mp h)),aJ];rfl
   ·have c1:z∈g.take j:=by simpa using c1
    refine{_,by lia,bJ,rfl,L9,?_};rw[et,KA];unfold tS;rw[aC ((FX _ _).mpr c1)]
  ·have ej:j=g.length:=by lia
   refine .inl {by show((g.map V.str).length:Int).toNat<=j;lia,bu (bC ∅),λl hl=>?_};refine k l _ ((sm.trans ml).trans (aM hl _)) ((sm.trans ml).free hl) ?_;rw[aw,ej,aV]
def Yj{l:Aah}{z:Str}:(l++[z]).Nodup↔l.Nodup/\z∉l:=by
 rw[eB];constructor
 ·rintro⟨h1,_,h3⟩;exact{h1,λh=>h3 z h z (ay.mpr rfl) rfl}
 ·rintro⟨h1,h2⟩;refine{h1,by simp,λa ha b hb e=>?_};rw[ay.mp hb]at e;exact h2 (e▸ha)
def Ext.of(s:bq H H'):Ext f H H':=λb o _ h=>s b o h
structure VQ(H:Hp)(v:V)(hs:Aah)(ats:Aaa):Prop where
 q:QW H v hs ats
 l8:ats.length<=4
 nd:hs.Nodup
 l1:1<=hs.length
 hu:∀z∈hs,z∈cQ ats/\isUnk z=true
def VQ.keep{H H':Hp}{v:V}{hs:Aah}{ats:Aaa}(t:eE H H')(x:VQ H v hs ats):VQ H' v hs ats:={x.q.keep t,x.l8,x.nd,x.l1,x.hu}
end
inductive L3(K:Frag)(vs:Aao)(H:Hp)(Q:VK)(_x3:XK):Prop
 |mk (f nl:Addr) (most:Int) (gC:Aah) (_:vs=[.ref f,.ref nl,.int most]) (_:dY K f H) (_:nl≠f) (_:(H nl=some (.lst (gC.map V.str))/\1<=gC.length/\gC.length<=100)) (_:(∀z∈gC,z∈cJ)) (_:1<=most) (_:most<=2) (_:∀(r:Addr)(hs:Aah)(ats:Aaa)(H':Hp),dY K f H'->Ext f H H'->VQ H' (.ref r) hs ats->Q (.ref r) H')
section
variable{P:Program}{w:World}{K:Frag}{mg:Aad}{base:Heap}
def Mh{a:Addr}{H:Hp}{xs:Aao}{lo hi:Option Int}{Q:VK}(ha:H a=some (.tup xs))
  (k:∀(p:Addr)(H':Hp),bq H H'->H' p=some (.tup (kr xs lo hi))->Q (.ref p) H'):Z5 K (-51) lo hi H Q:=by
 refine{a,xs,rfl,bF.of ha,λh=>?_,λh p hp=>?_}
 ·refine k a H (bq.refl H) ?_;unfold kr;rw[h.1,h.2,List.drop_zero,BF,aV];exact ha
 ·exact k p _ (aM hp _) aw
def Mi{a b:Addr}{H:Hp}{xs ys:Aao}{Q:VK}(ha:H a=some (.tup xs))(hb:H b=some (.tup ys))(hl:xs.length+ys.length<=1000)
  (k:∀(p:Addr)(H':Hp),bq H H'->H' p=some (.tup (xs++ys))->Q (.ref p) H'):NT K (-51) (.ref b) H Q:=by
 refine{a,b,xs,ys,rfl,rfl,bF.of ha,bF.of hb,bu (bC hl),λh=>?_,λ_ h=>?_,λ_ _ p hp=>?_}
 ·exact k b H (bq.refl H) (by rw[h,kK];exact hb)
 ·exact k a H (bq.refl H) (by rw[h,b6];exact ha)
 ·exact k p _ (aM hp _) aw
structure Dw(P:Program)(w:World)(K:Frag)(mg:Aad)(base:Heap):Prop where
 fA:dP P w K mg base 1 "_law_draw" ["_law_feed_here","_law_many"] (Ep K)
 Ou:dP P w K mg base 3 "_law_question" ["_law_feed_here","_law_names","_law_most"] (CD K)
 Ot:dP P w K mg base 1 "_law_unknowns" ["_law_question_here"] L4
def dQ:cD ["_law_feed_here","_law_names","_law_most","_law_made","_law_some","_law_name","_law_terms","_law_head_here","_law_k","_law_unknown"] ["_law_feed_here","_law_names","_law_most"] (defScope oU):=jD (-3)
def acT:pJ "a"="?a":=by decide+kernel
def TB{f:Addr}{fd:FuncData}(F:fq K "_law_view_question" "_law_view_question" oU f fd)(T:Txt K mg)(D:Dw P w K mg base):dk P w K mg base fU 4 f fd ["_law_feed_here","_law_names","_law_most"] (L3 K):=by
 refine F.ok dQ (λ_ _ _ _ h=>by cases h;subst_vars;rfl) (-4);obtain⟨fe,nl,most,gC,rfl,hF,qE,⟨vB,A9,uf⟩,hnw,Wt,Rj,k⟩:=h;refine cut 3 (λZ H2=>∃(qa h0 aa sl:Addr)(x5 x6:Aap)(jr:Aao)(ats:Aaa)(us:Aah),Z=[some (.ref fe),some (.ref nl),some (.int most),some (.ref qa),some (.ref sl),x5,x6,none,none,none]/\H2 qa=some (.tup [.ref h0,.ref aa])/\H2 aa=some (.tup jr)/\fg H2 jr ats/\(1<=ats.length/\ats.length<=4)/\zw ats/\sl≠fe/\H2 sl=some (.lst (us.map V.str))/\1<=us.length/\us.length<=100/\(∀z∈us,z∈cQ ats/\isUnk z=true/\z.length<=100)/\dY K fe H2/\Ext fe H H2)
  {_,(aN (fJ 7 dQ (eZ gM)) (aN (fQ bS rfl (jP rfl T.mI (cz (dM jE bh (-22)))) (ir 8 dQ) (aN (fJ 9 dQ (dq hE (pv 4) (cl D.fA hr (dR (pv 0) (cW iS rfl T.kU dj (cz (pv 4))))) (-15))) (a9 (gJ (dh AO (pv 9) (pv 7) (-58)) (a9 (lB (ox de gc f9 qe (pv 7) (cz (pv 9))))) eG)))) (a9 (cN (iZ (dR (dF fD rfl T.kC (-3) (cz (pv 7))) (dq lC (pv 3) bh (-15)))))))),?_} (λt2 ht=>{_,(aN (fJ 3 dQ (cl D.Ou hr (sO (pv 0) (pv 1) (pv 2)))) (aN (fJ 4 dQ (cl D.Ot hr (cz (pv 3)))) (aN (gJ (dh (aar hr.Ia) (pv 4) (eZ gM) (eW _)) (aN (xG (dq lC (dq lC (pv 3) bh (-15)) bh (-15)) (iY rfl (cA (ir 5 dQ) (cA (ir 6 dQ) g7)))) (aN (fJ 3 dQ (iZ (dR (dq lC (pv 3) bh (-15)) (dM FT (iZ (cz (iZ (dR (pv 5) (dM FT (iZ (cz f7)) (rO Ma (pv 6) (uO bh) uP)))))) (rO Ma (dq lC (pv 3) bh (-15)) (uO bh) uP))))) (a9 (fJ 4 dQ (eZ (cz f7)))))) eG) ht))),λtl=>?_})
 ·rintro Z H2 ⟨qa,h0,aa,sl,x5,x6,jr,ats,us,rfl,hqa,sX,hA,⟨l1,l8⟩,hg,VN,G7,Kb,zQ,huu,jW,jX⟩;have lu:(us.map V.str).length=us.length:=ak _;refine{(-18),λt ht=>?_};have nt:=jW.qd ht;have nts:sl≠t:=ba G7 ht;refine{_,rfl,fe,4,rfl,jW.new ht _,by decide,by decide,λi3 H3 a0 a1 jQ iw=>{_,_,rfl,rfl,?_}};have aeu:Ext fe H2 H3:=((Ext.refl fe H2).new ht _).trans iw;refine{_,rfl,by lia,by lia,Bi (lo:=0) (n:=(1+i3).toNat)
   (λj Z H4=>∃(x8 x9:Aap)(hs:Aah),Z=[some (.ref fe),some (.ref nl),some (.int most),some (.ref qa),some (.ref sl),x5,x6,some (.ref t),x8,x9]/\dY K fe H4/\Ext fe H2 H4/\H4 t=some (.lst (hs.map V.str))/\hs.length<=j/\(1<=j->hs≠[])/\hs.Nodup/\∀z∈hs,z∈us)
   {none,none,[],rfl,jQ,aeu,iw _ _ nt aw,ar _,λh=>absurd h (-8),.nil,λz h=>by cases h} ?_ ?_}
  ·rintro j Z H4 hj ⟨x8,x9,hs,rfl,nF,mC,G4,hl,ie,Hc,MQ⟩;refine{_,rfl,_,rfl,_,rfl,_,_,rfl,.inl {_,bo.of (mC _ _ VN G7),rfl},fe,_,rfl,nF,by lia,by lia,λi5 H5 b0 b1 vF sY=>?_};obtain⟨z,hz,ev⟩:=rN (zs:=us) b0 ∅;have UJ:=mC.trans sY;have C3:=sY _ _ nt G4;refine{_,_,_,_,rfl,rfl,bo.of (UJ _ _ VN G7),ev,?_};refine{_,rfl,_,rfl,t,_,rfl,.inl (bo.of C3),rfl,RM _,_,rfl,?_};show if(!G1 (.str z) (hs.map V.str))=true then _ else _;rw[B5];refine fm (λc1=>?_) (λc1=>?_)
   ·have c1:z∉hs:=by simpa using c1
    refine{_,rfl,.inl {rfl,_,bo.of C3},_,rfl,_,_,_,rfl,rfl,C3,by rw[ak];exact bC ∅,?_};refine{_,_,hs++[z],rfl,vF.lst C3 nt _,UJ.own ht _,by rw[aw,aJ];rfl,by rw[aO];show hs.length+1<=j+1;lia,λ_ h=>by simp at h,Yj.mpr ⟨Hc,c1⟩,λy hy=>?_};rcases bf.mp hy with hy|hy
    ·exact MQ y hy
    ·rw[ay.mp hy];exact hz
   ·have c1:z∈hs:=by simpa using c1
    exact{_,_,hs,rfl,vF,UJ,C3,by lia,λ_ h=>by(rw[h]at c1;cases c1),Hc,MQ}
  ·rintro Z H4 ⟨x8,x9,hs,rfl,nF,mC,G4,hl,ie,Hc,MQ⟩;have tu4:=jW.m8 mC;refine{_,rfl,t,_,rfl,.inl {bo.of G4,λtp C1=>?_}};have tu5:=(eE.refl H4).new C1 (.tup (hs.map V.str));have Zv:=tu4.trans tu5;refine{_,rfl,_,_,_,_,rfl,rfl,bF.of (Zv _ _ hqa),rfl,(-35),λq hq=>?_};have Zr:=(eE.refl _).new hq (.tup [.ref tp,.ref aa]);have tu:=Zv.trans Zr;have nq:tp≠q:=λe=>by rw[<-e,aw]at hq;cases hq
   have hFq:=(nF.new C1 (.tup (hs.map V.str))).new hq (.tup [.ref tp,.ref aa]);have aeh:1<=hs.length:=by
    have:=ie ∅;cases hs with
    |nil=>exact absurd rfl this
    |cons _ _=>exact lV (aP _)
   refine k q hs ats _ hFq (((jX.trans mC).new C1 _).new hq _) {{{q,tp,aa,jr,rfl,aw,by rw[aE nq,aw],tu _ _ sX,fg.keep tu hA},l1,by lia,hg,by lia,λz hz=>hg.flat (huu z (MQ z hz)).1},l8,Hc,aeh,λz hz=>{(huu z (MQ z hz)).1,(huu z (MQ z hz)).2.1}}
 ·--made
  refine{_,rfl,_,rfl,_,rfl,fe,nl,most,gC,rfl,hF,qE,⟨vB,A9,uf⟩,Wt,by lia,λr hz ats H1 oM rC hQ l1 l2 hgw Wd CZ=>?_};obtain⟨q,h0,aa,jr,e,hq,hh0,sX,hA⟩:=hQ;cases e;have l8:ats.length<=4:=by lia
  have hg:zw ats:=λa ha=>by obtain⟨g1,g2,g3,g4⟩:=hgw a ha;exact{Ek (hnw _ g1),g2,g3,λz hz=>(g4 z hz).elim NA Zl}
  have hqw:QW H1 (.ref r) hz ats:={⟨_,_,_,_,rfl,hq,hh0,sX,hA⟩,l1,by lia,hg,by lia,λz lM=>hg.flat (CZ z lM)};refine{_,rfl,.ref r,hz,ats,rfl,hqw,λsl H2 we ado G7=>?_};have VN:sl≠fe:=oM.qd ado;have jW:=oM.same we;have jX:=rC.trans (Ext.of we);refine{_,rfl,(-18),λl2' OG=>?_};have Ug:upd H2 l2' (.lst []) sl=some (.lst ((fM (cQ ats)).map V.str)):=by rw[aE (ba G7 OG)];exact G7
  refine{_,_,_,rfl,rfl,bo.of Ug,bo.of aw,_,rfl,?_};have jQ:=jW.new OG (.lst []);have iw:=jX.new OG (.lst []);have zH:eE H1 (upd H2 l2' (.lst [])):=(eE.of we).new OG _;generalize upd H2 l2' (.lst [])=H3 at Ug jQ iw zH⊢;have lfl:(cQ ats).length<=32:=by have:=uQ ats λa ha=>(hg a ha).2.2.1;lia
  refine fm (-61) (-61)
  ·--no unknown
   match ats,jr,hA,l1,l8,hg with
   |a::U4,_,.cons (a:=av) (l₁:=KU) ⟨ap,tp,ea,M7,C1⟩ hA',l1,l8,hg=>
    subst ea;have ga:=hg a aA;refine{_,rfl,_,_,_,_,rfl,rfl,bF.of (zH _ _ hq),rfl,_,_,_,_,rfl,rfl,bF.of (zH _ _ sX),kD (j:=0) rfl,ap,_,rfl,bF.of (zH _ _ M7),rfl,_,_,rfl,_,_,rfl,rfl,?_};refine{_,rfl,_,_,_,_,rfl,rfl,bF.of (zH _ _ hq),rfl,_,rfl,(by show 1<=sizeLine;decide),λp4 G8=>?_};have Eu:bq H3 (upd H3 p4 (.tup [.str "?a"])):=aM G8 _;have abc:upd H3 p4 (.tup [.str "?a"]) p4=some (.tup [.str "?a"]):=aw;generalize upd H3 p4 (.tup [.str "?a"])=H4 at Eu abc⊢;have ad7:=Eu _ _ (zH _ _ C1);refine{_,rfl,_,rfl,AU (Mh ad7 λp5 H5 L9 hp5=>?_)};have ec:kr (a.2.map V.str) (some 1) none=(a.2.drop 1).map V.str:=by rw[show(1:Int)=((1:Nat):Int)from rfl,KI,List.map_drop]
    rw[ec]at hp5;have ld:(a.2.drop 1).length<=4:=by rw[gY];have:=ga.2.2.1;lia
    refine Mi (L9 _ _ abc) hp5 (by rw[ak];show 1+(a.2.drop 1).length<=1000;lia) λp6 H6 sm6 hp6=>?_;refine{(-35),λp7 MT=>?_};have ZR:bq H6 (upd H6 p7 (.tup [.str a.1,.ref p6])):=aM MT _;have abb:upd H6 p7 (.tup [.str a.1,.ref p6]) p7=some (.tup [.str a.1,.ref p6]):=aw;generalize upd H6 p7 (.tup [.str a.1,.ref p6])=H7 at ZR abb⊢;refine{(by show 1<=sizeLine;decide),λp8 hp8=>?_};have Vx:bq H7 (upd H7 p8 (.tup [.ref p7])):=aM hp8 _;have aba:upd H7 p8 (.tup [.ref p7]) p8=some (.tup [.ref p7]):=aw;generalize upd H7 p8 (.tup [.ref p7])=H8 at Vx aba⊢;have SW:bq H3 H8:=Eu.trans (L9.trans (sm6.trans (ZR.trans Vx)));refine{_,rfl,_,_,_,_,rfl,rfl,bF.of (SW _ _ (zH _ _ hq)),rfl,_,rfl,AU (Mh (SW _ _ (zH _ _ sX)) λp9 H9 Vw hp9=>?_)};have ec2:kr (V.ref ap::KU) (some 1) none=KU:=by rw[show(1:Int)=((1:Nat):Int)from rfl,KI];rfl
    rw[ec2]at hp9;have lav:KU.length=U4.length:=bw hA';have l8':U4.length+1<=4:=l8;refine Mi (Vw _ _ aba) hp9 (by show 1+KU.length<=1000;lia) λQk yx SX aed=>?_;refine{(-35),λQj aec=>?_};have IF:bq yx (upd yx Qj (.tup [.ref h0,.ref Qk])):=aM aec _;have Ws:upd yx Qj (.tup [.ref h0,.ref Qk]) Qj=some (.tup [.ref h0,.ref Qk]):=aw;generalize upd yx Qj (.tup [.ref h0,.ref Qk])=wL at IF Ws⊢;have acb:bq H6 wL:=ZR.trans (Vx.trans (Vw.trans (SX.trans IF)));have NN:bq H3 wL:=SW.trans (Vw.trans (SX.trans IF));have abr:=jQ.same NN;refine{(by show 1<=sizeLine;decide),λl12 F1=>?_};have n12:=abr.qd F1;have Ic:eE wL (upd wL l12 (.lst [.str "?a"])):=(eE.refl wL).new F1 _;have ua:("?a":Str)∈rG:=by rw[<-acT];exact cy (-3)
    refine tl _ _ {Qj,h0,Qk,l12,_,_,[.ref p7]++KU,(a.1,"?a"::a.2.drop 1)::U4,["?a"],rfl,Ic _ _ Ws,Ic _ _ (IF _ _ aed),?_,⟨l1,l8⟩,λb hb=>?_,n12,aw,ar _,by decide,λz hz=>?_,abr.new F1 _,(iw.trans (Ext.of NN)).new F1 _}
    ·refine .cons {p7,p6,rfl,Ic _ _ ((Vx.trans (Vw.trans (SX.trans IF))) _ _ abb),Ic _ _ (acb _ _ hp6)} (fg.keep ((zH.trans (eE.of NN)).trans Ic) hA')
    ·rcases aG.mp hb with rfl|hb
     ·refine{ga.1,by show 1<=(a.2.drop 1).length+1;lia,by show(a.2.drop 1).length+1<=4;rw[gY];have:=ga.2.2.1;have:=ga.2.1;lia,λz hz=>?_};rcases aG.mp hz with rfl|hz
      ·exact NA ua
      ·exact ga.2.2.2 z (zu hz)
     ·exact hg b (aB _ hb)
    ·rw[ay.mp hz];exact{qj.mpr ⟨_,aA,aA⟩,abU ua,(NA ua).2.1}
  ·have c:(fM (cQ ats)).isEmpty=false:=by have c:¬((fM (cQ ats)).map V.str).isEmpty=true:=c;rw[isEmpty_map]at c;exact fL.mpr c
   have lu:=FY (cQ ats);have lu1:1<=(fM (cQ ats)).length:=by
    cases e:fM (cQ ats)with
    |nil=>rw[e]at c;cases c
    |cons _ _=>exact lV (aP _)
   refine tl _ _ {r,h0,aa,sl,none,none,jr,ats,fM (cQ ats),rfl,zH _ _ hq,zH _ _ sX,fg.keep zH hA,⟨l1,l8⟩,hg,VN,Ug,lu1,by lia,λz hz=>?_,jQ,iw};rw[LP,FX,bV]at hz;exact{hz.1,hz.2,(hg.flat hz.1).2.1}
abbrev View:=Str×Aah×Aaa
def VW(H:Hp)(v:V)(x:View):Prop:=∃(p:Addr)(q:V),v=.ref p/\H p=some (.tup [.str x.1,q])/\VQ H q x.2.1 x.2.2/\yr x.1
def VW.keep{H H':Hp}{v:V}{x:View}(t:eE H H')(h:VW H v x):VW H' v x:=by obtain⟨p,q,e,hp,hq,hn⟩:=h;exact{p,q,e,t _ _ hp,hq.keep t,hn}
abbrev Df(H:Hp):Aao->List View->Prop:=Paired (VW H)
def Df.keep{H H':Hp}(a:eE H H'){vs:Aao}{xs:List View}(h:Df H vs xs):Df H' vs xs:=Paired.imp' (λ_ _ q=>q.keep a) h
end
inductive Iy(K:Frag)(vs:Aao)(H:Hp)(Q:VK)(_x3:XK):Prop
 |mk (f nl:Addr) (many:Int) (gC:Aah) (_:vs=[.ref f,.ref nl,.int many]) (_:dY K f H) (_:nl≠f) (_:(H nl=some (.lst (gC.map V.str))/\1<=gC.length/\gC.length<=100)) (_:(∀z∈gC,z∈cJ)) (_:0<=many) (_:many<=12) (_:∀(r:Addr)(zG:Aao)(xs:List View)(H':Hp),dY K f H'->Ext f H H'->r≠f->H r=none->H' r=some (.lst zG)->Df H' zG xs->(xs.length:Int)=many->(xs.map (·.1)).Nodup->Q (.ref r) H')
section
variable{P:Program}{w:World}{K:Frag}{mg:Aad}{base:Heap}
structure Dx(P:Program)(w:World)(K:Frag)(mg:Aad)(base:Heap):Prop where
 uR:dP P w K mg base 2 "_law_words" ["_law_feed_here","_law_many"] (BW K)
 ES:dP P w K mg base 4 "_law_view_question" ["_law_feed_here","_law_names","_law_most"] (L3 K)
def NQ:cD ["_law_feed_here","_law_names","_law_many"] ["_law_feed_here","_law_names","_law_many"] (defScope AA):=jD (-3)
def Qr{f:Addr}{fd:FuncData}(F:fq K "_law_views" "_law_views" AA f fd)(T:Txt K mg)(D:Dx P w K mg base):dk P w K mg base fU 5 f fd ["_law_feed_here","_law_names","_law_many"] (Iy K):=by
 refine F.ok NQ (λ_ _ _ _ h=>by cases h;subst_vars;rfl) (-4);obtain⟨fe,nl,many,gC,rfl,hF,qE,⟨vB,A9,uf⟩,hnw,Wt,Rj,k⟩:=h;refine{_,(a9 (cN (g8 rfl (cU (fs:=["_law_feed_here","_law_names"]) (fr:=[0,1])) (fX (rO FJ (cl D.uR hr (dR (pv 0) bh)) uP (uO (pv 2)))) (λ_ _ _ _=>(iZ (dR (pv 0) (cl D.ES hr (sO (pv 1) (pv 2) bh)))))))),?_};refine{_,rfl,fe,12,rfl,hF,by decide,by decide,λwl ws H1 oM rC nwl ad6 G2 hlw ndw gq=>?_};refine AU {_,rfl,_,rfl,wl,_,rfl,bo.of G2,λl hl=>?_};have e0:many=((many.toNat:Nat):Int):=by lia
 have ec:kr (ws.map V.str) none (some many)=(ws.take many.toNat).map V.str:=by rw[e0,KH,tX];rfl
 rw[ec];have AV:=oM.qd hl;have jW:=oM.new hl (-74);have jX:=rC.new hl (-74);have qL:upd H1 l (-74) l=some (-74):=aw;generalize upd H1 l (-74)=H2 at jW jX qL⊢;have lw:(ws.take many.toNat).length=many.toNat:=by rw[aT];lia
 have Mx:(ws.take many.toNat).Nodup:=ndw.sublist (oZ _ _);have abo:∀z∈ws.take many.toNat,z∈cJ:=λz hz=>gq z (gx hz);generalize ws.take many.toNat=us at lw Mx abo qL;refine{l,rfl,{_,bo.of qL},jg (K:=K) (a:=l) (xs:=us.map V.str) (λi ys H3=>dY K fe H3/\Ext fe H2 H3/\i<=us.length/\ys.length=i/\∃xs:List View,Df H3 ys xs/\xs.map (·.1)=us.take i) (-27) {jW,Ext.refl _ _,aP _,rfl,[],.nil,rfl} ?_ ?_ ?_}
 ·rintro i ys H3 hi ⟨jQ,iw,Wx,hy,_⟩;exact{bo.of (iw _ _ AV qL),by lia}
 ·rintro i x ys H3 N hc ⟨jQ,iw,hi,hly,xs,nE,E3⟩ hN;have bJ:i<(us.map V.str).length:=(ax.mp hc).1;rw[ak]at bJ;rw[aK,au bJ]at hc;obtain rfl:V.str us[i]=x:=bK hc;have hw:=Ek (abo _ (gh bJ));refine gu ?_;refine{_,rfl,_,rfl,_,rfl,fe,nl,2,gC,rfl,jQ,qE,{iw _ _ qE (jX _ _ qE vB),A9,uf},hnw,by decide,by decide,λr hs ats H4 nF mC hV4=>?_};refine{(-35),λp hp=>?_};have sY:Ext fe H4 (upd H4 p (.tup [.str us[i],.ref r])):=(Ext.refl fe H4).new hp _;have vF:=nF.new hp (.tup [.str us[i],.ref r]);have np:=nF.qd hp;have Wr:upd H4 p (.tup [.str us[i],.ref r]) p=some (.tup [.str us[i],.ref r]):=aw;generalize upd H4 p (.tup [.str us[i],.ref r])=H5 at sY vF Wr⊢;have abw:=mC.trans sY;have acW:=jQ.m8 abw;refine hN _ _ {vF,iw.trans abw,bJ,by rw[aO,hly];rfl,xs++[(us[i],hs,ats)],Paired.Et (Df.keep acW nE) {p,.ref r,rfl,Wr,hV4.keep (nF.m8 sY),hw},?_};rw[aJ,E3,bg,au bJ];rfl
 ·rintro ys H3 ⟨jQ,iw,hi,hly,xs,nE,E3⟩ l2 jF;rw[ak]at hly E3;rw[aV]at E3;have mC:Ext fe H3 (upd H3 l2 (-38)):=(Ext.refl fe H3).new jF _;have lx:xs.length=us.length:=by have:=bU List.length E3;rw[ak]at this;exact this
  refine k l2 ys xs _ (jQ.new jF _) ((jX.trans iw).trans mC) (jQ.qd jF) ?_ aw (Df.keep (jQ.m8 mC) nE) ∅ ?_
  ·exact(jX.trans iw).none (jQ.qd jF) jF
  ·rw[E3];exact Mx
def II(h:∀R:L2.St->Hp->Prop,(∀σ' H',u D σ' H'->R σ' H')->t {D with nx:=R} Z H):NJ t u D Z H:=h (u D) λ_ _ x=>x
abbrev uL(f:Addr)(H:Hp):Aao->Aab->Prop:=Paired λ(y:V)(r:Aah)=>∃b,y=.ref b/\b≠f/\H b=some (.tup (r.map V.str))
def mJ(r:Aah):Prop:=1<=r.length/\r.length<=4/\∀z∈r,z∈cJ
def D9(f:Addr)(H:Hp)(kv:Key×V):Prop:=∃(z:Str)(a:Addr)(ys:Aao)(rows:Aab),kv=(Sum.inr z,.ref a)/\z∈cJ/\a≠f/\H a=some (-38)/\uL f H ys rows/\(∀r∈rows,mJ r)/\rows.length<=5
def TabAt(f:Addr)(H:Hp)(d:Addr)(kvs:List (Key×V)):Prop:=d≠f/\H d=some (.dK kvs)/\(kvs.map (·.1)).Nodup/\kvs.length<=3/\∀kv∈kvs,D9 f H kv
variable{f:Addr}{H H':Hp}
def oq(h:uL f H ys rows)(e:Ext f H H'):uL f H' ys rows:=
 Paired.vp h λy r ⟨b,e1,n,hb⟩=>{b,e1,n,e _ _ n hb}
def Dz{K:Frag}(h:uL f H ys rows):cT K H ys rows:=
 Paired.vp h λy r ⟨b,e1,n,hb⟩=>{b,e1,bF.of hb}
def D9.keep(h:D9 f H kv)(e:Ext f H H'):D9 f H' kv:=by obtain⟨z,a,ys,rows,e1,hz,na,ha,hr,hg,hl⟩:=h;exact{z,a,ys,rows,e1,hz,na,e _ _ na ha,oq hr e,hg,hl}
def dY.dic{K:Frag}(h:dY K f H)(hp:H p=some (.dK xs))(n:p≠f)(o:HO):dY K f (upd H p o):=by obtain⟨x,y,z,hf⟩:=h;exact{x,y,z,by rw[aE n.symm];exact hf}
def Tf{k:Key}{v:V}:(putK kvs k v).length<=kvs.length+1:=by
 unfold putK;split
 ·rw[ak];lia
 ·rw[aO];exact ar _
def Te{k:Key}{v:V}{p:Key×V}(h:p∈putK kvs k v):p∈kvs\/p=(k,v):=by
 unfold putK at h;split at h
 ·obtain⟨q,hq,rfl⟩:=aR.mp h;split
  next c=>exact .inr (by rw[c])
  next=>exact .inl hq
 ·rcases bf.mp h with q|q
  ·exact .inl q
  ·exact .inr (ay.mp q)
def NZ{k:Key}{v:V}(h:(kvs.map (·.1)).Nodup):((putK kvs k v).map (·.1)).Nodup:=by
 unfold putK;split
 ·rw[bW];have e:((λx:Key×V=>x.1)∘λkv:Key×V=>if kv.1=k then(kv.1,v)else kv)=λkv=>kv.1:=by funext kv;show(if kv.1=k then(kv.1,v)else kv).1=kv.1;split<;>rfl
  rw[e];exact h
 ·next c=>
  rw[aJ];refine eB.mpr {h,by simp,λa ha b hb=>?_};rw[kM,ay]at hb;subst hb;rintro rfl;obtain⟨q,hq,e⟩:=aR.mp ha;exact c (j8.mpr {q,hq,bp e})
structure En where
 nm:Str
 ad:Addr
 ys:Aao
 rows:Aab
def dt(e:En):Key×V:=(Sum.inr e.nm,.ref e.ad)
end
def Eg(f:Addr)(H:Hp)(e:En):Prop:=e.nm∈cJ/\e.ad≠f/\H e.ad=some (.lst e.ys)/\uL f H e.ys e.rows/\(∀r∈e.rows,mJ r)/\e.rows.length<=5
def BB(f:Addr)(H:Hp)(d:Addr)(es:List En):Prop:=d≠f/\H d=some (.dK (es.map dt))/\(es.map (·.nm)).Nodup/\es.length<=3/\∀e∈es,Eg f H e
section
variable{f d:Addr}{H H':Hp}
theorem RT:∀{kvs:List (Key×V)},(∀kv∈kvs,D9 f H kv)->∃es:List En,kvs=es.map dt/\∀e∈es,Eg f H e
 |[],_=>{[],rfl,λe h=>by cases h}
 |kv::r,h=>by
  obtain⟨es,e1,h1⟩:=RT (kvs:=r) λkv hk=>h kv (aB _ hk);obtain⟨z,a,ys,rows,e2,hz,na,ha,hr,hg,hl⟩:=h kv aA;refine{⟨z,a,ys,rows⟩::es,by rw[aU,<-e1,e2];rfl,λe he=>?_};rcases aG.mp he with rfl|he
  ·exact⟨hz,na,ha,hr,hg,hl⟩
  ·exact h1 e he
def JJ(es:List En):(es.map dt).map (·.1)=(es.map (·.nm)).map (Sum.inr:Str->Key):=by rw[bW,bW];rfl
def GU{l:Aah}:(l.map (Sum.inr:Str->Key)).Nodup↔l.Nodup:=by
 induction l with
 |nil=>exact{λ_=>fI,λ_=>fI}
 |cons a r ih=>
  rw[aU,cX,cX,ih];refine and_congr_left λ_=>not_congr {λh=>?_,λh=>cy h};obtain⟨b,hb,e⟩:=aR.mp h;cases e;exact hb
def TabAt.tabs(h:TabAt f H d kvs):∃es,kvs=es.map dt/\BB f H d es:=by obtain⟨n,hd,nd,hl,he⟩:=h;obtain⟨es,rfl,ho⟩:=RT he;rw[JJ]at nd;exact{es,rfl,n,hd,GU.mp nd,by rw[ak]at hl;exact hl,ho}
def Eg.keep(h:Eg f H e)(x:Ext f H H'):Eg f H' e:={h.1,h.2.1,x _ _ h.2.1 h.2.2.1,oq h.2.2.2.1 x,h.2.2.2.2}
def BB.keep(h:BB f H d es)(x:Ext f H H'):BB f H' d es:={h.1,x _ _ h.1 h.2.1,h.2.2.1,h.2.2.2.1,λe he=>(h.2.2.2.2 e he).keep x}
theorem BS:∀{es:List En},(es.map (·.nm)).Nodup->∀{e:En},e∈es->fh (es.map dt) (Sum.inr e.nm)=some (.ref e.ad)
 |[],_,e,h=>by cases h
 |a::r,nd,e,h=>by
  rw[aU,cX]at nd;rcases aG.mp h with rfl|h
  ·exact il rfl
  ·have ne:¬(dt a).1=Sum.inr e.nm:=λq=>nd.1 (by
    have:a.nm=e.nm:=by injection q
    rw[this];exact cy h)
   rw[aU,gR ne];exact BS nd.2 h
theorem yB:∀{es:List En}{z:Str},z∉es.map (·.nm)->fh (es.map dt) (Sum.inr z:Key)=none
 |[],_,_=>rfl
 |a::r,z,h=>by rw[aU,aG]at h;have ne:¬(dt a).1=Sum.inr z:=λq=>h (.inl (by injection q with q;exact q.symm));rw[aU,gR ne];exact yB λq=>h (.inr q)
def cP(es:List En)(z:Str):Aab:=match es.find? (λe=>decide (e.nm=z))with
 |some e=>e.rows
 |none=>[]
theorem DA:∀{es:List En},(es.map (·.nm)).Nodup->∀{e:En},e∈es->cP es e.nm=e.rows
 |[],_,e,h=>by cases h
 |a::r,nd,e,h=>by
  rw[aU,cX]at nd;unfold cP;rcases aG.mp h with rfl|h
  ·rw[dW (p:=λx:En=>decide (x.nm=e.nm)) (bp rfl)]
  ·have ne:¬decide (a.nm=e.nm)=true:=λq=>nd.1 (by
    rw[bj q];exact cy h)
   rw[dX (p:=λx:En=>decide (x.nm=e.nm)) ne];exact DA nd.2 h
end
section
variable{P:Program}{w:World}{K:Frag}{mg:Aad}{base:Heap}
structure gW(K:Frag)(H:Hp)(p:Addr)(fs:List En):Prop where
 at_:H p=some (.dK (fs.map dt))
 nm:(fs.map (·.nm)).Nodup
 en:∀e∈fs,H e.ad=some (.lst e.ys)/\cT K H e.ys e.rows/\e.rows.length<=5/\∀r∈e.rows,mJ r
structure Ea(K:Frag)(H:Hp)(p:Addr)(fs:List En):Prop where
 at_:H p=some (.dK (fs.map dt))
 nm:(fs.map (·.nm)).Nodup
 en:∀e∈fs,H e.ad=some (.lst e.ys)/\cT K H e.ys e.rows/\e.rows.length<=900/\∀r∈e.rows,mJ r
def gW.b{H:Hp}{p:Addr}{fs:List En}(x:gW K H p fs):Ea K H p fs:={x.at_,x.nm,λe he=>let⟨h1,h2,h3,h4⟩:=x.en e he;{h1,h2,aD h3 (-8),h4}}
def cM(h:cT K H ys rows)(s:bq H H'):cT K H' ys rows:=h.keep λa xs q=>by
 rcases q with(q|⟨o,q⟩)|q
 ·exact .inl (.inl (s _ _ q))
 ·exact .inl (.inr {o,s _ _ q})
 ·exact .inr q
def ip(q:bF K H a xs)(s:bq H H'):bF K H' a xs:=by
 rcases q with(q|⟨o,q⟩)|q
 ·exact .inl (.inl (s _ _ q))
 ·exact .inl (.inr {o,s _ _ q})
 ·exact .inr q
def gW.same(x:gW K H p fs)(s:bq H H'):gW K H' p fs:={s _ _ x.at_,x.nm,λe he=>by obtain⟨h1,h2,h3⟩:=x.en e he;exact{s _ _ h1,cM h2 s,h3}}
def Ea.same{H H':Hp}{p:Addr}{fs:List En}(x:Ea K H p fs)(s:bq H H'):Ea K H' p fs:={s _ _ x.at_,x.nm,λe he=>by obtain⟨h1,h2,h3⟩:=x.en e he;exact{s _ _ h1,cM h2 s,h3}}
def Ks(x:Ea K H p fs)(h0:H l0=some (.lst []))(z:Str):∃q ys,(fh (fs.map dt) (Sum.inr z:Key)).getD (.ref l0)=.ref q/\H q=some (-38)/\cT K H ys (cP fs z)/\(cP fs z).length<=900/\(∀r∈cP fs z,mJ r)/\∀y∈ys,∃e∈fs,y∈e.ys:=by
 cases q:fs.find? (λe=>decide (e.nm=z))with
 |none=>
  have n:z∉fs.map (·.nm):=λh=>by obtain⟨e,he,rfl⟩:=aR.mp h;have:=tG.mp q e he;exact this (bp rfl)
  have er:cP fs z=[]:=by unfold cP;rw[q]
  rw[er,yB n];exact{l0,[],rfl,h0,.nil,aP _,λr h=>(by cases h),λy h=>by cases h}
 |some e=>
  have he:=jN q;have e1:e.nm=z:=bj (List.find?_some (p:=λe:En=>decide (e.nm=z)) q);subst e1;rw[BS x.nm he,DA x.nm he];obtain⟨h1,h2,h3,h4⟩:=x.en e he;exact{e.ad,e.ys,rfl,h1,h2,h3,h4,λy hy=>⟨e,he,hy⟩}
inductive Dj(K:Frag)(vs:Aao)(H:Hp)(Q:VK)(_x3:XK):Prop
 |mk (d:Addr) (fs:List En) (z:Str) (_:vs=[.ref d,.str z]) (_:Ea K H d fs) (_:∀(l:Addr)(zs:Aao)(H':Hp),bq H H'->H l=none->H' l=some (.lst zs)->cT K H' zs (eX (cP fs z))->(∀y∈zs,∃e∈fs,y∈e.ys)->Q (.ref l) H')
def NP:cD ["tables","name"] ["tables","name"] (defScope Ay):=jD (-3)
def Ob(F:fq K "rows_of" "rows_of" Ay f fd)(T:Txt K mg):dk P w K mg base fU 1 f fd ["tables","name"] (Dj K):=by
 refine F.ok NP (λ_ _ _ _ h=>by cases h;subst_vars;rfl) (-4);obtain⟨d,fs,z,rfl,hT,k⟩:=h;have hu:=jL hr;refine{_,(a9 (cN (cW (rV hr.hd) rfl T.vj (-3) (cz (dF (Bq hr.hd hr.units) rfl T.Of (-3) (cz (yN hu (pv 0) (pv 1) (eZ gM) V0))))))),?_};refine{_,rfl,d,rfl,.inl {_,.inl hT.at_},_,rfl,(-18),λl0 mz=>?_};have GB:bq H (upd H l0 (.lst [])):=aM mz _;have h0:upd H l0 (.lst []) l0=some (.lst []):=aw;generalize (upd H l0 (.lst []))=H0 at GB h0⊢;obtain⟨q,ys,eq,hq,hR,Rm,hg,gq⟩:=Ks (hT.same GB) h0 z;refine{_,kR.k (k:=Sum.inr z) (GB _ _ hT.at_),?_};rw[eq];refine{q,ys,cP fs z,rfl,bo.of hq,hR,by lia,λa us M8 nu mu lu EY=>?_};have PV:bq H0 (upd H0 a (.ext (kz P w a us))):=aM M8 _;have Hi:upd H0 a (.ext (kz P w a us)) a=some (.ext (kz P w a us)):=aw;refine{a,us,ys,rfl,Hi,λx hx=>{ip (EY x hx).1 PV,(EY x hx).2},λ_ x hx=>?_,by lia,λl zs hl xZ J4=>?_}
 ·have:=hg x.1 ((mu x.1).mp (cy hx));intro q;have:=this.1;rw[q]at this;cases this
 ·replace hl:upd H0 a (.ext (kz P w a us)) l=none:=hl
  have we:bq (upd H0 a (.ext (kz P w a us))) (upd (upd H0 a (.ext (kz P w a us))) l (.lst zs)):=aM hl _;have sm:=GB.trans (PV.trans we);rw[pO nu mu]at xZ;refine k l zs _ sm ?_ aw (cM xZ we) λy hy=>gq y (J4 y hy);cases q:H l with
  |none=>rfl
  |some o=>
   rw[PV _ _ (GB _ _ q)]at hl;cases hl
def GoodG(ats:Aaa):Prop:=∀a∈ats,a.2.length<=4/\∀z∈a.2,z.length<=1000
inductive PJ(vs:Aao)(H:Hp)(Q:VK)(_x3:XK):Prop
 |mk (v:V) (hz:Aah) (ats:Aaa) (_:vs=[v]) (_:FC H v hz ats) (_:GoodG ats) (_:ats.length<=100) (_:∀(r:Addr)(H':Hp),bq H H'->H r=none->H' r=some (.lst ((fM (cQ ats)).map V.str))->Q (.ref r) H')
def QG(h:z∈acc):z∈step acc t:=by
 unfold step;split
 ·split
  ·exact h
  ·exact gz _ h
 ·exact h
def QF(h:isUnk z=true):z∈step acc z:=by
 unfold step;rw[aC h];split
 ·assumption
 ·exact cc _ (ay.mpr rfl)
theorem GW:∀{fl acc:Aah},z∈acc\/(isUnk z=true/\z∈fl)->z∈fl.foldl step acc
 |[],acc,h=>by
  rcases h with h|⟨_,h⟩
  ·exact h
  ·cases h
 |t::r,acc,h=>by
  rw[fT];refine GW ?_;rcases h with h|⟨hu,h⟩
  ·exact .inl (QG h)
  ·rcases aG.mp h with e|h
   ·subst e;exact .inl (QF hu)
   ·exact .inr ⟨hu,h⟩
def Yl(hu:isUnk z=true)(h:z∈fl):z∈fM fl:=GW (.inr ⟨hu,h⟩)
def Hk(acc:Aah):(acc.map V.str).all qO=true:=by rw[BK];exact bZ.mpr λ_ _=>rfl
theorem uN:∀{fl acc:Aah},z∈fl.foldl step acc->z∈acc\/z∈fl
 |[],acc,h=>.inl h
 |t::r,acc,h=>by
  rw[fT]at h;rcases uN h with h|h
  ·unfold step at h;split at h
   ·split at h
    ·exact .inl h
    ·rcases bf.mp h with h|h
     ·exact .inl h
     ·exact .inr (aG.mpr (.inl (ay.mp h)))
   ·exact .inl h
  ·exact .inr (aB _ h)
end
structure Dv2(P:Program)(w:World)(K:Frag)(mg:Aad)(base:Heap):Prop extends Dv P w K mg base where
 is_unknown:dP P w K mg base 2 "is_unknown" ["thing"] Vu
section
variable{P:Program}{w:World}{K:Frag}{mg:Aad}{base:Heap}
def oo:cD ["question","found","atom","term"] ["question"] (defScope tM):=jD (-3)
def FV(F:fq K "unknowns_of" "unknowns_of" tM f fd)(T:Txt K mg)(D:Dv2 P w K mg base):dk P w K mg base fU 3 f fd ["question"] PJ:=by
 refine F.ok oo (λ_ _ _ _ h=>by cases h;subst_vars;rfl) (-4);obtain⟨v,hz0,ats,rfl,⟨q,hd,aa,jr,rfl,hq,Wy,sX,nB⟩,good,hlen,k⟩:=h;have hu:=jL hr;refine{_,(aN (fJ 1 oo jy) (aN (fQ bS rfl (sM (dq lC (pv 0) bh (-15))) (ir 2 oo) (a9 (fQ bS rfl (sM (dq lC (pv 2) bh (-15))) (ir 3 oo) (a9 (gJ (AJ (cl D.is_unknown hr (cz (pv 3)))) (a9 (pY hu (pv 1) (pv 3) yO rfl)) eG))))) (a9 (cN (dF (Gd rfl) rfl T.vk (-3) (cz (pv 1))))))),?_}
 have la:jr.length=ats.length:=bw nB;intro d gE;refine{_,rfl,_,_,_,_,rfl,rfl,bF.of (aM gE _ _ _ hq),rfl,aa,rfl,{jr,bF.of (aM gE _ _ _ sX)},B7 (K:=K) (a:=aa) (xs:=jr)
  (λi Z H2=>∃(x2 x3:Aap),Z=[some (.ref q),some (.ref d),x2,x3]/\bq H H2/\H2 d=some (.dK (qH (fM (cQ (ats.take i)))))) {none,none,rfl,aM gE _,aw} (λi Z H2 _ hq=>by(obtain⟨_,_,_,sm,_⟩:=hq;exact bF.of (sm _ _ sX))) ?_ ?_}
 ·rintro i x Z H2 hx ⟨x2,x3,rfl,sm,hd2⟩;obtain⟨ta,ht,p,t,rfl,hp,wy⟩:=Paired.at nB hx;have g:=good ta (aH ht);have hi:i<ats.length:=(ax.mp ht).1;have lf:=uQ (ats.take i) λa ha=>(good a (gx ha)).1;have lti:(ats.take i).length<=i:=by rw[aT];lia
  refine{_,rfl,_,_,_,_,rfl,rfl,bF.of (sm _ _ hp),rfl,t,rfl,{_,bF.of (sm _ _ wy)},B7 (K:=K) (a:=t) (xs:=ta.2.map V.str)
   (λj Z H3=>∃(x3:Aap),Z=[some (.ref q),some (.ref d),some (.ref p),x3]/\bq H H3/\H3 d=some (.dK (qH (fM (cQ (ats.take i)++ta.2.take j))))) {x3,rfl,sm,by rw[yt,b6];exact hd2} (λj Z H3 _ hq=>by(obtain⟨_,_,sm',_⟩:=hq;exact bF.of (sm' _ _ wy))) ?_ ?_}
  ·rintro j y Z H3 hy ⟨x3,rfl,ml,vD⟩;obtain⟨z,hz,rfl⟩:=js hy;have J5:=g.2 z (aH hz);have hj:j<ta.2.length:=(ax.mp hz).1;refine{_,rfl,z,rfl,by lia,λH4 Eu=>{_,rfl,?_}};have Kn:=Eu _ _ vD;have en:fM (cQ (ats.take i)++ta.2.take (j+1))=step (fM (cQ (ats.take i)++ta.2.take j)) z:=by rw[bg,hz,<-Sz,cR];rfl
   have lu:=FY (cQ (ats.take i)++ta.2.take j);rw[aO,aT]at lu;refine fm (λc1=>?_) (λc1=>?_)
   ·refine{_,rfl,_,rfl,d,_,rfl,vU.k (k:=Sum.inr z) Kn (by unfold qH;rw[ak];exact bC ∅),?_};refine{_,rfl,λb u e=>?_,?_}
    ·rw[aE (ba e gE)];exact Eu _ _ (ml _ _ e)
    ·rw[aw,Td,en];unfold step;rw[aC c1]
   ·refine{_,rfl,ml.trans Eu,?_};rw[en];unfold step;rw[az c1];exact Kn
  ·rintro Z H3 ⟨x3,rfl,ml,vD⟩;refine{_,_,rfl,ml,?_};rw[ak,aV]at vD;rw[y0 ht];exact vD
 ·rintro Z H2 ⟨x2,x3,rfl,sm,hd2⟩;rw[la,aV]at hd2;refine{_,rfl,d,_,rfl,hd2,λl hl=>?_};refine k l _ (sm.trans (aM hl _)) (sm.free hl) ?_;rw[aw,QT]
def placesK(us:Aah):List (Key×V):=us.zipIdx.map λx=>(Sum.inr x.1,V.int (x.2:Int))
end
inductive IB(K:Frag)(vs:Aao)(H:Hp)(Q:VK)(_x3:XK):Prop
 |mk (l:Addr) (us:Aah) (_:vs=[.ref l]) (_:bo K H l (us.map V.str)) (_:us.Nodup) (_:us.length<=100) (_:∀(r:Addr)(H':Hp),bq H H'->H r=none->H' r=some (.dK (placesK us))->Q (.ref r) H')
def yA(nd:us.Nodup):fh (placesK us) (Sum.inr t:Key)=if t∈us then some (V.int (us.idxOf t:Int))else none:=by
 have gen:∀(us:Aah)(n:Nat),fh ((us.zipIdx n).map λx=>((Sum.inr x.1:Key),V.int (x.2:Int))) (Sum.inr t)=if t∈us then some (V.int ((us.idxOf t+n:Nat):Int))else none:=by
  intro us
  induction us with
  |nil=>intro n;rfl
  |cons u us ih=>
   intro n;rw[pT,aU];by_cases e:u=t
   ·subst e;rw[il rfl,aC aA,List.idxOf_cons_self,vO]
   ·rw[gR (λz=>e (Sum.inr.inj z)),ih (n+1)];by_cases m:t∈us
    ·rw[aC m,aC (aB _ m),List.idxOf_cons,show(u==t)=false from beq_false_of_ne e,cond_false,Nat.add_right_comm,pN]
    ·rw[az m,az λz=>(aG.mp z).elim (λz=>e z.symm) m]
 have:=gen us 0;rw[j4]at this;exact this
def Lg{us:Aah}(nd:us.Nodup)(h:us[i]?=some u):putK (placesK (us.take i)) (Sum.inr u:Key) (V.int (i:Int))=placesK (us.take (i+1)):=by
 obtain⟨hi,e⟩:=ax.mp h;have nm:u∉us.take i:=λz=>by obtain⟨j,hj,ej⟩:=fo.mp z;rw[aT]at hj;rw[List.getElem_take]at ej;exact fS.mp nd j i ∅ hi ∅ (by rw[ej,e])
 rw[yM _ (by rw[yA (nd.sublist (oZ _ _)),az nm])];unfold placesK;rw[bg,h,cL,List.zipIdx_append,aJ,aT,gL ∅];simp
section
variable{P:Program}{w:World}{K:Frag}{mg:Aad}{base:Heap}
def iQ(q:bo K H a xs)(s:bq H H'):bo K H' a xs:=by
 rcases q with(q|⟨o,q⟩)|q
 ·exact .inl (.inl (s _ _ q))
 ·exact .inl (.inr {o,s _ _ q})
 ·exact .inr q
def qx:cD ["unknowns","places","place","unknown"] ["unknowns"] (defScope wW):=jD (-3)
def JA(F:fq K "places_of" "places_of" wW f fd)(T:Txt K mg):dk P w K mg base fU 1 f fd ["unknowns"] (IB K):=by
 refine F.ok qx (λ_ _ _ _ h=>by cases h;subst_vars;rfl) (-4);obtain⟨l,us,rfl,hl,nd,lu,k⟩:=h;have hu:=jL hr;refine{_,(aN (fJ 1 qx jy) (aN (fQ bS rfl (FQ rfl T.wZ (cz (pv 0))) (iY rfl (cA (ir 2 qx) (cA (ir 3 qx) g7))) (a9 (pY hu (pv 1) (pv 3) (pv 2) rfl))) (a9 (cN (pv 1))))),?_}
 intro d gE;refine{_,rfl,l,rfl,{_,iQ hl (aM gE _)},DQ (K:=K) (a:=l) (xs:=us.map V.str)
  (λi Z H2=>∃(x2 x3:Aap),Z=[some (.ref l),some (.ref d),x2,x3]/\bq H H2/\H2 d=some (.dK (placesK (us.take i)))) {none,none,rfl,aM gE _,aw} (λi Z H2 _ ⟨_,_,_,sm,_⟩=>iQ hl sm) ?_ ?_}
 ·rintro i x p Z H2 hx ⟨x2,x3,rfl,sm,hd2⟩ hp;obtain⟨z,hz,rfl⟩:=js hx;have hi:=(ax.mp hz).1;have ml:bq H2 (upd H2 p (.tup [.int i,.str z])):=aM hp _;refine{p,_,rfl,bF.of aw,rfl,_,_,rfl,_,_,rfl,rfl,?_};refine{_,rfl,_,rfl,_,rfl,d,_,rfl,vU.k (k:=Sum.inr z) (ml _ _ hd2) (by unfold placesK;rw[ak,List.length_zipIdx,aT];exact bC ∅),?_};refine{_,_,rfl,λb u e=>?_,?_}
  ·rw[aE (ba e gE)];exact ml _ _ (sm _ _ e)
  ·rw[aw,Lg nd hz]
 ·rintro Z H2 ⟨x2,x3,rfl,sm,hd2⟩;rw[ak,aV]at hd2;exact{_,rfl,k d H2 sm gE hd2}
inductive L5(K:Frag)(vs:Aao)(H:Hp)(Q:VK)(_x3:XK):Prop
 |mk (t d g:Addr) (ts us o9:Aah) (_:vs=[.ref t,.ref d,.ref g]) (_:(bo K H t (ts.map V.str)\/bF K H t (ts.map V.str))) (_:H d=some (.dK (placesK us))) (_:us.Nodup) (_:bF K H g (o9.map V.str)) (_:o9.length=us.length) (_:ts.length<=100) (_:us.length<=100) (_:∀(r:Addr)(H':Hp),bq H H'->H r=none->H' r=some (.tup ((AskP.image us o9 ts).map V.str))->Q (.ref r) H')
def S6:cD ["terms","places","given"] ["terms","places","given"] (defScope FL):=jD (-3)
def TH(F:fq K "image" "image" FL f fd)(T:Txt K mg):dk P w K mg base fU 1 f fd ["terms","places","given"] (L5 K):=by
 refine F.ok S6 (λ_ _ _ _ h=>by cases h;subst_vars;rfl) (-4);obtain⟨t,d,g,ts,us,o9,rfl,ht,hd,nd,hg,lv,lt,lu,k⟩:=h;have hu:=jL hr;rcases ht with ht|ht
 ·refine{_,(a9 (cN (dF fD rfl T.kC (-3) (cz (g8 rfl (cU (fs:=["places","given"]) (fr:=[1,2])) (fX (pv 0)) (λ_ _ _ _=>(Jm (I0 (Jr hu (pv 0) (pv 1))) (dq (uS (K:=K)) (pv 2) (pZ hu (pv 1) (pv 0) (-15)) (-15)) (pv 0)))))))),?_};refine{_,rfl,t,rfl,⟨_,ht⟩,jg (K:=K) (a:=t) (xs:=ts.map V.str) (λi ys H2=>H2=H/\i<=ts.length/\ys=((ts.take i).map (AskP.my us o9)).map V.str) (-27) {rfl,aP _,rfl} ?_ ?_ ?_}
  ·rintro i ys H2 hi ⟨rfl,_,rfl⟩;refine{ht,?_};rw[ak,ak,aT];lia
  ·rintro i x ys H2 N hc ⟨rfl,hi,rfl⟩ hN;obtain⟨z,hz,rfl⟩:=js hc;have bJ:i<ts.length:=(ax.mp hz).1;refine gu ?_;refine{_,rfl,_,rfl,d,_,rfl,kR.k (k:=Sum.inr z) hd,_,rfl,?_};have ap:((ts.take i).map (AskP.my us o9)).map V.str++[V.str (AskP.my us o9 z)]=((ts.take (i+1)).map (AskP.my us o9)).map V.str:=by rw[bg,hz,aJ,aJ];rfl
   have ev:=yA (t:=z) nd;by_cases m:z∈us
   ·rw[aC m]at ev;have li:=cV m;have dg:=kR.k (k:=Sum.inr z) hd;rw[ev]at dg;refine fm (λ_=>?_) (λc=>absurd (by rw[ev];rfl) c);refine{_,rfl,_,rfl,_,rfl,d,_,rfl,dg,g,_,_,V.str (AskP.my us o9 z),rfl,rfl,hg,?_,hN _ _ ⟨rfl,bJ,ap⟩};refine kD ?_;rw[aK,au ∅];unfold AskP.my;rw[aC m,cq,au ∅];rfl
   ·rw[az m]at ev;refine fm (λc=>by rw[ev]at c;cases c) (λ_=>?_);refine{_,rfl,hN _ _ {rfl,bJ,?_}};rw[<-ap];unfold AskP.my;rw[az m]
  ·rintro ys H2 ⟨rfl,_,rfl⟩ l qM;rw[ak,aV];refine{l,_,rfl,.inl {bo.of aw,λp hp=>?_}};exact k p _ ((aM qM _).trans (aM hp _)) ((aM qM _).free hp) aw
 ·refine{_,(a9 (cN (dF fD rfl T.kC (-3) (cz (g8 rfl (cU (fs:=["places","given"]) (fr:=[1,2])) (sM (pv 0)) (λ_ _ _ _=>(Jm (I0 (Jr hu (pv 0) (pv 1))) (dq (uS (K:=K)) (pv 2) (pZ hu (pv 1) (pv 0) (-15)) (-15)) (pv 0)))))))),?_};refine{_,rfl,t,rfl,⟨_,ht⟩,zd (K:=K) (a:=t) (xs:=ts.map V.str) (λi ys H2=>H2=H/\i<=ts.length/\ys=((ts.take i).map (AskP.my us o9)).map V.str) (-27) {rfl,aP _,rfl} ?_ ?_ ?_}
  ·rintro i ys H2 hi ⟨rfl,_,rfl⟩;refine{ht,?_};rw[ak,ak,aT];lia
  ·rintro i x ys H2 N hc ⟨rfl,hi,rfl⟩ hN;obtain⟨z,hz,rfl⟩:=js hc;have bJ:i<ts.length:=(ax.mp hz).1;refine gu ?_;refine{_,rfl,_,rfl,d,_,rfl,kR.k (k:=Sum.inr z) hd,_,rfl,?_};have ap:((ts.take i).map (AskP.my us o9)).map V.str++[V.str (AskP.my us o9 z)]=((ts.take (i+1)).map (AskP.my us o9)).map V.str:=by rw[bg,hz,aJ,aJ];rfl
   have ev:=yA (t:=z) nd;by_cases m:z∈us
   ·rw[aC m]at ev;have li:=cV m;have dg:=kR.k (k:=Sum.inr z) hd;rw[ev]at dg;refine fm (λ_=>?_) (λc=>absurd (by rw[ev];rfl) c);refine{_,rfl,_,rfl,_,rfl,d,_,rfl,dg,g,_,_,V.str (AskP.my us o9 z),rfl,rfl,hg,?_,hN _ _ ⟨rfl,bJ,ap⟩};refine kD ?_;rw[aK,au ∅];unfold AskP.my;rw[aC m,cq,au ∅];rfl
   ·rw[az m]at ev;refine fm (λc=>by rw[ev]at c;cases c) (λ_=>?_);refine{_,rfl,hN _ _ {rfl,bJ,?_}};rw[<-ap];unfold AskP.my;rw[az m]
  ·rintro ys H2 ⟨rfl,_,rfl⟩ l qM;rw[ak,aV];refine{l,_,rfl,.inl {bo.of aw,λp hp=>?_}};exact k p _ ((aM qM _).trans (aM hp _)) ((aM qM _).free hp) aw
end
inductive Gy(K:Frag)(vs:Aao)(H:Hp)(Q:VK)(_x3:XK):Prop
 |mk (r t:Addr) (rs ts:Aah) (_:vs=[.ref r,.ref t]) (_:bF K H r (rs.map V.str)) (_:H t=some (.tup (ts.map V.str))) (_:rs.length<=100) (_:ts.length<=100) (_:∀H',bq H H'->Q (.bl (AskP.mU rs ts)) H')
section
variable{P:Program}{w:World}{K:Frag}{mg:Aad}{base:Heap}
def Lf:cD ["row","terms"] ["row","terms"] (defScope yL):=jD (-3)
def Lk(F:fq K "is_image" "is_image" yL f fd)(T:Txt K mg):dk P w K mg base fU 1 f fd ["row","terms"] (Gy K):=by
 refine F.ok Lf (λ_ _ _ _ h=>by cases h;subst_vars;rfl) (-4);obtain⟨r,t,rs,ts,rfl,EZ,Rb,lr,lt,k⟩:=h;have Wk:bF K H t (ts.map V.str):=bF.of Rb;have hu:=jL hr;refine{_,(aN (gJ (dh BZ (cW iS rfl T.kU dj (cz (pv 0))) (cW iS rfl T.kU dj (cz (pv 1))) (eW _)) (a9 (cN yO)) eG) (a9 (cN (cW (yh rfl) rfl T.VY boot_all (cz (Ts rfl (Pb (more:=["value"]) (fs:=["row","terms"]) (fr:=[0,1])) (Mo rfl T.EN (dR (pv 1) (pv 0))) (λ_ _ _ _=>(X1 (K:=K) (n:=2) rfl (cA (Ji (i:=0)) (cA (Ji (i:=1)) g7)))) (λ_ _ _ _=>(FR uE (dq (uS (K:=K)) (pv 2) (Jp (K:=K) nU nQ nO yS (pv 3) (cz (pv 0))) (-15)) (pv 1) (eW _))))))))),?_}
 refine{_,rfl,_,_,rfl,.inr ⟨_,EZ,rfl⟩,_,rfl,_,_,rfl,.inr ⟨_,Wk,rfl⟩,rfl,?_};rw[ak,ak];refine{_,rfl,fm (-61) (-61)}
 ·have ne:rs.length≠ts.length:=λe=>by rw[e]at c;simp at c
  have e:AskP.mU rs ts=false:=by unfold AskP.mU;rw[bQ ne];rfl
  rw[e]at k;exact k H (λ_ _ x=>x)
 have le:rs.length=ts.length:=by
  by_cases e:rs.length=ts.length
  ·exact e
  ·have z:¬(V.int (rs.length:Int)=V.int (ts.length:Int)):=λz=>e (by injection z with z;lia);exact absurd (by rw[bQ z];rfl) c
 refine{_,rfl,_,rfl,t,r,rfl,⟨_,Wk⟩,⟨_,EZ⟩,Pc (K:=K) (a:=t) (b:=r) (xs:=ts.map V.str) (zs:=rs.map V.str)
  (λi ys H2=>bq H H2/\i<=ts.length/\ys=(((ts.zip rs).take i).map λx=>decide (rs[ts.idxOf x.1]?=some x.2)).map V.bl) (-27) (by rw[ak,ak,le]) {λ_ _ x=>x,aP _,rfl} ?_ ?_ ?_}
 ·rintro i ys H2 hi ⟨sm,_,rfl⟩;refine{{ip Wk sm,ip EZ sm},?_};rw[ak,ak,aT];lia
 ·rintro i x y p ys H2 N hx hy ⟨sm,hi,rfl⟩ hp hN;obtain⟨z,hz,rfl⟩:=js hx;obtain⟨v,hv,rfl⟩:=js hy;refine gu ?_;have m:z∈ts:=aH hz;have li:=cV m;have Ww:=(ax.mp hz).1;have ml:bq H (upd H2 p (.tup [V.str z,V.str v])):=sm.trans (aM hp _);have e1:ts[ts.idxOf z]?=some z:=by rw[au li,kN]
  have e2:∀n,n<ts.idxOf z->ts[n]?≠some z:=λn hn q=>by obtain⟨ln,en⟩:=ax.mp q;have:=xn (p:=(·==z)) (xs:=ts) hn;rw[en]at this;simp at this
  obtain⟨u,zQ⟩:∃u,rs[ts.idxOf z]?=some u:={_,au ∅};refine{_,rfl,_,rfl,.inr (.inl {rfl,.inl {_,ml _ _ Rb}}),_,rfl,t,ts,z,ts.idxOf z,rfl,rfl,ip Wk ml,e1,e2,r,_,_,V.str u,rfl,rfl,ip EZ ml,kD (by rw[aK,zQ];rfl),_,rfl,rfl,?_};refine hN _ _ {ml,by lia,?_};have e3:(ts.zip rs)[i]?=some (z,v):=by rw[List.getElem?_zip_eq_some];exact⟨hz,hv⟩
  rw[bg,e3,cL,aJ,aJ];congr 1;show[V.bl (decide (V.str u=V.str v))]=[V.bl (decide (rs[ts.idxOf z]?=some v))];rw[zQ];congr 2;by_cases q:u=v
  ·subst q;simp
  ·rw[bQ (λz=>q (V.str.inj z)),bQ (λz=>q (bK z))]
 ·rintro ys H2 ⟨sm,_,rfl⟩ l hl;have lz:(ts.zip rs).length=ts.length:=by rw[q9];lia
  rw[ak,<-lz,aV];refine{l,_,rfl,bo.of aw,?_};have e:AskP.mU rs ts=(((ts.zip rs).map λx=>decide (rs[ts.idxOf x.1]?=some x.2)).all id):=by unfold AskP.mU;rw[bp le,gO,BK];rfl
  rw[e]at k;exact k _ (sm.trans (aM hl _))
def dw(H H':Hp):Prop:=∀b xs,Rd H b (.tup xs)->Rd H' b (.tup xs)
def dw.refl(H:Hp):dw H H:=λ_ _ h=>h
def dw.trans(a:dw H H1)(b:dw H1 H2):dw H H2:=λx xs h=>b x xs (a x xs h)
def dw.same(s:bq H H'):dw H H':=λb xs h=>by
 rcases h with h|⟨o,h⟩
 ·exact .inl (s _ _ h)
 ·exact .inr {o,s _ _ h}
def iN(H:Hp)(a:Addr):Prop:=∀xs,¬Rd H a (.tup xs)
def dw.upd(h:iN H a):dw H (upd H a o):=λb xs q=>by
 have hb:b≠a:=λe=>h xs (e▸q);rcases q with q|⟨o',q⟩
 ·exact .inl (by rw[aE hb];exact q)
 ·exact .inr {o',by rw[aE hb];exact q}
def Qw(h:H a=some (.ext φ)):iN H a:=λxs q=>by rcases q with q|⟨o,q⟩<;>rw[h]at q<;>cases q
def rP(h:H a=some (.dK l)):iN H a:=λxs q=>by rcases q with q|⟨o,q⟩<;>rw[h]at q<;>cases q
def AS(h:H a=some (.ins C dx l)):iN H a:=λxs q=>by rcases q with q|⟨o,q⟩<;>rw[h]at q<;>cases q
def pb(q:bF K H a xs)(t:dw H H'):bF K H' a xs:=by
 rcases q with q|q
 ·exact .inl (t _ _ q)
 ·exact .inr q
mutual
theorem Od(t:dw H H'):∀(k:NK)(v:V),NV K H k v->NV K H' k v
 | .cE,v,h=>by rw[NV]at h⊢;exact h
 | .key k,v,h=>by rw[NV]at h⊢;exact h
 | .tup ks,v,h=>by rw[NV]at h⊢;obtain⟨a,xs,e,hq,hs⟩:=h;exact{a,xs,e,pb hq t,Qu t ks xs hs}
theorem Qu(t:dw H H'):∀(ks:List NK)(vs:Aao),pE K H ks vs->pE K H' ks vs
 |[],vs,h=>by rw[pE]at h⊢;exact h
 |k::ks,vs,h=>by rw[pE]at h⊢;obtain⟨x,r,e,h1,h2⟩:=h;exact{x,r,e,Od t k x h1,Qu t ks r h2}
end
def xS{H H':Hp}{k:NK}{a:Addr}(h:jA K H k a)(t:dw H H'):jA K H' k a:={Od t _ _ h.1,h.2}
def _root_.L2.gn.tp{H H':Hp}{d:Addr}{kvs:List (-53)}(h:gn P w K H d kvs)(t:dw H H')(e:H' d=H d):gn P w K H' d kvs:={by rw[e];exact h.1,λp hp=>xS (h.2 p hp) t}
def _root_.L2.gn.some{H:Hp}{d:Addr}{kvs:List (-53)}(h:gn P w K H d kvs):∃u,H d=some u:=by rcases h.1 with h|⟨_,h⟩<;>exact⟨_,h⟩
def _root_.L2.gn.qD{H:Hp}{d:Addr}{kvs:List (-53)}(h:gn P w K H d kvs):iN H d:=by
 rcases h.1 with h|⟨_,h⟩
 ·exact Qw h
 ·exact rP h
def _root_.L2.gn.put{H:Hp}{d b:Addr}{kvs:List (-53)}{k:NK}{v:V}(h:gn P w K H d kvs)(hk:jA K H k b):gn P w K (upd H d (.ext (DN P w d (putN kvs k b v)))) d (putN kvs k b v):=by
 have t:dw H (upd H d (.ext (DN P w d (putN kvs k b v)))):=dw.upd h.qD;refine{.inl aw,λp hp=>?_};rcases JP hp with⟨q,hq,e1,e2⟩|⟨e1,e2⟩
 ·rw[e1,e2];exact xS (h.2 q hq) t
 ·rw[e1,e2];exact xS hk t
def Gg{H:Hp}{p:Addr}(h:H p=Option.some (.dK [])):gn P w K H p []:={.inr ⟨rfl,h⟩,λ_ hp=>by cases hp}
def tE(zs:Aah):Prop:=∀z∈zs,PyData.strOk z=true
abbrev Cm:=List (Aah×Int)
def tm(m:Cm):List (NK×V):=m.map λx=>(fR x.1,V.int x.2)
abbrev CS(kvs:List (-53)):List (NK×V):=kvs.map λp=>(p.1,p.2.2)
def cnt(m:Cm)(r:Aah):Int:=((m.find? λx=>decide (x.1=r)).map (·.2)).getD 0
theorem FH:∀{m:Cm}{kvs:List (-53)},CS kvs=tm m->valN kvs (fR r)=(m.find? λx=>decide (x.1=r)).map λx=>V.int x.2
 |[],[],_=>rfl
 |[],_::_,e=>by cases e
 |_::_,[],e=>by cases e
 |x::m,p::kvs,e=>by
  injection e with e1 e2;have e3:=bU Prod.fst e1;have e4:=bU Prod.snd e1;dsimp only at e3 e4;by_cases c:x.1=r
  ·rw[lP (by rw[e3,c]),dW (by exact bp c),e4];rfl
  ·rw[lQ (λz=>c (xM (by rw[<-e3,z]))),FH e2,dX (by simpa using c)]
def YV(e:CS kvs=tm m):(valN kvs (fR r)).getD (V.int 0)=V.int (cnt m r):=by rw[FH e];unfold cnt;cases m.find? (λx=>decide (x.1=r))<;>rfl
def abG(nd:(m.map (·.1)).Nodup)(h:x∈m)(e:x.1=r):cnt m r=x.2:=by
 unfold cnt
 induction m with
 |nil=>cases h
 |cons y m ih=>
  rw[aU,cX]at nd;by_cases c:y.1=r
  ·rw[dW (by exact bp c)];rcases aG.mp h with rfl|h
   ·rfl
   ·exact absurd (aR.mpr {x,h,by rw[e,c]}) nd.1
  ·rw[dX (by simpa using c)];rcases aG.mp h with rfl|h
   ·exact absurd e c
   ·exact ih nd.2 h
def XU(nd:(m.map (·.1)).Nodup)(e:CS kvs=tm m):CS (putN kvs (fR r) b (.int (cnt m r+c)))=tm (AskP.tT m r c):=by
 have hv:=FH (r:=r) e;have mem:r∈m.map (·.1)↔(m.find? λx=>decide (x.1=r)).isSome=true:=by rw[List.find?_isSome,aR];exact{λ⟨x,h1,h2⟩=>{x,h1,bp h2},λ⟨x,h1,h2⟩=>{x,h1,bj h2}}
 unfold putN AskP.tT;by_cases q:r∈m.map (·.1)
 ·rw[aC q,aC (by rw[hv,jH];exact mem.mp q)];have gen:∀(kvs:List (-53))(m':Cm),(∀x∈m',x∈m)->CS kvs=tm m'->CS (kvs.map λp=>if p.1=fR r then(p.1,p.2.1,V.int (cnt m r+c))else p)=tm (m'.map λx=>if x.1=r then(x.1,x.2+c)else x):=by
   intro kvs
   induction kvs with
   |nil=>intro m' _ e;cases m' with
    |nil=>rfl
    |cons _ _=>cases e
   |cons p kvs ih=>intro m' hm e;cases m' with
    |nil=>cases e
    |cons x m'=>
     injection e with e1 e2;have e3:=bU Prod.fst e1;have e4:=bU Prod.snd e1;dsimp only at e3 e4;show(_::_:List (NK×V))=_::_;congr 1
     ·dsimp only;by_cases z:x.1=r
      ·rw[aC z,aC (by rw[e3,z])];rw[e3,abG nd (hm x aA) z]
      ·rw[az z,az (λq=>z (xM (by rw[<-e3,q])))];exact e1
     ·exact ih m' (λx hx=>hm x (aB _ hx)) e2
  exact gen kvs m (λ_ h=>h) e
 ·rw[az q,az (by rw[hv,jH];exactλz=>q (mem.mpr z))];have z:(m.find? λx=>decide (x.1=r))=none:=by
   cases h:m.find? λx=>decide (x.1=r)with
   |none=>rfl
   |some _=>rw[h]at mem;exact absurd (mem.mpr rfl) q
  have z2:cnt m r=0:=by unfold cnt;rw[z];rfl
  unfold tm CS at*;rw[z2,vT,aJ,aJ,e];rfl
def RowC(P:Program)(w:World)(K:Frag)(H:Hp)(d:Addr)(m:Cm):Prop:=∃kvs,gn P w K H d kvs/\CS kvs=tm m
def RowC.same(h:RowC P w K H d m)(s:bq H H'):RowC P w K H' d m:=by obtain⟨kvs,h1,h2⟩:=h;obtain⟨u,hu⟩:=h1.some;exact{kvs,h1.tp (dw.same s) (by rw[hu,s _ _ hu]),h2}
def Ph(P:Program)(w:World)(K:Frag)(H:Hp)(d:Addr)(m:Cm):Prop:=∃kvs,gn P w K H d kvs/\CS kvs=tm m/\∀p∈kvs,∃xs,H p.2.1=some (.tup xs)
def Ph.c(h:Ph P w K H d m):RowC P w K H d m:=let⟨kvs,h1,h2,_⟩:=h;⟨kvs,h1,h2⟩
def wI(K:Frag)(H:Hp)(v:V)(x:Aah×Int):Prop:=∃p g,v=.ref p/\bF K H p [.ref g,.int x.2]/\bF K H g (x.1.map V.str)
def Ju(h:wI K H v x)(t:dw H H'):wI K H' v x:=by obtain⟨p,g,e,h1,h2⟩:=h;exact{p,g,e,pb h1 t,pb h2 t}
def GA(h1:tE vs)(h2:tE ts):tE (AskP.image us vs ts):=λz hz=>by
 obtain⟨t,ht,rfl⟩:=aR.mp hz;unfold AskP.my;split
 ·rw[cq];cases q:vs[us.idxOf t]? with
  |none=>exact h2 t ht
  |some v=>exact h1 v (aH q)
 ·exact h2 t ht
inductive yH(P:Program)(w:World)(K:Frag)(vs:Aao)(H:Hp)(Q:VK)(_x3:XK):Prop
 |mk (l u t:Addr) (ys:Aao) (m:Cm) (us ts:Aah) (_:vs=[.ref l,.ref u,.ref t]) (_:bo K H l ys) (_:Paired (wI K H) ys m) (_:bo K H u (us.map V.str)) (_:us.Nodup) (_:us.length<=100) (_:(bo K H t (ts.map V.str)\/bF K H t (ts.map V.str))) (_:ts.length<=100) (_:tE ts) (_:(∀x∈m,x.1.length=us.length/\tE x.1)) (_:m.length<=9000000) (_:∀(d:Addr)(H':Hp),bq H H'->H d=none->Ph P w K H' d (AskP.narrowed m us ts)->Q (.ref d) H')
structure Dn(P:Program)(w:World)(K:Frag)(mg:Aad)(base:Heap):Prop where
 places_of:dP P w K mg base 1 "places_of" ["unknowns"] (IB K)
 image:dP P w K mg base 1 "image" ["terms","places","given"] (L5 K)
def mH:cD ["counted_maps","unknowns","terms","places","counts","given","count","row"] ["counted_maps","unknowns","terms"] (defScope yI):=jD (-3)
def Li(F:fq K "narrowed" "narrowed" yI f fd)(T:Txt K mg)(D:Dn P w K mg base):dk P w K mg base fU 3 f fd ["counted_maps","unknowns","terms"] (yH P w K):=by
 refine F.ok mH (λ_ _ _ _ h=>by cases h;subst_vars;rfl) (-4);obtain⟨l,u,t,ys,m,us,ts,rfl,hl,rp,Kb,nd,lu,ht,lt,st,gm,lm,k⟩:=h;have hu:=jL hr;have hN:=yY hr;refine{_,(aN (fJ 3 mH (cl D.places_of hr (cz (pv 1)))) (aN (fJ 4 mH jy) (aN (fQ bS rfl (fX (pv 0)) (iY rfl (cA (ir 5 mH) (cA (ir 6 mH) g7))) (aN (fJ 7 mH (cl D.image hr (sO (pv 2) (pv 3) (pv 5)))) (a9 (Jd hN (pv 4) (pv 7) (dM jE (GN hN (pv 4) (pv 7) bh ⟨rfl,rfl,rfl,rfl⟩) (pv 6)) rfl)))) (a9 (cN (pv 4)))))),?_}
 have ly:ys.length=m.length:=bw rp;refine{_,rfl,u,us,rfl,Kb,nd,lu,λpd H1 s1 Ul aa9=>?_};intro d gE;have s2:bq H1 (upd H1 d (.dK [])):=aM gE _;have hd2:upd H1 d (.dK []) d=some (.dK []):=aw;have sL:=s1.trans s2;have aa8:=s2 _ _ aa9;have M6:H d=none:=s1.free gE;have pdd:pd≠d:=ba aa9 gE;generalize (upd H1 d (.dK []))=H2 at s2 hd2 sL aa8⊢;refine{_,rfl,l,rfl,{_,iQ hl sL},nG (K:=K) (a:=l) (xs:=ys)
  (λi Z H3=>∃(x1 x2 x3:Aap),Z=[some (.ref l),some (.ref u),some (.ref t),some (.ref pd),some (.ref d),x1,x2,x3]/\bq H H3/\H3 pd=some (.dK (placesK us))/\i<=m.length/\∃kvs,gn P w K H3 d kvs/\CS kvs=tm (AskP.narrowed (m.take i) us ts)/\kvs.length<=i/\∀p∈kvs,∃xs,H3 p.2.1=some (.tup xs))
  {none,none,none,rfl,sL,aa8,aP _,[],Gg hd2,rfl,ar _,λp hp=>(by cases hp)} (λi Z H3 _ ⟨_,_,_,_,sm,_⟩=>iQ hl sm) ?_ ?_}
 ·rintro i x Z H3 D1 hx ⟨x1,x2,x3,rfl,s3,aa7,_,kvs,ha,ek,lk,ic⟩ nr _;obtain⟨y,hy,hp⟩:=Paired.at' rp hx;obtain⟨p,g,rfl,hp,hg⟩:=Ju hp (dw.same s3);have bJ:i<m.length:=(ax.mp hy).1;obtain⟨g1,g2⟩:=gm y (aH hy);refine{p,_,rfl,hp,rfl,_,_,rfl,_,_,rfl,rfl,?_};refine{_,rfl,_,rfl,_,rfl,t,pd,g,ts,us,y.1,rfl,ht.imp (λz=>iQ z s3) (λz=>ip z s3),aa7,nd,hg,g1,lt,lu,λr H4 s4 Wq wA=>?_};have RE:gn P w K H4 d kvs:=by obtain⟨u,hu⟩:=ha.some;exact ha.tp (dw.same s4) (by rw[hu,s4 _ _ hu])
  have hk:jA K H4 (fR (AskP.image us y.1 ts)) r:=yU (bF.of wA) (GA g2 st);refine{_,rfl,d,kvs,rfl,RE,_,rfl,r,kvs,_,rfl,RE,hk,?_};rw[YV ek];refine{_,rfl,_,_,rfl,rfl,_,rfl,_,rfl,d,r,kvs,_,rfl,rfl,RE,hk,by lia,?_};refine nr _ _ {_,_,_,rfl,λb o e=>?_,?_,bJ,_,RE.put hk,?_,?_,λp hp=>?_}
  ·rw[aE (ba e M6)];exact s4 _ _ (s3 _ _ e)
  ·rw[aE pdd];exact s4 _ _ aa7
  ·rw[XU AskP.rQ ek,bg,hy];unfold AskP.narrowed;rw[cL,o6];rfl
  ·exact aD vg ∅
  ·have ne:∀{b:Addr}{xs:Aao},H4 b=some (.tup xs)->b≠d:=λ{b xs} e z=>RE.qD xs (.inl (by rw[<-z];exact e));rcases JP hp with⟨c,hc,_,e2⟩|⟨_,e2⟩
   ·obtain⟨xs,e⟩:=ic c hc;exact{xs,by rw[e2,aE (ne (s4 _ _ e))];exact s4 _ _ e}
   ·exact{_,by rw[e2,aE (ne wA)];exact wA}
 ·rintro Z H3 ⟨x1,x2,x3,rfl,s3,_,_,kvs,ha,ek,_,ic⟩;rw[ly,aV]at ek;exact{_,rfl,k d H3 s3 M6 ⟨kvs,ha,ek,ic⟩}
def nv(h:H a=some (.lst l)):iN H a:=λxs q=>by rcases q with q|⟨o,q⟩<;>rw[h]at q<;>cases q
def iE(h:cT K H ys rs)(t:dw H H'):cT K H' ys rs:=h.keep λa xs q=>pb q t
def wu{ts:Aah}(m:z∈ts):ts[ts.idxOf z]?=some z/\∀n,n<ts.idxOf z->ts[n]?≠some z:=by have li:=cV m;refine{by rw[au li,kN],λn hn q=>?_};obtain⟨ln,en⟩:=ax.mp q;have:=xn (p:=(·==z)) (xs:=ts) hn;rw[en]at this;simp at this
def KW{z:Str}(m:z∈ts)(le:rs.length=ts.length):rs[ts.idxOf z]?=some (AskP.atT rs ts z):=by have li:=cV m;unfold AskP.atT;rw[cq,au ∅];rfl
structure oF(P:Program)(w:World)(K:Frag)(H0 H:Hp)(d:Addr)(kvs:List (-53))(f:Aah->Aab):Prop where
 at_:gn P w K H d kvs
 no:∀zs,valN kvs (fR zs)=none->f zs=[]
 vals:∀zs v,valN kvs (fR zs)=some v->∃l ys,v=.ref l/\H0 l=none/\H l=some (-38)/\cT K H ys (f zs)
 inj:∀zs LA l,valN kvs (fR zs)=some (.ref l)->valN kvs (fR LA)=some (.ref l)->zs=LA
def oF.same(x:oF P w K H0 H d kvs f)(s:bq H H'):oF P w K H0 H' d kvs f:=by obtain⟨u,hu⟩:=x.at_.some;refine{x.at_.tp (dw.same s) (by rw[hu,s _ _ hu]),x.no,λzs v h=>?_,x.inj};obtain⟨l,ys,h1,h2,h3,h4⟩:=x.vals zs v h;exact{l,ys,h1,h2,s _ _ h3,cM h4 s}
def oF.aaz(x:oF P w K H0 H d kvs f)(hk:jA K H (fR key) b)(hn:valN kvs (fR key)=none)(h0:H0 l0=none)(hl:H l0=some (.lst []))(hd:H0 d=none)
  (fr:∀zs,valN kvs (fR zs)≠some (.ref l0)):oF P w K H0 (upd H d (.ext (DN P w d (putN kvs (fR key) b (.ref l0))))) d (putN kvs (fR key) b (.ref l0)) f:=by
 have nt:=x.at_.qD;have ne:∀{l:Addr}{ys:Aao},H l=some (-38)->l≠d:=λ{l ys} h e=>by rw[e]at h;rcases x.at_.1 with q|⟨_,q⟩<;>rw[h]at q<;>cases q
 refine{x.at_.put hk,λzs h=>?_,λzs v h=>?_,λzs LA l h h'=>?_}
 ·rw[pW]at h;split at h
  ·cases h
  ·exact x.no zs h
 ·rw[pW]at h;split at h
  ·next c=>
   cases h;refine{l0,[],rfl,h0,by rw[aE (ne hl)];exact hl,?_};rw[x.no zs (by rw[c];exact hn)];exact .nil
  ·obtain⟨l,ys,h1,h2,h3,h4⟩:=x.vals zs v h;exact{l,ys,h1,h2,by rw[aE (ne h3)];exact h3,iE h4 (dw.upd nt)}
 ·rw[pW]at h h';split at h
  ·next c=>
   cases h;split at h'
   ·next c'=>exact xM (c.trans c'.symm)
   ·exact absurd h' (fr LA)
  ·split at h'
   ·cases h';exact absurd h (fr zs)
   ·exact x.inj zs LA l h h'
def oF.push(x:oF P w K H0 H d kvs f)(hv:valN kvs (fR key)=some (.ref l))(hl:H l=some (-38))(hp:bF K H p (row.map V.str)):
  oF P w K H0 (upd H l (.lst (ys++[.ref p]))) d kvs (λzs=>if zs=key then f zs++[row]else f zs):=by
 have t:dw H (upd H l (.lst (ys++[.ref p]))):=dw.upd (nv hl);have dl:d≠l:=λe=>by rw[<-e]at hl;rcases x.at_.1 with q|⟨_,q⟩<;>rw[hl]at q<;>cases q
 refine{x.at_.tp t (aE dl),λzs h=>?_,λzs v h=>?_,x.inj}
 ·have c:¬zs=key:=λc=>by rw[c,hv]at h;cases h
  show(if zs=key then _ else _)=_;rw[az c];exact x.no zs h
 ·obtain⟨l',jC,rfl,h2,h3,h4⟩:=x.vals zs v h;by_cases c:zs=key
  ·have e:l'=l:=by rw[c,hv]at h;cases h;rfl
   subst e;rw[hl]at h3;cases h3;refine{l',_,rfl,h2,aw,?_};show cT K _ _ (if zs=key then _ else _);rw[aC c];exact(iE h4 t).snoc {p,rfl,pb hp t}
  ·have e:l'≠l:=λe=>c (x.inj zs key l (by rw[h,e]) hv);refine{l',jC,rfl,h2,by rw[aE e];exact h3,?_};show cT K _ _ (if zs=key then _ else _);rw[az c];exact iE h4 t
def iz(P:Program)(w:World)(K:Frag)(H:Hp)(av:Aaj)(d:Addr)(f:Aah->Aab):Prop:=d∉av/\∃kvs,gn P w K H d kvs/\∀zs,(valN kvs (fR zs)=none/\f zs=[])\/∃l ys,valN kvs (fR zs)=some (.ref l)/\l∉av/\H l=some (-38)/\cT K H ys (f zs)
def iz.fr(x:iz P w K H av d f)(s:∀b u,b∉av->H b=some u->H' b=some u)(t:dw H H'):iz P w K H' av d f:=by obtain⟨h0,kvs,h1,h2⟩:=x;obtain⟨u,hu⟩:=h1.some;exact{h0,kvs,h1.tp t (by rw[hu,s _ _ h0 hu]),λzs=>(h2 zs).imp id λ⟨l,ys,a,n,b,c⟩=>{l,ys,a,n,s _ _ n b,iE c t}}
def iz.same(x:iz P w K H av d f)(s:bq H H'):iz P w K H' av d f:=x.fr (λb u _ e=>s _ _ e) (dw.same s)
def iz.more(x:iz P w K H av d f)(h:H e=none):iz P w K H (e::av) d f:=by
 obtain⟨h0,kvs,h1,h2⟩:=x;obtain⟨u,hu⟩:=h1.some;have nm:∀{b:Addr}{u:HO},H b=some u->b∉av->b∉e::av:=λ{b u} hb n z=>by
  rcases aG.mp z with z|z
  ·rw[z,h]at hb;cases hb
  ·exact n z
 exact{nm hu h0,kvs,h1,λzs=>(h2 zs).imp id λ⟨l,ys,a,n,b,c⟩=>{l,ys,a,nm b n,b,c}}
def iz.less(x:iz P w K H av d f)(h:∀b∈av',b∈av):iz P w K H av' d f:=by obtain⟨h0,kvs,h1,h2⟩:=x;exact{λz=>h0 (h _ z),kvs,h1,λzs=>(h2 zs).imp id λ⟨l,ys,a,n,b,c⟩=>{l,ys,a,λz=>n (h _ z),b,c}}
def oF.view(x:oF P w K H0 H d kvs f)(h0:H0 d=none)(ha:∀b∈av,H0 b≠none):iz P w K H av d f:={λz=>ha _ z h0,kvs,x.at_,λzs=>by
 cases e:valN kvs (fR zs)with
 |none=>exact .inl {rfl,x.no zs e}
 |some v=>
  obtain⟨l,ys,rfl,h2,h3,h4⟩:=x.vals zs v e;exact .inr {l,ys,rfl,λz=>ha _ z h2,h3,h4}}
inductive Gx(P:Program)(w:World)(K:Frag)(vs:Aao)(H:Hp)(Q:VK)(_x3:XK):Prop
 |mk (l t a b:Addr) (ys:Aao) (rows:Aab) (ts known fresh:Aah) (_:vs=[.ref l,.ref t,.ref a,.ref b]) (_:bo K H l ys) (_:cT K H ys rows) (_:H t=some (.tup (ts.map V.str))) (_:bo K H a (known.map V.str)) (_:bo K H b (fresh.map V.str)) (_:rows.length<=100) (_:(∀r∈rows,r.length<=100/\tE r)) (_:ts.length<=100) (_:known.length<=100) (_:fresh.length<=100) (_:(∀z∈known,z∈ts)) (_:(∀z∈fresh,z∈ts)) (_:∀(d:Addr)(H':Hp),bq H H'->H d=none->(∀av:Aaj,(∀b∈av,H b≠none)->iz P w K H' av d (AskP.tails rows ts known fresh))->Q (.ref d) H')
structure Dt6(P:Program)(w:World)(K:Frag)(mg:Aad)(base:Heap):Prop where
 is_image:dP P w K mg base 1 "is_image" ["row","terms"] (Gy K)
def PU{rs ts ks:Aah}(h:tE rs)(le:rs.length=ts.length)(hk:∀z∈ks,z∈ts):tE (ks.map (AskP.atT rs ts)):=λz hz=>by obtain⟨t,ht,rfl⟩:=aR.mp hz;exact h _ (aH (KW (hk t ht) le))
def NF{rows:Aab}{ts known fresh r:Aah}(h:rows[i]?=some r)(im:AskP.mU r ts=true):AskP.tails (rows.take (i+1)) ts known fresh=λzs=>if zs=known.map (AskP.atT r ts)then AskP.tails (rows.take i) ts known fresh zs++[fresh.map (AskP.atT r ts)]else AskP.tails (rows.take i) ts known fresh zs:=by
 funext zs;unfold AskP.tails;rw[bg,h,cL,fb,aJ];by_cases c:zs=known.map (AskP.atT r ts)
 ·rw[aC c,List.filter_cons_of_pos (by rw[im,c];simp)];rfl
 ·rw[az c,v9 (by rw[im,gO];exactλq=>c (bj q).symm)];simp
def NG{rows:Aab}{ts known fresh r:Aah}(h:rows[i]?=some r)(im:AskP.mU r ts=false):AskP.tails (rows.take (i+1)) ts known fresh=AskP.tails (rows.take i) ts known fresh:=by funext zs;unfold AskP.tails;rw[bg,h,cL,fb,aJ,v9 (by rw[im];simp)];simp
def mQ:cD ["rows","terms","known","fresh","tails","row","key"] ["rows","terms","known","fresh"] (defScope rH):=jD (-3)
def EI(F:fq K "tails_by_key" "tails_by_key" rH f fd)(T:Txt K mg)(D:Dt6 P w K mg base):dk P w K mg base fU 3 f fd ["rows","terms","known","fresh"] (Gx P w K):=by
 refine F.ok mQ (λ_ _ _ _ h=>by cases h;subst_vars;rfl) (-4);obtain⟨l,t,a,b,ys,rows,ts,known,fresh,rfl,hl,rp,ht,ha,hb,lr,gr,lt,lk,lf,kt,ft,k⟩:=h;have hu:=jL hr;have hN:=yY hr;refine{_,(aN (fJ 4 mQ jy) (aN (fQ bS rfl (fX (pv 0)) (ot (i:=5) mQ.nd rfl (Or.inr rfl)) (a9 (gJ (AJ (cl D.is_image hr (dR (pv 5) (pv 1)))) (aN (fJ 6 mQ (dF fD rfl T.kC (-3) (cz (g8 rfl (cU (fs:=["row","terms"]) (fr:=[5,1])) (fX (pv 2)) (λ_ _ _ _=>(dq (uS (K:=K)) (pv 1) (Jp (K:=K) nU nQ nO yS (pv 2) (cz (pv 0))) (-15))))))) (a9 (lB (ox de gc f9 qe (N5 hN (pv 4) (pv 6) (eZ gM) ⟨rfl,rfl,rfl,rfl⟩) (cz (dF fD rfl T.kC (-3) (cz (g8 rfl (cU (fs:=["row","terms"]) (fr:=[5,1])) (fX (pv 3)) (λ_ _ _ _=>(dq (uS (K:=K)) (pv 1) (Jp (K:=K) nU nQ nO yS (pv 2) (cz (pv 0))) (-15))))))))))) eG))) (a9 (cN (pv 4))))),?_}
 have ly:ys.length=rows.length:=rp.length;intro d gE;have s1:bq H (upd H d (.dK [])):=aM gE _;refine{_,rfl,l,rfl,{_,iQ hl s1},nG (K:=K) (a:=l) (xs:=ys)
  (λi Z H2=>∃(x1 x2:Aap),Z=[some (.ref l),some (.ref t),some (-51),some (.ref b),some (.ref d),x1,x2]/\bq H H2/\i<=rows.length/\∃kvs,oF P w K H H2 d kvs (AskP.tails (rows.take i) ts known fresh)/\kvs.length<=i)
  {none,none,rfl,s1,aP _,[],{Gg aw,λzs _=>rfl,λzs v h=>(by cases h),λzs LA l h=>(by cases h)},ar _} (λi Z H2 _ ⟨_,_,_,sm,_⟩=>iQ hl sm) ?_ ?_}
 ·rintro i x Z H2 D1 hx ⟨x1,x2,rfl,s2,_,kvs,tI,lkv⟩ nr _;obtain⟨r,EZ,ra,rfl,Wn⟩:=Paired.at' (cM rp s2) hx;have bJ:i<rows.length:=(ax.mp EZ).1;obtain⟨g1,g2⟩:=gr r (aH EZ);refine{_,rfl,_,rfl,ra,t,r,ts,rfl,Wn,s2 _ _ ht,g1,lt,λH3 s3=>{_,rfl,?_}};refine fm (-61) (-61)
  ·have le:r.length=ts.length:=by unfold AskP.mU at c;rw[bB]at c;exact bj c.1
   have zJ:=s2.trans s3;have Uj:=ip Wn s3;have tI3:=tI.same s3;refine{_,rfl,a,rfl,{_,iQ ha zJ},jg (K:=K) (a:=a) (xs:=known.map V.str) (λj zs H4=>H4=H3/\j<=known.length/\zs=((known.take j).map (AskP.atT r ts)).map V.str) (-27) {rfl,aP _,rfl} ?_ ?_ ?_}
   ·rintro j zs H4 hj ⟨rfl,_,rfl⟩;refine{iQ ha zJ,?_};rw[ak,ak,aT];lia
   ·rintro j x zs H4 N hc ⟨rfl,hj,rfl⟩ vE;obtain⟨z,hz,rfl⟩:=js hc;have sW:j<known.length:=(ax.mp hz).1;have m:=kt z (aH hz);refine gu ?_;refine{_,rfl,_,rfl,.inr (.inl {rfl,.inl {_,zJ _ _ ht}}),_,rfl,t,ts,z,ts.idxOf z,rfl,rfl,bF.of (zJ _ _ ht),(wu m).1,(wu m).2,ra,_,_,V.str (AskP.atT r ts z),rfl,rfl,Uj,kD (by rw[aK,KW m le];rfl),vE _ _ {rfl,sW,?_}};rw[bg,hz,aJ,aJ];rfl
   rintro zs H4 ⟨rfl,_,rfl⟩ q hq;rw[ak,aV];refine{q,_,rfl,.inl {bo.of aw,λkp MW=>?_}};have s5:bq H4 (upd (upd H4 q (.lst (-39))) kp (.tup (-39))):=(aM hq _).trans (aM MW _);have abi:upd (upd H4 q (.lst (-39))) kp (.tup (-39)) kp=some (.tup (-39)):=aw;generalize (upd (upd H4 q (.lst (-39))) kp (.tup (-39)))=H5 at s5 abi⊢;have ZI:=tI3.same s5;refine{_,rfl,d,kvs,rfl,ZI.at_,_,rfl,(-18),λl0 mz=>?_};have s6:bq H5 (upd H5 l0 (.lst [])):=aM mz _;have rB:upd H5 l0 (.lst []) l0=some (.lst []):=aw;have AF:=zJ.trans (s5.trans s6);have RF:H l0=none:=(zJ.trans s5).free mz;have fr6:∀zs,valN kvs (fR zs)≠some (.ref l0):=λzs h=>by obtain⟨l',_,e,_,h3,_⟩:=ZI.vals zs _ h;cases e;rw[mz]at h3;cases h3
   have LX:=ZI.same s6;generalize (upd H5 l0 (.lst []))=H6 at s6 rB AF LX⊢;have MY:jA K H6 (fR (known.map (AskP.atT r ts))) kp:=yU (bF.of (s6 _ _ abi)) (PU g2 le kt);revert H6;refine acP (p:=λv H7=>∃QQ,oF P w K H H7 d QQ (AskP.tails (rows.take i) ts known fresh)/\QQ.length<=i+1/\bq H H7/\bF K H7 ra (r.map V.str)/\valN QQ (fR (known.map (AskP.atT r ts)))=some v) (λR H6 s6 rB AF LX MY=>{kp,kvs,_,rfl,LX.at_,MY,by lia,λv hv=>R v H6 {kvs,LX,by lia,AF,ip Uj (s5.trans s6),hv},λhv=>R (.ref l0) _ {_,LX.aaz MY hv RF rB gE fr6,aD vg ∅,λb o e=>by rw[aE (ba e gE)];exact AF _ _ e,pb (ip Uj (s5.trans s6)) (dw.upd LX.at_.qD),by rw[pW,aC rfl]}}) λv H7 hp=>?_
   obtain⟨QQ,I7,lk7,P4,Ui,hv7⟩:=hp;obtain⟨ll,lys,e7,h07,zV,MS⟩:=I7.vals _ _ hv7;cases e7;have lly:lys.length<=100:=by rw[MS.length];unfold AskP.tails;rw[ak];refine aD (cj _ _) ?_;rw[aT];lia
   refine{.inl {rfl,_,bo.of zV},?_};refine{_,rfl,b,rfl,{_,iQ hb P4},jg (K:=K) (a:=b) (xs:=fresh.map V.str) (λj zs H8=>H8=H7/\j<=fresh.length/\zs=((fresh.take j).map (AskP.atT r ts)).map V.str) (-27) {rfl,aP _,rfl} ?_ ?_ ?_}
   ·rintro j zs H8 hj ⟨rfl,_,rfl⟩;refine{iQ hb P4,?_};rw[ak,ak,aT];lia
   ·rintro j x zs H8 N hc ⟨rfl,hj,rfl⟩ vE;obtain⟨z,hz,rfl⟩:=js hc;have sW:j<fresh.length:=(ax.mp hz).1;have m:=ft z (aH hz);refine gu ?_;refine{_,rfl,_,rfl,.inr (.inl {rfl,.inl {_,P4 _ _ ht}}),_,rfl,t,ts,z,ts.idxOf z,rfl,rfl,bF.of (P4 _ _ ht),(wu m).1,(wu m).2,ra,_,_,V.str (AskP.atT r ts z),rfl,rfl,Ui,kD (by rw[aK,KW m le];rfl),vE _ _ {rfl,sW,?_}};rw[bg,hz,aJ,aJ];rfl
   rintro zs H8 ⟨rfl,_,rfl⟩ q2 hq2;rw[ak,aV];refine{q2,_,rfl,.inl {bo.of aw,λtp C1=>?_}};have s8:=(aM hq2 (.lst ((fresh.map (AskP.atT r ts)).map V.str))).trans (aM C1 (.tup ((fresh.map (AskP.atT r ts)).map V.str)));have I9:=(I7.same s8).push (p:=tp) (row:=fresh.map (AskP.atT r ts)) hv7 (s8 _ _ zV) (bF.of aw);refine{_,lys,_,rfl,rfl,s8 _ _ zV,bC ∅,?_};refine nr _ _ {_,_,rfl,λb o e=>?_,bJ,QQ,?_,lk7}
   ·rw[aE (ba e h07)];exact s8 _ _ (P4 _ _ e)
   ·rw[NF EZ c];exact I9
  ·refine nr _ _ {_,_,rfl,s2.trans s3,bJ,kvs,?_,by lia};rw[NG EZ (by simpa using c)];exact tI.same s3
 ·rintro Z H2 ⟨x1,x2,rfl,s2,_,kvs,tI,_⟩;rw[ly,aV]at tI;exact{_,rfl,k d H2 s2 gE λav ha=>tI.view gE ha}
theorem wb:∀{more kvs:List (Key×V)},(fh (iO kvs more) k).isSome=true↔(fh kvs k).isSome=true\/k∈more.map (·.1)
 |[],kvs=>{.inl,λh=>h.elim id λz=>by cases z}
 |x::more,kvs=>by
  show(fh (iO (putK kvs x.1 x.2) more) k).isSome=true↔_;rw[wb (more:=more) (kvs:=putK kvs x.1 x.2),Sw,aU,aG];by_cases c:k=x.1
  ·rw[aC c];exact{λ_=>.inr (.inl c),λ_=>.inl rfl}
  ·rw[az c];exact{λh=>h.imp id .inr,λh=>h.imp id λz=>z.resolve_left c}
def JY{zs:Aah}:(Sum.inr z:Key)∈((zs.map (Sum.inr:Str->Key)).zip (zs.map V.str)).map (·.1)↔z∈zs:=by rw[List.map_fst_zip (-9),aR];exact{λ⟨y,h,e⟩=>by cases e;exact h,λh=>⟨z,h,rfl⟩}
def MG{zs:Aah}:(zs.map (Sum.inr:Str->Key)).map kV=zs.map V.str:=by rw[bW];rfl
def abM(H:Hp)(d:Addr)(p:Str->Prop):Prop:=∃kvs,H d=some (.dK kvs)/\∀z,(fh kvs (Sum.inr z:Key)).isSome=true↔p z
def sE(h:mF H v a)(s:bq H H'):mF H' v a:=by obtain⟨p,t,e,h1,h2⟩:=h;exact{p,t,e,s _ _ h1,s _ _ h2}
def Bx(h:fg H vs as)(s:bq H H'):fg H' vs as:=by
 induction h with
 |nil=>exact .nil
 |cons h _ ih=>exact .cons (sE h s) ih
inductive ID(K:Frag)(vs:Aao)(H:Hp)(Q:VK)(_x3:XK):Prop
 |mk (h l:Addr) (hz:Aah) (ys:Aao) (ats:Aaa) (_:vs=[.ref h,.ref l]) (_:bF K H h (hz.map V.str)) (_:bo K H l ys) (_:fg H ys ats) (_:hz.length<=100) (_:ats.length<=100) (_:(∀a∈ats,a.2.length<=100)) (_:∀(d:Addr)(H':Hp),bq H H'->H d=none->abM H' d (λz=>z∈hz\/∃a∈ats,z∈a.2)->Q (.ref d) H')
def mR:cD ["head","atoms","needed","name","terms"] ["head","atoms"] (defScope rJ):=jD (-3)
def EJ(F:fq K "needed_terms" "needed_terms" rJ f fd)(T:Txt K mg):dk P w K mg base fU 1 f fd ["head","atoms"] (ID K):=by
 refine F.ok mR (λ_ _ _ _ h=>by cases h;subst_vars;rfl) (-4);obtain⟨h,l,hz,ys,ats,rfl,hh,hl,rp,lh,la,lt,k⟩:=h;have hu:=jL hr;refine{_,(aN (fJ 2 mR (Jn rfl T.AX rfl T.EN hr.hd (dR (pv 0) (pv 0)))) (aN (fQ bS rfl (fX (pv 1)) (iY rfl (cA (ir 3 mR) (cA (ir 4 mR) g7))) (a9 (lB (ox iM vN PySem.F.type_dict_update QC (pv 2) (cz (Jn rfl T.AX rfl T.EN hr.hd (dR (pv 4) (pv 4)))))))) (a9 (cN (pv 2))))),?_}
 have ly:ys.length=ats.length:=bw rp;refine{_,rfl,_,rfl,h,h,hz.map Sum.inr,hz.map V.str,rfl,by rw[MG];exact hh,hh,by rw[ak,ak],λd gE=>?_};have s1:=aM gE (.dK (iO [] ((hz.map (Sum.inr:Str->Key)).zip (hz.map V.str))));refine{_,rfl,l,rfl,{_,iQ hl s1},nG (K:=K) (a:=l) (xs:=ys)
  (λi Z H2=>∃(x1 x2:Aap),Z=[some (.ref h),some (.ref l),some (.ref d),x1,x2]/\bq H H2/\i<=ats.length/\∃kvs,H2 d=some (.dK kvs)/\kvs.length<=100+100*i/\∀z,(fh kvs (Sum.inr z:Key)).isSome=true↔(z∈hz\/∃a∈ats.take i,z∈a.2))
  {none,none,rfl,s1,aP _,_,aw,?_,?_} (λi Z H2 _ ⟨_,_,_,sm,_⟩=>iQ hl sm) ?_ ?_}
 ·refine aD (mx _ _) ?_;rw[q9,ak,ak,d5];lia
 ·intro z;rw[wb,JY];exact{λh=>h.elim (λz=>by cases z) .inl,λh=>h.elim .inr λ⟨a,ha,_⟩=>by cases ha}
 ·rintro i x Z H2 D1 hx ⟨x1,x2,rfl,s2,_,kvs,hd2,lk,hv⟩ nr _;obtain⟨a,ha,p,t,rfl,hp,ht⟩:=Paired.at rp hx;have bJ:i<ats.length:=(ax.mp ha).1;have l1:=lt a (aH ha);refine{p,_,rfl,bF.of (s2 _ _ hp),rfl,_,_,rfl,_,_,rfl,rfl,?_};have zR:bF K H2 t (a.2.map V.str):=bF.of (s2 _ _ ht);refine{_,rfl,.inr (.inr (.inl {rfl,.inl ⟨_,hd2⟩})),_,rfl,_,rfl,t,t,a.2.map Sum.inr,a.2.map V.str,rfl,by rw[MG];exact zR,zR,by rw[ak,ak],λe wG=>?_};have s3:=aM wG (.dK (-54));have lm:(-54).length<=100:=by refine aD (mx _ _) ?_;rw[q9,ak,ak,d5];lia
  refine{d,e,kvs,_,rfl,rfl,ba hd2 wG,s3 _ _ hd2,aw,bu (eJ (Nat.add_le_add lk lm) ?_),?_}
  ·exact eJ (show 100+100*i+100<=20000 by lia) (-8)
  refine nr _ _ {_,_,rfl,λb o q=>?_,bJ,_,aw,?_,λz=>?_}
  ·rw[aE (ba q gE)];exact s3 _ _ (s2 _ _ q)
  ·refine aD (mx _ _) ?_;lia
  ·rw[wb,hv,bg,ha,cL];have e1:(Sum.inr z:Key)∈(-54).map (·.1)↔z∈a.2:=by
    rw[<-JY (zs:=a.2)];have:=wb (k:=(Sum.inr z:Key)) (more:=(a.2.map (Sum.inr:Str->Key)).zip (a.2.map V.str)) (kvs:=[]);refine Iff.trans {λh=>?_,λh=>?_} (this.trans {λh=>h.elim (λz=>by cases z) id,.inr})
    ·cases q:fh (-54) (Sum.inr z:Key)with
     |none=>exact absurd h (Sx q)
     |some _=>rfl
    ·obtain⟨v,q⟩:=jY.mp h;exact Xq q
   rw[e1];constructor
   ·rintro((h|⟨b,hb,h⟩)|h)
    ·exact .inl h
    ·exact .inr {b,gz _ hb,h}
    ·exact .inr {a,cc _ aA,h}
   ·rintro(h|⟨b,hb,h⟩)
    ·exact .inl (.inl h)
    ·rcases bf.mp hb with hb|hb
     ·exact .inl (.inr ⟨b,hb,h⟩)
     ·cases ay.mp hb;exact .inr h
 ·rintro Z H2 ⟨x1,x2,rfl,s2,_,kvs,hd2,_,hv⟩;rw[ly,aV]at hv;exact{_,rfl,k d H2 s2 gE ⟨kvs,hd2,hv⟩}
variable{C:Addr}
structure Ec(K:Frag)(C:Addr):Prop where
 c:BP K C
 tables:pC K C "tables"
 kept:pC K C "kept"
 maps:pC K C "maps"
 tails:pC K C "tails"
def hG(kept ts:Aah):Aah:=(fM ts).filter λt=>decide (t∉kept)
def jV(kept ts:Aah):Aah:=ts.filter λt=>decide (t∉hG kept ts)
def vi(a:Str×Aah)(known:Aah):NK:=.tup [.tup [.key (.inr a.1),fR a.2],fR known]
def Yi(h:vi a k=vi a' k'):a=a'/\k=k':=by unfold vi at h;simp only[NK.tup.injEq,List.cons.injEq,NK.key.injEq,Sum.inr.injEq,and_true]at h;obtain⟨⟨h1,h2⟩,h3⟩:=h;exact{Eb h1 (xM h2),xM h3}
def T6(hq:bF K H q [.ref p,.ref u])(hp:bF K H p [.str a.1,.ref t])(ht:bF K H t (a.2.map V.str))(hu:bF K H u (known.map V.str))(s1:PyData.strOk a.1=true)(s2:tE a.2)(s3:tE known):jA K H (vi a known) q:=by
 refine{?_,pF.good (n:=3) ?_ (-8)}
 ·unfold vi;rw[NV];refine{q,_,rfl,hq,?_};rw[pE];refine{_,_,rfl,?_,?_}
  ·rw[NV];refine{p,_,rfl,hp,?_};rw[pE];refine{_,_,rfl,?_,?_}
   ·rw[NV];rfl
   ·rw[pE];refine{_,_,rfl,JE ht,?_};rw[pE]
  ·rw[pE];refine{_,_,rfl,JE hu,?_};rw[pE]
 ·have up:∀{n m:Nat}{k:NK},pF n k->n<=m->pF m k:=λg l=>{g.1,aD g.2.1 l,aD g.2.2 l};refine DM λk hk=>?_;rcases aG.mp hk with rfl|hk
  ·refine DM λk hk=>?_;rcases aG.mp hk with rfl|hk
   ·exact good_str s1
   ·cases ay.mp hk;exact DO s2
  ·cases ay.mp hk;exact up (DO s3) (-8)
abbrev Vl(fs:List En)(a:Str×Aah)(known:Aah):Aah->Aab:=AskP.tails (eX (cP fs a.1)) a.2 known ((fM a.2).filter λt=>decide (t∉known))
structure jw(P:Program)(w:World)(K:Frag)(H:Hp)(td:Addr)(av:Aaj)(fs:List En)(kvs:List (-53)):Prop where
 at_:gn P w K H td kvs
 all:∀a known v,valN kvs (vi a known)=some v->∃d,v=.ref d/\iz P w K H av d (Vl fs a known)
def Pl(P:Program)(w:World)(K:Frag)(H:Hp)(td:Addr)(av:Aaj)(fs:List En)(n:Nat):Prop:=∃kvs,jw P w K H td av fs kvs/\kvs.length<=n
def SB(d:Addr)(H H':Hp):Prop:=∀b u,b≠d->H b=some u->H' b=some u
def SB.tp(s:SB d H H')(h:iN H d):dw H H':=λb xs q=>by
 have hb:b≠d:=λe=>h xs (e▸q);rcases q with q|⟨o,q⟩
 ·exact .inl (s _ _ hb q)
 ·exact .inr {o,s _ _ hb q}
def SB.same(s:bq H H'):SB d H H':=λb u _ e=>s _ _ e
def SB.trans(a:SB d H H1)(b:SB d H1 H2):SB d H H2:=λx u n e=>b x u n (a x u n e)
def jw.fr(x:jw P w K H td av fs kvs)(s:∀b u,b∉av->H b=some u->H' b=some u)(t:dw H H')(e:H' td=H td):jw P w K H' td av fs kvs:=
 {x.at_.tp t e,λa known v h=>by obtain⟨d,e1,e3⟩:=x.all a known v h;exact{d,e1,e3.fr s t}}
def jw.same(x:jw P w K H td av fs kvs)(s:bq H H'):jw P w K H' td av fs kvs:=by obtain⟨u,hu⟩:=x.at_.some;exact x.fr (λb u _ e=>s _ _ e) (dw.same s) (by rw[hu,s _ _ hu])
def Pl.same(x:Pl P w K H td av fs n)(s:bq H H'):Pl P w K H' td av fs n:=by obtain⟨kvs,h1,h2⟩:=x;exact{kvs,h1.same s,h2}
def _root_.L2.gn.uG(h:gn P w K H d kvs)(l:Aao):H d≠some (.lst l):=λe=>by rcases h.1 with q|⟨_,q⟩<;>rw[e]at q<;>cases q
def jw.add(x:jw P w K H td av fs kvs)(ht:td∈av)(hk:jA K H (vi a known) q)(hd:iz P w K H av d (Vl fs a known)):
  jw P w K (upd H td (.ext (DN P w td (putN kvs (vi a known) q (.ref d))))) td av fs (putN kvs (vi a known) q (.ref d)):=by
 have s:∀b u,b∉av->H b=some u->upd H td (.ext (DN P w td (putN kvs (vi a known) q (.ref d)))) b=some u:=λb u n e=>by rw[aE (λz=>n (by rw[z];exact ht))];exact e
 have t:dw H (upd H td (.ext (DN P w td (putN kvs (vi a known) q (.ref d))))):=dw.upd x.at_.qD;refine{x.at_.put hk,λa' aaH v h=>?_};rw[pW]at h;split at h
 ·next c=>
  cases h;obtain⟨rfl,rfl⟩:=Yi c;exact{d,rfl,hd.fr s t}
 ·obtain⟨d',e1,e3⟩:=x.all a' aaH v h;exact{d',e1,e3.fr s t}
structure iK(P:Program)(w:World)(K:Frag)(C:Addr)(H:Hp)(me dx tb kl md td:Addr)(ex:Aaj)(fs:List En)(kept:Aah)(maps:Cm)(n:Nat):Prop where
 ins:H me=some (.ins C dx [("tables",.ref tb),("kept",.ref kl),("maps",.ref md),("tails",.ref td)])
 tab:gW K H tb fs
 xR:H kl=some (.lst (kept.map V.str))
 wo:RowC P w K H md maps
 As:Pl P w K H td (td::md::ex) fs n
 nm:md≠td
 nt:tb≠td
 ke:kl∉ex
def iK.same(x:iK P w K C H self dx tb kl md td ex fs kept maps n)(s:bq H H'):iK P w K C H' self dx tb kl md td ex fs kept maps n:=
 {s _ _ x.ins,x.tab.same s,s _ _ x.xR,x.wo.same s,x.As.same s,x.nm,x.nt,x.ke}
def FinA(a:Str×Aah):Prop:=a.2.length<=4/\PyData.strOk a.1=true/\tE a.2/\∀z∈a.2,z.length<=1000
def acK(a:Str×Aah):cQ [a]=a.2:=by show a.2++[]=a.2;exact b6 _
inductive Dk(P:Program)(w:World)(K:Frag)(C:Addr)(vs:Aao)(H:Hp)(Q:VK)(_x3:XK):Prop
 |mk (self at_ dx tb kl md td:Addr) (ex:Aaj) (fs:List En) (kept:Aah) (maps:Cm) (n:Nat) (a:Str×Aah) (_:vs=[.ref self,.ref at_]) (_:iK P w K C H self dx tb kl md td ex fs kept maps n) (_:mF H (.ref at_) a) (_:FinA a) (_:∀(l:Addr)(H':Hp),bq H H'->H l=none->H' l=some (.lst ((hG kept a.2).map V.str))->Q (.ref l) H')
structure Df6(P:Program)(w:World)(K:Frag)(mg:Aad)(base:Heap):Prop where
 unknowns_of:dP P w K mg base 3 "unknowns_of" ["question"] PJ
def DG(l:Aah):(fM l).length<=l.length:=FY l
def Ad:cD ["self","atom"] ["self","atom"] (defScope ni):=jD (-3)
def TK(F:fq K "fresh_unknowns" "Asking.fresh_unknowns" ni f fd)(T:Txt K mg)(O:Ec K C)(D:Df6 P w K mg base):dk P w K mg base fU 4 f fd ["self","atom"] (Dk P w K C):=by
 refine F.ok Ad (λ_ _ _ _ h=>by cases h;subst_vars;rfl) (-4);obtain⟨self,at_,dx,tb,kl,md,td,ex,fs,kept,maps,n,a,rfl,st,ha,fa,k⟩:=h;refine{_,(a9 (cN (qb rfl (cU (fs:=["self"]) (fr:=[0])) (fX (cl D.unknowns_of hr (cz (iZ (dR (iZ gM) (iZ (cz (pv 1)))))))) (λ_ _ _ _=>(dh (tN (K:=K)) (pv 0) (X4 (K:=K) (pv 1) rfl) (-58))) (λ_ _ _ _=>(pv 0))))),?_};refine{by show 0<=sizeLine;decide,λe he=>?_};have s1:=aM he (.tup ([]:Aao));have he1:upd H e (.tup []) e=some (.tup []):=aw;generalize (upd H e (.tup []))=H1 at s1 he1⊢;refine{_,rfl,by show 1<=sizeLine;decide,λt ht=>?_};have s2:=aM ht (.tup [V.ref at_]);have zR:upd H1 t (.tup [V.ref at_]) t=some (.tup [V.ref at_]):=aw;generalize (upd H1 t (.tup [V.ref at_]))=H2 at s2 zR⊢;refine{by show 2<=sizeLine;decide,λq hq=>?_};have s3:=aM hq (.tup [V.ref e,V.ref t]);have hq3:upd H2 q (.tup [V.ref e,V.ref t]) q=some (.tup [V.ref e,V.ref t]):=aw;have CJ:=s1.trans (s2.trans s3);generalize (upd H2 q (.tup [V.ref e,V.ref t]))=H3 at s3 hq3 CJ⊢;refine{.ref q,[],[a],rfl,{q,e,t,[.ref at_],rfl,hq3,s3 _ _ (s2 _ _ he1),s3 _ _ zR,.cons (sE ha CJ) .nil},λb hb=>?_,by show 1<=100;decide,λr H4 s4 Wq wA=>?_}
 ·cases ay.mp hb;exact{fa.1,fa.2.2.2}
 rw[acK]at wA;have rj:=CJ.trans s4;have lu:=DG a.2;have l4:=fa.1;refine{r,rfl,{_,bo.of wA},jg (K:=K) (a:=r) (xs:=(fM a.2).map V.str) (λi ys H5=>H5=H4/\i<=(fM a.2).length/\ys=(((fM a.2).take i).filter λt=>decide (t∉kept)).map V.str) (-27) {rfl,aP _,rfl} ?_ ?_ ?_}
 ·rintro i ys H5 hi ⟨rfl,_,rfl⟩;refine{bo.of wA,?_};rw[ak];exact aD (cj _ _) (by rw[aT];lia)
 ·rintro i x ys H5 N hx ⟨rfl,hi,rfl⟩ hN;obtain⟨z,hz,rfl⟩:=js hx;have bJ:i<(fM a.2).length:=(ax.mp hz).1;refine{_,rfl,_,rfl,self,C,dx,_,_,rfl,rj _ _ st.ins,O.c,O.kept,rfl,kl,_,rfl,.inl (bo.of (rj _ _ st.xR)),rfl,Hk _,_,rfl,?_};rw[B5];have en:((fM a.2).take (i+1)).filter (λt=>decide (t∉kept))=((fM a.2).take i).filter (λt=>decide (t∉kept))++if z∈kept then[]else[z]:=by rw[bg,hz,cL,fb];congr 1;by_cases c:z∈kept<;>simp[c]
  by_cases c:z∈kept
  ·refine fm (λq=>by simp[c]at q) (λ_=>hN _ _ {rfl,bJ,?_});rw[en,aC c,b6]
  ·refine fm (λ_=>{_,rfl,hN _ _ {rfl,bJ,?_}}) (λq=>absurd (by simp[c]) q);rw[en,az c,aJ];rfl
 ·rintro ys H5 ⟨rfl,_,rfl⟩ l hl;rw[ak,aV];exact k l _ (rj.trans (aM hl _)) (rj.free hl) aw
def WS(kept ts:Aah):(fM ts).filter (λt=>decide (t∉jV kept ts))=hG kept ts:=by
 refine Cs λt ht=>?_;have h1:t∈ts:=(uN ht).resolve_left λz=>by cases z
 have:t∈jV kept ts↔t∈kept:=by unfold jV hG;rw[bV,iG,bV,iG];exact{λh=>mZ λc=>h.2 ⟨ht,c⟩,λh=>{h1,λz=>z.2 h}}
 simp only[this]
theorem Hn:∀l:Aab,(zc l).length<=l.length
 |[]=>ar _
 |a::r=>by have:=Hn r;unfold zc;split<;>(simp only[bx];lia)
def uz(l:Aab):(eX l).length<=l.length:=by unfold eX;rw[(lT _).length_eq];exact Hn l
def sJ(h:z∈cJ):PyData.strOk z=true:=(Ek h).2.2
def gW.good(x:gW K H p fs)(z:Str):(cP fs z).length<=5/\∀r∈cP fs z,mJ r:=by
 unfold cP;cases q:fs.find? (λe=>decide (e.nm=z))with
 |none=>exact{aP _,λr h=>by cases h}
 |some e=>
  obtain⟨_,_,h3,h4⟩:=x.en e (jN q);exact⟨h3,h4⟩
abbrev dbT(fs:List En)(z:Str):Aab:=eX (cP fs z)
def uY(fs:List En)(kept:Aah)(a:Str×Aah)(v:Aah):Aab:=AskP.tails (dbT fs a.1) a.2 (-48) (hG kept a.2) (AskP.image kept v (-48))
def LU(x:gW K H p fs)(kept:Aah)(a:Str×Aah)(v:Aah):(uY fs kept a v).length<=5:=by unfold uY AskP.tails;rw[ak];exact aD (cj _ _) (aD (uz _) (x.good a.1).1)
abbrev zk(K:Frag)(H:Hp)(av:Aaj)(fs:List En)(kept:Aah)(a:Str×Aah):Aao->Cm->Prop:=Paired λ(y:V)(x:Aah×Int)=>∃t zs,y=.ref t/\t∉av/\H t=some (.lst zs)/\cT K H zs (uY fs kept a x.1)
def Ii(h:zk K H av fs kept a ys m)(s:∀b u,b∉av->H b=some u->H' b=some u)(t:dw H H'):zk K H' av fs kept a ys m:=by
 induction h with
 |nil=>exact .nil
 |cons h _ ih=>
  obtain⟨t',zs,e,n,h1,h2⟩:=h;exact .cons {t',zs,e,n,s _ _ n h1,iE h2 t} ih
def Ih(h:zk K H av fs kept a ys m)(s:bq H H'):zk K H' av fs kept a ys m:=Ii h (λb u _ e=>s _ _ e) (dw.same s)
structure FE(kept:Aah)(maps:Cm):Prop where
 nd:kept.Nodup
 sok:tE kept
 len:kept.length<=100
 row:∀x∈maps,x.1.length=kept.length/\tE x.1
 je:maps.length<=500000
inductive NL(P:Program)(w:World)(K:Frag)(C:Addr)(vs:Aao)(H:Hp)(Q:VK)(_x3:XK):Prop
 |mk (self at_ dx tb kl md td:Addr) (ex:Aaj) (fs:List En) (kept:Aah) (maps:Cm) (n:Nat) (a:Str×Aah) (_:vs=[.ref self,.ref at_]) (_:iK P w K C H self dx tb kl md td ex fs kept maps n) (_:mF H (.ref at_) a) (_:FinA a) (_:FE kept maps) (_:n<=1000000) (_:(∀b∈ex,∃u,H b=some u)) (_:∀(l:Addr)(ys:Aao)(H':Hp),SB td H H'->H l=none->H' l=some (.lst ys)->iK P w K C H' self dx tb kl md td ex fs kept maps (n+1)->zk K H' (td::md::ex) fs kept a ys maps->Q (.ref l) H')
structure Dm6(P:Program)(w:World)(K:Frag)(mg:Aad)(base:Heap)(C:Addr):Prop extends Dn P w K mg base where
 iR:qZ P w K mg base C 4 "fresh_unknowns" ["self","atom"] (Dk P w K C)
 rows_of:dP P w K mg base 1 "rows_of" ["tables","name"] (Dj K)
 tails_by_key:dP P w K mg base 3 "tails_by_key" ["rows","terms","known","fresh"] (Gx P w K)
def gW.sb(x:gW K H p fs)(s:SB td H H')(nt:iN H td)(nl:∀l,H td≠some (.lst l))(ne:p≠td):gW K H' p fs:={s _ _ ne x.at_,x.nm,λe he=>by obtain⟨h1,h2,h3⟩:=x.en e he;exact{s _ _ (λz=>nl _ (by rw[<-z];exact h1)) h1,iE h2 (s.tp nt),h3}}
def RowC.sb(x:RowC P w K H d m)(s:SB td H H')(nt:iN H td)(ne:d≠td):RowC P w K H' d m:=by obtain⟨kvs,h1,h2⟩:=x;obtain⟨u,hu⟩:=h1.some;exact{kvs,h1.tp (s.tp nt) (by rw[hu,s _ _ ne hu]),h2}
def _root_.L2.gn.EL(h:gn P w K H d kvs):H d≠some (.ins C dx l):=λe=>by rcases h.1 with q|⟨_,q⟩<;>rw[e]at q<;>cases q
def iK.sb(x:iK P w K C H self dx tb kl md td ex fs kept maps n)(s:SB td H H')(ck:jw P w K H' td (td::md::ex) fs kvs)(l:kvs.length<=m):iK P w K C H' self dx tb kl md td ex fs kept maps m:=by obtain⟨_,c0,_⟩:=x.As;exact{s _ _ (λz=>c0.at_.EL (by rw[<-z];exact x.ins)) x.ins,x.tab.sb s c0.at_.qD c0.at_.uG x.nt,s _ _ (λz=>c0.at_.uG _ (by rw[<-z];exact x.xR)) x.xR,x.wo.sb s c0.at_.qD x.nm,⟨kvs,ck,l⟩,x.nm,x.nt,x.ke}
def g6:cD ["self","atom","fresh","known","key","tails","places"] ["self","atom"] (defScope oS):=jD (-3)
def TC(F:fq K "tails_of_maps" "Asking.tails_of_maps" oS f fd)(T:Txt K mg)(O:Ec K C)(D:Dm6 P w K mg base C):dk P w K mg base fU 5 f fd ["self","atom"] (NL P w K C):=by
 refine F.ok g6 (λ_ _ _ _ h=>by cases h;subst_vars;rfl) (-4);obtain⟨self,at_,dx,tb,kl,md,td,ex,fs,kept,maps,n,a,rfl,st,ha,fa,mo,hn,hex,k⟩:=h;have hu:=jL hr;have hN:=yY hr;have cC:=O.c;refine{_,(aN (jU (i:=2) g6.nd rfl (Or.inr rfl) (MA cC D.iR hr (pv 0) (cz (pv 1)) ∅)) (aN (jU (i:=3) g6.nd rfl (Or.inr rfl) (qb rfl (cU (fs:=["fresh"]) (fr:=[2])) (sM (dq lC (pv 1) bh (-15))) (λ_ _ _ _=>(dh (tN (K:=K)) (pv 0) (pv 1) (-58))) (λ_ _ _ _=>(pv 0)))) (aN (fJ 4 g6 (iZ (dR (pv 1) (dF fD rfl T.kC (-3) (cz (pv 3)))))) (aN (gJ (dh (Qm hN) (pv 4) (mw (pv 0) rfl) (-58)) (a9 (Jd hN (mw (pv 0) rfl) (pv 4) (cl D.tails_by_key hr (iF (cl D.rows_of hr (dR (mw (pv 0) rfl) (dq lC (pv 1) bh (-15)))) (sO (dq lC (pv 1) bh (-15)) (pv 3) (pv 2)))) rfl)) eG) (aN (jU (i:=5) g6.nd rfl (Or.inr rfl) (Tr hN (mw (pv 0) rfl) (pv 4) (-15))) (aN (jU (i:=6) g6.nd rfl (Or.inr rfl) (cl D.places_of hr (cz (mw (pv 0) rfl)))) (a9 (cN (Jl (g8 rfl (cU (fs:=["tails","known","places"]) (fr:=[5,3,6])) (To (mw (pv 0) rfl)) (λ_ _ _ _=>(N6 (P:=P) (w:=w) (K:=K) hN (pv 1) (cl D.image hr (sO (pv 2) (pv 3) (pv 0))) (eZ gM) ⟨rfl,rfl,rfl,rfl⟩)))))))))))),?_}
 refine{_,rfl,self,dx,_,rfl,st.ins,rfl,_,rfl,self,at_,dx,tb,kl,md,td,ex,fs,kept,maps,n,a,rfl,st,ha,fa,λfr H1 s1 hf0 vC=>?_};obtain⟨_,t,e,hp,ht⟩:=id ha;cases e;have l4:=fa.1;refine{_,rfl,_,_,_,_,rfl,rfl,bF.of (s1 _ _ hp),rfl,t,rfl,{_,bF.of (s1 _ _ ht)},zd (K:=K) (a:=t) (xs:=a.2.map V.str) (λi ys H2=>H2=H1/\i<=a.2.length/\ys=((a.2.take i).filter λt=>decide (t∉hG kept a.2)).map V.str) (-27) {rfl,aP _,rfl} ?_ ?_ ?_}
 ·rintro i ys H2 hi ⟨rfl,_,rfl⟩;refine{bF.of (s1 _ _ ht),?_};rw[ak];exact aD (cj _ _) (by rw[aT];lia)
 ·rintro i x ys H2 N hx ⟨rfl,hi,rfl⟩ vE;obtain⟨z,hz,rfl⟩:=js hx;have bJ:i<a.2.length:=(ax.mp hz).1;refine{_,rfl,_,rfl,fr,_,rfl,.inl (bo.of vC),rfl,Hk _,_,rfl,?_};rw[B5];have en:(a.2.take (i+1)).filter (λt=>decide (t∉hG kept a.2))=(a.2.take i).filter (λt=>decide (t∉hG kept a.2))++if z∈hG kept a.2 then[]else[z]:=by rw[bg,hz,cL,fb];congr 1;by_cases c:z∈hG kept a.2<;>simp[c]
  by_cases c:z∈hG kept a.2
  ·refine fm (λq=>by simp[c]at q) (λ_=>vE _ _ {rfl,bJ,?_});rw[en,aC c,b6]
  ·refine fm (λ_=>{_,rfl,vE _ _ {rfl,bJ,?_}}) (λq=>absurd (by simp[c]) q);rw[en,az c,aJ];rfl
 rintro ys H2 ⟨rfl,_,rfl⟩ kn abl;rw[ak,aV];have s2:=aM abl (.lst ((-48).map V.str));have OI:upd H2 kn (.lst ((-48).map V.str)) kn=some (.lst ((-48).map V.str)):=aw;have sL:=s1.trans s2;have Bb:=s2 _ _ vC;generalize hH:(upd H2 kn (.lst _))=H3;have hH':upd H2 kn (.lst ((-48).map V.str))=H3:=hH;rw[hH']at s2 OI sL Bb;clear hH hH';refine{_,rfl,_,rfl,kn,_,rfl,.inl {bo.of OI,λtk Ra=>?_}};have s4:=aM Ra (.tup ((-48).map V.str));have Ud:upd H3 tk (.tup ((-48).map V.str)) tk=some (.tup ((-48).map V.str)):=aw;have rj:=sL.trans s4;have C5:=s4 _ _ Bb;have Uq:=s4 _ _ OI;generalize (upd H3 tk (.tup ((-48).map V.str)))=H4 at s4 Ud rj C5 Uq⊢;refine{by show 2<=sizeLine;decide,λky hky=>?_};have s5:=aM hky (.tup [V.ref at_,V.ref tk]);have abh:upd H4 ky (.tup [V.ref at_,V.ref tk]) ky=some (.tup [V.ref at_,V.ref tk]):=aw;have xB:=rj.trans s5;have hf5:=s5 _ _ C5;have OH:=s5 _ _ Uq;have aa4:=s5 _ _ Ud;generalize (upd H4 ky (.tup [V.ref at_,V.ref tk]))=H5 at s5 abh xB hf5 OH aa4⊢;have oJ:=st.same xB;have sk:tE (-48):=λz hz=>fa.2.2.1 z (bV.mp hz).1;have lkn:(-48).length<=4:=aD (cj _ _) l4;have key:∀{H':Hp},dw H5 H'->jA K H' (vi a (-48)) ky:=λtp=>xS (T6 (bF.of abh) (bF.of (xB _ _ hp)) (bF.of (xB _ _ ht)) (bF.of aa4) fa.2.1 fa.2.2.1 sk) tp;obtain⟨kvs,ck,lk⟩:=id oJ.As;clear s1 s2 sL rj s4 s5 vC Bb C5 OI Uq Ud hky Ra abl;dsimp only[sC];refine II λNX hNX=>?_;have go:∀(H6:Hp)(QR:List (-53))(d:Addr),SB td H5 H6->jw P w K H6 td (td::md::ex) fs QR->QR.length<=n+1->valN QR (vi a (-48))=some (.ref d)->NX [some (.ref self),some (.ref at_),some (.ref fr),some (.ref kn),some (.ref ky),none,none] H6:=λH6 QR d mn R8 lk6 hv6=>by
  refine hNX _ _ ?_;have tp6:=mn.tp ck.at_.qD;have mi:=oJ.sb mn R8 lk6;have abk:=mn _ _ (λz=>ck.at_.uG _ (by rw[<-z];exact OH)) OH;obtain⟨d',e',tv6⟩:=R8.all _ _ _ hv6;cases e';have et:Vl fs a (-48)=AskP.tails (dbT fs a.1) a.2 (-48) (hG kept a.2):=by show AskP.tails _ _ _ ((fM a.2).filter λt=>decide (t∉jV kept a.2))=_;rw[WS]
  rw[et]at tv6;refine{_,rfl,self,C,dx,_,_,rfl,mi.ins,O.c,O.tails,rfl,_,rfl,td,ky,QR,_,.ref d,rfl,rfl,R8.at_,key tp6,hv6,?_};refine{_,rfl,self,C,dx,_,_,rfl,mi.ins,O.c,O.kept,rfl,kl,kept,rfl,bo.of mi.xR,mo.nd,mo.len,λpd H7 s7 Ul aeb=>?_};have u5:=mi.same s7;obtain⟨qG,He,em⟩:=u5.wo;obtain⟨um,Ka⟩:=He.some;have Qz:∀u v,H7 md≠some (.c7 u v):=λu v e=>by rcases He.1 with q|⟨_,q⟩<;>rw[e]at q<;>cases q
  have GQ:iN H7 md:=He.qD;refine{md,Qz,?_};refine{_,rfl,self,C,dx,_,_,rfl,u5.ins,O.c,O.maps,rfl,md,um,qG,rfl,Ka,He,λo=>?_};have Ey:SB md H7 (upd H7 md (.c7 o um)):=λb u n e=>by rw[aE n];exact e
  have Ig:=Ey.tp GQ;have Zq:=(tv6.same s7).fr (λb u n e=>Ey b u (λz=>n (by rw[z];exact aB _ aA)) e) Ig;have abj:upd H7 md (.c7 o um) kn=some (.lst ((-48).map V.str)):=Ey _ _ (λz=>He.uG _ (by rw[<-z];exact s7 _ _ abk)) (s7 _ _ abk);have pdm:pd≠md:=λz=>by obtain⟨_,h1,_⟩:=mi.wo;obtain⟨_,h2⟩:=h1.some;rw[z,h2]at Ul;cases Ul
  have aa6:upd H7 md (.c7 o um) pd=some (.dK (placesK kept)):=Ey _ _ pdm aeb;have wC:upd H7 md (.c7 o um) md=some (.c7 o um):=aw;have avf:∀b∈td::md::ex,∃u,upd H7 md (.c7 o um) b=some u:=λb hb=>by
   by_cases z:b=md
   ·exact{_,by rw[z];exact wC}
   ·have go7:∀{u:HO},H7 b=some u->∃u,upd H7 md (.c7 o um) b=some u:=λ{u} e=>{u,by rw[aE z];exact e};by_cases z2:b=td
    ·obtain⟨_,h⟩:=R8.at_.some;exact go7 (s7 _ _ (by rw[z2];exact h))
    ·have RA:b∈ex:=by
      rcases aG.mp hb with h|h
      ·exact absurd h z2
      ·exact(aG.mp h).resolve_left z
     obtain⟨_,h⟩:=hex b RA;exact go7 (s7 _ _ (mn _ _ z2 (xB _ _ h)))
  have QN:qG.length=maps.length:=by have:=bU List.length em;unfold tm at this;rw[ak,ak]at this;exact this
  have gv:∀(i:Nat)(q:NK×Addr×V),qG[i]?=some q->∃x,maps[i]?=some x/\bF K H7 q.2.1 (x.1.map V.str):=λi q hq=>by
   have e1:(tm maps)[i]?=some (q.1,q.2.2):=by rw[<-em,aK,hq];rfl
   unfold tm at e1;rw[aK]at e1;obtain⟨x,e2,e3⟩:=aX.mp e1;have e4:fR x.1=q.1:=bU Prod.fst e3;have:=(He.2 q (aH hq)).1;rw[<-e4]at this;exact{x,e2,EM this}
  generalize WL:upd H7 md (.c7 o um)=Hf at Zq abj aa6 wC Ig avf⊢;refine ze (d:=md) (o:=o) (u:=um) (kvs:=qG.map λp=>(V.ref p.2.1,p.2.2)) (λi ys H8=>bq Hf H8/\i<=maps.length/\zk K H8 (td::md::ex) fs kept a ys (maps.take i)) (by rw[ak,QN];exact eJ mo.je (-8)) {λ_ _ x=>x,aP _,.nil} ?_ ?_ ?_
  ·rintro i ys H8 hi ⟨s8,Ww,tl⟩;refine{s8 _ _ wC,?_};rw[bw tl,aT];lia
  ·rintro i kv ys H8 N jd ⟨s8,Ww,tl⟩ vE;rw[aK]at jd;obtain⟨q,hq,rfl⟩:=aX.mp jd;obtain⟨x,hx,hg⟩:=gv i q hq;have bJ:i<maps.length:=(ax.mp hx).1;obtain⟨g1,g2⟩:=mo.row x (aH hx);obtain⟨_,kvt,Wj,nE⟩:=Zq.same s8;refine gu ?_;refine{_,rfl,d,kvt,rfl,Wj,_,rfl,_,rfl,_,rfl,kn,pd,q.2.1,jV kept a.2,kept,x.1,rfl,.inl (bo.of (s8 _ _ abj)),s8 _ _ aa6,mo.nd,ip (pb hg Ig) s8,g1,by lia,mo.len,λr H9 s9 Wq hr9=>?_};refine{by show 0<=sizeLine;decide,λl0 mz=>?_};have mq:=s9.trans (aM mz (.lst ([]:Aao)));have yW:upd H9 l0 (.lst []) l0=some (.lst []):=aw;have aa5:=(aM mz (.lst ([]:Aao))) _ _ hr9;generalize (upd H9 l0 (.lst []))=yx at mq yW aa5⊢;obtain⟨_,adx,ad8,abp⟩:=Zq.same (s8.trans mq);refine{r,adx,fR (AskP.image kept x.1 (-48)),rfl,ad8,yU (bF.of aa5) (GA g2 sk),vE _ _ {s8.trans mq,bJ,?_}};rw[bg,hx];refine(Ih tl mq).snoc ?_;rcases abp (AskP.image kept x.1 (-48))with⟨h1,h2⟩|⟨l,zs,h1,h4,h2,h3⟩
   ·refine{l0,[],by rw[h1];rfl,λz=>?_,yW,?_}
    ·obtain⟨u,e⟩:=avf l0 z;rw[s9 _ _ (s8 _ _ e)]at mz;cases mz
    unfold uY;rw[h2];exact .nil
   ·exact{l,zs,by rw[h1];rfl,h4,h2,h3}
  ·rintro ys H8 ⟨s8,_,tl⟩ l hl;rw[ak,QN,aV]at tl;have s9:=s8.trans (aM hl (-38));have Ba:upd H8 l (-38) l=some (-38):=aw;have tl9:=Ih tl (aM hl (-38));have lmd:l≠md:=λz=>by rw[z,s8 _ _ wC]at hl;cases hl
   have h7l:H7 l=none:=by
    cases e:H7 l with
    |none=>rfl
    |some u=>
     have:Hf l=some u:=by rw[<-WL,aE lmd];exact e
     rw[s8 _ _ this]at hl;cases hl
   generalize (upd H8 l (-38))=H9 at s9 Ba tl9⊢;refine{o,um,s9 _ _ wC,?_};have sF:bq H7 (upd H9 md um):=λb u e=>by
    by_cases z:b=md
    ·rw[z,Ka]at e;cases e;rw[z,aw]
    ·rw[aE z];exact s9 _ _ (by rw[<-WL,aE z];exact e)
   have nt9:iN H9 md:=λxs q=>by have e9:=s9 _ _ wC;rcases q with q|⟨o',q⟩<;>rw[e9]at q<;>cases q;exact GQ xs (.inl Ka)
   have sb9:SB md H9 (upd H9 md um):=λb u n e=>by rw[aE n];exact e
   have tlF:zk K (upd H9 md um) (td::md::ex) fs kept a ys maps:=Ii tl9 (λb u n e=>sb9 b u (λz=>n (by rw[z];exact aB _ aA)) e) (sb9.tp nt9);have WQ:H6 l=none:=s7.free h7l;have RF:H l=none:=by
    cases e:H l with
    |none=>rfl
    |some u=>
     by_cases z:l=td
     ·obtain⟨_,h⟩:=R8.at_.some;rw[z,h]at WQ;cases WQ
     ·rw[mn _ _ z (xB _ _ e)]at WQ;cases WQ
   exact k l ys _ (((SB.same xB).trans mn).trans (SB.same (s7.trans sF))) RF (by rw[aE lmd];exact Ba) (u5.same sF) tlF
 refine{_,rfl,_,rfl,self,C,dx,_,_,rfl,oJ.ins,O.c,O.tails,rfl,td,ky,kvs,_,rfl,rfl,ck.at_,key (dw.refl _),_,rfl,?_};refine fm (-61) (-61)
 ·have hv:valN kvs (vi a (-48))=none:=by simpa using c
  refine{_,rfl,self,C,dx,_,_,rfl,oJ.ins,O.c,O.tables,rfl,_,rfl,_,_,_,_,rfl,rfl,bF.of (xB _ _ hp),rfl,tb,fs,a.1,rfl,oJ.tab.b,λrl zK H6 s6 aeP A7 MR _=>?_};have mi:=oJ.same s6;have AF:=xB.trans s6;refine{_,rfl,_,_,_,_,rfl,rfl,bF.of (AF _ _ hp),rfl,_,rfl,_,rfl,rl,t,kn,fr,zK,dbT fs a.1,a.2,jV kept a.2,hG kept a.2,rfl,bo.of A7,MR,AF _ _ ht,bo.of (s6 _ _ OH),bo.of (s6 _ _ hf5),?_,λr hr=>?_,by lia,by lia,?_,λz hz=>(bV.mp hz).1,λz hz=>(uN (bV.mp hz).1).resolve_left (λh=>by cases h),λd H7 s7 gE tv=>?_}
  ·exact aD (uz _) (aD (oJ.tab.good a.1).1 (-8))
  ·obtain⟨_,h2,h3⟩:=(oJ.tab.good a.1).2 r ((g9 _ _).mp hr);exact{by lia,λz hz=>sJ (h3 z hz)}
  ·have:=DG a.2;exact aD (cj _ _) ∅
  have u5:=mi.same s7;have Vz:=s6.trans s7;have ck7:=ck.same Vz;have av:∀b∈td::md::ex,H6 b≠none:=λb hb=>by
   rcases aG.mp hb with rfl|hb
   ·obtain⟨_,h⟩:=ck.at_.some;rw[s6 _ _ h];simp
   ·rcases aG.mp hb with rfl|hb
    ·obtain⟨_,h1,_⟩:=mi.wo;obtain⟨_,h⟩:=h1.some;rw[h];simp
    ·obtain⟨_,h⟩:=hex b hb;rw[AF _ _ h];simp
  refine{_,rfl,self,C,dx,_,_,rfl,u5.ins,O.c,O.tails,rfl,_,rfl,td,ky,kvs,_,rfl,rfl,ck7.at_,key (dw.same Vz),by lia,?_};have tv2:iz P w K H7 (td::md::ex) d (Vl fs a (-48)):=by show iz P w K H7 (td::md::ex) d (AskP.tails _ _ _ ((fM a.2).filter λt=>decide (t∉jV kept a.2)));rw[WS];exact tv _ av
  exact go _ _ d ((SB.same Vz).trans λb u n e=>by rw[aE n];exact e) (ck7.add aA (key (dw.same Vz)) tv2) (aD vg ∅) (by rw[pW,aC rfl])
 ·obtain⟨v,hv⟩:=Option.ne_none_iff_exists'.mp (show ¬valN kvs (vi a (-48))=none by simpa using c);obtain⟨d,rfl,_⟩:=ck.all _ _ _ hv;exact go H5 kvs d (λ_ _ _ e=>e) ck ∅ hv
def iK.mono(x:iK P w K C H self dx tb kl md td ex fs kept maps n)(l:n<=m):iK P w K C H self dx tb kl md td ex fs kept maps m:=
 {x.ins,x.tab,x.xR,x.wo,let⟨kvs,h1,h2⟩:=x.As;{kvs,h1,aD h2 l},x.nm,x.nt,x.ke}
def By(h:mF H v a)(s:SB td H H')(nt:iN H td):mF H' v a:=by obtain⟨p,t,e,h1,h2⟩:=h;exact{p,t,e,s _ _ (λz=>nt _ (.inl (by rw[<-z];exact h1))) h1,s _ _ (λz=>nt _ (.inl (by rw[<-z];exact h2))) h2}
def Fy(h:fg H vs as)(s:SB td H H')(nt:iN H td):fg H' vs as:=by
 induction h with
 |nil=>exact .nil
 |cons h _ ih=>exact .cons (By h s nt) ih
def iK.Mt(x:iK P w K C H self dx tb kl md td ex fs kept maps n):iN H td/\∀l,H td≠some (.lst l):=by obtain⟨_,c0,_⟩:=x.As;exact{c0.at_.qD,c0.at_.uG}
inductive PN(P:Program)(w:World)(K:Frag)(C:Addr)(vs:Aao)(H:Hp)(Q:VK)(_x3:XK):Prop
 |mk (self l dx tb kl md td:Addr) (ex:Aaj) (fs:List En) (kept:Aah) (maps:Cm) (n:Nat) (ys:Aao) (ats:Aaa) (_:vs=[.ref self,.ref l]) (_:iK P w K C H self dx tb kl md td ex fs kept maps n) (_:H l=some (.lst ys)) (_:fg H ys ats) (_:(∀a∈ats,FinA a)) (_:0<ats.length) (_:ats.length<=100) (_:FE kept maps) (_:n+100<=1000000) (_:(∀b∈ex,b≠td/\∃u,H b=some u)) (_:∀(i:Nat)(H':Hp),i<ats.length->SB td H H'->iK P w K C H' self dx tb kl md td ex fs kept maps (n+100)->Q (.int i) H')
structure Db6(P:Program)(w:World)(K:Frag)(mg:Aad)(base:Heap)(C:Addr):Prop where
 jo:qZ P w K mg base C 5 "tails_of_maps" ["self","atom"] (NL P w K C)
def iq:cD ["self","atoms","best","fewest","place","atom","count"] ["self","atoms"] (defScope rK):=jD (-3)
def Ye(F:fq K "best_place" "Asking.best_place" rK f fd)(T:Txt K mg)(O:Ec K C)(D:Db6 P w K mg base C):dk P w K mg base fU 6 f fd ["self","atoms"] (PN P w K C):=by
 refine F.ok iq (λ_ _ _ _ h=>by cases h;subst_vars;rfl) (-4);obtain⟨self,l,dx,tb,kl,md,td,ex,fs,kept,maps,n,ys,ats,rfl,st,hl,rp,fa,l0,l1,mo,hn,hex,k⟩:=h;have hu:=jL hr;have hN:=yY hr;have cC:=O.c;refine{_,(aN (xG (iZ (dR bh xI)) (iY rfl (cA (ir 2 iq) (cA (ir 3 iq) g7)))) (aN (fQ bS rfl (FQ rfl T.wZ (cz (pv 1))) (iY rfl (cA (ir 4 iq) (cA (ir 5 iq) g7))) (aN (fJ 6 iq (cW (U0 rfl) rfl T.acn (-3) (cz (g8 rfl (cU (fs:=[]) (fr:=[])) (fX (MA cC D.jo hr (pv 0) (cz (pv 5)) ∅)) (λ_ _ _ _=>(cW (Br (K:=K)) rfl T.kU dj (cz (pv 0)))))))) (aN (gJ (PW.pt (EC (dh aaq (pv 3) xI (eW _)) (EB (dh ack (pv 6) (pv 3) (eW _))))) (a9 (aaj (i:=2) (j:=3) rfl iq.nd rfl rfl (-8) rfl rfl (dR (pv 4) (pv 6)) rfl)) eG) (a9 (gJ (dh N9 (pv 6) (cW Sa rfl T.kU dj (cz (mw (pv 0) rfl))) (eW _)) (a9 (cN (pv 4))) eG))))) (a9 (cN (pv 2))))),?_}
 have ly:ys.length=ats.length:=bw rp;obtain⟨nt0,Qy⟩:=st.Mt;have mz:∀{H':Hp},SB td H H'->H' l=some (-38):=λsb=>sb _ _ (λz=>Qy _ (by rw[<-z];exact hl)) hl;refine{by show 2<=sizeLine;decide,λp hp=>{p,_,rfl,bF.of aw,rfl,_,_,rfl,_,_,rfl,rfl,?_}};have s1:=aM hp (.tup [V.int 0,V.cE]);refine{_,rfl,l,rfl,{_,bo.of (s1 _ _ hl)},DQ (K:=K) (a:=l) (xs:=ys)
  (λi Z H2=>∃(b:Nat)(fw:V)(x4 x5 x6:Aap),Z=[some (.ref self),some (.ref l),some (.int b),some fw,x4,x5,x6]/\SB td H H2/\iK P w K C H2 self dx tb kl md td ex fs kept maps (n+i)/\b<ats.length/\(fw=.cE\/∃c,fw=.int c))
  {0,.cE,none,none,none,rfl,SB.same s1,st.same s1,l0,.inl rfl} (λi Z H2 _ hq=>by(obtain⟨_,_,_,_,_,_,sb,_⟩:=hq;exact bo.of (mz sb))) ?_ ?_}
 ·rintro i x q Z H2 hx ⟨b,fw,x4,x5,x6,rfl,Ez,pX,hb,WA⟩ hq;obtain⟨a,ha,hxa⟩:=Paired.at rp hx;have bJ:i<ats.length:=(ax.mp ha).1;have s3:=aM hq (.tup [V.int i,x]);refine{q,_,rfl,bF.of aw,rfl,_,_,rfl,_,_,rfl,rfl,?_};have GG:=Ez.trans (SB.same s3);have uc:=pX.same s3;generalize (upd H2 q (.tup [V.int i,x]))=H3 at s3 GG uc⊢;obtain⟨ap,at_,rfl,_⟩:=id hxa;refine{_,rfl,self,dx,_,rfl,uc.ins,rfl,_,rfl,self,ap,dx,tb,kl,md,td,ex,fs,kept,maps,n+i,a,rfl,uc,By hxa GG nt0,fa a (aH ha),mo,by lia,λb hb=>{_,GG _ _ (hex b hb).1 (hex b hb).2.choose_spec},λtl tys H4 sb4 Uc aa3 wd qK=>?_};have CO:tys.length=maps.length:=bw qK;refine{tl,rfl,{_,bo.of aa3},jg (K:=K) (a:=tl) (xs:=tys) (λj zs H5=>H5=H4/\j<=maps.length/\zs=((maps.take j).map λx=>((uY fs kept a x.1).length:Int)).map V.int) (by rw[CO];exact eJ mo.je (-8)) {rfl,aP _,rfl} ?_ ?_ ?_}
  ·rintro j zs H5 hj ⟨rfl,_,rfl⟩;refine{bo.of aa3,?_};rw[ak,ak,aT];lia
  ·rintro j x zs H5 N hx5 ⟨rfl,hj,rfl⟩ vE;obtain⟨y,hy,t,zz,rfl,_,ht,MR⟩:=Paired.at' qK hx5;have sW:j<maps.length:=(ax.mp hy).1;refine gu ?_;refine{_,rfl,_,_,rfl,.inl {_,bo.of ht,rfl},vE _ _ {rfl,sW,?_}};rw[bg,hy,aJ,aJ,MR.length];rfl
  rintro zs H5 ⟨rfl,_,rfl⟩ sl G7;rw[CO,aV];refine{sl,_,rfl,bo.of aw,?_};have s6:=aM G7 (.lst ((maps.map λx=>((uY fs kept a x.1).length:Int)).map V.int));have mi:=wd.same s6;have mn:=GG.trans (sb4.trans (SB.same s6));generalize (upd H5 sl (.lst ((maps.map λx=>((uY fs kept a x.1).length:Int)).map V.int)))=H6 at s6 mi mn⊢;generalize (maps.map λx=>((uY fs kept a x.1).length:Int)).sum=cn;dsimp only[sC];refine II λNX hNX=>?_;have go:∀(b:Nat)(fw:V)(H7:Hp),b<ats.length->(fw=.cE\/∃c,fw=.int c)->SB td H H7->iK P w K C H7 self dx tb kl md td ex fs kept maps (n+i+1)->NX [some (.ref self),some (.ref l),some (.int b),some fw,some (.int i),some (.ref ap),some (.int cn)] H7:=λb fw H7 hb WA Ax u5=>by
   refine hNX _ _ ?_;obtain⟨qG,He,em⟩:=u5.wo;refine{_,rfl,_,rfl,self,C,dx,_,_,rfl,u5.ins,O.c,O.maps,rfl,md,qG,rfl,He,_,_,rfl,rfl,_,rfl,?_};refine fm (-61) (-61)
   ·exact{_,rfl,k i H7 bJ Ax (u5.mono ∅)}
   ·exact⟨b,fw,_,_,_,rfl,Ax,u5,hb,WA⟩
  rcases WA with rfl|⟨c,rfl⟩
  ·exact{_,rfl,rfl,_,rfl,F0 (F0 {_,rfl,_,rfl,_,_,rfl,go i _ H6 bJ (.inr ⟨_,rfl⟩) mn mi})}
  ·refine{_,rfl,rfl,_,rfl,vz {_,rfl,_,rfl,_,_,rfl,rfl,_,rfl,fm (-61) (-61)}}
   ·exact{_,rfl,_,rfl,_,_,rfl,go i _ H6 bJ (.inr ⟨_,rfl⟩) mn mi}
   ·exact go b _ H6 hb (.inr ⟨_,rfl⟩) mn mi
 ·rintro Z H2 ⟨b,fw,x4,x5,x6,rfl,Ez,pX,hb,WA⟩;exact{_,rfl,k b H2 hb Ez (pX.mono ∅)}
def Tv(h:X.K=K:=by rfl):jh X (binaryOp .Add) (NT K):=h▸FT
abbrev A1(fs:List En)(kept:Aah)(a:Str×Aah)(maps:Cm):Cm:=AskP.longer maps (dbT fs a.1) a.2 kept (-48) (hG kept a.2)
def TX{maps:Cm}(h:maps[i]?=some x):A1 fs kept a (maps.take (i+1))=A1 fs kept a (maps.take i)++(uY fs kept a x.1).map λt=>(x.1++t,x.2):=by unfold A1 AskP.longer;rw[bg,h,cL,Aj,o7,List.flatMap_nil,b6];rfl
def Yp(h:y∈A1 fs kept a maps):∃x∈maps,∃t∈uY fs kept a x.1,y=(x.1++t,x.2):=by unfold A1 AskP.longer at h;obtain⟨x,hx,h⟩:=j7.mp h;obtain⟨t,ht,rfl⟩:=aR.mp h;exact⟨x,hx,t,ht,rfl⟩
def LS(tb:gW K H p fs)(h:t∈uY fs kept a v):t.length=(hG kept a.2).length/\tE t:=by
 unfold uY AskP.tails at h;obtain⟨r,hr,rfl⟩:=aR.mp h;obtain⟨h1,h2⟩:=bV.mp hr;rw[bB]at h2;have le:r.length=a.2.length:=by have:=h2.1;unfold AskP.mU at this;rw[bB]at this;exact bj this.1
 obtain⟨_,_,h3⟩:=(tb.good a.1).2 r ((g9 _ _).mp h1);exact{ak _,PU (λz hz=>sJ (h3 z hz)) le λz hz=>(uN (bV.mp hz).1).resolve_left λh=>by cases h}
theorem B2(tb:gW K H p fs):∀{maps:Cm},(A1 fs kept a maps).length<=5*maps.length
 |[]=>ar _
 |x::maps=>by have h1:=B2 tb (kept:=kept) (a:=a) (maps:=maps);have h2:=LU tb kept a x.1;unfold A1 AskP.longer at h1⊢;unfold uY at h2;rw[o7,aO,ak,bx];lia
def yD(ts:Aah):(fM ts).Nodup:=by
 have gen:∀(l acc:Aah),acc.Nodup->(l.foldl step acc).Nodup:=by
  intro l
  induction l with
  |nil=>intro acc h;exact h
  |cons t l ih=>
   intro acc h;refine ih _ ?_;unfold step;split
   ·split
    ·exact h
    ·next c=>exact eB.mpr {h,kA _ _,λa ha b hb=>by rw[ay.mp hb];exactλz=>c (by rw[<-z];exact ha)}
   ·exact h
 exact gen ts [] .nil
def Lv(ts:Aah)(nd:kept.Nodup):(kept++hG kept ts).Nodup:=
 eB.mpr {nd,(yD ts).sublist (mN),λx hx y hy e=>by have:=(bV.mp hy).2;rw[iG]at this;exact this (by rw[<-e];exact hx)}
def nj(h:Paired (wI K H) zs m)(t:dw H H'):Paired (wI K H') zs m:=by
 induction h with
 |nil=>exact .nil
 |cons h _ ih=>exact .cons (Ju h t) ih
theorem Jt:∀{l₁ m₁:List α}{aac m₂:List β},Paired F l₁ aac->Paired F m₁ m₂->Paired F (l₁++m₁) (aac++m₂)
 |_,_,_,_,.nil,h=>h
 |_,_,_,_,.cons q t,h=>.cons q (Jt t h)
def iz.EL(x:iz P w K H av d f)(h:H me=some (.ins C dx l0)):iz P w K H (me::av) d f:=by
 obtain⟨h0,kvs,h1,h2⟩:=x;refine{λz=>?_,kvs,h1,λzs=>(h2 zs).imp id λ⟨l,ys,a,n,b,c⟩=>{l,ys,a,λz=>?_,b,c}}
 ·rcases aG.mp z with z|z
  ·exact h1.EL (by rw[z];exact h)
  ·exact h0 z
 ·rcases aG.mp z with z|z
  ·rw[z,h]at b;cases b
  ·exact n z
def jw.to(x:jw P w K H td av fs kvs)(t:dw H H')(e:H' td=H td)(h:∀d f,iz P w K H av d f->iz P w K H' av' d f):jw P w K H' td av' fs kvs:=
 {x.at_.tp t e,λa known v q=>by obtain⟨d,e1,e3⟩:=x.all a known v q;exact{d,e1,h _ _ e3}}
inductive PK(P:Program)(w:World)(K:Frag)(C:Addr)(vs:Aao)(H:Hp)(Q:VK)(_x3:XK):Prop
 |mk (self at_ nd dx tb kl md td:Addr) (ex:Aaj) (fs:List En) (kept:Aah) (maps:Cm) (n:Nat) (a:Str×Aah) (need:Str->Bool) (_:vs=[.ref self,.ref at_,.ref nd]) (_:iK P w K C H self dx tb kl md td ex fs kept maps n) (_:mF H (.ref at_) a) (_:FinA a) (_:FE kept maps) (_:kept.length<=90) (_:n<=900000) (_:abM H nd (λz=>need z=true)) (_:nd≠td) (_:(∀b∈ex,b≠td/\∃u,H b=some u)) (_:∀(rm zN:Addr)(H':Hp),(∀b u,b≠td->b≠self->H b=some u->H' b=some u)->iK P w K C H' self dx tb rm zN td ex fs ((kept++hG kept a.2).filter need) (AskP.narrowed (A1 fs kept a maps) (kept++hG kept a.2) ((kept++hG kept a.2).filter need)) (n+1)->Q .cE H')
structure Dk6(P:Program)(w:World)(K:Frag)(mg:Aad)(base:Heap)(C:Addr):Prop where
 iR:qZ P w K mg base C 4 "fresh_unknowns" ["self","atom"] (Dk P w K C)
 jo:qZ P w K mg base C 5 "tails_of_maps" ["self","atom"] (NL P w K C)
 narrowed:dP P w K mg base 3 "narrowed" ["counted_maps","unknowns","terms"] (yH P w K)
def nh:cD ["self","atom","needed","bound","longer","counted_map","tails","given","count"] ["self","atom","needed"] (defScope Dl):=jD (-3)
def X9(F:fq K "take" "Asking.take" Dl f fd)(T:Txt K mg)(O:Ec K C)(D:Dk6 P w K mg base C):dk P w K mg base fU 6 f fd ["self","atom","needed"] (PK P w K C):=by
 refine F.ok nh (λ_ _ _ _ h=>by cases h;subst_vars;rfl) (-4);obtain⟨self,at_,nd,dx,tb,kl,md,td,ex,fs,kept,maps,n,a,need,rfl,st,ha,fa,mo,lk,hn,Hc,Mx,hex,k⟩:=h;have hu:=jL hr;have hN:=yY hr;have cC:=O.c;refine{_,(aN (fJ 3 nh (dM aat (mw (pv 0) rfl) (MA cC D.iR hr (pv 0) (cz (pv 1)) ∅))) (aN (fJ 4 nh (eZ gM)) (aN (Ja (fQ bS rfl (XZ rfl T.EN (dR (GL (mw (pv 0) rfl)) (MA cC D.jo hr (pv 0) (cz (pv 1)) ∅))) (iY rfl (cA (ir 5 nh) (cA (ir 6 nh) g7))) (aN (xG (pv 5) (iY rfl (cA (ot (i:=7) nh.nd rfl (Or.inr rfl)) (cA (ot (i:=8) nh.nd rfl (Or.inr rfl)) g7)))) (a9 (lB (ox de nR nP GV (pv 4) (cz (g8 rfl (cU (fs:=["given","count"]) (fr:=[7,8])) (fX (pv 6)) (λ_ _ _ _=>(iZ (dR (dM (Tv (K:=K)) (pv 1) (pv 0)) (pv 2)))))))))))) (aN (xF (pv 0) (qb rfl (cU (fs:=["needed"]) (fr:=[2])) (fX (pv 3)) (λ_ _ _ _=>(I0 (Jr hu (pv 0) (pv 1)))) (λ_ _ _ _=>(pv 0))) rfl) (a9 (xF (pv 0) (cl D.narrowed hr (sO (pv 4) (pv 3) (mw (pv 0) rfl))) rfl)))))),?_}
 refine{_,rfl,self,C,dx,_,_,rfl,st.ins,O.c,O.kept,rfl,_,rfl,self,dx,_,rfl,st.ins,rfl,_,rfl,self,at_,dx,tb,kl,md,td,ex,fs,kept,maps,n,a,rfl,st,ha,fa,λfr H1 s1 hf0 vC=>?_};have lu:(hG kept a.2).length<=4:=aD (cj _ _) (aD (DG a.2) fa.1);have lb:(-43).length<=100:=by rw[aO];lia
 refine{kl,fr,_,_,rfl,rfl,s1 _ _ st.xR,vC,?_,λbd hbd=>?_}
 ·rw[ak,ak,<-aO];exact bu (bC ∅)
 have s2:=aM hbd (.lst (kept.map V.str++(hG kept a.2).map V.str));have RA:upd H1 bd (.lst (kept.map V.str++(hG kept a.2).map V.str)) bd=some (.lst ((-43).map V.str)):=by rw[aw,aJ]
 have sL:=s1.trans s2;generalize (upd H1 bd (.lst (kept.map V.str++(hG kept a.2).map V.str)))=H2 at s2 RA sL⊢;refine{by show 0<=sizeLine;decide,λlg Ro=>?_};have s3:=aM Ro (.lst ([]:Aao));have mV:upd H2 lg (.lst ([]:Aao)) lg=some (.lst []):=aw;have CJ:=sL.trans s3;have lg0:H lg=none:=sL.free Ro;have blg:bd≠lg:=ba RA Ro;have hb3:=s3 _ _ RA;have pX:=st.same sL;have uc:iK P w K C (upd H2 lg (.lst ([]:Aao))) self dx tb kl md td (lg::ex) fs kept maps n:=by
  obtain⟨kvs,ck,l⟩:=pX.As;have c3:jw P w K H2 td (td::md::lg::ex) fs kvs:={ck.at_,λa known v h=>by
   obtain⟨d,e,tv⟩:=ck.all a known v h;exact{d,e,(tv.more Ro).less λb hb=>by simp only[aG]at hb⊢;rcases hb with h|h|h|h<;>simp[h]}}
  have x:=pX.same s3;exact{x.ins,x.tab,x.xR,x.wo,{kvs,c3.same s3,l},x.nm,x.nt,λz=>(aG.mp z).elim (ba pX.xR Ro) pX.ke}
 generalize (upd H2 lg (.lst ([]:Aao)))=H3 at s3 mV CJ hb3 uc⊢;obtain⟨nt3,nl3⟩:=uc.Mt;obtain⟨ady,hm3,_⟩:=id uc.wo;have Qz:∀u v,H3 md≠some (.c7 u v):=λu v e=>by rcases hm3.1 with q|⟨_,q⟩<;>rw[e]at q<;>cases q
 refine{md,Qz,?_};refine{_,rfl,self,C,dx,_,_,rfl,uc.ins,O.c,O.maps,rfl,md,ady,rfl,hm3,λvw xX=>?_};have s4:=aM xX (.ext (ur vw md));have hv4:upd H3 vw (.ext (ur vw md)) vw=some (.ext (ur vw md)):=aw;have wd:=uc.same s4;have rj:=CJ.trans s4;have vtd:vw≠td:=λz=>by obtain⟨_,c,_⟩:=uc.As;obtain⟨_,h⟩:=c.at_.some;rw[z,h]at xX;cases xX
 have wF:=s4 _ _ mV;have hb4:=s4 _ _ hb3;generalize (upd H3 vw (.ext (ur vw md)))=H4 at s4 hv4 wd rj wF hb4⊢;obtain⟨nt4,VR⟩:=wd.Mt;refine{_,rfl,self,dx,_,rfl,wd.ins,rfl,_,rfl,self,at_,dx,tb,kl,md,td,lg::ex,fs,kept,maps,n,a,rfl,wd,sE ha rj,fa,mo,by lia,λb hb=>(aG.mp hb).elim (λz=>{.lst [],by rw[z];exact wF}) λz=>{_,rj _ _ (hex b z).2.choose_spec},λtl tys H5 GF Uc Ub oJ qK=>?_};obtain⟨qG,wD,em⟩:=id oJ.wo;obtain⟨um,Ka⟩:=wD.some;have E5:H5 lg=some (.lst []):=GF _ _ (λz=>VR _ (by rw[<-z];exact wF)) wF;have hb5:=GF _ _ (λz=>VR _ (by rw[<-z];exact hb4)) hb4;have tlg:tl≠lg:=λz=>by rw[z,wF]at Uc;cases Uc
 refine{vw,md,um,tl,qG,tys,rfl,GF _ _ vtd hv4,Ka,wD,bo.of Ub,λo=>?_};have CO:tys.length=maps.length:=bw qK;have QN:qG.length=maps.length:=by have:=bU List.length em;unfold tm at this;rw[ak,ak]at this;exact this
 have GQ:=wD.qD;have Ey:SB md H5 (upd H5 md (.c7 o um)):=λb u n e=>by rw[aE n];exact e
 have Ig:=Ey.tp GQ;have nlm:∀{b:Addr}{l:Aao},H5 b=some (.lst l)->b≠md:=λ{b l} e z=>wD.uG l (by rw[<-z];exact e);have C4:=Ey _ _ (nlm E5) E5;have aa2:=Ey _ _ (nlm Ub) Ub;have aa1:=Ii qK (λb u n e=>Ey b u (λz=>n (by rw[z];exact aB _ aA)) e) Ig;have wC:upd H5 md (.c7 o um) md=some (.c7 o um):=aw;have gv:∀(i:Nat)(q:NK×Addr×V),qG[i]?=some q->∃x,maps[i]?=some x/\q.2.2=.int x.2/\bF K (upd H5 md (.c7 o um)) q.2.1 (x.1.map V.str):=λi q hq=>by
  have e1:(tm maps)[i]?=some (q.1,q.2.2):=by rw[<-em,aK,hq];rfl
  unfold tm at e1;rw[aK]at e1;obtain⟨x,e2,e3⟩:=aX.mp e1;have e4:fR x.1=q.1:=bU Prod.fst e3;have e5:V.int x.2=q.2.2:=bU Prod.snd e3;have:=(wD.2 q (aH hq)).1;rw[<-e4]at this;exact{x,e2,e5.symm,pb (EM this) Ig}
 generalize WL:upd H5 md (.c7 o um)=Hf at C4 aa2 aa1 wC gv Ig⊢;have VM:iN Hf lg:=nv C4;refine RH (K:=K) (d:=md) (l:=tl) (o:=o) (u:=um) (kvs:=qG.map λp=>(V.ref p.2.1,p.2.2)) (ys:=tys)
  (λi Z H6=>∃x5 x6 x7 x8:Aap,Z=[some (.ref self),some (.ref at_),some (.ref nd),some (.ref bd),some (.ref lg),x5,x6,x7,x8]/\i<=maps.length/\SB lg Hf H6/\∃zs,H6 lg=some (.lst zs)/\Paired (wI K H6) zs (A1 fs kept a (maps.take i))) (by rw[ak,QN,CO])
  {none,none,none,none,rfl,aP _,λ_ _ _ e=>e,[],C4,.nil} (λi Z H6 _ ⟨_,_,_,_,_,_,sb,_⟩=>{sb _ _ (λz=>by rw[z,C4]at wC;cases wC) wC,bo.of (sb _ _ tlg aa2)}) ?_ ?_
 ·rintro i kv y p q Z H6 D1 jd hy ⟨x5,x6,x7,x8,rfl,hi,mn,zs,rB,J4⟩ hq hp nr;rw[aK]at jd;obtain⟨c,hc,rfl⟩:=aX.mp jd;obtain⟨x,hx,ex,hg⟩:=gv i c hc;have bJ:i<maps.length:=(ax.mp hx).1;obtain⟨x',xW,t,zz,rfl,nt',ht,MR⟩:=Paired.at' aa1 hy;rw[hx]at xW;cases xW;have acY:t≠lg:=λz=>nt' (by rw[z];simp);dsimp only at hp hq⊢;rw[ex]at hp⊢;have s7:=(aM hq (.tup [V.ref c.2.1,V.int x.2])).trans (aM hp (.tup [V.ref q,V.ref t]));have hq7:upd (upd H6 q (.tup [V.ref c.2.1,V.int x.2])) p (.tup [V.ref q,V.ref t]) q=some (.tup [V.ref c.2.1,V.int x.2]):=(aM hp _) _ _ aw;refine{p,_,rfl,bF.of aw,rfl,_,_,rfl,_,_,rfl,rfl,?_};have Ax:=mn.trans (SB.same s7);have zV:=s7 _ _ rB;have Wc:=nj J4 (dw.same s7);generalize (upd (upd H6 q (.tup [V.ref c.2.1,V.int x.2])) p (.tup [V.ref q,V.ref t]))=H7 at s7 hq7 Ax zV Wc⊢;have tp7:=Ax.tp VM;have Hg:=pb hg tp7;have ht7:=Ax _ _ acY ht;have MS:=iE MR tp7;have lzz:zz.length=(uY fs kept a x.1).length:=MR.length;have l7:=LU st.tab kept a x.1;refine{_,rfl,q,_,rfl,bF.of hq7,rfl,_,_,rfl,_,_,rfl,rfl,?_};refine{_,rfl,.inl {rfl,_,bo.of zV},_,rfl,t,rfl,{_,bo.of ht7},jg (K:=K) (a:=t) (xs:=zz) (λj ws H8=>bq H7 H8/\j<=zz.length/\Paired (wI K H8) ws (((uY fs kept a x.1).take j).map λt=>(x.1++t,x.2))) (bC ∅) {λ_ _ e=>e,aP _,.nil} ?_ ?_ ?_}
  ·rintro j ws H8 hj ⟨s8,hj2,hw⟩;refine{bo.of (s8 _ _ ht7),?_};rw[bw hw,ak,aT];lia
  ·rintro j v ws H8 N hv ⟨s8,hj,hw⟩ vE;obtain⟨u,xY,ua,rfl,hua⟩:=Paired.at' (cM MS s8) hv;have sW:j<zz.length:=(ax.mp hv).1;refine gu ?_;have hg8:=ip Hg s8;have fin:∀(r:Addr)(H9:Hp),bq H8 H9->bF K H9 r ((x.1++u).map V.str)->∀w9,H9 w9=none->N (ws++[.ref w9]) (upd H9 w9 (.tup [V.ref r,V.int x.2])):=λr H9 s9 hr9 w9 G3=>by have mq:=s9.trans (aM G3 (.tup [V.ref r,V.int x.2]));refine vE _ _ {s8.trans mq,sW,?_};rw[bg,xY,cL,aJ];exact(nj hw (dw.same mq)).snoc {w9,r,rfl,bF.of aw,ip hr9 (aM G3 _)}
   refine{_,rfl,_,rfl,c.2.1,ua,_,_,rfl,rfl,hg8,hua,?_,λe=>?_,λ_ e=>?_,λ_ _ r Wq=>?_}
   ·rw[ak,ak];have h1:=(mo.row x (aH hx)).1;have h2:=(LS st.tab (aH xY)).1;exact bu (bC ∅)
   ·have e':x.1=[]:=mM.mp e;exact{_,rfl,by show 2<=sizeLine;decide,λw9 G3=>fin ua H8 (λ_ _ e=>e) (by rw[e'];exact hua) w9 G3}
   ·have e':u=[]:=mM.mp e;exact{_,rfl,by show 2<=sizeLine;decide,λw9 G3=>fin c.2.1 H8 (λ_ _ e=>e) (by rw[e',b6];exact hg8) w9 G3}
   ·exact{_,rfl,by show 2<=sizeLine;decide,λw9 G3=>fin r _ (aM Wq _) (by rw[aJ];exact bF.of aw) w9 G3}
  rintro ws H8 ⟨s8,_,hw⟩ cl zW;rw[lzz,aV]at hw;have s9:=s8.trans (aM zW (.lst ws));have lws:ws.length<=5:=by rw[bw hw,ak];exact l7
  have lzs:zs.length<=5*maps.length:=by rw[bw J4];refine aD (B2 st.tab) ?_;rw[aT];lia
  have lm:=mo.je;refine{lg,cl,zs,ws,rfl,rfl,s9 _ _ zV,aw,bu (eJ (show zs.length+ws.length<=4000000 by lia) (-8)),?_};have PF:dw (upd H8 cl (.lst ws)) (upd (upd H8 cl (.lst ws)) lg (.lst (zs++ws))):=dw.upd (nv (s9 _ _ zV));refine nr _ _ {_,_,_,_,rfl,bJ,λb u n e=>?_,_,aw,?_}
  ·rw[aE n];exact s9 _ _ (Ax _ _ n e)
  ·rw[TX hx];exact Jt (nj Wc ((dw.same s9).trans PF)) (nj hw ((dw.same (aM zW (.lst ws))).trans PF))
 ·rintro Z H6 ⟨x5,x6,x7,x8,rfl,_,mn,zs,rB,J4⟩;rw[ak,QN,aV]at J4;have mlg:md≠lg:=λz=>by rw[z,C4]at wC;cases wC
  have hm6:=mn _ _ mlg wC;refine{o,um,hm6,?_};have K5:SB lg H5 (upd H6 md um):=λb u n e=>by
   by_cases z:b=md
   ·rw[z,Ka]at e;cases e;rw[z,aw]
   ·rw[aE z];exact mn _ _ n (by rw[<-WL,aE z];exact e)
  have nt6:iN H6 md:=λxs q=>by rcases q with q|⟨o',q⟩<;>rw[hm6]at q<;>cases q;exact GQ xs (.inl Ka)
  have Ba:upd H6 md um lg=some (.lst zs):=by rw[aE (cb mlg)];exact rB
  have J5:=nj J4 (dw.upd (o:=um) nt6);have SF:=K5.tp (nv E5);generalize (upd H6 md um)=H9 at K5 Ba J5 SF⊢;have hb9:=K5 _ _ blg hb5;have K0:SB td H H9:=λb u n e=>K5 _ _ (λz=>by rw[z,lg0]at e;cases e) (GF _ _ n (rj _ _ e));obtain⟨nt0,Qy⟩:=st.Mt;have ac0:=st.tab.sb K0 nt0 Qy st.nt;obtain⟨kvd,OE,abf⟩:=Hc;have aei:=K0 _ _ Mx OE;have aaP:=K5 _ _ (λz=>by have q:=oJ.ins;rw[z,E5]at q;cases q) oJ.ins;obtain⟨V5,c5,lc⟩:=oJ.As;have acX:td≠lg:=λz=>c5.at_.uG _ (by rw[z];exact E5);have c9:jw P w K H9 td (self::td::md::lg::ex) fs V5:=by refine c5.to SF ?_ λd f tv=>(tv.fr (λb u n e=>K5 _ _ (λz=>n (by rw[z];simp)) e) SF).EL aaP;obtain⟨u,h⟩:=c5.at_.some;rw[h,K5 _ _ acX h]
  have lbd:((-43).map V.str).length=(-43).length:=ak _;refine{_,rfl,bd,rfl,{_,bo.of hb9},jg (K:=K) (a:=bd) (xs:=(-43).map V.str) (λj ws yx=>yx=H9/\j<=(-43).length/\ws=(((-43).take j).filter need).map V.str) (by rw[lbd];exact bC ∅) {rfl,aP _,rfl} ?_ ?_ ?_}
  ·rintro j ws yx hj ⟨rfl,_,rfl⟩;refine{bo.of hb9,?_};rw[ak];exact aD (cj _ _) (by rw[aT];lia)
  ·rintro j v ws yx N hv ⟨rfl,hj,rfl⟩ vE;obtain⟨z,hz,rfl⟩:=js hv;have sW:j<(-43).length:=(ax.mp hz).1;refine{_,rfl,_,rfl,nd,_,rfl,kR.k (k:=Sum.inr z) aei,_,rfl,?_};have en:((-43).take (j+1)).filter need=((-43).take j).filter need++if need z=true then[z]else[]:=by rw[bg,hz,cL,fb];congr 1;cases c:need z<;>simp[c]
   refine fm (λc=>{_,rfl,vE _ _ {rfl,sW,?_}}) (λc=>vE _ _ {rfl,sW,?_})
   ·rw[en,aC ((abf z).mp c),aJ];rfl
   ·rw[en,az (λq=>c ((abf z).mpr q)),b6]
  rintro ws yx ⟨rfl,_,rfl⟩ rm Ur;rw[lbd,aV];generalize MW:(-43).filter need=kp;have mq:=aM Ur (.lst (kp.map V.str));have Us:upd yx rm (.lst (kp.map V.str)) rm=some (.lst (kp.map V.str)):=aw;have wt:=mq _ _ aaP;have NH:=ac0.same mq;have W4:=c9.same mq;have yW:=mq _ _ Ba;have Uw:=mq _ _ hb9;have Oz:=nj J5 (dw.same mq);have W9:SB td H (upd yx rm (.lst (kp.map V.str))):=K0.trans (SB.same mq);generalize (upd yx rm (.lst (kp.map V.str)))=wL at mq Us wt NH W4 yW Uw Oz W9⊢;refine{_,rfl,self,C,dx,_,rfl,wt,O.c,O.kept,by show 4<1000;decide,?_};have aaB:∀{b:Addr}{u:HO},wL b=some u->(∀l,u≠ .ins C dx l)->b≠self:=λ{b u} e n z=>by rw[z,wt]at e;cases e;exact n _ rfl
  have ntS:iN wL self:=AS wt;have nlS:∀l,wL self≠some (.lst l):=λl e=>by rw[wt]at e;cases e
  have KS:SB self wL (upd wL self (-40)):=λb u n e=>by rw[aE n];exact e
  have Ox:upd wL self (-40) self=some (.ins C dx [("tables",.ref tb),("kept",.ref rm),("maps",.ref md),("tails",.ref td)]):=by rw[aw];rfl
  generalize (upd wL self (-40))=H12 at KS Ox⊢;have tpS:=KS.tp ntS;have nL:∀{b:Addr}{l:Aao},wL b=some (.lst l)->b≠self:=λ{b l} e z=>nlS l (by rw[<-z];exact e);have Io:tb≠self:=λz=>by rw[<-z,NH.at_]at wt;cases wt
  have abY:=NH.sb KS ntS nlS Io;have Vm:td≠self:=λz=>W4.at_.EL (by rw[z];exact wt);have W3:jw P w K H12 td (self::td::md::lg::ex) fs V5:=by refine W4.fr (λb u n e=>KS _ _ (λz=>n (by rw[z];simp)) e) tpS ?_;obtain⟨u,h⟩:=W4.at_.some;rw[h,KS _ _ Vm h]
  have abn:=KS _ _ (nL Us) Us;have F1:=KS _ _ (nL yW) yW;have aeq:=KS _ _ (nL Uw) Uw;have T8:=nj Oz tpS;have lkp:kp.length<=100:=by rw[<-MW];exact aD (cj _ _) lb
  have skb:tE (-43):=λz hz=>by
   rcases bf.mp hz with hz|hz
   ·exact mo.sok z hz
   ·exact fa.2.2.1 z ((uN (bV.mp hz).1).resolve_left λh=>by cases h)
  have skp:tE kp:=λz hz=>by rw[<-MW]at hz;exact skb z (bV.mp hz).1
  have lm:=mo.je;refine{_,rfl,_,rfl,_,rfl,self,C,dx,_,_,rfl,Ox,O.c,O.kept,rfl,lg,bd,rm,zs,A1 fs kept a maps,kept++hG kept a.2,kp,rfl,bo.of F1,T8,bo.of aeq,Lv a.2 mo.nd,lb,.inl (bo.of abn),lkp,skp,λy hy=>?_,aD (B2 st.tab) ∅,λzN HB IM Kh rc=>?_}
  ·obtain⟨x,hx,t,ht,rfl⟩:=Yp hy;obtain⟨g1,g2⟩:=mo.row x hx;obtain⟨g3,g4⟩:=LS st.tab ht;refine{by rw[aO,aO,g1,g3],λz hz=>?_};rcases bf.mp hz with hz|hz
   ·exact g2 z hz
   ·exact g4 z hz
  have Oy:=IM _ _ Ox;refine{_,rfl,self,C,dx,_,rfl,Oy,O.c,O.maps,by show 4<1000;decide,?_};have KF:SB self HB (upd HB self (-41)):=λb u n e=>by rw[aE n];exact e
  have aaO:upd HB self (-41) self=some (.ins C dx [("tables",.ref tb),("kept",.ref rm),("maps",.ref zN),("tails",.ref td)]):=by rw[aw];rfl
  generalize (upd HB self (-41))=HF at KF aaO⊢;have ntF:iN HB self:=AS Oy;have nlF:∀l,HB self≠some (.lst l):=λl e=>by rw[Oy]at e;cases e
  have tpF:=KF.tp ntF;have m2s:zN≠self:=λz=>by rw[z,Ox]at Kh;cases Kh
  have m2t:zN≠td:=λz=>by obtain⟨u,h⟩:=W3.at_.some;rw[z,h]at Kh;cases Kh
  have abm:=IM _ _ abn;have cF:jw P w K HF td (td::zN::ex) fs V5:=by
   have e13:HB td=H12 td:=by obtain⟨u,h⟩:=W3.at_.some;rw[h,IM _ _ h]
   have eF:HF td=HB td:=by obtain⟨u,h⟩:=W3.at_.some;rw[e13,h,KF _ _ Vm (by rw[e13];exact h)]
   refine W3.to ((dw.same IM).trans tpF) (by rw[eF,e13]) λd f tv=>(((tv.more Kh).same IM).fr (λb u n e=>KF _ _ (λz=>n (by rw[z];simp)) e) tpF).less λb hb=>?_;simp only[aG]at hb⊢;rcases hb with h|h|h<;>simp[h]
  refine k rm zN HF (λb u n1 n2 e=>?_) {aaO,(abY.same IM).sb KF ntF nlF Io,?_,?_,⟨V5,cF,lc⟩,m2t,st.nt,λz=>?_}
  ·exact KF _ _ n2 (IM _ _ (KS _ _ n2 (W9 _ _ n1 e)))
  ·rw[MW];exact KF _ _ (λz=>nlF _ (by rw[<-z];exact abm)) abm
  ·rw[MW];exact rc.c.sb KF ntF m2s
  ·obtain⟨n,u,e⟩:=hex _ z;rw[K0 _ _ n e]at Ur;cases Ur
inductive IC(P:Program)(w:World)(K:Frag)(C:Addr)(vs:Aao)(H:Hp)(Q:VK)(_x3:XK):Prop
 |mk (self tb dx:Addr) (fs:List En) (_:vs=[.ref self,.ref tb]) (_:H self=some (.ins C dx [])) (_:gW K H tb fs) (_:∀(kl md td:Addr)(H':Hp),SB self H H'->H td=none->iK P w K C H' self dx tb kl md td [] fs [] [([],1)] 0->Q .cE H')
def HE:cD ["self","tables"] ["self","tables"] (defScope vc):=jD (-3)
def TF(F:fq K "__init__" "Asking.__init__" vc f fd)(T:Txt K mg)(O:Ec K C):dk P w K mg base fU 1 f fd ["self","tables"] (IC P w K C):=by
 refine F.ok HE (λ_ _ _ _ h=>by cases h;subst_vars;rfl) (-4);obtain⟨self,tb,dx,fs,rfl,hs,tab,k⟩:=h;have hN:=yY hr;refine{_,(aN (xF (pv 0) (pv 1) rfl) (aN (xF (pv 0) (eZ gM) rfl) (aN (xF (pv 0) (Qi hN (Th (iZ gM) bh XY) rfl rfl (-9) (by show 1<=15;decide)) rfl) (a9 (xF (pv 0) jy rfl))))),?_}
 have CM:∀{H:Hp}{l:List (Str×V)},H self=some (.ins C dx l)->iN H self/\(∀q,H self≠some (.lst q)):=λe=>{AS e,λq e'=>by rw[e]at e';cases e'};have up:∀{H:Hp}{o:HO},SB self H (upd H self o):=λb u n e=>by rw[aE n];exact e
 have Io:tb≠self:=λz=>by rw[<-z,tab.at_]at hs;cases hs
 refine{_,rfl,_,rfl,self,C,dx,[],rfl,hs,O.c,O.tables,by decide,?_};have ZA:=tab.sb (up (o:=.ins C dx (fu "tables" (.ref tb) []))) (CM hs).1 (CM hs).2 Io;have sb1:SB self H (upd H self (.ins C dx (fu "tables" (.ref tb) []))):=up;have wz:upd H self (.ins C dx (fu "tables" (.ref tb) [])) self=some (.ins C dx [("tables",.ref tb)]):=aw;generalize (upd H self (.ins C dx (fu "tables" (.ref tb) [])))=H1 at ZA sb1 wz⊢;refine{by show 0<=sizeLine;decide,λkl MX=>?_};have s2:=aM MX (.lst ([]:Aao));have Rq:upd H1 kl (.lst ([]:Aao)) kl=some (.lst []):=aw;have Zz:=ZA.same s2;have Ez:=sb1.trans (SB.same s2);have kH:=s2 _ _ wz;generalize (upd H1 kl (.lst ([]:Aao)))=H2 at s2 Rq Zz Ez kH⊢;refine{_,rfl,self,C,dx,_,rfl,kH,O.c,O.kept,by show 1<1000;decide,?_};have SI:=Zz.sb (up (o:=.ins C dx (-62))) (CM kH).1 (CM kH).2 Io;have GG:=Ez.trans (up (o:=.ins C dx (-62)));have kls:kl≠self:=λz=>by rw[<-z,Rq]at kH;cases kH
 have hk3:=(up (o:=.ins C dx (-62))) _ _ kls Rq;have Kd:upd H2 self (.ins C dx (-62)) self=some (.ins C dx [("tables",.ref tb),("kept",.ref kl)]):=by rw[aw];rfl
 generalize (upd H2 self (.ins C dx (-62)))=H3 at SI GG hk3 Kd⊢;intro md hmd;have s4:=aM hmd (.dK []);have Ki:upd H3 md (.dK []) md=some (.dK []):=aw;generalize (upd H3 md (.dK []))=H4 at s4 Ki⊢;refine{by show 0<=sizeLine;decide,λe he=>?_};have s5:=aM he (.tup ([]:Aao));have he5:upd H4 e (.tup ([]:Aao)) e=some (.tup []):=aw;generalize (upd H4 e (.tup ([]:Aao)))=H5 at s5 he5⊢;have key:jA K H5 (fR []) e:=yU (bF.of he5) λz hz=>by cases hz
 have wD:=s5 _ _ Ki;refine{e,fR [],.int 1,rfl,key,wD,?_};have GI:=s4.trans s5;have um:SB md H5 (-49):=λb u n q=>by rw[aE n];exact q
 have GQ:iN H5 md:=rP wD;have nm:∀{b:Addr}{u:HO},H3 b=some u->b≠md:=λe z=>by rw[z,hmd]at e;cases e
 have Zy:gW K (-49) tb fs:=(SI.same GI).sb um GQ (λl q=>by rw[wD]at q;cases q) (nm SI.at_);have MY:=um _ _ (nm hk3) (GI _ _ hk3);have Rf:=um _ _ (nm Kd) (GI _ _ Kd);have rc6:RowC P w K (-49) md [([],1)]:={[(fR [],e,.int 1)],{.inl aw,λp hp=>by cases ay.mp hp;exact xS key (um.tp GQ)},rfl}
 have mn:SB self H (-49):=λb u n q=>um _ _ (nm (GG _ _ n q)) (GI _ _ (GG _ _ n q));generalize hH6:(upd H5 md (.ext (DN _ _ md _)))=H6;have e6:(-49)=H6:=hH6;rw[e6]at Zy MY Rf rc6 mn;clear hH6 e6 um;refine{_,rfl,self,C,dx,_,rfl,Rf,O.c,O.maps,by show 2<1000;decide,?_};have ms:md≠self:=cb (nm Kd);have SG:=Zy.sb (up (o:=.ins C dx (-25))) (CM Rf).1 (CM Rf).2 Io;have Ax:=mn.trans (up (o:=.ins C dx (-25)));have Wv:=(up (o:=.ins C dx (-25))) _ _ kls MY;have Z3:=rc6.sb (up (o:=.ins C dx (-25))) (CM Rf).1 ms;have Wl:upd H6 self (.ins C dx (-25)) self=some (.ins C dx [("tables",.ref tb),("kept",.ref kl),("maps",.ref md)]):=by rw[aw];rfl
 generalize (upd H6 self (.ins C dx (-25)))=H7 at SG Ax Wv Z3 Wl⊢;intro td C2;have s8:=aM C2 (.dK []);have Wj:upd H7 td (.dK []) td=some (.dK []):=aw;have Rc:=s8 _ _ Wl;have nt:∀{b:Addr}{u:HO},H7 b=some u->b≠td:=λe z=>by rw[z,C2]at e;cases e
 have h0:H td=none:=by
  cases q:H td with
  |none=>rfl
  |some u=>rw[Ax _ _ (λz=>by rw[z,Wl]at C2;cases C2) q]at C2;cases C2
 generalize (upd H7 td (.dK []))=H8 at s8 Wj Rc⊢;refine{_,rfl,self,C,dx,_,rfl,Rc,O.c,O.tails,by show 3<1000;decide,?_};have us:=up (H:=H8) (o:=.ins C dx (fu "tails" (.ref td) [("tables",.ref tb),("kept",.ref kl),("maps",.ref md)]));have Vm:td≠self:=cb (nt Wl);have mt:md≠td:=by obtain⟨_,h,_⟩:=Z3;obtain⟨_,h⟩:=h.some;exact nt h
 refine k kl md td _ (Ax.trans ((SB.same s8).trans us)) h0 {by rw[aw];rfl,(SG.same s8).sb us (CM Rc).1 (CM Rc).2 Io,us _ _ kls (s8 _ _ Wv),(Z3.same s8).sb us (CM Rc).1 ms,{[],{Gg (us _ _ Vm Wj),λa known v h=>by cases h},ar _},mt,nt SG.at_,λz=>by cases z}
def Ms(he:PE X e ta)(hb:attributeBase e f X.env (eval e X.env)=eval e X.env:=by rfl):PE X (.Attribute e f pos) (SM X.K ta f):=mw he hb
def K3(P:Program)(w:World)(K:Frag)(mg:Aad)(base:Heap)(C:Addr)(k:Nat)(x:Str)(ps:Aah)(sp:Sp):Prop:=∃f fd,Mk K C f/\dk P w K mg base fU k f fd ps sp/\mg x=some (.ref C)/\Binds K fd ps []
def mkO(D:K3 X.prog X.w X.K X.mg X.base C k x ps sp)(hr:gX j X.A)(ha:PA X (e::es) t)(hk:k+1<=j)(hg:Gl X x:=by rfl)
  (Bd:(-32)=false:=by decide) (he:starEach (e::es) X.env=(false,eval e X.env)::starEach es X.env:=by rfl) (ue:(-36).any (·.1)=false:=by rfl):
  PE X (-65) (Vq C sp [] E0 t):=by
 obtain⟨f,fd,M,F,m,b⟩:=D;exact X3 M F (hr.mono hk) hg m b .nil N7 ha Bd he ue
def Good(ats:Aaa):Prop:=∀a∈ats,a.2.length<=4/\(∀z∈a.2,pz z)/\1<=a.2.length/\yr a.1
def yw(hz:Aah)(ats:Aaa):Prop:=hz.length<=4/\∀z∈hz,pz z/\(isUnk z=true->z∈cQ ats)
def BU(h:pz z):PyData.strOk z=true/\z.length<=1000:={h.2.2,aD h.2.1 (-8)}
def Yk(h:yr z):PyData.strOk z=true:=h.2.2
def YD(g:Good ats):∀a∈ats,FinA a:=λa ha=>by obtain⟨h1,h2,_,h4⟩:=g a ha;exact{h1,Yk h4,λz hz=>(BU (h2 z hz)).1,λz hz=>(BU (h2 z hz)).2}
def Dh:z∈fM ts↔isUnk z=true/\z∈ts:=by
 constructor
 ·intro h;have gen:∀(l acc:Aah),(∀t∈acc,isUnk t=true)->∀t∈l.foldl step acc,isUnk t=true:=by
   intro l
   induction l with
   |nil=>intro acc h t ht;exact h t ht
   |cons x l ih=>
    intro acc h t ht;refine ih _ (λy hy=>?_) t ht;unfold step at hy;split at hy
    ·next c=>
     split at hy
     ·exact h y hy
     ·rcases bf.mp hy with hy|hy
      ·exact h y hy
      ·rw[ay.mp hy];exact c
    ·exact h y hy
  exact{gen ts [] (λt ht=>by cases ht) z h,(uN h).resolve_left λh=>by cases h}
 ·exactλ⟨h1,h2⟩=>Yl h1 h2
structure AskJ(fs:List En)(ats:Aaa)(hz:Aah)(S lf:Aaa)(kept:Aah)(maps:Cm):Prop extends AskP.AskI isUnk (dbT fs) ats hz S lf kept maps where
 fw:maps.length<=5^S.length
 ls:S.length+lf.length=ats.length
def QH(tab:gW K H tb fs)(g:Good ats)(la:ats.length<=4)(h:AskJ fs ats hz S lf kept maps):FE kept maps/\kept.length<=16:=by
 have hk:∀t∈kept,isUnk t=true/\t∈cQ ats/\pz t:=λt ht=>by obtain⟨u,⟨b,hb,Wi⟩,_⟩:=(h.kt t).mp ht;have hb:=(h.at_ b).mpr (.inl hb);exact{u,qj.mpr ⟨b,hb,Wi⟩,(g b hb).2.1 t Wi}
 have l6:kept.length<=16:=aD (mS (m:=cQ ats) h.nd λt ht=>(hk t ht).2.1) (aD (uQ ats λa ha=>(g a ha).1) ∅);have hv:∀a∈ats,∀r∈dbT fs a.1,∀x∈r,x∈cJ:=λa _ r hr x hx=>((tab.good a.1).2 r ((g9 _ _).mp hr)).2.2 x hx;refine{{h.nd,λt ht=>(BU (hk t ht).2.2).1,by lia,λx hx=>{h.len hx,λz hz=>sJ (h.vals hv hx z hz)},aD h.fw (aD (gw (n:=5) (j:=4) (-8) (by have:=h.ls;lia)) (-8))},l6}
structure Y5(fs:List En)(hz:Aah)(ats:Aaa)(m:Cm):Prop where
 nd:(m.map (·.1)).Nodup
 iff:∀row,row∈m.map (·.1)↔∃g,AskP.tD isUnk (dbT fs) ats g/\row=hz.map g
 je:m.length<=900
inductive IE(P:Program)(w:World)(K:Frag)(vs:Aao)(H:Hp)(Q:VK)(_x3:XK):Prop
 |mk (v:V) (tb:Addr) (fs:List En) (hz:Aah) (ats:Aaa) (_:vs=[v,.ref tb]) (_:FC H v hz ats) (_:Good ats) (_:yw hz ats) (_:ats.length<=4) (_:gW K H tb fs) (_:∀(d:Addr)(m:Cm)(H':Hp),bq H H'->Ph P w K H' d m->Y5 fs hz ats m->Q (.ref d) H')
structure Dc6(P:Program)(w:World)(K:Frag)(mg:Aad)(base:Heap)(C:Addr):Prop where
 T7:K3 P w K mg base C 1 "Asking" ["self","tables"] (IC P w K C)
 vq:qZ P w K mg base C 6 "best_place" ["self","atoms"] (PN P w K C)
 JR:qZ P w K mg base C 6 "take" ["self","atom","needed"] (PK P w K C)
 needed_terms:dP P w K mg base 1 "needed_terms" ["head","atoms"] (ID K)
 narrowed:dP P w K mg base 3 "narrowed" ["counted_maps","unknowns","terms"] (yH P w K)
theorem AN:∀{l₁:List α}{aac:List β}(i:Nat),Paired F l₁ aac->Paired F (l₁.eraseIdx i) (aac.eraseIdx i)
 |_,_,_,.nil=>.nil
 |_,_,0,.cons _ t=>t
 |_,_,i+1,.cons q t=>.cons q (AN i t)
def Lq{α:Type}{l:List α}{a:α}(h:l[i]?=some a):l=l.take i++a::l.drop (i+1)/\l.eraseIdx i=l.take i++l.drop (i+1):=by obtain⟨hi,e⟩:=ax.mp h;refine{?_,qq _ _};rw[<-e,<-eO hi,c8]
def iK.exL(x:iK P w K C H self dx tb kl md td ex fs kept maps n)(s:SB ll H H')(m:ll∈ex)(hl:H ll=some (-38))(tab:gW K H' tb fs):iK P w K C H' self dx tb kl md td ex fs kept maps n:=by
 have nt:iN H ll:=nv hl;obtain⟨kvs,c,l⟩:=x.As;obtain⟨qG,hm,em⟩:=id x.wo;have tl:td≠ll:=λz=>c.at_.uG _ (by rw[z];exact hl);refine{s _ _ (λz=>?_) x.ins,tab,s _ _ (λz=>x.ke (by rw[z];exact m)) x.xR,x.wo.sb s nt (λz=>hm.uG _ (by rw[z];exact hl)),{kvs,c.fr (λb u n e=>s _ _ (λz=>n (by rw[z];exact aB _ (aB _ m))) e) (s.tp nt) ?_,l},x.nm,x.nt,x.ke}
 ·have q:=x.ins;rw[z,hl]at q;cases q
 ·obtain⟨u,h⟩:=c.at_.some;rw[h,s _ _ tl h]
def lA:cD ["question","tables","head","atoms","asking","left","atom"] ["question","tables"] (defScope wX):=jD (-3)
def JC(F:fq K "counts_of" "counts_of" wX f fd)(T:Txt K mg)(O:Ec K C)(D:Dc6 P w K mg base C):dk P w K mg base fU 7 f fd ["question","tables"] (IE P w K):=by
 refine F.ok lA (λ_ _ _ _ h=>by cases h;subst_vars;rfl) (-4);obtain⟨v,tb,fs,hz,ats,rfl,⟨q,hd,aa,jr,rfl,hq,Wy,sX,nB⟩,good,br,la,tab,k⟩:=h;have hu:=jL hr;have hN:=yY hr;have cC:=O.c;refine{_,(aN (xG (pv 0) (iY rfl (cA (ir 2 lA) (cA (ir 3 lA) g7)))) (aN (fJ 4 lA (mkO D.T7 hr (cz (pv 1)) ∅)) (aN (fJ 5 lA (dF vI rfl T.vk (-3) (cz (pv 3)))) (aN (Tg bS (IY (pv 5) (λ_=>rfl)) (aN (fJ 6 lA (ox de PySem.F.slot_list_pop PySem.F.type_list_pop TR (pv 5) (cz (MA cC D.vq hr (pv 4) (cz (pv 5)) ∅)))) (a9 (lB (MA cC D.JR hr (pv 4) (dR (pv 6) (cl D.needed_terms hr (dR (pv 2) (pv 5)))) ∅))))) (a9 (cN (cl D.narrowed hr (sO (dF (Fv hr.hd) rfl T.vk (-3) (cz (GL (Ms (pv 4))))) (Ms (pv 4)) (pv 2))))))))),?_}
 refine{_,rfl,q,_,rfl,bF.of hq,rfl,_,_,rfl,_,_,rfl,rfl,?_};refine{_,rfl,λx dx hx hdx ne=>?_};have s1:bq H (upd (upd H dx (.own x)) x (.ins C dx [])):=λb u h=>by rw[aE (ba h hx),aE (ba h hdx)];exact h
 have zP:upd (upd H dx (.own x)) x (.ins C dx []) x=some (.ins C dx []):=aw;generalize (upd (upd H dx (.own x)) x (.ins C dx []))=H1 at s1 zP⊢;refine{x,tb,dx,fs,rfl,zP,tab.same s1,λkl md td H2 Ez C2 pX=>{rfl,?_}};have h0t:H td=none:=s1.free C2;have sL:bq H H2:=λb u e=>Ez _ _ (ba e hx) (s1 _ _ e);refine{_,rfl,aa,jr,rfl,.inr (bF.of (sL _ _ sX)),λll qL=>?_};have s3:=aM qL (.lst jr);have mV:upd H2 ll (.lst jr) ll=some (.lst jr):=aw;have CJ:=sL.trans s3;have RF:H ll=none:=sL.free qL;have uc:iK P w K C (upd H2 ll (.lst jr)) x dx tb kl md td [ll] fs [] [([],1)] 0:=by
  obtain⟨kvs,ck,l⟩:=pX.As;have c3:jw P w K H2 td (td::md::[ll]) fs kvs:={ck.at_,λa known v h=>by
   obtain⟨d,e,tv⟩:=ck.all a known v h;exact{d,e,(tv.more qL).less λb hb=>by simp only[aG,List.not_mem_nil,or_false]at hb⊢;rcases hb with h|h|h<;>simp[h]}}
  have y:=pX.same s3;exact{y.ins,y.tab,y.xR,y.wo,{kvs,c3.same s3,l},y.nm,y.nt,λz=>ba pX.xR qL (ay.mp z)}
 generalize (upd H2 ll (.lst jr))=H3 at s3 mV CJ uc⊢;clear s3 pX Ez sL qL;have fin:=YD good;refine{λm Z H4=>∃(kl md n:Nat)(ys:Aao)(lf S:Aaa)(kept:Aah)(maps:Cm)(x6:Aap),m=lf.length/\Z=[some (.ref q),some (.ref tb),some (.ref hd),some (.ref aa),some (.ref x),some (.ref ll),x6]/\bq H H4/\iK P w K C H4 x dx tb kl md td [ll] fs kept maps n/\H4 ll=some (-38)/\fg H4 ys lf/\AskJ fs ats hz S lf kept maps/\n+101*lf.length<=808,
  {ats.length,kl,md,0,jr,ats,[],[],[([],1)],none,rfl,rfl,CJ,uc,mV,Bx nB CJ,{AskP.AskI.start,ar _,vO _},by lia},?_}
 rintro m Z H4 ⟨kl,md,n,ys,lf,S,kept,maps,x6,rfl,rfl,s4,wd,wF,rp,aj,hn⟩;have ly:ys.length=lf.length:=bw rp;obtain⟨mo,l6⟩:=QH wd.tab good la aj;obtain⟨nt4,VR⟩:=wd.Mt;have MD:∀b∈lf,b∈ats:=λb hb=>(aj.at_ b).mpr (.inr hb);have lla:lf.length<=8:=by lia
 refine{_,rfl,_,.inl {_,bo.of wF,rfl},?_};cases C4:lf with
 |cons a0 lr=>
  have ie:0<lf.length:=by rw[C4];exact qY _
  have hye:(!ys.isEmpty)=true:=by
   cases ys with
   |nil=>rw[<-ly]at ie;exact absurd ie (dD _)
   |cons _ _=>rfl
  rw[hye];rw[<-C4];have V1:ll≠td:=λz=>VR _ (by rw[<-z];exact wF);refine F0 {_,λσ' H' h=>h,?_};refine{_,rfl,.inl {rfl,_,bo.of wF},_,rfl,x,dx,_,rfl,wd.ins,rfl,_,rfl,x,ll,dx,tb,kl,md,td,[ll],fs,kept,maps,n,ys,lf,rfl,wd,wF,rp,λb hb=>fin b (MD b hb),ie,by lia,mo,by lia,λb hb=>{by rw[ay.mp hb];exact V1,.lst ys,by rw[ay.mp hb];exact wF},λi H5 hi GF oJ=>?_};have E5:=GF _ _ V1 wF;have aaZ:=Fy rp GF nt4;have s5:bq H H5:=λb u e=>GF _ _ (ba e h0t) (s4 _ _ e);obtain⟨a,ha⟩:∃a,lf[i]?=some a:={_,au hi};obtain⟨y,hy⟩:∃y,ys[i]?=some y:={_,au ∅};obtain⟨a',ha',hya⟩:=Paired.at aaZ hy;rw[ha]at ha';cases ha';obtain⟨ap,at_,rfl,_⟩:=id hya;have fa:=fin a (MD a (aH ha));refine{ll,ys,i,i,.ref ap,rfl,rfl,E5,by lia,by lia,PySem.StrLaws.seqIndex_nonneg ∅ ∅,hy,?_};have mn:SB ll H5 (upd H5 ll (.lst (ys.eraseIdx i))):=λb u n e=>by rw[aE n];exact e
  have VM:iN H5 ll:=nv E5;have rB:upd H5 ll (.lst (ys.eraseIdx i)) ll=some (.lst (ys.eraseIdx i)):=aw;have s6:bq H (upd H5 ll (.lst (ys.eraseIdx i))):=λb u e=>mn _ _ (ba e RF) (s5 _ _ e);have T9:=Fy (AN i aaZ) mn VM;have aa0:=By hya mn VM;have mi:iK P w K C (upd H5 ll (.lst (ys.eraseIdx i))) x dx tb kl md td [ll] fs kept maps (n+100):=oJ.exL mn aA E5 (tab.same s6);generalize (upd H5 ll (.lst (ys.eraseIdx i)))=H6 at mn rB s6 T9 aa0 mi⊢;obtain⟨e1,e2⟩:=Lq ha;have lfe:∀b∈lf.eraseIdx i,b∈lf:=λb hb=>List.mem_of_mem_eraseIdx hb;have lle:(lf.eraseIdx i).length=lf.length -1:=mD hi;refine{_,rfl,x,dx,_,rfl,mi.ins,rfl,_,rfl,_,rfl,_,rfl,hd,ll,hz,ys.eraseIdx i,lf.eraseIdx i,rfl,bF.of (s6 _ _ Wy),bo.of rB,T9,?_,by lia,λb hb=>?_,λnd H7 s7 OE Hc=>?_}
  ·have:=br.1;lia
  ·have:=(fin b (MD b (lfe b hb))).1;lia
  have u5:=mi.same s7;have Mx:nd≠td:=λz=>by obtain⟨_,c,_⟩:=mi.As;obtain⟨_,h⟩:=c.at_.some;rw[z,h]at OE;cases OE
  refine{x,ap,nd,dx,tb,kl,md,td,[ll],fs,kept,maps,n+100,a,λz=>decide (z∈hz\/∃b∈lf.eraseIdx i,z∈b.2),rfl,u5,sE aa0 s7,fa,mo,by lia,by lia,?_,Mx,λb hb=>{by rw[ay.mp hb];exact V1,.lst (ys.eraseIdx i),by rw[ay.mp hb];exact s7 _ _ rB},λrm zN H8 WT st8=>?_}
  ·obtain⟨kvs,h1,h2⟩:=Hc;exact{kvs,h1,λz=>(h2 z).trans jf.symm}
  have aaB:∀{l:Aao}{b:Addr},H7 b=some (.lst l)->b≠x:=λ{l b} e z=>by have:=u5.ins;rw[<-z,e]at this;cases this
  have zV:=s7 _ _ rB;have hl8:=WT _ _ V1 (aaB zV) zV;have ad4:fg H8 (ys.eraseIdx i) (lf.eraseIdx i):=by
   have h7:=Bx T9 s7;obtain⟨nt7,_⟩:=u5.Mt;generalize ys.eraseIdx i=ye at h7⊢;generalize lf.eraseIdx i=le at h7⊢;clear hl8 zV
   induction h7 with
   |nil=>exact .nil
   |cons h _ ih=>
    obtain⟨p,t,e,h1,h2⟩:=h;have nx:∀{b:Addr}{l:Aao},H7 b=some (.tup l)->b≠td/\b≠x:=λ{b l} e=>{λz=>nt7 _ (.inl (by rw[<-z];exact e)),λz=>by have:=u5.ins;rw[<-z,e]at this;cases this}
    exact .cons {p,t,e,WT _ _ (nx h1).1 (nx h1).2 h1,WT _ _ (nx h2).1 (nx h2).2 h2} ih
  have s8:bq H H8:=λb u e=>WT _ _ (ba e h0t) (ba e hx) (s7 _ _ (s6 _ _ e));have aj8:AskJ fs ats hz (a::S) (lf.eraseIdx i) ((-43).filter λz=>decide (z∈hz\/∃b∈lf.eraseIdx i,z∈b.2)) (AskP.narrowed (A1 fs kept a maps) (-43) ((-43).filter λz=>decide (z∈hz\/∃b∈lf.eraseIdx i,z∈b.2))):=by
   rw[e1]at aj;have:=aj.step (known:=jV kept a.2) (fresh:=hG kept a.2) (need:=λz=>decide (z∈hz\/∃b∈lf.eraseIdx i,z∈b.2)) (λt=>?_) ((yD a.2).sublist mN) rfl (λt=>?_)
   ·rw[<-e2]at this;refine{this,aD AskP.AW (aD (B2 (K:=K) tab) ?_),by have:=aj.ls;rw[lle,bx];rw[<-e1]at this;lia};rw[bx,jZ,BG];exact Nat.mul_le_mul_right _ aj.fw
   ·unfold hG;rw[bV,jf,Dh];exact{λh=>{h.1.2,h.1.1,h.2},λh=>{{h.2.1,h.1},h.2.2}}
   ·rw[jf,e2]
  exact{_,by rw[lle];lia,rm,zN,n+100+1,ys.eraseIdx i,lf.eraseIdx i,a::S,_,_,_,rfl,rfl,s8,st8,hl8,ad4,aj8,by rw[lle];lia}
 |nil=>
  have hye:ys=[]:=ff.mp (by rw[ly,C4];rfl);rw[hye];refine vz ?_;rw[C4]at aj;obtain⟨qG,Ki,em⟩:=id wd.wo;refine{_,rfl,x,C,dx,_,_,rfl,wd.ins,O.c,O.maps,rfl,md,qG,rfl,Ki,λvw xX=>?_};have s5:=aM xX (.ext (ur vw md));have hv5:upd H4 vw (.ext (ur vw md)) vw=some (.ext (ur vw md)):=aw;have oJ:=wd.same s5;have wD:gn P w K (upd H4 vw (.ext (ur vw md))) md qG:=by obtain⟨u,h⟩:=Ki.some;exact Ki.tp (dw.same s5) (by rw[h,s5 _ _ h])
  generalize (upd H4 vw (.ext (ur vw md)))=H5 at s5 hv5 oJ wD⊢;refine{vw,md,qG,rfl,hv5,wD,λl zs H6 s6 mz rB hps=>?_};have s6:bq H5 H6:=s6;have mi:=oJ.same s6;have AF:=s4.trans (s5.trans s6);have pc:Paired (wI K H6) zs maps:=by
   have hk:∀p∈qG,NV K H6 p.1 (.ref p.2.1):=λp hp=>Od (dw.same s6) _ _ (wD.2 p hp).1;clear rB wD Ki;generalize maps=mm at em
   induction qG generalizing zs mm with
   |nil=>
    cases mm with
    |nil=>cases hps;exact .nil
    |cons _ _=>cases em
   |cons p qG ih=>
    cases mm with
    |nil=>cases em
    |cons y mm=>
     injection em with em1 em2;cases hps with
     |cons h t=>
      obtain⟨b,rfl,hb⟩:=h;have e1:p.1=fR y.1:=bU Prod.fst em1;have e2:p.2.2=V.int y.2:=bU Prod.snd em1;have hn:=hk p aA;rw[e1]at hn;refine .cons {b,p.2.1,rfl,?_,EM hn} (ih _ t (λq hq=>hk q (aB _ hq)) _ em2);rw[<-e2];exact bF.of hb
  have lh:=br.1;refine{_,rfl,x,C,dx,_,_,rfl,mi.ins,O.c,O.kept,rfl,_,rfl,l,kl,hd,zs,maps,kept,hz,rfl,bo.of rB,pc,bo.of mi.xR,mo.nd,mo.len,.inr (bF.of (AF _ _ Wy)),by lia,λz lM=>(BU (br.2 z lM).1).1,mo.row,aD mo.je (-8),λd H7 s7 gE rc=>?_};refine k d _ H7 (AF.trans s7) rc {AskP.rQ,aj.end_ λt ht u=>?_,?_}
  ·have:=(br.2 t ht).2 u;unfold cQ at this;obtain⟨ts,qK,h⟩:=List.mem_flatten.mp this;obtain⟨b,hb,rfl⟩:=aR.mp qK;exact⟨b,hb,h⟩
  ·exact aD AskP.AW (aD aj.fw (aD (gw (n:=5) (j:=4) (-8) (by have:=aj.ls;lia)) (-8)))
inductive Gz(K:Frag)(vs:Aao)(H:Hp)(Q:VK)(_x3:XK):Prop
 |mk (v:V) (tb:Addr) (fs:List En) (hz:Aah) (ats:Aaa) (_:vs=[v,.ref tb]) (_:FC H v hz ats) (_:Good ats) (_:yw hz ats) (_:ats.length<=4) (_:gW K H tb fs) (_:∀(l:Addr)(zs:Aao)(rows:Aab)(H':Hp),bq H H'->H l=none->H' l=some (.lst zs)->cT K H' zs (kG rows)->rows.Nodup->(∀row,row∈rows↔∃g,AskP.tD isUnk (dbT fs) ats g/\row=hz.map g)->(∀z∈zs,∃a xs,z=.ref a/\H' a=some (.tup xs))->rows.length<=900->Q (.ref l) H')
structure Da6(P:Program)(w:World)(K:Frag)(mg:Aad)(base:Heap):Prop where
 counts_of:dP P w K mg base 7 "counts_of" ["question","tables"] (IE P w K)
def NR:cD ["question","tables"] ["question","tables"] (defScope AD):=jD (-3)
def Oc(F:fq K "answers" "answers" AD f fd)(T:Txt K mg)(D:Da6 P w K mg base):dk P w K mg base fU 8 f fd ["question","tables"] (Gz K):=by
 refine F.ok NR (λ_ _ _ _ h=>by cases h;subst_vars;rfl) (-4);obtain⟨v,tb,fs,hz,ats,rfl,hq,good,br,la,tab,k⟩:=h;refine{_,(a9 (cN (cW (KO hr.hd) rfl T.vj (-3) (cz (cl D.counts_of hr (dR (pv 0) (pv 1))))))),?_};refine{_,rfl,_,rfl,v,tb,fs,hz,ats,rfl,hq,good,br,la,tab,λd m H1 s1 rc cm=>?_};obtain⟨kvs,ha,em,ic⟩:=rc;have e1:kvs.map (·.1)=(m.map (·.1)).map fR:=by have:=bU (List.map Prod.fst) em;unfold tm at this;rw[bW,bW]at this;rw[bW];exact this
 have lr:(m.map (·.1)).length<=500000:=by rw[ak];exact aD cm.je (-8)
 refine{d,kvs,m.map (·.1),rfl,ha,e1,λh2 r zS=>?_,by lia,λl zs hl hr hm=>?_}
 ·intro er;obtain⟨g,_,eg⟩:=(cm.iff r).mp zS;rw[er]at eg;have ez:hz=[]:=mM.mp eg.symm;have all:∀y∈m.map (·.1),y∈([[]]:Aab):=λy hy=>by obtain⟨g',_,e'⟩:=(cm.iff y).mp hy;rw[e',ez];exact aA
  have:=mS cm.nd all;rw[dA]at this;lia
 ·have s2:=aM hl (.lst zs);refine k l zs _ _ (s1.trans s2) (s1.free hl) aw (cM hr s2) cm.nd cm.iff (λz lM=>?_) (by rw[ak];exact cm.je);obtain⟨p,hp,rfl⟩:=aR.mp (hm z lM);obtain⟨xs,e⟩:=ic p hp;exact{_,xs,rfl,s2 _ _ e}
structure Ds(P:Program)(w:World)(K:Frag)(mg:Aad)(base:Heap):Prop where
 rows_of:dP P w K mg base 1 "rows_of" ["tables","name"] (Dj K)
def Found(K:Frag)(H H':Hp)(p:Addr)(es fs:List En):Prop:=H' p=some (.dK (fs.map dt))/\H p=none/\fs.map (·.nm)=(iV (es.map (·.nm))).filter (λz=>!(cP es z).isEmpty)/\(fs.map (·.ad)).Nodup/\
 ∀e∈fs,H e.ad=none/\e.ad≠p/\H' e.ad=some (.lst e.ys)/\cT K H' e.ys e.rows/\e.rows=eX (cP es e.nm)/\∀y∈e.ys,∃x∈es,y∈x.ys
inductive IA(K:Frag)(vs:Aao)(H:Hp)(Q:VK)(_x3:XK):Prop
 |mk (d:Addr) (es:List En) (_:vs=[.ref d]) (_:Ea K H d es) (_:es.length<=60) (_:∀(p:Addr)(fs:List En)(H':Hp),bq H H'->Found K H H' p es fs->Q (.ref p) H')
def lU:cD ["tables","told","name","rows"] ["tables"] (defScope qz):=jD (-3)
def La(rows:Aab):(eX rows).isEmpty=rows.isEmpty:=by
 cases rows with
 |nil=>
  cases h:eX []with
  |nil=>rfl
  |cons b r=>
   have:b∈eX []:=by rw[h];exact aA
   cases(g9 b []).mp this
 |cons a r=>
  have:a∈eX (a::r):=(g9 a _).mpr aA;cases h:eX (a::r)with
  |nil=>rw[h]at this;cases this
  |cons _ _=>rfl
def DC{f:Addr}{fd:FuncData}(F:fq K "sorted_tables" "sorted_tables" qz f fd)(T:Txt K mg)(D:Ds P w K mg base):dk P w K mg base fU 2 f fd ["tables"] (IA K):=by
 refine F.ok lU (λ_ _ _ _ h=>by cases h;subst_vars;rfl) (-4);obtain⟨d,es,rfl,hT,hl,k⟩:=h;have hu:=jL hr;refine{_,(aN (fJ 1 lU jy) (aN (fQ bS rfl (fX (cW (KP hr.hd) rfl T.vj (-3) (cz (pv 0)))) (ir 2 lU) (aN (fJ 3 lU (cl D.rows_of hr (dR (pv 0) (pv 2)))) (a9 (gJ (IY (pv 3) (λ_=>rfl)) (a9 (pY hu (pv 1) (pv 2) (pv 3) rfl)) eG)))) (a9 (cN (pv 1))))),?_}
 have hd:=hT.at_;have hn:=hT.nm;intro p hp;have GB:bq H (upd H p (.dK [])):=aM hp _;have km:upd H p (.dK []) p=some (.dK []):=aw;refine{_,rfl,d,es.map dt,es.map (·.nm),rfl,GB _ _ hd,JJ es,by rw[ak];lia,λl mz=>?_};have ndp:d≠p:=ba hd hp;have nlp:p≠l:=ba km mz;have PV:bq H (upd (upd H p (.dK [])) l (.lst ((iV (es.map (·.nm))).map V.str))):=GB.trans (aM mz _);have qL:H l=none:=by rw[aE nlp.symm]at mz;exact mz
 have ps:=lR (es.map (·.nm));have nds:(iV (es.map (·.nm))).Nodup:=ps.nodup_iff.mpr hn;refine{l,rfl,{_,bo.of aw},DP (K:=K) (a:=l) (xs:=(iV (es.map (·.nm))).map V.str)
  (λi Z H2=>∃(x2 x3:Aap)(fs:List En),Z=[some (.ref d),some (.ref p),x2,x3]/\bq H H2/\H2 l=some (.lst ((iV (es.map (·.nm))).map V.str))/\H2 p=some (.dK (fs.map dt))/\fs.map (·.nm)=((iV (es.map (·.nm))).take i).filter (λz=>!(cP es z).isEmpty)/\(fs.map (·.ad)).Nodup/\
   ∀e∈fs,H e.ad=none/\e.ad≠p/\H2 e.ad=some (.lst e.ys)/\cT K H2 e.ys e.rows/\e.rows=eX (cP es e.nm)/\∀y∈e.ys,∃x∈es,y∈x.ys) ?_ ?_ ?_ ?_}
 ·refine{none,none,[],rfl,PV,aw,?_,rfl,fI,λe h=>by cases h};rw[aE nlp];exact km
 ·rintro i Z H2 hi ⟨x2,x3,fs,rfl,we,jF,_⟩;exact bo.of jF
 ·rintro i x Z H2 hx ⟨x2,x3,fs,rfl,we,jF,iU,Bb,VU,Hh⟩;obtain⟨z,hz,rfl⟩:=aX.mp (by rw[<-aK];exact hx);have zm:z∈es.map (·.nm):=ps.mem_iff.mp (aH hz);obtain⟨e,he,rfl⟩:=aR.mp zm;have er:=DA hn he;refine{_,rfl,_,rfl,d,es,e.nm,rfl,hT.same we,λl3 zs H3 ml mV abg hr3 aem=>?_};rw[er]at hr3;have iu:=ml _ _ iU;have keep:∀e∈fs,H e.ad=none/\e.ad≠p/\H3 e.ad=some (.lst e.ys)/\cT K H3 e.ys e.rows/\e.rows=eX (cP es e.nm)/\∀y∈e.ys,∃x∈es,y∈x.ys:=λe' h'=>by obtain⟨q1,q2,q3,q4,q5⟩:=Hh e' h';exact{q1,q2,ml _ _ q3,cM q4 ml,q5}
  have ft:=xb (g:=λz=>!(cP es z).isEmpty) hz;have lz:zs.isEmpty=(cP es e.nm).isEmpty:=by rw[er,<-La];have:=hr3.length;cases zs<;>cases h:eX e.rows<;>simp_all
  refine{_,rfl,!zs.isEmpty,.inl {zs,bo.of abg,rfl},?_};rw[lz];refine fm (-61) (-61)
  ·have l3n:H l3=none:=by
    cases q:H l3 with
    |none=>rfl
    |some o=>
     rw[we _ _ q]at mV;cases mV
   have n3p:l3≠p:=λq=>by rw[q,iU]at mV;cases mV
   have n3l:l≠l3:=ba jF mV;have nm:e.nm∉fs.map (·.nm):=λq=>by
    rw[Bb]at q;have:=(bV.mp q).1;obtain⟨j,hj⟩:=dy.mp this;rw[List.getElem?_take]at hj;split at hj
    next lt=>
     have li:i<(iV (es.map (·.nm))).length:=(ax.mp hz).1;have:=(List.getElem?_inj li nds).mp (hz.trans hj.symm);lia
    next=>cases hj
   have ek:putK (fs.map dt) (Sum.inr e.nm) (V.ref l3)=(fs++[En.mk e.nm l3 zs (eX e.rows)]).map dt:=by rw[yM _ (yB nm),aJ];rfl
   have lfs:fs.length<=1000:=by
    have h1:fs.length=(fs.map (·.nm)).length:=(ak _).symm;rw[Bb]at h1;have h2:=cj (λz=>!(cP es z).isEmpty) ((iV (es.map (·.nm))).take i);have h3:((iV (es.map (·.nm))).take i).length<=(iV (es.map (·.nm))).length:=by rw[aT];exact Nat.min_le_right _ _
    have h4:(iV (es.map (·.nm))).length=es.length:=by rw[ps.length_eq,ak]
    lia
   refine{_,rfl,_,rfl,_,rfl,p,_,rfl,.inl {_,Sum.inr e.nm,iu,rfl,by rw[ak];exact bC lfs,rfl},?_};rw[ek];have Eu:bq H (upd H3 p (.dK ((fs++[En.mk e.nm l3 zs (eX e.rows)]).map dt))):=λb u q=>by rw[aE (ba q hp)];exact ml _ _ (we _ _ q)
   have tk:∀{ys:Aao}{rows:Aab},cT K H3 ys rows->cT K (upd H3 p (.dK ((fs++[En.mk e.nm l3 zs (eX e.rows)]).map dt))) ys rows:=λh=>iE h (dw.upd (rP iu));refine{_,_,fs++[En.mk e.nm l3 zs (eX e.rows)],rfl,Eu,?_,aw,?_,?_,λe' h'=>?_}
   ·rw[aE nlp.symm];exact ml _ _ jF
   ·rw[aJ,Bb,ft,aC c];rfl
   ·rw[aJ];refine eB.mpr {VU,by simp,λa ha b hb=>?_};rw[kM,ay]at hb;obtain⟨e',h',rfl⟩:=aR.mp ha;rw[hb];intro q;have:=(Hh e' h').2.2.1;rw[q]at this;rw[this]at mV;cases mV
   ·rcases bf.mp h' with h'|h'
    ·obtain⟨q1,q2,q3,q4,q5⟩:=keep e' h';exact{q1,q2,by rw[aE q2];exact q3,tk q4,q5}
    ·rw[ay.mp h'];exact{l3n,n3p,by rw[aE n3p];exact abg,tk hr3,by rw[er],aem}
  ·refine{_,_,fs,rfl,we.trans ml,ml _ _ jF,iu,?_,VU,keep};rw[ft,az c,b6];exact Bb
 ·rintro Z H2 ⟨x2,x3,fs,rfl,we,jF,iU,Bb,VU,Hh⟩;rw[ak,aV]at Bb;exact{_,rfl,k p fs H2 we ⟨iU,hp,Bb,VU,Hh⟩}
def iy(fs:List En)(hz:Aah)(ats:Aaa):Aab:=eX ((AskP.HV isUnk (cP fs) ats (fM (cQ ats)) cJ (fM (cQ ats)).length).map λv=>AskP.image (fM (cQ ats)) v hz)
def SA{ats:Aaa}(t:Str):t∈fM (cQ ats)↔isUnk t=true/\∃a∈ats,t∈a.2:=by rw[Dh,qj]
def ZQ:AskP.tD isUnk (dbT fs) ats g↔AskP.tD isUnk (cP fs) ats g:=qV λ_=>{λh a ha=>(g9 _ _).mp (h a ha),λh a ha=>(g9 _ _).mpr (h a ha)}
def yT{H:Hp}{tb:Addr}{fs:List En}(tab:gW K H tb fs){hz:Aah}{ats:Aaa}(br:yw hz ats)(row:Aah):row∈iy fs hz ats↔∃g,AskP.tD isUnk (cP fs) ats g/\row=hz.map g:=by unfold iy;rw[g9,aR,<-AskP.Su SA (yD _) (λa _ r hr x hx=>((tab.good a.1).2 r hr).2.2 x hx) (λt ht u=>Dh.mpr {u,(br.2 t ht).2 u}) row];exact{λ⟨v,h,e⟩=>{v,h,e.symm},λ⟨v,h,e⟩=>{v,h,e.symm}}
def Y1{H:Hp}{tb:Addr}{fs:List En}(tab:gW K H tb fs){hz:Aah}{ats:Aaa}(br:yw hz ats){rows:Aab}(nd:rows.Nodup)(hi:∀row,row∈rows↔∃g,AskP.tD isUnk (cP fs) ats g/\row=hz.map g):kG rows=iy fs hz ats:=by have:=yT tab br;unfold iy at this⊢;exact pO nd λr=>by rw[hi r,<-this r,g9]
def wQ(l:Aab):(eX l).Nodup:=(lT _).nodup_iff.mpr (uF _)
def CC(l:Aab):eX (eX l)=eX l:=by have h:=pO (wQ l) λr=>g9 r l;have h2:=pO (wQ l) λr=>Ca;exact h2.symm.trans h
structure VA(hz:Aah)(ats:Aaa):Prop where
 good:Good ats
 br:yw hz ats
 l4:ats.length<=4
 l1:1<=hz.length
 hu:∀z∈hz,isUnk z=true
def VQ.va{H:Hp}{v:V}{hz:Aah}{ats:Aaa}(x:VQ H v hz ats):VA hz ats:=⟨λa ha=>let⟨h1,h2,h3,h4⟩:=x.q.good a ha;⟨h3,h4,h2,h1⟩,{x.q.h4,λz lM=>{x.q.hh z lM,λ_=>(x.hu z lM).1}},x.l8,x.l1,λz lM=>(x.hu z lM).2⟩
def D8{H:Hp}{tb:Addr}{fs:List En}(tab:gW K H tb fs){hz:Aah}{ats:Aaa}(x:VA hz ats):∀r∈iy fs hz ats,mJ r:=λr hr=>by obtain⟨g,hg,rfl⟩:=(yT tab x.br r).mp hr;refine{by rw[ak];exact x.l1,by rw[ak];exact x.br.1,λz lM=>?_};obtain⟨t,ht,rfl⟩:=aR.mp lM;obtain⟨a,ha,vA⟩:=qj.mp ((x.br.2 t ht).2 (x.hu t ht));exact((tab.good a.1).2 _ (hg.2 a ha)).2.2 _ (aR.mpr ⟨t,vA,rfl⟩)
def oI(fs:List En)(xs:List View)(z:Str):Aab:=match xs.find? (λx=>decide (x.1=z))with
 |some x=>iy fs x.2.1 x.2.2
 |none=>[]
def Gp{fs es:List En}{xs:List View}(h:Paired (λ(e:En)(x:View)=>e.nm=x.1/\e.rows=iy fs x.2.1 x.2.2) es xs)(z:Str):cP es z=oI fs xs z:=by
 induction h with
 |nil=>rfl
 |@cons e x es xs q _ ih=>
  unfold cP oI at ih⊢;rw[eK,eK,q.1];cases decide (x.1=z)with
  |true=>exact q.2
  |false=>exact ih
theorem Pr{fs:List En}:∀{xs:List View},(xs.map (·.1)).Nodup->∀{x:View},x∈xs->oI fs xs x.1=iy fs x.2.1 x.2.2
 |[],_,_,h=>by cases h
 |y::xs,nd,x,h=>by
  rw[aU,cX]at nd;unfold oI;rcases aG.mp h with rfl|h
  ·rw[dW (p:=λy:View=>decide (y.1=x.1)) (bp rfl)]
  ·have ne:¬decide (y.1=x.1)=true:=λq=>nd.1 (by rw[bj q];exact cy h);rw[dX (p:=λy:View=>decide (y.1=x.1)) ne];exact Pr nd.2 h
def tw(H:Hp)(ys:Aao):Prop:=∀y∈ys,∃a xs,y=V.ref a/\H a=some (.tup xs)
def tw.keep{H H':Hp}{ys:Aao}(h:tw H ys)(t:eE H H'):tw H' ys:=λy hy=>let⟨a,xs,e,q⟩:=h y hy;{a,xs,e,t _ _ q}
def abN(K:Frag)(H H':Hp)(p:Addr)(fs:List En)(xs:List View)(gs:List En):Prop:=H' p=some (-69)/\H p=none/\gs.map (·.nm)=(iV (xs.map (·.1))).filter (λz=>!(oI fs xs z).isEmpty)/\(gs.map (·.ad)).Nodup/\
 ∀e∈gs,H e.ad=none/\e.ad≠p/\H' e.ad=some (.lst e.ys)/\cT K H' e.ys e.rows/\e.rows=oI fs xs e.nm/\tw H' e.ys
inductive PL(K:Frag)(vs:Aao)(H:Hp)(Q:VK)(_x3:XK):Prop
 |mk (vl tb:Addr) (Vh:Aao) (xs:List View) (fs:List En) (_:vs=[.ref vl,.ref tb]) (_:H vl=some (.lst Vh)) (_:Df H Vh xs) (_:(xs.map (·.1)).Nodup) (_:xs.length<=12) (_:gW K H tb fs) (_:∀(p:Addr)(gs:List En)(H':Hp),bq H H'->abN K H H' p fs xs gs->Q (.ref p) H')
structure Dse(P:Program)(w:World)(K:Frag)(mg:Aad)(base:Heap):Prop where
 answers:dP P w K mg base 8 "answers" ["question","tables"] (Gz K)
 sorted_tables:dP P w K mg base 2 "sorted_tables" ["tables"] (IA K)
def IX{es:List En}{e:En}(h:e.nm∉es.map (·.nm)):putK (es.map dt) (Sum.inr e.nm) (.ref e.ad)=(es++[e]).map dt:=by rw[yM _ (yB h),aJ];rfl
def EH{fs es:List En}{xs:List View}(h:Paired (λ(e:En)(x:View)=>e.nm=x.1/\e.rows=iy fs x.2.1 x.2.2) es xs):es.map (·.nm)=xs.map (·.1):=by
 induction h with
 |nil=>rfl
 |cons q _ ih=>rw[aU,aU,q.1,ih]
def My{xs:List View}{i:Nat}{x:View}(nd:(xs.map (·.1)).Nodup)(h:xs[i]?=some x):x.1∉(xs.take i).map (·.1):=λq=>by obtain⟨hi,e⟩:=ax.mp h;rw[<-c8 i xs,aJ,eO hi,aU,e]at nd;exact(eB.mp nd).2.2 _ q _ aA rfl
def BX:cD ["views","tables","found","name","question"] ["views","tables"] (defScope IJ):=jD (-3)
def Yb{f:Addr}{fd:FuncData}(F:fq K "seen" "seen" IJ f fd)(T:Txt K mg)(D:Dse P w K mg base):dk P w K mg base fU 9 f fd ["views","tables"] (PL K):=by
 refine F.ok BX (λ_ _ _ _ h=>by cases h;subst_vars;rfl) (-4);obtain⟨vl,tb,Vh,xs,fs,rfl,pj,hvs,nd,l12,tab,k⟩:=h;have hu:=jL hr;have lv:=bw hvs;refine{_,(aN (fJ 2 BX jy) (aN (fQ bS rfl (fX (pv 0)) (iY rfl (cA (ir 3 BX) (cA (ir 4 BX) g7))) (a9 (pY hu (pv 2) (pv 3) (cl D.answers hr (dR (pv 4) (pv 1))) rfl))) (a9 (cN (cl D.sorted_tables hr (cz (pv 2))))))),?_}
 intro d hd;have s1:=aM hd (.dK []);refine{_,rfl,vl,rfl,{Vh,bo.of (s1 _ _ pj)},DP (λi Z H2=>∃(x3 x4:Aap)(es:List En),Z=[some (.ref vl),some (.ref tb),some (.ref d),x3,x4]/\bq H H2/\H2 d=some (.dK (es.map dt))/\Paired (λ(e:En)(x:View)=>e.nm=x.1/\e.rows=iy fs x.2.1 x.2.2) es (xs.take i)/\(∀e∈es,H2 e.ad=some (.lst e.ys)/\cT K H2 e.ys e.rows/\e.rows.length<=900/\(∀r∈e.rows,mJ r)/\tw H2 e.ys)/\i<=xs.length) {none,none,[],rfl,s1,aw,.nil,λe h=>(by cases h),aP _} (λi Z H2 _ hq=>by(obtain⟨_,_,_,_,sm,_⟩:=hq;exact bo.of (sm _ _ pj))) ?_ ?_}
 ·rintro i x Z H2 hx ⟨x3,x4,es,rfl,s2,hd2,E8,WD,_⟩;obtain⟨y,hy,p,q,rfl,hp,hq,hn⟩:=Paired.at hvs hx;have bJ:=(ax.mp hy).1;have va:=hq.va;have qs:=hq.q.at'.keep (eE.of s2);refine{p,_,rfl,bF.of (s2 _ _ hp),rfl,_,_,rfl,_,_,rfl,rfl,?_};refine{_,rfl,_,rfl,q,tb,fs,y.2.1,y.2.2,rfl,qs,va.good,va.br,va.l4,tab.same s2,λl zs rows H3 s3 mz mV hR rn ri htz je=>?_};have er:=Y1 tab va.br rn λrow=>(ri row).trans (exists_congr λg=>and_congr_left λ_=>ZQ);have nm:({y.1,l,zs,iy fs y.2.1 y.2.2}:En).nm∉es.map (·.nm):=by rw[EH E8];exact My nd hy
  have les:es.length=i:=by rw[bw E8,aT];lia
  refine{_,rfl,_,rfl,d,_,rfl,vU.k (k:=Sum.inr y.1) (s3 _ _ hd2) (-27),?_};rw[IX nm];have vD:=s3 _ _ hd2;have ndl:l≠d:=λz=>by rw[z,hd2]at mz;cases mz
  refine{_,_,es++[{y.1,l,zs,iy fs y.2.1 y.2.2}],rfl,λb u e=>?_,aw,?_,λe he=>?_,bJ}
  ·rw[aE (ba e hd)];exact s3 _ _ (s2 _ _ e)
  ·rw[bg,hy];exact Paired.Et E8 ⟨rfl,rfl⟩
  ·have t3:dw H3 (upd H3 d (.dK ((es++[({y.1,l,zs,iy fs y.2.1 y.2.2}:En)]).map dt))):=dw.upd (rP vD);have u3:eE H3 (upd H3 d (.dK ((es++[({y.1,l,zs,iy fs y.2.1 y.2.2}:En)]).map dt))):=λb xs q=>by rw[aE (yR q vD λz=>by cases z)];exact q
   rcases bf.mp he with he|he
   ·obtain⟨h1,h2,h3,h4,h5⟩:=WD e he;have ne:e.ad≠d:=λz=>by rw[z,hd2]at h1;cases h1
    exact{by rw[aE ne];exact s3 _ _ h1,iE (cM h2 s3) t3,h3,h4,(h5.keep (eE.of s3)).keep u3}
   ·rw[ay.mp he];refine{by rw[aE ndl];exact mV,iE (by rw[<-er];exact hR) t3,?_,D8 tab va,tw.keep htz u3};rw[<-er,(lT _).length_eq];exact je
 ·rintro Z H2 ⟨x3,x4,es,rfl,s2,hd2,E8,WD,_⟩;rw[lv,aV]at E8;have en:=EH E8;refine{_,rfl,d,es,rfl,{hd2,by rw[en];exact nd,λe he=>let⟨h1,h2,h3,h4,_⟩:=WD e he;⟨h1,h2,h3,h4⟩},by rw[bw E8];lia,λp gs H3 s3 ⟨f1,f2,f3,f4,f5⟩=>k p gs H3 (s2.trans s3) {f1,s2.free f2,?_,f4,λe he=>?_}}
  ·rw[f3,en];exact Cs λz _=>by rw[Gp E8]
  ·obtain⟨q1,q2,q3,q4,q5,q6⟩:=f5 e he;refine{s2.free q1,q2,q3,q4,?_,λy hy=>let⟨x,hx,hyx⟩:=q6 y hy;let⟨_,_,_,_,h5⟩:=WD x hx;(h5.keep (eE.of s3)) y hyx};rw[q5,Gp E8];unfold oI;split
   ·exact CC _
   ·exact(pO fI λ_=>Ca).symm.trans (u6 (.refl _) .nil).symm
def S4(h:∀T,T=u->NJ t T D Z H):NJ t u D Z H:=h u rfl
inductive Iz(K:Frag)(vs:Aao)(H:Hp)(Q:VK)(_x3:XK):Prop
 |mk (f nl:Addr) (gC:Aah) (_:vs=[.ref f,.ref nl]) (_:dY K f H) (_:nl≠f) (_:H nl=some (.lst (gC.map V.str))) (_:gC.length<=3) (_:(∀z∈gC,z∈cJ)) (_:∀(d:Addr)(kvs:List (Key×V))(H':Hp),dY K f H'->Ext f H H'->TabAt f H' d kvs->H d=none->Q (.ref d) H')
noncomputable def mP:Aah:=["a","12","r","0"]
def Xo:(mP.all λz=>decide (z∈cJ))=true:=by decide+kernel
def iW:cD ["_law_feed_here","_law_names","_law_tables_here","_law_values","_law_j","_law_name","_law_rows","_law_k","_law_long"] ["_law_feed_here","_law_names"] (defScope yJ):=jD (-3)
def Qs(F:fq K "_law_tables" "_law_tables" yJ f fd)(T:Txt K mg)(D:Dr P w K mg base):dk P w K mg base fU 2 f fd ["_law_feed_here","_law_names"] (Iz K):=by
 refine F.ok iW (λ_ _ _ _ h=>by cases h;subst_vars;rfl) (-4);obtain⟨fe,nl,gC,rfl,hF,qE,vB,uf,hn3,k⟩:=h;have hu:=jL hr;refine{_,(aN (fJ 2 iW jy) (aN (jU (i:=3) iW.nd rfl (Or.inr rfl) (rO FJ (eZ (iF f7 (sO f7 f7 f7))) uP (uO (dM jE bh (-22))))) (aN (fQ bS rfl (FQ rfl T.wZ (cz (pv 1))) (iY rfl (cA (ir 4 iW) (cA (ir 5 iW) g7))) (aN (fJ 6 iW (eZ gM)) (aN (fQ bS rfl (jP rfl T.mI (cz (-22))) (ir 7 iW) (aN (fJ 8 iW (dq hE (eZ (sO bh bh bh)) (dM ph (pv 4) bh) (-15))) (aN (gJ (dh uE (-22) bh (eW _)) (a9 (fJ 8 iW (dM jE bh (-22)))) eG) (a9 (lB (ox de gc f9 qe (pv 6) (cz (dF fD rfl T.kC (-3) (cz (g8 rfl (cU (fs:=["_law_values","_law_feed_here"]) (fr:=[3,0])) (jP rfl T.mI (cz (pv 8))) (λ_ _ _ _=>(dq (vy (K:=K)) (pv 1) (cl D.fA hr (dR (pv 2) (cW (Br (K:=K)) rfl T.kU dj (cz (pv 1))))) (-15))))))))))))) (a9 (gJ (PW.pt (EC (dh (Qn hr.Ia) (pv 6) (eZ gM) (eW _)) (EB (dh uE (-22) bh (eW _))))) (a9 (pY hu (pv 2) (pv 5) (pv 6) rfl)) eG))))) (a9 (cN (pv 2)))))),?_}
 intro d hd;have nd:=hF.qd hd;have x0:=(Ext.refl fe H).new hd (.dK []);refine{(by show 4<=sizeLine;decide),λp0 km=>AU {_,rfl,fe,3,rfl,(hF.new hd _).new km _,by decide,by decide,λi1 H1 i0 i2 oM rC=>{_,_,rfl,rfl,_,rfl,p0,mP.map V.str,rfl,bo.of (rC _ _ ((hF.new hd _).qd km) aw),λvl pj=>?_}}};have x1:=(x0.new km (.lst (mP.map V.str))).trans rC;have ug:H1 d=some (.dK []):=rC _ _ nd (by rw[aE (ba aw km)];exact aw);obtain⟨m,rfl⟩:∃m:Nat,i1=m:={i1.toNat,by lia};have ec:kr (mP.map V.str) none (some (1+(m:Int)))=(mP.take (1+m)).map V.str:=by rw[show(1+(m:Int))=((1+m:Nat):Int) by lia,KH,tX]
 have x2:=x1.new pj (-45);have jW:=oM.new pj (-45);have hd2:upd H1 vl (-45) d=some (.dK []):=by rw[aE (ba ug pj)];exact ug
 have EX:upd H1 vl (-45) vl=some (.lst ((mP.take (1+m)).map V.str)):=by rw[aw,ec]
 have sP:=oM.qd pj;have v0:H vl=none:=x1.none sP pj;generalize upd H1 vl (-45)=H2 at x2 jW hd2 EX⊢;have lv:(mP.take (1+m)).length=1+m:=by rw[aT];show min (1+m) 4=_;lia
 have xX:∀z∈mP.take (1+m),z∈cJ:=λz hz=>bj (bZ.mp Xo z (gx hz));generalize mP.take (1+m)=Pt at EX lv xX;have lvl:(Pt.map V.str).length=Pt.length:=ak _;clear ec ug pj km rC x1 x0 oM;refine{_,rfl,nl,rfl,{_,bo.of (x2 _ _ qE vB)},RK (K:=K) (a:=nl) (xs:=gC.map V.str)
  (λi Z H3=>∃(x4 x5 x6 x7 x8:Aap)(kvs:List (Key×V)),Z=[some (.ref fe),some (.ref nl),some (.ref d),some (.ref vl),x4,x5,x6,x7,x8]/\dY K fe H3/\Ext fe H H3/\H3 vl=some (.lst (Pt.map V.str))/\H3 d=some (.dK kvs)/\(kvs.map (·.1)).Nodup/\kvs.length<=i/\∀kv∈kvs,D9 fe H3 kv)
  {none,none,none,none,none,[],rfl,jW,x2,EX,hd2,fI,ar _,λkv h=>by cases h} (λi Z H3 _ hq=>by(obtain⟨_,_,_,_,_,_,_,_,sm,_⟩:=hq;exact bo.of (sm _ _ qE vB))) ?_ ?_}
 ·rintro i x p Z H3 D1 hx ⟨x4,x5,x6,x7,x8,kvs,rfl,jQ,iw,MO,vD,VT,mV,WE⟩ hp nr;obtain⟨z,hz,rfl⟩:=js hx;have li:i<gC.length:=(ax.mp hz).1;have zp:=hn3 z (aH hz);refine{p,_,rfl,bF.of aw,rfl,_,_,rfl,_,_,rfl,rfl,?_};have np:=jQ.qd hp;have Zh:Ext fe H3 (upd H3 p (.tup [.int i,.str z])):=(Ext.refl fe H3).new hp _;have nF:=jQ.new hp (.tup [.int i,.str z]);generalize upd H3 p (.tup [.int i,.str z])=H4 at Zh nF⊢;refine{(-18),λrl Wm=>?_};have JF:=nF.qd Wm;have rl0:H3 rl=none:=Zh.none JF Wm;have x5':Ext fe H3 (upd H4 rl (.lst [])):=Zh.new Wm _;refine{_,rfl,fe,6,rfl,nF.new Wm _,by decide,by decide,λi5 H5 j0 j1 vF sY=>?_};have F3:=x5'.trans sY;refine{_,rfl,by lia,by lia,Bi (lo:=0) (n:=i5.toNat)
   (λj Z H6=>∃(y7 y8:Aap)(ys:Aao)(rows:Aab),Z=[some (.ref fe),some (.ref nl),some (.ref d),some (.ref vl),some (.int i),some (.str z),some (.ref rl),y7,y8]/\dY K fe H6/\Ext fe H3 H6/\H6 rl=some (-38)/\uL fe H6 ys rows/\(∀r∈rows,mJ r)/\rows.length=j)
   {_,_,[],[],rfl,vF,F3,sY _ _ JF aw,.nil,λr h=>(by cases h),rfl} ?_ ?_}
  ·rintro j Z H6 hj ⟨y7,y8,ys,rows,rfl,uh,mB,A7,Ke,hg6,hj6⟩;have ly:ys.length=rows.length:=Ke.length;refine S4 λT1 e1=>?_;refine{(by show 3<=sizeLine;decide),λq hq=>?_};obtain⟨lg,ev,l0,l1⟩:=V2 (i:=(i:Int)) ∅;refine{_,rfl,_,_,rfl,rfl,(by show(0:Int)<3;decide),_,_,_,_,rfl,rfl,bo.of aw,ev,?_};have Bf:=uh.new hq (-68);have Ff:=mB.new hq (-68);have DJ:upd H6 q (-68) rl=some (-38):=by rw[aE (ba A7 hq)];exact A7
   have MS:=oq Ke ((Ext.refl fe H6).new hq (-68));generalize upd H6 q (-68)=H7 at Bf Ff DJ MS⊢;show T1 _ _ _;subst e1;refine II λR hR=>?_;have rest:∀(lg:Int)(H8:Hp),1<=lg->lg<=4->dY K fe H8->Ext fe H7 H8->R [some (.ref fe),some (.ref nl),some (.ref d),some (.ref vl),some (.int i),some (.str z),some (.ref rl),some (.int (0+(j:Int))),some (.int lg)] H8:=λlg H8 l0 l1 Fb Bj=>by
    refine hR _ _ ?_;have aea:=Bj _ _ JF DJ;refine{_,rfl,.inl {rfl,_,bo.of aea},_,rfl,lg,rfl,by lia,by lia,λj m zs H9=>∃ts:Aah,zs=ts.map V.str/\ts.length=j/\j<=lg.toNat/\m=lg.toNat -j/\dY K fe H9/\Ext fe H8 H9/\∀t∈ts,t∈cJ,{_,[],rfl,rfl,aP _,rfl,Fb,Ext.refl _ _,λt h=>by cases h},?_};rintro j5 m5 zs H9 ⟨ts,rfl,bJ,hle,rfl,WO,WW,qK⟩;have abu:=Bj.trans WW;have hv9:=(Ff.trans abu) _ _ sP MO;by_cases lt5:j5<lg.toNat
    ·refine .inr {lt5,by rw[ak,bJ];exact bC ∅,?_};rintro v Ha ⟨rfl,rfl⟩;refine gu ?_;refine{_,rfl,_,rfl,_,rfl,_,_,rfl,.inl {_,bo.of hv9,rfl},fe,_,rfl,WO,by lia,by lia,λi8 Hb n0 n1 WM exb=>?_};obtain⟨z9,J5,ev9⟩:=rN (zs:=Pt) n0 ∅;refine{_,_,_,_,rfl,rfl,bo.of (exb _ _ sP hv9),ev9,?_};refine{lg.toNat -(j5+1),by lia,ts++[z9],by rw[aJ];rfl,by rw[aO,bJ];rfl,lt5,rfl,WM,WW.trans exb,λt h=>?_};rcases bf.mp h with q|q
     ·exact qK t q
     ·rw[ay.mp q];exact xX z9 J5
    ·refine .inl {by show lg.toNat<=j5;lia,by rw[ak,bJ];exact bu (bC ∅),λl hl=>?_};refine{_,_,rfl,.inl {bo.of aw,λtt wy=>?_}};have WN:=WO.new hl (.lst (ts.map V.str));have EK:=WN.qd wy;have xa:Ext fe H7 (upd (upd H9 l (.lst (ts.map V.str))) tt (.tup (ts.map V.str))):=(abu.new hl _).new wy _;have WM:=WN.new wy (.tup (ts.map V.str));have Ua:upd (upd H9 l (.lst (ts.map V.str))) tt (.tup (ts.map V.str)) tt=some (.tup (ts.map V.str)):=aw;generalize upd (upd H9 l (.lst (ts.map V.str))) tt (.tup (ts.map V.str))=Hb at xa WM Ua⊢;have OC:=xa _ _ JF DJ;refine{_,_,_,rfl,rfl,OC,bC ∅,?_};have hrb:uL fe (upd Hb rl (.lst (ys++[.ref tt]))) (ys++[.ref tt]) (rows++[ts]):=by
      refine Paired.Et (Paired.vp (oq MS xa) λy r ⟨b,e1,nb,hb⟩=>{b,e1,nb,?_}) {tt,rfl,EK,?_}
      ·rw[aE (yR hb OC λz=>by cases z)];exact hb
      ·rw[aE (yR Ua OC λz=>by cases z)];exact Ua
     refine{_,_,_,rows++[ts],rfl,WM.lst OC JF _,(Ff.trans xa).own rl0 _,aw,hrb,λr h=>?_,by rw[aO,hj6];rfl};rcases bf.mp h with q|q
     ·exact hg6 r q
     ·rw[ay.mp q];exact{by lia,by lia,qK}
   refine{_,rfl,fe,8,rfl,Bf,by decide,by decide,λi8 H8 c0 c1 Fb Bj=>{rfl,_,rfl,?_}};refine fm (-61) (-61)
   ·exact{_,rfl,fe,4,rfl,Fb,by decide,by decide,λi9 H9 d0 d1 WO WW=>{_,_,rfl,rfl,rest _ H9 ∅ ∅ WO (Bj.trans WW)}}
   ·exact rest lg H8 l0 l1 Fb Bj
  ·rintro Z H6 ⟨y7,y8,ys,rows,rfl,uh,mB,A7,Ke,hg6,hj6⟩;have ly:ys.length=rows.length:=Ke.length;have put:∀(H7:Hp),dY K fe H7->Ext fe H6 H7->∃(x4 x5 x6 x7 x8:Aap)(Ov:List (Key×V)),[some (V.ref fe),some (.ref nl),some (.ref d),some (.ref vl),some (.int i),some (.str z),some (.ref rl),y7,y8]=[some (.ref fe),some (.ref nl),some (.ref d),some (.ref vl),x4,x5,x6,x7,x8]/\dY K fe (upd H7 d (-42))/\Ext fe H (upd H7 d (-42))/\upd H7 d (-42) vl=some (.lst (Pt.map V.str))/\upd H7 d (-42) d=some (.dK Ov)/\(Ov.map (·.1)).Nodup/\Ov.length<=i+1/\∀kv∈Ov,D9 fe (upd H7 d (-42)) kv:=λH7 Bf Ff=>by
    have OY:=mB.trans Ff;have Ry:=OY _ _ nd vD;have DJ:=Ff _ _ JF A7;have nrd:rl≠d:=λe=>by rw[e,Ry]at DJ;cases DJ
    have nvd:vl≠d:=λe=>by rw[e,vD]at MO;cases MO
    have keep:∀{a:Addr}{o:HO},H7 a=some o->a≠d->upd H7 d (-42) a=some o:=λh n=>by rw[aE n];exact h
    have keepR:∀{ys:Aao}{rows:Aab},uL fe H7 ys rows->uL fe (upd H7 d (-42)) ys rows:=λh=>Paired.vp h λy r ⟨b,e1,nb,hb⟩=>{b,e1,nb,keep hb λe=>by rw[e,Ry]at hb;cases hb};refine{_,_,_,_,_,_,rfl,Bf.dic Ry nd _,(iw.trans OY).own hd _,keep (OY _ _ sP MO) nvd,aw,NZ VT,aD Tf (Nat.add_le_add_right mV 1),λkv jd=>?_};rcases Te jd with q|rfl
    ·obtain⟨z',a,jC,acg,e1,lM,na,ha,zS,hg',qM⟩:=(WE kv q).keep OY;exact{z',a,jC,acg,e1,lM,na,keep ha (λe=>by rw[e,Ry]at ha;cases ha),keepR zS,hg',qM}
    ·exact{z,rl,ys,rows,rfl,zp,JF,keep DJ nrd,keepR (oq Ke Ff),hg6,by lia}
   have kl:(kvs:List (Key×V)).length<=1000:=by lia
   refine{_,rfl,(-18),λe0 wG=>{rl,e0,ys,rfl,rfl,bo.of (by rw[aE (ba A7 wG)];exact A7),bo.of aw,_,rfl,?_}};have Bf:=uh.new wG (.lst []);have LH:=(Ext.refl fe H6).new wG (.lst []);generalize upd H6 e0 (.lst [])=H7 at Bf LH⊢;refine fm (-61) (-61)
   ·refine F0 ?_;exact{_,rfl,_,rfl,_,rfl,d,_,rfl,.inl {kvs,Sum.inr z,(mB.trans LH) _ _ nd vD,rfl,bC kl,rfl},nr _ _ (put H7 Bf LH)}
   ·refine{_,rfl,fe,2,rfl,Bf,by decide,by decide,λi8 H8 k0 k1 Fb Bj=>{rfl,_,rfl,?_}};refine fm (-61) (-61)
    ·exact{_,rfl,_,rfl,_,rfl,d,_,rfl,.inl {kvs,Sum.inr z,(mB.trans (LH.trans Bj)) _ _ nd vD,rfl,bC kl,rfl},nr _ _ (put H8 Fb (LH.trans Bj))}
    ·have OX:=mB.trans (LH.trans Bj);exact nr _ _ {_,_,_,_,_,kvs,rfl,Fb,iw.trans OX,OX _ _ sP MO,OX _ _ nd vD,VT,by lia,λkv h=>(WE kv h).keep OX}
 ·rintro Z H3 ⟨x4,x5,x6,x7,x8,kvs,rfl,jQ,iw,MO,vD,VT,mV,WE⟩;rw[ak]at mV;exact{_,rfl,k d kvs H3 jQ iw {nd,vD,VT,by lia,WE} hd}
def gD(g:List (Str×Str)):List (Key×V):=g.map λp=>(Sum.inr p.1,V.str p.2)
def V4(g:List (Str×Str))(z:Str):Option Str:=(g.find? λp=>decide (p.1=z)).map (·.2)
def w5(g:List (Str×Str))(z:Str):Str:=(V4 g z).getD z
theorem LN(z:Str):∀g:List (Str×Str),fh (gD g) (Sum.inr z:Key)=(V4 g z).map V.str
 |[]=>rfl
 |p::r=>by
  have ih:=LN z r;unfold fh V4 at*;show Option.map _ (List.find? _ ((Sum.inr p.1,V.str p.2)::gD r))=_;rw[eK,eK];by_cases h:p.1=z
  ·rw[bp h,bp (show(Sum.inr p.1:Key)=Sum.inr z from bU _ h)];rfl
  ·rw[bQ h,bQ (show ¬(Sum.inr p.1:Key)=Sum.inr z fromλe=>h (by injection e))];exact ih
inductive Vv(vs:Aao)(H:Hp)(Q:VK)(_x3:XK):Prop
 |mk (t d:Addr) (ts:Aah) (g:List (Str×Str)) (_:vs=[.ref t,.ref d]) (_:H t=some (.tup (ts.map V.str))) (_:H d=some (.dK (gD g))) (_:ts.length<=100) (_:∀(r:Addr)(H':Hp),bq H H'->H' r=some (.tup ((ts.map (w5 g)).map V.str))->Q (.ref r) H')
def S5:cD ["_law_terms","_law_given"] ["_law_terms","_law_given"] (defScope FK):=jD (-3)
def aau{f:Addr}{fd:FuncData}(F:fq K "_law_led" "_law_led" FK f fd)(T:Txt K mg):dk P w K mg base fU 1 f fd ["_law_terms","_law_given"] Vv:=by
 refine F.ok S5 (λ_ _ _ _ h=>by cases h;subst_vars;rfl) (-4);obtain⟨t,d,ts,g,rfl,ht,hd,hl,k⟩:=h;have hu:=jL hr;refine{_,(a9 (cN (dF fD rfl T.kC (-3) (cz (g8 rfl (cU (fs:=["_law_given"]) (fr:=[1])) (sM (pv 0)) (λ_ _ _ _=>(yN hu (pv 1) (pv 0) (pv 0) VZ))))))),?_};refine{_,rfl,t,rfl,{_,bF.of ht},zd (K:=K) (a:=t) (xs:=ts.map V.str) (λi ys H2=>H2=H/\i<=ts.length/\ys=((ts.take i).map (w5 g)).map V.str) (-27) {rfl,aP _,rfl} ?_ ?_ ?_}
 ·rintro i ys H2 hi ⟨rfl,_,rfl⟩;refine{bF.of ht,?_};rw[ak,ak,aT];lia
 ·rintro i x ys H2 N hc ⟨rfl,hi,rfl⟩ hN;obtain⟨z,hz,rfl⟩:=js hc;have bJ:i<ts.length:=(ax.mp hz).1;refine gu ?_;refine{_,rfl,d,rfl,.inl {_,.inl hd},_,rfl,_,rfl,_,kR.k (k:=Sum.inr z) hd,?_};have e:(fh (gD g) (Sum.inr z:Key)).getD (.str z)=.str (w5 g z):=by rw[LN];unfold w5;cases V4 g z<;>rfl
  rw[e];refine hN _ _ {rfl,bJ,?_};rw[bg,hz,aJ,aJ];rfl
 ·rintro ys H2 ⟨rfl,_,rfl⟩ l qM;rw[ak,aV];refine{l,_,rfl,.inl {bo.of aw,λp hp=>?_}};exact k p _ ((aM qM _).trans (aM hp _)) aw
def gK(g:iC):List (Key×V):=g.map λp=>(Sum.inr p.1,.str p.2)
def HX(g:iC)(u:Str):fh (gK g) (Sum.inr u:Key)=(hZ.get g u).map V.str:=by
 unfold gK hZ.get
 induction g with
 |nil=>rfl
 |cons p r ih=>
  by_cases c:p.1=u
  ·rw[aU,il (bU Sum.inr c),dW (p:=λp:Str×Str=>decide (p.1=u)) (bp c)];rfl
  ·rw[aU,gR (λe=>c (by injection e)),dX (p:=λp:Str×Str=>decide (p.1=u)) (λd=>c (bj d))];exact ih
def aai{g:iC}{u v:Str}(n:hZ.get g u=none):putK (gK g) (Sum.inr u) (.str v)=gK (g++[(u,v)]):=by rw[yM _ (by rw[HX,n];rfl)];unfold gK;rw[aJ];rfl
def Eo{H H':Hp}{a:Addr}{xs:Aao}(q:bF K H a xs)(s:bq H H'):bF K H' a xs:=by
 rcases q with(q|⟨o,q⟩)|q
 ·exact .inl (.inl (s _ _ q))
 ·exact .inl (.inr {o,s _ _ q})
 ·exact .inr q
theorem B8:∀{ts as:Aah}{g:iC},ts.length≠as.length->hZ.fit isUnk g ts as=none
 |[],[],_,h=>absurd rfl h
 |[],_::_,_,_=>rfl
 |_::_,[],_,_=>rfl
 |t::ts,a::as,g,h=>by
  have h':ts.length≠as.length:=λe=>h (by rw[bx,bx,e]);unfold hZ.fit;split
  ·split
   ·split
    ·exact B8 h'
    ·rfl
   ·exact B8 h'
  ·split
   ·exact B8 h'
   ·rfl
inductive L7(K:Frag)(vs:Aao)(H:Hp)(Q:VK)(_x3:XK):Prop
 |mk (d t a:Addr) (g:iC) (ts as:Aah) (_:vs=[.ref t,.ref a,.ref d]) (_:H d=some (.dK (gK g))) (_:g.length<=1000) (_:(keys g).Nodup) (_:bF K H t (ts.map V.str)) (_:bF K H a (as.map V.str)) (_:ts.length<=1000) (_:as.length<=1000) (_:(∀z∈ts,qg z=true/\z.length<=100)) (_:(∀H',bq H H'->hZ.fit isUnk g ts as=none->Q .cE H')) (_:∀p g' H',bq H H'->H p=none->H' p=some (.dK (gK g'))->hZ.fit isUnk g ts as=some g'->Q (.ref p) H')
def Tc{g:iC}{u v:Str}(nd:(keys g).Nodup)(h:hZ.get g u=some v):putK (gK g) (Sum.inr u) (.str v)=gK g:=by
 have hs:(fh (gK g) (Sum.inr u:Key)).isSome=true:=by rw[HX,h];rfl
 unfold putK;rw[m7,aC hs];unfold gK;rw[bW];refine bX λp hp=>?_;show(if(Sum.inr p.1:Key)=Sum.inr u then((Sum.inr p.1:Key),V.str v)else(Sum.inr p.1,V.str p.2))=(Sum.inr p.1,V.str p.2);by_cases c:p.1=u
 ·rw[aC (bU Sum.inr c)];have:=hZ.get_mem nd (u:=p.1) (v:=p.2) hp;rw[c,h]at this;rw[bK this]
 ·rw[az (λe=>c (by injection e))]
def uD:cD ["_law_terms","_law_row","_law_given","_law_more","_law_term","_law_value"] ["_law_terms","_law_row","_law_given"] (defScope AB):=jD (-3)
def TM{f:Addr}{fd:FuncData}(F:fq K "_law_bound" "_law_bound" AB f fd)(T:Txt K mg):dk P w K mg base fU 1 f fd ["_law_terms","_law_row","_law_given"] (L7 K):=by
 refine F.ok uD (λ_ _ _ _ h=>by cases h;subst_vars;rfl) (-4);obtain⟨d,t,a,g,ts,as,rfl,hd,lg,nd,ht,ha,lt,la,hz,k1,k2⟩:=h;have hu:=jL hr;refine{_,(aN (gJ (dh BZ (cW iS rfl T.kU dj (cz (pv 0))) (cW iS rfl T.kU dj (cz (pv 1))) (eW _)) (a9 (cN xI)) eG) (aN (fJ 3 uD (dF Pd rfl T.AX (-3) (cz (pv 2)))) (aN (fQ bS rfl (Mo rfl T.EN (dR (pv 0) (pv 1))) (iY rfl (cA (ir 4 uD) (cA (ir 5 uD) g7))) (a9 (gJ (dh uE (dq QZ (pv 4) bh (-15)) f7 (eW _)) (aN (gJ (dh BZ (yN hu (pv 3) (pv 4) (pv 5) VZ) (pv 5) (eW _)) (a9 (cN xI)) eG) (a9 (pY hu (pv 3) (pv 4) (pv 5) rfl))) (a9 (gJ (dh BZ (pv 4) (pv 5) (eW _)) (a9 (cN xI)) eG))))) (a9 (cN (pv 3)))))),?_}
 have CO:(ts.map V.str).length=ts.length:=ak _;have las:(as.map V.str).length=as.length:=ak _;refine{_,rfl,_,_,rfl,.inr ⟨_,ht,rfl⟩,_,rfl,_,_,rfl,.inr ⟨_,ha,rfl⟩,rfl,_,rfl,?_};refine fm (-61) (-61)
 ·refine k1 H (bq.refl H) (B8 λe=>?_);rw[CO,las,e]at c;simp at c
 have le:ts.length=as.length:=by rw[CO,las]at c;have:¬¬(V.int (ts.length:Int)=V.int (as.length:Int)):=λh=>c (by simpa using h);have:=uv.mp this;injection this with this;lia
 refine{_,rfl,d,gK g,rfl,.inl hd,λp hp=>?_};have s1:bq H (upd H p (.dK (gK g))):=aM hp _;have wB:upd H p (.dK (gK g)) p=some (.dK (gK g)):=aw;generalize (upd H p (.dK (gK g)))=H1 at s1 wB⊢;refine{_,rfl,_,rfl,t,a,rfl,{_,Eo ht s1},{_,Eo ha s1},UC (K:=K) (a:=t) (b:=a) (xs:=ts.map V.str) (ys:=as.map V.str)
  (λi Z H2=>∃(x4 x5:Aap)(gi:iC),Z=[some (.ref t),some (-51),some (.ref d),some (.ref p),x4,x5]/\bq H H2/\H2 p=some (.dK (gK gi))/\(keys gi).Nodup/\gi.length<=g.length+i/\hZ.fit isUnk g ts as=hZ.fit isUnk gi (ts.drop i) (as.drop i))
  (by rw[CO,las,le]) {_,_,g,rfl,s1,wB,nd,ar _,rfl} ?_ ?_ ?_}
 ·rintro i Z H2 hi ⟨x4,x5,gi,rfl,s2,_⟩;exact{Eo ht s2,Eo ha s2}
 ·rintro i x y q Z H2 hx hy ⟨x4,x5,gi,rfl,s2,iU,Mz,lg2,ef⟩ hq;rw[aK]at hx hy;obtain⟨z,Wb,rfl⟩:=aX.mp hx;obtain⟨b,hbi,rfl⟩:=aX.mp hy;have li:i<ts.length:=(ax.mp Wb).1;have dz:ts.drop i=z::ts.drop (i+1):=by rw[eO li];rw[au li]at Wb;cases Wb;rfl
  have db:as.drop i=b::as.drop (i+1):=by
   have li':i<as.length:=by lia
   rw[eO li'];rw[au li']at hbi;cases hbi;rfl
  rw[dz,db]at ef;have s3:bq H2 (upd H2 q (.tup [.str z,.str b])):=aM hq _;have iu:=s3 _ _ iU;refine{q,_,rfl,bF.of aw,rfl,_,_,rfl,_,_,rfl,rfl,?_};generalize (upd H2 q (.tup [.str z,.str b]))=H3 at s3 iu⊢;obtain⟨zT,zl⟩:=hz z (aH Wb);obtain⟨c,Rz⟩:=Il zT;refine{_,rfl,_,_,_,rfl,rfl,bu (bC ∅),kD (j:=0) Rz,rfl,_,rfl,?_};rw[Im zT Rz];have zJ:=s2.trans s3;have lgk:(gK gi).length=gi.length:=ak _;refine fm (λc1=>?_) (λc1=>?_)
  ·have c1:isUnk z=true:=c1;refine{_,rfl,p,rfl,.inl {_,.inl iu},_,rfl,_,rfl,_,kR.k (k:=Sum.inr z) iu,?_};rw[HX];cases hm:hZ.get gi z with
   |some m=>
    refine{_,rfl,rfl,_,rfl,?_};refine fm (λc2=>?_) (λc2=>?_)
    ·refine k1 H3 zJ ?_;rw[ef];unfold hZ.fit;rw[aC c1,hm];show(if m=b then _ else none)=none;rw[az (λe=>by rw[e]at c2;simp at c2)]
    ·have e2:m=b:=by have:¬¬(V.str m=V.str b):=λh=>c2 (by simpa using h);have:=uv.mp this;injection this
     refine{_,rfl,_,rfl,_,rfl,p,_,rfl,vU.k (k:=Sum.inr z) iu (by rw[lgk];exact aZ (show gi.length<3000 by lia) (by rw[b8];decide)),?_};rw[Tc Mz (by rw[hm,e2])];refine{_,_,gi,rfl,λb' u h=>?_,aw,Mz,by lia,?_}
     ·rw[aE (ba h hp)];exact zJ _ _ h
     ·rw[ef]
      conv=>lhs;unfold hZ.fit
      rw[aC c1,hm];show(if m=b then _ else none)=_;rw[aC e2]
   |none=>
    refine{_,rfl,rfl,_,rfl,?_};refine fm (λc2=>?_) (λc2=>?_)
    ·simp at c2
    ·refine{_,rfl,_,rfl,_,rfl,p,_,rfl,vU.k (k:=Sum.inr z) iu (by rw[lgk];exact aZ (show gi.length<3000 by lia) (by rw[b8];decide)),?_};rw[aai hm];refine{_,_,gi++[(z,b)],rfl,λb' u h=>?_,aw,AR Mz hm,by rw[aO];show gi.length+1<=_;lia,?_}
     ·rw[aE (ba h hp)];exact zJ _ _ h
     ·rw[ef]
      conv=>lhs;unfold hZ.fit
      rw[aC c1,hm]
  ·have c1:¬isUnk z=true:=c1;refine{_,rfl,_,rfl,rfl,_,rfl,?_};refine fm (λc2=>?_) (λc2=>?_)
   ·refine k1 H3 zJ ?_;rw[ef];unfold hZ.fit;rw[az c1,az (λe=>by rw[e]at c2;simp at c2)]
   ·have e2:z=b:=by have:¬¬(V.str z=V.str b):=λh=>c2 (by simpa using h);have:=uv.mp this;injection this
    refine{_,_,gi,rfl,zJ,iu,Mz,by lia,?_};rw[ef]
    conv=>lhs;unfold hZ.fit
    rw[az c1,aC e2]
 ·rintro Z H2 ⟨x4,x5,gi,rfl,s2,iU,Mz,lg2,ef⟩;rw[CO,xq (ar _),xq ∅]at ef;exact{_,rfl,k2 p gi H2 s2 hp iU ef}
def uB(fs:List En)(ws:List iC)(a:Str×Aah):List iC:=ws.flatMap λg=>(eX (cP fs a.1)).filterMap (hZ.fit isUnk g a.2)
def qu(fs:List En)(ats:Aaa):List iC:=ats.foldl (uB fs) [[]]
structure zx(fs:List En)(as:Aaa)(ws:List iC):Prop where
 nd:∀g∈ws,(keys g).Nodup
 kk:∀g∈ws,∀u,u∈keys g↔isUnk u=true/\∃a∈as,u∈a.2
 ft:∀g∈ws,∀h,kg g h->∀a∈as,a.2.map (ap isUnk h)∈cP fs a.1
 al:∀h,(∀a∈as,a.2.map (ap isUnk h)∈cP fs a.1)->∃g∈ws,kg g h
 ln:ws.length<=5^as.length
 gl:∀g∈ws,g.length<=4*as.length
def zx.start(fs:List En):zx fs [] [[]]:={λg h=>by rw[ay.mp h];exact fI,λg h u=>by rw[ay.mp h];exact{λq=>(by cases q),λ⟨_,_,q,_⟩=>by cases q},λ_ _ _ _ _ q=>(by cases q),λh _=>{[],ay.mpr rfl,λp hp=>by cases hp},ar _,λg h=>by rw[ay.mp h];exact aP _}
theorem y9:∀{ts as:Aah}{g g':iC},hZ.fit isUnk g ts as=some g'->g'.length<=g.length+ts.length
 |[],[],g,g',e=>by cases e;exact ar _
 |[],_::_,_,_,e=>by cases e
 |_::_,[],_,_,e=>by cases e
 |t::ts,a::as,g,g',e=>by
  unfold hZ.fit at e;rw[bx];split at e
  ·split at e
   ·split at e
    ·have:=y9 e;lia
    ·cases e
   ·have:=y9 e;rw[aO,dA]at this;lia
  ·split at e
   ·have:=y9 e;lia
   ·cases e
theorem zZ{α β:Type}(f:α->Option β):∀l:List α,(l.filterMap f).length<=l.length
 |[]=>ar _
 |a::l=>by
  have:=zZ f l;rw[fN,bx];split
  ·lia
  ·rw[bx];lia
def zx.step{fs:List En}{as:Aaa}{ws:List iC}(x:zx fs as ws){a:Str×Aah}(l5:(cP fs a.1).length<=5)(l4:a.2.length<=4):zx fs (as++[a]) (uB fs ws a):=by
 have of:∀{g'},g'∈uB fs ws a->∃g∈ws,∃row∈cP fs a.1,hZ.fit isUnk g a.2 row=some g':=λh=>by obtain⟨g,hg,h⟩:=j7.mp h;obtain⟨row,hr,e⟩:=kL.mp h;exact{g,hg,row,(g9 _ _).mp hr,e}
 refine{λg' h=>?_,λg' h u=>?_,λg' h hh ag b hb=>?_,λh hf=>?_,?_,λg' h=>?_}
 ·obtain⟨g,hg,row,hr,e⟩:=of h;exact(rS (x.nd g hg) e).1
 ·obtain⟨g,hg,row,hr,e⟩:=of h;rw[(rS (x.nd g hg) e).2.2.1 u,x.kk g hg u];constructor
  ·rintro(⟨u1,b,hb,q⟩|⟨q,u1⟩)
   ·exact{u1,b,gz _ hb,q}
   ·exact{u1,a,cc _ (ay.mpr rfl),q}
  ·rintro⟨u1,b,hb,q⟩;rcases bf.mp hb with hb|hb
   ·exact .inl ⟨u1,b,hb,q⟩
   ·rw[ay.mp hb]at q;exact .inr ⟨q,u1⟩
 ·obtain⟨g,hg,row,hr,e⟩:=of h;obtain⟨_,lg,_,rw_⟩:=rS (x.nd g hg) e;rcases bf.mp hb with hb|hb
  ·exact x.ft g hg hh (kg.longer (x.nd g hg) lg ag) b hb
  ·rw[ay.mp hb,rw_ hh ag];exact hr
 ·obtain⟨g,hg,ag⟩:=x.al h λb hb=>hf b (gz _ hb);obtain⟨g',e,ag'⟩:=Fd (gH:=isUnk) (ts:=a.2) (x.nd g hg) ag;exact{g',j7.mpr {g,hg,kL.mpr {_,(g9 _ _).mpr (hf a (cc _ (ay.mpr rfl))),e}},ag'}
 ·rw[aO,dA,jZ,BG];refine aD ?_ (Nat.mul_le_mul_left 5 x.ln);unfold uB;generalize ws=l
  induction l with
  |nil=>exact aP _
  |cons g l ih=>
   rw[o7,aO,bx,Nat.mul_succ];have h1:=zZ (hZ.fit isUnk g a.2) (eX (cP fs a.1));have h2:=uz (cP fs a.1);lia
 ·obtain⟨g,hg,row,hr,e⟩:=of h;have h1:=y9 e;have h2:=x.gl g hg;rw[aO,dA];lia
def El(fs:List En)(as:Aaa)(a:Str×Aah):qu fs (as++[a])=uB fs (qu fs as) a:=by unfold qu;rw[o6];rfl
theorem OO{H:Hp}{tb:Addr}{fs:List En}(tab:gW K H tb fs){ats:Aaa}(g:Good ats):∀i,i<=ats.length->zx fs (ats.take i) (qu fs (ats.take i))
 |0,_=>zx.start fs
 |i+1,h=>by rw[bg,au (show i<ats.length by lia)];show zx fs (ats.take i++[ats[i]]) (qu fs (ats.take i++[ats[i]]));rw[El];exact(OO tab g i ∅).step (tab.good _).1 (g _ (gh _)).1
def TZ(g:iC)(z:Str):w5 g z=over g (λu=>u) z:=rfl
def Gm{fs:List En}{ats:Aaa}{ws:List iC}(x:zx fs ats ws){hz:Aah}(br:yw hz ats)(row:Aah):(∃g∈ws,row=hz.map (w5 g))↔∃s,AskP.tD isUnk (cP fs) ats s/\row=hz.map s:=by
 constructor
 ·rintro⟨g,hg,rfl⟩;refine{ap isUnk (over g λu=>u),{λt u=>az (by rw[u];exact aW),λa ha=>x.ft g hg _ (Lh (x.nd g hg)) a ha},bX λz lM=>?_};unfold ap;cases u:isUnk z with
  |true=>exact TZ g z
  |false=>
   have n:z∉keys g:=λq=>by rw[((x.kk g hg z).mp q).1]at u;cases u
   show((hZ.get g z).getD z)=z;rw[get_none.mpr n];rfl
 ·rintro⟨s,hs,rfl⟩;have ea:∀ts:Aah,ts.map (ap isUnk s)=ts.map s:=λts=>bX λt _=>by
   unfold ap;cases u:isUnk t with
   |true=>rfl
   |false=>exact(hs.1 t u).symm
  obtain⟨g,hg,ag⟩:=x.al s λa ha=>by rw[ea];exact hs.2 a ha
  refine{g,hg,bX λz lM=>?_};show s z=(hZ.get g z).getD z;cases e:hZ.get g z with
  |some v=>exact ag.get e
  |none=>
   cases u:isUnk z with
   |false=>exact hs.1 z u
   |true=>exact absurd ((x.kk g hg z).mpr {u,qj.mp ((br.2 z lM).2 u)}) (get_none.mp e)
abbrev Gj(H:Hp):Aao->List iC->Prop:=Paired λ(v:V)(g:iC)=>∃p,v=.ref p/\H p=some (.dK (gK g))
def Bh{H H':Hp}{vs:Aao}{gs:List iC}(h:Gj H vs gs)(s:bq H H'):Gj H' vs gs:=Paired.vp h λ_ _ ⟨p,e,q⟩=>{p,e,s _ _ q}
inductive PQ(K:Frag)(vs:Aao)(H:Hp)(Q:VK)(_x3:XK):Prop
 |mk (v:V) (tb:Addr) (fs:List En) (hz:Aah) (ats:Aaa) (_:vs=[v,.ref tb]) (_:FC H v hz ats) (_:VA hz ats) (_:gW K H tb fs) (_:∀(l:Addr)(zs:Aao)(H':Hp),bq H H'->H l=none->H' l=some (.lst zs)->cT K H' zs (iy fs hz ats)->Q (.ref l) H')
structure aeB(P:Program)(w:World)(K:Frag)(mg:Aad)(base:Heap):Prop where
 Yv:dP P w K mg base 1 "_law_bound" ["_law_terms","_law_row","_law_given"] (L7 K)
 acr:dP P w K mg base 1 "_law_led" ["_law_terms","_law_given"] Vv
def yb{α β:Type}(f:α->Option β)(l:List α){i:Nat}{x:α}(h:l[i]?=some x):(l.take (i+1)).filterMap f=(l.take i).filterMap f++(f x).toList:=by
 rw[bg,h,List.filterMap_append];cases e:f x with
 |none=>simp[e]
 |some y=>simp[e]
def fk:cD ["_law_question_here","_law_tables_here","_law_ways","_law_name","_law_terms","_law_further","_law_given","_law_row","_law_more"] ["_law_question_here","_law_tables_here"] (defScope qA):=jD (-3)
def Yg{f:Addr}{fd:FuncData}(F:fq K "_law_all_answers" "_law_all_answers" qA f fd)(T:Txt K mg)(D:aeB P w K mg base):dk P w K mg base fU 2 f fd ["_law_question_here","_law_tables_here"] (PQ K):=by
 refine F.ok fk (λ_ _ _ _ h=>by cases h;subst_vars;rfl) (-4);obtain⟨v,tb,fs,hz,ats,rfl,⟨q,h0,aa,jr,rfl,hq,hh0,sX,nB⟩,va,tab,k⟩:=h;have hu:=jL hr;have la:jr.length=ats.length:=bw nB;refine{_,(aN (fJ 2 fk (eZ (cz jy))) (aN (fQ bS rfl (sM (dq lC (pv 0) bh (-15))) (iY rfl (cA (ir 3 fk) (cA (ir 4 fk) g7))) (aN (fJ 5 fk (eZ gM)) (aN (fQ bS rfl (fX (pv 2)) (ir 6 fk) (a9 (fQ bS rfl (fX (cW (rV hr.hd) rfl T.vj (-3) (cz (dF (Bq hr.hd hr.units) rfl T.Of (-3) (cz (yN hu (pv 1) (pv 3) (eZ gM) V0)))))) (ir 7 fk) (aN (fJ 8 fk (cl D.Yv hr (sO (pv 4) (pv 7) (pv 6)))) (a9 (gJ (dh X8 (pv 8) xI (eW _)) (a9 (lB (ox de gc f9 qe (pv 5) (cz (pv 8))))) eG)))))) (a9 (fJ 2 fk (pv 5)))))) (a9 (cN (cW (rV hr.hd) rfl T.vj (-3) (cz (dF (Bq hr.hd hr.units) rfl T.Of (-3) (cz (g8 rfl (cU (fs:=["_law_question_here"]) (fr:=[0])) (fX (pv 2)) (λ_ _ _ _=>(cl D.acr hr (dR (dq (uS (K:=K)) (pv 1) bh (-15)) (pv 0))))))))))))),?_}
 intro d0 gE;have s1:=aM gE (.dK []);refine{(by show 1<=sizeLine;decide),λw0 We=>?_};have s2:=s1.trans (aM We (.lst [V.ref d0]));have hw2:upd (upd H d0 (.dK [])) w0 (.lst [V.ref d0]) w0=some (.lst [V.ref d0]):=aw;have Wz:Gj (upd (upd H d0 (.dK [])) w0 (.lst [V.ref d0])) [V.ref d0] [[]]:=.cons {d0,rfl,aM We _ _ _ aw} .nil;generalize upd (upd H d0 (.dK [])) w0 (.lst [V.ref d0])=H2 at s2 hw2 Wz⊢;refine{_,rfl,_,_,_,_,rfl,rfl,bF.of (s2 _ _ hq),rfl,aa,rfl,{jr,bF.of (s2 _ _ sX)},UE (K:=K) (a:=aa) (xs:=jr) (λi Z H3=>∃(wl:Addr)(zs:Aao)(x3 x4 x5 x6 x7 x8:Aap),Z=[some (.ref q),some (.ref tb),some (.ref wl),x3,x4,x5,x6,x7,x8]/\bq H H3/\H3 wl=some (.lst zs)/\Gj H3 zs (qu fs (ats.take i))/\i<=ats.length) {w0,_,none,none,none,none,none,none,rfl,s2,hw2,Wz,aP _} (λi Z H3 _ hq=>by(obtain⟨_,_,_,_,_,_,_,_,_,sm,_⟩:=hq;exact bF.of (sm _ _ sX))) ?_ ?_}
 ·rintro i x Z H3 D1 hx ⟨wl,zs,x3,x4,x5,x6,x7,x8,rfl,s3,Q9,E7,_⟩ nr _;obtain⟨a,ha,p,t,rfl,hp,ht⟩:=Paired.at nB hx;have bJ:i<ats.length:=(ax.mp ha).1;obtain⟨l4,Wh,_,_⟩:=va.good a (aH ha);have G:=OO (K:=K) tab va.good i ∅;have e5:5^(ats.take i).length<=625:=aD (gw (n:=5) (j:=4) (-8) (by have:=va.l4;rw[aT];lia)) (-8);have lg4:4*(ats.take i).length<=16:=by have:=va.l4;rw[aT];lia
  have en:qu fs (ats.take (i+1))=uB fs (qu fs (ats.take i)) a:=by rw[bg,ha];exact El _ _ _
  rw[en]at nr;generalize qu fs (ats.take i)=ws at G E7 en nr;have lw:=G.ln;have lz:zs.length=ws.length:=bw E7;refine{p,_,rfl,bF.of (s3 _ _ hp),rfl,_,_,rfl,_,_,rfl,rfl,?_};refine{(-18),λfl hfl=>?_};have s4:=aM hfl (.lst []);refine{_,rfl,wl,rfl,{zs,bo.of (s4 _ _ Q9)},nG (K:=K) (a:=wl) (xs:=zs) (λj Z H4=>∃(us:Aao)(y6 y7 y8:Aap),Z=[some (.ref q),some (.ref tb),some (.ref wl),some (.str a.1),some (.ref t),some (.ref fl),y6,y7,y8]/\bq H3 H4/\H4 fl=some (.lst us)/\Gj H4 us (uB fs (ws.take j) a)/\us.length<=5*j/\j<=ws.length) {_,_,_,_,rfl,s4,aw,.nil,ar _,aP _} (λj Z H4 _ hq=>by(obtain⟨_,_,_,_,_,sm,_⟩:=hq;exact bo.of (sm _ _ Q9))) ?_ ?_}
  ·rintro j y Z H4 D2 hy ⟨us,y6,y7,y8,rfl,VC,C5,Wg,lu4,_⟩ VL _;obtain⟨g,hg,gp,rfl,hgp⟩:=Paired.at E7 hy;have hj:j<ws.length:=(ax.mp hg).1;have gm:=aH hg;have rj:=s3.trans VC;have SH:=tab.b.same rj;refine{_,rfl,tb,rfl,.inl {_,.inl SH.at_},_,rfl,(-18),λl0 mz=>?_};have m0:=aM mz (.lst []);have k0:upd H4 l0 (.lst []) l0=some (.lst []):=aw;generalize upd H4 l0 (.lst [])=H5 at m0 k0⊢;obtain⟨rq,ys,eq,hrq,hR,Rm,hgr,_⟩:=Ks (SH.same m0) k0 a.1;have l5:=(tab.good a.1).1;refine{_,kR.k (k:=Sum.inr a.1) (m0 _ _ SH.at_),?_};rw[eq];refine{rq,ys,cP fs a.1,rfl,bo.of hrq,hR,by lia,λsa vs M8 nu mu lu EY=>?_};have m1:=aM M8 (.ext (kz P w sa vs));have Hi:upd H5 sa (.ext (kz P w sa vs)) sa=some (.ext (kz P w sa vs)):=aw;refine{sa,vs,ys,rfl,Hi,λx hx=>{ip (EY x hx).1 m1,(EY x hx).2},λ_ x hx=>?_,by lia,λl zK hl xZ _=>?_}
   ·have:=hgr x.1 ((mu x.1).mp (cy hx));intro q;have:=this.1;rw[q]at this;cases this
   rw[pO nu mu]at xZ
   replace hl:upd H5 sa (.ext (kz P w sa vs)) l=none:=hl
   have m2:=aM hl (.lst zK);have VB:=m0.trans (m1.trans m2);have hR6:=cM xZ m2;have rB:upd (upd H5 sa (.ext (kz P w sa vs))) l (.lst zK) l=some (.lst zK):=aw;clear xZ EY mu nu Hi m1 m2 eq hR;have nfl:l≠fl:=λz=>by rw[z]at hl;have h1:=m0 _ _ C5;rw[aE (λe=>by rw[e,M8]at h1;cases h1),h1]at hl;cases hl
   obtain⟨H6,e6⟩:∃H6,H6=(upd (upd H5 sa (.ext (kz P w sa vs))) l (.lst zK)):=⟨_,rfl⟩;have i6:∀b u,b≠fl->H6 b=some u->(upd (upd H5 sa (.ext (kz P w sa vs))) l (.lst zK)) b=some u:=λb u _ h=>by rw[e6]at h;exact h
   have k6:=VB;rw[<-e6]at k6 hR6 rB;have lry:zK.length=(eX (cP fs a.1)).length:=bw hR6;have lun:=uz (cP fs a.1);have s46:=VC.trans VB;refine{l,rfl,{_,bo.of aw},nG (K:=K) (a:=l) (xs:=zK) (λm Z H7=>∃(vs:Aao)(y7 y8:Aap),Z=[some (.ref q),some (.ref tb),some (.ref wl),some (.str a.1),some (.ref t),some (.ref fl),some (.ref gp),y7,y8]/\bq H3 H7/\(∀b u,b≠fl->H6 b=some u->H7 b=some u)/\H7 fl=some (.lst vs)/\Gj H7 vs (uB fs (ws.take j) a++((eX (cP fs a.1)).take m).filterMap (hZ.fit isUnk g a.2))/\vs.length<=5*j+m/\m<=(eX (cP fs a.1)).length) {us,_,_,rfl,s46,i6,VB _ _ C5,?_,by lia,aP _} (λm Z H7 _ hq=>by(obtain⟨_,_,_,_,_,kp,_⟩:=hq;exact bo.of (kp _ _ nfl rB))) ?_ ?_}
   ·rw[yt,List.filterMap_nil,b6];exact Bh Wg VB
   ·rintro m r Z H7 D3 zS ⟨vs,y7,y8,rfl,s7,kp,WC,Hg,lv7,_⟩ VJ _;obtain⟨row,OB,ra,rfl,Wn⟩:=Paired.at hR6 zS;have hm:m<(eX (cP fs a.1)).length:=(ax.mp OB).1;have t67:dw H6 H7:=λb xs h=>by
     rcases h with h|⟨o,h⟩
     ·exact .inl (kp _ _ (λe=>by rw[e,k6 _ _ C5]at h;cases h) h)
     ·exact .inr {o,kp _ _ (λe=>by rw[e,k6 _ _ C5]at h;cases h) h}
    have Ui:=pb Wn t67;obtain⟨gr1,gr2,_⟩:=(tab.good a.1).2 row ((g9 _ _).mp (aH OB));have gl:=G.gl g gm;refine{_,rfl,_,rfl,_,rfl,gp,t,ra,g,a.2,row,rfl,s7 _ _ hgp,by lia,G.nd g gm,bF.of (s7 _ _ (s3 _ _ ht)),Ui,by lia,by lia,λz lM=>{(Wh z lM).1,(Wh z lM).2.1},λH8 s8 e=>?_,λpp g' H8 s8 km hp8 e=>?_}
    ·refine{_,rfl,rfl,_,rfl,vz (VJ _ _ {vs,_,_,rfl,s7.trans s8,λb u n h=>s8 _ _ (kp b u n h),s8 _ _ WC,?_,by lia,hm})};rw[yb _ _ OB,e,Option.toList_none,b6];exact Bh Hg s8
    ·have hf8:=s8 _ _ WC;refine{_,rfl,rfl,_,rfl,F0 {_,rfl,.inl {rfl,_,bo.of hf8},_,rfl,_,_,_,rfl,rfl,hf8,by rw[b8];lia,?_}};have ki:∀b u,b≠fl->H8 b=some u->upd H8 fl (.lst (vs++[V.ref pp])) b=some u:=λb u n h=>by rw[aE n];exact h
     refine VJ _ _ {_,_,_,rfl,λb u h=>ki _ _ (ba h hfl) (s8 _ _ (s7 _ _ h)),λb u n h=>ki _ _ n (s8 _ _ (kp b u n h)),aw,?_,by rw[aO];show vs.length+1<=_;lia,hm};rw[yb _ _ OB,e,cL,<-cR];have up:∀{b:Addr}{g:iC},H8 b=some (.dK (gK g))->upd H8 fl (.lst (vs++[V.ref pp])) b=some (.dK (gK g)):=λh=>ki _ _ (λz=>by rw[z,hf8]at h;cases h) h;exact Paired.Et (Paired.vp (Bh Hg s8) λ_ _ ⟨b,e,h⟩=>{b,e,up h}) {pp,rfl,up hp8}
   ·rintro Z H7 ⟨vs,y7,y8,rfl,s7,kp,WC,Hg,lv7,_⟩;rw[lry,aV]at Hg;refine VL _ _ {vs,_,_,_,rfl,s7,WC,?_,by rw[lry]at lv7;lia,hj};rw[bg,hg];unfold uB at Hg⊢;rw[cL,Aj,o7,List.flatMap_nil,b6];exact Hg
  ·rintro Z H4 ⟨us,y6,y7,y8,rfl,VC,C5,Wg,lu4,_⟩;rw[lz,aV]at Wg;exact{_,rfl,nr _ _ {fl,us,_,_,_,_,_,_,rfl,s3.trans VC,C5,Wg,bJ}}
 ·rintro Z H3 ⟨wl,zs,x3,x4,x5,x6,x7,x8,rfl,s3,Q9,E7,_⟩;have G:=OO (K:=K) tab va.good ats.length (ar _);rw[la]at E7;rw[aV]at E7 G;have e5:5^ats.length<=625:=aD (gw (n:=5) (j:=4) (-8) va.l4) (-8);generalize qu fs ats=ws at G E7;have lw:=G.ln;have lz:zs.length=ws.length:=bw E7;refine{_,rfl,wl,rfl,{_,bo.of Q9},jg (K:=K) (a:=wl) (xs:=zs) (λj ys H4=>bq H3 H4/\j<=ws.length/\cT K H4 ys ((ws.take j).map λg=>hz.map (w5 g))) (bC ∅) {bq.refl _,aP _,.nil} ?_ ?_ ?_}
  ·rintro j ys H4 hj ⟨s4,_,wA⟩;have:=bw wA;rw[ak,aT]at this;exact{bo.of (s4 _ _ Q9),by lia}
  ·rintro j x ys H4 N hx ⟨s4,_,wA⟩ hN;obtain⟨g,hg,gp,rfl,hgp⟩:=Paired.at E7 hx;have rj:=s3.trans s4;refine gu {_,rfl,_,_,_,_,rfl,rfl,bF.of (rj _ _ hq),rfl,_,rfl,h0,gp,hz,g,rfl,rj _ _ hh0,s4 _ _ hgp,by have:=va.br.1;lia,λr H5 s5 Wo=>hN _ _ {s4.trans s5,(ax.mp hg).1,?_}};rw[bg,hg,cL,aJ];exact kQ (cM wA s5) {r,rfl,bF.of Wo}
  rintro ys H4 ⟨s4,_,wA⟩ yl hyl;rw[lz,aV]at wA;have s5:=aM hyl (-38);have hy5:upd H4 yl (-38) yl=some (-38):=aw;have Wo:=cM wA s5;have xB:=s3.trans (s4.trans s5);generalize upd H4 yl (-38)=H5 at s5 hy5 Wo xB⊢;have lr:(ws.map λg=>hz.map (w5 g)).length=ws.length:=ak _;have mem:∀r,r∈(ws.map λg=>hz.map (w5 g))↔r∈iy fs hz ats:=λr=>by rw[yT (K:=K) tab va.br r,<-Gm G va.br r,aR];exact{λ⟨g,hg,e⟩=>{g,hg,e.symm},λ⟨g,hg,e⟩=>{g,hg,e.symm}}
  refine{yl,ys,_,rfl,bo.of hy5,Wo,by lia,λsa us M8 nu mu lu EY=>?_};have m1:=aM M8 (.ext (kz P w sa us));have Hi:upd H5 sa (.ext (kz P w sa us)) sa=some (.ext (kz P w sa us)):=aw;refine{sa,us,ys,rfl,Hi,λx hx=>{ip (EY x hx).1 m1,(EY x hx).2},λ_ x hx=>?_,by lia,λl zK hl xZ _=>?_}
  ·intro q;have:=(D8 (K:=K) tab va x.1 ((mem x.1).mp ((mu x.1).mp (cy hx)))).1;rw[q]at this;cases this
  have ea:kG (us.map (·.1))=iy fs hz ats:=by have h1:=pO nu λr=>(mu r).trans (mem r);rw[h1];unfold iy;exact CC _
  rw[ea]at xZ
  replace hl:upd H5 sa (.ext (kz P w sa us)) l=none:=hl
  have m2:=aM hl (.lst zK);exact k l zK _ (xB.trans (m1.trans m2)) ((xB.trans m1).free hl) aw (cM xZ m2)
end
end oQ
namespace L2
open PySem PySem.Spec PyProof.Rows
def W8(K:Frag)(H:Hp)(p q:Key×V):Prop:=p.1=q.1/\∃d,Dt K H d p.2/\Dt K H d q.2/\SeqAt.shaped d=true/\PyData.eqv d d=true
inductive adf(K:Frag)(x:V)(y:V)(H:Hp)(Q:VK):Prop
 |mk a b ka kb (_:x=.ref a) (_:y=.ref b) (_:H a=some (.dK ka)) (_:H b=some (.dK kb)) (_:ka.length=kb.length) (_:(∀p∈ka,∃q∈kb,W8 K H p q)) (_:Q (.bl false) H)
section
variable{X:Cx}
theorem kv_mem{q:Key×V}:∀{kb:List (Key×V)}{vb:List (Key×Value)},KV kb vb->q∈kb->∃b∈vb,KV [q] [b]
 |_,_,.cons h t,hq=>by
  rcases aG.mp hq with rfl|hq
  ·exact{_,aA,.cons h .nil}
  ·obtain⟨b,hb,k⟩:=kv_mem t hq;exact{b,aB _ hb,k}
def acE{pins:Aac}{Z:St}{H:Hp}{s:Shared}(hu:X.A.units+96<cLine)(I:Inv X pins Z H s){kb:List (Key×V)}{vb:List (Key×Value)}(nd:(vb.map (·.1)).Nodup)(rb:KV kb vb):∀{ka:List (Key×V)}{va:List (Key×Value)},(∀p∈ka,∃q∈kb,W8 X.K H p q)->KV ka va->PySem.W.KeqHits X.A.in1 s vb va true:=by
 intro ka
 induction ka with
 |nil=>intro va _ r;cases r;exact .nil
 |cons p ka ih=>
  intro va h r;cases r with
  |@cons _ a _ as h1 t1=>
   obtain⟨q,hq,e,d,d1,d2,sh,ev⟩:=h p aA;obtain⟨b,hb,k⟩:=kv_mem rb hq;cases k with
   |cons h2 _=>
    obtain⟨k,v⟩:=a;obtain⟨k',v'⟩:=b;have ek:k=k':=h1.1.symm.trans (e.trans h2.1);subst ek;obtain⟨as1,ra⟩:=pP I d p.2 v d1 h1.2;obtain⟨bs1,rb'⟩:=pP I d q.2 v' d2 h2.2;have at':=PySem.W.keq_at (A:=X.A) ra rb' sh sh (show X.A.units+1+64<cLine by lia);rw[ev]at at';obtain⟨i,hi⟩:=dy.mp hb;exact .hit (e:=true) (b:=true) (valueAt_of_get nd hi) at' (ih (λx hx=>h x (aB _ hx)) t1)
def aan(hu:X.A.units+96<cLine):jh X (compareOp .NotEq) (adf X.K):=by
 intro pins s Z H x y v u Q I rx ry h;obtain⟨a,b,ka,kb,rfl,rfl,ha,hb,hl,hs,q⟩:=h;cases rx;cases ry;obtain⟨_,la,va,ra,da⟩:=oB I.br ha;obtain⟨_,lb,vb,rb,db⟩:=oB I.br hb;have le:va.length=vb.length:=by rw[<-ra.length,<-rb.length];exact hl
 refine PySem.W.keq_ne (r:=true) la lb da db ∅ (λ_=>acE hu I ?_ rb hs ra) ?_
 ·obtain⟨_,_,_,_,_,_,_,_,nd⟩:=db;exact nd
 ·rw[le];simp only[Gk,gO,iI];exact{.bl false,H,I,rfl,q}
end
end L2
namespace oQ
open PySem PySem.Spec PyProof.Rows L2 Hw hZ
seal L2.PE L2.PT L2.PW L2.PA L2.PS L2.qo L2.PI L2.PO L2.K2 L2.PG L2.Hy
def YZ{κ:Type}[DecidableEq κ]{l:List (κ×V)}{k:κ}(h:k∉l.map (·.1)):(l.any λkv=>decide (kv.1=k))=false:=by rw[fL];intro e;obtain⟨kv,h1,h2⟩:=j8.mp e;exact h (aR.mpr {kv,h1,bj h2})
def XT{k:Key}{v:V}(h:k∉l.map (·.1)):putK l k v=l++[(k,v)]:=by unfold putK;rw[YZ h];rfl
theorem JL:∀(kvs l:List (Key×V)),((l++kvs).map (·.1)).Nodup->iO l kvs=l++kvs
 |[],l,_=>by rw[b6];rfl
 |kv::r,l,h=>by
  have hn:kv.1∉l.map (·.1):=by rw[aJ,eB]at h;intro e;exact h.2.2 _ e _ (by rw[aU];exact aA) rfl
  show iO (putK l kv.1 kv.2) r=_;rw[XT hn,JL r (l++[(kv.1,kv.2)]) (by rw[cR];exact h),cR];rfl
def Pz(x:Ext d H H1)(sm:bq H1 H2)(hu:H d=some u):bq H (upd H2 d u):=λb z h=>by
 by_cases e:b=d
 ·subst e;rw[aw,<-h,hu]
 ·rw[aE e];exact sm b z (x b z e h)
def TQ{es:List En}(h:(es.map (·.nm)).Nodup):((es.map dt).map (·.1)).Nodup:=by rw[JJ];exact GU.mpr h
def U7(es fK:List En):Prop:=Paired (λ(e e':En)=>e'.nm=e.nm/\e'.ys=e.ys/\e'.rows=e.rows) es fK
def same_none(s:bq H H')(h:H' a=none):H a=none:=by
 cases q:H a with
 |none=>rfl
 |some o=>
  rw[s _ _ q]at h;cases h
section
def sG(F:∀{α:Type},List α->List α)(es fK:List En):Prop:=Paired (λ(e e':En)=>e'.nm=e.nm/\e'.ys=F e.ys/\e'.rows=F e.rows) es fK
variable{K:Frag}{F:∀{α:Type},List α->List α}
def sG.gC{es fK:List En}(h:sG F es fK):fK.map (·.nm)=es.map (·.nm):=by
 unfold sG at h
 induction h with
 |nil=>rfl
 |cons q _ ih=>rw[aU,aU,ih,q.1]
theorem sG.cP{es fK:List En}(h:sG F es fK)(h0:F ([]:Aab)=[])(z:Str):cP fK z=F (cP es z):=by
 unfold sG at h
 induction h with
 |nil=>exact h0.symm
 |@cons a b as bs q _ ih=>
  unfold oQ.cP at ih⊢;rw[eK,eK,q.1];cases decide (a.nm=z)with
  |true=>exact q.2.2
  |false=>exact ih
def TV:∀{es fK:List En},sG F es fK->∀{i:Nat}{e':En},fK[i]?=some e'->∃e,es[i]?=some e/\e'.nm=e.nm/\e'.ys=F e.ys/\e'.rows=F e.rows:=by
 intro es fK h;unfold sG at h
 induction h with
 |nil=>intro i e' h;cases h
 |@cons a b as bs q _ ih=>
  intro i e' h;cases i with
  |zero=>cases h;exact⟨a,rfl,q⟩
  |succ i=>exact ih h
def YT{te:TE}{Z:L2.St}{j:Nat}{H:Hp}{Q:VK}{fe d:Addr}{es:List En}(e:Z[j]?=some (some (.ref d)))(hT:BB fe H d es)(hfo:∃o,H fe=some o)
  (hF:∀x∈es,(F x.rows).length<=5) (sub:∀{α:Type}(l:List α)(x:α),x∈F l->x∈l) (hP:∀{α β:Type}{R:α->β->Prop}{l:List α}{m:List β},Paired R l m->Paired R (F l) (F m))
  (hte:∀(x:En)(H2:Hp)(N:VK),x∈es->kR H2 d (.str x.nm) (some (.ref x.ad))->H2 x.ad=some (.lst x.ys)->(∀l H3,bq H2 H3->H2 l=none->H3 l=some (.lst (F x.ys))->N (.ref l) H3)->te (some (.str x.nm)::slotsOf [j] Z) H2 N)
  (k:∀(p:Addr)(fK:List En)(H':Hp),bq H H'->H p=none->BB fe H' p fK->sG F es fK->Q (.ref p) H'):
  PB (ZO (Qd K) (sj (uA (Wa (NI j)) [j] BV (ZD (sj (NI 0) (sj te FI)))) FI)) Z H Q:=by
 obtain⟨ofe,hfe⟩:=hfo;obtain⟨nd,hd,hn,hl,ho⟩:=id hT;have adp:∀(u:Obj)(v:HO),H d≠some (.c7 u v):=λu v=>by rw[hd];exactλz=>nomatch z
 refine{d,adp,_,e,d,es.map dt,rfl,hd,λo=>?_};have x1:Ext d H (upd H d (.c7 o (.dK (es.map dt)))):=λb z n h=>by rw[aE n];exact h
 have ug:upd H d (.c7 o (.dK (es.map dt))) d=some (.c7 o (.dK (es.map dt))):=aw;generalize (upd H d (.c7 o (.dK (es.map dt))))=H1 at x1 ug⊢;refine R6 (λi ys H2=>bq H1 H2/\∃fK:List En,sG F (es.take i) fK/\Paired (λ(y:V)(e:En)=>∃t,y=.ref t/\H2 t=some (.tup [.str e.nm,.ref e.ad])/\H1 t=none) ys fK/\∀e∈fK,H1 e.ad=none/\H2 e.ad=some (.lst e.ys)) (-27) {bq.refl H1,[],.nil,.nil,λe h=>by cases h} ?_ ?_ ?_
 ·rintro i ys H2 hi ⟨sm,fK,hk,hp,_⟩;refine{sm _ _ ug,?_};rw[hp.length,<-hk.length,aT];lia
 ·rintro i kv ys H2 N hc ⟨sm,fK,hk,hp,Bc⟩ hN;rw[aK]at hc;obtain⟨e,hce,rfl⟩:=aX.mp hc;have he:=aH hce;obtain⟨hz,na,ha,hR,hg,Rm⟩:=ho e he;have ned:e.ad≠d:=λq=>by rw[q,hd]at ha;cases ha
  have ha2:=sm _ _ (x1 _ _ ned ha);have g:kR H2 d (.str e.nm) (some (.ref e.ad)):=.inl {es.map dt,Sum.inr e.nm,.inr {o,sm _ _ ug},rfl,(BS hn he).symm};refine gu {_,rfl,hte e H2 _ he g ha2 λl H3 s3 hl mV=>{(-35),λt ht=>hN _ _ ?_}};have s4:=aM ht (.tup [.str e.nm,.ref l]);refine{(sm.trans s3).trans s4,fK++[{e.nm,l,F e.ys,F e.rows}],?_,?_,λe' h'=>?_}
  ·rw[bg,hce];exact kQ hk ⟨rfl,rfl,rfl⟩
  ·exact kQ (Paired.vp hp λy e' ⟨t',e1,h1,h2⟩=>{t',e1,(s3.trans s4) _ _ h1,h2}) {t,rfl,aw,same_none (sm.trans s3) ht}
  ·rcases bf.mp h' with h'|h'
   ·exact{(Bc e' h').1,(s3.trans s4) _ _ (Bc e' h').2}
   ·rw[ay.mp h'];exact{same_none sm hl,s4 _ _ mV}
 ·rintro ys H2 ⟨sm,fK,hk,hp,Bc⟩ l Ba;rw[ak,aV]at hk;have s3:bq H2 (upd H2 l (-38)):=aM Ba _;have mV:upd H2 l (-38) l=some (-38):=aw;generalize (upd H2 l (-38))=H3 at s3 mV⊢;have iu:Paired (λ(y:V)(kv:Key×V)=>∃t,y=.ref t/\H3 t=some (.tup [kV kv.1,kv.2])) ys (fK.map dt):=by
   have:∀{ys:Aao}{fK:List En},Paired (λ(y:V)(e:En)=>∃t,y=.ref t/\H2 t=some (.tup [.str e.nm,.ref e.ad])/\H1 t=none) ys fK->Paired (λ(y:V)(kv:Key×V)=>∃t,y=.ref t/\H3 t=some (.tup [kV kv.1,kv.2])) ys (fK.map dt):=λh=>by
    induction h with
    |nil=>exact .nil
    |cons q _ ih=>
     obtain⟨t,e1,h1,_⟩:=q;exact .cons {t,e1,s3 _ _ h1} ih
   exact this hp
  have MV:(fK.map (·.nm)).Nodup:=by rw[hk.gC];exact hn
  refine{l,ys,fK.map dt,rfl,bo.of mV,iu,λp G8=>?_};rw[JL (fK.map dt) [] (by rw[kK];exact TQ MV),kK];have s4:bq H3 (upd H3 p (.dK (fK.map dt))):=aM G8 _;have s14:=(sm.trans s3).trans s4;have Kn:=s14 _ _ ug;refine{o,_,Kn,?_};have sT:=Pz x1 s14 hd;have npd:p≠d:=λq=>by rw[q,s3 _ _ (sm _ _ ug)]at G8;cases G8
  have hpH:H p=none:=by
   cases q:H p with
   |none=>rfl
   |some z=>
    rw[s3 _ _ (sm _ _ (x1 _ _ npd q))]at G8;cases G8
  refine k p fK _ sT hpH {λq=>?_,?_,MV,by rw[<-hk.length];exact hl,λe' h'=>?_} hk
  ·rw[q,hfe]at hpH;cases hpH
  ·rw[aE npd,aw]
  ·obtain⟨i,hi⟩:=dy.mp h';obtain⟨e,he,q1,q2,q3⟩:=TV hk hi;obtain⟨hz,na,ha,hR,hg,Rm⟩:=ho e (aH he);obtain⟨r1,r2⟩:=Bc e' h';have nad:e'.ad≠d:=λq=>by rw[q,ug]at r1;cases r1
   refine{by rw[q1];exact hz,λq=>?_,?_,?_,?_,?_}
   ·rw[q,x1 _ _ (cb nd) hfe]at r1;cases r1
   ·rw[aE nad];exact s4 _ _ (s3 _ _ r2)
   ·rw[q2,q3];exact hP (oq hR (Ext.of sT))
   ·rw[q3]
    exactλr hr=>hg r (sub _ _ hr)
   ·rw[q3];exact hF e (aH he)
def YA(h:∀r∈rows,mJ r):qX rows:=λr hr z hz=>sJ ((h r hr).2.2 z hz)
def BB.r(h:BB f H d es):gW K H d es:={h.2.1,h.2.2.1,λe he=>by obtain⟨_,_,h3,h4,h5,h6⟩:=h.2.2.2.2 e he;exact{h3,Dz h4,h6,h5}}
def XE:∀{es fK:List En},U7 es fK->(∀e∈fK,Eg f H e)->(∀e∈es,Eg f H e)->KZ K H (fK.map dt) (es.map dt):=by
 intro es fK h;unfold U7 at h
 induction h with
 |nil=>intro _ _;exact .nil
 |@cons a b as bs q _ ih=>
  intro h1 h2;obtain⟨_,_,hb,hRb,hg,_⟩:=h1 b aA;obtain⟨_,_,ha,hRa,_,_⟩:=h2 a aA;refine .cons {bU Sum.inr q.1,kh b.rows,yg (bo.of hb) (Dz hRb),?_,CG (YA hg),by rw[DS];exact bp rfl} (ih (λe he=>h1 e (aB _ he)) (λe he=>h2 e (aB _ he)));rw[q.2.2];exact yg (bo.of ha) (Dz hRa)
end
end oQ
namespace L2
open PySem PySem.Spec PyProof.Rows
section
variable{X:Cx}
inductive Yz(P:Program)(w:World)(R:It->Hp->Prop)(x:V)(H1:Hp):Prop
 |mk d o u kvs (_:x=.ref d) (_:H1 d=some (.c7 o u)) (_:HS P w d u kvs) (_:R (Hz d o u kvs) H1)
def aaW(P:Program)(w:World)(tl:TE):TI:=λZ H R=>tl Z H λx H1=>Yz P w R x H1
def Jh{tg l:Expr}{tl:TE}(hl:PE X l tl):PI X tg l (aaW X.prog X.w tl):=by
 intro pins s Z H R I h;refine df (hl pins s Z H _ I h) λv s1 x H1 I1 r1 q1=>?_;obtain⟨d,o,u,kvs,e,hd,hv,q⟩:=q1;subst e;cases r1;obtain⟨ho,hu⟩:=I1.br d _ hd;obtain⟨lo,o',es,ep,ga,m⟩:=Nd hu hv;obtain rfl:o=o':=bK (ho.symm.trans ga);refine BY lo ga m.1 m.2.1 ?_;refine{s1.heap.objs.size,[s1.heap.objs.size],_,_,_,rfl,I1.kept (t':=s1.toks) λb o e=>aq _ e,Ib m,{_,aF _ rfl,rfl,rfl},λb hb=>?_,q};have e:b=s1.heap.objs.size:=by simpa using hb
 subst e;exact I1.qN (ar _) (I1.br.fresh (ar _))
end
end L2
namespace oQ
open PySem PySem.Spec PyProof.Rows L2 Hw hZ
seal L2.PE L2.PT L2.PW L2.PA L2.PS L2.qo L2.PI L2.PO L2.K2 L2.PG L2.Hy
theorem Oe{α β:Type}(f:α->β):∀{l:List α},(l.map f).Nodup->∀{a b:α},a∈l->b∈l->f a=f b->a=b
 |[],_,_,_,h,_,_=>by cases h
 |x::r,nd,a,b,ha,hb,e=>by
  rw[aU,cX]at nd;rcases aG.mp ha with e1|h1
  ·rcases aG.mp hb with e2|h2
   ·rw[e1,e2]
   ·exact absurd (aR.mpr {b,h2,by rw[<-e,e1]}) nd.1
  ·rcases aG.mp hb with e2|h2
   ·exact absurd (aR.mpr {a,h1,by rw[e,e2]}) nd.1
   ·exact Oe f nd.2 h1 h2 e
def Iq{fs:List En}{j:Nat}{x:En}(q:En->Bool)(h:fs[j]?=some x):(fs.take (j+1)).filter q=(fs.take j).filter q++if q x=true then[x]else[]:=by rw[bg,h,fb];show _++List.filter q [x]=_;rw[gj];rfl
abbrev zr(K:Frag)(G:Addr->Prop)(H:Hp):Aao->List En->Prop:=Paired λy e=>∃a ys,y=.ref a/\G a/\H a=some (-38)/\cT K H ys e.rows
theorem B1{K:Frag}{G G':Addr->Prop}{H H':Hp}(g:∀a,G a->G' a)(k:∀a u,G a->H a=some u->H' a=some u)(t:dw H H'):∀{zs:Aao}{es:List En},zr K G H zs es->zr K G' H' zs es
 |_,_,.nil=>.nil
 |_,_,.cons ⟨a,ys,e,ga,h,r⟩ tl=>.cons {a,ys,e,g a ga,k _ _ ga h,iE r t} (B1 g k t tl)
def MB{K:Frag}{G:Addr->Prop}{H:Hp}{zs:Aao}{es:List En}{y:V}{e:En}(h:zr K G H zs es)(q:∃a ys,y=.ref a/\G a/\H a=some (-38)/\cT K H ys e.rows):zr K G H (zs++[y]) (es++[e]):=Paired.app h (.cons q .nil)
def oy(es:List En):PyData:=.list (es.map λe=>kh e.rows)
theorem F5{K:Frag}{G:Addr->Prop}{H:Hp}:∀{zs:Aao}{es:List En},zr K G H zs es->lY K H (es.map λe=>kh e.rows) zs
 |_,_,.nil=>by rw[ji,lY]
 |_,_,.cons ⟨a,ys,e,_,h,r⟩ t=>by rw[aU,lY];exact{_,_,rfl,by rw[e];exact yg (bo.of h) r,F5 t}
theorem Kx:∀es:List En,PyData.eqvAll (es.map λe=>kh e.rows) (es.map λe=>kh e.rows)=true
 |[]=>by simp[PyData.eqvAll]
 |a::r=>by rw[aU,PyData.eqvAll,DS,Kx r,bp rfl];rfl
theorem JV:∀es:List En,(∀e∈es,qX e.rows)->PyData.canLayAll0 (es.map λe=>kh e.rows)=true
 |[],_=>rfl
 |a::r,h=>by have h1:(kh a.rows).canLay0=true:=DH a.rows (h a aA);have h2:=JV r λe he=>h e (aB _ he);rw[aU,PyData.canLayAll0,h1,h2];rfl
theorem Fo:∀es:List En,PyData.depthAll (es.map λe=>kh e.rows)<=2
 |[]=>by simp[PyData.depthAll]
 |a::r=>by
  have h1:=zb a.rows;have h2:=Fo r;have h3:(kh a.rows).depth<=2:=by unfold kh;rw[PyData.depth];lia
  rw[aU,PyData.depthAll];lia
def CH{es:List En}(h:∀e∈es,qX e.rows):SeqAt.shaped (oy es)=true:=by have h1:=JV es h;have h2:=Fo es;simp[SeqAt.shaped,oy,PyData.canLay0,PyData.depth,h1];lia
section
variable{P:Program}{w:World}{K:Frag}{mg:Aad}{base:Heap}
def FA.same{H H':Hp}{a:Addr}{xs:Aao}(h:FA K H a xs)(s:bq H H'):FA K H' a xs:=by
 rcases h with⟨ob,h⟩|h
 ·exact .inl {ob,s _ _ h}
 ·exact .inr h
def Y0{H:Hp}{tb:Addr}{fs:List En}(tab:gW K H tb fs){hz:Aah}{ats:Aaa}(x:VA hz ats):(iy fs hz ats).length<=625:=by
 have G:=OO (K:=K) tab x.good ats.length (ar _);rw[aV]at G;have h:=mS (l:=iy fs hz ats) (m:=(qu fs ats).map λg=>hz.map (w5 g)) (wQ _) λr hr=>by obtain⟨g,hg,e⟩:=(Gm G x.br r).mpr ((yT (K:=K) tab x.br r).mp hr);exact aR.mpr {g,hg,e.symm}
 rw[ak]at h;exact aD h (aD G.ln (aD (gw (n:=5) (j:=4) (-8) x.l4) (-8)))
def abS{H:Hp}{tb:Addr}{fs:List En}(tab:gW K H tb fs){xs:List View}(hx:∀x∈xs,VA x.2.1 x.2.2)(z:Str):qX (oI fs xs z)/\(oI fs xs z).length<=625:=by
 unfold oI;split
 ·next x e=>
  have va:=hx x (jN e);exact{λr hr y hy=>sJ ((D8 (K:=K) tab va r hr).2.2 y hy),Y0 (K:=K) tab va}
 ·exact{λr hr=>(by cases hr),aP _}
def FG{fs fs':List En}(h:cP fs'=cP fs)(xs:List View):oI fs' xs=oI fs xs:=by funext z;unfold oI iy;rw[h]
def TL(K:Frag)(H:Hp)(es:List En):Prop:=∀e∈es,H e.ad=some (.lst e.ys)/\cT K H e.ys e.rows/\tw H e.ys/\qX e.rows/\e.rows.length<=900
def Sv{H:Hp}{vs:Aao}{xs:List View}(h:Df H vs xs):∀x∈xs,VA x.2.1 x.2.2:=by
 induction h with
 |nil=>intro x h;cases h
 |cons q _ ih=>
  intro x hx;rcases aG.mp hx with rfl|hx
  ·obtain⟨_,_,_,_,h,_⟩:=q;exact h.va
  ·exact ih x hx
def acS{es gs:List En}(h:es.map (λe=>(e.nm,e.ad))=gs.map λe=>(e.nm,e.ad)):es.map dt=gs.map dt/\es.map (·.nm)=gs.map (·.nm)/\es.map (·.ad)=gs.map (·.ad):=by
 refine{?_,?_,?_}
 ·have:=bU (List.map λp:Str×Addr=>((Sum.inr p.1:Key),V.ref p.2)) h;rw[bW,bW]at this;exact this
 ·have:=bU (List.map λp:Str×Addr=>p.1) h;rw[bW,bW]at this;exact this
 ·have:=bU (List.map λp:Str×Addr=>p.2) h;rw[bW,bW]at this;exact this
def not_false(n:Nat):G1 (.bl false) (List.replicate n (V.bl true))=false:=by
 induction n with
 |zero=>rfl
 |succ n ih=>
  rw[Ah];unfold G1 at ih⊢;rw[mE,ih];rfl
def RL(n:Nat):(List.replicate n (V.bl true)).all qO=true:=by
 induction n with
 |zero=>rfl
 |succ n ih=>rw[Ah,Ab,ih];rfl
inductive HM(K:Frag)(vs:Aao)(H:Hp)(Q:VK)(_x3:XK):Prop
 |mk (a:Addr) (ns:List Int) (_:vs=[.ref a]) (_:FA K H a (ns.map V.int)) (_:ns.length<=63) (_:∀H',Q (.bl true) H')
structure Dq(P:Program)(w:World)(K:Frag)(mg:Aad)(base:Heap):Prop where
 QP:dP P w K mg base 1 "_law_feed" ["_law_script","_law_k"] (PM K)
 fA:dP P w K mg base 1 "_law_draw" ["_law_feed_here","_law_many"] (Ep K)
 uR:dP P w K mg base 2 "_law_words" ["_law_feed_here","_law_many"] (BW K)
 Yu:dP P w K mg base 5 "_law_views" ["_law_feed_here","_law_names","_law_many"] (Iy K)
 T4:dP P w K mg base 2 "_law_tables" ["_law_feed_here","_law_names"] (Iz K)
 HJ:dP P w K mg base 2 "_law_all_answers" ["_law_question_here","_law_tables_here"] (PQ K)
 seen:dP P w K mg base 9 "seen" ["views","tables"] (PL K)
def jT:cD ["_law_script","_law_feed_here","_law_names","_law_views_here","_law_j","_law_tables_here","_law_handed","_law_due","_law_name","_law_made","_law_rows","_law_turn","_law_told","_law_kept"] ["_law_script"] (defScope NS):=jD (-3)
def aav(F:fq K "law" "law" NS f fd)(T:Txt K mg)(D:Dq P w K mg base):dk P w K mg base fU 10 f fd ["_law_script"] (HM K):=by
 refine F.ok jT (λ_ _ _ _ h=>by cases h;subst_vars;rfl) (-4);obtain⟨a,ns,rfl,hS,hn,k⟩:=h;have hu:=jL hr;refine{_,(aN (fJ 1 jT (cl D.QP hr (dR (pv 0) bh))) (aN (fJ 2 jT (cl D.uR hr (dR (pv 1) bh))) (aN (fJ 3 jT (cl D.Yu hr (sO (pv 1) (pv 2) (cl D.fA hr (dR (pv 1) bh))))) (aN (fQ bS rfl (jP rfl T.mI (cz bh)) (ir 4 jT) (aN (jU (i:=5) jT.nd rfl (Or.inr rfl) (cl D.T4 hr (dR (cl D.QP hr (dR (pv 0) (dM jE bh (pv 4)))) (pv 2)))) (aN (fJ 6 jT (Jl (dF (Fw hr.hd) rfl T.AX (-3) (cz (g8 rfl (cU (fs:=["_law_tables_here"]) (fr:=[5])) (X0 (pv 5)) (λ_ _ _ _=>(iZ (dR (pv 0) (dF (Aa (K:=K)) rfl T.vk (-3) (cz (pZ hu (pv 1) (pv 0) (-15)))))))))))) (aN (fJ 7 jT jy) (aN (fQ bS rfl (fX (pv 3)) (iY rfl (cA (ot (i:=8) jT.nd rfl (Or.inr rfl)) (cA (ir 9 jT) g7))) (aN (fJ 10 jT (cl D.HJ hr (dR (pv 9) (pv 5)))) (a9 (gJ (dh (Qn hr.Ia) (pv 10) (eZ gM) (eW _)) (a9 (pY hu (pv 7) (pv 8) (pv 10) rfl)) eG)))) (a9 (fQ bS rfl (jP rfl T.mI (cz bh)) (ir 11 jT) (aN (jU (i:=12) jT.nd rfl (Or.inr rfl) (cl D.seen hr (dR (dF vI rfl T.vk (-3) (cz (pv 3))) (pv 6)))) (aN (gJ (PW.pt (EC (IZ (AJ (cW pq rfl T.nA (-3) (dR (pv 12) (EF (n:="dict") rfl T.AX (-3)))))) (EC (dh (aan (Zo hr)) (pv 12) (pv 7) (eW _)) (EB (dh (aao (Zo hr)) (pv 6) (pv 5) (eW _)))))) (a9 (cN yO)) eG) (aN (Ja (fQ bS rfl (Tj (pv 12)) (ot (i:=8) jT.nd rfl (Or.inr rfl)) (aN (gJ (PW.pt (EC (IZ (AJ (cW pq rfl T.nA (-3) (dR (pZ hu (pv 12) (pv 8) (-15)) (EF (n:="list") rfl T.vk (-3)))))) (EB (dh Qp yO (g8 rfl (cU (fs:=[]) (fr:=[])) (fX (pZ hu (pv 12) (pv 8) (-15))) (λ_ _ _ _=>(cW (KQ (K:=K)) rfl T.nA (-3) (dR (pv 0) (EF (n:="tuple") rfl T.kC (-3)))))) (-58))))) (a9 (cN yO)) eG) (aN (Jb (j:=13) jT.nd rfl rfl rfl (cU (fs:=["_law_told","_law_name"]) (fr:=[12,8])) (Jh (pv 12)) (λ_ _ _ _=>(dh BZ (pv 0) (pv 2) (eW _))) (λ_ _ _ _=>(dF (Aa (K:=K)) rfl T.vk (-3) (cz (pZ hu (pv 1) (pv 0) (-15)))))) (aN (lB (ox de gc f9 qe (pZ hu (pv 12) (pv 8) (-15)) (cz (iZ gM)))) (a9 (gJ (dh (aap hr.units) (pv 13) (qb rfl (cU (fs:=["_law_told","_law_name"]) (fr:=[12,8])) (Jh (pv 12)) (λ_ _ _ _=>(dh BZ (pv 0) (pv 2) (eW _))) (λ_ _ _ _=>(pZ hu (pv 1) (pv 0) (-15)))) (eW _)) (a9 (cN yO)) eG))))))) (a9 (pY hu (pv 12) f7 (eZ gM) rfl)))))))))))) (a9 (cN (FR (aas (Zo hr)) (cl D.seen hr (dR (eZ gM) jy)) jy (eW _)))))))),?_}
 refine{_,rfl,a,ns,0,rfl,hS,hn,Int.le_refl _,λfe H1 oM s1 hfe=>?_};refine{_,rfl,fe,3,rfl,oM,by decide,by decide,λnl gC H2 jW jX qE Qy vB ln nn E3=>?_};refine{_,rfl,_,rfl,_,rfl,fe,7,rfl,jW,by decide,by decide,λmany Hd m0 m1 hFd WV=>?_};refine{fe,nl,many,gC,rfl,hFd,qE,{WV _ _ qE vB,by lia,by lia},E3,m0,by lia,λvl zG xs H3 jQ iw sP vl0 pj xX lxs VI=>?_};have abe:=iw _ _ qE (WV _ _ qE vB);have hS3:FA K H3 a (-67):=by
  obtain⟨_,_,_,hf⟩:=oM;rcases hS.same s1 with⟨ob,h1⟩|h1
  ·have ne:=yR h1 hf λz=>by cases z
   exact .inl {ob,iw _ _ ne (WV _ _ ne (jX _ _ ne h1))}
  ·exact .inr h1
 have vas:=Sv xX;clear vB WV iw jX s1 hS oM jW hFd Qy vl0;refine{3,rfl,by decide,by decide,yZ (lo:=0) (n:=3) (λi Z Hx=>∃(x4 x5 x6 x7 x8 x9 zF An Am uW:Aap),Z=[some (-51),some (.ref fe),some (.ref nl),some (.ref vl),x4,x5,x6,x7,x8,x9,zF,An,Am,uW]/\bq H3 Hx) {_,_,_,_,_,_,_,_,_,_,rfl,bq.refl _} ?_ ?_}
 ·rintro i Z H4 D1 hi ⟨x4,x5,x6,x7,x8,x9,zF,An,Am,uW,rfl,s4⟩ nr _;refine{_,rfl,_,rfl,_,_,rfl,rfl,a,ns,_,rfl,hS3.same s4,hn,by lia,λf2 H5 vF s5 Uv=>?_};have abd:=s5 _ _ (s4 _ _ abe);refine{_,rfl,f2,nl,gC,rfl,vF,ba (s4 _ _ abe) Uv,abd,by lia,E3,λd kvs H6 uh mB hT0 gE=>?_};obtain⟨es,rfl,hT⟩:=hT0.tabs;have s6:bq H3 H6:=λb u h=>mB _ _ (ba (s4 _ _ h) Uv) (s5 _ _ (s4 _ _ h));have hf6:∃o,H6 f2=some o:=by obtain⟨_,_,_,hf⟩:=uh;exact⟨_,hf⟩
  clear hT0 vF uh mB s5 Uv abd s4 gE;refine YT (F:=λl=>l) (j:=5) (d:=d) rfl hT hf6 (λx hx=>(hT.2.2.2.2 x hx).2.2.2.2.2) (λ_ _ h=>h) (λh=>h) (λx H2 N' hx g ha k'=>{_,rfl,_,rfl,d,_,rfl,g,x.ad,x.ys,rfl,.inl (bo.of ha),λl hl=>k' l _ (aM hl _) hl aw}) λp fK H7 s7 km hT7 hk=>?_;have er:cP fK=cP es:=funext (hk.cP rfl);have hT6:=hT.keep (Ext.of s7);have P1:=s6.trans s7;have tab:gW K H7 d es:=hT6.r;have acZ:gW K H7 p fK:=hT7.r;intro du hdu;have s8:=aM hdu (.dK []);refine{_,rfl,vl,rfl,{zG,bo.of (s8 _ _ (P1 _ _ pj))},nG (K:=K) (a:=vl) (xs:=zG) (λj Z H8=>∃(x8 x9 zF An Am uW:Aap)(ds:List En),Z=[some (-51),some (.ref fe),some (.ref nl),some (.ref vl),some (.int (0+(i:Int))),some (.ref d),some (.ref p),some (.ref du),x8,x9,zF,An,Am,uW]/\bq H7 H8/\H8 du=some (.dK (ds.map dt))/\ds.map (·.nm)=((xs.take j).map (·.1)).filter (λz=>!(oI es xs z).isEmpty)/\(∀e∈ds,H8 e.ad=some (.lst e.ys)/\cT K H8 e.ys e.rows/\e.rows=oI es xs e.nm)/\j<=xs.length) {_,_,_,_,_,_,[],rfl,s8,aw,rfl,λe h=>(by cases h),aP _} (λj Z H8 _ ⟨_,_,_,_,_,_,_,_,sm,_⟩=>bo.of (sm _ _ (P1 _ _ pj))) ?_ ?_}
  ·rintro j x Z H8 D2 hx ⟨x8,x9,zF,An,Am,uW,ds,rfl,AE,hd8,JK,WZ,_⟩ VL _;obtain⟨y,hy,yp,q,rfl,hyp,hq,hyn⟩:=Paired.at xX hx;have bJ:j<xs.length:=(ax.mp hy).1;have va:=hq.va;have s38:=P1.trans AE;have eR:oI es xs y.1=iy es y.2.1 y.2.2:=Pr VI (aH hy);refine{yp,_,rfl,bF.of (s38 _ _ hyp),rfl,_,_,rfl,_,_,rfl,rfl,?_};refine{_,rfl,_,rfl,q,d,es,y.2.1,y.2.2,rfl,hq.q.at'.keep (eE.of s38),va,tab.same AE,λl zs H9 s9 mz Ba hR=>?_};refine{_,rfl,(-18),λe0 wG=>{l,e0,zs,rfl,rfl,bo.of (by rw[aE (ba Ba wG)];exact Ba),bo.of aw,_,rfl,?_}};have mq:=s9.trans (aM wG (.lst []));have yW:=aM wG (.lst []) _ _ Ba;have abq:=cM hR (aM wG (.lst []));generalize upd H9 e0 (.lst [])=Ha at mq yW abq⊢;have OK:=mq _ _ hd8;have lz:zs.length=(iy es y.2.1 y.2.2).length:=bw hR;have ez:zs.isEmpty=(oI es xs y.1).isEmpty:=by rw[eR];generalize iy es y.2.1 y.2.2=rr at lz;cases zs<;>cases rr<;>first|rfl|cases lz
   have ft:((xs.take (j+1)).map (·.1)).filter (λz=>!(oI es xs z).isEmpty)=((xs.take j).map (·.1)).filter (λz=>!(oI es xs z).isEmpty)++if(!(oI es xs y.1).isEmpty)=true then[y.1]else[]:=by rw[bg,hy,cL,aJ,fb];show _++List.filter _ [y.1]=_;rw[gj];rfl
   show if(!zs.isEmpty)=true then _ else _;rw[ez];refine fm (-61) (-61)
   ·rw[aC c]at ft;have nm:({y.1,l,zs,iy es y.2.1 y.2.2}:En).nm∉ds.map (·.nm):=λq=>by rw[JK]at q;exact My VI hy (bV.mp q).1
    have lds:ds.length<=xs.length:=by have h1:=bU List.length JK;have h2:=cj (λz=>!(oI es xs z).isEmpty) ((xs.take j).map (·.1));rw[ak]at h1;rw[ak,aT]at h2;lia
    refine{_,rfl,_,rfl,_,rfl,du,_,rfl,vU.k (k:=Sum.inr y.1) OK (-27),?_};rw[IX (e:={y.1,l,zs,iy es y.2.1 y.2.2}) nm];have PF:dw Ha (upd Ha du (.dK ((ds++[({y.1,l,zs,iy es y.2.1 y.2.2}:En)]).map dt))):=dw.upd (rP OK);have ki:∀{b:Addr}{ys:Aao},Ha b=some (-38)->upd Ha du (.dK ((ds++[({y.1,l,zs,iy es y.2.1 y.2.2}:En)]).map dt)) b=some (-38):=λh=>by rw[aE (λz=>by rw[z,OK]at h;cases h)];exact h
    refine VL _ _ {_,_,_,_,_,_,ds++[{y.1,l,zs,iy es y.2.1 y.2.2}],rfl,λb u h=>?_,aw,?_,λe he=>?_,bJ}
    ·rw[aE (ba h hdu)];exact mq _ _ (AE _ _ h)
    ·rw[ft,aJ,JK];rfl
    ·rcases bf.mp he with he|he
     ·obtain⟨h1,h2,h3⟩:=WZ e he;exact{ki (mq _ _ h1),iE (cM h2 mq) PF,h3}
     ·rw[ay.mp he];exact{ki yW,iE abq PF,eR.symm}
   ·rw[az c,b6]at ft;exact VL _ _ {_,_,_,_,_,_,ds,rfl,AE.trans mq,OK,by rw[ft];exact JK,λe he=>let⟨h1,h2,h3⟩:=WZ e he;{mq _ _ h1,cM h2 mq,h3},bJ}
  ·rintro Z H8 ⟨x8,x9,zF,An,Am,uW,ds,rfl,AE,hd8,JK,WZ,_⟩;rw[show zG.length=xs.length from bw xX,aV]at JK;have Ry:=AE _ _ tab.at_;have l6:xs.length<=6:=by lia
   have ndn:(iV (xs.map (·.1))).Nodup:=(lR _).nodup_iff.mpr VI;refine{2,rfl,by decide,by decide,yZ (lo:=0) (n:=2) (λj Z H9=>∃(x8 x9 zF An Am uW:Aap),Z=[some (-51),some (.ref fe),some (.ref nl),some (.ref vl),some (.int (0+(i:Int))),some (.ref d),some (.ref p),some (.ref du),x8,x9,zF,An,Am,uW]/\bq H8 H9) {_,_,_,_,_,_,rfl,bq.refl _} ?_ ?_}
   ·rintro j Z H9 D3 hj ⟨x8,x9,zF,An,Am,uW,rfl,IL⟩ VJ _;have s39:=P1.trans (AE.trans IL);have s79:=AE.trans IL;refine{_,rfl,vl,zG,rfl,.inl (bo.of (s39 _ _ pj)),λl2 jF=>?_};have sa:=aM jF (.lst zG);refine{_,rfl,l2,p,zG,xs,fK,rfl,aw,Df.keep (eE.of (s39.trans sa)) xX,VI,by lia,acZ.same (s79.trans sa),λtp gs Ha s9a adG=>?_};obtain⟨f1,f2,f3,f4,f5⟩:=adG;have Mc:=IL.trans (sa.trans s9a);have t0:H8 tp=none:=(IL.trans sa).free f2;rw[FG er xs]at f3;have gnd:(gs.map (·.nm)).Nodup:=by rw[f3];exact ndn.sublist mN
    have vok:=abS (K:=K) tab vas;have fr:∀e∈gs,H8 e.ad=none:=λe he=>(IL.trans sa).free (f5 e he).1;have tl:TL K Ha gs:=λe he=>by obtain⟨_,_,h3,h4,h5,h6⟩:=f5 e he;rw[FG er xs]at h5;have:=vok e.nm;rw[<-h5]at this;exact{h3,h4,h6,this.1,aD this.2 (-8)}
    have nea:∀e∈gs,e.ad≠tp:=λe he=>(f5 e he).2.1;refine{_,rfl,_,_,_,_,rfl,.dK f1,(by rfl:_=some true),_,rfl,vz ?_};have pm:(gs.map (·.nm)).Perm (ds.map (·.nm)):=by rw[f3,JK];exact(lR _).filter _
    refine{_,rfl,_,rfl,tp,du,gs.map dt,ds.map dt,rfl,rfl,f1,Mc _ _ hd8,by
     have:=pm.length_eq;rw[ak,ak]at this;rw[ak,ak,this],λq hq=>?_,_,rfl,vz ?_}
    ·obtain⟨e,he,rfl⟩:=aR.mp hq;obtain⟨x,hx,ex⟩:=aR.mp (pm.mem_iff.mp (cy he));obtain⟨_,_,h3,h4,h5,_⟩:=f5 e he;obtain⟨q1,q2,q3⟩:=WZ x hx;rw[FG er xs]at h5;have ee:x.rows=e.rows:=by rw[q3,h5,ex]
     refine{dt x,cy hx,bU Sum.inr ex.symm,kh e.rows,yg (bo.of h3) h4,?_,CG (by rw[h5];exact(vok e.nm).1),by rw[DS];exact bp rfl};rw[<-ee];exact yg (bo.of (Mc _ _ q1)) (cM q2 Mc)
    have hA:=(hT7.keep (Ext.of AE)).keep (Ext.of Mc);have hB:=(hT6.keep (Ext.of AE)).keep (Ext.of Mc);refine{_,rfl,_,rfl,p,d,fK.map dt,es.map dt,rfl,rfl,hA.2.1,hB.2.1,XE (show U7 es fK from hk) hA.2.2.2.2 hB.2.2.2.2,_,rfl,vz ?_};have Qz:∀o v,Ha tp≠some (.c7 o v):=λo v e=>by rw[f1]at e;cases e
    refine{tp,Qz,_,rfl,tp,_,_,rfl,f1,.inl ⟨_,rfl,rfl⟩,λo=>?_};have wB:upd Ha tp (.c7 o (-69)) tp=some (.c7 o (-69)):=aw;have t1:dw Ha (upd Ha tp (.c7 o (-69))):=dw.upd (rP f1);have b1:∀b u,b≠tp->Ha b=some u->upd Ha tp (.c7 o (-69)) b=some u:=λb u n h=>by rw[aE n];exact h
    have tl1:TL K (upd Ha tp (.c7 o (-69))) gs:=λe he=>by obtain⟨h1,h2,h3,h4⟩:=tl e he;exact{b1 _ _ (nea e he) h1,iE h2 t1,h3.keep λb ys q=>b1 _ _ (λz=>by rw[z,f1]at q;cases q) q,h4}
    have s1:bq H8 (upd Ha tp (.c7 o (-69))):=λb u h=>b1 _ _ (ba h t0) (Mc _ _ h);generalize (upd Ha tp (.c7 o (-69)))=Hb at wB t1 b1 tl1 s1⊢;clear tl b1 t1 f5 pm;have lgs:gs.length<=6:=by have h1:=bU List.length f3;have h2:=cj (λz=>!(oI es xs z).isEmpty) (iV (xs.map (·.1)));rw[ak]at h1;rw[(lR _).length_eq,ak]at h2;lia
    have lk:((gs.map dt).map λp=>(kV p.1,p.2)).length=gs.length:=by rw[ak,ak]
    refine OT (d:=tp) (o:=o) (u:=.dK (gs.map dt)) (λm Z H2=>∃(x8 uW:Aap)(ts:List En),Z=[some (-51),some (.ref fe),some (.ref nl),some (.ref vl),some (.int (0+(i:Int))),some (.ref d),some (.ref p),some (.ref du),x8,x9,zF,some (.int (0+(j:Int))),some (.ref tp),uW]/\bq H8 H2/\H2 tp=some (.c7 o (-69))/\ts.map (λe=>(e.nm,e.ad))=gs.map (λe=>(e.nm,e.ad))/\(∀e∈ts,H2 e.ad=some (.lst e.ys)/\cT K H2 e.ys e.rows/\tw H2 e.ys/\qX e.rows/\e.rows.length<=900+m)) ⟨_,_,gs,rfl,s1,wB,rfl,tl1⟩ (λm Z H2 _ ⟨_,_,_,_,_,h,_⟩=>h) ?_ ?_
    ·rintro m kv Z H2 D4 jd ⟨x8,uW,ts,rfl,s2,iU,WX,Ij⟩ nx4 _;obtain⟨ek,en,ea⟩:=acS WX;have tnd:(ts.map (·.nm)).Nodup:=by rw[en];exact gnd
     have and:(ts.map (·.ad)).Nodup:=by rw[ea];exact f4
     rw[<-ek]at jd iU nx4;have CO:ts.length<=6:=by have:=bU List.length WX;rw[ak,ak]at this;lia
     rw[bW,aK]at jd;obtain⟨e,wG,ekv⟩:=aX.mp jd;have ekv:kv=(.str e.nm,.ref e.ad):=ekv.symm;subst ekv;have he:=aH wG;have hm:m<ts.length:=(ax.mp wG).1;obtain⟨ae,re,te,oe,le⟩:=Ij e he;have ntp:∀x∈ts,x.ad≠tp:=λx hx z=>by have:=(Ij x hx).1;rw[z,iU]at this;cases this
     have dg:∀{H:Hp}{x:En},H tp=some (.c7 o (.dK (ts.map dt)))->x∈ts->kR H tp (.str x.nm) (some (.ref x.ad)):=λh hx=>.inl {ts.map dt,Sum.inr _,.inr ⟨o,h⟩,rfl,(BS tnd hx).symm};have lye:e.ys.length=e.rows.length:=bw re;refine{_,rfl,_,rfl,tp,.ref e.ad,rfl,dg iU he,_,_,_,_,rfl,.lst ae,(by rfl:_=some true),_,rfl,vz ?_};refine{_,rfl,_,rfl,tp,.ref e.ad,rfl,dg iU he,e.ad,rfl,{_,bo.of ae},jg (K:=K) (a:=e.ad) (xs:=e.ys) (λj zs H3=>H3=H2/\zs=List.replicate j (V.bl true)) (by rw[b8];lia) ⟨rfl,rfl⟩ ?_ ?_ ?_}
     ·rintro j zs H3 hj ⟨rfl,rfl⟩;exact{bo.of ae,by rw[hJ];exact ar _}
     ·rintro j x zs H3 N hx ⟨rfl,rfl⟩ hN;obtain⟨ta,txs,rfl,vA⟩:=te x (aH hx);refine gu {_,rfl,_,_,_,_,rfl,.tup vA,(by rfl:_=some true),hN _ _ {rfl,?_}};rw[List.replicate_succ']
     rintro zs H3 ⟨rfl,rfl⟩ bl hbl;have sb:=aM hbl (.lst (List.replicate e.ys.length (V.bl true)));refine{bl,_,rfl,.inl (bo.of aw),rfl,RL _,?_};rw[not_false];refine{_,rfl,vz ?_};generalize upd H3 bl (.lst (List.replicate e.ys.length (V.bl true)))=H3' at sb⊢;have iu:=sb _ _ iU;have Py:∀x∈ts,H3' x.ad=some (.lst x.ys)/\cT K H3' x.ys x.rows:=λx hx=>{sb _ _ (Ij x hx).1,cM (Ij x hx).2.1 sb};have te3:=te.keep (eE.of sb);have s3:=s2.trans sb;have V3:((ts.map dt).map λp=>(kV p.1,p.2)).length=ts.length:=by rw[ak,ak]
     have ed:∀x:En,(!decide (V.str x.nm=V.str e.nm))=!decide (x.nm=e.nm):=λx=>by congr 1;exact decide_eq_decide.mpr {λq=>by injection q,λq=>by rw[q]}
     generalize H3'=H3 at sb iu Py te3 s3⊢;refine{_,rfl,tp,o,.dK (ts.map dt),_,rfl,iu,.inl ⟨_,rfl,rfl⟩,ze (d:=tp) (o:=o) (u:=.dK (ts.map dt)) (λj zs H4=>bq H3 H4/\j<=ts.length/\zs.length<=j/\zr K (λa=>H3 a=none) H4 zs ((ts.take j).filter λx=>!decide (x.nm=e.nm))) (by rw[V3];exact bC ∅) {bq.refl _,aP _,ar _,.nil} ?_ ?_ ?_}
     ·rintro j zs H4 hj ⟨s4,_,lz,_⟩;exact{s4 _ _ iu,lz}
     ·rintro j kv zs H4 N Kj ⟨s4,hj,lz,ls⟩ hN;rw[bW,aK]at Kj;obtain⟨e',DL,DT⟩:=aX.mp Kj;have DT:kv=(.str e'.nm,.ref e'.ad):=DT.symm;subst DT;have Bc:=aH DL;have bJ:j<ts.length:=(ax.mp DL).1;obtain⟨a2,r2⟩:=Py e' Bc;refine{_,rfl,_,rfl,rfl,_,rfl,?_};have tf:=Iq (λx=>!decide (x.nm=e.nm)) DL;show if(!decide (V.str e'.nm=V.str e.nm))=true then _ else _;rw[ed e'];refine fm (-61) (-61)
      ·rw[aC c]at tf;refine{_,rfl,_,rfl,tp,.ref e'.ad,rfl,dg (s4 _ _ iu) Bc,e'.ad,_,rfl,.inl (bo.of (s4 _ _ a2)),λl hl=>hN _ _ {s4.trans (aM hl _),bJ,?_,?_}}
       ·rw[aO];exact lV lz
       ·rw[tf];refine MB (B1 (λ_ g=>g) (λa u _ h=>aM hl _ _ _ h) (dw.same (aM hl _)) ls) {l,_,rfl,s4.free hl,aw,cM r2 (s4.trans (aM hl _))}
      ·rw[az c,b6]at tf;exact hN _ _ {s4,bJ,by lia,by rw[tf];exact ls}
     rintro zs H4 ⟨s4,_,lz,ls⟩ kl MX;rw[V3]at lz ls;rw[aV]at ls;have s5:bq H4 (upd H4 kl (.lst zs)):=aM MX _;have h5:upd H4 kl (.lst zs) kl=some (.lst zs):=aw;generalize (upd H4 kl (.lst zs))=H5 at s5 h5⊢;have GI:=s4.trans s5;have ls5:zr K (λa=>H3 a=none) H5 zs (-24):=B1 (λ_ g=>g) (λa u _ h=>s5 _ _ h) (dw.same s5) ls;have nkl:H3 kl=none:=s4.free MX;have ae3:=(Py e he).1;have ae5:=GI _ _ ae3;refine{_,rfl,_,rfl,tp,.ref e.ad,rfl,dg (GI _ _ iu) he,.inl {rfl,_,bo.of ae5},(-18),λpt hpt=>?_};have s6:=aM hpt (.tup []);have Uk:upd H5 pt (.tup []) pt=some (.tup []):=aw;generalize upd H5 pt (.tup [])=H6 at s6 Uk⊢;have GH:=GI.trans s6;have ae6:=GH _ _ ae3;refine{_,_,_,rfl,rfl,ae6,by rw[b8];lia,?_};have b7:∀b u,b≠e.ad->H6 b=some u->upd H6 e.ad (.lst (e.ys++[V.ref pt])) b=some u:=λb u n h=>by rw[aE n];exact h
     have t7:dw H6 (upd H6 e.ad (.lst (e.ys++[V.ref pt]))):=dw.upd (nv ae6);have h7:upd H6 e.ad (.lst (e.ys++[V.ref pt])) e.ad=some (.lst (e.ys++[V.ref pt])):=aw;generalize (upd H6 e.ad (.lst (e.ys++[V.ref pt])))=H7 at b7 t7 h7⊢;have u7:eE H6 H7:=λb ys q=>b7 _ _ (yR q ae6 λz=>by cases z) q;have nfr:∀a,H3 a=none->a≠e.ad:=λa h q=>by rw[q,ae3]at h;cases h
     have MT:=b7 _ _ (ntp e he).symm (GH _ _ iu);have ls7:zr K (λa=>H3 a=none) H7 zs (-24):=B1 (λ_ g=>g) (λa u g h=>b7 _ _ (nfr a g) (s6 _ _ h)) ((dw.same s6).trans t7) ls5;have Wv:=b7 _ _ (nfr kl nkl) (s6 _ _ h5);have ot7:∀x∈ts,x.nm≠e.nm->H7 x.ad=some (.lst x.ys)/\cT K H7 x.ys x.rows:=λx hx n=>by obtain⟨q1,q2⟩:=Py x hx;have nx:x.ad≠e.ad:=λq=>n (by rw[Oe (·.ad) and hx he q]);exact{b7 _ _ nx (GH _ _ q1),iE (cM q2 GH) t7}
     refine{_,rfl,_,rfl,tp,o,.dK (ts.map dt),_,rfl,MT,.inl ⟨_,rfl,rfl⟩,ze (d:=tp) (o:=o) (u:=.dK (ts.map dt)) (λj us HA=>HA=H7/\j<=ts.length/\us.length<=j/\zr K (λ_=>True) H7 us ((ts.take j).filter λx=>!decide (x.nm=e.nm))) (by rw[V3];exact bC ∅) {rfl,aP _,ar _,.nil} ?_ ?_ ?_}
     ·rintro j us HA hj ⟨rfl,_,lu,_⟩;exact⟨MT,lu⟩
     ·rintro j kv us HA N Kj ⟨rfl,hj,lu,QI⟩ hN;rw[bW,aK]at Kj;obtain⟨e',DL,DT⟩:=aX.mp Kj;have DT:kv=(.str e'.nm,.ref e'.ad):=DT.symm;subst DT;have Bc:=aH DL;have bJ:j<ts.length:=(ax.mp DL).1;refine{_,rfl,_,rfl,rfl,_,rfl,?_};have tf:=Iq (λx=>!decide (x.nm=e.nm)) DL;show if(!decide (V.str e'.nm=V.str e.nm))=true then _ else _;rw[ed e'];refine fm (-61) (-61)
      ·rw[aC c]at tf;have ne:e'.nm≠e.nm:=λq=>by rw[q,bp rfl]at c;cases c
       obtain⟨q1,q2⟩:=ot7 e' Bc ne;refine{_,rfl,_,rfl,tp,.ref e'.ad,rfl,dg MT Bc,hN _ _ {rfl,bJ,?_,?_}}
       ·rw[aO];exact lV lu
       ·rw[tf];exact MB QI {e'.ad,_,rfl,trivial,q1,q2}
      ·rw[az c,b6]at tf;exact hN _ _ {rfl,bJ,by lia,by rw[tf];exact QI}
     rintro us HA ⟨rfl,_,lu,QI⟩ ul MP;rw[V3,aV]at QI;have s9:bq HA (upd HA ul (.lst us)):=aM MP _;have h9:upd HA ul (.lst us) ul=some (.lst us):=aw;generalize (upd HA ul (.lst us))=H9' at s9 h9⊢;have okF:∀x∈ts.filter (λx=>!decide (x.nm=e.nm)),qX x.rows:=λx hx=>(Ij x (bV.mp hx).1).2.2.2.1;refine{oy (-24),oy (-24),?_,?_,CH okF,CH okF,_,rfl,?_}
     ·unfold oy;rw[Dt];exact{kl,_,rfl,bo.of (s9 _ _ Wv),F5 (B1 (G':=λ_=>True) (λ_ _=>trivial) (λa u _ h=>s9 _ _ h) (dw.same s9) ls7)}
     ·unfold oy;rw[Dt];exact{ul,_,rfl,bo.of h9,F5 (B1 (G':=λ_=>True) (λ_ _=>trivial) (λa u _ h=>s9 _ _ h) (dw.same s9) QI)}
     have ee:PyData.eqv (oy (-24)) (oy (-24))=true:=by unfold oy;rw[PyData.eqv];exact Kx _
     have ev:(if true=true then !PyData.eqv (oy (-24)) (oy (-24))else PyData.eqv (oy (-24)) (oy (-24)))=false:=by rw[aC rfl,ee];rfl
     rw[ev];refine vz ?_;have acd:∀b u,b≠e.ad->H3 b=some u->H9' b=some u:=λb u n h=>s9 _ _ (b7 _ _ n (GH _ _ h));have ah:H8 e.ad=none:=by obtain⟨g,hg,eg⟩:=aR.mp (show e.ad∈gs.map (·.ad) by rw[<-ea];exact cy he);rw[<-eg];exact fr g hg
     refine nx4 _ _ {_,_,ts.map λx=>if x.nm=e.nm then{e.nm,e.ad,e.ys++[V.ref pt],e.rows++[[]]}else x,rfl,λb u h=>acd _ _ (ba h ah) (s3 _ _ h),s9 _ _ MT,?_,λx hx=>?_}
     ·rw[<-WX,bW];refine bX λx hx=>?_;show((if x.nm=e.nm then({e.nm,e.ad,e.ys++[V.ref pt],e.rows++[[]]}:En)else x).nm,(if x.nm=e.nm then({e.nm,e.ad,e.ys++[V.ref pt],e.rows++[[]]}:En)else x).ad)=(x.nm,x.ad);by_cases c:x.nm=e.nm
      ·rw[aC c,Oe (·.nm) tnd hx he c]
      ·rw[az c]
     ·obtain⟨y,hy,rfl⟩:=aR.mp hx;by_cases c:y.nm=e.nm
      ·rw[aC c];refine{s9 _ _ h7,kQ (cM (iE (cM (Py e he).2 GH) t7) s9) {pt,rfl,bF.of (s9 _ _ (u7 _ _ Uk))},λz hz=>?_,λr zS z hz=>?_,by rw[aO];show _+1<=_;lia}
       ·rcases bf.mp hz with hz|hz
        ·exact(((te3.keep (eE.of GH)).keep u7).keep (eE.of s9)) z hz
        ·rw[ay.mp hz];exact{pt,_,rfl,s9 _ _ (u7 _ _ Uk)}
       ·rcases bf.mp zS with zS|zS
        ·exact oe r zS z hz
        ·rw[ay.mp zS]at hz;cases hz
      ·rw[az c];obtain⟨_,_,t5,o5,l5⟩:=Ij y hy;obtain⟨q1,q2⟩:=ot7 y hy c;exact{s9 _ _ q1,cM q2 s9,(((t5.keep (eE.of sb)).keep (eE.of GH)).keep u7).keep (eE.of s9),o5,by lia}
    ·rintro Z H2 ⟨x8,uW,ts,rfl,s2,iU,WX,Ij⟩;refine{o,_,iU,?_};have s3:bq H8 (upd H2 tp (-69)):=λb u h=>by rw[aE (ba h t0)];exact s2 _ _ h
     have h3:upd H2 tp (-69) tp=some (-69):=aw;generalize upd H2 tp (-69)=H3 at s3 h3⊢;refine{(-18),λzl hzl=>{_,rfl,tp,_,rfl,vU.k (k:=Sum.inr "zz") (aM hzl _ _ _ h3) (-27),?_}};refine VJ _ _ {_,_,_,_,_,_,rfl,λb u h=>?_};rw[aE (ba h t0)];exact aM hzl _ _ _ (s3 _ _ h)
   ·rintro Z H9 ⟨x8,x9,zF,An,Am,uW,rfl,IL⟩;exact nr _ _ {_,_,_,_,_,_,_,_,_,_,rfl,P1.trans (AE.trans IL)}
 ·rintro Z Hx ⟨x4,x5,x6,x7,x8,x9,zF,An,Am,uW,rfl,sx⟩;refine{(-18),λl0 mz d0 gE=>?_};refine{l0,d0,[],[],[],rfl,aM gE _ _ _ aw,.nil,fI,aP _,{aw,fI,λe h=>by cases h},λp gs H9 s9 adF=>?_};obtain⟨f1,_,f3,_⟩:=adF;rw[ji,show iV ([]:Aah)=[]from List.perm_nil.mp (lR _)]at f3;have eg:gs=[]:=mM.mp f3;rw[eg]at f1;intro d2 hd2;exact{p,d2,[],[],rfl,rfl,aM hd2 _ _ _ f1,aw,.nil,k _}
end
end oQ
namespace Hd
open PySem PySem.W PyProof.Rows PySem.W.Fast
abbrev pos0:Pos:={0,0,0,0}
abbrev tb:=tw14364793385576792824
abbrev an0:Option Value:=some (.ref 6)
def env0(p:Program):Env:={scope:=p.main.scope,locals:=mainNs,globals:=mainNs,cells:=[],code:=.ref 13,frame:=some 14}
def cd0(p:Program):Code:=.body (behindTheImports p) (env0 p)
abbrev B0:List Frame:=[topFrame pos0]
def S0(w:World)(os:OsState):Shared:={boot_heap w.params,Array.mk [],boot_drawn,boot_toks,os}
def mkT(l:List Obj):Nat->Nat->Nat->BT
 |0,_,_=>.nil
 |f+1,a,b=>match l[b]? with
  |some o=>.node o (mkT l f (2*a) (a+b)) (mkT l f (2*a) (2*a+b))
  |none=>.nil
def toT(s:Shared):SharedT:={mkT s.heap.objs.toList 6 1 0,s.heap.objs.size,s.heap.life,s.gens,s.drawn,s.toks,s.os}
def pre(p:Program)(w:World)(os:OsState):SharedT:=match tw15667345088766844465 tb p w 11 an0 12 (S0 w os) (topStub p)with
 |some r=>toT r.1
 |none=>toT (S0 w os)
def body(p:Program)(n:Nat)(w:World)(os:OsState):Option (Flow×SharedT×Code×Pos):=
 tw10110043849684766642 tb p w 11 an0 1 n (pre p w os) (piecesOf (behindTheImports p) (env0 p) (cd0 p) pos0 B0)
def aft(p:Program)(n:Nat)(w:World)(os:OsState):SharedT:=match body p n w os with
 |some r=>r.2.1
 |none=>toT (S0 w os)
def posL(p:Program)(n:Nat)(w:World)(os:OsState):Pos:=match body p n w os with
 |some r=>r.2.2.2
 |none=>pos0
def fin(p:Program)(n:Nat)(w:World)(os:OsState):Shared:=match tw14082659384304107361 tb p w 11 an0 2 (aft p n w os).abs {doneF .next,cd0 p,posL p n w os,B0}with
 |some s=>s
 |none=>S0 w os
structure Ok(p:Program)(n:Nat):Prop where
 pre:∀w os,tw15667345088766844465 tb p w 11 an0 12 (S0 w os) (topStub p)=some ((Hd.pre p w os).abs,{tw11892475500146522536 tb (cd0 p),cd0 p,pos0,B0})
 block:∀w os,tw14374325043358763698 tb p w 11 an0 1 1 (Hd.pre p w os).abs (blockOf (behindTheImports p) (env0 p) (cd0 p) pos0 B0)=some (.next,(Hd.pre p w os).abs,cd0 p,pos0)
 body:∀w os,Hd.body p n w os=some (.next,aft p n w os,cd0 p,posL p n w os)
 fin:∀w os,tw14082659384304107361 tb p w 11 an0 2 (aft p n w os).abs {doneF .next,cd0 p,posL p n w os,B0}=some (Hd.fin p n w os)
def run(o:Ok p n)(w:World)(os:OsState):topRun treeTable p w 11 an0 (12+(1+(n+2))) (S0 w os) (topStub p)=some (fin p n w os):=by have h1:=o.pre w os;have h2:=o.block w os;have h3:=o.body w os;have h4:=o.fin w os;unfold Hd.body at h3;unfold tb at h1 h2 h3 h4;rw[<-te15667345088766844465,<-te14364793385576792824,<-te11892475500146522536]at h1;rw[<-te14374325043358763698,<-te14364793385576792824]at h2;rw[<-te10110043849684766642,<-te14364793385576792824]at h3;rw[<-te14082659384304107361,<-te14364793385576792824]at h4;have k:topRun treeTable p w 11 an0 (n+2) (Hd.pre p w os).abs (restOf (behindTheImports p++[]) (env0 p) (cd0 p) pos0 B0)=some (fin p n w os):=piece_app (segRun_of h3) (piece_nil h4);rw[b6]at k;exact go_top h1 (piece_block h2 k)
def left(o:Ok p n)(hN:Nat.ble (12+(1+(n+2))) N=true)(he:opening p=plainProg p.main.scope.names)(h6:Nat.ble 600 N=true)(hf:∀s,fenceModules? p s=some s)
  (l1:∀w os,(staticsOk (importedModules p.main.body) (boot_heap w.params) (fin p n w os).heap&&namesBound p (fin p n w os).heap&&gensDone (fin p n w os)&&laidKept (boot_heap w.params) (fin p n w os).heap)=true)
  (l2:∀w os,openSeen q loose (importedModules p.main.body) Xt g0 (fin p n w os)=openGood q loose) (l3:∀w os,Yf (fin p n w os)=Ya w):LeftO p q loose Xt Yf Ya N g0:=λw=>by
 obtain⟨s,e,e'⟩:=aX.mp (boot_open he h6 hf w);obtain⟨os,rfl⟩:∃os,s=S0 w os:=by obtain⟨h,g,d,t,os⟩:=s;simp only[Prod.mk.injEq]at e';obtain⟨rfl,rfl,rfl,rfl⟩:=e';exact⟨os,rfl⟩
 have r:=topRun_mono (N -(12+(1+(n+2)))) _ _ _ _ (run o w os);rw[show 12+(1+(n+2))+(N -(12+(1+(n+2))))=N by have:=Nat.le_of_ble_eq_true hN;lia]at r;have z1:((S0 w os).heap.isNs mainGlobals&&(S0 w os).gens.size==0)=true:=by kernel_rfl
 have z2:(S0 w os).heap.objs.size=11:=by kernel_rfl
 have z3:(S0 w os).heap.nsMap mainGlobals "__annotations__"=an0:=by kernel_rfl
 have t:topFrom treeTable p w N (S0 w os)=some (fin p n w os):=by unfold topFrom;rw[z1,z2,z3,r];have q:=l1 w os;show(match _ with|true=>_|false=>_)=_;rw[show(staticsOk (importedModules p.main.body) (S0 w os).heap (fin p n w os).heap&&namesBound p (fin p n w os).heap&&gensDone (fin p n w os)&&laidKept (S0 w os).heap (fin p n w os).heap)=true from q]
 unfold openEnds;rw[e];show(topFrom treeTable p w N _).map _=_;rw[t];exact bU some (Eb (l2 w os) (l3 w os))
end Hd
namespace oQ
open PySem PySem.Spec PyProof.Rows L2
abbrev tO(vs:Aag):Obj:={.type "tuple",none,.seq vs.toArray 0,#[]}
abbrev cO(vs:Aag):Obj:={.type "code",none,.fields vs.toArray,#[]}
abbrev kO(P:Params)(x:Str)(t:Tok)(v:Value):DictEntry:={PyData.keyHash P x,.str x t,v}
abbrev fO(s:Stmt)(n q:Str)(pm cd:Value):Obj:={.type "function",none,.func (fnOf n q (defArgs s) (defBody s) (defScope s) .none .none .none pm none cd .none),#[]}
abbrev cF(x q:Str)(a b c:Tok)(l n:Int)(r r1:Addr)(v1 v2:Value)(r2:Addr)(i:Int)(d:Tok):Obj:=cO [.str x a,.str q b,.str "/claim/cut.py" c,.int l 0,.int n 0,.int 0 0,.int 0 0,.int 3 0,.ref r,.bool true,.int 181 0,.ref r1,.none,v1,v2,.ref r2,.int i 0,.int l 0,.str "/claim/cut.py" d]
abbrev cG(x:Str)(a b c:Tok)(l n:Int)(r r1:Addr)(v1 v2:Value)(r2:Addr)(i:Int)(d:Tok):Obj:=cF x x a b c l n r r1 v1 v2 r2 i d
abbrev fF(s:Stmt)(x:Str)(m:Value)(r:Addr):Obj:=fO s x x m (.ref r)
abbrev mO0:Value:=Value.str "askviews.terms" 187
abbrev mO1:Value:=Value.str "askviews.questions" 206
abbrev mO2:Value:=Value.str "askviews.tables" 218
abbrev mO3:Value:=Value.str "askviews.answers" 238
abbrev mO4:Value:=Value.str "askviews.views" 370
abbrev mO5:Value:=Value.str "law_askviews_k41_what_views_see" 383
noncomputable def KF(P:Params):Frag:=
 (nat_lit 2,{.none,none,.dict #[] 0,#[]})::
 (nat_lit 3,{(.type "dict"),none,.dict #[kO P "__name__" 165 (.str "law_askviews_k41_what_views_see" 383),kO P "__doc__" 166 .none,kO P "__package__" 167 .none,kO P "__loader__" 168 (.builtin "__main__.__loader__#opaque"),kO P "__spec__" 169 .none,kO P "__annotations__" 170 (.ref 6),kO P "__builtins__" 171 (.ref 4),kO P "__file__" 173 (.str "/claim/cut.py" 172),kO P "__cached__" 174 .none,kO P "SIGNS" 190 (.str "abcdefghijklmnopqrstuvwxyz0123456789" 189),kO P "MOST_SIGNS" 192 (.int 8 191),kO P "is_value" 198 (.ref 19),kO P "is_unknown" 205 (.ref 26),kO P "unknowns_of" 217 (.ref 33),kO P "rows_of" 227 (.ref 40),kO P "sorted_tables" 237 (.ref 47),kO P "answers" 247 (.ref 54),kO P "counts_of" 260 (.ref 61),kO P "needed_terms" 271 (.ref 68),kO P "Asking" 327 (.ref 105),kO P "narrowed" 341 (.ref 116),kO P "places_of" 351 (.ref 123),kO P "image" 357 (.ref 128),kO P "is_image" 363 (.ref 133),kO P "tails_by_key" 369 (.ref 138),kO P "seen" 382 (.ref 145),kO P "_law_feed" 392 (.ref 152),kO P "_law_draw" 402 (.ref 159),kO P "_law_words" 408 (.ref 164),kO P "_law_atom" 423 (.ref 171),kO P "_law_head" 429 (.ref 176),kO P "_law_question" 435 (.ref 181),kO P "_law_led" 441 (.ref 186),kO P "_law_unknowns" 447 (.ref 191),kO P "_law_bound" 459 (.ref 198),kO P "_law_tables" 465 (.ref 203),kO P "_law_all_answers" 471 (.ref 208),kO P "_law_view_question" 487 (.ref 215),kO P "_law_views" 493 (.ref 220),kO P "law" 499 (.ref 225)] 40,#[]})::
 (nat_lit 15,tO [])::
 (nat_lit 18,cG "is_value" 193 194 195 4 1 15 16 .none .none 17 196 197)::
 (nat_lit 19,fF (top 3) "is_value" mO0 18)::
 (nat_lit 20,tO [])::
 (nat_lit 22,tO [(.str "thing" 202)])::
 (nat_lit 23,tO [])::
 (nat_lit 25,cG "is_unknown" 199 200 201 8 1 20 21 (.ref 22) (.ref 23) 24 203 204)::
 (nat_lit 26,fF (top 4) "is_unknown" mO0 25)::
 (nat_lit 27,tO [])::
 (nat_lit 29,tO [(.str "question" 211),(.str "found" 212),(.str "atom" 213),(.str "term" 214)])::
 (nat_lit 30,tO [])::
 (nat_lit 32,cG "unknowns_of" 208 209 210 11 1 27 28 (.ref 29) (.ref 30) 31 215 216)::
 (nat_lit 33,fF (top 6) "unknowns_of" mO1 32)::
 (nat_lit 34,tO [])::
 (nat_lit 36,tO [(.str "tables" 223),(.str "name" 224)])::
 (nat_lit 37,tO [])::
 (nat_lit 39,cG "rows_of" 220 221 222 19 2 34 35 (.ref 36) (.ref 37) 38 225 226)::
 (nat_lit 40,fF (top 8) "rows_of" mO2 39)::
 (nat_lit 41,tO [])::
 (nat_lit 43,tO [(.str "tables" 231),(.str "told" 232),(.str "name" 233),(.str "rows" 234)])::
 (nat_lit 44,tO [])::
 (nat_lit 46,cG "sorted_tables" 228 229 230 21 1 41 42 (.ref 43) (.ref 44) 45 235 236)::
 (nat_lit 47,fF (top 9) "sorted_tables" mO2 46)::
 (nat_lit 48,tO [])::
 (nat_lit 50,tO [(.str "question" 243),(.str "tables" 244)])::
 (nat_lit 51,tO [])::
 (nat_lit 53,cG "answers" 240 241 242 29 2 48 49 (.ref 50) (.ref 51) 52 245 246)::
 (nat_lit 54,fF (top 11) "answers" mO3 53)::
 (nat_lit 55,tO [])::
 (nat_lit 57,tO [(.str "question" 251),(.str "tables" 252),(.str "head" 253),(.str "atoms" 254),(.str "asking" 255),(.str "left" 256),(.str "atom" 257)])::
 (nat_lit 58,tO [])::
 (nat_lit 60,cG "counts_of" 248 249 250 31 2 55 56 (.ref 57) (.ref 58) 59 258 259)::
 (nat_lit 61,fF (top 12) "counts_of" mO3 60)::
 (nat_lit 62,tO [])::
 (nat_lit 64,tO [(.str "head" 264),(.str "atoms" 265),(.str "needed" 266),(.str "name" 267),(.str "terms" 268)])::
 (nat_lit 65,tO [])::
 (nat_lit 67,cG "needed_terms" 261 262 263 39 2 62 63 (.ref 64) (.ref 65) 66 269 270)::
 (nat_lit 68,fF (top 13) "needed_terms" mO3 67)::
 (nat_lit 76,tO [])::
 (nat_lit 78,tO [(.str "self" 287),(.str "tables" 288)])::
 (nat_lit 79,tO [])::
 (nat_lit 81,cF "__init__" "Asking.__init__" 284 285 286 46 2 76 77 (.ref 78) (.ref 79) 80 289 290)::
 (nat_lit 82,fO (inClass (top 14) 0) "__init__" "Asking.__init__" mO3 (.ref 81))::
 (nat_lit 83,tO [])::
 (nat_lit 86,cF "best_place" "Asking.best_place" 292 293 294 52 2 83 84 .none .none 85 295 296)::
 (nat_lit 87,fO (inClass (top 14) 1) "best_place" "Asking.best_place" mO3 (.ref 86))::
 (nat_lit 88,tO [])::
 (nat_lit 91,cF "take" "Asking.take" 298 299 300 62 3 88 89 .none .none 90 301 302)::
 (nat_lit 92,fO (inClass (top 14) 2) "take" "Asking.take" mO3 (.ref 91))::
 (nat_lit 93,tO [])::
 (nat_lit 96,cF "fresh_unknowns" "Asking.fresh_unknowns" 304 305 306 71 2 93 94 .none .none 95 307 308)::
 (nat_lit 97,fO (inClass (top 14) 3) "fresh_unknowns" "Asking.fresh_unknowns" mO3 (.ref 96))::
 (nat_lit 98,tO [])::
 (nat_lit 101,cF "tails_of_maps" "Asking.tails_of_maps" 310 311 312 74 2 98 99 .none .none 100 313 314)::
 (nat_lit 102,fO (inClass (top 14) 4) "tails_of_maps" "Asking.tails_of_maps" mO3 (.ref 101))::
 (nat_lit 103,tO [(.str "kept" 316),(.str "maps" 317),(.str "tables" 318),(.str "tails" 319)])::
 (nat_lit 104,{(.type "dict"),none,.dict #[kO P "__module__" 279 (.str "askviews.answers" 238),kO P "__firstlineno__" 283 (.int 44 282),kO P "__init__" 291 (.ref 82),kO P "best_place" 297 (.ref 87),kO P "take" 303 (.ref 92),kO P "fresh_unknowns" 309 (.ref 97),kO P "tails_of_maps" 315 (.ref 102),kO P "__static_attributes__" 320 (.ref 103),kO P "__dict__" 322 (.ref 106),kO P "__weakref__" 324 (.ref 107),kO P "__doc__" 325 .none] 4,#[]})::
 (nat_lit 105,{(.type "type"),none,.cls {"Asking",[(.type "object")],[(.ref 105),(.type "object")],104,"Asking",true,[],[],false,none,false},#[none,none,some (.str "Asking" 272),some (.str "Asking" 280),some (.builtin "object.__new__"),some (.bool true)]})::
 (nat_lit 106,{(.type "getset_descriptor"),none,.fields #[(.str "__dict__" 321),(.ref 105),(.builtin "function.__dict__"),(.builtin "function.__dict__#set")],#[]})::
 (nat_lit 107,{(.type "getset_descriptor"),none,.fields #[(.str "__weakref__" 323),(.ref 105),(.builtin "ExceptionGroup.__weakref__"),.none],#[]})::
 (nat_lit 110,tO [])::
 (nat_lit 112,tO [(.str "counted_maps" 331),(.str "unknowns" 332),(.str "terms" 333),(.str "places" 334),(.str "counts" 335),(.str "given" 336),(.str "count" 337),(.str "row" 338)])::
 (nat_lit 113,tO [])::
 (nat_lit 115,cG "narrowed" 328 329 330 83 3 110 111 (.ref 112) (.ref 113) 114 339 340)::
 (nat_lit 116,fF (top 15) "narrowed" mO3 115)::
 (nat_lit 117,tO [])::
 (nat_lit 119,tO [(.str "unknowns" 345),(.str "places" 346),(.str "place" 347),(.str "unknown" 348)])::
 (nat_lit 120,tO [])::
 (nat_lit 122,cG "places_of" 342 343 344 90 1 117 118 (.ref 119) (.ref 120) 121 349 350)::
 (nat_lit 123,fF (top 16) "places_of" mO3 122)::
 (nat_lit 124,tO [])::
 (nat_lit 127,cG "image" 352 353 354 95 3 124 125 .none .none 126 355 356)::
 (nat_lit 128,fF (top 17) "image" mO3 127)::
 (nat_lit 129,tO [])::
 (nat_lit 132,cG "is_image" 358 359 360 97 2 129 130 .none .none 131 361 362)::
 (nat_lit 133,fF (top 18) "is_image" mO3 132)::
 (nat_lit 134,tO [])::
 (nat_lit 137,cG "tails_by_key" 364 365 366 101 4 134 135 .none .none 136 367 368)::
 (nat_lit 138,fF (top 19) "tails_by_key" mO3 137)::
 (nat_lit 139,tO [])::
 (nat_lit 141,tO [(.str "views" 375),(.str "tables" 376),(.str "found" 377),(.str "name" 378),(.str "question" 379)])::
 (nat_lit 142,tO [])::
 (nat_lit 144,cG "seen" 372 373 374 109 2 139 140 (.ref 141) (.ref 142) 143 380 381)::
 (nat_lit 145,fF (top 21) "seen" mO4 144)::
 (nat_lit 146,tO [])::
 (nat_lit 148,tO [(.str "_law_script" 388),(.str "_law_k" 389)])::
 (nat_lit 149,tO [])::
 (nat_lit 151,cG "_law_feed" 385 386 387 115 2 146 147 (.ref 148) (.ref 149) 150 390 391)::
 (nat_lit 152,fF (top 23) "_law_feed" mO5 151)::
 (nat_lit 153,tO [])::
 (nat_lit 155,tO [(.str "_law_feed_here" 396),(.str "_law_many" 397),(.str "_law_digit" 398),(.str "_law_seed" 399)])::
 (nat_lit 156,tO [])::
 (nat_lit 158,cG "_law_draw" 393 394 395 119 2 153 154 (.ref 155) (.ref 156) 157 400 401)::
 (nat_lit 159,fF (top 24) "_law_draw" mO5 158)::
 (nat_lit 160,tO [])::
 (nat_lit 163,cG "_law_words" 403 404 405 128 2 160 161 .none .none 162 406 407)::
 (nat_lit 164,fF (top 25) "_law_words" mO5 163)::
 (nat_lit 165,tO [])::
 (nat_lit 167,tO [(.str "_law_feed_here" 412),(.str "_law_names" 413),(.str "_law_unknowns_here" 414),(.str "_law_values" 415),(.str "_law_at" 416),(.str "_law_long" 417),(.str "_law_terms" 418),(.str "_law_k" 419),(.str "_law_term" 420)])::
 (nat_lit 168,tO [])::
 (nat_lit 170,cG "_law_atom" 409 410 411 133 4 165 166 (.ref 167) (.ref 168) 169 421 422)::
 (nat_lit 171,fF (top 26) "_law_atom" mO5 170)::
 (nat_lit 172,tO [])::
 (nat_lit 175,cG "_law_head" 424 425 426 145 2 172 173 .none .none 174 427 428)::
 (nat_lit 176,fF (top 27) "_law_head" mO5 175)::
 (nat_lit 177,tO [])::
 (nat_lit 180,cG "_law_question" 430 431 432 150 3 177 178 .none .none 179 433 434)::
 (nat_lit 181,fF (top 28) "_law_question" mO5 180)::
 (nat_lit 182,tO [])::
 (nat_lit 185,cG "_law_led" 436 437 438 158 2 182 183 .none .none 184 439 440)::
 (nat_lit 186,fF (top 29) "_law_led" mO5 185)::
 (nat_lit 187,tO [])::
 (nat_lit 190,cG "_law_unknowns" 442 443 444 160 1 187 188 .none .none 189 445 446)::
 (nat_lit 191,fF (top 30) "_law_unknowns" mO5 190)::
 (nat_lit 192,tO [])::
 (nat_lit 194,tO [(.str "_law_terms" 451),(.str "_law_row" 452),(.str "_law_given" 453),(.str "_law_more" 454),(.str "_law_term" 455),(.str "_law_value" 456)])::
 (nat_lit 195,tO [])::
 (nat_lit 197,cG "_law_bound" 448 449 450 165 3 192 193 (.ref 194) (.ref 195) 196 457 458)::
 (nat_lit 198,fF (top 31) "_law_bound" mO5 197)::
 (nat_lit 199,tO [])::
 (nat_lit 202,cG "_law_tables" 460 461 462 177 2 199 200 .none .none 201 463 464)::
 (nat_lit 203,fF (top 32) "_law_tables" mO5 202)::
 (nat_lit 204,tO [])::
 (nat_lit 207,cG "_law_all_answers" 466 467 468 190 2 204 205 .none .none 206 469 470)::
 (nat_lit 208,fF (top 33) "_law_all_answers" mO5 207)::
 (nat_lit 209,tO [])::
 (nat_lit 211,tO [(.str "_law_feed_here" 475),(.str "_law_names" 476),(.str "_law_most" 477),(.str "_law_made" 478),(.str "_law_some" 479),(.str "_law_name" 480),(.str "_law_terms" 481),(.str "_law_head_here" 482),(.str "_law_k" 483),(.str "_law_unknown" 484)])::
 (nat_lit 212,tO [])::
 (nat_lit 214,cG "_law_view_question" 472 473 474 201 3 209 210 (.ref 211) (.ref 212) 213 485 486)::
 (nat_lit 215,fF (top 34) "_law_view_question" mO5 214)::
 (nat_lit 216,tO [])::
 (nat_lit 219,cG "_law_views" 488 489 490 214 3 216 217 .none .none 218 491 492)::
 (nat_lit 220,fF (top 35) "_law_views" mO5 219)::
 (nat_lit 221,tO [])::
 (nat_lit 224,cG "law" 494 495 496 216 1 221 222 .none .none 223 497 498)::
 (nat_lit 225,fF (top 36) "law" mO5 224)::[]
noncomputable def asF:Aaj:=[2,3,15,18,19,20,22,23,25,26,27,29,30,32,33,34,36,37,39,40,41,43,44,46,47,48,50,51,53,54,55,57,58,60,61,62,64,65,67,68,76,78,79,81,82,83,86,87,88,91,92,93,96,97,98,101,102,103,104,105,106,107,110,112,113,115,116,117,119,120,122,123,124,127,128,129,132,133,134,137,138,139,141,142,144,145,146,148,149,151,152,153,155,156,158,159,160,163,164,165,167,168,170,171,172,175,176,177,180,181,182,185,186,187,190,191,192,194,195,197,198,199,202,203,204,207,208,209,211,212,214,215,216,219,220,221,224,225]
def HF:PySem.W.Hook:=PySem.W.kHook KF asF λ_=>by kernel_rfl
noncomputable def qf(p:Program):Program:={p with main:={p.main with body:=[1,2,3,4,6,8,9,11,12,13,14,15,16,17,18,19,21,23,24,25,26,27,28,29,30,31,32,33,34,35,36].filterMap λi=>p.main.body[i]?}}
abbrev XF(p:Program)(s:Shared):Bool:=PySem.W.xlAt (qf p) [] s&&PySem.W.recOk [] s
abbrev LF(p:Program):Prop:=PySem.W.LeftO p (qf p) [] (XF p) (PySem.W.Hook.obs HF) (PySem.W.Hook.val HF) 2606
abbrev pL:Program:=PySem.Challenge.pw_askviews_k41_what_views_see
def okL:Hd.Ok pL 1241:={λw os=>by kernel_rfl,λw os=>by kernel_rfl,λw os=>by kernel_rfl,λw os=>by kernel_rfl}
def l1L(w:World)(os:OsState):(PySem.W.staticsOk (importedModules pL.main.body) (PySem.W.boot_heap w.params) (Hd.fin pL 1241 w os).heap&&PySem.W.namesBound pL (Hd.fin pL 1241 w os).heap&&PySem.W.gensDone (Hd.fin pL 1241 w os)&&PySem.W.laidKept (PySem.W.boot_heap w.params) (Hd.fin pL 1241 w os).heap)=true:=by kernel_rfl
def l2L(w:World)(os:OsState):PySem.W.Fast.tw4187177175401517315 (qf pL) [] (importedModules pL.main.body) (XF pL) true (Hd.fin pL 1241 w os)=PySem.W.openGood (qf pL) []:=by kernel_rfl
def l3L(w:World)(os:OsState):asF.map (Hd.fin pL 1241 w os).heap.get?=(KF w.params).map λp=>some p.2:=by kernel_rfl
def headL:LF pL:=Hd.left (n:=1241) okL (by kernel_rfl) (by kernel_rfl) (by kernel_rfl) (λs=>by kernel_rfl) l1L (λw os=>by rw[PySem.W.Fast.te4187177175401517315];exact l2L w os) l3L
def head:LF PySem.Challenge.pw_askviews_k41_what_views_see:=headL
def ZU{K:Frag}(hO:Pj H)(h:bo K H a xs):FA K H a xs:=by
 rcases h with(h|h)|h
 ·rcases hO a with e|⟨o,ys,e⟩
  ·rw[e]at h;cases h
  ·rw[e]at h;cases h
 ·exact .inl h
 ·exact .inr h
def FN(K:Frag)(x:Str)(st:Stmt):Prop:=∃f fd,nsIn K mainGlobals x=some (some (.ref f))/\fq K x x st f fd
def acJ{K:Frag}{x:Str}{st:Stmt}{f:Addr}{oc:Value}{od an:Aak}{zL:Array (Option Value)}{kV doc pm dm ct:Value}(a:nsIn K mainGlobals x=some (some (.ref f)))(l:K.lookup f=some {oc,od,.func (fnOf x x (defArgs st) (defBody st) (defScope st) .none kV doc pm an dm ct),zL})(c:codeIn K dm x=true)(k:keepIn K (.ref f)=true):FN K x st:={f,_,a,RG l c k}
section
variable{K:Frag}{h base:Heap}{x q p p2 r s:Str}{st:Stmt}{mg:Aad}{f C:Addr}{fd:FuncData}{P:Program}{w:World}{k:Nat}{sp:Sp}{ps:Aah}
def O5(b:FN K x st)(hb:∀f fd,fq K x x st f fd->Binds K fd ps [])(X:K.In h)(G:h.Ns mainGlobals mg)(ok:∀f fd,fq K x x st f fd->dk P w K mg base fU k f fd ps sp):dP P w K mg base k x ps sp:=
 have⟨f,fd,a,F⟩:=b
 {f,fd,ok f fd F,pM X G a,F.kp,hb f fd F}
abbrev Bd1(x q:Str)(st:Stmt)(p:Str):Prop:=(λ(a kV doc pm dm ct:Value)(an:Aak)=>bindArgs (-23) {[a],[]})=λa _ _ _ _ _ _=>pure [(p,a)]
def bd1(F:fq K x q st f fd)(h:Bd1 x q st p):Binds K fd [p] []:=F.binds λk1 k2 k3 k4 k5 k6 us hl=>by rcases us with _|⟨a,_|⟨e,us⟩⟩<;>first|exact cI (cI (cI (cI (cI (cI (cI h a) k1) k2) k3) k5) k6) k4|cases hl
def d1(P:Program)(w:World)(base:Heap)(X:K.In h)(G:h.Ns mainGlobals mg)(b:FN K x st)(ok:∀f fd,fq K x x st f fd->dk P w K mg base fU k f fd [p] sp)(h:Bd1 x x st p:=by rfl):dP P w K mg base k x [p] sp:=O5 b (λ_ _ F=>bd1 F h) X G ok
abbrev Bd2(x q:Str)(st:Stmt)(p p2:Str):Prop:=(λ(a b kV doc pm dm ct:Value)(an:Aak)=>bindArgs (-23) {[a,b],[]})=λa b _ _ _ _ _ _=>pure [(p,a),(p2,b)]
def bd2(F:fq K x q st f fd)(h:Bd2 x q st p p2):Binds K fd [p,p2] []:=F.binds λk1 k2 k3 k4 k5 k6 us hl=>by rcases us with _|⟨a,_|⟨b,_|⟨e,us⟩⟩⟩<;>first|exact cI (cI (cI (cI (cI (cI (cI (cI h a) b) k1) k2) k3) k5) k6) k4|cases hl
def d2(P:Program)(w:World)(base:Heap)(X:K.In h)(G:h.Ns mainGlobals mg)(b:FN K x st)(ok:∀f fd,fq K x x st f fd->dk P w K mg base fU k f fd [p,p2] sp)(h:Bd2 x x st p p2:=by rfl):dP P w K mg base k x [p,p2] sp:=O5 b (λ_ _ F=>bd2 F h) X G ok
abbrev Bd3(x q:Str)(st:Stmt)(p p2 r:Str):Prop:=(λ(a b c kV doc pm dm ct:Value)(an:Aak)=>bindArgs (-23) {[a,b,c],[]})=λa b c _ _ _ _ _ _=>pure [(p,a),(p2,b),(r,c)]
def bd3(F:fq K x q st f fd)(h:Bd3 x q st p p2 r):Binds K fd [p,p2,r] []:=F.binds λk1 k2 k3 k4 k5 k6 us hl=>by rcases us with _|⟨a,_|⟨b,_|⟨c,_|⟨e,us⟩⟩⟩⟩<;>first|exact cI (cI (cI (cI (cI (cI (cI (cI (cI h a) b) c) k1) k2) k3) k5) k6) k4|cases hl
def d3(P:Program)(w:World)(base:Heap)(X:K.In h)(G:h.Ns mainGlobals mg)(b:FN K x st)(ok:∀f fd,fq K x x st f fd->dk P w K mg base fU k f fd [p,p2,r] sp)(h:Bd3 x x st p p2 r:=by rfl):dP P w K mg base k x [p,p2,r] sp:=O5 b (λ_ _ F=>bd3 F h) X G ok
abbrev Bd4(x q:Str)(st:Stmt)(p p2 r s:Str):Prop:=(λ(a b c d kV doc pm dm ct:Value)(an:Aak)=>bindArgs (-23) {[a,b,c,d],[]})=λa b c d _ _ _ _ _ _=>pure [(p,a),(p2,b),(r,c),(s,d)]
def bd4(F:fq K x q st f fd)(h:Bd4 x q st p p2 r s):Binds K fd [p,p2,r,s] []:=F.binds λk1 k2 k3 k4 k5 k6 us hl=>by rcases us with _|⟨a,_|⟨b,_|⟨c,_|⟨d,_|⟨e,us⟩⟩⟩⟩⟩<;>first|exact cI (cI (cI (cI (cI (cI (cI (cI (cI (cI h a) b) c) d) k1) k2) k3) k5) k6) k4|cases hl
def d4(P:Program)(w:World)(base:Heap)(X:K.In h)(G:h.Ns mainGlobals mg)(b:FN K x st)(ok:∀f fd,fq K x x st f fd->dk P w K mg base fU k f fd [p,p2,r,s] sp)(h:Bd4 x x st p p2 r s:=by rfl):dP P w K mg base k x [p,p2,r,s] sp:=O5 b (λ_ _ F=>bd4 F h) X G ok
def MN(K:Frag)(C:Addr)(x q:Str)(st:Stmt):Prop:=∃f fd,findIn K (.ref C) x=some (some (.ref f))/\isFn K (.ref f)=true/\fq K x q st f fd
def aco{K:Frag}{x q:Str}{st:Stmt}{f C:Addr}{oc:Value}{od an:Aak}{zL:Array (Option Value)}{kV doc pm dm ct:Value}(a:findIn K (.ref C) x=some (some (.ref f)))(i:isFn K (.ref f)=true)(l:K.lookup f=some {oc,od,.func (-23),zL})(c:codeIn K dm q=true)(k:keepIn K (.ref f)=true):MN K C x q st:={f,_,a,i,RG l c k}
def m2(P:Program)(w:World)(base:Heap)(mg:Aad)(b:MN K C x q st)(ok:∀f fd,fq K x q st f fd->dk P w K mg base fU k f fd [p,p2] sp)(h:Bd2 x q st p p2:=by rfl):qZ P w K mg base C k x [p,p2] sp:=
 have⟨f,fd,a,i,F⟩:=b
 {f,fd,ok f fd F,{a,i,F.kp},bd2 F h}
def m3(P:Program)(w:World)(base:Heap)(mg:Aad)(b:MN K C x q st)(ok:∀f fd,fq K x q st f fd->dk P w K mg base fU k f fd [p,p2,r] sp)(h:Bd3 x q st p p2 r:=by rfl):qZ P w K mg base C k x [p,p2,r] sp:=
 have⟨f,fd,a,i,F⟩:=b
 {f,fd,ok f fd F,{a,i,F.kp},bd3 F h}
end
def all_mk{l:PySem.W.OpenLaw}{w:World}{K:Frag}{h:Heap}{mg:Aad}{fa C0:Addr}{t0 t1:Tok}(X:K.In h)(G:h.Ns mainGlobals mg)(hfa:mg "law"=some (.ref fa))
  (zi:FN K "is_value" yK)
  (vM:FN K "is_unknown" vf)
  (tR:FN K "unknowns_of" tM)
  (Bs:FN K "rows_of" Ay)
  (qT:FN K "sorted_tables" qz)
  (Bw:FN K "answers" AD)
  (xg:FN K "counts_of" wX)
  (rX:FN K "needed_terms" rJ)
  (zf:FN K "narrowed" yI)
  (xf:FN K "places_of" wW)
  (Gf:FN K "image" FL)
  (zj:FN K "is_image" yL)
  (rW:FN K "tails_by_key" rH)
  (KR:FN K "seen" IJ)
  (D5:FN K "_law_feed" Dp)
  (D6:FN K "_law_draw" Du)
  (Bt:FN K "_law_words" Az)
  (D7:FN K "_law_atom" Dy)
  (DZ:FN K "_law_head" Dm)
  (vL:FN K "_law_question" ve)
  (Ge:FN K "_law_led" FK)
  (vK:FN K "_law_unknowns" vd)
  (Bv:FN K "_law_bound" AB)
  (zg:FN K "_law_tables" yJ)
  (qU:FN K "_law_all_answers" qA)
  (oW:FN K "_law_view_question" oU)
  (Bu:FN K "_law_views" AA)
  (Pe:FN K "law" NS)
  (cA0:nsIn K mainGlobals "Asking"=some (some (.ref C0)))
  (UT:plainGet K C0 Str.empty=true)
  (UY:hasDictIn K C0=true)
  (US:PySem.W.plainOver K C0=true)
  (UR:findIn K (.ref C0) "__setattr__"=some (some (.builtin "object.__setattr__")))
  (UW:PySem.W.makesIn K C0=true)
  (UX:keepIn K (.ref C0)=true)
  (Bp:findIn K (.ref C0) "tables"=some none)
  (Ga:findIn K (.ref C0) "kept"=some none)
  (F9:findIn K (.ref C0) "maps"=some none)
  (DU:findIn K (.ref C0) "tails"=some none)
  (vJ:MN K C0 "__init__" "Asking.__init__" vc)
  (rY:MN K C0 "best_place" "Asking.best_place" rK)
  (DY:MN K C0 "take" "Asking.take" Dl)
  (nK:MN K C0 "fresh_unknowns" "Asking.fresh_unknowns" ni)
  (oV:MN K C0 "tails_of_maps" "Asking.tails_of_maps" oS)
  (z0:nsIn K mainGlobals "len"=some none)
  (z1:nsIn K mainGlobals "range"=some none)
  (z2:nsIn K mainGlobals "tuple"=some none)
  (z3:nsIn K mainGlobals "list"=some none)
  (z4:nsIn K mainGlobals "isinstance"=some none)
  (z5:nsIn K mainGlobals "all"=some none)
  (z6:nsIn K mainGlobals "str"=some none)
  (z7:nsIn K mainGlobals "bool"=some none)
  (z8:nsIn K mainGlobals "int"=some none)
  (z9:nsIn K mainGlobals "dict"=some none)
  (Ze:nsIn K mainGlobals "enumerate"=some none)
  (Zd:nsIn K mainGlobals "zip"=some none)
  (Zc:nsIn K mainGlobals "sum"=some none)
  (Zb:nsIn K mainGlobals "sorted"=some none)
  (Za:nsIn K mainGlobals "set"=some none)
  (mc0:nsIn K mainGlobals "SIGNS"=some (some (.str "abcdefghijklmnopqrstuvwxyz0123456789" t0)))
  (mc1:nsIn K mainGlobals "MOST_SIGNS"=some (some (.int 8 t1)))
  :∃fd:FuncData,(∀(s:Shared)(v:Value),BindsTo s fd {[v],[]} [("_law_script",v)])/\∀base:Heap,K.In base->base.Ns mainGlobals mg->dk l.prog w K mg base fU 10 fa fd ["_law_script"] (HM K):=by
 obtain⟨f,fd,a,F⟩:=Pe;have e:=hfa.symm.trans (pM X G a);cases e;have T:Txt K mg:={cK X G z0,cK X G z1,cK X G z2,cK X G z3,cK X G z4,cK X G z5,cK X G z6,cK X G z7,cK X G z8,cK X G z9,cK X G Ze,cK X G Zd,cK X G Zc,cK X G Zb,cK X G Za,{_,pM X G mc0},{_,pM X G mc1}};refine{fd,?_,λbase _ _=>?_}
 ·obtain⟨_,_,_,_,_,_,_,_,_,rfl,_,_⟩:=F.ex
  exactλs v=>.of_eq rfl
 have Ft:=d1 l.prog w base X G zi λ_ _ F=>Lj F T;have KG:=d1 l.prog w base X G vM λ_ _ F=>HH F T ⟨Ft⟩;have HK:=d1 l.prog w base X G tR λ_ _ F=>FV F T {⟨Ft⟩,KG};have Ho:=d2 l.prog w base X G Bs λ_ _ F=>Ob F T;have C9:=d1 l.prog w base X G xf λ_ _ F=>JA F T;have Nk:=d3 l.prog w base X G Gf λ_ _ F=>TH F T;have O7:=d2 l.prog w base X G zj λ_ _ F=>Lk F T;have F6:=d4 l.prog w base X G rW λ_ _ F=>EI F T ⟨O7⟩;have Fq:=d3 l.prog w base X G zf λ_ _ F=>Li F T ⟨C9,Nk⟩;have F7:=d2 l.prog w base X G rX λ_ _ F=>EJ F T;have O:Ec K C0:={⟨UT,UY,US,UR⟩,Bp,Ga,F9,DU};have iR:=m2 l.prog w base mg nK λ_ _ F=>TK F T O ⟨HK⟩;have jo:=m2 l.prog w base mg oV λ_ _ F=>TC F T O {⟨C9,Nk⟩,iR,Ho,F6};have vq:=m2 l.prog w base mg rY λ_ _ F=>Ye F T O ⟨jo⟩;have JR:=m3 l.prog w base mg DY λ_ _ F=>X9 F T O ⟨iR,jo,Fq⟩;obtain⟨fi,fdi,ai,ii,Fi⟩:=vJ;have k_A:K3 l.prog w K mg base C0 1 "Asking" ["self","tables"] (IC l.prog w K C0):={_,_,⟨UW,ai,ii,UX⟩,TF Fi T O,pM X G cA0,bd2 Fi rfl};have Ls:=d2 l.prog w base X G xg λ_ _ F=>JC F T O ⟨k_A,vq,JR,F7,Fq⟩;have R1:=d2 l.prog w base X G Bw λ_ _ F=>Oc F T ⟨Ls⟩;have Fp:=d1 l.prog w base X G qT λ_ _ F=>DC F T ⟨Ho⟩;have abB:=d2 l.prog w base X G KR λ_ _ F=>Yb F T ⟨R1,Fp⟩;have UO:=d2 l.prog w base X G D5 λ_ _ F=>Yc F T;have pS:=d2 l.prog w base X G D6 λ_ _ F=>Yd F T;have Bn:=d2 l.prog w base X G Bt λ_ _ F=>Tz F T ⟨pS⟩;have UP:=d4 l.prog w base X G D7 λ_ _ F=>TN F T ⟨pS⟩;have UN:=d2 l.prog w base X G DZ λ_ _ F=>TJ F T ⟨pS⟩;have KD:=d3 l.prog w base X G vL λ_ _ F=>Jz F T {⟨pS⟩,Bn,UP,UN};have KC:=d1 l.prog w base X G vK λ_ _ F=>Jy F T;have Cj:=d3 l.prog w base X G oW λ_ _ F=>TB F T ⟨pS,KD,KC⟩;have RY:=d3 l.prog w base X G Bu λ_ _ F=>Qr F T ⟨Bn,Cj⟩;have O6:=d2 l.prog w base X G zg λ_ _ F=>Qs F T ⟨pS⟩;have YR:=d2 l.prog w base X G Ge λ_ _ F=>aau F T;have RZ:=d3 l.prog w base X G Bv λ_ _ F=>TM F T;have Fs:=d2 l.prog w base X G qU λ_ _ F=>Yg F T ⟨RZ,YR⟩;exact aav F T ⟨UO,pS,Bn,RY,O6,Fs,abB⟩
def walk{l:PySem.W.OpenLaw}{K:Params->Frag}(hn:l.most=some 63)(Rx:d.params.defaults=[])
  (hY:∀(w:World)(h:Heap),YP w h->(K w.params).In h)
  (F:∀(w:World)(mg:Aad)(fa:Addr)(h:Heap),(K w.params).In h->h.Ns mainGlobals mg->mg d.name=some (.ref fa)->
   ∃fd:FuncData,(∀(s:Shared)(u:Value),BindsTo s fd {[u],[]} [("_law_script",u)])/\∀base:Heap,(K w.params).In base->base.Ns mainGlobals mg->dk l.prog w (K w.params) mg base fU 10 fa fd ["_law_script"] (HM (K w.params))):
  PySem.W.WalkO q loose XP YP l.row.toRowW d [] (λf vs=>PySem.call f vs):=
 L2.Xn (n:=63) (k:=10) (x:="_law_script") (CX:=λ_=>fU) (sp:=λw=>HM (K w.params)) hn (-8) Rx {rfl,by decide,by decide} hY F (λ_ H a ns hl hO hS=>{a,ns,rfl,ZU hO hS,hl,λ_=>rfl}) λ_ _ _ _ _ z=>z
end oQ
open PySem PySem.W PyProof.Rows
set_option maxHeartbeats 0 in
theorem PySem.Challenge.cw_askviews_k41_what_views_see_holds : PySem.Challenge.rw_askviews_k41_what_views_see.Holds := by
 w_on;refine holds_law (by rw[PySem.W.Fast.te9446332074065402090];kernel_rfl) λaeL=>?_
 refine holds_open (q:=oQ.qf PySem.Challenge.pw_askviews_k41_what_views_see) (loose:=[]) (Xt:=oQ.XF PySem.Challenge.pw_askviews_k41_what_views_see) (XP:=XL (oQ.qf PySem.Challenge.pw_askviews_k41_what_views_see) []) (Yf:=Hook.obs oQ.HF) (Ya:=Hook.val oQ.HF) (YP:=Hook.says oQ.HF) (N:=2606) oQ.head (Hook.of oQ.HF) (Hook.keeps oQ.HF)
  (λs e=>xl_of s (rf.mp e).1) XL.keeps (by rfl) (by rfl) (by rfl) (λs e=>recFacts_of (rf.mp e).2) (by rfl) (by first|assumption|decide+kernel) (-3) {rfl,rfl,rfl,rfl,rfl,by decide+kernel} ?hw ?hc
 case hw=>w_witness2
 case hc=>
 unfold oQ.HF
 k_fill
 refine oQ.walk (l:=PySem.Challenge.rw_askviews_k41_what_views_see) rfl rfl (λw h Y=>PySem.W.kIn_of Y) ?F
 case F=>
  intro w mg fa h KX G Ri
  refine' oQ.all_mk KX G Ri ?zi ?vM ?tR ?Bs ?qT ?Bw ?xg ?rX ?zf ?xf ?Gf ?zj ?rW ?KR ?D5 ?D6 ?Bt ?D7 ?DZ ?vL ?Ge ?vK ?Bv ?zg ?qU ?oW ?Bu ?Pe ?cA0 ?UT ?UY ?US ?UR ?UW ?UX ?Bp ?Ga ?F9 ?DU ?vJ ?rY ?DY ?nK ?oV ?z0 ?z1 ?z2 ?z3 ?z4 ?z5 ?z6 ?z7 ?z8 ?z9 ?Ze ?Zd ?Zc ?Zb ?Za ?mc0 ?mc1
  case zi|vM|tR|Bs|qT|Bw|xg|rX|zf|xf|Gf|zj|rW|KR|D5|D6|Bt|D7|DZ|vL|Ge|vK|Bv|zg|qU|oW|Bu|Pe=>refine' oQ.acJ ?a ?l ?c ?k;case a|l|c|k=>k_is
  case cA0|UT|UY|US|UR|UW|UX|Bp|Ga|F9|DU=>k_is
  case vJ|rY|DY|nK|oV=>refine' oQ.aco ?a ?i ?l ?c ?k;case a|i|l|c|k=>k_is
  case z0|z1|z2|z3|z4|z5|z6|z7|z8|z9|Ze|Zd|Zc|Zb|Za|mc0|mc1=>k_is
