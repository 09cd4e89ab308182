import PyProof.Rows.All
import Wide.All
import OpenK.AllK
import PySem.Challenge.RW_askviews_k08_whole_more_and_less
set_option Elab.async false
set_option linter.all false
set_option bootstrap.genMatcherCode false
set_option maxRecDepth 100000
set_option maxHeartbeats 4000000
local macro_rules|`({$xs:term,*})=>`(⟨$xs,*⟩)
local macro_rules|`(∅)=>`((by lia))
set_option hygiene false
local macro_rules|`(-3)=>`((by decide+kernel))
local macro_rules|`(-4)=>`(λdF A outer s H vs Q E hr h=>?_)
local macro_rules|`(-5)=>`(model prog w)
local macro_rules|`(-6)=>`(model X.prog X.w)
local macro_rules|`(-7)=>`(d5 X (x::more++fs) scope g3.objs.size {s2 with heap:=g3} H2 (s2.heap.objs.size::fp))
local macro_rules|`(-8)=>`((by simp))
local macro_rules|`(-9)=>`((by decide))
local macro_rules|`(-10)=>`(λ(p:NK×Addr×V)(q:NK×Addr×Value)=>p.1=q.1/\p.2.1=q.2.1/\RelV p.2.2 q.2.2)
local macro_rules|`(-11)=>`(.ref s.heap.objs.size)
local macro_rules|`(-12)=>`(λ_ _=>rfl)
local macro_rules|`(-13)=>`(arrOf st)
local macro_rules|`(-14)=>`((xs.map (ent knd)).toArray)
local macro_rules|`(-15)=>`(tupleKeyHash knd k)
local macro_rules|`(-16)=>`(d5 X (x::more++fs) scope C s H ex)
local macro_rules|`(-17)=>`((by show 2<=sizeLine;decide))
local macro_rules|`(-18)=>`(λt=>hc (by simp[iy,t]))
local macro_rules|`(-19)=>`(s.heap.objs.size+1)
local macro_rules|`(-20)=>`(((fP items.size 0 lo:Nat):Int)==0&&(1:Int)==1&&(fP items.size items.size hi -fP items.size 0 lo)==items.size)
local macro_rules|`(-21)=>`(lp mask h n)
local macro_rules|`(-22)=>`(fnOf x q (defArgs st) (defBody st) (defScope st) .none kV doc pm an dF ct)
local macro_rules|`(-23)=>`(fK "maps" (.ref md) [("tables",.ref tb),("kept",.ref kl)])
local macro_rules|`(-24)=>`((by show 0<=sizeLine;decide))
local macro_rules|`(-25)=>`(model P w)
local macro_rules|`(-26)=>`(ps t.mask h D)
local macro_rules|`(-27)=>`(x==("__debug__":Str))
local macro_rules|`(-28)=>`(s.heap.push {cls:=.type "tuple",data:=.seq (ps.map λ(i:Nat)=>rawInt i).toArray})
local macro_rules|`(-29)=>`(.ListComp elt [{tg,iter,ifs,0}] scope pos)
local macro_rules|`(-30)=>`(cl D.fB hr (dA (pv 0) aX))
local macro_rules|`(-31)=>`(backTo pos (starEach es X.env))
local macro_rules|`(-32)=>`(ts.map V.str)
local macro_rules|`(-33)=>`((known.map (AskP.atT r ts)).map V.str)
local macro_rules|`(-34)=>`(.ins C dx (fK "kept" (.ref uF) [("tables",.ref tb),("kept",.ref kl),("maps",.ref md),("tails",.ref td)]))
local macro_rules|`(-35)=>`(.ins C dx (fK "maps" (.ref B1) [("tables",.ref tb),("kept",.ref uF),("maps",.ref md),("tails",.ref td)]))
local macro_rules|`(-36)=>`((by with_unfolding_all rfl))
local macro_rules|`(-37)=>`(bK gs rfl rfl ?_)
local macro_rules|`(-38)=>`(d5 X (x::fs) scope C s H ex)
local macro_rules|`(-39)=>`(.lst ys)
local macro_rules|`(-40)=>`((items.toList.drop (fP items.size 0 lo)).take (fP items.size items.size hi -fP items.size 0 lo))
local macro_rules|`(-41)=>`(kept++iA kept a.2)
local macro_rules|`(-42)=>`(rJ {aJ (sC z _ _) hz,λt' k=>{.str _,H,I.tok k,⟨_,rfl⟩,q}})
local macro_rules|`(-43)=>`(Obj.mapSeq λ_=>(#[]:Aaj))
local macro_rules|`(-44)=>`(NK×Addr×V)
local macro_rules|`(-45)=>`(Builtin.«zip.__next__» {[.ref z],[]})
local macro_rules|`(-46)=>`(xs.map λx=>tupleKeyHash knd x.1)
local macro_rules|`(-47)=>`(λr s'=>r=.ok (.ret (.bool true))/\OldK aaa.heap s'.heap/\s'.os=aaa.os/\AllBare s'.gens)
local macro_rules|`(-48)=>`(kS kept a.2)
local macro_rules|`(-49)=>`(d0 (wpAny_callSpecial?_slot hT ff (bp ff hT nB ?_ (oX _))))
local macro_rules|`(-50)=>`(.dK (putK kvs (Sum.inr z) (.ref rl)))
local macro_rules|`(-51)=>`(ns.map V.int)
local macro_rules|`(-52)=>`(gz [] ((a.2.map (Sum.inr:Str->Key)).zip (a.2.map V.str)))
local macro_rules|`(-53)=>`(rj (ha pos pins s Z H _ I h) λus s1 vs H1 I1 r1 q1=>?_)
local macro_rules|`(-54)=>`(kvs.any λkv=>decide (kv.1=k))
local macro_rules|`(-55)=>`(λ(p:V×V)(e:DictEntry)=>RelV p.1 e.key/\RelV p.2 e.val)
local macro_rules|`(-56)=>`((by simpa using e1))
local macro_rules|`(-57)=>`(if([]:List Keyword).isEmpty then 0 else 1)
local macro_rules|`(-58)=>`(longer maps (db a.1) a.2 kept known fresh)
local macro_rules|`(-59)=>`(s1.heap.push (seqObj "list" us.toArray 0))
local macro_rules|`(-60)=>`(s.heap.push {cls:=.type "range",data:=.fields #[.int lo t,.int hi u,.int 1 v]})
local macro_rules|`(-61)=>`(Obj.putSet ((kB xs p (k,b)).map (ent knd)).toArray t2)
local macro_rules|`(-62)=>`(!t.plain&&decide (es.size>1))
local macro_rules|`(-63)=>`(fK "kept" (.ref kl) [("tables",.ref tb)])
local macro_rules|`(-64)=>`(.ref a)
local macro_rules|`(-65)=>`(Rw α×Int)
local macro_rules|`(-66)=>`(λ(u:Value)(p:Key×Value)=>(bW prog w).is p.1 u=true)
local macro_rules|`(-67)=>`(fnOf x qual (defArgs st) (defBody st) (defScope st) .none kV doc pm an dF ct)
local macro_rules|`(-68)=>`(.Call (.Name x p) (e::es) [] pos)
local macro_rules|`(-69)=>`(envOfC qual scope s.heap.objs.size f cd)
local macro_rules|`(-70)=>`(zs.map V.str)
local macro_rules|`(-71)=>`(A.under (.builtin "type.__call__" {.ref C::us,kw}))
local macro_rules|`(-72)=>`(I.bj.fresh (ak _))
local macro_rules|`(-73)=>`((by simpa using e2))
local macro_rules|`(-74)=>`(λz=>hc (by simp[z]))
local macro_rules|`(-75)=>`(I.turned (t':=s.toks) (λb o hb e=>(sb.2 b hb).trans e) f0 f1 f3 f4 f5)
local macro_rules|`(-76)=>`(.dK (es.map jX))
local macro_rules|`(-77)=>`(upd H5 md (.ext (DN P w md [(gj [],e,.int 1)])))
local macro_rules|`(-78)=>`(if(Value.ref d==Value.none)=true then _ else _)
local macro_rules|`(-79)=>`(ha pins s Z H _ I h)
local macro_rules|`(-80)=>`(apos.endLine==eU.line)
local macro_rules|`(-81)=>`(.ref v.heap.objs.size)
local macro_rules|`(-82)=>`(l.foldl (λm x=>qB m (image xs x.1 ts) x.2) m)
local macro_rules|`(-83)=>`(xs.map λx=>(x.1.map rh,x.2))
local macro_rules|`(-84)=>`(λz=>nomatch z)
local macro_rules|`(-85)=>`(strKind prog w)
local macro_rules|`(-86)=>`(bT _ _ (cB nb))
local macro_rules|`(-87)=>`(I1.bj.fresh (ak _))
local macro_rules|`(-88)=>`(cc (pv 1))
local macro_rules|`(-89)=>`(λ_ _ _ _=>(GR (n:=2) rfl (dC (tJ (i:=0)) (dC (tJ (i:=1)) ku))))
local macro_rules|`(-90)=>`(.Call (.Attribute o m apos) (e::es) [] pos)
local macro_rules|`(-91)=>`(λm g o i j t R=>W.pure (dn _ _ _ _ _ _ R))
local macro_rules|`(-92)=>`(bs.map Value.ref)
local macro_rules|`(-93)=>`(k==.free&&env.scope.kind==.function&&env.kindOf n==some .cell)
local macro_rules|`(-94)=>`(kvs.map λp=>(V.ref p.2.1,p.2.2))
local macro_rules|`(-95)=>`(mh un db atoms us vals us.length)
local macro_rules|`(-96)=>`(nd b _ q λl z=>by cases z)
local macro_rules|`(-97)=>`(λy H5=>N (ys++[y]) H5)
local macro_rules|`(-98)=>`(m.map λx=>if x.1=r then(x.1,x.2+c)else x)
local macro_rules|`(-99)=>`(SetTable.grown sS.size)
noncomputable section
open PySem.W (Frag findIn nsIn fnOf emptyDict keepIn instObj plainGet kitOne codeIn hasDictIn isFn lookIn)
abbrev T6:=List (PySem.Str×List PySem.Str)
abbrev T7:=List (List PySem.Str)
abbrev Aaa:=List (PySem.Addr×PySem.Obj)
abbrev Aab:=PySem.Str->Option PySem.Value
abbrev Aac:=PySem.Value->PySem.Shared->Prop
abbrev Aad:=Array (Option PySem.Value)
abbrev Aae:=List PySem.Value
abbrev Aaf:=List PySem.Str
abbrev Aah:=List PySem.Addr
abbrev Aai:=Option PySem.Addr
abbrev Aaj:=Array PySem.Value
section
open PySem
def ae:=@wpAny_bind
def af:=@List.length_map
def ag:=@wpAny_pure
def ah:=@PySem.Heap.get?_push_of_some
def ak:=@Nat.le_refl
def ao:=@List.getElem?_eq_getElem
def aq:=@List.getElem?_eq_some_iff
def ar:=@List.mem_map
def aw:=@if_neg
def ax:=@List.mem_singleton
def az:=@List.mem_of_getElem?
def aA:=@List.mem_cons_self
def aB:=@List.mem_cons_of_mem
def aC:=@List.length_append
def aD:=@List.map_append
def aE:=@PySem.Heap.get?_push_size
def aF:=@PySem.Heap.lt_size
def aG:=@if_pos
def aH:=@List.mem_cons
def aI:=@Nat.ne_of_lt
def aJ:=@Nat.le_trans
def aL:=@List.getElem?_map
def aM:=@Array.length_toList
def aN:=@List.size_toArray
def aP:=@List.mem_append
def aQ:=@Nat.zero_le
def aR:=@List.length_take
def aT:=@decide_eq_true
def aU:=@List.map_congr_left
def aV:=@List.map_map
def aW:=@of_decide_eq_true
def a9:=@List.take_add_one
def ba:=@Nat.lt_of_lt_of_le
def bg:=@List.take_length
def bh:=@PySem.Paired.length
def bo:=@Nat.le_of_lt
def bp:=@wpAny_call_entry
def bq:=@Option.map_eq_some_iff
def br:=@Array.getElem?_eq_getElem
def bu:=@Bool.false_ne_true
def bw:=@List.map_cons
def bz:=@sizeLine_eq
def bA:=@List.length_cons
def bB:=@decide_eq_false
def bD:=@Nat.ne_of_gt
def bF:=@Array.getElem?_toList
def bH:=@List.mem_append_left
def bJ:=@Option.some.inj
def bK:=@wpAny_field
def bN:=@PySem.Heap.SameBut.update
def bP:=@boot_len
def bQ:=@List.mem_filter
def bS:=@wpAny_holding
def bT:=@PySem.Heap.get?_update_other
def bU:=@List.getElem?_append_right
def bV:=@congrArg
def bX:=@wpAny_newObj_type
def bY:=@List.mem_append_right
def cq:=@Option.toList_some
def cu:=@wpAny_seqItems
def cw:=@PySem.F.slot_dict_itemiterator_next
def cx:=@wpAny_setField_rec
def cy:=@List.mem_map_of_mem
def cz:=@PySem.PassesOwn.never
def cB:=@Ne.symm
def cD:=@PySem.Heap.get?_update_self
def cH:=@List.pairwise_map
def cJ:=@PySem.Heap.size_push
def cL:=@PyProof.Rows.slot_tuple_getitem
def cN:=@List.getElem?_append_left
def cP:=@List.mem_iff_getElem?
def cQ:=@congrFun
def cT:=@PySem.W.mg_none_of
def cU:=@Nat.lt_of_le_of_lt
def cV:=@List.nodup_cons
def cX:=@List.take_of_length_le
def cY:=@List.getD_eq_getElem?_getD
def cZ:=@Bool.and_eq_true
def c7:=@Nat.lt_succ_self
def c8:=@List.append_nil
def da:=@Int.toNat_natCast
def dc:=@Array.getElem_mem
def dh:=@wpAny_mono
def dj:=@PySem.F.plainAttrs_list
def dv:=@List.mem_range
def dw:=@List.append_assoc
def dD:=@List.idxOf_lt_length_of_mem
def dM:=@List.take_append_drop
def dO:=@List.length_filter_le
def dP:=@Nat.lt_irrefl
def dU:=@Nat.lt_succ_of_lt
def dZ:=@Nat.le_succ
def d0:=@wpAny_attempt
def d7:=@Option.map_some
def d8:=@List.all_eq_true
def d9:=@List.Pairwise.imp_of_mem
def eB:=@PyProof.Rows.callWith_type1
def eM:=@codeAny_builtin
def eO:=@List.mem_iff_getElem
def eP:=@List.find?_cons
def eT:=@PySem.F.slot_zip_next
def eX:=@List.pairwise_iff_getElem
def eY:=@List.mem_of_find?_eq_some
def fb:=@PySem.F.slot_dict_keyiterator_next
def fk:=@List.length_singleton
def fu:=@PySem.W.kia_one
def fA:=@List.length_nil
def fD:=@List.pairwise_singleton
def fE:=@wpAny_rule
def fH:=@Nat.le_add_right
def fI:=@List.mem_flatMap
def fM:=@forall_congr'
def fN:=@wpAny_setField
def fQ:=@decide_eq_true_eq
def fR:=@List.nodup_append
def fT:=@beq_eq_false_iff_ne
def fU:=@List.filter_sublist
def fV:=@List.filterMap_cons
def f6:=@Nat.not_lt_zero
def f7:=@PySem.Calls.call_function_entry
def gc:=@PySem.F.args_dict_itemiterator_next_1
def gk:=@List.getElem?_eq_none
def gu:=@wpAny_isInstance
def gE:=@PySem.F.type_list_append
def gF:=@PySem.F.slot_list_append
def gG:=@PySem.F.entry_dict_itemiterator_next
def gH:=@Nat.lt_trans
def gJ:=@List.getElem_mem
def gK:=@PySem.Calls.spliced_cons
def gL:=@Bool.false_eq_true
def gR:=@List.length_eq_zero_iff
def gW:=@wpAny_dictEntries
def gX:=@Bool.eq_false_iff
def gZ:=@wpAny_typeOf
def g9:=@List.find?_cons_of_pos
def hE:=@List.find?_cons_of_neg
def hJ:=@Array.getElem?_eq_some_iff
def hZ:=@Nat.le_of_not_lt
def ic:=@List.any_eq_true
def iq:=@LawfulBEq.eq_of_beq
def iu:=@Int.emod_lt_of_pos
def iw:=@List.rel_of_pairwise_cons
def iC:=@wpAny_typeNameOfWhole_itemiter
def iD:=@wpAny_specialOf
def iM:=@Int.emod_nonneg
def iO:=@Bool.eq_iff_iff
def iP:=@wpAny_truthy_bool
def iS:=@plainId_quiet
def iV:=@wpAny_typeNameOfWhole_keyiter
def iX:=@PySem.F.plainAttrs_dict
def jc:=@List.map_eq_nil_iff
def je:=@wpAny_forIn_list
def jf:=@wpAny_fieldsOf
def jk:=@List.mem_reverse
def jl:=@List.cons_append
def jr:=@PySem.Calls.callWith_builtin
def jv:=@List.map_nil
def jw:=@wpAny_updateSeq
def jx:=@wpAny_passesOwn
def jy:=@PyProof.Rows.vals1
def jD:=@builtinLookup_eq_fast
def jG:=@PySem.F.slot_dict_get
def jI:=@Nat.min_eq_left
def jJ:=@List.perm_append_comm
def jK:=@List.of_mem_zip
def jL:=@List.length_zip
def jM:=@List.length_replicate
def jN:=@List.foldl_cons
def jO:=@List.Pairwise.sublist
def jQ:=@PySem.F.slot_NoneType_hash
def jR:=@List.perm_ext_iff_of_nodup
def jT:=@PySem.F.slot_tuple_iterator_next
def jU:=@Bool.true_and
def jZ:=@Option.isSome_map
def j7:=@List.length_range
def j8:=@PySem.F.args_zip_next_1
def j9:=@Array.toList_push
def kf:=@lookup_relabel_local
def kg:=@List.pairwise_append
def kh:=@List.mem_of_mem_take
def ki:=@List.drop_eq_getElem_cons
def kz:=@isSubtype_stop
def kC:=@if_false
def kE:=@Option.isSome_iff_exists
def kF:=@Nat.pow_succ
def kG:=@PySem.F.entry_zip_next
def kH:=@mem_of_lookup
def kI:=@wpAny_getItem_str_slice
def kL:=@Nat.add_sub_cancel_left
def kN:=@Nat.mul_assoc
def kP:=@wpAny_dictEpoch
def kT:=@List.pairwise_cons
def kU:=@List.nil_append
def kW:=@List.getElem_idxOf
def kX:=@List.find?_eq_none
def kY:=@List.filter_append
def k8:=@Array.getElem?_eq_none
def lA:=@Nat.lt_trichotomy
def lC:=@List.getElem?_inj
def lD:=@PySem.F.slot_tuple_hash
def lE:=@PySem.Calls.spliced_nil
def lF:=@wpAny_notOrdered_dict
def lG:=@wpAny_newTuple
def lR:=@codeAny_mono
def lW:=@Nat.sub_self
def lY:=@List.pairwise_reverse
def lZ:=@List.nodup_nil
def mf:=@wpAny_pyIter_zip
def mx:=@strKind_is
def mB:=@Nat.pow_le_pow_right
def mC:=@List.length_drop
def mD:=@List.getElem_map
def mE:=@List.filter_cons
def mF:=@PySem.Calls.evalArgs_plain
def mG:=@Bool.and_eq_true_iff
def mH:=@Array.mem_toList_iff
def mI:=@Array.getElem_toList
def mJ:=@wpAny_onRaise
def mP:=@List.length_eraseIdx_of_lt
def mQ:=@List.any_cons
def mT:=@wpAny_letGo
def mX:=@Std.Legacy.Range.forIn_eq_forIn_range'
def mY:=@Array.toList_append
def mZ:=@wpAny_ite_split
def m7:=@typeLookup_type
def nE:=@PySem.F.plain_extend_loop
def nF:=@Classical.byContradiction
def nJ:=@wpAny_Call_Name_kw
def nK:=@tupleKind_room_in1
def nW:=@of_decide_eq_false
def om:=@decide_eq_true_iff
def ox:=@PySem.F.type_tuple_index
def oy:=@PySem.F.type_list_extend
def oA:=@PySem.F.slot_tuple_index
def oB:=@PySem.F.slot_list_extend
def oC:=@PySem.F.plainAttrs_tuple
def oE:=@PySem.F.args_tuple_add_2
def oF:=@PySem.F.args_dict_keyiterator_next_1
def oG:=@PyProof.Rows.F.entry_set_update_loop
def oH:=@PySem.Obj.data_mapFields
def oI:=@Nat.add_zero
def oJ:=@List.getElem?_take_of_lt
def oK:=@Int.zero_mul
def oM:=@PySem.Code.quiet_builtin
def oO:=@Array.forIn_toList
def oP:=@typeIs_str
def oZ:=@PySem.F.entry_dict_keyiterator_next
def o6:=@Iff.rfl
def ph:=@PySem.F.entry_tuple_add
def pk:=@PySem.F.args_dict_get_3
def pA:=@wpAny_storeSet_of
def pB:=@wpAny_setState_of
def pC:=@wpAny_pyIter_slot
def pD:=@wpAny_pyIter_list
def pK:=@Nat.lt_of_succ_lt
def pM:=@Nat.le_succ_of_le
def pN:=@List.map_inj_left
def pO:=@List.flatMap_cons
def pP:=@List.ext_getElem?
def pQ:=@PySem.Heap.SameBut.refl
def pS:=@wpAny_isOneOf_itemiter
def pY:=@PySem.F.slot_tuple_add
def pZ:=@PySem.F.entry_dict_get
def qb:=@Nat.mul_add
def qe:=@wpAny_newList
def qj:=@PySem.W.mg_of
def qD:=@List.not_mem_nil
def qE:=@List.mem_flatten
def qF:=@List.map_reverse
def qG:=@List.ext_getElem
def qX:=@List.Perm.append_left
def qZ:=@List.eraseIdx_eq_take_drop_succ
def q9:=@wpAny_execs_nil
def rJ:=@post_val_or_str
def rK:=@PyProof.Rows.plain_sorted
def si:=@PyProof.Rows.entry_sorted
def su:=@call_meetsIn
def sv:=@beq_iff_eq
def sA:=@PyProof.Rows.args_sorted1
def sC:=@PySem.Txt.slice_le
def sD:=@Nat.succ_pos
def sE:=@Nat.mod_lt
def sH:=@List.find?_some
def sI:=@Int.zero_add
def sL:=@Array.toList_extract
def sM:=@List.eq_nil_of_length_eq_zero
def sT:=@PyProof.Rows.entry_tuple_getitem
def sX:=@PySem.W.plainGet_of
def sY:=@List.length_reverse
def sZ:=@PySem.F.plain_extend_loop
def tm:=@PyProof.Rows.slicePart_none
def tU:=@and_congr_left
def tW:=@PySem.F.slot_dict_setdefault
def tX:=@PySem.F.slot_dict_items_iter
def tY:=@List.dropLast_concat_getLast
def t4:=@PySem.F.args_tuple_iterator_next_1
def t6:=@Bool.false_and
def uh:=@PyProof.Rows.kind_sorted
def uv:=@wpAny_pyIter_tuple
def uA:=@putSet_of
def uM:=@PyProof.Rows.assignInOrder_cons
def uN:=@PyProof.Rows.args_tuple_getitem
def uO:=@PySem.W.callWith_K
def uQ:=@List.mem_filterMap
def uR:=@List.map_singleton
def uS:=@List.getElem?_take
def uT:=@List.filterMap_map
def uW:=@PySem.F.entry_tuple_iterator_next
def uX:=@wpAny_standAt
def u5:=@PyProof.Rows.listUpdate_at
def vd:=@Nat.add_assoc
def ve:=@List.take_subset_take_left
def vf:=@Int.fdiv_eq_ediv_of_nonneg
def vg:=@PySem.Calls.Name_function_global
def vh:=@Array.perm_iff_toList_perm
def vj:=@wpAny_sequenceKey
def vk:=@wpAny_Call_method
def vB:=@Nat.mul_left_comm
def vC:=@List.reverse_perm
def vD:=@List.reverse_cons
def vE:=@List.drop_sublist
def vG:=@Function.comp_def
def vH:=@Array.size_append
def vI:=@wpAny_letOwnedTupleGo_zip
def vU:=@call_meets
def vX:=@PySem.F.entry_extend_loop
def v3:=@Decidable.byContradiction
def wb:=@wpAny_askSetting
def wA:=@noFill_tuple_add
def wO:=@beq_self_eq_true
def wX:=@PySem.F.slot_dict_update
def wY:=@Nat.zero_add
def wZ:=@Nat.succ_le_succ
def w4:=@List.lookup_cons
def w5:=@List.getElem_zip
def w6:=@Int.add_zero
def xb:=@Array.toList_inj
def xc:=@Array.getElem?_replicate
def xf:=@meetsH_dict_get_default
def xg:=@decide_eq_false_iff_not
def xh:=@PySem.F.slot_dict_items
def xi:=@List.pairwise_mergeSort
def xj:=@List.lookup_eq_some_iff
def xk:=@List.getElem?_replicate
def xm:=@List.getElem?_cons_succ
def xn:=@List.filter_cons_of_neg
def xo:=@List.append_cancel_left
def xp:=@List.Pairwise.filterMap
def xy:=@size_of_entries
def xY:=@PyProof.Rows.entry_list_sort
def yf:=@PyProof.Rows.IsTup.new
def yg:=@wpAny_Assign_Subscript
def yi:=@PyProof.Rows.subscriptTail_builtinR
def yk:=@PyProof.Rows.seqEpoch_at
def yy:=@PySem.W.cellsFrom_some
def yz:=@PySem.F.slot_dict_iter
def yB:=@PySem.Paired.snoc
def yC:=@Nat.mod_mul
def yD:=@List.range_succ_eq_map
def yE:=@List.pairwise_lt_range
def yF:=@List.not_of_lt_findIdx
def yG:=@List.getElem?_set_self
def yH:=@List.Perm.append_right
def yI:=@wpAny_isTrue_Compare1
def yJ:=@wpAny_isOneOf_keyiter
def yK:=@wpAny_eqIsQuiet_tuple
def yR:=@PyProof.Rows.slot_list_sort
def zg:=@isSubtype_type
def zi:=@if_true
def zA:=@entryFor_alias
def zE:=@PyProof.Rows.args_list_sort
def zF:=@PySem.F.type_dict_get
def zG:=@PySem.F.plain_set_new
def zH:=@PySem.Obj.isFreed_of_fields
def zI:=@List.take_zero
def zJ:=@List.pairwise_flatMap
def zN:=@Classical.choose_spec
def zO:=@Bool.and_false
def zQ:=@wpAny_pyIter_keyiter
def AJ:=@codeAny_call_builtin
def AX:=@PyProof.Rows.Subscript_
def AZ:=@PySem.Obj.data_mapDictKeys
def A0:=@Nat.not_lt
def A1:=@List.getElem?_set_ne
def A2:=@PySem.Heap.get?_none_of_le
def A3:=@PySem.F.args_object_init_3
def A4:=@PySem.F.args_list_extend_2
def A5:=@PySem.F.args_list_append_2
def A7:=@Array.toList_reverse
def A8:=@PyProof.Rows.tupleItemsOf_
def A9:=@seq_tuple_add
def Bj:=@Bool.or_false
def Bk:=@wpAny_dictSet_pairs
def Bn:=@PyProof.Rows.lt_str
def Bo:=@List.mergeSort_perm
def Bp:=@PySem.Heap.get?_update_ne
def Bq:=@PySem.F.entry_list_extend
def Br:=@PySem.F.entry_list_append
def Bt:=@wpAny_setItem_heap
def Bu:=@wpAny_getItem_heap
def Bv:=@wpAny_eqBool_tuple
def BB:=@sub_AttributeError
def BF:=@seqIndex_neg
def Cj:=@exists_congr
def Cp:=@concat_meets
def CB:=@PySem.SeqAt.EqAt.str_str
def CC:=@PySem.SeqAt.EqAt.str_int
def CD:=@PySem.SeqAt.EqAt.int_str
def CF:=@PySem.SeqAt.EqAt.int_int
def CG:=@PySem.F.called_set
def CI:=@Nat.le_of_eq
def CJ:=@List.singleton_inj
def CK:=@List.getElem?_drop
def CL:=@List.countP_append
def CM:=@List.any_map
def CN:=@Int.mul_zero
def CO:=@PySem.Heap.IsSliceOf.new
def CP:=@PySem.F.slot_list_extend
def CQ:=@PySem.F.slot_list_append
def CV:=@Array.size_extract
def Dg:=@wpAny_pyIter_enum
def Dh:=@wpAny_assign_Name
def Dm:=@eqIsQuiet_byValue
def Ds:=@bne_self_eq_false
def Du:=@PyProof.Rows.assignInOrder_nil
def Dw:=@list_append
def Dx:=@PySem.W.kitx_list
def Dy:=@PySem.W.kitx_dict
def Dz:=@PySem.Obj.cls_mapFields
def DA:=@List.zip_nil_left
def DB:=@List.take_sublist
def DC:=@List.foldl_append
def DD:=@Bool.not_eq_true'
def DE:=@wpAny_of_eq
def DF:=@wpAny_mkInt
def DI:=@seqIndex_of
def Es:=@Nat.add_mul
def Et:=@Int.mul_one
def Eu:=@Int.le_refl
def EI:=@or_false
def Fb:=@Prod.ext
def Fe:=@wpAny_load
def Ff:=@wpAny_call
def Fg:=@wpAny_Name
def Fj:=@PyProof.Rows.vals2
def Gx:=@PyProof.Rows.Call_
end
namespace L2
open PySem PySem.Spec PyProof.Rows
abbrev Key:=Sum Int Str
def Az:Key->Value->Bool
 | .inl k,v=>Value.isInt k v
 | .inr x,v=>Value.isStrOf x v
def ael(w:World):Key->Int
 | .inl k=>hashInt k
 | .inr x=>hashStr w x
theorem iB:∀{k:Key}{v:Value},Az k v=true->(∃i t,k=Sum.inl i/\v=Value.int i t)\/(∃x t,k=Sum.inr x/\v=Value.str x t)
 | .inl i,v,h=>by obtain⟨t,e⟩:=Value.isInt_shape h;exact .inl ⟨i,t,rfl,e⟩
 | .inr x,v,h=>by obtain⟨t,e⟩:=Value.isStrOf_shape h;exact .inr ⟨x,t,rfl,e⟩
def Sv(i:Int)(t:Tok):Az (.inl i) (.int i t)=true:=by simp[Az,Value.isInt]
def Su(x:Str)(t:Tok):Az (.inr x) (.str x t)=true:=by simp[Az,Value.isStrOf]
def abE(a b:Int):decide ((Sum.inl a:Key)=Sum.inl b)=(a==b):=by
 by_cases e:a=b
 ·subst e;simp
 ·have h:¬(Sum.inl a:Key)=Sum.inl b:=λq=>e (Sum.inl.inj q);rw[bB h];exact(fT.mpr e).symm
def abB(a b:Str):decide ((Sum.inr a:Key)=Sum.inr b)=decide (a=b):=by
 by_cases e:a=b
 ·subst e;simp
 ·have h:¬(Sum.inr a:Key)=Sum.inr b:=λq=>e (Sum.inr.inj q);rw[bB h,bB e]
def abD(a:Int)(b:Str):decide ((Sum.inl a:Key)=Sum.inr b)=false:=bB (λq=>nomatch q)
def abC(a:Str)(b:Int):decide ((Sum.inr a:Key)=Sum.inl b)=false:=bB (λq=>nomatch q)
noncomputable def bW(prog:Program)(w:World):PySem.KeyKind prog w Key where
 is:=Az
 hash:=ael w
 inj:=λv a b ha hb=>by
  rcases iB ha with⟨i,t,rfl,rfl⟩|⟨x,t,rfl,rfl⟩
  ·rcases iB hb with⟨j,u,rfl,e⟩|⟨y,u,rfl,e⟩
   ·injection e with e1 _;rw[e1]
   ·exact nomatch e
  ·rcases iB hb with⟨j,u,rfl,e⟩|⟨y,u,rfl,e⟩
   ·exact nomatch e
   ·injection e with e1 _;rw[e1]
 byValue:=λk v h=>by rcases iB h with⟨i,t,rfl,rfl⟩|⟨x,t,rfl,rfl⟩<;>rfl
 pyHash:=λhv h=>by
  rcases iB hv with⟨i,t,rfl,rfl⟩|⟨x,t,rfl,rfl⟩
  ·exact wpAny_pyHash_int h
  ·exact wpAny_pyHash_str h
 eqBool:=λhu hv h=>by
  rcases iB hu with⟨i,t,rfl,rfl⟩|⟨x,t,rfl,rfl⟩
  ·rcases iB hv with⟨j,u,rfl,rfl⟩|⟨y,u,rfl,rfl⟩
   ·rw[abE]at h;exact wpAny_eqBool_int h
   ·rw[abD]at h;exact CD i t y u _ _ _ _ h
  ·rcases iB hv with⟨j,u,rfl,rfl⟩|⟨y,u,rfl,rfl⟩
   ·rw[abC]at h;exact CC x t j u _ _ _ _ h
   ·rw[abB]at h;exact wpAny_eqBool_str h
 «strs»:=λk x t v h=>by
  rcases iB h with⟨i,u,rfl,e⟩|⟨y,u,rfl,e⟩
  ·exact nomatch e
  ·injection e with e1 _;subst e1;cases v<;>rfl
def MF(prog:Program)(w:World)(i:Int)(t:Tok):(bW prog w).is (.inl i) (.int i t)=true:=Sv i t
def DR(prog:Program)(w:World)(x:Str)(t:Tok):(bW prog w).is (.inr x) (.str x t)=true:=Su x t
inductive V where
 |cR|bl (b:Bool)|int (i:Int)|str (x:Str)|vA (b:Array UInt8)|LU (b:UInt64)|ref (a:Addr)|ty (n:String)
 deriving DecidableEq
abbrev Aak:=List (V×V)
abbrev Aam:=List V
abbrev Aan:=Option V
def RelV:V->Value->Prop
 | .cR,u=>u=Value.none
 | .bl b,u=>u=Value.bool b
 | .int i,u=>∃t,u=Value.int i t
 | .str x,u=>∃t,u=Value.str x t
 | .vA b,u=>∃t,u=Value.bytes b t
 | .LU b,u=>∃t,u=Value.float b t
 | .ref a,u=>u=Value.ref a
 | .ty n,u=>u=Value.type n
abbrev Vals:Aam->Aae->Prop:=Paired RelV
def Vals.length(r:Vals xs us):xs.length=us.length:=bh r
theorem Vals.get:∀{xs:Aam}{us:Aae}{i:Nat}{x:V},Vals xs us->xs[i]?=some x->∃u,us[i]?=some u/\RelV x u
 |_,_,_,_,.nil,e=>by simp at e
 |_,_,0,_,.cons r _,e=>by simp at e;subst e;exact⟨_,rfl,r⟩
 |_,_,i+1,x,.cons _ t,e=>by obtain⟨u,h1,h2⟩:=Vals.get (i:=i) (x:=x) t (by simpa using e);exact{u,by simpa using h1,h2}
theorem Vals.set(r:RelV x u):∀{xs:Aam}{us:Aae}(i:Nat),Vals xs us->Vals (xs.set i x) (us.set i u)
 |_,_,_,.nil=>.nil
 |_,_,0,.cons _ t=>.cons r t
 |_,_,i+1,.cons q t=>.cons q (Vals.set r i t)
theorem Vals.append:∀{xs ys:Aam}{us ws:Aae},Vals xs us->Vals ys ws->Vals (xs++ys) (us++ws)
 |_,_,_,_,.nil,s=>s
 |_,_,_,_,.cons r t,s=>.cons r (Vals.append t s)
theorem Vals.take:∀{xs:Aam}{us:Aae}(n:Nat),Vals xs us->Vals (xs.take n) (us.take n)
 |_,_,0,_=>.nil
 |_,_,_+1,.nil=>.nil
 |_,_,n+1,.cons r t=>.cons r (Vals.take n t)
theorem Vals.drop:∀{xs:Aam}{us:Aae}(n:Nat),Vals xs us->Vals (xs.drop n) (us.drop n)
 |_,_,0,r=>r
 |_,_,_+1,.nil=>.nil
 |_,_,n+1,.cons _ t=>Vals.drop n t
def lU:Aan->Option Value->Prop
 |some v,some u=>RelV v u
 |none,none=>True
 |_,_=>False
def KV:List (κ×V)->List (κ×Value)->Prop:=Paired λ(p:κ×V)(q:κ×Value)=>p.1=q.1/\RelV p.2 q.2
def kV:Key->V
 | .inl i=>.int i
 | .inr x=>.str x
inductive HO where
 |lst (xs:Aam)
 |tup (xs:Aam)
 |dK (kvs:List (Key×V))|dT (kvs:List (List Key×V))
 |set (S:Int->Bool) (n:Nat)
 |ins (C dx:Addr) (fs:List (Str×V))
 |own (x:Addr)
 |xd (fs:List (Str×V))
 |met (f x:Addr)
 |rng (lo hi:Int)
 |fg (o:Obj) (u:HO)
 |JM (ps:Aaj)
 |ext (φ:Heap->Prop)
abbrev Hp:=Addr->Option HO
def upd(H:Hp)(a:Addr)(o:HO):Hp:=λb=>if b=a then some o else H b
def au:upd H a o a=some o:=by unfold upd;rw[aG rfl]
def ay(h:b≠a):upd H a o b=H b:=by unfold upd;rw[aw h]
def Nc:upd (upd H a o) a u=upd H a u:=by funext b;unfold upd;split<;>rfl
def oU{H:Hp}(h:H a=some o)(h':H b=some u)(d:o≠u):a≠b:=by intro e;subst e;rw[h]at h';exact d (bJ h')
def aZ{H:Hp}(h:H a=some o)(h':H b=none):a≠b:=by intro e;subst e;rw[h]at h';cases h'
section
variable(P:Program)(w:World)
noncomputable def dE(H:Hp)(h:Heap)(a:Addr):HO->Prop
 | .lst xs=>xs.length<=sizeLine/\∃(aS:Aae)(n:Nat),Vals xs aS/\h.get? a=some {cls:=.type "list",data:=.seq aS.toArray n}
 | .tup xs=>xs.length<=sizeLine/\∃aS:Aae,Vals xs aS/\IsTup h a aS.toArray/\∃o,h.get? a=some o/\o.dict=none
 | .dK kvs=>kvs.length<=sizeLine/\(a==sysModules)=false/\∃vs,KV kvs vs/\h.DictOf (bW P w) a vs
 | .dT kvs=>kvs.length<=sizeLine/\(a==sysModules)=false/\∃xs:List (List Key×Addr×Value),
   Paired (λ(p:List Key×V)(q:List Key×Addr×Value)=>p.1=q.1/\H q.2.1=some (.tup (p.1.map kV))/\RelV p.2 q.2.2) kvs xs/\
   ∃o es ep,h.get? a=some o/\o.ExactDict/\o.data=.dict es ep/\es.toList=xs.map (entryOfKey (tupleKind (bW P w)))/\(xs.map (·.1)).Nodup
 | .set S n=>h.SetOf (intKind P w) a S n
 | .ins C dx fs=>H dx=some (.own a)/\fs.length<=1000/\dx≠a/\h.get? a=some (instObj C dx)/\
   ∃mA,h.Ns1 dx mA/\(∀f,lU (fs.lookup f) (mA f))/\PySem.Within mA (fs.map (·.1))
 | .own _=>∃o,h.get? a=some o
 | .xd fs=>∃mA,h.Ns1 a mA/\∀f,lU (fs.lookup f) (mA f)
 | .rng lo hi=>∃t u v,h.get? a=some {cls:=.type "range",data:=.fields #[.int lo t,.int hi u,.int 1 v]}
 | .fg o u=>h.get? a=some o/\dE H h a u
 | .JM ps=>h.get? a=some {cls:=.none,data:=.fields ps}
 | .met f x=>h.get? a=some (PySem.W.methodObj (.ref f) (.ref x))
 | .ext φ=>φ h/\(∃o,h.get? a=some o)/\∀h1 h2:Heap,φ h1->(∀o,h1.get? a=some o->h2.get? a=some o)->φ h2
def ko(H:Hp)(h:Heap):Prop:=∀a o,H a=some o->dE P w H h a o
end
section
variable{P:Program}{w:World}{H H':Hp}{h h':Heap}{a:Addr}{o:HO}
def dE.lt(x:dE P w H h a o):a<h.objs.size:=by
 cases o with
 |lst xs=>obtain⟨_,_,_,_,e⟩:=x;exact aF e
 |tup xs=>obtain⟨_,_,_,p,_⟩:=x;exact p.lt
 |dK kvs=>obtain⟨_,_,_,_,o,_,_,e,_⟩:=x;exact aF e
 |dT kvs=>obtain⟨_,_,_,_,o,_,_,e,_⟩:=x;exact aF e
 |set S n=>obtain⟨o,_,_,_,e,_⟩:=x;exact aF e
 |ins C dx fs=>obtain⟨_,_,_,e,_⟩:=x;exact aF e
 |own y=>obtain⟨_,e⟩:=x;exact aF e
 |xd fs=>obtain⟨_,⟨_,_,_,e,_⟩,_⟩:=x;exact aF e
 |rng lo hi=>obtain⟨_,_,_,e⟩:=x;exact aF e
 |fg ob u=>obtain⟨e,_⟩:=x;exact aF e
 |JM ps=>exact aF (show h.get? a=some _ from x)
 |met f y=>exact aF (show h.get? a=some _ from x)
 |ext φ=>obtain⟨_,⟨_,e⟩,_⟩:=x;exact aF e
theorem Paired.u4:∀{aad:List α}{aac:List β},Paired F aad aac->(∀a b,F a b->G a b)->Paired G aad aac
 |_,_,.nil,_=>.nil
 |_,_,.cons r t,f=>.cons (f _ _ r) (Paired.u4 t f)
def Paired.imp'(f:∀a b,F a b->G a b)(r:Paired F aad aac):Paired G aad aac:=Paired.u4 r f
def dE.kJ(x:dE P w H h a o)(k:∀b u,(b=a\/H b=some (.own a))->h.get? b=some u->h'.get? b=some u)
  (ho:∀b,H b=some (.own a)->H' b=some (.own a)) (ht:∀b xs,H b=some (.tup xs)->H' b=some (.tup xs)):dE P w H' h' a o:=by
 induction o with
 |lst xs=>obtain⟨z,aS,n,r,e⟩:=x;exact{z,aS,n,r,k _ _ (.inl rfl) e}
 |tup xs=>obtain⟨z,aS,r,⟨ob,e,c⟩,o2,e2,c2⟩:=x;exact{z,aS,r,{ob,k _ _ (.inl rfl) e,c},o2,k _ _ (.inl rfl) e2,c2}
 |dK kvs=>obtain⟨z,y,vs,r,ob,es,ep,e,c⟩:=x;exact{z,y,vs,r,ob,es,ep,k _ _ (.inl rfl) e,c}
 |dT kvs=>
  obtain⟨z,y,xs,r,ob,es,ep,e,c⟩:=x;exact{z,y,xs,Paired.u4 r λp q z=>{z.1,ht _ _ z.2.1,z.2.2},ob,es,ep,k _ _ (.inl rfl) e,c}
 |set S n=>obtain⟨ob,es,ep,t,e,c⟩:=x;exact{ob,es,ep,t,k _ _ (.inl rfl) e,c}
 |ins C dx fs=>
  obtain⟨d,z,ne,e,mA,⟨od,es,ep,e2,c⟩,r⟩:=x;exact{ho _ d,z,ne,k _ _ (.inl rfl) e,mA,{od,es,ep,k _ _ (.inr d) e2,c},r}
 |own y=>obtain⟨ob,e⟩:=x;exact{ob,k _ _ (.inl rfl) e}
 |xd fs=>obtain⟨mA,⟨od,es,ep,e,c⟩,r⟩:=x;exact{mA,{od,es,ep,k _ _ (.inl rfl) e,c},r}
 |rng lo hi=>obtain⟨t,u,v,e⟩:=x;exact{t,u,v,k _ _ (.inl rfl) e}
 |fg ob u ih=>obtain⟨e,q⟩:=x;exact{k _ _ (.inl rfl) e,ih q}
 |JM ps=>
  exact k a _ (.inl rfl) x
 |met f y=>
  exact k a _ (.inl rfl) x
 |ext φ=>obtain⟨p,⟨o,e⟩,st⟩:=x;exact{st _ _ p λo q=>k _ _ (.inl rfl) q,{o,k _ _ (.inl rfl) e},st}
def ko.lt(x:ko P w H h)(e:H a=some o):a<h.objs.size:=(x a o e).lt
def ko.fresh(x:ko P w H h)(e:h.objs.size<=a):H a=none:=by
 cases q:H a with
 |none=>rfl
 |some u=>exact absurd (ba (x.lt q) e) (dP _)
def ko.kept(x:ko P w H h)(k:∀b u,h.get? b=some u->h'.get? b=some u):ko P w H h':=λa o e=>
 (x a o e).kJ (λb u _ q=>k b u q) (λ_ q=>q) λ_ _ q=>q
def ko.laid(x:ko P w H h)(k:∀b u,h.get? b=some u->h'.get? b=some u)(hp:h.objs.size<=a)(new:dE P w (upd H a o) h' a o):ko P w (upd H a o) h':=λb u e=>by
 have hn:=x.fresh hp;by_cases hb:b=a
 ·subst hb;rw[au]at e;cases e;exact new
 ·rw[ay hb]at e;exact(x b u e).kJ (λc v _ q=>k c v q) (λc q=>by rw[ay (aZ q hn)];exact q) λc xs q=>by rw[ay (aZ q hn)];exact q
end
def Rd(H:Hp)(a:Addr)(u:HO):Prop:=H a=some u\/∃o,H a=some (.fg o u)
def Rd.ok(r:Rd H a u)(x:ko P w H h):dE P w H h a u:=by
 rcases r with r|⟨o,r⟩
 ·exact x a u r
 ·obtain⟨_,q⟩:=x a _ r;exact q
def Uv:Option HO->Prop
 |some (.lst _)=>True
 |some (.dK _)=>True
 |some (.dT _)=>True
 |some (.set _ _)=>True
 |some (.ins _ _ _)=>True
 |some (.ext _)=>True
 |_=>False
section
variable{P:Program}{w:World}{H:Hp}{h h':Heap}{x e:Addr}{o':HO}
def ko.write(ok:ko P w H h)(mu:Uv (H x))(he:e=x\/H e=some (.own x))(k:∀b u,b≠e->h.get? b=some u->h'.get? b=some u)(Oq:∃u,h'.get? e=some u)
  (new:dE P w (upd H x o') h' x o'):ko P w (upd H x o') h':=λb u q=>by
 have abn:∀c y,H c=some (.own y)->c≠x:=λc y r z=>by subst z;rw[r]at mu;exact mu
 by_cases hb:b=x
 ·subst hb;rw[au]at q;cases q;exact new
 ·rw[ay hb]at q;by_cases LL:b=e
  ·have q':H b=some (.own x):=by
    rcases he with z|z
    ·exact absurd (LL.trans z) hb
    ·rw[LL];exact z
   rw[q]at q';cases q';obtain⟨v,hv⟩:=Oq;exact{v,LL▸hv}
  ·refine(ok b u q).kJ (λc v hc r=>k c v ?_ r) (λc r=>by rw[ay (abn c b r)];exact r) λc xs r=>by rw[ay ((λc xs r z=>by subst z;rw[r]at mu;exact mu) c xs r)];exact r
   rcases hc with rfl|hc
   ·exact LL
   ·rintro rfl;rcases he with z|z
    ·exact abn c b hc z
    ·rw[hc]at z;cases z;exact hb rfl
end
structure Un(fs ex:Aah)(H H':Hp)(h h':Heap):Prop where
 keep:∀b o,h.get? b=some o->H b=none->b∉fs->b∉ex->h'.get? b=some o
 slot:∀b o,h.get? b=some o->H b=none->b∈fs->b∉ex->∃sl,h'.get? b=some {o with slots:=sl}
 free:∀b o,h.get? b=some o->H b=none->b∉ex->H' b=none
 there:∀b o,h.get? b=some o->b∉ex->∃o',h'.get? b=some o'
 lH:∀b xs,H b=some (.tup xs)->H' b=some (.tup xs)
 u6:∀b o u,H b=some (.fg o u)->H' b=some (.fg o u)
 zT:∀b ps,H b=some (.JM ps)->∃more,H' b=some (.JM (ps++more))
section
variable{fs ex:Aah}{H H1:Hp}{h h1 h':Heap}{a x e:Addr}{o:HO}
def Un.any(u:Un fs ex H H1 h h1)(q:h.get? b=some ob)(n:H b=none)(hx:b∉ex):∃sl,h1.get? b=some {ob with slots:=sl}:=by
 by_cases hb:b∈fs
 ·exact u.slot b ob q n hb hx
 ·exact{ob.slots,u.keep b ob q n hb hx}
def Un.kept(k:∀b u,h.get? b=some u->h'.get? b=some u):Un fs ex H H h h':=
 {λb ob q _ _ _=>k b ob q,λb ob q _ _ _=>{ob.slots,k b ob q},λ_ _ _ n _=>n,λb ob q _=>{ob,k b ob q},λ_ _ q=>q,λ_ _ _ q=>q,λ_ ps q=>{#[],by rw[q];simp}}
def Un.refl:Un fs ex H H h h:=Un.kept λ_ _ q=>q
def Un.laid(k:∀b u,h.get? b=some u->h'.get? b=some u)(hp:h.objs.size<=a)(hn:H a=none):Un fs ex H (upd H a o) h h' where
 keep:=λb u q _ _ _=>k b u q
 slot:=λb u q _ _ _=>{u.slots,k b u q}
 free:=λb u q n _=>by rw[ay (aI (ba (aF q) hp))];exact n
 there:=λb u q _=>{u,k b u q}
 lH:=λb xs q=>by rw[ay (aZ q hn)];exact q
 u6:=λb u xs q=>by rw[ay (aZ q hn)];exact q
 zT:=λb ps q=>{#[],by rw[ay (aZ q hn),q];simp}
def Un.write(mu:Uv (H x))(he:e=x\/H e=some (.own x))(k:∀b u,b≠e->h.get? b=some u->h'.get? b=some u)(Oq:∃u,h'.get? e=some u):Un fs ex H (upd H x o) h h':=by
 have hx:∀b,H b=none->b≠x:=λb n z=>by subst z;rw[n]at mu;exact mu
 have hb:∀b,H b=none->b≠e:=λb n z=>by
  subst z;rcases he with r|r
  ·exact hx b n r
  ·rw[n]at r;cases r
 have hm:∀b u,H b=some u->¬Uv (some u)->b≠x:=λb u q nm z=>by subst z;rw[q]at mu;exact nm mu
 refine{λb u q n _ _=>k b u (hb b n) q,λb u q n _ _=>{u.slots,k b u (hb b n) q},λb u q n _=>by rw[ay (hx b n)];exact n,λb u q _=>?_,
  λb xs q=>by rw[ay (hm b _ q λz=>z)];exact q,λb u xs q=>by rw[ay (hm b _ q λz=>z)];exact q,λb ps q=>{#[],by rw[ay (hm b _ q λz=>z),q];simp}}
 by_cases LL:b=e
 ·subst LL;exact Oq
 ·exact{u,k b u LL q}
end
def trk(h:Heap)(H:Hp):Aah:=(List.range h.objs.size).filter λa=>(H a).isSome
def ET(h:Heap)(H:Hp):Heap:=PySem.W.hideAll h (trk h H)
def S9(h:Heap)(H:Hp):(ET h H).objs.size=h.objs.size:=PySem.W.hideAll_size _ _
def Wf(e:h.get? b=some o)(n:H b=none):(ET h H).get? b=some o:=
 PySem.W.hideAll_get _ e λhm=>by have q:=(bQ.mp hm).2;rw[n]at q;simp at q
def ZG(e:(ET h H).get? b=some o):h.get? b=some o/\H b=none:=by
 have e':=PySem.W.of_hideAll (trk h H) e;refine{e',?_};cases q:H b with
 |none=>rfl
 |some x=>
  have z:(ET h H).get? b=none:=PySem.W.hideAll_none (trk h H) (bQ.mpr {dv.mpr (aF e'),by simp[q]});rw[z]at e;cases e
def aan(g h:Heap)(L:Addr):Aaa:=(List.range h.objs.size).filterMap λa=>if a=L\/(g.get? a).isSome=true then none else(h.get? a).map λo=>(a,o)
def rest(g h:Heap)(L d:Addr):Aaa:=(aan g h L).filter λp=>decide (p.1≠d)
structure Mod(K:Frag)(mg:Aab)(base:Heap):Prop where
 Sq:K.In base
 glob:base.Ns mainGlobals mg
 blt:∃mb,base.Ns builtinsNs mb/\∀x:Str,x≠"__name__"->mb x=bootBuiltins x
 nolimit:base.NoLimit
structure Cx where
 prog:Program
 w:World
 K:Frag
 mg:Aab
 base:Heap
 A:Around
 N:Aaf
 aab:Shared
 aaf:Hp
 env:Env
 outer:List Env
 stack:List Env
 ex:Aah
 fn:Str->Bool
 calm:Bool
 pn:Aaa
 xe:Aac
def Ci(l:List Env):Aah:=l.filterMap (·.frame)
abbrev Cx.fs(X:Cx):Aah:=Ci X.outer
def Vis(sc:Scope)(x:Str):Prop:=sc.names.lookup x=some .local\/sc.names.lookup x=some .cell\/sc.names.lookup x=some .free
def Loc(sc:Scope)(x:Str):Prop:=sc.names.lookup x=some .local\/sc.names.lookup x=some .cell
def Look(env:Env)(h:Heap)(m:Aab)(x:Str)(u:Value):Prop:=
 (env.kindOf x=some .local/\m x=some u)\/((env.kindOf x=some .cell\/env.kindOf x=some .free)/\∃c,env.cells.lookup x=some c/\h.IsCell c (some u))
structure Cx.Ok(X:Cx):Prop where
 mod:Mod X.K X.mg X.base
 kind:X.env.scope.kind=.function
 glob:X.env.globals=mainGlobals
 blt:X.env.builtins=builtinsNs
 above:X.aab.heap.objs.size<=X.env.locals
 inj:∀x y c,X.env.cells.lookup x=some c->X.env.cells.lookup y=some c->x=y
 has:∀x,(X.env.kindOf x=some .cell\/X.env.kindOf x=some .free)->∃c,X.env.cells.lookup x=some c
 OK:∀x c,X.fn x=true->X.env.cells.lookup x=some c->X.aab.heap.objs.size<=c
 hd:X.calm=true->X.A.handled=none
 frames:X.A.frames=some X.stack
 QY:X.stack=X.outer\/(X.stack=X.env::X.outer/\X.env.frame=some X.env.locals)
 Tv:∀b∈X.ex,b≠X.env.locals/\∀x c,X.env.cells.lookup x=some c->c≠b
 bs:∀b o,X.base.get? b=some o->X.aab.heap.get? b=some o/\X.aaf b=none
 Em:X.base.objs.size<=X.aab.heap.objs.size
 GZ:∀b o,X.base.get? b=some o->b∉X.ex
 EX:∀b∈X.ex,b∉X.fs
 tN:X.aab.heap.FunFrames X.base X.outer
 IL:∀b∈X.fs,X.aaf b=none
structure Inv(X:Cx)(pins:Aaa)(Z:List (Aan))(H:Hp)(s:Shared):Prop where
 ok:X.Ok
 os:s.os=X.aab.os
 bare:AllBare s.gens
 base:Un X.fs X.ex X.aaf H X.aab.heap s.heap
 loc:∃m,s.heap.Ns X.env.locals m/\∀(i:Nat)(x:Str)(v:V),X.N[i]?=some x->Z[i]?=some (some v)->Vis X.env.scope x->∃u,RelV v u/\Look X.env s.heap m x u
 cell:∀x c,X.env.cells.lookup x=some c->∃v,s.heap.IsCell c v
 free:H X.env.locals=none
 oV:∀x c,X.env.cells.lookup x=some c->H c=none
 pin:∀p∈X.pn++pins,s.heap.get? p.1=some p.2/\H p.1=none/\p.1≠X.env.locals/\p.1∉X.fs/\∀v,p.2.data≠ .cell v
 bj:ko X.prog X.w H s.heap
 len:Z.length=X.N.length
section
variable{X:Cx}{pins:Aaa}{Z:List (Aan)}{H H':Hp}{s:Shared}{h':Heap}
def Cx.Ok.aec(ok:X.Ok)(e:X.base.get? b=some o):b∉X.fs:=λhb=>by have:=(ok.tN.mem hb).1;rw[e]at this;cases this
def Inv.bs(I:Inv X pins Z H s):∀b o,X.base.get? b=some o->s.heap.get? b=some o/\H b=none:=λb o e=>
 {I.base.keep b o (I.ok.bs b o e).1 (I.ok.bs b o e).2 (I.ok.aec e) (I.ok.GZ b o e),I.base.free b o (I.ok.bs b o e).1 (I.ok.bs b o e).2 (I.ok.GZ b o e)}
def Inv.bk(I:Inv X pins Z H s):∀b o,X.base.get? b=some o->s.heap.get? b=some o:=λb o e=>(I.bs b o e).1
def Inv.mod(I:Inv X pins Z H s):Mod X.K X.mg X.base:=I.ok.mod
def Inv.nj(I:Inv X pins Z H s):X.K.In s.heap:=I.ok.mod.Sq.keeps I.bk
def Inv.lt(I:Inv X pins Z H s):X.env.locals<s.heap.objs.size:=let⟨_,hn,_⟩:=I.loc;hn.lt
def Inv.sz(I:Inv X pins Z H s):X.aab.heap.objs.size<=s.heap.objs.size:=aJ I.ok.above (bo I.lt)
def Inv.abo(I:Inv X pins Z H s)(h:s.heap.objs.size<=a):a∉X.fs:=λhb=>by obtain⟨_,o,ho,_⟩:=I.ok.tN.mem hb;exact absurd (ba (aF ho) (aJ I.sz h)) (dP _)
def Inv.L5(I:Inv X pins Z H s):∀x c,X.env.cells.lookup x=some c->c≠X.env.locals:=λx c e z=>by obtain⟨v,o,ho,hd⟩:=I.cell x c e;obtain⟨m,⟨o',es,ep,sQ,sd,_⟩,_⟩:=I.loc;rw[z,sQ]at ho;cases ho;rw[sd]at hd;cases hd
def Inv.tN(I:Inv X pins Z H s):s.heap.FunFrames X.base X.outer:=by
 have all:∀(l:List Env),(∀b∈Ci l,b∈X.fs)->X.aab.heap.FunFrames X.base l->s.heap.FunFrames X.base l:=by
  intro l
  induction l with
  |nil=>intro _ _;trivial
  |cons env r ih=>
   intro hs hl;obtain⟨hk,⟨L,o,hf,hn,ho,hd⟩,hr⟩:=hl;have hL:=hs L (by unfold Ci;rw[fV,hf];exact aA);obtain⟨sl,e⟩:=I.base.slot L o ho (I.ok.IL L hL) hL λz=>I.ok.EX L z hL;exact{hk,⟨L,_,hf,hn,e,hd⟩,ih (λb hb=>hs b (by unfold Ci;rw[fV,hf];exact aB _ hb)) hr}
 exact all X.outer (λ_ hb=>hb) I.ok.tN
def Inv.stack(I:Inv X pins Z H s):s.heap.FunFrames X.base X.stack:=by
 rcases I.ok.QY with e|⟨e,hf⟩
 ·rw[e];exact I.tN
 ·rw[e];obtain⟨m,hn,_⟩:=I.loc;refine .cons (by rw[I.ok.kind];decide) hf hn ?_ I.tN;exact A2 (aJ I.ok.Em I.ok.above)
def Inv.JR(I:Inv X pins Z H s):∀b∈Ci X.stack,b∈X.env.locals::X.fs:=λb hb=>by
 rcases I.ok.QY with e|⟨e,hf⟩
 ·rw[e]at hb;exact aB _ hb
 ·rw[e]at hb;unfold Ci at hb;rw[fV,hf]at hb;exact hb
def Inv.Nu(I:Inv X pins Z H s):∀b∈Ci X.stack,H b=none:=λb hb=>by
 rcases aH.mp (I.JR b hb)with e|hb
 ·rw[e];exact I.free
 ·obtain⟨_,o,ho,_⟩:=I.ok.tN.mem hb;exact I.base.free b o ho (I.ok.IL b hb) λz=>I.ok.EX b z hb
def Inv.step{ch:Aah}(I:Inv X pins Z H s)
  (Ec:∀b∈ch,(b∈X.ex\/X.aab.heap.objs.size<=b)/\b≠X.env.locals/\(∀x c,X.env.cells.lookup x=some c->c≠b)/\∀p∈X.pn++pins,p.1≠b)
  (keep:∀b o,b≠X.env.locals->b∉X.fs->b∉ch->s.heap.get? b=some o->H b=none->h'.get? b=some o)
  (slot:∀b o,b≠X.env.locals->b∈X.fs->b∉ch->s.heap.get? b=some o->H b=none->∃sl,h'.get? b=some {o with slots:=sl}) (free:∀b o,b∉ch->s.heap.get? b=some o->H b=none->H' b=none)
  (there:∀b o,b∉ch->s.heap.get? b=some o->∃o',h'.get? b=some o')
  (lH:∀b xs,H b=some (.tup xs)->H' b=some (.tup xs)) (u6:∀b o u,H b=some (.fg o u)->H' b=some (.fg o u)) (zT:∀b ps,H b=some (.JM ps)->∃more,H' b=some (.JM (ps++more)))
  (ns:∀m,s.heap.Ns X.env.locals m->h'.Ns X.env.locals m) (bj:ko X.prog X.w H' h') (hg:AllBare g'):
  Inv X pins Z H' {s with heap:=h',gens:=g',drawn:=d',toks:=t'}:=by
 have NY:∀b o,X.aab.heap.get? b=some o->b≠X.env.locals:=λb o e=>aI (ba (aF e) I.ok.above);have Xy:∀b o,X.aab.heap.get? b=some o->b∉X.ex->b∉ch:=λb o e hx hb=>by
  rcases(Ec b hb).1 with z|z
  ·exact hx z
  ·exact absurd (ba (aF e) z) (dP _)
 have cellK:∀x c,X.env.cells.lookup x=some c->∀v,s.heap.IsCell c v->h'.IsCell c v:=λx c e v ⟨o,ho,hd⟩=>by
  have R1:=λz=>(Ec c z).2.2.1 x c e rfl;by_cases hc:c∈X.fs
  ·obtain⟨sl,q⟩:=slot c o (I.L5 x c e) hc R1 ho (I.oV x c e);exact⟨_,q,hd⟩
  ·exact{o,keep c o (I.L5 x c e) hc R1 ho (I.oV x c e),hd}
 refine{I.ok,I.os,hg,{λb o e n hb hx=>keep b o (NY b o e) hb (Xy b o e hx) (I.base.keep b o e n hb hx) (I.base.free b o e n hx),λb o e n hb hx=>?_,λb o e n hx=>?_,λb o e hx=>?_,λb xs e=>lH b xs (I.base.lH b xs e),λb o xs e=>u6 b o xs (I.base.u6 b o xs e),λb ps e=>?_},?_,λx c e=>?_,?_,λx c e=>?_,λp hp=>?_,bj,I.len}
 ·obtain⟨sl,e1⟩:=I.base.slot b o e n hb hx;obtain⟨sl',e2⟩:=slot b _ (NY b o e) hb (Xy b o e hx) e1 (I.base.free b o e n hx);exact⟨sl',e2⟩
 ·obtain⟨o',e1⟩:=I.base.there b o e hx;exact free b o' (Xy b o e hx) e1 (I.base.free b o e n hx)
 ·obtain⟨o',e1⟩:=I.base.there b o e hx;exact there b o' (Xy b o e hx) e1
 ·obtain⟨m1,e1⟩:=I.base.zT b ps e;obtain⟨m2,e2⟩:=zT b _ e1;exact{m1++m2,by rw[e2,Array.append_assoc]}
 ·obtain⟨m,hn,hl⟩:=I.loc;refine{m,ns m hn,λi x v e1 e2 e3=>?_};obtain⟨u,r,l⟩:=hl i x v e1 e2 e3;refine{u,r,?_};rcases l with l|⟨k,c,e,z⟩
  ·exact .inl l
  ·exact .inr {k,c,e,cellK x c e _ z}
 ·obtain⟨v,z⟩:=I.cell x c e;exact{v,cellK x c e v z}
 ·obtain⟨m,⟨o,_,_,ho,_⟩,_⟩:=I.loc;exact free _ o (λz=>(Ec _ z).2.1 rfl) ho I.free
 ·obtain⟨v,o,ho,hd⟩:=I.cell x c e;exact free c o (λz=>(Ec c z).2.2.1 x c e rfl) ho (I.oV x c e)
 ·obtain⟨e,n,ne,nf,d⟩:=I.pin p hp;have R1:=λz=>(Ec p.1 z).2.2.2 p hp rfl;exact{keep p.1 p.2 ne nf R1 e n,free p.1 p.2 R1 e n,ne,nf,d}
def Inv.un(I:Inv X pins Z H s)(u:Un X.fs [] H H' s.heap h')(bj:ko X.prog X.w H' h'):Inv X pins Z H' {s with heap:=h',toks:=t'}:=by
 obtain⟨m,⟨o,es,ep,ho,r⟩,_⟩:=id I.loc;obtain⟨sl,hL⟩:=u.any ho I.free (-8);exact I.step (ch:=[]) (λ_ z=>nomatch z) (λb o _ hb _ e n=>u.keep b o e n hb (-8)) (λb o _ hb _ e n=>u.slot b o e n hb (-8)) (λb o _ e n=>u.free b o e n (-8)) (λb o _ e=>u.there b o e (-8)) u.lH u.u6 u.zT (λm' hm=>by obtain⟨o',iZ,wN,sQ,r'⟩:=hm;rw[ho]at sQ;cases sQ;exact⟨_,iZ,wN,hL,r'⟩) bj I.bare
def Inv.call(I:Inv X pins Z H s)(u:Un (Ci X.stack) ch H H' s.heap h')(bj:ko X.prog X.w H' h')(hg:AllBare g')
  (Ec:∀b∈ch,(b∈X.ex\/X.aab.heap.objs.size<=b)/\b≠X.env.locals/\(∀x c,X.env.cells.lookup x=some c->c≠b)/\∀p∈X.pn++pins,p.1≠b):
  Inv X pins Z H' {s with heap:=h',gens:=g',drawn:=d',toks:=t'}:=by
 obtain⟨m,⟨o,es,ep,ho,r⟩,_⟩:=id I.loc;obtain⟨sl,hL⟩:=u.any ho I.free λz=>(Ec _ z).2.1 rfl;exact I.step Ec (λb o hL hb hc e n=>u.keep b o e n (λz=>(aH.mp (I.JR b z)).elim hL hb) hc) (λb o _ _ hc e n=>u.any e n hc) (λb o hc e n=>u.free b o e n hc) (λb o hc e=>u.there b o e hc) u.lH u.u6 u.zT (λm' hm=>by obtain⟨o',iZ,wN,sQ,r'⟩:=hm;rw[ho]at sQ;cases sQ;exact⟨_,iZ,wN,hL,r'⟩) bj hg
def Inv.turned(I:Inv X pins Z H s)(k:∀b o,b≠it->s.heap.get? b=some o->h'.get? b=some o)(hn:H it=none)(hL:it≠X.env.locals)
  (h1:it∈X.ex\/X.aab.heap.objs.size<=it) (h2:∀x c,X.env.cells.lookup x=some c->c≠it) (h3:∀p∈X.pn++pins,p.1≠it):Inv X pins Z H {s with heap:=h',toks:=t'}:=by
 have nit:∀b u,H b=some u->b≠it:=λb u e z=>by rw[z,hn]at e;cases e
 refine I.step (ch:=[it]) (λb hb=>?_) (λb o _ _ hc e _=>k b o (-74) e) (λb o _ _ hc e _=>{o.slots,k b o (-74) e}) (λ_ _ _ _ n=>n)
  (λb o hc e=>{o,k b o (-74) e}) (λ_ _ e=>e) (λ_ _ _ e=>e) (λb ps e=>{#[],by rw[e];simp}) (λm hm=>?_) (λb u e=>?_) I.bare
 ·have e:b=it:=by simpa using hb
  subst e;exact⟨h1,hL,h2,h3⟩
 ·obtain⟨o,es,ep,ho,r⟩:=hm;exact{o,es,ep,k _ o (cB hL) ho,r}
 ·refine(I.bj b u e).kJ (λc v hc q=>k c v ?_ q) (λ_ q=>q) λ_ _ q=>q;rcases hc with z|z
  ·rw[z];exact nit b u e
  ·exact nit c _ z
def Inv.tok(I:Inv X pins Z H s)(t:Nat):Inv X pins Z H {s with toks:=t}:=I.un Un.refl I.bj
def Inv.kept(I:Inv X pins Z H s)(k:∀b u,s.heap.get? b=some u->h'.get? b=some u):Inv X pins Z H {s with heap:=h',toks:=t'}:=I.un (Un.kept k) (I.bj.kept k)
def Inv.laid(I:Inv X pins Z H s)(k:∀b u,s.heap.get? b=some u->h'.get? b=some u)(hp:s.heap.objs.size<=a)(new:dE X.prog X.w (upd H a o) h' a o):
  Inv X pins Z (upd H a o) {s with heap:=h',toks:=t'}:=I.un (Un.laid k hp (I.bj.fresh hp)) (I.bj.laid k hp new)
def Inv.write(I:Inv X pins Z H s)(mu:Uv (H x))(he:e=x\/H e=some (.own x))(k:∀b u,b≠e->s.heap.get? b=some u->h'.get? b=some u)(Oq:∃u,h'.get? e=some u)
  (new:dE X.prog X.w (upd H x o) h' x o):Inv X pins Z (upd H x o) {s with heap:=h',toks:=t'}:=I.un (Un.write mu he k Oq) (I.bj.write mu he k Oq new)
def Inv.yY(I:Inv X pins Z H s)(h:∀p∈ada,s.heap.get? p.1=some p.2/\H p.1=none/\p.1≠X.env.locals/\p.1∉X.fs/\∀v,p.2.data≠ .cell v):Inv X ada Z H s:=
 {I.ok,I.os,I.bare,I.base,I.loc,I.cell,I.free,I.oV,λp hp=>(aP.mp hp).elim (λz=>I.pin p (bH _ z)) (h p),I.bj,I.len}
def K3{N:Aaf}(hN:N.Nodup){i j:Nat}(a:N[i]?=some x)(b:N[j]?=some x):i=j:=by obtain⟨h1,e1⟩:=aq.mp a;obtain⟨h2,e2⟩:=aq.mp b;exact(List.getElem_inj hN).mp (e1.trans e2.symm)
def HG(I:Inv X pins Z H s)(hN:X.N.Nodup)(hi:X.N[i]?=some x)(hx:Loc X.env.scope x)(r:RelV v u)
  (h:∀s',Inv X pins (Z.set i (some v)) H s'->(∃a,Heap.SameBut a s.heap s'.heap/\(a=X.env.locals\/X.env.cells.lookup x=some a))->Q () s') (hf:X.fn x=true\/X.env.scope.names.lookup x=some .local:=by first|exact .inl rfl|exact .inr rfl|assumption):wpAny M A (storeName X.env x u) Q E s:=by
 obtain⟨m,hn,hl⟩:=id I.loc;have hiZ:i<Z.length:=by rw[I.len];exact(aq.mp hi).1
 have L5:=I.L5;have tracked:∀{a:Addr}{h':Heap},(∃o,s.heap.get? a=some o/\H a=none)->Heap.SameBut a s.heap h'->ko X.prog X.w H h':=λ{a h'} ha hs b ob e=>by
  obtain⟨_,_,Yb⟩:=ha;refine(I.bj b ob e).kJ (λc w' hc q=>(hs.2 c ?_).trans q) (λ_ q=>q) λ_ _ q=>q;rintro rfl;rcases hc with rfl|hc
  ·rw[Yb]at e;cases e
  ·rw[Yb]at hc;cases hc
 rcases hx with hk|hk
 ·refine wpAny_storeName_local hk hn (λh' hn' hs=>?_) (by rw[I.ok.kind];rfl);obtain⟨oL,_,_,Cc,_⟩:=id hn;refine h _ {I.ok,I.os,I.bare,{λb o e n hb hx=>(hs.2 b (aI (ba (aF e) I.ok.above))).trans (I.base.keep b o e n hb hx),λb o e n hb hx=>?_,I.base.free,λb o e hx=>?_,I.base.lH,I.base.u6,I.base.zT},{_,hn',λj y v' e1 e2 e3=>?_},λy c e=>?_,I.free,I.oV,λp hp=>?_,tracked {oL,Cc,I.free} hs,by simpa using I.len} {_,hs,.inl rfl}
  ·obtain⟨sl,e1⟩:=I.base.slot b o e n hb hx;exact{sl,(hs.2 b (aI (ba (aF e) I.ok.above))).trans e1}
  ·obtain⟨o',e1⟩:=I.base.there b o e hx;exact{o',(hs.2 b (aI (ba (aF e) I.ok.above))).trans e1}
  ·by_cases hj:j=i
   ·subst hj;rw[hi]at e1;cases e1;rw[yG hiZ]at e2;cases e2;exact{u,r,.inl {hk,by simp}}
   ·rw[A1 (cB hj)]at e2;obtain⟨u',r',q⟩:=hl j y v' e1 e2 e3;refine{u',r',?_};rcases q with⟨k,e⟩|⟨k,c,e,z⟩
    ·refine .inl {k,?_};have:y≠x:=λe=>hj (K3 hN e1 (e▸hi));simp[this,e]
    ·exact .inr {k,c,e,z.sameBut hs (L5 y c e)}
  ·obtain⟨w',z⟩:=I.cell y c e;exact{w',z.sameBut hs (L5 y c e)}
  ·obtain⟨e,n,ne,nf,d⟩:=I.pin p hp;exact{(hs.2 p.1 ne).trans e,n,ne,nf,d}
 ·have hfn:X.fn x=true:=by
   rcases hf with z|z
   ·exact z
   ·rw[z]at hk;cases hk
  obtain⟨c,hc⟩:=I.ok.has x (.inl hk);obtain⟨w',z⟩:=I.cell x c hc;refine wpAny_storeName_cell I.ok.kind hk hc z (λh' Ed hs=>?_);obtain⟨oc,hoc,ae8⟩:=id z;refine h {s with heap:=h'} {I.ok,I.os,I.bare,{λb o e n hb hx=>(hs.2 b (aI (ba (aF e) (I.ok.OK x c hfn hc)))).trans (I.base.keep b o e n hb hx),λb o e n hb hx=>?_,I.base.free,λb o e hx=>?_,I.base.lH,I.base.u6,I.base.zT},{m,hn.sameBut hs (cB (L5 x c hc)),λj y v' e1 e2 e3=>?_},λy c' e=>?_,I.free,I.oV,λp hp=>?_,tracked {oc,hoc,I.oV x c hc} hs,by simpa using I.len} {c,hs,.inr hc}
  ·obtain⟨sl,e1⟩:=I.base.slot b o e n hb hx;exact{sl,(hs.2 b (aI (ba (aF e) (I.ok.OK x c hfn hc)))).trans e1}
  ·obtain⟨o',e1⟩:=I.base.there b o e hx;exact{o',(hs.2 b (aI (ba (aF e) (I.ok.OK x c hfn hc)))).trans e1}
  ·by_cases hj:j=i
   ·subst hj;rw[hi]at e1;cases e1;rw[yG hiZ]at e2;cases e2;exact{u,r,.inr {.inl hk,c,hc,Ed}}
   ·rw[A1 (cB hj)]at e2;obtain⟨u',r',q⟩:=hl j y v' e1 e2 e3;refine{u',r',?_};rcases q with q|⟨k,c',e,z'⟩
    ·exact .inl q
    ·refine .inr {k,c',e,z'.sameBut hs ?_};rintro rfl;exact hj (K3 hN e1 (I.ok.inj _ _ _ e hc▸hi))
  ·by_cases hcc:c'=c
   ·subst hcc;exact⟨_,Ed⟩
   ·obtain⟨w2,z2⟩:=I.cell y c' e;exact{w2,z2.sameBut hs hcc}
  ·obtain⟨e,n,ne,nf,d⟩:=I.pin p hp;refine{(hs.2 p.1 ?_).trans e,n,ne,nf,d};intro q;rw[q,hoc]at e;exact d w' (by rw[<-(bJ e)];exact ae8)
def zV(I:Inv X pins Z H s)(hN:X.N.Nodup)(hi:X.N[i]?=some x)(hx:Loc X.env.scope x)(r:RelV v u)
  (h:∀s',Inv X pins (Z.set i (some v)) H s'->Q () s') (hf:X.fn x=true\/X.env.scope.names.lookup x=some .local:=by first|exact .inl rfl|exact .inr rfl|assumption):wpAny M A (storeName X.env x u) Q E s:=
 HG I hN hi hx r (λs' I' _=>h s' I') hf
def Inv.adP(I:Inv X pins Z H s)(ho:s'.os=s.os)(u:Un (Ci X.stack) ch H H' s.heap s'.heap)(bj:ko X.prog X.w H' s'.heap)(hg:AllBare s'.gens)
  (Ec:∀b∈ch,(b∈X.ex\/X.aab.heap.objs.size<=b)/\b≠X.env.locals/\(∀x c,X.env.cells.lookup x=some c->c≠b)/\∀p∈X.pn++pins,p.1≠b):Inv X pins Z H' s':=by
 obtain⟨h',g',d',t',o'⟩:=s';have e:=ho;subst e;exact I.call u bj hg Ec
abbrev XK:=Value->Aai->Hp->Prop
abbrev St:=List (Aan)
abbrev VK:=V->Hp->Prop
abbrev TE:=St->Hp->VK->Prop
abbrev TT:=St->Hp->(Bool->Hp->Prop)->Prop
abbrev TA:=St->Hp->(Aam->Hp->Prop)->Prop
structure Ends where
 nx:St->Hp->Prop
 rt:VK
 bk:St->Hp->Prop:=λ_ _=>False
 ct:St->Hp->Prop:=λ_ _=>False
abbrev TS:=Ends->St->Hp->Prop
end
inductive EP(X:Cx)(pins:Aaa)(Z:St)(Q:VK)(u:Value)(s':Shared):Prop
 |mk v H' (_:Inv X pins Z H' s') (_:RelV v u) (_:Q v H')
inductive TP(X:Cx)(pins:Aaa)(Z:St)(Q:Bool->Hp->Prop)(b:Bool)(s':Shared):Prop
 |mk H' (_:Inv X pins Z H' s') (_:Q b H')
inductive AP(X:Cx)(pins:Aaa)(Z:St)(Q:Aam->Hp->Prop)(us:Aae)(s':Shared):Prop
 |mk vs H' (_:Inv X pins Z H' s') (_:Vals vs us) (_:Q vs H')
def SP(X:Cx)(pins:Aaa)(D:Ends)(f:Flow)(s':Shared):Prop:=
 match f with
 | .next=>∃σ' H',Inv X pins σ' H' s'/\D.nx σ' H'
 | .brk=>∃σ' H',Inv X pins σ' H' s'/\D.bk σ' H'
 | .cont=>∃σ' H',Inv X pins σ' H' s'/\D.ct σ' H'
 | .ret u=>∃v σ' H',Inv X pins σ' H' s'/\RelV v u/\D.rt v H'
def PE(X:Cx)(e:Expr)(t:TE):Prop:=
 ∀(pins:Aaa)(s:Shared)(Z:St)(H:Hp)(Q:VK),Inv X pins Z H s->t Z H Q->wpAny (-6) X.A (eval e X.env) (EP X pins Z Q) X.xe s
def PT(X:Cx)(e:Expr)(t:TT):Prop:=
 ∀(pins:Aaa)(s:Shared)(Z:St)(H:Hp)(Q:Bool->Hp->Prop),Inv X pins Z H s->t Z H Q->wpAny (-6) X.A (isTrue e X.env (eval e X.env)) (TP X pins Z Q) X.xe s
def PW(X:Cx)(e:Expr)(t:TT):Prop:=
 ∀(whole:Sem Value)(pins:Aaa)(s:Shared)(Z:St)(H:Hp)(Q:Bool->Hp->Prop),Inv X pins Z H s->t Z H Q->wpAny (-6) X.A (isTrue e X.env whole) (TP X pins Z Q) X.xe s
def PW.pt(h:PW X e t):PT X e t:=h _
def PA(X:Cx)(es:List Expr)(t:TA):Prop:=
 ∀(pos:Pos)(pins:Aaa)(s:Shared)(Z:St)(H:Hp)(Q:Aam->Hp->Prop),Inv X pins Z H s->t Z H Q->wpAny (-6) X.A (spliced (-31)) (AP X pins Z Q) X.xe s
def PS(X:Cx)(st:Stmt)(t:TS):Prop:=
 ∀(pins:Aaa)(s:Shared)(Z:St)(H:Hp)(D:Ends),Inv X pins Z H s->t D Z H->wpAny (-6) X.A (exec st X.env) (SP X pins D) X.xe s
def lV(X:Cx)(st:List Stmt)(t:TS):Prop:=
 ∀(pins:Aaa)(s:Shared)(Z:St)(H:Hp)(D:Ends),Inv X pins Z H s->t D Z H->wpAny (-6) X.A (execs st X.env) (SP X pins D) X.xe s
def iR(h:wpAny M A t Q E s)(hQ:∀a s,Q a s->Q' a s):wpAny M A t Q' E s:=dh h hQ λ_ _ x=>x
def dq{X:Cx}{pins:Aaa}{Z:St}{Q:VK}{t:Sem Value}{Q':Aac}{s:Shared}(h:wpAny (-6) X.A t (EP X pins Z Q) X.xe s)(k:∀u s x H,Inv X pins Z H s->RelV x u->Q x H->Q' u s):wpAny (-6) X.A t Q' X.xe s:=iR h λu s ⟨x,H,I,r,q⟩=>k u s x H I r q
def rj{X:Cx}{pins:Aaa}{Z:St}{Q:Aam->Hp->Prop}{t:Sem (Aae)}{Q':Aae->Shared->Prop}{s:Shared}(h:wpAny (-6) X.A t (AP X pins Z Q) X.xe s)(k:∀u s x H,Inv X pins Z H s->Vals x u->Q x H->Q' u s):wpAny (-6) X.A t Q' X.xe s:=iR h λu s ⟨x,H,I,r,q⟩=>k u s x H I r q
def GA{X:Cx}{pins:Aaa}{Z:St}{Q:Bool->Hp->Prop}{t:Sem Bool}{Q':Bool->Shared->Prop}{s:Shared}(h:wpAny (-6) X.A t (TP X pins Z Q) X.xe s)(k:∀u s H,Inv X pins Z H s->Q u H->Q' u s):wpAny (-6) X.A t Q' X.xe s:=iR h λu s ⟨H,I,q⟩=>k u s H I q
section
variable{X:Cx}
inductive GC(i:Nat)(Z:St)(H:Hp)(Q:VK):Prop
 |mk v (_:Z[i]?=some (some v)) (_:Q v H)
def tC(v:V):TE:=λ_ H Q=>Q v H
def abe(hN:X.N[i]?=some x)(hv:Vis X.env.scope x)(hd:(-27)=false:=by decide)(Cg:(x==("__classdict__":Str))=false:=by decide):PE X (.Name x pos) (GC i):=by
 intro pins s Z H Q I h;obtain⟨v,e,h⟩:=h;obtain⟨m,hn,hl⟩:=I.loc;obtain⟨u,r,l⟩:=hl i x v hN e hv;have fin:EP X pins Z Q u s:=⟨v,H,I,r,h⟩;rcases l with⟨hk,hm⟩|⟨hk,c,hc,Yi⟩
 ·exact Fg (wpAny_loadName_local I.ok.kind hk hn hm fin) hd
 ·rcases hk with hk|hk
  ·exact Fg (wpAny_loadName_cell I.ok.kind hk hc Yi fin) hd
  ·exact Fg (wpAny_loadName_free I.ok.kind hk hc Yi fin Cg) hd
def aX{i j pos}:PE X (.Constant (.int i) j pos) (tC (.int i)):=λ_ _ _ H _ I h=>wpAny_Constant_int {.int i,H,I.tok _,⟨_,rfl⟩,h}
def ue{b j pos}:PE X (.Constant (.bool b) j pos) (tC (.bl b)):=λ_ _ _ H _ I h=>Constant_bool {.bl b,H,I,rfl,h}
def RB{j pos}:PE X (.Constant .none j pos) (tC .cR):=λ_ _ _ H _ I h=>Constant_none {.cR,H,I,rfl,h}
def dG{x j pos}:PE X (.Constant (.str x) j pos) (tC (.str x)):=λ_ _ _ H _ I h=>Calls.Constant_str {.str x,H,I.tok _,⟨_,rfl⟩,h}
def Gl(X:Cx)(x:Str):Prop:=X.env.kindOf x=some .globalImplicit
def G2(I:Inv X pins Z H s)(hg:Gl X x)(hm:X.mg x=some u)(h:Q u s)
  (hd:(-27)=false:=by decide):wpAny (-6) X.A (eval (.Name x pos) X.env) Q E s:=
 vg I.ok.kind hg (Calls.loadGlobal_global (I.ok.glob▸I.mod.glob.keeps I.bk) hm h) hd
def rR(I:Inv X pins Z H s)(hg:Gl X x)(hm:X.mg x=none)(hv:bootBuiltins x=some u)(h:Q u s)
  (hn:x≠"__name__":=by decide) (hd:(-27)=false:=by decide):wpAny (-6) X.A (eval (.Name x pos) X.env) Q E s:=by
 obtain⟨mb,h1,h2⟩:=I.mod.blt;exact vg I.ok.kind hg (Calls.loadGlobal_builtin (I.ok.glob▸I.mod.glob.keeps I.bk) hm (I.ok.blt▸h1.keeps I.bk) ((h2 x hn).trans hv) h) hd
def NP(hg:Gl X x)(hm:X.mg x=some u)(r:RelV v u)(hd:(-27)=false:=by decide):PE X (.Name x pos) (tC v):=
 λ_ _ _ H _ I h=>G2 I hg hm ⟨v,H,I,r,h⟩ hd
def Zx(hg:Gl X x)(hm:X.mg x=none)(hv:bootBuiltins x=some u)(r:RelV v u)(hn:x≠"__name__":=by decide)(hd:(-27)=false:=by decide):PE X (.Name x pos) (tC v):=
 λ_ _ _ H _ I h=>rR I hg hm hv ⟨v,H,I,r,h⟩ hn hd
variable{a b:Expr}{pos:Pos}
def PC(X:Cx)(op:CmpOp)(a b:Expr)(t:TE):Prop:=
 ∀(pins:Aaa)(s:Shared)(Z:St)(H:Hp)(Q:VK),Inv X pins Z H s->t Z H Q->
  wpAny (-6) X.A (eval a X.env) (λv aaa=>wpAny (-6) X.A (eval b X.env) (λu aae=>wpAny (-6) X.A (compareOp op v u) (EP X pins Z Q) X.xe aae) X.xe aaa) X.xe s
inductive Nq(Q:Bool->Hp->Prop)(x:V)(H1:Hp):Prop
 |mk c (_:x=.bl c) (_:Q c H1)
def tB(t:TE):TT:=λZ H Q=>t Z H λx H1=>Nq Q x H1
def Kn(h:PC X op a b t)(h1:behindInMarks op b=false:=by first|exact aed _ (by decide) (by decide)|rfl):PT X (.Compare a [op] [b] pos) (tB t):=by intro pins s Z H Q I hw;refine yI (iR (h pins s Z H _ I hw) λv s1 h1=>iR h1 λu s2 h2=>iR h2 λc s3 vt=>?_) h1;obtain⟨x,H1,I1,r1,q1⟩:=vt;obtain⟨d,rfl,q⟩:=q1;cases r1;exact iP ⟨H1,I1,q⟩
def yV(h:PE X e t)(he:∀whole,isTrue e X.env whole=(do let v<-whole;standAt e.pos;holding [v] (truthy v)):=by intro _;rfl):PT X e (tB t):=by intro pins s Z H Q I hw;refine isTrue_plain (dq (h pins s Z H _ I hw) λv s1 x H1 I1 r1 q1=>?_) (he _);obtain⟨d,rfl,q⟩:=q1;cases r1;exact iP ⟨H1,I1,q⟩
variable{ta tb:TE}{tA Nq:TT}{rest:List Expr}
def ad1(t u:TT):TT:=λZ H Q=>t Z H λc H1=>if c=true then u Z H1 Q else Q false H1
def tOr(t u:TT):TT:=λZ H Q=>t Z H λc H1=>if c=true then Q true H1 else u Z H1 Q
def adV(t:TT):TT:=λZ H Q=>t Z H λc H1=>Q (!c) H1
def GN(ha:PT X a tA):PW X (.BoolOp .And [a] pos) tA:=by
 intro wh pins s Z H Q I h;refine isTrue_and (iR (ha pins s Z H Q I h) λc s1 e=>?_);cases c with
 |true=>exact isTrue_and_nil e
 |false=>exact e
def Rt(ha:PT X a tA):PW X (.BoolOp .Or [a] pos) tA:=by
 intro wh pins s Z H Q I h;refine isTrue_or (iR (ha pins s Z H Q I h) λc s1 e=>?_);cases c with
 |false=>exact isTrue_or_nil e
 |true=>exact e
def Kl(ha:PT X a tA)(hb:PW X (.BoolOp .And (b::rest) pos) Nq):PW X (.BoolOp .And (a::b::rest) pos) (ad1 tA Nq):=by
 intro wh pins s Z H Q I h;refine isTrue_and (GA (-79) λc s1 H1 I1 q1=>?_);cases c with
 |true=>exact hb wh pins s1 Z H1 Q I1 q1
 |false=>exact⟨H1,I1,q1⟩
def Xm(ha:PT X a tA)(hb:PW X (.BoolOp .Or (b::rest) pos) Nq):PW X (.BoolOp .Or (a::b::rest) pos) (tOr tA Nq):=by
 intro wh pins s Z H Q I h;refine isTrue_or (GA (-79) λc s1 H1 I1 q1=>?_);cases c with
 |true=>exact⟨H1,I1,q1⟩
 |false=>exact hb wh pins s1 Z H1 Q I1 q1
def FC(ha:PT X a tA):PT X (.UnaryOp .Not a pos) (adV tA):=by intro pins s Z H Q I h;exact isTrue_not (GA (ha pins s Z H (λc H1=>Q (!c) H1) I h) λ_ _ a b c=>⟨a,b,c⟩)
inductive aaT(tb:TE)(Z:St)(Q:VK)(x:V)(H1:Hp):Prop
 |mk c (_:x=.bl c) (_:if c=true then tb Z H1 Q else Q (.bl false) H1)
def ac3(ta tb:TE):TE:=λZ H Q=>ta Z H λx H1=>aaT tb Z Q x H1
def RA{op}(h:PE X a t):PE X (.BoolOp op [a] pos) t:=λpins s Z H Q I hw=>BoolOp_one (h pins s Z H Q I hw)
def KG(ha:PE X a ta)(hb:PE X (.BoolOp .And (b::rest) pos) tb):PE X (.BoolOp .And (a::b::rest) pos) (ac3 ta tb):=by
 intro pins s Z H Q I h;refine BoolOp_and (dq (-79) λv s1 x H1 I1 r1 q1=>?_);obtain⟨c,rfl,q1⟩:=q1;cases r1;refine iP ?_;cases c with
 |true=>exact hb pins s1 Z H1 Q I1 q1
 |false=>exact{.bl false,H1,I1,rfl,q1}
def tIf(t:TT)(ta tb:TE):TE:=λZ H Q=>t Z H λc H1=>if c=true then ta Z H1 Q else tb Z H1 Q
def Kx(hc:PT X c tA)(ha:PE X a ta)(hb:PE X b tb):PE X (.IfExp c a b pos) (tIf tA ta tb):=by
 intro pins s Z H Q I h;refine wpAny_IfExp (GA (hc pins s Z H _ I h) λd s1 H1 I1 q1=>?_);cases d with
 |true=>exact ha pins s1 Z H1 Q I1 q1
 |false=>exact hb pins s1 Z H1 Q I1 q1
end
def aY(K:Frag)(H:Hp)(a:Addr)(xs:Aam):Prop:=
 Rd H a (.lst xs)\/
  ∃(o:Obj)(aS:Aaj)(n:Nat),K.lookup a=some o/\o.cls=.type "list"/\o.dict=none/\o.data=.seq aS n/\aS.size<=sizeLine/\Vals xs aS.toList
def bC(K:Frag)(H:Hp)(a:Addr)(xs:Aam):Prop:=
 Rd H a (.tup xs)\/
  ∃(o:Obj)(aS:Aaj)(n:Nat),K.lookup a=some o/\o.cls=.type "tuple"/\o.data=.seq aS n/\aS.size<=sizeLine/\Vals xs aS.toList
def afH:Value->Aan
 | .none=>some .cR
 | .bool b=>some (.bl b)
 | .int i _=>some (.int i)
 | .str x _=>some (.str x)
 | .bytes b _=>some (.vA b)
 | .float b _=>some (.LU b)
 | .ref a=>some (-64)
 | .type n=>some (.ty n)
 |_=>none
def RelV.abs(r:RelV x u):afH u=some x:=by
 cases x with
 |cR=>cases r;rfl
 |bl _=>cases r;rfl
 |int _=>obtain⟨t,rfl⟩:=r;rfl
 |str _=>obtain⟨t,rfl⟩:=r;rfl
 |vA _=>obtain⟨t,rfl⟩:=r;rfl
 |LU _=>obtain⟨t,rfl⟩:=r;rfl
 |ref _=>cases r;rfl
 |ty _=>cases r;rfl
def RelV.inj(r:RelV x u)(q:RelV y u):x=y:=bJ (r.abs.symm.trans q.abs)
theorem Vals.inj:∀{xs ys:Aam}{us:Aae},Vals xs us->Vals ys us->xs=ys
 |_,_,_,.nil,.nil=>rfl
 |_,_,_,.cons r t,.cons r' t'=>by rw[r.inj r',Vals.inj t t']
section
variable{X:Cx}{pins:Aaa}{Z:St}{H:Hp}{s:Shared}{a:Addr}{xs ys:Aam}
def aY.of{K:Frag}(h:H a=some (.lst xs)):aY K H a xs:=.inl (.inl h)
def bC.of{K:Frag}(h:H a=some (.tup xs)):bC K H a xs:=.inl (.inl h)
def Inv.list(I:Inv X pins Z H s)(h:aY X.K H a xs):∃aS:Aae,Vals xs aS/\PlainL s.heap a aS.toArray/\xs.length<=sizeLine:=by
 rcases h with h|⟨o,aS,n,hk,hc,hd,hs,hz,r⟩
 ·obtain⟨z,aS,n,r,e⟩:=h.ok I.bj;exact{aS,r,⟨_,n,e,rfl,rfl,rfl⟩,z}
 ·refine{aS.toList,r,{o,n,I.nj a o hk,hc,hd,by simpa using hs},?_};have e:=r.length;simp only[aM]at e;lia
def Inv.tuple(I:Inv X pins Z H s)(h:bC X.K H a xs):∃aS:Aae,Vals xs aS/\IsTup s.heap a aS.toArray/\xs.length<=sizeLine:=by
 rcases h with h|⟨o,aS,n,hk,hc,hs,hz,r⟩
 ·obtain⟨z,aS,r,p,_⟩:=h.ok I.bj;exact⟨aS,r,p,z⟩
 ·refine{aS.toList,r,{o,I.nj a o hk,hc,n,by simpa using hs},?_};have e:=r.length;simp only[aM]at e;lia
def Inv.EL(I:Inv X pins Z H s)(h:aY X.K H a xs)(h':aY X.K H a ys):xs=ys:=by
 obtain⟨aS,r,⟨o,n,e,_,_,d⟩,_⟩:=I.list h;obtain⟨rT,r',⟨o',n',e',_,_,d'⟩,_⟩:=I.list h';rw[e]at e';cases e';rw[d]at d';injection d' with d1 _;have:aS=rT:=by simpa using bV Array.toList d1
 subst this;exact r.inj r'
def Inv.Bx(I:Inv X pins Z H s)(h:bC X.K H a xs)(h':bC X.K H a ys):xs=ys:=by
 obtain⟨aS,r,⟨o,e,_,n,d⟩,_⟩:=I.tuple h;obtain⟨rT,r',⟨o',e',_,n',d'⟩,_⟩:=I.tuple h';rw[e]at e';cases e';rw[d]at d';injection d' with d1 _;have:aS=rT:=by simpa using bV Array.toList d1
 subst this;exact r.inj r'
end
abbrev Cx.yh(X:Cx)(E:Aac):Cx:={X with xe:=E}
abbrev Cx.Xv(X:Cx):Cx:=X.yh λ_ _=>False
def Cx.Ok.yh{X:Cx}(ok:X.Ok)(E:Aac):(X.yh E).Ok:=
 {ok.mod,ok.kind,ok.glob,ok.blt,ok.above,ok.inj,ok.has,ok.OK,ok.hd,ok.frames,ok.QY,ok.Tv,ok.bs,ok.Em,ok.GZ,ok.EX,ok.tN,ok.IL}
def Cx.Ok.uw{X:Cx}(ok:(X.yh E).Ok):X.Ok:=
 {ok.mod,ok.kind,ok.glob,ok.blt,ok.above,ok.inj,ok.has,ok.OK,ok.hd,ok.frames,ok.QY,ok.Tv,ok.bs,ok.Em,ok.GZ,ok.EX,ok.tN,ok.IL}
section
variable{X:Cx}{pins:Aaa}{Z:St}{H:Hp}{s:Shared}{E:Aac}
def Inv.yh(I:Inv X pins Z H s)(E:Aac):Inv (X.yh E) pins Z H s:={I.ok.yh E,I.os,I.bare,I.base,I.loc,I.cell,I.free,I.oV,I.pin,I.bj,I.len}
def Inv.uw(I:Inv (X.yh E) pins Z H s):Inv X pins Z H s:={I.ok.uw,I.os,I.bare,I.base,I.loc,I.cell,I.free,I.oV,I.pin,I.bj,I.len}
def SP.uw(h:SP (X.yh E) pins D f s'):SP X pins D f s':=by
 cases f with
 |next=>obtain⟨σ',H',I,q⟩:=h;exact{σ',H',I.uw,q}
 |brk=>obtain⟨σ',H',I,q⟩:=h;exact{σ',H',I.uw,q}
 |cont=>obtain⟨σ',H',I,q⟩:=h;exact{σ',H',I.uw,q}
 |ret u=>obtain⟨v,σ',H',I,r,q⟩:=h;exact{v,σ',H',I.uw,r,q}
def lV.Xv{st:List Stmt}(h:lV X.Xv st t):lV X st t:=λpins s Z H D I hw=>
 dh (h pins s Z H D (I.yh _) hw) (λ_ _ q=>q.uw) λ_ _ z=>False.elim z
end
section
variable{X:Cx}{st:Stmt}{rest:List Stmt}{t u:TS}{e:Expr}{te:TE}{pos:Pos}
def acX:TS:=λD Z H=>D.nx Z H
def Ex(t u:TS):TS:=λD Z H=>t {D with nx:=u D} Z H
def gN:lV X [] acX:=λ_ _ Z H _ I h=>q9 ⟨Z,H,I,h⟩
def aO(h1:PS X st t)(h2:lV X rest u):lV X (st::rest) (Ex t u):=by
 intro pins s Z H D I h;refine wpAny_execs_cons (iR (h1 pins s Z H {D with nx:=u D} I h) λf s1 q=>?_);cases f with
 |next=>
  obtain⟨σ',H',I',q⟩:=q;exact h2 pins s1 σ' H' D I' q
 |ret v=>exact q
 |brk=>exact q
 |cont=>exact q
def bx(h1:PS X st t):lV X [st] t:=by
 intro pins s Z H D I h;refine wpAny_execs_cons (iR (h1 pins s Z H D I h) λf s1 q=>?_);cases f with
 |next=>exact q9 q
 |ret v=>exact q
 |brk=>exact q
 |cont=>exact q
def Inv.quiet(I:Inv X pins Z H s):interactive X.env=false:=by simp[interactive,I.ok.kind]
def acZ(te:TE):TS:=λD Z H=>te Z H λ_ H1=>D.nx Z H1
def lL(he:PE X e te)(hs:swapsWith e none pos.line X.env=pure false:=by rfl):PS X (.Expr e pos) (acZ te):=by intro pins s Z H D I h;exact wpAny_Expr_any (dq (he pins s Z H _ I h) λv s1 x H1 I1 r1 q1=>⟨Z,H1,I1,q1⟩) I.quiet hs
def adT(te:TE):TS:=λD Z H=>te Z H D.rt
def cW(he:PE X e te):PS X (.Return (some e) pos) (adT te):=by intro pins s Z H D I h;exact wpAny_Return_some (dq (he pins s Z H _ I h) λv s1 x H1 I1 r1 q1=>⟨x,Z,H1,I1,r1,q1⟩)
def adX(c:TT)(t u:TS):TS:=λD Z H=>c Z H λb H1=>if b=true then t D Z H1 else u D Z H1
def ka(hc:PT X c tc)(ha:lV X a t)(hb:lV X b u):PS X (.If c a b pos) (adX tc t u):=by
 intro pins s Z H D I h;refine wpAny_If (GA (hc pins s Z H _ I h) λd s1 H1 I1 q1=>?_);cases d with
 |true=>exact ha pins s1 Z H1 D I1 q1
 |false=>exact hb pins s1 Z H1 D I1 q1
abbrev TG:=V->St->Hp->(St->Hp->Prop)->Prop
abbrev YB:=Aam->St->Hp->(St->Hp->Prop)->Prop
end
def PG(X:Cx)(target:Expr)(t:TG):Prop:=
 ∀(pins:Aaa)(s:Shared)(Z:St)(H:Hp)(v:V)(u:Value)(Q:St->Hp->Prop),Inv X pins Z H s->RelV v u->t v Z H Q->
  wpAny (-6) X.A (assign target X.env u) (λ_ s'=>∃σ' H',Inv X pins σ' H' s'/\Q σ' H') X.xe s
def Er(X:Cx)(ts:List Expr)(t:YB):Prop:=
 ∀(pins:Aaa)(s:Shared)(Z:St)(H:Hp)(vs:Aam)(us:Aae)(Q:St->Hp->Prop),Inv X pins Z H s->Vals vs us->t vs Z H Q->
  wpAny (-6) X.A (assignInOrder ((assignEach ts X.env).map (·.2)) us) (λ_ s'=>∃σ' H',Inv X pins σ' H' s'/\Q σ' H') X.xe s
abbrev acH:=V->V->V->Hp->(Hp->Prop)->Prop
def acI(X:Cx)(t:acH):Prop:=
 ∀(pins:Aaa)(s:Shared)(Z:St)(H:Hp)(o i v:V)(ov iv u:Value)(Q:Hp->Prop),Inv X pins Z H s->RelV o ov->RelV i iv->RelV v u->t o i v H Q->
  wpAny (-6) X.A (setItem ov iv u) (λ_ s'=>∃H',Inv X pins Z H' s'/\Q H') X.xe s
section
variable{X:Cx}{pos:Pos}
def vR(i:Nat):TG:=λv Z H Q=>Q (Z.set i (some v)) H
def tK(hN:X.N.Nodup)(hi:X.N[i]?=some x)(hx:Loc X.env.scope x)(hf:X.fn x=true\/X.env.scope.names.lookup x=some .local:=by first|exact .inl rfl|exact .inr rfl|assumption):PG X (.Name x pos) (vR i):=by intro pins s Z H v u Q I r h;exact Dh (zV I hN hi hx r (λs' I'=>⟨_,H,I',h⟩) hf)
def acq:YB:=λvs Z H Q=>vs=[]/\Q Z H
inductive Qi(t:TG)(u:YB)(vs:Aam)(Z:St)(H:Hp)(Q:St->Hp->Prop):Prop
 |mk v r (_:vs=v::r) (_:t v Z H λσ' H'=>u r σ' H' Q)
def ku:Er X [] acq:=by intro pins s Z H vs us Q I r h;obtain⟨e,h⟩:=h;subst e;cases r;exact Du ⟨Z,H,I,h⟩
def dC(h1:PG X e t)(h2:Er X es u)
  (hs:(assignEach (e::es) X.env).map (·.2)=assign e X.env::(assignEach es X.env).map (·.2):=by rfl):Er X (e::es) (Qi t u):=by
 intro pins s Z H vs us Q I r h;obtain⟨v,vr,e1,h⟩:=h;subst e1;cases r with
 |cons r rr=>
  rw[hs];exact uM (iR (h1 pins s Z H _ _ _ I r h) λ_ s1 ⟨σ1,H1,I1,q1⟩=>h2 pins s1 σ1 H1 _ _ Q I1 rr q1)
inductive Wo(K:Frag)(n:Nat)(t:YB)(v:V)(Z:St)(H:Hp)(Q:St->Hp->Prop):Prop
 |mk a xs (_:v=.ref a) (_:bC K H a xs) (_:xs.length=n) (_:t xs Z H Q)
def nQ(hc:X.calm=true)(h:Er X es t)
  (hn:(assignEach es X.env).length=n:=by rfl) (g7:(assignEach es X.env).findIdx? (·.1)=none:=by rfl):PG X (.Tuple es k pos) (Wo X.K n t):=by
 intro pins s Z H v u Q I r hw;obtain⟨a,xs,e1,hq,hl,hw⟩:=hw;subst e1;cases r;obtain⟨aS,rv,ht,hz⟩:=I.tuple hq;refine assign_Tuple_tuple (I.ok.hd hc) ht (by simp[hn,<-hl,rv.length]) g7 λh' hx=>?_;exact h pins _ Z H xs _ Q (I.kept (t':=s.toks) λb o e=>hx b o (aI (aF e)) e) (by simpa using rv) hw
def afu(to ti:TE)(t:acH):TG:=λv Z H Q=>to Z H λo H1=>ti Z H1 λi H2=>t o i v H2 λH3=>Q Z H3
def FF(ho:PE X o to)(hi:PE X i ti)(hs:acI X t)
  (ha:∀v,assign (.Subscript o i pos) X.env v=(do
   let ov<-holding [v] (eval o X.env)
   let iv<-holding [v,ov] (eval i X.env)
   standAt pos
   holding [v,ov,iv] (setItem ov iv v)
   release [v,ov,iv] []):=by intro _;rfl):PG X (.Subscript o i pos) (afu to ti t):=by
 intro pins s Z H v u Q I r h;refine ae (bS (dq (ho pins s Z H _ I h) λov s1 x H1 I1 r1 q1=>?_));refine ae (bS (dq (hi pins s1 Z H1 _ I1 q1) λiv s2 y H2 I2 r2 q2=>?_));exact ae (uX (ae (bS (iR (hs pins s2 Z H2 x y v ov iv u _ I2 r1 r2 r q2) λ_ s3 ⟨H3,I3,q3⟩=>wpAny_release ⟨Z,H3,I3,q3⟩))))
def UT(te:TE)(g:TG):TS:=λD Z H=>te Z H λx H1=>g x Z H1 D.nx
def wz(he:PE X e te)(hg:PG X tg g)(hs:swapsWithSole [tg] e pos.line X.env=pure false:=by rfl)(hw:swappedStores [tg] e X.env=pure none:=by rfl)
  (h1:(assignEach [tg] X.env).map (·.2)=[assign tg X.env]:=by rfl):PS X (.Assign [tg] e pos) (UT te g):=by
 intro pins s Z H D I h;refine wpAny_Assign_stores (dq (he pins s Z H _ I h) λv s1 x H1 I1 r1 q1=>?_) hs hw;rw[h1];exact iR (hg pins s1 Z H1 x v _ I1 r1 q1) λ_ s2 q=>q
def mM(hN:X.N.Nodup)(hi:X.N[i]?=some x)(hx:Loc X.env.scope x)(he:PE X e te)(hs:swapsWith e (some (.Name x pos')) pos.line X.env=pure false:=by rfl)(hf:X.fn x=true\/X.env.scope.names.lookup x=some .local:=by first|exact .inl rfl|exact .inr rfl|assumption):
  PS X (.Assign [.Name x pos'] e pos) (UT te (vR i)):=by
 intro pins s Z H D I h;exact wpAny_Assign_Name (dq (he pins s Z H _ I h) λv s1 y H1 I1 r1 q1=>zV I1 hN hi hx r1 (λs2 I2=>⟨_,H1,I2,q1⟩) hf) hs
inductive acW(i:Nat)(j:Nat)(D:Ends)(Z:St)(vs:Aam)(H1:Hp):Prop
 |mk v w (_:vs=[v,w]) (_:D.nx ((Z.set i (some v)).set j (some w)) H1)
def adU(i j:Nat)(ta:TA):TS:=λD Z H=>ta Z H λvs H1=>acW i j D Z vs H1
def abd{kt k2 pt2}(hc:X.calm=true)(hN:X.N.Nodup)(hi:X.N[i]?=some x)(hj:X.N[j]?=some y)(hij:i≠j)
  (hx:X.env.scope.names.lookup x=some .local) (hy:X.env.scope.names.lookup y=some .local) (ha:PA X [a,b] ta)
  (hw:swappedStores [.Tuple [.Name x px,.Name y py] kt pt] (.Tuple [a,b] k2 pt2) X.env=pure (some [x,y]))
  (hs:swapsWithSole [.Tuple [.Name x px,.Name y py] kt pt] (.Tuple [a,b] k2 pt2) pos.line X.env=pure false:=by rfl):
  PS X (.Assign [.Tuple [.Name x px,.Name y py] kt pt] (.Tuple [a,b] k2 pt2) pos) (adU i j ta):=by
 intro pins s Z H D I h;refine ae (uX ?_);refine ae (ag ?_);refine ae (Tuple_ (rj (ha _ pins s Z H _ I h) λus s1 vs H1 I1 r1 q1=>?_));obtain⟨v,w,e1,q1⟩:=q1;subst e1;obtain⟨u1,u2,rfl,rv,pU⟩:∃u1 u2,us=[u1,u2]/\RelV v u1/\RelV w u2:=by
  cases r1 with
  |cons p q=>
   cases q with
   |cons p' q'=>
    cases q';exact⟨_,_,rfl,p,p'⟩
 refine bX ?_ (-17);have I2:Inv X pins Z H1 {s1 with heap:=s1.heap.push {cls:=.type "tuple",data:=.seq [u1,u2].toArray}}:=I1.kept λb o e=>ah _ e;rw[hw];refine ae (ag ?_);refine ae (fE (ae (unpackItems_tuple (items:=#[u1,u2]) (I.ok.hd hc) (yf s1.heap _) λh' zl=>?_)));refine ae (uM (wpAny_bindName (zV (I2.kept (h':=h') (t':=s1.toks) λb o e=>zl b o (aI (aF e)) e) hN hj (.inl hy) pU (λs2 I4=>?_) (.inr hy))));refine uM (wpAny_bindName (zV I4 hN hi (.inl hx) rv (λs3 I5=>Du (ag ?_)) (.inr hx)));rw[List.set_comm _ _ (cB hij)]at I5;exact⟨_,H1,I5,q1⟩
def aaI(c:TT)(tb:TS):TS:=λD Z H=>∃W:Nat->St->Hp->Prop,(∃m,W m Z H)/\∀m Z H,W m Z H->
 c Z H λb H1=>if b=true then∃N:St->Hp->Prop,(∀σ' H',N σ' H'->∃m',m'<m/\W m' σ' H')/\tb {D with nx:=N,ct:=N,bk:=D.nx} Z H1 else D.nx Z H1
def Vj(hp:PassesOwn (-6) X.A X.env X.xe)(hc:PT X c tc)(hb:lV X body tb):PS X (.While c body [] pos) (aaI tc tb):=by
 intro pins s Z H D I h;obtain⟨W,⟨m0,w0⟩,turn⟩:=h;refine wpAny_While (codeAny_whileLoop (λn s'=>∃σ' H',Inv X pins σ' H' s'/\W n σ' H') ?_ m0 ⟨Z,H,I,w0⟩);rintro n s1 ⟨σ1,H1,I1,w1⟩;refine jx hp (GA (hc pins s1 σ1 H1 _ I1 (turn n σ1 H1 w1)) λb s2 H2 I2 q2=>?_);cases b with
 |true=>
  obtain⟨N,hN,q2⟩:=q2;refine jx hp (iR (hb pins s2 σ1 H2 _ I2 q2) λf s3 q3=>?_);cases f with
  |next=>
   obtain⟨σ3,H3,I3,n3⟩:=q3;obtain⟨m',hm,w3⟩:=hN σ3 H3 n3;exact⟨m',hm,σ3,H3,I3,w3⟩
  |cont=>
   obtain⟨σ3,H3,I3,n3⟩:=q3;obtain⟨m',hm,w3⟩:=hN σ3 H3 n3;exact⟨m',hm,σ3,H3,I3,w3⟩
  |brk=>exact q3
  |ret v=>exact q3
 |false=>
  exact q9 ⟨σ1,H2,I2,q2⟩
structure It where
 go:Nat->Hp->Prop
 Hw:Nat->Hp->V->Hp->Prop
 stop:Nat->Hp->Prop
end
def qH(X:Cx)(pins:Aaa)(H:Hp)(b:Addr):Prop:=
 H b=none/\b≠X.env.locals/\b∉X.fs/\(b∈X.ex\/X.aab.heap.objs.size<=b)/\(∀x c,X.env.cells.lookup x=some c->c≠b)/\∀p∈X.pn++pins,p.1≠b
def Inv.u7(I:Inv X pins Z H s)(hb:s.heap.objs.size<=b)(hn:H' b=none):qH X pins H' b:=by
 refine{hn,bD (ba I.lt hb),I.abo hb,.inr (aJ I.sz hb),λx c e z=>?_,λp hp z=>?_}
 ·obtain⟨v,q⟩:=I.cell x c e;exact absurd (ba q.lt (z▸hb)) (dP _)
 ·exact absurd (ba (aF (I.pin p hp).1) (z▸hb)) (dP _)
structure Turn(P:Program)(w:World)(K:Frag)(tg:Expr)(J:It)(fp:Aah)(it:Addr)(tn:Nat->Heap->Prop):Prop where
 mem:it∈fp
 obj:∀i h,tn i h->∀b∈fp,∃o,h.get? b=some o/\∀v,o.data≠ .cell v
 keep:∀i h h',tn i h->(∀b∈fp,∀o,h.get? b=some o->h'.get? b=some o)->tn i h'
 item:∀(X:Cx),X.prog=P->X.w=w->X.K=K->X.calm=true->∀(i:Nat)(pins:Aaa)(s:Shared)(Z:St)(H:Hp)(E:Aac),Inv X pins Z H s->(∀b∈fp,qH X pins H b)->tn i s.heap->J.go i H->
  wpAny (-25) X.A (pyNext (.ref it)) (λr s1=>∃u,r=some u/\
   wpAny (-25) X.A (letOwnedTupleGo tg (.ref it) u) (λ_ s2=>∃x H',Inv X pins Z H' s2/\RelV x u/\J.Hw i H x H'/\tn (i+1) s2.heap/\∀b∈fp,H' b=none) E s1) E s
 done:∀(X:Cx),X.prog=P->X.w=w->X.K=K->X.calm=true->∀(i:Nat)(pins:Aaa)(s:Shared)(Z:St)(H:Hp)(E:Aac),Inv X pins Z H s->(∀b∈fp,qH X pins H b)->tn i s.heap->J.stop i H->
  wpAny (-25) X.A (pyNext (.ref it)) (λr s1=>r=none/\Inv X pins Z H s1) E s
 self:∀(A:Around)(i:Nat)(s:Shared)(Q:Aac)(E:Aac),tn i s.heap->Q (.ref it) s->wpAny (-25) A (pyIter (.ref it)) Q E s
abbrev TI:=St->Hp->(It->Hp->Prop)->Prop
def PIE(X:Cx)(pins:Aaa)(Z:St)(tg:Expr)(R:It->Hp->Prop)(itv:Value)(s2:Shared):Prop:=
 ∃(it:Addr)(fp:Aah)(tn:Nat->Heap->Prop)(J:It)(H':Hp),itv=.ref it/\Inv X pins Z H' s2/\Turn X.prog X.w X.K tg J fp it tn/\tn 0 s2.heap/\(∀b∈fp,qH X pins H' b)/\R J H'
def PI(X:Cx)(tg iter:Expr)(wi:TI):Prop:=
 ∀(pins:Aaa)(s:Shared)(Z:St)(H:Hp)(R:It->Hp->Prop),Inv X pins Z H s->wi Z H R->
  wpAny (-6) X.A (eval iter X.env) (λv s1=>wpAny (-6) X.A (pyIter v) (PIE X pins Z tg R) X.xe s1) X.xe s
def F8(ho:s.heap.get? it=some o)(hc:o.cls=.type n)(hd:o.data=.fields vs)
  (hn:["enumerate","zip","dict_itemiterator","dict_reverseitemiterator","odict_iterator","itertools.zip_longest","itertools.pairwise"].contains n=false) (hQ:Q () s):wpAny M A (letOwnedTupleGo tg (.ref it) u) Q E s:=by
 cases tg<;>first
  |exact ag hQ
  |(cases u<;>first
    |exact ag hQ
    |(refine ae (Fe ho ?_);rw[hc,hd];show wpAny M A (if(["enumerate","zip","dict_itemiterator","dict_reverseitemiterator","odict_iterator","itertools.zip_longest","itertools.pairwise"].contains n&&vs[0]?==some (rawInt _))=true then _ else _) Q E s;rw[aw (by intro h;rw[hn,t6]at h;cases h)];exact ag hQ))
def Uz(K:Frag)(a:Addr):It:=
 {λi H=>∃xs x,aY K H a xs/\xs[i]?=some x,λi H x H'=>H'=H/\∀xs,aY K H a xs->xs[i]?=some x,λi H=>∃xs,aY K H a xs/\xs.length<=i}
def Uy(K:Frag)(a:Addr):It:=
 {λi H=>∃xs x,bC K H a xs/\xs[i]?=some x,λi H x H'=>H'=H/\∀xs,bC K H a xs->xs[i]?=some x,λi H=>∃xs,bC K H a xs/\xs.length<=i}
def YF(lo:Int)(n:Nat):It:={λi _=>i<n,λi H x H'=>H'=H/\x=.int (lo+i),λi _=>n<=i}
def QS{K:Frag}(a it:Addr):Turn P w K tg (Uz K a) [it] it (λi h=>h.IsListIter it a i) where
 mem:=by simp
 obj:=λi h st b hb=>by
  have e:b=it:=by simpa using hb
  subst e;obtain⟨o,e,c,d⟩:=st;exact{o,e,λv z=>by rw[d]at z;cases z}
 keep:=λi h h' st k=>st.at λo e=>k it (-8) o e
 item:=by intro X hP hw hK hc i pins s Z H E I hf st hg;subst hP hw hK;obtain⟨xs,x,hq,hx⟩:=hg;obtain⟨aS,rv,p,hz⟩:=I.list hq;obtain⟨u,hu,ru⟩:=rv.get hx;obtain⟨f0,f1,f2,f3,f4,f5⟩:=hf it (-8);refine wpAny_pyNext_list_item st p.isList (by simpa using hu) λh' js sb=>?_;obtain⟨o,e,c,d⟩:=id js;exact{u,rfl,F8 e c d (-9) {x,H,(-75),ru,{rfl,λys hy=>by rw[I.EL hy hq];exact hx},js,λb hb=>(hf b hb).1}}
 done:=by intro X hP hw hK hc i pins s Z H E I hf st hg;subst hP hw hK;obtain⟨xs,hq,hx⟩:=hg;obtain⟨aS,rv,p,hz⟩:=I.list hq;obtain⟨f0,f1,f2,f3,f4,f5⟩:=hf it (-8);have hl:=rv.length;exact wpAny_pyNext_list_end (I.ok.hd hc) st p.isList (by simp;lia) λh' eb=>{rfl,I.turned (λb o hb e=>eb b o hb e) f0 f1 f3 f4 f5}
 self:=λ_ _ _ _ _ st h=>wpAny_pyIter_listiter st h
def OS{K:Frag}(a it:Addr):Turn P w K tg (Uy K a) [it] it (λi h=>h.IsTupleIter it a i) where
 mem:=by simp
 obj:=λi h st b hb=>by
  have e:b=it:=by simpa using hb
  subst e;obtain⟨o,e,c,d⟩:=st;exact{o,e,λv z=>by rw[d]at z;cases z}
 keep:=λi h h' st k=>st.at λo e=>k it (-8) o e
 item:=by intro X hP hw hK hc i pins s Z H E I hf st hg;subst hP hw hK;obtain⟨xs,x,hq,hx⟩:=hg;obtain⟨aS,rv,p,hz⟩:=I.tuple hq;obtain⟨u,hu,ru⟩:=rv.get hx;obtain⟨f0,f1,f2,f3,f4,f5⟩:=hf it (-8);refine wpAny_pyNext_tuple_item st (show s.heap.IsTuple a aS.toArray from p) (by simpa using hu) λh' js sb=>?_;obtain⟨o,e,c,d⟩:=id js;exact{u,rfl,F8 e c d (-9) {x,H,(-75),ru,{rfl,λys hy=>by rw[I.Bx hy hq];exact hx},js,λb hb=>(hf b hb).1}}
 done:=by intro X hP hw hK hc i pins s Z H E I hf st hg;subst hP hw hK;obtain⟨xs,hq,hx⟩:=hg;obtain⟨aS,rv,p,hz⟩:=I.tuple hq;obtain⟨f0,f1,f2,f3,f4,f5⟩:=hf it (-8);have hl:=rv.length;exact wpAny_pyNext_tuple_end (I.ok.hd hc) st (show s.heap.IsTuple a aS.toArray from p) (by simp;lia) λh' eb=>{rfl,I.turned (λb o hb e=>eb b o hb e) f0 f1 f3 f4 f5}
 self:=λ_ _ _ _ _ st h=>wpAny_pyIter_tupleiter st h
def OT{K:Frag}(it:Addr)(lo:Int)(n:Nat):Turn P w K tg (YF lo n) [it] it (λi h=>IsRangeIter h it (lo+(i:Nat)*1) ((n:Int) -(i:Nat)) 1) where
 mem:=by simp
 obj:=λi h st b hb=>by
  have e:b=it:=by simpa using hb
  subst e;exact{_,st,λv z=>by have z':=z;cases z'}
 keep:=λi h h' st k=>k it (-8) _ st
 item:=by intro X hP hw hK hc i pins s Z H E I hf st hg;subst hP hw hK;obtain⟨f0,f1,f2,f3,f4,f5⟩:=hf it (-8);refine(Walks.range (prog:=X.prog) (w:=X.w) (I.ok.hd hc) it lo 1 n).item i s _ _ hg st λv h' tk hv js kk=>?_;obtain⟨t,rfl⟩:=hv;refine{_,rfl,F8 js rfl rfl (-9) {.int (lo+i),H,(I.turned (λb o hb e=>kk b o (by simpa using hb) e) f0 f1 f3 f4 f5),{t,?_},⟨rfl,rfl⟩,js,λb hb=>(hf b hb).1}};rw[Et]
 done:=by intro X hP hw hK hc i pins s Z H E I hf st hg;obtain⟨f0,f1,f2,f3,f4,f5⟩:=hf it (-8);exact wpAny_pyNext_range_end (I.ok.hd hc) st (by have:n<=i:=hg;lia) λh' eb=>{rfl,I.turned (λb o hb e=>eb b o hb e) f0 f1 f3 f4 f5}
 self:=λ_ _ _ _ _ st h=>wpAny_pyIter_rangeiter st h
section
variable{X:Cx}{tg:Expr}
inductive abN(K:Frag)(R:It->Hp->Prop)(x:V)(H1:Hp):Prop
 |mk a (_:x=.ref a) (_:(∃xs,aY K H1 a xs)) (_:R (Uz K a) H1)
def XM(K:Frag)(tl:TE):TI:=λZ H R=>tl Z H λx H1=>abN K R x H1
inductive adn(K:Frag)(R:It->Hp->Prop)(x:V)(H1:Hp):Prop
 |mk a (_:x=.ref a) (_:(∃xs,bC K H1 a xs)) (_:R (Uy K a) H1)
def aen(K:Frag)(tl:TE):TI:=λZ H R=>tl Z H λx H1=>adn K R x H1
def gf(hl:PE X l tl):PI X tg l (XM X.K tl):=by
 intro pins s Z H R I h;refine dq (hl pins s Z H _ I h) λv s1 x H1 I1 r1 q1=>?_;obtain⟨a,e,⟨xs,hq⟩,q⟩:=q1;subst e;cases r1;obtain⟨aS,rv,p,hz⟩:=I1.list hq;refine pD p.isList ?_;refine{s1.heap.objs.size,[s1.heap.objs.size],_,_,H1,rfl,I1.kept λb o e=>ah _ e,QS a _,{_,aE _ rfl,rfl,rfl},λb hb=>?_,q};have e:b=s1.heap.objs.size:=by simpa using hb
 subst e;exact I1.u7 (ak _) (-87)
def uB(hl:PE X l tl):PI X tg l (aen X.K tl):=by
 intro pins s Z H R I h;refine dq (hl pins s Z H _ I h) λv s1 x H1 I1 r1 q1=>?_;obtain⟨a,e,⟨xs,hq⟩,q⟩:=q1;subst e;cases r1;obtain⟨aS,rv,p,hz⟩:=I1.tuple hq;refine uv (show s1.heap.IsTuple a aS.toArray from p) ?_;refine{s1.heap.objs.size,[s1.heap.objs.size],_,_,H1,rfl,I1.kept λb o e=>ah _ e,OS a _,{_,aE _ rfl,rfl,rfl},λb hb=>?_,q};have e:b=s1.heap.objs.size:=by simpa using hb
 subst e;exact I1.u7 (ak _) (-87)
def Va{lo hi:Int}(I:Inv X pins Z H s)(h1:-(2^62)<=lo)(h2:lo<2^62)(h3:-(2^62)<=hi)(h4:hi<2^62)
  (q:R (YF lo (hi -lo).toNat) H):wpAny (-6) X.A (pyIter (-11)) (PIE X pins Z tg R) E {s with heap:=s.heap.push {cls:=.type "range",data:=.fields #[.int lo t,.int hi u,.int 1 v]},toks:=tk}:=by
 refine wpAny_pyIter_range (IsRange.new ..) (small_one h1 h2 h3 h4) ?_;have I1:Inv X pins Z H {s with heap:=s.heap.push {cls:=.type "range",data:=.fields #[.int lo t,.int hi u,.int 1 v]},toks:=tk}:=I.kept λb o e=>ah _ e;refine{(-60).objs.size,[(-60).objs.size],_,_,H,rfl,
  I1.kept λb o e=>ah _ e,OT _ lo (hi -lo).toNat,?_,λb hb=>?_,q}
 ·have e1:lo+((0:Nat):Int)*1=lo:=by simp
  have e2:(((hi -lo).toNat:Nat):Int) -((0:Nat):Int)=Builtin.Range.rangeSize lo hi 1:=by rw[rangeSize_one];split<;>lia
  rw[e1,e2];exact aE _ rfl
 ·have e:b=(-60).objs.size:=by simpa using hb
  subst e;exact I1.u7 (ak _) (-87)
inductive abM(R:It->Hp->Prop)(vs:Aam)(H1:Hp):Prop
 |mk (j:Int) (_:vs=[.int j]) (_:-(2^62)<=j) (_:j<2^62) (_:R (YF 0 j.toNat) H1)
def adp(ta:TA):TI:=λZ H R=>ta Z H λvs H1=>abM R vs H1
def kj(hg:Gl X "range")(hm:X.mg "range"=none)(ha:PA X [a] ta)(hs:starEach [a] X.env=[(false,eval a X.env)]:=by rfl):PI X tg (.Call (.Name "range" p) [a] [] pos) (adp ta):=by
 intro pins s Z H R I h;refine Gx (rR I hg hm boot_range (eB (-53) hs rfl));obtain⟨j,e,q1,q2,q⟩:=q1;subst e;cases r1 with
 |cons r rr=>
  cases rr;obtain⟨t,rfl⟩:=r;exact call_range_1 (Va I1 ∅ ∅ q1 q2 (by simpa using q))
def adY(wi:TI)(g:TG)(tb:TS):TS:=λD Z H=>wi Z H λJ H1=>∃W:Nat->Nat->St->Hp->Prop,(∃m,W 0 m Z H1)/\∀i m Z H,W i m Z H->
 (J.stop i H/\D.nx Z H)\/(J.go i H/\∃N:St->Hp->Prop,(∀σ' H',N σ' H'->∃m',m'<m/\W (i+1) m' σ' H')/\∀x H',J.Hw i H x H'->g x Z H' λσ2 H2=>tb {D with nx:=N,ct:=N,bk:=D.nx} σ2 H2)
def BR(fp:Aah)(h:Heap):Aaa:=fp.filterMap λb=>(h.get? b).map λo=>(b,o)
def vP(hb:b∈fp)(e:h.get? b=some o):(b,o)∈BR fp h:=uQ.mpr {b,hb,by rw[e];rfl}
def RT(hp:p∈BR fp h):p.1∈fp/\h.get? p.1=some p.2:=by
 obtain⟨b,hb,e⟩:=uQ.mp hp;cases q:h.get? b with
 |none=>rw[q]at e;cases e
 |some o=>
  rw[q]at e;have e':=bJ e;subst e';exact⟨hb,q⟩
def Inv.pinned(I:Inv X pins Z H s)(hf:∀b∈fp,qH X pins H b)(ho:∀b∈fp,∃o,s.heap.get? b=some o/\∀v,o.data≠ .cell v):Inv X (pins++BR fp s.heap) Z H s:=
 I.yY λp hp=>(aP.mp hp).elim (λz=>I.pin p (bY _ z)) λz=>by obtain⟨hb,e⟩:=RT z;obtain⟨f0,f1,f2,_⟩:=hf p.1 hb;obtain⟨o,e',d⟩:=ho p.1 hb;rw[e]at e';cases e';exact⟨e,f0,f1,f2,d⟩
def Inv.zS(I:Inv X (pins++pl) Z H s):Inv X pins Z H s:=I.yY λp hp=>I.pin p (bY _ (bH _ hp))
def iG(hp:PassesOwn (-6) X.A X.env X.xe)(hc:X.calm=true)(hi:PI X tg iter wi)(hg:PG X tg g)(hb:lV X body tb)
  (hs:∀x,foldedSetIterable iter X.env x=pure x:=by intro _;rfl):PS X (.For tg iter body [] pos) (adY wi g tb):=by
 intro pins s Z H D I h;refine wpAny_For (iR (hi pins s Z H _ I h) λv s1 h1=>iR h1 λitv s2 h2=>?_) hs;obtain⟨it,fp,tn,J,H2,e,I2,T,rA,f2,W,⟨m0,w0⟩,turn⟩:=h2;subst e;have UW:∀{H':Hp},(∀b∈fp,H' b=none)->∀b∈fp,qH X pins H' b:=λhn b hb=>{hn b hb,(f2 b hb).2};refine codeAny_forLoop_any (λn s'=>∃i σ' H',Inv X pins σ' H' s'/\tn i s'.heap/\(∀b∈fp,H' b=none)/\W i n σ' H') ?_ m0 {0,Z,H2,I2,rA,λb hb=>(f2 b hb).1,w0};rintro n s3 ⟨i,σ3,H3,I3,xv,fr3,w3⟩;rcases turn i n σ3 H3 w3 with⟨stop,qn⟩|⟨go,N,hN,step⟩
 ·refine jx hp (iR (T.done X rfl rfl rfl hc i pins s3 σ3 H3 X.xe I3 (UW fr3) xv stop) λr s4 zk=>?_);obtain⟨hr,I4⟩:=zk;subst hr;exact q9 ⟨σ3,H3,I4,qn⟩
 ·refine jx hp (iR (T.item X rfl rfl rfl hc i pins s3 σ3 H3 X.xe I3 (UW fr3) xv go) λr s4 hz3=>?_);obtain⟨u,hr,h4⟩:=hz3;subst hr;refine jx hp (iR h4 λ_ s5 hz4=>?_);obtain⟨x,H5,I5,r5,y5,o7,fr5⟩:=hz4;refine jx hp (iR (hg _ s5 σ3 H5 x u _ (I5.pinned (UW fr5) (T.obj _ _ o7)) r5 (step x H5 y5)) λ_ s6 hz5=>?_);obtain⟨σ6,H6,I6,q6⟩:=hz5;refine jx hp (iR (hb _ s6 σ6 H6 _ I6 q6) λf s7 q7=>?_);have again:∀{σ7:St}{H7:Hp},Inv X (pins++BR fp s5.heap) σ7 H7 s7->N σ7 H7->∃m,m<n/\∃i σ' H',Inv X pins σ' H' s7/\tn i s7.heap/\(∀b∈fp,H' b=none)/\W i m σ' H':=λ{σ7 H7} I7 n7=>by obtain⟨m',hm,w7⟩:=hN σ7 H7 n7;refine{m',hm,i+1,σ7,H7,I7.zS,T.keep _ _ _ o7 λb hb o e=>(I7.pin (b,o) (bY _ (bY _ (vP hb e)))).1,λb hb=>?_,w7};obtain⟨o,e,d⟩:=T.obj _ _ o7 b hb;exact(I7.pin (b,o) (bY _ (bY _ (vP hb e)))).2.1
  cases f with
  |next=>obtain⟨σ7,H7,I7,n7⟩:=q7;exact again I7 n7
  |cont=>obtain⟨σ7,H7,I7,n7⟩:=q7;exact again I7 n7
  |brk=>obtain⟨σ7,H7,I7,q7⟩:=q7;exact{σ7,H7,I7.zS,q7}
  |ret v=>obtain⟨x7,σ7,H7,I7,r7,q7⟩:=q7;exact{x7,σ7,H7,I7.zS,r7,q7}
abbrev tZ(J:It)(g:TG)(tb:TS)(D:Ends)(Z:St)(H:Hp):Prop:=∃W:Nat->Nat->St->Hp->Prop,(∃m,W 0 m Z H)/\∀i m Z H,W i m Z H->
 (J.stop i H/\D.nx Z H)\/(J.go i H/\∃N:St->Hp->Prop,(∀σ' H',N σ' H'->∃m',m'<m/\W (i+1) m' σ' H')/\∀x H',J.Hw i H x H'->g x Z H' λσ2 H2=>tb {D with nx:=N,ct:=N,bk:=D.nx} σ2 H2)
def zw{J:It}{n:Nat}{g:TG}{tb:TS}{D:Ends}{Z:St}{H:Hp}(Pv:Nat->St->Hp->Prop)(h0:Pv 0 Z H)(hg:∀i Z H,i<n->Pv i Z H->J.go i H/\∀x H',J.Hw i H x H'->g x Z H' λσ2 H2=>tb {D with nx:=Pv (i+1),ct:=Pv (i+1),bk:=D.nx} σ2 H2)(hd:∀Z H,Pv n Z H->J.stop n H/\D.nx Z H):tZ J g tb D Z H:=by
 refine{λi m Z H=>m=n -i/\i<=n/\Pv i Z H,{n,by simp,aQ _,h0},?_};rintro i m Z H ⟨rfl,hi,p⟩;by_cases cE:i<n
 ·obtain⟨a,b⟩:=hg i Z H cE p;exact .inr {a,Pv (i+1),λσ' H' p'=>{n -(i+1),by lia,rfl,cE,p'},b}
 ·have e:i=n:=by lia
  subst e;exact .inl (hd Z H p)
def EW{K:Frag}{g:TG}{tb:TS}{D:Ends}(Pv:Nat->St->Hp->Prop)(h0:Pv 0 Z H)(hl:∀i Z H,i<=xs.length->Pv i Z H->aY K H a xs)
  (hs:∀i x Z H,xs[i]?=some x->Pv i Z H->g x Z H λσ2 H2=>tb {D with nx:=Pv (i+1),ct:=Pv (i+1),bk:=D.nx} σ2 H2) (hd:∀Z H,Pv xs.length Z H->D.nx Z H):tZ (Uz K a) g tb D Z H:=by
 refine zw Pv h0 (λi Z H hi p=>?_) λZ H p=>{{xs,hl _ Z H (ak _) p,ak _},hd Z H p};have q:=hl i Z H (bo hi) p;refine{{xs,_,q,ao hi},?_};rintro x H' ⟨rfl,y⟩;exact hs i x Z _ (y xs q) p
def Ha{K:Frag}{g:TG}{tb:TS}{D:Ends}(Pv:Nat->St->Hp->Prop)(h0:Pv 0 Z H)(hl:∀i Z H,i<=xs.length->Pv i Z H->bC K H a xs)
  (hs:∀i x Z H,xs[i]?=some x->Pv i Z H->g x Z H λσ2 H2=>tb {D with nx:=Pv (i+1),ct:=Pv (i+1),bk:=D.nx} σ2 H2) (hd:∀Z H,Pv xs.length Z H->D.nx Z H):tZ (Uy K a) g tb D Z H:=by
 refine zw Pv h0 (λi Z H hi p=>?_) λZ H p=>{{xs,hl _ Z H (ak _) p,ak _},hd Z H p};have q:=hl i Z H (bo hi) p;refine{{xs,_,q,ao hi},?_};rintro x H' ⟨rfl,y⟩;exact hs i x Z _ (y xs q) p
def uL{lo:Int}{g:TG}{tb:TS}{D:Ends}(Pv:Nat->St->Hp->Prop)(h0:Pv 0 Z H)
  (hs:∀i Z H,i<n->Pv i Z H->g (.int (lo+i)) Z H λσ2 H2=>tb {D with nx:=Pv (i+1),ct:=Pv (i+1),bk:=D.nx} σ2 H2) (hd:∀Z H,Pv n Z H->D.nx Z H):tZ (YF lo n) g tb D Z H:=by
 refine zw Pv h0 (λi Z H hi p=>{hi,?_}) λZ H p=>{ak _,hd Z H p};rintro x H' ⟨rfl,rfl⟩;exact hs i Z _ hi p
abbrev R2:=V->V->Hp->VK->Prop
end
def jH(X:Cx)(f:Value->Value->Sem Value)(r:R2):Prop:=
 ∀(pins:Aaa)(s:Shared)(Z:St)(H:Hp)(x y:V)(v u:Value)(Q:VK),Inv X pins Z H s->RelV x v->RelV y u->r x y H Q->
  wpAny (-6) X.A (f v u) (EP X pins Z Q) X.xe s
def UnR(X:Cx)(f:Value->Sem Value)(r:V->Hp->VK->Prop):Prop:=
 ∀(pins:Aaa)(s:Shared)(Z:St)(H:Hp)(x:V)(v:Value)(Q:VK),Inv X pins Z H s->RelV x v->r x H Q->
  wpAny (-6) X.A (f v) (EP X pins Z Q) X.xe s
def iN(X:Cx)(f:Value)(r:Aam->Hp->VK->Prop):Prop:=
 ∀(pins:Aaa)(s:Shared)(Z:St)(H:Hp)(xs:Aam)(us:Aae)(Q:VK),Inv X pins Z H s->Vals xs us->r xs H Q->
  wpAny (-6) X.A (call f us) (EP X pins Z Q) X.xe s
def afI(X:Cx)(r:V->Hp->(Bool->Hp->Prop)->Prop):Prop:=
 ∀(pins:Aaa)(s:Shared)(Z:St)(H:Hp)(x:V)(v:Value)(Q:Bool->Hp->Prop),Inv X pins Z H s->RelV x v->r x H Q->
  wpAny (-6) X.A (truthy v) (TP X pins Z Q) X.xe s
def W7(r:R2)(ta tb:TE):TE:=λZ H Q=>ta Z H λx H1=>tb Z H1 λy H2=>r x y H2 Q
def tUn(r:V->Hp->VK->Prop)(ta:TE):TE:=λZ H Q=>ta Z H λx H1=>r x H1 Q
inductive rI(C:Int->Int->Prop)(g:Int->Int->V)(x:V)(y:V)(H:Hp)(Q:VK):Prop
 |mk i j (_:x=.int i) (_:y=.int j) (_:C i j) (_:Q (g i j) H)
inductive NF(g:Int->Int->V)(x:V)(y:V)(H:Hp)(Q:VK):Prop
 |mk i j (_:x=.int i) (_:y=.int j) (_:Q (g i j) H)
inductive rU(g:Int->V)(x:V)(H:Hp)(Q:VK):Prop
 |mk i (_:x=.int i) (_:Q (g i) H)
section
variable{X:Cx}{a b:Expr}{ta tb:TE}{pos:Pos}
def WN(ha:PE X a ta)(hb:PE X b tb){R:V->V->Hp->Prop}(I:Inv X pins Z H s)
  (h:ta Z H λx H1=>tb Z H1 λy H2=>R x y H2) {f:Value->Value->Sem Value}
  (hf:∀v u s2 x y H2,Inv X pins Z H2 s2->RelV x v->RelV y u->R x y H2->wpAny (-6) X.A (f v u) Q X.xe s2):
  wpAny (-6) X.A (eval a X.env) (λv aaa=>wpAny (-6) X.A (eval b X.env) (λu aae=>wpAny (-6) X.A (f v u) Q X.xe aae) X.xe aaa) X.xe s:=by
 refine dq (-79) λv s1 x H1 I1 r1 q1=>?_;exact dq (hb pins s1 Z H1 _ I1 q1) λu s2 y H2 I2 r2 q2=>hf v u s2 x y H2 I2 r1 r2 q2
def du(ho:jH X (binaryOp op) r)(ha:PE X a ta)(hb:PE X b tb):PE X (.BinOp a op b pos) (W7 r ta tb):=by intro pins s Z H Q I h;exact wpAny_BinOp (WN ha hb I h λv u s2 x y H2 I2 rx ry q=>ho pins s2 Z H2 x y v u Q I2 rx ry q)
def Jo{op:UnaryOp}{r:V->Hp->VK->Prop}(ho:UnR X (unaryOp op) r)(ha:PE X a ta):PE X (.UnaryOp op a pos) (tUn r ta):=by intro pins s Z H Q I h;exact UnaryOp_ (dq (-79) λv s1 x H1 I1 r1 q1=>ho pins s1 Z H1 x v Q I1 r1 q1)
def RL{g:Int->Int->Int}
  (rule:∀(i j:Int)(t u:Tok)(s:Shared)(Q:Aac)(E:Aac),C i j->Q (.int (g i j) s.toks) {s with toks:=s.toks+1}->wpAny (-6) X.A (f (.int i t) (.int j u)) Q E s):
  jH X f (rI C λi j=>.int (g i j)):=by
 intro pins s Z H x y v u Q I rx ry h;obtain⟨i,j,rfl,rfl,hc,q⟩:=h;obtain⟨t,rfl⟩:=rx;obtain⟨t',rfl⟩:=ry;exact rule i j t t' s _ _ hc {.int (g i j),H,I.tok _,⟨_,rfl⟩,q}
def aea{g:Int->Int->Int}
  (rule:∀(i j:Int)(t u:Tok)(s:Shared)(Q:Aac)(E:Aac),Q (.int (g i j) s.toks) {s with toks:=s.toks+1}->wpAny (-6) X.A (f (.int i t) (.int j u)) Q E s):
  jH X f (NF λi j=>.int (g i j)):=by
 intro pins s Z H x y v u Q I rx ry h;obtain⟨i,j,rfl,rfl,q⟩:=h;obtain⟨t,rfl⟩:=rx;obtain⟨t',rfl⟩:=ry;exact rule i j t t' s _ _ {.int (g i j),H,I.tok _,⟨_,rfl⟩,q}
def Vv{g:Int->Int->Bool}
  (rule:∀(i j:Int)(t u:Tok)(s:Shared)(Q:Aac)(E:Aac),Q (.bool (g i j)) s->wpAny (-6) X.A (f (.int i t) (.int j u)) Q E s):
  jH X f (NF λi j=>.bl (g i j)):=by
 intro pins s Z H x y v u Q I rx ry h;obtain⟨i,j,rfl,rfl,q⟩:=h;obtain⟨t,rfl⟩:=rx;obtain⟨t',rfl⟩:=ry;exact rule i j t t' s _ _ {.bl (g i j),H,I,rfl,q}
def afL(i j:Int):Prop:=0<j/\j<1073741824
def afK(i j:Int):Prop:=0<=j/\j<=1000000/\i.natAbs<2^64
def WS(i j:Int):Prop:=(-(2^64)<i/\i<2^64)\/(-(2^64)<j/\j<2^64)
def WS.ok(h:WS i j):IntMulOk i j:=by
 rcases h with⟨h1,h2⟩|⟨h1,h2⟩
 ·exact .of_left (intBits_le_64 h1 h2)
 ·exact .of_right (intBits_le_64 h1 h2)
def jW:jH X (binaryOp .Add) (NF λi j=>.int (i+j)):=aea λ_ _ _ _ _ _ _ q=>add_int q
def FI:jH X (binaryOp .Mult) (rI WS λi j=>.int (i*j)):=RL λ_ _ _ _ _ _ _ hc q=>mul_int q hc.ok
def Zy:jH X (binaryOp .FloorDiv) (rI afL λi j=>.int (i/j)):=RL λi j _ _ _ _ _ hc q=>by have h1:=hc.1;have h2:=hc.2;exact floordiv_int ∅ (by rw[vf i ∅];exact q) (.inl (PyProof.noPylong_small ∅))
def rO:jH X (binaryOp .Mod) (rI (λ_ j=>0<j) λi j=>.int (i % j)):=RL λi j _ _ _ _ _ hc q=>by exact mod_int' ∅ (by rw[Int.fmod_eq_emod_of_nonneg i ∅];exact q)
def abf:jH X (binaryOp .Pow) (rI afK λi j=>.int (i^j.toNat)):=RL λ_ _ _ _ _ _ _ hc q=>pow_int_small hc.1 hc.2.1 hc.2.2 q
def unI{f:Value->Sem Value}{g:Int->Int}
  (rule:∀(i:Int)(t:Tok)(s:Shared)(Q:Aac)(E:Aac),Q (.int (g i) s.toks) {s with toks:=s.toks+1}->wpAny (-6) X.A (f (.int i t)) Q E s):
  UnR X f (rU λi=>.int (g i)):=by
 intro pins s Z H x v Q I rx h;obtain⟨i,rfl,q⟩:=h;obtain⟨t,rfl⟩:=rx;exact rule i t s _ _ {.int (g i),H,I.tok _,⟨_,rfl⟩,q}
def Fn:UnR X (unaryOp .USub) (rU λi=>.int (-i)):=unI λ_ _ _ _ _ q=>neg_int q
def aa0:V->V->Bool
 | .cR,.cR=>true| .cR,.int _=>true| .int _,.cR=>true| .cR,.bl _=>true| .bl _,.cR=>true| .cR,.str _=>true| .str _,.cR=>true
 | .int _,.int _=>true| .bl _,.bl _=>true| .str _,.str _=>true| .vA _,.vA _=>true
 | .int _,.str _=>true| .str _,.int _=>true| .bl _,.str _=>true| .str _,.bl _=>true
 |_,_=>false
def rEq:R2:=λx y H Q=>aa0 x y=true/\Q (.bl (decide (x=y))) H
def rNe:R2:=λx y H Q=>aa0 x y=true/\Q (.bl (!decide (x=y))) H
def OD:decide (V.int i=V.int j)=(i==j):=by rw[iO];simp
def TL:decide (V.bl i=V.bl j)=(i==j):=by rw[iO];simp
def OC:decide (V.str i=V.str j)=(i==j):=by rw[iO];simp
def OE:decide (V.vA i=V.vA j)=(i.toList==j.toList):=by rw[iO];cases i;cases j;simp
variable{c:Expr}{tc:TE}
def dY(I:Inv X pins Z H s)(q:Q (.bl k) H)(e:k=k'):EP X pins Z Q (.bool k') s:=by subst e;exact{.bl k,H,I,rfl,q}
def Ap:jH X (compareOp .Eq) rEq:=by
 intro pins s Z H x y v u Q I rx ry h;obtain⟨hs,q⟩:=h;cases x with
 |cR=>
  cases rx;cases y with
  |cR=>cases ry;exact PySem.EqNone.eq_none_none (dY I q (-8))
  |bl j=>cases ry;exact PySem.EqNone.eq_none_bool (dY I q (-8))
  |int j=>obtain⟨t',rfl⟩:=ry;exact PySem.EqNone.eq_none_int (dY I q (-8))
  |str j=>obtain⟨t',rfl⟩:=ry;exact PySem.EqNone.eq_none_str (dY I q (-8))
  |_=>exact absurd (show false=true from hs) bu
 |bl i=>
  cases rx;cases y with
  |cR=>cases ry;exact PySem.EqNone.eq_bool_none (dY I q (-8))
  |bl j=>cases ry;exact eq_bool (dY I q TL)
  |str j=>obtain⟨t',rfl⟩:=ry;exact PySem.EqMixed.eq_bool_str (dY I q (-8))
  |_=>exact absurd (show false=true from hs) bu
 |int i=>
  obtain⟨t,rfl⟩:=rx;cases y with
  |cR=>cases ry;exact PySem.EqNone.eq_int_none (dY I q (-8))
  |int j=>obtain⟨t',rfl⟩:=ry;exact eq_int (dY I q OD)
  |str j=>obtain⟨t',rfl⟩:=ry;exact PySem.EqMixed.eq_int_str (dY I q (-8))
  |_=>exact absurd (show false=true from hs) bu
 |str i=>
  obtain⟨t,rfl⟩:=rx;cases y with
  |cR=>cases ry;exact PySem.EqNone.eq_str_none (dY I q (-8))
  |bl j=>cases ry;exact PySem.EqMixed.eq_str_bool (dY I q (-8))
  |int j=>obtain⟨t',rfl⟩:=ry;exact PySem.EqMixed.eq_str_int (dY I q (-8))
  |str j=>obtain⟨t',rfl⟩:=ry;exact eq_str (dY I q OC)
  |_=>exact absurd (show false=true from hs) bu
 |vA i=>
  obtain⟨t,rfl⟩:=rx;cases y with
  |vA j=>obtain⟨t',rfl⟩:=ry;exact PySem.W.eq_bytes (dY I q OE)
  |_=>exact absurd (show false=true from hs) bu
 |_=>cases y<;>exact absurd (show false=true from hs) bu
def adb:jH X (compareOp .NotEq) rNe:=by
 intro pins s Z H x y v u Q I rx ry h;obtain⟨hs,q⟩:=h;cases x with
 |cR=>
  cases rx;cases y with
  |cR=>cases ry;exact PySem.EqNone.ne_none_none (dY I q (-8))
  |bl j=>cases ry;exact PySem.EqNone.ne_none_bool (dY I q (-8))
  |int j=>obtain⟨t',rfl⟩:=ry;exact PySem.EqNone.ne_none_int (dY I q (-8))
  |str j=>obtain⟨t',rfl⟩:=ry;exact PySem.EqNone.ne_none_str (dY I q (-8))
  |_=>exact absurd (show false=true from hs) bu
 |bl i=>
  cases rx;cases y with
  |cR=>cases ry;exact PySem.EqNone.ne_bool_none (dY I q (-8))
  |bl j=>cases ry;exact ne_bool (dY I q (bV not TL))
  |str j=>obtain⟨t',rfl⟩:=ry;exact PySem.EqMixed.ne_bool_str (dY I q (-8))
  |_=>exact absurd (show false=true from hs) bu
 |int i=>
  obtain⟨t,rfl⟩:=rx;cases y with
  |cR=>cases ry;exact PySem.EqNone.ne_int_none (dY I q (-8))
  |int j=>obtain⟨t',rfl⟩:=ry;exact ne_int (dY I q (bV not OD))
  |str j=>obtain⟨t',rfl⟩:=ry;exact PySem.EqMixed.ne_int_str (dY I q (-8))
  |_=>exact absurd (show false=true from hs) bu
 |str i=>
  obtain⟨t,rfl⟩:=rx;cases y with
  |cR=>cases ry;exact PySem.EqNone.ne_str_none (dY I q (-8))
  |bl j=>cases ry;exact PySem.EqMixed.ne_str_bool (dY I q (-8))
  |int j=>obtain⟨t',rfl⟩:=ry;exact PySem.EqMixed.ne_str_int (dY I q (-8))
  |str j=>obtain⟨t',rfl⟩:=ry;exact ne_str (dY I q (bV not OC))
  |_=>exact absurd (show false=true from hs) bu
 |vA i=>
  obtain⟨t,rfl⟩:=rx;cases y with
  |vA j=>obtain⟨t',rfl⟩:=ry;exact PySem.W.ne_bytes (dY I q (bV not OE))
  |_=>exact absurd (show false=true from hs) bu
 |_=>cases y<;>exact absurd (show false=true from hs) bu
def Xq:jH X (compareOp .Lt) (NF λi j=>.bl (decide (i<j))):=Vv λ_ _ _ _ _ _ _ q=>lt_int q
def Pr:jH X (compareOp .LtE) (NF λi j=>.bl (decide (i<=j))):=Vv λ_ _ _ _ _ _ _ q=>le_int q
def Jp:jH X (compareOp .Gt) (NF λi j=>.bl (decide (j<i))):=Vv λ_ _ _ _ _ _ _ q=>gt_int q
def RH:jH X (compareOp .In) (λx y H Q=>∃i j,x=.str i/\y=.str j/\Q (.bl (!(Builtin.Str.occurrences j i 0 j.length 1).isEmpty)) H):=by intro pins s Z H x y v u Q I rx ry h;obtain⟨i,j,rfl,rfl,q⟩:=h;obtain⟨t,rfl⟩:=rx;obtain⟨t',rfl⟩:=ry;exact in_str (dY I q rfl)
def abi:jH X (compareOp .Is) (λx y H Q=>y=.cR/\Q (.bl (decide (x=.cR))) H):=by
 intro pins s Z H x y v u Q I rx ry h;obtain⟨rfl,q⟩:=h;cases ry;refine is_none_gen (dY I q ?_);cases x<;>first
  |(cases rx;rfl)
  |(obtain⟨t,rfl⟩:=rx;rfl)
def gQ(b:Expr)(h:op≠ .In:=by decide)(h2:op≠ .NotIn:=by decide):behindInMarks op b=false:=by
 have e1:(op==CmpOp.In)=false:=by cases op<;>first|rfl|exact absurd rfl h
 have e2:(op==CmpOp.NotIn)=false:=by cases op<;>first|rfl|exact absurd rfl h2
 cases b<;>simp[behindInMarks,e1,e2]
def yZ(ho:jH X (compareOp op) r)(ha:PE X a ta)(hb:PE X b tb)(hm:behindInMarks op b=false):PE X (.Compare a [op] [b] pos) (W7 r ta tb):=by intro pins s Z H Q I h;exact wpAny_Compare1 (WN ha hb I h λv u s2 x y H2 I2 rx ry q=>ho pins s2 Z H2 x y v u Q I2 rx ry q) hm
inductive aaM(Q:Bool->Hp->Prop)(x:V)(H':Hp):Prop
 |mk k (_:x=.bl k) (_:Q k H')
def acU(t:TE):TT:=λZ H Q=>t Z H λx H'=>aaM Q x H'
def eG(ho:jH X (compareOp op) r)(ha:PE X a ta)(hb:PE X b tb)(hm:behindInMarks op b=false):PT X (.Compare a [op] [b] pos) (acU (W7 r ta tb)):=by intro pins s Z H Q I h;refine yI (dq (-79) λv s1 x H1 I1 r1 q1=>dq (hb pins s1 Z H1 _ I1 q1) λu s2 y H2 I2 r2 q2=>iR (ho pins s2 Z H2 x y v u _ I2 r1 r2 q2) λc s3 hz6=>?_) hm;obtain⟨z,H3,I3,r3,k,e,q3⟩:=hz6;subst e;cases r3;exact iP ⟨H3,I3,q3⟩
def aaS(r r':R2)(ta tb tc:TE):TE:=λZ H Q=>ta Z H λx H1=>tb Z H1 λy H2=>r x y H2 λz H3=>∃k,z=.bl k/\
 (if k=true then tc Z H3 λw' H4=>r' y w' H4 Q else Q (.bl false) H3)
def Vr(ho:jH X (compareOp op) r)(sQ:jH X (compareOp op') r')(ha:PE X a ta)(hb:PE X b tb)(hc:PE X c tc)
  (hm:lastMarks [op,op'] [b,c]=false:=by with_unfolding_all rfl):PE X (.Compare a [op,op'] [b,c] pos) (aaS r r' ta tb tc):=by
 intro pins s Z H Q I h;refine Compare_chain (dq (-79) λv s1 x H1 I1 r1 q1=>chain_link (dq (hb pins s1 Z H1 _ I1 q1) λu s2 y H2 I2 r2 q2=>iR (ho pins s2 Z H2 x y v u _ I2 r1 r2 q2) λd s3 XO=>?_)) hm;obtain⟨z,H3,I3,r3,k,e,q3⟩:=XO;subst e;cases r3;refine iP ?_;cases k with
 |false=>exact ite_ff {.bl false,H3,I3,rfl,q3}
 |true=>exact ite_tt (chain_last (iR (hc pins s3 Z H3 _ I3 q3) λw' s4 ⟨z',H4,I4,r4,q4⟩=>sQ pins s4 Z H4 y z' u w' Q I4 r2 r4 q4))
def acG(K:Frag)(x:V)(H:Hp)(k:Bool):Prop:=
 match x with
 | .cR=>k=false
 | .bl b=>k=b
 | .int i=>k=(i !=0)
 | .str y=>y.length<=sizeLine/\k=((y.length:Int) !=0)
 | .vA y=>y.size<=sizeLine/\k=((y.size:Int) !=0)
 | .ref p=>(∃xs,aY K H p xs/\k=!xs.isEmpty)\/(∃xs,bC K H p xs/\k=!xs.isEmpty)\/∃kvs,H p=some (.dK kvs)/\k=!kvs.isEmpty
 |_=>False
def PR(r:KV kvs vs):(!vs.isEmpty)=!kvs.isEmpty:=by cases r<;>rfl
def FX(r:Vals xs aS):(!aS.toArray.isEmpty)=!xs.isEmpty:=by cases r<;>simp
def B4:(sizeLine:Nat)<2^63:=by rw[bz];decide
def aaD:afI X (λx H Q=>∃k,acG X.K x H k/\Q k H):=by
 intro pins s Z H x v Q I rx h;obtain⟨k,e,q⟩:=h;have hl:=B4;have hs:sizeLine=16777216:=bz;cases x with
 |cR=>
  cases rx;have e':k=false:=e;subst e';exact truthy_none ⟨H,I,q⟩
 |bl b=>
  cases rx;have e':k=b:=e;subst e';exact iP ⟨H,I,q⟩
 |int i=>
  obtain⟨t,rfl⟩:=rx;have e':k=(i !=0):=e;subst e';exact PySem.P.truthy_int ⟨H,I,q⟩
 |str y=>
  obtain⟨t,rfl⟩:=rx;obtain⟨hy,e'⟩:y.length<=sizeLine/\k=((y.length:Int) !=0):=e;subst e';exact PySem.P.truthy_str ∅ {H,I.tok _,q}
 |vA y=>
  obtain⟨t,rfl⟩:=rx;obtain⟨hy,e'⟩:y.size<=sizeLine/\k=((y.size:Int) !=0):=e;subst e';exact PySem.W.truthy_bytes ∅ {H,I.tok _,q}
 |ref p=>
  cases rx;have e':(∃xs,aY X.K H p xs/\k=!xs.isEmpty)\/(∃xs,bC X.K H p xs/\k=!xs.isEmpty)\/∃kvs,H p=some (.dK kvs)/\k=!kvs.isEmpty:=e;rcases e' with⟨xs,hx,e'⟩|⟨xs,hx,e'⟩|⟨kvs,hx,e'⟩
  ·subst e';obtain⟨aS,r,pl,hz⟩:=I.list hx;have hlen:=r.length;exact wpAny_truthy_list pl.isList (by simp only[aN];lia) {H,I.tok _,by rw[FX r];exact q}
  ·subst e';obtain⟨aS,r,pl,hz⟩:=I.tuple hx;have hlen:=r.length;exact truthy_tuple pl (by simp only[aN];lia) {H,I.tok _,by rw[FX r];exact q}
  ·subst e';obtain⟨hz,hS,vs,r,m⟩:kvs.length<=sizeLine/\(p==sysModules)=false/\∃vs,KV kvs vs/\s.heap.DictOf (bW X.prog X.w) p vs:=I.bj p _ hx;have hlen:kvs.length=vs.length:=bh r;exact wpAny_truthy_dict hS m ∅ {H,I.tok _,by rw[PR r];exact q}
 |_=>exact(show False from e).elim
def Vi(ha:PE X a ta)(he:∀whole,isTrue a X.env whole=(do let v<-whole;standAt a.pos;holding [v] (truthy v))):
  PT X a (λZ H Q=>ta Z H λx H'=>∃k,acG X.K x H' k/\Q k H'):=by
 intro pins s Z H Q I h;exact isTrue_plain (dq (-79) λv s1 x H1 I1 r1 q1=>aaD pins s1 Z H1 x v Q I1 r1 q1) (he _)
def Aq:jH X (binaryOp .Add) (λx y H Q=>∃i j,x=.str i/\y=.str j/\i.length+j.length<=sizeLine/\Q (.str (i++j)) H):=by intro pins s Z H x y v u Q I rx ry h;obtain⟨i,j,rfl,rfl,hz,q⟩:=h;obtain⟨t,rfl⟩:=rx;obtain⟨t',rfl⟩:=ry;exact add_str (λt' tk=>{.str (i++j),H,I.tok _,⟨_,rfl⟩,q}) hz
def jy(r:Vals [x] us):∃u,us=[u]/\RelV x u:=by
 cases r with
 |cons r1 r2=>cases r2;exact⟨_,rfl,r1⟩
def Fj(r:Vals [x,y] us):∃u w',us=[u,w']/\RelV x u/\RelV y w':=by
 cases r with
 |cons r1 r2=>
  cases r2 with
  |cons r3 r4=>cases r4;exact⟨_,_,rfl,r1,r3⟩
def WM:iN X (.builtin "abs") (λxs H Q=>∃i,xs=[.int i]/\Q (.int (if i<0 then -i else i)) H):=by intro pins s Z H xs us Q I r h;obtain⟨i,rfl,q⟩:=h;obtain⟨u,rfl,t,rfl⟩:=jy r;exact call_abs_int λu tk=>{.int (if i<0 then -i else i),H,I.tok _,⟨_,rfl⟩,q}
def acK(K:Frag)(x:V)(H:Hp)(n:Nat):Prop:=
 match x with
 | .str y=>y.length<=sizeLine/\n=y.length
 | .vA y=>y.size<=sizeLine/\n=y.size
 | .ref p=>(∃xs,aY K H p xs/\n=xs.length)\/∃xs,bC K H p xs/\n=xs.length
 |_=>False
def eC:iN X (.builtin "len") (λxs H Q=>∃x n,xs=[x]/\acK X.K x H n/\Q (.int n) H):=by
 intro pins s Z H xs us Q I r h;obtain⟨x,n,rfl,e,q⟩:=h;obtain⟨u,rfl,rx⟩:=jy r;have hs:sizeLine=16777216:=bz;cases x with
 |str y=>
  obtain⟨t,rfl⟩:=rx;obtain⟨hy,e'⟩:y.length<=sizeLine/\n=y.length:=e;subst e';exact len_str ∅ {.int _,H,I.tok _,⟨_,rfl⟩,q}
 |vA y=>
  obtain⟨t,rfl⟩:=rx;obtain⟨hy,e'⟩:y.size<=sizeLine/\n=y.size:=e;subst e';exact PySem.W.len_bytes ∅ {.int _,H,I.tok _,⟨_,rfl⟩,q}
 |ref p=>
  cases rx;have e':(∃xs,aY X.K H p xs/\n=xs.length)\/∃xs,bC X.K H p xs/\n=xs.length:=e;rcases e' with⟨xs,hx,e'⟩|⟨xs,hx,e'⟩
  ·subst e';obtain⟨aS,r',pl,hz⟩:=I.list hx;have hlen:=r'.length;exact Calls.call_len_list pl.isList (by simp only[aN];lia) {.int xs.length,H,I.tok _,{_,by simp only[aN];rw[hlen]},q}
  ·subst e';obtain⟨aS,r',pl,hz⟩:=I.tuple hx;have hlen:=r'.length;exact len_tuple pl (by simp only[aN];lia) {.int xs.length,H,I.tok _,{_,by simp only[aN];rw[hlen]},q}
 |_=>exact(show False from e).elim
structure Fd(h:Heap)(x dx C:Addr)(mA:Aab):Prop where
 obj:h.get? x=some (instObj C dx)
 ns:h.Ns1 dx mA
 ne:dx≠x
def Sg{h:Heap}(n:h.Ns1 dx mA):∃od,h.get? dx=some od/\∀name,lookIn name od=some (mA name):=by
 obtain⟨o,es,ep,ho,hd,hk,_,hm⟩:=n;refine{o,ho,λname=>?_};have e:=hm name;unfold nsFind findBy at e;rw[<-Array.find?_toList]at e;unfold lookIn;rw[hd];dsimp only;split
 ·rename_i y q;rw[q]at e;exact bV some e
 ·rename_i q;rw[q]at e;have a:es.toList.any (·.refKey)=false:=by rw[List.any_eq_false];intro y hy;obtain⟨z,t,lQ⟩:=hk y (mH.mp hy);simp[DictEntry.refKey,lQ]
  rw[aw (by rw[a];exact bu)];exact bV some e
def Fd.look(I:Fd h x dx C mA):∃od,PySem.W.InstAt h x (instObj C dx) C (some od)/\∀name,lookIn name od=some (mA name):=
 let⟨od,ho,hl⟩:=Sg I.ns
 {od,{I.obj,rfl,rfl,ho},hl}
variable{prog:Program}{w:World}{A:Around}{E:Aac}{s:Shared}{K:Frag}{x dx C f:Addr}{mA:Aab}{name:Str}{v:Value}
def get_map(X:K.In s.heap)(I:Fd s.heap x dx C mA)(hg:plainGet K C name=true)(hh:hasDictIn K C=true)
  (ha:findIn K (.ref C) name=some none) (hv:mA name=some v) (B9:PySem.W.handedIn v=true) (h:Q v {s with toks:=s.toks+1}):
  wpAny (-5) A (getAttr (.ref x) name expr) Q E s:=by
 obtain⟨od,J,hl⟩:=I.look;exact PySem.W.get_value X J (sX hg).1 (PySem.W.findObj_own hh ha rfl (by rw[hl,hv])) B9 h
def Wm(X:K.In s.heap)(I:Fd s.heap x dx C mA)(hg:plainGet K C name=true)
  (hf:findIn K (.ref C) name=some (some (.ref f))) (ht:isFn K (.ref f)=true) (hv:mA name=none) (h:Q (.ref f,[.ref x]) s):
  wpAny (-5) A (getMethod (.ref x) name pl) Q E s:=by
 obtain⟨od,J,hl⟩:=I.look;exact PySem.W.method_fn X J (sX hg).1 (sX hg).2 hf (sv.mp ht) (by show(lookIn name od).map (·.isSome)=some false;rw[hl,hv];rfl) h
def Y5(X:K.In s.heap)(I:Fd s.heap x dx C mA)
  (hs:findIn K (.ref C) "__setattr__"=some (some (.builtin "object.__setattr__"))) (hp:PySem.W.plainOver K C=true) (ht:PySem.W.takerIn K C name=some none) (hh:hasDictIn K C=true)
  (hw:PySem.Within mA ns) (hsz:ns.length<=sizeLine)
  (h:∀h',Fd h' x dx C (λy=>if y=name then some v else mA y)->Heap.SameBut dx s.heap h'->Q () {s with heap:=h',toks:=s.toks+2}):
  wpAny (-5) A (setAttr (.ref x) name v) Q E s:=by
 obtain⟨od,J,hl⟩:=I.look;refine PySem.W.set_plain X J hs (PySem.W.osa_open X J hp ht λb=>?_);obtain⟨cd,hc,sd⟩:=PySem.W.any_some hh;refine ae (ag (ae (ae (wpAny_loadPart I.obj (ae (PySem.W.Looks.here (PySem.W.looks_clsIn X hc) ?_))))));rw[sd];refine ag (ae (ag (ae ?_)));refine wpAny_nsSet1 I.ns λh' D9 ma=>?_;obtain⟨oD,esD,epD,hoD,hdD,hcD⟩:=D9.count (PySem.Within.cons name v hw);exact ae (wpAny_lookBehind hoD (by rw[hdD];exact pastItsLine_dict (aJ hcD (by rw[bA];lia))) (ag (h _ {(ma.2 _ (cB I.ne)).trans I.obj,D9,I.ne} ma)))
def VF(X:K.In s.heap)(hm:PySem.W.makesIn K C=true)
  (hi:findIn K (.ref C) "__init__"=some (some (.ref f))) (hf:PySem.W.typeIn K (.ref f)=some (.type "function"))
  (h:codeAny (-5) (A.under (.builtin "type.__call__" {.ref C::vs,kw})) (.call (.ref f) {.ref (-19)::vs,kw}) (PySem.W.InitBack (-19) R)
   {s with heap:=(s.heap.push emptyDict).push (instObj C s.heap.objs.size)}):
  codeAny (-5) A (.call (.ref C) ⟨vs,kw⟩) R s:=by
 obtain⟨hh,g,d,t,os⟩:=s;exact PySem.W.make_core (PySem.W.makes_of X hm) (PySem.W.looks_findIn X hi) (λself=>PySem.W.bind_fn X self hf) (.inl rfl) h
end
def fK(f:Str)(v:V):List (Str×V)->List (Str×V)
 |[]=>[(f,v)]
 |(g,x)::r=>if g=f then(g,v)::r else(g,x)::fK f v r
theorem DS(f g:Str)(v:V):∀fs:List (Str×V),(fK f v fs).lookup g=if g=f then some v else fs.lookup g
 |[]=>by
  show List.lookup g [(f,v)]=_;by_cases h:g=f
  ·have hb:=sv.mpr h;simp only[List.lookup,hb,aG h]
  ·have hb:=fT.mpr h;simp only[List.lookup,hb,aw h]
 |(k,x)::r=>by
  rw[show fK f v ((k,x)::r)=(if k=f then(k,v)::r else(k,x)::fK f v r)from rfl];by_cases hk:k=f
  ·rw[aG hk];by_cases h:g=k
   ·have hb:=sv.mpr h;simp only[List.lookup,hb,aG (h.trans hk)]
   ·have hb:=fT.mpr h;simp only[List.lookup,hb,aw (λe:g=f=>h (e.trans hk.symm))]
  ·rw[aw hk];by_cases h:g=k
   ·have hb:=sv.mpr h;simp only[List.lookup,hb,aw (λe:g=f=>hk (h.symm.trans e))]
   ·have hb:=fT.mpr h;simp only[List.lookup,hb];exact(DS f g v r)
theorem B5(f:Str)(v:V):∀fs:List (Str×V),f∈(fK f v fs).map (·.1)/\∀g,g∈fs.map (·.1)->g∈(fK f v fs).map (·.1)
 |[]=>{by simp[fK],λg h=>by simp at h}
 |(k,x)::r=>by
  obtain⟨i1,i2⟩:=B5 f v r;rw[show fK f v ((k,x)::r)=(if k=f then(k,v)::r else(k,x)::fK f v r)from rfl];by_cases hk:k=f
  ·rw[aG hk];subst hk;exact{by simp,λg h=>by simpa using h}
  ·rw[aw hk];refine{?_,λg h=>?_}
   ·rw[bw];exact aB _ i1
   ·rw[bw]at h⊢;rcases aH.mp h with e|e
    ·exact aH.mpr (.inl e)
    ·exact aB _ (i2 g e)
theorem DU(f:Str)(v:V):∀fs:List (Str×V),(fK f v fs).length<=fs.length+1
 |[]=>by simp[fK]
 |(k,x)::r=>by
  have ih:=DU f v r;rw[show fK f v ((k,x)::r)=(if k=f then(k,v)::r else(k,x)::fK f v r)from rfl];by_cases hk:k=f
  ·rw[aG hk,bA,bA];lia
  ·rw[aw hk,bA,bA];lia
def lU.some_of(r:lU (some v) o):∃u,o=some u/\RelV v u:=by
 cases o with
 |none=>exact(show False from r).elim
 |some u=>exact⟨u,rfl,r⟩
def lU.none_of(r:lU none o):o=none:=by
 cases o with
 |none=>rfl
 |some u=>exact(show False from r).elim
def Ti(r:RelV v u):PySem.W.handedIn u=true:=by
 cases v with
 |cR=>cases(show u=Value.none from r);rfl
 |bl b=>cases(show u=Value.bool b from r);rfl
 |int i=>obtain⟨t,e⟩:=(show∃t,u=Value.int i t from r);cases e;rfl
 |str x=>obtain⟨t,e⟩:=(show∃t,u=Value.str x t from r);cases e;rfl
 |vA b=>obtain⟨t,e⟩:=(show∃t,u=Value.bytes b t from r);cases e;rfl
 |LU b=>obtain⟨t,e⟩:=(show∃t,u=Value.float b t from r);cases e;rfl
 |ref a=>cases(show u=Value.ref a from r);rfl
 |ty n=>cases(show u=Value.type n from r);rfl
section
variable{P:Program}{w:World}{H:Hp}{h:Heap}{a C dx:Addr}{fs:List (Str×V)}
def C8(bj:ko P w H h)(e:H a=some (.ins C dx fs)):∃mA,Fd h a dx C mA/\(∀f,lU (fs.lookup f) (mA f))/\PySem.Within mA (fs.map (·.1))/\fs.length<=1000/\H dx=some (.own a):=by obtain⟨d,z,ne,ob,mA,n,r,q⟩:=(show dE P w H h a (.ins C dx fs)from bj a _ e);exact{mA,⟨ob,n,ne⟩,r,q,z,d}
end
structure CU(K:Frag)(C:Addr):Prop where
 pg:plainGet K C Str.empty=true
 hd:hasDictIn K C=true
 po:PySem.W.plainOver K C=true
 sa:findIn K (.ref C) "__setattr__"=some (some (.builtin "object.__setattr__"))
def CU.get{K:Frag}(c:CU K C)(f:Str):plainGet K C f=true:=c.pg
def p6(K:Frag)(C:Addr)(f:Str):Prop:=findIn K (.ref C) f=some none
def p6.acT{K:Frag}(n:p6 K C f):PySem.W.takerIn K C f=some none:=by unfold PySem.W.takerIn;rw[show findIn K (.ref C) f=some none from n];rfl
structure Con(K:Frag)(C:Addr)(f:Str)(v:V)(u:Value):Prop where
 at_:findIn K (.ref C) f=some (some u)
 rel:RelV v u
 get:PySem.W.specialIn K u "__get__"=some none
 cp:PySem.W.copiedNames.contains f=false
structure Meth(K:Frag)(C:Addr)(m:Str)(f:Addr):Prop where
 at_:findIn K (.ref C) m=some (some (.ref f))
 fn:isFn K (.ref f)=true
 kp:keepIn K (.ref f)=true
section
variable{X:Cx}{pins:Aaa}{Z:St}{H:Hp}{s:Shared}{a C dx:Addr}{fs:List (Str×V)}{f:Str}{v:V}{A:Around}{E:Aac}
def Qh(I:Inv X pins Z H s)(e:H a=some (.ins C dx fs))(c:CU X.K C)(n:p6 X.K C f)(l:fs.lookup f=some v)
  (h:∀u s',Inv X pins Z H s'->RelV v u->Q u s'):wpAny (-6) A (getAttr (-64) f b) Q E s:=by
 obtain⟨mA,O,r,_,_,_⟩:=C8 I.bj e;obtain⟨u,hu,ru⟩:=lU.some_of (l▸r f);exact get_map I.nj O (c.get f) c.hd n hu (Ti ru) (h u _ (I.tok _) ru)
def Qg(I:Inv X pins Z H s)(e:H a=some (.ins C dx fs))(c:CU X.K C)(k:Meth X.K C m g)(l:fs.lookup m=none)
  (h:Q (.ref g,[.ref a]) s):wpAny (-6) A (getMethod (-64) m pl) Q E s:=by
 obtain⟨mA,O,r,_,_,_⟩:=C8 I.bj e;exact Wm I.nj O (c.get m) k.at_ k.fn (lU.none_of (by rw[<-l];exact r m)) h
def O4(I:Inv X pins Z H s)(e:H a=some (.ins C dx fs))(c:CU X.K C)(n:p6 X.K C f)(hl:fs.length<1000)(ry:RelV y u)
  (h:∀s',Inv X pins Z (upd H a (.ins C dx (fK f y fs))) s'->Q () s'):wpAny (-6) A (setAttr (-64) f u) Q E s:=by
 obtain⟨mA,O,r,wi,_,ho⟩:=C8 I.bj e;refine Y5 I.nj O c.sa c.po n.acT c.hd wi (by rw[af,bz];lia) λh' O' sb=>h _ ?_;refine I.write (e▸True.intro) (.inr ho) (λb q hb z=>(sb.2 b hb).trans z) (let⟨o,_,_,e',_⟩:=O'.ns;⟨o,e'⟩) ?_;refine{ay O.ne▸ho,?_,O.ne,O'.obj,_,O'.ns,λg=>?_,λg hg=>?_}
 ·have:=DU f y fs;lia
 ·show lU ((fK f y fs).lookup g) (if g=f then some u else mA g);rw[DS];by_cases q:g=f
  ·rw[aG q,aG q];exact ry
  ·rw[aw q,aw q];exact r g
 ·by_cases q:g=f
  ·rw[q];exact(B5 f y fs).1
  ·refine(B5 f y fs).2 g (wi g λz=>hg ?_);show(if g=f then some u else mA g)=none;rw[aw q];exact z
def Inv.made(I:Inv X pins Z H s):Inv X pins Z (upd (upd H s.heap.objs.size (.own (-19))) (-19) (.ins C s.heap.objs.size []))
  {s with heap:=(s.heap.push emptyDict).push (instObj C s.heap.objs.size)}:=by
 have e1:(s.heap.push emptyDict).get? s.heap.objs.size=some emptyDict:=aE s.heap rfl;have e2:((s.heap.push emptyDict).push (instObj C s.heap.objs.size)).get? (-19)=some (instObj C s.heap.objs.size):=by have:=aE (s.heap.push emptyDict) (o:=instObj C s.heap.objs.size) rfl;rwa [cJ]at this
 have I1:=I.laid (o:=.own (-19)) (t':=s.toks) (λb u q=>ah _ q) (ak _) ⟨_,e1⟩;refine I1.laid (λb u q=>ah _ q) (CI (cJ _ _)) ?_;have ne:s.heap.objs.size≠s.heap.objs.size+1:=aI (c7 _);refine{by rw[ay ne,au],aQ _,ne,e2,λ_=>none,(Heap.Ns1.of_empty ({emptyDict,#[],_,e1,rfl,(λe he=>absurd he (-8)),λ_=>rfl})).at λo q=>ah _ q,λ_=>True.intro,λy hy=>absurd rfl hy}
def aak(hb:attributeBase e f env (eval e env)=eval e env)
  (h:wpAny (-5) A (eval e env) (λo aaa=>wpAny (-5) A (getAttr o f true) Q E aaa) E s):wpAny (-5) A (eval (.Attribute e f pos) env) Q E s:=
 Attribute_any_ h (by rw[arm_eval_Attribute,hb])
end
inductive acY(K:Frag)(f:Str)(Q:VK)(x:V)(H1:Hp):Prop
 |mk a C dx fs v (_:x=.ref a) (_:H1 a=some (.ins C dx fs)) (_:CU K C) (_:p6 K C f) (_:fs.lookup f=some v) (_:Q v H1)
def UR(K:Frag)(ta:TE)(f:Str):TE:=λZ H Q=>ta Z H λx H1=>acY K f Q x H1
inductive ac7(K:Frag)(f:Str)(D:Ends)(Z:St)(y:V)(x:V)(H2:Hp):Prop
 |mk a C dx fs (_:x=.ref a) (_:H2 a=some (.ins C dx fs)) (_:CU K C) (_:p6 K C f) (_:fs.length<1000) (_:D.nx Z (upd H2 a (.ins C dx (fK f y fs))))
def ad2(K:Frag)(ta tv:TE)(f:Str):TS:=λD Z H=>tv Z H λy H1=>ta Z H1 λx H2=>ac7 K f D Z y x H2
section
variable{X:Cx}{o e value:Expr}{f:Str}{pos pos':Pos}{ta tv:TE}
def mN(he:PE X e ta)(hb:attributeBase e f X.env (eval e X.env)=eval e X.env):PE X (.Attribute e f pos) (UR X.K ta f):=by intro pins s Z H Q I h;refine aak hb (dq (he pins s Z H _ I h) λu s1 x H1 I1 rx SJ=>?_);obtain⟨a,C,dx,fs,v,ex,ea,c,n,l,q⟩:=SJ;subst ex;obtain rfl:u=Value.ref a:=rx;exact Qh I1 ea c n l λu' s2 I2 ru=>⟨v,H1,I2,ru,q⟩
def yW(ha:PE X o ta)(hv:PE X value tv)(hs:swapsWith value (some (.Attribute o f pos')) pos.line X.env=pure false):PS X (.Assign [.Attribute o f pos'] value pos) (ad2 X.K ta tv f):=by intro pins s Z H D I h;refine plainObj_wpAny_Assign_Attribute (dq (hv pins s Z H _ I h) λu s1 y H1 I1 ry q=>dq (ha pins s1 Z H1 _ I1 q) λov s2 x H2 I2 rx zj=>?_) hs;obtain⟨a,C,dx,fs,ex,ea,c,n,l,q2⟩:=zj;subst ex;obtain rfl:ov=Value.ref a:=rx;exact O4 I2 ea c n l ry λs3 I3=>⟨Z,_,I3,q2⟩
end
section
variable{X:Cx}{pins:Aaa}{Z:St}{H:Hp}{s:Shared}{A:Around}{E Q:Aac}{c:Value}{b:Bool}
inductive qC(K:Frag)(H:Hp):V->Value->Prop where
 |cR:qC K H .cR (.type "NoneType")
 |bl (x:Bool):qC K H (.bl x) (.type "bool")
 |int (i:Int):qC K H (.int i) (.type "int")
 |str (x:Str):qC K H (.str x) (.type "str")
 |LU (x:UInt64):qC K H (.LU x) (.type "float")
 |lst {a:Addr} {xs:Aam} (e:H a=some (.lst xs)):qC K H (.ref a) (.type "list")
 |fg {a:Addr} {o:Obj} {xs:Aam} (e:H a=some (.fg o (.lst xs))):qC K H (.ref a) (.type "list")
 |tup {a:Addr} {xs:Aam} (e:H a=some (.tup xs)):qC K H (.ref a) (.type "tuple")
 |dK {a:Addr} {kvs:List (Key×V)} (e:H a=some (.dK kvs)):qC K H (.ref a) (.type "dict")
 |dT {a:Addr} {kvs:List (List Key×V)} (e:H a=some (.dT kvs)):qC K H (.ref a) (.type "dict")
 |ins {a C dx:Addr} {fs:List (Str×V)} (e:H a=some (.ins C dx fs)) (cl:CU K C) (ha:findIn K (.ref C) "__class__"=some (some (.builtin "object.__class__")))
   (hn:PySem.W.specialIn K (.builtin "object.__class__") "__get__"=some (some (.builtin "getset_descriptor.__get__"))) (XT:PySem.W.takesIn K (.builtin "object.__class__")=some true)
   (hm:PySem.W.mroIn K C (.type "object")=some true):qC K H (-64) (.ref C)
def Sx(I:Inv X pins Z H s)(rx:RelV x u)(ty:qC X.K H x t)(e:kitOne X.K t c=some b)(h:∀tk,Q (.bool b) {s with toks:=tk}):
  wpAny (-6) A (call (.builtin "isinstance") [u,c]) Q E s:=by
 cases ty with
 |cR=>cases(show u=Value.none from rx);exact fu PySem.W.kitx_none I.nj True.intro e (-84) h
 |bl y=>cases(show u=Value.bool y from rx);exact fu PySem.W.kitx_bool I.nj True.intro e (-84) h
 |int i=>obtain⟨t,q⟩:=(show∃t,u=Value.int i t from rx);cases q;exact fu PySem.W.kitx_int I.nj True.intro e (-84) h
 |str y=>obtain⟨t,q⟩:=(show∃t,u=Value.str y t from rx);cases q;exact fu PySem.W.kitx_str I.nj True.intro e (-84) h
 |LU y=>obtain⟨t,q⟩:=(show∃t,u=Value.float y t from rx);cases q;exact fu PySem.W.kitx_float I.nj True.intro e (-84) h
 |@lst a xs ea=>
  cases(show u=Value.ref a from rx);obtain⟨_,_,n,_,h1⟩:=(show dE X.prog X.w H s.heap a (.lst xs)from I.bj a _ ea);exact fu Dx I.nj ⟨_,h1,rfl⟩ e (-84) h
 |@fg a ob xs ea=>
  cases(show u=Value.ref a from rx);obtain⟨_,_,_,n,_,h1⟩:=(show dE X.prog X.w H s.heap a (.fg ob (.lst xs))from I.bj a _ ea);exact fu Dx I.nj ⟨_,h1,rfl⟩ e (-84) h
 |@tup a xs ea=>
  cases(show u=Value.ref a from rx);obtain⟨_,_,_,p,_⟩:=(show dE X.prog X.w H s.heap a (.tup xs)from I.bj a _ ea);obtain⟨o,h1,h2,_⟩:=p;exact fu PySem.W.kitx_tuple I.nj ⟨o,h1,h2⟩ e (-84) h
 |@dK a kvs ea=>
  cases(show u=Value.ref a from rx);obtain⟨_,_,vs,_,p⟩:=(show dE X.prog X.w H s.heap a (.dK kvs)from I.bj a _ ea);obtain⟨o,es,ep,h1,h2,_⟩:=p;exact fu Dy I.nj {o,h1,h2.1} e (-84) h
 |@dT a kvs ea=>
  cases(show u=Value.ref a from rx);obtain⟨_,_,xs,_,o,es,ep,h1,h2,_⟩:=(show dE X.prog X.w H s.heap a (.dT kvs)from I.bj a _ ea);exact fu Dy I.nj {o,h1,h2.1} e (-84) h
 |@ins a C dx fs ea cl ha hn XT hm=>
  cases(show u=Value.ref a from rx);obtain⟨mA,O,_⟩:=C8 I.bj ea;obtain⟨od,J,_⟩:=O.look;exact fu (PySem.W.kitx_own (cl.get _) cl.hd ha hn XT hm) I.nj J e (-84) h
end
structure iK(k:Nat)(A:Around):Prop where
 hd:A.handled=none
 dp:A.depth+3*k+5<recursionLimit
 un:A.units+16*k+200<cLine
def iK.mono(r:iK k A)(h:j<=k):iK j A:={r.hd,by have:=r.dp;lia,by have:=r.un;lia}
def iK.deeper(r:iK (k+1) A)(env:Env):iK k (A.deeper env):=
 {r.hd,by have:=r.dp;show A.depth+1+3*k+5<_;lia,by have:=r.un;show A.units+3+16*k+200<_;lia}
def PH{A:Around}:(-71).depth=A.depth+1:=by
 first|rfl|simp[Around.under,Code.weight,Code.isCreation,Code.isGuard,Code.isCaller,Code.frames,Code.isFrame,guardIds]
def PF{A:Around}:(-71).units=A.units+1:=by
 first|rfl|simp[Around.under,Code.cUnits,Code.frames,Code.isFrame]
def iK.make(r:iK (k+1) A)(C:Addr)(us:Aae)(kw:List (Str×Value)):iK k (-71):=
 {r.hd,by have:=r.dp;rw[PH];lia,by have:=r.un;rw[PF];lia}
def iK.depth(r:iK k A):A.depth<recursionLimit:=by have:=r.dp;lia
def iK.units(r:iK k A):A.units+64<cLine:=by have:=r.un;lia
def GD:TA:=λ_ H Q=>Q [] H
def t7(ta:TE)(tr:TA):TA:=λZ H Q=>ta Z H λx H1=>tr Z H1 λxs H2=>Q (x::xs) H2
section
variable{X:Cx}{e:Expr}{es:List Expr}{te:TE}{t:TA}{pos:Pos}
def iY:PA X [] GD:=λ_ _ _ _ H Q I h=>lE {[],H,I,.nil,h}
def fC(ha:PE X e te)(hr:PA X es t)(hs:starEach (e::es) X.env=(false,eval e X.env)::starEach es X.env:=by rfl):PA X (e::es) (t7 te t):=by intro pos pins s Z H Q I h;rw[hs];exact gK (dq (-79) λu s1 x H1 I1 r1 q1=>rj (hr pos pins s1 Z H1 _ I1 q1) λus s2 xs H2 I2 r2 q2=>{x::xs,H2,I2,.cons r1 r2,q2})
def cc{X:Cx}{e:Expr}{te:TE}(ha:PE X e te)(hs:starEach [e] X.env=(false,eval e X.env)::starEach [] X.env:=by rfl):PA X [e] (t7 te GD):=fC ha iY hs
def dA{X:Cx}{e f:Expr}{te tf:TE}(ha:PE X e te)(hb:PE X f tf)(hs:starEach [e,f] X.env=(false,eval e X.env)::starEach [f] X.env:=by rfl)(ht:starEach [f] X.env=(false,eval f X.env)::starEach [] X.env:=by rfl):PA X [e,f] (t7 te (t7 tf GD)):=fC ha (cc hb ht) hs
def rN{X:Cx}{e f g:Expr}{te tf tg:TE}(ha:PE X e te)(hb:PE X f tf)(hc:PE X g tg)(hs:starEach [e,f,g] X.env=(false,eval e X.env)::starEach [f,g] X.env:=by rfl)(ht:starEach [f,g] X.env=(false,eval f X.env)::starEach [g] X.env:=by rfl)(hu:starEach [g] X.env=(false,eval g X.env)::starEach [] X.env:=by rfl):PA X [e,f,g] (t7 te (t7 tf (t7 tg GD))):=fC ha (dA hb hc ht hu) hs
def aaJ(t:TA):TE:=λZ H Q=>t Z H λxs H1=>xs.length<=sizeLine/\∀p,H1 p=none->Q (.ref p) (upd H1 p (.tup xs))
def adW(t:TA):TE:=λZ H Q=>t Z H λxs H1=>xs.length<=sizeLine/\∀p,H1 p=none->Q (.ref p) (upd H1 p (.lst xs))
def iH{x1}(h:PA X es t):PE X (.Tuple es x1 pos) (aaJ t):=by intro pins s Z H Q I hq;refine wpAny_Tuple_spliced (rj (h pos pins s Z H _ I hq) λus s1 xs H1 I1 r ⟨z,q⟩=>{r.length▸z,?_});refine{.ref s1.heap.objs.size,upd H1 s1.heap.objs.size (.tup xs),I1.laid (λb u e=>ah _ e) (ak _) ?_,rfl,q _ (-87)};exact{z,us,r,{_,aE _ rfl,rfl,_,rfl},_,aE _ rfl,rfl}
def fY(h:PA X es t):PE X (.List es pos) (adW t):=by intro pins s Z H Q I hq;refine wpAny_List_spliced (rj (h pos pins s Z H _ I hq) λus s1 xs H1 I1 r ⟨z,q⟩=>{r.length▸z,?_});refine{.ref s1.heap.objs.size,upd H1 s1.heap.objs.size (.lst xs),I1.laid (λb u e=>ah _ e) (ak _) ?_,rfl,q _ (-87)};exact{z,us,0,r,aE _ rfl}
abbrev Sp:=Aam->Hp->VK->XK->Prop
abbrev Mn:=List Env->Hp->Shared->XK->Aac
structure Hu(P:Program)(w:World)(K:Frag)(mg:Aab)(base:Heap)(A:Around)(outer:List Env)(s:Shared)(H:Hp):Prop where
 frames:A.frames=some outer
 mod:Mod K mg base
 bs:∀b o,base.get? b=some o->s.heap.get? b=some o/\H b=none
 Em:base.objs.size<=s.heap.objs.size
 tN:s.heap.FunFrames base outer
 IL:∀b∈Ci outer,H b=none
 bj:ko P w H s.heap
 bare:AllBare s.gens
def CE(outer:List Env)(P:Program)(w:World)(H:Hp)(s:Shared)(Q:VK)(u:Value)(s':Shared):Prop:=
 ∃v H',s'.os=s.os/\AllBare s'.gens/\Un (Ci outer) [] H H' s.heap s'.heap/\ko P w H' s'.heap/\RelV v u/\Q v H'
end
def CR(CX:Mn)(outer:List Env)(P:Program)(w:World)(H:Hp)(s:Shared)(Q:VK)(E:XK)(r:Result)(s':Shared):Prop:=
 match r with
 | .ok (.ret u)=>CE outer P w H s Q u s'
 | .ok _=>False
 | .error e=>CX outer H s E e s'
structure dy(P:Program)(w:World)(K:Frag)(mg:Aab)(base:Heap)(CX:Mn)(k:Nat)(f:Addr)(fd:FuncData)(ps:Aaf)(sp:Sp):Prop where
 len:∀vs H Q E,sp vs H Q E->vs.length=ps.length
 run:∀(A:Around)(outer:List Env)(s:Shared)(H:Hp)(args:Args)(us:Aae)(vs:Aam)(Q:VK)(E:XK),iK k A->Hu P w K mg base A outer s H->BindsTo s fd args (ps.zip us)->Vals vs us->sp vs H Q E->
  codeAny (-25) A (.call (.ref f) args) (CR CX outer P w H s Q E) s
def Hu.make{K:Frag}(e:Hu P w K mg base A outer s H)(C:Addr)(us:Aae)(kw:List (Str×Value)):
  Hu P w K mg base (-71) outer s H:={by first|exact e.frames|(simpa[Around.under,Code.envs,Code.isFrame,pushEnvs]using e.frames),e.mod,e.bs,e.Em,e.tN,e.IL,e.bj,e.bare}
section
variable{X:Cx}{pins:Aaa}{Z:St}{H:Hp}{s s':Shared}
def Inv.env0(I:Inv X pins Z H s):Hu X.prog X.w X.K X.mg X.base X.A X.stack s H:=
 {I.ok.frames,I.ok.mod,I.bs,aJ I.ok.Em I.sz,I.stack,I.Nu,I.bj,I.bare}
def Inv.after(I:Inv X pins Z H s)(h:CE X.stack X.prog X.w H s Q u s'):EP X pins Z Q u s':=by obtain⟨v,H',os,bare,un,bj,r,q⟩:=h;obtain⟨hh,g,d,t,Xp⟩:=s';obtain rfl:Xp=s.os:=os;exact{v,H',I.call un bj bare (λb z=>absurd z (-8)),r,q}
end
def Xb(sp:Sp)(qS:Aam)(E:XK)(t:TA):TE:=λZ H Q=>t Z H λvs H1=>sp (vs++qS) H1 Q E
inductive aaP(C:Addr)(m:Str)(sp:Sp)(qS:Aam)(E:XK)(t:TA)(Z:St)(Q:VK)(x:V)(H1:Hp):Prop
 |mk a dx fs (_:x=.ref a) (_:H1 a=some (.ins C dx fs)) (_:fs.lookup m=none) (_:t Z H1 λvs H2=>sp (x::(vs++qS)) H2 Q E)
def W8(C:Addr)(m:Str)(sp:Sp)(qS:Aam)(E:XK)(ta:TE)(t:TA):TE:=λZ H Q=>ta Z H λx H1=>aaP C m sp qS E t Z Q x H1
def W9(C:Addr)(sp:Sp)(qS:Aam)(E:XK)(t:TA):TE:=λZ H Q=>t Z H λvs H1=>∀x dx,H1 x=none->H1 dx=none->dx≠x->
 sp (.ref x::(vs++qS)) (upd (upd H1 dx (.own x)) x (.ins C dx [])) (λv H2=>v=.cR/\Q (.ref x) H2) E
def Binds(K:Frag)(fd:FuncData)(ps:Aaf)(ds:Aae):Prop:=
 ∀(s:Shared)(us:Aae),K.In s.heap->(us++ds).length=ps.length->BindsTo s fd {us,[]} (ps.zip (us++ds))
def Binds.all{K:Frag}(h:∀us:Aae,us.length=ps.length->bindArgs fd {us,[]}=pure (ps.zip us)):Binds K fd ps []:=λs us _ hl=>by rw[c8]at hl⊢;exact .of_eq (h us hl)
def Passes(CX:Mn)(X:Cx)(E:XK):Prop:=∀(pins:Aaa)(Z:St)(H:Hp)(s:Shared)(e:Value)(s':Shared),Inv X pins Z H s->CX X.stack H s E e s'->X.xe e s'
section
variable{X:Cx}{CX:Mn}{k:Nat}{f C:Addr}{fd:FuncData}{ps:Aaf}{sp:Sp}{qS:Aam}{ds:Aae}{E:XK}{x m:Str}{p pos apos:Pos}{e o:Expr}{es:List Expr}{ta:TE}{t:TA}
def Rj(F:dy X.prog X.w X.K X.mg X.base CX k f fd ps sp)(hr:iK k X.A)(hb:Binds X.K fd ps ds)(hd:Vals qS ds)(hx:Passes CX X E)
  (I:Inv X pins Z H s) (r:Vals vs us) (h:sp (vs++qS) H Q E):wpAny (-6) X.A (call (.ref f) us) (EP X pins Z Q) X.xe s:=by
 have r2:=r.append hd;refine Ff (lR (F.run X.A X.stack s H {us,[]} (us++ds) (vs++qS) Q E hr I.env0 (hb s us I.nj (by rw[<-r2.length];exact F.len _ _ _ _ h)) r2 h) λr s' hq=>?_);cases r with
 |error e=>exact hx pins Z H s e s' I hq
 |ok fl=>
  cases fl with
  |ret u=>exact I.after hq
  |next=>exact False.elim hq
  |brk=>exact False.elim hq
  |cont=>exact False.elim hq
def Zw(F:dy X.prog X.w X.K X.mg X.base CX k f fd ps sp)(hr:iK k X.A)(hg:Gl X x)(hm:X.mg x=some (.ref f))(hk:keepIn X.K (.ref f)=true)(hb:Binds X.K fd ps ds)(hd:Vals qS ds)(hx:Passes CX X E)
  (ha:PA X (e::es) t) (Cf:(-27)=false:=by decide) (he:starEach (e::es) X.env=(false,eval e X.env)::starEach es X.env:=by rfl) (rX:(-31).any (·.1)=false:=by rfl):
  PE X (-68) (Xb sp qS E t):=by
 intro pins s Z H Q I h;refine nJ (G2 I hg hm ?_ Cf);exact uO I.ok.mod.Sq hk (rj (ha pos pins s Z H _ I h) λus s1 vs H1 I1 r q=>{I1.nj,Rj F hr hb hd hx I1 r q}) he rX
def Zq(he:PE X o ta)(c:CU X.K C)(hm:Meth X.K C m f)(F:dy X.prog X.w X.K X.mg X.base CX k f fd ps sp)(hr:iK k X.A)(hb:Binds X.K fd ps ds)(hd:Vals qS ds)(hx:Passes CX X E)(ha:PA X (e::es) t)
  (g7:starEach (e::es) X.env=(false,eval e X.env)::starEach es X.env:=by rfl) (rX:(-31).any (·.1)=false:=by rfl)
  (ht:eval (-90) X.env=(do
   let ov<-eval o X.env
   standAt apos.atName
   let(f,first)<-holding [ov] (getMethod ov m pl)
   callWith pos f first (backTo pos (starEach (e::es) X.env)) (backToKw pos (keywordEach [] X.env))):=by rfl):
  PE X (-90) (W8 C m sp qS E ta t):=by
 intro pins s Z H Q I h;refine PySem.W.methodCall_KW (dq (he pins s Z H _ I h) λu s1 x H1 I1 rx PX=>?_) ht;obtain⟨a,dx,fs,ex,ea,l,q⟩:=PX;subst ex;obtain rfl:u=Value.ref a:=rx;refine Qg I1 ea c hm l ?_;refine uO I.ok.mod.Sq hm.kp (rj (ha pos pins s1 Z H1 _ I1 q) λus s2 vs H2 I2 r q2=>{I2.nj,?_}) g7 rX;exact Rj (vs:=.ref a::vs) F hr hb hd hx I2 (.cons rfl r) q2
structure Mk(K:Frag)(C f:Addr):Prop where
 makes:PySem.W.makesIn K C=true
 init:findIn K (.ref C) "__init__"=some (some (.ref f))
 fn:isFn K (.ref f)=true
 kp:keepIn K (.ref C)=true
def U7(M:Mk X.K C f)(F:dy X.prog X.w X.K X.mg X.base CX k f fd ps sp)(hr:iK (k+1) X.A)(hb:Binds X.K fd ps ds)(hd:Vals qS ds)
  (hx:Passes CX X E) (I:Inv X pins Z H s) (r:Vals vs us)
  (h:∀x dx,H x=none->H dx=none->dx≠x->sp (.ref x::(vs++qS)) (upd (upd H dx (.own x)) x (.ins C dx [])) (λv H2=>v=.cR/\Q (.ref x) H2) E):
  wpAny (-6) X.A (call (.ref C) us) (EP X pins Z Q) X.xe s:=by
 have hq:=h (-19) s.heap.objs.size (I.bj.fresh (dZ _)) (-72) (aI (c7 _));have I2:=Inv.made (C:=C) I;have r2:Vals (V.ref (-19)::(vs++qS)) (Value.ref (-19)::(us++ds)):=.cons rfl (r.append hd);have hl:(Value.ref (-19)::us++ds).length=ps.length:=by have e:=r2.length;rw[F.len _ _ _ _ hq]at e;exact e.symm
 refine Ff (VF I.nj M.makes M.init (sv.mp M.fn) (lR (F.run _ X.stack _ _ {Value.ref (-19)::us,[]} (Value.ref (-19)::(us++ds)) _ _ E (hr.make C us [])
  (I2.env0.make C us []) (hb _ (Value.ref (-19)::us) I2.nj hl) r2 hq) λr s' uH=>?_))
 cases r with
 |error e=>exact hx pins Z _ _ e s' I2 uH
 |ok fl=>
  cases fl with
  |ret u=>
   obtain⟨v,H',I3,rv,ev,q3⟩:=I2.after uH;subst ev;exact{rv,{V.ref (-19),H',I3,rfl,q3}}
  |next=>exact False.elim uH
  |brk=>exact False.elim uH
  |cont=>exact False.elim uH
def Zr(M:Mk X.K C f)(F:dy X.prog X.w X.K X.mg X.base CX k f fd ps sp)(hr:iK (k+1) X.A)(hg:Gl X x)(hm:X.mg x=some (.ref C))(hb:Binds X.K fd ps ds)(hd:Vals qS ds)(hx:Passes CX X E)
  (ha:PA X (e::es) t) (Cf:(-27)=false:=by decide) (he:starEach (e::es) X.env=(false,eval e X.env)::starEach es X.env:=by rfl) (rX:(-31).any (·.1)=false:=by rfl):
  PE X (-68) (W9 C sp qS E t):=by
 intro pins s Z H Q I h;refine nJ (G2 I hg hm ?_ Cf);exact uO I.ok.mod.Sq M.kp (rj (ha pos pins s Z H _ I h) λus s1 vs H1 I1 r q=>{I1.nj,U7 M F hr hb hd hx I1 r q}) he rX
variable{ks:Aaf}
structure afP(K:Frag)(fd:FuncData)(ps ks:Aaf)(g:Aae->Aae->Aae)(gV:Aam->Aam->Aam):Prop where
 to:∀(s:Shared)(us ws:Aae),K.In s.heap->(g us ws).length=ps.length->BindsTo s fd {us,ks.zip ws} (ps.zip (g us ws))
 rel:∀{vs:Aam}{us:Aae}{zs:Aam}{ws:Aae},Vals vs us->Vals zs ws->Vals (gV vs zs) (g us ws)
end
structure cK(N P:Aaf)(sc:Scope):Prop where
 kind:sc.kind=.function
 co:sc.isCoroutine=false
 gen:sc.isGenerator=false
 nd:N.Nodup
 pre:N.take P.length=P
 par:∀x∈P,sc.names.lookup x=some .local\/sc.names.lookup x=some .cell
 abp:∀y∈sc.names,y.2≠ .free
def jV{N P:Aaf}{sc:Scope}(h:sc.kind=.function/\sc.isCoroutine=false/\sc.isGenerator=false/\N.Nodup/\N.take P.length=P/\(∀x∈P,sc.names.lookup x=some .local\/sc.names.lookup x=some .cell)/\∀y∈sc.names,y.2≠ .free):cK N P sc:={h.1,h.2.1,h.2.2.1,h.2.2.2.1,h.2.2.2.2.1,h.2.2.2.2.2.1,h.2.2.2.2.2.2}
def kR{X:Cx}{x:Str}{pos:Pos}{ps:Aaf}{sc:Scope}(i:Nat)(S:cK X.N ps sc)(hi:X.N[i]?=some x:=by rfl)(hx:X.env.scope.names.lookup x=some .local:=by rfl):PG X (.Name x pos) (vR i):=tK S.nd hi (Or.inl hx) (Or.inr hx)
def fX{X:Cx}{x:Str}{pos pos':Pos}{e:Expr}{te:TE}{ps:Aaf}{sc:Scope}(i:Nat)(S:cK X.N ps sc)(he:PE X e te)(hi:X.N[i]?=some x:=by rfl)(hx:X.env.scope.names.lookup x=some .local:=by rfl)(hs:swapsWith e (some (.Name x pos')) pos.line X.env=pure false:=by rfl):PS X (.Assign [.Name x pos'] e pos) (UT te (vR i)):=mM S.nd hi (Or.inl hx) he hs (Or.inr hx)
theorem IV{kindOf:Str->Option NameKind}:∀{binds:List (Str×Value)}{m:Aab},(∀v,(x,v)∉binds)->bindL kindOf binds m x=m x
 |[],_,_=>rfl
 |(n,v)::r,m,h=>by
  unfold bindL;rw[IV λw hw=>h w (aB _ hw)];split
  ·have:x≠n:=by rintro rfl;exact h v aA
   simp[this]
  ·rfl
theorem IX{kindOf:Str->Option NameKind}:∀{binds:List (Str×Value)}{m:Aab},(∀v,(x,v)∉binds)->bindC kindOf binds m x=m x
 |[],_,_=>rfl
 |(n,v)::r,m,h=>by
  unfold bindC;rw[IX λw hw=>h w (aB _ hw)];split
  ·rfl
  ·have:x≠n:=by rintro rfl;exact h v aA
   simp[this]
theorem IW{kindOf:Str->Option NameKind}:∀{P:Aaf}{vs:Aae}{i:Nat}{m:Aab},P.Nodup->P[i]?=some x->vs[i]?=some v->kindOf x=some .local->
  bindL kindOf (P.zip vs) m x=some v
 |[],_,_,_,_,h,_,_=>by simp at h
 |_::_,[],_,_,_,_,h,_=>by simp at h
 |p::P,w::vs,0,m,nd,h1,h2,hk=>by simp at h1 h2;subst h1;subst h2;show bindL kindOf ((p,w)::P.zip vs) m p=_;unfold bindL;rw[IV λv hv=>(cV.mp nd).1 (jK hv).1,aG hk];simp
 |p::P,w::vs,i+1,m,nd,h1,h2,hk=>by unfold bindL;exact IW (cV.mp nd).2 (by simpa using h1) (by simpa using h2) hk
theorem IY{kindOf:Str->Option NameKind}:∀{P:Aaf}{vs:Aae}{i:Nat}{m:Aab},P.Nodup->P[i]?=some x->vs[i]?=some v->kindOf x≠some .local->
  bindC kindOf (P.zip vs) m x=some v
 |[],_,_,_,_,h,_,_=>by simp at h
 |_::_,[],_,_,_,_,h,_=>by simp at h
 |p::P,w::vs,0,m,nd,h1,h2,hk=>by simp at h1 h2;subst h1;subst h2;show bindC kindOf ((p,w)::P.zip vs) m p=_;unfold bindC;rw[IX λv hv=>(cV.mp nd).1 (jK hv).1,aw hk];simp
 |p::P,w::vs,i+1,m,nd,h1,h2,hk=>by unfold bindC;exact IY (cV.mp nd).2 (by simpa using h1) (by simpa using h2) hk
def start(N:Aaf)(vs:Aam):St:=vs.map some++List.replicate (N.length -vs.length) none
noncomputable def L3(CX:Mn)(P:Program)(w:World)(K:Frag)(mg:Aab)(base:Heap)(N:Aaf)(qual:Str)(scope:Scope)(f:Addr)(cd:Value)(A:Around)(outer:List Env)(s:Shared)(H:Hp)(E:XK):Cx where
 prog:=P
 w:=w
 K:=K
 mg:=mg
 base:=base
 A:=A.deeper (-69)
 N:=N
 aab:=s
 aaf:=H
 env:=envOfC qual scope s.heap.objs.size f cd
 outer:=outer
 stack:=envOfC qual scope s.heap.objs.size f cd::outer
 ex:=[]
 calm:=true
 fn:=λ_=>true
 pn:=[]
 xe:=λe s'=>wpAny (-25) (A.deeper (-69)) (leaving (-69) e) (λ_ s''=>CX outer H s E e s'') (λe' s''=>CX outer H s E e' s'') s'
def L6{sc:Scope}(h:sc.names.lookup x=some .cell):∃c,(cellsFrom n sc.names []).lookup x=some c:=by exact kE.mp (yy sc.names n [] (.inl h))
def Sz{K:Frag}
  (S:cK N ps scope) (hd:A.handled=none) (e0:Hu P w K mg base A outer s H) (hl:vs.length=ps.length) (r:Vals vs us)
  (x:InCallC s s.heap.objs.size (bindL (-69).kindOf (ps.zip us) λ_=>none) (cellsFrom (-19) scope.names []) (bindC (-69).kindOf (ps.zip us) λ_=>none) s1):
  Inv (L3 CX P w K mg base N qual scope f cd A outer s H E) [] (start N vs) H s1:=by
 have rX:ps.length<=N.length:=by have:=bV List.length S.pre;rw[aR]at this;lia
 obtain⟨h1,tk,rfl,hk⟩:=x.done;have RZ:∀b:Addr,b∉(L3 CX P w K mg base N qual scope f cd A outer s H E).ex:=λb z=>absurd (show b∈([]:Aah)from z) (-8);refine{{e0.mod,S.kind,rfl,rfl,ak _,λy z c h1 h2=>?_,λy hy=>?_,λy c _ h=>?_,λ_=>hd,Around.frames_deeper e0.frames,.inr ⟨rfl,rfl⟩,λb z=>absurd z (RZ b),e0.bs,e0.Em,λb _ _=>RZ b,λb z=>absurd z (RZ b),e0.tN,e0.IL},
  rfl,e0.bare,Un.kept hk,{_,x.toInCall.ns,λi y v h1 h2 h3=>?_},λy c h=>{_,x.cell y c h},e0.bj.fresh (ak _),λy c h=>?_,λp hp=>absurd (show p∈([]:Aaa)from hp) (-8),e0.bj.kept hk,?_}
 ·exact name_of_addr x.apart (kH h1) (kH h2)
 ·have hy:=hy;rcases hy with hy|hy
  ·exact L6 hy
  ·exact absurd rfl (S.abp _ (kH hy))
 ·exact bo (x.above y c (kH h))
 ·have hi:i<vs.length:=by
   unfold start at h2;by_cases hi:i<vs.length
   ·exact hi
   ·rw[bU (by simpa using hi)]at h2;rw[xk]at h2;split at h2<;>cases h2
  have ha:vs[i]?=some v:=by
   unfold start at h2;rw[cN (by simpa using hi),aL]at h2;cases e:vs[i]? with
   |none=>rw[e]at h2;cases h2
   |some a=>rw[e]at h2;cases h2;rfl
  obtain⟨u,hu,rv⟩:=r.get ha;have hp:ps[i]?=some y:=by rw[<-S.pre,oJ ∅];exact h1
  have ndP:ps.Nodup:=by rw[<-S.pre];exact S.nd.sublist (DB _ _)
  refine{u,rv,?_};rcases S.par y (az hp)with k|k
  ·exact .inl {k,IW ndP hp hu k}
  ·obtain⟨c,e⟩:=L6 k;refine .inr {.inl k,c,e,?_};have q:=x.cell y c e;rw[IY ndP hp hu (by show scope.names.lookup y≠_;rw[k];decide)]at q;exact q
 ·exact e0.bj.fresh (bo (x.above y c (kH h)))
 ·unfold start;show _=N.length;rw[aC,af,jM];lia
def adG{K:Frag}{dV kV doc pm dF ct oc:Value}
     (lk:K.lookup f=some {oc,od,.func (fnOf name qual params body scope dV kV doc pm an dF ct),BU}) (Cg:codeIn K dF qual=true) (S:cK N ps scope)
  (len:∀vs H Q E,sp vs H Q E->vs.length=ps.length)
  (Qc:∀(A:Around)(outer:List Env)(s:Shared)(H:Hp)(vs:Aam)(Q:VK)(E:XK),iK k (A.deeper (envOfC qual scope s.heap.objs.size f dF))->sp vs H Q E->
   ∃t,lV (L3 CX P w K mg base N qual scope f dF A outer s H E) body t/\t {nx:=λ_ H'=>Q .cR H',rt:=Q} (start N vs) H):
  dy P w K mg base CX (k+1) f (fnOf name qual params body scope dV kV doc pm an dF ct) ps sp:=by
 refine{len,λA outer s H args us vs Q E hr e0 hb r IB=>?_};have hl:=len _ _ _ _ IB;have KX:=e0.mod.Sq.keeps λb o e=>(e0.bs b o e).1;have adA:∀y∈ps.zip us,scope.names.lookup y.1=some .local\/(scope.names.lookup y.1=some .cell/\((cellsFrom (-19) scope.names []).lookup y.1).isSome=true):=λ⟨n,v⟩ hy=>by
  rcases S.par n (jK hy).1 with q|q
  ·exact .inl q
  ·exact .inr {q,yy _ _ _ (.inl q)}
 refine codeAny_call_function hr.depth (KX _ _ lk) rfl S.co S.gen rfl (PySem.W.codeRec_of KX Cg) (hb _ _ _ _ ?_);refine wpAny_newFunctionEnv_cells S.kind adA λenv he s1 x=>?_;subst he;refine{(e0.mod.nolimit.keeps λb o e=>(e0.bs b o e).1).keeps x.toInCall.keep,codeAny_func ?_};obtain⟨t,ht,hq⟩:=Qc A outer s H vs Q E (hr.deeper _) IB;refine dh (ht [] s1 (start N vs) H _ (Sz S hr.hd e0 hl r x) hq) (λfl s' hs=>?_) λe s' hs=>hs;have fin:∀{σ':St}{H':Hp}{v:V}{u:Value},Inv (L3 CX P w K mg base N qual scope f dF A outer s H E) [] σ' H' s'->RelV v u->Q v H'->CE outer P w H s Q u s':=
  λ{σ' H' v u} J rv q=>{v,H',J.os,J.bare,J.base,J.bj,rv,q}
 cases fl with
 |ret u=>
  obtain⟨v,σ',H',J,rv,q⟩:=hs;exact fin J rv q
 |next=>
  obtain⟨σ',H',J,q⟩:=hs;exact fin (v:=V.cR) J rfl q
 |brk=>
  obtain⟨_,_,_,q⟩:=hs;exact False.elim q
 |cont=>
  obtain⟨_,_,_,q⟩:=hs;exact False.elim q
section
variable{X:Cx}{x:Str}{p pos:Pos}{e:Expr}{es:List Expr}{t:TA}{id T:String}{r:Aam->Hp->VK->Prop}
def tCB(r:Aam->Hp->VK->Prop)(t:TA):TE:=λZ H Q=>t Z H λvs H1=>r vs H1 Q
def bZ(hc:iN X (.builtin id) r)(hg:Gl X x)(hm:X.mg x=none)(hv:bootBuiltins x=some (.builtin id))(ha:PA X (e::es) t)(hn:x≠"__name__":=by decide)(Cf:(-27)=false:=by decide)
  (he:starEach (e::es) X.env=(false,eval e X.env)::starEach es X.env:=by rfl) (rX:(-31).any (·.1)=false:=by rfl):PE X (-68) (tCB r t):=by
 intro pins s Z H Q I h;exact nJ (rR I hg hm hv (PyProof.Rows.callWith_builtin1 (rj (ha pos pins s Z H _ I h) λus s1 vs H1 I1 r1 q1=>hc pins s1 Z H1 vs us Q I1 r1 q1) he rX) hn Cf)
def dR(hc:iN X (.type T) r)(hg:Gl X x)(hm:X.mg x=none)(hv:bootBuiltins x=some (.type T))(ha:PA X (e::es) t)(hn:x≠"__name__":=by decide)(Cf:(-27)=false:=by decide)
  (he:starEach (e::es) X.env=(false,eval e X.env)::starEach es X.env:=by rfl) (rX:(-31).any (·.1)=false:=by rfl):PE X (-68) (tCB r t):=by
 intro pins s Z H Q I h;exact nJ (rR I hg hm hv (eB (rj (ha pos pins s Z H _ I h) λus s1 vs H1 I1 r1 q1=>hc pins s1 Z H1 vs us Q I1 r1 q1) he rX) hn Cf)
end
end L2
namespace HT
open PySem PyProof.Rows
section
open PySem.SeqAt
open PySem.AutoSeq1 (wpAny_loadPart')
open PySem.MeetsSeq PySem.MeetsSeq2 PySem.MeetsSeq3
end
section
variable{prog:Program}{w:World}{A:Around}{E:Aac}{s:Shared}
def aai(ht:IsTup s.heap t vs.toArray)(hb:IsTup s.heap b ws.toArray)(hv:vs≠[])
  (h1:ws=[]->Q (.ref t) s) (h2:ws≠[]->Q (-11) {s with heap:=s.heap.push {cls:=.type "tuple",data:=.seq (vs++ws).toArray}})
  (hsz:vs.length+ws.length<=sizeLine):wpAny (-5) A (binaryOp .Add (.ref t) (.ref b)) Q E s:=by
 obtain⟨⟨cls,dd,data,sl⟩,ho,hc,n,hd⟩:=id ht;obtain⟨⟨afE,OF,data2,Xh⟩,zo,vv,n2,hd2⟩:=id hb;simp only at hc hd vv hd2;subst hc hd vv hd2;have e:vs.toArray++ws.toArray=(vs++ws).toArray:=by simp
 by_cases hw:ws=[]
 ·exact Cp ⟨_,ho,rfl⟩ ⟨_,zo,rfl⟩ wA A9 pY ph (oE _ _)
   (tuple_addW1 t b vs.toArray ws.toArray n n2 dd OF sl Xh (by simpa using hv) (by simp[hw])) {ho,zo,h1 hw}
 ·refine Cp ⟨_,ho,rfl⟩ ⟨_,zo,rfl⟩ wA A9 pY ph (oE _ _)
   (tuple_addW2 t b vs.toArray ws.toArray n n2 dd OF sl Xh (by simpa using hv) (by simpa using hw) (by rw[aN,aN];exact hsz)) {ho,zo,?_}
  rw[e];exact h2 hw
def fP(n d:Nat):Option Int->Nat
 |none=>d
 |some v=>if v<0 then(v+(n:Int)).toNat else min v.toNat n
def U3(n d:Nat):fP n d none=d:=rfl
def GJ(n d k:Nat):fP n d (some (k:Int))=min k n:=by show(if(k:Int)<0 then((k:Int)+(n:Int)).toNat else min (k:Int).toNat n)=min k n;rw[aw ∅,da]
def OI(v:Int)(n d:Nat):(if v<0 then max (v+(n:Int)) 0 else min v (n:Int))=((fP n d (some v):Nat):Int):=by
 show(if v<0 then max (v+(n:Int)) 0 else min v (n:Int))=(((if v<0 then(v+(n:Int)).toNat else min v.toNat n):Nat):Int);by_cases hv:v<0
 ·simp only[aG hv];lia
 ·simp only[aw hv];lia
def QF(lo hi:Option Int)(n:Nat):Builtin.Slice.sliceAdjust lo hi 1 (n:Int)=(((fP n 0 lo:Nat):Int),((fP n n hi:Nat):Int)):=by
 have h1:¬((1:Int)<0):=by lia
 unfold Builtin.Slice.sliceAdjust;refine Fb ?_ ?_
 ·cases lo with
  |none=>rfl
  |some v=>exact OI v n 0
 ·cases hi with
  |none=>rfl
  |some v=>exact OI v n n
def Pl(i j:Nat):Builtin.Slice.slicePlaces (i:Int) (j:Int) 1=j -i:=by
 unfold Builtin.Slice.slicePlaces;have h1:(1:Int)>0:=by lia
 split<;>lia
def Fu{v:Value}{o:Option Int}{Q:Option Int->Shared->Prop}(p:IsPart v o)(h:Q o s):wpAny (-5) A (Builtin.Slice.slicePartIndex v) Q E s:=by
 cases p with
 |none=>exact tm h
 |int i t=>exact slicePart_int h
def wj{sl:Addr}{vl vu:Value}{lo hi:Option Int}{n:Nat}{Q:Int×Int×Nat->Shared->Prop}(hs:s.heap.IsSliceOf sl vl vu .none)(pl:IsPart vl lo)(pu:IsPart vu hi)
  (h:Q (((fP n 0 lo:Nat):Int),1,fP n n hi -fP n 0 lo) s):wpAny (-5) A (Builtin.Slice.sliceApplied (.ref sl) (pure (n:Int))) Q E s:=by
 obtain⟨os,zm,LK,Eb⟩:=id hs;refine ae (ae (bK zm Eb rfl (ae (bK zm Eb rfl (ae (bK zm Eb rfl (ag ?_)))))));refine ae (tm ?_);refine ae (Fu pl (ae (Fu pu (ae (ag ?_)))));show wpAny _ _ (match Builtin.Slice.sliceAdjust lo hi 1 (n:Int)with|(lo,hi)=>pure (lo,(1:Int),Builtin.Slice.slicePlaces lo hi 1)) _ _ s;rw[QF lo hi n];show wpAny _ _ (pure (((fP n 0 lo:Nat):Int),(1:Int),Builtin.Slice.slicePlaces ((fP n 0 lo:Nat):Int) ((fP n n hi:Nat):Int) 1)) _ _ s;rw[Pl];exact ag h
def Vl(xs:Aaj)(i k:Nat):((List.range k).filterMap λ(m:Nat)=>xs[((i:Int)+(m:Int)*1).toNat]?).toArray=((xs.toList.drop i).take k).toArray:=by
 have e:(λ(m:Nat)=>xs[((i:Int)+(m:Int)*1).toNat]?)=λm=>xs[i+m]?:=by
  funext m;have:((i:Int)+(m:Int)*1).toNat=i+m:=by lia
  rw[this]
 rw[e];have:=pick_run xs i k;rw[uT]at this;have e2:((λx=>xs[x]?)∘λx=>i+x)=λm=>xs[i+m]?:=rfl;rw[e2]at this;rw[this]
def Dk{t sl:Addr}{items:Aaj}{vl vu:Value}{lo hi:Option Int}{Q:Aac}(ht:IsTup s.heap t items)(hs:s.heap.IsSliceOf sl vl vu .none)(pl:IsPart vl lo)(pu:IsPart vu hi)
  (hw:¬(fP items.size 0 lo=0/\fP items.size items.size hi=items.size))
  (h:Q (-11) {s with heap:=s.heap.push {cls:=.type "tuple",data:=.seq (-40).toArray}})
  (hsz:items.size<=sizeLine):wpAny (-5) A (getItem (.ref t) (.ref sl)) Q E s:=by
 have vQ:sizeOk (.seq (-40).toArray):=by show(-40).toArray.size<=sizeLine;rw[aN,aR,mC,aM];lia
 obtain⟨os,zm,LK,Eb⟩:=id hs;unfold getItem
 try with_reducible refine bS ?_
 first|refine ae (ag ?_)|skip
 refine ae (vj ht.typeIs (-9) ?_);refine ae (wpAny_callSpecial?_slot ht.typeIs cL
  (bp cL ht.typeIs sT ?_ (uN _ _)))
 show wpAny _ _ (Builtin.Tuple.tupleItemsOf (.ref t)>>=_) _ _ s;refine ae (A8 ht ?_);refine ae (gZ (⟨os,zm,LK⟩) ?_);refine ae (wj hs pl pu ?_);have Cd:¬((-20)=true):=by intro q;rw[cZ,cZ]at q;have q1:=iq q.1.1;have q2:=iq q.2;exact hw {by lia,by lia}
 show wpAny _ _ (if(-20)=true then _ else _) _ _ s;rw[aw Cd,Vl]
 first
  |exact ae (bX (ag ⟨_,rfl,ag h⟩) vQ)
  |exact ae (bX (ae (ag (ag ⟨_,rfl,ag h⟩))) vQ)
  |exact ae (ae (bX (ag (ag ⟨_,rfl,ag h⟩)) vQ))
  |exact ae (ae (bX (ag ⟨_,rfl,ag h⟩) vQ))
end
end HT
namespace L2
open PySem PySem.Spec PyProof.Rows
abbrev TO:=St->Hp->(Option Int->Hp->Prop)->Prop
def PO(X:Cx)(e:Option Expr)(t:TO):Prop:=
 ∀(pins:Aaa)(s:Shared)(Z:St)(H:Hp)(Q:Option Int->Hp->Prop),Inv X pins Z H s->t Z H Q->
  wpAny (-6) X.A (evalPart e X.env) (λu s'=>∃o H',Inv X pins Z H' s'/\IsPart u o/\Q o H') X.xe s
def Nm:TO:=λ_ H Q=>Q none H
inductive aaO(Q:Option Int->Hp->Prop)(x:V)(H1:Hp):Prop
 |mk i (_:x=.int i) (_:Q (some i) H1)
def acV(t:TE):TO:=λZ H Q=>t Z H λx H1=>aaO Q x H1
section
variable{X:Cx}{e:Expr}{te:TE}{lo hi:Option Expr}{tl th:TO}{pos p2:Pos}
def GQ:PO X none Nm:=by intro pins s Z H Q I h;exact ag {none,H,I,.none,h}
def yX(h:PE X e te):PO X (some e) (acV te):=by intro pins s Z H Q I hw;refine dq (h pins s Z H _ I hw) λu s1 x H1 I1 r1 q1=>?_;obtain⟨i,rfl,q⟩:=q1;obtain⟨t,rfl⟩:=r1;exact{some i,H1,I1,.int i t,q}
def Ut(X:Cx)(r:V->Option Int->Option Int->Hp->VK->Prop):Prop:=
 ∀(pins:Aaa)(s:Shared)(Z:St)(H:Hp)(x:V)(v vl vu:Value)(lo hi:Option Int)(sl:Addr)(Q:VK),Inv X pins Z H s->RelV x v->s.heap.IsSliceOf sl vl vu .none->IsPart vl lo->IsPart vu hi->r x lo hi H Q->
  ∃T id,typeLookup (.type T) "__getitem__"=pure (some (.builtin id))/\s.TypeIs v T/\wpAny (-6) X.A (getItem v (.ref sl)) (EP X pins Z Q) X.xe s
def tSl(r:V->Option Int->Option Int->Hp->VK->Prop)(te:TE)(tl th:TO):TE:=λZ H Q=>te Z H λx H1=>tl Z H1 λl H2=>th Z H2 λu H3=>r x l u H3 Q
def Al(hr:Ut X r)(he:PE X e te)(hl:PO X lo tl)(hu:PO X hi th):PE X (.Subscript e (.Slice lo hi none p2) pos) (tSl r te tl th):=by intro pins s Z H Q I h;refine AX (dq (he pins s Z H _ I h) λv s1 x H1 I1 r1 q1=>?_);refine wpAny_Slice (iR (hl pins s1 Z H1 _ I1 q1) λvl s2 aeN=>?_);obtain⟨l,H2,I2,pl,q2⟩:=aeN;refine iR (hu pins s2 Z H2 _ I2 q2) λvu s3 aeM=>?_;obtain⟨u,H3,I3,pu,q3⟩:=aeM;refine ag ?_;have I4:Inv X pins Z H3 {s3 with heap:=s3.heap.push {cls:=.type "slice",data:=.fields #[vl,vu,.none]}}:=I3.kept λb ob q=>ah _ q;obtain⟨T,id,hT,ht,hg⟩:=hr pins {s3 with heap:=s3.heap.push {cls:=.type "slice",data:=.fields #[vl,vu,.none]}} Z H3 x v vl vu l u s3.heap.objs.size Q I4 r1 (CO ..) pl pu q3;exact tail_any ht hT hg (-36)
def Hi(xs:Aam)(lo hi:Option Int):Aam:=(xs.drop (HT.fP xs.length 0 lo)).take (HT.fP xs.length xs.length hi -HT.fP xs.length 0 lo)
def MR(xs:Aam)(lo hi:Option Int):(Hi xs lo hi).length<=xs.length:=by unfold Hi;rw[aR,mC];lia
def ad4(K:Frag):V->Option Int->Option Int->Hp->VK->Prop:=λx lo hi H Q=>∃a xs,x=.ref a/\bC K H a xs/\
 ¬(HT.fP xs.length 0 lo=0/\HT.fP xs.length xs.length hi=xs.length)/\∀p,H p=none->Q (.ref p) (upd H p (.tup (Hi xs lo hi)))
def aaW:Ut X (ad4 X.K):=by intro pins s Z H x v vl vu lo hi sl Q I rx hs pl pu h;obtain⟨a,xs,rfl,hx,hw,q⟩:=h;cases rx;obtain⟨aS,r,ht,hz⟩:=I.tuple hx;have hlen:aS.toArray.size=xs.length:=aN▸r.length.symm;refine{"tuple",_,cL.lookup,ht.typeIs,?_};refine HT.Dk ht hs pl pu (hlen▸hw) ?_ (hlen▸hz);rw[hlen];refine{.ref s.heap.objs.size,_,I.laid (λb ob q=>ah _ q) (ak _) ?_,rfl,q _ (-72)};exact{aJ (MR xs lo hi) hz,_,(r.drop (HT.fP xs.length 0 lo)).take (HT.fP xs.length xs.length hi -HT.fP xs.length 0 lo),yf _ _,_,aE _ rfl,rfl}
def Vals.za(r:Vals xs us):us=[]↔xs=[]:=by
 cases r with
 |nil=>simp
 |cons _ _=>simp
def Iq(n:Nat)(i:Int):Option Nat:=if 0<=i then(if i<n then some i.toNat else none)else if -(n:Int)<=i then some (i+n).toNat else none
def pX(xs:List α)(i:Int):Option α:=(Iq xs.length i).bind λj=>xs[j]?
def Oa(h:Iq n i=some j):seqIndex? i n=some j/\j<n/\-(n:Int)<=i/\i<n:=by
 unfold Iq at h;by_cases h0:0<=i
 ·rw[aG h0]at h;by_cases h1:i<n
  ·rw[aG h1]at h;have e:=bJ h;exact{by rw[DI h0 h1,e],by lia,by lia,h1}
  ·rw[aw h1]at h;cases h
 ·rw[aw h0]at h;by_cases h1:-(n:Int)<=i
  ·rw[aG h1]at h;have e:=bJ h;exact{by rw[BF ∅ h1,e],by lia,h1,by lia}
  ·rw[aw h1]at h;cases h
def Hr(h:pX xs i=some v):∃j,seqIndex? i xs.length=some j/\xs[j]?=some v/\j<xs.length/\-(xs.length:Int)<=i/\i<xs.length:=by
 unfold pX at h;cases e:Iq xs.length i with
 |none=>rw[e]at h;cases h
 |some j=>
  rw[e]at h;obtain⟨h1,h2,h3,h4⟩:=Oa e;exact⟨j,h1,h,h2,h3,h4⟩
def jE{xs:List α}{j:Nat}{v:α}(h:xs[j]?=some v):pX xs (j:Int)=some v:=by
 have hj:=(aq.mp h).1;have e:Iq xs.length (j:Int)=some j:=by unfold Iq;rw[aG ∅,aG ∅];simp
 unfold pX;rw[e];exact h
def aap(b:Expr):Prop:=∀o i,subscripted b false o i=operate [o,i] (getItem o i)
end
def OQ(X:Cx)(r:R2):Prop:=
 ∀(value slice:Expr)(pins:Aaa)(s:Shared)(Z:St)(H:Hp)(x y:V)(v u:Value)(Q:VK),Inv X pins Z H s->RelV x v->RelV y u->r x y H Q->
  subscripted slice false v u=operate [v,u] (getItem v u)->wpAny (-6) X.A (subscriptTail value slice v u) (EP X pins Z Q) X.xe s
def Uw(X:Cx)(id:String)(r:V->Aam->Hp->VK->Prop):Prop:=
 ∀(pins:Aaa)(s:Shared)(Z:St)(H:Hp)(x:V)(xs:Aam)(v:Value)(us:Aae)(Q:VK),Inv X pins Z H s->RelV x v->Vals xs us->r x xs H Q->
  wpAny (-6) X.A (call (.builtin id) (v::us)) (EP X pins Z Q) X.xe s
section
variable{X:Cx}{a b:Expr}{ta tb:TE}{pos:Pos}
def cM(hr:OQ X r)(ha:PE X a ta)(hb:PE X b tb)(hs:aap b):PE X (.Subscript a b pos) (W7 r ta tb):=by intro pins s Z H Q I h;exact AX (WN ha hb I h λv u s2 x y H2 I2 rx ry q=>hr a b pins s2 Z H2 x y v u Q I2 rx ry q (hs _ _))
inductive abb(K:Frag)(x:V)(y:V)(H:Hp)(Q:VK):Prop
 |mk p xs i v (_:x=.ref p) (_:y=.int i) (_:aY K H p xs) (_:pX xs i=some v) (_:Q v H)
inductive aba(K:Frag)(x:V)(y:V)(H:Hp)(Q:VK):Prop
 |mk p xs i v (_:x=.ref p) (_:y=.int i) (_:bC K H p xs) (_:pX xs i=some v) (_:Q v H)
inductive ad6(x:V)(y:V)(H:Hp)(Q:VK):Prop
 |mk z i c (_:x=.str z) (_:y=.int i) (_:z.length<=sizeLine) (_:pX z.cps.toList i=some c) (_:Q (.str ⟨#[c]⟩) H)
def eW:OQ X (abb X.K):=by
 intro value slice pins s Z H x y v u Q I rx ry h hs;obtain⟨p,xs,i,z,rfl,rfl,hq,he,q⟩:=h;cases rx;obtain⟨t,rfl⟩:=ry;obtain⟨aS,r,pl,hz⟩:=I.list hq;obtain⟨j,h1,h2,h3,h4,h5⟩:=Hr he;obtain⟨w,ew,pU⟩:=r.get h2;have hl:=r.length;have hn:=B4;have fin:EP X pins Z Q w s:=⟨z,H,I,pU,q⟩;by_cases h0:0<=i
 ·have hj:i.toNat=j:=by rw[DI h0 h5]at h1;exact bJ h1
  exact item_listR pl.isList h0 ∅ (by rw[hj];simpa using ew) fin hs
 ·have hj:(i+(aS.toArray.size:Int)).toNat=j:=by rw[BF ∅ h4]at h1;rw[aN,<-hl];exact bJ h1
  exact yi pl.isList.typeIs slot_list_getitem.lookup
   (wpAny_getItem_list_neg pl.isList ∅ (by rw[aN]<;>lia) ∅ (by rw[hj];simpa using ew) ⟨rfl,fin⟩) hs
def il:OQ X (aba X.K):=by
 intro value slice pins s Z H x y v u Q I rx ry h hs;obtain⟨p,xs,i,z,rfl,rfl,hq,he,q⟩:=h;cases rx;obtain⟨t,rfl⟩:=ry;obtain⟨aS,r,pl,hz⟩:=I.tuple hq;obtain⟨j,h1,h2,h3,h4,h5⟩:=Hr he;obtain⟨w,ew,pU⟩:=r.get h2;have hn:=B4;exact yi pl.typeIs slot_tuple_getitem.lookup
  (getItem_tuple pl ∅ ∅ (by rw[aN,<-r.length];exact h1) (by simpa using ew) {rfl,(⟨z,H,I,pU,q⟩)}) hs
def abF:OQ X ad6:=by
 intro value slice pins s Z H x y v u Q I rx ry h hs;obtain⟨z,i,c,rfl,rfl,hz,he,q⟩:=h;obtain⟨t,rfl⟩:=rx;obtain⟨t',rfl⟩:=ry;obtain⟨j,h1,h2,h3,h4,h5⟩:=Hr he;have hl:z.cps.toList.length=z.length:=by simp[Str.length]
 rw[hl]at h1 h4 h5;have hn:=B4;exact tail_any (oP s z t) slot_str_getitem.lookup (getItem_str (by
  rw[(bB ∅),(bB ∅),Bj]) (by rw[h1];simpa using h2) {.str ⟨#[c]⟩,H,I.tok _,⟨_,rfl⟩,q}) hs
def PD(aS:Aae)(n j:Nat)(u:Value):Obj.mapSeq (·.setIfInBounds j u) {cls:=.type "list",data:=.seq aS.toArray n}={cls:=.type "list",data:=.seq (aS.set j u).toArray n}:=by simp[Obj.mapSeq]
def Inv.lst(I:Inv X pins Z H s)(h:H p=some (.lst xs)):
  ∃(aS:Aae)(n:Nat),Vals xs aS/\s.heap.get? p=some {cls:=.type "list",data:=.seq aS.toArray n}/\xs.length<=sizeLine:=by
 obtain⟨z,aS,n,r,e⟩:=I.bj p _ h;exact⟨aS,n,r,e,z⟩
def Inv.abw{aS rT:Aae}(I:Inv X pins Z H s)(h:H p=some (.lst xs))
  (ho:s.heap.get? p=some {cls:=.type "list",data:=.seq aS.toArray n}) (hf:f {cls:=.type "list",data:=.seq aS.toArray n}={cls:=.type "list",data:=.seq rT.toArray n'}) (r:Vals ys rT) (hz:ys.length<=sizeLine) (t:Nat):
  Inv X pins Z (upd H p (-39)) {s with heap:=s.heap.update p f,toks:=t}:=by
 have e:(s.heap.update p f).get? p=some {cls:=.type "list",data:=.seq rT.toArray n'}:=by rw[cD f ho (by rw[hf]<;>rfl),hf]
 refine I.write (by rw[h];trivial) (.inl rfl) (λb u hb q=>(bT _ _ (cB hb)).trans q) ⟨_,e⟩ ?_;exact⟨hz,rT,n',r,e⟩
inductive ac9(o:V)(i:V)(v:V)(H:Hp)(Q:Hp->Prop):Prop
 |mk p xs k j (_:o=.ref p) (_:i=.int k) (_:H p=some (.lst xs)) (_:Iq xs.length k=some j) (_:Q (upd H p (.lst (xs.set j v))))
def set_list:acI X ac9:=by
 intro pins s Z H o i v ov iv u Q I ro ri rv h;obtain⟨p,xs,k,j,rfl,rfl,hp,hj,q⟩:=h;cases ro;obtain⟨t,rfl⟩:=ri;obtain⟨aS,n,r,ho,hz⟩:=I.lst hp;obtain⟨h1,h2,h3,h4⟩:=Oa hj;have hl:=r.length;have hn:=B4;have I':Inv X pins Z (upd H p (.lst (xs.set j v))) {s with heap:=s.heap.update p (Obj.mapSeq (·.setIfInBounds j u))}:=
  I.abw hp ho (PD aS n j u) (r.set rv j) (by rw[List.length_set];exact hz) s.toks
 by_cases h0:0<=k
 ·have hk:k.toNat=j:=by rw[DI h0 h4]at h1;exact bJ h1
  exact PySem.W.ki_setAt ho h0 ∅ (by rw[aN,<-hl];exact h4) (by rw[hk];exact⟨_,I',q⟩)
 ·have hk:(k+(aS.toArray.size:Int)).toNat=j:=by rw[BF ∅ h3]at h1;rw[aN,<-hl];exact bJ h1
  exact PySem.W.ki_setBack ho ∅ (by rw[aN,<-hl];exact h3) ∅ (by rw[hk];exact⟨_,I',q⟩)
def vS:V->Bool
 | .cR=>true
 | .bl _=>true
 | .int _=>true
 | .str _=>true
 |_=>false
def IM:V->V->Bool
 | .cR,.cR=>true
 | .bl a,.bl b=>a==b
 | .bl a,.int b=>(if a then 1 else 0)==b
 | .int a,.bl b=>a==(if b then 1 else 0)
 | .int a,.int b=>a==b
 | .str a,.str b=>a==b
 |_,_=>false
def acw(ry:RelV y u)(rx:RelV x v)(fy:vS y=true)(fx:vS x=true):SeqAt.EqAt A s u v (IM y x):=by
 cases y with
 |cR=>
  cases ry;cases x with
  |cR=>cases rx;exact SeqAt.EqAt.same _
  |bl b=>cases rx;exact SeqAt.EqAt.none_bool b
  |int b=>obtain⟨t,rfl⟩:=rx;exact SeqAt.EqAt.none_int b t
  |str b=>obtain⟨t,rfl⟩:=rx;exact SeqAt.EqAt.none_str b t
  |_=>exact absurd (show false=true from fx) bu
 |bl a=>
  cases ry;cases x with
  |cR=>cases rx;exact SeqAt.EqAt.bool_none a
  |bl b=>cases rx;exact SeqAt.EqAt.bool_bool a b
  |int b=>obtain⟨t,rfl⟩:=rx;exact SeqAt.EqAt.bool_int a b t
  |str b=>obtain⟨t,rfl⟩:=rx;exact SeqAt.EqAt.bool_str a b t
  |_=>exact absurd (show false=true from fx) bu
 |int a=>
  obtain⟨t',rfl⟩:=ry;cases x with
  |cR=>cases rx;exact SeqAt.EqAt.int_none a t'
  |bl b=>cases rx;exact SeqAt.EqAt.int_bool a t' b
  |int b=>obtain⟨t,rfl⟩:=rx;exact CF a t' b t
  |str b=>obtain⟨t,rfl⟩:=rx;exact CD a t' b t
  |_=>exact absurd (show false=true from fx) bu
 |str a=>
  obtain⟨t',rfl⟩:=ry;cases x with
  |cR=>cases rx;exact SeqAt.EqAt.str_none a t'
  |bl b=>cases rx;exact SeqAt.EqAt.str_bool a t' b
  |int b=>obtain⟨t,rfl⟩:=rx;exact CC a t' b t
  |str b=>obtain⟨t,rfl⟩:=rx;exact CB a t' b t
  |_=>exact absurd (show false=true from fx) bu
 |_=>exact absurd (show false=true from fy) bu
def Gf(x:V)(u:Value):Bool:=match u with
 | .none=>IM .cR x
 | .bool b=>IM (.bl b) x
 | .int i _=>IM (.int i) x
 | .str z _=>IM (.str z) x
 |_=>false
def Tz(r:RelV y u)(f:vS y=true):Gf x u=IM y x:=by
 cases y with
 |cR=>cases r;rfl
 |bl b=>cases r;rfl
 |int i=>obtain⟨t,rfl⟩:=r;rfl
 |str z=>obtain⟨t,rfl⟩:=r;rfl
 |_=>exact absurd (show false=true from f) bu
theorem Ht:∀{xs:Aam}{us:Aae},Vals xs us->xs.all vS=true->us.any (Gf x)=xs.any λy=>IM y x
 |_,_,.nil,_=>rfl
 |y::xs,u::us,.cons r t,f=>by rw[List.all_cons,cZ]at f;rw[mQ,mQ,Tz r f.1,Ht t f.2]
theorem EJ(rx:RelV x v)(fx:vS x=true):∀{xs:Aam}{us:Aae},Vals xs us->xs.all vS=true->∀u∈us,SeqAt.EqAt A s u v (Gf x u)
 |_,_,.nil,_=>λu hu=>by cases hu
 |y::xs,u::us,.cons r t,f=>λu' hu=>by
  rw[List.all_cons,cZ]at f;rcases aH.mp hu with rfl|hu
  ·rw[Tz r f.1];exact acw r rx f.1 fx
  ·exact EJ rx fx t f.2 u' hu
def XJ(x:V)(xs:Aam):Bool:=xs.any λy=>IM y x
inductive rIn(K:Frag)(neg:Bool)(x:V)(y:V)(H:Hp)(Q:VK):Prop
 |mk p xs (_:y=.ref p) (_:(aY K H p xs\/bC K H p xs)) (_:vS x=true) (_:xs.all vS=true) (_:Q (.bl (if neg then !XJ x xs else XJ x xs)) H)
def KO:jH X (compareOp .NotIn) (rIn X.K true):=by
 intro pins s Z H x y v u Q I rx ry h;obtain⟨p,xs,rfl,hq,fx,fs,q⟩:=h;cases ry;rcases hq with hq|hq
 ·obtain⟨aS,r,pl,hz⟩:=I.list hq;refine SeqAt.notIn_listAt (Gf x) pl.isList (λw hw=>EJ rx fx r fs w (by simpa using hw)) {.bl _,H,I,rfl,?_};rw[show aS.toArray.any (Gf x)=aS.any (Gf x) by simp,Ht r fs];exact q
 ·obtain⟨aS,r,pl,hz⟩:=I.tuple hq;refine SeqAt.notIn_tupleAt (Gf x) pl (λw hw=>EJ rx fx r fs w (by simpa using hw)) {.bl _,H,I,rfl,?_};rw[show aS.toArray.any (Gf x)=aS.any (Gf x) by simp,Ht r fs];exact q
def L9:iN X (.type "list") (λxs H Q=>∃p ys,xs=[.ref p]/\(aY X.K H p ys\/bC X.K H p ys)/\∀l,H l=none->Q (.ref l) (upd H l (-39))):=by
 intro pins s Z H xs us Q I r h;obtain⟨p,ys,rfl,hq,q⟩:=h;obtain⟨u,rfl,rx⟩:=jy r;cases rx;have fin:∀(aS:Aae),Vals ys aS->ys.length<=sizeLine->∀(h':Heap)(c':Nat),(∀b o',s.heap.get? b=some o'->h'.get? b=some o')->
   h'.get? s.heap.objs.size=some {cls:=.type "list",dict:=none,data:=.seq aS.toArray c',slots:=#[]}->EP X pins Z Q (-11) {s with heap:=h'}:=λaS r' hz h' c' kp e=>
  {.ref s.heap.objs.size,_,I.laid kp (ak _) (show dE X.prog X.w _ h' _ (-39)from⟨hz,aS,c',r',e⟩),rfl,q _ (-72)}
 rcases hq with hq|hq
 ·obtain⟨aS,r',pl,hz⟩:=I.list hq;have hlen:=r'.length;obtain⟨o,ho,hc,n,hd⟩:=pl.isList;exact call_list_seq p (.inl rfl) ho hc hd (λh' c' kp e=>fin aS r' hz h' c' kp e) (by simp only[aN]<;>lia)
 ·obtain⟨aS,r',pl,hz⟩:=I.tuple hq;have hlen:=r'.length;obtain⟨o,ho,hc,n,hd⟩:=pl;exact call_list_seq p (.inr rfl) ho hc hd (λh' c' kp e=>fin aS r' hz h' c' kp e) (by simp only[aN]<;>lia)
def d6:iN X (.type "tuple") (λxs H Q=>∃p ys,xs=[.ref p]/\((aY X.K H p ys/\∀l,H l=none->Q (.ref l) (upd H l (.tup ys)))\/(bC X.K H p ys/\Q (.ref p) H))):=by
 intro pins s Z H xs us Q I r h;obtain⟨p,ys,rfl,h⟩:=h;obtain⟨u,rfl,rx⟩:=jy r;cases rx;rcases h with⟨hq,q⟩|⟨hq,q⟩
 ·obtain⟨aS,r',pl,hz⟩:=I.list hq;have hlen:=r'.length;refine call_tuple_list pl.isList (λh' kp=>?_) (by simp only[aN]<;>lia);have I1:=I.kept (t':=s.toks) kp;have I2:Inv X pins Z (upd H h'.objs.size (.tup ys)) {s with heap:=h'.push {cls:=.type "tuple",data:=.seq aS.toArray}}:=
   I1.laid (λb o e=>ah _ e) (ak _) (show dE X.prog X.w _ _ _ (.tup ys)from{hz,aS,r',yf _ _,_,aE _ rfl,rfl})
  exact{.ref h'.objs.size,_,I2,rfl,q _ (-87)}
 ·obtain⟨aS,r',pl,hz⟩:=I.tuple hq;exact call_tuple_same pl {.ref p,H,I,rfl,q}
noncomputable def tyV(K:Frag)(T:String)(x:V)(H:Hp):Prop:=match x with
 | .str _=>T="str"
 | .int _=>T="int"
 | .ref p=>(T="list"/\∃xs,aY K H p xs)\/(T="tuple"/\((∃xs,H p=some (.tup xs))\/∃o,K.lookup p=some o/\o.cls=.type "tuple"/\o.dict=none))\/
   (T="dict"/\((∃kvs,H p=some (.dK kvs))\/∃kvs,H p=some (.dT kvs)))\/(T="set"/\∃S n,H p=some (.set S n))
 |_=>False
def aaB(I:Inv X pins Z H s)(r:RelV x v)(ty:tyV X.K T x H):
  s.TypeIs v T/\∀a,v=.ref a->∃ob,s.heap.get? a=some ob/\ob.dict=none:=by
 cases x with
 |str z=>
  obtain⟨t,rfl⟩:=r;cases(show T="str"from ty);exact{oP s z t,λ_ e=>nomatch e}
 |int i=>
  obtain⟨t,rfl⟩:=r;cases(show T="int"from ty);exact{typeIs_int s i t,λ_ e=>nomatch e}
 |ref p=>
  cases r;rcases ty with⟨rfl,xs,hq⟩|⟨rfl,⟨xs,hq⟩|⟨o,hk,hc,hd⟩⟩|⟨rfl,hk⟩|⟨rfl,S,n,hk⟩
  ·obtain⟨aS,_,pl,_⟩:=I.list hq;refine{pl.isList.typeIs,λa e=>?_};cases e;obtain⟨o,n,e,c,hd,_⟩:=pl;exact⟨o,e,hd⟩
  ·obtain⟨_,_,_,⟨o1,e1,c1,_⟩,o,e,hd⟩:=I.bj p _ hq;refine{⟨o1,e1,c1⟩,λa e2=>?_};cases e2;exact⟨o,e,hd⟩
  ·refine{{o,I.nj p o hk,hc},λa e=>?_};cases e;exact{o,I.nj _ o hk,hd}
  ·have z:∃o,s.heap.get? p=some o/\o.ExactDict:=by
    rcases hk with⟨kvs,hk⟩|⟨kvs,hk⟩
    ·obtain⟨_,_,_,_,o,_,_,e,ex,_⟩:=I.bj p _ hk;exact⟨o,e,ex⟩
    ·obtain⟨_,_,_,_,o,_,_,e,ex,_⟩:=I.bj p _ hk;exact⟨o,e,ex⟩
   obtain⟨o,e,ex⟩:=z;refine{{o,e,ex.1},λa e2=>?_};cases e2;exact{o,e,ex.2.1}
  ·obtain⟨o,_,_,_,e,ex,_⟩:=I.bj p _ hk;refine{{o,e,ex.1},λa e2=>?_};cases e2;exact{o,e,ex.2.1}
 |_=>exact False.elim ty
def tBM(K:Frag)(T:String)(r:V->Aam->Hp->VK->Prop)(to:TE)(t:TA):TE:=λZ H Q=>to Z H λx H1=>tyV K T x H1/\t Z H1 λxs H2=>r x xs H2 Q
variable{o e:Expr}{es:List Expr}{to:TE}{t:TA}{name:Str}{apos eU:Pos}{T id:String}{r:V->Aam->Hp->VK->Prop}
def oS(pa:PlainAttrs T)(slot:Slot T name id)(hty:typeOf (.builtin id)=pure (.type "method_descriptor"))(hm:Uw X id r)(ho:PE X o to)(ha:PA X (e::es) t)
  (F5:attributeBase o name X.env (eval o X.env)=eval o X.env:=by rfl)
  (Wg:((backTo eU (starEach (e::es) X.env)).all (λx=>!x.1)&&(backToKw eU (keywordEach [] X.env)).all (λx=>x.1.isSome)
   &&decide ((e::es).length+([]:List Keyword).length+(-57)<30))=true:=by rfl)
  (F2:(-80)=true:=by rfl) (hs:starEach (e::es) X.env=(false,eval e X.env)::starEach es X.env:=by rfl) (Ly:(backTo eU (starEach es X.env)).any (·.1)=false:=by rfl):
  PE X (.Call (.Attribute o name apos) (e::es) [] eU) (tBM X.K T r to t):=by
 intro pins s Z H Q I h;refine wpAny_Call_method_late F5 Wg F2 rfl (dq (ho pins s Z H _ I h) λv s1 x H1 I1 r1 aeL=>?_);obtain⟨ty,q1⟩:=aeL;obtain⟨h1,h2⟩:=aaB I1 r1 ty;refine{T,id,pa,slot,hty,h1,h2,?_};have hA:=ha eU pins s1 Z H1 _ I1 q1;rw[hs]at hA⊢;exact jr (by show(false||(backTo eU (starEach es X.env)).any (·.1))=false;rw[Ly]<;>rfl) (mF (iR hA λus s2 ⟨vs,H2,I2,r2,q2⟩=>hm pins s2 Z H2 x vs v us Q I2 r1 r2 q2))
end
def Ux(X:Cx)(id:String)(r:V->Aam->Hp->VK->Prop):Prop:=
 ∀(pins:Aaa)(s:Shared)(Z:St)(H:Hp)(x:V)(xs:Aam)(v:Value)(us:Aae)(Q:VK),Inv X pins Z H s->RelV x v->Vals xs us->r x xs H Q->
  wpAny (-6) X.A (call (.builtin id) (v::us)) (EP X pins Z Q) X.xe s
theorem Vals.one:∀{x:V}{us:Aae},Vals [x] us->∃u,us=[u]/\RelV x u
 |_,_,.cons r .nil=>⟨_,rfl,r⟩
theorem Vals.eraseIdx:∀{xs:Aam}{us:Aae}(i:Nat),Vals xs us->Vals (xs.eraseIdx i) (us.eraseIdx i)
 |_,_,_,.nil=>.nil
 |_,_,0,.cons _ t=>t
 |_,_,i+1,.cons r t=>.cons r (Vals.eraseIdx i t)
theorem Il{α:Type}:∀(l:List α)(i:Nat),(l.eraseIdx i).length<=l.length
 |[],_=>ak _
 |_::_,0=>dZ _
 |_::r,i+1=>wZ (Il r i)
section
variable{X:Cx}{pins:Aaa}{Z:St}{H:Hp}{s:Shared}{l:Addr}{xs ys:Aam}
def Inv.PK{aS rT:Aae}(I:Inv X pins Z H s)(hH:H l=some (.lst xs))
  (e:s.heap.get? l=some {cls:=.type "list",data:=.seq aS.toArray n}) (hf:f aS.toArray=rT.toArray) (hv:Vals ys rT) (hz:ys.length<=sizeLine):
  Inv X pins Z (upd H l (-39)) {s with heap:=s.heap.update l (Obj.mapSeq f),toks:=t'}:=by
 have q:=PySem.IsL.update e f;rw[hf]at q;refine I.write (hH▸trivial) (.inl rfl) (λb' u hb hu=>(bT s.heap (Obj.mapSeq f) (cB hb)).trans hu) ⟨_,q⟩ ?_;exact⟨hz,rT,_,hv,q⟩
def Inv.aeg(I:Inv X pins Z H s)(hv:Vals ys aS)(hz:ys.length<=sizeLine):
  Inv X pins Z (upd H s.heap.objs.size (-39)) {s with heap:=s.heap.push {cls:=.type "list",data:=.seq aS.toArray},toks:=t'}:=
 I.laid (λ_ _ q=>ah _ q) (ak _) {hz,aS,0,hv,aE _ rfl}
def Inv.fresh(I:Inv X pins Z H s):H s.heap.objs.size=none:=I.bj.fresh (ak _)
def Inv.EK(I:Inv X pins Z H s)(hH:H l=some (.lst xs)):xs.length<=sizeLine/\∃(aS:Aae)(n:Nat),Vals xs aS/\xs.length=aS.length/\s.heap.get? l=some {cls:=.type "list",data:=.seq aS.toArray n}:=by obtain⟨z,aS,n,r,e⟩:=I.bj l _ hH;exact{z,aS,n,r,r.length,e}
def K1(h:n<=sizeLine):Builtin.List.listTooLong n=false:=by exact bB ∅
end
section
variable{X:Cx}
inductive Zh(x:V)(vs:Aam)(H:Hp)(Q:VK):Prop
 |mk l xs y (_:x=.ref l) (_:vs=[y]) (_:H l=some (.lst xs)) (_:xs.length<sizeLine) (_:Q .cR (upd H l (.lst (xs++[y]))))
def qM:Ux X "list.append" Zh:=by intro pins s Z H x vs v us Q I rx rv h;obtain⟨l,xs,y,rfl,rfl,hH,hz,q⟩:=h;cases rx;obtain⟨u,rfl,ru⟩:=rv.one;obtain⟨z,aS,n,r,hl,e⟩:=I.EK hH;refine vU CQ ⟨_,e,rfl⟩ Br (A5 _ _) (Dw l aS.toArray n u (by rw[aN];lia)) {e,?_};refine{.cR,_,I.PK hH e (-8) (r.append (.cons ru .nil)) ?_,rfl,q};rw[aC,fk];lia
inductive Zg(x:V)(vs:Aam)(H:Hp)(Q:VK):Prop
 |mk l b xs zs (_:x=.ref l) (_:vs=[.ref b]) (_:H l=some (.lst xs)) (_:H b=some (.lst zs)) (_:xs.length+zs.length<=sizeLine) (_:Q .cR (upd H l (.lst (xs++zs))))
def Ig:Ux X "list.extend" Zg:=by
 intro pins s Z H x vs v us Q I rx rv h;obtain⟨l,b,xs,zs,rfl,rfl,hH,hB,hz,q⟩:=h;cases rx;obtain⟨u,rfl,ru⟩:=rv.one;cases ru;obtain⟨z,aS,n,r,hl,e⟩:=I.EK hH;obtain⟨z2,tM,n2,r2,g8,e2⟩:=I.EK hB;have hsz:aS.toArray.size+tM.toArray.size<=sizeLine:=by rw[aN,aN];lia
 have P8:¬(!aS.toArray.isEmpty&&Builtin.List.listTooLong (aS.toArray.size+tM.toArray.size))=true:=by rw[K1 hsz,zO];exact bu
 refine vU CP ⟨_,e,rfl⟩ Bq (A4 _ _)
  (AutoSeq1.list_extend_list_list_0 l aS.toArray n b tM.toArray n2 P8 (by rw[aN];lia) ∅) {e,e2,?_}
 refine{.cR,_,I.PK hH e (-8) (r.append r2) ?_,rfl,q};rw[aC];lia
inductive aa8(x:V)(vs:Aam)(H:Hp)(Q:VK):Prop
 |mk l xs i k y (_:x=.ref l) (_:vs=[.int i]) (_:H l=some (.lst xs)) (_:-(2^63)<=i) (_:i<2^63) (_:seqIndex? i xs.length=some k) (_:xs[k]?=some y) (_:Q y (upd H l (.lst (xs.eraseIdx k))))
def VC:Ux X "list.pop" aa8:=by
 intro pins s Z H x vs v us Q I rx rv h;obtain⟨l,xs,i,k,y,rfl,rfl,hH,h1,h2,hk,hy,q⟩:=h;cases rx;obtain⟨u,rfl,ru⟩:=rv.one;obtain⟨t,rfl⟩:=ru;obtain⟨z,aS,n,r,hl,e⟩:=I.EK hH;obtain⟨w,hw,pU⟩:=r.get hy;refine vU F.slot_list_pop ⟨_,e,rfl⟩ F.entry_list_pop (F.args_list_pop_2 _ _)
  (MeetsSeq.list_pop_at l aS.toArray n i t k w (fitsIndex_both h1 h2) (by rw[aN,<-hl];exact hk) (by rw[<-bF];exact hw) (by rw[aN];lia)) {e,?_}
 refine{y,_,I.PK hH e ?_ (r.eraseIdx k) ?_,pU,q}
 ·show aS.toArray.eraseIdxIfInBounds k=(aS.eraseIdx k).toArray;rw[List.eraseIdxIfInBounds_toArray]
 ·have:=Il xs k;lia
inductive ad8(x:V)(y:V)(H:Hp)(Q:VK):Prop
 |mk l b xs zs (_:x=.ref l) (_:y=.ref b) (_:H l=some (.lst xs)) (_:H b=some (.lst zs)) (_:xs.length+zs.length<=sizeLine) (_:∀p,H p=none->Q (.ref p) (upd H p (.lst (xs++zs))))
def y7:jH X (binaryOp .Add) ad8:=by
 intro pins s Z H x y v u Q I rx ry h;obtain⟨l,b,xs,zs,rfl,rfl,hH,hB,hz,q⟩:=h;cases rx;cases ry;obtain⟨z,aS,n,r,hl,e⟩:=I.EK hH;obtain⟨z2,tM,n2,r2,g8,e2⟩:=I.EK hB;refine PySem.P.add_list e e2 ?_ (by rw[aN,aN];lia);have ea:aS.toArray++tM.toArray=(aS++tM).toArray:=by simp
 rw[ea];exact{.ref _,_,I.aeg (r.append r2) (by rw[aC];lia),rfl,q _ I.fresh}
end
section
variable{κ:Type}[DecidableEq κ]
def fG(kvs:List (κ×V))(k:κ):Aan:=(kvs.find? λkv=>decide (kv.1=k)).map (·.2)
def putK(kvs:List (κ×V))(k:κ)(v:V):List (κ×V):=
 if(-54)=true then kvs.map (λkv=>if kv.1=k then(kv.1,v)else kv)else kvs++[(k,v)]
def jg{p:κ×V}{k:κ}(e:p.1=k):fG (p::r) k=some p.2:=by simp[fG,eP,e]
def iE{p:κ×V}{k:κ}(e:¬p.1=k):fG (p::r) k=fG r k:=by simp[fG,eP,e]
theorem qo(k:κ):∀kvs:List (κ×V),(-54)=(fG kvs k).isSome
 |[]=>rfl
 |p::r=>by
  rw[mQ];by_cases e:p.1=k
  ·simp only[jg e,aT e,Bool.true_or,Option.isSome_some]
  ·rw[iE e,bB e,Bool.false_or];exact qo k r
theorem JE(k j:κ)(y:V):∀kvs:List (κ×V),fG (kvs.map λkv=>if kv.1=k then(kv.1,y)else kv) j=(fG kvs j).map λx=>if j=k then y else x
 |[]=>rfl
 |p::r=>by
  have ih:=JE k j y r;rw[bw];by_cases h:p.1=k
  ·rw[aG h];by_cases e:p.1=j
   ·rw[jg (p:=(p.1,y)) e,jg e,d7,aG (e.symm.trans h)]
   ·rw[iE (p:=(p.1,y)) e,iE e,ih]
  ·rw[aw h];by_cases e:p.1=j
   ·rw[jg e,jg e,d7,aw (λz=>h (e.trans z))]
   ·rw[iE e,iE e,ih]
theorem HA(k j:κ)(y:V):∀kvs:List (κ×V),fG kvs k=none->fG (kvs++[(k,y)]) j=if j=k then some y else fG kvs j
 |[],_=>by
  by_cases e:k=j
  ·rw[aG e.symm];exact jg e
  ·rw[aw (λz=>e z.symm)];exact iE e
 |p::r,hn=>by
  rw[jl];have hk:¬p.1=k:=λz=>by rw[jg z]at hn;cases hn
  rw[iE hk]at hn;by_cases e:p.1=j
  ·rw[jg e,jg e,aw (λz=>hk (e.trans z))]
  ·rw[iE e,iE e,(HA k j y r hn)]
def UD(kvs:List (κ×V))(k j:κ)(y:V):fG (putK kvs k y) j=if j=k then some y else fG kvs j:=by
 unfold putK;by_cases a:(-54)=true
 ·rw[aG a,JE];rw[qo]at a;by_cases e:j=k
  ·obtain⟨x,hx⟩:=kE.mp a;rw[aG e,e,hx,d7,aG rfl]
  ·rw[aw e];cases fG kvs j with
   |none=>rfl
   |some x=>rw[d7,aw e]
 ·rw[aw a];refine HA k j y kvs ?_;rw[qo]at a;cases q:fG kvs k with
  |none=>rfl
  |some x=>rw[q]at a;exact(a rfl).elim
def yp(kvs:List (κ×V))(k:κ)(v:V):(putK kvs k v).length<=kvs.length+1:=by
 unfold putK;split
 ·rw[af];lia
 ·rw[aC,bA,fA];lia
def Vf{k:κ}(v:V)(h:fG kvs k=none):putK kvs k v=kvs++[(k,v)]:=by unfold putK;rw[qo,h];exact aw (-9)
def lU.uG(r:lU o u):o.isSome=u.isSome:=by
 cases o with
 |none=>cases u with
  |none=>rfl
  |some _=>exact(show False from r).elim
 |some _=>cases u with
  |none=>exact(show False from r).elim
  |some _=>rfl
def lU.getD(r:lU o u)(rd:RelV d d'):RelV (o.getD d) (u.getD d'):=by
 cases o with
 |none=>cases u with
  |none=>exact rd
  |some _=>exact(show False from r).elim
 |some _=>cases u with
  |none=>exact(show False from r).elim
  |some _=>exact r
def KV.val(r:KV kvs vs)(k:κ):lU (fG kvs k) (valueAt vs k):=by
 induction r with
 |nil=>exact True.intro
 |@cons p q ps qs h t ih=>
  obtain⟨h1,h2⟩:=h;by_cases e:p.1=k
  ·have e':=h1.symm.trans e;have b:valueAt (q::qs) k=some q.2:=by simp[valueAt,eP,e']
   rw[jg e,b];exact h2
  ·have e':¬q.1=k:=λz=>e (h1.trans z);have b:valueAt (q::qs) k=valueAt qs k:=by simp[valueAt,eP,e']
   rw[iE e,b];exact ih
def KV.any(r:KV kvs vs)(k:κ):(-54)=vs.any λkv=>decide (kv.1=k):=by
 unfold KV at r
 induction r with
 |nil=>rfl
 |cons h t ih=>rw[mQ,mQ,ih,h.1]
def KV.U9(r:KV kvs vs)(k:κ)(ry:RelV y u):
  KV (kvs.map λkv=>if kv.1=k then(kv.1,y)else kv) (vs.map λkv=>if kv.1=k then(kv.1,u)else kv):=by
 induction r with
 |nil=>exact .nil
 |@cons p q ps qs h t ih=>
  rw[bw,bw];refine .cons ?_ ih;obtain⟨h1,h2⟩:=h;by_cases e:p.1=k
  ·rw[aG e,aG (h1.symm.trans e)];exact⟨h1,ry⟩
  ·rw[aw e,aw (λz=>e (h1.trans z))];exact⟨h1,h2⟩
def KV.put(r:KV kvs vs)(k:κ)(ry:RelV y u):KV (putK kvs k y) (stored vs k u):=by
 unfold putK stored;rw[r.any k];by_cases e:(vs.any λkv=>decide (kv.1=k))=true
 ·rw[aG e,aG e];exact r.U9 k ry
 ·rw[aw e,aw e];exact yB r ⟨rfl,ry⟩
def KV.keys{kvs:List (κ×V)}(r:KV kvs vs):kvs.map (·.1)=vs.map (·.1):=by
 induction r with
 |nil=>rfl
 |cons h t ih=>rw[bw,bw,ih,h.1]
def KV.length{kvs:List (κ×V)}(r:KV kvs vs):kvs.length=vs.length:=bh r
end
def xH(r:RelV (kV k) u):(bW P w).is k u=true:=by
 cases k with
 |inl i=>obtain⟨t,e⟩:=(show∃t,u=Value.int i t from r);subst e;exact MF P w i t
 |inr x=>obtain⟨t,e⟩:=(show∃t,u=Value.str x t from r);subst e;exact DR P w x t
theorem Ir:∀{ks:List Key}{us:Aae},Vals (ks.map kV) us->ItemsAre (bW P w) ks us
 |[],_,r=>by rw[jv]at r;cases r;exact .nil
 |k::ks,_,r=>by
  cases r with
  |cons h t=>exact .cons (xH h) (Ir t)
abbrev KT(H:Hp):List (List Key×V)->List (List Key×Addr×Value)->Prop:=Paired λp q=>p.1=q.1/\H q.2.1=some (.tup (p.1.map kV))/\RelV p.2 q.2.2
def KT.val(r:KT H kvs xs)(k:List Key):lU (fG kvs k) ((atKey xs k).map (·.2)):=by
 induction r with
 |nil=>exact True.intro
 |@cons p q ps qs h t ih=>
  obtain⟨h1,_,h2⟩:=h;by_cases e:p.1=k
  ·have e':=h1.symm.trans e;have b:atKey (q::qs) k=some q.2:=by simp[atKey,eP,e']
   rw[jg e,b];exact h2
  ·have e':¬q.1=k:=λz=>e (h1.trans z);have b:atKey (q::qs) k=atKey qs k:=by simp[atKey,eP,e']
   rw[iE e,b];exact ih
def KT.U9(r:KT H kvs xs)(k:List Key)(ry:RelV y u):
  KT H (kvs.map λkv=>if kv.1=k then(kv.1,y)else kv) (xs.map (putAt k u)):=by
 induction r with
 |nil=>exact .nil
 |@cons p q ps qs h t ih=>
  rw[bw,bw];refine .cons ?_ ih;obtain⟨h1,h2,h3⟩:=h;unfold putAt;by_cases e:p.1=k
  ·rw[aG e,aG (h1.symm.trans e)];exact⟨h1,h2,ry⟩
  ·rw[aw e,aw (λz=>e (h1.trans z))];exact⟨h1,h2,h3⟩
def KT.put(r:KT H kvs xs)(k:List Key)(hb:H b=some (.tup (k.map kV)))(ry:RelV y u):
  KT H (putK kvs k y) (storedH xs k b u):=by
 have e:(-54)=(atKey xs k).isSome:=by rw[qo,(r.val k).uG,jZ]
 unfold putK storedH;rw[e];by_cases q:(atKey xs k).isSome=true
 ·rw[aG q,aG q];exact r.U9 k ry
 ·rw[aw q,aw q];exact yB r ⟨rfl,hb,ry⟩
def KT.keeps(r:KT H kvs xs)(ht:∀b ys,H b=some (.tup ys)->H' b=some (.tup ys)):KT H' kvs xs:=
 Paired.u4 r λ_ _ z=>{z.1,ht _ _ z.2.1,z.2.2}
section
variable{P:Program}{w:World}{H:Hp}{h:Heap}{a:Addr}
def Xl(ok:ko P w H h)(e:Rd H a u):dE P w H h a u:=e.ok ok
def xZ(ok:ko P w H h)(e:Rd H a (.dK kvs)):kvs.length<=sizeLine/\(a==sysModules)=false/\∃vs,KV kvs vs/\h.DictOf (bW P w) a vs:=
 show dE P w H h a (.dK kvs)from Xl ok e
def Dd(ok:ko P w H h)(e:H a=some (.dK kvs)):kvs.length<=sizeLine/\(a==sysModules)=false/\∃vs,KV kvs vs/\h.DictOf (bW P w) a vs:=xZ ok (.inl e)
def B6(ok:ko P w H h)(e:H a=some (.tup (ks.map kV))):(tupleKind (bW P w)).is h ks a:=by obtain⟨_,aS,r,⟨o,h1,h2,n,h3⟩,_⟩:=(show dE P w H h a (.tup (ks.map kV))from ok a _ e);exact{o,aS.toArray,n,h1,h2,h3,by simpa using Ir r}
def Dc(ok:ko P w H h)(e:Rd H a (.dT kvs)):kvs.length<=sizeLine/\(a==sysModules)=false/\
  ∃xs,KT H kvs xs/\h.DictOfH (tupleKind (bW P w)) a xs:=by
 obtain⟨z,y,xs,r,o,es,ep,h1,h2,h3,h4,h5⟩:=(show dE P w H h a (.dT kvs)from Xl ok e);refine{z,y,xs,r,o,es,ep,h1,h2,h3,h4,λx hx=>?_,h5};have all:∀{l:List (List Key×V)}{m:List (List Key×Addr×Value)},KT H l m->∀x∈m,(tupleKind (bW P w)).is h x.1 x.2.1:=by
  intro l m q
  induction q with
  |nil=>intro x hx;exact nomatch hx
  |@cons p q ps qs hq t ih=>
   intro x hx;rcases aH.mp hx with e|hx
   ·subst e;exact B6 ok (hq.1▸hq.2.1)
   ·exact ih x hx
 exact all r x hx
def adL(ok:ko P w H h)(e:H a=some (.dT kvs)):kvs.length<=sizeLine/\(a==sysModules)=false/\
  ∃xs,KT H kvs xs/\h.DictOfH (tupleKind (bW P w)) a xs:=Dc ok (.inl e)
end
def pR(H:Hp)(a:Addr)(y:V)(r:Aan):Prop:=
 (∃kvs k,Rd H a (.dK kvs)/\y=kV k/\r=fG kvs k)\/∃kvs k b,Rd H a (.dT kvs)/\y=.ref b/\H b=some (.tup (k.map kV))/\r=fG kvs k
def Hv(H:Hp)(a:Addr)(y v:V)(H':Hp):Prop:=
 (∃kvs k,H a=some (.dK kvs)/\y=kV k/\kvs.length<sizeLine/\H'=upd H a (.dK (putK kvs k v)))\/
 ∃kvs k b,H a=some (.dT kvs)/\y=.ref b/\H b=some (.tup (k.map kV))/\kvs.length<sizeLine/\H'=upd H a (.dT (putK kvs k v))
theorem pR.k{H:Hp}{a:Addr}{kvs:List (Key×V)}{k:Key}(e:H a=some (.dK kvs)):pR H a (kV k) (fG kvs k):=.inl {kvs,k,.inl e,rfl,rfl}
theorem Hv.k{H:Hp}{a:Addr}{kvs:List (Key×V)}{k:Key}{v:V}(e:H a=some (.dK kvs))(hl:kvs.length<sizeLine):Hv H a (kV k) v (upd H a (.dK (putK kvs k v))):=.inl ⟨kvs,k,e,rfl,hl,rfl⟩
section
variable{X:Cx}{pins:Aaa}{Z:St}{H:Hp}{s:Shared}{a:Addr}{y v:V}{u r:Value}{o:Aan}{A:Around}{E:Aac}
def Inv.big(I:Inv X pins Z H s):sysModules<s.heap.objs.size:=by exact gH (-9) ((I.mod.glob.keeps I.bk).lt)
def TU(hu:A.units+1<cLine)(I:Inv X pins Z H s)(g:pR H a y (some v))(ry:RelV y u)(h:∀w' s',Inv X pins Z H s'->RelV v w'->Q w' s'):
  wpAny (-6) A (getItem (-64) u) Q E s:=by
 rcases g with⟨kvs,k,e,ey,l⟩|⟨kvs,k,b,e,ey,eb,l⟩
 ·subst ey;obtain⟨z,hd,vs,rel,dd⟩:=xZ I.bj e;obtain⟨w',hw,pU⟩:=lU.some_of (l▸rel.val k);exact wpAny_getItem_of (xH ry) dd.mapOf hw (h w' _ (I.tok _) pU)
 ·subst ey;cases(show u=Value.ref b from ry);obtain⟨z,hd,xs,rel,dd⟩:=Dc I.bj e;obtain⟨w',hw,pU⟩:=lU.some_of (l▸rel.val k);obtain⟨p,hp,uI⟩:=bq.mp hw;refine Bu (nK hu) (B6 I.bj eb) dd hp ?_;rw[uI];exact h w' _ (I.tok _) pU
def afD(hu:A.units+1<cLine)(I:Inv X pins Z H s)(g:pR H a y o)(ry:RelV y u)(h:∀s',Inv X pins Z H s'->Q (.bool o.isSome) s'):
  wpAny (-6) A (compareOp .In u (-64)) Q E s:=by
 rcases g with⟨kvs,k,e,ey,l⟩|⟨kvs,k,b,e,ey,eb,l⟩
 ·subst ey;obtain⟨z,hd,vs,rel,dd⟩:=xZ I.bj e;refine wpAny_in_of (xH ry) hd dd.mapOf ?_;rw[<-(rel.val k).uG,<-l];exact h _ (I.tok _)
 ·subst ey;cases(show u=Value.ref b from ry);obtain⟨z,hd,xs,rel,dd⟩:=Dc I.bj e;refine wpAny_in_heap (nK hu) (B6 I.bj eb) hd dd ?_;have q:=(rel.val k).uG;rw[jZ]at q;rw[<-q,<-l];exact h _ (I.tok _)
def tQ(I:Inv X pins Z H s)(mu:Uv (H a))(hs:Heap.SameBut a s.heap h')(he:∃q,h'.get? a=some q)(new:dE X.prog X.w (upd H a ob) h' a ob):
  Inv X pins Z (upd H a ob) {s with heap:=h',toks:=t'}:=
 I.write mu (.inl rfl) (λb q hb z=>(hs.2 b hb).trans z) he new
def Ck(z:kvs.length<=sizeLine)(hd:(a==sysModules)=false)(rel:KV kvs vs)(dd:h'.DictOf (bW P w) a vs):
  dE P w H' h' a (.dK kvs):=⟨z,hd,vs,rel,dd⟩
def TM(hu:A.units+1<cLine)(I:Inv X pins Z H s)(g:Hv H a y v H')(ry:RelV y u)(rv:RelV v r)(h:∀s',Inv X pins Z H' s'->Q () s'):
  wpAny (-6) A (setItem (-64) u r) Q E s:=by
 rcases g with⟨kvs,k,e,ey,l,eH⟩|⟨kvs,k,b,e,ey,eb,l,eH⟩
 ·subst ey eH;obtain⟨z,hd,vs,rel,dd⟩:=Dd I.bj e;refine wpAny_setItem_pairs (hsz:=(by rw[<-rel.length];exact z)) (xH ry) dd λh' sU hs=>h _ ?_;exact tQ I (e▸True.intro) hs (let⟨q,_,_,hq,_⟩:=sU;⟨q,hq⟩) (Ck (by have:=yp kvs k v;lia) hd (rel.put k rv) sU)
 ·subst ey eH;cases(show u=Value.ref b from ry);obtain⟨z,hd,xs,rel,dd⟩:=adL I.bj e;refine Bt (hsz:=(by rw[<-bh rel];exact z)) (nK hu) (B6 I.bj eb) dd λh' sU hs=>h _ ?_;obtain⟨q,es,ep,hq,h2,h3,h4,_,h5⟩:=sU;refine tQ I (e▸True.intro) hs ⟨q,hq⟩ {(by have:=yp kvs k v;lia),hd,_,(rel.put k eb rv).keeps λc ys ec=>?_,q,es,ep,hq,h2,h3,h4,h5};rw[ay (oU ec e (-84))];exact ec
variable{kvs:List (Key×V)}
def adN{Q:Aac}(I:Inv X pins Z H s)(e:Rd H a (.dK kvs))(h:∀t s',Inv X pins Z H s'->Q (.int kvs.length t) s'):wpAny (-6) A (call (.builtin "len") [.ref a]) Q E s:=by obtain⟨z,hd,vs,rel,dd⟩:=xZ I.bj e;refine call_len_dict hd dd (by rw[<-rel.length];rw[bz]at z;lia) ?_;rw[<-rel.length];exact h _ _ (I.tok _)
def QH(i:Expr):Prop:=∀ov iv,subscripted i false ov iv=operate [ov,iv] (getItem ov iv)
end
def Nr{T id:String}
  (hl:typeLookup (.type T) "__getitem__"=pure (some (.builtin id))) (hs:QH slice)
  (h:wpAny (-5) A (eval value env) (λo aaa=>wpAny (-5) A (eval slice env) (λi aae=>aae.TypeIs o T/\wpAny (-5) A (getItem o i) Q E aae) E aaa) E s):
  wpAny (-5) A (eval (.Subscript value slice pos) env) Q E s:=by
 refine AX (dh h (λo aaa aeq=>dh aeq (λi aae aag=>?_) λ_ _ x=>x) λ_ _ x=>x);obtain⟨hT,aag⟩:=aag;refine ae ?_;refine ae (iD hT hl ?_);have fin:wpAny (-5) A (subscripted slice false o i) (λr aaU=>wpAny (-5) A (letTemporaryGo value o r>>=λ_=>pure r) Q E aaU) E aae:=by rw[hs o i];exact wpAny_operating (dh aag (λr aaU aep=>ae (wpAny_letTemporaryGo (ag aep))) λ_ _ x=>x)
 first
  |exact ag (ae fin)
  |exact ae (ag (ae fin))
  |exact ae fin
def MQ(I:Inv X pins Z H s)(g:pR H a y o):s.TypeIs (-64) "dict":=by
 rcases g with⟨kvs,k,e,_,_⟩|⟨kvs,k,b,e,_,_,_⟩
 ·obtain⟨_,_,vs,_,dd⟩:=xZ I.bj e;exact dd.typeIs
 ·obtain⟨_,_,xs,_,dd⟩:=Dc I.bj e;exact dd.typeIs
inductive aaR(Q:VK)(x:V)(y:V)(H2:Hp):Prop
 |mk a v (_:x=.ref a) (_:pR H2 a y (some v)) (_:Q v H2)
def ac2(td ty:TE):TE:=λZ H Q=>td Z H λx H1=>ty Z H1 λy H2=>aaR Q x y H2
inductive ac1(Q:VK)(y:V)(x:V)(H2:Hp):Prop
 |mk a o (_:x=.ref a) (_:pR H2 a y o) (_:Q (.bl o.isSome) H2)
def ad0(ty td:TE):TE:=λZ H Q=>ty Z H λy H1=>td Z H1 λx H2=>ac1 Q y x H2
inductive aa2(D:Ends)(Z:St)(v:V)(x:V)(y:V)(H3:Hp):Prop
 |mk a H4 (_:x=.ref a) (_:Hv H3 a y v H4) (_:D.nx Z H4)
def ac8(td ty tv:TE):TS:=λD Z H=>tv Z H λv H1=>td Z H1 λx H2=>ty Z H2 λy H3=>aa2 D Z v x y H3
section
variable{X:Cx}{o i value:Expr}{pos pos':Pos}{td ty tv:TE}
def GU(hu:X.A.units+1<cLine)(ho:PE X o td)(hi:PE X i ty)(hs:QH i):PE X (.Subscript o i pos) (ac2 td ty):=by intro pins s Z H Q I h;refine Nr PySem.F.slot_dict_getitem.lookup hs (dq (ho pins s Z H _ I h) λu s1 x H1 I1 rx q1=>dq (hi pins s1 Z H1 _ I1 q1) λiv s2 y H2 I2 ry aeK=>?_);obtain⟨a,v,ex,g,q2⟩:=aeK;subst ex;obtain rfl:u=Value.ref a:=rx;exact{MQ I2 g,TU hu I2 g ry λw' s3 I3 pU=>⟨v,H2,I3,pU,q2⟩}
def KH(hu:X.A.units+1<cLine)(hi:PE X i ty)(ho:PE X o td):PC X .In i o (ad0 ty td):=by intro pins s Z H Q I h;refine dq (hi pins s Z H _ I h) λiv s1 y H1 I1 ry q1=>dq (ho pins s1 Z H1 _ I1 q1) λu s2 x H2 I2 rx aeJ=>?_;obtain⟨a,ov,ex,g,q2⟩:=aeJ;subst ex;obtain rfl:u=Value.ref a:=rx;exact afD hu I2 g ry λs3 I3=>{.bl ov.isSome,H2,I3,rfl,q2}
def tH(hu:X.A.units+1<cLine)(ho:PE X o td)(hi:PE X i ty)(hv:PE X value tv)(hs:swapsWith value (some (.Subscript o i pos')) pos.line X.env=pure false):
  PS X (.Assign [.Subscript o i pos'] value pos) (ac8 td ty tv):=by
 intro pins s Z H D I h;refine yg (dq (hv pins s Z H _ I h) λr s1 v H1 I1 rv q1=>dq (ho pins s1 Z H1 _ I1 q1) λu s2 x H2 I2 rx q2=>dq (hi pins s2 Z H2 _ I2 q2) λiv s3 y H3 I3 ry aeI=>?_) hs;obtain⟨a,H4,ex,g,q3⟩:=aeI;subst ex;obtain rfl:u=Value.ref a:=rx;exact TM hu I3 g ry rv λs4 I4=>⟨Z,H4,I4,q3⟩
def EZ(h:Heap)(hb:sysModules<h.objs.size):dE P w H (h.push {cls:=.type "dict",data:=.dict #[]}) h.objs.size (.dK []):=
 {aQ _,fT.mpr (cB (aI hb)),[],.nil,Heap.DictOf.new h}
def aaQ:TE:=λ_ H Q=>∀p,H p=none->Q (.ref p) (upd H p (.dK []))
def nR:PE X (.Dict [] [] pos) aaQ:=λpins s Z H Q I h=>
 wpAny_Dict_empty {.ref s.heap.objs.size,_,I.laid (λ_ _ q=>ah _ q) (ak _) (EZ s.heap I.big),rfl,h _ (-72)}
end
def Fp:List (TE×TE)->St->Hp->(Aak->Hp->Prop)->Prop
 |[],_,H,Q=>Q [] H
 |(tk,tv)::r,Z,H,Q=>tk Z H λx H1=>tv Z H1 λy H2=>Fp r Z H2 λps H3=>Q ((x,y)::ps) H3
abbrev VV:Aak->List (Value×Value)->Prop:=Paired λp q=>RelV p.1 q.1/\RelV p.2 q.2
def Ep(X:Cx)(pos:Pos)(keys:List (Option Expr))(values:List Expr)(By:List (TE×TE)):Prop:=
 ∀(pins:Aaa)(s:Shared)(Z:St)(H:Hp)(Q:Aak->Hp->Prop),Inv X pins Z H s->Fp By Z H Q->
  wpAny (-6) X.A (evalPairs (pairTrees keys values X.env pos)) (λvs s'=>∃ps H',Inv X pins Z H' s'/\VV ps vs/\Q ps H') X.xe s
def GP:Ep X pos [] [] []:=λpins s Z H Q I h=>pairTrees_nil_walk {[],H,I,.nil,h}
def qv(hk:PE X k tk)(hv:PE X v tv)(hr:Ep X pos ks vs By):
  Ep X pos (some k::ks) (v::vs) ((tk,tv)::By):=λpins s Z H Q I h=>
 pairTrees_cons_walk (dq (hk pins s Z H _ I h) λu s1 x H1 I1 rx q1=>dq (hv pins s1 Z H1 _ I1 q1) λw2 s2 y H2 I2 ry q2=>
  iR (hr pins s2 Z H2 _ I2 q2) λws s3 ⟨ps,H3,I3,rel,q3⟩=>{(x,y)::ps,H3,I3,.cons ⟨rx,ry⟩ rel,q3})
def gz(kvs more:List (Key×V)):List (Key×V):=more.foldl (λacc kv=>putK acc kv.1 kv.2) kvs
def KV.merge:∀{more:List (Key×V)}{rs:List (Key×Value)}{kvs:List (Key×V)}{vs:List (Key×Value)},KV more rs->KV kvs vs->KV (gz kvs more) (merged vs rs):=by
 intro more rs kvs vs r
 induction r generalizing kvs vs with
 |nil=>intro q;exact q
 |@cons p q ps qs h t ih=>
  intro r0;have e:KV (putK kvs p.1 p.2) (stored vs q.1 q.2):=by have:=r0.put p.1 h.2;rw[<-h.1];exact this
  exact ih e
theorem kM:∀(more kvs:List (Key×V)),(gz kvs more).length<=kvs.length+more.length
 |[],kvs=>by show kvs.length<=kvs.length+0;lia
 |p::r,kvs=>by have h1:=kM r (putK kvs p.1 p.2);have h2:=yp kvs p.1 p.2;show(gz (putK kvs p.1 p.2) r).length<=_;rw[bA];lia
theorem Gr:∀{kvs:List (Key×V)}{ws:List (Value×Value)},VV (kvs.map λkv=>(kV kv.1,kv.2)) ws->∃rs,Carries (bW P w) ws rs/\KV kvs rs
 |[],_,r=>by rw[jv]at r;cases r;exact{[],True.intro,.nil}
 |p::kvs,_,r=>by
  cases r with
  |@cons a b as bs h t=>
   obtain⟨rs,c,q⟩:=Gr t;obtain⟨b1,b2⟩:=b;exact{(p.1,b2)::rs,{xH h.1,rfl,c},.cons {rfl,h.2} q}
def Xa(By:List (TE×TE)):TE:=λZ H Q=>∀p,H p=none->Fp By Z (upd H p (.dK [])) λps H2=>H2 p=some (.dK [])/\∃kvs:List (Key×V),ps=kvs.map (λkv=>(kV kv.1,kv.2))/\kvs.length<=15/\Q (.ref p) (upd H2 p (.dK (gz [] kvs)))
def NR(h:Ep X pos keys values By)(qz:keys.all (·.isSome)=true)(hl:keys.length=values.length)(h0:keys≠[])
  (h15:keys.length<=15):PE X (.Dict keys values pos) (Xa By):=by
 intro pins s Z H Q I q;have I1:=I.laid (t':=s.toks) (λ_ _ q=>ah _ q) (ak _) (EZ s.heap I.big);refine wpAny_Dict_walk (knd:=bW X.prog X.w) qz hl h0 h15 (iR (h pins _ Z _ _ I1 (q _ (I.bj.fresh (ak s.heap.objs.size)))) λws s2 aeH=>?_);obtain⟨ps,H2,I2,rel,e,kvs,ep,lk,q2⟩:=aeH;subst ep;obtain⟨rs,c,rk⟩:=Gr rel;obtain⟨z,hd,vs0,r0,dd⟩:=Dd I2.bj e;cases r0;refine{rs,c,dd,λh' sU hs=>{.ref s.heap.objs.size,_,?_,rfl,q2}};have hz:(gz [] kvs).length<=sizeLine:=by have h1:=kM kvs [];rw[fA]at h1;rw[bz];lia
 exact tQ I2 (e▸True.intro) hs (let⟨q,_,_,hq,_⟩:=sU;⟨q,hq⟩) (Ck hz hd (rk.merge .nil) sU)
structure M1(X:Cx)(o:Expr)(m:Str)(apos:Pos)(e:Expr)(eU:Pos):Prop where
 base:attributeBase o m X.env (eval o X.env)=eval o X.env
 gC:((backTo eU (starEach [e] X.env)).all (λx=>!x.1)&&(backToKw eU (keywordEach [] X.env)).all (λx=>x.1.isSome)
  &&decide (([e]:List Expr).length+([]:List Keyword).length+(-57)<30))=true
 line:(-80)=true
 trees:backTo eU (starEach [e] X.env)=[(false,eval e X.env)]
structure M2(X:Cx)(o:Expr)(m:Str)(apos:Pos)(e f:Expr)(eU:Pos):Prop where
 base:attributeBase o m X.env (eval o X.env)=eval o X.env
 gC:((backTo eU (starEach [e,f] X.env)).all (λx=>!x.1)&&(backToKw eU (keywordEach [] X.env)).all (λx=>x.1.isSome)
  &&decide (([e,f]:List Expr).length+([]:List Keyword).length+(-57)<30))=true
 line:(-80)=true
 trees:backTo eU (starEach [e,f] X.env)=[(false,eval e X.env),(false,eval f X.env)]
def IsD(H:Hp)(a:Addr):Prop:=(∃kvs,Rd H a (.dK kvs))\/∃kvs,Rd H a (.dT kvs)
def abH(I:Inv X pins Z H s)(d:IsD H a):
  s.TypeIs (-64) "dict"/\(∀b,Value.ref a=.ref b->∃ob,s.heap.get? b=some ob/\ob.dict=none)/\(a==sysModules)=false:=by
 rcases d with⟨kvs,e⟩|⟨kvs,e⟩
 ·obtain⟨_,hd,vs,_,dd⟩:=xZ I.bj e;refine{dd.typeIs,λb q=>?_,hd};cases q;obtain⟨ob,_,_,h1,h2,_⟩:=dd;exact{ob,h1,h2.2.1}
 ·obtain⟨_,hd,xs,_,dd⟩:=Dc I.bj e;refine{dd.typeIs,λb q=>?_,hd};cases q;obtain⟨ob,_,_,h1,h2,_⟩:=dd;exact{ob,h1,h2.2.1}
section
variable{X:Cx}{pins:Aaa}{Z:St}{H:Hp}{s:Shared}{a:Addr}{y d:V}{u r:Value}{o:Aan}{A:Around}{E:Aac}
def acC(hu:A.units+1<cLine)(I:Inv X pins Z H s)(g:pR H a y o)(ry:RelV y u)(rd:RelV d r)(h:∀w' s',Inv X pins Z H s'->RelV (o.getD d) w'->Q w' s'):
  wpAny (-6) A (call (.builtin "dict.get") [.ref a,u,r]) Q E s:=by
 rcases g with⟨kvs,k,e,ey,l⟩|⟨kvs,k,b,e,ey,eb,l⟩
 ·subst ey;obtain⟨z,hd,vs,rel,dd⟩:=xZ I.bj e;refine su jG dd.typeIs pZ (pk _ _ _) (meets_dict_get_default (bW X.prog X.w) a (xH ry) hd r) {_,dd.mapOf,h _ _ (I.tok _) ?_};rw[l];exact(rel.val k).getD rd
 ·subst ey;cases(show u=Value.ref b from ry);obtain⟨z,hd,xs,rel,dd⟩:=Dc I.bj e;refine su jG dd.typeIs pZ (pk _ _ _) (xf (tupleKind (bW X.prog X.w)) a b hd r) {nK hu,k,xs,B6 I.bj eb,dd,h _ _ (I.tok _) ?_};rw[l];exact(rel.val k).getD rd
end
inductive Y2(ty:TE)(tx:TE)(Z:St)(Q:VK)(x:V)(H1:Hp):Prop
 |mk a (_:x=.ref a) (_:IsD H1 a) (_:ty Z H1 λy H2=>tx Z H2 λz H3=>∃o,pR H3 a y o/\Q (o.getD z) H3)
def QX(td ty tx:TE):TE:=λZ H Q=>td Z H λx H1=>Y2 ty tx Z Q x H1
section
variable{X:Cx}{o e f:Expr}{apos eU:Pos}{td ty tx:TE}
def Am(hu:X.A.units+1<cLine)(ho:PE X o td)(he:PE X e ty)(hf:PE X f tx)(m:M2 X o "get" apos e f eU):PE X (.Call (.Attribute o "get" apos) [e,f] [] eU) (QX td ty tx):=by intro pins s Z H Q I h;refine vk m.base m.gC m.line iX jG zF (dq (ho pins s Z H _ I h) λu s1 x H1 I1 rx aeG=>?_);obtain⟨a,ex,d,q1⟩:=aeG;subst ex;obtain rfl:u=Value.ref a:=rx;obtain⟨t1,t2,_⟩:=abH I1 d;refine{t1,t2,?_};rw[m.trees];refine jr rfl (mF (gK (dq (he pins s1 Z H1 _ I1 q1) λiv s2 y H2 I2 ry q2=>gK (dq (hf pins s2 Z H2 _ I2 q2) λfv s3 z H3 I3 rz ⟨ov,g,q3⟩=>lE ?_))));exact acC hu I3 g ry rz λw' s4 I4 pU=>⟨_,H3,I4,pU,q3⟩
variable{pins:Aaa}{Z:St}{H:Hp}{s:Shared}{a:Addr}{kvs:List (Key×V)}{A:Around}{E:Aac}
def WA(I:Inv X pins Z H s)(e:Rd H a (.dK kvs))(h:∀p s',H p=none->Inv X pins Z (upd H p (.dK kvs)) s'->Q (.ref p) s'):wpAny (-6) A (call (.type "dict") [.ref a]) Q E s:=by obtain⟨z,hd,vs,rel,dd⟩:=xZ I.bj e;refine kt_call_dict hd dd (rel.length▸z) λh' sU hs=>?_;exact h _ _ (-72) (I.laid (λb q hq=>(hs.2 b (aI (aF hq))).trans (ah _ hq)) (ak _) (Ck z (fT.mpr (cB (aI I.big))) rel sU))
end
end L2
namespace Att
open PySem PySem.W PySem.Calls PyProof.Rows
def FY:∀(ns:List Int)(vs:Aae),WellAll P h vs (ns.map WData.int)->IntsAre vs ns:=by
 intro ns
 induction ns with
 |nil=>
  intro vs w;cases w;exact .nil
 |cons n ns ih=>
  intro vs w;cases w with
  |cons a b=>
   cases a;exact .cons _ _ (ih _ b)
def Q9{l:OpenLaw}(hn:l.most=some n)
  (P5:l.row.toRowW.claim.pre args=true) (Oc:WellAll P h vals args):
  ∃a vs ns,vals=[Value.ref a]/\args=[WData.list (ns.map WData.int)]/\h.get? a=some {cls:=.type "list",data:=.seq vs.toArray}/\IntsAre vs ns/\ns.length<=n:=by
 have hc:l.pre.holds [] {args:=args}=true:=(pre_splitW P5).2;obtain⟨d,r,rfl,h1,h2⟩:=hasAllW_cons ((pre_splitW P5).1);obtain rfl:=hasAllW_nil h2;obtain⟨xs,rfl,h3⟩:=hasW_list h1;obtain⟨ns,rfl⟩:=items_int h3;have hlen:ns.length<=n:=by
  have h4:(WTm.not (.lt (.lit (.int (n:Int))) (.len (.arg 0)))).holds [] {args:=[.list (ns.map .int)]}=true:=by have h4:=(holds_andW hc).1;rw[hn]at h4;exact h4
  have h5:=condW_of h4 (w_not (w_lt w_lit (w_len_list (w_arg rfl))));refine hZ λq=>?_
  first
   |(rw[aT q']at h5;exact absurd h5 (by decide))
   |(simp at h5;lia)
 cases Oc with
 |cons w1 w2=>
  cases w2;cases w1 with
  |list ho qz=>exact{_,_,ns,rfl,rfl,ho,FY ns _ qz,hlen}
def Ru(l:OpenLaw)(args:List WData):l.row.toRowW.claim.post args (.bool true) args=true:=
 postW_of
  (show WShape.has [] (.bool true) .bool=true by first|rfl|decide|simp[WShape.has,WShape.arms,WShape.armsAll])
  (show(WTm.eq .res (.lit (.bool true))).value [] {args:=args,res:=some (.bool true),after:=args}=some (.bool (true==true))from w_eq_bool (w_res rfl) w_lit) rfl
def MT{l:OpenLaw}
  (hn:l.most=some n) (Td:d.params.defaults=[])
  (call:∀(w:World)(aab aaa:Shared)(mg mb:Aab)(fa:Addr)(o:Obj)(pm cd doc:Value)(a:Addr)(vs:Aae)(ns:List Int),
   Ground q loose [] XP w aab mg mb aaa.heap->YP w aaa.heap->
   aaa.heap.get? fa=some o->o.data=.func (docDef d.name d.params d.body d.scope pm cd doc)->aaa.heap.CodeRec cd d.name->mg d.name=some (.ref fa)->
   aaa.heap.get? a=some {cls:=.type "list",data:=.seq vs.toArray}->IntsAre vs ns->ns.length<=n->aaa.gens=#[]->
   codeAny (model l.prog w) callerA (.call (.ref fa) {[.ref a],[]}) (-47) aaa):
  WalkO q loose XP YP l.row.toRowW d [] (λf vs=>PySem.call f vs):=by
 intro w aab aaa mg mb G Y fa o pm cd doc dV kV ho hd Cg hD SY hg args vals as P5 afZ hrd Oc hlo;obtain rfl:dV=.none:=Dflts.none hD Td;obtain rfl:kV=.none:=Dflts.noKw hD;obtain⟨a,vs,ns,rfl,rfl,V7,hints,hlen⟩:=Q9 hn P5 Oc;refine enter_call (lR (call w aab aaa mg mb fa o pm cd doc a vs ns G Y ho (fd_plain hd) Cg SY V7 hints hlen hg) λr s' hq=>?_);obtain⟨rfl,h2,h3,h4⟩:=hq;exact{.inl {.bool true,.bool true,[],rfl,λ_=>rfl,.bool true,Ru l _,λ_=>{List.Pairwise.nil,λ_ hm=>(nomatch hm)}},h2,h3,h4}
section
def ledger(h:Heap)(L d:Addr):Aaa:=(List.range h.objs.size).filterMap λa=>if a=L\/a=d then none else(h.get? a).map λo=>(a,o)
end
end Att
namespace L2
open PySem PySem.Spec PyProof.Rows
theorem Hz:∀{vs:Aae}{ns:List Int},IntsAre vs ns->Vals (-51) vs
 |_,_,.nil=>.nil
 |_,_,.cons n t h=>.cons ⟨t,rfl⟩ (Hz h)
def QG(H:Hp):Prop:=∀b,H b=none\/∃o xs,H b=some (.fg o (.lst xs))
def VP{K:Frag}
  (KX:K.In aaa.heap) (hns:aaa.heap.Ns mainGlobals mg) (hb:aaa.heap.Ns builtinsNs mb) (hbb:∀x:Str,x≠"__name__"->mb x=bootBuiltins x) (afa:aaa.heap.NoLimit) (hg:aaa.gens=#[])
  (ha:aaa.heap.get? a=some {cls:=.type "list",data:=.seq vs.toArray}) (hi:IntsAre vs ns) (hl:ns.length<=sizeLine) (hr:iK k callerA)
  (F:∀base:Heap,K.In base->base.Ns mainGlobals mg->dy P w K mg base CX k fa fd [x] sp) (adC:∀(s:Shared)(u:Value),BindsTo s fd {[u],[]} [(x,u)])
  (IB:∀H:Hp,QG H->aY K H a (-51)->sp [.ref a] H (λv _=>v=.bl true) λ_ _ _=>False)
  (hCX:∀H e s',CX [] H aaa (λ_ _ _=>False) e s'->False):
  codeAny (-25) callerA (.call (.ref fa) {[.ref a],[]}) (-47) aaa:=by
 have rv:=Hz hi;have core:∀H:Hp,QG H->aY K H a (-51)->ko P w H aaa.heap->(∀b,H b≠none->b=a)->(H a≠none->K.lookup a=none)->
   codeAny (-25) callerA (.call (.ref fa) {[.ref a],[]}) (-47) aaa:=by
  intro H hO hS bj hA hK;have OL:∀{b:Addr}{o:Obj},aaa.heap.get? b=some o->H b=none->(ET aaa.heap H).get? b=some o:=λe n=>Wf e n;have RZ:∀{b:Addr}{o:Obj}{es:Array DictEntry}{ep:Nat},aaa.heap.get? b=some o->o.data=.dict es ep->H b=none:=λ{b o es ep} e d=>by
   cases q:H b with
   |none=>rfl
   |some u=>
    have e':=hA b (by rw[q];simp);subst e';rw[ha]at e;cases e;have d':=d;cases d'
  have Xs:∀{b:Addr}{m:Aab},aaa.heap.Ns b m->(ET aaa.heap H).Ns b m:=λ{b m} ⟨o,es,ep,e,d,r⟩=>{o,es,ep,OL e (RZ e d),d,r};have hKb:=λb o e=>OL (KX b o e) (by
   cases q:H b with
   |none=>rfl
   |some u=>
    have e':=hA b (by rw[q];simp);subst e';rw[hK (by rw[q];simp)]at e;cases e)
  have hM:Mod K mg (ET aaa.heap H):={hKb,Xs hns,{mb,Xs hb,hbb},let⟨mc,h1,h2⟩:=afa;{mc,Xs h1,h2}};refine lR ((F _ hKb (Xs hns)).run callerA [] aaa H {[.ref a],[]} [.ref a] [.ref a] _ _ hr ({rfl,hM,λb o e=>ZG e,CI (S9 _ _),trivial,λb hb=>absurd (show b∈([]:Aah)from hb) (-8),bj,.of_eq hg}) (adC aaa (-64)) (.cons rfl .nil) (IB H hO hS)) λr s' h=>?_;cases r with
  |error e=>exact(hCX H e s' h).elim
  |ok fl=>
   cases fl with
   |next=>exact False.elim h
   |brk=>exact False.elim h
   |cont=>exact False.elim h
   |ret u=>
    obtain⟨v,H',os,bare,un,ae7,r',q⟩:=h;have q':=q;subst q';obtain rfl:u=Value.bool true:=r';refine{rfl,OldK.of_keep λb o e=>?_,os,bare};cases q:H b with
    |none=>exact un.keep b o e q (by intro z;exact absurd (show b∈([]:Aah)from z) (-8)) (-8)
    |some u=>
     rcases hO b with z|⟨ob,xs,z⟩
     ·rw[q]at z;cases z
     ·have z2:=un.u6 b ob _ z;obtain⟨e1,_⟩:=bj b _ z;obtain⟨e2,_⟩:=ae7 b _ z2;rw[e]at e1;cases e1;exact e2
 cases hk:K.lookup a with
 |some o=>
  have e:=KX a o hk;rw[ha]at e;cases e;refine core (λ_=>none) (λ_=>.inl rfl) (.inr {_,vs.toArray,_,hk,rfl,rfl,rfl,by rw[aN,hi.length];exact hl,by simpa using rv}) (λb u z=>by have z':=z;cases z') (λb z=>absurd rfl z) λz=>absurd rfl z
 |none=>
  refine core (λb=>if b=a then some (.fg {cls:=.type "list",data:=.seq vs.toArray} (.lst (-51)))else none) (λb=>?_) (.inl (.inr ⟨{cls:=.type "list",data:=.seq vs.toArray},aG rfl⟩)) (λb u z=>?_) (λb z=>?_) λ_=>hk
  ·by_cases hb:b=a
   ·exact .inr {_,_,aG hb}
   ·exact .inl (aw hb)
  ·by_cases hb:b=a
   ·have z':=(aG hb).symm.trans z;cases z';subst hb;exact{ha,by rw[af];exact hl,vs,_,rv,ha}
   ·have z':=(aw hb).symm.trans z;cases z'
  ·by_cases hb:b=a
   ·exact hb
   ·exact absurd (aw hb) z
abbrev KOf{K:Frag}{h:Heap}(_:K.In h):Frag:=K
def YT{l:PySem.W.OpenLaw}{K:Params->Frag}{CX:World->Mn}{sp:World->Sp}
  (hn:l.most=some n) (D9:n<=sizeLine) (Td:d.params.defaults=[]) (hr:iK k callerA)
  (hY:∀(w:World)(h:Heap),YP w h->(K w.params).In h)
  (F:∀(w:World)(mg:Aab)(fa:Addr)(h:Heap),(K w.params).In h->h.Ns mainGlobals mg->mg d.name=some (.ref fa)->
   ∃fd:FuncData,(∀(s:Shared)(u:Value),BindsTo s fd {[u],[]} [(x,u)])/\
    ∀base:Heap,(K w.params).In base->base.Ns mainGlobals mg->dy l.prog w (K w.params) mg base (CX w) k fa fd [x] (sp w))
  (IB:∀(w:World)(H:Hp)(a:Addr)(ns:List Int),ns.length<=n->QG H->aY (K w.params) H a (-51)->sp w [.ref a] H (λv _=>v=.bl true) λ_ _ _=>False)
  (hCX:∀(w:World)(H:Hp)(s:Shared)(e:Value)(s':Shared),CX w [] H s (λ_ _ _=>False) e s'->False):
  PySem.W.WalkO q loose XP YP l.row.toRowW d [] (λf vs=>PySem.call f vs):=by
 refine Att.MT hn Td λw aab aaa mg mb fa o pm cd doc a vs ns G Y ho hd Cg SY V7 hints hlen hg=>?_;have KX:=hY w _ Y;obtain⟨fd,hb,hF⟩:=F w mg fa _ KX G.T.g SY;exact VP KX G.T.g G.T.b G.T.builtins G.T.nolimit hg V7 hints (aJ hlen D9) hr hF hb (λH hO hS=>IB w H a ns hlen hO hS) λH e s'=>hCX w H aaa e s'
def inClass(s:Stmt)(j:Nat):Stmt:=match s with
 | .ClassDef _ _ _ body _ _ _ _ _ _ _=>body.getD j (.Pass {0,0,0,0})
 |_=>.Pass {0,0,0,0}
def defArgs(s:Stmt):Arguments:=match s with
 | .FunctionDef _ a _ _ _ _ _ _ _ _=>a
 |_=>{posonlyargs:=[],args:=[],vararg:=none,kwonlyargs:=[],kw_defaults:=[],kwarg:=none,defaults:=[]}
def defBody(s:Stmt):List Stmt:=match s with
 | .FunctionDef _ _ b _ _ _ _ _ _ _=>b
 |_=>[]
def defScope(s:Stmt):Scope:=match s with
 | .FunctionDef _ _ _ _ _ _ sc _ _ _=>sc
 |_=>{kind:=.function,names:=[],isGenerator:=false,isCoroutine:=false}
abbrev f9:Mn:=λ_ _ _ _ _ _=>False
abbrev E0:XK:=λ_ _ _=>False
def Po:Passes f9 X E0:=λ_ _ _ _ _ _ _ h=>h.elim
structure fJ(K:Frag)(x qual:Str)(st:Stmt)(f:Addr)(fd:FuncData):Prop where
 ex:∃(oc:Value)(od:Aai)(kV doc pm:Value)(an:Aai)(dF ct:Value)(BU:Aad),
  fd=fnOf x qual (defArgs st) (defBody st) (defScope st) .none kV doc pm an dF ct/\K.lookup f=some {oc,od,.func fd,BU}/\codeIn K dF qual=true
 kp:keepIn K (.ref f)=true
section
variable{P:Program}{w:World}{K:Frag}{mg:Aab}{base:Heap}
def fJ.ok{st:Stmt}(F:fJ K x qual st f fd)(S:cK N ps (defScope st))(len:∀vs H Q E,sp vs H Q E->vs.length=ps.length)
  (Qc:∀(dF:Value)(A:Around)(outer:List Env)(s:Shared)(H:Hp)(vs:Aam)(Q:VK)(E:XK),iK k (A.deeper (envOfC qual (defScope st) s.heap.objs.size f dF))->sp vs H Q E->
   ∃t,lV (L3 f9 P w K mg base N qual (defScope st) f dF A outer s H E).Xv (defBody st) t/\t {nx:=λ_ H'=>Q .cR H',rt:=Q} (start N vs) H):dy P w K mg base f9 (k+1) f fd ps sp:=by
 obtain⟨oc,od,kV,doc,pm,an,dF,ct,BU,rfl,lk,Cg⟩:=F.ex;refine adG lk Cg S len λA outer s H vs Q E hr IB=>?_;obtain⟨t,h,q⟩:=Qc dF A outer s H vs Q E hr IB;exact{t,h.Xv,q}
def fJ.binds{st:Stmt}(F:fJ K x qual st f fd)
  (h:∀(kV doc pm:Value)(an:Aai)(dF ct:Value)(us:Aae),us.length=ps.length->bindArgs (-67) {us,[]}=pure (ps.zip us)):Binds K fd ps []:=by
 obtain⟨oc,od,kV,doc,pm,an,dF,ct,BU,rfl,lk,Cg⟩:=F.ex;exact .all (h kV doc pm an dF ct)
def Ts{st:Stmt}{kV doc pm dF ct:Value}(l:K.lookup f=some {oc,od,.func (-67),BU})
  (c:codeIn K dF qual=true) (k:keepIn K (.ref f)=true):fJ K x qual st f (-67):={⟨oc,od,kV,doc,pm,an,dF,ct,BU,rfl,l,c⟩,k}
def rW(hr:iK k A):A.units+1<cLine:=cU (Nat.add_le_add_left (by decide:1<=64) _) hr.units
def bO(h:n<=1000):n<sizeLine:=cU h (-9)
variable{X:Cx}
def pv(i:Nat)(hN:X.N[i]?=some x:=by rfl)(hv:Vis X.env.scope x:=by first|exact Or.inl rfl|exact Or.inr (Or.inl rfl)|exact Or.inr (Or.inr rfl))(hd:(-27)=false:=by decide)
  (Cg:(x==("__classdict__":Str))=false:=by decide):PE X (.Name x pos) (GC i):=abe hN hv hd Cg
def yq{A B:Prop}(h:B):if false=true then A else B:=by exact h
def Lm{A B:Prop}(h:A):if true=true then A else B:=by exact h
def gO{c A B:Prop}[Decidable c](h1:c->A)(h2:¬c->B):if c then A else B:=by
 by_cases h:c
 ·rw[aG h];exact h1 h
 ·rw[aw h];exact h2 h
def bI(H H':Hp):Prop:=∀b o,H b=some o->H' b=some o
def bI.refl(H:Hp):bI H H:=λ_ _ h=>h
def bI.trans(a:bI H H1)(b:bI H1 H2):bI H H2:=λc o h=>b c o (a c o h)
def bI.free(e:bI H H')(h:H' l=Option.none):H l=Option.none:=by
 cases q:H l with
 |none=>rfl
 |some o=>
  rw[e l o q]at h;cases h
def Ui:iN X (.builtin "len") (λxs H Q=>∃a kvs,xs=[V.ref a]/\H a=some (.dK kvs)/\Q (.int kvs.length) H):=by intro pins s Z H xs us Q I r h;obtain⟨a,kvs,rfl,ha,q⟩:=h;obtain⟨u,rfl,ru⟩:=jy r;cases ru;exact adN I (.inl ha) λt s' I'=>{.int kvs.length,H,I',⟨t,rfl⟩,q}
end
section
variable{κ:Type}[DecidableEq κ]
def UE{k:κ}(h:fG kvs k=none):¬k∈kvs.map (·.1):=by intro m;obtain⟨p,hp,e⟩:=ar.mp m;have q:(-54)=true:=ic.mpr {p,hp,aT e};rw[qo,h]at q;exact absurd q (-8)
def YV{k:κ}{v:V}(h:fG kvs k=some v):k∈kvs.map (·.1):=by
 have q:(-54)=true:=by rw[qo,h];all_goals rfl
 obtain⟨p,hp,e⟩:=ic.mp q;exact ar.mpr {p,hp,aW e}
end
def YE(z:Str):It:={λi _=>i<z.cps.size,λi H x H'=>H'=H/\∃c,z.cps[i]?=some c/\x=.str ⟨#[c]⟩,λi _=>i=z.cps.size}
def Hy(hh:A.handled=none)(I:Addr)(x:Str)(t:Tok):
  Walks prog w A I [I] [I] x.cps.size (SignAt x) (λi h=>h.IsStrIter I (strIterType x) x t i):=by
 unfold strIterType;cases x.cps.all (·<128)with
 |true=>exact Walks.strAscii hh I x t
 |false=>exact Walks.strWide hh I x t
def Jb(x:Str):["enumerate","zip","dict_itemiterator","dict_reverseitemiterator","odict_iterator","itertools.zip_longest","itertools.pairwise"].contains (strIterType x)=false:=by
 unfold strIterType;cases x.cps.all (·<128)with
 |true=>decide
 |false=>decide
def UI{K:Frag}(it:Addr)(z:Str)(t:Tok):Turn P w K tg (YE z) [it] it (λi h=>h.IsStrIter it (strIterType z) z t i) where
 mem:=by simp
 obj:=λi h st b hb=>by
  have e:b=it:=by simpa using hb
  subst e;obtain⟨o,e,c,d⟩:=st;exact{o,e,λv z=>by rw[d]at z;cases z}
 keep:=λi h h' st k=>by obtain⟨o,e,r⟩:=st;exact{o,k it (-8) o e,r}
 item:=by intro X hP hw hK hc i pins s Z H E I hf st hg;subst hP hw hK;obtain⟨f0,f1,f2,f3,f4,f5⟩:=hf it (-8);refine(Hy (prog:=X.prog) (w:=X.w) (I.ok.hd hc) it z t).item i s _ _ hg st λv h' tk hv js kk=>?_;obtain⟨c,u,Ed,rfl⟩:=hv;obtain⟨o,e,c1,d1⟩:=id js;exact{_,rfl,F8 e c1 d1 (Jb z) {.str ⟨#[c]⟩,H,(I.turned (λb o hb e=>kk b o (by simpa using hb) e) f0 f1 f3 f4 f5),⟨u,rfl⟩,⟨rfl,c,Ed,rfl⟩,js,λb hb=>(hf b hb).1}}
 done:=by intro X hP hw hK hc i pins s Z H E I hf st hg;subst hP hw hK;obtain⟨f0,f1,f2,f3,f4,f5⟩:=hf it (-8);have e:=hg;subst e;exact(Hy (prog:=X.prog) (w:=X.w) (I.ok.hd hc) it z t).done s _ _ st λh' tk kk=>{rfl,I.turned (λb o hb e=>kk b o (by simpa using hb) e) f0 f1 f3 f4 f5}
 self:=λA i s Q E st h=>by
  unfold strIterType at st;cases hx:z.cps.all (·<128)with
  |true=>rw[hx]at st;exact wpAny_pyIter_striter_ascii st h
  |false=>rw[hx]at st;exact wpAny_pyIter_striter_wide st h
section
variable{X:Cx}{tg:Expr}
inductive ado(R:It->Hp->Prop)(x:V)(H1:Hp):Prop
 |mk z (_:x=.str z) (_:R (YE z) H1)
def aeo(tl:TE):TI:=λZ H R=>tl Z H λx H1=>ado R x H1
def Rx(hl:PE X l tl):PI X tg l (aeo tl):=by
 intro pins s Z H R I h;refine dq (hl pins s Z H _ I h) λv s1 x H1 I1 r1 q1=>?_;obtain⟨z,e,q⟩:=q1;subst e;obtain⟨t,rfl⟩:=r1;refine wpAny_pyIter_strU ?_;have I2:Inv X pins Z H1 {s1 with heap:=s1.heap.push {cls:=.type (strIterType z),data:=.fields #[.str z t,.int 0 0]}}:=I1.kept λb o e=>ah _ e;refine{s1.heap.objs.size,[s1.heap.objs.size],_,YE z,H1,rfl,I2,UI s1.heap.objs.size z t,{_,aE _ rfl,rfl,rfl},λb hb=>?_,q};have e:b=s1.heap.objs.size:=by simpa using hb
 subst e;exact I1.u7 (ak _) (-87)
def frees(scope:Scope):Aaf:=(scope.names.filter λp=>p.2==.free).map (·.1)
def E4(scope:Scope)(env:Env):List (Str×Addr):=(frees scope).reverse.map λn=>(n,(env.cells.lookup n).getD 0)
theorem Hl(env:Env):∀(names:List (Str×NameKind))(cs:List (Str×Addr)),(∀n∈(names.filter λp=>p.2==.free).map (·.1),∃c,env.cells.lookup n=some c)->
  (forIn names cs λ(x:Str×NameKind)(r:List (Str×Addr))=>(if x.2==.free then do let c<-cellOf env x.1;pure (ForInStep.yield ((x.1,c)::r))else pure (ForInStep.yield r):Sem (ForInStep (List (Str×Addr)))))=
   pure ((((names.filter λp=>p.2==.free).map (·.1)).reverse.map λn=>(n,(env.cells.lookup n).getD 0))++cs)
 |[],cs,_=>rfl
 |(n,k)::r,cs,h=>by
  rw[List.forIn_cons];cases hk:(k==NameKind.free)with
  |false=>
   have ih:=Hl env r cs (λm hm=>h m (by simpa[mE,hk]using hm));simp only[hk,gL,kC,mE,pure_bind];exact ih
  |true=>
   obtain⟨c,hc⟩:=h n (by simp[mE,hk]);have h':=λm hm=>h m (by
    simp only[mE,hk,zi,bw];exact aB _ hm)
   have ec:cellOf env n=pure c:=by unfold cellOf;rw[hc]
   simp only[hk,zi,mE,bw,vD,aD,jv,dw,jl,kU,ec,pure_bind,hc,Option.getD_some];exact(Hl env r ((n,c)::cs) h')
def Gq(h:∀n∈frees scope,∃c,env.cells.lookup n=some c):closureFor scope env=pure (E4 scope env):=by have e:=Hl env scope.names [] h;rw[c8]at e;have q:closureFor scope env=((forIn scope.names ([]:List (Str×Addr)) λ(x:Str×NameKind)(r:List (Str×Addr))=>(if x.2==.free then do let c<-cellOf env x.1;pure (ForInStep.yield ((x.1,c)::r))else pure (ForInStep.yield r):Sem (ForInStep (List (Str×Addr)))))>>=λr=>pure r):=rfl;rw[q,bind_pure];exact e
theorem B2{β:Type}(g:Str->β)(y:Str):∀l:Aaf,(l.map λn=>(n,g n)).lookup y=if y∈l then some (g y)else none
 |[]=>by simp
 |n::r=>by
  rw[bw,w4];cases e:(y==n)with
  |true=>
   have e':=iq e;subst e';simp
  |false=>
   have e':y≠n:=λq=>by rw[q]at e;simp at e
   rw[(B2 g y r)];simp[e']
def uq(h:∀n∈frees scope,∃c,env.cells.lookup n=some c):(E4 scope env).lookup y=some c↔y∈frees scope/\env.cells.lookup y=some c:=by
 unfold E4;rw[B2 (λn=>(env.cells.lookup n).getD 0)];by_cases hy:y∈frees scope
 ·obtain⟨d,hd⟩:=h y hy;rw[aG (jk.mpr hy),hd];simp[hy]
 ·rw[aw λq=>hy (jk.mp q)];simp[hy]
theorem B3(f:Str->NameKind->NameKind)(y:Str):∀names:List (Str×NameKind),(names.map λp=>(p.1,f p.1 p.2)).lookup y=(names.lookup y).map (f y)
 |[]=>rfl
 |(n,k)::r=>by
  rw[bw,w4,w4];cases e:(y==n)with
  |true=>
   have e':=iq e;subst e';rfl
  |false=>exact(B3 f y r)
def yS(scope:Scope)(env:Env)(y:Str):(relabel scope env).names.lookup y=(scope.names.lookup y).map λk=>if(k==.free&&env.scope.kind==.function&&env.kindOf y==some .cell)=true then NameKind.cell else k:=by
 have e:(relabel scope env).names=scope.names.map λp=>(p.1,(λ(n:Str)(k:NameKind)=>if(-93)=true then NameKind.cell else k) p.1 p.2):=by refine aU λp _=>?_;obtain⟨n,k⟩:=p;show(if(-93)=true then(n,NameKind.cell)else(n,k))=_;split<;>simp_all
 rw[e];exact B3 (λ(n:Str)(k:NameKind)=>if(-93)=true then NameKind.cell else k) y scope.names
end
structure sJ(X:Cx)(scope:Scope)(x:Str)(fs:Aaf)(fr:List Nat):Prop where
 kind:scope.kind=.function
 loc:scope.names.lookup x=some .local
 names:∀y∈scope.names,y.2=.local->scope.names.lookup y.1=some .local
 RW:∀y∈scope.names,y.2≠ .cell
 free:∀n∈frees scope,X.env.kindOf n=some .cell/\scope.names.lookup n=some .free
 nd:(x::fs).Nodup
 len:fr.length=fs.length
 slots:∀(j:Nat)(y:Str)(k:Nat),fs[j]?=some y->fr[j]?=some k->X.N[k]?=some y/\y∈frees scope
abbrev d5(X:Cx)(N':Aaf)(scope:Scope)(C:Addr)(s:Shared)(H:Hp)(ex:Aah):Cx:=
 {X with N:=N',aab:=s,aaf:=H,env:=compEnvC scope (E4 scope X.env) C X.env,outer:=X.stack,stack:=X.stack,ex:=ex,fn:=λ_=>false,pn:=[],xe:=λ_ _=>False}
def CT(X:Cx)(ifs:List Expr)(tt:TT):Prop:=
 ∀(pins:Aaa)(s:Shared)(Z:St)(H:Hp)(Q:Bool->Hp->Prop),Inv X pins Z H s->tt Z H Q->
  wpAny (-6) X.A (forIn ifs true λc r=>if r=true then do let ok<-isTrue c X.env (eval c X.env);pure (ForInStep.yield ok)else pure (ForInStep.yield r)) (TP X pins Z Q) X.xe s
def CZ:TT:=λ_ H Q=>Q true H
def L4:CT X [] CZ:=λ_ _ _ H _ I h=>wpAny_tests_nil ⟨H,I,h⟩
def TY(h:PT X c tc):CT X [c] tc:=λpins s Z H Q I hq=>wpAny_tests_one (h pins s Z H Q I hq)
def slotsOf(fr:List Nat)(Z:St):St:=fr.map λk=>(Z[k]?).getD none
def xu(wi:TI)(fr:List Nat)(tt:TT)(te:TE):TE:=λZ H Q=>wi Z H λJ H1=>∃W:Nat->Nat->Aam->Hp->Prop,(∃m,W 0 m [] H1)/\∀i m ys H2,W i m ys H2->
 (J.stop i H2/\ys.length<=sizeLine/\∀l,H2 l=none->Q (.ref l) (upd H2 l (-39)))\/
 (J.go i H2/\ys.length<sizeLine/\∀v H3,J.Hw i H2 v H3->tt (some v::slotsOf fr Z) H3 λb H4=>
  if b=true then te (some v::slotsOf fr Z) H4 (λy H5=>∃m',m'<m/\W (i+1) m' (ys++[y]) H5)else∃m',m'<m/\W (i+1) m' ys H4)
section
variable{X:Cx}
def DY{h h':Heap}(k:∀b o,h.get? b=some o->h'.get? b=some o)(z:h.IsCell c v):h'.IsCell c v:=by obtain⟨o,e,d⟩:=z;exact{o,k _ _ e,d}
def Inv.adopt(I:Inv X pins Z H s)(hn:H D=none)(e:s.heap.get? D=some {cls:=.type "list",data:=.seq vs.toArray k})(r:Vals ys vs)(hz:ys.length<=sizeLine)
  (h1:X.aab.heap.objs.size<=D) (hL:D≠X.env.locals) (h2:∀x c,X.env.cells.lookup x=some c->c≠D) (h3:∀p∈X.pn++pins,p.1≠D):Inv X pins Z (upd H D (-39)) s:=by
 have nD:∀b u,H b=some u->b≠D:=λb u q z=>by rw[z,hn]at q;cases q
 have bj:ko X.prog X.w (upd H D (-39)) s.heap:=λb u q=>by
  by_cases hb:b=D
  ·subst hb;rw[au]at q;cases q;exact⟨hz,vs,k,r,e⟩
  ·rw[ay hb]at q;exact(I.bj b u q).kJ (λ_ _ _ z=>z) (λc z=>by rw[ay (nD c _ z)];exact z) λc xs z=>by rw[ay (nD c _ z)];exact z
 have J:=I.step (t':=s.toks) (d':=s.drawn) (ch:=[D])
  (λb hb=>by
   have e':b=D:=by simpa using hb
   subst e';exact{.inr h1,hL,h2,h3})
  (λb o _ _ _ q _=>q) (λb o _ _ _ q _=>{o.slots,q}) (λb o hc _ n=>by rw[ay λz=>hc (by simp[z])];exact n) (λb o _ q=>⟨o,q⟩)
  (λb xs q=>by rw[ay (nD b _ q)];exact q) (λb o u q=>by rw[ay (nD b _ q)];exact q) (λb ps q=>{#[],by rw[ay (nD b _ q),q];simp}) (λm hm=>hm) bj I.bare
 exact J
def Z9(S:sJ X scope x fs fr)(I2:Inv X pins Z H s2)(I3:Inv X pins Z H s)
  (hD:D=s2.heap.objs.size) (hs:s.heap.objs.size=D+1) (cE:∀b∈fp,b<D) (f2:∀b∈fp,qH X pins H b):(d5 X (x::fs) scope s.heap.objs.size s H (D::fp)).Ok:=by
 have nZ:=λn hn=>I3.ok.has n (.inl (S.free n hn).1);have sub:∀{y:Str}{c:Addr},(E4 scope X.env).lookup y=some c->X.env.cells.lookup y=some c:=λh=>((uq nZ).mp h).2;refine{I3.ok.mod,S.kind,I3.ok.glob,I3.ok.blt,ak _,λa b c h1 h2=>I3.ok.inj a b c (sub h1) (sub h2),λy hy=>?_,(λ_ _ h=>by cases h),I3.ok.hd,I3.ok.frames,.inl rfl,λb hb=>?_,I3.bs,aJ I3.ok.Em I3.sz,λb o e hb=>?_,λb hb hf=>?_,I3.stack,I3.Nu}
 ·have q:(relabel scope X.env).names.lookup y=some .cell\/(relabel scope X.env).names.lookup y=some .free:=hy;have nf:scope.names.lookup y=some .free:=by
   rw[yS]at q;cases e:scope.names.lookup y with
   |none=>rw[e]at q;simp at q
   |some k=>
    rw[e]at q;cases k with
    |free=>rfl
    |cell=>
     have hm:(y,NameKind.cell)∈scope.names:=by have:=xj.mp e;obtain⟨l1,l2,z,_⟩:=this;rw[z];simp
     exact absurd rfl (S.RW _ hm)
    |_=>simp at q
  have hm:y∈frees scope:=by obtain⟨l1,l2,z,_⟩:=xj.mp nf;unfold frees;rw[z];simp
  obtain⟨c,hc⟩:=nZ y hm;exact{c,(uq nZ).mpr ⟨hm,hc⟩}
 ·rcases aH.mp hb with rfl|hb
  ·refine{λz=>?_,λy c h z=>?_}
   ·exact absurd (hs.symm.trans z.symm:b+1=b) (Nat.succ_ne_self b)
   ·obtain⟨v,q⟩:=I2.cell y c (sub h);have:=q.lt;rw[z,hD]at this;exact absurd this (dP _)
  ·refine{λz=>?_,λy c h=>(f2 b hb).2.2.2.2.1 y c (sub h)};have q:=dU (cE b hb);rw[z]at q;exact absurd q (by show ¬s.heap.objs.size<D+1;rw[hs];exact dP _)
 ·have kD:=aF e;have h1:=I2.ok.Em;rcases aH.mp hb with rfl|hb
  ·rw[hD]at kD;exact absurd (ba kD (aJ h1 I2.sz)) (dP _)
  ·rcases(f2 b hb).2.2.2.1 with z|z
   ·exact I2.ok.GZ b o e z
   ·exact absurd (ba kD (aJ h1 z)) (dP _)
 ·have zu:=hf;rcases aH.mp (I2.JR b zu)with z|z
  ·rcases aH.mp hb with rfl|hb
   ·have:=I2.lt;rw[<-z,hD]at this;exact absurd this (dP _)
   ·exact(f2 b hb).2.1 z
  ·rcases aH.mp hb with rfl|hb
   ·exact I2.abo (CI hD.symm) z
   ·exact(f2 b hb).2.2.1 z
def WG(S:sJ X scope x fs fr)(I3:Inv X pins Z H s)
  (ok:(d5 X (x::fs) scope s.heap.objs.size s H ex).Ok) (hn:h4.Ns s.heap.objs.size m) (old:∀b o,s.heap.get? b=some o->h4.get? b=some o):
  Inv (d5 X (x::fs) scope s.heap.objs.size s H ex) [] (none::slotsOf fr Z) H {s with heap:=h4,toks:=t}:=by
 have nZ:=λn hn=>I3.ok.has n (.inl (S.free n hn).1);have sub:∀{y:Str}{c:Addr},(E4 scope X.env).lookup y=some c->X.env.cells.lookup y=some c:=λh=>((uq nZ).mp h).2;refine{ok,rfl,I3.bare,Un.kept old,{m,hn,λi y v e1 e2 e3=>?_},λy c h=>?_,I3.bj.fresh (ak _),λy c h=>I3.oV y c (sub h),λp hp=>absurd hp (-8),I3.bj.kept old,?_}
 ·cases i with
  |zero=>
   have IP:(none:Aan)=some v:=by simpa using e2
   cases IP
  |succ j=>
   have IP:(slotsOf fr Z)[j]?=some (some v):=by simpa using e2
   unfold slotsOf at IP;rw[aL]at IP;cases hk:fr[j]? with
   |none=>rw[hk]at IP;cases IP
   |some k=>
    rw[hk]at IP;have e4:(Z[k]?).getD none=some v:=by simpa using IP
    have e5:Z[k]?=some (some v):=by
     cases q:Z[k]? with
     |none=>rw[q]at e4;cases e4
     |some z=>rw[q]at e4;exact bV some e4
    obtain⟨n1,n2⟩:=S.slots j y k (-56) hk;obtain⟨m0,_,hl⟩:=I3.loc;obtain⟨u,ru,l⟩:=hl k y v n1 e5 (.inr (.inl (S.free y n2).1));have kc:=(S.free y n2).1;rcases l with⟨l,_⟩|⟨_,c,hc,cl⟩
    ·rw[kc]at l;cases l
    ·refine{u,ru,.inr {.inl ?_,c,(uq nZ).mpr ⟨n2,hc⟩,DY old cl}};show(relabel scope X.env).names.lookup y=some .cell;rw[yS,(S.free y n2).2,I3.ok.kind,kc];rfl
 ·obtain⟨v,z⟩:=I3.cell y c (sub h);exact{v,DY old z}
 ·show(none::slotsOf fr Z).length=(x::fs).length;simp[slotsOf,S.len]
abbrev lobj(vs:Aae)(k:Nat):Obj:={cls:=.type "list",data:=.seq vs.toArray k}
theorem Na:∀(xs:Aam)(us:Aae),xs.length=us.length->(∀(j:Nat)(x:V)(u:Value),xs[j]?=some x->us[j]?=some u->RelV x u)->Vals xs us
 |[],[],_,_=>.nil
 |[],_::_,h,_=>by cases h
 |_::_,[],h,_=>by cases h
 |x::xs,u::us,h,f=>.cons (f 0 x u rfl rfl) (Na xs us (by simpa using h) λj a b e1 e2=>f (j+1) a b (-56) (-73))
def yT(h:Az k v=true):RelV (kV k) v:=by
 rcases iB h with⟨i,t,rfl,rfl⟩|⟨x,t,rfl,rfl⟩
 ·exact⟨t,rfl⟩
 ·exact⟨t,rfl⟩
def range_all(bs:List Bool):((List.range bs.length).all λi=>(bs[i]?).getD true)=bs.all id:=by
 rw[iO,d8,d8];constructor
 ·intro h b hb;obtain⟨i,hi⟩:=cP.mp hb;have:=h i (dv.mpr (aq.mp hi).1);rw[hi]at this;exact this
 ·intro h i hi;have cE:=dv.mp hi;rw[ao cE];exact h _ (gJ cE)
def Hm(hc:X.calm=true):iN X (.type "list") (λxs H Q=>∃a kvs,xs=[.ref a]/\H a=some (.dK kvs)/\∀l,H l=none->Q (.ref l) (upd H l (.lst (kvs.map λkv=>kV kv.1)))):=by
 intro pins s Z H xs us Q I r h;obtain⟨a,kvs,rfl,ha,q⟩:=h;obtain⟨u,rfl,ru⟩:=jy r;cases ru;obtain⟨hz,lo,vs,rel,o,es,ep,m⟩:=Dd I.bj ha;have hl:=rel.length;refine PySem.W.kdl_call (PySem.W.kdl_dict lo) (I.ok.hd hc) (⟨o,es,m⟩) (hl▸hz) λh' tk vb c' kp e it=>?_;have rv:Vals (kvs.map λkv=>kV kv.1) vb.toList:=by
  refine Na _ _ (by simp[it.1,hl]) λj x v e1 e2=>?_;obtain⟨k,y,e3,e4⟩:=it.2 j v (by rw[<-bF];exact e2);have e5:(kvs.map (·.1))[j]?=some k:=by rw[rel.keys,aL,e3];rfl
  rw[aL]at e1 e5;cases e6:kvs[j]? with
  |none=>rw[e6]at e1;cases e1
  |some p=>
   rw[e6]at e1 e5;obtain rfl:kV p.1=x:=bJ e1;obtain rfl:p.1=k:=bJ e5;exact yT e4
 exact{.ref s.heap.objs.size,_,I.laid kp (ak _) (show dE X.prog X.w _ h' _ (.lst _)from{by rw[af];exact hz,vb.toList,c',rv,by simpa using e}),rfl,q _ I.fresh}
def zD(hc:X.calm=true):iN X (.builtin "all") (λxs H Q=>∃(a:Addr)(bs:List Bool),xs=[.ref a]/\aY X.K H a (bs.map V.bl)/\Q (.bl (bs.all id)) H):=by
 intro pins s Z H xs us Q I r h;obtain⟨a,bs,rfl,ha,q⟩:=h;obtain⟨u,rfl,ru⟩:=jy r;cases ru;obtain⟨aS,rv,p,hz⟩:=I.list ha;have hl:aS.length=bs.length:=by have:=rv.length;simpa using this.symm
 have iU:a≠s.heap.objs.size:=by obtain⟨o,n,e,_⟩:=id p;exact aI (aF e)
 refine call_all_walk (pD p.isList ?_);refine{s.heap.objs.size,_,_,aS.toArray.size,_,_,λi=>(bs[i]?).getD true,rfl,Walks.list (show X.A.in1.handled=none from I.ok.hd hc) s.heap.objs.size a iU aS.toArray,{{_,aE _ rfl,rfl,rfl},p.isList.at λo e=>ah _ e},?_,λh' tk kp=>?_}
 ·intro i v s' Q' E' hP hQ;have hP':aS[i]?=some v:=by simpa using hP
  have hi:i<bs.length:=by rw[<-hl];exact(aq.mp hP').1
  obtain⟨u,hu,ru⟩:=rv.get (by rw[aL,ao hi];rfl);rw[hP']at hu;cases hu;cases ru;refine iP ?_;have e2:(bs[i]?).getD true=bs[i]:=by rw[ao hi];rfl
  rw[<-e2];exact hQ
 ·refine{.bl (bs.all id),H,I.kept λb o e=>kp b o (by simpa using aI (aF e)) (ah _ e),?_,q};show Value.bool _=Value.bool _;rw[aN,hl,range_all]
def El:iN X (.builtin "isinstance") (λxs H Q=>∃x n t b,xs=[x,.ty n]/\qC X.K H x t/\kitOne X.K t (.type n)=some b/\Q (.bl b) H):=by intro pins s Z H xs us Q I r h;obtain⟨x,n,t,b,rfl,ty,e,q⟩:=h;obtain⟨u,w',rfl,ru,pU⟩:=Fj r;cases pU;exact Sx I ru ty e λtk=>{.bl b,H,I.tok tk,rfl,q}
inductive Zf(x:V)(vs:Aam)(H:Hp)(Q:VK):Prop
 |mk a b (_:x=.str a) (_:vs=[.str b]) (_:Q (.bl (Txt.startswith a b)) H)
def Jf:Uw X "str.startswith" Zf:=by intro pins s Z H x vs v us Q I rx rv h;obtain⟨a,b,rfl,rfl,q⟩:=h;obtain⟨t,rfl⟩:=rx;obtain⟨u,rfl,ru⟩:=rv.one;obtain⟨t',rfl⟩:=ru;exact call_gives F.slot_str_startswith (oP s a t) F.entry_str_startswith (F.args_str_startswith_2 _ _) (gives_str_startswith a b t t') {.bl _,H,I,rfl,q}
inductive ad5(x:V)(lo:Option Int)(hi:Option Int)(H:Hp)(Q:VK):Prop
 |mk z (_:x=.str z) (_:z.length<=sizeLine) (_:Q (.str (Txt.slice z lo hi)) H)
def Q8:Ut X ad5:=by
 intro pins s Z H x v vl vu lo hi sl Q I rx hs pl pu h;obtain⟨z,rfl,hz,q⟩:=h;obtain⟨t,rfl⟩:=rx;cases pl with
 |none=>
  cases pu with
  |none=>exact{"str",_,F.slot_str_getitem.lookup,oP _ _ _,kI (l:=none) (u:=none) (st:=none) hs rfl (-42)}
  |int j tj=>exact{"str",_,F.slot_str_getitem.lookup,oP _ _ _,kI (l:=none) (u:=some (j,tj)) (st:=none) hs rfl (-42)}
 |int i ti=>
  cases pu with
  |none=>exact{"str",_,F.slot_str_getitem.lookup,oP _ _ _,kI (l:=some (i,ti)) (u:=none) (st:=none) hs rfl (-42)}
  |int j tj=>exact{"str",_,F.slot_str_getitem.lookup,oP _ _ _,kI (l:=some (i,ti)) (u:=some (j,tj)) (st:=none) hs rfl (-42)}
def adS(_i j:Int):Prop:=0<j/\j.natAbs.log2<9000
def Vt:jH X (binaryOp .FloorDiv) (rI adS λi j=>.int (i/j)):=RL λi j _ _ _ _ _ hc q=>by have h1:=hc.1;exact floordiv_int ∅ (by rw[vf i ∅];exact q) (.inl (PyProof.noPylong_of_log2 hc.2))
mutual
def Dt(K:Frag)(H:Hp):PyData->V->Prop
 | .none,x=>x=.cR
 | .bool b,x=>x=.bl b
 | .int i,x=>x=.int i
 | .str z,x=>x=.str z
 | .list ds,x=>∃a xs,x=.ref a/\aY K H a xs/\qm K H ds xs
 | .tuple ds,x=>∃a xs,x=.ref a/\bC K H a xs/\qm K H ds xs
 | .dict _,_=>False
def qm(K:Frag)(H:Hp):List PyData->Aam->Prop
 |[],xs=>xs=[]
 |d::ds,xs=>∃x r,xs=x::r/\Dt K H d x/\qm K H ds r
end
mutual
theorem nP(I:Inv X pins Z H s):∀(d:PyData)(x:V)(v:Value),Dt X.K H d x->RelV x v->∃as,Reads s.heap v d as
 | .none,x,v,h,r=>by rw[Dt]at h;subst h;cases r;exact{_,.none}
 | .bool b,x,v,h,r=>by rw[Dt]at h;subst h;cases r;exact{_,.bool b}
 | .int i,x,v,h,r=>by rw[Dt]at h;subst h;obtain⟨t,rfl⟩:=r;exact{_,.int i t}
 | .str z,x,v,h,r=>by rw[Dt]at h;subst h;obtain⟨t,rfl⟩:=r;exact{_,.str z t}
 | .list ds,x,v,h,r=>by rw[Dt]at h;obtain⟨a,xs,rfl,hq,ha⟩:=h;cases r;obtain⟨aS,rv,⟨o,n,e,c,_,d⟩,_⟩:=I.list hq;obtain⟨as,ra⟩:=yo I ds xs aS ha rv;exact{_,.list e c d (by simpa using ra)}
 | .tuple ds,x,v,h,r=>by rw[Dt]at h;obtain⟨a,xs,rfl,hq,ha⟩:=h;cases r;obtain⟨aS,rv,⟨o,e,c,n,d⟩,_⟩:=I.tuple hq;obtain⟨as,ra⟩:=yo I ds xs aS ha rv;exact{_,.tuple e c d (by simpa using ra)}
 | .dict _,x,v,h,r=>by rw[Dt]at h;exact h.elim
theorem yo(I:Inv X pins Z H s):∀(ds:List PyData)(xs:Aam)(vs:Aae),qm X.K H ds xs->Vals xs vs->∃as,ReadsAll s.heap vs ds as
 |[],xs,vs,h,r=>by rw[qm]at h;subst h;cases r;exact{_,.nil}
 |d::ds,xs,vs,h,r=>by
  rw[qm]at h;obtain⟨x,r',rfl,h1,h2⟩:=h;cases r with
  |cons r1 r2=>
   obtain⟨as,q1⟩:=nP I d x _ h1 r1;obtain⟨bs,q2⟩:=yo I ds r' _ h2 r2;exact{_,.cons q1 q2}
end
inductive abc(K:Frag)(neg:Bool)(x:V)(y:V)(H:Hp)(Q:VK):Prop
 |mk d e (_:Dt K H d x) (_:Dt K H e y) (_:SeqAt.shaped d=true) (_:SeqAt.shaped e=true) (_:Q (.bl (if neg then !PyData.eqv d e else PyData.eqv d e)) H)
def RK(hu:X.A.units+64<cLine):jH X (compareOp .Eq) (abc X.K false):=by intro pins s Z H x y v u Q I rx ry h;obtain⟨d,e,h1,h2,h3,h4,q⟩:=h;obtain⟨as,r1⟩:=nP I d x v h1 rx;obtain⟨bs,r2⟩:=nP I e y u h2 ry;exact eq_dataH r1 r2 h3 h4 hu {.bl _,H,I,rfl,q}
def abh(hu:X.A.units+64<cLine):jH X (compareOp .NotEq) (abc X.K true):=by intro pins s Z H x y v u Q I rx ry h;obtain⟨d,e,h1,h2,h3,h4,q⟩:=h;obtain⟨as,r1⟩:=nP I d x v h1 rx;obtain⟨bs,r2⟩:=nP I e y u h2 ry;exact ne_dataH r1 r2 h3 h4 hu {.bl _,H,I,rfl,q}
theorem Gi{K:Frag}:∀zs:Aaf,qm K H (zs.map PyData.str) (-70)
 |[]=>by rw[jv,qm];rfl
 |z::r=>by exact{_,_,rfl,by rw[Dt],Gi r}
theorem Eg:∀xs ys:Aaf,PyData.eqvAll (xs.map PyData.str) (ys.map PyData.str)=decide (xs=ys)
 |[],[]=>by simp[PyData.eqvAll]
 |[],_::_=>by simp[PyData.eqvAll]
 |_::_,[]=>by simp[PyData.eqvAll]
 |a::r,b::t=>by simp only[bw,PyData.eqvAll,PyData.eqv,Eg r t];by_cases h:a=b<;>by_cases h':r=t<;>simp[h,h']
theorem Aw:∀zs:Aaf,(∀z∈zs,PyData.strOk z=true)->PyData.canLayAll0 (zs.map PyData.str)=true
 |[],_=>rfl
 |z::r,h=>by simp[PyData.canLayAll0,PyData.canLay0,(h z aA),(Aw r λy hy=>h y (aB _ hy))]
theorem vT:∀zs:Aaf,PyData.depthAll (zs.map PyData.str)=0
 |[]=>rfl
 |_::r=>by simp[PyData.depthAll,PyData.depth,vT r]
def Qx(osc:Scope)(N:Aaf)(scope:Scope)(x:Str)(fs:Aaf)(fr:List Nat):Bool:=
 scope.kind==.function&&scope.names.lookup x==some .local&&scope.names.all (λy=>!(y.2==.local)||scope.names.lookup y.1==some .local)&&scope.names.all (λy=>!(y.2==.cell))&&
  (frees scope).all (λn=>osc.names.lookup n==some .cell&&scope.names.lookup n==some .free)&&decide ((x::fs).Nodup)&&fr.length==fs.length&&
  (List.range fs.length).all (λj=>match fs[j]?,fr[j]? with|some y,some k=>N[k]?==some y&&decide (y∈frees scope)|_,_=>false)
end
def df(h:Qx X.env.scope X.N scope x fs fr=true:=by kernel_rfl):sJ X scope x fs fr:=by
 unfold Qx at h;simp only[cZ]at h;obtain⟨⟨⟨⟨⟨⟨⟨h1,h2⟩,h3⟩,h4⟩,h5⟩,h6⟩,h7⟩,h8⟩:=h;refine{iq h1,iq h2,λy hy e=>?_,λy hy e=>?_,λn hn=>?_,aW h6,iq h7,λj y k e1 e2=>?_}
 ·have:=d8.mp h3 y hy;rw[e]at this;simpa using this
 ·have:=d8.mp h4 y hy;rw[e]at this;simp at this
 ·have:=d8.mp h5 n hn;rw[cZ]at this;exact{iq this.1,iq this.2}
 ·have:=d8.mp h8 j (dv.mpr (aq.mp e1).1);rw[e1,e2]at this;simp only[cZ]at this;exact{iq this.1,aW this.2}
def dz(P:Program)(w:World)(K:Frag)(mg:Aab)(base:Heap)(k:Nat)(x:Str)(ps:Aaf)(sp:Sp):Prop:=
 ∃f fd,dy P w K mg base f9 k f fd ps sp/\mg x=some (.ref f)/\keepIn K (.ref f)=true/\Binds K fd ps []
def cl(D:dz X.prog X.w X.K X.mg X.base k x ps sp)(hr:iK j X.A)(ha:PA X (e::es) t)(hk:k<=j:=by decide)(hg:Gl X x:=by rfl)
  (Cf:(-27)=false:=by decide) (he:starEach (e::es) X.env=(false,eval e X.env)::starEach es X.env:=by rfl) (rX:(-31).any (·.1)=false:=by rfl):
  PE X (-68) (Xb sp [] E0 t):=by
 obtain⟨f,fd,F,m,kp,b⟩:=D;exact Zw F (hr.mono hk) hg m kp b .nil Po ha Cf he rX
def FT(l:Addr)(items:Aaj)(n:Nat)(b:Addr)(dd:Aai)(sl:Aad)(B8:Aaj)(n2:Nat)(hs0:¬(!items.isEmpty&&Builtin.List.listTooLong (items.size+B8.size))=true)(D7:items.size<=sizeLine)(ma:items.size+B8.size<=sizeLine+1):
  Meets (Builtin.«list.extend» {[.ref l,.ref b],[]}) (λ_ R s=>s.heap.get? l=some {cls:=.type "list",dict:=none,data:=.seq items n,slots:=#[]}/\s.heap.get? b=some {cls:=.type "tuple",dict:=dd,data:=.seq B8 n2,slots:=sl}/\R (.ok (.ret Value.none)) {s with heap:=s.heap.update l (Obj.mapSeq λx=>x++B8),toks:=s.toks}):=
 .of_wp λprog w A R s h=>by
  obtain⟨hp,g,d,tk,os⟩:=s;obtain⟨hl,hb,h⟩:=h
  wp_walk using(jw hl rfl (_hz':=(by rw[vH];exact ma))),wpAny_loadPart' hl,wpAny_loadPart' hb
  exact⟨_,rfl,h⟩
section
variable{X:Cx}
inductive Vc(K:Frag)(x:V)(vs:Aam)(H:Hp)(Q:VK):Prop
 |mk l b xs zs (_:x=.ref l) (_:vs=[.ref b]) (_:H l=some (.lst xs)) (_:bC K H b zs) (_:xs.length+zs.length<=sizeLine) (_:Q .cR (upd H l (.lst (xs++zs))))
def PB:Ux X "list.extend" (Vc X.K):=by
 intro pins s Z H x vs v us Q I rx rv h;obtain⟨l,b,xs,zs,rfl,rfl,hH,hB,hz,q⟩:=h;cases rx;obtain⟨u,rfl,ru⟩:=rv.one;cases ru;obtain⟨z,aS,n,r,hl,e⟩:=I.EK hH;obtain⟨tM,r2,⟨⟨cls,dd,data,sl⟩,e2,vv,n2,hd2⟩,z2⟩:=I.tuple hB;simp only at vv hd2;subst vv hd2;have g8:=r2.length;have hsz:aS.toArray.size+tM.toArray.size<=sizeLine:=by rw[aN,aN];lia
 have P8:¬(!aS.toArray.isEmpty&&Builtin.List.listTooLong (aS.toArray.size+tM.toArray.size))=true:=by rw[K1 hsz,zO];exact bu
 refine vU CP ⟨_,e,rfl⟩ Bq (A4 _ _)
  (FT l aS.toArray n b dd sl tM.toArray n2 P8 (by rw[aN];lia) ∅) {e,e2,?_}
 refine{.cR,_,I.PK hH e (-8) (r.append r2) ?_,rfl,q};rw[aC];lia
end
def cut(n:Nat)(C:St->Hp->Prop)(ht:∃t2,lV X (body.drop n) t2/\∀Z H,C Z H->t2 D Z H)
  (hh:∀t2,lV X (body.drop n) t2->∃t,lV X body t/\((∀Z H,C Z H->t2 D Z H)->t D σ0 H0)):∃t,lV X body t/\t D σ0 H0:=by
 obtain⟨t2,p,q⟩:=ht;obtain⟨t,p',q'⟩:=hh t2 p;exact{t,p',q' q}
def Qw{B:St->Hp->Prop}(n:Nat)(C:St->Hp->Prop)(ht:∃t2,lV X (body.drop n) t2/\∀Z H,C Z H->t2 D Z H)
  (hh:∀t2,lV X (body.drop n) t2->∃t,lV X body t/\((∀Z H,C Z H->t2 D Z H)->∀Z H,B Z H->t D Z H)):∃t,lV X body t/\∀Z H,B Z H->t D Z H:=by
 obtain⟨t2,p,q⟩:=ht;obtain⟨t,p',q'⟩:=hh t2 p;exact{t,p',q' q}
def Vq(hg:Gl X x)(hm:∃t,X.mg x=some (.int i t))(hd:(-27)=false:=by decide):PE X (.Name x pos) (tC (.int i)):=by obtain⟨t,hm⟩:=hm;exact NP hg hm ⟨t,rfl⟩ hd
def Vp(hg:Gl X x)(hm:∃t,X.mg x=some (.str z t))(hd:(-27)=false:=by decide):PE X (.Name x pos) (tC (.str z)):=by obtain⟨t,hm⟩:=hm;exact NP hg hm ⟨t,rfl⟩ hd
section
variable{X:Cx}{K:Frag}
def AA(h:X.K=K:=by rfl):OQ X (abb K):=h▸eW
def tL(h:X.K=K:=by rfl):OQ X (aba K):=h▸il
def qV(h:X.K=K:=by rfl):iN X (.builtin "len") (λxs H Q=>∃x n,xs=[x]/\acK K x H n/\Q (.int n) H):=h▸eC
def qh(h:X.K=K:=by rfl):jH X (compareOp .NotIn) (rIn K true):=h▸KO
def C3{A B:Hp->Prop}(h:A H):CZ Z H (λb H4=>if b=true then A H4 else B H4):=by show(if true=true then A H else B H);exact h
end
end L2
namespace HT
open PySem PySem.Spec PyProof.Rows
section
variable{prog:Program}{w:World}{A:Around}{E:Aac}{s:Shared}
def Bm{t sl:Addr}{items:Aaj}{vl vu:Value}{lo hi:Option Int}{Q:Aac}(ht:IsTup s.heap t items)(hs:s.heap.IsSliceOf sl vl vu .none)(pl:IsPart vl lo)(pu:IsPart vu hi)
  (hw:fP items.size 0 lo=0/\fP items.size items.size hi=items.size) (h:Q (.ref t) s):wpAny (-5) A (getItem (.ref t) (.ref sl)) Q E s:=by
 obtain⟨os,zm,LK,Eb⟩:=id hs;unfold getItem
 try with_reducible refine bS ?_
 first|refine ae (ag ?_)|skip
 refine ae (vj ht.typeIs (-9) ?_);refine ae (wpAny_callSpecial?_slot ht.typeIs cL
  (bp cL ht.typeIs sT ?_ (uN _ _)))
 show wpAny _ _ (Builtin.Tuple.tupleItemsOf (.ref t)>>=_) _ _ s;refine ae (A8 ht ?_);refine ae (gZ (⟨os,zm,LK⟩) ?_);refine ae (wj hs pl pu ?_);have aeP:(-20)=true:=by rw[hw.1,hw.2];simp
 show wpAny _ _ (if(-20)=true then _ else _) _ _ s;rw[aG aeP];refine ae (ae (gZ ht.typeIs ?_));refine ag ?_
 wp_walk
 exact{_,rfl,ag h}
def Pk(n:Nat):Builtin.Slice.slicePlaces ((n:Int) -1) (-1) (-1)=n:=by
 unfold Builtin.Slice.slicePlaces;rw[aw (-9)];split
 ·rw[show -(-1:Int)=1 by decide,Int.ediv_one];lia
 ·lia
def EA{sl:Addr}{n:Nat}{u:Tok}{Q:Int×Int×Nat->Shared->Prop}(hs:s.heap.IsSliceOf sl .none .none (.int (-1) u))(h:Q ((n:Int) -1,-1,n) s):
  wpAny (-5) A (Builtin.Slice.sliceApplied (.ref sl) (pure (n:Int))) Q E s:=by
 obtain⟨os,zm,LK,Eb⟩:=id hs;refine ae (ae (bK zm Eb rfl (ae (bK zm Eb rfl (ae (bK zm Eb rfl (ag ?_)))))));refine ae (slicePart_int ?_);refine ae (tm (ae (tm (ae (ag ?_)))));show wpAny _ _ (match Builtin.Slice.sliceAdjust none none (-1) (n:Int)with|(lo,hi)=>pure (lo,(-1:Int),Builtin.Slice.slicePlaces lo hi (-1))) _ _ s;show wpAny _ _ (pure ((n:Int) -1,(-1:Int),Builtin.Slice.slicePlaces ((n:Int) -1) (-1) (-1))) _ _ s;rw[Pk];exact ag h
theorem filterMap_some{α β:Type}(f:α->Option β)(g:α->β):∀l:List α,(∀x∈l,f x=some (g x))->l.filterMap f=l.map g
 |[],_=>rfl
 |a::r,h=>by rw[fV,h a aA,bw,filterMap_some f g r λx hx=>h x (aB _ hx)]
def Vk(xs:Aaj):((List.range xs.size).filterMap λ(k:Nat)=>xs[(((xs.size:Nat):Int) -1+(k:Int)*-1).toNat]?).toArray=xs.toList.reverse.toArray:=by
 refine bV List.toArray ?_;refine pP λi=>?_;rw[filterMap_some _ (λk=>(xs[xs.size -1 -k]?).getD .none) _ λk hk=>?_]
 ·rw[aL];by_cases hi:i<xs.size
  ·rw[List.getElem?_range hi,List.getElem?_reverse (by simpa using hi),aM,bF,br (show xs.size -1 -i<xs.size by lia)];simp[br (show xs.size -1 -i<xs.size by lia)]
  ·rw[gk (by simpa using hZ hi),gk (by simpa using hZ hi)];rfl
 ·have IF:=dv.mp hk;have e:(((xs.size:Nat):Int) -1+(k:Int)*-1).toNat=xs.size -1 -k:=by lia
  rw[e,br (show xs.size -1 -k<xs.size by lia)];rfl
def Dj{t sl:Addr}{items:Aaj}{u:Tok}{Q:Aac}(ht:IsTup s.heap t items)(hs:s.heap.IsSliceOf sl .none .none (.int (-1) u))
  (h:Q (-11) {s with heap:=s.heap.push {cls:=.type "tuple",data:=.seq items.toList.reverse.toArray}})
  (hsz:items.size<=sizeLine):wpAny (-5) A (getItem (.ref t) (.ref sl)) Q E s:=by
 have vQ:sizeOk (.seq items.toList.reverse.toArray):=by show items.toList.reverse.toArray.size<=sizeLine;rw[aN,sY,aM];exact hsz
 obtain⟨os,zm,LK,Eb⟩:=id hs;unfold getItem
 try with_reducible refine bS ?_
 first|refine ae (ag ?_)|skip
 refine ae (vj ht.typeIs (-9) ?_);refine ae (wpAny_callSpecial?_slot ht.typeIs cL
  (bp cL ht.typeIs sT ?_ (uN _ _)))
 show wpAny _ _ (Builtin.Tuple.tupleItemsOf (.ref t)>>=_) _ _ s;refine ae (A8 ht ?_);refine ae (gZ (⟨os,zm,LK⟩) ?_);refine ae (EA hs ?_);have Cd:¬((((items.size:Nat):Int) -1==0&&(-1:Int)==1&&items.size==items.size)=true):=by simp
 show wpAny _ _ (if(((items.size:Nat):Int) -1==0&&(-1:Int)==1&&items.size==items.size)=true then _ else _) _ _ s;rw[aw Cd,Vk]
 first
  |exact ae (bX (ag ⟨_,rfl,ag h⟩) vQ)
  |exact ae (bX (ae (ag (ag ⟨_,rfl,ag h⟩))) vQ)
  |exact ae (ae (bX (ag (ag ⟨_,rfl,ag h⟩)) vQ))
  |exact ae (ae (bX (ag ⟨_,rfl,ag h⟩) vQ))
def WK(ht:IsTup s.heap t vs.toArray)(hb:IsTup s.heap b ws.toArray)(h0:vs=[]->Q (.ref b) s)
  (h1:vs≠[]->ws=[]->Q (.ref t) s) (h2:vs≠[]->ws≠[]->Q (-11) {s with heap:=s.heap.push {cls:=.type "tuple",data:=.seq (vs++ws).toArray}})
  (hsz:vs.length+ws.length<=sizeLine):wpAny (-5) A (binaryOp .Add (.ref t) (.ref b)) Q E s:=by
 by_cases hv:vs=[]
 ·obtain⟨⟨cls,dd,data,sl⟩,ho,hc,n,hd⟩:=id ht;obtain⟨⟨afE,OF,data2,Xh⟩,zo,vv,n2,hd2⟩:=id hb;simp only at hc hd vv hd2;subst hc hd vv hd2;exact Cp ⟨_,ho,rfl⟩ ⟨_,zo,rfl⟩ wA A9 pY ph (oE _ _)
   (tuple_addW0 t b vs.toArray ws.toArray n n2 dd OF sl Xh (by simp[hv])) {ho,zo,h0 hv}
 ·exact aai ht hb hv (h1 hv) (h2 hv) hsz
end
end HT
namespace L2
open PySem PySem.Spec PyProof.Rows
section
variable{X:Cx}
inductive Pc(K:Frag)(x:V)(lo:Option Int)(hi:Option Int)(H:Hp)(Q:VK):Prop
 |mk a xs (_:x=.ref a) (_:bC K H a xs) (_:((HT.fP xs.length 0 lo=0/\HT.fP xs.length xs.length hi=xs.length)->Q (.ref a) H)) (_:(¬(HT.fP xs.length 0 lo=0/\HT.fP xs.length xs.length hi=xs.length)->∀p,H p=none->Q (.ref p) (upd H p (.tup (Hi xs lo hi)))))
def Ny:Ut X (Pc X.K):=by
 intro pins s Z H x v vl vu lo hi sl Q I rx hs pl pu h;obtain⟨a,xs,rfl,hx,q1,q2⟩:=h;by_cases hw:HT.fP xs.length 0 lo=0/\HT.fP xs.length xs.length hi=xs.length
 ·cases rx;obtain⟨aS,r,ht,hz⟩:=I.tuple hx;have hlen:aS.toArray.size=xs.length:=aN▸r.length.symm;exact{"tuple",_,cL.lookup,ht.typeIs,HT.Bm ht hs pl pu (by rw[hlen];exact hw) {.ref a,H,I,rfl,q1 hw}}
 ·exact aaW pins s Z H (-64) v vl vu lo hi sl Q I rx hs pl pu {a,xs,rfl,hx,hw,q2 hw}
theorem Vals.rev:∀{xs:Aam}{us:Aae},Vals xs us->Vals xs.reverse us.reverse
 |_,_,.nil=>.nil
 |_,_,.cons r t=>by rw[vD,vD];exact Vals.append (Vals.rev t) (.cons r .nil)
def aaN(K:Frag)(te:TE)(ts:TE):TE:=λZ H Q=>te Z H λx H1=>ts Z H1 λy H2=>y=.int (-1)/\∃a xs,x=.ref a/\bC K H2 a xs/\∀p,H2 p=none->Q (.ref p) (upd H2 p (.tup xs.reverse))
def Rz{e st:Expr}{te ts:TE}{p2 pos:Pos}(he:PE X e te)(g7:PE X st ts):PE X (.Subscript e (.Slice none none (some st) p2) pos) (aaN X.K te ts):=by intro pins s Z H Q I h;refine AX (dq (he pins s Z H _ I h) λv s1 x H1 I1 r1 q1=>?_);refine wpAny_Slice ?_;refine ag (ag ?_);refine dq (g7 pins s1 Z H1 _ I1 q1) λvst s3 y H3 I3 r3 aeF=>?_;obtain⟨ey,a,xs,ex,hx,q⟩:=aeF;subst ey ex;obtain⟨u,rfl⟩:=r3;cases r1;have I4:Inv X pins Z H3 {s3 with heap:=s3.heap.push {cls:=.type "slice",data:=.fields #[.none,.none,.int (-1) u]}}:=I3.kept λb ob q=>ah _ q;obtain⟨aS,r,ht,hz⟩:=I4.tuple hx;have hlen:aS.toArray.size=xs.length:=aN▸r.length.symm;refine tail_any ht.typeIs cL.lookup (HT.Dj ht (CO ..) ?_ (hlen▸hz)) (-36);refine{.ref _,_,I4.laid (λb ob q=>ah _ q) (ak _) ?_,rfl,q _ (I4.bj.fresh (ak _))};exact{by rw[sY];exact hz,_,by simpa using r.rev,yf _ _,_,aE _ rfl,rfl}
inductive Pd(K:Frag)(x:V)(y:V)(H:Hp)(Q:VK):Prop
 |mk a b xs ys (_:x=.ref a) (_:y=.ref b) (_:bC K H a xs) (_:bC K H b ys) (_:xs.length+ys.length<=sizeLine) (_:(xs=[]->Q (.ref b) H)) (_:(xs≠[]->ys=[]->Q (.ref a) H)) (_:(xs≠[]->ys≠[]->∀p,H p=none->Q (.ref p) (upd H p (.tup (xs++ys)))))
def GW:jH X (binaryOp .Add) (Pd X.K):=by intro pins s Z H x y v u Q I rx ry h;obtain⟨a,b,xs,ys,rfl,rfl,ha,hb,hz,q0,q1,q2⟩:=h;cases rx;cases ry;obtain⟨aS,r1,p1,_⟩:=I.tuple ha;obtain⟨tM,r2,p2,_⟩:=I.tuple hb;refine HT.WK p1 p2 (λz=>{.ref b,H,I,rfl,q0 (r1.za.mp z)}) (λn z=>{.ref a,H,I,rfl,q1 (λz=>n (r1.za.mpr z)) (r2.za.mp z)}) (λn z=>?_) (by rw[<-r1.length,<-r2.length];exact hz);refine{.ref s.heap.objs.size,_,I.laid (λb ob q=>ah _ q) (ak _) ?_,rfl,q2 (λz=>n (r1.za.mpr z)) (λw=>z (r2.za.mpr w)) _ (-72)};exact{aC▸hz,_,r1.append r2,yf _ _,_,aE _ rfl,rfl}
inductive aa9(K:Frag)(neg:Bool)(x:V)(y:V)(H:Hp)(Q:VK):Prop
 |mk a b xs (_:x=.ref a) (_:y=.ref b) (_:aY K H a xs) (_:aY K H b []) (_:Q (.bl (if neg then !xs.isEmpty else xs.isEmpty)) H)
def RJ(hu:X.A.units<cLine):jH X (compareOp .Eq) (aa9 X.K false):=by
 intro pins s Z H x y v u Q I rx ry h;obtain⟨a,b,xs,rfl,rfl,ha,hb,q⟩:=h;cases rx;cases ry;obtain⟨aS,r1,p1,_⟩:=I.list ha;obtain⟨tM,r2,p2,_⟩:=I.list hb;cases r2;cases xs with
 |nil=>
  cases r1;exact SeqAt.eq_listAt (e:=λ_=>true) p1.isList p2.isList rfl hu (λj h1 _=>absurd h1 (f6 _)) {.bl true,H,I,rfl,q}
 |cons c l=>
  cases r1 with
  |cons r0 r1=>exact SeqAt.eq_list_lengthsAt p1.isList p2.isList (-8) hu {.bl false,H,I,rfl,q}
def abg(hu:X.A.units<cLine):jH X (compareOp .NotEq) (aa9 X.K true):=by
 intro pins s Z H x y v u Q I rx ry h;obtain⟨a,b,xs,rfl,rfl,ha,hb,q⟩:=h;cases rx;cases ry;obtain⟨aS,r1,p1,_⟩:=I.list ha;obtain⟨tM,r2,p2,_⟩:=I.list hb;cases r2;cases xs with
 |nil=>
  cases r1;exact SeqAt.RcNeAt.lists (e:=λ_=>true) p1.isList p2.isList rfl hu (λj h1 _=>absurd h1 (f6 _)) X.prog X.w X.xe _ {.bl false,H,I,rfl,q}
 |cons c l=>
  cases r1 with
  |cons r0 r1=>exact SeqAt.RcNeAt.lists_lengths p1.isList p2.isList (-8) hu X.prog X.w X.xe _ {.bl true,H,I,rfl,q}
variable{K:Frag}{a:Addr}{xs:Aam}{fr:List Nat}{tt:TT}{te:TE}{Z:St}{H1:Hp}{R:Addr->Aam->Hp->Prop}
abbrev A6(J:It)(fr:List Nat)(tt:TT)(te:TE)(Z:St)(H1:Hp)(R:Addr->Aam->Hp->Prop):Prop:=
 ∃W:Nat->Nat->Aam->Hp->Prop,(∃m,W 0 m [] H1)/\∀i m ys H2,W i m ys H2->
 (J.stop i H2/\ys.length<=sizeLine/\∀l,H2 l=none->R l ys H2)\/
 (J.go i H2/\ys.length<sizeLine/\∀v H3,J.Hw i H2 v H3->tt (some v::slotsOf fr Z) H3 λb H4=>
  if b=true then te (some v::slotsOf fr Z) H4 (λy H5=>∃m',m'<m/\W (i+1) m' (ys++[y]) H5)else∃m',m'<m/\W (i+1) m' ys H4)
def AH(Pv:Nat->Aam->Hp->Prop)(hx:xs.length<sizeLine)(h0:Pv 0 [] H1)(hl:∀i ys H,i<=xs.length->Pv i ys H->bC K H a xs/\ys.length<=i)
  (hs:∀(i:Nat)(x:V)(ys:Aam)(H:Hp)(N:Aam->Hp->Prop),xs[i]?=some x->Pv i ys H->(∀fW H',Pv (i+1) fW H'->N fW H')->
   tt (some x::slotsOf fr Z) H λb H4=>if b=true then te (some x::slotsOf fr Z) H4 (-97)else N ys H4)
  (hd:∀ys H,Pv xs.length ys H->∀l,H l=none->R l ys H):A6 (Uy K a) fr tt te Z H1 R:=by
 refine{λi m ys H=>m=xs.length -i/\i<=xs.length/\Pv i ys H,{xs.length,by simp,aQ _,h0},?_};rintro i m ys H ⟨rfl,hi,p⟩;obtain⟨q,hy⟩:=hl i ys H hi p;by_cases cE:i<xs.length
 ·refine .inr {{xs,_,q,ao cE},by lia,?_};rintro v H3 ⟨rfl,hv⟩;exact hs i v ys H3 (λfW H'=>∃m',m'<xs.length -i/\m'=xs.length -(i+1)/\i+1<=xs.length/\Pv (i+1) fW H') (hv xs q) p λfW H' p'=>{_,by lia,rfl,cE,p'}
 ·have e:i=xs.length:=by lia
  subst e;exact .inl {{xs,q,ak _},by lia,hd ys H p}
def ir(Pv:Nat->Aam->Hp->Prop)(hx:xs.length<sizeLine)(h0:Pv 0 [] H1)(hl:∀i ys H,i<=xs.length->Pv i ys H->aY K H a xs/\ys.length<=i)
  (hs:∀(i:Nat)(x:V)(ys:Aam)(H:Hp)(N:Aam->Hp->Prop),xs[i]?=some x->Pv i ys H->(∀fW H',Pv (i+1) fW H'->N fW H')->
   tt (some x::slotsOf fr Z) H λb H4=>if b=true then te (some x::slotsOf fr Z) H4 (-97)else N ys H4)
  (hd:∀ys H,Pv xs.length ys H->∀l,H l=none->R l ys H):A6 (Uz K a) fr tt te Z H1 R:=by
 refine{λi m ys H=>m=xs.length -i/\i<=xs.length/\Pv i ys H,{xs.length,by simp,aQ _,h0},?_};rintro i m ys H ⟨rfl,hi,p⟩;obtain⟨q,hy⟩:=hl i ys H hi p;by_cases cE:i<xs.length
 ·refine .inr {{xs,_,q,ao cE},by lia,?_};rintro v H3 ⟨rfl,hv⟩;exact hs i v ys H3 (λfW H'=>∃m',m'<xs.length -i/\m'=xs.length -(i+1)/\i+1<=xs.length/\Pv (i+1) fW H') (hv xs q) p λfW H' p'=>{_,by lia,rfl,cE,p'}
 ·have e:i=xs.length:=by lia
  subst e;exact .inl {{xs,q,ak _},by lia,hd ys H p}
def WE{z:Str}(Pv:Nat->Aam->Hp->Prop)(hx:z.cps.size<sizeLine)(h0:Pv 0 [] H1)(hl:∀i ys H,i<=z.cps.size->Pv i ys H->ys.length<=i)
  (hs:∀(i:Nat)(c:Nat)(ys:Aam)(H:Hp)(N:Aam->Hp->Prop),z.cps[i]?=some c->Pv i ys H->(∀fW H',Pv (i+1) fW H'->N fW H')->
   tt (some (.str ⟨#[c]⟩)::slotsOf fr Z) H λb H4=>if b=true then te (some (.str ⟨#[c]⟩)::slotsOf fr Z) H4 (-97)else N ys H4)
  (hd:∀ys H,Pv z.cps.size ys H->∀l,H l=none->R l ys H):A6 (YE z) fr tt te Z H1 R:=by
 refine{λi m ys H=>m=z.cps.size -i/\i<=z.cps.size/\Pv i ys H,{z.cps.size,by simp,aQ _,h0},?_};rintro i m ys H ⟨rfl,hi,p⟩;have hy:=hl i ys H hi p;by_cases cE:i<z.cps.size
 ·refine .inr {cE,by lia,?_};rintro v H3 ⟨rfl,c,hc,rfl⟩;exact hs i c ys H3 (λfW H'=>∃m',m'<z.cps.size -i/\m'=z.cps.size -(i+1)/\i+1<=z.cps.size/\Pv (i+1) fW H') hc p λfW H' p'=>{_,by lia,rfl,cE,p'}
 ·have e:i=z.cps.size:=by lia
  subst e;exact .inl {rfl,by lia,hd ys H p}
variable{P:Program}{w:World}{A:Around}{E:Aac}{z:Shared}
def vO(g:z.heap.IsTupleIter j p k)(gp:z.heap.IsTuple p aS)(gy:aS[k]?=some y)
  (q:∀h',h'.IsTupleIter j p (k+1)->Heap.SameBut j z.heap h'->Q y {z with heap:=h'}):wpAny (-25) A (Builtin.SmallTypes.nextOf (.ref j)) Q E z:=by
 obtain⟨ob,g0,g1,g2⟩:=id g;obtain⟨op,p0,_,np,p2⟩:=gp;refine ae (wpAny_callSpecial?_slot g.typeIs jT (bp jT g.typeIs uW ?_ (t4 _)));show wpAny _ _ (field (.ref j) 0>>=_) _ _ z;refine ae (bK g0 g2 rfl ?_);refine ae (bK g0 g2 rfl ?_);refine ae (cu p0 p2 ?_);simp only[da,gy];exact ae (fN g0 g2 (-8) (ag {y,rfl,ag (q _ ({_,cD _ g0 (zH (oH g2 _)),(Dz ..).trans g1,by rw[oH g2];simp[rawInt]}) (bN ..))}))
def zb(hd:A.handled=none)(g:z.heap.IsTupleIter j p k)(gp:z.heap.IsTuple p aS)(gy:aS[k]?=none)
  (q:∀h' e,Heap.ExtBut j z.heap h'->(∃o,h'.get? e=some o/\o.cls=.type "StopIteration")->E (.ref e) {z with heap:=h'}):wpAny (-25) A (Builtin.SmallTypes.nextOf (.ref j)) Q E z:=by
 obtain⟨ob,g0,g1,g2⟩:=id g;obtain⟨op,p0,_,np,p2⟩:=gp;refine ae (wpAny_callSpecial?_slot g.typeIs jT (bp jT g.typeIs uW ?_ (t4 _)));show wpAny _ _ (field (.ref j) 0>>=_) _ _ z;refine ae (bK g0 g2 rfl ?_);refine ae (bK g0 g2 rfl ?_);refine ae (cu p0 p2 ?_);simp only[da,gy];refine ae (fE (ae (fN g0 g2 (-8) ?_)));refine ae ?_;refine ae (bX ?_ (by size_fits));refine ae (DE (by first|rfl|(simp only[firstArgMember];rfl)) ?_);refine bX ?_ (by size_fits);refine ae (wpAny_handled ?_)
 first|rw[show A.in1.handled=none from hd]|rw[hd]
 exact ae (ag (wpAny_throw (q _ _ (((bN ..).extBut.push _).push _) {_,aE _ rfl,rfl})))
end
section
variable{X:Cx}{pins:Aaa}{Z:St}{H:Hp}{s:Shared}{h':Heap}
def Inv.YW(I:Inv X pins Z H s)(k:∀b o,b≠e->b≠j->s.heap.get? b=some o->h'.get? b=some o)(fe:qH X pins H e)(fj:qH X pins H j)
  (hp:s.heap.objs.size<=p) (ht:IsTup h' p us.toArray/\∃o,h'.get? p=some o/\o.dict=none) (r:Vals xs us) (hz:xs.length<=sizeLine):Inv X pins Z (upd H p (.tup xs)) {s with heap:=h',toks:=t'}:=by
 have hn:=I.bj.fresh hp;have fp:=I.u7 hp hn;have nH:∀b u,H b=some u->b≠e/\b≠j/\b≠p:=λb u g=>{(λz=>by rw[z,fe.1]at g;cases g),(λz=>by rw[z,fj.1]at g;cases g),λz=>by rw[z,hn]at g;cases g};refine I.step (ch:=[e,j,p]) (λb hb=>?_) (λb o _ _ hc g _=>k b o (-74) (-74) g) (λb o _ _ hc g _=>{o.slots,k b o (-74) (-74) g})
  (λb o hc g n=>by rw[ay λz=>hc (by simp[z])];exact n) (λb o hc g=>{o,k b o (-74) (-74) g})
  (λb ys g=>by rw[ay (nH b _ g).2.2];exact g) (λb o u g=>by rw[ay (nH b _ g).2.2];exact g) (λb ps g=>{#[],by rw[ay (nH b _ g).2.2,g];simp}) (λm hm=>?_) (λb u g=>?_) I.bare
 ·have kD:b=e\/b=j\/b=p:=by simpa using hb
  rcases kD with rfl|rfl|rfl
  ·exact{fe.2.2.2.1,fe.2.1,fe.2.2.2.2.1,fe.2.2.2.2.2}
  ·exact{fj.2.2.2.1,fj.2.1,fj.2.2.2.2.1,fj.2.2.2.2.2}
  ·exact{fp.2.2.2.1,fp.2.1,fp.2.2.2.2.1,fp.2.2.2.2.2}
 ·obtain⟨o,es,ep,ho,r'⟩:=hm;exact{o,es,ep,k _ o (cB fe.2.1) (cB fj.2.1) ho,r'}
 ·by_cases hb:b=p
  ·subst hb;rw[au]at g;cases g;exact⟨hz,us,r,ht⟩
  ·rw[ay hb]at g;refine(I.bj b u g).kJ (λc v hc q=>?_) (λc q=>?_) λc ys q=>?_
   ·rcases hc with z|z
    ·rw[z];rw[z]at q;exact k b v (nH b _ g).1 (nH b _ g).2.1 q
    ·exact k c v (nH c _ z).1 (nH c _ z).2.1 q
   ·rw[ay (nH c _ q).2.2];exact q
   ·rw[ay (nH c _ q).2.2];exact q
def TB{D:Addr->Prop}{E:Aac}{e j:Addr}{fp:Aah}{n i:Nat}{Pv:Nat->Value->Prop}{St':Nat->Heap->Prop}{old:Value}{elts:List Expr}{kk:Nat}{ps:Pos}{y:V}
  (W:Draws X.prog X.w X.A.in1 j fp n Pv St') (he:IsEnum s.heap e j i old) (st:St' i s.heap) (hi:i<n) (iU:e≠j) (hef:e∉fp) (I:Inv X pins Z H s) (fe:qH X pins H e) (fj:qH X pins H j) (hP:∀u,Pv i u->RelV y u):
  wpAny (-6) X.A (pyNext (.ref e)) (λr s1=>∃u,r=some u/\
   wpAny (-6) X.A (letOwnedTupleGo (.Tuple elts kk ps) (.ref e) u) (λ_ s2=>∃p,u=.ref p/\H p=none/\Inv X pins Z (upd H p (.tup [.int i,y])) s2/\(∃aeb,IsEnum s2.heap e j ((i:Int)+1) aeb)/\St' (i+1) s2.heap/\e≠p/\j≠p) E s1) E s:=by
 refine wpAny_pyNext_enum_itemD W he st hi iU hef λx h1 tk hx ho st1 hT hsz hk=>?_;refine{_,rfl,wpAny_letOwnedTupleGo_enum ho λh2 F4 ma=>?_};have Ot:=aF he;have jY:j<s.heap.objs.size:=by obtain⟨o,z⟩:=W.live _ _ st;exact aF z
 have P4:=ma;exact{s.heap.objs.size,rfl,I.bj.fresh (ak _),I.YW (λb o n1 n2 g=>P4.extBut b o n1 (hk b o n1 n2 g)) fe fj (ak _) ({{_,P4.extBut _ _ (bD Ot) hT,rfl,_,rfl},_,P4.extBut _ _ (bD Ot) hT,rfl}) (.cons ⟨tk,rfl⟩ (.cons (hP x hx) .nil)) (-17),⟨_,F4⟩,W.frame _ _ _ st1 λb hb o g=>P4.extBut b o (λz=>hef (z▸hb)) g,aI Ot,aI jY}
end
def Ite(K:Frag)(a:Addr):It:=
 {λi H=>∃xs x,aY K H a xs/\xs[i]?=some x,λi H x H'=>∃p y,x=.ref p/\H p=none/\H'=upd H p (.tup [.int i,y])/\∀xs,aY K H a xs->xs[i]?=some y,λi H=>∃xs,aY K H a xs/\xs.length=i}
def Uc{h:Heap}(e:h.get? a=some o)(e':h.get? b=some o')(n:o.cls≠o'.cls):a≠b:=λz=>by rw[z,e']at e;cases e;exact n rfl
def QT{K:Frag}(a e j:Addr):Turn P w K (.Tuple elts kk ps) (Ite K a) [e,j] e (λi h=>(∃old,IsEnum h e j i old)/\h.IsListIter j a i/\e≠j) where
 mem:=by simp
 obj:=λi h st b hb=>by
  obtain⟨⟨old,he⟩,⟨o,g,c,d⟩,_⟩:=st;rcases(by simpa using hb)with rfl|rfl
  ·exact{_,he,λv z=>by cases z}
  ·exact{o,g,λv z=>by rw[d]at z;cases z}
 keep:=λi h h' st k=>by obtain⟨⟨old,he⟩,⟨o,g,r⟩,n⟩:=st;exact{{old,k e (-8) _ he},{o,k j (-8) o g,r},n}
 item:=by
  intro X hP hw hK hc i pins s Z H E I hf st hg;subst hP hw hK;obtain⟨xs,x,hq,hx⟩:=hg;obtain⟨aS,rv,pl,hz⟩:=I.list hq;obtain⟨⟨old,he⟩,hj,iU⟩:=st;have hl:=rv.length;have hil:=(aq.mp hx).1;obtain⟨o0,g0,c0,_⟩:=id pl.isList;obtain⟨o1,g1,c1,_⟩:=id hj;have W:=Draws.list (prog:=X.prog) (w:=X.w) (show X.A.in1.handled=none from I.ok.hd hc) j a (Uc g0 g1 (by rw[c0,c1];decide)) aS.toArray;refine iR (TB (D:=λ_=>True) (y:=x) W he {hj,pl.isList} (by rw[aN];lia) iU (by simp[iU,(Uc g0 he (by rw[c0];show Value.type "list"≠Value.type "enumerate";decide)).symm]) I (hf e (-8)) (hf j (-8)) λu hu=>?_) λr s1 ⟨u,er,h1⟩=>{u,er,iR h1 λ_ s2 ⟨p,eu,hp,I2,F4,rA,n1,n2⟩=>?_}
  ·obtain⟨u',qO,ru⟩:=rv.get hx;have D6:aS[i]?=some u:=by simpa using hu
   rw[D6]at qO;cases qO;exact ru
  ·subst eu;refine{.ref p,_,I2,rfl,{p,x,rfl,hp,rfl,λys hy=>by rw[I.EL hy hq];exact hx},{F4,rA.1,iU},λb hb=>?_};rcases(by simpa using hb)with rfl|rfl
   ·rw[ay n1];exact(hf b (-8)).1
   ·rw[ay n2];exact(hf b (-8)).1
 done:=by intro X hP hw hK hc i pins s Z H E I hf st hg;subst hP hw hK;obtain⟨xs,hq,hx⟩:=hg;obtain⟨aS,rv,pl,hz⟩:=I.list hq;obtain⟨⟨old,he⟩,hj,iU⟩:=st;have hl:=rv.length;obtain⟨f0,f1,f2,f3,f4,f5⟩:=hf j (-8);exact wpAny_pyNext_enum_end (I.ok.hd hc) he hj pl.isList (by simp;lia) λh' eb=>{rfl,I.turned (λb o hb g=>eb b o hb g) f0 f1 f3 f4 f5}
 self:=λ_ _ _ _ _ st h=>by obtain⟨⟨old,he⟩,_⟩:=st;exact Dg he h
section
variable{X:Cx}{elts:List Expr}{kk:Nat}{ps:Pos}
inductive abQ(K:Frag)(R:It->Hp->Prop)(vs:Aam)(H1:Hp):Prop
 |mk a (_:vs=[.ref a]) (_:(∃xs,aY K H1 a xs)) (_:R (Ite K a) H1)
def adq(K:Frag)(ta:TA):TI:=λZ H R=>ta Z H λvs H1=>abQ K R vs H1
def Z0(I:Inv X pins Z H s):∀b∈[s.heap.objs.size+1,s.heap.objs.size],qH X pins H b:=λb hb=>by
 rcases(by simpa using hb)with rfl|rfl
 ·exact I.u7 (dZ _) (I.bj.fresh (dZ _))
 ·exact I.u7 (ak _) (-72)
def NM(hg:Gl X "enumerate")(hm:X.mg "enumerate"=none)(ha:PA X [a] ta)(hs:starEach [a] X.env=[(false,eval a X.env)]:=by rfl):PI X (.Tuple elts kk ps) (.Call (.Name "enumerate" p) [a] [] pos) (adq X.K ta):=by intro pins s Z H R I h;refine Gx (rR I hg hm boot_enumerate (eB (-53) hs rfl));obtain⟨l,e,⟨xs,hq⟩,q⟩:=q1;subst e;obtain⟨u,rfl,ru⟩:=jy r1;cases ru;obtain⟨aS,rv,pl,hz⟩:=I1.list hq;refine call_enumerate_list pl.isList λh' he hj _ hk=>?_;refine Dg he ?_;exact{_,_,_,_,H1,rfl,(I1.kept (t':=s1.toks) hk),QT l _ s1.heap.objs.size,{⟨_,he⟩,hj,Nat.succ_ne_self _},Z0 I1,q}
def LS{K:Frag}{g:TG}{tb:TS}{D:Ends}(Pv:Nat->St->Hp->Prop)(h0:Pv 0 Z H)(hl:∀i Z H,i<=xs.length->Pv i Z H->aY K H a xs)
  (hs:∀i x p Z H,xs[i]?=some x->Pv i Z H->H p=none->g (.ref p) Z (upd H p (.tup [.int i,x])) λσ2 H2=>tb {D with nx:=Pv (i+1),ct:=Pv (i+1),bk:=D.nx} σ2 H2) (hd:∀Z H,Pv xs.length Z H->D.nx Z H):tZ (Ite K a) g tb D Z H:=by
 refine zw Pv h0 (λi Z H hi p=>?_) λZ H p=>{{xs,hl _ Z H (ak _) p,rfl},hd Z H p};have q:=hl i Z H (bo hi) p;refine{{xs,_,q,ao hi},?_};rintro x H' ⟨r,z,rfl,hr,rfl,y⟩;exact hs i z r Z H (y xs q) p hr
def Jk(j:Nat)(t:TE):TS:=λD Z H=>t Z H λv H1=>D.nx (Z.set j (some v)) H1
variable{K:Frag}
def UZ(h:X.K=K:=by rfl):Ut X (Pc K):=h▸Ny
theorem Paired.at':∀{aad:List α}{aac:List β}{i:Nat}{x:α},Paired F aad aac->aad[i]?=some x->∃y,aac[i]?=some y/\F x y
 |_,_,_,_,.nil,e=>by simp at e
 |_,_,0,_,.cons r _,e=>by simp at e;subst e;exact⟨_,rfl,r⟩
 |_,_,i+1,x,.cons _ t,e=>by obtain⟨y,h1,h2⟩:=Paired.at' (i:=i) (x:=x) t (by simpa using e);exact{y,by simpa using h1,h2}
def AE:entryFor table "dict.update.loop"=some Builtin.«dict.update.loop»:=entryFor_of_tree (by kernel_rfl)
variable{prog:Program}{w:World}{A:Around}{s:Shared}{R:Result->Shared->Prop}
theorem Qy(Iv:Nat->Shared->Prop)
  (turn:∀n z,Iv n z->wpAny (-5) A (pyNext it) (λr z1=>match r with
   |none=>R (.ok .next) z1
   |some v=>wpAny (-5) A (letOwnedTupleGo tg it v) (λ_ y2=>wpAny (-5) A (assign tg env v) (λ_ z2=>
     wpAny (-5) A (forIn ifs true λc r=>if r=true then do let ok<-isTrue c env (eval c env);pure (ForInStep.yield ok)else pure (ForInStep.yield r)) (λok z3=>
      if ok=true then wpAny (-5) A (eval elt env) (λx z4=>
       wpAny (-5) A (call (.builtin "list.append") [acc,x]) (λ_ z5=>∃m,m<n/\Iv m z5) (notedBy (-5) A env λe z'=>R (.error e) z') z4) (notedBy (-5) A env λe z'=>R (.error e) z') z3
      else∃m,m<n/\Iv m z3) (notedBy (-5) A env λe z'=>R (.error e) z') z2) (notedBy (-5) A env λe z'=>R (.error e) z') y2) (notedBy (-5) A env λe z'=>R (.error e) z') z1) (notedBy (-5) A env λe z'=>R (.error e) z') z)
  (n:Nat) (h:Iv n s):codeAny (-5) A (.compLoop (-29) 0 it acc env) R s:=by
 refine codeAny_loop rfl Iv (λn z hI=>?_) n h;refine wpAny_noted ?_;refine ae (uX (ae (dh (turn n z hI) (λr z1 q1=>?_) λ_ _ q=>q)));cases r with
 |none=>exact ag q1
 |some v=>
  refine ae (dh q1 (λ_ z2 q3=>ae (dh q3 (λ_ z3 q4=>ae (dh q4 (λok z4 q5=>?_) λ_ _ q=>q)) λ_ _ q=>q)) λ_ _ q=>q);cases ok with
  |false=>exact ag ⟨rfl,q5⟩
  |true=>exact ae (ae (dh q5 (λx z5 q6=>ae (dh q6 (λ_ z6 q7=>ag (ag ⟨rfl,q7⟩)) λ_ _ q=>q)) λ_ _ q=>q))
end
structure t5(X:Cx)(scope:Scope)(x:Str)(more fs:Aaf)(fr:List Nat):Prop where
 one:sJ X scope x fs fr
 NZ:(x::more++fs).Nodup
def ux(wi:TI)(k:Nat)(fr:List Nat)(g:TG)(tt:TT)(te:TE):TE:=λZ H Q=>wi Z H λJ H1=>∃W:Nat->Nat->Aam->Hp->Prop,(∃m,W 0 m [] H1)/\∀i m ys H2,W i m ys H2->
 (J.stop i H2/\ys.length<=sizeLine/\∀l,H2 l=none->Q (.ref l) (upd H2 l (-39)))\/
 (J.go i H2/\ys.length<sizeLine/\∀v H3,J.Hw i H2 v H3->∀own:St,own.length=k->g v (own++slotsOf fr Z) H3 λσ4 H4=>∃KN,σ4=KN++slotsOf fr Z/\KN.length=k/\tt σ4 H4 λb H5=>
  if b=true then te σ4 H5 (λy H6=>∃m',m'<m/\W (i+1) m' (ys++[y]) H6)else∃m',m'<m/\W (i+1) m' ys H5)
section
variable{X:Cx}
def Ar(N2:Aaf)(h:(d5 X N1 scope C s H ex).Ok):(d5 X N2 scope C s H ex).Ok:=
 {h.mod,h.kind,h.glob,h.blt,h.above,h.inj,h.has,h.OK,h.hd,h.frames,h.QY,h.Tv,h.bs,h.Em,h.GZ,h.EX,h.tN,h.IL}
def TZ(S:t5 X scope x more fs fr)(I3:Inv X pins Z H s)
  (ok:(d5 X (x::fs) scope s.heap.objs.size s H ex).Ok) (hn:h4.Ns s.heap.objs.size m) (old:∀b o,s.heap.get? b=some o->h4.get? b=some o):
  Inv (d5 X (x::more++fs) scope s.heap.objs.size s H ex) [] (List.replicate (more.length+1) none++slotsOf fr Z) H {s with heap:=h4,toks:=t}:=by
 have J:=WG (t:=t) S.one I3 ok hn old;refine{Ar _ J.ok,J.os,J.bare,J.base,?_,J.cell,J.free,J.oV,J.pin,J.bj,?_}
 ·obtain⟨m1,hn1,hl⟩:=J.loc;refine{m1,hn1,λi y v e1 e2 e3=>?_};by_cases hi:i<more.length+1
  ·have e2:=e2;rw[cN (jM▸hi),xk,aG hi]at e2;cases e2
  ·obtain⟨j,rfl⟩:∃j,i=more.length+1+j:={i -(more.length+1),by lia};rw[bU (by rw[jM];lia),jM,kL]at e2;rw[bU (by rw[bA];lia),bA,kL]at e1;exact hl (j+1) y v (-56) (-73) e3
 ·show(List.replicate (more.length+1) none++slotsOf fr Z).length=((x::more)++fs).length;simp[slotsOf,S.one.len];lia
def IS{elt iter tg:Expr}{x:Str}{more:Aaf}{g:TG}{ifs:List Expr}{scope:Scope}{pos:Pos}{wi:TI}{fs:Aaf}{fr:List Nat}{tt:TT}{te:TE}{use:Option (Value->Sem Unit)}{R:Aac}{pins:Aaa}{s:Shared}{Z:St}{H:Hp}{Q:VK}{Kv:Pos}(hc:X.calm=true)(ST:t5 X scope x more fs fr)(hi:PI X tg iter wi)(hg:∀C s H ex,PG (-16) tg g)
  (ht:∀C s H ex,CT (-16) ifs tt) (he:∀C s H ex,PE (-16) elt te) (hs:∀z,foldedSetIterable iter X.env z=pure z)
  (I:Inv X pins Z H s) (h:ux wi (more.length+1) fr g tt te Z H Q)
  (afg:∀(D C:Addr)(s':Shared)(H':Hp)(ys:Aam)(vs:Aae)(k:Nat)(m:Aab),Inv X pins Z H' s'->D<C->X.aab.heap.objs.size<=D->X.env.locals<D->(∀y c,X.env.cells.lookup y=some c->c<D)->(∀p∈X.pn++pins,p.1<D)->
   s'.heap.get? D=some (lobj vs k)->H' D=none->H' C=none->s'.heap.Ns C m->Vals ys vs->ys.length<=sizeLine->(∀l,H' l=none->Q (.ref l) (upd H' l (-39)))->compPost (-6) X.A X.xe use R (.ref D) C (.ok .next) s'):
  wpAny (-6) X.A (comprehension (-29) scope X.env Kv (newList []) false (eval iter X.env) use) R X.xe s:=by
 have S:=ST.one;refine wpAny_comprehension_free (use:=use) rfl hs (Gq λn hn=>I.ok.has n (.inl (S.free n hn).1)) S.kind S.names ?_;refine iR (hi pins s Z H _ I h) λv s1 h1=>iR h1 λitv s2 h2=>?_;obtain⟨it,fp,tn,J,H2,e,I2,T,rA,f2,W,⟨m0,w0⟩,turn⟩:=h2;subst e;have cE:∀b∈fp,b<s2.heap.objs.size:=λb hb=>by obtain⟨o,e,_⟩:=T.obj 0 _ rA b hb;exact aF e
 refine bX (wpAny_newFunctionEnv S.RW (by intro y hy;simp at hy) (λh4 V8 V0=>?_) S.kind);dsimp only at V8 V0⊢;generalize hH3:s2.heap.push {cls:=.type "list",dict:=none,data:=.seq ([]:Aae).toArray}=g3 at V8 V0⊢;have hC:g3.objs.size=s2.heap.objs.size+1:=by rw[<-hH3,cJ]
 have GX:∀b o,s2.heap.get? b=some o->g3.get? b=some o:=λb o e=>hH3▸ah _ e;have I3:Inv X pins Z H2 {s2 with heap:=g3}:=I2.kept (t':=s2.toks) GX;have afG:g3.get? s2.heap.objs.size=some (lobj [] 0):=hH3▸aE _ rfl;have Vw:∀b o,g3.get? b=some o->h4.get? b=some o:=λb o e=>V0.extBut b o (aI (aF e)) (ah _ e);have RS:=Z9 (s:={s2 with heap:=g3}) (D:=s2.heap.objs.size) (fp:=fp) S I2 I3 rfl hC cE f2;have ok:=Ar (x::more++fs) RS;have I4:=TZ (t:=s2.toks+([]:List (Str×Value)).length) ST I3 RS V8 Vw;have Yv:=ok.Tv s2.heap.objs.size aA;have dnf:=ok.EX s2.heap.objs.size aA;have Wq:∀{H':Hp}{vs:Aae}{k:Nat},(∀b∈fp,H' b=none)->∀b∈fp,qH (-7) [(s2.heap.objs.size,lobj vs k)] H' b:=λ{H' vs k} hn b hb=>by
  have q:=ok.Tv b (aB _ hb);refine{hn b hb,q.1,ok.EX b (aB _ hb),.inl (aB _ hb),q.2,λp hp=>?_};have e:p=(s2.heap.objs.size,lobj vs k):=by simpa using hp
  rw[e];exact bD (cE b hb)
 have start:Inv (-7) [(s2.heap.objs.size,lobj [] 0)] (List.replicate (more.length+1) none++slotsOf fr Z) H2 {s2 with heap:=h4,toks:=s2.toks+([]:List (Str×Value)).length}:=
  I4.yY λp hp=>by
   have e:p=(s2.heap.objs.size,lobj [] 0):=by simpa using hp
   subst e;exact{Vw _ _ afG,I2.bj.fresh (ak _),Yv.1,dnf,λv z=>by cases z}
 have stn:tn 0 h4:=T.keep 0 _ _ rA λb _ o e=>Vw b o (GX b o e);have fin:∀{i:Nat}{σ0:St}{H':Hp}{ys:Aam}{vs:Aae}{k:Nat}{s':Shared},Inv (-7) [(s2.heap.objs.size,lobj vs k)] (σ0++slotsOf fr Z) H' s'->Vals ys vs->ys.length<=sizeLine->
   (∀l,H' l=none->Q (.ref l) (upd H' l (-39)))->compPost (-6) X.A X.xe use R (.ref s2.heap.objs.size) g3.objs.size (.ok .next) s':=by
  intro i σ0 H' ys vs k s' J1 rv hz q;obtain⟨m,hn,_⟩:=id J1.loc;have below:∀y c,X.env.cells.lookup y=some c->c<s2.heap.objs.size:=λy c z=>by obtain⟨v,q⟩:=I2.cell y c z;exact q.lt
  have uC:∀p∈X.pn++pins,p.1<s2.heap.objs.size:=λp hp=>aF (I2.pin p hp).1;have I5:Inv X pins Z H' s':=I3.adP (ch:=s2.heap.objs.size::fp) J1.os J1.base J1.bj J1.bare λb hb=>by
   rcases aH.mp hb with e|hb
   ·rw[e];exact{.inr I2.sz,bD I2.lt,λy c z=>aI (below y c z),λp hp=>aI (uC p hp)}
   ·exact{(f2 b hb).2.2.2.1,(f2 b hb).2.1,(f2 b hb).2.2.2.2.1,(f2 b hb).2.2.2.2.2}
  have we:s2.heap.objs.size<g3.objs.size:=by(first|lia|omega)
  obtain⟨eD,nD,_⟩:=J1.pin (s2.heap.objs.size,lobj vs k) (-8);exact afg _ _ s' H' ys vs k m I5 we I2.sz I2.lt below uC eD nD J1.free hn rv hz q
 have loop:∀s4:Shared,s4={s2 with heap:=h4,toks:=s2.toks+([]:List (Str×Value)).length}->
   codeAny (-6) X.A (.compLoop (-29) 0 (.ref it) (.ref s2.heap.objs.size) (compEnvC scope (E4 scope X.env) g3.objs.size X.env))
    (compPost (-6) X.A X.xe use R (.ref s2.heap.objs.size) g3.objs.size) s4:=by
  rintro s4 rfl;refine Qy (λn s'=>∃i σ0 H' ys vs k,σ0.length=more.length+1/\Inv (-7) [(s2.heap.objs.size,lobj vs k)] (σ0++slotsOf fr Z) H' s'/\tn i s'.heap/\(∀b∈fp,H' b=none)/\Vals ys vs/\W i n ys H') ?_ m0
   {0,List.replicate (more.length+1) none,H2,[],[],0,jM,start,stn,λb hb=>(f2 b hb).1,.nil,w0}
  rintro n s' ⟨i,σ0,H',ys,vs,k,h0,J1,st,fr1,rv,w1⟩;rcases turn i n ys H' w1 with⟨stop,hz,q⟩|⟨go,hz,step⟩
  ·refine iR (T.done (-7) rfl rfl rfl hc i _ s' _ H' _ J1 (Wq fr1) st stop) λr s5 aeE=>?_;obtain⟨hr,J2⟩:=aeE;subst hr;exact fin (i:=i) J2 rv hz q
  ·refine iR (T.item (-7) rfl rfl rfl hc i _ s' _ H' _ J1 (Wq fr1) st go) λr s5 aeD=>?_;obtain⟨u,hr,h5⟩:=aeD;subst hr;refine iR h5 λ_ s6 aeC=>?_;obtain⟨v,H6,J6,r6,y6,m8,fr6⟩:=aeC;have J6':=J6.pinned (fp:=fp) (Wq fr6) (T.obj _ _ m8);refine dh (hg _ _ _ _ _ s6 _ H6 v u _ J6' r6 (step v H6 y6 σ0 h0)) (λ_ s7 aeB=>?_) (λ_ _ z=>z.elim);obtain⟨σ7,H7,J7,own,e7,l7,q7⟩:=aeB;subst e7;have pfp:∀{σ8:St}{H8:Hp}{s8:Shared},Inv (-7) ([(s2.heap.objs.size,lobj vs k)]++BR fp s6.heap) σ8 H8 s8->
     tn (i+1) s8.heap/\∀b∈fp,H8 b=none:=λ{σ8 H8 s8} J8=>by
    refine{T.keep _ _ _ m8 λb hb o e=>(J8.pin (b,o) (bY _ (bY _ (vP hb e)))).1,λb hb=>?_};obtain⟨o,e,d⟩:=T.obj _ _ m8 b hb;exact(J8.pin (b,o) (bY _ (bY _ (vP hb e)))).2.1
   refine dh (ht _ _ _ _ _ s7 _ H7 _ J7 q7) (λok8 s8 aeA=>?_) (λ_ _ z=>z.elim);obtain⟨H8,J8,q8⟩:=aeA;cases ok8 with
   |false=>
    rw[aw bu]at q8;rw[aw bu];obtain⟨m',hm,w8⟩:=q8;obtain⟨t8,n8⟩:=pfp J8;exact{m',hm,i+1,own,H8,ys,vs,k,l7,J8.zS,t8,n8,rv,w8}
   |true=>
    rw[aG rfl]at q8;rw[aG rfl];refine dh (he _ _ _ _ _ s8 _ H8 _ J8 q8) (λy s9 aez=>?_) (λ_ _ z=>z.elim);obtain⟨yv,H9,J9,r9,m',hm,w9⟩:=aez;obtain⟨t9,n9⟩:=pfp J9;obtain⟨eD,nD,_⟩:=J9.pin (s2.heap.objs.size,lobj vs k) (-8);have hl:=rv.length;refine vU CQ ⟨_,eD,rfl⟩ Br (A5 _ _) (Dw s2.heap.objs.size vs.toArray k y (by rw[aN];(first|lia|omega))) {eD,?_};have eN:=PySem.IsL.update (h:=s9.heap) (l:=s2.heap.objs.size) (items:=vs.toArray) (n:=k) eD (·.push y);have eV:vs.toArray.push y=(vs++[y]).toArray:=by simp
    rw[eV]at eN;obtain⟨k',eN⟩:∃k',(s9.heap.update s2.heap.objs.size (Obj.mapSeq (·.push y))).get? s2.heap.objs.size=some (lobj (vs++[y]) k'):=⟨_,eN⟩;have K9:Inv (-7) [] (own++slotsOf fr Z) H9 s9:=J9.yY λp hp=>absurd hp (-8);have YD:Inv (-7) [] (own++slotsOf fr Z) H9 {s9 with heap:=s9.heap.update s2.heap.objs.size (Obj.mapSeq (·.push y))}:=
     K9.turned (t':=s9.toks) (it:=s2.heap.objs.size) (λb o hb e=>(bT s9.heap (Obj.mapSeq (·.push y)) (cB hb)).trans e) nD Yv.1 (.inl aA) Yv.2 (λp hp=>absurd hp (-8))
    refine{m',hm,i+1,own,H9,ys++[yv],vs++[y],k',l7,YD.yY λp hp=>?_,T.keep _ _ _ t9 λb hb o e=>(bT s9.heap (Obj.mapSeq (·.push y)) (bD (cE b hb))).trans e,n9,rv.append (.cons r9 .nil),w9};have e:p=(s2.heap.objs.size,lobj (vs++[y]) k'):=ax.mp hp;rw[e];exact{eN,nD,Yv.1,dnf,λv z=>by cases z}
 exact codeAny_compStart_list (loop _ rfl) (T.self X.A 0 _ _ _ stn (loop _ rfl))
def Ia(hc:X.calm=true)(ST:t5 X scope x more fs fr)(hi:PI X tg iter wi)(hg:∀C s H ex,PG (-16) tg g)
  (ht:∀C s H ex,CT (-16) ifs tt) (he:∀C s H ex,PE (-16) elt te) (hs:∀z,foldedSetIterable iter X.env z=pure z:=by intro _;rfl):
  PE X (-29) (ux wi (more.length+1) fr g tt te):=by
 intro pins s Z H Q I h;rw[eval_ListComp];refine IS hc ST hi hg ht he hs I h ?_;intro D C s' H' ys vs k m I5 we lo lt below uC eD nD nC hn rv hz q;refine{m,hn,λh' sb=>?_};have I6:Inv X pins Z H' {s' with heap:=h'}:=I5.turned (t':=s'.toks) (it:=C) (λb o hb e=>sb.extBut b o hb e) nC (bD (gH lt we)) (.inr (bo (cU lo we))) (λy c z=>aI (gH (below y c z) we)) (λp hp=>aI (gH (uC p hp) we));have eD':h'.get? D=some (lobj vs k):=sb.extBut _ _ (aI we) eD;exact{.ref D,_,I6.adopt nD eD' rv hz lo (bD lt) (λy c z=>aI (below y c z)) (λp hp=>aI (uC p hp)),rfl,q _ nD}
def BP{elt iter tg:Expr}{x y:Str}{py zW:Pos}{j:Nat}{more:Aaf}{g:TG}{ifs:List Expr}{scope:Scope}{pos:Pos}{wi:TI}{fs:Aaf}{fr:List Nat}{tt:TT}{te:TE}(hN:X.N.Nodup)(hj:X.N[j]?=some y)(hy:X.env.scope.names.lookup y=some .local)(hc:X.calm=true)(ST:t5 X scope x more fs fr)(hi:PI X tg iter wi)(hg:∀C s H ex,PG (-16) tg g)
  (ht:∀C s H ex,CT (-16) ifs tt) (he:∀C s H ex,PE (-16) elt te) (hs:∀z,foldedSetIterable iter X.env z=pure z:=by intro _;rfl)
  (Lu:swapsWith (-29) (some (.Name y py)) zW.line X.env=pure true:=by rfl):PS X (.Assign [.Name y py] (-29) zW) (Jk j (ux wi (more.length+1) fr g tt te)):=by
 intro pins s Z H D I h;obtain⟨Q,eQ⟩:∃Q:VK,Q=λv H1=>D.nx (Z.set j (some v)) H1:=⟨_,rfl⟩;have h:ux wi (more.length+1) fr g tt te Z H Q:=by rw[eQ];exact h
 have S:=ST.one;rw[exec_Assign_Name_used _ _ _ _ Lu];refine ae (uX (ae ?_));show wpAny _ _ (comprehension (-29) scope X.env _ (newList []) false (eval iter X.env) (some (assign (.Name y py) X.env))>>=λ_=>pure ()) _ _ s;refine ae (dh (IS (Q:=Q) (R:=λ_ s'=>SP X pins D .next s') hc ST hi hg ht he hs I h ?_) (λ_ s' hq=>ag (ag hq)) λ_ _ e=>e);intro D1 C s' H' ys vs k m I5 we lo lt below uC eD nD nC hn rv hz q;have I7:=I5.adopt nD eD rv hz lo (bD lt) (λy c z=>aI (below y c z)) (λp hp=>aI (uC p hp));refine Dh (HG (v:=.ref D1) I7 hN hj (.inl hy) rfl (λs3 I8 vt=>?_) (.inr hy));obtain⟨a,sb,ha⟩:=vt;refine{m,hn.sameBut sb ?_,λh' rF=>?_}
 ·rcases ha with e|e
  ·rw[e];exact bD (gH lt we)
  ·exact bD (gH (below _ _ e) we)
 ·have nC2:upd H' D1 (-39) C=none:=by rw[ay (bD we)];exact nC
  have I9:Inv X pins (Z.set j (some (.ref D1))) (upd H' D1 (-39)) {s3 with heap:=h'}:=I8.turned (t':=s3.toks) (it:=C) (λb o hb e=>rF.extBut b o hb e) nC2 (bD (gH lt we)) (.inr (bo (cU lo we)))
   (λy c z=>aI (gH (below y c z) we)) (λp hp=>aI (gH (uC p hp) we))
  have q':=q _ nD;rw[eQ]at q';exact⟨_,_,I9,q'⟩
def HC(wi:TI)(fr:List Nat)(tt:TT)(te:TE):xu wi fr tt te=ux wi 1 fr (vR 0) tt te:=by
 funext Z H Q;unfold xu ux;congr 1;funext J H1;refine propext (Cj λW=>and_congr_right λ_=>?_);refine fM λi=>fM λm=>fM λys=>fM λH2=>fM λ_=>?_;refine or_congr o6 (and_congr_right λ_=>and_congr_right λ_=>fM λv=>fM λH3=>fM λ_=>?_);constructor
 ·intro h own ho
  match own,ho with
  |[o],_=>exact{[some v],rfl,rfl,h}
 ·intro h;obtain⟨o4,e,l,q⟩:=h [none] rfl;exact q
def KC(hc:X.calm=true)(S:sJ X scope x fs fr)(hi:PI X (.Name x px) iter wi)
  (ht:∀C s H ex,CT (-38) ifs tt) (he:∀C s H ex,PE (-38) elt te) (hs:∀z,foldedSetIterable iter X.env z=pure z:=by intro _;rfl):
  PE X (.ListComp elt [{.Name x px,iter,ifs,0}] scope pos) (xu wi fr tt te):=by
 rw[HC];exact Ia (more:=[]) hc {S,S.nd} hi (λC s H ex=>tK (i:=0) S.nd rfl (Or.inl (kf S.loc)) (.inr (kf S.loc))) ht he hs
def iQ(hc:X.calm=true)(S:sJ X scope x fs fr)(hi:PI X (.Name x px) iter wi)
  (he:∀C s H ex,PE (-38) elt te) (hs:∀z,foldedSetIterable iter X.env z=pure z:=by intro _;rfl):
  PE X (.ListComp elt [{.Name x px,iter,[],0}] scope pos) (xu wi fr CZ te):=KC hc S hi (λ_ _ _ _=>L4) he hs
def nU(hc:X.calm=true)(S:sJ X scope x fs fr)(hi:PI X (.Name x px) iter wi)
  (ht:∀C s H ex,PT (-38) c tc) (he:∀C s H ex,PE (-38) elt te) (hs:∀z,foldedSetIterable iter X.env z=pure z:=by intro _;rfl):
  PE X (.ListComp elt [{.Name x px,iter,[c],0}] scope pos) (xu wi fr tc te):=KC hc S hi (λC s H ex=>TY (ht C s H ex)) he hs
def My(hN:X.N.Nodup)(hj:X.N[j]?=some y)(hy:X.env.scope.names.lookup y=some .local)
  (hc:X.calm=true) (S:sJ X scope x fs fr) (hi:PI X (.Name x px) iter wi)
  (ht:∀C s H ex,CT (-38) ifs tt) (he:∀C s H ex,PE (-38) elt te) (hs:∀z,foldedSetIterable iter X.env z=pure z:=by intro _;rfl)
  (Lu:swapsWith (.ListComp elt [{.Name x px,iter,ifs,0}] scope pos) (some (.Name y py)) zW.line X.env=pure true:=by rfl):
  PS X (.Assign [.Name y py] (.ListComp elt [{.Name x px,iter,ifs,0}] scope pos) zW) (Jk j (xu wi fr tt te)):=by
 rw[HC];exact BP (more:=[]) hN hj hy hc {S,S.nd} hi (λC s H ex=>tK (i:=0) S.nd rfl (Or.inl (kf S.loc)) (.inr (kf S.loc))) ht he hs Lu
def Kq(hN:X.N.Nodup)(hj:X.N[j]?=some y)(hy:X.env.scope.names.lookup y=some .local)
  (hc:X.calm=true) (S:sJ X scope x fs fr) (hi:PI X (.Name x px) iter wi)
  (ht:∀C s H ex,PT (-38) c tc) (he:∀C s H ex,PE (-38) elt te) (hs:∀z,foldedSetIterable iter X.env z=pure z:=by intro _;rfl)
  (Lu:swapsWith (.ListComp elt [{.Name x px,iter,[c],0}] scope pos) (some (.Name y py)) zW.line X.env=pure true:=by rfl):
  PS X (.Assign [.Name y py] (.ListComp elt [{.Name x px,iter,[c],0}] scope pos) zW) (Jk j (xu wi fr tc te)):=My hN hj hy hc S hi (λC s H ex=>TY (ht C s H ex)) he hs Lu
def KA(hc:X.calm=true)(S:t5 X scope x more fs fr)(hi:PI X tg iter wi)(hg:∀C s H ex,PG (-16) tg g)
  (he:∀C s H ex,PE (-16) elt te) (hs:∀z,foldedSetIterable iter X.env z=pure z:=by intro _;rfl):
  PE X (.ListComp elt [{tg,iter,[],0}] scope pos) (ux wi (more.length+1) fr g CZ te):=Ia hc S hi hg (λ_ _ _ _=>L4) he hs
def AI(h:Qx X.env.scope X.N scope x fs fr=true:=by kernel_rfl)(h2:decide (x::more++fs).Nodup=true:=by kernel_rfl):t5 X scope x more fs fr:={df h,aW h2}
def GR{K:Frag}(hc:X.calm=true)(h:Er X es t)(hK:X.K=K:=by rfl)
  (hn:(assignEach es X.env).length=n:=by rfl) (g7:(assignEach es X.env).findIdx? (·.1)=none:=by rfl):PG X (.Tuple es k pos) (Wo K n t):=hK▸nQ hc h hn g7
def tJ(hN:decide X.N.Nodup=true:=by kernel_rfl)(hi:X.N[i]?=some x:=by rfl)(hl:X.env.scope.names.lookup x=some .local:=by first|rfl|exact kf rfl):PG X (.Name x pos) (vR i):=
 tK (aW hN) hi (.inl hl) (.inr hl)
variable{K:Frag}{a:Addr}{xs:Aam}{fr:List Nat}{tt:TT}{te:TE}{Z:St}{H1:Hp}{R:Addr->Aam->Hp->Prop}
abbrev Jv(K:Frag):TG:=Wo K 2 (Qi (vR 0) (Qi (vR 1) acq))
abbrev CS(J:It)(k:Nat)(fr:List Nat)(g:TG)(tt:TT)(te:TE)(Z:St)(H1:Hp)(R:Addr->Aam->Hp->Prop):Prop:=
 ∃W:Nat->Nat->Aam->Hp->Prop,(∃m,W 0 m [] H1)/\∀i m ys H2,W i m ys H2->
 (J.stop i H2/\ys.length<=sizeLine/\∀l,H2 l=none->R l ys H2)\/
 (J.go i H2/\ys.length<sizeLine/\∀v H3,J.Hw i H2 v H3->∀own:St,own.length=k->g v (own++slotsOf fr Z) H3 λσ4 H4=>∃KN,σ4=KN++slotsOf fr Z/\KN.length=k/\tt σ4 H4 λb H5=>
  if b=true then te σ4 H5 (λy H6=>∃m',m'<m/\W (i+1) m' (ys++[y]) H6)else∃m',m'<m/\W (i+1) m' ys H5)
def GV{v a b:V}{own rest:St}(ho:own.length=2)(ev:v=.ref p)(hp:bC K H p [a,b])(h:Q (some a::some b::rest) H):Jv K v (own++rest) H Q:=by
 match own,ho with
 |[o1,o2],_=>exact⟨p,_,ev,hp,rfl,_,_,rfl,_,_,rfl,rfl,h⟩
def Ua(Pv:Nat->Aam->Hp->Prop)(hx:xs.length<sizeLine)(h0:Pv 0 [] H1)(hl:∀i ys H,i<=xs.length->Pv i ys H->bC K H a xs/\ys.length<=i)
  (hs:∀(i:Nat)(x:V)(ys:Aam)(H:Hp)(N:Aam->Hp->Prop),xs[i]?=some x->Pv i ys H->(∀fW H',Pv (i+1) fW H'->N fW H')->
   ∃p b c,x=.ref p/\bC K H p [b,c]/\tt (some b::some c::slotsOf fr Z) H λt H4=>if t=true then te (some b::some c::slotsOf fr Z) H4 (-97)else N ys H4)
  (hd:∀ys H,Pv xs.length ys H->∀l,H l=none->R l ys H):CS (Uy K a) 2 fr (Jv K) tt te Z H1 R:=by
 refine{λi m ys H=>m=xs.length -i/\i<=xs.length/\Pv i ys H,{xs.length,by simp,aQ _,h0},?_};rintro i m ys H ⟨rfl,hi,p⟩;obtain⟨q,hy⟩:=hl i ys H hi p;by_cases cE:i<xs.length
 ·refine .inr {{xs,_,q,ao cE},by lia,?_};rintro v H3 ⟨rfl,hv⟩ own ho;obtain⟨pp,b,c,ev,hp,h⟩:=hs i v ys H3 (λfW H'=>∃m',m'<xs.length -i/\m'=xs.length -(i+1)/\i+1<=xs.length/\Pv (i+1) fW H') (hv xs q) p λfW H' p'=>{_,by lia,rfl,cE,p'};exact GV ho ev hp {[some b,some c],rfl,rfl,h}
 ·have e:i=xs.length:=by lia
  subst e;exact .inl {{xs,q,ak _},by lia,hd ys H p}
def QB(Pv:Nat->Aam->Hp->Prop)(hx:xs.length<sizeLine)(h0:Pv 0 [] H1)(hl:∀i ys H,i<=xs.length->Pv i ys H->aY K H a xs/\ys.length<=i)
  (hs:∀(i:Nat)(x:V)(ys:Aam)(H:Hp)(N:Aam->Hp->Prop),xs[i]?=some x->Pv i ys H->(∀fW H',Pv (i+1) fW H'->N fW H')->
   ∃p b c,x=.ref p/\bC K H p [b,c]/\tt (some b::some c::slotsOf fr Z) H λt H4=>if t=true then te (some b::some c::slotsOf fr Z) H4 (-97)else N ys H4)
  (hd:∀ys H,Pv xs.length ys H->∀l,H l=none->R l ys H):CS (Uz K a) 2 fr (Jv K) tt te Z H1 R:=by
 refine{λi m ys H=>m=xs.length -i/\i<=xs.length/\Pv i ys H,{xs.length,by simp,aQ _,h0},?_};rintro i m ys H ⟨rfl,hi,p⟩;obtain⟨q,hy⟩:=hl i ys H hi p;by_cases cE:i<xs.length
 ·refine .inr {{xs,_,q,ao cE},by lia,?_};rintro v H3 ⟨rfl,hv⟩ own ho;obtain⟨pp,b,c,ev,hp,h⟩:=hs i v ys H3 (λfW H'=>∃m',m'<xs.length -i/\m'=xs.length -(i+1)/\i+1<=xs.length/\Pv (i+1) fW H') (hv xs q) p λfW H' p'=>{_,by lia,rfl,cE,p'};exact GV ho ev hp {[some b,some c],rfl,rfl,h}
 ·have e:i=xs.length:=by lia
  subst e;exact .inl {{xs,q,ak _},by lia,hd ys H p}
end
def uD(a b:Str):Bool:=!decide (b.cps.toList<a.cps.toList)
def C7(a b:Str):uD a b=true↔a.cps.toList<=b.cps.toList:=by unfold uD;rw[DD,xg];exact o6
def Im(a b c:Str)(h1:uD a b=true)(h2:uD b c=true):uD a c=true:=by rw[C7]at*;exact List.le_trans h1 h2
def VO{a b:Str}(h1:uD a b=true)(h2:uD b a=true):a=b:=by rw[C7]at*;exact ext_toList (List.le_antisymm h1 h2)
def Sj(a b:Str):(uD a b||uD b a)=true:=by
 rcases List.le_total a.cps.toList b.cps.toList with h|h
 ·rw[(C7 a b).mpr h,Bool.true_or]
 ·rw[(C7 b a).mpr h,Bool.or_true]
def xx(zs:Aaf):Aaf:=zs.mergeSort uD
def rC(zs:Aaf):(xx zs).Perm zs:=Bo zs uD
def O3(zs:Aaf):(xx zs).Pairwise (λa b=>uD a b=true):=xi Im Sj zs
theorem DL:∀(r:Aaf)(p:Str),risingS p r=true->(p::r).Pairwise (λa b=>uD a b=true)
 |[],p,_=>by simp
 |x::r,p,h=>by
  have h':(!ltCps x.cps.toList p.cps.toList&&risingS x r)=true:=h;rw[cZ]at h';have ih:=DL r x h'.2;have h1:uD p x=true:=by have:=h'.1;rw[ltCps_eq]at this;exact this
  refine kT.mpr {λy hy=>?_,ih};rcases aH.mp hy with rfl|hy
  ·exact h1
  ·exact Im p x y h1 (iw ih hy)
theorem Mq:∀(l:Aaf),sortedS l=true->l.Pairwise (λa b=>uD a b=true)
 |[],_=>.nil
 |x::r,h=>DL r x h
theorem NO:∀{l m:Aaf},l.Perm m->l.Pairwise (λa b=>uD a b=true)->m.Pairwise (λa b=>uD a b=true)->l=m
 |[],m,h,_,_=>(List.nil_perm.mp h).symm
 |a::l,[],h,_,_=>absurd h.length_eq (-8)
 |a::l,b::m,h,h1,h2=>by
  have e:a=b:=by
   rcases aH.mp (h.mem_iff.mp (aA))with e|e
   ·exact e
   ·rcases aH.mp (h.mem_iff.mpr (aA))with q|q
    ·exact q.symm
    ·exact VO (iw h1 q) (iw h2 e)
  subst e;rw[NO (List.perm_cons a|>.mp h) (kT.mp h1).2 (kT.mp h2).2]
def UY{l zs:Aaf}(h:l.Perm zs)(hs:sortedS l=true):l=xx zs:=NO (h.trans (rC zs).symm) (Mq l hs) (O3 zs)
theorem JQ:∀{zs:Aaf}{us:Aae},Vals (-70) us->StrsAre us zs
 |[],_,.nil=>.nil
 |z::r,_,.cons ⟨t,e⟩ h=>by subst e;exact .cons _ _ (JQ h)
theorem JP:∀{zs:Aaf}{us:Aae},StrsAre us zs->Vals (-70) us
 |_,_,.nil=>.nil
 |_,_,.cons y t h=>.cons ⟨t,rfl⟩ (JP h)
section
variable{X:Cx}
inductive Vb(K:Frag)(neg:Bool)(x:V)(y:V)(H:Hp)(Q:VK):Prop
 |mk d ds (_:Dt K H d x) (_:(Dt K H (.tuple ds) y\/Dt K H (.list ds) y)) (_:PyData.canLayAll0 ds=true) (_:d.canLay0=true) (_:d.depth<=60) (_:Q (.bl (if neg then !(ds.any λe=>PyData.eqv e d)else ds.any λe=>PyData.eqv e d)) H)
def RG(hu:X.A.units+64<cLine):jH X (compareOp .NotIn) (Vb X.K true):=by
 intro pins s Z H x y v u Q I rx ry h;obtain⟨d,ds,h1,h2,h3,h4,h5,q⟩:=h;obtain⟨as,r1⟩:=nP I d x v h1 rx;rcases h2 with h2|h2
 ·obtain⟨bs,r2⟩:=nP I _ y u h2 ry;exact SeqAt.notIn_tuple_reads r2 r1 h3 h4 ∅ {.bl _,H,I,rfl,q}
 ·obtain⟨bs,r2⟩:=nP I _ y u h2 ry;exact SeqAt.notIn_list_reads r2 r1 h3 h4 ∅ {.bl _,H,I,rfl,q}
def FH{K:Frag}(hu:X.A.units+64<cLine)(h:X.K=K:=by rfl):jH X (compareOp .NotIn) (Vb K true):=h▸RG hu
def adi(hl:(-80)=true:=by rfl)(hb:attributeBase (.Name d pd) "get" X.env (eval (.Name d pd) X.env)=eval (.Name d pd) X.env:=by rfl):M2 X (.Name d pd) "get" apos (.Name x px) (.Name y py) eU:=⟨hb,rfl,hl,rfl⟩
end
end L2
namespace L2
open PySem PySem.Spec PyProof.Rows PySem.W Builtin Builtin.ObjectAttr
noncomputable def Tw:Aae->Bool
 | .ref _::r=>Tw r
 |l=>l==[.type "ValueError",.type "Exception",.type "BaseException",.type "object"]
structure af1(K:Frag)(C:Addr):Prop where
 ga:findIn K (.ref C) "__getattribute__"=some (some (.builtin "BaseException.__getattribute__"))
 gt:findIn K (.ref C) "__getattr__"=some none
 sa:findIn K (.ref C) "__setattr__"=some (some (.builtin "object.__setattr__"))
 be:mroIn K C (.type "BaseException")=some true
 ob:mroIn K C (.type "object")=some true
 hd:hasDictIn K C=true
 tl:(clsIn K C).any (λcd=>Tw cd.mro)=true
 cl:findIn K (.ref C) "__class__"=some (some (.builtin "object.__class__"))
 cg:specialIn K (.builtin "object.__class__") "__get__"=some (some (.builtin "getset_descriptor.__get__"))
 ct:takesIn K (.builtin "object.__class__")=some true
end L2
namespace L2
open PySem PySem.Spec PyProof.Rows PySem.W
abbrev afv(C:Addr)(dd:Aai)(t:Addr)(tb:Value):Obj:={cls:=.ref C,dict:=dd,data:=.fields #[.ref t,tb,.none,.none,.bool false,.none]}
def afJ(e C:Addr)(dd:Aai):Heap->Prop:=λh=>∃t tb,h.get? e=some (afv C dd t tb)
def gone(H:Hp)(e C:Addr)(dd:Aai):Hp:=upd H e (.ext (afJ e C dd))
abbrev Cx.held(X:Cx)(q:Aaa)(E:Aac):Cx:={X with pn:=q,xe:=E}
section
variable{X:Cx}{K:Frag}
def KD{T id:String}(pa:PlainAttrs T)(slot:Slot T name id)(hty:typeOf (.builtin id)=pure (.type "method_descriptor"))(hm:Uw X id r)(ho:PE X o to)(ha:PA X (e::es) t)
  (F5:attributeBase o name X.env (eval o X.env)=eval o X.env:=by rfl)
  (Wg:((backTo eU (starEach (e::es) X.env)).all (λx=>!x.1)&&(backToKw eU (keywordEach [] X.env)).all (λx=>x.1.isSome)&&decide ((e::es).length+([]:List Keyword).length+(-57)<30))=true:=by rfl)
  (F2:(-80)=true:=by rfl) (hs:starEach (e::es) X.env=(false,eval e X.env)::starEach es X.env:=by rfl) (Ly:(backTo eU (starEach es X.env)).any (·.1)=false:=by rfl) (h:X.K=K:=by rfl):
  PE X (.Call (.Attribute o name apos) (e::es) [] eU) (tBM K T r to t):=h▸oS pa slot hty hm ho ha F5 Wg F2 hs Ly
end
end L2
namespace L2
open PySem PySem.Spec PyProof.Rows
section
variable{X:Cx}
def Mx{elt iter tg:Expr}{x y:Str}{py zW:Pos}{j:Nat}{more:Aaf}{g:TG}{scope:Scope}{pos:Pos}{wi:TI}{fs:Aaf}{fr:List Nat}{te:TE}(hN:X.N.Nodup)(hj:X.N[j]?=some y)(hy:X.env.scope.names.lookup y=some .local)(hc:X.calm=true)(S:t5 X scope x more fs fr)(hi:PI X tg iter wi)(hg:∀C s H ex,PG (-16) tg g)
  (he:∀C s H ex,PE (-16) elt te) (hs:∀z,foldedSetIterable iter X.env z=pure z:=by intro _;rfl)
  (Lu:swapsWith (.ListComp elt [{tg,iter,[],0}] scope pos) (some (.Name y py)) zW.line X.env=pure true:=by rfl):
  PS X (.Assign [.Name y py] (.ListComp elt [{tg,iter,[],0}] scope pos) zW) (Jk j (ux wi (more.length+1) fr g CZ te)):=BP hN hj hy hc S hi hg (λ_ _ _ _=>L4) he hs Lu
variable{P:Program}{w:World}{A:Around}{E:Aac}{v:Shared}
structure Zt(h:Heap)(z ti to i1 i2 l1 l2:Addr)(f:Value)(k:Nat):Prop where
 self:IsZip h z ti to f
 ins:IsPair h ti (.ref i1) (.ref i2)
 outs:∃a b,IsPair h to a b
 w1:h.IsTupleIter i1 l1 k
 w2:h.IsTupleIter i2 l2 k
structure Us(z ti to i1 i2 l1 l2:Addr):Prop where
 KY:ti≠to
 NW:i1≠i2
 nl1:l1≠to
 nl2:l2≠to
def c6{h:Heap}(e:h.get? a=some o)(e':h.get? b=some o')(c:o.cls=.type m)(c':o'.cls=.type n)(d:m≠n):a≠b:=λg=>by rw[g,e']at e;cases e;rw[c]at c';cases c';exact d rfl
def Zt.ne(g:Zt h z ti to i1 i2 l1 l2 f k):(ti≠z/\to≠z/\i1≠z/\i2≠z)/\(ti≠i1/\ti≠i2/\to≠i1/\to≠i2):=by
 obtain⟨gs,gi,⟨a,b,go⟩,⟨o1,q1,c1,_⟩,⟨o2,q2,c2,_⟩⟩:=g;exact{{c6 gi gs rfl rfl (-9),c6 go gs rfl rfl (-9),c6 q1 gs c1 rfl (-9),c6 q2 gs c2 rfl (-9)},
  c6 gi q1 rfl c1 (-9),c6 gi q2 rfl c2 (-9),c6 go q1 rfl c1 (-9),c6 go q2 rfl c2 (-9)}
def tup_ne(g:Zt h z ti to i1 i2 l1 l2 f k)(t:h.IsTuple l xs):l≠z/\l≠i1/\l≠i2:=by obtain⟨gs,_,_,⟨o1,q1,c1,_⟩,⟨o2,q2,c2,_⟩⟩:=g;obtain⟨o,q,c,_⟩:=t;exact{c6 q gs c rfl (-9),c6 q q1 c c1 (-9),c6 q q2 c c2 (-9)}
def jB(g:h.IsTupleIter j p k)(s:Heap.SameBut b h h')(n:j≠b):h'.IsTupleIter j p k:=by obtain⟨o,q,r⟩:=g;exact{o,s.extBut _ _ n q,r}
def oQ(g:h.IsTuple l xs)(s:Heap.SameBut b h h')(n:l≠b):h'.IsTuple l xs:=by obtain⟨o,q,r⟩:=g;exact{o,s.extBut _ _ n q,r}
def An(g:IsPair v.heap t a b)
  (q:∀h',h'.get? t=some {cls:=.type "tuple",data:=.seq ((#[a,b]:Aaj).setIfInBounds k x)}->Heap.SameBut t v.heap h'->Q () {v with heap:=h'}):
  wpAny (-25) A (updateSeq t (·.setIfInBounds k x)) Q E v:=wpAny_updateSeq_pair g q
def YL{Q:Aac}(d:Us z ti to i1 i2 l1 l2)(g:Zt v.heap z ti to i1 i2 l1 l2 .none k)
  (t1:v.heap.IsTuple l1 xs) (t2:v.heap.IsTuple l2 ys) (ex:xs[k]?=some x) (ey:ys[k]?=some y)
  (q:∀h',Zt h' z ti to i1 i2 l1 l2 (rawInt v.heap.objs.size) (k+1)->IsPair h' v.heap.objs.size x y->(∀c o,c≠z->c≠to->c≠i1->c≠i2->v.heap.get? c=some o->h'.get? c=some o)->Q (-81) {v with heap:=h'}):
  wpAny (-25) A (-45) (λfin s'=>∃u,fin=.done (.ret u)/\Q u s') E v:=by
 obtain⟨⟨a1,a2,a3,a4⟩,a5,a6,a7,a8⟩:=g.ne;obtain⟨b1,b2,b3⟩:=tup_ne g t1;obtain⟨c1,c2,c3⟩:=tup_ne g t2;obtain⟨gs,gi,⟨a,b,go⟩,g1,g2⟩:=g;show wpAny _ _ (field (.ref z) 2>>=_) _ _ _;refine ae (-37);refine ae (-37);refine ae (cu gi rfl ?_);refine ae ?_;refine ae (bK gs rfl rfl (ag ?_));refine ae (fE ?_);refine ae (-37);refine ae (cx gs (-8) λp1 k1 r1=>?_)
 replace k1:IsZip p1 z ti to .ellipsis:=k1
 refine ae ?_;refine ae (ae (mJ ?_));refine ae (vO (jB g1 r1 a3) (oQ t1 r1 b1) ex λp2 k2 r2=>ag ?_);have o2:=r2.extBut _ _ a7 (r1.extBut _ _ a2 go);refine ae (cu o2 rfl ?_);refine ae (An o2 λp3 o3 r3=>?_)
 replace o3:IsPair p3 to x b:=o3
 refine ae (mT (ag ?_));refine ae (ae (mJ ?_));refine ae (vO (jB (jB (jB g2 r1 a4) r2 d.NW.symm) r3 a8.symm) (oQ (oQ (oQ t2 r1 c1) r2 c2) r3 d.nl2) ey λp4 k4 r4=>ag ?_);have o4:=r4.extBut _ _ a8 o3;refine ae (cu o4 rfl ?_);refine ae (An o4 λp5 o5 r5=>?_)
 replace o5:IsPair p5 to x y:=o5
 refine ae (mT (ag (ag ?_)));refine ae (cu o5 rfl ?_);refine ae (lG ?_);have sz:p5.objs.size=v.heap.objs.size:=by rw[r5.1,r4.1,r3.1,r2.1,r1.1]
 have z5:=r5.extBut _ _ a2.symm (r4.extBut _ _ a4.symm (r3.extBut _ _ a2.symm (r2.extBut _ _ a3.symm k1)));have st:∀c o,c≠z->c≠to->c≠i1->c≠i2->v.heap.get? c=some o->p5.get? c=some o:=λc o m1 m2 m3 m4 e=>
  r5.extBut _ _ m2 (r4.extBut _ _ m4 (r3.extBut _ _ m2 (r2.extBut _ _ m3 (r1.extBut _ _ m1 e))))
 have lz:=aF z5;refine ae ?_;have z6:IsZip (p5.push {cls:=.type "tuple",data:=.seq #[x,y]}) z ti to .ellipsis:=ah _ z5;refine ae (cx z6 (-8) λp7 z7 r7=>?_)
 replace z7:IsZip p7 z ti to (rawInt p5.objs.size):=z7
 refine cx z7 (-8) λp8 z8 r8=>?_
 replace z8:IsZip p8 z ti to (rawInt p5.objs.size):=z8
 have up:∀c o,c≠z->p5.get? c=some o->p8.get? c=some o:=λc o m e=>r8.extBut _ _ m (r7.extBut _ _ m (ah _ e));have n8:=r8.extBut _ _ (bD lz) (r7.extBut _ _ (bD lz) (aE _ rfl));rw[sz]at z8 n8;refine ag {_,rfl,?_};rw[sz];obtain⟨oa,ja,ra⟩:=(jB (jB (jB k2 r3 a7.symm) r4 d.NW) r5 a7.symm);obtain⟨ob,jb,rb⟩:=(jB k4 r5 a8.symm);exact q p8 {z8,up _ _ a1 (st _ _ a1 d.KY a5 a6 gi),{x,y,up _ _ a2 o5},{oa,up _ _ a3 ja,ra},{ob,up _ _ a4 jb,rb}} n8 λc o m1 m2 m3 m4 e=>up c o m1 (st c o m1 m2 m3 m4 e)
def aas{z ti to i1 i2 l1 l2:Addr}{k:Nat}{xs ys:Aaj}{Q:Fin->Shared->Prop}(hh:A.handled=none)(d:Us z ti to i1 i2 l1 l2)(g:Zt v.heap z ti to i1 i2 l1 l2 .none k)
  (t1:v.heap.IsTuple l1 xs) (ex:xs[k]?=none)
  (q:∀h' e,(∀c o,c≠z->c≠to->c≠i1->c≠i2->v.heap.get? c=some o->h'.get? c=some o)->(∃o,h'.get? e=some o/\o.cls=.type "StopIteration")->E (.ref e) {v with heap:=h'}):
  wpAny (-25) A (-45) Q E v:=by
 obtain⟨⟨a1,a2,a3,a4⟩,a5,a6,a7,a8⟩:=g.ne;obtain⟨b1,b2,b3⟩:=tup_ne g t1;obtain⟨gs,gi,⟨a,b,go⟩,g1,g2⟩:=g;show wpAny _ _ (field (.ref z) 2>>=_) _ _ _;refine ae (-37);refine ae (-37);refine ae (cu gi rfl ?_);refine ae ?_;refine ae (bK gs rfl rfl (ag ?_));refine ae (fE ?_);refine ae (-37);refine ae (cx gs (-8) λp1 k1 r1=>?_)
 replace k1:IsZip p1 z ti to .ellipsis:=k1
 refine ae ?_;refine ae (ae (mJ ?_));refine ae (zb hh (jB g1 r1 a3) (oQ t1 r1 b1) ex λp2 e r2 he=>?_);obtain⟨oe,ge,ce⟩:=he;have z2:=r2 _ _ a3.symm k1;refine cx z2 (-8) λp3 _ r3=>q p3 e (λc o m1 _ m3 _ e=>r3.extBut _ _ m1 (r2 _ _ m3 (r1.extBut _ _ m1 e))) {oe,r3.extBut _ _ (c6 ge z2 ce rfl (-9)) ge,ce}
variable{pins:Aaa}{Z:St}{H:Hp}{s:Shared}
def Inv.freeze(I:Inv X pins Z H s)(hd:H d=some (.dK kvs))(ho:s.heap.get? d=some o):Inv X pins Z (upd H d (.fg o (.dK kvs))) s:=by
 have nd:∀b u,H b=some u->(∀l,u≠ .dK l)->b≠d:=λb u q n z=>by rw[z,hd]at q;exact n kvs (bJ q).symm
 refine I.un {λb u e _ _ _=>e,λb u e _ _ _=>{u.slots,e},λb u e n _=>by rw[ay ((λb q z=>by rw[z,hd]at q;cases q) b n)];exact n,λb u e _=>⟨u,e⟩,λb xs q=>by rw[ay (-96)];exact q,λb u v q=>by rw[ay (-96)];exact q,λb ps q=>{#[],by rw[ay (-96),q];simp}} λb u g=>?_;by_cases hb:b=d
 ·subst hb;rw[au]at g;cases g;exact{ho,I.bj b _ hd}
 ·rw[ay hb]at g;exact(I.bj b u g).kJ (λc v hc q=>q) (λc q=>by rw[ay (nd c _ q λl z=>by cases z)];exact q) λc ys q=>by rw[ay (nd c _ q λl z=>by cases z)];exact q
end
section
variable{X:Cx}
theorem ints_of:∀{ns:List Int}{us:Aae},Vals (-51) us->IntsAre us ns
 |[],_,.nil=>.nil
 |n::ns,_,.cons ⟨t,r⟩ q=>by subst r;exact .cons _ _ (ints_of q)
def WL(hc:X.calm=true):iN X (.builtin "sum") (λxs H Q=>∃(a:Addr)(ns:List Int),xs=[.ref a]/\aY X.K H a (-51)/\Q (.int ns.sum) H):=by
 intro pins s Z H xs us Q I r h;obtain⟨a,ns,rfl,hq,q⟩:=h;obtain⟨u,rfl,ru⟩:=jy r;cases ru;obtain⟨aS,rv,pl,hz⟩:=I.list hq;have ia:=ints_of rv;obtain⟨ws,ex⟩:=ia.allInts.items;have en:ws.toList.map (·.1)=ns:=by rw[<-nums_intItems,<-ex];exact ia.numsOf
 refine sum_intListG (I.ok.hd hc) (ex▸pl.isList) λh' tk t' hk=>?_;have e:preSum (numAt ws) ws.size=ns.sum:=by rw[preSum_eq,cX (-8),en]
 rw[e];exact{.int ns.sum,H,I.kept hk,⟨_,rfl⟩,q}
def Ue:iN X (.type "str") (λxs H Q=>∃i:Int,xs=[.int i]/\i.natAbs.log2<1920/\Q (.str (Str.ofString (toString i))) H):=by intro pins s Z H xs us Q I r h;obtain⟨i,rfl,hl,q⟩:=h;obtain⟨u,rfl,t,rfl⟩:=jy r;exact P.str_of_int hl {.str (Str.ofString (toString i)),H,I.tok _,⟨_,rfl⟩,q}
variable{pins:Aaa}{Z:St}{H:Hp}{s:Shared}{h':Heap}
def Inv.Nd{ch:Aah}(I:Inv X pins Z H s)(k:∀b o,b∉ch->s.heap.get? b=some o->h'.get? b=some o)(fc:∀b∈ch,qH X pins H b)
  (hp:s.heap.objs.size<=p) (ht:IsTup h' p us.toArray/\∃o,h'.get? p=some o/\o.dict=none) (r:Vals xs us) (hz:xs.length<=sizeLine):Inv X pins Z (upd H p (.tup xs)) {s with heap:=h',toks:=t'}:=by
 have hn:=I.bj.fresh hp;have fp:=I.u7 hp hn;have nH:∀b u,H b=some u->b∉ch/\b≠p:=λb u g=>{(λz=>by rw[(fc b z).1]at g;cases g),λz=>by rw[z,hn]at g;cases g};refine I.step (λb hb=>?_) (λb o _ _ hc g _=>k b o (λz=>hc (aB _ z)) g) (λb o _ _ hc g _=>{o.slots,k b o (λz=>hc (aB _ z)) g})
  (λb o hc g n=>by rw[ay λz=>hc (by rw[z];exact aA)];exact n) (λb o hc g=>{o,k b o (λz=>hc (aB _ z)) g})
  (λb ys g=>by rw[ay (nH b _ g).2];exact g) (λb o u g=>by rw[ay (nH b _ g).2];exact g) (λb ps g=>{#[],by rw[ay (nH b _ g).2,g];simp}) (λm hm=>?_) (λb u g=>?_) I.bare
 ·rcases aH.mp hb with rfl|z
  ·exact{fp.2.2.2.1,fp.2.1,fp.2.2.2.2.1,fp.2.2.2.2.2}
  ·have f:=fc b z;exact{f.2.2.2.1,f.2.1,f.2.2.2.2.1,f.2.2.2.2.2}
 ·obtain⟨o,es,ep,ho,r'⟩:=hm;exact{o,es,ep,k _ o (λz=>(fc _ z).2.1 rfl) ho,r'}
 ·by_cases hb:b=p
  ·subst hb;rw[au]at g;cases g;exact⟨hz,us,r,ht⟩
  ·rw[ay hb]at g;refine(I.bj b u g).kJ (λc v hc q=>?_) (λc q=>?_) λc ys q=>?_
   ·rcases hc with z|z
    ·rw[z];rw[z]at q;exact k b v (nH b _ g).1 q
    ·exact k c v (nH c _ z).1 q
   ·rw[ay (nH c _ q).2];exact q
   ·rw[ay (nH c _ q).2];exact q
def Inv.Nf{ch:Aah}(I:Inv X pins Z H s)(k:∀b o,b∉ch->s.heap.get? b=some o->h'.get? b=some o)(fc:∀b∈ch,qH X pins H b):Inv X pins Z H {s with heap:=h',toks:=t'}:=by
 have nH:∀b u,H b=some u->b∉ch:=λb u g z=>by rw[(fc b z).1]at g;cases g
 refine I.step (λb z=>?_) (λb o _ _ hc g _=>k b o hc g) (λb o _ _ hc g _=>{o.slots,k b o hc g}) (λ_ _ _ _ n=>n) (λb o hc g=>{o,k b o hc g})
  (λ_ _ g=>g) (λ_ _ _ g=>g) (λb ps g=>{#[],by rw[g];simp}) (λm hm=>?_) (λb u g=>?_) I.bare
 ·have f:=fc b z;exact{f.2.2.2.1,f.2.1,f.2.2.2.2.1,f.2.2.2.2.2}
 ·obtain⟨o,es,ep,ho,r'⟩:=hm;exact{o,es,ep,k _ o (λz=>(fc _ z).2.1 rfl) ho,r'}
 ·refine(I.bj b u g).kJ (λc v hc q=>k c v ?_ q) (λ_ q=>q) λ_ _ q=>q;rcases hc with z|z
  ·rw[z];exact nH b _ g
  ·exact nH c _ z
end
section
variable{P:Program}{w:World}{A:Around}{E:Aac}{v:Shared}
def MV(d:Us z ti to i1 i2 l1 l2)(g:Zt v.heap z ti to i1 i2 l1 l2 .none k)
  (t1:v.heap.IsTuple l1 xs) (t2:v.heap.IsTuple l2 ys) (ex:xs[k]?=some x) (ey:ys[k]?=some y)
  (q:∀h',Zt h' z ti to i1 i2 l1 l2 (rawInt v.heap.objs.size) (k+1)->IsPair h' v.heap.objs.size x y->(∀c o,c≠z->c≠to->c≠i1->c≠i2->v.heap.get? c=some o->h'.get? c=some o)->Q (some (-81)) {v with heap:=h'}):
  wpAny (-25) A (pyNext (.ref z)) Q E v:=by
 have ty:v.TypeIs (.ref z) "zip":={_,g.self,rfl};exact ae (d0 (wpAny_callSpecial?_slot ty eT (bp eT ty kG (YL d g t1 t2 ex ey λh' b1 b2 b3=>ag (q h' b1 b2 b3)) (j8 _))))
def MU(hh:A.handled=none)(d:Us z ti to i1 i2 l1 l2)(g:Zt v.heap z ti to i1 i2 l1 l2 .none k)
  (t1:v.heap.IsTuple l1 xs) (ex:xs[k]?=none)
  (q:∀h',(∀c o,c≠z->c≠to->c≠i1->c≠i2->v.heap.get? c=some o->h'.get? c=some o)->Q none {v with heap:=h'}):
  wpAny (-25) A (pyNext (.ref z)) Q E v:=by
 have ty:v.TypeIs (.ref z) "zip":={_,g.self,rfl};refine ae (d0 (wpAny_callSpecial?_slot ty eT (bp eT ty kG (aas (ys:=#[]) hh d g t1 ex λh' e hk he=>?_) (j8 _))));obtain⟨o,ho,hc⟩:=he;exact ae (gu ⟨o,ho,hc⟩ kz (ag (q _ hk)))
abbrev WX(h:Heap)(l1:Addr):Heap:=h.push {cls:=.type "tuple_iterator",data:=.fields #[.ref l1,.int 0 0]}
abbrev WW(h:Heap)(l1 l2:Addr):Heap:=(WX h l1).push {cls:=.type "tuple_iterator",data:=.fields #[.ref l2,.int 0 0]}
abbrev WV(h:Heap)(l1 l2:Addr):Heap:=(WW h l1 l2).push {cls:=.type "tuple",data:=.seq #[.ref h.objs.size,.ref (WX h l1).objs.size]}
abbrev WU(h:Heap)(l1 l2:Addr):Heap:=(WV h l1 l2).push {cls:=.type "tuple",data:=.seq #[.none,.none]}
abbrev MY(h:Heap)(l1 l2:Addr):Heap:=(WU h l1 l2).push {cls:=.type "zip",data:=.fields #[.none,.bool false,.bool false,.ref (WW h l1 l2).objs.size,.ref (WV h l1 l2).objs.size]}
def aat(l1 l2:Addr)(xs ys:Aaj):
  Meets (Builtin.«zip.__new__» {[.type "zip",.ref l1,.ref l2],[]}) (λ_ R s=>s.heap.IsTuple l1 xs/\s.heap.IsTuple l2 ys/\R (.ok (.ret (.ref (WU s.heap l1 l2).objs.size))) {s with heap:=MY s.heap l1 l2}):=
 .of_wp λprog w A R s h=>by
  obtain⟨hp,g,d,tk,os⟩:=s;obtain⟨lO,g8,h⟩:=h;have VZ:=sub_zip;have hL2:Heap.IsTuple (Shared.heap ⟨hp.push {cls:=.type "tuple_iterator",data:=.fields #[.ref l1,.int 0 0]},g,d,tk,os⟩) l2 ys:=by obtain⟨o,e,r⟩:=g8;exact{o,ah _ e,r}
  wp_walk using uv lO,uv hL2
  exact⟨_,rfl,h⟩
def MX(h1:v.heap.IsTuple l1 xs)(h2:v.heap.IsTuple l2 ys)
  (q:∀h' n,n=v.heap.objs.size->Zt h' (n+4) (n+2) (n+3) n (n+1) l1 l2 .none 0->(∀c o,v.heap.get? c=some o->h'.get? c=some o)->Q (.ref (n+4)) {v with heap:=h'}):
  wpAny (-25) A (call (.type "zip") [.ref l1,.ref l2]) Q E v:=by
 refine callType_new F.called_zip (-9) (F.typeCall_zip_2 _ _) (F.newCall_zip_2 _ _) (λobj=>A3 obj _ _) F.entry_zip_new (aat l1 l2 xs ys) {h1,h2,?_};have e1:(WX v.heap l1).objs.size=v.heap.objs.size+1:=cJ ..;have e2:(WW v.heap l1 l2).objs.size=v.heap.objs.size+2:=by rw[cJ,e1]
 have e3:(WV v.heap l1 l2).objs.size=v.heap.objs.size+3:=by rw[cJ,e2]
 have e4:(WU v.heap l1 l2).objs.size=v.heap.objs.size+4:=by rw[cJ,e3]
 have g5:(MY v.heap l1 l2).get? (WU v.heap l1 l2).objs.size=some _:=aE _ rfl;have g4:(MY v.heap l1 l2).get? (WV v.heap l1 l2).objs.size=some _:=ah _ (aE _ rfl);have g3:(MY v.heap l1 l2).get? (WW v.heap l1 l2).objs.size=some _:=ah _ (ah _ (aE _ rfl));have g2:(MY v.heap l1 l2).get? (WX v.heap l1).objs.size=some _:=ah _ (ah _ (ah _ (aE _ rfl)));have g1:(MY v.heap l1 l2).get? v.heap.objs.size=some _:=ah _ (ah _ (ah _ (ah _ (aE _ rfl))));rw[e2,e3,e4]at g5;rw[e1,e2]at g3;rw[e3]at g4;rw[e1]at g2;rw[e4];exact{⟨_,g5,rfl⟩,q _ _ rfl {g5,g3,⟨_,_,g4⟩,⟨_,g1,rfl,rfl⟩,⟨_,g2,rfl,rfl⟩} λc o x=>ah _ (ah _ (ah _ (ah _ (ah _ x))))}
def Itz(K:Frag)(a b:Addr):It:=
 {λi H=>∃xs ys x y,bC K H a xs/\bC K H b ys/\xs[i]?=some x/\ys[i]?=some y,
  λi H u H'=>∃p x y,u=.ref p/\H p=none/\H'=upd H p (.tup [x,y])/\(∀xs,bC K H a xs->xs[i]?=some x)/\∀ys,bC K H b ys->ys[i]?=some y,
  λi H=>∃xs,bC K H a xs/\xs.length=i}
def iy(z ti to i1 i2:Addr):Aah:=[z,ti,to,i1,i2]
end
def UH{K:Frag}(a b z ti to i1 i2:Addr)(dd:Us z ti to i1 i2 a b):Turn P w K (.Tuple elts kk ps) (Itz K a b) (iy z ti to i1 i2) z (λi h=>Zt h z ti to i1 i2 a b .none i) where
 mem:=aA
 obj:=λi h st c hc=>by
  obtain⟨gs,gi,⟨u,v,go⟩,⟨o1,q1,c1,d1⟩,⟨o2,q2,c2,d2⟩⟩:=st;rcases(by simpa[iy]using hc)with rfl|rfl|rfl|rfl|rfl
  ·exact{_,gs,λv z=>by cases z}
  ·exact{_,gi,λv z=>by cases z}
  ·exact{_,go,λv z=>by cases z}
  ·exact{_,q1,λv z=>by rw[d1]at z;cases z}
  ·exact{_,q2,λv z=>by rw[d2]at z;cases z}
 keep:=λi h h' st k=>by obtain⟨gs,gi,⟨u,v,go⟩,⟨o1,q1,r1⟩,⟨o2,q2,r2⟩⟩:=st;exact{k z (by simp[iy]) _ gs,k ti (by simp[iy]) _ gi,{u,v,k to (by simp[iy]) _ go},{o1,k i1 (by simp[iy]) _ q1,r1},{o2,k i2 (by simp[iy]) _ q2,r2}}
 item:=by
  intro X hP hw hK hc i pins s Z H E I hf st hg;subst hP hw hK;obtain⟨xs,ys,x,y,ha,hb,hx,hy⟩:=hg;obtain⟨Iu,Kg,FE,vt⟩:=I.tuple ha;obtain⟨DZ,Kf,BQ,zk⟩:=I.tuple hb;obtain⟨u1,hu1,Kh⟩:=Kg.get hx;obtain⟨u2,D6,FA⟩:=Kf.get hy;refine MV dd st (show s.heap.IsTuple a Iu.toArray from FE) (show s.heap.IsTuple b DZ.toArray from BQ) (by simpa using hu1) (by simpa using D6) λh1 g1 pr kp=>{_,rfl,?_};refine vI g1.self λh2 z2 sb=>?_;have rF:=sb;have lz:=aF st.self;have al:∀c∈iy z ti to i1 i2,c<s.heap.objs.size:=λc hc=>by
   obtain⟨gs,gi,⟨u,v,go⟩,⟨o1,q1,r1⟩,⟨o2,q2,r2⟩⟩:=id st;rcases(by simpa[iy]using hc)with rfl|rfl|rfl|rfl|rfl
   ·exact aF gs
   ·exact aF gi
   ·exact aF go
   ·exact aF q1
   ·exact aF q2
  have wG:∀c o,c∉iy z ti to i1 i2->s.heap.get? c=some o->h2.get? c=some o:=λc o hc e=>
   rF.extBut c o (-18) (kp c o (-18) (-18) (-18) (-18) e)
  have I2:=I.Nd (t':=s.toks) wG hf (ak _) ({{_,rF.extBut _ _ (bD lz) pr,rfl,_,rfl},_,rF.extBut _ _ (bD lz) pr,rfl}) (.cons Kh (.cons FA .nil)) (-17);obtain⟨⟨n1,n2,n3,n4⟩,n5,n6,n7,n8⟩:=g1.ne;obtain⟨gs,gi,⟨u,v,go⟩,⟨o1,q1,r1⟩,⟨o2,q2,r2⟩⟩:=g1;refine{.ref s.heap.objs.size,_,I2,rfl,{_,x,y,rfl,I.bj.fresh (ak _),rfl,λzs hz=>by rw[I.Bx hz ha];exact hx,λzs hz=>by rw[I.Bx hz hb];exact hy},{z2,rF.extBut _ _ n1 gi,{u,v,rF.extBut _ _ n2 go},{o1,rF.extBut _ _ n3 q1,r1},{o2,rF.extBut _ _ n4 q2,r2}},λc hc=>?_};rw[ay (aI (al c hc))];exact(hf c hc).1
 done:=by intro X hP hw hK hc i pins s Z H E I hf st hg;subst hP hw hK;obtain⟨xs,ha,hx⟩:=hg;obtain⟨Iu,Kg,FE,vt⟩:=I.tuple ha;have hl:=Kg.length;refine MU (I.ok.hd hc) dd st (show s.heap.IsTuple a Iu.toArray from FE) (by simp;lia) λh1 kp=>{rfl,I.Nf (λc o hc e=>kp c o (-18) (-18) (-18) (-18) e) hf}
 self:=λ_ _ _ _ _ st h=>mf st.self h
inductive abK(K:Frag)(R:It->Hp->Prop)(vs:Aam)(H1:Hp):Prop
 |mk a b (_:vs=[.ref a,.ref b]) (_:(∃xs,bC K H1 a xs)) (_:(∃ys,bC K H1 b ys)) (_:R (Itz K a b) H1)
def adl(K:Frag)(ta:TA):TI:=λZ H R=>ta Z H λvs H1=>abK K R vs H1
def Zm(hg:Gl X "zip")(hm:X.mg "zip"=none)(ha:PA X [a,b] ta)(hs:starEach [a,b] X.env=[(false,eval a X.env),(false,eval b X.env)]:=by rfl)(ma:starEach [b] X.env=[(false,eval b X.env)]:=by rfl):
  PI X (.Tuple elts kk ps) (.Call (.Name "zip" p) [a,b] [] pos) (adl X.K ta):=by
 intro pins s Z H R I h;refine Gx (rR I hg hm boot_zip (eB (-53) (by rw[hs,ma]) (by rw[ma];rfl)));obtain⟨l1,l2,e,⟨xs,ha⟩,⟨ys,hb⟩,q⟩:=q1;subst e;obtain⟨u1,u2,rfl,Kh,FA⟩:=Fj r1;cases Kh;cases FA;obtain⟨Iu,Kg,FE,vt⟩:=I1.tuple ha;obtain⟨DZ,Kf,BQ,zk⟩:=I1.tuple hb;have t1:=FE;have t2:=BQ;have b1:l1<s1.heap.objs.size:=by obtain⟨o,e,_⟩:=t1;exact aF e
 have b2:l2<s1.heap.objs.size:=by obtain⟨o,e,_⟩:=t2;exact aF e
 refine MX t1 t2 λh' n en g kp=>?_;subst en;refine mf g.self ?_;refine{_,_,_,_,H1,rfl,(I1.kept (t':=s1.toks) kp),UH l1 l2 _ _ _ _ _ {?_,λt=>absurd t (aI (c7 _)),aI (ba b1 (fH _ _)),aI (ba b2 (fH _ _))},g,λc hc=>?_,q}
 ·exactλt=>absurd t (aI (c7 _))
 ·have Ed:c=s1.heap.objs.size+4\/c=s1.heap.objs.size+2\/c=s1.heap.objs.size+3\/c=s1.heap.objs.size\/c=s1.heap.objs.size+1:=by simpa[iy]using hc
  have lc:s1.heap.objs.size<=c:=by rcases Ed with e|e|e|e|e<;>rw[e]<;>first|exact ak _|exact fH _ _
  exact I1.u7 lc (I1.bj.fresh lc)
section
variable{P:Program}{w:World}{A:Around}{E:Aac}{v:Shared}
def DG(h:Q (v.heap.get? a) v):wpAny M A (loadIfAlive a) Q E v:=λΓ p _=>by show Sem.wp M Γ (Sem.loadIfAlive a Sem.pure) _ _ p v;exact h
abbrev zP(f0:Value)(b:Bool)(ti to:Addr):Obj:={cls:=.type "zip",dict:=none,data:=.fields #[f0,.bool b,.bool false,.ref ti,.ref to],slots:=#[]}
structure Zs(h:Heap)(z ti to i1 i2 l1 l2 T:Addr)(k:Nat):Prop where
 self:∃b,h.get? z=some (zP (rawInt T) b ti to)
 live:∃o,h.get? T=some o
 ins:IsPair h ti (.ref i1) (.ref i2)
 w1:h.IsListIter i1 l1 k
 w2:h.IsListIter i2 l2 k
def MW{z ti to T:Addr}(g:v.heap.get? z=some (zP (rawInt T) b ti to))(l:∃o,v.heap.get? T=some o)
  (q:∀h',h'.get? z=some (zP (rawInt T) true ti to)->Heap.SameBut z v.heap h'->Q false {v with heap:=h'}):wpAny (-25) A (Builtin.SmallTypes.ownedTupleIsFree (.ref z)) Q E v:=by
 obtain⟨o,l⟩:=l;refine ae (bK g rfl rfl ?_);refine ae (DG ?_);rw[da,l];refine ae (bK g rfl rfl ?_);cases b with
 |true=>
  exact ag (q v.heap g (pQ _ _))
 |false=>
  refine ae (cx g (-8) λh1 g1 s1=>ag (q h1 g1 s1))
variable{prog:Program}
def Qo:typeLookup (.type "zip") "__getattr__"=pure none:=by rw[m7,jD];kernel_rfl
def Z3:typeLookup (.type "zip") "keys"=pure none:=by rw[m7,jD];kernel_rfl
def adJ:entryFor table "zip.__getattribute__"=some Builtin.«object.__getattribute__»:=zA (id':="object.__getattribute__") (by kernel_rfl) (-3) (-3) (by kernel_rfl)
def Z2{os:OsState}(hx:h.get? a=some (zP f0 b ti to))(hA:A.handled=none)
  (k:∀h' tk e,Heap.NewAttrErr h h' e (-64) "keys"->E (.ref e) ⟨h',g,d,tk,os⟩):
  wpAny (-5) A (Builtin.«object.__getattribute__» {[.ref a,.str "keys" u],[]}) Q E ⟨h,g,d,t,os⟩:=by
 have f4:=Z3
 repeat (any_goals (first|(assumption)|(wp_step)))
 exact wpAny_raiseAttrError hA k (attrMsg_fits (-3) (by size_fits))
def Z4{os:OsState}(hx:h.get? a=some (zP f0 b ti to))(hA:A.handled=none)
  (k:∀h' tk e,Heap.NewAttrErr h h' e (-64) "keys"->R (.error (.ref e)) ⟨h',g,d,tk,os⟩):
  codeAny (-5) A (.call (.builtin "zip.__getattribute__") {[.ref a,.str "keys" u],[]}) R ⟨h,g,d,t,os⟩:=
 AJ F.slot_zip_getattribute.plain adJ (F.slot_zip_getattribute.check _ _ _ _ _ _ _ _ (show(⟨h,g,d,t,os⟩:Shared).TypeIs (-64) "zip"from⟨_,hx,rfl⟩) (F.args_zip_getattribute_2 _ _) (Z2 hx hA k))
def adK{os:OsState}(hx:h.get? a=some (zP f0 b ti to))(hA:A.handled=none)
  (k:∀h' tk e,Heap.NewAttrErr h h' e (-64) "keys"->E (.ref e) ⟨h',g,d,tk,os⟩):
  wpAny (-5) A (getAttrBy (-64) (.str "keys" u) false) Q E ⟨h,g,d,t,os⟩:=by
 have g2:=F.slot_zip_getattribute.lookup;have g3:=F.slot_zip_getattribute.bind (-64);have f5:=Qo;have f1:=BB
 repeat (any_goals (first|(assumption)|(wp_step)))
 refine Z4 hx hA λh' tk e ne=>?_;obtain⟨t',u',he⟩:=ne.there
 repeat (any_goals (first|(assumption)|(wp_step)))
 exact k _ _ _ ne
def Z5{os:OsState}(hx:h.get? a=some (zP f0 b ti to))(hA:A.handled=none)
  (k:∀h' tk e,Heap.NewAttrErr h h' e (-64) "keys"->Q none ⟨h',g,d,tk,os⟩):
  wpAny (-5) A (getAttr? (-64) "keys") Q E ⟨h,g,d,t,os⟩:=by
 have f1:=BB
 repeat (any_goals (first|assumption|(with_reducible refine adK hx hA λh' tk e ne=>?_)|wp_step))
 obtain⟨t',u',he⟩:=ne.there
 repeat (any_goals (first|(assumption)|(wp_step)))
 exact k _ _ _ ne
end
section
theorem MZ:∀{ks:List Key}{ys:Aam}{us vs:Aae},Vals (ks.map kV) us->Vals ys vs->ks.length=ys.length->∃pairs:List (Key×Value),Paired (λ(u:Value)(p:Key×Value)=>(bW P w).is p.1 u=true) us pairs/\vs=pairs.map (·.2)/\KV (ks.zip ys) pairs/\pairs.length=ks.length
 |[],[],_,_,.nil,.nil,_=>{[],.nil,rfl,.nil,rfl}
 |k::ks,y::ys,_,_,.cons r1 t1,.cons (b:=v) r2 t2,h=>by obtain⟨ps,h1,h2,h3,h4⟩:=MZ t1 t2 (Nat.succ.inj h);exact{(k,v)::ps,.cons (xH r1) h1,by rw[bw,<-h2],.cons ⟨rfl,r2⟩ h3,bV Nat.succ h4}
end
end L2
namespace Tb
open PySem PySem.SetTable
def S:Nat->Nat
 |0=>0
 |n+1=>5*S n+1
def F:Nat->Nat->Nat
 |0,i=>i
 |n+1,i=>5*F n i+1
theorem Mj:∀n i,F n i=i+S n*(4*i+1)
 |0,i=>by simp[F,S]
 |n+1,i=>by show 5*F n i+1=i+(5*S n+1)*(4*i+1);rw[Mj n i,Es,kN,qb];lia
def YH(m:Nat):∀n i,F (m+n) i=F m (F n i):=by
 intro n i
 induction m with
 |zero=>simp[F]
 |succ m ih=>
  rw[show m+1+n=(m+n)+1 by lia];show 5*F (m+n) i+1=5*F m (F n i)+1;rw[ih]
def adR(n:Nat):S (n+n)=2*S n*(2*S n+1):=by have h:=YH n n 0;rw[Mj,Mj n (F n 0),Mj n 0]at h;simp only[Nat.mul_zero,wY,Nat.mul_one]at h;rw[h];generalize S n=x;rw[qb,qb,show x*(4*x)=2*x*(2*x) by rw[vB,show(4:Nat)=2*2 from rfl,kN,kN,vB x 2 x]];lia
theorem YC:∀k,∃c,S (2^k)=2^k*(2*c+1)
 |0=>{0,rfl}
 |k+1=>by
  obtain⟨c,hc⟩:=YC k;refine{2*c*S (2^k)+c+S (2^k),?_};rw[show 2^(k+1)=2^k+2^k by rw[kF];lia,adR];generalize hs:S (2^k)=s at hc;have e:2*s*(2*s+1)=2*(2^k*(2*c+1))*(2*s+1):=by rw[<-hc]
  rw[e,<-Nat.two_mul,<-kN,kN (2*2^k)];congr 1;rw[Es,qb,qb,qb];have:2*c*(2*s)=2*(2*c*s):=by rw[vB]
  lia
theorem cover:∀(k i j:Nat),∃n,n<2^k/\F n i % 2^k=j % 2^k
 |0,i,j=>{0,by decide,by simp[Nat.mod_one]}
 |k+1,i,j=>by
  obtain⟨n,hn,e⟩:=cover k i j;rw[kF];by_cases c:F n i/2^k % 2=j/2^k % 2
  ·exact{n,by lia,by rw[yC,yC,e,c]}
  ·obtain⟨z,hz⟩:=YC k;refine{2^k+n,by lia,?_};have e2:F (2^k+n) i=F n i+2^k*(2*(z*(4*F n i+1)+2*F n i)+1):=by rw[YH,Mj (2^k),hz,kN];congr 2;rw[Es,Nat.one_mul,kN];lia
   rw[e2,yC,yC,Nat.add_mul_mod_self_left,Nat.add_mul_div_left _ _ (Nat.two_pow_pos k),e];congr 2;lia
def Eo(mask:Nat)(p:Probe):Probe:=
 if p.more>0 then{p with j:=p.j+1,more:=p.more -1}else
 {p with j:=(leap mask p.i p.perturb).1,more:=runEnd mask (leap mask p.i p.perturb).1 -(leap mask p.i p.perturb).1,i:=(leap mask p.i p.perturb).1,perturb:=(leap mask p.i p.perturb).2}
abbrev Nt(mask i q:Nat):Probe:={j:=i,more:=runEnd mask i -i,i:=i,perturb:=q,dummy:=none}
def pr(mask:Nat)(h:Int):Nat->Probe
 |0=>Nt mask (bits h %(mask+1)) (bits h)
 |d+1=>Eo mask (pr mask h d)
def UX(t:SetTable)(h:Int):t.probeStart h=pr t.mask h 0:=rfl
def ps(mask:Nat)(h:Int)(d:Nat):Nat:=(pr mask h d).j
def lp(mask:Nat)(h:Int):Nat->Nat×Nat
 |0=>(bits h %(mask+1),bits h)
 |n+1=>leap mask (-21).1 (-21).2
def run(mask i:Nat):Nat:=runEnd mask i -i
def Tn(mask:Nat)(h:Int):Nat->Nat
 |0=>0
 |n+1=>Tn mask h n+run mask (-21).1+1
def aa3(mask i:Nat):run mask i<=9:=by unfold run runEnd;split<;>lia
theorem YA(mask:Nat)(h:Int):∀n,Tn mask h n<=10*n
 |0=>ak _
 |n+1=>by have:=YA mask h n;have:=aa3 mask (-21).1;show Tn mask h n+run mask (-21).1+1<=_;lia
def Zl(mask:Nat)(h:Int):∀n,pr mask h (Tn mask h n)=Nt mask (-21).1 (-21).2/\∀e,e<=run mask (-21).1->pr mask h (Tn mask h n+e)={j:=(-21).1+e,more:=run mask (-21).1 -e,i:=(-21).1,perturb:=(-21).2,dummy:=none}:=by
 have Ri:∀n,pr mask h (Tn mask h n)=Nt mask (-21).1 (-21).2->∀e,e<=run mask (-21).1->pr mask h (Tn mask h n+e)={j:=(-21).1+e,more:=run mask (-21).1 -e,i:=(-21).1,perturb:=(-21).2,dummy:=none}:=by
  intro n h0 e
  induction e with
  |zero=>intro _;rw[oI,h0];rfl
  |succ e ih=>
   intro he;show Eo mask (pr mask h (Tn mask h n+e))=_;rw[ih ∅];unfold Eo;rw[aG (show run mask (-21).1 -e>0 by lia)];congr 1
 intro n
 induction n with
 |zero=>exact{rfl,Ri 0 rfl}
 |succ n ih=>
  have h1:pr mask h (Tn mask h (n+1))=Nt mask (lp mask h (n+1)).1 (lp mask h (n+1)).2:=by show Eo mask (pr mask h (Tn mask h n+run mask (-21).1))=_;rw[ih.2 _ (ak _)];unfold Eo;rw[aw (-8)];rfl
  exact{h1,Ri _ h1}
def FD{mask:Nat}(he:e<=run mask (-21).1):ps mask h (Tn mask h n+e)=(-21).1+e:=by unfold ps;rw[(Zl mask h n).2 e he]
theorem adj(mask:Nat)(h:Int):∀n,(-21).1<mask+1
 |0=>sE _ (sD _)
 |n+1=>sE _ (sD _)
theorem abx(mask:Nat)(h:Int):∀n,(-21).2=bits h/32^n
 |0=>by simp[lp]
 |n+1=>by show(-21).2/32=_;rw[abx mask h n,Nat.div_div_eq_div_mul,kF]
def aaj(h:Int):bits h<2^64:=by unfold bits;lia
theorem N4{mask k:Nat}(hk:mask+1=2^k)(h:Int):∀n,(lp mask h (13+n)).1=F n (lp mask h 13).1 % 2^k
 |0=>by have:=adj mask h 13;show(lp mask h 13).1=(lp mask h 13).1 % 2^k;rw[Nat.mod_eq_of_lt ∅]
 |n+1=>by
  show((lp mask h (13+n)).1*5+1+(lp mask h (13+n)).2/32) %(mask+1)=(5*F n (lp mask h 13).1+1) % 2^k;have q0:(lp mask h (13+n)).2/32=0:=by rw[abx];have h2:32^13<=32^(13+n):=mB (-9) ∅;rw[Nat.div_eq_of_lt (show bits h<32^(13+n)from ba (gH (aaj h) (-9)) h2)]
  rw[q0,N4 hk h n,hk,oI,Nat.add_mod,Nat.mul_mod,Nat.mod_mod,<-Nat.mul_mod,<-Nat.add_mod,Nat.mul_comm]
def hits{mask k:Nat}(hk:mask+1=2^k)(h:Int)(hj:j<=mask):∃n,n<=13+mask/\(-21).1=j/\ps mask h (Tn mask h n)=j:=by obtain⟨n,hn,e⟩:=cover k (lp mask h 13).1 j;have e2:=N4 hk h n;rw[e,Nat.mod_eq_of_lt ∅]at e2;refine{13+n,by lia,e2,?_};have:=FD (mask:=mask) (h:=h) (n:=13+n) (aQ _);rw[oI,oI]at this;rw[this,e2]
def Pj{mask:Nat}:ps mask h d<=mask:=by
 have key:∀d,(pr mask h d).j+(pr mask h d).more<=mask:=by
  have base:∀i q,i<mask+1->(Nt mask i q).j+(Nt mask i q).more<=mask:=λi q hi=>by show i+(runEnd mask i -i)<=mask;unfold runEnd;split<;>lia
  intro d
  induction d with
  |zero=>exact base _ _ (sE _ (sD _))
  |succ d ih=>
   show(Eo mask (pr mask h d)).j+(Eo mask (pr mask h d)).more<=mask;unfold Eo;split
   ·show(pr mask h d).j+1+((pr mask h d).more -1)<=mask;lia
   ·exact base _ 0 (sE _ (sD _))
 have:=key d;unfold ps;lia
def least{p:Nat->Prop}:∀{n},p n->∃m,m<=n/\p m/\∀e,e<m->¬p e:=by
 intro n
 induction n using Nat.strongRecOn with
 |ind n ih=>
  intro hn;by_cases c:∃e,e<n/\p e
  ·obtain⟨e,he,pe⟩:=c;obtain⟨m,h1,h2,h3⟩:=ih e he pe;exact{m,by lia,h2,h3}
  ·exact{n,ak _,hn,λe he pe=>c ⟨e,he,pe⟩}
def oq(xs:Array Nat):Prop:=∀i k,i<k->k<xs.size->xs.getD i 0<xs.getD k 0
def Wn{xs:Array Nat}(h:i<xs.size):xs.getD i a=xs.getD i b:=by simp[Array.getD,h]
def getD_some{xs:Array Nat}:xs[i]?=some j↔i<xs.size/\xs.getD i 0=j:=by
 constructor
 ·intro e;obtain⟨h,e⟩:=hJ.mp e;exact{h,by simp[Array.getD,h,e]}
 ·rintro⟨h,e⟩;simpa[Array.getD,h]using e
theorem E5(hr:oq xs)(j:Nat):∀(f lo hi:Nat),lo<=hi->hi<=xs.size->hi -lo<=f->(∀i,i<lo->xs.getD i 0<j)->(∀i,hi<=i->i<xs.size->j<=xs.getD i 0)->
  below.go xs j f lo hi<=xs.size/\(∀i,i<below.go xs j f lo hi->xs.getD i 0<j)/\∀i,below.go xs j f lo hi<=i->i<xs.size->j<=xs.getD i 0
 |0,lo,hi,h1,h2,h3,h4,h5=>by show lo<=xs.size/\(∀i,i<lo->xs.getD i 0<j)/\∀i,lo<=i->i<xs.size->j<=xs.getD i 0;exact{by lia,h4,λi a b=>h5 i ∅ b}
 |f+1,lo,hi,h1,h2,h3,h4,h5=>by
  unfold below.go;by_cases c:lo<hi
  ·simp only[aG c];have hm:(lo+hi)/2<xs.size:=by lia
   rw[Wn (b:=0) hm];by_cases d:xs.getD ((lo+hi)/2) 0<j
   ·simp only[aG d];refine E5 hr j f _ _ ∅ h2 ∅ (λi Ce=>?_) h5;by_cases e:i=(lo+hi)/2
    ·rw[e];exact d
    ·exact gH (hr i _ ∅ hm) d
   ·simp only[aw d];refine E5 hr j f _ _ ∅ ∅ ∅ h4 λi a b=>?_;by_cases e:i=(lo+hi)/2
    ·rw[e];lia
    ·have:=hr ((lo+hi)/2) i ∅ b;lia
  ·simp only[aw c];exact{by lia,h4,λi a b=>h5 i ∅ b}
def vV(hr:oq xs)(j:Nat):below xs j<=xs.size/\(∀i,i<below xs j->xs.getD i 0<j)/\∀i,below xs j<=i->i<xs.size->j<=xs.getD i 0:=
 E5 hr j xs.size 0 xs.size (aQ _) (ak _) ∅ (λi h=>absurd h (f6 _)) λi a b=>by lia
def below_at(hr:oq xs)(e:xs[i]?=some j):below xs j=i:=by
 obtain⟨h1,h2,h3⟩:=vV hr j;obtain⟨hi,e⟩:=getD_some.mp e;rcases lA (below xs j) i with c|c|c
 ·have:=h3 _ (ak _) ∅;have:=hr _ _ c hi;lia
 ·exact c
 ·have:=h2 i c;lia
def HK{t:SetTable}(hr:oq t.place)(e:t.place[i]?=some j):t.slot j=.live i:=by unfold SetTable.slot;rw[below_at hr e];simp[e]
def Q7{t:SetTable}(hd:t.dummies=#[])(e:∀i:Nat,t.place[i]?≠some j):t.slot j=.empty:=by unfold SetTable.slot;rw[aw (λh=>e _ (iq h)),hd];rw[aw (by simp[has])]
def Qj{mask:Nat}(hr:oq xs)(hs:xs.size<=mask):∃j:Nat,j<=mask/\∀i:Nat,xs[i]?≠some j:=by
 by_cases c:∃j:Nat,j<=mask/\∀i:Nat,xs[i]?≠some j
 ·exact c
 ·exfalso;have all:∀j:Nat,j<=mask->∃i:Nat,xs[i]?=some j:=λj hj=>nF λn=>c {j,hj,λi e=>n ⟨i,e⟩};have key:∀m:Nat,m<=mask->xs[m]?=some m:=by
   intro m
   induction m using Nat.strongRecOn with
   |ind m ih=>
    intro hm;obtain⟨i,e⟩:=all m hm;rcases lA i m with q|q|q
    ·have:=ih i q ∅;rw[this]at e;cases e;lia
    ·rw[<-q];rw[q]at e⊢;exact e
    ·obtain⟨hi,ei⟩:=getD_some.mp e;have h1:=hr m i q hi;have h2:m<=xs.getD m 0:=by
      cases m with
      |zero=>exact aQ _
      |succ m=>
       obtain⟨_,e3⟩:=getD_some.mp (ih m ∅ ∅);have:=hr m (m+1) ∅ ∅;lia
     lia
  obtain⟨h,_⟩:=getD_some.mp (key mask (ak _));lia
structure Tab(t:SetTable)(hs:List Int):Prop where
 pow:∃k,t.mask+1=2^k
 big:7<=t.mask
 TJ:t.dummies=#[]
 rise:oq t.place
 sz:t.place.size=hs.length
 gC:hs.length<=t.mask
 le:∀i j:Nat,t.place[i]?=some j->j<=t.mask
 reach:∀(i:Nat)(h:Int),hs[i]?=some h->∃d,t.place[i]?=some (ps t.mask h d)/\∀e,e<d->∃i':Nat,t.place[i']?=some (ps t.mask h e)
def Tab.fits(T:Tab t hs):t.fits hs.length=true:=by unfold SetTable.fits SetTable.fill;have h1:=T.sz;have h2:=T.gC;rw[T.TJ,h1];simp[h2]
def Tab.way(T:Tab t hs):t.gaveWay=false:=by
 obtain⟨k,hk⟩:=T.pow;have:=T.big;unfold SetTable.gaveWay;cases k with
 |zero=>rw[Nat.pow_zero]at hk;lia
 |succ k=>rw[kF]at hk;simp;lia
def Tab.fresh(finger moves:Nat)(led:Bool):Tab (.fresh finger moves led) [] where
 pow:={3,rfl}
 big:=ak 7
 TJ:=rfl
 rise:=λi k _ h=>absurd h (f6 _)
 sz:=rfl
 gC:=aQ _
 le:=λi j e=>by simp[SetTable.fresh]at e
 reach:=λi h e=>by simp at e
structure QI(t:SetTable)(h:Int)(D:Nat):Prop where
 lt:D<10*turns t.mask
 no:∀i:Nat,t.place[i]?≠some (-26)
 ahead:∀e,e<D->∃i:Nat,t.place[i]?=some (ps t.mask h e)
def Tab.free(T:Tab t hs)(h:Int):∃D,QI t h D:=by obtain⟨k,hk⟩:=T.pow;obtain⟨j,hj,hn⟩:=Qj T.rise (show t.place.size<=t.mask by rw[T.sz];exact T.gC);obtain⟨n,hn1,_,e⟩:=hits hk h hj;obtain⟨D,h1,h2,h3⟩:=least (p:=λd=>∀i:Nat,t.place[i]?≠some (ps t.mask h d)) (n:=Tn t.mask h n) (by rw[e];exact hn);have:=YA t.mask h n;refine{D,by unfold turns;lia,h2,λe he=>nF λq=>h3 e he λi z=>q ⟨i,z⟩}
theorem Kt(mask:Nat)(h:Int):∀d,(pr mask h d).dummy=none
 |0=>rfl
 |d+1=>by show(Eo mask (pr mask h d)).dummy=none;unfold Eo;split<;>exact Kt mask h d
def Tab.live(T:Tab t hs){i j:Nat}(e:t.place[i]?=some j):∃h,hs[i]?=some h:=by obtain⟨hi,_⟩:=getD_some.mp e;rw[T.sz]at hi;exact{_,ao hi}
theorem Ks(T:Tab t hs)(fr:QI t h D)(ha:∀(i:Nat)(g:Int),hs[i]?=some g->hashAt i=g):∀(f d:Nat),d<=D->D -d<f->
  (probe.go t hashAt h f (pr t.mask h d)=some (.empty (-26) none)/\∀e,d<=e->e<D->∀i:Nat,t.place[i]?=some (ps t.mask h e)->hs[i]?≠some h)\/
  ∃e i,d<=e/\e<D/\t.place[i]?=some (ps t.mask h e)/\hs[i]?=some h/\probe.go t hashAt h f (pr t.mask h d)=some (.candidate (ps t.mask h e) i (pr t.mask h (e+1)))/\∀e',d<=e'->e'<e->∀i':Nat,t.place[i']?=some (ps t.mask h e')->hs[i']?≠some h
 |0,d,_,hf=>absurd hf (f6 _)
 |f+1,d,hd,hf=>by
  unfold probe.go;by_cases c:d=D
  ·subst c;have e:t.slot (pr t.mask h d).j=.empty:=Q7 T.TJ fr.no;rw[e];refine .inl {?_,λe a b=>by lia};show some (Met.empty (ps t.mask h d) (pr t.mask h d).dummy)=_;rw[Kt]
  ·obtain⟨i,hi⟩:=fr.ahead d ∅;have e:t.slot (pr t.mask h d).j=.live i:=HK T.rise hi;rw[e];obtain⟨g,hg⟩:=T.live hi;have hu:∀i':Nat,t.place[i']?=some (ps t.mask h d)->i'=i:=λi' q=>by rw[<-below_at T.rise q,<-below_at T.rise hi]
   by_cases c2:hashAt i=h
   ·refine .inr {d,i,ak _,by lia,hi,?_,?_,λe' a b=>by lia}
    ·rw[ha i g hg]at c2;rw[hg,c2]
    ·show(if(hashAt i==h)=true then some (Met.candidate (ps t.mask h d) i (t.advance (pr t.mask h d)))else probe.go t hashAt h f (t.advance (pr t.mask h d)))=_;rw[aG (c2▸BEq.rfl)];rfl
   ·have no:∀i':Nat,t.place[i']?=some (ps t.mask h d)->hs[i']?≠some h:=λi' q z=>by rw[hu i' q]at z;exact c2 (ha i h z)
    have eq:(if(hashAt i==h)=true then some (Met.candidate (ps t.mask h d) i (t.advance (pr t.mask h d)))else probe.go t hashAt h f (t.advance (pr t.mask h d)))=probe.go t hashAt h f (pr t.mask h (d+1)):=by rw[aw (by simpa using c2)];rfl
    rcases(Ks T fr ha f (d+1) ∅ ∅)with⟨h1,h2⟩|⟨e,i2,h1,h2,h3,h4,h5,h6⟩
    ·refine .inl {eq.trans h1,λe a b i' q=>?_};by_cases z:e=d
     ·rw[z]at q;exact no i' q
     ·exact h2 e ∅ b i' q
    ·refine .inr {e,i2,by lia,h2,h3,h4,eq.trans h5,λe' a b i' q=>?_};by_cases z:e'=d
     ·rw[z]at q;exact no i' q
     ·exact h6 e' ∅ b i' q
def kB(l:List α)(p:Nat)(x:α):List α:=l.take p++x::l.drop p
def Lo(l:List α)(x:α)(hp:p<=l.length)(i:Nat):(kB l p x)[i]?=if i<p then l[i]? else if i=p then some x else l[i -1]?:=by
 unfold kB;by_cases c:i<p
 ·rw[aG c,cN (by rw[aR];lia),oJ c]
 ·rw[aw c,bU (by rw[aR];lia),aR,jI hp];by_cases c2:i=p
  ·rw[aG c2,c2,lW];rfl
  ·rw[aw c2,show i -p=(i -p -1)+1 by lia,xm,CK];congr 1;lia
def yr(l:List α)(x:α)(hp:p<=l.length):(kB l p x).length=l.length+1:=by unfold kB;rw[aC,bA,aR,mC];lia
def SA(l:List α)(p:Nat)(x:α):(kB l p x).Perm (x::l):=by refine List.perm_middle.trans ?_;rw[dM]
def Ln(f:α->β)(l:List α)(p:Nat)(x:α):(kB l p x).map f=kB (l.map f) p (f x):=by unfold kB;simp
def rV(xs:Array α)(p:Nat)(x:α):(insertAt xs p x).toList=kB xs.toList p x:=by unfold insertAt kB;simp[cX]
def oq.of_get(h:∀i k a b:Nat,i<k->xs[i]?=some a->xs[k]?=some b->a<b):oq xs:=λi k LI hk=>
 h i k _ _ LI (getD_some.mpr {by lia,rfl}) (getD_some.mpr ⟨hk,rfl⟩)
def oq.get(h:oq xs){i k a b:Nat}(LI:i<k)(ha:xs[i]?=some a)(hb:xs[k]?=some b):a<b:=by obtain⟨h1,e1⟩:=getD_some.mp ha;obtain⟨h2,e2⟩:=getD_some.mp hb;have:=h i k LI h2;lia
def BO{t:SetTable}(hr:oq t.place)(j i:Nat):(t.put j).1.place[i]?=if i<below t.place j then t.place[i]? else if i=below t.place j then some j else t.place[i -1]?:=by show(insertAt t.place (below t.place j) j)[i]?=_;rw[<-bF,rV,Lo _ _ (by rw[aM];exact(vV hr j).1)];simp only[bF]
def GO{t:SetTable}(hr:oq t.place){i v:Nat}(e:t.place[i]?=some v):∃i':Nat,(t.put j).1.place[i']?=some v:=by
 by_cases c:i<below t.place j
 ·exact{i,by rw[BO hr,aG c,e]}
 ·exact{i+1,by rw[BO hr,aw ∅,aw ∅,Nat.add_sub_cancel,e]}
def Tab.put(T:Tab t hs)(fr:QI t h D)(room:hs.length+1<=t.mask):Tab (t.put (-26)).1 (kB hs (t.put (-26)).2 h):=by
 have hb:=vV T.rise (-26);have hp:(t.put (-26)).2=below t.place (-26):=rfl;have SW:below t.place (-26)<=hs.length:=by rw[<-T.sz];exact hb.1
 rw[hp];have pl:=λi=>BO T.rise (-26) i;have hl:=Lo hs h SW;have at_:(t.put (-26)).1.place[below t.place (-26)]?=some (-26):=by rw[pl,aw (dP _),aG rfl]
 have lo:∀i a:Nat,i<below t.place (-26)->t.place[i]?=some a->a<ps t.mask h D:=λi a c e=>by obtain⟨_,e⟩:=getD_some.mp e;have:=hb.2.1 i c;lia
 have hi:∀i a:Nat,below t.place (-26)<=i->t.place[i]?=some a->ps t.mask h D<a:=λi a c e=>by obtain⟨l,e'⟩:=getD_some.mp e;have:=hb.2.2 i c l;have ne:a≠ps t.mask h D:=λz=>fr.no i (by rw[e,z]);lia
 refine{T.pow,T.big,?_,?_,?_,?_,λi j e=>?_,λi g e=>?_}
 ·show(if has t.dummies (-26)=true then _ else t.dummies)=_;rw[T.TJ];simp[has]
 ·refine oq.of_get λi k a b LI ha kD=>?_;rw[pl]at ha kD;by_cases c1:i<below t.place (-26)
  ·rw[aG c1]at ha;by_cases c2:k<below t.place (-26)
   ·rw[aG c2]at kD;exact T.rise.get LI ha kD
   ·rw[aw c2]at kD;by_cases c3:k=below t.place (-26)
    ·rw[aG c3]at kD;cases kD;exact lo i a c1 ha
    ·rw[aw c3]at kD;exact gH (lo i a c1 ha) (hi _ b ∅ kD)
  ·rw[aw c1]at ha;rw[aw ∅,aw ∅]at kD;by_cases c3:i=below t.place (-26)
   ·rw[aG c3]at ha;cases ha;exact hi _ b ∅ kD
   ·rw[aw c3]at ha;exact T.rise.get ∅ ha kD
 ·rw[yr _ _ SW,<-T.sz,<-aM];show(insertAt t.place (below t.place (-26)) (-26)).toList.length=_;rw[rV,yr _ _ (by rw[aM];exact hb.1),aM]
 ·rw[yr _ _ SW];exact room
 ·rw[pl]at e;by_cases c1:i<below t.place (-26)
  ·rw[aG c1]at e;exact T.le i j e
  ·rw[aw c1]at e;by_cases c3:i=below t.place (-26)
   ·rw[aG c3]at e;cases e;exact Pj
   ·rw[aw c3]at e;exact T.le _ j e
 ·have mk:(t.put (-26)).1.mask=t.mask:=rfl;rw[mk];rw[hl]at e;by_cases c1:i<below t.place (-26)
  ·rw[aG c1]at e;obtain⟨d,h1,h2⟩:=T.reach i g e;exact{d,by rw[pl,aG c1];exact h1,λx hx=>let⟨_,q⟩:=h2 x hx;GO T.rise q}
  ·rw[aw c1]at e;by_cases c3:i=below t.place (-26)
   ·rw[aG c3]at e;cases e;exact{D,by rw[c3];exact at_,λx hx=>let⟨_,q⟩:=fr.ahead x hx;GO T.rise q}
   ·rw[aw c3]at e;obtain⟨d,h1,h2⟩:=T.reach _ g e;exact{d,by rw[pl,aw c1,aw c3];exact h1,λx hx=>let⟨_,q⟩:=h2 x hx;GO T.rise q}
def Tab.of_eq(T:Tab t hs)(h1:t'.mask=t.mask)(h2:t'.place=t.place)(h3:t'.dummies=t.dummies):Tab t' hs:=by obtain⟨a1,a2,a3,a4,a5,a6,a7,a8⟩:=T;rw[<-h1]at a1 a2 a6 a7 a8;rw[<-h2]at a4 a5 a7 a8;rw[<-h3]at a3;exact⟨a1,a2,a3,a4,a5,a6,a7,a8⟩
structure Own(mask:Nat)(ow:Array (Option Nat))(hs:List Int):Prop where
 sz:ow.size=mask+1
 lt:∀j i:Nat,ow[j]?=some (some i)->i<hs.length
 inj:∀j j' i:Nat,ow[j]?=some (some i)->ow[j']?=some (some i)->j=j'
 at_:∀(i:Nat)(h:Int),hs[i]?=some h->∃d,ow[ps mask h d]?=some (some i)/\∀e,e<d->∃i':Nat,ow[ps mask h e]?=some (some i')
def Own.empty{mask:Nat}(O:Own mask ow hs)(gC:hs.length<=mask):∃j:Nat,j<=mask/\ow[j]?=some none:=by
 by_cases c:∃j:Nat,j<=mask/\ow[j]?=some none
 ·exact c
 ·exfalso;have all:∀j:Nat,j<=mask->ow[j]?=some (some ((ow.getD j none).getD 0)):=λj hj=>by
   have hl:j<ow.size:=by rw[O.sz];lia
   have e:ow[j]?=some (ow.getD j none):=by rw[br hl];simp[Array.getD,hl]
   cases q:ow.getD j none with
   |none=>exact(c {j,hj,by rw[e,q]}).elim
   |some i=>rw[e,q];rfl
  have nd:((List.range (mask+1)).map λj=>(ow.getD j none).getD 0).Nodup:=by
   refine cH.mpr (d9 (λ{a b} ha hb ne e=>ne (O.inj a b _ (all a ?_) (e▸all b ?_))) List.nodup_range)
   ·have:=dv.mp ha;lia
   ·have:=dv.mp hb;lia
  have sub:((List.range (mask+1)).map λj=>(ow.getD j none).getD 0)⊆List.range hs.length:=λx hx=>by obtain⟨j,hj,rfl⟩:=ar.mp hx;have:=dv.mp hj;exact dv.mpr (O.lt j _ (all j ∅))
  have:=List.Nodup.length_le_of_subset nd sub;rw[af,j7,j7]at this;lia
def aao(mask:Nat)(h:Int)(hmn:m<=n):Tn mask h m<=Tn mask h n:=by
 induction n with
 |zero=>rw[Nat.le_zero.mp hmn];exact ak _
 |succ n ih=>
  by_cases c:m=n+1
  ·rw[c];exact ak _
  ·have:=ih ∅;show _<=Tn mask h n+run mask (-21).1+1;lia
def Y9(mask i:Nat):runEnd mask i+1 -i=run mask i+1:=by unfold run runEnd;split<;>lia
theorem Oz{mask:Nat}(hD:ow[ps mask h D]?=some none)(hb:∀e,e<D->∃i':Nat,ow[ps mask h e]?=some (some i'))(hn0:D<=Tn mask h n0):∀(f n:Nat),Tn mask h n<=D->n0 -n<f->layClean.free mask ow f (-21).1 (-21).2=some (ps mask h D)
 |0,n,_,hf=>absurd hf (f6 _)
 |f+1,n,hn,hf=>by
  have own:∀e,e<=run mask (-21).1->Tn mask h n+e<D->(ow.getD ((-21).1+e) (some 0)).isNone=false:=λe he cE=>by obtain⟨i',q⟩:=hb _ cE;rw[FD he]at q;obtain⟨l,q⟩:=hJ.mp q;simp[Array.getD,l,q]
  unfold layClean.free;rw[Y9];by_cases c:D<=Tn mask h n+run mask (-21).1
  ·have e1:(List.range (run mask (-21).1+1)).find? (λk=>(ow.getD ((-21).1+k) (some 0)).isNone)=some (D -Tn mask h n):=by
    refine List.find?_range_eq_some.mpr {?_,dv.mpr ∅,λj hj=>?_}
    ·have q:=hD;rw[show D=Tn mask h n+(D -Tn mask h n) by lia,FD ∅]at q;obtain⟨l,q⟩:=hJ.mp q;simp[Array.getD,l,q]
    ·rw[own j ∅ ∅];rfl
   simp only[e1];rw[<-FD ∅,show Tn mask h n+(D -Tn mask h n)=D by lia]
  ·have e1:(List.range (run mask (-21).1+1)).find? (λk=>(ow.getD ((-21).1+k) (some 0)).isNone)=none:=by refine List.find?_range_eq_none.mpr λj hj=>?_;rw[own j ∅ ∅];rfl
   simp only[e1];have lt:n<n0:=by
    rcases Nat.lt_or_ge n n0 with q|q
    ·exact q
    ·have:=aao mask h q;lia
   exact Oz hD hb hn0 f (n+1) (by show Tn mask h n+run mask (-21).1+1<=D;lia) ∅
abbrev zd(mask:Nat)(acc:Option (Array (Option Nat)×Nat))(h:Int):Option (Array (Option Nat)×Nat):=do
  let(owner,k)<-acc
  let j<-layClean.free mask owner (turns mask) (bits h %(mask+1)) (bits h)
  pure (owner.setIfInBounds j (some k),k+1)
def ML(mask:Nat)(hashes:Array Int):layClean mask hashes=(hashes.toList.foldl (zd mask) (some (Array.replicate (mask+1) none,0))).map (·.1):=by rw[Array.foldl_toList];rfl
def Own.step{mask k:Nat}(hk:mask+1=2^k)(O:Own mask ow hs)(gC:hs.length<mask)(h:Int):∃RE,zd mask (some (ow,hs.length)) h=some (RE,hs.length+1)/\Own mask RE (hs++[h]):=by
 obtain⟨j,hj,ej⟩:=O.empty (bo gC);obtain⟨n0,hn0,_,e0⟩:=hits hk h hj;obtain⟨D,h1,h2,h3⟩:=least (p:=λd=>ow[ps mask h d]?=some none) (e0▸ej);have hb:∀e,e<D->∃i':Nat,ow[ps mask h e]?=some (some i'):=λe he=>by
  have l:ps mask h e<ow.size:=by rw[O.sz];have:=Pj (mask:=mask) (h:=h) (d:=e);lia
  cases q:ow[ps mask h e]with
  |none=>exact(h3 e he (by rw[br l,q])).elim
  |some i=>exact{i,by rw[br l,q]}
 have ef':layClean.free mask ow (turns mask) (bits h %(mask+1)) (bits h)=some (ps mask h D):=(Oz h2 hb h1 (turns mask) 0 (aQ _) (by unfold turns;lia));refine{ow.setIfInBounds (ps mask h D) (some hs.length),by simp[zd,ef'],?_};have get:∀x:Nat,(ow.setIfInBounds (ps mask h D) (some hs.length))[x]?=if x=ps mask h D then some (some hs.length)else ow[x]?:=λx=>by
  rw[Array.getElem?_setIfInBounds];by_cases c:x=ps mask h D
  ·rw[aG c,aG c.symm,aG (by rw[O.sz];have:=Pj (mask:=mask) (h:=h) (d:=D);lia)]
  ·rw[aw c,aw (cB c)]
 have keep:∀x i:Nat,ow[x]?=some (some i)->(ow.setIfInBounds (ps mask h D) (some hs.length))[x]?=some (some i):=λx i e=>by rw[get,aw λz=>by rw[z,h2]at e;cases e];exact e
 refine{by simp[O.sz],λx i e=>?_,λx y i ex ey=>?_,λi g e=>?_}
 ·rw[get]at e;rw[aC,fk];by_cases c:x=ps mask h D
  ·rw[aG c]at e;cases e;lia
  ·rw[aw c]at e;have:=O.lt x i e;lia
 ·rw[get]at ex ey;by_cases c:x=ps mask h D
  ·rw[aG c]at ex;cases ex;by_cases c2:y=ps mask h D
   ·rw[c,c2]
   ·rw[aw c2]at ey;exact absurd (O.lt y _ ey) (dP _)
  ·rw[aw c]at ex;by_cases c2:y=ps mask h D
   ·rw[aG c2]at ey;cases ey;exact absurd (O.lt x _ ex) (dP _)
   ·rw[aw c2]at ey;exact O.inj x y i ex ey
 ·by_cases c:i<hs.length
  ·rw[cN c]at e;obtain⟨d,q1,q2⟩:=O.at_ i g e;exact{d,keep _ _ q1,λx hx=>let⟨i',q⟩:=q2 x hx;{i',keep _ _ q}}
  ·rw[bU ∅]at e;have ei:i=hs.length:=by
    rcases lA i hs.length with q|q|q
    ·lia
    ·exact q
    ·rw[gk (by rw[fk];lia)]at e;cases e
   subst ei;rw[lW]at e;cases e;exact{D,by rw[get,aG rfl],λx hx=>let⟨i',q⟩:=hb x hx;{i',keep _ _ q}}
theorem KL{mask k:Nat}(hk:mask+1=2^k):∀(rest:List Int)(ow:Array (Option Nat))(hs:List Int),Own mask ow hs->(hs++rest).length<=mask->∃RE,rest.foldl (zd mask) (some (ow,hs.length))=some (RE,(hs++rest).length)/\Own mask RE (hs++rest)
 |[],ow,hs,O,_=>{ow,by simp,by simpa using O}
 |h::rest,ow,hs,O,gC=>by rw[aC,bA]at gC;obtain⟨ow1,e1,O1⟩:=O.step hk ∅ h;obtain⟨ow2,e2,O2⟩:=KL hk rest ow1 (hs++[h]) O1 (by rw[aC,aC,fk];lia);rw[dw]at e2 O2;refine{ow2,?_,O2};rw[jN,e1];rw[aC,fk]at e2;exact e2
def ZS{mask k:Nat}(hk:mask+1=2^k)(big:7<=mask)(finger moves:Nat)(led plain:Bool)(hs:List Int)(gC:hs.length<=mask):
  ∃t order,laid mask finger moves led plain hs.toArray=some (t,order)/\t.mask=mask/\t.finger=finger/\t.led=led/\t.moves=moves/\t.plain=plain/\order.toList.Perm (List.range hs.length)/\Tab t (order.toList.map λi=>hs.getD i 0):=by
 have O0:Own mask (Array.replicate (mask+1) none) []:={by simp,λj i e=>by simp[xc]at e,λj j' i e=>by simp[xc]at e,λi h e=>by simp at e};obtain⟨ow,e,O⟩:=KL hk hs _ _ O0 (by simpa using gC);rw[kU]at e O;have el:layClean mask hs.toArray=some ow:=by rw[ML];have e':(hs.toArray.toList.foldl (zd mask) (some (Array.replicate (mask+1) none,0)))=some (ow,hs.length):=e;rw[e'];rfl
 obtain⟨live,X5⟩:∃live,live=(List.range (mask+1)).filterMap λj=>(ow.getD j none).map (j,·):=⟨_,rfl⟩;have mem:∀p:Nat×Nat,p∈live↔ow[p.1]?=some (some p.2):=λp=>by
  rw[X5,uQ];constructor
  ·rintro⟨j,hj,q⟩;have lj:j<ow.size:=O.sz▸dv.mp hj;obtain⟨i,q1,q2⟩:=bq.mp q;subst q2;rw[br lj];have q3:ow[j]=some i:=by simpa[Array.getD,lj]using q1
   rw[q3]
  ·intro q;obtain⟨l,q'⟩:=hJ.mp q;refine{p.1,dv.mpr (O.sz▸l),?_};have q3:ow.getD p.1 none=some p.2:=by simp[Array.getD,l,q']
   rw[q3];rfl
 have sub:∀(j:Nat)(b:Nat×Nat),(ow.getD j none).map (j,·)=some b->b.1=j/\ow[j]?=some (some b.2):=λj b q=>by
  obtain⟨i,q1,q2⟩:=bq.mp q;subst q2;refine{rfl,?_};by_cases l:j<ow.size
  ·rw[br l];have q3:ow[j]=some i:=by simpa[Array.getD,l]using q1
   rw[q3]
  ·simp[Array.getD,l]at q1
 have p1:live.Pairwise (λa b=>a.1<b.1):=by rw[X5];refine xp _ (λa a' cE b hb b' kD=>?_) yE;rw[(sub a b hb).1,(sub a' b' kD).1];exact cE
 have p2:live.Pairwise (λa b=>a.2≠b.2):=by rw[X5];refine xp _ (λa a' cE b hb b' kD ne=>?_) yE;have q2:=(sub a' b' kD).2;rw[<-ne]at q2;have:=O.inj a a' _ ((sub a b hb).2) q2;lia
 have perm:(live.map (·.2)).Perm (List.range hs.length):=by
  refine(jR (cH.mpr p2) List.nodup_range).mpr λi=>?_;rw[dv,ar];constructor
  ·rintro⟨p,hp,rfl⟩;exact O.lt _ _ ((mem p).mp hp)
  ·intro hi;obtain⟨d,q,_⟩:=O.at_ i _ (ao hi);exact{(_,i),(mem (_,i)).mpr q,rfl}
 have ll:live.length=hs.length:=by have:=perm.length_eq;rwa [af,j7]at this
 have pl:∀m:Nat,((live.map (·.1)).toArray)[m]?=live[m]?.map (·.1):=λm=>by simp
 refine⟨{mask,place:=(live.map (·.1)).toArray,dummies:=#[],finger,led,moves,plain},(live.map (·.2)).toArray,?_,rfl,rfl,rfl,rfl,rfl,by simpa using perm,?_⟩
 ·unfold laid;rw[el,X5];rfl
 ·refine{⟨k,hk⟩,big,rfl,?_,?_,?_,λi j q=>?_,λm h q=>?_}
  ·refine oq.of_get λi k a b LI ha hb=>?_;rw[pl]at ha hb;obtain⟨x,hx,rfl⟩:=bq.mp ha;obtain⟨y,hy,rfl⟩:=bq.mp hb;obtain⟨lx,ex⟩:=aq.mp hx;obtain⟨ly,ey⟩:=aq.mp hy;subst ex ey;exact eX.mp p1 i k lx ly LI
  ·simp
  ·simp[ll,gC]
  ·rw[pl]at q;obtain⟨x,hx,rfl⟩:=bq.mp q;have:=(mem x).mp (az hx);obtain⟨l,_⟩:=hJ.mp this;rw[O.sz]at l;show x.1<=mask;lia
  ·have q':(live.map λp=>hs.getD p.2 0)[m]?=some h:=by
    have e3:(live.map (·.2)).toArray.toList.map (λi=>hs.getD i 0)=live.map λp=>hs.getD p.2 0:=by simp
    rw[<-e3];exact q
   rw[aL]at q';obtain⟨x,hx,rfl⟩:=bq.mp q';have hw:=(mem x).mp (az hx);have hl:=O.lt _ _ hw;have eh:hs[x.2]?=some (hs.getD x.2 0):=by rw[ao hl];simp[hl]
   obtain⟨d,d1,d2⟩:=O.at_ x.2 _ eh;refine{d,?_,λe he=>?_}
   ·show((live.map (·.1)).toArray)[m]?=some (ps mask (hs.getD x.2 0) d);rw[pl,hx,(O.inj _ _ _ d1 hw)];rfl
   ·obtain⟨i',q3⟩:=d2 e he;obtain⟨m',hm'⟩:=cP.mp ((mem (_,i')).mpr q3);refine{m',?_};rw[pl,hm'];rfl
theorem BE(n:Nat):∀(f j:Nat),n<2^(j+f)->∃k,j<=k/\sizeAbove.go n f (2^j)=2^k/\n<2^k/\(k=j\/2^k<=2*n)
 |0,j,h=>{j,ak _,rfl,h,.inl rfl}
 |f+1,j,h=>by
  unfold sizeAbove.go;by_cases c:2^j<=n
  ·rw[aG c,<-kF];obtain⟨k,h1,h2,h3,h4⟩:=BE n f (j+1) (by rw[show j+1+f=j+(f+1) by lia];exact h);refine{k,by lia,h2,h3,.inr ?_};rcases h4 with h4|h4
   ·rw[h4,kF];lia
   ·exact h4
  ·rw[aw c];exact{j,ak _,rfl,by lia,.inl rfl}
def BD(h:n<2^64):∃k,sizeAbove n=2^k/\8<=2^k/\n<2^k/\2^k<=2*n+8:=by
 obtain⟨k,h1,h2,h3,h4⟩:=BE n 64 3 (ba h (-9));have:2^3<=2^k:=mB (-9) h1;refine{k,h2,this,h3,?_};rcases h4 with h4|h4
 ·rw[h4];lia
 ·lia
def Rr(t:SetTable)(hs:List Int)(h:n<2^64)(gC:hs.length<n):∃t' order,t.relaid hs.toArray n=some (t',order)/\n<=t'.mask/\t'.mask<=2*n+7/\t'.finger=t.finger/\t'.led=t.led/\t'.plain=t.plain/\order.toList.Perm (List.range hs.length)/\Tab t' (order.toList.map λi=>hs.getD i 0):=by obtain⟨k,e,h1,h2,h3⟩:=BD h;obtain⟨t',order,q1,q2,q3,q4,_,q5,q6,q7⟩:=ZS (mask:=sizeAbove n -1) (k:=k) (by rw[e];lia) (by rw[e];lia) t.finger (t.movedTo (sizeAbove n -1)) t.led t.plain hs (by rw[e];lia);exact{t',order,q1,by rw[q2,e];lia,by rw[q2,e];lia,q3,q4,q5,q6,q7}
theorem BN{α:Type}:∀l:List α,(List.range l.length).filterMap (λi=>l[i]?)=l
 |[]=>rfl
 |x::l=>by rw[bA,yD,fV];show x::_=_;rw[uT];congr 1;exact BN l
def Pq{α:Type}{es:Array α}{order:Array Nat}(hp:order.toList.Perm (List.range es.size)):(order.filterMap (es[·]?)).toList.Perm es.toList/\∀(g:α->Int),(order.filterMap (es[·]?)).toList.map g=order.toList.map λi=>(es.toList.map g).getD i 0:=by
 have e1:(order.filterMap (es[·]?)).toList=order.toList.filterMap (es.toList[·]?):=by simp
 rw[e1];constructor
 ·have:=hp.filterMap (es.toList[·]?);rw[<-aM]at this;rwa [BN]at this
 ·intro g;have lt:∀i∈order.toList,i<es.toList.length:=λi hi=>by rw[aM];exact dv.mp (hp.mem_iff.mp hi)
  generalize order.toList=l at lt
  induction l with
  |nil=>rfl
  |cons i l ih=>
   have li:=lt i (aA ..);rw[fV,ao li];show g _::_=_;rw[bw,ih λj hj=>lt j (aB _ hj)];congr 1;rw[cY,aL,ao li];rfl
section
variable{prog:Program}{w:World}{K:Type}[DecidableEq K]{knd:KeyKind prog w K}{A:Around}{E:Aac}{s:Shared}
abbrev ent(knd:KeyKind prog w K)(x:List K×Addr):Int×Value:=(tupleKeyHash knd x.1,Value.ref x.2)
structure tV(knd:KeyKind prog w K)(h:Heap)(a:Addr)(o:Obj)(ep:Nat)(t:SetTable)(xs:List (List K×Addr)):Prop where
 ob:h.get? a=some o
 ex:o.ExactSet
 data:o.data=.set (xs.map (ent knd)).toArray ep t
 tab:Tab t (-46)
 gC:xs.length*5<t.mask*3
 cap:t.mask<=8*xs.length+15
 nd:(xs.map (·.1)).Nodup
 is:∀x∈xs,IsTupleKey knd h x.1 x.2
def tV.fits(S:tV knd h a o ep t xs):t.fits (-14).size=true:=by have:=S.tab.fits;rw[af]at this;simpa using this
def tV.state(S:tV knd s.heap a o ep t xs)(h:Q ((xs.map (ent knd)).toArray,ep,t) s):wpAny (-5) A (setState a) Q E s:=
 pB S.ob S.data S.fits h
def tV.ne(S:tV knd h a o ep t xs)(hk:IsTupleKey knd h ks b):b≠a:=by rintro rfl;obtain⟨o',items,n,sQ,_,sd,_⟩:=hk;obtain rfl:o'=o:=bJ (sQ.symm.trans S.ob);rw[S.data]at sd;cases sd
def JC(hx:IsTupleKey knd s.heap ks b)(h:Q false s):wpAny (-5) A (ofAClassStatement 8 (.ref b)) Q E s:=by
 have hT:=hx.typeIs;obtain⟨o,items,n,ho,_,hd,hi⟩:=hx;unfold ofAClassStatement;refine ae (gZ hT ?_);dsimp only;refine ae (ag ?_);refine ae (cu ho hd ?_);refine ae ?_;rw[<-oO];refine je _ (λrest r s'=>r.1=none/\s'=s/\∀v∈rest,carriedByValue v=true) _ ?_ ?_ _ _ {rfl,rfl,hi.byValue}
 ·rintro v rest r s' ⟨hr,rfl,qz⟩;have hv:=qz v aA;have e:ofAClassStatement 7 v=pure false:=by
   cases v with
   |ref a=>simp[carriedByValue]at hv
   |_=>first|rfl|(unfold ofAClassStatement;rfl)
  rw[e];refine ae (ag ?_);exact ag {rfl,rfl,λu qO=>qz u (aB _ qO)}
 ·rintro⟨r1,r2⟩ s' ⟨hr,rfl,_⟩;simp only at hr;subst hr;exact ag h
def YR(hx:IsTupleKey knd s.heap x b)(l:Aae)(hl:∀v∈l,∃ks c,v=Value.ref c/\IsTupleKey knd s.heap ks c)(h:Q false s):wpAny (-5) A (searchCouldBeSeen (.ref b) l) Q E s:=by
 refine ae ?_;refine je _ (λrest r s'=>r.1=none/\s'=s/\∀v∈rest,∃ks c,v=Value.ref c/\IsTupleKey knd s.heap ks c) _ ?_ ?_ _ _ ⟨rfl,rfl,hl⟩
 ·rintro v rest r s' ⟨hr,rfl,qz⟩;obtain⟨ks,c,rfl,hk⟩:=qz v aA;have Xk:=λu qO=>qz u (aB _ qO);by_cases e:(b==c||(carriedByValue (.ref b)&&carriedByValue (.ref c)))=true
  ·rw[aG e];exact ag ⟨rfl,rfl,Xk⟩
  ·rw[aw e];refine ae (yK hx ?_);refine ae (yK hk ?_);refine ae (JC hx ?_);refine ae (JC hk ?_);exact ag ⟨rfl,rfl,Xk⟩
 ·rintro⟨r1,r2⟩ s' ⟨hr,rfl,_⟩;simp only at hr;subst hr;exact ag h
def QN(hu:A.units<cLine)(S:tV knd s.heap a o ep t xs)(hk:IsTupleKey knd s.heap k b)(fr:QI t (-15) D)
  (h1:(∃x∈xs,x.1=k)->Q (.there none) s) (h2:(∀x∈xs,x.1≠k)->Q (.free (ps t.mask (-15) D) false) s):
  ∀(m fuel d:Nat)(st:Option Probe),D -d=m->d<=D->m<fuel->st.getD (t.probeStart (-15))=pr t.mask (-15) d->(∀e,e<d->∀(i:Nat)(x:List K×Addr),t.place[i]?=some (ps t.mask (-15) e)->xs[i]?=some x->x.1≠k)->
   wpAny (-5) A (setSearchFrom a (.ref b) (-15) true fuel st) Q E s:=by
 intro m
 induction m using Nat.strongRecOn with
 |ind m ih=>
  intro fuel d st hm hd hf g7 Cd;cases fuel with
  |zero=>exact absurd hf (f6 _)
  |succ fuel=>
   refine ae (S.state ?_);dsimp only;rw[S.tab.way];rw[g7];have hsL:∀(i:Nat)(x:List K×Addr),xs[i]?=some x->(-46)[i]?=some (tupleKeyHash knd x.1):=λi x e=>by rw[aL,e];rfl
   have hsR:∀(i:Nat)(g:Int),(-46)[i]?=some g->∃x,xs[i]?=some x/\tupleKeyHash knd x.1=g:=λi g e=>by rw[aL]at e;exact bq.mp e
   rcases Ks S.tab fr (hashAt:=λi=>(((-14)[i]?).map (·.1)).getD 0) (λi g e=>by obtain⟨x,hx,rfl⟩:=hsR i g e;simp[hx]) (10*turns t.mask) d hd (by have:=fr.lt;lia)with⟨e1,e2⟩|⟨e,i,a1,a2,a3,a4,a5,a6⟩
   ·have e1':t.probe (λi=>(((-14)[i]?).map (·.1)).getD 0) (-15) (pr t.mask (-15) d)=some (.empty (ps t.mask (-15) D) none):=e1;show wpAny (-5) A (match t.probe (λi=>(((-14)[i]?).map (·.1)).getD 0) (-15) (pr t.mask (-15) d)with|some met=>_|_=>_) Q E s;rw[e1'];refine ag (h2 λx hx ex=>?_);obtain⟨i,hi⟩:=cP.mp hx;obtain⟨d',q1,q2⟩:=S.tab.reach i _ (hsL i x hi);rw[ex]at q1 q2;have lt:d'<D:=by
     rcases lA d' D with q|q|q
     ·exact q
     ·rw[q]at q1;exact(fr.no i q1).elim
     ·obtain⟨i',z⟩:=q2 D q;exact(fr.no i' z).elim
    by_cases c:d'<d
    ·exact Cd d' c i x q1 hi ex
    ·exact e2 d' ∅ lt i q1 (by rw[hsL i x hi,ex])
   ·obtain⟨y,hy,ey⟩:=hsR i _ a4;have a5':t.probe (λi=>(((-14)[i]?).map (·.1)).getD 0) (-15) (pr t.mask (-15) d)=some (.candidate (ps t.mask (-15) e) i (pr t.mask (-15) (e+1))):=a5;show wpAny (-5) A (match t.probe (λi=>(((-14)[i]?).map (·.1)).getD 0) (-15) (pr t.mask (-15) d)with|some met=>_|_=>_) Q E s;rw[a5'];have ym:=az hy;have eL:(-14)[i]?=some (ent knd y):=by simp[hy]
    have cont:wpAny (-5) A (do
      let some (_,y):=(-14)[i]?|unsupported "internal:set-entry"
      let equal<-holding [y] (eqBool y (.ref b))
      let(iZ,_,t')<-setState a
      if true&&equal then return .there none
      let some same:=t'.sameMemory t.moves t.mask|unsupported "set.changed-during-lookup:is-the-new-block-at-the-old-address"
      let ac4<-match(if same then t'.slot (ps t.mask (-15) e)else .empty)with
       | .live i'=>match iZ[i']? with
        |some (_,y')=>do pure (if<-isSame y' y then some i' else none)
        |none=>pure none
       |_=>pure none
      match ac4 with
      |none=>rule "set.search.anew";setSearchFrom a (.ref b) (-15) true fuel none
      |some i'=>if equal then return .there (some i')else setSearchFrom a (.ref b) (-15) true fuel (some (pr t.mask (-15) (e+1)))) Q E s:=by
     rw[eL];dsimp only;refine ae (bS (Bv hu (S.is y ym) hk ?_));refine ae (S.state ?_);by_cases c:y.1=k
     ·rw[aT c];exact ag (h1 ⟨y,ym,c⟩)
     ·rw[bB c];have sm:t.sameMemory t.moves t.mask=some true:=by simp[SetTable.sameMemory]
      rw[sm];simp only[zi];rw[HK S.tab.rise a3];dsimp only;rw[eL];dsimp only;have iss:isSame (Value.ref y.2) (Value.ref y.2)=pure true:=aG (wO _);rw[iss];refine ae (ag ?_);simp only[zi];refine ae (ag ?_);refine ih (D -(e+1)) ∅ fuel (e+1) _ rfl ∅ ∅ rfl λe' he' i' x q1 q2 qk=>?_;by_cases c2:e'<d
      ·exact Cd e' c2 i' x q1 q2 qk
      ·by_cases c3:e'=e
       ·rw[c3]at q1;have:i'=i:=by rw[<-below_at S.tab.rise q1,<-below_at S.tab.rise a3]
        rw[this,hy]at q2;cases q2;exact c qk
       ·exact a6 e' ∅ ∅ i' q1 (by rw[hsL i' x q2,qk])
    by_cases led:t.led=true
    ·rw[led];exact cont
    ·have lf:t.led=false:=by cases q:t.led with|false=>rfl|true=>exact(led q).elim
     rw[lf];refine ae (YR hk _ (λv hv=>?_) ?_)
     ·obtain⟨p,hp,rfl⟩:=ar.mp hv;have F1:p∈xs.map (ent knd):=by have:=(Array.mem_filter.mp (mH.mp hp)).1;simpa using this
      obtain⟨x,hx,rfl⟩:=ar.mp F1;exact{x.1,x.2,rfl,S.is x hx}
     ·simp only[gL,kC];exact cont
end
section
variable{prog:Program}{w:World}{K:Type}[DecidableEq K]{knd:KeyKind prog w K}{A:Around}{E:Aac}{s:Shared}
def MO(n:Nat)(h:carriedByValue v=true):∃b,hashByValue n v=pure b:=by
 cases v with
 |ref a=>simp[carriedByValue]at h
 |_=>cases n<;>exact⟨_,rfl⟩
def aax(hx:IsTupleKey knd s.heap ks b)(h:∀c,Q c s):wpAny (-5) A (hashByValue 8 (.ref b)) Q E s:=by
 have hT:=hx.typeIs;obtain⟨o,items,n,ho,_,hd,hi⟩:=hx;refine ae (iD hT lD.lookup ?_);refine ae (cu ho hd ?_);refine ae ?_;rw[<-oO];refine je _ (λrest r s'=>r.1=none/\s'=s/\∀v∈rest,carriedByValue v=true) _ ?_ ?_ _ _ {rfl,rfl,hi.byValue}
 ·rintro v rest r s' ⟨hr,rfl,qz⟩;obtain⟨c,e⟩:=MO 7 (qz v aA);rw[e];refine ae (ag ?_);cases c with
  |false=>
   exact ag (ag (h false))
  |true=>
   exact ag {rfl,rfl,λu qO=>qz u (aB _ qO)}
 ·rintro⟨r1,r2⟩ s' ⟨hr,rfl,_⟩;simp only at hr;subst hr;exact ag (h true)
def UB(ob:s.heap.get? a=some o)(ex:o.ExactSet)(hd:o.data=.set (xs.map (ent knd)).toArray ep t)(tab:Tab t (-46))(nd:(xs.map (·.1)).Nodup)(is:∀x∈xs,IsTupleKey knd s.heap x.1 x.2)
  (hn:xs.length*2<=n) (hn4:n<=xs.length*4) (h0:0<n) (hx:xs.length<=100000) (D9:n<=100000) (h:∀h' ys o' wN t',Heap.SameBut a s.heap h'->tV knd h' a o' wN t' ys->t'.led=t.led->ys.Perm xs->Q () {s with heap:=h'}):wpAny (-5) A (setRelay a n) Q E s:=by
 have fits:t.fits (-14).size=true:=by have:=tab.fits;simpa using this
 refine ae (pB ob hd fits ?_);dsimp only;obtain⟨k,e1,e2,e3,e4⟩:=BD (n:=n) ∅;rw[aw (by rw[e1,bz];lia)];have hm:(-14).map (·.1)=(-46).toArray:=by simp[vG]
 obtain⟨t',order,q1,q2,qc,q3,q4,q5,q6,q7⟩:=Rr t (-46) (n:=n) ∅ (by rw[af];lia);rw[hm,q1];rw[af]at q6;have oz:order.toList.Perm (List.range (-14).size):=by simpa using q6
 obtain⟨o1,o2⟩:=Pq oz;have sO:(order.filterMap ((-14)[·]?))=((order.toList.filterMap (xs[·]?)).map (ent knd)).toArray:=by apply xb.mp;simp[List.map_filterMap]
 have py:(order.toList.filterMap (xs[·]?)).Perm xs:=by have:=q6.filterMap (xs[·]?);rwa [BN]at this
 have ly:=py.length_eq;have hh:(order.toList.filterMap (xs[·]?)).map (λx=>tupleKeyHash knd x.1)=order.toList.map λi=>(-46).getD i 0:=by have:=o2 (·.1);rw[sO]at this;simpa[vG]using this
 rw[<-hh]at q7;generalize order.toList.filterMap (xs[·]?)=ys at*;refine ae ?_;show wpAny (-5) A (if((order.filterMap ((-14)[·]?)).size !=(-14).size)=true then unsupported _ else pure (order.filterMap ((-14)[·]?),t')) _ E s;rw[sO,aw (by simp[ly])];refine ag ?_;refine pA ob hd ?_ (by rw[aN,af,ly,bz];lia);have S2:tV knd (s.heap.update a (Obj.putSet (ys.map (ent knd)).toArray t')) a {o with data:=.set (ys.map (ent knd)).toArray (ep+1) t'} (ep+1) t' ys:=by
  refine{?_,ex,rfl,q7,by lia,by lia,(py.map _).nodup_iff.mpr nd,λx hx=>?_}
  ·have:=cD (Obj.putSet (ys.map (ent knd)).toArray t') ob (by rw[uA _ t' hd];rfl);rw[uA _ t' hd]at this;exact this
  ·have zl:=is x (py.mem_iff.mp hx);have ne:x.2≠a:=by intro z;obtain⟨o',items,n,sQ,_,sd,_⟩:=zl;rw[z]at sQ;obtain rfl:o'=o:=bJ (sQ.symm.trans ob);rw[hd]at sd;cases sd
   obtain⟨o',items,n,sQ,hc,sd,hi⟩:=zl;exact{o',items,n,((bN s.heap a (Obj.putSet (ys.map (ent knd)).toArray t')).2 _ ne).trans sQ,hc,sd,hi}
 exact h _ ys _ _ _ (bN s.heap a _) S2 q4 py
def aay(hu:A.units<cLine)(S:tV knd s.heap a o ep t xs)(hk:IsTupleKey knd s.heap k b)(hx:xs.length<=1000)
  (h1:(∃x∈xs,x.1=k)->Q false s) (h2:(∀x∈xs,x.1≠k)->∀h' ys o' wN t',Heap.SameBut a s.heap h'->tV knd h' a o' wN t' ys->t'.led=t.led->ys.Perm ((k,b)::xs)->Q true {s with heap:=h'}):
  wpAny (-5) A (setAddHashed a (.ref b) (-15)) Q E s:=by
 refine bS (ae (S.state ?_));dsimp only;have nb:byScan (.ref b) (xs.map (ent knd)).toArray=false:=by simp[byScan,Value.scannable]
 rw[nb];obtain⟨D,fr⟩:=S.tab.free (-15);have bound:=fr.lt;have hm:=S.cap;unfold turns at bound;refine ae (QN hu S hk fr (λq=>ag (h1 q)) (λq=>?_) D 100000 0 none rfl (aQ _) ∅ (UX t _) λe he=>absurd he (f6 _));refine ae (S.state ?_);have gC:=S.gC;have tb:=S.tab.put fr (by rw[af];lia);generalize ep1:t.put (ps t.mask (-15) D)=tp at tb;obtain⟨t1,p⟩:=tp;have mk1:t1.mask=t.mask:=by have:(t.put (ps t.mask (-15) D)).1.mask=t.mask:=rfl;rw[ep1]at this;exact this
 have ld1:t1.led=t.led:=by have:(t.put (ps t.mask (-15) D)).1.led=t.led:=rfl;rw[ep1]at this;exact this
 have esz:(-14).size=xs.length:=by simp
 have ins:insertAt (xs.map (ent knd)).toArray p (tupleKeyHash knd k,Value.ref b)=((kB xs p (k,b)).map (ent knd)).toArray:=by apply xb.mp;rw[rV,Ln]
 have pI:=SA xs p (k,b);have nI:((kB xs p (k,b)).map (·.1)).Nodup:=by refine(pI.map _).nodup_iff.mpr ?_;refine cV.mpr {λz=>?_,S.nd};obtain⟨x,hx,e⟩:=ar.mp z;exact q x hx e
 have isI:∀x∈kB xs p (k,b),IsTupleKey knd s.heap x.1 x.2:=λx hx=>by
  rcases aH.mp (pI.mem_iff.mp hx)with rfl|hx
  ·exact hk
  ·exact S.is x hx
 have lI:(kB xs p (k,b)).length=xs.length+1:=by rw[pI.length_eq];rfl
 have fin:∀t2:SetTable,t2.mask=t1.mask->t2.place=t1.place->t2.dummies=t1.dummies->t2.led=t1.led->wpAny (-5) A (do
   storeSet a (insertAt (xs.map (ent knd)).toArray p (tupleKeyHash knd k,Value.ref b)) t2
   if(!false&&t2.tooFull)=true then
    setRelay a (SetTable.grown ((-14).size+1))
    pure true
   else pure true) Q E s:=λt2 e1 e2 e3 e4=>by
  have W6:Tab t2 ((kB xs p (k,b)).map λx=>tupleKeyHash knd x.1):=by rw[(Ln _ _ _ _)];exact tb.of_eq e1 e2 e3
  rw[ins];refine ae (pA S.ob S.data ?_ (by rw[aN,af,lI,bz];lia));have sb:=bN s.heap a (-61);have ob2:(s.heap.update a (-61)).get? a=some {o with data:=.set ((kB xs p (k,b)).map (ent knd)).toArray (ep+1) t2}:=by have:=cD (-61) S.ob (by rw[uA _ t2 S.data];rfl);rw[uA _ t2 S.data]at this;exact this
  have fl:t2.tooFull=decide ((xs.length+1)*5≥t.mask*3):=by unfold SetTable.tooFull SetTable.fill;rw[W6.TJ,W6.sz,af,lI,e1,mk1];rfl
  have DZ:∀x∈kB xs p (k,b),IsTupleKey knd (s.heap.update a (-61)) x.1 x.2:=λx hx=>by obtain⟨o',items,n,sQ,hc,sd,hi⟩:=isI x hx;exact{o',items,n,(sb.2 _ (S.ne (isI x hx))).trans sQ,hc,sd,hi}
  by_cases c:t2.tooFull=true
  ·rw[c];have g:SetTable.grown ((-14).size+1)=(xs.length+1)*4:=by unfold SetTable.grown;rw[esz,aw ∅]
   exact ae (UB ob2 S.ex rfl W6 nI DZ ∅ ∅ ∅ ∅ ∅ λh' ys o' wN t' rF S' l' py=>ag (h2 q h' ys o' wN t' (sb.trans rF) S' (l'.trans (e4.trans ld1)) (py.trans pI)))
  ·rw[gX.mpr c];rw[fl]at c;have c':¬(xs.length+1)*5≥t.mask*3:=λz=>c (aT z);exact ag (h2 q _ (kB xs p (k,b)) _ _ _ sb {ob2,S.ex,rfl,W6,by rw[lI,e1,mk1];lia,by rw[lI,e1,mk1];lia,nI,DZ} (e4.trans ld1) pI)
 by_cases c:t1.plain=true
 ·rw[aG c];refine ae (aax hk λbv=>?_);cases bv with
  |true=>exact fin t1 rfl rfl rfl rfl
  |false=>exact fin {t1 with plain:=false} rfl rfl rfl rfl
 ·rw[aw c];exact ae (ag (fin t1 rfl rfl rfl rfl))
end
end Tb
namespace Tb
open PySem
def Ge{α:Type}{l:List α}(h:i<l.length):(l[i]::l.eraseIdx i).Perm l:=by rw[qZ];refine List.perm_middle.symm.trans ?_;rw[List.getElem_cons_drop,dM]
theorem NL(next:Nat->Nat):∀(f k:Nat)(left:List α)(out:Array α),f=left.length->(pickOrder.go next f k left out).toList.Perm (out.toList++left)
 |0,k,left,out,h=>by rw[gR.mp h.symm,c8];exact .refl _
 |f+1,k,left,out,h=>by
  have hl:next k % left.length<left.length:=sE _ ∅
  unfold pickOrder.go;rw[ao hl];refine(NL next f (k+1) (left.eraseIdx (next k % left.length)) (out.push left[next k % left.length]) (by rw[mP hl];lia)).trans ?_;rw[j9,dw];exact(Ge hl).append_left _
def Rv(next:Nat->Nat)(xs:Array α):(pickOrder next xs).toList.Perm xs.toList:=by
 have:=NL next xs.size 0 xs.toList #[] (-8)
 rw[kU]at this;exact this
section
variable{M:Model}{A:Around}{E:Aac}
theorem M8:∀(n:Nat)(xs:List α)(s:Shared){Q:List α->Shared->Prop},n=xs.length->(∀ys d,ys.Perm xs->Q ys {s with drawn:=d})->wpAny M A (drawOrder n xs) Q E s
 |0,xs,s,Q,hn,h=>by have e:xs=[]:=gR.mp hn.symm;subst e;unfold drawOrder;exact ag (h [] s.drawn (.refl _))
 |n+1,[],s,Q,hn,h=>by simp at hn
 |n+1,x::xs,s,Q,hn,h=>by
  unfold drawOrder;refine ae (λΓ p hΓ=>?_);refine{by simp,?_};have hl:M.w.draws .order (s.drawn.get .order) %(x::xs).length<(x::xs).length:=sE _ (-8);generalize M.w.draws .order (s.drawn.get .order) %(x::xs).length=i at hl;have key:wpAny M A (match(x::xs)[i]? with
   |some y=>do return y::(<-drawOrder n ((x::xs).eraseIdx i))
   |none=>unsupported "internal:drawOrder") Q E {s with drawn:=s.drawn.bump .order}:=by
   rw[ao hl];dsimp only;refine ae (M8 n _ _ (by rw[mP hl];lia) λys d hp=>ag ?_);exact h _ d ((hp.cons _).trans (Ge hl))
  exact key
end
end Tb
namespace L2
def rL{α β:Type}{f:α->β}:∀{l k:List β},l.Perm k->∀{m:List α},k=m.map f->∃m':List α,m'.Perm m/\l=m'.map f:=by
 intro l k h
 induction h with
 |nil=>intro m e;exact{m,.refl _,e}
 |@cons x l1 l2 _ ih=>
  intro m e;cases m with
  |nil=>cases e
  |cons a m=>
   injection e with e1 e2;obtain⟨m',p,q⟩:=ih e2;exact{a::m',p.cons a,by rw[e1,q];rfl}
 |swap x y l=>
  intro m e
  match m,e with
  |a::b::m,e=>
   injection e with e1 e2;injection e2 with e2 e3;exact{b::a::m,.swap _ _ _,by rw[e1,e2,e3];rfl}
 |trans _ _ ih1 SI=>
  intro m e;obtain⟨m1,p1,q1⟩:=SI e;obtain⟨m2,p2,q2⟩:=ih1 q1;exact{m2,p2.trans p1,q2}
end L2
namespace Tb
open PySem PySem.SetTable PyProof.Rows
section
variable{prog:Program}{w:World}
section
variable{A:Around}{R:Result->Shared->Prop}{I:Addr}{fp wr:Aah}{G:Array GenState->Array GenState->Prop}{n:Nat}{P:Nat->Value->Prop}{St:Nat->Shared->Prop}
def adk(W:WalksS prog w A.in1 I fp wr G n P St)(S:Addr)(nS:S∉fp)(C:Nat->Heap->Prop)(keep:∀i h h',C i h->(∀b o,b∉wr->h.get? b=some o->h'.get? b=some o)->C i h')
  (step:∀(i:Nat) v(s:Shared)(Q:Bool->Shared->Prop)(E:Aac),i<n->P i v->C i s.heap->(∀c h' tk,s.toks<=tk->Heap.SameBut S s.heap h'->C (i+1) h'->Q c {s with heap:=h',toks:=tk})->wpAny (-5) A.in1 (setAdd S v) Q E s) (m:Nat):
  ∀(i:Nat)(s:Shared),n -i=m->i<=n->St i s->C i s.heap->(∀s',Moved (S::wr) G s s'->C n s'.heap->R (.ok (.ret .none)) s')->codeAny (-5) A (.builtin "set.update.loop" {[.ref S,.ref I],[]}) R s:=by
 have sub:∀b∈wr,b∈S::wr:=λb q=>aB _ q
 induction m with
 |zero=>
  intro i s hm hi st hC hR;have e:i=n:=by lia
  subst e;refine eM oG ?_;exact ae (W.done s _ _ st λs' hm=>ag (hR s' (hm.mono sub) (keep _ _ _ hC hm.heap)))
 |succ m ih=>
  intro i s hm hi st hC hR;have cE:i<n:=by lia
  refine eM oG ?_;refine ae (W.item i s _ _ cE st λv s' hP js hm=>?_);refine ae (bS (step i v s' _ _ cE hP (keep _ _ _ hC hm.heap) λc h' tk le sb hC'=>?_));refine ag {iS PyProof.Rows.F.plain_set_update_loop _,ih (i+1) _ ∅ cE (W.frame _ s' h' _ js le λb q o e=>?_) hC' λs2 m2 c2=>hR s2 (Moved.trans W.gtrans ((hm.mono sub).then_heap le λb o q e=>?_) m2) c2}
  ·rw[sb.2 b λh:b=S=>nS (h▸q)];exact e
  ·rw[sb.2 b λh:b=S=>q (h▸aA)];exact e
end
section
variable{A:Around}{E:Aac}{s:Shared}
abbrev lN(w:World):Bool:=!w.params.followText "set-order"
abbrev rD(led:Bool):Obj:={cls:=.type "set",dict:=none,data:=.set #[] 0 (.fresh 0 0 led)}
def code_set_new(a:Value)(h:Q₁ (-11) {s with heap:=s.heap.push (rD (lN w))}):
  codeAny (-5) A (.call (.builtin "set.__new__") {[.type "set",a],[]}) (wants Q₁ E) s:=by
 refine codeAny_of_tree ?_;show wpAny _ A.in1 (do checkBuiltinCall "set.__new__" {[.type "set",a],[]};again (.builtin "set.__new__" {[.type "set",a],[]})) _ _ s;refine ae (DE (PySem.F.newCall_set_1 a) (ag {iS zG _,eM PySem.F.entry_set_new ?_}));rw[Around.under_plainId zG _];unfold Builtin.«set.__new__» Builtin.Frozenset.newClass;have VZ:=sub_set_self;obtain⟨hp,g,d,tk,os⟩:=s;dsimp only
 wp_walk
 refine wb (ag ?_);dsimp only;simp only[newObj];refine ae (wpAny_alloc (ag ?_));exact ag h
def IU{l:Addr}{items:Aaj}{Q:Aac}(C:Nat->Heap->Prop)(hA:A.handled=none)(hl:s.heap.IsList l items)
  (keep:∀i h h',C i h->(∀b o,b≠s.heap.objs.size+1->h.get? b=some o->h'.get? b=some o)->C i h')
  (step:∀(i:Nat) v(s':Shared)(Q:Bool->Shared->Prop)(E:Aac),items[i]?=some v->C i s'.heap->(∀c h' tk,s'.toks<=tk->Heap.SameBut s.heap.objs.size s'.heap h'->C (i+1) h'->Q c {s' with heap:=h',toks:=tk})->wpAny (-5) A.in1.in1.in1 (setAdd s.heap.objs.size v) Q E s')
  (c0:∀o,C 0 ((s.heap.push (rD (lN w))).push o)) (k:∀(h':Heap)(tk:Nat),C items.size h'->(∀b o,s.heap.get? b=some o->h'.get? b=some o)->Q (-11) {s with heap:=h',toks:=tk}):
  wpAny (-5) A (call (.type "set") [.ref l]) Q E s:=by
 obtain⟨c,tl,afY⟩:=CG.mro;have ft:=CG;have afQ:=ft.made;have VZ:=ft.sub;refine Ff (codeAny_of_tree ?_);show wpAny _ _ (callAny (.type "set") _) _ _ _;refine ag {oM _ (-3),eM PySem.F.entry_type_call ?_};rw[Around.under_plain (weight_type_call_type "set" [.ref l] []) rfl];have h1:=ft.notType;have h2:=ft.canCreate;have Yg:=PySem.F.typeCall_set_1 (.ref l)
 repeat (any_goals (first|assumption|wp_step))
 refine lR (code_set_new (.ref l) (E:=E) (Q₁:=λx z=>x=.ref s.heap.objs.size/\z={s with heap:=s.heap.push (rD (lN w))}) ⟨rfl,rfl⟩) λr z hr=>?_;cases r with
 |error e=>exact hr
 |ok fl=>
  cases fl with
  |ret x=>
   obtain⟨rfl,rfl⟩:=hr;have hS:(s.heap.push (rD (lN w))).get? s.heap.objs.size=some (rD (lN w)):=aE _ rfl;have hT:Shared.TypeIs {s with heap:=s.heap.push (rD (lN w))} (-11) "set":=⟨_,hS,rfl⟩;have hli:=ft.init.lookup;have hbi:=ft.init.bind (-11)
   repeat (any_goals (first|assumption|wp_step))
   refine lR (AJ (R:=wants (λr z=>r=.none/\∃h' tk,z={s with heap:=h',toks:=tk}/\C items.size h'/\(∀b o,s.heap.get? b=some o->h'.get? b=some o)) E) ft.init.plain PySem.F.entry_set_init (check_set_init_1 hT ?_)) λr2 z2 xO=>?_
   ·obtain⟨⟨oc,od,oda,BU⟩,X3,nZ,nl,Yc⟩:=hl;simp only at nZ Yc;subst nZ Yc;have ae6:=ah (rD (lN w)) X3;have afV:=PySem.F.sub_list_set;have afW:=PySem.F.sub_list_frozenset;have iU:(Value.type "list"==Value.type "dict")=false:=by decide
    have lO:(s.heap.push (rD (lN w))).IsList l items:=⟨_,ae6,rfl,nl,rfl⟩;have hh3:A.in1.in1.in1.handled=none:=by simp[hA]
    unfold Builtin.«set.__init__» noKeywords Builtin.Frozenset.updateFrom;generalize hPI:pyIter=PI
    wp_walk
    subst hPI;refine pD lO (ae (wpAny_runValue ?_));have hlS:l<s.heap.objs.size:=aF X3;have nI:l≠(s.heap.push (rD (lN w))).objs.size:=by rw[cJ];exact aI (dU hlS)
    have nS:s.heap.objs.size∉[(s.heap.push (rD (lN w))).objs.size,l]:=by
     rw[cJ];intro hm;rcases aH.mp hm with hm|hm
     ·exact absurd hm (aI (c7 _))
     ·exact absurd (ax.mp hm) (bD hlS)
    refine adk ((Walks.list hh3 _ l nI items).toS) s.heap.objs.size nS C (λi h h' hC q=>keep i h h' hC λb o nb e=>q b o (λz=>nb ((ax.mp z).trans (cJ _ _))) e) (λi v s' Q E _ hv=>step i v s' Q E hv) items.size 0 _ rfl (aQ _) {{_,aE _ rfl,rfl,rfl},lO.push _} (c0 _) λs' hm hC=>?_;obtain⟨h',g',d',JK,Xp⟩:=s';have eg:g'=s.gens:=hm.gens;have ed:d'=s.drawn:=hm.drawn;have eo:Xp=s.os:=hm.os;subst eg ed eo;refine ag (ag {rfl,h',JK,rfl,hC,λb o e=>hm.heap b o ?_ (ah _ (ah _ e))});have lt:=aF e;rintro(_|⟨_,q⟩)
    ·exact dP _ lt
    ·rw[ax.mp q,cJ]at lt;exact absurd lt (A0.mpr (dZ _))
   ·cases r2 with
    |error e=>exact xO
    |ok fl2=>
     cases fl2 with
     |ret r=>
      obtain⟨rfl,h',tk,rfl,hC,IF⟩:=xO
      repeat (any_goals (first|assumption|wp_step))
      exact k _ _ hC IF
     |_=>exact xO.elim
  |_=>exact hr.elim
end
end
section
variable{prog:Program}{w:World}{K:Type}[DecidableEq K]{knd:KeyKind prog w K}
def Nk(x:IsTupleKey knd h k b)(kp:∀b o,h.get? b=some o->h'.get? b=some o):IsTupleKey knd h' k b:=by obtain⟨o,aS,n,ho,r⟩:=x;exact{o,aS,n,kp _ _ ho,r}
structure acL(knd:KeyKind prog w K)(ks:List (List K))(bs:Aah)(i:Nat)(xs:List (List K×Addr)):Prop where
 len:xs.length<=i
 mem:∀k,k∈xs.map (·.1)↔k∈ks.take i
 Jw:∀x∈xs,∃j:Nat,ks[j]?=some x.1/\bs[j]?=some x.2
section
variable{A:Around}{E:Aac}{s:Shared}
def Ug(hA:A.handled=none)(hu:A.in1.in1.in1.units<cLine)(hl:s.heap.IsList l items)(hi:items.toList=bs.map Value.ref)(lb:ks.length=bs.length)(hk:∀(i:Nat) k b,ks[i]?=some k->bs[i]?=some b->IsTupleKey knd s.heap k b)(hb:bs.length<=1000)
  (k:∀(h':Heap)(tk:Nat) o ep t xs,tV knd h' s.heap.objs.size o ep t xs->t.led=lN w->acL knd ks bs bs.length xs->(∀b o,s.heap.get? b=some o->h'.get? b=some o)->Q (-11) {s with heap:=h',toks:=tk}):
  wpAny (-5) A (call (.type "set") [.ref l]) Q E s:=by
 have hsz:items.size=bs.length:=by rw[<-aM,hi,af]
 refine IU (λi h=>(∀b o,s.heap.get? b=some o->h.get? b=some o)/\∃o ep t xs,tV knd h s.heap.objs.size o ep t xs/\t.led=lN w/\acL knd ks bs i xs) hA hl (λi h h' ⟨kp,o,ep,t,xs,hS,mO,hH⟩ q=>?_) (λi v s' Q E hv ⟨kp,o,ep,t,xs,hS,mO,hH⟩ k=>?_) (λo=>{λb o e=>ah _ (ah _ e),rD (lN w),0,.fresh 0 0 (lN w),[],{ah _ (aE _ rfl),⟨rfl,rfl,rfl⟩,rfl,Tab.fresh 0 0 _,by show 0*5<7*3;decide,by show 7<=15;decide,lZ,λx hx=>nomatch hx},rfl,{ak _,λk=>by simp,λx hx=>nomatch hx}}) λh' tk ⟨kp,o,ep,t,xs,hS,mO,hH⟩ N6=>k h' tk o ep t xs hS mO (hsz▸hH) N6
 ·have N6:∀b o,s.heap.get? b=some o->h'.get? b=some o:=λb o e=>q b o (aI (dU (aF e))) (kp b o e);refine{N6,o,ep,t,xs,{q _ _ (aI (c7 _)) hS.ob,hS.ex,hS.data,hS.tab,hS.gC,hS.cap,hS.nd,λx hx=>?_},mO,hH};obtain⟨j,j1,j2⟩:=hH.Jw x hx;exact Nk (hk j _ _ j1 j2) N6
 ·have e:items.toList[i]?=some v:=by rw[bF];exact hv
  rw[hi,aL]at e;obtain⟨b,kD,rfl⟩:=bq.mp e;have ib:=(aq.mp kD).1;obtain⟨k',IF⟩:∃k,ks[i]?=some k:={_,ao ∅};have kb:=Nk (hk i k' b IF kD) kp;have et:ks.take (i+1)=ks.take i++[k']:=by rw[a9,IF];rfl
  have lO:=hH.len;refine bS (ae (wpAny_pyHash_tuple hu kb ?_));refine aay (s:={s' with toks:=s'.toks+(k'.length+1)}) hu hS kb ∅ (λq=>?_) λq h' ys o' wN t' sb S2 aei py=>?_
  ·refine k _ s'.heap _ (fH _ _) (pQ _ _) {kp,o,ep,t,xs,hS,mO,by lia,λz=>?_,hH.Jw};rw[et,aP,<-hH.mem,ax];exact{.inl,λc=>c.elim id λe=>by obtain⟨x,hx,ex⟩:=q;rw[e,<-ex];exact ar.mpr ⟨x,hx,rfl⟩}
  ·refine k _ h' _ (fH _ _) sb {λb o e=>?_,o',wN,t',ys,S2,aei.trans mO,by rw[py.length_eq,bA];lia,λz=>?_,λx hx=>?_}
   ·rw[sb.2 b (aI (aF e))];exact kp b o e
   ·rw[et,aP,<-hH.mem,ax,(py.map (·.1)).mem_iff,bw,aH];exact Or.comm
   ·rcases aH.mp (py.mem_iff.mp hx)with rfl|hx
    ·exact⟨i,IF,kD⟩
    ·exact hH.Jw x hx
end
end
section
variable{prog:Program}{w:World}
abbrev EY(prog:Program)(w:World)(x:Str×Tok):Int×Value:=((-85).hash x.1,.str x.1 x.2)
structure CA(prog:Program)(w:World)(h:Heap)(a:Addr)(o:Obj)(es:Array (Int×Value))(ep:Nat)(t:SetTable)(xs:List (Str×Tok)):Prop where
 ob:h.get? a=some o
 ex:o.ExactSet
 data:o.data=.set es ep t
 en:es.toList=xs.map (EY prog w)
 gC:xs.length<=1000
 fits:t.fits es.size=true
 pl:t.plain=false\/xs=[]
 led:t.led=lN w
def acx{es:List (Int×Value)}{xs:List (Str×Tok)}(h:es=xs.map (EY prog w)):ElemsOf (-85) es:=λe he=>by rw[h]at he;obtain⟨x,_,rfl⟩:=ar.mp he;exact{{x.1,mx _ _ _ _,rfl},rfl}
def ZQ(t:SetTable)(es:Array (Int×Value))(h:Int)(x:Value):(layNew t es h x).2.1.led=t.led:=by
 unfold layNew SetTable.orStandIn;split
 ·dsimp only;split<;>rfl
 ·rfl
def Rq(t:SetTable)(es:Array (Int×Value))(n:Nat)(h:t.plain=false):(relayAll t es n).2.1.led=t.led/\(relayAll t es n).2.1.plain=false:=by
 unfold relayAll;split
 ·next t' order q=>
  dsimp only;split
  ·unfold SetTable.relaid SetTable.laid at q;simp only[bind,Option.bind]at q;split at q
   ·cases q
   ·cases q;exact⟨rfl,h⟩
  ·exact⟨rfl,rfl⟩
 ·exact⟨rfl,rfl⟩
end
end Tb
namespace Tb
open PySem PySem.SetTable
def He:entryFor table "set.__iter__"=some Builtin.«frozenset.__iter__»:=
 zA (id':="frozenset.__iter__") (by kernel_rfl) rfl (-3) (by kernel_rfl)
def ff:Slot "set_iterator" "__next__" "set_iterator.__next__":=
 .of (owner:="set_iterator") (n:="__next__") (by rw[m7,jD];kernel_rfl) (-3) (-3) (-3)
  (by first|exact .inl (by decide+kernel)|exact .inr (by decide+kernel)) (by rw[zg];kernel_rfl)
def nB:entryFor table "set_iterator.__next__"=some Builtin.«set_iterator.__next__»:=entryFor_of_tree (by kernel_rfl)
def oX(a:Value):argsOk "set_iterator.__next__" {[a],[]}:=by unfold argsOk;kernel_rfl
def yQ:Slot "set_iterator" "__iter__" "set_iterator.__iter__":=
 .of (owner:="set_iterator") (n:="__iter__") (by rw[m7,jD];kernel_rfl) (-3) (-3) (-3)
  (by first|exact .inl (by decide+kernel)|exact .inr (by decide+kernel)) (by rw[zg];kernel_rfl)
def Gg:entryFor table "set_iterator.__iter__"=some Builtin.«dict_keyiterator.__iter__»:=
 zA (id':="dict_keyiterator.__iter__") (by kernel_rfl) rfl (-3) (by kernel_rfl)
def Hs(a:Value):argsOk "set_iterator.__iter__" {[a],[]}:=by unfold argsOk;kernel_rfl
def Y6:typeLookup (.type "set") "__len__"=pure (some (.builtin "set.__len__")):=by rw[m7,jD];kernel_rfl
section
variable{prog:Program}{w:World}{A:Around}{E:Aac}{s:Shared}
structure Sat(w:World)(h:Heap)(S:Addr)(es:Array (Int×Value))(ep:Nat)(t:SetTable):Prop where
 ob:∃o,h.get? S=some o/\o.ExactSet/\o.data=.set es ep t
 fits:t.fits es.size=true
 lr:w.params.followText "set-order"=false->(-62)=false->t.led=true/\oq t.place
def Sat.keep{S:Addr}(x:Sat w h S es ep t)(k:∀o,h.get? S=some o->h'.get? S=some o):Sat w h' S es ep t:=by obtain⟨⟨o,ho,r⟩,a,b⟩:=x;exact{{o,k o ho,r},a,b}
def Sat.state{S:Addr}(x:Sat w s.heap S es ep t)(h:Q (es,ep,t) s):wpAny (-5) A (setState S) Q E s:=by obtain⟨⟨o,ho,_,hd⟩,hf,_⟩:=x;exact pB ho hd hf h
def Bs(h:Q (w.params.followText "set-order") s):wpAny (-5) A setsByText Q E s:=by exact ae (wb (ag h))
def vL(w:World)(S:Addr)(es:Array (Int×Value))(ep:Nat):List (Int×Value):=if w.params.followText "set-order"=true then(pickOrder (w.params.setOrder S ep) es).toList else es.toList
def yj(w:World)(t:SetTable):Nat->Nat
 |0=>0
 |i+1=>if w.params.followText "set-order"=true then 0 else t.place.getD i 0+1
def Ao(w:World)(S:Addr)(es:Array (Int×Value))(ep:Nat):(vL w S es ep).Perm es.toList:=by
 unfold vL;split
 ·exact Rv _ _
 ·exact .refl _
def J5(t:SetTable):Nat->Nat
 |0=>0
 |i+1=>t.place.getD i 0+1
def WO(hr:oq t.place):∀i,i<=t.place.size->below t.place (J5 t i)=i:=by
 intro i hi;obtain⟨h1,h2,h3⟩:=vV hr (J5 t i);generalize eb:below t.place (J5 t i)=b at h1 h2 h3⊢;rcases lA b i with c|c|c
 ·cases i with
  |zero=>lia
  |succ i=>
   have:=h3 b (ak _) ∅;rw[show J5 t (i+1)=t.place.getD i 0+1 from rfl]at this;by_cases e:b=i
   ·rw[e]at this;lia
   ·have:=hr b i ∅ ∅;lia
 ·exact c
 ·have:=h2 i c;cases i with
  |zero=>rw[show J5 t 0=0 from rfl]at this;lia
  |succ i=>
   rw[show J5 t (i+1)=t.place.getD i 0+1 from rfl]at this;have:=hr i (i+1) ∅ ∅;lia
def M6{S:Addr}(x:Sat w s.heap S es ep t)(hi:i<=es.size)(hd:w.params.followText "set-order"=true\/(-62)=false)
  (h:Q ((vL w S es ep)[i]?.map λe=>(e.2,yj w t (i+1))) s):wpAny (-5) A (setNext S (yj w t i) i ep) Q E s:=by
 refine ae (x.state ?_);refine ae (Bs ?_);by_cases c:w.params.followText "set-order"=true
 ·rw[aG c];rw[aw (-8)];refine ae ?_;refine ae (x.state ?_);refine ae (Bs ?_);rw[aG c];refine ae (wb (ag (ag ?_)));have e1:vL w S es ep=(pickOrder (w.params.setOrder S ep) es).toList:=aG c;have e2:yj w t (i+1)=yj w t i:=by
   cases i with
   |zero=>exact aG c
   |succ i=>exact(aG c).trans (aG c).symm
  rw[e1,e2,bF]at h;exact h
 ·rw[aw c];have sd:=hd.resolve_left c;have cf:=gX.mpr c;have fz:=x.fits;have sz:t.place.size=es.size:=by have:=(mG.mp fz).1;exact iq this
  show wpAny (-5) A (if(-62)=true then _ else _) Q E s;rw[sd];refine ae ?_;show wpAny (-5) A (if(!t.led&&!es.isEmpty)=true then _ else _) _ E s;rw[(x.lr cf sd).1];refine ag (ag ?_);have e0:yj w t i=J5 t i:=by
   cases i with
   |zero=>rfl
   |succ i=>exact aw c
  rw[e0,WO (x.lr cf sd).2 i ∅];have e1:vL w S es ep=es.toList:=aw c;rw[e1,bF]at h;by_cases lt:i<es.size
  ·have g1:=br lt;have g3:yj w t (i+1)=t.place.getD i 0+1:=aw c;rw[g1]at h⊢;rw[(getD_some.mpr {by lia,rfl})];rw[d7,g3]at h;exact h
  ·have g1:es[i]?=none:=k8 ∅;rw[g1]at h⊢;exact h
def HL(hT:s.TypeIs (.ref I) "set_iterator")(h:Q (.ref I) s):wpAny (-5) A (pyIter (.ref I)) Q E s:=by refine pC hT yQ (bp yQ hT Gg ?_ (Hs _));exact ag {_,rfl,"set_iterator",_,hT,ff.lookup,h}
abbrev pb(first:Value)(i:Nat)(S:Addr)(n ep:Nat):Obj:={cls:=.type "set_iterator",data:=.fields #[first,.int i 0,.ref S,.int n 0,.int ep 0]}
def CW(hh:A.handled=none)(k:∀(h':Heap)(e:Addr),(∀b o,h.get? b=some o->h'.get? b=some o)->(∃o,h'.get? e=some o/\o.cls=.type "StopIteration")->E (.ref e) {s with heap:=h'}):
  wpAny (-5) A (newExc (.type "StopIteration") []>>=λe=>(raiseNew e:Sem α)) Q E {s with heap:=h}:=by
 refine ae ?_;refine ae (bX ?_ (by size_fits));refine ae (DE (by first|rfl|(simp only[firstArgMember];rfl)) ?_);refine bX ?_ (by size_fits);refine ae (wpAny_handled ?_);rw[hh];exact ae (ag (wpAny_throw (k _ _ (λb o e=>ah _ (ah _ e)) {_,aE _ rfl,rfl})))
def vJ{h:Heap}(ho:h.get? a=some {cls:=cls,data:=.fields vs}):(h.update a (Obj.mapFields (·.setIfInBounds i x))).get? a=some {cls:=cls,data:=.fields (vs.setIfInBounds i x)}:=cD _ ho rfl
def acO(hh:A.handled=none){S I:Addr}(ne:S≠I)(hd:w.params.followText "set-order"=true\/(-62)=false):
  WalksS prog w A I [I,S] [I] (λa b=>b=a) es.size (λi v=>((vL w S es ep).map (·.2))[i]?=some v) (λi s=>Sat w s.heap S es ep t/\s.heap.get? I=some (pb (.int (yj w t i) 0) i S es.size ep)) where
 sub:=λb hb=>ax.mp hb▸aA
 grefl:=λ_=>rfl
 gtrans:=λ_ _ _ h1 h2=>h2.trans h1
 frame:=λi s h' tk st _ hk=>{st.1.keep λo e=>hk S (-8) o e,hk I (-8) _ st.2}
 item:=by
  intro i s Q E hi ⟨x,hI⟩ k;have hT:s.TypeIs (.ref I) "set_iterator":=⟨_,hI,rfl⟩;refine ae (-49);refine ae (ae (ag (ag ?_)));refine ae (jf hI rfl ?_);refine ae ?_;refine ae (x.state (ag ?_));rw[aw (-8)];simp only[da];refine ae (M6 x (bo hi) hd ?_);have lo:i<(vL w S es ep).length:=by rw[(Ao w S es ep).length_eq,aM];exact hi
  rw[ao lo,d7];refine ae (fN hI rfl (-8) ?_);have hI1:=vJ (i:=0) (x:=rawInt (yj w t (i+1))) hI;refine ae (fN hI1 rfl (-8) ?_);refine ag {_,rfl,ag ?_};have y0:∀b o,b≠I->s.heap.get? b=some o->((s.heap.update I (Obj.mapFields (·.setIfInBounds 0 (rawInt (yj w t (i+1)))))).update I (Obj.mapFields (·.setIfInBounds 1 (rawInt ((i:Int)+1))))).get? b=some o:=λb o nb e=>(-86).trans ((-86).trans e);refine k _ _ (by rw[aL,ao lo];rfl) {x.keep λo e=>y0 S o ne e,?_} {λb o hb e=>y0 b o (λz=>hb (ax.mpr z)) e,rfl,rfl,rfl,ak _};exact(vJ (i:=1) (x:=rawInt ((i:Int)+1)) hI1)
 done:=by intro s Q E ⟨x,hI⟩ k;have hT:s.TypeIs (.ref I) "set_iterator":=⟨_,hI,rfl⟩;refine ae (-49);refine ae (ae (ag (ag ?_)));refine ae (jf hI rfl ?_);refine ae ?_;refine ae (x.state (ag ?_));rw[aw (-8)];simp only[da];refine ae (M6 x (ak _) hd ?_);have lo:=gk (by rw[(Ao w S es ep).length_eq,aM];exact ak _);rw[lo,Option.map_none];refine ae (fN hI rfl (-8) ?_);have y0:∀b o,b≠I->s.heap.get? b=some o->(s.heap.update I (Obj.mapFields (·.setIfInBounds 2 Value.none))).get? b=some o:=λb o nb e=>(-86).trans e;refine CW (show A.in1.handled=none from hh) λh' e kp aey=>?_;obtain⟨o,ho,hc⟩:=aey;refine ae (gu ⟨o,ho,hc⟩ kz (ag (k _ {λb o hb q=>kp b o (y0 b o (λz=>hb (ax.mpr z)) q),rfl,rfl,rfl,ak _})))
 self:=by intro i s Q E ⟨x,hI⟩ h;exact HL ⟨_,hI,rfl⟩ h
def acN(hh:A.handled=none){S I T:Addr}(ne:S≠I)(nT:T≠I){ps:List Nat}(hp:ps.Perm (List.range es.size)):
  WalksS prog w A I [I,S,T] [I] (λa b=>b=a) es.size (λi v=>((ps.filterMap (es[·]?)).map (·.2))[i]?=some v) (λi s=>Sat w s.heap S es ep t/\s.heap.get? I=some (pb (.ref T) i S es.size ep)/\s.heap.get? T=some {cls:=.type "tuple",data:=.seq (ps.map λ(i:Nat)=>rawInt i).toArray}) where
 sub:=λb hb=>ax.mp hb▸aA
 grefl:=λ_=>rfl
 gtrans:=λ_ _ _ h1 h2=>h2.trans h1
 frame:=λi s h' tk st _ hk=>{st.1.keep λo e=>hk S (-8) o e,hk I (-8) _ st.2.1,hk T (-8) _ st.2.2}
 item:=by
  intro i s Q E hi ⟨x,hI,Yk⟩ k;have hT:s.TypeIs (.ref I) "set_iterator":=⟨_,hI,rfl⟩;refine ae (-49);refine ae (ae (ag (ag ?_)));refine ae (jf hI rfl ?_);refine ae ?_;refine ae (x.state (ag ?_));rw[aw (-8)];simp only[da];refine ae (cu Yk rfl ?_);have lp:ps.length=es.size:=by rw[hp.length_eq,j7]
  have li:i<ps.length:=by lia
  have lpi:=dv.mp (hp.mem_iff.mp (gJ li));have e1:((ps.map λ(i:Nat)=>rawInt i).toArray)[i]?=some (.int (ps[i]:Nat) 0):=by simp[li,rawInt]
  dsimp only;rw[e1];refine ae ?_;refine ae (x.state ?_);dsimp only;rw[aw (-8)];simp only[da];rw[br lpi];refine ag ?_;refine ae (fN hI rfl (-8) ?_);refine ag {_,rfl,ag ?_};have y0:∀b o,b≠I->s.heap.get? b=some o->(s.heap.update I (Obj.mapFields (·.setIfInBounds 1 (rawInt ((i:Int)+1))))).get? b=some o:=λb o nb e=>(-86).trans e;refine k _ _ ?_ {x.keep λo e=>y0 S o ne e,(vJ (i:=1) (x:=rawInt ((i:Int)+1)) hI),y0 T _ nT Yk} {λb o hb e=>y0 b o (λz=>hb (ax.mpr z)) e,rfl,rfl,rfl,ak _};have all:∀(l:List Nat),(∀p∈l,p<es.size)->∀j:Nat,(l.filterMap (es[·]?))[j]?=(l[j]?).bind (es[·]?):=by
   intro l
   induction l with
   |nil=>intro _ j;simp
   |cons p l ih=>
    intro hl j;have lp:=hl p aA;rw[fV,br lp];cases j with
    |zero=>simp[lp]
    |succ j=>
     exact ih (λq hq=>hl q (aB _ hq)) j
  rw[aL,all ps (λp hq=>dv.mp (hp.mem_iff.mp hq)) i,ao li];simp[lpi]
 done:=by
  intro s Q E ⟨x,hI,Yk⟩ k;have hT:s.TypeIs (.ref I) "set_iterator":=⟨_,hI,rfl⟩;refine ae (-49);refine ae (ae (ag (ag ?_)));refine ae (jf hI rfl ?_);refine ae ?_;refine ae (x.state (ag ?_));rw[aw (-8)];simp only[da];refine ae (cu Yk rfl ?_);have lp:ps.length=es.size:=by rw[hp.length_eq,j7]
  have e1:((ps.map λ(i:Nat)=>rawInt i).toArray)[es.size]?=none:=by simp[lp]
  dsimp only;rw[e1];refine ae (fN hI rfl (-8) ?_);refine ae (fN (vJ (i:=0) (x:=rawInt 0) hI) rfl (-8) ?_);have y0:∀b o,b≠I->s.heap.get? b=some o->((s.heap.update I (Obj.mapFields (·.setIfInBounds 0 (rawInt 0)))).update I (Obj.mapFields (·.setIfInBounds 2 Value.none))).get? b=some o:=λb o nb e=>(-86).trans ((-86).trans e);refine CW (show A.in1.handled=none from hh) λh' e kp aex=>?_;obtain⟨o,ho,hc⟩:=aex;refine ae (gu ⟨o,ho,hc⟩ kz (ag (k _ {λb o hb q=>kp b o (y0 b o (λz=>hb (ax.mpr z)) q),rfl,rfl,rfl,ak _})))
 self:=by intro i s Q E ⟨x,hI,_⟩ h;exact HL ⟨_,hI,rfl⟩ h
def LH(hT:s.TypeIs (.ref r) "set")(h:Q false s):wpAny (-5) A (Builtin.List.listLengthHint (.ref r)) Q E s:=by
 refine ae (iD hT Y6 ?_);generalize hid:("set.__len__":String)=id0
 wp_delta
 subst hid;refine ae (gu (b:=true) hT (by rw[zg];kernel_rfl) ?_);refine mZ (λhab=>absurd hab (-9)) (λ_=>?_);refine mZ (λ_=>?_) (λhab=>absurd (-3) hab);exact ae (gZ hT (ag h))
def YS{S:Addr}(x:Sat w s.heap S es ep t)(hn:es.size<=100000)
  (h1:(w.params.followText "set-order"=true\/(-62)=false)->Q (-11) {s with heap:=s.heap.push (pb (.int 0 0) 0 S es.size ep)})
  (h2:∀(ps:List Nat) d,ps.Perm (List.range es.size)->Q (.ref (-19)) {s with heap:=(-28).push (pb (-11) 0 S es.size ep),drawn:=d}):
  wpAny (-5) A (pyIter (.ref S)) Q E s:=by
 obtain⟨o,ho,hex,hd⟩:=x.ob;have hT:s.TypeIs (.ref S) "set":={o,ho,hex.1};refine pC hT F.slot_set_iter (bp F.slot_set_iter hT He ?_ (F.args_set_iter_1 _));unfold Builtin.«frozenset.__iter__» Builtin.Frozenset.slot0 slotArgs;refine ae (ae (ag (ag ?_)));refine ae ?_;refine ae (ae (x.state (ag (ag ?_))));refine ae ?_;refine ae (x.state ?_);refine ae (Bs ?_);refine ag ?_;show wpAny (-5) _ (if(!w.params.followText "set-order"&&(-62))=true then _ else _) _ _ s;by_cases c:(!w.params.followText "set-order"&&(-62))=true
 ·rw[aG c];refine ae (M8 es.size (List.range es.size) s (-8) λps d hp=>?_);refine ae (bX ?_ (by show(ps.map _).toArray.size<=_;rw[aN,af,hp.length_eq,j7,bz];lia));have x2:Sat w (-28) S es ep t:=x.keep λo e=>ah _ e;refine ae ?_;refine ae (Sat.state x2 (ag ?_));refine ae (bX (ag {_,rfl,"set_iterator",_,{_,aE _ rfl,rfl},ff.lookup,?_}));have:=h2 ps d hp;rw[cJ];exact this
 ·rw[aw c];refine ae (ag ?_);refine ae ?_;refine ae (x.state (ag ?_));refine ae (bX (ag {_,rfl,"set_iterator",_,{_,aE _ rfl,rfl},ff.lookup,h1 ?_}));cases q:w.params.followText "set-order"with
  |true=>exact .inl rfl
  |false=>
   rw[q]at c;exact .inr (gX.mpr c)
def NN(l:Aae)(acc:Aaj)(ha:ItemsOf (λi v=>l[i]?=some v) acc l.length):acc.toList=l:=by
 refine pP λi=>?_;by_cases c:i<l.length
 ·have ci:i<acc.size:=ha.1▸c;have:=ha.2 i acc[i] (br ci);rw[this,bF,br ci]
 ·rw[gk (by rw[aM,ha.1];lia),gk ∅]
theorem Rp{α:Type}:∀l:List α,(List.range l.length).filterMap (λi=>l[i]?)=l
 |[]=>rfl
 |x::l=>by rw[bA,yD,fV];show x::_=_;rw[uT];congr 1;exact Rp l
def Qm{S L:Addr}(hh:A.handled=none)(x:Sat w s.heap S es ep t)(hn:es.size<=100000)(NY:L≠S)(hL:s.heap.get? L=some {cls:=.type "list",data:=.seq #[] c₀})
  (hR:∀h' tk d acc c,(∀b o,b≠L->s.heap.get? b=some o->h'.get? b=some o)->h'.get? L=some {cls:=.type "list",dict:=none,data:=.seq acc c,slots:=#[]}->acc.toList.Perm (es.toList.map (·.2))->R (.ok (.ret res)) {s with heap:=h',toks:=tk,drawn:=d}):
  wpAny (-5) A.in1 (Builtin.List.listExtendWith (.ref L) (.ref S) res)
   (λfin s'=>match fin with| .done f=>R (.ok f) s'| .again c'=>c'.quiet=true/\codeAny (-5) A c' R s') (λe s'=>R (.error e) s') s:=by
 obtain⟨o,ho,hex,hd⟩:=x.ob;have hS:=aF ho;have hLl:=aF hL;have key:∀(I:Addr)(fp:Aah)(P:Nat->Value->Prop)(St:Nat->Shared->Prop),WalksS prog w A.in1 I fp [I] (λa b=>b=a) es.size P St->s.heap.objs.size<=I->L∉fp->(∀acc:Aaj,ItemsOf P acc es.size->acc.toList.Perm (es.toList.map (·.2)))->
   ∀(h:Heap)(d:Drawn)(c₁ tk:Nat),(∀b o,b≠L->s.heap.get? b=some o->h.get? b=some o)->h.get? L=some {cls:=.type "list",data:=.seq #[] c₁}->St 0 {s with heap:=h,toks:=tk,drawn:=d}->
   codeAny (-5) A (.builtin "list.extend.loop" {[.ref L,.ref I,res],[]}) R {s with heap:=h,toks:=tk,drawn:=d}:=by
  intro I fp P St W hI nf hP h d c₁ tk hk adE st;refine codeAny_extend_loopS W (by rw[bz];lia) _ nf _ es.size 0 _ _ _ rfl (aQ _) st adE (ItemsOf.nil P) λs' vb c' hm xS afm=>?_;obtain⟨h',g',d',JK,Xp⟩:=s';have eg:=hm.gens;have ed:d'=d:=hm.drawn;have eo:=hm.os;subst eg ed eo;refine hR h' JK d' vb c' (λb o hb e=>hm.heap b o ?_ (hk b o hb e)) xS (hP vb afm);have lt:=aF e;intro q;rcases aH.mp q with q|q
  ·exact hb q
  ·rw[ax.mp q]at lt;exact absurd (ba lt hI) (dP _)
 have tail:∀(I:Addr)(fp:Aah)(P:Nat->Value->Prop)(St:Nat->Shared->Prop),WalksS prog w A.in1 I fp [I] (λa b=>b=a) es.size P St->s.heap.objs.size<=I->L∉fp->(∀acc:Aaj,ItemsOf P acc es.size->acc.toList.Perm (es.toList.map (·.2)))->
   ∀(h:Heap)(d:Drawn),(∀b o,s.heap.get? b=some o->h.get? b=some o)->St 0 {s with heap:=h,drawn:=d}->
   wpAny (-5) A.in1 (Builtin.List.listTouch (.ref L)>>=λ_=>again (.builtin "list.extend.loop" {[.ref L,.ref I,res],[]})) (λfin s'=>match fin with| .done f=>R (.ok f) s'| .again c'=>c'.quiet=true/\codeAny (-5) A c' R s') (λe s'=>R (.error e) s') {s with heap:=h,drawn:=d}:=by
  intro I fp P St W hI nf hP h d hk st;refine ae ?_;have Ym:=hk _ _ hL;refine ae (jw Ym rfl ?_);have Yl:=cD (Obj.mapSeq (·.push Value.none)) Ym rfl;refine jw Yl rfl ?_;have adD:=cD (Obj.mapSeq (·.pop)) Yl rfl;have y0:∀b o,b≠L->h.get? b=some o->((h.update L (Obj.mapSeq (·.push Value.none))).update L (Obj.mapSeq (·.pop))).get? b=some o:=
   λb o hb e=>(bT _ _ (cB hb)).trans ((bT _ _ (cB hb)).trans e)
  exact ag {iS sZ _,key I fp P St W hI nf hP _ d _ s.toks (λb o hb e=>y0 b o hb (hk b o e)) adD (W.frame 0 {s with heap:=h,drawn:=d} _ s.toks st (ak _) λb hb o e=>y0 b o (λz=>nf (z▸hb)) e)}
 have e1:Builtin.List.listSameRef (.ref L) (.ref S)=false:=by simp[Builtin.List.listSameRef,NY]
 have e2:(Value.type "set"==Value.type "list")=false:=by decide
 have e3:(Value.type "set"==Value.type "tuple")=false:=by decide
 refine ae (gZ ({o,ho,hex.1}) ?_);simp only[e1,e2,e3,Bj,gL,kC];refine ae (YS x hn (λhc=>?_) λps d hp=>?_)
 ·have W:=acO (prog:=prog) (A:=A.in1) (ep:=ep) (by simpa using hh) (aI hS) hc;have nf:L∉[s.heap.objs.size,S]:=λhb=>by
   rcases aH.mp hb with q|q
   ·exact absurd q (aI hLl)
   ·exact NY (ax.mp q)
  have hP:∀acc:Aaj,ItemsOf (λi v=>((vL w S es ep).map (·.2))[i]?=some v) acc es.size->acc.toList.Perm (es.toList.map (·.2)):=λacc ha=>by
   have lo:((vL w S es ep).map (·.2)).length=es.size:=by rw[af,(Ao w S es ep).length_eq,aM]
   rw[<-lo]at ha;rw[NN _ acc ha];exact(Ao w S es ep).map _
  have kp:∀b o,s.heap.get? b=some o->(s.heap.push (pb (.int 0 0) 0 S es.size ep)).get? b=some o:=λb o e=>ah _ e;have st:Sat w (s.heap.push (pb (.int 0 0) 0 S es.size ep)) S es ep t/\(s.heap.push (pb (.int 0 0) 0 S es.size ep)).get? s.heap.objs.size=some (pb (.int (yj w t 0) 0) 0 S es.size ep):={x.keep λo e=>kp _ _ e,aE _ rfl};refine ae (bS (LH {o,kp _ _ ho,hex.1} ?_));exact mZ (λ_=>ae (fE (tail _ _ _ _ W (ak _) nf hP _ s.drawn kp st))) (λ_=>ag {iS sZ _,key _ _ _ _ W (ak _) nf hP _ s.drawn c₀ s.toks (λb o _ e=>kp b o e) (kp _ _ hL) st})
 ·have nT:s.heap.objs.size≠s.heap.objs.size+1:=aI (c7 _);have W:=acN (prog:=prog) (w:=w) (A:=A.in1) (ep:=ep) (t:=t) (by simpa using hh) (aI (dU hS)) nT hp;have nf:L∉[s.heap.objs.size+1,S,s.heap.objs.size]:=λhb=>by
   rcases aH.mp hb with q|q
   ·exact absurd q (aI (dU hLl))
   ·rcases aH.mp q with q|q
    ·exact NY q
    ·exact absurd (ax.mp q) (aI hLl)
  have hP:∀acc:Aaj,ItemsOf (λi v=>((ps.filterMap (es[·]?)).map (·.2))[i]?=some v) acc es.size->acc.toList.Perm (es.toList.map (·.2)):=λacc ha=>by
   have hl:(ps.filterMap (es[·]?)).Perm es.toList:=by
    have:=hp.filterMap (es.toList[·]?);rw[<-aM]at this;have e4:(ps.filterMap (es[·]?))=ps.filterMap (es.toList[·]?):=by simp
    rw[e4];rwa [Rp]at this
   have lo:((ps.filterMap (es[·]?)).map (·.2)).length=es.size:=by rw[af,hl.length_eq,aM]
   rw[<-lo]at ha;rw[NN _ acc ha];exact hl.map _
  generalize F3:(-28).push (pb (-11) 0 S es.size ep)=uI;have kp:∀b o,s.heap.get? b=some o->uI.get? b=some o:=λb o e=>by rw[<-F3];exact ah _ (ah _ e)
  have gI:uI.get? (-19)=some (pb (-11) 0 S es.size ep):=by have:=aE (-28) (o:=pb (-11) 0 S es.size ep) rfl;rw[cJ]at this;rw[<-F3];exact this
  have st:Sat w uI S es ep t/\uI.get? (-19)=some (pb (-11) 0 S es.size ep)/\uI.get? s.heap.objs.size=some {cls:=.type "tuple",data:=.seq (ps.map λ(i:Nat)=>rawInt i).toArray}:={x.keep λo e=>kp _ _ e,gI,(by rw[<-F3];exact ah _ (aE _ rfl))};refine ae (bS (LH {o,kp _ _ ho,hex.1} ?_));exact mZ (λ_=>ae (fE (tail _ _ _ _ W (dZ _) nf hP uI d kp st))) (λ_=>ag {iS sZ _,key _ _ _ _ W (dZ _) nf hP uI d c₀ s.toks (λb o _ e=>kp b o e) (kp _ _ hL) st})
def Ek{S:Addr}(hh:A.handled=none)(x:Sat w s.heap S es ep t)(hn:es.size<=100000)
  (h:∀h' tk d vs,vs.Perm (es.toList.map (·.2))->(∀b o,s.heap.get? b=some o->h'.get? b=some o)->R vs {s with heap:=h',toks:=tk,drawn:=d}):wpAny (-5) A (collect (.ref S)) R E s:=by
 obtain⟨o,ho,hex,hd⟩:=x.ob;refine ae (wpAny_runValue (eM F.entry_proto_collect ?_));refine ae (bX ?_);refine ag {iS F.plain_list_iadd _,eM F.entry_list_iadd ?_};have k1:∀b o,s.heap.get? b=some o->(s.heap.push {cls:=.type "list",data:=.seq ([]:Aae).toArray}).get? b=some o:=λb o e=>ah _ e;have hL:(s.heap.push {cls:=.type "list",data:=.seq ([]:Aae).toArray}).get? s.heap.objs.size=some {cls:=.type "list",data:=.seq #[]}:=aE _ rfl;have key:=Qm (prog:=prog) (s:={s with heap:=s.heap.push {cls:=.type "list",data:=.seq ([]:Aae).toArray}})
  (R:=λ(q:Result)(s':Shared)=>∃(h':Heap)(tk:Nat)(d:Drawn)(vb:Aaj)(c':Nat),q=.ok (.ret (-11))/\s'={s with heap:=h',toks:=tk,drawn:=d}/\
   (∀b o,s.heap.get? b=some o->h'.get? b=some o)/\h'.get? s.heap.objs.size=some {cls:=.type "list",dict:=none,data:=.seq vb c',slots:=#[]}/\vb.toList.Perm (es.toList.map (·.2)))
  hh (x.keep λo e=>k1 _ _ e) hn (bD (aF ho)) hL λh' tk d acc c kp g pm=>{h',tk,d,acc,c,rfl,rfl,λb o e=>kp b o (aI (aF e)) (k1 _ _ e),g,pm}
 refine dh key (λfin s' x=>?_) λe s' x=>?_
 ·cases fin with
  |done f=>
   obtain⟨h',tk,d,vb,c',e,rfl,hk,xS,pm⟩:=x;cases e;exact ae (Fe xS (ag (h h' tk d vb.toList pm hk)))
  |again c₁=>
   refine{x.1,lR x.2 λq aae y=>?_};obtain⟨h',tk,d,vb,c',rfl,rfl,hk,xS,pm⟩:=y;exact ae (Fe xS (ag (h h' tk d vb.toList pm hk)))
 ·obtain⟨_,_,_,_,_,e',_⟩:=x;cases e'
end
end Tb
namespace OP
open PySem PyProof.Rows
def zv:Bool->Keyed->Array Keyed->Nat->Nat->Nat->StateT SortSt Sem (Option Nat):=sortPriv% PySem.Builtin.gallop
def K8:Array Keyed->Array Keyed->StateT SortSt Sem (Array Keyed):=sortPriv% PySem.Builtin.mergeLo
def VD:Array Keyed->Array Keyed->StateT SortSt Sem (Array Keyed):=sortPriv% PySem.Builtin.mergeHi
structure Ct where
 prog:Program
 w:World
 A:Around
 J:Shared->Prop
 κ:SortKind
 rk:Keyed->Nat
 In:Keyed->Prop
 lt:∀x y,In x->In y->∀s,J s->wpAny (-5) A (keyLt' κ x.1 y.1) (λb s'=>b=decide (rk x<rk y)/\J s') (λ_ _=>False) s
variable{C:Ct}
def W(C:Ct)(m:StateT SortSt Sem α)(Q:α->SortSt->Prop)(st:SortSt):Prop:=
 ∀s,C.J s->wpAny (model C.prog C.w) C.A (m.run st) (λr s'=>C.J s'/\Q r.1 r.2) (λ_ _=>False) s
section
variable{α β:Type}{Q:α->SortSt->Prop}{st:SortSt}
def W.pure(h:Q a st):W C (pure a) Q st:=λs j=>by rw[StateT.run_pure];exact ag ⟨j,h⟩
def W.bind(h:W C m (λb js=>W C (f b) Q js) st):W C (m>>=f) Q st:=λs j=>by rw[StateT.run_bind];exact ae (dh (h s j) (λr s' x=>x.2 s' x.1) λ_ _ e=>e)
def W.mono(h:W C m Q' st)(k:∀a js,Q' a js->Q a js):W C m Q st:=λs j=>
 dh (h s j) (λr s' x=>{x.1,k _ _ x.2}) λ_ _ e=>e
def W.get{Q:SortSt->SortSt->Prop}(h:Q st st):W C (get:StateT SortSt Sem SortSt) Q st:=λs j=>by rw[StateT.run_get];exact ag ⟨j,h⟩
def W.modify{Q:PUnit->SortSt->Prop}(h:Q ⟨⟩ (f st)):W C (modify f:StateT SortSt Sem PUnit) Q st:=λs j=>by rw[StateT.run_modify];exact ag ⟨j,h⟩
def W.rl{Q:PUnit->SortSt->Prop}(h:Q ⟨⟩ st):W C (liftM (PySem.rule r:Sem PUnit):StateT SortSt Sem PUnit) Q st:=λs j=>by show wpAny _ _ ((StateT.lift (PySem.rule r:Sem PUnit):StateT SortSt Sem PUnit).run st) _ _ s;rw[StateT.run_lift];exact ae (fE (ag ⟨j,h⟩))
def W.lt{Q:Option Bool->SortSt->Prop}(hk:kindOf st=C.κ)(hx:C.In x)(hy:C.In y)(h:Q (some (decide (C.rk x<C.rk y))) st):W C (lt' x y) Q st:=by rw[lt'_eq];refine W.bind (W.get ?_);rw[hk];refine W.bind λs j=>?_;show wpAny _ _ ((StateT.lift _:StateT SortSt Sem _).run st) _ _ s;rw[StateT.run_lift];refine ae (d0 (dh (C.lt x y hx hy s j) (λb s' q=>?_) λ_ _ e=>e.elim));obtain⟨rfl,j'⟩:=q;exact ag {j',W.pure h}
def W.elem{Q:Keyed->SortSt->Prop}(hi:i<a.size)(h:Q a[i] st):W C (elem' a i) Q st:=by rw[elem'_eq,getElem?_pos a i hi];exact W.pure h
def W.for(I:Nat->β->SortSt->Prop){Q:β->SortSt->Prop}
  (hs:∀i c st,a<=i->i<b->I i c st->W C (f i c) (λr js=>match r with| .done c'=>Q c' js| .yield c'=>I (i+1) c' js) st)
  (he:∀c st,I (max a b) c st->Q c st) (h:I a c st):W C (forIn [a:b] c f) Q st:=by
 rw[mX];have hsz:([a:b]:Std.Legacy.Range).size=b -a:=by simp[Std.Legacy.Range.size]
 show W C (forIn (List.range' a ([a:b]:Std.Legacy.Range).size 1) c f) Q st;rw[hsz]
 suffices go:∀n i c st,a<=i->i+n=max a b->I i c st->W C (forIn (List.range' i n 1) c f) Q st from go (b -a) a c st (ak _) ∅ h
 intro n
 induction n with
 |zero=>
  intro i c st _ e h;rw[List.range'_zero,List.forIn_nil];rw[show i=max a b by lia]at h;exact W.pure (he _ _ h)
 |succ n ih=>
  intro i c st ha e h;rw[List.range'_succ,List.forIn_cons];refine W.bind (W.mono (hs i c st ha ∅ h) λr js x=>?_);cases r with
  |done c'=>exact W.pure x
  |yield c'=>exact ih (i+1) c' js ∅ ∅ x
end
variable{C:Ct}
def IZ(C:Ct)(left:Bool)(key x:Keyed):Bool:=if left then decide (C.rk x<C.rk key)else !decide (C.rk key<C.rk x)
def acQ{st:SortSt}(hk:kindOf st=C.κ)(lQ:C.In key)(hi:i<arr.size)(iI:C.In arr[i])(h:Q (some (IZ C left key arr[i])) st):W C (do
  let x<-elem' arr i
  if left=true then lt' x key else do
   let r<-lt' key x
   pure (r.map (!·))) Q st:=by
 refine W.bind (W.elem hi ?_);cases left with
 |true=>exact W.lt hk iI lQ h
 |false=>exact W.bind (W.lt hk lQ iI (W.pure h))
def gB(C:Ct)(left:Bool)(key:Keyed)(arr:Array Keyed)(i:Nat):Bool:=(arr[i]?).elim false (IZ C left key)
def JD{st:SortSt}(hk:kindOf st=C.κ)(lQ:C.In key)(iI:∀x∈arr,C.In x)(hb:base+n<=arr.size)(hh:hint<n)
  (mono:∀i j,i<=j->j<n->gB C left key arr (base+j)=true->gB C left key arr (base+i)=true)
  (h:∀k,k<=n->(∀i,i<k->gB C left key arr (base+i)=true)->(∀i,k<=i->i<n->gB C left key arr (base+i)=false)->Q (some k) st):W C (zv left key arr base n hint) Q st:=by
 have bb:∀{i:Nat}{Q:Option Bool->SortSt->Prop}(q:i<n),Q (some (gB C left key arr (base+i))) st->W C (do
  let x<-elem' arr (base+i)
  if left=true then lt' x key else do
   let r<-lt' key x
   pure (r.map (!·))) Q st:=λ{i Q} q x=>acQ hk lQ ∅ (iI _ (dc ∅)) (by
    unfold gB at x;rw[getElem?_pos arr (base+i) ∅]at x;exact x)
 have nm:∀i j,i<=j->j<n->gB C left key arr (base+i)=false->gB C left key arr (base+j)=false:=λi j h1 h2 e=>by
  cases e2:gB C left key arr (base+j)with
  |false=>rfl
  |true=>rw[mono i j h1 h2 e2]at e;cases e
 generalize gB C left key arr=B at mono h bb nm;refine W.bind (bb hh ?_);have fin:∀{lo hi:Nat},lo<=hi->hi<=n->(∀i,i<lo->B (base+i)=true)->(∀i,hi<=i->i<n->B (base+i)=false)->∀{f:Nat->Option (Option Nat)×Nat×Nat->StateT SortSt Sem (ForInStep (Option (Option Nat)×Nat×Nat))}{g:Option (Option Nat)×Nat×Nat->StateT SortSt Sem (Option Nat)},
   (∀x lo hi(P:ForInStep (Option (Option Nat)×Nat×Nat)->SortSt->Prop),lo<=hi->hi<=n->(lo≥hi->P (.done (none,lo,hi)) st)->(lo<hi->(B (base+(lo+(hi -lo)/2))=true->P (.yield (none,lo+(hi -lo)/2+1,hi)) st)/\(B (base+(lo+(hi -lo)/2))=false->P (.yield (none,lo,lo+(hi -lo)/2)) st))->W C (f x (none,lo,hi)) P st)->
   (∀lo hi,W C (pure (some hi)) Q st->W C (g (none,lo,hi)) Q st)->W C (forIn [0:n] (none,lo,hi) f>>=g) Q st:=by
  intro lo hi h1 h2 h3 h4 f g hf hg;refine W.bind (W.mono (W.for (I:=λx c s'=>s'=st/\∃lo hi,c=(none,lo,hi)/\lo<=hi/\hi<=n/\hi -lo<=n -x/\(∀i,i<lo->B (base+i)=true)/\(∀i,hi<=i->i<n->B (base+i)=false))
   (Q:=λc s'=>s'=st/\∃hi,c=(none,hi,hi)/\hi<=n/\(∀i,i<hi->B (base+i)=true)/\(∀i,hi<=i->i<n->B (base+i)=false)) ?_ ?_ {rfl,lo,hi,rfl,h1,h2,by lia,h3,h4}) ?_)
  ·rintro x c s' _ hx ⟨rfl,lo,hi,rfl,a1,a2,a3,a4,a5⟩;exact hf x lo hi _ a1 a2 (λq=>{rfl,hi,by rw[show lo=hi by lia],a2,λi q=>a4 i ∅,a5}) λq=>{λe=>{rfl,_,_,rfl,by lia,a2,by lia,λi q=>mono i _ ∅ ∅ e,a5},λe=>{rfl,_,_,rfl,by lia,by lia,by lia,a4,λi q z=>nm _ i q z e}}
  ·rintro c s' ⟨rfl,lo,hi,rfl,a1,a2,a3,a4,a5⟩;have:lo=hi:=by lia
   subst this;exact⟨rfl,_,rfl,a2,a4,a5⟩
  ·rintro c s' ⟨rfl,hi,rfl,a2,a4,a5⟩;exact hg _ _ (W.pure (h hi a2 a4 a5))
 cases e0:B (base+hint)with
 |true=>
  refine W.bind (W.mono (W.for (I:=λx c s'=>s'=st/\∃l o,c=(none,l,o)/\l<o/\x<=l/\hint+l<n/\B (base+(hint+l))=true)
   (Q:=λc s'=>s'=st/\∃l o,c=(none,l,o)/\l<o/\hint+l<n/\B (base+(hint+l))=true/\(n -hint<=o\/B (base+(hint+o))=false)) ?_ ?_ {rfl,0,1,rfl,by lia,by lia,by lia,e0}) ?_)
  ·rintro x c s' _ hx ⟨rfl,l,o,rfl,a1,a2,a3,a4⟩;by_cases c:o≥n -hint
   ·dsimp only;rw[aG c];exact W.pure {rfl,l,o,rfl,a1,a3,a4,.inl c}
   ·dsimp only;rw[aw c];refine W.bind (bb ∅ ?_);cases e1:B (base+(hint+o))with
    |true=>exact W.pure {rfl,o,2*o+1,rfl,by lia,by lia,by lia,e1}
    |false=>exact W.pure {rfl,l,o,rfl,a1,a3,a4,.inr e1}
  ·rintro c s' ⟨rfl,l,o,rfl,a1,a2,a3,a4⟩;lia
  ·rintro c s' ⟨rfl,l,o,rfl,a1,a3,a4,a5⟩;refine fin (lo:=hint+l+1) (hi:=hint+min o (n -hint)) ∅ ∅ (λi q=>mono i _ ∅ a3 a4) (λi q z=>?_) (λx lo hi P a1 a2 p1 p2=>?_) λlo hi x=>x
   ·rcases a5 with a5|a5
    ·lia
    ·exact nm _ i ∅ z a5
   ·by_cases c:lo≥hi
    ·dsimp only;rw[aG c];exact W.pure (p1 c)
    ·dsimp only;rw[aw c];refine W.bind (bb ∅ ?_);cases e1:B (base+(lo+(hi -lo)/2))with
     |true=>exact W.pure ((p2 ∅).1 e1)
     |false=>exact W.pure ((p2 ∅).2 e1)
 |false=>
  refine W.bind (W.mono (W.for (I:=λx c s'=>s'=st/\∃l o,c=(none,l,o)/\l<o/\x<=l/\l<=hint/\B (base+(hint -l))=false)
   (Q:=λc s'=>s'=st/\∃l o,c=(none,l,o)/\l<o/\l<=hint/\B (base+(hint -l))=false/\(hint+1<=o\/B (base+(hint -o))=true)) ?_ ?_ {rfl,0,1,rfl,by lia,by lia,by lia,e0}) ?_)
  ·rintro x c s' _ hx ⟨rfl,l,o,rfl,a1,a2,a3,a4⟩;by_cases c:o≥hint+1
   ·dsimp only;rw[aG c];exact W.pure {rfl,l,o,rfl,a1,a3,a4,.inl c}
   ·dsimp only;rw[aw c];refine W.bind (bb ∅ ?_);cases e1:B (base+(hint -o))with
    |true=>exact W.pure {rfl,l,o,rfl,a1,a3,a4,.inr e1}
    |false=>exact W.pure {rfl,o,2*o+1,rfl,by lia,by lia,by lia,e1}
  ·rintro c s' ⟨rfl,l,o,rfl,a1,a2,a3,a4⟩;lia
  ·rintro c s' ⟨rfl,l,o,rfl,a1,a3,a4,a5⟩;refine fin (lo:=hint+1 -min o (hint+1)) (hi:=hint -l) ∅ ∅ (λi q=>?_) (λi q z=>nm _ i ∅ z a4) (λx lo hi P a1 a2 p1 p2=>?_) λlo hi x=>x
   ·rcases a5 with a5|a5
    ·lia
    ·exact mono i _ ∅ ∅ a5
   ·by_cases c:lo≥hi
    ·dsimp only;rw[aG c];exact W.pure (p1 c)
    ·dsimp only;rw[aw c];refine W.bind (bb ∅ ?_);cases e1:B (base+(lo+(hi -lo)/2))with
     |true=>exact W.pure ((p2 ∅).1 e1)
     |false=>exact W.pure ((p2 ∅).2 e1)
section
variable{α:Type}{r:α->α->Prop}{la lb out:List α}{ia ib:Nat}
structure Mg(r:α->α->Prop)(la lb out:List α)(ia ib:Nat):Prop where
 pm:out.Perm (la.take ia++lb.take ib)
 so:out.Pairwise r
 ga:∀x∈out,∀y∈la.drop ia,r x y
 gb:∀x∈out,∀y∈lb.drop ib,r x y
def Mg.swap(h:Mg r la lb out ia ib):Mg r lb la out ib ia:={h.pm.trans jJ,h.so,h.gb,h.ga}
def Mg.go(h:Mg r la lb out ia ib)(hs:la.Pairwise r)(k:Nat)(c:∀x∈(la.drop ia).take k,∀y∈lb.drop ib,r x y):Mg r la lb (out++(la.drop ia).take k) (ia+k) ib:=by
 have s2:=hs.sublist (vE ia la);rw[<-(dM k (la.drop ia))]at s2;obtain⟨s3,s4,s5⟩:=kg.mp s2;rw[List.drop_drop]at s5;have m2:∀y∈la.drop (ia+k),y∈la.drop ia:=λy hy=>by rw[<-List.drop_drop]at hy;exact List.mem_of_mem_drop hy
 refine{?_,kg.mpr {h.so,s3,λx hx y hy=>h.ga x hx y ((λy hy=>kh hy) y hy)},λx hx y hy=>?_,λx hx y hy=>?_}
 ·rw[List.take_add];refine(h.pm.append_right _).trans ?_;rw[dw,dw];exact qX _ jJ
 ·rcases aP.mp hx with hx|hx
  ·exact h.ga x hx y (m2 y hy)
  ·exact s5 x hx y hy
 ·rcases aP.mp hx with hx|hx
  ·exact h.gb x hx y hy
  ·exact c x hx y hy
def Mg.end(h:Mg r la lb out ia ib)(ha:la.Pairwise r)(hb:lb.Pairwise r)(c:∀x∈la.drop ia,∀y∈lb.drop ib,r x y):(out++la.drop ia++lb.drop ib).Perm (la++lb)/\(out++la.drop ia++lb.drop ib).Pairwise r:=by
 constructor
 ·rw[dw];refine(h.pm.append_right _).trans ?_
  conv=>rhs;rw[<-dM ia la,<-dM ib lb]
  rw[dw,dw];refine qX _ ?_;rw[<-dw,<-dw];exact yH _ jJ
 ·refine kg.mpr {kg.mpr {h.so,ha.sublist (vE _ _),h.ga},hb.sublist (vE _ _),λx hx y hy=>?_};rcases aP.mp hx with hx|hx
  ·exact h.gb x hx y hy
  ·exact c x hx y hy
end
variable{C:Ct}
def Res(C:Ct)(a b m:Array Keyed):Prop:=m.toList.Perm (a.toList++b.toList)/\m.toList.Pairwise λx y=>C.rk x<=C.rk y
abbrev So(C:Ct)(a:Array Keyed):Prop:=a.toList.Pairwise λx y=>C.rk x<=C.rk y
abbrev Rk(C:Ct)(x y:Keyed):Prop:=C.rk x<=C.rk y
def So.at(h:So C a)(hj:j<a.size)(q:i<=j):C.rk (a[i]'∅)<=C.rk a[j]:=by
 rcases Nat.lt_or_ge i j with z|z
 ·exact eX.mp h i j (by simpa using(by lia:i<a.size)) (by simpa using hj) z
 ·have:i=j:=by lia
  subst this;exact ak _
def BZ{a:Array Keyed}(h:x∈a.toList.drop n):∃i,∃q:i<a.size,n<=i/\x=a[i]:=by obtain⟨i,hi,e⟩:=eO.mp h;rw[mC,aM]at hi;exact{n+i,by lia,by lia,by rw[<-e];simp}
def R7{a:Array Keyed}(h:x∈(a.toList.drop n).take k):∃i,∃q:i<a.size,n<=i/\i<n+k/\x=a[i]:=by obtain⟨i,hi,e⟩:=eO.mp h;rw[aR,mC,aM]at hi;exact{n+i,by lia,by lia,by lia,by rw[<-e];simp}
section
variable{a b:Array Keyed}{out:List Keyed}{ia ib:Nat}
def Mg.on(m:Mg (Rk C) a.toList b.toList out ia ib)(sa:So C a)(k v:Nat)(hx:∀i,ia<=i->i<ia+k->(q:i<a.size)->C.rk a[i]<=v)(hy:∀j,ib<=j->(q:j<b.size)->v<=C.rk b[j]):Mg (Rk C) a.toList b.toList (out++(a.toList.drop ia).take k) (ia+k) ib:=
 m.go sa k λx zl y Iy=>by obtain⟨i,q,h1,h2,rfl⟩:=R7 zl;obtain⟨j,z,h3,rfl⟩:=BZ Iy;exact aJ (hx i h1 h2 q) (hy j h3 z)
def RM(h:ia<a.size):(a.toList.drop ia).take 1=[a[ia]]:=by rw[ki (by simpa using h)];simp
structure MI(C:Ct)(a b out:Array Keyed)(ia ib:Nat):Prop where
 mg:Mg (Rk C) a.toList b.toList out.toList ia ib
 la:ia+1<a.size
 lb:ib<b.size
end
section
variable{a b out:Array Keyed}{ia ib:Nat}
def Pf(m:Mg (Rk C) a.toList b.toList out.toList ia ib)(sa:So C a)(sb:So C b)(q:ia<a.size)(c:∀z:ib<b.size,C.rk a[ia]<=C.rk b[ib]):Mg (Rk C) a.toList b.toList (out.push a[ia]).toList (ia+1) ib:=by have:=m.on sa 1 (C.rk a[ia]) (λi h1 h2 z=>sa.at q ∅) λj h1 z=>aJ (c ∅) (sb.at z h1);rw[RM q]at this;simpa using this
def Pe(m:Mg (Rk C) a.toList b.toList out.toList ia ib)(sa:So C a)(sb:So C b)(q:ib<b.size)(c:∀z:ia<a.size,C.rk b[ib]<=C.rk a[ia]):Mg (Rk C) a.toList b.toList (out.push b[ib]).toList ia (ib+1):=(Pf m.swap sb sa q c).swap
def Ys:(out++a.extract n (n+k)).toList=out.toList++(a.toList.drop n).take k:=by simp[List.extract_eq_drop_take]
def Gh(m:Mg (Rk C) a.toList b.toList out.toList ia ib)(sa:So C a)(sb:So C b)(c:ib=b.size\/ia=a.size):Res C a b (out++a.extract ia a.size++b.extract ib b.size):=by
 have:=m.end sa sb λx hx y hy=>by obtain⟨i,q,h1,rfl⟩:=BZ hx;obtain⟨j,z,h2,rfl⟩:=BZ hy;lia
 unfold Res;simpa[List.extract_eq_drop_take,cX]using this
def Jz(m:Mg (Rk C) a.toList b.toList out.toList ia ib)(sa:So C a)(sb:So C b)(c:ia+1=a.size)(hl:∀y∈b,C.rk y<C.rk (a[a.size -1]'∅)):Res C a b (out++b.extract ib b.size++a.extract ia a.size):=by
 have:=m.swap.end sb sa λx hx y hy=>by
  obtain⟨i,q,h1,rfl⟩:=BZ hx;obtain⟨j,z,h2,rfl⟩:=BZ hy;have:=hl _ (dc q);have e:j=a.size -1:=by lia
  subst e;lia
 refine{?_,?_}
 ·refine List.Perm.trans ?_ jJ;simpa[List.extract_eq_drop_take,cX]using this.1
 ·simpa[List.extract_eq_drop_take,cX]using this.2
def F9(q:i<arr.size):gB C left key arr i=IZ C left key arr[i]:=by unfold gB;rw[getElem?_pos arr i q];rfl
def Oy(sg:∀i j,base<=i->(z:i<=j)->j<base+n->(q:j<arr.size)->C.rk (arr[i]'∅)<=C.rk arr[j])(hb:base+n<=arr.size):∀i j,i<=j->j<n->gB C left key arr (base+j)=true->gB C left key arr (base+i)=true:=λi j h1 h2 e=>by
 rw[F9 ∅]at e⊢;have:=sg (base+i) (base+j) ∅ ∅ ∅ ∅;unfold IZ at e⊢;cases left
 ·simp at e⊢;lia
 ·simp at e⊢;lia
def M9{st:SortSt}(hk:kindOf st=C.κ)(lQ:C.In key)(iI:∀x∈arr,C.In x)(sg:∀i j,base<=i->(z:i<=j)->j<base+n->(q:j<arr.size)->C.rk (arr[i]'∅)<=C.rk arr[j])(hb:base+n<=arr.size)(hh:hint<n)
  (h:∀k,k<=n->(∀i,base<=i->i<base+k->(q:i<arr.size)->C.rk arr[i]<=C.rk key)->(∀i,base+k<=i->i<base+n->(q:i<arr.size)->C.rk key<C.rk arr[i])->Q (some k) st):W C (zv false key arr base n hint) Q st:=
 JD hk lQ iI hb hh (Oy sg hb) λk hk a1 a2=>h k hk (λi q1 q2 q=>by
  have:=a1 (i -base) ∅;rw[show base+(i -base)=i by lia,F9 q]at this;unfold IZ at this;simpa using this) λi q1 q2 q=>by
  have:=a2 (i -base) ∅ ∅;rw[show base+(i -base)=i by lia,F9 q]at this;unfold IZ at this;simpa using this
def w_left{st:SortSt}(hk:kindOf st=C.κ)(lQ:C.In key)(iI:∀x∈arr,C.In x)(sg:∀i j,base<=i->(z:i<=j)->j<base+n->(q:j<arr.size)->C.rk (arr[i]'∅)<=C.rk arr[j])(hb:base+n<=arr.size)(hh:hint<n)
  (h:∀k,k<=n->(∀i,base<=i->i<base+k->(q:i<arr.size)->C.rk arr[i]<C.rk key)->(∀i,base+k<=i->i<base+n->(q:i<arr.size)->C.rk key<=C.rk arr[i])->Q (some k) st):W C (zv true key arr base n hint) Q st:=
 JD hk lQ iI hb hh (Oy sg hb) λk hk a1 a2=>h k hk (λi q1 q2 q=>by
  have:=a1 (i -base) ∅;rw[show base+(i -base)=i by lia,F9 q]at this;unfold IZ at this;simpa using this) λi q1 q2 q=>by
  have:=a2 (i -base) ∅ ∅;rw[show base+(i -base)=i by lia,F9 q]at this;unfold IZ at this;simpa using this
end
variable{C:Ct}
abbrev GS(st:SortSt)(g:Nat):SortSt:=SortSt.mk' (kindOf st) (-13) (pendingOf st) g (failedOf st)
def W.ite[Decidable c]{x y:StateT SortSt Sem α}{Q:α->SortSt->Prop}{st:SortSt}(h1:c->W C x Q st)(h2:¬c->W C y Q st):W C (if c then x else y) Q st:=by
 by_cases h:c
 ·rw[aG h];exact h1 h
 ·rw[aw h];exact h2 h
section
variable{α β:Type}{Q:α->SortSt->Prop}{st:SortSt}
def W.bE{a:Array Keyed}{i:Nat}{f:Keyed->StateT SortSt Sem α}(hi:i<a.size)(h:W C (f a[i]) Q st):W C (elem' a i>>=f) Q st:=W.bind (W.elem hi h)
def W.bLt{x y:Keyed}{f:Option Bool->StateT SortSt Sem α}(hk:kindOf st=C.κ)(hx:C.In x)(hy:C.In y)(h1:C.rk x<C.rk y->W C (f (some true)) Q st)(h2:¬C.rk x<C.rk y->W C (f (some false)) Q st):W C (lt' x y>>=f) Q st:=W.bind (W.lt hk hx hy (by
 by_cases e:C.rk x<C.rk y
 ·rw[aT e];exact h1 e
 ·rw[bB e];exact h2 e))
def W.OM{r:String}{f:PUnit->StateT SortSt Sem α}(h:W C (f ⟨⟩) Q st):W C ((liftM (PySem.rule r:Sem PUnit):StateT SortSt Sem PUnit)>>=f) Q st:=W.bind (W.rl h)
def W.bM{g:SortSt->SortSt}{f:PUnit->StateT SortSt Sem α}(h:W C (f ⟨⟩) Q (g st)):W C ((_root_.modify g:StateT SortSt Sem PUnit)>>=f) Q st:=W.bind (W.modify h)
def W.bG{f:SortSt->StateT SortSt Sem α}(h:W C (f st) Q st):W C ((MonadState.get:StateT SortSt Sem SortSt)>>=f) Q st:=W.bind (W.get h)
def W.loop{T:Type}{a b:Array Keyed}{lo hi g:Nat}(mc:Option (Array Keyed)->Array Keyed->Nat->Nat->T->β){f:Nat->β->StateT SortSt Sem (ForInStep β)}{k:β->StateT SortSt Sem α}(P:Nat->Array Keyed->Nat->Nat->Prop)(B:Array Keyed->Nat->Nat->Prop){o:Array Keyed}{ia ib:Nat}{t:T}(h0:P lo o ia ib)
  (he:∀o ia ib,P (max lo hi) o ia ib->False)
  (hs:∀i g o ia ib t(E:ForInStep β->SortSt->Prop),P i o ia ib->(∀m g o ia ib t,Res C a b m->E (.done (mc (some m) o ia ib t)) (GS st g))->(∀g o ia ib t,B o ia ib->E (.done (mc none o ia ib t)) (GS st g))->(∀g o ia ib t,P (i+1) o ia ib->E (.yield (mc none o ia ib t)) (GS st g))->W C (f i (mc none o ia ib t)) E (GS st g))
  (k1:∀m g o ia ib t,Res C a b m->W C (k (mc (some m) o ia ib t)) Q (GS st g)) (k2:∀g o ia ib t,B o ia ib->W C (k (mc none o ia ib t)) Q (GS st g)):W C (forIn [lo:hi] (mc none o ia ib t) f>>=k) Q (GS st g):=by
 refine W.bind (W.mono (W.for (I:=λi c s'=>∃g o ia ib t,s'=GS st g/\c=mc none o ia ib t/\P i o ia ib) ?_ ?_ ⟨_,_,_,_,_,rfl,rfl,h0⟩) λ_ _ h=>h)
 ·rintro i c s' _ _ ⟨g,o,ia,ib,t,rfl,rfl,h⟩;exact hs i g o ia ib t _ h k1 k2 λg o ia ib t h=>⟨g,o,ia,ib,t,rfl,rfl,h⟩
 ·rintro c s' ⟨g,o,ia,ib,t,rfl,rfl,h⟩;exact(he _ _ _ h).elim
def W.bR{key:Keyed}{arr:Array Keyed}{base n hint:Nat}{f:Option Nat->StateT SortSt Sem α}(hk:kindOf st=C.κ)(lQ:C.In key)(iI:∀x∈arr,C.In x)(sg:So C arr)(hb:base+n<=arr.size)(hh:hint<n)
  (h:∀k,k<=n->(∀i,base<=i->i<base+k->(q:i<arr.size)->C.rk arr[i]<=C.rk key)->(∀i,base+k<=i->i<base+n->(q:i<arr.size)->C.rk key<C.rk arr[i])->W C (f (some k)) Q st):W C (zv false key arr base n hint>>=f) Q st:=W.bind (M9 hk lQ iI (λ_ _ _ z _ q=>sg.at q z) hb hh h)
def W.bL{key:Keyed}{arr:Array Keyed}{base n hint:Nat}{f:Option Nat->StateT SortSt Sem α}(hk:kindOf st=C.κ)(lQ:C.In key)(iI:∀x∈arr,C.In x)(sg:So C arr)(hb:base+n<=arr.size)(hh:hint<n)
  (h:∀k,k<=n->(∀i,base<=i->i<base+k->(q:i<arr.size)->C.rk arr[i]<C.rk key)->(∀i,base+k<=i->i<base+n->(q:i<arr.size)->C.rk key<=C.rk arr[i])->W C (f (some k)) Q st):W C (zv true key arr base n hint>>=f) Q st:=W.bind (w_left hk lQ iI (λ_ _ _ z _ q=>sg.at q z) hb hh h)
def Qv{T p:Nat->Array Keyed->Prop}{G:Prop}(k:(∀j o,p j o->T j o)->G)(h:∀j o,p j o->T j o):G:=k h
def both{T:Nat->Prop}{G:Prop}(k:(∀z,T z)->G)(h:∀z,T z):G:=k h
end
def QO{st:SortSt}(hk:kindOf st=C.κ)(ha:∀x∈a,C.In x)(hb:∀x∈b,C.In x)(sa:So C a)(sb:So C b)(a1:0<a.size)(b1:0<b.size)(h0:C.rk b[0]<C.rk a[0])(hl:∀y∈b,C.rk y<C.rk a[a.size -1])
  (h:∀m g,Res C a b m->Q m (GS st g)):W C (K8 a b) Q st:=by
 have sw:st=GS st (gallopOf st):=rfl;have SF:∀{i:Nat}(q:i<a.size),C.In a[i]:=λq=>ha _ (dc q);have SE:∀{i:Nat}(q:i<b.size),C.In b[i]:=λq=>hb _ (dc q);unfold K8;refine(W.OM ((W.bE b1 ?_)));have m0:Mg (Rk C) a.toList b.toList (#[b[0]]:Array Keyed).toList 0 1:=by have:Mg (Rk C) a.toList b.toList (#[]:Array Keyed).toList 0 0:={by simp,.nil,(λx hx=>by cases hx),(λx hx=>by cases hx)};have:=Pe this sa sb b1 λz=>bo h0;simpa using this
 refine W.ite (λc=>W.pure (by rw[sw];exact h _ _ (Gh m0 sa sb (.inl (by simpa using c))))) λc1=>?_;refine W.ite (λc=>W.pure (by rw[sw];exact h _ _ (Jz m0 sa sb (by simpa using c) hl))) λc2=>?_;have l1:0+1<a.size:=by simp at c2;lia
 have l2:1<b.size:=by simp at c1;lia
 refine W.bG (W.loop (a:=a) (b:=b) (g:=gallopOf st) (λr o i j t=>(r,o,i,j,t)) (λi o ia ib=>MI C a b o ia ib/\i+1<=ia+ib) (λ_ _ _=>False) {⟨m0,l1,l2⟩,ak 1} ?_ ?_ ?_ λ_ _ _ _ _ h=>h.elim)
 ·rintro o ia ib ⟨⟨_,h1,h2⟩,h3⟩;lia
 ·intro i g o ia ib mg E hM dn _ yd;obtain⟨M,n1⟩:=hM;refine W.loop (T:=Nat×Nat) (λr o i j t=>(r,o,i,j,t)) (λx o i j=>MI C a b o i j/\ia+ib+x<=i+j) (λo i j=>MI C a b o i j/\ia+ib+1<=i+j) {M,ak _} ?_ ?_ (-91) ?_
  ·rintro o ia ib ⟨⟨_,h1,h2⟩,h3⟩;lia
  ·intro x g o ja jb t E hM dn dN yd;obtain⟨M,n2⟩:=hM;have l1:=M.la;have l2:=M.lb;refine W.bE l2 (W.bE (pK l1) (W.bLt hk (SE l2) (SF (pK l1)) (λe=>?_) λe=>?_))
   ·have m':=Pe M.mg sa sb l2 λz=>bo e;exact W.bE l2 (W.ite (λc=>W.pure (dn _ _ _ _ _ _ (Gh m' sa sb (.inl (by simpa using c))))) λc=>by
     have l3:jb+1<b.size:=by simp at c;lia
     exact W.ite (λ_=>W.pure (dN _ _ ja (jb+1) _ {⟨m',l1,l3⟩,by lia})) λ_=>W.pure (yd _ _ ja (jb+1) _ {⟨m',l1,l3⟩,by lia}))
   ·have m':=Pf M.mg sa sb ∅ λz=>hZ e;exact W.bE (pK l1) (W.ite (λc=>W.pure (dn _ _ _ _ _ _ (Jz m' sa sb (by simpa using c) hl))) λc=>by
     have l3:ja+1+1<a.size:=by simp at c;lia
     exact W.ite (λ_=>W.pure (dN _ _ (ja+1) jb _ {⟨m',l3,l2⟩,by lia})) λ_=>W.pure (yd _ _ (ja+1) jb _ {⟨m',l3,l2⟩,by lia}))
  intro g o ja jb t hM;obtain⟨M',n2⟩:=hM;refine W.OM (W.loop (λr o i j t=>(r,o,i,j,t)) (λx o i j=>MI C a b o i j/\ia+ib+1+x<=i+j) (λo i j=>MI C a b o i j/\ia+ib+1<=i+j) ⟨M',n2⟩ ?_ ?_ (-91) λg o i j t h=>W.bM (W.pure (yd _ _ i j _ {h.1,by have:=h.2;lia})))
  ·rintro o ia ib ⟨⟨_,h1,h2⟩,h3⟩;lia
  ·intro x g out ia ib t E hM dn dN yd;obtain⟨mg,ac,bc⟩:=t;obtain⟨M,n3⟩:=hM;have l1:=M.la;have l2:=M.lb;dsimp only;generalize mg -1=m1;revert m1 mg;refine both (λkey mg m1=>W.ite (λ_=>key m1) λ_=>key mg) λmg=>?_;refine W.bM (W.bE l2 (W.bR hk (SE l2) ha sa ∅ ∅ λk q1 q2 q3=>?_));have M2:Mg (Rk C) a.toList b.toList (out++a.extract ia (ia+k)).toList (ia+k) ib:=by rw[Ys];exact M.mg.on sa k _ q2 λj h1 z=>sb.at z h1
   have q3:=λz=>bo (q3 _ (ak _) ∅ z);dsimp only;generalize hja:ia+k=ja at M2 q3⊢;generalize out++a.extract ia ja=ou at M2⊢;clear q2;revert ja ou;refine Qv (p:=λja ou=>Mg (Rk C) a.toList b.toList ou.toList ja ib/\(∀z:ja<a.size,C.rk b[ib]<=C.rk a[ja])/\ja+1<a.size/\ia<=ja) (λR ja hja q3 ou M2=>W.ite (λc=>W.ite (λd=>W.pure (dn _ _ _ _ _ _ (Jz M2 sa sb (by simpa using d) hl))) λd=>W.ite (λd2=>W.pure (dn _ _ _ _ _ _ (Gh M2 sa sb (.inr (by simpa using d2))))) λd2=>R ja ou {M2,q3,(by simp at d d2;lia),∅}) λc=>R ia out {M.mg,(by obtain rfl:ia=ja:=∅;exact q3),l1,ak _}) λja ou hp=>?_;obtain⟨M2,q3,l1,le⟩:=hp;have m3:=Pe M2 sa sb l2 q3;refine W.bE l2 (W.ite (λd=>W.pure (dn _ _ _ _ _ _ (Gh m3 sa sb (.inl (by simpa using d))))) λd=>?_);have l3:ib+1<b.size:=by simp at d;lia
   have la:=pK l1;refine W.bE la (W.bL hk (SF la) hb sb ∅ ∅ λk2 p1 p2 p3=>?_);have M4:=(m3.swap.on sb k2 _ (λi h1 h2 z=>bo (p2 i h1 h2 z)) λj h1 z=>sa.at z h1).swap;rw[<-Ys]at M4;have p3:=λz=>p3 _ (ak _) ∅ z;dsimp only;generalize hjb:ib+1+k2=jb at M4 p3⊢;generalize ou.push b[ib]++b.extract (ib+1) jb=ov at M4⊢;clear p2;revert jb ov;refine Qv (p:=λjb ov=>Mg (Rk C) a.toList b.toList ov.toList ja jb/\(∀z:jb<b.size,C.rk a[ja]<=C.rk b[jb])/\jb<b.size/\ib<jb) (λR jb hjb p3 ov M4=>W.ite (λc=>W.ite (λd=>W.pure (dn _ _ _ _ _ _ (Gh M4 sa sb (.inl (by simpa using d))))) λd=>R jb ov {M4,p3,(by simp at d;lia),∅}) λc=>R (ib+1) (ou.push b[ib]) {m3,(by obtain rfl:ib+1=jb:=∅;exact p3),l3,c7 _}) λjb ov hp=>?_;obtain⟨M4,p3,l4,lb⟩:=hp;have m5:=Pf M4 sa sb la p3;exact W.bE la (W.ite (λd=>W.pure (dn _ _ _ _ _ _ (Jz m5 sa sb (by simpa using d) hl))) λd=>by
    have l6:ja+1+1<a.size:=by simp at d;lia
    exact W.ite (λ_=>W.pure (dN _ _ _ _ _ {⟨m5,l6,l4⟩,by lia})) λ_=>W.pure (yd _ _ _ _ _ {⟨m5,l6,l4⟩,by lia}))
 ·intro m g o ia ib t R;exact W.pure (h _ _ R)
variable{C:Ct}
abbrev Rg(C:Ct)(x y:Keyed):Prop:=C.rk y<=C.rk x
abbrev MH(C:Ct)(a b out:Array Keyed)(na nb:Nat):Prop:=Mg (Rg C) a.toList.reverse b.toList.reverse out.toList (a.size -na) (b.size -nb)
def tP{a:Array Keyed}(h:n<=a.size):a.toList.reverse.drop (a.size -n)=(a.toList.take n).reverse:=by rw[List.drop_reverse,aM,show a.size -(a.size -n)=n by lia]
def La{a:Array Keyed}(h:x∈a.toList.take n):∃i,∃q:i<a.size,i<n/\x=a[i]:=by obtain⟨i,hi,e⟩:=eO.mp h;rw[aR,aM]at hi;exact{i,by lia,by lia,by rw[<-e];simp}
section
variable{a b out:Array Keyed}{na nb:Nat}
def MH.on(m:MH C a b out na nb)(sa:So C a)(ha:na<=a.size)(hb:nb<=b.size)(at_ v:Nat)(q:at_<=na)(hx:∀i,at_<=i->i<na->(q:i<a.size)->v<=C.rk a[i])(hy:∀j,j<nb->(q:j<b.size)->C.rk b[j]<=v):MH C a b (out++(a.extract at_ na).reverse) at_ nb:=by
 have e:(a.toList.reverse.drop (a.size -na)).take (na -at_)=((a.extract at_ na).reverse).toList:=by rw[tP ha,List.take_reverse];simp[List.extract_eq_drop_take,aR,List.drop_take,jI ha];rw[show na -(na -at_)=at_ by lia]
 have:=m.go (lY.mpr sa) (na -at_) λx zl y Iy=>by rw[e]at zl;rw[tP hb]at Iy;simp only[A7,jk,sL,List.extract_eq_drop_take]at zl;obtain⟨i,q1,h1,h2,rfl⟩:=R7 zl;obtain⟨j,z,h3,rfl⟩:=La (jk.mp Iy);exact aJ (hy j h3 z) (hx i h1 ∅ q1)
 rw[e,show a.size -na+(na -at_)=a.size -at_ by lia,<-mY]at this;exact this
def MH.sw(m:MH C a b out na nb):MH C b a out nb na:=m.swap
def MH.put(m:MH C a b out na nb)(sa:So C a)(sb:So C b)(ha:na<=a.size)(hb:nb<=b.size)(q:0<na)(c:∀z:0<nb,C.rk (b[nb -1]'∅)<=C.rk (a[na -1]'∅)):MH C a b (out.push (a[na -1]'∅)) (na -1) nb:=by
 have:=m.on sa ha hb (na -1) (C.rk (a[na -1]'∅)) ∅ (λi h1 h2 z=>by
  have e:i=na -1:=by lia
  subst e;exact ak _) λj h1 z=>aJ (sb.at ∅ ∅) (c ∅)
 have e:out++(a.extract (na -1) na).reverse=out.push (a[na -1]'∅):=by apply Array.ext';rw[mY,A7,j9,sL,List.extract_eq_drop_take,show na -(na -1)=1 by lia,RM ∅];rfl
 rw[e]at this;exact this
def MH.fin(m:MH C a b out na nb)(sa:So C a)(sb:So C b)(ha:na<=a.size)(hb:nb<=b.size)(c:∀i j,i<na->j<nb->(q:i<a.size)->(z:j<b.size)->C.rk b[j]<=C.rk a[i]):Res C a b (b.extract 0 nb++a.extract 0 na++out.reverse):=by
 have:=m.end (lY.mpr sa) (lY.mpr sb) λx hx y hy=>by rw[tP ha]at hx;rw[tP hb]at hy;obtain⟨i,q,h1,rfl⟩:=La (jk.mp hx);obtain⟨j,z,h2,rfl⟩:=La (jk.mp hy);exact c i j h1 h2 q z
 rw[tP ha,tP hb]at this;have e:(b.extract 0 nb++a.extract 0 na++out.reverse).toList=(out.toList++(a.toList.take na).reverse++(b.toList.take nb).reverse).reverse:=by simp[List.extract_eq_drop_take]
 unfold Res;rw[e];refine{(vC _).trans (this.1.trans ((vC _).append (vC _))),?_};rw[lY];exact this.2
def MH.end(m:MH C a b out na nb)(sa:So C a)(sb:So C b)(ha:na<=a.size)(hb:nb<=b.size)(c:na=0\/nb=0):Res C a b (a.extract 0 na++b.extract 0 nb++out.reverse):=by
 have:=m.sw.fin sb sa hb ha λi j h1 h2=>by lia
 exact{this.1.trans jJ,this.2}
end
structure MJ(C:Ct)(a b out:Array Keyed)(na nb:Nat):Prop where
 mg:MH C a b out na nb
 la:0<na/\na<=a.size
 lb:1<nb/\nb<=b.size
def QP{st:SortSt}(hk:kindOf st=C.κ)(ha:∀x∈a,C.In x)(hb:∀x∈b,C.In x)(sa:So C a)(sb:So C b)(a1:0<a.size)(b1:0<b.size)(h0:C.rk b[0]<C.rk a[0])(hl:∀y∈b,C.rk y<C.rk a[a.size -1])
  (h:∀m g,Res C a b m->Q m (GS st g)):W C (VD a b) Q st:=by
 have sw:st=GS st (gallopOf st):=rfl;have SF:∀{i:Nat}(q:i<a.size),C.In a[i]:=λq=>ha _ (dc q);have SE:∀{i:Nat}(q:i<b.size),C.In b[i]:=λq=>hb _ (dc q);have b0:∀i j,j<1->(q:i<a.size)->(z:j<b.size)->C.rk b[j]<=C.rk a[i]:=λi j h1 q z=>by
  have e:j=0:=by lia
  subst e;exact aJ (bo h0) (sa.at q (aQ _))
 refine W.OM (W.bE ∅ ?_);have m0:MH C a b (#[a[a.size -1]]:Array Keyed) (a.size -1) b.size:=by have:MH C a b (#[]:Array Keyed) a.size b.size:={by simp,.nil,(λx hx=>by cases hx),(λx hx=>by cases hx)};exact this.put sa sb (ak _) (ak _) a1 λz=>bo (hl _ (dc _))
 refine W.ite (λc1=>W.pure (by rw[sw];exact h _ _ (m0.end sa sb ∅ (ak _) (.inl (by simpa using c1))))) λc1=>?_;refine W.ite (λc2=>W.pure (by rw[sw];exact h _ _ (m0.fin sa sb ∅ (ak _) λi j h1 h2=>b0 i j (by simp at c2;lia)))) λc2=>?_;have l1:0<a.size -1:=by simp at c1;lia
 have l2:1<b.size:=by simp at c2;lia
 refine W.bG (W.loop (a:=a) (b:=b) (λr o i j t=>(r,i,j,o,t)) (λi o na nb=>MJ C a b o na nb/\na+nb+i+1<=a.size+b.size) (λ_ _ _=>False) {{m0,{l1,by lia},{l2,ak _}},by lia} ?_ ?_ ?_ λ_ _ _ _ _ h=>h.elim)
 ·rintro o na nb ⟨⟨_,h1,h2⟩,h3⟩;lia
 ·intro i g o na nb mg E hM dn _ yd;obtain⟨M,n1⟩:=hM;refine W.loop (λr o i j t=>(r,i,j,o,t)) (λx o i j=>MJ C a b o i j/\i+j+x<=na+nb) (λo i j=>MJ C a b o i j/\i+j+1<=na+nb) {M,ak _} ?_ ?_ (-91) ?_
  ·rintro o ia ib ⟨⟨_,h1,h2⟩,h3⟩;lia
  ·intro x g o ja jb t E hM dn dN yd;obtain⟨M,n2⟩:=hM;have l1:=M.la;have l2:=M.lb;have la:ja -1<a.size:=by lia
   have lb:jb -1<b.size:=by lia
   refine W.bE lb (W.bE la (W.bLt hk (SE lb) (SF la) (λe=>?_) λe=>?_))
   ·have m':=M.mg.put sa sb l1.2 l2.2 l1.1 λz=>bo e;exact W.bE la (W.ite (λd=>W.pure (dn _ _ _ _ _ _ (m'.end sa sb (bo la) l2.2 (.inl (by simpa using d))))) λd=>by
     have l3:0<ja -1/\ja -1<=a.size:=by simp at d;lia
     exact W.ite (λ_=>W.pure (dN _ _ (ja -1) jb _ {⟨m',l3,l2⟩,by lia})) λ_=>W.pure (yd _ _ (ja -1) jb _ {⟨m',l3,l2⟩,by lia}))
   ·have m':=(M.mg.sw.put sb sa l2.2 l1.2 ∅ λz=>hZ e).sw;exact W.bE lb (W.ite (λd=>W.pure (dn _ _ _ _ _ _ (m'.fin sa sb l1.2 (bo lb) λi j h1 h2=>b0 i j (by simp at d;lia)))) λd=>by
     have l3:1<jb -1/\jb -1<=b.size:=by simp at d;lia
     exact W.ite (λ_=>W.pure (dN _ _ ja (jb -1) _ {⟨m',l1,l3⟩,by lia})) λ_=>W.pure (yd _ _ ja (jb -1) _ {⟨m',l1,l3⟩,by lia}))
  intro g o ja jb t hM;obtain⟨M',n2⟩:=hM;refine W.OM (W.loop (λr o i j t=>(r,i,j,o,t)) (λx o i j=>MJ C a b o i j/\i+j+1+x<=na+nb) (λo i j=>MJ C a b o i j/\i+j+1<=na+nb) ⟨M',n2⟩ ?_ ?_ (-91) λg o i j t h=>W.bM (W.pure (yd _ _ i j _ {h.1,by have:=h.2;lia})))
  ·rintro o ia ib ⟨⟨_,h1,h2⟩,h3⟩;lia
  ·clear n2 M' M n1;intro x g out na nb t E hM dn dN yd;obtain⟨mg,ac,bc⟩:=t;obtain⟨M,n3⟩:=hM;have l1:=M.la;have l2:=M.lb;have lb:nb -1<b.size:=by lia
   dsimp only;generalize mg -1=m1;revert m1 mg;refine both (λkey mg m1=>W.ite (λ_=>key m1) λ_=>key mg) λmg=>?_;refine W.bM (W.bE lb (W.bR hk (SE lb) ha sa ∅ ∅ λk q1 q2 q3=>?_));have M2:=M.mg.on sa l1.2 l2.2 k (C.rk b[nb -1]) q1 (λi h1 h2 z=>bo (q3 i ∅ ∅ z)) λj h1 z=>sb.at ∅ ∅;dsimp only;generalize out++(a.extract k na).reverse=ou at M2⊢;generalize Yg:na -k=ct;clear q3;have q2:∀z:k -1<a.size,0<k->C.rk a[k -1]<=C.rk b[nb -1]:=λz h=>q2 _ ∅ ∅ z;revert k ou;refine Qv (p:=λja ou=>MH C a b ou ja nb/\(∀z:ja -1<a.size,0<ja->C.rk a[ja -1]<=C.rk b[nb -1])/\0<ja/\ja<=na) (λR k q1 _ ou M2 Yg q2=>W.ite (λc=>W.ite (λd=>W.pure (dn _ _ _ _ _ _ (M2.end sa sb ∅ l2.2 (.inl (by simpa using d))))) λd=>R k ou {M2,q2,(by simp at d;lia),q1}) λc=>R na out {M.mg,(by obtain rfl:k=na:=∅;exact q2),l1.1,ak _}) λk ou hp=>?_;obtain⟨M2,q2,l5,le⟩:=hp;have la:k -1<a.size:=by lia
   have m3:=(M2.sw.put sb sa l2.2 ∅ ∅ λz=>q2 la z).sw;refine W.bE lb (W.ite (λd=>W.pure (dn _ _ _ _ _ _ (m3.fin sa sb ∅ ∅ λi j h1 h2=>b0 i j (by simp at d;lia)))) λd=>?_);refine W.bE la (W.bL hk (SF la) hb sb ∅ ∅ λk2 p1 p2 p3=>?_);have M4:=(m3.sw.on sb ∅ ∅ k2 (C.rk a[k -1]) p1 (λi h1 h2 z=>p3 i ∅ ∅ z) λj h1 z=>sa.at ∅ ∅).sw;dsimp only;generalize ou.push b[nb -1]++(b.extract k2 (nb -1)).reverse=ov at M4⊢;generalize hcv:nb -1 -k2=cv;clear p3;have p2:∀z:k2 -1<b.size,0<k2->C.rk b[k2 -1]<=C.rk a[k -1]:=λz h=>bo (p2 _ ∅ ∅ z);revert k2 ov;refine Qv (p:=λjb ov=>MH C a b ov k jb/\(∀z:jb -1<b.size,0<jb->C.rk b[jb -1]<=C.rk a[k -1])/\1<jb/\jb<=nb -1) (λR k2 p1 _ ov M4 hcv p2=>W.ite (λc=>W.ite (λd=>W.pure (dn _ _ _ _ _ _ (M4.fin sa sb ∅ ∅ λi j h1 h2=>b0 i j (by simp at d;lia)))) λd=>W.ite (λd2=>W.pure (dn _ _ _ _ _ _ (M4.end sa sb ∅ ∅ (.inr (by simpa using d2))))) λd2=>R k2 ov {M4,p2,(by simp at d d2;lia),p1}) λc=>R (nb -1) (ou.push b[nb -1]) {m3,(by obtain rfl:k2=nb -1:=∅;exact p2),(by simp at d;lia),ak _}) λk2 ov hp=>?_;obtain⟨M4,p2,l4,lk⟩:=hp;have m5:=M4.put sa sb ∅ ∅ ∅ λz=>p2 ∅ z;exact W.bE la (W.ite (λd=>W.pure (dn _ _ _ _ _ _ (m5.end sa sb ∅ ∅ (.inl (by simpa using d))))) λd=>by
    have l6:0<k -1/\k -1<=a.size:=by simp at d;lia
    have l7:1<k2/\k2<=b.size:=by lia
    exact W.ite (λ_=>W.pure (dN _ _ (k -1) k2 _ {⟨m5,l6,l7⟩,by lia})) λ_=>W.pure (yd _ _ (k -1) k2 _ {⟨m5,l6,l7⟩,by lia}))
 ·intro m g o ia ib t R;exact W.pure (h _ _ R)
variable{C:Ct}
def ky(C:Ct)(a:Array Keyed)(k:Nat):Nat:=(a[k]?).elim 0 C.rk
def iW(h:k<a.size):ky C a k=C.rk a[k]:=by unfold ky;rw[getElem?_pos a k h];rfl
def FW(h:a[i]?=b[j]?):ky C a i=ky C b j:=by unfold ky;rw[h]
def Up(C:Ct)(a:Array Keyed)(lo hi:Nat):Prop:=∀i j,lo<=i->i<=j->j<hi->ky C a i<=ky C a j
def Dn(C:Ct)(a:Array Keyed)(lo hi:Nat):Prop:=∀i j,lo<=i->i<=j->j<hi->ky C a j<=ky C a i
structure Mv(a a':Array Keyed)(lo hi:Nat):Prop where
 pm:a'.Perm a
 ou:∀k,k<lo\/hi<=k->a'[k]?=a[k]?
def Mv.sz{lo hi:Nat}(m:Mv a a' lo hi):a'.size=a.size:=m.pm.size_eq
def Mv.refl{lo hi:Nat}:Mv a a lo hi:={.refl _,λ_ _=>rfl}
def Mv.trans{lo hi:Nat}(m:Mv a b lo hi)(n:Mv b c lo hi):Mv a c lo hi:={n.pm.trans m.pm,λk h=>(n.ou k h).trans (m.ou k h)}
def Mv.wide{lo hi Sh Ce:Nat}(m:Mv a b lo hi)(h1:Sh<=lo)(h2:hi<=Ce):Mv a b Sh Ce:={m.pm,λk h=>m.ou k ∅}
def Mv.in{lo hi:Nat}(m:Mv a a' lo hi)(h:∀x∈a,C.In x):∀x∈a',C.In x:=λx hx=>h x (m.pm.mem_iff.mp hx)
def Mv.up{lo hi l h:Nat}(m:Mv a a' lo hi)(u:Up C a l h)(c:h<=lo\/hi<=l):Up C a' l h:=λi j h1 h2 h3=>by rw[FW (m.ou i ∅),FW (m.ou j ∅)];exact u i j h1 h2 h3
def xE(hj:j<=a.size):Mv a (mirror a i j ((j -i)/2)) i j:={mirror_perm _ _ _ _,λk h=>by rw[getElem?_mirror_all hj,aw ∅]}
def uE(hj:j<=a.size)(k:Nat):ky C (mirror a i j ((j -i)/2)) k=if i<=k/\k<j then ky C a (i+j -1 -k)else ky C a k:=by unfold ky;rw[getElem?_mirror_all hj];split<;>rfl
def R4(hs:s<a.size)(hd:d<=s):Mv a (bubble a s (s -d)) d (s+1):={bubble_perm _ _ _,λk h=>by rw[getElem?_bubble hs _ ∅,aw ∅,aw ∅]}
section
variable{st:SortSt}
def W.at(hk:kindOf st=C.κ)(iI:∀x∈arrOf st,C.In x)(hi:i<(-13).size)(hj:j<(-13).size)(h:Q (some (decide (ky C (-13) i<ky C (-13) j))) st):W C (ltAt' i j) Q st:=by rw[iW hi,iW hj]at h;rw[ltAt'_eq];exact W.bind (W.get (W.bind (W.elem hi (W.bind (W.elem hj (W.lt hk (iI _ (dc _)) (iI _ (dc _)) h))))))
def W.rev(h:Q ⟨⟩ (setArr st (mirror (-13) i j ((j -i)/2)))):W C (reverseSlice' i j) Q st:=by rw[reverseSlice'_eq];exact W.modify h
def Up.more{lo hi:Nat}(u:Up C a lo hi)(h:lo<hi)(c:ky C a (hi -1)<=ky C a hi):Up C a lo (hi+1):=λi j h1 h2 h3=>by
 by_cases e:j=hi
 ·subst e;by_cases e2:i=j
  ·rw[e2];exact ak _
  ·exact aJ (u i (j -1) h1 ∅ ∅) c
 ·exact u i j h1 h2 ∅
def Dn.more{lo hi:Nat}(u:Dn C a lo hi)(h:lo<hi)(c:ky C a hi<=ky C a (hi -1)):Dn C a lo (hi+1):=λi j h1 h2 h3=>by
 by_cases e:j=hi
 ·subst e;by_cases e2:i=j
  ·rw[e2];exact ak _
  ·exact aJ c (u i (j -1) h1 ∅ ∅)
 ·exact u i j h1 h2 ∅
def Dn.of{lo hi:Nat}(u:Dn C a lo hi)(e:∀k,ky C b k=ky C a k):Dn C b lo hi:=λi j h1 h2 h3=>by rw[e,e];exact u i j h1 h2 h3
def W.ON{α:Type}{Q:α->SortSt->Prop}{i j:Nat}{f:Option Bool->StateT SortSt Sem α}(hk:kindOf st=C.κ)(iI:∀x∈arrOf st,C.In x)(hi:i<(-13).size)(hj:j<(-13).size)(h1:ky C (-13) i<ky C (-13) j->W C (f (some true)) Q st)(h2:¬ky C (-13) i<ky C (-13) j->W C (f (some false)) Q st):W C (ltAt' i j>>=f) Q st:=W.bind (W.at hk iI hi hj (by
 by_cases e:ky C (-13) i<ky C (-13) j
 ·rw[aT e];exact h1 e
 ·rw[bB e];exact h2 e))
def W.WQ{α:Type}{Q:α->SortSt->Prop}{i j:Nat}{f:PUnit->StateT SortSt Sem α}(h:∀a,a=mirror (-13) i j ((j -i)/2)->W C (f ⟨⟩) Q (setArr st a)):W C (reverseSlice' i j>>=f) Q st:=W.bind (W.rev (h _ rfl))
def Qw{T p:Array Keyed->Prop}{G:Prop}(k:(∀a,p a->T a)->G)(h:∀a,p a->T a):G:=k h
def W.FR{α β U V:Type}{Q:α->SortSt->Prop}{lo hi:Nat}{f:Nat->β->StateT SortSt Sem (ForInStep β)}{k:β->StateT SortSt Sem α}(mc:Nat->U->V->β)(ms:U->V->SortSt)(P B:Nat->U->V->Prop){u:U}{v:V}(h0:P lo u v)(he:∀u v,P (max lo hi) u v->B (max lo hi) u v)
  (hs:∀i u v(E:ForInStep β->SortSt->Prop),lo<=i->i<hi->P i u v->(∀x u v,B x u v->E (.done (mc x u v)) (ms u v))->(∀u v,P (i+1) u v->E (.yield (mc (i+1) u v)) (ms u v))->W C (f i (mc i u v)) E (ms u v))
  (hk:∀x u v,B x u v->W C (k (mc x u v)) Q (ms u v)):W C (forIn [lo:hi] (mc lo u v) f>>=k) Q (ms u v):=by
 refine W.bind (W.mono (W.for (I:=λi c s'=>∃u v,s'=ms u v/\c=mc i u v/\P i u v) ?_ ?_ ⟨_,_,rfl,rfl,h0⟩) λ_ _ h=>h)
 ·rintro i c s' h1 h2 ⟨u,v,rfl,rfl,h⟩;exact hs i u v _ h1 h2 h hk λu v h=>⟨u,v,rfl,rfl,h⟩
 ·rintro c s' ⟨u,v,rfl,rfl,h⟩;exact hk _ _ _ (he _ _ h)
def w_count{lo k7:Nat}(hk:kindOf st=C.κ)(iI:∀x∈arrOf st,C.In x)(h1:1<=k7)(hs:lo+k7<=(-13).size)
  (h:∀m a',Mv (-13) a' lo (lo+k7)->1<=m->m<=k7->Up C a' lo (lo+m)->Q (some m) (setArr st a')):W C (countRun' lo k7) Q st:=by
 have sw:st=setArr st (-13):=rfl;refine W.FR (U:=PUnit) (V:=PUnit) (λx _ _=>(none,x)) (λ_ _=>st) (λx _ _=>Up C (-13) lo (lo+x)) (λn _ _=>1<=n/\n<=k7/\Up C (-13) lo (lo+n)/\(n=k7\/ky C (-13) (lo+n)<ky C (-13) (lo+n -1))) (u:=⟨⟩) (v:=⟨⟩) (λi j q1 q2 q3=>by rw[show i=j by lia];exact ak _) ?_ ?_ ?_
 ·intro _ _ u;rw[show max 1 k7=k7 by lia]at u⊢;exact{by lia,ak _,u,.inl rfl}
 ·intro x _ _ E D2 hx2 u dn yd;exact W.ON hk iI ∅ ∅ (λe=>W.pure (dn x ⟨⟩ ⟨⟩ {D2,by lia,u,.inr e})) λe=>W.pure (yd ⟨⟩ ⟨⟩ (u.more ∅ (hZ e)))
 intro n _ _ hn;obtain⟨n1,n2,u,last⟩:=hn;refine W.ite (λc=>W.pure (sw▸h n _ .refl n1 n2 u)) λc=>?_;have last:=last.resolve_left (by simpa using c);have n3:n<k7:=by simp at c;lia
 refine Qw (p:=λa0=>Mv (-13) a0 lo (lo+k7)/\Dn C a0 lo (lo+n+1)) (λR=>W.ite (λc=>W.ON hk iI ∅ ∅ (λe=>W.pure (sw▸h n _ .refl n1 n2 u)) λ(e:¬ky C (arrOf st) lo<ky C (arrOf st) (lo+n -1))=>W.WQ λa0 ea=>R a0 ?_) λc=>R (-13) {.refl,Dn.more (λi j q1 q2 q3=>by rw[show i=j by lia];exact ak _) ∅ (bo last)}) λa0 hp=>?_
 ·subst ea;have al:∀k,lo<=k->k<lo+n->ky C (-13) k=ky C (-13) lo:=λk q1 q2=>by have:=u lo k (ak _) q1 q2;have:=u k (lo+n -1) q1 ∅ ∅;lia
  have kk:∀k,ky C (mirror (-13) lo (lo+n) ((lo+n -lo)/2)) k=ky C (-13) k:=λk=>by
   rw[uE ∅];split
   ·rw[al _ ∅ ∅,al k ∅ ∅]
   ·rfl
  exact{(xE ∅).wide (ak _) ∅,(Dn.of (λi j q1 q2 q3=>by rw[al i q1 ∅,al j ∅ q3];exact ak _) kk).more ∅ (by rw[kk,kk];lia)}
 obtain⟨M0,D0⟩:=hp;refine W.OM (W.FR (λx _ q=>(none,x,q)) (λa _=>setArr st a) (λx a' q=>Mv (-13) a' lo (lo+k7)/\Dn C a' lo (lo+x)/\q+1<=x/\∀k,lo+x -(q+1)<=k->k<lo+x->ky C a' k=ky C a' (lo+x -1))
   (λm a' q=>n+1<=m/\m<=k7/\Mv (-13) a' lo (lo+k7)/\Dn C a' lo (lo+m)/\q+1<=m/\∀k,lo+m -(q+1)<=k->k<lo+m->ky C a' k=ky C a' (lo+m -1)) {M0,D0,by lia,λk q1 q2=>by rw[show k=lo+(n+1) -1 by lia]} ?_ ?_ ?_)
 ·rw[show max (n+1) k7=k7 by lia]
  exactλa' q hp=>{n3,ak _,hp}
 ·intro x a' q E D2 hx2 hp dn yd;obtain⟨M,D,q1,al⟩:=hp;have sz:=M.sz;have kk:∀k,ky C (mirror a' (lo+x -(q+1)) (lo+x) ((lo+x -(lo+x -(q+1)))/2)) k=ky C a' k:=λk=>by
   rw[uE ∅];split
   ·rw[al _ ∅ ∅,al k ∅ ∅]
   ·rfl
  exact W.ON (i:=lo+x) (j:=lo+x -1) hk (M.in iI) (by rw[sz];lia) (by rw[sz];lia) (λ(e:ky C a' (lo+x)<ky C a' (lo+x -1))=>W.ite (λ_=>W.ite (λ_=>W.bind (W.rev (i:=lo+x -(q+1)) (j:=lo+x) (W.pure (yd _ 0 {M.trans ((xE ∅).wide ∅ ∅),(D.of kk).more ∅ (by rw[kk,kk];lia),by lia,λk q1 q2=>by rw[show k=lo+(x+1) -1 by lia]})))) λ_=>W.pure (yd a' 0 {M,D.more ∅ ∅,by lia,λk q1 q2=>by rw[show k=lo+(x+1) -1 by lia]})) λz=>absurd rfl z)
   λ(e:¬ky C a' (lo+x)<ky C a' (lo+x -1))=>W.ON (i:=lo+x -1) (j:=lo+x) hk (M.in iI) (by rw[sz];lia) (by rw[sz];lia) (λe2=>W.pure (dn x a' q {D2,by lia,M,D,q1,al})) λ(e2:¬ky C a' (lo+x -1)<ky C a' (lo+x))=>W.pure (yd a' (q+1) {M,D.more ∅ ∅,by lia,λk q1 q2=>by
    rw[show lo+(x+1) -1=lo+x by lia];by_cases z:k=lo+x
    ·rw[z]
    ·rw[al k ∅ ∅];lia})
 intro m a' q hp;obtain⟨m1,m2,M,D,q1,al⟩:=hp;have sz:=M.sz;refine Qw (p:=λa2=>Mv (-13) a2 lo (lo+k7)/\Dn C a2 lo (lo+m)) (λR=>W.ite (λ_=>W.WQ (i:=lo+m -(q+1)) (j:=lo+m) λa2 ea=>R a2 ?_) λ_=>R a' ⟨M,D⟩) λa2 hp=>?_
 ·subst ea;exact{M.trans ((xE ∅).wide ∅ ∅),D.of λk=>by
   show ky C (mirror a' _ _ _) k=_;rw[uE ∅];split
   ·rw[al _ ∅ ∅,al k ∅ ∅]
   ·rfl}
 obtain⟨M2,D⟩:=hp;have sz:=M2.sz;refine W.WQ λa3 ea=>?_;have ea:a3=mirror a2 lo (lo+m) ((lo+m -lo)/2):=ea;have M3:Mv (-13) a3 lo (lo+k7):=by rw[ea];exact M2.trans ((xE ∅).wide ∅ ∅)
 have u0:Up C a3 lo (lo+m):=λi j q1 q2 q3=>by rw[ea,uE ∅,uE ∅,aG ∅,aG ∅];exact D _ _ ∅ ∅ ∅
 refine W.FR (U:=PUnit) (V:=PUnit) (λx _ _=>(none,x)) (λ_ _=>setArr st a3) (λx _ _=>Up C a3 lo (lo+x)) (λr _ _=>m<=r/\r<=k7/\Up C a3 lo (lo+r)) (u:=⟨⟩) (v:=⟨⟩) u0 ?_ ?_ λr _ _ hp=>W.pure (h r _ M3 ∅ hp.2.1 hp.2.2)
 ·intro _ _ u;rw[show max m k7=k7 by lia]at u⊢;exact{by lia,ak _,u}
 ·intro x _ _ E D2 hx2 u dn yd;have D2:m<=x:=D2;exact W.ON hk (M3.in iI) (by rw[M3.sz];lia) (by rw[M3.sz];lia) (λe=>W.pure (dn x ⟨⟩ ⟨⟩ {D2,by lia,u})) λe=>W.pure (yd ⟨⟩ ⟨⟩ (u.more ∅ (hZ e)))
end
variable{C:Ct}{st:SortSt}
def Ip(hs:s<a.size)(hd:d<=s)(k:Nat):ky C (bubble a s (s -d)) k=if k=d then ky C a s else if d<k/\k<=s then ky C a (k -1)else ky C a k:=by
 unfold ky;rw[getElem?_bubble hs _ ∅,show s -(s -d)=d by lia];split
 ·rfl
 ·split<;>rfl
def acP{lo n ok:Nat}(hk:kindOf st=C.κ)(iI:∀x∈arrOf st,C.In x)(bj:ok<=n)(hs:lo+n<=(-13).size)(u0:Up C (-13) lo (lo+ok))
  (h:∀a',Mv (-13) a' lo (lo+n)->Up C a' lo (lo+n)->Q true (setArr st a')):W C (binarySort' lo n ok) Q st:=by
 unfold binarySort';refine W.FR (U:=Array Keyed) (V:=PUnit) (λ_ _ _=>(none,())) (λa _=>setArr st a) (λk a' _=>Mv (-13) a' lo (lo+n)/\Up C a' lo (lo+min k n)) (λ_ a' _=>Mv (-13) a' lo (lo+n)/\Up C a' lo (lo+n)) (u:=arrOf st) (v:=⟨⟩) {.refl,λi j q1 q2 q3=>?_} ?_ ?_ λ_ a' _ hp=>W.pure (h a' hp.1 hp.2)
 ·by_cases z:ok=0
  ·rw[show i=j by lia];exact ak _
  ·exact u0 i j q1 q2 ∅
 ·rw[show min (max (max ok 1) n) n=n by lia]
  exactλ_ _ h=>h
 ·intro k a' _ E k1 k2 hp dn yd;obtain⟨M,u⟩:=hp;rw[show min k n=k by lia]at u;have sz:=M.sz;refine W.FR (U:=Nat) (V:=Nat) (λ_ l r=>(none,l,r)) (λ_ _=>setArr st a') (λx l r=>l<=r/\r<=k/\r -l<=k -x/\(∀i,lo<=i->i<lo+l->ky C a' i<=ky C a' (lo+k))/\(∀i,lo+r<=i->i<lo+k->ky C a' (lo+k)<=ky C a' i))
   (λ_ l _=>l<=k/\(∀i,lo<=i->i<lo+l->ky C a' i<=ky C a' (lo+k))/\(∀i,lo+l<=i->i<lo+k->ky C a' (lo+k)<=ky C a' i)) (u:=0) (v:=k) {by lia,by lia,by lia,λi h1 h2=>by lia,λi h1 h2=>by lia} ?_ ?_ ?_
  ·exactλl r ⟨b1,b2,b3,b4,b5⟩=>{by lia,b4,λi q1 q2=>b5 i ∅ q2}
  ·intro x l r E _ hx hp dn yd;obtain⟨b1,b2,b3,b4,b5⟩:=hp;exact W.ite (λ(c:l≥r)=>W.pure (dn 0 l r {by lia,b4,λi q1 q2=>b5 i ∅ q2})) λ(c:¬l≥r)=>W.ON (i:=lo+k) (j:=lo+(l+r)/2) hk (M.in iI) (by rw[sz];lia) (by rw[sz];lia)
    (λe=>W.pure (yd l ((l+r)/2) {by lia,by lia,by lia,b4,λi q1 q2=>aJ (bo e) (u _ _ ∅ q1 q2)}))
    λe=>W.pure (yd ((l+r)/2+1) r {by lia,by lia,by lia,λi q1 q2=>aJ (u _ (lo+(l+r)/2) q1 ∅ ∅) (hZ e),b5})
  ·intro _ l r hp;obtain⟨b1,b4,b5⟩:=hp;refine W.bM (W.pure (yd (bubble a' (lo+k) (lo+k -(lo+l))) ⟨⟩ {M.trans ((R4 ∅ ∅).wide ∅ ∅),?_}));rw[show min (k+1) n=k+1 by lia];intro i j q1 q2 q3;rw[Ip ∅ ∅,Ip ∅ ∅];split
   ·split
    ·exact ak _
    ·split
     ·exact b5 _ ∅ ∅
     ·lia
   ·split
    ·split
     ·lia
     ·split
      ·exact u _ _ ∅ ∅ ∅
      ·lia
    ·split
     ·exact b4 _ ∅ ∅
     ·split
      ·exact u _ _ ∅ ∅ ∅
      ·exact u _ _ ∅ ∅ ∅
variable{C:Ct}{st:SortSt}
def W.set(h:Q ⟨⟩ s'):W C (set s':StateT SortSt Sem PUnit) Q st:=λs j=>by rw[StateT.run_set];exact ag ⟨j,h⟩
theorem Km(sa:Nat):∀(l:List Keyed)(n:Nat)(a:Array Keyed),sa+n+l.length<=a.size->∀k,((l.zipIdx n).foldl (λa(x:Keyed×Nat)=>a.setIfInBounds (sa+x.2) x.1) a)[k]?=if sa+n<=k/\k<sa+n+l.length then l[k -(sa+n)]? else a[k]?
 |[],n,a,_,k=>by rw[aw (-8)];rfl
 |x::l,n,a,h,k=>by
  rw[bA]at h⊢;rw[List.zipIdx_cons,jN,Km sa l (n+1) _ (by rw[Array.size_setIfInBounds];lia)];by_cases e:k=sa+n
  ·subst e;rw[aw ∅,aG ∅,Array.getElem?_setIfInBounds_self_of_lt ∅];simp
  ·rw[Array.getElem?_setIfInBounds_ne ∅];by_cases c:sa+n<=k/\k<sa+n+(l.length+1)
   ·rw[aG c,aG ∅,show k -(sa+n)=k -(sa+(n+1))+1 by lia,xm]
   ·rw[aw c,aw ∅]
def Zk{a:Array Keyed}(h:sa+l.length<=a.size):(l.zipIdx.foldl (λa(x:Keyed×Nat)=>a.setIfInBounds (sa+x.2) x.1) a).toList=a.toList.take sa++l++a.toList.drop (sa+l.length):=by
 apply pP;intro k;rw[bF,Km sa l 0 a h,oI];by_cases c:k<sa
 ·rw[aw ∅,dw,cN (by simp;lia),oJ c,bF]
 ·by_cases d:k<sa+l.length
  ·rw[aG {by lia,d},cN (by simp;lia),bU (by simp;lia)];simp[show min sa a.size=sa by lia]
  ·rw[aw ∅,bU (by simp;lia),CK];simp[show min sa a.size=sa by lia];rw[show sa+l.length+(k -(sa+l.length))=k by lia]
def zx{a:Array Keyed}(hh:h<=a.size)(q:i<(a.extract l h).size):(a.extract l h)[i]=a[l+i]'(by rw[CV]at q;lia):=by simp
def Gd{a:Array Keyed}(hh:h<=a.size):(a.extract l h).size=h -l:=by rw[CV];lia
def Tu(u:Up C a l' h')(hh:h<=a.size)(c1:l'<=l)(c2:h<=h'):So C (a.extract l h):=by refine eX.mpr λi j hi hj z=>?_;rw[aM]at hi hj;rw[mI,mI,zx hh,zx hh,<-iW,<-iW];rw[Gd hh]at hj;exact u _ _ ∅ ∅ ∅
def ext_mem{a:Array Keyed}(hh:h<=a.size)(m:x∈a.extract l h):∃i,∃q:i<a.size,l<=i/\i<h/\x=a[i]:=by obtain⟨i,hi,e⟩:=Array.mem_iff_getElem.mp m;have:=Gd (l:=l) hh;exact{l+i,by lia,by lia,by lia,by rw[<-e,zx hh]}
def QQ(hk:kindOf st=C.κ)(hf:failedOf st=none)(iI:∀x∈arrOf st,C.In x)(e1:(pendingOf st)[i]?=some (sa,na,pw))(e2:(pendingOf st)[i+1]?=some (sb,nb,x))(hsb:sb=sa+na)(na1:0<na)(nb1:0<nb)(sz:sb+nb<=(-13).size)(u1:Up C (-13) sa sb)(u2:Up C (-13) sb (sb+nb))
  (h:∀a' g,Mv (-13) a' sa (sb+nb)->Up C a' sa (sb+nb)->Q true (SortSt.mk' (kindOf st) a' (((pendingOf st).setIfInBounds i (sa,na+nb,pw)).eraseIdxIfInBounds (i+1)) g none)):W C (mergeAt' i) Q st:=by
 have rk:∀{l hi:Nat},Up C (-13) l hi->∀i j,l<=i->(z:i<=j)->j<hi->(q:j<(-13).size)->C.rk ((-13)[i]'∅)<=C.rk (-13)[j]:=λu i j h1 z h2 q=>by rw[<-iW,<-iW];exact u i j h1 z h2
 refine(W.bG ?_);rw[e1,e2];have nx:∀{g:Nat}{a':Array Keyed},Mv (-13) a' sa (sb+nb)->Up C a' sa (sb+nb)->Q true (SortSt.mk' (kindOf st) a' (((pendingOf st).setIfInBounds i (sa,na+nb,pw)).eraseIdxIfInBounds (i+1)) g (failedOf st)):=λm u=>hf▸h _ _ m u;refine W.bind (W.set ((W.bE (a:=arrOf st) ∅ (W.bind (M9 (arr:=arrOf st) hk (iI _ (dc _)) iI (hsb▸rk u1) ∅ na1 λk q1 q2 q3=>?_)))));have f2:=λi z1 z2=>by have:=q2 i z1 z2 ∅;rw[<-iW,<-iW]at this;exact this
 have f3:∀i,sa+k<=i->i<sb->ky C (-13) sb<ky C (-13) i:=λi z1 z2=>by have:=q3 i z1 ∅ ∅;rw[<-iW,<-iW]at this;exact this
 refine W.ite (λc=>W.pure (nx .refl λi j z1 z2 z3=>?_)) λc=>?_
 ·have c:k=na:=by simp at c;lia
  by_cases i1:i<sb
  ·by_cases j1:j<sb
   ·exact u1 i j z1 z2 j1
   ·exact aJ (f2 i z1 ∅) (u2 sb j (ak _) ∅ z3)
  ·exact u2 i j ∅ z2 z3
 have c:k<na:=by simp at c;lia
 have ix:sa+k+(na -k) -1=sb -1:=by lia
 refine(W.bE (a:=arrOf st) ∅ (W.bind (w_left (arr:=arrOf st) hk (iI _ (dc _)) iI (rk u2) ∅ ∅ λnc p1 p2 p3=>?_)));have f4:=λi z1 z2=>by have:=p2 i z1 z2 ∅;rw[<-iW,<-iW,ix]at this;exact this
 have f5:=λi z1 z2=>by have:=p3 i z1 z2 ∅;rw[<-iW,<-iW,ix]at this;exact this
 refine W.ite (λc=>W.pure (nx .refl λi j z1 z2 z3=>?_)) λc2=>?_
 ·have c:nc=0:=by simpa using c
  by_cases i1:i<sb
  ·by_cases j1:j<sb
   ·exact u1 i j z1 z2 j1
   ·exact aJ (u1 i (sb -1) z1 ∅ ∅) (f5 j ∅ z3)
  ·exact u2 i j ∅ z2 z3
 have c2:0<nc:=by simp at c2;lia
 have sx:=Gd (a:=arrOf st) (l:=sa+k) (h:=sb) ∅;have sy:=Gd (a:=arrOf st) (l:=sb) (h:=sb+nc) ∅;have e0:C.rk (((-13).extract sb (sb+nc))[0]'∅)<C.rk (((-13).extract (sa+k) sb)[0]'∅):=by rw[zx ∅,zx ∅,<-iW,<-iW];exact f3 _ ∅ ∅
 have el:∀y∈(-13).extract sb (sb+nc),C.rk y<C.rk (((-13).extract (sa+k) sb)[((-13).extract (sa+k) sb).size -1]'∅):=λy hy=>by obtain⟨i,q,z1,z2,rfl⟩:=ext_mem ∅ hy;rw[zx ∅,<-iW,<-iW,sx,show sa+k+(sb -(sa+k) -1)=sb -1 by lia];exact f4 i z1 z2
 have hx:∀{l h:Nat},h<=(-13).size->∀x∈(-13).extract l h,C.In x:=λhh x hx=>by obtain⟨i,q,z1,z2,rfl⟩:=ext_mem hh hx;exact iI _ (dc _)
 have fin:∀(m:Array Keyed),Res C ((-13).extract (sa+k) sb) ((-13).extract sb (sb+nc)) m->Mv (-13) (m.toList.zipIdx.foldl (λa(x:Keyed×Nat)=>a.setIfInBounds (sa+k+x.2) x.1) (-13)) sa (sb+nb)/\Up C (m.toList.zipIdx.foldl (λa(x:Keyed×Nat)=>a.setIfInBounds (sa+k+x.2) x.1) (-13)) sa (sb+nb):=by
  rintro m ⟨pm,so⟩;have lm:m.toList.length=sb+nc -(sa+k):=by rw[pm.length_eq,aC,aM,aM];lia
  have el:=Km (sa+k) m.toList 0 (-13) ∅;rw[lm,oI,show sa+k+(sb+nc -(sa+k))=sb+nc by lia]at el;have pl:=Zk (sa:=sa+k) (l:=m.toList) (a:=arrOf st) ∅;rw[lm,show sa+k+(sb+nc -(sa+k))=sb+nc by lia]at pl;generalize m.toList.zipIdx.foldl (λa(x:Keyed×Nat)=>a.setIfInBounds (sa+k+x.2) x.1) (-13)=a' at el pl⊢;have inn:∀i,sa+k<=i->i<sb+nc->∃j,sa+k<=j/\j<sb+nc/\ky C a' i=ky C (-13) j:=λi z1 z2=>by
   have e:=el i;rw[aG ⟨z1,z2⟩,ao ∅]at e;have hm:=pm.mem_iff.mp (gJ (n:=i -(sa+k)) ∅);have ek:ky C a' i=C.rk (m.toList[i -(sa+k)]'∅):=by unfold ky;rw[e];rfl
   rw[ek];rcases aP.mp hm with hm|hm
   ·obtain⟨j,q,z3,z4,e3⟩:=ext_mem ∅ (mH.mp hm);exact{j,z3,by lia,by rw[e3,iW]}
   ·obtain⟨j,q,z3,z4,e3⟩:=ext_mem ∅ (mH.mp hm);exact{j,by lia,z4,by rw[e3,iW]}
  have out:∀i,i<sa+k\/sb+nc<=i->ky C a' i=ky C (-13) i:=λi z=>FW (by rw[el i,aw ∅]);refine{{vh.mpr ?_,λi z=>by rw[el i,aw ∅]},λi j z1 z2 z3=>?_}
  ·rw[pl];have e:(-13).toList=(-13).toList.take (sa+k)++(((-13).extract (sa+k) sb).toList++((-13).extract sb (sb+nc)).toList)++(-13).toList.drop (sb+nc):=by
    have e':((-13).extract (sa+k) sb).toList++((-13).extract sb (sb+nc)).toList=((-13).toList.drop (sa+k)).take (sb+nc -(sa+k)):=by rw[<-mY,Array.extract_append_extract,jI ∅,Nat.max_eq_right ∅,sL,List.extract_eq_drop_take]
    rw[e']
    conv=>lhs;rw[<-dM (sb+nc) (-13).toList,<-dM (sa+k) ((-13).toList.take (sb+nc))]
    rw[List.take_take,jI ∅,List.drop_take]
   conv=>rhs;rw[e]
   exact yH _ (qX _ pm)
  ·have lo:∀j,sa+k<=j->j<sb+nc->ky C (-13) sb<=ky C (-13) j:=λj y1 y2=>by
    by_cases c:j<sb
    ·exact bo (f3 j y1 c)
    ·exact u2 sb j (ak _) ∅ ∅
   have hi:∀i j,sa+k<=i->i<sb+nc->sb+nc<=j->j<sb+nb->ky C (-13) i<=ky C (-13) j:=λi j y1 y2 y3 y4=>by
    by_cases c:i<sb
    ·exact aJ (u1 i (sb -1) ∅ ∅ ∅) (f5 j y3 y4)
    ·exact u2 i j ∅ ∅ y4
   by_cases i1:i<sa+k
   ·rw[out i (.inl i1)];by_cases j1:j<sa+k
    ·rw[out j (.inl j1)];exact u1 i j z1 z2 ∅
    ·by_cases j2:j<sb+nc
     ·obtain⟨t,t1,t2,e⟩:=inn j ∅ j2;rw[e];exact aJ (f2 i z1 i1) (lo t t1 t2)
     ·rw[out j (.inr ∅)];exact aJ (f2 i z1 i1) (u2 sb j (ak _) ∅ z3)
   ·by_cases i2:i<sb+nc
    ·by_cases j2:j<sb+nc
     ·have hso:=eX.mp so;have g:∀i,(z1:sa+k<=i)->(z2:i<sb+nc)->ky C a' i=C.rk (m.toList[i -(sa+k)]'∅):=λi z1 z2=>by unfold ky;rw[el i,aG ⟨z1,z2⟩,ao ∅];rfl
      rw[g i ∅ i2,g j ∅ j2];by_cases e:i=j
      ·subst e;exact ak _
      ·exact hso _ _ _ _ ∅
     ·obtain⟨t,t1,t2,e⟩:=inn i ∅ i2;rw[e,out j (.inr ∅)];exact hi t j t1 t2 ∅ z3
    ·rw[out i (.inr ∅),out j (.inr ∅)];exact u2 i j ∅ z2 z3
 have o1:So C ((-13).extract (sa+k) sb):=Tu u1 ∅ ∅ (ak _);have o2:So C ((-13).extract sb (sb+nc)):=Tu u2 ∅ (ak _) ∅;have h1:=hx (l:=sa+k) (h:=sb) ∅;have h2:=hx (l:=sb) (h:=sb+nc) ∅;have l1:0<((-13).extract (sa+k) sb).size:=by lia
 have l2:0<((-13).extract sb (sb+nc)).size:=by lia
 refine W.ite (λ_=>W.bind (QO hk h1 h2 o1 o2 l1 l2 e0 el λm g R=>?_)) (λ_=>W.bind (QP hk h1 h2 o1 o2 l1 l2 e0 el λm g R=>?_));all_goals
  refine(W.bM ((W.bG (W.pure ?_))));have e9:Option.isNone (failedOf st)=true:=by rw[hf];rfl
  rw[e9];exact nx (fin m R).1 (fin m R).2
variable{C:Ct}{st:SortSt}
abbrev R3:=Nat×Nat×Nat
def Rn(C:Ct)(a:Array Keyed):Nat->List R3->Nat->Prop
 |b,[],e=>b=e
 |b,r::l,e=>r.1=b/\0<r.2.1/\Up C a b (b+r.2.1)/\Rn C a (b+r.2.1) l e
theorem Rn.le:∀{l:List R3}{b e:Nat},Rn C a b l e->b+l.length<=e
 |[],b,e,h=>by rw[show b=e from h];exact ak _
 |r::l,b,e,⟨_,h1,_,h⟩=>by have:=h.le;rw[bA];lia
theorem Rn.app:∀{l m:List R3}{b e:Nat},Rn C a b (l++m) e↔∃k,Rn C a b l k/\Rn C a k m e
 |[],m,b,e=>{λh=>⟨b,rfl,h⟩,λ⟨k,h1,h2⟩=>by rw[show b=k from h1];exact h2}
 |r::l,m,b,e=>⟨λ⟨h1,h2,h3,h4⟩=>by obtain⟨k,q1,q2⟩:=Rn.app.mp h4;exact{k,⟨h1,h2,h3,q1⟩,q2},λ⟨k,⟨h1,h2,h3,q1⟩,q2⟩=>{h1,h2,h3,Rn.app.mpr ⟨k,q1,q2⟩}⟩
theorem Rn.mv{lo hi:Nat}(m:Mv a a' lo hi):∀{l:List R3}{b e:Nat},Rn C a b l e->(e<=lo\/hi<=b)->Rn C a' b l e
 |[],b,e,h,_=>h
 |r::l,b,e,⟨h1,h2,h3,h⟩,c=>by have:=h.le;exact{h1,h2,m.up h3 ∅,Rn.mv m h ∅}
def Rn.pow(h:Rn C a b (l++[r]) e):Rn C a b (l++[(r.1,r.2.1,p)]) e:=by obtain⟨k,h1,h2⟩:=Rn.app.mp h;exact Rn.app.mpr ⟨k,h1,h2⟩
def WR{i:Nat}{r s:R3}(h1:l[i]?=some r)(h2:l[i+1]?=some s):∃m n,l=m++r::s::n/\m.length=i:=by
 obtain⟨q1,e1⟩:=aq.mp h1;obtain⟨q2,e2⟩:=aq.mp h2;refine{l.take i,l.drop (i+2),?_,by rw[aR];lia}
 conv=>lhs;rw[<-dM i l,ki q1,ki q2,e1,e2]
abbrev SS(st:SortSt)(a:Array Keyed)(P:Array R3)(g:Nat):SortSt:=SortSt.mk' (kindOf st) a P g none
def aaA(hk:kindOf st=C.κ)(iI:∀x∈a,C.In x)(hr:Rn C a 0 P.toList e)(he:e<=a.size)(hi:i+1<P.size)
  (h:∀a' P' g,a'.Perm a->P'.size+1=P.size->Rn C a' 0 P'.toList e->(∀k,e<=k->a'[k]?=a[k]?)->Q true (SS st a' P' g)):W C (mergeAt' i) Q (SS st a P g):=by
 have q1:P.toList[i]?=some (P[i]'∅):=by rw[bF,getElem?_pos]
 have q2:P.toList[i+1]?=some (P[i+1]'hi):=by rw[bF,getElem?_pos]
 obtain⟨m,n,el,lm⟩:=WR q1 q2;rw[el]at hr;obtain⟨b,r1,r2,r3,r4,r5,r6,r7,r8⟩:=Rn.app.mp hr;have r9:=r8.le;generalize P[i]'∅=x at*;generalize P[i+1]'hi=y at*;refine QQ hk rfl iI (by rw[<-bF];exact q1) (by rw[<-bF];exact q2) ∅ r3 r6 (by show y.1+y.2.1<=a.size;lia) (by rw[r5,r2];exact r4) (r5▸r7) λa' g' mv u=>?_;have TH:(((P.setIfInBounds i (x.1,x.2.1+y.2.1,x.2.2)).eraseIdxIfInBounds (i+1))).toList=m++(x.1,x.2.1+y.2.1,x.2.2)::n:=by rw[Array.toList_eraseIdxIfInBounds,Array.toList_setIfInBounds,el];subst lm;simp;rw[List.eraseIdx_append_of_length_le ∅,show m.length+1 -m.length=1 by lia];rfl
 refine h a' _ g' mv.pm ?_ ?_ λk hk=>mv.ou k (.inr ∅)
 ·rw[<-aM,TH,<-aM,el];simp;lia
 ·rw[TH];refine Rn.app.mpr {b,Rn.mv mv r1 (.inl ∅),r2,by dsimp only;lia,?_,?_}
  ·rw[r2,r5]at u;rw[show b+(x.2.1+y.2.1)=b+x.2.1+y.2.1 by lia];exact u
  ·rw[show b+(x.2.1+y.2.1)=b+x.2.1+y.2.1 by lia];exact Rn.mv mv r8 (.inr ∅)
abbrev S3(C:Ct)(a:Array Keyed)(P:Array R3)(g:Nat):SortSt:=SortSt.mk' C.κ a P g none
def Rn.push{P:Array R3}{lo n:Nat}(h:Rn C a 0 P.toList lo)(hn:0<n)(u:Up C a lo (lo+n)):Rn C a 0 (P.push (lo,n,0)).toList (lo+n):=by rw[j9];exact Rn.app.mpr ⟨lo,h,rfl,hn,u,rfl⟩
def Rn.ad9{P:Array R3}{lo pw:Nat}(h:Rn C a 0 P.toList lo)(hp:0<P.size):Rn C a 0 (P.modify (P.size -1) λx=>(x.1,x.2.1,pw)).toList lo:=by
 have ne:P.toList≠[]:=λz=>by rw[<-aM,z]at hp;exact absurd hp (-9)
 have e:(P.modify (P.size -1) λx=>(x.1,x.2.1,pw)).toList=P.toList.dropLast++[((P.toList.getLast ne).1,(P.toList.getLast ne).2.1,pw)]:=by rw[Array.toList_modify,List.modify_eq_take_cons_drop (by simpa using Nat.sub_lt hp Nat.one_pos),List.drop_of_length_le (by simp;lia),List.dropLast_eq_take,List.getLast_eq_getElem];simp
 rw[e];rw[<-tY ne]at h;exact h.pow
def adQ{T p:Nat->Array Keyed->Prop}{G:Prop}(k:(∀n b,p n b->T n b)->G)(h:∀n b,p n b->T n b):G:=k h
def W.aem{α:Type}{c:Prop}{_:Decidable c}{x y:StateT SortSt Sem α}{Q:α->SortSt->Prop}{st:SortSt}(h2:¬c->W C y Q st)(h1:c->W C x Q st):W C (if c then x else y) Q st:=W.ite h1 h2
def W.PL{α β:Type}{Q:α->SortSt->Prop}{lo hi g:Nat}{f:Nat->β->StateT SortSt Sem (ForInStep β)}{k:β->StateT SortSt Sem α}(mc:Nat->β)(I:Nat->Array Keyed->Array R3->Nat->Prop)(B:Array Keyed->Array R3->Nat->Prop){a:Array Keyed}{p:Array R3}{l:Nat}(h0:I lo a p l)(he:∀a p l,I (max lo hi) a p l->B a p l)
  (hs:∀i a p g l(E:ForInStep β->SortSt->Prop),i<hi->I i a p l->(∀a p g l,B a p l->E (.done (mc l)) (S3 C a p g))->(∀a p g l,I (i+1) a p l->E (.yield (mc l)) (S3 C a p g))->W C (f i (mc l)) E (S3 C a p g))
  (hk:∀a p g l,B a p l->W C (k (mc l)) Q (S3 C a p g)):W C (forIn [lo:hi] (mc l) f>>=k) Q (S3 C a p g):=by
 refine W.bind (W.mono (W.for (I:=λi c s'=>∃a p g l,s'=S3 C a p g/\c=mc l/\I i a p l) ?_ ?_ ⟨_,_,_,_,rfl,rfl,h0⟩) λ_ _ h=>h)
 ·rintro i c s' h1 h2 ⟨a,p,g,l,rfl,rfl,h⟩;exact hs i a p g l _ h2 h hk λa p g l h=>⟨a,p,g,l,rfl,rfl,h⟩
 ·rintro c s' ⟨a,p,g,l,rfl,rfl,h⟩;exact hk _ _ _ _ (he _ _ _ h)
def aaz(iI:∀x∈a0,C.In x)(h2:2<=a0.size)
  (h:∀a' P g,a'.Perm a0->Up C a' 0 a0.size->Q () (S3 C a' P g)):W C sortRuns' Q (S3 C a0 #[] g0):=by
 refine(W.bG ?_);generalize hN:a0.size=N at*;refine W.PL (λl=>(none,l)) (λx a P lo=>a.Perm a0/\Rn C a 0 P.toList lo/\x<=lo/\lo<=N) (λa P lo=>lo=N/\a.Perm a0/\Rn C a 0 P.toList N) {.refl _,rfl,ak _,aQ _} ?_ ?_ ?_
 ·rintro a P lo ⟨pm,rn,l1,l2⟩;have c:lo=N:=by lia
  subst c;exact⟨rfl,pm,rn⟩
 ·intro x a P g lo E hx hp dn yd;obtain⟨pm,rn,l1,l2⟩:=hp;have sz:a.size=N:=by rw[pm.size_eq,hN]
  have ia:=λx hx=>iI x (pm.mem_iff.mp hx);refine W.ite (λ(c:lo≥N)=>W.pure (dn a P g lo (by obtain rfl:lo=N:=∅;exact⟨rfl,pm,rn⟩))) λ(c:¬lo≥N)=>?_;refine W.bind (w_count rfl ia ∅ (show lo+(N -lo)<=a.size by lia) ?_);refine adQ (p:=λn b=>0<n/\lo+n<=N/\Mv a b lo (lo+(N -lo))/\Up C b lo (lo+n)) (λkey m a1 mv m1 m2 u=>W.aem (λc1=>key m a1 {m1,by lia,mv,u}) λc1=>(W.OM (W.bind (acP rfl (Mv.in mv ia) ?_ ?_ u λa2 mv2 u2=>W.ite (λz=>by simp at z) λ_=>key _ a2 {?_,?_,Mv.trans mv (Mv.wide mv2 (ak _) ∅),u2})))) ?_
  ·have c1:m<minRun' N N 0:=c1;lia
  ·have sz1:=Mv.sz (a:=a) mv;show lo+min (N -lo) (minRun' N N 0)<=a1.size;lia
  ·have c1:=c1;lia
  ·lia
  rintro m a1 ⟨n1,n2,mv,u⟩;have HV:=Rn.mv mv rn (.inl (ak _));have pm1:=mv.pm.trans pm;refine(W.bG ?_);cases hb:P.back? with
  |none=>
   exact W.bM (W.pure (yd a1 (P.push (lo,m,0)) g (lo+m) {pm1,HV.push n1 u,by lia,by lia}))
  |some r=>
   obtain⟨s1,k1,w1⟩:=r;have p0:0<P.size:=by
    rcases Nat.eq_zero_or_pos P.size with z|z
    ·rw[Array.back?_eq_getElem?,getElem?_neg P _ ∅]at hb;cases hb
    ·exact z
   refine W.PL (λ_=>(none,())) (λ_ a2 P2 _=>a2.Perm a1/\(∀k,lo<=k->a2[k]?=a1[k]?)/\Rn C a2 0 P2.toList lo/\0<P2.size) (λa2 P2 _=>a2.Perm a1/\(∀k,lo<=k->a2[k]?=a1[k]?)/\Rn C a2 0 P2.toList lo/\0<P2.size) (l:=0) {.refl _,λ_ _=>rfl,HV,p0} (λ_ _ _ h=>h) ?_ ?_
   ·intro y a2 P2 g2 _ E hy hp dn yd;obtain⟨vo,ou,pV,p2⟩:=hp;refine(W.bG ?_);by_cases c:P2.size>1
    ·have e1:(if(pendingOf (S3 C a2 P2 g2)).size>1 then(pendingOf (S3 C a2 P2 g2))[(pendingOf (S3 C a2 P2 g2)).size -2]? else none)=some ((P2[P2.size -2]'∅).1,(P2[P2.size -2]'∅).2.1,(P2[P2.size -2]'∅).2.2):=by rw[aG c,getElem?_pos P2 (P2.size -2) ∅]
     dsimp only;rw[e1];exact W.ite (λ_=>W.pure (dn _ _ _ 0 ⟨vo,ou,pV,p2⟩)) λ_=>W.bind (aaA (st:=S3 C a2 P2 g2) rfl (λx hx=>ia x (mv.pm.mem_iff.mp (vo.mem_iff.mp hx))) pV (by rw[vo.size_eq,mv.pm.size_eq,sz];lia) (show P2.size -2+1<P2.size by lia) λa3 P3 g3 q1 q2 q3 q4=>W.pure (yd a3 P3 g3 0 {q1.trans vo,λk hk=>(q4 k hk).trans (ou k hk),q3,by lia}))
    ·have e1:(if(pendingOf (S3 C a2 P2 g2)).size>1 then(pendingOf (S3 C a2 P2 g2))[(pendingOf (S3 C a2 P2 g2)).size -2]? else none)=none:=aw c;dsimp only;rw[e1];exact W.pure (dn _ _ _ 0 ⟨vo,ou,pV,p2⟩)
   ·intro a2 P2 g2 _ hp;obtain⟨vo,ou,pV,p2⟩:=hp;refine W.bM (W.bM (W.pure (yd a2 _ g2 (lo+m) {vo.trans pm1,Rn.push (pV.ad9 p2) n1 λi j z1 z2 z3=>?_,by lia,by lia})));rw[FW (ou i z1),FW (ou j ∅)];exact u i j z1 z2 z3
 ·intro a P g _ hp;obtain⟨_,pm,rn⟩:=hp;refine W.PL (λ_=>(none,())) (λy a2 P2 _=>a2.Perm a0/\Rn C a2 0 P2.toList N/\(P2.size+y<=N\/P2.size<=1)) (λa2 P2 _=>a2.Perm a0/\Rn C a2 0 P2.toList N/\P2.size<=1) (l:=0) {pm,rn,.inl ?_} ?_ ?_ ?_;rotate_left
  ·exactλa2 P2 _ ⟨vo,pV,p2⟩=>{vo,pV,by lia}
  ·intro y a2 P2 g2 _ E hy hp dn yd;obtain⟨vo,pV,p2⟩:=hp;refine(W.bG (W.ite (λc=>W.pure (dn _ _ _ 0 ⟨vo,pV,c⟩)) λc=>?_));have c:1<P2.size:=Nat.lt_of_not_le c;refine W.bind (aaA (st:=S3 C a2 P2 g2) rfl (λx hx=>iI x (vo.mem_iff.mp hx)) pV (by rw[vo.size_eq,hN];lia) ?_ λa3 P3 g3 q1 q2 q3 q4=>W.pure (yd a3 P3 g3 0 {q1.trans vo,q3,by lia}));have two:∀{c:Prop}[Decidable c],(if c then P2.size -2 -1 else P2.size -2)+1<P2.size:=λ{c} _=>by
    by_cases z:c
    ·rw[aG z];lia
    ·rw[aw z];lia
   exact two
  ·intro a2 P2 g2 _ hp;obtain⟨vo,pV,p2⟩:=hp;refine W.pure (h a2 P2 g2 vo ?_);rw[<-aM]at p2;generalize P2.toList=l at pV p2
   match l,p2,pV with
   |[],_,e=>exact absurd (show 0=N from e) ∅
   |[r],_,⟨_,_,u,e⟩=>
    rw[e]at u;exact u
  ·have:=rn.le;rw[aM]at this;lia
end OP
namespace ya
open PySem PySem.W PyProof.Rows PySem.Calls
section
variable{prog:Program}{w:World}{A:Around}{E:Aac}{s:Shared}{vs:Aae}
def Tk(s s':Shared):Prop:=∃t,s'={s with toks:=t}
def Tk.refl(s:Shared):Tk s s:={s.toks,rfl}
abbrev sP(h:Heap)(a:Addr)(vs:Aae):Heap:=((h.update a (-43)).push (seqObj "tuple" vs.toArray 0)).push (seqObj "list" #[] 0)
def Nw{rk:Value->Nat}(ho:s.heap.get? a=some (seqObj "list" vs.toArray n))(h2:2<=vs.length)(sf:vs.length<1000000)
  (hk:∀s',Tk {s with heap:=sP s.heap a vs} s'->wpAny (-5) A (keyKind' vs.toArray) (λk s2=>k=κ/\Tk {s with heap:=sP s.heap a vs} s2) (λ_ _=>False) s')
  (hc:∀x∈vs,∀y∈vs,∀s',Tk {s with heap:=sP s.heap a vs} s'->wpAny (-5) A (keyLt' κ x y) (λb s2=>b=decide (rk x<rk y)/\Tk {s with heap:=sP s.heap a vs} s2) (λ_ _=>False) s')
  (k:∀(us:Aae)(h':Heap)(tk c:Nat),us.Perm vs->us.Pairwise (λx y=>rk x<=rk y)->h'.get? a=some (seqObj "list" us.toArray c)->(∀b o,b≠a->s.heap.get? b=some o->h'.get? b=some o)->P (.done (.ret .none)) {s with heap:=h',toks:=tk}):
  wpAny (-5) A (Builtin.«list.sort» {[.ref a],[]}) P E s:=by
 obtain⟨e1,LA⟩:∃e1,(s.heap.update a (-43)).get? a=some (seqObj "list" #[] e1):={_,get?_update_seq ho λ_=>#[]};have LN:(sP s.heap a vs).get? a=some (seqObj "list" #[] e1):=ah _ (ah _ LA);have GX:∀b o,b≠a->s.heap.get? b=some o->(sP s.heap a vs).get? b=some o:=λb o nb q=>ah _ (ah _ ((bN s.heap a _).extBut b o nb q));rw[list_sort_plain];refine ae (listItems_at ho rfl ?_);refine ae (u5 ho rfl ?_ (by rw[aN,bz];lia) (aQ _));refine ae (yk LA rfl ?_);refine ae (lG ?_ (by show vs.length<=_;rw[bz];lia));refine ae (qe ?_ (aQ _));refine bS ?_;have big:¬vs.toArray.size<2:=by rw[aN];lia
 rw[aw big,aw big];refine ae (dh (hk _ (Tk.refl _)) (λkd s0 hq=>?_) λ_ _ x=>x.elim);obtain⟨rfl,t0⟩:=hq
 let C:OP.Ct:={prog,w,A,Tk {s with heap:=sP s.heap a vs},kd,λx=>rk x.1,λx=>x.2=x.1/\x.1∈vs,λx y hx hy s' tk=>hc x.1 hx.2 y.1 hy.2 s' tk}
 have hz:∀x∈vs.toArray.zip vs.toArray,x.2=x.1/\x.1∈vs:=λx hx=>by obtain⟨i,hi,e⟩:=eO.mp (by simpa using hx);rw[w5]at e;rw[<-e];exact{rfl,gJ _}
 have aeX:=OP.aaz (g0:=7) (Q:=λ_ js=>∃a',arrOf js=a'/\failedOf js=none/\a'.Perm (vs.toArray.zip vs.toArray)/\OP.Up C a' 0 (vs.toArray.zip vs.toArray).size) hz (by rw[Array.size_zip,aN];lia) (λa' P g p u=>⟨a',rfl,rfl,p,u⟩) s0 t0;refine ae (dh aeX ?_ λ_ _ e=>e.elim);rintro⟨⟨⟩,js⟩ s' ⟨⟨tk,rfl⟩,a',ea,hf,pm,up⟩;have sz:a'.size=vs.length:=by rw[pm.size_eq,Array.size_zip,aN,Nat.min_self]
 obtain⟨out,eo⟩:∃out,out=a'.toList.map (·.2):=⟨_,rfl⟩;have e2:(arrOf js).map (·.2)=out.toArray:=by rw[ea,eo];apply Array.ext';rw[Array.toList_map]
 have lp:out.length=vs.length:=by rw[eo,af,aM,sz]
 have iI:=λx hx=>hz x (pm.mem_iff.mp hx);have po:out.Perm vs:=by rw[eo];have:=(vh.mp pm).map (·.2);refine this.trans ?_;rw[List.zip_toArray];rw[List.map_snd_zip (ak _)]
 have so:out.Pairwise λx y=>rk x<=rk y:=by rw[eo];refine cH.mpr (eX.mpr λi j hi hj hij=>?_);have:=up i j (aQ _) (bo hij) (pm.size_eq▸hj);rw[OP.iW hi,OP.iW hj]at this;rw[mI,mI,(iI _ (dc hi)).1,(iI _ (dc hj)).1];exact this
 dsimp only;rw[e2];obtain⟨c2,vv⟩:∃c2,((sP s.heap a vs).update a (Obj.mapSeq λ_=>out.toArray)).get? a=some (seqObj "list" out.toArray c2):={_,get?_update_seq LN λ_=>out.toArray};refine ae (yk LN rfl ?_);refine ae (u5 LN rfl ?_ (aQ _) (by rw[aN,lp,bz];lia));rw[hf];simp only[Ds,gL,kC];exact ag (k out _ tk c2 po so vv λb o nb q=>(bN (sP s.heap a vs) a _).extBut b o nb (GX b o nb q))
def J0(ho:s.heap.get? a=some (seqObj "list" vs.toArray n))(h2:vs.length<2)
  (k:∀(h':Heap)(c:Nat),h'.get? a=some (seqObj "list" vs.toArray c)->(∀b o,b≠a->s.heap.get? b=some o->h'.get? b=some o)->P (.done (.ret .none)) {s with heap:=h'}):
  wpAny (-5) A (Builtin.«list.sort» {[.ref a],[]}) P E s:=by
 obtain⟨e1,LA⟩:∃e1,(s.heap.update a (-43)).get? a=some (seqObj "list" #[] e1):={_,get?_update_seq ho λ_=>#[]};have LN:(sP s.heap a vs).get? a=some (seqObj "list" #[] e1):=ah _ (ah _ LA);have GX:∀b o,b≠a->s.heap.get? b=some o->(sP s.heap a vs).get? b=some o:=λb o nb q=>ah _ (ah _ ((bN s.heap a _).extBut b o nb q));rw[list_sort_plain];refine ae (listItems_at ho rfl ?_);refine ae (u5 ho rfl ?_ (by rw[aN,bz];lia) (aQ _));refine ae (yk LA rfl ?_);refine ae (lG ?_ (by show vs.length<=_;rw[bz];lia));refine ae (qe ?_ (aQ _));refine bS ?_;have gC:vs.toArray.size<2:=by rw[aN];lia
 rw[aG gC,aG gC];refine ae (ag ?_);refine ae (ag ?_);dsimp only;have es:(arrOf (SortSt.mk' general' (vs.toArray.zip vs.toArray) #[] 7 none)).map (·.2)=vs.toArray:=by apply xb.mp;simp[List.map_snd_zip]
 rw[es];obtain⟨c2,vv⟩:∃c2,((sP s.heap a vs).update a (Obj.mapSeq λ_=>vs.toArray)).get? a=some (seqObj "list" vs.toArray c2):={_,get?_update_seq LN λ_=>vs.toArray};refine ae (yk LN rfl ?_);refine ae (u5 LN rfl ?_ (aQ _) (by rw[aN,bz];lia));simp only[Ds,gL,kC];exact ag (k _ c2 vv λb o nb q=>(bN (sP s.heap a vs) a _).extBut b o nb (GX b o nb q))
abbrev Ij(a b:Str):Bool:=decide (a.cps.toList<b.cps.toList)
def dH:Aaf->Aaf->Bool
 |_,[]=>false
 |[],_::_=>true
 |a::r,b::q=>if a=b then dH r q else Ij a b
def PJ(a:Str):Ij a a=false:=bB (List.lt_irrefl _)
def Sd(h1:Ij a b=true)(h2:Ij b c=true):Ij a c=true:=aT (List.lt_trans (aW h1) (aW h2))
def Se(h:Ij a b=false)(h2:Ij b a=false):a=b:=by exact ext_toList (List.le_antisymm (List.not_lt.mp (nW h2)) (List.not_lt.mp (nW h)))
theorem rQ:∀a,dH a a=false
 |[]=>rfl
 |a::r=>by unfold dH;rw[aG rfl];exact rQ r
theorem uf:∀{a b c:Aaf},dH a b=true->dH b c=true->dH a c=true
 |_,[],[],_,h=>by unfold dH at h;cases h
 |_,_::_,[],_,h=>by unfold dH at h;cases h
 |_,[],_::_,h,_=>by unfold dH at h;cases h
 |[],_::_,_::_,_,_=>rfl
 |a::r,b::q,c::p,h1,h2=>by
  unfold dH at h1 h2⊢;by_cases e1:a=b
  ·subst e1;rw[aG rfl]at h1;by_cases e2:a=c
   ·rw[aG e2]at h2⊢;exact uf h1 h2
   ·rw[aw e2]at h2⊢;exact h2
  ·rw[aw e1]at h1;by_cases e2:b=c
   ·subst e2;rw[aw e1];exact h1
   ·rw[aw e2]at h2;have h3:=Sd h1 h2;rw[aw (λe=>by rw[e,PJ]at h3;cases h3)];exact h3
theorem ug:∀{a b:Aaf},dH a b=false->dH b a=false->a=b
 |[],[],_,_=>rfl
 |[],_::_,h,_=>by unfold dH at h;cases h
 |_::_,[],_,h=>by unfold dH at h;cases h
 |a::r,b::q,h1,h2=>by
  unfold dH at h1 h2;by_cases e:a=b
  ·subst e;rw[aG rfl]at h1 h2;rw[ug h1 h2]
  ·rw[aw e]at h1;rw[aw (cB e)]at h2;exact(e (Se h1 h2)).elim
abbrev lq(a b:Aaf):Bool:=!dH b a
def MG(a b c:Aaf)(h1:lq a b=true)(h2:lq b c=true):lq a c=true:=by
 have F7:dH c b=false:=by simpa using h2
 cases q:dH c a with
 |false=>simp[lq,q]
 |true=>
  cases p:dH a b with
  |true=>rw[uf q p]at F7;cases F7
  |false=>rw[ug p (by simpa using h1),F7]at q;cases q
def MK(a b:Aaf):(lq a b||lq b a)=true:=by
 cases q:dH b a with
 |false=>simp[lq,q]
 |true=>
  cases p:dH a b with
  |false=>simp[lq,p]
  |true=>have:=uf q p;rw[rQ]at this;cases this
def PN(h1:lq a b=true)(h2:lq b a=true):a=b:=ug (by simpa using h2) (by simpa using h1)
def cA(l:T7):T7:=l.mergeSort lq
def cb(l:T7):(cA l).Perm l:=Bo l lq
def Ft(l:T7):(cA l).Pairwise (λa b=>lq a b=true):=xi MG MK l
theorem Kw:∀{l m:T7},l.Perm m->l.Pairwise (λa b=>lq a b=true)->m.Pairwise (λa b=>lq a b=true)->l=m
 |[],m,h,_,_=>(List.nil_perm.mp h).symm
 |a::l,[],h,_,_=>absurd h.length_eq (-8)
 |a::l,b::m,h,h1,h2=>by
  have e:a=b:=by
   rcases aH.mp (h.mem_iff.mp (aA))with e|e
   ·exact e
   ·rcases aH.mp (h.mem_iff.mpr (aA))with q|q
    ·exact q.symm
    ·exact PN (iw h1 q) (iw h2 e)
  subst e;rw[Kw (List.perm_cons a|>.mp h) (kT.mp h1).2 (kT.mp h2).2]
def qp(h:l.Perm zs)(hs:l.Pairwise (λa b=>lq a b=true)):l=cA zs:=Kw (h.trans (cb zs).symm) hs (Ft zs)
def DH(h:l.Perm m):cA l=cA m:=qp ((cb l).trans h) (Ft l)
def Kj(rows:T7)(a:Aaf):Nat:=rows.countP λr=>dH r a
def Jn(ha:a∈rows)(hb:b∈rows):decide (Kj rows a<Kj rows b)=dH a b:=by
 have strict:∀{a b:Aaf},a∈rows->dH a b=true->Kj rows a<Kj rows b:=λ{a b} hm h=>by unfold Kj;obtain⟨l1,l2,e⟩:=List.append_of_mem hm;have c1:∀l:T7,(l.countP λr=>dH r a)<=l.countP λr=>dH r b:=λl=>List.countP_mono_left λr _ hr=>uf hr h;rw[e,CL,CL,List.countP_cons,List.countP_cons,rQ,h];have:=c1 l1;have:=c1 l2;simp;lia
 cases q:dH a b with
 |true=>exact aT (strict ha q)
 |false=>
  refine bB (A0.mpr ?_);cases p:dH b a with
  |true=>exact bo (strict hb p)
  |false=>rw[ug q p];exact ak _
end
inductive jF:Aaf->Aae->Prop where
 |nil:jF [] []
 |cons {z:Str} {t:Tok} {zs:Aaf} {vs:Aae}:jF zs vs->jF (z::zs) (.str z t::vs)
def TupIs(h:Heap)(v:Value)(zs:Aaf):Prop:=∃a o aS n,v=.ref a/\h.get? a=some o/\o.cls=.type "tuple"/\o.data=.seq aS n/\jF zs aS.toList
def TupIs.mono(x:TupIs h v zs)(kp:∀b o,h.get? b=some o->h'.get? b=some o):TupIs h' v zs:=by obtain⟨a,o,aS,n,e,ho,r⟩:=x;exact{a,o,aS,n,e,kp _ _ ho,r}
theorem jF.one:∀{xs ys:Aaf}{vs:Aae},jF xs vs->jF ys vs->xs=ys
 |_,_,_,.nil,.nil=>rfl
 |_,_,_,.cons a,.cons b=>by rw[a.one b]
def TupIs.one(a:TupIs h v xs)(b:TupIs h v ys):xs=ys:=by obtain⟨a,o,aS,n,rfl,h1,_,h2,h3⟩:=a;obtain⟨b,p,xI,m,e,q1,_,q2,q3⟩:=b;cases e;rw[h1]at q1;cases q1;rw[h2]at q2;cases q2;exact h3.one q3
open Classical in
def rowOf(h:Heap)(v:Value):Aaf:=if x:∃r,TupIs h v r then Classical.choose x else[]
def tG(x:TupIs h v r):rowOf h v=r:=by unfold rowOf;rw[dif_pos ⟨r,x⟩];exact(zN (⟨r,x⟩:∃r,TupIs h v r)).one x
section
variable{prog:Program}{w:World}{A:Around}{E:Aac}{s:Shared}
def eq_str(h:Q (decide (a=b)) s):wpAny (-5) A (eqBool (.str a t) (.str b u)) Q E s:=
 (PySem.strKind prog w).eqBool (mx _ _ _ _) (mx _ _ _ _) h
def ZN{xs:Aaf}{vs:Aae}(h1:jF xs vs):∀{ys:Aaf}{us:Aae}(i:Nat)(s:Shared),jF ys us->(fin=decide (xs.length<ys.length))->C (dH xs ys) s->KatLex prog w A true fin C (vs.zip us) i s:=by
 induction h1 with
 |nil=>
  intro ys us i s h2 hf h;refine kat_nil ?_;rw[hf];cases h2<;>exact h
 |@cons a xs vs t r1 ih=>
  intro ys us i s h2 hf h;cases h2 with
  |nil=>
   refine kat_nil ?_;rw[hf];exact h
  |@cons b ys us u r2=>
   refine kat_cons (eq_str ?_);unfold dH at h;by_cases e:a=b
   ·rw[aT e];rw[aG e]at h;refine kat_yes (ih (i+1) s r2 ?_ h);rw[hf];simp
   ·rw[bB e];rw[aw e]at h;refine kat_no ?_;cases i with
    |zero=>exact oneLt_str h
    |succ i=>
     have e2:(true&&(i+1==0))=false:=by simp
     exact kat_one _ _ (Bn h)
def abv(hx:TupIs s.heap x xs)(hy:TupIs s.heap y ys)(h:C (dH xs ys) s):wpAny (-5) A (keyLt' (tuples' true) x y) C E s:=by
 obtain⟨a,o,aS,n,rfl,ho,hc,hd,hr⟩:=hx;obtain⟨b,p,xI,m,rfl,hp,X2,FZ,hq⟩:=hy;refine kat_lt ho hd hp FZ (ZN hr 0 s hq ?_ h);have len:∀{zs:Aaf}{vs:Aae},jF zs vs->zs.length=vs.length:=by
  intro zs vs r
  induction r with
  |nil=>rfl
  |cons _ ih=>simp[ih]
 rw[len hr,len hq,aM,aM]
def VS{vs:Aae}{rows:T7}(hl:vs.length=rows.length)(h2:2<=vs.length)(ht:∀(i:Nat) v r,vs[i]?=some v->rows[i]?=some r->TupIs s.heap v r)(iU:∀r∈rows,r≠[])(h:Q (tuples' true) s):wpAny (-5) A (keyKind' vs.toArray) Q E s:=by
 have key:∀(vs:Aae)(rows:T7),vs.length=rows.length->(∀(i:Nat) v r,vs[i]?=some v->rows[i]?=some r->TupIs s.heap v r)->(∀r∈rows,r≠[])->∃fs,KatTups s.heap vs fs/\fs.length=vs.length/\∀f∈fs,∃z t,f=Value.str z t:=by
  intro vs
  induction vs with
  |nil=>intro rows hl _ _;exact{[],KatTups.nil,rfl,λf hf=>nomatch hf}
  |cons v vs ih=>
   intro rows hl ht iU;cases rows with
   |nil=>simp at hl
   |cons r rows=>
    obtain⟨fs,h1,h2,h3⟩:=ih rows (by simpa using hl) (λi v' r' e1 e2=>ht (i+1) v' r' (-56) (-73)) λr' hr=>iU r' (aB _ hr);obtain⟨a,o,aS,n,rfl,ho,hc,hd,hr⟩:=ht 0 v r rfl rfl;cases r with
    |nil=>exact(iU [] aA rfl).elim
    |cons z zs=>
     generalize eL:aS.toList=L at hr;cases hr with
     |@cons _ t _ vm fL=>
      refine{.str z t::fs,KatTups.cons ho hc hd (by rw[<-bF,eL];rfl) h1,by simp[h2],λf hf=>?_};rcases aH.mp hf with rfl|hf
      ·exact⟨z,t,rfl⟩
      ·exact h3 f hf
 obtain⟨fs,h1,h3,h4⟩:=key vs rows hl ht iU;refine kat_kind (T:=.type "str") h1 ∅ (λv hv=>?_) (-9) ?_
 ·obtain⟨z,t,rfl⟩:=h4 v hv;exact Looks.of_pure rfl
 ·have e:((Value.type "str") !=Value.type "tuple")=true:=by decide
  exact h
def Q4(ho:s.heap.get? a=some (seqObj "list" vs.toArray n))(hl:vs.length=rows.length)(ht:∀(i:Nat) v r,vs[i]?=some v->rows[i]?=some r->TupIs s.heap v r)(iU:2<=rows.length->∀r∈rows,r≠[])(sf:vs.length<1000000)
  (k:∀(h':Heap)(tk c:Nat)(us:Aae),h'.get? a=some (seqObj "list" us.toArray c)->(∀b o,b≠a->s.heap.get? b=some o->h'.get? b=some o)->us.Perm vs->(∀(i:Nat) v r,us[i]?=some v->(cA rows)[i]?=some r->TupIs s.heap v r)->P (.done (.ret .none)) {s with heap:=h',toks:=tk}):
  wpAny (-5) A (Builtin.«list.sort» {[.ref a],[]}) P E s:=by
 by_cases c2:vs.length<2
 ·refine J0 ho c2 λh' c g kp=>?_;have e:cA rows=rows:=by
   have:rows.length<2:=by lia
   match rows,this with
   |[],_=>exact(qp (.refl _) .nil).symm
   |[r],_=>exact(qp (.refl _) (-8)).symm
   |_::_::_,q=>simp at q;lia
  rw[e]at k;exact k h' s.toks c vs g kp (.refl _) ht
 ·have na:∀v r,TupIs s.heap v r->v≠ .ref a:=λv r x z=>by obtain⟨b,o,aS,m,rfl,hb,hc,_⟩:=x;cases z;rw[ho]at hb;cases hb;injection hc with z;exact absurd z (-9)
  have ht3:∀s',Tk {s with heap:=sP s.heap a vs} s'->∀(i:Nat) v r,vs[i]?=some v->rows[i]?=some r->TupIs s'.heap v r:=λs' ⟨t,e⟩ i v r e1 e2=>by subst e;have x:=ht i v r e1 e2;have ne:=na v r x;obtain⟨b,o,aS,m,rfl,hb,r⟩:=x;exact{b,o,aS,m,rfl,ah _ (ah _ ((bN s.heap a _).extBut b o (λz=>ne (by rw[z])) hb)),r}
  have mr:∀v∈vs,∃r,r∈rows/\TupIs s.heap v r/\∀s',Tk {s with heap:=sP s.heap a vs} s'->TupIs s'.heap v r:=λv hv=>by obtain⟨i,hi,rfl⟩:=eO.mp hv;have e1:=ao hi;have e2:=ao (l:=rows) (i:=i) ∅;exact{_,gJ _,ht i _ _ e1 e2,λs' tk=>ht3 s' tk i _ _ e1 e2}
  refine Nw (κ:=tuples' true) (rk:=λv=>Kj rows (rowOf s.heap v)) ho ∅ sf (λs' tk=>VS hl ∅ (ht3 s' tk) (iU ∅) ⟨rfl,tk⟩) (λx hx y hy s' tk=>?_) λus h' tk c po so g kp=>?_
  ·obtain⟨r,m1,t1,k1⟩:=mr x hx;obtain⟨q,m2,t2,k2⟩:=mr y hy;refine abv (k1 s' tk) (k2 s' tk) {?_,tk};rw[tG t1,tG t2,Jn m1 m2]
  ·have er:us.map (rowOf s.heap)=cA rows:=by
    have ev:vs.map (rowOf s.heap)=rows:=by refine qG (by simpa using hl) λi h1 h2=>?_;rw[mD];exact tG (ht i _ _ (ao _) (ao h2))
    refine qp (ev▸po.map _) (cH.mpr (so.imp_of_mem λ{x y} hx hy q=>?_));obtain⟨r,m1,t1,k1⟩:=mr x (po.mem_iff.mp hx);obtain⟨p,m2,t2,k2⟩:=mr y (po.mem_iff.mp hy);rw[tG t1,tG t2]at q⊢;have z:=Jn m2 m1;rw[bB (A0.mpr q)]at z;show(!dH _ _)=true;rw[<-z];rfl
   refine k h' tk c us g kp po λi v r e1 e2=>?_;rw[<-er,aL,e1]at e2;cases e2;obtain⟨r,m1,t1,k1⟩:=mr v (po.mem_iff.mp (az e1));rw[tG t1];exact t1
end
end ya
namespace L2
open PySem PySem.Spec PyProof.Rows ya
abbrev dJ(K:Frag)(H:Hp):Aam->T7->Prop:=Paired λ(y:V)(zs:Aaf)=>∃a,y=.ref a/\bC K H a (-70)
theorem Ki:∀{zs:Aaf}{us:Aae},Vals (-70) us->jF zs us
 |[],_,.nil=>.nil
 |z::r,_,.cons ⟨t,e⟩ h=>by subst e;exact .cons (Ki h)
theorem Ss:∀{zs:Aaf}{us:Aae},Vals (-70) us->ItemsAre (bW P w) (zs.map Sum.inr) us
 |[],_,.nil=>.nil
 |z::r,_,.cons ⟨t,e⟩ h=>by subst e;exact .cons (DR _ _ _ _) (Ss h)
section
variable{X:Cx}{pins:Aaa}{Z:St}{H:Hp}{s:Shared}
def Inv.row(I:Inv X pins Z H s)(h:bC X.K H a (-70)):TupIs s.heap (-64) zs/\IsTupleKey (bW X.prog X.w) s.heap (zs.map Sum.inr) a:=by obtain⟨aS,r,⟨o,e,c,n,d⟩,_⟩:=I.tuple h;exact{{a,o,aS.toArray,n,rfl,e,c,d,by simpa using Ki r},{o,aS.toArray,n,e,c,d,by simpa using Ss r}}
theorem Inv.rows(I:Inv X pins Z H s):∀{ys:Aam}{rows:T7}{us:Aae},dJ X.K H ys rows->Vals ys us->∃bs:Aah,us=bs.map Value.ref/\ys=bs.map V.ref/\bs.length=rows.length/\∀(i:Nat) z b,rows[i]?=some z->bs[i]?=some b->bC X.K H b (z.map V.str)
 |_,_,_,.nil,.nil=>{[],rfl,rfl,rfl,λi z b e=>by simp at e}
 |_,_,_,.cons ⟨a,e,h⟩ r,.cons (b:=u) ru q=>by
  obtain⟨bs,h1,h2,h3,h4⟩:=I.rows r q;subst e;cases(show u=Value.ref a from ru);refine{a::bs,by rw[h1];rfl,by rw[h2];rfl,by simp[h3],λi z b e1 e2=>?_};cases i with
  |zero=>cases e1;cases e2;exact h
  |succ i=>exact h4 i z b (-56) (-73)
end
theorem NA{K:Frag}:∀{bs:Aah}{rows:T7},bs.length=rows.length->(∀(i:Nat) z b,rows[i]?=some z->bs[i]?=some b->bC K H b (z.map V.str))->dJ K H (bs.map V.ref) rows
 |[],[],_,_=>.nil
 |[],_::_,h,_=>by simp at h
 |_::_,[],h,_=>by simp at h
 |b::bs,z::rows,h,k=>.cons {b,rfl,k 0 z b rfl rfl} (NA (by simpa using h) λi z' b' e1 e2=>k (i+1) z' b' (-56) (-73))
theorem Gy:∀bs:Aah,Vals (bs.map V.ref) (-92)
 |[]=>.nil
 |b::bs=>.cons rfl (Gy bs)
def acR:Value->Addr
 | .ref a=>a
 |_=>0
def NC(h:us.Perm (-92)):∃cs:Aah,us=cs.map Value.ref/\cs.Perm bs:=by
 have all:∀{us:Aae},(∀u∈us,∃b,u=Value.ref b)->∃cs:Aah,us=cs.map Value.ref:=by
  intro us
  induction us with
  |nil=>intro _;exact{[],rfl}
  |cons u us ih=>
   intro hu;obtain⟨b,rfl⟩:=hu u aA;obtain⟨cs,rfl⟩:=ih λv hv=>hu v (aB _ hv);exact{b::cs,rfl}
 obtain⟨cs,rfl⟩:=all λu hu=>by obtain⟨b,_,e⟩:=ar.mp (h.mem_iff.mp hu);exact{b,e.symm}
 refine{cs,rfl,?_};have e:∀l:Aah,(l.map Value.ref).map acR=l:=λl=>by
  induction l with
  |nil=>rfl
  |cons a l ih=>exact bV (a::·) ih
 rw[<-e cs,<-e bs];exact h.map _
def AF:T7->T7
 |[]=>[]
 |r::l=>if r∈l then AF l else r::AF l
theorem wC(x:Aaf):∀l,x∈AF l↔x∈l
 |[]=>o6
 |r::l=>by
  unfold AF;by_cases c:r∈l
  ·rw[aG c,wC x l,aH];exact{.inr,λh=>h.elim (λe=>e▸c) id}
  ·rw[aw c,aH,aH,wC x l]
theorem vM:∀l,(AF l).Nodup
 |[]=>lZ
 |r::l=>by
  unfold AF;by_cases c:r∈l
  ·rw[aG c];exact vM l
  ·rw[aw c];exact cV.mpr {λh=>c ((wC r l).mp h),vM l}
def vK(l:T7):T7:=cA (AF l)
def Ew(nd:l.Nodup)(h:∀r,r∈l↔r∈rows):cA l=vK rows:=
 DH ((jR nd (vM rows)).mpr λr=>by rw[h,wC])
def jt(x:Aaf)(l:T7):x∈vK l↔x∈l:=by unfold vK;rw[(cb _).mem_iff,wC]
section
variable{prog:Program}{w:World}{A:Around}{E:Aac}{s:Shared}
def Mp{Q:Aac}(hl:vs.length=rows.length)(ht:∀(i:Nat) v r,vs[i]?=some v->rows[i]?=some r->TupIs s.heap v r)(iU:2<=rows.length->∀r∈rows,r≠[])(sf:vs.length<1000000)
  (k:∀(h':Heap)(tk c:Nat)(us:Aae),h'.get? s.heap.objs.size=some (seqObj "list" us.toArray c)->(∀b o,s.heap.get? b=some o->h'.get? b=some o)->us.Perm vs->(∀(i:Nat) v r,us[i]?=some v->(cA rows)[i]?=some r->TupIs s.heap v r)->Q (-11) {s with heap:=h',toks:=tk}):
  wpAny (-5) A (newList vs>>=λl=>holding [l] (call (.builtin "list.sort") [l] [])>>=λ_=>ret l) (λfin s'=>∃v,fin=Fin.done (.ret v)/\Q v s') E s:=by
 refine ae (qe ?_ (by rw[bz];lia));have Cc:(s.heap.push (seqObj "list" vs.toArray 0)).get? s.heap.objs.size=some (seqObj "list" vs.toArray 0):=aE _ rfl;refine ae (bS (bp yR ⟨_,Cc,rfl⟩ xY (Q4 Cc hl (λi v r e1 e2=>(ht i v r e1 e2).mono λb o e=>ah _ e) iU sf λh' tk c us g kp pm q=>{_,rfl,?_}) (zE _)));refine ag {_,rfl,k h' tk c us g (λb o e=>kp b o (aI (aF e)) (ah _ e)) pm λi v r e1 e2=>?_};have x:=q i v r e1 e2;obtain⟨j,hj⟩:=cP.mp (pm.mem_iff.mp (az e1));have jY:j<rows.length:=by have:=(aq.mp hj).1;lia
 have y:=ht j v _ hj (ao jY);obtain⟨b,o,aS,m,rfl,hb,r1⟩:=y;obtain⟨b',o',rT,m',e',kD,r1'⟩:=x;cases e';have:o'=o:=by have:=ah (seqObj "list" vs.toArray 0) hb;exact bJ (kD.symm.trans this)
 subst this;exact⟨b,o',rT,m',rfl,hb,r1'⟩
variable{X:Cx}
def SortedTo(K:Frag)(H:Hp)(ys:Aam)(rows:T7)(Q:VK):Prop:=∀l zs,H l=none->dJ K H zs (cA rows)->(∀z∈zs,z∈ys)->Q (.ref l) (upd H l (.lst zs))
def zZ{pins:Aaa}{Z:St}{H:Hp}{s s1:Shared}{bs:Aah}{rows:T7}{Q:VK}(I:Inv X pins Z H s1)(lb:bs.length=rows.length)(hb:∀(i:Nat) z b,rows[i]?=some z->bs[i]?=some b->bC X.K H b (z.map V.str))(iU:2<=rows.length->∀r∈rows,r≠[])(sf:rows.length<1000000)(q:SortedTo X.K H (bs.map V.ref) rows Q){A:Around}{E:Aac}:
  wpAny (-6) A (newList (-92)>>=λl=>holding [l] (call (.builtin "list.sort") [l] [])>>=λ_=>ret l) (λfin s'=>∃v,fin=Fin.done (.ret v)/\EP X pins Z Q v s') E s1:=by
 refine Mp (by rw[af];exact lb) (λi v r e1 e2=>?_) iU (by rw[af];lia) λh' tk c us g kp pm srt=>?_
 ·rw[aL]at e1;obtain⟨b,e3,rfl⟩:=bq.mp e1;exact(I.row (hb i r b e2 e3)).1
 ·obtain⟨cs,rfl,pc⟩:=NC pm;have lc:cs.length=rows.length:=by rw[pc.length_eq,lb]
  refine{.ref s1.heap.objs.size,_,I.laid kp (ak _) (show dE X.prog X.w _ _ _ (.lst (cs.map V.ref))from{(by rw[af,bz];lia),cs.map Value.ref,c,Gy cs,g}),rfl,q _ (cs.map V.ref) (-72) (NA (by rw[lc,(cb rows).length_eq]) λi z b e1 e2=>?_) λz hz=>(pc.map _).mem_iff.mp hz};have t:=srt i (.ref b) z (by rw[aL,e2];rfl) e1;obtain⟨j,hj⟩:=cP.mp (pc.mem_iff.mp (az e2));have jY:j<rows.length:=by have:=(aq.mp hj).1;lia
  have hr:=hb j _ b (ao jY) hj;have e:rows[j]=z:=by
   obtain⟨b1,o1,i1,n1,e1,g1,c1,d1,r1⟩:=t;obtain⟨b2,o2,i2,n2,e2,g2,c2,d2,r2⟩:=((I.row hr).1);cases e1;cases e2;rw[g1]at g2;cases g2;rw[d1]at d2;cases d2;have inj:∀{x y:Aaf}{vs:Aae},jF x vs->jF y vs->x=y:=by
    intro x y vs hx
    induction hx generalizing y with
    |nil=>intro hy;cases hy;rfl
    |cons _ ih=>intro hy;cases hy with|cons hy=>rw[ih hy]
   exact inj r2 r1
  rw[<-e];exact hr
def L7:iN X (.builtin "sorted") (λxs H Q=>∃p ys rows,xs=[.ref p]/\aY X.K H p ys/\dJ X.K H ys rows/\(2<=rows.length->∀r∈rows,r≠[])/\rows.length<1000000/\SortedTo X.K H ys rows Q):=by
 intro pins s Z H xs us Q I r h;obtain⟨p,ys,rows,rfl,hq,hr,iU,sf,q⟩:=h;obtain⟨u,rfl,rx⟩:=jy r;cases rx;obtain⟨aS,r',pl,hz⟩:=I.list hq;obtain⟨bs,rfl,rfl,lb,hb⟩:=I.rows hr r';refine f7 uh rK si (sA _) ?_;refine ae (ag ?_);refine ae (collect_list pl.isList ?_ (by rw[af,bz];lia));have kp:∀b o,s.heap.get? b=some o->((s.heap.push (seqObj "list" #[] 0)).update s.heap.objs.size (Obj.mapSeq (·++(-92).toArray))).get? b=some o:=λb o e=>by rw[Bp _ _ _ _ (aI (aF e))];exact ah _ e
 exact zZ (s:=s) (I.kept kp) lb hb iU sf q
def rh:Key->Str
 | .inr z=>z
 | .inl _=>""
def xt(z:Aaf):(z.map (Sum.inr:Str->Key)).map rh=z:=by
 induction z with
 |nil=>rfl
 |cons a z ih=>exact bV (a::·) ih
end
def vc(P:Program)(w:World)(a:Addr)(us:List (Aaf×Addr)):Heap->Prop:=λh=>∃o ep t,h.get? a=some o/\o.ExactSet/\o.data=.set (us.map λx=>Tb.ent (bW P w) (x.1.map Sum.inr,x.2)).toArray ep t/\t.fits us.length=true/\t.led=Tb.lN w/\Tb.oq t.place
def Y7(x:vc P w a us h):dE P w H h a (.ext (vc P w a us)):=
 {x,let⟨o,_,_,q,_⟩:=x;⟨o,q⟩,λ_ _ ⟨o,ep,t,q,r⟩ k=>{o,ep,t,k _ q,r}}
section
variable{X:Cx}{pins:Aaa}{Z:St}{H:Hp}{s:Shared}{h':Heap}
def Inv.XG(I:Inv X pins Z H s)(k:∀b u,s.heap.get? b=some u->h'.get? b=some u):Inv X pins Z H {s with heap:=h',drawn:=d',toks:=t'}:=
 I.step (ch:=[]) (λ_ z=>nomatch z) (λb o _ _ _ e _=>k b o e) (λb o _ _ _ e _=>{o.slots,k b o e}) (λ_ _ _ _ n=>n) (λb o _ e=>{o,k b o e}) (λ_ _ e=>e) (λ_ _ _ e=>e) (λb ps e=>{#[],by rw[e];simp}) (λm hm=>by obtain⟨o,es,ep,ho,r⟩:=hm;exact{o,es,ep,k _ _ ho,r}) (I.bj.kept k) I.bare
end
section
variable{X:Cx}
def IT(hA:X.A.handled=none)(hu:X.A.units+64<cLine):iN X (.type "set") (λxs H Q=>∃p ys rows,xs=[.ref p]/\aY X.K H p ys/\dJ X.K H ys rows/\rows.length<=1000/\∀a us,H a=none->(us.map (·.1)).Nodup->(∀r,r∈us.map (·.1)↔r∈rows)->us.length<=rows.length->(∀x∈us,bC X.K H x.2 (x.1.map V.str)/\V.ref x.2∈ys)->Q (-64) (upd H a (.ext (vc X.prog X.w a us)))):=by
 intro pins s Z H xs us Q I r h;obtain⟨p,ys,rows,rfl,hq,hr,hz,q⟩:=h;obtain⟨u,rfl,rx⟩:=jy r;cases rx;obtain⟨aS,r',pl,_⟩:=I.list hq;obtain⟨bs,rfl,rfl,lb,hb⟩:=I.rows hr r';refine Tb.Ug (knd:=bW X.prog X.w) (ks:=rows.map λz=>z.map Sum.inr) (bs:=bs) hA (by show X.A.units+1+1+1<cLine;lia) pl.isList (-8) (by rw[af,lb]) (λi k b e1 e2=>?_) ∅ λh' tk o ep t xs S hl hH kp=>?_
 ·rw[aL]at e1;obtain⟨z,e3,rfl⟩:=bq.mp e1;exact(I.row (hb i z b e3 e2)).2
 ·have inj:∀x∈xs,∃(j:Nat)(z:Aaf),rows[j]?=some z/\x.1=z.map Sum.inr/\bs[j]?=some x.2:=λx hx=>by obtain⟨j,j1,j2⟩:=hH.Jw x hx;rw[aL]at j1;obtain⟨z,e3,e4⟩:=bq.mp j1;exact{j,z,e3,e4.symm,j2}
  have back:(-83).map (λx=>((x.1.map Sum.inr:List Key),x.2))=xs:=by
   rw[aV];have:∀x∈xs,((λx:Aaf×Addr=>((x.1.map Sum.inr:List Key),x.2))∘λx:List Key×Addr=>(x.1.map rh,x.2)) x=x:=λx hx=>by obtain⟨j,z,_,e,_⟩:=inj x hx;show((x.1.map rh).map Sum.inr,x.2)=x;rw[e,xt];exact Fb e.symm rfl
   rw[aU this,List.map_id']
  have fst:∀r,r∈(-83).map (·.1)↔r∈rows:=λr=>by
   rw[aV,ar];constructor
   ·rintro⟨x,hx,rfl⟩;obtain⟨j,z,e1,e,_⟩:=inj x hx;show x.1.map rh∈rows;rw[e,xt];exact az e1
   ·intro hr;have:r.map Sum.inr∈xs.map (·.1):=(hH.mem _).mpr (by
     rw[cX (by rw[af,lb];exact ak _)];exact ar.mpr ⟨r,hr,rfl⟩)
    obtain⟨x,hx,e⟩:=ar.mp this;exact{x,hx,by show x.1.map rh=r;rw[e,xt]}
  have nd:((-83).map (·.1)).Nodup:=by
   have h1:=S.nd;rw[<-back,aV]at h1;have h2:((-83).map ((·.1)∘λx:Aaf×Addr=>((x.1.map Sum.inr:List Key),x.2)))=((-83).map (·.1)).map λz=>z.map Sum.inr:=by simp only[aV];rfl
   rw[h2]at h1;exact(cH.mp h1).imp λne e=>ne (by rw[e])
  have hd:o.data=.set ((-83).map λx=>Tb.ent (bW X.prog X.w) (x.1.map Sum.inr,x.2)).toArray ep t:=by rw[S.data];congr 2;have:=bV (List.map (Tb.ent (bW X.prog X.w))) back;rw[aV]at this;exact this.symm
  refine{.ref s.heap.objs.size,_,I.laid kp (ak _) (Y7 {o,ep,t,S.ob,S.ex,hd,?_,hl,S.tab.rise}),rfl,q _ _ (-72) nd fst ?_ λx hx=>?_}
  ·have:=S.fits;simpa using this
  ·rw[af];have:=hH.len;lia
  ·obtain⟨y,hy,rfl⟩:=ar.mp hx;obtain⟨j,z,e1,e,e2⟩:=inj y hy;refine{?_,ar.mpr {y.2,az e2,rfl}};rw[e,xt];exact hb j z y.2 e1 e2
def zC(hA:X.A.handled=none):iN X (.builtin "sorted") (λxs H Q=>∃a us ys,xs=[.ref a]/\H a=some (.ext (vc X.prog X.w a us))/\(∀x∈us,bC X.K H x.2 (x.1.map V.str)/\V.ref x.2∈ys)/\(2<=us.length->∀x∈us,x.1≠[])/\us.length<1000/\SortedTo X.K H ys (us.map (·.1)) Q):=by
 intro pins s Z H xs us Q I r h;obtain⟨a,kQ,ys,rfl,ha,hx,iU,sf,q⟩:=h;obtain⟨u,rfl,rx⟩:=jy r;cases rx;obtain⟨⟨o,ep,t,ho,hex,hd,hf,hl,ady⟩,_⟩:=(show dE X.prog X.w H s.heap a (.ext (vc X.prog X.w a kQ))from I.bj a _ ha);refine f7 uh rK si (sA _) ?_;refine ae (ag ?_);refine ae (Tb.Ek (by simpa using hA) {⟨o,ho,hex,hd⟩,by simpa using hf,λcf _=>{by rw[hl,Tb.lN,cf];rfl,ady}} (by simp;lia) λh' tk d vs pm kp=>?_);have e0:(kQ.map λx=>Tb.ent (bW X.prog X.w) (x.1.map Sum.inr,x.2)).toArray.toList.map (·.2)=kQ.map λx=>Value.ref x.2:=by simp[vG]
 rw[e0]at pm;obtain⟨vm,pv,rfl⟩:=rL pm rfl;have lb:(vm.map (·.2)).length=(vm.map (·.1)).length:=by rw[af,af]
 have lu:=pv.length_eq;have e1:(vm.map λx=>Value.ref x.2)=(vm.map (·.2)).map Value.ref:=by rw[aV];rfl
 rw[e1];refine zZ (s:=s) (I.XG kp) lb (λi z b e2 e3=>?_) (λh2 r hr=>?_) (by rw[af];lia) λl zs g8 hz hm=>?_
 ·rw[aL]at e2 e3;obtain⟨x,ex,rfl⟩:=bq.mp e2;rw[ex]at e3;cases e3;exact(hx x (pv.mem_iff.mp (az ex))).1
 ·obtain⟨x,hxm,rfl⟩:=ar.mp hr;exact iU (by rw[af]at h2;lia) x (pv.mem_iff.mp hxm)
 ·rw[(DH (pv.map _))]at hz;refine q l zs g8 hz λz hzm=>?_;obtain⟨b,hb,rfl⟩:=ar.mp (hm z hzm);obtain⟨x,hxm,rfl⟩:=ar.mp hb;exact(hx x (pv.mem_iff.mp hxm)).2
end
def XB(hl:(-80)=true:=by rfl)(hb:attributeBase (.Name d pd) "get" X.env (eval (.Name d pd) X.env)=eval (.Name d pd) X.env:=by rfl):M2 X (.Name d pd) "get" apos (.Name x px) (.List [] pl) eU:=⟨hb,rfl,hl,rfl⟩
section
variable{prog:Program}{w:World}{A:Around}{E:Aac}{s:Shared}{d it:Addr}{o:Obj}{es:Array DictEntry}{ep i:Nat}
def GK(lo:(d==sysModules)=false)(ho:s.heap.get? d=some o)(hx:o.ExactDict)(hd:o.data=.dict es ep)
  (q:Q (-11) {s with heap:=s.heap.push {cls:=.type "dict_keyiterator",data:=.fields #[.ref d,.int 0 0,.int es.size 0,.int ep 0]}}):wpAny (-5) A (pyIter (.ref d)) Q E s:=by
 have ty:s.TypeIs (.ref d) "dict":={o,ho,hx.1};refine pC ty yz (bp yz ty PySem.F.entry_dict_iter ?_ (PySem.F.args_dict_iter_1 _));refine ae (ae (lF ty (ag ?_)));show wpAny _ _ (Builtin.Dict.showsAll d>>=_) _ _ s;unfold Builtin.Dict.showsAll;rw[lo];exact ae (ag (ae (gW ho hd (ae (kP ho hd (ae (bX (ag {_,rfl,"dict_keyiterator",_,{_,aE _ rfl,rfl},fb.lookup,q}))))))))
def Rh(hit:s.heap.IsKeyIter it d i es.size ep)(ho:s.heap.get? d=some o)(hd:o.data=.dict es ep)(hi:i<es.size)
  (q:∀h',h'.IsKeyIter it d (i+1) es.size ep->Heap.SameBut it s.heap h'->Q (some es[i].key) {s with heap:=h'}):wpAny (-5) A (pyNext (.ref it)) Q E s:=by
 obtain⟨oi,Oi,ci,di⟩:=id hit;refine ae (d0 (wpAny_callSpecial?_slot hit.typeIs fb (bp fb hit.typeIs oZ ?_ (oF _))));refine ae (ag (ae (ae (ae (iV hit.typeIs (ag ?_))))));refine ae (jf Oi di ?_);have own:Builtin.Dict_items.ownsTuple "dict_keyiterator"=false:=by decide
 show wpAny _ _ (-78) _ _ s;refine ae (ag (ae (gW ho hd ?_)));rw[aw (-8)];refine ae (ag (ae (kP ho hd ?_)));rw[aw (-8)];refine ag ?_;simp only[show ¬((i:Int)<0)from by lia,kC,da,br hi];refine ae (ae (iV hit.typeIs (ag (ae (yJ hit.typeIs ?_)))));show wpAny _ _ (setField (.ref it) 1 (rawInt ((i:Int)+1))>>=_) _ _ s;refine ae (fN Oi di (-8) ?_);have acf:(s.heap.update it (Obj.mapFields (·.setIfInBounds 1 (rawInt ((i:Int)+1))))).IsKeyIter it d (i+1) es.size ep:=
  {_,cD _ Oi (zH (oH di _)),(Dz ..).trans ci,by rw[oH di];simp[rawInt]}
 refine ae (bS (ae (yJ acf.typeIs ?_)));exact ag (ag {_,rfl,ag (q _ acf (bN ..))})
def HR(hh:A.handled=none)(hit:s.heap.IsKeyIter it d i es.size ep)(ho:s.heap.get? d=some o)(hd:o.data=.dict es ep)(hi:es.size<=i)
  (q:∀h',(∀b x,b≠it->s.heap.get? b=some x->h'.get? b=some x)->Q none {s with heap:=h'}):wpAny (-5) A (pyNext (.ref it)) Q E s:=by
 obtain⟨oi,Oi,ci,di⟩:=id hit;refine ae (d0 (wpAny_callSpecial?_slot hit.typeIs fb (bp fb hit.typeIs oZ ?_ (oF _))));refine ae (ag (ae (ae (ae (iV hit.typeIs (ag ?_))))));refine ae (jf Oi di ?_);have own:Builtin.Dict_items.ownsTuple "dict_keyiterator"=false:=by decide
 show wpAny _ _ (-78) _ _ s;refine ae (ag (ae (gW ho hd ?_)));rw[aw (-8)];refine ae (ag (ae (kP ho hd ?_)));rw[aw (-8)];refine ag ?_;simp only[show ¬((i:Int)<0)from by lia,kC,da,k8 hi];refine ae (ae (iV hit.typeIs (ag ?_)));show wpAny _ _ (setField (.ref it) 0 .none>>=_) _ _ s;refine ae (fN Oi di (-8) ?_);refine Tb.CW (show A.in1.handled=none from hh) λh' e kp aew=>?_;obtain⟨oe,he,ce⟩:=aew;exact ae (gu ⟨oe,he,ce⟩ kz (ag (q _ λb x nb g=>kp b x ((-86).trans g))))
end
def DX(P:Program)(w:World)(d:Addr)(kvs:List (Key×V))(ok ov:V):Heap->Prop:=λh=>(d==sysModules)=false/\∃o es ep vs e,h.get? d=some o/\o.ExactDict/\o.data=.dict (es.push e) ep/\KV kvs vs/\KeysOf (bW P w) es/\Pairs (bW P w) es.toList vs/\(vs.map (·.1)).Nodup/\RelV ok e.key/\RelV ov e.val/\kvs.length<=1000
section
variable{X:Cx}{pins:Aaa}{Z:St}{H:Hp}{s:Shared}
def Inv.G9(I:Inv X pins Z H s)(hd:H d=some (.ext φ))(ho:s.heap.get? d=some o):Inv X pins Z (upd H d (.fg o (.ext φ))) s:=by
 have nd:∀b u,H b=some u->(∀l,u≠ .ext l)->b≠d:=λb u q n z=>by rw[z,hd]at q;exact n φ (bJ q).symm
 refine I.un {λb u e _ _ _=>e,λb u e _ _ _=>{u.slots,e},λb u e n _=>by rw[ay ((λb q z=>by rw[z,hd]at q;cases q) b n)];exact n,λb u e _=>⟨u,e⟩,λb xs q=>by rw[ay (-96)];exact q,λb u v q=>by rw[ay (-96)];exact q,λb ps q=>{#[],by rw[ay (-96),q];simp}} λb u g=>?_;by_cases hb:b=d
 ·subst hb;rw[au]at g;cases g;exact{ho,I.bj b _ hd}
 ·rw[ay hb]at g;exact(I.bj b u g).kJ (λc v hc q=>q) (λc q=>by rw[ay (nd c _ q λl z=>by cases z)];exact q) λc ys q=>by rw[ay (nd c _ q λl z=>by cases z)];exact q
def Inv.OU(I:Inv X pins Z H s)(hd:H d=some (.fg o u))(hn:∀u v,X.aaf d≠some (.fg u v)):Inv X pins Z (upd H d u) s:=by
 have nd:∀b u,H b=some u->(∀v l,u≠ .fg v l)->b≠d:=λb u q n z=>by rw[z,hd]at q;exact n _ _ (bJ q).symm
 have iU:∀b,H b=none->b≠d:=λb q z=>by rw[z,hd]at q;cases q
 refine{I.ok,I.os,I.bare,{I.base.keep,I.base.slot,λb u e n hx=>?_,I.base.there,λb xs q=>?_,λb u v q=>?_,λb ps q=>?_},I.loc,I.cell,?_,λx c e=>?_,λp hp=>?_,λb v g=>?_,I.len}
 ·have z:=I.base.free b u e n hx;rw[ay (iU b z)];exact z
 ·have z:=I.base.lH b xs q;rw[ay (nd b _ z λv l t=>by cases t)];exact z
 ·have z:=I.base.u6 b u v q;rw[ay (show b≠d fromλt=>hn u v (t▸q))];exact z
 ·obtain⟨m,z⟩:=I.base.zT b ps q;exact{m,by rw[ay (nd b _ z λv l t=>by cases t)];exact z}
 ·rw[ay (iU _ I.free)];exact I.free
 ·rw[ay (iU _ (I.oV x c e))];exact I.oV x c e
 ·obtain⟨a1,a2,a3,a4,a5⟩:=I.pin p hp;exact{a1,by rw[ay (iU _ a2)];exact a2,a3,a4,a5}
 ·by_cases hb:b=d
  ·subst hb;rw[au]at g;cases g;exact((I.bj b _ hd).2).kJ (λc v hc q=>q) (λc q=>by rw[ay (nd c _ q λv l z=>by cases z)];exact q) λc ys q=>by rw[ay (nd c _ q λv l z=>by cases z)];exact q
  ·rw[ay hb]at g;exact(I.bj b v g).kJ (λc v hc q=>q) (λc q=>by rw[ay (nd c _ q λv l z=>by cases z)];exact q) λc ys q=>by rw[ay (nd c _ q λv l z=>by cases z)];exact q
end
inductive aaK(t:TE)(Z:St)(H:Hp)(Q:VK):Prop
 |mk (d:Addr) (_:(∀u v,H d≠some (.fg u v))) (_:t Z H λv H'=>∃o u,H' d=some (.fg o u)/\Q v (upd H' d u))
def Vo(h:PE X e t):PE X e (aaK t):=by intro pins s Z H Q I ht;obtain⟨d,hd,ht⟩:=ht;refine dq (h pins s Z H _ I ht) λv s1 x H1 I1 r1 ⟨o,u,e,q⟩=>{x,_,I1.OU e (λu v e=>hd u v (I.base.u6 d u v e)),r1,q}
def UA(d:Addr)(o:Obj)(u:HO)(kvs:Aak):It:=
 {λi H=>H d=some (.fg o u)/\i<kvs.length,λi H x H'=>H'=H/\∃kv,kvs[i]?=some kv/\x=kv.1,λi H=>H d=some (.fg o u)/\kvs.length<=i}
def Ml(o:Obj)(es:Array DictEntry)(ep:Nat)(kvs:Aak):Prop:=o.ExactDict/\o.data=.dict es ep/\Paired (-55) kvs es.toList
def QU{K:Frag}(m:Ml o es ep kvs):Turn P w K tg (UA d o u kvs) [it] it (λi h=>h.IsKeyIter it d i es.size ep) where
 mem:=by simp
 obj:=λi h st b hb=>by
  have e:b=it:=by simpa using hb
  subst e;obtain⟨v,e,c,q⟩:=st;exact{v,e,λv z=>by rw[q]at z;cases z}
 keep:=λi h h' st k=>by obtain⟨v,e,r⟩:=st;exact{v,k it (-8) v e,r}
 item:=by
  intro X hP hw hK hc i pins s Z H E I hf st hg;obtain⟨hd,hi⟩:=hg;have hl:kvs.length=es.size:=by rw[bh m.2.2,aM]
  obtain⟨f0,f1,f2,f3,f4,f5⟩:=hf it (-8);obtain⟨kv,lP⟩:∃kv,kvs[i]?=some kv:={_,ao hi};have S8:i<es.size:=by lia
  obtain⟨e,he,r⟩:=Paired.at' m.2.2 lP;have ee:es[i]=e:=by rw[bF,br S8]at he;exact bJ he
  refine Rh st ((I.bj d _ hd).1) m.2.1 S8 λh' js sb=>?_;obtain⟨v,ev,c,q⟩:=id js;exact{_,rfl,F8 ev c q (-9) {kv.1,H,(-75),ee▸r.1,⟨rfl,kv,lP,rfl⟩,js,λb hb=>(hf b hb).1}}
 done:=by
  intro X hP hw hK hc i pins s Z H E I hf st hg;obtain⟨hd,hi⟩:=hg;have hl:kvs.length=es.size:=by rw[bh m.2.2,aM]
  obtain⟨f0,f1,f2,f3,f4,f5⟩:=hf it (-8);exact HR (I.ok.hd hc) st ((I.bj d _ hd).1) m.2.1 ∅ λh' eb=>{rfl,I.turned (λb o hb e=>eb b o hb e) f0 f1 f3 f4 f5}
 self:=λ_ _ _ _ _ st h=>zQ st h
def QJ(P:Program)(w:World)(d:Addr)(u:HO)(kvs:Aak):Prop:=(∃l,u=.dK l/\kvs=l.map λp=>(kV p.1,p.2))\/∃l ok ov,u=.ext (DX P w d l ok ov)/\kvs=(l.map λp=>(kV p.1,p.2))++[(ok,ov)]
def FG(rel:KV kvs vs)(hp:Pairs (bW P w) es vs):Paired (-55) (kvs.map λp=>(kV p.1,p.2)) es:=by
 induction hp generalizing kvs with
 |nil=>cases rel;exact .nil
 |@cons e kv es vs hk hv _ ih=>
  cases rel with
  |@cons p _ ps _ hr t=>exact .cons {yT (hr.1▸hk),hv▸hr.2} (ih t)
def Z1(x:dE P w H h d u)(hv:QJ P w d u kvs):(d==sysModules)=false/\∃o es ep,h.get? d=some o/\Ml o es ep kvs:=by
 rcases hv with⟨l,rfl,rfl⟩|⟨l,ok,ov,rfl,rfl⟩
 ·obtain⟨_,lo,vs,rel,o,es,ep,ga,hx,hd,_,hp,_⟩:=x;exact{lo,o,es,ep,ga,hx,hd,FG rel hp}
 ·obtain⟨⟨lo,o,es,ep,vs,e,ga,hx,hd,rel,_,hp,_,r1,r2,_⟩,_⟩:=x;refine{lo,o,_,ep,ga,hx,hd,?_};rw[j9];exact yB (FG rel hp) ⟨r1,r2⟩
def Inv.ZY(I:Inv X pins Z H s)(hd:H d=some u)(hv:QJ X.prog X.w d u kvs)(ho:s.heap.get? d=some o):Inv X pins Z (upd H d (.fg o u)) s:=by
 rcases hv with⟨l,rfl,rfl⟩|⟨l,ok,ov,rfl,rfl⟩
 ·exact I.freeze hd ho
 ·exact I.G9 hd ho
inductive ZV(P:Program)(w:World)(R:It->Hp->Prop)(x:V)(H1:Hp):Prop
 |mk d u kvs (_:x=.ref d) (_:H1 d=some u) (_:QJ P w d u kvs) (_:∀o,R (UA d o u kvs) (upd H1 d (.fg o u)))
def abO(P:Program)(w:World)(tl:TE):TI:=λZ H R=>tl Z H λx H1=>ZV P w R x H1
def Vm(hl:PE X l tl):PI X tg l (abO X.prog X.w tl):=by
 intro pins s Z H R I h;refine dq (hl pins s Z H _ I h) λv s1 x H1 I1 r1 q1=>?_;obtain⟨d,u,kvs,e,hd,hv,q⟩:=q1;subst e;cases r1;obtain⟨lo,o,es,ep,ga,m⟩:=Z1 (I1.bj d _ hd) hv;refine GK lo ga m.1 m.2.1 ?_;have I2:=I1.ZY hd hv ga;refine{s1.heap.objs.size,[s1.heap.objs.size],_,_,_,rfl,I2.kept λb o e=>ah _ e,QU m,{_,aE _ rfl,rfl,rfl},λb hb=>?_,q o};have e:b=s1.heap.objs.size:=by simpa using hb
 subst e;exact I2.u7 (ak _) (I2.bj.fresh (ak _))
def Ke(hv:s.heap.IsItemsView v d)(ho:s.heap.get? d=some o)(hd:o.data=.dict es ep)
  (q:Q (-11) {s with heap:=s.heap.push {cls:=.type "dict_itemiterator",data:=.fields #[.none,.bool false,.ref d,.int 0 0,.int es.size 0,.int ep 0,.none,.none]}}):wpAny (-5) A (pyIter (.ref v)) Q E s:=by
 obtain⟨ov,hov,hcv,hdv⟩:=id hv;refine pC hv.typeIs tX (bp tX hv.typeIs PySem.F.entry_dict_items_iter ?_ (PySem.F.args_dict_items_iter_1 _));refine ae (ag (ae (ae (bK hov hdv rfl (ag ?_)))));refine ae (ae (gW ho hd (ae (kP ho hd ?_))));have own:Builtin.Dict_items.ownsTuple "dict_itemiterator"=true:=by decide
 simp only[own,zi];refine bX (ag {_,rfl,"dict_itemiterator",_,{_,aE _ rfl,rfl},cw.lookup,?_}) (by simp only[sizeOk,Builtin.Dict_items.ownedTupleFields,aN,aC,bA,fA,bz];lia);simpa[rawInt,Builtin.Dict_items.ownedTupleFields]using q
inductive aaL(t:TS)(D:Ends)(Z:St)(H:Hp):Prop
 |mk (d:Addr) (_:(∀u v,H d≠some (.fg u v))) (_:t {D with nx:=λσ' H'=>∃o u,H' d=some (.fg o u)/\D.nx σ' (upd H' d u),rt:=λv H'=>∃o u,H' d=some (.fg o u)/\D.rt v (upd H' d u)} Z H)
def Ko{st:Stmt}(h:PS X st t):PS X st (aaL t):=by
 intro pins s Z H D I ht;obtain⟨d,hd,ht⟩:=ht;have h0:=λu v e=>hd u v (I.base.u6 d u v e);refine iR (h pins s Z H _ I ht) λf s1 q=>?_;cases f with
 |next=>
  obtain⟨σ',H',J,o,u,e,n⟩:=q;exact{σ',_,J.OU e h0,n}
 |brk=>exact q
 |cont=>exact q
 |ret u=>
  obtain⟨v,σ',H',J,r,o,u',e,n⟩:=q;exact{v,σ',_,J.OU e h0,r,n}
section
variable{d:Addr}{o:Obj}{u:HO}{kvs:Aak}
def Tt{g:TG}{tb:TS}{D:Ends}(Pv:Nat->St->Hp->Prop)(h0:Pv 0 Z H)(hl:∀i Z H,i<=kvs.length->Pv i Z H->H d=some (.fg o u))
  (hs:∀i kv Z H,kvs[i]?=some kv->Pv i Z H->g kv.1 Z H λσ2 H2=>tb {D with nx:=Pv (i+1),ct:=Pv (i+1),bk:=D.nx} σ2 H2) (hd:∀Z H,Pv kvs.length Z H->D.nx Z H):tZ (UA d o u kvs) g tb D Z H:=by
 refine zw Pv h0 (λi Z H hi p=>{{hl i Z H (bo hi) p,hi},?_}) λZ H p=>{{hl _ Z H (ak _) p,ak _},hd Z H p};rintro x H' ⟨rfl,kv,hk,rfl⟩;exact hs i kv Z _ hk p
def Qz(Pv:Nat->Aam->Hp->Prop)(hx:kvs.length<sizeLine)(h0:Pv 0 [] H1)(hl:∀i ys H,i<=kvs.length->Pv i ys H->H d=some (.fg o u)/\ys.length<=i)
  (hs:∀(i:Nat)(kv:V×V)(ys:Aam)(H:Hp)(N:Aam->Hp->Prop),kvs[i]?=some kv->Pv i ys H->(∀fW H',Pv (i+1) fW H'->N fW H')->
   tt (some kv.1::slotsOf fr Z) H λb H4=>if b=true then te (some kv.1::slotsOf fr Z) H4 (-97)else N ys H4)
  (hd:∀ys H,Pv kvs.length ys H->∀l,H l=none->R l ys H):A6 (UA d o u kvs) fr tt te Z H1 R:=by
 refine{λi m ys H=>m=kvs.length -i/\i<=kvs.length/\Pv i ys H,{kvs.length,by simp,aQ _,h0},?_};rintro i m ys H ⟨rfl,hi,p⟩;obtain⟨q,hy⟩:=hl i ys H hi p;by_cases cE:i<kvs.length
 ·refine .inr {⟨q,cE⟩,by lia,?_};rintro v H3 ⟨rfl,kv,lP,rfl⟩;exact hs i kv ys H3 (λfW H'=>∃m',m'<kvs.length -i/\m'=kvs.length -(i+1)/\i+1<=kvs.length/\Pv (i+1) fW H') lP p λfW H' p'=>{_,by lia,rfl,cE,p'}
 ·have e:i=kvs.length:=by lia
  subst e;exact .inl {{q,ak _},by lia,hd ys H p}
def kK(r:Aaf):PyData:=.tuple (r.map PyData.str)
def rH(rows:T7):PyData:=.list (rows.map kK)
def CH(rows:T7):Prop:=∀r∈rows,∀z∈r,PyData.strOk z=true
variable{K:Frag}{H:Hp}
def LZ(h:∃a,y=.ref a/\bC K H a (r.map V.str)):Dt K H (kK r) y:=by obtain⟨a,rfl,h⟩:=h;unfold kK;exact{a,_,rfl,h,Gi r}
def Qp:∀{ys:Aam}{rows:T7},dJ K H ys rows->qm K H (rows.map kK) ys:=by
 intro ys rows h
 induction h with
 |nil=>rw[jv,qm]
 |cons hr _ ih=>
  exact{_,_,rfl,LZ hr,ih}
def zB(h:aY K H p ys)(hr:dJ K H ys rows):Dt K H (rH rows) (.ref p):=by unfold rH;exact{p,ys,rfl,h,Qp hr}
def OA(r t:Aaf):PyData.eqv (kK r) (kK t)=decide (r=t):=by unfold kK;rw[PyData.eqv,Eg]
theorem Eh:∀a b:T7,PyData.eqvAll (a.map kK) (b.map kK)=decide (a=b)
 |[],[]=>by simp[PyData.eqvAll]
 |[],_::_=>by simp[PyData.eqvAll]
 |_::_,[]=>by simp[PyData.eqvAll]
 |a::r,b::t=>by simp only[bw,PyData.eqvAll,OA,Eh r t];by_cases h:a=b<;>by_cases h':r=t<;>simp[h,h']
def LX(a b:T7):PyData.eqv (rH a) (rH b)=decide (a=b):=by unfold rH;rw[PyData.eqv,Eh]
theorem EN:∀rows:T7,CH rows->PyData.canLayAll0 (rows.map kK)=true
 |[],_=>rfl
 |z::r,h=>by have h1:(kK z).canLay0=true:=Aw z (h z aA);simp[PyData.canLayAll0,h1,(EN r λy hy=>h y (aB _ hy))]
theorem Gj:∀rows:T7,PyData.depthAll (rows.map kK)<=1
 |[]=>by simp[PyData.depthAll]
 |z::r=>by
  have h1:(kK z).depth=1:=by simp[kK,PyData.depth,vT]
  have:=Gj r;simp[PyData.depthAll,h1];lia
def ud(h:CH rows):SeqAt.shaped (rH rows)=true:=by have:=Gj rows;simp[SeqAt.shaped,rH,PyData.canLay0,PyData.depth,EN rows h];lia
end
def dJ.keep{K:Frag}(h:dJ K H ys rows)(k:∀a xs,bC K H a xs->bC K H' a xs):dJ K H' ys rows:=by
 induction h with
 |nil=>exact .nil
 |cons hr _ ih=>
  obtain⟨a,e,hr⟩:=hr;exact .cons {a,e,k _ _ hr} ih
inductive NK:Type
 |cR
 |key (k:Key)
 |tup (ks:List NK)
noncomputable instance:DecidableEq NK:=λa b=>Classical.propDecidable (a=b)
section
variable(P:Program)(w:World)
mutual
inductive lB(h:Heap):NK->Value->Prop
 |cR:lB h .cR .none
 |key {k:Key} {v:Value}:(bW P w).is k v=true->lB h (.key k) v
 |tup {ks:List NK} {a:Addr} {o:Obj} {items:Aaj} {n:Nat}:h.get? a=some o->o.cls=.type "tuple"->o.data=.seq items n->lX h ks items.toList->lB h (.tup ks) (.ref a)
inductive lX(h:Heap):List NK->Aae->Prop
 |nil:lX h [] []
 |cons {k:NK} {v:Value} {ks:List NK} {vs:Aae}:lB h k v->lX h ks vs->lX h (k::ks) (v::vs)
end
mutual
def NK.hash:NK->Int
 | .cR=>0xFCA86420
 | .key k=>(bW P w).hash k
 | .tup ks=>reduceHash (Builtin.Tuple.tupleHashOf (NK.hashes ks))
def NK.hashes:List NK->List Int
 |[]=>[]
 |k::ks=>NK.hash k::NK.hashes ks
end
mutual
def NK.draws:NK->Nat
 | .cR=>1
 | .key _=>1
 | .tup ks=>NK.oj ks+1
def NK.oj:List NK->Nat
 |[]=>0
 |k::ks=>NK.draws k+NK.oj ks
end
mutual
def NK.deep:NK->Nat
 | .cR=>0
 | .key _=>0
 | .tup ks=>NK.oW ks+1
def NK.oW:List NK->Nat
 |[]=>0
 |k::ks=>max (NK.deep k) (NK.oW ks)
end
end
section
variable{P:Program}{w:World}{A:Around}{E:Aac}{s:Shared}
def Qe(q:Q 0xFCA86420 {s with toks:=s.toks+1}):wpAny (-25) A (pyHash .none) Q E s:=by have ty:s.TypeIs .none "NoneType":=rfl;refine ae (wpAny_cRoomFor_byValue rfl (ae (iD ty jQ.lookup ?_)));refine ae (iD ty jQ.lookup ?_);refine ae (wpAny_callSpecialIfBoundUnlessNone?_slot ty jQ (bp jQ ty PySem.F.entry_NoneType_hash (show wpAny _ _ (do ret (<-mkInt 0xFCA86420)) _ _ s from wpAny_ret_mkInt ?_) (PySem.F.args_NoneType_hash_1 _)));exact ag q
def NK.Wj(ks:List NK):NK.hash P w (.tup ks)=reduceHash (Builtin.Tuple.tupleHashOf (NK.hashes P w ks)):=by rw[NK.hash]
def Tg(hu:A.units<cLine)(ho:s.heap.get? a=some o)(hc:o.cls=.type "tuple")(hd:o.data=.seq items n)(hi:lX P w s.heap ks items.toList)
  (ih:∀(A':Around)(k:NK)(v:Value)(t:Nat)(E':Aac)(R:Int->Shared->Prop),A'.units<=A.units+4->k∈ks->lB P w s.heap k v->R (NK.hash P w k) {s with toks:=t+NK.draws k}->wpAny (-25) A' (pyHash v) R E' {s with toks:=t})
  (h:Q (NK.hash P w (.tup ks)) {s with toks:=s.toks+NK.draws (.tup ks)}):wpAny (-25) A (pyHash (-64)) Q E s:=by
 have hT:s.TypeIs (-64) "tuple":=⟨o,ho,hc⟩;refine ae (wpAny_cRoomFor_or (.inr hu) ?_);refine ae (iD hT lD.lookup ?_);refine ae (iD hT lD.lookup ?_);refine ae (wpAny_callSpecialIfBoundUnlessNone?_slot hT lD (bp lD hT F.entry_tuple_hash ?_ (F.args_tuple_hash_1 _)));show wpAny _ _ (Builtin.Tuple.tupleItemsOf (-64)>>=_) _ _ s;refine ae (wpAny_tupleItemsOf ho hd ?_);refine ae ?_;rw[<-oO];refine je _
  (λrest(b:Array Int) s'=>∃done left,ks=done++left/\lX P w s.heap left rest/\b.toList=NK.hashes P w done/\s'={s with toks:=s.toks+NK.oj done})
  _ ?_ ?_ _ _ {[],ks,rfl,hi,by simp[NK.hashes],by simp[NK.oj]}
 ·rintro x rest b s' ⟨done,left,e,hl,hb,rfl⟩;cases hl with
  |@cons k _ ks' _ h1 mO=>
   have e2:NK.hashes P w (done++[k])=NK.hashes P w done++[NK.hash P w k]:=by
    clear e hb
    induction done with
    |nil=>simp[NK.hashes]
    |cons a r SI=>simp only[jl,NK.hashes,SI]
   have e3:NK.oj (done++[k])=NK.oj done+NK.draws k:=by
    clear e hb e2
    induction done with
    |nil=>simp[NK.oj]
    |cons a r SI=>simp only[jl,NK.oj,SI];lia
   refine ae (ih _ k x _ _ _ ?_ (by rw[e];simp) h1 (ag {done++[k],ks',by rw[e];simp,mO,by simp[hb,e2],by rw[e3,vd]}))
   ·show A.units+1<=A.units+4;lia
 ·rintro b s' ⟨done,left,rfl,hl,hb,rfl⟩;cases hl;rw[c8]at h;show wpAny _ _ (retInt (Builtin.Tuple.tupleHashOf b.toList)) _ _ _;rw[hb];refine wpAny_ret_mkInt ?_;show wpAny _ _ (if(decide (-(2:Int)^63<=Builtin.Tuple.tupleHashOf (NK.hashes P w done))&&decide (Builtin.Tuple.tupleHashOf (NK.hashes P w done)<2^63))=true then _ else _) Q E _;rw[NK.Wj,NK.draws]at h;unfold reduceHash at h;by_cases hr:(decide (-(2:Int)^63<=Builtin.Tuple.tupleHashOf (NK.hashes P w done))&&decide (Builtin.Tuple.tupleHashOf (NK.hashes P w done)<2^63))=true
  ·rw[aG hr];rw[aG hr]at h;exact ag (by simpa[vd]using h)
  ·rw[aw hr];rw[aw hr]at h;exact ae (fE (ag (by simpa[vd]using h)))
mutual
theorem Th:∀(k:NK)(A:Around)(E:Aac)(s:Shared)(v:Value)(Q:Int->Shared->Prop),A.units+4*NK.deep k<cLine->lB P w s.heap k v->Q (NK.hash P w k) {s with toks:=s.toks+NK.draws k}->wpAny (-25) A (pyHash v) Q E s
 | .cR,A,E,s,v,Q,hu,r,q=>by cases r;rw[NK.hash,NK.draws]at q;exact Qe q
 | .key k,A,E,s,v,Q,hu,r,q=>by
  cases r with
  |key h=>
   rw[NK.hash,NK.draws]at q;exact(bW P w).pyHash h q
 | .tup ks,A,E,s,v,Q,hu,r,q=>by
  cases r with
  |tup ho hc hd hi=>
   rw[NK.deep]at hu;exact Tg ∅ ho hc hd hi (λA' k v t E' R hA hk r q=>LM ks k hk A' E' {s with toks:=t} v R ∅ r q) q
theorem LM:∀(ks:List NK)(k:NK),k∈ks->∀(A:Around)(E:Aac)(s:Shared)(v:Value)(Q:Int->Shared->Prop),A.units+4*NK.oW ks<cLine->lB P w s.heap k v->Q (NK.hash P w k) {s with toks:=s.toks+NK.draws k}->wpAny (-25) A (pyHash v) Q E s
 |[],k,h,A,E,s,v,Q,hu,r,q=>by cases h
 |k0::ks,k,h,A,E,s,v,Q,hu,r,q=>by
  rw[NK.oW]at hu;rcases aH.mp h with e|h
  ·rw[e]at r q;exact Th k0 A E s v Q ∅ r q
  ·exact LM ks k h A E s v Q ∅ r q
end
end
section
variable{P:Program}{w:World}
mutual
theorem NG:∀(k:NK)(n:Nat)(A:Around)(E:Aac)(s:Shared)(v:Value)(Q:Bool->Shared->Prop),lB P w s.heap k v->NK.deep k<=n->Q true s->wpAny (-25) A (eqIsQuiet n v) Q E s
 | .cR,n,A,E,s,v,Q,r,_,q=>by cases r;rw[Dm n rfl];exact ag q
 | .key k,n,A,E,s,v,Q,r,_,q=>by
  cases r with
  |key h=>
   rw[Dm n ((bW P w).byValue _ _ h)];exact ag q
 | .tup ks,0,A,E,s,v,Q,r,hn,q=>by rw[NK.deep]at hn;exact absurd hn ∅
 | .tup ks,n+1,A,E,s,v,Q,r,hn,q=>by
  cases r with
  |@tup _ a o items m ho hc hd hi=>
   rw[NK.deep]at hn;have hT:s.TypeIs (-64) "tuple":=⟨o,ho,hc⟩;unfold eqIsQuiet;refine ae (iD hT F.slot_tuple_eq.lookup ?_);show wpAny _ _ (isInstance (-64) (.type "tuple")>>=_) _ _ s;refine ae (gu hT isSubtype_tuple_tuple ?_);simp only[Bool.not_true,gL,kC];refine ae (cu ho hd ?_);refine ae ?_;show wpAny _ _ (forIn items _ _) _ _ s;rw[<-oO];refine je _ (λrest r s'=>r.1=none/\s'=s/\∃left,lX P w s.heap left rest/\∀k∈left,k∈ks) _ ?_ ?_ _ _ {rfl,rfl,ks,hi,λ_ h=>h}
   ·rintro v rest r s' ⟨hr,rfl,left,hl,hm⟩;cases hl with
    |@cons k _ ks' _ h1 mO=>
     refine ae (HX ks k (hm k aA) n _ _ _ v _ h1 ∅ ?_);simp only[Bool.not_true,gL,kC];exact ag {rfl,rfl,ks',mO,λk' IF=>hm k' (aB _ IF)}
   ·rintro⟨r1,r2⟩ s' ⟨hr,rfl,_⟩;simp only at hr;subst hr;exact ag q
theorem HX:∀(ks:List NK)(k:NK),k∈ks->∀(n:Nat)(A:Around)(E:Aac)(s:Shared)(v:Value)(Q:Bool->Shared->Prop),lB P w s.heap k v->NK.oW ks<=n->Q true s->wpAny (-25) A (eqIsQuiet n v) Q E s
 |[],k,h,n,A,E,s,v,Q,r,hn,q=>by cases h
 |k0::ks,k,h,n,A,E,s,v,Q,r,hn,q=>by
  rw[NK.oW]at hn;rcases aH.mp h with e|h
  ·rw[e]at r;exact NG k0 n A E s v Q r ∅ q
  ·exact HX ks k h n A E s v Q r ∅ q
end
mutual
def NK.toD:NK->PyData
 | .cR=>.none
 | .key (.inl i)=>.int i
 | .key (.inr z)=>.str z
 | .tup ks=>.tuple (NK.mW ks)
def NK.mW:List NK->List PyData
 |[]=>[]
 |k::ks=>NK.toD k::NK.mW ks
end
mutual
theorem GL:∀(k:NK){h:Heap}{v:Value},lB P w h k v->∃as,Reads h v (NK.toD k) as
 | .cR,h,v,r=>by cases r;rw[NK.toD];exact{_,.none}
 | .key (.inl i),h,v,r=>by
  cases r with
  |key q=>
   obtain⟨t,rfl⟩:=(show RelV (.int i) v from yT (k:=Sum.inl i) q);rw[NK.toD];exact{_,.int i t}
 | .key (.inr z),h,v,r=>by
  cases r with
  |key q=>
   obtain⟨t,rfl⟩:=(show RelV (.str z) v from yT (k:=Sum.inr z) q);rw[NK.toD];exact{_,.str z t}
 | .tup ks,h,v,r=>by
  cases r with
  |tup ho hc hd hi=>
   obtain⟨as,q⟩:=Kk ks hi;rw[NK.toD];exact{_,.tuple ho hc hd q}
theorem Kk:∀(ks:List NK){h:Heap}{vs:Aae},lX P w h ks vs->∃as,ReadsAll h vs (NK.mW ks) as
 |[],h,vs,r=>by cases r;rw[NK.mW];exact{_,.nil}
 |k::ks,h,vs,r=>by
  cases r with
  |cons r1 r2=>
   obtain⟨as,q1⟩:=GL k r1;obtain⟨bs,q2⟩:=Kk ks r2;rw[NK.mW];exact{_,.cons q1 q2}
end
mutual
theorem Yt:∀(x y:NK),PyData.eqv (NK.toD x) (NK.toD y)=true↔x=y
 | .cR,.cR=>by simp[NK.toD,PyData.eqv]
 | .cR,.key (.inl _)=>by simp[NK.toD,PyData.eqv]
 | .cR,.key (.inr _)=>by simp[NK.toD,PyData.eqv]
 | .cR,.tup _=>by simp[NK.toD,PyData.eqv]
 | .key (.inl _),.cR=>by simp[NK.toD,PyData.eqv]
 | .key (.inl i),.key (.inl j)=>by simp[NK.toD,PyData.eqv]
 | .key (.inl _),.key (.inr _)=>by simp[NK.toD,PyData.eqv]
 | .key (.inl _),.tup _=>by simp[NK.toD,PyData.eqv]
 | .key (.inr _),.cR=>by simp[NK.toD,PyData.eqv]
 | .key (.inr _),.key (.inl _)=>by simp[NK.toD,PyData.eqv]
 | .key (.inr a),.key (.inr b)=>by simp[NK.toD,PyData.eqv]
 | .key (.inr _),.tup _=>by simp[NK.toD,PyData.eqv]
 | .tup _,.cR=>by simp[NK.toD,PyData.eqv]
 | .tup _,.key (.inl _)=>by simp[NK.toD,PyData.eqv]
 | .tup _,.key (.inr _)=>by simp[NK.toD,PyData.eqv]
 | .tup xs,.tup ys=>by rw[NK.toD,NK.toD,PyData.eqv,Tx xs ys];exact{bV NK.tup,λh=>by injection h}
theorem Tx:∀(xs ys:List NK),PyData.eqvAll (NK.mW xs) (NK.mW ys)=true↔xs=ys
 |[],[]=>by simp[NK.mW,PyData.eqvAll]
 |[],_::_=>by simp[NK.mW,PyData.eqvAll]
 |_::_,[]=>by simp[NK.mW,PyData.eqvAll]
 |x::xs,y::ys=>by rw[NK.mW,NK.mW,PyData.eqvAll,cZ,Yt x y,Tx xs ys];simp
end
def DW(h:(bW P w).is k (-64)=true):False:=by have:=(bW P w).byValue _ _ h;cases this
def B7(h:(bW P w).is k .none=true):False:=by
 have:=yT (k:=k) h;cases k with
 |inl i=>obtain⟨t,e⟩:=(show∃t,Value.none=Value.int i t from this);cases e
 |inr z=>obtain⟨t,e⟩:=(show∃t,Value.none=Value.str z t from this);cases e
mutual
theorem XI:∀(x y:NK){h:Heap}{v:Value},lB P w h x v->lB P w h y v->x=y
 | .cR,y,h,v,r1,r2=>by
  cases r1;cases r2 with
  |cR=>rfl
  |key q=>exact(B7 q).elim
 | .key k,y,h,v,r1,r2=>by
  cases r1 with
  |key q=>
   cases r2 with
   |cR=>exact(B7 q).elim
   |key q2=>rw[(bW P w).inj _ _ _ q q2]
   |tup=>exact(DW q).elim
 | .tup ks,y,h,v,r1,r2=>by
  cases r1 with
  |tup ho hc hd hi=>
   cases r2 with
   |key q=>exact(DW q).elim
   |@tup ks2 _ o2 B8 n2 zo vv hd2 X7=>
    rw[ho]at zo;cases zo;rw[hd]at hd2;injection hd2 with e1 _;subst e1;rw[SD ks ks2 hi X7]
theorem SD:∀(xs ys:List NK){h:Heap}{vs:Aae},lX P w h xs vs->lX P w h ys vs->xs=ys
 |[],ys,h,vs,r1,r2=>by cases r1;cases r2;rfl
 |x::xs,ys,h,vs,r1,r2=>by
  cases r1 with
  |cons a b=>
   cases r2 with
   |@cons y _ ys _ c d=>rw[XI x y a c,SD xs ys b d]
end
mutual
theorem Sw(h h':Heap)(k:∀b o,(∀es ep,o.data≠ .dict es ep)->h.get? b=some o->h'.get? b=some o):∀(x:NK){v:Value},lB P w h x v->lB P w h' x v
 | .cR,v,r=>by cases r;exact .cR
 | .key _,v,r=>by
  cases r with
  |key q=>exact .key q
 | .tup ks,v,r=>by
  cases r with
  |tup ho hc hd hi=>exact .tup (k _ _ (λes ep e=>by rw[hd]at e;cases e) ho) hc hd (N8 h h' k ks hi)
theorem N8(h h':Heap)(k:∀b o,(∀es ep,o.data≠ .dict es ep)->h.get? b=some o->h'.get? b=some o):∀(xs:List NK){vs:Aae},lX P w h xs vs->lX P w h' xs vs
 |[],vs,r=>by cases r;exact .nil
 |x::xs,vs,r=>by
  cases r with
  |cons a b=>exact .cons (Sw h h' k x a) (N8 h h' k xs b)
end
def acJ(P:Program)(w:World)(h:Heap)(k:NK)(a:Addr):Prop:=lB P w h k (-64)/\(NK.toD k).canLay0=true/\(NK.toD k).depth<=7/\NK.deep k<=7
noncomputable def nX(P:Program)(w:World):HeapKind P w NK where
 is:=acJ P w
 hash:=NK.hash P w
 draws:=NK.draws
 room:=λA=>A.units+100<cLine
 inj:=λhx hy=>XI _ _ hx.1 hy.1
 keeps:=λx ho hd hs=>{Sw _ _ (λb o' n e=>by refine(hs.2 b ?_).trans e;rintro rfl;rw[ho]at e;cases e;exact n _ _ hd) _ x.1,x.2}
 pyHash:=λhu hk h=>Th _ _ _ _ _ _ (by have:=hk.2.2.2;lia) hk.1 h
 eqBool:=λ{A E s x y a b Q} hu hx hy h=>by
  obtain⟨as,r1⟩:=GL x hx.1;obtain⟨bs,r2⟩:=GL y hy.1;have e:PyData.eqv (NK.toD x) (NK.toD y)=decide (x=y):=by rw[iO,Yt,om]
  have:=SeqAt.eqAt_reads _ _ A s _ _ as bs r1 r2 hx.2.1 hy.2.1 (by have:=hx.2.2.1;have:=Nat.min_le_left (NK.toD x).depth (NK.toD y).depth;lia);rw[e]at this;exact this P w E Q h
 quiet:=λhk h=>NG _ 8 _ _ _ _ _ hk.1 (by have:=hk.2.2.2;lia) h
end
def DN(P:Program)(w:World)(d:Addr)(kvs:List (-44)):Heap->Prop:=λh=>(d==sysModules)=false/\∃xs:List (NK×Addr×Value),Paired (-10) kvs xs/\kvs.length<=10000000/\
 ∃o es ep,h.get? d=some o/\o.ExactDict/\o.data=.dict es ep/\es.toList=xs.map (entryOfKey (nX P w))/\(xs.map (·.1)).Nodup
def Qq(x:DN P w d kvs h):dE P w H h d (.ext (DN P w d kvs)):=
 {x,let⟨_,_,_,_,o,_,_,q,_⟩:=x;⟨o,q⟩,λ_ _ ⟨l,xs,p,n,o,es,ep,q,r⟩ k=>{l,xs,p,n,o,es,ep,k _ q,r}}
mutual
def NV(K:Frag)(H:Hp):NK->V->Prop
 | .cR,v=>v=.cR
 | .key k,v=>v=kV k
 | .tup ks,v=>∃a xs,v=.ref a/\bC K H a xs/\uP K H ks xs
def uP(K:Frag)(H:Hp):List NK->Aam->Prop
 |[],xs=>xs=[]
 |k::ks,xs=>∃x r,xs=x::r/\NV K H k x/\uP K H ks r
end
section
variable{X:Cx}{pins:Aaa}{Z:St}{H:Hp}{s:Shared}
mutual
theorem KZ(I:Inv X pins Z H s):∀(k:NK)(v:V)(u:Value),NV X.K H k v->RelV v u->lB X.prog X.w s.heap k u
 | .cR,v,u,h,r=>by rw[NV]at h;subst h;cases(show u=Value.none from r);exact .cR
 | .key k,v,u,h,r=>by rw[NV]at h;subst h;exact .key (xH r)
 | .tup ks,v,u,h,r=>by rw[NV]at h;obtain⟨a,xs,rfl,hq,ha⟩:=h;cases r;obtain⟨aS,rv,⟨o,e,c,n,d⟩,_⟩:=I.tuple hq;exact .tup e c d (by simpa using Ie I ks xs aS ha rv)
theorem Ie(I:Inv X pins Z H s):∀(ks:List NK)(xs:Aam)(us:Aae),uP X.K H ks xs->Vals xs us->lX X.prog X.w s.heap ks us
 |[],xs,us,h,r=>by rw[uP]at h;subst h;cases r;exact .nil
 |k::ks,xs,us,h,r=>by
  rw[uP]at h;obtain⟨x,t,rfl,h1,h2⟩:=h;cases r with
  |cons r1 r2=>exact .cons (KZ I k x _ h1 r1) (Ie I ks t _ h2 r2)
end
def YG(k:NK):Prop:=(NK.toD k).canLay0=true/\(NK.toD k).depth<=7/\NK.deep k<=7
end
def jS(K:Frag)(H:Hp)(k:NK)(a:Addr):Prop:=NV K H k (-64)/\YG k
def gn(P:Program)(w:World)(K:Frag)(H:Hp)(a:Addr)(kvs:List (-44)):Prop:=(H a=some (.ext (DN P w a kvs))\/(kvs=[]/\H a=some (.dK [])))/\∀p∈kvs,jS K H p.1 p.2.1
def valN(kvs:List (-44))(k:NK):Aan:=(kvs.find? λp=>decide (p.1=k)).map (·.2.2)
def putN(kvs:List (-44))(k:NK)(a:Addr)(v:V):List (-44):=if(valN kvs k).isSome then kvs.map (λp=>if p.1=k then(p.1,p.2.1,v)else p)else kvs++[(k,a,v)]
def yU(rel:Paired (-10) kvs xs)(k:NK):lU (valN kvs k) ((atKey xs k).map (·.2)):=by
 unfold valN atKey
 induction rel with
 |nil=>exact trivial
 |@cons p q ps qs h _ ih=>
  by_cases c:p.1=k
  ·rw[g9 (p:=λp:NK×Addr×V=>decide (p.1=k)) (aT c),g9 (p:=λx:NK×Addr×Value=>decide (x.1=k)) (aT (h.1.symm.trans c))];exact h.2.2
  ·rw[hE (p:=λp:NK×Addr×V=>decide (p.1=k)) (λd=>c (aW d)),hE (p:=λx:NK×Addr×Value=>decide (x.1=k)) (λd=>c (h.1.trans (aW d)))];exact ih
section
variable{X:Cx}{pins:Aaa}{Z:St}{H:Hp}{s:Shared}{A:Around}{E:Aac}{a b:Addr}{kvs:List (NK×Addr×V)}{k:NK}{v:V}
def Inv.ER(I:Inv X pins Z H s)(h:jS X.K H k b):(nX X.prog X.w).is s.heap k b:={KZ I k (.ref b) (.ref b) h.1 rfl,h.2}
def Inv.sj(I:Inv X pins Z H s)(h:gn X.prog X.w X.K H a kvs):(a==sysModules)=false/\∃xs,Paired (-10) kvs xs/\kvs.length<=10000000/\s.heap.DictOfH (nX X.prog X.w) a xs:=by
 obtain⟨h1,h2⟩:=h;have keys:∀{l:List (-44)}{xs:List (NK×Addr×Value)},Paired (-10) l xs->(∀p∈l,jS X.K H p.1 p.2.1)->∀x∈xs,(nX X.prog X.w).is s.heap x.1 x.2.1:=λr=>by
  induction r with
  |nil=>intro _ x hx;cases hx
  |@cons p q ps qs h _ ih=>
   intro hk x hx;rcases aH.mp hx with rfl|hx
   ·rw[<-h.1,<-h.2.1];exact I.ER (hk p aA)
   ·exact ih (λp hp=>hk p (aB _ hp)) x hx
 rcases h1 with h1|⟨rfl,h1⟩
 ·obtain⟨⟨lo,xs,rel,hl,o,es,ep,g,hx,hd,he,nd⟩,_⟩:=(show dE X.prog X.w H s.heap a (.ext (DN X.prog X.w a kvs))from I.bj a _ h1);exact{lo,xs,rel,hl,o,es,ep,g,hx,hd,he,keys rel h2,nd}
 ·obtain⟨_,lo,vs,rel,o,es,ep,g,hx,hd,_,hp,_⟩:=Dd I.bj h1;cases rel;have e0:es.toList=[]:=by have:=hp.length;exact gR.mp this
  exact{lo,[],.nil,aQ _,o,es,ep,g,hx,hd,by rw[e0];rfl,λx h=>(by cases h),lZ}
def acB(hu:A.units+101<cLine)(I:Inv X pins Z H s)(h:gn X.prog X.w X.K H a kvs)(hk:jS X.K H k b)(hv:valN kvs k=some v)(q:∀w' s',Inv X pins Z H s'->RelV v w'->Q w' s'):wpAny (-6) A (getItem (-64) (.ref b)) Q E s:=by obtain⟨lo,xs,rel,hl,dd⟩:=I.sj h;obtain⟨w',hw,pU⟩:=lU.some_of (hv▸yU rel k);obtain⟨p,hp,uI⟩:=bq.mp hw;refine Bu (show A.units+1+100<cLine by lia) (I.ER hk) dd hp ?_;rw[uI];exact q w' _ (I.tok _) pU
def Wy(hu:A.units+101<cLine)(I:Inv X pins Z H s)(h:gn X.prog X.w X.K H a kvs)(hk:jS X.K H k b)(q:∀s',Inv X pins Z H s'->Q (.bool (!(valN kvs k).isSome)) s'):wpAny (-6) A (compareOp .NotIn (.ref b) (-64)) Q E s:=by obtain⟨lo,xs,rel,hl,dd⟩:=I.sj h;refine wpAny_notIn_heap (show A.units+1+100<cLine by lia) (I.ER hk) lo dd ?_;have e:=(yU rel k).uG;rw[jZ]at e;rw[<-e];exact q _ (I.tok _)
def EH(rel:Paired (-10) kvs xs)(rv:RelV v r):Paired (-10) (putN kvs k b v) (storedH xs k b r):=by
 have e:=(yU rel k).uG;rw[jZ]at e;unfold putN storedH;rw[e];split
 next hs=>
  clear e hs
  induction rel with
  |nil=>exact .nil
  |@cons p q ps qs h _ ih=>
   refine .cons ?_ ih;show(if p.1=k then(p.1,p.2.1,v)else p).1=(if q.1=k then(q.1,q.2.1,r)else q).1/\(if p.1=k then(p.1,p.2.1,v)else p).2.1=(if q.1=k then(q.1,q.2.1,r)else q).2.1/\RelV (if p.1=k then(p.1,p.2.1,v)else p).2.2 (if q.1=k then(q.1,q.2.1,r)else q).2.2;by_cases c:p.1=k
   ·rw[aG c,aG (h.1.symm.trans c)];exact{h.1,h.2.1,rv}
   ·rw[aw c,aw (λd=>c (h.1.trans d))];exact h
 next=>exact yB rel ⟨rfl,rfl,rv⟩
def wy:(putN kvs k b v).length<=kvs.length+1:=by
 unfold putN;split
 ·rw[af];lia
 ·rw[aC];exact ak _
def acz(hu:A.units+101<cLine)(I:Inv X pins Z H s)(h:gn X.prog X.w X.K H a kvs)(hk:jS X.K H k b)(lO:kvs.length<10000000)(rv:RelV v r)
  (q:∀s',Inv X pins Z (upd H a (.ext (DN X.prog X.w a (putN kvs k b v)))) s'->Q () s'):wpAny (-6) A (setItem (-64) (.ref b) r) Q E s:=by
 obtain⟨lo,xs,rel,hl,dd⟩:=I.sj h;have lx:xs.length<=sizeLine:=by rw[<-rel.length,bz];lia
 refine Bt (show A.units+1+100<cLine by lia) (I.ER hk) dd λh' sU hs=>q _ ?_;obtain⟨o,es,ep,g,h2,h3,h4,_,h5⟩:=sU;have lp:=wy (kvs:=kvs) (k:=k) (b:=b) (v:=v);refine tQ I ?_ hs ⟨o,g⟩ (Qq {lo,_,EH rel rv,by lia,o,es,ep,g,h2,h3,h4,h5});rcases h.1 with e|⟨_,e⟩<;>rw[e]<;>exact True.intro
end
inductive Y1(P:Program)(w:World)(K:Frag)(Q:VK)(x:V)(y:V)(H2:Hp):Prop
 |mk a b kvs k v (_:x=.ref a) (_:y=.ref b) (_:gn P w K H2 a kvs) (_:jS K H2 k b) (_:valN kvs k=some v) (_:Q v H2)
def JN(P:Program)(w:World)(K:Frag)(td ty:TE):TE:=λZ H Q=>td Z H λx H1=>ty Z H1 λy H2=>Y1 P w K Q x y H2
inductive ad7(P:Program)(w:World)(K:Frag)(neg:Bool)(x:V)(y:V)(H:Hp)(Q:VK):Prop
 |mk a b kvs k (_:x=.ref b) (_:y=.ref a) (_:gn P w K H a kvs) (_:jS K H k b) (_:Q (.bl (if neg then !(valN kvs k).isSome else(valN kvs k).isSome)) H)
inductive Y8(P:Program)(w:World)(K:Frag)(D:Ends)(Z:St)(v:V)(x:V)(y:V)(H3:Hp):Prop
 |mk a b kvs k (_:x=.ref a) (_:y=.ref b) (_:gn P w K H3 a kvs) (_:jS K H3 k b) (_:kvs.length<10000000) (_:D.nx Z (upd H3 a (.ext (DN P w a (putN kvs k b v)))))
def aa1(P:Program)(w:World)(K:Frag)(td ty tv:TE):TS:=λD Z H=>tv Z H λv H1=>td Z H1 λx H2=>ty Z H2 λy H3=>Y8 P w K D Z v x y H3
section
variable{X:Cx}{o i value:Expr}{pos pos':Pos}{td ty tv:TE}
def acS(I:Inv X pins Z H s)(h:gn X.prog X.w X.K H a kvs):s.TypeIs (-64) "dict":=by obtain⟨_,_,_,_,o,_,_,g,hx,_⟩:=I.sj h;exact{o,g,hx.1}
def Kz(hu:X.A.units+101<cLine)(ho:PE X o td)(hi:PE X i ty)(hs:QH i):PE X (.Subscript o i pos) (JN X.prog X.w X.K td ty):=by intro pins s Z H Q I h;refine Nr PySem.F.slot_dict_getitem.lookup hs (dq (ho pins s Z H _ I h) λu s1 x H1 I1 rx q1=>dq (hi pins s1 Z H1 _ I1 q1) λiv s2 y H2 I2 ry aev=>?_);obtain⟨a,b,kvs,k,v,ex,ey,g,hk,hv,q2⟩:=aev;subst ex ey;obtain rfl:u=Value.ref a:=rx;obtain rfl:iv=Value.ref b:=ry;exact{acS I2 g,acB hu I2 g hk hv λw' s3 I3 pU=>⟨v,H2,I3,pU,q2⟩}
def RF(hu:X.A.units+101<cLine):jH X (compareOp .NotIn) (ad7 X.prog X.w X.K true):=by intro pins s Z H x y v u Q I rx ry h;obtain⟨a,b,kvs,k,rfl,rfl,g,hk,q⟩:=h;cases rx;cases ry;exact Wy hu I g hk λs' I'=>{.bl _,H,I',rfl,q}
def Kr(hu:X.A.units+101<cLine)(ho:PE X o td)(hi:PE X i ty)(hv:PE X value tv)(hs:swapsWith value (some (.Subscript o i pos')) pos.line X.env=pure false):
  PS X (.Assign [.Subscript o i pos'] value pos) (aa1 X.prog X.w X.K td ty tv):=by
 intro pins s Z H D I h;refine yg (dq (hv pins s Z H _ I h) λr s1 v H1 I1 rv q1=>dq (ho pins s1 Z H1 _ I1 q1) λu s2 x H2 I2 rx q2=>dq (hi pins s2 Z H2 _ I2 q2) λiv s3 y H3 I3 ry aeu=>?_) hs;obtain⟨a,b,kvs,k,ex,ey,g,hk,hl,q⟩:=aeu;subst ex ey;obtain rfl:u=Value.ref a:=rx;obtain rfl:iv=Value.ref b:=ry;exact acz hu I3 g hk hl rv λs4 I4=>⟨Z,_,I4,q⟩
def QD:iN X (.type "dict") (λxs H Q=>∃a kvs,xs=[.ref a]/\Rd H a (.dK kvs)/\∀p,H p=none->Q (.ref p) (upd H p (.dK kvs))):=by intro pins s Z H xs us Q I r h;obtain⟨a,kvs,rfl,ha,q⟩:=h;obtain⟨u,rfl,ru⟩:=jy r;cases ru;exact WA I ha λp s' hp I'=>{.ref p,_,I',rfl,q p hp}
end
end L2
namespace L2
open PySem PySem.Spec PyProof.Rows
structure afM(X:Cx)(scope:Scope)(x:Str)(fs:Aaf)(fr:List Nat):Prop where
 kind:scope.kind=.function
 loc:scope.names.lookup x=some .cell
 names:∀y∈scope.names,y.2=.local->scope.names.lookup y.1=some .local
 one:∃a b,scope.names=a++(x,.cell)::b/\(∀y∈a,y.2≠ .cell)/\∀y∈b,y.2≠ .cell
 free:∀n∈frees scope,X.env.kindOf n=some .cell/\scope.names.lookup n=some .free
 nd:(x::fs).Nodup
 len:fr.length=fs.length
 slots:∀(j:Nat)(y:Str)(k:Nat),fs[j]?=some y->fr[j]?=some k->X.N[k]?=some y/\y∈frees scope
end L2
namespace L2
open PySem PySem.Spec PyProof.Rows ya
section
variable{prog:Program}{w:World}{κ:Type}[DecidableEq κ]{kd:HeapKind prog w κ}{A:Around}{E:Aac}{s:Shared}
def Fv(hu:kd.room A)(lQ:kd.is s.heap k a)(hm:s.heap.DictOfH kd d xs)
  (h1:∀p,atKey xs k=some p->Q p.2 {s with toks:=s.toks+kd.draws k})
  (h2:atKey xs k=none->∀h',h'.DictOfH kd d (storedH xs k a v)->Heap.SameBut d s.heap h'->Q v {s with heap:=h',toks:=s.toks+kd.draws k}) (hsz:xs.length<=sizeLine):
  wpAny (-5) A (dictSetDefault d (-64) v) Q E s:=by
 obtain⟨o,es,ep,ho,hc,hd,he,his,hn⟩:=hm;unfold dictSetDefault
 try with_reducible refine bS ?_
 have lz:=xy he;refine ae (kd.pyHash hu lQ (ae (wpAny_dictFind_heap hu lQ ho hd he his hn (λCd=>?_) (λj p hj=>?_))))
 ·have nk:=not_mem_keys_of_get Cd;have e0:=atKey_none_of_get Cd;have e1:=storedH_new e0;refine ae (fE (ae (wpAny_updateDictKeys ho hd (ag (h2 e0 _ {_,_,ep+1,cD _ ho (Obj.isFreed_of_dict (AZ hd _)),hc.mapDictKeys _,AZ hd _,?_,?_,?_} (bN ..))))))
  ·rw[e1,aD,<-he];simp[entryOfKey]
  ·rw[e1];intro x hx;rcases aP.mp hx with q|q
   ·exact kd.keeps (his x q) ho hd (bN ..)
   ·rw[ax.mp q];exact kd.keeps lQ ho hd (bN ..)
  ·rw[e1,aD];refine fR.mpr {hn,by simp,λx hx y hy e=>?_};have Iy:y=k:=by simpa using hy
   exact nk (by rw[<-Iy,<-e];exact hx)
 ·refine ae (gW ho hd ?_);rw[PySem.entry_at he j,hj];exact ae (fE (ag (h1 p (atKey_of_get hn hj))))
def Di(kd:HeapKind prog w κ)(d a:Addr)(hd:(d==sysModules)=false)(z:Value):
  MeetsIn prog w (Builtin.«dict.setdefault» {[.ref d,.ref a,z],[]}) (λA R s=>kd.room A.in1/\∃k xs,kd.is s.heap k a/\s.heap.DictOfH kd d xs/\xs.length<=sizeLine/\
   (∀p,atKey xs k=some p->R (.ok (.ret p.2)) {s with toks:=s.toks+kd.draws k})/\
   (atKey xs k=none->∀h',h'.DictOfH kd d (storedH xs k a z)->Heap.SameBut d s.heap h'->R (.ok (.ret z)) {s with heap:=h',toks:=s.toks+kd.draws k})):=
 .of_wp λA R s ⟨hu,k,xs,lQ,hm,hz,h1,h2⟩=>by refine ae ?_;refine ae (lF hm.typeIs ?_);refine ag ?_;show wpAny _ _ (if(d==sysModules)=true then _ else(dictSetDefault d (-64) z>>=_)) _ _ s;rw[aw (hd▸bu)];exact ae (Fv hu lQ hm (λp hp=>ag {_,rfl,h1 p hp}) (λhn h' m' b'=>ag {z,rfl,h2 hn h' m' b'}) hz)
def ZP(hd:(d==sysModules)=false)(ho:s.heap.get? d=some o)(hx:o.ExactDict)(afh:o.data=.dict es ep)(af0:(es.size:Int)<2^63)
  (h:∀t t',Q (.int es.size t) {s with toks:=t'}):wpAny (-5) A (call (.builtin "len") [.ref d]) Q E s:=by
 have ty:s.TypeIs (.ref d) "dict":={o,ho,hx.1};refine f7 kind_len plain_len entry_len (args_len1 _) ?_;refine ae (ag ?_);refine ae (wpAny_callSpecial?_slot ty F.slot_dict_len
  (bp F.slot_dict_len ty F.entry_dict_len ?_ (F.args_dict_len_1 _)))
 show wpAny _ _ (dictSize d>>=_) _ _ s;refine ae (ae (gW ho afh (ag ?_)));refine ae (wpAny_pendingCount_other hd ?_);refine ae (DF (ag {_,rfl,?_}));refine ae (bS (ag ?_));refine ae (mT ?_);rw[aw ∅];rw[aw ∅];exact ae (DF (ag {_,rfl,h _ _}))
end
section
variable{X:Cx}{pins:Aaa}{Z:St}{H:Hp}{s:Shared}{A:Around}{E:Aac}{a b:Addr}{kvs:List (NK×Addr×V)}{k:NK}{z:V}
def TN(hu:A.units+101<cLine)(I:Inv X pins Z H s)(h:gn X.prog X.w X.K H a kvs)(hk:jS X.K H k b)(lO:kvs.length<10000000)(rv:RelV z r)
  (q1:∀v w' s',valN kvs k=some v->Inv X pins Z H s'->RelV v w'->Q w' s')
  (q2:valN kvs k=none->∀s',Inv X pins Z (upd H a (.ext (DN X.prog X.w a (putN kvs k b z)))) s'->Q r s'):wpAny (-6) A (call (.builtin "dict.setdefault") [.ref a,.ref b,r]) Q E s:=by
 obtain⟨lo,xs,rel,hl,dd⟩:=I.sj h;have lx:xs.length<=sizeLine:=by rw[<-rel.length,bz];lia
 have e:=yU rel k;refine su tW dd.typeIs PySem.F.entry_dict_setdefault (PySem.F.args_dict_setdefault_3 _ _ _) (Di (nX X.prog X.w) a b lo r)
  {show A.units+1+100<cLine by lia,k,xs,I.ER hk,dd,lx,λp hp=>?_,λhn h' sU hs=>?_}
 ·rw[hp]at e;cases ev:valN kvs k with
  |none=>rw[ev]at e;exact e.elim
  |some v=>rw[ev]at e;exact q1 v _ _ ev (I.tok _) e
 ·rw[hn]at e;cases ev:valN kvs k with
  |some v=>rw[ev]at e;exact e.elim
  |none=>
   obtain⟨o,es,ep,g,x2,x3,x4,_,x5⟩:=sU;have lp:=wy (kvs:=kvs) (k:=k) (b:=b) (v:=z);refine q2 ev _ (tQ I ?_ hs ⟨o,g⟩ (Qq {lo,_,EH rel rv,by lia,o,es,ep,g,x2,x3,x4,x5}));rcases h.1 with e|⟨_,e⟩<;>rw[e]<;>exact True.intro
def Z7(hu:A.units+101<cLine)(I:Inv X pins Z H s)(h:gn X.prog X.w X.K H a kvs)(hk:jS X.K H k b)(rv:RelV z r)(q:∀w' s',Inv X pins Z H s'->RelV ((valN kvs k).getD z) w'->Q w' s'):
  wpAny (-6) A (call (.builtin "dict.get") [.ref a,.ref b,r]) Q E s:=by
 obtain⟨lo,xs,rel,hl,dd⟩:=I.sj h;exact su jG dd.typeIs pZ (pk _ _ _) (xf (nX X.prog X.w) a b lo r)
  {show A.units+1+100<cLine by lia,k,xs,I.ER hk,dd,q _ _ (I.tok _) ((yU rel k).getD rv)}
def Ob(I:Inv X pins Z H s)(h:gn X.prog X.w X.K H a kvs):s.TypeIs (-64) "dict"/\∀b,Value.ref a=.ref b->∃ob,s.heap.get? b=some ob/\ob.dict=none:=by obtain⟨lo,xs,rel,hl,dd⟩:=I.sj h;refine{dd.typeIs,λb q=>?_};cases q;obtain⟨ob,_,_,h1,h2,_⟩:=dd;exact{ob,h1,h2.2.1}
def acA(I:Inv X pins Z H s)(h:gn X.prog X.w X.K H a kvs)(q:∀t s',Inv X pins Z H s'->Q (.int kvs.length t) s'):wpAny (-6) A (call (.builtin "len") [.ref a]) Q E s:=by
 obtain⟨lo,xs,rel,hl,o,es,ep,g,hx,hd,he,_⟩:=I.sj h;have l1:es.size=kvs.length:=by rw[xy he,rel.length]
 refine ZP lo g hx hd ∅ λt t'=>?_;rw[l1];exact q t _ (I.tok _)
end
inductive QW(P:Program)(w:World)(K:Frag)(ty:TE)(tz:TE)(Z:St)(Q:VK)(x:V)(H1:Hp):Prop
 |mk a Lj (_:x=.ref a) (_:gn P w K H1 a Lj) (_:ty Z H1 λy H2=>tz Z H2 λz H3=>∃b kvs k,y=.ref b/\gn P w K H3 a kvs/\jS K H3 k b/\kvs.length<10000000/\(∀v,valN kvs k=some v->Q v H3)/\(valN kvs k=none->Q z (upd H3 a (.ext (DN P w a (putN kvs k b z))))))
def UP(P:Program)(w:World)(K:Frag)(td ty tz:TE):TE:=λZ H Q=>td Z H λx H1=>QW P w K ty tz Z Q x H1
inductive US(P:Program)(w:World)(K:Frag)(ty:TE)(tz:TE)(Z:St)(Q:VK)(x:V)(H1:Hp):Prop
 |mk a Lj (_:x=.ref a) (_:gn P w K H1 a Lj) (_:ty Z H1 λy H2=>tz Z H2 λz H3=>∃b kvs k,y=.ref b/\gn P w K H3 a kvs/\jS K H3 k b/\Q ((valN kvs k).getD z) H3)
def Np(P:Program)(w:World)(K:Frag)(td ty tz:TE):TE:=λZ H Q=>td Z H λx H1=>US P w K ty tz Z Q x H1
section
variable{X:Cx}{o e f:Expr}{apos eU:Pos}{td ty tz:TE}
def Pm(hu:X.A.units+101<cLine)(ho:PE X o td)(he:PE X e ty)(hf:PE X f tz)(m:M2 X o "setdefault" apos e f eU):PE X (.Call (.Attribute o "setdefault" apos) [e,f] [] eU) (UP X.prog X.w X.K td ty tz):=by intro pins s Z H Q I h;refine vk m.base m.gC m.line iX tW PySem.F.type_dict_setdefault (dq (ho pins s Z H _ I h) λu s1 x H1 I1 rx aet=>?_);obtain⟨a,Lj,ex,d,q1⟩:=aet;subst ex;obtain rfl:u=Value.ref a:=rx;obtain⟨t1,t2⟩:=Ob I1 d;refine{t1,t2,?_};rw[m.trees];refine jr rfl (mF (gK (dq (he pins s1 Z H1 _ I1 q1) λiv s2 y H2 I2 ry q2=>gK (dq (hf pins s2 Z H2 _ I2 q2) λfv s3 z H3 I3 rz ⟨b,kvs,k,ey,g,hk,hl,k1,k2⟩=>lE ?_))));subst ey;obtain rfl:iv=Value.ref b:=ry;exact TN hu I3 g hk hl rz (λv w' s4 ev I4 r4=>{v,H3,I4,r4,k1 v ev}) λev s4 I4=>{z,_,I4,rz,k2 ev}
def HZ(hu:X.A.units+101<cLine)(ho:PE X o td)(he:PE X e ty)(hf:PE X f tz)(m:M2 X o "get" apos e f eU):PE X (.Call (.Attribute o "get" apos) [e,f] [] eU) (Np X.prog X.w X.K td ty tz):=by intro pins s Z H Q I h;refine vk m.base m.gC m.line iX jG zF (dq (ho pins s Z H _ I h) λu s1 x H1 I1 rx aes=>?_);obtain⟨a,Lj,ex,d,q1⟩:=aes;subst ex;obtain rfl:u=Value.ref a:=rx;obtain⟨t1,t2⟩:=Ob I1 d;refine{t1,t2,?_};rw[m.trees];refine jr rfl (mF (gK (dq (he pins s1 Z H1 _ I1 q1) λiv s2 y H2 I2 ry q2=>gK (dq (hf pins s2 Z H2 _ I2 q2) λfv s3 z H3 I3 rz ⟨b,kvs,k,ey,g,hk,k1⟩=>lE ?_))));subst ey;obtain rfl:iv=Value.ref b:=ry;exact Z7 hu I3 g hk rz λw' s4 I4 r4=>⟨_,H3,I4,r4,k1⟩
def Uh:iN X (.builtin "len") (λxs H Q=>∃a kvs,xs=[V.ref a]/\gn X.prog X.w X.K H a kvs/\Q (.int kvs.length) H):=by intro pins s Z H xs us Q I r h;obtain⟨a,kvs,rfl,ha,q⟩:=h;obtain⟨u,rfl,ru⟩:=jy r;cases ru;exact acA I ha λt s' I'=>{.int kvs.length,H,I',⟨t,rfl⟩,q}
inductive ZW(P:Program)(w:World)(K:Frag)(R:It->Hp->Prop)(x:V)(H1:Hp):Prop
 |mk d u kvs (_:x=.ref d) (_:H1 d=some u) (_:gn P w K H1 d kvs) (_:∀o,R (UA d o u (kvs.map λp=>(.ref p.2.1,p.2.2))) (upd H1 d (.fg o u)))
def abP(P:Program)(w:World)(K:Frag)(tl:TE):TI:=λZ H R=>tl Z H λx H1=>ZW P w K R x H1
def Vn(hl:PE X l tl):PI X tg l (abP X.prog X.w X.K tl):=by
 intro pins s Z H R I h;refine dq (hl pins s Z H _ I h) λv s1 x H1 I1 r1 q1=>?_;obtain⟨d,u,kvs,e,hd,hv,q⟩:=q1;subst e;cases r1;obtain⟨lo,xs,rel,_,o,es,ep,ga,hx,hdt,he,_⟩:=I1.sj hv;have ents:∀{l:List (-44)}{xs:List (NK×Addr×Value)},Paired (-10) l xs->Paired (-55) (l.map λp=>(V.ref p.2.1,p.2.2)) (xs.map (entryOfKey (nX X.prog X.w))):=λr=>by
  induction r with
  |nil=>exact .nil
  |@cons p q ps qs h _ ih=>exact .cons {by show Value.ref q.2.1=Value.ref p.2.1;rw[h.2.1],h.2.2} ih
 have m:Ml o es ep (-94):={hx,hdt,he▸ents rel};have I2:Inv X pins Z (upd H1 d (.fg o u)) s1:=by
  rcases hv.1 with e|⟨_,e⟩
  ·rw[hd]at e;cases e;exact I1.G9 hd ga
  ·rw[hd]at e;cases e;exact I1.freeze hd ga
 refine GK lo ga m.1 m.2.1 ?_;refine{s1.heap.objs.size,[s1.heap.objs.size],_,_,_,rfl,I2.kept λb o e=>ah _ e,QU m,{_,aE _ rfl,rfl,rfl},λb hb=>?_,q o};have e:b=s1.heap.objs.size:=by simpa using hb
 subst e;exact I2.u7 (ak _) (I2.bj.fresh (ak _))
def qd(n:Nat)(k:NK):Prop:=(NK.toD k).canLay0=true/\(NK.toD k).depth<=n/\NK.deep k<=n
def good_str(h:PyData.strOk z=true):qd n (.key (.inr z)):={by simp[NK.toD,PyData.canLay0,h],by simp[NK.toD,PyData.depth],by simp[NK.deep]}
theorem LQ:∀{ks:List NK},(∀k∈ks,qd n k)->PyData.canLayAll0 (NK.mW ks)=true/\PyData.depthAll (NK.mW ks)<=n/\NK.oW ks<=n
 |[],_=>{by simp[NK.mW,PyData.canLayAll0],by simp[NK.mW,PyData.depthAll],by simp[NK.oW]}
 |k::ks,h=>by
  obtain⟨a1,a2,a3⟩:=h k aA;obtain⟨b1,b2,b3⟩:=LQ λk hk=>h k (aB _ hk);refine{by simp[NK.mW,PyData.canLayAll0,a1,b1],?_,?_}
  ·simp only[NK.mW,PyData.depthAll];lia
  ·simp only[NK.oW];lia
def EU(h:∀k∈ks,qd n k):qd (n+1) (.tup ks):=by obtain⟨b1,b2,b3⟩:=LQ h;refine{by simp only[NK.toD,PyData.canLay0];exact b1,by simp only[NK.toD,PyData.depth];lia,by simp only[NK.deep];lia}
def qd.good(h:qd n k)(hn:n<=7):YG k:={h.1,aJ h.2.1 hn,aJ h.2.2 hn}
def gj(zs:Aaf):NK:=.tup (zs.map λz=>.key (.inr z))
def y8(h:gj xs=gj ys):xs=ys:=by injection h with h;exact List.map_inj_right (λa b e=>by injection e with e;injection e)|>.mp h
def EV(h:∀z∈zs,PyData.strOk z=true):qd 1 (gj zs):=EU λk hk=>by obtain⟨z,hz,rfl⟩:=ar.mp hk;exact good_str (h z hz)
theorem KU{K:Frag}:∀zs:Aaf,uP K H (zs.map λz=>NK.key (.inr z)) (-70)
 |[]=>by rw[jv,uP];rfl
 |z::r=>by exact{_,_,rfl,by rw[NV];rfl,KU r}
def KW{K:Frag}(h:bC K H a (-70)):NV K H (gj zs) (-64):=by unfold gj;exact{a,_,rfl,h,KU zs}
def wH{K:Frag}(h:bC K H a (-70))(hz:∀z∈zs,PyData.strOk z=true):jS K H (gj zs) a:={KW h,(EV hz).good (-9)}
def FQ{K:Frag}(h:NV K H (gj zs) (-64)):bC K H a (-70):=by
 have all:∀{zs:Aaf}{xs:Aam},uP K H (zs.map λz=>NK.key (.inr z)) xs->xs=zs.map V.str:=by
  intro zs
  induction zs with
  |nil=>intro xs h;rw[jv,uP]at h;exact h
  |cons z r ih=>
   intro xs h;obtain⟨x,t,rfl,h1,h2⟩:=h;rw[h1,ih h2];rfl
 unfold gj at h;obtain⟨b,xs,e,hq,h⟩:=h;cases e;rw[<-all h];exact hq
def mi(e:p.1=k):valN (p::r) k=some p.2.2:=by unfold valN;rw[g9 (p:=λp:NK×Addr×V=>decide (p.1=k)) (aT e)];rfl
def ml(e:¬p.1=k):valN (p::r) k=valN r k:=by unfold valN;rw[hE (p:=λp:NK×Addr×V=>decide (p.1=k)) (λq=>e (aW q))]
theorem JG:∀kvs:List (-44),valN (kvs.map λp=>if p.1=k then(p.1,p.2.1,v)else p) j=(valN kvs j).map λx=>if j=k then v else x
 |[]=>rfl
 |p::r=>by
  have ih:=JG (k:=k) (j:=j) (v:=v) r;rw[bw];by_cases h:p.1=k
  ·rw[aG h];by_cases e:p.1=j
   ·rw[mi (p:=(p.1,p.2.1,v)) e,mi e,d7,aG (e.symm.trans h)]
   ·rw[ml (p:=(p.1,p.2.1,v)) e,ml e,ih]
  ·rw[aw h];by_cases e:p.1=j
   ·rw[mi e,mi e,d7,aw (λz=>h (e.trans z))]
   ·rw[ml e,ml e,ih]
theorem HB:∀kvs:List (-44),valN kvs k=none->valN (kvs++[(k,a,v)]) j=if j=k then some v else valN kvs j
 |[],_=>by
  by_cases e:k=j
  ·rw[aG e.symm];exact mi e
  ·rw[aw (λz=>e z.symm)];exact ml e
 |p::r,hn=>by
  rw[jl];have hk:¬p.1=k:=λz=>by rw[mi z]at hn;cases hn
  rw[ml hk]at hn;by_cases e:p.1=j
  ·rw[mi e,mi e,aw (λz=>hk (e.trans z))]
  ·rw[ml e,ml e,(HB (j:=j) (a:=a) (v:=v) r hn)]
def qI:valN (putN kvs k a v) j=if j=k then some v else valN kvs j:=by
 unfold putN;split
 ·next hs=>
  rw[JG];by_cases c:j=k
  ·obtain⟨x,hx⟩:=kE.mp hs;rw[aG c,c,hx,d7,aG rfl]
  ·rw[aw c];cases valN kvs j with
   |none=>rfl
   |some x=>rw[d7,aw c]
 ·next hs=>
  refine HB kvs ?_;cases e:valN kvs k with
  |none=>rfl
  |some x=>rw[e]at hs;exact absurd rfl hs
def Lb(h:p∈putN kvs k a v):(∃q∈kvs,p.1=q.1/\p.2.1=q.2.1)\/(p.1=k/\p.2.1=a):=by
 unfold putN at h;split at h
 ·obtain⟨q,hq,rfl⟩:=ar.mp h;refine .inl {q,hq,?_};split<;>exact⟨rfl,rfl⟩
 ·rcases aP.mp h with h|h
  ·exact .inl ⟨p,h,rfl,rfl⟩
  ·rw[ax.mp h];exact .inr ⟨rfl,rfl⟩
end
end L2
namespace L2
open PySem PySem.Spec PyProof.Rows PySem.W ya
section
variable{X:Cx}{pins:Aaa}{Z:St}{H:Hp}{s:Shared}
def Inv.Me(I:Inv X pins Z H s)(hn:H D=none)(new:dE X.prog X.w (upd H D o) s.heap D o)
  (h1:X.aab.heap.objs.size<=D) (hL:D≠X.env.locals) (h2:∀x c,X.env.cells.lookup x=some c->c≠D) (h3:∀p∈X.pn++pins,p.1≠D):Inv X pins Z (upd H D o) s:=by
 have nD:∀b u,H b=some u->b≠D:=λb u q z=>by rw[z,hn]at q;cases q
 have bj:ko X.prog X.w (upd H D o) s.heap:=λb u q=>by
  by_cases hb:b=D
  ·subst hb;rw[au]at q;cases q;exact new
  ·rw[ay hb]at q;exact(I.bj b u q).kJ (λ_ _ _ z=>z) (λc z=>by rw[ay (nD c _ z)];exact z) λc xs z=>by rw[ay (nD c _ z)];exact z
 have J:=I.step (t':=s.toks) (d':=s.drawn) (ch:=[D])
  (λb hb=>by
   have e':b=D:=by simpa using hb
   subst e';exact{.inr h1,hL,h2,h3})
  (λb o _ _ _ q _=>q) (λb o _ _ _ q _=>{o.slots,q}) (λb o hc _ n=>by rw[ay λz=>hc (by simp[z])];exact n) (λb o _ q=>⟨o,q⟩)
  (λb xs q=>by rw[ay (nD b _ q)];exact q) (λb o u q=>by rw[ay (nD b _ q)];exact q) (λb ps q=>{#[],by rw[ay (nD b _ q),q];simp}) (λm hm=>hm) bj I.bare
 exact J
def xa(r d:Addr):Heap->Prop:=λh=>h.IsItemsView r d
end
def abG(x:xa r d h):dE P w H h r (.ext (xa r d)):=
 {x,let⟨o,q,_⟩:=x;⟨o,q⟩,λ_ _ ⟨o,q,z⟩ k=>{o,k _ q,z}}
section
variable{X:Cx}
def sG(P:Program)(w:World)(K:Frag)(mg:Aab)(base:Heap)(C:Addr)(k:Nat)(m:Str)(ps:Aaf)(sp:Sp):Prop:=
 ∃f fd,dy P w K mg base f9 k f fd ps sp/\Meth K C m f/\Binds K fd ps []
def N0(c:CU X.K C)(D:sG X.prog X.w X.K X.mg X.base C k m ps sp)(hr:iK j X.A)(ho:PE X o ta)(ha:PA X (e::es) t)(hk:k<=j:=by decide)
  (g7:starEach (e::es) X.env=(false,eval e X.env)::starEach es X.env:=by rfl) (rX:(-31).any (·.1)=false:=by rfl)
  (ht:eval (-90) X.env=(do
   let ov<-eval o X.env
   standAt apos.atName
   let(f,first)<-holding [ov] (getMethod ov m pl)
   callWith pos f first (backTo pos (starEach (e::es) X.env)) (backToKw pos (keywordEach [] X.env))):=by rfl):
  PE X (-90) (W8 C m sp [] E0 ta t):=by
 obtain⟨f,fd,F,me,b⟩:=D;exact Zq ho c me F (hr.mono hk) b .nil Po ha g7 rX ht
def F6(hr:iK k A):A.units+101<cLine:=by have:=hr.un;lia
theorem gY{α:Type}[DecidableEq α]:∀{l m:List α},l.Nodup->(∀x∈l,x∈m)->l.length<=m.length
 |[],m,_,_=>aQ _
 |x::l,m,h,s=>by obtain⟨h1,h2⟩:=cV.mp h;have hx:=s x aA;have:=gY h2 λy hy=>(List.mem_erase_of_ne (show y≠x fromλe=>h1 (by rw[<-e];exact hy))).mpr (s y (aB _ hy));rw[List.length_erase_of_mem hx]at this;have hp:=List.length_pos_of_mem hx;rw[bA];lia
end
end L2
namespace L2
open PySem PySem.Spec PyProof.Rows
end L2
namespace AskP
section
variable{α:Type}[DecidableEq α]
abbrev Rw(α:Type):=List α
abbrev nG(α:Type):=α×List α
def qN(xs vs:List α)(t:α):α:=if t∈xs then vs.getD (xs.idxOf t) t else t
def image(xs vs ts:List α):List α:=ts.map (qN xs vs)
def qB(m:List (-65))(r:Rw α)(c:Int):List (-65):=if r∈m.map (·.1)then m.map (λx=>if x.1=r then(x.1,x.2+c)else x)else m++[(r,c)]
def narrowed(l:List (-65))(xs ts:List α):List (-65):=l.foldl (λm x=>qB m (image xs x.1 ts) x.2) []
def nq(r ts:List α):Bool:=decide (r.length=ts.length)&&(ts.zip r).all λx=>decide (r[ts.idxOf x.1]?=some x.2)
def atT(r ts:List α)(t:α):α:=r.getD (ts.idxOf t) t
def tails(rows:List (Rw α))(ts known fresh:List α)(key:Rw α):List (Rw α):=(rows.filter λr=>nq r ts&&decide (known.map (atT r ts)=key)).map λr=>fresh.map (atT r ts)
def longer(maps:List (-65))(rows:List (Rw α))(ts kept known fresh:List α):List (-65):=maps.flatMap λx=>(tails rows ts known fresh (image kept x.1 known)).map λt=>(x.1++t,x.2)
def Uq{r v:Rw α}{c:Int}:v∈(qB m r c).map (·.1)↔v∈m.map (·.1)\/v=r:=by
 unfold qB;split
 ·next h=>
  have e:(-98).map (·.1)=m.map (·.1):=by rw[aV];refine aU λx _=>?_;show(if x.1=r then(x.1,x.2+c)else x).1=x.1;split<;>rfl
  rw[e];exact{.inl,λz=>z.elim id λz=>z▸h}
 ·rw[aD,aP,uR,ax]
def Gv{r:Rw α}{c:Int}(h:(m.map (·.1)).Nodup):((qB m r c).map (·.1)).Nodup:=by
 unfold qB;split
 ·have e:(-98).map (·.1)=m.map (·.1):=by rw[aV];refine aU λx _=>?_;show(if x.1=r then(x.1,x.2+c)else x).1=x.1;split<;>rfl
  rw[e];exact h
 ·next q=>
  rw[aD,uR];exact fR.mpr {h,fD _ _,λa ha b hb=>by rw[ax.mp hb];exactλz=>q (by rw[<-show a=r from z];exact ha)}
def u3{xs ts:List α}{v:Rw α}:v∈(narrowed l xs ts).map (·.1)↔∃x∈l,v=image xs x.1 ts:=by
 unfold narrowed
 suffices H:∀m:List (-65),v∈(-82).map (·.1)↔v∈m.map (·.1)\/∃x∈l,v=image xs x.1 ts by
  rw[H []];exact{λh=>h.elim (λz=>by cases z) id,.inr}
 induction l with
 |nil=>intro m;exact{.inl,λh=>h.elim id λ⟨x,hx,_⟩=>by cases hx}
 |cons x l ih=>
  intro m;rw[jN,ih,Uq];constructor
  ·rintro((h|h)|⟨y,hy,h⟩)
   ·exact .inl h
   ·exact .inr ⟨x,aA,h⟩
   ·exact .inr {y,aB _ hy,h}
  ·rintro(h|⟨y,hy,h⟩)
   ·exact .inl (.inl h)
   ·rcases aH.mp hy with rfl|hy
    ·exact .inl (.inr h)
    ·exact .inr ⟨y,hy,h⟩
def lM{xs ts:List α}:((narrowed l xs ts).map (·.1)).Nodup:=by
 suffices H:∀m:List (-65),(m.map (·.1)).Nodup->((-82).map (·.1)).Nodup from H [] .nil
 induction l with
 |nil=>intro m h;exact h
 |cons x l ih=>intro m h;exact ih _ (Gv h)
def ZU{g:α->α}{t:α}(h:t∈xs):qN xs (xs.map g) t=g t:=by unfold qN;have:=dD h;rw[aG h,cY,aL,ao this,kW];rfl
def iT{g:α->α}(h:∀t∈ts,t∉xs->g t=t):image xs (xs.map g) ts=ts.map g:=by
 refine aU λt ht=>?_;by_cases c:t∈xs
 ·exact ZU c
 ·unfold qN;rw[aw c,h t ht c]
def Sy{g:α->α}:nq (ts.map g) ts=true:=by unfold nq;rw[af,aT rfl,jU,d8];intro x hx;obtain⟨i,hi,e⟩:=eO.mp hx;rw[w5,mD]at e;have m:x.1∈ts:=e▸gJ _;have:=dD m;refine aT ?_;rw[aL,ao this,kW,d7,<-e]
def OO{g:α->α}{t:α}(h:t∈ts):atT (ts.map g) ts t=g t:=by unfold atT;have:=dD h;rw[cY,aL,ao this,kW];rfl
def G0{r ts:List α}(h:nq r ts=true):ts.map (atT r ts)=r:=by unfold nq at h;rw[cZ,d8]at h;have hl:=aW h.1;refine qG (by rw[af,hl]) λi h1 h2=>?_;rw[mD];have q:=aW (h.2 (ts[i]'(hl▸h2),r[i]) (eO.mpr {i,by rw[jL];lia,by rw[w5]}));unfold atT;rw[cY,q];rfl
def hU(un:α->Bool)(db:α->List (Rw α))(S:List (nG α))(g:α->α):Prop:=(∀t,un t=false->g t=t)/\∀a∈S,a.2.map g∈db a.1
def Kp(un:α->Bool)(db:α->List (Rw α))(S:List (nG α))(kept:List α)(maps:List (-65)):Prop:=∀v,v∈maps.map (·.1)↔∃g,hU un db S g/\v=kept.map g
def Nl{un:α->Bool}{db:α->List (Rw α)}{S:List (nG α)}{maps:List (-65)}{a:nG α}(h:Kp un db S kept maps)
  (hf:∀t,t∈fresh↔t∈a.2/\un t=true/\t∉kept) (hk:known=a.2.filter (λt=>decide (t∉fresh))) (hu:∀t∈kept,un t=true) (hs:∀b∈S,∀t∈b.2,t∈a.2->un t=true->t∈kept) (h':∀t∈kept',t∈kept++fresh):
  Kp un db (a::S) kept' (narrowed (-58) (kept++fresh) kept'):=by
 have kn:∀t,t∈known↔t∈a.2/\t∉fresh:=λt=>by rw[hk,bQ,fQ]
 have key:∀g:α->α,(∀t,un t=false->g t=t)->image kept (kept.map g) known=known.map g:=λg hg=>iT λt ht c=>by
  have⟨z1,z2⟩:=(kn t).mp ht;cases e:un t with
  |false=>exact hg t e
  |true=>exact absurd ((hf t).mpr ⟨z1,e,c⟩) z2
 intro v;rw[u3];constructor
 ·rintro⟨x,hx,rfl⟩;obtain⟨y,hy,hx⟩:=fI.mp hx;obtain⟨tl,ht,rfl⟩:=ar.mp hx;obtain⟨r,hr,rfl⟩:=ar.mp ht;obtain⟨hr,hc⟩:=bQ.mp hr;rw[cZ,fQ]at hc;obtain⟨g,hg,eg⟩:=(h y.1).mp (ar.mpr ⟨y,hy,rfl⟩);rw[eg,key g hg.1]at hc
  let g2:α->α:=λt=>if t∈fresh then atT r a.2 t else g t
  have e1:kept.map g=kept.map g2:=aU λt ht=>by show g t=if t∈fresh then _ else g t;rw[aw λz=>((hf t).mp z).2.2 ht]
  have e2:fresh.map (atT r a.2)=fresh.map g2:=aU λt ht=>by show _=if t∈fresh then _ else g t;rw[aG ht]
  have e3:a.2.map g2=r:=by
   conv=>rhs;rw[<-G0 hc.1]
   refine aU λt ht=>?_;show(if t∈fresh then atT r a.2 t else g t)=_;by_cases c:t∈fresh
   ·rw[aG c]
   ·rw[aw c];exact(pN.mp hc.2 t ((kn t).mpr ⟨ht,c⟩)).symm
  refine{g2,{λt ht=>?_,λb hb=>?_},?_}
  ·show(if t∈fresh then atT r a.2 t else g t)=t;rw[aw λz=>by rw[((hf t).mp z).2.1]at ht;cases ht];exact hg.1 t ht
  ·rcases aH.mp hb with rfl|hb
   ·rw[e3];exact hr
   ·have:b.2.map g2=b.2.map g:=aU λt ht=>by show(if t∈fresh then _ else g t)=g t;rw[aw λz=>((hf t).mp z).2.2 (hs b hb t ht ((hf t).mp z).1 ((hf t).mp z).2.1)]
    rw[this];exact hg.2 b hb
  ·rw[eg,e1,e2,<-aD];exact iT λt ht c=>absurd (h' t ht) c
 ·rintro⟨g,hg,rfl⟩;obtain⟨y,hy,ey⟩:=ar.mp ((h (kept.map g)).mpr {g,({hg.1,λb hb=>hg.2 b (aB _ hb)}),rfl});refine{(y.1++fresh.map g,y.2),fI.mpr {y,hy,ar.mpr {fresh.map g,ar.mpr {a.2.map g,bQ.mpr {hg.2 a aA,?_},aU λt ht=>OO ((hf t).mp ht).1},rfl}},?_}
  ·rw[Sy,jU,ey,key g hg.1];exact aT (aU λt ht=>OO ((kn t).mp ht).1)
  ·rw[ey,<-aD];exact(iT λt ht c=>absurd (h' t ht) c).symm
end
section
variable{α:Type}[DecidableEq α]
def fits(un:α->Bool)(db:α->List (Rw α))(atoms:List (nG α))(known v:List α):Bool:=atoms.all λa=>!decide (a.2.filter (λt=>un t&&decide (t∉known))=[])||decide (image known v a.2∈db a.1)
def LV{un:α->Bool}{atoms:List (nG α)}{known v:List α}:fits un db atoms known v=true↔∀a∈atoms,(∀t∈a.2,un t=true->t∈known)->image known v a.2∈db a.1:=by
 unfold fits;rw[d8];refine fM λa=>fM λ_=>?_;have e:(a.2.filter (λt=>un t&&decide (t∉known))=[])↔∀t∈a.2,un t=true->t∈known:=by rw[List.filter_eq_nil_iff];refine fM λt=>fM λ_=>?_;rw[cZ,fQ];exact{λh u=>v3 λz=>h ⟨u,z⟩,λh z=>z.2 (h z.1)}
 rw[Bool.or_eq_true,DD,xg,fQ,e];exact{λh q=>h.elim (λz=>absurd q z) id,λh=>Decidable.byCases (λq=>.inr (h q)) .inl}
def mh(un:α->Bool)(db:α->List (Rw α))(atoms:List (nG α))(us vals:List α):Nat->List (List α)
 |0=>[[]].filter (fits un db atoms (us.take 0))
 |p+1=>((mh un db atoms us vals p).flatMap λv=>vals.map λx=>v++[x]).filter (fits un db atoms (us.take (p+1)))
def SG{us v:List α}(h:t∈us.take p)(hv:v.length=p)(hp:p<=us.length)(x:α):qN (us.take (p+1)) (v++[x]) t=qN (us.take p) v t:=by
 have l:=dD h;have e:(us.take (p+1)).idxOf t=(us.take p).idxOf t:=by
  conv=>lhs;rw[<-dM p (us.take (p+1)),List.take_take,jI (dZ p)]
  rw[List.idxOf_append,aG h]
 unfold qN;rw[aG h,aG ((ve us (dZ p)) h),e,cY,cY,cN];rw[aR]at l;lia
theorem Av(hu:∀t∈us,un t=true):∀(p:Nat)(v:List α),p<=us.length->(v∈mh un db atoms us vals p↔v.length=p/\(∀x∈v,x∈vals)/\∀a∈atoms,(∀t∈a.2,un t=true->t∈us.take p)->image (us.take p) v a.2∈db a.1)
 |0,v,_=>by show v∈[[]].filter _↔_;rw[bQ,ax,LV];exact{λ⟨h1,h2⟩=>{by rw[h1];rfl,(λx hx=>by rw[h1]at hx;cases hx),h2},λ⟨h1,_,h2⟩=>{sM h1,h2}}
 |p+1,v,hp=>by
  show v∈(((mh un db atoms us vals p).flatMap λv=>vals.map λx=>v++[x]).filter _)↔_;rw[bQ,LV,fI];constructor
  ·rintro⟨⟨w,hw,hv⟩,h2⟩;obtain⟨x,hx,rfl⟩:=ar.mp hv;obtain⟨w1,w2,w3⟩:=(Av hu p w ∅).mp hw;refine{by rw[aC,w1];rfl,λy hy=>?_,h2};rcases aP.mp hy with hy|hy
   ·exact w2 y hy
   ·rw[ax.mp hy];exact hx
  ·rintro⟨h1,h2,h3⟩;have ne:v≠[]:=λz=>by rw[z]at h1;cases h1
   have ev:=tY ne;have lv:v.dropLast.length=p:=by rw[List.length_dropLast,h1];rfl
   refine{{v.dropLast,(Av hu p _ ∅).mpr {lv,λx hx=>h2 x (List.dropLast_subset v hx),λa ha q=>?_},ar.mpr {v.getLast ne,h2 _ (List.getLast_mem ne),ev}},h3};have:=h3 a ha λt ht u=>ve us (dZ p) (q t ht u);rw[<-ev]at this;have e:image (us.take (p+1)) (v.dropLast++[v.getLast ne]) a.2=image (us.take p) v.dropLast a.2:=aU λt ht=>by
    cases c:un t with
    |true=>exact SG (q t ht c) lv ∅ _
    |false=>
     have n1:∀n,t∉us.take n:=λn z=>by rw[hu t (kh z)]at c;cases c
     unfold qN;rw[aw (n1 _),aw (n1 _)]
   rw[e]at this;exact this
def UC(hu:∀t,t∈us↔un t=true/\∃a∈atoms,t∈a.2)(nd:us.Nodup)(hv:∀a∈atoms,∀r∈db a.1,∀x∈r,x∈vals)(hh:∀t∈head,un t=true->t∈us)(row:Rw α):
  (∃v∈mh un db atoms us vals us.length,row=image us v head)↔∃g,hU un db atoms g/\row=head.map g:=by
 have m:=Av (db:=db) (atoms:=atoms) (vals:=vals) (λt ht=>((hu t).mp ht).1) us.length;rw[bg]at m;constructor
 ·rintro⟨v,h,rfl⟩;obtain⟨h1,h2,h3⟩:=(m v (ak _)).mp h;refine{qN us v,{λt ht=>?_,λa ha=>h3 a ha λt ht u=>(hu t).mpr ⟨u,a,ha,ht⟩},rfl};unfold qN;rw[aw λz=>by rw[((hu t).mp z).1]at ht;cases ht]
 ·rintro⟨g,hg,rfl⟩;have im:∀ts:List α,(∀t∈ts,un t=true->t∈us)->image us (us.map g) ts=ts.map g:=λts h=>iT λt ht c=>by
   cases e:un t with
   |false=>exact hg.1 t e
   |true=>exact absurd (h t ht e) c
  refine{us.map g,(m _ (ak _)).mpr {af ..,λx hx=>?_,λa ha q=>by rw[im a.2 q];exact hg.2 a ha},(im head hh).symm};obtain⟨t,ht,rfl⟩:=ar.mp hx;obtain⟨_,a,ha,wI⟩:=(hu t).mp ht;exact hv a ha _ (hg.2 a ha) _ (ar.mpr ⟨t,wI,rfl⟩)
def hU.of{un:α->Bool}{S T:List (nG α)}{g:α->α}(h:hU un db S g)(e:∀a∈T,a∈S):hU un db T g:={h.1,λa ha=>h.2 a (e a ha)}
def ZR(h:Kp un db S kept maps)(hh:∀t∈head,un t=true->t∈kept)(row:Rw α):row∈(narrowed maps kept head).map (·.1)↔∃g,hU un db S g/\row=head.map g:=by
 have im:∀g,hU un db S g->image kept (kept.map g) head=head.map g:=λg hg=>iT λt ht c=>by
  cases e:un t with
  |false=>exact hg.1 t e
  |true=>exact absurd (hh t ht e) c
 rw[u3];constructor
 ·rintro⟨x,hx,rfl⟩;obtain⟨g,hg,e⟩:=(h x.1).mp (ar.mpr ⟨x,hx,rfl⟩);exact{g,hg,by rw[e,im g hg]}
 ·rintro⟨g,hg,rfl⟩;obtain⟨y,hy,ey⟩:=ar.mp ((h _).mpr ⟨g,hg,rfl⟩);exact{y,hy,by rw[ey,im g hg]}
end
section
variable{α:Type}[DecidableEq α]
def words(A:List α):Nat->List (List α)
 |0=>[[]]
 |k+1=>(words A k).flatMap λv=>A.map λx=>x::v
theorem Ih:∀{k:Nat}{v:List α},v.length=k->(∀x∈v,x∈A)->v∈words A k
 |0,v,h,_=>sM h▸ax.mpr rfl
 |k+1,x::v,h,q=>fI.mpr {v,Ih (Nat.succ.inj h) λy hy=>q y (aB _ hy),ar.mpr {x,q x aA,rfl}}
theorem Ik{A:List α}:∀k,(words A k).length=A.length^k
 |0=>rfl
 |k+1=>by
  have e:∀l:List (List α),(l.flatMap λv=>A.map λx=>x::v).length=l.length*A.length:=λl=>by
   induction l with
   |nil=>simp
   |cons v l ih=>rw[pO,aC,ih,af,bA,Nat.succ_mul,Nat.add_comm]
  show((words A k).flatMap _).length=_;rw[e,Ik k,kF]
def gC{A:List α}{l:List (List α)}(nd:l.Nodup)(h:∀v∈l,v.length=k/\∀x∈v,x∈A):l.length<=A.length^k:=by rw[<-Ik k];exact L2.gY nd λv hv=>Ih (h v hv).1 (h v hv).2
structure AskI(un:α->Bool)(db:α->List (Rw α))(atoms:List (nG α))(head:List α)(S left:List (nG α))(kept:List α)(maps:List (-65)):Prop where
 kp:Kp un db S kept maps
 at_:∀a,a∈atoms↔a∈S\/a∈left
 kt:∀t,t∈kept↔un t=true/\(∃b∈S,t∈b.2)/\(t∈head\/∃b∈left,t∈b.2)
 nd:kept.Nodup
 md:(maps.map (·.1)).Nodup
variable{un:α->Bool}{db:α->List (Rw α)}{atoms:List (nG α)}{head:List α}{S left:List (nG α)}{kept:List α}{maps:List (Rw α×Int)}
def AskI.start:AskI un db atoms head [] atoms [] [([],1)]:={λv=>{λh=>{id,{λ_ _=>rfl,λa ha=>by cases ha},ax.mp h},λ⟨_,_,e⟩=>ax.mpr e},λa=>{.inr,λh=>h.elim (λz=>by cases z) id},λt=>{λh=>(by cases h),λ⟨_,⟨b,hb,_⟩,_⟩=>(by cases hb)},.nil,fD _ _}
def AskI.len(h:AskI un db atoms head S left kept maps)(hx:x∈maps):x.1.length=kept.length:=by obtain⟨g,_,e⟩:=(h.kp x.1).mp (ar.mpr ⟨x,hx,rfl⟩);rw[e,af]
theorem AskI.vals{vals:List α}(h:AskI un db atoms head S left kept maps)(hv:∀a∈atoms,∀r∈db a.1,∀x∈r,x∈vals)(hx:x∈maps):∀y∈x.1,y∈vals:=λy hy=>by obtain⟨g,hg,e⟩:=(h.kp x.1).mp (ar.mpr ⟨x,hx,rfl⟩);rw[e]at hy;obtain⟨t,ht,rfl⟩:=ar.mp hy;obtain⟨_,⟨b,hb,XW⟩,_⟩:=(h.kt t).mp ht;exact hv b ((h.at_ b).mpr (.inl hb)) _ (hg.2 b hb) _ (ar.mpr ⟨t,XW,rfl⟩)
def AskI.step(h:AskI un db atoms head S (l1++a::l2) kept maps)(hf:∀t,t∈fresh↔t∈a.2/\un t=true/\t∉kept)(fn:fresh.Nodup)(hk:known=a.2.filter (λt=>decide (t∉fresh)))
  (hn:∀t,need t=true↔t∈head\/∃b∈l1++l2,t∈b.2):
  AskI un db atoms head (a::S) (l1++l2) ((kept++fresh).filter need) (narrowed (-58) (kept++fresh) ((kept++fresh).filter need)):=by
 have mid:∀b,b∈l1++a::l2↔b=a\/b∈l1++l2:=λb=>by rw[aP,aH,aP];exact{λh=>h.elim (λz=>.inr (.inl z)) λh=>h.elim .inl λz=>.inr (.inr z),λh=>h.elim (λz=>.inr (.inl z)) λh=>h.elim .inl λz=>.inr (.inr z)}
 refine{Nl h.kp hf hk (λt ht=>((h.kt t).mp ht).1) (λb hb t ht wI u=>(h.kt t).mpr {u,⟨b,hb,ht⟩,.inr {a,(mid a).mpr (.inl rfl),wI}}) λt ht=>(bQ.mp ht).1,λb=>?_,λt=>?_,?_,lM}
 ·rw[h.at_ b,mid b,aH];exact{λh=>h.elim (λz=>.inl (.inr z)) λh=>h.elim (λz=>.inl (.inl z)) .inr,λh=>h.elim (λh=>h.elim (λz=>.inr (.inl z)) .inl) λz=>.inr (.inr z)}
 ·rw[bQ,aP,hn,hf,h.kt];constructor
  ·rintro⟨⟨u,⟨b,hb,ht⟩,_⟩|⟨ht,u,_⟩,q⟩
   ·exact{u,{b,aB _ hb,ht},q}
   ·exact{u,⟨a,aA,ht⟩,q}
  ·rintro⟨u,⟨b,hb,ht⟩,q⟩;refine{?_,q};rcases aH.mp hb with rfl|hb
   ·by_cases c:t∈kept
    ·exact .inl ((h.kt t).mp c)
    ·exact .inr {ht,u,λz=>c ((h.kt t).mpr z)}
   ·exact .inl {u,⟨b,hb,ht⟩,(q.imp id λ⟨b,hb,ht⟩=>{b,(mid b).mpr (.inr hb),ht})}
 ·refine jO fU (fR.mpr {h.nd,fn,λx hx y hy e=>?_});subst e;exact((hf x).mp hy).2.2 hx
def AskI.end_(h:AskI un db atoms head S [] kept maps)(hh:∀t∈head,un t=true->∃a∈atoms,t∈a.2)(row:Rw α):row∈(narrowed maps kept head).map (·.1)↔∃g,hU un db atoms g/\row=head.map g:=by
 have e:∀a,a∈atoms↔a∈S:=λa=>by rw[h.at_ a];exact{λz=>z.elim id (λz=>by cases z),.inl}
 rw[ZR h.kp λt ht u=>(h.kt t).mpr {u,let⟨a,ha,q⟩:=hh t ht u;{a,(e a).mp ha,q},.inl ht}];exact{λ⟨g,hg,q⟩=>{g,hg.of λa ha=>(e a).mp ha,q},λ⟨g,hg,q⟩=>{g,hg.of λa ha=>(e a).mpr ha,q}}
end
end AskP
namespace L2
open PySem PySem.Spec PyProof.Rows
section
variable{K:Frag}{a b:Addr}{xs zs:Aam}{fr:List Nat}{tt:TT}{te:TE}{Z:St}{H1:Hp}{R:Addr->Aam->Hp->Prop}
def QA(Pv:Nat->Aam->Hp->Prop)(hx:xs.length<sizeLine)(le:xs.length=zs.length)(h0:Pv 0 [] H1)(hl:∀i ys H,i<=xs.length->Pv i ys H->(bC K H a xs/\bC K H b zs)/\ys.length<=i)
  (hs:∀(i:Nat)(x z:V)(p:Addr)(ys:Aam)(H:Hp)(N:Aam->Hp->Prop),xs[i]?=some x->zs[i]?=some z->Pv i ys H->H p=none->(∀fW H',Pv (i+1) fW H'->N fW H')->
   tt (some x::some z::slotsOf fr Z) (upd H p (.tup [x,z])) λt H4=>if t=true then te (some x::some z::slotsOf fr Z) H4 (-97)else N ys H4)
  (hd:∀ys H,Pv xs.length ys H->∀l,H l=none->R l ys H):CS (Itz K a b) 2 fr (Jv K) tt te Z H1 R:=by
 refine{λi m ys H=>m=xs.length -i/\i<=xs.length/\Pv i ys H,{xs.length,by simp,aQ _,h0},?_};rintro i m ys H ⟨rfl,hi,p⟩;obtain⟨⟨q1,q2⟩,hy⟩:=hl i ys H hi p;by_cases cE:i<xs.length
 ·refine .inr {{xs,zs,xs[i],zs[i]'∅,q1,q2,ao cE,ao _},by lia,?_};rintro v H3 ⟨r,u,z,rfl,hr,rfl,y1,y2⟩ own ho;have h:=hs i u z r ys H (λfW H'=>∃m',m'<xs.length -i/\m'=xs.length -(i+1)/\i+1<=xs.length/\Pv (i+1) fW H') (y1 xs q1) (y2 zs q2) p hr λfW H' p'=>{_,by lia,rfl,cE,p'};exact GV ho rfl (bC.of au) {[some u,some z],rfl,rfl,h}
 ·have e:i=xs.length:=by lia
  subst e;exact .inl {⟨xs,q1,rfl⟩,by lia,hd ys H p}
end
end L2
namespace L2
open PySem PySem.Spec PyProof.Rows PySem.W
section
variable{X:Cx}
inductive ND(K:Frag)(x:V)(vs:Aam)(H:Hp)(Q:VK):Prop
 |mk (l:Addr) (zs:Aaf) (z:Str) (j:Nat) (_:x=.ref l) (_:vs=[.str z]) (_:bC K H l (zs.map V.str)) (_:zs[j]?=some z) (_:(∀m,m<j->zs[m]?≠some z)) (_:Q (.int (j:Int)) H)
def R6:Uw X "tuple.index" (ND X.K):=by
 intro pins s Z H x vs v us Q I rx rv h;obtain⟨l,zs,z,j,rfl,rfl,hH,hj,Cd,q⟩:=h;cases rx;obtain⟨u,rfl,ru⟩:=rv.one;obtain⟨t,rfl⟩:=ru;obtain⟨aS,r,ht,hl⟩:=I.tuple hH;obtain⟨o,ho,hc,n,hd⟩:=ht;have lz:=r.length;rw[af]at lz;have eat:∀m:Nat,m<aS.length->∃y t',aS[m]?=some (.str y t')/\zs[m]?=some y:=λm hm=>by
  have hz:m<zs.length:=by lia
  obtain⟨u',qO,t',rfl⟩:=r.get (i:=m) (x:=.str zs[m]) (by rw[aL,ao hz];rfl);exact{zs[m],t',qO,ao hz}
 have jY:j<aS.length:=by have:=(aq.mp hj).1;lia
 refine bp F.slot_tuple_index ⟨_,ho,hc⟩ F.entry_tuple_index ?_ (F.args_tuple_index_2 _ _);unfold Builtin.«tuple.index»;refine ae (ag ?_);refine ae (ae (cu ho hd (ag ?_)));refine ae (ag (ae (ag ?_)));dsimp only;rw[Nat.min_self,mX];have hsz:([0:aS.toArray.size]:Std.Legacy.Range).size=aS.length:=by simp[Std.Legacy.Range.size]
 refine ae (dh (je _ (λl b s'=>∃m,l=List.range' m (aS.length -m) 1/\m<=j/\b=(none,())/\s'=s) (λb s'=>∃tk,b=(some (PySem.Fin.done (Flow.ret (.int j tk))),())/\s'={s with toks:=s.toks+1}) ?_ ?_ _ _ {0,?_,aQ _,rfl,rfl}) ?_ λ_ _ e=>e)
 ·rintro x rest b s' ⟨m,el,mj,rfl,rfl⟩;obtain⟨k,hk⟩:∃k,aS.length -m=k+1:={aS.length -m -1,by lia};rw[hk,List.range'_succ]at el;obtain⟨rfl,rfl⟩:=List.cons.inj el;obtain⟨y,t',e1,e2⟩:=eat x ∅;have e3:aS.toArray[x]?=some (.str y t'):=by rw[<-e1];simp
  rw[e3];refine ae (ya.eq_str ?_);by_cases e:x=j
  ·subst e;rw[hj]at e2;cases e2;rw[aT rfl];exact ae (ae (DF (ag (ag ⟨_,rfl,rfl⟩))))
  ·have ne:y≠z:=λq=>Cd x ∅ (by rw[e2,q]);rw[bB ne];exact ag {x+1,by rw[show aS.length -(x+1)=k by lia],by lia,rfl,rfl}
 ·rintro b s' ⟨m,el,mj,rfl,rfl⟩;have:aS.length -m=0:=by have:=bV List.length el;simpa using this.symm
  lia
 ·show List.range' 0 ([0:aS.toArray.size]:Std.Legacy.Range).size 1=_;rw[hsz];rfl
 ·rintro b s' ⟨tk,rfl,rfl⟩;exact ag {_,rfl,{.int _,H,I.tok _,⟨_,rfl⟩,q}}
def Au{K:Frag}(h:X.K=K:=by rfl):Uw X "tuple.index" (ND K):=h▸R6
end
end L2
namespace L2
open PySem PySem.Spec PyProof.Rows
section
variable{P:Program}{w:World}{A:Around}{E:Aac}{v:Shared}
structure Zu(h:Heap)(z ti to i1 i2 l1 l2 T:Addr)(k:Nat):Prop where
 self:∃b,h.get? z=some (zP (rawInt T) b ti to)
 live:∃o,h.get? T=some o
 ins:IsPair h ti (.ref i1) (.ref i2)
 w1:h.IsTupleIter i1 l1 k
 w2:h.IsTupleIter i2 l2 k
def YK{Q:Aac}(D:ZipApart z ti to i1 i2 l1 l2)(nT:T≠z)(g:Zu v.heap z ti to i1 i2 l1 l2 T k)
  (t1:v.heap.IsTuple l1 xs) (t2:v.heap.IsTuple l2 ys) (ex:xs[k]?=some x) (ey:ys[k]?=some y)
  (q:∀h',Zu h' z ti to i1 i2 l1 l2 T (k+1)->IsPair h' v.heap.objs.size x y->(∀c o,c≠z->c≠i1->c≠i2->v.heap.get? c=some o->h'.get? c=some o)->Q (-81) {v with heap:=h'}):
  wpAny (-25) A (-45) (λfin s'=>∃u,fin=.done (.ret u)/\Q u s') E v:=by
 obtain⟨⟨b,gs⟩,gT,gi,g1,g2⟩:=g;show wpAny _ _ (field (.ref z) 2>>=_) _ _ _;refine ae (-37);refine ae (-37);refine ae (cu gi rfl ?_);refine ae (MW gs gT λp1 z1 r1=>?_);refine ae ?_;refine ae (ae (bS ?_));refine ae (vO (jB g1 r1 D.i1z) (oQ t1 r1 D.l1z) ex λp2 k2 r2=>ag ?_);refine ag ?_;refine ae (ae (bS ?_));refine ae (vO (jB (jB g2 r1 D.i2z) r2 D.i12.symm) (oQ (oQ t2 r1 D.l2z) r2 D.l2i1) ey λp3 k3 r3=>ag ?_);refine ag (ag ?_);show wpAny _ _ (newTuple [x,y]>>=_) _ _ _;refine ae (lG (ag {_,rfl,?_}));have sz:p3.objs.size=v.heap.objs.size:=by rw[r3.1,r2.1,r1.1]
 have st:∀c o,c≠z->c≠i1->c≠i2->v.heap.get? c=some o->p3.get? c=some o:=λc o m1 m2 m3 e=>r3.extBut _ _ m3 (r2.extBut _ _ m2 (r1.extBut _ _ m1 e));rw[sz];obtain⟨oa,ja,ra⟩:=(jB k2 r3 D.i12);obtain⟨ob,jb,rb⟩:=k3;obtain⟨oT,gT⟩:=gT;obtain⟨o1,e1,c1,_⟩:=g1;obtain⟨o2,e2,c2,_⟩:=g2;refine q _ {{true,ah _ (r3.extBut _ _ D.i2z.symm (r2.extBut _ _ D.i1z.symm z1))},?_,ah _ (st _ _ D.TIz D.TIi1 D.TIi2 gi),{oa,ah _ ja,ra},{ob,ah _ jb,rb}} ?_ λc o m1 m2 m3 e=>ah _ (st c o m1 m2 m3 e)
 ·by_cases n1:T=i1
  ·rw[n1];exact{oa,ah _ ja}
  ·by_cases n2:T=i2
   ·rw[n2];exact{ob,ah _ jb}
   ·exact{oT,ah _ (st _ _ nT n1 n2 gT)}
 ·have:=aE p3 (o:={cls:=.type "tuple",data:=.seq #[x,y]}) rfl;rw[sz]at this;exact this
def aar(hh:A.handled=none)(D:ZipApart z ti to i1 i2 l1 l2)(g:Zu v.heap z ti to i1 i2 l1 l2 T k)
  (t1:v.heap.IsTuple l1 xs) (ex:xs[k]?=none)
  (q:∀h' e,(∀c o,c≠z->c≠i1->c≠i2->v.heap.get? c=some o->h'.get? c=some o)->(∃o,h'.get? e=some o/\o.cls=.type "StopIteration")->E (.ref e) {v with heap:=h'}):
  wpAny (-25) A (-45) Q E v:=by
 obtain⟨⟨b,gs⟩,gT,gi,g1,g2⟩:=g;show wpAny _ _ (field (.ref z) 2>>=_) _ _ _;refine ae (-37);refine ae (-37);refine ae (cu gi rfl ?_);refine ae (MW gs gT λp1 z1 r1=>?_);refine ae ?_;refine ae (ae (bS ?_));exact ae (zb hh (jB g1 r1 D.i1z) (oQ t1 r1 D.l1z) ex λp2 e r2 he=>q p2 e (λc o m1 m2 m3 x=>r2 _ _ m2 (r1.extBut _ _ m1 x)) he)
def YJ(D:ZipApart z ti to i1 i2 l1 l2)(nT:T≠z)(g:Zu v.heap z ti to i1 i2 l1 l2 T k)
  (t1:v.heap.IsTuple l1 xs) (t2:v.heap.IsTuple l2 ys) (ex:xs[k]?=some x) (ey:ys[k]?=some y)
  (q:∀h',Zu h' z ti to i1 i2 l1 l2 T (k+1)->IsPair h' v.heap.objs.size x y->(∀c o,c≠z->c≠i1->c≠i2->v.heap.get? c=some o->h'.get? c=some o)->Q (some (-81)) {v with heap:=h'}):
  wpAny (-25) A (pyNext (.ref z)) Q E v:=by
 obtain⟨b,gs⟩:=g.self;have ty:v.TypeIs (.ref z) "zip":=⟨_,gs,rfl⟩;exact ae (d0 (wpAny_callSpecial?_slot ty eT (bp eT ty kG (YK D nT g t1 t2 ex ey λh' b1 b2 b3=>ag (q h' b1 b2 b3)) (j8 _))))
def YI(hh:A.handled=none)(D:ZipApart z ti to i1 i2 l1 l2)(g:Zu v.heap z ti to i1 i2 l1 l2 T k)
  (t1:v.heap.IsTuple l1 xs) (ex:xs[k]?=none) (q:∀h',(∀c o,c≠z->c≠i1->c≠i2->v.heap.get? c=some o->h'.get? c=some o)->Q none {v with heap:=h'}):
  wpAny (-25) A (pyNext (.ref z)) Q E v:=by
 obtain⟨b,gs⟩:=g.self;have ty:v.TypeIs (.ref z) "zip":=⟨_,gs,rfl⟩;refine ae (d0 (wpAny_callSpecial?_slot ty eT (bp eT ty kG (aar hh D g t1 ex λh' e hk he=>?_) (j8 _))));obtain⟨o,ho,hc⟩:=he;exact ae (gu ⟨o,ho,hc⟩ kz (ag (q _ hk)))
variable{prog:Program}
def Z6{h0:Heap}(hA:A.handled=none)(D:ZipApart z ti to i1 i2 l1 l2)(km:h0.get? d=none)(n1:d≠z)(n2:d≠i1)(n3:d≠i2)(n4:d≠ti)
  (lO:h0.IsTuple l1 us.toArray) (g8:h0.IsTuple l2 vs.toArray) (hp:Paired (-66) us pairs) (hv:vs=pairs.map (·.2)) (hsz:pairs.length<=sizeLine) (g:Array GenState) (dr:Drawn) (os:OsState)
  (k:∀h' tk,(∀b o,b≠z->b≠to->b≠i1->b≠i2->h0.get? b=some o->h'.get? b=some o)->h'.DictOf (bW prog w) d (merged [] pairs)->R (.ok (.ret .none)) ⟨h',g,dr,tk,os⟩):
  ∀(m i:Nat)(h:Heap)(tk:Nat)(T:Addr),us.length -i=m->i<=us.length->(∀b o,b≠z->b≠to->b≠i1->b≠i2->h0.get? b=some o->h.get? b=some o)->T≠z->Zu h z ti to i1 i2 l1 l2 T i->h.DictOf (bW prog w) d (merged [] (pairs.take i))->
   codeAny (-5) A (.builtin "dict.update.loop" {[.ref d,.ref z,rawInt i,.none],[]}) R ⟨h,g,dr,tk,os⟩:=by
 intro m;have XH:∀(h:Heap),(∀b o,b≠z->b≠to->b≠i1->b≠i2->h0.get? b=some o->h.get? b=some o)->h.IsTuple l1 us.toArray/\h.IsTuple l2 vs.toArray:=λh kp=>by obtain⟨o1,e1,r1⟩:=lO;obtain⟨o2,e2,r2⟩:=g8;exact{{o1,kp _ _ D.l1z D.l1TO D.l1i1 D.l1i2 e1,r1},{o2,kp _ _ D.l2z D.l2TO D.l2i1 D.l2i2 e2,r2}}
 induction m with
 |zero=>
  intro i h tk T em hi kp nT hz hd;have ei:i=us.length:=by lia
  refine eM AE ?_;refine ae (YI (show(A.under _).handled=none from hA) D hz (XH h kp).1 (by rw[ei];simp) λh' hs=>?_);refine ae (ag (ag ?_));rw[ei,(bh hp),bg]at hd;obtain⟨o,es,ep,e,r⟩:=hd;exact k h' _ (λb o m1 m2 m3 m4 hb=>hs b o m1 m3 m4 (kp b o m1 m2 m3 m4 hb)) {o,es,ep,hs _ _ n1 n2 n3 e,r}
 |succ m ih=>
  intro i h tk T em hi kp nT hz hd;have cE:i<us.length:=by lia
  obtain⟨x,hx⟩:∃x,us[i]?=some x:={_,ao cE};obtain⟨kv,lP,hku⟩:=Paired.at' hp hx;refine eM AE ?_;obtain⟨t1,t2⟩:=XH h kp;refine ae (YJ D nT hz t1 t2 (by simpa using hx) (by simpa using(by rw[hv,aL,lP];rfl)) λh1 vt pr D7=>?_);obtain⟨od,es,ep,ed,rd⟩:=hd;refine ae (bS (ae (wpAny_tryCatch ?_)));refine ae (gZ ⟨_,pr,rfl⟩ ?_);refine ae (cu pr rfl (ag ?_));have lm:(merged [] (pairs.take i)).length<=sizeLine:=by have e1:=merged_length_le [] (pairs.take i);rw[aR]at e1;simp only[fA]at e1;lia
  refine bS (Bk hku ({od,es,ep,D7 _ _ n1 n2 n3 ed,rd}) λh2 hd2 ma=>?_);refine ag {oM _ (-3),?_};have st:∀b o,b≠d->h1.get? b=some o->h2.get? b=some o:=λb o n e=>(ma.2 b n).trans e;have wG:=λb o m1 m2 m3 m4 hb=>st b o (λe=>by rw[e,km]at hb;cases hb) ((λb o m1 m2 m3 m4 hb=>D7 b o m1 m3 m4 (kp b o m1 m2 m3 m4 hb)) b o m1 m2 m3 m4 hb);obtain⟨⟨b,gs⟩,⟨oT,gT⟩,gi,⟨oa,ja,ra⟩,⟨ob,jb,rb⟩⟩:=vt;have zk:Zu h2 z ti to i1 i2 l1 l2 T (i+1):=by
   refine{{b,st _ _ (cB n1) gs},?_,st _ _ (cB n4) gi,{oa,st _ _ (cB n2) ja,ra},{ob,st _ _ (cB n3) jb,rb}};by_cases nd:T=d
   ·obtain⟨o',_,_,e',_⟩:=hd2;rw[nd];exact⟨o',e'⟩
   ·exact{oT,st _ _ nd gT}
  exact ih (i+1) h2 _ T ∅ cE wG nT zk (by rw[merged_take_succ [] pairs i kv lP];exact hd2)
def Ww{h0 h:Heap}(hA:A.handled=none)(D:ZipApart z ti to i1 i2 l1 l2)(km:h0.get? d=none)(n1:d≠z)(n2:d≠i1)(n3:d≠i2)(n4:d≠ti)(n5:d≠to)
  (lO:h0.IsTuple l1 us.toArray) (g8:h0.IsTuple l2 vs.toArray) (hp:Paired (-66) us pairs) (hv:vs=pairs.map (·.2)) (hsz:pairs.length<=sizeLine) (h1l:1<=us.length) (g:Array GenState) (dr:Drawn) (os:OsState)
  (k:∀h' tk,(∀b o,b≠z->b≠to->b≠i1->b≠i2->h0.get? b=some o->h'.get? b=some o)->h'.DictOf (bW prog w) d (merged [] pairs)->R (.ok (.ret .none)) ⟨h',g,dr,tk,os⟩)
  (kp:∀b o,b≠z->b≠to->b≠i1->b≠i2->h0.get? b=some o->h.get? b=some o) (hz:IsZip h z ti to .none) (hi:IsPair h ti (.ref i1) (.ref i2)) (ho:∃a b,IsPair h to a b) (j1:h.IsTupleIter i1 l1 0) (j2:h.IsTupleIter i2 l2 0) (hd:h.DictOf (bW prog w) d []):
   codeAny (-5) A (.builtin "dict.update.loop" {[.ref d,.ref z,rawInt 0,.none],[]}) R ⟨h,g,dr,tk,os⟩:=by
 obtain⟨x,hx⟩:∃x,us[0]?=some x:={_,ao ∅};obtain⟨kv,lP,hku⟩:=Paired.at' hp hx;have t1:h.IsTuple l1 us.toArray:=by obtain⟨o1,e1,r1⟩:=lO;exact{o1,kp _ _ D.l1z D.l1TO D.l1i1 D.l1i2 e1,r1}
 have t2:h.IsTuple l2 vs.toArray:=by obtain⟨o2,e2,r2⟩:=g8;exact{o2,kp _ _ D.l2z D.l2TO D.l2i1 D.l2i2 e2,r2}
 refine eM AE ?_;obtain⟨a,b,ho⟩:=ho;refine ae (MV {D.TITO,D.i12,D.l1TO,D.l2TO} {hz,hi,⟨a,b,ho⟩,j1,j2} t1 t2 (by simpa using hx) (by simpa using(by rw[hv,aL,lP];rfl)) λh1 ⟨a1,_,_,a3,a4⟩ a5 D7=>?_);obtain⟨od,es,ep,ed,rd⟩:=hd;refine ae (bS (ae (wpAny_tryCatch ?_)));refine ae (gZ ⟨_,a5,rfl⟩ ?_);refine ae (cu a5 rfl (ag ?_));refine bS (Bk hku ({od,es,ep,D7 _ _ n1 n5 n2 n3 ed,rd}) λh2 hd2 ma=>?_);refine ag {oM _ (-3),?_};have st:∀b o,b≠d->h1.get? b=some o->h2.get? b=some o:=λb o n e=>(ma.2 b n).trans e;obtain⟨oa,ja,ra⟩:=a3;obtain⟨ob,jb,rb⟩:=a4;have zk:Zu h2 z ti to i1 i2 l1 l2 h.objs.size 1:=by
  refine{{false,st _ _ (cB n1) a1},?_,st _ _ (cB n4) (D7 _ _ D.TIz D.TITO D.TIi1 D.TIi2 hi),{oa,st _ _ (cB n2) ja,ra},{ob,st _ _ (cB n3) jb,rb}};by_cases nd:h.objs.size=d
  ·obtain⟨o',_,_,e',_⟩:=hd2;rw[nd];exact⟨o',e'⟩
  ·exact{_,st _ _ nd a5}
 exact Z6 hA D km n1 n2 n3 n4 lO g8 hp hv hsz g dr os k (us.length -1) 1 h2 _ h.objs.size rfl ∅ (λb o m1 m2 m3 m4 hb=>st b o (λe=>by rw[e,km]at hb;cases hb) (D7 b o m1 m2 m3 m4 (kp b o m1 m2 m3 m4 hb))) (bD (aF hz)) zk (by rw[merged_take_succ [] pairs 0 kv lP];exact hd2)
def acy{h0 h:Heap}(hA:A.handled=none)(D:ZipApart z ti to i1 i2 l1 l2)(km:h0.get? d=none)(n1:d≠z)(n2:d≠i1)(n3:d≠i2)(n4:d≠ti)(n5:d≠to)
  (lO:h0.IsTuple l1 us.toArray) (g8:h0.IsTuple l2 vs.toArray) (hp:Paired (-66) us pairs) (hv:vs=pairs.map (·.2)) (hsz:pairs.length<=sizeLine) (g:Array GenState) (dr:Drawn) (os:OsState)
  (k:∀h' tk,(∀b o,b≠z->b≠to->b≠i1->b≠i2->h0.get? b=some o->h'.get? b=some o)->h'.DictOf (bW prog w) d (merged [] pairs)->R (.ok (.ret .none)) ⟨h',g,dr,tk,os⟩)
  (kp:∀b o,b≠z->b≠to->b≠i1->b≠i2->h0.get? b=some o->h.get? b=some o) (hz:IsZip h z ti to .none) (hi:IsPair h ti (.ref i1) (.ref i2)) (ho:∃a b,IsPair h to a b) (j1:h.IsTupleIter i1 l1 0) (j2:h.IsTupleIter i2 l2 0) (hd:h.DictOf (bW prog w) d []):
   codeAny (-5) A (.builtin "dict.update.loop" {[.ref d,.ref z,rawInt 0,.none],[]}) R ⟨h,g,dr,tk,os⟩:=by
 by_cases h1l:1<=us.length
 ·exact Ww hA D km n1 n2 n3 n4 n5 lO g8 hp hv hsz h1l g dr os k kp hz hi ho j1 j2 hd
 ·have lp:=bh hp;have e1:us=[]:=gR.mp ∅;have e2:pairs=[]:=gR.mp ∅;subst e1 e2;have t1:h.IsTuple l1 ([]:Aae).toArray:=by obtain⟨o1,e1,r1⟩:=lO;exact{o1,kp _ _ D.l1z D.l1TO D.l1i1 D.l1i2 e1,r1}
  have t2:h.IsTuple l2 vs.toArray:=by obtain⟨o2,e2,r2⟩:=g8;exact{o2,kp _ _ D.l2z D.l2TO D.l2i1 D.l2i2 e2,r2}
  refine eM AE ?_;obtain⟨a,b,ho⟩:=ho;refine ae (MU (show(A.under _).handled=none from hA) {D.TITO,D.i12,D.l1TO,D.l2TO} {hz,hi,⟨a,b,ho⟩,j1,j2} t1 (-8) λh' hs=>?_);refine ae (ag (ag ?_));obtain⟨o,es,ep,e,r⟩:=hd;exact k h' _ (λb o m1 m2 m3 m4 hb=>hs b o m1 m2 m3 m4 (kp b o m1 m2 m3 m4 hb)) {o,es,ep,hs _ _ n1 n5 n2 n3 e,r}
def Wx(hA:A.handled=none)(D:ZipApart z ti to i1 i2 l1 l2)
  (lO:s.heap.IsTuple l1 us.toArray) (g8:s.heap.IsTuple l2 vs.toArray) (hp:Paired (-66) us pairs) (hv:vs=pairs.map (·.2)) (hsz:pairs.length<=sizeLine)
  (hz:IsZip s.heap z ti to .none) (hi:IsPair s.heap ti (.ref i1) (.ref i2)) (ho:∃a b,IsPair s.heap to a b) (j1:s.heap.IsTupleIter i1 l1 0) (j2:s.heap.IsTupleIter i2 l2 0)
  (k:∀h' tk,(∀b o,b≠z->b≠to->b≠i1->b≠i2->s.heap.get? b=some o->h'.get? b=some o)->h'.DictOf (bW prog w) s.heap.objs.size (merged [] pairs)->Q (-11) {s with heap:=h',toks:=tk}):
  wpAny (-5) A (call (.type "dict") [.ref z]) Q E s:=by
 refine callType_codes (Q₁:=λv1 z1=>v1=.ref s.heap.objs.size/\z1={s with heap:=s.heap.push {cls:=.type "dict",data:=.dict #[]}}) F.kt_called_dict (F.kt_typeCall_dict_1 _) F.entry_dict_init (kt_code_dict_new _ ⟨rfl,rfl⟩) ?_;rintro v1 z1 ⟨rfl,rfl⟩;obtain⟨F0,g,dr,tk,os⟩:=s;have V9:(F0.push {cls:=.type "dict",data:=.dict #[]}).DictOf (bW prog w) F0.objs.size []:=Heap.DictOf.new F0;have vt:(F0.push {cls:=.type "dict",data:=.dict #[]}).get? z=some (zP .none false ti to):=ah _ hz;refine{V9.typeIs,F.args_dict_init_2 _ _,?_};refine ae ?_;refine ae (lF V9.typeIs (ag ?_));show wpAny (-5) _ (Builtin.Dict.updateFrom "dict.__init__" F0.objs.size (.ref z) [] .none) _ _ _;refine ae (gZ ⟨_,vt,rfl⟩ ?_);refine ae (Z5 vt hA λh2 tk2 e ne=>?_);refine ae (fE ?_);have kp:∀b o,F0.get? b=some o->h2.get? b=some o:=λb o hb=>ne.keeps _ _ (ah _ hb);have zk:=kp _ _ hz;refine ae (mf zk ?_);have hd2:h2.DictOf (bW prog w) F0.objs.size []:=by obtain⟨o',es,ep,h',r⟩:=V9;exact{o',es,ep,ne.keeps _ _ h',r}
 refine ag {oM _ (-3),?_};obtain⟨a,b,ho⟩:=ho;obtain⟨oa,ja,ra⟩:=j1;obtain⟨ob,jb,rb⟩:=j2;have nz:∀{c:Addr}{o:Obj},F0.get? c=some o->F0.objs.size≠c:=λe=>bD (aF e);exact acy (show A.in1.handled=none from hA) D (A2 (ak _)) (nz hz) (nz ja) (nz jb) (nz hi) (nz ho) lO g8 hp hv hsz g dr os (λh' JK N6 sd=>{rfl,k h' JK N6 sd}) (λb o _ _ _ _ hb=>kp b o hb) zk (kp _ _ hi) {a,b,kp _ _ ho} {oa,kp _ _ ja,ra} {ob,kp _ _ jb,rb} hd2
inductive ac0(K:Frag)(Q:VK)(vs:Aam)(H1:Hp):Prop
 |mk (l1 l2:Addr) (ks:List Key) (ys:Aam) (_:vs=[.ref l1,.ref l2]) (_:bC K H1 l1 (ks.map kV)) (_:bC K H1 l2 ys) (_:ks.length=ys.length) (_:∀d,H1 d=none->Q (.ref d) (upd H1 d (.dK (gz [] (ks.zip ys)))))
def adZ(K:Frag)(ta:TA):TE:=λZ H Q=>ta Z H λvs H1=>ac0 K Q vs H1
variable{X:Cx}
def Ky(hg:Gl X "dict")(hm:X.mg "dict"=none)(hg2:Gl X "zip")(S4:X.mg "zip"=none)(hA:X.A.handled=none)(ha:PA X [a,b] ta)
  (hs:starEach [a,b] X.env=[(false,eval a X.env),(false,eval b X.env)]:=by rfl) (ma:starEach [b] X.env=[(false,eval b X.env)]:=by rfl) (Of:starEach [.Call (.Name "zip" p2) [a,b] [] Kv] X.env=[(false,eval (.Call (.Name "zip" p2) [a,b] [] Kv) X.env)]:=by rfl):
  PE X (.Call (.Name "dict" p) [.Call (.Name "zip" p2) [a,b] [] Kv] [] pos) (adZ X.K ta):=by
 intro pins s Z H Q I h;refine Gx (rR I hg hm (by decide+kernel:bootBuiltins "dict"=some (.type "dict")) (eB ?_ Of rfl));refine gK (Gx (rR I hg2 S4 boot_zip (eB (rj (ha Kv pins s Z H _ I h) λus s1 vs H1 I1 r1 q1=>?_) (by rw[hs,ma]) (by rw[ma];rfl))));obtain⟨l1,l2,ks,ys,e,h1,h2,hkl,q⟩:=q1;subst e;obtain⟨u1,u2,rfl,Kh,FA⟩:=Fj r1;cases Kh;cases FA;obtain⟨Iu,Kg,FE,vt⟩:=I1.tuple h1;obtain⟨DZ,Kf,BQ,zk⟩:=I1.tuple h2;obtain⟨pairs,SW,uI,sP,hp4⟩:=MZ Kg Kf hkl;have b1:l1<s1.heap.objs.size:=by obtain⟨o,e,_⟩:=id FE;exact aF e
 have b2:l2<s1.heap.objs.size:=by obtain⟨o,e,_⟩:=id BQ;exact aF e
 have lz:ks.length<=sizeLine:=by rw[af]at vt;exact vt
 refine MX (show s1.heap.IsTuple l1 Iu.toArray from FE) (show s1.heap.IsTuple l2 DZ.toArray from BQ) λh' n en zt kp=>?_;subst en;refine lE ?_;have t1:h'.IsTuple l1 Iu.toArray:=by obtain⟨o,e,r⟩:=id FE;exact{o,kp _ _ e,r}
 have t2:h'.IsTuple l2 DZ.toArray:=by obtain⟨o,e,r⟩:=id BQ;exact{o,kp _ _ e,r}
 have l0:Iu.length=ks.length:=by have:=Kg.length;rw[af]at this;exact this.symm
 refine Wx hA (zipApart_new b1 b2) t1 t2 SW uI ∅ zt.self zt.ins zt.outs zt.w1 zt.w2 λh2 tk wG hd=>?_;have rel:=KV.merge sP .nil;have lzm:(gz [] (ks.zip ys)).length<=sizeLine:=by have e1:=merged_length_le [] pairs;rw[rel.length];simp only[fA]at e1;lia
 have kpA:∀c o,s1.heap.get? c=some o->h2.get? c=some o:=λc o e=>by have lc:=aF e;exact wG c o (aI (ba lc (fH _ _))) (aI (ba lc (fH _ _))) (aI lc) (aI (ba lc (fH _ _))) (kp c o e)
 have ld:s1.heap.objs.size<=h'.objs.size:=by exact aJ (fH _ 4) (bo (aF zt.self))
 exact{.ref h'.objs.size,_,I1.laid kpA ld (Ck lzm (fT.mpr (cB (aI (ba I1.big ld)))) rel hd),rfl,q _ (I1.bj.fresh ld)}
inductive Ze(x:V)(vs:Aam)(H:Hp)(Q:VK):Prop
 |mk (a b:Addr) (kvs more:List (Key×V)) (_:x=.ref a) (_:vs=[.ref b]) (_:a≠b) (_:H a=some (.dK kvs)) (_:H b=some (.dK more)) (_:kvs.length+more.length<=sizeLine) (_:Q .cR (upd H a (.dK (gz kvs more))))
def R5:Ux X "dict.update" Ze:=by intro pins s Z H x vs v us Q I rx rv h;obtain⟨a,b,kvs,more,rfl,rfl,ne,hH,hb,hl,q⟩:=h;cases rx;obtain⟨u,rfl,r1⟩:=rv.one;cases r1;obtain⟨zz,hd,ws,rel,dd⟩:=Dd I.bj hH;obtain⟨WT,hd2,ws2,aa7,OF⟩:=Dd I.bj hb;refine su wX dd.typeIs PySem.F.entry_dict_update (PySem.F.args_dict_update_2 _ _) (meets_dict_update (bW X.prog X.w) a b ne hd2) {ws,ws2,dd,OF,by rw[<-rel.length,<-aa7.length];exact hl,λh' sU _ hs=>?_};exact{.cR,_,tQ I (hH▸True.intro) hs (let⟨o,_,_,ho,_⟩:=sU;⟨o,ho⟩) (Ck (aJ (kM more kvs) hl) hd (aa7.merge rel) sU),rfl,q}
variable{s:Shared}{it d:Addr}{i ep:Nat}{es:Array DictEntry}{o:Obj}
abbrev pb(f0:Value)(b:Bool)(d:Addr)(i n ep:Nat)(ok ov:Value):Obj:={cls:=.type "dict_itemiterator",dict:=none,data:=.fields #[f0,.bool b,.ref d,.int i 0,.int n 0,.int ep 0,ok,ov],slots:=#[]}
def RI(h:Heap)(it d:Addr)(i n ep:Nat):Prop:=∃f0 b ok ov,h.get? it=some (pb f0 b d i n ep ok ov)/\(f0=.none\/∃a:Nat,f0=rawInt a)
def RI.ty(x:RI s.heap it d i es.size ep):s.TypeIs (.ref it) "dict_itemiterator":=by obtain⟨_,_,_,_,e,_⟩:=x;exact⟨_,e,rfl⟩
def RI.kJ(x:RI h it d i n ep)(k:∀o,h.get? it=some o->h'.get? it=some o):RI h' it d i n ep:=by obtain⟨f0,b,ok,ov,e,c⟩:=x;exact{f0,b,ok,ov,k _ e,c}
def Zd(g:s.heap.get? it=some (pb f0 b d i n ep ok ov))(hf:f0=.none\/∃a:Nat,f0=rawInt a)(q1:Q true s)
  (q2:∀h',h'.get? it=some (pb f0 true d i n ep ok ov)->Heap.SameBut it s.heap h'->Q false {s with heap:=h'}):wpAny (-25) A (Builtin.Dict_items.ownedTupleIsFree (.ref it)) Q E s:=by
 rcases hf with rfl|⟨a,rfl⟩
 ·exact ae (bK g rfl rfl (ag q1))
 ·refine ae (bK g rfl rfl ?_);refine ae (DG ?_);rw[da];cases s.heap.get? a with
  |none=>exact ag q1
  |some u=>
   refine ae (bK g rfl rfl ?_);cases b with
   |true=>exact ag (q2 s.heap g (pQ _ _))
   |false=>exact ae (cx g (-8) λh1 g1 s1=>ag (q2 h1 g1 s1))
def NB{Q:Aac}(g7:RI s.heap it d i es.size ep)(ho:s.heap.get? d=some o)(hd:o.data=.dict es ep)(hi:i<es.size)
  (q:∀h',RI h' it d (i+1) es.size ep->h'.get? s.heap.objs.size=some {cls:=.type "tuple",data:=.seq #[es[i].key,es[i].val]}->(∀b x,b≠it->s.heap.get? b=some x->h'.get? b=some x)->h'.objs.size=s.heap.objs.size+1->Q (-11) {s with heap:=h'}):
  wpAny (-25) A (Builtin.«dict_itemiterator.__next__» {[.ref it],[]}) (λfin s'=>∃u,fin=.done (.ret u)/\Q u s') E s:=by
 have hT:=g7.ty;obtain⟨f0,b,ok,ov,hit,hf⟩:=g7;obtain⟨hp,g,dr,tk,os⟩:=s;refine ae (ag (ae (ae (ae (iC hT (ag ?_))))));refine ae (jf hit rfl ?_);have own:Builtin.Dict_items.ownsTuple "dict_itemiterator"=true:=by decide
 show wpAny _ _ (-78) _ _ _;refine ae (ag (ae (gW ho hd ?_)));rw[aw (-8)];refine ae (ag (ae (kP ho hd ?_)));rw[aw (-8)];refine ag ?_;simp only[show ¬((i:Int)<0)from by lia,kC,da,br hi];refine ae (ae (iC hT (ag (ae (pS hT ?_)))));show wpAny _ _ (setField (.ref it) 3 (rawInt ((i:Int)+1))>>=_) _ _ ⟨hp,g,dr,tk,os⟩;refine ae (cx hit (-8) λh1 e1 s1=>?_);have e1:h1.get? it=some (pb f0 b d (i+1) es.size ep ok ov):=by
  have e:((i+1:Nat):Int)=(i:Int)+1:=by lia
  unfold pb;simpa[rawInt]using e1
 have hT1:Shared.TypeIs ⟨h1,g,dr,tk,os⟩ (.ref it) "dict_itemiterator":=⟨_,e1,rfl⟩;refine ae (bS (ae (pS hT1 (ae (pS hT1 ?_)))));refine ae (lG ?_);have lt:=aF hit;have z1:=s1.1;obtain⟨h2,F3⟩:∃h2,h2=h1.push {cls:=.type "tuple",data:=.seq #[es[i].key,es[i].val]}:=⟨_,rfl⟩;have e2:h2.get? it=some (pb f0 b d (i+1) es.size ep ok ov):=by rw[F3];exact ah _ e1
 have t2:h2.get? hp.objs.size=some {cls:=.type "tuple",data:=.seq #[es[i].key,es[i].val]}:=by rw[F3,<-z1];exact aE _ rfl
 have k2:∀b x,b≠it->hp.get? b=some x->h2.get? b=some x:=λb x nb e=>by rw[F3];exact ah _ (s1.extBut b x nb e)
 have z2:h2.objs.size=hp.objs.size+1:=by rw[F3,cJ,z1]
 rw[<-F3,z1];refine ae (Zd e2 hf ?_ λh3 e3 s3=>?_)
 ·simp only[zi];refine ae (bK e2 rfl rfl (ae (bK e2 rfl rfl ?_)));refine ae (cx e2 (-8) λh3 e3 s3=>?_);refine ae (cx e3 (-8) λh4 e4 s4=>?_);refine ae (cx e4 (-8) λh5 e5 s5=>?_);refine ae (cx e5 (-8) λh6 e6 s6=>?_);have up:=λb x nb e=>s6.extBut b x nb (s5.extBut b x nb (s4.extBut b x nb (s3.extBut b x nb e)));exact ae (mT (ag (ag {_,rfl,q h6 {_,_,_,_,e6,.inr ⟨_,rfl⟩} (up _ _ (bD lt) t2) (λb x nb e=>up b x nb (k2 b x nb e)) (by rw[s6.1,s5.1,s4.1,s3.1,z2])})))
 ·have s3:=s3;exact ag (ag {_,rfl,q h3 ⟨_,_,_,_,e3,hf⟩ (s3.extBut _ _ (bD lt) t2) (λb x nb e=>s3.extBut b x nb (k2 b x nb e)) (by rw[s3.1,z2])})
def Ro(hh:A.handled=none)(g7:RI s.heap it d i es.size ep)(ho:s.heap.get? d=some o)(hd:o.data=.dict es ep)(hi:es.size<=i)
  (q:∀h' e,(∀b x,b≠it->s.heap.get? b=some x->h'.get? b=some x)->(∃o,h'.get? e=some o/\o.cls=.type "StopIteration")->E (.ref e) {s with heap:=h'}):
  wpAny (-25) A (Builtin.«dict_itemiterator.__next__» {[.ref it],[]}) Q E s:=by
 have hT:=g7.ty;obtain⟨f0,b,ok,ov,hit,hf⟩:=g7;refine ae (ag (ae (ae (ae (iC hT (ag ?_))))));refine ae (jf hit rfl ?_);have own:Builtin.Dict_items.ownsTuple "dict_itemiterator"=true:=by decide
 show wpAny _ _ (-78) _ _ s;refine ae (ag (ae (gW ho hd ?_)));rw[aw (-8)];refine ae (ag (ae (kP ho hd ?_)));rw[aw (-8)];refine ag ?_;simp only[show ¬((i:Int)<0)from by lia,kC,da,k8 hi];refine ae (ae (iC hT (ag ?_)));show wpAny _ _ (setField (.ref it) 2 .none>>=_) _ _ s;exact ae (fN hit rfl (-8) (Tb.CW (s:=s) hh λh' e kp he=>q h' e (λb x nb g=>kp b x ((-86).trans g)) he))
def Zc(g7:RI s.heap it d i es.size ep)(ho:s.heap.get? d=some o)(hd:o.data=.dict es ep)(hi:i<es.size)
  (q:∀h',RI h' it d (i+1) es.size ep->h'.get? s.heap.objs.size=some {cls:=.type "tuple",data:=.seq #[es[i].key,es[i].val]}->(∀b x,b≠it->s.heap.get? b=some x->h'.get? b=some x)->h'.objs.size=s.heap.objs.size+1->Q (some (-11)) {s with heap:=h'}):
  wpAny (-25) A (pyNext (.ref it)) Q E s:=by
 exact ae (d0 (wpAny_callSpecial?_slot g7.ty cw (bp cw g7.ty gG (NB g7 ho hd hi λh' a b c e=>ag (q h' a b c e)) (gc _))))
def Rm(g7:RI s.heap it d i es.size ep)(ho:s.heap.get? d=some o)(hd:o.data=.dict es ep)(hi:i<es.size)
  (q:∀h',RI h' it d (i+1) es.size ep->h'.get? s.heap.objs.size=some {cls:=.type "tuple",data:=.seq #[es[i].key,es[i].val]}->(∀b x,b≠it->s.heap.get? b=some x->h'.get? b=some x)->h'.objs.size=s.heap.objs.size+1->Q (-11) {s with heap:=h'}):
  wpAny (-25) A (Builtin.SmallTypes.nextOf (.ref it)) Q E s:=by
 exact ae (wpAny_callSpecial?_slot g7.ty cw (bp cw g7.ty gG (NB g7 ho hd hi λh' a b c e=>ag (q h' a b c e)) (gc _)))
def Zb(hh:A.handled=none)(g7:RI s.heap it d i es.size ep)(ho:s.heap.get? d=some o)(hd:o.data=.dict es ep)(hi:es.size<=i)
  (q:∀h',(∀b x,b≠it->s.heap.get? b=some x->h'.get? b=some x)->Q none {s with heap:=h'}):wpAny (-25) A (pyNext (.ref it)) Q E s:=by
 refine ae (d0 (wpAny_callSpecial?_slot g7.ty cw (bp cw g7.ty gG (Ro (show A.in1.handled=none from hh) g7 ho hd hi λh' e kp ⟨oe,he,ce⟩=>?_) (gc _))));exact ae (gu ⟨oe,he,ce⟩ kz (ag (q _ kp)))
def Rl(hh:A.handled=none)(g7:RI s.heap it d i es.size ep)(ho:s.heap.get? d=some o)(hd:o.data=.dict es ep)(hi:es.size<=i)
  (q:∀h' e,(∀b x,b≠it->s.heap.get? b=some x->h'.get? b=some x)->(∃o,h'.get? e=some o/\o.cls=.type "StopIteration")->E (.ref e) {s with heap:=h'}):wpAny (-25) A (Builtin.SmallTypes.nextOf (.ref it)) Q E s:=by
 exact ae (wpAny_callSpecial?_slot g7.ty cw (bp cw g7.ty gG (Ro (show A.in1.handled=none from hh) g7 ho hd hi λh' e kp he=>q h' e kp he) (gc _)))
end
structure Tk(es:Array DictEntry)(lo:Addr)(h:Heap)(as:Aah):Prop where
 up:as.Pairwise (·<·)
 ab:∀a∈as,lo<=a
 tp:∀(j:Nat)(a:Addr),as[j]?=some a->∃hj:j<es.size,h.get? a=some {cls:=.type "tuple",data:=.seq #[es[j].key,es[j].val]}
section
variable{P:Program}{w:World}{A:Around}{s:Shared}{R:Result->Shared->Prop}{es:Array DictEntry}{ep:Nat}{d:Addr}{o:Obj}
def Tk.low{lo Sh:Addr}(x:Tk es lo h as)(l:Sh<=lo):Tk es Sh h as:={x.up,λa ha=>aJ l (x.ab a ha),x.tp}
abbrev Ba(acc:Aaj)(c:Nat):Obj:={cls:=.type "list",dict:=none,data:=.seq acc c,slots:=#[]}
def ZK(hh:A.handled=none)(nSI:S≠I)(dS:d≠S)(dI:d≠I)(uJ:o.data=.dict es ep)(hz:es.size<=sizeLine)(res:Value){h0:Heap}(lS:S<h0.objs.size)(lI:I<h0.objs.size)
  (k:∀h' tk acc c as,(∀b x,b≠S->b≠I->h0.get? b=some x->h'.get? b=some x)->h'.get? S=some (Ba acc c)->as.length=es.size->Tk es h0.objs.size h' as->acc.toList=as.map Value.ref->R (.ok (.ret res)) {s with heap:=h',toks:=tk}):
  ∀(n i:Nat)(h:Heap)(tk c:Nat)(acc:Aaj)(as:Aah),es.size -i=n->i<=es.size->RI h I d i es.size ep->h.get? d=some o->(∀b x,b≠S->b≠I->h0.get? b=some x->h.get? b=some x)->h.get? S=some (Ba acc c)->
   acc.toList=as.map Value.ref->as.length=i->Tk es h0.objs.size h as->h0.objs.size<=h.objs.size->codeAny (-25) A (.builtin "list.extend.loop" {[.ref S,.ref I,res],[]}) R {s with heap:=h,toks:=tk}:=by
 intro n
 induction n with
 |zero=>
  intro i h tk c acc as en hi st gd kp gS ea la T lh;refine eM vX ?_;exact ae (Zb hh st gd uJ ∅ λh' kq=>ag (k h' tk acc c as (λb x n1 n2 e=>kq b x n2 (kp b x n1 n2 e)) (kq _ _ nSI gS) ∅ {T.up,T.ab,λj a hj=>(T.tp j a hj).imp λ_ e=>kq a _ (bD (ba lI (T.ab a (az hj)))) e} ea))
 |succ n ih=>
  intro i h tk c acc as en hi st gd kp gS ea la T lh;have cE:i<es.size:=by lia
  have la2:acc.size=i:=by rw[<-aM,ea,af,la]
  refine eM vX ?_;refine ae (Zc st gd uJ cE λh' js gt kq zq=>?_);have gS':=kq S _ nSI gS;obtain⟨h2,eh⟩:∃h2,h2=h'.update S (Obj.mapSeq (·.push (Value.ref h.objs.size))):=⟨_,rfl⟩;have go:∀b x,b≠S->h'.get? b=some x->h2.get? b=some x:=λb x nb e=>by rw[eh];exact(-86).trans e
  have gU:=cD (Obj.mapSeq (·.push (Value.ref h.objs.size))) gS' rfl;rw[<-eh]at gU;obtain⟨c2,gS2⟩:∃c,h2.get? S=some (Ba (acc.push (Value.ref h.objs.size)) c):=⟨_,gU⟩;refine ae (jw gS' rfl (ag {iS nE _,?_}) (by rw[la2];lia) (by show(acc.push (Value.ref h.objs.size)).size<=sizeLine+1;rw[Array.size_push,la2];lia));have nS:=bD (ba lS lh);have fin:=ih (i+1) h2 tk _ (acc.push (Value.ref h.objs.size)) (as++[h.objs.size]) ∅ cE (js.kJ λx e=>go I x (cB nSI) e) (go d o dS (kq d o dI gd)) (λb x n1 n2 e=>go b x n1 (kq b x n2 (kp b x n1 n2 e))) gS2
   (by rw[j9,ea,aD];rfl) (by rw[aC,la];rfl) {kg.mpr {T.up,fD _ _,λa ha b hb=>?_},λa ha=>?_,λj a hj=>?_} (bo (cU lh (aF (go _ _ nS gt))))
  ·rw[eh]at fin;exact fin
  ·rw[ax.mp hb];obtain⟨j,hj⟩:=cP.mp ha;obtain⟨_,e⟩:=T.tp j a hj;exact aF e
  ·rcases aP.mp ha with ha|ha
   ·exact T.ab a ha
   ·rw[ax.mp ha];exact lh
  ·by_cases q:j<as.length
   ·rw[cN q]at hj;have l1:=T.ab a (az hj);exact(T.tp j a hj).imp λ_ e=>go a _ (bD (ba lS l1)) (kq a _ (bD (ba lI l1)) e)
   ·have ej:j=i:=by have:=(aq.mp hj).1;rw[aC,fk]at this;lia
    subst ej;rw[bU ∅,la,lW]at hj;have hb:h.objs.size=a:=by simpa using hj
    subst hb;exact{cE,go _ _ nS gt}
variable{E:Aac}{r:Addr}
def ZL(hh:A.handled=none)(hv:s.heap.IsItemsView r d)(gd:s.heap.get? d=some o)(uJ:o.data=.dict es ep)(hz:es.size<=sizeLine)
  (q:∀h' tk acc c as,(∀b x,s.heap.get? b=some x->h'.get? b=some x)->h'.get? s.heap.objs.size=some (Ba acc c)->as.length=es.size->Tk es (-19) h' as->acc.toList=as.map Value.ref->Q (-11) {s with heap:=h',toks:=tk}):
  wpAny (-25) A (call (.type "list") [.ref r]) Q E s:=by
 refine callType_codes (Q₁:=λv z=>v=.ref s.heap.objs.size/\z={s with heap:=s.heap.push (Ba #[] 0)}) PySem.F.called_list (PySem.F.typeCall_list_1 _) PySem.F.entry_list_init (code_list_new _ ⟨rfl,rfl⟩) ?_;rintro v z ⟨rfl,rfl⟩;have g1:(s.heap.push (Ba #[] 0)).get? s.heap.objs.size=some (Ba #[] 0):=aE _ rfl;refine{⟨_,g1,rfl⟩,PySem.F.args_list_init_2 _ _,?_};obtain⟨ov,go,hc,hd⟩:=id hv;have lr:=aF go;have ld:=aF gd;obtain⟨S,eS⟩:∃S,S=s.heap.objs.size:=⟨_,rfl⟩;rw[<-eS]at g1 q lr ld⊢;have Sm:∀b x,s.heap.get? b=some x->(s.heap.push (Ba #[] 0)).get? b=some x:=λb x e=>ah _ e;have z1:(s.heap.push (Ba #[] 0)).objs.size=S+1:=by rw[cJ,eS]
 generalize (s.heap.push (Ba #[] 0))=h1 at g1 Sm z1⊢;show wpAny _ _ (do let old<-Builtin.List.listItems (.ref S);Builtin.List.listUpdate (.ref S) (λ_=>#[]);letGo old.toList.reverse;Builtin.List.listExtendWith (.ref S) (.ref r) .none) _ _ _;unfold Builtin.List.listItems;refine ae (ae (cu g1 rfl (ag ?_)));refine ae (m:=updateSeq S (λ_=>#[])) (jw g1 rfl (ae (mT ?_)));have g2:=cD (-43) g1 rfl;have wG:∀b x,b≠S->h1.get? b=some x->(h1.update S (-43)).get? b=some x:=λb x nb e=>(-86).trans e;have z2:(h1.update S (-43)).objs.size=S+1:=by rw[<-z1];exact(bN ..).1
 generalize (h1.update S (-43))=h2 at g2 wG z2⊢;obtain⟨c2,g2⟩:∃c,h2.get? S=some (Ba #[] c):=⟨_,g2⟩;unfold Builtin.List.listExtendWith;have XS:h2.IsItemsView r d:={ov,wG _ _ (aI lr) (Sm _ _ go),hc,hd};refine ae (gZ XS.typeIs ?_);have a1:Builtin.List.listSameRef (.ref S) (.ref r)=false:=by simp[Builtin.List.listSameRef,bD lr]
 have a2:(Value.type "dict_items"==Value.type "list")=false:=by decide
 have a3:(Value.type "dict_items"==Value.type "tuple")=false:=by decide
 simp only[a1,a2,a3,Bj,gL,kC];have gd2:=wG _ _ (aI ld) (Sm _ _ gd);refine ae (Ke (s:={s with heap:=h2}) XS gd2 uJ ?_);obtain⟨h3,Yu⟩:∃h3,h3=h2.push (pb .none false d 0 es.size ep .none .none):=⟨_,rfl⟩;have XE:∀b x,h2.get? b=some x->h3.get? b=some x:=λb x e=>by rw[Yu];exact ah _ e
 have g3:h3.get? (S+1)=some (pb .none false d 0 es.size ep .none .none):=by rw[Yu,<-z2];exact aE _ rfl
 have z3:h3.objs.size=S+2:=by rw[Yu,cJ,z2]
 show wpAny _ _ _ _ _ {s with heap:=h2.push (pb .none false d 0 es.size ep .none .none)};rw[<-Yu];show wpAny _ _ (holding _ (Builtin.List.listLengthHint (.ref r))>>=_) _ _ _;rw[show({s with heap:=h2}:Shared).heap.objs.size=S+1 from z2];have key:∀(h:Heap)(c tk:Nat),(∀b x,b≠S->h3.get? b=some x->h.get? b=some x)->h.get? S=some (Ba #[] c)->h.objs.size=S+2->
   codeAny (-25) A.in1 (.builtin "list.extend.loop" {[.ref S,.ref (S+1),.none],[]}) (wants (λr aae=>r=Value.none/\Q (Value.ref S) aae) E) {s with heap:=h,toks:=tk}:=λh c tk kp gS zh=>by
  refine ZK (show A.in1.handled=none from hh) (aI (c7 S)) (aI ld) (aI (dU ld)) uJ hz .none (by rw[zh];exact Nat.lt_add_of_pos_right (-9)) (zh▸c7 _) (λh' JK acc c' as k1 k2 k3 k4 k5=>{rfl,q h' JK acc c' as (λb x e=>?_) k2 k3 (k4.low (zh▸dZ _)) k5})
   es.size 0 h tk c #[] [] (Nat.sub_zero _) (aQ _) {_,_,_,_,kp _ _ (bD (c7 S)) g3,.inl rfl} (kp _ _ (aI ld) (XE _ _ gd2)) (λb x _ _ e=>e) gS rfl rfl {.nil,λa ha=>(by cases ha),λj a hj=>(by simp at hj)} (ak _)
  have lb:b<S:=eS▸aF e;exact k1 b x (aI lb) (aI (dU lb)) (kp _ _ (aI lb) (XE _ _ (wG _ _ (aI lb) (Sm _ _ e))))
 have gS3:=XE _ _ g2;refine ae (bS (PySem.W.kdx_hint {_,XE _ _ (wG _ _ (aI lr) (Sm _ _ go)),hc} ?_));refine mZ (λ_=>?_) (λ_=>ag {iS nE _,key _ c2 _ (λb x _ e=>e) gS3 z3});refine ae (fE (ae ?_));show wpAny _ _ (updateSeq S (·.push .none)>>=λ_=>updateSeq S (·.pop)) _ _ _;refine ae (jw gS3 rfl ?_);have g4:=cD (Obj.mapSeq (·.push Value.none)) gS3 rfl;refine jw g4 rfl ?_;refine ag {iS nE _,key _ _ _ (λb x nb e=>?_) (cD (Obj.mapSeq (·.pop)) g4 rfl) ?_}
 ·exact(-86).trans ((-86).trans e)
 ·rw[(bN ..).1,(bN ..).1,z3]
end
section
variable{X:Cx}{pins:Aaa}{Z:St}{H:Hp}{s:Shared}
theorem Inv.Uo{lo:Addr}(hlo:X.aab.heap.objs.size<=lo/\X.env.locals<lo/\(∀x c,X.env.cells.lookup x=some c->c<lo)/\∀p∈X.pn++pins,p.1<lo):
  ∀(as:Aah)(ps:Aak)(H:Hp),Inv X pins Z H s->as.length=ps.length->as.Nodup->(∀a∈as,lo<=a/\H a=none)->
   (∀(j:Nat) a p,as[j]?=some a->ps[j]?=some p->∃t u,RelV p.1 t/\RelV p.2 u/\s.heap.get? a=some {cls:=.type "tuple",data:=.seq #[t,u]})->
   ∃H',Inv X pins Z H' s/\(∀b u,H b=some u->H' b=some u)/\(∀b,b∉as->H' b=H b)/\∀(j:Nat) a p,as[j]?=some a->ps[j]?=some p->H' a=some (.tup [p.1,p.2])
 |[],[],H,I,_,_,_,_=>{H,I,λ_ _ h=>h,λ_ _=>rfl,λj a p e=>by simp at e}
 |[],_::_,_,_,e,_,_,_=>by simp at e
 |_::_,[],_,_,e,_,_,_=>by simp at e
 |a::as,p::ps,H,I,e,nd,fr,tp=>by
  obtain⟨n1,n2⟩:=cV.mp nd;obtain⟨l1,l2,l3,l4⟩:=hlo;obtain⟨ha,hna⟩:=fr a aA;obtain⟨t,u,r1,r2,g⟩:=tp 0 a p rfl rfl;have I1:=I.Me (o:=.tup [p.1,p.2]) hna {by show 2<=sizeLine;decide,[t,u],.cons r1 (.cons r2 .nil),{_,g,rfl,0,rfl},_,g,rfl} (aJ l1 ha) (bD (ba l2 ha))
   (λx c h=>aI (ba (l3 x c h) ha)) (λq hq=>aI (ba (l4 q hq) ha))
  obtain⟨H',I2,k1,k2,k3⟩:=Inv.Uo ⟨l1,l2,l3,l4⟩ as ps _ I1 (by simpa using e) n2 (λb hb=>{(fr b (aB _ hb)).1,by rw[ay (show b≠a fromλz=>n1 (z▸hb))];exact(fr b (aB _ hb)).2})
   (λj b q e1 e2=>tp (j+1) b q (-56) (-73))
  refine{H',I2,λb v h=>k1 b v (by rw[ay (aZ h hna)];exact h),λb hb=>?_,λj b q e1 e2=>?_}
  ·rw[k2 b (λz=>hb (aB _ z)),ay (λz=>hb (by rw[z];exact aA))]
  ·cases j with
   |zero=>
    obtain rfl:a=b:=by simpa using e1
    obtain rfl:p=q:=by simpa using e2
    rw[k2 a n1];exact au
   |succ j=>exact k3 j b q (-56) (-73)
def Inv.low(I:Inv X pins Z H s):X.aab.heap.objs.size<=s.heap.objs.size/\X.env.locals<s.heap.objs.size/\(∀x c,X.env.cells.lookup x=some c->c<s.heap.objs.size)/\∀p∈X.pn++pins,p.1<s.heap.objs.size:=
 {I.sz,I.lt,λx c hc=>let⟨_,z⟩:=I.cell x c hc;z.lt,λp hp=>aF (I.pin p hp).1}
def Inv.Jy(I:Inv X pins Z H s)(h:gn X.prog X.w X.K H d kvs):(d==sysModules)=false/\∃o es ep,s.heap.get? d=some o/\es.size<=10000000/\Ml o es ep (-94):=by
 obtain⟨lo,xs,rel,hl,o,es,ep,ga,hx,hdt,he,_⟩:=I.sj h;have ents:∀{l:List (-44)}{xs:List (NK×Addr×Value)},Paired (-10) l xs->Paired (-55) (l.map λp=>(V.ref p.2.1,p.2.2)) (xs.map (entryOfKey (nX X.prog X.w))):=λr=>by
  induction r with
  |nil=>exact .nil
  |@cons p q ps qs h _ ih=>exact .cons {by show Value.ref q.2.1=Value.ref p.2.1;rw[h.2.1],h.2.2} ih
 exact{lo,o,es,ep,ga,by rw[xy he,<-rel.length];exact hl,hx,hdt,he▸ents rel}
inductive UQ(P:Program)(w:World)(K:Frag)(Q:VK)(x:V)(H1:Hp):Prop
 |mk d kvs (_:x=.ref d) (_:gn P w K H1 d kvs) (_:∀p,H1 p=none->Q (.ref p) (upd H1 p (.ext (xa p d))))
end
def YZ(P:Program)(w:World)(K:Frag)(td:TE):TE:=λZ H Q=>td Z H λx H1=>UQ P w K Q x H1
section
variable{X:Cx}
def HY(hl:PE X l tl)(F5:attributeBase l "items" X.env (eval l X.env)=eval l X.env:=by rfl)(F2:(-80)=true:=by rfl):
  PE X (.Call (.Attribute l "items" apos) [] [] eU) (YZ X.prog X.w X.K tl):=by
 intro pins s Z H R I h;refine wpAny_Call_method0_late F5 F2 (dq (hl pins s Z H _ I h) λv s1 x H1 I1 r1 q1=>?_);obtain⟨d,kvs,e,hd,q⟩:=q1;subst e;cases r1;obtain⟨lo,o,es,ep,ga,_,m⟩:=I1.Jy hd;have ty:s1.TypeIs (.ref d) "dict":={o,ga,m.1.1};refine{"dict","dict.items",iX,xh,PySem.F.type_dict_items,ty,λb q=>?_,jr rfl (PySem.evalArgs_none ?_)}
 ·cases q;exact{o,ga,m.1.2.1}
 ·refine bp xh ty PySem.F.entry_dict_items ?_ (PySem.F.args_dict_items_1 _);refine ae (ae (lF ty (ag ?_)));unfold Builtin.Dict.showsAll;rw[lo];refine ae (ag (ae (bX (ag {_,rfl,?_}))));exact{.ref s1.heap.objs.size,_,I1.laid (λb o e=>ah _ e) (ak _) (abG {_,aE _ rfl,rfl,rfl}),rfl,q _ (-87)}
abbrev Uu(H:Hp):Aam->Aak->Prop:=Paired λ(y:V)(p:V×V)=>∃a,y=.ref a/\H a=some (.tup [p.1,p.2])
theorem Ib:∀{as:Aah}{ps:Aak},as.length=ps.length->(∀(j:Nat) a p,as[j]?=some a->ps[j]?=some p->H a=some (.tup [p.1,p.2]))->Uu H (as.map V.ref) ps
 |[],[],_,_=>.nil
 |[],_::_,e,_=>by simp at e
 |_::_,[],e,_=>by simp at e
 |a::as,p::ps,e,h=>.cons {a,rfl,h 0 a p rfl rfl} (Ib (by simpa using e) λj b q e1 e2=>h (j+1) b q (-56) (-73))
theorem W2:∀as:Aah,Vals (as.map V.ref) (as.map Value.ref)
 |[]=>.nil
 |_::as=>.cons rfl (W2 as)
def Gs(hA:X.A.handled=none):iN X (.type "list") (λxs H Q=>∃(r d:Addr)(kvs:List (-44)),xs=[.ref r]/\H r=some (.ext (xa r d))/\gn X.prog X.w X.K H d kvs/\
  ∀l ys H',(∀b u,H b=some u->H' b=some u)->H l=none->H' l=some (-39)->Uu H' ys (kvs.map λp=>(.ref p.2.1,p.2.2))->Q (.ref l) H'):=by
 intro pins s Z H xs us Q I r h;obtain⟨v,d,kvs,rfl,hv,hd,q⟩:=h;obtain⟨u,rfl,ru⟩:=jy r;cases ru;obtain⟨iv,_⟩:=(show dE X.prog X.w H s.heap v (.ext (xa v d))from I.bj v _ hv);obtain⟨lo,o,es,ep,ga,hz,m⟩:=I.Jy hd;have hl:(-94).length=es.size:=by rw[bh m.2.2,aM]
 have hs:es.size<=sizeLine:=by rw[bz];lia
 refine ZL hA iv ga m.2.1 hs λh' tk acc c as kp gl la T ea=>?_;have low:=I.low;have z1:s.heap.objs.size<=s.heap.objs.size+1:=dZ _;obtain⟨H',I2,k1,k2,k3⟩:=Inv.Uo {low.1,low.2.1,low.2.2.1,low.2.2.2} as (-94) H (I.kept (t':=tk) kp) (by rw[la,hl]) (T.up.imp λh=>aI h)
  (λa ha=>{aJ z1 (T.ab a ha),I.bj.fresh (aJ z1 (T.ab a ha))}) (λj a p e1 e2=>by obtain⟨hj,e3⟩:=T.tp j a e1;obtain⟨e,he,r1,r2⟩:=Paired.at' m.2.2 e2;rw[bF,br hj]at he;cases he;exact⟨_,_,r1,r2,e3⟩)
 have na:s.heap.objs.size∉as:=λz=>absurd (T.ab _ z) (Nat.not_succ_le_self _);have hn:=I.bj.fresh (ak _);have I3:=I2.Me (o:=.lst (as.map V.ref)) (by rw[k2 _ na];exact hn) {by rw[af,la];exact hs,as.map Value.ref,c,W2 as,ea▸gl} low.1 (bD low.2.1) (λx c h=>aI (low.2.2.1 x c h)) (λp hp=>aI (low.2.2.2 p hp));refine{.ref s.heap.objs.size,_,I3,rfl,q _ (as.map V.ref) _ (λb u e=>?_) hn au (Ib (by rw[la,hl]) λj a p e1 e2=>?_)}
 ·rw[ay (aZ e hn)];exact k1 b u e
 ·rw[ay (λz=>na (by rw[<-z];exact az e1))];exact k3 j a p e1 e2
variable{P:Program}{w:World}{d:Addr}{o:Obj}{es:Array DictEntry}{ep:Nat}
def Y3(lo:(d==sysModules)=false)(hx:o.ExactDict)(hd:o.data=.dict es ep):PySem.W.KdlSrc P w "dict" d d es.size (λi v=>∃hi:i<es.size,v=es[i].key) (λh=>h.get? d=some o) where
 type:=λ_ g=>{o,g,hx.1}
 there:=λ_ g=>{aF g,aF g}
 keep:=λ_ _ g k=>k d (.inl rfl) _ g
 notList:=by decide
 notTuple:=by decide
 hint:=λ_ _ _ _ g q=>PySem.W.kdl_hint_dict {o,g,hx.1} q
 iter:=λA s hh g=>{_,λi h=>h.IsKeyIter s.heap.objs.size d i es.size ep/\h.get? d=some o,λ_ _ q=>GK lo g hx hd q,{
  sub:=λb hb=>by simp at hb;simp[hb]
  frame:=λi h h' st k=>by obtain⟨⟨v,e,c⟩,g'⟩:=st;exact{{v,k _ (-8) _ e,c},k d (-8) _ g'}
  item:=λi s' Q E hi st q=>Rh st.1 st.2 hd hi λh' it' sb=>q _ h' s'.toks ⟨hi,rfl⟩ {it',sb.extBut _ _ (aI (aF g)) st.2} λb x hb e=>sb.extBut b x (λz=>hb (by simp[z])) e
  done:=λs' Q E st q=>HR hh st.1 st.2 hd (ak _) λh' kp=>q h' s'.toks λb x hb e=>kp b x (λz=>hb (by simp[z])) e
  self:=λ_ _ _ _ st q=>zQ st.1 q},{{_,aE _ rfl,rfl,rfl},ah _ g}}
def Cr(hA:X.A.handled=none):iN X (.builtin "sorted") (λxs H Q=>∃(a:Addr)(kvs:List (-44))(rows:T7),xs=[.ref a]/\gn X.prog X.w X.K H a kvs/\kvs.map (·.1)=rows.map gj/\(2<=rows.length->∀r∈rows,r≠[])/\rows.length<1000000/\SortedTo X.K H (kvs.map λp=>.ref p.2.1) rows Q):=by
 intro pins s Z H xs us Q I r h;obtain⟨a,kvs,rows,rfl,ha,hk,iU,sf,q⟩:=h;obtain⟨u,rfl,rx⟩:=jy r;cases rx;obtain⟨lo,o,es,ep,ga,hz,m⟩:=I.Jy ha;have hl:(-94).length=es.size:=by rw[bh m.2.2,aM]
 rw[af]at hl;have hlr:kvs.length=rows.length:=by have:=bV List.length hk;rw[af,af]at this;exact this
 refine f7 uh rK si (sA _) ?_;refine ae (ag ?_);refine ae (PySem.W.kdu_collect (Y3 lo m.1 m.2.1) (by simpa using hA) ga (by rw[bz];lia) λh' tk acc kp it=>?_);have ea:acc.toList=(kvs.map λp=>p.2.1).map Value.ref:=by
  refine pP λj=>?_;rw[bF,aV,aL];by_cases hj:j<es.size
  ·have IG:j<acc.size:=it.1▸hj;obtain⟨_,e1⟩:=it.2 j _ (br IG);have lP:kvs[j]?=some (kvs[j]'∅):=ao ∅;obtain⟨e,he,r1,_⟩:=Paired.at' m.2.2 (by rw[aL,lP];rfl);rw[bF,br hj]at he;cases he;rw[br IG,e1,lP,d7];exact bV some r1
  ·rw[k8 (by rw[it.1];lia),gk ∅];rfl
 rw[ea];have e2:(kvs.map λp=>V.ref p.2.1)=(kvs.map λp=>p.2.1).map V.ref:=by rw[aV];rfl
 rw[e2]at q;refine zZ (s:=s) (I.kept kp) (by rw[af,hlr]) (λi z b e3 e4=>?_) iU sf q;rw[aL]at e4;obtain⟨p,e5,rfl⟩:=bq.mp e4;have e6:(kvs.map (·.1))[i]?=some (gj z):=by rw[hk,aL,e3];rfl
 rw[aL,e5]at e6;have:=(ha.2 p (az e5)).1;rw[show p.1=gj z from bJ e6]at this;exact FQ this
end
def Y0(P:Program)(w:World)(K:Frag)(By:List (TE×TE)):TE:=λZ H Q=>∀p,H p=none->Fp By Z (upd H p (.dK [])) λps H2=>∃b k v,ps=[(.ref b,v)]/\jS K H2 k b/\H2 p=some (.dK [])/\Q (.ref p) (upd H2 p (.ext (DN P w p [(k,b,v)])))
def RC(hu:X.A.units+101<cLine)(h:Ep X pos keys values By)(qz:keys.all (·.isSome)=true)(hl:keys.length=values.length)(h0:keys≠[])
  (h15:keys.length<=15):PE X (.Dict keys values pos) (Y0 X.prog X.w X.K By):=by
 intro pins s Z H Q I q;have I1:=I.laid (t':=s.toks) (λ_ _ q=>ah _ q) (ak _) (EZ s.heap I.big);refine wpAny_Dict_any qz hl h0 h15 (iR (h pins _ Z _ _ I1 (q _ (I.bj.fresh (ak s.heap.objs.size)))) λws s2 aer=>?_);obtain⟨ps,H2,I2,rel,b,k,v,e,hk,hp,q2⟩:=aer;subst e;cases rel with
 |@cons _ x _ _ r1 t=>
  cases t;obtain⟨kx,vx⟩:=x;obtain⟨r1,r2⟩:=r1;obtain rfl:kx=Value.ref b:=r1;unfold storeAll;obtain⟨lo,xs,rl,g8,dd⟩:=I2.sj ({.inr ⟨rfl,hp⟩,λ_ hp=>by cases hp});have lx:xs.length<=sizeLine:=by rw[<-rl.length];exact aQ _
  refine ae (ae (wpAny_dictSet_heap (show X.A.units+100<cLine by lia) (I2.ER hk) dd λh' sU hs=>ag ?_));obtain⟨o,es,ep,g,g2,g3,g4,_,g5⟩:=sU;have I3:∀tk,Inv X pins Z (upd H2 s.heap.objs.size (.ext (DN X.prog X.w s.heap.objs.size [(k,b,v)]))) {s2 with heap:=h',toks:=tk}:=λtk=>
   tQ I2 (hp▸True.intro) hs ⟨o,g⟩ (Qq {lo,_,EH rl r2,by show 1<=10000000;decide,o,es,ep,g,g2,g3,g4,g5})
  exact ag {.ref s.heap.objs.size,_,I3 _,rfl,q2}
section
variable{P:Program}{w:World}{A:Around}{E:Aac}{v:Shared}{es:Array DictEntry}{ep:Nat}{o:Obj}
structure Zi(h:Heap)(z ti to i1 i2 d l:Addr)(f:Value)(k n ep:Nat):Prop where
 self:IsZip h z ti to f
 ins:IsPair h ti (.ref i1) (.ref i2)
 outs:∃a b,IsPair h to a b
 w1:RI h i1 d k n ep
 w2:h.IsListIter i2 l k
def Zi.ne(g:Zi h z ti to i1 i2 d l f k n ep):(ti≠z/\to≠z/\i1≠z/\i2≠z)/\(ti≠i1/\ti≠i2/\to≠i1/\to≠i2)/\i1≠i2:=by
 obtain⟨gs,gi,⟨a,b,go⟩,⟨_,_,_,_,q1,_⟩,⟨o2,q2,c2,_⟩⟩:=g;exact{{c6 gi gs rfl rfl (-9),c6 go gs rfl rfl (-9),c6 q1 gs rfl rfl (-9),c6 q2 gs c2 rfl (-9)},
  {c6 gi q1 rfl rfl (-9),c6 gi q2 rfl c2 (-9),c6 go q1 rfl rfl (-9),c6 go q2 rfl c2 (-9)},c6 q1 q2 rfl c2 (-9)}
def YO{Q:Aac}(KY:ti≠to)(g:Zi v.heap z ti to i1 i2 d l .none k es.size ep)
  (gd:v.heap.get? d=some o) (hx:o.ExactDict) (uJ:o.data=.dict es ep) (t2:v.heap.IsList l ys) (hk:k<es.size) (ey:ys[k]?=some y)
  (q:∀h',Zi h' z ti to i1 i2 d l (rawInt (v.heap.objs.size+1)) (k+1) es.size ep->h'.get? v.heap.objs.size=some {cls:=.type "tuple",data:=.seq #[es[k].key,es[k].val]}->IsPair h' (v.heap.objs.size+1) (-81) y->(∀c o,c≠z->c≠to->c≠i1->c≠i2->v.heap.get? c=some o->h'.get? c=some o)->Q (.ref (v.heap.objs.size+1)) {v with heap:=h'}):
  wpAny (-25) A (-45) (λfin s'=>∃u,fin=.done (.ret u)/\Q u s') E v:=by
 obtain⟨⟨a1,a2,a3,a4⟩,⟨a5,a6,a7,a8⟩,NW⟩:=g.ne;obtain⟨gs,gi,⟨a,b,go⟩,g1,g2⟩:=g;obtain⟨o2,q2,c2,_⟩:=id g2;obtain⟨ol,ql,cl,_⟩:=id t2;have c5:l≠i1:=by obtain⟨_,_,_,_,e1,_⟩:=id g1;exact c6 ql e1 cl rfl (-9)
 show wpAny _ _ (field (.ref z) 2>>=_) _ _ _;refine ae (-37);refine ae (-37);refine ae (cu gi rfl ?_);refine ae ?_;refine ae (bK gs rfl rfl (ag ?_));refine ae (fE ?_);refine ae (-37);refine ae (cx gs (-8) λp1 k1 r1=>?_)
 replace k1:IsZip p1 z ti to .ellipsis:=k1
 have z1:=r1.1;refine ae ?_;refine ae (ae (mJ ?_));refine ae (Rm (g1.kJ λo e=>r1.extBut _ _ a3 e) (r1.extBut _ _ (c6 gd gs hx.1 rfl (-9)) gd) uJ hk λp2 k2 tq r2 WT=>ag ?_);have WT:p2.objs.size=v.heap.objs.size+1:=z1▸WT;have tq:p2.get? v.heap.objs.size=some {cls:=.type "tuple",data:=.seq #[es[k].key,es[k].val]}:=z1▸tq;rw[show({v with heap:=p1}:Shared).heap.objs.size=v.heap.objs.size from z1];have o2:=r2 _ _ a7 (r1.extBut _ _ a2 go);refine ae (cu o2 rfl ?_);refine ae (An o2 λp3 o3 r3=>?_)
 replace o3:IsPair p3 to (-81) b:=o3
 refine ae (mT (ag ?_));refine ae (ae (mJ ?_));have w3:p3.IsListIter i2 l k:=by obtain⟨o',e',r'⟩:=g2;exact{o',r3.extBut _ _ a8.symm (r2 _ _ NW.symm (r1.extBut _ _ a4 e')),r'}
 have t3:p3.IsList l ys:=by obtain⟨o',e',r'⟩:=t2;exact{o',r3.extBut _ _ (c6 ql go cl rfl (-9)) (r2 _ _ c5 (r1.extBut _ _ (c6 ql gs cl rfl (-9)) e')),r'}
 refine ae (wpAny_nextOf_list_item w3 t3 ey λp4 k4 r4=>ag ?_);have o4:=r4.extBut _ _ a8 o3;refine ae (cu o4 rfl ?_);refine ae (An o4 λp5 o5 r5=>?_)
 replace o5:IsPair p5 to (-81) y:=o5
 refine ae (mT (ag (ag ?_)));refine ae (cu o5 rfl ?_);refine ae (lG ?_);have sz:p5.objs.size=v.heap.objs.size+1:=by rw[r5.1,r4.1,r3.1,WT]
 have z5:=r5.extBut _ _ a2.symm (r4.extBut _ _ a4.symm (r3.extBut _ _ a2.symm (r2 _ _ a3.symm k1)));have st:∀c o,c≠z->c≠to->c≠i1->c≠i2->v.heap.get? c=some o->p5.get? c=some o:=λc o m1 m2 m3 m4 e=>
  r5.extBut _ _ m2 (r4.extBut _ _ m4 (r3.extBut _ _ m2 (r2 _ _ m3 (r1.extBut _ _ m1 e))))
 have j2:p5.IsListIter i2 l (k+1):=by obtain⟨o',e',r'⟩:=k4;exact{o',r5.extBut _ _ a8.symm e',r'}
 have nto:=bD (aF go);have ni2:=bD (aF q2);have lz:=aF z5;refine ae ?_;have z6:IsZip (p5.push {cls:=.type "tuple",data:=.seq #[.ref v.heap.objs.size,y]}) z ti to .ellipsis:=ah _ z5;refine ae (cx z6 (-8) λp7 z7 r7=>?_)
 replace z7:IsZip p7 z ti to (rawInt p5.objs.size):=z7
 refine cx z7 (-8) λp8 z8 r8=>?_
 replace z8:IsZip p8 z ti to (rawInt p5.objs.size):=z8
 have up:∀c o,c≠z->p5.get? c=some o->p8.get? c=some o:=λc o m e=>r8.extBut _ _ m (r7.extBut _ _ m (ah _ e));have n8:=r8.extBut _ _ (bD lz) (r7.extBut _ _ (bD lz) (aE _ rfl));rw[sz]at z8 n8;refine ag {_,rfl,?_};rw[sz];obtain⟨ob,jb,rb⟩:=j2;exact q p8 {z8,up _ _ a1 (st _ _ a1 KY a5 a6 gi),{_,_,up _ _ a2 o5},(k2.kJ λo e=>r5.extBut _ _ a7.symm (r4.extBut _ _ NW (r3.extBut _ _ a7.symm e))).kJ λo e=>up _ _ a3 e,{ob,up _ _ a4 jb,rb}} (up _ _ (bD (aF gs)) (r5.extBut _ _ nto (r4.extBut _ _ ni2 (r3.extBut _ _ nto tq)))) n8 λc o m1 m2 m3 m4 e=>up c o m1 (st c o m1 m2 m3 m4 e)
def aau(hh:A.handled=none)(g:Zi v.heap z ti to i1 i2 d l .none k es.size ep)(gd:v.heap.get? d=some o)(hx:o.ExactDict)(uJ:o.data=.dict es ep)(hk:es.size<=k)
  (q:∀h' e,(∀c o,c≠z->c≠to->c≠i1->c≠i2->v.heap.get? c=some o->h'.get? c=some o)->(∃o,h'.get? e=some o/\o.cls=.type "StopIteration")->E (.ref e) {v with heap:=h'}):
  wpAny (-25) A (-45) Q E v:=by
 obtain⟨⟨a1,a2,a3,a4⟩,⟨a5,a6,a7,a8⟩,NW⟩:=g.ne;obtain⟨gs,gi,⟨a,b,go⟩,g1,g2⟩:=g;show wpAny _ _ (field (.ref z) 2>>=_) _ _ _;refine ae (-37);refine ae (-37);refine ae (cu gi rfl ?_);refine ae ?_;refine ae (bK gs rfl rfl (ag ?_));refine ae (fE ?_);refine ae (-37);refine ae (cx gs (-8) λp1 k1 r1=>?_)
 replace k1:IsZip p1 z ti to .ellipsis:=k1
 refine ae ?_;refine ae (ae (mJ ?_));refine ae (Rl hh (g1.kJ λo e=>r1.extBut _ _ a3 e) (r1.extBut _ _ (c6 gd gs hx.1 rfl (-9)) gd) uJ hk λp2 e r2 he=>?_);obtain⟨oe,ge,ce⟩:=he;have z2:=r2 _ _ a3.symm k1;exact cx z2 (-8) λp3 _ r3=>q p3 e (λc o m1 _ m3 _ e=>r3.extBut _ _ m1 (r2 _ _ m3 (r1.extBut _ _ m1 e))) {oe,r3.extBut _ _ (c6 ge z2 ce rfl (-9)) ge,ce}
def YN(KY:ti≠to)(g:Zi v.heap z ti to i1 i2 d l .none k es.size ep)
  (gd:v.heap.get? d=some o) (hx:o.ExactDict) (uJ:o.data=.dict es ep) (t2:v.heap.IsList l ys) (hk:k<es.size) (ey:ys[k]?=some y)
  (q:∀h',Zi h' z ti to i1 i2 d l (rawInt (v.heap.objs.size+1)) (k+1) es.size ep->h'.get? v.heap.objs.size=some {cls:=.type "tuple",data:=.seq #[es[k].key,es[k].val]}->IsPair h' (v.heap.objs.size+1) (-81) y->(∀c o,c≠z->c≠to->c≠i1->c≠i2->v.heap.get? c=some o->h'.get? c=some o)->Q (some (.ref (v.heap.objs.size+1))) {v with heap:=h'}):
  wpAny (-25) A (pyNext (.ref z)) Q E v:=by
 have ty:v.TypeIs (.ref z) "zip":={_,g.self,rfl};exact ae (d0 (wpAny_callSpecial?_slot ty eT (bp eT ty kG (YO KY g gd hx uJ t2 hk ey λh' b1 b2 b3 b4=>ag (q h' b1 b2 b3 b4)) (j8 _))))
def YM(hh:A.handled=none)(g:Zi v.heap z ti to i1 i2 d l .none k es.size ep)(gd:v.heap.get? d=some o)(hx:o.ExactDict)(uJ:o.data=.dict es ep)(hk:es.size<=k)
  (q:∀h',(∀c o,c≠z->c≠to->c≠i1->c≠i2->v.heap.get? c=some o->h'.get? c=some o)->Q none {v with heap:=h'}):
  wpAny (-25) A (pyNext (.ref z)) Q E v:=by
 have ty:v.TypeIs (.ref z) "zip":={_,g.self,rfl};refine ae (d0 (wpAny_callSpecial?_slot ty eT (bp eT ty kG (aau (show A.in1.handled=none from hh) g gd hx uJ hk λh' e hk he=>?_) (j8 _))));obtain⟨o,ho,hc⟩:=he;exact ae (gu ⟨o,ho,hc⟩ kz (ag (q _ hk)))
abbrev QL(h:Heap)(d:Addr)(n ep:Nat):Heap:=h.push {cls:=.type "dict_itemiterator",data:=.fields #[.none,.bool false,.ref d,.int 0 0,.int n 0,.int ep 0,.none,.none]}
abbrev W0(h:Heap)(d l:Addr)(n ep:Nat):Heap:=(QL h d n ep).push {cls:=.type "list_iterator",data:=.fields #[.ref l,.int 0 0]}
abbrev WZ(h:Heap)(d l:Addr)(n ep:Nat):Heap:=(W0 h d l n ep).push {cls:=.type "tuple",data:=.seq #[.ref h.objs.size,.ref (QL h d n ep).objs.size]}
abbrev WY(h:Heap)(d l:Addr)(n ep:Nat):Heap:=(WZ h d l n ep).push {cls:=.type "tuple",data:=.seq #[.none,.none]}
abbrev M5(h:Heap)(d l:Addr)(n ep:Nat):Heap:=(WY h d l n ep).push {cls:=.type "zip",data:=.fields #[.none,.bool false,.bool false,.ref (W0 h d l n ep).objs.size,.ref (WZ h d l n ep).objs.size]}
def aav(r d l:Addr)(ys:Aaj)(o:Obj)(es:Array DictEntry)(ep:Nat)(uJ:o.data=.dict es ep):
  Meets (Builtin.«zip.__new__» {[.type "zip",.ref r,.ref l],[]}) (λ_ R s=>s.heap.IsItemsView r d/\s.heap.get? d=some o/\s.heap.IsList l ys/\R (.ok (.ret (.ref (WY s.heap d l es.size ep).objs.size))) {s with heap:=M5 s.heap d l es.size ep}):=
 .of_wp λprog w A R s h=>by
  obtain⟨hp,g,dr,tk,os⟩:=s;obtain⟨hv,gd,hl,h⟩:=h;have VZ:=sub_zip;have hL:Heap.IsList (Shared.heap {QL hp d es.size ep,g,dr,tk,os}) l ys:=by obtain⟨o,e,r⟩:=hl;exact{o,ah _ e,r}
  wp_walk using Ke hv gd uJ,pD hL
  exact⟨_,rfl,h⟩
def YQ(hv:v.heap.IsItemsView r d)(gd:v.heap.get? d=some o)(uJ:o.data=.dict es ep)(hl:v.heap.IsList l ys)
  (q:∀h' n,n=v.heap.objs.size->Zi h' (n+4) (n+2) (n+3) n (n+1) d l .none 0 es.size ep->(∀c o,v.heap.get? c=some o->h'.get? c=some o)->Q (.ref (n+4)) {v with heap:=h'}):
  wpAny (-25) A (call (.type "zip") [.ref r,.ref l]) Q E v:=by
 refine callType_new F.called_zip (-9) (F.typeCall_zip_2 _ _) (F.newCall_zip_2 _ _) (λobj=>A3 obj _ _) F.entry_zip_new (aav r d l ys o es ep uJ) {hv,gd,hl,?_};have e1:(QL v.heap d es.size ep).objs.size=v.heap.objs.size+1:=cJ ..;have e2:(W0 v.heap d l es.size ep).objs.size=v.heap.objs.size+2:=by rw[cJ,e1]
 have e3:(WZ v.heap d l es.size ep).objs.size=v.heap.objs.size+3:=by rw[cJ,e2]
 have e4:(WY v.heap d l es.size ep).objs.size=v.heap.objs.size+4:=by rw[cJ,e3]
 have g5:(M5 v.heap d l es.size ep).get? (WY v.heap d l es.size ep).objs.size=some _:=aE _ rfl;have g4:(M5 v.heap d l es.size ep).get? (WZ v.heap d l es.size ep).objs.size=some _:=ah _ (aE _ rfl);have g3:(M5 v.heap d l es.size ep).get? (W0 v.heap d l es.size ep).objs.size=some _:=ah _ (ah _ (aE _ rfl));have g2:(M5 v.heap d l es.size ep).get? (QL v.heap d es.size ep).objs.size=some _:=ah _ (ah _ (ah _ (aE _ rfl)));have g1:(M5 v.heap d l es.size ep).get? v.heap.objs.size=some _:=ah _ (ah _ (ah _ (ah _ (aE _ rfl))));rw[e2,e3,e4]at g5;rw[e1,e2]at g3;rw[e3]at g4;rw[e1]at g2;rw[e4];exact{⟨_,g5,rfl⟩,q _ _ rfl {g5,g3,⟨_,_,g4⟩,{_,_,_,_,g1,.inl rfl},⟨_,g2,rfl,rfl⟩} λc o x=>ah _ (ah _ (ah _ (ah _ (ah _ x))))}
end
def ItZ(K:Frag)(d l:Addr)(o:Obj)(u:HO)(kvs:Aak):It:=
 {λi H=>H d=some (.fg o u)/\i<kvs.length/\∃ys y,aY K H l ys/\ys[i]?=some y,
  λi H x H'=>∃p q kv y,x=.ref p/\H q=none/\upd H q (.tup [kv.1,kv.2]) p=none/\H'=upd (upd H q (.tup [kv.1,kv.2])) p (.tup [.ref q,y])/\kvs[i]?=some kv/\∀ys,aY K H l ys->ys[i]?=some y,
  λi H=>H d=some (.fg o u)/\kvs.length<=i}
def YX{K:Frag}(m:Ml o es ep kvs)(KY:ti≠to):
  Turn P w K (.Tuple elts kk ps) (ItZ K d l o u kvs) (iy z ti to i1 i2) z (λi h=>Zi h z ti to i1 i2 d l .none i es.size ep) where
 mem:=aA
 obj:=λi h st c hc=>by
  obtain⟨gs,gi,⟨u,v,go⟩,⟨_,_,_,_,q1,_⟩,⟨o2,q2,c2,d2⟩⟩:=st;rcases(by simpa[iy]using hc)with rfl|rfl|rfl|rfl|rfl
  ·exact{_,gs,λv z=>by cases z}
  ·exact{_,gi,λv z=>by cases z}
  ·exact{_,go,λv z=>by cases z}
  ·exact{_,q1,λv z=>by cases z}
  ·exact{_,q2,λv z=>by rw[d2]at z;cases z}
 keep:=λi h h' st k=>by obtain⟨gs,gi,⟨u,v,go⟩,w1,⟨o2,q2,r2⟩⟩:=st;exact{k z (by simp[iy]) _ gs,k ti (by simp[iy]) _ gi,{u,v,k to (by simp[iy]) _ go},w1.kJ λo e=>k i1 (by simp[iy]) _ e,{o2,k i2 (by simp[iy]) _ q2,r2}}
 item:=by
  intro X hP hw hK hc i pins s Z H E I hf st hg;subst hP hw hK;obtain⟨hd,hi,ys,y,hb,hy⟩:=hg;obtain⟨DZ,Kf,BQ,zk⟩:=I.list hb;obtain⟨u2,D6,FA⟩:=Kf.get hy;have hl:kvs.length=es.size:=by rw[bh m.2.2,aM]
  obtain⟨kv,lP⟩:∃kv,kvs[i]?=some kv:={_,ao hi};have S8:i<es.size:=by lia
  obtain⟨e,he,r⟩:=Paired.at' m.2.2 lP;have ee:es[i]=e:=by rw[bF,br S8]at he;exact bJ he
  refine YN KY st ((I.bj d _ hd).1) m.1 m.2.1 BQ.isList S8 (by simpa using D6) λh1 g1 tq pr kp=>{_,rfl,?_};refine vI g1.self λh2 z2 sb=>?_;have rF:=sb;have al:∀c∈iy z ti to i1 i2,c<s.heap.objs.size:=λc hc=>by
   obtain⟨gs,gi,⟨u,v,go⟩,⟨_,_,_,_,q1,_⟩,⟨o2,q2,r2⟩⟩:=id st;rcases(by simpa[iy]using hc)with rfl|rfl|rfl|rfl|rfl
   ·exact aF gs
   ·exact aF gi
   ·exact aF go
   ·exact aF q1
   ·exact aF q2
  have lz:=al z aA;have wG:∀c o,c∉iy z ti to i1 i2->s.heap.get? c=some o->h2.get? c=some o:=λc o hc e=>
   rF.extBut c o (-18) (kp c o (-18) (-18) (-18) (-18) e)
  have t2:=rF.extBut _ _ (bD lz) tq;have p2:=rF.extBut _ _ (bD (dU lz)) pr;have I2:=I.Nd (t':=s.toks) wG hf (ak _) {⟨_,t2,rfl,_,rfl⟩,_,t2,rfl} (.cons (ee▸r.1) (.cons (ee▸r.2) .nil)) (-17);have low:=I.low;have D9:upd H s.heap.objs.size (.tup [kv.1,kv.2]) (-19)=none:=by rw[ay (bD (c7 _))];exact(I.bj.fresh (dZ _))
  have I3:=I2.Me (o:=.tup [.ref s.heap.objs.size,y]) D9 {by show 2<=sizeLine;decide,[.ref s.heap.objs.size,u2],.cons rfl (.cons FA .nil),{_,p2,rfl,0,rfl},_,p2,rfl} (pM low.1) (bD (dU low.2.1)) (λx c h=>aI (dU (low.2.2.1 x c h))) (λq hq=>aI (dU (low.2.2.2 q hq)));obtain⟨⟨n1,n2,n3,n4⟩,_,_⟩:=g1.ne;obtain⟨gs,gi,⟨u,v,go⟩,w1,⟨o2,q2,r2⟩⟩:=g1;refine{.ref (-19),_,I3,rfl,{_,_,kv,y,rfl,I.bj.fresh (ak _),D9,rfl,lP,λzs hz=>by rw[I.EL hz hb];exact hy},{z2,rF.extBut _ _ n1 gi,{u,v,rF.extBut _ _ n2 go},w1.kJ λo e=>rF.extBut _ _ n3 e,{o2,rF.extBut _ _ n4 q2,r2}},λc hc=>?_};rw[ay (aI (dU (al c hc))),ay (aI (al c hc))];exact(hf c hc).1
 done:=by
  intro X hP hw hK hc i pins s Z H E I hf st hg;obtain⟨hd,hi⟩:=hg;have hl:kvs.length=es.size:=by rw[bh m.2.2,aM]
  exact YM (I.ok.hd hc) st ((I.bj d _ hd).1) m.1 m.2.1 ∅ λh1 kp=>{rfl,I.Nf (λc o hc e=>kp c o (-18) (-18) (-18) (-18) e) hf}
 self:=λ_ _ _ _ _ st h=>mf st.self h
inductive abL(P:Program)(w:World)(K:Frag)(R:It->Hp->Prop)(vs:Aam)(H1:Hp):Prop
 |mk r d u l kvs ys (_:vs=[.ref r,.ref l]) (_:H1 r=some (.ext (xa r d))) (_:H1 d=some u) (_:gn P w K H1 d kvs) (_:aY K H1 l ys) (_:∀o,R (ItZ K d l o u (kvs.map λp=>(.ref p.2.1,p.2.2))) (upd H1 d (.fg o u)))
def adm(P:Program)(w:World)(K:Frag)(ta:TA):TI:=λZ H R=>ta Z H λvs H1=>abL P w K R vs H1
def Zn(hg:Gl X "zip")(hm:X.mg "zip"=none)(ha:PA X [a,b] ta)(hs:starEach [a,b] X.env=[(false,eval a X.env),(false,eval b X.env)]:=by rfl)(ma:starEach [b] X.env=[(false,eval b X.env)]:=by rfl):
  PI X (.Tuple elts kk ps) (.Call (.Name "zip" p) [a,b] [] pos) (adm X.prog X.w X.K ta):=by
 intro pins s Z H R I h;refine Gx (rR I hg hm boot_zip (eB (-53) (by rw[hs,ma]) (by rw[ma];rfl)));obtain⟨r,d,u,l,kvs,ys,e,hr,hd,hv,hb,q⟩:=q1;subst e;obtain⟨u1,u2,rfl,Kh,FA⟩:=Fj r1;cases Kh;cases FA;obtain⟨iv,_⟩:=(show dE X.prog X.w H1 s1.heap r (.ext (xa r d))from I1.bj r _ hr);obtain⟨lo,o,es,ep,ga,hz,m⟩:=I1.Jy hv;obtain⟨DZ,Kf,BQ,zk⟩:=I1.list hb;have I2:Inv X pins Z (upd H1 d (.fg o u)) s1:=by
  rcases hv.1 with e|⟨_,e⟩
  ·rw[hd]at e;cases e;exact I1.G9 hd ga
  ·rw[hd]at e;cases e;exact I1.freeze hd ga
 refine YQ iv ga m.2.1 BQ.isList λh' n en g kp=>?_;subst en;refine mf g.self ?_;refine{_,_,_,_,_,rfl,(I2.kept (t':=s1.toks) kp),YX m (λt=>absurd t (aI (c7 _))),g,λc hc=>?_,q o}
 ·have Ed:c=s1.heap.objs.size+4\/c=s1.heap.objs.size+2\/c=s1.heap.objs.size+3\/c=s1.heap.objs.size\/c=s1.heap.objs.size+1:=by simpa[iy]using hc
  have lc:s1.heap.objs.size<=c:=by rcases Ed with e|e|e|e|e<;>rw[e]<;>first|exact ak _|exact fH _ _
  exact I2.u7 lc (I2.bj.fresh lc)
def Wr{K:Frag}{g:TG}{tb:TS}{D:Ends}(Pv:Nat->St->Hp->Prop)(le:kvs.length=ys.length)(h0:Pv 0 Z H)(hl:∀i Z H,i<=kvs.length->Pv i Z H->H d=some (.fg o u)/\aY K H l ys)
  (hs:∀i kv y p q Z H,kvs[i]?=some kv->ys[i]?=some y->Pv i Z H->H q=none->upd H q (.tup [kv.1,kv.2]) p=none->g (.ref p) Z (upd (upd H q (.tup [kv.1,kv.2])) p (.tup [.ref q,y])) λσ2 H2=>tb {D with nx:=Pv (i+1),ct:=Pv (i+1),bk:=D.nx} σ2 H2) (hd:∀Z H,Pv kvs.length Z H->D.nx Z H):tZ (ItZ K d l o u kvs) g tb D Z H:=by
 refine zw Pv h0 (λi Z H hi p=>?_) λZ H p=>{{(hl _ Z H (ak _) p).1,ak _},hd Z H p};obtain⟨q1,q2⟩:=hl i Z H (bo hi) p;refine{{q1,hi,ys,ys[i]'∅,q2,ao _},?_};rintro x H' ⟨a,b,kv,v,rfl,hb,ha,rfl,y1,y2⟩;exact hs i kv v a b Z H y1 (y2 ys q2) p hb ha
section
variable{X:Cx}{P:Program}{w:World}{K:Frag}
def Zv(he:PE X e ta)(hb:attributeBase e f X.env (eval e X.env)=eval e X.env)(h:X.K=K:=by rfl):PE X (.Attribute e f pos) (UR K ta f):=h▸mN he hb
def Pn(hu:X.A.units+101<cLine)(ho:PE X o td)(he:PE X e ty)(hf:PE X f tz)(m:M2 X o "get" apos e f eU)(h1:X.prog=P:=by rfl)(h2:X.w=w:=by rfl)(h3:X.K=K:=by rfl):
  PE X (.Call (.Attribute o "get" apos) [e,f] [] eU) (Np P w K td ty tz):=by subst h1 h2 h3;exact HZ hu ho he hf m
end
end L2
namespace L2
def adO{T p:V->Hp->Prop}{G:Prop}(k:(∀v H,p v H->T v H)->G)(h:∀v H,p v H->T v H):G:=k h
open PySem PySem.Spec PyProof.Rows
section
variable{K:Frag}{a d:Addr}{o:Obj}{u:HO}{kvs:Aak}{xs:Aam}{lo:Int}{n:Nat}{g:TG}{tb:TS}{D:Ends}{Z:St}{H:Hp}
def Ws(Pv:Nat->St->Hp->Prop)(h0:Pv 0 Z H)(hl:∀i Z H,i<=xs.length->Pv i Z H->bC K H a xs)
  (hs:∀i x Z H(D':Ends),xs[i]?=some x->Pv i Z H->(∀σ' H',Pv (i+1) σ' H'->D'.nx σ' H')->(∀v H',D.rt v H'->D'.rt v H')->g x Z H λσ2 H2=>tb D' σ2 H2) (hd:∀Z H,Pv xs.length Z H->D.nx Z H):=
 Ha (K:=K) (a:=a) (xs:=xs) (g:=g) (tb:=tb) (D:=D) (Z:=Z) (H:=H) Pv h0 hl (λi x Z H hx hp=>hs i x Z H _ hx hp (λ_ _ h=>h) λ_ _ h=>h) hd
def xU(Pv:Nat->St->Hp->Prop)(h0:Pv 0 Z H)(hl:∀i Z H,i<=xs.length->Pv i Z H->aY K H a xs)
  (hs:∀i x Z H(D':Ends),xs[i]?=some x->Pv i Z H->(∀σ' H',Pv (i+1) σ' H'->D'.nx σ' H')->(∀v H',D.rt v H'->D'.rt v H')->g x Z H λσ2 H2=>tb D' σ2 H2) (hd:∀Z H,Pv xs.length Z H->D.nx Z H):=
 EW (K:=K) (a:=a) (xs:=xs) (g:=g) (tb:=tb) (D:=D) (Z:=Z) (H:=H) Pv h0 hl (λi x Z H hx hp=>hs i x Z H _ hx hp (λ_ _ h=>h) λ_ _ h=>h) hd
def Ga(Pv:Nat->St->Hp->Prop)(h0:Pv 0 Z H)
  (hs:∀i Z H(D':Ends),i<n->Pv i Z H->(∀σ' H',Pv (i+1) σ' H'->D'.nx σ' H')->(∀v H',D.rt v H'->D'.rt v H')->g (.int (lo+i)) Z H λσ2 H2=>tb D' σ2 H2) (hd:∀Z H,Pv n Z H->D.nx Z H):=
 uL (lo:=lo) (n:=n) (g:=g) (tb:=tb) (D:=D) (Z:=Z) (H:=H) Pv h0 (λi Z H hx hp=>hs i Z H _ hx hp (λ_ _ h=>h) λ_ _ h=>h) hd
def Qk(Pv:Nat->St->Hp->Prop)(h0:Pv 0 Z H)(hl:∀i Z H,i<=kvs.length->Pv i Z H->H d=some (.fg o u))
  (hs:∀i kv Z H(D':Ends),kvs[i]?=some kv->Pv i Z H->(∀σ' H',Pv (i+1) σ' H'->D'.nx σ' H')->(∀v H',D.rt v H'->D'.rt v H')->g kv.1 Z H λσ2 H2=>tb D' σ2 H2) (hd:∀Z H,Pv kvs.length Z H->D.nx Z H):=
 Tt (d:=d) (o:=o) (u:=u) (kvs:=kvs) (g:=g) (tb:=tb) (D:=D) (Z:=Z) (H:=H) Pv h0 hl (λi kv Z H hx hp=>hs i kv Z H _ hx hp (λ_ _ h=>h) λ_ _ h=>h) hd
end
end L2
namespace mS
open PySem PySem.Spec PyProof.Rows L2 ya
seal L2.PE L2.PT L2.PW L2.PA L2.PS L2.lV L2.PI L2.PO L2.Ep L2.PG L2.Er
def top(i:Nat):Stmt:=PySem.Challenge.pw_askviews_k08_whole_more_and_less.main.body.getD i (.Pass {0,0,0,0})
abbrev Af:Stmt:=top 3
abbrev wq:Stmt:=top 4
abbrev uY:Stmt:=top 6
abbrev BH:Stmt:=top 8
abbrev BK:Stmt:=top 10
abbrev BJ:Stmt:=top 11
abbrev yn:Stmt:=top 12
abbrev tD:Stmt:=top 13
abbrev Aa:Stmt:=top 15
abbrev yl:Stmt:=top 16
abbrev GI:Stmt:=top 17
abbrev Ag:Stmt:=top 18
abbrev tw:Stmt:=top 19
abbrev ED:Stmt:=top 21
abbrev EE:Stmt:=top 22
abbrev EC:Stmt:=top 23
abbrev BI:Stmt:=top 24
abbrev Ab:Stmt:=top 25
abbrev Ae:Stmt:=top 26
abbrev wo:Stmt:=top 27
abbrev Ac:Stmt:=top 28
abbrev GH:Stmt:=top 29
abbrev Ad:Stmt:=top 30
abbrev wm:Stmt:=top 31
abbrev pF:Stmt:=top 32
abbrev uZ:Stmt:=top 33
abbrev qu:Stmt:=top 34
abbrev O8:Stmt:=top 35
abbrev wk:Stmt:=inClass (top 14) 0
abbrev tE:Stmt:=inClass (top 14) 1
abbrev EB:Stmt:=inClass (top 14) 2
abbrev nO:Stmt:=inClass (top 14) 3
abbrev pE:Stmt:=inClass (top 14) 4
def wW(K:Frag)(H:Hp)(a:Addr)(xs:Aam):Prop:=
 (∃o,H a=some (.fg o (.lst xs)))\/∃(o:Obj)(aS:Aaj)(n:Nat),K.lookup a=some o/\o.cls=.type "list"/\o.dict=none/\o.data=.seq aS n/\aS.size<=sizeLine/\Vals xs aS.toList
def wW.sq{K:Frag}(h:wW K H a xs):aY K H a xs:=by
 rcases h with⟨o,h⟩|h
 ·exact .inl (.inr ⟨o,h⟩)
 ·exact .inr h
def wW.but{K:Frag}(h:wW K H a xs)(hf:H f=some (-39)):wW K (upd H f o) a xs:=by
 rcases h with⟨ob,h⟩|h
 ·exact .inl {ob,by rw[ay (oU h hf λz=>by cases z)];exact h}
 ·exact .inr h
def wW.new{K:Frag}(h:wW K H a xs)(hp:H p=none):wW K (upd H p o) a xs:=by
 rcases h with⟨ob,h⟩|h
 ·exact .inl {ob,by rw[ay (aZ h hp)];exact h}
 ·exact .inr h
def dQ(K:Frag)(f:Addr)(H:Hp):Prop:=
 ∃(a:Addr)(ns:List Int)(p q r:Int),H f=some (.lst [.ref a,.int p,.int q,.int r])/\0<=p/\0<=q/\0<=r/\wW K H a (-51)/\ns.length<=63
def Ext(f:Addr)(H H':Hp):Prop:=∀b o,b≠f->H b=some o->H' b=some o
def Ext.refl(f:Addr)(H:Hp):Ext f H H:=λ_ _ _ h=>h
def Ext.trans(a:Ext f H H1)(b:Ext f H1 H2):Ext f H H2:=λc o n h=>b c o n (a c o n h)
def Ext.new(a:Ext f H H1)(h:H1 p=none)(o:HO):Ext f H (upd H1 p o):=λb u n q=>by rw[ay (aZ (a b u n q) h)];exact a b u n q
def Ext.own(a:Ext f H H1)(h:H p=none)(o:HO):Ext f H (upd H1 p o):=λb u n q=>by rw[ay (aZ q h)];exact a b u n q
def Ext.feed(a:Ext f H H1)(o:HO):Ext f H (upd H1 f o):=λb u n q=>by rw[ay n];exact a b u n q
def Ext.none(a:Ext f H H1)(n:p≠f)(h:H1 p=Option.none):H p=Option.none:=by
 cases q:H p with
 |none=>rfl
 |some o=>
  rw[a p o n q]at h;cases h
def dQ.new{K:Frag}(h:dQ K f H)(hp:H p=none)(o:HO):dQ K f (upd H p o):=by obtain⟨a,ns,x,y,z,hf,h1,h2,h3,hS,hn⟩:=h;exact{a,ns,x,y,z,by rw[ay (aZ hf hp)];exact hf,h1,h2,h3,hS.new hp,hn}
def dQ.lst{K:Frag}(h:dQ K f H)(hp:H p=some (.lst xs))(n:p≠f)(o:HO):dQ K f (upd H p o):=by obtain⟨a,ns,x,y,z,hf,h1,h2,h3,hS,hn⟩:=h;exact{a,ns,x,y,z,by rw[ay n.symm];exact hf,h1,h2,h3,hS.but hp,hn}
def dQ.o9{K:Frag}(h:dQ K f H)(hp:H p=none):p≠f:=by obtain⟨a,ns,x,y,z,hf,_⟩:=h;exact(aZ hf hp).symm
inductive Q2(K:Frag)(vs:Aam)(H:Hp)(Q:VK)(_x3:XK):Prop
 |mk (a:Addr) (ns:List Int) (_:vs=[.ref a]) (_:wW K H a (ns.map V.int)) (_:ns.length<=63) (_:∀(r:Addr)(H':Hp),dQ K r H'->bI H H'->H r=none->Q (.ref r) H')
def HU{xs ys:Aam}{i:Int}(nd:xs.Nodup)(hl:ys.length<=xs.length)(h:∀t,t<ys.length->ys[t]?=xs[((i+(0+(t:Int))) %(xs.length:Int)).toNat]?):ys.Nodup:=by
 refine eX.mpr λt u ht hu tu e=>?_;have e:ys[t]?=ys[u]?:=by rw[ao ht,ao hu,e]
 rw[h t ht,h u hu]at e;have a1:=iM (i+(0+(t:Int))) (show(xs.length:Int)≠0 by lia);have a2:=iu (i+(0+(t:Int))) (show(0:Int)<xs.length by lia);have b1:=iM (i+(0+(u:Int))) (show(xs.length:Int)≠0 by lia);have e2:=(lC ∅ nd).mp e;have e3:(i+(0+(u:Int))) %(xs.length:Int)=(i+(0+(t:Int))) %(xs.length:Int):=by lia
 rw[Int.emod_eq_emod_iff_emod_sub_eq_zero]at e3;have e4:(i+(0+(u:Int)) -(i+(0+(t:Int)))) %(xs.length:Int)=(u:Int) -t:=by rw[show i+(0+(u:Int)) -(i+(0+(t:Int)))=(u:Int) -t by lia];exact Int.emod_eq_of_lt ∅ ∅
 lia
def As{l:Aaf}(h:l.Nodup):(l.map V.str).Nodup:=cH.mpr (h.imp λne e=>ne (by injection e))
inductive BC(K:Frag)(vs:Aam)(H:Hp)(Q:VK)(_x3:XK):Prop
 |mk (f:Addr) (many:Int) (_:vs=[.ref f,.int many]) (_:dQ K f H) (_:0<many) (_:many<1073741824) (_:∀(i:Int)(H':Hp),0<=i->i<many->dQ K f H'->Ext f H H'->Q (.int i) H')
inductive Q1(K:Frag)(vs:Aam)(H:Hp)(Q:VK)(_x3:XK):Prop
 |mk (f pl:Addr) (many:Int) (xs:Aam) (_:vs=[.ref f,.ref pl,.int many]) (_:dQ K f H) (_:pl≠f) (_:H pl=some (.lst xs)) (_:0<xs.length) (_:xs.length<=100) (_:0<=many) (_:many<=100) (_:∀(r:Addr)(ys:Aam)(H':Hp),dQ K f H'->Ext f H H'->r≠f->H' r=some (.lst ys)->(ys.length:Int)=many->(∀y∈ys,y∈xs)->(xs.Nodup->many<=(xs.length:Int)->ys.Nodup)->Q (.ref r) H')
inductive Fq(K:Frag)(texts:Aaf)(most:Nat)(vs:Aam)(H:Hp)(Q:VK)(_x3:XK):Prop
 |mk (f:Addr) (_:vs=[.ref f]) (_:dQ K f H) (_:∀(r:Addr)(ys:Aam)(H':Hp),dQ K f H'->Ext f H H'->r≠f->H' r=some (.lst ys)->1<=ys.length->ys.length<=most->(∀y∈ys,y∈texts.map V.str)->ys.Nodup->Q (.ref r) H')
noncomputable def qL:Aaf:=["r","s","rs","r1","a","tttttttt"]
noncomputable def eA:Aaf:=["a","ab","12","b","a1","zzzzzzzz","r","1"]
noncomputable def g6:Aaf:=["?x","?y","?a","?ab","?12","?zzzzzzzz"]
inductive zY(K:Frag)(vs:Aam)(H:Hp)(Q:VK)(_x3:XK):Prop
 |mk (f:Addr) (n:Str) (_:vs=[.ref f,.str n]) (_:dQ K f H) (_:∀(i:Int)(H':Hp),1<=i->i<=4->dQ K f H'->Ext f H H'->Q (.int i) H')
section
variable{P:Program}{w:World}{K:Frag}{mg:Aab}{base:Heap}
structure Txt(K:Frag)(mg:Aab):Prop where
 fZ:mg "len"=none
 adg:mg "abs"=none
 mV:mg "range"=none
 jz:mg "tuple"=none
 K6:mg "list"=none
 BY:mg "isinstance"=none
 XA:mg "all"=none
 Py:mg "str"=none
 adf:mg "sum"=none
 K7:mg "dict"=none
 qx:mg "sorted"=none
 Pz:mg "set"=none
 DQ:mg "enumerate"=none
 Jq:mg "zip"=none
 afO:mg "bool"=none
 ZX:∃t,mg "SIGNS"=some (.str "abcdefghijklmnopqrstuvwxyz0123456789" t)
 LR:∃t,mg "MOST_SIGNS"=some (.int 8 t)
def u96(r:iK k A):A.units+96<cLine:=by have:=r.un;lia
def Ra:cK ["_law_script"] ["_law_script"] (defScope ED):=jV (-3)
def ZD(F:fJ K "_law_feed" "_law_feed" ED f fd):dy P w K mg base f9 1 f fd ["_law_script"] (Q2 K):=by refine F.ok Ra (λ_ _ _ _ h=>by cases h;subst_vars;rfl) (-4);obtain⟨a,ns,rfl,hS,hn,k⟩:=h;refine{_,(bx (cW (fY (fC (pv 0) (rN aX aX aX))))),?_};refine{_,rfl,(by show 4<=sizeLine;decide),λp hp=>?_};exact k p _ {a,ns,0,0,0,au,Eu _,Eu _,Eu _,hS.new hp,hn} (λb u q=>by rw[ay (aZ q hp)];exact q) hp
def nN:cK ["_law_feed_here","_law_many","_law_script","_law_figure","_law_cell","_law_mixed"] ["_law_feed_here","_law_many"] (defScope EE):=jV (-3)
def ZE(F:fJ K "_law_draw" "_law_draw" EE f fd)(T:Txt K mg):dy P w K mg base f9 1 f fd ["_law_feed_here","_law_many"] (BC K):=by
 refine F.ok nN (λ_ _ _ _ h=>by cases h;subst_vars;rfl) (-4);obtain⟨fe,many,rfl,⟨a,ns,p,q,r,hf,hp,hq,Lx,hS,hn⟩,hm,S4,k⟩:=h;have nl:(-51).length=ns.length:=af _;have lo:∀(x m:Int),0<m->m<2^32->-(2^64)<x % m/\x % m<2^64:=λx m h1 h2=>by have h3:=iM x (show m≠0 by lia);have h4:=iu x h1;lia
 refine cut 3 (λZ H'=>∃p' q' r',Z=[some (.ref fe),some (.int many),some (-64),none,none,none]/\H' fe=some (.lst [.ref a,.int p',.int q',.int r'])/\0<=p'/\0<=q'/\0<=r'/\wW K H' a (-51)/\Ext fe H H')
  (Qw 3 (λZ H'=>∃p' q' r' c,Z=[some (.ref fe),some (.int many),some (-64),none,some (.int c),none]/\H' fe=some (.lst [.ref a,.int p',.int q',.int r'])/\0<=p'/\0<=q'/\0<=r'/\wW K H' a (-51)/\Ext fe H H')
   {_,(aO (fX 5 nN (du rO (du jW (du jW (du FI (du rO (pv 4) aX) aX) (du FI (cM eW (pv 0) aX (-12)) aX)) aX) aX)) (aO (fX 5 nN (du rO (du FI (pv 5) (du jW (pv 5) aX)) aX)) (bx (cW (du rO (du rO (du FI (pv 5) aX) aX) (pv 1)))))),?_} (λt2 ht=>{_,(aO (ka (eG Jp (cM eW (pv 0) aX (-12)) aX (gQ _)) (aO (fX 3 nN (du rO (cM eW (pv 0) aX (-12)) (pv 1))) (aO (wz (du Zy (cM eW (pv 0) aX (-12)) (pv 1)) (FF (pv 0) aX set_list)) (bx (cW (pv 3))))) gN) (aO (fX 4 nN aX) (aO (ka (eG Jp (bZ eC rfl T.fZ bP (cc (pv 2))) aX (gQ _)) (bx (fX 4 nN (cM eW (pv 2) (du rO (cM eW (pv 0) aX (-12)) (bZ eC rfl T.fZ bP (cc (pv 2)))) (-12)))) gN) ht))),λtl=>?_})) (λt2 ht=>{_,(aO (fX 2 nN (cM eW (pv 0) aX (-12))) (aO (wz (du jW (cM eW (pv 0) aX (-12)) aX) (FF (pv 0) aX set_list)) (aO (ka (PW.pt (Kl (eG Ap (cM eW (pv 0) aX (-12)) aX (gQ _)) (GN (eG Xq (cM eW (pv 0) aX (-12)) (bZ eC rfl T.fZ bP (cc (pv 2))) (gQ _))))) (aO (wz (du Vt (bZ WM rfl T.adg (-3) (cc (cM eW (pv 2) (cM eW (pv 0) aX (-12)) (-12)))) (du abf aX aX)) (FF (pv 0) aX set_list)) (bx (wz (du jW (cM eW (pv 0) aX (-12)) aX) (FF (pv 0) aX set_list)))) gN) ht))),λtl=>?_})
 ·--the mix
  rintro Z H' ⟨p',q',r',c,rfl,zu,F1,uH,fL,xS,ex⟩;refine{_,rfl,_,_,rfl,rfl,(by show(0:Int)<2147483647;decide),_,_,rfl,rfl,.inl (lo _ _ (-9) (-9)),_,rfl,fe,_,_,_,rfl,rfl,aY.of zu,rfl,_,_,rfl,rfl,.inr {by decide,by decide},_,_,rfl,rfl,_,_,rfl,rfl,_,_,rfl,rfl,(by show(0:Int)<2147483629;decide),?_};refine{_,rfl,_,rfl,_,_,rfl,rfl,_,_,rfl,rfl,.inl (lo _ _ (-9) (-9)),_,_,rfl,rfl,(by show(0:Int)<2147483587;decide),?_};exact{_,rfl,_,_,rfl,rfl,.inl (lo _ _ (-9) (-9)),_,_,rfl,rfl,(by show(0:Int)<2147483563;decide),_,rfl,_,_,rfl,rfl,hm,k _ H' (iM _ ∅) (iu _ hm) ⟨a,ns,p',q',r',zu,F1,uH,fL,xS,hn⟩ ex}
 ·--the rest of a cell,or the cell
  rintro Z H' ⟨p',q',r',rfl,zu,F1,uH,fL,xS,ex⟩;refine{_,rfl,fe,_,_,_,rfl,rfl,aY.of zu,rfl,_,_,rfl,rfl,_,rfl,?_};refine gO (λc=>?_) (λc=>?_)
  ·refine{_,rfl,fe,_,_,_,rfl,rfl,aY.of zu,rfl,_,rfl,_,_,rfl,rfl,hm,?_};refine{_,rfl,fe,_,_,_,rfl,rfl,aY.of zu,rfl,_,rfl,_,_,rfl,rfl,⟨hm,S4⟩,_,rfl,fe,_,_,_,rfl,rfl,zu,rfl,?_};exact{_,rfl,k _ _ (iM _ ∅) (iu _ hm) {a,ns,p',q'/many,r',au,F1,Int.ediv_nonneg uH (Int.le_of_lt hm),fL,xS.but zu,hn} (ex.feed _)}
  ·--cell=0;if len(afN)>0
   refine{_,rfl,_,_,rfl,.inl {_,xS.sq,rfl},_,_,rfl,rfl,_,rfl,?_};refine gO (λc2=>?_) (λc2=>tl _ _ {p',q',r',0,rfl,zu,F1,uH,fL,xS,ex})
   ·have c3:=aW c2;have c4:=iM r' (show((-51).length:Int)≠0 by lia);have c5:=iu r' c3;obtain⟨v,hv⟩:∃v,ns[(r' %((-51).length:Int)).toNat]?=some v:={_,ao (by rw[<-nl];lia)};have ev:pX (-51) (r' %((-51).length:Int))=some (.int v):=by
     have e0:r' %((-51).length:Int)=(((r' %((-51).length:Int)).toNat:Nat):Int):=by lia
     rw[e0];exact jE (by rw[aL,hv];rfl)
    exact{_,rfl,_,rfl,fe,_,_,_,rfl,rfl,aY.of zu,rfl,_,rfl,_,_,rfl,.inl {_,xS.sq,rfl},_,_,rfl,rfl,c3,_,_,_,_,rfl,rfl,xS.sq,ev,tl _ _ ⟨p',q',r',v,rfl,zu,F1,uH,fL,xS,ex⟩}
 ·--feed[0];feed[3]+1
  refine{_,rfl,fe,_,_,_,rfl,rfl,aY.of hf,rfl,?_};refine{_,rfl,fe,_,_,_,rfl,rfl,aY.of hf,rfl,_,_,rfl,rfl,_,rfl,fe,_,_,_,rfl,rfl,hf,rfl,?_};have Bc:upd H fe (.lst [.ref a,.int p,.int q,.int (r+1)]) fe=some (.lst [.ref a,.int p,.int q,.int (r+1)]):=au;have To:wW K (upd H fe (.lst [.ref a,.int p,.int q,.int (r+1)])) a (-51):=hS.but hf;have qR:Ext fe H (upd H fe (.lst [.ref a,.int p,.int q,.int (r+1)])):=(Ext.refl fe H).feed _;refine{_,rfl,fe,_,_,_,rfl,rfl,aY.of Bc,rfl,rfl,_,rfl,?_};refine gO (λc=>?_) (λc=>tl _ _ {p,q,r+1,rfl,Bc,hp,hq,by lia,To,qR})
  ·refine{_,rfl,fe,_,_,_,rfl,rfl,aY.of Bc,rfl,_,rfl,_,_,rfl,.inl {_,To.sq,rfl},_,_,rfl,rfl,_,rfl,?_};refine gO (λc2=>?_) (λc2=>tl _ _ {p,q,r+1,rfl,Bc,hp,hq,by lia,To,qR})
   ·have c3:=aW c2;obtain⟨v,hv⟩:∃v,ns[p.toNat]?=some v:={_,ao (by rw[<-nl];lia)};have ev:pX (-51) p=some (.int v):=by
     have e0:p=((p.toNat:Nat):Int):=by lia
     rw[e0];exact jE (by rw[aL,hv];rfl)
    refine{_,rfl,_,rfl,fe,_,_,_,rfl,rfl,aY.of Bc,rfl,_,_,_,_,rfl,rfl,To.sq,ev,_,rfl,_,_,rfl,rfl,{by decide,by decide,by decide},_,_,rfl,rfl,{by decide,by decide+kernel},_,rfl,fe,_,_,_,rfl,rfl,Bc,rfl,?_};refine{_,rfl,fe,_,_,_,rfl,rfl,aY.of au,rfl,_,_,rfl,rfl,_,rfl,fe,_,_,_,rfl,rfl,au,rfl,?_};refine tl _ _ {p+1,_,r+1,rfl,au,by lia,Int.ediv_nonneg ?_ (-9),by lia,(To.but Bc).but au,(qR.feed _).feed _}
    ·split<;>lia
def HM:cK ["_law_feed_here","_law_pool_here","_law_many","_law_start"] ["_law_feed_here","_law_pool_here","_law_many"] (defScope EC):=jV (-3)
structure Dr(P:Program)(w:World)(K:Frag)(mg:Aab)(base:Heap):Prop where
 fB:dz P w K mg base 1 "_law_draw" ["_law_feed_here","_law_many"] (BC K)
structure Dr2(P:Program)(w:World)(K:Frag)(mg:Aab)(base:Heap):Prop extends Dr P w K mg base where
 Li:dz P w K mg base 2 "_law_pool" ["_law_feed_here","_law_pool_here","_law_many"] (Q1 K)
def ZA(F:fJ K "_law_pool" "_law_pool" EC f fd)(T:Txt K mg)(D:Dr P w K mg base):dy P w K mg base f9 2 f fd ["_law_feed_here","_law_pool_here","_law_many"] (Q1 K):=by
 refine F.ok HM (λ_ _ _ _ h=>by cases h;subst_vars;rfl) (-4);obtain⟨fe,pl,many,xs,rfl,hF,npl,rX,D2,hx2,hm1,S4,k⟩:=h;refine{_,(aO (mM (i:=3) HM.nd rfl (Or.inr rfl) (cl D.fB hr (dA (pv 0) (bZ eC rfl T.fZ bP (-88))))) (bx (cW (iQ rfl (df (fs:=["_law_pool_here","_law_start"]) (fr:=[1,3])) (kj rfl T.mV (cc (pv 2))) (λ_ _ _ _=>(cM (AA) (pv 1) (du rO (du jW (pv 2) (pv 0)) (bZ (qV) rfl T.fZ bP (-88))) (-12))))))),?_}
 refine{_,rfl,_,rfl,_,_,rfl,.inl {_,aY.of rX,rfl},fe,_,rfl,hF,by lia,by lia,λi H1 i0 i1 wM qR=>?_};have ab2:=qR _ _ npl rX;refine{_,rfl,many,rfl,by lia,by lia,λj m ys H2=>H2=H1/\j<=many.toNat/\m=many.toNat -j/\ys.length=j/\(∀y∈ys,y∈xs)/\∀t,t<j->ys[t]?=xs[((i+(0+(t:Int))) %(xs.length:Int)).toNat]?,{_,rfl,aQ _,rfl,rfl,λy hy=>(by cases hy),λt ht=>absurd ht (f6 _)},?_};rintro j m ys H2 ⟨rfl,hj,rfl,hl,hy,hro⟩;by_cases cE:j<many.toNat
 ·refine .inr {cE,by rw[hl];exact bO ∅,?_};rintro v H3 ⟨rfl,rfl⟩;have q0:(0:Int)<(xs.length:Int):=by lia
  have q1:=iM (i+(0+(j:Int))) (show(xs.length:Int)≠0 by lia);have q2:=iu (i+(0+(j:Int))) q0;obtain⟨v,hv⟩:∃v,xs[((i+(0+(j:Int))) %(xs.length:Int)).toNat]?=some v:={_,ao ∅};have ev:pX xs ((i+(0+(j:Int))) %(xs.length:Int))=some v:=by
   have e0:(i+(0+(j:Int))) %(xs.length:Int)=((((i+(0+(j:Int))) %(xs.length:Int)).toNat:Nat):Int):=by lia
   rw[e0];exact jE hv
  refine{_,rfl,_,rfl,_,rfl,_,_,rfl,rfl,_,rfl,_,_,rfl,.inl {_,aY.of ab2,rfl},_,_,rfl,rfl,q0,_,_,_,_,rfl,rfl,aY.of ab2,ev,?_};refine{many.toNat -(j+1),by lia,rfl,cE,rfl,by rw[aC,hl];rfl,λy Iy=>?_,λt ht=>?_}
  ·rcases aP.mp Iy with z|z
   ·exact hy y z
   ·rw[ax.mp z];exact az hv
  ·by_cases c:t=j
   ·rw[c,bU ∅,hl,lW,hv];rfl
   ·rw[cN ∅];exact hro t ∅
 ·refine .inl {by show many.toNat<=j;lia,by rw[hl];exact bo (bO ∅),λl mO=>?_};exact k l ys _ (wM.new mO _) (qR.new mO _) (wM.o9 mO) au ∅ hy λnd le=>HU nd ∅ λt ht=>hro t ∅
def O6:cK ["_law_feed_here"] ["_law_feed_here"] (defScope BI):=jV (-3)
def Ar(F:fJ K "_law_names" "_law_names" BI f fd)(T:Txt K mg)(D:Dr2 P w K mg base):dy P w K mg base f9 3 f fd ["_law_feed_here"] (Fq K qL 3):=by refine F.ok O6 (λ_ _ _ _ h=>by cases h;subst_vars;rfl) (-4);obtain⟨fe,rfl,hF,k⟩:=h;refine{_,(bx (cW (cl D.Li hr (rN (pv 0) (fY (fC dG (fC dG (fC dG (rN dG dG dG))))) (du jW aX (-30)))))),?_};refine{_,rfl,(by show 6<=sizeLine;decide),λp hp=>?_};have np:=hF.o9 hp;refine{_,rfl,fe,3,rfl,hF.new hp _,by decide,by decide,λi H1 i0 i1 wM qR=>?_};exact{_,_,rfl,rfl,fe,p,_,_,rfl,wM,np,(qR p _ np au),by decide,by decide,by lia,by lia,λr ys H2 se oh nr xO hl hy LB=>k r ys H2 se (((Ext.refl fe H).new hp _).trans (qR.trans oh)) nr xO ∅ ∅ hy (LB (As (l:=qL) (-3)) (by show _<=(6:Int);lia))}
def Ms:cK ["_law_feed_here"] ["_law_feed_here"] (defScope Ab):=jV (-3)
def RN(F:fJ K "_law_values" "_law_values" Ab f fd)(T:Txt K mg)(D:Dr2 P w K mg base):dy P w K mg base f9 3 f fd ["_law_feed_here"] (Fq K eA 4):=by refine F.ok Ms (λ_ _ _ _ h=>by cases h;subst_vars;rfl) (-4);obtain⟨fe,rfl,hF,k⟩:=h;refine{_,(bx (cW (cl D.Li hr (rN (pv 0) (fY (fC dG (fC dG (fC dG (fC dG (fC dG (rN dG dG dG))))))) (du jW aX (-30)))))),?_};refine{_,rfl,(by show 8<=sizeLine;decide),λp hp=>?_};have np:=hF.o9 hp;refine{_,rfl,fe,4,rfl,hF.new hp _,by decide,by decide,λi H1 i0 i1 wM qR=>?_};exact{_,_,rfl,rfl,fe,p,_,_,rfl,wM,np,(qR p _ np au),by decide,by decide,by lia,by lia,λr ys H2 se oh nr xO hl hy LB=>k r ys H2 se (((Ext.refl fe H).new hp _).trans (qR.trans oh)) nr xO ∅ ∅ hy (LB (As (l:=eA) (-3)) (by show _<=(8:Int);lia))}
def Xn(hg:Gl X x)(hm:X.mg x=none)(hv:bootBuiltins x=some (.type n))(hn:x≠"__name__":=by decide)(hd:(-27)=false:=by decide):PE X (.Name x pos) (tC (.ty n)):=Zx hg hm hv rfl hn hd
def SIGNS:Str:="abcdefghijklmnopqrstuvwxyz0123456789"
def sgn(c:Nat):Bool:=!(Builtin.Str.occurrences SIGNS ⟨#[c]⟩ 0 SIGNS.length 1).isEmpty
def isVal(s:Str):Bool:=decide ((1:Int)<=(s.length:Int))&&(decide ((s.length:Int)<=8)&&(s.cps.toList.map sgn).all id)
def isUnk(s:Str):Bool:=Txt.startswith s "?"&&isVal (Txt.slice s (some 1) none)
inductive Xc(vs:Aam)(H:Hp)(Q:VK)(_x3:XK):Prop
 |mk (z:Str) (_:vs=[.str z]) (_:z.length<=1000) (_:∀H',bI H H'->Q (.bl (isVal z)) H')
inductive Xd(vs:Aam)(H:Hp)(Q:VK)(_x3:XK):Prop
 |mk (z:Str) (_:vs=[.str z]) (_:z.length<=1000) (_:∀H',bI H H'->Q (.bl (isUnk z)) H')
def aK(h:H p=none)(o:HO):bI H (upd H p o):=λb u q=>by rw[ay (aZ q h)];exact q
def Lk(t:Value):kitOne K t t=some true:=by unfold kitOne;rw[aG (wO t)]
def Mu:cK ["thing"] ["thing"] (defScope Af):=jV (-3)
def MD(F:fJ K "is_value" "is_value" Af f fd)(T:Txt K mg):dy P w K mg base f9 1 f fd ["thing"] Xc:=by
 refine F.ok Mu (λ_ _ _ _ h=>by cases h;subst_vars;rfl) (-4);obtain⟨z,rfl,hz,k⟩:=h;refine{_,(aO (ka (FC (yV (bZ El rfl T.BY (-3) (dA (pv 0) (Xn (n:="str") rfl T.Py (-3)))))) (bx (cW ue)) gN) (bx (cW (KG (Vr Pr Pr aX (bZ eC rfl T.fZ bP (cc (pv 0))) (Vq rfl T.LR)) (RA (bZ (zD rfl) rfl T.XA boot_all (cc (iQ rfl (df (fs:=[]) (fr:=[])) (Rx (pv 0)) (λ_ _ _ _=>(yZ RH (pv 0) (Vp rfl T.ZX) (-36))))))))))),?_}
 refine{_,rfl,_,_,_,true,rfl,qC.str z,Lk _,_,rfl,?_};refine yq ?_;refine{_,rfl,_,_,rfl,{(bo (bO hz)),rfl},_,_,rfl,rfl,_,rfl,?_};refine gO (λc1=>?_) (λc1=>?_)
 ·refine{_,_,rfl,rfl,_,rfl,?_};refine gO (λc2=>?_) (λc2=>?_)
  ·refine{_,rfl,_,rfl,λi m ys H2=>H2=H/\i<=z.cps.size/\m=z.cps.size -i/\ys=((z.cps.toList.take i).map sgn).map V.bl,{_,rfl,aQ _,rfl,rfl},?_};rintro i m ys H2 ⟨rfl,hi,rfl,rfl⟩;have hl:∀j,(((z.cps.toList.take j).map sgn).map V.bl).length<=1000:=λj=>by
    rw[af,af,aR];have:z.cps.toList.length=z.length:=by simp[Str.length]
    lia
   by_cases cE:i<z.cps.size
   ·refine .inr {cE,bO (hl i),?_};rintro v H3 ⟨rfl,c,hc,rfl⟩;refine{_,rfl,_,_,rfl,rfl,_,Nat.sub_lt_sub_left cE (c7 i),rfl,cE,rfl,?_}
    ·have Ed:z.cps.toList[i]?=some c:=by simpa using hc
     rw[a9,Ed,aD,aD];rfl
   ·have e:i=z.cps.size:=by lia
    refine .inl {e,bo (bO (hl i)),λl mO=>?_};refine{_,(z.cps.toList.take i).map sgn,rfl,aY.of au,?_};have ev:isVal z=((z.cps.toList.take i).map sgn).all id:=by unfold isVal;rw[c1,c2,(cX (by rw[e];simp)),jU,jU]
    rw[<-ev];exact k _ (aK mO _)
  ·have ev:isVal z=false:=by unfold isVal;rw[gX.mpr c2,t6,zO]
   have q:=k H (bI.refl H);rw[ev]at q;exact q
 ·have ev:isVal z=false:=by unfold isVal;rw[gX.mpr c1,t6]
  have q:=k H (bI.refl H);rw[ev]at q;exact{_,rfl,yq q}
structure Dv(P:Program)(w:World)(K:Frag)(mg:Aab)(base:Heap):Prop where
 is_value:dz P w K mg base 1 "is_value" ["thing"] Xc
def Jd:cK ["thing"] ["thing"] (defScope wq):=jV (-3)
def slice_le(z:Str):(Txt.slice z (some 1) none).length<=z.length:=sC z _ _
def Je(F:fJ K "is_unknown" "is_unknown" wq f fd)(T:Txt K mg)(D:Dv P w K mg base):dy P w K mg base f9 2 f fd ["thing"] Xd:=by
 refine F.ok Jd (λ_ _ _ _ h=>by cases h;subst_vars;rfl) (-4);obtain⟨z,rfl,hz,k⟩:=h;refine{_,(bx (cW (KG (bZ El rfl T.BY (-3) (dA (pv 0) (Xn (n:="str") rfl T.Py (-3)))) (KG (oS PySem.F.plainAttrs_str PySem.F.slot_str_startswith PySem.F.type_str_startswith Jf (pv 0) (cc dG)) (RA (cl D.is_value hr (cc (Al Q8 (pv 0) (yX aX) GQ)))))))),?_};refine{_,rfl,_,_,_,true,rfl,qC.str z,Lk _,_,rfl,?_};refine Lm ?_;refine{_,rfl,rfl,_,_,rfl,rfl,_,rfl,?_};refine gO (λc1=>?_) (λc1=>?_)
 ·refine{_,rfl,_,rfl,_,rfl,(bo (bO hz)),_,rfl,aJ (slice_le z) hz,λH' sm=>?_};have ev:isUnk z=isVal (Txt.slice z (some 1) none):=by unfold isUnk;rw[c1,jU]
  rw[<-ev];exact k H' sm
 ·have ev:isUnk z=false:=by unfold isUnk;rw[gX.mpr c1,t6]
  have q:=k H (bI.refl H);rw[ev]at q;exact q
def Paired.uc(h:Paired F aad aac)(q:F a b):Paired F (aad++[a]) (aac++[b]):=h.snoc q
theorem Paired.at:∀{aad:List α}{aac:List β}{i:Nat}{x:α},Paired F aad aac->aad[i]?=some x->∃y,aac[i]?=some y/\F x y
 |_,_,_,_,.nil,e=>by simp at e
 |_,_,0,_,.cons r _,e=>by simp at e;subst e;exact⟨_,rfl,r⟩
 |_,_,i+1,x,.cons _ t,e=>by obtain⟨y,h1,h2⟩:=Paired.at (i:=i) (x:=x) t (by simpa using e);exact{y,by simpa using h1,h2}
theorem C1{texts:Aaf}:∀{ys:Aam},(∀y∈ys,y∈texts.map V.str)->∃zs:Aaf,ys=zs.map V.str/\∀z∈zs,z∈texts
 |[],_=>{[],rfl,λ_ h=>by cases h}
 |y::r,h=>by
  obtain⟨zs,e,hz⟩:=C1 λy hy=>h y (aB _ hy);obtain⟨z,vt,e1⟩:=ar.mp (h y aA);refine{z::zs,by rw[bw,e1,<-e],λw hw=>?_};rcases aH.mp hw with rfl|hw
  ·exact vt
  ·exact hz w hw
def hV:Aaf:=g6++eA++(["x"]:Aaf)
def kZ{zs:Aaf}(h0:0<=i)(h1:i<(zs.length:Int)):∃z,z∈zs/\pX (-70) i=some (.str z):=by
 obtain⟨z,hz⟩:∃z,zs[i.toNat]?=some z:={_,ao ∅};refine{z,az hz,?_};have e:i=((i.toNat:Nat):Int):=by lia
 rw[e];exact jE (by rw[aL,hz];rfl)
@[irreducible] noncomputable def Ja(X:Cx)(e:Expr)(t:TE):Prop:=PE X e t
def Xo(h:Ja X e t):PE X e t:=by unfold Ja at h;exact h
def Ry:Ja X (.Dict [some (.Constant (.str s0) j0 p0),some (.Constant (.str s1) j1 p1),some (.Constant (.str s2) j2 p2),some (.Constant (.str s3) j3 p3),some (.Constant (.str s4) j4 p4)] [(.Constant (.int i0) k0 q0),(.Constant (.int i1) k1 q1),(.Constant (.int i2) k2 q2),(.Constant (.int i3) k3 q3),(.Constant (.int i4) k4 q4)] pos) (Xa [(tC (.str s0),tC (.int i0)),(tC (.str s1),tC (.int i1)),(tC (.str s2),tC (.int i2)),(tC (.str s3),tC (.int i3)),(tC (.str s4),tC (.int i4))]):=by unfold Ja;exact NR (qv dG aX (qv dG aX (qv dG aX (qv dG aX (qv dG aX GP))))) rfl rfl (-8) (by show 5<=15;decide)
def Ul:attributeBase (.Dict ks vs p) m env ev=ev:=rfl
def UJ:backTo eU (starEach [.Name x p,.Constant c k q] env)=[(false,eval (.Name x p) env),(false,eval (.Constant c k q) env)]:=rfl
def acr:((backTo eU (starEach [.Name x p,.Constant c k q] env)).all (λx=>!x.1)&&(backToKw eU (keywordEach [] env)).all (λx=>x.1.isSome)
  &&decide (([.Name x p,.Constant c k q]:List Expr).length+([]:List Keyword).length+(-57)<30))=true:=rfl
def Zo(hu:X.A.units+1<cLine)(ho:Ja X o td)(hx:PE X (.Name x px) tx)(line:(-80)=true)
  (hb:∀ev:Sem Value,attributeBase o "get" X.env ev=ev):Ja X (.Call (.Attribute o "get" apos) [.Name x px,.Constant (.int d) jd pd] [] eU) (QX td tx (tC (.int d))):=by
 unfold Ja;exact Am hu (Xo ho) hx aX {hb _,acr,line,UJ}
def aa6{C:L2.St->Hp->Prop}(h:Ja X e te)(q:∀Z H,C Z H->te Z H D.rt):∃t2,lV X [.Return (some e) afU] t2/\∀Z H,C Z H->t2 D Z H:=
 {_,bx (cW (Xo h)),q}
noncomputable def G1:List (Key×V):=[(.inr "r",.int 2),(.inr "s",.int 1),(.inr "rs",.int 2),(.inr "r1",.int 3),(.inr "a",.int 2)]
def ZO:((gz [] G1).all λp=>match p.2 with| .int i=>decide (1<=i/\i<=4)|_=>false)=true:=by decide+kernel
def VH(k:Key):∃i:Int,(fG (gz [] G1) k).getD (.int 1)=.int i/\1<=i/\i<=4:=by
 cases e:fG (gz [] G1) k with
 |none=>exact{1,rfl,by lia,by lia}
 |some v=>
  obtain⟨p,hp,e2⟩:=bq.mp e;have q:=d8.mp ZO p (eY hp);rw[e2]at q;cases v with
  |int i=>exact{i,rfl,(aW q).1,(aW q).2}
  |_=>exact absurd q bu
def Mt:cK ["_law_feed_here","_law_name"] ["_law_feed_here","_law_name"] (defScope Ae):=jV (-3)
def RR(F:fJ K "_law_length" "_law_length" Ae f fd)(T:Txt K mg)(D:Dr P w K mg base):dy P w K mg base f9 2 f fd ["_law_feed_here","_law_name"] (zY K):=by
 refine F.ok Mt (λ_ _ _ _ h=>by cases h;subst_vars;rfl) (-4);obtain⟨fe,n,rfl,hF,k⟩:=h;refine cut 1 (λZ H1=>Z=[some (.ref fe),some (.str n)]/\dQ K fe H1/\Ext fe H H1) (aa6 (Zo (rW hr) Ry (pv 1) rfl (λ_=>Ul)) ?_) (λt2 ht=>{_,(aO (ka (eG Ap (-30) aX (gQ _)) (bx (cW (du jW aX (-30)))) gN) ht),λtl=>?_})
 case refine_2=>
  refine{_,rfl,fe,9,rfl,hF,by decide,by decide,λi H1 i0 i1 wM qR=>?_};refine{rfl,_,rfl,?_};refine gO (λc=>?_) (λc=>tl _ _ ⟨rfl,wM,qR⟩)
  ·refine{_,rfl,fe,4,rfl,wM,by decide,by decide,λj H2 j0 j1 se oh=>?_};exact{_,_,rfl,rfl,k _ H2 ∅ ∅ se (qR.trans oh)}
 case refine_1=>
  rintro Z H1 ⟨rfl,wM,qR⟩;intro p hp;refine{au,G1,?_,?_,?_}
  ·show[((V.str "r",V.int 2):V×V),(.str "s",.int 1),(.str "rs",.int 2),(.str "r1",.int 3),(.str "a",.int 2)]=_;rfl
  ·show 5<=15;decide
  have e1:upd (upd H1 p (.dK [])) p (.dK (gz [] G1)) p=some (.dK (gz [] G1)):=au;refine{p,rfl,.inl {_,.inl e1},?_};refine{_,rfl,?_};refine{_,pR.k (k:=Sum.inr n) e1,?_};obtain⟨i,e,h1,h2⟩:=VH (Sum.inr n);rw[e];refine k i _ h1 h2 ?_ ?_
  ·rw[Nc];exact wM.new hp _
  ·rw[Nc];exact qR.new hp _
def GB:Aaf:=qL++(["other"]:Aaf)
def Kb(h:∀R:L2.St->Hp->Prop,(∀σ' H',u D σ' H'->R σ' H')->t {D with nx:=R} Z H):Ex t u D Z H:=h (u D) λ_ _ x=>x
abbrev qi(f:Addr)(H:Hp):Aam->T7->Prop:=Paired λ(y:V)(r:Aaf)=>∃b,y=.ref b/\b≠f/\H b=some (.tup (r.map V.str))
def zM(r:Aaf):Prop:=1<=r.length/\r.length<=4/\∀z∈r,z∈eA
def Cz(f:Addr)(H:Hp)(kv:Key×V):Prop:=∃(z:Str)(a:Addr)(ys:Aam)(rows:T7),kv=(Sum.inr z,.ref a)/\z∈GB/\a≠f/\H a=some (-39)/\qi f H ys rows/\(∀r∈rows,zM r)/\rows.length<=7
def TabAt(f:Addr)(H:Hp)(d:Addr)(kvs:List (Key×V)):Prop:=d≠f/\H d=some (.dK kvs)/\(kvs.map (·.1)).Nodup/\kvs.length<=4/\∀kv∈kvs,Cz f H kv
variable{f:Addr}{H H':Hp}
def rG(h:qi f H ys rows)(e:Ext f H H'):qi f H' ys rows:=
 Paired.u4 h λy r ⟨b,e1,n,hb⟩=>{b,e1,n,e _ _ n hb}
def U8{K:Frag}(h:qi f H ys rows):dJ K H ys rows:=
 Paired.u4 h λy r ⟨b,e1,n,hb⟩=>{b,e1,bC.of hb}
def Cz.keep(h:Cz f H kv)(e:Ext f H H'):Cz f H' kv:=by obtain⟨z,a,ys,rows,e1,hz,na,ha,hr,hg,hl⟩:=h;exact{z,a,ys,rows,e1,hz,na,e _ _ na ha,rG hr e,hg,hl}
def dQ.dic{K:Frag}(h:dQ K f H)(hp:H p=some (.dK xs))(n:p≠f)(o:HO):dQ K f (upd H p o):=by
 obtain⟨a,ns,x,y,z,hf,h1,h2,h3,hS,hn⟩:=h;refine{a,ns,x,y,z,ay n.symm▸hf,h1,h2,h3,?_,hn};rcases hS with⟨ob,h⟩|h
 ·exact .inl {ob,by rw[ay (oU h hp λz=>by cases z)];exact h}
 ·exact .inr h
def Vh{k:Key}{v:V}:(putK kvs k v).length<=kvs.length+1:=by
 unfold putK;split
 ·rw[af];lia
 ·rw[aC];exact ak _
def Vg{k:Key}{v:V}{p:Key×V}(h:p∈putK kvs k v):p∈kvs\/p=(k,v):=by
 unfold putK at h;split at h
 ·obtain⟨q,hq,rfl⟩:=ar.mp h;split
  next c=>exact .inr (by rw[c])
  next=>exact .inl hq
 ·rcases aP.mp h with q|q
  ·exact .inl q
  ·exact .inr (ax.mp q)
def Ph{k:Key}{v:V}(h:(kvs.map (·.1)).Nodup):((putK kvs k v).map (·.1)).Nodup:=by
 unfold putK;split
 ·rw[aV];have e:((λx:Key×V=>x.1)∘λkv:Key×V=>if kv.1=k then(kv.1,v)else kv)=λkv=>kv.1:=by funext kv;show(if kv.1=k then(kv.1,v)else kv).1=kv.1;split<;>rfl
  rw[e];exact h
 ·next c=>
  rw[aD];refine fR.mpr {h,by simp,λa ha b hb=>?_};rw[uR,ax]at hb;subst hb;rintro rfl;obtain⟨q,hq,e⟩:=ar.mp ha;exact c (ic.mpr {q,hq,aT e})
end
section
variable{P:Program}{w:World}{K:Frag}{mg:Aab}{base:Heap}
structure Dl(P:Program)(w:World)(K:Frag)(mg:Aab)(base:Heap):Prop extends Dr P w K mg base where
 wF:dz P w K mg base 2 "_law_length" ["_law_feed_here","_law_name"] (zY K)
inductive JU(K:Frag)(vs:Aam)(H:Hp)(Q:VK)(_x3:XK):Prop
 |mk (f nl vl:Addr) (sN dk:Aaf) (_:vs=[.ref f,.ref nl,.ref vl]) (_:dQ K f H) (_:nl≠f) (_:vl≠f) (_:H nl=some (.lst (sN.map V.str))) (_:sN.length<=4) (_:(∀z∈sN,z∈GB)) (_:H vl=some (.lst (dk.map V.str))) (_:1<=dk.length) (_:dk.length<=4) (_:(∀z∈dk,z∈eA)) (_:∀(d:Addr)(kvs:List (Key×V))(H':Hp),dQ K f H'->Ext f H H'->TabAt f H' d kvs->H d=none->Q (.ref d) H')
def pT:cK ["_law_feed_here","_law_names_here","_law_values_here","_law_tables_here","_law_name","_law_rows","_law_k"] ["_law_feed_here","_law_names_here","_law_values_here"] (defScope Ac):=jV (-3)
def RP(F:fJ K "_law_tables" "_law_tables" Ac f fd)(T:Txt K mg)(D:Dl P w K mg base):dy P w K mg base f9 3 f fd ["_law_feed_here","_law_names_here","_law_values_here"] (JU K):=by
 refine F.ok pT (λ_ _ _ _ h=>by cases h;subst_vars;rfl) (-4);obtain⟨fe,nl,vl,sN,dk,rfl,hF,FP,xD,IC,D9,hn3,D3,hv1,XS,hv3,k⟩:=h;refine{_,(aO (fX 3 pT nR) (aO (iG cz rfl (gf (pv 1)) (kR 4 pT) (aO (fX 5 pT (fY iY)) (aO (iG cz rfl (kj rfl T.mV (cc (-30))) (kR 6 pT) (bx (lL (oS dj gF gE qM (pv 5) (cc (dR d6 rfl T.jz (-3) (cc (iQ rfl (df (fs:=["_law_values_here","_law_feed_here"]) (fr:=[2,0])) (kj rfl T.mV (cc (cl D.wF hr (dA (pv 0) (pv 4))))) (λ_ _ _ _=>(cM (AA) (pv 1) (cl D.fB hr (dA (pv 2) (bZ (qV) rfl T.fZ bP (-88)))) (-12))))))))))) (aO (ka (PW.pt (Kl (eG Jp (bZ eC rfl T.fZ bP (cc (pv 5))) aX (gQ _)) (GN (eG Ap (-30) aX (gQ _))))) (bx (lL (oS dj gF gE qM (pv 5) (cc (cM eW (pv 5) aX (-12)))))) gN) (bx (ka (PW.pt (Xm (eG Jp (bZ eC rfl T.fZ bP (cc (pv 5))) aX (gQ _)) (Rt (eG Ap (-30) aX (gQ _))))) (bx (tH (rW hr) (pv 3) (pv 4) (pv 5) rfl)) gN)))))) (bx (cW (pv 3))))),?_}
 intro d hd;have nd:=hF.o9 hd;have lvl:(dk.map V.str).length=dk.length:=af _;have ae9:upd H d (.dK []) nl=some (.lst (sN.map V.str)):=by rw[ay (aZ IC hd)];exact IC
 refine{_,rfl,nl,rfl,{_,aY.of ae9},EW (xs:=sN.map V.str)
  (λi Z H2=>∃(x4 x5 x6:Aan)(kvs:List (Key×V)),Z=[some (.ref fe),some (.ref nl),some (.ref vl),some (.ref d),x4,x5,x6]/\dQ K fe H2/\Ext fe H H2/\H2 d=some (.dK kvs)/\(kvs.map (·.1)).Nodup/\kvs.length<=i/\∀kv∈kvs,Cz fe H2 kv)
  {none,none,none,[],rfl,hF.new hd _,(Ext.refl fe H).new hd _,au,lZ,ak _,λkv h=>by cases h} ?_ ?_ ?_}
 ·rintro i Z H2 hi ⟨x4,x5,x6,kvs,rfl,se,oh,hd2,NZ,g8,F4⟩;exact aY.of (oh _ _ FP IC)
 ·rintro i x Z H2 hx ⟨x4,x5,x6,kvs,rfl,se,oh,hd2,NZ,g8,F4⟩;obtain⟨z,hz,rfl⟩:=bq.mp (by rw[<-aL];exact hx);have li:=(aq.mp hz).1;refine{(-24),λrl Oh=>?_};have FL:=se.o9 Oh;have rl0:=oh.none FL Oh;refine{_,rfl,fe,7,rfl,se.new Oh _,by decide,by decide,λi3 H3 j0 j1 IJ xX=>?_};have afw:=((Ext.refl fe H2).new Oh _).trans xX;refine{_,rfl,by lia,by lia,uL
   (λj Z H4=>∃(y6:Aan)(ys:Aam)(rows:T7),Z=[some (.ref fe),some (.ref nl),some (.ref vl),some (.ref d),some (.str z),some (.ref rl),y6]/\dQ K fe H4/\Ext fe H2 H4/\H4 rl=some (-39)/\qi fe H4 ys rows/\(∀r∈rows,zM r)/\rows.length=j)
   {x6,[],[],rfl,IJ,afw,xX _ _ FL au,.nil,λr h=>(by cases h),rfl} ?_ ?_}
  ·rintro j Z H4 hj ⟨y6,ys,rows,rfl,xT,vy,G5,xN,IH,S7⟩;have ly:=xN.length;refine{_,rfl,.inl {rfl,_,aY.of G5},_,rfl,_,rfl,fe,z,rfl,xT,λi6 H6 l1 l2 wL nA=>?_};refine{_,rfl,by lia,by lia,λj m zs H7=>∃ts:Aaf,zs=ts.map V.str/\ts.length=j/\j<=i6.toNat/\m=i6.toNat -j/\dQ K fe H7/\Ext fe H6 H7/\∀t∈ts,t∈eA,{_,[],rfl,rfl,aQ _,rfl,wL,Ext.refl _ _,λt h=>by cases h},?_};rintro j5 m5 zs H7 ⟨ts,rfl,cE,hle,rfl,og,jC,nY⟩;have acs:=(vy.trans nA).trans jC;by_cases Sf:j5<i6.toNat
   ·refine .inr {Sf,by rw[af,cE];exact bO ∅,?_};rintro v H8 ⟨rfl,rfl⟩;have abU:=(oh.trans acs) _ _ xD D3;refine{_,rfl,_,rfl,_,rfl,_,_,rfl,.inl {_,aY.of abU,rfl},fe,_,rfl,og,by lia,by lia,λi8 H9 n0 n1 Bi qQ=>?_};obtain⟨z9,zj,LW⟩:=kZ (zs:=dk) n0 ∅;refine{_,_,_,_,rfl,rfl,aY.of (qQ _ _ xD abU),LW,?_};refine{i6.toNat -(j5+1),by lia,ts++[z9],by rw[aD];rfl,by rw[aC,cE];rfl,Sf,rfl,Bi,jC.trans qQ,λt h=>?_};rcases aP.mp h with q|q
    ·exact nY t q
    ·rw[ax.mp q];exact hv3 z9 zj
   ·refine .inl {by show i6.toNat<=j5;lia,by rw[af,cE];exact bo (bO ∅),λl hl=>?_};refine{_,_,rfl,.inl {aY.of au,λtt ny=>?_}};have V2:=jC _ _ FL (nA _ _ FL G5);have aeV:H7 tt=none:=by
     have:tt≠l:=λe=>by rw[e,au]at ny;cases ny
     rw[ay this]at ny;exact ny
    have n2:=aZ V2 aeV;have V1:upd (upd H7 l (.lst (-32))) tt (.tup (-32)) rl=some (-39):=by rw[ay n2,ay (aZ V2 hl)];exact V2
    refine{_,_,_,rfl,rfl,V1,bO ∅,?_};have sR:=og.new hl (.lst (-32));have x9:Ext fe H7 (upd (upd H7 l (.lst (-32))) tt (.tup (-32))):=((Ext.refl fe H7).new hl _).new ny _;have SU:qi fe (upd (upd (upd H7 l (.lst (-32))) tt (.tup (-32))) rl (.lst (ys++[.ref tt]))) (ys++[.ref tt]) (rows++[ts]):=by
     refine Paired.uc (Paired.u4 (rG xN ((nA.trans jC).trans x9)) λy r ⟨b,e1,nb,hb⟩=>{b,e1,nb,?_}) {tt,rfl,(sR.o9 ny),?_}
     ·rw[ay (oU hb V1 λz=>by cases z)];exact hb
     ·rw[ay n2.symm,au]
    refine{_,_,rows++[ts],rfl,(sR.new ny (.tup (-32))).lst V1 FL _,(acs.trans x9).own Oh _,au,SU,λr h=>?_,by rw[aC,S7];rfl};rcases aP.mp h with q|q
    ·exact IH r q
    ·rw[ax.mp q];exact{by lia,by lia,nY}
  ·rintro Z H4 ⟨y6,ys,rows,rfl,xT,vy,G5,xN,IH,S7⟩;have ly:=xN.length;have fin:∀(H5:Hp)(ys:Aam)(rows:T7),dQ K fe H5->Ext fe H2 H5->H5 rl=some (-39)->qi fe H5 ys rows->(∀r∈rows,zM r)->rows.length<=7->(∃(x4 x5 x6:Aan)(Ay:List (Key×V)),[some (V.ref fe),some (.ref nl),some (.ref vl),some (.ref d),some (.str z),some (.ref rl),y6]=[some (.ref fe),some (.ref nl),some (.ref vl),some (.ref d),x4,x5,x6]/\dQ K fe (upd H5 d (-50))/\Ext fe H (upd H5 d (-50))/\upd H5 d (-50) d=some (.dK Ay)/\(Ay.map (·.1)).Nodup/\Ay.length<=i+1/\∀kv∈Ay,Cz fe (upd H5 d (-50)) kv):=λH5 ys rows k9 ju ES X1 X8 rZ=>by
    have Yd:=ju _ _ nd hd2;have keep:∀{a:Addr}{o:HO},H5 a=some o->a≠d->upd H5 d (-50) a=some o:=λh n=>ay n▸h;have keepR:∀{ys:Aam}{rows:T7},qi fe H5 ys rows->qi fe (upd H5 d (-50)) ys rows:=λh=>Paired.u4 h λy r ⟨b,e1,nb,hb⟩=>{b,e1,nb,keep hb λe=>by rw[e,Yd]at hb;cases hb};refine{_,_,_,_,rfl,k9.dic Yd nd _,(oh.trans ju).own hd _,au,Ph NZ,aJ Vh (Nat.add_le_add_right g8 1),λkv lP=>?_};rcases Vg lP with q|rfl
    ·obtain⟨z',a,fW,Jm,e1,jn,na,ha,fL,uK,mO⟩:=(F4 kv q).keep ju;exact{z',a,fW,Jm,e1,jn,na,keep ha (λe=>by rw[e,Yd]at ha;cases ha),keepR fL,uK,mO}
    ·exact{z,rl,ys,rows,rfl,(hn3 z (az hz)),FL,keep ES (λe=>by rw[e,Yd]at ES;cases ES),keepR X1,X8,rZ}
   have fin2:∀(H5:Hp)(q:L2.St),q=[some (V.ref fe),some (.ref nl),some (.ref vl),some (.ref d),some (.str z),some (.ref rl),y6]->dQ K fe H5->Ext fe H2 H5->(∃(x4 x5 x6:Aan)(Ay:List (Key×V)),q=[some (.ref fe),some (.ref nl),some (.ref vl),some (.ref d),x4,x5,x6]/\dQ K fe H5/\Ext fe H H5/\H5 d=some (.dK Ay)/\(Ay.map (·.1)).Nodup/\Ay.length<=i+1/\∀kv∈Ay,Cz fe H5 kv):=λH5 q eq k9 ju=>
    {_,_,_,kvs,eq,k9,oh.trans ju,ju _ _ nd hd2,NZ,by lia,λkv h=>(F4 kv h).keep ju}
   with_reducible change Ex _ _ _ _ _
   refine Kb λR hR=>?_;have second:∀(H5:Hp)(ys:Aam)(rows:T7),dQ K fe H5->Ext fe H2 H5->H5 rl=some (-39)->qi fe H5 ys rows->(∀r∈rows,zM r)->rows.length<=7->R [some (V.ref fe),some (.ref nl),some (.ref vl),some (.ref d),some (.str z),some (.ref rl),y6] H5:=by
    intro H5 ys rows k9 ju ES X1 X8 rZ;refine hR _ _ ?_;refine{_,rfl,_,_,rfl,.inl {_,aY.of ES,rfl},_,_,rfl,rfl,_,rfl,?_};refine gO (λc=>?_) (λc=>?_)
    ·refine Lm ?_;exact{_,rfl,_,rfl,_,rfl,d,_,rfl,.inl {kvs,Sum.inr z,ju _ _ nd hd2,rfl,bO ∅,rfl},fin H5 ys rows k9 ju ES X1 X8 rZ}
    ·refine{_,rfl,fe,3,rfl,k9,by decide,by decide,λi6 H6 k0 k1 wL nA=>{rfl,_,rfl,?_}};have Hb:=ju.trans nA;refine gO (λc=>{_,rfl,_,rfl,_,rfl,d,_,rfl,.inl {kvs,Sum.inr z,Hb _ _ nd hd2,rfl,bO ∅,rfl},fin H6 ys rows wL Hb (nA _ _ FL ES) (rG X1 nA) X8 rZ}) (λc=>fin2 H6 _ rfl wL Hb)
   refine{_,rfl,_,_,rfl,.inl {_,aY.of G5,rfl},_,_,rfl,rfl,_,rfl,?_};refine gO (λc=>?_) (λc=>yq (second H4 ys rows xT vy G5 xN IH ∅))
   ·have c:=aW c;refine{_,rfl,fe,4,rfl,xT,by decide,by decide,λi6 H6 k0 k1 wL nA=>{rfl,_,rfl,?_}};have Hb:=vy.trans nA;have yt:=nA _ _ FL G5;have X0:=rG xN nA;refine gO (λc=>?_) (λc=>second H6 ys rows wL Hb yt X0 IH ∅)
    ·match ys,rows,X0,yt,IH,S7,ly with
     |[],_,_,_,_,_,_=>simp at*
     |y::fW,r::Jm,X0,yt,IH,S7,ly=>
      refine{_,rfl,.inl {rfl,_,aY.of yt},_,rfl,_,_,_,_,rfl,rfl,aY.of yt,(jE rfl:pX (y::fW) 0=some y),_,_,_,rfl,rfl,yt,bO ∅,?_};have hr7:qi fe (upd H6 rl (.lst (y::fW++[y]))) (y::fW++[y]) (r::Jm++[r]):=by
       have kp:∀(o:HO)(y:V)(r:Aaf),(∃b,y=.ref b/\b≠fe/\H6 b=some (.tup (r.map V.str)))->∃b,y=.ref b/\b≠fe/\upd H6 rl o b=some (.tup (r.map V.str)):=λo y r ⟨b,e1,nb,hb⟩=>{b,e1,nb,by rw[ay (oU hb yt λz=>by cases z)];exact hb};cases X0 with
       |cons h0 ht=>exact Paired.uc (.cons (kp _ _ _ h0) (Paired.u4 ht (kp _))) (kp _ _ _ h0)
      refine second _ _ (r::Jm++[r]) (wL.lst yt FL _) (Hb.own Oh _) au hr7 (λr' h=>?_) (by rw[aC,S7];show i3.toNat+1<=7;lia);rcases aP.mp h with q|q
      ·exact IH r' q
      ·rw[ax.mp q];exact IH r aA
 ·rintro Z H2 ⟨x4,x5,x6,kvs,rfl,se,oh,hd2,NZ,g8,F4⟩;rw[af]at g8;exact{_,rfl,k d kvs H2 se oh {nd,hd2,NZ,by lia,F4} hd}
def hX(H H':Hp):Prop:=∀b xs,H b=some (.tup xs)->H' b=some (.tup xs)
def hX.trans(a:hX H H1)(b:hX H1 H2):hX H H2:=λc xs h=>b c xs (a c xs h)
def hX.of{H H':Hp}(a:bI H H'):hX H H':=λc xs h=>a c _ h
def hX.refl(H:Hp):hX H H:=λ_ _ h=>h
def hX.new(a:hX H H1)(h:H1 p=none)(o:HO):hX H (upd H1 p o):=λb xs q=>by rw[ay (aZ (a b xs q) h)];exact a b xs q
def hX.lst(a:hX H H1)(h:H1 p=some (-39))(o:HO):hX H (upd H1 p o):=λb xs q=>by rw[ay (oU (a b xs q) h λz=>by cases z)];exact a b xs q
def hX.ext(hf:H f=some (-39))(a:Ext f H H1):hX H H1:=λb xs q=>a b _ (oU q hf λz=>by cases z) q
def dQ.lH{K:Frag}(h:dQ K f H)(a:Ext f H H1):hX H H1:=by obtain⟨_,_,_,_,_,hf,_⟩:=h;exact hX.ext hf a
def oN(H:Hp)(v:V)(a:Str×Aaf):Prop:=∃(p t:Addr),v=.ref p/\H p=some (.tup [.str a.1,.ref t])/\H t=some (.tup (a.2.map V.str))
abbrev gP(H:Hp):Aam->T6->Prop:=Paired (oN H)
def oN.keep(a:hX H H')(h:oN H v b):oN H' v b:=by obtain⟨p,t,e,h1,h2⟩:=h;exact{p,t,e,a _ _ h1,a _ _ h2}
def gP.keep(a:hX H H')(h:gP H vs ats):gP H' vs ats:=Paired.imp' (λ_ _ q=>q.keep a) h
def sW(H:Hp)(v:V)(hz:Aaf)(ats:T6):Prop:=∃(q h a:Addr)(vs:Aam),v=.ref q/\H q=some (.tup [.ref h,.ref a])/\H h=some (.tup (hz.map V.str))/\H a=some (.tup vs)/\gP H vs ats
def AU:Aaf:=qL
def cS(ats:T6):Aaf:=(ats.map (·.2)).flatten
def Ql(l:T6)(a:Str×Aaf):cS (l++[a])=cS l++a.2:=by unfold cS;simp
def Gb{ats:T6}(h:ats[i]?=some a):cS (ats.take (i+1))=cS (ats.take i)++a.2:=by rw[a9,h];exact Ql _ _
def YU:(eA.all λz=>!isUnk z)=true:=by decide+kernel
def uU(hz:Aaf)(ats:T6):Prop:=hz.length<=4/\∀z∈hz,z∈hV/\(isUnk z=true->z∈cS ats)
def AV(H:Hp)(p:Addr)(zs:Aaf):Prop:=H p=some (.lst (-70))/\1<=zs.length/\zs.length<=8/\∀z∈zs,z∈hV
def Good(ats:T6):Prop:=∀a∈ats,a.2.length<=4/\(∀z∈a.2,z∈hV)/\1<=a.2.length/\a.1∈AU
end
inductive Fs(K:Frag)(vs:Aam)(H:Hp)(Q:VK)(_x3:XK):Prop
 |mk (f nl vl:Addr) (most:Int) (sN dk:Aaf) (_:vs=[.ref f,.ref nl,.ref vl,.int most]) (_:dQ K f H) (_:nl≠f) (_:vl≠f) (_:H nl=some (.lst (sN.map V.str))) (_:1<=sN.length) (_:sN.length<=8) (_:(∀z∈sN,z∈AU)) (_:AV H vl dk) (_:(∀z∈dk,z∈eA)) (_:1<=most) (_:most<=8) (_:∀(r:Addr)(hz:Aaf)(ats:T6)(H':Hp),dQ K f H'->Ext f H H'->sW H' (.ref r) hz ats->1<=ats.length->(ats.length:Int)<=most->Good ats->uU hz ats->Q (.ref r) H')
section
variable{P:Program}{w:World}{K:Frag}{mg:Aab}{base:Heap}
structure Dr3(P:Program)(w:World)(K:Frag)(mg:Aab)(base:Heap):Prop extends Dr2 P w K mg base where
 wF:dz P w K mg base 2 "_law_length" ["_law_feed_here","_law_name"] (zY K)
def VE(h:Good ats):∀z∈cS ats,z∈hV:=λz hz=>by obtain⟨ts,h1,h2⟩:=qE.mp hz;obtain⟨a,h3,rfl⟩:=ar.mp h1;exact(h a h3).2.1 z h2
theorem C6:∀l:T6,(∀a∈l,a.2.length<=4)->(cS l).length<=4*l.length
 |[],_=>ak _
 |a::r,q=>by have h1:=C6 r λts nY=>q ts (aB _ nY);have h2:=q a aA;show(a.2++cS r).length<=_;rw[aC,bA];lia
def Lg(h:Good ats)(n:Nat):(cS (ats.take n)).length<=4*n:=by
 have h1:=C6 (ats.take n) λts nY=>(h ts (kh nY)).1;have h2:(ats.take n).length<=n:=by rw[aR];lia
 lia
def eE:cK ["_law_feed_here","_law_names_here","_law_values_here","_law_most","_law_unknowns_here","_law_atoms","_law_k","_law_name","_law_terms","_law_j","_law_some","_law_head"] ["_law_feed_here","_law_names_here","_law_values_here","_law_most"] (defScope wo):=jV (-3)
def gw(h:∀T,T=u->Ex t T D Z H):Ex t u D Z H:=h u rfl
def dX{T t u:TS}{D:Ends}{Z:L2.St}{H:Hp}(e:T=Ex t u)(h:∀R,R=u->Ex t R D Z H):T D Z H:=e▸h u rfl
def v7{T u:TS}{D:Ends}{Z:L2.St}{H:Hp}(e:T=u)(h:u D Z H):T D Z H:=e▸h
def MB(F:fJ K "_law_question" "_law_question" wo f fd)(T:Txt K mg)(D:Dr3 P w K mg base):dy P w K mg base f9 3 f fd ["_law_feed_here","_law_names_here","_law_values_here","_law_most"] (Fs K):=by
 refine F.ok eE (λ_ _ _ _ h=>by cases h;subst_vars;rfl) (-4);obtain⟨fe,nl,vl,most,sN,dk,rfl,hF,FP,xD,IC,hn1,D9,hn3,D3,hvp,hm1,S4,k⟩:=h;refine{_,(aO (fX 4 eE (cl D.Li hr (rN (pv 0) (fY (fC dG (fC dG (fC dG (rN dG dG dG))))) (du jW aX (-30))))) (aO (fX 5 eE (fY iY)) (aO (iG cz rfl (kj rfl T.mV (cc (du jW aX (cl D.fB hr (dA (pv 0) (pv 3)))))) (kR 6 eE) (aO (fX 7 eE (cM eW (pv 1) (cl D.fB hr (dA (pv 0) (bZ eC rfl T.fZ bP (-88)))) (-12))) (aO (fX 8 eE (fY iY)) (aO (iG cz rfl (kj rfl T.mV (cc (cl D.wF hr (dA (pv 0) (pv 7))))) (kR 9 eE) (aO (fX 10 eE (cM eW (fY (fC (pv 4) (fC (pv 4) (rN (pv 4) (pv 4) (pv 2))))) (-30) (-12))) (bx (lL (oS dj gF gE qM (pv 8) (cc (cM eW (pv 10) (cl D.fB hr (dA (pv 0) (bZ eC rfl T.fZ bP (cc (pv 10))))) (-12)))))))) (bx (lL (oS dj gF gE qM (pv 5) (cc (iH (dA (pv 7) (dR d6 rfl T.jz (-3) (cc (pv 8))))))))))))) (aO (fX 10 eE (fY iY)) (aO (iG cz rfl (gf (pv 5)) (nQ rfl (dC (kR 7 eE) (dC (kR 8 eE) ku))) (bx (lL (oS dj oB oy PB (pv 10) (cc (pv 8)))))) (aO (fX 11 eE (fY iY)) (aO (iG cz rfl (kj rfl T.mV (cc (-30))) (kR 6 eE) (bx (lL (oS dj gF gE qM (pv 11) (cc (cM eW (du y7 (pv 10) (pv 2)) (cl D.fB hr (dA (pv 0) (du jW (bZ eC rfl T.fZ bP (cc (pv 10))) (bZ eC rfl T.fZ bP (cc (pv 2)))))) (-12))))))) (bx (cW (iH (dA (dR d6 rfl T.jz (-3) (cc (pv 11))) (dR d6 rfl T.jz (-3) (cc (pv 5)))))))))))))),?_}
 refine gw λT1 e1=>?_;refine{_,rfl,(by show 6<=sizeLine;decide),λp hp=>?_};have np:=hF.o9 hp;refine{_,rfl,fe,4,rfl,hF.new hp _,by decide,by decide,λi H1 i0 i1 wM qR=>?_};refine{_,_,rfl,rfl,fe,p,_,_,rfl,wM,np,(qR p _ np au),by decide,by decide,by lia,by lia,λu ys H2 se oh nu D6 hl hy _=>?_};obtain⟨us,rfl,D4⟩:=C1 (texts:=g6) hy;rw[af]at hl;have x2:=((Ext.refl fe H).new hp _).trans (qR.trans oh);have hU2:AV H2 u us:={D6,by lia,by lia,λz hz=>bH _ (bH _ (D4 z hz))};show T1 _ _ _;subst e1;refine gw λT2 e2=>?_;refine{(-24),λat' Tf=>?_};have na:=se.o9 Tf;have uj:∀{H3 H4:Hp}{q:Addr}{zs:Aaf},q≠fe->Ext fe H3 H4->AV H3 q zs->AV H4 q zs:=λn e h=>{e _ _ n h.1,h.2};have nua:=aZ hU2.1 Tf;show T2 _ _ _;subst e2;refine gw λT3 e3=>?_;refine{_,rfl,_,rfl,fe,most,rfl,se.new Tf _,by lia,by lia,λi3 H3 j0 j1 IJ xX=>?_};refine{_,_,rfl,rfl,_,rfl,by lia,by lia,uL
  (λi Z H4=>∃(x6 x7 x8 x9 Hx:Aan)(jo:Aam)(ats:T6),Z=[some (.ref fe),some (.ref nl),some (.ref vl),some (.int most),some (.ref u),some (.ref at'),x6,x7,x8,x9,Hx,none]/\dQ K fe H4/\Ext fe H H4/\H4 at'=some (.lst jo)/\gP H4 jo ats/\ats.length=i/\Good ats/\AV H4 u us) ?_ ?_ ?_}
 ·refine{none,none,none,none,none,[],[],rfl,IJ,(x2.new Tf _).trans xX,xX _ _ na au,.nil,rfl,λts h=>by(cases h),uj nu xX {?_,hU2.2}};rw[ay nua];exact hU2.1
 ·rintro i Z H4 hi ⟨x6,x7,x8,x9,Hx,jo,ats,rfl,xT,vy,Tp,qy,hlen,good,hU4⟩;refine gw λT4 e4=>?_;have lnm:(sN.map V.str).length=sN.length:=af _;refine{_,rfl,_,rfl,_,rfl,_,_,rfl,.inl {_,aY.of (vy _ _ FP IC),rfl},fe,_,rfl,xT,by lia,by lia,λi5 H5 k0 k1 k9 ju=>?_};have Wv:=vy.trans ju;obtain⟨z,hz,ev⟩:=kZ (zs:=sN) k0 ∅;refine{_,_,_,_,rfl,rfl,aY.of (Wv _ _ FP IC),ev,?_};show T4 _ _ _;subst e4;refine gw λT5 e5=>?_;refine{(-24),λt ht=>?_};have nt:=k9.o9 ht;have Ef:=ju _ _ na Tp;have hU5:=uj nu ju hU4;have nta:=aZ Ef ht;have nut:=aZ hU5.1 ht;show T5 _ _ _;subst e5;refine gw λT6 e6=>?_;refine{_,rfl,_,rfl,fe,z,rfl,k9.new ht _,λi6 H6 l1 l2 wL nA=>?_};refine{_,rfl,by lia,by lia,uL
   (λj Z H7=>∃(y9 y10:Aan)(ts:Aaf),Z=[some (.ref fe),some (.ref nl),some (.ref vl),some (.int most),some (.ref u),some (.ref at'),some (.int (0+(i:Int))),some (.str z),some (.ref t),y9,y10,none]/\dQ K fe H7/\Ext fe H H7/\H7 at'=some (.lst jo)/\gP H7 jo ats/\AV H7 u us/\H7 t=some (.lst (-32))/\ts.length=j/\∀z∈ts,z∈hV) ?_ ?_ ?_}
  ·have tu:=(xT.lH ju).trans (((hX.refl _).new ht _).trans ((k9.new ht _).lH nA));refine{x9,Hx,[],rfl,wL,(Wv.new ht _).trans nA,nA _ _ na (by rw[ay nta];exact Ef),qy.keep tu,uj nu nA {?_,hU5.2},nA _ _ nt au,rfl,λz h=>by(cases h)}
   ·rw[ay nut];exact hU5.1
  ·rintro j Z H7 hj ⟨y9,y10,ts,rfl,og,jC,Ee,Jt,Bf,Od,cE,nY⟩;refine gw λT7 e7=>?_;refine{_,rfl,_,rfl,_,rfl,_,rfl,_,rfl,(by show 5<=sizeLine;decide),λp8 SV=>?_};refine{_,rfl,fe,5,rfl,og.new SV _,by decide,by decide,λi8 H8 m0 m1 sR zy=>?_};have AD:=((Ext.refl fe H7).new SV _).trans zy;have tu8:=((hX.refl _).new SV _).trans ((og.new SV _).lH zy);obtain⟨wa,ws,hw,nw,ev8⟩:∃wa ws,AV H8 wa ws/\wa≠fe/\pX [V.ref u,.ref u,.ref u,.ref u,.ref vl] i8=some (.ref wa):=by
    have c:i8=0\/i8=1\/i8=2\/i8=3\/i8=4:=by lia
    rcases c with rfl|rfl|rfl|rfl|rfl
    ·exact{u,us,uj nu AD Bf,nu,rfl}
    ·exact{u,us,uj nu AD Bf,nu,rfl}
    ·exact{u,us,uj nu AD Bf,nu,rfl}
    ·exact{u,us,uj nu AD Bf,nu,rfl}
    ·exact{vl,dk,uj xD AD (uj xD jC D3),xD,rfl}
   refine{_,_,_,_,rfl,rfl,aY.of (zy _ _ (og.o9 SV) au),ev8,?_};subst e7;have Ls:=AD _ _ nt Od;have lws:(ws.map V.str).length=ws.length:=af _;have hw1:=hw.2.1;have hw2:=hw.2.2.1;refine{_,rfl,.inl {rfl,_,aY.of Ls},_,rfl,_,rfl,_,rfl,_,_,rfl,.inl {_,aY.of hw.1,rfl},fe,_,rfl,sR,by lia,by lia,λi9 H9 n0 n1 Bi qQ=>?_};obtain⟨z9,zj,LW⟩:=kZ (zs:=ws) n0 ∅;have ht9:=qQ _ _ nt Ls;refine{_,_,_,_,rfl,rfl,aY.of (qQ _ _ nw hw.1),LW,_,_,_,rfl,rfl,ht9,by rw[af];exact bO ∅,?_};refine{_,_,ts++[z9],rfl,Bi.lst ht9 nt _,(jC.trans (AD.trans qQ)).own (Wv.none nt ht) _,?_,Jt.keep ((tu8.trans (sR.lH qQ)).lst ht9 _),{?_,Bf.2},by rw[au,aD];rfl,by rw[aC,cE];rfl,λz h=>?_}
   ·rw[ay nta];exact qQ _ _ na (AD _ _ na Ee)
   ·rw[ay nut];exact qQ _ _ nu (AD _ _ nu Bf.1)
   ·rcases aP.mp h with q|q
    ·exact nY z q
    ·rw[ax.mp q];exact hw.2.2.2 z9 zj
  ·rintro Z H7 ⟨y9,y10,ts,rfl,og,jC,Ee,Jt,Bf,Od,cE,nY⟩;subst e6;refine{_,rfl,.inl {rfl,_,aY.of Ee},_,rfl,_,rfl,_,_,rfl,.inl {aY.of Od,λtt ny=>?_}};refine{(-17),λap Bd=>?_};have sR:=og.new ny (.tup (-32));have IK:upd (upd H7 tt (.tup (-32))) ap (.tup [.str z,.ref tt]) at'=some (.lst jo):=by rw[ay (aZ (by rw[ay (aZ Ee ny)];exact Ee) Bd),ay (aZ Ee ny)];exact Ee
   have la:=bh Jt;refine{_,_,_,rfl,rfl,IK,bO ∅,?_};have aef:ap≠at':=λe=>by rw[e,ay (aZ Ee ny),Ee]at Bd;cases Bd
   have aee:tt≠ap:=λe=>by rw[<-e,au]at Bd;cases Bd
   refine{_,_,_,_,_,jo++[.ref ap],ats++[(z,ts)],rfl,(sR.new Bd _).lst IK na _,((jC.new ny _).new Bd _).own (x2.none na Tf) _,au,Paired.uc (Jt.keep ((((hX.refl _).new ny _).new Bd _).lst IK _)) {ap,tt,rfl,?_,?_},by rw[aC,hlen];rfl,λkQ h=>?_,{?_,Bf.2}}
   ·rw[ay aef,au]
   ·rw[ay ((aZ Ee ny).symm),ay aee,au]
   ·rcases aP.mp h with q|q
    ·exact good kQ q
    ·rw[ax.mp q];exact{by show ts.length<=4;lia,nY,by show 1<=ts.length;lia,hn3 z hz}
   ·rw[ay nua,ay (aZ (by rw[ay (aZ Bf.1 ny)];exact Bf.1) Bd),ay (aZ Bf.1 ny)];exact Bf.1
 ·rintro Z H4 ⟨x6,x7,x8,x9,Hx,jo,ats,rfl,xT,vy,Tp,qy,hlen,good,hU4⟩;show T3 _ _ _;subst e3;refine gw λT8 e8=>?_;refine{(-24),λsm Oe=>?_};have Xr:=xT.o9 Oe;have nsa:=aZ Tp Oe;show T8 _ _ _;subst e8;refine gw λT11 e11=>?_;refine{_,rfl,at',rfl,{jo,aY.of (ay nsa▸Tp)},EW
   (λi Z H5=>∃(x7 x8:Aan),Z=[some (.ref fe),some (.ref nl),some (.ref vl),some (.int most),some (.ref u),some (.ref at'),x6,x7,x8,x9,some (.ref sm),none]/\dQ K fe H5/\Ext fe H H5/\H5 at'=some (.lst jo)/\gP H5 jo ats/\H5 sm=some (.lst ((cS (ats.take i)).map V.str)))
   {x7,x8,rfl,xT.new Oe _,vy.new Oe _,ay nsa▸Tp,qy.keep ((hX.refl _).new Oe _),au} (λi Z H5 _ hq=>by(obtain⟨_,_,_,_,_,h,_⟩:=hq;exact aY.of h)) ?_ ?_}
  ·rintro i x Z H5 hx ⟨x7,x8,rfl,k9,ju,Ef,Ju,Ca⟩;obtain⟨ta,ht,p,t,rfl,hp5,ht5⟩:=Paired.at Ju hx;refine{p,_,rfl,bC.of hp5,rfl,_,_,rfl,_,_,rfl,rfl,?_};have g:=good ta (az ht);have lf:=Lg good i;have hi:=(aq.mp ht).1;refine{_,rfl,.inl {rfl,_,aY.of Ca},_,rfl,_,_,_,_,rfl,rfl,Ca,bC.of ht5,?_,?_}
   ·rw[af,af];exact bo (bO ∅)
   ·refine{_,_,rfl,k9.lst Ca Xr _,ju.own (vy.none Xr Oe) _,ay nsa▸Ef,Ju.keep ((hX.refl _).lst Ca _),?_};rw[au,Gb ht,aD]
  ·rintro Z H5 ⟨x7,x8,rfl,k9,ju,Ef,Ju,Ca⟩;rw[(bh qy),bg]at Ca;have lf:=Lg good ats.length;rw[bg]at lf;show T11 _ _ _;subst e11;refine gw λT9 e9=>?_;refine{(-24),λhd Bb=>?_};have Xx:=k9.o9 Bb;have nha:=aZ Ef Bb;have nhs:=aZ Ca Bb;show T9 _ _ _;subst e9;refine gw λT10 e10=>?_;refine{_,rfl,fe,5,rfl,k9.new Bb _,by decide,by decide,λi7 H7 o0 o1 og jC=>?_};refine{_,rfl,by lia,by lia,uL
    (λi Z H8=>∃(y6:Aan)(hs:Aaf),Z=[some (.ref fe),some (.ref nl),some (.ref vl),some (.int most),some (.ref u),some (.ref at'),y6,x7,x8,x9,some (.ref sm),some (.ref hd)]/\dQ K fe H8/\Ext fe H H8/\H8 at'=some (.lst jo)/\gP H8 jo ats/\H8 sm=some (.lst ((cS ats).map V.str))/\H8 hd=some (.lst (hs.map V.str))/\hs.length=i/\∀z∈hs,z∈hV/\(isUnk z=true->z∈cS ats)) ?_ ?_ ?_}
   ·exact{x6,[],rfl,og,(ju.new Bb _).trans jC,jC _ _ na (ay nha▸Ef),Ju.keep (((hX.refl _).new Bb _).trans ((k9.new Bb _).lH jC)),jC _ _ Xr (ay nhs▸Ca),jC _ _ Xx au,rfl,λz h=>by cases h}
   ·rintro i Z H8 hi ⟨y6,hs,rfl,sR,zy,IK,Qd,Lv,Qa,Oj,SJ⟩;have Ow:=uj xD zy D3;have hv1:=Ow.2.1;have XS:=Ow.2.2.1;have l1:((cS ats).map V.str).length=(cS ats).length:=af _;have l2:(dk.map V.str).length=dk.length:=af _;refine{_,rfl,.inl {rfl,_,aY.of Qa},_,rfl,_,rfl,_,_,_,_,rfl,rfl,Lv,Ow.1,by rw[l1,l2];exact bo (bO ∅),λp9 Lz=>?_};have np9:=sR.o9 Lz;refine{_,rfl,_,rfl,_,_,rfl,.inl {_,aY.of (by rw[ay (aZ Lv Lz)];exact Lv),rfl},_,rfl,_,_,rfl,.inl {_,aY.of (by rw[ay (aZ Ow.1 Lz)];exact Ow.1),rfl},_,_,rfl,rfl,fe,_,rfl,sR.new Lz _,by lia,by lia,λXN qY r0 r1 afs Hc=>?_};have Jx:=((Ext.refl fe H8).new Lz _).trans Hc;obtain⟨v',hv⟩:∃v,((cS ats).map V.str++dk.map V.str)[XN.toNat]?=some v:={_,ao (by rw[aC];lia)};obtain⟨v,rfl,D3⟩:∃z:Str,v'=.str z/\z∈hV/\(isUnk z=true->z∈cS ats):=by
     rcases aP.mp (az hv)with h|h
     ·obtain⟨z,hz,rfl⟩:=ar.mp h;exact{z,rfl,VE good z hz,λ_=>hz}
     ·obtain⟨z,hz,rfl⟩:=ar.mp h;refine{z,rfl,Ow.2.2.2 z hz,λhu=>?_};have:=d8.mp YU z (hvp z hz);rw[hu]at this;cases this
    have ev:pX ((cS ats).map V.str++dk.map V.str) XN=some (.str v):=by
     have e:XN=((XN.toNat:Nat):Int):=by lia
     rw[e];exact jE hv
    have Qb:=Jx _ _ Xx Qa;refine{_,_,_,_,rfl,rfl,aY.of (Hc _ _ np9 au),ev,_,_,_,rfl,rfl,Qb,by rw[af];exact bO ∅,?_};exact{_,hs++[v],rfl,afs.lst Qb Xx _,(zy.trans Jx).own (ju.none Xx Bb) _,ay nha▸Jx _ _ na IK,Qd.keep ((((hX.refl _).new Lz _).trans ((sR.new Lz _).lH Hc)).lst Qb _),ay nhs▸Jx _ _ Xr Lv,by rw[au,aD];rfl,by rw[aC,Oj];rfl,λz h=>by
     rcases aP.mp h with h|h
     ·exact SJ z h
     ·rw[ax.mp h];exact D3}
   ·rintro Z H8 ⟨y6,hs,rfl,sR,zy,IK,Qd,Lv,Qa,Oj,SJ⟩;subst e10;refine{_,rfl,_,_,rfl,.inl {aY.of Qa,λth XU=>?_}};refine{_,rfl,_,_,rfl,.inl {aY.of (by rw[ay (aZ IK XU)];exact IK),λta wI=>?_}};refine{(-17),λq hq=>?_};have n1:th≠ta:=λe=>by rw[<-e,au]at wI;cases wI
    refine k q hs ats _ (((sR.new XU (.tup (hs.map V.str))).new wI (.tup jo)).new hq _) (((zy.new XU _).new wI _).new hq _) {q,th,ta,jo,rfl,au,?_,?_,Qd.keep ((((hX.refl _).new XU _).new wI _).new hq _)} ∅ ∅ good {by lia,SJ}
    ·rw[ay (λe=>by rw[<-e,ay n1,au]at hq;cases hq),ay n1,au]
    ·rw[ay (λe=>by rw[<-e,au]at hq;cases hq),au]
structure En where
 nm:Str
 ad:Addr
 ys:Aam
 rows:T7
def jX(e:En):Key×V:=(Sum.inr e.nm,.ref e.ad)
def Mm(f:Addr)(H:Hp)(e:En):Prop:=e.nm∈GB/\e.ad≠f/\H e.ad=some (.lst e.ys)/\qi f H e.ys e.rows/\(∀r∈e.rows,zM r)/\e.rows.length<=7
def AW(f:Addr)(H:Hp)(d:Addr)(es:List En):Prop:=d≠f/\H d=some (-76)/\(es.map (·.nm)).Nodup/\es.length<=4/\∀e∈es,Mm f H e
variable{f d:Addr}{H H':Hp}
theorem TC:∀{kvs:List (Key×V)},(∀kv∈kvs,Cz f H kv)->∃es:List En,kvs=es.map jX/\∀e∈es,Mm f H e
 |[],_=>{[],rfl,λe h=>by cases h}
 |kv::r,h=>by
  obtain⟨es,e1,h1⟩:=TC λkv hk=>h kv (aB _ hk);obtain⟨z,a,ys,rows,e2,hz,na,ha,hr,hg,hl⟩:=h kv aA;refine{⟨z,a,ys,rows⟩::es,by rw[bw,<-e1,e2];rfl,λe he=>?_};rcases aH.mp he with rfl|he
  ·exact⟨hz,na,ha,hr,hg,hl⟩
  ·exact h1 e he
def abq(es:List En):(es.map jX).map (·.1)=(es.map (·.nm)).map (Sum.inr:Str->Key):=by rw[aV,aV];rfl
def RV{l:Aaf}:(l.map (Sum.inr:Str->Key)).Nodup↔l.Nodup:=by
 induction l with
 |nil=>exact{λ_=>lZ,λ_=>lZ}
 |cons a r ih=>
  rw[bw,cV,cV,ih];refine tU λ_=>not_congr {λh=>?_,λh=>cy h};obtain⟨b,hb,e⟩:=ar.mp h;cases e;exact hb
def TabAt.tabs(h:TabAt f H d kvs):∃es,kvs=es.map jX/\AW f H d es:=by obtain⟨n,hd,nd,hl,he⟩:=h;obtain⟨es,rfl,ho⟩:=TC he;rw[abq]at nd;exact{es,rfl,n,hd,RV.mp nd,by rw[af]at hl;exact hl,ho}
def Mm.keep(h:Mm f H e)(x:Ext f H H'):Mm f H' e:={h.1,h.2.1,x _ _ h.2.1 h.2.2.1,rG h.2.2.2.1 x,h.2.2.2.2}
def AW.keep(h:AW f H d es)(x:Ext f H H'):AW f H' d es:={h.1,x _ _ h.1 h.2.1,h.2.2.1,h.2.2.2.1,λe he=>(h.2.2.2.2 e he).keep x}
theorem Gz:∀{es:List En},(es.map (·.nm)).Nodup->∀{e:En},e∈es->fG (es.map jX) (Sum.inr e.nm)=some (.ref e.ad)
 |[],_,e,h=>by cases h
 |a::r,nd,e,h=>by
  rw[bw,cV]at nd;rcases aH.mp h with rfl|h
  ·exact jg rfl
  ·have ne:¬(jX a).1=Sum.inr e.nm:=λq=>nd.1 (by
    have:a.nm=e.nm:=by injection q
    rw[this];exact cy h)
   rw[bw,iE ne];exact Gz nd.2 h
theorem JF:∀{es:List En}{z:Str},z∉es.map (·.nm)->fG (es.map jX) (Sum.inr z:Key)=none
 |[],_,_=>rfl
 |a::r,z,h=>by rw[bw,aH]at h;rw[bw,iE (λq=>h (.inl (by injection q with q;exact q.symm)))];exact JF λq=>h (.inr q)
def eJ(es:List En)(z:Str):T7:=match es.find? (λe=>decide (e.nm=z))with
 |some e=>e.rows
 |none=>[]
theorem Aj:∀{es:List En},(es.map (·.nm)).Nodup->∀{e:En},e∈es->eJ es e.nm=e.rows
 |[],_,e,h=>by cases h
 |a::r,nd,e,h=>by
  rw[bw,cV]at nd;unfold eJ;rcases aH.mp h with rfl|h
  ·rw[g9 (p:=λx:En=>decide (x.nm=e.nm)) (aT rfl)]
  ·have ne:¬decide (a.nm=e.nm)=true:=λq=>nd.1 (by
    rw[aW q];exact cy h)
   rw[hE (p:=λx:En=>decide (x.nm=e.nm)) ne];exact Aj nd.2 h
noncomputable def kr:Aaf:=eA++(["x","y","z"]:Aaf)
def zL(r:Aaf):Prop:=1<=r.length/\r.length<=4/\∀z∈r,z∈kr
end
section
variable{P:Program}{w:World}{K:Frag}{mg:Aab}{base:Heap}
structure jj(K:Frag)(H:Hp)(p:Addr)(fs:List En):Prop where
 at_:H p=some (.dK (fs.map jX))
 nm:(fs.map (·.nm)).Nodup
 en:∀e∈fs,H e.ad=some (.lst e.ys)/\dJ K H e.ys e.rows/\e.rows.length<=8/\∀r∈e.rows,zL r
def cI(h:dJ K H ys rows)(s:bI H H'):dJ K H' ys rows:=h.keep λa xs q=>by
 rcases q with(q|⟨o,q⟩)|q
 ·exact .inl (.inl (s _ _ q))
 ·exact .inl (.inr {o,s _ _ q})
 ·exact .inr q
def dW(q:bC K H a xs)(s:bI H H'):bC K H' a xs:=by
 rcases q with(q|⟨o,q⟩)|q
 ·exact .inl (.inl (s _ _ q))
 ·exact .inl (.inr {o,s _ _ q})
 ·exact .inr q
def jj.same(x:jj K H p fs)(s:bI H H'):jj K H' p fs:={s _ _ x.at_,x.nm,λe he=>by obtain⟨h1,h2,h3⟩:=x.en e he;exact{s _ _ h1,cI h2 s,h3}}
def LP(x:jj K H p fs)(h0:H l0=some (.lst []))(z:Str):∃q ys,(fG (fs.map jX) (Sum.inr z:Key)).getD (.ref l0)=.ref q/\H q=some (-39)/\dJ K H ys (eJ fs z)/\(eJ fs z).length<=8/\∀r∈eJ fs z,zL r:=by
 cases q:fs.find? (λe=>decide (e.nm=z))with
 |none=>
  have n:z∉fs.map (·.nm):=λh=>by obtain⟨e,he,rfl⟩:=ar.mp h;have:=kX.mp q e he;exact this (aT rfl)
  have er:eJ fs z=[]:=by unfold eJ;rw[q]
  rw[er,JF n];exact{l0,[],rfl,h0,.nil,aQ _,λr h=>by cases h}
 |some e=>
  have he:=eY q;have e1:=aW (sH (p:=λe:En=>decide (e.nm=z)) q);subst e1;rw[Gz x.nm he,Aj x.nm he];obtain⟨h1,h2,h3,h4⟩:=x.en e he;exact{e.ad,e.ys,rfl,h1,h2,h3,h4}
inductive JV(K:Frag)(vs:Aam)(H:Hp)(Q:VK)(_x3:XK):Prop
 |mk (d:Addr) (fs:List En) (z:Str) (_:vs=[.ref d,.str z]) (_:jj K H d fs) (_:∀(l:Addr)(zs:Aam)(H':Hp),bI H H'->H l=none->H' l=some (.lst zs)->dJ K H' zs (vK (eJ fs z))->Q (.ref l) H')
def O5:cK ["tables","name"] ["tables","name"] (defScope BH):=jV (-3)
def Pt(F:fJ K "rows_of" "rows_of" BH f fd)(T:Txt K mg):dy P w K mg base f9 1 f fd ["tables","name"] (JV K):=by
 refine F.ok O5 (λ_ _ _ _ h=>by cases h;subst_vars;rfl) (-4);obtain⟨d,fs,z,rfl,hT,k⟩:=h;refine{_,(bx (cW (bZ (zC hr.hd) rfl T.qx (-3) (cc (dR (IT hr.hd hr.units) rfl T.Pz (-3) (cc (Am (rW hr) (pv 0) (pv 1) (fY iY) XB))))))),?_};refine{_,rfl,d,rfl,.inl {_,.inl hT.at_},_,rfl,(-24),λl0 qP=>?_};have Q6:bI H (upd H l0 (.lst [])):=aK qP _;have h0:upd H l0 (.lst []) l0=some (.lst []):=au;generalize (upd H l0 (.lst []))=H0 at Q6 h0⊢;obtain⟨q,ys,eq,hq,hR,hlr,hg⟩:=LP (hT.same Q6) h0 z;refine{_,pR.k (k:=Sum.inr z) (Q6 _ _ hT.at_),?_};rw[eq];refine{q,ys,eJ fs z,rfl,aY.of hq,hR,by lia,λa us ha0 nu mu lu D4=>?_};have Xg:bI H0 (upd H0 a (.ext (vc P w a us))):=aK ha0 _;refine{a,us,ys,rfl,au,λx hx=>{dW (D4 x hx).1 Xg,(D4 x hx).2},λ_ x hx=>?_,by lia,λl zs hl xO _=>?_}
 ·have:=hg x.1 ((mu x.1).mp (cy hx));intro q;have:=this.1;rw[q]at this;cases this
 ·replace hl:upd H0 a (.ext (vc P w a us)) l=none:=hl
  have Nx:bI (upd H0 a (.ext (vc P w a us))) (upd (upd H0 a (.ext (vc P w a us))) l (.lst zs)):=aK hl _;rw[Ew nu mu]at xO;refine k l zs _ (Q6.trans (Xg.trans Nx)) ?_ au (cI xO Nx);cases q:H l with
  |none=>rfl
  |some o=>
   rw[Xg _ _ (Q6 _ _ q)]at hl;cases hl
def step(acc:Aaf)(t:Str):Aaf:=if isUnk t=true then(if t∈acc then acc else acc++[t])else acc
def fS(fl:Aaf):Aaf:=fl.foldl step []
def VI(acc:Aaf)(t:Str):(step acc t).length<=acc.length+1:=by
 unfold step;split
 ·split
  ·lia
  ·rw[aC];exact ak _
 ·lia
theorem Lf:∀(fl acc:Aaf),(fl.foldl step acc).length<=acc.length+fl.length
 |[],acc=>by simp
 |t::r,acc=>by have h1:=Lf r (step acc t);have h2:=VI acc t;rw[jN,bA];lia
def N5(fl:Aaf):(fS fl).length<=fl.length:=by have:=Lf fl [];simpa[fS]using this
def UG(fl:Aaf)(t:Str):fS (fl++[t])=step (fS fl) t:=by unfold fS;rw[DC];rfl
def rS(acc:Aaf):List (Key×V):=acc.map λt=>(Sum.inr t,V.bl true)
def any_keys(acc:Aaf)(t:Str):((rS acc).any λkv=>decide (kv.1=(Sum.inr t:Key)))=decide (t∈acc):=by
 unfold rS;rw[CM,iO,ic];constructor
 ·rintro⟨x,hx,e⟩;have e':=aW e;injection e' with e';exact aT (e'▸hx)
 ·intro h;exact{t,aW h,aT rfl}
def Vd(acc:Aaf)(t:Str):putK (rS acc) (Sum.inr t:Key) (V.bl true)=rS (if t∈acc then acc else acc++[t]):=by
 unfold putK;rw[any_keys];by_cases h:t∈acc
 ·rw[aT h,aG rfl,aG h];unfold rS;rw[aV];refine aU λx _=>?_;show(if(Sum.inr x:Key)=Sum.inr t then((Sum.inr x:Key),V.bl true)else(Sum.inr x,V.bl true))=_;split<;>rfl
 ·rw[bB h,aw bu,aw h];unfold rS;rw[aD];rfl
def Sr(acc:Aaf):((rS acc).map λkv=>kV kv.1)=acc.map V.str:=by unfold rS;rw[aV];rfl
def GoodG(ats:T6):Prop:=∀a∈ats,a.2.length<=4/\∀z∈a.2,z.length<=1000
inductive QZ(vs:Aam)(H:Hp)(Q:VK)(_x3:XK):Prop
 |mk (v:V) (hz:Aaf) (ats:T6) (_:vs=[v]) (_:sW H v hz ats) (_:GoodG ats) (_:ats.length<=100) (_:∀(r:Addr)(H':Hp),bI H H'->H r=none->H' r=some (.lst ((fS (cS ats)).map V.str))->Q (.ref r) H')
def R9(h:z∈acc):z∈step acc t:=by
 unfold step;split
 ·split
  ·exact h
  ·exact bH _ h
 ·exact h
def R8(h:isUnk z=true):z∈step acc z:=by
 unfold step;rw[aG h];split
 ·assumption
 ·exact bY _ (ax.mpr rfl)
theorem Ii:∀{fl acc:Aaf},z∈acc\/(isUnk z=true/\z∈fl)->z∈fl.foldl step acc
 |[],acc,h=>by
  rcases h with h|⟨_,h⟩
  ·exact h
  ·cases h
 |t::r,acc,h=>by
  rw[jN];refine Ii ?_;rcases h with h|⟨hu,h⟩
  ·exact .inl (R9 h)
  ·rcases aH.mp h with e|h
   ·subst e;exact .inl (R8 hu)
   ·exact .inr ⟨hu,h⟩
def ZI(hu:isUnk z=true)(h:z∈fl):z∈fS fl:=Ii (.inr ⟨hu,h⟩)
def C9(z:Str)(l:Aaf):XJ (.str z) (l.map V.str)=decide (z∈l):=by
 unfold XJ;rw[CM,iO,ic];constructor
 ·rintro⟨y,hy,e⟩;rw[iq e]at hy;exact aT hy
 ·intro h;exact{z,aW h,by show(z==z)=true;simp}
def xV(acc:Aaf):(acc.map V.str).all vS=true:=by rw[List.all_map];exact d8.mpr λ_ _=>rfl
def kA{zs:Aaf}{i:Nat}(h:(-70)[i]?=some y):∃z,zs[i]?=some z/\y=V.str z:=by
 rw[aL]at h;cases e:zs[i]? with
 |none=>rw[e]at h;cases h
 |some z=>rw[e]at h;exact{z,rfl,(bJ h).symm}
theorem v5:∀{fl acc:Aaf},z∈fl.foldl step acc->z∈acc\/z∈fl
 |[],acc,h=>.inl h
 |t::r,acc,h=>by
  rw[jN]at h;rcases v5 h with h|h
  ·unfold step at h;split at h
   ·split at h
    ·exact .inl h
    ·rcases aP.mp h with h|h
     ·exact .inl h
     ·exact .inr (aH.mpr (.inl (ax.mp h)))
   ·exact .inl h
  ·exact .inr (aB _ h)
end
structure Dv2(P:Program)(w:World)(K:Frag)(mg:Aab)(base:Heap):Prop extends Dv P w K mg base where
 is_unknown:dz P w K mg base 2 "is_unknown" ["thing"] Xd
section
variable{P:Program}{w:World}{K:Frag}{mg:Aab}{base:Heap}
def oR:cK ["question","found","atom","term"] ["question"] (defScope uY):=jV (-3)
def GY(F:fJ K "unknowns_of" "unknowns_of" uY f fd)(T:Txt K mg)(D:Dv2 P w K mg base):dy P w K mg base f9 3 f fd ["question"] QZ:=by
 refine F.ok oR (λ_ _ _ _ h=>by cases h;subst_vars;rfl) (-4);obtain⟨v,hz0,ats,rfl,⟨q,hd,aa,jo,rfl,hq,Bb,Be,qy⟩,good,hlen,k⟩:=h;refine{_,(aO (fX 1 oR nR) (aO (iG cz rfl (uB (cM il (pv 0) aX (-12))) (kR 2 oR) (bx (iG cz rfl (uB (cM il (pv 2) aX (-12))) (kR 3 oR) (bx (ka (yV (cl D.is_unknown hr (cc (pv 3)))) (bx (tH (rW hr) (pv 1) (pv 3) ue rfl)) gN))))) (bx (cW (dR (Hm rfl) rfl T.K6 (-3) (-88)))))),?_}
 intro d km;refine{_,rfl,_,_,_,_,rfl,rfl,bC.of (aK km _ _ _ hq),rfl,aa,rfl,{jo,bC.of (aK km _ _ _ Be)},Ha
  (λi Z H2=>∃(x2 x3:Aan),Z=[some (.ref q),some (.ref d),x2,x3]/\bI H H2/\H2 d=some (.dK (rS (fS (cS (ats.take i)))))) {none,none,rfl,aK km _,au} (λi Z H2 _ hq=>by(obtain⟨_,_,_,sm,_⟩:=hq;exact bC.of (sm _ _ Be))) ?_ ?_}
 ·rintro i x Z H2 hx ⟨x2,x3,rfl,sm,hd2⟩;obtain⟨ta,ht,p,t,rfl,hp,ny⟩:=Paired.at qy hx;have g:=good ta (az ht);have hi:=(aq.mp ht).1;have lf:=C6 (ats.take i) λa ha=>(good a (kh ha)).1;have lti:(ats.take i).length<=i:=by rw[aR];lia
  refine{_,rfl,_,_,_,_,rfl,rfl,bC.of (sm _ _ hp),rfl,t,rfl,{_,bC.of (sm _ _ ny)},Ha
   (λj Z H3=>∃(x3:Aan),Z=[some (.ref q),some (.ref d),some (.ref p),x3]/\bI H H3/\H3 d=some (.dK (rS (fS (cS (ats.take i)++ta.2.take j))))) {x3,rfl,sm,by rw[zI,c8];exact hd2} (λj Z H3 _ hq=>by(obtain⟨_,_,sm',_⟩:=hq;exact bC.of (sm' _ _ ny))) ?_ ?_}
  ·rintro j y Z H3 hy ⟨x3,rfl,wg,Ye⟩;obtain⟨z,hz,rfl⟩:=kA hy;have zj:=g.2 z (az hz);refine{_,rfl,z,rfl,by lia,λH4 J4=>{_,rfl,?_}};have hd4:=J4 _ _ Ye;have en:fS (cS (ats.take i)++ta.2.take (j+1))=step (fS (cS (ats.take i)++ta.2.take j)) z:=by rw[a9,hz,<-UG,dw];rfl
   have lu:=N5 (cS (ats.take i)++ta.2.take j);rw[aC,aR]at lu;refine gO (λc1=>?_) (λc1=>?_)
   ·refine{_,rfl,_,rfl,d,_,rfl,Hv.k (k:=Sum.inr z) hd4 (by unfold rS;rw[af];exact bO ∅),?_};refine{_,rfl,λb u e=>?_,?_}
    ·rw[ay (aZ e km)];exact J4 _ _ (wg _ _ e)
    ·rw[au,Vd,en];unfold step;rw[aG c1]
   ·refine{_,rfl,wg.trans J4,?_};rw[en];unfold step;rw[aw c1];exact hd4
  ·rintro Z H3 ⟨x3,rfl,wg,Ye⟩;refine{_,_,rfl,wg,?_};rw[af,bg]at Ye;rw[Gb ht];exact Ye
 ·rintro Z H2 ⟨x2,x3,rfl,sm,hd2⟩;rw[(bh qy),bg]at hd2;refine{_,rfl,d,_,rfl,hd2,λl hl=>?_};refine k l _ (sm.trans (aK hl _)) (sm.free hl) ?_;rw[au,Sr]
def placesK(us:Aaf):List (Key×V):=us.zipIdx.map λx=>(Sum.inr x.1,V.int (x.2:Int))
end
inductive JW(K:Frag)(vs:Aam)(H:Hp)(Q:VK)(_x3:XK):Prop
 |mk (l:Addr) (us:Aaf) (_:vs=[.ref l]) (_:aY K H l (us.map V.str)) (_:us.Nodup) (_:us.length<=100) (_:∀(r:Addr)(H':Hp),bI H H'->H r=none->H' r=some (.dK (placesK us))->Q (.ref r) H')
def Fl(nd:us.Nodup):fG (placesK us) (Sum.inr t:Key)=if t∈us then some (V.int (us.idxOf t:Int))else none:=by
 have gen:∀(us:Aaf)(n:Nat),fG ((us.zipIdx n).map λx=>((Sum.inr x.1:Key),V.int (x.2:Int))) (Sum.inr t)=if t∈us then some (V.int ((us.idxOf t+n:Nat):Int))else none:=by
  intro us
  induction us with
  |nil=>intro n;rfl
  |cons u us ih=>
   intro n;rw[List.zipIdx_cons,bw];by_cases e:u=t
   ·subst e;rw[jg rfl,aG aA,List.idxOf_cons_self,wY]
   ·rw[iE (λz=>e (Sum.inr.inj z)),ih (n+1)];by_cases m:t∈us
    ·rw[aG m,aG (aB _ m),List.idxOf_cons,show(u==t)=false from beq_false_of_ne e,cond_false,Nat.add_right_comm,vd]
    ·rw[aw m,aw λz=>(aH.mp z).elim (λz=>e z.symm) m]
 have:=gen us 0;exact this
def Mz{us:Aaf}(nd:us.Nodup)(h:us[i]?=some u):putK (placesK (us.take i)) (Sum.inr u:Key) (V.int (i:Int))=placesK (us.take (i+1)):=by
 obtain⟨hi,e⟩:=aq.mp h;have nm:u∉us.take i:=λz=>by obtain⟨j,hj,ej⟩:=eO.mp z;rw[aR]at hj;rw[List.getElem_take]at ej;exact eX.mp nd j i ∅ hi ∅ (by rw[ej,e])
 rw[Vf _ (by rw[Fl (nd.sublist (DB _ _)),aw nm])];unfold placesK;rw[a9,h,cq,List.zipIdx_append,aD,aR,jI ∅];simp
section
variable{P:Program}{w:World}{K:Frag}{mg:Aab}{base:Heap}
def jh(q:aY K H a xs)(s:bI H H'):aY K H' a xs:=by
 rcases q with(q|⟨o,q⟩)|q
 ·exact .inl (.inl (s _ _ q))
 ·exact .inl (.inr {o,s _ _ q})
 ·exact .inr q
def rE:cK ["unknowns","places","place","unknown"] ["unknowns"] (defScope yl):=jV (-3)
def KQ(F:fJ K "places_of" "places_of" yl f fd)(T:Txt K mg):dy P w K mg base f9 1 f fd ["unknowns"] (JW K):=by
 refine F.ok rE (λ_ _ _ _ h=>by cases h;subst_vars;rfl) (-4);obtain⟨l,us,rfl,hl,nd,lu,k⟩:=h;refine{_,(aO (fX 1 rE nR) (aO (iG cz rfl (NM rfl T.DQ (cc (pv 0))) (nQ rfl (dC (kR 2 rE) (dC (kR 3 rE) ku))) (bx (tH (rW hr) (pv 1) (pv 3) (pv 2) rfl))) (bx (cW (pv 1))))),?_}
 intro d km;refine{_,rfl,l,rfl,{_,jh hl (aK km _)},LS
  (λi Z H2=>∃(x2 x3:Aan),Z=[some (.ref l),some (.ref d),x2,x3]/\bI H H2/\H2 d=some (.dK (placesK (us.take i)))) {none,none,rfl,aK km _,au} (λi Z H2 _ ⟨_,_,_,sm,_⟩=>jh hl sm) ?_ ?_}
 ·rintro i x p Z H2 hx ⟨x2,x3,rfl,sm,hd2⟩ hp;obtain⟨z,hz,rfl⟩:=kA hx;have wg:bI H2 (upd H2 p (.tup [.int i,.str z])):=aK hp _;refine{p,_,rfl,bC.of au,rfl,_,_,rfl,_,_,rfl,rfl,?_};refine{_,rfl,_,rfl,_,rfl,d,_,rfl,Hv.k (k:=Sum.inr z) (wg _ _ hd2) (by unfold placesK;rw[af,List.length_zipIdx,aR];exact bO ∅),?_};refine{_,_,rfl,λb u e=>?_,?_}
  ·rw[ay (aZ e km)];exact wg _ _ (sm _ _ e)
  ·rw[au,Mz nd hz]
 ·rintro Z H2 ⟨x2,x3,rfl,sm,hd2⟩;rw[af,bg]at hd2;exact{_,rfl,k d H2 sm km hd2}
inductive Nv(K:Frag)(vs:Aam)(H:Hp)(Q:VK)(_x3:XK):Prop
 |mk (t d g:Addr) (ts us vm:Aaf) (_:vs=[.ref t,.ref d,.ref g]) (_:(aY K H t (ts.map V.str)\/bC K H t (ts.map V.str))) (_:H d=some (.dK (placesK us))) (_:us.Nodup) (_:bC K H g (vm.map V.str)) (_:vm.length=us.length) (_:ts.length<=100) (_:us.length<=100) (_:∀(r:Addr)(H':Hp),bI H H'->H r=none->H' r=some (.tup ((AskP.image us vm ts).map V.str))->Q (.ref r) H')
def U2:cK ["terms","places","given"] ["terms","places","given"] (defScope GI):=jV (-3)
def Vz(F:fJ K "image" "image" GI f fd)(T:Txt K mg):dy P w K mg base f9 1 f fd ["terms","places","given"] (Nv K):=by
 refine F.ok U2 (λ_ _ _ _ h=>by cases h;subst_vars;rfl) (-4);obtain⟨t,d,g,ts,us,vm,rfl,ht,hd,nd,hg,lv,lt,lu,k⟩:=h;have hu:=rW hr;rcases ht with ht|ht;refine{_,(bx (cW (dR d6 rfl T.jz (-3) (cc (iQ rfl (df (fs:=["places","given"]) (fr:=[1,2])) (gf (pv 0)) (λ_ _ _ _=>(Kx (Kn (KH hu (pv 0) (pv 1))) (cM (tL) (pv 2) (GU hu (pv 1) (pv 0) (-12)) (-12)) (pv 0)))))))),?_};rotate_left;refine{_,(bx (cW (dR d6 rfl T.jz (-3) (cc (iQ rfl (df (fs:=["places","given"]) (fr:=[1,2])) (uB (pv 0)) (λ_ _ _ _=>(Kx (Kn (KH hu (pv 0) (pv 1))) (cM (tL) (pv 2) (GU hu (pv 1) (pv 0) (-12)) (-12)) (pv 0)))))))),?_};all_goals
  refine{_,rfl,t,rfl,⟨_,ht⟩,?_}
  first
   |refine ir (xs:=ts.map V.str) (λi ys H2=>H2=H/\i<=ts.length/\ys=((ts.take i).map (AskP.qN us vm)).map V.str) (by rw[af];exact bO ∅) ⟨rfl,aQ _,rfl⟩ ?_ ?_ ?_
   |refine AH (xs:=ts.map V.str) (λi ys H2=>H2=H/\i<=ts.length/\ys=((ts.take i).map (AskP.qN us vm)).map V.str) (by rw[af];exact bO ∅) ⟨rfl,aQ _,rfl⟩ ?_ ?_ ?_
  ·rintro i ys H2 hi ⟨rfl,_,rfl⟩;refine{ht,?_};rw[af,af,aR];lia
  ·rintro i x ys H2 N hc ⟨rfl,hi,rfl⟩ hN;obtain⟨z,hz,rfl⟩:=kA hc;have cE:=(aq.mp hz).1;refine{_,rfl,_,rfl,d,_,rfl,pR.k (k:=Sum.inr z) hd,_,rfl,?_};have ap:((ts.take i).map (AskP.qN us vm)).map V.str++[V.str (AskP.qN us vm z)]=((ts.take (i+1)).map (AskP.qN us vm)).map V.str:=by rw[a9,hz,aD,aD];rfl
   have ev:=Fl (t:=z) nd;by_cases m:z∈us
   ·rw[aG m]at ev;have li:=dD m;have dg:=pR.k (k:=Sum.inr z) hd;rw[ev]at dg;refine gO (λ_=>?_) (λc=>absurd (by rw[ev];rfl) c);refine{_,rfl,_,rfl,_,rfl,d,_,rfl,dg,g,_,_,V.str (AskP.qN us vm z),rfl,rfl,hg,?_,hN _ _ ⟨rfl,cE,ap⟩};refine jE ?_;rw[aL,ao ∅];unfold AskP.qN;rw[aG m,cY,ao ∅];rfl
   ·rw[aw m]at ev;refine gO (λc=>by rw[ev]at c;cases c) (λ_=>?_);refine{_,rfl,hN _ _ {rfl,cE,?_}};rw[<-ap];unfold AskP.qN;rw[aw m]
  ·rintro ys H2 ⟨rfl,_,rfl⟩ l mO;rw[af,bg];exact{l,_,rfl,.inl {aY.of au,λp hp=>k p _ ((aK mO _).trans (aK hp _)) ((aK mO _).free hp) au}}
end
inductive HI(K:Frag)(vs:Aam)(H:Hp)(Q:VK)(_x3:XK):Prop
 |mk (r t:Addr) (rs ts:Aaf) (_:vs=[.ref r,.ref t]) (_:bC K H r (rs.map V.str)) (_:H t=some (.tup (ts.map V.str))) (_:rs.length<=100) (_:ts.length<=100) (_:∀H',bI H H'->Q (.bl (AskP.nq rs ts)) H')
section
variable{P:Program}{w:World}{K:Frag}{mg:Aab}{base:Heap}
def Mw:cK ["row","terms"] ["row","terms"] (defScope Ag):=jV (-3)
def ME(F:fJ K "is_image" "is_image" Ag f fd)(T:Txt K mg):dy P w K mg base f9 1 f fd ["row","terms"] (HI K):=by
 refine F.ok Mw (λ_ _ _ _ h=>by cases h;subst_vars;rfl) (-4);obtain⟨r,t,rs,ts,rfl,xP,ht0,lr,lt,k⟩:=h;have XX:bC K H t (-32):=bC.of ht0;refine{_,(aO (ka (eG adb (bZ eC rfl T.fZ bP (cc (pv 0))) (bZ eC rfl T.fZ bP (-88)) (gQ _)) (bx (cW ue)) gN) (bx (cW (bZ (zD rfl) rfl T.XA boot_all (cc (KA rfl (AI (more:=["value"]) (fs:=["row","terms"]) (fr:=[0,1])) (Zm rfl T.Jq (dA (pv 1) (pv 0))) (-89) (λ_ _ _ _=>(yZ Ap (cM (tL) (pv 2) (KD oC oA ox Au (pv 3) (cc (pv 0))) (-12)) (pv 1) (gQ _))))))))),?_}
 refine{_,rfl,_,_,rfl,.inr ⟨_,xP,rfl⟩,_,rfl,_,_,rfl,.inr ⟨_,XX,rfl⟩,rfl,?_};rw[af,af];refine{_,rfl,gO (λc=>?_) (λc=>?_)}
 ·have ne:rs.length≠ts.length:=λe=>by rw[e]at c;simp at c
  have e:AskP.nq rs ts=false:=by unfold AskP.nq;rw[bB ne];rfl
  rw[e]at k;exact k H (λ_ _ x=>x)
 have le:rs.length=ts.length:=by
  by_cases e:rs.length=ts.length
  ·exact e
  ·have z:¬(V.int (rs.length:Int)=V.int (ts.length:Int)):=λz=>e (by injection z with z;lia);exact absurd (by rw[bB z];rfl) c
 refine{_,rfl,_,rfl,t,r,rfl,⟨_,XX⟩,⟨_,xP⟩,QA (xs:=ts.map V.str) (zs:=rs.map V.str)
  (λi ys H2=>bI H H2/\i<=ts.length/\ys=(((ts.zip rs).take i).map λx=>decide (rs[ts.idxOf x.1]?=some x.2)).map V.bl) (by rw[af];exact bO ∅) (by rw[af,af,le]) {λ_ _ x=>x,aQ _,rfl} ?_ ?_ ?_}
 ·rintro i ys H2 hi ⟨sm,_,rfl⟩;refine{{dW XX sm,dW xP sm},?_};rw[af,af,aR];lia
 ·rintro i x y p ys H2 N hx hy ⟨sm,hi,rfl⟩ hp hN;obtain⟨z,hz,rfl⟩:=kA hx;obtain⟨v,hv,rfl⟩:=kA hy;have li:=dD (az hz);have X7:=(aq.mp hz).1;have wg:bI H (upd H2 p (.tup [V.str z,V.str v])):=sm.trans (aK hp _);have e2:∀n,n<ts.idxOf z->ts[n]?≠some z:=λn hn q=>by obtain⟨ln,en⟩:=aq.mp q;have:=yF hn;rw[en]at this;simp at this
  obtain⟨u,D6⟩:∃u,rs[ts.idxOf z]?=some u:={_,ao ∅};refine{_,rfl,_,rfl,.inr (.inl {rfl,.inl {_,wg _ _ ht0}}),_,rfl,t,ts,z,ts.idxOf z,rfl,rfl,dW XX wg,(by rw[ao li,kW]),e2,r,_,_,V.str u,rfl,rfl,dW xP wg,jE (by rw[aL,D6];rfl),_,rfl,rfl,?_};refine hN _ _ {wg,by lia,?_};have e3:(ts.zip rs)[i]?=some (z,v):=by rw[List.getElem?_zip_eq_some];exact⟨hz,hv⟩
  rw[a9,e3,cq,aD,aD];congr 1;show[V.bl (decide (V.str u=V.str v))]=[V.bl (decide (rs[ts.idxOf z]?=some v))];rw[D6];congr 2;by_cases q:u=v
  ·subst q;simp
  ·rw[bB (λz=>q (V.str.inj z)),bB (λz=>q (bJ z))]
 ·rintro ys H2 ⟨sm,_,rfl⟩ l hl;have lz:(ts.zip rs).length=ts.length:=by rw[jL];lia
  rw[af,<-lz,bg];refine{l,_,rfl,aY.of au,?_};have e:AskP.nq rs ts=(((ts.zip rs).map λx=>decide (rs[ts.idxOf x.1]?=some x.2)).all id):=by unfold AskP.nq;rw[aT le,jU,List.all_map];rfl
  rw[e]at k;exact k _ (sm.trans (aK hl _))
def fq(H H':Hp):Prop:=∀b xs,Rd H b (.tup xs)->Rd H' b (.tup xs)
def fq.refl(H:Hp):fq H H:=λ_ _ h=>h
def fq.trans(a:fq H H1)(b:fq H1 H2):fq H H2:=λx xs h=>b x xs (a x xs h)
def fq.same(s:bI H H'):fq H H':=λb xs h=>by
 rcases h with h|⟨o,h⟩
 ·exact .inl (s _ _ h)
 ·exact .inr {o,s _ _ h}
def mz(H:Hp)(a:Addr):Prop:=∀xs,¬Rd H a (.tup xs)
def fq.upd(h:mz H a):fq H (upd H a o):=λb xs q=>by
 have hb:b≠a:=λe=>h xs (e▸q);rcases q with q|⟨o',q⟩
 ·exact .inl (by rw[ay hb];exact q)
 ·exact .inr {o',by rw[ay hb];exact q}
def RX(h:H a=some (.ext φ)):mz H a:=λxs q=>by rcases q with q|⟨o,q⟩<;>rw[h]at q<;>cases q
def K4(h:H a=some (.dK l)):mz H a:=λxs q=>by rcases q with q|⟨o,q⟩<;>rw[h]at q<;>cases q
def BW(h:H a=some (.ins C dx l)):mz H a:=λxs q=>by rcases q with q|⟨o,q⟩<;>rw[h]at q<;>cases q
def rB(q:bC K H a xs)(t:fq H H'):bC K H' a xs:=by
 rcases q with q|q
 ·exact .inl (t _ _ q)
 ·exact .inr q
mutual
theorem Px(t:fq H H'):∀(k:NK)(v:V),NV K H k v->NV K H' k v
 | .cR,v,h=>by rw[NV]at h⊢;exact h
 | .key k,v,h=>by rw[NV]at h⊢;exact h
 | .tup ks,v,h=>by rw[NV]at h⊢;obtain⟨a,xs,e,hq,hs⟩:=h;exact{a,xs,e,rB hq t,RU t ks xs hs}
theorem RU(t:fq H H'):∀(ks:List NK)(vs:Aam),uP K H ks vs->uP K H' ks vs
 |[],vs,h=>by rw[uP]at h⊢;exact h
 |k::ks,vs,h=>by rw[uP]at h⊢;obtain⟨x,r,e,h1,h2⟩:=h;exact{x,r,e,Px t k x h1,RU t ks r h2}
end
def zf{H H':Hp}{k:NK}{a:Addr}(h:jS K H k a)(t:fq H H'):jS K H' k a:={Px t _ _ h.1,h.2}
def _root_.L2.gn.tp{H H':Hp}{d:Addr}{kvs:List (-44)}(h:gn P w K H d kvs)(t:fq H H')(e:H' d=H d):gn P w K H' d kvs:={e▸h.1,λp hp=>zf (h.2 p hp) t}
def _root_.L2.gn.some{H:Hp}{d:Addr}{kvs:List (-44)}(h:gn P w K H d kvs):∃u,H d=some u:=by rcases h.1 with h|⟨_,h⟩<;>exact⟨_,h⟩
def _root_.L2.gn.rP{H:Hp}{d:Addr}{kvs:List (-44)}(h:gn P w K H d kvs):mz H d:=by
 rcases h.1 with h|⟨_,h⟩
 ·exact RX h
 ·exact K4 h
def _root_.L2.gn.put{H:Hp}{d b:Addr}{kvs:List (-44)}{k:NK}{v:V}(h:gn P w K H d kvs)(hk:jS K H k b):gn P w K (upd H d (.ext (DN P w d (putN kvs k b v)))) d (putN kvs k b v):=by
 have t:fq H (upd H d (.ext (DN P w d (putN kvs k b v)))):=fq.upd h.rP;refine{.inl au,λp hp=>?_};rcases Lb hp with⟨q,hq,e1,e2⟩|⟨e1,e2⟩
 ·rw[e1,e2];exact zf (h.2 q hq) t
 ·rw[e1,e2];exact zf hk t
def Hq{H:Hp}{p:Addr}(h:H p=Option.some (.dK [])):gn P w K H p []:={.inr ⟨rfl,h⟩,λ_ hp=>by cases hp}
def qW(zs:Aaf):Prop:=∀z∈zs,PyData.strOk z=true
abbrev Cm:=List (Aaf×Int)
def sV(m:Cm):List (NK×V):=m.map λx=>(gj x.1,V.int x.2)
abbrev DV(kvs:List (-44)):List (NK×V):=kvs.map λp=>(p.1,p.2.2)
def cnt(m:Cm)(r:Aaf):Int:=((m.find? λx=>decide (x.1=r)).map (·.2)).getD 0
theorem CY:∀{m:Cm}{kvs:List (-44)},DV kvs=sV m->valN kvs (gj r)=(m.find? λx=>decide (x.1=r)).map λx=>V.int x.2
 |[],[],_=>rfl
 |[],_::_,e=>by cases e
 |_::_,[],e=>by cases e
 |x::m,p::kvs,e=>by
  injection e with e1 e2;have e3:=bV Prod.fst e1;have e4:=bV Prod.snd e1;dsimp only at e3 e4;by_cases c:x.1=r
  ·rw[mi (by rw[e3,c]),g9 (by exact aT c),e4];rfl
  ·rw[ml (λz=>c (y8 (by rw[<-e3,z]))),CY e2,hE (by simpa using c)]
def aah(e:DV kvs=sV m):(valN kvs (gj r)).getD (V.int 0)=V.int (cnt m r):=by rw[CY e];unfold cnt;cases m.find? (λx=>decide (x.1=r))<;>rfl
def Ub(nd:(m.map (·.1)).Nodup)(h:x∈m)(e:x.1=r):cnt m r=x.2:=by
 unfold cnt
 induction m with
 |nil=>cases h
 |cons y m ih=>
  rw[bw,cV]at nd;by_cases c:y.1=r
  ·rw[g9 (by exact aT c)];rcases aH.mp h with rfl|h
   ·rfl
   ·exact absurd (ar.mpr {x,h,by rw[e,c]}) nd.1
  ·rw[hE (by simpa using c)];rcases aH.mp h with rfl|h
   ·exact absurd e c
   ·exact ih nd.2 h
def Zj(nd:(m.map (·.1)).Nodup)(e:DV kvs=sV m):DV (putN kvs (gj r) b (.int (cnt m r+c)))=sV (AskP.qB m r c):=by
 have hv:=CY (r:=r) e;have mem:r∈m.map (·.1)↔(m.find? λx=>decide (x.1=r)).isSome=true:=by rw[List.find?_isSome,ar];exact{λ⟨x,h1,h2⟩=>{x,h1,aT h2},λ⟨x,h1,h2⟩=>{x,h1,aW h2}}
 unfold putN AskP.qB;by_cases q:r∈m.map (·.1)
 ·rw[aG q,aG (by rw[hv,jZ];exact mem.mp q)];have gen:∀(kvs:List (-44))(m':Cm),(∀x∈m',x∈m)->DV kvs=sV m'->DV (kvs.map λp=>if p.1=gj r then(p.1,p.2.1,V.int (cnt m r+c))else p)=sV (m'.map λx=>if x.1=r then(x.1,x.2+c)else x):=by
   intro kvs
   induction kvs with
   |nil=>intro m' _ e;cases m' with
    |nil=>rfl
    |cons _ _=>cases e
   |cons p kvs ih=>intro m' hm e;cases m' with
    |nil=>cases e
    |cons x m'=>
     injection e with e1 e2;have e3:=bV Prod.fst e1;have e4:=bV Prod.snd e1;dsimp only at e3 e4;show(_::_:List (NK×V))=_::_;congr 1
     ·dsimp only;by_cases z:x.1=r
      ·rw[aG z,aG (by rw[e3,z])];rw[e3,Ub nd (hm x aA) z]
      ·rw[aw z,aw (λq=>z (y8 (by rw[<-e3,q])))];exact e1
     ·exact ih m' (λx hx=>hm x (aB _ hx)) e2
  exact gen kvs m (λ_ h=>h) e
 ·rw[aw q,aw (by rw[hv,jZ];exactλz=>q (mem.mpr z))];have z:(m.find? λx=>decide (x.1=r))=none:=by
   cases h:m.find? λx=>decide (x.1=r)with
   |none=>rfl
   |some _=>rw[h]at mem;exact absurd (mem.mpr rfl) q
  have z2:cnt m r=0:=by unfold cnt;rw[z];rfl
  unfold sV DV at*;rw[z2,sI,aD,aD,e];rfl
def RowC(P:Program)(w:World)(K:Frag)(H:Hp)(d:Addr)(m:Cm):Prop:=∃kvs,gn P w K H d kvs/\DV kvs=sV m
def RowC.same(h:RowC P w K H d m)(s:bI H H'):RowC P w K H' d m:=by obtain⟨kvs,h1,h2⟩:=h;obtain⟨u,hu⟩:=h1.some;exact{kvs,h1.tp (fq.same s) (by rw[hu,s _ _ hu]),h2}
def Mf(P:Program)(w:World)(K:Frag)(H:Hp)(d:Addr)(m:Cm):Prop:=∃kvs,gn P w K H d kvs/\DV kvs=sV m/\∀p∈kvs,∃xs,H p.2.1=some (.tup xs)
def Mf.c(h:Mf P w K H d m):RowC P w K H d m:=let⟨kvs,h1,h2,_⟩:=h;⟨kvs,h1,h2⟩
def yc(K:Frag)(H:Hp)(v:V)(x:Aaf×Int):Prop:=∃p g,v=.ref p/\bC K H p [.ref g,.int x.2]/\bC K H g (x.1.map V.str)
def KJ(h:yc K H v x)(t:fq H H'):yc K H' v x:=by obtain⟨p,g,e,h1,h2⟩:=h;exact{p,g,e,rB h1 t,rB h2 t}
def HJ(h1:qW vs)(h2:qW ts):qW (AskP.image us vs ts):=λz hz=>by
 obtain⟨t,ht,rfl⟩:=ar.mp hz;unfold AskP.qN;split
 ·rw[cY];cases q:vs[us.idxOf t]? with
  |none=>exact h2 t ht
  |some v=>exact h1 v (az q)
 ·exact h2 t ht
inductive zX(P:Program)(w:World)(K:Frag)(vs:Aam)(H:Hp)(Q:VK)(_x3:XK):Prop
 |mk (l u t:Addr) (ys:Aam) (m:Cm) (us ts:Aaf) (_:vs=[.ref l,.ref u,.ref t]) (_:aY K H l ys) (_:Paired (yc K H) ys m) (_:aY K H u (us.map V.str)) (_:us.Nodup) (_:us.length<=100) (_:(aY K H t (ts.map V.str)\/bC K H t (ts.map V.str))) (_:ts.length<=100) (_:qW ts) (_:(∀x∈m,x.1.length=us.length/\qW x.1)) (_:m.length<=9000000) (_:∀(d:Addr)(H':Hp),bI H H'->H d=none->Mf P w K H' d (AskP.narrowed m us ts)->Q (.ref d) H')
structure Dn(P:Program)(w:World)(K:Frag)(mg:Aab)(base:Heap):Prop where
 places_of:dz P w K mg base 1 "places_of" ["unknowns"] (JW K)
 image:dz P w K mg base 1 "image" ["terms","places","given"] (Nv K)
def mU:cK ["counted_maps","unknowns","terms","places","counts","given","count","row"] ["counted_maps","unknowns","terms"] (defScope Aa):=jV (-3)
def MC(F:fJ K "narrowed" "narrowed" Aa f fd)(T:Txt K mg)(D:Dn P w K mg base):dy P w K mg base f9 3 f fd ["counted_maps","unknowns","terms"] (zX P w K):=by
 refine F.ok mU (λ_ _ _ _ h=>by cases h;subst_vars;rfl) (-4);obtain⟨l,u,t,ys,m,us,ts,rfl,hl,sO,hu1,nd,lu,ht,lt,st,gm,lm,k⟩:=h;have hN:=F6 hr;refine{_,(aO (fX 3 mU (cl D.places_of hr (-88))) (aO (fX 4 mU nR) (aO (iG cz rfl (gf (pv 0)) (nQ rfl (dC (kR 5 mU) (dC (kR 6 mU) ku))) (aO (fX 7 mU (cl D.image hr (rN (pv 2) (pv 3) (pv 5)))) (bx (Kr hN (pv 4) (pv 7) (du jW (HZ hN (pv 4) (pv 7) aX ⟨rfl,rfl,rfl,rfl⟩) (pv 6)) rfl)))) (bx (cW (pv 4)))))),?_}
 refine{_,rfl,u,us,rfl,hu1,nd,lu,λpd H1 s1 V6 G8=>?_};intro d km;have s2:bI H1 (upd H1 d (.dK [])):=aK km _;have hd2:upd H1 d (.dK []) d=some (.dK []):=au;have ni:=s1.trans s2;have ae3:=s2 _ _ G8;have hdn:=s1.free km;refine{_,rfl,l,rfl,{_,jh hl ni},xU
  (λi Z H3=>∃(x1 x2 x3:Aan),Z=[some (.ref l),some (.ref u),some (.ref t),some (.ref pd),some (.ref d),x1,x2,x3]/\bI H H3/\H3 pd=some (.dK (placesK us))/\i<=m.length/\∃kvs,gn P w K H3 d kvs/\DV kvs=sV (AskP.narrowed (m.take i) us ts)/\kvs.length<=i/\∀p∈kvs,∃xs,H3 p.2.1=some (.tup xs))
  {none,none,none,rfl,ni,ae3,aQ _,[],Hq hd2,rfl,ak _,λp hp=>(by cases hp)} (λi Z H3 _ ⟨_,_,_,_,sm,_⟩=>jh hl sm) ?_ ?_}
 ·rintro i x Z H3 D1 hx ⟨x1,x2,x3,rfl,s3,P6,_,kvs,ha,ek,lk,g7⟩ NT _;obtain⟨y,hy,hp⟩:=Paired.at' sO hx;obtain⟨p,g,rfl,hp,hg⟩:=KJ hp (fq.same s3);have cE:=(aq.mp hy).1;obtain⟨g1,g2⟩:=gm y (az hy);refine{p,_,rfl,hp,rfl,_,_,rfl,_,_,rfl,rfl,?_};refine{_,rfl,_,rfl,_,rfl,t,pd,g,ts,us,y.1,rfl,ht.imp (λz=>jh z s3) (λz=>dW z s3),P6,nd,hg,g1,lt,lu,λr H4 s4 Lx xN=>?_};have Tj:gn P w K H4 d kvs:=by obtain⟨u,hu⟩:=ha.some;exact ha.tp (fq.same s4) (by rw[hu,s4 _ _ hu])
  have hk:jS K H4 (gj (AskP.image us y.1 ts)) r:=wH (bC.of xN) (HJ g2 st);refine{_,rfl,d,kvs,rfl,Tj,_,rfl,r,kvs,_,rfl,Tj,hk,?_};rw[aah ek];refine{_,rfl,_,_,rfl,rfl,_,rfl,_,rfl,d,r,kvs,_,rfl,rfl,Tj,hk,by lia,?_};refine NT _ _ {_,_,_,rfl,λb o e=>?_,?_,cE,_,Tj.put hk,?_,aJ wy ∅,λp hp=>?_}
  ·rw[ay (aZ e hdn)];exact s4 _ _ (s3 _ _ e)
  ·rw[ay (aZ G8 km)];exact s4 _ _ P6
  ·rw[Zj AskP.lM ek,a9,hy];unfold AskP.narrowed;rw[cq,DC];rfl
  ·have ne:∀{b:Addr}{xs:Aam},H4 b=some (.tup xs)->b≠d:=λ{b xs} e z=>Tj.rP xs (.inl (z▸e));rcases Lb hp with⟨c,hc,_,e2⟩|⟨_,e2⟩
   ·obtain⟨xs,e⟩:=g7 c hc;exact{xs,by rw[e2,ay (ne (s4 _ _ e))];exact s4 _ _ e}
   ·exact{_,by rw[e2,ay (ne xN)];exact xN}
 ·rintro Z H3 ⟨x1,x2,x3,rfl,s3,_,_,kvs,ha,ek,_,g7⟩;rw[(bh sO),bg]at ek;exact{_,rfl,k d H3 s3 hdn ⟨kvs,ha,ek,g7⟩}
def qK(h:H a=some (.lst l)):mz H a:=λxs q=>by rcases q with q|⟨o,q⟩<;>rw[h]at q<;>cases q
def tF(h:dJ K H ys rs)(t:fq H H'):dJ K H' ys rs:=h.keep λa xs q=>rB q t
def xK{ts:Aaf}(m:z∈ts):ts[ts.idxOf z]?=some z/\∀n,n<ts.idxOf z->ts[n]?≠some z:=by refine{by rw[ao (dD m),kW],λn hn q=>?_};obtain⟨ln,en⟩:=aq.mp q;have:=yF hn;rw[en]at this;simp at this
def Mc{z:Str}(m:z∈ts)(le:rs.length=ts.length):rs[ts.idxOf z]?=some (AskP.atT rs ts z):=by have li:=dD m;unfold AskP.atT;rw[cY,ao ∅];rfl
structure oY(P:Program)(w:World)(K:Frag)(H0 H:Hp)(d:Addr)(kvs:List (-44))(f:Aaf->T7):Prop where
 at_:gn P w K H d kvs
 no:∀zs,valN kvs (gj zs)=none->f zs=[]
 vals:∀zs v,valN kvs (gj zs)=some v->∃l ys,v=.ref l/\H0 l=none/\H l=some (-39)/\dJ K H ys (f zs)
 inj:∀zs xq l,valN kvs (gj zs)=some (.ref l)->valN kvs (gj xq)=some (.ref l)->zs=xq
def oY.same(x:oY P w K H0 H d kvs f)(s:bI H H'):oY P w K H0 H' d kvs f:=by obtain⟨u,hu⟩:=x.at_.some;refine{x.at_.tp (fq.same s) (by rw[hu,s _ _ hu]),x.no,λzs v h=>?_,x.inj};obtain⟨l,ys,h1,h2,h3,h4⟩:=x.vals zs v h;exact{l,ys,h1,h2,s _ _ h3,cI h4 s}
def oY.abr(x:oY P w K H0 H d kvs f)(hk:jS K H (gj key) b)(hn:valN kvs (gj key)=none)(h0:H0 l0=none)(hl:H l0=some (.lst []))(hd:H0 d=none)
  (fr:∀zs,valN kvs (gj zs)≠some (.ref l0)):oY P w K H0 (upd H d (.ext (DN P w d (putN kvs (gj key) b (.ref l0))))) d (putN kvs (gj key) b (.ref l0)) f:=by
 have ne:∀{l:Addr}{ys:Aam},H l=some (-39)->l≠d:=λ{l ys} h e=>by rw[e]at h;rcases x.at_.1 with q|⟨_,q⟩<;>rw[h]at q<;>cases q
 refine{x.at_.put hk,λzs h=>?_,λzs v h=>?_,λzs xq l h h'=>?_}
 ·rw[qI]at h;split at h
  ·cases h
  ·exact x.no zs h
 ·rw[qI]at h;split at h
  ·next c=>
   cases h;refine{l0,[],rfl,h0,by rw[ay (ne hl)];exact hl,?_};rw[x.no zs (c▸hn)];exact .nil
  ·obtain⟨l,ys,h1,h2,h3,h4⟩:=x.vals zs v h;exact{l,ys,h1,h2,by rw[ay (ne h3)];exact h3,tF h4 (fq.upd x.at_.rP)}
 ·rw[qI]at h h';split at h
  ·next c=>
   cases h;split at h'
   ·next c'=>exact y8 (c.trans c'.symm)
   ·exact absurd h' (fr xq)
  ·split at h'
   ·cases h';exact absurd h (fr zs)
   ·exact x.inj zs xq l h h'
def oY.push(x:oY P w K H0 H d kvs f)(hv:valN kvs (gj key)=some (.ref l))(hl:H l=some (-39))(hp:bC K H p (row.map V.str)):
  oY P w K H0 (upd H l (.lst (ys++[.ref p]))) d kvs (λzs=>if zs=key then f zs++[row]else f zs):=by
 have t:fq H (upd H l (.lst (ys++[.ref p]))):=fq.upd (qK hl);have dl:d≠l:=λe=>by rw[<-e]at hl;rcases x.at_.1 with q|⟨_,q⟩<;>rw[hl]at q<;>cases q
 refine{x.at_.tp t (ay dl),λzs h=>?_,λzs v h=>?_,x.inj}
 ·have c:¬zs=key:=λc=>by rw[c,hv]at h;cases h
  rw[aw c];exact x.no zs h
 ·obtain⟨l',fW,rfl,h2,h3,h4⟩:=x.vals zs v h;by_cases c:zs=key
  ·have e:l'=l:=by rw[c,hv]at h;cases h;rfl
   subst e;rw[hl]at h3;cases h3;refine{l',_,rfl,h2,au,?_};rw[aG c];exact(tF h4 t).snoc {p,rfl,rB hp t}
  ·have e:l'≠l:=λe=>c (x.inj zs key l (by rw[h,e]) hv);refine{l',fW,rfl,h2,ay e▸h3,?_};rw[aw c];exact tF h4 t
def iJ(P:Program)(w:World)(K:Frag)(H:Hp)(av:Aah)(d:Addr)(f:Aaf->T7):Prop:=d∉av/\∃kvs,gn P w K H d kvs/\∀zs,(valN kvs (gj zs)=none/\f zs=[])\/∃l ys,valN kvs (gj zs)=some (.ref l)/\l∉av/\H l=some (-39)/\dJ K H ys (f zs)
def iJ.fr(x:iJ P w K H av d f)(s:∀b u,b∉av->H b=some u->H' b=some u)(t:fq H H'):iJ P w K H' av d f:=by obtain⟨h0,kvs,h1,h2⟩:=x;obtain⟨u,hu⟩:=h1.some;exact{h0,kvs,h1.tp t (by rw[hu,s _ _ h0 hu]),λzs=>(h2 zs).imp id λ⟨l,ys,a,n,b,c⟩=>{l,ys,a,n,s _ _ n b,tF c t}}
def iJ.same(x:iJ P w K H av d f)(s:bI H H'):iJ P w K H' av d f:=x.fr (λb u _ e=>s _ _ e) (fq.same s)
def iJ.more(x:iJ P w K H av d f)(h:H e=none):iJ P w K H (e::av) d f:=by
 obtain⟨h0,kvs,h1,h2⟩:=x;obtain⟨u,hu⟩:=h1.some;have nm:∀{b:Addr}{u:HO},H b=some u->b∉av->b∉e::av:=λ{b u} hb n z=>by
  rcases aH.mp z with z|z
  ·rw[z,h]at hb;cases hb
  ·exact n z
 exact{nm hu h0,kvs,h1,λzs=>(h2 zs).imp id λ⟨l,ys,a,n,b,c⟩=>{l,ys,a,nm b n,b,c}}
def iJ.less(x:iJ P w K H av d f)(h:∀b∈av',b∈av):iJ P w K H av' d f:=by obtain⟨h0,kvs,h1,h2⟩:=x;exact{λz=>h0 (h _ z),kvs,h1,λzs=>(h2 zs).imp id λ⟨l,ys,a,n,b,c⟩=>{l,ys,a,λz=>n (h _ z),b,c}}
def oY.view(x:oY P w K H0 H d kvs f)(h0:H0 d=none)(ha:∀b∈av,H0 b≠none):iJ P w K H av d f:={λz=>ha _ z h0,kvs,x.at_,λzs=>by
 cases e:valN kvs (gj zs)with
 |none=>exact .inl {rfl,x.no zs e}
 |some v=>
  obtain⟨l,ys,rfl,h2,h3,h4⟩:=x.vals zs v e;exact .inr {l,ys,rfl,λz=>ha _ z h2,h3,h4}}
inductive HH(P:Program)(w:World)(K:Frag)(vs:Aam)(H:Hp)(Q:VK)(_x3:XK):Prop
 |mk (l t a b:Addr) (ys:Aam) (rows:T7) (ts known fresh:Aaf) (_:vs=[.ref l,.ref t,.ref a,.ref b]) (_:aY K H l ys) (_:dJ K H ys rows) (_:H t=some (.tup (ts.map V.str))) (_:aY K H a (known.map V.str)) (_:aY K H b (fresh.map V.str)) (_:rows.length<=100) (_:(∀r∈rows,r.length<=100/\qW r)) (_:ts.length<=100) (_:known.length<=100) (_:fresh.length<=100) (_:(∀z∈known,z∈ts)) (_:(∀z∈fresh,z∈ts)) (_:∀(d:Addr)(H':Hp),bI H H'->H d=none->(∀av:Aah,(∀b∈av,H b≠none)->iJ P w K H' av d (AskP.tails rows ts known fresh))->Q (.ref d) H')
structure Dt6(P:Program)(w:World)(K:Frag)(mg:Aab)(base:Heap):Prop where
 is_image:dz P w K mg base 1 "is_image" ["row","terms"] (HI K)
def Q5{rs ts ks:Aaf}(h:qW rs)(le:rs.length=ts.length)(hk:∀z∈ks,z∈ts):qW (ks.map (AskP.atT rs ts)):=λz hz=>by obtain⟨t,ht,rfl⟩:=ar.mp hz;exact h _ (az (Mc (hk t ht) le))
def OV{rows:T7}{ts known fresh r:Aaf}(h:rows[i]?=some r)(im:AskP.nq r ts=true):AskP.tails (rows.take (i+1)) ts known fresh=λzs=>if zs=known.map (AskP.atT r ts)then AskP.tails (rows.take i) ts known fresh zs++[fresh.map (AskP.atT r ts)]else AskP.tails (rows.take i) ts known fresh zs:=by
 funext zs;unfold AskP.tails;rw[a9,h,cq,kY,aD];by_cases c:zs=known.map (AskP.atT r ts)
 ·rw[aG c,List.filter_cons_of_pos (by rw[im,c];simp)];rfl
 ·rw[aw c,xn (by rw[im,jU];exactλq=>c (aW q).symm)];simp
def OW{rows:T7}{ts known fresh r:Aaf}(h:rows[i]?=some r)(im:AskP.nq r ts=false):AskP.tails (rows.take (i+1)) ts known fresh=AskP.tails (rows.take i) ts known fresh:=by funext zs;unfold AskP.tails;rw[a9,h,cq,kY,aD,xn (by rw[im];simp)];simp
def m9:cK ["rows","terms","known","fresh","tails","row","key"] ["rows","terms","known","fresh"] (defScope tw):=jV (-3)
def FJ(F:fJ K "tails_by_key" "tails_by_key" tw f fd)(T:Txt K mg)(D:Dt6 P w K mg base):dy P w K mg base f9 3 f fd ["rows","terms","known","fresh"] (HH P w K):=by
 refine F.ok m9 (λ_ _ _ _ h=>by cases h;subst_vars;rfl) (-4);obtain⟨l,t,a,b,ys,rows,ts,known,fresh,rfl,hl,sO,ht,ha,hb,lr,gr,lt,lk,lf,kt,ft,k⟩:=h;refine{_,(aO (fX 4 m9 nR) (aO (iG cz rfl (gf (pv 0)) (tK (i:=5) m9.nd rfl (Or.inr rfl)) (bx (ka (yV (cl D.is_image hr (dA (pv 5) (pv 1)))) (aO (fX 6 m9 (dR d6 rfl T.jz (-3) (cc (iQ rfl (df (fs:=["row","terms"]) (fr:=[5,1])) (gf (pv 2)) (λ_ _ _ _=>(cM (tL) (pv 1) (KD oC oA ox Au (pv 2) (cc (pv 0))) (-12))))))) (bx (lL (oS dj gF gE qM (Pm (F6 hr) (pv 4) (pv 6) (fY iY) ⟨rfl,rfl,rfl,rfl⟩) (cc (dR d6 rfl T.jz (-3) (cc (iQ rfl (df (fs:=["row","terms"]) (fr:=[5,1])) (gf (pv 3)) (λ_ _ _ _=>(cM (tL) (pv 1) (KD oC oA ox Au (pv 2) (cc (pv 0))) (-12))))))))))) gN))) (bx (cW (pv 4))))),?_}
 intro d km;have s1:bI H (upd H d (.dK [])):=aK km _;refine{_,rfl,l,rfl,{_,jh hl s1},xU
  (λi Z H2=>∃(x1 x2:Aan),Z=[some (.ref l),some (.ref t),some (-64),some (.ref b),some (.ref d),x1,x2]/\bI H H2/\i<=rows.length/\∃kvs,oY P w K H H2 d kvs (AskP.tails (rows.take i) ts known fresh)/\kvs.length<=i)
  {none,none,rfl,s1,aQ _,[],{Hq au,λzs _=>rfl,λzs v h=>(by cases h),λzs xq l h=>(by cases h)},ak _} (λi Z H2 _ ⟨_,_,_,sm,_⟩=>jh hl sm) ?_ ?_}
 ·rintro i x Z H2 D1 hx ⟨x1,x2,rfl,s2,_,kvs,tI,lkv⟩ NT _;obtain⟨r,xP,ra,rfl,wJ⟩:=Paired.at' (cI sO s2) hx;have cE:=(aq.mp xP).1;obtain⟨g1,g2⟩:=gr r (az xP);refine{_,rfl,_,rfl,ra,t,r,ts,rfl,wJ,s2 _ _ ht,g1,lt,λH3 s3=>{_,rfl,?_}};refine gO (λc=>?_) (λc=>?_)
  ·have le:r.length=ts.length:=by unfold AskP.nq at c;rw[cZ]at c;exact aW c.1
   have Nz:=s2.trans s3;have V4:=dW wJ s3;refine{_,rfl,a,rfl,{_,jh ha Nz},ir (xs:=known.map V.str) (λj zs H4=>H4=H3/\j<=known.length/\zs=((known.take j).map (AskP.atT r ts)).map V.str) (by rw[af];exact bO ∅) {rfl,aQ _,rfl} ?_ ?_ ?_}
   ·rintro j zs H4 hj ⟨rfl,_,rfl⟩;refine{jh ha Nz,?_};rw[af,af,aR];lia
   ·rintro j x zs H4 N hc ⟨rfl,hj,rfl⟩ wK;obtain⟨z,hz,rfl⟩:=kA hc;have jY:=(aq.mp hz).1;have m:=kt z (az hz);refine{_,rfl,_,rfl,.inr (.inl {rfl,.inl {_,Nz _ _ ht}}),_,rfl,t,ts,z,ts.idxOf z,rfl,rfl,bC.of (Nz _ _ ht),(xK m).1,(xK m).2,ra,_,_,V.str (AskP.atT r ts z),rfl,rfl,V4,jE (by rw[aL,Mc m le];rfl),wK _ _ {rfl,jY,?_}};rw[a9,hz,aD,aD];rfl
   rintro zs H4 ⟨rfl,_,rfl⟩ q hq;rw[af,bg];refine{q,_,rfl,.inl {aY.of au,λkp Ol=>?_}};have s5:bI H4 (upd (upd H4 q (.lst (-33))) kp (.tup (-33))):=(aK hq _).trans (aK Ol _);have ab8:upd (upd H4 q (.lst (-33))) kp (.tup (-33)) kp=some (.tup (-33)):=au;generalize (upd (upd H4 q (.lst (-33))) kp (.tup (-33)))=H5 at s5 ab8⊢;have tI5:=(tI.same s3).same s5;refine{_,rfl,d,kvs,rfl,tI5.at_,_,rfl,(-24),λl0 qP=>?_};have s6:bI H5 (upd H5 l0 (.lst [])):=aK qP _;have rY:upd H5 l0 (.lst []) l0=some (.lst []):=au;have BL:=Nz.trans (s5.trans s6);have fr6:∀zs,valN kvs (gj zs)≠some (.ref l0):=λzs h=>by obtain⟨l',_,e,_,h3,_⟩:=tI5.vals zs _ h;cases e;rw[qP]at h3;cases h3
   have Nn:=tI5.same s6;generalize (upd H5 l0 (.lst []))=H6 at s6 rY BL Nn⊢;have Om:jS K H6 (gj (known.map (AskP.atT r ts))) kp:=wH (bC.of (s6 _ _ ab8)) (Q5 g2 le kt);revert H6;refine adO (p:=λv H7=>∃Sk,oY P w K H H7 d Sk (AskP.tails (rows.take i) ts known fresh)/\Sk.length<=i+1/\bI H H7/\bC K H7 ra (r.map V.str)/\valN Sk (gj (known.map (AskP.atT r ts)))=some v) (λR H6 s6 rY BL Nn Om=>{kp,kvs,_,rfl,Nn.at_,Om,by lia,λv hv=>R v H6 {kvs,Nn,by lia,BL,dW V4 (s5.trans s6),hv},λhv=>R (.ref l0) _ {_,Nn.abr Om hv ((Nz.trans s5).free qP) rY km fr6,aJ wy ∅,λb o e=>by rw[ay (aZ e km)];exact BL _ _ e,rB (dW V4 (s5.trans s6)) (fq.upd Nn.at_.rP),by rw[qI,aG rfl]}}) λv H7 hp=>?_
   obtain⟨Sk,I7,lk7,Rf,aeZ,hv7⟩:=hp;obtain⟨ll,lys,e7,h07,zp,hr7⟩:=I7.vals _ _ hv7;cases e7;have lly:lys.length<=100:=by rw[hr7.length];unfold AskP.tails;rw[af];refine aJ (dO _ _) ?_;rw[aR];lia
   refine{.inl {rfl,_,aY.of zp},?_};refine{_,rfl,b,rfl,{_,jh hb Rf},ir (xs:=fresh.map V.str) (λj zs H8=>H8=H7/\j<=fresh.length/\zs=((fresh.take j).map (AskP.atT r ts)).map V.str) (by rw[af];exact bO ∅) {rfl,aQ _,rfl} ?_ ?_ ?_}
   ·rintro j zs H8 hj ⟨rfl,_,rfl⟩;refine{jh hb Rf,?_};rw[af,af,aR];lia
   ·rintro j x zs H8 N hc ⟨rfl,hj,rfl⟩ wK;obtain⟨z,hz,rfl⟩:=kA hc;have jY:=(aq.mp hz).1;have m:=ft z (az hz);refine{_,rfl,_,rfl,.inr (.inl {rfl,.inl {_,Rf _ _ ht}}),_,rfl,t,ts,z,ts.idxOf z,rfl,rfl,bC.of (Rf _ _ ht),(xK m).1,(xK m).2,ra,_,_,V.str (AskP.atT r ts z),rfl,rfl,aeZ,jE (by rw[aL,Mc m le];rfl),wK _ _ {rfl,jY,?_}};rw[a9,hz,aD,aD];rfl
   rintro zs H8 ⟨rfl,_,rfl⟩ q2 hq2;rw[af,bg];refine{q2,_,rfl,.inl {aY.of au,λtp htp=>?_}};have s8:=(aK hq2 (.lst ((fresh.map (AskP.atT r ts)).map V.str))).trans (aK htp (.tup ((fresh.map (AskP.atT r ts)).map V.str)));have I9:=(I7.same s8).push hv7 (s8 _ _ zp) (bC.of au);refine{_,lys,_,rfl,rfl,s8 _ _ zp,bO ∅,?_};refine NT _ _ {_,_,rfl,λb o e=>?_,cE,Sk,?_,lk7}
   ·rw[ay (aZ e h07)];exact s8 _ _ (Rf _ _ e)
   ·rw[OV xP c];exact I9
  ·refine NT _ _ {_,_,rfl,s2.trans s3,cE,kvs,?_,by lia};rw[OW xP (by simpa using c)];exact tI.same s3
 ·rintro Z H2 ⟨x1,x2,rfl,s2,_,kvs,tI,_⟩;rw[sO.length,bg]at tI;exact{_,rfl,k d H2 s2 km λav ha=>tI.view km ha}
theorem xr:∀{more kvs:List (Key×V)},(fG (gz kvs more) k).isSome=true↔(fG kvs k).isSome=true\/k∈more.map (·.1)
 |[],kvs=>{.inl,λh=>h.elim id λz=>by cases z}
 |x::more,kvs=>by
  show(fG (gz (putK kvs x.1 x.2) more) k).isSome=true↔_;rw[xr,UD,bw,aH];by_cases c:k=x.1
  ·rw[aG c];exact{λ_=>.inr (.inl c),λ_=>.inl rfl}
  ·rw[aw c];exact{λh=>h.imp id .inr,λh=>h.imp id λz=>z.resolve_left c}
def Ll{zs:Aaf}:(Sum.inr z:Key)∈((zs.map (Sum.inr:Str->Key)).zip (-70)).map (·.1)↔z∈zs:=by rw[List.map_fst_zip (-8),ar];exact{λ⟨y,h,e⟩=>by cases e;exact h,λh=>⟨z,h,rfl⟩}
def N9{zs:Aaf}:(zs.map (Sum.inr:Str->Key)).map kV=zs.map V.str:=by rw[aV];rfl
def acM(H:Hp)(d:Addr)(p:Str->Prop):Prop:=∃kvs,H d=some (.dK kvs)/\∀z,(fG kvs (Sum.inr z:Key)).isSome=true↔p z
def uu(h:oN H v a)(s:bI H H'):oN H' v a:=by obtain⟨p,t,e,h1,h2⟩:=h;exact{p,t,e,s _ _ h1,s _ _ h2}
def lT(h:gP H vs as)(s:bI H H'):gP H' vs as:=by
 induction h with
 |nil=>exact .nil
 |cons h _ ih=>exact .cons (uu h s) ih
inductive JY(K:Frag)(vs:Aam)(H:Hp)(Q:VK)(_x3:XK):Prop
 |mk (h l:Addr) (hz:Aaf) (ys:Aam) (ats:T6) (_:vs=[.ref h,.ref l]) (_:bC K H h (hz.map V.str)) (_:aY K H l ys) (_:gP H ys ats) (_:hz.length<=100) (_:ats.length<=100) (_:(∀a∈ats,a.2.length<=100)) (_:∀(d:Addr)(H':Hp),bI H H'->H d=none->acM H' d (λz=>z∈hz\/∃a∈ats,z∈a.2)->Q (.ref d) H')
def ng:cK ["head","atoms","needed","name","terms"] ["head","atoms"] (defScope tD):=jV (-3)
def FK(F:fJ K "needed_terms" "needed_terms" tD f fd)(T:Txt K mg):dy P w K mg base f9 1 f fd ["head","atoms"] (JY K):=by
 refine F.ok ng (λ_ _ _ _ h=>by cases h;subst_vars;rfl) (-4);obtain⟨h,l,hz,ys,ats,rfl,hh,hl,sO,lh,la,lt,k⟩:=h;refine{_,(aO (fX 2 ng (Ky rfl T.K7 rfl T.Jq hr.hd (dA (pv 0) (pv 0)))) (aO (iG cz rfl (gf (pv 1)) (nQ rfl (dC (kR 3 ng) (dC (kR 4 ng) ku))) (bx (lL (oS iX wX PySem.F.type_dict_update R5 (pv 2) (cc (Ky rfl T.K7 rfl T.Jq hr.hd (dA (pv 4) (pv 4)))))))) (bx (cW (pv 2))))),?_}
 refine{_,rfl,_,rfl,h,h,hz.map Sum.inr,hz.map V.str,rfl,N9▸hh,hh,by rw[af,af],λd km=>?_};have s1:=aK km (.dK (gz [] ((hz.map (Sum.inr:Str->Key)).zip (hz.map V.str))));refine{_,rfl,l,rfl,{_,jh hl s1},xU
  (λi Z H2=>∃(x1 x2:Aan),Z=[some (.ref h),some (.ref l),some (.ref d),x1,x2]/\bI H H2/\i<=ats.length/\∃kvs,H2 d=some (.dK kvs)/\kvs.length<=100+100*i/\∀z,(fG kvs (Sum.inr z:Key)).isSome=true↔(z∈hz\/∃a∈ats.take i,z∈a.2))
  {none,none,rfl,s1,aQ _,_,au,?_,?_} (λi Z H2 _ ⟨_,_,_,sm,_⟩=>jh hl sm) ?_ ?_}
 ·refine aJ (kM _ _) ?_;rw[jL,af,af,fA];lia
 ·intro z;rw[xr,Ll];exact{λh=>h.elim (λz=>by cases z) .inl,λh=>h.elim .inr λ⟨a,ha,_⟩=>by cases ha}
 ·rintro i x Z H2 D1 hx ⟨x1,x2,rfl,s2,_,kvs,hd2,lk,hv⟩ NT _;obtain⟨a,ha,p,t,rfl,hp,ht⟩:=Paired.at sO hx;have cE:=(aq.mp ha).1;have l1:=lt a (az ha);refine{p,_,rfl,bC.of (s2 _ _ hp),rfl,_,_,rfl,_,_,rfl,rfl,?_};have IA:bC K H2 t (a.2.map V.str):=bC.of (s2 _ _ ht);refine{_,rfl,.inr (.inr (.inl {rfl,.inl ⟨_,hd2⟩})),_,rfl,_,rfl,t,t,a.2.map Sum.inr,a.2.map V.str,rfl,N9▸IA,IA,by rw[af,af],λe LJ=>?_};have s3:=aK LJ (.dK (-52));have lm:(-52).length<=100:=by refine aJ (kM _ _) ?_;rw[jL,af,af,fA];lia
  refine{d,e,kvs,_,rfl,rfl,aZ hd2 LJ,s3 _ _ hd2,au,bo (cU (Nat.add_le_add lk lm) (cU (show 100+100*i+100<=20000 by lia) (-9))),?_};refine NT _ _ {_,_,rfl,λb o q=>?_,cE,_,au,?_,λz=>?_}
  ·rw[ay (aZ q km)];exact s3 _ _ (s2 _ _ q)
  ·refine aJ (kM _ _) ?_;lia
  ·rw[xr,hv,a9,ha,cq];have e1:(Sum.inr z:Key)∈(-52).map (·.1)↔z∈a.2:=by
    rw[<-Ll];have:=xr (k:=(Sum.inr z:Key)) (more:=(a.2.map (Sum.inr:Str->Key)).zip (a.2.map V.str)) (kvs:=[]);refine Iff.trans {λh=>?_,λh=>?_} (this.trans {λh=>h.elim (λz=>by cases z) id,.inr})
    ·cases q:fG (-52) (Sum.inr z:Key)with
     |none=>exact absurd h (UE q)
     |some _=>rfl
    ·obtain⟨v,q⟩:=kE.mp h;exact YV q
   rw[e1];constructor
   ·rintro((h|⟨b,hb,h⟩)|h)
    ·exact .inl h
    ·exact .inr {b,bH _ hb,h}
    ·exact .inr {a,bY _ aA,h}
   ·rintro(h|⟨b,hb,h⟩)
    ·exact .inl (.inl h)
    ·rcases aP.mp hb with hb|hb
     ·exact .inl (.inr ⟨b,hb,h⟩)
     ·cases ax.mp hb;exact .inr h
 ·rintro Z H2 ⟨x1,x2,rfl,s2,_,kvs,hd2,_,hv⟩;rw[(bh sO),bg]at hv;exact{_,rfl,k d H2 s2 km ⟨kvs,hd2,hv⟩}
variable{C:Addr}
structure Fc(K:Frag)(C:Addr):Prop where
 c:CU K C
 tables:p6 K C "tables"
 kept:p6 K C "kept"
 maps:p6 K C "maps"
 tails:p6 K C "tails"
def iA(kept ts:Aaf):Aaf:=(fS ts).filter λt=>decide (t∉kept)
def kS(kept ts:Aaf):Aaf:=ts.filter λt=>decide (t∉iA kept ts)
def wB(a:Str×Aaf)(known:Aaf):NK:=.tup [.tup [.key (.inr a.1),gj a.2],gj known]
def ZH(h:wB a k=wB a' k'):a=a'/\k=k':=by unfold wB at h;simp only[NK.tup.injEq,List.cons.injEq,NK.key.injEq,Sum.inr.injEq,and_true]at h;obtain⟨⟨h1,h2⟩,h3⟩:=h;exact{Fb h1 (y8 h2),y8 h3}
def VT(hq:bC K H q [.ref p,.ref u])(hp:bC K H p [.str a.1,.ref t])(ht:bC K H t (a.2.map V.str))(hu:bC K H u (known.map V.str))(s1:PyData.strOk a.1=true)(s2:qW a.2)(s3:qW known):jS K H (wB a known) q:=by
 refine{?_,qd.good (n:=3) ?_ (-9)}
 ·unfold wB;refine{q,_,rfl,hq,?_};refine{_,_,rfl,?_,?_}
  ·rw[NV];refine{p,_,rfl,hp,?_};refine{_,_,rfl,?_,?_}
   ·rw[NV];rfl
   ·rw[uP];refine{_,_,rfl,KW ht,?_};rw[uP]
  ·rw[uP];refine{_,_,rfl,KW hu,?_};rw[uP]
 ·have up:∀{n m:Nat}{k:NK},qd n k->n<=m->qd m k:=λg l=>{g.1,aJ g.2.1 l,aJ g.2.2 l};refine EU λk hk=>?_;rcases aH.mp hk with rfl|hk
  ·refine EU λk hk=>?_;rcases aH.mp hk with rfl|hk
   ·exact good_str s1
   ·cases ax.mp hk;exact EV s2
  ·cases ax.mp hk;exact up (EV s3) (-9)
abbrev W5(fs:List En)(a:Str×Aaf)(known:Aaf):Aaf->T7:=AskP.tails (vK (eJ fs a.1)) a.2 known ((fS a.2).filter λt=>decide (t∉known))
structure jP(P:Program)(w:World)(K:Frag)(H:Hp)(td:Addr)(av:Aah)(fs:List En)(kvs:List (-44)):Prop where
 at_:gn P w K H td kvs
 all:∀a known v,valN kvs (wB a known)=some v->∃d,v=.ref d/\iJ P w K H av d (W5 fs a known)
def QK(P:Program)(w:World)(K:Frag)(H:Hp)(td:Addr)(av:Aah)(fs:List En)(n:Nat):Prop:=∃kvs,jP P w K H td av fs kvs/\kvs.length<=n
def SB(d:Addr)(H H':Hp):Prop:=∀b u,b≠d->H b=some u->H' b=some u
def SB.tp(s:SB d H H')(h:mz H d):fq H H':=λb xs q=>by
 have hb:b≠d:=λe=>h xs (e▸q);rcases q with q|⟨o,q⟩
 ·exact .inl (s _ _ hb q)
 ·exact .inr {o,s _ _ hb q}
def SB.same(s:bI H H'):SB d H H':=λb u _ e=>s _ _ e
def SB.trans(a:SB d H H1)(b:SB d H1 H2):SB d H H2:=λx u n e=>b x u n (a x u n e)
def jP.fr(x:jP P w K H td av fs kvs)(s:∀b u,b∉av->H b=some u->H' b=some u)(t:fq H H')(e:H' td=H td):jP P w K H' td av fs kvs:=
 {x.at_.tp t e,λa known v h=>by obtain⟨d,e1,e3⟩:=x.all a known v h;exact{d,e1,e3.fr s t}}
def jP.same(x:jP P w K H td av fs kvs)(s:bI H H'):jP P w K H' td av fs kvs:=by obtain⟨u,hu⟩:=x.at_.some;exact x.fr (λb u _ e=>s _ _ e) (fq.same s) (by rw[hu,s _ _ hu])
def QK.same(x:QK P w K H td av fs n)(s:bI H H'):QK P w K H' td av fs n:=by obtain⟨kvs,h1,h2⟩:=x;exact{kvs,h1.same s,h2}
def _root_.L2.gn.vN(h:gn P w K H d kvs)(l:Aam):H d≠some (.lst l):=λe=>by rcases h.1 with q|⟨_,q⟩<;>rw[e]at q<;>cases q
def jP.add(x:jP P w K H td av fs kvs)(ht:td∈av)(hk:jS K H (wB a known) q)(hd:iJ P w K H av d (W5 fs a known)):
  jP P w K (upd H td (.ext (DN P w td (putN kvs (wB a known) q (.ref d))))) td av fs (putN kvs (wB a known) q (.ref d)):=by
 have s:∀b u,b∉av->H b=some u->upd H td (.ext (DN P w td (putN kvs (wB a known) q (.ref d)))) b=some u:=λb u n e=>by rw[ay (λz=>n (by rw[z];exact ht))];exact e
 have t:fq H (upd H td (.ext (DN P w td (putN kvs (wB a known) q (.ref d))))):=fq.upd x.at_.rP;refine{x.at_.put hk,λa' abA v h=>?_};rw[qI]at h;split at h
 ·next c=>
  cases h;obtain⟨rfl,rfl⟩:=ZH c;exact{d,rfl,hd.fr s t}
 ·obtain⟨d',e1,e3⟩:=x.all a' abA v h;exact{d',e1,e3.fr s t}
structure jm(P:Program)(w:World)(K:Frag)(C:Addr)(H:Hp)(me dx tb kl md td:Addr)(ex:Aah)(fs:List En)(kept:Aaf)(maps:Cm)(n:Nat):Prop where
 ins:H me=some (.ins C dx [("tables",.ref tb),("kept",.ref kl),("maps",.ref md),("tails",.ref td)])
 tab:jj K H tb fs
 ze:H kl=some (.lst (kept.map V.str))
 xG:RowC P w K H md maps
 BA:QK P w K H td (td::md::ex) fs n
 nm:md≠td
 nt:tb≠td
 ke:kl∉ex
def jm.same(x:jm P w K C H self dx tb kl md td ex fs kept maps n)(s:bI H H'):jm P w K C H' self dx tb kl md td ex fs kept maps n:=
 {s _ _ x.ins,x.tab.same s,s _ _ x.ze,x.xG.same s,x.BA.same s,x.nm,x.nt,x.ke}
def FinA(a:Str×Aaf):Prop:=a.2.length<=4/\PyData.strOk a.1=true/\qW a.2/\∀z∈a.2,z.length<=1000
def adI(a:Str×Aaf):cS [a]=a.2:=by show a.2++[]=a.2;exact c8 _
inductive Ez(P:Program)(w:World)(K:Frag)(C:Addr)(vs:Aam)(H:Hp)(Q:VK)(_x3:XK):Prop
 |mk (self at_ dx tb kl md td:Addr) (ex:Aah) (fs:List En) (kept:Aaf) (maps:Cm) (n:Nat) (a:Str×Aaf) (_:vs=[.ref self,.ref at_]) (_:jm P w K C H self dx tb kl md td ex fs kept maps n) (_:oN H (.ref at_) a) (_:FinA a) (_:∀(l:Addr)(H':Hp),bI H H'->H l=none->H' l=some (.lst ((iA kept a.2).map V.str))->Q (.ref l) H')
structure Df6(P:Program)(w:World)(K:Frag)(mg:Aab)(base:Heap):Prop where
 unknowns_of:dz P w K mg base 3 "unknowns_of" ["question"] QZ
def EM(l:Aaf):(fS l).length<=l.length:=N5 l
def Bl:cK ["self","atom"] ["self","atom"] (defScope nO):=jV (-3)
def VA(F:fJ K "fresh_unknowns" "Asking.fresh_unknowns" nO f fd)(T:Txt K mg)(O:Fc K C)(D:Df6 P w K mg base):dy P w K mg base f9 4 f fd ["self","atom"] (Ez P w K C):=by
 refine F.ok Bl (λ_ _ _ _ h=>by cases h;subst_vars;rfl) (-4);obtain⟨self,at_,dx,tb,kl,md,td,ex,fs,kept,maps,n,a,rfl,st,ha,fa,k⟩:=h;refine{_,(bx (cW (nU rfl (df (fs:=["self"]) (fr:=[0])) (gf (cl D.unknowns_of hr (cc (iH (dA (iH iY) (iH (-88))))))) (λ_ _ _ _=>(eG (qh) (pv 0) (Zv (pv 1) rfl) (-36))) (λ_ _ _ _=>(pv 0))))),?_};refine{by show 0<=sizeLine;decide,λe he=>?_};have s1:=aK he (.tup ([]:Aam));have he1:upd H e (.tup []) e=some (.tup []):=au;generalize (upd H e (.tup []))=H1 at s1 he1⊢;refine{_,rfl,by show 1<=sizeLine;decide,λt ht=>?_};have s2:=aK ht (.tup [V.ref at_]);have IA:upd H1 t (.tup [V.ref at_]) t=some (.tup [V.ref at_]):=au;generalize (upd H1 t (.tup [V.ref at_]))=H2 at s2 IA⊢;refine{by show 2<=sizeLine;decide,λq hq=>?_};have s3:=aK hq (.tup [V.ref e,V.ref t]);have hq3:upd H2 q (.tup [V.ref e,V.ref t]) q=some (.tup [V.ref e,V.ref t]):=au;have HQ:=s1.trans (s2.trans s3);refine{.ref q,[],[a],rfl,{q,e,t,[.ref at_],rfl,hq3,s3 _ _ (s2 _ _ he1),s3 _ _ IA,.cons (uu ha HQ) .nil},λb hb=>?_,by show 1<=100;decide,λr H4 s4 Lx xN=>?_}
 ·cases ax.mp hb;exact{fa.1,fa.2.2.2}
 rw[adI]at xN;have BM:=HQ.trans s4;have lu:=EM a.2;have l4:=fa.1;refine{r,rfl,{_,aY.of xN},ir (xs:=(fS a.2).map V.str) (λi ys H5=>H5=H4/\i<=(fS a.2).length/\ys=(((fS a.2).take i).filter λt=>decide (t∉kept)).map V.str) (by rw[af];exact bO ∅) {rfl,aQ _,rfl} ?_ ?_ ?_}
 ·rintro i ys H5 hi ⟨rfl,_,rfl⟩;refine{aY.of xN,?_};rw[af];exact aJ (dO _ _) (by rw[aR];lia)
 ·rintro i x ys H5 N hx ⟨rfl,hi,rfl⟩ hN;obtain⟨z,hz,rfl⟩:=kA hx;have cE:=(aq.mp hz).1;refine{_,rfl,_,rfl,self,C,dx,_,_,rfl,BM _ _ st.ins,O.c,O.kept,rfl,kl,_,rfl,.inl (aY.of (BM _ _ st.ze)),rfl,xV _,_,rfl,?_};rw[C9];have en:((fS a.2).take (i+1)).filter (λt=>decide (t∉kept))=((fS a.2).take i).filter (λt=>decide (t∉kept))++if z∈kept then[]else[z]:=by rw[a9,hz,cq,kY];congr 1;by_cases c:z∈kept<;>simp[c]
  by_cases c:z∈kept
  ·refine gO (λq=>by simp[c]at q) (λ_=>hN _ _ {rfl,cE,?_});rw[en,aG c,c8]
  ·refine gO (λ_=>{_,rfl,hN _ _ {rfl,cE,?_}}) (λq=>absurd (by simp[c]) q);rw[en,aw c,aD];rfl
 ·rintro ys H5 ⟨rfl,_,rfl⟩ l hl;rw[af,bg];exact k l _ (BM.trans (aK hl _)) (BM.free hl) au
def Yq(kept ts:Aaf):(fS ts).filter (λt=>decide (t∉kS kept ts))=iA kept ts:=by
 refine List.filter_congr λt ht=>?_;have:t∈kS kept ts↔t∈kept:=by unfold kS iA;rw[bQ,fQ,bQ,fQ];exact{λh=>nF λc=>h.2 ⟨ht,c⟩,λh=>{((v5 ht).resolve_left λz=>by cases z),λz=>z.2 h}}
 simp only[this]
theorem IQ:∀l:T7,(AF l).length<=l.length
 |[]=>ak _
 |a::r=>by have:=IQ r;unfold AF;split<;>(simp only[bA];lia)
def Fm(l:T7):(vK l).length<=l.length:=by unfold vK;rw[(cb _).length_eq];exact IQ l
def uy(h:z∈kr):PyData.strOk z=true:=by unfold kr eA at h;simp only[jl,kU,aH,qD,EI]at h;rcases h with rfl|rfl|rfl|rfl|rfl|rfl|rfl|rfl|rfl|rfl|rfl<;>decide+kernel
def jj.good(x:jj K H p fs)(z:Str):(eJ fs z).length<=8/\∀r∈eJ fs z,zL r:=by
 unfold eJ;cases q:fs.find? (λe=>decide (e.nm=z))with
 |none=>exact{aQ _,λr h=>by cases h}
 |some e=>
  obtain⟨_,_,h3,h4⟩:=x.en e (eY q);exact⟨h3,h4⟩
abbrev dbT(fs:List En)(z:Str):T7:=vK (eJ fs z)
def yL(fs:List En)(kept:Aaf)(a:Str×Aaf)(v:Aaf):T7:=AskP.tails (dbT fs a.1) a.2 (-48) (iA kept a.2) (AskP.image kept v (-48))
def Nj(x:jj K H p fs)(kept:Aaf)(a:Str×Aaf)(v:Aaf):(yL fs kept a v).length<=8:=by unfold yL AskP.tails;rw[af];exact aJ (dO _ _) (aJ (Fm _) (x.good a.1).1)
abbrev De(K:Frag)(H:Hp)(av:Aah)(fs:List En)(kept:Aaf)(a:Str×Aaf):Aam->Cm->Prop:=Paired λ(y:V)(x:Aaf×Int)=>∃t zs,y=.ref t/\t∉av/\H t=some (.lst zs)/\dJ K H zs (yL fs kept a x.1)
def JJ(h:De K H av fs kept a ys m)(s:∀b u,b∉av->H b=some u->H' b=some u)(t:fq H H'):De K H' av fs kept a ys m:=by
 induction h with
 |nil=>exact .nil
 |cons h _ ih=>
  obtain⟨t',zs,e,n,h1,h2⟩:=h;exact .cons {t',zs,e,n,s _ _ n h1,tF h2 t} ih
def JI(h:De K H av fs kept a ys m)(s:bI H H'):De K H' av fs kept a ys m:=JJ h (λb u _ e=>s _ _ e) (fq.same s)
structure Gw(kept:Aaf)(maps:Cm):Prop where
 nd:kept.Nodup
 sok:qW kept
 len:kept.length<=100
 row:∀x∈maps,x.1.length=kept.length/\qW x.1
 gC:maps.length<=400000
inductive OY(P:Program)(w:World)(K:Frag)(C:Addr)(vs:Aam)(H:Hp)(Q:VK)(_x3:XK):Prop
 |mk (self at_ dx tb kl md td:Addr) (ex:Aah) (fs:List En) (kept:Aaf) (maps:Cm) (n:Nat) (a:Str×Aaf) (_:vs=[.ref self,.ref at_]) (_:jm P w K C H self dx tb kl md td ex fs kept maps n) (_:oN H (.ref at_) a) (_:FinA a) (_:Gw kept maps) (_:n<=1000000) (_:(∀b∈ex,∃u,H b=some u)) (_:∀(l:Addr)(ys:Aam)(H':Hp),SB td H H'->H l=none->H' l=some (.lst ys)->jm P w K C H' self dx tb kl md td ex fs kept maps (n+1)->De K H' (td::md::ex) fs kept a ys maps->Q (.ref l) H')
structure Dm6(P:Program)(w:World)(K:Frag)(mg:Aab)(base:Heap)(C:Addr):Prop extends Dn P w K mg base where
 ji:sG P w K mg base C 4 "fresh_unknowns" ["self","atom"] (Ez P w K C)
 rows_of:dz P w K mg base 1 "rows_of" ["tables","name"] (JV K)
 tails_by_key:dz P w K mg base 3 "tails_by_key" ["rows","terms","known","fresh"] (HH P w K)
def jj.sb(x:jj K H p fs)(s:SB td H H')(nt:mz H td)(nl:∀l,H td≠some (.lst l))(ne:p≠td):jj K H' p fs:={s _ _ ne x.at_,x.nm,λe he=>by obtain⟨h1,h2,h3⟩:=x.en e he;exact{s _ _ (λz=>nl _ (z▸h1)) h1,tF h2 (s.tp nt),h3}}
def RowC.sb(x:RowC P w K H d m)(s:SB td H H')(nt:mz H td)(ne:d≠td):RowC P w K H' d m:=by obtain⟨kvs,h1,h2⟩:=x;obtain⟨u,hu⟩:=h1.some;exact{kvs,h1.tp (s.tp nt) (by rw[hu,s _ _ ne hu]),h2}
def _root_.L2.gn.FO(h:gn P w K H d kvs):H d≠some (.ins C dx l):=λe=>by rcases h.1 with q|⟨_,q⟩<;>rw[e]at q<;>cases q
def jm.sb(x:jm P w K C H self dx tb kl md td ex fs kept maps n)(s:SB td H H')(ck:jP P w K H' td (td::md::ex) fs kvs)(l:kvs.length<=m):jm P w K C H' self dx tb kl md td ex fs kept maps m:=by obtain⟨_,c0,_⟩:=x.BA;exact{s _ _ (λz=>c0.at_.FO (by rw[<-z];exact x.ins)) x.ins,x.tab.sb s c0.at_.rP c0.at_.vN x.nt,s _ _ (λz=>c0.at_.vN _ (by rw[<-z];exact x.ze)) x.ze,x.xG.sb s c0.at_.rP x.nm,⟨kvs,ck,l⟩,x.nm,x.nt,x.ke}
def ie:cK ["self","atom","fresh","known","key","tails","places"] ["self","atom"] (defScope pE):=jV (-3)
def Vx(F:fJ K "tails_of_maps" "Asking.tails_of_maps" pE f fd)(T:Txt K mg)(O:Fc K C)(D:Dm6 P w K mg base C):dy P w K mg base f9 5 f fd ["self","atom"] (OY P w K C):=by
 refine F.ok ie (λ_ _ _ _ h=>by cases h;subst_vars;rfl) (-4);obtain⟨self,at_,dx,tb,kl,md,td,ex,fs,kept,maps,n,a,rfl,st,ha,fa,mo,hn,hex,k⟩:=h;have hN:=F6 hr;refine{_,(aO (mM (i:=2) ie.nd rfl (Or.inr rfl) (N0 O.c D.ji hr (pv 0) (-88) ∅)) (aO (mM (i:=3) ie.nd rfl (Or.inr rfl) (nU rfl (df (fs:=["fresh"]) (fr:=[2])) (uB (cM il (pv 1) aX (-12))) (λ_ _ _ _=>(eG (qh) (pv 0) (pv 1) (-36))) (λ_ _ _ _=>(pv 0)))) (aO (fX 4 ie (iH (dA (pv 1) (dR d6 rfl T.jz (-3) (cc (pv 3)))))) (aO (ka (eG (RF hN) (pv 4) (mN (pv 0) rfl) (-36)) (bx (Kr hN (mN (pv 0) rfl) (pv 4) (cl D.tails_by_key hr (fC (cl D.rows_of hr (dA (mN (pv 0) rfl) (cM il (pv 1) aX (-12)))) (rN (cM il (pv 1) aX (-12)) (pv 3) (pv 2)))) rfl)) gN) (aO (mM (i:=5) ie.nd rfl (Or.inr rfl) (Kz hN (mN (pv 0) rfl) (pv 4) (-12))) (aO (mM (i:=6) ie.nd rfl (Or.inr rfl) (cl D.places_of hr (cc (mN (pv 0) rfl)))) (bx (cW (Vo (iQ rfl (df (fs:=["tails","known","places"]) (fr:=[5,3,6])) (Vn (mN (pv 0) rfl)) (λ_ _ _ _=>(Pn hN (pv 1) (cl D.image hr (rN (pv 2) (pv 3) (pv 0))) (fY iY) ⟨rfl,rfl,rfl,rfl⟩)))))))))))),?_}
 refine gw λR eR=>?_;refine{_,rfl,self,dx,_,rfl,st.ins,rfl,_,rfl,self,at_,dx,tb,kl,md,td,ex,fs,kept,maps,n,a,rfl,st,ha,fa,λfr H1 s1 hf0 Bc=>?_};obtain⟨_,t,e,hp,ht⟩:=id ha;cases e;have l4:=fa.1;refine dX eR λR eR=>?_;refine{_,rfl,_,_,_,_,rfl,rfl,bC.of (s1 _ _ hp),rfl,t,rfl,{_,bC.of (s1 _ _ ht)},AH (xs:=a.2.map V.str) (λi ys H2=>H2=H1/\i<=a.2.length/\ys=((a.2.take i).filter λt=>decide (t∉iA kept a.2)).map V.str) (by rw[af];exact bO ∅) {rfl,aQ _,rfl} ?_ ?_ ?_}
 ·rintro i ys H2 hi ⟨rfl,_,rfl⟩;refine{bC.of (s1 _ _ ht),?_};rw[af];exact aJ (dO _ _) (by rw[aR];lia)
 ·rintro i x ys H2 N hx ⟨rfl,hi,rfl⟩ wK;obtain⟨z,hz,rfl⟩:=kA hx;have cE:=(aq.mp hz).1;refine{_,rfl,_,rfl,fr,_,rfl,.inl (aY.of Bc),rfl,xV _,_,rfl,?_};rw[C9];have en:(a.2.take (i+1)).filter (λt=>decide (t∉iA kept a.2))=(a.2.take i).filter (λt=>decide (t∉iA kept a.2))++if z∈iA kept a.2 then[]else[z]:=by rw[a9,hz,cq,kY];congr 1;by_cases c:z∈iA kept a.2<;>simp[c]
  by_cases c:z∈iA kept a.2
  ·refine gO (λq=>by simp[c]at q) (λ_=>wK _ _ {rfl,cE,?_});rw[en,aG c,c8]
  ·refine gO (λ_=>{_,rfl,wK _ _ {rfl,cE,?_}}) (λq=>absurd (by simp[c]) q);rw[en,aw c,aD];rfl
 rintro ys H2 ⟨rfl,_,rfl⟩ kn aff;rw[af,bg];have s2:=aK aff (.lst ((-48).map V.str));have Wc:upd H2 kn (.lst ((-48).map V.str)) kn=some (.lst ((-48).map V.str)):=au;have ni:=s1.trans s2;have II:=s2 _ _ Bc;generalize hH:(upd H2 kn (.lst _))=H3;have hH':upd H2 kn (.lst ((-48).map V.str))=H3:=hH;rw[hH']at s2 Wc ni II;refine dX eR λR eR=>?_;refine{_,rfl,_,rfl,kn,_,rfl,.inl {aY.of Wc,λtk XT=>?_}};have s4:=aK XT (.tup ((-48).map V.str));have abZ:upd H3 tk (.tup ((-48).map V.str)) tk=some (.tup ((-48).map V.str)):=au;have BM:=ni.trans s4;have hf4:=s4 _ _ II;have acb:=s4 _ _ Wc;generalize (upd H3 tk (.tup ((-48).map V.str)))=H4 at s4 abZ BM hf4 acb⊢;refine{by show 2<=sizeLine;decide,λky hky=>?_};have s5:=aK hky (.tup [V.ref at_,V.ref tk]);have ab7:upd H4 ky (.tup [V.ref at_,V.ref tk]) ky=some (.tup [V.ref at_,V.ref tk]):=au;have Fz:=BM.trans s5;have hf5:=s5 _ _ hf4;have P9:=s5 _ _ acb;have abY:=s5 _ _ abZ;generalize (upd H4 ky (.tup [V.ref at_,V.ref tk]))=H5 at s5 ab7 Fz hf5 P9 abY⊢;have o7:=st.same Fz;have sk:qW (-48):=λz hz=>fa.2.2.1 z (bQ.mp hz).1;have lkn:(-48).length<=4:=aJ (dO _ _) l4;have key:∀{H':Hp},fq H5 H'->jS K H' (wB a (-48)) ky:=λtp=>zf (VT (bC.of ab7) (bC.of (Fz _ _ hp)) (bC.of (Fz _ _ ht)) (bC.of abY) fa.2.1 fa.2.2.1 sk) tp;obtain⟨kvs,ck,lk⟩:=id o7.BA;refine dX eR λR eR=>?_;refine Kb λNX hNX=>?_;have go:∀(H6:Hp)(Sl:List (-44))(d:Addr),SB td H5 H6->jP P w K H6 td (td::md::ex) fs Sl->Sl.length<=n+1->valN Sl (wB a (-48))=some (.ref d)->NX [some (.ref self),some (.ref at_),some (.ref fr),some (.ref kn),some (.ref ky),none,none] H6:=λH6 Sl d nh Ud lk6 hv6=>by
  refine hNX _ _ ?_;have m8:=o7.sb nh Ud lk6;have aca:=nh _ _ (λz=>ck.at_.vN _ (z▸P9)) P9;obtain⟨d',e',tv6⟩:=Ud.all _ _ _ hv6;cases e';have et:W5 fs a (-48)=AskP.tails (dbT fs a.1) a.2 (-48) (iA kept a.2):=by show AskP.tails _ _ _ ((fS a.2).filter λt=>decide (t∉kS kept a.2))=_;rw[Yq]
  rw[et]at tv6;refine dX eR λR eR=>?_;refine{_,rfl,self,C,dx,_,_,rfl,m8.ins,O.c,O.tails,rfl,_,rfl,td,ky,Sl,_,.ref d,rfl,rfl,Ud.at_,key (nh.tp ck.at_.rP),hv6,?_};refine dX (T:=R) eR λR eR=>?_;refine{_,rfl,self,C,dx,_,_,rfl,m8.ins,O.c,O.kept,rfl,kl,kept,rfl,aY.of m8.ze,mo.nd,mo.len,λpd H7 s7 V6 Cb=>?_};have yN:=m8.same s7;obtain⟨vq,ID,em⟩:=yN.xG;obtain⟨um,Lp⟩:=ID.some;have R0:∀u v,H7 md≠some (.fg u v):=λu v e=>by rcases ID.1 with q|⟨_,q⟩<;>rw[e]at q<;>cases q
  have Ic:=ID.rP;refine v7 eR ?_;refine{md,R0,?_};refine{_,rfl,self,C,dx,_,_,rfl,yN.ins,O.c,O.maps,rfl,md,um,vq,rfl,Lp,ID,λo=>?_};have Fx:SB md H7 (upd H7 md (.fg o um)):=λb u n e=>ay n▸e;have JH:=Fx.tp Ic;have tvf:=(tv6.same s7).fr (λb u n e=>Fx b u (λz=>n (z▸aB _ aA)) e) JH;have ab9:=Fx _ _ (λz=>ID.vN _ (z▸s7 _ _ aca)) (s7 _ _ aca);have pdm:pd≠md:=λz=>by obtain⟨_,h1,_⟩:=m8.xG;obtain⟨_,h2⟩:=h1.some;rw[z,h2]at V6;cases V6
  have ab3:=Fx _ _ pdm Cb;have xQ:upd H7 md (.fg o um) md=some (.fg o um):=au;have avf:∀b∈td::md::ex,∃u,upd H7 md (.fg o um) b=some u:=λb hb=>by
   by_cases z:b=md
   ·exact{_,by rw[z];exact xQ}
   ·have go7:∀{u:HO},H7 b=some u->∃u,upd H7 md (.fg o um) b=some u:=λ{u} e=>{u,ay z▸e};by_cases z2:b=td
    ·obtain⟨_,h⟩:=Ud.at_.some;exact go7 (s7 _ _ (z2▸h))
    ·have Te:b∈ex:=by
      rcases aH.mp hb with h|h
      ·exact absurd h z2
      ·exact(aH.mp h).resolve_left z
     obtain⟨_,h⟩:=hex b Te;exact go7 (s7 _ _ (nh _ _ z2 (Fz _ _ h)))
  have Si:vq.length=maps.length:=by have:=bV List.length em;unfold sV at this;rw[af,af]at this;exact this
  have gv:∀(i:Nat)(q:NK×Addr×V),vq[i]?=some q->∃x,maps[i]?=some x/\bC K H7 q.2.1 (x.1.map V.str):=λi q hq=>by
   have e1:(sV maps)[i]?=some (q.1,q.2.2):=by rw[<-em,aL,hq];rfl
   unfold sV at e1;rw[aL]at e1;obtain⟨x,e2,e3⟩:=bq.mp e1;have:=(ID.2 q (az hq)).1;rw[<-(bV Prod.fst e3)]at this;exact{x,e2,FQ this}
  generalize Yn:upd H7 md (.fg o um)=Hf at tvf ab9 ab3 xQ JH avf⊢;refine Qz (λi ys H8=>bI Hf H8/\i<=maps.length/\De K H8 (td::md::ex) fs kept a ys (maps.take i)) (by rw[af,Si];exact cU mo.gC (-9)) {λ_ _ x=>x,aQ _,.nil} ?_ ?_ ?_
  ·rintro i ys H8 hi ⟨s8,X7,tl⟩;refine{s8 _ _ xQ,?_};rw[bh tl,aR];lia
  ·rintro i kv ys H8 N lP ⟨s8,X7,tl⟩ wK;rw[aL]at lP;obtain⟨q,hq,rfl⟩:=bq.mp lP;obtain⟨x,hx,hg⟩:=gv i q hq;have cE:=(aq.mp hx).1;obtain⟨g1,g2⟩:=mo.row x (az hx);obtain⟨_,kvt,Ls,qz⟩:=tvf.same s8;refine{_,rfl,d,kvt,rfl,Ls,_,rfl,_,rfl,_,rfl,kn,pd,q.2.1,kS kept a.2,kept,x.1,rfl,.inl (aY.of (s8 _ _ ab9)),s8 _ _ ab3,mo.nd,dW (rB hg JH) s8,g1,by lia,mo.len,λr H9 s9 Lx SU=>?_};refine{by show 0<=sizeLine;decide,λl0 qP=>?_};have iz:=s9.trans (aK qP (.lst ([]:Aam)));have LG:upd H9 l0 (.lst []) l0=some (.lst []):=au;have ae0:=(aK qP (.lst ([]:Aam))) _ _ SU;obtain⟨_,aej,aeW,ack⟩:=tvf.same (s8.trans iz);refine{r,aej,gj (AskP.image kept x.1 (-48)),rfl,aeW,wH (bC.of ae0) (HJ g2 sk),wK _ _ {s8.trans iz,cE,?_}};rw[a9,hx];refine(JI tl iz).snoc ?_;rcases ack (AskP.image kept x.1 (-48))with⟨h1,h2⟩|⟨l,zs,h1,h4,h2,h3⟩
   ·refine{l0,[],by rw[h1];rfl,λz=>?_,LG,?_}
    ·obtain⟨u,e⟩:=avf l0 z;rw[s9 _ _ (s8 _ _ e)]at qP;cases qP
    unfold yL;rw[h2];exact .nil
   ·exact{l,zs,by rw[h1];rfl,h4,h2,h3}
  ·rintro ys H8 ⟨s8,_,tl⟩ l hl;rw[af,Si,bg]at tl;have s9:=s8.trans (aK hl (-39));have S6:upd H8 l (-39) l=some (-39):=au;have tl9:=JI tl (aK hl (-39));have lmd:l≠md:=λz=>by rw[z,s8 _ _ xQ]at hl;cases hl
   have h7l:H7 l=none:=by
    cases e:H7 l with
    |none=>rfl
    |some u=>
     have:Hf l=some u:=by rw[<-Yn,ay lmd];exact e
     rw[s8 _ _ this]at hl;cases hl
   generalize (upd H8 l (-39))=H9 at s9 S6 tl9⊢;refine{o,um,s9 _ _ xQ,?_};have sF:bI H7 (upd H9 md um):=λb u e=>by
    by_cases z:b=md
    ·rw[z,Lp]at e;cases e;rw[z,au]
    ·rw[ay z];exact s9 _ _ (by rw[<-Yn,ay z];exact e)
   have nt9:mz H9 md:=λxs q=>by rcases q with q|⟨o',q⟩<;>rw[(s9 _ _ xQ)]at q<;>cases q;exact Ic xs (.inl Lp)
   have sb9:SB md H9 (upd H9 md um):=λb u n e=>ay n▸e;have Yo:=s7.free h7l;have h0l:H l=none:=by
    cases e:H l with
    |none=>rfl
    |some u=>
     by_cases z:l=td
     ·obtain⟨_,h⟩:=Ud.at_.some;rw[z,h]at Yo;cases Yo
     ·rw[nh _ _ z (Fz _ _ e)]at Yo;cases Yo
   exact k l ys _ (((SB.same Fz).trans nh).trans (SB.same (s7.trans sF))) h0l (ay lmd▸S6) (yN.same sF) (JJ tl9 (λb u n e=>sb9 b u (λz=>n (by rw[z];exact aB _ aA)) e) (sb9.tp nt9))
 refine{_,rfl,_,rfl,self,C,dx,_,_,rfl,o7.ins,O.c,O.tails,rfl,td,ky,kvs,_,rfl,rfl,ck.at_,key (fq.refl _),_,rfl,?_};refine gO (λc=>?_) (λc=>?_)
 ·have hv:valN kvs (wB a (-48))=none:=by simpa using c
  refine{_,rfl,self,C,dx,_,_,rfl,o7.ins,O.c,O.tables,rfl,_,rfl,_,_,_,_,rfl,rfl,bC.of (Fz _ _ hp),rfl,tb,fs,a.1,rfl,o7.tab,λrl rys H6 s6 afX yt Og=>?_};have m8:=o7.same s6;have BL:=Fz.trans s6;refine{_,rfl,_,_,_,_,rfl,rfl,bC.of (BL _ _ hp),rfl,_,rfl,_,rfl,rl,t,kn,fr,rys,dbT fs a.1,a.2,kS kept a.2,iA kept a.2,rfl,aY.of yt,Og,BL _ _ ht,aY.of (s6 _ _ P9),aY.of (s6 _ _ hf5),aJ (Fm _) (aJ (o7.tab.good a.1).1 (-9)),λr hr=>?_,by lia,by lia,?_,λz hz=>(bQ.mp hz).1,λz hz=>(v5 (bQ.mp hz).1).resolve_left (λh=>by cases h),λd H7 s7 km tv=>?_}
  ·obtain⟨_,h2,h3⟩:=(o7.tab.good a.1).2 r ((jt _ _).mp hr);exact{by lia,λz hz=>uy (h3 z hz)}
  ·have:=EM a.2;exact aJ (dO _ _) ∅
  have Xi:=s6.trans s7;have ck7:=ck.same Xi;have av:∀b∈td::md::ex,H6 b≠none:=λb hb=>by
   rcases aH.mp hb with rfl|hb
   ·obtain⟨_,h⟩:=ck.at_.some;rw[s6 _ _ h];simp
   ·rcases aH.mp hb with rfl|hb
    ·obtain⟨_,h1,_⟩:=m8.xG;obtain⟨_,h⟩:=h1.some;rw[h];simp
    ·obtain⟨_,h⟩:=hex b hb;rw[BL _ _ h];simp
  refine{_,rfl,self,C,dx,_,_,rfl,(m8.same s7).ins,O.c,O.tails,rfl,_,rfl,td,ky,kvs,_,rfl,rfl,ck7.at_,key (fq.same Xi),by lia,?_};have tv2:iJ P w K H7 (td::md::ex) d (W5 fs a (-48)):=by show iJ P w K H7 (td::md::ex) d (AskP.tails _ _ _ ((fS a.2).filter λt=>decide (t∉kS kept a.2)));rw[Yq];exact tv _ av
  exact go _ _ d ((SB.same Xi).trans λb u n e=>by rw[ay n];exact e) (ck7.add aA (key (fq.same Xi)) tv2) (aJ wy ∅) (by rw[qI,aG rfl])
 ·obtain⟨v,hv⟩:=Option.ne_none_iff_exists'.mp (show ¬valN kvs (wB a (-48))=none by simpa using c);obtain⟨d,rfl,_⟩:=ck.all _ _ _ hv;exact go H5 kvs d (λ_ _ _ e=>e) ck ∅ hv
def jm.mono(x:jm P w K C H self dx tb kl md td ex fs kept maps n)(l:n<=m):jm P w K C H self dx tb kl md td ex fs kept maps m:=
 {x.ins,x.tab,x.ze,x.xG,let⟨kvs,h1,h2⟩:=x.BA;{kvs,h1,aJ h2 l},x.nm,x.nt,x.ke}
def Cy(h:oN H v a)(s:SB td H H')(nt:mz H td):oN H' v a:=by obtain⟨p,t,e,h1,h2⟩:=h;exact{p,t,e,s _ _ (λz=>nt _ (.inl (z▸h1))) h1,s _ _ (λz=>nt _ (.inl (z▸h2))) h2}
def Gu(h:gP H vs as)(s:SB td H H')(nt:mz H td):gP H' vs as:=by
 induction h with
 |nil=>exact .nil
 |cons h _ ih=>exact .cons (Cy h s nt) ih
def jm.NU(x:jm P w K C H self dx tb kl md td ex fs kept maps n):mz H td/\∀l,H td≠some (.lst l):=by obtain⟨_,c0,_⟩:=x.BA;exact{c0.at_.rP,c0.at_.vN}
inductive Q3(P:Program)(w:World)(K:Frag)(C:Addr)(vs:Aam)(H:Hp)(Q:VK)(_x3:XK):Prop
 |mk (self l dx tb kl md td:Addr) (ex:Aah) (fs:List En) (kept:Aaf) (maps:Cm) (n:Nat) (ys:Aam) (ats:T6) (_:vs=[.ref self,.ref l]) (_:jm P w K C H self dx tb kl md td ex fs kept maps n) (_:H l=some (.lst ys)) (_:gP H ys ats) (_:(∀a∈ats,FinA a)) (_:0<ats.length) (_:ats.length<=100) (_:Gw kept maps) (_:n+100<=1000000) (_:(∀b∈ex,b≠td/\∃u,H b=some u)) (_:∀(i:Nat)(H':Hp),i<ats.length->SB td H H'->jm P w K C H' self dx tb kl md td ex fs kept maps (n+100)->Q (.int i) H')
structure Db6(P:Program)(w:World)(K:Frag)(mg:Aab)(base:Heap)(C:Addr):Prop where
 jA:sG P w K mg base C 5 "tails_of_maps" ["self","atom"] (OY P w K C)
def iF:cK ["self","atoms","best","fewest","place","atom","count"] ["self","atoms"] (defScope tE):=jV (-3)
def ZF(F:fJ K "best_place" "Asking.best_place" tE f fd)(T:Txt K mg)(O:Fc K C)(D:Db6 P w K mg base C):dy P w K mg base f9 6 f fd ["self","atoms"] (Q3 P w K C):=by
 refine F.ok iF (λ_ _ _ _ h=>by cases h;subst_vars;rfl) (-4);obtain⟨self,l,dx,tb,kl,md,td,ex,fs,kept,maps,n,ys,ats,rfl,st,hl,sO,fa,l0,l1,mo,hn,hex,k⟩:=h;refine{_,(aO (wz (iH (dA aX RB)) (nQ rfl (dC (kR 2 iF) (dC (kR 3 iF) ku)))) (aO (iG cz rfl (NM rfl T.DQ (-88)) (nQ rfl (dC (kR 4 iF) (dC (kR 5 iF) ku))) (aO (fX 6 iF (bZ (WL rfl) rfl T.adf (-3) (cc (iQ rfl (df (fs:=[]) (fr:=[])) (gf (N0 O.c D.jA hr (pv 0) (cc (pv 5)) ∅)) (λ_ _ _ _=>(bZ (qV) rfl T.fZ bP (cc (pv 0)))))))) (aO (ka (PW.pt (Xm (eG abi (pv 3) RB (gQ _)) (Rt (eG Xq (pv 6) (pv 3) (gQ _))))) (bx (abd (i:=2) (j:=3) rfl iF.nd rfl rfl (-9) rfl rfl (dA (pv 4) (pv 6)) rfl)) gN) (bx (ka (eG Pr (pv 6) (bZ Uh rfl T.fZ bP (cc (mN (pv 0) rfl))) (gQ _)) (bx (cW (pv 4))) gN))))) (bx (cW (pv 2))))),?_}
 have ly:=bh sO;obtain⟨nt0,nl0⟩:=st.NU;refine{by show 2<=sizeLine;decide,λp hp=>{p,_,rfl,bC.of au,rfl,_,_,rfl,_,_,rfl,rfl,?_}};have s1:=aK hp (.tup [V.int 0,V.cR]);refine{_,rfl,l,rfl,{_,aY.of (s1 _ _ hl)},LS
  (λi Z H2=>∃(b:Nat)(fw:V)(x4 x5 x6:Aan),Z=[some (.ref self),some (.ref l),some (.int b),some fw,x4,x5,x6]/\SB td H H2/\jm P w K C H2 self dx tb kl md td ex fs kept maps (n+i)/\b<ats.length/\(fw=.cR\/∃c,fw=.int c))
  {0,.cR,none,none,none,rfl,SB.same s1,st.same s1,l0,.inl rfl} (λi Z H2 _ ⟨_,_,_,_,_,_,sb,_⟩=>aY.of ((λsb=>sb _ _ (λz=>nl0 _ (by rw[<-z];exact hl)) hl) sb)) ?_ ?_}
 ·rintro i x q Z H2 hx ⟨b,fw,x4,x5,x6,rfl,HP,rA,hb,X9⟩ hq;obtain⟨a,ha,hxa⟩:=Paired.at sO hx;have cE:=(aq.mp ha).1;have s3:=aK hq (.tup [V.int i,x]);refine{q,_,rfl,bC.of au,rfl,_,_,rfl,_,_,rfl,rfl,?_};have Kc:=HP.trans (SB.same s3);have xv:=rA.same s3;obtain⟨ap,at_,rfl,_⟩:=id hxa;refine{_,rfl,self,dx,_,rfl,xv.ins,rfl,_,rfl,self,ap,dx,tb,kl,md,td,ex,fs,kept,maps,n+i,a,rfl,xv,Cy hxa Kc nt0,fa a (az ha),mo,by lia,λb hb=>{_,Kc _ _ (hex b hb).1 (hex b hb).2.choose_spec},λtl tys H4 sb4 VY abX yO nY=>?_};have lts:=bh nY;refine{tl,rfl,{_,aY.of abX},ir (λj zs H5=>H5=H4/\j<=maps.length/\zs=((maps.take j).map λx=>((yL fs kept a x.1).length:Int)).map V.int) (by rw[lts];exact cU mo.gC (-9)) {rfl,aQ _,rfl} ?_ ?_ ?_}
  ·rintro j zs H5 hj ⟨rfl,_,rfl⟩;refine{aY.of abX,?_};rw[af,af,aR];lia
  ·rintro j x zs H5 N hx5 ⟨rfl,hj,rfl⟩ wK;obtain⟨y,hy,t,zz,rfl,_,ht,Og⟩:=Paired.at' nY hx5;have jY:=(aq.mp hy).1;refine{_,rfl,_,_,rfl,.inl {_,aY.of ht,rfl},wK _ _ {rfl,jY,?_}};rw[a9,hy,aD,aD,Og.length];rfl
  rintro zs H5 ⟨rfl,_,rfl⟩ sl SN;rw[lts,bg];refine{sl,_,rfl,aY.of au,?_};have s6:=aK SN (.lst ((maps.map λx=>((yL fs kept a x.1).length:Int)).map V.int));have m8:=yO.same s6;have nh:=Kc.trans (sb4.trans (SB.same s6));generalize (upd H5 sl (.lst ((maps.map λx=>((yL fs kept a x.1).length:Int)).map V.int)))=H6 at s6 m8 nh⊢;generalize (maps.map λx=>((yL fs kept a x.1).length:Int)).sum=cn;dsimp only[vR];refine Kb λNX hNX=>?_;have go:∀(b:Nat)(fw:V)(H7:Hp),b<ats.length->(fw=.cR\/∃c,fw=.int c)->SB td H H7->jm P w K C H7 self dx tb kl md td ex fs kept maps (n+i+1)->NX [some (.ref self),some (.ref l),some (.int b),some fw,some (.int i),some (.ref ap),some (.int cn)] H7:=λb fw H7 hb X9 BG yN=>by refine hNX _ _ ?_;obtain⟨vq,ID,em⟩:=yN.xG;refine{_,rfl,_,rfl,self,C,dx,_,_,rfl,yN.ins,O.c,O.maps,rfl,md,vq,rfl,ID,_,_,rfl,rfl,_,rfl,?_};refine gO (λc=>{_,rfl,k i H7 cE BG (yN.mono ∅)}) (λc=>⟨b,fw,_,_,_,rfl,BG,yN,hb,X9⟩)
  rcases X9 with rfl|⟨c,rfl⟩
  ·exact{_,rfl,rfl,_,rfl,Lm (Lm {_,rfl,_,rfl,_,_,rfl,go i _ H6 cE (.inr ⟨_,rfl⟩) nh m8})}
  ·refine{_,rfl,rfl,_,rfl,yq {_,rfl,_,rfl,_,_,rfl,rfl,_,rfl,gO (λc=>?_) (λc=>?_)}}
   ·exact{_,rfl,_,rfl,_,_,rfl,go i _ H6 cE (.inr ⟨_,rfl⟩) nh m8}
   ·exact go b _ H6 hb (.inr ⟨_,rfl⟩) nh m8
 ·rintro Z H2 ⟨b,fw,x4,x5,x6,rfl,HP,rA,hb,X9⟩;exact{_,rfl,k b H2 hb HP (rA.mono ∅)}
def Vu(h:X.K=K:=by rfl):jH X (binaryOp .Add) (Pd K):=h▸GW
abbrev DT(fs:List En)(kept:Aaf)(a:Str×Aaf)(maps:Cm):Cm:=AskP.longer maps (dbT fs a.1) a.2 kept (-48) (iA kept a.2)
def VG{maps:Cm}(h:maps[i]?=some x):DT fs kept a (maps.take (i+1))=DT fs kept a (maps.take i)++(yL fs kept a x.1).map λt=>(x.1++t,x.2):=by unfold DT AskP.longer;rw[a9,h,cq,List.flatMap_append,pO,List.flatMap_nil,c8];rfl
def ZM(h:y∈DT fs kept a maps):∃x∈maps,∃t∈yL fs kept a x.1,y=(x.1++t,x.2):=by obtain⟨x,hx,h⟩:=fI.mp h;obtain⟨t,ht,rfl⟩:=ar.mp h;exact⟨x,hx,t,ht,rfl⟩
def Ni(tb:jj K H p fs)(h:t∈yL fs kept a v):t.length=(iA kept a.2).length/\qW t:=by
 obtain⟨r,hr,rfl⟩:=ar.mp h;obtain⟨h1,h2⟩:=bQ.mp hr;rw[cZ]at h2;have le:r.length=a.2.length:=by have:=h2.1;unfold AskP.nq at this;rw[cZ]at this;exact aW this.1
 obtain⟨_,_,h3⟩:=(tb.good a.1).2 r ((jt _ _).mp h1);exact{af _,Q5 (λz hz=>uy (h3 z hz)) le λz hz=>(v5 (bQ.mp hz).1).resolve_left λh=>by cases h}
theorem C5(tb:jj K H p fs):∀{maps:Cm},(DT fs kept a maps).length<=8*maps.length
 |[]=>ak _
 |x::maps=>by have h1:=C5 tb (kept:=kept) (a:=a) (maps:=maps);have h2:=Nj tb kept a x.1;unfold DT AskP.longer at h1⊢;unfold yL at h2;rw[pO,aC,af,bA];lia
def jq(ts:Aaf):(fS ts).Nodup:=by
 have gen:∀(l acc:Aaf),acc.Nodup->(l.foldl step acc).Nodup:=by
  intro l
  induction l with
  |nil=>intro acc h;exact h
  |cons t l ih=>
   intro acc h;refine ih _ ?_;unfold step;split
   ·split
    ·exact h
    ·next c=>exact fR.mpr {h,fD _ _,λa ha b hb=>by rw[ax.mp hb];exactλz=>c (z▸ha)}
   ·exact h
 exact gen ts [] .nil
def MS(ts:Aaf)(nd:kept.Nodup):(kept++iA kept ts).Nodup:=
 fR.mpr {nd,(jq ts).sublist (fU),λx hx y hy e=>by have:=(bQ.mp hy).2;rw[fQ]at this;exact this (e▸hx)}
def nV(h:Paired (yc K H) zs m)(t:fq H H'):Paired (yc K H') zs m:=by
 induction h with
 |nil=>exact .nil
 |cons h _ ih=>exact .cons (KJ h t) ih
theorem KI:∀{aad m₁:List α}{aac m₂:List β},Paired F aad aac->Paired F m₁ m₂->Paired F (aad++m₁) (aac++m₂)
 |_,_,_,_,.nil,h=>h
 |_,_,_,_,.cons q t,h=>.cons q (KI t h)
def iJ.FO(x:iJ P w K H av d f)(h:H me=some (.ins C dx l0)):iJ P w K H (me::av) d f:=by
 obtain⟨h0,kvs,h1,h2⟩:=x;refine{λz=>?_,kvs,h1,λzs=>(h2 zs).imp id λ⟨l,ys,a,n,b,c⟩=>{l,ys,a,λz=>?_,b,c}}
 ·rcases aH.mp z with z|z
  ·exact h1.FO (by rw[z];exact h)
  ·exact h0 z
 ·rcases aH.mp z with z|z
  ·rw[z,h]at b;cases b
  ·exact n z
def jP.to(x:jP P w K H td av fs kvs)(t:fq H H')(e:H' td=H td)(h:∀d f,iJ P w K H av d f->iJ P w K H' av' d f):jP P w K H' td av' fs kvs:=
 {x.at_.tp t e,λa known v q=>by obtain⟨d,e1,e3⟩:=x.all a known v q;exact{d,e1,h _ _ e3}}
inductive Q0(P:Program)(w:World)(K:Frag)(C:Addr)(vs:Aam)(H:Hp)(Q:VK)(_x3:XK):Prop
 |mk (self at_ nd dx tb kl md td:Addr) (ex:Aah) (fs:List En) (kept:Aaf) (maps:Cm) (n:Nat) (a:Str×Aaf) (need:Str->Bool) (_:vs=[.ref self,.ref at_,.ref nd]) (_:jm P w K C H self dx tb kl md td ex fs kept maps n) (_:oN H (.ref at_) a) (_:FinA a) (_:Gw kept maps) (_:kept.length<=90) (_:n<=900000) (_:acM H nd (λz=>need z=true)) (_:nd≠td) (_:(∀b∈ex,b≠td/\∃u,H b=some u)) (_:∀(uF B1:Addr)(H':Hp),(∀b u,b≠td->b≠self->H b=some u->H' b=some u)->jm P w K C H' self dx tb uF B1 td ex fs ((kept++iA kept a.2).filter need) (AskP.narrowed (DT fs kept a maps) (kept++iA kept a.2) ((kept++iA kept a.2).filter need)) (n+1)->Q .cR H')
structure Dk6(P:Program)(w:World)(K:Frag)(mg:Aab)(base:Heap)(C:Addr):Prop where
 ji:sG P w K mg base C 4 "fresh_unknowns" ["self","atom"] (Ez P w K C)
 jA:sG P w K mg base C 5 "tails_of_maps" ["self","atom"] (OY P w K C)
 narrowed:dz P w K mg base 3 "narrowed" ["counted_maps","unknowns","terms"] (zX P w K)
def nM:cK ["self","atom","needed","bound","longer","counted_map","tails","given","count"] ["self","atom","needed"] (defScope EB):=jV (-3)
def Zz(F:fJ K "take" "Asking.take" EB f fd)(T:Txt K mg)(O:Fc K C)(D:Dk6 P w K mg base C):dy P w K mg base f9 6 f fd ["self","atom","needed"] (Q0 P w K C):=by
 refine F.ok nM (λ_ _ _ _ h=>by cases h;subst_vars;rfl) (-4);obtain⟨self,at_,nd,dx,tb,kl,md,td,ex,fs,kept,maps,n,a,need,rfl,st,ha,fa,mo,lk,hn,LB,ndt,hex,k⟩:=h;have cC:=O.c;refine{_,(aO (fX 3 nM (du y7 (mN (pv 0) rfl) (N0 cC D.ji hr (pv 0) (-88) ∅))) (aO (fX 4 nM (fY iY)) (aO (Ko (iG cz rfl (Zn rfl T.Jq (dA (HY (mN (pv 0) rfl)) (N0 cC D.jA hr (pv 0) (-88) ∅))) (nQ rfl (dC (kR 5 nM) (dC (kR 6 nM) ku))) (aO (wz (pv 5) (nQ rfl (dC (tK (i:=7) nM.nd rfl (Or.inr rfl)) (dC (tK (i:=8) nM.nd rfl (Or.inr rfl)) ku)))) (bx (lL (oS dj oB oy Ig (pv 4) (cc (iQ rfl (df (fs:=["given","count"]) (fr:=[7,8])) (gf (pv 6)) (λ_ _ _ _=>(iH (dA (du (Vu) (pv 1) (pv 0)) (pv 2)))))))))))) (aO (yW (pv 0) (nU rfl (df (fs:=["needed"]) (fr:=[2])) (gf (pv 3)) (λ_ _ _ _=>(Kn (KH (rW hr) (pv 0) (pv 1)))) (λ_ _ _ _=>(pv 0))) rfl) (bx (yW (pv 0) (cl D.narrowed hr (rN (pv 4) (pv 3) (mN (pv 0) rfl))) rfl)))))),?_}
 refine gw λR eR=>?_;refine{_,rfl,self,C,dx,_,_,rfl,st.ins,O.c,O.kept,rfl,_,rfl,self,dx,_,rfl,st.ins,rfl,_,rfl,self,at_,dx,tb,kl,md,td,ex,fs,kept,maps,n,a,rfl,st,ha,fa,λfr H1 s1 hf0 Bc=>?_};have lu:(iA kept a.2).length<=4:=aJ (dO _ _) (aJ (EM a.2) fa.1);have lb:(-41).length<=100:=by rw[aC];lia
 refine{kl,fr,_,_,rfl,rfl,s1 _ _ st.ze,Bc,?_,λbd hbd=>?_}
 ·rw[af,af,<-aC];exact bo (bO ∅)
 have s2:=aK hbd (.lst (kept.map V.str++(iA kept a.2).map V.str));have Te:upd H1 bd (.lst (kept.map V.str++(iA kept a.2).map V.str)) bd=some (.lst ((-41).map V.str)):=by rw[au,aD]
 have ni:=s1.trans s2;generalize (upd H1 bd (.lst (kept.map V.str++(iA kept a.2).map V.str)))=H2 at s2 Te ni⊢;refine dX eR λR eR=>?_;refine{by show 0<=sizeLine;decide,λlg S5=>?_};have s3:=aK S5 (.lst ([]:Aam));have IE:upd H2 lg (.lst ([]:Aam)) lg=some (.lst []):=au;have HQ:=ni.trans s3;have hb3:=s3 _ _ Te;have rA:=st.same ni;have xv:jm P w K C (upd H2 lg (.lst ([]:Aam))) self dx tb kl md td (lg::ex) fs kept maps n:=by
  obtain⟨kvs,ck,l⟩:=rA.BA;have c3:jP P w K H2 td (td::md::lg::ex) fs kvs:={ck.at_,λa known v h=>by
   obtain⟨d,e,tv⟩:=ck.all a known v h;exact{d,e,(tv.more S5).less λb hb=>by simp only[aH]at hb⊢;rcases hb with h|h|h|h<;>simp[h]}}
  have x:=rA.same s3;exact{x.ins,x.tab,x.ze,x.xG,{kvs,c3.same s3,l},x.nm,x.nt,λz=>(aH.mp z).elim (aZ rA.ze S5) rA.ke}
 generalize (upd H2 lg (.lst ([]:Aam)))=H3 at s3 IE HQ hb3 xv⊢;obtain⟨nt3,nl3⟩:=xv.NU;obtain⟨aek,hm3,_⟩:=id xv.xG;have R0:∀u v,H3 md≠some (.fg u v):=λu v e=>by rcases hm3.1 with q|⟨_,q⟩<;>rw[e]at q<;>cases q
 refine dX eR λR eR=>?_;refine{md,R0,?_};refine{_,rfl,self,C,dx,_,_,rfl,xv.ins,O.c,O.maps,rfl,md,aek,rfl,hm3,λvw SK=>?_};have s4:=aK SK (.ext (xa vw md));have hv4:upd H3 vw (.ext (xa vw md)) vw=some (.ext (xa vw md)):=au;have yO:=xv.same s4;have BM:=HQ.trans s4;have vtd:vw≠td:=λz=>by obtain⟨_,c,_⟩:=xv.BA;obtain⟨_,h⟩:=c.at_.some;rw[z,h]at SK;cases SK
 have zr:=s4 _ _ IE;have hb4:=s4 _ _ hb3;obtain⟨nt4,Xw⟩:=yO.NU;refine{_,rfl,self,dx,_,rfl,yO.ins,rfl,_,rfl,self,at_,dx,tb,kl,md,td,lg::ex,fs,kept,maps,n,a,rfl,yO,uu ha BM,fa,mo,by lia,λb hb=>(aH.mp hb).elim (λz=>{.lst [],z▸zr}) λz=>{_,BM _ _ (hex b z).2.choose_spec},λtl tys H5 HN VY VX o7 nY=>?_};obtain⟨vq,xR,em⟩:=id o7.xG;obtain⟨um,Lp⟩:=xR.some;have rZ:=HN _ _ (λz=>Xw _ (z▸zr)) zr;refine{vw,md,um,tl,vq,tys,rfl,HN _ _ vtd hv4,Lp,xR,aY.of VX,λo=>?_};have Si:vq.length=maps.length:=by have:=bV List.length em;unfold sV at this;rw[af,af]at this;exact this
 have Ic:=xR.rP;have Fx:SB md H5 (upd H5 md (.fg o um)):=λb u n e=>ay n▸e;have JH:=Fx.tp Ic;have nlm:∀{b:Addr}{l:Aam},H5 b=some (.lst l)->b≠md:=λ{b l} e z=>xR.vN l (z▸e);have Ea:=Fx _ _ (nlm rZ) rZ;have abW:=Fx _ _ (nlm VX) VX;have abV:=JJ nY (λb u n e=>Fx b u (λz=>n (z▸aB _ aA)) e) JH;have xQ:upd H5 md (.fg o um) md=some (.fg o um):=au;have gv:∀(i:Nat)(q:NK×Addr×V),vq[i]?=some q->∃x,maps[i]?=some x/\q.2.2=.int x.2/\bC K (upd H5 md (.fg o um)) q.2.1 (x.1.map V.str):=λi q hq=>by
  have e1:(sV maps)[i]?=some (q.1,q.2.2):=by rw[<-em,aL,hq];rfl
  unfold sV at e1;rw[aL]at e1;obtain⟨x,e2,e3⟩:=bq.mp e1;have:=(xR.2 q (az hq)).1;rw[<-(bV Prod.fst e3)]at this;exact{x,e2,(bV Prod.snd e3).symm,rB (FQ this) JH}
 generalize Yn:upd H5 md (.fg o um)=Hf at Ea abW abV xQ gv JH⊢;refine Wr
  (λi Z H6=>∃x5 x6 x7 x8:Aan,Z=[some (.ref self),some (.ref at_),some (.ref nd),some (.ref bd),some (.ref lg),x5,x6,x7,x8]/\i<=maps.length/\SB lg Hf H6/\∃zs,H6 lg=some (.lst zs)/\Paired (yc K H6) zs (DT fs kept a (maps.take i))) (by rw[af,Si,(bh nY)])
  {none,none,none,none,rfl,aQ _,λ_ _ _ e=>e,[],Ea,.nil} (λi Z H6 _ ⟨_,_,_,_,_,_,sb,_⟩=>{sb _ _ (λz=>by rw[z,Ea]at xQ;cases xQ) xQ,aY.of (sb _ _ (λz=>by rw[z,zr]at VY;cases VY) abW)}) ?_ ?_
 ·rintro i kv y p q Z H6 lP hy ⟨x5,x6,x7,x8,rfl,hi,nh,zs,rY,Iw⟩ hq hp;rw[aL]at lP;obtain⟨c,hc,rfl⟩:=bq.mp lP;obtain⟨x,hx,ex,hg⟩:=gv i c hc;have cE:=(aq.mp hx).1;obtain⟨x',zl,t,zz,rfl,nt',ht,Og⟩:=Paired.at' abV hy;rw[hx]at zl;cases zl;rw[ex]at hp⊢;have s7:=(aK hq (.tup [V.ref c.2.1,V.int x.2])).trans (aK hp (.tup [V.ref q,V.ref t]));have hq7:upd (upd H6 q (.tup [V.ref c.2.1,V.int x.2])) p (.tup [V.ref q,V.ref t]) q=some (.tup [V.ref c.2.1,V.int x.2]):=(aK hp _) _ _ au;refine{p,_,rfl,bC.of au,rfl,_,_,rfl,_,_,rfl,rfl,?_};have BG:=nh.trans (SB.same s7);have zp:=s7 _ _ rY;have XO:=nV Iw (fq.same s7);generalize (upd (upd H6 q (.tup [V.ref c.2.1,V.int x.2])) p (.tup [V.ref q,V.ref t]))=H7 at s7 hq7 BG zp XO⊢;have tp7:=BG.tp (qK Ea);have Od:=BG _ _ (λz=>nt' (by rw[z];simp)) ht;have lzz:=Og.length;have l7:=Nj st.tab kept a x.1;refine{_,rfl,q,_,rfl,bC.of hq7,rfl,_,_,rfl,_,_,rfl,rfl,?_};refine{_,rfl,.inl {rfl,_,aY.of zp},_,rfl,t,rfl,{_,aY.of Od},ir (xs:=zz) (λj ws H8=>bI H7 H8/\j<=zz.length/\Paired (yc K H8) ws (((yL fs kept a x.1).take j).map λt=>(x.1++t,x.2))) (bO ∅) {λ_ _ e=>e,aQ _,.nil} ?_ ?_ ?_}
  ·rintro j ws H8 hj ⟨s8,hj2,hw⟩;refine{aY.of (s8 _ _ Od),?_};rw[bh hw,af,aR];lia
  ·rintro j v ws H8 N hv ⟨s8,hj,hw⟩ wK;obtain⟨u,qO,ua,rfl,hua⟩:=Paired.at' (cI (tF Og tp7) s8) hv;have jY:=(aq.mp hv).1;have Oo:=dW (rB hg tp7) s8;have fin:∀(r:Addr)(H9:Hp),bI H8 H9->bC K H9 r ((x.1++u).map V.str)->∀w9,H9 w9=none->N (ws++[.ref w9]) (upd H9 w9 (.tup [V.ref r,V.int x.2])):=λr H9 s9 SU w9 Iz=>by have iz:=s9.trans (aK Iz (.tup [V.ref r,V.int x.2]));refine wK _ _ {s8.trans iz,jY,?_};rw[a9,qO,cq,aD];exact(nV hw (fq.same iz)).snoc {w9,r,rfl,bC.of au,dW SU (aK Iz _)}
   refine{_,rfl,_,rfl,c.2.1,ua,_,_,rfl,rfl,Oo,hua,?_,λe=>?_,λ_ e=>?_,λ_ _ r Lx=>{_,rfl,by show 2<=sizeLine;decide,λw9 Iz=>fin r _ (aK Lx _) (by rw[aD];exact bC.of au) w9 Iz}}
   ·rw[af,af];have h1:=(mo.row x (az hx)).1;have h2:=(Ni st.tab (az qO)).1;exact bo (bO ∅)
   ·have e':=jc.mp e;exact{_,rfl,by show 2<=sizeLine;decide,λw9 Iz=>fin ua H8 (λ_ _ e=>e) (e'▸hua) w9 Iz}
   ·have e':=jc.mp e;exact{_,rfl,by show 2<=sizeLine;decide,λw9 Iz=>fin c.2.1 H8 (λ_ _ e=>e) (by rw[e',c8];exact Oo) w9 Iz}
  rintro ws H8 ⟨s8,_,hw⟩ cl nZ;rw[lzz,bg]at hw;have s9:=s8.trans (aK nZ (.lst ws));have lws:ws.length<=8:=by rw[bh hw,af];exact l7
  have lzs:zs.length<=8*maps.length:=by rw[bh Iw];refine aJ (C5 st.tab) ?_;rw[aR];lia
  have lm:=mo.gC;refine{lg,cl,zs,ws,rfl,rfl,s9 _ _ zp,au,bo (cU (show zs.length+ws.length<=4000000 by lia) (-9)),?_};have t10:fq (upd H8 cl (.lst ws)) (upd (upd H8 cl (.lst ws)) lg (.lst (zs++ws))):=fq.upd (qK (s9 _ _ zp));refine{_,_,_,_,rfl,cE,λb u n e=>?_,_,au,?_}
  ·rw[ay n];exact s9 _ _ (BG _ _ n e)
  ·rw[VG hx];exact KI (nV XO ((fq.same s9).trans t10)) (nV hw ((fq.same (aK nZ (.lst ws))).trans t10))
 ·rintro Z H6 ⟨x5,x6,x7,x8,rfl,_,nh,zs,rY,Iw⟩;rw[af,Si,bg]at Iw;have mlg:md≠lg:=λz=>by rw[z,Ea]at xQ;cases xQ
  have hm6:=nh _ _ mlg xQ;refine{o,um,hm6,?_};have K5:SB lg H5 (upd H6 md um):=λb u n e=>by
   by_cases z:b=md
   ·rw[z,Lp]at e;cases e;rw[z,au]
   ·rw[ay z];exact nh _ _ n (by rw[<-Yn,ay z];exact e)
  have nt6:mz H6 md:=λxs q=>by rcases q with q|⟨o',q⟩<;>rw[hm6]at q<;>cases q;exact Ic xs (.inl Lp)
  have S6:upd H6 md um lg=some (.lst zs):=by rw[ay (cB mlg)];exact rY
  have zj:=nV Iw (fq.upd (o:=um) nt6);have UK:=K5.tp (qK rZ);generalize (upd H6 md um)=H9 at K5 S6 zj UK⊢;have hb9:=K5 _ _ (aZ Te S5) (HN _ _ (λz=>Xw _ (by rw[<-z];exact hb4)) hb4);have K0:SB td H H9:=λb u n e=>K5 _ _ (λz=>by rw[z,(ni.free S5)]at e;cases e) (HN _ _ n (BM _ _ e));obtain⟨nt0,nl0⟩:=st.NU;obtain⟨kvd,P7,ab5⟩:=LB;have abJ:=K5 _ _ (λz=>by have q:=o7.ins;rw[z,rZ]at q;cases q) o7.ins;obtain⟨XD,c5,lc⟩:=o7.BA;have c9:jP P w K H9 td (self::td::md::lg::ex) fs XD:=by refine c5.to UK ?_ λd f tv=>(tv.fr (λb u n e=>K5 _ _ (λz=>n (by rw[z];simp)) e) UK).FO abJ;obtain⟨u,h⟩:=c5.at_.some;rw[h,K5 _ _ (λz=>c5.at_.vN _ (by rw[z];exact rZ)) h]
  have lbd:((-41).map V.str).length=(-41).length:=af _;refine dX (T:=R) eR λR eR=>?_;refine{_,rfl,bd,rfl,{_,aY.of hb9},ir (λj ws qY=>qY=H9/\j<=(-41).length/\ws=(((-41).take j).filter need).map V.str) (by rw[lbd];exact bO ∅) {rfl,aQ _,rfl} ?_ ?_ ?_}
  ·rintro j ws qY hj ⟨rfl,_,rfl⟩;refine{aY.of hb9,?_};rw[af];exact aJ (dO _ _) (by rw[aR];lia)
  ·rintro j v ws qY N hv ⟨rfl,hj,rfl⟩ wK;obtain⟨z,hz,rfl⟩:=kA hv;have jY:=(aq.mp hz).1;refine{_,rfl,_,rfl,nd,_,rfl,pR.k (k:=Sum.inr z) (K0 _ _ ndt P7),_,rfl,?_};have en:((-41).take (j+1)).filter need=((-41).take j).filter need++if need z=true then[z]else[]:=by rw[a9,hz,cq,kY];congr 1;cases c:need z<;>simp[c]
   refine gO (λc=>{_,rfl,wK _ _ {rfl,jY,?_}}) (λc=>wK _ _ {rfl,jY,?_})
   ·rw[en,aG ((ab5 z).mp c),aD];rfl
   ·rw[en,aw (λq=>c ((ab5 z).mpr q)),c8]
  rintro ws qY ⟨rfl,_,rfl⟩ uF Wd;rw[lbd,bg];generalize Ol:(-41).filter need=kp;have iz:=aK Wd (.lst (kp.map V.str));have We:upd qY uF (.lst (kp.map V.str)) uF=some (.lst (kp.map V.str)):=au;have xJ:=iz _ _ abJ;have OX:=(st.tab.sb K0 nt0 nl0 st.nt).same iz;have Yy:=c9.same iz;have LG:=iz _ _ S6;have Wi:=iz _ _ hb9;have PX:=nV zj (fq.same iz);have YD:=K0.trans (SB.same iz);generalize (upd qY uF (.lst (kp.map V.str)))=zK at iz We xJ OX Yy LG Wi PX YD⊢;refine{_,rfl,self,C,dx,_,rfl,xJ,O.c,O.kept,by show 4<1000;decide,?_};have abt:∀{b:Addr}{u:HO},zK b=some u->(∀l,u≠ .ins C dx l)->b≠self:=λ{b u} e n z=>by rw[z,xJ]at e;cases e;exact n _ rfl
  have ntS:=BW xJ;have nlS:∀l,zK self≠some (.lst l):=λl e=>by rw[xJ]at e;cases e
  have KS:SB self zK (upd zK self (-34)):=λb u n e=>ay n▸e;have PU:upd zK self (-34) self=some (.ins C dx [("tables",.ref tb),("kept",.ref uF),("maps",.ref md),("tails",.ref td)]):=by rw[au];rfl
  generalize (upd zK self (-34))=Mi at KS PU⊢;have tpS:=KS.tp ntS;have nL:∀{b:Addr}{l:Aam},zK b=some (.lst l)->b≠self:=λ{b l} e z=>nlS l (z▸e);have JL:tb≠self:=λz=>by rw[<-z,OX.at_]at xJ;cases xJ
  have tds:td≠self:=λz=>Yy.at_.FO (by rw[z];exact xJ);have Yx:jP P w K Mi td (self::td::md::lg::ex) fs XD:=by refine Yy.fr (λb u n e=>KS _ _ (λz=>n (by rw[z];simp)) e) tpS ?_;obtain⟨u,h⟩:=Yy.at_.some;rw[h,KS _ _ tds h]
  have ace:=KS _ _ (nL We) We;have skb:qW (-41):=λz hz=>by
   rcases aP.mp hz with hz|hz
   ·exact mo.sok z hz
   ·exact fa.2.2.1 z ((v5 (bQ.mp hz).1).resolve_left λh=>by cases h)
  have skp:qW kp:=λz hz=>by rw[<-Ol]at hz;exact skb z (bQ.mp hz).1
  have lm:=mo.gC;refine v7 (T:=R) eR ?_;refine{_,rfl,_,rfl,_,rfl,self,C,dx,_,_,rfl,PU,O.c,O.kept,rfl,lg,bd,uF,zs,DT fs kept a maps,kept++iA kept a.2,kp,rfl,aY.of (KS _ _ (nL LG) LG),(nV PX tpS),aY.of (KS _ _ (nL Wi) Wi),MS a.2 mo.nd,lb,.inl (aY.of ace),(by rw[<-Ol];exact aJ (dO _ _) lb),skp,λy hy=>?_,aJ (C5 st.tab) ∅,λB1 uV lK LC rc=>?_}
  ·obtain⟨x,hx,t,ht,rfl⟩:=ZM hy;obtain⟨g1,g2⟩:=mo.row x hx;obtain⟨g3,g4⟩:=Ni st.tab ht;refine{by rw[aC,aC,g1,g3],λz hz=>?_};rcases aP.mp hz with hz|hz
   ·exact g2 z hz
   ·exact g4 z hz
  have PV:=lK _ _ PU;refine{_,rfl,self,C,dx,_,rfl,PV,O.c,O.maps,by show 4<1000;decide,?_};have KF:SB self uV (upd uV self (-35)):=λb u n e=>ay n▸e;have abI:upd uV self (-35) self=some (.ins C dx [("tables",.ref tb),("kept",.ref uF),("maps",.ref B1),("tails",.ref td)]):=by rw[au];rfl
  generalize (upd uV self (-35))=HF at KF abI⊢;have ntF:=BW PV;have nlF:∀l,uV self≠some (.lst l):=λl e=>by rw[PV]at e;cases e
  have tpF:=KF.tp ntF;have m2t:B1≠td:=λz=>by obtain⟨u,h⟩:=Yx.at_.some;rw[z,h]at LC;cases LC
  have acd:=lK _ _ ace;have cF:jP P w K HF td (td::B1::ex) fs XD:=by
   have e13:uV td=Mi td:=by obtain⟨u,h⟩:=Yx.at_.some;rw[h,lK _ _ h]
   have eF:HF td=uV td:=by obtain⟨u,h⟩:=Yx.at_.some;rw[e13,h,KF _ _ tds (e13▸h)]
   refine Yx.to ((fq.same lK).trans tpF) (by rw[eF,e13]) λd f tv=>(((tv.more LC).same lK).fr (λb u n e=>KF _ _ (λz=>n (by rw[z];simp)) e) tpF).less λb hb=>?_;simp only[aH]at hb⊢;rcases hb with h|h|h<;>simp[h]
  refine k uF B1 HF (λb u n1 n2 e=>KF _ _ n2 (lK _ _ (KS _ _ n2 (YD _ _ n1 e)))) {abI,((OX.sb KS ntS nlS JL).same lK).sb KF ntF nlF JL,?_,?_,⟨XD,cF,lc⟩,m2t,st.nt,λz=>?_}
  ·rw[Ol];exact KF _ _ (λz=>nlF _ (z▸acd)) acd
  ·rw[Ol];exact rc.c.sb KF ntF (λz=>by rw[z,PU]at LC;cases LC)
  ·obtain⟨n,u,e⟩:=hex _ z;rw[K0 _ _ n e]at Wd;cases Wd
inductive JX(P:Program)(w:World)(K:Frag)(C:Addr)(vs:Aam)(H:Hp)(Q:VK)(_x3:XK):Prop
 |mk (self tb dx:Addr) (fs:List En) (_:vs=[.ref self,.ref tb]) (_:H self=some (.ins C dx [])) (_:jj K H tb fs) (_:∀(kl md td:Addr)(H':Hp),SB self H H'->H td=none->jm P w K C H' self dx tb kl md td [] fs [] [([],1)] 0->Q .cR H')
def Jc:cK ["self","tables"] ["self","tables"] (defScope wk):=jV (-3)
def Vy(F:fJ K "__init__" "Asking.__init__" wk f fd)(T:Txt K mg)(O:Fc K C):dy P w K mg base f9 1 f fd ["self","tables"] (JX P w K C):=by
 refine F.ok Jc (λ_ _ _ _ h=>by cases h;subst_vars;rfl) (-4);obtain⟨self,tb,dx,fs,rfl,hs,tab,k⟩:=h;refine{_,(aO (yW (pv 0) (pv 1) rfl) (aO (yW (pv 0) (fY iY) rfl) (aO (yW (pv 0) (RC (F6 hr) (qv (iH iY) aX GP) rfl rfl (-8) (by show 1<=15;decide)) rfl) (bx (yW (pv 0) nR rfl))))),?_}
 have DP:∀{H:Hp}{l:List (Str×V)},H self=some (.ins C dx l)->mz H self/\(∀q,H self≠some (.lst q)):=λe=>{BW e,λq e'=>by rw[e]at e';cases e'};have up:∀{H:Hp}{o:HO},SB self H (upd H self o):=λb u n e=>ay n▸e;have JL:tb≠self:=λz=>by rw[<-z,tab.at_]at hs;cases hs
 refine{_,rfl,_,rfl,self,C,dx,[],rfl,hs,O.c,O.tables,by decide,?_};have aaH:=tab.sb (up (o:=.ins C dx (fK "tables" (.ref tb) []))) (DP hs).1 (DP hs).2 JL;have sb1:SB self H (upd H self (.ins C dx (fK "tables" (.ref tb) []))):=up;have D7:upd H self (.ins C dx (fK "tables" (.ref tb) [])) self=some (.ins C dx [("tables",.ref tb)]):=au;generalize (upd H self (.ins C dx (fK "tables" (.ref tb) [])))=H1 at aaH sb1 D7⊢;refine{by show 0<=sizeLine;decide,λkl hkl=>?_};have s2:=aK hkl (.lst ([]:Aam));have hk2:upd H1 kl (.lst ([]:Aam)) kl=some (.lst []):=au;have aaG:=aaH.same s2;have HP:=sb1.trans (SB.same s2);have ma:=s2 _ _ D7;generalize (upd H1 kl (.lst ([]:Aam)))=H2 at s2 hk2 aaG HP ma⊢;refine{_,rfl,self,C,dx,_,rfl,ma,O.c,O.kept,by show 1<1000;decide,?_};have UO:=aaG.sb (up (o:=.ins C dx (-63))) (DP ma).1 (DP ma).2 JL;have Kc:=HP.trans (up (o:=.ins C dx (-63)));have kls:kl≠self:=λz=>by rw[<-z,hk2]at ma;cases ma
 have hk3:=(up (o:=.ins C dx (-63))) _ _ kls hk2;have Of:upd H2 self (.ins C dx (-63)) self=some (.ins C dx [("tables",.ref tb),("kept",.ref kl)]):=by rw[au];rfl
 generalize (upd H2 self (.ins C dx (-63)))=H3 at UO Kc hk3 Of⊢;intro md hmd;have s4:=aK hmd (.dK []);have LD:upd H3 md (.dK []) md=some (.dK []):=au;generalize (upd H3 md (.dK []))=H4 at s4 LD⊢;refine{by show 0<=sizeLine;decide,λe he=>?_};have s5:=aK he (.tup ([]:Aam));have he5:upd H4 e (.tup ([]:Aam)) e=some (.tup []):=au;generalize (upd H4 e (.tup ([]:Aam)))=H5 at s5 he5⊢;have key:jS K H5 (gj []) e:=wH (bC.of he5) λz hz=>by cases hz
 have xR:=s5 _ _ LD;refine{e,gj [],.int 1,rfl,key,xR,?_};have Xj:=s4.trans s5;have um:SB md H5 (-77):=λb u n q=>ay n▸q;have Ic:=K4 xR;have nm:∀{b:Addr}{u:HO},H3 b=some u->b≠md:=λe z=>by rw[z,hmd]at e;cases e
 have aaF:=(UO.same Xj).sb um Ic (λl q=>by rw[xR]at q;cases q) (nm UO.at_);have Om:=um _ _ (nm hk3) (Xj _ _ hk3);have SR:=um _ _ (nm Of) (Xj _ _ Of);have rc6:RowC P w K (-77) md [([],1)]:={[(gj [],e,.int 1)],{.inl au,λp hp=>by cases ax.mp hp;exact zf key (um.tp Ic)},rfl}
 have nh:SB self H (-77):=λb u n q=>um _ _ (nm (Kc _ _ n q)) (Xj _ _ (Kc _ _ n q));generalize hH6:(upd H5 md (.ext (DN _ _ md _)))=H6;have e6:(-77)=H6:=hH6;rw[e6]at aaF Om SR rc6 nh;refine{_,rfl,self,C,dx,_,rfl,SR,O.c,O.maps,by show 2<1000;decide,?_};have ms:=cB (nm Of);have UN:=aaF.sb (up (o:=.ins C dx (-23))) (DP SR).1 (DP SR).2 JL;have BG:=nh.trans (up (o:=.ins C dx (-23)));have hk7:=(up (o:=.ins C dx (-23))) _ _ kls Om;have rc7:=rc6.sb (up (o:=.ins C dx (-23))) (DP SR).1 ms;have XY:upd H6 self (.ins C dx (-23)) self=some (.ins C dx [("tables",.ref tb),("kept",.ref kl),("maps",.ref md)]):=by rw[au];rfl
 generalize (upd H6 self (.ins C dx (-23)))=H7 at UN BG hk7 rc7 XY⊢;intro td xM;have s8:=aK xM (.dK []);have Ls:upd H7 td (.dK []) td=some (.dK []):=au;have SQ:=s8 _ _ XY;have nt:∀{b:Addr}{u:HO},H7 b=some u->b≠td:=λe z=>by rw[z,xM]at e;cases e
 have h0:H td=none:=by
  cases q:H td with
  |none=>rfl
  |some u=>rw[BG _ _ (λz=>by rw[z,XY]at xM;cases xM) q]at xM;cases xM
 generalize (upd H7 td (.dK []))=H8 at s8 Ls SQ⊢;refine{_,rfl,self,C,dx,_,rfl,SQ,O.c,O.tails,by show 3<1000;decide,?_};have us:=up (H:=H8) (o:=.ins C dx (fK "tails" (.ref td) [("tables",.ref tb),("kept",.ref kl),("maps",.ref md)]));have mt:md≠td:=by obtain⟨_,h,_⟩:=rc7;obtain⟨_,h⟩:=h.some;exact nt h
 refine k kl md td _ (BG.trans ((SB.same s8).trans us)) h0 {by rw[au];rfl,(UN.same s8).sb us (DP SQ).1 (DP SQ).2 JL,us _ _ kls (s8 _ _ hk7),(rc7.same s8).sb us (DP SQ).1 ms,{[],{Hq (us _ _ (cB (nt XY)) Ls),λa known v h=>by cases h},ak _},mt,nt UN.at_,λz=>by cases z}
end
end mS
namespace AskP
section
variable{α:Type}[DecidableEq α]
def eI{β:Type}(l:List β)(f:β->Int):Int:=(l.map f).sum
def dB{β:Type}{x:β}{l:List β}{f:β->Int}:eI (x::l) f=f x+eI l f:=by unfold eI;rw[bw,List.sum_cons]
def hG{β:Type}{l:List β}{f g:β->Int}(h:∀x∈l,f x=g x):eI l f=eI l g:=by unfold eI;rw[aU h]
def zU{β γ:Type}{l:List β}{k:β->γ}{f:γ->Int}:eI (l.map k) f=eI l λx=>f (k x):=by unfold eI;rw[aV];rfl
def JO{β:Type}{l m:List β}{f:β->Int}:eI (l++m) f=eI l f+eI m f:=by unfold eI;rw[aD,List.sum_append]
def HE{β γ:Type}{l:List β}{k:β->List γ}{f:γ->Int}:eI (l.flatMap k) f=eI l λx=>eI (k x) f:=by
 induction l with
 |nil=>rfl
 |cons x l ih=>rw[pO,JO,ih,dB]
def Ey{β:Type}{l:List β}{f:β->Int}{c:Int}:eI l (λx=>c*f x)=c*eI l f:=by
 induction l with
 |nil=>exact(CN c).symm
 |cons x l ih=>rw[dB,ih,dB,Int.mul_add]
def UU{β:Type}{l:List β}{f g:β->Int}:eI l (λx=>f x+g x)=eI l f+eI l g:=by
 induction l with
 |nil=>rfl
 |cons x l ih=>rw[dB,ih,dB,dB];lia
def HD{β:Type}{l m:List β}{f:β->Int}(h:l.Perm m):eI l f=eI m f:=by
 induction h with
 |nil=>rfl
 |cons x _ ih=>rw[dB,dB,ih]
 |swap x y l=>rw[dB,dB,dB,dB];lia
 |trans _ _ a b=>exact a.trans b
abbrev ind(p:Prop)[Decidable p]:Int:=if p then 1 else 0
def wc(m:List (-65))(r:Rw α):Int:=eI m λx=>if x.1=r then x.2 else 0
def aaE{m:List (-65)}{r:Rw α}(h:r∉m.map (·.1)):wc m r=0:=by
 induction m with
 |nil=>rfl
 |cons x m ih=>
  rw[bw,aH,not_or]at h;unfold wc at ih⊢;rw[dB,ih h.2,aw λz=>h.1 z.symm];rfl
def Nh{m:List (-65)}{x:Rw α×Int}(nd:(m.map (·.1)).Nodup)(h:x∈m):wc m x.1=x.2:=by
 induction m with
 |nil=>cases h
 |cons y m ih=>
  rw[bw,cV]at nd;unfold wc at ih⊢;rw[dB];rcases aH.mp h with rfl|h
  ·have:=aaE nd.1;unfold wc at this;rw[this,aG rfl,w6]
  ·rw[ih nd.2 h,aw λz=>nd.1 (ar.mpr {x,h,z.symm}),sI]
theorem QV{r q:Rw α}{c:Int}:∀{m:List (-65)},(m.map (·.1)).Nodup->r∈m.map (·.1)->wc (-98) q=wc m q+if r=q then c else 0
 |[],_,h=>by cases h
 |x::m,nd,h=>by
  rw[bw,cV]at nd;by_cases e:x.1=r
  ·have n1:(-98)=m:=(aU λy hy=>aw λz=>nd.1 (ar.mpr {y,hy,z.trans e.symm})).trans (List.map_id m);unfold wc;rw[bw,dB,n1,dB,aG e];by_cases f:r=q
   ·rw[aG (e.trans f),aG (e.trans f),aG f];dsimp only;lia
   ·rw[aw λz=>f (e.symm.trans z),aw λz=>f (e.symm.trans z),aw f];lia
  ·have i:=QV (q:=q) (c:=c) nd.2 ((aH.mp h).resolve_left λz=>e z.symm);unfold wc at i⊢;rw[bw,dB,i,dB,aw e];lia
def UL{m:List (-65)}{r q:Rw α}{c:Int}(nd:(m.map (·.1)).Nodup):wc (qB m r c) q=wc m q+if r=q then c else 0:=by
 unfold qB;split
 ·next h=>exact QV nd h
 ·unfold wc;rw[JO,dB];exact bV _ (w6 _)
def Bz{xs ts:List α}{q:Rw α}{l:List (-65)}:wc (narrowed l xs ts) q=eI l λx=>if image xs x.1 ts=q then x.2 else 0:=by
 suffices H:∀m:List (-65),(m.map (·.1)).Nodup->wc (-82) q=wc m q+eI l λx=>if image xs x.1 ts=q then x.2 else 0 from(H [] .nil).trans (sI _)
 induction l with
 |nil=>intro m _;exact(w6 _).symm
 |cons x l ih=>
  intro m nd;rw[jN,ih _ (Gv nd),UL nd,dB,Int.add_assoc]
def group{β:Type}{L:List β}{κ:β->Rw α}{maps:List (-65)}(nd:(maps.map (·.1)).Nodup)(hm:∀v∈L,κ v∈maps.map (·.1))(hc:∀x∈maps,x.2=eI L λv=>ind (κ v=x.1))(N:Rw α->Int):eI maps (λx=>x.2*N x.1)=eI L λv=>N (κ v):=by
 rw[hG λx hx=>by rw[hc x hx]];clear hc
 induction L with
 |nil=>exact(hG (g:=λx=>0*0) λx _=>oK _).trans (Ey.trans (oK _))
 |cons v L ih=>
  rw[dB,<-ih λu hu=>hm u (aB _ hu),hG λx _=>by rw[dB,Int.add_mul],UU];congr 1;have h:=hm v aA;clear ih hm
  induction maps with
  |nil=>cases h
  |cons x m ih=>
   rw[bw,cV]at nd;rw[dB];by_cases e:κ v=x.1
   ·have z:eI m (λx=>ind (κ v=x.1)*N x.1)=0:=(hG (g:=λx=>0*0) λy hy=>by rw[show ind (κ v=y.1)=0 from aw λz=>nd.1 (ar.mpr {y,hy,z.symm.trans e}),oK,oK]).trans (Ey.trans (oK _));rw[z,show ind (κ v=x.1)=1 from aG e,e,Int.one_mul,w6]
   ·rw[ih nd.2 ((aH.mp h).resolve_left e),show ind (κ v=x.1)=0 from aw e,oK,sI]
def AB{xs v:List α}(nd:xs.Nodup)(h:v.length=xs.length):image xs v xs=v:=by
 unfold image;refine qG (by rw[af,h]) λi h1 h2=>?_;have hi:i<xs.length:=by lia
 have:xs.idxOf xs[i]=i:=nd.idxOf_getElem i hi;rw[mD];unfold qN;rw[aG (gJ hi),this,cY,ao h2];rfl
def Mo{rows:List (Rw α)}{ts known fresh:List α}{key:Rw α}(nd:rows.Nodup)(h:∀t∈ts,t∈known\/t∈fresh):(tails rows ts known fresh key).Nodup:=by
 refine cH.mpr (d9 (λ{a b} ha hb ne e=>ne ?_) (jO fU nd));have ha:=(bQ.mp ha).2;have hb:=(bQ.mp hb).2;rw[cZ,fQ]at ha hb;rw[<-G0 ha.1,<-G0 hb.1];refine aU λt ht=>?_;rcases h t ht with q|q
 ·exact pN.mp (ha.2.trans hb.2.symm) t q
 ·exact pN.mp e t q
structure l9(un:α->Bool)(db:α->List (Rw α))(S:List (nG α))(kept:List α)(maps:List (-65))(bs:List α)(L:List (Rw α)):Prop where
 bt:∀t,t∈bs↔un t=true/\∃b∈S,t∈b.2
 bn:bs.Nodup
 ln:L.Nodup
 lm:∀v,v∈L↔∃g,hU un db S g/\v=bs.map g
 ct:∀x∈maps,x.2=eI L λv=>ind (image bs v kept=x.1)
variable{un:α->Bool}{db:α->List (Rw α)}{atoms:List (nG α)}{head:List α}{S left:List (nG α)}{kept:List α}{maps:List (Rw α×Int)}{bs:List α}{L:List (Rw α)}
def l9.start:l9 un db [] [] [([],1)] [] [[]]:={λt=>{λh=>(by cases h),λ⟨_,b,hb,_⟩=>(by cases hb)},.nil,fD _ _,λv=>{λh=>{id,{λ_ _=>rfl,λa ha=>by cases ha},ax.mp h},λ⟨_,_,e⟩=>ax.mpr e},λx hx=>by rw[ax.mp hx];rfl}
def l9.im(G:l9 un db S kept maps bs L){g:α->α}(hg:hU un db S g){ts:List α}(h:∀t∈ts,un t=true->t∈bs):image bs (bs.map g) ts=ts.map g:=iT λt ht c=>by
 cases e:un t with
 |false=>exact hg.1 t e
 |true=>exact absurd (h t ht e) c
def l9.step{a:nG α}{known fresh kept':List α}(G:l9 un db S kept maps bs L)(kp:Kp un db S kept maps)(md:(maps.map (·.1)).Nodup)(rn:(db a.1).Nodup)(kb:∀t∈kept,t∈bs)(hs:∀b∈S,∀t∈b.2,t∈a.2->un t=true->t∈kept)
  (hf:∀t,t∈fresh↔t∈a.2/\un t=true/\t∉kept) (fn:fresh.Nodup) (hk:known=a.2.filter (λt=>decide (t∉fresh))) (h':∀t∈kept',t∈kept++fresh):
  ∃L',l9 un db (a::S) kept' (narrowed (-58) (kept++fresh) kept') (bs++fresh) L':=by
 have kn:∀t,t∈known↔t∈a.2/\t∉fresh:=λt=>by rw[hk,bQ,fQ]
 have bf:∀t∈fresh,t∉bs:=λt ht z=>by obtain⟨_,b,hb,q⟩:=(G.bt t).mp z;obtain⟨h1,h2,h3⟩:=(hf t).mp ht;exact h3 (hs b hb t q h1 h2)
 have Xz:=fR.mpr {G.bn,fn,λx hx y hy e=>bf y hy (e▸hx)};have kb2:=λt ht u=>by obtain⟨z1,z2⟩:=(kn t).mp ht;exact v3 λc=>z2 ((hf t).mpr ⟨z1,u,c⟩)
 have ik:∀{g:α->α},hU un db S g->image kept (kept.map g) known=known.map g:=λhg=>iT λt ht c=>by
  cases e:un t with
  |false=>exact hg.1 t e
  |true=>exact absurd (kb2 t ht e) c
 have SH:∀{g:α->α},hU un db S g->image bs (bs.map g) kept=kept.map g:=λhg=>G.im hg λt ht _=>kb t ht
 let T:Rw α->List (Rw α):=λkey=>tails (db a.1) a.2 known fresh key
 let L':List (Rw α):=L.flatMap λv=>(T (image bs v known)).map λt=>v++t
 have VJ:∀v∈L,v.length=bs.length:=λv hv=>by obtain⟨g,_,e⟩:=(G.lm v).mp hv;rw[e,af]
 have aeh:∀{key t:Rw α},t∈T key->t.length=fresh.length:=λh=>by obtain⟨r,_,e⟩:=ar.mp h;rw[<-e,af]
 have mL:∀v,v∈L'↔∃g,hU un db (a::S) g/\v=(bs++fresh).map g:=λv=>by
  have K:=Nl
   (λv=>by rw[aV,show((λx:Rw α×Int=>x.1)∘λv=>(v,(0:Int)))=id from rfl,List.map_id];exact G.lm v) (λt=>{λz=>{((hf t).mp z).1,((hf t).mp z).2.1,bf t z},λ⟨z1,z2,z3⟩=>(hf t).mpr {z1,z2,λz=>z3 (kb t z)}}) hk (λt ht=>((G.bt t).mp ht).1) (λb hb t ht _ u=>(G.bt t).mpr ⟨u,b,hb,ht⟩) (λt ht=>ht)
  rw[<-K v,u3];have e:∀x∈longer (L.map λv=>(v,(0:Int))) (db a.1) a.2 bs known fresh,image (bs++fresh) x.1 (bs++fresh)=x.1:=λx hx=>by obtain⟨y,hy,hx⟩:=fI.mp hx;obtain⟨u,hu,rfl⟩:=ar.mp hy;obtain⟨t,ht,rfl⟩:=ar.mp hx;exact AB Xz (by rw[aC,aC,VJ u hu,aeh ht])
  constructor
  ·intro h;obtain⟨u,hu,h⟩:=fI.mp h;obtain⟨t,ht,rfl⟩:=ar.mp h;have m:(u++t,(0:Int))∈longer (L.map λv=>(v,(0:Int))) (db a.1) a.2 bs known fresh:=fI.mpr {(u,0),ar.mpr ⟨u,hu,rfl⟩,ar.mpr ⟨t,ht,rfl⟩};exact{_,m,(e _ m).symm}
  ·rintro⟨x,hx,rfl⟩;rw[e x hx];obtain⟨y,hy,hx⟩:=fI.mp hx;obtain⟨u,hu,rfl⟩:=ar.mp hy;obtain⟨t,ht,rfl⟩:=ar.mp hx;exact fI.mpr {u,hu,ar.mpr ⟨t,ht,rfl⟩}
 refine{L',λt=>?_,Xz,?_,mL,λx hx=>?_}
 ·rw[aP,G.bt,hf];constructor
  ·rintro(⟨u,b,hb,q⟩|⟨q,u,_⟩)
   ·exact{u,b,aB _ hb,q}
   ·exact⟨u,a,aA,q⟩
  ·rintro⟨u,b,hb,q⟩;rcases aH.mp hb with rfl|hb
   ·by_cases c:t∈kept
    ·exact .inl ((G.bt t).mp (kb t c))
    ·exact .inr ⟨q,u,c⟩
   ·exact .inl ⟨u,b,hb,q⟩
 ·refine zJ.mpr {λv _=>cH.mpr ((Mo rn λt ht=>(Decidable.em (t∈fresh)).symm.imp (λc=>(kn t).mpr ⟨ht,c⟩) id).imp λne e=>ne (xo e)),d9 (λ{u v} hu hv ne x hx y hy e=>ne ?_) G.ln};obtain⟨t,_,rfl⟩:=ar.mp hx;obtain⟨t',_,rfl⟩:=ar.mp hy;exact(List.append_inj e ((VJ u hu).trans (VJ v hv).symm)).1
 ·rw[<-Nh lM hx,Bz];generalize x.1=r
  let N:Rw α->Int:=λy=>eI (T (image kept y known)) λt=>ind (image (kept++fresh) (y++t) kept'=r)
  have e1:(eI (-58) λx=>if image (kept++fresh) x.1 kept'=r then x.2 else 0)=eI maps λx=>x.2*N x.1:=by
   unfold longer;rw[HE];refine hG λy _=>?_;rw[zU,<-Ey];refine hG λt _=>?_;split
   ·exact(Et _).symm
   ·exact(CN _).symm
  rw[e1,group md (λv hv=>?_) G.ct N,HE]
  ·refine hG λv hv=>?_;obtain⟨g,hg,rfl⟩:=(G.lm v).mp hv;rw[SH hg,zU,(λhg=>G.im hg λt ht u=>kb t (kb2 t ht u)) hg];show(eI (T (image kept (kept.map g) known)) λt=>ind (image (kept++fresh) (kept.map g++t) kept'=r))=_;rw[ik hg];refine hG λt ht=>?_;obtain⟨q,_,rfl⟩:=ar.mp ht
   let g2:α->α:=λt=>if t∈fresh then atT q a.2 t else g t
   have z3:fresh.map (atT q a.2)=fresh.map g2:=aU λt ht=>(aG ht).symm;have z4:image (kept++fresh) (kept.map g++fresh.map (atT q a.2)) kept'=kept'.map g2:=by rw[(aU λt ht=>(aw λz=>bf t z (kb t ht)).symm),z3,<-aD];exact iT λt ht c=>absurd (h' t ht) c
   have z5:image (bs++fresh) (bs.map g++fresh.map (atT q a.2)) kept'=kept'.map g2:=by rw[(aU λt ht=>(aw λz=>bf t z ht).symm),z3,<-aD];exact iT λt ht c=>absurd ((aP.mp (h' t ht)).elim (λz=>aP.mpr (.inl (kb t z))) λz=>aP.mpr (.inr z)) c
   rw[z4,z5]
  ·obtain⟨g,hg,rfl⟩:=(G.lm v).mp hv;rw[SH hg];exact(kp _).mpr ⟨g,hg,rfl⟩
def l9.end_(G:l9 un db S kept maps bs L)(kp:Kp un db S kept maps)(md:(maps.map (·.1)).Nodup)(kb:∀t∈kept,t∈bs)(hh:∀t∈head,un t=true->t∈kept){x:Rw α×Int}(hx:x∈narrowed maps kept head):x.2=eI L λv=>ind (image bs v head=x.1):=by
 have SH:∀{g:α->α},hU un db S g->image bs (bs.map g) kept=kept.map g:=λhg=>G.im hg λt ht _=>kb t ht;rw[<-Nh lM hx,Bz];generalize x.1=r;rw[hG λy _=>?_,group md (λv hv=>?_) G.ct λy=>ind (image kept y head=r)]
 ·refine hG λv hv=>?_;obtain⟨g,hg,rfl⟩:=(G.lm v).mp hv;rw[SH hg,G.im hg λt ht u=>kb t (hh t ht u),iT λt ht c=>?_];cases e:un t with
  |false=>exact hg.1 t e
  |true=>exact absurd (hh t ht e) c
 ·obtain⟨g,hg,rfl⟩:=(G.lm v).mp hv;rw[SH hg];exact(kp _).mpr ⟨g,hg,rfl⟩
 ·split
  ·exact(Et _).symm
  ·exact(CN _).symm
theorem rg{us vals:List α}(nv:vals.Nodup):∀p,(mh un db atoms us vals p).Nodup
 |0=>jO fU (fD _ _)
 |p+1=>by
  refine jO fU (zJ.mpr {λv _=>cH.mpr (nv.imp λne e=>ne (CJ.mp (xo e))),(rg nv p).imp λne x hx y hy e=>ne ?_})
  ·obtain⟨t,_,rfl⟩:=ar.mp hx;obtain⟨t',_,rfl⟩:=ar.mp hy;exact(List.append_inj' e rfl).1
def xF{us vals:List α}(hu:∀t,t∈us↔un t=true/\∃a∈atoms,t∈a.2)(nd:us.Nodup)(hv:∀a∈atoms,∀r∈db a.1,∀x∈r,x∈vals)(w:Rw α):w∈mh un db atoms us vals us.length↔∃g,hU un db atoms g/\w=us.map g:=by have len:∀w∈mh un db atoms us vals us.length,w.length=us.length:=λw hw=>((Av (λt ht=>((hu t).mp ht).1) us.length w (ak _)).mp hw).1;rw[<-UC hu nd hv (λt ht _=>ht) w];exact{λh=>{w,h,(AB nd (len w h)).symm},λ⟨v,h,e⟩=>by rw[e,AB nd (len v h)];exact h}
def l9.cast{qU:α->List (Rw α)}(G:l9 un db S kept maps bs L)(hd:∀a∈S,∀r,r∈db a.1↔r∈qU a.1):l9 un qU S kept maps bs L:=
 {G.bt,G.bn,G.ln,λv=>(G.lm v).trans {λ⟨g,h,e⟩=>{g,{h.1,λa ha=>(hd a ha _).mp (h.2 a ha)},e},λ⟨g,h,e⟩=>{g,{h.1,λa ha=>(hd a ha _).mpr (h.2 a ha)},e}},G.ct}
def AskI.ac5{l1 l2:List (nG α)}{a:nG α}{known fresh kept':List α}(h:AskI un db atoms head S (l1++a::l2) kept maps)(G:∃bs L,l9 un db S kept maps bs L)(rn:(db a.1).Nodup)(hf:∀t,t∈fresh↔t∈a.2/\un t=true/\t∉kept)(fn:fresh.Nodup)(hk:known=a.2.filter (λt=>decide (t∉fresh)))(h':∀t∈kept',t∈kept++fresh):
  ∃bs L,l9 un db (a::S) kept' (narrowed (-58) (kept++fresh) kept') bs L:=by
 obtain⟨bs,L,G⟩:=G;obtain⟨L',g⟩:=G.step h.kp h.md rn (λt ht=>(G.bt t).mpr {((h.kt t).mp ht).1,((h.kt t).mp ht).2.1}) (λb hb t ht wI u=>(h.kt t).mpr {u,⟨b,hb,ht⟩,.inr {a,aP.mpr (.inr aA),wI}}) hf fn hk h';exact⟨_,L',g⟩
def l9.alike{us vals:List α}(G:l9 un db S kept maps bs L)(e:∀a,a∈atoms↔a∈S)(hu:∀t,t∈us↔un t=true/\∃a∈atoms,t∈a.2)(nd:us.Nodup)(nv:vals.Nodup)(hv:∀a∈atoms,∀r∈db a.1,∀x∈r,x∈vals)(hh:∀t∈head,un t=true->t∈us)(r:Rw α):
  (eI L λv=>ind (image bs v head=r))=eI (-95) λv=>ind (image us v head=r):=by
 have ub:∀t,t∈us↔t∈bs:=λt=>by rw[hu,G.bt];exact{λ⟨u,a,ha,q⟩=>{u,a,(e a).mp ha,q},λ⟨u,a,ha,q⟩=>{u,a,(e a).mpr ha,q}}
 have mw:=xF hu nd hv;have pm:(L.map λv=>image bs v us).Perm (-95):=by
  refine(jR (cH.mpr (d9 (λ{u v} qO B9 ne z=>ne ?_) G.ln)) (rg nv _)).mpr λw=>?_
  ·rw[mw w,ar];constructor
   ·rintro⟨v,B9,rfl⟩;obtain⟨g,hg,rfl⟩:=(G.lm v).mp B9;exact{g,hg.of λa ha=>(e a).mp ha,G.im hg λt ht _=>(ub t).mp ht}
   ·rintro⟨g,hg,rfl⟩;have uK:=hg.of λa ha=>(e a).mpr ha;exact{bs.map g,(G.lm _).mpr ⟨g,uK,rfl⟩,G.im uK λt ht _=>(ub t).mp ht}
  ·obtain⟨g,hg,rfl⟩:=(G.lm u).mp qO;obtain⟨k,hk,rfl⟩:=(G.lm v).mp B9;rw[G.im hg λt ht _=>(ub t).mp ht,G.im hk λt ht _=>(ub t).mp ht]at z;exact aU λt ht=>pN.mp z t ((ub t).mpr ht)
 rw[<-HD pm,zU];refine hG λv B9=>?_;obtain⟨g,hg,rfl⟩:=(G.lm v).mp B9;have im:∀ts:List α,(∀t∈ts,un t=true->t∈us)->image us (us.map g) ts=ts.map g:=λts h=>iT λt ht c=>by
  cases q:un t with
  |false=>exact hg.1 t q
  |true=>exact absurd (h t ht q) c
 rw[G.im hg λt ht _=>(ub t).mp ht,im head hh,G.im hg λt ht u=>(ub t).mp (hh t ht u)]
def AskI.afC{us vals:List α}(h:AskI un db atoms head S [] kept maps)(G:∃bs L,l9 un db S kept maps bs L)(hu:∀t,t∈us↔un t=true/\∃a∈atoms,t∈a.2)(nd:us.Nodup)(nv:vals.Nodup)(hv:∀a∈atoms,∀r∈db a.1,∀x∈r,x∈vals)(hh:∀t∈head,un t=true->∃a∈atoms,t∈a.2){x:Rw α×Int}(hx:x∈narrowed maps kept head):x.2=eI (-95) λv=>ind (image us v head=x.1):=by
 obtain⟨bs,L,G⟩:=G;have e:∀a,a∈atoms↔a∈S:=λa=>by rw[h.at_ a];exact{λz=>z.elim id (λz=>by cases z),.inl}
 rw[G.end_ h.kp h.md (λt ht=>(G.bt t).mpr {((h.kt t).mp ht).1,((h.kt t).mp ht).2.1}) (λt ht u=>(h.kt t).mpr {u,let⟨a,ha,q⟩:=hh t ht u;{a,(e a).mp ha,q},.inl ht}) hx];exact G.alike e hu nd nv hv (λt ht u=>(hu t).mpr {u,hh t ht u}) x.1
def zR{Mb:List (nG α)}{db0:α->List (Rw α)}{us QR vals OR:List α}(he:∀a,a∈Mb↔a∈atoms)(hd:∀a∈atoms,∀r,r∈db a.1↔r∈db0 a.1)(hu:∀t,t∈us↔un t=true/\∃a∈atoms,t∈a.2)(hu0:∀t,t∈QR↔un t=true/\∃a∈Mb,t∈a.2)(nd:us.Nodup)(nd0:QR.Nodup)(nv:vals.Nodup)(nv0:OR.Nodup)
  (hv:∀a∈atoms,∀r∈db a.1,∀x∈r,x∈vals) (hv0:∀a∈atoms,∀r∈db a.1,∀x∈r,x∈OR) (hh:∀t∈head,un t=true->t∈us) (r:Rw α):
  (eI (-95) λv=>ind (image us v head=r))=eI (mh un db0 Mb QR OR QR.length) λv=>ind (image QR v head=r):=by
 have G:l9 un db atoms [] [] us (-95):={hu,nd,rg nv _,xF hu nd hv,λx hx=>by cases hx};refine(G.cast hd).alike he hu0 nd0 nv0 (λa ha r hr=>hv0 a ((he a).mp ha) r ((hd a ((he a).mp ha) r).mpr hr)) (λt ht u=>?_) r;obtain⟨_,a,ha,q⟩:=(hu t).mp (hh t ht u);exact(hu0 t).mpr {u,a,(he a).mpr ha,q}
end
section
variable{α:Type}[DecidableEq α]
def BX{xs ts:List α}{l:List (-65)}:(narrowed l xs ts).length<=l.length:=by
 have gen:∀(l m:List (-65)),(-82).length<=m.length+l.length:=by
  intro l
  induction l with
  |nil=>intro m;exact ak _
  |cons y l ih=>
   intro m;refine aJ (ih _) ?_;have:(qB m (image xs y.1 ts) y.2).length<=m.length+1:=by
    unfold qB;split
    ·rw[af];lia
    ·rw[aC];exact ak _
   dsimp only;rw[bA];lia
 have:=gen l [];rw[fA,wY]at this;exact this
variable{un:α->Bool}{db:α->List (Rw α)}{S S1 S2:List (nG α)}{us us1 us2 vals h1 h2:List α}
end
end AskP
namespace mS
open PySem PySem.Spec PyProof.Rows L2 ya
seal L2.PE L2.PT L2.PW L2.PA L2.PS L2.lV L2.PI L2.PO L2.Ep L2.PG L2.Er
def ip{ats:T6}{z:Str}:z∈cS ats↔∃a∈ats,z∈a.2:=by
 unfold cS;rw[qE];constructor
 ·rintro⟨l,h1,h2⟩;obtain⟨a,ha,rfl⟩:=ar.mp h1;exact⟨a,ha,h2⟩
 ·rintro⟨a,ha,h⟩;exact{a.2,cy ha,h}
section
variable{P:Program}{w:World}{K:Frag}{mg:Aab}{base:Heap}{C:Addr}
def NQ(he:PE X e ta)(hb:attributeBase e f X.env (eval e X.env)=eval e X.env:=by rfl):PE X (.Attribute e f pos) (UR X.K ta f):=mN he hb
def Mh(P:Program)(w:World)(K:Frag)(mg:Aab)(base:Heap)(C:Addr)(k:Nat)(x:Str)(ps:Aaf)(sp:Sp):Prop:=∃f fd,Mk K C f/\dy P w K mg base f9 k f fd ps sp/\mg x=some (.ref C)/\Binds K fd ps []
def mkO(D:Mh X.prog X.w X.K X.mg X.base C k x ps sp)(hr:iK j X.A)(ha:PA X (e::es) t)(hk:k+1<=j)(hg:Gl X x:=by rfl)
  (Cf:(-27)=false:=by decide) (he:starEach (e::es) X.env=(false,eval e X.env)::starEach es X.env:=by rfl) (rX:(-31).any (·.1)=false:=by rfl):
  PE X (-68) (W9 C sp [] E0 t):=by
 obtain⟨f,fd,M,F,m,b⟩:=D;exact Zr M F (hr.mono hk) hg m b .nil Po ha Cf he rX
def vW(z:Str):Prop:=PyData.strOk z=true/\z.length<=1000
def vZ(ats:T6):Prop:=∀a∈ats,a.2.length<=4/\(∀z∈a.2,vW z)/\1<=a.2.length/\PyData.strOk a.1=true
def vY(hz:Aaf)(ats:T6):Prop:=hz.length<=4/\∀z∈hz,vW z/\(isUnk z=true->z∈cS ats)
def ZZ(g:vZ ats):∀a∈ats,FinA a:=λa ha=>by obtain⟨h1,h2,_,h4⟩:=g a ha;exact{h1,h4,λz hz=>(h2 z hz).1,λz hz=>(h2 z hz).2}
def mq:z∈fS ts↔isUnk z=true/\z∈ts:=by
 constructor
 ·intro h;have gen:∀(l acc:Aaf),(∀t∈acc,isUnk t=true)->∀t∈l.foldl step acc,isUnk t=true:=by
   intro l
   induction l with
   |nil=>intro acc h t ht;exact h t ht
   |cons x l ih=>
    intro acc h t ht;refine ih _ (λy hy=>?_) t ht;unfold step at hy;split at hy
    ·next c=>
     split at hy
     ·exact h y hy
     ·rcases aP.mp hy with hy|hy
      ·exact h y hy
      ·rw[ax.mp hy];exact c
    ·exact h y hy
  exact{gen ts [] (λt ht=>by cases ht) z h,(v5 h).resolve_left λh=>by cases h}
 ·exactλ⟨h1,h2⟩=>ZI h1 h2
def mn{ats:T6}(t:Str):t∈fS (cS ats)↔isUnk t=true/\∃a∈ats,t∈a.2:=by rw[mq];unfold cS;rw[qE];exact⟨λ⟨u,ts,nY,h⟩=>{u,let⟨b,hb,e⟩:=ar.mp nY;{b,hb,e▸h}},λ⟨u,b,hb,h⟩=>{u,b.2,ar.mpr ⟨b,hb,rfl⟩,h}⟩
def num(fs:List En)(hz:Aaf)(ats:T6)(row:Aaf):Int:=AskP.eI (AskP.mh isUnk (eJ fs) ats (fS (cS ats)) kr (fS (cS ats)).length) λv=>AskP.ind (AskP.image (fS (cS ats)) v hz=row)
structure AskJ(fs:List En)(ats:T6)(hz:Aaf)(S lf:T6)(kept:Aaf)(maps:Cm):Prop extends AskP.AskI isUnk (dbT fs) ats hz S lf kept maps where
 gh:∃bs L,AskP.l9 isUnk (dbT fs) S kept maps bs L
 fw:maps.length<=8^S.length
 ls:S.length+lf.length=ats.length
def Sa(tab:jj K H tb fs)(g:vZ ats)(la:ats.length<=5)(h:AskJ fs ats hz S lf kept maps):Gw kept maps/\kept.length<=20:=by
 have hk:∀t∈kept,isUnk t=true/\t∈cS ats/\vW t:=λt ht=>by obtain⟨u,⟨b,hb,XW⟩,_⟩:=(h.kt t).mp ht;have hb:=(h.at_ b).mpr (.inl hb);exact{u,ip.mpr ⟨b,hb,XW⟩,(g b hb).2.1 t XW}
 have l6:kept.length<=20:=aJ (gY h.nd λt ht=>(hk t ht).2.1) (aJ (C6 ats λa ha=>(g a ha).1) ∅);refine{{h.nd,λt ht=>(hk t ht).2.2.1,by lia,λx hx=>{h.len hx,λz hz=>uy (h.vals (λa _ r hr x hx=>((tab.good a.1).2 r ((jt _ _).mp hr)).2.2 x hx) hx z hz)},aJ h.fw (aJ (mB (j:=5) (-9) (by have:=h.ls;lia)) (-9))},l6}
structure aaq(fs:List En)(hz:Aaf)(ats:T6)(m:Cm):Prop where
 nd:(m.map (·.1)).Nodup
 iff:∀row,row∈m.map (·.1)↔∃g,AskP.hU isUnk (dbT fs) ats g/\row=hz.map g
 gC:m.length<=400000
 ct:∀x∈m,x.2=num fs hz ats x.1
inductive JZ(P:Program)(w:World)(K:Frag)(vs:Aam)(H:Hp)(Q:VK)(_x3:XK):Prop
 |mk (v:V) (tb:Addr) (fs:List En) (hz:Aaf) (ats:T6) (_:vs=[v,.ref tb]) (_:sW H v hz ats) (_:vZ ats) (_:vY hz ats) (_:ats.length<=5) (_:jj K H tb fs) (_:∀(d:Addr)(m:Cm)(H':Hp),bI H H'->Mf P w K H' d m->aaq fs hz ats m->Q (.ref d) H')
structure Dc6(P:Program)(w:World)(K:Frag)(mg:Aab)(base:Heap)(C:Addr):Prop where
 VU:Mh P w K mg base C 1 "Asking" ["self","tables"] (JX P w K C)
 wD:sG P w K mg base C 6 "best_place" ["self","atoms"] (Q3 P w K C)
 Lc:sG P w K mg base C 6 "take" ["self","atom","needed"] (Q0 P w K C)
 needed_terms:dz P w K mg base 1 "needed_terms" ["head","atoms"] (JY K)
 narrowed:dz P w K mg base 3 "narrowed" ["counted_maps","unknowns","terms"] (zX P w K)
theorem BS:∀{aad:List α}{aac:List β}(i:Nat),Paired F aad aac->Paired F (aad.eraseIdx i) (aac.eraseIdx i)
 |_,_,_,.nil=>.nil
 |_,_,0,.cons _ t=>t
 |_,_,i+1,.cons q t=>.cons q (BS i t)
def MP{α:Type}{l:List α}{a:α}(h:l[i]?=some a):l=l.take i++a::l.drop (i+1)/\l.eraseIdx i=l.take i++l.drop (i+1):=by obtain⟨hi,e⟩:=aq.mp h;refine{?_,qZ _ _};rw[<-e,<-ki hi,dM]
def jm.exL(x:jm P w K C H self dx tb kl md td ex fs kept maps n)(s:SB ll H H')(m:ll∈ex)(hl:H ll=some (-39))(tab:jj K H' tb fs):jm P w K C H' self dx tb kl md td ex fs kept maps n:=by
 have nt:=qK hl;obtain⟨kvs,c,l⟩:=x.BA;obtain⟨vq,hm,em⟩:=id x.xG;refine{s _ _ (λz=>?_) x.ins,tab,s _ _ (λz=>x.ke (z▸m)) x.ze,x.xG.sb s nt (λz=>hm.vN _ (z▸hl)),{kvs,c.fr (λb u n e=>s _ _ (λz=>n (by rw[z];exact aB _ (aB _ m))) e) (s.tp nt) ?_,l},x.nm,x.nt,x.ke}
 ·have q:=x.ins;rw[z,hl]at q;cases q
 ·obtain⟨u,h⟩:=c.at_.some;rw[h,s _ _ (λz=>c.at_.vN _ (by rw[z];exact hl)) h]
def lJ:cK ["question","tables","head","atoms","asking","left","atom"] ["question","tables"] (defScope yn):=jV (-3)
def KR(F:fJ K "counts_of" "counts_of" yn f fd)(T:Txt K mg)(O:Fc K C)(D:Dc6 P w K mg base C):dy P w K mg base f9 7 f fd ["question","tables"] (JZ P w K):=by
 refine F.ok lJ (λ_ _ _ _ h=>by cases h;subst_vars;rfl) (-4);obtain⟨v,tb,fs,hz,ats,rfl,⟨q,hd,aa,jo,rfl,hq,Bb,Be,qy⟩,good,bj,la,tab,k⟩:=h;have cC:=O.c;refine{_,(aO (wz (pv 0) (nQ rfl (dC (kR 2 lJ) (dC (kR 3 lJ) ku)))) (aO (fX 4 lJ (mkO D.VU hr (-88) ∅)) (aO (fX 5 lJ (dR L9 rfl T.K6 (-3) (cc (pv 3)))) (aO (Vj cz (Vi (pv 5) (λ_=>rfl)) (aO (fX 6 lJ (oS dj PySem.F.slot_list_pop PySem.F.type_list_pop VC (pv 5) (cc (N0 cC D.wD hr (pv 4) (cc (pv 5)) ∅)))) (bx (lL (N0 cC D.Lc hr (pv 4) (dA (pv 6) (cl D.needed_terms hr (dA (pv 2) (pv 5)))) ∅))))) (bx (cW (cl D.narrowed hr (rN (dR (Gs hr.hd) rfl T.K6 (-3) (cc (HY (NQ (pv 4))))) (NQ (pv 4)) (pv 2))))))))),?_}
 refine gw λR eR=>?_;refine{_,rfl,q,_,rfl,bC.of hq,rfl,_,_,rfl,_,_,rfl,rfl,?_};refine dX (T:=R) eR λR eR=>?_;refine{_,rfl,λx dx hx hdx ne=>?_};have s1:bI H (upd (upd H dx (.own x)) x (.ins C dx [])):=λb u h=>by rw[ay (aZ h hx),ay (aZ h hdx)];exact h
 have D2:upd (upd H dx (.own x)) x (.ins C dx []) x=some (.ins C dx []):=au;refine{x,tb,dx,fs,rfl,D2,tab.same s1,λkl md td H2 HP xM rA=>{rfl,?_}};have h0t:=s1.free xM;have ni:bI H H2:=λb u e=>HP _ _ (aZ e hx) (s1 _ _ e);refine dX eR λR eR=>?_;refine{_,rfl,aa,jo,rfl,.inr (bC.of (ni _ _ Be)),λll X6=>?_};have s3:=aK X6 (.lst jo);have IE:upd H2 ll (.lst jo) ll=some (.lst jo):=au;have HQ:=ni.trans s3;have h0l:=ni.free X6;have xv:jm P w K C (upd H2 ll (.lst jo)) x dx tb kl md td [ll] fs [] [([],1)] 0:=by
  obtain⟨kvs,ck,l⟩:=rA.BA;have c3:jP P w K H2 td (td::md::[ll]) fs kvs:={ck.at_,λa known v h=>by
   obtain⟨d,e,tv⟩:=ck.all a known v h;exact{d,e,(tv.more X6).less λb hb=>by simp only[aH,qD,EI]at hb⊢;rcases hb with h|h|h<;>simp[h]}}
  have y:=rA.same s3;exact{y.ins,y.tab,y.ze,y.xG,{kvs,c3.same s3,l},y.nm,y.nt,λz=>aZ rA.ze X6 (ax.mp z)}
 have fin:=ZZ good;refine dX eR λR eR=>?_;refine{λm Z H4=>∃(kl md n:Nat)(ys:Aam)(lf S:T6)(kept:Aaf)(maps:Cm)(x6:Aan),m=lf.length/\Z=[some (.ref q),some (.ref tb),some (.ref hd),some (.ref aa),some (.ref x),some (.ref ll),x6]/\bI H H4/\jm P w K C H4 x dx tb kl md td [ll] fs kept maps n/\H4 ll=some (-39)/\gP H4 ys lf/\AskJ fs ats hz S lf kept maps/\n+101*lf.length<=808,
  {ats.length,kl,md,0,jo,ats,[],[],[([],1)],none,rfl,rfl,HQ,xv,IE,lT qy HQ,{AskP.AskI.start,{[],[[]],AskP.l9.start},ak _,wY _},by lia},?_}
 rintro m Z H4 ⟨kl,md,n,ys,lf,S,kept,maps,x6,rfl,rfl,s4,yO,zr,sO,aj,hn⟩;have ly:=bh sO;obtain⟨mo,l6⟩:=Sa yO.tab good la aj;obtain⟨nt4,Xw⟩:=yO.NU;have lfa:=λb hb=>(aj.at_ b).mpr (.inr hb);refine{_,rfl,_,.inl {_,aY.of zr,rfl},?_};cases Ea:lf with
 |cons a0 lr=>
  have iU:0<lf.length:=Ea▸sD _;have hye:(!ys.isEmpty)=true:=by
   cases ys with
   |nil=>rw[<-ly]at iU;exact absurd iU (dP _)
   |cons _ _=>rfl
  rw[hye];rw[<-Ea];have N3:ll≠td:=λz=>Xw _ (z▸zr);refine Lm {_,λσ' H' h=>h,?_};refine{_,rfl,.inl {rfl,_,aY.of zr},_,rfl,x,dx,_,rfl,yO.ins,rfl,_,rfl,x,ll,dx,tb,kl,md,td,[ll],fs,kept,maps,n,ys,lf,rfl,yO,zr,sO,λb hb=>fin b (lfa b hb),iU,by lia,mo,by lia,λb hb=>{ax.mp hb▸N3,.lst ys,ax.mp hb▸zr},λi H5 hi HN o7=>?_};have rZ:=HN _ _ N3 zr;have abS:=Gu sO HN nt4;have s5:bI H H5:=λb u e=>HN _ _ (aZ e h0t) (s4 _ _ e);obtain⟨a,ha⟩:∃a,lf[i]?=some a:={_,ao hi};obtain⟨y,hy⟩:∃y,ys[i]?=some y:={_,ao ∅};obtain⟨a',ha',hya⟩:=Paired.at abS hy;rw[ha]at ha';cases ha';obtain⟨ap,at_,rfl,_⟩:=id hya;refine{ll,ys,i,i,.ref ap,rfl,rfl,rZ,by lia,by lia,PySem.StrLaws.seqIndex_nonneg ∅ ∅,hy,?_};have nh:SB ll H5 (upd H5 ll (.lst (ys.eraseIdx i))):=λb u n e=>ay n▸e;have ntl:=qK rZ;have rY:upd H5 ll (.lst (ys.eraseIdx i)) ll=some (.lst (ys.eraseIdx i)):=au;have s6:bI H (upd H5 ll (.lst (ys.eraseIdx i))):=λb u e=>nh _ _ (aZ e h0l) (s5 _ _ e);have abR:=Gu (BS i abS) nh ntl;have aeQ:=Cy hya nh ntl;have m8:=o7.exL nh aA rZ (tab.same s6);obtain⟨e1,e2⟩:=MP ha;have lle:=mP hi;refine{_,rfl,x,dx,_,rfl,m8.ins,rfl,_,rfl,_,rfl,_,rfl,hd,ll,hz,ys.eraseIdx i,lf.eraseIdx i,rfl,bC.of (s6 _ _ Bb),aY.of rY,abR,?_,by lia,λb hb=>?_,λnd H7 s7 P7 LB=>?_}
  ·have:=bj.1;lia
  ·have:=(fin b (lfa b ((λb hb=>List.mem_of_mem_eraseIdx hb) b hb))).1;lia
  have yN:=m8.same s7;have ndt:nd≠td:=λz=>by obtain⟨_,c,_⟩:=m8.BA;obtain⟨_,h⟩:=c.at_.some;rw[z,h]at P7;cases P7
  refine{x,ap,nd,dx,tb,kl,md,td,[ll],fs,kept,maps,n+100,a,λz=>decide (z∈hz\/∃b∈lf.eraseIdx i,z∈b.2),rfl,yN,uu aeQ s7,(fin a (lfa a (az ha))),mo,by lia,by lia,?_,ndt,λb hb=>{ax.mp hb▸N3,.lst (ys.eraseIdx i),ax.mp hb▸s7 _ _ rY},λuF B1 H8 Yr st8=>?_}
  ·obtain⟨kvs,h1,h2⟩:=LB;exact{kvs,h1,λz=>(h2 z).trans om.symm}
  have abt:∀{l:Aam}{b:Addr},H7 b=some (.lst l)->b≠x:=λ{l b} e z=>by have:=yN.ins;rw[<-z,e]at this;cases this
  have zp:=s7 _ _ rY;have Oj:=Yr _ _ N3 (abt zp) zp;have aeO:gP H8 (ys.eraseIdx i) (lf.eraseIdx i):=by
   have h7:=lT abR s7;obtain⟨nt7,_⟩:=yN.NU;generalize ys.eraseIdx i=ye at h7⊢;generalize lf.eraseIdx i=le at h7⊢
   induction h7 with
   |nil=>exact .nil
   |cons h _ ih=>
    obtain⟨p,t,e,h1,h2⟩:=h;have nx:∀{b:Addr}{l:Aam},H7 b=some (.tup l)->b≠td/\b≠x:=λ{b l} e=>{λz=>nt7 _ (.inl (z▸e)),λz=>by have:=yN.ins;rw[<-z,e]at this;cases this}
    exact .cons {p,t,e,Yr _ _ (nx h1).1 (nx h1).2 h1,Yr _ _ (nx h2).1 (nx h2).2 h2} ih
  have aj8:AskJ fs ats hz (a::S) (lf.eraseIdx i) ((-41).filter λz=>decide (z∈hz\/∃b∈lf.eraseIdx i,z∈b.2)) (AskP.narrowed (DT fs kept a maps) (-41) ((-41).filter λz=>decide (z∈hz\/∃b∈lf.eraseIdx i,z∈b.2))):=by
   rw[e1]at aj;have fh:∀t,t∈iA kept a.2↔t∈a.2/\isUnk t=true/\t∉kept:=λt=>by unfold iA;rw[bQ,om,mq];exact{λh=>{h.1.2,h.1.1,h.2},λh=>{{h.2.1,h.1},h.2.2}}
   have:=aj.step (need:=λz=>decide (z∈hz\/∃b∈lf.eraseIdx i,z∈b.2)) fh ((jq a.2).sublist fU) rfl (λt=>?_)
   ·have gh:=aj.1.ac5 aj.gh (kept':=(-41).filter λz=>decide (z∈hz\/∃b∈lf.eraseIdx i,z∈b.2)) (show(vK _).Nodup from(cb _).nodup_iff.mpr (vM _)) fh ((jq a.2).sublist fU) rfl λt ht=>(bQ.mp ht).1;rw[<-e2]at this;refine{this,gh,aJ AskP.BX (aJ (C5 tab) ?_),by have:=aj.ls;rw[lle,bA];rw[<-e1]at this;lia};rw[bA,kF,Nat.mul_comm];exact Nat.mul_le_mul_right _ aj.fw
   ·rw[om,e2]
  exact{_,by rw[lle];lia,uF,B1,n+100+1,ys.eraseIdx i,lf.eraseIdx i,a::S,_,_,_,rfl,rfl,(λb u e=>Yr _ _ (aZ e h0t) (aZ e hx) (s7 _ _ (s6 _ _ e))),st8,Oj,aeO,aj8,by rw[lle];lia}
 |nil=>
  have hye:=gR.mp (by rw[ly,Ea];rfl);rw[hye];refine yq ?_;rw[Ea]at aj;obtain⟨vq,LD,em⟩:=id yO.xG;refine v7 (T:=R) eR ?_;refine{_,rfl,x,C,dx,_,_,rfl,yO.ins,O.c,O.maps,rfl,md,vq,rfl,LD,λvw SK=>?_};have s5:=aK SK (.ext (xa vw md));have hv5:upd H4 vw (.ext (xa vw md)) vw=some (.ext (xa vw md)):=au;have o7:=yO.same s5;have xR:gn P w K (upd H4 vw (.ext (xa vw md))) md vq:=by obtain⟨u,h⟩:=LD.some;exact LD.tp (fq.same s5) (by rw[h,s5 _ _ h])
  generalize (upd H4 vw (.ext (xa vw md)))=H5 at s5 hv5 o7 xR⊢;refine{vw,md,vq,rfl,hv5,xR,λl zs H6 s6 qP rY hps=>?_};have m8:=o7.same s6;have BL:=s4.trans (s5.trans s6);have pc:Paired (yc K H6) zs maps:=by
   have hk:=λp hp=>Px (fq.same s6) _ _ (xR.2 p hp).1;clear rY xR LD;generalize maps=mm at em
   induction vq generalizing zs mm with
   |nil=>
    cases mm with
    |nil=>cases hps;exact .nil
    |cons _ _=>cases em
   |cons p vq ih=>
    cases mm with
    |nil=>cases em
    |cons y mm=>
     injection em with TF em2;cases hps with
     |cons h t=>
      obtain⟨b,rfl,hb⟩:=h;have e2:p.2.2=V.int y.2:=bV Prod.snd TF;have hn:=hk p aA;rw[(bV Prod.fst TF)]at hn;refine .cons {b,p.2.1,rfl,?_,FQ hn} (ih _ t (λq hq=>hk q (aB _ hq)) _ em2);rw[<-e2];exact bC.of hb
  have lh:=bj.1;refine{_,rfl,x,C,dx,_,_,rfl,m8.ins,O.c,O.kept,rfl,_,rfl,l,kl,hd,zs,maps,kept,hz,rfl,aY.of rY,pc,aY.of m8.ze,mo.nd,mo.len,.inr (bC.of (BL _ _ Bb)),by lia,λz jn=>(bj.2 z jn).1.1,mo.row,aJ mo.gC (-9),λd H7 s7 km rc=>?_};have hh:=λt ht u=>((mn t).mp (mq.mpr {u,(bj.2 t ht).2 u})).2;have hv:∀a∈ats,∀r∈dbT fs a.1,∀x∈r,x∈kr:=λa _ r hr x hx=>((tab.good a.1).2 r ((jt _ _).mp hr)).2.2 x hx;refine k d _ H7 (BL.trans s7) rc {AskP.lM,aj.end_ hh,?_,λy hy=>(aj.1.afC aj.gh mn (jq _) (-9) hv hh hy).trans (AskP.zR (λ_=>o6) (λa _ r=>jt r _) mn mn (jq _) (jq _) (-9) (-9) hv hv (λt ht u=>(mn t).mpr {u,hh t ht u}) _)}
  ·exact aJ AskP.BX mo.gC
inductive xw(K:Frag)(vs:Aam)(H:Hp)(Q:VK)(_x3:XK):Prop
 |mk (v:V) (tb:Addr) (fs:List En) (hz:Aaf) (ats:T6) (_:vs=[v,.ref tb]) (_:sW H v hz ats) (_:vZ ats) (_:vY hz ats) (_:ats.length<=5) (_:jj K H tb fs) (_:∀(l:Addr)(zs:Aam)(rows:T7)(H':Hp),bI H H'->H l=none->H' l=some (.lst zs)->dJ K H' zs (cA rows)->rows.Nodup->(∀row,row∈rows↔∃g,AskP.hU isUnk (dbT fs) ats g/\row=hz.map g)->(∀z∈zs,∃a xs,z=.ref a/\H' a=some (.tup xs))->rows.length<=400000->Q (.ref l) H')
structure Da6(P:Program)(w:World)(K:Frag)(mg:Aab)(base:Heap):Prop where
 counts_of:dz P w K mg base 7 "counts_of" ["question","tables"] (JZ P w K)
def O7:cK ["question","tables"] ["question","tables"] (defScope BK):=jV (-3)
def Pw(F:fJ K "answers" "answers" BK f fd)(T:Txt K mg)(D:Da6 P w K mg base):dy P w K mg base f9 8 f fd ["question","tables"] (xw K):=by
 refine F.ok O7 (λ_ _ _ _ h=>by cases h;subst_vars;rfl) (-4);obtain⟨v,tb,fs,hz,ats,rfl,hq,good,bj,la,tab,k⟩:=h;refine{_,(bx (cW (bZ (Cr hr.hd) rfl T.qx (-3) (cc (cl D.counts_of hr (dA (pv 0) (pv 1))))))),?_};refine{_,rfl,_,rfl,v,tb,fs,hz,ats,rfl,hq,good,bj,la,tab,λd m H1 s1 rc cm=>?_};obtain⟨kvs,ha,em,g7⟩:=rc;have e1:kvs.map (·.1)=(m.map (·.1)).map gj:=by have:=bV (List.map Prod.fst) em;unfold sV at this;rw[aV,aV]at this;rw[aV];exact this
 have lr:(m.map (·.1)).length<=400000:=by rw[af];exact cm.gC
 refine{d,kvs,m.map (·.1),rfl,ha,e1,λh2 r fL=>?_,by lia,λl zs hl hr hm=>?_}
 ·intro er;obtain⟨g,_,eg⟩:=(cm.iff r).mp fL;rw[er]at eg;have all:∀y∈m.map (·.1),y∈([[]]:T7):=λy hy=>by obtain⟨g',_,e'⟩:=(cm.iff y).mp hy;rw[e',(jc.mp eg.symm)];exact aA
  have:=gY cm.nd all;rw[fk]at this;lia
 ·have s2:=aK hl (.lst zs);refine k l zs _ _ (s1.trans s2) (s1.free hl) au (cI hr s2) cm.nd cm.iff (λz jn=>?_) (by rw[af];exact cm.gC);obtain⟨p,hp,rfl⟩:=ar.mp (hm z jn);obtain⟨xs,e⟩:=g7 p hp;exact{_,xs,rfl,s2 _ _ e}
end
end mS
namespace ya
open PySem PySem.W PyProof.Rows PySem.Calls
theorem jF.length:∀{zs:Aaf}{vs:Aae},jF zs vs->vs.length=zs.length
 |_,_,.nil=>rfl
 |_,_,.cons r=>by rw[bA,bA,r.length]
section
open PySem.SeqAt
open PySem.AutoSeq1 (wpAny_loadPart')
open PySem.MeetsSeq PySem.MeetsSeq2 PySem.MeetsSeq3
def aaC{l b:Addr}{aS xI:Aaj}{n m:Nat}{dd de:Aai}{sl sm:Aad}{xs ys:Aaf}(hi:jF xs aS.toList)(hj:jF ys xI.toList):
  Meets (Builtin.«tuple.__lt__» {[.ref l,.ref b],[]})
   (λ_ R s=>s.heap.get? l=some {cls:=.type "tuple",dict:=dd,data:=.seq aS n,slots:=sl}/\s.heap.get? b=some {cls:=.type "tuple",dict:=de,data:=.seq xI m,slots:=sm}/\R (.ok (.ret (.bool (dH xs ys)))) s):=
 .of_wp λprog w A R s h=>by
  obtain⟨hp,g,d,tk,os⟩:=s;obtain⟨hl,hb,h⟩:=h;have f2:=AutoSeq1.sub_tuple_tuple;have z1:aS.size=xs.length:=by rw[<-hi.length];simp
  have z2:xI.size=ys.length:=by rw[<-hj.length];simp
  wp_walk using wpAny_loadPart' hl,wpAny_loadPart' hb,je _ (λrest b s'=>b.1=none/\s'=⟨hp,g,d,tk,os⟩/\∃(vs ws:Aae)(x' y':Aaf),rest=vs.zip ws/\
   jF x' vs/\jF y' ws/\x'.length+xI.size=y'.length+aS.size/\R (.ok (.ret (.bool (dH x' y')))) ⟨hp,g,d,tk,os⟩) _
  case turn=>
   rintro⟨y,x⟩ rest b s' ⟨kD,rfl,vs,ws,x',y',hz,hvi,XQ,hlen,hR⟩;cases hvi with
   |nil=>rw[DA]at hz;cases hz
   |@cons a t _ _ aeS=>
    cases XQ with
    |nil=>rw[List.zip_nil_right]at hz;cases hz
    |@cons c u _ _ aeR=>
     injection hz with hyx adz;injection hyx with hy hx;subst hy hx;unfold dH at hR;simp only[bA]at hlen;refine ae ((CB a t c u) prog w _ _ ?_);by_cases e:a=c
     ·rw[show(a==c)=true from sv.mpr e];rw[aG e]at hR
      wp_walk
      exact{rfl,rfl,_,_,_,_,adz,aeS,aeR,by lia,hR}
     ·rw[show(a==c)=false from fT.mpr e];rw[aw e]at hR;have hri:∀(E:Aac)(Q:Aac),Q (.bool (Ij a c)) ⟨hp,g,d,tk,os⟩->wpAny (-5) A.in1 (richCompare .Lt (.str a t) (.str c u)) Q E ⟨hp,g,d,tk,os⟩:=λE Q h=>(Bn h:wpAny (-5) A.in1 (compareOp .Lt (.str a t) (.str c u)) Q E _)
      wp_walk using hri
      exact{_,rfl,by simpa using hR}
  case fin=>
   rintro⟨b1,b2⟩ s' ⟨kD,rfl,vs,ws,x',y',hz,hvi,XQ,hlen,hR⟩;simp only at kD;subst kD;have hv:dH x' y'=decide (aS.size<xI.size):=by
    cases hvi with
    |nil=>
     cases XQ with
     |nil=>
      exact(bB ∅).symm
     |cons hw=>
      simp only[fA,bA]at hlen;exact(aT ∅).symm
    |cons hv=>
     cases XQ with
     |nil=>
      simp only[fA,bA]at hlen;exact(bB ∅).symm
     |cons hw=>
      cases hz
   rw[hv]at hR
   wp_walk
   exact{_,rfl,by simpa[Builtin.Tuple.tupleCompareSizes]using hR}
  case h=>
   exact{rfl,rfl,aS.toList,xI.toList,xs,ys,rfl,hi,hj,by lia,h}
end
section
variable{prog:Program}{w:World}{A:Around}{E:Aac}{s:Shared}
def abu{x y:Addr}{xs ys:Aaf}{Q:Aac}(hx:TupIs s.heap (.ref x) xs)(hy:TupIs s.heap (.ref y) ys)(hu:A.units<cLine)(h:Q (.bool (dH xs ys)) s):wpAny (-5) A (compareOp .Lt (.ref x) (.ref y)) Q E s:=by obtain⟨_,⟨c,dd,dt,sl⟩,aS,n,e,ho,hc,hd,hi⟩:=hx;obtain⟨_,⟨c2,de,dt2,sm⟩,xI,m,e2,zo,vv,hd2,hj⟩:=hy;cases e;cases e2;simp only at hc hd vv hd2;subst hc hd vv hd2;exact richCompare_meets_room (op:=.Lt) ⟨_,ho,rfl⟩ ⟨_,zo,rfl⟩ PySem.F.slot_tuple_lt PySem.F.entry_tuple_lt (PySem.F.args_tuple_lt_2 _ _) (aaC hi hj) {ho,zo,show Value.bool (dH xs ys)≠Value.notImplemented/\Q (.bool (dH xs ys)) s from{(λx=>nomatch x),h}} hu
def iL(N:Aaf->Int)(h:Heap)(v:Value)(r:Aaf):Prop:=∃a o aS n g t,v=.ref a/\h.get? a=some o/\o.cls=.type "tuple"/\o.data=.seq aS n/\aS.toList=[.ref g,.int (N r) t]/\TupIs h (.ref g) r
theorem N7{P:Program}{w:World}:∀{zs:Aaf}{us:Aae},jF zs us->ItemsAre (PySem.strKind P w) zs us
 |_,_,.nil=>.nil
 |_,_,.cons r=>.cons (mx _ _ _ _) (N7 r)
def TupIs.key{P:Program}{w:World}{h:Heap}{a:Addr}{zs:Aaf}(x:TupIs h (-64) zs):IsTupleKey (PySem.strKind P w) h zs a:=by obtain⟨_,o,aS,n,e,ho,hc,hd,hr⟩:=x;cases e;exact{o,aS,n,ho,hc,hd,N7 hr}
def ZJ{N:Aaf->Int}{x y:Value}{xs ys:Aaf}{C:Bool->Shared->Prop}(hu:A.units<cLine)(hx:iL N s.heap x xs)(hy:iL N s.heap y ys)(h:C (dH xs ys) s):wpAny (-5) A (keyLt' (tuples' false) x y) C E s:=by
 obtain⟨a,o,aS,n,g,t,rfl,ho,hc,hd,el,hg⟩:=hx;obtain⟨b,p,xI,m,g',u,rfl,hp,X2,FZ,TH,uK⟩:=hy;have z1:aS.size=2:=by rw[<-aM,el];rfl
 have z2:xI.size=2:=by rw[<-aM,TH];rfl
 refine kat_lt ho hd hp FZ ?_;rw[el,TH,z1,z2];refine kat_cons (Bv hu hg.key uK.key ?_);by_cases e:xs=ys
 ·subst e;rw[aT rfl];refine kat_yes (kat_cons (CF (N xs) t (N xs) u prog w _ _ ?_));rw[show(N xs==N xs)=true from wO _];refine kat_yes (kat_nil ?_);rw[rQ]at h;exact h
 ·rw[bB e];exact kat_no (kat_one _ _ (abu hg uK hu h))
def Sn{N:Aaf->Int}{vs:Aae}{rows:T7}{Q:SortKind->Shared->Prop}(hl:vs.length=rows.length)(h2:2<=vs.length)(ht:∀(i:Nat) v r,vs[i]?=some v->rows[i]?=some r->iL N s.heap v r)(h:Q (tuples' false) s):wpAny (-5) A (keyKind' vs.toArray) Q E s:=by
 have key:∀(vs:Aae)(rows:T7),vs.length=rows.length->(∀(i:Nat) v r,vs[i]?=some v->rows[i]?=some r->iL N s.heap v r)->∃fs,KatTups s.heap vs fs/\fs.length=vs.length/\∀f∈fs,∃g r,f=Value.ref g/\TupIs s.heap f r:=by
  intro vs
  induction vs with
  |nil=>intro rows hl _;exact{[],KatTups.nil,rfl,λf hf=>nomatch hf}
  |cons v vs ih=>
   intro rows hl ht;cases rows with
   |nil=>simp at hl
   |cons r rows=>
    obtain⟨fs,h1,h2,h3⟩:=ih rows (by simpa using hl) λi v' r' e1 e2=>ht (i+1) v' r' (-56) (-73);obtain⟨a,o,aS,n,g,t,rfl,ho,hc,hd,el,hg⟩:=ht 0 v r rfl rfl;refine{.ref g::fs,KatTups.cons ho hc hd (by rw[<-bF,el];rfl) h1,by simp[h2],λf hf=>?_};rcases aH.mp hf with rfl|hf
    ·exact⟨g,r,rfl,hg⟩
    ·exact h3 f hf
 obtain⟨fs,h1,h3,h4⟩:=key vs rows hl ht;refine kat_kind (T:=.type "tuple") h1 ∅ (λv hv=>?_) (-9) ?_
 ·obtain⟨g,r,rfl,b,o,aS,n,e,ho,hc,_⟩:=h4 v hv;cases e
  refineλA Q E s' k q=>?_
  exact ae (wpAny_loadPart (k _ _ ho) (ag (hc▸q)))
 ·have e:((Value.type "tuple") !=Value.type "tuple")=false:=by decide
  exact h
def iL.mono{N:Aaf->Int}{h h':Heap}{v:Value}{r:Aaf}(x:iL N h v r)(kp:∀b o,o.cls=.type "tuple"->h.get? b=some o->h'.get? b=some o):iL N h' v r:=by obtain⟨a,o,aS,n,g,t,e,ho,hc,hd,el,b,p,xI,m,e2,hp,X2,r⟩:=x;exact{a,o,aS,n,g,t,e,kp _ _ hc ho,hc,hd,el,b,p,xI,m,e2,kp _ _ X2 hp,X2,r}
def iL.one{N:Aaf->Int}{h:Heap}{v:Value}{x y:Aaf}(a:iL N h v x)(b:iL N h v y):x=y:=by obtain⟨a,o,aS,n,g,t,rfl,h1,_,h2,h3,h4⟩:=a;obtain⟨b,p,xI,m,g',u,e,q1,_,q2,q3,q4⟩:=b;cases e;rw[h1]at q1;cases q1;rw[h2]at q2;cases q2;rw[h3]at q3;have e:Value.ref g=Value.ref g':=List.head_eq_of_cons_eq q3;cases e;exact h4.one q4
open Classical in
def Ku(N:Aaf->Int)(h:Heap)(v:Value):Aaf:=if x:∃r,iL N h v r then Classical.choose x else[]
def v8{N:Aaf->Int}{h:Heap}{v:Value}{r:Aaf}(x:iL N h v r):Ku N h v=r:=by unfold Ku;rw[dif_pos ⟨r,x⟩];exact(zN (⟨r,x⟩:∃r,iL N h v r)).one x
def OZ{N:Aaf->Int}{a:Addr}{n:Nat}{vs:Aae}{rows:T7}{P:PySem.Fin->Shared->Prop}(hu:A.units<cLine)(ho:s.heap.get? a=some (seqObj "list" vs.toArray n))(hl:vs.length=rows.length)(ht:∀(i:Nat) v r,vs[i]?=some v->rows[i]?=some r->iL N s.heap v r)(sf:vs.length<1000000)
  (k:∀(h':Heap)(tk c:Nat)(us:Aae),h'.get? a=some (seqObj "list" us.toArray c)->(∀b o,b≠a->s.heap.get? b=some o->h'.get? b=some o)->us.Perm vs->(∀(i:Nat) v r,us[i]?=some v->(cA rows)[i]?=some r->iL N s.heap v r)->P (.done (.ret .none)) {s with heap:=h',toks:=tk}):
  wpAny (-5) A (Builtin.«list.sort» {[.ref a],[]}) P E s:=by
 by_cases c2:vs.length<2
 ·refine J0 ho c2 λh' c g kp=>?_;have e:cA rows=rows:=by
   have:rows.length<2:=by lia
   match rows,this with
   |[],_=>exact(qp (.refl _) .nil).symm
   |[r],_=>exact(qp (.refl _) (-8)).symm
   |_::_::_,q=>simp at q;lia
  rw[e]at k;exact k h' s.toks c vs g kp (.refl _) ht
 ·have k3:∀s',Tk {s with heap:=sP s.heap a vs} s'->∀b o,o.cls=.type "tuple"->s.heap.get? b=some o->s'.heap.get? b=some o:=λs' ⟨t,e⟩ b o hc hb=>by
   subst e;have nb:b≠a:=λz=>by rw[z,ho]at hb;cases hb;injection hc with z;exact absurd z (-9)
   exact ah _ (ah _ ((bN s.heap a _).extBut b o nb hb))
  have mr:∀v∈vs,∃r,r∈rows/\iL N s.heap v r:=λv hv=>by obtain⟨i,hi,rfl⟩:=eO.mp hv;exact{_,gJ ∅,ht i _ _ (ao hi) (ao _)}
  refine Nw (κ:=tuples' false) (rk:=λv=>Kj rows (Ku N s.heap v)) ho ∅ sf (λs' tk=>Sn hl ∅ (λi v r e1 e2=>(ht i v r e1 e2).mono (k3 s' tk)) ⟨rfl,tk⟩) (λx hx y hy s' tk=>?_) λus h' tk c po so g kp=>?_
  ·obtain⟨r,m1,t1⟩:=mr x hx;obtain⟨q,m2,t2⟩:=mr y hy;refine ZJ hu (t1.mono (k3 s' tk)) (t2.mono (k3 s' tk)) {?_,tk};rw[v8 t1,v8 t2,Jn m1 m2]
  ·have er:us.map (Ku N s.heap)=cA rows:=by
    have ev:vs.map (Ku N s.heap)=rows:=by refine qG (by simpa using hl) λi h1 h2=>?_;rw[mD];exact v8 (ht i _ _ (ao _) (ao h2))
    refine qp (ev▸po.map _) (cH.mpr (so.imp_of_mem λ{x y} hx hy q=>?_));obtain⟨r,m1,t1⟩:=mr x (po.mem_iff.mp hx);obtain⟨p,m2,t2⟩:=mr y (po.mem_iff.mp hy);rw[v8 t1,v8 t2]at q⊢;have z:=Jn m2 m1;rw[bB (A0.mpr q)]at z;show(!dH _ _)=true;rw[<-z];rfl
   refine k h' tk c us g kp po λi v r e1 e2=>?_;rw[<-er,aL,e1]at e2;cases e2;obtain⟨r,m1,t1⟩:=mr v (po.mem_iff.mp (az e1));rw[v8 t1];exact t1
end
end ya
namespace L2
open PySem PySem.Spec PyProof.Rows ya
section
variable{X:Cx}
def yA(K:Frag)(N:Aaf->Int)(H:Hp)(v:V)(r:Aaf):Prop:=∃p g,v=.ref p/\bC K H p [.ref g,.int (N r)]/\bC K H g (r.map V.str)
def Inv.pair{pins:Aaa}{Z:St}{H:Hp}{s:Shared}(I:Inv X pins Z H s){N:Aaf->Int}{p:Addr}{r:Aaf}(h:yA X.K N H (.ref p) r):iL N s.heap (.ref p) r:=by obtain⟨_,g,e,h1,h2⟩:=h;cases e;obtain⟨aS,rv,⟨o,e,c,n,d⟩,_⟩:=I.tuple h1;obtain⟨_,_,rfl,ra,tk,rb⟩:=Fj rv;cases ra;cases rb;exact{p,o,_,n,g,tk,rfl,e,c,d,by simp,((I.row h2).1)}
def L8(hu:X.A.units+96<cLine):iN X (.builtin "sorted") (λxs H Q=>∃p ys rows N,xs=[.ref p]/\aY X.K H p ys/\Paired (yA X.K N H) ys rows/\rows.length<1000000/\∀l zs,H l=none->Paired (yA X.K N H) zs (cA rows)->(∀z∈zs,z∈ys)->Q (.ref l) (upd H l (.lst zs))):=by
 intro pins s Z H xs us Q I r h;obtain⟨p,ys,rows,N,rfl,hq,hr,sf,q⟩:=h;obtain⟨u,rfl,rx⟩:=jy r;cases rx;obtain⟨aS,r',pl,hz⟩:=I.list hq;obtain⟨bs,rfl,rfl,lb,hb⟩:∃bs:Aah,aS=bs.map Value.ref/\ys=bs.map V.ref/\bs.length=rows.length/\∀(i:Nat) z b,rows[i]?=some z->bs[i]?=some b->yA X.K N H (.ref b) z:=by
  clear q sf hq pl hz
  induction hr generalizing aS with
  |nil=>cases r';exact{[],rfl,rfl,rfl,λi z b e=>by simp at e}
  |@cons y zs ys rows h _ ih=>
   cases r' with
   |@cons _ u _ us ru q=>
    obtain⟨bs,h1,h2,h3,h4⟩:=ih us q;obtain⟨a,g,rfl,h5⟩:=h;cases(show u=Value.ref a from ru);refine{a::bs,by rw[h1];rfl,by rw[h2];rfl,by simp[h3],λi z b e1 e2=>?_};cases i with
    |zero=>cases e1;cases e2;exact⟨a,g,rfl,h5⟩
    |succ i=>exact h4 i z b (-56) (-73)
 refine f7 uh rK si (sA _) ?_;refine ae (ag ?_);refine ae (collect_list pl.isList ?_ (by rw[af,bz];lia));have kp:∀b o,s.heap.get? b=some o->((s.heap.push (seqObj "list" #[] 0)).update s.heap.objs.size (Obj.mapSeq (·++(-92).toArray))).get? b=some o:=λb o e=>by rw[Bp _ _ _ _ (aI (aF e))];exact ah _ e
 have I1:=I.kept (t':=s.toks) kp;refine ae (qe ?_ (by rw[af,bz];lia));generalize ({s with heap:=(s.heap.push (seqObj "list" #[] 0)).update s.heap.objs.size (Obj.mapSeq (·++(-92).toArray)),toks:=s.toks}:Shared)=s1 at I1⊢;have Cc:(s1.heap.push (seqObj "list" (-92).toArray 0)).get? s1.heap.objs.size=some (seqObj "list" (-92).toArray 0):=aE _ rfl;have Md:∀(i:Nat)(v:Value)(r:Aaf),(-92)[i]?=some v->rows[i]?=some r->iL N s1.heap v r:=λi v r e1 e2=>by rw[aL]at e1;obtain⟨b,e3,rfl⟩:=bq.mp e1;exact I1.pair (hb i r b e2 e3)
 refine ae (bS (bp yR ⟨_,Cc,rfl⟩ xY (OZ ?_ Cc (by rw[af];exact lb) (λi v r e1 e2=>(Md i v r e1 e2).mono λb o _ e=>ah _ e) (by rw[af];lia) λh' tk c us g kp pm qq=>{_,rfl,?_}) (zE _)))
 ·show X.A.units+1+1<cLine;lia
 obtain⟨cs,rfl,pc⟩:=NC pm;have lc:cs.length=rows.length:=by rw[pc.length_eq,lb]
 have lz:(cs.map V.ref).length<=sizeLine:=by rw[af,bz];lia
 have wG:=λb o e=>kp b o (aI (aF e)) (ah _ e);refine ag {_,rfl,?_};refine{.ref s1.heap.objs.size,_,I1.laid wG (ak _) (show dE X.prog X.w _ _ _ (.lst (cs.map V.ref))from{lz,cs.map Value.ref,c,Gy cs,g}),rfl,q _ (cs.map V.ref) (-87) ?_ λz hz=>(pc.map _).mem_iff.mp hz};have key:∀(i:Nat) z b,(cA rows)[i]?=some z->cs[i]?=some b->yA X.K N H (.ref b) z:=λi z b e1 e2=>by
  have t:=qq i (.ref b) z (by rw[aL,e2];rfl) e1;obtain⟨j,hj⟩:=cP.mp (pc.mem_iff.mp (az e2));have jY:j<rows.length:=by have:=(aq.mp hj).1;lia
  have hr:=hb j _ b (ao jY) hj;have t2:iL N (s1.heap.push (seqObj "list" (-92).toArray 0)) (.ref b) rows[j]:=(I1.pair hr).mono λb o _ e=>ah _ e;rw[<-t2.one t];exact hr
 have lcs:cs.length=(cA rows).length:=by rw[lc,(cb rows).length_eq]
 clear qq pm pc lz lc g q;generalize cA rows=sr at key lcs
 induction cs generalizing sr with
 |nil=>
  cases sr with
  |nil=>exact .nil
  |cons _ _=>cases lcs
 |cons b cs ih=>
  cases sr with
  |nil=>cases lcs
  |cons z sr=>exact .cons (key 0 z b rfl rfl) (ih sr (λi z' b' e1 e2=>key (i+1) z' b' (-56) (-73)) (by simpa using lcs))
end
end L2
namespace mS
open PySem PySem.Spec PyProof.Rows L2 ya
seal L2.PE L2.PT L2.PW L2.PA L2.PS L2.lV L2.PI L2.PO L2.Ep L2.PG L2.Er
section
variable{P:Program}{w:World}{K:Frag}{mg:Aab}{base:Heap}
def RD{X:Cx}{o i:Expr}{pos:Pos}{td ty:TE}(hu:X.A.units+101<cLine)(ho:PE X o td)(hi:PE X i ty)(hs:QH i)(h1:X.prog=P:=by rfl)(h2:X.w=w:=by rfl)(h3:X.K=K:=by rfl):PE X (.Subscript o i pos) (JN P w K td ty):=by subst h1 h2 h3;exact Kz hu ho hi hs
def qJ(tab:jj K H tb fs)(bj:vY hz ats)(hi:∀row,row∈rows↔∃g,AskP.hU isUnk (dbT fs) ats g/\row=hz.map g):CH (cA rows):=λr hr z jn=>by
 obtain⟨g,hg,rfl⟩:=(hi r).mp ((cb rows).mem_iff.mp hr);obtain⟨t,ht,rfl⟩:=ar.mp jn;cases u:isUnk t with
 |false=>rw[hg.1 t u];exact(bj.2 t ht).1.1
 |true=>
  have:=(bj.2 t ht).2 u;obtain⟨ts,nY,h⟩:=qE.mp this;obtain⟨b,hb,rfl⟩:=ar.mp nY;exact uy (((tab.good b.1).2 _ ((jt _ _).mp (hg.2 b hb))).2.2 _ (ar.mpr ⟨t,h,rfl⟩))
def Za{fs:List En}{hz:Aaf}{ats:T6}{rows:T7}(nd:rows.Nodup)(hi:∀row,row∈rows↔∃g,AskP.hU isUnk (dbT fs) ats g/\row=hz.map g)(h2:2<=rows.length):∀r∈rows,r≠[]:=λr hr er=>by
 obtain⟨g,_,eg⟩:=(hi r).mp hr;rw[er]at eg;have:=gY (m:=([[]]:T7)) nd λy hy=>by obtain⟨g',_,e'⟩:=(hi y).mp hy;rw[e',(jc.mp eg.symm)];exact aA
 rw[fk]at this;lia
def yb(K:Frag)(H:Hp)(v:V)(x:Aaf×Int):Prop:=∃p g ys,v=.ref p/\H p=some (.tup [.ref g,.int x.2])/\H g=some (.tup ys)/\bC K H g (x.1.map V.str)
def Pp{H H':Hp}{v:V}{x:Aaf×Int}(h:yb K H v x)(s:bI H H'):yb K H' v x:=by obtain⟨p,g,ys,e,h1,h2,h3⟩:=h;exact{p,g,ys,e,s _ _ h1,s _ _ h2,dW h3 s}
def DM{H H':Hp}{zs:Aam}{l:Cm}(h:Paired (yb K H) zs l)(s:bI H H'):Paired (yb K H') zs l:=Paired.u4 h λ_ _ h=>Pp h s
def Vs{d:Addr}{m:Cm}{H:Hp}{Z:L2.St}{Q:VK}(e:Z[2]?=some (some (.ref d)))(rc:Mf P w K H d m)(gC:m.length<=400000)(NS:∀r∈m.map (·.1),qW r)(iU:2<=(m.map (·.1)).length->∀r∈m.map (·.1),r≠[])
  (k:∀(l:Addr)(zs:Aam)(H':Hp),bI H H'->H l=none->H' l=some (.lst zs)->Paired (yb K H') zs ((cA (m.map (·.1))).map λr=>(r,cnt m r))->Q (.ref l) H'):
  xu (XM K (tCB (λxs H Q=>∃(a:Addr)(kvs:List (-44))(rows:T7),xs=[.ref a]/\gn P w K H a kvs/\kvs.map (·.1)=rows.map gj/\(2<=rows.length->∀r∈rows,r≠[])/\rows.length<1000000/\SortedTo K H (kvs.map λp=>.ref p.2.1) rows Q) (t7 (GC 2) GD))) [2] CZ (aaJ (t7 (GC 0) (t7 (JN P w K (GC 1) (GC 0)) GD))) Z H Q:=by
 obtain⟨kvs,ha,em,g7⟩:=rc;have e1:kvs.map (·.1)=(m.map (·.1)).map gj:=by have:=bV (List.map Prod.fst) em;unfold sV at this;rw[aV,aV]at this;rw[aV];exact this
 have lm:(m.map (·.1)).length<=400000:=by rw[af];exact gC
 refine{_,e,d,kvs,m.map (·.1),rfl,ha,e1,iU,by lia,λl zs hl hr hm=>?_};have s1:=aK hl (.lst zs);have lO:upd H l (.lst zs) l=some (.lst zs):=au;have xP:=cI hr s1;have ats:∀{H':Hp},bI H H'->gn P w K H' d kvs:=λs=>by obtain⟨u,hu⟩:=ha.some;exact ha.tp (fq.same s) (by rw[hu,s _ _ hu])
 generalize (upd H l (.lst zs))=H1 at s1 lO xP⊢;have lz:=hr.length;refine{l,rfl,{_,aY.of lO},ir (λj ys H2=>bI H1 H2/\j<=(cA (m.map (·.1))).length/\Paired (yb K H2) ys (((cA (m.map (·.1))).take j).map λr=>(r,cnt m r))) (by rw[lz];exact cU (by rw[(cb _).length_eq];exact lm) (-9)) {λ_ _ e=>e,aQ _,.nil} ?_ ?_ ?_}
 ·rintro j ys H2 hj ⟨s2,_,pp⟩;have:=bh pp;rw[af,aR]at this;exact{aY.of (s2 _ _ lO),by lia}
 ·rintro j x ys H2 N hx ⟨s2,hj,pp⟩ hN;obtain⟨r,xO,a,rfl,wJ⟩:=Paired.at' xP hx;have jY:=(aq.mp xO).1;have rm:=(cb _).mem_iff.mp (az xO);obtain⟨p,hp,ep⟩:=ar.mp (hm (-64) (az hx));cases ep;obtain⟨xs,hxs⟩:=g7 p hp;have ni:=s1.trans s2;have hv:valN kvs (gj r)=some (.int (cnt m r)):=by
   rw[CY em];unfold cnt;obtain⟨x,hx,ex⟩:=ar.mp rm;cases q:m.find? (λx=>decide (x.1=r))with
   |none=>exact absurd (aT ex) (kX.mp q x hx)
   |some y=>rfl
  have es:(some (V.ref p.2.1)::slotsOf [2] Z)[1]?=some (some (.ref d)):=by show some ((Z[2]?).getD none)=_;rw[e];rfl
  refine{_,rfl,_,es,_,rfl,d,p.2.1,kvs,gj r,_,rfl,rfl,ats ni,wH (dW wJ s2) (NS r rm),hv,by show 2<=sizeLine;decide,λtp htp=>hN _ _ ?_};have s3:=aK htp (.tup [V.ref p.2.1,V.int (cnt m r)]);refine{s2.trans s3,jY,?_};rw[a9,xO,cq,aD];exact(DM pp s3).snoc {tp,p.2.1,xs,rfl,au,s3 _ _ (ni _ _ hxs),dW wJ (s2.trans s3)}
 rintro ys H2 ⟨s2,_,pp⟩ l2 g8;rw[lz,bg]at pp;have s3:=aK g8 (-39);exact k l2 ys _ (s1.trans (s2.trans s3)) ((s1.trans s2).free g8) au (DM pp s3)
inductive Xf(K:Frag)(vs:Aam)(H:Hp)(Q:VK)(_x3:XK):Prop
 |mk (v:V) (tb:Addr) (fs:List En) (hz:Aaf) (ats:T6) (_:vs=[v,.ref tb]) (_:sW H v hz ats) (_:vZ ats) (_:vY hz ats) (_:ats.length<=5) (_:jj K H tb fs) (_:∀(l:Addr)(zs:Aam)(rows:T7)(H':Hp),bI H H'->H l=none->H' l=some (.lst zs)->rows.Nodup->(∀row,row∈rows↔∃g,AskP.hU isUnk (dbT fs) ats g/\row=hz.map g)->Paired (yb K H') zs ((cA rows).map λr=>(r,num fs hz ats r))->rows.length<=400000->Q (.ref l) H')
def UM{m:Cm}{fs:List En}{hz:Aaf}{ats:T6}(nd:(m.map (·.1)).Nodup)(ct:∀x∈m,x.2=num fs hz ats x.1):(cA (m.map (·.1))).map (λr=>(r,cnt m r))=(cA (m.map (·.1))).map λr=>(r,num fs hz ats r):=aU λr hr=>by obtain⟨x,hx,e⟩:=ar.mp ((cb _).mem_iff.mp hr);rw[Ub nd hx e,ct x hx,e]
def Fw:cK ["question","tables","counts"] ["question","tables"] (defScope BJ):=jV (-3)
def Pu{f:Addr}{fd:FuncData}(F:fJ K "counted" "counted" BJ f fd)(T:Txt K mg)(D:Da6 P w K mg base):dy P w K mg base f9 8 f fd ["question","tables"] (Xf K):=by
 refine F.ok Fw (λ_ _ _ _ h=>by cases h;subst_vars;rfl) (-4);obtain⟨v,tb,fs,hz,ats,rfl,hq,good,bj,la,tab,k⟩:=h;refine{_,(aO (mM (i:=2) Fw.nd rfl (Or.inr rfl) (cl D.counts_of hr (dA (pv 0) (pv 1)))) (bx (cW (iQ rfl (df (fs:=["counts"]) (fr:=[2])) (gf (bZ (Cr hr.hd) rfl T.qx (-3) (cc (pv 2)))) (λ_ _ _ _=>(iH (dA (pv 0) (RD (F6 hr) (pv 1) (pv 0) (-12))))))))),?_}
 refine{_,rfl,_,rfl,v,tb,fs,hz,ats,rfl,hq,good,bj,la,tab,λd m H1 s1 rc cm=>?_};refine Vs rfl rc cm.gC (λr fL=>qJ tab bj cm.iff r ((cb _).mem_iff.mpr fL)) (Za cm.nd cm.iff) λl zs H2 s2 qP g8 pp=>?_;rw[UM cm.nd cm.ct]at pp;exact k l zs _ H2 (s1.trans s2) (s1.free qP) g8 cm.nd cm.iff pp (by rw[af];exact cm.gC)
end
end mS
namespace AskP
section
variable{α:Type}[DecidableEq α]{un:α->Bool}{db qU:α->List (Rw α)}{S:List (nG α)}
abbrev mapA(ρ:α->α)(S:List (nG α)):List (nG α):=S.map λa=>(a.1,a.2.map ρ)
def hU.more{g:α->α}(h:hU un db S g)(hd:∀a∈S,∀r∈db a.1,r∈qU a.1):hU un qU S g:={h.1,λa ha=>hd a ha _ (h.2 a ha)}
def Y4{one other:α}{ρ:α->α}(h1:ρ one=other)(h2:∀t,t≠one->ρ t=t)(uo:un one=true){hz row:List α}:(∃g,hU un db (mapA ρ S) g/\row=(hz.map ρ).map g)↔∃g,hU un db S g/\g one=g other/\row=hz.map g:=by
 constructor
 ·rintro⟨g,hg,rfl⟩;refine{λt=>g (ρ t),{λt ht=>?_,λa ha=>?_},?_,aV}
  ·show g (ρ t)=t;rw[h2 t λe=>by rw[e,uo]at ht;cases ht];exact hg.1 t ht
  ·have:=hg.2 _ (ar.mpr ⟨a,ha,rfl⟩);rw[aV]at this;exact this
  ·by_cases e:other=one
   ·rw[e]
   ·show g (ρ one)=g (ρ other);rw[h1,h2 other e]
 ·rintro⟨g,hg,e,rfl⟩;have q:∀t,g (ρ t)=g t:=λt=>by
   by_cases c:t=one
   ·rw[c,h1,e]
   ·rw[h2 t c]
  have m:∀ts:List α,(ts.map ρ).map g=ts.map g:=λts=>by rw[aV];exact aU λt _=>q t
  refine{g,{hg.1,λb hb=>?_},(m hz).symm};obtain⟨a,ha,rfl⟩:=ar.mp hb;rw[m];exact hg.2 a ha
structure Turn(un:α->Bool)(db qU:α->List (Rw α))(S:List (nG α))(us vals:List α)(ρ:α->α):Prop where
 vr:∀x,un x=false->un (ρ x)=false
 vi:∀x y,un x=false->un y=false->ρ x=ρ y->x=y
 ur:∀t∈us,un (ρ t)=true
 ui:∀t∈us,∀u∈us,ρ t=ρ u->t=u
 hu:∀t,t∈us↔un t=true/\∃a∈S,t∈a.2
 hv:∀a∈S,∀r∈db a.1,∀x∈r,x∈vals
 vu:∀x∈vals,un x=false
 dd:∀a∈S,∀r',r'∈qU a.1↔∃r∈db a.1,r'=r.map ρ
variable{us vals:List α}{ρ:α->α}
def Turn.to(T:Turn un db qU S us vals ρ){g:α->α}(hg:hU un db S g):∃g',hU un qU (mapA ρ S) g'/\∀t,(un t=true->t∈us)->g' (ρ t)=ρ (g t):=by
 let g':α->α:=λt'=>if un t'=true then((us.find? λu=>decide (ρ u=t')).map λu=>ρ (g u)).getD t' else t'
 have key:∀t,(un t=true->t∈us)->g' (ρ t)=ρ (g t):=λt ht=>by
  show(if un (ρ t)=true then _ else _)=_;cases c:un t with
  |false=>rw[aw (by rw[T.vr t c];exact bu),hg.1 t c]
  |true=>
   have hm:=ht c;rw[aG (T.ur t hm)];cases q:us.find? λu=>decide (ρ u=ρ t)with
   |none=>exact absurd (aT rfl) (kX.mp q t hm)
   |some u=>
    have e:=aW (sH (p:=λu=>decide (ρ u=ρ t)) q);rw[T.ui u (eY q) t hm e];rfl
 refine{g',{λt ht=>aw (by rw[ht];exact bu),λb hb=>?_},key};obtain⟨a,ha,rfl⟩:=ar.mp hb;refine(T.dd a ha _).mpr {_,hg.2 a ha,?_};rw[aV,aV];exact aU λt ht=>key t λc=>(T.hu t).mpr ⟨c,a,ha,ht⟩
theorem Turn.inj(T:Turn un db qU S us vals ρ):∀{l m:List α},(∀x∈l,un x=false)->(∀x∈m,un x=false)->l.map ρ=m.map ρ->l=m
 |[],[],_,_,_=>rfl
 |[],_::_,_,_,e=>by cases e
 |_::_,[],_,_,e=>by cases e
 |x::l,y::m,h1,h2,e=>by injection e with e1 e2;rw[T.vi x y (h1 x aA) (h2 y aA) e1,T.inj (λz h=>h1 z (aB _ h)) (λz h=>h2 z (aB _ h)) e2]
def Turn.back(T:Turn un db qU S us vals ρ){g':α->α}(hg:hU un qU (mapA ρ S) g'):∃g,hU un db S g/\∀t,(un t=true->t∈us)->g' (ρ t)=ρ (g t):=by
 let g:α->α:=λt=>if un t=true then(vals.find? λx=>decide (ρ x=g' (ρ t))).getD t else t
 have at_:∀t∈us,∃x∈vals,g' (ρ t)=ρ x:=λt ht=>by obtain⟨_,a,ha,h⟩:=(T.hu t).mp ht;obtain⟨r,hr,e⟩:=(T.dd a ha _).mp (hg.2 (a.1,a.2.map ρ) (ar.mpr ⟨a,ha,rfl⟩));have:g' (ρ t)∈(a.2.map ρ).map g':=cy (cy h);rw[show(a.2.map ρ).map g'=r.map ρ from e]at this;obtain⟨x,hx,e⟩:=ar.mp this;exact{x,T.hv a ha r hr x hx,e.symm}
 have key:∀t,(un t=true->t∈us)->g' (ρ t)=ρ (g t)/\un (g t)=false:=λt ht=>by
  show _=ρ (if un t=true then _ else _)/\un (if un t=true then _ else _)=false;cases c:un t with
  |false=>
   exact{hg.1 _ (T.vr t c),c}
  |true=>
   obtain⟨x,hx,e⟩:=at_ t (ht c);cases q:vals.find? λx=>decide (ρ x=g' (ρ t))with
   |none=>exact absurd (aT e.symm) (kX.mp q x hx)
   |some y=>exact{(aW (sH (p:=λx=>decide (ρ x=g' (ρ t))) q)).symm,T.vu y (eY q)}
 refine{g,{λt ht=>aw (ht▸bu),λa ha=>?_},λt ht=>(key t ht).1};obtain⟨r,hr,e⟩:=(T.dd a ha _).mp (hg.2 (a.1,a.2.map ρ) (ar.mpr ⟨a,ha,rfl⟩));have e2:(a.2.map g).map ρ=r.map ρ:=by rw[<-e,aV,aV];exact aU λt ht=>(key t λc=>(T.hu t).mpr ⟨c,a,ha,ht⟩).1.symm
 have:a.2.map g=r:=T.inj (λx hx=>by obtain⟨t,ht,rfl⟩:=ar.mp hx;exact(key t λc=>(T.hu t).mpr ⟨c,a,ha,ht⟩).2) (λx hx=>T.vu _ (T.hv a ha r hr x hx)) e2
 rw[this];exact hr
def Turn.val(T:Turn un db qU S us vals ρ){g:α->α}(hg:hU un db S g){t:α}(ht:un t=true->t∈us):un (g t)=false:=by
 cases c:un t with
 |false=>rw[hg.1 t c];exact c
 |true=>
  obtain⟨_,a,ha,h⟩:=(T.hu t).mp (ht c);exact T.vu _ (T.hv a ha _ (hg.2 a ha) _ (cy h))
theorem Turn.rows(T:Turn un db qU S us vals ρ){hz:List α}(hh:∀t∈hz,un t=true->t∈us){rows:List (Rw α)}(h:∀row,row∈rows↔∃g,hU un db S g/\row=hz.map g)(aa4:Rw α):aa4∈rows.map (λr=>r.map ρ)↔∃g,hU un qU (mapA ρ S) g/\aa4=(hz.map ρ).map g:=by
 rw[ar];constructor
 ·rintro⟨r,hr,rfl⟩;obtain⟨g,hg,rfl⟩:=(h r).mp hr;obtain⟨g',uK,k⟩:=T.to hg;refine{g',uK,?_};rw[aV,aV];exact aU λt ht=>(k t (hh t ht)).symm
 ·rintro⟨g',uK,rfl⟩;obtain⟨g,hg,k⟩:=T.back uK;refine{_,(h _).mpr ⟨g,hg,rfl⟩,?_};rw[aV,aV];exact aU λt ht=>(k t (hh t ht)).symm
def Turn.nodup(T:Turn un db qU S us vals ρ){hz:List α}(hh:∀t∈hz,un t=true->t∈us){rows:List (Rw α)}(nd:rows.Nodup)(h:∀row∈rows,∃g,hU un db S g/\row=hz.map g):(rows.map λr=>r.map ρ).Nodup:=by
 have v:∀r∈rows,∀x∈r,un x=false:=λr hr x hx=>by obtain⟨g,hg,rfl⟩:=h r hr;obtain⟨t,ht,rfl⟩:=ar.mp hx;exact T.val hg (hh t ht)
 exact cH.mpr (d9 (λ{a b} ha hb ne e=>ne (T.inj (v a ha) (v b hb) e)) nd)
def Turn.count(T:Turn un db qU S us vals ρ){kQ Jj hz:List α}(nd:us.Nodup)(Xz:kQ.Nodup)(qO:∀t,t∈kQ↔un t=true/\∃a∈mapA ρ S,t∈a.2)(nv:vals.Nodup)(nv':Jj.Nodup)(B9:∀a∈mapA ρ S,∀r∈qU a.1,∀x∈r,x∈Jj)(hh:∀t∈hz,un t=true->t∈us){row:Rw α}(hr:∃g,hU un db S g/\row=hz.map g):
  (eI (mh un qU (mapA ρ S) kQ Jj kQ.length) λv=>ind (image kQ v (hz.map ρ)=row.map ρ))=eI (mh un db S us vals us.length) λv=>ind (image us v hz=row):=by
 have huR:∀t,t∈us.map ρ↔un t=true/\∃a∈mapA ρ S,t∈a.2:=λt=>by
  constructor
  ·intro h;obtain⟨u,hm,rfl⟩:=ar.mp h;obtain⟨_,a,ha,h⟩:=(T.hu u).mp hm;exact{T.ur u hm,_,ar.mpr ⟨a,ha,rfl⟩,cy h}
  ·rintro⟨c,b,hb,h⟩;obtain⟨a,ha,rfl⟩:=ar.mp hb;obtain⟨u,hm,rfl⟩:=ar.mp h;refine cy ((T.hu u).mpr {?_,a,ha,hm});cases e:un u with
   |true=>rfl
   |false=>rw[T.vr u e]at c;cases c
 have ndR:(us.map ρ).Nodup:=cH.mpr (d9 (λ{a b} ha hb ne e=>ne (T.ui a ha b hb e)) nd);have hhR:∀t∈hz.map ρ,un t=true->t∈us.map ρ:=λt ht c=>by
  obtain⟨u,hm,rfl⟩:=ar.mp ht;refine cy (hh u hm ?_);cases e:un u with
  |true=>rfl
  |false=>rw[T.vr u e]at c;cases c
 rw[zR (λ_=>o6) (λ_ _ _=>o6) qO huR Xz ndR nv' nv' B9 B9 (λt ht c=>(qO t).mpr ((huR t).mp (hhR t ht c)))];have mw:=xF T.hu nd T.hv;have mR:=xF huR ndR B9;have W3:∀v∈mh un db S us vals us.length,∀x∈v,un x=false:=λv hv x hx=>by obtain⟨g,hg,rfl⟩:=(mw v).mp hv;obtain⟨t,ht,rfl⟩:=ar.mp hx;exact T.val hg λ_=>ht
 have pm:((mh un db S us vals us.length).map λv=>v.map ρ).Perm (mh un qU (mapA ρ S) (us.map ρ) Jj (us.map ρ).length):=by
  refine(jR (cH.mpr (d9 (λ{u v} hu hv ne z=>ne (T.inj (W3 u hu) (W3 v hv) z)) (rg nv _))) (rg nv' _)).mpr λw=>?_;rw[mR w,ar];constructor
  ·rintro⟨v,hv,rfl⟩;obtain⟨g,hg,rfl⟩:=(mw v).mp hv;obtain⟨g',uK,k⟩:=T.to hg;refine{g',uK,?_};rw[aV,aV];exact aU λt ht=>(k t λ_=>ht).symm
  ·rintro⟨g',uK,rfl⟩;obtain⟨g,hg,k⟩:=T.back uK;refine{_,(mw _).mpr ⟨g,hg,rfl⟩,?_};rw[aV,aV];exact aU λt ht=>(k t λ_=>ht).symm
 rw[<-HD pm,zU];refine hG λv hv=>?_;obtain⟨g,hg,rfl⟩:=(mw v).mp hv;obtain⟨g',uK,k⟩:=T.to hg;obtain⟨g0,hg0,rfl⟩:=hr;have e1:(us.map g).map ρ=(us.map ρ).map g':=by rw[aV,aV];exact aU λt ht=>(k t λ_=>ht).symm
 have im:∀{us hz:List α}{g:α->α},(∀t,un t=false->g t=t)->(∀t∈hz,un t=true->t∈us)->image us (us.map g) hz=hz.map g:=λh h'=>iT λt ht c=>by
  cases e:un t with
  |false=>exact h t e
  |true=>exact absurd (h' t ht e) c
 rw[e1,im uK.1 hhR,im hg.1 hh];have e2:(hz.map ρ).map g'=(hz.map g).map ρ:=by rw[aV,aV];exact aU λt ht=>k t (hh t ht)
 rw[e2];have vz:∀{g:α->α},hU un db S g->∀x∈hz.map g,un x=false:=λhg x hx=>by obtain⟨t,ht,rfl⟩:=ar.mp hx;exact T.val hg (hh t ht)
 by_cases c:hz.map g=hz.map g0
 ·rw[c];show(if _ then(1:Int)else 0)=if _ then 1 else 0;rw[aG rfl,aG rfl]
 ·show(if _ then(1:Int)else 0)=if _ then 1 else 0;rw[aw λz=>c (T.inj (vz hg) (vz hg0) z),aw c]
end
end AskP
namespace mS
open PySem PySem.Spec PyProof.Rows L2 ya
seal L2.PE L2.PT L2.PW L2.PA L2.PS L2.lV L2.PI L2.PO L2.Ep L2.PG L2.Er
section
variable{K:Frag}
def Ext.of(s:bI H H'):Ext f H H':=λb o _ h=>s b o h
def RY(h:q none H):Nm Z H q:=h
def xW(h:dQ K f H)(s:bI H H'):dQ K f H':=by
 obtain⟨a,ns,x,y,z,hf,h1,h2,h3,hS,hn⟩:=h;refine{a,ns,x,y,z,s _ _ hf,h1,h2,h3,?_,hn};rcases hS with⟨ob,h⟩|h
 ·exact .inl {ob,s _ _ h}
 ·exact .inr h
theorem AW.r(h:AW f H d es):jj K H d es:={h.2.1,h.2.2.1,λe he=>by obtain⟨_,_,h3,h4,h5,h6⟩:=h.2.2.2.2 e he;exact{h3,U8 h4,pM h6,λr hr=>{(h5 r hr).1,(h5 r hr).2.1,λz hz=>bH _ ((h5 r hr).2.2 z hz)}}}
def GG(ha:a.Nodup)(hb:b.Nodup)(h:∀r,r∈a↔r∈b):cA a=cA b:=by rw[Ew ha h,Ew hb λr=>o6]
def sW.ext{f:Addr}{H H':Hp}{v:V}{hz:Aaf}{ats:T6}(h:sW H v hz ats)(t:hX H H'):sW H' v hz ats:=by obtain⟨q,hd,a,vs,e,h1,h2,h3,h4⟩:=h;exact{q,hd,a,vs,e,t _ _ h1,t _ _ h2,t _ _ h3,h4.keep t}
def TX(xs:Aam)(j:Nat):Hi xs none (some (j:Int))=xs.take j:=by
 unfold Hi;rw[HT.U3,HT.GJ,List.drop_zero,Nat.sub_zero];by_cases h:j<=xs.length
 ·rw[jI h]
 ·rw[Nat.min_eq_right ∅,bg,cX ∅]
def aaY{a:Addr}{xs:Aam}{j:Nat}{H:Hp}{Q:VK}(h:H a=some (.tup xs))(k:∀p H',bI H H'->H' p=some (.tup (xs.take j))->Q (.ref p) H'):Pc K (-64) none (some (j:Int)) H Q:=by
 refine{a,xs,rfl,bC.of h,λc=>k a H (bI.refl H) ?_,λ_ p hp=>?_}
 ·rw[HT.GJ]at c;rw[cX ∅];exact h
 ·rw[TX];exact k p _ (aK hp _) au
def pairD(x:Aaf×Int):PyData:=.tuple [kK x.1,.int x.2]
def rM(l:Cm):PyData:=.list (l.map pairD)
def TK{N:Aaf->Int}{H:Hp}{p:Addr}{zs:Aam}{rows:T7}(h:aY K H p zs)(hp:Paired (yA K N H) zs rows):Dt K H (rM (rows.map λr=>(r,N r))) (.ref p):=by
 unfold rM;refine{p,zs,rfl,h,?_};clear h
 induction hp with
 |nil=>rw[jv,jv,qm]
 |cons q _ ih=>
  obtain⟨t,g,rfl,h1,h3⟩:=q;refine{_,_,rfl,?_,ih};unfold pairD;refine{t,_,rfl,h1,?_};refine{_,_,rfl,LZ ⟨g,rfl,h3⟩,?_};refine{_,_,rfl,by rw[Dt],?_};rw[qm]
theorem Io:∀{l:Cm},(∀x∈l,qW x.1)->PyData.canLayAll0 (l.map pairD)=true/\PyData.depthAll (l.map pairD)<=2
 |[],_=>{rfl,by simp[PyData.depthAll]}
 |z::r,h=>by obtain⟨h2,h3⟩:=Io λy hy=>h y (aB _ hy);refine{by simp[PyData.canLayAll0,PyData.canLay0,pairD,kK,(Aw z.1 (h z aA)),h2],?_};simp[PyData.depthAll,PyData.depth,pairD,kK,vT];lia
def Ka{l:Cm}(h:∀x∈l,qW x.1):SeqAt.shaped (rM l)=true/\PyData.eqv (rM l) (rM l)=true:=by obtain⟨h1,h2⟩:=Io h;refine{?_,SeqAt.eqv_refl _ (by simp[rM,PyData.canLay0,h1])};simp[SeqAt.shaped,rM,PyData.canLay0,PyData.depth,h1];lia
def NJ{N:Aaf->Int}{H:Hp}{zs:Aam}{rows:T7}(h:Paired (yb K H) zs (rows.map λr=>(r,N r))):Paired (yA K N H) zs rows:=by
 induction rows generalizing zs with
 |nil=>cases h;exact .nil
 |cons r rows ih=>
  cases h with
  |cons q h=>
   obtain⟨p,g,ys,e,h1,_,h3⟩:=q;exact .cons {p,g,e,bC.of h1,h3} (ih h)
def xC{N:Aaf->Int}{H H':Hp}{zs:Aam}{rows:T7}(h:Paired (yA K N H) zs rows)(s:bI H H'):Paired (yA K N H') zs rows:=Paired.u4 h λ_ _ ⟨p,g,e,h1,h2⟩=>{p,g,e,dW h1 s,dW h2 s}
def OJ{a b:Addr}{xs ys:Aam}{H:Hp}{Q:VK}(h:H a=some (.tup xs))(h':H b=some (.tup ys))(l:xs.length+ys.length<=sizeLine)(k:∀p H',bI H H'->H' p=some (.tup (xs++ys))->Q (.ref p) H'):Pd K (-64) (.ref b) H Q:=by
 refine{a,b,xs,ys,rfl,rfl,bC.of h,bC.of h',l,λe=>k b H (bI.refl H) ?_,λ_ e=>k a H (bI.refl H) ?_,λ_ _ p hp=>k p _ (aK hp _) au}
 ·rw[e,kU];exact h'
 ·rw[e,c8];exact h
def J3:AskP.hU isUnk (eJ fs) ats g↔AskP.hU isUnk (dbT fs) ats g:=
 {λh=>{h.1,λa ha=>(jt _ _).mpr (h.2 a ha)},λh=>{h.1,λa ha=>(jt _ _).mp (h.2 a ha)}}
def gD(g:List (Str×Str)):List (Key×V):=g.map λp=>(Sum.inr p.1,V.str p.2)
def zc(g:List (Str×Str))(z:Str):Option Str:=(g.find? λp=>decide (p.1=z)).map (·.2)
def eK(g:List (Str×Str))(z:Str):Str:=(zc g z).getD z
def Pg(g:List (Str×Str))(u t:Str):List (Str×Str):=if(g.any λp=>decide (p.1=u))=true then g.map (λp=>if p.1=u then(p.1,t)else p)else g++[(u,t)]
theorem Nb(z:Str):∀g:List (Str×Str),fG (gD g) (Sum.inr z:Key)=(zc g z).map V.str
 |[]=>rfl
 |p::r=>by
  unfold fG zc at*;show Option.map _ (List.find? _ ((Sum.inr p.1,V.str p.2)::gD r))=_;rw[eP,eP];by_cases h:p.1=z
  ·rw[aT h,aT (show(Sum.inr p.1:Key)=Sum.inr z from bV _ h)];rfl
  ·rw[bB h,bB (show ¬(Sum.inr p.1:Key)=Sum.inr z fromλe=>h (by injection e))];exact(Nb z r)
def acF(u:Str)(g:List (Str×Str)):((gD g).any λkv=>decide (kv.1=(Sum.inr u:Key)))=g.any λp=>decide (p.1=u):=by
 unfold gD;rw[CM];congr 1;funext p;show decide ((Sum.inr p.1:Key)=Sum.inr u)=_;by_cases h:p.1=u
 ·rw[aT h,aT (show(Sum.inr p.1:Key)=Sum.inr u from bV _ h)]
 ·rw[bB h,bB (show ¬(Sum.inr p.1:Key)=Sum.inr u fromλe=>h (by injection e))]
def NI(g:List (Str×Str))(u t:Str):putK (gD g) (Sum.inr u:Key) (V.str t)=gD (Pg g u t):=by
 unfold putK Pg;rw[acF];by_cases c:(g.any λp=>decide (p.1=u))=true
 ·rw[aG c,aG c];unfold gD;rw[aV,aV];refine aU λp _=>?_;show(if(Sum.inr p.1:Key)=Sum.inr u then((Sum.inr p.1:Key),V.str t)else(Sum.inr p.1,V.str p.2))=(Sum.inr (if p.1=u then(p.1,t)else p).1,V.str (if p.1=u then(p.1,t)else p).2);by_cases h:p.1=u
  ·rw[aG (bV _ h),aG h]
  ·rw[aw (λe=>h (by injection e)),aw h]
 ·rw[aw c,aw c];unfold gD;rw[aD];rfl
def pG(g:List (Str×Str))(ats:T6):T6:=ats.map λa=>(a.1,a.2.map (eK g))
variable{P:Program}{w:World}{mg:Aab}{base:Heap}
inductive Xe(K:Frag)(vs:Aam)(H:Hp)(Q:VK)(_x3:XK):Prop
 |mk (t d:Addr) (ts:Aaf) (g:List (Str×Str)) (_:vs=[.ref t,.ref d]) (_:bC K H t (ts.map V.str)) (_:H d=some (.dK (gD g))) (_:ts.length<=100) (_:∀(r:Addr)(H':Hp),bI H H'->H' r=some (.tup ((ts.map (eK g)).map V.str))->Q (.ref r) H')
inductive GF(K:Frag)(vs:Aam)(H:Hp)(Q:VK)(_x3:XK):Prop
 |mk (v:V) (d:Addr) (hz:Aaf) (ats:T6) (g:List (Str×Str)) (_:vs=[v,.ref d]) (_:sW H v hz ats) (_:H d=some (.dK (gD g))) (_:hz.length<=100) (_:ats.length<=100) (_:(∀a∈ats,a.2.length<=100)) (_:∀(r:Addr)(H':Hp),bI H H'->sW H' (.ref r) (hz.map (eK g)) (pG g ats)->Q (.ref r) H')
def U1:cK ["_law_terms","_law_put_here"] ["_law_terms","_law_put_here"] (defScope GH):=jV (-3)
def abk{f:Addr}{fd:FuncData}(F:fJ K "_law_put" "_law_put" GH f fd)(T:Txt K mg):dy P w K mg base f9 1 f fd ["_law_terms","_law_put_here"] (Xe K):=by
 refine F.ok U1 (λ_ _ _ _ h=>by cases h;subst_vars;rfl) (-4);obtain⟨t,d,ts,g,rfl,ht,hd,hl,k⟩:=h;refine{_,(bx (cW (dR d6 rfl T.jz (-3) (cc (iQ rfl (df (fs:=["_law_put_here"]) (fr:=[1])) (uB (pv 0)) (λ_ _ _ _=>(Am (rW hr) (pv 1) (pv 0) (pv 0) adi))))))),?_};refine{_,rfl,t,rfl,⟨_,ht⟩,AH (xs:=ts.map V.str) (λi ys H2=>H2=H/\i<=ts.length/\ys=((ts.take i).map (eK g)).map V.str) (by rw[af];exact bO ∅) {rfl,aQ _,rfl} ?_ ?_ ?_}
 ·rintro i ys H2 hi ⟨rfl,_,rfl⟩;refine{ht,?_};rw[af,af,aR];lia
 ·rintro i x ys H2 N hc ⟨rfl,hi,rfl⟩ hN;obtain⟨z,hz,rfl⟩:=kA hc;have cE:=(aq.mp hz).1;refine{_,rfl,d,rfl,.inl {_,.inl hd},_,rfl,_,rfl,_,pR.k (k:=Sum.inr z) hd,?_};have e:(fG (gD g) (Sum.inr z:Key)).getD (.str z)=.str (eK g z):=by rw[Nb];unfold eK;cases zc g z<;>rfl
  rw[e];refine hN _ _ {rfl,cE,?_};rw[a9,hz,aD,aD];rfl
 ·rintro ys H2 ⟨rfl,_,rfl⟩ l mO;rw[af,bg];exact{l,_,rfl,.inl {aY.of au,λp hp=>k p _ ((aK mO _).trans (aK hp _)) au}}
structure Dpu(P:Program)(w:World)(K:Frag)(mg:Aab)(base:Heap):Prop where
 Jr:dz P w K mg base 1 "_law_put" ["_law_terms","_law_put_here"] (Xe K)
def DJ:cK ["_law_question_here","_law_put_here","_law_atoms"] ["_law_question_here","_law_put_here"] (defScope Ad):=jV (-3)
def RQ{f:Addr}{fd:FuncData}(F:fJ K "_law_put_in" "_law_put_in" Ad f fd)(T:Txt K mg)(D:Dpu P w K mg base):dy P w K mg base f9 2 f fd ["_law_question_here","_law_put_here"] (GF K):=by
 refine F.ok DJ (λ_ _ _ _ h=>by cases h;subst_vars;rfl) (-4);obtain⟨v,d,hz,ats,g,rfl,⟨q,h0,aa,jo,rfl,hq,hh0,Be,qy⟩,hd,h4,l8,good,k⟩:=h;have la:=bh qy;refine{_,(aO (Mx (j:=2) DJ.nd rfl rfl rfl (AI (more:=["_law_terms"]) (fs:=["_law_put_here"]) (fr:=[1])) (uB (cM il (pv 0) aX (-12))) (-89) (λ_ _ _ _=>(iH (dA (pv 0) (cl D.Jr hr (dA (pv 1) (pv 2))))))) (bx (cW (iH (dA (cl D.Jr hr (dA (cM il (pv 0) aX (-12)) (pv 1))) (dR d6 rfl T.jz (-3) (cc (pv 2)))))))),?_}
 refine{_,rfl,_,_,_,_,rfl,rfl,bC.of hq,rfl,aa,rfl,{jo,bC.of Be},Ua (xs:=jo) (λi ys H2=>bI H H2/\i<=ats.length/\gP H2 ys (pG g (ats.take i))) (bO ∅) {bI.refl _,aQ _,.nil} ?_ ?_ ?_}
 ·rintro i ys H2 hi ⟨Nx,_,hA⟩;refine{bC.of (Nx _ _ Be),?_};rw[(bh hA)];unfold pG;rw[af,aR];lia
 ·rintro i x ys H2 N hc ⟨sm,hi,hA⟩ hN;obtain⟨a,wI,p,tt,rfl,hp,ny⟩:=Paired.at qy hc;have cE:=(aq.mp wI).1;refine{p,_,_,rfl,bC.of (sm _ _ hp),C3 ?_};refine{_,rfl,_,rfl,_,rfl,tt,d,a.2,g,rfl,bC.of (sm _ _ ny),sm _ _ hd,good a (az wI),λr3 H3 wg hr3=>?_};refine{(-17),λp4 hp4=>?_};have J4:bI H3 (upd H3 p4 (.tup [.str a.1,.ref r3])):=aK hp4 _;refine hN _ _ {sm.trans (wg.trans J4),cE,?_};have e:pG g (ats.take (i+1))=pG g (ats.take i)++[(a.1,a.2.map (eK g))]:=by unfold pG;rw[a9,wI,aD];rfl
  rw[e];exact Paired.uc (gP.keep (hX.of (wg.trans J4)) hA) {p4,r3,rfl,au,J4 _ _ hr3}
 ·rintro ys H2 ⟨Nx,_,hA⟩ l mO;rw[la,bg]at hA;have smA:bI H2 (upd H2 l (-39)):=aK mO _;have hlA:upd H2 l (-39) l=some (-39):=au;have s3:=Nx.trans smA;refine{_,rfl,_,_,_,_,rfl,rfl,bC.of (s3 _ _ hq),rfl,_,rfl,h0,d,hz,g,rfl,bC.of (s3 _ _ hh0),s3 _ _ hd,h4,λr1 H4 s4 xP=>?_};refine{_,rfl,l,_,rfl,.inl {aY.of (s4 _ _ hlA),λp hp=>{(-17),λp5 hp5=>?_}}};have smC:=aK hp5 (.tup [.ref r1,.ref p]);have s45:=(aK hp (.tup ys)).trans smC;exact k p5 _ (s3.trans (s4.trans s45)) {p5,r1,p,ys,rfl,au,s45 _ _ xP,smC _ _ au,gP.keep (hX.of (smA.trans (s4.trans s45))) hA}
end
end mS
namespace Tb
open PySem PySem.SetTable PyProof.Rows L2
section
variable{prog:Program}{w:World}{A:Around}{E:Aac}{s:Shared}
def CA.put{h:Heap}{a:Addr}{o:Obj}{es iZ:Array (Int×Value)}{ep:Nat}{t t':SetTable}{ys:List (Str×Tok)}(ob:h.get? a=some o)(ex:o.ExactSet)(hd:o.data=.set es ep t)(en:iZ.toList=ys.map (EY prog w))(gC:ys.length<=1000)(fits:t'.fits iZ.size=true)(pl:t'.plain=false)(led:t'.led=lN w):CA prog w (h.update a (Obj.putSet iZ t')) a {o with data:=.set iZ (ep+1) t'} iZ (ep+1) t' ys:=by have:=cD (Obj.putSet iZ t') ob (by rw[uA _ t' hd];rfl);rw[uA _ t' hd]at this;exact{this,ex,rfl,en,gC,fits,.inl pl,led}
def M7{b:Bool}{Q:Unit->Shared->Prop}{s:Shared}(q:Q () s):wpAny (-5) A (match b with|true=>rule "set.scan.the-table-gave-way"|false=>pure ()) Q E s:=by
 cases b
 ·exact ag q
 ·exact fE q
def afF{a:Addr}{o:Obj}{es:Array (Int×Value)}{ep:Nat}{t:SetTable}{xs:List (Str×Tok)}{z:Str}{tk:Tok}{Q:Bool->Shared->Prop}(S:CA prog w s.heap a o es ep t xs)(hx:xs.length<1000)
  (h1:z∈xs.map (·.1)->Q false s) (h2:z∉xs.map (·.1)->∀h' o' iZ wN t' ys,Heap.SameBut a s.heap h'->CA prog w h' a o' iZ wN t' ys->ys.Perm ((z,tk)::xs)->Q true {s with heap:=h'}):
  wpAny (-5) A (setAddHashed a (.str z tk) ((-85).hash z)) Q E s:=by
 have Ot:=acx S.en;have sz:es.size=xs.length:=by rw[<-aM,S.en,af]
 have ism:∀e∈xs,(-85).is z (EY prog w e).2=true↔z=e.1:=λe _=>{λq=>(-85).inj _ _ _ q (mx _ _ _ _),λq=>by rw[q];exact mx _ _ _ _};refine bS (ae (pB S.ob S.data S.fits ?_));dsimp only;rw[byScan_of rfl (by unfold scanBound;lia) Ot,aG rfl];refine ae (ae (fE (ae (wpAny_setScan_of (mx _ _ _ _) S.ob S.data S.fits Ot ?_))));cases hr:es.toList.findIdx? (λe=>(-85).is z e.2)with
 |some j=>
  obtain⟨hj,pj,_⟩:=List.findIdx?_eq_some_iff_getElem.mp hr;refine ag (ag (h1 ?_));have:es.toList[j]∈xs.map (EY prog w):=S.en▸gJ hj;obtain⟨e,he,q⟩:=ar.mp this;rw[<-q]at pj;exact ar.mpr {e,he,((ism e he).mp pj).symm}
 |none=>
  have no:z∉xs.map (·.1):=λq=>by obtain⟨e,he,q⟩:=ar.mp q;have:=List.findIdx?_eq_none_iff.mp hr (EY prog w e) (by rw[S.en];exact ar.mpr ⟨e,he,rfl⟩);rw[(ism e he).mpr q.symm]at this;cases this
  have lp:=layNew_perm t es ((-85).hash z) (.str z tk);have lf:=layNew_fits t es ((-85).hash z) (.str z tk);have ll:=ZQ t es ((-85).hash z) (.str z tk);generalize layNew t es ((-85).hash z) (.str z tk)=L at lp lf ll⊢;obtain⟨sS,t1,wd,gv⟩:=L;have e1:(es.push ((-85).hash z,.str z tk)).toList=(xs++[(z,tk)]).map (EY prog w):=by rw[j9,S.en,aD];rfl
  rw[e1]at lp;obtain⟨ys,py,ey⟩:=rL lp rfl;have ly:ys.length=xs.length+1:=by rw[py.length_eq,aC];rfl
  have pz:=py.trans (List.perm_append_singleton _ _);have s1:sS.size=ys.length:=by rw[<-aM,ey,af]
  refine ae (M7 ?_);have fin:∀t2:SetTable,t2.fits sS.size=true->t2.plain=false->t2.led=lN w->wpAny (-5) A (do
    storeSet a sS t2
    if(!wd&&t2.tooFull)=true then do
      (match(relayAll t2 sS (-99)).2.2 with|true=>rule "set.scan.the-table-gave-way"|false=>pure ())
      storeSet a (relayAll t2 sS (-99)).1 (relayAll t2 sS (-99)).2.1
      pure (some true)
     else pure (some true)) (λr s'=>wpAny (-5) A (match r with|some added=>pure added|none=>setAddHashedIn a (.str z tk) ((-85).hash z) 99999) Q E s') E s:=λt2 f2 p2 l2=>by
   have S2:=CA.put S.ob S.ex S.data ey ∅ f2 p2 l2;have sb:=bN s.heap a (Obj.putSet sS t2);refine ae (pA S.ob S.data ?_ (by rw[s1,bz];lia));split
   ·have rp:=relayAll_perm t2 sS (-99);have rf:=relayAll_fits t2 sS (-99);obtain⟨rl,rq⟩:=Rq t2 sS (-99) p2;generalize relayAll t2 sS (-99)=L at rp rf rl rq⊢;obtain⟨pf,t3,g2⟩:=L;rw[ey]at rp;obtain⟨vs,pv,ev⟩:=rL rp rfl;exact ae (M7 (ae (pA S2.ob rfl (ag (ag (h2 no _ _ _ _ _ vs (sb.trans (bN _ a _)) (CA.put S2.ob S2.ex rfl ev (by rw[pv.length_eq];lia) rf rq (rl.trans l2)) (pv.trans pz)))) (by rw[<-aM,ev,af,pv.length_eq,bz];lia))))
   ·exact ag (ag (h2 no _ _ _ _ _ ys sb S2 pz))
  by_cases c:t1.plain=true
  ·rw[aG c];refine ae ?_;exact ag (fin {t1 with plain:=false} lf rfl (ll.trans S.led))
  ·rw[aw c];exact ae (ag (fin t1 lf (gX.mpr c) (ll.trans S.led)))
end
end Tb
namespace L2
open PySem PySem.Spec PyProof.Rows ya
def Df(P:Program)(w:World)(a:Addr)(ks:Aaf):Heap->Prop:=λh=>∃o es ep t xs,Tb.CA P w h a o es ep t xs/\xs.map (·.1)=ks
def U0{P:Program}{w:World}{H:Hp}{h:Heap}{a:Addr}{ks:Aaf}(x:Df P w a ks h):dE P w H h a (.ext (Df P w a ks)):=
 {x,let⟨o,_,_,_,_,S,_⟩:=x;{o,S.ob},λ_ _ ⟨o,es,ep,t,xs,S,e⟩ k=>{o,es,ep,t,xs,{k _ S.ob,S.ex,S.data,S.en,S.gC,S.fits,S.pl,S.led},e}}
section
variable{X:Cx}
def aaV{zs:Aaf}{us:Aae}(h:StrsAre us zs):∀{i:Nat}{v:Value},us[i]?=some v->∃z t,zs[i]?=some z/\v=.str z t:=by
 induction h with
 |nil=>intro i v h;cases h
 |cons z t _ ih=>
  intro i v h;cases i with
  |zero=>cases h;exact⟨z,t,rfl,rfl⟩
  |succ i=>exact ih h
def QC(hA:X.A.handled=none):iN X (.type "set") (λxs H Q=>∃(p:Addr)(zs:Aaf),xs=[.ref p]/\aY X.K H p (-70)/\zs.length<=1000/\∀a ks,H a=none->ks.Nodup->(∀z,z∈ks↔z∈zs)->Q (-64) (upd H a (.ext (Df X.prog X.w a ks)))):=by
 intro pins s Z H xs us Q I r h;obtain⟨p,zs,rfl,hq,hz,q⟩:=h;obtain⟨u,rfl,rx⟩:=jy r;cases rx;obtain⟨aS,r',pl,_⟩:=I.list hq;have ln:aS.length=zs.length:=by have:=r'.length;rw[af]at this;exact this.symm
 refine Tb.IU (λi h=>∃(o:Obj)(es:Array (Int×Value))(ep:Nat)(t:SetTable)(xs:List (Str×Tok)),Tb.CA X.prog X.w h s.heap.objs.size o es ep t xs/\(xs.map λx:Str×Tok=>x.1).Nodup/\(∀z,z∈(xs.map λx:Str×Tok=>x.1)↔z∈zs.take i)/\xs.length<=i) hA pl.isList (λi h h' ⟨o,es,ep,t,xs,S,r⟩ q=>{o,es,ep,t,xs,{q _ _ (aI (c7 _)) S.ob,S.ex,S.data,S.en,S.gC,S.fits,S.pl,S.led},r}) (λi v s' Q E hv ⟨o,es,ep,t,xs,S,nd,mm,le⟩ k=>?_) (λo=>{_,_,_,_,[],{ah _ (aE _ rfl),⟨rfl,rfl,rfl⟩,rfl,rfl,aQ _,rfl,.inr rfl,rfl},.nil,λz=>by rw[zI];exact o6,ak _}) λh' tk ⟨o,es,ep,t,xs,S,nd,mm,_⟩ kp=>{.ref s.heap.objs.size,_,I.laid kp (ak _) (U0 ⟨o,es,ep,t,xs,S,rfl⟩),rfl,q _ _ (-72) nd λz=>?_}
 ·obtain⟨z,t',jn,rfl⟩:=aaV (JQ r') (by simpa using hv);have hi:=(aq.mp jn).1;have et:zs.take (i+1)=zs.take i++[z]:=by rw[a9,jn];rfl
  refine bS (ae ((strKind X.prog X.w).pyHash (mx _ _ _ _) ?_));refine Tb.afF S ∅ (λm=>?_) λm h' o' iZ wN t2 ys sb S2 py=>?_
  ·refine k _ s'.heap _ (dZ _) (pQ _ _) {o,es,ep,t,xs,S,nd,λy=>?_,pM le};rw[et,aP,<-mm,ax];exact{.inl,λc=>c.elim id λe=>e▸m}
  ·have pm:=py.map (·.1);refine k _ h' _ (dZ _) sb {o',iZ,wN,t2,ys,S2,pm.nodup_iff.mpr (cV.mpr ⟨m,nd⟩),λy=>?_,by rw[py.length_eq,bA];lia};rw[et,aP,<-mm,ax,pm.mem_iff,bw,aH];exact Or.comm
 ·rw[mm,aN,ln,bg]
def Mr{pins:Aaa}{Z:St}{H:Hp}{s1:Shared}{us:Aae}{ks zs:Aaf}{Q:VK}(I:Inv X pins Z H s1)(hS:StrsAre us ks)(pz:ks.Perm zs)(sf:zs.length<64)(q:∀l,H l=none->Q (.ref l) (upd H l (.lst ((xx zs).map V.str)))){A:Around}{E:Aac}:
  wpAny (-6) A (newList us>>=λl=>holding [l] (call (.builtin "list.sort") [l] [])>>=λ_=>ret l) (λfin s'=>∃v,fin=Fin.done (.ret v)/\EP X pins Z Q v s') E s1:=by
 have afb:us.length<64:=by have:=hS.strs;rw[<-pz.length_eq,<-this,af]at sf;exact sf
 refine ae (qe ?_ (by rw[bz];lia));have Cc:(-59).get? s1.heap.objs.size=some (seqObj "list" us.toArray 0):=aE _ rfl;refine ae (bS (bp yR ⟨_,Cc,rfl⟩ xY (list_sort_treeK strKind_oneLt Cc hS.keysOf (λafS afR rest e=>keyKind_strs (e▸hS)) afb λjs hp hs=>{_,rfl,?_}) (zE _)));obtain⟨ss',h1,h2,h3⟩:=sorted_out_str hS hp hs;have e:=UY (h2.trans pz) h3;subst e;generalize (arrOf js).map (·.2)=out at h1;have ln:((xx zs).map V.str).length<=sizeLine:=by rw[af,(rC zs).length_eq];exact bo (bO ∅)
 obtain⟨n,he⟩:∃n,(sortedHeap (-59) s1.heap.objs.size us out).get? s1.heap.objs.size=some (seqObj "list" out n):=by obtain⟨e1,LA⟩:∃e1,((-59).update s1.heap.objs.size (-43)).get? s1.heap.objs.size=some (seqObj "list" #[] e1):={_,get?_update_seq Cc λ_=>#[]};have ho3:=ah (seqObj "list" #[] 0) (ah (seqObj "tuple" us.toArray 0) LA);exact{_,get?_update_seq ho3 λ_=>out}
 have old:∀b o,s1.heap.get? b=some o->(sortedHeap (-59) s1.heap.objs.size us out).get? b=some o:=λb o e=>by have nb:=aI (aF e);have g1:=ah (seqObj "list" us.toArray 0) e;have g3:=ah (seqObj "list" #[] 0) (ah (seqObj "tuple" us.toArray 0) ((bN (-59) s1.heap.objs.size (-43)).extBut b o nb g1));exact(bN _ s1.heap.objs.size (Obj.mapSeq λ_=>out)).extBut b o nb g3
 exact ag {_,rfl,.ref s1.heap.objs.size,_,I.laid old (ak _) (show dE X.prog X.w _ _ _ (.lst ((xx zs).map V.str))from{ln,out.toList,n,JP h1,he}),rfl,q _ (-72)}
def Ji(hA:X.A.handled=none):iN X (.builtin "sorted") (λxs H Q=>∃(a:Addr)(ks:Aaf),xs=[.ref a]/\H a=some (.ext (Df X.prog X.w a ks))/\ks.length<64/\∀l,H l=none->Q (.ref l) (upd H l (.lst ((xx ks).map V.str)))):=by
 intro pins s Z H xs us Q I r h;obtain⟨a,ks,rfl,ha,sf,q⟩:=h;obtain⟨u,rfl,rx⟩:=jy r;cases rx;obtain⟨⟨o,es,ep,t,xs,S,rfl⟩,_⟩:=(show dE X.prog X.w H s.heap a (.ext (Df X.prog X.w a ks))from I.bj a _ ha);have sz:es.size=xs.length:=by rw[<-aM,S.en,af]
 refine f7 uh rK si (sA _) ?_;refine ae (ag ?_);refine ae (Tb.Ek (by simpa using hA) {{o,S.ob,S.ex,S.data},S.fits,λcf c=>?_} (by have:=S.gC;lia) λh' tk d vs pm kp=>?_)
 ·refine{by rw[S.led,Tb.lN,cf];rfl,λi j ij hj=>?_};have fz:=S.fits;have:=iq (mG.mp fz).1;rcases S.pl with q|q
  ·rw[q,Bool.not_false,jU]at c;have:=nW c;lia
  ·rw[q,fA]at sz;lia
 ·rw[S.en,aV]at pm;obtain⟨ys,py,rfl⟩:=rL pm rfl;refine Mr (I.XG kp) ?_ (py.map _) sf q;clear py pm
  induction ys with
  |nil=>exact .nil
  |cons y ys ih=>exact .cons _ _ ih
end
end L2
namespace mS
open PySem PySem.Spec PyProof.Rows L2 ya
seal L2.PE L2.PT L2.PW L2.PA L2.PS L2.lV L2.PI L2.PO L2.Ep L2.PG L2.Er
section
variable{P:Program}{w:World}{K:Frag}{mg:Aab}{base:Heap}
def AS(h:z∈hV):∃c:Nat,z.cps.toList[0]?=some c/\decide (V.str ⟨#[c]⟩=V.str "?")=isUnk z/\PyData.strOk z=true/\z.length<=9/\(isUnk z=true->z∈g6):=by unfold hV g6 eA at h;simp only[jl,kU,aH,qD,EI]at h;rcases h with rfl|rfl|rfl|rfl|rfl|rfl|rfl|rfl|rfl|rfl|rfl|rfl|rfl|rfl|rfl<;>exact{_,rfl,by decide+kernel}
def yM{z:Str}(h:z∈hV):vW z:=by obtain⟨_,_,_,h1,h2,_⟩:=AS h;exact{h1,aJ h2 (-9)}
def C4(h:z∈AU):PyData.strOk z=true:=by unfold AU qL at h;simp only[aH,qD,EI]at h;rcases h with rfl|rfl|rfl|rfl|rfl|rfl<;>decide+kernel
def Good.A{ats:T6}(g:Good ats):vZ ats:=λa ha=>
 have⟨h1,h2,h3,h4⟩:=g a ha
 {h1,λz hz=>yM (h2 z hz),h3,C4 h4}
def uU.A{hz:Aaf}{ats:T6}(h:uU hz ats):vY hz ats:={h.1,λz hz=>{yM (h.2 z hz).1,(h.2 z hz).2}}
inductive JT(vs:Aam)(H:Hp)(Q:VK)(_x3:XK):Prop
 |mk (v:V) (hz:Aaf) (ats:T6) (_:vs=[v]) (_:sW H v hz ats) (_:Good ats) (_:ats.length<=4) (_:∀(l:Addr)(us:Aaf)(H':Hp),bI H H'->H l=none->H' l=some (.lst (us.map V.str))->us.Nodup->(∀z,z∈us↔isUnk z=true/\z∈cS ats)->us.length<=6->Q (.ref l) H')
def qg:cK ["_law_question_here","_law_found","_law_name","_law_terms"] ["_law_question_here"] (defScope wm):=jV (-3)
def MA{f:Addr}{fd:FuncData}(F:fJ K "_law_unknowns" "_law_unknowns" wm f fd)(T:Txt K mg):dy P w K mg base f9 1 f fd ["_law_question_here"] JT:=by
 refine F.ok qg (λ_ _ _ _ h=>by cases h;subst_vars;rfl) (-4);obtain⟨v,hz,ats,rfl,⟨q,h0,aa,jo,rfl,hq,hh0,Be,qy⟩,good,l4,k⟩:=h;refine{_,(aO (mM (i:=1) qg.nd rfl (Or.inr rfl) (fY iY)) (aO (iG cz rfl (uB (cM il (pv 0) aX (-12))) (nQ rfl (dC (kR 2 qg) (dC (kR 3 qg) ku))) (bx (lL (oS dj oB oy Ig (pv 1) (cc (nU rfl (df (fs:=["_law_found"]) (fr:=[1])) (uB (pv 3)) (λ_ _ _ _=>(PW.pt (Kl (eG Ap (cM abF (pv 0) aX (-12)) dG (gQ _)) (GN (eG (qh) (pv 0) (pv 1) (-36)))))) (λ_ _ _ _=>(pv 0)))))))) (bx (cW (bZ (Ji hr.hd) rfl T.qx (-3) (cc (dR (QC hr.hd) rfl T.Pz (-3) (-88)))))))),?_}
 refine{(-24),λfl Ta=>?_};have s1:=aK Ta (.lst []);refine{_,rfl,_,_,_,_,rfl,rfl,bC.of (s1 _ _ hq),rfl,aa,rfl,{jo,bC.of (s1 _ _ Be)},Ws (λi Z H2=>∃(x2 x3:Aan)(zs:Aaf),Z=[some (.ref q),some (.ref fl),x2,x3]/\bI H H2/\H2 fl=some (.lst (-70))/\(∀z,z∈zs↔isUnk z=true/\z∈cS (ats.take i))/\zs.length<=4*i/\i<=ats.length) {none,none,[],rfl,s1,au,λz=>{λh=>(by cases h),λh=>(by cases h.2)},aQ _,aQ _} (λi Z H2 _ hq=>by(obtain⟨_,_,_,_,sm,_⟩:=hq;exact bC.of (sm _ _ Be))) ?_ ?_}
 ·rintro i x Z H2 D' hx ⟨x2,x3,zs,rfl,s2,II,hm,lz,hi⟩ nx -;obtain⟨a,ha,p,t,rfl,hp,ht⟩:=Paired.at qy hx;have cE:=(aq.mp ha).1;obtain⟨a4,adw,_,_⟩:=good a (az ha);have IA:=s2 _ _ ht;refine{p,_,rfl,bC.of (s2 _ _ hp),rfl,_,_,rfl,_,_,rfl,rfl,?_};refine{_,rfl,.inl {rfl,_,aY.of II},_,rfl,t,rfl,{_,bC.of IA},AH (xs:=a.2.map V.str) (λj ys H3=>H3=H2/\j<=a.2.length/\∃us:Aaf,ys=us.map V.str/\us.length<=j/\∀z,z∈us↔z∈a.2.take j/\isUnk z=true/\z∉zs) (by rw[af];exact bO ∅) {rfl,aQ _,[],rfl,ak _,λz=>{λh=>(by cases h),λh=>(by cases h.1)}} ?_ ?_ ?_}
  ·rintro j ys H3 hj ⟨rfl,_,us,rfl,lu,_⟩;exact{bC.of IA,by rw[af];exact lu}
  ·rintro j y ys H3 N hy ⟨rfl,hj,us,rfl,lu,mu⟩ hN;obtain⟨z,jn,rfl⟩:=kA hy;have jY:=(aq.mp jn).1;obtain⟨c,hc0,afk,_,h9,_⟩:=AS (adw z (az jn));have et:a.2.take (j+1)=a.2.take j++[z]:=by rw[a9,jn];rfl
   refine{_,rfl,_,_,_,rfl,rfl,bo (bO ∅),(jE hc0:pX z.cps.toList 0=some c),rfl,?_};rw[afk];refine{_,rfl,?_};have no:=λc2=>hN _ _ {rfl,jY,us,rfl,pM lu,λy=>by rw[mu,et,aP,ax];exact tU λh=>{.inl,λe=>e.elim id λe=>absurd (e▸h) c2}}
   refine gO (λc1=>?_) (λc1=>gO (λq=>nomatch q) λ_=>no λh=>c1 h.1);refine{_,rfl,_,rfl,fl,_,rfl,.inl (aY.of II),rfl,xV _,_,rfl,?_};rw[C9];by_cases c2:z∈zs
   ·exact gO (λq=>by simp[c2]at q) (λ_=>no λh=>h.2 c2)
   ·refine gO (λ_=>{_,rfl,hN _ _ {rfl,jY,us++[z],by rw[aD];rfl,aC▸wZ lu,λy=>?_}}) (λq=>absurd (by simp[c2]) q);rw[aP,mu,et,aP,ax];exact{λh=>h.elim (λh=>{.inl h.1,h.2}) λe=>{.inr e,e▸⟨c1,c2⟩},λh=>h.1.elim (λe=>.inl {e,h.2}) .inr}
  ·rintro ys H3 ⟨rfl,_,us,rfl,lu,mu⟩ l hl;rw[af,bg]at mu;have s3:=aK hl (.lst (us.map V.str));refine{_,_,_,_,rfl,rfl,(s3 _ _ II),au,by rw[af,af,bz];lia,nx _ _ {_,_,zs++us,rfl,λb u e=>?_,by rw[au,aD],λz=>?_,by rw[aC];lia,cE}}
   ·rw[ay (aZ e Ta)];exact s3 _ _ (s2 _ _ e)
   ·have ef:cS (ats.take (i+1))=cS (ats.take i)++a.2:=by unfold cS;rw[a9,ha,aD,List.flatten_append];exact bV _ (c8 _)
    rw[aP,hm,mu,ef,aP];by_cases c:z∈zs
    ·exact{λh=>h.elim (λh=>{h.1,.inl h.2}) λh=>{h.2.1,.inr h.1},λh=>.inl ((hm z).mp c)}
    ·exact{λh=>h.elim (λh=>{h.1,.inl h.2}) λh=>{h.2.1,.inr h.1},λh=>h.2.elim (λe=>.inl {h.1,e}) λe=>.inr {e,h.1,c}}
 ·rintro Z H2 ⟨x2,x3,zs,rfl,s2,II,hm,lz,_⟩;rw[(bh qy),bg]at hm;refine{_,rfl,fl,zs,rfl,aY.of II,by lia,λa ks ha nd mm=>?_};have mk:=λz=>(mm z).trans (hm z);have l6:ks.length<=6:=gY (m:=g6) nd λz jn=>by obtain⟨u,h⟩:=(mk z).mp jn;obtain⟨b,hb,h⟩:=ip.mp h;obtain⟨_,_,_,_,_,h6⟩:=AS ((good b hb).2.1 z h);exact h6 u
  refine{a,ks,rfl,au,by lia,λl hl=>?_};have s3:=s2.trans (aK ha (.ext (Df P w a ks)));exact k l (xx ks) _ (s3.trans (aK hl _)) (s3.free hl) au ((rC ks).nodup_iff.mpr nd) (λz=>(rC ks).mem_iff.trans (mk z)) (by rw[(rC ks).length_eq];exact l6)
structure Bg(K:Frag)(f q d vl:Addr)(hz:Aaf)(ats:T6)(es:List En)(dk:Aaf)(H:Hp):Prop where
 fe:dQ K f H
 qa:sW H (.ref q) hz ats
 tb:AW f H d es
 nv:vl≠f
 Fh:H vl=some (.lst (dk.map V.str))
structure Drw(hz:Aaf)(ats:T6)(dk:Aaf):Prop where
 good:Good ats
 bj:uU hz ats
 l1:1<=ats.length
 l4:ats.length<=4
 v1:1<=dk.length
 v4:dk.length<=4
 vp:∀z∈dk,z∈eA
 vn:dk.Nodup
variable{f q d vl:Addr}{hz dk:Aaf}{ats:T6}{es:List En}{H H':Hp}
def Bg.ext(b:Bg K f q d vl hz ats es dk H)(hF:dQ K f H')(e:Ext f H H'):Bg K f q d vl hz ats es dk H':={hF,sW.ext (f:=f) b.qa (b.fe.lH e),b.tb.keep e,b.nv,e _ _ b.nv b.Fh}
def Bg.same(b:Bg K f q d vl hz ats es dk H)(s:bI H H'):Bg K f q d vl hz ats es dk H':=b.ext (xW b.fe s) (Ext.of s)
def JS{a p:Addr}{xs:Aam}{kvs:List (Key×V)}{o':HO}(h:bC K H a xs)(hp:H p=some (.dK kvs)):bC K (upd H p o') a xs:=by
 rcases h with(h|⟨o,h⟩)|h
 ·exact .inl (.inl (by rw[ay (oU h hp λz=>by cases z)];exact h))
 ·exact .inl (.inr {o,by rw[ay (oU h hp λz=>by cases z)];exact h})
 ·exact .inr h
def EF{ys:Aam}{rows:T7}(h:dJ K H ys rows)(hF:dQ K f H)(e:Ext f H H'):dJ K H' ys rows:=h.keep λa xs q=>by
 obtain⟨_,_,_,_,_,hf,_⟩:=hF;rcases q with(q|⟨o,q⟩)|q
 ·exact .inl (.inl (e _ _ (oU q hf λz=>by cases z) q))
 ·exact .inl (.inr {o,e _ _ (oU q hf λz=>by cases z) q})
 ·exact .inr q
def EG{y:Str}{r:Aaf}(h:r∈eJ es y):∃e∈es,e.nm=y/\r∈e.rows:=by
 unfold eJ at h;cases q:es.find? λe=>decide (e.nm=y)with
 |none=>rw[q]at h;cases h
 |some e=>
  rw[q]at h;exact{e,eY q,aW (sH (p:=λe:En=>decide (e.nm=y)) q),h}
def YY{p c:Addr}{z:Str}{cys:Aam}{Gp:T7}(hp:H p=some (-76))(nm:(es.map (·.nm)).Nodup)(en:∀e∈es,H e.ad=some (.lst e.ys)/\dJ K H e.ys e.rows/\e.rows.length<=8/\∀r∈e.rows,zL r)(hc:H c=some (.lst cys))(hR:dJ K H cys Gp)(l8:Gp.length<=8)(hg:∀r∈Gp,zL r)(hm:∀r∈eJ es z,r∈Gp):
  ∃iZ,jj K (upd H p (.dK (putK (es.map jX) (Sum.inr z) (.ref c)))) p iZ/\∀y,∀r∈eJ es y,r∈eJ iZ y:=by
 let n:En:=⟨z,c,cys,Gp⟩
 have fin:∀iZ:List En,putK (es.map jX) (Sum.inr z) (.ref c)=iZ.map jX->(iZ.map (·.nm)).Nodup->(∀e∈iZ,e=n\/e∈es)->(∀e∈es,∃e'∈iZ,e'.nm=e.nm/\∀r∈e.rows,r∈e'.rows)->∃iZ,jj K (upd H p (.dK (putK (es.map jX) (Sum.inr z) (.ref c)))) p iZ/\∀y,∀r∈eJ es y,r∈eJ iZ y:=λiZ e1 e2 e3 e4=>by
  refine{iZ,{by rw[au,e1],e2,λe he=>?_},λy r h=>?_}
  ·obtain⟨h1,h2,h3⟩:H e.ad=some (.lst e.ys)/\dJ K H e.ys e.rows/\e.rows.length<=8/\∀r∈e.rows,zL r:=(e3 e he).elim (λq=>q▸⟨hc,hR,l8,hg⟩) (en e);exact{by rw[ay (oU h1 hp λz=>by cases z)];exact h1,h2.keep λa xs q=>JS q hp,h3}
  ·obtain⟨e,he,rfl,hr⟩:=EG h;obtain⟨e',he',q,h⟩:=e4 e he;rw[<-q,Aj e2 he'];exact h r hr
 unfold putK at*;by_cases c1:((es.map jX).any λkv=>decide (kv.1=(Sum.inr z:Key)))=true
 ·rw[aG c1]at*;refine fin (es.map λe=>if e.nm=z then n else e) ?_ ?_ (λe he=>?_) λe he=>?_
  ·rw[aV,aV];refine aU λe _=>?_;show(if(Sum.inr e.nm:Key)=Sum.inr z then((Sum.inr e.nm:Key),V.ref c)else jX e)=jX (if e.nm=z then n else e);by_cases h:e.nm=z
   ·rw[aG h,aG (bV _ h),h];rfl
   ·rw[aw h,aw λe=>h (by injection e)]
  ·rw[aV,aU λe _=>?_]
   ·exact nm
   show(if e.nm=z then n else e).nm=e.nm;split
   ·next h=>exact h.symm
   ·rfl
  ·obtain⟨x,hx,rfl⟩:=ar.mp he;split
   ·exact .inl rfl
   ·exact .inr hx
  ·refine{_,ar.mpr ⟨e,he,rfl⟩,?_};by_cases h:e.nm=z
   ·rw[aG h];exact{h.symm,λr hr=>hm r (by rw[<-h,Aj nm he];exact hr)}
   ·rw[aw h];exact{rfl,λ_ h=>h}
 ·rw[aw c1]at*;refine fin (es++[n]) (by rw[aD];rfl) ?_ (λe he=>(aP.mp he).elim .inr λh=>.inl (ax.mp h)) λe he=>{e,bH _ he,rfl,λ_ h=>h};rw[aD];refine fR.mpr {nm,fD _ _,λa ha b hb q=>?_};obtain⟨e,he,rfl⟩:=ar.mp ha;rw[ax.mp hb]at q;exact c1 (ic.mpr {_,cy he,aT (bV Sum.inr q)})
def aam(rows:T7)(r:Aaf):((rows.map kK).any λe=>PyData.eqv e (kK r))=decide (r∈rows):=by
 induction rows with
 |nil=>rfl
 |cons x rows ih=>
  rw[bw,mQ,ih,OA];by_cases c:x=r
  ·subst c;simp
  ·have:¬r=x:=λe=>c e.symm;simp[c,this]
def K2{a p:Addr}{zs:Aam}{rows:T7}{r:Aaf}{Q:VK}(hr:bC K H a (r.map V.str))(hl:aY K H p zs)(hR:dJ K H zs rows)(ok:CH rows)(m:r∈rows)(k:Q (.bl false) H):Vb K true (-64) (.ref p) H Q:=by refine{kK r,rows.map kK,LZ ⟨a,rfl,hr⟩,.inr (zB hl hR),EN _ ok,Aw r (ok r m),by simp[kK,PyData.depth,vT],?_};rw[aG rfl,aam,aT m];exact k
inductive yP(K:Frag)(vs:Aam)(H:Hp)(Q:VK)(_x3:XK):Prop
 |mk (f q d vl:Addr) (hz:Aaf) (ats:T6) (es:List En) (dk:Aaf) (_:vs=[.ref f,.ref q,.ref d,.ref vl]) (_:Bg K f q d vl hz ats es dk H) (_:Drw hz ats dk) (_:∀H',dQ K f H'->Ext f H H'->Q (.bl true) H')
structure Dmo(P:Program)(w:World)(K:Frag)(mg:Aab)(base:Heap):Prop where
 fB:dz P w K mg base 1 "_law_draw" ["_law_feed_here","_law_many"] (BC K)
 wF:dz P w K mg base 2 "_law_length" ["_law_feed_here","_law_name"] (zY K)
 answers:dz P w K mg base 8 "answers" ["question","tables"] (xw K)
def gx:cK ["_law_feed_here","_law_question_here","_law_tables_here","_law_values_here","_law_found","_law_name","_law_row","_law_more","_law_atom","_law_less"] ["_law_feed_here","_law_question_here","_law_tables_here","_law_values_here"] (defScope pF):=jV (-3)
def ZC{f:Addr}{fd:FuncData}(F:fJ K "_law_more_and_less" "_law_more_and_less" pF f fd)(T:Txt K mg)(D:Dmo P w K mg base):dy P w K mg base f9 9 f fd ["_law_feed_here","_law_question_here","_law_tables_here","_law_values_here"] (yP K):=by
 refine F.ok gx (λ_ _ _ _ h=>by cases h;subst_vars;rfl) (-4);obtain⟨fe,q,d,vl,hz,ats,es,dk,rfl,b0,dr,k⟩:=h;have hu:=rW hr;have l4:=dr.l4;have lv:(dk.map V.str).length=dk.length:=af _;have v1:=dr.v1;have v4:=dr.v4;refine{_,(aO (mM (i:=4) gx.nd rfl (Or.inr rfl) (cl D.answers hr (dA (pv 1) (pv 2)))) (aO (fX 5 gx (cM il (cM il (cM il (pv 1) aX (-12)) (cl D.fB hr (dA (pv 0) (bZ eC rfl T.fZ bP (cc (cM il (pv 1) aX (-12)))))) (-12)) aX (-12))) (aO (fX 6 gx (dR d6 rfl T.jz (-3) (cc (iQ rfl (df (fs:=["_law_values_here","_law_feed_here"]) (fr:=[3,0])) (kj rfl T.mV (cc (cl D.wF hr (dA (pv 0) (pv 5))))) (λ_ _ _ _=>(cM (AA) (pv 1) (cl D.fB hr (dA (pv 2) (bZ (qV) rfl T.fZ bP (-88)))) (-12))))))) (aO (mM (i:=7) gx.nd rfl (Or.inr rfl) (dR QD rfl T.K7 (-3) (cc (pv 2)))) (aO (tH hu (pv 7) (pv 5) (du y7 (Am hu (pv 2) (pv 5) (fY iY) XB) (fY (cc (pv 6)))) rfl) (aO (ka (eG (abg (cU (dZ _) hu)) (nU rfl (df (fs:=["_law_question_here","_law_more"]) (fr:=[1,7])) (gf (pv 4)) (λ_ _ _ _=>(eG (FH hr.units) (pv 0) (cl D.answers hr (dA (pv 1) (pv 2))) (-36))) (λ_ _ _ _=>(pv 0))) (fY iY) (gQ _)) (bx (cW ue)) gN) (aO (fX 8 gx (iH (dA (pv 5) (dR d6 rfl T.jz (-3) (cc (iQ rfl (df (fs:=["_law_values_here","_law_feed_here"]) (fr:=[3,0])) (kj rfl T.mV (cc (bZ eC rfl T.fZ bP (cc (pv 6))))) (λ_ _ _ _=>(cM (AA) (du y7 (fY (dA dG dG)) (pv 1)) (cl D.fB hr (dA (pv 2) (du jW aX (bZ (qV) rfl T.fZ bP (-88))))) (-12))))))))) (aO (fX 9 gx (cl D.answers hr (dA (iH (dA (cM il (pv 1) aX (-12)) (du GW (cM il (pv 1) aX (-12)) (iH (cc (pv 8)))))) (pv 2)))) (bx (cW (yZ (RJ (cU (dZ _) hu)) (nU rfl (df (fs:=["_law_found"]) (fr:=[4])) (gf (pv 9)) (λ_ _ _ _=>(eG (FH hr.units) (pv 0) (pv 1) (-36))) (λ_ _ _ _=>(pv 0))) (fY iY) (gQ _)))))))))))),?_}
 refine gw λR eR=>?_;refine{_,rfl,_,rfl,.ref q,d,es,hz,ats,rfl,b0.qa,dr.good.A,dr.bj.A,by lia,b0.tb.r,λl zs rows H1 s1 qP lO Ox rn ri _ _=>?_};have b1:=b0.same s1;have NS:=qJ (K:=K) b0.tb.r dr.bj.A ri;have nl:=b0.fe.o9 qP;refine dX eR λR eR=>?_;obtain⟨_,h0,aa,jo,e,hq1,hh1,acn,hA1⟩:=id b1.qa;cases e;have la:=bh hA1;have l1:=dr.l1;refine{_,rfl,_,_,_,_,rfl,rfl,bC.of hq1,rfl,_,rfl,_,rfl,_,_,_,_,rfl,rfl,bC.of hq1,rfl,_,_,rfl,.inr {_,bC.of acn,rfl},fe,_,rfl,b1.fe,by lia,by lia,λi H2 i0 i1 se oh=>?_};have b2:=b1.ext se oh;have Bh:=EF Ox b1.fe oh;have g8:=oh _ _ nl lO;obtain⟨x,hx⟩:∃x,jo[i.toNat]?=some x:={_,ao ∅};have ev:pX jo i=some x:=by
  have:i=((i.toNat:Nat):Int):=by lia
  rw[this];exact jE hx
 obtain⟨a,ha,p,t,rfl,hp,ht⟩:=Paired.at hA1 hx;have uI:=(b1.fe.lH oh) _ _ hp;refine{_,_,_,_,rfl,rfl,bC.of ((b1.fe.lH oh) _ _ acn),ev,_,_,_,_,rfl,rfl,bC.of uI,rfl,?_};obtain⟨a4,_,a1,an⟩:=dr.good a (az ha);generalize a.1=nm at*;refine dX (T:=R) eR λR eR=>?_;refine{_,rfl,_,rfl,fe,nm,rfl,b2.fe,λi6 H6 l1' l2' wL nA=>?_};refine{_,rfl,by lia,by lia,λj m xq H7=>∃ts:Aaf,xq=ts.map V.str/\ts.length=j/\j<=i6.toNat/\m=i6.toNat -j/\dQ K fe H7/\Ext fe H2 H7/\∀t∈ts,t∈eA,{_,[],rfl,rfl,aQ _,rfl,wL,nA,λt h=>by cases h},?_};rintro j5 m5 xq H7 ⟨ts,rfl,cE,hle,rfl,og,jC,nY⟩;have b7:=b2.ext og jC;by_cases Sf:j5<i6.toNat
 ·refine .inr {Sf,by rw[af,cE];exact bO ∅,?_};rintro v H8 ⟨rfl,rfl⟩;refine{_,rfl,_,rfl,_,rfl,_,_,rfl,.inl {_,aY.of b7.Fh,rfl},fe,_,rfl,og,by lia,by lia,λi8 H9 n0 n1 Bi qQ=>?_};obtain⟨z9,zj,LW⟩:=kZ (zs:=dk) n0 ∅;refine{_,_,_,_,rfl,rfl,aY.of (b7.ext Bi qQ).Fh,LW,?_};refine{i6.toNat -(j5+1),by lia,ts++[z9],by rw[aD];rfl,by rw[aC,cE];rfl,Sf,rfl,Bi,jC.trans qQ,λt h=>?_};rcases aP.mp h with q|q
  ·exact nY t q
  ·rw[ax.mp q];exact dr.vp z9 zj
 refine .inl {by show i6.toNat<=j5;lia,by rw[af,cE];exact bo (bO ∅),λtl htl=>?_};refine{_,_,rfl,.inl {aY.of au,λtt ny=>?_}};have s8:=(aK htl (.lst (-32))).trans (aK ny (.tup (-32)));have VW:upd (upd H7 tl (.lst (-32))) tt (.tup (-32)) tt=some (.tup (-32)):=au;generalize upd (upd H7 tl (.lst (-32))) tt (.tup (-32))=H8 at s8 VW⊢;have b8:=b7.same s8;have hR8:=cI (EF Bh b2.fe jC) s8;have Oj:=s8 _ _ (jC _ _ nl g8);have Qn:=(Ext.of s1).trans (oh.trans (jC.trans (Ext.of s8)));refine dX eR λR eR=>?_;have td:=b8.tb.2.1;refine{_,rfl,d,_,rfl,.inl td,λmp hmp=>?_};have s9:=aK hmp (-76);have ab6:upd H8 mp (-76) mp=some (-76):=au;generalize upd H8 mp (-76)=H9 at s9 ab6⊢;have Fo:jj K H9 d es:=b8.tb.r.same s9;refine dX eR λR eR=>?_;refine{_,rfl,d,rfl,.inl {_,.inl Fo.at_},_,rfl,(-24),λl0 qP=>?_};have iz:=aK qP (.lst []);have h10:upd H9 l0 (.lst []) l0=some (.lst []):=au;generalize upd H9 l0 (.lst [])=qY at iz h10⊢;obtain⟨gq,Tr,eg,hgq,hgR,hgl,hgg⟩:=LP (Fo.same iz) h10 nm;refine{_,pR.k (k:=Sum.inr nm) (iz _ _ Fo.at_),?_};rw[eg];refine{_,rfl,(by show 1<=sizeLine;decide),λol X3=>?_};have mK:=aK X3 (.lst [V.ref tt]);have l7:(eJ es nm).length<=7:=by
  unfold eJ;cases qf:es.find? λe=>decide (e.nm=nm)with
  |none=>exact aQ _
  |some e=>exact(b8.tb.2.2.2.2 e (eY qf)).2.2.2.2.2
 refine{gq,ol,Tr,[V.ref tt],rfl,rfl,mK _ _ hgq,au,by rw[(bh hgR),bz];show _+1<=_;lia,λcl nZ=>?_};have DK:=aK nZ (.lst (Tr++[V.ref tt]));have Yh:upd (upd qY ol (.lst [V.ref tt])) cl (.lst (Tr++[V.ref tt])) cl=some (.lst (Tr++[V.ref tt])):=au;have U5:=s9.trans (iz.trans (mK.trans DK));have U4:=iz.trans (mK.trans DK);have aco:=Paired.uc (cI hgR (mK.trans DK)) {tt,rfl,bC.of (U5 _ _ VW)};generalize upd (upd qY ol (.lst [V.ref tt])) cl (.lst (Tr++[V.ref tt]))=Mi at Yh U5 U4 aco⊢;have X4:=U4 _ _ ab6;have les:=b8.tb.2.2.2.1;refine{_,rfl,_,rfl,mp,_,rfl,.inl {_,Sum.inr nm,X4,rfl,bO (by rw[af];lia),rfl},?_};obtain⟨iZ,W4,acg⟩:=YY X4 Fo.nm (Fo.same U4).en Yh aco (by rw[aC];show _+1<=8;lia) (λr fL=>(aP.mp fL).elim (hgg r) λe=>by rw[ax.mp e];exact({by lia,by lia,λz jn=>bH _ (nY z jn)})) λr h=>bH _ h;have lK:bI H8 (upd Mi mp (.dK (putK (es.map jX) (Sum.inr nm) (.ref cl)))):=λb u e=>by rw[ay (aZ e hmp)];exact U5 _ _ e
 generalize upd Mi mp (.dK (putK (es.map jX) (Sum.inr nm) (.ref cl)))=uV at W4 lK⊢;have Uk:=b8.same lK;have Wk:=cI hR8 lK;have Wb:=lK _ _ Oj;have adu:=lK _ _ VW;have afA:=Qn.trans (Ext.of lK);refine dX (T:=R) eR λR eR=>?_;refine{_,rfl,l,rfl,{_,aY.of Wb},ir (λj ys H5=>bI uV H5/\ys=[]) (by rw[(bh Wk),(cb rows).length_eq,bz];lia) {bI.refl _,rfl} (λj ys H5 _ ⟨s5,e⟩=>{aY.of (s5 _ _ Wb),e▸aQ _}) ?_ ?_}
 ·rintro j y ys H5 N hy ⟨s5,rfl⟩ hN;obtain⟨r,fL,ra,rfl,wJ⟩:=Paired.at' Wk hy;refine{_,rfl,_,rfl,_,rfl,.ref q,mp,iZ,hz,ats,rfl,(Uk.same s5).qa,dr.good.A,dr.bj.A,by lia,W4.same s5,λl2 JA gM H6 s6 _ g8 Bh pV wx _ _=>?_};have mr:r∈cA gM:=by rw[(cb _).mem_iff,wx];obtain⟨g,hg,e⟩:=(ri r).mp ((cb _).mem_iff.mp (az fL));exact{g,hg.more λb _ r' h=>(jt _ _).mpr (acg _ _ ((jt _ _).mp h)),e}
  exact K2 (dW wJ (s5.trans s6)) (aY.of g8) Bh (qJ W4 dr.bj.A wx) mr {_,rfl,gO (λq=>nomatch q) λ_=>hN _ _ {s5.trans s6,rfl}}
 rintro ys H5 ⟨s5,rfl⟩ l5 rZ;refine{(-24),λl6 rY=>?_};have s6:=aK rY (.lst []);refine{l5,l6,[],rfl,rfl,aY.of (s6 _ _ au),aY.of au,_,rfl,yq ?_};have s7:=s5.trans ((aK rZ (.lst [])).trans s6);generalize upd (upd H5 l5 (.lst [])) l6 (.lst [])=vF at s7⊢;clear s5 s6 rZ rY W4 acg;have b14:=Uk.same s7;have afp:=cI Wk s7;have afd:=s7 _ _ Wb;have adt:=s7 _ _ adu;have afz:=afA.trans (Ext.of s7);refine dX (T:=R) eR λR eR=>?_;refine{_,rfl,_,rfl,_,_,rfl,.inr {_,bC.of adt,rfl},?_};have lts:(-32).length=ts.length:=af _;refine{_,rfl,by lia,by lia,λj m xq H7=>∃us:Aaf,xq=us.map V.str/\us.length=j/\j<=ts.length/\m=(((-32).length:Nat):Int).toNat -j/\dQ K fe H7/\Ext fe vF H7/\∀t∈us,vW t,{_,[],rfl,rfl,aQ _,rfl,b14.fe,Ext.refl _ _,λt h=>by cases h},?_};rintro j6 m6 xq H7 ⟨us,rfl,hlu,hlj,rfl,og,jC,D4⟩;have Uj:=b14.ext og jC;by_cases lt6:j6<(((-32).length:Nat):Int).toNat
 ·refine .inr {lt6,by rw[af,hlu];exact bO ∅,?_};rintro v H8 ⟨rfl,rfl⟩;refine{(-17),λxl hxl=>?_};have sx:=aK hxl (.lst [V.str "?x",V.str "?new"]);have Yz:=Uj.same sx;have abT:upd H8 xl (.lst [V.str "?x",V.str "?new"]) xl=some (.lst [V.str "?x",V.str "?new"]):=au;generalize upd H8 xl (.lst [V.str "?x",V.str "?new"])=H9 at sx Yz abT⊢;refine{_,rfl,xl,vl,_,_,rfl,rfl,abT,Yz.Fh,by rw[lv,bz];show 2+_<=_;lia,λcl' aci=>?_};have sc:=aK aci (.lst ([V.str "?x",V.str "?new"]++dk.map V.str));have b17:=Yz.same sc;have afj:upd H9 cl' (.lst ([V.str "?x",V.str "?new"]++dk.map V.str)) cl'=some (.lst ([V.str "?x",V.str "?new"]++dk.map V.str)):=au;refine{_,rfl,_,rfl,_,_,rfl,.inl {_,aY.of b17.Fh,rfl},_,_,rfl,rfl,fe,_,rfl,b17.fe,by lia,by lia,λi8 zK n0 n1 afr acu=>?_};obtain⟨z9,zj,LW⟩:=kZ (zs:=(["?x","?new"]:Aaf)++dk) n0 (by rw[aC];show _<((2+_:Nat):Int);lia);refine{_,_,_,_,rfl,rfl,aY.of (acu _ _ (Yz.fe.o9 aci) afj),LW,?_};refine{(((-32).length:Nat):Int).toNat -(j6+1),by lia,us++[z9],by rw[aD];rfl,by rw[aC,hlu];rfl,by lia,rfl,afr,(jC.trans (Ext.of (sx.trans sc))).trans acu,λt h=>?_};rcases aP.mp h with q|q
  ·exact D4 t q
  ·rw[ax.mp q];rcases aP.mp zj with h|h
   ·rcases aH.mp h with rfl|h
    ·exact{by decide+kernel,by decide+kernel}
    ·rw[ax.mp h];exact{by decide+kernel,by decide+kernel}
   ·exact yM (bH _ (bY _ (dr.vp z9 h)))
 refine .inl {by show(((-32).length:Nat):Int).toNat<=j6;lia,by rw[af,hlu];exact bo (bO ∅),λtl htl=>?_};refine{_,_,rfl,.inl {aY.of au,λut hut=>{(-17),λap Bd=>?_}}};have s8:=((aK htl (.lst (us.map V.str))).trans (aK hut (.tup (us.map V.str)))).trans (aK Bd (.tup [V.str nm,V.ref ut]));have aeT:upd (upd (upd H7 tl (.lst (us.map V.str))) ut (.tup (us.map V.str))) ap (.tup [V.str nm,V.ref ut]) ut=some (.tup (us.map V.str)):=(aK Bd _) _ _ au;have afl:upd (upd (upd H7 tl (.lst (us.map V.str))) ut (.tup (us.map V.str))) ap (.tup [V.str nm,V.ref ut]) ap=some (.tup [V.str nm,V.ref ut]):=au;have b18:=Uj.same s8;have afn:=cI (EF afp b14.fe jC) s8;have afc:=s8 _ _ (jC _ _ nl afd);have afx:=afz.trans (jC.trans (Ext.of s8));refine dX eR λR eR=>?_;obtain⟨_,Yp,Ur,acD,e',uH,hh',Qf,Tq⟩:=id b18.qa;cases e';have la':=bh Tq;refine{_,rfl,_,_,_,_,rfl,rfl,bC.of uH,rfl,_,rfl,_,_,_,_,rfl,rfl,bC.of uH,rfl,_,rfl,(by show 1<=sizeLine;decide),λot hot=>?_};have so:=aK hot (.tup [V.ref ap]);refine OJ (so _ _ Qf) au (by rw[bz];show _+1<=_;lia) λca H9 s9 Yj=>{(-17),λqq hqq=>?_};have iz:=aK hqq (.tup [V.ref Yp,V.ref ca]);have wu:=so.trans (s9.trans iz);have hQ:sW (upd H9 qq (.tup [V.ref Yp,V.ref ca])) (.ref qq) hz (ats++[(nm,us)]):={qq,Yp,ca,_,rfl,au,wu _ _ hh',iz _ _ Yj,Paired.uc (lT Tq wu) {ap,ut,rfl,wu _ _ afl,wu _ _ aeT}};have gA:vZ (ats++[(nm,us)]):=λb hb=>by
  rcases aP.mp hb with hb|hb
  ·exact dr.good.A b hb
  ·rw[ax.mp hb];exact{by show us.length<=4;lia,D4,by show 1<=us.length;lia,C4 an}
 have hA2:vY hz (ats++[(nm,us)]):={dr.bj.1,λz jn=>{(dr.bj.A.2 z jn).1,λu=>by obtain⟨b,hb,h⟩:=ip.mp ((dr.bj.2 z jn).2 u);exact ip.mpr {b,bH _ hb,h}}}
 have b20:=b18.same wu;refine{_,rfl,.ref qq,d,es,hz,ats++[(nm,us)],rfl,hQ,gA,hA2,by rw[aC];show _+1<=5;lia,b20.tb.r,λl2 JA gM zK mK _ g8 Bh pV wx _ _=>?_};have U6:=wu.trans mK;refine v7 eR ?_;refine{_,rfl,l2,rfl,{_,aY.of g8},ir (λj ys H5=>H5=zK/\ys=[]) (by rw[(bh Bh),(cb gM).length_eq,bz];lia) ⟨rfl,rfl⟩ (λj ys H5 _ ⟨e,e'⟩=>{e▸aY.of g8,e'▸aQ _}) ?_ ?_}
 ·rintro j y ys H5 N hy ⟨rfl,rfl⟩ hN;obtain⟨r,fL,ra,rfl,wJ⟩:=Paired.at' Bh hy;have mr:r∈cA rows:=by rw[(cb _).mem_iff,ri];obtain⟨g,hg,e⟩:=(wx r).mp ((cb _).mem_iff.mp (az fL));exact{g,hg.of λb hb=>bH _ hb,e}
  exact{_,rfl,_,rfl,K2 wJ (aY.of (U6 _ _ afc)) (cI afn U6) NS mr {_,rfl,gO (λq=>nomatch q) λ_=>hN _ _ ⟨rfl,rfl⟩}}
 rintro ys H5 ⟨rfl,rfl⟩ l5 rZ;refine{(-24),λl6 rY=>?_};have s6:=aK rY (.lst []);have s7:=(aK rZ (.lst [])).trans s6;exact{l5,l6,[],rfl,rfl,aY.of (s6 _ _ au),aY.of au,k _ ((b20.same mK).same s7).fe ((afx.trans (Ext.of U6)).trans (Ext.of s7))}
end
section
variable{K:Frag}
def aby(one other z:Str):eK [(one,other)] z=if one=z then other else z:=by
 unfold eK zc;rw[eP];by_cases h:one=z
 ·rw[aT h,aG h];rfl
 ·rw[bB h,aw h];rfl
def aal(pre:Aam)(a b:V):pX (pre++[a,b]) (-1)=some b/\pX (pre++[a,b]) (-2)=some a:=by
 unfold pX Iq;rw[aC];constructor
 ·rw[aw (-9),aG (by simp;lia)];show(pre++[a,b])[_]?=_;rw[bU (by simp;lia)];have:(-1+((pre.length+[a,b].length:Nat):Int)).toNat -pre.length=1:=by simp;lia
  rw[this];rfl
 ·rw[aw (-9),aG (by simp;lia)];show(pre++[a,b])[_]?=_;rw[bU (by simp;lia)];have:(-2+((pre.length+[a,b].length:Nat):Int)).toNat -pre.length=0:=by simp;lia
  rw[this];rfl
def aaX{a:Addr}{xs:Aam}{j:Nat}{H:Hp}{Q:VK}(h:bC K H a xs)(k:∀p H',bI H H'->bC K H' p (xs.take j)->Q (.ref p) H'):Pc K (-64) none (some (j:Int)) H Q:=by
 refine{a,xs,rfl,h,λc=>k a H (bI.refl H) ?_,λ_ p hp=>?_}
 ·rw[HT.GJ]at c;rw[cX ∅];exact h
 ·rw[TX];exact k p _ (aK hp _) (bC.of au)
def yu(n:Nat)(l:T7):T7:=(l.filter λr=>decide (r[n+1]?=r[n]?)).map (List.take n)
def LY{n:Nat}{l:T7}{r:Aaf}:yu n (l++[r])=yu n l++if r[n+1]?=r[n]? then[r.take n]else[]:=by unfold yu;congr 1;by_cases c:r[n+1]?=r[n]?<;>simp[c]
variable{P:Program}{w:World}{mg:Aab}{base:Heap}
structure Dpr(P:Program)(w:World)(K:Frag)(mg:Aab)(base:Heap):Prop where
 fB:dz P w K mg base 1 "_law_draw" ["_law_feed_here","_law_many"] (BC K)
 Ax:dz P w K mg base 1 "_law_unknowns" ["_law_question_here"] JT
 EO:dz P w K mg base 2 "_law_put_in" ["_law_question_here","_law_put_here"] (GF K)
 answers:dz P w K mg base 8 "answers" ["question","tables"] (xw K)
def ig:cK ["_law_feed_here","_law_question_here","_law_tables_here","_law_values_here","_law_unknowns_here","_law_one","_law_other","_law_head","_law_found","_law_wide","_law_due"] ["_law_feed_here","_law_question_here","_law_tables_here","_law_values_here"] (defScope uZ):=jV (-3)
def KP{f:Addr}{fd:FuncData}(F:fJ K "_law_put_right" "_law_put_right" uZ f fd)(T:Txt K mg)(D:Dpr P w K mg base):dy P w K mg base f9 9 f fd ["_law_feed_here","_law_question_here","_law_tables_here","_law_values_here"] (yP K):=by
 refine F.ok ig (λ_ _ _ _ h=>by cases h;subst_vars;rfl) (-4);obtain⟨fe,q,d,vl,hz,ats,es,dk,rfl,b0,dr,k⟩:=h;have hu:=rW hr;have l4:=dr.l4;have lv:(dk.map V.str).length=dk.length:=af _;have v1:=dr.v1;have v4:=dr.v4;refine{_,(aO (fX 4 ig (cl D.Ax hr (-88))) (aO (ka (eG (RJ (cU (dZ _) hu)) (pv 4) (fY iY) (gQ _)) (bx (cW ue)) gN) (aO (fX 5 ig (cM eW (pv 4) (cl D.fB hr (dA (pv 0) (bZ eC rfl T.fZ bP (cc (pv 4))))) (-12))) (aO (fX 6 ig (cM eW (du y7 (pv 4) (pv 3)) (cl D.fB hr (dA (pv 0) (du jW (bZ eC rfl T.fZ bP (cc (pv 4))) (bZ eC rfl T.fZ bP (cc (pv 3)))))) (-12))) (aO (mM (i:=7) ig.nd rfl (Or.inr rfl) (Al Ny (cM il (pv 1) aX (-12)) GQ (yX aX))) (aO (fX 8 ig (cl D.answers hr (dA (cl D.EO hr (dA (iH (dA (pv 7) (cM il (pv 1) aX (-12)))) (NR (qv (pv 5) (pv 6) GP) rfl rfl (-8) (by show 1<=15;decide)))) (pv 2)))) (aO (fX 9 ig (fY (dA (pv 5) (pv 6)))) (aO (Kq (j:=10) ig.nd rfl rfl rfl (df (fs:=["_law_head"]) (fr:=[7])) (gf (cl D.answers hr (dA (iH (dA (du GW (pv 7) (dR d6 rfl T.jz (-3) (cc (pv 9)))) (cM il (pv 1) aX (-12)))) (pv 2)))) (λ_ _ _ _=>(eG Ap (cM (tL (K:=K)) (pv 0) (Jo Fn aX) (-12)) (cM (tL (K:=K)) (pv 0) (Jo Fn aX) (-12)) (gQ _))) (λ_ _ _ _=>(Al (UZ (K:=K)) (pv 0) GQ (yX (bZ (qV (K:=K)) rfl T.fZ bP (-88)))))) (bx (cW (yZ (RK hr.units) (pv 8) (bZ (zC hr.hd) rfl T.qx (-3) (cc (dR (IT hr.hd hr.units) rfl T.Pz (-3) (cc (pv 10))))) (gQ _)))))))))))),?_}
 refine gw λR eR=>?_;refine{_,rfl,.ref q,hz,ats,rfl,b0.qa,dr.good,l4,λul us H1 s1 Lq D5 nd mu l6=>?_};have nul:ul≠fe:=b0.fe.o9 Lq;have lu:(us.map V.str).length=us.length:=af _;refine dX (T:=R) eR λR eR=>?_;refine{_,rfl,(-24),λl0 qP=>?_};have s2:=aK qP (.lst []);refine{ul,l0,us.map V.str,rfl,rfl,aY.of (s2 _ _ D5),aY.of au,_,rfl,?_};have ni:=s1.trans s2;refine gO (λc=>k _ (b0.same ni).fe (Ext.of ni)) (λc=>?_);have iU:1<=us.length:=by
  cases us with
  |nil=>exact absurd rfl c
  |cons _ _=>exact wZ (aQ _)
 have D5:=s2 _ _ D5;generalize upd H1 l0 (.lst [])=H2 at s2 ni D5⊢;have b2:=b0.same ni;clear c s1 s2 qP;refine dX (T:=R) eR λR eR=>?_;refine{_,rfl,_,rfl,_,rfl,_,_,rfl,.inl {_,aY.of D5,rfl},fe,_,rfl,b2.fe,by lia,by lia,λi H3 i0 i1 IJ xX=>?_};obtain⟨one,ae5,ev1⟩:=kZ (zs:=us) i0 ∅;have b3:=b2.ext IJ xX;have PZ:=xX _ _ nul D5;refine{_,_,_,_,rfl,rfl,aY.of PZ,ev1,?_};refine dX (T:=R) eR λR eR=>?_;refine{_,rfl,_,rfl,ul,vl,_,_,rfl,rfl,PZ,b3.Fh,by rw[lu,lv,bz];lia,λcl nZ=>?_};have s4:=aK nZ (.lst (us.map V.str++dk.map V.str));have Wh:upd H3 cl (.lst (us.map V.str++dk.map V.str)) cl=some (.lst (us.map V.str++dk.map V.str)):=au;have ncl:cl≠fe:=b3.fe.o9 nZ;generalize upd H3 cl (.lst (us.map V.str++dk.map V.str))=H4 at s4 Wh⊢;have b4:=b3.same s4;refine{_,rfl,_,rfl,_,_,rfl,.inl {_,aY.of (s4 _ _ PZ),rfl},_,rfl,_,_,rfl,.inl {_,aY.of b4.Fh,rfl},_,_,rfl,rfl,fe,_,rfl,b4.fe,by lia,by lia,λi' H5 i0' i1' k9 ju=>?_};obtain⟨other,ae4,ev2⟩:=kZ (zs:=us++dk) i0' (by rw[aC];lia);rw[aD]at ev2;refine{_,_,_,_,rfl,rfl,aY.of (ju _ _ ncl Wh),ev2,?_};have b5:=b4.ext k9 ju;have acv:Ext fe H H5:=(Ext.of ni).trans (xX.trans ((Ext.of s4).trans ju));clear b4 b3 b2 b0 ju xX s4 ni k9 IJ nZ Wh PZ D5 ev1 ev2;obtain⟨uo,fo⟩:=(mu one).mp ae5;have oa:other∈hV/\(isUnk other=true->other∈cS ats):=by
  rcases aP.mp ae4 with h|h
  ·obtain⟨_,h⟩:=(mu other).mp h;obtain⟨b,hb,h'⟩:=ip.mp h;exact{(dr.good b hb).2.1 _ h',λ_=>h}
  ·have:=dr.vp other h;refine{bH _ (bY _ this),λu=>?_};have no:∀z∈eA,isUnk z=false:=by decide+kernel
   rw[no other this]at u;cases u
 have abj:one∈hV:=by obtain⟨b,hb,h'⟩:=ip.mp fo;exact(dr.good b hb).2.1 _ h'
 refine dX (T:=R) eR λR eR=>?_;obtain⟨_,h0,aa,jo,e,hq5,hh5,acm,Ef⟩:=id b5.qa;cases e;refine{_,rfl,_,_,_,_,rfl,rfl,bC.of hq5,rfl,RY {2,rfl,aaY (j:=2) hh5 λsa H6 s6 SO=>?_}};rw[<-List.map_take]at SO;have LO:uU (hz.take 2) ats:={aJ (List.length_take_le' _ _) dr.bj.1,λz jn=>dr.bj.2 z (kh jn)};have lh:(hz.take 2).length<=2:=List.length_take_le _ _;generalize hz.take 2=hd at SO LO lh;refine dX (T:=R) eR λR eR=>?_;refine{_,rfl,_,rfl,_,_,_,_,rfl,rfl,bC.of (s6 _ _ hq5),rfl,(-17),λqt hqt gp hgp=>?_};have s7:=aK hqt (.tup [V.ref sa,V.ref aa]);refine{_,rfl,_,rfl,au,[(Sum.inr one,.str other)],rfl,(by show 1<=15;decide),?_};have s8:bI (upd H6 qt (.tup [V.ref sa,V.ref aa])) (upd (upd (upd H6 qt (.tup [V.ref sa,V.ref aa])) gp (.dK [])) gp (.dK (gz [] [(Sum.inr one,V.str other)]))):=λb u e=>by rw[ay (aZ e hgp),ay (aZ e hgp)];exact e
 have Oo:upd (upd (upd H6 qt (.tup [V.ref sa,V.ref aa])) gp (.dK [])) gp (.dK (gz [] [(Sum.inr one,V.str other)])) gp=some (.dK (gD [(one,other)])):=au;have V5:=s8 _ _ (au (H:=H6) (a:=qt) (o:=.tup [V.ref sa,V.ref aa]));have Rb:=s7.trans s8;generalize upd (upd (upd H6 qt (.tup [V.ref sa,V.ref aa])) gp (.dK [])) gp (.dK (gz [] [(Sum.inr one,V.str other)]))=H8 at s8 Oo V5 Rb⊢;have Rc:=s6.trans Rb;have hQ8:sW H8 (.ref qt) hd ats:={qt,sa,aa,jo,rfl,V5,Rb _ _ SO,Rc _ _ acm,lT Ef Rc};have b8:=b5.same Rc;have ab1:=Rb _ _ SO;have Qn:=acv.trans (Ext.of Rc);clear s7 s8 Rb Rc s6 SO hqt hgp V5 acv b5 Ef acm hh5 hq5;have adF:∀a∈ats,a.2.length<=100:=λa ha=>aJ (dr.good a ha).1 (-9);refine{.ref qt,gp,hd,ats,[(one,other)],rfl,hQ8,Oo,by lia,by lia,adF,λpq H9 s9 hQ9=>?_};have b9:=b8.same s9;have h1:eK [(one,other)] one=other:=by rw[aby,aG rfl]
 have h2:∀t,t≠one->eK [(one,other)] t=t:=λt ht=>by rw[aby,aw λe=>ht e.symm]
 have inA:∀t∈cS ats,eK [(one,other)] t∈cS (pG [(one,other)] ats):=λt ht=>by obtain⟨b,hb,h⟩:=ip.mp ht;exact ip.mpr {_,ar.mpr ⟨b,hb,rfl⟩,cy h}
 have VN:∀t,t∈hV->vW (eK [(one,other)] t):=λt ht=>by
  by_cases c:t=one
  ·rw[c,h1];exact yM oa.1
  ·rw[h2 t c];exact yM ht
 have gA:vZ (pG [(one,other)] ats):=λb hb=>by obtain⟨a,ha,rfl⟩:=ar.mp hb;obtain⟨g1,g2,g3,g4⟩:=dr.good a ha;refine{by show(a.2.map _).length<=4;rw[af];exact g1,λz jn=>?_,by show 1<=(a.2.map _).length;rw[af];exact g3,C4 g4};obtain⟨t,ht,rfl⟩:=ar.mp jn;exact VN t (g2 t ht)
 have hA:vY (hd.map (eK [(one,other)])) (pG [(one,other)] ats):={by rw[af];exact LO.1,λz jn=>by
  obtain⟨t,ht,rfl⟩:=ar.mp jn;obtain⟨t1,t2⟩:=LO.2 t ht;refine{VN t t1,λu=>?_};by_cases c:t=one
  ·rw[c];exact inA one fo
  ·rw[h2 t c]at u;exact inA t (t2 u)}
 refine{_,rfl,.ref pq,d,es,_,_,rfl,hQ9,gA,hA,by unfold pG;rw[af];lia,b9.tb.r,λfl zs1 Ak qY iz _ Ta Ox HV HW _ _=>?_};have wu:=s9.trans iz;have I0:=b8.same wu;have P1:=wu _ _ ab1;have Hc:=Qn.trans (Ext.of wu);clear b8 b9 s9 iz wu hQ9 hQ8 Oo ab1 Qn VN inA;have RS:CH (cA Ak):=qJ (K:=K) I0.tb.r hA HW;refine dX (T:=R) eR λR eR=>?_;refine{_,rfl,_,rfl,(-17),λwl Oc=>?_};have mK:=aK Oc (.lst [V.str one,V.str other]);have PY:upd qY wl (.lst [V.str one,V.str other]) wl=some (.lst [V.str one,V.str other]):=au;generalize upd qY wl (.lst [V.str one,V.str other])=zK at mK PY⊢;refine dX (T:=R) eR λR eR=>?_;refine{_,rfl,_,rfl,wl,_,rfl,.inl {aY.of PY,λwt hwt=>?_}};have DK:=aK hwt (.tup [V.str one,V.str other]);have Ai:=mK.trans DK;refine OJ (Ai _ _ P1) au (by rw[af,bz];show _+2<=_;lia) λca uV lK Yj=>?_;have Pb:=Ai.trans lK;have Uk:=I0.same Pb;obtain⟨_,Yp,Ur,acD,e',uH,hh',Qf,Tq⟩:=id Uk.qa;cases e';refine{_,rfl,_,_,_,_,rfl,rfl,bC.of uH,rfl,(-17),λqw hqw=>?_};have o8:=aK hqw (.tup [V.ref ca,V.ref Ur]);have acj:uV ca=some (.tup ((hd++[one,other]).map V.str)):=by rw[Yj,aD];rfl
 have Wl:sW (upd uV qw (.tup [V.ref ca,V.ref Ur])) (.ref qw) (hd++[one,other]) ats:={qw,ca,Ur,acD,rfl,au,o8 _ _ acj,o8 _ _ Qf,lT Tq o8};generalize upd uV qw (.tup [V.ref ca,V.ref Ur])=vF at o8 Wl⊢;have Pa:=Pb.trans o8;have hW:uU (hd++[one,other]) ats:={by rw[aC];show _+2<=4;lia,λz jn=>by
  rcases aP.mp jn with h|h
  ·exact LO.2 z h
  ·rcases aH.mp h with rfl|h
   ·exact{abj,λ_=>fo}
   ·rw[ax.mp h];exact oa}
 refine{_,rfl,.ref qw,d,es,_,_,rfl,Wl,dr.good.A,hW.A,by lia,(I0.same Pa).tb.r,λl2 JA gM H15 xA _ g8 Bh pV wx _ _=>?_};have C2:=Pa.trans xA;have Uj:=I0.same C2;have adx:=C2 _ _ P1;have afo:=cI Ox C2;have adB:=C2 _ _ Ta;have afy:=Hc.trans (Ext.of C2);have Sb:JA.length=(cA gM).length:=bh Bh;clear mK DK Ai lK Pb o8 Pa xA C2 Wl Oc PY hwt hqw Yj acj uH hh' Qf Tq Uk I0 Ox Ta Hc P1;have shape:∀r∈cA gM,∃g,AskP.hU isUnk (dbT es) ats g/\r=hd.map g++[g one,g other]:=λr fL=>by obtain⟨g,hg,e⟩:=(wx r).mp ((cb _).mem_iff.mp fL);exact{g,hg,by rw[e,aD];rfl}
 have Um:∀(g:Str->Str),(hd.map g++[g one,g other])[hd.length]?=some (g one):=λg=>by rw[bU (by rw[af];exact ak _),af,lW];rfl
 have Md:∀(g:Str->Str),(hd.map g++[g one,g other])[hd.length+1]?=some (g other):=λg=>by rw[bU (by rw[af];lia),af,kL];rfl
 have tk:∀(g:Str->Str),(hd.map g++[g one,g other]).take hd.length=hd.map g:=λg=>by rw[List.take_append_of_le_length (by rw[af];exact ak _),cX (by rw[af];exact ak _)]
 have gC:(yu hd.length (cA gM)).length<=729:=by
  unfold yu;rw[af,<-af (f:=List.take (hd.length+1))];have fm:∀r∈(cA gM).filter λr=>decide (r[hd.length+1]?=r[hd.length]?),∃g,AskP.hU isUnk (dbT es) ats g/\r=hd.map g++[g one,g one]:=λr fL=>by obtain⟨h1',F7⟩:=bQ.mp fL;obtain⟨g,hg,rfl⟩:=shape r h1';have:=aW F7;rw[Um,Md]at this;exact{g,hg,by rw[bJ this]}
  have tk1:∀(g:Str->Str),(hd.map g++[g one,g one]).take (hd.length+1)=hd.map g++[g one]:=λg=>by rw[List.take_append,af,kL,cX (by rw[af];lia)];rfl
  refine aJ (AskP.gC (A:=eA++(["x"]:Aaf)) (k:=hd.length+1) ?_ ?_) (aJ (mB (-9) (show hd.length+1<=3 by lia)) (-9))
  ·refine cH.mpr (d9 (R:=λa b=>a≠b) (λ{a b} ha hb ne e=>ne ?_) (jO fU ((cb _).nodup_iff.mpr pV)));obtain⟨g,_,rfl⟩:=fm a ha;obtain⟨g',_,rfl⟩:=fm b hb;rw[tk1,tk1]at e;obtain⟨e1,e2⟩:=List.append_inj e (by rw[af,af]);rw[e1,CJ.mp e2]
  ·intro v hv;obtain⟨r,fL,rfl⟩:=ar.mp hv;obtain⟨g,hg,rfl⟩:=fm r fL;rw[tk1];refine{by rw[aC,af];rfl,λx hx=>?_};obtain⟨t,ht,rfl⟩:∃t,(t∈hV/\(isUnk t=true->t∈cS ats))/\x=g t:=by
    rcases aP.mp hx with h|h
    ·obtain⟨t,ht,rfl⟩:=ar.mp h;exact{t,LO.2 t ht,rfl}
    ·exact{one,{abj,λ_=>fo},ax.mp h}
   cases u:isUnk t with
   |false=>
    rw[hg.1 t u];rcases aP.mp ht.1 with h|h
    ·rcases aP.mp h with h|h
     ·have al:∀z∈g6,isUnk z=true:=by decide+kernel
      rw[al t h]at u;cases u
     ·exact bH _ h
    ·exact bY _ h
   |true=>
    obtain⟨b,hb,h⟩:=ip.mp (ht.2 u);have hm:=(jt _ _).mp (hg.2 b hb);obtain⟨e,he,_,hm⟩:=EG hm;exact bH _ (((Uj.tb.2.2.2.2 e he).2.2.2.2.1 _ hm).2.2 _ (cy h))
 refine{l2,rfl,{_,aY.of g8},ir (K:=K) (a:=l2) (xs:=JA) (λj ys H5=>bI H15 H5/\j<=(cA gM).length/\dJ K H5 ys (yu hd.length ((cA gM).take j))) (by rw[Sb,(cb gM).length_eq,bz];lia) {bI.refl _,aQ _,.nil} ?_ ?_ ?_}
 ·rintro j ys H5 hj ⟨s5,_,hy⟩;refine{aY.of (s5 _ _ g8),?_};rw[bh hy];unfold yu;rw[af];exact aJ (dO _ _) (by rw[aR];lia)
 ·rintro j y ys H5 N hy ⟨s5,hj,pW⟩ hN;obtain⟨r,fL,ra,rfl,wJ⟩:=Paired.at' Bh hy;have jY:=(aq.mp fL).1;have et:(cA gM).take (j+1)=(cA gM).take j++[r]:=by rw[a9,fL];rfl
  obtain⟨g,_,rfl⟩:=shape r (az fL);have V3:=dW wJ s5;have hb:=aal ((hd.map g).map V.str) (.str (g one)) (.str (g other));have em:(hd.map g++[g one,g other]).map V.str=(hd.map g).map V.str++[V.str (g one),V.str (g other)]:=by rw[aD];rfl
  refine{_,rfl,_,rfl,_,_,_,_,rfl,rfl,V3,by rw[em];exact hb.1,_,rfl,_,rfl,_,_,_,_,rfl,rfl,V3,by rw[em];exact hb.2,rfl,_,rfl,?_};have ec:decide ((V.str (g other))=V.str (g one))=decide (g other=g one):=by
   by_cases c:g other=g one
   ·rw[aT c,aT (bV _ c)]
   ·rw[bB c,bB λe=>c (by injection e)]
  refine gO (λc=>?_) (λc=>?_)
  ·have c:=aW (ec▸c);refine{_,rfl,RY {_,rfl,_,_,rfl,.inr {_,bC.of (s5 _ _ adx),rfl},_,rfl,aaX (j:=(hd.map V.str).length) V3 λct H7 s7 Yg=>hN _ _ {s5.trans s7,jY,?_}}};rw[et,LY,Um,Md,aG (bV some c)];refine Paired.uc (cI pW s7) {ct,rfl,?_};rw[List.map_take,<-af (f:=V.str) (as:=hd)];exact Yg
  ·have c:=nW (ec▸gX.mpr c);refine hN _ _ {s5,jY,?_};rw[et,LY,Um,Md,aw λe=>c (bJ e),c8];exact pW
 rintro ys H5 ⟨s5,_,pW⟩ dl Yc;rw[Sb,bg]at pW;have ld:ys.length=(yu hd.length (cA gM)).length:=bh pW;have s6:=aK Yc (-39);have hd6:upd H5 dl (-39) dl=some (-39):=au;generalize upd H5 dl (-39)=H6 at s6 hd6⊢;have ad3:=s5.trans s6;have hy6:=cI pW s6;refine v7 (T:=R) eR ?_;refine{_,rfl,_,rfl,dl,ys,_,rfl,aY.of hd6,hy6,by lia,λKd kQ ha0 nu mu' lu' D4=>?_};have s7:bI H6 (upd H6 Kd (.ext (vc P w Kd kQ))):=aK ha0 _;have ha7:upd H6 Kd (.ext (vc P w Kd kQ)) Kd=some (.ext (vc P w Kd kQ)):=au;have dm:∀r,r∈yu hd.length (cA gM)↔∃g,AskP.hU isUnk (dbT es) ats g/\g one=g other/\r=hd.map g:=λr=>by
  unfold yu;rw[ar];constructor
  ·rintro⟨x,hx,rfl⟩;obtain⟨h1',F7⟩:=bQ.mp hx;obtain⟨g,hg,rfl⟩:=shape x h1';have:=aW F7;rw[Um,Md]at this;exact{g,hg,(bJ this).symm,tk g}
  ·rintro⟨g,hg,e,rfl⟩;refine{_,bQ.mpr {(cb _).mem_iff.mpr ((wx (hd.map g++[g one,g other])).mpr {g,hg,by rw[aD];rfl}),aT ?_},tk g};rw[Um,Md,e]
 refine{Kd,kQ,ys,rfl,ha7,λx hx=>{dW (D4 x hx).1 s7,(D4 x hx).2},λF7 x hx e=>?_,by lia,λl zs hl hrz _=>?_}
 ·obtain⟨g,_,_,e'⟩:=(dm _).mp ((mu' x.1).mp (cy hx));rw[e]at e';have ez:hd=[]:=jc.mp e'.symm;have:=gY (m:=[[]]) nu λr fL=>by obtain⟨g,_,_,e'⟩:=(dm _).mp ((mu' r).mp fL);rw[e',ez];exact aA
  rw[af]at this;exact absurd F7 (by show ¬2<=kQ.length;have:kQ.length<=1:=this;lia)
 have s8:=aK hl (.lst zs);have O9:=ad3.trans (s7.trans s8);have er:cA Ak=cA (kQ.map (·.1)):=GG HV nu λr=>by rw[HW,mu',dm];exact AskP.Y4 h1 h2 uo
 refine{rH (cA Ak),rH (cA (kQ.map (·.1))),zB (aY.of (O9 _ _ adB)) (cI afo O9),zB (aY.of au) (cI hrz s8),ud RS,by rw[<-er];exact ud RS,?_};rw[LX,aT er];exact k _ (Uj.same O9).fe (afy.trans (Ext.of O9))
noncomputable def qT:Aaf:=["4","5","6","7","8","9","10","11","12"]
def DO(c u dg:Str):Str:=((("?":Str)++c)++Txt.slice u (some 1) (some 4))++dg
def adM:∀j,j<9->Str.ofString (toString ((j+4:Nat):Int))=qT.getD j "":=by decide+kernel
def ade:∀c∈(["q","x","12"]:Aaf),∀u∈g6,∀dg∈qT,isUnk (DO c u dg)=true/\PyData.strOk (DO c u dg)=true/\(DO c u dg).length<=100:=by decide+kernel
def ac6:∀c∈(["q","x","12"]:Aaf),∀u∈g6,u.length<=10/\c.length<=10/\(Txt.slice u (some 1) (some 4)).length<=10:=by decide+kernel
def FU(z:Str):Option Nat:=z.cps.toList.getLast?
def OB:(∀dg∈qT,dg.cps.toList≠[])/\∀a∈qT,∀b∈qT,FU a=FU b->a=b:=by decide+kernel
def Z8(a b:Str):(a++b).cps.toList=a.cps.toList++b.cps.toList:=by exact mY
def abm{c u dg c' u' Yw:Str}(h:dg∈qT)(h':Yw∈qT)(e:DO c u dg=DO c' u' Yw):dg=Yw:=by
 refine OB.2 dg h Yw h' ?_;have l:∀{c u dg:Str},dg∈qT->FU (DO c u dg)=FU dg:=λ{c u dg} h=>by
  unfold FU DO;rw[Z8,List.getLast?_append];cases q:dg.cps.toList.getLast? with
  |none=>exact absurd (List.getLast?_eq_none_iff.mp q) (OB.1 dg h)
  |some x=>rfl
 rw[<-l h,<-l h',e]
def Le(g1 g2:List (Str×Str))(z:Str):zc (g1++g2) z=(zc g1 z).or (zc g2 z):=by unfold zc;rw[List.find?_append];cases g1.find? λp=>decide (p.1=z)<;>rfl
theorem Ld:∀{ks vs:Aaf},ks.Nodup->ks.length=vs.length->∀{j:Nat}{z:Str},ks[j]?=some z->zc (ks.zip vs) z=vs[j]?
 |[],_,_,_,j,z,h=>by cases h
 |k::ks,[],_,e,_,_,_=>by cases e
 |k::ks,v::vs,nd,e,j,z,h=>by
  rw[List.zip_cons_cons];unfold zc;rw[eP];rw[cV]at nd;cases j with
  |zero=>
   cases h;rw[aT rfl];rfl
  |succ j=>
   rw[bB (show ¬k=z fromλe=>nd.1 (e▸(az h)))];exact Ld nd.2 (by injection e) h
def PM{ks vs:Aaf}{z:Str}(h:z∉ks):zc (ks.zip vs) z=none:=by have q:(ks.zip vs).find? (λp=>decide (p.1=z))=none:=kX.mpr λp hp e=>h (by rw[<-aW e];exact(jK hp).1);unfold zc;rw[q];rfl
structure AY(sm us:Aaf)(g:List (Str×Str)):Prop where
 vs:∀x∈sm,eK g x∈sm
 vi:∀x∈sm,∀y∈sm,eK g x=eK g y->x=y
 uk:∀x∈us,isUnk (eK g x)=true/\vW (eK g x)
 ui:∀x∈us,∀y∈us,eK g x=eK g y->x=y
 no:∀x,x∉sm->x∉us->eK g x=x
def Ve{sm rt us nw:Aaf}(ns:sm.Nodup)(lr:sm.length=rt.length)(nr:rt.Nodup)(hr:∀z∈rt,z∈sm)(nu:us.Nodup)(ln:us.length=nw.length)(ds:∀x∈us,x∉sm)(hn:∀(j:Nat) z,nw[j]?=some z->isUnk z=true/\vW z)(hi:∀(i j:Nat) z,nw[i]?=some z->nw[j]?=some z->i=j):AY sm us (sm.zip rt++us.zip nw):=by
 have ats:∀x∈sm,∃j:Nat,sm[j]?=some x/\∃y,rt[j]?=some y/\eK (sm.zip rt++us.zip nw) x=y:=λx hx=>by obtain⟨j,hj⟩:=cP.mp hx;have lj:=(aq.mp hj).1;refine{j,hj,_,ao ∅,?_};unfold eK;rw[Le,Ld ns lr hj,ao ∅];rfl
 have atu:∀x∈us,∃j:Nat,us[j]?=some x/\∃y,nw[j]?=some y/\eK (sm.zip rt++us.zip nw) x=y:=λx hx=>by obtain⟨j,hj⟩:=cP.mp hx;have lj:=(aq.mp hj).1;refine{j,hj,_,ao ∅,?_};unfold eK;rw[Le,PM (ds x hx),Option.none_or,Ld nu ln hj,ao ∅];rfl
 refine{λx hx=>?_,λx hx y hy e=>?_,λx hx=>?_,λx hx y hy e=>?_,λx h1 h2=>?_}
 ·obtain⟨j,_,y,hy,e⟩:=ats x hx;rw[e];exact hr y (az hy)
 ·obtain⟨j,hj,a,ha,ea⟩:=ats x hx;obtain⟨i,Ce,b,hb,eb⟩:=ats y hy;rw[ea,eb]at e;rw[e]at ha;have:=(lC (aq.mp ha).1 nr).mp (ha.trans hb.symm);rw[this,Ce]at hj;exact(bJ hj).symm
 ·obtain⟨j,_,y,hy,e⟩:=atu x hx;rw[e];exact hn j y hy
 ·obtain⟨j,hj,a,ha,ea⟩:=atu x hx;obtain⟨i,Ce,b,hb,eb⟩:=atu y hy;rw[ea,eb]at e;rw[e]at ha;have:=hi j i b ha hb;rw[this,Ce]at hj;exact(bJ hj).symm
 ·unfold eK;rw[Le,PM h1,PM h2];rfl
def NH{g:List (Str×Str)}{u t:Str}(h:∀p∈g,p.1≠u):Pg g u t=g++[(u,t)]:=by
 unfold Pg;rw[aw λc=>by obtain⟨p,hp,e⟩:=ic.mp c;exact h p hp (aW e)]
def JB{ks vs:Aaf}{u t:Str}(h:ks.length=vs.length):(ks++[u]).zip (vs++[t])=ks.zip vs++[(u,t)]:=by rw[List.zip_append h];rfl
variable{f d:Addr}{H:Hp}{es iZ:List En}{hz sm:Aaf}{ats:T6}{g:List (Str×Str)}
def Bw:∀x∈kr,isUnk x=false:=by decide+kernel
def Ng(tb:AW f H d es)(p:AY sm (fS (cS ats)) g)(hs:∀z∈sm,z∈kr)(hr:∀z,eJ iZ z=(eJ es z).map λr=>r.map (eK g)):AskP.Turn isUnk (eJ es) (eJ iZ) ats (fS (cS ats)) eA (eK g):=by
 have nu:∀x,isUnk x=false->x∉fS (cS ats):=λx h m=>by rw[(mq.mp m).1]at h;cases h
 refine{λx h=>?_,λx y hx hy e=>?_,λt ht=>(p.uk t ht).1,p.ui,mn,λa _ r fL x hx=>?_,λx hx=>Bw x (bH _ hx),λa _ r'=>?_}
 ·by_cases c:x∈sm
  ·exact Bw _ (hs _ (p.vs x c))
  ·rw[p.no x c (nu x h)];exact h
 ·by_cases c:x∈sm<;>by_cases c':y∈sm
  ·exact p.vi x c y c' e
  ·rw[p.no y c' (nu y hy)]at e;exact absurd (e▸p.vs x c) c'
  ·rw[p.no x c (nu x hx)]at e;exact absurd (e▸p.vs y c') c
  ·rw[p.no x c (nu x hx),p.no y c' (nu y hy)]at e;exact e
 ·obtain⟨e,he,_,hm⟩:=EG fL;exact((tb.2.2.2.2 e he).2.2.2.2.1 r hm).2.2 x hx
 ·rw[hr,ar];exact{λ⟨r,h,e⟩=>{r,h,e.symm},λ⟨r,h,e⟩=>{r,h,e.symm}}
def Lh(p:AY sm (fS (cS ats)) g)(hs:∀z∈sm,z∈kr){z:Str}(h:z∈hV)(hu:isUnk z=true->z∈cS ats):vW (eK g z):=by
 by_cases c:z∈sm
 ·exact{uy (hs _ (p.vs z c)),by
   have l:∀x∈kr,x.length<=1000:=by decide+kernel
   exact l _ (hs _ (p.vs z c))}
 ·by_cases u:z∈fS (cS ats)
  ·exact(p.uk z u).2
  ·rw[p.no z c u];exact yM h
def VM(p:AY sm (fS (cS ats)) g)(hs:∀z∈sm,z∈kr)(h:Good ats):vZ (pG g ats):=λb hb=>by obtain⟨a,ha,rfl⟩:=ar.mp hb;obtain⟨g1,g2,g3,g4⟩:=h a ha;refine{by show(a.2.map _).length<=4;rw[af];exact g1,λz jn=>?_,by show 1<=(a.2.map _).length;rw[af];exact g3,C4 g4};obtain⟨t,ht,rfl⟩:=ar.mp jn;exact Lh p hs (g2 t ht) λ_=>ip.mpr ⟨a,ha,ht⟩
def VL(p:AY sm (fS (cS ats)) g)(hs:∀z∈sm,z∈kr)(h:uU hz ats):vY (hz.map (eK g)) (pG g ats):={by rw[af];exact h.1,λz jn=>by
 obtain⟨t,ht,rfl⟩:=ar.mp jn;obtain⟨t1,t2⟩:=h.2 t ht;refine{Lh p hs t1 t2,λu=>?_};have ut:isUnk t=true:=by
  cases c:isUnk t with
  |true=>rfl
  |false=>
   by_cases c':t∈sm
   ·rw[Bw _ (hs _ (p.vs t c'))]at u;cases u
   ·rw[p.no t c' λm=>by rw[(mq.mp m).1]at c;cases c]at u;rw[c]at u;cases u
 obtain⟨b,hb,h⟩:=ip.mp (t2 ut);exact ip.mpr {_,ar.mpr ⟨b,hb,rfl⟩,cy h}}
def VB(tb:AW f H d es)(tb':jj K H' d' iZ)(p:AY sm (fS (cS ats)) g)(hs:∀z∈sm,z∈kr)(hr:∀z,eJ iZ z=(eJ es z).map λr=>r.map (eK g))(bj:uU hz ats){row:Aaf}(aeY:∃g,AskP.hU isUnk (dbT es) ats g/\row=hz.map g):num iZ (hz.map (eK g)) (pG g ats) (row.map (eK g))=num es hz ats row:=by have T:=Ng tb p hs hr;have hh:=λt ht u=>mq.mpr {u,(bj.2 t ht).2 u};obtain⟨gg,hg,e⟩:=aeY;have c:=T.count (jq _) (jq _) mn (-9) (-9) (λa _ r fL x hx=>((tb'.good a.1).2 r fL).2.2 x hx) hh {gg,J3.mpr hg,e};refine c.trans ?_;refine AskP.zR (λ_=>o6) (λ_ _ _=>o6) mn mn (jq _) (jq _) (-9) (-9) T.hv (λa ha r fL x hx=>bH _ (T.hv a ha r fL x hx)) hh row
end
section
variable{P:Program}{w:World}{K:Frag}{mg:Aab}{base:Heap}
structure Dtu(P:Program)(w:World)(K:Frag)(mg:Aab)(base:Heap):Prop extends Dpu P w K mg base where
 fB:dz P w K mg base 1 "_law_draw" ["_law_feed_here","_law_many"] (BC K)
 Ax:dz P w K mg base 1 "_law_unknowns" ["_law_question_here"] JT
 EO:dz P w K mg base 2 "_law_put_in" ["_law_question_here","_law_put_here"] (GF K)
 counted:dz P w K mg base 8 "counted" ["question","tables"] (Xf K)
noncomputable def v9:Aaf:=["x","y","z"]
theorem aaw:∀{i c:Nat},("xyz":Str).cps[i]?=some c->v9[i]?=some ⟨#[c]⟩
 |0,c,h=>by cases h;rfl
 |1,c,h=>by cases h;rfl
 |2,c,h=>by cases h;rfl
 |n+3,c,h=>by cases h
def QM:∀z∈v9,z∉eA:=by decide+kernel
def acE{xs:Aam}{j:Nat}{v:V}(hj:j<xs.length)(h:pX xs (j:Int)=some v):xs[j]?=some v:=by rw[jE (ao hj)]at h;rw[ao hj];exact h
def BV{l:Aaf}(h:(l.map V.str).Nodup):l.Nodup:=(cH.mp h).imp λne e=>ne (by rw[e])
theorem HS{g:List (Str×Str)}:∀{es pf:List En},pf.map (λe=>(e.nm,e.rows))=es.map (λe=>(e.nm,e.rows.map λr=>r.map (eK g)))->∀z,eJ pf z=(eJ es z).map λr=>r.map (eK g)
 |[],[],_,_=>rfl
 |[],_::_,em,_=>by cases em
 |_::_,[],em,_=>by cases em
 |e::es,e2::pf,em,z=>by
  injection em with TF em2;have n1:e2.nm=e.nm:=bV Prod.fst TF;have ih:=HS em2 z;unfold eJ at ih⊢;rw[eP,eP,n1];cases decide (e.nm=z)with
  |true=>exact(bV Prod.snd TF)
  |false=>exact ih
def eZ:cK ["_law_feed_here","_law_question_here","_law_tables_here","_law_values_here","_law_put_here","_law_some","_law_turn","_law_k","_law_unknown","_law_turned","_law_name","_law_found"] ["_law_feed_here","_law_question_here","_law_tables_here","_law_values_here"] (defScope qu):=jV (-3)
def RO{f:Addr}{fd:FuncData}(F:fJ K "_law_turned_right" "_law_turned_right" qu f fd)(T:Txt K mg)(D:Dtu P w K mg base):dy P w K mg base f9 9 f fd ["_law_feed_here","_law_question_here","_law_tables_here","_law_values_here"] (yP K):=by
 refine F.ok eZ (λ_ _ _ _ h=>by cases h;subst_vars;rfl) (-4);obtain⟨fe,q,d,vl,hz,ats,es,dk,rfl,b0,dr,k⟩:=h;have hu:=rW hr;have l4:=dr.l4;have v1:=dr.v1;have v4:=dr.v4;refine{_,(aO (mM (i:=4) eZ.nd rfl (Or.inr rfl) nR) (aO (fX 5 eZ (du y7 (pv 3) (nU rfl (df (fs:=["_law_values_here"]) (fr:=[3])) (Rx dG) (λ_ _ _ _=>(eG (qh) (pv 0) (pv 1) (-36))) (λ_ _ _ _=>(pv 0))))) (aO (fX 6 eZ (cl D.fB hr (dA (pv 0) (bZ eC rfl T.fZ bP (cc (pv 5)))))) (aO (iG cz rfl (kj rfl T.mV (cc (bZ eC rfl T.fZ bP (cc (pv 5))))) (kR 7 eZ) (bx (tH hu (pv 4) (cM eW (pv 5) (pv 7) (-12)) (cM eW (pv 5) (du rO (du jW (pv 7) (pv 6)) (bZ eC rfl T.fZ bP (cc (pv 5)))) (-12)) rfl))) (aO (iG cz rfl (gf (cl D.Ax hr (-88))) (kR 8 eZ) (bx (tH hu (pv 4) (pv 8) (du Aq (du Aq (du Aq dG (cM eW (fY (rN dG dG dG)) (-30) (-12))) (Al Q8 (pv 8) (yX aX) (yX aX))) (dR Ue rfl T.Py (-3) (cc (bZ Ui rfl T.fZ bP (cc (pv 4)))))) rfl))) (aO (fX 9 eZ nR) (aO (Ko (iG cz rfl (Vm (pv 2)) (kR 10 eZ) (bx (tH hu (pv 9) (pv 10) (iQ rfl (df (fs:=["_law_put_here"]) (fr:=[4])) (gf (GU hu (pv 2) (pv 10) (-12))) (λ_ _ _ _=>(cl D.Jr hr (dA (pv 0) (pv 1))))) rfl)))) (aO (fX 11 eZ (cl D.counted hr (dA (cl D.EO hr (dA (pv 1) (pv 4))) (pv 9)))) (bx (cW (yZ (RK hr.units) (pv 11) (bZ (L8 (u96 hr)) rfl T.qx (-3) (cc (KA rfl (AI (more:=["_law_many"]) (fs:=["_law_put_here"]) (fr:=[4])) (gf (cl D.counted hr (dA (pv 1) (pv 2)))) (-89) (λ_ _ _ _=>(iH (dA (cl D.Jr hr (dA (pv 0) (pv 2))) (pv 1))))))) (gQ _)))))))))))),?_}
 refine gw λR eR=>?_;intro pd FZ;have Xu:=b0.fe.o9 FZ;have s1:=aK FZ (.dK []);have G8:upd H pd (.dK []) pd=some (.dK (gD [])):=au;generalize upd H pd (.dK [])=H1 at s1 G8⊢;have b1:=b0.same s1;refine dX eR λR eR=>?_;refine{_,rfl,_,rfl,WE (λi ys H2=>H2=H1/\i<=3/\ys=(v9.take i).map V.str) (by show 3<sizeLine;decide) {rfl,aQ _,rfl} (λi ys H2 _ ⟨_,hi,e⟩=>by rw[e,af,aR];lia) ?_ ?_}
 ·rintro i c ys H2 N hc ⟨rfl,hi,rfl⟩ hN;have hx:=aaw hc;have hi3:=(aq.mp hx).1;refine{_,rfl,_,rfl,vl,_,rfl,.inl (aY.of b1.Fh),rfl,xV _,_,rfl,?_};rw[C9];have no:(⟨#[c]⟩:Str)∉dk:=λm=>QM _ (az hx) (dr.vp _ m);refine gO (λ_=>{_,rfl,hN _ _ {rfl,hi3,?_}}) (λq=>absurd (by simp[no]) q);rw[a9,hx,aD];rfl
 rintro ys H2 ⟨rfl,_,rfl⟩ cl nZ;have e3:v9.take ("xyz":Str).cps.size=v9:=rfl;rw[e3];have s2:=aK nZ (.lst (v9.map V.str));refine{vl,cl,_,_,rfl,rfl,s2 _ _ b1.Fh,au,by rw[af,af,bz];show _+3<=_;lia,λsl SN=>?_};rw[<-aD];have s3:=aK SN (.lst ((dk++v9).map V.str));have P0:upd (upd H2 cl (.lst (v9.map V.str))) sl (.lst ((dk++v9).map V.str)) sl=some (.lst ((dk++v9).map V.str)):=au;have lK:=s2.trans s3;have nsl:=(b1.same s2).fe.o9 SN;have spd:sl≠pd:=λe=>by have:=s2 _ _ G8;rw[<-e,SN]at this;cases this
 generalize upd (upd H2 cl (.lst (v9.map V.str))) sl (.lst ((dk++v9).map V.str))=H3 at s3 P0 lK⊢;have b3:=b1.same lK;have P6:=lK _ _ G8;have xX:Ext fe H H3:=Ext.of (s1.trans lK);have ns:=fR.mpr {dr.vn,by decide+kernel,λa ha b hb e=>QM b hb (e▸dr.vp a ha)};have hs:∀z∈dk++v9,z∈kr:=λz h=>(aP.mp h).elim (λh=>bH _ (dr.vp z h)) λh=>bY _ h;have lsm:(dk++v9).length=dk.length+3:=by rw[aC];rfl
 generalize dk++v9=sm at ns hs lsm P0⊢;have lm:(sm.map V.str).length=sm.length:=af _;refine dX eR λR eR=>?_;refine{_,rfl,_,rfl,_,_,rfl,.inl {_,aY.of P0,rfl},fe,_,rfl,b3.fe,by lia,by lia,λtn H4 t0 t1 xT vy=>?_};have ab0:=vy _ _ nsl P0;have ae2:=vy _ _ Xu P6;have afB:=xX.trans vy;refine dX eR λR eR=>?_;refine{_,rfl,_,_,rfl,.inl {_,aY.of ab0,rfl},_,rfl,by lia,by lia,Ga (λi Z H5=>∃(x7:Aan)(rt:Aaf),Z=[some (.ref fe),some (.ref q),some (.ref d),some (.ref vl),some (.ref pd),some (.ref sl),some (.int tn),x7,none,none,none,none]/\dQ K fe H5/\Ext fe H H5/\H5 sl=some (.lst (sm.map V.str))/\H5 pd=some (.dK (gD ((sm.take i).zip rt)))/\rt.length=i/\i<=sm.length/\∀t,t<i->(rt.map V.str)[t]?=(sm.map V.str)[((tn+(0+(t:Int))) %(((sm.map V.str).length:Nat):Int)).toNat]?) {_,[],rfl,xT,afB,ab0,ae2,rfl,aQ _,λt ht=>absurd ht (f6 _)} ?_ ?_}
 ·rintro i Z H5 D' hi ⟨x7,rt,rfl,k9,ju,Lw,G7,lr,_,XZ⟩ nx -;have Ce:i<sm.length:=by lia
  have q0:(0:Int)<(((sm.map V.str).length:Nat):Int):=by lia
  have q1:=iM ((0+(i:Int))+tn) (show(((sm.map V.str).length:Nat):Int)≠0 by lia);have q2:=iu ((0+(i:Int))+tn) q0;obtain⟨y,hy,ev⟩:=kZ (zs:=sm) q1 ∅;obtain⟨z,jn,ez⟩:=kZ (zs:=sm) (i:=0+(i:Int)) ∅ ∅;have hzi:sm[i]?=some z:=by have:pX (sm.map V.str) ((i:Nat):Int)=some (.str sm[i]):=jE (by rw[aL,ao Ce];rfl);rw[sI,this]at ez;rw[ao Ce];injection ez with ez;injection ez with ez;rw[ez]
  refine{_,rfl,_,rfl,_,rfl,_,_,rfl,rfl,_,rfl,_,_,rfl,.inl {_,aY.of Lw,rfl},_,_,rfl,rfl,q0,_,_,_,_,rfl,rfl,aY.of Lw,ev,_,rfl,_,rfl,_,rfl,_,_,_,_,rfl,rfl,aY.of Lw,ez,pd,_,rfl,.inl {_,Sum.inr z,G7,rfl,bO (by unfold gD;rw[af,jL,aR];lia),rfl},nx _ _ {_,rt++[y],rfl,k9.dic G7 Xu _,ju.own FZ _,by rw[ay spd];exact Lw,?_,by rw[aC,lr];rfl,Ce,λt ht=>?_}}
  ·rw[au,NI,NH λp hp e=>?_,a9,hzi,cq,JB (by rw[aR];lia)];have hm:=(jK hp).1;rw[e]at hm;obtain⟨j,hj⟩:=cP.mp hm;have IG:=(aq.mp hj).1;rw[aR]at IG;rw[uS,aG ∅]at hj;have:=(lC ∅ ns).mp (hj.trans hzi.symm);lia
  ·by_cases c:t=i
   ·subst c;rw[aD,bU (by rw[af];lia),af,lr,lW];have e0:((0+(t:Int))+tn) %(((sm.map V.str).length:Nat):Int)=((((tn+(0+(t:Int))) %(((sm.map V.str).length:Nat):Int)).toNat:Nat):Int):=by rw[Int.add_comm tn];lia
    rw[e0]at ev;rw[acE ∅ ev];rfl
   ·rw[aD,cN (by rw[af];lia)];exact XZ t ∅
 rintro Z H5 ⟨x7,rt,rfl,k9,ju,Lw,G7,lr,_,XZ⟩;have lrs:rt.length=sm.length:=by lia
 rw[show(((sm.map V.str).length:Nat):Int).toNat=sm.length by lia,bg]at G7;have nr:=BV (HU (As ns) (by rw[af,af];lia) λt ht=>XZ t (by rw[af]at ht;lia));have fL:∀z∈rt,z∈sm:=λz hm=>by obtain⟨j,hj⟩:=cP.mp hm;have e:=XZ j (by have:=(aq.mp hj).1;lia);rw[aL,hj]at e;obtain⟨y,hy,e2⟩:=ar.mp (az e.symm);injection e2 with e2;exact e2▸hy
 refine dX (T:=R) eR λR eR=>?_;have b5:=b0.ext k9 ju;refine{_,rfl,.ref q,hz,ats,rfl,b5.qa,dr.good,l4,λul us H6 s6 Lq D5 nd mu l6=>?_};have wL:=xW k9 s6;have nA:=ju.trans (Ext.of s6);have ae1:=s6 _ _ G7;have up:∀z∈us,z∈g6:=λz h=>by obtain⟨u,h⟩:=(mu z).mp h;obtain⟨b,hb,h⟩:=ip.mp h;obtain⟨_,_,_,_,_,h6⟩:=AS ((dr.good b hb).2.1 z h);exact h6 u
 have ds:∀z∈us,z∉sm:=λz h m=>by have:=Bw z (hs z m);rw[((mu z).mp h).1]at this;cases this
 have lz:(sm.zip rt).length=sm.length:=by rw[jL];lia
 refine{ul,rfl,{_,aY.of D5},xU (λi Z H7=>∃(x8:Aan)(nw:Aaf),Z=[some (.ref fe),some (.ref q),some (.ref d),some (.ref vl),some (.ref pd),some (.ref sl),some (.int tn),x7,x8,none,none,none]/\dQ K fe H7/\Ext fe H H7/\H7 ul=some (.lst (us.map V.str))/\H7 pd=some (.dK (gD (sm.zip rt++(us.take i).zip nw)))/\nw.length=i/\i<=us.length/\∀(j:Nat) z,nw[j]?=some z->∃c u,c∈(["q","x","12"]:Aaf)/\u∈g6/\z=DO c u (qT.getD (dk.length+j -1) "")) {_,[],rfl,wL,nA,D5,by rw[zI,DA,c8];exact ae1,rfl,aQ _,λj z h=>by cases h} (λi Z H7 _ hq=>by(obtain⟨_,_,_,_,_,h,_⟩:=hq;exact aY.of h)) ?_ ?_}
 ·rintro i x Z H7 D' hx ⟨x8,nw,rfl,og,jC,aeU,Cb,ln,_,SX⟩ nx -;obtain⟨u,SM,rfl⟩:=kA hx;have hi:=(aq.mp SM).1;have huP:=up u (az SM);refine{(by show 3<=sizeLine;decide),λcl nZ=>?_};have afi:upd H7 cl (.lst [V.str "q",V.str "x",V.str "12"]) cl=some (.lst [V.str "q",V.str "x",V.str "12"]):=au;have s7:=aK nZ (.lst [V.str "q",V.str "x",V.str "12"]);refine{_,rfl,fe,3,rfl,xW og s7,by decide,by decide,λi3 H9 j0 j1 Bi qQ=>?_};obtain⟨c,hc,ev⟩:=kZ (zs:=(["q","x","12"]:Aaf)) j0 (by show _<(3:Int);lia);obtain⟨lu,lc,lsl⟩:=ac6 c hc u huP;have Wu:=(Ext.of s7).trans qQ;have G6:=Wu _ _ Xu Cb;have lg:(gD (sm.zip rt++(us.take i).zip nw)).length=dk.length+i+3:=by unfold gD;rw[af,aC,lz,jL,aR];lia
  have l3:(("?":Str)++c).length<=20:=by
   have:(("?":Str)++c).length=1+c.length:=by show(_++_:Array Nat).size=_;rw[vH];rfl
   lia
  have app:∀a b:Str,(a++b).length=a.length+b.length:=λa b=>by show(_++_:Array Nat).size=_;rw[vH];rfl
  have edg:Str.ofString (toString (((gD (sm.zip rt++(us.take i).zip nw)).length:Nat):Int))=qT.getD (dk.length+i -1) "":=by rw[lg,show dk.length+i+3=(dk.length+i -1)+4 by lia];exact adM _ ∅
  have ld:(qT.getD (dk.length+i -1) "").length<=10:=by
   have:∀j,j<9->(qT.getD j "").length<=10:=by decide+kernel
   exact this _ ∅
  refine{_,_,_,_,rfl,rfl,aY.of (qQ _ _ (og.o9 nZ) afi),ev,_,_,rfl,rfl,by rw[bz];show 1+_<=_;lia,_,rfl,_,rfl,_,rfl,u,rfl,by rw[bz];lia,_,_,rfl,rfl,by rw[bz];lia,_,rfl,pd,_,rfl,G6,_,rfl,by rw[lg];exact cU (Nat.log2_le_self _) (by show((_:Nat):Int).natAbs<1920;lia),?_};rw[edg];refine{_,_,rfl,rfl,by rw[app,bz];lia,_,rfl,_,rfl,pd,_,rfl,.inl {_,Sum.inr u,G6,rfl,bO ∅,rfl},nx _ _ {_,nw++[DO c u (qT.getD (dk.length+i -1) "")],rfl,Bi.dic G6 Xu _,(jC.trans Wu).own FZ _,by rw[ay (λe=>by rw[e,G7]at Lq;cases Lq)];exact Wu _ _ (k9.o9 Lq) aeU,?_,by rw[aC,ln];rfl,hi,λj z h=>?_}}
  ·rw[au];show some (HO.dK (putK _ _ (V.str (DO c u (qT.getD (dk.length+i -1) "")))))=_;rw[NI,NH λp hp e=>?_,a9,SM,cq,JB (by rw[aR];lia),dw];rcases aP.mp hp with hp|hp
   ·exact ds u (az SM) (e▸(jK hp).1)
   ·have hm:=(jK hp).1;rw[e]at hm;obtain⟨j,hj⟩:=cP.mp hm;have IG:=(aq.mp hj).1;rw[aR]at IG;rw[uS,aG ∅]at hj;have:=(lC ∅ nd).mp (hj.trans SM.symm);lia
  ·by_cases cj:j<nw.length
   ·rw[cN cj]at h;exact SX j z h
   ·have hjn:=(aq.mp h).1;rw[aC]at hjn;have ej:j=i:=by have:nw.length+1>j:=hjn;lia
    rw[ej,bU ∅,ln,lW]at h;cases h;exact{c,u,hc,huP,by rw[ej]}
 rintro Z H7 ⟨x8,nw,rfl,og,jC,_,Cb,ln,_,SX⟩;rw[af]at ln;rw[af,bg]at Cb;have eu:=λz=>(mu z).trans mq.symm;have dgm:∀j,j<us.length->qT.getD (dk.length+j -1) ""∈qT:=λj hj=>by
  have:∀j,j<9->qT.getD j ""∈qT:=by decide+kernel
  exact this _ ∅
 have po:AY sm (fS (cS ats)) (sm.zip rt++us.zip nw):=by
  have p:=Ve ns lrs.symm nr fL nd ln.symm ds (λj z h=>?_) λi j z h1 h2=>?_
  ·exact{p.vs,p.vi,λx hx=>p.uk x ((eu x).mpr hx),λx hx y hy=>p.ui x ((eu x).mpr hx) y ((eu y).mpr hy),λx h1 h2=>p.no x h1 λh=>h2 ((eu x).mp h)}
  ·have lj:=(aq.mp h).1;obtain⟨c,u,hc,qO,rfl⟩:=SX j z h;obtain⟨a1,a2,a3⟩:=ade c hc u qO _ (dgm j ∅);exact{a1,a2,aJ a3 (-9)}
  ·have l1:=(aq.mp h1).1;have l2:=(aq.mp h2).1;obtain⟨c,u,_,_,e1⟩:=SX i z h1;obtain⟨c',u',_,_,e2⟩:=SX j z h2;have inj:∀a,a<9->∀b,b<9->qT.getD a ""=qT.getD b ""->a=b:=by decide+kernel
   have:=inj _ ∅ _ ∅ (abm (dgm i ∅) (dgm j ∅) (e1.symm.trans e2));lia
 generalize sm.zip rt++us.zip nw=g at po Cb;refine dX (T:=R) eR λR eR=>?_;intro td xM;have ntd:=og.o9 xM;have tpd:td≠pd:=λe=>by rw[e,Cb]at xM;cases xM
 have s8:=aK xM (.dK []);have Lr:upd H7 td (.dK []) td=some (.dK []):=au;have acp:=jC.none ntd xM;generalize upd H7 td (.dK [])=H8 at s8 Lr⊢;have sR:=xW og s8;have zy:=jC.trans (Ext.of s8);have ab4:=s8 _ _ Cb;have b8:=b0.ext sR zy;have Ov:=b8.tb.2.1;have dtd:d≠td:=λe=>by have:=b0.tb.2.1;rw[e,acp]at this;cases this
 have dpd:d≠pd:=λe=>by have:=b0.tb.2.1;rw[e,FZ]at this;cases this
 have nmn:=b0.tb.2.2.1;have les:=b0.tb.2.2.2.1;refine dX eR λR eR=>?_;have R0:∀o v,H8 d≠some (.fg o v):=λo v e=>by rw[Ov]at e;cases e
 refine{d,R0,_,rfl,d,_,_,rfl,Ov,.inl ⟨_,rfl,rfl⟩,λo=>?_};refine Qk (λi Z H9=>∃(Hx:Aan)(pf:List En),Z=[some (.ref fe),some (.ref q),some (.ref d),some (.ref vl),some (.ref pd),some (.ref sl),some (.int tn),x7,x8,some (.ref td),Hx,none]/\(∀b u,b≠d->b≠td->H8 b=some u->H9 b=some u)/\H9 d=some (.fg o (-76))/\H9 td=some (.dK (pf.map jX))/\pf.map (λe=>(e.nm,e.rows))=(es.take i).map (λe=>(e.nm,e.rows.map λr=>r.map (eK g)))/\i<=es.length/\∀e∈pf,H9 e.ad=some (.lst e.ys)/\dJ K H9 e.ys e.rows) {_,[],rfl,λb u n _ e=>by rw[ay n];exact e,au,by rw[ay dtd.symm];exact Lr,rfl,aQ _,λe h=>by cases h} (λi Z H9 _ ⟨_,_,_,_,h,_⟩=>h) ?_ ?_
 ·rintro i kv Z H9 D' lP ⟨Hx,pf,rfl,kp,Ou,G4,em,_,he9⟩ nx -;rw[aV,aL]at lP;obtain⟨e,LJ,ekv⟩:=bq.mp lP;subst ekv;have hi:=(aq.mp LJ).1;have he:=az LJ;obtain⟨_,_,Tc,hR,hg,zp⟩:=b8.tb.2.2.2.2 e he;have ly:=bh hR;have ach:=kp _ _ (λz=>by rw[z,Ov]at Tc;cases Tc) (λz=>by rw[z,Lr]at Tc;cases Tc) Tc;have hR9:dJ K H9 e.ys e.rows:=Paired.u4 hR λy r ⟨b,e1,_,hb⟩=>{b,e1,bC.of (kp _ _ (λz=>by rw[z,Ov]at hb;cases hb) (λz=>by rw[z,Lr]at hb;cases hb) hb)};refine{_,rfl,_,rfl,d,.ref e.ad,rfl,.inl {es.map jX,Sum.inr e.nm,.inr ⟨o,Ou⟩,rfl,(Gz nmn he).symm},e.ad,rfl,{_,aY.of ach},ir (λj ys qY=>bI H9 qY/\j<=e.rows.length/\dJ K qY ys ((e.rows.take j).map λr=>r.map (eK g))) (by rw[ly];exact bO ∅) {bI.refl _,aQ _,.nil} ?_ ?_ ?_}
  ·rintro j ys qY hj ⟨iz,_,hy⟩;have:=bh hy;rw[af,aR]at this;exact{aY.of (iz _ _ ach),by lia}
  ·rintro j y ys qY N hy ⟨iz,hj,pW⟩ hN;obtain⟨r,D8,ra,rfl,wJ⟩:=Paired.at' hR9 hy;have jY:=(aq.mp D8).1;refine C3 {_,rfl,_,rfl,ra,pd,r,g,rfl,dW wJ iz,iz _ _ (kp _ _ dpd.symm tpd.symm ab4),aJ (hg r (az D8)).2.1 (-9),λr' zK mK fL=>hN _ _ {iz.trans mK,jY,?_}};rw[a9,D8,cq,aD];exact Paired.uc (cI pW mK) {r',rfl,bC.of fL}
  ·rintro ys qY ⟨iz,_,pW⟩ l hl;rw[ly,bg]at pW;have mK:=aK hl (-39);have Js:=mK _ _ (iz _ _ G4);have afe:upd qY l (-39) l=some (-39):=au;have N3:l≠td:=λz=>by rw[z,iz _ _ G4]at hl;cases hl
   have ads:=cI pW mK;have Ah:=iz.trans mK;have l2:pf.length=i:=by have:=bV List.length em;rw[af,af,aR]at this;lia
   have no:∀x∈pf,x.nm≠e.nm:=λx hx z=>by
    have:(x.nm,x.rows)∈pf.map λe=>(e.nm,e.rows):=ar.mpr ⟨x,hx,rfl⟩;rw[em]at this;obtain⟨y,hy,e'⟩:=ar.mp this;have e1:y.nm=x.nm:=bV Prod.fst e';obtain⟨j,hj⟩:=cP.mp hy;have IG:=(aq.mp hj).1;rw[aR]at IG;rw[uS,aG ∅]at hj;have q1:(es.map (·.nm))[j]?=some e.nm:=by rw[aL,hj,d7,e1,z]
    have q2:(es.map (·.nm))[i]?=some e.nm:=by rw[aL,LJ];rfl
    have:=(lC (by rw[af];lia) nmn).mp (q1.trans q2.symm);lia
   have ep:putK (pf.map jX) (Sum.inr e.nm) (V.ref l)=(pf++[{e.nm,l,ys,e.rows.map λr=>r.map (eK g)}]:List En).map jX:=by
    unfold putK;rw[aw λc=>by obtain⟨p,hp,e'⟩:=ic.mp c;obtain⟨x,hx,rfl⟩:=ar.mp hp;exact no x hx (by injection (aW e')),aD]
    rfl
   refine{_,rfl,_,rfl,td,_,rfl,.inl {_,Sum.inr e.nm,Js,rfl,bO (by rw[af];lia),rfl},nx _ _ {_,pf++[{e.nm,l,ys,e.rows.map λr=>r.map (eK g)}],rfl,λb u n1 n2 h=>?_,?_,by rw[au,ep],?_,hi,λx hx=>?_}}
   ·rw[ay n2];exact Ah _ _ (kp b u n1 n2 h)
   ·rw[ay dtd];exact Ah _ _ Ou
   ·rw[aD,em,a9,LJ,cq,aD];rfl
   ·rcases aP.mp hx with hx|hx
    ·obtain⟨x1,x2⟩:=he9 x hx;have x1:=Ah _ _ x1;exact{by rw[ay (oU x1 Js λz=>by cases z)];exact x1,(cI x2 Ah).keep λa xs q=>JS q Js}
    ·rw[ax.mp hx];exact{by rw[ay N3];exact afe,ads.keep λa xs q=>JS q Js}
 rintro Z H9 ⟨Hx,pf,rfl,kp,Ou,G4,em,_,he9⟩;rw[af,af,bg]at em;refine{o,_,Ou,?_};have qQ:Ext fe H (upd H9 d (-76)):=λb u n h=>by
  have h8:=zy _ _ n h;by_cases c:b=d
  ·rw[c,Ov]at h8;rw[c,au,h8]
  ·rw[ay c];exact kp _ _ c (λz=>by rw[z,acp]at h;cases h) h8
 have kp8:∀b u,b≠td->H8 b=some u->upd H9 d (-76) b=some u:=λb u n h=>by
  by_cases c:b=d
  ·rw[c,Ov]at h;rw[c,au,h]
  ·rw[ay c];exact kp _ _ c n h
 have Bi:dQ K fe (upd H9 d (-76)):=by
  obtain⟨a,ns',x,y,z,hf,h1,h2,h3,hS,hn⟩:=sR;refine{a,ns',x,y,z,kp8 _ _ ntd.symm hf,h1,h2,h3,?_,hn};rcases hS with⟨ob,h⟩|h
  ·exact .inl {ob,kp8 _ _ (λz=>by rw[z,Lr]at h;cases h) h}
  ·exact .inr h
 have G6:=kp8 _ _ tpd.symm ab4;have fz:∀{b:Addr}{u:HO},(∀o v,u≠ .fg o v)->H9 b=some u->upd H9 d (-76) b=some u:=λn h=>by rw[ay λz=>by rw[z,Ou]at h;cases h;exact n _ _ rfl];exact h
 have G4:=fz (λ_ _ z=>by cases z) G4;have Fo:jj K (upd H9 d (-76)) td pf:={G4,?_,λe he=>?_};rotate_left
 ·have:=bV (List.map Prod.fst) em;rw[aV,aV]at this;rw[show pf.map (·.nm)=es.map (·.nm)from this];exact nmn
 ·obtain⟨h1,h2⟩:=he9 e he;have:(e.nm,e.rows)∈pf.map λe=>(e.nm,e.rows):=ar.mpr ⟨e,he,rfl⟩;rw[em]at this;obtain⟨x,hx,e'⟩:=ar.mp this;have e2:e.rows=x.rows.map λr=>r.map (eK g):=(bV Prod.snd e').symm;obtain⟨_,_,_,_,hg,zp⟩:=b0.tb.2.2.2.2 x hx;refine{fz (λ_ _ z=>by cases z) h1,h2.keep λa xs q=>?_,by rw[e2,af];lia,λr fL=>?_}
  ·rcases q with(q|⟨o',q⟩)|q
   ·exact .inl (.inl (fz (λ_ _ z=>by cases z) q))
   ·by_cases c:a=d
    ·rw[c,Ou]at q;cases q
    ·exact .inl (.inr {o',by rw[ay c];exact q})
   ·exact .inr q
  ·rw[e2]at fL;obtain⟨r0,Lx,rfl⟩:=ar.mp fL;obtain⟨g1,g2,g3⟩:=hg r0 Lx;refine{by rw[af];exact g1,by rw[af];exact g2,λz jn=>?_};obtain⟨t,ht,rfl⟩:=ar.mp jn;have hv:=g3 t ht;by_cases c:t∈sm
   ·exact hs _ (po.vs t c)
   ·rw[po.no t c λm=>by have:=Bw t (bH _ hv);rw[(mq.mp m).1]at this;cases this]
    exact bH _ hv
 have hrw:=HS em;have I0:=b0.ext Bi qQ;have lh:=dr.bj.1;refine dX (T:=R) eR λR eR=>?_;refine{_,rfl,_,rfl,.ref q,pd,hz,ats,g,rfl,I0.qa,G6,by lia,by lia,(λa ha=>aJ (dr.good a ha).1 (-9)),λpq zK mK afq=>?_};have hA:=VL po hs dr.bj;refine{_,rfl,.ref pq,td,pf,_,_,rfl,afq,VM po hs dr.good,hA,by unfold pG;rw[af];lia,Fo.same mK,λl1 zs1 Ak Mi DK _ lO HV HW pp1 _=>?_};have Ai:=mK.trans DK;have Ma:=I0.same Ai;refine v7 eR ?_;refine{_,rfl,_,rfl,_,rfl,.ref q,d,es,hz,ats,rfl,Ma.qa,dr.good.A,dr.bj.A,by lia,Ma.tb.r,λl2 JA gM uV lK _ g8 pV wx pp2 Wt=>?_};have Tn:=Ng b0.tb po hs hrw;have hh:=λt ht u=>mq.mpr {u,(dr.bj.2 t ht).2 u};have aa5:∀row,row∈cA gM↔∃g,AskP.hU isUnk (eJ es) ats g/\row=hz.map g:=λrow=>by rw[(cb _).mem_iff,wx];exact Cj λg=>tU λ_=>J3.symm
 have ll2:JA.length=(cA gM).length:=by rw[bh pp2,af]
 have lr2:(cA gM).length<=400000:=by rw[(cb _).length_eq];exact Wt
 have pr2:=NJ pp2;refine{l2,rfl,{_,aY.of g8},QB (λj kQ vF=>bI uV vF/\j<=(cA gM).length/\Paired (yA K (num pf (hz.map (eK g)) (pG g ats)) vF) kQ (((cA gM).take j).map λr=>r.map (eK g))) (by rw[ll2,bz];lia) {bI.refl _,aQ _,.nil} ?_ ?_ ?_}
 ·rintro j kQ vF hj ⟨o8,_,hy⟩;have:=bh hy;rw[af,aR]at this;exact{aY.of (o8 _ _ g8),by lia}
 ·rintro j y kQ vF N hy ⟨o8,hj,pW⟩ hN;obtain⟨r,D8,p2,g2,rfl,uI,hg2⟩:=Paired.at pr2 hy;have jY:=(aq.mp D8).1;obtain⟨gg,hgg,er⟩:=(wx r).mp ((cb _).mem_iff.mp (az D8));refine{p2,_,_,rfl,dW uI o8,C3 {_,rfl,_,rfl,g2,pd,r,g,rfl,dW hg2 o8,o8 _ _ (lK _ _ (Ai _ _ G6)),by rw[er,af];lia,λr' H15 xA fL=>{_,rfl,(-17),λt ht=>hN _ _ ?_}}};have Fy:=aK ht (.tup [V.ref r',V.int (num es hz ats r)]);refine{o8.trans (xA.trans Fy),jY,?_};rw[a9,D8,cq,aD];refine Paired.uc (xC pW (xA.trans Fy)) {t,r',rfl,?_,bC.of (Fy _ _ fL)};rw[VB b0.tb Fo po hs hrw dr.bj ⟨gg,hgg,er⟩];exact bC.of au
 rintro kQ vF ⟨o8,_,pW⟩ l3 IE;rw[ll2,bg]at pW;have xA:=aK IE (.lst kQ);have Wa:upd vF l3 (.lst kQ) l3=some (.lst kQ):=au;refine{l3,kQ,_,_,rfl,aY.of Wa,xC pW xA,by rw[af];lia,λc xq hc Iw _=>?_};have Fy:=aK hc (.lst xq);have xB:=lK.trans (o8.trans (xA.trans Fy));have er:=GG HV (Tn.nodup hh ((cb _).nodup_iff.mpr pV) λr h=>(aa5 r).mp h) λr=>by rw[HW,Tn.rows hh aa5 r];exact Cj λg=>tU λ_=>J3.symm
 obtain⟨sh,ev⟩:=Ka (l:=(cA Ak).map λr=>(r,num pf (hz.map (eK g)) (pG g ats) r)) λx hx=>by obtain⟨r,fL,rfl⟩:=ar.mp hx;exact(qJ (K:=K) (Fo.same mK) hA HW) r fL
 rw[<-er]at Iw;refine{rM _,rM _,TK (aY.of (xB _ _ lO)) (xC (NJ pp1) xB),TK (aY.of au) (xC Iw Fy),sh,sh,?_};rw[ev];exact k _ (Ma.same xB).fe (qQ.trans (Ext.of (Ai.trans xB)))
def Zp{X:Cx}{e st:Expr}{te ts:TE}{p2 pos:Pos}(he:PE X e te)(g7:PE X st ts)(h:X.K=K:=by rfl):PE X (.Subscript e (.Slice none none (some st) p2) pos) (aaN K te ts):=h▸Rz he g7
inductive Jl(K:Frag)(vs:Aam)(H:Hp)(Q:VK)(_x3:XK):Prop
 |mk (a:Addr) (ns:List Int) (_:vs=[.ref a]) (_:wW K H a (ns.map V.int)) (_:ns.length<=63) (_:∀H',Q (.bl true) H')
structure Dq(P:Program)(w:World)(K:Frag)(mg:Aab)(base:Heap):Prop where
 abz:dz P w K mg base 1 "_law_feed" ["_law_script"] (Q2 K)
 ZT:dz P w K mg base 3 "_law_names" ["_law_feed_here"] (Fq K qL 3)
 VQ:dz P w K mg base 3 "_law_values" ["_law_feed_here"] (Fq K eA 4)
 PQ:dz P w K mg base 3 "_law_question" ["_law_feed_here","_law_names_here","_law_values_here","_law_most"] (Fs K)
 VR:dz P w K mg base 3 "_law_tables" ["_law_feed_here","_law_names_here","_law_values_here"] (JU K)
 FV:dz P w K mg base 9 "_law_more_and_less" ["_law_feed_here","_law_question_here","_law_tables_here","_law_values_here"] (yP K)
 MM:dz P w K mg base 9 "_law_put_right" ["_law_feed_here","_law_question_here","_law_tables_here","_law_values_here"] (yP K)
 G3:dz P w K mg base 9 "_law_turned_right" ["_law_feed_here","_law_question_here","_law_tables_here","_law_values_here"] (yP K)
 answers:dz P w K mg base 8 "answers" ["question","tables"] (xw K)
def uz:cK ["_law_script","_law_feed_here","_law_k","_law_names_here","_law_values_here","_law_question_here","_law_tables_here","_law_back"] ["_law_script"] (defScope O8):=jV (-3)
def abl(F:fJ K "law" "law" O8 f fd)(T:Txt K mg)(D:Dq P w K mg base):dy P w K mg base f9 10 f fd ["_law_script"] (Jl K):=by
 refine F.ok uz (λ_ _ _ _ h=>by cases h;subst_vars;rfl) (-4);obtain⟨a,ns,rfl,hS,hn,k⟩:=h;refine{_,(aO (fX 1 uz (cl D.abz hr (cc (pv 0)))) (aO (iG cz rfl (kj rfl T.mV (cc aX)) (kR 2 uz) (aO (fX 3 uz (cl D.ZT hr (-88))) (aO (fX 4 uz (cl D.VQ hr (-88))) (aO (fX 5 uz (cl D.PQ hr (fC (pv 1) (rN (pv 3) (pv 4) aX)))) (aO (fX 6 uz (cl D.VR hr (rN (pv 1) (pv 3) (pv 4)))) (aO (ka (FC (yV (cl D.FV hr (fC (pv 1) (rN (pv 5) (pv 6) (pv 4)))))) (bx (cW ue)) gN) (aO (ka (FC (yV (cl D.MM hr (fC (pv 1) (rN (pv 5) (pv 6) (pv 4)))))) (bx (cW ue)) gN) (aO (ka (FC (yV (cl D.G3 hr (fC (pv 1) (rN (pv 5) (pv 6) (pv 4)))))) (bx (cW ue)) gN) (aO (fX 7 uz (cl D.answers hr (dA (iH (dA (Rz (cM il (pv 5) aX (-12)) (Jo Fn aX)) (cM il (pv 5) aX (-12)))) (pv 6)))) (bx (ka (eG (abh hr.units) (pv 7) (bZ L7 rfl T.qx (-3) (cc (iQ rfl (df (fs:=[]) (fr:=[])) (gf (cl D.answers hr (dA (pv 5) (pv 6)))) (λ_ _ _ _=>(Zp (pv 0) (Jo Fn aX)))))) (gQ _)) (bx (cW ue)) gN))))))))))) (bx (cW ue)))),?_}
 refine{_,rfl,a,ns,rfl,hS,hn,λfe H1 wM Xg hfe=>?_};refine{4,rfl,by decide,by decide,Ga (λi Z H2=>∃(x2 x3 x4 x5 x6 x7:Aan),Z=[some (-64),some (.ref fe),x2,x3,x4,x5,x6,x7]/\dQ K fe H2) ⟨_,_,_,_,_,_,rfl,wM⟩ ?_ ?_}
 ·rintro i Z H2 D' hi ⟨x2,x3,x4,x5,x6,x7,rfl,se⟩ nx -;refine{_,rfl,fe,rfl,se,λnl nys H3 IJ xX FP IC ln1 ln2 hny _=>?_};refine{_,rfl,fe,rfl,IJ,λvl vys H4 xT vy xD D3 XC lv2 hvy vnd=>?_};obtain⟨sN,rfl,hnm⟩:=C1 hny;obtain⟨dk,rfl,XR⟩:=C1 hvy;rw[af]at ln1 ln2 XC lv2;have hn4:=vy _ _ FP IC;refine{_,rfl,_,rfl,_,rfl,fe,nl,vl,4,sN,dk,rfl,xT,FP,xD,hn4,ln1,by lia,hnm,{D3,XC,by lia,λz hz=>bH _ (bY _ (XR z hz))},XR,by decide,by decide,λq hz ats H5 k9 ju hQ5 l5a l5 good bj=>?_};refine{_,rfl,_,rfl,_,rfl,fe,nl,vl,sN,dk,rfl,k9,FP,xD,ju _ _ FP hn4,by lia,λz hz=>bH _ (hnm z hz),ju _ _ xD D3,XC,lv2,XR,λd kvs H6 wL nA hT0 _=>?_};obtain⟨es,rfl,hT⟩:=hT0.tabs;have b6:Bg K fe q d vl hz ats es dk H6:={wL,sW.ext (f:=fe) hQ5 (k9.lH nA),hT,xD,nA _ _ xD (ju _ _ xD D3)};have dr:Drw hz ats dk:={good,bj,l5a,by lia,XC,lv2,XR,BV vnd};refine{_,rfl,_,rfl,_,rfl,_,rfl,fe,q,d,vl,hz,ats,es,dk,rfl,b6,dr,λH7 og jC=>{_,rfl,yq ?_}};have b7:=b6.ext og jC;refine{_,rfl,_,rfl,_,rfl,_,rfl,fe,q,d,vl,hz,ats,es,dk,rfl,b7,dr,λH8 sR zy=>{_,rfl,yq ?_}};have b8:=b7.ext sR zy;refine{_,rfl,_,rfl,_,rfl,_,rfl,fe,q,d,vl,hz,ats,es,dk,rfl,b8,dr,λH9 Bi qQ=>{_,rfl,yq ?_}};have b9:=b8.ext Bi qQ;obtain⟨_,h0,aa,jo,e,hq,hh,Be,hA⟩:=id b9.qa;cases e;have l4:=dr.l4;refine{_,rfl,_,_,_,_,rfl,rfl,bC.of hq,rfl,_,rfl,rfl,h0,_,rfl,bC.of hh,λhp hhp=>?_};have iz:=aK hhp (.tup (hz.map V.str).reverse);refine{_,rfl,_,_,_,_,rfl,rfl,bC.of (iz _ _ hq),rfl,(-17),λqr hqr=>?_};have mK:=aK hqr (.tup [V.ref hp,V.ref aa]);have Ah:=iz.trans mK;have hQ:sW (upd (upd H9 hp (.tup (hz.map V.str).reverse)) qr (.tup [V.ref hp,V.ref aa])) (.ref qr) hz.reverse ats:={qr,hp,aa,jo,rfl,au,mK _ _ (by rw[au,qF]),Ah _ _ Be,lT hA Ah};have hR:vY hz.reverse ats:={by rw[sY];exact dr.bj.1,λz h=>dr.bj.A.2 z (jk.mp h)};refine{_,rfl,.ref qr,d,es,_,_,rfl,hQ,dr.good.A,hR,by lia,(b9.same Ah).tb.r,λl1 zs1 Ak Mi DK _ lO Ox HV HW _ _=>?_};have Ma:=b9.same (Ah.trans DK);refine{_,rfl,_,rfl,_,rfl,.ref q,d,es,hz,ats,rfl,Ma.qa,dr.good.A,dr.bj.A,by lia,Ma.tb.r,λl2 JA gM uV lK _ g8 Bh pV wx _ Wt=>?_};have Sb:=bh Bh;have lr2:(cA gM).length<=400000:=by rw[(cb _).length_eq];exact Wt
  refine{l2,rfl,{_,aY.of g8},ir (λj ys vF=>bI uV vF/\j<=(cA gM).length/\dJ K vF ys (((cA gM).take j).map List.reverse)) (by rw[Sb,bz];lia) {bI.refl _,aQ _,.nil} ?_ ?_ ?_}
  ·rintro j ys vF hj ⟨o8,_,hy⟩;have:=bh hy;rw[af,aR]at this;exact{aY.of (o8 _ _ g8),by lia}
  ·rintro j y ys vF N hy ⟨o8,hj,pW⟩ hN;obtain⟨r,D8,ra,rfl,wJ⟩:=Paired.at' Bh hy;have jY:=(aq.mp D8).1;refine C3 {_,rfl,_,rfl,rfl,ra,_,rfl,dW wJ o8,λp F1=>hN _ _ ?_};have xA:=aK F1 (.tup (r.map V.str).reverse);refine{o8.trans xA,jY,?_};rw[a9,D8,cq,aD];refine Paired.uc (cI pW xA) {p,rfl,bC.of ?_};rw[qF];exact au
  rintro ys vF ⟨o8,_,pW⟩ l3 IE;rw[Sb,bg]at pW;have xA:=aK IE (-39);have Wa:upd vF l3 (-39) l3=some (-39):=au;have nr:((cA gM).map List.reverse).Nodup:=cH.mpr (((cb _).nodup_iff.mpr pV).imp λne e=>ne (List.reverse_inj.mp e));have er:=GG HV nr λr=>by
   rw[HW,ar];constructor
   ·rintro⟨g,hg,rfl⟩;exact{hz.map g,(cb _).mem_iff.mpr ((wx _).mpr ⟨g,hg,rfl⟩),qF.symm}
   ·rintro⟨x,hx,rfl⟩;obtain⟨g,hg,rfl⟩:=(wx x).mp ((cb _).mem_iff.mp hx);exact{g,hg,qF.symm}
  have NS:=qJ (K:=K) b9.tb.r hR HW;refine{l3,ys,_,rfl,aY.of Wa,cI pW xA,λh2 r fL e=>?_,by rw[af];lia,λl4' zs4 zr hR4 _=>?_}
  ·obtain⟨x,hx,rfl⟩:=ar.mp fL;obtain⟨g,_,e'⟩:=(wx x).mp ((cb _).mem_iff.mp hx);have ez:=jc.mp (e'.symm.trans (List.reverse_eq_nil_iff.mp e));have:=gY (m:=[[]]) nr λr fL=>by obtain⟨x,hx,rfl⟩:=ar.mp fL;obtain⟨g,_,e'⟩:=(wx x).mp ((cb _).mem_iff.mp hx);rw[e',ez];exact aA
   exact absurd h2 (by have:((cA gM).map List.reverse).length<=1:=this;lia)
  have Fy:=aK zr (.lst zs4);have xB:=lK.trans (o8.trans (xA.trans Fy));refine{rH (cA Ak),rH _,zB (aY.of (xB _ _ lO)) (cI Ox xB),zB (aY.of au) (cI hR4 Fy),ud NS,er▸ud NS,?_};rw[LX,aT er];exact{_,rfl,yq (nx _ _ {_,_,_,_,_,_,rfl,(Ma.same xB).fe})}
 ·rintro Z H2 ⟨x2,x3,x4,x5,x6,x7,rfl,se⟩;exact k H2
end
end mS
namespace Hd
open PySem PySem.W PyProof.Rows PySem.W.Fast
abbrev pos0:Pos:={0,0,0,0}
abbrev tb:=tw14364793385576792824
abbrev an0:Option Value:=some (.ref 6)
def env0(p:Program):Env:={scope:=p.main.scope,locals:=mainNs,globals:=mainNs,cells:=[],code:=.ref 13,frame:=some 14}
def cd0(p:Program):Code:=.body (behindTheImports p) (env0 p)
abbrev B0:List Frame:=[topFrame pos0]
def S0(w:World)(os:OsState):Shared:={boot_heap w.params,Array.mk [],boot_drawn,boot_toks,os}
def mkT(l:List Obj):Nat->Nat->Nat->BT
 |0,_,_=>.nil
 |f+1,a,b=>match l[b]? with
  |some o=>.node o (mkT l f (2*a) (a+b)) (mkT l f (2*a) (2*a+b))
  |none=>.nil
def toT(s:Shared):SharedT:={mkT s.heap.objs.toList 6 1 0,s.heap.objs.size,s.heap.life,s.gens,s.drawn,s.toks,s.os}
def pre(p:Program)(w:World)(os:OsState):SharedT:=match tw15667345088766844465 tb p w 11 an0 12 (S0 w os) (topStub p)with
 |some r=>toT r.1
 |none=>toT (S0 w os)
def body(p:Program)(n:Nat)(w:World)(os:OsState):Option (Flow×SharedT×Code×Pos):=
 tw10110043849684766642 tb p w 11 an0 1 n (pre p w os) (piecesOf (behindTheImports p) (env0 p) (cd0 p) pos0 B0)
def aft(p:Program)(n:Nat)(w:World)(os:OsState):SharedT:=match body p n w os with
 |some r=>r.2.1
 |none=>toT (S0 w os)
def posL(p:Program)(n:Nat)(w:World)(os:OsState):Pos:=match body p n w os with
 |some r=>r.2.2.2
 |none=>pos0
def fin(p:Program)(n:Nat)(w:World)(os:OsState):Shared:=match tw14082659384304107361 tb p w 11 an0 2 (aft p n w os).abs {doneF .next,cd0 p,posL p n w os,B0}with
 |some s=>s
 |none=>S0 w os
structure Ok(p:Program)(n:Nat):Prop where
 pre:∀w os,tw15667345088766844465 tb p w 11 an0 12 (S0 w os) (topStub p)=some ((Hd.pre p w os).abs,{tw11892475500146522536 tb (cd0 p),cd0 p,pos0,B0})
 block:∀w os,tw14374325043358763698 tb p w 11 an0 1 1 (Hd.pre p w os).abs (blockOf (behindTheImports p) (env0 p) (cd0 p) pos0 B0)=some (.next,(Hd.pre p w os).abs,cd0 p,pos0)
 body:∀w os,Hd.body p n w os=some (.next,aft p n w os,cd0 p,posL p n w os)
 fin:∀w os,tw14082659384304107361 tb p w 11 an0 2 (aft p n w os).abs {doneF .next,cd0 p,posL p n w os,B0}=some (Hd.fin p n w os)
def run(o:Ok p n)(w:World)(os:OsState):topRun treeTable p w 11 an0 (12+(1+(n+2))) (S0 w os) (topStub p)=some (fin p n w os):=by have h1:=o.pre w os;have h2:=o.block w os;have h3:=o.body w os;have h4:=o.fin w os;unfold Hd.body at h3;unfold tb at h1 h2 h3 h4;rw[<-te15667345088766844465,<-te14364793385576792824,<-te11892475500146522536]at h1;rw[<-te14374325043358763698,<-te14364793385576792824]at h2;rw[<-te10110043849684766642,<-te14364793385576792824]at h3;rw[<-te14082659384304107361,<-te14364793385576792824]at h4;have k:topRun treeTable p w 11 an0 (n+2) (Hd.pre p w os).abs (restOf (behindTheImports p++[]) (env0 p) (cd0 p) pos0 B0)=some (fin p n w os):=piece_app (segRun_of h3) (piece_nil h4);rw[c8]at k;exact go_top h1 (piece_block h2 k)
def left(o:Ok p n)(hN:Nat.ble (12+(1+(n+2))) N=true)(he:opening p=plainProg p.main.scope.names)(h6:Nat.ble 600 N=true)(hf:∀s,fenceModules? p s=some s)
  (l1:∀w os,(staticsOk (importedModules p.main.body) (boot_heap w.params) (fin p n w os).heap&&namesBound p (fin p n w os).heap&&gensDone (fin p n w os)&&laidKept (boot_heap w.params) (fin p n w os).heap)=true)
  (l2:∀w os,openSeen q loose (importedModules p.main.body) Xt g0 (fin p n w os)=openGood q loose) (l3:∀w os,Yf (fin p n w os)=Ya w):LeftO p q loose Xt Yf Ya N g0:=λw=>by
 obtain⟨s,e,e'⟩:=bq.mp (boot_open he h6 hf w);obtain⟨os,rfl⟩:∃os,s=S0 w os:=by obtain⟨h,g,d,t,os⟩:=s;simp only[Prod.mk.injEq]at e';obtain⟨rfl,rfl,rfl,rfl⟩:=e';exact⟨os,rfl⟩
 have r:=topRun_mono (N -(12+(1+(n+2)))) _ _ _ _ (run o w os);rw[show 12+(1+(n+2))+(N -(12+(1+(n+2))))=N by have:=Nat.le_of_ble_eq_true hN;lia]at r;have z1:((S0 w os).heap.isNs mainGlobals&&(S0 w os).gens.size==0)=true:=by kernel_rfl
 have z2:(S0 w os).heap.objs.size=11:=by kernel_rfl
 have z3:(S0 w os).heap.nsMap mainGlobals "__annotations__"=an0:=by kernel_rfl
 have t:topFrom treeTable p w N (S0 w os)=some (fin p n w os):=by unfold topFrom;rw[z1,z2,z3,r];have q:=l1 w os;show(match _ with|true=>_|false=>_)=_;rw[show(staticsOk (importedModules p.main.body) (S0 w os).heap (fin p n w os).heap&&namesBound p (fin p n w os).heap&&gensDone (fin p n w os)&&laidKept (S0 w os).heap (fin p n w os).heap)=true from q]
 unfold openEnds;rw[e];show(topFrom treeTable p w N _).map _=_;rw[t];exact bV some (Fb (l2 w os) (l3 w os))
end Hd
namespace mS
open PySem PySem.Spec PyProof.Rows L2
abbrev tO(vs:Aae):Obj:={.type "tuple",none,.seq vs.toArray 0,#[]}
abbrev cO(vs:Aae):Obj:={.type "code",none,.fields vs.toArray,#[]}
abbrev kO(P:Params)(x:Str)(t:Tok)(v:Value):DictEntry:={PyData.keyHash P x,.str x t,v}
abbrev fO(s:Stmt)(n q:Str)(pm cd:Value):Obj:={.type "function",none,.func (fnOf n q (defArgs s) (defBody s) (defScope s) .none .none .none pm none cd .none),#[]}
abbrev cF(x q:Str)(a b c:Tok)(l n:Int)(r r1:Addr)(v1 v2:Value)(r2:Addr)(i:Int)(d:Tok):Obj:=cO [.str x a,.str q b,.str "/claim/cut.py" c,.int l 0,.int n 0,.int 0 0,.int 0 0,.int 3 0,.ref r,.bool true,.int 181 0,.ref r1,.none,v1,v2,.ref r2,.int i 0,.int l 0,.str "/claim/cut.py" d]
abbrev cG(x:Str)(a b c:Tok)(l n:Int)(r r1:Addr)(v1 v2:Value)(r2:Addr)(i:Int)(d:Tok):Obj:=cF x x a b c l n r r1 v1 v2 r2 i d
abbrev fF(s:Stmt)(x:Str)(m:Value)(r:Addr):Obj:=fO s x x m (.ref r)
abbrev mO0:Value:=Value.str "askviews.terms" 187
abbrev mO1:Value:=Value.str "askviews.questions" 206
abbrev mO2:Value:=Value.str "askviews.tables" 218
abbrev mO3:Value:=Value.str "askviews.answers" 228
abbrev mO4:Value:=Value.str "law_askviews_k08_whole_more_and_less" 366
noncomputable def KF(P:Params):Frag:=
 (nat_lit 2,{.none,none,.dict #[] 0,#[]})::
 (nat_lit 3,{(.type "dict"),none,.dict #[kO P "__name__" 165 (.str "law_askviews_k08_whole_more_and_less" 366),kO P "__doc__" 166 .none,kO P "__package__" 167 .none,kO P "__loader__" 168 (.builtin "__main__.__loader__#opaque"),kO P "__spec__" 169 .none,kO P "__annotations__" 170 (.ref 6),kO P "__builtins__" 171 (.ref 4),kO P "__file__" 173 (.str "/claim/cut.py" 172),kO P "__cached__" 174 .none,kO P "SIGNS" 190 (.str "abcdefghijklmnopqrstuvwxyz0123456789" 189),kO P "MOST_SIGNS" 192 (.int 8 191),kO P "is_value" 198 (.ref 19),kO P "is_unknown" 205 (.ref 26),kO P "unknowns_of" 217 (.ref 33),kO P "rows_of" 227 (.ref 40),kO P "answers" 237 (.ref 47),kO P "counted" 243 (.ref 52),kO P "counts_of" 256 (.ref 59),kO P "needed_terms" 267 (.ref 66),kO P "Asking" 323 (.ref 103),kO P "narrowed" 337 (.ref 114),kO P "places_of" 347 (.ref 121),kO P "image" 353 (.ref 126),kO P "is_image" 359 (.ref 131),kO P "tails_by_key" 365 (.ref 136),kO P "_law_feed" 374 (.ref 143),kO P "_law_draw" 386 (.ref 150),kO P "_law_pool" 392 (.ref 155),kO P "_law_names" 399 (.ref 162),kO P "_law_values" 406 (.ref 169),kO P "_law_length" 414 (.ref 176),kO P "_law_question" 432 (.ref 183),kO P "_law_tables" 438 (.ref 188),kO P "_law_put" 444 (.ref 193),kO P "_law_put_in" 450 (.ref 198),kO P "_law_unknowns" 456 (.ref 203),kO P "_law_more_and_less" 462 (.ref 208),kO P "_law_put_right" 468 (.ref 213),kO P "_law_turned_right" 474 (.ref 218),kO P "law" 480 (.ref 223)] 40,#[]})::
 (nat_lit 15,tO [])::
 (nat_lit 18,cG "is_value" 193 194 195 4 1 15 16 .none .none 17 196 197)::
 (nat_lit 19,fF (top 3) "is_value" mO0 18)::
 (nat_lit 20,tO [])::
 (nat_lit 22,tO [(.str "thing" 202)])::
 (nat_lit 23,tO [])::
 (nat_lit 25,cG "is_unknown" 199 200 201 8 1 20 21 (.ref 22) (.ref 23) 24 203 204)::
 (nat_lit 26,fF (top 4) "is_unknown" mO0 25)::
 (nat_lit 27,tO [])::
 (nat_lit 29,tO [(.str "question" 211),(.str "found" 212),(.str "atom" 213),(.str "term" 214)])::
 (nat_lit 30,tO [])::
 (nat_lit 32,cG "unknowns_of" 208 209 210 11 1 27 28 (.ref 29) (.ref 30) 31 215 216)::
 (nat_lit 33,fF (top 6) "unknowns_of" mO1 32)::
 (nat_lit 34,tO [])::
 (nat_lit 36,tO [(.str "tables" 223),(.str "name" 224)])::
 (nat_lit 37,tO [])::
 (nat_lit 39,cG "rows_of" 220 221 222 19 2 34 35 (.ref 36) (.ref 37) 38 225 226)::
 (nat_lit 40,fF (top 8) "rows_of" mO2 39)::
 (nat_lit 41,tO [])::
 (nat_lit 43,tO [(.str "question" 233),(.str "tables" 234)])::
 (nat_lit 44,tO [])::
 (nat_lit 46,cG "answers" 230 231 232 22 2 41 42 (.ref 43) (.ref 44) 45 235 236)::
 (nat_lit 47,fF (top 10) "answers" mO3 46)::
 (nat_lit 48,tO [])::
 (nat_lit 51,cG "counted" 238 239 240 24 2 48 49 .none .none 50 241 242)::
 (nat_lit 52,fF (top 11) "counted" mO3 51)::
 (nat_lit 53,tO [])::
 (nat_lit 55,tO [(.str "question" 247),(.str "tables" 248),(.str "head" 249),(.str "atoms" 250),(.str "asking" 251),(.str "left" 252),(.str "atom" 253)])::
 (nat_lit 56,tO [])::
 (nat_lit 58,cG "counts_of" 244 245 246 27 2 53 54 (.ref 55) (.ref 56) 57 254 255)::
 (nat_lit 59,fF (top 12) "counts_of" mO3 58)::
 (nat_lit 60,tO [])::
 (nat_lit 62,tO [(.str "head" 260),(.str "atoms" 261),(.str "needed" 262),(.str "name" 263),(.str "terms" 264)])::
 (nat_lit 63,tO [])::
 (nat_lit 65,cG "needed_terms" 257 258 259 35 2 60 61 (.ref 62) (.ref 63) 64 265 266)::
 (nat_lit 66,fF (top 13) "needed_terms" mO3 65)::
 (nat_lit 74,tO [])::
 (nat_lit 76,tO [(.str "self" 283),(.str "tables" 284)])::
 (nat_lit 77,tO [])::
 (nat_lit 79,cF "__init__" "Asking.__init__" 280 281 282 42 2 74 75 (.ref 76) (.ref 77) 78 285 286)::
 (nat_lit 80,fO (inClass (top 14) 0) "__init__" "Asking.__init__" mO3 (.ref 79))::
 (nat_lit 81,tO [])::
 (nat_lit 84,cF "best_place" "Asking.best_place" 288 289 290 48 2 81 82 .none .none 83 291 292)::
 (nat_lit 85,fO (inClass (top 14) 1) "best_place" "Asking.best_place" mO3 (.ref 84))::
 (nat_lit 86,tO [])::
 (nat_lit 89,cF "take" "Asking.take" 294 295 296 58 3 86 87 .none .none 88 297 298)::
 (nat_lit 90,fO (inClass (top 14) 2) "take" "Asking.take" mO3 (.ref 89))::
 (nat_lit 91,tO [])::
 (nat_lit 94,cF "fresh_unknowns" "Asking.fresh_unknowns" 300 301 302 67 2 91 92 .none .none 93 303 304)::
 (nat_lit 95,fO (inClass (top 14) 3) "fresh_unknowns" "Asking.fresh_unknowns" mO3 (.ref 94))::
 (nat_lit 96,tO [])::
 (nat_lit 99,cF "tails_of_maps" "Asking.tails_of_maps" 306 307 308 70 2 96 97 .none .none 98 309 310)::
 (nat_lit 100,fO (inClass (top 14) 4) "tails_of_maps" "Asking.tails_of_maps" mO3 (.ref 99))::
 (nat_lit 101,tO [(.str "kept" 312),(.str "maps" 313),(.str "tables" 314),(.str "tails" 315)])::
 (nat_lit 102,{(.type "dict"),none,.dict #[kO P "__module__" 275 (.str "askviews.answers" 228),kO P "__firstlineno__" 279 (.int 40 278),kO P "__init__" 287 (.ref 80),kO P "best_place" 293 (.ref 85),kO P "take" 299 (.ref 90),kO P "fresh_unknowns" 305 (.ref 95),kO P "tails_of_maps" 311 (.ref 100),kO P "__static_attributes__" 316 (.ref 101),kO P "__dict__" 318 (.ref 104),kO P "__weakref__" 320 (.ref 105),kO P "__doc__" 321 .none] 4,#[]})::
 (nat_lit 103,{(.type "type"),none,.cls {"Asking",[(.type "object")],[(.ref 103),(.type "object")],102,"Asking",true,[],[],false,none,false},#[none,none,some (.str "Asking" 268),some (.str "Asking" 276),some (.builtin "object.__new__"),some (.bool true)]})::
 (nat_lit 104,{(.type "getset_descriptor"),none,.fields #[(.str "__dict__" 317),(.ref 103),(.builtin "function.__dict__"),(.builtin "function.__dict__#set")],#[]})::
 (nat_lit 105,{(.type "getset_descriptor"),none,.fields #[(.str "__weakref__" 319),(.ref 103),(.builtin "ExceptionGroup.__weakref__"),.none],#[]})::
 (nat_lit 108,tO [])::
 (nat_lit 110,tO [(.str "counted_maps" 327),(.str "unknowns" 328),(.str "terms" 329),(.str "places" 330),(.str "counts" 331),(.str "given" 332),(.str "count" 333),(.str "row" 334)])::
 (nat_lit 111,tO [])::
 (nat_lit 113,cG "narrowed" 324 325 326 79 3 108 109 (.ref 110) (.ref 111) 112 335 336)::
 (nat_lit 114,fF (top 15) "narrowed" mO3 113)::
 (nat_lit 115,tO [])::
 (nat_lit 117,tO [(.str "unknowns" 341),(.str "places" 342),(.str "place" 343),(.str "unknown" 344)])::
 (nat_lit 118,tO [])::
 (nat_lit 120,cG "places_of" 338 339 340 86 1 115 116 (.ref 117) (.ref 118) 119 345 346)::
 (nat_lit 121,fF (top 16) "places_of" mO3 120)::
 (nat_lit 122,tO [])::
 (nat_lit 125,cG "image" 348 349 350 91 3 122 123 .none .none 124 351 352)::
 (nat_lit 126,fF (top 17) "image" mO3 125)::
 (nat_lit 127,tO [])::
 (nat_lit 130,cG "is_image" 354 355 356 93 2 127 128 .none .none 129 357 358)::
 (nat_lit 131,fF (top 18) "is_image" mO3 130)::
 (nat_lit 132,tO [])::
 (nat_lit 135,cG "tails_by_key" 360 361 362 97 4 132 133 .none .none 134 363 364)::
 (nat_lit 136,fF (top 19) "tails_by_key" mO3 135)::
 (nat_lit 137,tO [])::
 (nat_lit 139,tO [(.str "_law_script" 371)])::
 (nat_lit 140,tO [])::
 (nat_lit 142,cG "_law_feed" 368 369 370 105 1 137 138 (.ref 139) (.ref 140) 141 372 373)::
 (nat_lit 143,fF (top 21) "_law_feed" mO4 142)::
 (nat_lit 144,tO [])::
 (nat_lit 146,tO [(.str "_law_feed_here" 378),(.str "_law_many" 379),(.str "_law_script" 380),(.str "_law_figure" 381),(.str "_law_cell" 382),(.str "_law_mixed" 383)])::
 (nat_lit 147,tO [])::
 (nat_lit 149,cG "_law_draw" 375 376 377 107 2 144 145 (.ref 146) (.ref 147) 148 384 385)::
 (nat_lit 150,fF (top 22) "_law_draw" mO4 149)::
 (nat_lit 151,tO [])::
 (nat_lit 154,cG "_law_pool" 387 388 389 123 3 151 152 .none .none 153 390 391)::
 (nat_lit 155,fF (top 23) "_law_pool" mO4 154)::
 (nat_lit 156,tO [])::
 (nat_lit 158,tO [(.str "_law_feed_here" 396)])::
 (nat_lit 159,tO [])::
 (nat_lit 161,cG "_law_names" 393 394 395 126 1 156 157 (.ref 158) (.ref 159) 160 397 398)::
 (nat_lit 162,fF (top 24) "_law_names" mO4 161)::
 (nat_lit 163,tO [])::
 (nat_lit 165,tO [(.str "_law_feed_here" 403)])::
 (nat_lit 166,tO [])::
 (nat_lit 168,cG "_law_values" 400 401 402 128 1 163 164 (.ref 165) (.ref 166) 167 404 405)::
 (nat_lit 169,fF (top 25) "_law_values" mO4 168)::
 (nat_lit 170,tO [])::
 (nat_lit 172,tO [(.str "_law_feed_here" 410),(.str "_law_name" 411)])::
 (nat_lit 173,tO [])::
 (nat_lit 175,cG "_law_length" 407 408 409 130 2 170 171 (.ref 172) (.ref 173) 174 412 413)::
 (nat_lit 176,fF (top 26) "_law_length" mO4 175)::
 (nat_lit 177,tO [])::
 (nat_lit 179,tO [(.str "_law_feed_here" 418),(.str "_law_names_here" 419),(.str "_law_values_here" 420),(.str "_law_most" 421),(.str "_law_unknowns_here" 422),(.str "_law_atoms" 423),(.str "_law_k" 424),(.str "_law_name" 425),(.str "_law_terms" 426),(.str "_law_j" 427),(.str "_law_some" 428),(.str "_law_head" 429)])::
 (nat_lit 180,tO [])::
 (nat_lit 182,cG "_law_question" 415 416 417 134 4 177 178 (.ref 179) (.ref 180) 181 430 431)::
 (nat_lit 183,fF (top 27) "_law_question" mO4 182)::
 (nat_lit 184,tO [])::
 (nat_lit 187,cG "_law_tables" 433 434 435 151 3 184 185 .none .none 186 436 437)::
 (nat_lit 188,fF (top 28) "_law_tables" mO4 187)::
 (nat_lit 189,tO [])::
 (nat_lit 192,cG "_law_put" 439 440 441 162 2 189 190 .none .none 191 442 443)::
 (nat_lit 193,fF (top 29) "_law_put" mO4 192)::
 (nat_lit 194,tO [])::
 (nat_lit 197,cG "_law_put_in" 445 446 447 164 2 194 195 .none .none 196 448 449)::
 (nat_lit 198,fF (top 30) "_law_put_in" mO4 197)::
 (nat_lit 199,tO [])::
 (nat_lit 202,cG "_law_unknowns" 451 452 453 167 1 199 200 .none .none 201 454 455)::
 (nat_lit 203,fF (top 31) "_law_unknowns" mO4 202)::
 (nat_lit 204,tO [])::
 (nat_lit 207,cG "_law_more_and_less" 457 458 459 172 4 204 205 .none .none 206 460 461)::
 (nat_lit 208,fF (top 32) "_law_more_and_less" mO4 207)::
 (nat_lit 209,tO [])::
 (nat_lit 212,cG "_law_put_right" 463 464 465 183 4 209 210 .none .none 211 466 467)::
 (nat_lit 213,fF (top 33) "_law_put_right" mO4 212)::
 (nat_lit 214,tO [])::
 (nat_lit 217,cG "_law_turned_right" 469 470 471 194 4 214 215 .none .none 216 472 473)::
 (nat_lit 218,fF (top 34) "_law_turned_right" mO4 217)::
 (nat_lit 219,tO [])::
 (nat_lit 222,cG "law" 475 476 477 207 1 219 220 .none .none 221 478 479)::
 (nat_lit 223,fF (top 35) "law" mO4 222)::[]
noncomputable def asF:Aah:=[2,3,15,18,19,20,22,23,25,26,27,29,30,32,33,34,36,37,39,40,41,43,44,46,47,48,51,52,53,55,56,58,59,60,62,63,65,66,74,76,77,79,80,81,84,85,86,89,90,91,94,95,96,99,100,101,102,103,104,105,108,110,111,113,114,115,117,118,120,121,122,125,126,127,130,131,132,135,136,137,139,140,142,143,144,146,147,149,150,151,154,155,156,158,159,161,162,163,165,166,168,169,170,172,173,175,176,177,179,180,182,183,184,187,188,189,192,193,194,197,198,199,202,203,204,207,208,209,212,213,214,217,218,219,222,223]
def HF:PySem.W.Hook:=PySem.W.kHook KF asF λ_=>by kernel_rfl
noncomputable def qf(p:Program):Program:={p with main:={p.main with body:=[1,2,3,4,6,8,10,11,12,13,14,15,16,17,18,19,21,22,23,24,25,26,27,28,29,30,31,32,33,34,35].filterMap λi=>p.main.body[i]?}}
abbrev XF(p:Program)(s:Shared):Bool:=PySem.W.xlAt (qf p) [] s&&PySem.W.recOk [] s
abbrev LF(p:Program):Prop:=PySem.W.LeftO p (qf p) [] (XF p) (PySem.W.Hook.obs HF) (PySem.W.Hook.val HF) 2550
abbrev pL:Program:=PySem.Challenge.pw_askviews_k08_whole_more_and_less
def okL:Hd.Ok pL 1213:={λw os=>by kernel_rfl,λw os=>by kernel_rfl,λw os=>by kernel_rfl,λw os=>by kernel_rfl}
def l1L(w:World)(os:OsState):(PySem.W.staticsOk (importedModules pL.main.body) (PySem.W.boot_heap w.params) (Hd.fin pL 1213 w os).heap&&PySem.W.namesBound pL (Hd.fin pL 1213 w os).heap&&PySem.W.gensDone (Hd.fin pL 1213 w os)&&PySem.W.laidKept (PySem.W.boot_heap w.params) (Hd.fin pL 1213 w os).heap)=true:=by kernel_rfl
def l2L(w:World)(os:OsState):PySem.W.Fast.tw4187177175401517315 (qf pL) [] (importedModules pL.main.body) (XF pL) true (Hd.fin pL 1213 w os)=PySem.W.openGood (qf pL) []:=by kernel_rfl
def l3L(w:World)(os:OsState):asF.map (Hd.fin pL 1213 w os).heap.get?=(KF w.params).map λp=>some p.2:=by kernel_rfl
def headL:LF pL:=Hd.left (n:=1213) okL (by kernel_rfl) (by kernel_rfl) (by kernel_rfl) (λs=>by kernel_rfl) l1L (λw os=>by rw[PySem.W.Fast.te4187177175401517315];exact l2L w os) l3L
def head:LF PySem.Challenge.pw_askviews_k08_whole_more_and_less:=headL
def aaZ{K:Frag}(hO:QG H)(h:aY K H a xs):wW K H a xs:=by
 rcases h with(h|h)|h
 ·rcases hO a with e|⟨o,ys,e⟩
  ·rw[e]at h;cases h
  ·rw[e]at h;cases h
 ·exact .inl h
 ·exact .inr h
def FN(K:Frag)(x:Str)(st:Stmt):Prop:=∃f fd,nsIn K mainGlobals x=some (some (.ref f))/\fJ K x x st f fd
def adH{K:Frag}{x:Str}{st:Stmt}{f:Addr}{oc:Value}{od an:Aai}{BU:Aad}{kV doc pm dF ct:Value}(a:nsIn K mainGlobals x=some (some (.ref f)))(l:K.lookup f=some {oc,od,.func (fnOf x x (defArgs st) (defBody st) (defScope st) .none kV doc pm an dF ct),BU})(c:codeIn K dF x=true)(k:keepIn K (.ref f)=true):FN K x st:={f,_,a,Ts l c k}
section
variable{K:Frag}{h base:Heap}{x q p p2 r s:Str}{st:Stmt}{mg:Aab}{f C:Addr}{fd:FuncData}{P:Program}{w:World}{k:Nat}{sp:Sp}{ps:Aaf}
def Qr(b:FN K x st)(hb:∀f fd,fJ K x x st f fd->Binds K fd ps [])(X:K.In h)(G:h.Ns mainGlobals mg)(ok:∀f fd,fJ K x x st f fd->dy P w K mg base f9 k f fd ps sp):dz P w K mg base k x ps sp:=
 have⟨f,fd,a,F⟩:=b
 {f,fd,ok f fd F,qj X G a,F.kp,hb f fd F}
abbrev Bd1(x q:Str)(st:Stmt)(p:Str):Prop:=(λ(a kV doc pm dF ct:Value)(an:Aai)=>bindArgs (-22) {[a],[]})=λa _ _ _ _ _ _=>pure [(p,a)]
def bd1(F:fJ K x q st f fd)(h:Bd1 x q st p):Binds K fd [p] []:=F.binds λk1 k2 k3 k4 k5 k6 us hl=>by rcases us with _|⟨a,_|⟨e,us⟩⟩<;>first|exact cQ (cQ (cQ (cQ (cQ (cQ (cQ h a) k1) k2) k3) k5) k6) k4|cases hl
def d1(P:Program)(w:World)(base:Heap)(X:K.In h)(G:h.Ns mainGlobals mg)(b:FN K x st)(ok:∀f fd,fJ K x x st f fd->dy P w K mg base f9 k f fd [p] sp)(h:Bd1 x x st p:=by rfl):dz P w K mg base k x [p] sp:=Qr b (λ_ _ F=>bd1 F h) X G ok
abbrev Bd2(x q:Str)(st:Stmt)(p p2:Str):Prop:=(λ(a b kV doc pm dF ct:Value)(an:Aai)=>bindArgs (-22) {[a,b],[]})=λa b _ _ _ _ _ _=>pure [(p,a),(p2,b)]
def bd2(F:fJ K x q st f fd)(h:Bd2 x q st p p2):Binds K fd [p,p2] []:=F.binds λk1 k2 k3 k4 k5 k6 us hl=>by rcases us with _|⟨a,_|⟨b,_|⟨e,us⟩⟩⟩<;>first|exact cQ (cQ (cQ (cQ (cQ (cQ (cQ (cQ h a) b) k1) k2) k3) k5) k6) k4|cases hl
def d2(P:Program)(w:World)(base:Heap)(X:K.In h)(G:h.Ns mainGlobals mg)(b:FN K x st)(ok:∀f fd,fJ K x x st f fd->dy P w K mg base f9 k f fd [p,p2] sp)(h:Bd2 x x st p p2:=by rfl):dz P w K mg base k x [p,p2] sp:=Qr b (λ_ _ F=>bd2 F h) X G ok
abbrev Bd3(x q:Str)(st:Stmt)(p p2 r:Str):Prop:=(λ(a b c kV doc pm dF ct:Value)(an:Aai)=>bindArgs (-22) {[a,b,c],[]})=λa b c _ _ _ _ _ _=>pure [(p,a),(p2,b),(r,c)]
def bd3(F:fJ K x q st f fd)(h:Bd3 x q st p p2 r):Binds K fd [p,p2,r] []:=F.binds λk1 k2 k3 k4 k5 k6 us hl=>by rcases us with _|⟨a,_|⟨b,_|⟨c,_|⟨e,us⟩⟩⟩⟩<;>first|exact cQ (cQ (cQ (cQ (cQ (cQ (cQ (cQ (cQ h a) b) c) k1) k2) k3) k5) k6) k4|cases hl
def d3(P:Program)(w:World)(base:Heap)(X:K.In h)(G:h.Ns mainGlobals mg)(b:FN K x st)(ok:∀f fd,fJ K x x st f fd->dy P w K mg base f9 k f fd [p,p2,r] sp)(h:Bd3 x x st p p2 r:=by rfl):dz P w K mg base k x [p,p2,r] sp:=Qr b (λ_ _ F=>bd3 F h) X G ok
abbrev Bd4(x q:Str)(st:Stmt)(p p2 r s:Str):Prop:=(λ(a b c d kV doc pm dF ct:Value)(an:Aai)=>bindArgs (-22) {[a,b,c,d],[]})=λa b c d _ _ _ _ _ _=>pure [(p,a),(p2,b),(r,c),(s,d)]
def bd4(F:fJ K x q st f fd)(h:Bd4 x q st p p2 r s):Binds K fd [p,p2,r,s] []:=F.binds λk1 k2 k3 k4 k5 k6 us hl=>by rcases us with _|⟨a,_|⟨b,_|⟨c,_|⟨d,_|⟨e,us⟩⟩⟩⟩⟩<;>first|exact cQ (cQ (cQ (cQ (cQ (cQ (cQ (cQ (cQ (cQ h a) b) c) d) k1) k2) k3) k5) k6) k4|cases hl
def d4(P:Program)(w:World)(base:Heap)(X:K.In h)(G:h.Ns mainGlobals mg)(b:FN K x st)(ok:∀f fd,fJ K x x st f fd->dy P w K mg base f9 k f fd [p,p2,r,s] sp)(h:Bd4 x x st p p2 r s:=by rfl):dz P w K mg base k x [p,p2,r,s] sp:=Qr b (λ_ _ F=>bd4 F h) X G ok
def MN(K:Frag)(C:Addr)(x q:Str)(st:Stmt):Prop:=∃f fd,findIn K (.ref C) x=some (some (.ref f))/\isFn K (.ref f)=true/\fJ K x q st f fd
def adh{K:Frag}{x q:Str}{st:Stmt}{f C:Addr}{oc:Value}{od an:Aai}{BU:Aad}{kV doc pm dF ct:Value}(a:findIn K (.ref C) x=some (some (.ref f)))(i:isFn K (.ref f)=true)(l:K.lookup f=some {oc,od,.func (-22),BU})(c:codeIn K dF q=true)(k:keepIn K (.ref f)=true):MN K C x q st:={f,_,a,i,Ts l c k}
def m2(P:Program)(w:World)(base:Heap)(mg:Aab)(b:MN K C x q st)(ok:∀f fd,fJ K x q st f fd->dy P w K mg base f9 k f fd [p,p2] sp)(h:Bd2 x q st p p2:=by rfl):sG P w K mg base C k x [p,p2] sp:=
 have⟨f,fd,a,i,F⟩:=b
 {f,fd,ok f fd F,{a,i,F.kp},bd2 F h}
def m3(P:Program)(w:World)(base:Heap)(mg:Aab)(b:MN K C x q st)(ok:∀f fd,fJ K x q st f fd->dy P w K mg base f9 k f fd [p,p2,r] sp)(h:Bd3 x q st p p2 r:=by rfl):sG P w K mg base C k x [p,p2,r] sp:=
 have⟨f,fd,a,i,F⟩:=b
 {f,fd,ok f fd F,{a,i,F.kp},bd3 F h}
end
def all_mk{l:PySem.W.OpenLaw}{w:World}{K:Frag}{h:Heap}{mg:Aab}{fa C0:Addr}{t0 t1:Tok}(X:K.In h)(G:h.Ns mainGlobals mg)(hfa:mg "law"=some (.ref fa))
  (AQ:FN K "is_value" Af)
  (wV:FN K "is_unknown" wq)
  (u9:FN K "unknowns_of" uY)
  (Cs:FN K "rows_of" BH)
  (Cw:FN K "answers" BK)
  (Cv:FN K "counted" BJ)
  (yx:FN K "counts_of" yn)
  (tS:FN K "needed_terms" tD)
  (AK:FN K "narrowed" Aa)
  (yw:FN K "places_of" yl)
  (Ho:FN K "image" GI)
  (AR:FN K "is_image" Ag)
  (tR:FN K "tails_by_key" tw)
  (E8:FN K "_law_feed" ED)
  (E9:FN K "_law_draw" EE)
  (E7:FN K "_law_pool" EC)
  (Cu:FN K "_law_names" BI)
  (AL:FN K "_law_values" Ab)
  (AO:FN K "_law_length" Ae)
  (wU:FN K "_law_question" wo)
  (AM:FN K "_law_tables" Ac)
  (Hn:FN K "_law_put" GH)
  (AN:FN K "_law_put_in" Ad)
  (wR:FN K "_law_unknowns" wm)
  (pJ:FN K "_law_more_and_less" pF)
  (va:FN K "_law_put_right" uZ)
  (qA:FN K "_law_turned_right" qu)
  (QE:FN K "law" O8)
  (cA0:nsIn K mainGlobals "Asking"=some (some (.ref C0)))
  (WD:plainGet K C0 Str.empty=true)
  (WJ:hasDictIn K C0=true)
  (WC:PySem.W.plainOver K C0=true)
  (WB:findIn K (.ref C0) "__setattr__"=some (some (.builtin "object.__setattr__")))
  (WH:PySem.W.makesIn K C0=true)
  (WI:keepIn K (.ref C0)=true)
  (Cq:findIn K (.ref C0) "tables"=some none)
  (Hk:findIn K (.ref C0) "kept"=some none)
  (Hj:findIn K (.ref C0) "maps"=some none)
  (E3:findIn K (.ref C0) "tails"=some none)
  (wQ:MN K C0 "__init__" "Asking.__init__" wk)
  (tT:MN K C0 "best_place" "Asking.best_place" tE)
  (E6:MN K C0 "take" "Asking.take" EB)
  (oo:MN K C0 "fresh_unknowns" "Asking.fresh_unknowns" nO)
  (pH:MN K C0 "tails_of_maps" "Asking.tails_of_maps" pE)
  (z0:nsIn K mainGlobals "len"=some none)
  (z1:nsIn K mainGlobals "abs"=some none)
  (z2:nsIn K mainGlobals "range"=some none)
  (z3:nsIn K mainGlobals "tuple"=some none)
  (z4:nsIn K mainGlobals "list"=some none)
  (z5:nsIn K mainGlobals "isinstance"=some none)
  (z6:nsIn K mainGlobals "all"=some none)
  (z7:nsIn K mainGlobals "str"=some none)
  (z8:nsIn K mainGlobals "sum"=some none)
  (z9:nsIn K mainGlobals "dict"=some none)
  (z10:nsIn K mainGlobals "sorted"=some none)
  (z11:nsIn K mainGlobals "set"=some none)
  (z12:nsIn K mainGlobals "enumerate"=some none)
  (z13:nsIn K mainGlobals "zip"=some none)
  (z14:nsIn K mainGlobals "bool"=some none)
  (mc0:nsIn K mainGlobals "SIGNS"=some (some (.str "abcdefghijklmnopqrstuvwxyz0123456789" t0)))
  (mc1:nsIn K mainGlobals "MOST_SIGNS"=some (some (.int 8 t1)))
  :∃fd:FuncData,(∀(s:Shared)(v:Value),BindsTo s fd {[v],[]} [("_law_script",v)])/\∀base:Heap,K.In base->base.Ns mainGlobals mg->dy l.prog w K mg base f9 10 fa fd ["_law_script"] (Jl K):=by
 obtain⟨f,fd,a,F⟩:=QE;have e:=hfa.symm.trans (qj X G a);cases e;have T:Txt K mg:={cT X G z0,cT X G z1,cT X G z2,cT X G z3,cT X G z4,cT X G z5,cT X G z6,cT X G z7,cT X G z8,cT X G z9,cT X G z10,cT X G z11,cT X G z12,cT X G z13,cT X G z14,{_,qj X G mc0},{_,qj X G mc1}};refine{fd,?_,λbase _ _=>?_}
 ·obtain⟨_,_,_,_,_,_,_,_,_,rfl,_,_⟩:=F.ex
  exactλs v=>.of_eq rfl
 have Gn:=d1 l.prog w base X G AQ λ_ _ F=>MD F T;have L1:=d1 l.prog w base X G wV λ_ _ F=>Je F T ⟨Gn⟩;have Jg:=d1 l.prog w base X G u9 λ_ _ F=>GY F T {⟨Gn⟩,L1};have TQ:=d2 l.prog w base X G Cs λ_ _ F=>Pt F T;have Ei:=d1 l.prog w base X G yw λ_ _ F=>KQ F T;have OH:=d3 l.prog w base X G Ho λ_ _ F=>Vz F T;have Qu:=d2 l.prog w base X G AR λ_ _ F=>ME F T;have Hg:=d4 l.prog w base X G tR λ_ _ F=>FJ F T ⟨Qu⟩;have Gk:=d3 l.prog w base X G AK λ_ _ F=>MC F T ⟨Ei,OH⟩;have Hh:=d2 l.prog w base X G tS λ_ _ F=>FK F T;have O:Fc K C0:={⟨WD,WJ,WC,WB⟩,Cq,Hk,Hj,E3};have ji:=m2 l.prog w base mg oo λ_ _ F=>VA F T O ⟨Jg⟩;have jA:=m2 l.prog w base mg pH λ_ _ F=>Vx F T O {⟨Ei,OH⟩,ji,TQ,Hg};have wD:=m2 l.prog w base mg tT λ_ _ F=>ZF F T O ⟨jA⟩;have Lc:=m3 l.prog w base mg E6 λ_ _ F=>Zz F T O ⟨ji,jA,Gk⟩;obtain⟨fi,fdi,ai,ii,Fi⟩:=wQ;have k_A:Mh l.prog w K mg base C0 1 "Asking" ["self","tables"] (JX l.prog w K C0):={_,_,⟨WH,ai,ii,WI⟩,Vy Fi T O,qj X G cA0,bd2 Fi rfl};have Ej:=d2 l.prog w base X G yx λ_ _ F=>KR F T O ⟨k_A,wD,Lc,Hh,Gk⟩;have Co:=d2 l.prog w base X G Cw λ_ _ F=>Pw F T ⟨Ej⟩;have TV:=d2 l.prog w base X G Cv λ_ _ F=>Pu F T ⟨Ej⟩;have Wz:=d1 l.prog w base X G E8 λ_ _ F=>ZD F;have my:=d2 l.prog w base X G E9 λ_ _ F=>ZE F T;have E2:=d3 l.prog w base X G E7 λ_ _ F=>ZA F T ⟨my⟩;have TR:=d1 l.prog w base X G Cu λ_ _ F=>Ar F T {⟨my⟩,E2};have Qs:=d1 l.prog w base X G AL λ_ _ F=>RN F T {⟨my⟩,E2};have AG:=d2 l.prog w base X G AO λ_ _ F=>RR F T ⟨my⟩;have L0:=d4 l.prog w base X G wU λ_ _ F=>MB F T {{⟨my⟩,E2},AG};have Qt:=d3 l.prog w base X G AM λ_ _ F=>RP F T {⟨my⟩,AG};have OG:=d2 l.prog w base X G Hn λ_ _ F=>abk F T;have Gm:=d2 l.prog w base X G AN λ_ _ F=>RQ F T ⟨OG⟩;have Cn:=d1 l.prog w base X G wR λ_ _ F=>MA F T;have Dp:=d4 l.prog w base X G pJ λ_ _ F=>ZC F T ⟨my,AG,Co⟩;have Jh:=d4 l.prog w base X G va λ_ _ F=>KP F T ⟨my,Cn,Gm,Co⟩;have E1:=d4 l.prog w base X G qA λ_ _ F=>RO F T {⟨OG⟩,my,Cn,Gm,TV};exact abl F T ⟨Wz,TR,Qs,L0,Qt,Dp,Jh,E1,Co⟩
def walk{l:PySem.W.OpenLaw}{K:Params->Frag}(hn:l.most=some 63)(Td:d.params.defaults=[])
  (hY:∀(w:World)(h:Heap),YP w h->(K w.params).In h)
  (F:∀(w:World)(mg:Aab)(fa:Addr)(h:Heap),(K w.params).In h->h.Ns mainGlobals mg->mg d.name=some (.ref fa)->
   ∃fd:FuncData,(∀(s:Shared)(u:Value),BindsTo s fd {[u],[]} [("_law_script",u)])/\∀base:Heap,(K w.params).In base->base.Ns mainGlobals mg->dy l.prog w (K w.params) mg base f9 10 fa fd ["_law_script"] (Jl (K w.params))):
  PySem.W.WalkO q loose XP YP l.row.toRowW d [] (λf vs=>PySem.call f vs):=
 L2.YT (n:=63) (k:=10) (x:="_law_script") (CX:=λ_=>f9) (sp:=λw=>Jl (K w.params)) hn (-9) Td {rfl,by decide,by decide} hY F (λ_ H a ns hl hO hS=>{a,ns,rfl,aaZ hO hS,hl,λ_=>rfl}) λ_ _ _ _ _ z=>z
end mS
open PySem PySem.W PyProof.Rows
set_option maxHeartbeats 0 in
theorem PySem.Challenge.cw_askviews_k08_whole_more_and_less_holds : PySem.Challenge.rw_askviews_k08_whole_more_and_less.Holds := by
 w_on;refine holds_law (by rw[PySem.W.Fast.te9446332074065402090];kernel_rfl) λafT=>?_
 refine holds_open (q:=mS.qf PySem.Challenge.pw_askviews_k08_whole_more_and_less) (loose:=[]) (Xt:=mS.XF PySem.Challenge.pw_askviews_k08_whole_more_and_less) (XP:=XL (mS.qf PySem.Challenge.pw_askviews_k08_whole_more_and_less) []) (Yf:=Hook.obs mS.HF) (Ya:=Hook.val mS.HF) (YP:=Hook.says mS.HF) (N:=2550) mS.head (Hook.of mS.HF) (Hook.keeps mS.HF)
  (λs e=>xl_of s (mG.mp e).1) XL.keeps (by rfl) (by rfl) (by rfl) (λs e=>recFacts_of (mG.mp e).2) (by rfl) (by first|assumption|decide+kernel) (-3) {rfl,rfl,rfl,rfl,rfl,by decide+kernel} ?hw ?hc
 case hw=>w_witness2
 case hc=>
 unfold mS.HF
 k_fill
 refine mS.walk (l:=PySem.Challenge.rw_askviews_k08_whole_more_and_less) rfl rfl (λw h Y=>PySem.W.kIn_of Y) ?F
 case F=>
  intro w mg fa h KX G SY
  refine' mS.all_mk KX G SY ?AQ ?wV ?u9 ?Cs ?Cw ?Cv ?yx ?tS ?AK ?yw ?Ho ?AR ?tR ?E8 ?E9 ?E7 ?Cu ?AL ?AO ?wU ?AM ?Hn ?AN ?wR ?pJ ?va ?qA ?QE ?cA0 ?WD ?WJ ?WC ?WB ?WH ?WI ?Cq ?Hk ?Hj ?E3 ?wQ ?tT ?E6 ?oo ?pH ?z0 ?z1 ?z2 ?z3 ?z4 ?z5 ?z6 ?z7 ?z8 ?z9 ?z10 ?z11 ?z12 ?z13 ?z14 ?mc0 ?mc1
  case AQ|wV|u9|Cs|Cw|Cv|yx|tS|AK|yw|Ho|AR|tR|E8|E9|E7|Cu|AL|AO|wU|AM|Hn|AN|wR|pJ|va|qA|QE=>refine' mS.adH ?a ?l ?c ?k;case a|l|c|k=>k_is
  case cA0|WD|WJ|WC|WB|WH|WI|Cq|Hk|Hj|E3=>k_is
  case wQ|tT|E6|oo|pH=>refine' mS.adh ?a ?i ?l ?c ?k;case a|i|l|c|k=>k_is
  case z0|z1|z2|z3|z4|z5|z6|z7|z8|z9|z10|z11|z12|z13|z14|mc0|mc1=>k_is
