import PyProof.Rows.All
import Wide.All
import OpenK.AllK
import PySem.Challenge.RW_askviews_k33_same_or_unlike
set_option Elab.async false
set_option linter.all false
set_option bootstrap.genMatcherCode false
set_option maxRecDepth 100000
set_option maxHeartbeats 4000000
local macro_rules|`({$xs:term,*})=>`(⟨$xs,*⟩)
local macro_rules|`(∅)=>`((by lia))
set_option hygiene false
local macro_rules|`(9)=>`(rfl)
local macro_rules|`(7)=>`((by decide))
local macro_rules|`(8)=>`((by lia))
local macro_rules|`(53)=>`((by decide+kernel))
local macro_rules|`(55)=>`(λcT A outer s H vs Q E hr h=>?_)
local macro_rules|`(56)=>`(model X.prog X.w)
local macro_rules|`(58)=>`(model prog w)
local macro_rules|`(59)=>`((by simp))
local macro_rules|`(96)=>`((by show 2<=sizeLine;decide))
local macro_rules|`(331)=>`(d7 X (x::more++fs) scope g3.objs.size {s2 with heap:=g3} H2 (s2.heap.objs.size::fp))
local macro_rules|`(352)=>`(.ref s.heap.objs.size)
local macro_rules|`(382)=>`(jY X (x::fs) scope x g3.objs.size {s2 with heap:=g3} H2 (s2.heap.objs.size::fp))
local macro_rules|`(409)=>`((by show 0<=sizeLine;decide))
local macro_rules|`(641)=>`(λ(p:NK×Addr×V)(q:NK×Addr×Value)=>p.1=q.1/\p.2.1=q.2.1/\RelV p.2.2 q.2.2)
local macro_rules|`(642)=>`(tupleKeyHash knd k)
local macro_rules|`(643)=>`(d7 X (x::more++fs) scope C s H ex)
local macro_rules|`(644)=>`(if ig rk (p.getD n 0) (p.getD (n -1) 0)=true then KasT.ret n else kas_asc p f (n+1))
local macro_rules|`(645)=>`(NK×Addr×V)
local macro_rules|`(646)=>`(s.heap.objs.size+1)
local macro_rules|`(647)=>`(fnOf x q (defArgs st) (defBody st) (defScope st) .none kV doc pm an cT ct)
local macro_rules|`(648)=>`(zs.map V.str)
local macro_rules|`(649)=>`((by with_unfolding_all rfl))
local macro_rules|`(650)=>`(cl D.dN hr (cu (pv 0) aM))
local macro_rules|`(651)=>`(.dK [])
local macro_rules|`(652)=>`(ps t.mask h D)
local macro_rules|`(653)=>`(((eE items.size 0 lo:Nat):Int)==0&&(1:Int)==1&&(eE items.size items.size hi -eE items.size 0 lo)==items.size)
local macro_rules|`(654)=>`(.ref a)
local macro_rules|`(655)=>`(.ext (DN P w A (putN kvs k b (.ref p))))
local macro_rules|`(656)=>`(.lst [])
local macro_rules|`(657)=>`(eE items.size items.size hi -eE items.size 0 lo)
local macro_rules|`(658)=>`(x==("__debug__":Str))
local macro_rules|`(659)=>`(seqObj "list" acc.toList.toArray 0)
local macro_rules|`(660)=>`(ao ?_)
local macro_rules|`(661)=>`(model P w)
local macro_rules|`(662)=>`(.ListComp elt [{tg,iter,ifs,0}] scope pos)
local macro_rules|`(663)=>`(ent knd)
local macro_rules|`(664)=>`(.tup xs)
local macro_rules|`(665)=>`((by rw[ah];exact bu ∅))
local macro_rules|`(666)=>`(.ref p)
local macro_rules|`(667)=>`(Str×Str)
local macro_rules|`(668)=>`(.lst ((mm.map j7).map V.str))
local macro_rules|`(669)=>`(λc=>?_)
local macro_rules|`(670)=>`(.lst (ys.take j++ys.drop (j+1)))
local macro_rules|`(671)=>`(aQ (bK gf))
local macro_rules|`(672)=>`(.lst [.ref t1,.ref t2,.ref t3])
local macro_rules|`(673)=>`((List.replicate e.ys.length true).map V.bl)
local macro_rules|`(674)=>`(.Name x px)
local macro_rules|`(675)=>`((by show 3<=sizeLine;decide))
local macro_rules|`(676)=>`(aU _ rfl)
local macro_rules|`(677)=>`(I.bP.fresh (aw _))
local macro_rules|`(678)=>`(c9 (fs:=[]) (fr:=[]))
local macro_rules|`(679)=>`(.dK (es.map iQ++[(Sum.inr a.1,.ref l0)]))
local macro_rules|`(680)=>`(I.tok _)
local macro_rules|`(681)=>`(λh=>h.elim (λh=>.inr (.inl h)) λh=>h.elim .inl λh=>.inr (.inr h))
local macro_rules|`(682)=>`(.lst ys)
local macro_rules|`(683)=>`(p.getD (n -1) 0)
local macro_rules|`(684)=>`(λi m ys H=>m=xs.length -i/\i<=xs.length/\Pv i ys H)
local macro_rules|`(685)=>`(d7 X (x::fs) scope C s H ex)
local macro_rules|`(686)=>`(qS {br (rD z _ _) hz,λt' k=>{.str _,H,I.tok k,⟨_,rfl⟩,q}})
local macro_rules|`(687)=>`(λt=>hc (by simp[qr,t]))
local macro_rules|`(688)=>`(λc1=>?_)
local macro_rules|`(689)=>`(λp hp=>?_)
local macro_rules|`(690)=>`(λr s'=>r=.ok (.ret (.bool true))/\OldK aaa.heap s'.heap/\s'.os=aaa.os/\AllBare s'.gens)
local macro_rules|`(691)=>`(hX (wpAny_callSpecial?_slot hT fG (b6 fG hT nF ?_ (o8 _))))
local macro_rules|`(692)=>`(λb hb=>?_)
local macro_rules|`(693)=>`(ha pins s Z H _ I h)
local macro_rules|`(694)=>`(b9 (jR (i:=0)) (b9 (jR (i:=1)) fQ))
local macro_rules|`(695)=>`(.ref f)
local macro_rules|`(696)=>`(λz=>nomatch z)
local macro_rules|`(697)=>`(!t.plain&&decide (es.size>1))
local macro_rules|`(698)=>`(sD (ha pos pins s Z H _ I h) λus s1 vs H1 I1 r1 q1=>?_)
local macro_rules|`(699)=>`(.dK (fs.map iQ))
local macro_rules|`(700)=>`(.ref d)
local macro_rules|`(701)=>`(if i<0 then(i+((a9.toArray.size:Nat):Int)).toNat else min i.toNat a9.toArray.size)
local macro_rules|`(702)=>`(.lst zs)
local macro_rules|`(703)=>`(λz=>hc (by simp[z]))
local macro_rules|`(704)=>`(.Call (.Name x p) (e::es) [] pos)
local macro_rules|`(705)=>`(.lst (row.map V.str))
local macro_rules|`(706)=>`(EP X pins Z Q)
local macro_rules|`(707)=>`(λ(u:Value)(p:Key×Value)=>(bU prog w).is p.1 u=true)
local macro_rules|`(708)=>`(putN inner (iP zs) c (.bl true))
local macro_rules|`(709)=>`(starEach es X.env)
local macro_rules|`(710)=>`(List (Option Str))
local macro_rules|`(711)=>`(ba.take i)
local macro_rules|`(712)=>`(fnOf x qual (defArgs st) (defBody st) (defScope st) .none kV doc pm an cT ct)
local macro_rules|`(713)=>`(.lst [.str "a",.str "12"])
local macro_rules|`(714)=>`(apos.endLine==fS.line)
local macro_rules|`(715)=>`(.dK kvs)
local macro_rules|`(716)=>`(I1.bP.fresh (aw _))
local macro_rules|`(717)=>`((by simpa using h))
local macro_rules|`(718)=>`(bX (pv 0))
local macro_rules|`(719)=>`(bX (pv 1))
local macro_rules|`(720)=>`(λc2=>?_)
local macro_rules|`(721)=>`(.ins C dx (je "vain" (.ref B) [("aims",.ref A)]))
local macro_rules|`(722)=>`(bU X.prog X.w)
local macro_rules|`(723)=>`(⟨_,rfl⟩)
local macro_rules|`(724)=>`(I.turned (t':=s.toks) (λb o hb e=>(sb.2 b hb).trans e) f0 f1 f3 f4 f5)
local macro_rules|`(725)=>`(.lst (ys.drop (j+1)))
local macro_rules|`(726)=>`(I.turned (λb o hb e=>eb b o hb e) f0 f1 f3 f4 f5)
local macro_rules|`(727)=>`(.ref l)
local macro_rules|`(728)=>`((by simpa using e1))
local macro_rules|`(729)=>`(λ_ _ _ _=>(pv 0))
local macro_rules|`(730)=>`(he pins s Z H _ I h)
local macro_rules|`(731)=>`(ho pins s Z H _ I h)
noncomputable section
open PySem.W (Frag findIn nsIn fnOf emptyDict keepIn instObj plainGet kitOne codeIn hasDictIn isFn lookIn)
abbrev Hy:=List (PySem.Str×List PySem.Str)
abbrev Aaa:=List (List PySem.Str)
abbrev Aab:=List (PySem.Addr×PySem.Obj)
abbrev Aac:=PySem.Str->Option PySem.Value
abbrev Aad:=PySem.Value->PySem.Shared->Prop
abbrev Aae:=Array (Option PySem.Value)
abbrev Aaf:=List PySem.Value
abbrev Aag:=List PySem.Str
abbrev Aai:=List PySem.Addr
abbrev Aaj:=Option PySem.Addr
abbrev Aak:=Array PySem.Value
section
open PySem
def ae:=@wpAny_bind
def ah:=@List.length_map
def aj:=@PySem.Heap.get?_push_of_some
def ao:=@wpAny_pure
def aq:=@List.getElem?_eq_some_iff
def av:=@List.getElem?_eq_getElem
def aw:=@Nat.le_refl
def ay:=@List.mem_singleton
def aA:=@List.mem_of_getElem?
def aC:=@List.length_append
def aD:=@List.mem_map
def aE:=@List.map_append
def aF:=@List.mem_cons_self
def aG:=@List.mem_cons_of_mem
def aH:=@if_neg
def aK:=@if_pos
def aN:=@List.mem_cons
def aO:=@Nat.zero_le
def aP:=@List.size_toArray
def aR:=@of_decide_eq_true
def aS:=@List.mem_append
def aT:=@List.take_length
def aU:=@PySem.Heap.get?_push_size
def aV:=@Nat.ne_of_lt
def aW:=@PySem.Heap.lt_size
def aX:=@List.getElem?_map
def aZ:=@List.length_take
def bb:=@PySem.Paired.length
def bc:=@List.mem_append_right
def bj:=@decide_eq_true
def bq:=@List.take_add_one
def br:=@Nat.le_trans
def bt:=@List.map_cons
def bw:=@Nat.lt_of_lt_of_le
def bx:=@List.mem_append_left
def bz:=@Option.map_eq_some_iff
def bC:=@Nat.le_of_lt
def bD:=@Bool.false_ne_true
def bE:=@List.length_cons
def bG:=@PySem.PassesOwn.never
def bH:=@boot_len
def bI:=@Array.length_toList
def bL:=@List.all_eq_true
def bO:=@Bool.and_eq_true
def bR:=@PySem.F.plainAttrs_list
def bS:=@List.mem_map_of_mem
def bT:=@Option.some.inj
def bW:=@sizeLine_eq
def b6:=@wpAny_call_entry
def b8:=@List.map_congr_left
def cj:=@congrFun
def cm:=@wpAny_holding
def cq:=@Nat.ne_of_gt
def cv:=@PySem.Heap.get?_update_other
def cw:=@List.map_map
def cA:=@decide_eq_false
def cB:=@List.getD_eq_getElem?_getD
def cD:=@List.mem_range
def cE:=@PySem.Heap.SameBut.update
def cH:=@Array.getElem?_eq_getElem
def cJ:=@PySem.W.mg_none_of
def cL:=@Ne.symm
def cM:=@wpAny_newObj_type
def cP:=@congrArg
def cS:=@beq_eq_false_iff_ne
def cU:=@List.take_of_length_le
def cX:=@Nat.lt_irrefl
def cZ:=@List.filter_cons
def c6:=@List.mem_filter
def c7:=@List.append_nil
def da:=@List.length_filter_le
def dg:=@List.nodup_cons
def dh:=@wpAny_seqItems
def dj:=@PySem.Heap.size_push
def dq:=@wpAny_field
def du:=@List.length_singleton
def dw:=@Array.getElem?_toList
def dy:=@wpAny_mono
def dC:=@List.length_eq_zero_iff
def dD:=@List.length_drop
def dF:=@List.append_assoc
def dI:=@Nat.lt_trans
def dO:=@LawfulBEq.eq_of_beq
def dZ:=@List.nodup_nil
def d9:=@PySem.F.type_list_extend
def eA:=@PySem.F.slot_list_extend
def eB:=@Nat.lt_succ_self
def eC:=@Nat.le_add_right
def eG:=@PyProof.Rows.callWith_type1
def eJ:=@List.mem_iff_getElem?
def eK:=@PySem.Heap.get?_update_self
def eM:=@wpAny_truthy_bool
def eO:=@Nat.lt_succ_of_lt
def eP:=@List.length_range
def eR:=@Int.toNat_natCast
def eS:=@PyProof.Rows.slot_tuple_getitem
def eU:=@PySem.F.plainAttrs_dict
def eX:=@codeAny_builtin
def eY:=@PySem.W.kia_one
def eZ:=@List.filter_append
def fb:=@Bool.eq_iff_iff
def fq:=@Nat.le_succ
def fB:=@List.filterMap_cons
def fD:=@PySem.F.slot_dict_keyiterator_next
def fE:=@List.nodup_append
def fH:=@PySem.F.slot_dict_get
def fI:=@List.map_nil
def fK:=@Nat.not_lt_zero
def fP:=@PySem.Calls.spliced_cons
def fW:=@List.find?_cons_of_pos
def fX:=@List.find?_cons_of_neg
def fY:=@PySem.Calls.callWith_builtin
def gg:=@List.mem_of_find?_eq_some
def gh:=@List.drop_eq_getElem_cons
def gn:=@builtinLookup_eq_fast
def gx:=@List.length_replicate
def gG:=@Nat.lt_of_le_of_lt
def gH:=@Bool.false_eq_true
def gL:=@wpAny_setField
def gM:=@PySem.F.slot_dict_setdefault
def gP:=@Option.isSome_map
def gQ:=@List.foldl_cons
def gX:=@wpAny_typeOf
def hX:=@wpAny_attempt
def h9:=@List.getElem?_append_right
def ie:=@Array.getElem?_eq_some_iff
def ik:=@List.mem_flatten
def il:=@List.any_eq_true
def iB:=@List.rel_of_pairwise_cons
def iG:=@wpAny_specialOf
def iH:=@PySem.F.type_list_append
def iI:=@PySem.F.slot_list_append
def iJ:=@List.mem_of_mem_take
def iK:=@List.find?_cons
def iM:=@PySem.F.slot_zip_next
def iO:=@Bool.eq_false_iff
def iV:=@Bool.true_and
def iW:=@wpAny_typeNameOfWhole_keyiter
def jc:=@wpAny_isInstance
def jh:=@Nat.succ_le_succ
def ji:=@List.lookup_cons
def jq:=@PySem.F.entry_dict_get
def jr:=@List.drop_eq_nil_of_le
def js:=@wpAny_setField_rec
def jt:=@wpAny_pyIter_tuple
def jv:=@tupleKind_room_in1
def jD:=@decide_eq_true_iff
def jE:=@PySem.Code.quiet_builtin
def jF:=@wpAny_passesOwn
def jG:=@wpAny_notOrdered_dict
def jH:=@PyProof.Rows.vals1
def jI:=@typeLookup_type
def jN:=@Option.map_some
def jO:=@List.take_append_drop
def jP:=@List.nil_append
def jQ:=@List.length_nil
def jT:=@PySem.F.slot_NoneType_hash
def jU:=@List.sum_cons
def jV:=@PySem.F.slot_tuple_iterator_next
def jZ:=@List.pairwise_map
def j4:=@Decidable.not_not
def j5:=@PySem.Calls.spliced_nil
def j6:=@wpAny_rule
def j9:=@lookup_relabel_local
def ke:=@List.getElem?_append_left
def kf:=@PySem.Calls.evalArgs_plain
def kg:=@PySem.Calls.call_function_entry
def kr:=@Bool.false_and
def kA:=@if_false
def kE:=@call_meetsIn
def kG:=@Nat.le_of_not_lt
def kH:=@List.getElem_mem
def kK:=@mem_of_lookup
def kP:=@wpAny_getItem_str_slice
def kR:=@List.lookup_eq_some_iff
def kX:=@Nat.mul_assoc
def kZ:=@call_meets
def k7:=@Nat.min_eq_left
def k8:=@List.pairwise_cons
def k9:=@List.mem_filterMap
def lh:=@Int.emod_lt_of_pos
def lE:=@Nat.mul_add
def lK:=@wpAny_pyIter_list
def lN:=@wpAny_dictEntries
def lP:=@Nat.lt_trichotomy
def lS:=@PySem.F.slot_tuple_hash
def lT:=@wpAny_fieldsOf
def lZ:=@codeAny_mono
def l9:=@PySem.F.type_dict_setdefault
def mh:=@List.take_zero
def mj:=@List.getElem?_eq_none
def ml:=@List.any_map
def mD:=@wpAny_forIn_list
def mQ:=@Nat.mod_lt
def mR:=@PySem.Heap.get?_none_of_le
def mW:=@plainId_quiet
def m9:=@PySem.W.mg_of
def nh:=@List.perm_ext_iff_of_nodup
def ni:=@List.any_cons
def nG:=@List.pairwise_iff_getElem
def nJ:=@List.find?_some
def nK:=@List.cons.injEq
def nL:=@Int.emod_nonneg
def nN:=@wpAny_Call_Name_kw
def nQ:=@sub_AttributeError
def oh:=@of_decide_eq_false
def oA:=@PySem.F.args_tuple_add_2
def oB:=@PySem.F.args_dict_keyiterator_next_1
def oC:=@PyProof.Rows.F.entry_set_update_loop
def oF:=@PySem.Obj.data_mapFields
def oG:=@Nat.pow_succ
def oH:=@List.map_singleton
def oJ:=@Array.forIn_toList
def oM:=@typeIs_str
def oX:=@isSubtype_stop
def oY:=@if_true
def pb:=@PySem.F.entry_dict_keyiterator_next
def pz:=@PySem.F.entry_tuple_add
def pB:=@PySem.F.args_dict_get_3
def pC:=@wpAny_pyIter_enum
def pD:=@wpAny_Call_method
def pG:=@List.foldl_append
def pH:=@PySem.F.args_zip_next_1
def pR:=@PySem.F.slot_tuple_add
def pS:=@Option.map_eq_none_iff
def qd:=@merged_length_le
def qi:=@Nat.succ_ne_self
def qj:=@Nat.min_eq_right
def qm:=@List.not_mem_nil
def qo:=@List.cons_append
def qp:=@PySem.F.entry_zip_next
def qC:=@PySem.F.type_dict_get
def qF:=@wpAny_ite_split
def qG:=@wpAny_execs_nil
def qS:=@post_val_or_str
def rn:=@codeAny_call_builtin
def rp:=@beq_iff_eq
def rD:=@PySem.Txt.slice_le
def rE:=@PySem.F.args_dict_setdefault_3
def rG:=@Nat.not_lt
def rH:=@Nat.le_of_eq
def rL:=@List.sum_append
def rM:=@List.pairwise_append
def rN:=@List.filter_nil
def rP:=@PySem.F.args_list_append_2
def rS:=@Bool.and_eq_true_iff
def rT:=@PySem.F.entry_dict_setdefault
def rU:=@wpAny_dictSet_pairs
def sf:=@PySem.W.plainGet_of
def si:=@PySem.F.plain_extend_loop
def sj:=@PySem.F.entry_list_append
def sr:=@wpAny_newTuple
def sQ:=@PyProof.Rows.good_str
def sY:=@List.drop_zero
def sZ:=@PySem.F.args_tuple_iterator_next_1
def tw:=@Bool.and_false
def tM:=@Nat.add_mul
def ue:=@PySem.W.callWith_K
def uh:=@List.filterMap_map
def ui:=@PySem.F.slot_list_append
def uj:=@PySem.F.entry_tuple_iterator_next
def um:=@Array.getD_eq_getD_getElem?
def uo:=@wpAny_newList
def ux:=@PyProof.Rows.listUpdate_at
def uE:=@Nat.add_assoc
def uF:=@List.length_eraseIdx_of_lt
def uG:=@List.all_cons
def uH:=@PySem.Calls.Name_function_global
def uI:=@Bool.and_true
def uJ:=@Array.perm_iff_toList_perm
def uK:=@wpAny_setState_of
def uL:=@wpAny_pyIter_slot
def uV:=@list_append
def uW:=@Nat.mul_left_comm
def uX:=@Nat.le_succ_of_le
def uZ:=@Function.comp_def
def vh:=@Classical.byContradiction
def vt:=@wpAny_pyIter_zip
def vv:=@wpAny_comprehension_free
def vw:=@wpAny_askSetting
def vT:=@noFill_tuple_add
def vU:=@merged_take_succ
def wg:=@beq_self_eq_true
def wy:=@PySem.IsL.update
def wz:=@PySem.F.type_list_insert
def wA:=@PySem.F.slot_list_insert
def wC:=@Option.isSome_iff_exists
def wD:=@Nat.succ_pos
def wF:=@Nat.sub_self
def wG:=@Nat.add_zero
def wH:=@List.length_erase_of_mem
def wI:=@List.getElem?_take_of_lt
def wK:=@Array.toList_inj
def wL:=@Array.getElem?_replicate
def wM:=@wpAny_Call_method0_late
def wN:=@meetsH_dict_get_default
def wO:=@PySem.F.type_list_index
def wQ:=@PySem.F.slot_list_index
def wR:=@PySem.F.slot_dict_items
def wU:=@PySem.F.slot_dict_clear
def wV:=@PySem.F.args_dict_get_2
def wW:=@PyProof.Rows.ext_toList
def wX:=@Nat.add_sub_cancel_left
def wY:=@List.pairwise_mergeSort
def wZ:=@List.getElem?_replicate
def w4:=@List.Pairwise.filterMap
def w6:=@wpAny_updateSeq
def xa:=@wpAny_dictEpoch
def xy:=@List.of_mem_zip
def xA:=@List.length_set
def xB:=@PySem.Heap.DictOf.new
def xD:=@wpAny_pyNext_list_item
def xE:=@wpAny_nextOf_list_item
def xF:=@wpAny_Assign_Subscript
def xH:=@PyProof.Rows.subscriptTail_builtinR
def xM:=@PyProof.Rows.seqEpoch_at
def yf:=@codeAny_compStart_list
def yn:=@PySem.W.cellsFrom_some
def yo:=@PySem.F.slot_dict_iter
def yp:=@PySem.Paired.snoc
def yq:=@Nat.mod_mul
def yr:=@List.range_succ_eq_map
def yt:=@List.pairwise_lt_range
def yu:=@List.map_id
def yw:=@List.length_pos_of_mem
def yx:=@List.getElem?_set_self
def yy:=@Array.getElem?_eq_none
def yA:=@wpAny_tryCatch
def yB:=@wpAny_pyNext_list_end
def yC:=@wpAny_isTrue_Compare1
def yD:=@wpAny_isOneOf_keyiter
def yE:=@wpAny_eqIsQuiet_tuple
def yX:=@isSubtype_type
def zk:=@entryFor_alias
def zt:=@PySem.F.plain_set_new
def zu:=@PySem.Obj.isFreed_of_fields
def zw:=@List.filterMap_append
def zy:=@wpAny_raiseAttrError
def zA:=@wpAny_loadName_local
def Ax:=@PySem.W.KIN.val_back
def Ay:=@PySem.Obj.data_mapDictKeys
def Az:=@Nat.pow_le_pow_right
def AA:=@Nat.mul_le_mul_right
def AD:=@List.replicate_succ'
def AE:=@List.mem_of_mem_drop
def AF:=@List.mem_erase_of_ne
def AG:=@List.length_eraseIdx
def AH:=@List.getElem?_set_ne
def AI:=@PySem.F.kt_typeCall_dict_1
def AJ:=@PySem.F.args_list_extend_2
def AM:=@Array.mem_toList_iff
def AN:=@wpAny_standAt
def AO:=@wpAny_onRaise
def AQ:=@seq_tuple_add
def A7:=@Sum.inr.injEq
def A8:=@List.map_take
def A9:=@Bool.or_false
def Ba:=@wpAny_loadName_cell
def Bc:=@PyProof.Rows.entry_tuple_getitem
def Be:=@evalArgs_none
def Bf:=@Nat.add_le_add_left
def Bg:=@List.take_succ_cons
def Bh:=@List.mergeSort_perm
def Bi:=@List.length_pos_iff
def Bj:=@PySem.F.entry_list_extend
def Bl:=@wpAny_setItem_heap
def Bu:=@seqIndex_neg
def BI:=@putSet_of
def BN:=@PyProof.Rows.plain_sorted
def Cq:=@PyProof.Rows.entry_sorted
def Ct:=@concat_meets
def CG:=@PyProof.Rows.args_tuple_getitem
def CH:=@PyProof.Rows.args_sorted1
def CK:=@PySem.SeqAt.EqAt.str_int
def CL:=@PySem.SeqAt.EqAt.int_str
def CM:=@PySem.W.kitx_tuple
def CN:=@PySem.F.called_set
def CO:=@Option.isSome_some
def CP:=@Nat.sub_zero
def CQ:=@List.sum_nil
def CS:=@List.mem_replicate
def CU:=@List.getElem?_take
def CV:=@List.find?_eq_none
def CW:=@List.countP_append
def CY:=@List.all_map
def CZ:=@Int.zero_add
def C1:=@PySem.F.slot_list_extend
def C2:=@PySem.F.args_dict_init_2
def DC:=@wpAny_storeSet_of
def DD:=@wpAny_sequenceKey
def DE:=@wpAny_assign_Name
def DI:=@eqIsQuiet_byValue
def DJ:=@bne_self_eq_false
def DK:=@PySem.StrLaws.subAt_one
def DL:=@PySem.W.kitx_list
def DM:=@PySem.W.kitx_dict
def DO:=@PySem.Obj.cls_mapFields
def DP:=@List.take_sublist
def DQ:=@List.find?_isSome
def DR:=@PySem.Heap.SameBut.refl
def DS:=@PySem.F.entry_dict_init
def DT:=@Bool.not_eq_true'
def DU:=@Array.toList_push
def DW:=@wpAny_of_eq
def DY:=@wpAny_letGo
def D5:=@seqIndex_of
def Eb:=@PyProof.Rows.kind_sorted
def EO:=@or_false
def EW:=@PyProof.Rows.good_int
def Fl:=@and_true
def Fo:=@Prod.ext
def Fs:=@wpAny_load
def Ft:=@wpAny_call
def Fu:=@wpAny_Name
def GK:=@PySem.Walks.list
def GL:=@PyProof.Rows.Subscript_
def GQ:=@PyProof.Rows.Call_
def Ij:=@Iff.rfl
end
namespace L2
open PySem PySem.Spec PyProof.Rows
abbrev Key:=Sum Int Str
def Af:Key->Value->Bool
 | .inl k,v=>Value.isInt k v
 | .inr x,v=>Value.isStrOf x v
def afW(w:World):Key->Int
 | .inl k=>hashInt k
 | .inr x=>hashStr w x
theorem iF:∀{k:Key}{v:Value},Af k v=true->(∃i t,k=Sum.inl i/\v=Value.int i t)\/(∃x t,k=Sum.inr x/\v=Value.str x t)
 | .inl i,v,h=>by obtain⟨t,e⟩:=Value.isInt_shape h;exact .inl ⟨i,t,rfl,e⟩
 | .inr x,v,h=>by obtain⟨t,e⟩:=Value.isStrOf_shape h;exact .inr ⟨x,t,rfl,e⟩
def T5(i:Int)(t:Tok):Af (.inl i) (.int i t)=true:=by simp[Af,Value.isInt]
def T4(x:Str)(t:Tok):Af (.inr x) (.str x t)=true:=by simp[Af,Value.isStrOf]
def adl(a b:Int):decide ((Sum.inl a:Key)=Sum.inl b)=(a==b):=by
 by_cases e:a=b
 ·subst e;simp
 ·have h:¬(Sum.inl a:Key)=Sum.inl b:=λq=>e (Sum.inl.inj q);rw[cA h];exact(cS.mpr e).symm
def adi(a b:Str):decide ((Sum.inr a:Key)=Sum.inr b)=decide (a=b):=by
 by_cases e:a=b
 ·subst e;simp
 ·have h:¬(Sum.inr a:Key)=Sum.inr b:=λq=>e (Sum.inr.inj q);rw[cA h,cA e]
def adk(a:Int)(b:Str):decide ((Sum.inl a:Key)=Sum.inr b)=false:=cA (λq=>nomatch q)
def adj(a:Str)(b:Int):decide ((Sum.inr a:Key)=Sum.inl b)=false:=cA (λq=>nomatch q)
noncomputable def bU(prog:Program)(w:World):PySem.KeyKind prog w Key where
 is:=Af
 hash:=afW w
 inj:=λv a b ha hb=>by
  rcases iF ha with⟨i,t,rfl,rfl⟩|⟨x,t,rfl,rfl⟩
  ·rcases iF hb with⟨j,u,rfl,e⟩|⟨y,u,rfl,e⟩
   ·injection e with e1 _;rw[e1]
   ·exact nomatch e
  ·rcases iF hb with⟨j,u,rfl,e⟩|⟨y,u,rfl,e⟩
   ·exact nomatch e
   ·injection e with e1 _;rw[e1]
 byValue:=λk v h=>by rcases iF h with⟨i,t,rfl,rfl⟩|⟨x,t,rfl,rfl⟩<;>rfl
 pyHash:=λhv h=>by
  rcases iF hv with⟨i,t,rfl,rfl⟩|⟨x,t,rfl,rfl⟩
  ·exact wpAny_pyHash_int h
  ·exact wpAny_pyHash_str h
 eqBool:=λhu hv h=>by
  rcases iF hu with⟨i,t,rfl,rfl⟩|⟨x,t,rfl,rfl⟩
  ·rcases iF hv with⟨j,u,rfl,rfl⟩|⟨y,u,rfl,rfl⟩
   ·rw[adl]at h;exact wpAny_eqBool_int h
   ·rw[adk]at h;exact CL i t y u _ _ _ _ h
  ·rcases iF hv with⟨j,u,rfl,rfl⟩|⟨y,u,rfl,rfl⟩
   ·rw[adj]at h;exact CK x t j u _ _ _ _ h
   ·rw[adi]at h;exact wpAny_eqBool_str h
 «strs»:=λk x t v h=>by
  rcases iF h with⟨i,u,rfl,e⟩|⟨y,u,rfl,e⟩
  ·exact nomatch e
  ·injection e with e1 _;subst e1;cases v<;>rfl
def NO(prog:Program)(w:World)(i:Int)(t:Tok):(bU prog w).is (.inl i) (.int i t)=true:=T5 i t
def D8(prog:Program)(w:World)(x:Str)(t:Tok):(bU prog w).is (.inr x) (.str x t)=true:=T4 x t
inductive V where
 |cz|bl (b:Bool)|int (i:Int)|str (x:Str)|uT (b:Array UInt8)|MW (b:UInt64)|ref (a:Addr)|ty (n:String)
 deriving DecidableEq
abbrev Aan:=List V
abbrev Aao:=Option V
def RelV:V->Value->Prop
 | .cz,u=>u=Value.none
 | .bl b,u=>u=Value.bool b
 | .int i,u=>∃t,u=Value.int i t
 | .str x,u=>∃t,u=Value.str x t
 | .uT b,u=>∃t,u=Value.bytes b t
 | .MW b,u=>∃t,u=Value.float b t
 | .ref a,u=>u=Value.ref a
 | .ty n,u=>u=Value.type n
abbrev Vals:Aan->Aaf->Prop:=Paired RelV
def Vals.length(r:Vals xs us):xs.length=us.length:=bb r
theorem Vals.get:∀{xs:Aan}{us:Aaf}{i:Nat}{x:V},Vals xs us->xs[i]?=some x->∃u,us[i]?=some u/\RelV x u
 |_,_,_,_,.nil,e=>by simp at e
 |_,_,0,_,.cons r _,e=>by simp at e;subst e;exact⟨_,rfl,r⟩
 |_,_,i+1,x,.cons _ t,e=>by obtain⟨u,h1,h2⟩:=Vals.get (i:=i) (x:=x) t (by simpa using e);exact{u,by simpa using h1,h2}
theorem Vals.set(r:RelV x u):∀{xs:Aan}{us:Aaf}(i:Nat),Vals xs us->Vals (xs.set i x) (us.set i u)
 |_,_,_,.nil=>.nil
 |_,_,0,.cons _ t=>.cons r t
 |_,_,i+1,.cons q t=>.cons q (Vals.set r i t)
theorem Vals.append:∀{xs ys:Aan}{us ws:Aaf},Vals xs us->Vals ys ws->Vals (xs++ys) (us++ws)
 |_,_,_,_,.nil,s=>s
 |_,_,_,_,.cons r t,s=>.cons r (Vals.append t s)
theorem Vals.take:∀{xs:Aan}{us:Aaf}(n:Nat),Vals xs us->Vals (xs.take n) (us.take n)
 |_,_,0,_=>.nil
 |_,_,_+1,.nil=>.nil
 |_,_,n+1,.cons r t=>.cons r (Vals.take n t)
theorem Vals.drop:∀{xs:Aan}{us:Aaf}(n:Nat),Vals xs us->Vals (xs.drop n) (us.drop n)
 |_,_,0,r=>r
 |_,_,_+1,.nil=>.nil
 |_,_,n+1,.cons _ t=>Vals.drop n t
def mP:Aao->Option Value->Prop
 |some v,some u=>RelV v u
 |none,none=>True
 |_,_=>False
def KV:List (κ×V)->List (κ×Value)->Prop:=Paired λ(p:κ×V)(q:κ×Value)=>p.1=q.1/\RelV p.2 q.2
def kV:Key->V
 | .inl i=>.int i
 | .inr x=>.str x
inductive HO where
 |lst (xs:Aan)
 |tup (xs:Aan)
 |dK (kvs:List (Key×V))|dT (kvs:List (List Key×V))
 |set (S:Int->Bool) (n:Nat)
 |ins (C dx:Addr) (fs:List (Str×V))
 |own (x:Addr)
 |xd (fs:List (Str×V))
 |met (f x:Addr)
 |rng (lo hi:Int)
 |gE (o:Obj) (u:HO)
 |Kv (ps:Aak)
 |ext (φ:Heap->Prop)
abbrev Hp:=Addr->Option HO
def upd(H:Hp)(a:Addr)(o:HO):Hp:=λb=>if b=a then some o else H b
def au:upd H a o a=some o:=by unfold upd;rw[aK rfl]
def aL(h:b≠a):upd H a o b=H b:=by unfold upd;rw[aH h]
def QD{H:Hp}(h:H a=some o)(h':H b=some u)(d:o≠u):a≠b:=by intro e;subst e;rw[h]at h';exact d (bT h')
def bA{H:Hp}(h:H a=some o)(h':H b=none):a≠b:=by intro e;subst e;rw[h]at h';cases h'
section
variable(P:Program)(w:World)
noncomputable def dP(H:Hp)(h:Heap)(a:Addr):HO->Prop
 | .lst xs=>xs.length<=sizeLine/\∃(a9:Aaf)(n:Nat),Vals xs a9/\h.get? a=some {cls:=.type "list",data:=.seq a9.toArray n}
 | .tup xs=>xs.length<=sizeLine/\∃a9:Aaf,Vals xs a9/\IsTup h a a9.toArray/\∃o,h.get? a=some o/\o.dict=none
 | .dK kvs=>kvs.length<=sizeLine/\(a==sysModules)=false/\∃vs,KV kvs vs/\h.DictOf (bU P w) a vs
 | .dT kvs=>kvs.length<=sizeLine/\(a==sysModules)=false/\∃xs:List (List Key×Addr×Value),
   Paired (λ(p:List Key×V)(q:List Key×Addr×Value)=>p.1=q.1/\H q.2.1=some (.tup (p.1.map kV))/\RelV p.2 q.2.2) kvs xs/\
   ∃o es ep,h.get? a=some o/\o.ExactDict/\o.data=.dict es ep/\es.toList=xs.map (entryOfKey (tupleKind (bU P w)))/\(xs.map (·.1)).Nodup
 | .set S n=>h.SetOf (intKind P w) a S n
 | .ins C dx fs=>H dx=some (.own a)/\fs.length<=1000/\dx≠a/\h.get? a=some (instObj C dx)/\
   ∃mA,h.Ns1 dx mA/\(∀f,mP (fs.lookup f) (mA f))/\PySem.Within mA (fs.map (·.1))
 | .own _=>∃o,h.get? a=some o
 | .xd fs=>∃mA,h.Ns1 a mA/\∀f,mP (fs.lookup f) (mA f)
 | .rng lo hi=>∃t u v,h.get? a=some {cls:=.type "range",data:=.fields #[.int lo t,.int hi u,.int 1 v]}
 | .gE o u=>h.get? a=some o/\dP H h a u
 | .Kv ps=>h.get? a=some {cls:=.none,data:=.fields ps}
 | .met f x=>h.get? a=some (PySem.W.methodObj 695 (.ref x))
 | .ext φ=>φ h/\(∃o,h.get? a=some o)/\∀h1 h2:Heap,φ h1->(∀o,h1.get? a=some o->h2.get? a=some o)->φ h2
def j3(H:Hp)(h:Heap):Prop:=∀a o,H a=some o->dP P w H h a o
end
section
variable{P:Program}{w:World}{H H':Hp}{h h':Heap}{a:Addr}{o:HO}
def dP.lt(x:dP P w H h a o):a<h.objs.size:=by
 cases o with
 |lst xs=>obtain⟨_,_,_,_,e⟩:=x;exact aW e
 |tup xs=>obtain⟨_,_,_,p,_⟩:=x;exact p.lt
 |dK kvs=>obtain⟨_,_,_,_,o,_,_,e,_⟩:=x;exact aW e
 |dT kvs=>obtain⟨_,_,_,_,o,_,_,e,_⟩:=x;exact aW e
 |set S n=>obtain⟨o,_,_,_,e,_⟩:=x;exact aW e
 |ins C dx fs=>obtain⟨_,_,_,e,_⟩:=x;exact aW e
 |own y=>obtain⟨_,e⟩:=x;exact aW e
 |xd fs=>obtain⟨_,⟨_,_,_,e,_⟩,_⟩:=x;exact aW e
 |rng lo hi=>obtain⟨_,_,_,e⟩:=x;exact aW e
 |gE ob u=>obtain⟨e,_⟩:=x;exact aW e
 |Kv ps=>exact aW (show h.get? a=some _ from x)
 |met f y=>exact aW (show h.get? a=some _ from x)
 |ext φ=>obtain⟨_,⟨_,e⟩,_⟩:=x;exact aW e
theorem Paired.QH:∀{l₁:List α}{aab:List β},Paired F l₁ aab->(∀a b,F a b->G a b)->Paired G l₁ aab
 |_,_,.nil,_=>.nil
 |_,_,.cons r t,f=>.cons (f _ _ r) (Paired.QH t f)
def Paired.imp'(f:∀a b,F a b->G a b)(r:Paired F l₁ aab):Paired G l₁ aab:=Paired.QH r f
def dP.qJ(x:dP P w H h a o)(k:∀b u,(b=a\/H b=some (.own a))->h.get? b=some u->h'.get? b=some u)
  (ho:∀b,H b=some (.own a)->H' b=some (.own a)) (ht:∀b xs,H b=some 664->H' b=some 664):dP P w H' h' a o:=by
 induction o with
 |lst xs=>obtain⟨z,a9,n,r,e⟩:=x;exact{z,a9,n,r,k _ _ (.inl 9) e}
 |tup xs=>obtain⟨z,a9,r,⟨ob,e,c⟩,o2,e2,c2⟩:=x;exact{z,a9,r,{ob,k _ _ (.inl 9) e,c},o2,k _ _ (.inl 9) e2,c2}
 |dK kvs=>obtain⟨z,y,vs,r,ob,es,ep,e,c⟩:=x;exact{z,y,vs,r,ob,es,ep,k _ _ (.inl 9) e,c}
 |dT kvs=>
  obtain⟨z,y,xs,r,ob,es,ep,e,c⟩:=x;exact{z,y,xs,Paired.QH r λp q z=>{z.1,ht _ _ z.2.1,z.2.2},ob,es,ep,k _ _ (.inl 9) e,c}
 |set S n=>obtain⟨ob,es,ep,t,e,c⟩:=x;exact{ob,es,ep,t,k _ _ (.inl 9) e,c}
 |ins C dx fs=>
  obtain⟨d,z,ne,e,mA,⟨od,es,ep,e2,c⟩,r⟩:=x;exact{ho _ d,z,ne,k _ _ (.inl 9) e,mA,{od,es,ep,k _ _ (.inr d) e2,c},r}
 |own y=>obtain⟨ob,e⟩:=x;exact{ob,k _ _ (.inl 9) e}
 |xd fs=>obtain⟨mA,⟨od,es,ep,e,c⟩,r⟩:=x;exact{mA,{od,es,ep,k _ _ (.inl 9) e,c},r}
 |rng lo hi=>obtain⟨t,u,v,e⟩:=x;exact{t,u,v,k _ _ (.inl 9) e}
 |gE ob u ih=>obtain⟨e,q⟩:=x;exact{k _ _ (.inl 9) e,ih q}
 |Kv ps=>
  exact k a _ (.inl 9) x
 |met f y=>
  exact k a _ (.inl 9) x
 |ext φ=>obtain⟨p,⟨o,e⟩,st⟩:=x;exact{st _ _ p λo q=>k _ _ (.inl 9) q,{o,k _ _ (.inl 9) e},st}
def j3.lt(x:j3 P w H h)(e:H a=some o):a<h.objs.size:=(x a o e).lt
def j3.fresh(x:j3 P w H h)(e:h.objs.size<=a):H a=none:=by
 cases q:H a with
 |none=>rfl
 |some u=>exact absurd (bw (x.lt q) e) (cX _)
def j3.kept(x:j3 P w H h)(k:∀b u,h.get? b=some u->h'.get? b=some u):j3 P w H h':=λa o e=>
 (x a o e).qJ (λb u _ q=>k b u q) (λ_ q=>q) λ_ _ q=>q
def j3.laid(x:j3 P w H h)(k:∀b u,h.get? b=some u->h'.get? b=some u)(hp:h.objs.size<=a)(new:dP P w (upd H a o) h' a o):j3 P w (upd H a o) h':=λb u e=>by
 have hn:=x.fresh hp;by_cases hb:b=a
 ·subst hb;rw[au]at e;cases e;exact new
 ·rw[aL hb]at e;exact(x b u e).qJ (λc v _ q=>k c v q) (λc q=>by rw[aL (bA q hn)];exact q) λc xs q=>by rw[aL (bA q hn)];exact q
end
def Rd(H:Hp)(a:Addr)(u:HO):Prop:=H a=some u\/∃o,H a=some (.gE o u)
def Rd.ok(r:Rd H a u)(x:j3 P w H h):dP P w H h a u:=by
 rcases r with r|⟨o,r⟩
 ·exact x a u r
 ·obtain⟨_,q⟩:=x a _ r;exact q
def Vv:Option HO->Prop
 |some (.lst _)=>True
 |some (.dK _)=>True
 |some (.dT _)=>True
 |some (.set _ _)=>True
 |some (.ins _ _ _)=>True
 |some (.ext _)=>True
 |_=>False
section
variable{P:Program}{w:World}{H:Hp}{h h':Heap}{x e:Addr}{o':HO}
def j3.write(ok:j3 P w H h)(mu:Vv (H x))(he:e=x\/H e=some (.own x))(k:∀b u,b≠e->h.get? b=some u->h'.get? b=some u)(Pj:∃u,h'.get? e=some u)
  (new:dP P w (upd H x o') h' x o'):j3 P w (upd H x o') h':=λb u q=>by
 have ac1:∀c y,H c=some (.own y)->c≠x:=λc y r z=>by subst z;rw[r]at mu;exact mu
 by_cases hb:b=x
 ·subst hb;rw[au]at q;cases q;exact new
 ·rw[aL hb]at q;by_cases MB:b=e
  ·have q':H b=some (.own x):=by
    rcases he with z|z
    ·exact absurd (MB.trans z) hb
    ·rw[MB];exact z
   rw[q]at q';cases q';obtain⟨v,hv⟩:=Pj;exact{v,MB▸hv}
  ·refine(ok b u q).qJ (λc v hc r=>k c v ?_ r) (λc r=>by rw[aL (ac1 c b r)];exact r) λc xs r=>by rw[aL ((λc xs r z=>by subst z;rw[r]at mu;exact mu) c xs r)];exact r
   rcases hc with rfl|hc
   ·exact MB
   ·rintro rfl;rcases he with z|z
    ·exact ac1 c b hc z
    ·rw[hc]at z;cases z;exact hb rfl
end
structure Un(fs ex:Aai)(H H':Hp)(h h':Heap):Prop where
 keep:∀b o,h.get? b=some o->H b=none->b∉fs->b∉ex->h'.get? b=some o
 slot:∀b o,h.get? b=some o->H b=none->b∈fs->b∉ex->∃sl,h'.get? b=some {o with slots:=sl}
 free:∀b o,h.get? b=some o->H b=none->b∉ex->H' b=none
 there:∀b o,h.get? b=some o->b∉ex->∃o',h'.get? b=some o'
 fk:∀b xs,H b=some 664->H' b=some 664
 uz:∀b o u,H b=some (.gE o u)->H' b=some (.gE o u)
 zF:∀b ps,H b=some (.Kv ps)->∃more,H' b=some (.Kv (ps++more))
section
variable{fs ex:Aai}{H H1:Hp}{h h1 h':Heap}{a x e:Addr}{o:HO}
def Un.any(u:Un fs ex H H1 h h1)(q:h.get? b=some ob)(n:H b=none)(hx:b∉ex):∃sl,h1.get? b=some {ob with slots:=sl}:=by
 by_cases hb:b∈fs
 ·exact u.slot b ob q n hb hx
 ·exact{ob.slots,u.keep b ob q n hb hx}
def Un.kept(k:∀b u,h.get? b=some u->h'.get? b=some u):Un fs ex H H h h':=
 {λb ob q _ _ _=>k b ob q,λb ob q _ _ _=>{ob.slots,k b ob q},λ_ _ _ n _=>n,λb ob q _=>{ob,k b ob q},λ_ _ q=>q,λ_ _ _ q=>q,λ_ ps q=>{#[],by rw[q];simp}}
def Un.refl:Un fs ex H H h h:=Un.kept λ_ _ q=>q
def Un.laid(k:∀b u,h.get? b=some u->h'.get? b=some u)(hp:h.objs.size<=a)(hn:H a=none):Un fs ex H (upd H a o) h h' where
 keep:=λb u q _ _ _=>k b u q
 slot:=λb u q _ _ _=>{u.slots,k b u q}
 free:=λb u q n _=>by rw[aL (aV (bw (aW q) hp))];exact n
 there:=λb u q _=>{u,k b u q}
 fk:=λb xs q=>by rw[aL (bA q hn)];exact q
 uz:=λb u xs q=>by rw[aL (bA q hn)];exact q
 zF:=λb ps q=>{#[],by rw[aL (bA q hn),q];simp}
def Un.write(mu:Vv (H x))(he:e=x\/H e=some (.own x))(k:∀b u,b≠e->h.get? b=some u->h'.get? b=some u)(Pj:∃u,h'.get? e=some u):Un fs ex H (upd H x o) h h':=by
 have hx:∀b,H b=none->b≠x:=λb n z=>by subst z;rw[n]at mu;exact mu
 have hb:∀b,H b=none->b≠e:=λb n z=>by
  subst z;rcases he with r|r
  ·exact hx b n r
  ·rw[n]at r;cases r
 have hm:∀b u,H b=some u->¬Vv (some u)->b≠x:=λb u q nm z=>by subst z;rw[q]at mu;exact nm mu
 refine{λb u q n _ _=>k b u (hb b n) q,λb u q n _ _=>{u.slots,k b u (hb b n) q},λb u q n _=>by rw[aL (hx b n)];exact n,λb u q _=>?_,
  λb xs q=>by rw[aL (hm b _ q λz=>z)];exact q,λb u xs q=>by rw[aL (hm b _ q λz=>z)];exact q,λb ps q=>{#[],by rw[aL (hm b _ q λz=>z),q];simp}}
 by_cases MB:b=e
 ·subst MB;exact Pj
 ·exact{u,k b u MB q}
end
def trk(h:Heap)(H:Hp):Aai:=(List.range h.objs.size).filter λa=>(H a).isSome
def EV(h:Heap)(H:Hp):Heap:=PySem.W.hideAll h (trk h H)
def Ux(h:Heap)(H:Hp):(EV h H).objs.size=h.objs.size:=PySem.W.hideAll_size _ _
def W9(e:h.get? b=some o)(n:H b=none):(EV h H).get? b=some o:=
 PySem.W.hideAll_get _ e λhm=>by have q:=(c6.mp hm).2;rw[n]at q;simp at q
def abg(e:(EV h H).get? b=some o):h.get? b=some o/\H b=none:=by
 have e':=PySem.W.of_hideAll (trk h H) e;refine{e',?_};cases q:H b with
 |none=>rfl
 |some x=>
  have z:(EV h H).get? b=none:=PySem.W.hideAll_none (trk h H) (c6.mpr {cD.mpr (aW e'),by simp[q]});rw[z]at e;cases e
def abX(g h:Heap)(L:Addr):Aab:=(List.range h.objs.size).filterMap λa=>if a=L\/(g.get? a).isSome=true then none else(h.get? a).map λo=>(a,o)
def rest(g h:Heap)(L d:Addr):Aab:=(abX g h L).filter λp=>decide (p.1≠d)
structure Mod(K:Frag)(mg:Aac)(base:Heap):Prop where
 TY:K.In base
 glob:base.Ns mainGlobals mg
 blt:∃mb,base.Ns builtinsNs mb/\∀x:Str,x≠"__name__"->mb x=bootBuiltins x
 nolimit:base.NoLimit
structure Cx where
 prog:Program
 w:World
 K:Frag
 mg:Aac
 base:Heap
 A:Around
 N:Aag
 aac:Shared
 aae:Hp
 env:Env
 outer:List Env
 stack:List Env
 ex:Aai
 fn:Str->Bool
 calm:Bool
 pn:Aab
 xe:Aad
def Ck(l:List Env):Aai:=l.filterMap (·.frame)
abbrev Cx.fs(X:Cx):Aai:=Ck X.outer
def Z2(sc:Scope)(x:Str):Prop:=sc.names.lookup x=some .local\/sc.names.lookup x=some .cell\/sc.names.lookup x=some .free
def Loc(sc:Scope)(x:Str):Prop:=sc.names.lookup x=some .local\/sc.names.lookup x=some .cell
def Look(env:Env)(h:Heap)(m:Aac)(x:Str)(u:Value):Prop:=
 (env.kindOf x=some .local/\m x=some u)\/((env.kindOf x=some .cell\/env.kindOf x=some .free)/\∃c,env.cells.lookup x=some c/\h.IsCell c (some u))
structure Cx.Ok(X:Cx):Prop where
 mod:Mod X.K X.mg X.base
 kind:X.env.scope.kind=.function
 glob:X.env.globals=mainGlobals
 blt:X.env.builtins=builtinsNs
 above:X.aac.heap.objs.size<=X.env.locals
 inj:∀x y c,X.env.cells.lookup x=some c->X.env.cells.lookup y=some c->x=y
 has:∀x,(X.env.kindOf x=some .cell\/X.env.kindOf x=some .free)->∃c,X.env.cells.lookup x=some c
 PQ:∀x c,X.fn x=true->X.env.cells.lookup x=some c->X.aac.heap.objs.size<=c
 hd:X.calm=true->X.A.handled=none
 frames:X.A.frames=some X.stack
 Sd:X.stack=X.outer\/(X.stack=X.env::X.outer/\X.env.frame=some X.env.locals)
 MY:∀b∈X.ex,b≠X.env.locals/\∀x c,X.env.cells.lookup x=some c->c≠b
 bs:∀b o,X.base.get? b=some o->X.aac.heap.get? b=some o/\X.aae b=none
 A5:X.base.objs.size<=X.aac.heap.objs.size
 ES:∀b o,X.base.get? b=some o->b∉X.ex
 Ai:∀b∈X.ex,b∉X.fs
 sR:X.aac.heap.FunFrames X.base X.outer
 Jp:∀b∈X.fs,X.aae b=none
structure Inv(X:Cx)(pins:Aab)(Z:List (Aao))(H:Hp)(s:Shared):Prop where
 ok:X.Ok
 os:s.os=X.aac.os
 bare:AllBare s.gens
 base:Un X.fs X.ex X.aae H X.aac.heap s.heap
 loc:∃m,s.heap.Ns X.env.locals m/\∀(i:Nat)(x:Str)(v:V),X.N[i]?=some x->Z[i]?=some (some v)->Z2 X.env.scope x->∃u,RelV v u/\Look X.env s.heap m x u
 cell:∀x c,X.env.cells.lookup x=some c->∃v,s.heap.IsCell c v
 free:H X.env.locals=none
 nB:∀x c,X.env.cells.lookup x=some c->H c=none
 pin:∀p∈X.pn++pins,s.heap.get? p.1=some p.2/\H p.1=none/\p.1≠X.env.locals/\p.1∉X.fs/\∀v,p.2.data≠ .cell v
 bP:j3 X.prog X.w H s.heap
 len:Z.length=X.N.length
section
variable{X:Cx}{pins:Aab}{Z:List (Aao)}{H H':Hp}{s:Shared}{h':Heap}
def Cx.Ok.afQ(ok:X.Ok)(e:X.base.get? b=some o):b∉X.fs:=λhb=>by have:=(ok.sR.mem hb).1;rw[e]at this;cases this
def Inv.bs(I:Inv X pins Z H s):∀b o,X.base.get? b=some o->s.heap.get? b=some o/\H b=none:=λb o e=>
 {I.base.keep b o (I.ok.bs b o e).1 (I.ok.bs b o e).2 (I.ok.afQ e) (I.ok.ES b o e),I.base.free b o (I.ok.bs b o e).1 (I.ok.bs b o e).2 (I.ok.ES b o e)}
def Inv.bk(I:Inv X pins Z H s):∀b o,X.base.get? b=some o->s.heap.get? b=some o:=λb o e=>(I.bs b o e).1
def Inv.mod(I:Inv X pins Z H s):Mod X.K X.mg X.base:=I.ok.mod
def Inv.mY(I:Inv X pins Z H s):X.K.In s.heap:=I.ok.mod.TY.keeps I.bk
def Inv.lt(I:Inv X pins Z H s):X.env.locals<s.heap.objs.size:=let⟨_,hn,_⟩:=I.loc;hn.lt
def Inv.sz(I:Inv X pins Z H s):X.aac.heap.objs.size<=s.heap.objs.size:=br I.ok.above (bC I.lt)
def Inv.WL(I:Inv X pins Z H s)(h:s.heap.objs.size<=a):a∉X.fs:=λhb=>by obtain⟨_,o,ho,_⟩:=I.ok.sR.mem hb;exact absurd (bw (aW ho) (br I.sz h)) (cX _)
def Inv.Nk(I:Inv X pins Z H s):∀x c,X.env.cells.lookup x=some c->c≠X.env.locals:=λx c e z=>by obtain⟨v,o,ho,hd⟩:=I.cell x c e;obtain⟨m,⟨o',es,ep,ph,pw,_⟩,_⟩:=I.loc;rw[z,ph]at ho;cases ho;rw[pw]at hd;cases hd
def Inv.sR(I:Inv X pins Z H s):s.heap.FunFrames X.base X.outer:=by
 have all:∀(l:List Env),(∀b∈Ck l,b∈X.fs)->X.aac.heap.FunFrames X.base l->s.heap.FunFrames X.base l:=by
  intro l
  induction l with
  |nil=>intro _ _;trivial
  |cons env r ih=>
   intro hs hl;obtain⟨hk,⟨L,o,hf,hn,ho,hd⟩,hr⟩:=hl;have hL:=hs L (by unfold Ck;rw[fB,hf];exact aF);obtain⟨sl,e⟩:=I.base.slot L o ho (I.ok.Jp L hL) hL λz=>I.ok.Ai L z hL;exact{hk,⟨L,_,hf,hn,e,hd⟩,ih (λb hb=>hs b (by unfold Ck;rw[fB,hf];exact aG _ hb)) hr}
 exact all X.outer (λ_ hb=>hb) I.ok.sR
def Inv.stack(I:Inv X pins Z H s):s.heap.FunFrames X.base X.stack:=by
 rcases I.ok.Sd with e|⟨e,hf⟩
 ·rw[e];exact I.sR
 ·rw[e];obtain⟨m,hn,_⟩:=I.loc;refine .cons (by rw[I.ok.kind];decide) hf hn ?_ I.sR;exact mR (br I.ok.A5 I.ok.above)
def Inv.Fx(I:Inv X pins Z H s):∀b∈Ck X.stack,b∈X.env.locals::X.fs:=λb hb=>by
 rcases I.ok.Sd with e|⟨e,hf⟩
 ·rw[e]at hb;exact aG _ hb
 ·rw[e]at hb;unfold Ck at hb;rw[fB,hf]at hb;exact hb
def Inv.GX(I:Inv X pins Z H s):∀b∈Ck X.stack,H b=none:=λb hb=>by
 rcases aN.mp (I.Fx b hb)with e|hb
 ·rw[e];exact I.free
 ·obtain⟨_,o,ho,_⟩:=I.ok.sR.mem hb;exact I.base.free b o ho (I.ok.Jp b hb) λz=>I.ok.Ai b z hb
def Inv.step{ch:Aai}(I:Inv X pins Z H s)
  (A3:∀b∈ch,(b∈X.ex\/X.aac.heap.objs.size<=b)/\b≠X.env.locals/\(∀x c,X.env.cells.lookup x=some c->c≠b)/\∀p∈X.pn++pins,p.1≠b)
  (keep:∀b o,b≠X.env.locals->b∉X.fs->b∉ch->s.heap.get? b=some o->H b=none->h'.get? b=some o)
  (slot:∀b o,b≠X.env.locals->b∈X.fs->b∉ch->s.heap.get? b=some o->H b=none->∃sl,h'.get? b=some {o with slots:=sl}) (free:∀b o,b∉ch->s.heap.get? b=some o->H b=none->H' b=none)
  (there:∀b o,b∉ch->s.heap.get? b=some o->∃o',h'.get? b=some o')
  (fk:∀b xs,H b=some 664->H' b=some 664) (uz:∀b o u,H b=some (.gE o u)->H' b=some (.gE o u)) (zF:∀b ps,H b=some (.Kv ps)->∃more,H' b=some (.Kv (ps++more)))
  (ns:∀m,s.heap.Ns X.env.locals m->h'.Ns X.env.locals m) (bP:j3 X.prog X.w H' h') (hg:AllBare g'):
  Inv X pins Z H' {s with heap:=h',gens:=g',drawn:=d',toks:=t'}:=by
 have OT:∀b o,X.aac.heap.get? b=some o->b≠X.env.locals:=λb o e=>aV (bw (aW e) I.ok.above);have Y0:∀b o,X.aac.heap.get? b=some o->b∉X.ex->b∉ch:=λb o e hx hb=>by
  rcases(A3 b hb).1 with z|z
  ·exact hx z
  ·exact absurd (bw (aW e) z) (cX _)
 have cellK:∀x c,X.env.cells.lookup x=some c->∀v,s.heap.IsCell c v->h'.IsCell c v:=λx c e v ⟨o,ho,hd⟩=>by
  have Tu:=λz=>(A3 c z).2.2.1 x c e rfl;by_cases hc:c∈X.fs
  ·obtain⟨sl,q⟩:=slot c o (I.Nk x c e) hc Tu ho (I.nB x c e);exact⟨_,q,hd⟩
  ·exact{o,keep c o (I.Nk x c e) hc Tu ho (I.nB x c e),hd}
 refine{I.ok,I.os,hg,{λb o e n hb hx=>keep b o (OT b o e) hb (Y0 b o e hx) (I.base.keep b o e n hb hx) (I.base.free b o e n hx),λb o e n hb hx=>?_,λb o e n hx=>?_,λb o e hx=>?_,λb xs e=>fk b xs (I.base.fk b xs e),λb o xs e=>uz b o xs (I.base.uz b o xs e),λb ps e=>?_},?_,λx c e=>?_,?_,λx c e=>?_,689,bP,I.len}
 ·obtain⟨sl,e1⟩:=I.base.slot b o e n hb hx;obtain⟨sl',e2⟩:=slot b _ (OT b o e) hb (Y0 b o e hx) e1 (I.base.free b o e n hx);exact⟨sl',e2⟩
 ·obtain⟨o',e1⟩:=I.base.there b o e hx;exact free b o' (Y0 b o e hx) e1 (I.base.free b o e n hx)
 ·obtain⟨o',e1⟩:=I.base.there b o e hx;exact there b o' (Y0 b o e hx) e1
 ·obtain⟨m1,e1⟩:=I.base.zF b ps e;obtain⟨m2,e2⟩:=zF b _ e1;exact{m1++m2,by rw[e2,Array.append_assoc]}
 ·obtain⟨m,hn,hl⟩:=I.loc;refine{m,ns m hn,λi x v e1 e2 e3=>?_};obtain⟨u,r,l⟩:=hl i x v e1 e2 e3;refine{u,r,?_};rcases l with l|⟨k,c,e,z⟩
  ·exact .inl l
  ·exact .inr {k,c,e,cellK x c e _ z}
 ·obtain⟨v,z⟩:=I.cell x c e;exact{v,cellK x c e v z}
 ·obtain⟨m,⟨o,_,_,ho,_⟩,_⟩:=I.loc;exact free _ o (λz=>(A3 _ z).2.1 9) ho I.free
 ·obtain⟨v,o,ho,hd⟩:=I.cell x c e;exact free c o (λz=>(A3 c z).2.2.1 x c e 9) ho (I.nB x c e)
 ·obtain⟨e,n,ne,nf,d⟩:=I.pin p hp;have Tu:=λz=>(A3 p.1 z).2.2.2 p hp rfl;exact{keep p.1 p.2 ne nf Tu e n,free p.1 p.2 Tu e n,ne,nf,d}
def Inv.un(I:Inv X pins Z H s)(u:Un X.fs [] H H' s.heap h')(bP:j3 X.prog X.w H' h'):Inv X pins Z H' {s with heap:=h',toks:=t'}:=by
 obtain⟨m,⟨o,es,ep,ho,r⟩,_⟩:=id I.loc;obtain⟨sl,hL⟩:=u.any ho I.free 59;exact I.step (ch:=[]) (λ_ z=>nomatch z) (λb o _ hb _ e n=>u.keep b o e n hb 59) (λb o _ hb _ e n=>u.slot b o e n hb 59) (λb o _ e n=>u.free b o e n 59) (λb o _ e=>u.there b o e 59) u.fk u.uz u.zF (λm' hm=>by obtain⟨o',U3,Cp,ph,r'⟩:=hm;rw[ho]at ph;cases ph;exact⟨_,U3,Cp,hL,r'⟩) bP I.bare
def Inv.call(I:Inv X pins Z H s)(u:Un (Ck X.stack) ch H H' s.heap h')(bP:j3 X.prog X.w H' h')(hg:AllBare g')
  (A3:∀b∈ch,(b∈X.ex\/X.aac.heap.objs.size<=b)/\b≠X.env.locals/\(∀x c,X.env.cells.lookup x=some c->c≠b)/\∀p∈X.pn++pins,p.1≠b):
  Inv X pins Z H' {s with heap:=h',gens:=g',drawn:=d',toks:=t'}:=by
 obtain⟨m,⟨o,es,ep,ho,r⟩,_⟩:=id I.loc;obtain⟨sl,hL⟩:=u.any ho I.free λz=>(A3 _ z).2.1 rfl;exact I.step A3 (λb o hL hb hc e n=>u.keep b o e n (λz=>(aN.mp (I.Fx b z)).elim hL hb) hc) (λb o _ _ hc e n=>u.any e n hc) (λb o hc e n=>u.free b o e n hc) (λb o hc e=>u.there b o e hc) u.fk u.uz u.zF (λm' hm=>by obtain⟨o',U3,Cp,ph,r'⟩:=hm;rw[ho]at ph;cases ph;exact⟨_,U3,Cp,hL,r'⟩) bP hg
def Inv.turned(I:Inv X pins Z H s)(k:∀b o,b≠it->s.heap.get? b=some o->h'.get? b=some o)(hn:H it=none)(hL:it≠X.env.locals)
  (h1:it∈X.ex\/X.aac.heap.objs.size<=it) (h2:∀x c,X.env.cells.lookup x=some c->c≠it) (h3:∀p∈X.pn++pins,p.1≠it):Inv X pins Z H {s with heap:=h',toks:=t'}:=by
 have nit:∀b u,H b=some u->b≠it:=λb u e z=>by rw[z,hn]at e;cases e
 refine I.step (ch:=[it]) 692 (λb o _ _ hc e _=>k b o 703 e) (λb o _ _ hc e _=>{o.slots,k b o 703 e}) (λ_ _ _ _ n=>n)
  (λb o hc e=>{o,k b o 703 e}) (λ_ _ e=>e) (λ_ _ _ e=>e) (λb ps e=>{#[],by rw[e];simp}) (λm hm=>?_) (λb u e=>?_) I.bare
 ·have e:b=it:=by simpa using hb
  subst e;exact⟨h1,hL,h2,h3⟩
 ·obtain⟨o,es,ep,ho,r⟩:=hm;exact{o,es,ep,k _ o (cL hL) ho,r}
 ·refine(I.bP b u e).qJ (λc v hc q=>k c v ?_ q) (λ_ q=>q) λ_ _ q=>q;rcases hc with z|z
  ·rw[z];exact nit b u e
  ·exact nit c _ z
def Inv.tok(I:Inv X pins Z H s)(t:Nat):Inv X pins Z H {s with toks:=t}:=I.un Un.refl I.bP
def Inv.kept(I:Inv X pins Z H s)(k:∀b u,s.heap.get? b=some u->h'.get? b=some u):Inv X pins Z H {s with heap:=h',toks:=t'}:=I.un (Un.kept k) (I.bP.kept k)
def Inv.laid(I:Inv X pins Z H s)(k:∀b u,s.heap.get? b=some u->h'.get? b=some u)(hp:s.heap.objs.size<=a)(new:dP X.prog X.w (upd H a o) h' a o):
  Inv X pins Z (upd H a o) {s with heap:=h',toks:=t'}:=I.un (Un.laid k hp (I.bP.fresh hp)) (I.bP.laid k hp new)
def Inv.write(I:Inv X pins Z H s)(mu:Vv (H x))(he:e=x\/H e=some (.own x))(k:∀b u,b≠e->s.heap.get? b=some u->h'.get? b=some u)(Pj:∃u,h'.get? e=some u)
  (new:dP X.prog X.w (upd H x o) h' x o):Inv X pins Z (upd H x o) {s with heap:=h',toks:=t'}:=I.un (Un.write mu he k Pj) (I.bP.write mu he k Pj new)
def Inv.qv(I:Inv X pins Z H s)(h:∀p∈aeL,s.heap.get? p.1=some p.2/\H p.1=none/\p.1≠X.env.locals/\p.1∉X.fs/\∀v,p.2.data≠ .cell v):Inv X aeL Z H s:=
 {I.ok,I.os,I.bare,I.base,I.loc,I.cell,I.free,I.nB,λp hp=>(aS.mp hp).elim (λz=>I.pin p (bx _ z)) (h p),I.bP,I.len}
def LK{N:Aag}(hN:N.Nodup){i j:Nat}(a:N[i]?=some x)(b:N[j]?=some x):i=j:=by obtain⟨h1,e1⟩:=aq.mp a;obtain⟨h2,e2⟩:=aq.mp b;exact(List.getElem_inj hN).mp (e1.trans e2.symm)
def Iw(I:Inv X pins Z H s)(hN:X.N.Nodup)(hi:X.N[i]?=some x)(hx:Loc X.env.scope x)(r:RelV v u)
  (h:∀s',Inv X pins (Z.set i (some v)) H s'->(∃a,Heap.SameBut a s.heap s'.heap/\(a=X.env.locals\/X.env.cells.lookup x=some a))->Q () s') (hf:X.fn x=true\/X.env.scope.names.lookup x=some .local:=by first|exact .inl rfl|exact .inr rfl|assumption):wpAny M A (storeName X.env x u) Q E s:=by
 obtain⟨m,hn,hl⟩:=id I.loc;have hiZ:i<Z.length:=by rw[I.len];exact(aq.mp hi).1
 have Nk:=I.Nk;have tracked:∀{a:Addr}{h':Heap},(∃o,s.heap.get? a=some o/\H a=none)->Heap.SameBut a s.heap h'->j3 X.prog X.w H h':=λ{a h'} ha hs b ob e=>by
  obtain⟨_,_,ZF⟩:=ha;refine(I.bP b ob e).qJ (λc w' hc q=>(hs.2 c ?_).trans q) (λ_ q=>q) λ_ _ q=>q;rintro rfl;rcases hc with rfl|hc
  ·rw[ZF]at e;cases e
  ·rw[ZF]at hc;cases hc
 rcases hx with hk|hk
 ·refine wpAny_storeName_local hk hn (λh' hn' hs=>?_) (by rw[I.ok.kind];rfl);obtain⟨oL,_,_,Ge,_⟩:=id hn;refine h _ {I.ok,I.os,I.bare,{λb o e n hb hx=>(hs.2 b (aV (bw (aW e) I.ok.above))).trans (I.base.keep b o e n hb hx),λb o e n hb hx=>?_,I.base.free,λb o e hx=>?_,I.base.fk,I.base.uz,I.base.zF},{_,hn',λj y v' e1 e2 e3=>?_},λy c e=>?_,I.free,I.nB,689,tracked {oL,Ge,I.free} hs,by simpa using I.len} {_,hs,.inl rfl}
  ·obtain⟨sl,e1⟩:=I.base.slot b o e n hb hx;exact{sl,(hs.2 b (aV (bw (aW e) I.ok.above))).trans e1}
  ·obtain⟨o',e1⟩:=I.base.there b o e hx;exact{o',(hs.2 b (aV (bw (aW e) I.ok.above))).trans e1}
  ·by_cases hj:j=i
   ·subst hj;rw[hi]at e1;cases e1;rw[yx hiZ]at e2;cases e2;exact{u,r,.inl {hk,59}}
   ·rw[AH (cL hj)]at e2;obtain⟨u',r',q⟩:=hl j y v' e1 e2 e3;refine{u',r',?_};rcases q with⟨k,e⟩|⟨k,c,e,z⟩
    ·refine .inl {k,?_};have:y≠x:=λe=>hj (LK hN e1 (e▸hi));simp[this,e]
    ·exact .inr {k,c,e,z.sameBut hs (Nk y c e)}
  ·obtain⟨w',z⟩:=I.cell y c e;exact{w',z.sameBut hs (Nk y c e)}
  ·obtain⟨e,n,ne,nf,d⟩:=I.pin p hp;exact{(hs.2 p.1 ne).trans e,n,ne,nf,d}
 ·have hfn:X.fn x=true:=by
   rcases hf with z|z
   ·exact z
   ·rw[z]at hk;cases hk
  obtain⟨c,hc⟩:=I.ok.has x (.inl hk);obtain⟨w',z⟩:=I.cell x c hc;refine wpAny_storeName_cell I.ok.kind hk hc z (λh' Jk hs=>?_);obtain⟨oc,Zw,agN⟩:=id z;refine h {s with heap:=h'} {I.ok,I.os,I.bare,{λb o e n hb hx=>(hs.2 b (aV (bw (aW e) (I.ok.PQ x c hfn hc)))).trans (I.base.keep b o e n hb hx),λb o e n hb hx=>?_,I.base.free,λb o e hx=>?_,I.base.fk,I.base.uz,I.base.zF},{m,hn.sameBut hs (cL (Nk x c hc)),λj y v' e1 e2 e3=>?_},λy c' e=>?_,I.free,I.nB,689,tracked {oc,Zw,I.nB x c hc} hs,by simpa using I.len} {c,hs,.inr hc}
  ·obtain⟨sl,e1⟩:=I.base.slot b o e n hb hx;exact{sl,(hs.2 b (aV (bw (aW e) (I.ok.PQ x c hfn hc)))).trans e1}
  ·obtain⟨o',e1⟩:=I.base.there b o e hx;exact{o',(hs.2 b (aV (bw (aW e) (I.ok.PQ x c hfn hc)))).trans e1}
  ·by_cases hj:j=i
   ·subst hj;rw[hi]at e1;cases e1;rw[yx hiZ]at e2;cases e2;exact{u,r,.inr {.inl hk,c,hc,Jk}}
   ·rw[AH (cL hj)]at e2;obtain⟨u',r',q⟩:=hl j y v' e1 e2 e3;refine{u',r',?_};rcases q with q|⟨k,c',e,z'⟩
    ·exact .inl q
    ·refine .inr {k,c',e,z'.sameBut hs ?_};rintro rfl;exact hj (LK hN e1 (I.ok.inj _ _ _ e hc▸hi))
  ·by_cases hcc:c'=c
   ·subst hcc;exact⟨_,Jk⟩
   ·obtain⟨w2,z2⟩:=I.cell y c' e;exact{w2,z2.sameBut hs hcc}
  ·obtain⟨e,n,ne,nf,d⟩:=I.pin p hp;refine{(hs.2 p.1 ?_).trans e,n,ne,nf,d};intro q;rw[q,Zw]at e;exact d w' (by rw[<-(bT e)];exact agN)
def Ey(I:Inv X pins Z H s)(hN:X.N.Nodup)(hi:X.N[i]?=some x)(hx:Loc X.env.scope x)(r:RelV v u)
  (h:∀s',Inv X pins (Z.set i (some v)) H s'->Q () s') (hf:X.fn x=true\/X.env.scope.names.lookup x=some .local:=by first|exact .inl rfl|exact .inr rfl|assumption):wpAny M A (storeName X.env x u) Q E s:=
 Iw I hN hi hx r (λs' I' _=>h s' I') hf
def Inv.ZX(I:Inv X pins Z H s)(ho:s'.os=s.os)(u:Un (Ck X.stack) ch H H' s.heap s'.heap)(bP:j3 X.prog X.w H' s'.heap)(hg:AllBare s'.gens)
  (A3:∀b∈ch,(b∈X.ex\/X.aac.heap.objs.size<=b)/\b≠X.env.locals/\(∀x c,X.env.cells.lookup x=some c->c≠b)/\∀p∈X.pn++pins,p.1≠b):Inv X pins Z H' s':=by
 obtain⟨h',g',d',t',o'⟩:=s';have e:=ho;subst e;exact I.call u bP hg A3
abbrev XK:=Value->Aaj->Hp->Prop
abbrev St:=List (Aao)
abbrev VK:=V->Hp->Prop
abbrev TE:=St->Hp->VK->Prop
abbrev TT:=St->Hp->(Bool->Hp->Prop)->Prop
abbrev TA:=St->Hp->(Aan->Hp->Prop)->Prop
structure Ends where
 nx:St->Hp->Prop
 rt:VK
 bk:St->Hp->Prop:=λ_ _=>False
 ct:St->Hp->Prop:=λ_ _=>False
abbrev TS:=Ends->St->Hp->Prop
end
inductive EP(X:Cx)(pins:Aab)(Z:St)(Q:VK)(u:Value)(s':Shared):Prop
 |mk v H' (_:Inv X pins Z H' s') (_:RelV v u) (_:Q v H')
inductive TP(X:Cx)(pins:Aab)(Z:St)(Q:Bool->Hp->Prop)(b:Bool)(s':Shared):Prop
 |mk H' (_:Inv X pins Z H' s') (_:Q b H')
inductive AP(X:Cx)(pins:Aab)(Z:St)(Q:Aan->Hp->Prop)(us:Aaf)(s':Shared):Prop
 |mk vs H' (_:Inv X pins Z H' s') (_:Vals vs us) (_:Q vs H')
def SP(X:Cx)(pins:Aab)(D:Ends)(f:Flow)(s':Shared):Prop:=
 match f with
 | .next=>∃σ' H',Inv X pins σ' H' s'/\D.nx σ' H'
 | .brk=>∃σ' H',Inv X pins σ' H' s'/\D.bk σ' H'
 | .cont=>∃σ' H',Inv X pins σ' H' s'/\D.ct σ' H'
 | .ret u=>∃v σ' H',Inv X pins σ' H' s'/\RelV v u/\D.rt v H'
def PE(X:Cx)(e:Expr)(t:TE):Prop:=
 ∀(pins:Aab)(s:Shared)(Z:St)(H:Hp)(Q:VK),Inv X pins Z H s->t Z H Q->wpAny 56 X.A (eval e X.env) 706 X.xe s
def PT(X:Cx)(e:Expr)(t:TT):Prop:=
 ∀(pins:Aab)(s:Shared)(Z:St)(H:Hp)(Q:Bool->Hp->Prop),Inv X pins Z H s->t Z H Q->wpAny 56 X.A (isTrue e X.env (eval e X.env)) (TP X pins Z Q) X.xe s
def PW(X:Cx)(e:Expr)(t:TT):Prop:=
 ∀(whole:Sem Value)(pins:Aab)(s:Shared)(Z:St)(H:Hp)(Q:Bool->Hp->Prop),Inv X pins Z H s->t Z H Q->wpAny 56 X.A (isTrue e X.env whole) (TP X pins Z Q) X.xe s
def PW.pt(h:PW X e t):PT X e t:=h _
def PA(X:Cx)(es:List Expr)(t:TA):Prop:=
 ∀(pos:Pos)(pins:Aab)(s:Shared)(Z:St)(H:Hp)(Q:Aan->Hp->Prop),Inv X pins Z H s->t Z H Q->wpAny 56 X.A (spliced (backTo pos 709)) (AP X pins Z Q) X.xe s
def PS(X:Cx)(st:Stmt)(t:TS):Prop:=
 ∀(pins:Aab)(s:Shared)(Z:St)(H:Hp)(D:Ends),Inv X pins Z H s->t D Z H->wpAny 56 X.A (exec st X.env) (SP X pins D) X.xe s
def rF(X:Cx)(st:List Stmt)(t:TS):Prop:=
 ∀(pins:Aab)(s:Shared)(Z:St)(H:Hp)(D:Ends),Inv X pins Z H s->t D Z H->wpAny 56 X.A (execs st X.env) (SP X pins D) X.xe s
def gj(h:wpAny M A t Q E s)(hQ:∀a s,Q a s->Q' a s):wpAny M A t Q' E s:=dy h hQ λ_ _ x=>x
def de{X:Cx}{pins:Aab}{Z:St}{Q:VK}{t:Sem Value}{Q':Aad}{s:Shared}(h:wpAny 56 X.A t 706 X.xe s)(k:∀u s x H,Inv X pins Z H s->RelV x u->Q x H->Q' u s):wpAny 56 X.A t Q' X.xe s:=gj h λu s ⟨x,H,I,r,q⟩=>k u s x H I r q
def sD{X:Cx}{pins:Aab}{Z:St}{Q:Aan->Hp->Prop}{t:Sem (Aaf)}{Q':Aaf->Shared->Prop}{s:Shared}(h:wpAny 56 X.A t (AP X pins Z Q) X.xe s)(k:∀u s x H,Inv X pins Z H s->Vals x u->Q x H->Q' u s):wpAny 56 X.A t Q' X.xe s:=gj h λu s ⟨x,H,I,r,q⟩=>k u s x H I r q
def GW{X:Cx}{pins:Aab}{Z:St}{Q:Bool->Hp->Prop}{t:Sem Bool}{Q':Bool->Shared->Prop}{s:Shared}(h:wpAny 56 X.A t (TP X pins Z Q) X.xe s)(k:∀u s H,Inv X pins Z H s->Q u H->Q' u s):wpAny 56 X.A t Q' X.xe s:=gj h λu s ⟨H,I,q⟩=>k u s H I q
section
variable{X:Cx}
inductive acb(i:Nat)(Z:St)(H:Hp)(Q:VK):Prop
 |mk v (_:Z[i]?=some (some v)) (_:Q v H)
def tC(v:V):TE:=λ_ H Q=>Q v H
def acP(hN:X.N[i]?=some x)(hv:Z2 X.env.scope x)(hd:658=false:=by decide)(Cf:(x==("__classdict__":Str))=false:=by decide):PE X (.Name x pos) (acb i):=by
 intro pins s Z H Q I h;obtain⟨v,e,h⟩:=h;obtain⟨m,hn,hl⟩:=I.loc;obtain⟨u,r,l⟩:=hl i x v hN e hv;have fin:EP X pins Z Q u s:=⟨v,H,I,r,h⟩;rcases l with⟨hk,hm⟩|⟨hk,c,hc,Kd⟩
 ·exact Fu (zA I.ok.kind hk hn hm fin) hd
 ·rcases hk with hk|hk
  ·exact Fu (Ba I.ok.kind hk hc Kd fin) hd
  ·exact Fu (wpAny_loadName_free I.ok.kind hk hc Kd fin Cf) hd
def aM{i j pos}:PE X (.Constant (.int i) j pos) (tC (.int i)):=λ_ _ _ H _ I h=>wpAny_Constant_int {.int i,H,680,723,h}
def gf{b j pos}:PE X (.Constant (.bool b) j pos) (tC (.bl b)):=λ_ _ _ H _ I h=>Constant_bool {.bl b,H,I,9,h}
def jz{j pos}:PE X (.Constant .none j pos) (tC .cz):=λ_ _ _ H _ I h=>Constant_none {.cz,H,I,9,h}
def cI{x j pos}:PE X (.Constant (.str x) j pos) (tC (.str x)):=λ_ _ _ H _ I h=>Calls.Constant_str {.str x,H,680,723,h}
def Gl(X:Cx)(x:Str):Prop:=X.env.kindOf x=some .globalImplicit
def HC(I:Inv X pins Z H s)(hg:Gl X x)(hm:X.mg x=some u)(h:Q u s)
  (hd:658=false:=by decide):wpAny 56 X.A (eval (.Name x pos) X.env) Q E s:=
 uH I.ok.kind hg (Calls.loadGlobal_global (I.ok.glob▸I.mod.glob.keeps I.bk) hm h) hd
def qY(I:Inv X pins Z H s)(hg:Gl X x)(hm:X.mg x=none)(hv:bootBuiltins x=some u)(h:Q u s)
  (hn:x≠"__name__":=by decide) (hd:658=false:=by decide):wpAny 56 X.A (eval (.Name x pos) X.env) Q E s:=by
 obtain⟨mb,h1,h2⟩:=I.mod.blt;exact uH I.ok.kind hg (Calls.loadGlobal_builtin (I.ok.glob▸I.mod.glob.keeps I.bk) hm (I.ok.blt▸h1.keeps I.bk) ((h2 x hn).trans hv) h) hd
def OM(hg:Gl X x)(hm:X.mg x=some u)(r:RelV v u)(hd:658=false:=by decide):PE X (.Name x pos) (tC v):=
 λ_ _ _ H _ I h=>HC I hg hm ⟨v,H,I,r,h⟩ hd
def aa6(hg:Gl X x)(hm:X.mg x=none)(hv:bootBuiltins x=some u)(r:RelV v u)(hn:x≠"__name__":=by decide)(hd:658=false:=by decide):PE X (.Name x pos) (tC v):=
 λ_ _ _ H _ I h=>qY I hg hm hv ⟨v,H,I,r,h⟩ hn hd
variable{a b:Expr}{pos:Pos}
def PC(X:Cx)(op:CmpOp)(a b:Expr)(t:TE):Prop:=
 ∀(pins:Aab)(s:Shared)(Z:St)(H:Hp)(Q:VK),Inv X pins Z H s->t Z H Q->
  wpAny 56 X.A (eval a X.env) (λv aaa=>wpAny 56 X.A (eval b X.env) (λu aad=>wpAny 56 X.A (compareOp op v u) 706 X.xe aad) X.xe aaa) X.xe s
inductive Om(Q:Bool->Hp->Prop)(x:V)(H1:Hp):Prop
 |mk c (_:x=.bl c) (_:Q c H1)
def tB(t:TE):TT:=λZ H Q=>t Z H λx H1=>Om Q x H1
def SO(h:PC X op a b t)(h1:behindInMarks op b=false:=by first|exact afR _ (by decide) (by decide)|rfl):PT X (.Compare a [op] [b] pos) (tB t):=by intro pins s Z H Q I hw;refine yC (gj (h pins s Z H _ I hw) λv s1 h1=>gj h1 λu s2 h2=>gj h2 λc s3 bJ=>?_) h1;obtain⟨x,H1,I1,r1,q1⟩:=bJ;obtain⟨d,rfl,q⟩:=q1;cases r1;exact eM ⟨H1,I1,q⟩
def gO(h:PE X e t)(he:∀whole,isTrue e X.env whole=(do let v<-whole;standAt e.pos;holding [v] (truthy v)):=by intro _;rfl):PT X e (tB t):=by intro pins s Z H Q I hw;refine isTrue_plain (de (h pins s Z H _ I hw) λv s1 x H1 I1 r1 q1=>?_) (he _);obtain⟨d,rfl,q⟩:=q1;cases r1;exact eM ⟨H1,I1,q⟩
variable{ta tb:TE}{tA Om:TT}{rest:List Expr}
def afA(t u:TT):TT:=λZ H Q=>t Z H λc H1=>if c=true then u Z H1 Q else Q false H1
def tOr(t u:TT):TT:=λZ H Q=>t Z H λc H1=>if c=true then Q true H1 else u Z H1 Q
def afq(t:TT):TT:=λZ H Q=>t Z H λc H1=>Q (!c) H1
def Hc(ha:PT X a tA):PW X (.BoolOp .And [a] pos) tA:=by
 intro wh pins s Z H Q I h;refine isTrue_and (gj (ha pins s Z H Q I h) λc s1 e=>?_);cases c with
 |true=>exact isTrue_and_nil e
 |false=>exact e
def nZ(ha:PT X a tA):PW X (.BoolOp .Or [a] pos) tA:=by
 intro wh pins s Z H Q I h;refine isTrue_or (gj (ha pins s Z H Q I h) λc s1 e=>?_);cases c with
 |false=>exact isTrue_or_nil e
 |true=>exact e
def Lb(ha:PT X a tA)(hb:PW X (.BoolOp .And (b::rest) pos) Om):PW X (.BoolOp .And (a::b::rest) pos) (afA tA Om):=by
 intro wh pins s Z H Q I h;refine isTrue_and (GW 693 λc s1 H1 I1 q1=>?_);cases c with
 |true=>exact hb wh pins s1 Z H1 Q I1 q1
 |false=>exact⟨H1,I1,q1⟩
def ny(ha:PT X a tA)(hb:PW X (.BoolOp .Or (b::rest) pos) Om):PW X (.BoolOp .Or (a::b::rest) pos) (tOr tA Om):=by
 intro wh pins s Z H Q I h;refine isTrue_or (GW 693 λc s1 H1 I1 q1=>?_);cases c with
 |true=>exact⟨H1,I1,q1⟩
 |false=>exact hb wh pins s1 Z H1 Q I1 q1
def jx(ha:PT X a tA):PT X (.UnaryOp .Not a pos) (afq tA):=by intro pins s Z H Q I h;exact isTrue_not (GW (ha pins s Z H (λc H1=>Q (!c) H1) I h) λ_ _ a b c=>⟨a,b,c⟩)
inductive acp(tb:TE)(Z:St)(Q:VK)(x:V)(H1:Hp):Prop
 |mk c (_:x=.bl c) (_:if c=true then tb Z H1 Q else Q (.bl false) H1)
def aeE(ta tb:TE):TE:=λZ H Q=>ta Z H λx H1=>acp tb Z Q x H1
inductive aew(tb:TE)(Z:St)(Q:VK)(x:V)(H1:Hp):Prop
 |mk c (_:x=.bl c) (_:if c=true then Q (.bl true) H1 else tb Z H1 Q)
def afp(ta tb:TE):TE:=λZ H Q=>ta Z H λx H1=>aew tb Z Q x H1
def tV{op}(h:PE X a t):PE X (.BoolOp op [a] pos) t:=λpins s Z H Q I hw=>BoolOp_one (h pins s Z H Q I hw)
def tW(ha:PE X a ta)(hb:PE X (.BoolOp .And (b::rest) pos) tb):PE X (.BoolOp .And (a::b::rest) pos) (aeE ta tb):=by
 intro pins s Z H Q I h;refine BoolOp_and (de 693 λv s1 x H1 I1 r1 q1=>?_);obtain⟨c,rfl,q1⟩:=q1;cases r1;refine eM ?_;cases c with
 |true=>exact hb pins s1 Z H1 Q I1 q1
 |false=>exact{.bl false,H1,I1,9,q1}
def aeM(ha:PE X a ta)(hb:PE X (.BoolOp .Or (b::rest) pos) tb):PE X (.BoolOp .Or (a::b::rest) pos) (afp ta tb):=by
 intro pins s Z H Q I h;refine BoolOp_or (de 693 λv s1 x H1 I1 r1 q1=>?_);obtain⟨c,rfl,q1⟩:=q1;cases r1;refine eM ?_;cases c with
 |false=>exact hb pins s1 Z H1 Q I1 q1
 |true=>exact{.bl true,H1,I1,9,q1}
def tIf(t:TT)(ta tb:TE):TE:=λZ H Q=>t Z H λc H1=>if c=true then ta Z H1 Q else tb Z H1 Q
def EM(hc:PT X c tA)(ha:PE X a ta)(hb:PE X b tb):PE X (.IfExp c a b pos) (tIf tA ta tb):=by
 intro pins s Z H Q I h;refine wpAny_IfExp (GW (hc pins s Z H _ I h) λd s1 H1 I1 q1=>?_);cases d with
 |true=>exact ha pins s1 Z H1 Q I1 q1
 |false=>exact hb pins s1 Z H1 Q I1 q1
end
def bf(K:Frag)(H:Hp)(a:Addr)(xs:Aan):Prop:=
 Rd H a (.lst xs)\/
  ∃(o:Obj)(a9:Aak)(n:Nat),K.lookup a=some o/\o.cls=.type "list"/\o.dict=none/\o.data=.seq a9 n/\a9.size<=sizeLine/\Vals xs a9.toList
def aY(K:Frag)(H:Hp)(a:Addr)(xs:Aan):Prop:=
 Rd H a 664\/
  ∃(o:Obj)(a9:Aak)(n:Nat),K.lookup a=some o/\o.cls=.type "tuple"/\o.data=.seq a9 n/\a9.size<=sizeLine/\Vals xs a9.toList
def ahh:Value->Aao
 | .none=>some .cz
 | .bool b=>some (.bl b)
 | .int i _=>some (.int i)
 | .str x _=>some (.str x)
 | .bytes b _=>some (.uT b)
 | .float b _=>some (.MW b)
 | .ref a=>some 654
 | .type n=>some (.ty n)
 |_=>none
def RelV.abs(r:RelV x u):ahh u=some x:=by
 cases x with
 |cz=>cases r;rfl
 |bl _=>cases r;rfl
 |int _=>obtain⟨t,rfl⟩:=r;rfl
 |str _=>obtain⟨t,rfl⟩:=r;rfl
 |uT _=>obtain⟨t,rfl⟩:=r;rfl
 |MW _=>obtain⟨t,rfl⟩:=r;rfl
 |ref _=>cases r;rfl
 |ty _=>cases r;rfl
def RelV.inj(r:RelV x u)(q:RelV y u):x=y:=bT (r.abs.symm.trans q.abs)
theorem Vals.inj:∀{xs ys:Aan}{us:Aaf},Vals xs us->Vals ys us->xs=ys
 |_,_,_,.nil,.nil=>rfl
 |_,_,_,.cons r t,.cons r' t'=>by rw[r.inj r',Vals.inj t t']
section
variable{X:Cx}{pins:Aab}{Z:St}{H:Hp}{s:Shared}{a:Addr}{xs ys:Aan}
def bf.of{K:Frag}(h:H a=some (.lst xs)):bf K H a xs:=.inl (.inl h)
def aY.of{K:Frag}(h:H a=some 664):aY K H a xs:=.inl (.inl h)
def Inv.list(I:Inv X pins Z H s)(h:bf X.K H a xs):∃a9:Aaf,Vals xs a9/\PlainL s.heap a a9.toArray/\xs.length<=sizeLine:=by
 rcases h with h|⟨o,a9,n,hk,hc,hd,hs,hz,r⟩
 ·obtain⟨z,a9,n,r,e⟩:=h.ok I.bP;exact{a9,r,⟨_,n,e,rfl,rfl,rfl⟩,z}
 ·refine{a9.toList,r,{o,n,I.mY a o hk,hc,hd,by simpa using hs},?_};have e:=r.length;simp only[bI]at e;lia
def Inv.tuple(I:Inv X pins Z H s)(h:aY X.K H a xs):∃a9:Aaf,Vals xs a9/\IsTup s.heap a a9.toArray/\xs.length<=sizeLine:=by
 rcases h with h|⟨o,a9,n,hk,hc,hs,hz,r⟩
 ·obtain⟨z,a9,r,p,_⟩:=h.ok I.bP;exact⟨a9,r,p,z⟩
 ·refine{a9.toList,r,{o,I.mY a o hk,hc,n,by simpa using hs},?_};have e:=r.length;simp only[bI]at e;lia
def Inv.LR(I:Inv X pins Z H s)(h:bf X.K H a xs)(h':bf X.K H a ys):xs=ys:=by
 obtain⟨a9,r,⟨o,n,e,_,_,d⟩,_⟩:=I.list h;obtain⟨its',r',⟨o',n',e',_,_,d'⟩,_⟩:=I.list h';rw[e]at e';cases e';rw[d]at d';injection d' with d1 _;have:a9=its':=by simpa using cP Array.toList d1
 subst this;exact r.inj r'
def Inv.tR(I:Inv X pins Z H s)(h:aY X.K H a xs)(h':aY X.K H a ys):xs=ys:=by
 obtain⟨a9,r,⟨o,e,_,n,d⟩,_⟩:=I.tuple h;obtain⟨its',r',⟨o',e',_,n',d'⟩,_⟩:=I.tuple h';rw[e]at e';cases e';rw[d]at d';injection d' with d1 _;have:a9=its':=by simpa using cP Array.toList d1
 subst this;exact r.inj r'
end
abbrev Cx.xG(X:Cx)(E:Aad):Cx:={X with xe:=E}
abbrev Cx.YX(X:Cx):Cx:=X.xG λ_ _=>False
def Cx.Ok.xG{X:Cx}(ok:X.Ok)(E:Aad):(X.xG E).Ok:=
 {ok.mod,ok.kind,ok.glob,ok.blt,ok.above,ok.inj,ok.has,ok.PQ,ok.hd,ok.frames,ok.Sd,ok.MY,ok.bs,ok.A5,ok.ES,ok.Ai,ok.sR,ok.Jp}
def Cx.Ok.tQ{X:Cx}(ok:(X.xG E).Ok):X.Ok:=
 {ok.mod,ok.kind,ok.glob,ok.blt,ok.above,ok.inj,ok.has,ok.PQ,ok.hd,ok.frames,ok.Sd,ok.MY,ok.bs,ok.A5,ok.ES,ok.Ai,ok.sR,ok.Jp}
section
variable{X:Cx}{pins:Aab}{Z:St}{H:Hp}{s:Shared}{E:Aad}
def Inv.xG(I:Inv X pins Z H s)(E:Aad):Inv (X.xG E) pins Z H s:={I.ok.xG E,I.os,I.bare,I.base,I.loc,I.cell,I.free,I.nB,I.pin,I.bP,I.len}
def Inv.tQ(I:Inv (X.xG E) pins Z H s):Inv X pins Z H s:={I.ok.tQ,I.os,I.bare,I.base,I.loc,I.cell,I.free,I.nB,I.pin,I.bP,I.len}
def SP.tQ(h:SP (X.xG E) pins D f s'):SP X pins D f s':=by
 cases f with
 |next=>obtain⟨σ',H',I,q⟩:=h;exact{σ',H',I.tQ,q}
 |brk=>obtain⟨σ',H',I,q⟩:=h;exact{σ',H',I.tQ,q}
 |cont=>obtain⟨σ',H',I,q⟩:=h;exact{σ',H',I.tQ,q}
 |ret u=>obtain⟨v,σ',H',I,r,q⟩:=h;exact{v,σ',H',I.tQ,r,q}
def rF.YX{st:List Stmt}(h:rF X.YX st t):rF X st t:=λpins s Z H D I hw=>
 dy (h pins s Z H D (I.xG _) hw) (λ_ _ q=>q.tQ) λ_ _ z=>False.elim z
end
section
variable{X:Cx}{st:Stmt}{rest:List Stmt}{t u:TS}{e:Expr}{te:TE}{pos:Pos}
def aex:TS:=λD Z H=>D.nx Z H
def acg(t u:TS):TS:=λD Z H=>t {D with nx:=u D} Z H
def cy:rF X [] aex:=λ_ _ Z H _ I h=>qG ⟨Z,H,I,h⟩
def az(h1:PS X st t)(h2:rF X rest u):rF X (st::rest) (acg t u):=by
 intro pins s Z H D I h;refine wpAny_execs_cons (gj (h1 pins s Z H {D with nx:=u D} I h) λf s1 q=>?_);cases f with
 |next=>
  obtain⟨σ',H',I',q⟩:=q;exact h2 pins s1 σ' H' D I' q
 |ret v=>exact q
 |brk=>exact q
 |cont=>exact q
def aQ(h1:PS X st t):rF X [st] t:=by
 intro pins s Z H D I h;refine wpAny_execs_cons (gj (h1 pins s Z H D I h) λf s1 q=>?_);cases f with
 |next=>exact qG q
 |ret v=>exact q
 |brk=>exact q
 |cont=>exact q
def Inv.quiet(I:Inv X pins Z H s):interactive X.env=false:=by simp[interactive,I.ok.kind]
def aez(te:TE):TS:=λD Z H=>te Z H λ_ H1=>D.nx Z H1
def gS(he:PE X e te)(hs:swapsWith e none pos.line X.env=pure false:=by rfl):PS X (.Expr e pos) (aez te):=by intro pins s Z H D I h;exact wpAny_Expr_any (de 730 λv s1 x H1 I1 r1 q1=>⟨Z,H1,I1,q1⟩) I.quiet hs
def afo(te:TE):TS:=λD Z H=>te Z H D.rt
def bK(he:PE X e te):PS X (.Return (some e) pos) (afo te):=by intro pins s Z H D I h;exact wpAny_Return_some (de 730 λv s1 x H1 I1 r1 q1=>⟨x,Z,H1,I1,r1,q1⟩)
def afs(c:TT)(t u:TS):TS:=λD Z H=>c Z H λb H1=>if b=true then t D Z H1 else u D Z H1
def df(hc:PT X c tc)(ha:rF X a t)(hb:rF X b u):PS X (.If c a b pos) (afs tc t u):=by
 intro pins s Z H D I h;refine wpAny_If (GW (hc pins s Z H _ I h) λd s1 H1 I1 q1=>?_);cases d with
 |true=>exact ha pins s1 Z H1 D I1 q1
 |false=>exact hb pins s1 Z H1 D I1 q1
abbrev TG:=V->St->Hp->(St->Hp->Prop)->Prop
abbrev Z4:=Aan->St->Hp->(St->Hp->Prop)->Prop
end
def PG(X:Cx)(target:Expr)(t:TG):Prop:=
 ∀(pins:Aab)(s:Shared)(Z:St)(H:Hp)(v:V)(u:Value)(Q:St->Hp->Prop),Inv X pins Z H s->RelV v u->t v Z H Q->
  wpAny 56 X.A (assign target X.env u) (λ_ s'=>∃σ' H',Inv X pins σ' H' s'/\Q σ' H') X.xe s
def Nu(X:Cx)(ts:List Expr)(t:Z4):Prop:=
 ∀(pins:Aab)(s:Shared)(Z:St)(H:Hp)(vs:Aan)(us:Aaf)(Q:St->Hp->Prop),Inv X pins Z H s->Vals vs us->t vs Z H Q->
  wpAny 56 X.A (assignInOrder ((assignEach ts X.env).map (·.2)) us) (λ_ s'=>∃σ' H',Inv X pins σ' H' s'/\Q σ' H') X.xe s
abbrev Aw:=V->V->V->Hp->(Hp->Prop)->Prop
def aek(X:Cx)(t:Aw):Prop:=
 ∀(pins:Aab)(s:Shared)(Z:St)(H:Hp)(o i v:V)(ov iv u:Value)(Q:Hp->Prop),Inv X pins Z H s->RelV o ov->RelV i iv->RelV v u->t o i v H Q->
  wpAny 56 X.A (setItem ov iv u) (λ_ s'=>∃H',Inv X pins Z H' s'/\Q H') X.xe s
abbrev TIp:=V->V->Hp->VK->Prop
def PIp(X:Cx)(op:Operator)(t:TIp):Prop:=
 ∀(pins:Aab)(s:Shared)(Z:St)(H:Hp)(x y:V)(v u:Value)(Q:VK),Inv X pins Z H s->RelV x v->RelV y u->t x y H Q->
  wpAny 56 X.A (inplaceOp op v u) 706 X.xe s
section
variable{X:Cx}{pos:Pos}
def xq(i:Nat):TG:=λv Z H Q=>Q (Z.set i (some v)) H
def sJ(hN:X.N.Nodup)(hi:X.N[i]?=some x)(hx:Loc X.env.scope x)(hf:X.fn x=true\/X.env.scope.names.lookup x=some .local:=by first|exact .inl rfl|exact .inr rfl|assumption):PG X (.Name x pos) (xq i):=by intro pins s Z H v u Q I r h;exact DE (Ey I hN hi hx r (λs' I'=>⟨_,H,I',h⟩) hf)
def adW:Z4:=λvs Z H Q=>vs=[]/\Q Z H
inductive Rc(t:TG)(u:Z4)(vs:Aan)(Z:St)(H:Hp)(Q:St->Hp->Prop):Prop
 |mk v r (_:vs=v::r) (_:t v Z H λσ' H'=>u r σ' H' Q)
def fQ:Nu X [] adW:=by intro pins s Z H vs us Q I r h;obtain⟨e,h⟩:=h;subst e;cases r;exact assignInOrder_nil ⟨Z,H,I,h⟩
def b9(h1:PG X e t)(h2:Nu X es u)
  (hs:(assignEach (e::es) X.env).map (·.2)=assign e X.env::(assignEach es X.env).map (·.2):=by rfl):Nu X (e::es) (Rc t u):=by
 intro pins s Z H vs us Q I r h;obtain⟨v,vr,e1,h⟩:=h;subst e1;cases r with
 |cons r rr=>
  rw[hs];exact assignInOrder_cons (gj (h1 pins s Z H _ _ _ I r h) λ_ s1 ⟨σ1,H1,I1,q1⟩=>h2 pins s1 σ1 H1 _ _ Q I1 rr q1)
inductive Xn(K:Frag)(n:Nat)(t:Z4)(v:V)(Z:St)(H:Hp)(Q:St->Hp->Prop):Prop
 |mk a xs (_:v=.ref a) (_:aY K H a xs) (_:xs.length=n) (_:t xs Z H Q)
def jy(hc:X.calm=true)(h:Nu X es t)
  (hn:(assignEach es X.env).length=n:=by rfl) (AZ:(assignEach es X.env).findIdx? (·.1)=none:=by rfl):PG X (.Tuple es k pos) (Xn X.K n t):=by
 intro pins s Z H v u Q I r hw;obtain⟨a,xs,e1,hq,hl,hw⟩:=hw;subst e1;cases r;obtain⟨a9,rv,ht,hz⟩:=I.tuple hq;refine assign_Tuple_tuple (I.ok.hd hc) ht (by simp[hn,<-hl,rv.length]) AZ λh' hx=>?_;exact h pins _ Z H xs _ Q (I.kept (t':=s.toks) λb o e=>hx b o (aV (aW e)) e) (by simpa using rv) hw
def ag5(to ti:TE)(t:Aw):TG:=λv Z H Q=>to Z H λo H1=>ti Z H1 λi H2=>t o i v H2 λH3=>Q Z H3
def Lj(ho:PE X o to)(hi:PE X i ti)(hs:aek X t)
  (ha:∀v,assign (.Subscript o i pos) X.env v=(do
   let ov<-holding [v] (eval o X.env)
   let iv<-holding [v,ov] (eval i X.env)
   standAt pos
   holding [v,ov,iv] (setItem ov iv v)
   release [v,ov,iv] []):=by intro _;rfl):PG X (.Subscript o i pos) (ag5 to ti t):=by
 intro pins s Z H v u Q I r h;refine ae (cm (de 731 λov s1 x H1 I1 r1 q1=>?_));refine ae (cm (de (hi pins s1 Z H1 _ I1 q1) λiv s2 y H2 I2 r2 q2=>?_));exact ae (AN (ae (cm (gj (hs pins s2 Z H2 x y v ov iv u _ I2 r1 r2 r q2) λ_ s3 ⟨H3,I3,q3⟩=>wpAny_release ⟨Z,H3,I3,q3⟩))))
def VR(te:TE)(g:TG):TS:=λD Z H=>te Z H λx H1=>g x Z H1 D.nx
def yM(he:PE X e te)(hg:PG X tg g)(hs:swapsWithSole [tg] e pos.line X.env=pure false:=by rfl)(hw:swappedStores [tg] e X.env=pure none:=by rfl)
  (h1:(assignEach [tg] X.env).map (·.2)=[assign tg X.env]:=by rfl):PS X (.Assign [tg] e pos) (VR te g):=by
 intro pins s Z H D I h;refine wpAny_Assign_stores (de 730 λv s1 x H1 I1 r1 q1=>?_) hs hw;rw[h1];exact gj (hg pins s1 Z H1 x v _ I1 r1 q1) λ_ s2 q=>q
def kx(hN:X.N.Nodup)(hi:X.N[i]?=some x)(hx:Loc X.env.scope x)(he:PE X e te)(hs:swapsWith e (some (.Name x pos')) pos.line X.env=pure false:=by rfl)(hf:X.fn x=true\/X.env.scope.names.lookup x=some .local:=by first|exact .inl rfl|exact .inr rfl|assumption):
  PS X (.Assign [.Name x pos'] e pos) (VR te (xq i)):=by
 intro pins s Z H D I h;exact wpAny_Assign_Name (de 730 λv s1 y H1 I1 r1 q1=>Ey I1 hN hi hx r1 (λs2 I2=>⟨_,H1,I2,q1⟩) hf) hs
inductive afz(i:Nat)(te:TE)(ti:TIp)(D:Ends)(Z:St)(H:Hp):Prop
 |mk x (_:Z[i]?=some (some x)) (_:te Z H λy H1=>ti x y H1 λz H2=>D.nx (Z.set i (some z)) H2)
def acO{i:Nat}{x:Str}{e:Expr}{te:TE}{op:Operator}{ti:TIp}{pos':Pos}(hN:X.N.Nodup)(hi:X.N[i]?=some x)(hx:Loc X.env.scope x)(he:PE X e te)(ho:PIp X op ti)(hf:X.fn x=true\/X.env.scope.names.lookup x=some .local:=by first|exact .inl rfl|exact .inr rfl|assumption):
  PS X (.AugAssign (.Name x pos') op e pos) (afz i te ti):=by
 intro pins s Z H D I h;obtain⟨v,e1,h⟩:=h;obtain⟨m,hn,hl⟩:=I.loc;have vis:Z2 X.env.scope x:=by rcases hx with k|k;exact .inl k;exact .inr (.inl k)
 obtain⟨u,r,l⟩:=hl i x v hi e1 vis;refine wpAny_AugAssign_Name ?_;have go:wpAny 56 X.A (eval e X.env) (λw aad=>wpAny 56 X.A (inplaceOp op u w) (λr aaf=>wpAny 56 X.A (storeName X.env x r) (λ_=>SP X pins D .next) X.xe aaf) X.xe aad) X.xe s:=by refine de 730 λw s1 y H1 I1 r1 q1=>?_;refine gj (ho pins s1 Z H1 v y u w _ I1 r r1 q1) λz s2 bM=>?_;obtain⟨zv,H2,I2,r2,q2⟩:=bM;exact Ey I2 hN hi hx r2 (λs3 I3=>⟨_,H2,I3,q2⟩) hf
 rcases l with⟨hk,hm⟩|⟨hk,c,hc,Kd⟩
 ·exact zA I.ok.kind hk hn hm go
 ·rcases hk with hk|hk
  ·exact Ba I.ok.kind hk hc Kd go
  ·rcases hx with k|k
   ·have:X.env.scope.names.lookup x=some .free:=hk;rw[k]at this;cases this
   ·have:X.env.scope.names.lookup x=some .free:=hk;rw[k]at this;cases this
inductive ipI(f:Int->Int->Int)(x:V)(y:V)(H:Hp)(Q:VK):Prop
 |mk i j (_:x=.int i) (_:y=.int j) (_:Q (.int (f i j)) H)
def ado:PIp X .Add (ipI λi j=>i+j):=by intro pins s Z H x y v u Q I r1 r2 h;obtain⟨i,j,e1,e2,q⟩:=h;subst e1;subst e2;obtain⟨t,rfl⟩:=r1;obtain⟨t',rfl⟩:=r2;exact iadd_int {.int _,H,680,723,q}
def aca(c:TT)(tb:TS):TS:=λD Z H=>∃W:Nat->St->Hp->Prop,(∃m,W m Z H)/\∀m Z H,W m Z H->
 c Z H λb H1=>if b=true then∃N:St->Hp->Prop,(∀σ' H',N σ' H'->∃m',m'<m/\W m' σ' H')/\tb {D with nx:=N,ct:=N,bk:=D.nx} Z H1 else D.nx Z H1
def Wi(hp:PassesOwn 56 X.A X.env X.xe)(hc:PT X c tc)(hb:rF X body tb):PS X (.While c body [] pos) (aca tc tb):=by
 intro pins s Z H D I h;obtain⟨W,⟨m0,w0⟩,turn⟩:=h;refine wpAny_While (codeAny_whileLoop (λn s'=>∃σ' H',Inv X pins σ' H' s'/\W n σ' H') ?_ m0 ⟨Z,H,I,w0⟩);rintro n s1 ⟨σ1,H1,I1,w1⟩;refine jF hp (GW (hc pins s1 σ1 H1 _ I1 (turn n σ1 H1 w1)) λb s2 H2 I2 q2=>?_);cases b with
 |true=>
  obtain⟨N,hN,q2⟩:=q2;refine jF hp (gj (hb pins s2 σ1 H2 _ I2 q2) λf s3 q3=>?_);cases f with
  |next=>
   obtain⟨σ3,H3,I3,n3⟩:=q3;obtain⟨m',hm,w3⟩:=hN σ3 H3 n3;exact⟨m',hm,σ3,H3,I3,w3⟩
  |cont=>
   obtain⟨σ3,H3,I3,n3⟩:=q3;obtain⟨m',hm,w3⟩:=hN σ3 H3 n3;exact⟨m',hm,σ3,H3,I3,w3⟩
  |brk=>exact q3
  |ret v=>exact q3
 |false=>
  exact qG ⟨σ1,H2,I2,q2⟩
structure It where
 go:Nat->Hp->Prop
 DV:Nat->Hp->V->Hp->Prop
 stop:Nat->Hp->Prop
end
def oI(X:Cx)(pins:Aab)(H:Hp)(b:Addr):Prop:=
 H b=none/\b≠X.env.locals/\b∉X.fs/\(b∈X.ex\/X.aac.heap.objs.size<=b)/\(∀x c,X.env.cells.lookup x=some c->c≠b)/\∀p∈X.pn++pins,p.1≠b
def Inv.v9(I:Inv X pins Z H s)(hb:s.heap.objs.size<=b)(hn:H' b=none):oI X pins H' b:=by
 refine{hn,cq (bw I.lt hb),I.WL hb,.inr (br I.sz hb),λx c e z=>?_,λp hp z=>?_}
 ·obtain⟨v,q⟩:=I.cell x c e;exact absurd (bw q.lt (z▸hb)) (cX _)
 ·exact absurd (bw (aW (I.pin p hp).1) (z▸hb)) (cX _)
structure Turn(P:Program)(w:World)(K:Frag)(tg:Expr)(J:It)(fp:Aai)(it:Addr)(tn:Nat->Heap->Prop):Prop where
 mem:it∈fp
 obj:∀i h,tn i h->∀b∈fp,∃o,h.get? b=some o/\∀v,o.data≠ .cell v
 keep:∀i h h',tn i h->(∀b∈fp,∀o,h.get? b=some o->h'.get? b=some o)->tn i h'
 item:∀(X:Cx),X.prog=P->X.w=w->X.K=K->X.calm=true->∀(i:Nat)(pins:Aab)(s:Shared)(Z:St)(H:Hp)(E:Aad),Inv X pins Z H s->(∀b∈fp,oI X pins H b)->tn i s.heap->J.go i H->
  wpAny 661 X.A (pyNext (.ref it)) (λr s1=>∃u,r=some u/\
   wpAny 661 X.A (letOwnedTupleGo tg (.ref it) u) (λ_ s2=>∃x H',Inv X pins Z H' s2/\RelV x u/\J.DV i H x H'/\tn (i+1) s2.heap/\∀b∈fp,H' b=none) E s1) E s
 done:∀(X:Cx),X.prog=P->X.w=w->X.K=K->X.calm=true->∀(i:Nat)(pins:Aab)(s:Shared)(Z:St)(H:Hp)(E:Aad),Inv X pins Z H s->(∀b∈fp,oI X pins H b)->tn i s.heap->J.stop i H->
  wpAny 661 X.A (pyNext (.ref it)) (λr s1=>r=none/\Inv X pins Z H s1) E s
 self:∀(A:Around)(i:Nat)(s:Shared)(Q:Aad)(E:Aad),tn i s.heap->Q (.ref it) s->wpAny 661 A (pyIter (.ref it)) Q E s
abbrev TI:=St->Hp->(It->Hp->Prop)->Prop
def PIE(X:Cx)(pins:Aab)(Z:St)(tg:Expr)(R:It->Hp->Prop)(Zk:Value)(s2:Shared):Prop:=
 ∃(it:Addr)(fp:Aai)(tn:Nat->Heap->Prop)(J:It)(H':Hp),Zk=.ref it/\Inv X pins Z H' s2/\Turn X.prog X.w X.K tg J fp it tn/\tn 0 s2.heap/\(∀b∈fp,oI X pins H' b)/\R J H'
def PI(X:Cx)(tg iter:Expr)(wi:TI):Prop:=
 ∀(pins:Aab)(s:Shared)(Z:St)(H:Hp)(R:It->Hp->Prop),Inv X pins Z H s->wi Z H R->
  wpAny 56 X.A (eval iter X.env) (λv s1=>wpAny 56 X.A (pyIter v) (PIE X pins Z tg R) X.xe s1) X.xe s
def Gj(ho:s.heap.get? it=some o)(hc:o.cls=.type n)(hd:o.data=.fields vs)
  (hn:["enumerate","zip","dict_itemiterator","dict_reverseitemiterator","odict_iterator","itertools.zip_longest","itertools.pairwise"].contains n=false) (hQ:Q () s):wpAny M A (letOwnedTupleGo tg (.ref it) u) Q E s:=by
 cases tg<;>first
  |exact ao hQ
  |(cases u<;>first
    |exact ao hQ
    |(refine ae (Fs ho ?_);rw[hc,hd];show wpAny M A (if(["enumerate","zip","dict_itemiterator","dict_reverseitemiterator","odict_iterator","itertools.zip_longest","itertools.pairwise"].contains n&&vs[0]?==some (rawInt _))=true then _ else _) Q E s;rw[aH (by intro h;rw[hn,kr]at h;cases h)];exact ao hQ))
def Vy(K:Frag)(a:Addr):It:=
 {λi H=>∃xs x,bf K H a xs/\xs[i]?=some x,λi H x H'=>H'=H/\∀xs,bf K H a xs->xs[i]?=some x,λi H=>∃xs,bf K H a xs/\xs.length<=i}
def Vx(K:Frag)(a:Addr):It:=
 {λi H=>∃xs x,aY K H a xs/\xs[i]?=some x,λi H x H'=>H'=H/\∀xs,aY K H a xs->xs[i]?=some x,λi H=>∃xs,aY K H a xs/\xs.length<=i}
def Z9(lo:Int)(n:Nat):It:={λi _=>i<n,λi H x H'=>H'=H/\x=.int (lo+i),λi _=>n<=i}
def R1{K:Frag}(a it:Addr):Turn P w K tg (Vy K a) [it] it (λi h=>h.IsListIter it a i) where
 mem:=by simp
 obj:=λi h st b hb=>by
  have e:b=it:=by simpa using hb
  subst e;obtain⟨o,e,c,d⟩:=st;exact{o,e,λv z=>by rw[d]at z;cases z}
 keep:=λi h h' st k=>st.at λo e=>k it 59 o e
 item:=by intro X hP hw hK hc i pins s Z H E I hf st hg;subst hP hw hK;obtain⟨xs,x,hq,hx⟩:=hg;obtain⟨a9,rv,p,hz⟩:=I.list hq;obtain⟨u,hu,ru⟩:=rv.get hx;obtain⟨f0,f1,f2,f3,f4,f5⟩:=hf it 59;refine xD st p.isList (by simpa using hu) λh' mT sb=>?_;obtain⟨o,e,c,d⟩:=id mT;exact{u,9,Gj e c d 7 {x,H,724,ru,{9,λys hy=>by rw[I.LR hy hq];exact hx},mT,λb hb=>(hf b hb).1}}
 done:=by intro X hP hw hK hc i pins s Z H E I hf st hg;subst hP hw hK;obtain⟨xs,hq,hx⟩:=hg;obtain⟨a9,rv,p,hz⟩:=I.list hq;obtain⟨f0,f1,f2,f3,f4,f5⟩:=hf it 59;have hl:=rv.length;exact yB (I.ok.hd hc) st p.isList (by simp;lia) λh' eb=>{9,726}
 self:=λ_ _ _ _ _ st h=>wpAny_pyIter_listiter st h
def P6{K:Frag}(a it:Addr):Turn P w K tg (Vx K a) [it] it (λi h=>h.IsTupleIter it a i) where
 mem:=by simp
 obj:=λi h st b hb=>by
  have e:b=it:=by simpa using hb
  subst e;obtain⟨o,e,c,d⟩:=st;exact{o,e,λv z=>by rw[d]at z;cases z}
 keep:=λi h h' st k=>st.at λo e=>k it 59 o e
 item:=by intro X hP hw hK hc i pins s Z H E I hf st hg;subst hP hw hK;obtain⟨xs,x,hq,hx⟩:=hg;obtain⟨a9,rv,p,hz⟩:=I.tuple hq;obtain⟨u,hu,ru⟩:=rv.get hx;obtain⟨f0,f1,f2,f3,f4,f5⟩:=hf it 59;refine wpAny_pyNext_tuple_item st (show s.heap.IsTuple a a9.toArray from p) (by simpa using hu) λh' mT sb=>?_;obtain⟨o,e,c,d⟩:=id mT;exact{u,9,Gj e c d 7 {x,H,724,ru,{9,λys hy=>by rw[I.tR hy hq];exact hx},mT,λb hb=>(hf b hb).1}}
 done:=by intro X hP hw hK hc i pins s Z H E I hf st hg;subst hP hw hK;obtain⟨xs,hq,hx⟩:=hg;obtain⟨a9,rv,p,hz⟩:=I.tuple hq;obtain⟨f0,f1,f2,f3,f4,f5⟩:=hf it 59;have hl:=rv.length;exact wpAny_pyNext_tuple_end (I.ok.hd hc) st (show s.heap.IsTuple a a9.toArray from p) (by simp;lia) λh' eb=>{9,726}
 self:=λ_ _ _ _ _ st h=>wpAny_pyIter_tupleiter st h
def P7{K:Frag}(it:Addr)(lo:Int)(n:Nat):Turn P w K tg (Z9 lo n) [it] it (λi h=>IsRangeIter h it (lo+(i:Nat)*1) ((n:Int) -(i:Nat)) 1) where
 mem:=by simp
 obj:=λi h st b hb=>by
  have e:b=it:=by simpa using hb
  subst e;exact{_,st,λv z=>by have z':=z;cases z'}
 keep:=λi h h' st k=>k it 59 _ st
 item:=by intro X hP hw hK hc i pins s Z H E I hf st hg;subst hP hw hK;obtain⟨f0,f1,f2,f3,f4,f5⟩:=hf it 59;refine(Walks.range (prog:=X.prog) (w:=X.w) (I.ok.hd hc) it lo 1 n).item i s _ _ hg st λv h' tk hv mT kk=>?_;obtain⟨t,rfl⟩:=hv;refine{_,9,Gj mT rfl rfl 7 {.int (lo+i),H,(I.turned (λb o hb e=>kk b o (by simpa using hb) e) f0 f1 f3 f4 f5),{t,?_},⟨rfl,rfl⟩,mT,λb hb=>(hf b hb).1}};rw[Int.mul_one]
 done:=by intro X hP hw hK hc i pins s Z H E I hf st hg;obtain⟨f0,f1,f2,f3,f4,f5⟩:=hf it 59;exact wpAny_pyNext_range_end (I.ok.hd hc) st (by have:n<=i:=hg;lia) λh' eb=>{9,726}
 self:=λ_ _ _ _ _ st h=>wpAny_pyIter_rangeiter st h
section
variable{X:Cx}{tg:Expr}
inductive adu(K:Frag)(R:It->Hp->Prop)(x:V)(H1:Hp):Prop
 |mk a (_:x=.ref a) (_:(∃xs,bf K H1 a xs)) (_:R (Vy K a) H1)
def Zn(K:Frag)(tl:TE):TI:=λZ H R=>tl Z H λx H1=>adu K R x H1
inductive aeX(K:Frag)(R:It->Hp->Prop)(x:V)(H1:Hp):Prop
 |mk a (_:x=.ref a) (_:(∃xs,aY K H1 a xs)) (_:R (Vx K a) H1)
def ads(K:Frag)(tl:TE):TI:=λZ H R=>tl Z H λx H1=>aeX K R x H1
def dH(hl:PE X l tl):PI X tg l (Zn X.K tl):=by
 intro pins s Z H R I h;refine de (hl pins s Z H _ I h) λv s1 x H1 I1 r1 q1=>?_;obtain⟨a,e,⟨xs,hq⟩,q⟩:=q1;subst e;cases r1;obtain⟨a9,rv,p,hz⟩:=I1.list hq;refine lK p.isList ?_;refine{s1.heap.objs.size,[s1.heap.objs.size],_,_,H1,9,I1.kept λb o e=>aj _ e,R1 a _,{_,676,9,9},692,q};have e:b=s1.heap.objs.size:=by simpa using hb
 subst e;exact I1.v9 (aw _) 716
def ir(hl:PE X l tl):PI X tg l (ads X.K tl):=by
 intro pins s Z H R I h;refine de (hl pins s Z H _ I h) λv s1 x H1 I1 r1 q1=>?_;obtain⟨a,e,⟨xs,hq⟩,q⟩:=q1;subst e;cases r1;obtain⟨a9,rv,p,hz⟩:=I1.tuple hq;refine jt (show s1.heap.IsTuple a a9.toArray from p) ?_;refine{s1.heap.objs.size,[s1.heap.objs.size],_,_,H1,9,I1.kept λb o e=>aj _ e,P6 a _,{_,676,9,9},692,q};have e:b=s1.heap.objs.size:=by simpa using hb
 subst e;exact I1.v9 (aw _) 716
def Wb{lo hi:Int}(I:Inv X pins Z H s)(h1:-(2^62)<=lo)(h2:lo<2^62)(h3:-(2^62)<=hi)(h4:hi<2^62)
  (q:R (Z9 lo (hi -lo).toNat) H):wpAny 56 X.A (pyIter 352) (PIE X pins Z tg R) E {s with heap:=s.heap.push {cls:=.type "range",data:=.fields #[.int lo t,.int hi u,.int 1 v]},toks:=tk}:=by
 refine wpAny_pyIter_range (IsRange.new ..) (small_one h1 h2 h3 h4) ?_;have I1:Inv X pins Z H {s with heap:=s.heap.push {cls:=.type "range",data:=.fields #[.int lo t,.int hi u,.int 1 v]},toks:=tk}:=I.kept λb o e=>aj _ e;refine{(s.heap.push {cls:=.type "range",data:=.fields #[.int lo t,.int hi u,.int 1 v]}).objs.size,[(s.heap.push {cls:=.type "range",data:=.fields #[.int lo t,.int hi u,.int 1 v]}).objs.size],_,_,H,rfl,
  I1.kept λb o e=>aj _ e,P7 _ lo (hi -lo).toNat,?_,λb hb=>?_,q}
 ·have e1:lo+((0:Nat):Int)*1=lo:=by simp
  have e2:(((hi -lo).toNat:Nat):Int) -((0:Nat):Int)=Builtin.Range.rangeSize lo hi 1:=by rw[rangeSize_one];split<;>lia
  rw[e1,e2];exact aU _ rfl
 ·have e:b=(s.heap.push {cls:=.type "range",data:=.fields #[.int lo t,.int hi u,.int 1 v]}).objs.size:=by simpa using hb
  subst e;exact I1.v9 (aw _) 716
inductive adt(R:It->Hp->Prop)(vs:Aan)(H1:Hp):Prop
 |mk (j:Int) (_:vs=[.int j]) (_:-(2^62)<=j) (_:j<2^62) (_:R (Z9 0 j.toNat) H1)
def aeZ(ta:TA):TI:=λZ H R=>ta Z H λvs H1=>adt R vs H1
def og(hg:Gl X "range")(hm:X.mg "range"=none)(ha:PA X [a] ta)(hs:starEach [a] X.env=[(false,eval a X.env)]:=by rfl):PI X tg (.Call (.Name "range" p) [a] [] pos) (aeZ ta):=by
 intro pins s Z H R I h;refine GQ (qY I hg hm boot_range (eG 698 hs 9));obtain⟨j,e,q1,q2,q⟩:=q1;subst e;cases r1 with
 |cons r rr=>
  cases rr;obtain⟨t,rfl⟩:=r;exact call_range_1 (Wb I1 ∅ ∅ q1 q2 (by simpa using q))
def afu(wi:TI)(g:TG)(tb:TS):TS:=λD Z H=>wi Z H λJ H1=>∃W:Nat->Nat->St->Hp->Prop,(∃m,W 0 m Z H1)/\∀i m Z H,W i m Z H->
 (J.stop i H/\D.nx Z H)\/(J.go i H/\∃N:St->Hp->Prop,(∀σ' H',N σ' H'->∃m',m'<m/\W (i+1) m' σ' H')/\∀x H',J.DV i H x H'->g x Z H' λσ2 H2=>tb {D with nx:=N,ct:=N,bk:=D.nx} σ2 H2)
def yN(fp:Aai)(h:Heap):Aab:=fp.filterMap λb=>(h.get? b).map λo=>(b,o)
def oU(hb:b∈fp)(e:h.get? b=some o):(b,o)∈yN fp h:=k9.mpr {b,hb,by rw[e];rfl}
def Th(hp:p∈yN fp h):p.1∈fp/\h.get? p.1=some p.2:=by
 obtain⟨b,hb,e⟩:=k9.mp hp;cases q:h.get? b with
 |none=>rw[q]at e;cases e
 |some o=>
  rw[q]at e;have e':=bT e;subst e';exact⟨hb,q⟩
def Inv.pinned(I:Inv X pins Z H s)(hf:∀b∈fp,oI X pins H b)(ho:∀b∈fp,∃o,s.heap.get? b=some o/\∀v,o.data≠ .cell v):Inv X (pins++yN fp s.heap) Z H s:=
 I.qv λp hp=>(aS.mp hp).elim (λz=>I.pin p (bc _ z)) λz=>by obtain⟨hb,e⟩:=Th z;obtain⟨f0,f1,f2,_⟩:=hf p.1 hb;obtain⟨o,e',d⟩:=ho p.1 hb;rw[e]at e';cases e';exact⟨e,f0,f1,f2,d⟩
def Inv.vx(I:Inv X (pins++pl) Z H s):Inv X pins Z H s:=I.qv λp hp=>I.pin p (bc _ (bx _ hp))
def dR(hp:PassesOwn 56 X.A X.env X.xe)(hc:X.calm=true)(hi:PI X tg iter wi)(hg:PG X tg g)(hb:rF X body tb)
  (hs:∀x,foldedSetIterable iter X.env x=pure x:=by intro _;rfl):PS X (.For tg iter body [] pos) (afu wi g tb):=by
 intro pins s Z H D I h;refine wpAny_For (gj (hi pins s Z H _ I h) λv s1 h1=>gj h1 λZk s2 h2=>?_) hs;obtain⟨it,fp,tn,J,H2,e,I2,T,Bp,f2,W,⟨m0,w0⟩,turn⟩:=h2;subst e;have VU:∀{H':Hp},(∀b∈fp,H' b=none)->∀b∈fp,oI X pins H' b:=λhn b hb=>{hn b hb,(f2 b hb).2};refine codeAny_forLoop_any (λn s'=>∃i σ' H',Inv X pins σ' H' s'/\tn i s'.heap/\(∀b∈fp,H' b=none)/\W i n σ' H') ?_ m0 {0,Z,H2,I2,Bp,λb hb=>(f2 b hb).1,w0};rintro n s3 ⟨i,σ3,H3,I3,st3,fr3,w3⟩;rcases turn i n σ3 H3 w3 with⟨stop,qn⟩|⟨go,N,hN,step⟩
 ·refine jF hp (gj (T.done X 9 9 9 hc i pins s3 σ3 H3 X.xe I3 (VU fr3) st3 stop) λr s4 hz3=>?_);obtain⟨hr,I4⟩:=hz3;subst hr;exact qG ⟨σ3,H3,I4,qn⟩
 ·refine jF hp (gj (T.item X 9 9 9 hc i pins s3 σ3 H3 X.xe I3 (VU fr3) st3 go) λr s4 Ue=>?_);obtain⟨u,hr,h4⟩:=Ue;subst hr;refine jF hp (gj h4 λ_ s5 hz5=>?_);obtain⟨x,H5,I5,r5,y5,st5,fr5⟩:=hz5;refine jF hp (gj (hg _ s5 σ3 H5 x u _ (I5.pinned (VU fr5) (T.obj _ _ st5)) r5 (step x H5 y5)) λ_ s6 hz6=>?_);obtain⟨σ6,H6,I6,q6⟩:=hz6;refine jF hp (gj (hb _ s6 σ6 H6 _ I6 q6) λf s7 q7=>?_);have again:∀{σ7:St}{H7:Hp},Inv X (pins++yN fp s5.heap) σ7 H7 s7->N σ7 H7->∃m,m<n/\∃i σ' H',Inv X pins σ' H' s7/\tn i s7.heap/\(∀b∈fp,H' b=none)/\W i m σ' H':=λ{σ7 H7} I7 n7=>by obtain⟨m',hm,w7⟩:=hN σ7 H7 n7;refine{m',hm,i+1,σ7,H7,I7.vx,T.keep _ _ _ st5 λb hb o e=>(I7.pin (b,o) (bc _ (bc _ (oU hb e)))).1,692,w7};obtain⟨o,e,d⟩:=T.obj _ _ st5 b hb;exact(I7.pin (b,o) (bc _ (bc _ (oU hb e)))).2.1
  cases f with
  |next=>obtain⟨σ7,H7,I7,n7⟩:=q7;exact again I7 n7
  |cont=>obtain⟨σ7,H7,I7,n7⟩:=q7;exact again I7 n7
  |brk=>obtain⟨σ7,H7,I7,q7⟩:=q7;exact{σ7,H7,I7.vx,q7}
  |ret v=>obtain⟨x7,σ7,H7,I7,r7,q7⟩:=q7;exact{x7,σ7,H7,I7.vx,r7,q7}
abbrev vq(J:It)(g:TG)(tb:TS)(D:Ends)(Z:St)(H:Hp):Prop:=∃W:Nat->Nat->St->Hp->Prop,(∃m,W 0 m Z H)/\∀i m Z H,W i m Z H->
 (J.stop i H/\D.nx Z H)\/(J.go i H/\∃N:St->Hp->Prop,(∀σ' H',N σ' H'->∃m',m'<m/\W (i+1) m' σ' H')/\∀x H',J.DV i H x H'->g x Z H' λσ2 H2=>tb {D with nx:=N,ct:=N,bk:=D.nx} σ2 H2)
def Cn{J:It}{n:Nat}{g:TG}{tb:TS}{D:Ends}{Z:St}{H:Hp}(Pv:Nat->St->Hp->Prop)(h0:Pv 0 Z H)(hg:∀i Z H,i<n->Pv i Z H->J.go i H/\∀x H',J.DV i H x H'->g x Z H' λσ2 H2=>tb {D with nx:=Pv (i+1),ct:=Pv (i+1),bk:=D.nx} σ2 H2)(hd:∀Z H,Pv n Z H->J.stop n H/\D.nx Z H):vq J g tb D Z H:=by
 refine{λi m Z H=>m=n -i/\i<=n/\Pv i Z H,{n,59,aO _,h0},?_};rintro i m Z H ⟨rfl,hi,p⟩;by_cases bQ:i<n
 ·obtain⟨a,b⟩:=hg i Z H bQ p;exact .inr {a,Pv (i+1),λσ' H' p'=>{n -(i+1),8,9,bQ,p'},b}
 ·have e:i=n:=by lia
  subst e;exact .inl (hd Z H p)
def gF{K:Frag}{g:TG}{tb:TS}{D:Ends}(Pv:Nat->St->Hp->Prop)(h0:Pv 0 Z H)(hl:∀i Z H,i<=xs.length->Pv i Z H->bf K H a xs)
  (hs:∀i x Z H,xs[i]?=some x->Pv i Z H->g x Z H λσ2 H2=>tb {D with nx:=Pv (i+1),ct:=Pv (i+1),bk:=D.nx} σ2 H2) (hd:∀Z H,Pv xs.length Z H->D.nx Z H):vq (Vy K a) g tb D Z H:=by
 refine Cn Pv h0 (λi Z H hi p=>?_) λZ H p=>{{xs,hl _ Z H (aw _) p,aw _},hd Z H p};have q:=hl i Z H (bC hi) p;refine{{xs,_,q,av hi},?_};rintro x H' ⟨rfl,y⟩;exact hs i x Z _ (y xs q) p
def qA{K:Frag}{g:TG}{tb:TS}{D:Ends}(Pv:Nat->St->Hp->Prop)(h0:Pv 0 Z H)(hl:∀i Z H,i<=xs.length->Pv i Z H->aY K H a xs)
  (hs:∀i x Z H,xs[i]?=some x->Pv i Z H->g x Z H λσ2 H2=>tb {D with nx:=Pv (i+1),ct:=Pv (i+1),bk:=D.nx} σ2 H2) (hd:∀Z H,Pv xs.length Z H->D.nx Z H):vq (Vx K a) g tb D Z H:=by
 refine Cn Pv h0 (λi Z H hi p=>?_) λZ H p=>{{xs,hl _ Z H (aw _) p,aw _},hd Z H p};have q:=hl i Z H (bC hi) p;refine{{xs,_,q,av hi},?_};rintro x H' ⟨rfl,y⟩;exact hs i x Z _ (y xs q) p
def Cm{lo:Int}{g:TG}{tb:TS}{D:Ends}(Pv:Nat->St->Hp->Prop)(h0:Pv 0 Z H)
  (hs:∀i Z H,i<n->Pv i Z H->g (.int (lo+i)) Z H λσ2 H2=>tb {D with nx:=Pv (i+1),ct:=Pv (i+1),bk:=D.nx} σ2 H2) (hd:∀Z H,Pv n Z H->D.nx Z H):vq (Z9 lo n) g tb D Z H:=by
 refine Cn Pv h0 (λi Z H hi p=>{hi,?_}) λZ H p=>{aw _,hd Z H p};rintro x H' ⟨rfl,rfl⟩;exact hs i Z _ hi p
abbrev R2:=V->V->Hp->VK->Prop
end
def iU(X:Cx)(f:Value->Value->Sem Value)(r:R2):Prop:=
 ∀(pins:Aab)(s:Shared)(Z:St)(H:Hp)(x y:V)(v u:Value)(Q:VK),Inv X pins Z H s->RelV x v->RelV y u->r x y H Q->
  wpAny 56 X.A (f v u) 706 X.xe s
def ic(X:Cx)(f:Value)(r:Aan->Hp->VK->Prop):Prop:=
 ∀(pins:Aab)(s:Shared)(Z:St)(H:Hp)(xs:Aan)(us:Aaf)(Q:VK),Inv X pins Z H s->Vals xs us->r xs H Q->
  wpAny 56 X.A (call f us) 706 X.xe s
def ahi(X:Cx)(r:V->Hp->(Bool->Hp->Prop)->Prop):Prop:=
 ∀(pins:Aab)(s:Shared)(Z:St)(H:Hp)(x:V)(v:Value)(Q:Bool->Hp->Prop),Inv X pins Z H s->RelV x v->r x H Q->
  wpAny 56 X.A (truthy v) (TP X pins Z Q) X.xe s
def Yl(r:R2)(ta tb:TE):TE:=λZ H Q=>ta Z H λx H1=>tb Z H1 λy H2=>r x y H2 Q
inductive rI(C:Int->Int->Prop)(g:Int->Int->V)(x:V)(y:V)(H:Hp)(Q:VK):Prop
 |mk i j (_:x=.int i) (_:y=.int j) (_:C i j) (_:Q (g i j) H)
inductive K8(g:Int->Int->V)(x:V)(y:V)(H:Hp)(Q:VK):Prop
 |mk i j (_:x=.int i) (_:y=.int j) (_:Q (g i j) H)
section
variable{X:Cx}{a b:Expr}{ta tb:TE}{pos:Pos}
def XZ(ha:PE X a ta)(hb:PE X b tb){R:V->V->Hp->Prop}(I:Inv X pins Z H s)
  (h:ta Z H λx H1=>tb Z H1 λy H2=>R x y H2) {f:Value->Value->Sem Value}
  (hf:∀v u s2 x y H2,Inv X pins Z H2 s2->RelV x v->RelV y u->R x y H2->wpAny 56 X.A (f v u) Q X.xe s2):
  wpAny 56 X.A (eval a X.env) (λv aaa=>wpAny 56 X.A (eval b X.env) (λu aad=>wpAny 56 X.A (f v u) Q X.xe aad) X.xe aaa) X.xe s:=by
 refine de 693 λv s1 x H1 I1 r1 q1=>?_;exact de (hb pins s1 Z H1 _ I1 q1) λu s2 y H2 I2 r2 q2=>hf v u s2 x y H2 I2 r1 r2 q2
def cW(ho:iU X (binaryOp op) r)(ha:PE X a ta)(hb:PE X b tb):PE X (.BinOp a op b pos) (Yl r ta tb):=by intro pins s Z H Q I h;exact wpAny_BinOp (XZ ha hb I h λv u s2 x y H2 I2 rx ry q=>ho pins s2 Z H2 x y v u Q I2 rx ry q)
def YR{g:Int->Int->Int}
  (rule:∀(i j:Int)(t u:Tok)(s:Shared)(Q:Aad)(E:Aad),C i j->Q (.int (g i j) s.toks) {s with toks:=s.toks+1}->wpAny 56 X.A (f (.int i t) (.int j u)) Q E s):
  iU X f (rI C λi j=>.int (g i j)):=by
 intro pins s Z H x y v u Q I rx ry h;obtain⟨i,j,rfl,rfl,hc,q⟩:=h;obtain⟨t,rfl⟩:=rx;obtain⟨t',rfl⟩:=ry;exact rule i j t t' s _ _ hc {.int (g i j),H,680,723,q}
def afO{g:Int->Int->Int}
  (rule:∀(i j:Int)(t u:Tok)(s:Shared)(Q:Aad)(E:Aad),Q (.int (g i j) s.toks) {s with toks:=s.toks+1}->wpAny 56 X.A (f (.int i t) (.int j u)) Q E s):
  iU X f (K8 λi j=>.int (g i j)):=by
 intro pins s Z H x y v u Q I rx ry h;obtain⟨i,j,rfl,rfl,q⟩:=h;obtain⟨t,rfl⟩:=rx;obtain⟨t',rfl⟩:=ry;exact rule i j t t' s _ _ {.int (g i j),H,680,723,q}
def Qv{g:Int->Int->Bool}
  (rule:∀(i j:Int)(t u:Tok)(s:Shared)(Q:Aad)(E:Aad),Q (.bool (g i j)) s->wpAny 56 X.A (f (.int i t) (.int j u)) Q E s):
  iU X f (K8 λi j=>.bl (g i j)):=by
 intro pins s Z H x y v u Q I rx ry h;obtain⟨i,j,rfl,rfl,q⟩:=h;obtain⟨t,rfl⟩:=rx;obtain⟨t',rfl⟩:=ry;exact rule i j t t' s _ _ {.bl (g i j),H,I,9,q}
def ahl(i j:Int):Prop:=0<=j/\j<=1000000/\i.natAbs<2^64
def X6(i j:Int):Prop:=(-(2^64)<i/\i<2^64)\/(-(2^64)<j/\j<2^64)
def X6.ok(h:X6 i j):IntMulOk i j:=by
 rcases h with⟨h1,h2⟩|⟨h1,h2⟩
 ·exact .of_left (intBits_le_64 h1 h2)
 ·exact .of_right (intBits_le_64 h1 h2)
def i9:iU X (binaryOp .Add) (K8 λi j=>.int (i+j)):=afO λ_ _ _ _ _ _ _ q=>add_int q
def tX:iU X (binaryOp .Mult) (rI X6 λi j=>.int (i*j)):=YR λ_ _ _ _ _ _ _ hc q=>mul_int q hc.ok
def pN:iU X (binaryOp .Mod) (rI (λ_ j=>0<j) λi j=>.int (i % j)):=YR λi j _ _ _ _ _ hc q=>by exact mod_int' ∅ (by rw[Int.fmod_eq_emod_of_nonneg i ∅];exact q)
def acR:iU X (binaryOp .Pow) (rI ahl λi j=>.int (i^j.toNat)):=YR λ_ _ _ _ _ _ _ hc q=>pow_int_small hc.1 hc.2.1 hc.2.2 q
def acw:V->V->Bool
 | .cz,.cz=>true| .cz,.int _=>true| .int _,.cz=>true| .cz,.bl _=>true| .bl _,.cz=>true| .cz,.str _=>true| .str _,.cz=>true
 | .int _,.int _=>true| .bl _,.bl _=>true| .str _,.str _=>true| .uT _,.uT _=>true
 | .int _,.str _=>true| .str _,.int _=>true| .bl _,.str _=>true| .str _,.bl _=>true
 |_,_=>false
def rEq:R2:=λx y H Q=>acw x y=true/\Q (.bl (decide (x=y))) H
def rNe:R2:=λx y H Q=>acw x y=true/\Q (.bl (!decide (x=y))) H
def PK:decide (V.int i=V.int j)=(i==j):=by rw[fb];simp
def Vb:decide (V.bl i=V.bl j)=(i==j):=by rw[fb];simp
def PJ:decide (V.str i=V.str j)=(i==j):=by rw[fb];simp
def PL:decide (V.uT i=V.uT j)=(i.toList==j.toList):=by rw[fb];cases i;cases j;simp
variable{c:Expr}{tc:TE}
def dU(I:Inv X pins Z H s)(q:Q (.bl k) H)(e:k=k'):EP X pins Z Q (.bool k') s:=by subst e;exact{.bl k,H,I,9,q}
def lO:iU X (compareOp .Eq) rEq:=by
 intro pins s Z H x y v u Q I rx ry h;obtain⟨hs,q⟩:=h;cases x with
 |cz=>
  cases rx;cases y with
  |cz=>cases ry;exact PySem.EqNone.eq_none_none (dU I q 59)
  |bl j=>cases ry;exact PySem.EqNone.eq_none_bool (dU I q 59)
  |int j=>obtain⟨t',rfl⟩:=ry;exact PySem.EqNone.eq_none_int (dU I q 59)
  |str j=>obtain⟨t',rfl⟩:=ry;exact PySem.EqNone.eq_none_str (dU I q 59)
  |_=>exact absurd (show false=true from hs) bD
 |bl i=>
  cases rx;cases y with
  |cz=>cases ry;exact PySem.EqNone.eq_bool_none (dU I q 59)
  |bl j=>cases ry;exact eq_bool (dU I q Vb)
  |str j=>obtain⟨t',rfl⟩:=ry;exact PySem.EqMixed.eq_bool_str (dU I q 59)
  |_=>exact absurd (show false=true from hs) bD
 |int i=>
  obtain⟨t,rfl⟩:=rx;cases y with
  |cz=>cases ry;exact PySem.EqNone.eq_int_none (dU I q 59)
  |int j=>obtain⟨t',rfl⟩:=ry;exact eq_int (dU I q PK)
  |str j=>obtain⟨t',rfl⟩:=ry;exact PySem.EqMixed.eq_int_str (dU I q 59)
  |_=>exact absurd (show false=true from hs) bD
 |str i=>
  obtain⟨t,rfl⟩:=rx;cases y with
  |cz=>cases ry;exact PySem.EqNone.eq_str_none (dU I q 59)
  |bl j=>cases ry;exact PySem.EqMixed.eq_str_bool (dU I q 59)
  |int j=>obtain⟨t',rfl⟩:=ry;exact PySem.EqMixed.eq_str_int (dU I q 59)
  |str j=>obtain⟨t',rfl⟩:=ry;exact eq_str (dU I q PJ)
  |_=>exact absurd (show false=true from hs) bD
 |uT i=>
  obtain⟨t,rfl⟩:=rx;cases y with
  |uT j=>obtain⟨t',rfl⟩:=ry;exact PySem.W.eq_bytes (dU I q PL)
  |_=>exact absurd (show false=true from hs) bD
 |_=>cases y<;>exact absurd (show false=true from hs) bD
def pV:iU X (compareOp .NotEq) rNe:=by
 intro pins s Z H x y v u Q I rx ry h;obtain⟨hs,q⟩:=h;cases x with
 |cz=>
  cases rx;cases y with
  |cz=>cases ry;exact PySem.EqNone.ne_none_none (dU I q 59)
  |bl j=>cases ry;exact PySem.EqNone.ne_none_bool (dU I q 59)
  |int j=>obtain⟨t',rfl⟩:=ry;exact PySem.EqNone.ne_none_int (dU I q 59)
  |str j=>obtain⟨t',rfl⟩:=ry;exact PySem.EqNone.ne_none_str (dU I q 59)
  |_=>exact absurd (show false=true from hs) bD
 |bl i=>
  cases rx;cases y with
  |cz=>cases ry;exact PySem.EqNone.ne_bool_none (dU I q 59)
  |bl j=>cases ry;exact ne_bool (dU I q (cP not Vb))
  |str j=>obtain⟨t',rfl⟩:=ry;exact PySem.EqMixed.ne_bool_str (dU I q 59)
  |_=>exact absurd (show false=true from hs) bD
 |int i=>
  obtain⟨t,rfl⟩:=rx;cases y with
  |cz=>cases ry;exact PySem.EqNone.ne_int_none (dU I q 59)
  |int j=>obtain⟨t',rfl⟩:=ry;exact ne_int (dU I q (cP not PK))
  |str j=>obtain⟨t',rfl⟩:=ry;exact PySem.EqMixed.ne_int_str (dU I q 59)
  |_=>exact absurd (show false=true from hs) bD
 |str i=>
  obtain⟨t,rfl⟩:=rx;cases y with
  |cz=>cases ry;exact PySem.EqNone.ne_str_none (dU I q 59)
  |bl j=>cases ry;exact PySem.EqMixed.ne_str_bool (dU I q 59)
  |int j=>obtain⟨t',rfl⟩:=ry;exact PySem.EqMixed.ne_str_int (dU I q 59)
  |str j=>obtain⟨t',rfl⟩:=ry;exact ne_str (dU I q (cP not PJ))
  |_=>exact absurd (show false=true from hs) bD
 |uT i=>
  obtain⟨t,rfl⟩:=rx;cases y with
  |uT j=>obtain⟨t',rfl⟩:=ry;exact PySem.W.ne_bytes (dU I q (cP not PL))
  |_=>exact absurd (show false=true from hs) bD
 |_=>cases y<;>exact absurd (show false=true from hs) bD
def xj:iU X (compareOp .Lt) (K8 λi j=>.bl (decide (i<j))):=Qv λ_ _ _ _ _ _ _ q=>lt_int q
def YO:iU X (compareOp .LtE) (K8 λi j=>.bl (decide (i<=j))):=Qv λ_ _ _ _ _ _ _ q=>le_int q
def Qu:iU X (compareOp .Gt) (K8 λi j=>.bl (decide (j<i))):=Qv λ_ _ _ _ _ _ _ q=>gt_int q
def aeN:iU X (compareOp .GtE) (K8 λi j=>.bl (decide (j<=i))):=Qv λ_ _ _ _ _ _ _ q=>ge_int q
def S8:iU X (compareOp .In) (λx y H Q=>∃i j,x=.str i/\y=.str j/\Q (.bl (!(Builtin.Str.occurrences j i 0 j.length 1).isEmpty)) H):=by intro pins s Z H x y v u Q I rx ry h;obtain⟨i,j,rfl,rfl,q⟩:=h;obtain⟨t,rfl⟩:=rx;obtain⟨t',rfl⟩:=ry;exact in_str (dU I q 9)
def FU:iU X (compareOp .Is) (λx y H Q=>y=.cz/\Q (.bl (decide (x=.cz))) H):=by
 intro pins s Z H x y v u Q I rx ry h;obtain⟨rfl,q⟩:=h;cases ry;refine is_none_gen (dU I q ?_);cases x<;>first
  |(cases rx;rfl)
  |(obtain⟨t,rfl⟩:=rx;rfl)
def Hk:iU X (compareOp .IsNot) (λx y H Q=>y=.cz/\Q (.bl (!decide (x=.cz))) H):=by
 intro pins s Z H x y v u Q I rx ry h;obtain⟨rfl,q⟩:=h;cases ry;refine isnot_none_gen (dU I q ?_);cases x<;>first
  |(cases rx;rfl)
  |(obtain⟨t,rfl⟩:=rx;rfl)
def cx(b:Expr)(h:op≠ .In:=by decide)(h2:op≠ .NotIn:=by decide):behindInMarks op b=false:=by
 have e1:(op==CmpOp.In)=false:=by cases op<;>first|rfl|exact absurd rfl h
 have e2:(op==CmpOp.NotIn)=false:=by cases op<;>first|rfl|exact absurd rfl h2
 cases b<;>simp[behindInMarks,e1,e2]
def jK(ho:iU X (compareOp op) r)(ha:PE X a ta)(hb:PE X b tb)(hm:behindInMarks op b=false):PE X (.Compare a [op] [b] pos) (Yl r ta tb):=by intro pins s Z H Q I h;exact wpAny_Compare1 (XZ ha hb I h λv u s2 x y H2 I2 rx ry q=>ho pins s2 Z H2 x y v u Q I2 rx ry q) hm
inductive acf(Q:Bool->Hp->Prop)(x:V)(H':Hp):Prop
 |mk k (_:x=.bl k) (_:Q k H')
def Yk(t:TE):TT:=λZ H Q=>t Z H λx H'=>acf Q x H'
def b5(ho:iU X (compareOp op) r)(ha:PE X a ta)(hb:PE X b tb)(hm:behindInMarks op b=false):PT X (.Compare a [op] [b] pos) (Yk (Yl r ta tb)):=by intro pins s Z H Q I h;refine yC (de 693 λv s1 x H1 I1 r1 q1=>de (hb pins s1 Z H1 _ I1 q1) λu s2 y H2 I2 r2 q2=>gj (ho pins s2 Z H2 x y v u _ I2 r1 r2 q2) λc s3 hz7=>?_) hm;obtain⟨z,H3,I3,r3,k,e,q3⟩:=hz7;subst e;cases r3;exact eM ⟨H3,I3,q3⟩
def R9(r r':R2)(ta tb tc:TE):TE:=λZ H Q=>ta Z H λx H1=>tb Z H1 λy H2=>r x y H2 λz H3=>∃k,z=.bl k/\
 (if k=true then tc Z H3 λw' H4=>r' y w' H4 Q else Q (.bl false) H3)
def Ln(ho:iU X (compareOp op) r)(ph:iU X (compareOp OQ) r')(ha:PE X a ta)(hb:PE X b tb)(hc:PE X c tc)
  (hm:lastMarks [op,OQ] [b,c]=false:=by with_unfolding_all rfl):PE X (.Compare a [op,OQ] [b,c] pos) (R9 r r' ta tb tc):=by
 intro pins s Z H Q I h;refine Compare_chain (de 693 λv s1 x H1 I1 r1 q1=>chain_link (de (hb pins s1 Z H1 _ I1 q1) λu s2 y H2 I2 r2 q2=>gj (ho pins s2 Z H2 x y v u _ I2 r1 r2 q2) λd s3 hz8=>?_)) hm;obtain⟨z,H3,I3,r3,k,e,q3⟩:=hz8;subst e;cases r3;refine eM ?_;cases k with
 |false=>exact ite_ff {.bl false,H3,I3,9,q3}
 |true=>exact ite_tt (chain_last (gj (hc pins s3 Z H3 _ I3 q3) λw' s4 ⟨z',H4,I4,r4,q4⟩=>ph pins s4 Z H4 y z' u w' Q I4 r2 r4 q4))
def Wh{op OQ:CmpOp}{r r':R2}(ho:iU X (compareOp op) r)(ph:iU X (compareOp OQ) r')(ha:PE X a ta)(hb:PE X b tb)(hc:PE X c tc)
  (hm:lastMarks [op,OQ] [b,c]=false:=by with_unfolding_all rfl):PT X (.Compare a [op,OQ] [b,c] pos) (Yk (R9 r r' ta tb tc)):=by
 intro pins s Z H Q I h;refine isTrue_chain (de 693 λv s1 x H1 I1 r1 q1=>test_link (de (hb pins s1 Z H1 _ I1 q1) λu s2 y H2 I2 r2 q2=>gj (ho pins s2 Z H2 x y v u _ I2 r1 r2 q2) λd s3 hz9=>?_)) hm;obtain⟨z,H3,I3,r3,k,e,q3⟩:=hz9;subst e;cases r3;refine eM ?_;cases k with
 |false=>
  obtain⟨k',e',q'⟩:=q3;cases e';exact ite_ff ⟨H3,I3,q'⟩
 |true=>
  refine ite_tt (test_last (gj (hc pins s3 Z H3 _ I3 q3) λw' s4 agz=>?_));obtain⟨z',H4,I4,r4,q4⟩:=agz;refine gj (ph pins s4 Z H4 y z' u w' _ I4 r2 r4 q4) λd' s5 agy=>?_;obtain⟨z2,H5,I5,r5,k2,e2,q5⟩:=agy;subst e2;cases r5;exact eM ⟨H5,I5,q5⟩
def aej(K:Frag)(x:V)(H:Hp)(k:Bool):Prop:=
 match x with
 | .cz=>k=false
 | .bl b=>k=b
 | .int i=>k=(i !=0)
 | .str y=>y.length<=sizeLine/\k=((y.length:Int) !=0)
 | .uT y=>y.size<=sizeLine/\k=((y.size:Int) !=0)
 | .ref p=>(∃xs,bf K H p xs/\k=!xs.isEmpty)\/(∃xs,aY K H p xs/\k=!xs.isEmpty)\/∃kvs,H p=some 715/\k=!kvs.isEmpty
 |_=>False
def QP(r:KV kvs vs):(!vs.isEmpty)=!kvs.isEmpty:=by cases r<;>rfl
def F4(r:Vals xs a9):(!a9.toArray.isEmpty)=!xs.isEmpty:=by cases r<;>simp
def yT:(sizeLine:Nat)<2^63:=by rw[bW];decide
def ab7:ahi X (λx H Q=>∃k,aej X.K x H k/\Q k H):=by
 intro pins s Z H x v Q I rx h;obtain⟨k,e,q⟩:=h;have hl:=yT;have hs:sizeLine=16777216:=bW;cases x with
 |cz=>
  cases rx;have e':k=false:=e;subst e';exact truthy_none ⟨H,I,q⟩
 |bl b=>
  cases rx;have e':k=b:=e;subst e';exact eM ⟨H,I,q⟩
 |int i=>
  obtain⟨t,rfl⟩:=rx;have e':k=(i !=0):=e;subst e';exact PySem.P.truthy_int ⟨H,I,q⟩
 |str y=>
  obtain⟨t,rfl⟩:=rx;obtain⟨hy,e'⟩:y.length<=sizeLine/\k=((y.length:Int) !=0):=e;subst e';exact PySem.P.truthy_str ∅ {H,680,q}
 |uT y=>
  obtain⟨t,rfl⟩:=rx;obtain⟨hy,e'⟩:y.size<=sizeLine/\k=((y.size:Int) !=0):=e;subst e';exact PySem.W.truthy_bytes ∅ {H,680,q}
 |ref p=>
  cases rx;have e':(∃xs,bf X.K H p xs/\k=!xs.isEmpty)\/(∃xs,aY X.K H p xs/\k=!xs.isEmpty)\/∃kvs,H p=some 715/\k=!kvs.isEmpty:=e;rcases e' with⟨xs,hx,e'⟩|⟨xs,hx,e'⟩|⟨kvs,hx,e'⟩
  ·subst e';obtain⟨a9,r,pl,hz⟩:=I.list hx;have hlen:=r.length;exact wpAny_truthy_list pl.isList (by simp only[aP];lia) {H,680,by rw[F4 r];exact q}
  ·subst e';obtain⟨a9,r,pl,hz⟩:=I.tuple hx;have hlen:=r.length;exact truthy_tuple pl (by simp only[aP];lia) {H,680,by rw[F4 r];exact q}
  ·subst e';obtain⟨hz,hS,vs,r,m⟩:kvs.length<=sizeLine/\(p==sysModules)=false/\∃vs,KV kvs vs/\s.heap.DictOf 722 p vs:=I.bP p _ hx;have hlen:kvs.length=vs.length:=bb r;exact wpAny_truthy_dict hS m ∅ {H,680,by rw[QP r];exact q}
 |_=>exact(show False from e).elim
def Wg(ha:PE X a ta)(he:∀whole,isTrue a X.env whole=(do let v<-whole;standAt a.pos;holding [v] (truthy v))):
  PT X a (λZ H Q=>ta Z H λx H'=>∃k,aej X.K x H' k/\Q k H'):=by
 intro pins s Z H Q I h;exact isTrue_plain (de 693 λv s1 x H1 I1 r1 q1=>ab7 pins s1 Z H1 x v Q I1 r1 q1) (he _)
def vc:iU X (binaryOp .Add) (λx y H Q=>∃i j,x=.str i/\y=.str j/\i.length+j.length<=sizeLine/\Q (.str (i++j)) H):=by intro pins s Z H x y v u Q I rx ry h;obtain⟨i,j,rfl,rfl,hz,q⟩:=h;obtain⟨t,rfl⟩:=rx;obtain⟨t',rfl⟩:=ry;exact add_str (λt' tk=>{.str (i++j),H,680,723,q}) hz
def jH(r:Vals [x] us):∃u,us=[u]/\RelV x u:=by
 cases r with
 |cons r1 r2=>cases r2;exact⟨_,rfl,r1⟩
def vals2(r:Vals [x,y] us):∃u w',us=[u,w']/\RelV x u/\RelV y w':=by
 cases r with
 |cons r1 r2=>
  cases r2 with
  |cons r3 r4=>cases r4;exact⟨_,_,rfl,r1,r3⟩
def Vp:ic X (.type "int") (λxs H Q=>(∃i,xs=[.int i]/\Q (.int i) H)\/∃k,xs=[.bl k]/\Q (.int (if k then 1 else 0)) H):=by
 intro pins s Z H xs us Q I r h;rcases h with⟨i,rfl,q⟩|⟨k,rfl,q⟩
 ·obtain⟨u,rfl,t,rfl⟩:=jH r;exact call_int_int {.int i,H,I,723,q}
 ·obtain⟨u,rfl,r1⟩:=jH r;cases r1;exact call_int_bool {.int (if k then 1 else 0),H,680,723,q}
def aen(K:Frag)(x:V)(H:Hp)(n:Nat):Prop:=
 match x with
 | .str y=>y.length<=sizeLine/\n=y.length
 | .uT y=>y.size<=sizeLine/\n=y.size
 | .ref p=>(∃xs,bf K H p xs/\n=xs.length)\/∃xs,aY K H p xs/\n=xs.length
 |_=>False
def cY:ic X (.builtin "len") (λxs H Q=>∃x n,xs=[x]/\aen X.K x H n/\Q (.int n) H):=by
 intro pins s Z H xs us Q I r h;obtain⟨x,n,rfl,e,q⟩:=h;obtain⟨u,rfl,rx⟩:=jH r;have hs:sizeLine=16777216:=bW;cases x with
 |str y=>
  obtain⟨t,rfl⟩:=rx;obtain⟨hy,e'⟩:y.length<=sizeLine/\n=y.length:=e;subst e';exact len_str ∅ {.int _,H,680,723,q}
 |uT y=>
  obtain⟨t,rfl⟩:=rx;obtain⟨hy,e'⟩:y.size<=sizeLine/\n=y.size:=e;subst e';exact PySem.W.len_bytes ∅ {.int _,H,680,723,q}
 |ref p=>
  cases rx;have e':(∃xs,bf X.K H p xs/\n=xs.length)\/∃xs,aY X.K H p xs/\n=xs.length:=e;rcases e' with⟨xs,hx,e'⟩|⟨xs,hx,e'⟩
  ·subst e';obtain⟨a9,r',pl,hz⟩:=I.list hx;have hlen:=r'.length;exact Calls.call_len_list pl.isList (by simp only[aP];lia) {.int xs.length,H,680,{_,by simp only[aP];rw[hlen]},q}
  ·subst e';obtain⟨a9,r',pl,hz⟩:=I.tuple hx;have hlen:=r'.length;exact len_tuple pl (by simp only[aP];lia) {.int xs.length,H,680,{_,by simp only[aP];rw[hlen]},q}
 |_=>exact(show False from e).elim
structure Fq(h:Heap)(x dx C:Addr)(mA:Aac):Prop where
 obj:h.get? x=some (instObj C dx)
 ns:h.Ns1 dx mA
 ne:dx≠x
def TK{h:Heap}(n:h.Ns1 dx mA):∃od,h.get? dx=some od/\∀name,lookIn name od=some (mA name):=by
 obtain⟨o,es,ep,ho,hd,hk,_,hm⟩:=n;refine{o,ho,λname=>?_};have e:=hm name;unfold nsFind findBy at e;rw[<-Array.find?_toList]at e;unfold lookIn;rw[hd];dsimp only;split
 ·rename_i y q;rw[q]at e;exact cP some e
 ·rename_i q;rw[q]at e;have a:es.toList.any (·.refKey)=false:=by rw[List.any_eq_false];intro y hy;obtain⟨z,t,yc⟩:=hk y (AM.mp hy);simp[DictEntry.refKey,yc]
  rw[aH (by rw[a];exact bD)];exact cP some e
def Fq.look(I:Fq h x dx C mA):∃od,PySem.W.InstAt h x (instObj C dx) C (some od)/\∀name,lookIn name od=some (mA name):=
 let⟨od,ho,hl⟩:=TK I.ns
 {od,{I.obj,9,9,ho},hl}
variable{prog:Program}{w:World}{A:Around}{E:Aad}{s:Shared}{K:Frag}{x dx C f:Addr}{mA:Aac}{name:Str}{v:Value}
def get_map(X:K.In s.heap)(I:Fq s.heap x dx C mA)(hg:plainGet K C name=true)(hh:hasDictIn K C=true)
  (ha:findIn K (.ref C) name=some none) (hv:mA name=some v) (hv':PySem.W.handedIn v=true) (h:Q v {s with toks:=s.toks+1}):
  wpAny 58 A (getAttr (.ref x) name expr) Q E s:=by
 obtain⟨od,J,hl⟩:=I.look;exact PySem.W.get_value X J (sf hg).1 (PySem.W.findObj_own hh ha 9 (by rw[hl,hv])) hv' h
def Xl(X:K.In s.heap)(I:Fq s.heap x dx C mA)(hg:plainGet K C name=true)
  (hf:findIn K (.ref C) name=some (some 695)) (ht:isFn K 695=true) (hv:mA name=none) (h:Q (.ref f,[.ref x]) s):
  wpAny 58 A (getMethod (.ref x) name pl) Q E s:=by
 obtain⟨od,J,hl⟩:=I.look;exact PySem.W.method_fn X J (sf hg).1 (sf hg).2 hf (rp.mp ht) (by show(lookIn name od).map (·.isSome)=some false;rw[hl,hv];rfl) h
def aaJ(X:K.In s.heap)(I:Fq s.heap x dx C mA)
  (hs:findIn K (.ref C) "__setattr__"=some (some (.builtin "object.__setattr__"))) (hp:PySem.W.plainOver K C=true) (ht:PySem.W.takerIn K C name=some none) (hh:hasDictIn K C=true)
  (hw:PySem.Within mA ns) (hsz:ns.length<=sizeLine)
  (h:∀h',Fq h' x dx C (λy=>if y=name then some v else mA y)->Heap.SameBut dx s.heap h'->Q () {s with heap:=h',toks:=s.toks+2}):
  wpAny 58 A (setAttr (.ref x) name v) Q E s:=by
 obtain⟨od,J,hl⟩:=I.look;refine PySem.W.set_plain X J hs (PySem.W.osa_open X J hp ht λb=>?_);obtain⟨cd,hc,pw⟩:=PySem.W.any_some hh;refine ae (ao (ae (ae (wpAny_loadPart I.obj (ae (PySem.W.Looks.here (PySem.W.looks_clsIn X hc) ?_))))));rw[pw];refine ao (ae (ao (ae ?_)));refine wpAny_nsSet1 I.ns λh' Eh kC=>?_;obtain⟨oD,esD,epD,hoD,hdD,hcD⟩:=Eh.count (PySem.Within.cons name v hw);exact ae (wpAny_lookBehind hoD (by rw[hdD];exact pastItsLine_dict (br hcD (by rw[bE];lia))) (ao (h _ {(kC.2 _ (cL I.ne)).trans I.obj,Eh,I.ne} kC)))
def WO(X:K.In s.heap)(hm:PySem.W.makesIn K C=true)
  (hi:findIn K (.ref C) "__init__"=some (some 695)) (hf:PySem.W.typeIn K 695=some (.type "function"))
  (h:codeAny 58 (A.under (.builtin "type.__call__" {.ref C::vs,kw})) (.call 695 {.ref 646::vs,kw}) (PySem.W.InitBack 646 R)
   {s with heap:=(s.heap.push emptyDict).push (instObj C s.heap.objs.size)}):
  codeAny 58 A (.call (.ref C) ⟨vs,kw⟩) R s:=by
 obtain⟨hh,g,d,t,os⟩:=s;exact PySem.W.make_core (PySem.W.makes_of X hm) (PySem.W.looks_findIn X hi) (λself=>PySem.W.bind_fn X self hf) (.inl 9) h
end
def je(f:Str)(v:V):List (Str×V)->List (Str×V)
 |[]=>[(f,v)]
 |(g,x)::r=>if g=f then(g,v)::r else(g,x)::je f v r
theorem D9(f g:Str)(v:V):∀fs:List (Str×V),(je f v fs).lookup g=if g=f then some v else fs.lookup g
 |[]=>by
  show List.lookup g [(f,v)]=_;by_cases h:g=f
  ·have hb:=rp.mpr h;simp only[List.lookup,hb,aK h]
  ·have hb:=cS.mpr h;simp only[List.lookup,hb,aH h]
 |(k,x)::r=>by
  rw[show je f v ((k,x)::r)=(if k=f then(k,v)::r else(k,x)::je f v r)from rfl];by_cases hk:k=f
  ·rw[aK hk];by_cases h:g=k
   ·have hb:=rp.mpr h;simp only[List.lookup,hb,aK (h.trans hk)]
   ·have hb:=cS.mpr h;simp only[List.lookup,hb,aH (λe:g=f=>h (e.trans hk.symm))]
  ·rw[aH hk];by_cases h:g=k
   ·have hb:=rp.mpr h;simp only[List.lookup,hb,aH (λe:g=f=>hk (h.symm.trans e))]
   ·have hb:=cS.mpr h;simp only[List.lookup,hb];exact(D9 f g v r)
theorem BY(f:Str)(v:V):∀fs:List (Str×V),f∈(je f v fs).map (·.1)/\∀g,g∈fs.map (·.1)->g∈(je f v fs).map (·.1)
 |[]=>{by simp[je],λg h=>by simp at h}
 |(k,x)::r=>by
  obtain⟨i1,i2⟩:=BY f v r;rw[show je f v ((k,x)::r)=(if k=f then(k,v)::r else(k,x)::je f v r)from rfl];by_cases hk:k=f
  ·rw[aK hk];subst hk;exact{59,λg h=>by simpa using h}
  ·rw[aH hk];refine{?_,λg h=>?_}
   ·rw[bt];exact aG _ i1
   ·rw[bt]at h⊢;rcases aN.mp h with e|e
    ·exact aN.mpr (.inl e)
    ·exact aG _ (i2 g e)
theorem Ea(f:Str)(v:V):∀fs:List (Str×V),(je f v fs).length<=fs.length+1
 |[]=>by simp[je]
 |(k,x)::r=>by
  have ih:=Ea f v r;rw[show je f v ((k,x)::r)=(if k=f then(k,v)::r else(k,x)::je f v r)from rfl];by_cases hk:k=f
  ·rw[aK hk,bE,bE];lia
  ·rw[aH hk,bE,bE];lia
def mP.some_of(r:mP (some v) o):∃u,o=some u/\RelV v u:=by
 cases o with
 |none=>exact(show False from r).elim
 |some u=>exact⟨u,rfl,r⟩
def mP.none_of(r:mP none o):o=none:=by
 cases o with
 |none=>rfl
 |some u=>exact(show False from r).elim
def UL(r:RelV v u):PySem.W.handedIn u=true:=by
 cases v with
 |cz=>cases(show u=Value.none from r);rfl
 |bl b=>cases(show u=Value.bool b from r);rfl
 |int i=>obtain⟨t,e⟩:=(show∃t,u=Value.int i t from r);cases e;rfl
 |str x=>obtain⟨t,e⟩:=(show∃t,u=Value.str x t from r);cases e;rfl
 |uT b=>obtain⟨t,e⟩:=(show∃t,u=Value.bytes b t from r);cases e;rfl
 |MW b=>obtain⟨t,e⟩:=(show∃t,u=Value.float b t from r);cases e;rfl
 |ref a=>cases(show u=Value.ref a from r);rfl
 |ty n=>cases(show u=Value.type n from r);rfl
section
variable{P:Program}{w:World}{H:Hp}{h:Heap}{a C dx:Addr}{fs:List (Str×V)}
def Dk(bP:j3 P w H h)(e:H a=some (.ins C dx fs)):∃mA,Fq h a dx C mA/\(∀f,mP (fs.lookup f) (mA f))/\PySem.Within mA (fs.map (·.1))/\fs.length<=1000/\H dx=some (.own a):=by obtain⟨d,z,ne,ob,mA,n,r,q⟩:=(show dP P w H h a (.ins C dx fs)from bP a _ e);exact{mA,⟨ob,n,ne⟩,r,q,z,d}
end
structure C4(K:Frag)(C:Addr):Prop where
 pg:plainGet K C Str.empty=true
 hd:hasDictIn K C=true
 po:PySem.W.plainOver K C=true
 sa:findIn K (.ref C) "__setattr__"=some (some (.builtin "object.__setattr__"))
def C4.get{K:Frag}(c:C4 K C)(f:Str):plainGet K C f=true:=c.pg
def ug(K:Frag)(C:Addr)(f:Str):Prop:=findIn K (.ref C) f=some none
def ug.aeu{K:Frag}(n:ug K C f):PySem.W.takerIn K C f=some none:=by unfold PySem.W.takerIn;rw[show findIn K (.ref C) f=some none from n];rfl
structure Con(K:Frag)(C:Addr)(f:Str)(v:V)(u:Value):Prop where
 at_:findIn K (.ref C) f=some (some u)
 rel:RelV v u
 get:PySem.W.specialIn K u "__get__"=some none
 cp:PySem.W.copiedNames.contains f=false
structure Meth(K:Frag)(C:Addr)(m:Str)(f:Addr):Prop where
 at_:findIn K (.ref C) m=some (some 695)
 fn:isFn K 695=true
 kp:keepIn K 695=true
section
variable{X:Cx}{pins:Aab}{Z:St}{H:Hp}{s:Shared}{a C dx:Addr}{fs:List (Str×V)}{f:Str}{v:V}{A:Around}{E:Aad}
def Rb(I:Inv X pins Z H s)(e:H a=some (.ins C dx fs))(c:C4 X.K C)(n:ug X.K C f)(l:fs.lookup f=some v)
  (h:∀u s',Inv X pins Z H s'->RelV v u->Q u s'):wpAny 56 A (getAttr 654 f b) Q E s:=by
 obtain⟨mA,O,r,_,_,_⟩:=Dk I.bP e;obtain⟨u,hu,ru⟩:=mP.some_of (l▸r f);exact get_map I.mY O (c.get f) c.hd n hu (UL ru) (h u _ 680 ru)
def Ra(I:Inv X pins Z H s)(e:H a=some (.ins C dx fs))(c:C4 X.K C)(k:Meth X.K C m g)(l:fs.lookup m=none)
  (h:Q (.ref g,[.ref a]) s):wpAny 56 A (getMethod 654 m pl) Q E s:=by
 obtain⟨mA,O,r,_,_,_⟩:=Dk I.bP e;exact Xl I.mY O (c.get m) k.at_ k.fn (mP.none_of (by rw[<-l];exact r m)) h
def Qi(I:Inv X pins Z H s)(e:H a=some (.ins C dx fs))(c:C4 X.K C)(n:ug X.K C f)(hl:fs.length<1000)(ry:RelV y u)
  (h:∀s',Inv X pins Z (upd H a (.ins C dx (je f y fs))) s'->Q () s'):wpAny 56 A (setAttr 654 f u) Q E s:=by
 obtain⟨mA,O,r,wi,_,ho⟩:=Dk I.bP e;refine aaJ I.mY O c.sa c.po n.aeu c.hd wi (by rw[ah,bW];lia) λh' O' sb=>h _ ?_;refine I.write (e▸True.intro) (.inr ho) (λb q hb z=>(sb.2 b hb).trans z) (let⟨o,_,_,e',_⟩:=O'.ns;⟨o,e'⟩) ?_;refine{aL O.ne▸ho,?_,O.ne,O'.obj,_,O'.ns,λg=>?_,λg hg=>?_}
 ·have:=Ea f y fs;lia
 ·show mP ((je f y fs).lookup g) (if g=f then some u else mA g);rw[D9];by_cases q:g=f
  ·rw[aK q,aK q];exact ry
  ·rw[aH q,aH q];exact r g
 ·by_cases q:g=f
  ·rw[q];exact(BY f y fs).1
  ·refine(BY f y fs).2 g (wi g λz=>hg ?_);show(if g=f then some u else mA g)=none;rw[aH q];exact z
def Inv.made(I:Inv X pins Z H s):Inv X pins Z (upd (upd H s.heap.objs.size (.own 646)) 646 (.ins C s.heap.objs.size []))
  {s with heap:=(s.heap.push emptyDict).push (instObj C s.heap.objs.size)}:=by
 have e1:(s.heap.push emptyDict).get? s.heap.objs.size=some emptyDict:=aU s.heap rfl;have e2:((s.heap.push emptyDict).push (instObj C s.heap.objs.size)).get? 646=some (instObj C s.heap.objs.size):=by have:=aU (s.heap.push emptyDict) (o:=instObj C s.heap.objs.size) rfl;rwa [dj]at this
 have I1:=I.laid (o:=.own 646) (t':=s.toks) (λb u q=>aj _ q) (aw _) ⟨_,e1⟩;refine I1.laid (λb u q=>aj _ q) (rH (dj _ _)) ?_;have ne:s.heap.objs.size≠s.heap.objs.size+1:=aV (eB _);refine{by rw[aL ne,au],aO _,ne,e2,λ_=>none,(Heap.Ns1.of_empty ({emptyDict,#[],_,e1,9,(λe he=>absurd he 59),λ_=>9})).at λo q=>aj _ q,λ_=>True.intro,λy hy=>absurd rfl hy}
def abV(hb:attributeBase e f env (eval e env)=eval e env)
  (h:wpAny 58 A (eval e env) (λo aaa=>wpAny 58 A (getAttr o f true) Q E aaa) E s):wpAny 58 A (eval (.Attribute e f pos) env) Q E s:=
 Attribute_any_ h (by rw[arm_eval_Attribute,hb])
end
inductive aey(K:Frag)(f:Str)(Q:VK)(x:V)(H1:Hp):Prop
 |mk a C dx fs v (_:x=.ref a) (_:H1 a=some (.ins C dx fs)) (_:C4 K C) (_:ug K C f) (_:fs.lookup f=some v) (_:Q v H1)
def afv(K:Frag)(ta:TE)(f:Str):TE:=λZ H Q=>ta Z H λx H1=>aey K f Q x H1
inductive aeI(K:Frag)(f:Str)(D:Ends)(Z:St)(y:V)(x:V)(H2:Hp):Prop
 |mk a C dx fs (_:x=.ref a) (_:H2 a=some (.ins C dx fs)) (_:C4 K C) (_:ug K C f) (_:fs.length<1000) (_:D.nx Z (upd H2 a (.ins C dx (je f y fs))))
def afC(K:Frag)(ta tv:TE)(f:Str):TS:=λD Z H=>tv Z H λy H1=>ta Z H1 λx H2=>aeI K f D Z y x H2
section
variable{X:Cx}{o e value:Expr}{f:Str}{pos pos':Pos}{ta tv:TE}
def yO(he:PE X e ta)(hb:attributeBase e f X.env (eval e X.env)=eval e X.env):PE X (.Attribute e f pos) (afv X.K ta f):=by intro pins s Z H Q I h;refine abV hb (de 730 λu s1 x H1 I1 rx agx=>?_);obtain⟨a,C,dx,fs,v,ex,ea,c,n,l,q⟩:=agx;subst ex;obtain rfl:u=Value.ref a:=rx;exact Rb I1 ea c n l λu' s2 I2 ru=>⟨v,H1,I2,ru,q⟩
def Ld(ha:PE X o ta)(hv:PE X value tv)(hs:swapsWith value (some (.Attribute o f pos')) pos.line X.env=pure false):PS X (.Assign [.Attribute o f pos'] value pos) (afC X.K ta tv f):=by intro pins s Z H D I h;refine plainObj_wpAny_Assign_Attribute (de (hv pins s Z H _ I h) λu s1 y H1 I1 ry q=>de (ha pins s1 Z H1 _ I1 q) λov s2 x H2 I2 rx agw=>?_) hs;obtain⟨a,C,dx,fs,ex,ea,c,n,l,q2⟩:=agw;subst ex;obtain rfl:ov=Value.ref a:=rx;exact Qi I2 ea c n l ry λs3 I3=>⟨Z,_,I3,q2⟩
end
section
variable{X:Cx}{pins:Aab}{Z:St}{H:Hp}{s:Shared}{A:Around}{E Q:Aad}{c:Value}{b:Bool}
inductive pF(K:Frag)(H:Hp):V->Value->Prop where
 |cz:pF K H .cz (.type "NoneType")
 |bl (x:Bool):pF K H (.bl x) (.type "bool")
 |int (i:Int):pF K H (.int i) (.type "int")
 |str (x:Str):pF K H (.str x) (.type "str")
 |MW (x:UInt64):pF K H (.MW x) (.type "float")
 |lst {a:Addr} {xs:Aan} (e:H a=some (.lst xs)):pF K H (.ref a) (.type "list")
 |gE {a:Addr} {o:Obj} {xs:Aan} (e:H a=some (.gE o (.lst xs))):pF K H (.ref a) (.type "list")
 |tup {a:Addr} {xs:Aan} (e:H a=some (.tup xs)):pF K H (.ref a) (.type "tuple")
 |dK {a:Addr} {kvs:List (Key×V)} (e:H a=some (.dK kvs)):pF K H (.ref a) (.type "dict")
 |dT {a:Addr} {kvs:List (List Key×V)} (e:H a=some (.dT kvs)):pF K H (.ref a) (.type "dict")
 |ins {a C dx:Addr} {fs:List (Str×V)} (e:H a=some (.ins C dx fs)) (cl:C4 K C) (ha:findIn K (.ref C) "__class__"=some (some (.builtin "object.__class__")))
   (hn:PySem.W.specialIn K (.builtin "object.__class__") "__get__"=some (some (.builtin "getset_descriptor.__get__"))) (htk:PySem.W.takesIn K (.builtin "object.__class__")=some true)
   (hm:PySem.W.mroIn K C (.type "object")=some true):pF K H 654 (.ref C)
def T7(I:Inv X pins Z H s)(rx:RelV x u)(ty:pF X.K H x t)(e:kitOne X.K t c=some b)(h:∀tk,Q (.bool b) {s with toks:=tk}):
  wpAny 56 A (call (.builtin "isinstance") [u,c]) Q E s:=by
 cases ty with
 |cz=>cases(show u=Value.none from rx);exact eY PySem.W.kitx_none I.mY True.intro e 696 h
 |bl y=>cases(show u=Value.bool y from rx);exact eY PySem.W.kitx_bool I.mY True.intro e 696 h
 |int i=>obtain⟨t,q⟩:=(show∃t,u=Value.int i t from rx);cases q;exact eY PySem.W.kitx_int I.mY True.intro e 696 h
 |str y=>obtain⟨t,q⟩:=(show∃t,u=Value.str y t from rx);cases q;exact eY PySem.W.kitx_str I.mY True.intro e 696 h
 |MW y=>obtain⟨t,q⟩:=(show∃t,u=Value.float y t from rx);cases q;exact eY PySem.W.kitx_float I.mY True.intro e 696 h
 |@lst a xs ea=>
  cases(show u=Value.ref a from rx);obtain⟨_,_,n,_,h1⟩:=(show dP X.prog X.w H s.heap a (.lst xs)from I.bP a _ ea);exact eY DL I.mY ⟨_,h1,rfl⟩ e 696 h
 |@gE a ob xs ea=>
  cases(show u=Value.ref a from rx);obtain⟨_,_,_,n,_,h1⟩:=(show dP X.prog X.w H s.heap a (.gE ob (.lst xs))from I.bP a _ ea);exact eY DL I.mY ⟨_,h1,rfl⟩ e 696 h
 |@tup a xs ea=>
  cases(show u=Value.ref a from rx);obtain⟨_,_,_,p,_⟩:=(show dP X.prog X.w H s.heap a 664 from I.bP a _ ea);obtain⟨o,h1,h2,_⟩:=p;exact eY CM I.mY ⟨o,h1,h2⟩ e 696 h
 |@dK a kvs ea=>
  cases(show u=Value.ref a from rx);obtain⟨_,_,vs,_,p⟩:=(show dP X.prog X.w H s.heap a 715 from I.bP a _ ea);obtain⟨o,es,ep,h1,h2,_⟩:=p;exact eY DM I.mY {o,h1,h2.1} e 696 h
 |@dT a kvs ea=>
  cases(show u=Value.ref a from rx);obtain⟨_,_,xs,_,o,es,ep,h1,h2,_⟩:=(show dP X.prog X.w H s.heap a (.dT kvs)from I.bP a _ ea);exact eY DM I.mY {o,h1,h2.1} e 696 h
 |@ins a C dx fs ea cl ha hn htk hm=>
  cases(show u=Value.ref a from rx);obtain⟨mA,O,_⟩:=Dk I.bP ea;obtain⟨od,J,_⟩:=O.look;exact eY (PySem.W.kitx_own (cl.get _) cl.hd ha hn htk hm) I.mY J e 696 h
end
structure iD(k:Nat)(A:Around):Prop where
 hd:A.handled=none
 dp:A.depth+3*k+5<recursionLimit
 un:A.units+16*k+200<cLine
def iD.mono(r:iD k A)(h:j<=k):iD j A:={r.hd,by have:=r.dp;lia,by have:=r.un;lia}
def iD.deeper(r:iD (k+1) A)(env:Env):iD k (A.deeper env):=
 {r.hd,by have:=r.dp;show A.depth+1+3*k+5<_;lia,by have:=r.un;show A.units+3+16*k+200<_;lia}
def QJ{A:Around}:(A.under (.builtin "type.__call__" {.ref C::us,kw})).depth=A.depth+1:=by
 first|rfl|simp[Around.under,Code.weight,Code.isCreation,Code.isGuard,Code.isCaller,Code.frames,Code.isFrame,guardIds]
def QI{A:Around}:(A.under (.builtin "type.__call__" {.ref C::us,kw})).units=A.units+1:=by
 first|rfl|simp[Around.under,Code.cUnits,Code.frames,Code.isFrame]
def iD.make(r:iD (k+1) A)(C:Addr)(us:Aaf)(kw:List (Str×Value)):iD k (A.under (.builtin "type.__call__" {.ref C::us,kw})):=
 {r.hd,by have:=r.dp;rw[QJ];lia,by have:=r.un;rw[QI];lia}
def iD.depth(r:iD k A):A.depth<recursionLimit:=by have:=r.dp;lia
def iD.units(r:iD k A):A.units+64<cLine:=by have:=r.un;lia
def iD.Fw(r:iD k A):A.units<cLine:=by have:=r.un;lia
def Bo:TA:=λ_ H Q=>Q [] H
def zG(ta:TE)(tr:TA):TA:=λZ H Q=>ta Z H λx H1=>tr Z H1 λxs H2=>Q (x::xs) H2
section
variable{X:Cx}{e:Expr}{es:List Expr}{te:TE}{t:TA}{pos:Pos}
def iu:PA X [] Bo:=λ_ _ _ _ H Q I h=>j5 {[],H,I,.nil,h}
def fu(ha:PE X e te)(hr:PA X es t)(hs:starEach (e::es) X.env=(false,eval e X.env)::starEach es X.env:=by rfl):PA X (e::es) (zG te t):=by intro pos pins s Z H Q I h;rw[hs];exact fP (de 693 λu s1 x H1 I1 r1 q1=>sD (hr pos pins s1 Z H1 _ I1 q1) λus s2 xs H2 I2 r2 q2=>{x::xs,H2,I2,.cons r1 r2,q2})
def bX{X:Cx}{e:Expr}{te:TE}(ha:PE X e te)(hs:starEach [e] X.env=(false,eval e X.env)::starEach [] X.env:=by rfl):PA X [e] (zG te Bo):=fu ha iu hs
def cu{X:Cx}{e f:Expr}{te tf:TE}(ha:PE X e te)(hb:PE X f tf)(hs:starEach [e,f] X.env=(false,eval e X.env)::starEach [f] X.env:=by rfl)(ht:starEach [f] X.env=(false,eval f X.env)::starEach [] X.env:=by rfl):PA X [e,f] (zG te (zG tf Bo)):=fu ha (bX hb ht) hs
def iZ{X:Cx}{e f g:Expr}{te tf tg:TE}(ha:PE X e te)(hb:PE X f tf)(hc:PE X g tg)(hs:starEach [e,f,g] X.env=(false,eval e X.env)::starEach [f,g] X.env:=by rfl)(ht:starEach [f,g] X.env=(false,eval f X.env)::starEach [g] X.env:=by rfl)(hu:starEach [g] X.env=(false,eval g X.env)::starEach [] X.env:=by rfl):PA X [e,f,g] (zG te (zG tf (zG tg Bo))):=fu ha (cu hb hc ht hu) hs
def afn(t:TA):TE:=λZ H Q=>t Z H λxs H1=>xs.length<=sizeLine/\∀p,H1 p=none->Q 666 (upd H1 p 664)
def afr(t:TA):TE:=λZ H Q=>t Z H λxs H1=>xs.length<=sizeLine/\∀p,H1 p=none->Q 666 (upd H1 p (.lst xs))
def dX{x1}(h:PA X es t):PE X (.Tuple es x1 pos) (afn t):=by intro pins s Z H Q I hq;refine wpAny_Tuple_spliced (sD (h pos pins s Z H _ I hq) λus s1 xs H1 I1 r ⟨z,q⟩=>{r.length▸z,?_});refine{.ref s1.heap.objs.size,upd H1 s1.heap.objs.size 664,I1.laid (λb u e=>aj _ e) (aw _) ?_,9,q _ 716};exact{z,us,r,{_,676,9,_,9},_,676,9}
def dM(h:PA X es t):PE X (.List es pos) (afr t):=by intro pins s Z H Q I hq;refine wpAny_List_spliced (sD (h pos pins s Z H _ I hq) λus s1 xs H1 I1 r ⟨z,q⟩=>{r.length▸z,?_});refine{.ref s1.heap.objs.size,upd H1 s1.heap.objs.size (.lst xs),I1.laid (λb u e=>aj _ e) (aw _) ?_,9,q _ 716};exact{z,us,0,r,676}
abbrev Sp:=Aan->Hp->VK->XK->Prop
abbrev NA:=List Env->Hp->Shared->XK->Aad
structure Il(P:Program)(w:World)(K:Frag)(mg:Aac)(base:Heap)(A:Around)(outer:List Env)(s:Shared)(H:Hp):Prop where
 frames:A.frames=some outer
 mod:Mod K mg base
 bs:∀b o,base.get? b=some o->s.heap.get? b=some o/\H b=none
 A5:base.objs.size<=s.heap.objs.size
 sR:s.heap.FunFrames base outer
 Jp:∀b∈Ck outer,H b=none
 bP:j3 P w H s.heap
 bare:AllBare s.gens
def CE(outer:List Env)(P:Program)(w:World)(H:Hp)(s:Shared)(Q:VK)(u:Value)(s':Shared):Prop:=
 ∃v H',s'.os=s.os/\AllBare s'.gens/\Un (Ck outer) [] H H' s.heap s'.heap/\j3 P w H' s'.heap/\RelV v u/\Q v H'
end
def CR(CX:NA)(outer:List Env)(P:Program)(w:World)(H:Hp)(s:Shared)(Q:VK)(E:XK)(r:Result)(s':Shared):Prop:=
 match r with
 | .ok (.ret u)=>CE outer P w H s Q u s'
 | .ok _=>False
 | .error e=>CX outer H s E e s'
structure cK(P:Program)(w:World)(K:Frag)(mg:Aac)(base:Heap)(CX:NA)(k:Nat)(f:Addr)(fd:FuncData)(ps:Aag)(sp:Sp):Prop where
 len:∀vs H Q E,sp vs H Q E->vs.length=ps.length
 run:∀(A:Around)(outer:List Env)(s:Shared)(H:Hp)(args:Args)(us:Aaf)(vs:Aan)(Q:VK)(E:XK),iD k A->Il P w K mg base A outer s H->BindsTo s fd args (ps.zip us)->Vals vs us->sp vs H Q E->
  codeAny 661 A (.call 695 args) (CR CX outer P w H s Q E) s
def Il.make{K:Frag}(e:Il P w K mg base A outer s H)(C:Addr)(us:Aaf)(kw:List (Str×Value)):
  Il P w K mg base (A.under (.builtin "type.__call__" {.ref C::us,kw})) outer s H:={by first|exact e.frames|(simpa[Around.under,Code.envs,Code.isFrame,pushEnvs]using e.frames),e.mod,e.bs,e.A5,e.sR,e.Jp,e.bP,e.bare}
section
variable{X:Cx}{pins:Aab}{Z:St}{H:Hp}{s s':Shared}
def Inv.env0(I:Inv X pins Z H s):Il X.prog X.w X.K X.mg X.base X.A X.stack s H:=
 {I.ok.frames,I.ok.mod,I.bs,br I.ok.A5 I.sz,I.stack,I.GX,I.bP,I.bare}
def Inv.after(I:Inv X pins Z H s)(h:CE X.stack X.prog X.w H s Q u s'):EP X pins Z Q u s':=by obtain⟨v,H',os,bare,un,bP,r,q⟩:=h;obtain⟨hh,g,d,t,YN⟩:=s';obtain rfl:YN=s.os:=os;exact{v,H',I.call un bP bare (λb z=>absurd z 59),r,q}
end
def Yo(sp:Sp)(qB:Aan)(E:XK)(t:TA):TE:=λZ H Q=>t Z H λvs H1=>sp (vs++qB) H1 Q E
inductive aci(C:Addr)(m:Str)(sp:Sp)(qB:Aan)(E:XK)(t:TA)(Z:St)(Q:VK)(x:V)(H1:Hp):Prop
 |mk a dx fs (_:x=.ref a) (_:H1 a=some (.ins C dx fs)) (_:fs.lookup m=none) (_:t Z H1 λvs H2=>sp (x::(vs++qB)) H2 Q E)
def Ym(C:Addr)(m:Str)(sp:Sp)(qB:Aan)(E:XK)(ta:TE)(t:TA):TE:=λZ H Q=>ta Z H λx H1=>aci C m sp qB E t Z Q x H1
def Yn(C:Addr)(sp:Sp)(qB:Aan)(E:XK)(t:TA):TE:=λZ H Q=>t Z H λvs H1=>∀x dx,H1 x=none->H1 dx=none->dx≠x->
 sp (.ref x::(vs++qB)) (upd (upd H1 dx (.own x)) x (.ins C dx [])) (λv H2=>v=.cz/\Q (.ref x) H2) E
def Binds(K:Frag)(fd:FuncData)(ps:Aag)(ds:Aaf):Prop:=
 ∀(s:Shared)(us:Aaf),K.In s.heap->(us++ds).length=ps.length->BindsTo s fd {us,[]} (ps.zip (us++ds))
def Binds.all{K:Frag}(h:∀us:Aaf,us.length=ps.length->bindArgs fd {us,[]}=pure (ps.zip us)):Binds K fd ps []:=λs us _ hl=>by rw[c7]at hl⊢;exact .of_eq (h us hl)
def Passes(CX:NA)(X:Cx)(E:XK):Prop:=∀(pins:Aab)(Z:St)(H:Hp)(s:Shared)(e:Value)(s':Shared),Inv X pins Z H s->CX X.stack H s E e s'->X.xe e s'
section
variable{X:Cx}{CX:NA}{k:Nat}{f C:Addr}{fd:FuncData}{ps:Aag}{sp:Sp}{qB:Aan}{ds:Aaf}{E:XK}{x m:Str}{p pos apos:Pos}{e o:Expr}{es:List Expr}{ta:TE}{t:TA}
def SF(F:cK X.prog X.w X.K X.mg X.base CX k f fd ps sp)(hr:iD k X.A)(hb:Binds X.K fd ps ds)(hd:Vals qB ds)(hx:Passes CX X E)
  (I:Inv X pins Z H s) (r:Vals vs us) (h:sp (vs++qB) H Q E):wpAny 56 X.A (call 695 us) 706 X.xe s:=by
 have r2:=r.append hd;refine Ft (lZ (F.run X.A X.stack s H {us,[]} (us++ds) (vs++qB) Q E hr I.env0 (hb s us I.mY (by rw[<-r2.length];exact F.len _ _ _ _ h)) r2 h) λr s' hq=>?_);cases r with
 |error e=>exact hx pins Z H s e s' I hq
 |ok fl=>
  cases fl with
  |ret u=>exact I.after hq
  |next=>exact False.elim hq
  |brk=>exact False.elim hq
  |cont=>exact False.elim hq
def aa5(F:cK X.prog X.w X.K X.mg X.base CX k f fd ps sp)(hr:iD k X.A)(hg:Gl X x)(hm:X.mg x=some 695)(hk:keepIn X.K 695=true)(hb:Binds X.K fd ps ds)(hd:Vals qB ds)(hx:Passes CX X E)
  (ha:PA X (e::es) t) (Cd:658=false:=by decide) (he:starEach (e::es) X.env=(false,eval e X.env)::starEach es X.env:=by rfl) (jM:(backTo pos 709).any (·.1)=false:=by rfl):
  PE X 704 (Yo sp qB E t):=by
 intro pins s Z H Q I h;refine nN (HC I hg hm ?_ Cd);exact ue I.ok.mod.TY hk (sD (ha pos pins s Z H _ I h) λus s1 vs H1 I1 r q=>{I1.mY,SF F hr hb hd hx I1 r q}) he jM
def aa0(he:PE X o ta)(c:C4 X.K C)(hm:Meth X.K C m f)(F:cK X.prog X.w X.K X.mg X.base CX k f fd ps sp)(hr:iD k X.A)(hb:Binds X.K fd ps ds)(hd:Vals qB ds)(hx:Passes CX X E)(ha:PA X (e::es) t)
  (AZ:starEach (e::es) X.env=(false,eval e X.env)::starEach es X.env:=by rfl) (jM:(backTo pos 709).any (·.1)=false:=by rfl)
  (ht:eval (.Call (.Attribute o m apos) (e::es) [] pos) X.env=(do
   let ov<-eval o X.env
   standAt apos.atName
   let(f,first)<-holding [ov] (getMethod ov m pl)
   callWith pos f first (backTo pos (starEach (e::es) X.env)) (backToKw pos (keywordEach [] X.env))):=by rfl):
  PE X (.Call (.Attribute o m apos) (e::es) [] pos) (Ym C m sp qB E ta t):=by
 intro pins s Z H Q I h;refine PySem.W.methodCall_KW (de 730 λu s1 x H1 I1 rx agv=>?_) ht;obtain⟨a,dx,fs,ex,ea,l,q⟩:=agv;subst ex;obtain rfl:u=Value.ref a:=rx;refine Ra I1 ea c hm l ?_;refine ue I.ok.mod.TY hm.kp (sD (ha pos pins s1 Z H1 _ I1 q) λus s2 vs H2 I2 r q2=>{I2.mY,?_}) AZ jM;exact SF (vs:=.ref a::vs) F hr hb hd hx I2 (.cons 9 r) q2
structure Mk(K:Frag)(C f:Addr):Prop where
 makes:PySem.W.makesIn K C=true
 init:findIn K (.ref C) "__init__"=some (some 695)
 fn:isFn K 695=true
 kp:keepIn K (.ref C)=true
def V9(M:Mk X.K C f)(F:cK X.prog X.w X.K X.mg X.base CX k f fd ps sp)(hr:iD (k+1) X.A)(hb:Binds X.K fd ps ds)(hd:Vals qB ds)
  (hx:Passes CX X E) (I:Inv X pins Z H s) (r:Vals vs us)
  (h:∀x dx,H x=none->H dx=none->dx≠x->sp (.ref x::(vs++qB)) (upd (upd H dx (.own x)) x (.ins C dx [])) (λv H2=>v=.cz/\Q (.ref x) H2) E):
  wpAny 56 X.A (call (.ref C) us) 706 X.xe s:=by
 have hq:=h 646 s.heap.objs.size (I.bP.fresh (fq _)) 677 (aV (eB _));have I2:=Inv.made (C:=C) I;have r2:Vals (V.ref 646::(vs++qB)) (Value.ref 646::(us++ds)):=.cons rfl (r.append hd);have hl:(Value.ref 646::us++ds).length=ps.length:=by have e:=r2.length;rw[F.len _ _ _ _ hq]at e;exact e.symm
 refine Ft (WO I.mY M.makes M.init (rp.mp M.fn) (lZ (F.run _ X.stack _ _ {Value.ref 646::us,[]} (Value.ref 646::(us++ds)) _ _ E (hr.make C us [])
  (I2.env0.make C us []) (hb _ (Value.ref 646::us) I2.mY hl) r2 hq) λr s' Ur=>?_))
 cases r with
 |error e=>exact hx pins Z _ _ e s' I2 Ur
 |ok fl=>
  cases fl with
  |ret u=>
   obtain⟨v,H',I3,rv,ev,q3⟩:=I2.after Ur;subst ev;exact{rv,{V.ref 646,H',I3,9,q3}}
  |next=>exact False.elim Ur
  |brk=>exact False.elim Ur
  |cont=>exact False.elim Ur
def aa3(M:Mk X.K C f)(F:cK X.prog X.w X.K X.mg X.base CX k f fd ps sp)(hr:iD (k+1) X.A)(hg:Gl X x)(hm:X.mg x=some (.ref C))(hb:Binds X.K fd ps ds)(hd:Vals qB ds)(hx:Passes CX X E)
  (ha:PA X (e::es) t) (Cd:658=false:=by decide) (he:starEach (e::es) X.env=(false,eval e X.env)::starEach es X.env:=by rfl) (jM:(backTo pos 709).any (·.1)=false:=by rfl):
  PE X 704 (Yn C sp qB E t):=by
 intro pins s Z H Q I h;refine nN (HC I hg hm ?_ Cd);exact ue I.ok.mod.TY M.kp (sD (ha pos pins s Z H _ I h) λus s1 vs H1 I1 r q=>{I1.mY,V9 M F hr hb hd hx I1 r q}) he jM
variable{ks:Aag}
structure aho(K:Frag)(fd:FuncData)(ps ks:Aag)(g:Aaf->Aaf->Aaf)(gV:Aan->Aan->Aan):Prop where
 to:∀(s:Shared)(us ws:Aaf),K.In s.heap->(g us ws).length=ps.length->BindsTo s fd {us,ks.zip ws} (ps.zip (g us ws))
 rel:∀{vs:Aan}{us:Aaf}{zs:Aan}{ws:Aaf},Vals vs us->Vals zs ws->Vals (gV vs zs) (g us ws)
end
structure bZ(N P:Aag)(sc:Scope):Prop where
 kind:sc.kind=.function
 co:sc.isCoroutine=false
 gen:sc.isGenerator=false
 nd:N.Nodup
 pre:N.take P.length=P
 par:∀x∈P,sc.names.lookup x=some .local\/sc.names.lookup x=some .cell
 ac2:∀y∈sc.names,y.2≠ .free
def gA{N P:Aag}{sc:Scope}(h:sc.kind=.function/\sc.isCoroutine=false/\sc.isGenerator=false/\N.Nodup/\N.take P.length=P/\(∀x∈P,sc.names.lookup x=some .local\/sc.names.lookup x=some .cell)/\∀y∈sc.names,y.2≠ .free):bZ N P sc:={h.1,h.2.1,h.2.2.1,h.2.2.2.1,h.2.2.2.2.1,h.2.2.2.2.2.1,h.2.2.2.2.2.2}
def fZ{X:Cx}{x:Str}{pos:Pos}{ps:Aag}{sc:Scope}(i:Nat)(S:bZ X.N ps sc)(hi:X.N[i]?=some x:=by rfl)(hx:X.env.scope.names.lookup x=some .local:=by rfl):PG X (.Name x pos) (xq i):=sJ S.nd hi (Or.inl hx) (Or.inr hx)
def dE{X:Cx}{x:Str}{pos pos':Pos}{e:Expr}{te:TE}{ps:Aag}{sc:Scope}(i:Nat)(S:bZ X.N ps sc)(he:PE X e te)(hi:X.N[i]?=some x:=by rfl)(hx:X.env.scope.names.lookup x=some .local:=by rfl)(hs:swapsWith e (some (.Name x pos')) pos.line X.env=pure false:=by rfl):PS X (.Assign [.Name x pos'] e pos) (VR te (xq i)):=kx S.nd hi (Or.inl hx) he hs (Or.inr hx)
theorem JD{kindOf:Str->Option NameKind}:∀{binds:List (Str×Value)}{m:Aac},(∀v,(x,v)∉binds)->bindL kindOf binds m x=m x
 |[],_,_=>rfl
 |(n,v)::r,m,h=>by
  unfold bindL;rw[JD λw hw=>h w (aG _ hw)];split
  ·have:x≠n:=by rintro rfl;exact h v aF
   simp[this]
  ·rfl
theorem JF{kindOf:Str->Option NameKind}:∀{binds:List (Str×Value)}{m:Aac},(∀v,(x,v)∉binds)->bindC kindOf binds m x=m x
 |[],_,_=>rfl
 |(n,v)::r,m,h=>by
  unfold bindC;rw[JF λw hw=>h w (aG _ hw)];split
  ·rfl
  ·have:x≠n:=by rintro rfl;exact h v aF
   simp[this]
theorem JE{kindOf:Str->Option NameKind}:∀{P:Aag}{vs:Aaf}{i:Nat}{m:Aac},P.Nodup->P[i]?=some x->vs[i]?=some v->kindOf x=some .local->
  bindL kindOf (P.zip vs) m x=some v
 |[],_,_,_,_,h,_,_=>by simp at h
 |_::_,[],_,_,_,_,h,_=>by simp at h
 |p::P,w::vs,0,m,nd,h1,h2,hk=>by simp at h1 h2;subst h1;subst h2;show bindL kindOf ((p,w)::P.zip vs) m p=_;unfold bindL;rw[JD λv hv=>(dg.mp nd).1 (xy hv).1,aK hk];simp
 |p::P,w::vs,i+1,m,nd,h1,h2,hk=>by unfold bindL;exact JE (dg.mp nd).2 (by simpa using h1) (by simpa using h2) hk
theorem JG{kindOf:Str->Option NameKind}:∀{P:Aag}{vs:Aaf}{i:Nat}{m:Aac},P.Nodup->P[i]?=some x->vs[i]?=some v->kindOf x≠some .local->
  bindC kindOf (P.zip vs) m x=some v
 |[],_,_,_,_,h,_,_=>by simp at h
 |_::_,[],_,_,_,_,h,_=>by simp at h
 |p::P,w::vs,0,m,nd,h1,h2,hk=>by simp at h1 h2;subst h1;subst h2;show bindC kindOf ((p,w)::P.zip vs) m p=_;unfold bindC;rw[JF λv hv=>(dg.mp nd).1 (xy hv).1,aH hk];simp
 |p::P,w::vs,i+1,m,nd,h1,h2,hk=>by unfold bindC;exact JG (dg.mp nd).2 (by simpa using h1) (by simpa using h2) hk
def start(N:Aag)(vs:Aan):St:=vs.map some++List.replicate (N.length -vs.length) none
noncomputable def Ng(CX:NA)(P:Program)(w:World)(K:Frag)(mg:Aac)(base:Heap)(N:Aag)(qual:Str)(scope:Scope)(f:Addr)(cd:Value)(A:Around)(outer:List Env)(s:Shared)(H:Hp)(E:XK):Cx where
 prog:=P
 w:=w
 K:=K
 mg:=mg
 base:=base
 A:=A.deeper (envOfC qual scope s.heap.objs.size f cd)
 N:=N
 aac:=s
 aae:=H
 env:=envOfC qual scope s.heap.objs.size f cd
 outer:=outer
 stack:=envOfC qual scope s.heap.objs.size f cd::outer
 ex:=[]
 calm:=true
 fn:=λ_=>true
 pn:=[]
 xe:=λe s'=>wpAny 661 (A.deeper (envOfC qual scope s.heap.objs.size f cd)) (leaving (envOfC qual scope s.heap.objs.size f cd) e) (λ_ s''=>CX outer H s E e s'') (λe' s''=>CX outer H s E e' s'') s'
def Nl{sc:Scope}(h:sc.names.lookup x=some .cell):∃c,(cellsFrom n sc.names []).lookup x=some c:=by exact wC.mp (yn sc.names n [] (.inl h))
def T9{K:Frag}
  (S:bZ N ps scope) (hd:A.handled=none) (e0:Il P w K mg base A outer s H) (hl:vs.length=ps.length) (r:Vals vs us)
  (x:InCallC s s.heap.objs.size (bindL (envOfC qual scope s.heap.objs.size f cd).kindOf (ps.zip us) λ_=>none) (cellsFrom 646 scope.names []) (bindC (envOfC qual scope s.heap.objs.size f cd).kindOf (ps.zip us) λ_=>none) s1):
  Inv (Ng CX P w K mg base N qual scope f cd A outer s H E) [] (start N vs) H s1:=by
 have jM:ps.length<=N.length:=by have:=cP List.length S.pre;rw[aZ]at this;lia
 obtain⟨h1,tk,rfl,hk⟩:=x.done;have Tq:∀b:Addr,b∉(Ng CX P w K mg base N qual scope f cd A outer s H E).ex:=λb z=>absurd (show b∈([]:Aai)from z) 59;refine{{e0.mod,S.kind,9,9,aw _,λy z c h1 h2=>?_,λy hy=>?_,λy c _ h=>?_,λ_=>hd,Around.frames_deeper e0.frames,.inr ⟨rfl,rfl⟩,λb z=>absurd z (Tq b),e0.bs,e0.A5,λb _ _=>Tq b,λb z=>absurd z (Tq b),e0.sR,e0.Jp},
  rfl,e0.bare,Un.kept hk,{_,x.toInCall.ns,λi y v h1 h2 h3=>?_},λy c h=>{_,x.cell y c h},e0.bP.fresh (aw _),λy c h=>?_,λp hp=>absurd (show p∈([]:Aab)from hp) 59,e0.bP.kept hk,?_}
 ·exact name_of_addr x.apart (kK h1) (kK h2)
 ·have hy:=hy;rcases hy with hy|hy
  ·exact Nl hy
  ·exact absurd rfl (S.ac2 _ (kK hy))
 ·exact bC (x.above y c (kK h))
 ·have hi:i<vs.length:=by
   unfold start at h2;by_cases hi:i<vs.length
   ·exact hi
   ·rw[h9 (by simpa using hi)]at h2;rw[wZ]at h2;split at h2<;>cases h2
  have ha:vs[i]?=some v:=by
   unfold start at h2;rw[ke (by simpa using hi),aX]at h2;cases e:vs[i]? with
   |none=>rw[e]at h2;cases h2
   |some a=>rw[e]at h2;cases h2;rfl
  obtain⟨u,hu,rv⟩:=r.get ha;have hp:ps[i]?=some y:=by rw[<-S.pre,wI ∅];exact h1
  have ndP:ps.Nodup:=by rw[<-S.pre];exact S.nd.sublist (DP _ _)
  refine{u,rv,?_};rcases S.par y (aA hp)with k|k
  ·exact .inl {k,JE ndP hp hu k}
  ·obtain⟨c,e⟩:=Nl k;refine .inr {.inl k,c,e,?_};have q:=x.cell y c e;rw[JG ndP hp hu (by show scope.names.lookup y≠_;rw[k];decide)]at q;exact q
 ·exact e0.bP.fresh (bC (x.above y c (kK h)))
 ·unfold start;show _=N.length;rw[aC,ah,gx];lia
def afb{K:Frag}{dV kV doc pm cT ct oc:Value}
     (lk:K.lookup f=some {oc,od,.func (fnOf name qual params body scope dV kV doc pm an cT ct),AW}) (Cf:codeIn K cT qual=true) (S:bZ N ps scope)
  (len:∀vs H Q E,sp vs H Q E->vs.length=ps.length)
  (Q5:∀(A:Around)(outer:List Env)(s:Shared)(H:Hp)(vs:Aan)(Q:VK)(E:XK),iD k (A.deeper (envOfC qual scope s.heap.objs.size f cT))->sp vs H Q E->
   ∃t,rF (Ng CX P w K mg base N qual scope f cT A outer s H E) body t/\t {nx:=λ_ H'=>Q .cz H',rt:=Q} (start N vs) H):
  cK P w K mg base CX (k+1) f (fnOf name qual params body scope dV kV doc pm an cT ct) ps sp:=by
 refine{len,λA outer s H args us vs Q E hr e0 hb r Jd=>?_};have hl:=len _ _ _ _ Jd;have KX:=e0.mod.TY.keeps λb o e=>(e0.bs b o e).1;have ae3:∀y∈ps.zip us,scope.names.lookup y.1=some .local\/(scope.names.lookup y.1=some .cell/\((cellsFrom 646 scope.names []).lookup y.1).isSome=true):=λ⟨n,v⟩ hy=>by
  rcases S.par n (xy hy).1 with q|q
  ·exact .inl q
  ·exact .inr {q,yn _ _ _ (.inl q)}
 refine codeAny_call_function hr.depth (KX _ _ lk) rfl S.co S.gen rfl (PySem.W.codeRec_of KX Cf) (hb _ _ _ _ ?_);refine wpAny_newFunctionEnv_cells S.kind ae3 λenv he s1 x=>?_;subst he;refine{(e0.mod.nolimit.keeps λb o e=>(e0.bs b o e).1).keeps x.toInCall.keep,codeAny_func ?_};obtain⟨t,ht,hq⟩:=Q5 A outer s H vs Q E (hr.deeper _) Jd;refine dy (ht [] s1 (start N vs) H _ (T9 S hr.hd e0 hl r x) hq) (λfl s' hs=>?_) λe s' hs=>hs;have fin:∀{σ':St}{H':Hp}{v:V}{u:Value},Inv (Ng CX P w K mg base N qual scope f cT A outer s H E) [] σ' H' s'->RelV v u->Q v H'->CE outer P w H s Q u s':=
  λ{σ' H' v u} J rv q=>{v,H',J.os,J.bare,J.base,J.bP,rv,q}
 cases fl with
 |ret u=>
  obtain⟨v,σ',H',J,rv,q⟩:=hs;exact fin J rv q
 |next=>
  obtain⟨σ',H',J,q⟩:=hs;exact fin (v:=V.cz) J rfl q
 |brk=>
  obtain⟨_,_,_,q⟩:=hs;exact False.elim q
 |cont=>
  obtain⟨_,_,_,q⟩:=hs;exact False.elim q
section
variable{X:Cx}{x:Str}{p pos:Pos}{e:Expr}{es:List Expr}{t:TA}{id T:String}{r:Aan->Hp->VK->Prop}
def tCB(r:Aan->Hp->VK->Prop)(t:TA):TE:=λZ H Q=>t Z H λvs H1=>r vs H1 Q
def bN(hc:ic X (.builtin id) r)(hg:Gl X x)(hm:X.mg x=none)(hv:bootBuiltins x=some (.builtin id))(ha:PA X (e::es) t)(hn:x≠"__name__":=by decide)(Cd:658=false:=by decide)
  (he:starEach (e::es) X.env=(false,eval e X.env)::starEach es X.env:=by rfl) (jM:(backTo pos 709).any (·.1)=false:=by rfl):PE X 704 (tCB r t):=by
 intro pins s Z H Q I h;exact nN (qY I hg hm hv (PyProof.Rows.callWith_builtin1 (sD (ha pos pins s Z H _ I h) λus s1 vs H1 I1 r1 q1=>hc pins s1 Z H1 vs us Q I1 r1 q1) he jM) hn Cd)
def cQ(hc:ic X (.type T) r)(hg:Gl X x)(hm:X.mg x=none)(hv:bootBuiltins x=some (.type T))(ha:PA X (e::es) t)(hn:x≠"__name__":=by decide)(Cd:658=false:=by decide)
  (he:starEach (e::es) X.env=(false,eval e X.env)::starEach es X.env:=by rfl) (jM:(backTo pos 709).any (·.1)=false:=by rfl):PE X 704 (tCB r t):=by
 intro pins s Z H Q I h;exact nN (qY I hg hm hv (eG (sD (ha pos pins s Z H _ I h) λus s1 vs H1 I1 r1 q1=>hc pins s1 Z H1 vs us Q I1 r1 q1) he jM) hn Cd)
end
end L2
namespace HT
open PySem PyProof.Rows
section
open PySem.SeqAt
open PySem.AutoSeq1 (wpAny_loadPart')
open PySem.MeetsSeq PySem.MeetsSeq2 PySem.MeetsSeq3
end
section
variable{prog:Program}{w:World}{A:Around}{E:Aad}{s:Shared}
def abT(ht:IsTup s.heap t vs.toArray)(hb:IsTup s.heap b ws.toArray)(hv:vs≠[])
  (h1:ws=[]->Q (.ref t) s) (h2:ws≠[]->Q 352 {s with heap:=s.heap.push {cls:=.type "tuple",data:=.seq (vs++ws).toArray}})
  (hsz:vs.length+ws.length<=sizeLine):wpAny 58 A (binaryOp .Add (.ref t) (.ref b)) Q E s:=by
 obtain⟨⟨cls,dd,data,sl⟩,ho,hc,n,hd⟩:=id ht;obtain⟨⟨ahd,ZW,data2,Yy⟩,uR,ub,n2,hd2⟩:=id hb;simp only at hc hd ub hd2;subst hc hd ub hd2;have e:vs.toArray++ws.toArray=(vs++ws).toArray:=by simp
 by_cases hw:ws=[]
 ·exact Ct ⟨_,ho,rfl⟩ ⟨_,uR,rfl⟩ vT AQ pR pz (oA _ _)
   (tuple_addW1 t b vs.toArray ws.toArray n n2 dd ZW sl Yy (by simpa using hv) (by simp[hw])) {ho,uR,h1 hw}
 ·refine Ct ⟨_,ho,rfl⟩ ⟨_,uR,rfl⟩ vT AQ pR pz (oA _ _)
   (tuple_addW2 t b vs.toArray ws.toArray n n2 dd ZW sl Yy (by simpa using hv) (by simpa using hw) (by rw[aP,aP];exact hsz)) {ho,uR,?_}
  rw[e];exact h2 hw
def eE(n d:Nat):Option Int->Nat
 |none=>d
 |some v=>if v<0 then(v+(n:Int)).toNat else min v.toNat n
def zS(n d:Nat):eE n d none=d:=9
def Dd(n d k:Nat):eE n d (some (k:Int))=min k n:=by show(if(k:Int)<0 then((k:Int)+(n:Int)).toNat else min (k:Int).toNat n)=min k n;rw[aH ∅,eR]
def PN(v:Int)(n d:Nat):(if v<0 then max (v+(n:Int)) 0 else min v (n:Int))=((eE n d (some v):Nat):Int):=by
 show(if v<0 then max (v+(n:Int)) 0 else min v (n:Int))=(((if v<0 then(v+(n:Int)).toNat else min v.toNat n):Nat):Int);by_cases hv:v<0
 ·simp only[aK hv];lia
 ·simp only[aH hv];lia
def RK(lo hi:Option Int)(n:Nat):Builtin.Slice.sliceAdjust lo hi 1 (n:Int)=(((eE n 0 lo:Nat):Int),((eE n n hi:Nat):Int)):=by
 have h1:¬((1:Int)<0):=by lia
 unfold Builtin.Slice.sliceAdjust;refine Fo ?_ ?_
 ·cases lo with
  |none=>rfl
  |some v=>exact PN v n 0
 ·cases hi with
  |none=>rfl
  |some v=>exact PN v n n
def Qp(i j:Nat):Builtin.Slice.slicePlaces (i:Int) (j:Int) 1=j -i:=by
 unfold Builtin.Slice.slicePlaces;have h1:(1:Int)>0:=by lia
 split<;>lia
def FE{v:Value}{o:Option Int}{Q:Option Int->Shared->Prop}(p:IsPart v o)(h:Q o s):wpAny 58 A (Builtin.Slice.slicePartIndex v) Q E s:=by
 cases p with
 |none=>exact slicePart_none h
 |int i t=>exact slicePart_int h
def vG{sl:Addr}{vl vu:Value}{lo hi:Option Int}{n:Nat}{Q:Int×Int×Nat->Shared->Prop}(hs:s.heap.IsSliceOf sl vl vu .none)(pl:IsPart vl lo)(pu:IsPart vu hi)
  (h:Q (((eE n 0 lo:Nat):Int),1,eE n n hi -eE n 0 lo) s):wpAny 58 A (Builtin.Slice.sliceApplied (.ref sl) (pure (n:Int))) Q E s:=by
 obtain⟨os,Mo,ZG,UC⟩:=id hs;refine ae (ae (dq Mo UC 9 (ae (dq Mo UC 9 (ae (dq Mo UC 9 660))))));refine ae (slicePart_none ?_);refine ae (FE pl (ae (FE pu (ae 660))));show wpAny _ _ (match Builtin.Slice.sliceAdjust lo hi 1 (n:Int)with|(lo,hi)=>pure (lo,(1:Int),Builtin.Slice.slicePlaces lo hi 1)) _ _ s;rw[RK lo hi n];show wpAny _ _ (pure (((eE n 0 lo:Nat):Int),(1:Int),Builtin.Slice.slicePlaces ((eE n 0 lo:Nat):Int) ((eE n n hi:Nat):Int) 1)) _ _ s;rw[Qp];exact ao h
def Wl(xs:Aak)(i k:Nat):((List.range k).filterMap λ(m:Nat)=>xs[((i:Int)+(m:Int)*1).toNat]?).toArray=((xs.toList.drop i).take k).toArray:=by
 have e:(λ(m:Nat)=>xs[((i:Int)+(m:Int)*1).toNat]?)=λm=>xs[i+m]?:=by
  funext m;have:((i:Int)+(m:Int)*1).toNat=i+m:=by lia
  rw[this]
 rw[e];have:=pick_run xs i k;rw[uh]at this;have e2:((λx=>xs[x]?)∘λx=>i+x)=λm=>xs[i+m]?:=9;rw[e2]at this;rw[this]
def DH{t sl:Addr}{items:Aak}{vl vu:Value}{lo hi:Option Int}{Q:Aad}(ht:IsTup s.heap t items)(hs:s.heap.IsSliceOf sl vl vu .none)(pl:IsPart vl lo)(pu:IsPart vu hi)
  (hw:¬(eE items.size 0 lo=0/\eE items.size items.size hi=items.size))
  (h:Q 352 {s with heap:=s.heap.push {cls:=.type "tuple",data:=.seq ((items.toList.drop (eE items.size 0 lo)).take 657).toArray}})
  (hsz:items.size<=sizeLine):wpAny 58 A (getItem (.ref t) (.ref sl)) Q E s:=by
 have Kc:sizeOk (.seq ((items.toList.drop (eE items.size 0 lo)).take 657).toArray):=by show((items.toList.drop (eE items.size 0 lo)).take 657).toArray.size<=sizeLine;rw[aP,aZ,dD,bI];lia
 obtain⟨os,Mo,ZG,UC⟩:=id hs;unfold getItem
 try with_reducible refine cm ?_
 first|refine ae (ao ?_)|skip
 refine ae (DD ht.typeIs 7 ?_);refine ae (wpAny_callSpecial?_slot ht.typeIs eS
  (b6 eS ht.typeIs Bc ?_ (CG _ _)))
 show wpAny _ _ (Builtin.Tuple.tupleItemsOf (.ref t)>>=_) _ _ s;refine ae (tupleItemsOf_ ht ?_);refine ae (gX (⟨os,Mo,ZG⟩) ?_);refine ae (vG hs pl pu ?_);have za:¬(653=true):=by intro q;rw[bO,bO]at q;have q1:=dO q.1.1;have q2:=dO q.2;exact hw {8,8}
 show wpAny _ _ (if 653=true then _ else _) _ _ s;rw[aH za,Wl]
 first
  |exact ae (cM (ao ⟨_,rfl,ao h⟩) Kc)
  |exact ae (cM (ae (ao (ao ⟨_,rfl,ao h⟩))) Kc)
  |exact ae (ae (cM (ao (ao ⟨_,rfl,ao h⟩)) Kc))
  |exact ae (ae (cM (ao ⟨_,rfl,ao h⟩) Kc))
end
end HT
namespace L2
open PySem PySem.Spec PyProof.Rows
abbrev TO:=St->Hp->(Option Int->Hp->Prop)->Prop
def PO(X:Cx)(e:Option Expr)(t:TO):Prop:=
 ∀(pins:Aab)(s:Shared)(Z:St)(H:Hp)(Q:Option Int->Hp->Prop),Inv X pins Z H s->t Z H Q->
  wpAny 56 X.A (evalPart e X.env) (λu s'=>∃o H',Inv X pins Z H' s'/\IsPart u o/\Q o H') X.xe s
def Ol:TO:=λ_ H Q=>Q none H
inductive ach(Q:Option Int->Hp->Prop)(x:V)(H1:Hp):Prop
 |mk i (_:x=.int i) (_:Q (some i) H1)
def aev(t:TE):TO:=λZ H Q=>t Z H λx H1=>ach Q x H1
section
variable{X:Cx}{e:Expr}{te:TE}{lo hi:Option Expr}{tl th:TO}{pos p2:Pos}
def oR:PO X none Ol:=by intro pins s Z H Q I h;exact ao {none,H,I,.none,h}
def oQ(h:PE X e te):PO X (some e) (aev te):=by intro pins s Z H Q I hw;refine de (h pins s Z H _ I hw) λu s1 x H1 I1 r1 q1=>?_;obtain⟨i,rfl,q⟩:=q1;obtain⟨t,rfl⟩:=r1;exact{some i,H1,I1,.int i t,q}
def PU(X:Cx)(r:V->Option Int->Option Int->Hp->VK->Prop):Prop:=
 ∀(pins:Aab)(s:Shared)(Z:St)(H:Hp)(x:V)(v vl vu:Value)(lo hi:Option Int)(sl:Addr)(Q:VK),Inv X pins Z H s->RelV x v->s.heap.IsSliceOf sl vl vu .none->IsPart vl lo->IsPart vu hi->r x lo hi H Q->
  ∃T id,typeLookup (.type T) "__getitem__"=pure (some (.builtin id))/\s.TypeIs v T/\wpAny 56 X.A (getItem v (.ref sl)) 706 X.xe s
def tSl(r:V->Option Int->Option Int->Hp->VK->Prop)(te:TE)(tl th:TO):TE:=λZ H Q=>te Z H λx H1=>tl Z H1 λl H2=>th Z H2 λu H3=>r x l u H3 Q
def mJ(hr:PU X r)(he:PE X e te)(hl:PO X lo tl)(hu:PO X hi th):PE X (.Subscript e (.Slice lo hi none p2) pos) (tSl r te tl th):=by intro pins s Z H Q I h;refine GL (de 730 λv s1 x H1 I1 r1 q1=>?_);refine wpAny_Slice (gj (hl pins s1 Z H1 _ I1 q1) λvl s2 WX=>?_);obtain⟨l,H2,I2,pl,q2⟩:=WX;refine gj (hu pins s2 Z H2 _ I2 q2) λvu s3 agu=>?_;obtain⟨u,H3,I3,pu,q3⟩:=agu;refine ao ?_;have I4:Inv X pins Z H3 {s3 with heap:=s3.heap.push {cls:=.type "slice",data:=.fields #[vl,vu,.none]}}:=I3.kept λb ob q=>aj _ q;obtain⟨T,id,hT,ht,hg⟩:=hr pins {s3 with heap:=s3.heap.push {cls:=.type "slice",data:=.fields #[vl,vu,.none]}} Z H3 x v vl vu l u s3.heap.objs.size Q I4 r1 (Heap.IsSliceOf.new ..) pl pu q3;exact tail_any ht hT hg 649
def lD(xs:Aan)(lo hi:Option Int):Aan:=(xs.drop (HT.eE xs.length 0 lo)).take (HT.eE xs.length xs.length hi -HT.eE xs.length 0 lo)
def tL(xs:Aan)(lo hi:Option Int):(lD xs lo hi).length<=xs.length:=by unfold lD;rw[aZ,dD];lia
def afE(K:Frag):V->Option Int->Option Int->Hp->VK->Prop:=λx lo hi H Q=>∃a xs,x=.ref a/\aY K H a xs/\
 ¬(HT.eE xs.length 0 lo=0/\HT.eE xs.length xs.length hi=xs.length)/\∀p,H p=none->Q 666 (upd H p (.tup (lD xs lo hi)))
def acs:PU X (afE X.K):=by intro pins s Z H x v vl vu lo hi sl Q I rx hs pl pu h;obtain⟨a,xs,rfl,hx,hw,q⟩:=h;cases rx;obtain⟨a9,r,ht,hz⟩:=I.tuple hx;have hlen:a9.toArray.size=xs.length:=aP▸r.length.symm;refine{"tuple",_,eS.lookup,ht.typeIs,?_};refine HT.DH ht hs pl pu (hlen▸hw) ?_ (hlen▸hz);rw[hlen];refine{352,_,I.laid (λb ob q=>aj _ q) (aw _) ?_,9,q _ 677};exact{br (tL xs lo hi) hz,_,(r.drop (HT.eE xs.length 0 lo)).take (HT.eE xs.length xs.length hi -HT.eE xs.length 0 lo),IsTup.new _ _,_,676,9}
def Vals.yR(r:Vals xs us):us=[]↔xs=[]:=by
 cases r with
 |nil=>simp
 |cons _ _=>simp
def F2(n:Nat)(i:Int):Option Nat:=if 0<=i then(if i<n then some i.toNat else none)else if -(n:Int)<=i then some (i+n).toNat else none
def sd(xs:List α)(i:Int):Option α:=(F2 xs.length i).bind λj=>xs[j]?
def HI(h:F2 n i=some j):seqIndex? i n=some j/\j<n/\-(n:Int)<=i/\i<n:=by
 unfold F2 at h;by_cases h0:0<=i
 ·rw[aK h0]at h;by_cases h1:i<n
  ·rw[aK h1]at h;have e:=bT h;exact{by rw[D5 h0 h1,e],8,8,h1}
  ·rw[aH h1]at h;cases h
 ·rw[aH h0]at h;by_cases h1:-(n:Int)<=i
  ·rw[aK h1]at h;have e:=bT h;exact{by rw[Bu ∅ h1,e],8,h1,8}
  ·rw[aH h1]at h;cases h
def Ic(h:sd xs i=some v):∃j,seqIndex? i xs.length=some j/\xs[j]?=some v/\j<xs.length/\-(xs.length:Int)<=i/\i<xs.length:=by
 unfold sd at h;cases e:F2 xs.length i with
 |none=>rw[e]at h;cases h
 |some j=>
  rw[e]at h;obtain⟨h1,h2,h3,h4⟩:=HI e;exact⟨j,h1,h,h2,h3,h4⟩
def gW{xs:List α}{j:Nat}{v:α}(h:xs[j]?=some v):sd xs (j:Int)=some v:=by
 have hj:=(aq.mp h).1;have e:F2 xs.length (j:Int)=some j:=by unfold F2;rw[aK ∅,aK ∅];simp
 unfold sd;rw[e];exact h
def ab0(b:Expr):Prop:=∀o i,subscripted b false o i=operate [o,i] (getItem o i)
end
def PY(X:Cx)(r:R2):Prop:=
 ∀(value slice:Expr)(pins:Aab)(s:Shared)(Z:St)(H:Hp)(x y:V)(v u:Value)(Q:VK),Inv X pins Z H s->RelV x v->RelV y u->r x y H Q->
  subscripted slice false v u=operate [v,u] (getItem v u)->wpAny 56 X.A (subscriptTail value slice v u) 706 X.xe s
def Z7(X:Cx)(id:String)(r:V->Aan->Hp->VK->Prop):Prop:=
 ∀(pins:Aab)(s:Shared)(Z:St)(H:Hp)(x:V)(xs:Aan)(v:Value)(us:Aaf)(Q:VK),Inv X pins Z H s->RelV x v->Vals xs us->r x xs H Q->
  wpAny 56 X.A (call (.builtin id) (v::us)) 706 X.xe s
section
variable{X:Cx}{a b:Expr}{ta tb:TE}{pos:Pos}
def bF(hr:PY X r)(ha:PE X a ta)(hb:PE X b tb)(hs:ab0 b):PE X (.Subscript a b pos) (Yl r ta tb):=by intro pins s Z H Q I h;exact GL (XZ ha hb I h λv u s2 x y H2 I2 rx ry q=>hr a b pins s2 Z H2 x y v u Q I2 rx ry q (hs _ _))
inductive acG(K:Frag)(x:V)(y:V)(H:Hp)(Q:VK):Prop
 |mk p xs i v (_:x=.ref p) (_:y=.int i) (_:bf K H p xs) (_:sd xs i=some v) (_:Q v H)
inductive acF(K:Frag)(x:V)(y:V)(H:Hp)(Q:VK):Prop
 |mk p xs i v (_:x=.ref p) (_:y=.int i) (_:aY K H p xs) (_:sd xs i=some v) (_:Q v H)
inductive afH(x:V)(y:V)(H:Hp)(Q:VK):Prop
 |mk z i c (_:x=.str z) (_:y=.int i) (_:z.length<=sizeLine) (_:sd z.cps.toList i=some c) (_:Q (.str ⟨#[c]⟩) H)
def eF:PY X (acG X.K):=by
 intro value slice pins s Z H x y v u Q I rx ry h hs;obtain⟨p,xs,i,z,rfl,rfl,hq,he,q⟩:=h;cases rx;obtain⟨t,rfl⟩:=ry;obtain⟨a9,r,pl,hz⟩:=I.list hq;obtain⟨j,h1,h2,h3,h4,h5⟩:=Ic he;obtain⟨w,ew,nX⟩:=r.get h2;have hl:=r.length;have hn:=yT;have fin:EP X pins Z Q w s:=⟨z,H,I,nX,q⟩;by_cases h0:0<=i
 ·have hj:i.toNat=j:=by rw[D5 h0 h5]at h1;exact bT h1
  exact item_listR pl.isList h0 ∅ (by rw[hj];simpa using ew) fin hs
 ·have hj:(i+(a9.toArray.size:Int)).toNat=j:=by rw[Bu ∅ h4]at h1;rw[aP,<-hl];exact bT h1
  exact xH pl.isList.typeIs slot_list_getitem.lookup
   (wpAny_getItem_list_neg pl.isList ∅ (by rw[aP]<;>lia) ∅ (by rw[hj];simpa using ew) ⟨rfl,fin⟩) hs
def bY:PY X (acF X.K):=by
 intro value slice pins s Z H x y v u Q I rx ry h hs;obtain⟨p,xs,i,z,rfl,rfl,hq,he,q⟩:=h;cases rx;obtain⟨t,rfl⟩:=ry;obtain⟨a9,r,pl,hz⟩:=I.tuple hq;obtain⟨j,h1,h2,h3,h4,h5⟩:=Ic he;obtain⟨w,ew,nX⟩:=r.get h2;have hn:=yT;exact xH pl.typeIs slot_tuple_getitem.lookup
  (getItem_tuple pl ∅ ∅ (by rw[aP,<-r.length];exact h1) (by simpa using ew) {9,(⟨z,H,I,nX,q⟩)}) hs
def F1:PY X afH:=by
 intro value slice pins s Z H x y v u Q I rx ry h hs;obtain⟨z,i,c,rfl,rfl,hz,he,q⟩:=h;obtain⟨t,rfl⟩:=rx;obtain⟨t',rfl⟩:=ry;obtain⟨j,h1,h2,h3,h4,h5⟩:=Ic he;have hl:z.cps.toList.length=z.length:=by simp[Str.length]
 rw[hl]at h1 h4 h5;have hn:=yT;exact tail_any (oM s z t) slot_str_getitem.lookup (getItem_str (by
  rw[(cA ∅),(cA ∅),A9]) (by rw[h1];simpa using h2) {.str ⟨#[c]⟩,H,680,723,q}) hs
def QG(a9:Aaf)(n j:Nat)(u:Value):Obj.mapSeq (·.setIfInBounds j u) {cls:=.type "list",data:=.seq a9.toArray n}={cls:=.type "list",data:=.seq (a9.set j u).toArray n}:=by simp[Obj.mapSeq]
def Inv.lst(I:Inv X pins Z H s)(h:H p=some (.lst xs)):
  ∃(a9:Aaf)(n:Nat),Vals xs a9/\s.heap.get? p=some {cls:=.type "list",data:=.seq a9.toArray n}/\xs.length<=sizeLine:=by
 obtain⟨z,a9,n,r,e⟩:=I.bP p _ h;exact⟨a9,n,r,e,z⟩
def Inv.ada{a9 its':Aaf}(I:Inv X pins Z H s)(h:H p=some (.lst xs))
  (ho:s.heap.get? p=some {cls:=.type "list",data:=.seq a9.toArray n}) (hf:f {cls:=.type "list",data:=.seq a9.toArray n}={cls:=.type "list",data:=.seq its'.toArray n'}) (r:Vals ys its') (hz:ys.length<=sizeLine) (t:Nat):
  Inv X pins Z (upd H p 682) {s with heap:=s.heap.update p f,toks:=t}:=by
 have e:(s.heap.update p f).get? p=some {cls:=.type "list",data:=.seq its'.toArray n'}:=by rw[eK f ho (by rw[hf]<;>rfl),hf]
 refine I.write (by rw[h];trivial) (.inl 9) (λb u hb q=>(cv _ _ (cL hb)).trans q) ⟨_,e⟩ ?_;exact⟨hz,its',n',r,e⟩
inductive aeK(o:V)(i:V)(v:V)(H:Hp)(Q:Hp->Prop):Prop
 |mk p xs k j (_:o=.ref p) (_:i=.int k) (_:H p=some (.lst xs)) (_:F2 xs.length k=some j) (_:Q (upd H p (.lst (xs.set j v))))
def set_list:aek X aeK:=by
 intro pins s Z H o i v ov iv u Q I ro ri rv h;obtain⟨p,xs,k,j,rfl,rfl,hp,hj,q⟩:=h;cases ro;obtain⟨t,rfl⟩:=ri;obtain⟨a9,n,r,ho,hz⟩:=I.lst hp;obtain⟨h1,h2,h3,h4⟩:=HI hj;have hl:=r.length;have hn:=yT;have I':Inv X pins Z (upd H p (.lst (xs.set j v))) {s with heap:=s.heap.update p (Obj.mapSeq (·.setIfInBounds j u))}:=
  I.ada hp ho (QG a9 n j u) (r.set rv j) (by rw[xA];exact hz) s.toks
 by_cases h0:0<=k
 ·have hk:k.toNat=j:=by rw[D5 h0 h4]at h1;exact bT h1
  exact PySem.W.ki_setAt ho h0 ∅ (by rw[aP,<-hl];exact h4) (by rw[hk];exact⟨_,I',q⟩)
 ·have hk:(k+(a9.toArray.size:Int)).toNat=j:=by rw[Bu ∅ h3]at h1;rw[aP,<-hl];exact bT h1
  exact PySem.W.ki_setBack ho ∅ (by rw[aP,<-hl];exact h3) ∅ (by rw[hk];exact⟨_,I',q⟩)
def KS(lo hi:Option Int)(n:Nat):(sliceBounds lo hi none n).1=((HT.eE n 0 lo:Nat):Int)/\(sliceBounds lo hi none n).2.1=((HT.eE n n hi:Nat):Int)/\(sliceBounds lo hi none n).2.2=1:=by
 refine{?_,?_,9}
 ·cases lo with
  |none=>simp[sliceBounds,HT.eE]
  |some i=>
   simp only[sliceBounds,HT.eE,Option.getD_none,show(1:Int)>0 by decide,oY];by_cases h:i<0
   ·simp only[h,oY]<;>lia
   ·simp only[h,kA]<;>lia
 ·cases hi with
  |none=>simp[sliceBounds,HT.eE]
  |some i=>
   simp only[sliceBounds,HT.eE,Option.getD_none,show(1:Int)>0 by decide,oY];by_cases h:i<0
   ·simp only[h,oY]<;>lia
   ·simp only[h,kA]<;>lia
def JN(a9:Aaf)(lo hi:Option Int):slicePick a9.toArray lo hi none=((a9.drop (HT.eE a9.length 0 lo)).take (HT.eE a9.length a9.length hi -HT.eE a9.length 0 lo)).toArray:=by obtain⟨h1,h2,h3⟩:=KS lo hi a9.toArray.size;unfold slicePick;rw[h1,h2,h3];simp only[sliceRange_one,pick_run,aP]<;>rfl
inductive acC(K:Frag)(x:V)(lo:Option Int)(hi:Option Int)(H:Hp)(Q:VK):Prop
 |mk a xs (_:x=.ref a) (_:bf K H a xs) (_:∀p,H p=none->Q (.ref p) (upd H p (.lst (lD xs lo hi))))
def yI:PU X (acC X.K):=by intro pins s Z H x v vl vu lo hi sl Q I rx hs pl pu h;obtain⟨a,xs,rfl,hx,q⟩:=h;cases rx;obtain⟨a9,r,ht,hz⟩:=I.list hx;have hlen:=r.length;refine{"list",_,slot_list_getitem.lookup,ht.isList.typeIs,?_};refine wpAny_getItem_list_slice ht.isList hs pl pu .none 59 ?_ (by rw[aP]<;>lia);rw[JN,<-hlen];refine{352,_,I.laid (λb ob q=>aj _ q) (aw _) ?_,9,q _ 677};exact{br (tL xs lo hi) hz,_,0,(r.drop (HT.eE xs.length 0 lo)).take (HT.eE xs.length xs.length hi -HT.eE xs.length 0 lo),676}
def tK:V->Bool
 | .cz=>true
 | .bl _=>true
 | .int _=>true
 | .str _=>true
 |_=>false
def Jq:V->V->Bool
 | .cz,.cz=>true
 | .bl a,.bl b=>a==b
 | .bl a,.int b=>(if a then 1 else 0)==b
 | .int a,.bl b=>a==(if b then 1 else 0)
 | .int a,.int b=>a==b
 | .str a,.str b=>a==b
 |_,_=>false
def ad4(ry:RelV y u)(rx:RelV x v)(fy:tK y=true)(fx:tK x=true):SeqAt.EqAt A s u v (Jq y x):=by
 cases y with
 |cz=>
  cases ry;cases x with
  |cz=>cases rx;exact SeqAt.EqAt.same _
  |bl b=>cases rx;exact SeqAt.EqAt.none_bool b
  |int b=>obtain⟨t,rfl⟩:=rx;exact SeqAt.EqAt.none_int b t
  |str b=>obtain⟨t,rfl⟩:=rx;exact SeqAt.EqAt.none_str b t
  |_=>exact absurd (show false=true from fx) bD
 |bl a=>
  cases ry;cases x with
  |cz=>cases rx;exact SeqAt.EqAt.bool_none a
  |bl b=>cases rx;exact SeqAt.EqAt.bool_bool a b
  |int b=>obtain⟨t,rfl⟩:=rx;exact SeqAt.EqAt.bool_int a b t
  |str b=>obtain⟨t,rfl⟩:=rx;exact SeqAt.EqAt.bool_str a b t
  |_=>exact absurd (show false=true from fx) bD
 |int a=>
  obtain⟨t',rfl⟩:=ry;cases x with
  |cz=>cases rx;exact SeqAt.EqAt.int_none a t'
  |bl b=>cases rx;exact SeqAt.EqAt.int_bool a t' b
  |int b=>obtain⟨t,rfl⟩:=rx;exact SeqAt.EqAt.int_int a t' b t
  |str b=>obtain⟨t,rfl⟩:=rx;exact CL a t' b t
  |_=>exact absurd (show false=true from fx) bD
 |str a=>
  obtain⟨t',rfl⟩:=ry;cases x with
  |cz=>cases rx;exact SeqAt.EqAt.str_none a t'
  |bl b=>cases rx;exact SeqAt.EqAt.str_bool a t' b
  |int b=>obtain⟨t,rfl⟩:=rx;exact CK a t' b t
  |str b=>obtain⟨t,rfl⟩:=rx;exact SeqAt.EqAt.str_str a t' b t
  |_=>exact absurd (show false=true from fx) bD
 |_=>exact absurd (show false=true from fy) bD
def wb(x:V)(u:Value):Bool:=match u with
 | .none=>Jq .cz x
 | .bool b=>Jq (.bl b) x
 | .int i _=>Jq (.int i) x
 | .str z _=>Jq (.str z) x
 |_=>false
def U5(r:RelV y u)(f:tK y=true):wb x u=Jq y x:=by
 cases y with
 |cz=>cases r;rfl
 |bl b=>cases r;rfl
 |int i=>obtain⟨t,rfl⟩:=r;rfl
 |str z=>obtain⟨t,rfl⟩:=r;rfl
 |_=>exact absurd (show false=true from f) bD
theorem zq:∀{xs:Aan}{us:Aaf},Vals xs us->xs.all tK=true->us.any (wb x)=xs.any λy=>Jq y x
 |_,_,.nil,_=>rfl
 |y::xs,u::us,.cons r t,f=>by rw[uG,bO]at f;rw[ni,ni,U5 r f.1,zq t f.2]
theorem vV(rx:RelV x v)(fx:tK x=true):∀{xs:Aan}{us:Aaf},Vals xs us->xs.all tK=true->∀u∈us,SeqAt.EqAt A s u v (wb x u)
 |_,_,.nil,_=>λu hu=>by cases hu
 |y::xs,u::us,.cons r t,f=>λu' hu=>by
  rw[uG,bO]at f;rcases aN.mp hu with rfl|hu
  ·rw[U5 r f.1];exact ad4 r rx f.1 fx
  ·exact vV rx fx t f.2 u' hu
def F6(x:V)(xs:Aan):Bool:=xs.any λy=>Jq y x
inductive YG(K:Frag)(neg:Bool)(x:V)(y:V)(H:Hp)(Q:VK):Prop
 |mk p xs (_:y=.ref p) (_:(bf K H p xs\/aY K H p xs)) (_:tK x=true) (_:xs.all tK=true) (_:Q (.bl (if neg then !F6 x xs else F6 x xs)) H)
def BO:iU X (compareOp .In) (YG X.K false):=by
 intro pins s Z H x y v u Q I rx ry h;obtain⟨p,xs,rfl,hq,fx,fs,q⟩:=h;cases ry;rcases hq with hq|hq
 ·obtain⟨a9,r,pl,hz⟩:=I.list hq;refine SeqAt.in_listAt (wb x) pl.isList (λw hw=>vV rx fx r fs w (by simpa using hw)) {.bl _,H,I,9,?_};rw[show a9.toArray.any (wb x)=a9.any (wb x) by simp,zq r fs];exact q
 ·obtain⟨a9,r,pl,hz⟩:=I.tuple hq;refine SeqAt.in_tupleAt (wb x) pl (λw hw=>vV rx fx r fs w (by simpa using hw)) {.bl _,H,I,9,?_};rw[show a9.toArray.any (wb x)=a9.any (wb x) by simp,zq r fs];exact q
def qT:iU X (compareOp .NotIn) (YG X.K true):=by
 intro pins s Z H x y v u Q I rx ry h;obtain⟨p,xs,rfl,hq,fx,fs,q⟩:=h;cases ry;rcases hq with hq|hq
 ·obtain⟨a9,r,pl,hz⟩:=I.list hq;refine SeqAt.notIn_listAt (wb x) pl.isList (λw hw=>vV rx fx r fs w (by simpa using hw)) {.bl _,H,I,9,?_};rw[show a9.toArray.any (wb x)=a9.any (wb x) by simp,zq r fs];exact q
 ·obtain⟨a9,r,pl,hz⟩:=I.tuple hq;refine SeqAt.notIn_tupleAt (wb x) pl (λw hw=>vV rx fx r fs w (by simpa using hw)) {.bl _,H,I,9,?_};rw[show a9.toArray.any (wb x)=a9.any (wb x) by simp,zq r fs];exact q
def Lv:iU X (compareOp .NotIn) (λx y H Q=>∃i j,x=.str i/\y=.str j/\Q (.bl (!(!(Builtin.Str.occurrences j i 0 j.length 1).isEmpty))) H):=by intro pins s Z H x y v u Q I rx ry h;obtain⟨i,j,rfl,rfl,q⟩:=h;obtain⟨t,rfl⟩:=rx;obtain⟨t',rfl⟩:=ry;exact notIn_str {.bl _,H,I,9,q}
def kF:ic X (.type "list") (λxs H Q=>∃p ys,xs=[.ref p]/\(bf X.K H p ys\/aY X.K H p ys)/\∀l,H l=none->Q 727 (upd H l 682)):=by
 intro pins s Z H xs us Q I r h;obtain⟨p,ys,rfl,hq,q⟩:=h;obtain⟨u,rfl,rx⟩:=jH r;cases rx;have fin:∀(a9:Aaf),Vals ys a9->ys.length<=sizeLine->∀(h':Heap)(c':Nat),(∀b o',s.heap.get? b=some o'->h'.get? b=some o')->
   h'.get? s.heap.objs.size=some {cls:=.type "list",dict:=none,data:=.seq a9.toArray c',slots:=#[]}->EP X pins Z Q 352 {s with heap:=h'}:=λa9 r' hz h' c' kp e=>
  {352,_,I.laid kp (aw _) (show dP X.prog X.w _ h' _ 682 from⟨hz,a9,c',r',e⟩),9,q _ 677}
 rcases hq with hq|hq
 ·obtain⟨a9,r',pl,hz⟩:=I.list hq;have hlen:=r'.length;obtain⟨o,ho,hc,n,hd⟩:=pl.isList;exact call_list_seq p (.inl 9) ho hc hd (λh' c' kp e=>fin a9 r' hz h' c' kp e) (by simp only[aP]<;>lia)
 ·obtain⟨a9,r',pl,hz⟩:=I.tuple hq;have hlen:=r'.length;obtain⟨o,ho,hc,n,hd⟩:=pl;exact call_list_seq p (.inr 9) ho hc hd (λh' c' kp e=>fin a9 r' hz h' c' kp e) (by simp only[aP]<;>lia)
def d8:ic X (.type "tuple") (λxs H Q=>∃p ys,xs=[.ref p]/\((bf X.K H p ys/\∀l,H l=none->Q 727 (upd H l (.tup ys)))\/(aY X.K H p ys/\Q 666 H))):=by
 intro pins s Z H xs us Q I r h;obtain⟨p,ys,rfl,h⟩:=h;obtain⟨u,rfl,rx⟩:=jH r;cases rx;rcases h with⟨hq,q⟩|⟨hq,q⟩
 ·obtain⟨a9,r',pl,hz⟩:=I.list hq;have hlen:=r'.length;refine call_tuple_list pl.isList (λh' kp=>?_) (by simp only[aP]<;>lia);have I1:=I.kept (t':=s.toks) kp;have I2:Inv X pins Z (upd H h'.objs.size (.tup ys)) {s with heap:=h'.push {cls:=.type "tuple",data:=.seq a9.toArray}}:=
   I1.laid (λb o e=>aj _ e) (aw _) (show dP X.prog X.w _ _ _ (.tup ys)from{hz,a9,r',IsTup.new _ _,_,676,9})
  exact{.ref h'.objs.size,_,I2,9,q _ 716}
 ·obtain⟨a9,r',pl,hz⟩:=I.tuple hq;exact call_tuple_same pl {666,H,I,9,q}
noncomputable def tyV(K:Frag)(T:String)(x:V)(H:Hp):Prop:=match x with
 | .str _=>T="str"
 | .int _=>T="int"
 | .ref p=>(T="list"/\∃xs,bf K H p xs)\/(T="tuple"/\((∃xs,H p=some 664)\/∃o,K.lookup p=some o/\o.cls=.type "tuple"/\o.dict=none))\/
   (T="dict"/\((∃kvs,H p=some 715)\/∃kvs,H p=some (.dT kvs)))\/(T="set"/\∃S n,H p=some (.set S n))
 |_=>False
def RZ(I:Inv X pins Z H s)(r:RelV x v)(ty:tyV X.K T x H):
  s.TypeIs v T/\∀a,v=.ref a->∃ob,s.heap.get? a=some ob/\ob.dict=none:=by
 cases x with
 |str z=>
  obtain⟨t,rfl⟩:=r;cases(show T="str"from ty);exact{oM s z t,λ_ e=>nomatch e}
 |int i=>
  obtain⟨t,rfl⟩:=r;cases(show T="int"from ty);exact{typeIs_int s i t,λ_ e=>nomatch e}
 |ref p=>
  cases r;rcases ty with⟨rfl,xs,hq⟩|⟨rfl,⟨xs,hq⟩|⟨o,hk,hc,hd⟩⟩|⟨rfl,hk⟩|⟨rfl,S,n,hk⟩
  ·obtain⟨a9,_,pl,_⟩:=I.list hq;refine{pl.isList.typeIs,λa e=>?_};cases e;obtain⟨o,n,e,c,hd,_⟩:=pl;exact⟨o,e,hd⟩
  ·obtain⟨_,_,_,⟨o1,e1,c1,_⟩,o,e,hd⟩:=I.bP p _ hq;refine{⟨o1,e1,c1⟩,λa e2=>?_};cases e2;exact⟨o,e,hd⟩
  ·refine{{o,I.mY p o hk,hc},λa e=>?_};cases e;exact{o,I.mY _ o hk,hd}
  ·have z:∃o,s.heap.get? p=some o/\o.ExactDict:=by
    rcases hk with⟨kvs,hk⟩|⟨kvs,hk⟩
    ·obtain⟨_,_,_,_,o,_,_,e,ex,_⟩:=I.bP p _ hk;exact⟨o,e,ex⟩
    ·obtain⟨_,_,_,_,o,_,_,e,ex,_⟩:=I.bP p _ hk;exact⟨o,e,ex⟩
   obtain⟨o,e,ex⟩:=z;refine{{o,e,ex.1},λa e2=>?_};cases e2;exact{o,e,ex.2.1}
  ·obtain⟨o,_,_,_,e,ex,_⟩:=I.bP p _ hk;refine{{o,e,ex.1},λa e2=>?_};cases e2;exact{o,e,ex.2.1}
 |_=>exact False.elim ty
def afy(K:Frag)(T:String)(r:V->Aan->Hp->VK->Prop)(to:TE):TE:=λZ H Q=>to Z H λx H1=>tyV K T x H1/\r x [] H1 Q
def tBM(K:Frag)(T:String)(r:V->Aan->Hp->VK->Prop)(to:TE)(t:TA):TE:=λZ H Q=>to Z H λx H1=>tyV K T x H1/\t Z H1 λxs H2=>r x xs H2 Q
variable{o e:Expr}{es:List Expr}{to:TE}{t:TA}{name:Str}{apos fS:Pos}{T id:String}{r:V->Aan->Hp->VK->Prop}
def S3(pa:PlainAttrs T)(slot:Slot T name id)(hty:typeOf (.builtin id)=pure (.type "method_descriptor"))(hm:Z7 X id r)(ho:PE X o to)
  (Gi:attributeBase o name X.env (eval o X.env)=eval o X.env:=by rfl) (Gf:714=true:=by rfl):PE X (.Call (.Attribute o name apos) [] [] fS) (afy X.K T r to):=by
 intro pins s Z H Q I h;refine wM Gi Gf (de 731 λv s1 x H1 I1 r1 agt=>?_);obtain⟨ty,q1⟩:=agt;obtain⟨h1,h2⟩:=RZ I1 r1 ty;exact{T,id,pa,slot,hty,h1,h2,fY rfl (Be (hm pins s1 Z H1 x [] v [] Q I1 r1 .nil q1))}
def jk(pa:PlainAttrs T)(slot:Slot T name id)(hty:typeOf (.builtin id)=pure (.type "method_descriptor"))(hm:Z7 X id r)(ho:PE X o to)(ha:PA X (e::es) t)
  (Gi:attributeBase o name X.env (eval o X.env)=eval o X.env:=by rfl)
  (agV:((backTo fS (starEach (e::es) X.env)).all (λx=>!x.1)&&(backToKw fS (keywordEach [] X.env)).all (λx=>x.1.isSome)
   &&decide ((e::es).length+([]:List Keyword).length+(if([]:List Keyword).isEmpty then 0 else 1)<30))=true:=by rfl)
  (Gf:714=true:=by rfl) (hs:starEach (e::es) X.env=(false,eval e X.env)::starEach es X.env:=by rfl) (adG:(backTo fS 709).any (·.1)=false:=by rfl):
  PE X (.Call (.Attribute o name apos) (e::es) [] fS) (tBM X.K T r to t):=by
 intro pins s Z H Q I h;refine wpAny_Call_method_late Gi agV Gf rfl (de 731 λv s1 x H1 I1 r1 ags=>?_);obtain⟨ty,q1⟩:=ags;obtain⟨h1,h2⟩:=RZ I1 r1 ty;refine{T,id,pa,slot,hty,h1,h2,?_};have hA:=ha fS pins s1 Z H1 _ I1 q1;rw[hs]at hA⊢;exact fY (by show(false||(backTo fS (starEach es X.env)).any (·.1))=false;rw[adG]<;>rfl) (kf (gj hA λus s2 ⟨vs,H2,I2,r2,q2⟩=>hm pins s2 Z H2 x vs v us Q I2 r1 r2 q2))
end
def JL(X:Cx)(id:String)(r:V->Aan->Hp->VK->Prop):Prop:=
 ∀(pins:Aab)(s:Shared)(Z:St)(H:Hp)(x:V)(xs:Aan)(v:Value)(us:Aaf)(Q:VK),Inv X pins Z H s->RelV x v->Vals xs us->r x xs H Q->
  wpAny 56 X.A (call (.builtin id) (v::us)) 706 X.xe s
theorem Vals.one:∀{x:V}{us:Aaf},Vals [x] us->∃u,us=[u]/\RelV x u
 |_,_,.cons r .nil=>⟨_,rfl,r⟩
theorem Vals.two:∀{x y:V}{us:Aaf},Vals [x,y] us->∃u v,us=[u,v]/\RelV x u/\RelV y v
 |_,_,_,.cons r (.cons q .nil)=>⟨_,_,rfl,r,q⟩
theorem Vals.zero:∀{us:Aaf},Vals [] us->us=[]
 |_,.nil=>rfl
theorem Vals.eraseIdx:∀{xs:Aan}{us:Aaf}(i:Nat),Vals xs us->Vals (xs.eraseIdx i) (us.eraseIdx i)
 |_,_,_,.nil=>.nil
 |_,_,0,.cons _ t=>t
 |_,_,i+1,.cons r t=>.cons r (Vals.eraseIdx i t)
theorem IY{α:Type}:∀(l:List α)(i:Nat),(l.eraseIdx i).length<=l.length
 |[],_=>aw _
 |_::_,0=>fq _
 |_::r,i+1=>jh (IY r i)
section
variable{X:Cx}{pins:Aab}{Z:St}{H:Hp}{s:Shared}{l:Addr}{xs ys:Aan}
def Inv.Hr{a9 its':Aaf}(I:Inv X pins Z H s)(hH:H l=some (.lst xs))
  (e:s.heap.get? l=some {cls:=.type "list",data:=.seq a9.toArray n}) (hf:f a9.toArray=its'.toArray) (hv:Vals ys its') (hz:ys.length<=sizeLine):
  Inv X pins Z (upd H l 682) {s with heap:=s.heap.update l (Obj.mapSeq f),toks:=t'}:=by
 have q:=wy e f;rw[hf]at q;refine I.write (hH▸trivial) (.inl 9) (λb' u hb hu=>(cv s.heap (Obj.mapSeq f) (cL hb)).trans hu) ⟨_,q⟩ ?_;exact⟨hz,its',_,hv,q⟩
def Inv.afU(I:Inv X pins Z H s)(hv:Vals ys a9)(hz:ys.length<=sizeLine):
  Inv X pins Z (upd H s.heap.objs.size 682) {s with heap:=s.heap.push {cls:=.type "list",data:=.seq a9.toArray},toks:=t'}:=
 I.laid (λ_ _ q=>aj _ q) (aw _) {hz,a9,0,hv,676}
def Inv.fresh(I:Inv X pins Z H s):H s.heap.objs.size=none:=I.bP.fresh (aw _)
def Inv.ya(I:Inv X pins Z H s)(hH:H l=some (.lst xs)):xs.length<=sizeLine/\∃(a9:Aaf)(n:Nat),Vals xs a9/\xs.length=a9.length/\s.heap.get? l=some {cls:=.type "list",data:=.seq a9.toArray n}:=by obtain⟨z,a9,n,r,e⟩:=I.bP l _ hH;exact{z,a9,n,r,r.length,e}
def LI(h:n<=sizeLine):Builtin.List.listTooLong n=false:=by exact cA ∅
end
section
variable{X:Cx}
inductive aaV(x:V)(vs:Aan)(H:Hp)(Q:VK):Prop
 |mk l xs y (_:x=.ref l) (_:vs=[y]) (_:H l=some (.lst xs)) (_:xs.length<sizeLine) (_:Q .cz (upd H l (.lst (xs++[y]))))
def tZ:JL X "list.append" aaV:=by intro pins s Z H x vs v us Q I rx rv h;obtain⟨l,xs,y,rfl,rfl,hH,hz,q⟩:=h;cases rx;obtain⟨u,rfl,ru⟩:=rv.one;obtain⟨z,a9,n,r,hl,e⟩:=I.ya hH;refine kZ ui ⟨_,e,rfl⟩ sj (rP _ _) (uV l a9.toArray n u (by rw[aP];lia)) {e,?_};refine{.cz,_,I.Hr hH e 59 (r.append (.cons ru .nil)) ?_,9,q};rw[aC,du];lia
inductive aaT(x:V)(vs:Aan)(H:Hp)(Q:VK):Prop
 |mk l b xs zs (_:x=.ref l) (_:vs=[.ref b]) (_:H l=some (.lst xs)) (_:H b=some (.lst zs)) (_:xs.length+zs.length<=sizeLine) (_:Q .cz (upd H l (.lst (xs++zs))))
def BS:JL X "list.extend" aaT:=by
 intro pins s Z H x vs v us Q I rx rv h;obtain⟨l,b,xs,zs,rfl,rfl,hH,hB,hz,q⟩:=h;cases rx;obtain⟨u,rfl,ru⟩:=rv.one;cases ru;obtain⟨z,a9,n,r,hl,e⟩:=I.ya hH;obtain⟨z2,uy,n2,r2,f9,e2⟩:=I.ya hB;have hsz:a9.toArray.size+uy.toArray.size<=sizeLine:=by rw[aP,aP];lia
 have QY:¬(!a9.toArray.isEmpty&&Builtin.List.listTooLong (a9.toArray.size+uy.toArray.size))=true:=by rw[LI hsz,tw];exact bD
 refine kZ C1 ⟨_,e,rfl⟩ Bj (AJ _ _)
  (AutoSeq1.list_extend_list_list_0 l a9.toArray n b uy.toArray n2 QY (by rw[aP];lia) ∅) {e,e2,?_}
 refine{.cz,_,I.Hr hH e 59 (r.append r2) ?_,9,q};rw[aC];lia
inductive acE(x:V)(vs:Aan)(H:Hp)(Q:VK):Prop
 |mk l xs i k y (_:x=.ref l) (_:vs=[.int i]) (_:H l=some (.lst xs)) (_:-(2^63)<=i) (_:i<2^63) (_:seqIndex? i xs.length=some k) (_:xs[k]?=some y) (_:Q y (upd H l (.lst (xs.eraseIdx k))))
def WM:JL X "list.pop" acE:=by
 intro pins s Z H x vs v us Q I rx rv h;obtain⟨l,xs,i,k,y,rfl,rfl,hH,h1,h2,hk,hy,q⟩:=h;cases rx;obtain⟨u,rfl,ru⟩:=rv.one;obtain⟨t,rfl⟩:=ru;obtain⟨z,a9,n,r,hl,e⟩:=I.ya hH;obtain⟨w,hw,nX⟩:=r.get hy;refine kZ F.slot_list_pop ⟨_,e,rfl⟩ F.entry_list_pop (F.args_list_pop_2 _ _)
  (MeetsSeq.list_pop_at l a9.toArray n i t k w (fitsIndex_both h1 h2) (by rw[aP,<-hl];exact hk) (by rw[<-dw];exact hw) (by rw[aP];lia)) {e,?_}
 refine{y,_,I.Hr hH e ?_ (r.eraseIdx k) ?_,nX,q}
 ·show a9.toArray.eraseIdxIfInBounds k=(a9.eraseIdx k).toArray;rw[List.eraseIdxIfInBounds_toArray]
 ·have:=IY xs k;lia
inductive acK(x:V)(vs:Aan)(H:Hp)(Q:VK):Prop
 |mk l xs (_:x=.ref l) (_:vs=[]) (_:H l=some (.lst xs)) (_:Q .cz (upd H l (.lst [])))
def WN:JL X "list.clear" acK:=by intro pins s Z H x vs v us Q I rx rv h;obtain⟨l,xs,rfl,rfl,hH,q⟩:=h;cases rx;have Me:=rv.zero;subst Me;obtain⟨z,a9,n,r,hl,e⟩:=I.ya hH;refine kZ F.slot_list_clear ⟨_,e,rfl⟩ F.entry_list_clear (F.args_list_clear_1 _) (AutoSeq1.list_clear_list_0 l a9.toArray n (by rw[aP];lia)) {e,?_};exact{.cz,_,I.Hr (its':=[]) (ys:=[]) hH e rfl .nil (aO _),9,q}
inductive afJ(x:V)(y:V)(H:Hp)(Q:VK):Prop
 |mk l b xs zs (_:x=.ref l) (_:y=.ref b) (_:H l=some (.lst xs)) (_:H b=some (.lst zs)) (_:xs.length+zs.length<=sizeLine) (_:∀p,H p=none->Q (.ref p) (upd H p (.lst (xs++zs))))
def vR:iU X (binaryOp .Add) afJ:=by
 intro pins s Z H x y v u Q I rx ry h;obtain⟨l,b,xs,zs,rfl,rfl,hH,hB,hz,q⟩:=h;cases rx;cases ry;obtain⟨z,a9,n,r,hl,e⟩:=I.ya hH;obtain⟨z2,uy,n2,r2,f9,e2⟩:=I.ya hB;refine PySem.P.add_list e e2 ?_ (by rw[aP,aP];lia);have ea:a9.toArray++uy.toArray=(a9++uy).toArray:=by simp
 rw[ea];exact{.ref _,_,I.afU (r.append r2) (by rw[aC];lia),9,q _ I.fresh}
end
section
variable{κ:Type}[DecidableEq κ]
def iC(kvs:List (κ×V))(k:κ):Aao:=(kvs.find? λkv=>decide (kv.1=k)).map (·.2)
def putK(kvs:List (κ×V))(k:κ)(v:V):List (κ×V):=
 if(kvs.any λkv=>decide (kv.1=k))=true then kvs.map (λkv=>if kv.1=k then(kv.1,v)else kv)else kvs++[(k,v)]
def sC{p:κ×V}{k:κ}(e:p.1=k):iC (p::r) k=some p.2:=by simp[iC,iK,e]
def pX{p:κ×V}{k:κ}(e:¬p.1=k):iC (p::r) k=iC r k:=by simp[iC,iK,e]
theorem zB(k:κ):∀kvs:List (κ×V),(kvs.any λkv=>decide (kv.1=k))=(iC kvs k).isSome
 |[]=>rfl
 |p::r=>by
  rw[ni];by_cases e:p.1=k
  ·simp only[sC e,bj e,Bool.true_or,CO]
  ·rw[pX e,cA e,Bool.false_or];exact zB k r
def tI(kvs:List (κ×V))(k:κ)(v:V):(putK kvs k v).length<=kvs.length+1:=by
 unfold putK;split
 ·rw[ah];lia
 ·rw[aC,bE,jQ];lia
def EK{k:κ}(v:V)(h:iC kvs k=none):putK kvs k v=kvs++[(k,v)]:=by unfold putK;rw[zB,h];exact aH 7
def mP.oo(r:mP o u):o.isSome=u.isSome:=by
 cases o with
 |none=>cases u with
  |none=>rfl
  |some _=>exact(show False from r).elim
 |some _=>cases u with
  |none=>exact(show False from r).elim
  |some _=>rfl
def mP.getD(r:mP o u)(rd:RelV d d'):RelV (o.getD d) (u.getD d'):=by
 cases o with
 |none=>cases u with
  |none=>exact rd
  |some _=>exact(show False from r).elim
 |some _=>cases u with
  |none=>exact(show False from r).elim
  |some _=>exact r
def KV.val(r:KV kvs vs)(k:κ):mP (iC kvs k) (valueAt vs k):=by
 induction r with
 |nil=>exact True.intro
 |@cons p q ps qs h t ih=>
  obtain⟨h1,h2⟩:=h;by_cases e:p.1=k
  ·have e':=h1.symm.trans e;have b:valueAt (q::qs) k=some q.2:=by simp[valueAt,iK,e']
   rw[sC e,b];exact h2
  ·have e':¬q.1=k:=λz=>e (h1.trans z);have b:valueAt (q::qs) k=valueAt qs k:=by simp[valueAt,iK,e']
   rw[pX e,b];exact ih
def KV.any(r:KV kvs vs)(k:κ):(kvs.any λkv=>decide (kv.1=k))=vs.any λkv=>decide (kv.1=k):=by
 unfold KV at r
 induction r with
 |nil=>rfl
 |cons h t ih=>rw[ni,ni,ih,h.1]
def KV.Wa(r:KV kvs vs)(k:κ)(ry:RelV y u):
  KV (kvs.map λkv=>if kv.1=k then(kv.1,y)else kv) (vs.map λkv=>if kv.1=k then(kv.1,u)else kv):=by
 induction r with
 |nil=>exact .nil
 |@cons p q ps qs h t ih=>
  rw[bt,bt];refine .cons ?_ ih;obtain⟨h1,h2⟩:=h;by_cases e:p.1=k
  ·rw[aK e,aK (h1.symm.trans e)];exact⟨h1,ry⟩
  ·rw[aH e,aH (λz=>e (h1.trans z))];exact⟨h1,h2⟩
def KV.put(r:KV kvs vs)(k:κ)(ry:RelV y u):KV (putK kvs k y) (stored vs k u):=by
 unfold putK stored;rw[r.any k];by_cases e:(vs.any λkv=>decide (kv.1=k))=true
 ·rw[aK e,aK e];exact r.Wa k ry
 ·rw[aH e,aH e];exact yp r ⟨rfl,ry⟩
def KV.keys{kvs:List (κ×V)}(r:KV kvs vs):kvs.map (·.1)=vs.map (·.1):=by
 induction r with
 |nil=>rfl
 |cons h t ih=>rw[bt,bt,ih,h.1]
def KV.length{kvs:List (κ×V)}(r:KV kvs vs):kvs.length=vs.length:=bb r
end
def pW(r:RelV (kV k) u):(bU P w).is k u=true:=by
 cases k with
 |inl i=>obtain⟨t,e⟩:=(show∃t,u=Value.int i t from r);subst e;exact NO P w i t
 |inr x=>obtain⟨t,e⟩:=(show∃t,u=Value.str x t from r);subst e;exact D8 P w x t
theorem Jb:∀{ks:List Key}{us:Aaf},Vals (ks.map kV) us->ItemsAre (bU P w) ks us
 |[],_,r=>by rw[fI]at r;cases r;exact .nil
 |k::ks,_,r=>by
  cases r with
  |cons h t=>exact .cons (pW h) (Jb t)
abbrev KT(H:Hp):List (List Key×V)->List (List Key×Addr×Value)->Prop:=Paired λp q=>p.1=q.1/\H q.2.1=some (.tup (p.1.map kV))/\RelV p.2 q.2.2
def KT.val(r:KT H kvs xs)(k:List Key):mP (iC kvs k) ((atKey xs k).map (·.2)):=by
 induction r with
 |nil=>exact True.intro
 |@cons p q ps qs h t ih=>
  obtain⟨h1,_,h2⟩:=h;by_cases e:p.1=k
  ·have e':=h1.symm.trans e;have b:atKey (q::qs) k=some q.2:=by simp[atKey,iK,e']
   rw[sC e,b];exact h2
  ·have e':¬q.1=k:=λz=>e (h1.trans z);have b:atKey (q::qs) k=atKey qs k:=by simp[atKey,iK,e']
   rw[pX e,b];exact ih
def KT.Wa(r:KT H kvs xs)(k:List Key)(ry:RelV y u):
  KT H (kvs.map λkv=>if kv.1=k then(kv.1,y)else kv) (xs.map (putAt k u)):=by
 induction r with
 |nil=>exact .nil
 |@cons p q ps qs h t ih=>
  rw[bt,bt];refine .cons ?_ ih;obtain⟨h1,h2,h3⟩:=h;unfold putAt;by_cases e:p.1=k
  ·rw[aK e,aK (h1.symm.trans e)];exact⟨h1,h2,ry⟩
  ·rw[aH e,aH (λz=>e (h1.trans z))];exact⟨h1,h2,h3⟩
def KT.put(r:KT H kvs xs)(k:List Key)(hb:H b=some (.tup (k.map kV)))(ry:RelV y u):
  KT H (putK kvs k y) (storedH xs k b u):=by
 have e:(kvs.any λkv=>decide (kv.1=k))=(atKey xs k).isSome:=by rw[zB,(r.val k).oo,gP]
 unfold putK storedH;rw[e];by_cases q:(atKey xs k).isSome=true
 ·rw[aK q,aK q];exact r.Wa k ry
 ·rw[aH q,aH q];exact yp r ⟨rfl,hb,ry⟩
def KT.keeps(r:KT H kvs xs)(ht:∀b ys,H b=some (.tup ys)->H' b=some (.tup ys)):KT H' kvs xs:=
 Paired.QH r λ_ _ z=>{z.1,ht _ _ z.2.1,z.2.2}
section
variable{P:Program}{w:World}{H:Hp}{h:Heap}{a:Addr}
def YF(ok:j3 P w H h)(e:Rd H a u):dP P w H h a u:=e.ok ok
def ve(ok:j3 P w H h)(e:Rd H a 715):kvs.length<=sizeLine/\(a==sysModules)=false/\∃vs,KV kvs vs/\h.DictOf (bU P w) a vs:=
 show dP P w H h a 715 from YF ok e
def xu(ok:j3 P w H h)(e:H a=some 715):kvs.length<=sizeLine/\(a==sysModules)=false/\∃vs,KV kvs vs/\h.DictOf (bU P w) a vs:=ve ok (.inl e)
def vZ(ok:j3 P w H h)(e:H a=some (.tup (ks.map kV))):(tupleKind (bU P w)).is h ks a:=by obtain⟨_,a9,r,⟨o,h1,h2,n,h3⟩,_⟩:=(show dP P w H h a (.tup (ks.map kV))from ok a _ e);exact{o,a9.toArray,n,h1,h2,h3,by simpa using Jb r}
def xt(ok:j3 P w H h)(e:Rd H a (.dT kvs)):kvs.length<=sizeLine/\(a==sysModules)=false/\
  ∃xs,KT H kvs xs/\h.DictOfH (tupleKind (bU P w)) a xs:=by
 obtain⟨z,y,xs,r,o,es,ep,h1,h2,h3,h4,h5⟩:=(show dP P w H h a (.dT kvs)from YF ok e);refine{z,y,xs,r,o,es,ep,h1,h2,h3,h4,λx hx=>?_,h5};have all:∀{l:List (List Key×V)}{m:List (List Key×Addr×Value)},KT H l m->∀x∈m,(tupleKind (bU P w)).is h x.1 x.2.1:=by
  intro l m q
  induction q with
  |nil=>intro x hx;exact nomatch hx
  |@cons p q ps qs hq t ih=>
   intro x hx;rcases aN.mp hx with e|hx
   ·subst e;exact vZ ok (hq.1▸hq.2.1)
   ·exact ih x hx
 exact all r x hx
def aff(ok:j3 P w H h)(e:H a=some (.dT kvs)):kvs.length<=sizeLine/\(a==sysModules)=false/\
  ∃xs,KT H kvs xs/\h.DictOfH (tupleKind (bU P w)) a xs:=xt ok (.inl e)
end
def kS(H:Hp)(a:Addr)(y:V)(r:Aao):Prop:=
 (∃kvs k,Rd H a 715/\y=kV k/\r=iC kvs k)\/∃kvs k b,Rd H a (.dT kvs)/\y=.ref b/\H b=some (.tup (k.map kV))/\r=iC kvs k
def AK(H:Hp)(a:Addr)(y v:V)(H':Hp):Prop:=
 (∃kvs k,H a=some 715/\y=kV k/\kvs.length<sizeLine/\H'=upd H a (.dK (putK kvs k v)))\/
 ∃kvs k b,H a=some (.dT kvs)/\y=.ref b/\H b=some (.tup (k.map kV))/\kvs.length<sizeLine/\H'=upd H a (.dT (putK kvs k v))
theorem kS.k{H:Hp}{a:Addr}{kvs:List (Key×V)}{k:Key}(e:H a=some 715):kS H a (kV k) (iC kvs k):=.inl {kvs,k,.inl e,9,9}
theorem AK.k{H:Hp}{a:Addr}{kvs:List (Key×V)}{k:Key}{v:V}(e:H a=some 715)(hl:kvs.length<sizeLine):AK H a (kV k) v (upd H a (.dK (putK kvs k v))):=.inl ⟨kvs,k,e,rfl,hl,rfl⟩
section
variable{X:Cx}{pins:Aab}{Z:St}{H:Hp}{s:Shared}{a:Addr}{y v:V}{u r:Value}{o:Aao}{A:Around}{E:Aad}
def Inv.big(I:Inv X pins Z H s):sysModules<s.heap.objs.size:=by exact dI 7 ((I.mod.glob.keeps I.bk).lt)
def Vh(hu:A.units+1<cLine)(I:Inv X pins Z H s)(g:kS H a y (some v))(ry:RelV y u)(h:∀w' s',Inv X pins Z H s'->RelV v w'->Q w' s'):
  wpAny 56 A (getItem 654 u) Q E s:=by
 rcases g with⟨kvs,k,e,ey,l⟩|⟨kvs,k,b,e,ey,eb,l⟩
 ·subst ey;obtain⟨z,hd,vs,rel,dd⟩:=ve I.bP e;obtain⟨w',hw,nX⟩:=mP.some_of (l▸rel.val k);exact wpAny_getItem_of (pW ry) dd.mapOf hw (h w' _ 680 nX)
 ·subst ey;cases(show u=Value.ref b from ry);obtain⟨z,hd,xs,rel,dd⟩:=xt I.bP e;obtain⟨w',hw,nX⟩:=mP.some_of (l▸rel.val k);obtain⟨p,hp,jC⟩:=bz.mp hw;refine wpAny_getItem_heap (jv hu) (vZ I.bP eb) dd hp ?_;rw[jC];exact h w' _ 680 nX
def ahb(hu:A.units+1<cLine)(I:Inv X pins Z H s)(g:kS H a y o)(ry:RelV y u)(h:∀s',Inv X pins Z H s'->Q (.bool o.isSome) s'):
  wpAny 56 A (compareOp .In u 654) Q E s:=by
 rcases g with⟨kvs,k,e,ey,l⟩|⟨kvs,k,b,e,ey,eb,l⟩
 ·subst ey;obtain⟨z,hd,vs,rel,dd⟩:=ve I.bP e;refine wpAny_in_of (pW ry) hd dd.mapOf ?_;rw[<-(rel.val k).oo,<-l];exact h _ 680
 ·subst ey;cases(show u=Value.ref b from ry);obtain⟨z,hd,xs,rel,dd⟩:=xt I.bP e;refine wpAny_in_heap (jv hu) (vZ I.bP eb) hd dd ?_;have q:=(rel.val k).oo;rw[gP]at q;rw[<-q,<-l];exact h _ 680
def abN{Q:Aad}(hu:A.units+1<cLine)(I:Inv X pins Z H s)(g:kS H a y o)(ry:RelV y u)(h:∀s',Inv X pins Z H s'->Q (.bool (!o.isSome)) s'):
  wpAny 56 A (compareOp .NotIn u 654) Q E s:=by
 rcases g with⟨kvs,k,e,ey,l⟩|⟨kvs,k,b,e,ey,eb,l⟩
 ·subst ey;obtain⟨z,hd,vs,rel,dd⟩:=ve I.bP e;refine wpAny_notIn_of (pW ry) hd dd.mapOf ?_;rw[<-(rel.val k).oo,<-l];exact h _ 680
 ·subst ey;cases(show u=Value.ref b from ry);obtain⟨z,hd,xs,rel,dd⟩:=xt I.bP e;refine wpAny_notIn_heap (jv hu) (vZ I.bP eb) hd dd ?_;have q:=(rel.val k).oo;rw[gP]at q;rw[<-q,<-l];exact h _ 680
def sU(I:Inv X pins Z H s)(mu:Vv (H a))(hs:Heap.SameBut a s.heap h')(he:∃q,h'.get? a=some q)(new:dP X.prog X.w (upd H a ob) h' a ob):
  Inv X pins Z (upd H a ob) {s with heap:=h',toks:=t'}:=
 I.write mu (.inl 9) (λb q hb z=>(hs.2 b hb).trans z) he new
def wc(z:kvs.length<=sizeLine)(hd:(a==sysModules)=false)(rel:KV kvs vs)(dd:h'.DictOf (bU P w) a vs):
  dP P w H' h' a 715:=⟨z,hd,vs,rel,dd⟩
def Vc(hu:A.units+1<cLine)(I:Inv X pins Z H s)(g:AK H a y v H')(ry:RelV y u)(rv:RelV v r)(h:∀s',Inv X pins Z H' s'->Q () s'):
  wpAny 56 A (setItem 654 u r) Q E s:=by
 rcases g with⟨kvs,k,e,ey,l,eH⟩|⟨kvs,k,b,e,ey,eb,l,eH⟩
 ·subst ey eH;obtain⟨z,hd,vs,rel,dd⟩:=xu I.bP e;refine wpAny_setItem_pairs (hsz:=(by rw[<-rel.length];exact z)) (pW ry) dd λh' rm hs=>h _ ?_;exact sU I (e▸True.intro) hs (let⟨q,_,_,hq,_⟩:=rm;⟨q,hq⟩) (wc (by have:=tI kvs k v;lia) hd (rel.put k rv) rm)
 ·subst ey eH;cases(show u=Value.ref b from ry);obtain⟨z,hd,xs,rel,dd⟩:=aff I.bP e;refine Bl (hsz:=(by rw[<-bb rel];exact z)) (jv hu) (vZ I.bP eb) dd λh' rm hs=>h _ ?_;obtain⟨q,es,ep,hq,h2,h3,h4,_,h5⟩:=rm;refine sU I (e▸True.intro) hs ⟨q,hq⟩ {(by have:=tI kvs k v;lia),hd,_,(rel.put k eb rv).keeps λc ys ec=>?_,q,es,ep,hq,h2,h3,h4,h5};rw[aL (QD ec e 696)];exact ec
variable{kvs:List (Key×V)}
def abQ{Q:Aad}(I:Inv X pins Z H s)(e:H a=some 715)(h:∀s',Inv X pins Z (upd H a 651) s'->Q .none s'):wpAny 56 A (call (.builtin "dict.clear") [.ref a]) Q E s:=by
 obtain⟨z,hd,vs,rel,dd⟩:=xu I.bP e;refine kE wU dd.typeIs PySem.F.entry_dict_clear (PySem.F.args_dict_clear_1 _) (meets_dict_clear 722 a) {vs,dd,by rw[<-rel.length];exact z,λh' rm hs=>h _ ?_};have he:∃q,h'.get? a=some q:=let⟨q,_,_,hq,_⟩:=rm;⟨q,hq⟩
 exact sU (t':=s.toks) I (by rw[e];exact True.intro) hs he (wc (aO _) hd .nil rm)
def ael(i:Expr):Prop:=∀ov iv,subscripted i false ov iv=operate [ov,iv] (getItem ov iv)
end
def aaH{T id:String}
  (hl:typeLookup (.type T) "__getitem__"=pure (some (.builtin id))) (hs:ael slice)
  (h:wpAny 58 A (eval value env) (λo aaa=>wpAny 58 A (eval slice env) (λi aad=>aad.TypeIs o T/\wpAny 58 A (getItem o i) Q E aad) E aaa) E s):
  wpAny 58 A (eval (.Subscript value slice pos) env) Q E s:=by
 refine GL (dy h (λo aaa af0=>dy af0 (λi aad aag=>?_) λ_ _ x=>x) λ_ _ x=>x);obtain⟨hT,aag⟩:=aag;refine ae ?_;refine ae (iG hT hl ?_);have fin:wpAny 58 A (subscripted slice false o i) (λr aaf=>wpAny 58 A (letTemporaryGo value o r>>=λ_=>pure r) Q E aaf) E aad:=by rw[hs o i];exact wpAny_operating (dy aag (λr aaf afZ=>ae (wpAny_letTemporaryGo (ao afZ))) λ_ _ x=>x)
 first
  |exact ao (ae fin)
  |exact ae (ao (ae fin))
  |exact ae fin
def NU(I:Inv X pins Z H s)(g:kS H a y o):s.TypeIs 654 "dict":=by
 rcases g with⟨kvs,k,e,_,_⟩|⟨kvs,k,b,e,_,_,_⟩
 ·obtain⟨_,_,vs,_,dd⟩:=ve I.bP e;exact dd.typeIs
 ·obtain⟨_,_,xs,_,dd⟩:=xt I.bP e;exact dd.typeIs
inductive aco(Q:VK)(x:V)(y:V)(H2:Hp):Prop
 |mk a v (_:x=.ref a) (_:kS H2 a y (some v)) (_:Q v H2)
def aeD(td ty:TE):TE:=λZ H Q=>td Z H λx H1=>ty Z H1 λy H2=>aco Q x y H2
inductive aeC(Q:VK)(y:V)(x:V)(H2:Hp):Prop
 |mk a o (_:x=.ref a) (_:kS H2 a y o) (_:Q (.bl o.isSome) H2)
def afx(ty td:TE):TE:=λZ H Q=>ty Z H λy H1=>td Z H1 λx H2=>aeC Q y x H2
inductive VP(Q:VK)(y:V)(x:V)(H2:Hp):Prop
 |mk a o (_:x=.ref a) (_:kS H2 a y o) (_:Q (.bl (!o.isSome)) H2)
def aaD(ty td:TE):TE:=λZ H Q=>ty Z H λy H1=>td Z H1 λx H2=>VP Q y x H2
inductive acy(D:Ends)(Z:St)(v:V)(x:V)(y:V)(H3:Hp):Prop
 |mk a H4 (_:x=.ref a) (_:AK H3 a y v H4) (_:D.nx Z H4)
def aeJ(td ty tv:TE):TS:=λD Z H=>tv Z H λv H1=>td Z H1 λx H2=>ty Z H2 λy H3=>acy D Z v x y H3
section
variable{X:Cx}{o i value:Expr}{pos pos':Pos}{td ty tv:TE}
def ON(hu:X.A.units+1<cLine)(ho:PE X o td)(hi:PE X i ty)(hs:ael i):PE X (.Subscript o i pos) (aeD td ty):=by intro pins s Z H Q I h;refine aaH PySem.F.slot_dict_getitem.lookup hs (de 731 λu s1 x H1 I1 rx q1=>de (hi pins s1 Z H1 _ I1 q1) λiv s2 y H2 I2 ry agr=>?_);obtain⟨a,v,ex,g,q2⟩:=agr;subst ex;obtain rfl:u=Value.ref a:=rx;exact{NU I2 g,Vh hu I2 g ry λw' s3 I3 nX=>⟨v,H2,I3,nX,q2⟩}
def acQ(hu:X.A.units+1<cLine)(hi:PE X i ty)(ho:PE X o td):PC X .In i o (afx ty td):=by intro pins s Z H Q I h;refine de (hi pins s Z H _ I h) λiv s1 y H1 I1 ry q1=>de (ho pins s1 Z H1 _ I1 q1) λu s2 x H2 I2 rx agq=>?_;obtain⟨a,ov,ex,g,q2⟩:=agq;subst ex;obtain rfl:u=Value.ref a:=rx;exact ahb hu I2 g ry λs3 I3=>{.bl ov.isSome,H2,I3,9,q2}
def S4(hu:X.A.units+1<cLine)(hi:PE X i ty)(ho:PE X o td):PC X .NotIn i o (aaD ty td):=by intro pins s Z H Q I h;refine de (hi pins s Z H _ I h) λiv s1 y H1 I1 ry q1=>de (ho pins s1 Z H1 _ I1 q1) λu s2 x H2 I2 rx agp=>?_;obtain⟨a,ov,ex,g,q2⟩:=agp;subst ex;obtain rfl:u=Value.ref a:=rx;exact abN hu I2 g ry λs3 I3=>{.bl (!ov.isSome),H2,I3,9,q2}
def yL(hu:X.A.units+1<cLine)(ho:PE X o td)(hi:PE X i ty)(hv:PE X value tv)(hs:swapsWith value (some (.Subscript o i pos')) pos.line X.env=pure false):
  PS X (.Assign [.Subscript o i pos'] value pos) (aeJ td ty tv):=by
 intro pins s Z H D I h;refine xF (de (hv pins s Z H _ I h) λr s1 v H1 I1 rv q1=>de (ho pins s1 Z H1 _ I1 q1) λu s2 x H2 I2 rx q2=>de (hi pins s2 Z H2 _ I2 q2) λiv s3 y H3 I3 ry ago=>?_) hs;obtain⟨a,H4,ex,g,q3⟩:=ago;subst ex;obtain rfl:u=Value.ref a:=rx;exact Vc hu I3 g ry rv λs4 I4=>⟨Z,H4,I4,q3⟩
def M6(h:Heap)(hb:sysModules<h.objs.size):dP P w H (h.push {cls:=.type "dict",data:=.dict #[]}) h.objs.size 651:=
 {aO _,cS.mpr (cL (aV hb)),[],.nil,xB h}
def ack:TE:=λ_ H Q=>∀p,H p=none->Q 666 (upd H p 651)
def jf:PE X (.Dict [] [] pos) ack:=λpins s Z H Q I h=>
 wpAny_Dict_empty {352,_,I.laid (λ_ _ q=>aj _ q) (aw _) (M6 s.heap I.big),9,h _ 677}
end
def Kw:List (TE×TE)->St->Hp->(List (V×V)->Hp->Prop)->Prop
 |[],_,H,Q=>Q [] H
 |(tk,tv)::r,Z,H,Q=>tk Z H λx H1=>tv Z H1 λy H2=>Kw r Z H2 λps H3=>Q ((x,y)::ps) H3
abbrev VV:List (V×V)->List (Value×Value)->Prop:=Paired λp q=>RelV p.1 q.1/\RelV p.2 q.2
def PX(X:Cx)(pos:Pos)(keys:List (Option Expr))(values:List Expr)(Kq:List (TE×TE)):Prop:=
 ∀(pins:Aab)(s:Shared)(Z:St)(H:Hp)(Q:List (V×V)->Hp->Prop),Inv X pins Z H s->Kw Kq Z H Q->
  wpAny 56 X.A (evalPairs (pairTrees keys values X.env pos)) (λvs s'=>∃ps H',Inv X pins Z H' s'/\VV ps vs/\Q ps H') X.xe s
def aaX:PX X pos [] [] []:=λpins s Z H Q I h=>pairTrees_nil_walk {[],H,I,.nil,h}
def Wk(hk:PE X k tk)(hv:PE X v tv)(hr:PX X pos ks vs Kq):
  PX X pos (some k::ks) (v::vs) ((tk,tv)::Kq):=λpins s Z H Q I h=>
 pairTrees_cons_walk (de (hk pins s Z H _ I h) λu s1 x H1 I1 rx q1=>de (hv pins s1 Z H1 _ I1 q1) λw2 s2 y H2 I2 ry q2=>
  gj (hr pins s2 Z H2 _ I2 q2) λws s3 ⟨ps,H3,I3,rel,q3⟩=>{(x,y)::ps,H3,I3,.cons ⟨rx,ry⟩ rel,q3})
def ky(kvs more:List (Key×V)):List (Key×V):=more.foldl (λacc kv=>putK acc kv.1 kv.2) kvs
def KV.merge:∀{more:List (Key×V)}{rs:List (Key×Value)}{kvs:List (Key×V)}{vs:List (Key×Value)},KV more rs->KV kvs vs->KV (ky kvs more) (merged vs rs):=by
 intro more rs kvs vs r
 induction r generalizing kvs vs with
 |nil=>intro q;exact q
 |@cons p q ps qs h t ih=>
  intro r0;have e:KV (putK kvs p.1 p.2) (stored vs q.1 q.2):=by have:=r0.put p.1 h.2;rw[<-h.1];exact this
  exact ih e
theorem AY:∀(more kvs:List (Key×V)),(ky kvs more).length<=kvs.length+more.length
 |[],kvs=>by show kvs.length<=kvs.length+0;lia
 |p::r,kvs=>by have h1:=AY r (putK kvs p.1 p.2);have h2:=tI kvs p.1 p.2;show(ky (putK kvs p.1 p.2) r).length<=_;rw[bE];lia
theorem GC:∀{kvs:List (Key×V)}{ws:List (Value×Value)},VV (kvs.map λkv=>(kV kv.1,kv.2)) ws->∃rs,Carries (bU P w) ws rs/\KV kvs rs
 |[],_,r=>by rw[fI]at r;cases r;exact{[],True.intro,.nil}
 |p::kvs,_,r=>by
  cases r with
  |@cons a b as bs h t=>
   obtain⟨rs,c,q⟩:=GC t;obtain⟨b1,b2⟩:=b;exact{(p.1,b2)::rs,{pW h.1,9,c},.cons {9,h.2} q}
def aeA(Kq:List (TE×TE)):TE:=λZ H Q=>∀p,H p=none->Kw Kq Z (upd H p 651) λps H2=>H2 p=some 651/\∃kvs:List (Key×V),ps=kvs.map (λkv=>(kV kv.1,kv.2))/\kvs.length<=15/\Q 666 (upd H2 p (.dK (ky [] kvs)))
def aa4(h:PX X pos keys values Kq)(ot:keys.all (·.isSome)=true)(hl:keys.length=values.length)(h0:keys≠[])
  (h15:keys.length<=15):PE X (.Dict keys values pos) (aeA Kq):=by
 intro pins s Z H Q I q;have I1:=I.laid (t':=s.toks) (λ_ _ q=>aj _ q) (aw _) (M6 s.heap I.big);refine wpAny_Dict_walk (knd:=bU X.prog X.w) ot hl h0 h15 (gj (h pins _ Z _ _ I1 (q _ (I.bP.fresh (aw s.heap.objs.size)))) λws s2 agn=>?_);obtain⟨ps,H2,I2,rel,e,kvs,ep,lk,q2⟩:=agn;subst ep;obtain⟨rs,c,rk⟩:=GC rel;obtain⟨z,hd,vs0,r0,dd⟩:=xu I2.bP e;cases r0;refine{rs,c,dd,λh' rm hs=>{352,_,?_,9,q2}};have hz:(ky [] kvs).length<=sizeLine:=by have h1:=AY kvs [];rw[jQ]at h1;rw[bW];lia
 exact sU I2 (e▸True.intro) hs (let⟨q,_,_,hq,_⟩:=rm;⟨q,hq⟩) (wc hz hd (rk.merge .nil) rm)
structure M1(X:Cx)(o:Expr)(m:Str)(apos:Pos)(e:Expr)(fS:Pos):Prop where
 base:attributeBase o m X.env (eval o X.env)=eval o X.env
 mz:((backTo fS (starEach [e] X.env)).all (λx=>!x.1)&&(backToKw fS (keywordEach [] X.env)).all (λx=>x.1.isSome)
  &&decide (([e]:List Expr).length+([]:List Keyword).length+(if([]:List Keyword).isEmpty then 0 else 1)<30))=true
 line:714=true
 trees:backTo fS (starEach [e] X.env)=[(false,eval e X.env)]
structure M2(X:Cx)(o:Expr)(m:Str)(apos:Pos)(e f:Expr)(fS:Pos):Prop where
 base:attributeBase o m X.env (eval o X.env)=eval o X.env
 mz:((backTo fS (starEach [e,f] X.env)).all (λx=>!x.1)&&(backToKw fS (keywordEach [] X.env)).all (λx=>x.1.isSome)
  &&decide (([e,f]:List Expr).length+([]:List Keyword).length+(if([]:List Keyword).isEmpty then 0 else 1)<30))=true
 line:714=true
 trees:backTo fS (starEach [e,f] X.env)=[(false,eval e X.env),(false,eval f X.env)]
def IsD(H:Hp)(a:Addr):Prop:=(∃kvs,Rd H a 715)\/∃kvs,Rd H a (.dT kvs)
def T8(I:Inv X pins Z H s)(d:IsD H a):
  s.TypeIs 654 "dict"/\(∀b,Value.ref a=.ref b->∃ob,s.heap.get? b=some ob/\ob.dict=none)/\(a==sysModules)=false:=by
 rcases d with⟨kvs,e⟩|⟨kvs,e⟩
 ·obtain⟨_,hd,vs,_,dd⟩:=ve I.bP e;refine{dd.typeIs,λb q=>?_,hd};cases q;obtain⟨ob,_,_,h1,h2,_⟩:=dd;exact{ob,h1,h2.2.1}
 ·obtain⟨_,hd,xs,_,dd⟩:=xt I.bP e;refine{dd.typeIs,λb q=>?_,hd};cases q;obtain⟨ob,_,_,h1,h2,_⟩:=dd;exact{ob,h1,h2.2.1}
section
variable{X:Cx}{pins:Aab}{Z:St}{H:Hp}{s:Shared}{a:Addr}{y d:V}{u r:Value}{o:Aao}{A:Around}{E:Aad}
def aeb{Q:Aad}(hu:A.units+1<cLine)(I:Inv X pins Z H s)(g:kS H a y o)(ry:RelV y u)(h:∀w' s',Inv X pins Z H s'->RelV (o.getD .cz) w'->Q w' s'):
  wpAny 56 A (call (.builtin "dict.get") [.ref a,u]) Q E s:=by
 rcases g with⟨kvs,k,e,ey,l⟩|⟨kvs,k,b,e,ey,eb,l⟩
 ·subst ey;obtain⟨z,hd,vs,rel,dd⟩:=ve I.bP e;refine kE fH dd.typeIs jq (wV _ _) (meets_dict_get 722 a (pW ry) hd) {_,dd.mapOf,h _ _ 680 ?_};rw[l];exact(rel.val k).getD rfl
 ·subst ey;cases(show u=Value.ref b from ry);obtain⟨z,hd,xs,rel,dd⟩:=xt I.bP e;refine kE fH dd.typeIs jq (wV _ _) (meetsH_dict_get (tupleKind 722) a b hd) {jv hu,k,xs,vZ I.bP eb,dd,h _ _ 680 ?_};rw[l];exact(rel.val k).getD rfl
def aea(hu:A.units+1<cLine)(I:Inv X pins Z H s)(g:kS H a y o)(ry:RelV y u)(rd:RelV d r)(h:∀w' s',Inv X pins Z H s'->RelV (o.getD d) w'->Q w' s'):
  wpAny 56 A (call (.builtin "dict.get") [.ref a,u,r]) Q E s:=by
 rcases g with⟨kvs,k,e,ey,l⟩|⟨kvs,k,b,e,ey,eb,l⟩
 ·subst ey;obtain⟨z,hd,vs,rel,dd⟩:=ve I.bP e;refine kE fH dd.typeIs jq (pB _ _ _) (meets_dict_get_default 722 a (pW ry) hd r) {_,dd.mapOf,h _ _ 680 ?_};rw[l];exact(rel.val k).getD rd
 ·subst ey;cases(show u=Value.ref b from ry);obtain⟨z,hd,xs,rel,dd⟩:=xt I.bP e;refine kE fH dd.typeIs jq (pB _ _ _) (wN (tupleKind 722) a b hd r) {jv hu,k,xs,vZ I.bP eb,dd,h _ _ 680 ?_};rw[l];exact(rel.val k).getD rd
end
inductive aaG(ty:TE)(Z:St)(Q:VK)(x:V)(H1:Hp):Prop
 |mk a (_:x=.ref a) (_:IsD H1 a) (_:ty Z H1 λy H2=>∃o,kS H2 a y o/\Q (o.getD .cz) H2)
def acn(td ty:TE):TE:=λZ H Q=>td Z H λx H1=>aaG ty Z Q x H1
inductive aaF(ty:TE)(tx:TE)(Z:St)(Q:VK)(x:V)(H1:Hp):Prop
 |mk a (_:x=.ref a) (_:IsD H1 a) (_:ty Z H1 λy H2=>tx Z H2 λz H3=>∃o,kS H3 a y o/\Q (o.getD z) H3)
def acm(td ty tx:TE):TE:=λZ H Q=>td Z H λx H1=>aaF ty tx Z Q x H1
section
variable{X:Cx}{o e f:Expr}{apos fS:Pos}{td ty tx:TE}
def Wu(hu:X.A.units+1<cLine)(ho:PE X o td)(he:PE X e ty)(m:M1 X o "get" apos e fS):PE X (.Call (.Attribute o "get" apos) [e] [] fS) (acn td ty):=by intro pins s Z H Q I h;refine pD m.base m.mz m.line eU fH qC (de 731 λu s1 x H1 I1 rx agm=>?_);obtain⟨a,ex,d,q1⟩:=agm;subst ex;obtain rfl:u=Value.ref a:=rx;obtain⟨t1,t2,_⟩:=T8 I1 d;refine{t1,t2,?_};rw[m.trees];refine fY rfl (kf (fP (de (he pins s1 Z H1 _ I1 q1) λiv s2 y H2 I2 ry ⟨ov,g,q2⟩=>j5 ?_)));exact aeb hu I2 g ry λw' s3 I3 nX=>⟨_,H2,I3,nX,q2⟩
def sL(hu:X.A.units+1<cLine)(ho:PE X o td)(he:PE X e ty)(hf:PE X f tx)(m:M2 X o "get" apos e f fS):PE X (.Call (.Attribute o "get" apos) [e,f] [] fS) (acm td ty tx):=by intro pins s Z H Q I h;refine pD m.base m.mz m.line eU fH qC (de 731 λu s1 x H1 I1 rx agl=>?_);obtain⟨a,ex,d,q1⟩:=agl;subst ex;obtain rfl:u=Value.ref a:=rx;obtain⟨t1,t2,_⟩:=T8 I1 d;refine{t1,t2,?_};rw[m.trees];refine fY rfl (kf (fP (de (he pins s1 Z H1 _ I1 q1) λiv s2 y H2 I2 ry q2=>fP (de (hf pins s2 Z H2 _ I2 q2) λfv s3 z H3 I3 rz ⟨ov,g,q3⟩=>j5 ?_))));exact aea hu I3 g ry rz λw' s4 I4 nX=>⟨_,H3,I4,nX,q3⟩
variable{pins:Aab}{Z:St}{H:Hp}{s:Shared}{a:Addr}{kvs:List (Key×V)}{A:Around}{E:Aad}
def XI(I:Inv X pins Z H s)(e:Rd H a 715)(h:∀p s',H p=none->Inv X pins Z (upd H p 715) s'->Q 666 s'):wpAny 56 A (call (.type "dict") [.ref a]) Q E s:=by obtain⟨z,hd,vs,rel,dd⟩:=ve I.bP e;refine kt_call_dict hd dd (rel.length▸z) λh' rm hs=>?_;exact h _ _ 677 (I.laid (λb q hq=>(hs.2 b (aV (aW hq))).trans (aj _ hq)) (aw _) (wc z (cS.mpr (cL (aV I.big))) rel rm))
end
end L2
namespace Att
open PySem PySem.W PySem.Calls PyProof.Rows
def F5:∀(ns:List Int)(vs:Aaf),WellAll P h vs (ns.map WData.int)->IntsAre vs ns:=by
 intro ns
 induction ns with
 |nil=>
  intro vs w;cases w;exact .nil
 |cons n ns ih=>
  intro vs w;cases w with
  |cons a b=>
   cases a;exact .cons _ _ (ih _ b)
def Sw{l:OpenLaw}(hn:l.most=some n)
  (QU:l.row.toRowW.claim.pre args=true) (yY:WellAll P h vals args):
  ∃a vs ns,vals=[Value.ref a]/\args=[WData.list (ns.map WData.int)]/\h.get? a=some {cls:=.type "list",data:=.seq vs.toArray}/\IntsAre vs ns/\ns.length<=n:=by
 have hc:l.pre.holds [] {args:=args}=true:=(pre_splitW QU).2;obtain⟨d,r,rfl,h1,h2⟩:=hasAllW_cons ((pre_splitW QU).1);obtain rfl:=hasAllW_nil h2;obtain⟨xs,rfl,h3⟩:=hasW_list h1;obtain⟨ns,rfl⟩:=items_int h3;have hlen:ns.length<=n:=by
  have h4:(WTm.not (.lt (.lit (.int (n:Int))) (.len (.arg 0)))).holds [] {args:=[.list (ns.map .int)]}=true:=by have h4:=(holds_andW hc).1;rw[hn]at h4;exact h4
  have h5:=condW_of h4 (w_not (w_lt w_lit (w_len_list (w_arg 9))));refine kG λq=>?_
  first
   |(rw[bj q']at h5;exact absurd h5 (by decide))
   |(simp at h5;lia)
 cases yY with
 |cons w1 w2=>
  cases w2;cases w1 with
  |list ho ot=>exact{_,_,ns,9,9,ho,F5 ns _ ot,hlen}
def SS(l:OpenLaw)(args:List WData):l.row.toRowW.claim.post args (.bool true) args=true:=
 postW_of
  (show WShape.has [] (.bool true) .bool=true by first|rfl|decide|simp[WShape.has,WShape.arms,WShape.armsAll])
  (show(WTm.eq .res (.lit (.bool true))).value [] {args:=args,res:=some (.bool true),after:=args}=some (.bool (true==true))from w_eq_bool (w_res 9) w_lit) rfl
def N6{l:OpenLaw}
  (hn:l.most=some n) (UD:d.params.defaults=[])
  (call:∀(w:World)(aac aaa:Shared)(mg mb:Aac)(fa:Addr)(o:Obj)(pm cd doc:Value)(a:Addr)(vs:Aaf)(ns:List Int),
   Ground q loose [] XP w aac mg mb aaa.heap->YP w aaa.heap->
   aaa.heap.get? fa=some o->o.data=.func (docDef d.name d.params d.body d.scope pm cd doc)->aaa.heap.CodeRec cd d.name->mg d.name=some (.ref fa)->
   aaa.heap.get? a=some {cls:=.type "list",data:=.seq vs.toArray}->IntsAre vs ns->ns.length<=n->aaa.gens=#[]->
   codeAny (model l.prog w) callerA (.call (.ref fa) {[.ref a],[]}) 690 aaa):
  WalkO q loose XP YP l.row.toRowW d [] (λf vs=>PySem.call f vs):=by
 intro w aac aaa mg mb G Y fa o pm cd doc dV kV ho hd Cf hD Ut hg args vals as QU ahC hrd yY hlo;obtain rfl:dV=.none:=Dflts.none hD UD;obtain rfl:kV=.none:=Dflts.noKw hD;obtain⟨a,vs,ns,rfl,rfl,W5,hints,hlen⟩:=Sw hn QU yY;refine enter_call (lZ (call w aac aaa mg mb fa o pm cd doc a vs ns G Y ho (fd_plain hd) Cf Ut W5 hints hlen hg) λr s' hq=>?_);obtain⟨rfl,h2,h3,h4⟩:=hq;exact{.inl {.bool true,.bool true,[],9,λ_=>9,.bool true,SS l _,λ_=>{List.Pairwise.nil,λ_ hm=>(nomatch hm)}},h2,h3,h4}
section
def ledger(h:Heap)(L d:Addr):Aab:=(List.range h.objs.size).filterMap λa=>if a=L\/a=d then none else(h.get? a).map λo=>(a,o)
end
end Att
namespace L2
open PySem PySem.Spec PyProof.Rows
theorem Ip:∀{vs:Aaf}{ns:List Int},IntsAre vs ns->Vals (ns.map V.int) vs
 |_,_,.nil=>.nil
 |_,_,.cons n t h=>.cons ⟨t,rfl⟩ (Ip h)
def RN(H:Hp):Prop:=∀b,H b=none\/∃o xs,H b=some (.gE o (.lst xs))
def WU{K:Frag}
  (KX:K.In aaa.heap) (A1:aaa.heap.Ns mainGlobals mg) (hb:aaa.heap.Ns builtinsNs mb) (hbb:∀x:Str,x≠"__name__"->mb x=bootBuiltins x) (agQ:aaa.heap.NoLimit) (hg:aaa.gens=#[])
  (ha:aaa.heap.get? a=some {cls:=.type "list",data:=.seq vs.toArray}) (hi:IntsAre vs ns) (hl:ns.length<=sizeLine) (hr:iD k callerA)
  (F:∀base:Heap,K.In base->base.Ns mainGlobals mg->cK P w K mg base CX k fa fd [x] sp) (ae5:∀(s:Shared)(u:Value),BindsTo s fd {[u],[]} [(x,u)])
  (Jd:∀H:Hp,RN H->bf K H a (ns.map V.int)->sp [.ref a] H (λv _=>v=.bl true) λ_ _ _=>False)
  (hCX:∀H e s',CX [] H aaa (λ_ _ _=>False) e s'->False):
  codeAny 661 callerA (.call (.ref fa) {[.ref a],[]}) 690 aaa:=by
 have rv:=Ip hi;have core:∀H:Hp,RN H->bf K H a (ns.map V.int)->j3 P w H aaa.heap->(∀b,H b≠none->b=a)->(H a≠none->K.lookup a=none)->
   codeAny 661 callerA (.call (.ref fa) {[.ref a],[]}) 690 aaa:=by
  intro H hO hS bP hA hK;have PR:∀{b:Addr}{o:Obj},aaa.heap.get? b=some o->H b=none->(EV aaa.heap H).get? b=some o:=λe n=>W9 e n;have Tq:∀{b:Addr}{o:Obj}{es:Array DictEntry}{ep:Nat},aaa.heap.get? b=some o->o.data=.dict es ep->H b=none:=λ{b o es ep} e d=>by
   cases q:H b with
   |none=>rfl
   |some u=>
    have e':=hA b (by rw[q];simp);subst e';rw[ha]at e;cases e;have d':=d;cases d'
  have YW:∀{b:Addr}{m:Aac},aaa.heap.Ns b m->(EV aaa.heap H).Ns b m:=λ{b m} ⟨o,es,ep,e,d,r⟩=>{o,es,ep,PR e (Tq e d),d,r};have hKb:=λb o e=>PR (KX b o e) (by
   cases q:H b with
   |none=>rfl
   |some u=>
    have e':=hA b (by rw[q];simp);subst e';rw[hK (by rw[q];simp)]at e;cases e)
  have hM:Mod K mg (EV aaa.heap H):={hKb,YW A1,{mb,YW hb,hbb},let⟨mc,h1,h2⟩:=agQ;{mc,YW h1,h2}};refine lZ ((F _ hKb (YW A1)).run callerA [] aaa H {[.ref a],[]} [.ref a] [.ref a] _ _ hr ({9,hM,λb o e=>abg e,rH (Ux _ _),trivial,λb hb=>absurd (show b∈([]:Aai)from hb) 59,bP,.of_eq hg}) (ae5 aaa 654) (.cons 9 .nil) (Jd H hO hS)) λr s' h=>?_;cases r with
  |error e=>exact(hCX H e s' h).elim
  |ok fl=>
   cases fl with
   |next=>exact False.elim h
   |brk=>exact False.elim h
   |cont=>exact False.elim h
   |ret u=>
    obtain⟨v,H',os,bare,un,agM,r',q⟩:=h;have q':=q;subst q';obtain rfl:u=Value.bool true:=r';refine{9,OldK.of_keep λb o e=>?_,os,bare};cases q:H b with
    |none=>exact un.keep b o e q (by intro z;exact absurd (show b∈([]:Aai)from z) 59) 59
    |some u=>
     rcases hO b with z|⟨ob,xs,z⟩
     ·rw[q]at z;cases z
     ·have z2:=un.uz b ob _ z;obtain⟨e1,_⟩:=bP b _ z;obtain⟨e2,_⟩:=agM b _ z2;rw[e]at e1;cases e1;exact e2
 cases hk:K.lookup a with
 |some o=>
  have e:=KX a o hk;rw[ha]at e;cases e;refine core (λ_=>none) (λ_=>.inl 9) (.inr {_,vs.toArray,_,hk,9,9,9,by rw[aP,hi.length];exact hl,by simpa using rv}) (λb u z=>by have z':=z;cases z') (λb z=>absurd 9 z) λz=>absurd rfl z
 |none=>
  refine core (λb=>if b=a then some (.gE {cls:=.type "list",data:=.seq vs.toArray} (.lst (ns.map V.int)))else none) (λb=>?_) (.inl (.inr ⟨{cls:=.type "list",data:=.seq vs.toArray},aK rfl⟩)) (λb u z=>?_) (λb z=>?_) λ_=>hk
  ·by_cases hb:b=a
   ·exact .inr {_,_,aK hb}
   ·exact .inl (aH hb)
  ·by_cases hb:b=a
   ·have z':=(aK hb).symm.trans z;cases z';subst hb;exact{ha,by rw[ah];exact hl,vs,_,rv,ha}
   ·have z':=(aH hb).symm.trans z;cases z'
  ·by_cases hb:b=a
   ·exact hb
   ·exact absurd (aH hb) z
abbrev KOf{K:Frag}{h:Heap}(_:K.In h):Frag:=K
def aat{l:PySem.W.OpenLaw}{K:Params->Frag}{CX:World->NA}{sp:World->Sp}
  (hn:l.most=some n) (Eh:n<=sizeLine) (UD:d.params.defaults=[]) (hr:iD k callerA)
  (hY:∀(w:World)(h:Heap),YP w h->(K w.params).In h)
  (F:∀(w:World)(mg:Aac)(fa:Addr)(h:Heap),(K w.params).In h->h.Ns mainGlobals mg->mg d.name=some (.ref fa)->
   ∃fd:FuncData,(∀(s:Shared)(u:Value),BindsTo s fd {[u],[]} [(x,u)])/\
    ∀base:Heap,(K w.params).In base->base.Ns mainGlobals mg->cK l.prog w (K w.params) mg base (CX w) k fa fd [x] (sp w))
  (Jd:∀(w:World)(H:Hp)(a:Addr)(ns:List Int),ns.length<=n->RN H->bf (K w.params) H a (ns.map V.int)->sp w [.ref a] H (λv _=>v=.bl true) λ_ _ _=>False)
  (hCX:∀(w:World)(H:Hp)(s:Shared)(e:Value)(s':Shared),CX w [] H s (λ_ _ _=>False) e s'->False):
  PySem.W.WalkO q loose XP YP l.row.toRowW d [] (λf vs=>PySem.call f vs):=by
 refine Att.N6 hn UD λw aac aaa mg mb fa o pm cd doc a vs ns G Y ho hd Cf Ut W5 hints hlen hg=>?_;have KX:=hY w _ Y;obtain⟨fd,hb,hF⟩:=F w mg fa _ KX G.T.g Ut;exact WU KX G.T.g G.T.b G.T.builtins G.T.nolimit hg W5 hints (br hlen Eh) hr hF hb (λH hO hS=>Jd w H a ns hlen hO hS) λH e s'=>hCX w H aaa e s'
def inClass(s:Stmt)(j:Nat):Stmt:=match s with
 | .ClassDef _ _ _ body _ _ _ _ _ _ _=>body.getD j (.Pass {0,0,0,0})
 |_=>.Pass {0,0,0,0}
def defArgs(s:Stmt):Arguments:=match s with
 | .FunctionDef _ a _ _ _ _ _ _ _ _=>a
 |_=>{posonlyargs:=[],args:=[],vararg:=none,kwonlyargs:=[],kw_defaults:=[],kwarg:=none,defaults:=[]}
def defBody(s:Stmt):List Stmt:=match s with
 | .FunctionDef _ _ b _ _ _ _ _ _ _=>b
 |_=>[]
def defScope(s:Stmt):Scope:=match s with
 | .FunctionDef _ _ _ _ _ _ sc _ _ _=>sc
 |_=>{kind:=.function,names:=[],isGenerator:=false,isCoroutine:=false}
abbrev dY:NA:=λ_ _ _ _ _ _=>False
abbrev E0:XK:=λ_ _ _=>False
def Qr:Passes dY X E0:=λ_ _ _ _ _ _ _ h=>h.elim
structure dG(K:Frag)(x qual:Str)(st:Stmt)(f:Addr)(fd:FuncData):Prop where
 ex:∃(oc:Value)(od:Aaj)(kV doc pm:Value)(an:Aaj)(cT ct:Value)(AW:Aae),
  fd=fnOf x qual (defArgs st) (defBody st) (defScope st) .none kV doc pm an cT ct/\K.lookup f=some {oc,od,.func fd,AW}/\codeIn K cT qual=true
 kp:keepIn K 695=true
section
variable{P:Program}{w:World}{K:Frag}{mg:Aac}{base:Heap}
def dG.ok{st:Stmt}(F:dG K x qual st f fd)(S:bZ N ps (defScope st))(len:∀vs H Q E,sp vs H Q E->vs.length=ps.length)
  (Q5:∀(cT:Value)(A:Around)(outer:List Env)(s:Shared)(H:Hp)(vs:Aan)(Q:VK)(E:XK),iD k (A.deeper (envOfC qual (defScope st) s.heap.objs.size f cT))->sp vs H Q E->
   ∃t,rF (Ng dY P w K mg base N qual (defScope st) f cT A outer s H E).YX (defBody st) t/\t {nx:=λ_ H'=>Q .cz H',rt:=Q} (start N vs) H):cK P w K mg base dY (k+1) f fd ps sp:=by
 obtain⟨oc,od,kV,doc,pm,an,cT,ct,AW,rfl,lk,Cf⟩:=F.ex;refine afb lk Cf S len λA outer s H vs Q E hr Jd=>?_;obtain⟨t,h,q⟩:=Q5 cT A outer s H vs Q E hr Jd;exact{t,h.YX,q}
def dG.binds{st:Stmt}(F:dG K x qual st f fd)
  (h:∀(kV doc pm:Value)(an:Aaj)(cT ct:Value)(us:Aaf),us.length=ps.length->bindArgs 712 {us,[]}=pure (ps.zip us)):Binds K fd ps []:=by
 obtain⟨oc,od,kV,doc,pm,an,cT,ct,AW,rfl,lk,Cf⟩:=F.ex;exact .all (h kV doc pm an cT ct)
def UT{st:Stmt}{kV doc pm cT ct:Value}(l:K.lookup f=some {oc,od,.func 712,AW})
  (c:codeIn K cT qual=true) (k:keepIn K 695=true):dG K x qual st f 712:={⟨oc,od,kV,doc,pm,an,cT,ct,AW,rfl,l,c⟩,k}
def oZ(hr:iD k A):A.units+1<cLine:=gG (Bf (by decide:1<=64) _) hr.units
def bu(h:n<=1000):n<sizeLine:=gG h 7
variable{X:Cx}
def pv(i:Nat)(hN:X.N[i]?=some x:=by rfl)(hv:Z2 X.env.scope x:=by first|exact Or.inl rfl|exact Or.inr (Or.inl rfl)|exact Or.inr (Or.inr rfl))(hd:658=false:=by decide)
  (Cf:(x==("__classdict__":Str))=false:=by decide):PE X (.Name x pos) (acb i):=acP hN hv hd Cf
def fU{A B:Prop}(h:B):if false=true then A else B:=by exact h
def nr{A B:Prop}(h:A):if true=true then A else B:=by exact h
def dS{c A B:Prop}[Decidable c](h1:c->A)(h2:¬c->B):if c then A else B:=by
 by_cases h:c
 ·rw[aK h];exact h1 h
 ·rw[aH h];exact h2 h
def aJ(H H':Hp):Prop:=∀b o,H b=some o->H' b=some o
def aJ.refl(H:Hp):aJ H H:=λ_ _ h=>h
def aJ.trans(a:aJ H H1)(b:aJ H1 H2):aJ H H2:=λc o h=>b c o (a c o h)
def aJ.free(e:aJ H H')(h:H' l=Option.none):H l=Option.none:=by
 cases q:H l with
 |none=>rfl
 |some o=>
  rw[e l o q]at h;cases h
end
section
variable{κ:Type}[DecidableEq κ]
end
def Z8(z:Str):It:={λi _=>i<z.cps.size,λi H x H'=>H'=H/\∃c,z.cps[i]?=some c/\x=.str ⟨#[c]⟩,λi _=>i=z.cps.size}
def Io(hh:A.handled=none)(I:Addr)(x:Str)(t:Tok):
  Walks prog w A I [I] [I] x.cps.size (SignAt x) (λi h=>h.IsStrIter I (strIterType x) x t i):=by
 unfold strIterType;cases x.cps.all (·<128)with
 |true=>exact Walks.strAscii hh I x t
 |false=>exact Walks.strWide hh I x t
def JM(x:Str):["enumerate","zip","dict_itemiterator","dict_reverseitemiterator","odict_iterator","itertools.zip_longest","itertools.pairwise"].contains (strIterType x)=false:=by
 unfold strIterType;cases x.cps.all (·<128)with
 |true=>decide
 |false=>decide
def VM{K:Frag}(it:Addr)(z:Str)(t:Tok):Turn P w K tg (Z8 z) [it] it (λi h=>h.IsStrIter it (strIterType z) z t i) where
 mem:=by simp
 obj:=λi h st b hb=>by
  have e:b=it:=by simpa using hb
  subst e;obtain⟨o,e,c,d⟩:=st;exact{o,e,λv z=>by rw[d]at z;cases z}
 keep:=λi h h' st k=>by obtain⟨o,e,r⟩:=st;exact{o,k it 59 o e,r}
 item:=by intro X hP hw hK hc i pins s Z H E I hf st hg;subst hP hw hK;obtain⟨f0,f1,f2,f3,f4,f5⟩:=hf it 59;refine(Io (prog:=X.prog) (w:=X.w) (I.ok.hd hc) it z t).item i s _ _ hg st λv h' tk hv mT kk=>?_;obtain⟨c,u,Jk,rfl⟩:=hv;obtain⟨o,e,c1,d1⟩:=id mT;exact{_,9,Gj e c1 d1 (JM z) {.str ⟨#[c]⟩,H,(I.turned (λb o hb e=>kk b o (by simpa using hb) e) f0 f1 f3 f4 f5),⟨u,rfl⟩,⟨rfl,c,Jk,rfl⟩,mT,λb hb=>(hf b hb).1}}
 done:=by intro X hP hw hK hc i pins s Z H E I hf st hg;subst hP hw hK;obtain⟨f0,f1,f2,f3,f4,f5⟩:=hf it 59;have e:=hg;subst e;exact(Io (prog:=X.prog) (w:=X.w) (I.ok.hd hc) it z t).done s _ _ st λh' tk kk=>{9,I.turned (λb o hb e=>kk b o (by simpa using hb) e) f0 f1 f3 f4 f5}
 self:=λA i s Q E st h=>by
  unfold strIterType at st;cases hx:z.cps.all (·<128)with
  |true=>rw[hx]at st;exact wpAny_pyIter_striter_ascii st h
  |false=>rw[hx]at st;exact wpAny_pyIter_striter_wide st h
section
variable{X:Cx}{tg:Expr}
inductive aeY(R:It->Hp->Prop)(x:V)(H1:Hp):Prop
 |mk z (_:x=.str z) (_:R (Z8 z) H1)
def afY(tl:TE):TI:=λZ H R=>tl Z H λx H1=>aeY R x H1
def SX(hl:PE X l tl):PI X tg l (afY tl):=by
 intro pins s Z H R I h;refine de (hl pins s Z H _ I h) λv s1 x H1 I1 r1 q1=>?_;obtain⟨z,e,q⟩:=q1;subst e;obtain⟨t,rfl⟩:=r1;refine wpAny_pyIter_strU ?_;have I2:Inv X pins Z H1 {s1 with heap:=s1.heap.push {cls:=.type (strIterType z),data:=.fields #[.str z t,.int 0 0]}}:=I1.kept λb o e=>aj _ e;refine{s1.heap.objs.size,[s1.heap.objs.size],_,Z8 z,H1,9,I2,VM s1.heap.objs.size z t,{_,676,9,9},692,q};have e:b=s1.heap.objs.size:=by simpa using hb
 subst e;exact I1.v9 (aw _) 716
def frees(scope:Scope):Aag:=(scope.names.filter λp=>p.2==.free).map (·.1)
def mO(scope:Scope)(env:Env):List (Str×Addr):=(frees scope).reverse.map λn=>(n,(env.cells.lookup n).getD 0)
theorem HV(env:Env):∀(names:List (Str×NameKind))(cs:List (Str×Addr)),(∀n∈(names.filter λp=>p.2==.free).map (·.1),∃c,env.cells.lookup n=some c)->
  (forIn names cs λ(x:Str×NameKind)(r:List (Str×Addr))=>(if x.2==.free then do let c<-cellOf env x.1;pure (ForInStep.yield ((x.1,c)::r))else pure (ForInStep.yield r):Sem (ForInStep (List (Str×Addr)))))=
   pure ((((names.filter λp=>p.2==.free).map (·.1)).reverse.map λn=>(n,(env.cells.lookup n).getD 0))++cs)
 |[],cs,_=>rfl
 |(n,k)::r,cs,h=>by
  rw[List.forIn_cons];cases hk:(k==NameKind.free)with
  |false=>
   have ih:=HV env r cs (λm hm=>h m (by simpa[cZ,hk]using hm));simp only[hk,gH,kA,cZ,pure_bind];exact ih
  |true=>
   obtain⟨c,hc⟩:=h n (by simp[cZ,hk]);have h':=λm hm=>h m (by
    simp only[cZ,hk,oY,bt];exact aG _ hm)
   have ec:cellOf env n=pure c:=by unfold cellOf;rw[hc]
   simp only[hk,oY,cZ,bt,List.reverse_cons,aE,fI,dF,qo,jP,ec,pure_bind,hc,Option.getD_some];exact(HV env r ((n,c)::cs) h')
def xv(h:∀n∈frees scope,∃c,env.cells.lookup n=some c):closureFor scope env=pure (mO scope env):=by have e:=HV env scope.names [] h;rw[c7]at e;have q:closureFor scope env=((forIn scope.names ([]:List (Str×Addr)) λ(x:Str×NameKind)(r:List (Str×Addr))=>(if x.2==.free then do let c<-cellOf env x.1;pure (ForInStep.yield ((x.1,c)::r))else pure (ForInStep.yield r):Sem (ForInStep (List (Str×Addr)))))>>=λr=>pure r):=9;rw[q,bind_pure];exact e
theorem BV{β:Type}(g:Str->β)(y:Str):∀l:Aag,(l.map λn=>(n,g n)).lookup y=if y∈l then some (g y)else none
 |[]=>by simp
 |n::r=>by
  rw[bt,ji];cases e:(y==n)with
  |true=>
   have e':=dO e;subst e';simp
  |false=>
   have e':y≠n:=λq=>by rw[q]at e;simp at e
   rw[(BV g y r)];simp[e']
def jn(h:∀n∈frees scope,∃c,env.cells.lookup n=some c):(mO scope env).lookup y=some c↔y∈frees scope/\env.cells.lookup y=some c:=by
 unfold mO;rw[BV (λn=>(env.cells.lookup n).getD 0)];by_cases hy:y∈frees scope
 ·obtain⟨d,hd⟩:=h y hy;rw[aK (List.mem_reverse.mpr hy),hd];simp[hy]
 ·rw[aH λq=>hy (List.mem_reverse.mp q)];simp[hy]
theorem BW(f:Str->NameKind->NameKind)(y:Str):∀names:List (Str×NameKind),(names.map λp=>(p.1,f p.1 p.2)).lookup y=(names.lookup y).map (f y)
 |[]=>rfl
 |(n,k)::r=>by
  rw[bt,ji,ji];cases e:(y==n)with
  |true=>
   have e':=dO e;subst e';rfl
  |false=>exact(BW f y r)
def lW(scope:Scope)(env:Env)(y:Str):(relabel scope env).names.lookup y=(scope.names.lookup y).map λk=>if(k==.free&&env.scope.kind==.function&&env.kindOf y==some .cell)=true then NameKind.cell else k:=by
 have e:(relabel scope env).names=scope.names.map λp=>(p.1,(λ(n:Str)(k:NameKind)=>if(k==.free&&env.scope.kind==.function&&env.kindOf n==some .cell)=true then NameKind.cell else k) p.1 p.2):=by refine b8 λp _=>?_;obtain⟨n,k⟩:=p;show(if(k==.free&&env.scope.kind==.function&&env.kindOf n==some .cell)=true then(n,NameKind.cell)else(n,k))=_;split<;>simp_all
 rw[e];exact BW (λ(n:Str)(k:NameKind)=>if(k==.free&&env.scope.kind==.function&&env.kindOf n==some .cell)=true then NameKind.cell else k) y scope.names
end
structure rQ(X:Cx)(scope:Scope)(x:Str)(fs:Aag)(fr:List Nat):Prop where
 kind:scope.kind=.function
 loc:scope.names.lookup x=some .local
 names:∀y∈scope.names,y.2=.local->scope.names.lookup y.1=some .local
 To:∀y∈scope.names,y.2≠ .cell
 free:∀n∈frees scope,X.env.kindOf n=some .cell/\scope.names.lookup n=some .free
 nd:(x::fs).Nodup
 len:fr.length=fs.length
 slots:∀(j:Nat)(y:Str)(k:Nat),fs[j]?=some y->fr[j]?=some k->X.N[k]?=some y/\y∈frees scope
abbrev d7(X:Cx)(N':Aag)(scope:Scope)(C:Addr)(s:Shared)(H:Hp)(ex:Aai):Cx:=
 {X with N:=N',aac:=s,aae:=H,env:=compEnvC scope (mO scope X.env) C X.env,outer:=X.stack,stack:=X.stack,ex:=ex,fn:=λ_=>false,pn:=[],xe:=λ_ _=>False}
def CT(X:Cx)(ifs:List Expr)(tt:TT):Prop:=
 ∀(pins:Aab)(s:Shared)(Z:St)(H:Hp)(Q:Bool->Hp->Prop),Inv X pins Z H s->tt Z H Q->
  wpAny 56 X.A (forIn ifs true λc r=>if r=true then do let ok<-isTrue c X.env (eval c X.env);pure (ForInStep.yield ok)else pure (ForInStep.yield r)) (TP X pins Z Q) X.xe s
def C9:TT:=λ_ H Q=>Q true H
def Gz:CT X [] C9:=λ_ _ _ H _ I h=>wpAny_tests_nil ⟨H,I,h⟩
def Nj(h:PT X c tc):CT X [c] tc:=λpins s Z H Q I hq=>wpAny_tests_one (h pins s Z H Q I hq)
def slotsOf(fr:List Nat)(Z:St):St:=fr.map λk=>(Z[k]?).getD none
def tD(wi:TI)(fr:List Nat)(tt:TT)(te:TE):TE:=λZ H Q=>wi Z H λJ H1=>∃W:Nat->Nat->Aan->Hp->Prop,(∃m,W 0 m [] H1)/\∀i m ys H2,W i m ys H2->
 (J.stop i H2/\ys.length<=sizeLine/\∀l,H2 l=none->Q 727 (upd H2 l 682))\/
 (J.go i H2/\ys.length<sizeLine/\∀v H3,J.DV i H2 v H3->tt (some v::slotsOf fr Z) H3 λb H4=>
  if b=true then te (some v::slotsOf fr Z) H4 (λy H5=>∃m',m'<m/\W (i+1) m' (ys++[y]) H5)else∃m',m'<m/\W (i+1) m' ys H4)
section
variable{X:Cx}
def tJ{h h':Heap}(k:∀b o,h.get? b=some o->h'.get? b=some o)(z:h.IsCell c v):h'.IsCell c v:=by obtain⟨o,e,d⟩:=z;exact{o,k _ _ e,d}
def Inv.adopt(I:Inv X pins Z H s)(hn:H D=none)(e:s.heap.get? D=some {cls:=.type "list",data:=.seq vs.toArray k})(r:Vals ys vs)(hz:ys.length<=sizeLine)
  (h1:X.aac.heap.objs.size<=D) (hL:D≠X.env.locals) (h2:∀x c,X.env.cells.lookup x=some c->c≠D) (h3:∀p∈X.pn++pins,p.1≠D):Inv X pins Z (upd H D 682) s:=by
 have nD:∀b u,H b=some u->b≠D:=λb u q z=>by rw[z,hn]at q;cases q
 have bP:j3 X.prog X.w (upd H D 682) s.heap:=λb u q=>by
  by_cases hb:b=D
  ·subst hb;rw[au]at q;cases q;exact⟨hz,vs,k,r,e⟩
  ·rw[aL hb]at q;exact(I.bP b u q).qJ (λ_ _ _ z=>z) (λc z=>by rw[aL (nD c _ z)];exact z) λc xs z=>by rw[aL (nD c _ z)];exact z
 have J:=I.step (t':=s.toks) (d':=s.drawn) (ch:=[D])
  (λb hb=>by
   have e':b=D:=by simpa using hb
   subst e';exact{.inr h1,hL,h2,h3})
  (λb o _ _ _ q _=>q) (λb o _ _ _ q _=>{o.slots,q}) (λb o hc _ n=>by rw[aL λz=>hc (by simp[z])];exact n) (λb o _ q=>⟨o,q⟩)
  (λb xs q=>by rw[aL (nD b _ q)];exact q) (λb o u q=>by rw[aL (nD b _ q)];exact q) (λb ps q=>{#[],by rw[aL (nD b _ q),q];simp}) (λm hm=>hm) bP I.bare
 exact J
def abS(S:rQ X scope x fs fr)(I2:Inv X pins Z H s2)(I3:Inv X pins Z H s)
  (hD:D=s2.heap.objs.size) (hs:s.heap.objs.size=D+1) (bQ:∀b∈fp,b<D) (f2:∀b∈fp,oI X pins H b):(d7 X (x::fs) scope s.heap.objs.size s H (D::fp)).Ok:=by
 have lX:=λn hn=>I3.ok.has n (.inl (S.free n hn).1);have sub:∀{y:Str}{c:Addr},(mO scope X.env).lookup y=some c->X.env.cells.lookup y=some c:=λh=>((jn lX).mp h).2;refine{I3.ok.mod,S.kind,I3.ok.glob,I3.ok.blt,aw _,λa b c h1 h2=>I3.ok.inj a b c (sub h1) (sub h2),λy hy=>?_,(λ_ _ h=>by cases h),I3.ok.hd,I3.ok.frames,.inl rfl,692,I3.bs,br I3.ok.A5 I3.sz,λb o e hb=>?_,λb hb hf=>?_,I3.stack,I3.GX}
 ·have q:(relabel scope X.env).names.lookup y=some .cell\/(relabel scope X.env).names.lookup y=some .free:=hy;have nf:scope.names.lookup y=some .free:=by
   rw[lW]at q;cases e:scope.names.lookup y with
   |none=>rw[e]at q;simp at q
   |some k=>
    rw[e]at q;cases k with
    |free=>rfl
    |cell=>
     have hm:(y,NameKind.cell)∈scope.names:=by have:=kR.mp e;obtain⟨l1,l2,z,_⟩:=this;rw[z];simp
     exact absurd rfl (S.To _ hm)
    |_=>simp at q
  have hm:y∈frees scope:=by obtain⟨l1,l2,z,_⟩:=kR.mp nf;unfold frees;rw[z];simp
  obtain⟨c,hc⟩:=lX y hm;exact{c,(jn lX).mpr ⟨hm,hc⟩}
 ·rcases aN.mp hb with rfl|hb
  ·refine{λz=>?_,λy c h z=>?_}
   ·exact absurd (hs.symm.trans z.symm:b+1=b) (qi b)
   ·obtain⟨v,q⟩:=I2.cell y c (sub h);have:=q.lt;rw[z,hD]at this;exact absurd this (cX _)
  ·refine{λz=>?_,λy c h=>(f2 b hb).2.2.2.2.1 y c (sub h)};have q:=eO (bQ b hb);rw[z]at q;exact absurd q (by show ¬s.heap.objs.size<D+1;rw[hs];exact cX _)
 ·have gd:=aW e;have h1:=I2.ok.A5;rcases aN.mp hb with rfl|hb
  ·rw[hD]at gd;exact absurd (bw gd (br h1 I2.sz)) (cX _)
  ·rcases(f2 b hb).2.2.2.1 with z|z
   ·exact I2.ok.ES b o e z
   ·exact absurd (bw gd (br h1 z)) (cX _)
 ·have hf':=hf;rcases aN.mp (I2.Fx b hf')with z|z
  ·rcases aN.mp hb with rfl|hb
   ·have:=I2.lt;rw[<-z,hD]at this;exact absurd this (cX _)
   ·exact(f2 b hb).2.1 z
  ·rcases aN.mp hb with rfl|hb
   ·exact I2.WL (rH hD.symm) z
   ·exact(f2 b hb).2.2.1 z
def XS(S:rQ X scope x fs fr)(I3:Inv X pins Z H s)
  (ok:(d7 X (x::fs) scope s.heap.objs.size s H ex).Ok) (hn:h4.Ns s.heap.objs.size m) (old:∀b o,s.heap.get? b=some o->h4.get? b=some o):
  Inv (d7 X (x::fs) scope s.heap.objs.size s H ex) [] (none::slotsOf fr Z) H {s with heap:=h4,toks:=t}:=by
 have lX:=λn hn=>I3.ok.has n (.inl (S.free n hn).1);have sub:∀{y:Str}{c:Addr},(mO scope X.env).lookup y=some c->X.env.cells.lookup y=some c:=λh=>((jn lX).mp h).2;refine{ok,9,I3.bare,Un.kept old,{m,hn,λi y v e1 e2 e3=>?_},λy c h=>?_,I3.bP.fresh (aw _),λy c h=>I3.nB y c (sub h),λp hp=>absurd hp 59,I3.bP.kept old,?_}
 ·cases i with
  |zero=>
   have ud:(none:Aao)=some v:=by simpa using e2
   cases ud
  |succ j=>
   have ud:(slotsOf fr Z)[j]?=some (some v):=by simpa using e2
   unfold slotsOf at ud;rw[aX]at ud;cases hk:fr[j]? with
   |none=>rw[hk]at ud;cases ud
   |some k=>
    rw[hk]at ud;have e4:(Z[k]?).getD none=some v:=by simpa using ud
    have e5:Z[k]?=some (some v):=by
     cases q:Z[k]? with
     |none=>rw[q]at e4;cases e4
     |some z=>rw[q]at e4;exact cP some e4
    obtain⟨n1,n2⟩:=S.slots j y k 728 hk;obtain⟨m0,_,hl⟩:=I3.loc;obtain⟨u,ru,l⟩:=hl k y v n1 e5 (.inr (.inl (S.free y n2).1));have kc:=(S.free y n2).1;rcases l with⟨l,_⟩|⟨_,c,hc,cl⟩
    ·rw[kc]at l;cases l
    ·refine{u,ru,.inr {.inl ?_,c,(jn lX).mpr ⟨n2,hc⟩,tJ old cl}};show(relabel scope X.env).names.lookup y=some .cell;rw[lW,(S.free y n2).2,I3.ok.kind,kc];rfl
 ·obtain⟨v,z⟩:=I3.cell y c (sub h);exact{v,tJ old z}
 ·show(none::slotsOf fr Z).length=(x::fs).length;simp[slotsOf,S.len]
abbrev lobj(vs:Aaf)(k:Nat):Obj:={cls:=.type "list",data:=.seq vs.toArray k}
theorem Oh:∀(xs:Aan)(us:Aaf),xs.length=us.length->(∀(j:Nat)(x:V)(u:Value),xs[j]?=some x->us[j]?=some u->RelV x u)->Vals xs us
 |[],[],_,_=>.nil
 |[],_::_,h,_=>by cases h
 |_::_,[],h,_=>by cases h
 |x::xs,u::us,h,f=>.cons (f 0 x u 9 9) (Oh xs us 717 λj a b e1 e2=>f (j+1) a b 728 (by simpa using e2))
def sI(h:Af k v=true):RelV (kV k) v:=by
 rcases iF h with⟨i,t,rfl,rfl⟩|⟨x,t,rfl,rfl⟩
 ·exact⟨t,rfl⟩
 ·exact⟨t,rfl⟩
def range_all(bs:List Bool):((List.range bs.length).all λi=>(bs[i]?).getD true)=bs.all id:=by
 rw[fb,bL,bL];constructor
 ·intro h b hb;obtain⟨i,hi⟩:=eJ.mp hb;have:=h i (cD.mpr (aq.mp hi).1);rw[hi]at this;exact this
 ·intro h i hi;have bQ:=cD.mp hi;rw[av bQ];exact h _ (kH bQ)
def HX(hc:X.calm=true):ic X (.type "list") (λxs H Q=>∃a kvs,xs=[.ref a]/\H a=some 715/\∀l,H l=none->Q 727 (upd H l (.lst (kvs.map λkv=>kV kv.1)))):=by
 intro pins s Z H xs us Q I r h;obtain⟨a,kvs,rfl,ha,q⟩:=h;obtain⟨u,rfl,ru⟩:=jH r;cases ru;obtain⟨hz,lo,vs,rel,o,es,ep,m⟩:=xu I.bP ha;have hl:=rel.length;refine PySem.W.kdl_call (PySem.W.kdl_dict lo) (I.ok.hd hc) (⟨o,es,m⟩) (hl▸hz) λh' tk uC c' kp e it=>?_;have rv:Vals (kvs.map λkv=>kV kv.1) uC.toList:=by
  refine Oh _ _ (by simp[it.1,hl]) λj x v e1 e2=>?_;obtain⟨k,y,e3,e4⟩:=it.2 j v (by rw[<-dw];exact e2);have e5:(kvs.map (·.1))[j]?=some k:=by rw[rel.keys,aX,e3];rfl
  rw[aX]at e1 e5;cases e6:kvs[j]? with
  |none=>rw[e6]at e1;cases e1
  |some p=>
   rw[e6]at e1 e5;obtain rfl:kV p.1=x:=bT e1;obtain rfl:p.1=k:=bT e5;exact sI e4
 exact{352,_,I.laid kp (aw _) (show dP X.prog X.w _ h' _ (.lst _)from{by rw[ah];exact hz,uC.toList,c',rv,by simpa using e}),9,q _ I.fresh}
def zp(hc:X.calm=true):ic X (.builtin "all") (λxs H Q=>∃(a:Addr)(bs:List Bool),xs=[.ref a]/\bf X.K H a (bs.map V.bl)/\Q (.bl (bs.all id)) H):=by
 intro pins s Z H xs us Q I r h;obtain⟨a,bs,rfl,ha,q⟩:=h;obtain⟨u,rfl,ru⟩:=jH r;cases ru;obtain⟨a9,rv,p,hz⟩:=I.list ha;have hl:a9.length=bs.length:=by have:=rv.length;simpa using this.symm
 have gC:a≠s.heap.objs.size:=by obtain⟨o,n,e,_⟩:=id p;exact aV (aW e)
 refine call_all_walk (lK p.isList ?_);refine{s.heap.objs.size,_,_,a9.toArray.size,_,_,λi=>(bs[i]?).getD true,9,GK (show X.A.in1.handled=none from I.ok.hd hc) s.heap.objs.size a gC a9.toArray,{{_,676,9,9},p.isList.at λo e=>aj _ e},?_,λh' tk kp=>?_}
 ·intro i v s' Q' E' hP hQ;have UN:a9[i]?=some v:=by simpa using hP
  have hi:i<bs.length:=by rw[<-hl];exact(aq.mp UN).1
  obtain⟨u,hu,ru⟩:=rv.get (by rw[aX,av hi];rfl);rw[UN]at hu;cases hu;cases ru;refine eM ?_;have e2:(bs[i]?).getD true=bs[i]:=by rw[av hi];rfl
  rw[<-e2];exact hQ
 ·refine{.bl (bs.all id),H,I.kept λb o e=>kp b o (by simpa using aV (aW e)) (aj _ e),?_,q};show Value.bool _=Value.bool _;rw[aP,hl,range_all]
def jo:ic X (.builtin "isinstance") (λxs H Q=>∃x n t b,xs=[x,.ty n]/\pF X.K H x t/\kitOne X.K t (.type n)=some b/\Q (.bl b) H):=by intro pins s Z H xs us Q I r h;obtain⟨x,n,t,b,rfl,ty,e,q⟩:=h;obtain⟨u,w',rfl,ru,nX⟩:=vals2 r;cases nX;exact T7 I ru ty e λtk=>{.bl b,H,I.tok tk,9,q}
inductive aaP(x:V)(vs:Aan)(H:Hp)(Q:VK):Prop
 |mk a b (_:x=.str a) (_:vs=[.str b]) (_:Q (.bl (Txt.startswith a b)) H)
def JV:Z7 X "str.startswith" aaP:=by intro pins s Z H x vs v us Q I rx rv h;obtain⟨a,b,rfl,rfl,q⟩:=h;obtain⟨t,rfl⟩:=rx;obtain⟨u,rfl,ru⟩:=rv.one;obtain⟨t',rfl⟩:=ru;exact call_gives F.slot_str_startswith (oM s a t) F.entry_str_startswith (F.args_str_startswith_2 _ _) (gives_str_startswith a b t t') {.bl _,H,I,9,q}
inductive afF(x:V)(lo:Option Int)(hi:Option Int)(H:Hp)(Q:VK):Prop
 |mk z (_:x=.str z) (_:z.length<=sizeLine) (_:Q (.str (Txt.slice z lo hi)) H)
def Sq:PU X afF:=by
 intro pins s Z H x v vl vu lo hi sl Q I rx hs pl pu h;obtain⟨z,rfl,hz,q⟩:=h;obtain⟨t,rfl⟩:=rx;cases pl with
 |none=>
  cases pu with
  |none=>exact{"str",_,F.slot_str_getitem.lookup,oM _ _ _,kP (l:=none) (u:=none) (st:=none) hs rfl 686}
  |int j tj=>exact{"str",_,F.slot_str_getitem.lookup,oM _ _ _,kP (l:=none) (u:=some (j,tj)) (st:=none) hs rfl 686}
 |int i ti=>
  cases pu with
  |none=>exact{"str",_,F.slot_str_getitem.lookup,oM _ _ _,kP (l:=some (i,ti)) (u:=none) (st:=none) hs rfl 686}
  |int j tj=>exact{"str",_,F.slot_str_getitem.lookup,oM _ _ _,kP (l:=some (i,ti)) (u:=some (j,tj)) (st:=none) hs rfl 686}
def afl(_i j:Int):Prop:=0<j/\j.natAbs.log2<9000
def Wx:iU X (binaryOp .FloorDiv) (rI afl λi j=>.int (i/j)):=YR λi j _ _ _ _ _ hc q=>by have h1:=hc.1;exact floordiv_int ∅ (by rw[Int.fdiv_eq_ediv_of_nonneg i ∅];exact q) (.inl (PyProof.noPylong_of_log2 hc.2))
mutual
def Dt(K:Frag)(H:Hp):PyData->V->Prop
 | .none,x=>x=.cz
 | .bool b,x=>x=.bl b
 | .int i,x=>x=.int i
 | .str z,x=>x=.str z
 | .list ds,x=>∃a xs,x=.ref a/\bf K H a xs/\mS K H ds xs
 | .tuple ds,x=>∃a xs,x=.ref a/\aY K H a xs/\mS K H ds xs
 | .dict _,_=>False
def mS(K:Frag)(H:Hp):List PyData->Aan->Prop
 |[],xs=>xs=[]
 |d::ds,xs=>∃x r,xs=x::r/\Dt K H d x/\mS K H ds r
end
mutual
theorem nY(I:Inv X pins Z H s):∀(d:PyData)(x:V)(v:Value),Dt X.K H d x->RelV x v->∃as,Reads s.heap v d as
 | .none,x,v,h,r=>by rw[Dt]at h;subst h;cases r;exact{_,.none}
 | .bool b,x,v,h,r=>by rw[Dt]at h;subst h;cases r;exact{_,.bool b}
 | .int i,x,v,h,r=>by rw[Dt]at h;subst h;obtain⟨t,rfl⟩:=r;exact{_,.int i t}
 | .str z,x,v,h,r=>by rw[Dt]at h;subst h;obtain⟨t,rfl⟩:=r;exact{_,.str z t}
 | .list ds,x,v,h,r=>by rw[Dt]at h;obtain⟨a,xs,rfl,hq,ha⟩:=h;cases r;obtain⟨a9,rv,⟨o,n,e,c,_,d⟩,_⟩:=I.list hq;obtain⟨as,ra⟩:=xW I ds xs a9 ha rv;exact{_,.list e c d (by simpa using ra)}
 | .tuple ds,x,v,h,r=>by rw[Dt]at h;obtain⟨a,xs,rfl,hq,ha⟩:=h;cases r;obtain⟨a9,rv,⟨o,e,c,n,d⟩,_⟩:=I.tuple hq;obtain⟨as,ra⟩:=xW I ds xs a9 ha rv;exact{_,.tuple e c d (by simpa using ra)}
 | .dict _,x,v,h,r=>by rw[Dt]at h;exact h.elim
theorem xW(I:Inv X pins Z H s):∀(ds:List PyData)(xs:Aan)(vs:Aaf),mS X.K H ds xs->Vals xs vs->∃as,ReadsAll s.heap vs ds as
 |[],xs,vs,h,r=>by rw[mS]at h;subst h;cases r;exact{_,.nil}
 |d::ds,xs,vs,h,r=>by
  rw[mS]at h;obtain⟨x,r',rfl,h1,h2⟩:=h;cases r with
  |cons r1 r2=>
   obtain⟨as,q1⟩:=nY I d x _ h1 r1;obtain⟨bs,q2⟩:=xW I ds r' _ h2 r2;exact{_,.cons q1 q2}
end
inductive acI(K:Frag)(neg:Bool)(x:V)(y:V)(H:Hp)(Q:VK):Prop
 |mk d e (_:Dt K H d x) (_:Dt K H e y) (_:SeqAt.shaped d=true) (_:SeqAt.shaped e=true) (_:Q (.bl (if neg then !PyData.eqv d e else PyData.eqv d e)) H)
def acU(hu:X.A.units+64<cLine):iU X (compareOp .Eq) (acI X.K false):=by intro pins s Z H x y v u Q I rx ry h;obtain⟨d,e,h1,h2,h3,h4,q⟩:=h;obtain⟨as,r1⟩:=nY I d x v h1 rx;obtain⟨bs,r2⟩:=nY I e y u h2 ry;exact eq_dataH r1 r2 h3 h4 hu {.bl _,H,I,9,q}
def FT(hu:X.A.units+64<cLine):iU X (compareOp .NotEq) (acI X.K true):=by intro pins s Z H x y v u Q I rx ry h;obtain⟨d,e,h1,h2,h3,h4,q⟩:=h;obtain⟨as,r1⟩:=nY I d x v h1 rx;obtain⟨bs,r2⟩:=nY I e y u h2 ry;exact ne_dataH r1 r2 h3 h4 hu {.bl _,H,I,9,q}
theorem ka{K:Frag}:∀zs:Aag,mS K H (zs.map PyData.str) 648
 |[]=>by rw[fI,mS];rfl
 |z::r=>by exact{_,_,9,by rw[Dt],ka r}
theorem kq:∀xs ys:Aag,PyData.eqvAll (xs.map PyData.str) (ys.map PyData.str)=decide (xs=ys)
 |[],[]=>by simp[PyData.eqvAll]
 |[],_::_=>by simp[PyData.eqvAll]
 |_::_,[]=>by simp[PyData.eqvAll]
 |a::r,b::t=>by simp only[bt,PyData.eqvAll,PyData.eqv,kq r t];by_cases h:a=b<;>by_cases h':r=t<;>simp[h,h']
theorem qg:∀zs:Aag,(∀z∈zs,PyData.strOk z=true)->PyData.canLayAll0 (zs.map PyData.str)=true
 |[],_=>rfl
 |z::r,h=>by simp[PyData.canLayAll0,PyData.canLay0,(h z aF),(qg r λy hy=>h y (aG _ hy))]
theorem mL:∀zs:Aag,PyData.depthAll (zs.map PyData.str)=0
 |[]=>rfl
 |_::r=>by simp[PyData.depthAll,PyData.depth,mL r]
def D4(zs:Aag)(h:∀z∈zs,PyData.strOk z=true):SeqAt.shaped (.list (zs.map PyData.str))=true:=by simp[SeqAt.shaped,PyData.canLay0,PyData.depth,qg zs h,mL]
def RD(osc:Scope)(N:Aag)(scope:Scope)(x:Str)(fs:Aag)(fr:List Nat):Bool:=
 scope.kind==.function&&scope.names.lookup x==some .local&&scope.names.all (λy=>!(y.2==.local)||scope.names.lookup y.1==some .local)&&scope.names.all (λy=>!(y.2==.cell))&&
  (frees scope).all (λn=>osc.names.lookup n==some .cell&&scope.names.lookup n==some .free)&&decide ((x::fs).Nodup)&&fr.length==fs.length&&
  (List.range fs.length).all (λj=>match fs[j]?,fr[j]? with|some y,some k=>N[k]?==some y&&decide (y∈frees scope)|_,_=>false)
end
def c9(h:RD X.env.scope X.N scope x fs fr=true:=by kernel_rfl):rQ X scope x fs fr:=by
 unfold RD at h;simp only[bO]at h;obtain⟨⟨⟨⟨⟨⟨⟨h1,h2⟩,h3⟩,h4⟩,h5⟩,h6⟩,h7⟩,h8⟩:=h;refine{dO h1,dO h2,λy hy e=>?_,λy hy e=>?_,λn hn=>?_,aR h6,dO h7,λj y k e1 e2=>?_}
 ·have:=bL.mp h3 y hy;rw[e]at this;simpa using this
 ·have:=bL.mp h4 y hy;rw[e]at this;simp at this
 ·have:=bL.mp h5 n hn;rw[bO]at this;exact{dO this.1,dO this.2}
 ·have:=bL.mp h8 j (cD.mpr (aq.mp e1).1);rw[e1,e2]at this;simp only[bO]at this;exact{dO this.1,aR this.2}
def cn(P:Program)(w:World)(K:Frag)(mg:Aac)(base:Heap)(k:Nat)(x:Str)(ps:Aag)(sp:Sp):Prop:=
 ∃f fd,cK P w K mg base dY k f fd ps sp/\mg x=some 695/\keepIn K 695=true/\Binds K fd ps []
def cl(D:cn X.prog X.w X.K X.mg X.base k x ps sp)(hr:iD j X.A)(ha:PA X (e::es) t)(hk:k<=j:=by decide)(hg:Gl X x:=by rfl)
  (Cd:658=false:=by decide) (he:starEach (e::es) X.env=(false,eval e X.env)::starEach es X.env:=by rfl) (jM:(backTo pos 709).any (·.1)=false:=by rfl):
  PE X 704 (Yo sp [] E0 t):=by
 obtain⟨f,fd,F,m,kp,b⟩:=D;exact aa5 F (hr.mono hk) hg m kp b .nil Qr ha Cd he jM
def FZ(l:Addr)(items:Aak)(n:Nat)(b:Addr)(dd:Aaj)(sl:Aae)(B1:Aak)(n2:Nat)(hs0:¬(!items.isEmpty&&Builtin.List.listTooLong (items.size+B1.size))=true)(Ef:items.size<=sizeLine)(kC:items.size+B1.size<=sizeLine+1):
  Meets (Builtin.«list.extend» {[.ref l,.ref b],[]}) (λ_ R s=>s.heap.get? l=some {cls:=.type "list",dict:=none,data:=.seq items n,slots:=#[]}/\s.heap.get? b=some {cls:=.type "tuple",dict:=dd,data:=.seq B1 n2,slots:=sl}/\R (.ok (.ret Value.none)) {s with heap:=s.heap.update l (Obj.mapSeq λx=>x++B1),toks:=s.toks}):=
 .of_wp λprog w A R s h=>by
  obtain⟨hp,g,d,tk,os⟩:=s;obtain⟨hl,hb,h⟩:=h
  wp_walk using(w6 hl 9 (_hz':=(by rw[Array.size_append];exact kC))),wpAny_loadPart' hl,wpAny_loadPart' hb
  exact⟨_,rfl,h⟩
section
variable{X:Cx}
inductive Wc(K:Frag)(x:V)(vs:Aan)(H:Hp)(Q:VK):Prop
 |mk l b xs zs (_:x=.ref l) (_:vs=[.ref b]) (_:H l=some (.lst xs)) (_:aY K H b zs) (_:xs.length+zs.length<=sizeLine) (_:Q .cz (upd H l (.lst (xs++zs))))
def qV:JL X "list.extend" (Wc X.K):=by
 intro pins s Z H x vs v us Q I rx rv h;obtain⟨l,b,xs,zs,rfl,rfl,hH,hB,hz,q⟩:=h;cases rx;obtain⟨u,rfl,ru⟩:=rv.one;cases ru;obtain⟨z,a9,n,r,hl,e⟩:=I.ya hH;obtain⟨uy,r2,⟨⟨cls,dd,data,sl⟩,e2,ub,n2,hd2⟩,z2⟩:=I.tuple hB;simp only at ub hd2;subst ub hd2;have f9:=r2.length;have hsz:a9.toArray.size+uy.toArray.size<=sizeLine:=by rw[aP,aP];lia
 have QY:¬(!a9.toArray.isEmpty&&Builtin.List.listTooLong (a9.toArray.size+uy.toArray.size))=true:=by rw[LI hsz,tw];exact bD
 refine kZ C1 ⟨_,e,rfl⟩ Bj (AJ _ _)
  (FZ l a9.toArray n b dd sl uy.toArray n2 QY (by rw[aP];lia) ∅) {e,e2,?_}
 refine{.cz,_,I.Hr hH e 59 (r.append r2) ?_,9,q};rw[aC];lia
end
def cut(n:Nat)(C:St->Hp->Prop)(ht:∃t2,rF X (body.drop n) t2/\∀Z H,C Z H->t2 D Z H)
  (hh:∀t2,rF X (body.drop n) t2->∃t,rF X body t/\((∀Z H,C Z H->t2 D Z H)->t D σ0 H0)):∃t,rF X body t/\t D σ0 H0:=by
 obtain⟨t2,p,q⟩:=ht;obtain⟨t,p',q'⟩:=hh t2 p;exact{t,p',q' q}
def Ws(hg:Gl X x)(hm:∃t,X.mg x=some (.int i t))(hd:658=false:=by decide):PE X (.Name x pos) (tC (.int i)):=by obtain⟨t,hm⟩:=hm;exact OM hg hm ⟨t,rfl⟩ hd
def Wr(hg:Gl X x)(hm:∃t,X.mg x=some (.str z t))(hd:658=false:=by decide):PE X (.Name x pos) (tC (.str z)):=by obtain⟨t,hm⟩:=hm;exact OM hg hm ⟨t,rfl⟩ hd
section
variable{X:Cx}{K:Frag}
def Ag(h:X.K=K:=by rfl):PY X (acG K):=h▸eF
def vm(h:X.K=K:=by rfl):PY X (acF K):=h▸bY
def xw(h:X.K=K:=by rfl):ic X (.builtin "len") (λxs H Q=>∃x n,xs=[x]/\aen K x H n/\Q (.int n) H):=h▸cY
def zV(h:X.K=K:=by rfl):iU X (compareOp .In) (YG K false):=h▸BO
def AX(h:X.K=K:=by rfl):iU X (compareOp .NotIn) (YG K true):=h▸qT
def yK{A B:Hp->Prop}(h:A H):C9 Z H (λb H4=>if b=true then A H4 else B H4):=by show(if true=true then A H else B H);exact h
end
end L2
namespace HT
open PySem PySem.Spec PyProof.Rows
section
variable{prog:Program}{w:World}{A:Around}{E:Aad}{s:Shared}
def Bb{t sl:Addr}{items:Aak}{vl vu:Value}{lo hi:Option Int}{Q:Aad}(ht:IsTup s.heap t items)(hs:s.heap.IsSliceOf sl vl vu .none)(pl:IsPart vl lo)(pu:IsPart vu hi)
  (hw:eE items.size 0 lo=0/\eE items.size items.size hi=items.size) (h:Q (.ref t) s):wpAny 58 A (getItem (.ref t) (.ref sl)) Q E s:=by
 obtain⟨os,Mo,ZG,UC⟩:=id hs;unfold getItem
 try with_reducible refine cm ?_
 first|refine ae (ao ?_)|skip
 refine ae (DD ht.typeIs 7 ?_);refine ae (wpAny_callSpecial?_slot ht.typeIs eS
  (b6 eS ht.typeIs Bc ?_ (CG _ _)))
 show wpAny _ _ (Builtin.Tuple.tupleItemsOf (.ref t)>>=_) _ _ s;refine ae (tupleItemsOf_ ht ?_);refine ae (gX (⟨os,Mo,ZG⟩) ?_);refine ae (vG hs pl pu ?_);have agA:653=true:=by rw[hw.1,hw.2];simp
 show wpAny _ _ (if 653=true then _ else _) _ _ s;rw[aK agA];refine ae (ae (gX ht.typeIs ?_));refine ao ?_
 wp_walk
 exact{_,9,ao h}
def XX(ht:IsTup s.heap t vs.toArray)(hb:IsTup s.heap b ws.toArray)(h0:vs=[]->Q (.ref b) s)
  (h1:vs≠[]->ws=[]->Q (.ref t) s) (h2:vs≠[]->ws≠[]->Q 352 {s with heap:=s.heap.push {cls:=.type "tuple",data:=.seq (vs++ws).toArray}})
  (hsz:vs.length+ws.length<=sizeLine):wpAny 58 A (binaryOp .Add (.ref t) (.ref b)) Q E s:=by
 by_cases hv:vs=[]
 ·obtain⟨⟨cls,dd,data,sl⟩,ho,hc,n,hd⟩:=id ht;obtain⟨⟨ahd,ZW,data2,Yy⟩,uR,ub,n2,hd2⟩:=id hb;simp only at hc hd ub hd2;subst hc hd ub hd2;exact Ct ⟨_,ho,rfl⟩ ⟨_,uR,rfl⟩ vT AQ pR pz (oA _ _)
   (tuple_addW0 t b vs.toArray ws.toArray n n2 dd ZW sl Yy (by simp[hv])) {ho,uR,h0 hv}
 ·exact abT ht hb hv (h1 hv) (h2 hv) hsz
end
end HT
namespace L2
open PySem PySem.Spec PyProof.Rows
section
variable{X:Cx}
inductive acD(K:Frag)(x:V)(lo:Option Int)(hi:Option Int)(H:Hp)(Q:VK):Prop
 |mk a xs (_:x=.ref a) (_:aY K H a xs) (_:((HT.eE xs.length 0 lo=0/\HT.eE xs.length xs.length hi=xs.length)->Q (.ref a) H)) (_:(¬(HT.eE xs.length 0 lo=0/\HT.eE xs.length xs.length hi=xs.length)->∀p,H p=none->Q (.ref p) (upd H p (.tup (lD xs lo hi)))))
def OB:PU X (acD X.K):=by
 intro pins s Z H x v vl vu lo hi sl Q I rx hs pl pu h;obtain⟨a,xs,rfl,hx,q1,q2⟩:=h;by_cases hw:HT.eE xs.length 0 lo=0/\HT.eE xs.length xs.length hi=xs.length
 ·cases rx;obtain⟨a9,r,ht,hz⟩:=I.tuple hx;have hlen:a9.toArray.size=xs.length:=aP▸r.length.symm;exact{"tuple",_,eS.lookup,ht.typeIs,HT.Bb ht hs pl pu (by rw[hlen];exact hw) {654,H,I,9,q1 hw}}
 ·exact acs pins s Z H 654 v vl vu lo hi sl Q I rx hs pl pu {a,xs,9,hx,hw,q2 hw}
inductive YH(K:Frag)(x:V)(y:V)(H:Hp)(Q:VK):Prop
 |mk a b xs ys (_:x=.ref a) (_:y=.ref b) (_:aY K H a xs) (_:aY K H b ys) (_:xs.length+ys.length<=sizeLine) (_:(xs=[]->Q (.ref b) H)) (_:(xs≠[]->ys=[]->Q (.ref a) H)) (_:(xs≠[]->ys≠[]->∀p,H p=none->Q (.ref p) (upd H p (.tup (xs++ys)))))
def OP:iU X (binaryOp .Add) (YH X.K):=by intro pins s Z H x y v u Q I rx ry h;obtain⟨a,b,xs,ys,rfl,rfl,ha,hb,hz,q0,q1,q2⟩:=h;cases rx;cases ry;obtain⟨a9,r1,p1,_⟩:=I.tuple ha;obtain⟨uy,r2,p2,_⟩:=I.tuple hb;refine HT.XX p1 p2 (λz=>{.ref b,H,I,9,q0 (r1.yR.mp z)}) (λn z=>{654,H,I,9,q1 (λz=>n (r1.yR.mpr z)) (r2.yR.mp z)}) (λn z=>?_) (by rw[<-r1.length,<-r2.length];exact hz);refine{352,_,I.laid (λb ob q=>aj _ q) (aw _) ?_,9,q2 (λz=>n (r1.yR.mpr z)) (λw=>z (r2.yR.mpr w)) _ 677};exact{aC▸hz,_,r1.append r2,IsTup.new _ _,_,676,9}
inductive afG(K:Frag)(neg:Bool)(x:V)(y:V)(H:Hp)(Q:VK):Prop
 |mk a b xs (_:x=.ref a) (_:y=.ref b) (_:bf K H a xs) (_:bf K H b []) (_:Q (.bl (if neg then !xs.isEmpty else xs.isEmpty)) H)
def FV(hu:X.A.units<cLine):iU X (compareOp .Eq) (afG X.K false):=by
 intro pins s Z H x y v u Q I rx ry h;obtain⟨a,b,xs,rfl,rfl,ha,hb,q⟩:=h;cases rx;cases ry;obtain⟨a9,r1,p1,_⟩:=I.list ha;obtain⟨uy,r2,p2,_⟩:=I.list hb;cases r2;cases xs with
 |nil=>
  cases r1;exact SeqAt.eq_listAt (e:=λ_=>true) p1.isList p2.isList rfl hu (λj h1 _=>absurd h1 (fK _)) {.bl true,H,I,9,q}
 |cons c l=>
  cases r1 with
  |cons r0 r1=>exact SeqAt.eq_list_lengthsAt p1.isList p2.isList 59 hu {.bl false,H,I,9,q}
variable{K:Frag}{a:Addr}{xs:Aan}{fr:List Nat}{tt:TT}{te:TE}{Z:St}{H1:Hp}{R:Addr->Aan->Hp->Prop}
abbrev AL(J:It)(fr:List Nat)(tt:TT)(te:TE)(Z:St)(H1:Hp)(R:Addr->Aan->Hp->Prop):Prop:=
 ∃W:Nat->Nat->Aan->Hp->Prop,(∃m,W 0 m [] H1)/\∀i m ys H2,W i m ys H2->
 (J.stop i H2/\ys.length<=sizeLine/\∀l,H2 l=none->R l ys H2)\/
 (J.go i H2/\ys.length<sizeLine/\∀v H3,J.DV i H2 v H3->tt (some v::slotsOf fr Z) H3 λb H4=>
  if b=true then te (some v::slotsOf fr Z) H4 (λy H5=>∃m',m'<m/\W (i+1) m' (ys++[y]) H5)else∃m',m'<m/\W (i+1) m' ys H4)
def mN(Pv:Nat->Aan->Hp->Prop)(hx:xs.length<sizeLine)(h0:Pv 0 [] H1)(hl:∀i ys H,i<=xs.length->Pv i ys H->aY K H a xs/\ys.length<=i)
  (hs:∀(i:Nat)(x:V)(ys:Aan)(H:Hp)(N:Aan->Hp->Prop),xs[i]?=some x->Pv i ys H->(∀iq H',Pv (i+1) iq H'->N iq H')->
   tt (some x::slotsOf fr Z) H λb H4=>if b=true then te (some x::slotsOf fr Z) H4 (λy H5=>N (ys++[y]) H5)else N ys H4)
  (hd:∀ys H,Pv xs.length ys H->∀l,H l=none->R l ys H):AL (Vx K a) fr tt te Z H1 R:=by
 refine{684,{xs.length,59,aO _,h0},?_};rintro i m ys H ⟨rfl,hi,p⟩;obtain⟨q,hy⟩:=hl i ys H hi p;by_cases bQ:i<xs.length
 ·refine .inr {{xs,_,q,av bQ},8,?_};rintro v H3 ⟨rfl,hv⟩;exact hs i v ys H3 (λiq H'=>∃m',m'<xs.length -i/\m'=xs.length -(i+1)/\i+1<=xs.length/\Pv (i+1) iq H') (hv xs q) p λiq H' p'=>{_,8,9,bQ,p'}
 ·have e:i=xs.length:=by lia
  subst e;exact .inl {{xs,q,aw _},8,hd ys H p}
def iS(Pv:Nat->Aan->Hp->Prop)(hx:xs.length<sizeLine)(h0:Pv 0 [] H1)(hl:∀i ys H,i<=xs.length->Pv i ys H->bf K H a xs/\ys.length<=i)
  (hs:∀(i:Nat)(x:V)(ys:Aan)(H:Hp)(N:Aan->Hp->Prop),xs[i]?=some x->Pv i ys H->(∀iq H',Pv (i+1) iq H'->N iq H')->
   tt (some x::slotsOf fr Z) H λb H4=>if b=true then te (some x::slotsOf fr Z) H4 (λy H5=>N (ys++[y]) H5)else N ys H4)
  (hd:∀ys H,Pv xs.length ys H->∀l,H l=none->R l ys H):AL (Vy K a) fr tt te Z H1 R:=by
 refine{684,{xs.length,59,aO _,h0},?_};rintro i m ys H ⟨rfl,hi,p⟩;obtain⟨q,hy⟩:=hl i ys H hi p;by_cases bQ:i<xs.length
 ·refine .inr {{xs,_,q,av bQ},8,?_};rintro v H3 ⟨rfl,hv⟩;exact hs i v ys H3 (λiq H'=>∃m',m'<xs.length -i/\m'=xs.length -(i+1)/\i+1<=xs.length/\Pv (i+1) iq H') (hv xs q) p λiq H' p'=>{_,8,9,bQ,p'}
 ·have e:i=xs.length:=by lia
  subst e;exact .inl {{xs,q,aw _},8,hd ys H p}
def XQ{z:Str}(Pv:Nat->Aan->Hp->Prop)(hx:z.cps.size<sizeLine)(h0:Pv 0 [] H1)(hl:∀i ys H,i<=z.cps.size->Pv i ys H->ys.length<=i)
  (hs:∀(i:Nat)(c:Nat)(ys:Aan)(H:Hp)(N:Aan->Hp->Prop),z.cps[i]?=some c->Pv i ys H->(∀iq H',Pv (i+1) iq H'->N iq H')->
   tt (some (.str ⟨#[c]⟩)::slotsOf fr Z) H λb H4=>if b=true then te (some (.str ⟨#[c]⟩)::slotsOf fr Z) H4 (λy H5=>N (ys++[y]) H5)else N ys H4)
  (hd:∀ys H,Pv z.cps.size ys H->∀l,H l=none->R l ys H):AL (Z8 z) fr tt te Z H1 R:=by
 refine{λi m ys H=>m=z.cps.size -i/\i<=z.cps.size/\Pv i ys H,{z.cps.size,59,aO _,h0},?_};rintro i m ys H ⟨rfl,hi,p⟩;have hy:=hl i ys H hi p;by_cases bQ:i<z.cps.size
 ·refine .inr {bQ,8,?_};rintro v H3 ⟨rfl,c,hc,rfl⟩;exact hs i c ys H3 (λiq H'=>∃m',m'<z.cps.size -i/\m'=z.cps.size -(i+1)/\i+1<=z.cps.size/\Pv (i+1) iq H') hc p λiq H' p'=>{_,8,9,bQ,p'}
 ·have e:i=z.cps.size:=by lia
  subst e;exact .inl {9,8,hd ys H p}
end
section
variable{P:Program}{w:World}{A:Around}{E:Aad}{z:Shared}
def Aa(g:z.heap.IsTupleIter j p k)(gp:z.heap.IsTuple p a9)(gy:a9[k]?=some y)
  (q:∀h',h'.IsTupleIter j p (k+1)->Heap.SameBut j z.heap h'->Q y {z with heap:=h'}):wpAny 661 A (Builtin.SmallTypes.nextOf (.ref j)) Q E z:=by
 obtain⟨ob,g0,g1,g2⟩:=id g;obtain⟨op,p0,_,np,p2⟩:=gp;refine ae (wpAny_callSpecial?_slot g.typeIs jV (b6 jV g.typeIs uj ?_ (sZ _)));show wpAny _ _ (field (.ref j) 0>>=_) _ _ z;refine ae (dq g0 g2 9 ?_);refine ae (dq g0 g2 9 ?_);refine ae (dh p0 p2 ?_);simp only[eR,gy];exact ae (gL g0 g2 59 (ao {y,9,ao (q _ ({_,eK _ g0 (zu (oF g2 _)),(DO ..).trans g1,by rw[oF g2];simp[rawInt]}) (cE ..))}))
def yS(hd:A.handled=none)(g:z.heap.IsTupleIter j p k)(gp:z.heap.IsTuple p a9)(gy:a9[k]?=none)
  (q:∀h' e,Heap.ExtBut j z.heap h'->(∃o,h'.get? e=some o/\o.cls=.type "StopIteration")->E (.ref e) {z with heap:=h'}):wpAny 661 A (Builtin.SmallTypes.nextOf (.ref j)) Q E z:=by
 obtain⟨ob,g0,g1,g2⟩:=id g;obtain⟨op,p0,_,np,p2⟩:=gp;refine ae (wpAny_callSpecial?_slot g.typeIs jV (b6 jV g.typeIs uj ?_ (sZ _)));show wpAny _ _ (field (.ref j) 0>>=_) _ _ z;refine ae (dq g0 g2 9 ?_);refine ae (dq g0 g2 9 ?_);refine ae (dh p0 p2 ?_);simp only[eR,gy];refine ae (j6 (ae (gL g0 g2 59 ?_)));refine ae ?_;refine ae (cM ?_ (by size_fits));refine ae (DW (by first|rfl|(simp only[firstArgMember];rfl)) ?_);refine cM ?_ (by size_fits);refine ae (wpAny_handled ?_)
 first|rw[show A.in1.handled=none from hd]|rw[hd]
 exact ae (ao (wpAny_throw (q _ _ (((cE ..).extBut.push _).push _) {_,676,9})))
def Js(hd:A.handled=none)(j p:Addr)(gC:p≠j)(a9:Aak):
  Draws P w A j [j,p] a9.size (λk v=>a9[k]?=some v) (λk h=>h.IsTupleIter j p k/\h.IsTuple p a9) where
 live:=λ_ _ st=>let⟨o,ho,_⟩:=st.1;⟨o,ho⟩
 frame:=λ_ _ _ st hk=>by obtain⟨⟨o,ho,r⟩,o',ph,r'⟩:=st;exact{{o,hk j 59 o ho,r},o',hk p 59 o' ph,r'}
 item:=λk s Q E hi st hQ=>Aa st.1 st.2 (y:=a9[k]) (by simp[hi]) λh' mT hs'=>hQ _ h' s.toks (by simp[hi]) {mT,st.2.extBut hs'.extBut gC} hs'
 done:=λs Q E st hE=>yS hd st.1 st.2 59 hE
def U6(p:Addr)(a9:Aak)(n:Nat)(dd:Aaj)(sl:Aae):
  Meets (Builtin.«enumerate.__new__» {[.type "enumerate",.ref p],[]}) (λ_ R s=>s.heap.get? p=some {cls:=.type "tuple",dict:=dd,data:=.seq a9 n,slots:=sl}/\
   R (.ok (.ret (.ref (s.heap.push {cls:=.type "tuple_iterator",data:=.fields #[.ref p,.int 0 0]}).objs.size)))
    {s with heap:=(s.heap.push {cls:=.type "tuple_iterator",data:=.fields #[.ref p,.int 0 0]}).push {cls:=.type "enumerate",data:=.fields #[.none,.bool false,.ref s.heap.objs.size,rawInt 0,.none,.none]}}):=
 .of_wp λprog w A R s h=>by
  obtain⟨hp,g,d,tk,os⟩:=s;obtain⟨hl,h⟩:=h;have WY:=sub_enumerate;have hT:Heap.IsTuple (Shared.heap ⟨hp,g,d,tk,os⟩) p a9:=⟨_,hl,rfl,n,rfl⟩
  wp_walk using AutoSeq1.wpAny_loadPart' hl
  refine wpAny_stack_any λst=>ao ?_;split
  ·rename_i c _ _ _ _ _;cases(c==Value.type "enumerate")
   ·wp_walk using AutoSeq1.wpAny_loadPart' hl,jt hT
    exact⟨_,rfl,h⟩
   ·wp_walk using AutoSeq1.wpAny_loadPart' hl,jt hT
    exact⟨_,rfl,h⟩
  ·wp_walk using AutoSeq1.wpAny_loadPart' hl,jt hT
   exact⟨_,rfl,h⟩
def RG{p:Addr}{a9:Aak}{Q:Aad}(hT:z.heap.IsTuple p a9)
  (q:∀h',IsEnum h' (z.heap.objs.size+1) z.heap.objs.size 0 .none->h'.IsTupleIter z.heap.objs.size p 0->(∀b o,z.heap.get? b=some o->h'.get? b=some o)->Q (.ref (z.heap.objs.size+1)) {z with heap:=h'}):
  wpAny 661 A (call (.type "enumerate") [.ref p]) Q E z:=by
 obtain⟨⟨c,dct,dt,sl⟩,hl,hc,n,hd⟩:=hT
 replace hc:c=.type "tuple":=hc
 replace hd:dt=.seq a9 n:=hd
 subst hc hd;refine callType_new F.called_enumerate 7 (F.typeCall_enumerate_1 _) (F.newCall_enumerate_1 _) (λobj=>F.args_object_init_2 obj _) F.entry_enumerate_new (U6 p a9 n dct sl) {hl,?_};have hz:(z.heap.push {cls:=.type "tuple_iterator",data:=.fields #[.ref p,.int 0 0]}).objs.size=z.heap.objs.size+1:=dj ..;show _/\_;rw[hz];have he:IsEnum ((z.heap.push {cls:=.type "tuple_iterator",data:=.fields #[.ref p,.int 0 0]}).push {cls:=.type "enumerate",data:=.fields #[.none,.bool false,.ref z.heap.objs.size,rawInt 0,.none,.none]}) (z.heap.objs.size+1) z.heap.objs.size 0 .none:=by have:=aU (z.heap.push {cls:=.type "tuple_iterator",data:=.fields #[.ref p,.int 0 0]}) (o:={cls:=.type "enumerate",data:=.fields #[.none,.bool false,.ref z.heap.objs.size,rawInt 0,.none,.none]}) rfl;rw[hz]at this;exact this
 exact{⟨_,he,rfl⟩,q _ he {_,aj _ (aU _ 9),9,9} λb o x=>aj _ (aj _ x)}
variable{X:Cx}{pins:Aab}{Z:St}{H:Hp}{s:Shared}{h':Heap}
def Inv.aaz(I:Inv X pins Z H s)(k:∀b o,b≠e->b≠j->s.heap.get? b=some o->h'.get? b=some o)(fe:oI X pins H e)(fj:oI X pins H j)
  (hp:s.heap.objs.size<=p) (ht:IsTup h' p us.toArray/\∃o,h'.get? p=some o/\o.dict=none) (r:Vals xs us) (hz:xs.length<=sizeLine):Inv X pins Z (upd H p 664) {s with heap:=h',toks:=t'}:=by
 have hn:=I.bP.fresh hp;have fp:=I.v9 hp hn;have nH:∀b u,H b=some u->b≠e/\b≠j/\b≠p:=λb u g=>{(λz=>by rw[z,fe.1]at g;cases g),(λz=>by rw[z,fj.1]at g;cases g),λz=>by rw[z,hn]at g;cases g};refine I.step (ch:=[e,j,p]) 692 (λb o _ _ hc g _=>k b o 703 703 g) (λb o _ _ hc g _=>{o.slots,k b o 703 703 g})
  (λb o hc g n=>by rw[aL λz=>hc (by simp[z])];exact n) (λb o hc g=>{o,k b o 703 703 g})
  (λb ys g=>by rw[aL (nH b _ g).2.2];exact g) (λb o u g=>by rw[aL (nH b _ g).2.2];exact g) (λb ps g=>{#[],by rw[aL (nH b _ g).2.2,g];simp}) (λm hm=>?_) (λb u g=>?_) I.bare
 ·have gd:b=e\/b=j\/b=p:=by simpa using hb
  rcases gd with rfl|rfl|rfl
  ·exact{fe.2.2.2.1,fe.2.1,fe.2.2.2.2.1,fe.2.2.2.2.2}
  ·exact{fj.2.2.2.1,fj.2.1,fj.2.2.2.2.1,fj.2.2.2.2.2}
  ·exact{fp.2.2.2.1,fp.2.1,fp.2.2.2.2.1,fp.2.2.2.2.2}
 ·obtain⟨o,es,ep,ho,r'⟩:=hm;exact{o,es,ep,k _ o (cL fe.2.1) (cL fj.2.1) ho,r'}
 ·by_cases hb:b=p
  ·subst hb;rw[au]at g;cases g;exact⟨hz,us,r,ht⟩
  ·rw[aL hb]at g;refine(I.bP b u g).qJ (λc v hc q=>?_) (λc q=>?_) λc ys q=>?_
   ·rcases hc with z|z
    ·rw[z];rw[z]at q;exact k b v (nH b _ g).1 (nH b _ g).2.1 q
    ·exact k c v (nH c _ z).1 (nH c _ z).2.1 q
   ·rw[aL (nH c _ q).2.2];exact q
   ·rw[aL (nH c _ q).2.2];exact q
def Jr{D:Addr->Prop}{E:Aad}{e j:Addr}{fp:Aai}{n i:Nat}{Pv:Nat->Value->Prop}{St':Nat->Heap->Prop}{old:Value}{elts:List Expr}{kk:Nat}{ps:Pos}{y:V}
  (W:Draws X.prog X.w X.A.in1 j fp n Pv St') (he:IsEnum s.heap e j i old) (st:St' i s.heap) (hi:i<n) (gC:e≠j) (hef:e∉fp) (I:Inv X pins Z H s) (fe:oI X pins H e) (fj:oI X pins H j) (hP:∀u,Pv i u->RelV y u):
  wpAny 56 X.A (pyNext (.ref e)) (λr s1=>∃u,r=some u/\
   wpAny 56 X.A (letOwnedTupleGo (.Tuple elts kk ps) (.ref e) u) (λ_ s2=>∃p,u=.ref p/\H p=none/\Inv X pins Z (upd H p (.tup [.int i,y])) s2/\(∃afP,IsEnum s2.heap e j ((i:Int)+1) afP)/\St' (i+1) s2.heap/\e≠p/\j≠p) E s1) E s:=by
 refine wpAny_pyNext_enum_itemD W he st hi gC hef λx h1 tk hx ho Yp hT hsz hk=>?_;refine{_,9,wpAny_letOwnedTupleGo_enum ho λh2 Ej kC=>?_};have Ji:=aW he;have lJ:j<s.heap.objs.size:=by obtain⟨o,z⟩:=W.live _ _ st;exact aW z
 have QT:=kC;exact{s.heap.objs.size,9,677,I.aaz (λb o n1 n2 g=>QT.extBut b o n1 (hk b o n1 n2 g)) fe fj (aw _) ({{_,QT.extBut _ _ (cq Ji) hT,9,_,9},_,QT.extBut _ _ (cq Ji) hT,9}) (.cons ⟨tk,rfl⟩ (.cons (hP x hx) .nil)) 96,⟨_,Ej⟩,W.frame _ _ _ Yp λb hb o g=>QT.extBut b o (λz=>hef (z▸hb)) g,aV Ji,aV lJ}
end
def Ite(K:Frag)(a:Addr):It:=
 {λi H=>∃xs x,bf K H a xs/\xs[i]?=some x,λi H x H'=>∃p y,x=.ref p/\H p=none/\H'=upd H p (.tup [.int i,y])/\∀xs,bf K H a xs->xs[i]?=some y,λi H=>∃xs,bf K H a xs/\xs.length=i}
def Ii(K:Frag)(a:Addr):It:=
 {λi H=>∃xs x,aY K H a xs/\xs[i]?=some x,λi H x H'=>∃p y,x=.ref p/\H p=none/\H'=upd H p (.tup [.int i,y])/\∀xs,aY K H a xs->xs[i]?=some y,λi H=>∃xs,aY K H a xs/\xs.length=i}
def Cv{h:Heap}(e:h.get? a=some o)(e':h.get? b=some o')(n:o.cls≠o'.cls):a≠b:=λz=>by rw[z,e']at e;cases e;exact n rfl
def R3{K:Frag}(a e j:Addr):Turn P w K (.Tuple elts kk ps) (Ite K a) [e,j] e (λi h=>(∃old,IsEnum h e j i old)/\h.IsListIter j a i/\e≠j) where
 mem:=by simp
 obj:=λi h st b hb=>by
  obtain⟨⟨old,he⟩,⟨o,g,c,d⟩,_⟩:=st;rcases(by simpa using hb)with rfl|rfl
  ·exact{_,he,λv z=>by cases z}
  ·exact{o,g,λv z=>by rw[d]at z;cases z}
 keep:=λi h h' st k=>by obtain⟨⟨old,he⟩,⟨o,g,r⟩,n⟩:=st;exact{{old,k e 59 _ he},{o,k j 59 o g,r},n}
 item:=by
  intro X hP hw hK hc i pins s Z H E I hf st hg;subst hP hw hK;obtain⟨xs,x,hq,hx⟩:=hg;obtain⟨a9,rv,pl,hz⟩:=I.list hq;obtain⟨⟨old,he⟩,hj,gC⟩:=st;have hl:=rv.length;have hil:=(aq.mp hx).1;obtain⟨o0,g0,c0,_⟩:=id pl.isList;obtain⟨o1,g1,c1,_⟩:=id hj;have W:=Draws.list (prog:=X.prog) (w:=X.w) (show X.A.in1.handled=none from I.ok.hd hc) j a (Cv g0 g1 (by rw[c0,c1];decide)) a9.toArray;refine gj (Jr (D:=λ_=>True) (y:=x) W he {hj,pl.isList} (by rw[aP];lia) gC (by simp[gC,(Cv g0 he (by rw[c0];show Value.type "list"≠Value.type "enumerate";decide)).symm]) I (hf e 59) (hf j 59) λu hu=>?_) λr s1 ⟨u,er,h1⟩=>{u,er,gj h1 λ_ s2 ⟨p,eu,hp,I2,Ej,Bp,n1,n2⟩=>?_}
  ·obtain⟨u',oq,ru⟩:=rv.get hx;have y0:a9[i]?=some u:=by simpa using hu
   rw[y0]at oq;cases oq;exact ru
  ·subst eu;refine{666,_,I2,9,{p,x,9,hp,9,λys hy=>by rw[I.LR hy hq];exact hx},{Ej,Bp.1,gC},692};rcases(by simpa using hb)with rfl|rfl
   ·rw[aL n1];exact(hf b 59).1
   ·rw[aL n2];exact(hf b 59).1
 done:=by intro X hP hw hK hc i pins s Z H E I hf st hg;subst hP hw hK;obtain⟨xs,hq,hx⟩:=hg;obtain⟨a9,rv,pl,hz⟩:=I.list hq;obtain⟨⟨old,he⟩,hj,gC⟩:=st;have hl:=rv.length;obtain⟨f0,f1,f2,f3,f4,f5⟩:=hf j 59;exact wpAny_pyNext_enum_end (I.ok.hd hc) he hj pl.isList (by simp;lia) λh' eb=>{9,I.turned (λb o hb g=>eb b o hb g) f0 f1 f3 f4 f5}
 self:=λ_ _ _ _ _ st h=>by obtain⟨⟨old,he⟩,_⟩:=st;exact pC he h
def P8{P:Program}{w:World}{K:Frag}{elts:List Expr}{kk:Nat}{ps:Pos}(a e j:Addr):Turn P w K (.Tuple elts kk ps) (Ii K a) [e,j] e (λi h=>(∃old,IsEnum h e j i old)/\h.IsTupleIter j a i/\e≠j) where
 mem:=by simp
 obj:=λi h st b hb=>by
  obtain⟨⟨old,he⟩,⟨o,g,c,d⟩,_⟩:=st;have gd:b=e\/b=j:=by simpa using hb
  rcases gd with rfl|rfl
  ·exact{_,he,λv z=>by cases z}
  ·exact{o,g,λv z=>by rw[d]at z;cases z}
 keep:=λi h h' st k=>by obtain⟨⟨old,he⟩,⟨o,g,r⟩,n⟩:=st;exact{{old,k e 59 _ he},{o,k j 59 o g,r},n}
 item:=by
  intro X hP hw hK hc i pins s Z H E I hf st hg;subst hP hw hK;obtain⟨xs,x,hq,hx⟩:=hg;obtain⟨a9,rv,pl,hz⟩:=I.tuple hq;have pt:s.heap.IsTuple a a9.toArray:=pl;obtain⟨⟨old,he⟩,hj,gC⟩:=st;have hl:=rv.length;have hil:i<xs.length:=(aq.mp hx).1;obtain⟨o0,g0,c0,_⟩:=id pt;obtain⟨o1,g1,c1,_⟩:=id hj;have nae:a≠e:=Cv g0 he (by rw[c0];show Value.type "tuple"≠Value.type "enumerate";decide);have naj:a≠j:=Cv g0 g1 (by rw[c0,c1];decide);have W:=Js (P:=X.prog) (w:=X.w) (A:=X.A.in1) (show X.A.in1.handled=none from I.ok.hd hc) j a naj a9.toArray;refine gj (Jr (D:=λ_=>True) (y:=x) W he ⟨hj,pt⟩ (by rw[aP];lia) gC (by simp[gC,nae.symm]) I (hf e 59) (hf j 59) λu hu=>?_) λr s1 ⟨u,er,h1⟩=>{u,er,gj h1 λ_ s2 ⟨p,eu,hp,I2,Ej,Bp,n1,n2⟩=>?_}
  ·obtain⟨u',oq,ru⟩:=rv.get hx;have y0:a9[i]?=some u:=by simpa using hu
   rw[y0]at oq;cases oq;exact ru
  ·subst eu;refine{666,_,I2,9,{p,x,9,hp,9,λys hy=>by rw[I.tR hy hq];exact hx},{Ej,Bp.1,gC},692};have gd:b=e\/b=j:=by simpa using hb
   rcases gd with rfl|rfl
   ·rw[aL n1];exact(hf b 59).1
   ·rw[aL n2];exact(hf b 59).1
 done:=by
  intro X hP hw hK hc i pins s Z H E I hf st hg;subst hP hw hK;obtain⟨xs,hq,hx⟩:=hg;obtain⟨a9,rv,pl,hz⟩:=I.tuple hq;have pt:s.heap.IsTuple a a9.toArray:=pl;obtain⟨⟨old,he⟩,hj,gC⟩:=st;have hl:=rv.length;obtain⟨o0,g0,c0,_⟩:=id pt;obtain⟨o1,g1,c1,_⟩:=id hj;have naj:a≠j:=Cv g0 g1 (by rw[c0,c1];decide);have ei:i=a9.toArray.size:=by rw[aP];lia
  subst ei;obtain⟨f0,f1,f2,f3,f4,f5⟩:=hf j 59;have W:=Js (P:=X.prog) (w:=X.w) (A:=X.A.in1) (show X.A.in1.handled=none from I.ok.hd hc) j a naj a9.toArray;exact wpAny_pyNext_enum_endD W he ⟨hj,pt⟩ λh' eb=>{9,I.turned (t':=s.toks) (λb o hb g=>eb b o hb g) f0 f1 f3 f4 f5}
 self:=λ_ _ _ _ _ st h=>by obtain⟨⟨old,he⟩,_⟩:=st;exact pC he h
section
variable{X:Cx}{elts:List Expr}{kk:Nat}{ps:Pos}
inductive adz(K:Frag)(R:It->Hp->Prop)(vs:Aan)(H1:Hp):Prop
 |mk a (_:vs=[.ref a]) (_:(∃xs,bf K H1 a xs)) (_:R (Ite K a) H1)
def ae0(K:Frag)(ta:TA):TI:=λZ H R=>ta Z H λvs H1=>adz K R vs H1
inductive abx(K:Frag)(R:It->Hp->Prop)(vs:Aan)(H1:Hp):Prop
 |mk a (_:vs=[.ref a]) (_:(∃xs,aY K H1 a xs)) (_:R (Ii K a) H1)
def ady(K:Frag)(ta:TA):TI:=λZ H R=>ta Z H λvs H1=>abx K R vs H1
def PB(I:Inv X pins Z H s):∀b∈[s.heap.objs.size+1,s.heap.objs.size],oI X pins H b:=λb hb=>by
 rcases(by simpa using hb)with rfl|rfl
 ·exact I.v9 (fq _) (I.bP.fresh (fq _))
 ·exact I.v9 (aw _) 677
def aaZ(hg:Gl X "enumerate")(hm:X.mg "enumerate"=none)(ha:PA X [a] ta)(hs:starEach [a] X.env=[(false,eval a X.env)]:=by rfl):PI X (.Tuple elts kk ps) (.Call (.Name "enumerate" p) [a] [] pos) (ae0 X.K ta):=by intro pins s Z H R I h;refine GQ (qY I hg hm boot_enumerate (eG 698 hs 9));obtain⟨l,e,⟨xs,hq⟩,q⟩:=q1;subst e;obtain⟨u,rfl,ru⟩:=jH r1;cases ru;obtain⟨a9,rv,pl,hz⟩:=I1.list hq;refine call_enumerate_list pl.isList λh' he hj _ hk=>?_;refine pC he ?_;exact{_,_,_,_,H1,9,(I1.kept (t':=s1.toks) hk),R3 l _ s1.heap.objs.size,{⟨_,he⟩,hj,qi _},PB I1,q}
def Li{a:Expr}{ta:TA}{p pos:Pos}(hg:Gl X "enumerate")(hm:X.mg "enumerate"=none)(ha:PA X [a] ta)(hs:starEach [a] X.env=[(false,eval a X.env)]:=by rfl):PI X (.Tuple elts kk ps) (.Call (.Name "enumerate" p) [a] [] pos) (ady X.K ta):=by intro pins s Z H R I h;refine GQ (qY I hg hm boot_enumerate (eG 698 hs 9));obtain⟨l,e,⟨xs,hq⟩,q⟩:=q1;subst e;obtain⟨u,rfl,ru⟩:=jH r1;cases ru;obtain⟨a9,rv,pl,hz⟩:=I1.tuple hq;refine RG (show s1.heap.IsTuple l a9.toArray from pl) λh' he hj hk=>?_;have I2:Inv X pins Z H1 {s1 with heap:=h'}:=I1.kept (t':=s1.toks) hk;refine pC he ?_;exact{_,_,_,_,H1,9,I2,P8 l _ s1.heap.objs.size,{⟨_,he⟩,hj,qi _},PB I1,q}
def Xo{K:Frag}{g:TG}{tb:TS}{D:Ends}(Pv:Nat->St->Hp->Prop)(h0:Pv 0 Z H)(hl:∀i Z H,i<=xs.length->Pv i Z H->bf K H a xs)
  (hs:∀i x p Z H,xs[i]?=some x->Pv i Z H->H p=none->g 666 Z (upd H p (.tup [.int i,x])) λσ2 H2=>tb {D with nx:=Pv (i+1),ct:=Pv (i+1),bk:=D.nx} σ2 H2) (hd:∀Z H,Pv xs.length Z H->D.nx Z H):vq (Ite K a) g tb D Z H:=by
 refine Cn Pv h0 (λi Z H hi p=>?_) λZ H p=>{{xs,hl _ Z H (aw _) p,9},hd Z H p};have q:=hl i Z H (bC hi) p;refine{{xs,_,q,av hi},?_};rintro x H' ⟨r,z,rfl,hr,rfl,y⟩;exact hs i z r Z H (y xs q) p hr
def UZ{K:Frag}{a:Addr}{xs:Aan}{g:TG}{tb:TS}{D:Ends}{Z:St}{H:Hp}(Pv:Nat->St->Hp->Prop)(h0:Pv 0 Z H)(hl:∀i Z H,i<=xs.length->Pv i Z H->aY K H a xs)
  (hs:∀i x p Z H,xs[i]?=some x->Pv i Z H->H p=none->g 666 Z (upd H p (.tup [.int i,x])) λσ2 H2=>tb {D with nx:=Pv (i+1),ct:=Pv (i+1),bk:=D.nx} σ2 H2) (hd:∀Z H,Pv xs.length Z H->D.nx Z H):
  ∃W:Nat->Nat->St->Hp->Prop,(∃m,W 0 m Z H)/\∀i m Z H,W i m Z H->
   ((Ii K a).stop i H/\D.nx Z H)\/((Ii K a).go i H/\∃N:St->Hp->Prop,(∀σ' H',N σ' H'->∃m',m'<m/\W (i+1) m' σ' H')/\∀x H',(Ii K a).DV i H x H'->g x Z H' λσ2 H2=>tb {D with nx:=N,ct:=N,bk:=D.nx} σ2 H2):=by
 refine{λi m Z H=>m=xs.length -i/\i<=xs.length/\Pv i Z H,{xs.length,59,aO _,h0},?_};rintro i m Z H ⟨rfl,hi,p⟩;have q:=hl i Z H hi p;by_cases bQ:i<xs.length
 ·refine .inr {{xs,xs[i],q,by simp[bQ]},Pv (i+1),λσ' H' p'=>{xs.length -(i+1),8,9,bQ,p'},λx H' y=>?_};obtain⟨r,z,rfl,hr,rfl,y⟩:=y;exact hs i z r Z H (y xs q) p hr
 ·have e:i=xs.length:=by lia
  subst e;exact .inl {⟨xs,q,rfl⟩,hd Z H p}
def J3(j:Nat)(t:TE):TS:=λD Z H=>t Z H λv H1=>D.nx (Z.set j (some v)) H1
variable{K:Frag}
def V2(h:X.K=K:=by rfl):PU X (acC K):=h▸yI
variable{prog:Program}{w:World}{A:Around}{E:Aad}
def Gs:typeLookup (.type "list") "__getattr__"=pure none:=by rw[jI,gn];kernel_rfl
def M5:typeLookup (.type "list") "keys"=pure none:=by rw[jI,gn];kernel_rfl
def abH{sl}{os:OsState}(hx:h.get? a=some {cls:=.type "list",dict:=none,data:=.seq a9 n,slots:=sl})(hA:A.handled=none)
  (k:∀h' tk e,Heap.NewAttrErr h h' e 654 "keys"->E (.ref e) ⟨h',g,d,tk,os⟩):
  wpAny 58 A (Builtin.«object.__getattribute__» {[.ref a,.str "keys" u],[]}) Q E ⟨h,g,d,t,os⟩:=by
 have f4:=M5
 repeat (any_goals (first|(assumption)|(wp_step)))
 exact zy hA k (attrMsg_fits 53 (by size_fits))
def abK{sl}{os:OsState}(hx:h.get? a=some {cls:=.type "list",dict:=none,data:=.seq a9 n,slots:=sl})(hA:A.handled=none)
  (k:∀h' tk e,Heap.NewAttrErr h h' e 654 "keys"->R (.error (.ref e)) ⟨h',g,d,tk,os⟩):
  codeAny 58 A (.call (.builtin "list.__getattribute__") {[.ref a,.str "keys" u],[]}) R ⟨h,g,d,t,os⟩:=
 rn F.slot_list_getattribute.plain F.entry_list_ga (F.slot_list_getattribute.check _ _ _ _ _ _ _ _ (show(⟨h,g,d,t,os⟩:Shared).TypeIs 654 "list"from⟨_,hx,rfl⟩) (F.args_list_getattribute_2 _ _) (abH hx hA k))
def afg{sl}{os:OsState}(hx:h.get? a=some {cls:=.type "list",dict:=none,data:=.seq a9 n,slots:=sl})(hA:A.handled=none)
  (k:∀h' tk e,Heap.NewAttrErr h h' e 654 "keys"->E (.ref e) ⟨h',g,d,tk,os⟩):
  wpAny 58 A (getAttrBy 654 (.str "keys" u) false) Q E ⟨h,g,d,t,os⟩:=by
 have g2:=F.slot_list_getattribute.lookup;have g3:=F.slot_list_getattribute.bind 654;have f5:=Gs;have f1:=nQ
 repeat (any_goals (first|(assumption)|(wp_step)))
 refine abK hx hA λh' tk e ne=>?_;obtain⟨t',u',he⟩:=ne.there
 repeat (any_goals (first|(assumption)|(wp_step)))
 exact k _ _ _ ne
def abL{sl}{os:OsState}(hx:h.get? a=some {cls:=.type "list",dict:=none,data:=.seq a9 n,slots:=sl})(hA:A.handled=none)
  (k:∀h' tk e,Heap.NewAttrErr h h' e 654 "keys"->Q none ⟨h',g,d,tk,os⟩):
  wpAny 58 A (getAttr? 654 "keys") Q E ⟨h,g,d,t,os⟩:=by
 have f1:=nQ
 repeat (any_goals (first|assumption|(with_reducible refine afg hx hA λh' tk e ne=>?_)|wp_step))
 obtain⟨t',u',he⟩:=ne.there
 repeat (any_goals (first|(assumption)|(wp_step)))
 exact k _ _ _ ne
theorem Paired.at':∀{l₁:List α}{aab:List β}{i:Nat}{x:α},Paired F l₁ aab->l₁[i]?=some x->∃y,aab[i]?=some y/\F x y
 |_,_,_,_,.nil,e=>by simp at e
 |_,_,0,_,.cons r _,e=>by simp at e;subst e;exact⟨_,rfl,r⟩
 |_,_,i+1,x,.cons _ t,e=>by obtain⟨y,h1,h2⟩:=Paired.at' t (by simpa using e);exact{y,by simpa using h1,h2}
def sT:entryFor table "dict.update.loop"=some Builtin.«dict.update.loop»:=entryFor_of_tree (by kernel_rfl)
def Nt(prog:Program)(w:World)(h0:Heap)(x:Value)(kv:Key×Value):Prop:=∃t o n ku,x=.ref t/\h0.get? t=some o/\o.cls=.type "tuple"/\o.data=.seq #[ku,kv.2] n/\(bU prog w).is kv.1 ku=true
def abI(hA:A.handled=none)(m7:h0.get? d=none)(hi0:h0.get? it=none)(hdi:d≠it)
  (hl:h0.IsList l items.toArray) (hp:Paired (Nt prog w h0) items pairs) (hsz:pairs.length<=sizeLine) (g:Array GenState) (dr:Drawn) (os:OsState)
  (k:∀h' tk,(∀b o,h0.get? b=some o->h'.get? b=some o)->h'.DictOf (bU prog w) d (merged [] pairs)->R (.ok (.ret .none)) ⟨h',g,dr,tk,os⟩):
  ∀(m i:Nat)(h:Heap)(tk:Nat),items.length -i=m->i<=items.length->(∀b o,h0.get? b=some o->h.get? b=some o)->h.IsListIter it l i->h.DictOf (bU prog w) d (merged [] (pairs.take i))->
   codeAny 58 A (.builtin "dict.update.loop" {[.ref d,.ref it,rawInt i,.none],[]}) R ⟨h,g,dr,tk,os⟩:=by
 intro m
 induction m with
 |zero=>
  intro i h tk em hi kp hit hd;have ei:i=items.length:=by lia
  refine eX sT ?_;obtain⟨ol,Gd,hlc,nl,hld⟩:=hl;refine ae (yB (show(A.under _).handled=none from hA) hit {ol,kp _ _ Gd,hlc,nl,hld} (by rw[ei];simp) λh' hs=>?_);refine ae (ao 660);rw[ei,(bb hp),aT]at hd;exact k h' _ (λb o hb=>hs b o (λe=>by rw[e,hi0]at hb;cases hb) (kp b o hb)) (hd.extBut hs hdi)
 |succ m ih=>
  intro i h tk em hi kp hit hd;have bQ:i<items.length:=by lia
  obtain⟨x,hx⟩:∃x,items[i]?=some x:={_,av bQ};obtain⟨kv,rY,t,o,n,ku,rfl,hto,htc,htd,Uv⟩:=Paired.at' hp hx;refine eX sT ?_;obtain⟨ol,Gd,hlc,nl,hld⟩:=hl;refine ae (xD hit {ol,kp _ _ Gd,hlc,nl,hld} (by simpa using hx) λh1 agT Ef=>?_);have kp1:=λb o hb=>(Ef.2 b (λe=>by rw[e,hi0]at hb;cases hb)).trans (kp b o hb);refine ae (cm (ae (yA ?_)));refine ae (gX {o,kp1 _ _ hto,htc} ?_);refine ae (dh (kp1 _ _ hto) htd 660);have lm:(merged [] (pairs.take i)).length<=sizeLine:=by have e1:=qd [] (pairs.take i);rw[aZ]at e1;simp only[jQ]at e1;lia
  refine cm (rU Uv (hd.sameBut Ef hdi) λh2 hd2 kC=>?_);refine ao {jE _ 53,?_};have Q0:h2.IsListIter it l (i+1):=by obtain⟨oi,Jg,r⟩:=agT;exact{oi,(kC.2 it (cL hdi)).trans Jg,r}
  exact ih (i+1) h2 _ ∅ bQ (λb o hb=>(kC.2 b (λe=>by rw[e,m7]at hb;cases hb)).trans (kp1 b o hb)) Q0 (by rw[vU [] pairs i kv rY];exact hd2)
def abJ(hA:A.handled=none)(pl:PlainL s.heap p items.toArray)(hp:Paired (Nt prog w s.heap) items pairs)(hsz:pairs.length<=sizeLine)
  (k:∀h' tk,(∀b o,s.heap.get? b=some o->h'.get? b=some o)->h'.DictOf (bU prog w) s.heap.objs.size (merged [] pairs)->Q 352 {s with heap:=h',toks:=tk}):
  wpAny 58 A (call (.type "dict") [.ref p]) Q E s:=by
 refine callType_codes (Q₁:=λv1 z1=>v1=.ref s.heap.objs.size/\z1={s with heap:=s.heap.push {cls:=.type "dict",data:=.dict #[]}}) F.kt_called_dict (AI _) DS (kt_code_dict_new _ ⟨rfl,rfl⟩) ?_;rintro v1 z1 ⟨rfl,rfl⟩;obtain⟨m6,g,dr,tk,os⟩:=s;obtain⟨⟨oc,od,oda,AW⟩,n,ho,hc,hdn,hdd⟩:=pl;subst hc hdn hdd;have Ah:(m6.push {cls:=.type "dict",data:=.dict #[]}).DictOf (bU prog w) m6.objs.size []:=xB m6;have y9:=aj {cls:=.type "dict",data:=.dict #[]} ho;refine{Ah.typeIs,C2 _ _,?_};refine ae ?_;refine ae (jG Ah.typeIs 660);show wpAny 58 _ (Builtin.Dict.updateFrom "dict.__init__" m6.objs.size 666 [] .none) _ _ _;refine ae (gX ⟨_,y9,rfl⟩ ?_);refine ae (abL y9 hA λh2 tk2 e ne=>?_);refine ae (j6 ?_);refine ae (lK {_,(ne.keeps _ _ y9),9,n,9} ?_);have kp:∀b o,m6.get? b=some o->(h2.push {cls:=.type "list_iterator",data:=.fields #[.ref p,.int 0 0]}).get? b=some o:=λb o hb=>aj _ (ne.keeps _ _ (aj _ hb));have hd2:h2.DictOf (bU prog w) m6.objs.size []:=by obtain⟨o',es,ep,h',r⟩:=Ah;exact{o',es,ep,ne.keeps _ _ h',r}
 have ld:m6.objs.size<h2.objs.size:=by obtain⟨o',es,ep,h',r⟩:=hd2;exact aW h'
 refine ao {jE _ 53,?_};refine abI (show A.in1.handled=none from hA) (mR (aw _)) (mR (bC ld)) (aV ld) ⟨_,ho,rfl,n,rfl⟩ hp hsz g dr os (λh' Ku Ja pw=>{9,k h' Ku Ja pw}) items.length 0 _ _ rfl (aO _) kp ?_ (hd2.push _);exact{_,676,9,9}
end
section
variable{X:Cx}
inductive acJ(K:Frag)(xs:Aan)(H:Hp)(Q:VK):Prop
 |mk p ys kvs (_:xs=[.ref p]) (_:bf K H p ys) (_:Paired (λ(y:V)(kv:Key×V)=>∃t,y=.ref t/\H t=some (.tup [kV kv.1,kv.2])) ys kvs) (_:∀d,H d=none->Q (.ref d) (upd H d (.dK (ky [] kvs))))
theorem Lo(ok:j3 P w H h):∀{ys:Aan}{us:Aaf}{kvs:List (Key×V)},Vals ys us->Paired (λ(y:V)(kv:Key×V)=>∃t,y=.ref t/\H t=some (.tup [kV kv.1,kv.2])) ys kvs->∃ps,Paired (Nt P w h) us ps/\KV kvs ps
 |_,_,_,.nil,.nil=>{[],.nil,.nil}
 |_,_,_,.cons (b:=u) r t,.cons (b:=kv) ⟨a,ea,ha⟩ q=>by
  obtain⟨ps,h1,h2⟩:=Lo ok t q;subst ea;cases(show u=Value.ref a from r);obtain⟨_,a9,ri,⟨o,e1,e2,n,e3⟩,_⟩:=(show dP P w H h a (.tup [kV kv.1,kv.2])from ok a _ ha)
  match a9,ri with
  |[ku,vu],.cons rk (.cons rv .nil)=>exact{(kv.1,vu)::ps,.cons {a,o,n,ku,9,e1,e2,e3,pW rk} h1,.cons ⟨rfl,rv⟩ h2}
def GD(hA:X.A.handled=none):ic X (.type "dict") (acJ X.K):=by
 intro pins s Z H xs us Q I r h;obtain⟨p,ys,kvs,rfl,hq,hk,q⟩:=h;obtain⟨u,rfl,rx⟩:=jH r;cases rx;obtain⟨a9,r',pl,hz⟩:=I.list hq;obtain⟨ps,h1,h2⟩:=Lo I.bP r' hk;have l1:=bb h1;have l2:=r'.length;refine abJ hA pl h1 ∅ λh' tk kp hd=>?_;have rel:=KV.merge h2 .nil;have lz:(ky [] kvs).length<=sizeLine:=by have e1:=qd [] ps;rw[rel.length];simp only[jQ]at e1;lia
 exact{352,_,I.laid kp (aw _) (wc lz (cS.mpr (cL (aV I.big))) rel hd),9,q _ 677}
variable{prog:Program}{w:World}{A:Around}{s:Shared}{R:Result->Shared->Prop}
theorem RE(Iv:Nat->Shared->Prop)
  (turn:∀n z,Iv n z->wpAny 58 A (pyNext it) (λr z1=>match r with
   |none=>R (.ok .next) z1
   |some v=>wpAny 58 A (letOwnedTupleGo tg it v) (λ_ y2=>wpAny 58 A (assign tg env v) (λ_ z2=>
     wpAny 58 A (forIn ifs true λc r=>if r=true then do let ok<-isTrue c env (eval c env);pure (ForInStep.yield ok)else pure (ForInStep.yield r)) (λok z3=>
      if ok=true then wpAny 58 A (eval elt env) (λx z4=>
       wpAny 58 A (call (.builtin "list.append") [acc,x]) (λ_ z5=>∃m,m<n/\Iv m z5) (notedBy 58 A env λe z'=>R (.error e) z') z4) (notedBy 58 A env λe z'=>R (.error e) z') z3
      else∃m,m<n/\Iv m z3) (notedBy 58 A env λe z'=>R (.error e) z') z2) (notedBy 58 A env λe z'=>R (.error e) z') y2) (notedBy 58 A env λe z'=>R (.error e) z') z1) (notedBy 58 A env λe z'=>R (.error e) z') z)
  (n:Nat) (h:Iv n s):codeAny 58 A (.compLoop 662 0 it acc env) R s:=by
 refine codeAny_loop rfl Iv (λn z hI=>?_) n h;refine wpAny_noted ?_;refine ae (AN (ae (dy (turn n z hI) (λr z1 q1=>?_) λ_ _ q=>q)));cases r with
 |none=>exact ao q1
 |some v=>
  refine ae (dy q1 (λ_ z2 q3=>ae (dy q3 (λ_ z3 q4=>ae (dy q4 (λok z4 q5=>?_) λ_ _ q=>q)) λ_ _ q=>q)) λ_ _ q=>q);cases ok with
  |false=>exact ao ⟨rfl,q5⟩
  |true=>exact ae (ae (dy q5 (λx z5 q6=>ae (dy q6 (λ_ z6 q7=>ao (ao ⟨rfl,q7⟩)) λ_ _ q=>q)) λ_ _ q=>q))
end
structure tq(X:Cx)(scope:Scope)(x:Str)(more fs:Aag)(fr:List Nat):Prop where
 one:rQ X scope x fs fr
 qx:(x::more++fs).Nodup
def tS(wi:TI)(k:Nat)(fr:List Nat)(g:TG)(tt:TT)(te:TE):TE:=λZ H Q=>wi Z H λJ H1=>∃W:Nat->Nat->Aan->Hp->Prop,(∃m,W 0 m [] H1)/\∀i m ys H2,W i m ys H2->
 (J.stop i H2/\ys.length<=sizeLine/\∀l,H2 l=none->Q 727 (upd H2 l 682))\/
 (J.go i H2/\ys.length<sizeLine/\∀v H3,J.DV i H2 v H3->∀own:St,own.length=k->g v (own++slotsOf fr Z) H3 λσ4 H4=>∃Lu,σ4=Lu++slotsOf fr Z/\Lu.length=k/\tt σ4 H4 λb H5=>
  if b=true then te σ4 H5 (λy H6=>∃m',m'<m/\W (i+1) m' (ys++[y]) H6)else∃m',m'<m/\W (i+1) m' ys H5)
section
variable{X:Cx}
def LB(N2:Aag)(h:(d7 X N1 scope C s H ex).Ok):(d7 X N2 scope C s H ex).Ok:=
 {h.mod,h.kind,h.glob,h.blt,h.above,h.inj,h.has,h.PQ,h.hd,h.frames,h.Sd,h.MY,h.bs,h.A5,h.ES,h.Ai,h.sR,h.Jp}
def Vk(S:tq X scope x more fs fr)(I3:Inv X pins Z H s)
  (ok:(d7 X (x::fs) scope s.heap.objs.size s H ex).Ok) (hn:h4.Ns s.heap.objs.size m) (old:∀b o,s.heap.get? b=some o->h4.get? b=some o):
  Inv (d7 X (x::more++fs) scope s.heap.objs.size s H ex) [] (List.replicate (more.length+1) none++slotsOf fr Z) H {s with heap:=h4,toks:=t}:=by
 have J:=XS (t:=t) S.one I3 ok hn old;refine{LB _ J.ok,J.os,J.bare,J.base,?_,J.cell,J.free,J.nB,J.pin,J.bP,?_}
 ·obtain⟨m1,Mq,hl⟩:=J.loc;refine{m1,Mq,λi y v e1 e2 e3=>?_};by_cases hi:i<more.length+1
  ·have e2:=e2;rw[ke (gx▸hi),wZ,aK hi]at e2;cases e2
  ·obtain⟨j,rfl⟩:∃j,i=more.length+1+j:={i -(more.length+1),8};rw[h9 (by rw[gx];lia),gx,wX]at e2;rw[h9 (by rw[bE];lia),bE,wX]at e1;exact hl (j+1) y v 728 (by simpa using e2) e3
 ·show(List.replicate (more.length+1) none++slotsOf fr Z).length=((x::more)++fs).length;simp[slotsOf,S.one.len];lia
def Jz{elt iter tg:Expr}{x:Str}{more:Aag}{g:TG}{ifs:List Expr}{scope:Scope}{pos:Pos}{wi:TI}{fs:Aag}{fr:List Nat}{tt:TT}{te:TE}{use:Option (Value->Sem Unit)}{R:Aad}{pins:Aab}{s:Shared}{Z:St}{H:Hp}{Q:VK}{Hh:Pos}(hc:X.calm=true)(ST:tq X scope x more fs fr)(hi:PI X tg iter wi)(hg:∀C s H ex,PG 643 tg g)
  (ht:∀C s H ex,CT 643 ifs tt) (he:∀C s H ex,PE 643 elt te) (hs:∀z,foldedSetIterable iter X.env z=pure z)
  (I:Inv X pins Z H s) (h:tS wi (more.length+1) fr g tt te Z H Q)
  (agU:∀(D C:Addr)(s':Shared)(H':Hp)(ys:Aan)(vs:Aaf)(k:Nat)(m:Aac),Inv X pins Z H' s'->D<C->X.aac.heap.objs.size<=D->X.env.locals<D->(∀y c,X.env.cells.lookup y=some c->c<D)->(∀p∈X.pn++pins,p.1<D)->
   s'.heap.get? D=some (lobj vs k)->H' D=none->H' C=none->s'.heap.Ns C m->Vals ys vs->ys.length<=sizeLine->(∀l,H' l=none->Q 727 (upd H' l 682))->compPost 56 X.A X.xe use R (.ref D) C (.ok .next) s'):
  wpAny 56 X.A (comprehension 662 scope X.env Hh (newList []) false (eval iter X.env) use) R X.xe s:=by
 have S:=ST.one;refine vv (use:=use) rfl hs (xv λn hn=>I.ok.has n (.inl (S.free n hn).1)) S.kind S.names ?_;refine gj (hi pins s Z H _ I h) λv s1 h1=>gj h1 λZk s2 h2=>?_;obtain⟨it,fp,tn,J,H2,e,I2,T,Bp,f2,W,⟨m0,w0⟩,turn⟩:=h2;subst e;have bQ:∀b∈fp,b<s2.heap.objs.size:=λb hb=>by obtain⟨o,e,_⟩:=T.obj 0 _ Bp b hb;exact aW e
 refine cM (wpAny_newFunctionEnv S.To (by intro y hy;simp at hy) (λh4 HK WZ=>?_) S.kind);dsimp only at HK WZ⊢;generalize MG:s2.heap.push {cls:=.type "list",dict:=none,data:=.seq ([]:Aaf).toArray}=g3 at HK WZ⊢;have hC:g3.objs.size=s2.heap.objs.size+1:=by rw[<-MG,dj]
 have zW:∀b o,s2.heap.get? b=some o->g3.get? b=some o:=λb o e=>MG▸aj _ e;have I3:Inv X pins Z H2 {s2 with heap:=g3}:=I2.kept (t':=s2.toks) zW;have X2:g3.get? s2.heap.objs.size=some (lobj [] 0):=MG▸aU _ rfl;have BP:∀b o,g3.get? b=some o->h4.get? b=some o:=λb o e=>WZ.extBut b o (aV (aW e)) (aj _ e);have ok1:=abS (s:={s2 with heap:=g3}) (D:=s2.heap.objs.size) (fp:=fp) S I2 I3 rfl hC bQ f2;have ok:=LB (x::more++fs) ok1;have I4:=Vk (t:=s2.toks+([]:List (Str×Value)).length) ST I3 ok1 HK BP;have Ep:=ok.MY s2.heap.objs.size aF;have U9:=ok.Ai s2.heap.objs.size aF;have EX:∀{H':Hp}{vs:Aaf}{k:Nat},(∀b∈fp,H' b=none)->∀b∈fp,oI 331 [(s2.heap.objs.size,lobj vs k)] H' b:=λ{H' vs k} hn b hb=>by
  have q:=ok.MY b (aG _ hb);refine{hn b hb,q.1,ok.Ai b (aG _ hb),.inl (aG _ hb),q.2,689};have e:p=(s2.heap.objs.size,lobj vs k):=by simpa using hp
  rw[e];exact cq (bQ b hb)
 have start:Inv 331 [(s2.heap.objs.size,lobj [] 0)] (List.replicate (more.length+1) none++slotsOf fr Z) H2 {s2 with heap:=h4,toks:=s2.toks+([]:List (Str×Value)).length}:=
  I4.qv λp hp=>by
   have e:p=(s2.heap.objs.size,lobj [] 0):=by simpa using hp
   subst e;exact{BP _ _ X2,I2.bP.fresh (aw _),Ep.1,U9,λv z=>by cases z}
 have Sb:tn 0 h4:=T.keep 0 _ _ Bp λb _ o e=>BP b o (zW b o e);have fin:∀{i:Nat}{σ0:St}{H':Hp}{ys:Aan}{vs:Aaf}{k:Nat}{s':Shared},Inv 331 [(s2.heap.objs.size,lobj vs k)] (σ0++slotsOf fr Z) H' s'->Vals ys vs->ys.length<=sizeLine->
   (∀l,H' l=none->Q 727 (upd H' l 682))->compPost 56 X.A X.xe use R (.ref s2.heap.objs.size) g3.objs.size (.ok .next) s':=by
  intro i σ0 H' ys vs k s' J1 rv hz q;obtain⟨m,hn,_⟩:=id J1.loc;have below:∀y c,X.env.cells.lookup y=some c->c<s2.heap.objs.size:=λy c z=>by obtain⟨v,q⟩:=I2.cell y c z;exact q.lt
  have mX:∀p∈X.pn++pins,p.1<s2.heap.objs.size:=λp hp=>aW (I2.pin p hp).1;have I5:Inv X pins Z H' s':=I3.ZX (ch:=s2.heap.objs.size::fp) J1.os J1.base J1.bP J1.bare λb hb=>by
   rcases aN.mp hb with e|hb
   ·rw[e];exact{.inr I2.sz,cq I2.lt,λy c z=>aV (below y c z),λp hp=>aV (mX p hp)}
   ·exact{(f2 b hb).2.2.2.1,(f2 b hb).2.1,(f2 b hb).2.2.2.2.1,(f2 b hb).2.2.2.2.2}
  have qt:s2.heap.objs.size<g3.objs.size:=by(first|lia|omega)
  obtain⟨eD,nD,_⟩:=J1.pin (s2.heap.objs.size,lobj vs k) 59;exact agU _ _ s' H' ys vs k m I5 qt I2.sz I2.lt below mX eD nD J1.free hn rv hz q
 have loop:∀s4:Shared,s4={s2 with heap:=h4,toks:=s2.toks+([]:List (Str×Value)).length}->
   codeAny 56 X.A (.compLoop 662 0 (.ref it) (.ref s2.heap.objs.size) (compEnvC scope (mO scope X.env) g3.objs.size X.env))
    (compPost 56 X.A X.xe use R (.ref s2.heap.objs.size) g3.objs.size) s4:=by
  rintro s4 rfl;refine RE (λn s'=>∃i σ0 H' ys vs k,σ0.length=more.length+1/\Inv 331 [(s2.heap.objs.size,lobj vs k)] (σ0++slotsOf fr Z) H' s'/\tn i s'.heap/\(∀b∈fp,H' b=none)/\Vals ys vs/\W i n ys H') ?_ m0
   {0,List.replicate (more.length+1) none,H2,[],[],0,gx,start,Sb,λb hb=>(f2 b hb).1,.nil,w0}
  rintro n s' ⟨i,σ0,H',ys,vs,k,h0,J1,st,UU,rv,w1⟩;rcases turn i n ys H' w1 with⟨stop,hz,q⟩|⟨go,hz,step⟩
  ·refine gj (T.done 331 9 9 9 hc i _ s' _ H' _ J1 (EX UU) st stop) λr s5 agk=>?_;obtain⟨hr,J2⟩:=agk;subst hr;exact fin (i:=i) J2 rv hz q
  ·refine gj (T.item 331 9 9 9 hc i _ s' _ H' _ J1 (EX UU) st go) λr s5 agj=>?_;obtain⟨u,hr,h5⟩:=agj;subst hr;refine gj h5 λ_ s6 agi=>?_;obtain⟨v,H6,J6,r6,y6,KA,fr6⟩:=agi;have J6':=J6.pinned (fp:=fp) (EX fr6) (T.obj _ _ KA);refine dy (hg _ _ _ _ _ s6 _ H6 v u _ J6' r6 (step v H6 y6 σ0 h0)) (λ_ s7 agh=>?_) (λ_ _ z=>z.elim);obtain⟨σ7,H7,J7,own,e7,l7,q7⟩:=agh;subst e7;have SY:∀{σ8:St}{H8:Hp}{s8:Shared},Inv 331 ([(s2.heap.objs.size,lobj vs k)]++yN fp s6.heap) σ8 H8 s8->
     tn (i+1) s8.heap/\∀b∈fp,H8 b=none:=λ{σ8 H8 s8} J8=>by
    refine{T.keep _ _ _ KA λb hb o e=>(J8.pin (b,o) (bc _ (bc _ (oU hb e)))).1,692};obtain⟨o,e,d⟩:=T.obj _ _ KA b hb;exact(J8.pin (b,o) (bc _ (bc _ (oU hb e)))).2.1
   refine dy (ht _ _ _ _ _ s7 _ H7 _ J7 q7) (λok8 s8 agg=>?_) (λ_ _ z=>z.elim);obtain⟨H8,J8,q8⟩:=agg;cases ok8 with
   |false=>
    rw[aH bD]at q8;rw[aH bD];obtain⟨m',hm,w8⟩:=q8;obtain⟨t8,n8⟩:=SY J8;exact{m',hm,i+1,own,H8,ys,vs,k,l7,J8.vx,t8,n8,rv,w8}
   |true=>
    rw[aK rfl]at q8;rw[aK rfl];refine dy (he _ _ _ _ _ s8 _ H8 _ J8 q8) (λy s9 agf=>?_) (λ_ _ z=>z.elim);obtain⟨yv,H9,J9,r9,m',hm,w9⟩:=agf;obtain⟨t9,n9⟩:=SY J9;obtain⟨eD,nD,_⟩:=J9.pin (s2.heap.objs.size,lobj vs k) 59;have hl:=rv.length;refine kZ ui ⟨_,eD,rfl⟩ sj (rP _ _) (uV s2.heap.objs.size vs.toArray k y (by rw[aP];(first|lia|omega))) {eD,?_};have eN:=wy (h:=s9.heap) (l:=s2.heap.objs.size) (items:=vs.toArray) (n:=k) eD (·.push y);have eV:vs.toArray.push y=(vs++[y]).toArray:=by simp
    rw[eV]at eN;obtain⟨k',eN⟩:∃k',(s9.heap.update s2.heap.objs.size (Obj.mapSeq (·.push y))).get? s2.heap.objs.size=some (lobj (vs++[y]) k'):=⟨_,eN⟩;have K9:Inv 331 [] (own++slotsOf fr Z) H9 s9:=J9.qv λp hp=>absurd hp 59;have K10:Inv 331 [] (own++slotsOf fr Z) H9 {s9 with heap:=s9.heap.update s2.heap.objs.size (Obj.mapSeq (·.push y))}:=
     K9.turned (t':=s9.toks) (it:=s2.heap.objs.size) (λb o hb e=>(cv s9.heap (Obj.mapSeq (·.push y)) (cL hb)).trans e) nD Ep.1 (.inl aF) Ep.2 (λp hp=>absurd hp 59)
    refine{m',hm,i+1,own,H9,ys++[yv],vs++[y],k',l7,K10.qv λp hp=>?_,T.keep _ _ _ t9 λb hb o e=>(cv s9.heap (Obj.mapSeq (·.push y)) (cq (bQ b hb))).trans e,n9,rv.append (.cons r9 .nil),w9};have e:p=(s2.heap.objs.size,lobj (vs++[y]) k'):=ay.mp hp;rw[e];exact{eN,nD,Ep.1,U9,λv z=>by cases z}
 exact yf (loop _ 9) (T.self X.A 0 _ _ _ Sb (loop _ 9))
def IK(hc:X.calm=true)(ST:tq X scope x more fs fr)(hi:PI X tg iter wi)(hg:∀C s H ex,PG 643 tg g)
  (ht:∀C s H ex,CT 643 ifs tt) (he:∀C s H ex,PE 643 elt te) (hs:∀z,foldedSetIterable iter X.env z=pure z:=by intro _;rfl):
  PE X 662 (tS wi (more.length+1) fr g tt te):=by
 intro pins s Z H Q I h;rw[eval_ListComp];refine Jz hc ST hi hg ht he hs I h ?_;intro D C s' H' ys vs k m I5 qt lo lt below mX eD nD nC hn rv hz q;refine{m,hn,λh' sb=>?_};have I6:Inv X pins Z H' {s' with heap:=h'}:=I5.turned (t':=s'.toks) (it:=C) (λb o hb e=>sb.extBut b o hb e) nC (cq (dI lt qt)) (.inr (bC (gG lo qt))) (λy c z=>aV (dI (below y c z) qt)) (λp hp=>aV (dI (mX p hp) qt));have eD':h'.get? D=some (lobj vs k):=sb.extBut _ _ (aV qt) eD;exact{.ref D,_,I6.adopt nD eD' rv hz lo (cq lt) (λy c z=>aV (below y c z)) (λp hp=>aV (mX p hp)),9,q _ nD}
def BM{elt iter tg:Expr}{x y:Str}{py xI:Pos}{j:Nat}{more:Aag}{g:TG}{ifs:List Expr}{scope:Scope}{pos:Pos}{wi:TI}{fs:Aag}{fr:List Nat}{tt:TT}{te:TE}(hN:X.N.Nodup)(hj:X.N[j]?=some y)(hy:X.env.scope.names.lookup y=some .local)(hc:X.calm=true)(ST:tq X scope x more fs fr)(hi:PI X tg iter wi)(hg:∀C s H ex,PG 643 tg g)
  (ht:∀C s H ex,CT 643 ifs tt) (he:∀C s H ex,PE 643 elt te) (hs:∀z,foldedSetIterable iter X.env z=pure z:=by intro _;rfl)
  (Mh:swapsWith 662 (some (.Name y py)) xI.line X.env=pure true:=by rfl):PS X (.Assign [.Name y py] 662 xI) (J3 j (tS wi (more.length+1) fr g tt te)):=by
 intro pins s Z H D I h;obtain⟨Q,eQ⟩:∃Q:VK,Q=λv H1=>D.nx (Z.set j (some v)) H1:=⟨_,rfl⟩;have h:tS wi (more.length+1) fr g tt te Z H Q:=by rw[eQ];exact h
 have S:=ST.one;rw[exec_Assign_Name_used _ _ _ _ Mh];refine ae (AN (ae ?_));show wpAny _ _ (comprehension 662 scope X.env _ (newList []) false (eval iter X.env) (some (assign (.Name y py) X.env))>>=λ_=>pure ()) _ _ s;refine ae (dy (Jz (Q:=Q) (R:=λ_ s'=>SP X pins D .next s') hc ST hi hg ht he hs I h ?_) (λ_ s' hq=>ao (ao hq)) λ_ _ e=>e);intro D1 C s' H' ys vs k m I5 qt lo lt below mX eD nD nC hn rv hz q;have I7:=I5.adopt nD eD rv hz lo (cq lt) (λy c z=>aV (below y c z)) (λp hp=>aV (mX p hp));refine DE (Iw (v:=.ref D1) I7 hN hj (.inl hy) 9 (λs3 I8 bJ=>?_) (.inr hy));obtain⟨a,sb,ha⟩:=bJ;refine{m,hn.sameBut sb ?_,λh' Bx=>?_}
 ·rcases ha with e|e
  ·rw[e];exact cq (dI lt qt)
  ·exact cq (dI (below _ _ e) qt)
 ·have nC2:upd H' D1 682 C=none:=by rw[aL (cq qt)];exact nC
  have I9:Inv X pins (Z.set j (some (.ref D1))) (upd H' D1 682) {s3 with heap:=h'}:=I8.turned (t':=s3.toks) (it:=C) (λb o hb e=>Bx.extBut b o hb e) nC2 (cq (dI lt qt)) (.inr (bC (gG lo qt)))
   (λy c z=>aV (dI (below y c z) qt)) (λp hp=>aV (dI (mX p hp) qt))
  have q':=q _ nD;rw[eQ]at q';exact⟨_,_,I9,q'⟩
def Iu(wi:TI)(fr:List Nat)(tt:TT)(te:TE):tD wi fr tt te=tS wi 1 fr (xq 0) tt te:=by
 funext Z H Q;unfold tD tS;congr 1;funext J H1;refine propext (exists_congr λW=>and_congr_right λ_=>?_);refine forall_congr' λi=>forall_congr' λm=>forall_congr' λys=>forall_congr' λH2=>forall_congr' λ_=>?_;refine or_congr Ij (and_congr_right λ_=>and_congr_right λ_=>forall_congr' λv=>forall_congr' λH3=>forall_congr' λ_=>?_);constructor
 ·intro h own ho
  match own,ho with
  |[o],_=>exact{[some v],9,9,h}
 ·intro h;obtain⟨o4,e,l,q⟩:=h [none] rfl;exact q
def Lm(hc:X.calm=true)(S:rQ X scope x fs fr)(hi:PI X 674 iter wi)
  (ht:∀C s H ex,CT 685 ifs tt) (he:∀C s H ex,PE 685 elt te) (hs:∀z,foldedSetIterable iter X.env z=pure z:=by intro _;rfl):
  PE X (.ListComp elt [{674,iter,ifs,0}] scope pos) (tD wi fr tt te):=by
 rw[Iu];exact IK (more:=[]) hc {S,S.nd} hi (λC s H ex=>sJ (i:=0) S.nd 9 (Or.inl (j9 S.loc)) (.inr (j9 S.loc))) ht he hs
def kU(hc:X.calm=true)(S:rQ X scope x fs fr)(hi:PI X 674 iter wi)
  (he:∀C s H ex,PE 685 elt te) (hs:∀z,foldedSetIterable iter X.env z=pure z:=by intro _;rfl):
  PE X (.ListComp elt [{674,iter,[],0}] scope pos) (tD wi fr C9 te):=Lm hc S hi (λ_ _ _ _=>Gz) he hs
def mw(hc:X.calm=true)(S:rQ X scope x fs fr)(hi:PI X 674 iter wi)
  (ht:∀C s H ex,PT 685 c tc) (he:∀C s H ex,PE 685 elt te) (hs:∀z,foldedSetIterable iter X.env z=pure z:=by intro _;rfl):
  PE X (.ListComp elt [{674,iter,[c],0}] scope pos) (tD wi fr tc te):=Lm hc S hi (λC s H ex=>Nj (ht C s H ex)) he hs
def NJ(hN:X.N.Nodup)(hj:X.N[j]?=some y)(hy:X.env.scope.names.lookup y=some .local)
  (hc:X.calm=true) (S:rQ X scope x fs fr) (hi:PI X 674 iter wi)
  (ht:∀C s H ex,CT 685 ifs tt) (he:∀C s H ex,PE 685 elt te) (hs:∀z,foldedSetIterable iter X.env z=pure z:=by intro _;rfl)
  (Mh:swapsWith (.ListComp elt [{674,iter,ifs,0}] scope pos) (some (.Name y py)) xI.line X.env=pure true:=by rfl):
  PS X (.Assign [.Name y py] (.ListComp elt [{674,iter,ifs,0}] scope pos) xI) (J3 j (tD wi fr tt te)):=by
 rw[Iu];exact BM (more:=[]) hN hj hy hc {S,S.nd} hi (λC s H ex=>sJ (i:=0) S.nd 9 (Or.inl (j9 S.loc)) (.inr (j9 S.loc))) ht he hs Mh
def oP{elt iter:Expr}{x y:Str}{px py xI:Pos}{scope:Scope}{pos:Pos}{wi:TI}{fs:Aag}{fr:List Nat}{te:TE}{j:Nat}(hN:X.N.Nodup)(hj:X.N[j]?=some y)(hy:X.env.scope.names.lookup y=some .local)
  (hc:X.calm=true) (S:rQ X scope x fs fr) (hi:PI X 674 iter wi)
  (he:∀C s H ex,PE 685 elt te) (hs:∀z,foldedSetIterable iter X.env z=pure z:=by intro _;rfl)
  (Mh:swapsWith (.ListComp elt [{674,iter,[],0}] scope pos) (some (.Name y py)) xI.line X.env=pure true:=by rfl):
  PS X (.Assign [.Name y py] (.ListComp elt [{674,iter,[],0}] scope pos) xI) (J3 j (tD wi fr C9 te)):=NJ hN hj hy hc S hi (λ_ _ _ _=>Gz) he hs Mh
def vQ(hc:X.calm=true)(S:tq X scope x more fs fr)(hi:PI X tg iter wi)(hg:∀C s H ex,PG 643 tg g)
  (he:∀C s H ex,PE 643 elt te) (hs:∀z,foldedSetIterable iter X.env z=pure z:=by intro _;rfl):
  PE X (.ListComp elt [{tg,iter,[],0}] scope pos) (tS wi (more.length+1) fr g C9 te):=IK hc S hi hg (λ_ _ _ _=>Gz) he hs
def o7(h:RD X.env.scope X.N scope x fs fr=true:=by kernel_rfl)(h2:decide (x::more++fs).Nodup=true:=by kernel_rfl):tq X scope x more fs fr:={c9 h,aR h2}
def vk{K:Frag}(hc:X.calm=true)(h:Nu X es t)(hK:X.K=K:=by rfl)
  (hn:(assignEach es X.env).length=n:=by rfl) (AZ:(assignEach es X.env).findIdx? (·.1)=none:=by rfl):PG X (.Tuple es k pos) (Xn K n t):=hK▸jy hc h hn AZ
def jR(hN:decide X.N.Nodup=true:=by kernel_rfl)(hi:X.N[i]?=some x:=by rfl)(hl:X.env.scope.names.lookup x=some .local:=by first|rfl|exact j9 rfl):PG X (.Name x pos) (xq i):=
 sJ (aR hN) hi (.inl hl) (.inr hl)
variable{K:Frag}{a:Addr}{xs:Aan}{fr:List Nat}{tt:TT}{te:TE}{Z:St}{H1:Hp}{R:Addr->Aan->Hp->Prop}
abbrev Kf(K:Frag):TG:=Xn K 2 (Rc (xq 0) (Rc (xq 1) adW))
abbrev C3(J:It)(k:Nat)(fr:List Nat)(g:TG)(tt:TT)(te:TE)(Z:St)(H1:Hp)(R:Addr->Aan->Hp->Prop):Prop:=
 ∃W:Nat->Nat->Aan->Hp->Prop,(∃m,W 0 m [] H1)/\∀i m ys H2,W i m ys H2->
 (J.stop i H2/\ys.length<=sizeLine/\∀l,H2 l=none->R l ys H2)\/
 (J.go i H2/\ys.length<sizeLine/\∀v H3,J.DV i H2 v H3->∀own:St,own.length=k->g v (own++slotsOf fr Z) H3 λσ4 H4=>∃Lu,σ4=Lu++slotsOf fr Z/\Lu.length=k/\tt σ4 H4 λb H5=>
  if b=true then te σ4 H5 (λy H6=>∃m',m'<m/\W (i+1) m' (ys++[y]) H6)else∃m',m'<m/\W (i+1) m' ys H5)
def Hj{v a b:V}{own rest:St}(ho:own.length=2)(ev:v=.ref p)(hp:aY K H p [a,b])(h:Q (some a::some b::rest) H):Kf K v (own++rest) H Q:=by
 match own,ho with
 |[o1,o2],_=>exact⟨p,_,ev,hp,rfl,_,_,rfl,_,_,rfl,rfl,h⟩
def Cu(Pv:Nat->Aan->Hp->Prop)(hx:xs.length<sizeLine)(h0:Pv 0 [] H1)(hl:∀i ys H,i<=xs.length->Pv i ys H->aY K H a xs/\ys.length<=i)
  (hs:∀(i:Nat)(x:V)(ys:Aan)(H:Hp)(N:Aan->Hp->Prop),xs[i]?=some x->Pv i ys H->(∀iq H',Pv (i+1) iq H'->N iq H')->
   ∃p b c,x=.ref p/\aY K H p [b,c]/\tt (some b::some c::slotsOf fr Z) H λt H4=>if t=true then te (some b::some c::slotsOf fr Z) H4 (λy H5=>N (ys++[y]) H5)else N ys H4)
  (hd:∀ys H,Pv xs.length ys H->∀l,H l=none->R l ys H):C3 (Vx K a) 2 fr (Kf K) tt te Z H1 R:=by
 refine{684,{xs.length,59,aO _,h0},?_};rintro i m ys H ⟨rfl,hi,p⟩;obtain⟨q,hy⟩:=hl i ys H hi p;by_cases bQ:i<xs.length
 ·refine .inr {{xs,_,q,av bQ},8,?_};rintro v H3 ⟨rfl,hv⟩ own ho;obtain⟨pp,b,c,ev,hp,h⟩:=hs i v ys H3 (λiq H'=>∃m',m'<xs.length -i/\m'=xs.length -(i+1)/\i+1<=xs.length/\Pv (i+1) iq H') (hv xs q) p λiq H' p'=>{_,8,9,bQ,p'};exact Hj ho ev hp {[some b,some c],9,9,h}
 ·have e:i=xs.length:=by lia
  subst e;exact .inl {{xs,q,aw _},8,hd ys H p}
def GB(Pv:Nat->Aan->Hp->Prop)(hx:xs.length<sizeLine)(h0:Pv 0 [] H1)(hl:∀i ys H,i<=xs.length->Pv i ys H->bf K H a xs/\ys.length<=i)
  (hs:∀(i:Nat)(x:V)(ys:Aan)(H:Hp)(N:Aan->Hp->Prop),xs[i]?=some x->Pv i ys H->(∀iq H',Pv (i+1) iq H'->N iq H')->
   ∃p b c,x=.ref p/\aY K H p [b,c]/\tt (some b::some c::slotsOf fr Z) H λt H4=>if t=true then te (some b::some c::slotsOf fr Z) H4 (λy H5=>N (ys++[y]) H5)else N ys H4)
  (hd:∀ys H,Pv xs.length ys H->∀l,H l=none->R l ys H):C3 (Vy K a) 2 fr (Kf K) tt te Z H1 R:=by
 refine{684,{xs.length,59,aO _,h0},?_};rintro i m ys H ⟨rfl,hi,p⟩;obtain⟨q,hy⟩:=hl i ys H hi p;by_cases bQ:i<xs.length
 ·refine .inr {{xs,_,q,av bQ},8,?_};rintro v H3 ⟨rfl,hv⟩ own ho;obtain⟨pp,b,c,ev,hp,h⟩:=hs i v ys H3 (λiq H'=>∃m',m'<xs.length -i/\m'=xs.length -(i+1)/\i+1<=xs.length/\Pv (i+1) iq H') (hv xs q) p λiq H' p'=>{_,8,9,bQ,p'};exact Hj ho ev hp {[some b,some c],9,9,h}
 ·have e:i=xs.length:=by lia
  subst e;exact .inl {{xs,q,aw _},8,hd ys H p}
end
def qX(a b:Str):Bool:=!decide (b.cps.toList<a.cps.toList)
def Di(a b:Str):qX a b=true↔a.cps.toList<=b.cps.toList:=by unfold qX;rw[DT,decide_eq_false_iff_not];exact Ij
def IZ(a b c:Str)(h1:qX a b=true)(h2:qX b c=true):qX a c=true:=by rw[Di]at*;exact List.le_trans h1 h2
def WT{a b:Str}(h1:qX a b=true)(h2:qX b a=true):a=b:=by rw[Di]at*;exact ext_toList (List.le_antisymm h1 h2)
def TN(a b:Str):(qX a b||qX b a)=true:=by
 rcases List.le_total a.cps.toList b.cps.toList with h|h
 ·rw[(Di a b).mpr h,Bool.true_or]
 ·rw[(Di b a).mpr h,Bool.or_true]
def eW(zs:Aag):Aag:=zs.mergeSort qX
def hZ(zs:Aag):(eW zs).Perm zs:=Bh zs qX
def Fz(zs:Aag):(eW zs).Pairwise (λa b=>qX a b=true):=wY IZ TN zs
theorem D6:∀(r:Aag)(p:Str),risingS p r=true->(p::r).Pairwise (λa b=>qX a b=true)
 |[],p,_=>by simp
 |x::r,p,h=>by
  have h':(!ltCps x.cps.toList p.cps.toList&&risingS x r)=true:=h;rw[bO]at h';have ih:=D6 r x h'.2;have h1:qX p x=true:=by have:=h'.1;rw[ltCps_eq]at this;exact this
  refine k8.mpr {λy hy=>?_,ih};rcases aN.mp hy with rfl|hy
  ·exact h1
  ·exact IZ p x y h1 (iB ih hy)
theorem NG:∀(l:Aag),sortedS l=true->l.Pairwise (λa b=>qX a b=true)
 |[],_=>.nil
 |x::r,h=>D6 r x h
theorem Hi:∀{l m:Aag},l.Perm m->l.Pairwise (λa b=>qX a b=true)->m.Pairwise (λa b=>qX a b=true)->l=m
 |[],m,h,_,_=>(List.nil_perm.mp h).symm
 |a::l,[],h,_,_=>absurd h.length_eq 59
 |a::l,b::m,h,h1,h2=>by
  have e:a=b:=by
   rcases aN.mp (h.mem_iff.mp (aF))with e|e
   ·exact e
   ·rcases aN.mp (h.mem_iff.mpr (aF))with q|q
    ·exact q.symm
    ·exact WT (iB h1 q) (iB h2 e)
  subst e;rw[Hi (List.perm_cons a|>.mp h) (k8.mp h1).2 (k8.mp h2).2]
def KR{l zs:Aag}(h:l.Perm zs)(hs:sortedS l=true):l=eW zs:=Hi (h.trans (hZ zs).symm) (NG l hs) (Fz zs)
theorem Kz:∀{zs:Aag}{us:Aaf},Vals 648 us->StrsAre us zs
 |[],_,.nil=>.nil
 |z::r,_,.cons ⟨t,e⟩ h=>by subst e;exact .cons _ _ (Kz h)
theorem Ex:∀{zs:Aag}{us:Aaf},StrsAre us zs->Vals 648 us
 |_,_,.nil=>.nil
 |_,_,.cons y t h=>.cons ⟨t,rfl⟩ (Ex h)
section
variable{X:Cx}
inductive acB(K:Frag)(xs:Aan)(H:Hp)(Q:VK):Prop
 |mk p zs (_:xs=[.ref p]) (_:bf K H p (zs.map V.str)) (_:zs.length<64) (_:∀l,H l=none->Q (.ref l) (upd H l (.lst ((eW zs).map V.str))))
def N5:ic X (.builtin "sorted") (acB X.K):=by
 intro pins s Z H xs us Q I r h;obtain⟨p,zs,rfl,hq,hz,q⟩:=h;obtain⟨u,rfl,rx⟩:=jH r;cases rx;obtain⟨a9,r',pl,kB⟩:=I.list hq;have hl:=r'.length;rw[ah]at hl;refine sorted_strs pl.isList (Kz r') ∅ λout ss' a1 a2 a3=>?_;have e:=KR a2 a3;subst e;obtain⟨n,he⟩:=sortedAll_at s.heap a9 out;have ln:((eW zs).map V.str).length<=sizeLine:=by rw[ah,(hZ zs).length_eq];exact bC (bu ∅)
 exact{.ref 646,_,I.laid (λb o hb=>sortedAll_old hb) (fq _) (show dP X.prog X.w _ _ _ (.lst ((eW zs).map V.str))from{ln,out.toList,n,Ex a1,he}),9,q _ (I.bP.fresh (fq _))}
inductive aaR(x:V)(vs:Aan)(H:Hp)(Q:VK):Prop
 |mk l xs i y (_:x=.ref l) (_:vs=[.int i,y]) (_:H l=some (.lst xs)) (_:0<=i) (_:i<=(xs.length:Int)) (_:xs.length<1000) (_:Q .cz (upd H l (.lst (xs.take i.toNat++y::xs.drop i.toNat))))
def abu(a9:Aaf)(u:Value)(i:Int)(h0:0<=i)(h1:i.toNat<=a9.length):(λxs:Aak=>have k:=if i<0 then(i+((xs.size:Nat):Int)).toNat else min i.toNat xs.size;(xs.extract 0 k).push u++xs.extract k) a9.toArray=(a9.take i.toNat++u::a9.drop i.toNat).toArray:=by
 have e:701=i.toNat:=by rw[aH ∅,aP];lia
 show((a9.toArray.extract 0 701).push u++a9.toArray.extract 701)=_;rw[e];apply Array.ext';simp;exact cU (dD▸aw _)
def IU:JL X "list.insert" aaR:=by
 intro pins s Z H x vs v us Q I rx rv h;obtain⟨l,xs,i,y,rfl,rfl,hH,h0,h1,hz,q⟩:=h;cases rx
 match us,rv with
 |[_,u],.cons ⟨t,rfl⟩ (.cons ru .nil)=>
  obtain⟨z,a9,n,r,hl,e⟩:=I.ya hH;refine kZ F.slot_list_insert ⟨_,e,rfl⟩ F.entry_list_insert (F.args_list_insert_3 _ _ _) (AutoListH.list_insert_list_int_val_1 l a9.toArray n i t u ?_ (by rw[aP];lia)) {e,?_}
  ·have:=fitsIndex_both (k:=i) ∅ ∅;simpa using this
  ·refine{.cz,_,I.Hr hH e (abu a9 u i h0 ∅) ((r.take _).append (.cons ru (r.drop _))) ?_,9,q};have:=bu (n:=xs.length+1) ∅;rw[aC,bE,aZ,dD];lia
inductive acH(K:Frag)(neg:Bool)(x:V)(y:V)(H:Hp)(Q:VK):Prop
 |mk d ds (_:Dt K H d x) (_:(Dt K H (.tuple ds) y\/Dt K H (.list ds) y)) (_:PyData.canLayAll0 ds=true) (_:d.canLay0=true) (_:d.depth<=60) (_:Q (.bl (if neg then !(ds.any λe=>PyData.eqv e d)else ds.any λe=>PyData.eqv e d)) H)
def acT(hu:X.A.units+64<cLine):iU X (compareOp .In) (acH X.K false):=by
 intro pins s Z H x y v u Q I rx ry h;obtain⟨d,ds,h1,h2,h3,h4,h5,q⟩:=h;obtain⟨as,r1⟩:=nY I d x v h1 rx;rcases h2 with h2|h2
 ·obtain⟨bs,r2⟩:=nY I _ y u h2 ry;exact SeqAt.in_tuple_reads r2 r1 h3 h4 ∅ {.bl _,H,I,9,q}
 ·obtain⟨bs,r2⟩:=nY I _ y u h2 ry;exact SeqAt.in_list_reads r2 r1 h3 h4 ∅ {.bl _,H,I,9,q}
def aa7{K:Frag}(hu:X.A.units+64<cLine)(h:X.K=K:=by rfl):iU X (compareOp .In) (acH K false):=h▸acT hu
def QL(hl:714=true:=by rfl)(hb:attributeBase (.Name d pd) "get" X.env (eval (.Name d pd) X.env)=eval (.Name d pd) X.env:=by rfl):M2 X (.Name d pd) "get" apos 674 (.Name y py) fS:=⟨hb,rfl,hl,rfl⟩
end
end L2
namespace L2
open PySem PySem.Spec PyProof.Rows PySem.W Builtin Builtin.ObjectAttr
noncomputable def U0:Aaf->Bool
 | .ref _::r=>U0 r
 |l=>l==[.type "ValueError",.type "Exception",.type "BaseException",.type "object"]
structure ahI(K:Frag)(C:Addr):Prop where
 ga:findIn K (.ref C) "__getattribute__"=some (some (.builtin "BaseException.__getattribute__"))
 gt:findIn K (.ref C) "__getattr__"=some none
 sa:findIn K (.ref C) "__setattr__"=some (some (.builtin "object.__setattr__"))
 be:mroIn K C (.type "BaseException")=some true
 ob:mroIn K C (.type "object")=some true
 hd:hasDictIn K C=true
 tl:(clsIn K C).any (λcd=>U0 cd.mro)=true
 cl:findIn K (.ref C) "__class__"=some (some (.builtin "object.__class__"))
 cg:specialIn K (.builtin "object.__class__") "__get__"=some (some (.builtin "getset_descriptor.__get__"))
 ct:takesIn K (.builtin "object.__class__")=some true
end L2
namespace L2
open PySem PySem.Spec PyProof.Rows PySem.W
abbrev ag7(C:Addr)(dd:Aaj)(t:Addr)(tb:Value):Obj:={cls:=.ref C,dict:=dd,data:=.fields #[.ref t,tb,.none,.none,.bool false,.none]}
def ahk(e C:Addr)(dd:Aaj):Heap->Prop:=λh=>∃t tb,h.get? e=some (ag7 C dd t tb)
def gone(H:Hp)(e C:Addr)(dd:Aaj):Hp:=upd H e (.ext (ahk e C dd))
abbrev Cx.held(X:Cx)(q:Aab)(E:Aad):Cx:={X with pn:=q,xe:=E}
section
variable{X:Cx}{K:Frag}
def HW(h:X.K=K:=by rfl):ic X (.type "tuple") (λxs H Q=>∃p ys,xs=[.ref p]/\((bf K H p ys/\∀l,H l=none->Q 727 (upd H l (.tup ys)))\/(aY K H p ys/\Q 666 H))):=h▸d8
end
end L2
namespace L2
open PySem PySem.Spec PyProof.Rows
section
variable{P:Program}{w:World}{A:Around}{E:Aad}{v:Shared}
structure Zt(h:Heap)(z ti to i1 i2 l1 l2:Addr)(f:Value)(k:Nat):Prop where
 self:IsZip h z ti to f
 ins:IsPair h ti (.ref i1) (.ref i2)
 outs:∃a b,IsPair h to a b
 w1:h.IsTupleIter i1 l1 k
 w2:h.IsTupleIter i2 l2 k
structure Vt(z ti to i1 i2 l1 l2:Addr):Prop where
 ntt:ti≠to
 nii:i1≠i2
 nl1:l1≠to
 nl2:l2≠to
def iT{h:Heap}(e:h.get? a=some o)(e':h.get? b=some o')(c:o.cls=.type m)(c':o'.cls=.type n)(d:m≠n):a≠b:=λg=>by rw[g,e']at e;cases e;rw[c]at c';cases c';exact d rfl
def Zt.ne(g:Zt h z ti to i1 i2 l1 l2 f k):(ti≠z/\to≠z/\i1≠z/\i2≠z)/\(ti≠i1/\ti≠i2/\to≠i1/\to≠i2):=by
 obtain⟨gs,gi,⟨a,b,go⟩,⟨o1,q1,c1,_⟩,⟨o2,q2,c2,_⟩⟩:=g;exact{{iT gi gs rfl rfl 7,iT go gs rfl rfl 7,iT q1 gs c1 rfl 7,iT q2 gs c2 rfl 7},
  iT gi q1 rfl c1 7,iT gi q2 rfl c2 7,iT go q1 rfl c1 7,iT go q2 rfl c2 7}
def tup_ne(g:Zt h z ti to i1 i2 l1 l2 f k)(t:h.IsTuple l xs):l≠z/\l≠i1/\l≠i2:=by obtain⟨gs,_,_,⟨o1,q1,c1,_⟩,⟨o2,q2,c2,_⟩⟩:=g;obtain⟨o,q,c,_⟩:=t;exact{iT q gs c rfl 7,iT q q1 c c1 7,iT q q2 c c2 7}
def oW(g:h.IsTupleIter j p k)(s:Heap.SameBut b h h')(n:j≠b):h'.IsTupleIter j p k:=by obtain⟨o,q,r⟩:=g;exact{o,s.extBut _ _ n q,r}
def yF(g:h.IsTuple l xs)(s:Heap.SameBut b h h')(n:l≠b):h'.IsTuple l xs:=by obtain⟨o,q,r⟩:=g;exact{o,s.extBut _ _ n q,r}
def Lq(g:IsPair v.heap t a b)
  (q:∀h',h'.get? t=some {cls:=.type "tuple",data:=.seq ((#[a,b]:Aak).setIfInBounds k x)}->Heap.SameBut t v.heap h'->Q () {v with heap:=h'}):
  wpAny 661 A (updateSeq t (·.setIfInBounds k x)) Q E v:=wpAny_updateSeq_pair g q
def aal{Q:Aad}(d:Vt z ti to i1 i2 l1 l2)(g:Zt v.heap z ti to i1 i2 l1 l2 .none k)
  (t1:v.heap.IsTuple l1 xs) (t2:v.heap.IsTuple l2 ys) (ex:xs[k]?=some x) (ey:ys[k]?=some y)
  (q:∀h',Zt h' z ti to i1 i2 l1 l2 (rawInt v.heap.objs.size) (k+1)->IsPair h' v.heap.objs.size x y->(∀c o,c≠z->c≠to->c≠i1->c≠i2->v.heap.get? c=some o->h'.get? c=some o)->Q (.ref v.heap.objs.size) {v with heap:=h'}):
  wpAny 661 A (Builtin.«zip.__next__» {[.ref z],[]}) (λfin s'=>∃u,fin=.done (.ret u)/\Q u s') E v:=by
 obtain⟨⟨a1,a2,a3,a4⟩,a5,a6,a7,a8⟩:=g.ne;obtain⟨b1,b2,b3⟩:=tup_ne g t1;obtain⟨c1,c2,c3⟩:=tup_ne g t2;obtain⟨gs,gi,⟨a,b,go⟩,g1,g2⟩:=g;show wpAny _ _ (field (.ref z) 2>>=_) _ _ _;refine ae (dq gs 9 9 ?_);refine ae (dq gs 9 9 ?_);refine ae (dh gi 9 ?_);refine ae ?_;refine ae (dq gs 9 9 660);refine ae (j6 ?_);refine ae (dq gs 9 9 ?_);refine ae (js gs 59 λp1 k1 r1=>?_)
 replace k1:IsZip p1 z ti to .ellipsis:=k1
 refine ae ?_;refine ae (ae (AO ?_));refine ae (Aa (oW g1 r1 a3) (yF t1 r1 b1) ex λp2 k2 r2=>ao ?_);have o2:=r2.extBut _ _ a7 (r1.extBut _ _ a2 go);refine ae (dh o2 9 ?_);refine ae (Lq o2 λp3 o3 r3=>?_)
 replace o3:IsPair p3 to x b:=o3
 refine ae (DY 660);refine ae (ae (AO ?_));refine ae (Aa (oW (oW (oW g2 r1 a4) r2 d.nii.symm) r3 a8.symm) (yF (yF (yF t2 r1 c1) r2 c2) r3 d.nl2) ey λp4 k4 r4=>ao ?_);have o4:=r4.extBut _ _ a8 o3;refine ae (dh o4 9 ?_);refine ae (Lq o4 λp5 o5 r5=>?_)
 replace o5:IsPair p5 to x y:=o5
 refine ae (DY (ao 660));refine ae (dh o5 9 ?_);refine ae (sr ?_);have sz:p5.objs.size=v.heap.objs.size:=by rw[r5.1,r4.1,r3.1,r2.1,r1.1]
 have z5:=r5.extBut _ _ a2.symm (r4.extBut _ _ a4.symm (r3.extBut _ _ a2.symm (r2.extBut _ _ a3.symm k1)));have st:∀c o,c≠z->c≠to->c≠i1->c≠i2->v.heap.get? c=some o->p5.get? c=some o:=λc o m1 m2 m3 m4 e=>
  r5.extBut _ _ m2 (r4.extBut _ _ m4 (r3.extBut _ _ m2 (r2.extBut _ _ m3 (r1.extBut _ _ m1 e))))
 have lz:=aW z5;refine ae ?_;have z6:IsZip (p5.push {cls:=.type "tuple",data:=.seq #[x,y]}) z ti to .ellipsis:=aj _ z5;refine ae (js z6 59 λp7 z7 r7=>?_)
 replace z7:IsZip p7 z ti to (rawInt p5.objs.size):=z7
 refine js z7 59 λp8 z8 r8=>?_
 replace z8:IsZip p8 z ti to (rawInt p5.objs.size):=z8
 have up:∀c o,c≠z->p5.get? c=some o->p8.get? c=some o:=λc o m e=>r8.extBut _ _ m (r7.extBut _ _ m (aj _ e));have n8:=r8.extBut _ _ (cq lz) (r7.extBut _ _ (cq lz) (aU _ 9));rw[sz]at z8 n8;refine ao {_,9,?_};rw[sz];obtain⟨oa,ja,ra⟩:=(oW (oW (oW k2 r3 a7.symm) r4 d.nii) r5 a7.symm);obtain⟨ob,jb,rb⟩:=(oW k4 r5 a8.symm);exact q p8 {z8,up _ _ a1 (st _ _ a1 d.ntt a5 a6 gi),{x,y,up _ _ a2 o5},{oa,up _ _ a3 ja,ra},{ob,up _ _ a4 jb,rb}} n8 λc o m1 m2 m3 m4 e=>up c o m1 (st c o m1 m2 m3 m4 e)
def ab1{z ti to i1 i2 l1 l2:Addr}{k:Nat}{xs ys:Aak}{Q:Fin->Shared->Prop}(hh:A.handled=none)(d:Vt z ti to i1 i2 l1 l2)(g:Zt v.heap z ti to i1 i2 l1 l2 .none k)
  (t1:v.heap.IsTuple l1 xs) (ex:xs[k]?=none)
  (q:∀h' e,(∀c o,c≠z->c≠to->c≠i1->c≠i2->v.heap.get? c=some o->h'.get? c=some o)->(∃o,h'.get? e=some o/\o.cls=.type "StopIteration")->E (.ref e) {v with heap:=h'}):
  wpAny 661 A (Builtin.«zip.__next__» {[.ref z],[]}) Q E v:=by
 obtain⟨⟨a1,a2,a3,a4⟩,a5,a6,a7,a8⟩:=g.ne;obtain⟨b1,b2,b3⟩:=tup_ne g t1;obtain⟨gs,gi,⟨a,b,go⟩,g1,g2⟩:=g;show wpAny _ _ (field (.ref z) 2>>=_) _ _ _;refine ae (dq gs 9 9 ?_);refine ae (dq gs 9 9 ?_);refine ae (dh gi 9 ?_);refine ae ?_;refine ae (dq gs 9 9 660);refine ae (j6 ?_);refine ae (dq gs 9 9 ?_);refine ae (js gs 59 λp1 k1 r1=>?_)
 replace k1:IsZip p1 z ti to .ellipsis:=k1
 refine ae ?_;refine ae (ae (AO ?_));refine ae (yS hh (oW g1 r1 a3) (yF t1 r1 b1) ex λp2 e r2 he=>?_);obtain⟨oe,ge,ce⟩:=he;have z2:=r2 _ _ a3.symm k1;refine js z2 59 λp3 _ r3=>q p3 e (λc o m1 _ m3 _ e=>r3.extBut _ _ m1 (r2 _ _ m3 (r1.extBut _ _ m1 e))) {oe,r3.extBut _ _ (iT ge z2 ce 9 7) ge,ce}
variable{X:Cx}{pins:Aab}{Z:St}{H:Hp}{s:Shared}
def Inv.freeze(I:Inv X pins Z H s)(hd:H d=some 715)(ho:s.heap.get? d=some o):Inv X pins Z (upd H d (.gE o 715)) s:=by
 have nd:∀b u,H b=some u->(∀l,u≠ .dK l)->b≠d:=λb u q n z=>by rw[z,hd]at q;exact n kvs (bT q).symm
 refine I.un {λb u e _ _ _=>e,λb u e _ _ _=>{u.slots,e},λb u e n _=>by rw[aL ((λb q z=>by rw[z,hd]at q;cases q) b n)];exact n,λb u e _=>⟨u,e⟩,λb xs q=>by rw[aL (nd b _ q λl z=>by cases z)];exact q,λb u v q=>by rw[aL (nd b _ q λl z=>by cases z)];exact q,λb ps q=>{#[],by rw[aL (nd b _ q λl z=>by cases z),q];simp}} λb u g=>?_;by_cases hb:b=d
 ·subst hb;rw[au]at g;cases g;exact{ho,I.bP b _ hd}
 ·rw[aL hb]at g;exact(I.bP b u g).qJ (λc v hc q=>q) (λc q=>by rw[aL (nd c _ q λl z=>by cases z)];exact q) λc ys q=>by rw[aL (nd c _ q λl z=>by cases z)];exact q
def afS{X:Cx}{d x:Str}{pd px apos fS:Pos}(hl:714=true:=by rfl)(hb:attributeBase (.Name d pd) "get" X.env (eval (.Name d pd) X.env)=eval (.Name d pd) X.env:=by rfl):M1 X (.Name d pd) "get" apos 674 fS:=⟨hb,rfl,hl,rfl⟩
end
section
variable{X:Cx}
theorem ints_of:∀{ns:List Int}{us:Aaf},Vals (ns.map V.int) us->IntsAre us ns
 |[],_,.nil=>.nil
 |n::ns,_,.cons ⟨t,r⟩ q=>by subst r;exact .cons _ _ (ints_of q)
def Vm:ic X (.type "str") (λxs H Q=>∃i:Int,xs=[.int i]/\i.natAbs.log2<1920/\Q (.str (Str.ofString (toString i))) H):=by intro pins s Z H xs us Q I r h;obtain⟨i,rfl,hl,q⟩:=h;obtain⟨u,rfl,t,rfl⟩:=jH r;exact P.str_of_int hl {.str (Str.ofString (toString i)),H,680,723,q}
variable{pins:Aab}{Z:St}{H:Hp}{s:Shared}{h':Heap}
def Inv.aax{ch:Aai}(I:Inv X pins Z H s)(k:∀b o,b∉ch->s.heap.get? b=some o->h'.get? b=some o)(fc:∀b∈ch,oI X pins H b)
  (hp:s.heap.objs.size<=p) (ht:IsTup h' p us.toArray/\∃o,h'.get? p=some o/\o.dict=none) (r:Vals xs us) (hz:xs.length<=sizeLine):Inv X pins Z (upd H p 664) {s with heap:=h',toks:=t'}:=by
 have hn:=I.bP.fresh hp;have fp:=I.v9 hp hn;have nH:∀b u,H b=some u->b∉ch/\b≠p:=λb u g=>{(λz=>by rw[(fc b z).1]at g;cases g),λz=>by rw[z,hn]at g;cases g};refine I.step 692 (λb o _ _ hc g _=>k b o (λz=>hc (aG _ z)) g) (λb o _ _ hc g _=>{o.slots,k b o (λz=>hc (aG _ z)) g})
  (λb o hc g n=>by rw[aL λz=>hc (by rw[z];exact aF)];exact n) (λb o hc g=>{o,k b o (λz=>hc (aG _ z)) g})
  (λb ys g=>by rw[aL (nH b _ g).2];exact g) (λb o u g=>by rw[aL (nH b _ g).2];exact g) (λb ps g=>{#[],by rw[aL (nH b _ g).2,g];simp}) (λm hm=>?_) (λb u g=>?_) I.bare
 ·rcases aN.mp hb with rfl|z
  ·exact{fp.2.2.2.1,fp.2.1,fp.2.2.2.2.1,fp.2.2.2.2.2}
  ·have f:=fc b z;exact{f.2.2.2.1,f.2.1,f.2.2.2.2.1,f.2.2.2.2.2}
 ·obtain⟨o,es,ep,ho,r'⟩:=hm;exact{o,es,ep,k _ o (λz=>(fc _ z).2.1 9) ho,r'}
 ·by_cases hb:b=p
  ·subst hb;rw[au]at g;cases g;exact⟨hz,us,r,ht⟩
  ·rw[aL hb]at g;refine(I.bP b u g).qJ (λc v hc q=>?_) (λc q=>?_) λc ys q=>?_
   ·rcases hc with z|z
    ·rw[z];rw[z]at q;exact k b v (nH b _ g).1 q
    ·exact k c v (nH c _ z).1 q
   ·rw[aL (nH c _ q).2];exact q
   ·rw[aL (nH c _ q).2];exact q
def Inv.aay{ch:Aai}(I:Inv X pins Z H s)(k:∀b o,b∉ch->s.heap.get? b=some o->h'.get? b=some o)(fc:∀b∈ch,oI X pins H b):Inv X pins Z H {s with heap:=h',toks:=t'}:=by
 have nH:∀b u,H b=some u->b∉ch:=λb u g z=>by rw[(fc b z).1]at g;cases g
 refine I.step (λb z=>?_) (λb o _ _ hc g _=>k b o hc g) (λb o _ _ hc g _=>{o.slots,k b o hc g}) (λ_ _ _ _ n=>n) (λb o hc g=>{o,k b o hc g})
  (λ_ _ g=>g) (λ_ _ _ g=>g) (λb ps g=>{#[],by rw[g];simp}) (λm hm=>?_) (λb u g=>?_) I.bare
 ·have f:=fc b z;exact{f.2.2.2.1,f.2.1,f.2.2.2.2.1,f.2.2.2.2.2}
 ·obtain⟨o,es,ep,ho,r'⟩:=hm;exact{o,es,ep,k _ o (λz=>(fc _ z).2.1 9) ho,r'}
 ·refine(I.bP b u g).qJ (λc v hc q=>k c v ?_ q) (λ_ q=>q) λ_ _ q=>q;rcases hc with z|z
  ·rw[z];exact nH b _ g
  ·exact nH c _ z
end
section
variable{P:Program}{w:World}{A:Around}{E:Aad}{v:Shared}
def aak(d:Vt z ti to i1 i2 l1 l2)(g:Zt v.heap z ti to i1 i2 l1 l2 .none k)
  (t1:v.heap.IsTuple l1 xs) (t2:v.heap.IsTuple l2 ys) (ex:xs[k]?=some x) (ey:ys[k]?=some y)
  (q:∀h',Zt h' z ti to i1 i2 l1 l2 (rawInt v.heap.objs.size) (k+1)->IsPair h' v.heap.objs.size x y->(∀c o,c≠z->c≠to->c≠i1->c≠i2->v.heap.get? c=some o->h'.get? c=some o)->Q (some (.ref v.heap.objs.size)) {v with heap:=h'}):
  wpAny 661 A (pyNext (.ref z)) Q E v:=by
 have ty:v.TypeIs (.ref z) "zip":={_,g.self,9};exact ae (hX (wpAny_callSpecial?_slot ty iM (b6 iM ty qp (aal d g t1 t2 ex ey λh' b1 b2 b3=>ao (q h' b1 b2 b3)) (pH _))))
def aaj(hh:A.handled=none)(d:Vt z ti to i1 i2 l1 l2)(g:Zt v.heap z ti to i1 i2 l1 l2 .none k)
  (t1:v.heap.IsTuple l1 xs) (ex:xs[k]?=none)
  (q:∀h',(∀c o,c≠z->c≠to->c≠i1->c≠i2->v.heap.get? c=some o->h'.get? c=some o)->Q none {v with heap:=h'}):
  wpAny 661 A (pyNext (.ref z)) Q E v:=by
 have ty:v.TypeIs (.ref z) "zip":={_,g.self,9};refine ae (hX (wpAny_callSpecial?_slot ty iM (b6 iM ty qp (ab1 (ys:=#[]) hh d g t1 ex λh' e hk he=>?_) (pH _))));obtain⟨o,ho,hc⟩:=he;exact ae (jc ⟨o,ho,hc⟩ oX (ao (q _ hk)))
abbrev Yb(h:Heap)(l1:Addr):Heap:=h.push {cls:=.type "tuple_iterator",data:=.fields #[.ref l1,.int 0 0]}
abbrev X9(h:Heap)(l1 l2:Addr):Heap:=(Yb h l1).push {cls:=.type "tuple_iterator",data:=.fields #[.ref l2,.int 0 0]}
abbrev X8(h:Heap)(l1 l2:Addr):Heap:=(X9 h l1 l2).push {cls:=.type "tuple",data:=.seq #[.ref h.objs.size,.ref (Yb h l1).objs.size]}
abbrev X7(h:Heap)(l1 l2:Addr):Heap:=(X8 h l1 l2).push {cls:=.type "tuple",data:=.seq #[.none,.none]}
abbrev N9(h:Heap)(l1 l2:Addr):Heap:=(X7 h l1 l2).push {cls:=.type "zip",data:=.fields #[.none,.bool false,.bool false,.ref (X9 h l1 l2).objs.size,.ref (X8 h l1 l2).objs.size]}
def ab3(l1 l2:Addr)(xs ys:Aak):
  Meets (Builtin.«zip.__new__» {[.type "zip",.ref l1,.ref l2],[]}) (λ_ R s=>s.heap.IsTuple l1 xs/\s.heap.IsTuple l2 ys/\R (.ok (.ret (.ref (X7 s.heap l1 l2).objs.size))) {s with heap:=N9 s.heap l1 l2}):=
 .of_wp λprog w A R s h=>by
  obtain⟨hp,g,d,tk,os⟩:=s;obtain⟨lH,f9,h⟩:=h;have WY:=sub_zip;have hL2:Heap.IsTuple (Shared.heap ⟨hp.push {cls:=.type "tuple_iterator",data:=.fields #[.ref l1,.int 0 0]},g,d,tk,os⟩) l2 ys:=by obtain⟨o,e,r⟩:=f9;exact{o,aj _ e,r}
  wp_walk using jt lH,jt hL2
  exact⟨_,rfl,h⟩
def aap(h1:v.heap.IsTuple l1 xs)(h2:v.heap.IsTuple l2 ys)
  (q:∀h' n,n=v.heap.objs.size->Zt h' (n+4) (n+2) (n+3) n (n+1) l1 l2 .none 0->(∀c o,v.heap.get? c=some o->h'.get? c=some o)->Q (.ref (n+4)) {v with heap:=h'}):
  wpAny 661 A (call (.type "zip") [.ref l1,.ref l2]) Q E v:=by
 refine callType_new F.called_zip 7 (F.typeCall_zip_2 _ _) (F.newCall_zip_2 _ _) (λobj=>F.args_object_init_3 obj _ _) F.entry_zip_new (ab3 l1 l2 xs ys) {h1,h2,?_};have e1:(Yb v.heap l1).objs.size=v.heap.objs.size+1:=dj ..;have e2:(X9 v.heap l1 l2).objs.size=v.heap.objs.size+2:=by rw[dj,e1]
 have e3:(X8 v.heap l1 l2).objs.size=v.heap.objs.size+3:=by rw[dj,e2]
 have e4:(X7 v.heap l1 l2).objs.size=v.heap.objs.size+4:=by rw[dj,e3]
 have g5:(N9 v.heap l1 l2).get? (X7 v.heap l1 l2).objs.size=some _:=aU _ rfl;have g4:(N9 v.heap l1 l2).get? (X8 v.heap l1 l2).objs.size=some _:=aj _ (aU _ 9);have g3:(N9 v.heap l1 l2).get? (X9 v.heap l1 l2).objs.size=some _:=aj _ (aj _ (aU _ 9));have g2:(N9 v.heap l1 l2).get? (Yb v.heap l1).objs.size=some _:=aj _ (aj _ (aj _ (aU _ 9)));have g1:(N9 v.heap l1 l2).get? v.heap.objs.size=some _:=aj _ (aj _ (aj _ (aj _ (aU _ 9))));rw[e2,e3,e4]at g5;rw[e1,e2]at g3;rw[e3]at g4;rw[e1]at g2;rw[e4];exact{⟨_,g5,rfl⟩,q _ _ rfl {g5,g3,⟨_,_,g4⟩,⟨_,g1,rfl,rfl⟩,⟨_,g2,rfl,rfl⟩} λc o x=>aj _ (aj _ (aj _ (aj _ (aj _ x))))}
def Vw(K:Frag)(a b:Addr):It:=
 {λi H=>∃xs ys x y,aY K H a xs/\aY K H b ys/\xs[i]?=some x/\ys[i]?=some y,
  λi H u H'=>∃p x y,u=.ref p/\H p=none/\H'=upd H p (.tup [x,y])/\(∀xs,aY K H a xs->xs[i]?=some x)/\∀ys,aY K H b ys->ys[i]?=some y,
  λi H=>∃xs,aY K H a xs/\xs.length=i}
def qr(z ti to i1 i2:Addr):Aai:=[z,ti,to,i1,i2]
end
def VL{K:Frag}(a b z ti to i1 i2:Addr)(dd:Vt z ti to i1 i2 a b):Turn P w K (.Tuple elts kk ps) (Vw K a b) (qr z ti to i1 i2) z (λi h=>Zt h z ti to i1 i2 a b .none i) where
 mem:=aF
 obj:=λi h st c hc=>by
  obtain⟨gs,gi,⟨u,v,go⟩,⟨o1,q1,c1,d1⟩,⟨o2,q2,c2,d2⟩⟩:=st;rcases(by simpa[qr]using hc)with rfl|rfl|rfl|rfl|rfl
  ·exact{_,gs,λv z=>by cases z}
  ·exact{_,gi,λv z=>by cases z}
  ·exact{_,go,λv z=>by cases z}
  ·exact{_,q1,λv z=>by rw[d1]at z;cases z}
  ·exact{_,q2,λv z=>by rw[d2]at z;cases z}
 keep:=λi h h' st k=>by obtain⟨gs,gi,⟨u,v,go⟩,⟨o1,q1,r1⟩,⟨o2,q2,r2⟩⟩:=st;exact{k z (by simp[qr]) _ gs,k ti (by simp[qr]) _ gi,{u,v,k to (by simp[qr]) _ go},{o1,k i1 (by simp[qr]) _ q1,r1},{o2,k i2 (by simp[qr]) _ q2,r2}}
 item:=by
  intro X hP hw hK hc i pins s Z H E I hf st hg;subst hP hw hK;obtain⟨xs,ys,x,y,ha,hb,hx,hy⟩:=hg;obtain⟨L9,K2,FP,bJ⟩:=I.tuple ha;obtain⟨xn,YC,II,bM⟩:=I.tuple hb;obtain⟨u1,Mf,SH⟩:=K2.get hx;obtain⟨u2,y0,SG⟩:=YC.get hy;refine aak dd st (show s.heap.IsTuple a L9.toArray from FP) (show s.heap.IsTuple b xn.toArray from II) (by simpa using Mf) (by simpa using y0) λh1 g1 pr kp=>{_,9,?_};refine wpAny_letOwnedTupleGo_zip g1.self λh2 z2 sb=>?_;have Bx:=sb;have lz:=aW st.self;have al:∀c∈qr z ti to i1 i2,c<s.heap.objs.size:=λc hc=>by
   obtain⟨gs,gi,⟨u,v,go⟩,⟨o1,q1,r1⟩,⟨o2,q2,r2⟩⟩:=id st;rcases(by simpa[qr]using hc)with rfl|rfl|rfl|rfl|rfl
   ·exact aW gs
   ·exact aW gi
   ·exact aW go
   ·exact aW q1
   ·exact aW q2
  have TX:∀c o,c∉qr z ti to i1 i2->s.heap.get? c=some o->h2.get? c=some o:=λc o hc e=>
   Bx.extBut c o 687 (kp c o 687 687 687 687 e)
  have I2:=I.aax (t':=s.toks) TX hf (aw _) ({{_,Bx.extBut _ _ (cq lz) pr,9,_,9},_,Bx.extBut _ _ (cq lz) pr,9}) (.cons SH (.cons SG .nil)) 96;obtain⟨⟨n1,n2,n3,n4⟩,n5,n6,n7,n8⟩:=g1.ne;obtain⟨gs,gi,⟨u,v,go⟩,⟨o1,q1,r1⟩,⟨o2,q2,r2⟩⟩:=g1;refine{352,_,I2,9,{_,x,y,9,677,9,λzs hz=>by rw[I.tR hz ha];exact hx,λzs hz=>by rw[I.tR hz hb];exact hy},{z2,Bx.extBut _ _ n1 gi,{u,v,Bx.extBut _ _ n2 go},{o1,Bx.extBut _ _ n3 q1,r1},{o2,Bx.extBut _ _ n4 q2,r2}},λc hc=>?_};rw[aL (aV (al c hc))];exact(hf c hc).1
 done:=by intro X hP hw hK hc i pins s Z H E I hf st hg;subst hP hw hK;obtain⟨xs,ha,hx⟩:=hg;obtain⟨L9,K2,FP,bJ⟩:=I.tuple ha;have hl:=K2.length;refine aaj (I.ok.hd hc) dd st (show s.heap.IsTuple a L9.toArray from FP) (by simp;lia) λh1 kp=>{9,I.aay (λc o hc e=>kp c o 687 687 687 687 e) hf}
 self:=λ_ _ _ _ _ st h=>vt st.self h
inductive adq(K:Frag)(R:It->Hp->Prop)(vs:Aan)(H1:Hp):Prop
 |mk a b (_:vs=[.ref a,.ref b]) (_:(∃xs,aY K H1 a xs)) (_:(∃ys,aY K H1 b ys)) (_:R (Vw K a b) H1)
def aeW(K:Frag)(ta:TA):TI:=λZ H R=>ta Z H λvs H1=>adq K R vs H1
def OK(hg:Gl X "zip")(hm:X.mg "zip"=none)(ha:PA X [a,b] ta)(hs:starEach [a,b] X.env=[(false,eval a X.env),(false,eval b X.env)]:=by rfl)(kC:starEach [b] X.env=[(false,eval b X.env)]:=by rfl):
  PI X (.Tuple elts kk ps) (.Call (.Name "zip" p) [a,b] [] pos) (aeW X.K ta):=by
 intro pins s Z H R I h;refine GQ (qY I hg hm boot_zip (eG 698 (by rw[hs,kC]) (by rw[kC];rfl)));obtain⟨l1,l2,e,⟨xs,ha⟩,⟨ys,hb⟩,q⟩:=q1;subst e;obtain⟨u1,u2,rfl,SH,SG⟩:=vals2 r1;cases SH;cases SG;obtain⟨L9,K2,FP,bJ⟩:=I1.tuple ha;obtain⟨xn,YC,II,bM⟩:=I1.tuple hb;have t1:=FP;have t2:=II;have b1:l1<s1.heap.objs.size:=by obtain⟨o,e,_⟩:=t1;exact aW e
 have b2:l2<s1.heap.objs.size:=by obtain⟨o,e,_⟩:=t2;exact aW e
 refine aap t1 t2 λh' n en g kp=>?_;subst en;refine vt g.self ?_;refine{_,_,_,_,H1,9,(I1.kept (t':=s1.toks) kp),VL l1 l2 _ _ _ _ _ {?_,λt=>absurd t (aV (eB _)),aV (bw b1 (eC _ _)),aV (bw b2 (eC _ _))},g,λc hc=>?_,q}
 ·exactλt=>absurd t (aV (eB _))
 ·have Jk:c=s1.heap.objs.size+4\/c=s1.heap.objs.size+2\/c=s1.heap.objs.size+3\/c=s1.heap.objs.size\/c=s1.heap.objs.size+1:=by simpa[qr]using hc
  have lc:s1.heap.objs.size<=c:=by rcases Jk with e|e|e|e|e<;>rw[e]<;>first|exact aw _|exact eC _ _
  exact I1.v9 lc (I1.bP.fresh lc)
def MV{K:Frag}{a b:Addr}{xs ys:Aan}{g:TG}{tb:TS}{D:Ends}{Z:St}{H:Hp}(Pv:Nat->St->Hp->Prop)(le:xs.length=ys.length)(h0:Pv 0 Z H)(hl:∀i Z H,i<=xs.length->Pv i Z H->aY K H a xs/\aY K H b ys)
  (hs:∀i x y p Z H,xs[i]?=some x->ys[i]?=some y->Pv i Z H->H p=none->g 666 Z (upd H p (.tup [x,y])) λσ2 H2=>tb {D with nx:=Pv (i+1),ct:=Pv (i+1),bk:=D.nx} σ2 H2) (hd:∀Z H,Pv xs.length Z H->D.nx Z H):
  ∃W:Nat->Nat->St->Hp->Prop,(∃m,W 0 m Z H)/\∀i m Z H,W i m Z H->
   ((Vw K a b).stop i H/\D.nx Z H)\/((Vw K a b).go i H/\∃N:St->Hp->Prop,(∀σ' H',N σ' H'->∃m',m'<m/\W (i+1) m' σ' H')/\∀x H',(Vw K a b).DV i H x H'->g x Z H' λσ2 H2=>tb {D with nx:=N,ct:=N,bk:=D.nx} σ2 H2):=by
 refine{λi m Z H=>m=xs.length -i/\i<=xs.length/\Pv i Z H,{xs.length,59,aO _,h0},?_};rintro i m Z H ⟨rfl,hi,p⟩;obtain⟨q1,q2⟩:=hl i Z H hi p;by_cases bQ:i<xs.length
 ·refine .inr {{xs,ys,xs[i],ys[i]'∅,q1,q2,by simp[bQ],av _},Pv (i+1),λσ' H' p'=>{xs.length -(i+1),8,9,bQ,p'},λx H' y=>?_};obtain⟨r,u,v,rfl,hr,rfl,y1,y2⟩:=y;exact hs i u v r Z H (y1 xs q1) (y2 ys q2) p hr
 ·have e:i=xs.length:=by lia
  subst e;exact .inl {⟨xs,q1,rfl⟩,hd Z H p}
end L2
namespace Tb
open PySem PySem.SetTable
def S:Nat->Nat
 |0=>0
 |n+1=>5*S n+1
def F:Nat->Nat->Nat
 |0,i=>i
 |n+1,i=>5*F n i+1
theorem Nz:∀n i,F n i=i+S n*(4*i+1)
 |0,i=>by simp[F,S]
 |n+1,i=>by show 5*F n i+1=i+(5*S n+1)*(4*i+1);rw[Nz n i,tM,kX,lE];lia
def aai(m:Nat):∀n i,F (m+n) i=F m (F n i):=by
 intro n i
 induction m with
 |zero=>simp[F]
 |succ m ih=>
  rw[show m+1+n=(m+n)+1 by lia];show 5*F (m+n) i+1=5*F m (F n i)+1;rw[ih]
def afk(n:Nat):S (n+n)=2*S n*(2*S n+1):=by have h:=aai n n 0;rw[Nz,Nz n (F n 0),Nz n 0]at h;simp only[Nat.mul_zero,Nat.zero_add,Nat.mul_one]at h;rw[h];generalize S n=x;rw[lE,lE,show x*(4*x)=2*x*(2*x) by rw[uW,show(4:Nat)=2*2 from rfl,kX,kX,uW x 2 x]];lia
theorem Z6:∀k,∃c,S (2^k)=2^k*(2*c+1)
 |0=>{0,9}
 |k+1=>by
  obtain⟨c,hc⟩:=Z6 k;refine{2*c*S (2^k)+c+S (2^k),?_};rw[show 2^(k+1)=2^k+2^k by rw[oG];lia,afk];generalize hs:S (2^k)=s at hc;have e:2*s*(2*s+1)=2*(2^k*(2*c+1))*(2*s+1):=by rw[<-hc]
  rw[e,<-Nat.two_mul,<-kX,kX (2*2^k)];congr 1;rw[tM,lE,lE,lE];have:2*c*(2*s)=2*(2*c*s):=by rw[uW]
  lia
theorem cover:∀(k i j:Nat),∃n,n<2^k/\F n i % 2^k=j % 2^k
 |0,i,j=>{0,7,by simp[Nat.mod_one]}
 |k+1,i,j=>by
  obtain⟨n,hn,e⟩:=cover k i j;rw[oG];by_cases c:F n i/2^k % 2=j/2^k % 2
  ·exact{n,8,by rw[yq,yq,e,c]}
  ·obtain⟨z,hz⟩:=Z6 k;refine{2^k+n,8,?_};have e2:F (2^k+n) i=F n i+2^k*(2*(z*(4*F n i+1)+2*F n i)+1):=by rw[aai,Nz (2^k),hz,kX];congr 2;rw[tM,Nat.one_mul,kX];lia
   rw[e2,yq,yq,Nat.add_mul_mod_self_left,Nat.add_mul_div_left _ _ (Nat.two_pow_pos k),e];congr 2;lia
def Es(mask:Nat)(p:Probe):Probe:=
 if p.more>0 then{p with j:=p.j+1,more:=p.more -1}else
 {p with j:=(leap mask p.i p.perturb).1,more:=runEnd mask (leap mask p.i p.perturb).1 -(leap mask p.i p.perturb).1,i:=(leap mask p.i p.perturb).1,perturb:=(leap mask p.i p.perturb).2}
abbrev Oo(mask i q:Nat):Probe:={j:=i,more:=runEnd mask i -i,i:=i,perturb:=q,dummy:=none}
def pr(mask:Nat)(h:Int):Nat->Probe
 |0=>Oo mask (bits h %(mask+1)) (bits h)
 |d+1=>Es mask (pr mask h d)
def VW(t:SetTable)(h:Int):t.probeStart h=pr t.mask h 0:=9
def ps(mask:Nat)(h:Int)(d:Nat):Nat:=(pr mask h d).j
def lp(mask:Nat)(h:Int):Nat->Nat×Nat
 |0=>(bits h %(mask+1),bits h)
 |n+1=>leap mask (lp mask h n).1 (lp mask h n).2
def run(mask i:Nat):Nat:=runEnd mask i -i
def Tn(mask:Nat)(h:Int):Nat->Nat
 |0=>0
 |n+1=>Tn mask h n+run mask (lp mask h n).1+1
def acA(mask i:Nat):run mask i<=09:=by unfold run runEnd;split<;>lia
theorem Z3(mask:Nat)(h:Int):∀n,Tn mask h n<=10*n
 |0=>aw _
 |n+1=>by have:=Z3 mask h n;have:=acA mask (lp mask h n).1;show Tn mask h n+run mask (lp mask h n).1+1<=_;lia
def aaW(mask:Nat)(h:Int):∀n,pr mask h (Tn mask h n)=Oo mask (lp mask h n).1 (lp mask h n).2/\∀e,e<=run mask (lp mask h n).1->pr mask h (Tn mask h n+e)={j:=(lp mask h n).1+e,more:=run mask (lp mask h n).1 -e,i:=(lp mask h n).1,perturb:=(lp mask h n).2,dummy:=none}:=by
 have SE:∀n,pr mask h (Tn mask h n)=Oo mask (lp mask h n).1 (lp mask h n).2->∀e,e<=run mask (lp mask h n).1->pr mask h (Tn mask h n+e)={j:=(lp mask h n).1+e,more:=run mask (lp mask h n).1 -e,i:=(lp mask h n).1,perturb:=(lp mask h n).2,dummy:=none}:=by
  intro n h0 e
  induction e with
  |zero=>intro _;rw[wG,h0];rfl
  |succ e ih=>
   intro he;show Es mask (pr mask h (Tn mask h n+e))=_;rw[ih ∅];unfold Es;rw[aK (show run mask (lp mask h n).1 -e>0 by lia)];congr 1
 intro n
 induction n with
 |zero=>exact{9,SE 0 rfl}
 |succ n ih=>
  have h1:pr mask h (Tn mask h (n+1))=Oo mask (lp mask h (n+1)).1 (lp mask h (n+1)).2:=by show Es mask (pr mask h (Tn mask h n+run mask (lp mask h n).1))=_;rw[ih.2 _ (aw _)];unfold Es;rw[aH 59];rfl
  exact{h1,SE _ h1}
def FO{mask:Nat}(he:e<=run mask (lp mask h n).1):ps mask h (Tn mask h n+e)=(lp mask h n).1+e:=by unfold ps;rw[(aaW mask h n).2 e he]
theorem aeS(mask:Nat)(h:Int):∀n,(lp mask h n).1<mask+1
 |0=>mQ _ (wD _)
 |n+1=>mQ _ (wD _)
theorem adb(mask:Nat)(h:Int):∀n,(lp mask h n).2=bits h/32^n
 |0=>by simp[lp]
 |n+1=>by show(lp mask h n).2/32=_;rw[adb mask h n,Nat.div_div_eq_div_mul,oG]
def abU(h:Int):bits h<2^64:=by unfold bits;lia
theorem OW{mask k:Nat}(hk:mask+1=2^k)(h:Int):∀n,(lp mask h (13+n)).1=F n (lp mask h 13).1 % 2^k
 |0=>by have:=aeS mask h 13;show(lp mask h 13).1=(lp mask h 13).1 % 2^k;rw[Nat.mod_eq_of_lt ∅]
 |n+1=>by
  show((lp mask h (13+n)).1*5+1+(lp mask h (13+n)).2/32) %(mask+1)=(5*F n (lp mask h 13).1+1) % 2^k;have q0:(lp mask h (13+n)).2/32=0:=by rw[adb];have h2:32^13<=32^(13+n):=Az 7 ∅;rw[Nat.div_eq_of_lt (show bits h<32^(13+n)from bw (dI (abU h) 7) h2)]
  rw[q0,OW hk h n,hk,wG,Nat.add_mod,Nat.mul_mod,Nat.mod_mod,<-Nat.mul_mod,<-Nat.add_mod,Nat.mul_comm]
def hits{mask k:Nat}(hk:mask+1=2^k)(h:Int)(hj:j<=mask):∃n,n<=13+mask/\(lp mask h n).1=j/\ps mask h (Tn mask h n)=j:=by obtain⟨n,hn,e⟩:=cover k (lp mask h 13).1 j;have e2:=OW hk h n;rw[e,Nat.mod_eq_of_lt ∅]at e2;refine{13+n,8,e2,?_};have:=FO (mask:=mask) (h:=h) (n:=13+n) (aO _);rw[wG,wG]at this;rw[this,e2]
def Qo{mask:Nat}:ps mask h d<=mask:=by
 have key:∀d,(pr mask h d).j+(pr mask h d).more<=mask:=by
  have base:∀i q,i<mask+1->(Oo mask i q).j+(Oo mask i q).more<=mask:=λi q hi=>by show i+(runEnd mask i -i)<=mask;unfold runEnd;split<;>lia
  intro d
  induction d with
  |zero=>exact base _ _ (mQ _ (wD _))
  |succ d ih=>
   show(Es mask (pr mask h d)).j+(Es mask (pr mask h d)).more<=mask;unfold Es;split
   ·show(pr mask h d).j+1+((pr mask h d).more -1)<=mask;lia
   ·exact base _ 0 (mQ _ (wD _))
 have:=key d;unfold ps;lia
def least{p:Nat->Prop}:∀{n},p n->∃m,m<=n/\p m/\∀e,e<m->¬p e:=by
 intro n
 induction n using Nat.strongRecOn with
 |ind n ih=>
  intro hn;by_cases c:∃e,e<n/\p e
  ·obtain⟨e,he,pe⟩:=c;obtain⟨m,h1,h2,h3⟩:=ih e he pe;exact{m,8,h2,h3}
  ·exact{n,aw _,hn,λe he pe=>c ⟨e,he,pe⟩}
def oy(xs:Array Nat):Prop:=∀i k,i<k->k<xs.size->xs.getD i 0<xs.getD k 0
def Xm{xs:Array Nat}(h:i<xs.size):xs.getD i a=xs.getD i b:=by simp[Array.getD,h]
def getD_some{xs:Array Nat}:xs[i]?=some j↔i<xs.size/\xs.getD i 0=j:=by
 constructor
 ·intro e;obtain⟨h,e⟩:=ie.mp e;exact{h,by simp[Array.getD,h,e]}
 ·rintro⟨h,e⟩;simpa[Array.getD,h]using e
theorem E6(hr:oy xs)(j:Nat):∀(f lo hi:Nat),lo<=hi->hi<=xs.size->hi -lo<=f->(∀i,i<lo->xs.getD i 0<j)->(∀i,hi<=i->i<xs.size->j<=xs.getD i 0)->
  below.go xs j f lo hi<=xs.size/\(∀i,i<below.go xs j f lo hi->xs.getD i 0<j)/\∀i,below.go xs j f lo hi<=i->i<xs.size->j<=xs.getD i 0
 |0,lo,hi,h1,h2,h3,h4,h5=>by show lo<=xs.size/\(∀i,i<lo->xs.getD i 0<j)/\∀i,lo<=i->i<xs.size->j<=xs.getD i 0;exact{8,h4,λi a b=>h5 i ∅ b}
 |f+1,lo,hi,h1,h2,h3,h4,h5=>by
  unfold below.go;by_cases c:lo<hi
  ·simp only[aK c];have hm:(lo+hi)/2<xs.size:=by lia
   rw[Xm (b:=0) hm];by_cases d:xs.getD ((lo+hi)/2) 0<j
   ·simp only[aK d];refine E6 hr j f _ _ ∅ h2 ∅ (λi hi'=>?_) h5;by_cases e:i=(lo+hi)/2
    ·rw[e];exact d
    ·exact dI (hr i _ ∅ hm) d
   ·simp only[aH d];refine E6 hr j f _ _ ∅ ∅ ∅ h4 λi a b=>?_;by_cases e:i=(lo+hi)/2
    ·rw[e];lia
    ·have:=hr ((lo+hi)/2) i ∅ b;lia
  ·simp only[aH c];exact{8,h4,λi a b=>h5 i ∅ b}
def vf(hr:oy xs)(j:Nat):below xs j<=xs.size/\(∀i,i<below xs j->xs.getD i 0<j)/\∀i,below xs j<=i->i<xs.size->j<=xs.getD i 0:=
 E6 hr j xs.size 0 xs.size (aO _) (aw _) ∅ (λi h=>absurd h (fK _)) λi a b=>by lia
def below_at(hr:oy xs)(e:xs[i]?=some j):below xs j=i:=by
 obtain⟨h1,h2,h3⟩:=vf hr j;obtain⟨hi,e⟩:=getD_some.mp e;rcases lP (below xs j) i with c|c|c
 ·have:=h3 _ (aw _) ∅;have:=hr _ _ c hi;lia
 ·exact c
 ·have:=h2 i c;lia
def ID{t:SetTable}(hr:oy t.place)(e:t.place[i]?=some j):t.slot j=.live i:=by unfold SetTable.slot;rw[below_at hr e];simp[e]
def Sn{t:SetTable}(hd:t.dummies=#[])(e:∀i:Nat,t.place[i]?≠some j):t.slot j=.empty:=by unfold SetTable.slot;rw[aH (λh=>e _ (dO h)),hd];rw[aH (by simp[has])]
def Rf{mask:Nat}(hr:oy xs)(hs:xs.size<=mask):∃j:Nat,j<=mask/\∀i:Nat,xs[i]?≠some j:=by
 by_cases c:∃j:Nat,j<=mask/\∀i:Nat,xs[i]?≠some j
 ·exact c
 ·exfalso;have all:∀j:Nat,j<=mask->∃i:Nat,xs[i]?=some j:=λj hj=>vh λn=>c {j,hj,λi e=>n ⟨i,e⟩};have key:∀m:Nat,m<=mask->xs[m]?=some m:=by
   intro m
   induction m using Nat.strongRecOn with
   |ind m ih=>
    intro hm;obtain⟨i,e⟩:=all m hm;rcases lP i m with q|q|q
    ·have:=ih i q ∅;rw[this]at e;cases e;lia
    ·rw[<-q];rw[q]at e⊢;exact e
    ·obtain⟨hi,ei⟩:=getD_some.mp e;have h1:=hr m i q hi;have h2:m<=xs.getD m 0:=by
      cases m with
      |zero=>exact aO _
      |succ m=>
       obtain⟨_,e3⟩:=getD_some.mp (ih m ∅ ∅);have:=hr m (m+1) ∅ ∅;lia
     lia
  obtain⟨h,_⟩:=getD_some.mp (key mask (aw _));lia
structure Tab(t:SetTable)(hs:List Int):Prop where
 pow:∃k,t.mask+1=2^k
 big:07<=t.mask
 U8:t.dummies=#[]
 rise:oy t.place
 sz:t.place.size=hs.length
 mz:hs.length<=t.mask
 le:∀i j:Nat,t.place[i]?=some j->j<=t.mask
 reach:∀(i:Nat)(h:Int),hs[i]?=some h->∃d,t.place[i]?=some (ps t.mask h d)/\∀e,e<d->∃i':Nat,t.place[i']?=some (ps t.mask h e)
def Tab.fits(T:Tab t hs):t.fits hs.length=true:=by unfold SetTable.fits SetTable.fill;have h1:=T.sz;have h2:=T.mz;rw[T.U8,h1];simp[h2]
def Tab.way(T:Tab t hs):t.gaveWay=false:=by
 obtain⟨k,hk⟩:=T.pow;have:=T.big;unfold SetTable.gaveWay;cases k with
 |zero=>rw[Nat.pow_zero]at hk;lia
 |succ k=>rw[oG]at hk;simp;lia
def Tab.fresh(finger moves:Nat)(led:Bool):Tab (.fresh finger moves led) [] where
 pow:={3,9}
 big:=aw 07
 U8:=9
 rise:=λi k _ h=>absurd h (fK _)
 sz:=9
 mz:=aO _
 le:=λi j e=>by simp[SetTable.fresh]at e
 reach:=λi h e=>by simp at e
structure RP(t:SetTable)(h:Int)(D:Nat):Prop where
 lt:D<10*turns t.mask
 no:∀i:Nat,t.place[i]?≠some 652
 ahead:∀e,e<D->∃i:Nat,t.place[i]?=some (ps t.mask h e)
def Tab.free(T:Tab t hs)(h:Int):∃D,RP t h D:=by obtain⟨k,hk⟩:=T.pow;obtain⟨j,hj,hn⟩:=Rf T.rise (show t.place.size<=t.mask by rw[T.sz];exact T.mz);obtain⟨n,Mq,_,e⟩:=hits hk h hj;obtain⟨D,h1,h2,h3⟩:=least (p:=λd=>∀i:Nat,t.place[i]?≠some (ps t.mask h d)) (n:=Tn t.mask h n) (by rw[e];exact hn);have:=Z3 t.mask h n;refine{D,by unfold turns;lia,h2,λe he=>vh λq=>h3 e he λi z=>q ⟨i,z⟩}
theorem Lf(mask:Nat)(h:Int):∀d,(pr mask h d).dummy=none
 |0=>rfl
 |d+1=>by show(Es mask (pr mask h d)).dummy=none;unfold Es;split<;>exact Lf mask h d
def Tab.live(T:Tab t hs){i j:Nat}(e:t.place[i]?=some j):∃h,hs[i]?=some h:=by obtain⟨hi,_⟩:=getD_some.mp e;rw[T.sz]at hi;exact{_,av hi}
theorem Le(T:Tab t hs)(fr:RP t h D)(ha:∀(i:Nat)(g:Int),hs[i]?=some g->hashAt i=g):∀(f d:Nat),d<=D->D -d<f->
  (probe.go t hashAt h f (pr t.mask h d)=some (.empty 652 none)/\∀e,d<=e->e<D->∀i:Nat,t.place[i]?=some (ps t.mask h e)->hs[i]?≠some h)\/
  ∃e i,d<=e/\e<D/\t.place[i]?=some (ps t.mask h e)/\hs[i]?=some h/\probe.go t hashAt h f (pr t.mask h d)=some (.candidate (ps t.mask h e) i (pr t.mask h (e+1)))/\∀e',d<=e'->e'<e->∀i':Nat,t.place[i']?=some (ps t.mask h e')->hs[i']?≠some h
 |0,d,_,hf=>absurd hf (fK _)
 |f+1,d,hd,hf=>by
  unfold probe.go;by_cases c:d=D
  ·subst c;have e:t.slot (pr t.mask h d).j=.empty:=Sn T.U8 fr.no;rw[e];refine .inl {?_,λe a b=>by lia};show some (Met.empty (ps t.mask h d) (pr t.mask h d).dummy)=_;rw[Lf]
  ·obtain⟨i,hi⟩:=fr.ahead d ∅;have e:t.slot (pr t.mask h d).j=.live i:=ID T.rise hi;rw[e];obtain⟨g,hg⟩:=T.live hi;have hu:∀i':Nat,t.place[i']?=some (ps t.mask h d)->i'=i:=λi' q=>by rw[<-below_at T.rise q,<-below_at T.rise hi]
   by_cases c2:hashAt i=h
   ·refine .inr {d,i,aw _,8,hi,?_,?_,λe' a b=>by lia}
    ·rw[ha i g hg]at c2;rw[hg,c2]
    ·show(if(hashAt i==h)=true then some (Met.candidate (ps t.mask h d) i (t.advance (pr t.mask h d)))else probe.go t hashAt h f (t.advance (pr t.mask h d)))=_;rw[aK (c2▸BEq.rfl)];rfl
   ·have no:∀i':Nat,t.place[i']?=some (ps t.mask h d)->hs[i']?≠some h:=λi' q z=>by rw[hu i' q]at z;exact c2 (ha i h z)
    have eq:(if(hashAt i==h)=true then some (Met.candidate (ps t.mask h d) i (t.advance (pr t.mask h d)))else probe.go t hashAt h f (t.advance (pr t.mask h d)))=probe.go t hashAt h f (pr t.mask h (d+1)):=by rw[aH (by simpa using c2)];rfl
    rcases(Le T fr ha f (d+1) ∅ ∅)with⟨h1,h2⟩|⟨e,i2,h1,h2,h3,h4,h5,h6⟩
    ·refine .inl {eq.trans h1,λe a b i' q=>?_};by_cases z:e=d
     ·rw[z]at q;exact no i' q
     ·exact h2 e ∅ b i' q
    ·refine .inr {e,i2,8,h2,h3,h4,eq.trans h5,λe' a b i' q=>?_};by_cases z:e'=d
     ·rw[z]at q;exact no i' q
     ·exact h6 e' ∅ b i' q
def kz(l:List α)(p:Nat)(x:α):List α:=l.take p++x::l.drop p
def Mb(l:List α)(x:α)(hp:p<=l.length)(i:Nat):(kz l p x)[i]?=if i<p then l[i]? else if i=p then some x else l[i -1]?:=by
 unfold kz;by_cases c:i<p
 ·rw[aK c,ke (by rw[aZ];lia),wI c]
 ·rw[aH c,h9 (by rw[aZ];lia),aZ,k7 hp];by_cases c2:i=p
  ·rw[aK c2,c2,wF];rfl
  ·rw[aH c2,show i -p=(i -p -1)+1 by lia,List.getElem?_cons_succ,List.getElem?_drop];congr 1;lia
def yb(l:List α)(x:α)(hp:p<=l.length):(kz l p x).length=l.length+1:=by unfold kz;rw[aC,bE,aZ,dD];lia
def Ua(l:List α)(p:Nat)(x:α):(kz l p x).Perm (x::l):=by refine List.perm_middle.trans ?_;rw[jO]
def Ma(f:α->β)(l:List α)(p:Nat)(x:α):(kz l p x).map f=kz (l.map f) p (f x):=by unfold kz;simp
def rf(xs:Array α)(p:Nat)(x:α):(insertAt xs p x).toList=kz xs.toList p x:=by unfold insertAt kz;simp[cU]
def oy.of_get(h:∀i k a b:Nat,i<k->xs[i]?=some a->xs[k]?=some b->a<b):oy xs:=λi k Mv hk=>
 h i k _ _ Mv (getD_some.mpr {8,9}) (getD_some.mpr ⟨hk,rfl⟩)
def oy.get(h:oy xs){i k a b:Nat}(Mv:i<k)(ha:xs[i]?=some a)(hb:xs[k]?=some b):a<b:=by obtain⟨h1,e1⟩:=getD_some.mp ha;obtain⟨h2,e2⟩:=getD_some.mp hb;have:=h i k Mv h2;lia
def BH{t:SetTable}(hr:oy t.place)(j i:Nat):(t.put j).1.place[i]?=if i<below t.place j then t.place[i]? else if i=below t.place j then some j else t.place[i -1]?:=by show(insertAt t.place (below t.place j) j)[i]?=_;rw[<-dw,rf,Mb _ _ (by rw[bI];exact(vf hr j).1)];simp only[dw]
def Hf{t:SetTable}(hr:oy t.place){i v:Nat}(e:t.place[i]?=some v):∃i':Nat,(t.put j).1.place[i']?=some v:=by
 by_cases c:i<below t.place j
 ·exact{i,by rw[BH hr,aK c,e]}
 ·exact{i+1,by rw[BH hr,aH ∅,aH ∅,Nat.add_sub_cancel,e]}
def Tab.put(T:Tab t hs)(fr:RP t h D)(room:hs.length+1<=t.mask):Tab (t.put 652).1 (kz hs (t.put 652).2 h):=by
 have hb:=vf T.rise 652;have hp:(t.put 652).2=below t.place 652:=9;have lG:below t.place 652<=hs.length:=by rw[<-T.sz];exact hb.1
 rw[hp];have pl:=λi=>BH T.rise 652 i;have hl:=Mb hs h lG;have at_:(t.put 652).1.place[below t.place 652]?=some 652:=by rw[pl,aH (cX _),aK rfl]
 have lo:∀i a:Nat,i<below t.place 652->t.place[i]?=some a->a<ps t.mask h D:=λi a c e=>by obtain⟨_,e⟩:=getD_some.mp e;have:=hb.2.1 i c;lia
 have hi:∀i a:Nat,below t.place 652<=i->t.place[i]?=some a->ps t.mask h D<a:=λi a c e=>by obtain⟨l,e'⟩:=getD_some.mp e;have:=hb.2.2 i c l;have ne:a≠ps t.mask h D:=λz=>fr.no i (by rw[e,z]);lia
 refine{T.pow,T.big,?_,?_,?_,?_,λi j e=>?_,λi g e=>?_}
 ·show(if has t.dummies 652=true then _ else t.dummies)=_;rw[T.U8];simp[has]
 ·refine oy.of_get λi k a b Mv ha gd=>?_;rw[pl]at ha gd;by_cases c1:i<below t.place 652
  ·rw[aK c1]at ha;by_cases c2:k<below t.place 652
   ·rw[aK c2]at gd;exact T.rise.get Mv ha gd
   ·rw[aH c2]at gd;by_cases c3:k=below t.place 652
    ·rw[aK c3]at gd;cases gd;exact lo i a c1 ha
    ·rw[aH c3]at gd;exact dI (lo i a c1 ha) (hi _ b ∅ gd)
  ·rw[aH c1]at ha;rw[aH ∅,aH ∅]at gd;by_cases c3:i=below t.place 652
   ·rw[aK c3]at ha;cases ha;exact hi _ b ∅ gd
   ·rw[aH c3]at ha;exact T.rise.get ∅ ha gd
 ·rw[yb _ _ lG,<-T.sz,<-bI];show(insertAt t.place (below t.place 652) 652).toList.length=_;rw[rf,yb _ _ (by rw[bI];exact hb.1),bI]
 ·rw[yb _ _ lG];exact room
 ·rw[pl]at e;by_cases c1:i<below t.place 652
  ·rw[aK c1]at e;exact T.le i j e
  ·rw[aH c1]at e;by_cases c3:i=below t.place 652
   ·rw[aK c3]at e;cases e;exact Qo
   ·rw[aH c3]at e;exact T.le _ j e
 ·have mk:(t.put 652).1.mask=t.mask:=9;rw[mk];rw[hl]at e;by_cases c1:i<below t.place 652
  ·rw[aK c1]at e;obtain⟨d,h1,h2⟩:=T.reach i g e;exact{d,by rw[pl,aK c1];exact h1,λx hx=>let⟨_,q⟩:=h2 x hx;Hf T.rise q}
  ·rw[aH c1]at e;by_cases c3:i=below t.place 652
   ·rw[aK c3]at e;cases e;exact{D,by rw[c3];exact at_,λx hx=>let⟨_,q⟩:=fr.ahead x hx;Hf T.rise q}
   ·rw[aH c3]at e;obtain⟨d,h1,h2⟩:=T.reach _ g e;exact{d,by rw[pl,aH c1,aH c3];exact h1,λx hx=>let⟨_,q⟩:=h2 x hx;Hf T.rise q}
def Tab.of_eq(T:Tab t hs)(h1:t'.mask=t.mask)(h2:t'.place=t.place)(h3:t'.dummies=t.dummies):Tab t' hs:=by obtain⟨a1,a2,a3,a4,a5,a6,a7,a8⟩:=T;rw[<-h1]at a1 a2 a6 a7 a8;rw[<-h2]at a4 a5 a7 a8;rw[<-h3]at a3;exact⟨a1,a2,a3,a4,a5,a6,a7,a8⟩
structure Own(mask:Nat)(ow:Array (Option Nat))(hs:List Int):Prop where
 sz:ow.size=mask+1
 lt:∀j i:Nat,ow[j]?=some (some i)->i<hs.length
 inj:∀j j' i:Nat,ow[j]?=some (some i)->ow[j']?=some (some i)->j=j'
 at_:∀(i:Nat)(h:Int),hs[i]?=some h->∃d,ow[ps mask h d]?=some (some i)/\∀e,e<d->∃i':Nat,ow[ps mask h e]?=some (some i')
def Own.empty{mask:Nat}(O:Own mask ow hs)(mz:hs.length<=mask):∃j:Nat,j<=mask/\ow[j]?=some none:=by
 by_cases c:∃j:Nat,j<=mask/\ow[j]?=some none
 ·exact c
 ·exfalso;have all:∀j:Nat,j<=mask->ow[j]?=some (some ((ow.getD j none).getD 0)):=λj hj=>by
   have hl:j<ow.size:=by rw[O.sz];lia
   have e:ow[j]?=some (ow.getD j none):=by rw[cH hl];simp[Array.getD,hl]
   cases q:ow.getD j none with
   |none=>exact(c {j,hj,by rw[e,q]}).elim
   |some i=>rw[e,q];rfl
  have nd:((List.range (mask+1)).map λj=>(ow.getD j none).getD 0).Nodup:=by
   refine jZ.mpr (List.Pairwise.imp_of_mem (λ{a b} ha hb ne e=>ne (O.inj a b _ (all a ?_) (e▸all b ?_))) List.nodup_range)
   ·have:=cD.mp ha;lia
   ·have:=cD.mp hb;lia
  have sub:((List.range (mask+1)).map λj=>(ow.getD j none).getD 0)⊆List.range hs.length:=λx hx=>by obtain⟨j,hj,rfl⟩:=aD.mp hx;have:=cD.mp hj;exact cD.mpr (O.lt j _ (all j ∅))
  have:=List.Nodup.length_le_of_subset nd sub;rw[ah,eP,eP]at this;lia
def abZ(mask:Nat)(h:Int)(hmn:m<=n):Tn mask h m<=Tn mask h n:=by
 induction n with
 |zero=>rw[Nat.le_zero.mp hmn];exact aw _
 |succ n ih=>
  by_cases c:m=n+1
  ·rw[c];exact aw _
  ·have:=ih ∅;show _<=Tn mask h n+run mask (lp mask h n).1+1;lia
def aaN(mask i:Nat):runEnd mask i+1 -i=run mask i+1:=by unfold run runEnd;split<;>lia
theorem Pw{mask:Nat}(hD:ow[ps mask h D]?=some none)(hb:∀e,e<D->∃i':Nat,ow[ps mask h e]?=some (some i'))(hn0:D<=Tn mask h n0):∀(f n:Nat),Tn mask h n<=D->n0 -n<f->layClean.free mask ow f (lp mask h n).1 (lp mask h n).2=some (ps mask h D)
 |0,n,_,hf=>absurd hf (fK _)
 |f+1,n,hn,hf=>by
  have own:∀e,e<=run mask (lp mask h n).1->Tn mask h n+e<D->(ow.getD ((lp mask h n).1+e) (some 0)).isNone=false:=λe he bQ=>by obtain⟨i',q⟩:=hb _ bQ;rw[FO he]at q;obtain⟨l,q⟩:=ie.mp q;simp[Array.getD,l,q]
  unfold layClean.free;rw[aaN];by_cases c:D<=Tn mask h n+run mask (lp mask h n).1
  ·have e1:(List.range (run mask (lp mask h n).1+1)).find? (λk=>(ow.getD ((lp mask h n).1+k) (some 0)).isNone)=some (D -Tn mask h n):=by
    refine List.find?_range_eq_some.mpr {?_,cD.mpr ∅,λj hj=>?_}
    ·have q:=hD;rw[show D=Tn mask h n+(D -Tn mask h n) by lia,FO ∅]at q;obtain⟨l,q⟩:=ie.mp q;simp[Array.getD,l,q]
    ·rw[own j ∅ ∅];rfl
   simp only[e1];rw[<-FO ∅,show Tn mask h n+(D -Tn mask h n)=D by lia]
  ·have e1:(List.range (run mask (lp mask h n).1+1)).find? (λk=>(ow.getD ((lp mask h n).1+k) (some 0)).isNone)=none:=by refine List.find?_range_eq_none.mpr λj hj=>?_;rw[own j ∅ ∅];rfl
   simp only[e1];have lt:n<n0:=by
    rcases Nat.lt_or_ge n n0 with q|q
    ·exact q
    ·have:=abZ mask h q;lia
   exact Pw hD hb hn0 f (n+1) (by show Tn mask h n+run mask (lp mask h n).1+1<=D;lia) ∅
abbrev yV(mask:Nat)(acc:Option (Array (Option Nat)×Nat))(h:Int):Option (Array (Option Nat)×Nat):=do
  let(owner,k)<-acc
  let j<-layClean.free mask owner (turns mask) (bits h %(mask+1)) (bits h)
  pure (owner.setIfInBounds j (some k),k+1)
def NR(mask:Nat)(hashes:Array Int):layClean mask hashes=(hashes.toList.foldl (yV mask) (some (Array.replicate (mask+1) none,0))).map (·.1):=by rw[Array.foldl_toList];rfl
def Own.step{mask k:Nat}(hk:mask+1=2^k)(O:Own mask ow hs)(mz:hs.length<mask)(h:Int):∃S7,yV mask (some (ow,hs.length)) h=some (S7,hs.length+1)/\Own mask S7 (hs++[h]):=by
 obtain⟨j,hj,ej⟩:=O.empty (bC mz);obtain⟨n0,hn0,_,e0⟩:=hits hk h hj;obtain⟨D,h1,h2,h3⟩:=least (p:=λd=>ow[ps mask h d]?=some none) (e0▸ej);have hb:∀e,e<D->∃i':Nat,ow[ps mask h e]?=some (some i'):=λe he=>by
  have l:ps mask h e<ow.size:=by rw[O.sz];have:=Qo (mask:=mask) (h:=h) (d:=e);lia
  cases q:ow[ps mask h e]with
  |none=>exact(h3 e he (by rw[cH l,q])).elim
  |some i=>exact{i,by rw[cH l,q]}
 have ef':layClean.free mask ow (turns mask) (bits h %(mask+1)) (bits h)=some (ps mask h D):=(Pw h2 hb h1 (turns mask) 0 (aO _) (by unfold turns;lia));refine{ow.setIfInBounds (ps mask h D) (some hs.length),by simp[yV,ef'],?_};have get:∀x:Nat,(ow.setIfInBounds (ps mask h D) (some hs.length))[x]?=if x=ps mask h D then some (some hs.length)else ow[x]?:=λx=>by
  rw[Array.getElem?_setIfInBounds];by_cases c:x=ps mask h D
  ·rw[aK c,aK c.symm,aK (by rw[O.sz];have:=Qo (mask:=mask) (h:=h) (d:=D);lia)]
  ·rw[aH c,aH (cL c)]
 have keep:∀x i:Nat,ow[x]?=some (some i)->(ow.setIfInBounds (ps mask h D) (some hs.length))[x]?=some (some i):=λx i e=>by rw[get,aH λz=>by rw[z,h2]at e;cases e];exact e
 refine{by simp[O.sz],λx i e=>?_,λx y i ex ey=>?_,λi g e=>?_}
 ·rw[get]at e;rw[aC,du];by_cases c:x=ps mask h D
  ·rw[aK c]at e;cases e;lia
  ·rw[aH c]at e;have:=O.lt x i e;lia
 ·rw[get]at ex ey;by_cases c:x=ps mask h D
  ·rw[aK c]at ex;cases ex;by_cases c2:y=ps mask h D
   ·rw[c,c2]
   ·rw[aH c2]at ey;exact absurd (O.lt y _ ey) (cX _)
  ·rw[aH c]at ex;by_cases c2:y=ps mask h D
   ·rw[aK c2]at ey;cases ey;exact absurd (O.lt x _ ex) (cX _)
   ·rw[aH c2]at ey;exact O.inj x y i ex ey
 ·by_cases c:i<hs.length
  ·rw[ke c]at e;obtain⟨d,q1,q2⟩:=O.at_ i g e;exact{d,keep _ _ q1,λx hx=>let⟨i',q⟩:=q2 x hx;{i',keep _ _ q}}
  ·rw[h9 ∅]at e;have ei:i=hs.length:=by
    rcases lP i hs.length with q|q|q
    ·lia
    ·exact q
    ·rw[mj (by rw[du];lia)]at e;cases e
   subst ei;rw[wF]at e;cases e;exact{D,by rw[get,aK rfl],λx hx=>let⟨i',q⟩:=hb x hx;{i',keep _ _ q}}
theorem Ls{mask k:Nat}(hk:mask+1=2^k):∀(rest:List Int)(ow:Array (Option Nat))(hs:List Int),Own mask ow hs->(hs++rest).length<=mask->∃S7,rest.foldl (yV mask) (some (ow,hs.length))=some (S7,(hs++rest).length)/\Own mask S7 (hs++rest)
 |[],ow,hs,O,_=>{ow,59,by simpa using O}
 |h::rest,ow,hs,O,mz=>by rw[aC,bE]at mz;obtain⟨ow1,e1,O1⟩:=O.step hk ∅ h;obtain⟨ow2,e2,O2⟩:=Ls hk rest ow1 (hs++[h]) O1 (by rw[aC,aC,du];lia);rw[dF]at e2 O2;refine{ow2,?_,O2};rw[gQ,e1];rw[aC,du]at e2;exact e2
def abq{mask k:Nat}(hk:mask+1=2^k)(big:07<=mask)(finger moves:Nat)(led plain:Bool)(hs:List Int)(mz:hs.length<=mask):
  ∃t order,laid mask finger moves led plain hs.toArray=some (t,order)/\t.mask=mask/\t.finger=finger/\t.led=led/\t.moves=moves/\t.plain=plain/\order.toList.Perm (List.range hs.length)/\Tab t (order.toList.map λi=>hs.getD i 0):=by
 have O0:Own mask (Array.replicate (mask+1) none) []:={59,λj i e=>by simp[wL]at e,λj j' i e=>by simp[wL]at e,λi h e=>by simp at e};obtain⟨ow,e,O⟩:=Ls hk hs _ _ O0 (by simpa using mz);rw[jP]at e O;have el:layClean mask hs.toArray=some ow:=by rw[NR];have e':(hs.toArray.toList.foldl (yV mask) (some (Array.replicate (mask+1) none,0)))=some (ow,hs.length):=e;rw[e'];rfl
 obtain⟨live,Ei⟩:∃live,live=(List.range (mask+1)).filterMap λj=>(ow.getD j none).map (j,·):=⟨_,rfl⟩;have mem:∀p:Nat×Nat,p∈live↔ow[p.1]?=some (some p.2):=λp=>by
  rw[Ei,k9];constructor
  ·rintro⟨j,hj,q⟩;have lj:j<ow.size:=O.sz▸cD.mp hj;obtain⟨i,q1,q2⟩:=bz.mp q;subst q2;rw[cH lj];have q3:ow[j]=some i:=by simpa[Array.getD,lj]using q1
   rw[q3]
  ·intro q;obtain⟨l,q'⟩:=ie.mp q;refine{p.1,cD.mpr (O.sz▸l),?_};have q3:ow.getD p.1 none=some p.2:=by simp[Array.getD,l,q']
   rw[q3];rfl
 have sub:∀(j:Nat)(b:Nat×Nat),(ow.getD j none).map (j,·)=some b->b.1=j/\ow[j]?=some (some b.2):=λj b q=>by
  obtain⟨i,q1,q2⟩:=bz.mp q;subst q2;refine{9,?_};by_cases l:j<ow.size
  ·rw[cH l];have q3:ow[j]=some i:=by simpa[Array.getD,l]using q1
   rw[q3]
  ·simp[Array.getD,l]at q1
 have p1:live.Pairwise (λa b=>a.1<b.1):=by rw[Ei];refine w4 _ (λa a' bQ b hb b' gd=>?_) yt;rw[(sub a b hb).1,(sub a' b' gd).1];exact bQ
 have p2:live.Pairwise (λa b=>a.2≠b.2):=by rw[Ei];refine w4 _ (λa a' bQ b hb b' gd ne=>?_) yt;have q2:=(sub a' b' gd).2;rw[<-ne]at q2;have:=O.inj a a' _ ((sub a b hb).2) q2;lia
 have perm:(live.map (·.2)).Perm (List.range hs.length):=by
  refine(nh (jZ.mpr p2) List.nodup_range).mpr λi=>?_;rw[cD,aD];constructor
  ·rintro⟨p,hp,rfl⟩;exact O.lt _ _ ((mem p).mp hp)
  ·intro hi;obtain⟨d,q,_⟩:=O.at_ i _ (av hi);exact{(_,i),(mem (_,i)).mpr q,9}
 have ll:live.length=hs.length:=by have:=perm.length_eq;rwa [ah,eP]at this
 have pl:∀m:Nat,((live.map (·.1)).toArray)[m]?=live[m]?.map (·.1):=λm=>by simp
 refine⟨{mask,place:=(live.map (·.1)).toArray,dummies:=#[],finger,led,moves,plain},(live.map (·.2)).toArray,?_,rfl,rfl,rfl,rfl,rfl,by simpa using perm,?_⟩
 ·unfold laid;rw[el,Ei];rfl
 ·refine{⟨k,hk⟩,big,9,?_,?_,?_,λi j q=>?_,λm h q=>?_}
  ·refine oy.of_get λi k a b Mv ha hb=>?_;rw[pl]at ha hb;obtain⟨x,hx,rfl⟩:=bz.mp ha;obtain⟨y,hy,rfl⟩:=bz.mp hb;obtain⟨lx,ex⟩:=aq.mp hx;obtain⟨ly,ey⟩:=aq.mp hy;subst ex ey;exact nG.mp p1 i k lx ly Mv
  ·simp
  ·simp[ll,mz]
  ·rw[pl]at q;obtain⟨x,hx,rfl⟩:=bz.mp q;have:=(mem x).mp (aA hx);obtain⟨l,_⟩:=ie.mp this;rw[O.sz]at l;show x.1<=mask;lia
  ·have q':(live.map λp=>hs.getD p.2 0)[m]?=some h:=by
    have e3:(live.map (·.2)).toArray.toList.map (λi=>hs.getD i 0)=live.map λp=>hs.getD p.2 0:=by simp
    rw[<-e3];exact q
   rw[aX]at q';obtain⟨x,hx,rfl⟩:=bz.mp q';have hw:=(mem x).mp (aA hx);have hl:=O.lt _ _ hw;have eh:hs[x.2]?=some (hs.getD x.2 0):=by rw[av hl];simp[hl]
   obtain⟨d,d1,d2⟩:=O.at_ x.2 _ eh;refine{d,?_,λe he=>?_}
   ·show((live.map (·.1)).toArray)[m]?=some (ps mask (hs.getD x.2 0) d);rw[pl,hx,(O.inj _ _ _ d1 hw)];rfl
   ·obtain⟨i',q3⟩:=d2 e he;obtain⟨m',hm'⟩:=eJ.mp ((mem (_,i')).mpr q3);refine{m',?_};rw[pl,hm'];rfl
theorem Bs(n:Nat):∀(f j:Nat),n<2^(j+f)->∃k,j<=k/\sizeAbove.go n f (2^j)=2^k/\n<2^k/\(k=j\/2^k<=2*n)
 |0,j,h=>{j,aw _,9,h,.inl rfl}
 |f+1,j,h=>by
  unfold sizeAbove.go;by_cases c:2^j<=n
  ·rw[aK c,<-oG];obtain⟨k,h1,h2,h3,h4⟩:=Bs n f (j+1) (by rw[show j+1+f=j+(f+1) by lia];exact h);refine{k,8,h2,h3,.inr ?_};rcases h4 with h4|h4
   ·rw[h4,oG];lia
   ·exact h4
  ·rw[aH c];exact{j,aw _,9,8,.inl rfl}
def Br(h:n<2^64):∃k,sizeAbove n=2^k/\08<=2^k/\n<2^k/\2^k<=2*n+08:=by
 obtain⟨k,h1,h2,h3,h4⟩:=Bs n 64 3 (bw h 7);have:2^3<=2^k:=Az 7 h1;refine{k,h2,this,h3,?_};rcases h4 with h4|h4
 ·rw[h4];lia
 ·lia
def SJ(t:SetTable)(hs:List Int)(h:n<2^64)(mz:hs.length<n):∃t' order,t.relaid hs.toArray n=some (t',order)/\n<=t'.mask/\t'.mask<=2*n+07/\t'.finger=t.finger/\t'.led=t.led/\t'.plain=t.plain/\order.toList.Perm (List.range hs.length)/\Tab t' (order.toList.map λi=>hs.getD i 0):=by obtain⟨k,e,h1,h2,h3⟩:=Br h;obtain⟨t',order,q1,q2,q3,q4,_,q5,q6,q7⟩:=abq (mask:=sizeAbove n -1) (k:=k) (by rw[e];lia) (by rw[e];lia) t.finger (t.movedTo (sizeAbove n -1)) t.led t.plain hs (by rw[e];lia);exact{t',order,q1,by rw[q2,e];lia,by rw[q2,e];lia,q3,q4,q5,q6,q7}
theorem BF{α:Type}:∀l:List α,(List.range l.length).filterMap (λi=>l[i]?)=l
 |[]=>rfl
 |x::l=>by rw[bE,yr,fB];show x::_=_;rw[uh];congr 1;exact BF l
def Qt{α:Type}{es:Array α}{order:Array Nat}(hp:order.toList.Perm (List.range es.size)):(order.filterMap (es[·]?)).toList.Perm es.toList/\∀(g:α->Int),(order.filterMap (es[·]?)).toList.map g=order.toList.map λi=>(es.toList.map g).getD i 0:=by
 have e1:(order.filterMap (es[·]?)).toList=order.toList.filterMap (es.toList[·]?):=by simp
 rw[e1];constructor
 ·have:=hp.filterMap (es.toList[·]?);rw[<-bI]at this;rwa [BF]at this
 ·intro g;have lt:∀i∈order.toList,i<es.toList.length:=λi hi=>by rw[bI];exact cD.mp (hp.mem_iff.mp hi)
  generalize order.toList=l at lt
  induction l with
  |nil=>rfl
  |cons i l ih=>
   have li:=lt i (aF ..);rw[fB,av li];show g _::_=_;rw[bt,ih λj hj=>lt j (aG _ hj)];congr 1;rw[cB,aX,av li];rfl
section
variable{prog:Program}{w:World}{K:Type}[DecidableEq K]{knd:KeyKind prog w K}{A:Around}{E:Aad}{s:Shared}
abbrev ent(knd:KeyKind prog w K)(x:List K×Addr):Int×Value:=(tupleKeyHash knd x.1,Value.ref x.2)
structure sX(knd:KeyKind prog w K)(h:Heap)(a:Addr)(o:Obj)(ep:Nat)(t:SetTable)(xs:List (List K×Addr)):Prop where
 ob:h.get? a=some o
 ex:o.ExactSet
 data:o.data=.set (xs.map 663).toArray ep t
 tab:Tab t (xs.map λx=>tupleKeyHash knd x.1)
 mz:xs.length*5<t.mask*3
 cap:t.mask<=08*xs.length+15
 nd:(xs.map (·.1)).Nodup
 is:∀x∈xs,IsTupleKey knd h x.1 x.2
def sX.fits(S:sX knd h a o ep t xs):t.fits ((xs.map 663).toArray).size=true:=by have:=S.tab.fits;rw[ah]at this;simpa using this
def sX.state(S:sX knd s.heap a o ep t xs)(h:Q ((xs.map 663).toArray,ep,t) s):wpAny 58 A (setState a) Q E s:=
 uK S.ob S.data S.fits h
def sX.ne(S:sX knd h a o ep t xs)(hk:IsTupleKey knd h ks b):b≠a:=by rintro rfl;obtain⟨o',items,n,ph,_,pw,_⟩:=hk;obtain rfl:o'=o:=bT (ph.symm.trans S.ob);rw[S.data]at pw;cases pw
def Kh(hx:IsTupleKey knd s.heap ks b)(h:Q false s):wpAny 58 A (ofAClassStatement 08 (.ref b)) Q E s:=by
 have hT:=hx.typeIs;obtain⟨o,items,n,ho,_,hd,hi⟩:=hx;unfold ofAClassStatement;refine ae (gX hT ?_);dsimp only;refine ae 660;refine ae (dh ho hd ?_);refine ae ?_;rw[<-oJ];refine mD _ (λrest r s'=>r.1=none/\s'=s/\∀v∈rest,carriedByValue v=true) _ ?_ ?_ _ _ {9,9,hi.byValue}
 ·rintro v rest r s' ⟨hr,rfl,ot⟩;have hv:=ot v aF;have e:ofAClassStatement 07 v=pure false:=by
   cases v with
   |ref a=>simp[carriedByValue]at hv
   |_=>first|rfl|(unfold ofAClassStatement;rfl)
  rw[e];refine ae 660;exact ao {9,9,λu oq=>ot u (aG _ oq)}
 ·rintro⟨r1,r2⟩ s' ⟨hr,rfl,_⟩;simp only at hr;subst hr;exact ao h
def aaq(hx:IsTupleKey knd s.heap x b)(l:Aaf)(hl:∀v∈l,∃ks c,v=Value.ref c/\IsTupleKey knd s.heap ks c)(h:Q false s):wpAny 58 A (searchCouldBeSeen (.ref b) l) Q E s:=by
 refine ae ?_;refine mD _ (λrest r s'=>r.1=none/\s'=s/\∀v∈rest,∃ks c,v=Value.ref c/\IsTupleKey knd s.heap ks c) _ ?_ ?_ _ _ ⟨rfl,rfl,hl⟩
 ·rintro v rest r s' ⟨hr,rfl,ot⟩;obtain⟨ks,c,rfl,hk⟩:=ot v aF;have YE:=λu oq=>ot u (aG _ oq);by_cases e:(b==c||(carriedByValue (.ref b)&&carriedByValue (.ref c)))=true
  ·rw[aK e];exact ao ⟨rfl,rfl,YE⟩
  ·rw[aH e];refine ae (yE hx ?_);refine ae (yE hk ?_);refine ae (Kh hx ?_);refine ae (Kh hk ?_);exact ao ⟨rfl,rfl,YE⟩
 ·rintro⟨r1,r2⟩ s' ⟨hr,rfl,_⟩;simp only at hr;subst hr;exact ao h
def RT(hu:A.units<cLine)(S:sX knd s.heap a o ep t xs)(hk:IsTupleKey knd s.heap k b)(fr:RP t 642 D)
  (h1:(∃x∈xs,x.1=k)->Q (.there none) s) (h2:(∀x∈xs,x.1≠k)->Q (.free (ps t.mask 642 D) false) s):
  ∀(m fuel d:Nat)(st:Option Probe),D -d=m->d<=D->m<fuel->st.getD (t.probeStart 642)=pr t.mask 642 d->(∀e,e<d->∀(i:Nat)(x:List K×Addr),t.place[i]?=some (ps t.mask 642 e)->xs[i]?=some x->x.1≠k)->
   wpAny 58 A (setSearchFrom a (.ref b) 642 true fuel st) Q E s:=by
 intro m
 induction m using Nat.strongRecOn with
 |ind m ih=>
  intro fuel d st hm hd hf AZ za;cases fuel with
  |zero=>exact absurd hf (fK _)
  |succ fuel=>
   refine ae (S.state ?_);dsimp only;rw[S.tab.way];rw[AZ];have hsL:∀(i:Nat)(x:List K×Addr),xs[i]?=some x->(xs.map λx=>tupleKeyHash knd x.1)[i]?=some (tupleKeyHash knd x.1):=λi x e=>by rw[aX,e];rfl
   have hsR:∀(i:Nat)(g:Int),(xs.map λx=>tupleKeyHash knd x.1)[i]?=some g->∃x,xs[i]?=some x/\tupleKeyHash knd x.1=g:=λi g e=>by rw[aX]at e;exact bz.mp e
   rcases Le S.tab fr (hashAt:=λi=>((((xs.map 663).toArray)[i]?).map (·.1)).getD 0) (λi g e=>by obtain⟨x,hx,rfl⟩:=hsR i g e;simp[hx]) (10*turns t.mask) d hd (by have:=fr.lt;lia)with⟨e1,e2⟩|⟨e,i,a1,a2,a3,a4,a5,a6⟩
   ·have e1':t.probe (λi=>((((xs.map 663).toArray)[i]?).map (·.1)).getD 0) 642 (pr t.mask 642 d)=some (.empty (ps t.mask 642 D) none):=e1;show wpAny 58 A (match t.probe (λi=>((((xs.map 663).toArray)[i]?).map (·.1)).getD 0) 642 (pr t.mask 642 d)with|some met=>_|_=>_) Q E s;rw[e1'];refine ao (h2 λx hx ex=>?_);obtain⟨i,hi⟩:=eJ.mp hx;obtain⟨d',q1,q2⟩:=S.tab.reach i _ (hsL i x hi);rw[ex]at q1 q2;have lt:d'<D:=by
     rcases lP d' D with q|q|q
     ·exact q
     ·rw[q]at q1;exact(fr.no i q1).elim
     ·obtain⟨i',z⟩:=q2 D q;exact(fr.no i' z).elim
    by_cases c:d'<d
    ·exact za d' c i x q1 hi ex
    ·exact e2 d' ∅ lt i q1 (by rw[hsL i x hi,ex])
   ·obtain⟨y,hy,ey⟩:=hsR i _ a4;have a5':t.probe (λi=>((((xs.map 663).toArray)[i]?).map (·.1)).getD 0) 642 (pr t.mask 642 d)=some (.candidate (ps t.mask 642 e) i (pr t.mask 642 (e+1))):=a5;show wpAny 58 A (match t.probe (λi=>((((xs.map 663).toArray)[i]?).map (·.1)).getD 0) 642 (pr t.mask 642 d)with|some met=>_|_=>_) Q E s;rw[a5'];have ym:=aA hy;have eL:((xs.map 663).toArray)[i]?=some (ent knd y):=by simp[hy]
    have cont:wpAny 58 A (do
      let some (_,y):=((xs.map 663).toArray)[i]?|unsupported "internal:set-entry"
      let equal<-holding [y] (eqBool y (.ref b))
      let(U3,_,t')<-setState a
      if true&&equal then return .there none
      let some same:=t'.sameMemory t.moves t.mask|unsupported "set.changed-during-lookup:is-the-new-block-at-the-old-address"
      let aeG<-match(if same then t'.slot (ps t.mask 642 e)else .empty)with
       | .live i'=>match U3[i']? with
        |some (_,y')=>do pure (if<-isSame y' y then some i' else none)
        |none=>pure none
       |_=>pure none
      match aeG with
      |none=>rule "set.search.anew";setSearchFrom a (.ref b) 642 true fuel none
      |some i'=>if equal then return .there (some i')else setSearchFrom a (.ref b) 642 true fuel (some (pr t.mask 642 (e+1)))) Q E s:=by
     rw[eL];dsimp only;refine ae (cm (wpAny_eqBool_tuple hu (S.is y ym) hk ?_));refine ae (S.state ?_);by_cases c:y.1=k
     ·rw[bj c];exact ao (h1 ⟨y,ym,c⟩)
     ·rw[cA c];have sm:t.sameMemory t.moves t.mask=some true:=by simp[SetTable.sameMemory]
      rw[sm];simp only[oY];rw[ID S.tab.rise a3];dsimp only;rw[eL];dsimp only;have iss:isSame (Value.ref y.2) (Value.ref y.2)=pure true:=aK (wg _);rw[iss];refine ae 660;simp only[oY];refine ae 660;refine ih (D -(e+1)) ∅ fuel (e+1) _ rfl ∅ ∅ rfl λe' Pk i' x q1 q2 qk=>?_;by_cases c2:e'<d
      ·exact za e' c2 i' x q1 q2 qk
      ·by_cases c3:e'=e
       ·rw[c3]at q1;have:i'=i:=by rw[<-below_at S.tab.rise q1,<-below_at S.tab.rise a3]
        rw[this,hy]at q2;cases q2;exact c qk
       ·exact a6 e' ∅ ∅ i' q1 (by rw[hsL i' x q2,qk])
    by_cases led:t.led=true
    ·rw[led];exact cont
    ·have lf:t.led=false:=by cases q:t.led with|false=>rfl|true=>exact(led q).elim
     rw[lf];refine ae (aaq hk _ (λv hv=>?_) ?_)
     ·obtain⟨p,hp,rfl⟩:=aD.mp hv;have Pc:p∈xs.map 663:=by have:=(Array.mem_filter.mp (AM.mp hp)).1;simpa using this
      obtain⟨x,hx,rfl⟩:=aD.mp Pc;exact{x.1,x.2,9,S.is x hx}
     ·simp only[gH,kA];exact cont
end
section
variable{prog:Program}{w:World}{K:Type}[DecidableEq K]{knd:KeyKind prog w K}{A:Around}{E:Aad}{s:Shared}
def NT(n:Nat)(h:carriedByValue v=true):∃b,hashByValue n v=pure b:=by
 cases v with
 |ref a=>simp[carriedByValue]at h
 |_=>cases n<;>exact⟨_,rfl⟩
def ab4(hx:IsTupleKey knd s.heap ks b)(h:∀c,Q c s):wpAny 58 A (hashByValue 08 (.ref b)) Q E s:=by
 have hT:=hx.typeIs;obtain⟨o,items,n,ho,_,hd,hi⟩:=hx;refine ae (iG hT lS.lookup ?_);refine ae (dh ho hd ?_);refine ae ?_;rw[<-oJ];refine mD _ (λrest r s'=>r.1=none/\s'=s/\∀v∈rest,carriedByValue v=true) _ ?_ ?_ _ _ {9,9,hi.byValue}
 ·rintro v rest r s' ⟨hr,rfl,ot⟩;obtain⟨c,e⟩:=NT 07 (ot v aF);rw[e];refine ae 660;cases c with
  |false=>
   exact ao (ao (h false))
  |true=>
   exact ao {9,9,λu oq=>ot u (aG _ oq)}
 ·rintro⟨r1,r2⟩ s' ⟨hr,rfl,_⟩;simp only at hr;subst hr;exact ao (h true)
def VC(ob:s.heap.get? a=some o)(ex:o.ExactSet)(hd:o.data=.set (xs.map 663).toArray ep t)(tab:Tab t (xs.map λx=>tupleKeyHash knd x.1))(nd:(xs.map (·.1)).Nodup)(is:∀x∈xs,IsTupleKey knd s.heap x.1 x.2)
  (hn:xs.length*2<=n) (hn4:n<=xs.length*4) (h0:0<n) (hx:xs.length<=100000) (Eh:n<=100000) (h:∀h' ys o' Cp t',Heap.SameBut a s.heap h'->sX knd h' a o' Cp t' ys->t'.led=t.led->ys.Perm xs->Q () {s with heap:=h'}):wpAny 58 A (setRelay a n) Q E s:=by
 have fits:t.fits ((xs.map 663).toArray).size=true:=by have:=tab.fits;simpa using this
 refine ae (uK ob hd fits ?_);dsimp only;obtain⟨k,e1,e2,e3,e4⟩:=Br (n:=n) ∅;rw[aH (by rw[e1,bW];lia)];have hm:((xs.map 663).toArray).map (·.1)=(xs.map λx=>tupleKeyHash knd x.1).toArray:=by simp[uZ]
 obtain⟨t',order,q1,q2,qc,q3,q4,q5,q6,q7⟩:=SJ t (xs.map λx=>tupleKeyHash knd x.1) (n:=n) ∅ (by rw[ah];lia);rw[hm,q1];rw[ah]at q6;have oz:order.toList.Perm (List.range ((xs.map 663).toArray).size):=by simpa using q6
 obtain⟨o1,o2⟩:=Qt oz;have lF:(order.filterMap (((xs.map 663).toArray)[·]?))=((order.toList.filterMap (xs[·]?)).map 663).toArray:=by apply wK.mp;simp[List.map_filterMap]
 have py:(order.toList.filterMap (xs[·]?)).Perm xs:=by have:=q6.filterMap (xs[·]?);rwa [BF]at this
 have ly:=py.length_eq;have hh:(order.toList.filterMap (xs[·]?)).map (λx=>tupleKeyHash knd x.1)=order.toList.map λi=>(xs.map λx=>tupleKeyHash knd x.1).getD i 0:=by have:=o2 (·.1);rw[lF]at this;simpa[uZ]using this
 rw[<-hh]at q7;generalize order.toList.filterMap (xs[·]?)=ys at*;refine ae ?_;show wpAny 58 A (if((order.filterMap (((xs.map 663).toArray)[·]?)).size !=((xs.map 663).toArray).size)=true then unsupported _ else pure (order.filterMap (((xs.map 663).toArray)[·]?),t')) _ E s;rw[lF,aH (by simp[ly])];refine ao ?_;refine DC ob hd ?_ (by rw[aP,ah,ly,bW];lia);have S2:sX knd (s.heap.update a (Obj.putSet (ys.map 663).toArray t')) a {o with data:=.set (ys.map 663).toArray (ep+1) t'} (ep+1) t' ys:=by
  refine{?_,ex,9,q7,8,8,(py.map _).nodup_iff.mpr nd,λx hx=>?_}
  ·have:=eK (Obj.putSet (ys.map 663).toArray t') ob (by rw[BI _ t' hd];rfl);rw[BI _ t' hd]at this;exact this
  ·have O7:=is x (py.mem_iff.mp hx);have ne:x.2≠a:=by intro z;obtain⟨o',items,n,ph,_,pw,_⟩:=O7;rw[z]at ph;obtain rfl:o'=o:=bT (ph.symm.trans ob);rw[hd]at pw;cases pw
   obtain⟨o',items,n,ph,hc,pw,hi⟩:=O7;exact{o',items,n,((cE s.heap a (Obj.putSet (ys.map 663).toArray t')).2 _ ne).trans ph,hc,pw,hi}
 exact h _ ys _ _ _ (cE s.heap a _) S2 q4 py
def ab5(hu:A.units<cLine)(S:sX knd s.heap a o ep t xs)(hk:IsTupleKey knd s.heap k b)(hx:xs.length<=1000)
  (h1:(∃x∈xs,x.1=k)->Q false s) (h2:(∀x∈xs,x.1≠k)->∀h' ys o' Cp t',Heap.SameBut a s.heap h'->sX knd h' a o' Cp t' ys->t'.led=t.led->ys.Perm ((k,b)::xs)->Q true {s with heap:=h'}):
  wpAny 58 A (setAddHashed a (.ref b) 642) Q E s:=by
 refine cm (ae (S.state ?_));dsimp only;have nb:byScan (.ref b) (xs.map 663).toArray=false:=by simp[byScan,Value.scannable]
 rw[nb];obtain⟨D,fr⟩:=S.tab.free 642;have bound:=fr.lt;have hm:=S.cap;unfold turns at bound;refine ae (RT hu S hk fr (λq=>ao (h1 q)) (λq=>?_) D 100000 0 none 9 (aO _) ∅ (VW t _) λe he=>absurd he (fK _));refine ae (S.state ?_);have mz:=S.mz;have tb:=S.tab.put fr (by rw[ah];lia);generalize ep1:t.put (ps t.mask 642 D)=tp at tb;obtain⟨t1,p⟩:=tp;have mk1:t1.mask=t.mask:=by have:(t.put (ps t.mask 642 D)).1.mask=t.mask:=9;rw[ep1]at this;exact this
 have ld1:t1.led=t.led:=by have:(t.put (ps t.mask 642 D)).1.led=t.led:=9;rw[ep1]at this;exact this
 have esz:((xs.map 663).toArray).size=xs.length:=by simp
 have ins:insertAt (xs.map 663).toArray p (tupleKeyHash knd k,Value.ref b)=((kz xs p (k,b)).map 663).toArray:=by apply wK.mp;rw[rf,Ma]
 have pI:=Ua xs p (k,b);have nI:((kz xs p (k,b)).map (·.1)).Nodup:=by refine(pI.map _).nodup_iff.mpr ?_;refine dg.mpr {λz=>?_,S.nd};obtain⟨x,hx,e⟩:=aD.mp z;exact q x hx e
 have isI:∀x∈kz xs p (k,b),IsTupleKey knd s.heap x.1 x.2:=λx hx=>by
  rcases aN.mp (pI.mem_iff.mp hx)with rfl|hx
  ·exact hk
  ·exact S.is x hx
 have lI:(kz xs p (k,b)).length=xs.length+1:=by rw[pI.length_eq];rfl
 have fin:∀t2:SetTable,t2.mask=t1.mask->t2.place=t1.place->t2.dummies=t1.dummies->t2.led=t1.led->wpAny 58 A (do
   storeSet a (insertAt (xs.map 663).toArray p (tupleKeyHash knd k,Value.ref b)) t2
   if(!false&&t2.tooFull)=true then
    setRelay a (SetTable.grown (((xs.map 663).toArray).size+1))
    pure true
   else pure true) Q E s:=λt2 e1 e2 e3 e4=>by
  have Yj:Tab t2 ((kz xs p (k,b)).map λx=>tupleKeyHash knd x.1):=by rw[(Ma _ _ _ _)];exact tb.of_eq e1 e2 e3
  rw[ins];refine ae (DC S.ob S.data ?_ (by rw[aP,ah,lI,bW];lia));have sb:=cE s.heap a (Obj.putSet ((kz xs p (k,b)).map 663).toArray t2);have ob2:(s.heap.update a (Obj.putSet ((kz xs p (k,b)).map 663).toArray t2)).get? a=some {o with data:=.set ((kz xs p (k,b)).map 663).toArray (ep+1) t2}:=by have:=eK (Obj.putSet ((kz xs p (k,b)).map 663).toArray t2) S.ob (by rw[BI _ t2 S.data];rfl);rw[BI _ t2 S.data]at this;exact this
  have fl:t2.tooFull=decide ((xs.length+1)*5≥t.mask*3):=by unfold SetTable.tooFull SetTable.fill;rw[Yj.U8,Yj.sz,ah,lI,e1,mk1];rfl
  have xn:∀x∈kz xs p (k,b),IsTupleKey knd (s.heap.update a (Obj.putSet ((kz xs p (k,b)).map 663).toArray t2)) x.1 x.2:=λx hx=>by obtain⟨o',items,n,ph,hc,pw,hi⟩:=isI x hx;exact{o',items,n,(sb.2 _ (S.ne (isI x hx))).trans ph,hc,pw,hi}
  by_cases c:t2.tooFull=true
  ·rw[c];have g:SetTable.grown (((xs.map 663).toArray).size+1)=(xs.length+1)*4:=by unfold SetTable.grown;rw[esz,aH ∅]
   exact ae (VC ob2 S.ex 9 Yj nI xn ∅ ∅ ∅ ∅ ∅ λh' ys o' Cp t' Bx S' l' py=>ao (h2 q h' ys o' Cp t' (sb.trans Bx) S' (l'.trans (e4.trans ld1)) (py.trans pI)))
  ·rw[iO.mpr c];rw[fl]at c;have c':¬(xs.length+1)*5≥t.mask*3:=λz=>c (bj z);exact ao (h2 q _ (kz xs p (k,b)) _ _ _ sb {ob2,S.ex,9,Yj,by rw[lI,e1,mk1];lia,by rw[lI,e1,mk1];lia,nI,xn} (e4.trans ld1) pI)
 by_cases c:t1.plain=true
 ·rw[aK c];refine ae (ab4 hk λbv=>?_);cases bv with
  |true=>exact fin t1 rfl rfl rfl rfl
  |false=>exact fin {t1 with plain:=false} rfl rfl rfl rfl
 ·rw[aH c];exact ae (ao (fin t1 9 9 9 9))
end
end Tb
namespace Tb
open PySem
def Gq{α:Type}{l:List α}(h:i<l.length):(l[i]::l.eraseIdx i).Perm l:=by rw[List.eraseIdx_eq_take_drop_succ];refine List.perm_middle.symm.trans ?_;rw[List.getElem_cons_drop,jO]
theorem OJ(next:Nat->Nat):∀(f k:Nat)(left:List α)(out:Array α),f=left.length->(pickOrder.go next f k left out).toList.Perm (out.toList++left)
 |0,k,left,out,h=>by rw[dC.mp h.symm,c7];exact .refl _
 |f+1,k,left,out,h=>by
  have hl:next k % left.length<left.length:=mQ _ ∅
  unfold pickOrder.go;rw[av hl];refine(OJ next f (k+1) (left.eraseIdx (next k % left.length)) (out.push left[next k % left.length]) (by rw[uF hl];lia)).trans ?_;rw[DU,dF];exact(Gq hl).append_left _
def SW(next:Nat->Nat)(xs:Array α):(pickOrder next xs).toList.Perm xs.toList:=by
 have:=OJ next xs.size 0 xs.toList #[] 59
 rw[jP]at this;exact this
section
variable{M:Model}{A:Around}{E:Aad}
theorem Oe:∀(n:Nat)(xs:List α)(s:Shared){Q:List α->Shared->Prop},n=xs.length->(∀ys d,ys.Perm xs->Q ys {s with drawn:=d})->wpAny M A (drawOrder n xs) Q E s
 |0,xs,s,Q,hn,h=>by have e:xs=[]:=dC.mp hn.symm;subst e;unfold drawOrder;exact ao (h [] s.drawn (.refl _))
 |n+1,[],s,Q,hn,h=>by simp at hn
 |n+1,x::xs,s,Q,hn,h=>by
  unfold drawOrder;refine ae (λΓ p hΓ=>?_);refine{59,?_};have hl:M.w.draws .order (s.drawn.get .order) %(x::xs).length<(x::xs).length:=mQ _ 59;generalize M.w.draws .order (s.drawn.get .order) %(x::xs).length=i at hl;have key:wpAny M A (match(x::xs)[i]? with
   |some y=>do return y::(<-drawOrder n ((x::xs).eraseIdx i))
   |none=>unsupported "internal:drawOrder") Q E {s with drawn:=s.drawn.bump .order}:=by
   rw[av hl];dsimp only;refine ae (Oe n _ _ (by rw[uF hl];lia) λys d hp=>ao ?_);exact h _ d ((hp.cons _).trans (Gq hl))
  exact key
end
end Tb
namespace L2
def Lk{α β:Type}{f:α->β}:∀{l k:List β},l.Perm k->∀{m:List α},k=m.map f->∃m':List α,m'.Perm m/\l=m'.map f:=by
 intro l k h
 induction h with
 |nil=>intro m e;exact{m,.refl _,e}
 |@cons x l1 l2 _ ih=>
  intro m e;cases m with
  |nil=>cases e
  |cons a m=>
   injection e with e1 e2;obtain⟨m',p,q⟩:=ih e2;exact{a::m',p.cons a,by rw[e1,q];rfl}
 |swap x y l=>
  intro m e
  match m,e with
  |a::b::m,e=>
   injection e with e1 e2;injection e2 with e2 e3;exact{b::a::m,.swap _ _ _,by rw[e1,e2,e3];rfl}
 |trans _ _ ih1 Uc=>
  intro m e;obtain⟨m1,p1,q1⟩:=Uc e;obtain⟨m2,p2,q2⟩:=ih1 q1;exact{m2,p2.trans p1,q2}
end L2
namespace Tb
open PySem PySem.SetTable PyProof.Rows
section
variable{prog:Program}{w:World}
section
variable{A:Around}{R:Result->Shared->Prop}{I:Addr}{fp wr:Aai}{G:Array GenState->Array GenState->Prop}{n:Nat}{P:Nat->Value->Prop}{St:Nat->Shared->Prop}
def aeT(W:WalksS prog w A.in1 I fp wr G n P St)(S:Addr)(nS:S∉fp)(C:Nat->Heap->Prop)(keep:∀i h h',C i h->(∀b o,b∉wr->h.get? b=some o->h'.get? b=some o)->C i h')
  (step:∀(i:Nat) v(s:Shared)(Q:Bool->Shared->Prop)(E:Aad),i<n->P i v->C i s.heap->(∀c h' tk,s.toks<=tk->Heap.SameBut S s.heap h'->C (i+1) h'->Q c {s with heap:=h',toks:=tk})->wpAny 58 A.in1 (setAdd S v) Q E s) (m:Nat):
  ∀(i:Nat)(s:Shared),n -i=m->i<=n->St i s->C i s.heap->(∀s',Moved (S::wr) G s s'->C n s'.heap->R (.ok (.ret .none)) s')->codeAny 58 A (.builtin "set.update.loop" {[.ref S,.ref I],[]}) R s:=by
 have sub:∀b∈wr,b∈S::wr:=λb q=>aG _ q
 induction m with
 |zero=>
  intro i s hm hi st hC hR;have e:i=n:=by lia
  subst e;refine eX oC ?_;exact ae (W.done s _ _ st λs' hm=>ao (hR s' (hm.mono sub) (keep _ _ _ hC hm.heap)))
 |succ m ih=>
  intro i s hm hi st hC hR;have bQ:i<n:=by lia
  refine eX oC ?_;refine ae (W.item i s _ _ bQ st λv s' hP mT hm=>?_);refine ae (cm (step i v s' _ _ bQ hP (keep _ _ _ hC hm.heap) λc h' tk le sb hC'=>?_));refine ao {mW PyProof.Rows.F.plain_set_update_loop _,ih (i+1) _ ∅ bQ (W.frame _ s' h' _ mT le λb q o e=>?_) hC' λs2 m2 c2=>hR s2 (Moved.trans W.gtrans ((hm.mono sub).then_heap le λb o q e=>?_) m2) c2}
  ·rw[sb.2 b λh:b=S=>nS (h▸q)];exact e
  ·rw[sb.2 b λh:b=S=>q (h▸aF)];exact e
end
section
variable{A:Around}{E:Aad}{s:Shared}
abbrev oj(w:World):Bool:=!w.params.followText "set-order"
abbrev qK(led:Bool):Obj:={cls:=.type "set",dict:=none,data:=.set #[] 0 (.fresh 0 0 led)}
def code_set_new(a:Value)(h:Q₁ 352 {s with heap:=s.heap.push (qK (oj w))}):
  codeAny 58 A (.call (.builtin "set.__new__") {[.type "set",a],[]}) (wants Q₁ E) s:=by
 refine codeAny_of_tree ?_;show wpAny _ A.in1 (do checkBuiltinCall "set.__new__" {[.type "set",a],[]};again (.builtin "set.__new__" {[.type "set",a],[]})) _ _ s;refine ae (DW (PySem.F.newCall_set_1 a) (ao {mW zt _,eX PySem.F.entry_set_new ?_}));rw[Around.under_plainId zt _];unfold Builtin.«set.__new__» Builtin.Frozenset.newClass;have WY:=sub_set_self;obtain⟨hp,g,d,tk,os⟩:=s;dsimp only
 wp_walk
 refine vw 660;dsimp only;simp only[newObj];refine ae (wpAny_alloc 660);exact ao h
def Vo{l:Addr}{items:Aak}{Q:Aad}(C:Nat->Heap->Prop)(hA:A.handled=none)(hl:s.heap.IsList l items)
  (keep:∀i h h',C i h->(∀b o,b≠s.heap.objs.size+1->h.get? b=some o->h'.get? b=some o)->C i h')
  (step:∀(i:Nat) v(s':Shared)(Q:Bool->Shared->Prop)(E:Aad),items[i]?=some v->C i s'.heap->(∀c h' tk,s'.toks<=tk->Heap.SameBut s.heap.objs.size s'.heap h'->C (i+1) h'->Q c {s' with heap:=h',toks:=tk})->wpAny 58 A.in1.in1.in1 (setAdd s.heap.objs.size v) Q E s')
  (c0:∀o,C 0 ((s.heap.push (qK (oj w))).push o)) (k:∀(h':Heap)(tk:Nat),C items.size h'->(∀b o,s.heap.get? b=some o->h'.get? b=some o)->Q 352 {s with heap:=h',toks:=tk}):
  wpAny 58 A (call (.type "set") [.ref l]) Q E s:=by
 obtain⟨c,tl,ahB⟩:=CN.mro;have ft:=CN;have ahp:=ft.made;have WY:=ft.sub;refine Ft (codeAny_of_tree ?_);show wpAny _ _ (callAny (.type "set") _) _ _ _;refine ao {jE _ 53,eX PySem.F.entry_type_call ?_};rw[Around.under_plain (weight_type_call_type "set" [.ref l] []) rfl];have h1:=ft.notType;have h2:=ft.canCreate;have hct:=PySem.F.typeCall_set_1 727
 repeat (any_goals (first|assumption|wp_step))
 refine lZ (code_set_new 727 (E:=E) (Q₁:=λx z=>x=.ref s.heap.objs.size/\z={s with heap:=s.heap.push (qK (oj w))}) ⟨rfl,rfl⟩) λr z hr=>?_;cases r with
 |error e=>exact hr
 |ok fl=>
  cases fl with
  |ret x=>
   obtain⟨rfl,rfl⟩:=hr;have hS:(s.heap.push (qK (oj w))).get? s.heap.objs.size=some (qK (oj w)):=aU _ rfl;have hT:Shared.TypeIs {s with heap:=s.heap.push (qK (oj w))} 352 "set":=⟨_,hS,rfl⟩;have hli:=ft.init.lookup;have Pn:=ft.init.bind 352
   repeat (any_goals (first|assumption|wp_step))
   refine lZ (rn (R:=wants (λr z=>r=.none/\∃h' tk,z={s with heap:=h',toks:=tk}/\C items.size h'/\(∀b o,s.heap.get? b=some o->h'.get? b=some o)) E) ft.init.plain PySem.F.entry_set_init (check_set_init_1 hT ?_)) λr2 z2 mZ=>?_
   ·obtain⟨⟨oc,od,oda,AW⟩,Gd,lX,nl,hdl⟩:=hl;simp only at lX hdl;subst lX hdl;have agL:=aj (qK (oj w)) Gd;have ahy:=PySem.F.sub_list_set;have ahz:=PySem.F.sub_list_frozenset;have gC:(Value.type "list"==Value.type "dict")=false:=by decide
    have lH:(s.heap.push (qK (oj w))).IsList l items:=⟨_,agL,rfl,nl,rfl⟩;have hh3:A.in1.in1.in1.handled=none:=by simp[hA]
    unfold Builtin.«set.__init__» noKeywords Builtin.Frozenset.updateFrom;generalize hPI:pyIter=PI
    wp_walk
    subst hPI;refine lK lH (ae (wpAny_runValue ?_));have hlS:l<s.heap.objs.size:=aW Gd;have nI:l≠(s.heap.push (qK (oj w))).objs.size:=by rw[dj];exact aV (eO hlS)
    have nS:s.heap.objs.size∉[(s.heap.push (qK (oj w))).objs.size,l]:=by
     rw[dj];intro hm;rcases aN.mp hm with hm|hm
     ·exact absurd hm (aV (eB _))
     ·exact absurd (ay.mp hm) (cq hlS)
    refine aeT ((GK hh3 _ l nI items).toS) s.heap.objs.size nS C (λi h h' hC q=>keep i h h' hC λb o nb e=>q b o (λz=>nb ((ay.mp z).trans (dj _ _))) e) (λi v s' Q E _ hv=>step i v s' Q E hv) items.size 0 _ rfl (aO _) {{_,676,9,9},lH.push _} (c0 _) λs' hm hC=>?_;obtain⟨h',g',d',Ku,YN⟩:=s';have eg:g'=s.gens:=hm.gens;have ed:d'=s.drawn:=hm.drawn;have eo:YN=s.os:=hm.os;subst eg ed eo;refine ao (ao {9,h',Ku,9,hC,λb o e=>hm.heap b o ?_ (aj _ (aj _ e))});have lt:=aW e;rintro(_|⟨_,q⟩)
    ·exact cX _ lt
    ·rw[ay.mp q,dj]at lt;exact absurd lt (rG.mpr (fq _))
   ·cases r2 with
    |error e=>exact mZ
    |ok fl2=>
     cases fl2 with
     |ret r=>
      obtain⟨rfl,h',tk,rfl,hC,Mt⟩:=mZ
      repeat (any_goals (first|assumption|wp_step))
      exact k _ _ hC Mt
     |_=>exact mZ.elim
  |_=>exact hr.elim
end
end
section
variable{prog:Program}{w:World}{K:Type}[DecidableEq K]{knd:KeyKind prog w K}
def Oj(x:IsTupleKey knd h k b)(kp:∀b o,h.get? b=some o->h'.get? b=some o):IsTupleKey knd h' k b:=by obtain⟨o,a9,n,ho,r⟩:=x;exact{o,a9,n,kp _ _ ho,r}
structure aeo(knd:KeyKind prog w K)(ks:List (List K))(bs:Aai)(i:Nat)(xs:List (List K×Addr)):Prop where
 len:xs.length<=i
 mem:∀k,k∈xs.map (·.1)↔k∈ks.take i
 Kg:∀x∈xs,∃j:Nat,ks[j]?=some x.1/\bs[j]?=some x.2
section
variable{A:Around}{E:Aad}{s:Shared}
def Vn(hA:A.handled=none)(hu:A.in1.in1.in1.units<cLine)(hl:s.heap.IsList l items)(hi:items.toList=bs.map Value.ref)(lb:ks.length=bs.length)(hk:∀(i:Nat) k b,ks[i]?=some k->bs[i]?=some b->IsTupleKey knd s.heap k b)(hb:bs.length<=1000)
  (k:∀(h':Heap)(tk:Nat) o ep t xs,sX knd h' s.heap.objs.size o ep t xs->t.led=oj w->aeo knd ks bs bs.length xs->(∀b o,s.heap.get? b=some o->h'.get? b=some o)->Q 352 {s with heap:=h',toks:=tk}):
  wpAny 58 A (call (.type "set") [.ref l]) Q E s:=by
 have hsz:items.size=bs.length:=by rw[<-bI,hi,ah]
 refine Vo (λi h=>(∀b o,s.heap.get? b=some o->h.get? b=some o)/\∃o ep t xs,sX knd h s.heap.objs.size o ep t xs/\t.led=oj w/\aeo knd ks bs i xs) hA hl (λi h h' ⟨kp,o,ep,t,xs,hS,pj,hH⟩ q=>?_) (λi v s' Q E hv ⟨kp,o,ep,t,xs,hS,pj,hH⟩ k=>?_) (λo=>{λb o e=>aj _ (aj _ e),qK (oj w),0,.fresh 0 0 (oj w),[],{aj _ (aU _ 9),⟨rfl,rfl,rfl⟩,9,Tab.fresh 0 0 _,by show 0*5<07*3;decide,by show 07<=15;decide,dZ,λx hx=>nomatch hx},9,{aw _,λk=>by simp,λx hx=>nomatch hx}}) λh' tk ⟨kp,o,ep,t,xs,hS,pj,hH⟩ Ja=>k h' tk o ep t xs hS pj (hsz▸hH) Ja
 ·have Ja:∀b o,s.heap.get? b=some o->h'.get? b=some o:=λb o e=>q b o (aV (eO (aW e))) (kp b o e);refine{Ja,o,ep,t,xs,{q _ _ (aV (eB _)) hS.ob,hS.ex,hS.data,hS.tab,hS.mz,hS.cap,hS.nd,λx hx=>?_},pj,hH};obtain⟨j,j1,j2⟩:=hH.Kg x hx;exact Oj (hk j _ _ j1 j2) Ja
 ·have e:items.toList[i]?=some v:=by rw[dw];exact hv
  rw[hi,aX]at e;obtain⟨b,gd,rfl⟩:=bz.mp e;have ib:=(aq.mp gd).1;obtain⟨k',Mt⟩:∃k,ks[i]?=some k:={_,av ∅};have kb:=Oj (hk i k' b Mt gd) kp;have et:ks.take (i+1)=ks.take i++[k']:=by rw[bq,Mt];rfl
  have lH:=hH.len;refine cm (ae (wpAny_pyHash_tuple hu kb ?_));refine ab5 (s:={s' with toks:=s'.toks+(k'.length+1)}) hu hS kb ∅ (λq=>?_) λq h' ys o' Cp t' sb S2 afV py=>?_
  ·refine k _ s'.heap _ (eC _ _) (DR _ _) {kp,o,ep,t,xs,hS,pj,8,λz=>?_,hH.Kg};rw[et,aS,<-hH.mem,ay];exact{.inl,λc=>c.elim id λe=>by obtain⟨x,hx,ex⟩:=q;rw[e,<-ex];exact aD.mpr ⟨x,hx,rfl⟩}
  ·refine k _ h' _ (eC _ _) sb {λb o e=>?_,o',Cp,t',ys,S2,afV.trans pj,by rw[py.length_eq,bE];lia,λz=>?_,λx hx=>?_}
   ·rw[sb.2 b (aV (aW e))];exact kp b o e
   ·rw[et,aS,<-hH.mem,ay,(py.map (·.1)).mem_iff,bt,aN];exact Or.comm
   ·rcases aN.mp (py.mem_iff.mp hx)with rfl|hx
    ·exact⟨i,Mt,gd⟩
    ·exact hH.Kg x hx
end
end
section
variable{prog:Program}{w:World}
abbrev ag9(prog:Program)(w:World)(x:Str×Tok):Int×Value:=((strKind prog w).hash x.1,.str x.1 x.2)
structure ahH(prog:Program)(w:World)(h:Heap)(a:Addr)(o:Obj)(es:Array (Int×Value))(ep:Nat)(t:SetTable)(xs:List (Str×Tok)):Prop where
 ob:h.get? a=some o
 ex:o.ExactSet
 data:o.data=.set es ep t
 en:es.toList=xs.map (ag9 prog w)
 mz:xs.length<=1000
 fits:t.fits es.size=true
 pl:t.plain=false\/xs=[]
 led:t.led=oj w
end
end Tb
namespace Tb
open PySem PySem.SetTable
def HP:entryFor table "set.__iter__"=some Builtin.«frozenset.__iter__»:=
 zk (id':="frozenset.__iter__") (by kernel_rfl) rfl 53 (by kernel_rfl)
def fG:Slot "set_iterator" "__next__" "set_iterator.__next__":=
 .of (owner:="set_iterator") (n:="__next__") (by rw[jI,gn];kernel_rfl) 53 53 53
  (by first|exact .inl (by decide+kernel)|exact .inr (by decide+kernel)) (by rw[yX];kernel_rfl)
def nF:entryFor table "set_iterator.__next__"=some Builtin.«set_iterator.__next__»:=entryFor_of_tree (by kernel_rfl)
def o8(a:Value):argsOk "set_iterator.__next__" {[a],[]}:=by unfold argsOk;kernel_rfl
def yH:Slot "set_iterator" "__iter__" "set_iterator.__iter__":=
 .of (owner:="set_iterator") (n:="__iter__") (by rw[jI,gn];kernel_rfl) 53 53 53
  (by first|exact .inl (by decide+kernel)|exact .inr (by decide+kernel)) (by rw[yX];kernel_rfl)
def Gr:entryFor table "set_iterator.__iter__"=some Builtin.«dict_keyiterator.__iter__»:=
 zk (id':="dict_keyiterator.__iter__") (by kernel_rfl) rfl 53 (by kernel_rfl)
def Ie(a:Value):argsOk "set_iterator.__iter__" {[a],[]}:=by unfold argsOk;kernel_rfl
def aaK:typeLookup (.type "set") "__len__"=pure (some (.builtin "set.__len__")):=by rw[jI,gn];kernel_rfl
section
variable{prog:Program}{w:World}{A:Around}{E:Aad}{s:Shared}
structure Sat(w:World)(h:Heap)(S:Addr)(es:Array (Int×Value))(ep:Nat)(t:SetTable):Prop where
 ob:∃o,h.get? S=some o/\o.ExactSet/\o.data=.set es ep t
 fits:t.fits es.size=true
 lr:w.params.followText "set-order"=false->697=false->t.led=true/\oy t.place
def Sat.keep{S:Addr}(x:Sat w h S es ep t)(k:∀o,h.get? S=some o->h'.get? S=some o):Sat w h' S es ep t:=by obtain⟨⟨o,ho,r⟩,a,b⟩:=x;exact{{o,k o ho,r},a,b}
def Sat.state{S:Addr}(x:Sat w s.heap S es ep t)(h:Q (es,ep,t) s):wpAny 58 A (setState S) Q E s:=by obtain⟨⟨o,ho,_,hd⟩,hf,_⟩:=x;exact uK ho hd hf h
def Bk(h:Q (w.params.followText "set-order") s):wpAny 58 A setsByText Q E s:=by exact ae (vw (ao h))
def u9(w:World)(S:Addr)(es:Array (Int×Value))(ep:Nat):List (Int×Value):=if w.params.followText "set-order"=true then(pickOrder (w.params.setOrder S ep) es).toList else es.toList
def xK(w:World)(t:SetTable):Nat->Nat
 |0=>0
 |i+1=>if w.params.followText "set-order"=true then 0 else t.place.getD i 0+1
def zU(w:World)(S:Addr)(es:Array (Int×Value))(ep:Nat):(u9 w S es ep).Perm es.toList:=by
 unfold u9;split
 ·exact SW _ _
 ·exact .refl _
def KU(t:SetTable):Nat->Nat
 |0=>0
 |i+1=>t.place.getD i 0+1
def X0(hr:oy t.place):∀i,i<=t.place.size->below t.place (KU t i)=i:=by
 intro i hi;obtain⟨h1,h2,h3⟩:=vf hr (KU t i);generalize eb:below t.place (KU t i)=b at h1 h2 h3⊢;rcases lP b i with c|c|c
 ·cases i with
  |zero=>lia
  |succ i=>
   have:=h3 b (aw _) ∅;rw[show KU t (i+1)=t.place.getD i 0+1 from rfl]at this;by_cases e:b=i
   ·rw[e]at this;lia
   ·have:=hr b i ∅ ∅;lia
 ·exact c
 ·have:=h2 i c;cases i with
  |zero=>rw[show KU t 0=0 from rfl]at this;lia
  |succ i=>
   rw[show KU t (i+1)=t.place.getD i 0+1 from rfl]at this;have:=hr i (i+1) ∅ ∅;lia
def Od{S:Addr}(x:Sat w s.heap S es ep t)(hi:i<=es.size)(hd:w.params.followText "set-order"=true\/697=false)
  (h:Q ((u9 w S es ep)[i]?.map λe=>(e.2,xK w t (i+1))) s):wpAny 58 A (setNext S (xK w t i) i ep) Q E s:=by
 refine ae (x.state ?_);refine ae (Bk ?_);by_cases c:w.params.followText "set-order"=true
 ·rw[aK c];rw[aH 59];refine ae ?_;refine ae (x.state ?_);refine ae (Bk ?_);rw[aK c];refine ae (vw (ao 660));have e1:u9 w S es ep=(pickOrder (w.params.setOrder S ep) es).toList:=aK c;have e2:xK w t (i+1)=xK w t i:=by
   cases i with
   |zero=>exact aK c
   |succ i=>exact(aK c).trans (aK c).symm
  rw[e1,e2,dw]at h;exact h
 ·rw[aH c];have pw:=hd.resolve_left c;have cf:=iO.mpr c;have fz:=x.fits;have sz:t.place.size=es.size:=by have:=(rS.mp fz).1;exact dO this
  show wpAny 58 A (if 697=true then _ else _) Q E s;rw[pw];refine ae ?_;show wpAny 58 A (if(!t.led&&!es.isEmpty)=true then _ else _) _ E s;rw[(x.lr cf pw).1];refine ao 660;have e0:xK w t i=KU t i:=by
   cases i with
   |zero=>rfl
   |succ i=>exact aH c
  rw[e0,X0 (x.lr cf pw).2 i ∅];have e1:u9 w S es ep=es.toList:=aH c;rw[e1,dw]at h;by_cases lt:i<es.size
  ·have g1:=cH lt;have g3:xK w t (i+1)=t.place.getD i 0+1:=aH c;rw[g1]at h⊢;rw[(getD_some.mpr {8,9})];rw[jN,g3]at h;exact h
  ·have g1:es[i]?=none:=yy ∅;rw[g1]at h⊢;exact h
def IE(hT:s.TypeIs (.ref I) "set_iterator")(h:Q (.ref I) s):wpAny 58 A (pyIter (.ref I)) Q E s:=by refine uL hT yH (b6 yH hT Gr ?_ (Ie _));exact ao {_,9,"set_iterator",_,hT,fG.lookup,h}
abbrev xm(first:Value)(i:Nat)(S:Addr)(n ep:Nat):Obj:={cls:=.type "set_iterator",data:=.fields #[first,.int i 0,.ref S,.int n 0,.int ep 0]}
def GS(hh:A.handled=none)(k:∀(h':Heap)(e:Addr),(∀b o,h.get? b=some o->h'.get? b=some o)->(∃o,h'.get? e=some o/\o.cls=.type "StopIteration")->E (.ref e) {s with heap:=h'}):
  wpAny 58 A (newExc (.type "StopIteration") []>>=λe=>(raiseNew e:Sem α)) Q E {s with heap:=h}:=by
 refine ae ?_;refine ae (cM ?_ (by size_fits));refine ae (DW (by first|rfl|(simp only[firstArgMember];rfl)) ?_);refine cM ?_ (by size_fits);refine ae (wpAny_handled ?_);rw[hh];exact ae (ao (wpAny_throw (k _ _ (λb o e=>aj _ (aj _ e)) {_,676,9})))
def u0{h:Heap}(ho:h.get? a=some {cls:=cls,data:=.fields vs}):(h.update a (Obj.mapFields (·.setIfInBounds i x))).get? a=some {cls:=cls,data:=.fields (vs.setIfInBounds i x)}:=eK _ ho rfl
def aer(hh:A.handled=none){S I:Addr}(ne:S≠I)(hd:w.params.followText "set-order"=true\/697=false):
  WalksS prog w A I [I,S] [I] (λa b=>b=a) es.size (λi v=>((u9 w S es ep).map (·.2))[i]?=some v) (λi s=>Sat w s.heap S es ep t/\s.heap.get? I=some (xm (.int (xK w t i) 0) i S es.size ep)) where
 sub:=λb hb=>ay.mp hb▸aF
 grefl:=λ_=>9
 gtrans:=λ_ _ _ h1 h2=>h2.trans h1
 frame:=λi s h' tk st _ hk=>{st.1.keep λo e=>hk S 59 o e,hk I 59 _ st.2}
 item:=by
  intro i s Q E hi ⟨x,hI⟩ k;have hT:s.TypeIs (.ref I) "set_iterator":=⟨_,hI,rfl⟩;refine ae 691;refine ae (ae (ao 660));refine ae (lT hI 9 ?_);refine ae ?_;refine ae (x.state 660);rw[aH 59];simp only[eR];refine ae (Od x (bC hi) hd ?_);have lo:i<(u9 w S es ep).length:=by rw[(zU w S es ep).length_eq,bI];exact hi
  rw[av lo,jN];refine ae (gL hI 9 59 ?_);have hI1:=u0 (i:=0) (x:=rawInt (xK w t (i+1))) hI;refine ae (gL hI1 9 59 ?_);refine ao {_,9,660};have yP:∀b o,b≠I->s.heap.get? b=some o->((s.heap.update I (Obj.mapFields (·.setIfInBounds 0 (rawInt (xK w t (i+1)))))).update I (Obj.mapFields (·.setIfInBounds 1 (rawInt ((i:Int)+1))))).get? b=some o:=λb o nb e=>(cv _ _ (cL nb)).trans ((cv _ _ (cL nb)).trans e);refine k _ _ (by rw[aX,av lo];rfl) {x.keep λo e=>yP S o ne e,?_} {λb o hb e=>yP b o (λz=>hb (ay.mpr z)) e,9,9,9,aw _};exact(u0 (i:=1) (x:=rawInt ((i:Int)+1)) hI1)
 done:=by intro s Q E ⟨x,hI⟩ k;have hT:s.TypeIs (.ref I) "set_iterator":=⟨_,hI,rfl⟩;refine ae 691;refine ae (ae (ao 660));refine ae (lT hI 9 ?_);refine ae ?_;refine ae (x.state 660);rw[aH 59];simp only[eR];refine ae (Od x (aw _) hd ?_);have lo:=mj (by rw[(zU w S es ep).length_eq,bI];exact aw _);rw[lo,Option.map_none];refine ae (gL hI 9 59 ?_);have yP:∀b o,b≠I->s.heap.get? b=some o->(s.heap.update I (Obj.mapFields (·.setIfInBounds 2 Value.none))).get? b=some o:=λb o nb e=>(cv _ _ (cL nb)).trans e;refine GS (show A.in1.handled=none from hh) λh' e kp age=>?_;obtain⟨o,ho,hc⟩:=age;refine ae (jc ⟨o,ho,hc⟩ oX (ao (k _ {λb o hb q=>kp b o (yP b o (λz=>hb (ay.mpr z)) q),9,9,9,aw _})))
 self:=by intro i s Q E ⟨x,hI⟩ h;exact IE ⟨_,hI,rfl⟩ h
def aeq(hh:A.handled=none){S I T:Addr}(ne:S≠I)(nT:T≠I){ps:List Nat}(hp:ps.Perm (List.range es.size)):
  WalksS prog w A I [I,S,T] [I] (λa b=>b=a) es.size (λi v=>((ps.filterMap (es[·]?)).map (·.2))[i]?=some v) (λi s=>Sat w s.heap S es ep t/\s.heap.get? I=some (xm (.ref T) i S es.size ep)/\s.heap.get? T=some {cls:=.type "tuple",data:=.seq (ps.map λ(i:Nat)=>rawInt i).toArray}) where
 sub:=λb hb=>ay.mp hb▸aF
 grefl:=λ_=>9
 gtrans:=λ_ _ _ h1 h2=>h2.trans h1
 frame:=λi s h' tk st _ hk=>{st.1.keep λo e=>hk S 59 o e,hk I 59 _ st.2.1,hk T 59 _ st.2.2}
 item:=by
  intro i s Q E hi ⟨x,hI,ZM⟩ k;have hT:s.TypeIs (.ref I) "set_iterator":=⟨_,hI,rfl⟩;refine ae 691;refine ae (ae (ao 660));refine ae (lT hI 9 ?_);refine ae ?_;refine ae (x.state 660);rw[aH 59];simp only[eR];refine ae (dh ZM 9 ?_);have lp:ps.length=es.size:=by rw[hp.length_eq,eP]
  have li:i<ps.length:=by lia
  have Za:=cD.mp (hp.mem_iff.mp (kH li));have e1:((ps.map λ(i:Nat)=>rawInt i).toArray)[i]?=some (.int (ps[i]:Nat) 0):=by simp[li,rawInt]
  dsimp only;rw[e1];refine ae ?_;refine ae (x.state ?_);dsimp only;rw[aH 59];simp only[eR];rw[cH Za];refine ao ?_;refine ae (gL hI 9 59 ?_);refine ao {_,9,660};have yP:∀b o,b≠I->s.heap.get? b=some o->(s.heap.update I (Obj.mapFields (·.setIfInBounds 1 (rawInt ((i:Int)+1))))).get? b=some o:=λb o nb e=>(cv _ _ (cL nb)).trans e;refine k _ _ ?_ {x.keep λo e=>yP S o ne e,(u0 (i:=1) (x:=rawInt ((i:Int)+1)) hI),yP T _ nT ZM} {λb o hb e=>yP b o (λz=>hb (ay.mpr z)) e,9,9,9,aw _};have all:∀(l:List Nat),(∀p∈l,p<es.size)->∀j:Nat,(l.filterMap (es[·]?))[j]?=(l[j]?).bind (es[·]?):=by
   intro l
   induction l with
   |nil=>intro _ j;simp
   |cons p l ih=>
    intro hl j;have lp:=hl p aF;rw[fB,cH lp];cases j with
    |zero=>simp[lp]
    |succ j=>
     exact ih (λq hq=>hl q (aG _ hq)) j
  rw[aX,all ps (λp hq=>cD.mp (hp.mem_iff.mp hq)) i,av li];simp[Za]
 done:=by
  intro s Q E ⟨x,hI,ZM⟩ k;have hT:s.TypeIs (.ref I) "set_iterator":=⟨_,hI,rfl⟩;refine ae 691;refine ae (ae (ao 660));refine ae (lT hI 9 ?_);refine ae ?_;refine ae (x.state 660);rw[aH 59];simp only[eR];refine ae (dh ZM 9 ?_);have lp:ps.length=es.size:=by rw[hp.length_eq,eP]
  have e1:((ps.map λ(i:Nat)=>rawInt i).toArray)[es.size]?=none:=by simp[lp]
  dsimp only;rw[e1];refine ae (gL hI 9 59 ?_);refine ae (gL (u0 (i:=0) (x:=rawInt 0) hI) 9 59 ?_);have yP:∀b o,b≠I->s.heap.get? b=some o->((s.heap.update I (Obj.mapFields (·.setIfInBounds 0 (rawInt 0)))).update I (Obj.mapFields (·.setIfInBounds 2 Value.none))).get? b=some o:=λb o nb e=>(cv _ _ (cL nb)).trans ((cv _ _ (cL nb)).trans e);refine GS (show A.in1.handled=none from hh) λh' e kp agd=>?_;obtain⟨o,ho,hc⟩:=agd;refine ae (jc ⟨o,ho,hc⟩ oX (ao (k _ {λb o hb q=>kp b o (yP b o (λz=>hb (ay.mpr z)) q),9,9,9,aw _})))
 self:=by intro i s Q E ⟨x,hI,_⟩ h;exact IE ⟨_,hI,rfl⟩ h
def Mu(hT:s.TypeIs (.ref r) "set")(h:Q false s):wpAny 58 A (Builtin.List.listLengthHint (.ref r)) Q E s:=by
 refine ae (iG hT aaK ?_);generalize hid:("set.__len__":String)=id0
 wp_delta
 subst hid;refine ae (jc (b:=true) hT (by rw[yX];kernel_rfl) ?_);refine qF (λv7=>absurd v7 7) (λ_=>?_);refine qF (λ_=>?_) (λv7=>absurd 53 v7);exact ae (gX hT (ao h))
def aar{S:Addr}(x:Sat w s.heap S es ep t)(hn:es.size<=100000)
  (h1:(w.params.followText "set-order"=true\/697=false)->Q 352 {s with heap:=s.heap.push (xm (.int 0 0) 0 S es.size ep)})
  (h2:∀(ps:List Nat) d,ps.Perm (List.range es.size)->Q (.ref 646) {s with heap:=(s.heap.push {cls:=.type "tuple",data:=.seq (ps.map λ(i:Nat)=>rawInt i).toArray}).push (xm 352 0 S es.size ep),drawn:=d}):
  wpAny 58 A (pyIter (.ref S)) Q E s:=by
 obtain⟨o,ho,hex,hd⟩:=x.ob;have hT:s.TypeIs (.ref S) "set":={o,ho,hex.1};refine uL hT F.slot_set_iter (b6 F.slot_set_iter hT HP ?_ (F.args_set_iter_1 _));unfold Builtin.«frozenset.__iter__» Builtin.Frozenset.slot0 slotArgs;refine ae (ae (ao 660));refine ae ?_;refine ae (ae (x.state (ao 660)));refine ae ?_;refine ae (x.state ?_);refine ae (Bk ?_);refine ao ?_;show wpAny 58 _ (if(!w.params.followText "set-order"&&697)=true then _ else _) _ _ s;by_cases c:(!w.params.followText "set-order"&&697)=true
 ·rw[aK c];refine ae (Oe es.size (List.range es.size) s 59 λps d hp=>?_);refine ae (cM ?_ (by show(ps.map _).toArray.size<=_;rw[aP,ah,hp.length_eq,eP,bW];lia));have x2:Sat w (s.heap.push {cls:=.type "tuple",data:=.seq (ps.map λ(i:Nat)=>rawInt i).toArray}) S es ep t:=x.keep λo e=>aj _ e;refine ae ?_;refine ae (Sat.state x2 660);refine ae (cM (ao {_,9,"set_iterator",_,{_,676,9},fG.lookup,?_}));have:=h2 ps d hp;rw[dj];exact this
 ·rw[aH c];refine ae 660;refine ae ?_;refine ae (x.state 660);refine ae (cM (ao {_,9,"set_iterator",_,{_,676,9},fG.lookup,h1 ?_}));cases q:w.params.followText "set-order"with
  |true=>exact .inl rfl
  |false=>
   rw[q]at c;exact .inr (iO.mpr c)
def OL(l:Aaf)(acc:Aak)(ha:ItemsOf (λi v=>l[i]?=some v) acc l.length):acc.toList=l:=by
 refine List.ext_getElem? λi=>?_;by_cases c:i<l.length
 ·have ci:i<acc.size:=ha.1▸c;have:=ha.2 i acc[i] (cH ci);rw[this,dw,cH ci]
 ·rw[mj (by rw[bI,ha.1];lia),mj ∅]
theorem SI{α:Type}:∀l:List α,(List.range l.length).filterMap (λi=>l[i]?)=l
 |[]=>rfl
 |x::l=>by rw[bE,yr,fB];show x::_=_;rw[uh];congr 1;exact SI l
def Ri{S L:Addr}(hh:A.handled=none)(x:Sat w s.heap S es ep t)(hn:es.size<=100000)(OT:L≠S)(hL:s.heap.get? L=some {cls:=.type "list",data:=.seq #[] c₀})
  (hR:∀h' tk d acc c,(∀b o,b≠L->s.heap.get? b=some o->h'.get? b=some o)->h'.get? L=some {cls:=.type "list",dict:=none,data:=.seq acc c,slots:=#[]}->acc.toList.Perm (es.toList.map (·.2))->R (.ok (.ret res)) {s with heap:=h',toks:=tk,drawn:=d}):
  wpAny 58 A.in1 (Builtin.List.listExtendWith (.ref L) (.ref S) res)
   (λfin s'=>match fin with| .done f=>R (.ok f) s'| .again c'=>c'.quiet=true/\codeAny 58 A c' R s') (λe s'=>R (.error e) s') s:=by
 obtain⟨o,ho,hex,hd⟩:=x.ob;have hS:=aW ho;have hLl:=aW hL;have key:∀(I:Addr)(fp:Aai)(P:Nat->Value->Prop)(St:Nat->Shared->Prop),WalksS prog w A.in1 I fp [I] (λa b=>b=a) es.size P St->s.heap.objs.size<=I->L∉fp->(∀acc:Aak,ItemsOf P acc es.size->acc.toList.Perm (es.toList.map (·.2)))->
   ∀(h:Heap)(d:Drawn)(c₁ tk:Nat),(∀b o,b≠L->s.heap.get? b=some o->h.get? b=some o)->h.get? L=some {cls:=.type "list",data:=.seq #[] c₁}->St 0 {s with heap:=h,toks:=tk,drawn:=d}->
   codeAny 58 A (.builtin "list.extend.loop" {[.ref L,.ref I,res],[]}) R {s with heap:=h,toks:=tk,drawn:=d}:=by
  intro I fp P St W hI nf hP h d c₁ tk hk ae7 st;refine codeAny_extend_loopS W (by rw[bW];lia) _ nf _ es.size 0 _ _ _ rfl (aO _) st ae7 (ItemsOf.nil P) λs' uC c' hm UM agZ=>?_;obtain⟨h',g',d',Ku,YN⟩:=s';have eg:=hm.gens;have ed:d'=d:=hm.drawn;have eo:=hm.os;subst eg ed eo;refine hR h' Ku d' uC c' (λb o hb e=>hm.heap b o ?_ (hk b o hb e)) UM (hP uC agZ);have lt:=aW e;intro q;rcases aN.mp q with q|q
  ·exact hb q
  ·rw[ay.mp q]at lt;exact absurd (bw lt hI) (cX _)
 have tail:∀(I:Addr)(fp:Aai)(P:Nat->Value->Prop)(St:Nat->Shared->Prop),WalksS prog w A.in1 I fp [I] (λa b=>b=a) es.size P St->s.heap.objs.size<=I->L∉fp->(∀acc:Aak,ItemsOf P acc es.size->acc.toList.Perm (es.toList.map (·.2)))->
   ∀(h:Heap)(d:Drawn),(∀b o,s.heap.get? b=some o->h.get? b=some o)->St 0 {s with heap:=h,drawn:=d}->
   wpAny 58 A.in1 (Builtin.List.listTouch (.ref L)>>=λ_=>again (.builtin "list.extend.loop" {[.ref L,.ref I,res],[]})) (λfin s'=>match fin with| .done f=>R (.ok f) s'| .again c'=>c'.quiet=true/\codeAny 58 A c' R s') (λe s'=>R (.error e) s') {s with heap:=h,drawn:=d}:=by
  intro I fp P St W hI nf hP h d hk st;refine ae ?_;have ZO:=hk _ _ hL;refine ae (w6 ZO 9 ?_);have ZN:=eK (Obj.mapSeq (·.push Value.none)) ZO rfl;refine w6 ZN rfl ?_;have ae6:=eK (Obj.mapSeq (·.pop)) ZN rfl;have yP:∀b o,b≠L->h.get? b=some o->((h.update L (Obj.mapSeq (·.push Value.none))).update L (Obj.mapSeq (·.pop))).get? b=some o:=
   λb o hb e=>(cv _ _ (cL hb)).trans ((cv _ _ (cL hb)).trans e)
  exact ao {mW si _,key I fp P St W hI nf hP _ d _ s.toks (λb o hb e=>yP b o hb (hk b o e)) ae6 (W.frame 0 {s with heap:=h,drawn:=d} _ s.toks st (aw _) λb hb o e=>yP b o (λz=>nf (z▸hb)) e)}
 have e1:Builtin.List.listSameRef (.ref L) (.ref S)=false:=by simp[Builtin.List.listSameRef,OT]
 have e2:(Value.type "set"==Value.type "list")=false:=by decide
 have e3:(Value.type "set"==Value.type "tuple")=false:=by decide
 refine ae (gX ({o,ho,hex.1}) ?_);simp only[e1,e2,e3,A9,gH,kA];refine ae (aar x hn (λhc=>?_) λps d hp=>?_)
 ·have W:=aer (prog:=prog) (A:=A.in1) (ep:=ep) (by simpa using hh) (aV hS) hc;have nf:L∉[s.heap.objs.size,S]:=λhb=>by
   rcases aN.mp hb with q|q
   ·exact absurd q (aV hLl)
   ·exact OT (ay.mp q)
  have hP:∀acc:Aak,ItemsOf (λi v=>((u9 w S es ep).map (·.2))[i]?=some v) acc es.size->acc.toList.Perm (es.toList.map (·.2)):=λacc ha=>by
   have lo:((u9 w S es ep).map (·.2)).length=es.size:=by rw[ah,(zU w S es ep).length_eq,bI]
   rw[<-lo]at ha;rw[OL _ acc ha];exact(zU w S es ep).map _
  have kp:∀b o,s.heap.get? b=some o->(s.heap.push (xm (.int 0 0) 0 S es.size ep)).get? b=some o:=λb o e=>aj _ e;have st:Sat w (s.heap.push (xm (.int 0 0) 0 S es.size ep)) S es ep t/\(s.heap.push (xm (.int 0 0) 0 S es.size ep)).get? s.heap.objs.size=some (xm (.int (xK w t 0) 0) 0 S es.size ep):={x.keep λo e=>kp _ _ e,676};refine ae (cm (Mu {o,kp _ _ ho,hex.1} ?_));exact qF (λ_=>ae (j6 (tail _ _ _ _ W (aw _) nf hP _ s.drawn kp st))) (λ_=>ao {mW si _,key _ _ _ _ W (aw _) nf hP _ s.drawn c₀ s.toks (λb o _ e=>kp b o e) (kp _ _ hL) st})
 ·have nT:s.heap.objs.size≠s.heap.objs.size+1:=aV (eB _);have W:=aeq (prog:=prog) (w:=w) (A:=A.in1) (ep:=ep) (t:=t) (by simpa using hh) (aV (eO hS)) nT hp;have nf:L∉[s.heap.objs.size+1,S,s.heap.objs.size]:=λhb=>by
   rcases aN.mp hb with q|q
   ·exact absurd q (aV (eO hLl))
   ·rcases aN.mp q with q|q
    ·exact OT q
    ·exact absurd (ay.mp q) (aV hLl)
  have hP:∀acc:Aak,ItemsOf (λi v=>((ps.filterMap (es[·]?)).map (·.2))[i]?=some v) acc es.size->acc.toList.Perm (es.toList.map (·.2)):=λacc ha=>by
   have hl:(ps.filterMap (es[·]?)).Perm es.toList:=by
    have:=hp.filterMap (es.toList[·]?);rw[<-bI]at this;have e4:(ps.filterMap (es[·]?))=ps.filterMap (es.toList[·]?):=by simp
    rw[e4];rwa [SI]at this
   have lo:((ps.filterMap (es[·]?)).map (·.2)).length=es.size:=by rw[ah,hl.length_eq,bI]
   rw[<-lo]at ha;rw[OL _ acc ha];exact hl.map _
  generalize Mw:(s.heap.push {cls:=.type "tuple",data:=.seq (ps.map λ(i:Nat)=>rawInt i).toArray}).push (xm 352 0 S es.size ep)=jC;have kp:∀b o,s.heap.get? b=some o->jC.get? b=some o:=λb o e=>by rw[<-Mw];exact aj _ (aj _ e)
  have gI:jC.get? 646=some (xm 352 0 S es.size ep):=by have:=aU (s.heap.push {cls:=.type "tuple",data:=.seq (ps.map λ(i:Nat)=>rawInt i).toArray}) (o:=xm 352 0 S es.size ep) rfl;rw[dj]at this;rw[<-Mw];exact this
  have st:Sat w jC S es ep t/\jC.get? 646=some (xm 352 0 S es.size ep)/\jC.get? s.heap.objs.size=some {cls:=.type "tuple",data:=.seq (ps.map λ(i:Nat)=>rawInt i).toArray}:={x.keep λo e=>kp _ _ e,gI,(by rw[<-Mw];exact aj _ (aU _ 9))};refine ae (cm (Mu {o,kp _ _ ho,hex.1} ?_));exact qF (λ_=>ae (j6 (tail _ _ _ _ W (fq _) nf hP jC d kp st))) (λ_=>ao {mW si _,key _ _ _ _ W (fq _) nf hP jC d c₀ s.toks (λb o _ e=>kp b o e) (kp _ _ hL) st})
def N4{S:Addr}(hh:A.handled=none)(x:Sat w s.heap S es ep t)(hn:es.size<=100000)
  (h:∀h' tk d vs,vs.Perm (es.toList.map (·.2))->(∀b o,s.heap.get? b=some o->h'.get? b=some o)->R vs {s with heap:=h',toks:=tk,drawn:=d}):wpAny 58 A (collect (.ref S)) R E s:=by
 obtain⟨o,ho,hex,hd⟩:=x.ob;refine ae (wpAny_runValue (eX F.entry_proto_collect ?_));refine ae (cM ?_);refine ao {mW F.plain_list_iadd _,eX F.entry_list_iadd ?_};have k1:∀b o,s.heap.get? b=some o->(s.heap.push {cls:=.type "list",data:=.seq ([]:Aaf).toArray}).get? b=some o:=λb o e=>aj _ e;have hL:(s.heap.push {cls:=.type "list",data:=.seq ([]:Aaf).toArray}).get? s.heap.objs.size=some {cls:=.type "list",data:=.seq #[]}:=aU _ rfl;have key:=Ri (prog:=prog) (s:={s with heap:=s.heap.push {cls:=.type "list",data:=.seq ([]:Aaf).toArray}})
  (R:=λ(q:Result)(s':Shared)=>∃(h':Heap)(tk:Nat)(d:Drawn)(uC:Aak)(c':Nat),q=.ok (.ret 352)/\s'={s with heap:=h',toks:=tk,drawn:=d}/\
   (∀b o,s.heap.get? b=some o->h'.get? b=some o)/\h'.get? s.heap.objs.size=some {cls:=.type "list",dict:=none,data:=.seq uC c',slots:=#[]}/\uC.toList.Perm (es.toList.map (·.2)))
  hh (x.keep λo e=>k1 _ _ e) hn (cq (aW ho)) hL λh' tk d acc c kp g pm=>{h',tk,d,acc,c,9,9,λb o e=>kp b o (aV (aW e)) (k1 _ _ e),g,pm}
 refine dy key (λfin s' x=>?_) λe s' x=>?_
 ·cases fin with
  |done f=>
   obtain⟨h',tk,d,uC,c',e,rfl,hk,UM,pm⟩:=x;cases e;exact ae (Fs UM (ao (h h' tk d uC.toList pm hk)))
  |again c₁=>
   refine{x.1,lZ x.2 λq aad y=>?_};obtain⟨h',tk,d,uC,c',rfl,rfl,hk,UM,pm⟩:=y;exact ae (Fs UM (ao (h h' tk d uC.toList pm hk)))
 ·obtain⟨_,_,_,_,_,e',_⟩:=x;cases e'
end
end Tb
namespace uU
open PySem PySem.W PyProof.Rows
def ev{α:Type}(lt:Nat->Nat->Bool):KasT α->α
 | .ret a=>a
 | .ask i j k=>ev lt (k (lt i j))
theorem vp{α β:Type}{lt:Nat->Nat->Bool}{f:α->KasT β}:∀t:KasT α,ev lt (t.bind f)=ev lt (f (ev lt t))
 | .ret _=>rfl
 | .ask i j k=>vp (k (lt i j))
section
variable{rk:Nat->Nat}
abbrev ig(rk:Nat->Nat)(i j:Nat):Bool:=decide (rk i<rk j)
abbrev gK(rk:Nat->Nat)(p:Array Nat)(k:Nat):Nat:=rk (p.getD k 0)
def v8{p q:Array Nat}{i j:Nat}(h:p[i]?=q[j]?):gK rk p i=gK rk q j:=by unfold gK;rw[um,um,h]
def US{p:Array Nat}{src d:Nat}(hs:src<p.size)(hd:d<=src)(k:Nat):gK rk (bubble p src d) k=if k=src -d then gK rk p src else if src -d<k/\k<=src then gK rk p (k -1)else gK rk p k:=by
 have e:=getElem?_bubble hs d hd k;by_cases h1:k=src -d
 ·rw[aK h1]at e⊢;exact v8 e
 ·rw[aH h1]at e⊢;by_cases h2:src -d<k/\k<=src
  ·rw[aK h2]at e⊢;exact v8 e
  ·rw[aH h2]at e⊢;exact v8 e
def MS{p:Array Nat}{i j:Nat}(hj:j<=p.size)(k:Nat):gK rk (kas_rev p i j) k=if i<=k/\k<j then gK rk p (i+j -1 -k)else gK rk p k:=by
 have e:=getElem?_mirror_all (i:=i) hj k;by_cases h1:i<=k/\k<j
 ·rw[aK h1]at e⊢;exact v8 e
 ·rw[aH h1]at e⊢;exact v8 e
def EJ(p:Array Nat)(i j:Nat):(kas_rev p i j).size=p.size:=mirror_size _ _ _ _
def mI(p:Array Nat)(i j:Nat):(kas_rev p i j).Perm p:=mirror_perm _ _ _ _
def Up(rk:Nat->Nat)(p:Array Nat)(n:Nat):Prop:=∀i j,i<=j->j<n->gK rk p i<=gK rk p j
def Dn(rk:Nat->Nat)(p:Array Nat)(n:Nat):Prop:=∀i j,i<=j->j<n->gK rk p j<=gK rk p i
def Up.more{p:Array Nat}{n:Nat}(h:Up rk p n)(h1:1<=n)(hn:gK rk p (n -1)<=gK rk p n):Up rk p (n+1):=λi j Ca hj=>by
 by_cases e:j=n
 ·subst e;by_cases e2:i=j
  ·rw[e2];exact aw _
  ·exact br (h i (j -1) ∅ ∅) hn
 ·exact h i j Ca ∅
def Dn.more{p:Array Nat}{n:Nat}(h:Dn rk p n)(h1:1<=n)(hn:gK rk p n<=gK rk p (n -1)):Dn rk p (n+1):=λi j Ca hj=>by
 by_cases e:j=n
 ·subst e;by_cases e2:i=j
  ·rw[e2];exact aw _
  ·exact br hn (h i (j -1) ∅ ∅)
 ·exact h i j Ca ∅
theorem M3{p:Array Nat}:∀(f n:Nat),1<=n->Up rk p n->n<=ev (ig rk) (kas_asc p f n)/\ev (ig rk) (kas_asc p f n)<=n+f/\Up rk p (ev (ig rk) (kas_asc p f n))/\(ev (ig rk) (kas_asc p f n)=n+f\/gK rk p (ev (ig rk) (kas_asc p f n))<gK rk p (ev (ig rk) (kas_asc p f n) -1))
 |0,n,_,hu=>{aw _,aw _,hu,.inl rfl}
 |f+1,n,h1,hu=>by
  show n<=ev (ig rk) 644/\ev (ig rk) 644<=n+(f+1)/\Up rk p (ev (ig rk) 644)/\(ev (ig rk) 644=n+(f+1)\/gK rk p (ev (ig rk) 644)<gK rk p (ev (ig rk) 644 -1));by_cases c:ig rk (p.getD n 0) 683=true
  ·rw[aK c];exact{aw _,eC _ _,hu,.inr (aR c)}
  ·rw[aH c];obtain⟨a1,a2,a3,a4⟩:=M3 f (n+1) ∅ (hu.more h1 (kG λh=>c (bj h)));exact{8,8,a3,a4.imp (λe=>by lia) id}
structure aep(rk:Nat->Nat)(p:Array Nat)(n q:Nat):Prop where
 dn:Dn rk p n
 q1:q+1<=n
 eq:∀k,n -(q+1)<=k->k<n->gK rk p k=gK rk p (n -1)
def BE{p:Array Nat}{i j:Nat}(hj:j<=p.size)(he:∀k,i<=k->k<j->gK rk p k=gK rk p (j -1))(k:Nat):gK rk (kas_rev p i j) k=gK rk p k:=by
 rw[MS hj];split
 ·rw[he _ ∅ ∅,he k ∅ ∅]
 ·rfl
def Dn.of{p p':Array Nat}{n:Nat}(h:Dn rk p n)(e:∀k,gK rk p' k=gK rk p k):Dn rk p' n:=λi j Ca hj=>by rw[e,e];exact h i j Ca hj
theorem Dx:∀(f:Nat)(p:Array Nat)(n q:Nat),n+f<=p.size->aep rk p n q->∃p' m q',ev (ig rk) (kas_desc f p n q)=(p',m,q')/\p'.Perm p/\n<=m/\m<=n+f/\aep rk p' m q'
 |0,p,n,q,_,hf=>{p,n,q,9,.refl _,aw _,aw _,hf}
 |f+1,p,n,q,hs,hf=>by
  have q1:=hf.q1;show∃p' m q',ev (ig rk) (if ig rk (p.getD n 0) 683=true then(if q>0 then kas_desc f (kas_rev p (n -(q+1)) n) (n+1) 0 else kas_desc f p (n+1) 0)else .ask 683 (p.getD n 0) λd=>if d=true then .ret (p,n,q)else kas_desc f p (n+1) (q+1))=(p',m,q')/\_;by_cases c:ig rk (p.getD n 0) 683=true
  ·rw[aK c];have c':gK rk p n<gK rk p (n -1):=aR c;by_cases hq:q>0
   ·rw[aK hq];have al:=BE ∅ hf.eq;obtain⟨p',m,q',e,hp,h1,h2,h3⟩:=Dx f (kas_rev p (n -(q+1)) n) (n+1) 0 (by rw[EJ];lia) {(hf.dn.of al).more ∅ (by rw[al,al];lia),8,λk B9 rZ=>by rw[show k=n by lia];rfl};exact{p',m,q',e,hp.trans (mI _ _ _),8,8,h3}
   ·rw[aH hq];obtain⟨p',m,q',e,hp,h1,h2,h3⟩:=Dx f p (n+1) 0 ∅ {hf.dn.more ∅ ∅,8,λk B9 rZ=>by rw[show k=n by lia];rfl};exact{p',m,q',e,hp,8,8,h3}
  ·rw[aH c];have c':gK rk p (n -1)<=gK rk p n:=kG λh=>c (bj h);show∃p' m q',ev (ig rk) (if ig rk 683 (p.getD n 0)=true then .ret (p,n,q)else kas_desc f p (n+1) (q+1))=(p',m,q')/\_;by_cases d:ig rk 683 (p.getD n 0)=true
   ·rw[aK d];exact{p,n,q,9,.refl _,aw _,eC _ _,hf}
   ·rw[aH d];have d':gK rk p n<=gK rk p (n -1):=kG λh=>d (bj h);obtain⟨p',m,q',e,hp,h1,h2,h3⟩:=Dx f p (n+1) (q+1) ∅ {hf.dn.more ∅ d',by lia,λk B9 rZ=>by
     show gK rk p k=gK rk p n;by_cases ek:k=n
     ·rw[ek]
     ·rw[hf.eq k ∅ ∅];lia}
    exact{p',m,q',e,hp,8,8,h3}
def Pz{p:Array Nat}{n N:Nat}(h1:1<=n)(hn:n<=N)(hN:N<=p.size)(hd:Dn rk p n):∃m p',ev (ig rk) (kas_tail3 n N p)=(m,p')/\p'.Perm p/\1<=m/\m<=N/\Up rk p' m:=by
 unfold kas_tail3;rw[vp];have hu:Up rk (kas_rev p 0 n) n:=λi j Ca hj=>by rw[MS ∅,MS ∅,aK ∅,aK ∅];exact hd _ _ ∅ ∅
 obtain⟨a1,a2,a3,_⟩:=M3 (N -n) n h1 hu;exact{_,_,9,mI _ _ _,8,8,a3}
def Em{p:Array Nat}{n N:Nat}(h1:1<=n)(hn:n<N)(hN:N<=p.size)(hd:Dn rk p (n+1)):∃m p',ev (ig rk) (kas_descPart n N p)=(m,p')/\p'.Perm p/\1<=m/\m<=N/\Up rk p' m:=by
 unfold kas_descPart;rw[vp];obtain⟨p',m,q',e,hp,a1,a2,hf⟩:=Dx (N -(n+1)) p (n+1) 0 ∅ {hd,8,λk B9 rZ=>by rw[show k=n by lia];rfl};rw[e];have sz:=hp.size_eq;by_cases hq:q'>0
 ·rw[aK hq];have al:=BE ∅ hf.eq;obtain⟨m1,p1,e1,lG,b1,b2,b3⟩:=Pz (N:=N) ∅ ∅ (by rw[EJ];lia) (hf.dn.of al);exact{m1,p1,e1,(lG.trans (mI _ _ _)).trans hp,b1,b2,b3}
 ·rw[aH hq];obtain⟨m1,p1,e1,lG,b1,b2,b3⟩:=Pz (N:=N) ∅ ∅ ∅ hf.dn;exact{m1,p1,e1,lG.trans hp,b1,b2,b3}
def Xy{p:Array Nat}{N:Nat}(h1:1<=N)(hN:N<=p.size):∃m p',ev (ig rk) (kas_count N p)=(m,p')/\p'.Perm p/\1<=m/\m<=N/\Up rk p' m:=by
 unfold kas_count;rw[vp];obtain⟨a1,a2,a3,a4⟩:=M3 (rk:=rk) (p:=p) (N -1) 1 (aw _) (λi j Ca hj=>by rw[show i=j by lia];exact aw _);generalize ev (ig rk) (kas_asc p (N -1) 1)=n at a1 a2 a3 a4;by_cases hnn:n=N
 ·rw[aK (by simpa using hnn)];exact{n,p,9,.refl _,8,8,a3}
 ·rw[aH (by simpa using hnn)];have bQ:gK rk p n<gK rk p (n -1):=a4.resolve_left ∅;by_cases hgt:n>1
  ·rw[aK hgt];show∃m p',ev (ig rk) (if ig rk (p.getD 0 0) 683=true then .ret (n,p)else kas_descPart n N (kas_rev p 0 n))=(m,p')/\_;by_cases c:ig rk (p.getD 0 0) 683=true
   ·rw[aK c];exact{n,p,9,.refl _,8,8,a3}
   ·rw[aH c];have c':gK rk p (n -1)<=gK rk p 0:=kG λh=>c (bj h);have ot:∀k,0<=k->k<n->gK rk p k=gK rk p (n -1):=λk _ hk=>by have b1:=a3 0 k ∅ hk;have b2:=a3 k (n -1) ∅ ∅;lia
    have al:=BE (rk:=rk) (p:=p) (i:=0) (j:=n) ∅ ot;obtain⟨m1,p1,e1,lG,b1,b2,b3⟩:=Em (rk:=rk) (p:=kas_rev p 0 n) (n:=n) (N:=N) ∅ ∅ (by rw[EJ];lia) (λi j Ca hj=>by
     rw[al,al];by_cases hjn:j=n
     ·by_cases rg:i=n
      ·rw[rg,hjn];exact aw _
      ·rw[hjn,ot i ∅ ∅];lia
     ·rw[ot i ∅ ∅,ot j ∅ ∅];exact aw _)
    exact{m1,p1,e1,lG.trans (mI _ _ _),b1,b2,b3}
  ·rw[aH hgt];have e1:n=1:=by lia
   subst e1;have bQ:gK rk p 1<gK rk p 0:=bQ;exact Em ∅ ∅ hN λi j Ca hj=>by
    by_cases e:i=j
    ·rw[e];exact aw _
    ·rw[show i=0 by lia,show j=1 by lia];lia
theorem E1{p:Array Nat}{k:Nat}(hu:Up rk p k):∀(f l r:Nat),l<=r->r<=k->r -l<=f->(∀i,i<l->gK rk p i<=gK rk p k)->(∀i,r<=i->i<k->gK rk p k<=gK rk p i)->∃x,ev (ig rk) (kas_place p k f l r)=x/\x<=k/\(∀i,i<x->gK rk p i<=gK rk p k)/\∀i,x<=i->i<k->gK rk p k<=gK rk p i
 |0,l,r,h1,h2,h3,h4,h5=>{l,9,8,h4,λi a b=>h5 i ∅ b}
 |f+1,l,r,h1,h2,h3,h4,h5=>by
  show∃x,ev (ig rk) (if l≥r then KasT.ret l else .ask (p.getD k 0) (p.getD ((l+r)/2) 0) λc=>if c=true then kas_place p k f l ((l+r)/2)else kas_place p k f ((l+r)/2+1) r)=x/\_;by_cases c:l≥r
  ·rw[aK c];exact{l,9,8,h4,λi a b=>h5 i ∅ b}
  ·rw[aH c];show∃x,ev (ig rk) (if ig rk (p.getD k 0) (p.getD ((l+r)/2) 0)=true then kas_place p k f l ((l+r)/2)else kas_place p k f ((l+r)/2+1) r)=x/\_;by_cases d:ig rk (p.getD k 0) (p.getD ((l+r)/2) 0)=true
   ·rw[aK d];exact E1 hu f l ((l+r)/2) ∅ ∅ ∅ h4 λi a b=>br (bC (aR d)) (hu _ i a b)
   ·rw[aH d];exact E1 hu f ((l+r)/2+1) r ∅ h2 ∅ (λi hi=>br (hu i ((l+r)/2) ∅ ∅) (kG λh=>d (bj h))) h5
theorem U2:∀(f:Nat)(p:Array Nat)(k:Nat),k+f<=p.size->Up rk p k->∃p',ev (ig rk) (kas_bin f p k)=p'/\p'.Perm p/\Up rk p' (k+f)
 |0,p,k,_,hu=>{p,9,.refl _,hu}
 |f+1,p,k,hs,hu=>by
  show∃p',ev (ig rk) ((kas_place p k k 0 k).bind λl=>kas_bin f (bubble p k (k -l)) (k+1))=p'/\_;rw[vp];obtain⟨x,e,hx,h1,h2⟩:=E1 hu k 0 k (aO _) (aw _) ∅ (λi hi=>absurd hi (fK _)) λi a b=>by lia
  rw[e];have hb:=λj=>US (rk:=rk) (p:=p) (src:=k) (d:=k -x) ∅ ∅ j;rw[show k -(k -x)=x by lia]at hb;have oq:Up rk (bubble p k (k -x)) (k+1):=λi j Ca hj=>by
   rw[hb,hb];by_cases c1:i=x
   ·rw[aK c1];by_cases c2:j=x
    ·rw[aK c2];exact aw _
    ·rw[aH c2,aK ∅];exact h2 (j -1) ∅ ∅
   ·rw[aH c1];by_cases c3:x<i/\i<=k
    ·rw[aK c3,aH ∅,aK ∅];exact hu _ _ ∅ ∅
    ·rw[aH c3];by_cases c2:j=x
     ·rw[aK c2];exact h1 i ∅
     ·rw[aH c2];by_cases c4:x<j/\j<=k
      ·rw[aK c4];exact hu _ _ ∅ ∅
      ·rw[aH c4];exact hu _ _ Ca ∅
  obtain⟨p',e',hp,y0⟩:=U2 f (bubble p k (k -x)) (k+1) (by rw[bubble_size];lia) oq;exact{p',e',hp.trans (bubble_perm _ _ _),by rw[show k+(f+1)=k+1+f by lia];exact y0}
def abA{n:Nat}(h1:1<=n):∃p,ev (ig rk) (kas_sort n)=p/\p.toList.Perm (List.range n)/\Up rk p n:=by
 unfold kas_sort;rw[vp];have sz:(List.toArray (List.range n)).size=n:=by simp
 obtain⟨m,p,e,hp,b1,b2,hu⟩:=Xy (p:=List.toArray (List.range n)) h1 ∅;rw[e];have sp:p.size=n:=by rw[hp.size_eq,sz]
 have hl:p.toList.Perm (List.range n):=by have:=uJ.mp hp;simpa using this
 by_cases c:m<n
 ·rw[aK c,show max m 1=m by lia];obtain⟨p',e',Pc,oq⟩:=U2 (n -m) p m ∅ hu;exact{p',e',(uJ.mp Pc).trans hl,by rw[show n=m+(n -m) by lia];exact oq}
 ·rw[aH c];exact{p,9,hl,by rw[show n=m by lia];exact hu}
def pJ{α:Type}(n:Nat)(P:α->Prop):KasT α->Prop
 | .ret a=>P a
 | .ask i j k=>i<n/\j<n/\∀b,pJ n P (k b)
theorem pJ.bind{α β:Type}{n:Nat}{P:α->Prop}{R:β->Prop}{f:α->KasT β}:∀{t:KasT α},pJ n P t->(∀a,P a->pJ n R (f a))->pJ n R (t.bind f)
 | .ret a,h,k=>k a h
 | .ask i j g,h,k=>{h.1,h.2.1,λb=>pJ.bind (h.2.2 b) k}
theorem U1{α:Type}{n:Nat}{P:α->Prop}{lt:Nat->Nat->Bool}{cmp:Nat->Nat->(Bool->Shared->Prop)->Shared->Prop}{J:Shared->Prop}{Q:α->Shared->Prop}(hc:∀i j C s,i<n->j<n->J s->(∀s',J s'->C (lt i j) s')->cmp i j C s):∀(t:KasT α)(s:Shared),pJ n P t->J s->(∀s',J s'->Q (ev lt t) s')->t.kasWp cmp Q s
 | .ret _,s,_,hj,h=>h s hj
 | .ask i j k,s,a,hj,h=>hc i j _ s a.1 a.2.1 hj λs' Jh=>U1 hc (k (lt i j)) s' (a.2.2 _) Jh h
def Bd(n:Nat)(p:Array Nat):Prop:=∀x∈p,x<n
def Bd.getD{n:Nat}{p:Array Nat}(h:Bd n p)(h0:0<n)(k:Nat):p.getD k 0<n:=by
 by_cases c:k<p.size
 ·have e:p.getD k 0=p[k]:=by simp[Array.getD,c]
  rw[e];exact h _ (Array.getElem_mem c)
 ·have e:p.getD k 0=0:=by simp[Array.getD,c]
  rw[e];exact h0
def Bd.perm{n:Nat}{p q:Array Nat}(h:Bd n p)(hp:q.Perm p):Bd n q:=λx hx=>h x (hp.mem_iff.mp hx)
end
section
variable{n:Nat}(h0:0<n)
include h0
theorem Fj{p:Array Nat}(hb:Bd n p):∀f m,pJ n (λ_=>True) (kas_asc p f m)
 |0,m=>trivial
 |f+1,m=>{hb.getD h0 _,hb.getD h0 _,λb=>by
  cases b with
  |true=>exact trivial
  |false=>exact Fj hb f (m+1)}
theorem xx:∀(f:Nat)(p:Array Nat)(m q:Nat),Bd n p->pJ n (λr:Array Nat×Nat×Nat=>Bd n r.1) (kas_desc f p m q)
 |0,p,m,q,hb=>hb
 |f+1,p,m,q,hb=>{hb.getD h0 _,hb.getD h0 _,λb=>by
  cases b with
  |true=>
   show pJ n _ (if q>0 then kas_desc f (kas_rev p (m -(q+1)) m) (m+1) 0 else kas_desc f p (m+1) 0);split
   ·exact xx f _ _ _ (hb.perm (mI _ _ _))
   ·exact xx f _ _ _ hb
  |false=>
   refine{hb.getD h0 _,hb.getD h0 _,λd=>?_};cases d with
   |true=>exact hb
   |false=>exact xx f p (m+1) (q+1) hb}
def JH{p:Array Nat}(hb:Bd n p)(m N:Nat):pJ n (λr:Nat×Array Nat=>Bd n r.2) (kas_tail3 m N p):=
 (Fj h0 (hb.perm (mI _ _ _)) _ _).bind λ_ _=>hb.perm (mI _ _ _)
def A6{p:Array Nat}(hb:Bd n p)(m N:Nat):pJ n (λr:Nat×Array Nat=>Bd n r.2) (kas_descPart m N p):=
 (xx h0 _ _ _ _ hb).bind λr hr=>by
  split
  ·exact JH h0 (hr.perm (mI _ _ _)) _ _
  ·exact JH h0 hr _ _
def RJ{p:Array Nat}(hb:Bd n p)(N:Nat):pJ n (λr:Nat×Array Nat=>Bd n r.2) (kas_count N p):=
 (Fj h0 hb _ _).bind λm _=>by
  split
  ·exact hb
  ·split
   ·refine{hb.getD h0 _,hb.getD h0 _,λb=>?_};cases b with
    |true=>exact hb
    |false=>exact A6 h0 (hb.perm (mI _ _ _)) _ _
   ·exact A6 h0 hb _ _
theorem Av{p:Array Nat}(hb:Bd n p)(k:Nat):∀f l r,pJ n (λ_=>True) (kas_place p k f l r)
 |0,l,r=>trivial
 |f+1,l,r=>by
  unfold kas_place;split
  ·exact trivial
  ·refine{hb.getD h0 _,hb.getD h0 _,λb=>?_};cases b with
   |true=>exact Av hb k f _ _
   |false=>exact Av hb k f _ _
theorem Nr:∀(f:Nat)(p:Array Nat)(k:Nat),Bd n p->pJ n (Bd n) (kas_bin f p k)
 |0,p,k,hb=>hb
 |f+1,p,k,hb=>(Av h0 hb k _ _ _).bind λl _=>Nr f _ _ (hb.perm (bubble_perm _ _ _))
def Vr:pJ n (Bd n) (kas_sort n):=
 (RJ h0 (p:=List.toArray (List.range n)) (λx hx=>by simpa using hx) n).bind λr hr=>by
  split
  ·exact Nr h0 _ _ _ hr
  ·exact hr
end
end uU
namespace uU
open PySem PySem.W PyProof.Rows PySem.Calls
section
variable{prog:Program}{w:World}{A:Around}{E:Aad}{s:Shared}{vs:Aaf}
def Tk(s s':Shared):Prop:=∃t,s'={s with toks:=t}
def Tk.refl(s:Shared):Tk s s:={s.toks,9}
abbrev gm(h:Heap)(a:Addr)(vs:Aaf):Heap:=((h.update a (Obj.mapSeq λ_=>(#[]:Aak))).push (seqObj "tuple" vs.toArray 0)).push (seqObj "list" #[] 0)
def Qe{a:Addr}{n:Nat}{P:PySem.Fin->Shared->Prop}{κ:SortKind}{rk:Nat->Nat}(ho:s.heap.get? a=some (seqObj "list" vs.toArray n))(h2:2<=vs.length)(zg:vs.length<64)
  (hk:∀s',Tk {s with heap:=gm s.heap a vs} s'->wpAny 58 A (keyKind' vs.toArray) (λk s2=>k=κ/\Tk {s with heap:=gm s.heap a vs} s2) (λ_ _=>False) s')
  (hc:∀i j C s',i<vs.length->j<vs.length->Tk {s with heap:=gm s.heap a vs} s'->(∀s2,Tk {s with heap:=gm s.heap a vs} s2->C (ig rk i j) s2)->kas_ask prog w A κ vs i j C s')
  (k:∀(p:Array Nat)(h':Heap)(tk c:Nat),p.toList.Perm (List.range vs.length)->Up rk p vs.length->h'.get? a=some (seqObj "list" (List.toArray (p.toList.map λi=>vs.getD i Value.none)) c)->(∀b o,b≠a->s.heap.get? b=some o->h'.get? b=some o)->P (.done (.ret .none)) {s with heap:=h',toks:=tk}):
  wpAny 58 A (Builtin.«list.sort» {[.ref a],[]}) P E s:=by
 obtain⟨e1,y9⟩:∃e1,(s.heap.update a (Obj.mapSeq λ_=>(#[]:Aak))).get? a=some (seqObj "list" #[] e1):={_,get?_update_seq ho λ_=>#[]};have MF:(gm s.heap a vs).get? a=some (seqObj "list" #[] e1):=aj _ (aj _ y9);have zW:∀b o,b≠a->s.heap.get? b=some o->(gm s.heap a vs).get? b=some o:=λb o nb q=>aj _ (aj _ ((cE s.heap a _).extBut b o nb q));rw[list_sort_plain];refine ae (listItems_at ho 9 ?_);refine ae (ux ho 9 ?_ (by rw[aP,bW];lia) (aO _));refine ae (xM y9 9 ?_);refine ae (sr ?_ (by show vs.length<=_;rw[bW];lia));refine ae (uo ?_ (aO _));refine cm ?_;have big:¬vs.toArray.size<2:=by rw[aP];lia
 rw[aH big,aH big];refine ae (dy (hk _ (Tk.refl _)) (λkd s0 hq=>?_) λ_ _ x=>x.elim);obtain⟨rfl,t0⟩:=hq;obtain⟨p,ep,hp,hu⟩:=abA (n:=vs.length) ∅;have agG:(kas_sort vs.length).kasWp (kas_ask prog w A kd vs) (λq s'=>q=p/\Tk {s with heap:=gm s.heap a vs} s') s0:=U1 hc _ s0 (Vr ∅) t0 λs' t'=>⟨ep,t'⟩;refine ae (dy (kat_run (Q:=λmT s'=>arrOf mT=p.map (kas_item (vs.toArray.zip vs.toArray))/\failedOf mT=none/\Tk {s with heap:=gm s.heap a vs} s') 9 h2 zg (λp' mT s' a1 a2 a3 a4=>by obtain⟨rfl,t'⟩:=a4;exact⟨a2,a3,t'⟩) agG) ?_ λ_ _ e=>e)
 rintro⟨⟨⟩,mT⟩ s' ⟨har,hf,tk,rfl⟩;dsimp only;rw[kat_snds rfl har];have lp:(p.toList.map λi=>vs.getD i Value.none).length=vs.length:=by rw[ah,hp.length_eq,eP]
 obtain⟨out,eo⟩:∃out,out=p.toList.map λi=>vs.getD i Value.none:=⟨_,rfl⟩;obtain⟨c2,ub⟩:∃c2,((gm s.heap a vs).update a (Obj.mapSeq λ_=>out.toArray)).get? a=some (seqObj "list" out.toArray c2):={_,get?_update_seq MF λ_=>out.toArray};refine ae (xM MF 9 ?_);refine ae (ux MF 9 ?_ (aO _) (by rw[aP,lp,bW];lia));rw[hf];simp only[DJ,gH,kA];refine ao (k p _ tk c2 hp hu ?_ λb o nb q=>(cE (gm s.heap a vs) a _).extBut b o nb (zW b o nb q));rw[<-eo];exact ub
def aaI{rk:Value->Nat}(ho:s.heap.get? a=some (seqObj "list" vs.toArray n))(h2:2<=vs.length)(zg:vs.length<64)
  (hk:∀s',Tk {s with heap:=gm s.heap a vs} s'->wpAny 58 A (keyKind' vs.toArray) (λk s2=>k=κ/\Tk {s with heap:=gm s.heap a vs} s2) (λ_ _=>False) s')
  (hc:∀x∈vs,∀y∈vs,∀s',Tk {s with heap:=gm s.heap a vs} s'->wpAny 58 A (keyLt' κ x y) (λb s2=>b=decide (rk x<rk y)/\Tk {s with heap:=gm s.heap a vs} s2) (λ_ _=>False) s')
  (k:∀(us:Aaf)(h':Heap)(tk c:Nat),us.Perm vs->us.Pairwise (λx y=>rk x<=rk y)->h'.get? a=some (seqObj "list" us.toArray c)->(∀b o,b≠a->s.heap.get? b=some o->h'.get? b=some o)->P (.done (.ret .none)) {s with heap:=h',toks:=tk}):
  wpAny 58 A (Builtin.«list.sort» {[.ref a],[]}) P E s:=by
 have mem:∀i,i<vs.length->vs.getD i Value.none∈vs:=λi hi=>by rw[cB,av hi];exact kH hi
 refine Qe (rk:=λi=>rk (vs.getD i Value.none)) ho h2 zg hk (λi j C s' hi hj tk q=>?_) λp h' tk c hp hu g kp=>k _ h' tk c ?_ ?_ g kp
 ·refine dy (hc _ (mem i hi) _ (mem j hj) s' tk) (λb s2 agc=>?_) λ_ _ x=>x;obtain⟨e,t⟩:=agc;rw[e];exact q s2 t
 ·have:=hp.map λi=>vs.getD i Value.none;rwa [show(List.range vs.length).map (λi=>vs.getD i Value.none)=vs from List.ext_getElem 59 λi h1 h2=>by simp[h2]]at this
 ·have lp:p.size=vs.length:=by rw[<-bI,hp.length_eq,eP]
  refine jZ.mpr (nG.mpr λx y hx hy hxy=>?_);have O7:x<p.size:=by simpa using hx
  have Uh:y<p.size:=by simpa using hy
  have:=hu x y (bC hxy) ∅;unfold gK at this;have ex:p.getD x 0=p.toList[x]:=by simp[Array.getD,O7]
  have ey:p.getD y 0=p.toList[y]:=by simp[Array.getD,Uh]
  rw[ex,ey]at this;exact this
def VX(ho:s.heap.get? a=some (seqObj "list" vs.toArray n))(h2:vs.length<2)
  (k:∀(h':Heap)(c:Nat),h'.get? a=some (seqObj "list" vs.toArray c)->(∀b o,b≠a->s.heap.get? b=some o->h'.get? b=some o)->P (.done (.ret .none)) {s with heap:=h'}):
  wpAny 58 A (Builtin.«list.sort» {[.ref a],[]}) P E s:=by
 obtain⟨e1,y9⟩:∃e1,(s.heap.update a (Obj.mapSeq λ_=>(#[]:Aak))).get? a=some (seqObj "list" #[] e1):={_,get?_update_seq ho λ_=>#[]};have MF:(gm s.heap a vs).get? a=some (seqObj "list" #[] e1):=aj _ (aj _ y9);have zW:∀b o,b≠a->s.heap.get? b=some o->(gm s.heap a vs).get? b=some o:=λb o nb q=>aj _ (aj _ ((cE s.heap a _).extBut b o nb q));rw[list_sort_plain];refine ae (listItems_at ho 9 ?_);refine ae (ux ho 9 ?_ (by rw[aP,bW];lia) (aO _));refine ae (xM y9 9 ?_);refine ae (sr ?_ (by show vs.length<=_;rw[bW];lia));refine ae (uo ?_ (aO _));refine cm ?_;have mz:vs.toArray.size<2:=by rw[aP];lia
 rw[aK mz,aK mz];refine ae 660;refine ae 660;dsimp only;have es:(arrOf (SortSt.mk' general' (vs.toArray.zip vs.toArray) #[] 07 none)).map (·.2)=vs.toArray:=by apply wK.mp;simp[List.map_snd_zip]
 rw[es];obtain⟨c2,ub⟩:∃c2,((gm s.heap a vs).update a (Obj.mapSeq λ_=>vs.toArray)).get? a=some (seqObj "list" vs.toArray c2):={_,get?_update_seq MF λ_=>vs.toArray};refine ae (xM MF 9 ?_);refine ae (ux MF 9 ?_ (aO _) (by rw[aP,bW];lia));simp only[DJ,gH,kA];exact ao (k _ c2 ub λb o nb q=>(cE (gm s.heap a vs) a _).extBut b o nb (zW b o nb q))
abbrev LQ(a b:Str):Bool:=decide (a.cps.toList<b.cps.toList)
def fw:Aag->Aag->Bool
 |_,[]=>false
 |[],_::_=>true
 |a::r,b::q=>if a=b then fw r q else LQ a b
def QM(a:Str):LQ a a=false:=cA (List.lt_irrefl _)
def TC(h1:LQ a b=true)(h2:LQ b c=true):LQ a c=true:=bj (List.lt_trans (aR h1) (aR h2))
def TF(h:LQ a b=false)(h2:LQ b a=false):a=b:=by exact ext_toList (List.le_antisymm (List.not_lt.mp (oh h2)) (List.not_lt.mp (oh h)))
theorem vY:∀a,fw a a=false
 |[]=>rfl
 |a::r=>by unfold fw;rw[aK rfl];exact vY r
theorem tG:∀{a b c:Aag},fw a b=true->fw b c=true->fw a c=true
 |_,[],[],_,h=>by unfold fw at h;cases h
 |_,_::_,[],_,h=>by unfold fw at h;cases h
 |_,[],_::_,h,_=>by unfold fw at h;cases h
 |[],_::_,_::_,_,_=>rfl
 |a::r,b::q,c::p,h1,h2=>by
  unfold fw at h1 h2⊢;by_cases e1:a=b
  ·subst e1;rw[aK rfl]at h1;by_cases e2:a=c
   ·rw[aK e2]at h2⊢;exact tG h1 h2
   ·rw[aH e2]at h2⊢;exact h2
  ·rw[aH e1]at h1;by_cases e2:b=c
   ·subst e2;rw[aH e1];exact h1
   ·rw[aH e2]at h2;have h3:=TC h1 h2;rw[aH (λe=>by rw[e,QM]at h3;cases h3)];exact h3
theorem tH:∀{a b:Aag},fw a b=false->fw b a=false->a=b
 |[],[],_,_=>rfl
 |[],_::_,h,_=>by unfold fw at h;cases h
 |_::_,[],_,h=>by unfold fw at h;cases h
 |a::r,b::q,h1,h2=>by
  unfold fw at h1 h2;by_cases e:a=b
  ·subst e;rw[aK rfl]at h1 h2;rw[tH h1 h2]
  ·rw[aH e]at h1;rw[aH (cL e)]at h2;exact(e (TF h1 h2)).elim
abbrev kJ(a b:Aag):Bool:=!fw b a
def NP(a b c:Aag)(h1:kJ a b=true)(h2:kJ b c=true):kJ a c=true:=by
 have MO:fw c b=false:=by simpa using h2
 cases q:fw c a with
 |false=>simp[kJ,q]
 |true=>
  cases p:fw a b with
  |true=>rw[tG q p]at MO;cases MO
  |false=>rw[tH p (by simpa using h1),MO]at q;cases q
def NQ(a b:Aag):(kJ a b||kJ b a)=true:=by
 cases q:fw b a with
 |false=>simp[kJ,q]
 |true=>
  cases p:fw a b with
  |false=>simp[kJ,p]
  |true=>have:=tG q p;rw[vY]at this;cases this
def QO(h1:kJ a b=true)(h2:kJ b a=true):a=b:=tH (by simpa using h2) (by simpa using h1)
def mF(l:Aaa):Aaa:=l.mergeSort kJ
def mE(l:Aaa):(mF l).Perm l:=Bh l kJ
def u3(l:Aaa):(mF l).Pairwise (λa b=>kJ a b=true):=wY NP NQ l
theorem Ll:∀{l m:Aaa},l.Perm m->l.Pairwise (λa b=>kJ a b=true)->m.Pairwise (λa b=>kJ a b=true)->l=m
 |[],m,h,_,_=>(List.nil_perm.mp h).symm
 |a::l,[],h,_,_=>absurd h.length_eq 59
 |a::l,b::m,h,h1,h2=>by
  have e:a=b:=by
   rcases aN.mp (h.mem_iff.mp (aF))with e|e
   ·exact e
   ·rcases aN.mp (h.mem_iff.mpr (aF))with q|q
    ·exact q.symm
    ·exact QO (iB h1 q) (iB h2 e)
  subst e;rw[Ll (List.perm_cons a|>.mp h) (k8.mp h1).2 (k8.mp h2).2]
def vE(h:l.Perm zs)(hs:l.Pairwise (λa b=>kJ a b=true)):l=mF zs:=Ll (h.trans (mE zs).symm) hs (u3 zs)
def D3(h:l.Perm m):mF l=mF m:=vE ((mE l).trans h) (u3 l)
def OF(rows:Aaa)(a:Aag):Nat:=rows.countP λr=>fw r a
def YD(ha:a∈rows)(hb:b∈rows):decide (OF rows a<OF rows b)=fw a b:=by
 have strict:∀{a b:Aag},a∈rows->fw a b=true->OF rows a<OF rows b:=λ{a b} hm h=>by unfold OF;obtain⟨l1,l2,e⟩:=List.append_of_mem hm;have c1:∀l:Aaa,(l.countP λr=>fw r a)<=l.countP λr=>fw r b:=λl=>List.countP_mono_left λr _ hr=>tG hr h;rw[e,CW,CW,List.countP_cons,List.countP_cons,vY,h];have:=c1 l1;have:=c1 l2;simp;lia
 cases q:fw a b with
 |true=>exact bj (strict ha q)
 |false=>
  refine cA (rG.mpr ?_);cases p:fw b a with
  |true=>exact bC (strict hb p)
  |false=>rw[tH q p];exact aw _
end
inductive o9:Aag->Aaf->Prop where
 |nil:o9 [] []
 |cons {z:Str} {t:Tok} {zs:Aag} {vs:Aaf}:o9 zs vs->o9 (z::zs) (.str z t::vs)
def TupIs(h:Heap)(v:Value)(zs:Aag):Prop:=∃a o a9 n,v=.ref a/\h.get? a=some o/\o.cls=.type "tuple"/\o.data=.seq a9 n/\o9 zs a9.toList
def TupIs.mono(x:TupIs h v zs)(kp:∀b o,h.get? b=some o->h'.get? b=some o):TupIs h' v zs:=by obtain⟨a,o,a9,n,e,ho,r⟩:=x;exact{a,o,a9,n,e,kp _ _ ho,r}
theorem o9.one:∀{xs ys:Aag}{vs:Aaf},o9 xs vs->o9 ys vs->xs=ys
 |_,_,_,.nil,.nil=>rfl
 |_,_,_,.cons a,.cons b=>by rw[a.one b]
def TupIs.one(a:TupIs h v xs)(b:TupIs h v ys):xs=ys:=by obtain⟨a,o,a9,n,rfl,h1,_,h2,h3⟩:=a;obtain⟨b,p,itq,m,e,q1,_,q2,q3⟩:=b;cases e;rw[h1]at q1;cases q1;rw[h2]at q2;cases q2;exact h3.one q3
open Classical in
def rowOf(h:Heap)(v:Value):Aag:=if x:∃r,TupIs h v r then Classical.choose x else[]
def sH(x:TupIs h v r):rowOf h v=r:=by unfold rowOf;rw[dif_pos ⟨r,x⟩];exact(Classical.choose_spec (⟨r,x⟩:∃r,TupIs h v r)).one x
section
variable{prog:Program}{w:World}{A:Around}{E:Aad}{s:Shared}
def eq_str(h:Q (decide (a=b)) s):wpAny 58 A (eqBool (.str a t) (.str b u)) Q E s:=
 (PySem.strKind prog w).eqBool (strKind_is _ _ _ _) (strKind_is _ _ _ _) h
def abn{xs:Aag}{vs:Aaf}(h1:o9 xs vs):∀{ys:Aag}{us:Aaf}(i:Nat)(s:Shared),o9 ys us->(fin=decide (xs.length<ys.length))->C (fw xs ys) s->KatLex prog w A true fin C (vs.zip us) i s:=by
 induction h1 with
 |nil=>
  intro ys us i s h2 hf h;refine kat_nil ?_;rw[hf];cases h2<;>exact h
 |@cons a xs vs t r1 ih=>
  intro ys us i s h2 hf h;cases h2 with
  |nil=>
   refine kat_nil ?_;rw[hf];exact h
  |@cons b ys us u r2=>
   refine kat_cons (eq_str ?_);unfold fw at h;by_cases e:a=b
   ·rw[bj e];rw[aK e]at h;refine kat_yes (ih (i+1) s r2 ?_ h);rw[hf];simp
   ·rw[cA e];rw[aH e]at h;refine kat_no ?_;cases i with
    |zero=>exact oneLt_str h
    |succ i=>
     have e2:(true&&(i+1==0))=false:=by simp
     exact kat_one _ _ (PyProof.Rows.lt_str h)
def ac9(hx:TupIs s.heap x xs)(hy:TupIs s.heap y ys)(h:C (fw xs ys) s):wpAny 58 A (keyLt' (tuples' true) x y) C E s:=by
 obtain⟨a,o,a9,n,rfl,ho,hc,hd,hr⟩:=hx;obtain⟨b,p,itq,m,rfl,hp,hpc,hpd,hq⟩:=hy;refine kat_lt ho hd hp hpd (abn hr 0 s hq ?_ h);have len:∀{zs:Aag}{vs:Aaf},o9 zs vs->zs.length=vs.length:=by
  intro zs vs r
  induction r with
  |nil=>rfl
  |cons _ ih=>simp[ih]
 rw[len hr,len hq,bI,bI]
def WV{vs:Aaf}{rows:Aaa}(hl:vs.length=rows.length)(h2:2<=vs.length)(ht:∀(i:Nat) v r,vs[i]?=some v->rows[i]?=some r->TupIs s.heap v r)(gC:∀r∈rows,r≠[])(h:Q (tuples' true) s):wpAny 58 A (keyKind' vs.toArray) Q E s:=by
 have key:∀(vs:Aaf)(rows:Aaa),vs.length=rows.length->(∀(i:Nat) v r,vs[i]?=some v->rows[i]?=some r->TupIs s.heap v r)->(∀r∈rows,r≠[])->∃fs,KatTups s.heap vs fs/\fs.length=vs.length/\∀f∈fs,∃z t,f=Value.str z t:=by
  intro vs
  induction vs with
  |nil=>intro rows hl _ _;exact{[],KatTups.nil,9,λf hf=>nomatch hf}
  |cons v vs ih=>
   intro rows hl ht gC;cases rows with
   |nil=>simp at hl
   |cons r rows=>
    obtain⟨fs,h1,h2,h3⟩:=ih rows (by simpa using hl) (λi v' r' e1 e2=>ht (i+1) v' r' 728 (by simpa using e2)) λr' hr=>gC r' (aG _ hr);obtain⟨a,o,a9,n,rfl,ho,hc,hd,hr⟩:=ht 0 v r rfl rfl;cases r with
    |nil=>exact(gC [] aF 9).elim
    |cons z zs=>
     generalize eL:a9.toList=L at hr;cases hr with
     |@cons _ t _ Bn Uq=>
      refine{.str z t::fs,KatTups.cons ho hc hd (by rw[<-dw,eL];rfl) h1,by simp[h2],λf hf=>?_};rcases aN.mp hf with rfl|hf
      ·exact⟨z,t,rfl⟩
      ·exact h3 f hf
 obtain⟨fs,h1,h3,h4⟩:=key vs rows hl ht gC;refine kat_kind (T:=.type "str") h1 ∅ (λv hv=>?_) 7 ?_
 ·obtain⟨z,t,rfl⟩:=h4 v hv;exact Looks.of_pure rfl
 ·have e:((Value.type "str") !=Value.type "tuple")=true:=by decide
  exact h
def Sl(ho:s.heap.get? a=some (seqObj "list" vs.toArray n))(hl:vs.length=rows.length)(ht:∀(i:Nat) v r,vs[i]?=some v->rows[i]?=some r->TupIs s.heap v r)(gC:2<=rows.length->∀r∈rows,r≠[])(zg:vs.length<64)
  (k:∀(h':Heap)(tk c:Nat)(us:Aaf),h'.get? a=some (seqObj "list" us.toArray c)->(∀b o,b≠a->s.heap.get? b=some o->h'.get? b=some o)->us.Perm vs->(∀(i:Nat) v r,us[i]?=some v->(mF rows)[i]?=some r->TupIs s.heap v r)->P (.done (.ret .none)) {s with heap:=h',toks:=tk}):
  wpAny 58 A (Builtin.«list.sort» {[.ref a],[]}) P E s:=by
 by_cases c2:vs.length<2
 ·refine VX ho c2 λh' c g kp=>?_;have e:mF rows=rows:=by
   have:rows.length<2:=by lia
   match rows,this with
   |[],_=>exact(vE (.refl _) .nil).symm
   |[r],_=>exact(vE (.refl _) 59).symm
   |_::_::_,q=>simp at q;lia
  rw[e]at k;exact k h' s.toks c vs g kp (.refl _) ht
 ·have na:∀v r,TupIs s.heap v r->v≠ .ref a:=λv r x z=>by obtain⟨b,o,a9,m,rfl,hb,hc,_⟩:=x;cases z;rw[ho]at hb;cases hb;injection hc with z;exact absurd z 7
  have jB:∀s',Tk {s with heap:=gm s.heap a vs} s'->∀(i:Nat) v r,vs[i]?=some v->rows[i]?=some r->TupIs s'.heap v r:=λs' ⟨t,e⟩ i v r e1 e2=>by subst e;have x:=ht i v r e1 e2;have ne:=na v r x;obtain⟨b,o,a9,m,rfl,hb,r⟩:=x;exact{b,o,a9,m,9,aj _ (aj _ ((cE s.heap a _).extBut b o (λz=>ne (by rw[z])) hb)),r}
  have mr:∀v∈vs,∃r,r∈rows/\TupIs s.heap v r/\∀s',Tk {s with heap:=gm s.heap a vs} s'->TupIs s'.heap v r:=λv hv=>by obtain⟨i,hi,rfl⟩:=List.mem_iff_getElem.mp hv;have e1:=av hi;have e2:=av (l:=rows) (i:=i) ∅;exact{_,kH _,ht i _ _ e1 e2,λs' tk=>jB s' tk i _ _ e1 e2}
  refine aaI (κ:=tuples' true) (rk:=λv=>OF rows (rowOf s.heap v)) ho ∅ zg (λs' tk=>WV hl ∅ (jB s' tk) (gC ∅) ⟨rfl,tk⟩) (λx hx y hy s' tk=>?_) λus h' tk c po so g kp=>?_
  ·obtain⟨r,m1,t1,k1⟩:=mr x hx;obtain⟨q,m2,t2,k2⟩:=mr y hy;refine ac9 (k1 s' tk) (k2 s' tk) {?_,tk};rw[sH t1,sH t2,YD m1 m2]
  ·have er:us.map (rowOf s.heap)=mF rows:=by
    have ev:vs.map (rowOf s.heap)=rows:=by refine List.ext_getElem (by simpa using hl) λi h1 h2=>?_;rw[List.getElem_map];exact sH (ht i _ _ (av _) (av h2))
    refine vE (ev▸po.map _) (jZ.mpr (so.imp_of_mem λ{x y} hx hy q=>?_));obtain⟨r,m1,t1,k1⟩:=mr x (po.mem_iff.mp hx);obtain⟨p,m2,t2,k2⟩:=mr y (po.mem_iff.mp hy);rw[sH t1,sH t2]at q⊢;have z:=YD m2 m1;rw[cA (rG.mpr q)]at z;show(!fw _ _)=true;rw[<-z];rfl
   refine k h' tk c us g kp po λi v r e1 e2=>?_;rw[<-er,aX,e1]at e2;cases e2;obtain⟨r,m1,t1,k1⟩:=mr v (po.mem_iff.mp (aA e1));rw[sH t1];exact t1
end
end uU
namespace L2
open PySem PySem.Spec PyProof.Rows uU
abbrev fA(K:Frag)(H:Hp):Aan->Aaa->Prop:=Paired λ(y:V)(zs:Aag)=>∃a,y=.ref a/\aY K H a 648
theorem K4:∀{zs:Aag}{us:Aaf},Vals 648 us->o9 zs us
 |[],_,.nil=>.nil
 |z::r,_,.cons ⟨t,e⟩ h=>by subst e;exact .cons (K4 h)
theorem T2:∀{zs:Aag}{us:Aaf},Vals 648 us->ItemsAre (bU P w) (zs.map Sum.inr) us
 |[],_,.nil=>.nil
 |z::r,_,.cons ⟨t,e⟩ h=>by subst e;exact .cons (D8 _ _ _ _) (T2 h)
section
variable{X:Cx}{pins:Aab}{Z:St}{H:Hp}{s:Shared}
def Inv.row(I:Inv X pins Z H s)(h:aY X.K H a 648):TupIs s.heap 654 zs/\IsTupleKey 722 s.heap (zs.map Sum.inr) a:=by obtain⟨a9,r,⟨o,e,c,n,d⟩,_⟩:=I.tuple h;exact{{a,o,a9.toArray,n,9,e,c,d,by simpa using K4 r},{o,a9.toArray,n,e,c,d,by simpa using T2 r}}
theorem Inv.rows(I:Inv X pins Z H s):∀{ys:Aan}{rows:Aaa}{us:Aaf},fA X.K H ys rows->Vals ys us->∃bs:Aai,us=bs.map Value.ref/\ys=bs.map V.ref/\bs.length=rows.length/\∀(i:Nat) z b,rows[i]?=some z->bs[i]?=some b->aY X.K H b (z.map V.str)
 |_,_,_,.nil,.nil=>{[],9,9,9,λi z b e=>by simp at e}
 |_,_,_,.cons ⟨a,e,h⟩ r,.cons (b:=u) ru q=>by
  obtain⟨bs,h1,h2,h3,h4⟩:=I.rows r q;subst e;cases(show u=Value.ref a from ru);refine{a::bs,by rw[h1];rfl,by rw[h2];rfl,by simp[h3],λi z b e1 e2=>?_};cases i with
  |zero=>cases e1;cases e2;exact h
  |succ i=>exact h4 i z b 728 (by simpa using e2)
end
theorem OE{K:Frag}:∀{bs:Aai}{rows:Aaa},bs.length=rows.length->(∀(i:Nat) z b,rows[i]?=some z->bs[i]?=some b->aY K H b (z.map V.str))->fA K H (bs.map V.ref) rows
 |[],[],_,_=>.nil
 |[],_::_,h,_=>by simp at h
 |_::_,[],h,_=>by simp at h
 |b::bs,z::rows,h,k=>.cons {b,9,k 0 z b rfl rfl} (OE 717 λi z' b' e1 e2=>k (i+1) z' b' 728 (by simpa using e2))
theorem Og:∀bs:Aai,Vals (bs.map V.ref) (bs.map Value.ref)
 |[]=>.nil
 |b::bs=>.cons rfl (Og bs)
def aes:Value->Addr
 | .ref a=>a
 |_=>0
def aaO(h:us.Perm (bs.map Value.ref)):∃cs:Aai,us=cs.map Value.ref/\cs.Perm bs:=by
 have all:∀{us:Aaf},(∀u∈us,∃b,u=Value.ref b)->∃cs:Aai,us=cs.map Value.ref:=by
  intro us
  induction us with
  |nil=>intro _;exact{[],9}
  |cons u us ih=>
   intro hu;obtain⟨b,rfl⟩:=hu u aF;obtain⟨cs,rfl⟩:=ih λv hv=>hu v (aG _ hv);exact{b::cs,rfl}
 obtain⟨cs,rfl⟩:=all λu hu=>by obtain⟨b,_,e⟩:=aD.mp (h.mem_iff.mp hu);exact{b,e.symm}
 refine{cs,9,?_};have e:∀l:Aai,(l.map Value.ref).map aes=l:=λl=>by
  induction l with
  |nil=>rfl
  |cons a l ih=>exact cP (a::·) ih
 rw[<-e cs,<-e bs];exact h.map _
def E3:Aaa->Aaa
 |[]=>[]
 |r::l=>if r∈l then E3 l else r::E3 l
theorem vW(x:Aag):∀l,x∈E3 l↔x∈l
 |[]=>Ij
 |r::l=>by
  unfold E3;by_cases c:r∈l
  ·rw[aK c,vW x l,aN];exact{.inr,λh=>h.elim (λe=>e▸c) id}
  ·rw[aH c,aN,aN,vW x l]
theorem qU:∀l,(E3 l).Nodup
 |[]=>dZ
 |r::l=>by
  unfold E3;by_cases c:r∈l
  ·rw[aK c];exact qU l
  ·rw[aH c];exact dg.mpr {λh=>c ((vW r l).mp h),qU l}
def iA(l:Aaa):Aaa:=mF (E3 l)
def Ew(nd:l.Nodup)(h:∀r,r∈l↔r∈rows):mF l=iA rows:=
 D3 ((nh nd (qU rows)).mpr λr=>by rw[h,vW])
def t6(x:Aag)(l:Aaa):x∈iA l↔x∈l:=by unfold iA;rw[(mE _).mem_iff,vW]
section
variable{prog:Program}{w:World}{A:Around}{E:Aad}{s:Shared}
def NF{Q:Aad}(hl:vs.length=rows.length)(ht:∀(i:Nat) v r,vs[i]?=some v->rows[i]?=some r->TupIs s.heap v r)(gC:2<=rows.length->∀r∈rows,r≠[])(zg:vs.length<64)
  (k:∀(h':Heap)(tk c:Nat)(us:Aaf),h'.get? s.heap.objs.size=some (seqObj "list" us.toArray c)->(∀b o,s.heap.get? b=some o->h'.get? b=some o)->us.Perm vs->(∀(i:Nat) v r,us[i]?=some v->(mF rows)[i]?=some r->TupIs s.heap v r)->Q 352 {s with heap:=h',toks:=tk}):
  wpAny 58 A (newList vs>>=λl=>holding [l] (call (.builtin "list.sort") [l] [])>>=λ_=>ret l) (λfin s'=>∃v,fin=Fin.done (.ret v)/\Q v s') E s:=by
 refine ae (uo ?_ (by rw[bW];lia));have Ge:(s.heap.push (seqObj "list" vs.toArray 0)).get? s.heap.objs.size=some (seqObj "list" vs.toArray 0):=aU _ rfl;refine ae (cm (b6 slot_list_sort ⟨_,Ge,rfl⟩ entry_list_sort (Sl (s:={s with heap:=s.heap.push (seqObj "list" vs.toArray 0)}) Ge hl (λi v r e1 e2=>(ht i v r e1 e2).mono λb o e=>aj _ e) gC zg λh' tk c us g kp pm q=>{_,9,?_}) (args_list_sort _)));refine ao {_,9,k h' tk c us g (λb o e=>kp b o (aV (aW e)) (aj _ e)) pm λi v r e1 e2=>?_};have x:=q i v r e1 e2;have hv:v∈vs:=pm.mem_iff.mp (aA e1);obtain⟨j,hj⟩:=eJ.mp hv;have lJ:j<rows.length:=by have:=(aq.mp hj).1;lia
 have y:=ht j v _ hj (av lJ);obtain⟨b,o,a9,m,rfl,hb,r1⟩:=y;obtain⟨b',o',its',m',e',gd,r1'⟩:=x;cases e';have:o'=o:=by have:=aj (seqObj "list" vs.toArray 0) hb;exact bT (gd.symm.trans this)
 subst this;exact⟨b,o',its',m',rfl,hb,r1'⟩
variable{X:Cx}
def SortedTo(K:Frag)(H:Hp)(ys:Aan)(rows:Aaa)(Q:VK):Prop:=∀l zs,H l=none->fA K H zs (mF rows)->(∀z∈zs,z∈ys)->Q 727 (upd H l 702)
def Fy{pins:Aab}{Z:St}{H:Hp}{s s1:Shared}{bs:Aai}{rows:Aaa}{Q:VK}(I:Inv X pins Z H s1)(lb:bs.length=rows.length)(hb:∀(i:Nat) z b,rows[i]?=some z->bs[i]?=some b->aY X.K H b (z.map V.str))(gC:2<=rows.length->∀r∈rows,r≠[])(zg:rows.length<64)(q:SortedTo X.K H (bs.map V.ref) rows Q){A:Around}{E:Aad}:
  wpAny 56 A (newList (bs.map Value.ref)>>=λl=>holding [l] (call (.builtin "list.sort") [l] [])>>=λ_=>ret l) (λfin s'=>∃v,fin=Fin.done (.ret v)/\EP X pins Z Q v s') E s1:=by
 refine NF (rows:=rows) (by rw[ah];exact lb) (λi v r e1 e2=>?_) gC (by rw[ah];lia) λh' tk c us g kp pm Ot=>?_
 ·rw[aX]at e1;obtain⟨b,e3,rfl⟩:=bz.mp e1;exact(I.row (hb i r b e2 e3)).1
 ·obtain⟨cs,rfl,pc⟩:=aaO pm;have lc:cs.length=rows.length:=by rw[pc.length_eq,lb]
  have lz:(cs.map V.ref).length<=sizeLine:=by rw[ah,bW];lia
  refine{.ref s1.heap.objs.size,_,I.laid (t':=tk) kp (aw _) (show dP X.prog X.w _ _ _ (.lst (cs.map V.ref))from{lz,cs.map Value.ref,c,Og cs,g}),9,q _ (cs.map V.ref) 677 (OE (by rw[lc,(mE rows).length_eq]) λi z b e1 e2=>?_) λz hz=>(pc.map _).mem_iff.mp hz};have t:=Ot i (.ref b) z (by rw[aX,e2];rfl) e1;obtain⟨j,hj⟩:=eJ.mp (pc.mem_iff.mp (aA e2));have lJ:j<rows.length:=by have:=(aq.mp hj).1;lia
  have hr:=hb j _ b (av lJ) hj;have t2:=(I.row hr).1;have e:rows[j]=z:=by
   obtain⟨b1,o1,i1,n1,e1,g1,c1,d1,r1⟩:=t;obtain⟨b2,o2,i2,n2,e2,g2,c2,d2,r2⟩:=t2;cases e1;cases e2;rw[g1]at g2;cases g2;rw[d1]at d2;cases d2;have inj:∀{x y:Aag}{vs:Aaf},o9 x vs->o9 y vs->x=y:=by
    intro x y vs hx
    induction hx generalizing y with
    |nil=>intro hy;cases hy;rfl
    |cons _ ih=>intro hy;cases hy with|cons hy=>rw[ih hy]
   exact inj r2 r1
  rw[<-e];exact hr
def qI:Key->Str
 | .inr z=>z
 | .inl _=>""
def xc(z:Aag):(z.map (Sum.inr:Str->Key)).map qI=z:=by
 induction z with
 |nil=>rfl
 |cons a z ih=>exact cP (a::·) ih
end
def uD(P:Program)(w:World)(a:Addr)(us:List (Aag×Addr)):Heap->Prop:=λh=>∃o ep t,h.get? a=some o/\o.ExactSet/\o.data=.set (us.map λx=>Tb.ent (bU P w) (x.1.map Sum.inr,x.2)).toArray ep t/\t.fits us.length=true/\t.led=Tb.oj w/\Tb.oy t.place
def aaL(x:uD P w a us h):dP P w H h a (.ext (uD P w a us)):=
 {x,let⟨o,_,_,q,_⟩:=x;⟨o,q⟩,λ_ _ ⟨o,ep,t,q,r⟩ k=>{o,ep,t,k _ q,r}}
section
variable{X:Cx}{pins:Aab}{Z:St}{H:Hp}{s:Shared}{h':Heap}
def Inv.aeV(I:Inv X pins Z H s)(k:∀b u,s.heap.get? b=some u->h'.get? b=some u):Inv X pins Z H {s with heap:=h',drawn:=d',toks:=t'}:=
 I.step (ch:=[]) (λ_ z=>nomatch z) (λb o _ _ _ e _=>k b o e) (λb o _ _ _ e _=>{o.slots,k b o e}) (λ_ _ _ _ n=>n) (λb o _ e=>{o,k b o e}) (λ_ _ e=>e) (λ_ _ _ e=>e) (λb ps e=>{#[],by rw[e];simp}) (λm hm=>by obtain⟨o,es,ep,ho,r⟩:=hm;exact{o,es,ep,k _ _ ho,r}) (I.bP.kept k) I.bare
end
section
variable{X:Cx}
def JA(hA:X.A.handled=none)(hu:X.A.units+64<cLine):ic X (.type "set") (λxs H Q=>∃p ys rows,xs=[.ref p]/\bf X.K H p ys/\fA X.K H ys rows/\rows.length<=1000/\∀a us,H a=none->(us.map (·.1)).Nodup->(∀r,r∈us.map (·.1)↔r∈rows)->us.length<=rows.length->(∀x∈us,aY X.K H x.2 (x.1.map V.str)/\V.ref x.2∈ys)->Q 654 (upd H a (.ext (uD X.prog X.w a us)))):=by
 intro pins s Z H xs us Q I r h;obtain⟨p,ys,rows,rfl,hq,hr,hz,q⟩:=h;obtain⟨u,rfl,rx⟩:=jH r;cases rx;obtain⟨a9,r',pl,_⟩:=I.list hq;obtain⟨bs,rfl,rfl,lb,hb⟩:=I.rows hr r';refine Tb.Vn (knd:=bU X.prog X.w) (ks:=rows.map λz=>z.map Sum.inr) (bs:=bs) hA (by show X.A.units+1+1+1<cLine;lia) pl.isList 59 (by rw[ah,lb]) (λi k b e1 e2=>?_) ∅ λh' tk o ep t xs S hl hH kp=>?_
 ·rw[aX]at e1;obtain⟨z,e3,rfl⟩:=bz.mp e1;exact(I.row (hb i z b e3 e2)).2
 ·have inj:∀x∈xs,∃(j:Nat)(z:Aag),rows[j]?=some z/\x.1=z.map Sum.inr/\bs[j]?=some x.2:=λx hx=>by obtain⟨j,j1,j2⟩:=hH.Kg x hx;rw[aX]at j1;obtain⟨z,e3,e4⟩:=bz.mp j1;exact{j,z,e3,e4.symm,j2}
  have back:(xs.map λx=>(x.1.map qI,x.2)).map (λx=>((x.1.map Sum.inr:List Key),x.2))=xs:=by
   rw[cw];have:∀x∈xs,((λx:Aag×Addr=>((x.1.map Sum.inr:List Key),x.2))∘λx:List Key×Addr=>(x.1.map qI,x.2)) x=x:=λx hx=>by obtain⟨j,z,_,e,_⟩:=inj x hx;show((x.1.map qI).map Sum.inr,x.2)=x;rw[e,xc];exact Fo e.symm rfl
   rw[b8 this,List.map_id']
  have fst:∀r,r∈(xs.map λx=>(x.1.map qI,x.2)).map (·.1)↔r∈rows:=λr=>by
   rw[cw,aD];constructor
   ·rintro⟨x,hx,rfl⟩;obtain⟨j,z,e1,e,_⟩:=inj x hx;show x.1.map qI∈rows;rw[e,xc];exact aA e1
   ·intro hr;have:r.map Sum.inr∈xs.map (·.1):=(hH.mem _).mpr (by
     rw[cU (by rw[ah,lb];exact aw _)];exact aD.mpr ⟨r,hr,rfl⟩)
    obtain⟨x,hx,e⟩:=aD.mp this;exact{x,hx,by show x.1.map qI=r;rw[e,xc]}
  have nd:((xs.map λx=>(x.1.map qI,x.2)).map (·.1)).Nodup:=by
   have h1:=S.nd;rw[<-back,cw]at h1;have h2:((xs.map λx=>(x.1.map qI,x.2)).map ((·.1)∘λx:Aag×Addr=>((x.1.map Sum.inr:List Key),x.2)))=((xs.map λx=>(x.1.map qI,x.2)).map (·.1)).map λz=>z.map Sum.inr:=by simp only[cw];rfl
   rw[h2]at h1;exact(jZ.mp h1).imp λne e=>ne (by rw[e])
  have hd:o.data=.set ((xs.map λx=>(x.1.map qI,x.2)).map λx=>Tb.ent 722 (x.1.map Sum.inr,x.2)).toArray ep t:=by rw[S.data];congr 2;have:=cP (List.map (Tb.ent 722)) back;rw[cw]at this;exact this.symm
  refine{352,_,I.laid kp (aw _) (aaL {o,ep,t,S.ob,S.ex,hd,?_,hl,S.tab.rise}),9,q _ _ 677 nd fst ?_ λx hx=>?_}
  ·have:=S.fits;simpa using this
  ·rw[ah];have:=hH.len;lia
  ·obtain⟨y,hy,rfl⟩:=aD.mp hx;obtain⟨j,z,e1,e,e2⟩:=inj y hy;refine{?_,aD.mpr {y.2,aA e2,9}};rw[e,xc];exact hb j z y.2 e1 e2
def zm(hA:X.A.handled=none):ic X (.builtin "sorted") (λxs H Q=>∃a us ys,xs=[.ref a]/\H a=some (.ext (uD X.prog X.w a us))/\(∀x∈us,aY X.K H x.2 (x.1.map V.str)/\V.ref x.2∈ys)/\(2<=us.length->∀x∈us,x.1≠[])/\us.length<64/\SortedTo X.K H ys (us.map (·.1)) Q):=by
 intro pins s Z H xs us Q I r h;obtain⟨a,Ye,ys,rfl,ha,hx,gC,zg,q⟩:=h;obtain⟨u,rfl,rx⟩:=jH r;cases rx;obtain⟨⟨o,ep,t,ho,hex,hd,hf,hl,ae2⟩,_⟩:=(show dP X.prog X.w H s.heap a (.ext (uD X.prog X.w a Ye))from I.bP a _ ha);refine kg Eb BN Cq (CH _) ?_;unfold Builtin.«sorted»;refine ae (m:=checkCount "sorted" 1 1 _) 660;refine ae (Tb.N4 (A:=X.A.in1) (by simpa using hA) {⟨o,ho,hex,hd⟩,by simpa using hf,λcf _=>{by rw[hl,Tb.oj,cf];rfl,ae2}} (by simp;lia) λh' tk d vs pm kp=>?_);have e0:(Ye.map λx=>Tb.ent 722 (x.1.map Sum.inr,x.2)).toArray.toList.map (·.2)=Ye.map λx=>Value.ref x.2:=by simp[uZ]
 rw[e0]at pm;obtain⟨Bn,pv,rfl⟩:=Lk pm rfl;have lb:(Bn.map (·.2)).length=(Bn.map (·.1)).length:=by rw[ah,ah]
 have lu:=pv.length_eq;have e1:(Bn.map λx=>Value.ref x.2)=(Bn.map (·.2)).map Value.ref:=by rw[cw];rfl
 rw[e1];have sc:mF (Bn.map (·.1))=mF (Ye.map (·.1)):=D3 (pv.map _);refine Fy (s:=s) (I.aeV (t':=tk) (d':=d) kp) lb (λi z b e2 e3=>?_) (λh2 r hr=>?_) (by rw[ah];lia) λl zs f9 hz hm=>?_
 ·rw[aX]at e2 e3;obtain⟨x,ex,rfl⟩:=bz.mp e2;rw[ex]at e3;cases e3;exact(hx x (pv.mem_iff.mp (aA ex))).1
 ·obtain⟨x,hxm,rfl⟩:=aD.mp hr;exact gC (by rw[ah]at h2;lia) x (pv.mem_iff.mp hxm)
 ·rw[sc]at hz;refine q l zs f9 hz λz hzm=>?_;obtain⟨b,hb,rfl⟩:=aD.mp (hm z hzm);obtain⟨x,hxm,rfl⟩:=aD.mp hb;exact(hx x (pv.mem_iff.mp hxm)).2
def Cy(hA:X.A.handled=none):ic X (.builtin "sorted") (λxs H Q=>∃(a:Addr)(kvs:List (Key×V))(zs:Aag),xs=[.ref a]/\H a=some 715/\kvs.map (·.1)=zs.map Sum.inr/\zs.length<64/\∀l,H l=none->Q 727 (upd H l (.lst ((eW zs).map V.str)))):=by
 intro pins s Z H xs us Q I r h;obtain⟨a,kvs,zs,rfl,ha,hk,zg,q⟩:=h;obtain⟨u,rfl,ru⟩:=jH r;cases ru;obtain⟨hz,lo,vs,rel,o,es,ep,m⟩:=xu I.bP ha;have at':s.heap.DictAt 722 a vs ep:=⟨o,es,m⟩;have hl:kvs.length=vs.length:=rel.length;have rZ:kvs.map (·.1)=vs.map (·.1):=rel.keys;refine kg Eb BN Cq (CH _) ?_;unfold Builtin.«sorted»;refine ae (m:=checkCount "sorted" 1 1 _) 660;refine ae (PySem.W.kdu_collect (A:=X.A.in1) (PySem.W.kdl_dict lo) (by simpa using hA) at' (by rw[<-hl];exact hz) λh' tk acc kp it=>?_);have hS:StrsAre acc.toList zs:=by
  have len:acc.toList.length=zs.length:=by have e1:=cP List.length hk;simp only[ah]at e1;rw[bI,it.1];lia
  have at_:∀(j:Nat)(v:Value),acc.toList[j]?=some v->∃t,v=.str (zs.getD j "") t:=λj v e=>by
   obtain⟨k,y,e3,e4⟩:=it.2 j v (by rw[<-dw];exact e);have e5:(zs.map (Sum.inr:Str->Key))[j]?=some k:=by rw[<-hk,rZ,aX,e3];rfl
   rw[aX]at e5;obtain⟨z,e6,rfl⟩:=bz.mp e5;have e8:RelV (kV (Sum.inr z)) v:=sI (k:=Sum.inr z) e4;obtain⟨t,e7⟩:=(show∃t,v=Value.str z t from e8);exact{t,by rw[e7,cB,e6];rfl}
  have go:∀(us:Aaf)(zs:Aag),us.length=zs.length->(∀(j:Nat)(v:Value),us[j]?=some v->∃t,v=.str (zs.getD j "") t)->StrsAre us zs:=by
   intro us
   induction us with
   |nil=>intro zs hl _;rw[dC.mp hl.symm];exact .nil
   |cons u us ih=>
    intro zs hl hk;cases zs with
    |nil=>simp at hl
    |cons z zs=>
     obtain⟨t,rfl⟩:=hk 0 u rfl;exact .cons z t (ih zs (by simpa using hl) λj v e=>by obtain⟨t,e'⟩:=hk (j+1) v (by simpa using e);exact{t,by simpa using e'})
  exact go _ _ len at_
 have agR:acc.toList.length<64:=by have:=hS.strs;rw[<-this,ah]at zg;exact zg
 refine ae (uo ?_ (by rw[bW];lia));have Ge:(h'.push 659).get? h'.objs.size=some 659:=aU _ rfl;have I1:Inv X pins Z H {s with heap:=h',toks:=tk}:=I.kept kp;refine ae (cm (b6 slot_list_sort ⟨_,Ge,rfl⟩ entry_list_sort (list_sort_treeK strKind_oneLt (s:={s with heap:=h'.push 659,toks:=tk}) Ge hS.keysOf (λahr ahq rest e=>keyKind_strs (by rw[<-e];exact hS)) agR λmT hp hs=>{_,9,?_}) (args_list_sort _)));obtain⟨ss',h1,h2,h3⟩:=sorted_out_str hS hp hs;have e:=KR h2 h3;subst e;generalize (arrOf mT).map (·.2)=out at h1;have lt:h'.objs.size<(h'.push 659).objs.size:=aW Ge;have ln:((eW zs).map V.str).length<=sizeLine:=by rw[ah,(hZ zs).length_eq];exact bC (bu ∅)
 obtain⟨n,he⟩:∃n,(sortedHeap (h'.push 659) h'.objs.size acc.toList out).get? h'.objs.size=some (seqObj "list" out n):=by obtain⟨e1,y9⟩:∃e1,((h'.push 659).update h'.objs.size (Obj.mapSeq λ_=>(#[]:Aak))).get? h'.objs.size=some (seqObj "list" #[] e1):={_,get?_update_seq Ge λ_=>#[]};have ho3:=aj (seqObj "list" #[] 0) (aj (seqObj "tuple" acc.toList.toArray 0) y9);exact{_,get?_update_seq ho3 λ_=>out}
 have old:∀b o,h'.get? b=some o->(sortedHeap (h'.push 659) h'.objs.size acc.toList out).get? b=some o:=λb o e=>by have nb:b≠h'.objs.size:=aV (aW e);have g1:=aj 659 e;have g2:=(cE (h'.push 659) h'.objs.size (Obj.mapSeq λ_=>(#[]:Aak))).extBut b o nb g1;have g3:=aj (seqObj "list" #[] 0) (aj (seqObj "tuple" acc.toList.toArray 0) g2);exact(cE _ h'.objs.size (Obj.mapSeq λ_=>out)).extBut b o nb g3
 refine ao {_,9,.ref h'.objs.size,_,I1.laid (t':=tk) old (aw _) (show dP X.prog X.w _ _ _ (.lst ((eW zs).map V.str))from{ln,out.toList,n,Ex h1,?_}),9,q _ 716};exact he
end
def Y6(hl:714=true:=by rfl)(hb:attributeBase (.Name d pd) "get" X.env (eval (.Name d pd) X.env)=eval (.Name d pd) X.env:=by rfl):M2 X (.Name d pd) "get" apos 674 (.List [] pl) fS:=⟨hb,rfl,hl,rfl⟩
section
variable{prog:Program}{w:World}{A:Around}{E:Aad}{s:Shared}{d it:Addr}{o:Obj}{es:Array DictEntry}{ep i:Nat}
def OC(lo:(d==sysModules)=false)(ho:s.heap.get? d=some o)(hx:o.ExactDict)(hd:o.data=.dict es ep)
  (q:Q 352 {s with heap:=s.heap.push {cls:=.type "dict_keyiterator",data:=.fields #[.ref d,.int 0 0,.int es.size 0,.int ep 0]}}):wpAny 58 A (pyIter 700) Q E s:=by
 have ty:s.TypeIs 700 "dict":={o,ho,hx.1};refine uL ty yo (b6 yo ty PySem.F.entry_dict_iter ?_ (PySem.F.args_dict_iter_1 _));refine ae (ae (jG ty 660));show wpAny _ _ (Builtin.Dict.showsAll d>>=_) _ _ s;unfold Builtin.Dict.showsAll;rw[lo];exact ae (ao (ae (lN ho hd (ae (xa ho hd (ae (cM (ao {_,9,"dict_keyiterator",_,{_,676,9},fD.lookup,q}))))))))
def acz(hit:s.heap.IsKeyIter it d i es.size ep)(ho:s.heap.get? d=some o)(hd:o.data=.dict es ep)(hi:i<es.size)
  (q:∀h',h'.IsKeyIter it d (i+1) es.size ep->Heap.SameBut it s.heap h'->Q (some es[i].key) {s with heap:=h'}):wpAny 58 A (pyNext (.ref it)) Q E s:=by
 obtain⟨oi,Jg,ci,di⟩:=id hit;refine ae (hX (wpAny_callSpecial?_slot hit.typeIs fD (b6 fD hit.typeIs pb ?_ (oB _))));refine ae (ao (ae (ae (ae (iW hit.typeIs 660)))));refine ae (lT Jg di ?_);have own:Builtin.Dict_items.ownsTuple "dict_keyiterator"=false:=by decide
 show wpAny _ _ (if(Value.ref d==Value.none)=true then _ else _) _ _ s;refine ae (ao (ae (lN ho hd ?_)));rw[aH 59];refine ae (ao (ae (xa ho hd ?_)));rw[aH 59];refine ao ?_;simp only[show ¬((i:Int)<0)from by lia,kA,eR,cH hi];refine ae (ae (iW hit.typeIs (ao (ae (yD hit.typeIs ?_)))));show wpAny _ _ (setField (.ref it) 1 (rawInt ((i:Int)+1))>>=_) _ _ s;refine ae (gL Jg di 59 ?_);have Q0:(s.heap.update it (Obj.mapFields (·.setIfInBounds 1 (rawInt ((i:Int)+1))))).IsKeyIter it d (i+1) es.size ep:=
  {_,eK _ Jg (zu (oF di _)),(DO ..).trans ci,by rw[oF di];simp[rawInt]}
 refine ae (cm (ae (yD Q0.typeIs ?_)));exact ao (ao {_,9,ao (q _ Q0 (cE ..))})
def SD(hh:A.handled=none)(hit:s.heap.IsKeyIter it d i es.size ep)(ho:s.heap.get? d=some o)(hd:o.data=.dict es ep)(hi:es.size<=i)
  (q:∀h',(∀b x,b≠it->s.heap.get? b=some x->h'.get? b=some x)->Q none {s with heap:=h'}):wpAny 58 A (pyNext (.ref it)) Q E s:=by
 obtain⟨oi,Jg,ci,di⟩:=id hit;refine ae (hX (wpAny_callSpecial?_slot hit.typeIs fD (b6 fD hit.typeIs pb ?_ (oB _))));refine ae (ao (ae (ae (ae (iW hit.typeIs 660)))));refine ae (lT Jg di ?_);have own:Builtin.Dict_items.ownsTuple "dict_keyiterator"=false:=by decide
 show wpAny _ _ (if(Value.ref d==Value.none)=true then _ else _) _ _ s;refine ae (ao (ae (lN ho hd ?_)));rw[aH 59];refine ae (ao (ae (xa ho hd ?_)));rw[aH 59];refine ao ?_;simp only[show ¬((i:Int)<0)from by lia,kA,eR,yy hi];refine ae (ae (iW hit.typeIs 660));show wpAny _ _ (setField (.ref it) 0 .none>>=_) _ _ s;refine ae (gL Jg di 59 ?_);refine Tb.GS (show A.in1.handled=none from hh) λh' e kp agb=>?_;obtain⟨oe,he,ce⟩:=agb;exact ae (jc ⟨oe,he,ce⟩ oX (ao (q _ λb x nb g=>kp b x ((cv _ _ (cL nb)).trans g))))
end
def DX(P:Program)(w:World)(d:Addr)(kvs:List (Key×V))(ok ov:V):Heap->Prop:=λh=>(d==sysModules)=false/\∃o es ep vs e,h.get? d=some o/\o.ExactDict/\o.data=.dict (es.push e) ep/\KV kvs vs/\KeysOf (bU P w) es/\Pairs (bU P w) es.toList vs/\(vs.map (·.1)).Nodup/\RelV ok e.key/\RelV ov e.val/\kvs.length<=1000
section
variable{X:Cx}{pins:Aab}{Z:St}{H:Hp}{s:Shared}
def Inv.Pu(I:Inv X pins Z H s)(hd:H d=some (.ext φ))(ho:s.heap.get? d=some o):Inv X pins Z (upd H d (.gE o (.ext φ))) s:=by
 have nd:∀b u,H b=some u->(∀l,u≠ .ext l)->b≠d:=λb u q n z=>by rw[z,hd]at q;exact n φ (bT q).symm
 refine I.un {λb u e _ _ _=>e,λb u e _ _ _=>{u.slots,e},λb u e n _=>by rw[aL ((λb q z=>by rw[z,hd]at q;cases q) b n)];exact n,λb u e _=>⟨u,e⟩,λb xs q=>by rw[aL (nd b _ q λl z=>by cases z)];exact q,λb u v q=>by rw[aL (nd b _ q λl z=>by cases z)];exact q,λb ps q=>{#[],by rw[aL (nd b _ q λl z=>by cases z),q];simp}} λb u g=>?_;by_cases hb:b=d
 ·subst hb;rw[au]at g;cases g;exact{ho,I.bP b _ hd}
 ·rw[aL hb]at g;exact(I.bP b u g).qJ (λc v hc q=>q) (λc q=>by rw[aL (nd c _ q λl z=>by cases z)];exact q) λc ys q=>by rw[aL (nd c _ q λl z=>by cases z)];exact q
def Inv.P9(I:Inv X pins Z H s)(hd:H d=some (.gE o u))(hn:∀u v,X.aae d≠some (.gE u v)):Inv X pins Z (upd H d u) s:=by
 have nd:∀b u,H b=some u->(∀v l,u≠ .gE v l)->b≠d:=λb u q n z=>by rw[z,hd]at q;exact n _ _ (bT q).symm
 have gC:∀b,H b=none->b≠d:=λb q z=>by rw[z,hd]at q;cases q
 refine{I.ok,I.os,I.bare,{I.base.keep,I.base.slot,λb u e n hx=>?_,I.base.there,λb xs q=>?_,λb u v q=>?_,λb ps q=>?_},I.loc,I.cell,?_,λx c e=>?_,689,λb v g=>?_,I.len}
 ·have z:=I.base.free b u e n hx;rw[aL (gC b z)];exact z
 ·have z:=I.base.fk b xs q;rw[aL (nd b _ z λv l t=>by cases t)];exact z
 ·have z:=I.base.uz b u v q;rw[aL (show b≠d fromλt=>hn u v (t▸q))];exact z
 ·obtain⟨m,z⟩:=I.base.zF b ps q;exact{m,by rw[aL (nd b _ z λv l t=>by cases t)];exact z}
 ·rw[aL (gC _ I.free)];exact I.free
 ·rw[aL (gC _ (I.nB x c e))];exact I.nB x c e
 ·obtain⟨a1,a2,a3,a4,a5⟩:=I.pin p hp;exact{a1,by rw[aL (gC _ a2)];exact a2,a3,a4,a5}
 ·by_cases hb:b=d
  ·subst hb;rw[au]at g;cases g;exact((I.bP b _ hd).2).qJ (λc v hc q=>q) (λc q=>by rw[aL (nd c _ q λv l z=>by cases z)];exact q) λc ys q=>by rw[aL (nd c _ q λv l z=>by cases z)];exact q
  ·rw[aL hb]at g;exact(I.bP b v g).qJ (λc v hc q=>q) (λc q=>by rw[aL (nd c _ q λv l z=>by cases z)];exact q) λc ys q=>by rw[aL (nd c _ q λv l z=>by cases z)];exact q
end
inductive acd(t:TE)(Z:St)(H:Hp)(Q:VK):Prop
 |mk (d:Addr) (_:(∀u v,H d≠some (.gE u v))) (_:t Z H λv H'=>∃o u,H' d=some (.gE o u)/\Q v (upd H' d u))
def Wo(h:PE X e t):PE X e (acd t):=by intro pins s Z H Q I ht;obtain⟨d,hd,ht⟩:=ht;refine de (h pins s Z H _ I ht) λv s1 x H1 I1 r1 ⟨o,u,e,q⟩=>{x,_,I1.P9 e (λu v e=>hd u v (I.base.uz d u v e)),r1,q}
def Vz(d:Addr)(o:Obj)(u:HO)(kvs:List (V×V)):It:=
 {λi H=>H d=some (.gE o u)/\i<kvs.length,λi H x H'=>H'=H/\∃kv,kvs[i]?=some kv/\x=kv.1,λi H=>H d=some (.gE o u)/\kvs.length<=i}
def X5(o:Obj)(es:Array DictEntry)(ep:Nat)(kvs:List (V×V)):Prop:=o.ExactDict/\o.data=.dict es ep/\Paired (λ(p:V×V)(e:DictEntry)=>RelV p.1 e.key/\RelV p.2 e.val) kvs es.toList
def R4{K:Frag}(m:X5 o es ep kvs):Turn P w K tg (Vz d o u kvs) [it] it (λi h=>h.IsKeyIter it d i es.size ep) where
 mem:=by simp
 obj:=λi h st b hb=>by
  have e:b=it:=by simpa using hb
  subst e;obtain⟨v,e,c,q⟩:=st;exact{v,e,λv z=>by rw[q]at z;cases z}
 keep:=λi h h' st k=>by obtain⟨v,e,r⟩:=st;exact{v,k it 59 v e,r}
 item:=by
  intro X hP hw hK hc i pins s Z H E I hf st hg;obtain⟨hd,hi⟩:=hg;have hl:kvs.length=es.size:=by rw[bb m.2.2,bI]
  obtain⟨f0,f1,f2,f3,f4,f5⟩:=hf it 59;obtain⟨kv,rY⟩:∃kv,kvs[i]?=some kv:={_,av hi};have hie:i<es.size:=by lia
  obtain⟨e,he,r⟩:=Paired.at' m.2.2 rY;have ee:es[i]=e:=by rw[dw,cH hie]at he;exact bT he
  refine acz st ((I.bP d _ hd).1) m.2.1 hie λh' mT sb=>?_;obtain⟨v,ev,c,q⟩:=id mT;exact{_,9,Gj ev c q 7 {kv.1,H,724,ee▸r.1,⟨rfl,kv,rY,rfl⟩,mT,λb hb=>(hf b hb).1}}
 done:=by
  intro X hP hw hK hc i pins s Z H E I hf st hg;obtain⟨hd,hi⟩:=hg;have hl:kvs.length=es.size:=by rw[bb m.2.2,bI]
  obtain⟨f0,f1,f2,f3,f4,f5⟩:=hf it 59;exact SD (I.ok.hd hc) st ((I.bP d _ hd).1) m.2.1 ∅ λh' eb=>{9,726}
 self:=λ_ _ _ _ _ st h=>wpAny_pyIter_keyiter st h
def RQ(P:Program)(w:World)(d:Addr)(u:HO)(kvs:List (V×V)):Prop:=(∃l,u=.dK l/\kvs=l.map λp=>(kV p.1,p.2))\/∃l ok ov,u=.ext (DX P w d l ok ov)/\kvs=(l.map λp=>(kV p.1,p.2))++[(ok,ov)]
def FR(rel:KV kvs vs)(hp:Pairs (bU P w) es vs):Paired (λ(p:V×V)(e:DictEntry)=>RelV p.1 e.key/\RelV p.2 e.val) (kvs.map λp=>(kV p.1,p.2)) es:=by
 induction hp generalizing kvs with
 |nil=>cases rel;exact .nil
 |@cons e kv es vs hk hv _ ih=>
  cases rel with
  |@cons p _ ps _ hr t=>exact .cons {sI (hr.1▸hk),hv▸hr.2} (ih t)
def PD(x:dP P w H h d u)(hv:RQ P w d u kvs):(d==sysModules)=false/\∃o es ep,h.get? d=some o/\X5 o es ep kvs:=by
 rcases hv with⟨l,rfl,rfl⟩|⟨l,ok,ov,rfl,rfl⟩
 ·obtain⟨_,lo,vs,rel,o,es,ep,ga,hx,hd,_,hp,_⟩:=x;exact{lo,o,es,ep,ga,hx,hd,FR rel hp}
 ·obtain⟨⟨lo,o,es,ep,vs,e,ga,hx,hd,rel,_,hp,_,r1,r2,_⟩,_⟩:=x;refine{lo,o,_,ep,ga,hx,hd,?_};rw[DU];exact yp (FR rel hp) ⟨r1,r2⟩
def Inv.abz(I:Inv X pins Z H s)(hd:H d=some u)(hv:RQ X.prog X.w d u kvs)(ho:s.heap.get? d=some o):Inv X pins Z (upd H d (.gE o u)) s:=by
 rcases hv with⟨l,rfl,rfl⟩|⟨l,ok,ov,rfl,rfl⟩
 ·exact I.freeze hd ho
 ·exact I.Pu hd ho
inductive abv(P:Program)(w:World)(R:It->Hp->Prop)(x:V)(H1:Hp):Prop
 |mk d u kvs (_:x=.ref d) (_:H1 d=some u) (_:RQ P w d u kvs) (_:∀o,R (Vz d o u kvs) (upd H1 d (.gE o u)))
def adw(P:Program)(w:World)(tl:TE):TI:=λZ H R=>tl Z H λx H1=>abv P w R x H1
def Wm(hl:PE X l tl):PI X tg l (adw X.prog X.w tl):=by
 intro pins s Z H R I h;refine de (hl pins s Z H _ I h) λv s1 x H1 I1 r1 q1=>?_;obtain⟨d,u,kvs,e,hd,hv,q⟩:=q1;subst e;cases r1;obtain⟨lo,o,es,ep,ga,m⟩:=PD (I1.bP d _ hd) hv;refine OC lo ga m.1 m.2.1 ?_;have I2:=I1.abz hd hv ga;refine{s1.heap.objs.size,[s1.heap.objs.size],_,_,_,9,I2.kept λb o e=>aj _ e,R4 m,{_,676,9,9},692,q o};have e:b=s1.heap.objs.size:=by simpa using hb
 subst e;exact I2.v9 (aw _) (I2.bP.fresh (aw _))
inductive ace(t:TS)(D:Ends)(Z:St)(H:Hp):Prop
 |mk (d:Addr) (_:(∀u v,H d≠some (.gE u v))) (_:t {D with nx:=λσ' H'=>∃o u,H' d=some (.gE o u)/\D.nx σ' (upd H' d u),rt:=λv H'=>∃o u,H' d=some (.gE o u)/\D.rt v (upd H' d u)} Z H)
def Wj{st:Stmt}(h:PS X st t):PS X st (ace t):=by
 intro pins s Z H D I ht;obtain⟨d,hd,ht⟩:=ht;have h0:=λu v e=>hd u v (I.base.uz d u v e);refine gj (h pins s Z H _ I ht) λf s1 q=>?_;cases f with
 |next=>
  obtain⟨σ',H',J,o,u,e,n⟩:=q;exact{σ',_,J.P9 e h0,n}
 |brk=>exact q
 |cont=>exact q
 |ret u=>
  obtain⟨v,σ',H',J,r,o,u',e,n⟩:=q;exact{v,σ',_,J.P9 e h0,r,n}
section
variable{d:Addr}{o:Obj}{u:HO}{kvs:List (V×V)}
def UY{g:TG}{tb:TS}{D:Ends}(Pv:Nat->St->Hp->Prop)(h0:Pv 0 Z H)(hl:∀i Z H,i<=kvs.length->Pv i Z H->H d=some (.gE o u))
  (hs:∀i kv Z H,kvs[i]?=some kv->Pv i Z H->g kv.1 Z H λσ2 H2=>tb {D with nx:=Pv (i+1),ct:=Pv (i+1),bk:=D.nx} σ2 H2) (hd:∀Z H,Pv kvs.length Z H->D.nx Z H):vq (Vz d o u kvs) g tb D Z H:=by
 refine Cn Pv h0 (λi Z H hi p=>{{hl i Z H (bC hi) p,hi},?_}) λZ H p=>{{hl _ Z H (aw _) p,aw _},hd Z H p};rintro x H' ⟨rfl,kv,hk,rfl⟩;exact hs i kv Z _ hk p
def RF(Pv:Nat->Aan->Hp->Prop)(hx:kvs.length<sizeLine)(h0:Pv 0 [] H1)(hl:∀i ys H,i<=kvs.length->Pv i ys H->H d=some (.gE o u)/\ys.length<=i)
  (hs:∀(i:Nat)(kv:V×V)(ys:Aan)(H:Hp)(N:Aan->Hp->Prop),kvs[i]?=some kv->Pv i ys H->(∀iq H',Pv (i+1) iq H'->N iq H')->
   tt (some kv.1::slotsOf fr Z) H λb H4=>if b=true then te (some kv.1::slotsOf fr Z) H4 (λy H5=>N (ys++[y]) H5)else N ys H4)
  (hd:∀ys H,Pv kvs.length ys H->∀l,H l=none->R l ys H):AL (Vz d o u kvs) fr tt te Z H1 R:=by
 refine{λi m ys H=>m=kvs.length -i/\i<=kvs.length/\Pv i ys H,{kvs.length,59,aO _,h0},?_};rintro i m ys H ⟨rfl,hi,p⟩;obtain⟨q,hy⟩:=hl i ys H hi p;by_cases bQ:i<kvs.length
 ·refine .inr {⟨q,bQ⟩,8,?_};rintro v H3 ⟨rfl,kv,rY,rfl⟩;exact hs i kv ys H3 (λiq H'=>∃m',m'<kvs.length -i/\m'=kvs.length -(i+1)/\i+1<=kvs.length/\Pv (i+1) iq H') rY p λiq H' p'=>{_,8,9,bQ,p'}
 ·have e:i=kvs.length:=by lia
  subst e;exact .inl {{q,aw _},8,hd ys H p}
def qQ(r:Aag):PyData:=.tuple (r.map PyData.str)
def mH(rows:Aaa):PyData:=.list (rows.map qQ)
def Nv(rows:Aaa):Prop:=∀r∈rows,∀z∈r,PyData.strOk z=true
variable{K:Frag}{H:Hp}
def ad7(h:∃a,y=.ref a/\aY K H a (r.map V.str)):Dt K H (qQ r) y:=by obtain⟨a,rfl,h⟩:=h;unfold qQ;exact{a,_,9,h,ka r}
def Rv:∀{ys:Aan}{rows:Aaa},fA K H ys rows->mS K H (rows.map qQ) ys:=by
 intro ys rows h
 induction h with
 |nil=>rw[fI,mS]
 |cons hr _ ih=>
  exact{_,_,9,ad7 hr,ih}
def Dy(h:bf K H p ys)(hr:fA K H ys rows):Dt K H (mH rows) 666:=by unfold mH;exact{p,ys,9,h,Rv hr}
def abB(r t:Aag):PyData.eqv (qQ r) (qQ t)=decide (r=t):=by unfold qQ;rw[PyData.eqv,kq]
theorem Eo:∀a b:Aaa,PyData.eqvAll (a.map qQ) (b.map qQ)=decide (a=b)
 |[],[]=>by simp[PyData.eqvAll]
 |[],_::_=>by simp[PyData.eqvAll]
 |_::_,[]=>by simp[PyData.eqvAll]
 |a::r,b::t=>by simp only[bt,PyData.eqvAll,abB,Eo r t];by_cases h:a=b<;>by_cases h':r=t<;>simp[h,h']
def M4(a b:Aaa):PyData.eqv (mH a) (mH b)=decide (a=b):=by unfold mH;rw[PyData.eqv,Eo]
theorem LV:∀rows:Aaa,Nv rows->PyData.canLayAll0 (rows.map qQ)=true
 |[],_=>rfl
 |z::r,h=>by have h1:(qQ z).canLay0=true:=qg z (h z aF);simp[PyData.canLayAll0,h1,(LV r λy hy=>h y (aG _ hy))]
theorem Gu:∀rows:Aaa,PyData.depthAll (rows.map qQ)<=1
 |[]=>by simp[PyData.depthAll]
 |z::r=>by
  have h1:(qQ z).depth=1:=by simp[qQ,PyData.depth,mL]
  have:=Gu r;simp[PyData.depthAll,h1];lia
def tE(h:Nv rows):SeqAt.shaped (mH rows)=true:=by have:=Gu rows;simp[SeqAt.shaped,mH,PyData.canLay0,PyData.depth,LV rows h];lia
inductive NK:Type
 |cz
 |key (k:Key)
 |tup (ks:List NK)
noncomputable instance:DecidableEq NK:=λa b=>Classical.propDecidable (a=b)
end
section
variable(P:Program)(w:World)
mutual
inductive lQ(h:Heap):NK->Value->Prop
 |cz:lQ h .cz .none
 |key {k:Key} {v:Value}:(bU P w).is k v=true->lQ h (.key k) v
 |tup {ks:List NK} {a:Addr} {o:Obj} {items:Aak} {n:Nat}:h.get? a=some o->o.cls=.type "tuple"->o.data=.seq items n->md h ks items.toList->lQ h (.tup ks) (.ref a)
inductive md(h:Heap):List NK->Aaf->Prop
 |nil:md h [] []
 |cons {k:NK} {v:Value} {ks:List NK} {vs:Aaf}:lQ h k v->md h ks vs->md h (k::ks) (v::vs)
end
mutual
def NK.hash:NK->Int
 | .cz=>0xFCA86420
 | .key k=>(bU P w).hash k
 | .tup ks=>reduceHash (Builtin.Tuple.tupleHashOf (NK.hashes ks))
def NK.hashes:List NK->List Int
 |[]=>[]
 |k::ks=>NK.hash k::NK.hashes ks
end
mutual
def NK.draws:NK->Nat
 | .cz=>1
 | .key _=>1
 | .tup ks=>NK.ox ks+1
def NK.ox:List NK->Nat
 |[]=>0
 |k::ks=>NK.draws k+NK.ox ks
end
mutual
def NK.deep:NK->Nat
 | .cz=>0
 | .key _=>0
 | .tup ks=>NK.o6 ks+1
def NK.o6:List NK->Nat
 |[]=>0
 |k::ks=>max (NK.deep k) (NK.o6 ks)
end
end
section
variable{P:Program}{w:World}{A:Around}{E:Aad}{s:Shared}
def Q7(q:Q 0xFCA86420 {s with toks:=s.toks+1}):wpAny 661 A (pyHash .none) Q E s:=by have ty:s.TypeIs .none "NoneType":=9;refine ae (wpAny_cRoomFor_byValue 9 (ae (iG ty jT.lookup ?_)));refine ae (iG ty jT.lookup ?_);refine ae (wpAny_callSpecialIfBoundUnlessNone?_slot ty jT (b6 jT ty PySem.F.entry_NoneType_hash (show wpAny _ _ (do ret (<-mkInt 0xFCA86420)) _ _ s from wpAny_ret_mkInt ?_) (PySem.F.args_NoneType_hash_1 _)));exact ao q
def NK.Xd(ks:List NK):NK.hash P w (.tup ks)=reduceHash (Builtin.Tuple.tupleHashOf (NK.hashes P w ks)):=by rw[NK.hash]
def UJ(hu:A.units<cLine)(ho:s.heap.get? a=some o)(hc:o.cls=.type "tuple")(hd:o.data=.seq items n)(hi:md P w s.heap ks items.toList)
  (ih:∀(A':Around)(k:NK)(v:Value)(t:Nat)(E':Aad)(R:Int->Shared->Prop),A'.units<=A.units+4->k∈ks->lQ P w s.heap k v->R (NK.hash P w k) {s with toks:=t+NK.draws k}->wpAny 661 A' (pyHash v) R E' {s with toks:=t})
  (h:Q (NK.hash P w (.tup ks)) {s with toks:=s.toks+NK.draws (.tup ks)}):wpAny 661 A (pyHash 654) Q E s:=by
 have hT:s.TypeIs 654 "tuple":=⟨o,ho,hc⟩;refine ae (wpAny_cRoomFor_or (.inr hu) ?_);refine ae (iG hT lS.lookup ?_);refine ae (iG hT lS.lookup ?_);refine ae (wpAny_callSpecialIfBoundUnlessNone?_slot hT lS (b6 lS hT F.entry_tuple_hash ?_ (F.args_tuple_hash_1 _)));show wpAny _ _ (Builtin.Tuple.tupleItemsOf 654>>=_) _ _ s;refine ae (wpAny_tupleItemsOf ho hd ?_);refine ae ?_;rw[<-oJ];refine mD _
  (λrest(b:Array Int) s'=>∃done left,ks=done++left/\md P w s.heap left rest/\b.toList=NK.hashes P w done/\s'={s with toks:=s.toks+NK.ox done})
  _ ?_ ?_ _ _ {[],ks,9,hi,by simp[NK.hashes],by simp[NK.ox]}
 ·rintro x rest b s' ⟨done,left,e,hl,hb,rfl⟩;cases hl with
  |@cons k _ BX _ h1 pj=>
   have e2:NK.hashes P w (done++[k])=NK.hashes P w done++[NK.hash P w k]:=by
    clear e hb
    induction done with
    |nil=>simp[NK.hashes]
    |cons a r Uc=>simp only[qo,NK.hashes,Uc]
   have e3:NK.ox (done++[k])=NK.ox done+NK.draws k:=by
    clear e hb e2
    induction done with
    |nil=>simp[NK.ox]
    |cons a r Uc=>simp only[qo,NK.ox,Uc];lia
   refine ae (ih _ k x _ _ _ ?_ (by rw[e];simp) h1 (ao {done++[k],BX,by rw[e];simp,pj,by simp[hb,e2],by rw[e3,uE]}))
   ·show A.units+1<=A.units+4;lia
 ·rintro b s' ⟨done,left,rfl,hl,hb,rfl⟩;cases hl;rw[c7]at h;show wpAny _ _ (retInt (Builtin.Tuple.tupleHashOf b.toList)) _ _ _;rw[hb];refine wpAny_ret_mkInt ?_;show wpAny _ _ (if(decide (-(2:Int)^63<=Builtin.Tuple.tupleHashOf (NK.hashes P w done))&&decide (Builtin.Tuple.tupleHashOf (NK.hashes P w done)<2^63))=true then _ else _) Q E _;rw[NK.Xd,NK.draws]at h;unfold reduceHash at h;by_cases hr:(decide (-(2:Int)^63<=Builtin.Tuple.tupleHashOf (NK.hashes P w done))&&decide (Builtin.Tuple.tupleHashOf (NK.hashes P w done)<2^63))=true
  ·rw[aK hr];rw[aK hr]at h;exact ao (by simpa[uE]using h)
  ·rw[aH hr];rw[aH hr]at h;exact ae (j6 (ao (by simpa[uE]using h)))
mutual
theorem UK:∀(k:NK)(A:Around)(E:Aad)(s:Shared)(v:Value)(Q:Int->Shared->Prop),A.units+4*NK.deep k<cLine->lQ P w s.heap k v->Q (NK.hash P w k) {s with toks:=s.toks+NK.draws k}->wpAny 661 A (pyHash v) Q E s
 | .cz,A,E,s,v,Q,hu,r,q=>by cases r;rw[NK.hash,NK.draws]at q;exact Q7 q
 | .key k,A,E,s,v,Q,hu,r,q=>by
  cases r with
  |key h=>
   rw[NK.hash,NK.draws]at q;exact(bU P w).pyHash h q
 | .tup ks,A,E,s,v,Q,hu,r,q=>by
  cases r with
  |tup ho hc hd hi=>
   rw[NK.deep]at hu;exact UJ ∅ ho hc hd hi (λA' k v t E' R hA hk r q=>MD ks k hk A' E' {s with toks:=t} v R ∅ r q) q
theorem MD:∀(ks:List NK)(k:NK),k∈ks->∀(A:Around)(E:Aad)(s:Shared)(v:Value)(Q:Int->Shared->Prop),A.units+4*NK.o6 ks<cLine->lQ P w s.heap k v->Q (NK.hash P w k) {s with toks:=s.toks+NK.draws k}->wpAny 661 A (pyHash v) Q E s
 |[],k,h,A,E,s,v,Q,hu,r,q=>by cases h
 |k0::ks,k,h,A,E,s,v,Q,hu,r,q=>by
  rw[NK.o6]at hu;rcases aN.mp h with e|h
  ·rw[e]at r q;exact UK k0 A E s v Q ∅ r q
  ·exact MD ks k h A E s v Q ∅ r q
end
end
section
variable{P:Program}{w:World}
mutual
theorem OI:∀(k:NK)(n:Nat)(A:Around)(E:Aad)(s:Shared)(v:Value)(Q:Bool->Shared->Prop),lQ P w s.heap k v->NK.deep k<=n->Q true s->wpAny 661 A (eqIsQuiet n v) Q E s
 | .cz,n,A,E,s,v,Q,r,_,q=>by cases r;rw[DI n rfl];exact ao q
 | .key k,n,A,E,s,v,Q,r,_,q=>by
  cases r with
  |key h=>
   rw[DI n ((bU P w).byValue _ _ h)];exact ao q
 | .tup ks,0,A,E,s,v,Q,r,hn,q=>by rw[NK.deep]at hn;exact absurd hn ∅
 | .tup ks,n+1,A,E,s,v,Q,r,hn,q=>by
  cases r with
  |@tup _ a o items m ho hc hd hi=>
   rw[NK.deep]at hn;have hT:s.TypeIs 654 "tuple":=⟨o,ho,hc⟩;unfold eqIsQuiet;refine ae (iG hT F.slot_tuple_eq.lookup ?_);show wpAny _ _ (isInstance 654 (.type "tuple")>>=_) _ _ s;refine ae (jc hT isSubtype_tuple_tuple ?_);simp only[Bool.not_true,gH,kA];refine ae (dh ho hd ?_);refine ae ?_;show wpAny _ _ (forIn items _ _) _ _ s;rw[<-oJ];refine mD _ (λrest r s'=>r.1=none/\s'=s/\∃left,md P w s.heap left rest/\∀k∈left,k∈ks) _ ?_ ?_ _ _ {9,9,ks,hi,λ_ h=>h}
   ·rintro v rest r s' ⟨hr,rfl,left,hl,hm⟩;cases hl with
    |@cons k _ BX _ h1 pj=>
     refine ae (IG ks k (hm k aF) n _ _ _ v _ h1 ∅ ?_);simp only[Bool.not_true,gH,kA];exact ao {9,9,BX,pj,λk' Mt=>hm k' (aG _ Mt)}
   ·rintro⟨r1,r2⟩ s' ⟨hr,rfl,_⟩;simp only at hr;subst hr;exact ao q
theorem IG:∀(ks:List NK)(k:NK),k∈ks->∀(n:Nat)(A:Around)(E:Aad)(s:Shared)(v:Value)(Q:Bool->Shared->Prop),lQ P w s.heap k v->NK.o6 ks<=n->Q true s->wpAny 661 A (eqIsQuiet n v) Q E s
 |[],k,h,n,A,E,s,v,Q,r,hn,q=>by cases h
 |k0::ks,k,h,n,A,E,s,v,Q,r,hn,q=>by
  rw[NK.o6]at hn;rcases aN.mp h with e|h
  ·rw[e]at r;exact OI k0 n A E s v Q r ∅ q
  ·exact IG ks k h n A E s v Q r ∅ q
end
mutual
def NK.toD:NK->PyData
 | .cz=>.none
 | .key (.inl i)=>.int i
 | .key (.inr z)=>.str z
 | .tup ks=>.tuple (NK.nq ks)
def NK.nq:List NK->List PyData
 |[]=>[]
 |k::ks=>NK.toD k::NK.nq ks
end
mutual
theorem Hb:∀(k:NK){h:Heap}{v:Value},lQ P w h k v->∃as,Reads h v (NK.toD k) as
 | .cz,h,v,r=>by cases r;rw[NK.toD];exact{_,.none}
 | .key (.inl i),h,v,r=>by
  cases r with
  |key q=>
   obtain⟨t,rfl⟩:=(show RelV (.int i) v from sI (k:=Sum.inl i) q);rw[NK.toD];exact{_,.int i t}
 | .key (.inr z),h,v,r=>by
  cases r with
  |key q=>
   obtain⟨t,rfl⟩:=(show RelV (.str z) v from sI (k:=Sum.inr z) q);rw[NK.toD];exact{_,.str z t}
 | .tup ks,h,v,r=>by
  cases r with
  |tup ho hc hd hi=>
   obtain⟨as,q⟩:=K7 ks hi;rw[NK.toD];exact{_,.tuple ho hc hd q}
theorem K7:∀(ks:List NK){h:Heap}{vs:Aaf},md P w h ks vs->∃as,ReadsAll h vs (NK.nq ks) as
 |[],h,vs,r=>by cases r;rw[NK.nq];exact{_,.nil}
 |k::ks,h,vs,r=>by
  cases r with
  |cons r1 r2=>
   obtain⟨as,q1⟩:=Hb k r1;obtain⟨bs,q2⟩:=K7 ks r2;rw[NK.nq];exact{_,.cons q1 q2}
end
mutual
theorem ZT:∀(x y:NK),PyData.eqv (NK.toD x) (NK.toD y)=true↔x=y
 | .cz,.cz=>by simp[NK.toD,PyData.eqv]
 | .cz,.key (.inl _)=>by simp[NK.toD,PyData.eqv]
 | .cz,.key (.inr _)=>by simp[NK.toD,PyData.eqv]
 | .cz,.tup _=>by simp[NK.toD,PyData.eqv]
 | .key (.inl _),.cz=>by simp[NK.toD,PyData.eqv]
 | .key (.inl i),.key (.inl j)=>by simp[NK.toD,PyData.eqv]
 | .key (.inl _),.key (.inr _)=>by simp[NK.toD,PyData.eqv]
 | .key (.inl _),.tup _=>by simp[NK.toD,PyData.eqv]
 | .key (.inr _),.cz=>by simp[NK.toD,PyData.eqv]
 | .key (.inr _),.key (.inl _)=>by simp[NK.toD,PyData.eqv]
 | .key (.inr a),.key (.inr b)=>by simp[NK.toD,PyData.eqv]
 | .key (.inr _),.tup _=>by simp[NK.toD,PyData.eqv]
 | .tup _,.cz=>by simp[NK.toD,PyData.eqv]
 | .tup _,.key (.inl _)=>by simp[NK.toD,PyData.eqv]
 | .tup _,.key (.inr _)=>by simp[NK.toD,PyData.eqv]
 | .tup xs,.tup ys=>by rw[NK.toD,NK.toD,PyData.eqv,U4 xs ys];exact{cP NK.tup,λh=>by injection h}
theorem U4:∀(xs ys:List NK),PyData.eqvAll (NK.nq xs) (NK.nq ys)=true↔xs=ys
 |[],[]=>by simp[NK.nq,PyData.eqvAll]
 |[],_::_=>by simp[NK.nq,PyData.eqvAll]
 |_::_,[]=>by simp[NK.nq,PyData.eqvAll]
 |x::xs,y::ys=>by rw[NK.nq,NK.nq,PyData.eqvAll,bO,ZT x y,U4 xs ys];simp
end
def Ec(h:(bU P w).is k 654=true):False:=by have:=(bU P w).byValue _ _ h;cases this
def BZ(h:(bU P w).is k .none=true):False:=by
 have:=sI (k:=k) h;cases k with
 |inl i=>obtain⟨t,e⟩:=(show∃t,Value.none=Value.int i t from this);cases e
 |inr z=>obtain⟨t,e⟩:=(show∃t,Value.none=Value.str z t from this);cases e
mutual
theorem Zl:∀(x y:NK){h:Heap}{v:Value},lQ P w h x v->lQ P w h y v->x=y
 | .cz,y,h,v,r1,r2=>by
  cases r1;cases r2 with
  |cz=>rfl
  |key q=>exact(BZ q).elim
 | .key k,y,h,v,r1,r2=>by
  cases r1 with
  |key q=>
   cases r2 with
   |cz=>exact(BZ q).elim
   |key q2=>rw[(bU P w).inj _ _ _ q q2]
   |tup=>exact(Ec q).elim
 | .tup ks,y,h,v,r1,r2=>by
  cases r1 with
  |tup ho hc hd hi=>
   cases r2 with
   |key q=>exact(Ec q).elim
   |@tup ks2 _ o2 B1 n2 uR ub hd2 my=>
    rw[ho]at uR;cases uR;rw[hd]at hd2;injection hd2 with e1 _;subst e1;rw[Ub ks ks2 hi my]
theorem Ub:∀(xs ys:List NK){h:Heap}{vs:Aaf},md P w h xs vs->md P w h ys vs->xs=ys
 |[],ys,h,vs,r1,r2=>by cases r1;cases r2;rfl
 |x::xs,ys,h,vs,r1,r2=>by
  cases r1 with
  |cons a b=>
   cases r2 with
   |@cons y _ ys _ c d=>rw[Zl x y a c,Ub xs ys b d]
end
mutual
theorem T6(h h':Heap)(k:∀b o,(∀es ep,o.data≠ .dict es ep)->h.get? b=some o->h'.get? b=some o):∀(x:NK){v:Value},lQ P w h x v->lQ P w h' x v
 | .cz,v,r=>by cases r;exact .cz
 | .key _,v,r=>by
  cases r with
  |key q=>exact .key q
 | .tup ks,v,r=>by
  cases r with
  |tup ho hc hd hi=>exact .tup (k _ _ (λes ep e=>by rw[hd]at e;cases e) ho) hc hd (OZ h h' k ks hi)
theorem OZ(h h':Heap)(k:∀b o,(∀es ep,o.data≠ .dict es ep)->h.get? b=some o->h'.get? b=some o):∀(xs:List NK){vs:Aaf},md P w h xs vs->md P w h' xs vs
 |[],vs,r=>by cases r;exact .nil
 |x::xs,vs,r=>by
  cases r with
  |cons a b=>exact .cons (T6 h h' k x a) (OZ h h' k xs b)
end
def aem(P:Program)(w:World)(h:Heap)(k:NK)(a:Addr):Prop:=lQ P w h k 654/\(NK.toD k).canLay0=true/\(NK.toD k).depth<=07/\NK.deep k<=07
noncomputable def p6(P:Program)(w:World):HeapKind P w NK where
 is:=aem P w
 hash:=NK.hash P w
 draws:=NK.draws
 room:=λA=>A.units+100<cLine
 inj:=λhx hy=>Zl _ _ hx.1 hy.1
 keeps:=λx ho hd hs=>{T6 _ _ (λb o' n e=>by refine(hs.2 b ?_).trans e;rintro rfl;rw[ho]at e;cases e;exact n _ _ hd) _ x.1,x.2}
 pyHash:=λhu hk h=>UK _ _ _ _ _ _ (by have:=hk.2.2.2;lia) hk.1 h
 eqBool:=λ{A E s x y a b Q} hu hx hy h=>by
  obtain⟨as,r1⟩:=Hb x hx.1;obtain⟨bs,r2⟩:=Hb y hy.1;have e:PyData.eqv (NK.toD x) (NK.toD y)=decide (x=y):=by rw[fb,ZT,jD]
  have:=SeqAt.eqAt_reads _ _ A s _ _ as bs r1 r2 hx.2.1 hy.2.1 (by have:=hx.2.2.1;have:=Nat.min_le_left (NK.toD x).depth (NK.toD y).depth;lia);rw[e]at this;exact this P w E Q h
 quiet:=λhk h=>OI _ 08 _ _ _ _ _ hk.1 (by have:=hk.2.2.2;lia) h
end
def DN(P:Program)(w:World)(d:Addr)(kvs:List 645):Heap->Prop:=λh=>(d==sysModules)=false/\∃xs:List (NK×Addr×Value),Paired 641 kvs xs/\kvs.length<=10000000/\
 ∃o es ep,h.get? d=some o/\o.ExactDict/\o.data=.dict es ep/\es.toList=xs.map (entryOfKey (p6 P w))/\(xs.map (·.1)).Nodup
def ZV(x:DN P w d kvs h):dP P w H h d (.ext (DN P w d kvs)):=
 {x,let⟨_,_,_,_,o,_,_,q,_⟩:=x;⟨o,q⟩,λ_ _ ⟨l,xs,p,n,o,es,ep,q,r⟩ k=>{l,xs,p,n,o,es,ep,k _ q,r}}
mutual
def NV(K:Frag)(H:Hp):NK->V->Prop
 | .cz,v=>v=.cz
 | .key k,v=>v=kV k
 | .tup ks,v=>∃a xs,v=.ref a/\aY K H a xs/\rJ K H ks xs
def rJ(K:Frag)(H:Hp):List NK->Aan->Prop
 |[],xs=>xs=[]
 |k::ks,xs=>∃x r,xs=x::r/\NV K H k x/\rJ K H ks r
end
section
variable{X:Cx}{pins:Aab}{Z:St}{H:Hp}{s:Shared}
mutual
theorem LH(I:Inv X pins Z H s):∀(k:NK)(v:V)(u:Value),NV X.K H k v->RelV v u->lQ X.prog X.w s.heap k u
 | .cz,v,u,h,r=>by rw[NV]at h;subst h;cases(show u=Value.none from r);exact .cz
 | .key k,v,u,h,r=>by rw[NV]at h;subst h;exact .key (pW r)
 | .tup ks,v,u,h,r=>by rw[NV]at h;obtain⟨a,xs,rfl,hq,ha⟩:=h;cases r;obtain⟨a9,rv,⟨o,e,c,n,d⟩,_⟩:=I.tuple hq;exact .tup e c d (by simpa using IQ I ks xs a9 ha rv)
theorem IQ(I:Inv X pins Z H s):∀(ks:List NK)(xs:Aan)(us:Aaf),rJ X.K H ks xs->Vals xs us->md X.prog X.w s.heap ks us
 |[],xs,us,h,r=>by rw[rJ]at h;subst h;cases r;exact .nil
 |k::ks,xs,us,h,r=>by
  rw[rJ]at h;obtain⟨x,t,rfl,h1,h2⟩:=h;cases r with
  |cons r1 r2=>exact .cons (LH I k x _ h1 r1) (IQ I ks t _ h2 r2)
end
def RO(k:NK):Prop:=(NK.toD k).canLay0=true/\(NK.toD k).depth<=07/\NK.deep k<=07
end
def iE(K:Frag)(H:Hp)(k:NK)(a:Addr):Prop:=NV K H k 654/\RO k
def iy(P:Program)(w:World)(K:Frag)(H:Hp)(a:Addr)(kvs:List 645):Prop:=(H a=some (.ext (DN P w a kvs))\/(kvs=[]/\H a=some 651))/\∀p∈kvs,iE K H p.1 p.2.1
def valN(kvs:List 645)(k:NK):Aao:=(kvs.find? λp=>decide (p.1=k)).map (·.2.2)
def putN(kvs:List 645)(k:NK)(a:Addr)(v:V):List 645:=if(valN kvs k).isSome then kvs.map (λp=>if p.1=k then(p.1,p.2.1,v)else p)else kvs++[(k,a,v)]
def De(rel:Paired 641 kvs xs)(k:NK):mP (valN kvs k) ((atKey xs k).map (·.2)):=by
 unfold valN atKey
 induction rel with
 |nil=>exact trivial
 |@cons p q ps qs h _ ih=>
  by_cases c:p.1=k
  ·rw[fW (p:=λp:NK×Addr×V=>decide (p.1=k)) (bj c),fW (p:=λx:NK×Addr×Value=>decide (x.1=k)) (bj (h.1.symm.trans c))];exact h.2.2
  ·rw[fX (p:=λp:NK×Addr×V=>decide (p.1=k)) (λd=>c (aR d)),fX (p:=λx:NK×Addr×Value=>decide (x.1=k)) (λd=>c (h.1.trans (aR d)))];exact ih
section
variable{X:Cx}{pins:Aab}{Z:St}{H:Hp}{s:Shared}{A:Around}{E:Aad}{a b:Addr}{kvs:List (NK×Addr×V)}{k:NK}{v:V}
def Inv.L8(I:Inv X pins Z H s)(h:iE X.K H k b):(p6 X.prog X.w).is s.heap k b:={LH I k (.ref b) (.ref b) h.1 rfl,h.2}
def Inv.Ak(I:Inv X pins Z H s)(h:iy X.prog X.w X.K H a kvs):(a==sysModules)=false/\∃xs,Paired 641 kvs xs/\kvs.length<=10000000/\s.heap.DictOfH (p6 X.prog X.w) a xs:=by
 obtain⟨h1,h2⟩:=h;have keys:∀{l:List 645}{xs:List (NK×Addr×Value)},Paired 641 l xs->(∀p∈l,iE X.K H p.1 p.2.1)->∀x∈xs,(p6 X.prog X.w).is s.heap x.1 x.2.1:=λr=>by
  induction r with
  |nil=>intro _ x hx;cases hx
  |@cons p q ps qs h _ ih=>
   intro hk x hx;rcases aN.mp hx with rfl|hx
   ·rw[<-h.1,<-h.2.1];exact I.L8 (hk p aF)
   ·exact ih (λp hp=>hk p (aG _ hp)) x hx
 rcases h1 with h1|⟨rfl,h1⟩
 ·obtain⟨⟨lo,xs,rel,hl,o,es,ep,g,hx,hd,he,nd⟩,_⟩:=(show dP X.prog X.w H s.heap a (.ext (DN X.prog X.w a kvs))from I.bP a _ h1);exact{lo,xs,rel,hl,o,es,ep,g,hx,hd,he,keys rel h2,nd}
 ·obtain⟨_,lo,vs,rel,o,es,ep,g,hx,hd,_,hp,_⟩:=xu I.bP h1;cases rel;have e0:es.toList=[]:=by have:=hp.length;exact dC.mp this
  exact{lo,[],.nil,aO _,o,es,ep,g,hx,hd,by rw[e0];rfl,λx h=>(by cases h),dZ}
def afh{Q:Aad}(hu:A.units+101<cLine)(I:Inv X pins Z H s)(h:iy X.prog X.w X.K H a kvs)(hk:iE X.K H k b)(q:∀s',Inv X pins Z H s'->Q (.bool (valN kvs k).isSome) s'):wpAny 56 A (compareOp .In (.ref b) 654) Q E s:=by obtain⟨lo,xs,rel,hl,dd⟩:=I.Ak h;refine wpAny_in_heap (show A.units+1+100<cLine by lia) (I.L8 hk) lo dd ?_;have e:=(De rel k).oo;rw[gP]at e;rw[<-e];exact q _ 680
def K6(rel:Paired 641 kvs xs)(rv:RelV v r):Paired 641 (putN kvs k b v) (storedH xs k b r):=by
 have e:=(De rel k).oo;rw[gP]at e;unfold putN storedH;rw[e];split
 next hs=>
  clear e hs
  induction rel with
  |nil=>exact .nil
  |@cons p q ps qs h _ ih=>
   refine .cons ?_ ih;show(if p.1=k then(p.1,p.2.1,v)else p).1=(if q.1=k then(q.1,q.2.1,r)else q).1/\(if p.1=k then(p.1,p.2.1,v)else p).2.1=(if q.1=k then(q.1,q.2.1,r)else q).2.1/\RelV (if p.1=k then(p.1,p.2.1,v)else p).2.2 (if q.1=k then(q.1,q.2.1,r)else q).2.2;by_cases c:p.1=k
   ·rw[aK c,aK (h.1.symm.trans c)];exact{h.1,h.2.1,rv}
   ·rw[aH c,aH (λd=>c (h.1.trans d))];exact h
 next=>exact yp rel ⟨rfl,rfl,rv⟩
def vP:(putN kvs k b v).length<=kvs.length+1:=by
 unfold putN;split
 ·rw[ah];lia
 ·rw[aC];exact aw _
def ad8(hu:A.units+101<cLine)(I:Inv X pins Z H s)(h:iy X.prog X.w X.K H a kvs)(hk:iE X.K H k b)(lH:kvs.length<10000000)(rv:RelV v r)
  (q:∀s',Inv X pins Z (upd H a (.ext (DN X.prog X.w a (putN kvs k b v)))) s'->Q () s'):wpAny 56 A (setItem 654 (.ref b) r) Q E s:=by
 obtain⟨lo,xs,rel,hl,dd⟩:=I.Ak h;have lx:xs.length<=sizeLine:=by rw[<-rel.length,bW];lia
 refine Bl (show A.units+1+100<cLine by lia) (I.L8 hk) dd λh' rm hs=>q _ ?_;obtain⟨o,es,ep,g,h2,h3,h4,_,h5⟩:=rm;have lp:=vP (kvs:=kvs) (k:=k) (b:=b) (v:=v);refine sU I ?_ hs ⟨o,g⟩ (ZV {lo,_,K6 rel rv,8,o,es,ep,g,h2,h3,h4,h5});rcases h.1 with e|⟨_,e⟩<;>rw[e]<;>exact True.intro
end
inductive afI(P:Program)(w:World)(K:Frag)(neg:Bool)(x:V)(y:V)(H:Hp)(Q:VK):Prop
 |mk a b kvs k (_:x=.ref b) (_:y=.ref a) (_:iy P w K H a kvs) (_:iE K H k b) (_:Q (.bl (if neg then !(valN kvs k).isSome else(valN kvs k).isSome)) H)
inductive aaM(P:Program)(w:World)(K:Frag)(D:Ends)(Z:St)(v:V)(x:V)(y:V)(H3:Hp):Prop
 |mk a b kvs k (_:x=.ref a) (_:y=.ref b) (_:iy P w K H3 a kvs) (_:iE K H3 k b) (_:kvs.length<10000000) (_:D.nx Z (upd H3 a (.ext (DN P w a (putN kvs k b v)))))
def acx(P:Program)(w:World)(K:Frag)(td ty tv:TE):TS:=λD Z H=>tv Z H λv H1=>td Z H1 λx H2=>ty Z H2 λy H3=>aaM P w K D Z v x y H3
section
variable{X:Cx}{o i value:Expr}{pos pos':Pos}{td ty tv:TE}
def acS(hu:X.A.units+101<cLine):iU X (compareOp .In) (afI X.prog X.w X.K false):=by intro pins s Z H x y v u Q I rx ry h;obtain⟨a,b,kvs,k,rfl,rfl,g,hk,q⟩:=h;cases rx;cases ry;exact afh hu I g hk λs' I'=>{.bl _,H,I',9,q}
def EL(hu:X.A.units+101<cLine)(ho:PE X o td)(hi:PE X i ty)(hv:PE X value tv)(hs:swapsWith value (some (.Subscript o i pos')) pos.line X.env=pure false):
  PS X (.Assign [.Subscript o i pos'] value pos) (acx X.prog X.w X.K td ty tv):=by
 intro pins s Z H D I h;refine xF (de (hv pins s Z H _ I h) λr s1 v H1 I1 rv q1=>de (ho pins s1 Z H1 _ I1 q1) λu s2 x H2 I2 rx q2=>de (hi pins s2 Z H2 _ I2 q2) λiv s3 y H3 I3 ry aga=>?_) hs;obtain⟨a,b,kvs,k,ex,ey,g,hk,hl,q⟩:=aga;subst ex ey;obtain rfl:u=Value.ref a:=rx;obtain rfl:iv=Value.ref b:=ry;exact ad8 hu I3 g hk hl rv λs4 I4=>⟨Z,_,I4,q⟩
end
def range_any(bs:List Bool):((List.range bs.length).any λi=>(bs[i]?).getD false)=bs.any id:=by
 rw[fb,il,il];constructor
 ·rintro⟨i,hi,h⟩;have hl:=cD.mp hi;rw[av hl]at h;exact{_,kH hl,h}
 ·rintro⟨b,hb,h⟩;obtain⟨i,hi⟩:=eJ.mp hb;exact{i,cD.mpr (aq.mp hi).1,hi▸h}
section
variable{X:Cx}
def zo(hc:X.calm=true):ic X (.builtin "any") (λxs H Q=>∃(a:Addr)(bs:List Bool),xs=[.ref a]/\bf X.K H a (bs.map V.bl)/\Q (.bl (bs.any id)) H):=by
 intro pins s Z H xs us Q I r h;obtain⟨a,bs,rfl,ha,q⟩:=h;obtain⟨u,rfl,ru⟩:=jH r;cases ru;obtain⟨a9,rv,p,hz⟩:=I.list ha;have hl:a9.length=bs.length:=by have:=rv.length;simpa using this.symm
 have gC:a≠s.heap.objs.size:=by obtain⟨o,n,e,_⟩:=id p;exact aV (aW e)
 refine call_any_walk (lK p.isList ?_);refine{s.heap.objs.size,_,_,a9.toArray.size,_,_,λi=>(bs[i]?).getD false,9,GK (show X.A.in1.handled=none from I.ok.hd hc) s.heap.objs.size a gC a9.toArray,{{_,676,9,9},p.isList.at λo e=>aj _ e},?_,λh' tk kp=>?_}
 ·intro i v s' Q' E' hP hQ;have UN:a9[i]?=some v:=by simpa using hP
  have hi:i<bs.length:=by rw[<-hl];exact(aq.mp UN).1
  obtain⟨u,hu,ru⟩:=rv.get (by rw[aX,av hi];rfl);rw[UN]at hu;cases hu;cases ru;refine eM ?_;have e2:(bs[i]?).getD false=bs[i]:=by rw[av hi];rfl
  rw[<-e2];exact hQ
 ·refine{.bl (bs.any id),H,I.kept λb o e=>kp b o (by simpa using aV (aW e)) (aj _ e),?_,q};show Value.bool _=Value.bool _;rw[aP,hl,range_any]
def JB(hc:X.calm=true):ic X (.builtin "min") (λxs H Q=>∃(a:Addr)(ns:List Int),xs=[.ref a]/\bf X.K H a (ns.map V.int)/\0<ns.length/\∀m,m∈ns->(∀n∈ns,m<=n)->Q (.int m) H):=by
 intro pins s Z H xs us Q I r h;obtain⟨a,ns,rfl,ha,hn,q⟩:=h;obtain⟨u,rfl,ru⟩:=jH r;cases ru;obtain⟨a9,rv,p,hz⟩:=I.list ha;have hi:=ints_of rv;obtain⟨xs,e⟩:=hi.allInts.items;have A1:ns=xs.toList.map (·.1):=by rw[<-hi.numsOf,<-nums_intItems,<-e]
 have hsz:0<xs.size:=by have h3:=hn;rw[A1,ah,bI]at h3;exact h3
 have hl:=p.isList;rw[e]at hl;refine min_intList (show X.A.handled=none from I.ok.hd hc) hl hsz λv h' tk hv hk=>?_;obtain⟨t,rfl⟩:=intItems_at hv;obtain⟨h1,h2⟩:=argBest_lt (numAt xs) (xs.size -1);refine{.int _,H,I.kept hk,⟨t,rfl⟩,q _ ?_ λb hb=>?_}
 ·rw[A1,numAt_eq];exact getD_mem (by rw[ah,bI];lia)
 ·rw[A1]at hb;obtain⟨j,hj,rfl⟩:=mem_getD hb;rw[ah,bI]at hj;rw[<-numAt_eq];exact h2 j ∅
def GF:ic X (.type "dict") (λxs H Q=>∃a kvs,xs=[.ref a]/\Rd H a 715/\∀p,H p=none->Q 666 (upd H p 715)):=by intro pins s Z H xs us Q I r h;obtain⟨a,kvs,rfl,ha,q⟩:=h;obtain⟨u,rfl,ru⟩:=jH r;cases ru;exact XI I ha λp s' hp I'=>{666,_,I',9,q p hp}
inductive aaQ(x:V)(vs:Aan)(H:Hp)(Q:VK):Prop
 |mk (a:Addr) (k:Key) (z:V) (kvs:List (Key×V)) (_:x=.ref a) (_:vs=[kV k,z]) (_:H a=some (.dK kvs)) (_:kvs.length<sizeLine) (_:(∀v,iC kvs k=some v->Q v H)) (_:(iC kvs k=none->Q z (upd H a (.dK (putK kvs k z)))))
def IT:JL X "dict.setdefault" aaQ:=by
 intro pins s Z H x vs v us Q I rx rv h;obtain⟨a,k,z,kvs,rfl,rfl,hH,hl,q1,q2⟩:=h;cases rx;obtain⟨u1,u2,rfl,r1,r2⟩:=rv.two;obtain⟨zz,hd,ws,rel,dd⟩:=xu I.bP hH;refine kE gM dd.typeIs rT (rE _ _ _) (kt_meets_setdefault 722 a (pW r1) hd u2) {ws,dd,(by rw[<-rel.length];exact zz),λv hv=>?_,λhn h' rm hs=>?_}
 ·have:=rel.val k;rw[hv]at this;cases e:iC kvs k with
  |none=>rw[e]at this;exact this.elim
  |some y=>
   rw[e]at this;exact{y,H,680,this,q1 y e}
 ·have:=rel.val k;rw[hn]at this;cases e:iC kvs k with
  |some y=>rw[e]at this;exact this.elim
  |none=>
   exact{z,_,sU I (hH▸True.intro) hs (let⟨o,_,_,ho,_⟩:=rm;⟨o,ho⟩) (wc (by have:=tI kvs k z;lia) hd (rel.put k r2) rm),r2,q2 e}
variable{K:Frag}
def Lh{tg l:Expr}{tl:TE}(hl:PE X l tl)(h:X.K=K:=by rfl):PI X tg l (Zn K tl):=h▸dH hl
def GG(hc:X.calm=true)(h:X.K=K:=by rfl):ic X (.builtin "any") (λxs H Q=>∃(a:Addr)(bs:List Bool),xs=[.ref a]/\bf K H a (bs.map V.bl)/\Q (.bl (bs.any id)) H):=h▸zo hc
end
end L2
namespace L2
open PySem PySem.Spec PyProof.Rows
theorem Cw(n:Nat):∀(b:List (Str×NameKind))(acc:List (Str×Addr)),(∀y∈b,y.2≠ .cell)->cellsFrom n b acc=acc
 |[],_,_=>rfl
 |(y,k)::r,acc,h=>by
  have hk:(k==NameKind.cell)=false:=by simpa using h (y,k) aF
  unfold cellsFrom;rw[hk];exact Cw n r acc λz hz=>h z (aG _ hz)
theorem BL(hp:Heap):∀(b:List (Str×NameKind)),(∀y∈b,y.2≠ .cell)->pushCells hp b=hp
 |[],_=>rfl
 |(y,k)::r,h=>by
  have hk:(k==NameKind.cell)=false:=by simpa using h (y,k) aF
  unfold pushCells;rw[hk];exact BL hp r λz hz=>h z (aG _ hz)
theorem A4(n:Nat)(x:Str)(b:List (Str×NameKind))(acc:List (Str×Addr))(hb:∀y∈b,y.2≠ .cell):∀(a:List (Str×NameKind)),(∀y∈a,y.2≠ .cell)->cellsFrom n (a++(x,.cell)::b) acc=(x,n)::acc
 |[],_=>by show(if(NameKind.cell==NameKind.cell)=true then cellsFrom (n+1) b ((x,n)::acc)else cellsFrom n b acc)=_;exact Cw _ b _ hb
 |(y,k)::r,h=>by
  have hk:(k==NameKind.cell)=false:=by simpa using h (y,k) aF
  show(if(k==NameKind.cell)=true then cellsFrom (n+1) (r++(x,.cell)::b) ((y,n)::acc)else cellsFrom n (r++(x,.cell)::b) acc)=_;rw[hk];exact A4 n x b acc hb r λz hz=>h z (aG _ hz)
theorem AV(hp:Heap)(x:Str)(b:List (Str×NameKind))(hb:∀y∈b,y.2≠ .cell):∀(a:List (Str×NameKind)),(∀y∈a,y.2≠ .cell)->pushCells hp (a++(x,.cell)::b)=hp.push {cls:=.type "cell",data:=.cell none}
 |[],_=>by show(if(NameKind.cell==NameKind.cell)=true then pushCells (hp.push {cls:=.type "cell",data:=.cell none}) b else pushCells hp b)=_;exact BL _ b hb
 |(y,k)::r,h=>by
  have hk:(k==NameKind.cell)=false:=by simpa using h (y,k) aF
  show(if(k==NameKind.cell)=true then pushCells (hp.push {cls:=.type "cell",data:=.cell none}) (r++(x,.cell)::b)else pushCells hp (r++(x,.cell)::b))=_;rw[hk];exact AV hp x b hb r λz hz=>h z (aG _ hz)
section
variable{M:Model}{A:Around}{E:Aad}{s:Shared}
def uq{scope:Scope}{globals:Addr}{cl:List (Str×Addr)}{qual:Str}{outer:Env}{x:Str}{Q:Env->Shared->Prop}
  (hx:∃a b,scope.names=a++(x,.cell)::b/\(∀y∈a,y.2≠ .cell)/\∀y∈b,y.2≠ .cell)
  (hQ:∀h',h'.Ns s.heap.objs.size (λ_=>none)->h'.IsCell 646 none->(∀b o,s.heap.get? b=some o->h'.get? b=some o)->
   Q (newEnv scope s.heap.objs.size globals ((x,s.heap.objs.size+1)::cl) qual none .none (some outer) builtinsNs) {s with heap:=h',toks:=s.toks}):
  wpAny M A (newFunctionEnv scope globals cl [] qual none .none (some outer)) Q E s:=by
 obtain⟨a,b,e,ha,hb⟩:=hx;simp only[newFunctionEnv,CO,oY];refine ae (wpAny_alloc ?_);refine ae (wpAny_layCells _ (λname kind cells=>by cases hkc:kind==NameKind.cell<;>simp[hkc]) _ _ _ _ ?_);rw[e,A4 _ x b _ hb a ha,AV _ x b hb a ha,List.forIn_nil];refine ae (ao 660);rw[show({s with heap:=s.heap.push {cls:=.type "dict",data:=.dict #[]}}:Shared).heap.objs.size=s.heap.objs.size+1 from dj ..];refine hQ _ ((Heap.Ns.new s.heap (.type "dict")).keeps λb o e=>aj _ e) {_,by rw[<-dj s.heap {cls:=.type "dict",data:=.dict #[]}];exact aU _ rfl,9} λb o e=>aj _ (aj _ e)
structure qE(X:Cx)(scope:Scope)(x:Str)(fs:Aag)(fr:List Nat):Prop where
 kind:scope.kind=.function
 loc:scope.names.lookup x=some .cell
 names:∀y∈scope.names,y.2=.local->scope.names.lookup y.1=some .local
 one:∃a b,scope.names=a++(x,.cell)::b/\(∀y∈a,y.2≠ .cell)/\∀y∈b,y.2≠ .cell
 free:∀n∈frees scope,X.env.kindOf n=some .cell/\scope.names.lookup n=some .free
 nd:(x::fs).Nodup
 len:fr.length=fs.length
 slots:∀(j:Nat)(y:Str)(k:Nat),fs[j]?=some y->fr[j]?=some k->X.N[k]?=some y/\y∈frees scope
def qE.only{X:Cx}{scope:Scope}{x:Str}{fs:Aag}{fr:List Nat}(S:qE X scope x fs fr)(y:Str)(h:(y,NameKind.cell)∈scope.names):y=x:=by
 obtain⟨a,b,e,ha,hb⟩:=S.one;rw[e]at h;rcases aS.mp h with h|h
 ·exact absurd rfl (ha _ h)
 ·rcases aN.mp h with h|h
  ·exact cP Prod.fst h
  ·exact absurd rfl (hb _ h)
def K5{env:Env}{scope:Scope}{x:Str}(h:scope.names.lookup x=some .cell):(relabel scope env).names.lookup x=some .cell:=by rw[lW,h];rfl
end
abbrev jY(X:Cx)(N':Aag)(scope:Scope)(x:Str)(C:Addr)(s:Shared)(H:Hp)(ex:Aai):Cx:=
 {X with N:=N',aac:=s,aae:=H,env:=compEnvC scope ((x,C+1)::mO scope X.env) C X.env,outer:=X.stack,stack:=X.stack,ex:=ex,fn:=λy=>y==x,pn:=[],xe:=λ_ _=>False}
section
variable{X:Cx}
def XR{pins:Aab}{Z:St}{H:Hp}{s:Shared}{scope:Scope}{x:Str}{fs:Aag}{fr:List Nat}{D:Addr}{fp:Aai}{s2:Shared}(S:qE X scope x fs fr)(I2:Inv X pins Z H s2)(I3:Inv X pins Z H s)
  (hD:D=s2.heap.objs.size) (hs:s.heap.objs.size=D+1) (bQ:∀b∈fp,b<D) (f2:∀b∈fp,oI X pins H b):(jY X (x::fs) scope x s.heap.objs.size s H (D::fp)).Ok:=by
 have lX:=λn hn=>I3.ok.has n (.inl (S.free n hn).1);have sub:∀{y:Str}{c:Addr},(mO scope X.env).lookup y=some c->X.env.cells.lookup y=some c:=λh=>((jn lX).mp h).2;have low:∀{y:Str}{c:Addr},(mO scope X.env).lookup y=some c->c<s.heap.objs.size:=λh=>by obtain⟨v,q⟩:=I3.cell _ _ (sub h);exact q.lt
 have two:∀{y:Str}{c:Addr},((x,s.heap.objs.size+1)::mO scope X.env).lookup y=some c->(y=x/\c=s.heap.objs.size+1)\/(mO scope X.env).lookup y=some c:=λ{y c} h=>by
  rw[ji]at h;cases e:(y==x)with
  |true=>rw[e]at h;exact .inl {dO e,(bT h).symm}
  |false=>rw[e]at h;exact .inr h
 refine{I3.ok.mod,S.kind,I3.ok.glob,I3.ok.blt,aw _,λa b c h1 h2=>?_,λy hy=>?_,(λy c h hl=>?_),I3.ok.hd,I3.ok.frames,.inl rfl,692,I3.bs,br I3.ok.A5 I3.sz,λb o e hb=>?_,λb hb hf=>?_,I3.stack,I3.GX}
 ·rcases two h1 with⟨e1,e2⟩|ZR
  ·rcases two h2 with⟨e3,_⟩|MO
   ·rw[e1,e3]
   ·exact absurd (low MO) (by rw[e2];exact rG.mpr (fq _))
  ·rcases two h2 with⟨_,e2⟩|MO
   ·exact absurd (low ZR) (by rw[e2];exact rG.mpr (fq _))
   ·exact I3.ok.inj a b c (sub ZR) (sub MO)
 ·by_cases Ug:y=x
  ·subst Ug;exact{_,List.lookup_cons_self}
  have q:(relabel scope X.env).names.lookup y=some .cell\/(relabel scope X.env).names.lookup y=some .free:=hy;have nf:scope.names.lookup y=some .free:=by
   rw[lW]at q;cases e:scope.names.lookup y with
   |none=>rw[e]at q;simp at q
   |some k=>
    rw[e]at q;cases k with
    |free=>rfl
    |cell=>
     have hm:(y,NameKind.cell)∈scope.names:=by have:=kR.mp e;obtain⟨l1,l2,z,_⟩:=this;rw[z];simp
     exact absurd (S.only y hm) Ug
    |_=>simp at q
  have hm:y∈frees scope:=by obtain⟨l1,l2,z,_⟩:=kR.mp nf;unfold frees;rw[z];simp
  obtain⟨c,hc⟩:=lX y hm;refine{c,?_};show((x,s.heap.objs.size+1)::mO scope X.env).lookup y=some c;rw[ji,cS.mpr Ug];exact(jn lX).mpr ⟨hm,hc⟩
 ·have e:=dO h;subst e;rcases two hl with⟨_,e2⟩|ZR
  ·rw[e2];exact fq _
  ·exact absurd (S.loc.symm.trans (S.free y ((jn lX).mp ZR).1).2) 59
 ·rcases aN.mp hb with rfl|hb
  ·refine{λz=>?_,λy c h z=>?_}
   ·exact absurd (hs.symm.trans z.symm:b+1=b) (qi b)
   ·rcases two h with⟨_,e2⟩|h
    ·rw[e2,hs]at z;exact absurd (z:b+1+1=b) (cq (bw (eB _) (fq _)))
    ·obtain⟨v,q⟩:=I2.cell y c (sub h);have:=q.lt;rw[z,hD]at this;exact absurd this (cX _)
  ·refine{λz=>?_,λy c h=>?_}
   ·have q:=eO (bQ b hb);rw[z]at q;exact absurd q (by show ¬s.heap.objs.size<D+1;rw[hs];exact cX _)
   ·rcases two h with⟨_,e2⟩|h
    ·intro z;have q:=bQ b hb;rw[e2,hs]at z;rw[<-z]at q;exact absurd (show D+1+1<D from q) (rG.mpr (br (fq _) (fq _)))
    ·exact(f2 b hb).2.2.2.2.1 y c (sub h)
 ·have gd:=aW e;have h1:=I2.ok.A5;rcases aN.mp hb with rfl|hb
  ·rw[hD]at gd;exact absurd (bw gd (br h1 I2.sz)) (cX _)
  ·rcases(f2 b hb).2.2.2.1 with z|z
   ·exact I2.ok.ES b o e z
   ·exact absurd (bw gd (br h1 z)) (cX _)
 ·have hf':=hf;rcases aN.mp (I2.Fx b hf')with z|z
  ·rcases aN.mp hb with rfl|hb
   ·have:=I2.lt;rw[<-z,hD]at this;exact absurd this (cX _)
   ·exact(f2 b hb).2.1 z
  ·rcases aN.mp hb with rfl|hb
   ·exact I2.WL (rH hD.symm) z
   ·exact(f2 b hb).2.2.1 z
def Vl{pins:Aab}{Z:St}{H:Hp}{s:Shared}{scope:Scope}{x:Str}{fs:Aag}{fr:List Nat}{ex:Aai}{h4:Heap}{m:Aac}{t:Nat}(S:qE X scope x fs fr)(I3:Inv X pins Z H s)
  (ok:(jY X (x::fs) scope x s.heap.objs.size s H ex).Ok) (hn:h4.Ns s.heap.objs.size m) (ZH:h4.IsCell 646 none) (old:∀b o,s.heap.get? b=some o->h4.get? b=some o):
  Inv (jY X (x::fs) scope x s.heap.objs.size s H ex) [] (none::slotsOf fr Z) H {s with heap:=h4,toks:=t}:=by
 have lX:=λn hn=>I3.ok.has n (.inl (S.free n hn).1);have sub:∀{y:Str}{c:Addr},(mO scope X.env).lookup y=some c->X.env.cells.lookup y=some c:=λh=>((jn lX).mp h).2;have two:∀{y:Str}{c:Addr},((x,s.heap.objs.size+1)::mO scope X.env).lookup y=some c->(y=x/\c=s.heap.objs.size+1)\/(mO scope X.env).lookup y=some c:=λ{y c} h=>by
  rw[ji]at h;cases e:(y==x)with
  |true=>rw[e]at h;exact .inl {dO e,(bT h).symm}
  |false=>rw[e]at h;exact .inr h
 refine{ok,9,I3.bare,Un.kept old,{m,hn,λi y v e1 e2 e3=>?_},λy c h=>?_,I3.bP.fresh (aw _),λy c h=>?_,λp hp=>absurd hp 59,I3.bP.kept old,?_}
 ·cases i with
  |zero=>
   have ud:(none:Aao)=some v:=by simpa using e2
   cases ud
  |succ j=>
   have ud:(slotsOf fr Z)[j]?=some (some v):=by simpa using e2
   unfold slotsOf at ud;rw[aX]at ud;cases hk:fr[j]? with
   |none=>rw[hk]at ud;cases ud
   |some k=>
    rw[hk]at ud;have e4:(Z[k]?).getD none=some v:=by simpa using ud
    have e5:Z[k]?=some (some v):=by
     cases q:Z[k]? with
     |none=>rw[q]at e4;cases e4
     |some z=>rw[q]at e4;exact cP some e4
    obtain⟨n1,n2⟩:=S.slots j y k 728 hk;obtain⟨m0,_,hl⟩:=I3.loc;obtain⟨u,ru,l⟩:=hl k y v n1 e5 (.inr (.inl (S.free y n2).1));have kc:=(S.free y n2).1;rcases l with⟨l,_⟩|⟨_,c,hc,cl⟩
    ·rw[kc]at l;cases l
    ·refine{u,ru,.inr {.inl ?_,c,?_,tJ old cl}};rotate_left
     ·have Ug:y≠x:=λz=>absurd (S.loc.symm.trans (z▸(S.free y n2).2)) 59;show((x,s.heap.objs.size+1)::mO scope X.env).lookup y=some c;rw[ji,cS.mpr Ug];exact(jn lX).mpr ⟨n2,hc⟩
     show(relabel scope X.env).names.lookup y=some .cell;rw[lW,(S.free y n2).2,I3.ok.kind,kc];rfl
 ·rcases two h with⟨_,e2⟩|h
  ·rw[e2];exact⟨none,ZH⟩
  ·obtain⟨v,z⟩:=I3.cell y c (sub h);exact{v,tJ old z}
 ·rcases two h with⟨_,e2⟩|h
  ·rw[e2];exact I3.bP.fresh (fq _)
  ·exact I3.nB y c (sub h)
 ·show(none::slotsOf fr Z).length=(x::fs).length;simp[slotsOf,S.len]
def IL{elt iter:Expr}{x:Str}{px:Pos}{ifs:List Expr}{scope:Scope}{pos:Pos}{wi:TI}{fs:Aag}{fr:List Nat}{tt:TT}{te:TE}(hc:X.calm=true)(S:qE X scope x fs fr)(hi:PI X 674 iter wi)
  (ht:∀C s H ex,CT (jY X (x::fs) scope x C s H ex) ifs tt) (he:∀C s H ex,PE (jY X (x::fs) scope x C s H ex) elt te) (hs:∀z,foldedSetIterable iter X.env z=pure z:=by intro _;rfl):
  PE X (.ListComp elt [{674,iter,ifs,0}] scope pos) (tD wi fr tt te):=by
 intro pins s Z H Q I h;refine vv (use:=none) rfl hs (xv λn hn=>I.ok.has n (.inl (S.free n hn).1)) S.kind S.names ?_;refine gj (hi pins s Z H _ I h) λv s1 h1=>gj h1 λZk s2 h2=>?_;obtain⟨it,fp,tn,J,H2,e,I2,T,Bp,f2,W,⟨m0,w0⟩,turn⟩:=h2;subst e;have bQ:∀b∈fp,b<s2.heap.objs.size:=λb hb=>by obtain⟨o,e,_⟩:=T.obj 0 _ Bp b hb;exact aW e
 refine cM (uq S.one (λh4 HK ZH BP=>?_));generalize MG:s2.heap.push {cls:=.type "list",dict:=none,data:=.seq ([]:Aaf).toArray}=g3 at HK ZH BP⊢;have hC:g3.objs.size=s2.heap.objs.size+1:=by rw[<-MG,dj]
 have zW:∀b o,s2.heap.get? b=some o->g3.get? b=some o:=λb o e=>MG▸aj _ e;have I3:=I2.kept (t':=s2.toks) zW;have X2:=MG▸aU _ rfl;have ok:=XR (fp:=fp) S I2 I3 rfl hC bQ f2;have I4:=Vl (t:=s2.toks) S I3 ok HK ZH BP;have Ep:=ok.MY s2.heap.objs.size aF;have U9:=ok.Ai s2.heap.objs.size aF;have EX:∀{H':Hp}{vs:Aaf}{k:Nat},(∀b∈fp,H' b=none)->∀b∈fp,oI 382 [(s2.heap.objs.size,lobj vs k)] H' b:=λ{H' vs k} hn b hb=>by
  have q:=ok.MY b (aG _ hb);refine{hn b hb,q.1,ok.Ai b (aG _ hb),.inl (aG _ hb),q.2,689};have e:p=(s2.heap.objs.size,lobj vs k):=by simpa using hp
  rw[e];exact cq (bQ b hb)
 have start:Inv 382 [(s2.heap.objs.size,lobj [] 0)] (none::slotsOf fr Z) H2 {s2 with heap:=h4,toks:=s2.toks}:=
  I4.qv λp hp=>by
   have e:p=(s2.heap.objs.size,lobj [] 0):=by simpa using hp
   subst e;exact{BP _ _ X2,I2.bP.fresh (aw _),Ep.1,U9,λv z=>by cases z}
 have Sb:tn 0 h4:=T.keep 0 _ _ Bp λb _ o e=>BP b o (zW b o e);have fin:∀{i:Nat}{σ0:Aao}{H':Hp}{ys:Aan}{vs:Aaf}{k:Nat}{s':Shared},Inv 382 [(s2.heap.objs.size,lobj vs k)] (σ0::slotsOf fr Z) H' s'->Vals ys vs->ys.length<=sizeLine->
   (∀l,H' l=none->Q 727 (upd H' l 682))->∃m,s'.heap.Ns g3.objs.size m/\∀h',Heap.SameBut g3.objs.size s'.heap h'->EP X pins Z Q (.ref s2.heap.objs.size) {s' with heap:=h'}:=by
  intro i σ0 H' ys vs k s' J1 rv hz q;obtain⟨m,hn,_⟩:=id J1.loc;refine{m,hn,λh' sb=>?_};have below:∀y c,X.env.cells.lookup y=some c->c<s2.heap.objs.size:=λy c z=>by obtain⟨v,q⟩:=I2.cell y c z;exact q.lt
  have mX:=λp hp=>aW (I2.pin p hp).1;have I5:=I3.ZX J1.os J1.base J1.bP J1.bare λb hb=>by
   rcases aN.mp hb with e|hb
   ·rw[e];exact{.inr I2.sz,cq I2.lt,λy c z=>aV (below y c z),λp hp=>aV (mX p hp)}
   ·exact{(f2 b hb).2.2.2.1,(f2 b hb).2.1,(f2 b hb).2.2.2.2.1,(f2 b hb).2.2.2.2.2}
  have qt:s2.heap.objs.size<g3.objs.size:=by lia
  have I6:=I5.turned (t':=s'.toks) (λb o hb e=>sb.extBut b o hb e) J1.free (cq (dI I2.lt qt)) (.inr (bC (gG I2.sz qt)))
   (λy c z=>aV (dI (below y c z) qt)) (λp hp=>aV (dI (mX p hp) qt))
  obtain⟨eD,nD,_⟩:=J1.pin (s2.heap.objs.size,lobj vs k) 59;exact{.ref s2.heap.objs.size,_,I6.adopt nD (sb.extBut _ _ Ep.1 eD) rv hz I2.sz (cq I2.lt) (λy c z=>aV (below y c z)) (λp hp=>aV (mX p hp)),9,q _ nD}
 have loop:∀s4:Shared,s4={s2 with heap:=h4,toks:=s2.toks}->
   codeAny 56 X.A (.compLoop (.ListComp elt [{674,iter,ifs,0}] scope pos) 0 (.ref it) (.ref s2.heap.objs.size) (compEnvC scope ((x,g3.objs.size+1)::mO scope X.env) g3.objs.size X.env))
    (compPost 56 X.A X.xe none 706 (.ref s2.heap.objs.size) g3.objs.size) s4:=by
  rintro s4 rfl;refine codeAny_compLoop_tests (λn s'=>∃i σ0 H' ys vs k,Inv 382 [(s2.heap.objs.size,lobj vs k)] (σ0::slotsOf fr Z) H' s'/\tn i s'.heap/\(∀b∈fp,H' b=none)/\Vals ys vs/\W i n ys H') ?_ m0
   {0,none,H2,[],[],0,start,Sb,λb hb=>(f2 b hb).1,.nil,w0}
  rintro n s' ⟨i,σ0,H',ys,vs,k,J1,st,UU,rv,w1⟩;rcases turn i n ys H' w1 with⟨stop,hz,q⟩|⟨go,hz,step⟩
  ·refine gj (T.done 382 9 9 9 hc i _ s' _ H' _ J1 (EX UU) st stop) λr s5 af9=>?_;obtain⟨hr,J2⟩:=af9;subst hr;exact fin (i:=i) J2 rv hz q
  ·refine gj (T.item 382 9 9 9 hc i _ s' _ H' _ J1 (EX UU) st go) λr s5 af8=>?_;obtain⟨u,hr,h5⟩:=af8;subst hr;change wpAny _ _ (letOwnedTupleGo 674 (.ref it) u>>=λ_=>assign 674 (compEnvC scope ((x,g3.objs.size+1)::mO scope X.env) g3.objs.size X.env) u) _ _ s5;refine ae (gj h5 λ_ s6 af7=>?_);obtain⟨v,H6,J6,r6,y6,KA,fr6⟩:=af7;refine dy (sJ (i:=0) S.nd 9 (.inr (K5 (env:=X.env) S.loc)) (.inl (wg x)) _ s6 _ H6 v u (λσ' H'=>σ'=some v::slotsOf fr Z/\H'=H6) (J6.pinned (fp:=fp) (EX fr6) (T.obj _ _ KA)) r6 ⟨rfl,rfl⟩) (λ_ s7 af6=>?_) (λ_ _ z=>z.elim);obtain⟨σ7,H7,J7,e7,e7'⟩:=af6;subst e7 e7';have SY:∀{σ8:St}{H8:Hp}{s8:Shared},Inv 382 ([(s2.heap.objs.size,lobj vs k)]++yN fp s6.heap) σ8 H8 s8->
     tn (i+1) s8.heap/\∀b∈fp,H8 b=none:=λ{σ8 H8 s8} J8=>by
    refine{T.keep _ _ _ KA λb hb o e=>(J8.pin (b,o) (bc _ (bc _ (oU hb e)))).1,692};obtain⟨o,e,d⟩:=T.obj _ _ KA b hb;exact(J8.pin (b,o) (bc _ (bc _ (oU hb e)))).2.1
   refine dy (ht _ _ _ _ _ s7 _ H7 _ J7 (step v H7 y6)) (λok8 s8 af5=>?_) (λ_ _ z=>z.elim);obtain⟨H8,J8,q8⟩:=af5;cases ok8 with
   |false=>
    obtain⟨m',hm,w8⟩:=q8;obtain⟨t8,n8⟩:=SY J8;exact{m',hm,i+1,some v,H8,ys,vs,k,J8.vx,t8,n8,rv,w8}
   |true=>
    refine dy (he _ _ _ _ _ s8 _ H8 _ J8 q8) (λy s9 af4=>?_) (λ_ _ z=>z.elim);obtain⟨yv,H9,J9,r9,m',hm,w9⟩:=af4;obtain⟨t9,n9⟩:=SY J9;obtain⟨eD,nD,_⟩:=J9.pin (s2.heap.objs.size,lobj vs k) 59;have hl:=rv.length;refine kZ ui ⟨_,eD,rfl⟩ sj (rP _ _) (uV s2.heap.objs.size vs.toArray k y (by rw[aP];lia)) {eD,?_};have eN:=wy (h:=s9.heap) (n:=k) eD (·.push y);have eV:vs.toArray.push y=(vs++[y]).toArray:=by simp
    rw[eV]at eN;obtain⟨k',eN⟩:∃k',(s9.heap.update s2.heap.objs.size (Obj.mapSeq (·.push y))).get? s2.heap.objs.size=some (lobj (vs++[y]) k'):=⟨_,eN⟩;have K10:Inv 382 [] (some v::slotsOf fr Z) H9 {s9 with heap:=s9.heap.update s2.heap.objs.size (Obj.mapSeq (·.push y))}:=
     (J9.qv λp hp=>absurd hp 59).turned (t':=s9.toks) (λb o hb e=>(cv s9.heap (Obj.mapSeq (·.push y)) (cL hb)).trans e) nD Ep.1 (.inl aF) Ep.2 (λp hp=>absurd hp 59)
    refine{m',hm,i+1,some v,H9,ys++[yv],vs++[y],k',K10.qv λp hp=>?_,T.keep _ _ _ t9 λb hb o e=>(cv s9.heap (Obj.mapSeq (·.push y)) (cq (bQ b hb))).trans e,n9,rv.append (.cons r9 .nil),w9};rw[(ay.mp hp)];exact{eN,nD,Ep.1,U9,λv z=>by cases z}
 exact yf (loop _ 9) (T.self X.A 0 _ _ _ Sb (loop _ 9))
def Wv{elt iter:Expr}{x:Str}{px:Pos}{scope:Scope}{pos:Pos}{wi:TI}{fs:Aag}{fr:List Nat}{te:TE}(hc:X.calm=true)(S:qE X scope x fs fr)(hi:PI X 674 iter wi)
  (he:∀C s H ex,PE (jY X (x::fs) scope x C s H ex) elt te) (hs:∀z,foldedSetIterable iter X.env z=pure z:=by intro _;rfl):
  PE X (.ListComp elt [{674,iter,[],0}] scope pos) (tD wi fr C9 te):=IL hc S hi (λ_ _ _ _=>Gz) he hs
def Qq{elt iter c:Expr}{x:Str}{px:Pos}{scope:Scope}{pos:Pos}{wi:TI}{fs:Aag}{fr:List Nat}{tc:TT}{te:TE}(hc:X.calm=true)(S:qE X scope x fs fr)(hi:PI X 674 iter wi)
  (ht:∀C s H ex,PT (jY X (x::fs) scope x C s H ex) c tc) (he:∀C s H ex,PE (jY X (x::fs) scope x C s H ex) elt te) (hs:∀z,foldedSetIterable iter X.env z=pure z:=by intro _;rfl):
  PE X (.ListComp elt [{674,iter,[c],0}] scope pos) (tD wi fr tc te):=IL hc S hi (λC s H ex=>Nj (ht C s H ex)) he hs
def Vj(osc:Scope)(N:Aag)(scope:Scope)(x:Str)(fs:Aag)(fr:List Nat):Bool:=
 scope.kind==.function&&scope.names.lookup x==some .cell&&scope.names.all (λy=>y.2 !=.local||scope.names.lookup y.1==some .local)&&(scope.names.filter λy=>y.2==.cell)==[(x,.cell)]&&
  (frees scope).all (λn=>osc.names.lookup n==some .cell&&scope.names.lookup n==some .free)&&decide ((x::fs).Nodup)&&fr.length==fs.length&&
  (List.range fs.length).all (λj=>match fs[j]?,fr[j]? with|some y,some k=>N[k]?==some y&&decide (y∈frees scope)|_,_=>false)
theorem Lx{x:Str}:∀{l:List (Str×NameKind)},(l.filter λy=>y.2==.cell)=[(x,.cell)]->∃a b,l=a++(x,.cell)::b/\(∀y∈a,y.2≠ .cell)/\∀y∈b,y.2≠ .cell
 |[],h=>by cases h
 |(y,k)::r,h=>by
  rw[cZ]at h;cases hk:(k==NameKind.cell)with
  |true=>
   simp only[hk,oY]at h;obtain⟨h1,h2⟩:=List.cons.inj h;refine{[],r,by rw[<-h1];rfl,59,λz hz e=>?_};have:z∈r.filter λy=>y.2==.cell:=c6.mpr {hz,by rw[e];rfl};rw[h2]at this;cases this
  |false=>
   simp only[hk,gH,kA]at h;obtain⟨a,b,e,ha,hb⟩:=Lx h;refine{(y,k)::a,b,by rw[e];rfl,λz hz=>?_,hb};rcases aN.mp hz with rfl|hz
   ·exactλe=>by rw[show k=.cell from e]at hk;cases hk
   ·exact ha z hz
def GA{scope:Scope}{x:Str}{fs:Aag}{fr:List Nat}(h:Vj X.env.scope X.N scope x fs fr=true:=by kernel_rfl):qE X scope x fs fr:=by
 unfold Vj at h;simp only[bO]at h;obtain⟨⟨⟨⟨⟨⟨⟨h1,h2⟩,h3⟩,h4⟩,h5⟩,h6⟩,h7⟩,h8⟩:=h;refine{dO h1,dO h2,λy hy e=>?_,Lx (dO h4),λn hn=>?_,aR h6,dO h7,λj y k e1 e2=>?_}
 ·have:=bL.mp h3 y hy;rw[e]at this;simpa using this
 ·have:=bL.mp h5 n hn;rw[bO]at this;exact{dO this.1,dO this.2}
 ·have:=bL.mp h8 j (cD.mpr (aq.mp e1).1);rw[e1,e2]at this;simp only[bO]at this;exact{dO this.1,aR this.2}
end
end L2
namespace L2
open PySem PySem.Spec PyProof.Rows uU
section
variable{prog:Program}{w:World}{κ:Type}[DecidableEq κ]{kd:HeapKind prog w κ}{A:Around}{E:Aad}{s:Shared}
def FF(hu:kd.room A)(yc:kd.is s.heap k a)(hm:s.heap.DictOfH kd d xs)
  (h1:∀p,atKey xs k=some p->Q p.2 {s with toks:=s.toks+kd.draws k})
  (h2:atKey xs k=none->∀h',h'.DictOfH kd d (storedH xs k a v)->Heap.SameBut d s.heap h'->Q v {s with heap:=h',toks:=s.toks+kd.draws k}) (hsz:xs.length<=sizeLine):
  wpAny 58 A (dictSetDefault d 654 v) Q E s:=by
 obtain⟨o,es,ep,ho,hc,hd,he,his,hn⟩:=hm;unfold dictSetDefault
 try with_reducible refine cm ?_
 have lz:=size_of_entries he;refine ae (kd.pyHash hu yc (ae (wpAny_dictFind_heap hu yc ho hd he his hn (λza=>?_) (λj p hj=>?_))))
 ·have nk:=not_mem_keys_of_get za;have e0:=atKey_none_of_get za;have e1:=storedH_new e0;refine ae (j6 (ae (wpAny_updateDictKeys ho hd (ao (h2 e0 _ {_,_,ep+1,eK _ ho (Obj.isFreed_of_dict (Ay hd _)),hc.mapDictKeys _,Ay hd _,?_,?_,?_} (cE ..))))))
  ·rw[e1,aE,<-he];simp[entryOfKey]
  ·rw[e1];intro x hx;rcases aS.mp hx with q|q
   ·exact kd.keeps (his x q) ho hd (cE ..)
   ·rw[ay.mp q];exact kd.keeps yc ho hd (cE ..)
  ·rw[e1,aE];refine fE.mpr {hn,59,λx hx y hy e=>?_};have Uh:y=k:=by simpa using hy
   exact nk (by rw[<-Uh,<-e];exact hx)
 ·refine ae (lN ho hd ?_);rw[PySem.entry_at he j,hj];exact ae (j6 (ao (h1 p (atKey_of_get hn hj))))
def DG(kd:HeapKind prog w κ)(d a:Addr)(hd:(d==sysModules)=false)(z:Value):
  MeetsIn prog w (Builtin.«dict.setdefault» {[.ref d,.ref a,z],[]}) (λA R s=>kd.room A.in1/\∃k xs,kd.is s.heap k a/\s.heap.DictOfH kd d xs/\xs.length<=sizeLine/\
   (∀p,atKey xs k=some p->R (.ok (.ret p.2)) {s with toks:=s.toks+kd.draws k})/\
   (atKey xs k=none->∀h',h'.DictOfH kd d (storedH xs k a z)->Heap.SameBut d s.heap h'->R (.ok (.ret z)) {s with heap:=h',toks:=s.toks+kd.draws k})):=
 .of_wp λA R s ⟨hu,k,xs,yc,hm,hz,h1,h2⟩=>by refine ae ?_;refine ae (jG hm.typeIs ?_);refine ao ?_;show wpAny _ _ (if(d==sysModules)=true then _ else(dictSetDefault d 654 z>>=_)) _ _ s;rw[aH (hd▸bD)];exact ae (FF hu yc hm (λp hp=>ao {_,9,h1 p hp}) (λhn h' m' b'=>ao {z,9,h2 hn h' m' b'}) hz)
def abo(hd:(d==sysModules)=false)(ho:s.heap.get? d=some o)(hx:o.ExactDict)(agW:o.data=.dict es ep)(ahD:(es.size:Int)<2^63)
  (h:∀t t',Q (.int es.size t) {s with toks:=t'}):wpAny 58 A (call (.builtin "len") [.ref d]) Q E s:=by
 have ty:s.TypeIs 700 "dict":={o,ho,hx.1};refine kg kind_len plain_len entry_len (args_len1 _) ?_;refine ae 660;refine ae (wpAny_callSpecial?_slot ty F.slot_dict_len
  (b6 F.slot_dict_len ty F.entry_dict_len ?_ (F.args_dict_len_1 _)))
 show wpAny _ _ (dictSize d>>=_) _ _ s;refine ae (ae (lN ho agW 660));refine ae (wpAny_pendingCount_other hd ?_);refine ae (wpAny_mkInt (ao {_,9,?_}));refine ae (cm 660);refine ae (DY ?_);rw[aH ∅];rw[aH ∅];exact ae (wpAny_mkInt (ao {_,9,h _ _}))
end
section
variable{X:Cx}{pins:Aab}{Z:St}{H:Hp}{s:Shared}{A:Around}{E:Aad}{a b:Addr}{kvs:List (NK×Addr×V)}{k:NK}{z:V}
def Vd(hu:A.units+101<cLine)(I:Inv X pins Z H s)(h:iy X.prog X.w X.K H a kvs)(hk:iE X.K H k b)(lH:kvs.length<10000000)(rv:RelV z r)
  (q1:∀v w' s',valN kvs k=some v->Inv X pins Z H s'->RelV v w'->Q w' s')
  (q2:valN kvs k=none->∀s',Inv X pins Z (upd H a (.ext (DN X.prog X.w a (putN kvs k b z)))) s'->Q r s'):wpAny 56 A (call (.builtin "dict.setdefault") [.ref a,.ref b,r]) Q E s:=by
 obtain⟨lo,xs,rel,hl,dd⟩:=I.Ak h;have lx:xs.length<=sizeLine:=by rw[<-rel.length,bW];lia
 have e:=De rel k;refine kE gM dd.typeIs rT (rE _ _ _) (DG (p6 X.prog X.w) a b lo r)
  {show A.units+1+100<cLine by lia,k,xs,I.L8 hk,dd,lx,689,λhn h' rm hs=>?_}
 ·rw[hp]at e;cases ev:valN kvs k with
  |none=>rw[ev]at e;exact e.elim
  |some v=>rw[ev]at e;exact q1 v _ _ ev 680 e
 ·rw[hn]at e;cases ev:valN kvs k with
  |some v=>rw[ev]at e;exact e.elim
  |none=>
   obtain⟨o,es,ep,g,x2,x3,x4,_,x5⟩:=rm;have lp:=vP (kvs:=kvs) (k:=k) (b:=b) (v:=z);refine q2 ev _ (sU I ?_ hs ⟨o,g⟩ (ZV {lo,_,K6 rel rv,8,o,es,ep,g,x2,x3,x4,x5}));rcases h.1 with e|⟨_,e⟩<;>rw[e]<;>exact True.intro
def abP(hu:A.units+101<cLine)(I:Inv X pins Z H s)(h:iy X.prog X.w X.K H a kvs)(hk:iE X.K H k b)(rv:RelV z r)(q:∀w' s',Inv X pins Z H s'->RelV ((valN kvs k).getD z) w'->Q w' s'):
  wpAny 56 A (call (.builtin "dict.get") [.ref a,.ref b,r]) Q E s:=by
 obtain⟨lo,xs,rel,hl,dd⟩:=I.Ak h;exact kE fH dd.typeIs jq (pB _ _ _) (wN (p6 X.prog X.w) a b lo r)
  {show A.units+1+100<cLine by lia,k,xs,I.L8 hk,dd,q _ _ 680 ((De rel k).getD rv)}
def O4(I:Inv X pins Z H s)(h:iy X.prog X.w X.K H a kvs):s.TypeIs 654 "dict"/\∀b,Value.ref a=.ref b->∃ob,s.heap.get? b=some ob/\ob.dict=none:=by obtain⟨lo,xs,rel,hl,dd⟩:=I.Ak h;refine{dd.typeIs,λb q=>?_};cases q;obtain⟨ob,_,_,h1,h2,_⟩:=dd;exact{ob,h1,h2.2.1}
def ad9(I:Inv X pins Z H s)(h:iy X.prog X.w X.K H a kvs)(q:∀t s',Inv X pins Z H s'->Q (.int kvs.length t) s'):wpAny 56 A (call (.builtin "len") [.ref a]) Q E s:=by
 obtain⟨lo,xs,rel,hl,o,es,ep,g,hx,hd,he,_⟩:=I.Ak h;have l1:es.size=kvs.length:=by rw[size_of_entries he,rel.length]
 refine abo lo g hx hd ∅ λt t'=>?_;rw[l1];exact q t _ 680
end
inductive R8(P:Program)(w:World)(K:Frag)(ty:TE)(tz:TE)(Z:St)(Q:VK)(x:V)(H1:Hp):Prop
 |mk a L3 (_:x=.ref a) (_:iy P w K H1 a L3) (_:ty Z H1 λy H2=>tz Z H2 λz H3=>∃b kvs k,y=.ref b/\iy P w K H3 a kvs/\iE K H3 k b/\kvs.length<10000000/\(∀v,valN kvs k=some v->Q v H3)/\(valN kvs k=none->Q z (upd H3 a (.ext (DN P w a (putN kvs k b z))))))
def VO(P:Program)(w:World)(K:Frag)(td ty tz:TE):TE:=λZ H Q=>td Z H λx H1=>R8 P w K ty tz Z Q x H1
inductive VQ(P:Program)(w:World)(K:Frag)(ty:TE)(tz:TE)(Z:St)(Q:VK)(x:V)(H1:Hp):Prop
 |mk a L3 (_:x=.ref a) (_:iy P w K H1 a L3) (_:ty Z H1 λy H2=>tz Z H2 λz H3=>∃b kvs k,y=.ref b/\iy P w K H3 a kvs/\iE K H3 k b/\Q ((valN kvs k).getD z) H3)
def aaE(P:Program)(w:World)(K:Frag)(td ty tz:TE):TE:=λZ H Q=>td Z H λx H1=>VQ P w K ty tz Z Q x H1
section
variable{X:Cx}{o e f:Expr}{apos fS:Pos}{td ty tz:TE}
def FQ(hu:X.A.units+101<cLine)(ho:PE X o td)(he:PE X e ty)(hf:PE X f tz)(m:M2 X o "setdefault" apos e f fS):PE X (.Call (.Attribute o "setdefault" apos) [e,f] [] fS) (VO X.prog X.w X.K td ty tz):=by intro pins s Z H Q I h;refine pD m.base m.mz m.line eU gM l9 (de 731 λu s1 x H1 I1 rx af3=>?_);obtain⟨a,L3,ex,d,q1⟩:=af3;subst ex;obtain rfl:u=Value.ref a:=rx;obtain⟨t1,t2⟩:=O4 I1 d;refine{t1,t2,?_};rw[m.trees];refine fY rfl (kf (fP (de (he pins s1 Z H1 _ I1 q1) λiv s2 y H2 I2 ry q2=>fP (de (hf pins s2 Z H2 _ I2 q2) λfv s3 z H3 I3 rz ⟨b,kvs,k,ey,g,hk,hl,k1,k2⟩=>j5 ?_))));subst ey;obtain rfl:iv=Value.ref b:=ry;exact Vd hu I3 g hk hl rz (λv w' s4 ev I4 r4=>{v,H3,I4,r4,k1 v ev}) λev s4 I4=>{z,_,I4,rz,k2 ev}
def IJ(hu:X.A.units+101<cLine)(ho:PE X o td)(he:PE X e ty)(hf:PE X f tz)(m:M2 X o "get" apos e f fS):PE X (.Call (.Attribute o "get" apos) [e,f] [] fS) (aaE X.prog X.w X.K td ty tz):=by intro pins s Z H Q I h;refine pD m.base m.mz m.line eU fH qC (de 731 λu s1 x H1 I1 rx af2=>?_);obtain⟨a,L3,ex,d,q1⟩:=af2;subst ex;obtain rfl:u=Value.ref a:=rx;obtain⟨t1,t2⟩:=O4 I1 d;refine{t1,t2,?_};rw[m.trees];refine fY rfl (kf (fP (de (he pins s1 Z H1 _ I1 q1) λiv s2 y H2 I2 ry q2=>fP (de (hf pins s2 Z H2 _ I2 q2) λfv s3 z H3 I3 rz ⟨b,kvs,k,ey,g,hk,k1⟩=>j5 ?_))));subst ey;obtain rfl:iv=Value.ref b:=ry;exact abP hu I3 g hk rz λw' s4 I4 r4=>⟨_,H3,I4,r4,k1⟩
def JC:ic X (.builtin "len") (λxs H Q=>∃a kvs,xs=[V.ref a]/\iy X.prog X.w X.K H a kvs/\Q (.int kvs.length) H):=by intro pins s Z H xs us Q I r h;obtain⟨a,kvs,rfl,ha,q⟩:=h;obtain⟨u,rfl,ru⟩:=jH r;cases ru;exact ad9 I ha λt s' I'=>{.int kvs.length,H,I',⟨t,rfl⟩,q}
inductive abw(P:Program)(w:World)(K:Frag)(R:It->Hp->Prop)(x:V)(H1:Hp):Prop
 |mk d u kvs (_:x=.ref d) (_:H1 d=some u) (_:iy P w K H1 d kvs) (_:∀o,R (Vz d o u (kvs.map λp=>(.ref p.2.1,p.2.2))) (upd H1 d (.gE o u)))
def adx(P:Program)(w:World)(K:Frag)(tl:TE):TI:=λZ H R=>tl Z H λx H1=>abw P w K R x H1
def Wn(hl:PE X l tl):PI X tg l (adx X.prog X.w X.K tl):=by
 intro pins s Z H R I h;refine de (hl pins s Z H _ I h) λv s1 x H1 I1 r1 q1=>?_;obtain⟨d,u,kvs,e,hd,hv,q⟩:=q1;subst e;cases r1;obtain⟨lo,xs,rel,_,o,es,ep,ga,hx,hdt,he,_⟩:=I1.Ak hv;have ents:∀{l:List 645}{xs:List (NK×Addr×Value)},Paired 641 l xs->Paired (λ(p:V×V)(e:DictEntry)=>RelV p.1 e.key/\RelV p.2 e.val) (l.map λp=>(V.ref p.2.1,p.2.2)) (xs.map (entryOfKey (p6 X.prog X.w))):=λr=>by
  induction r with
  |nil=>exact .nil
  |@cons p q ps qs h _ ih=>exact .cons {by show Value.ref q.2.1=Value.ref p.2.1;rw[h.2.1],h.2.2} ih
 have m:X5 o es ep (kvs.map λp=>(V.ref p.2.1,p.2.2)):={hx,hdt,he▸ents rel};have I2:Inv X pins Z (upd H1 d (.gE o u)) s1:=by
  rcases hv.1 with e|⟨_,e⟩
  ·rw[hd]at e;cases e;exact I1.Pu hd ga
  ·rw[hd]at e;cases e;exact I1.freeze hd ga
 refine OC lo ga m.1 m.2.1 ?_;refine{s1.heap.objs.size,[s1.heap.objs.size],_,_,_,9,I2.kept λb o e=>aj _ e,R4 m,{_,676,9,9},692,q o};have e:b=s1.heap.objs.size:=by simpa using hb
 subst e;exact I2.v9 (aw _) (I2.bP.fresh (aw _))
def lA(n:Nat)(k:NK):Prop:=(NK.toD k).canLay0=true/\(NK.toD k).depth<=n/\NK.deep k<=n
def Xi{n:Nat}:lA n .cz:={by simp[NK.toD,PyData.canLay0],by simp[NK.toD,PyData.depth],by simp[NK.deep]}
def EW{n:Nat}(i:Int):lA n (.key (.inl i)):={by simp[NK.toD,PyData.canLay0],by simp[NK.toD,PyData.depth],by simp[NK.deep]}
def sQ(h:PyData.strOk z=true):lA n (.key (.inr z)):={by simp[NK.toD,PyData.canLay0,h],by simp[NK.toD,PyData.depth],by simp[NK.deep]}
theorem MQ:∀{ks:List NK},(∀k∈ks,lA n k)->PyData.canLayAll0 (NK.nq ks)=true/\PyData.depthAll (NK.nq ks)<=n/\NK.o6 ks<=n
 |[],_=>{by simp[NK.nq,PyData.canLayAll0],by simp[NK.nq,PyData.depthAll],by simp[NK.o6]}
 |k::ks,h=>by
  obtain⟨a1,a2,a3⟩:=h k aF;obtain⟨b1,b2,b3⟩:=MQ λk hk=>h k (aG _ hk);refine{by simp[NK.nq,PyData.canLayAll0,a1,b1],?_,?_}
  ·simp only[NK.nq,PyData.depthAll];lia
  ·simp only[NK.o6];lia
def ou(h:∀k∈ks,lA n k):lA (n+1) (.tup ks):=by obtain⟨b1,b2,b3⟩:=MQ h;refine{by simp only[NK.toD,PyData.canLay0];exact b1,by simp only[NK.toD,PyData.depth];lia,by simp only[NK.deep];lia}
def lA.good(h:lA n k)(hn:n<=07):RO k:={h.1,br h.2.1 hn,br h.2.2 hn}
def iP(zs:Aag):NK:=.tup (zs.map λz=>.key (.inr z))
def OS(h:iP xs=iP ys):xs=ys:=by injection h with h;exact List.map_inj_right (λa b e=>by injection e with e;injection e)|>.mp h
def MP(h:∀z∈zs,PyData.strOk z=true):lA 1 (iP zs):=ou λk hk=>by obtain⟨z,hz,rfl⟩:=aD.mp hk;exact sQ (h z hz)
theorem LD{K:Frag}:∀zs:Aag,rJ K H (zs.map λz=>NK.key (.inr z)) 648
 |[]=>by rw[fI,rJ];rfl
 |z::r=>by exact{_,_,9,by rw[NV];rfl,LD r}
def Tj{K:Frag}(h:aY K H a 648):NV K H (iP zs) 654:=by unfold iP;exact{a,_,9,h,LD zs}
def L5{K:Frag}(h:aY K H a 648)(hz:∀z∈zs,PyData.strOk z=true):iE K H (iP zs) a:={Tj h,(MP hz).good 7}
def ac5{K:Frag}(h:NV K H (iP zs) 654):aY K H a 648:=by
 have all:∀{zs:Aag}{xs:Aan},rJ K H (zs.map λz=>NK.key (.inr z)) xs->xs=zs.map V.str:=by
  intro zs
  induction zs with
  |nil=>intro xs h;rw[fI,rJ]at h;exact h
  |cons z r ih=>
   intro xs h;obtain⟨x,t,rfl,h1,h2⟩:=h;rw[h1,ih h2];rfl
 unfold iP at h;obtain⟨b,xs,e,hq,h⟩:=h;cases e;rw[<-all h];exact hq
def yQ(z:Str)(n:Nat):NK:=.tup [.key (.inr z),.key (.inl n)]
def xl(z:Str)(n i:Nat)(t:Str):NK:=.tup [.key (.inr z),.key (.inl n),.key (.inl i),.key (.inr t)]
def L7{K:Frag}{H:Hp}{a:Addr}{z:Str}{n:Nat}(h:aY K H a [.str z,.int n])(hz:PyData.strOk z=true):iE K H (yQ z n) a:=by
 refine{?_,(ou (n:=0) λk hk=>?_).good 7}
 ·unfold yQ;refine{a,_,9,h,?_};exact⟨_,_,rfl,rfl,_,_,rfl,rfl,rfl⟩
 ·simp only[aN,qm,EO]at hk;rcases hk with rfl|rfl
  ·exact sQ hz
  ·exact EW _
def L6{K:Frag}{H:Hp}{a:Addr}{z t:Str}{n i:Nat}(h:aY K H a [.str z,.int n,.int i,.str t])(hz:PyData.strOk z=true)(ht:PyData.strOk t=true):iE K H (xl z n i t) a:=by
 refine{?_,(ou (n:=0) λk hk=>?_).good 7}
 ·unfold xl;refine{a,_,9,h,?_};exact⟨_,_,rfl,rfl,_,_,rfl,rfl,_,_,rfl,rfl,_,_,rfl,rfl,rfl⟩
 ·simp only[aN,qm,EO]at hk;rcases hk with rfl|rfl|rfl|rfl
  ·exact sQ hz
  ·exact EW _
  ·exact EW _
  ·exact sQ ht
def abk{z z':Str}{n n':Nat}:yQ z n=yQ z' n'↔z=z'/\n=n':=by unfold yQ;simp only[NK.tup.injEq,nK,NK.key.injEq,A7,Sum.inl.injEq,Fl,Int.ofNat_inj]
def abj{z z' t t':Str}{n n' i i':Nat}:xl z n i t=xl z' n' i' t'↔z=z'/\n=n'/\i=i'/\t=t':=by unfold xl;simp only[NK.tup.injEq,nK,NK.key.injEq,A7,Sum.inl.injEq,Fl,Int.ofNat_inj]
def ac6{z z' t':Str}{n n' i':Nat}:yQ z n≠xl z' n' i' t':=by unfold yQ xl;simp
def nO(e:p.1=k):valN (p::r) k=some p.2.2:=by unfold valN;rw[fW (p:=λp:NK×Addr×V=>decide (p.1=k)) (bj e)];rfl
def nP(e:¬p.1=k):valN (p::r) k=valN r k:=by unfold valN;rw[fX (p:=λp:NK×Addr×V=>decide (p.1=k)) (λq=>e (aR q))]
theorem Kk:∀kvs:List 645,valN (kvs.map λp=>if p.1=k then(p.1,p.2.1,v)else p) j=(valN kvs j).map λx=>if j=k then v else x
 |[]=>rfl
 |p::r=>by
  have ih:=Kk (k:=k) (j:=j) (v:=v) r;rw[bt];by_cases h:p.1=k
  ·rw[aK h];by_cases e:p.1=j
   ·rw[nO (p:=(p.1,p.2.1,v)) e,nO e,jN,aK (e.symm.trans h)]
   ·rw[nP (p:=(p.1,p.2.1,v)) e,nP e,ih]
  ·rw[aH h];by_cases e:p.1=j
   ·rw[nO e,nO e,jN,aH (λz=>h (e.trans z))]
   ·rw[nP e,nP e,ih]
theorem Iq:∀kvs:List 645,valN kvs k=none->valN (kvs++[(k,a,v)]) j=if j=k then some v else valN kvs j
 |[],_=>by
  by_cases e:k=j
  ·rw[aK e.symm];exact nO e
  ·rw[aH (λz=>e z.symm)];exact nP e
 |p::r,hn=>by
  rw[qo];have hk:¬p.1=k:=λz=>by rw[nO z]at hn;cases hn
  rw[nP hk]at hn;by_cases e:p.1=j
  ·rw[nO e,nO e,aH (λz=>hk (e.trans z))]
  ·rw[nP e,nP e,(Iq (j:=j) (a:=a) (v:=v) r hn)]
def tP:valN (putN kvs k a v) j=if j=k then some v else valN kvs j:=by
 unfold putN;split
 ·next hs=>
  rw[Kk];by_cases c:j=k
  ·obtain⟨x,hx⟩:=wC.mp hs;rw[aK c,c,hx,jN,aK rfl]
  ·rw[aH c];cases valN kvs j with
   |none=>rfl
   |some x=>rw[jN,aH c]
 ·next hs=>
  refine Iq kvs ?_;cases e:valN kvs k with
  |none=>rfl
  |some x=>rw[e]at hs;exact absurd rfl hs
def LN(h:p∈putN kvs k a v):(∃q∈kvs,p.1=q.1/\p.2.1=q.2.1)\/(p.1=k/\p.2.1=a):=by
 unfold putN at h;split at h
 ·obtain⟨q,hq,rfl⟩:=aD.mp h;refine .inl {q,hq,?_};split<;>exact⟨rfl,rfl⟩
 ·rcases aS.mp h with h|h
  ·exact .inl ⟨p,h,rfl,rfl⟩
  ·rw[ay.mp h];exact .inr ⟨rfl,rfl⟩
def TZ{kvs:List 645}{k j:NK}{a:Addr}{v:V}:(∃p∈putN kvs k a v,p.1=j)↔j=k\/∃p∈kvs,p.1=j:=by
 have key:∀(l:List 645)(j:NK),(∃p∈l,p.1=j)↔(valN l j).isSome=true:=by intro l j;unfold valN;rw[gP,DQ];exact{λ⟨p,hp,e⟩=>{p,hp,bj e},λ⟨p,hp,e⟩=>{p,hp,aR e}}
 rw[key,key,tP];by_cases c:j=k
 ·rw[aK c];simp[c]
 ·rw[aH c];simp[c]
def OY{kvs:List 645}{j:NK}:(∃p∈kvs,p.1=j)↔(valN kvs j).isSome=true:=by unfold valN;rw[gP,DQ];exact{λ⟨p,hp,e⟩=>{p,hp,bj e},λ⟨p,hp,e⟩=>{p,hp,aR e}}
end
end L2
namespace L2
open PySem PySem.Spec PyProof.Rows PySem.W uU
section
variable{X:Cx}
inductive aaS(x:V)(vs:Aan)(H:Hp)(Q:VK):Prop
 |mk (l:Addr) (zs:List Int) (z:Int) (j:Nat) (_:x=.ref l) (_:vs=[.int z]) (_:H l=some (.lst (zs.map V.int))) (_:zs[j]?=some z) (_:(∀m,m<j->zs[m]?≠some z)) (_:Q (.int (j:Int)) H)
def IV:Z7 X "list.index" aaS:=by
 intro pins s Z H x vs v us Q I rx rv h;obtain⟨l,zs,z,j,rfl,rfl,hH,hj,za,q⟩:=h;cases rx;obtain⟨u,rfl,ru⟩:=rv.one;obtain⟨t,rfl⟩:=ru;obtain⟨z',a9,n,r,hl,e⟩:=I.ya hH;have eat:∀m,(m:Nat)<a9.length->∃y t',a9[m]?=some (.int y t')/\zs[m]?=some y:=λm hm=>by
  have hz:m<zs.length:=by have:=r.length;rw[ah]at this;lia
  obtain⟨u',oq,ru'⟩:=r.get (by rw[aX,av hz];rfl);obtain⟨t',rfl⟩:=ru';exact{zs[m],t',oq,av hz}
 have lz:=r.length;rw[ah]at lz;have lJ:j<a9.length:=by have:=(aq.mp hj).1;lia
 have sl:=yT
 let eq:Value->Bool:=λy=>match y with| .int a _=>a==z|_=>false
 have agP:∀y,y∈a9.toArray->MeetsSeq.EqGives y (.int z t) (eq y):=λy hy=>by obtain⟨m,hm⟩:=List.getElem?_of_mem (by simpa using hy:y∈a9);obtain⟨a,t',e1,_⟩:=eat m (aq.mp hm).1;rw[hm]at e1;cases e1;exact MeetsSeq.EqGives.int a z t' t
 have adC:∀m(hm:m<a9.toArray.size),∃a t',a9.toArray[m]=.int a t'/\zs[m]?=some a:=λm hm=>by obtain⟨a,t',e1,e2⟩:=eat m (by simpa using hm);refine{a,t',?_,e2};have:=(aq.mp e1).2;simpa using this
 have hjs:j<a9.toArray.size:=by simpa using lJ
 refine kZ F.slot_list_index ⟨_,e,rfl⟩ F.entry_list_index (F.args_list_index_2 _ _) (MeetsSeq.list_index l a9.toArray n (.int z t) eq agP j hjs ∅ ?_ λm hm bQ=>?_) {e,{.int _,H,680,723,q}}
 ·obtain⟨a,t',e1,e2⟩:=adC j hjs;rw[e1];rw[hj]at e2;cases e2;show(z==z)=true;simp
 ·obtain⟨a,t',e1,e2⟩:=adC m hm;rw[e1];exact cS.mpr λh=>za m bQ (by rw[e2,h])
variable{pins:Aab}{Z:St}{H:Hp}{s:Shared}
def Inv.aeh(I:Inv X pins Z H s)(hn:H D=none)(new:dP X.prog X.w (upd H D o) s.heap D o)
  (h1:X.aac.heap.objs.size<=D) (hL:D≠X.env.locals) (h2:∀x c,X.env.cells.lookup x=some c->c≠D) (h3:∀p∈X.pn++pins,p.1≠D):Inv X pins Z (upd H D o) s:=by
 have nD:∀b u,H b=some u->b≠D:=λb u q z=>by rw[z,hn]at q;cases q
 have bP:j3 X.prog X.w (upd H D o) s.heap:=λb u q=>by
  by_cases hb:b=D
  ·subst hb;rw[au]at q;cases q;exact new
  ·rw[aL hb]at q;exact(I.bP b u q).qJ (λ_ _ _ z=>z) (λc z=>by rw[aL (nD c _ z)];exact z) λc xs z=>by rw[aL (nD c _ z)];exact z
 have J:=I.step (t':=s.toks) (d':=s.drawn) (ch:=[D])
  (λb hb=>by
   have e':b=D:=by simpa using hb
   subst e';exact{.inr h1,hL,h2,h3})
  (λb o _ _ _ q _=>q) (λb o _ _ _ q _=>{o.slots,q}) (λb o hc _ n=>by rw[aL λz=>hc (by simp[z])];exact n) (λb o _ q=>⟨o,q⟩)
  (λb xs q=>by rw[aL (nD b _ q)];exact q) (λb o u q=>by rw[aL (nD b _ q)];exact q) (λb ps q=>{#[],by rw[aL (nD b _ q),q];simp}) (λm hm=>hm) bP I.bare
 exact J
theorem Inv.GI{lo:Addr}(hlo:∀{H:Hp},Inv X pins Z H s->X.aac.heap.objs.size<=lo/\X.env.locals<lo/\(∀x c,X.env.cells.lookup x=some c->c<lo)/\∀p∈X.pn++pins,p.1<lo):
  ∀(as:Aai)(ps:List 667)(H:Hp),Inv X pins Z H s->as.length=ps.length->as.Nodup->(∀a∈as,lo<=a/\H a=none)->
   (∀(j:Nat) a p,as[j]?=some a->ps[j]?=some p->∃t u,s.heap.get? a=some {cls:=.type "tuple",data:=.seq #[.str p.1 t,.str p.2 u]})->
   ∃H',Inv X pins Z H' s/\(∀b u,H b=some u->H' b=some u)/\(∀b,b∉as->H' b=H b)/\∀(j:Nat) a p,as[j]?=some a->ps[j]?=some p->H' a=some (.tup [.str p.1,.str p.2])
 |[],[],H,I,_,_,_,_=>{H,I,λ_ _ h=>h,λ_ _=>9,λj a p e=>by simp at e}
 |[],_::_,_,_,e,_,_,_=>by simp at e
 |_::_,[],_,_,e,_,_,_=>by simp at e
 |a::as,p::ps,H,I,e,nd,fr,tp=>by
  obtain⟨n1,n2⟩:=dg.mp nd;obtain⟨l1,l2,l3,l4⟩:=hlo I;obtain⟨ha,hna⟩:=fr a aF;obtain⟨t,u,g⟩:=tp 0 a p rfl rfl;have I1:=I.aeh (o:=.tup [.str p.1,.str p.2]) hna {96,[.str p.1 t,.str p.2 u],.cons ⟨t,rfl⟩ (.cons ⟨u,rfl⟩ .nil),{_,g,9,0,9},_,g,9} (br l1 ha) (cq (bw l2 ha))
   (λx c h=>aV (bw (l3 x c h) ha)) (λq hq=>aV (bw (l4 q hq) ha))
  obtain⟨H',I2,k1,k2,k3⟩:=Inv.GI hlo as ps _ I1 (by simpa using e) n2 (λb hb=>{(fr b (aG _ hb)).1,by rw[aL (show b≠a fromλz=>n1 (z▸hb))];exact(fr b (aG _ hb)).2})
   (λj b q e1 e2=>tp (j+1) b q 728 (by simpa using e2))
  refine{H',I2,λb v h=>k1 b v (by rw[aL (bA h hna)];exact h),692,λj b q e1 e2=>?_}
  ·rw[k2 b (λz=>hb (aG _ z)),aL (λz=>hb (by rw[z];exact aF))]
  ·cases j with
   |zero=>
    obtain rfl:a=b:=by simpa using e1
    obtain rfl:p=q:=by simpa using e2
    rw[k2 a n1];exact au
   |succ j=>exact k3 j b q 728 (by simpa using e2)
def GP(r d:Addr):Heap->Prop:=λh=>h.IsItemsView r d
end
def adn(x:GP r d h):dP P w H h r (.ext (GP r d)):=
 {x,let⟨o,q,_⟩:=x;⟨o,q⟩,λ_ _ ⟨o,q,z⟩ k=>{o,k _ q,z}}
inductive aaB(Q:VK)(x:V)(H1:Hp):Prop
 |mk d kvs (_:x=.ref d) (_:H1 d=some (.dK kvs)) (_:∀p,H1 p=none->Q (.ref p) (upd H1 p (.ext (GP p d))))
def acj(td:TE):TE:=λZ H Q=>td Z H λx H1=>aaB Q x H1
def Wq{X:Cx}{apos fS:Pos}{l:Expr}{tl:TE}(hl:PE X l tl)(Gi:attributeBase l "items" X.env (eval l X.env)=eval l X.env:=by rfl)(Gf:714=true:=by rfl):
  PE X (.Call (.Attribute l "items" apos) [] [] fS) (acj tl):=by
 intro pins s Z H R I h;refine wM Gi Gf (de (hl pins s Z H _ I h) λv s1 x H1 I1 r1 q1=>?_);obtain⟨d,kvs,e,hd,q⟩:=q1;subst e;cases r1;obtain⟨lo,o,es,ep,ga,m⟩:=PD (I1.bP d _ hd) (.inl ⟨kvs,rfl,rfl⟩);have ty:s1.TypeIs 700 "dict":={o,ga,m.1.1};refine{"dict","dict.items",eU,wR,PySem.F.type_dict_items,ty,λb q=>?_,fY rfl (Be ?_)}
 ·cases q;exact{o,ga,m.1.2.1}
 ·refine b6 wR ty PySem.F.entry_dict_items ?_ (PySem.F.args_dict_items_1 _);refine ae (ae (jG ty 660));unfold Builtin.Dict.showsAll;rw[lo];refine ae (ao (ae (cM (ao {_,9,?_}))));exact{.ref s1.heap.objs.size,_,I1.laid (λb o e=>aj _ e) (aw _) (adn {_,676,9,9}),9,q _ 716}
def rowsOf(g:List 667):Aaa:=g.map λp=>[p.1,p.2]
abbrev RM(H:Hp):Aan->Aaa->Prop:=Paired λ(y:V)(zs:Aag)=>∃a,y=.ref a/\H a=some (.tup 648)
theorem K3{X:Cx}{pins:Aab}{Z:St}{H:Hp}{s:Shared}(I:Inv X pins Z H s):∀{zs:Aan}{rows:Aaa},fA X.K H zs rows->(∀z∈zs,∃a xs,z=.ref a/\H a=some 664)->RM H zs rows
 |_,_,.nil,_=>.nil
 |_,_,.cons ⟨a,e,hq⟩ t,h=>by subst e;obtain⟨a',xs,e',h'⟩:=h _ aF;cases e';refine .cons {a,9,?_} (K3 I t λz hz=>h z (aG _ hz));rw[h',I.tR (aY.of h') hq]
def E5{X:Cx}(hA:X.A.handled=none):ic X (.builtin "sorted") (λxs H Q=>∃(r d:Addr)(g:List 667),xs=[.ref r]/\H r=some (.ext (GP r d))/\H d=some (.dK (g.map λp=>(Sum.inr p.1,.str p.2)))/\g.length<64/\
  ∀l zs H',(∀b u,H b=some u->H' b=some u)->H' l=none->H l=none->RM H' zs (mF (rowsOf g))->Q 727 (upd H' l 702)):=by
 intro pins s Z H xs us Q I r h;obtain⟨v,d,g,rfl,hv,hd,zg,q⟩:=h;obtain⟨u,rfl,ru⟩:=jH r;cases ru;obtain⟨iv,_⟩:=(show dP X.prog X.w H s.heap v (.ext (GP v d))from I.bP v _ hv);obtain⟨hz,lo,vs,rel,o,es,ep,m⟩:=xu I.bP hd;have hl:g.length=vs.length:=by have:=rel.length;rw[ah]at this;exact this
 refine kg Eb BN Cq (CH _) ?_;refine ae 660;refine ae (PySem.W.kdx_collect (by simpa using hA) iv (⟨o,es,m⟩) (by rw[<-hl,bW];lia) λh' tk as kp la G=>?_);have la':as.length=g.length:=by rw[la,hl]
 have bound:∀{H:Hp},Inv X pins Z H {s with heap:=h',toks:=tk}->X.aac.heap.objs.size<=s.heap.objs.size/\X.env.locals<s.heap.objs.size/\(∀x c,X.env.cells.lookup x=some c->c<s.heap.objs.size)/\∀p∈X.pn++pins,p.1<s.heap.objs.size:=λ_=>
  {I.sz,I.lt,λx c hc=>let⟨_,z⟩:=I.cell x c hc;z.lt,λp hp=>aW (I.pin p hp).1}
 obtain⟨H',I2,k1,k2,k3⟩:=Inv.GI bound as g H (I.kept (t':=tk) kp) la' (G.rise.imp (λh=>aV h)) (λa ha=>{bC (G.above a ha),I.bP.fresh (bC (G.above a ha))}) (λj a p e1 e2=>by obtain⟨key,k,x,e3,e4,e5⟩:=G.pairs j a e1;have rj:∃kv',(g.map λp=>((Sum.inr p.1:Key),V.str p.2))[j]?=some kv'/\kv'=(Sum.inr p.1,V.str p.2):={_,by rw[aX,e2];rfl,9};obtain⟨kv',e6,rfl⟩:=rj;obtain⟨q',e7,e8,e9⟩:=Paired.at' rel e6;rw[e3]at e7;cases e7;subst e8;obtain⟨t,rfl⟩:=(show∃t,key=Value.str p.1 t from sI (k:=Sum.inr p.1) e4);obtain⟨u,rfl⟩:=(show∃t,x=Value.str p.2 t from e9);exact⟨t,u,e5⟩)
 have lb:as.length=(rowsOf g).length:=by rw[la'];exact(ah _).symm
 refine Fy (s:=s) I2 lb (λi z b e1 e2=>?_) (λ_ r hr=>?_) (by rw[<-lb,la'];lia) λl zs f9 bM Mr=>q l zs H' k1 f9 ?_ (K3 I2 bM λz hz=>?_)
 ·unfold rowsOf at e1;rw[aX]at e1;obtain⟨p,e3,rfl⟩:=bz.mp e1;exact aY.of (k3 i b p e2 e3)
 ·obtain⟨p,_,rfl⟩:=aD.mp hr;simp
 ·cases e:H l with
  |none=>rfl
  |some o=>rw[k1 l o e]at f9;cases f9
 ·obtain⟨b,hb,rfl⟩:=aD.mp (Mr z hz);obtain⟨j,hj⟩:=eJ.mp hb;have lJ:j<g.length:=by have:=(aq.mp hj).1;lia
  exact{b,_,9,k3 j b _ hj (av lJ)}
section
variable{K:Frag}{a:Addr}{xs:Aan}{fr:List Nat}{tt:TT}{te:TE}{Z:St}{H1:Hp}{R:Addr->Aan->Hp->Prop}
def N3(Pv:Nat->Aan->Hp->Prop)(hx:xs.length<sizeLine)(h0:Pv 0 [] H1)(hl:∀i ys H,i<=xs.length->Pv i ys H->aY K H a xs/\ys.length<=i)
  (hs:∀(i:Nat)(x:V)(ys:Aan)(H:Hp)(p:Addr)(N:Aan->Hp->Prop),xs[i]?=some x->Pv i ys H->H p=none->(∀iq H',Pv (i+1) iq H'->N iq H')->
   tt (some (.int i)::some x::slotsOf fr Z) (upd H p (.tup [.int i,x])) λt H4=>if t=true then te (some (.int i)::some x::slotsOf fr Z) H4 (λy H5=>N (ys++[y]) H5)else N ys H4)
  (hd:∀ys H,Pv xs.length ys H->∀l,H l=none->R l ys H):C3 (Ii K a) 2 fr (Kf K) tt te Z H1 R:=by
 refine{684,{xs.length,59,aO _,h0},?_};rintro i m ys H ⟨rfl,hi,p⟩;obtain⟨q,hy⟩:=hl i ys H hi p;by_cases bQ:i<xs.length
 ·refine .inr {{xs,xs[i],q,by simp[bQ]},8,?_};intro v H3 y own ho;obtain⟨r,z,rfl,hr,rfl,y⟩:=y;exact Hj ho rfl (aY.of au) {[some (.int i),some z],9,9,(hs i z ys H r (λiq H'=>∃m',m'<xs.length -i/\m'=xs.length -(i+1)/\i+1<=xs.length/\Pv (i+1) iq H') (y xs q) p hr λiq H' p'=>{_,8,9,bQ,p'})}
 ·have e:i=xs.length:=by lia
  subst e;exact .inl {⟨xs,q,rfl⟩,8,hd ys H p}
end
section
variable{X:Cx}
def JQ{elt iter tg c:Expr}{x y:Str}{py xI:Pos}{j:Nat}{more:Aag}{g:TG}{scope:Scope}{pos:Pos}{wi:TI}{fs:Aag}{fr:List Nat}{tc:TT}{te:TE}(hN:X.N.Nodup)(hj:X.N[j]?=some y)(hy:X.env.scope.names.lookup y=some .local)(hc:X.calm=true)(S:tq X scope x more fs fr)(hi:PI X tg iter wi)(hg:∀C s H ex,PG 643 tg g)
  (ht:∀C s H ex,PT 643 c tc) (he:∀C s H ex,PE 643 elt te) (hs:∀z,foldedSetIterable iter X.env z=pure z:=by intro _;rfl)
  (Mh:swapsWith (.ListComp elt [{tg,iter,[c],0}] scope pos) (some (.Name y py)) xI.line X.env=pure true:=by rfl):
  PS X (.Assign [.Name y py] (.ListComp elt [{tg,iter,[c],0}] scope pos) xI) (J3 j (tS wi (more.length+1) fr g tc te)):=BM hN hj hy hc S hi hg (λC s H ex=>Nj (ht C s H ex)) he hs Mh
def rK(P:Program)(w:World)(K:Frag)(mg:Aac)(base:Heap)(C:Addr)(k:Nat)(m:Str)(ps:Aag)(sp:Sp):Prop:=
 ∃f fd,cK P w K mg base dY k f fd ps sp/\Meth K C m f/\Binds K fd ps []
def Tx(c:C4 X.K C)(D:rK X.prog X.w X.K X.mg X.base C k m ps sp)(hr:iD j X.A)(ho:PE X o ta)(ha:PA X (e::es) t)(hk:k<=j:=by decide)
  (AZ:starEach (e::es) X.env=(false,eval e X.env)::starEach es X.env:=by rfl) (jM:(backTo pos 709).any (·.1)=false:=by rfl)
  (ht:eval (.Call (.Attribute o m apos) (e::es) [] pos) X.env=(do
   let ov<-eval o X.env
   standAt apos.atName
   let(f,first)<-holding [ov] (getMethod ov m pl)
   callWith pos f first (backTo pos (starEach (e::es) X.env)) (backToKw pos (keywordEach [] X.env))):=by rfl):
  PE X (.Call (.Attribute o m apos) (e::es) [] pos) (Ym C m sp [] E0 ta t):=by
 obtain⟨f,fd,F,me,b⟩:=D;exact aa0 ho c me F (hr.mono hk) b .nil Qr ha AZ jM ht
def Q9(hr:iD k A):A.units+101<cLine:=by have:=hr.un;lia
def QB{kvs:List 645}{k:NK}{a:Addr}{v:V}(h:(kvs.map (·.1)).Nodup):((putN kvs k a v).map (·.1)).Nodup:=by
 unfold putN;split
 ·have e:(kvs.map λp=>if p.1=k then(p.1,p.2.1,v)else p).map (·.1)=kvs.map (·.1):=by rw[cw];refine b8 λp _=>?_;show(if p.1=k then(p.1,p.2.1,v)else p).1=p.1;split<;>rfl
  rw[e];exact h
 ·next hs=>
  rw[aE];refine fE.mpr {h,59,λx hx y hy e=>hs ?_};have Uh:y=k:=by simpa using hy
  obtain⟨p,hp,hpe⟩:=aD.mp hx;exact OY.mp {p,hp,by rw[hpe,e,Uh]}
theorem jL{α:Type}[DecidableEq α]:∀{l m:List α},l.Nodup->(∀x∈l,x∈m)->l.length<=m.length
 |[],m,_,_=>aO _
 |x::l,m,h,s=>by obtain⟨h1,h2⟩:=dg.mp h;have hx:=s x aF;have:=jL h2 λy hy=>(AF (show y≠x fromλe=>h1 (e▸hy))).mpr (s y (aG _ hy));rw[wH hx]at this;have hp:=yw hx;rw[bE];lia
variable{K:Frag}
def GH(hc:X.calm=true)(h:X.K=K:=by rfl):ic X (.builtin "all") (λxs H Q=>∃(a:Addr)(bs:List Bool),xs=[.ref a]/\bf K H a (bs.map V.bl)/\Q (.bl (bs.all id)) H):=h▸zp hc
end
end L2
namespace aI
open PySem
abbrev Atom:=Str×Aag
abbrev cV:=List 667
section
variable(b7:Str->Bool)
def ap(h:Str->Str)(t:Str):Str:=if b7 t then h t else t
def Fits(D:List Atom)(h:Str->Str)(as:List Atom):Prop:=∀a∈as,(a.1,a.2.map (ap b7 h))∈D
def iz(g:cV)(h:Str->Str):Prop:=∀p∈g,h p.1=p.2
def rR(D:List Atom)(g:cV)(as:List Atom):Prop:=∃h,iz g h/\Fits b7 D h as
def ju(as:List Atom):Aag:=(as.map λa=>a.2.filter b7).flatten
def keys(g:cV):Aag:=g.map (·.1)
def get(g:cV)(u:Str):Option Str:=(g.find? λp=>decide (p.1=u)).map (·.2)
def mf(g g':cV):Prop:=∀u v,get g u=some v->get g' u=some v
end
section
variable{b7:Str->Bool}{D as bs:List Atom}{g g':cV}{h h':Str->Str}
def afj{t:Str}(e:b7 t=true->h t=h' t):ap b7 h t=ap b7 h' t:=by
 unfold ap;split
 ·exact e ‹_›
 ·rfl
def ac8{ts:Aag}(e:∀t∈ts,b7 t=true->h t=h' t):ts.map (ap b7 h)=ts.map (ap b7 h'):=b8 λt ht=>afj (e t ht)
def cN{u:Str}:u∈ju b7 as↔∃a∈as,u∈a.2/\b7 u=true:=by
 unfold ju;rw[ik];constructor
 ·rintro⟨l,hl,hu⟩;obtain⟨a,ha,rfl⟩:=aD.mp hl;exact{a,ha,c6.mp hu}
 ·rintro⟨a,ha,hu⟩;exact{_,bS ha,c6.mpr hu}
def Fits.congr(f:Fits b7 D h as)(e:∀u∈ju b7 as,h u=h' u):Fits b7 D h' as:=λa ha=>by rw[<-ac8 λt ht ut=>e t (cN.mpr ⟨a,ha,ht,ut⟩)];exact f a ha
def Fits.app:Fits b7 D h (as++bs)↔Fits b7 D h as/\Fits b7 D h bs:=
 {λf=>{λa ha=>f a (bx _ ha),λa ha=>f a (bc _ ha)},λf a ha=>(aS.mp ha).elim (f.1 a) (f.2 a)}
def Fits.sub(f:Fits b7 D h as)(e:∀a∈bs,a∈as):Fits b7 D h bs:=λa ha=>f a (e a ha)
def get_some{u v:Str}(h:get g u=some v):(u,v)∈g:=by obtain⟨p,hp,rfl⟩:=bz.mp h;have:=nJ hp;rw[<-(aR this)];exact gg hp
def get_none{u:Str}:get g u=none↔u∉keys g:=by
 unfold get keys;rw[pS,CV];constructor
 ·intro h q;obtain⟨p,hp,e⟩:=aD.mp q;exact h p hp (bj e)
 ·intro h p hp q;exact h (aD.mpr {p,hp,aR q})
def get_mem(nd:(keys g).Nodup){u v:Str}(h:(u,v)∈g):get g u=some v:=by
 induction g with
 |nil=>cases h
 |cons p r ih=>
  unfold keys at nd;rw[bt,dg]at nd;unfold get;rcases aN.mp h with e|h
  ·rw[fW (p:=λp:Str×Str=>decide (p.1=u)) (bj (by rw[<-e]))];rw[<-e];rfl
  ·have ne:¬decide (p.1=u)=true:=λq=>nd.1 (by
    rw[aR q];exact aD.mpr ⟨_,h,rfl⟩)
   rw[fX (p:=λp:Str×Str=>decide (p.1=u)) ne];exact ih nd.2 h
def iz.get(a:iz g h){u v:Str}(e:get g u=some v):h u=v:=a (u,v) (get_some e)
def JI(nd:(keys g).Nodup)(e:∀u v,get g u=some v->h u=v):iz g h:=λp hp=>e p.1 p.2 (get_mem nd hp)
def iz.longer(nd:(keys g).Nodup)(l:mf g g')(a:iz g' h):iz g h:=JI nd λu v e=>a.get (l u v e)
def over(g:cV)(h:Str->Str)(u:Str):Str:=(get g u).getD (h u)
def nj(nd:(keys g).Nodup):iz g (over g h):=JI nd λu v e=>by unfold over;rw[e];rfl
def Ww{g gi:cV}{p:List Atom}(ndi:(keys gi).Nodup)(l:mf g gi)(dis:∀u∈ju b7 p,u∈keys gi->u∈keys g)(c:rR b7 D g p):rR b7 D gi p:=by
 obtain⟨h,ag,f⟩:=c;refine{over gi h,nj ndi,f.congr λu hu=>?_};unfold over;cases e:get gi u with
 |none=>rfl
 |some v=>
  have:u∈keys gi:=by
   by_cases q:u∈keys gi
   ·exact q
   ·rw[get_none.mpr q]at e;cases e
  have:=dis u hu this;cases e2:get g u with
  |none=>exact absurd this (get_none.mp e2)
  |some v2=>
   have:=l u v2 e2;rw[e]at this;cases this;exact ag.get e2
def XY{g g2:cV}{p:List Atom}(qx:(keys g2).Nodup)(e:∀a∈p,∀t∈a.2,get g t=get g2 t)(c:rR b7 D g p):rR b7 D g2 p:=by
 obtain⟨h,ag,f⟩:=c;refine{over g2 h,nj qx,f.congr λu hu=>?_};obtain⟨a,ha,ht,_⟩:=cN.mp hu;unfold over;rw[<-e a ha u ht];cases q:get g u with
 |none=>rfl
 |some v=>exact ag.get q
def fit(b7:Str->Bool)(g:cV):Aag->Aag->Option cV
 |[],[]=>some g
 |t::ts,a::as=>if b7 t then(match get g t with
   |some m=>if m=a then fit b7 g ts as else none
   |none=>fit b7 (g++[(t,a)]) ts as)else if t=a then fit b7 g ts as else none
 |_,_=>none
def Pq{u v x:Str}(n:get g u=none):get (g++[(u,v)]) x=if x=u then some v else get g x:=by
 unfold get at n⊢;rw[List.find?_append];by_cases c:x=u
 ·subst c;rw[aK rfl,pS.mp n];simp
 ·rw[aH c];cases q:g.find? λp=>decide (p.1=x)with
  |none=>
   have:([(u,v)]:cV).find? (λp=>decide (p.1=x))=none:=by rw[CV];intro p hp;rw[ay.mp hp];simpa usingλe=>c e.symm
   rw[this];rfl
  |some p=>rfl
def QN{u v:Str}(n:get g u=none):mf g (g++[(u,v)]):=λx y e=>by
 rw[Pq n];split
 next c=>rw[c,n]at e;cases e
 next=>exact e
def mf.refl(g:cV):mf g g:=λ_ _ h=>h
def mf.trans{g1 g2 g3:cV}(a:mf g1 g2)(b:mf g2 g3):mf g1 g3:=λu v h=>b u v (a u v h)
def xk{u v:Str}(nd:(keys g).Nodup)(n:get g u=none):(keys (g++[(u,v)])).Nodup:=by unfold keys;rw[aE];refine fE.mpr {nd,59,λa ha b hb=>?_};rw[oH,ay]at hb;rw[hb];rintro rfl;exact get_none.mp n ha
theorem sS:∀{ts as:Aag}{g g':cV},(keys g).Nodup->fit b7 g ts as=some g'->(keys g').Nodup/\mf g g'/\(∀u,u∈keys g'↔u∈keys g\/(u∈ts/\b7 u=true))/\∀h,iz g' h->ts.map (ap b7 h)=as
 |[],[],g,g',nd,e=>by cases e;exact{nd,mf.refl g,λu=>by simp,λh _=>9}
 |[],_::_,g,g',nd,e=>by cases e
 |_::_,[],g,g',nd,e=>by cases e
 |t::ts,a::as,g,g',nd,e=>by
  unfold fit at e;split at e
  next ut=>
   split at e
   next m em=>
    split at e
    next ma=>
     obtain⟨n1,l1,k1,f1⟩:=sS nd e;have tk:t∈keys g:=by
      by_cases q:t∈keys g
      ·exact q
      ·rw[get_none.mpr q]at em;cases em
     refine{n1,l1,λu=>?_,λh ag=>?_}
     ·rw[k1];constructor
      ·rintro(h|⟨h,h2⟩)
       ·exact .inl h
       ·exact .inr {aG _ h,h2}
      ·rintro(h|⟨h,h2⟩)
       ·exact .inl h
       ·rcases aN.mp h with rfl|h
        ·exact .inl tk
        ·exact .inr ⟨h,h2⟩
     ·rw[bt,f1 h ag];have:ap b7 h t=a:=by unfold ap;rw[aK ut,ag.get (l1 t m em),ma]
      rw[this]
    next=>cases e
   next em=>
    obtain⟨n1,l1,k1,f1⟩:=sS (xk nd em) e;refine{n1,(QN em).trans l1,λu=>?_,λh ag=>?_}
    ·rw[k1];have:u∈keys (g++[(t,a)])↔u∈keys g\/u=t:=by unfold keys;rw[aE,aS];exact or_congr_right ay
     rw[this];constructor
     ·rintro((h|rfl)|⟨h,h2⟩)
      ·exact .inl h
      ·exact .inr ⟨aF,ut⟩
      ·exact .inr {aG _ h,h2}
     ·rintro(h|⟨h,h2⟩)
      ·exact .inl (.inl h)
      ·rcases aN.mp h with rfl|h
       ·exact .inl (.inr 9)
       ·exact .inr ⟨h,h2⟩
    ·rw[bt,f1 h ag];have:ap b7 h t=a:=by unfold ap;rw[aK ut];exact ag.get (l1 t a (by rw[Pq em,aK rfl]))
     rw[this]
  next ut=>
   split at e
   next ta=>
    obtain⟨n1,l1,k1,f1⟩:=sS nd e;refine{n1,l1,λu=>?_,λh ag=>?_}
    ·rw[k1];constructor
     ·rintro(h|⟨h,h2⟩)
      ·exact .inl h
      ·exact .inr {aG _ h,h2}
     ·rintro(h|⟨h,h2⟩)
      ·exact .inl h
      ·rcases aN.mp h with rfl|h
       ·exact absurd h2 ut
       ·exact .inr ⟨h,h2⟩
    ·rw[bt,f1 h ag];have:ap b7 h t=a:=by unfold ap;rw[aH ut,ta]
     rw[this]
   next=>cases e
theorem uc:∀{ts:Aag}{g:cV},(keys g).Nodup->iz g h->∃g',fit b7 g ts (ts.map (ap b7 h))=some g'/\iz g' h
 |[],g,nd,ag=>⟨g,rfl,ag⟩
 |t::ts,g,nd,ag=>by
  rw[bt];unfold fit;by_cases ut:b7 t=true
  ·rw[aK ut];have ea:ap b7 h t=h t:=by unfold ap;rw[aK ut]
   cases em:get g t with
   |some m=>
    rw[ea];show∃g',(if m=h t then fit b7 g ts (ts.map (ap b7 h))else none)=some g'/\_;rw[aK (ag.get em).symm];exact uc nd ag
   |none=>
    refine uc (xk nd em) λp hp=>?_;rcases aS.mp hp with q|q
    ·exact ag p q
    ·rw[ay.mp q];exact ea.symm
  ·rw[aH ut];have ea:ap b7 h t=t:=by unfold ap;rw[aH ut]
   rw[ea,aK rfl];exact uc nd ag
end
section
variable(b7:Str->Bool)(g:cV)
def zC(p:List Atom)(a:Atom):Bool:=p.any λo=>(a.2.filter λt=>b7 t&&(get g t).isNone).any λt=>decide (t∈o.2)
def step(a:Atom):List (List Atom)->List Atom×List (List Atom)
 |[]=>([a],[])
 |ps=>ps.foldl (λacc p=>if zC b7 g p a then(p++acc.1,acc.2)else(acc.1,acc.2++[p])) ([a],[])
def pE(ps:List (List Atom))(a:Atom):List (List Atom):=(step b7 g a ps).2++[(step b7 g a ps).1]
def partsOf(as:List Atom):List (List Atom):=as.foldl (pE b7 g) []
def Apart(p q:List Atom):Prop:=∀u,u∈ju b7 p->u∈ju b7 q->u∈keys g
end
section
variable{b7:Str->Bool}{g:cV}
def Apart.symm{p q:List Atom}(h:Apart b7 g p q):Apart b7 g q p:=λu h1 h2=>h u h2 h1
def Km{p q:List Atom}{u:Str}:u∈ju b7 (p++q)↔u∈ju b7 p\/u∈ju b7 q:=by
 rw[cN,cN,cN];constructor
 ·rintro⟨a,ha,h⟩;rcases aS.mp ha with ha|ha
  ·exact .inl ⟨a,ha,h⟩
  ·exact .inr ⟨a,ha,h⟩
 ·rintro(⟨a,ha,h⟩|⟨a,ha,h⟩)
  ·exact{a,bx _ ha,h}
  ·exact{a,bc _ ha,h}
def Apart.app{p q r:List Atom}(h1:Apart b7 g p r)(h2:Apart b7 g q r):Apart b7 g (p++q) r:=λu hu hr=>(Km.mp hu).elim (λh=>h1 u h hr) (λh=>h2 u h hr)
def VN{p:List Atom}{a:Atom}(h:zC b7 g p a=false):Apart b7 g p [a]:=λu hp ha=>by
 obtain⟨o,ho,hu,uu⟩:=cN.mp hp;obtain⟨a',ZL,oq,_⟩:=cN.mp ha;rw[ay.mp ZL]at oq;by_cases q:u∈keys g
 ·exact q
 ·exfalso;have:zC b7 g p a=true:=by refine il.mpr {o,ho,il.mpr {u,c6.mpr {oq,?_},bj hu}};rw[uu,get_none.mpr q];rfl
  rw[h]at this;cases this
structure Z5(b7:Str->Bool)(g:cV)(a:Atom)(done:List (List Atom))(x:List Atom×List (List Atom)):Prop where
 mem:∀b,(b∈x.1\/∃p∈x.2,b∈p)↔(b=a\/∃p∈done,b∈p)
 len:x.1.length+(x.2.map List.length).sum=1+(done.map List.length).sum
 one:∀p∈x.2,Apart b7 g p x.1
 two:x.2.Pairwise (Apart b7 g)
 sub:∀p∈x.2,p∈done
 mrg:∀r,Apart b7 g r [a]->(∀p∈done,Apart b7 g r p)->Apart b7 g r x.1
 ne:x.1≠[]
theorem Oq(a:Atom):∀(ps done:List (List Atom))(x:List Atom×List (List Atom)),Z5 b7 g a done x->(done++ps).Pairwise (Apart b7 g)->
  Z5 b7 g a (done++ps) (ps.foldl (λacc p=>if zC b7 g p a then(p++acc.1,acc.2)else(acc.1,acc.2++[p])) x)
 |[],done,x,h,_=>c7 _▸h
 |p::ps,done,x,h,hp=>by
  have pd:=λr hr=>(rM.mp hp).2.2 r hr p aF;rw[gQ,show done++p::ps=(done++[p])++ps by rw[dF];rfl];refine Oq a ps (done++[p]) _ ?_ (by rw[dF];exact hp);split
  next c=>
   refine{λb=>?_,?_,λr hr=>((pd r (h.sub r hr)).symm.app (h.one r hr).symm).symm,h.two,λr hr=>bx _ (h.sub r hr),λr h1 h2=>((h2 p 59).symm.app (h.mrg r h1 λq hq=>h2 q (bx _ hq)).symm).symm,?_}
   ·constructor
    ·rintro(hb|⟨q,hq,hb⟩)
     ·rcases aS.mp hb with hb|hb
      ·exact .inr {p,59,hb}
      ·rcases(h.mem b).mp (.inl hb)with e|⟨q,hq,e⟩
       ·exact .inl e
       ·exact .inr {q,bx _ hq,e}
     ·rcases(h.mem b).mp (.inr ⟨q,hq,hb⟩)with e|⟨q,hq,e⟩
      ·exact .inl e
      ·exact .inr {q,bx _ hq,e}
    ·rintro(e|⟨q,hq,e⟩)
     ·rcases(h.mem b).mpr (.inl e)with e|e
      ·exact .inl (bc _ e)
      ·exact .inr e
     ·rcases aS.mp hq with hq|hq
      ·rcases(h.mem b).mpr (.inr ⟨q,hq,e⟩)with e|e
       ·exact .inl (bc _ e)
       ·exact .inr e
      ·rw[ay.mp hq]at e;exact .inl (bx _ e)
   ·have:=h.len;simp only[aC,aE,rL,bt,fI,jU,CQ];lia
   ·intro e;have:=cP List.length e;rw[aC]at this;exact h.ne (dC.mp (by simpa using(Nat.add_eq_zero_iff.mp this).2))
  next c=>
   refine{λb=>?_,?_,λr hr=>?_,?_,λr hr=>?_,λr h1 h2=>h.mrg r h1 λq hq=>h2 q (bx _ hq),h.ne}
   ·constructor
    ·rintro(hb|⟨q,hq,hb⟩)
     ·rcases(h.mem b).mp (.inl hb)with e|⟨q,hq,e⟩
      ·exact .inl e
      ·exact .inr {q,bx _ hq,e}
     ·rcases aS.mp hq with hq|hq
      ·rcases(h.mem b).mp (.inr ⟨q,hq,hb⟩)with e|⟨q,hq,e⟩
       ·exact .inl e
       ·exact .inr {q,bx _ hq,e}
      ·exact .inr {q,bc _ hq,hb}
    ·rintro(e|⟨q,hq,e⟩)
     ·rcases(h.mem b).mpr (.inl e)with e|⟨r,hr,e⟩
      ·exact .inl e
      ·exact .inr {r,bx _ hr,e}
     ·rcases aS.mp hq with hq|hq
      ·rcases(h.mem b).mpr (.inr ⟨q,hq,e⟩)with e|⟨r,hr,e⟩
       ·exact .inl e
       ·exact .inr {r,bx _ hr,e}
      ·exact .inr {q,bc _ hq,e}
   ·have:=h.len;simp only[aE,rL,bt,fI,jU,CQ];lia
   ·rcases aS.mp hr with hr|hr
    ·exact h.one r hr
    ·rw[ay.mp hr];exact h.mrg p (VN (by simpa using c)) λq hq=>(pd q hq).symm
   ·refine rM.mpr {h.two,59,λr hr q hq=>?_};rw[ay.mp hq];exact pd r (h.sub r hr)
   ·rcases aS.mp hr with hr|hr
    ·exact bx _ (h.sub r hr)
    ·exact bc _ hr
def VT(a:Atom)(ps:List (List Atom))(hp:ps.Pairwise (Apart b7 g)):Z5 b7 g a ps (step b7 g a ps):=by
 have h0:Z5 b7 g a [] ([a],[]):={λb=>by simp,59,λp hp=>(by cases hp),.nil,λp hp=>(by cases hp),λr h1 _=>h1,59};cases ps with
 |nil=>exact h0
 |cons p ps=>exact Oq a (p::ps) [] _ h0 hp
theorem EN:∀(as done:List Atom)(ps:List (List Atom)),ps.Pairwise (Apart b7 g)->(∀b,b∈done↔∃p∈ps,b∈p)->(ps.map List.length).sum=done.length->(∀p∈ps,p≠[])->
  (as.foldl (pE b7 g) ps).Pairwise (Apart b7 g)/\(∀b,b∈done++as↔∃p∈as.foldl (pE b7 g) ps,b∈p)/\((as.foldl (pE b7 g) ps).map List.length).sum=(done++as).length/\∀p∈as.foldl (pE b7 g) ps,p≠[]
 |[],done,ps,h1,h2,h3,h4=>by rw[c7];exact⟨h1,h2,h3,h4⟩
 |a::as,done,ps,h1,h2,h3,h4=>by
  have s:=VT a ps h1;rw[gQ,show done++a::as=(done++[a])++as by rw[dF];rfl];refine EN as (done++[a]) _ ?_ (λb=>?_) ?_ λp hp=>?_
  ·refine rM.mpr {s.two,59,λr hr q hq=>?_};rw[ay.mp hq];exact s.one r hr
  ·unfold pE;constructor
   ·intro hb;have:b=a\/∃p∈ps,b∈p:=by
     rcases aS.mp hb with hb|hb
     ·exact .inr ((h2 b).mp hb)
     ·exact .inl (ay.mp hb)
    rcases(s.mem b).mpr this with e|⟨p,hp,e⟩
    ·exact{_,bc _ aF,e}
    ·exact{p,bx _ hp,e}
   ·rintro⟨p,hp,e⟩;have:b∈(step b7 g a ps).1\/∃p∈(step b7 g a ps).2,b∈p:=by
     rcases aS.mp hp with hp|hp
     ·exact .inr ⟨p,hp,e⟩
     ·rw[ay.mp hp]at e;exact .inl e
    rcases(s.mem b).mp this with rfl|e
    ·simp
    ·exact bx _ ((h2 b).mpr e)
  ·unfold pE;have:=s.len;simp only[aE,rL,bt,fI,jU,CQ,aC,bE,jQ];lia
  ·unfold pE at hp;rcases aS.mp hp with hp|hp
   ·exact h4 p (s.sub p hp)
   ·rw[ay.mp hp];exact s.ne
end
section
variable(b7:Str->Bool)(D:List Atom)
structure Got(g g':cV)(as:List Atom):Prop where
 nd:(keys g').Nodup
 lg:mf g g'
 ks:∀u,u∈keys g'↔u∈keys g\/u∈ju b7 as
 ft:∀h,iz g' h->Fits b7 D h as
end
section
variable{b7:Str->Bool}{D as bs p:List Atom}{g g' gi way:cV}{a:Atom}
def Got.nil(nd:(keys g).Nodup):Got b7 D g g []:={nd,mf.refl g,λu=>{.inl,λh=>h.elim id λq=>by obtain⟨_,h,_⟩:=cN.mp q;cases h},λh _ a ha=>by cases ha}
def Got.trans(ndi:(keys gi).Nodup)(x:Got b7 D g gi as)(y:Got b7 D gi g' bs):Got b7 D g g' (as++bs):=
 {y.nd,x.lg.trans y.lg,λu=>by rw[y.ks,x.ks,Km,or_assoc],λh ag=>Fits.app.mpr {x.ft h (iz.longer ndi y.lg ag),y.ft h ag}}
def Got.perm(x:Got b7 D g g' as)(e:∀b,b∈as↔b∈bs):Got b7 D g g' bs:=
 {x.nd,x.lg,λu=>by rw[x.ks];refine or_congr_right ?_;rw[cN,cN];exact{λ⟨a,ha,h⟩=>{a,(e a).mp ha,h},λ⟨a,ha,h⟩=>{a,(e a).mpr ha,h}},λh ag=>(x.ft h ag).sub λa ha=>(e a).mpr ha}
def rR.sub(c:rR b7 D g as)(e:∀b∈bs,b∈as):rR b7 D g bs:=by obtain⟨h,ag,f⟩:=c;exact{h,ag,f.sub e}
def TJ(x:Got b7 D g gi as)(hp:∀q,q∈ju b7 p->q∈ju b7 as->q∈keys g)(n:¬rR b7 D gi p)(sub:∀b∈p,b∈bs):¬rR b7 D g bs:=λc=>
 n (Ww x.nd x.lg (λu hu hk=>((x.ks u).mp hk).elim id λq=>hp u hu q) (c.sub sub))
def VI{u:Str}:u∈ju b7 [a]↔u∈a.2/\b7 u=true:=by rw[cN];exact{λ⟨b,hb,h⟩=>by rw[ay.mp hb]at h;exact h,λh=>⟨a,aF,h⟩}
def HM{row:Aag}(nd:(keys g).Nodup)(e:fit b7 g a.2 row=some way)(hD:(a.1,row)∈D):Got b7 D g way [a]:=by obtain⟨n1,l1,k1,f1⟩:=sS nd e;refine{n1,l1,λu=>by rw[k1,VI],λh ag b hb=>?_};rw[ay.mp hb,f1 h ag];exact hD
def S5{row:Aag}{rest:List Atom}(nd:(keys g).Nodup)(e:fit b7 g a.2 row=some way)(hD:(a.1,row)∈D)(y:Got b7 D way g' rest)(pm:∀b,b∈p↔b=a\/b∈rest):Got b7 D g g' p:=by have x:=HM nd e hD;refine(x.trans x.nd y).perm λb=>?_;rw[pm,aS];exact or_congr_left ay
def IM{aims:Aaa}{rest:List Atom}(nd:(keys g).Nodup)(all:∀h,iz g h->(a.1,a.2.map (ap b7 h))∈D->a.2.map (ap b7 h)∈aims)
  (no:∀row∈aims,∀way,fit b7 g a.2 row=some way->¬rR b7 D way rest) (pm:∀b,b∈p↔b=a\/b∈rest):¬rR b7 D g p:=by
 rintro⟨h,ag,f⟩;obtain⟨way,e,ag2⟩:=uc (b7:=b7) (h:=h) (ts:=a.2) nd ag;exact no _ (all h ag (f a ((pm a).mpr (.inl 9)))) way e {h,ag2,f.sub λb hb=>(pm b).mpr (.inr hb)}
def RL(b7:Str->Bool)(D:List Atom)(p:List Atom)(m:List 710):Prop:=∀g,(keys g).Nodup->p.map (λa=>a.2.map (get g))=m->¬rR b7 D g p
def aav(nd:(keys g).Nodup)(n:¬rR b7 D g p):RL b7 D p (p.map λa=>a.2.map (get g)):=λg2 qx e c=>n (XY nd (λa ha t ht=>by
 have:∀{l:List Atom},l.map (λa=>a.2.map (get g2))=l.map (λa=>a.2.map (get g))->∀a∈l,∀t∈a.2,get g2 t=get g t:=by
  intro l
  induction l with
  |nil=>intro _ a ha;cases ha
  |cons b r ih=>
   intro e a ha t ht;rw[bt,bt]at e;injection e with e1 e2;rcases aN.mp ha with rfl|ha
   ·exact List.map_inj_left.mp e1 t ht
   ·exact ih e2 a ha t ht
 exact this e a ha t ht) c)
end
end aI
namespace L2
open PySem PySem.Spec PyProof.Rows
section
variable{P:Program}{w:World}{A:Around}{E:Aad}{v:Shared}
def NB(h:Q (v.heap.get? a) v):wpAny M A (loadIfAlive a) Q E v:=λΓ p _=>by show Sem.wp M Γ (Sem.loadIfAlive a Sem.pure) _ _ p v;exact h
abbrev zx(f0:Value)(b:Bool)(ti to:Addr):Obj:={cls:=.type "zip",dict:=none,data:=.fields #[f0,.bool b,.bool false,.ref ti,.ref to],slots:=#[]}
structure Zs(h:Heap)(z ti to i1 i2 l1 l2 T:Addr)(k:Nat):Prop where
 self:∃b,h.get? z=some (zx (rawInt T) b ti to)
 live:∃o,h.get? T=some o
 ins:IsPair h ti (.ref i1) (.ref i2)
 w1:h.IsListIter i1 l1 k
 w2:h.IsListIter i2 l2 k
def N7{z ti to T:Addr}(g:v.heap.get? z=some (zx (rawInt T) b ti to))(l:∃o,v.heap.get? T=some o)
  (q:∀h',h'.get? z=some (zx (rawInt T) true ti to)->Heap.SameBut z v.heap h'->Q false {v with heap:=h'}):wpAny 661 A (Builtin.SmallTypes.ownedTupleIsFree (.ref z)) Q E v:=by
 obtain⟨o,l⟩:=l;refine ae (dq g 9 9 ?_);refine ae (NB ?_);rw[eR,l];refine ae (dq g 9 9 ?_);cases b with
 |true=>
  exact ao (q v.heap g (DR _ _))
 |false=>
  refine ae (js g 59 λh1 g1 s1=>ao (q h1 g1 s1))
def aao{z ti to i1 i2 l1 l2 T:Addr}{k:Nat}{xs ys:Aak}{x y:Value}{Q:Aad}(D:ZipApart z ti to i1 i2 l1 l2)(nT:T≠z)(g:Zs v.heap z ti to i1 i2 l1 l2 T k)
  (t1:v.heap.IsList l1 xs) (t2:v.heap.IsList l2 ys) (ex:xs[k]?=some x) (ey:ys[k]?=some y)
  (q:∀h',Zs h' z ti to i1 i2 l1 l2 T (k+1)->IsPair h' v.heap.objs.size x y->(∀c o,c≠z->c≠i1->c≠i2->v.heap.get? c=some o->h'.get? c=some o)->Q (.ref v.heap.objs.size) {v with heap:=h'}):
  wpAny 661 A (Builtin.«zip.__next__» {[.ref z],[]}) (λfin s'=>∃u,fin=.done (.ret u)/\Q u s') E v:=by
 obtain⟨⟨b,gs⟩,gT,gi,g1,g2⟩:=g;show wpAny _ _ (field (.ref z) 2>>=_) _ _ _;refine ae (dq gs 9 9 ?_);refine ae (dq gs 9 9 ?_);refine ae (dh gi 9 ?_);refine ae (N7 gs gT λp1 z1 r1=>?_);refine ae ?_;refine ae (ae (cm ?_));refine ae (xE (g1.extBut r1.extBut D.i1z) (t1.extBut r1.extBut D.l1z) ex λp2 k2 r2=>ao ?_);refine ao ?_;refine ae (ae (cm ?_));refine ae (xE ((g2.extBut r1.extBut D.i2z).extBut r2.extBut D.i12.symm) ((t2.extBut r1.extBut D.l2z).extBut r2.extBut D.l2i1) ey λp3 k3 r3=>ao ?_);refine ao 660;show wpAny _ _ (newTuple [x,y]>>=_) _ _ _;refine ae (sr (ao {_,9,?_}));have sz:p3.objs.size=v.heap.objs.size:=by rw[r3.1,r2.1,r1.1]
 have st:∀c o,c≠z->c≠i1->c≠i2->v.heap.get? c=some o->p3.get? c=some o:=λc o m1 m2 m3 e=>r3.extBut _ _ m3 (r2.extBut _ _ m2 (r1.extBut _ _ m1 e));rw[sz];obtain⟨oa,ja,ra⟩:=(k2.extBut r3.extBut D.i12);obtain⟨ob,jb,rb⟩:=k3;obtain⟨oT,gT⟩:=gT;obtain⟨o1,e1,c1,_⟩:=g1;obtain⟨o2,e2,c2,_⟩:=g2;refine q _ {{true,aj _ (r3.extBut _ _ D.i2z.symm (r2.extBut _ _ D.i1z.symm z1))},?_,aj _ (st _ _ D.TIz D.TIi1 D.TIi2 gi),{oa,aj _ ja,ra},{ob,aj _ jb,rb}} ?_ λc o m1 m2 m3 e=>aj _ (st c o m1 m2 m3 e)
 ·by_cases n1:T=i1
  ·rw[n1];exact{oa,aj _ ja}
  ·by_cases n2:T=i2
   ·rw[n2];exact{ob,aj _ jb}
   ·exact{oT,aj _ (st _ _ nT n1 n2 gT)}
 ·have:=aU p3 (o:={cls:=.type "tuple",data:=.seq #[x,y]}) rfl;rw[sz]at this;exact this
def ab2{z ti to i1 i2 l1 l2 T:Addr}{k:Nat}{xs:Aak}{Q:Fin->Shared->Prop}(hh:A.handled=none)(D:ZipApart z ti to i1 i2 l1 l2)(g:Zs v.heap z ti to i1 i2 l1 l2 T k)
  (t1:v.heap.IsList l1 xs) (ex:xs[k]?=none)
  (q:∀h' e,(∀c o,c≠z->c≠i1->c≠i2->v.heap.get? c=some o->h'.get? c=some o)->(∃o,h'.get? e=some o/\o.cls=.type "StopIteration")->E (.ref e) {v with heap:=h'}):
  wpAny 661 A (Builtin.«zip.__next__» {[.ref z],[]}) Q E v:=by
 obtain⟨⟨b,gs⟩,gT,gi,g1,g2⟩:=g;show wpAny _ _ (field (.ref z) 2>>=_) _ _ _;refine ae (dq gs 9 9 ?_);refine ae (dq gs 9 9 ?_);refine ae (dh gi 9 ?_);refine ae (N7 gs gT λp1 z1 r1=>?_);refine ae ?_;refine ae (ae (cm ?_));exact ae (wpAny_nextOf_list_end hh (g1.extBut r1.extBut D.i1z) (t1.extBut r1.extBut D.l1z) ex λp2 e r2 he=>q p2 e (λc o m1 m2 m3 x=>r2 _ _ m2 (r1.extBut _ _ m1 x)) he)
def aan{z ti to i1 i2 l1 l2 T:Addr}{k:Nat}{xs ys:Aak}{x y:Value}{Q:Option Value->Shared->Prop}(D:ZipApart z ti to i1 i2 l1 l2)(nT:T≠z)(g:Zs v.heap z ti to i1 i2 l1 l2 T k)
  (t1:v.heap.IsList l1 xs) (t2:v.heap.IsList l2 ys) (ex:xs[k]?=some x) (ey:ys[k]?=some y)
  (q:∀h',Zs h' z ti to i1 i2 l1 l2 T (k+1)->IsPair h' v.heap.objs.size x y->(∀c o,c≠z->c≠i1->c≠i2->v.heap.get? c=some o->h'.get? c=some o)->Q (some (.ref v.heap.objs.size)) {v with heap:=h'}):
  wpAny 661 A (pyNext (.ref z)) Q E v:=by
 obtain⟨b,gs⟩:=g.self;have ty:v.TypeIs (.ref z) "zip":=⟨_,gs,rfl⟩;exact ae (hX (wpAny_callSpecial?_slot ty iM (b6 iM ty qp (aao D nT g t1 t2 ex ey λh' b1 b2 b3=>ao (q h' b1 b2 b3)) (pH _))))
def aam{z ti to i1 i2 l1 l2 T:Addr}{k:Nat}{xs:Aak}{Q:Option Value->Shared->Prop}(hh:A.handled=none)(D:ZipApart z ti to i1 i2 l1 l2)(g:Zs v.heap z ti to i1 i2 l1 l2 T k)
  (t1:v.heap.IsList l1 xs) (ex:xs[k]?=none) (q:∀h',(∀c o,c≠z->c≠i1->c≠i2->v.heap.get? c=some o->h'.get? c=some o)->Q none {v with heap:=h'}):
  wpAny 661 A (pyNext (.ref z)) Q E v:=by
 obtain⟨b,gs⟩:=g.self;have ty:v.TypeIs (.ref z) "zip":=⟨_,gs,rfl⟩;refine ae (hX (wpAny_callSpecial?_slot ty iM (b6 iM ty qp (ab2 hh D g t1 ex λh' e hk he=>?_) (pH _))));obtain⟨o,ho,hc⟩:=he;exact ae (jc ⟨o,ho,hc⟩ oX (ao (q _ hk)))
variable{prog:Program}
def Ru:typeLookup (.type "zip") "__getattr__"=pure none:=by rw[jI,gn];kernel_rfl
def abE:typeLookup (.type "zip") "keys"=pure none:=by rw[jI,gn];kernel_rfl
def afd:entryFor table "zip.__getattribute__"=some Builtin.«object.__getattribute__»:=zk (id':="object.__getattribute__") (by kernel_rfl) 53 53 (by kernel_rfl)
def abC{os:OsState}(hx:h.get? a=some (zx f0 b ti to))(hA:A.handled=none)
  (k:∀h' tk e,Heap.NewAttrErr h h' e 654 "keys"->E (.ref e) ⟨h',g,d,tk,os⟩):
  wpAny 58 A (Builtin.«object.__getattribute__» {[.ref a,.str "keys" u],[]}) Q E ⟨h,g,d,t,os⟩:=by
 have f4:=abE
 repeat (any_goals (first|(assumption)|(wp_step)))
 exact zy hA k (attrMsg_fits 53 (by size_fits))
def abF{os:OsState}(hx:h.get? a=some (zx f0 b ti to))(hA:A.handled=none)
  (k:∀h' tk e,Heap.NewAttrErr h h' e 654 "keys"->R (.error (.ref e)) ⟨h',g,d,tk,os⟩):
  codeAny 58 A (.call (.builtin "zip.__getattribute__") {[.ref a,.str "keys" u],[]}) R ⟨h,g,d,t,os⟩:=
 rn F.slot_zip_getattribute.plain afd (F.slot_zip_getattribute.check _ _ _ _ _ _ _ _ (show(⟨h,g,d,t,os⟩:Shared).TypeIs 654 "zip"from⟨_,hx,rfl⟩) (F.args_zip_getattribute_2 _ _) (abC hx hA k))
def afe{os:OsState}(hx:h.get? a=some (zx f0 b ti to))(hA:A.handled=none)
  (k:∀h' tk e,Heap.NewAttrErr h h' e 654 "keys"->E (.ref e) ⟨h',g,d,tk,os⟩):
  wpAny 58 A (getAttrBy 654 (.str "keys" u) false) Q E ⟨h,g,d,t,os⟩:=by
 have g2:=F.slot_zip_getattribute.lookup;have g3:=F.slot_zip_getattribute.bind 654;have f5:=Ru;have f1:=nQ
 repeat (any_goals (first|(assumption)|(wp_step)))
 refine abF hx hA λh' tk e ne=>?_;obtain⟨t',u',he⟩:=ne.there
 repeat (any_goals (first|(assumption)|(wp_step)))
 exact k _ _ _ ne
def abG{os:OsState}(hx:h.get? a=some (zx f0 b ti to))(hA:A.handled=none)
  (k:∀h' tk e,Heap.NewAttrErr h h' e 654 "keys"->Q none ⟨h',g,d,tk,os⟩):
  wpAny 58 A (getAttr? 654 "keys") Q E ⟨h,g,d,t,os⟩:=by
 have f1:=nQ
 repeat (any_goals (first|assumption|(with_reducible refine afe hx hA λh' tk e ne=>?_)|wp_step))
 obtain⟨t',u',he⟩:=ne.there
 repeat (any_goals (first|(assumption)|(wp_step)))
 exact k _ _ _ ne
def abD{l1 l2 d z ti to i1 i2:Addr}{us vs:Aaf}{h0:Heap}{pairs:List (Key×Value)}{R:Result->Shared->Prop}(hA:A.handled=none)(D:ZipApart z ti to i1 i2 l1 l2)(m7:h0.get? d=none)(n1:d≠z)(n2:d≠i1)(n3:d≠i2)(n4:d≠ti)
  (lH:h0.IsList l1 us.toArray) (f9:h0.IsList l2 vs.toArray) (hp:Paired 707 us pairs) (hv:vs=pairs.map (·.2)) (hsz:pairs.length<=sizeLine) (g:Array GenState) (dr:Drawn) (os:OsState)
  (k:∀h' tk,(∀b o,b≠z->b≠to->b≠i1->b≠i2->h0.get? b=some o->h'.get? b=some o)->h'.DictOf (bU prog w) d (merged [] pairs)->R (.ok (.ret .none)) ⟨h',g,dr,tk,os⟩):
  ∀(m i:Nat)(h:Heap)(tk:Nat)(T:Addr),us.length -i=m->i<=us.length->(∀b o,b≠z->b≠to->b≠i1->b≠i2->h0.get? b=some o->h.get? b=some o)->T≠z->Zs h z ti to i1 i2 l1 l2 T i->h.DictOf (bU prog w) d (merged [] (pairs.take i))->
   codeAny 58 A (.builtin "dict.update.loop" {[.ref d,.ref z,rawInt i,.none],[]}) R ⟨h,g,dr,tk,os⟩:=by
 intro m;have Zj:∀(h:Heap),(∀b o,b≠z->b≠to->b≠i1->b≠i2->h0.get? b=some o->h.get? b=some o)->h.IsList l1 us.toArray/\h.IsList l2 vs.toArray:=λh kp=>by obtain⟨o1,e1,r1⟩:=lH;obtain⟨o2,e2,r2⟩:=f9;exact{{o1,kp _ _ D.l1z D.l1TO D.l1i1 D.l1i2 e1,r1},{o2,kp _ _ D.l2z D.l2TO D.l2i1 D.l2i2 e2,r2}}
 induction m with
 |zero=>
  intro i h tk T em hi kp nT hz hd;have ei:i=us.length:=by lia
  refine eX sT ?_;refine ae (aam (show(A.under _).handled=none from hA) D hz (Zj h kp).1 (by rw[ei];simp) λh' hs=>?_);refine ae (ao 660);rw[ei,(bb hp),aT]at hd;obtain⟨o,es,ep,e,r⟩:=hd;exact k h' _ (λb o m1 m2 m3 m4 hb=>hs b o m1 m3 m4 (kp b o m1 m2 m3 m4 hb)) {o,es,ep,hs _ _ n1 n2 n3 e,r}
 |succ m ih=>
  intro i h tk T em hi kp nT hz hd;have bQ:i<us.length:=by lia
  obtain⟨x,hx⟩:∃x,us[i]?=some x:={_,av bQ};obtain⟨kv,rY,Uv⟩:=Paired.at' hp hx;refine eX sT ?_;obtain⟨t1,t2⟩:=Zj h kp;refine ae (aan D nT hz t1 t2 (by simpa using hx) (by simpa using(by rw[hv,aX,rY];rfl)) λh1 bJ pr Ef=>?_);obtain⟨od,es,ep,ed,rd⟩:=hd;refine ae (cm (ae (yA ?_)));refine ae (gX ⟨_,pr,rfl⟩ ?_);refine ae (dh pr 9 660);have lm:(merged [] (pairs.take i)).length<=sizeLine:=by have e1:=qd [] (pairs.take i);rw[aZ]at e1;simp only[jQ]at e1;lia
  refine cm (rU Uv ({od,es,ep,Ef _ _ n1 n2 n3 ed,rd}) λh2 hd2 kC=>?_);refine ao {jE _ 53,?_};have st:∀b o,b≠d->h1.get? b=some o->h2.get? b=some o:=λb o n e=>(kC.2 b n).trans e;have TX:=λb o m1 m2 m3 m4 hb=>st b o (λe=>by rw[e,m7]at hb;cases hb) ((λb o m1 m2 m3 m4 hb=>Ef b o m1 m3 m4 (kp b o m1 m2 m3 m4 hb)) b o m1 m2 m3 m4 hb);obtain⟨⟨b,gs⟩,⟨oT,gT⟩,gi,⟨oa,ja,ra⟩,⟨ob,jb,rb⟩⟩:=bJ;have bM:Zs h2 z ti to i1 i2 l1 l2 T (i+1):=by
   refine{{b,st _ _ (cL n1) gs},?_,st _ _ (cL n4) gi,{oa,st _ _ (cL n2) ja,ra},{ob,st _ _ (cL n3) jb,rb}};by_cases nd:T=d
   ·obtain⟨o',_,_,e',_⟩:=hd2;rw[nd];exact⟨o',e'⟩
   ·exact{oT,st _ _ nd gT}
  exact ih (i+1) h2 _ T ∅ bQ TX nT bM (by rw[vU [] pairs i kv rY];exact hd2)
def Xz{l1 l2 d z ti to i1 i2:Addr}{us vs:Aaf}{h0 h:Heap}{tk:Nat}{pairs:List (Key×Value)}{R:Result->Shared->Prop}(hA:A.handled=none)(D:ZipApart z ti to i1 i2 l1 l2)(m7:h0.get? d=none)(n1:d≠z)(n2:d≠i1)(n3:d≠i2)(n4:d≠ti)(n5:d≠to)
  (lH:h0.IsList l1 us.toArray) (f9:h0.IsList l2 vs.toArray) (hp:Paired 707 us pairs) (hv:vs=pairs.map (·.2)) (hsz:pairs.length<=sizeLine) (h1l:1<=us.length) (g:Array GenState) (dr:Drawn) (os:OsState)
  (k:∀h' tk,(∀b o,b≠z->b≠to->b≠i1->b≠i2->h0.get? b=some o->h'.get? b=some o)->h'.DictOf (bU prog w) d (merged [] pairs)->R (.ok (.ret .none)) ⟨h',g,dr,tk,os⟩)
  (kp:∀b o,b≠z->b≠to->b≠i1->b≠i2->h0.get? b=some o->h.get? b=some o) (hz:IsZip h z ti to .none) (hi:IsPair h ti (.ref i1) (.ref i2)) (ho:∃a b,IsPair h to a b) (j1:h.IsListIter i1 l1 0) (j2:h.IsListIter i2 l2 0) (hd:h.DictOf (bU prog w) d []):
   codeAny 58 A (.builtin "dict.update.loop" {[.ref d,.ref z,rawInt 0,.none],[]}) R ⟨h,g,dr,tk,os⟩:=by
 obtain⟨x,hx⟩:∃x,us[0]?=some x:={_,av ∅};obtain⟨kv,rY,Uv⟩:=Paired.at' hp hx;have t1:h.IsList l1 us.toArray:=by obtain⟨o1,e1,r1⟩:=lH;exact{o1,kp _ _ D.l1z D.l1TO D.l1i1 D.l1i2 e1,r1}
 have t2:h.IsList l2 vs.toArray:=by obtain⟨o2,e2,r2⟩:=f9;exact{o2,kp _ _ D.l2z D.l2TO D.l2i1 D.l2i2 e2,r2}
 refine eX sT ?_;obtain⟨a,b,ho⟩:=ho;refine ae (wpAny_pyNext_zip_item D hz hi ho j1 j2 t1 t2 (by simpa using hx) (by simpa using(by rw[hv,aX,rY];rfl)) λh1 a1 a2 a3 a4 a5 a6 Ef=>?_);obtain⟨od,es,ep,ed,rd⟩:=hd;refine ae (cm (ae (yA ?_)));refine ae (gX ⟨_,a5,rfl⟩ ?_);refine ae (dh a5 9 660);refine cm (rU Uv ({od,es,ep,Ef _ _ n1 n5 n2 n3 ed,rd}) λh2 hd2 kC=>?_);refine ao {jE _ 53,?_};have st:∀b o,b≠d->h1.get? b=some o->h2.get? b=some o:=λb o n e=>(kC.2 b n).trans e;obtain⟨oa,ja,ra⟩:=a3;obtain⟨ob,jb,rb⟩:=a4;have bM:Zs h2 z ti to i1 i2 l1 l2 h.objs.size 1:=by
  refine{{false,st _ _ (cL n1) a1},?_,st _ _ (cL n4) (Ef _ _ D.TIz D.TITO D.TIi1 D.TIi2 hi),{oa,st _ _ (cL n2) ja,ra},{ob,st _ _ (cL n3) jb,rb}};by_cases nd:h.objs.size=d
  ·obtain⟨o',_,_,e',_⟩:=hd2;rw[nd];exact⟨o',e'⟩
  ·exact{_,st _ _ nd a5}
 exact abD hA D m7 n1 n2 n3 n4 lH f9 hp hv hsz g dr os k (us.length -1) 1 h2 _ h.objs.size rfl ∅ (λb o m1 m2 m3 m4 hb=>st b o (λe=>by rw[e,m7]at hb;cases hb) (Ef b o m1 m2 m3 m4 (kp b o m1 m2 m3 m4 hb))) (cq (aW hz)) bM (by rw[vU [] pairs 0 kv rY];exact hd2)
end
section
theorem Ob:∀{ks:List Key}{ys:Aan}{us vs:Aaf},Vals (ks.map kV) us->Vals ys vs->ks.length=ys.length->∃pairs:List (Key×Value),Paired (λ(u:Value)(p:Key×Value)=>(bU P w).is p.1 u=true) us pairs/\vs=pairs.map (·.2)/\KV (ks.zip ys) pairs/\pairs.length=ks.length
 |[],[],_,_,.nil,.nil,_=>{[],.nil,9,.nil,9}
 |k::ks,y::ys,_,_,.cons r1 t1,.cons (b:=v) r2 t2,h=>by obtain⟨ps,h1,h2,h3,h4⟩:=Ob t1 t2 (Nat.succ.inj h);exact{(k,v)::ps,.cons (pW r1) h1,by rw[bt,<-h2],.cons ⟨rfl,r2⟩ h3,cP Nat.succ h4}
variable{prog:Program}{w:World}{A:Around}{E:Aad}
def ad6{l1 l2 d z ti to i1 i2:Addr}{us vs:Aaf}{h0 h:Heap}{tk:Nat}{pairs:List (Key×Value)}{R:Result->Shared->Prop}(hA:A.handled=none)(D:ZipApart z ti to i1 i2 l1 l2)(m7:h0.get? d=none)(n1:d≠z)(n2:d≠i1)(n3:d≠i2)(n4:d≠ti)(n5:d≠to)
  (lH:h0.IsList l1 us.toArray) (f9:h0.IsList l2 vs.toArray) (hp:Paired 707 us pairs) (hv:vs=pairs.map (·.2)) (hsz:pairs.length<=sizeLine) (g:Array GenState) (dr:Drawn) (os:OsState)
  (k:∀h' tk,(∀b o,b≠z->b≠to->b≠i1->b≠i2->h0.get? b=some o->h'.get? b=some o)->h'.DictOf (bU prog w) d (merged [] pairs)->R (.ok (.ret .none)) ⟨h',g,dr,tk,os⟩)
  (kp:∀b o,b≠z->b≠to->b≠i1->b≠i2->h0.get? b=some o->h.get? b=some o) (hz:IsZip h z ti to .none) (hi:IsPair h ti (.ref i1) (.ref i2)) (ho:∃a b,IsPair h to a b) (j1:h.IsListIter i1 l1 0) (j2:h.IsListIter i2 l2 0) (hd:h.DictOf (bU prog w) d []):
   codeAny 58 A (.builtin "dict.update.loop" {[.ref d,.ref z,rawInt 0,.none],[]}) R ⟨h,g,dr,tk,os⟩:=by
 by_cases h1l:1<=us.length
 ·exact Xz hA D m7 n1 n2 n3 n4 n5 lH f9 hp hv hsz h1l g dr os k kp hz hi ho j1 j2 hd
 ·have lp:=bb hp;have e1:us=[]:=dC.mp ∅;have e2:pairs=[]:=dC.mp ∅;subst e1 e2;have t1:h.IsList l1 ([]:Aaf).toArray:=by obtain⟨o1,e1,r1⟩:=lH;exact{o1,kp _ _ D.l1z D.l1TO D.l1i1 D.l1i2 e1,r1}
  have t2:h.IsList l2 vs.toArray:=by obtain⟨o2,e2,r2⟩:=f9;exact{o2,kp _ _ D.l2z D.l2TO D.l2i1 D.l2i2 e2,r2}
  refine eX sT ?_;obtain⟨a,b,ho⟩:=ho;refine ae (wpAny_pyNext_zip_end (show(A.under _).handled=none from hA) D hz hi ho j1 j2 t1 t2 59 λh' hs=>?_);refine ae (ao 660);obtain⟨o,es,ep,e,r⟩:=hd;exact k h' _ (λb o m1 m2 m3 m4 hb=>hs b o m1 m2 m3 m4 (kp b o m1 m2 m3 m4 hb)) {o,es,ep,hs _ _ n1 n5 n2 n3 e,r}
def XA{l1 l2 z ti to i1 i2:Addr}{us vs:Aaf}{pairs:List (Key×Value)}{s:Shared}{Q:Aad}(hA:A.handled=none)(D:ZipApart z ti to i1 i2 l1 l2)
  (lH:s.heap.IsList l1 us.toArray) (f9:s.heap.IsList l2 vs.toArray) (hp:Paired 707 us pairs) (hv:vs=pairs.map (·.2)) (hsz:pairs.length<=sizeLine)
  (hz:IsZip s.heap z ti to .none) (hi:IsPair s.heap ti (.ref i1) (.ref i2)) (ho:∃a b,IsPair s.heap to a b) (j1:s.heap.IsListIter i1 l1 0) (j2:s.heap.IsListIter i2 l2 0)
  (k:∀h' tk,(∀b o,b≠z->b≠to->b≠i1->b≠i2->s.heap.get? b=some o->h'.get? b=some o)->h'.DictOf (bU prog w) s.heap.objs.size (merged [] pairs)->Q 352 {s with heap:=h',toks:=tk}):
  wpAny 58 A (call (.type "dict") [.ref z]) Q E s:=by
 refine callType_codes (Q₁:=λv1 z1=>v1=.ref s.heap.objs.size/\z1={s with heap:=s.heap.push {cls:=.type "dict",data:=.dict #[]}}) F.kt_called_dict (AI _) DS (kt_code_dict_new _ ⟨rfl,rfl⟩) ?_;rintro v1 z1 ⟨rfl,rfl⟩;obtain⟨m6,g,dr,tk,os⟩:=s;have Ah:(m6.push {cls:=.type "dict",data:=.dict #[]}).DictOf (bU prog w) m6.objs.size []:=xB m6;have bJ:(m6.push {cls:=.type "dict",data:=.dict #[]}).get? z=some (zx .none false ti to):=aj _ hz;refine{Ah.typeIs,C2 _ _,?_};refine ae ?_;refine ae (jG Ah.typeIs 660);show wpAny 58 _ (Builtin.Dict.updateFrom "dict.__init__" m6.objs.size (.ref z) [] .none) _ _ _;refine ae (gX ⟨_,bJ,rfl⟩ ?_);refine ae (abG bJ hA λh2 tk2 e ne=>?_);refine ae (j6 ?_);have kp:∀b o,m6.get? b=some o->h2.get? b=some o:=λb o hb=>ne.keeps _ _ (aj _ hb);have bM:=kp _ _ hz;refine ae (vt bM ?_);have hd2:h2.DictOf (bU prog w) m6.objs.size []:=by obtain⟨o',es,ep,h',r⟩:=Ah;exact{o',es,ep,ne.keeps _ _ h',r}
 refine ao {jE _ 53,?_};obtain⟨a,b,ho⟩:=ho;obtain⟨oa,ja,ra⟩:=j1;obtain⟨ob,jb,rb⟩:=j2;have nz:∀{c:Addr}{o:Obj},m6.get? c=some o->m6.objs.size≠c:=λe=>cq (aW e);exact ad6 (show A.in1.handled=none from hA) D (mR (aw _)) (nz hz) (nz ja) (nz jb) (nz hi) (nz ho) lH f9 hp hv hsz g dr os (λh' Ku Ja pw=>{9,k h' Ku Ja pw}) (λb o _ _ _ _ hb=>kp b o hb) bM (kp _ _ hi) {a,b,kp _ _ ho} {oa,kp _ _ ja,ra} {ob,kp _ _ jb,rb} hd2
inductive aeB(K:Frag)(Q:VK)(vs:Aan)(H1:Hp):Prop
 |mk (l1 l2:Addr) (ks:List Key) (ys:Aan) (_:vs=[.ref l1,.ref l2]) (_:bf K H1 l1 (ks.map kV)) (_:bf K H1 l2 ys) (_:ks.length=ys.length) (_:∀d,H1 d=none->Q (.ref d) (upd H1 d (.dK (ky [] (ks.zip ys)))))
def afw(K:Frag)(ta:TA):TE:=λZ H Q=>ta Z H λvs H1=>aeB K Q vs H1
variable{X:Cx}
def Wt{a b:Expr}{ta:TA}{p p2 pos Hh:Pos}(hg:Gl X "dict")(hm:X.mg "dict"=none)(Uz:Gl X "zip")(Mr:X.mg "zip"=none)(hA:X.A.handled=none)(ha:PA X [a,b] ta)
  (hs:starEach [a,b] X.env=[(false,eval a X.env),(false,eval b X.env)]:=by rfl) (kC:starEach [b] X.env=[(false,eval b X.env)]:=by rfl) (Je:starEach [.Call (.Name "zip" p2) [a,b] [] Hh] X.env=[(false,eval (.Call (.Name "zip" p2) [a,b] [] Hh) X.env)]:=by rfl):
  PE X (.Call (.Name "dict" p) [.Call (.Name "zip" p2) [a,b] [] Hh] [] pos) (afw X.K ta):=by
 intro pins s Z H Q I h;refine GQ (qY I hg hm (by decide+kernel:bootBuiltins "dict"=some (.type "dict")) (eG ?_ Je 9));refine fP (GQ (qY I Uz Mr boot_zip (eG (sD (ha Hh pins s Z H _ I h) λus s1 vs H1 I1 r1 q1=>?_) (by rw[hs,kC]) (by rw[kC];rfl))));obtain⟨l1,l2,ks,ys,e,h1,h2,Ms,q⟩:=q1;subst e;obtain⟨u1,u2,rfl,SH,SG⟩:=vals2 r1;cases SH;cases SG;obtain⟨L9,K2,FP,bJ⟩:=I1.list h1;obtain⟨xn,YC,II,bM⟩:=I1.list h2;obtain⟨pairs,lG,jC,gm,Gb⟩:=Ob K2 YC Ms;have b1:l1<s1.heap.objs.size:=by obtain⟨o,e,_⟩:=id FP.isList;exact aW e
 have b2:l2<s1.heap.objs.size:=by obtain⟨o,e,_⟩:=id II.isList;exact aW e
 have lz:ks.length<=sizeLine:=by rw[ah]at bJ;exact bJ
 refine call_zip_2 FP.isList II.isList λh' z0 z1 z2 z3 z4 zs kp=>?_;refine j5 ?_;have t1:h'.IsList l1 L9.toArray:=by obtain⟨o,e,r⟩:=id FP.isList;exact{o,kp _ _ e,r}
 have t2:h'.IsList l2 xn.toArray:=by obtain⟨o,e,r⟩:=id II.isList;exact{o,kp _ _ e,r}
 have l0:L9.length=ks.length:=by have:=K2.length;rw[ah]at this;exact this.symm
 refine XA hA (zipApart_new b1 b2) t1 t2 lG jC ∅ z0 z1 ⟨_,_,z2⟩ z3 z4 λh2 tk TX hd=>?_;have rel:=KV.merge gm .nil;have lzm:(ky [] (ks.zip ys)).length<=sizeLine:=by have e1:=qd [] pairs;rw[rel.length];simp only[jQ]at e1;lia
 have kpA:∀c o,s1.heap.get? c=some o->h2.get? c=some o:=λc o e=>by have lc:=aW e;exact TX c o (aV (bw lc (eC _ _))) (aV (bw lc (eC _ _))) (aV lc) (aV (bw lc (eC _ _))) (kp c o e)
 have ld:s1.heap.objs.size<=h'.objs.size:=by rw[zs];exact eC _ _
 exact{.ref h'.objs.size,_,I1.laid kpA ld (wc lzm (cS.mpr (cL (aV (bw I1.big ld)))) rel hd),9,q _ (I1.bP.fresh ld)}
end
end L2
namespace L2
open PySem PySem.Spec PyProof.Rows PySem.W
end L2
namespace L2
open PySem PySem.Spec PyProof.Rows
section
structure Zu(h:Heap)(z ti to i1 i2 l1 l2 T:Addr)(k:Nat):Prop where
 self:∃b,h.get? z=some (zx (rawInt T) b ti to)
 live:∃o,h.get? T=some o
 ins:IsPair h ti (.ref i1) (.ref i2)
 w1:h.IsTupleIter i1 l1 k
 w2:h.IsTupleIter i2 l2 k
variable{it d:Addr}{i ep:Nat}
abbrev xm(f0:Value)(b:Bool)(d:Addr)(i n ep:Nat)(ok ov:Value):Obj:={cls:=.type "dict_itemiterator",dict:=none,data:=.fields #[f0,.bool b,.ref d,.int i 0,.int n 0,.int ep 0,ok,ov],slots:=#[]}
def RI(h:Heap)(it d:Addr)(i n ep:Nat):Prop:=∃f0 b ok ov,h.get? it=some (xm f0 b d i n ep ok ov)/\(f0=.none\/∃a:Nat,f0=rawInt a)
structure Tk(es:Array DictEntry)(lo:Addr)(h:Heap)(as:Aai):Prop where
 up:as.Pairwise (·<·)
 ab:∀a∈as,lo<=a
 tp:∀(j:Nat)(a:Addr),as[j]?=some a->∃hj:j<es.size,h.get? a=some {cls:=.type "tuple",data:=.seq #[es[j].key,es[j].val]}
end
section
variable{ep:Nat}
structure Zi(h:Heap)(z ti to i1 i2 d l:Addr)(f:Value)(k n ep:Nat):Prop where
 self:IsZip h z ti to f
 ins:IsPair h ti (.ref i1) (.ref i2)
 outs:∃a b,IsPair h to a b
 w1:RI h i1 d k n ep
 w2:h.IsListIter i2 l k
variable{K:Frag}{a:Addr}{xs:Aan}{lo:Int}{n:Nat}{g:TG}{tb:TS}{D:Ends}{Z:St}{H:Hp}
def UX(Pv:Nat->St->Hp->Prop)(h0:Pv 0 Z H)(hl:∀i Z H,i<=xs.length->Pv i Z H->bf K H a xs)
  (hs:∀i x Z H(D':Ends),xs[i]?=some x->Pv i Z H->(∀σ' H',Pv (i+1) σ' H'->D'.nx σ' H')->(∀v H',D.rt v H'->D'.rt v H')->g x Z H λσ2 H2=>tb D' σ2 H2) (hd:∀Z H,Pv xs.length Z H->D.nx Z H):=
 gF (K:=K) (a:=a) (xs:=xs) (g:=g) (tb:=tb) (D:=D) (Z:=Z) (H:=H) Pv h0 hl (λi x Z H hx hp=>hs i x Z H _ hx hp (λ_ _ h=>h) λ_ _ h=>h) hd
def Rg(Pv:Nat->St->Hp->Prop)(h0:Pv 0 Z H)
  (hs:∀i Z H(D':Ends),i<n->Pv i Z H->(∀σ' H',Pv (i+1) σ' H'->D'.nx σ' H')->(∀v H',D.rt v H'->D'.rt v H')->g (.int (lo+i)) Z H λσ2 H2=>tb D' σ2 H2) (hd:∀Z H,Pv n Z H->D.nx Z H):=
 Cm (lo:=lo) (n:=n) (g:=g) (tb:=tb) (D:=D) (Z:=Z) (H:=H) Pv h0 (λi Z H hx hp=>hs i Z H _ hx hp (λ_ _ h=>h) λ_ _ h=>h) hd
end
end L2
namespace rO
open PySem PySem.Spec PyProof.Rows L2 aI
seal L2.PE L2.PT L2.PW L2.PA L2.PS L2.rF L2.PI L2.PO L2.PX L2.PG L2.Nu
def top(i:Nat):Stmt:=PySem.Challenge.pw_askviews_k33_same_or_unlike.main.body.getD i (.Pass {0,0,0,0})
abbrev zR:Stmt:=top 3
abbrev vM:Stmt:=top 4
abbrev vI:Stmt:=top 5
abbrev G9:Stmt:=top 07
abbrev xU:Stmt:=top 08
abbrev EI:Stmt:=top 09
abbrev zM:Stmt:=top 11
abbrev vN:Stmt:=top 12
abbrev uw:Stmt:=top 14
abbrev zL:Stmt:=top 15
abbrev By:Stmt:=top 17
abbrev xQ:Stmt:=top 18
abbrev qN:Stmt:=top 19
abbrev EA:Stmt:=top 21
abbrev s_same:Stmt:=top 22
abbrev EB:Stmt:=top 23
abbrev EE:Stmt:=top 25
abbrev EF:Stmt:=top 26
abbrev Bz:Stmt:=top 27
abbrev EH:Stmt:=top 28
abbrev ED:Stmt:=top 29
abbrev vL:Stmt:=top 30
abbrev G8:Stmt:=top 31
abbrev vK:Stmt:=top 32
abbrev zN:Stmt:=top 33
abbrev BC:Stmt:=top 34
abbrev pY:Stmt:=top 35
abbrev EG:Stmt:=top 36
abbrev EC:Stmt:=top 37
abbrev zP:Stmt:=top 38
abbrev xS:Stmt:=top 39
abbrev zO:Stmt:=top 40
abbrev sF:Stmt:=top 41
abbrev BD:Stmt:=top 42
abbrev u7:Stmt:=top 43
abbrev xT:Stmt:=top 44
abbrev BB:Stmt:=top 45
abbrev BA:Stmt:=top 46
abbrev sE:Stmt:=top 47
abbrev zQ:Stmt:=top 48
abbrev qO:Stmt:=top 49
abbrev Ql:Stmt:=top 50
abbrev vJ:Stmt:=inClass (top 10) 0
abbrev G7:Stmt:=inClass (top 10) 1
abbrev u6:Stmt:=inClass (top 10) 2
abbrev nv:Stmt:=inClass (top 10) 3
abbrev xR:Stmt:=inClass (top 10) 4
def JK(K:Frag)(H:Hp)(a:Addr)(xs:Aan):Prop:=
 (∃o,H a=some (.gE o (.lst xs)))\/∃(o:Obj)(a9:Aak)(n:Nat),K.lookup a=some o/\o.cls=.type "list"/\o.dict=none/\o.data=.seq a9 n/\a9.size<=sizeLine/\Vals xs a9.toList
def JK.sq{K:Frag}(h:JK K H a xs):bf K H a xs:=by
 rcases h with⟨o,h⟩|h
 ·exact .inl (.inr ⟨o,h⟩)
 ·exact .inr h
def dJ(_K:Frag)(f:Addr)(H:Hp):Prop:=∃x p q:Int,H f=some (.lst [.int x,.int p,.int q])
def Ext(f:Addr)(H H':Hp):Prop:=∀b o,b≠f->H b=some o->H' b=some o
def Ext.refl(f:Addr)(H:Hp):Ext f H H:=λ_ _ _ h=>h
def Ext.trans(a:Ext f H H1)(b:Ext f H1 H2):Ext f H H2:=λc o n h=>b c o n (a c o n h)
def Ext.new(a:Ext f H H1)(h:H1 p=none)(o:HO):Ext f H (upd H1 p o):=λb u n q=>by rw[aL (bA (a b u n q) h)];exact a b u n q
def Ext.own(a:Ext f H H1)(h:H p=none)(o:HO):Ext f H (upd H1 p o):=λb u n q=>by rw[aL (bA q h)];exact a b u n q
def Ext.feed(a:Ext f H H1)(o:HO):Ext f H (upd H1 f o):=λb u n q=>by rw[aL n];exact a b u n q
def Ext.none(a:Ext f H H1)(n:p≠f)(h:H1 p=Option.none):H p=Option.none:=by
 cases q:H p with
 |none=>rfl
 |some o=>
  rw[a p o n q]at h;cases h
def dJ.new{K:Frag}(h:dJ K f H)(hp:H p=none)(o:HO):dJ K f (upd H p o):=by obtain⟨x,y,z,hf⟩:=h;exact{x,y,z,by rw[aL (bA hf hp)];exact hf}
def dJ.lst{K:Frag}(h:dJ K f H)(hp:H p=some (.lst xs))(n:p≠f)(o:HO):dJ K f (upd H p o):=by obtain⟨x,y,z,hf⟩:=h;exact{x,y,z,by rw[aL n.symm];exact hf}
def dJ.pf{K:Frag}(h:dJ K f H)(hp:H p=none):p≠f:=by obtain⟨x,y,z,hf⟩:=h;exact(bA hf hp).symm
def dJ.same{K:Frag}{f:Addr}{H H':Hp}(h:dJ K f H)(sm:aJ H H'):dJ K f H':=by obtain⟨x,y,z,hf⟩:=h;exact{x,y,z,sm _ _ hf}
inductive vD(K:Frag)(vs:Aan)(H:Hp)(Q:VK)(_x3:XK):Prop
 |mk (f:Addr) (many:Int) (_:vs=[.ref f,.int many]) (_:dJ K f H) (_:0<many) (_:many<1073741824) (_:∀(i:Int)(H':Hp),0<=i->i<many->dJ K f H'->Ext f H H'->Q (.int i) H')
inductive Sj(K:Frag)(vs:Aan)(H:Hp)(Q:VK)(_x3:XK):Prop
 |mk (a:Addr) (ns:List Int) (k:Int) (_:vs=[.ref a,.int k]) (_:JK K H a (ns.map V.int)) (_:ns.length<=63) (_:0<=k) (_:∀(r:Addr)(H':Hp),dJ K r H'->aJ H H'->H r=none->Q (.ref r) H')
noncomputable def dW:Aag:=["a","ab","r","rs","abc","12","1","x","s","x1","0","abcdefgh"]
inductive GY(K:Frag)(vs:Aan)(H:Hp)(Q:VK)(_x3:XK):Prop
 |mk (f:Addr) (many:Int) (_:vs=[.ref f,.int many]) (_:dJ K f H) (_:0<=many) (_:many<=12) (_:∀(r:Addr)(ws:Aag)(H':Hp),dJ K f H'->Ext f H H'->r≠f->H r=none->H' r=some (.lst (ws.map V.str))->(ws.length:Int)=many->ws.Nodup->(∀z∈ws,z∈dW)->Q (.ref r) H')
section
variable{P:Program}{w:World}{K:Frag}{mg:Aac}{base:Heap}
structure Txt(K:Frag)(mg:Aac):Prop where
 eT:mg "len"=none
 sN:mg "range"=none
 iw:mg "tuple"=none
 pO:mg "list"=none
 hJ:mg "isinstance"=none
 Y5:mg "all"=none
 Y4:mg "any"=none
 Y3:mg "min"=none
 FX:mg "str"=none
 ahn:mg "bool"=none
 aeQ:mg "int"=none
 BR:mg "dict"=none
 sM:mg "sorted"=none
 Y2:mg "set"=none
 xZ:mg "enumerate"=none
 QE:mg "zip"=none
 aby:∃t,mg "SIGNS"=some (.str "abcdefghijklmnopqrstuvwxyz0123456789" t)
 MR:∃t,mg "MOST_SIGNS"=some (.int 08 t)
def Sx:bZ ["_law_script","_law_k"] ["_law_script","_law_k"] (defScope EE):=gA 53
def abe(F:dG K "_law_feed" "_law_feed" EE f fd)(T:Txt K mg):cK P w K mg base dY 1 f fd ["_law_script","_law_k"] (Sj K):=by
 refine F.ok Sx (λ_ _ _ _ h=>by cases h;subst_vars;rfl) 55;obtain⟨a,ns,kk,rfl,hS,hn,hk,k⟩:=h;refine{_,(az (df (b5 lO (bN cY 9 T.eT bH 718) aM (cx _)) (aQ (bK (dM (iZ aM aM (pv 1))))) cy) (aQ (bK (dM (iZ (bF eF (pv 0) (cW pN (pv 1) (bN cY 9 T.eT bH 718)) (λ_ _=>9)) aM (pv 1)))))),?_}
 have nl:(ns.map V.int).length=ns.length:=ah _;refine{_,9,_,_,9,.inl {_,hS.sq,9},9,_,9,?_};refine dS 669 669
 ·refine{_,9,675,689};exact k p _ ⟨_,_,_,au⟩ (λb u q=>by rw[aL (bA q hp)];exact q) hp
 ·have c1:((ns.map V.int).length:Int)≠0:=λe=>c (bj (cP V.int e));have c3:(0:Int)<((ns.map V.int).length:Int):=by lia
  have c4:=nL kk (show((ns.map V.int).length:Int)≠0 by lia);have c5:=lh kk c3;obtain⟨v,hv⟩:∃v,ns[(kk %((ns.map V.int).length:Int)).toNat]?=some v:={_,av (by rw[<-nl];lia)};have ev:sd (ns.map V.int) (kk %((ns.map V.int).length:Int))=some (.int v):=by
   have e0:kk %((ns.map V.int).length:Int)=(((kk %((ns.map V.int).length:Int)).toNat:Nat):Int):=by lia
   rw[e0];exact gW (by rw[aX,hv];rfl)
  exact{_,9,_,9,_,9,_,_,9,.inl {_,hS.sq,9},_,_,9,9,c3,_,_,_,_,9,9,hS.sq,ev,_,9,675,λp hp=>k p _ ⟨_,_,_,au⟩ (λb u q=>by rw[aL (bA q hp)];exact q) hp}
def xi:bZ ["_law_feed_here","_law_many","_law_digit","_law_seed"] ["_law_feed_here","_law_many"] (defScope EF):=gA 53
def abf(F:dG K "_law_draw" "_law_draw" EF f fd)(T:Txt K mg):cK P w K mg base dY 1 f fd ["_law_feed_here","_law_many"] (vD K):=by
 refine F.ok xi (λ_ _ _ _ h=>by cases h;subst_vars;rfl) 55;obtain⟨fe,many,rfl,⟨x,p,q,hf⟩,hm,Mr,k⟩:=h;have lo:∀(x m:Int),0<m->m<2^32->-(2^64)<x % m/\x % m<2^64:=λx m h1 h2=>by have h3:=nL x (show m≠0 by lia);have h4:=lh x h1;lia
 refine{_,(az (yM (cW i9 (bF eF (pv 0) aM (λ_ _=>9)) aM) (Lj (pv 0) aM set_list)) (az (df (b5 aeN (bF eF (pv 0) aM (λ_ _=>9)) (cW acR aM aM) (cx _)) (az (dE 2 xi (cW pN (bF eF (pv 0) aM (λ_ _=>9)) (pv 1))) (az (yM (cW Wx (bF eF (pv 0) aM (λ_ _=>9)) (pv 1)) (Lj (pv 0) aM set_list)) (aQ (bK (pv 2))))) cy) (az (dE 3 xi (cW i9 (cW i9 (cW i9 (cW pN (bF eF (pv 0) aM (λ_ _=>9)) aM) (cW tX aM (bF eF (pv 0) aM (λ_ _=>9)))) (cW tX aM (bF eF (pv 0) aM (λ_ _=>9)))) aM)) (az (dE 3 xi (cW pN (cW tX (pv 3) aM) aM)) (aQ (bK (cW pN (cW pN (cW tX (cW pN (cW i9 (cW tX (pv 3) aM) (bF eF (pv 0) aM (λ_ _=>9))) aM) aM) aM) (pv 1)))))))),?_}
 refine{_,9,fe,_,_,_,9,9,bf.of hf,9,_,_,9,9,_,9,fe,_,_,_,9,9,hf,9,?_};have Gh:upd H fe (.lst [.int x,.int (p+1),.int q]) fe=some (.lst [.int x,.int (p+1),.int q]):=au;have xr:Ext fe H (upd H fe (.lst [.int x,.int (p+1),.int q])):=(Ext.refl fe H).feed _;refine{_,9,fe,_,_,_,9,9,bf.of Gh,9,_,_,9,9,{7,7,7},_,_,9,9,_,9,?_};refine dS 669 669
 ·refine{_,9,fe,_,_,_,9,9,bf.of Gh,9,_,9,_,_,9,9,hm,?_};have l2:many.natAbs.log2<9000:=by
   by_cases hz:many.natAbs=0
   ·rw[hz];decide
   ·rw[Nat.log2_lt hz];exact dI (show many.natAbs<2^30 by lia) (Nat.pow_lt_pow_right 7 7)
  refine{_,9,fe,_,_,_,9,9,bf.of Gh,9,_,9,_,_,9,9,⟨hm,l2⟩,_,9,fe,_,_,_,9,9,Gh,9,?_};exact{_,9,k _ _ (nL _ ∅) (lh _ hm) ⟨_,_,_,au⟩ (xr.feed _)}
 ·refine{_,9,fe,_,_,_,9,9,bf.of Gh,9,_,_,9,9,(by show(0:Int)<2147483647;decide),?_};refine{_,9,fe,_,_,_,9,9,bf.of Gh,9,_,_,9,9,.inl {7,7},_,_,9,9,?_};refine{_,9,fe,_,_,_,9,9,bf.of Gh,9,_,_,9,9,.inl {7,7},_,_,9,9,_,_,9,9,?_};refine{_,9,_,_,9,9,.inr {7,7},_,_,9,9,(by show(0:Int)<2147483647;decide),?_};exact{_,9,_,_,9,9,.inr {7,7},_,9,fe,_,_,_,9,9,bf.of Gh,9,_,_,9,9,_,_,9,9,(by show(0:Int)<2147483399;decide),_,_,9,9,.inr {7,7},_,_,9,9,(by show(0:Int)<2147483563;decide),_,9,_,_,9,9,hm,k _ _ (nL _ ∅) (lh _ hm) ⟨_,_,_,Gh⟩ xr}
structure Dr(P:Program)(w:World)(K:Frag)(mg:Aac)(base:Heap):Prop where
 dN:cn P w K mg base 1 "_law_draw" ["_law_feed_here","_law_many"] (vD K)
def wordAt(i s j:Nat):Str:=dW.getD ((i+s*j) % 12) ""
def VD:((List.range 12).all λi=>([1,5,07,11]:List Nat).all λs=>decide (((List.range 12).map λj=>wordAt i s j).Nodup))=true:=by decide+kernel
def VE:((List.range 12).all λi=>decide (dW.getD i ""∈dW))=true:=by decide+kernel
def NC{i s m:Nat}(hi:i<12)(hs:s∈([1,5,07,11]:List Nat))(hm:m<=12):((List.range m).map λj=>wordAt i s j).Nodup:=by
 have h2:((List.range m).map λj=>wordAt i s j)=(((List.range 12).map λj=>wordAt i s j)).take m:=by rw[<-A8,List.take_range,k7 hm]
 rw[h2];exact(aR (bL.mp (bL.mp VD i (cD.mpr hi)) s hs)).sublist (DP _ _)
def aas(i s j:Nat):wordAt i s j∈dW:=aR (bL.mp VE ((i+s*j) % 12) (cD.mpr (mQ _ 7)))
def aeH{i:Int}(h0:0<=i)(h1:i<4):∃s:Nat,s∈([1,5,07,11]:List Nat)/\sd [V.int 1,V.int 5,V.int 07,V.int 11] i=some (.int (s:Int)):=by
 have c:i=0\/i=1\/i=2\/i=3:=by lia
 rcases c with rfl|rfl|rfl|rfl
 ·exact{1,7,9}
 ·exact{5,7,9}
 ·exact{07,7,9}
 ·exact{11,7,9}
def u4:bZ ["_law_feed_here","_law_many","_law_some","_law_first","_law_step"] ["_law_feed_here","_law_many"] (defScope Bz):=gA 53
def Wy{f:Addr}{fd:FuncData}(F:dG K "_law_words" "_law_words" Bz f fd)(T:Txt K mg)(D:Dr P w K mg base):cK P w K mg base dY 2 f fd ["_law_feed_here","_law_many"] (GY K):=by
 refine F.ok u4 (λ_ _ _ _ h=>by cases h;subst_vars;rfl) 55;obtain⟨fe,many,rfl,hF,hm0,hm1,k⟩:=h;refine{_,(az (kx (i:=2) u4.nd 9 (Or.inr 9) (dM (fu cI (fu cI (fu cI (fu cI (fu cI (fu cI (fu cI (fu cI (fu cI (iZ cI cI cI)))))))))))) (az (kx (i:=3) u4.nd 9 (Or.inr 9) 650) (az (kx (i:=4) u4.nd 9 (Or.inr 9) (bF eF (dM (fu aM (iZ aM aM aM))) 650 (λ_ _=>9))) (aQ (bK (kU 9 (c9 (fs:=["_law_some","_law_first","_law_step"]) (fr:=[2,3,4])) (og 9 T.sN 719) (λ_ _ _ _=>(bF (Ag) (pv 1) (cW pN (cW i9 (pv 2) (cW tX (pv 3) (pv 0))) aM) (λ_ _=>9))))))))),?_}
 refine{(by show 12<=sizeLine;decide),689};have np:=hF.pf hp;have zf:=hF.new hp (.lst [.str "a",.str "ab",.str "r",.str "rs",.str "abc",.str "12",.str "1",.str "x",.str "s",.str "x1",.str "0",.str "abcdefgh"]);refine{_,9,fe,12,9,zf,7,7,λi H1 i0 i1 zf xr=>?_};refine{(by show 4<=sizeLine;decide),λp2 jC=>?_};refine{_,9,fe,4,9,zf.new jC _,7,7,λj H2 j0 j1 km ko=>?_};obtain⟨st,AZ,ev⟩:=aeH j0 j1;refine{_,_,_,_,9,9,bf.of (ko _ _ (zf.pf jC) au),ev,?_};have lG:=xr _ _ np au;have npp:=bA lG jC;have ex:=(((Ext.refl fe H).new hp _).trans xr).trans (((Ext.refl fe H1).new jC _).trans ko);refine{_,9,many,9,8,8,λn m ys H3=>H3=H2/\n<=many.toNat/\m=many.toNat -n/\ys=((List.range n).map λj=>wordAt i.toNat st j).map V.str,{_,9,aO _,9,9},?_};rintro n m ys H3 ⟨rfl,hn,rfl,rfl⟩;have ly:(((List.range n).map λj=>wordAt i.toNat st j).map V.str).length=n:=by rw[ah,ah,eP]
 by_cases bQ:n<many.toNat
 ·refine .inr {bQ,by rw[ly];exact bu ∅,?_};rintro v H4 ⟨rfl,rfl⟩;have hix:sd (dW.map V.str) ((i+(st:Int)*(0+(n:Int))) % 12)=some (.str (wordAt i.toNat st n)):=by
   have e0:(i+(st:Int)*(0+(n:Int))) % 12=(((i.toNat+st*n) % 12:Nat):Int):=by
    have e1:i=(i.toNat:Int):=by lia
    rw[CZ,e1];simp
   rw[e0];refine gW ?_;have Zz:(i.toNat+st*n) % 12<dW.length:=mQ _ 7;rw[aX,av Zz];unfold wordAt;rw[cB,av Zz];rfl
  have ae1:-(2^64)<(st:Int)/\(st:Int)<2^64:=by simp at AZ;lia
  refine{_,9,_,9,_,9,_,9,_,_,9,9,.inl ae1,_,_,9,9,_,_,9,9,(by show(0:Int)<12;decide),_,_,_,_,9,9,bf.of (ko _ _ np (by rw[aL npp];exact lG)),hix,?_};refine{many.toNat -(n+1),8,9,bQ,9,?_};rw[List.range_succ,aE,aE];rfl
 ·have en:n=many.toNat:=by lia
  refine .inl {by show many.toNat<=n;lia,by rw[ly];exact bC (bu ∅),λl hl=>?_};have nl:=km.pf hl;refine k l _ _ (km.new hl _) (ex.new hl _) nl (ex.none nl hl) au ?_ (NC ∅ AZ ∅) λz hz=>?_
  ·rw[ah,eP];lia
  ·obtain⟨j,_,rfl⟩:=aD.mp hz;exact aas _ _ _
def tF(hg:Gl X x)(hm:X.mg x=none)(hv:bootBuiltins x=some (.type n))(hn:x≠"__name__":=by decide)(hd:658=false:=by decide):PE X (.Name x pos) (tC (.ty n)):=aa6 hg hm hv rfl hn hd
def SIGNS:Str:="abcdefghijklmnopqrstuvwxyz0123456789"
def sgn(c:Nat):Bool:=!(Builtin.Str.occurrences SIGNS ⟨#[c]⟩ 0 SIGNS.length 1).isEmpty
def isVal(s:Str):Bool:=decide ((1:Int)<=(s.length:Int))&&(decide ((s.length:Int)<=08)&&(s.cps.toList.map sgn).all id)
def bh(s:Str):Bool:=Txt.startswith s "?"&&isVal (Txt.slice s (some 1) none)
inductive Yq(vs:Aan)(H:Hp)(Q:VK)(_x3:XK):Prop
 |mk (z:Str) (_:vs=[.str z]) (_:z.length<=1000) (_:∀H',aJ H H'->Q (.bl (isVal z)) H')
inductive Qb(vs:Aan)(H:Hp)(Q:VK)(_x3:XK):Prop
 |mk (z:Str) (_:vs=[.str z]) (_:z.length<=1000) (_:∀H',aJ H H'->Q (.bl (bh z)) H')
def aB(h:H p=none)(o:HO):aJ H (upd H p o):=λb u q=>by rw[aL (bA q h)];exact q
def om(t:Value):kitOne K t t=some true:=by unfold kitOne;rw[aK (wg t)]
def NI:bZ ["thing"] ["thing"] (defScope zR):=gA 53
def NN(F:dG K "is_value" "is_value" zR f fd)(T:Txt K mg):cK P w K mg base dY 1 f fd ["thing"] Yq:=by
 refine F.ok NI (λ_ _ _ _ h=>by cases h;subst_vars;rfl) 55;obtain⟨z,rfl,hz,k⟩:=h;refine{_,(az (df (jx (gO (bN jo 9 T.hJ 53 (cu (pv 0) (tF (n:="str") 9 T.FX 53))))) 671 cy) (aQ (bK (tW (Ln YO YO aM (bN cY 9 T.eT bH 718) (Ws 9 T.MR)) (tV (bN (zp 9) 9 T.Y5 boot_all (bX (kU 9 678 (SX (pv 0)) (λ_ _ _ _=>(jK S8 (pv 0) (Wr 9 T.aby) 649)))))))))),?_}
 refine{_,9,_,_,_,true,9,pF.str z,om _,_,9,?_};refine fU ?_;refine{_,9,_,_,9,{(bC (bu hz)),9},_,_,9,9,_,9,?_};refine dS 688 688
 ·refine{_,_,9,9,_,9,?_};refine dS 720 720
  ·refine{_,9,_,9,λi m ys H2=>H2=H/\i<=z.cps.size/\m=z.cps.size -i/\ys=((z.cps.toList.take i).map sgn).map V.bl,{_,9,aO _,9,9},?_};rintro i m ys H2 ⟨rfl,hi,rfl,rfl⟩;have hl:∀j,(((z.cps.toList.take j).map sgn).map V.bl).length<=1000:=λj=>by
    rw[ah,ah,aZ];have:z.cps.toList.length=z.length:=by simp[Str.length]
    lia
   by_cases bQ:i<z.cps.size
   ·refine .inr {bQ,bu (hl i),?_};rintro v H3 ⟨rfl,c,hc,rfl⟩;refine{_,9,_,_,9,9,_,Nat.sub_lt_sub_left bQ (eB i),9,bQ,9,?_}
    ·have Jk:z.cps.toList[i]?=some c:=by simpa using hc
     rw[bq,Jk,aE,aE];rfl
   ·have e:i=z.cps.size:=by lia
    refine .inl {e,bC (bu (hl i)),λl pj=>?_};refine{_,(z.cps.toList.take i).map sgn,9,bf.of au,?_};have ev:isVal z=((z.cps.toList.take i).map sgn).all id:=by unfold isVal;rw[c1,c2,(cU (by rw[e];simp)),iV,iV]
    rw[<-ev];exact k _ (aB pj _)
  ·have ev:isVal z=false:=by unfold isVal;rw[iO.mpr c2,kr,tw]
   have q:=k H (aJ.refl H);rw[ev]at q;exact q
 ·have ev:isVal z=false:=by unfold isVal;rw[iO.mpr c1,kr]
  have q:=k H (aJ.refl H);rw[ev]at q;exact{_,9,fU q}
structure Dv(P:Program)(w:World)(K:Frag)(mg:Aac)(base:Heap):Prop where
 is_value:cn P w K mg base 1 "is_value" ["thing"] Yq
def JP:bZ ["thing"] ["thing"] (defScope vM):=gA 53
def slice_le(z:Str):(Txt.slice z (some 1) none).length<=z.length:=rD z _ _
def JS(F:dG K "is_unknown" "is_unknown" vM f fd)(T:Txt K mg)(D:Dv P w K mg base):cK P w K mg base dY 2 f fd ["thing"] Qb:=by
 refine F.ok JP (λ_ _ _ _ h=>by cases h;subst_vars;rfl) 55;obtain⟨z,rfl,hz,k⟩:=h;refine{_,(aQ (bK (tW (bN jo 9 T.hJ 53 (cu (pv 0) (tF (n:="str") 9 T.FX 53))) (tW (jk PySem.F.plainAttrs_str PySem.F.slot_str_startswith PySem.F.type_str_startswith JV (pv 0) (bX cI)) (tV (cl D.is_value hr (bX (mJ Sq (pv 0) (oQ aM) oR)))))))),?_};refine{_,9,_,_,_,true,9,pF.str z,om _,_,9,?_};refine nr ?_;refine{_,9,9,_,_,9,9,_,9,?_};refine dS 688 688
 ·refine{_,9,_,9,_,9,(bC (bu hz)),_,9,br (slice_le z) hz,λH' sm=>?_};have ev:bh z=isVal (Txt.slice z (some 1) none):=by unfold bh;rw[c1,iV]
  rw[<-ev];exact k H' sm
 ·have ev:bh z=false:=by unfold bh;rw[iO.mpr c1,kr]
  have q:=k H (aJ.refl H);rw[ev]at q;exact q
end
structure Du(P:Program)(w:World)(K:Frag)(mg:Aac)(base:Heap):Prop where
 is_unknown:cn P w K mg base 2 "is_unknown" ["thing"] Qb
section
variable{P:Program}{w:World}{K:Frag}{mg:Aac}{base:Heap}
def gK(g:cV):List (Key×V):=g.map λp=>(Sum.inr p.1,.str p.2)
def qH(g:cV)(u:Str):iC (gK g) (Sum.inr u:Key)=(aI.get g u).map V.str:=by
 unfold gK aI.get
 induction g with
 |nil=>rfl
 |cons p r ih=>
  by_cases c:p.1=u
  ·rw[bt,sC (cP Sum.inr c),fW (p:=λp:Str×Str=>decide (p.1=u)) (bj c)];rfl
  ·rw[bt,pX (λe=>c (by injection e)),fX (p:=λp:Str×Str=>decide (p.1=u)) (λd=>c (aR d))];exact ih
def SN{g:cV}{u v:Str}(n:aI.get g u=none):putK (gK g) (Sum.inr u) (.str v)=gK (g++[(u,v)]):=by rw[EK _ (by rw[qH,n];rfl)];unfold gK;rw[aE];rfl
inductive Ez(K:Frag)(vs:Aan)(H:Hp)(Q:VK)(_x3:XK):Prop
 |mk (d t a:Addr) (g:cV) (ts as:Aag) (_:vs=[.ref d,.ref t,.ref a]) (_:H d=some (.dK (gK g))) (_:g.length<=1000) (_:(keys g).Nodup) (_:aY K H t (ts.map V.str)) (_:aY K H a (as.map V.str)) (_:ts.length<=1000) (_:as.length<=1000) (_:(∀z∈ts,z.length<=1000)) (_:(∀H',aJ H H'->aI.fit bh g ts as=none->Q .cz H')) (_:∀p g' H',aJ H H'->H p=none->H' p=some (.dK (gK g'))->aI.fit bh g ts as=some g'->Q (.ref p) H')
def tU:bZ ["given","terms","aim","longer","term","aimed","meant"] ["given","terms","aim"] (defScope EI):=gA 53
def fT{H H':Hp}{a:Addr}{xs:Aan}(q:aY K H a xs)(s:aJ H H'):aY K H' a xs:=by
 rcases q with(q|⟨o,q⟩)|q
 ·exact .inl (.inl (s _ _ q))
 ·exact .inl (.inr {o,s _ _ q})
 ·exact .inr q
theorem zi:∀{ts as:Aag}{g:cV},ts.length≠as.length->aI.fit bh g ts as=none
 |[],[],_,h=>absurd rfl h
 |[],_::_,_,_=>rfl
 |_::_,[],_,_=>rfl
 |t::ts,a::as,g,h=>by
  have h':ts.length≠as.length:=λe=>h (by rw[bE,bE,e]);unfold aI.fit;split
  ·split
   ·split
    ·exact zi h'
    ·rfl
   ·exact zi h'
  ·split
   ·exact zi h'
   ·rfl
def Te{f:Addr}{fd:FuncData}(F:dG K "fitted" "fitted" EI f fd)(T:Txt K mg)(D:Du P w K mg base):cK P w K mg base dY 3 f fd ["given","terms","aim"] (Ez K):=by
 refine F.ok tU (λ_ _ _ _ h=>by cases h;subst_vars;rfl) 55;obtain⟨d,t,a,g,ts,as,rfl,hd,lg,nd,ht,ha,lt,la,hz,k1,k2⟩:=h;refine{_,(az (df (b5 pV (bN cY 9 T.eT bH 719) (bN cY 9 T.eT bH (bX (pv 2))) (cx _)) (aQ (bK jz)) cy) (az (dE 3 tU (cQ GF 9 T.BR 53 718)) (az (dR bG 9 (OK 9 T.QE (cu (pv 1) (pv 2))) (jy 9 (b9 (fZ 4 tU) (b9 (fZ 5 tU) fQ))) (az (dE 6 tU (EM (gO (cl D.is_unknown hr (bX (pv 4)))) (jk eU gM l9 IT (pv 3) (cu (pv 4) (pv 5))) (pv 4))) (aQ (df (b5 pV (pv 6) (pv 5) (cx _)) (aQ (bK jz)) cy)))) (aQ (bK (pv 3)))))),?_}
 have IW:(ts.map V.str).length=ts.length:=ah _;have TR:(as.map V.str).length=as.length:=ah _;refine{_,9,_,_,9,.inr ⟨_,ht,rfl⟩,_,9,_,_,9,.inr ⟨_,ha,rfl⟩,9,_,9,?_};refine dS 669 669
 ·refine k1 H (aJ.refl H) (zi λe=>?_);rw[IW,TR,e]at c;simp at c
 have le:ts.length=as.length:=by have:¬¬(V.int (ts.length:Int)=V.int (as.length:Int)):=λh=>c 717;have:=j4.mp this;injection this with this;lia
 refine{_,9,d,gK g,9,.inl hd,689};have s1:aJ H (upd H p (.dK (gK g))):=aB hp _;have lG:upd H p (.dK (gK g)) p=some (.dK (gK g)):=au;refine{_,rfl,_,rfl,t,a,rfl,{_,fT ht s1},{_,fT ha s1},MV (ys:=as.map V.str)
  (λi Z H2=>∃(x4 x5 x6:Aao)(gi:cV),Z=[some 700,some (.ref t),some 654,some 666,x4,x5,x6]/\aJ H H2/\H2 p=some (.dK (gK gi))/\(keys gi).Nodup/\gi.length<=g.length+i/\aI.fit bh g ts as=aI.fit bh gi (ts.drop i) (as.drop i))
  (by rw[IW,TR,le]) {_,_,_,g,9,s1,lG,nd,aw _,9} ?_ ?_ ?_}
 ·rintro i Z H2 hi ⟨x4,x5,x6,gi,rfl,s2,_⟩;exact{fT ht s2,fT ha s2}
 ·rintro i x y q Z H2 hx hy ⟨x4,x5,x6,gi,rfl,s2,jC,qx,lg2,ef⟩ hq;rw[aX]at hx hy;obtain⟨z,v5,rfl⟩:=bz.mp hx;obtain⟨b,Pn,rfl⟩:=bz.mp hy;have li:=(aq.mp v5).1;have dz:ts.drop i=z::ts.drop (i+1):=by rw[gh li];rw[av li]at v5;cases v5;rfl
  have db:as.drop i=b::as.drop (i+1):=by
   have TL:i<as.length:=by lia
   rw[gh TL];rw[av TL]at Pn;cases Pn;rfl
  rw[dz,db]at ef;have s3:aJ H2 (upd H2 q (.tup [.str z,.str b])):=aB hq _;have gm:=s3 _ _ jC;refine{q,_,9,aY.of au,9,_,_,9,_,_,9,9,?_};refine{_,9,z,9,hz z (aA v5),λH4 s4=>{_,9,?_}};have uO:=s2.trans (s3.trans s4);have Gb:=s4 _ _ gm;have Zb:(gK gi).length=gi.length:=ah _;refine dS 688 688
  ·have c1:=c1;refine{_,9,.inr (.inr (.inl {9,.inl ⟨_,Gb⟩})),_,9,_,9,p,Sum.inr z,.str b,gK gi,9,9,Gb,by rw[Zb];exact bw (show gi.length<3000 by lia) (by rw[bW];decide),λv hv=>?_,λhv=>?_}
   ·rw[qH]at hv;obtain⟨m,hm,rfl⟩:=bz.mp hv;refine{_,9,_,9,9,_,9,?_};refine dS 720 720
    ·refine k1 H4 uO ?_;rw[ef];unfold aI.fit;rw[aK c1,hm];show(if m=b then _ else none)=none;rw[aH (λe=>by rw[e]at c2;simp at c2)]
    ·have e2:m=b:=by have:¬¬(V.str m=V.str b):=λh=>c2 717;have:=j4.mp this;injection this
     refine{_,_,_,gi,9,uO,Gb,qx,8,?_};rw[ef]
     conv=>lhs;unfold aI.fit
     rw[aK c1,hm];show(if m=b then _ else none)=_;rw[aK e2]
   ·rw[qH]at hv;have hm:=pS.mp hv;rw[SN hm];refine{_,9,_,9,9,_,9,?_};refine dS 720 720
    ·simp at c2
    ·refine{_,_,_,gi++[(z,b)],9,λb' u h=>?_,au,xk qx hm,by rw[aC];show gi.length+1<=_;lia,?_}
     ·rw[aL (bA h hp)];exact uO _ _ h
     ·rw[ef]
      conv=>lhs;unfold aI.fit
      rw[aK c1,hm]
  ·have c1:=c1;refine{_,9,?_};refine{_,9,_,9,9,_,9,?_};refine dS 720 720
   ·refine k1 H4 uO ?_;rw[ef];unfold aI.fit;rw[aH c1,aH (λe=>by rw[e]at c2;simp at c2)]
   ·have e2:z=b:=by have:¬¬(V.str z=V.str b):=λh=>c2 717;have:=j4.mp this;injection this
    refine{_,_,_,gi,9,uO,Gb,qx,8,?_};rw[ef]
    conv=>lhs;unfold aI.fit
    rw[aH c1,aK e2]
 ·rintro Z H2 ⟨x4,x5,x6,gi,rfl,s2,jC,qx,lg2,ef⟩;rw[IW,jr (aw _),jr ∅]at ef;exact{_,9,k2 p gi H2 s2 hp jC ef}
structure Df(P:Program)(w:World)(K:Frag)(mg:Aac)(base:Heap):Prop extends Du P w K mg base where
 fitted:cn P w K mg base 3 "fitted" ["given","terms","aim"] (Ez K)
def vo(z:Str)(l:Aag):F6 (.str z) (l.map V.str)=decide (z∈l):=by
 unfold F6;rw[ml,fb,il];constructor
 ·rintro⟨y,hy,e⟩;rw[dO e]at hy;exact bj hy
 ·intro h;exact{z,aR h,by show(z==z)=true;simp}
def zh(l:Aag):(l.map V.str).all tK=true:=by rw[CY];exact bL.mpr λ_ _=>9
def iN{zs:Aag}{i:Nat}(h:(zs.map V.str)[i]?=some y):∃z,zs[i]?=some z/\y=V.str z:=by
 rw[aX]at h;cases e:zs[i]? with
 |none=>rw[e]at h;cases h
 |some z=>rw[e]at h;exact{z,9,(bT h).symm}
theorem fC{α β:Type}{R:α->β->Prop}:∀{xs zs:List α}{ys ws:List β},Paired R xs ys->Paired R zs ws->Paired R (xs++zs) (ys++ws)
 |_,_,_,_,.nil,h=>h
 |_,_,_,_,.cons a r,h=>.cons a (fC r h)
def Et(K:Frag)(H:Hp)(v:V)(a:aI.Atom):Prop:=∃b c,v=.ref b/\aY K H b [.str a.1,.ref c]/\aY K H c (a.2.map V.str)
abbrev kI(K:Frag)(H:Hp):Aan->List aI.Atom->Prop:=Paired (Et K H)
def Et.same{H H':Hp}{v:V}{a:aI.Atom}(h:Et K H v a)(s:aJ H H'):Et K H' v a:=by obtain⟨b,c,e,h1,h2⟩:=h;exact{b,c,e,fT h1 s,fT h2 s}
def kI.same{H H':Hp}{ys:Aan}{as:List aI.Atom}(h:kI K H ys as)(s:aJ H H'):kI K H' ys as:=by
 induction h with
 |nil=>exact .nil
 |cons h _ ih=>exact .cons (h.same s) ih
def lB(a:aI.Atom):Prop:=a.2.length<=100/\PyData.strOk a.1=true/\∀z∈a.2,z.length<=100/\PyData.strOk z=true
inductive Iz(K:Frag)(vs:Aan)(H:Hp)(Q:VK)(_x3:XK):Prop
 |mk (pl d:Addr) (v:V) (ys:Aan) (p:List aI.Atom) (a:aI.Atom) (g:cV) (_:vs=[.ref pl,v,.ref d]) (_:bf K H pl ys) (_:kI K H ys p) (_:Et K H v a) (_:p.length<=1000) (_:(∀b∈p,lB b)) (_:lB a) (_:H d=some (.dK (gK g))) (_:∀H',aJ H H'->Q (.bl (aI.zC bh g p a)) H')
def AR:bZ ["part","atom","given","free"] ["part","atom","given"] (defScope vN):=gA 53
def iY{H H':Hp}{a:Addr}{xs:Aan}(q:bf K H a xs)(s:aJ H H'):bf K H' a xs:=by
 rcases q with(q|⟨o,q⟩)|q
 ·exact .inl (.inl (s _ _ q))
 ·exact .inl (.inr {o,s _ _ q})
 ·exact .inr q
def JT{f:Addr}{fd:FuncData}(F:dG K "is_touched" "is_touched" vN f fd)(T:Txt K mg)(D:Du P w K mg base):cK P w K mg base dY 3 f fd ["part","atom","given"] (Iz K):=by
 refine F.ok AR (λ_ _ _ _ h=>by cases h;subst_vars;rfl) 55;obtain⟨pl,d,v,ys,p,a,g,rfl,jM,hp,ha,lp,fp,fa,hd,k⟩:=h;obtain⟨ab,ac,rfl,v7,qz⟩:=ha;refine{_,(az (kx (i:=3) AR.nd 9 (Or.inr 9) (mw 9 (c9 (fs:=["given"]) (fr:=[2])) (ir (bF bY (pv 1) aM (λ_ _=>9))) (λ_ _ _ _=>(PW.pt (Lb (gO (cl D.is_unknown hr 718)) (Hc (SO (S4 (oZ hr) (pv 0) (pv 1))))))) 729)) (aQ (bK (bN (zo 9) 9 T.Y4 53 (bX (Wv 9 (GA (fs:=["free"]) (fr:=[3])) (dH (pv 0)) (λ_ _ _ _=>(bN (GG 9) 9 T.Y4 53 (bX (kU 9 (c9 (fs:=["other"]) (fr:=[0])) (Lh (pv 1)) (λ_ _ _ _=>(jK (zV) (pv 0) (bF (vm) (pv 1) aM (λ_ _=>9)) 649)))))))))))),?_}
 obtain⟨fl,f0,fz⟩:=fa
 let fr:Str->Bool:=λt=>bh t&&(aI.get g t).isNone
 refine{_,9,_,_,_,_,9,9,v7,9,ac,9,⟨_,qz⟩,mN (xs:=a.2.map V.str) (λi zs H2=>aJ H H2/\i<=a.2.length/\zs=((a.2.take i).filter fr).map V.str) 665 {aJ.refl H,aO _,9} ?_ ?_ ?_}
 ·rintro i zs H2 hi ⟨s2,my,rfl⟩;refine{fT qz s2,?_};rw[ah];have:=da fr (a.2.take i);rw[aZ]at this;lia
 ·rintro i x zs H2 N hc ⟨s2,my,rfl⟩ hN;obtain⟨z,hz,rfl⟩:=iN hc;have bQ:=(aq.mp hz).1;refine{_,rfl,z,rfl,by have:=(fz z (aA hz)).1;lia,λH3 s3=>{_,9,?_}};have rV:=s2.trans s3;have fin:∀H4,aJ H H4->if fr z=true then N ((((a.2.take i).filter fr).map V.str)++[.str z]) H4 else N (((a.2.take i).filter fr).map V.str) H4:=λH4 s4=>by
   refine dS 669 669
   ·refine hN _ _ {s4,bQ,?_};rw[bq,hz,eZ,aE];show _=_++List.map V.str (List.filter fr [z]);rw[cZ,aK c];rfl
   ·refine hN _ _ {s4,bQ,?_};rw[bq,hz,eZ,aE];show _=_++List.map V.str (List.filter fr [z]);rw[cZ,aH c];simp
  refine dS 669 669
  ·refine{_,9,_,9,d,_,9,kS.k (k:=Sum.inr z) (rV _ _ hd),_,9,?_};have e:(!(iC (gK g) (Sum.inr z:Key)).isSome)=fr z:=by rw[qH];show _=(bh z&&_);rw[show bh z=true from c];cases aI.get g z<;>rfl
   rw[e];have:=fin H3 rV;cases q:fr z with
   |true=>rw[q]at this;exact⟨_,rfl,this⟩
   |false=>rw[q]at this;exact this
  ·have q:fr z=false:=by show(bh z&&_)=false;rw[show bh z=false by simpa using c];rfl
   have:=fin H3 rV;rw[q]at this;exact this
 rintro zs H2 ⟨s2,_,rfl⟩ l hl;rw[ah,aT];generalize UA:a.2.filter fr=El;have lfe:El.length<=100:=by rw[<-UA];have:=da fr a.2;lia
 have s3:aJ H (upd H2 l (.lst (El.map V.str))):=s2.trans (aB hl _);have t7:upd H2 l (.lst (El.map V.str)) l=some (.lst (El.map V.str)):=au;generalize (upd H2 l (.lst (El.map V.str)))=H3 at s3 t7⊢;have LP:=bb hp;refine{_,9,pl,9,{_,iY jM s3},iS (xs:=ys) (λi zs H4=>aJ H3 H4/\i<=p.length/\zs=((p.take i).map λo=>El.any λt=>decide (t∈o.2)).map V.bl) (bu ∅) {aJ.refl _,aO _,9} ?_ ?_ ?_}
 ·rintro i zs H4 hi ⟨s4,my,rfl⟩;refine{iY jM (s3.trans s4),?_};rw[ah,ah,aZ];lia
 ·rintro i x zs H4 N hc ⟨s4,my,rfl⟩ hN;obtain⟨o,ho,hxo⟩:=Paired.at' hp hc;have bQ:=(aq.mp ho).1;obtain⟨ob,oc,rfl,hob,Zw⟩:=hxo.same (s3.trans s4);obtain⟨ol,_,oz⟩:=fp o (aA ho);refine{_,9,l,9,{_,bf.of (s4 _ _ t7)},iS (xs:=El.map V.str) (λj us H5=>H5=H4/\j<=El.length/\us=((El.take j).map λt=>decide (t∈o.2)).map V.bl) 665 {9,aO _,9} ?_ ?_ ?_}
  ·rintro j us H5 hj ⟨rfl,zc,rfl⟩;refine{bf.of (s4 _ _ t7),?_};rw[ah,ah,aZ];lia
  ·rintro j y us H5 M hcy ⟨rfl,zc,rfl⟩ hM;obtain⟨t,ht,rfl⟩:=iN hcy;have hjt:=(aq.mp ht).1;refine{_,9,_,9,_,_,_,_,9,9,hob,9,oc,_,9,.inr Zw,9,zh _,?_};rw[vo];refine hM _ _ {9,hjt,?_};rw[bq,ht,aE,aE];rfl
  ·rintro us H5 ⟨rfl,_,rfl⟩ q hq;rw[ah,aT];refine{q,_,9,bf.of au,hN _ _ {s4.trans (aB hq _),bQ,?_}};rw[bq,ho,aE,aE,ml];rfl
 ·rintro zs H4 ⟨s4,_,rfl⟩ q hq;rw[LP,aT];refine{q,_,9,bf.of au,?_};have e:((p.map λo=>El.any λt=>decide (t∈o.2)).any id)=aI.zC bh g p a:=by rw[ml,<-UA];rfl
  rw[e];exact k _ (s3.trans (s4.trans (aB hq _)))
structure Dt2(P:Program)(w:World)(K:Frag)(mg:Aac)(base:Heap):Prop extends Df P w K mg base where
 is_touched:cn P w K mg base 3 "is_touched" ["part","atom","given"] (Iz K)
def C6(K:Frag)(H:Hp):Aan->List (List aI.Atom)->Prop:=Paired λv p=>∃l ys,v=.ref l/\H l=some 682/\kI K H ys p
def C6.same{H H':Hp}{vs:Aan}{ps:List (List aI.Atom)}(h:C6 K H vs ps)(s:aJ H H'):C6 K H' vs ps:=by
 unfold C6 at h⊢
 induction h with
 |nil=>exact .nil
 |cons h _ ih=>
  obtain⟨l,ys,e,h1,h2⟩:=h;exact .cons {l,ys,e,s _ _ h1,h2.same s} ih
inductive IA(K:Frag)(vs:Aan)(H:Hp)(Q:VK)(_x3:XK):Prop
 |mk (l d:Addr) (ys:Aan) (as:List aI.Atom) (g:cV) (_:vs=[.ref l,.ref d]) (_:bf K H l ys) (_:kI K H ys as) (_:as.length<=100) (_:(∀b∈as,lB b)) (_:H d=some (.dK (gK g))) (_:∀p Bn H',aJ H H'->H p=none->H' p=some (.lst Bn)->C6 K H' Bn (aI.partsOf bh g as)->Q (.ref p) H')
def kh:bZ ["atoms","given","parts","atom","part","beside","earlier"] ["atoms","given"] (defScope zM):=gA 53
theorem Ab{n:Nat}:∀{l:List Nat},n∈l->n<=l.sum
 |[],h=>by cases h
 |m::l,h=>by
  rw[jU];rcases aN.mp h with rfl|h
  ·lia
  ·have:=Ab h;lia
def Qs{g:cV}(as:List aI.Atom)(fa:∀b∈as,lB b):∀q∈as.foldl (aI.pE bh g) [],q.length<=as.length/\∀b∈q,lB b:=λq hq=>by obtain⟨_,h2,h3,_⟩:=aI.EN as [] [] .nil 59 59 59;rw[jP]at h3;refine{?_,λb hb=>fa b (by simpa using(h2 b).mpr ⟨q,hq,hb⟩)};rw[<-h3];exact Ab (aD.mpr ⟨q,hq,rfl⟩)
def NM{f:Addr}{fd:FuncData}(F:dG K "parts_of" "parts_of" zM f fd)(T:Txt K mg)(D:Dt2 P w K mg base):cK P w K mg base dY 4 f fd ["atoms","given"] (IA K):=by
 refine F.ok kh (λ_ _ _ _ h=>by cases h;subst_vars;rfl) 55;obtain⟨l,d,ys,as,g,rfl,hl,lF,la,fa,hd,k⟩:=h;refine{_,(az (dE 2 kh (dM iu)) (az (dR bG 9 (dH (pv 0)) (fZ 3 kh) (az (dE 4 kh (dM (bX (pv 3)))) (az (dE 5 kh (dM iu)) (az (dR bG 9 (dH (pv 2)) (fZ 6 kh) (aQ (df (gO (cl D.is_touched hr (iZ (pv 6) (pv 3) (pv 1)))) (aQ (dE 4 kh (cW vR (pv 6) (pv 4)))) (aQ (gS (jk bR iI iH tZ (pv 5) (bX (pv 6)))))))) (aQ (dE 2 kh (cW vR (pv 5) (dM (bX (pv 4)))))))))) (aQ (bK (pv 2))))),?_}
 refine{409,λpp Pa=>?_};have s0:aJ H (upd H pp 656):=aB Pa _;have m6:upd H pp 656 pp=some 656:=au;refine{_,rfl,l,rfl,{_,iY hl s0},gF (xs:=ys) (λi Z H2=>∃(x3 x4 x5 x6:Aao)(pq:Addr)(vs:Aan),Z=[some 727,some 700,some (.ref pq),x3,x4,x5,x6]/\i<=as.length/\aJ H H2/\H pq=none/\H2 pq=some (.lst vs)/\C6 K H2 vs ((as.take i).foldl (aI.pE bh g) [])/\vs.length<=i)
  {_,_,_,_,pp,[],9,aO _,s0,Pa,m6,.nil,aw _} ?_ ?_ ?_}
 ·rintro i Z H2 hi ⟨_,_,_,_,pq,vs,rfl,my,s2,_⟩;exact iY hl s2
 ·rintro i x Z H2 hx ⟨_,_,_,_,pq,vs,rfl,my,s2,O8,Ml,Eg,lvs⟩;obtain⟨a,ha,B3⟩:=Paired.at' lF hx;have bQ:=(aq.mp ha).1;have fa1:=fa a (aA ha);refine{_,9,(by show 1<=sizeLine;decide),λp1 lG=>?_};have s3:aJ H2 (upd H2 p1 (.lst [x])):=aB lG _;have gm:upd H2 p1 (.lst [x]) p1=some (.lst [x]):=au;generalize (upd H2 p1 (.lst [x]))=H3 at s3 gm⊢;refine{409,λbs Cg=>?_};have s4:aJ H3 (upd H3 bs 656):=aB Cg _;have Po:upd H3 bs 656 bs=some 656:=au;have rV:=s2.trans s3;have adB:=B3.same rV;have adF:=Eg.same s3;have e0:(as.take (i+1)).foldl (aI.pE bh g) []=aI.pE bh g ((as.take i).foldl (aI.pE bh g) []) a:=by rw[bq,ha,pG];rfl
  have UW:=Qs (g:=g) (as.take i) λb hb=>fa b (iJ hb);rw[e0];generalize ahA:(as.take i).foldl (aI.pE bh g) []=ps at Eg adF UW;have UW:∀q∈ps,q.length<=i/\∀b∈q,lB b:=λq hq=>{br (UW q hq).1 (by rw[aZ];lia),(UW q hq).2};have lps:=bb Eg
  let st:List aI.Atom×List (List aI.Atom)->List aI.Atom->List aI.Atom×List (List aI.Atom):=λacc p=>if aI.zC bh g p a then(p++acc.1,acc.2)else(acc.1,acc.2++[p])
  refine{_,rfl,pq,rfl,{_,bf.of (s4 _ _ (s3 _ _ Ml))},gF (xs:=vs) (λj Z H5=>∃(x6:Aao)(p2:Addr)(IH Er:Aan),Z=[some 727,some 700,some (.ref pq),some x,some (.ref p2),some (.ref bs),x6]/\j<=ps.length/\aJ H3 H5/\H5 p2=some (.lst IH)/\p2≠bs/\H5 bs=some (.lst Er)/\
    kI K H3 IH ((ps.take j).foldl st ([a],[])).1/\C6 K H3 Er ((ps.take j).foldl st ([a],[])).2/\Er.length<=j/\((ps.take j).foldl st ([a],[])).1.length<=1+i*j/\(∀b∈((ps.take j).foldl st ([a],[])).1,lB b)/\∀q∈((ps.take j).foldl st ([a],[])).2,q∈ps)
   {_,p1,[x],[],9,aO _,s4,s4 _ _ gm,(λe=>by rw[<-e,gm]at Cg;cases Cg),Po,.cons adB .nil,.nil,aw _,59,λb hb=>(ay.mp hb▸fa1),λq hq=>(by cases hq)} ?_ ?_ ?_}
  ·rintro j Z H5 hj ⟨_,p2,IH,Er,rfl,zc,s5,_⟩;exact bf.of (s5 _ _ (s3 _ _ Ml))
  ·rintro j y Z H5 hy ⟨_,p2,IH,Er,rfl,zc,s5,Pb,n5,ze,Jf,MA,lbv,TH,Px,sub⟩;obtain⟨p,hp,e,Py,rfl,Ji,zd⟩:=Paired.at' adF hy;have lJ:=(aq.mp hp).1;have mp:=aA hp;have e1:(ps.take (j+1)).foldl st ([a],[])=st ((ps.take j).foldl st ([a],[])) p:=by rw[bq,hp,pG];rfl
   generalize (ps.take j).foldl st ([a],[])=acc at Jf MA TH Px sub e1;obtain⟨lp1,fp1⟩:=UW p mp;refine{_,9,_,9,_,9,e,d,x,Py,p,a,g,9,bf.of (s5 _ _ Ji),zd.same s5,adB.same s5,8,fp1,fa1,s5 _ _ (rV _ _ hd),λH6 s6=>{_,9,?_}};have s56:=s5.trans s6;refine dS 669 669
   ·have c:=c;have e2:st acc p=(p++acc.1,acc.2):=aK c;rw[e1,e2];have le1:=bb zd;have le2:=bb Jf;have Nm:acc.1.length<=1+100*100:=br TH (Bf (Nat.mul_le_mul ∅ ∅) 1);refine{_,9,_,9,e,p2,Py,IH,9,9,s56 _ _ Ji,s6 _ _ Pb,by rw[bW];lia,λp3 gm=>?_};refine{_,p3,_,Er,9,lJ,s56.trans (aB gm _),au,λe=>?_,?_,fC zd Jf,MA,8,?_,692,sub}
    ·rw[e,s6 _ _ ze]at gm;cases gm
    ·rw[aL (bA (s6 _ _ ze) gm)];exact s6 _ _ ze
    ·show(p++acc.1).length<=_;rw[aC,lE];lia
    ·rcases aS.mp hb with hb|hb
     ·exact fp1 b hb
     ·exact Px b hb
   ·have c:=c;have e2:st acc p=(acc.1,acc.2++[p]):=aH c;rw[e1,e2];refine{_,9,.inl {9,_,bf.of (s6 _ _ ze)},_,9,bs,Er,_,9,9,s6 _ _ ze,by rw[bW];lia,?_};refine{_,p2,IH,_,9,lJ,λb u h=>?_,?_,n5,au,Jf,fC MA (.cons ⟨e,Py,rfl,Ji,zd⟩ .nil),aC▸jh lbv,?_,Px,λq hq=>?_}
    ·rw[aL (bA h Cg)];exact s56 _ _ h
    ·rw[aL n5];exact s6 _ _ Pb
    ·show acc.1.length<=_;rw[lE];lia
    ·rcases aS.mp hq with hq|hq
     ·exact sub q hq
     ·rw[ay.mp hq];exact mp
  ·rintro Z H5 ⟨_,p2,IH,Er,rfl,_,s5,Pb,n5,ze,Jf,MA,lbv,TH,Px,sub⟩;rw[lps,aT]at Jf MA TH Px sub;have es:ps.foldl st ([a],[])=aI.step bh g a ps:=by
    cases ps with
    |nil=>rfl
    |cons q r=>rfl
   rw[es]at Jf MA TH Px sub;refine{_,9,_,9,(by show 1<=sizeLine;decide),λq1 Mn=>?_};have s6:aJ H5 (upd H5 q1 (.lst [.ref p2])):=aB Mn _;have hq6:upd H5 q1 (.lst [.ref p2]) q1=some (.lst [.ref p2]):=au;generalize (upd H5 q1 (.lst [.ref p2]))=H6 at s6 hq6⊢;refine{bs,q1,Er,_,9,9,s6 _ _ ze,hq6,by rw[bW,du];lia,λr hr=>?_};have s7:aJ H6 (upd H6 r (.lst (Er++[.ref p2]))):=aB hr _;have s37:=s5.trans (s6.trans s7);have r0:H r=none:=by
    cases e:H r with
    |none=>rfl
    |some u=>
     have:=s5.trans s6 _ _ (rV _ _ e);rw[hr]at this;cases this
   refine{_,_,_,_,r,_,9,bQ,rV.trans s37,r0,au,?_,?_}
   ·unfold aI.pE;exact fC (C6.same MA s37) (.cons {p2,IH,9,s7 _ _ (s6 _ _ Pb),kI.same Jf s37} .nil)
   ·rw[aC,du];lia
 ·rintro Z H2 ⟨_,_,_,_,pq,vs,rfl,my,s2,O8,Ml,Eg,_⟩;rw[(bb lF),aT]at Eg;exact{_,9,k pq vs H2 s2 O8 Ml Eg}
variable{C:Addr}
def dc(H H':Hp):Prop:=∀b xs,Rd H b 664->Rd H' b 664
def dc.refl(H:Hp):dc H H:=λ_ _ h=>h
def dc.trans(a:dc H H1)(b:dc H1 H2):dc H H2:=λx xs h=>b x xs (a x xs h)
def dc.same(s:aJ H H'):dc H H':=λb xs h=>by
 rcases h with h|⟨o,h⟩
 ·exact .inl (s _ _ h)
 ·exact .inr {o,s _ _ h}
def vg(H:Hp)(a:Addr):Prop:=∀xs,¬Rd H a 664
def dc.upd(h:vg H a):dc H (upd H a o):=λb xs q=>by
 have hb:b≠a:=λe=>h xs (e▸q);rcases q with q|⟨o',q⟩
 ·exact .inl (by rw[aL hb];exact q)
 ·exact .inr {o',by rw[aL hb];exact q}
def QC{H:Hp}{a:Addr}(h:H a=none):vg H a:=λxs q=>by rcases q with q|⟨o,q⟩<;>rw[h]at q<;>cases q
def Tp(h:H a=some (.ext φ)):vg H a:=λxs q=>by rcases q with q|⟨o,q⟩<;>rw[h]at q<;>cases q
def zZ(h:H a=some (.dK l)):vg H a:=λxs q=>by rcases q with q|⟨o,q⟩<;>rw[h]at q<;>cases q
def BQ(h:H a=some (.ins C dx l)):vg H a:=λxs q=>by rcases q with q|⟨o,q⟩<;>rw[h]at q<;>cases q
def gY(q:aY K H a xs)(t:dc H H'):aY K H' a xs:=by
 rcases q with q|q
 ·exact .inl (t _ _ q)
 ·exact .inr q
mutual
theorem YU(t:dc H H'):∀(k:NK)(v:V),NV K H k v->NV K H' k v
 | .cz,v,h=>by rw[NV]at h⊢;exact h
 | .key k,v,h=>by rw[NV]at h⊢;exact h
 | .tup ks,v,h=>by rw[NV]at h⊢;obtain⟨a,xs,e,hq,hs⟩:=h;exact{a,xs,e,gY hq t,Ti t ks xs hs}
theorem Ti(t:dc H H'):∀(ks:List NK)(vs:Aan),rJ K H ks vs->rJ K H' ks vs
 |[],vs,h=>by rw[rJ]at h⊢;exact h
 |k::ks,vs,h=>by rw[rJ]at h⊢;obtain⟨x,r,e,h1,h2⟩:=h;exact{x,r,e,YU t k x h1,Ti t ks r h2}
end
def oV{H H':Hp}{k:NK}{a:Addr}(h:iE K H k a)(t:dc H H'):iE K H' k a:={YU t _ _ h.1,h.2}
def _root_.L2.iy.tp{H H':Hp}{d:Addr}{kvs:List 645}(h:iy P w K H d kvs)(t:dc H H')(e:H' d=H d):iy P w K H' d kvs:={e▸h.1,λp hp=>oV (h.2 p hp) t}
def _root_.L2.iy.some{H:Hp}{d:Addr}{kvs:List 645}(h:iy P w K H d kvs):∃u,H d=some u:=by rcases h.1 with h|⟨_,h⟩<;>exact⟨_,h⟩
def _root_.L2.iy.oS{H:Hp}{d:Addr}{kvs:List 645}(h:iy P w K H d kvs):vg H d:=by
 rcases h.1 with h|⟨_,h⟩
 ·exact Tp h
 ·exact zZ h
def _root_.L2.iy.put{H:Hp}{d b:Addr}{kvs:List 645}{k:NK}{v:V}(h:iy P w K H d kvs)(hk:iE K H k b):iy P w K (upd H d (.ext (DN P w d (putN kvs k b v)))) d (putN kvs k b v):=by
 have t:dc H (upd H d (.ext (DN P w d (putN kvs k b v)))):=dc.upd h.oS;refine{.inl au,689};rcases LN hp with⟨q,hq,e1,e2⟩|⟨e1,e2⟩
 ·rw[e1,e2];exact oV (h.2 q hq) t
 ·rw[e1,e2];exact oV hk t
def Dz{H:Hp}{p:Addr}(h:H p=Option.some 651):iy P w K H p []:={.inr ⟨rfl,h⟩,λ_ hp=>by cases hp}
def Et.tp{H H':Hp}{v:V}{a:aI.Atom}(h:Et K H v a)(t:dc H H'):Et K H' v a:=by obtain⟨b,c,e,h1,h2⟩:=h;exact{b,c,e,gY h1 t,gY h2 t}
def kI.tp{H H':Hp}{ys:Aan}{as:List aI.Atom}(h:kI K H ys as)(t:dc H H'):kI K H' ys as:=by
 induction h with
 |nil=>exact .nil
 |cons h _ ih=>exact .cons (h.tp t) ih
abbrev Rl:=NK->Aag->Prop
structure fV(P:Program)(w:World)(K:Frag)(H0 H:Hp)(A:Addr)(kvs:List 645)(R:Rl)(n:Nat):Prop where
 at_:iy P w K H A kvs
 len:kvs.length<=n
 own:H0 A=none
 vals:∀k v,valN kvs k=some v->∃d inner,v=.ref d/\d≠A/\H0 d=none/\iy P w K H d inner/\inner.length<=n/\(inner.map (·.1)).Nodup/\(∀p∈inner,p.2.2=.bl true)/\∀j,(∃p∈inner,p.1=j)↔∃zs,R k zs/\j=iP zs
 no:∀k,valN kvs k=none->∀zs,¬R k zs
 inj:∀k k' d,valN kvs k=some 700->valN kvs k'=some 700->k=k'
def fV.congr{H0 H:Hp}{A:Addr}{kvs:List 645}{R R':Rl}{n:Nat}(x:fV P w K H0 H A kvs R n)(e:∀k zs,R k zs↔R' k zs):fV P w K H0 H A kvs R' n:=
 {x.at_,x.len,x.own,λk v h=>by obtain⟨d,inner,h1,h2,h3,h4,h5,h6,h7,h8⟩:=x.vals k v h;exact{d,inner,h1,h2,h3,h4,h5,h6,h7,λj=>(h8 j).trans {λ⟨zs,a,b⟩=>{zs,(e _ _).mp a,b},λ⟨zs,a,b⟩=>{zs,(e _ _).mpr a,b}}},λk h zs q=>x.no k h zs ((e _ _).mpr q),x.inj}
def fV.mono{H0 H:Hp}{A:Addr}{kvs:List 645}{R:Rl}{n m:Nat}(x:fV P w K H0 H A kvs R n)(e:n<=m):fV P w K H0 H A kvs R m:=
 {x.at_,br x.len e,x.own,λk v h=>by obtain⟨d,inner,h1,h2,h3,h4,h5,h6,h7,h8⟩:=x.vals k v h;exact{d,inner,h1,h2,h3,h4,br h5 e,h6,h7,h8},x.no,x.inj}
def fV.move{H0 H H':Hp}{A:Addr}{kvs:List 645}{R:Rl}{n:Nat}(x:fV P w K H0 H A kvs R n)(t:dc H H')(e:∀b,H0 b=none->(b=A\/∃k,valN kvs k=some (.ref b))->H' b=H b):fV P w K H0 H' A kvs R n:=
 {x.at_.tp t (e A x.own (.inl 9)),x.len,x.own,λk v h=>by obtain⟨d,inner,h1,h2,h3,h4,h5,h6,h7,h8⟩:=x.vals k v h;exact{d,inner,h1,h2,h3,h4.tp t (e d h3 (.inr {k,by rw[h,h1]})),h5,h6,h7,h8},x.no,x.inj}
def fV.ac7{H0 H:Hp}{A b p:Addr}{kvs:List 645}{R:Rl}{n:Nat}{k:NK}(x:fV P w K H0 H A kvs R n)(hn:valN kvs k=none)(hk:iE K H k b)(hp:H p=some 651)(h0:H0 p=none)(pA:p≠A)(pd:∀k' d,valN kvs k'=some 700->d≠p):
  fV P w K H0 (upd H A 655) A (putN kvs k b 666) R (n+1):=by
 have t:dc H (upd H A 655):=dc.upd x.at_.oS;refine{x.at_.put hk,br vP (jh x.len),x.own,λk' v h=>?_,λk' h=>?_,λk1 k2 d h1 h2=>?_}
 ·rw[tP]at h;by_cases c:k'=k
  ·rw[aK c]at h;cases h;refine{p,[],9,pA,h0,(Dz hp).tp t (by rw[aL pA]),aO _,59,λq hq=>(by cases hq),λj=>{λ⟨q,hq,_⟩=>(by cases hq),λ⟨zs,hz,_⟩=>absurd (c▸hz) (x.no k hn zs)}}
  ·rw[aH c]at h;obtain⟨d,inner,h1,h2,h3,h4,h5,h6,h7,h8⟩:=x.vals k' v h;exact{d,inner,h1,h2,h3,h4.tp t (by rw[aL h2]),uX h5,h6,h7,h8}
 ·rw[tP]at h;by_cases c:k'=k
  ·rw[aK c]at h;cases h
  ·rw[aH c]at h;exact x.no k' h
 ·rw[tP]at h1 h2;by_cases c1:k1=k
  ·by_cases c2:k2=k
   ·rw[c1,c2]
   ·rw[aK c1]at h1;rw[aH c2]at h2;cases h1;exact absurd rfl (pd k2 _ h2)
  ·by_cases c2:k2=k
   ·rw[aH c1]at h1;rw[aK c2]at h2;cases h2;exact absurd rfl (pd k1 _ h1)
   ·rw[aH c1]at h1;rw[aH c2]at h2;exact x.inj k1 k2 d h1 h2
def fV.put{H0 H:Hp}{A c d:Addr}{kvs:List 645}{R:Rl}{n:Nat}{k:NK}{zs:Aag}(x:fV P w K H0 H A kvs R n)(hv:valN kvs k=some 700)(hc:iE K H (iP zs) c):
  ∃inner,iy P w K H d inner/\inner.length<=n/\H0 d=none/\d≠A/\fV P w K H0 (upd H d (.ext (DN P w d 708))) A kvs (λk' z'=>R k' z'\/(k'=k/\z'=zs)) (n+1):=by
 obtain⟨d',inner,e,h2,h3,h4,h5,h6,h7,h8⟩:=x.vals k _ hv;cases e;have t:dc H (upd H d (.ext (DN P w d 708))):=dc.upd h4.oS;refine{inner,h4,h5,h3,h2,x.at_.tp t (by rw[aL (cL h2)]),uX x.len,x.own,λk' v h=>?_,λk' h N8 q=>?_,x.inj}
 ·by_cases ck:k'=k
  ·subst ck;rw[hv]at h;cases h;refine{d,_,9,h2,h3,h4.put hc,br vP (jh h5),QB h6,λq hq=>?_,λj=>?_}
   ·unfold putN at hq;split at hq
    ·obtain⟨q0,O8,rfl⟩:=aD.mp hq;split
     ·rfl
     ·exact h7 q0 O8
    ·rcases aS.mp hq with hq|hq
     ·exact h7 q hq
     ·rw[ay.mp hq]
   ·rw[TZ,h8 j];constructor
    ·rintro(rfl|⟨z',a,b⟩)
     ·exact{zs,.inr ⟨rfl,rfl⟩,9}
     ·exact{z',.inl a,b}
    ·rintro⟨z',a|⟨_,a⟩,b⟩
     ·exact .inr ⟨z',a,b⟩
     ·exact .inl (by rw[b,a])
  ·obtain⟨d1,adp,e1,g2,g3,g4,g5,g6,g7,g8⟩:=x.vals k' v h;have nd:d1≠d:=λe=>ck (x.inj k' k d (by rw[h,e1,e]) hv);refine{d1,adp,e1,g2,g3,g4.tp t (by rw[aL nd]),uX g5,g6,g7,λj=>(g8 j).trans {λ⟨N8,a,b⟩=>{N8,.inl a,b},λ⟨N8,a,b⟩=>{N8,a.elim id λq=>absurd q.1 ck,b}}}
 ·rcases q with q|⟨q,_⟩
  ·exact x.no k' h N8 q
  ·rw[q,hv]at h;cases h
def sg(H H':Hp):Prop:=∀b C dx fs,H b=some (.ins C dx fs)->H' b=some (.ins C dx fs)
def sg.refl(H:Hp):sg H H:=λ_ _ _ _ h=>h
def sg.trans{H H1 H2:Hp}(a:sg H H1)(b:sg H1 H2):sg H H2:=λx c d f h=>b x c d f (a x c d f h)
def sg.same{H H':Hp}(s:aJ H H'):sg H H':=λb _ _ _ h=>s _ _ h
def sg.dict{H:Hp}{d:Addr}{kvs:List 645}{o:HO}(h:iy P w K H d kvs):sg H (upd H d o):=λb c dx fs q=>by
 have:b≠d:=λe=>by rw[e]at q;rcases h.1 with h|⟨_,h⟩<;>rw[h]at q<;>cases q
 rw[aL this];exact q
structure GN(P:Program)(w:World)(K:Frag)(H0 H H':Hp)(A:Addr)(R:Rl)(n:Nat):Prop where
 sm:aJ H0 H'
 tp:dc H H'
 is:sg H H'
 ai:∃kvs,fV P w K H0 H' A kvs R n
def fV.same{H0 H H':Hp}{A:Addr}{kvs:List 645}{R:Rl}{n:Nat}(x:fV P w K H0 H A kvs R n)(s:aJ H H'):fV P w K H0 H' A kvs R n:=x.move (dc.same s) λq _ h=>by
 rcases h with rfl|⟨k',h⟩
 ·obtain⟨u,hu⟩:=x.at_.some;rw[hu,s _ _ hu]
 ·obtain⟨d',_,e',_,_,h4,_⟩:=x.vals k' _ h;cases e';obtain⟨u,hu⟩:=h4.some;rw[hu,s _ _ hu]
def abY{H0 H:Hp}{A b c p:Addr}{kvs:List 645}{R R':Rl}{n:Nat}{k:NK}{zs:Aag}{Nx:Hp->Prop}(x:fV P w K H0 H A kvs R n)(sm:aJ H0 H)(hk:iE K H k b)(hc:iE K H (iP zs) c)(hn:n+2<10000000)(hp:H p=some 651)(h0:H0 p=none)(pA:p≠A)(pd:∀k' d,valN kvs k'=some 700->d≠p)
  (hR:∀k' z',R' k' z'↔R k' z'\/(k'=k/\z'=zs)) (nx:∀H',GN P w K H0 H H' A R' (n+2)->Nx H'):
  (∀v,valN kvs k=some v->∃a inner,v=.ref a/\iy P w K H a inner/\iE K H (iP zs) c/\inner.length<10000000/\Nx (upd H a (.ext (DN P w a 708))))/\
  (valN kvs k=none->∃inner,iy P w K (upd H A 655) p inner/\iE K (upd H A 655) (iP zs) c/\inner.length<10000000/\
   Nx (upd (upd H A 655) p (.ext (DN P w p 708)))):=by
 have own:∀{d:Addr}{o:HO}{H1:Hp},aJ H0 H1->H0 d=none->aJ H0 (upd H1 d o):=λ{d o H1} s h q u e=>by rw[aL (bA e h)];exact s _ _ e
 refine{λv hv=>?_,λhv=>?_}
 ·obtain⟨a,_,rfl,_⟩:=x.vals k v hv;obtain⟨inner,g1,g2,g3,g4,g5⟩:=x.put hv hc;exact{a,inner,9,g1,hc,8,nx _ {own sm g3,dc.upd g1.oS,sg.dict g1,kvs,(g5.congr λk' z'=>(hR k' z').symm).mono ∅}}
 ·have y:=x.ac7 hv hk hp h0 pA pd;have t1:dc H (upd H A 655):=dc.upd x.at_.oS;have Pm:=oV hc t1;obtain⟨inner,g1,g2,g3,g4,g5⟩:=y.put (by rw[tP,aK rfl]) Pm;exact{inner,g1,Pm,8,nx _ {own (own sm x.own) g3,t1.trans (dc.upd g1.oS),(sg.dict x.at_).trans (sg.dict g1),_,g5.congr λk' z'=>(hR k' z').symm}}
def SM{H0 H H2:Hp}{A b c p:Addr}{xs:Aan}{kvs:List 645}{R R':Rl}{n:Nat}{k:NK}{zs:Aag}{Nx:Hp->Prop}(gN:aJ H0 H2)(Kr:dc H H2)(xn:sg H H2)(x:fV P w K H0 H2 A kvs R n)(hb:H2 b=none)(hp:upd H2 b 664 p=none)
  (yc:∀H3,aY K H3 b xs->iE K H3 k b) (hc:iE K H2 (iP zs) c) (hn:n+2<10000000) (hR:∀k' z',R' k' z'↔R k' z'\/(k'=k/\z'=zs)) (nx:∀H',GN P w K H0 H H' A R' (n+2)->Nx H'):
  iy P w K (upd (upd H2 b 664) p 651) A kvs/\iE K (upd (upd H2 b 664) p 651) k b/\kvs.length<10000000/\
  (∀v,valN kvs k=some v->∃a inner,v=.ref a/\iy P w K (upd (upd H2 b 664) p 651) a inner/\iE K (upd (upd H2 b 664) p 651) (iP zs) c/\inner.length<10000000/\Nx (upd (upd (upd H2 b 664) p 651) a (.ext (DN P w a 708))))/\
  (valN kvs k=none->∃inner,iy P w K (upd (upd (upd H2 b 664) p 651) A 655) p inner/\iE K (upd (upd (upd H2 b 664) p 651) A 655) (iP zs) c/\inner.length<10000000/\
   Nx (upd (upd (upd (upd H2 b 664) p 651) A 655) p (.ext (DN P w p 708)))):=by
 have s3:aJ H2 (upd H2 b 664):=aB hb _;have s4:aJ (upd H2 b 664) (upd (upd H2 b 664) p 651):=aB hp _;have uO:=s3.trans s4;have Po:aY K (upd (upd H2 b 664) p 651) b xs:=aY.of (s4 _ _ au);have Gb:upd (upd H2 b 664) p 651 p=some 651:=au;have p2:H2 p=none:=by
  cases e:H2 p with
  |none=>rfl
  |some u=>rw[s3 _ _ e]at hp;cases hp
 have p0:H0 p=none:=by
  cases e:H0 p with
  |none=>rfl
  |some u=>rw[gN _ _ e]at p2;cases p2
 obtain⟨uA,hA⟩:=x.at_.some;have pd:∀k' d,valN kvs k'=some 700->d≠p:=λk' d h e=>by obtain⟨d',_,e',_,_,h4,_⟩:=x.vals k' _ h;cases e';obtain⟨u,hu⟩:=h4.some;rw[e,p2]at hu;cases hu
 have x4:=x.move (dc.same uO) λq _ h=>by
  rcases h with rfl|⟨k',h⟩
  ·rw[hA,uO _ _ hA]
  ·obtain⟨d',_,e',_,_,h4,_⟩:=x.vals k' _ h;cases e';obtain⟨u,hu⟩:=h4.some;rw[hu,uO _ _ hu]
 obtain⟨q1,q2⟩:=abY x4 (gN.trans uO) (yc _ Po) (oV hc (dc.same uO)) hn Gb p0 (λe=>by rw[e,hA]at p2;cases p2) pd hR λH' pt=>nx H' {pt.sm,Kr.trans ((dc.same uO).trans pt.tp),xn.trans ((sg.same uO).trans pt.is),pt.ai};exact{x4.at_,yc _ Po,gG x4.len ∅,q1,q2}
def Su(h:∀R:L2.St->Hp->Prop,(∀σ' H',u D σ' H'->R σ' H')->t {D with nx:=R} Z H):acg t u D Z H:=h (u D) λ_ _ x=>x
def Hit(k:NK)(a:aI.Atom):Prop:=k=yQ a.1 a.2.length\/∃i t,a.2[i]?=some t/\k=xl a.1 a.2.length i t
def hits(L:List aI.Atom):Rl:=λk zs=>∃a∈L,Hit k a/\zs=a.2
structure Own(K:Frag)(C:Addr):Prop where
 c:C4 K C
 aims:ug K C "aims"
 vain:ug K C "vain"
inductive Yt(P:Program)(w:World)(K:Frag)(C:Addr)(vs:Aan)(H:Hp)(Q:VK)(_x3:XK):Prop
 |mk (self t dx A:Addr) (fs:List (Str×V)) (ys:Aan) (L M:List aI.Atom) (kvs:List (NK×Addr×V)) (H0:Hp) (n:Nat) (_:vs=[.ref self,.ref t]) (_:H self=some (.ins C dx fs)) (_:fs.lookup ("aims":Str)=some (.ref A)) (_:fs.length<1000) (_:H0 self=none) (_:aY K H t ys) (_:kI K H ys M) (_:M.length<=100) (_:(∀a∈M,lB a)) (_:aJ H0 H) (_:fV P w K H0 H A kvs (hits L) n) (_:n<=1000000) (_:∀H' L4 B,aJ H0 H'->dc H H'->H0 B=none->H' self=some (.ins C dx (je "vain" (.ref B) fs))->H' B=some (.dK [])->fV P w K H0 H' A L4 (hits (L++M)) (n+300*M.length)->A≠B->(∀k d,valN L4 k=some (.ref d)->d≠B)->Q .cz H')
def vH:bZ ["self","atoms","name","terms","place","term"] ["self","atoms"] (defScope G7):=gA 53
def acY{f:Addr}{fd:FuncData}(F:dG K "add" "MapSearch.add" G7 f fd)(T:Txt K mg)(O:Own K C):cK P w K mg base dY 2 f fd ["self","atoms"] (Yt P w K C):=by
 refine F.ok vH (λ_ _ _ _ h=>by cases h;subst_vars;rfl) 55;obtain⟨self,t,dx,A,fs,ys,L,M,kvs,H0,n,rfl,hs,lk,lf,UQ,ht,lF,lM,fM,sm,ax,hn,k⟩:=h;have hN:=Q9 hr;refine{_,(az (dR bG 9 (ir (pv 1)) (jy 9 (b9 (fZ 2 vH) (b9 (fZ 3 vH) fQ))) (az (EL hN (FQ hN (yO (pv 0) 9) (dX (cu (pv 2) (bN cY 9 T.eT bH (bX (pv 3))))) jf ⟨rfl,rfl,rfl,rfl⟩) (pv 3) gf 9) (aQ (dR bG 9 (Li 9 T.xZ (bX (pv 3))) (jy 9 (b9 (fZ 4 vH) (b9 (fZ 5 vH) fQ))) (aQ (EL hN (FQ hN (yO (pv 0) 9) (dX (fu (pv 2) (iZ (bN cY 9 T.eT bH (bX (pv 3))) (pv 4) (pv 5)))) jf ⟨rfl,rfl,rfl,rfl⟩) (pv 3) gf 9)))))) (aQ (Ld (pv 0) jf 9))),?_}
 refine{_,9,t,9,⟨_,ht⟩,qA (xs:=ys) (λi Z H2=>∃x2 x3 x4 x5:Aao,Z=[some (.ref self),some (.ref t),x2,x3,x4,x5]/\i<=M.length/\GN P w K H0 H H2 A (hits (L++M.take i)) (n+300*i)) {_,_,_,_,9,aO _,sm,dc.refl H,sg.refl H,kvs,by simpa using ax} ?_ ?_ ?_}
 ·rintro i Z H2 hi ⟨_,_,_,_,rfl,_,pt⟩;exact gY ht pt.tp
 ·rintro i x Z H2 hx ⟨_,_,_,_,rfl,hi,gN,Kr,xn,TV,Nq⟩;obtain⟨a,ha,B3⟩:=Paired.at' lF hx;have bQ:=(aq.mp ha).1;obtain⟨ab,ac,rfl,ag0,ME⟩:=B3;have qz:=gY ME Kr;obtain⟨fl,f0,fz⟩:=fM a (aA ha);refine{ab,_,9,(gY ag0 Kr),9,_,_,9,_,_,9,9,?_};have lt:(a.2.map V.str).length=a.2.length:=ah _
  let Rj:Nat->Rl:=λj k' z'=>hits (L++M.take i) k' z'\/(z'=a.2/\(k'=yQ a.1 a.2.length\/∃i' t',i'<j/\a.2[i']?=some t'/\k'=xl a.1 a.2.length i' t'))
  refine Su λNX hNX=>?_;have go:∀(x4 x5:Aao)(H3:Hp),GN P w K H0 H H3 A (Rj 0) (n+300*i+2)->NX [some (.ref self),some (.ref t),some (.str a.1),some (.ref ac),x4,x5] H3:=λx4 x5 H3 pt=>by
   refine hNX _ _ ?_;refine{_,9,ac,9,{_,(gY ME pt.tp)},UZ (xs:=a.2.map V.str) (λj Z H4=>∃x4 x5:Aao,Z=[some (.ref self),some (.ref t),some (.str a.1),some (.ref ac),x4,x5]/\j<=a.2.length/\GN P w K H0 H H4 A (Rj j) (n+300*i+2+2*j)) {_,_,9,aO _,pt} ?_ ?_ ?_}
   ·rintro j Z H4 hj ⟨_,_,rfl,_,pt4⟩;exact gY ME pt4.tp
   ·rintro j y q Z H4 hy ⟨_,_,rfl,hj,uN,tp4,is4,Zf,ZZ⟩ hq;obtain⟨z,hz,rfl⟩:=iN hy;have lJ:=(aq.mp hz).1;have s5:aJ H4 (upd H4 q (.tup [.int j,.str z])):=aB hq _;refine{q,_,9,aY.of au,9,_,_,9,_,_,9,9,?_};have uM:=uN.trans s5;have tp5:=tp4.trans (dc.same s5);have is5:=is4.trans (sg.same s5);have ZY:=ZZ.same s5;refine{_,9,self,C,dx,fs,_,9,is5 _ _ _ _ hs,O.c,O.aims,lk,A,Zf,9,ZY.at_,_,9,_,9,_,_,9,.inr {_,(gY ME tp5),9},_,9,_,9,(by show 4<=sizeLine;decide),λb hb p hp=>?_};rw[lt]at hp⊢;have hR:∀k' z',Rj (j+1) k' z'↔Rj j k' z'\/(k'=xl a.1 a.2.length j z/\z'=a.2):=λk' z'=>by
     constructor
     ·rintro(h|⟨e,h|⟨i',t',h1,h2,h3⟩⟩)
      ·exact .inl (.inl h)
      ·exact .inl (.inr {e,.inl h})
      ·rcases Nat.lt_or_eq_of_le (Nat.lt_succ_iff.mp h1)with h1|rfl
       ·exact .inl (.inr {e,.inr ⟨i',t',h1,h2,h3⟩})
       ·rw[hz]at h2;cases h2;exact .inr ⟨h3,e⟩
     ·rintro((h|⟨e,h|⟨i',t',h1,h2,h3⟩⟩)|⟨h3,e⟩)
      ·exact .inl h
      ·exact .inr {e,.inl h}
      ·exact .inr {e,.inr {i',t',eO h1,h2,h3}}
      ·exact .inr {e,.inr {j,z,eB _,hz,h3}}
    obtain⟨q1,q2,q3,q4,q5⟩:=SM uM tp5 is5 ZY hb hp (λH3 h=>L6 h f0 (fz z (aA hz)).2) (oV (L5 ME λz hz=>(fz z hz).2) tp5) ∅ hR (λH' pt=>pt);refine{b,Zf,xl a.1 a.2.length j z,9,q1,q2,q3,λv hv=>?_,λhv=>?_}
    ·obtain⟨a',inner,rfl,r1,r2,r3,r4⟩:=q4 v hv;exact{_,9,a',ac,inner,iP a.2,9,9,r1,r2,r3,_,_,9,lJ,r4}
    ·obtain⟨inner,r1,r2,r3,r4⟩:=q5 hv;exact{_,9,p,ac,inner,iP a.2,9,9,r1,r2,r3,_,_,9,lJ,r4}
   ·rintro Z H4 ⟨_,_,rfl,_,uN,tp4,is4,Zf,ZZ⟩;rw[lt]at ZZ;refine{_,_,_,_,9,bQ,uN,tp4,is4,Zf,(ZZ.congr λk' z'=>?_).mono ∅};rw[bq,ha];constructor
    ·rintro(⟨b,hb,h⟩|⟨e,h⟩)
     ·exact{b,by rw[<-dF];exact bx _ hb,h}
     ·refine{a,59,?_,e};rcases h with h|⟨i',t',_,h2,h3⟩
      ·exact .inl h
      ·exact .inr ⟨i',t',h2,h3⟩
    ·rintro⟨b,hb,h,e⟩;rw[<-dF]at hb;rcases aS.mp hb with hb|hb
     ·exact .inl ⟨b,hb,h,e⟩
     ·have gd:b=a:=by simpa using hb
      subst gd;refine .inr {e,?_};rcases h with h|⟨i',t',h2,h3⟩
      ·exact .inl h
      ·exact .inr {i',t',(aq.mp h2).1,h2,h3}
  refine{_,9,self,C,dx,fs,_,9,(xn _ _ _ _ hs),O.c,O.aims,lk,A,TV,9,Nq.at_,_,9,_,9,_,_,9,.inr ⟨_,qz,rfl⟩,96,λb hb p hp=>?_};rw[lt]at hp⊢;obtain⟨q1,q2,q3,q4,q5⟩:=SM gN Kr xn Nq hb hp (λH3 h=>L7 h f0) (L5 qz λz hz=>(fz z hz).2) ∅ (λk' z'=>{λh=>h.imp id λ⟨e1,e2⟩=>{e2.elim id λ⟨i',_,h,_⟩=>absurd h (fK _),e1},λh=>h.imp id λ⟨e1,e2⟩=>{e2,.inl e1}}) (λH' pt=>go _ _ H' pt);refine{b,TV,yQ a.1 a.2.length,9,q1,q2,q3,λv hv=>?_,λhv=>?_}
  ·obtain⟨a',inner,rfl,r1,r2,r3,r4⟩:=q4 v hv;exact{_,9,a',ac,inner,iP a.2,9,9,r1,r2,r3,r4}
  ·obtain⟨inner,r1,r2,r3,r4⟩:=q5 hv;exact{_,9,p,ac,inner,iP a.2,9,9,r1,r2,r3,r4}
 ·rintro Z H2 ⟨_,_,_,_,rfl,_,gN,Kr,xn,TV,Nq⟩;have kC:=xn _ _ _ _ hs;rw[(bb lF),aT]at Nq
  refineλB hB=>?_
  have s3:aJ H2 (upd H2 B 651):=aB hB _;have ZQ:upd H2 B 651 B=some 651:=au;have B0:H0 B=none:=by
   cases e:H0 B with
   |none=>rfl
   |some u=>rw[gN _ _ e]at hB;cases hB
  have AB:A≠B:=λe=>by obtain⟨u,hu⟩:=Nq.at_.some;rw[e,hB]at hu;cases hu
  have dB:∀k d,valN TV k=some 700->d≠B:=λk' d h e=>by obtain⟨d',_,e',_,_,h4,_⟩:=Nq.vals k' _ h;cases e';obtain⟨u,hu⟩:=h4.some;rw[e,hB]at hu;cases hu
  have Z0:=Nq.same s3;generalize (upd H2 B 651)=H3 at s3 ZQ Z0⊢;refine{_,9,self,C,dx,fs,9,s3 _ _ kC,O.c,O.vain,lf,?_};have t4:dc H3 (upd H3 self (.ins C dx (je "vain" (.ref B) fs))):=dc.upd (BQ (s3 _ _ kC));have nd:∀b L4,iy P w K H3 b L4->b≠self:=λb L4 h e=>by have Je:=s3 _ _ kC;rw[<-e]at Je;rcases h.1 with h|⟨_,h⟩<;>rw[h]at Je<;>cases Je
  refine k _ TV B (λb u h=>?_) (Kr.trans ((dc.same s3).trans t4)) B0 au ?_ (Z0.move t4 λb _ h=>?_) AB dB
  ·rw[aL (bA h UQ)];exact s3 _ _ (gN _ _ h)
  ·rw[aL (λe=>by rw[e,s3 _ _ kC]at ZQ;cases ZQ)];exact ZQ
  ·refine aL ?_;rcases h with rfl|⟨k',h⟩
   ·exact nd _ _ Z0.at_
   ·obtain⟨d',_,e',_,_,h4,_⟩:=Z0.vals k' _ h;cases e';exact nd _ _ h4
structure Da(P:Program)(w:World)(K:Frag)(mg:Aac)(base:Heap)(C:Addr):Prop where
 QK:rK P w K mg base C 2 "add" ["self","atoms"] (Yt P w K C)
inductive Qd(P:Program)(w:World)(K:Frag)(C:Addr)(vs:Aan)(H:Hp)(Q:VK)(_x3:XK):Prop
 |mk (self t dx:Addr) (ys:Aan) (L:List aI.Atom) (H0:Hp) (_:vs=[.ref self,.ref t]) (_:H self=some (.ins C dx [])) (_:H0 self=none) (_:aY K H t ys) (_:kI K H ys L) (_:L.length<=100) (_:(∀a∈L,lB a)) (_:aJ H0 H) (_:∀H' A B kvs,aJ H0 H'->H0 A=none->H0 B=none->H' self=some (.ins C dx [("aims",.ref A),("vain",.ref B)])->H' B=some (.dK [])->fV P w K H0 H' A kvs (hits L) (300*L.length)->A≠B->(∀k d,valN kvs k=some (.ref d)->d≠B)->Q .cz H')
def JO:bZ ["self","atoms"] ["self","atoms"] (defScope vJ):=gA 53
def abd{f:Addr}{fd:FuncData}(F:dG K "__init__" "MapSearch.__init__" vJ f fd)(T:Txt K mg)(O:Own K C)(D:Da P w K mg base C):cK P w K mg base dY 3 f fd ["self","atoms"] (Qd P w K C):=by
 refine F.ok JO (λ_ _ _ _ h=>by cases h;subst_vars;rfl) 55;obtain⟨self,t,dx,ys,L,H0,rfl,hs,UQ,ht,lF,lL,fL,sm,k⟩:=h;refine{_,(az (Ld (pv 0) jf 9) (az (Ld (pv 0) jf 9) (aQ (gS (Tx O.c D.QK hr (pv 0) 719 ∅))))),?_}
 have own:∀{d:Addr}{o:HO}{H1:Hp},aJ H0 H1->H0 d=none->aJ H0 (upd H1 d o):=λ{d o H1} s h q u e=>by rw[aL (bA e h)];exact s _ _ e
 have z0:∀{p:Addr}{H1:Hp},aJ H0 H1->H1 p=none->H0 p=none:=λ{p H1} s h=>by
  cases e:H0 p with
  |none=>rfl
  |some u=>rw[s _ _ e]at h;cases h
 intro A hA;have s1:aJ H (upd H A 651):=aB hA _;have hA1:upd H A 651 A=some 651:=au;have A0:=z0 sm hA;have sA:A≠self:=λe=>by rw[e,hs]at hA;cases hA
 have m1:=sm.trans s1;generalize (upd H A 651)=H1 at s1 hA1 m1⊢;refine{_,9,self,C,dx,[],9,s1 _ _ hs,O.c,O.aims,7,?_};have t2:dc H1 (upd H1 self (.ins C dx (je "aims" (.ref A) []))):=dc.upd (BQ (s1 _ _ hs));have m2:aJ H0 (upd H1 self (.ins C dx (je "aims" (.ref A) []))):=own m1 UQ;have kC:upd H1 self (.ins C dx (je "aims" (.ref A) [])) self=some (.ins C dx [("aims",.ref A)]):=au;have MM:upd H1 self (.ins C dx (je "aims" (.ref A) [])) A=some 651:=aL sA▸hA1;generalize (upd H1 self (.ins C dx (je "aims" (.ref A) [])))=H2 at t2 m2 kC MM⊢;intro B hB;have s3:aJ H2 (upd H2 B 651):=aB hB _;have m3:=m2.trans s3;generalize (upd H2 B 651)=H3 at s3 m3⊢;refine{_,9,self,C,dx,_,9,s3 _ _ kC,O.c,O.vain,by show 1<1000;decide,?_};have t4:dc H3 (upd H3 self 721):=dc.upd (BQ (s3 _ _ kC));have m4:aJ H0 (upd H3 self 721):=own m3 UQ;have Uo:upd H3 self 721 self=some (.ins C dx [("aims",.ref A),("vain",.ref B)]):=by rw[au];rfl
 have ML:upd H3 self 721 A=some 651:=aL sA▸s3 _ _ MM;have t04:=(dc.same s1).trans (t2.trans ((dc.same s3).trans t4));exact{_,9,self,dx,_,9,Uo,9,_,9,self,t,dx,A,_,ys,[],L,[],H0,0,9,Uo,9,by show 2<1000;decide,UQ,gY ht t04,lF.tp t04,lL,fL,m4,{Dz ML,aO _,A0,λk v h=>(by cases h),λk _ zs ⟨a,ha,_⟩=>(by cases ha),λk k' d h=>(by cases h)},aO _,λH5 kvs B' m5 t5 B0 hs5 hB5 ZY ab db=>k H5 A B' kvs m5 A0 B0 hs5 hB5 (by simpa using ZY) ab db}
structure JJ(P:Program)(w:World)(K:Frag)(C:Addr)(H:Hp)(me A B dx:Addr)(kvs:List 645)(L:List aI.Atom):Prop where
 ins:H me=some (.ins C dx [("aims",.ref A),("vain",.ref B)])
 ai:fV P w K (λ_=>none) H A kvs (hits L) 100000
 ab:A≠B
 db:∀k d,valN kvs k=some 700->d≠B
def JJ.same{H H':Hp}{self A B dx:Addr}{kvs:List 645}{L:List aI.Atom}(x:JJ P w K C H self A B dx kvs L)(s:aJ H H'):JJ P w K C H' self A B dx kvs L:=
 {s _ _ x.ins,x.ai.move (dc.same s) (λb _ h=>by
  rcases h with rfl|⟨k,h⟩
  ·obtain⟨u,hu⟩:=x.ai.at_.some;rw[hu,s _ _ hu]
  ·obtain⟨d,inner,e,_,_,h4,_⟩:=x.ai.vals k _ h;cases e;obtain⟨u,hu⟩:=h4.some;rw[hu,s _ _ hu]),x.ab,x.db}
def fV.got{H0 H:Hp}{A p:Addr}{kvs:List 645}{R:Rl}{n:Nat}(x:fV P w K H0 H A kvs R n)(hp:H p=some 651)(k:NK):∃d inner,(valN kvs k).getD 666=.ref d/\iy P w K H d inner/\inner.length<=n/\(inner.map (·.1)).Nodup/\∀j,(∃q∈inner,q.1=j)↔∃zs,R k zs/\j=iP zs:=by
 cases e:valN kvs k with
 |some v=>
  obtain⟨d,inner,rfl,_,_,h4,h5,h6,_,h8⟩:=x.vals k v e;exact⟨d,inner,rfl,h4,h5,h6,h8⟩
 |none=>exact{p,[],9,Dz hp,aO _,59,λj=>{λ⟨q,hq,_⟩=>(by cases hq),λ⟨zs,hz,_⟩=>absurd hz (x.no k e zs)}}
def Cj(g:cV)(t:Str):Bool:=(aI.get g t).isSome||!bh t
def Mc(g:cV)(t:Str):Str:=(aI.get g t).getD t
def Ci(g:cV)(ts:Aag)(n:Nat):List Nat:=(List.range n).filter λj=>Cj g (ts.getD j "")
def Nm(g:cV)(ts:Aag)(ns:List Nat):List (Nat×Str):=ns.map λj=>(j,Mc g (ts.getD j ""))
abbrev C5(K:Frag)(H:Hp):Aan->List (Nat×Str)->Prop:=Paired λ(y:V)(p:Nat×Str)=>∃q,y=.ref q/\aY K H q [.int p.1,.str p.2]
def zX(bs:List (Nat×Str))(zs:Aag):Bool:=bs.all λp=>decide (zs.getD p.1 ""=p.2)
def P0(L:List aI.Atom)(a:aI.Atom)(bs:List (Nat×Str))(inner:List 645):Prop:=(inner.map (·.1)).Nodup/\(∀p∈inner,∃zs,p.1=iP zs/\(a.1,zs)∈L/\zs.length=a.2.length)/\
 ∀zs,(a.1,zs)∈L->zs.length=a.2.length->zX bs zs=true->∃p∈inner,p.1=iP zs
def MT{g:cV}{ts:Aag}{i:Nat}:Ci g ts (i+1)=Ci g ts i++if Cj g (ts.getD i "")=true then[i]else[]:=by unfold Ci;rw[List.range_succ,eZ,cZ,rN]
def Pt{g:cV}{ts:Aag}{i:Nat}:(Ci g ts i).length<=i:=by have:=da (λj=>Cj g (ts.getD j "")) (List.range i);rw[eP]at this;exact this
def Pr{g:cV}{ts:Aag}{j:Nat}:j∈Ci g ts ts.length↔∃t,ts[j]?=some t/\Cj g t=true:=by
 unfold Ci;rw[c6,cD,cB];constructor
 ·rintro⟨h1,h2⟩;rw[av h1]at h2;exact{_,av h1,h2}
 ·rintro⟨t,h1,h2⟩;rw[h1];exact{(aq.mp h1).1,h2}
def C5.same{H H':Hp}{ys:Aan}{bs:List (Nat×Str)}(h:C5 K H ys bs)(s:aJ H H'):C5 K H' ys bs:=by
 induction h with
 |nil=>exact .nil
 |cons h _ ih=>
  obtain⟨q,e,hq⟩:=h;exact .cons {q,e,fT hq s} ih
def MU{L:List aI.Atom}{a:aI.Atom}{bs:List (Nat×Str)}{inner:List 645}{k:NK}(nd:(inner.map (·.1)).Nodup)(h:∀j,(∃q∈inner,q.1=j)↔∃zs,hits L k zs/\j=iP zs)(hb:∀p∈bs,p.1<a.2.length)(hk:k=yQ a.1 a.2.length\/∃p∈bs,k=xl a.1 a.2.length p.1 p.2):P0 L a bs inner:=by
 refine{nd,689,λzs hz lz ok=>?_}
 ·obtain⟨zs,⟨b,hbL,hit,rfl⟩,e⟩:=(h p.1).mp ⟨p,hp,rfl⟩;have:b.1=a.1/\b.2.length=a.2.length:=by
   rcases hk with rfl|⟨p0,_,rfl⟩
   ·rcases hit with hit|⟨i,t,_,hit⟩
    ·obtain⟨e1,e2⟩:=abk.mp hit;exact{e1.symm,e2.symm}
    ·exact absurd hit ac6
   ·rcases hit with hit|⟨i,t,_,hit⟩
    ·exact absurd hit.symm ac6
    ·obtain⟨e1,e2,_⟩:=abj.mp hit;exact{e1.symm,e2.symm}
  refine{b.2,e,?_,this.2};rw[<-this.1];exact hbL
 ·refine(h (iP zs)).mpr {zs,{(a.1,zs),hz,?_,9},9};rcases hk with rfl|⟨p0,m6,rfl⟩
  ·exact .inl (by rw[lz])
  ·refine .inr {p0.1,p0.2,?_,by rw[lz]};have h1:=aR (bL.mp ok p0 m6);have h2:p0.1<zs.length:=lz▸hb p0 m6;rw[cB,av h2]at h1;rw[av h2];exact cP some h1
theorem AU{L:List aI.Atom}{a:aI.Atom}{bs:List (Nat×Str)}:∀{inner:List 645},(∀p∈inner,∃zs,p.1=iP zs/\(a.1,zs)∈L/\zs.length=a.2.length)->∃rs:Aaa,inner.map (·.1)=rs.map iP/\∀zs∈rs,(a.1,zs)∈L/\zs.length=a.2.length
 |[],_=>{[],9,λ_ h=>by cases h}
 |p::r,h=>by
  obtain⟨zs,e,h1,h2⟩:=h p aF;obtain⟨rs,e',h'⟩:=AU (bs:=bs) λq hq=>h q (aG _ hq);refine{zs::rs,by rw[bt,bt,e,e'],λz hz=>?_};rcases aN.mp hz with rfl|hz
  ·exact⟨h1,h2⟩
  ·exact h' z hz
def lV(h:fA K H ys rs)(t:dc H H'):fA K H' ys rs:=by
 induction h with
 |nil=>exact .nil
 |cons h _ ih=>
  obtain⟨q,e,hq⟩:=h;exact .cons {q,e,gY hq t} ih
def C5.tp{H H':Hp}{ys:Aan}{bs:List (Nat×Str)}(h:C5 K H ys bs)(t:dc H H'):C5 K H' ys bs:=by
 induction h with
 |nil=>exact .nil
 |cons h _ ih=>
  obtain⟨q,e,hq⟩:=h;exact .cons {q,e,gY hq t} ih
def acX{g:cV}{ts:Aag}{ns:List Nat}{bs:List (Nat×Str)}{h:Str->Str}(Cg:Nm g ts ns=bs)(A1:Ci g ts ts.length=ns)(ag:aI.iz g h)(gu:∀u∈keys g,bh u=true):zX bs (ts.map (aI.ap bh h))=true:=by
 refine bL.mpr λp hp=>bj ?_;rw[<-Cg]at hp;obtain⟨j,hj,rfl⟩:=aD.mp hp;rw[<-A1]at hj;obtain⟨t,ht,hf⟩:=Pr.mp hj;rw[cB,cB,aX,ht];show aI.ap bh h t=Mc g t;unfold Mc aI.ap;cases q:aI.get g t with
 |some v=>
  have hk:t∈keys g:=by
   cases e:(decide (t∈keys g))with
   |true=>exact aR e
   |false=>rw[aI.get_none.mpr (oh e)]at q;cases q
  rw[gu t hk,aK rfl];exact ag.get q
 |none=>
  unfold Cj at hf;rw[q]at hf;have:bh t=false:=by simpa using hf
  rw[this,aH 59];rfl
inductive Sk(P:Program)(w:World)(K:Frag)(C:Addr)(vs:Aan)(H:Hp)(Q:VK)(_x3:XK):Prop
 |mk (self A B dx d:Addr) (kvs:List (NK×Addr×V)) (L:List aI.Atom) (v:V) (a:aI.Atom) (g:cV) (_:vs=[.ref self,v,.ref d]) (_:JJ P w K C H self A B dx kvs L) (_:Et K H v a) (_:lB a) (_:(∀b∈L,lB b)) (_:L.length<=1000) (_:H d=some (.dK (gK g))) (_:(keys g).Nodup) (_:(∀u∈keys g,bh u=true)) (_:(∀q∈g,PyData.strOk q.2=true)) (_:∀p ys qq H',aJ H H'->H p=none->H' p=some (.lst ys)->fA K H' ys qq->qq.length<=L.length->(∀zs∈qq,(a.1,zs)∈L)->(∀h,aI.iz g h->(a.1,a.2.map (aI.ap bh h))∈L->a.2.map (aI.ap bh h)∈qq)->Q (.ref p) H')
def gZ:bZ ["self","atom","given","name","terms","fixed","bound","found","place","term","closer"] ["self","atom","given"] (defScope xR):=gA 53
def QA{f:Addr}{fd:FuncData}(F:dG K "aims_of" "MapSearch.aims_of" xR f fd)(T:Txt K mg)(O:Own K C)(D:Du P w K mg base):cK P w K mg base dY 3 f fd ["self","atom","given"] (Sk P w K C):=by
 refine F.ok gZ (λ_ _ _ _ h=>by cases h;subst_vars;rfl) 55;obtain⟨self,A,B,dx,d,kvs,L,v,a,g,rfl,se,ha,fa,fL,lL0,hd,nd,gu,gs,k⟩:=h;have hu:=oZ hr;have hN:=Q9 hr;obtain⟨ab,ac,rfl,v7,qz⟩:=ha;obtain⟨fl,f0,fz⟩:=fa;refine{_,(az (yM (pv 1) (jy 9 (b9 (fZ 3 gZ) (b9 (sJ (i:=4) gZ.nd 9 (Or.inr 9)) fQ)))) (az (JQ (j:=5) gZ.nd 9 9 9 (o7 (more:=["term"]) (fs:=["given"]) (fr:=[2])) (Li 9 T.xZ (bX (pv 4))) (λ_ _ _ _=>(vk (n:=2) 9 694)) (λ_ _ _ _=>(PW.pt (ny (SO (acQ hu (pv 1) (pv 2))) (nZ (jx (gO (cl D.is_unknown hr 719))))))) 729) (az (kx (i:=6) gZ.nd 9 (Or.inr 9) (kU 9 (c9 (fs:=["given","terms"]) (fr:=[2,4])) (dH (pv 5)) (λ_ _ _ _=>(dX (cu (pv 0) (sL hu (pv 1) (bF (vm) (pv 2) (pv 0) (λ_ _=>9)) (bF (vm) (pv 2) (pv 0) (λ_ _=>9)) ⟨rfl,rfl,rfl,rfl⟩)))))) (az (dE 07 gZ (IJ hN (yO (pv 0) 9) (dX (cu (pv 3) (bN cY 9 T.eT bH (bX (pv 4))))) jf ⟨rfl,rfl,rfl,rfl⟩)) (az (dR bG 9 (dH (pv 6)) (jy 9 (b9 (fZ 08 gZ) (b9 (fZ 09 gZ) fQ))) (az (dE 10 gZ (IJ hN (yO (pv 0) 9) (dX (fu (pv 3) (iZ (bN cY 9 T.eT bH (bX (pv 4))) (pv 08) (pv 09)))) jf ⟨rfl,rfl,rfl,rfl⟩)) (aQ (dE 07 gZ (EM (b5 xj (bN JC 9 T.eT bH (bX (pv 10))) (bN JC 9 T.eT bH (bX (pv 07))) (cx _)) (pv 10) (pv 07)))))) (aQ (bK (Wo (Qq 9 (GA (fs:=["bound"]) (fr:=[6])) (Wn (pv 07)) (λ_ _ _ _=>(gO (bN (GH 9) 9 T.Y5 boot_all (bX (vQ 9 (o7 (more:=["term"]) (fs:=["aim"]) (fr:=[0])) (Lh (pv 1)) (λ_ _ _ _=>(vk (n:=2) 9 694)) (λ_ _ _ _=>(jK lO (bF (vm) (pv 2) (pv 0) (λ_ _=>9)) (pv 1) (cx _)))))))) 729))))))))),?_}
 have lt:(a.2.map V.str).length=a.2.length:=ah _;refine{_,9,ab,_,9,v7,9,_,_,9,_,_,9,9,?_};refine{_,9,ac,9,⟨_,qz⟩,N3 (λi zs H2=>aJ H H2/\i<=a.2.length/\zs=(Ci g a.2 i).map λj:Nat=>V.int (j:Int)) (by rw[lt];exact bu ∅) {aJ.refl H,aO _,9} ?_ ?_ ?_}
 ·rintro i zs H2 hi ⟨s2,my,rfl⟩;refine{gY qz (dc.same s2),?_};rw[ah];exact Pt
 ·rintro i x zs H2 q N hc ⟨s2,my,rfl⟩ hq pQ;obtain⟨z,hz,rfl⟩:=iN hc;have bQ:=(aq.mp hz).1;have s3:aJ H (upd H2 q (.tup [.int i,.str z])):=s2.trans (aB hq _);generalize (upd H2 q (.tup [.int i,.str z]))=H3 at s3⊢;have ez:a.2.getD i ""=z:=by rw[cB,hz];rfl
  have yes:∀H4,aJ H H4->Cj g z=true->N (((Ci g a.2 i).map λj:Nat=>V.int (j:Int))++[.int i]) H4:=λH4 s4 c=>pQ _ _ {s4,bQ,by rw[MT,ez,aK c,aE];rfl};have no:∀H4,aJ H H4->Cj g z=false->N ((Ci g a.2 i).map λj:Nat=>V.int (j:Int)) H4:=λH4 s4 c=>pQ _ _ {s4,bQ,by rw[MT,ez,c];simp};refine{_,9,_,9,d,_,9,kS.k (k:=Sum.inr z) (s3 _ _ hd),_,9,?_};have e0:(iC (gK g) (Sum.inr z:Key)).isSome=(aI.get g z).isSome:=by rw[qH,gP]
  rw[e0];refine dS 669 669
  ·refine nr {_,9,yes H3 s3 ?_};unfold Cj;rw[c];rfl
  ·refine{_,rfl,z,rfl,by have:=(fz z (aA hz)).1;lia,λH4 s4=>{_,9,?_}};have e1:Cj g z=!bh z:=by unfold Cj;rw[show(aI.get g z).isSome=false by simpa using c];rfl
   rw[<-e1];refine dS (λc2=>{_,9,yes H4 (s3.trans s4) c2}) (λc2=>no H4 (s3.trans s4) (by simpa using c2))
 rintro zs H2 ⟨s2,_,rfl⟩ fx hfx;rw[lt];generalize A1:Ci g a.2 a.2.length=ns;have lns:ns.length<=100:=by rw[<-A1];exact br Pt fl
 have W6:∀j∈ns,∃t,a.2[j]?=some t/\Cj g t=true:=λj hj=>by rw[<-A1]at hj;exact Pr.mp hj
 have s3:aJ H (upd H2 fx (.lst (ns.map λj:Nat=>V.int (j:Int)))):=s2.trans (aB hfx _);have hf3:upd H2 fx (.lst (ns.map λj:Nat=>V.int (j:Int))) fx=some (.lst (ns.map λj:Nat=>V.int (j:Int))):=au;generalize (upd H2 fx (.lst (ns.map λj:Nat=>V.int (j:Int))))=H3 at s3 hf3⊢;have lnv:(ns.map λj:Nat=>V.int (j:Int)).length=ns.length:=ah _;refine{_,9,fx,9,{_,bf.of hf3},iS (λi zs H4=>aJ H3 H4/\i<=ns.length/\C5 K H4 zs (Nm g a.2 (ns.take i))) (by rw[lnv];exact bu ∅) {aJ.refl _,aO _,.nil} ?_ ?_ ?_}
 ·rintro i zs H4 hi ⟨s4,my,hb⟩;refine{bf.of (s4 _ _ hf3),?_};have:=bb hb;rw[this];unfold Nm;rw[ah,aZ];lia
 ·rintro i x zs H4 N hc ⟨s4,my,hb⟩ pQ;rw[aX]at hc;obtain⟨j,hj,rfl⟩:=bz.mp hc;have bQ:=(aq.mp hj).1;obtain⟨z,hz,_⟩:=W6 j (aA hj);have ez:a.2.getD j ""=z:=by rw[cB,hz];rfl
  have s34:=s3.trans s4;have adU:=gY qz (dc.same s34);have at':sd (a.2.map V.str) (j:Int)=some (.str z):=gW (by rw[aX,hz];rfl);refine{_,9,_,9,d,9,.inl {_,.inl (s34 _ _ hd)},_,9,_,9,_,_,_,_,9,9,adU,at',_,9,_,9,_,_,_,_,9,9,adU,at',_,kS.k (k:=Sum.inr z) (s34 _ _ hd),96,λq hq=>?_};have e1:(iC (gK g) (Sum.inr z:Key)).getD (.str z)=.str (Mc g z):=by rw[qH];unfold Mc;cases aI.get g z<;>rfl
  rw[e1];refine pQ _ _ {s4.trans (aB hq _),bQ,?_};unfold Nm;rw[bq,hj,aE];refine fC (C5.same hb (aB hq _)) (.cons {q,9,aY.of ?_} .nil);show upd H4 q _ q=some (.tup [.int j,.str (Mc g (a.2.getD j ""))]);rw[ez];exact au
 rintro zs H4 ⟨s4,_,hb⟩ bl hbl;rw[lnv,aT]at hb;generalize Cg:Nm g a.2 ns=bs at hb;have s5:aJ H (upd H4 bl 702):=s3.trans (s4.trans (aB hbl _));have ze:upd H4 bl 702 bl=some 702:=au;have Q6:=C5.same hb (aB hbl 702);generalize (upd H4 bl 702)=H5 at s5 ze Q6⊢;have lbs:bs.length<=100:=by rw[<-Cg];unfold Nm;rw[ah];exact lns
 have MC:∀p∈bs,p.1<a.2.length:=λp hp=>by rw[<-Cg]at hp;obtain⟨j,hj,rfl⟩:=aD.mp hp;obtain⟨t,ht,_⟩:=W6 j hj;exact(aq.mp ht).1
 have lzb:=bb Q6;have KW:=se.same s5;have adT:=gY qz (dc.same s5);refine{_,9,self,C,dx,_,_,9,KW.ins,O.c,O.aims,9,A,kvs,9,KW.ai.at_,_,9,_,9,_,_,9,.inr ⟨_,adT,rfl⟩,96,λb hb p hp=>?_};rw[lt]at hp⊢;have s6:aJ H5 (upd H5 b (.tup [.str a.1,.int a.2.length])):=aB hb _;have hb6:aY K (upd H5 b (.tup [.str a.1,.int a.2.length])) b [.str a.1,.int a.2.length]:=aY.of au;generalize (upd H5 b (.tup [.str a.1,.int a.2.length]))=H6 at s6 hb6 hp⊢;have s7:aJ H6 (upd H6 p 651):=aB hp _;have hp7:upd H6 p 651 p=some 651:=au;have s57:=s6.trans s7;have Sv:=KW.same s57;obtain⟨dd,inner,e0,g1,g2,g3,g4⟩:=Sv.ai.got hp7 (yQ a.1 a.2.length);refine{b,kvs,yQ a.1 a.2.length,9,Sv.ai.at_,L7 (fT hb6 s7) f0,?_};rw[e0];refine{_,rfl,bl,rfl,{_,bf.of (s57 _ _ ze)},gF (xs:=zs) (λi Z H8=>∃(dd:Addr)(inner:List 645)(x8 x9 x10:Aao),Z=[some (.ref self),some (.ref ab),some 700,some (.str a.1),some (.ref ac),some (.ref fx),some (.ref bl),some (.ref dd),x8,x9,x10]/\aJ H5 H8/\iy P w K H8 dd inner/\P0 L a bs inner)
  {dd,inner,_,_,_,9,s57,g1,MU g3 g4 MC (.inl 9)} ?_ ?_ ?_}
 ·rintro i Z H8 hi ⟨_,_,_,_,_,rfl,s8,_⟩;exact bf.of (s8 _ _ ze)
 ·rintro i x Z H8 hx ⟨dd,inner,_,_,_,rfl,s8,g1,g2⟩;obtain⟨⟨j,z⟩,Uw,q,rfl,hq⟩:=Paired.at' (C5.same Q6 s8) hx;have mjz:=aA Uw;have se8:=KW.same s8;have hz:PyData.strOk z=true:=by
   rw[<-Cg]at mjz;obtain⟨j',Jh,e⟩:=aD.mp mjz;obtain⟨t,ht,_⟩:=W6 j' Jh;have e2:Mc g (a.2.getD j' "")=z:=cP Prod.snd e;rw[cB,ht]at e2;rw[<-e2];show PyData.strOk ((aI.get g t).getD t)=true;cases q2:aI.get g t with
   |none=>exact(fz t (aA ht)).2
   |some v=>exact gs _ (aI.get_some q2)
  refine{q,_,9,hq,9,_,_,9,_,_,9,9,?_};refine{_,9,self,C,dx,_,_,9,se8.ins,O.c,O.aims,9,A,kvs,9,se8.ai.at_,_,9,_,9,_,_,9,.inr {_,gY adT (dc.same s8),9},_,9,_,9,(by show 4<=sizeLine;decide),λb hb p hp=>?_};rw[lt]at hp⊢;have s9:aJ H8 (upd H8 b (.tup [.str a.1,.int a.2.length,.int j,.str z])):=aB hb _;have UI:aY K (upd H8 b (.tup [.str a.1,.int a.2.length,.int j,.str z])) b [.str a.1,.int a.2.length,.int j,.str z]:=aY.of au;generalize (upd H8 b (.tup [.str a.1,.int a.2.length,.int j,.str z]))=H9 at s9 UI hp⊢;have kL:aJ H9 (upd H9 p 651):=aB hp _;have QV:upd H9 p 651 p=some 651:=au;generalize (upd H9 p 651)=hV at kL QV⊢;have K0:=s9.trans kL;have acu:=se8.same K0;obtain⟨cd,cin,e1,c1,c2,c3,c4⟩:=acu.ai.got QV (xl a.1 a.2.length j z);refine{b,kvs,xl a.1 a.2.length j z,9,acu.ai.at_,L6 (fT UI kL) f0 hz,?_};rw[e1];have g10:iy P w K hV dd inner:=by obtain⟨u,hu⟩:=g1.some;exact g1.tp (dc.same K0) (by rw[hu,K0 _ _ hu])
  refine{_,9,cd,cin,9,c1,_,9,dd,inner,9,g10,_,_,9,9,_,9,?_};refine dS 669 (λc=>{_,9,dd,inner,_,_,_,9,s8.trans K0,g10,g2})
  ·exact{_,9,cd,cin,_,_,_,9,s8.trans K0,c1,(MU c3 c4 MC (.inr {(j,z),mjz,9}))}
 rintro Z H8 ⟨dd,inner,_,_,_,rfl,s8,g1,LM,g2,g3⟩;obtain⟨rs,ers,hrs⟩:=AU (bs:=bs) g2;have lrs:inner.length=rs.length:=by have:=cP List.length ers;rw[ah,ah]at this;exact this
 have lL:rs.length<=L.length:=by
  have:=jL (m:=L.map λb=>iP b.2) LM λj hj=>by obtain⟨p,hp,rfl⟩:=aD.mp hj;obtain⟨N8,e,h1,_⟩:=g2 p hp;exact aD.mpr {_,h1,e.symm}
  rw[ah,ah]at this;lia
 obtain⟨u,Uk⟩:=g1.some;have nfz:∀o v,H8 dd≠some (.gE o v):=λo v e=>by rcases g1.1 with h|⟨_,h⟩<;>rw[h]at e<;>cases e
 have lkv:(inner.map λp=>((V.ref p.2.1,p.2.2):V×V)).length=inner.length:=ah _;have ahe:bl≠dd:=λe=>by have:=s8 _ _ ze;rw[e]at this;rcases g1.1 with h|⟨_,h⟩<;>rw[h]at this<;>cases this
 refine{dd,nfz,_,9,dd,u,inner,9,Uk,g1,λo=>?_};have t9:dc H8 (upd H8 dd (.gE o u)):=dc.upd g1.oS;have bl9:upd H8 dd (.gE o u) bl=some 702:=aL ahe▸s8 _ _ ze;have UI:=(C5.same Q6 s8).tp t9;have UG:upd H8 dd (.gE o u) dd=some (.gE o u):=au;have back:∀b v,b≠dd->H8 b=some v->upd H8 dd (.gE o u) b=some v:=λb v n h=>aL n▸h;have Zh:=λp hp=>oV (g1.2 p hp) t9;generalize (upd H8 dd (.gE o u))=H9 at t9 bl9 UI UG back Zh⊢;refine RF (λi ys hV=>aJ H9 hV/\i<=rs.length/\fA K hV ys ((rs.take i).filter (zX bs))) (by rw[lkv,bW];lia) {aJ.refl _,aO _,.nil} ?_ ?_ ?_
 ·rintro i ys hV hi ⟨kL,my,hr⟩;refine{kL _ _ UG,?_};rw[bb hr];have:=da (zX bs) (rs.take i);rw[aZ]at this;lia
 ·rintro i kv ys hV N rY ⟨kL,my,hr⟩ pQ;rw[aX]at rY;obtain⟨p,hp,rfl⟩:=bz.mp rY;have hil:=(aq.mp hp).1;have Mj:i<rs.length:=by lia
  have ep:p.1=iP rs[i]:=by have:=cP (λl=>l[i]?) ers;simp only[aX,hp,av Mj,jN]at this;exact bT this
  generalize hri:rs[i]=row at ep;have W2:rs[i]?=some row:=by rw[av Mj,hri]
  obtain⟨QF,afT⟩:=hrs row (aA W2);have lC:=fT (ac5 (by rw[<-ep];exact(Zh p (aA hp)).1)) kL;refine{_,9,bl,9,{_,bf.of (kL _ _ bl9)},GB (xs:=zs) (λj us mC=>aJ hV mC/\j<=bs.length/\us=((bs.take j).map λq=>decide (row.getD q.1 ""=q.2)).map V.bl) (bu ∅) {aJ.refl _,aO _,9} ?_ ?_ ?_}
  ·rintro j us mC hj ⟨qP,zc,rfl⟩;refine{bf.of (qP _ _ (kL _ _ bl9)),?_};rw[ah,ah,aZ];lia
  ·rintro j y us mC M hy ⟨qP,zc,rfl⟩ hM;obtain⟨⟨jj,z⟩,Uw,q,rfl,hq⟩:=Paired.at' (UI.same (kL.trans qP)) hy;have lJ:=(aq.mp Uw).1;have jl:jj<row.length:=by rw[afT];exact MC (jj,z) (aA Uw)
   refine{q,_,_,9,hq,yK ?_};refine{_,9,_,9,_,_,_,_,9,9,fT lC qP,gW (by rw[aX,av jl];rfl),_,9,9,?_};have e1:decide (V.str row[jj]=V.str z)=decide (row.getD jj ""=z):=by rw[cB,av jl];simp
   rw[e1];refine hM _ _ {qP,lJ,?_};rw[bq,Uw,aE,aE];rfl
  ·rintro us mC ⟨qP,_,rfl⟩ q hq;rw[lzb,aT];refine{q,_,9,bf.of au,_,9,?_};have e1:((bs.map λq=>decide (row.getD q.1 ""=q.2)).all id)=zX bs row:=by rw[CY];rfl
   rw[e1];have vO:aJ hV (upd mC q (.lst ((bs.map λq=>decide (row.getD q.1 ""=q.2)).map V.bl))):=qP.trans (aB hq _);generalize (upd mC q (.lst ((bs.map λq=>decide (row.getD q.1 ""=q.2)).map V.bl)))=uY at vO⊢;refine dS (λc=>{_,9,pQ _ _ {kL.trans vO,Mj,?_}}) (λc=>pQ _ _ {kL.trans vO,Mj,?_})
   ·rw[bq,W2,eZ];refine fC (lV hr (dc.same vO)) ?_;show fA K uY _ (List.filter (zX bs) [row]);rw[cZ,aK c];exact .cons {p.2.1,9,fT lC vO} .nil
   ·rw[bq,W2,eZ];show fA K uY _ (_++List.filter (zX bs) [row]);rw[cZ,aH c,rN,c7];exact lV hr (dc.same vO)
 ·rintro ys hV ⟨kL,_,hr⟩ l hl;rw[lkv,lrs,aT]at hr;have ld:l≠dd:=λe=>by rw[e,kL _ _ UG]at hl;cases hl
  refine{o,u,by rw[aL (cL ld)];exact kL _ _ UG,?_};have st:aJ H (upd (upd hV l 682) dd u):=λb v h=>by
   by_cases c:b=dd
   ·rw[c,au];have:=s8 _ _ (s5 _ _ h);rw[c,Uk]at this;exact this
   ·have Jn:=kL _ _ (back b v c (s8 _ _ (s5 _ _ h)));rw[aL c,aL (bA Jn hl)];exact Jn
  have l0:H l=none:=by
   cases e:H l with
   |none=>rfl
   |some v=>rw[kL _ _ (back l v ld (s8 _ _ (s5 _ _ e)))]at hl;cases hl
  have tpp:dc hV (upd (upd hV l 682) dd u):=(dc.upd (QC hl)).trans (dc.upd λxs q=>by
   have h0:upd hV l 682 dd=some (.gE o u):=by rw[aL (cL ld)];exact kL _ _ UG
   have nu:∀xs,u≠ .tup xs:=λxs e=>by rw[e]at Uk;rcases g1.1 with h|⟨_,h⟩<;>rw[h]at Uk<;>cases Uk
   rcases q with q|⟨o',q⟩<;>rw[h0]at q
   ·cases q
   ·injection q with q;injection q with _ q;exact nu _ q)
  refine k l ys _ _ st l0 (aL ld▸au) (lV hr tpp) (br (da _ _) lL) (λz hz=>(hrs z (c6.mp hz).1).1) λh ag hm=>?_;have bP:=acX Cg A1 ag gu;refine c6.mpr {?_,bP};obtain⟨p,hp,e⟩:=g3 _ hm (by rw[ah]) bP;have:iP (a.2.map (aI.ap bh h))∈rs.map iP:=by rw[<-ers,<-e];exact aD.mpr ⟨p,hp,rfl⟩
  obtain⟨z,hz,ez⟩:=aD.mp this;rw[<-OS ez];exact hz
def atK(a:aI.Atom):NK:=.tup [.key (.inr a.1),iP a.2]
def S9:Option Str->NK
 |none=>.cz
 |some z=>.key (.inr z)
def OU(m:List (Option Str)):NK:=.tup (m.map S9)
def uv(p:List aI.Atom)(m:List 710):NK:=.tup [.tup (p.map atK),.tup (m.map OU)]
theorem map_inj{α β:Type}{f:α->β}(h:∀x y,f x=f y->x=y):∀{l m:List α},l.map f=m.map f->l=m
 |[],[],_=>rfl
 |[],_::_,e=>by cases e
 |_::_,[],e=>by cases e
 |x::l,y::m,e=>by injection e with e1 e2;rw[h x y e1,map_inj h e2]
def abW(a b:aI.Atom)(h:atK a=atK b):a=b:=by unfold atK at h;simp only[NK.tup.injEq,nK,NK.key.injEq,A7,Fl]at h;exact Fo h.1 (OS h.2)
def aa8(a b:Option Str)(h:S9 a=S9 b):a=b:=by cases a<;>cases b<;>simp_all [S9]
def abl(a b:List (Option Str))(h:OU a=OU b):a=b:=by injection h with h;exact map_inj aa8 h
def VH{p p':List aI.Atom}{m m':List 710}(h:uv p m=uv p' m'):p=p'/\m=m':=by unfold uv at h;simp only[NK.tup.injEq,nK,Fl]at h;exact{map_inj abW h.1,map_inj abl h.2}
def Xk{a:aI.Atom}(h:lB a):lA 2 (atK a):=ou λk hk=>by
 simp only[aN,qm,EO]at hk;rcases hk with rfl|rfl
 ·exact sQ h.2.1
 ·exact MP λz hz=>(h.2.2 z hz).2
def Xj{m:List (Option Str)}(h:∀z,some z∈m->PyData.strOk z=true):lA 1 (OU m):=ou λk hk=>by
 obtain⟨o,ho,rfl⟩:=aD.mp hk;cases o with
 |none=>exact Xi
 |some z=>exact sQ (h z ho)
def _root_.L2.lA.mono{n m:Nat}{k:NK}(h:lA n k)(e:n<=m):lA m k:={h.1,br h.2.1 e,br h.2.2 e}
def UR{p:List aI.Atom}{m:List 710}(h1:∀a∈p,lB a)(h2:∀r∈m,∀z,some z∈r->PyData.strOk z=true):RO (uv p m):=(ou λk hk=>by
 simp only[aN,qm,EO]at hk;rcases hk with rfl|rfl
 ·exact ou λk hk=>by obtain⟨a,ha,rfl⟩:=aD.mp hk;exact Xk (h1 a ha)
 ·exact ou λk hk=>by obtain⟨r,hr,rfl⟩:=aD.mp hk;exact(Xj (h2 r hr)).mono 7).good 7
def acZ{H:Hp}{v:V}{a:aI.Atom}(h:Et K H v a):NV K H (atK a) v:=by obtain⟨b,c,rfl,h1,h2⟩:=h;unfold atK;refine{b,_,9,h1,?_};exact{_,_,9,by rw[NV];rfl,_,_,9,Tj h2,9}
def abi{H:Hp}{ys:Aan}{p:List aI.Atom}(h:kI K H ys p):rJ K H (p.map atK) ys:=by
 induction h with
 |nil=>rw[fI,rJ]
 |cons h _ ih=>
  exact{_,_,9,acZ h,ih}
def YQ:Option Str->V
 |none=>.cz
 |some z=>.str z
abbrev Ih(K:Frag)(H:Hp):Aan->List 710->Prop:=Paired λ(y:V)(m:List (Option Str))=>∃q,y=.ref q/\aY K H q (m.map YQ)
theorem OR{H:Hp}:∀m:List (Option Str),rJ K H (m.map S9) (m.map YQ)
 |[]=>by rw[fI,rJ];rfl
 |o::r=>by
  refine{_,_,9,?_,OR r};cases o with
  |none=>show NV K H .cz .cz;rw[NV]
  |some z=>show NV K H (.key (.inr z)) (.str z);rw[NV];rfl
def abh{H:Hp}{ys:Aan}{ms:List 710}(h:Ih K H ys ms):rJ K H (ms.map OU) ys:=by
 induction h with
 |nil=>rw[fI,rJ]
 |cons h _ ih=>
  obtain⟨q,rfl,hq⟩:=h;refine{_,_,9,?_,ih};unfold OU;exact{q,_,9,hq,OR _}
def T3{H:Hp}{b b1 b2:Addr}{ys zs:Aan}{p:List aI.Atom}{ms:List 710}(hb:aY K H b [.ref b1,.ref b2])(h1:aY K H b1 ys)(h2:aY K H b2 zs)(hp:kI K H ys p)(hm:Ih K H zs ms)(g1:∀a∈p,lB a)(g2:∀r∈ms,∀z,some z∈r->PyData.strOk z=true):iE K H (uv p ms) b:=by
 refine{?_,UR g1 g2};unfold uv;refine{b,_,9,hb,?_};refine{_,_,9,?_,_,_,9,?_,9}
 ·rw[NV];exact{b1,ys,9,h1,abi hp}
 ·rw[NV];exact{b2,zs,9,h2,abh hm}
def hU(P:Program)(w:World)(K:Frag)(H:Hp)(B:Addr)(L:List aI.Atom)(n:Nat):Prop:=∃kvs,iy P w K H B kvs/\kvs.length<=n/\∀q∈kvs,∃p m,q.1=uv p m/\aI.RL bh L p m
def hU.mono{H:Hp}{B:Addr}{L:List aI.Atom}{n m:Nat}(h:hU P w K H B L n)(e:n<=m):hU P w K H B L m:=by obtain⟨kvs,h1,h2,h3⟩:=h;exact{kvs,h1,br h2 e,h3}
def hU.same{H H':Hp}{B:Addr}{L:List aI.Atom}{n:Nat}(h:hU P w K H B L n)(s:aJ H H'):hU P w K H' B L n:=by obtain⟨kvs,h1,h2,h3⟩:=h;obtain⟨u,hu⟩:=h1.some;exact{kvs,h1.tp (dc.same s) (by rw[hu,s _ _ hu]),h2,h3}
def hU.put{H:Hp}{B b:Addr}{L:List aI.Atom}{n:Nat}{kvs:List 645}{p:List aI.Atom}{m:List 710}{v:V}(h1:iy P w K H B kvs)(h2:kvs.length<=n)(h3:∀q∈kvs,∃p m,q.1=uv p m/\aI.RL bh L p m)(hb:iE K H (uv p m) b)(hv:aI.RL bh L p m):
  hU P w K (upd H B (.ext (DN P w B (putN kvs (uv p m) b v)))) B L (n+1):=by
 refine{_,h1.put hb,br vP (jh h2),λq hq=>?_};rcases LN hq with⟨q0,O8,e,_⟩|⟨e,_⟩
 ·obtain⟨p',m',e',hv'⟩:=h3 q0 O8;exact{p',m',e.trans e',hv'}
 ·exact⟨p,m,e,hv⟩
def SB(B:Addr)(H H':Hp):Prop:=∀b u,b≠B->H b=some u->H' b=some u
def SB.refl(B:Addr)(H:Hp):SB B H H:=λ_ _ _ h=>h
def SB.trans{B:Addr}{H H1 H2:Hp}(a:SB B H H1)(b:SB B H1 H2):SB B H H2:=λx u n h=>b x u n (a x u n h)
def SB.same{B:Addr}{H H':Hp}(s:aJ H H'):SB B H H':=λx u _ h=>s x u h
def SB.upd{B:Addr}{H:Hp}{o:HO}:SB B H (upd H B o):=λx u n h=>by rw[aL n];exact h
def hU.oS{H:Hp}{B:Addr}{L:List aI.Atom}{n:Nat}(h:hU P w K H B L n):vg H B:=by obtain⟨kvs,h1,_⟩:=h;exact h1.oS
def SB.tp{B:Addr}{H H':Hp}(s:SB B H H')(h:vg H B):dc H H':=λb xs q=>by
 have hb:b≠B:=λe=>h xs (e▸q);rcases q with q|⟨o,q⟩
 ·exact .inl (s _ _ hb q)
 ·exact .inr {o,s _ _ hb q}
def hU.Ka{H:Hp}{B:Addr}{L:List aI.Atom}{n:Nat}(h:hU P w K H B L n):∀xs,¬Rd H B (.lst xs):=λxs q=>by obtain⟨kvs,h1,_⟩:=h;rcases h1.1 with e|⟨_,e⟩<;>rcases q with q|⟨o,q⟩<;>rw[e]at q<;>cases q
def KD{B a:Addr}{H H':Hp}{xs:Aan}(q:bf K H a xs)(s:SB B H H')(h:∀xs,¬Rd H B (.lst xs)):bf K H' a xs:=by
 rcases q with q|q
 ·have hb:a≠B:=λe=>h xs (e▸q);rcases q with q|⟨o,q⟩
  ·exact .inl (.inl (s _ _ hb q))
  ·exact .inl (.inr {o,s _ _ hb q})
 ·exact .inr q
def JJ.sb{H H':Hp}{self A B dx:Addr}{kvs:List 645}{L:List aI.Atom}{n:Nat}(x:JJ P w K C H self A B dx kvs L)(v:hU P w K H B L n)(s:SB B H H'):JJ P w K C H' self A B dx kvs L:=by
 have sB:self≠B:=λe=>by obtain⟨kv,h1,_⟩:=v;have:=x.ins;rw[e]at this;rcases h1.1 with h|⟨_,h⟩<;>rw[h]at this<;>cases this
 refine{s _ _ sB x.ins,x.ai.move (s.tp v.oS) (λb _ h=>?_),x.ab,x.db};rcases h with rfl|⟨k,h⟩
 ·obtain⟨u,hu⟩:=x.ai.at_.some;rw[hu,s _ _ x.ab hu]
 ·have:=x.db k b h;obtain⟨d,inner,e,_,_,h4,_⟩:=x.ai.vals k _ h;cases e;obtain⟨u,hu⟩:=h4.some;rw[hu,s _ _ this hu]
def tn:Nat->Nat
 |0=>0
 |n+1=>08*tn n+1
theorem Kt:∀a b,tn a+tn b<=tn (a+b)
 |0,b=>by simp[tn]
 |a+1,b=>by
  have ih:=Kt a b;rw[show a+1+b=(a+b)+1 by lia];simp only[tn];have:tn b<=08*tn b:=by lia
  lia
def aaA{a b:Nat}(h:a<=b):tn a<=tn b:=by have:=Kt a (b -a);rw[show a+(b -a)=b by lia]at this;lia
theorem Ks:∀ps:List (List aI.Atom),(ps.map λp=>tn p.length).sum<=tn (ps.map List.length).sum
 |[]=>by simp[tn]
 |p::ps=>by have:=Ks ps;have h2:=Kt p.length (ps.map List.length).sum;simp only[bt,jU];lia
structure Ask(P:Program)(w:World)(K:Frag)(C:Addr)(H:Hp)(me A B dx:Addr)(kvs:List 645)(L:List aI.Atom)(c:Nat)(U:Aag)(d:Addr)(g:cV)(p:List aI.Atom)(n:Nat):Prop where
 se:JJ P w K C H me A B dx kvs L
 va:hU P w K H B L c
 lL:L.length<=08
 fL:∀b∈L,lB b
 fp:∀b∈p,lB b
 ln:p.length<=n
 n8:n<=08
 lc:c+tn p.length<=9000000
 hd:H d=some (.dK (gK g))
 dB:d≠B
 nd:(keys g).Nodup
 gu:∀u∈keys g,bh u=true
 fg:∀q∈g,PyData.strOk q.2=true
 gU:∀u∈keys g,u∈U
 pU:∀u∈aI.ju bh p,u∈U
 lU:U.length<=1000
def Tells(P:Program)(w:World)(K:Frag)(H:Hp)(B:Addr)(L:List aI.Atom)(c:Nat)(g:cV)(p:List aI.Atom)(Q:VK):Prop:=
 (∀H',SB B H H'->hU P w K H' B L (c+tn p.length)->¬aI.rR bh L g p->Q .cz H')/\
 ∀H' d' g',SB B H H'->hU P w K H' B L (c+tn p.length)->H' d'=some (.dK (gK g'))->d'≠B->(∀q∈g',PyData.strOk q.2=true)->aI.Got bh L g g' p->Q (.ref d') H'
inductive KN(P:Program)(w:World)(K:Frag)(C:Addr)(n:Nat)(vs:Aan)(H:Hp)(Q:VK)(_x3:XK):Prop
 |mk (self A B dx pl d:Addr) (kvs:List (NK×Addr×V)) (L:List aI.Atom) (c:Nat) (U:Aag) (g:cV) (p:List aI.Atom) (ys:Aan) (_:vs=[.ref self,.ref pl,.ref d]) (_:Ask P w K C H self A B dx kvs L c U d g p n) (_:bf K H pl ys) (_:kI K H ys p) (_:p≠[]) (_:Tells P w K H B L c g p Q)
inductive zI(P:Program)(w:World)(K:Frag)(C:Addr)(n:Nat)(vs:Aan)(H:Hp)(Q:VK)(_x3:XK):Prop
 |mk (self A B dx pl d:Addr) (kvs:List (NK×Addr×V)) (L:List aI.Atom) (c:Nat) (U:Aag) (g:cV) (p:List aI.Atom) (ys:Aan) (_:vs=[.ref self,.ref pl,.ref d]) (_:Ask P w K C H self A B dx kvs L c U d g p n) (_:bf K H pl ys) (_:kI K H ys p) (_:Tells P w K H B L c g p Q)
structure Dp(P:Program)(w:World)(K:Frag)(mg:Aac)(base:Heap)(C:Addr):Prop extends Dt2 P w K mg base where
 parts_of:cn P w K mg base 4 "parts_of" ["atoms","given"] (IA K)
 BU:rK P w K mg base C 3 "aims_of" ["self","atom","given"] (Sk P w K C)
structure Dm(P:Program)(w:World)(K:Frag)(mg:Aac)(base:Heap)(C:Addr)(n:Nat):Prop extends Dp P w K mg base C where
 JW:rK P w K mg base C (6+2*n) "mapped_part" ["self","part","given"] (KN P w K C n)
structure Dq(P:Program)(w:World)(K:Frag)(mg:Aac)(base:Heap)(C:Addr)(n:Nat):Prop extends Dp P w K mg base C where
 vX:rK P w K mg base C (07+2*n) "mapped" ["self","atoms","given"] (zI P w K C n)
theorem Kx:∀(l:List (List aI.Atom))(i:Nat),((l.take i).map λp=>tn p.length).sum<=(l.map λp=>tn p.length).sum
 |[],i=>by simp
 |x::r,0=>by simp
 |x::r,i+1=>by have:=Kx r i;rw[Bg,bt,bt,jU,jU];lia
def xO:bZ ["self","atoms","given","part"] ["self","atoms","given"] (defScope u6):=gA 53
def IP{f:Addr}{fd:FuncData}{n:Nat}(F:dG K "mapped" "MapSearch.mapped" u6 f fd)(T:Txt K mg)(O:Own K C)(D:Dm P w K mg base C n):cK P w K mg base dY (07+2*n) f fd ["self","atoms","given"] (zI P w K C n):=by
 rw[show 07+2*n=(6+2*n)+1 by lia];refine F.ok xO (λ_ _ _ _ h=>by cases h;subst_vars;rfl) 55;obtain⟨self,A,B,dx,pl,d,kvs,L,c,U,g,p,ys,rfl,ak,jM,lF,k1,k2⟩:=h;refine{_,(az (dR bG 9 (dH (cl D.parts_of hr (cu (pv 1) (pv 2)) ∅)) (fZ 3 xO) (az (dE 2 xO (Tx O.c D.JW hr (pv 0) (cu (pv 3) (pv 2)) ∅)) (aQ (df (b5 FU (pv 2) jz (cx _)) (aQ (bK jz)) cy)))) (aQ (bK (pv 2)))),?_}
 obtain⟨po1,SV,SU,po4⟩:=aI.EN p [] [] .nil 59 59 59;rw[jP]at SU;have l8:=br ak.ln ak.n8;refine{_,9,_,9,pl,d,ys,p,g,9,jM,lF,8,ak.fp,ak.hd,λq Bn H1 s1 hq Mn Eg=>?_};generalize agJ:aI.partsOf bh g p=ps at Eg;have agI:p.foldl (aI.pE bh g) []=ps:=agJ;rw[agI]at po1 SV SU po4;have RX:=ak.va.same s1;have lps:ps.length<=08:=by
  have:∀l:List (List aI.Atom),(∀q∈l,q≠[])->l.length<=(l.map List.length).sum:=by
   intro l
   induction l with
   |nil=>intro _;simp
   |cons x r ih=>
    intro h;have h1:x.length≠0:=λe=>h x aF (dC.mp e);have h2:=ih λq hq=>h q (aG _ hq);rw[bt,jU,bE];lia
  have:=this ps po4;lia
 refine{q,rfl,{_,bf.of Mn},gF (xs:=Bn) (λi Z H2=>∃(di:Addr)(gi:cV)(x3:Aao),Z=[some (.ref self),some (.ref pl),some (.ref di),x3]/\i<=ps.length/\SB B H1 H2/\hU P w K H2 B L (c+((ps.take i).map λp=>tn p.length).sum)/\H2 di=some (.dK (gK gi))/\di≠B/\(∀q∈gi,PyData.strOk q.2=true)/\aI.Got bh L g gi (ps.take i).flatten)
  {d,g,_,9,aO _,SB.refl B H1,by simpa using RX,s1 _ _ ak.hd,ak.dB,ak.fg,aI.Got.nil ak.nd} ?_ ?_ ?_}
 ·rintro i Z H2 hi ⟨di,gi,_,rfl,_,FH,_⟩;exact KD (bf.of Mn) FH RX.Ka
 ·rintro i x Z H2 hx ⟨di,gi,_,rfl,hi,FH,Yd,hd2,dB2,fg2,got⟩;obtain⟨pi,Ga,l,Py,rfl,hl,zd⟩:=Paired.at' Eg hx;have bQ:=(aq.mp Ga).1;have mpi:=aA Ga;have VS:=λb hb=>by simpa using(SV b).mpr ⟨pi,mpi,hb⟩
  have e1:((ps.take (i+1)).map λp=>tn p.length).sum=((ps.take i).map λp=>tn p.length).sum+tn pi.length:=by rw[bq,Ga,aE,rL];simp
  have e2:(ps.take (i+1)).flatten=(ps.take i).flatten++pi:=by rw[bq,Ga,List.flatten_append];simp
  have le1:((ps.take (i+1)).map λp=>tn p.length).sum<=tn p.length:=br (Kx _ _) (br (Ks ps) (rH (by rw[SU])));have Za:pi.length<=p.length:=by rw[<-SU];exact Ab (aD.mpr ⟨pi,mpi,rfl⟩)
  have uu:=λu hu=>ak.pU u (by
   obtain⟨b,hb,h⟩:=aI.cN.mp hu;exact aI.cN.mpr {b,VS b hb,h})
  have gk:=λu hu=>((got.ks u).mp hu).imp id λh=>by obtain⟨b,hb,h⟩:=aI.cN.mp h;obtain⟨r,hr,hb⟩:=ik.mp hb;exact aI.cN.mpr {b,by simpa using(SV b).mpr {r,iJ hr,hb},h}
  have ask:Ask P w K C H2 self A B dx kvs L (c+((ps.take i).map λp=>tn p.length).sum) U di gi pi n:=
   {(ak.se.same s1).sb RX FH,Yd,ak.lL,ak.fL,λb hb=>ak.fp b (VS b hb),br Za ak.ln,ak.n8,by have:=ak.lc;lia,hd2,dB2,got.nd,λu hu=>(gk u hu).elim (ak.gu u) λh=>(aI.cN.mp h).elim λb h=>h.2.2,fg2,λu hu=>(gk u hu).elim (ak.gU u) (ak.pU u),uu,ak.lU}
  refine{_,9,self,dx,_,9,ask.se.ins,9,_,9,_,9,self,A,B,dx,l,di,kvs,L,_,U,gi,pi,Py,9,ask,bf.of (FH _ _ (λe=>RX.Ka Py (.inl (e▸hl))) hl),zd.tp (FH.tp RX.oS),po4 pi mpi,λH3 sb3 va3 nc=>?_,λH3 d3 g3 sb3 va3 Pl dB3 fg3 ag4=>?_}
  ·refine{_,9,9,_,9,nr ?_};refine k1 H3 ((SB.same s1).trans (FH.trans sb3)) (va3.mono ∅) (aI.TJ got (λu hu hq=>?_) nc VS);obtain⟨b,hb,h⟩:=aI.cN.mp hq;obtain⟨r,hr,hb⟩:=ik.mp hb;obtain⟨j,hj⟩:=eJ.mp hr;have hji:j<i:=by have:=(aq.mp hj).1;rw[aZ]at this;lia
   have Jh:ps[j]?=some r:=by rw[CU,aK hji]at hj;exact hj
   have ap:=nG.mp po1 j i ∅ bQ hji;rw[(aq.mp Jh).2,(aq.mp Ga).2]at ap;exact ap u (aI.cN.mpr ⟨b,hb,h⟩) hu
  ·refine{_,9,9,_,9,fU ?_};refine{d3,g3,_,9,bQ,FH.trans sb3,?_,Pl,dB3,fg3,?_}
   ·rw[e1,<-uE];exact va3
   ·rw[e2];exact got.trans got.nd ag4
 ·rintro Z H2 ⟨di,gi,_,rfl,_,FH,Yd,hd2,dB2,fg2,got⟩;rw[(bb Eg),aT]at Yd got;have le2:=Ks ps;rw[SU]at le2;refine{_,9,k2 H2 di gi ((SB.same s1).trans FH) (Yd.mono ∅) hd2 dB2 fg2 (got.perm λb=>?_)};rw[ik];exact{λ⟨r,hr,hb⟩=>by simpa using(SV b).mpr ⟨r,hr,hb⟩,λhb=>(SV b).mp (by simpa using hb)}
def aaY{X:Cx}{tg l:Expr}{tl:TE}(hl:PE X l tl)(h:X.K=K:=by rfl):PI X tg l (ads K tl):=h▸ir hl
def Hq{H H':Hp}{ys:Aan}{ms:List 710}(h:Ih K H ys ms)(s:aJ H H'):Ih K H' ys ms:=by
 induction h with
 |nil=>exact .nil
 |cons h _ ih=>
  obtain⟨q,e,hq⟩:=h;exact .cons {q,e,fT hq s} ih
abbrev RR(K:Frag)(H:Hp)(L:List aI.Atom)(g:cV):Aan->List aI.Atom->Prop:=Paired λ(v:V)(a:aI.Atom)=>∃l mV qq,v=.ref l/\H l=some (.lst mV)/\fA K H mV qq/\qq.length<=L.length/\(∀zs∈qq,(a.1,zs)∈L)/\∀h,aI.iz g h->(a.1,a.2.map (aI.ap bh h))∈L->a.2.map (aI.ap bh h)∈qq
def CJ{H H':Hp}{L:List aI.Atom}{g:cV}{ys:Aan}{p:List aI.Atom}(h:RR K H L g ys p)(s:aJ H H'):RR K H' L g ys p:=by
 induction h with
 |nil=>exact .nil
 |cons h _ ih=>
  obtain⟨l,mV,qq,e,h1,h2,h3⟩:=h;exact .cons {l,mV,qq,e,s _ _ h1,lV h2 (dc.same s),h3} ih
def Vs{H:Hp}{L:List aI.Atom}{g:cV}{ys:Aan}{p:List aI.Atom}(h:RR K H L g ys p):∃jS:List Int,jS.length=p.length/\∀(i:Nat) l mV,ys[i]?=some 727->H l=some (.lst mV)->jS[i]?=some (mV.length:Int):=by
 induction h with
 |nil=>exact{[],9,λi l mV e=>by simp at e}
 |cons h _ ih=>
  obtain⟨l,mV,qq,rfl,h1,_⟩:=h;obtain⟨jS,e1,e2⟩:=ih;refine{(mV.length:Int)::jS,by rw[bE,bE,e1],λi l' V8 e h=>?_};cases i with
  |zero=>
   cases e;rw[h1]at h;cases h;rfl
  |succ i=>exact e2 i l' V8 (by simpa using e) h
theorem EY{m:Int}:∀{l:List Int},m∈l->∃j:Nat,l[j]?=some m/\∀i,i<j->l[i]?≠some m
 |[],h=>by cases h
 |x::l,h=>by
  by_cases c:x=m
  ·exact{0,by rw[c];rfl,λi hi=>absurd hi (fK _)}
  ·have h':=(aN.mp h).elim (λe=>absurd e.symm c) id;obtain⟨j,h1,h2⟩:=EY h';refine{j+1,by simpa using h1,λi hi=>?_};cases i with
   |zero=>exactλe=>c (by simpa using e)
   |succ i=>simpa using h2 i ∅
def Ni{xs:Aan}{j:Nat}:lD xs none (some (j:Int))=xs.take j:=by
 unfold lD;rw[HT.zS,HT.Dd,sY,CP];by_cases h:j<=xs.length
 ·rw[k7 h]
 ·rw[qj ∅,aT,cU ∅]
def Nh{xs:Aan}{j:Nat}:lD xs (some (j:Int)) none=xs.drop j:=by
 unfold lD;rw[HT.Dd,HT.zS];by_cases h:j<=xs.length
 ·rw[k7 h];exact cU (by rw[dD];lia)
 ·rw[qj ∅,wF,mh,jr ∅]
def vS(h:q none H):Ol Z H q:=h
theorem xX{α β:Type}{R:α->β->Prop}:∀{xs:List α}{ys:List β}(j:Nat),Paired R xs ys->Paired R (xs.take j) (ys.take j)
 |_,_,_,.nil=>by simp only[List.take_nil];exact .nil
 |_,_,0,.cons _ _=>by simp only[mh];exact .nil
 |_,_,j+1,.cons a r=>by simp only[Bg];exact .cons a (xX j r)
theorem xY{α β:Type}{R:α->β->Prop}:∀{xs:List α}{ys:List β}(j:Nat),Paired R xs ys->Paired R (xs.drop j) (ys.drop j)
 |_,_,_,.nil=>by simp only[List.drop_nil];exact .nil
 |_,_,0,.cons a r=>by simp only[sY];exact .cons a r
 |_,_,j+1,.cons a r=>by simp only[List.drop_succ_cons];exact xY j r
theorem wa:∀{ts as:Aag}{g g':cV},aI.fit bh g ts as=some g'->∀q∈g',q∈g\/q.2∈as
 |[],[],g,g',h,q,hq=>by cases h;exact .inl hq
 |[],_::_,g,g',h,q,hq=>by cases h
 |_::_,[],g,g',h,q,hq=>by cases h
 |t::ts,a::as,g,g',h,q,hq=>by
  unfold aI.fit at h;split at h
  ·split at h
   ·split at h
    ·exact(wa h q hq).imp id λh=>aG _ h
    ·cases h
   ·rcases wa h q hq with h|h
    ·rcases aS.mp h with h|h
     ·exact .inl h
     ·rw[ay.mp h];exact .inr aF
    ·exact .inr (aG _ h)
  ·split at h
   ·exact(wa h q hq).imp id λh=>aG _ h
   ·cases h
def gB:bZ ["self","part","given","key","aims","counts","place","aim","way","whole"] ["self","part","given"] (defScope nv):=gA 53
def Hm{f:Addr}{fd:FuncData}{n:Nat}(F:dG K "mapped_part" "MapSearch.mapped_part" nv f fd)(T:Txt K mg)(O:Own K C)(D:Dq P w K mg base C n):cK P w K mg base dY (6+2*(n+1)) f fd ["self","part","given"] (KN P w K C (n+1)):=by
 rw[show 6+2*(n+1)=(07+2*n)+1 by lia];refine F.ok gB (λ_ _ _ _ h=>by cases h;subst_vars;rfl) 55;obtain⟨self,A,B,dx,pl,d,kvs,L,c,U,g,p,ys,rfl,ak,jM,lF,gC,k1,k2⟩:=h;have cC:=O.c;have hu:=oZ hr;have hN:=Q9 hr;refine{_,(az (dE 3 gB (dX (cu (cQ d8 9 T.iw 53 719) (cQ d8 9 T.iw 53 (bX (vQ 9 (o7 (more:=["terms"]) (fs:=["given"]) (fr:=[2])) (dH (pv 1)) (λ_ _ _ _=>(vk (n:=2) 9 694)) (λ_ _ _ _=>(cQ (HW) 9 T.iw 53 (bX (kU 9 (c9 (fs:=["given"]) (fr:=[2])) (aaY (pv 1)) (λ_ _ _ _=>(Wu hu (pv 1) (pv 0) afS)))))))))))) (az (df (b5 (acS hN) (pv 3) (yO (pv 0) 9) 649) (aQ (bK jz)) cy) (az (oP (j:=4) gB.nd 9 9 9 (c9 (fs:=["self","given"]) (fr:=[0,2])) (dH (pv 1)) (λ_ _ _ _=>(Tx cC D.BU hr (pv 1) (cu (pv 0) (pv 2)) ∅))) (az (oP (j:=5) gB.nd 9 9 9 678 (dH (pv 4)) (λ_ _ _ _=>(bN (xw) 9 T.eT bH 718))) (az (dE 6 gB (jk bR wQ wO IV (pv 5) (bX (bN (JB 9) 9 T.Y3 53 (bX (pv 5)))))) (az (dR bG 9 (dH (bF eF (pv 4) (pv 6) (λ_ _=>9))) (fZ 07 gB) (az (dE 08 gB (cl D.fitted hr (iZ (pv 2) (bF bY (bF eF (pv 1) (pv 6) (λ_ _=>9)) aM (λ_ _=>9)) (pv 07)) ∅)) (az (dE 09 gB (EM (b5 FU (pv 08) jz (cx _)) jz (Tx cC D.vX hr (pv 0) (cu (cW vR (mJ yI (pv 1) oR (oQ (pv 6))) (mJ yI (pv 1) (oQ (cW i9 (pv 6) aM)) oR)) (pv 08)) ∅))) (aQ (df (b5 Hk (pv 09) jz (cx _)) (aQ (bK (pv 09))) cy))))) (az (EL hN (yO (pv 0) 9) (pv 3) gf 9) (aQ (bK jz))))))))),?_}
 have l8:=br ak.ln ak.n8;have LP:=bb lF
 let mem:List 710:=p.map λa=>a.2.map (aI.get g)
 refine{_,9,pl,ys,9,.inl {jM,λt1 B6=>?_}};have s1:aJ H (upd H t1 (.tup ys)):=aB B6 _;have Jm:aY K (upd H t1 (.tup ys)) t1 ys:=aY.of au;generalize (upd H t1 (.tup ys))=H1 at s1 Jm⊢;refine{_,9,pl,9,{_,iY jM s1},GB (xs:=ys) (λi zs H2=>aJ H1 H2/\i<=p.length/\Ih K H2 zs ((p.take i).map λa=>a.2.map (aI.get g))) (bu ∅) {aJ.refl _,aO _,.nil} ?_ ?_ ?_}
 ·rintro i zs H2 hi ⟨s2,my,hm⟩;refine{iY jM (s1.trans s2),?_};rw[bb hm,ah,aZ];lia
 ·rintro i x zs H2 N hx ⟨s2,my,hm⟩ pQ;obtain⟨a,ha,B3⟩:=Paired.at' lF hx;have bQ:=(aq.mp ha).1;obtain⟨ab,ac,rfl,v7,qz⟩:=B3.same (s1.trans s2);have lt:(a.2.map V.str).length=a.2.length:=ah _;have fa:=(ak.fp a (aA ha)).1;refine{ab,_,_,9,v7,yK ?_};refine{_,9,ac,9,⟨_,qz⟩,mN (λj us H3=>H3=H2/\j<=a.2.length/\us=((a.2.take j).map (aI.get g)).map YQ) (by rw[lt];exact bu ∅) {9,aO _,9} ?_ ?_ ?_}
  ·rintro j us H3 hj ⟨rfl,zc,rfl⟩;refine{qz,?_};rw[ah,ah,aZ];lia
  ·rintro j y us H3 M hy ⟨rfl,zc,rfl⟩ hM;obtain⟨z,hz,rfl⟩:=iN hy;have lJ:=(aq.mp hz).1;refine{_,9,d,9,.inl {_,.inl (s2 _ _ (s1 _ _ ak.hd))},_,9,_,kS.k (k:=Sum.inr z) (s2 _ _ (s1 _ _ ak.hd)),?_};have e1:(iC (gK g) (Sum.inr z:Key)).getD .cz=YQ (aI.get g z):=by rw[qH];cases aI.get g z<;>rfl
   rw[e1];refine hM _ _ {9,lJ,?_};rw[bq,hz,aE,aE];rfl
  ·rintro us H3 ⟨rfl,_,rfl⟩ l hl;rw[lt,aT];refine{l,_,9,.inl {bf.of au,λt ht=>pQ _ _ {s2.trans ((aB hl _).trans (aB ht _)),bQ,?_}}};rw[bq,ha,aE];exact fC (Hq hm ((aB hl _).trans (aB ht _))) (.cons {t,9,aY.of au} .nil)
 rintro zs H2 ⟨s2,_,hm⟩ l2 f9;rw[LP,aT]at hm;refine{l2,_,9,.inl {bf.of au,λt2 iR=>?_}};have s3:aJ H1 (upd (upd H2 l2 702) t2 (.tup zs)):=s2.trans ((aB f9 _).trans (aB iR _));have h32:aY K (upd (upd H2 l2 702) t2 (.tup zs)) t2 zs:=aY.of au;have hm3:Ih K (upd (upd H2 l2 702) t2 (.tup zs)) zs mem:=Hq hm ((aB f9 _).trans (aB iR _));generalize (upd (upd H2 l2 702) t2 (.tup zs))=H3 at s3 h32 hm3⊢;refine{96,λkt ZC=>?_};have s4:aJ H (upd H3 kt (.tup [.ref t1,.ref t2])):=s1.trans (s3.trans (aB ZC _));have WW:=T3 (aY.of au) (fT Jm (s3.trans (aB ZC _))) (fT h32 (aB ZC _)) (lF.same s4) (Hq hm3 (aB ZC _)) ak.fp λr hr z hz=>by obtain⟨a,_,rfl⟩:=aD.mp hr;obtain⟨t,_,e⟩:=aD.mp hz;exact ak.fg _ (aI.get_some e)
 generalize (upd H3 kt (.tup [.ref t1,.ref t2]))=H4 at s4 WW⊢;have se4:=ak.se.same s4;have va4:=ak.va.same s4;obtain⟨vkv,v1,v2,v3⟩:=id va4;refine{_,9,_,9,self,C,dx,_,_,9,se4.ins,O.c,O.vain,9,B,kt,vkv,uv p mem,9,9,v1,WW,_,9,?_};refine dS (λcc=>?_) (λcc=>?_)
 ·have cc:=cc;obtain⟨q,hq,eq⟩:=OY.mpr cc;obtain⟨p',m',e',hv⟩:=v3 q hq;obtain⟨rfl,rfl⟩:=VH (eq.symm.trans e');exact k1 H4 (SB.same s4) (va4.mono (eC _ _)) (hv g ak.nd 9)
 have adJ:=iY jM s4;have adA:=lF.same s4;refine{_,9,pl,9,⟨_,adJ⟩,iS (xs:=ys) (λi zs H5=>aJ H4 H5/\i<=p.length/\RR K H5 L g zs (p.take i)) (bu ∅) {aJ.refl _,aO _,.nil} ?_ ?_ ?_}
 ·rintro i zs H5 hi ⟨s5,my,hm⟩;refine{iY adJ s5,?_};rw[bb hm,aZ];lia
 ·rintro i x zs H5 N hx ⟨s5,my,hm⟩ pQ;obtain⟨a,ha,B3⟩:=Paired.at' adA hx;have bQ:=(aq.mp ha).1;have KW:=se4.same s5;refine{_,rfl,self,dx,_,rfl,KW.ins,rfl,_,rfl,_,rfl,self,A,B,dx,d,kvs,L,x,a,g,rfl,KW,B3.same s5,ak.fp a (aA ha),ak.fL,by have:=ak.lL;lia,s5 _ _ (s4 _ _ ak.hd),ak.nd,ak.gu,ak.fg,λl mV qq H6 s6 rX B8 hr h1 h2 h3=>pQ _ _ {s5.trans s6,bQ,?_}};rw[bq,ha];exact fC (CJ hm s6) (.cons ⟨l,mV,qq,rfl,B8,hr,h1,h2,h3⟩ .nil)
 rintro cR H5 ⟨s5,_,hm⟩ al nA;rw[LP,aT]at hm;have s6:aJ H4 (upd H5 al (.lst cR)):=s5.trans (aB nA _);have Q8:upd H5 al (.lst cR) al=some (.lst cR):=au;have Uu:=CJ hm (aB nA (.lst cR));generalize (upd H5 al (.lst cR))=H6 at s6 Q8 Uu⊢;have lav:=bb Uu;obtain⟨jS,QZ,e6⟩:=Vs Uu;refine{_,9,al,9,{_,bf.of Q8},iS (xs:=cR) (λi zs H7=>H7=H6/\i<=p.length/\zs=(jS.take i).map V.int) (bu ∅) {9,aO _,9} ?_ ?_ ?_}
 ·rintro i zs H7 hi ⟨rfl,my,rfl⟩;refine{bf.of Q8,?_};rw[ah,aZ];lia
 ·rintro i x zs H7 N hx ⟨rfl,my,rfl⟩ pQ;obtain⟨a,ha,l,mV,qq,rfl,hl,hr,_⟩:=Paired.at' Uu hx;have bQ:=(aq.mp ha).1;refine{_,9,_,_,9,.inl {_,bf.of hl,9},pQ _ _ {9,bQ,?_}};rw[bq,e6 i l mV hx hl,aE];rfl
 rintro cvs H7 ⟨e7,_,rfl⟩ cl lX;rw[e7]at lX⊢;rw[lav,cU ∅];have s7:aJ H6 (upd H6 cl (.lst (jS.map V.int))):=aB lX _;have Q3:upd H6 cl (.lst (jS.map V.int)) cl=some (.lst (jS.map V.int)):=au;generalize (upd H6 cl (.lst (jS.map V.int)))=H7 at s7 Q3⊢;refine{_,9,.inl {9,_,bf.of Q3},_,9,cl,jS,9,bf.of Q3,?_,λm hm agO=>?_}
 ·rw[QZ];exact Bi.mpr gC
 obtain⟨j,hj,za⟩:=EY hm;refine{cl,jS,m,j,9,9,Q3,hj,za,?_};have hjp:j<p.length:=by have:=(aq.mp hj).1;lia
 have s47:=s6.trans s7;have hm7:=CJ Uu s7;have agY:=s7 _ _ Q8;obtain⟨va,Uj,haj⟩:∃va,cR[j]?=some va/\True:={_,av ∅,trivial};obtain⟨a,ha,al_,mV,qq,rfl,Mj,F8,lz,snd,cmp⟩:=Paired.at' hm7 Uj;obtain⟨vy,hvy⟩:∃vy,ys[j]?=some vy:={_,av ∅};obtain⟨a',ZL,hya⟩:=Paired.at' adA hvy;rw[ha]at ZL;cases ZL;obtain⟨ab,ac,rfl,v7,qz⟩:=hya.same s47;have K1:=s4.trans s47;have Kl:=ak.va.same K1;have Sv:=ak.se.same K1
 let rest:List aI.Atom:=p.take j++p.drop (j+1)
 have Y9:rest.length+1=p.length:=by rw[aC,aZ,dD];lia
 have pm:∀b,b∈p↔b=a\/b∈rest:=λb=>by
  have e:p=p.take j++a::p.drop (j+1):=by
   conv=>lhs;rw[<-jO j p]
   rw[gh hjp,(aq.mp ha).2]
  conv=>lhs;rw[e]
  show b∈p.take j++a::p.drop (j+1)↔b=a\/b∈p.take j++p.drop (j+1);simp only[aS,aN];exact{681,681}
 have fa:=ak.fp a (aA ha);have tnp:tn p.length=08*tn rest.length+1:=by rw[<-Y9];rfl
 refine{_,rfl,_,rfl,_,_,_,_,rfl,rfl,bf.of agY,gW Uj,al_,rfl,{_,bf.of Mj},gF (xs:=mV) (λi Z H8=>∃x7 x8 x9:Aao,Z=[some (.ref self),some (.ref pl),some 700,some (.ref kt),some (.ref al),some (.ref cl),some (.int j),x7,x8,x9]/\i<=qq.length/\SB B H7 H8/\hU P w K H8 B L (c+i*tn rest.length)/\∀row∈qq.take i,∀way,aI.fit bh g a.2 row=some way->¬aI.rR bh L way rest)
  {_,_,_,9,aO _,SB.refl _ _,by simpa using Kl,λrow h=>by simp at h} ?_ ?_ ?_}
 ·rintro i Z H8 hi ⟨_,_,_,rfl,_,AS,_⟩;exact KD (bf.of Mj) AS Kl.Ka
 ·rintro i x Z H8 hx ⟨_,_,_,rfl,hi,AS,RW,FW⟩;obtain⟨row,lC,ra,rfl,F9⟩:=Paired.at' F8 hx;have bQ:=(aq.mp lC).1;have Yi:=AS.tp Kl.oS;have QF:=snd row (aA lC);have adX:=ak.fL _ QF;have adI:=KD (iY jM K1) AS Kl.Ka;have lg:g.length<=1000:=by have:=jL ak.nd ak.gU;have h2:=ak.lU;unfold keys at this;rw[ah]at this;lia
  have Yp:∀σ' H9,SB B H7 H9->hU P w K H9 B L (c+(i+1)*tn rest.length)->(∀way,aI.fit bh g a.2 row=some way->¬aI.rR bh L way rest)->(∃x7 x8 x9:Aao,σ'=[some (.ref self),some (.ref pl),some 700,some (.ref kt),some (.ref al),some (.ref cl),some (.int j),x7,x8,x9])->
    ∃x7 x8 x9:Aao,σ'=[some (.ref self),some (.ref pl),some 700,some (.ref kt),some (.ref al),some (.ref cl),some (.int j),x7,x8,x9]/\i+1<=qq.length/\SB B H7 H9/\hU P w K H9 B L (c+(i+1)*tn rest.length)/\∀row∈qq.take (i+1),∀way,aI.fit bh g a.2 row=some way->¬aI.rR bh L way rest:=λσ' H9 Yz va9 no9 ⟨x7,x8,x9,e⟩=>{x7,x8,x9,e,bQ,Yz,va9,λr hr=>by
   rw[bq,lC]at hr;rcases aS.mp hr with hr|hr
   ·exact FW r hr
   ·have:r=row:=by simpa using hr
    rw[this];exact no9}
  refine{_,rfl,_,rfl,_,rfl,_,_,_,_,rfl,rfl,adI,gW hvy,_,_,_,_,rfl,rfl,gY v7 Yi,rfl,_,rfl,d,ac,ra,g,a.2,row,rfl,(AS _ _ ak.dB (K1 _ _ ak.hd)),lg,ak.nd,gY qz Yi,gY F9 Yi,by have:=fa.1;lia,by have:=adX.1;exact br this 7,λz hz=>br (fa.2.2 z hz).1 7,λH9 s9 e9=>?_,λwp g9 H9 s9 hw0 hw9 e9=>?_}
  ·refine{_,9,9,_,9,nr ?_};exact{_,9,9,_,9,fU (Yp _ H9 (AS.trans (SB.same s9)) ((RW.same s9).mono (by rw[tM];lia)) (λway hw=>by rw[e9]at hw;cases hw) ⟨_,_,_,rfl⟩)}
  ·refine{_,9,9,_,9,fU ?_};have Xh:=aI.HM ak.nd e9 QF;have Yz:=AS.trans (SB.same s9);have se9:=(Sv.sb Kl AS).same s9;have wB:wp≠B:=λe=>by obtain⟨kv,h1,_⟩:=RW;obtain⟨u,hu⟩:=h1.some;rw[e,hu]at hw0;cases hw0
   have adH:=iY adI s9;refine{_,9,self,dx,_,9,se9.ins,9,_,9,vS {_,9,_,9,pl,ys,9,adH,λc1 Pm=>?_}};rw[Ni];have kL:aJ H9 (upd H9 c1 (.lst (ys.take j))):=aB Pm _;have Jn:upd H9 c1 (.lst (ys.take j)) c1=some (.lst (ys.take j)):=au;generalize (upd H9 c1 (.lst (ys.take j)))=hV at kL Jn⊢;refine{_,9,_,9,_,_,9,9,_,9,vS {pl,ys,9,iY adH kL,λc2 ub=>?_}};rw[show((j:Int)+1)=((j+1:Nat):Int)from rfl,Nh];have qP:aJ hV (upd hV c2 725):=aB ub _;have Jm:upd hV c2 725 c2=some 725:=au;generalize (upd hV c2 725)=mC at qP Jm⊢;refine{c1,c2,_,_,9,9,qP _ _ Jn,Jm,by rw[aZ,dD,bW];lia,λc3 hc3=>?_};have vO:aJ mC (upd mC c3 670):=aB hc3 _;have UP:upd mC c3 670 c3=some 670:=au;generalize (upd mC c3 670)=uY at vO UP⊢;have Ha:=kL.trans (qP.trans vO);have ur:∀u,u∈aI.ju bh rest->u∈aI.ju bh p:=λu hu=>by obtain⟨b,hb,h⟩:=aI.cN.mp hu;exact aI.cN.mpr {b,(pm b).mpr (.inr hb),h}
   have ua:∀u,u∈aI.ju bh [a]->u∈aI.ju bh p:=λu hu=>by obtain⟨b,hb,h⟩:=aI.cN.mp hu;exact aI.cN.mpr {b,(pm b).mpr (.inl (ay.mp hb)),h}
   have mi:(i+1)*tn rest.length<=08*tn rest.length:=AA _ (by have:=ak.lL;lia);have mi2:(i+1)*tn rest.length=i*tn rest.length+tn rest.length:=by rw[tM,Nat.one_mul]
   have ask:Ask P w K C uY self A B dx kvs L (c+i*tn rest.length) U wp g9 rest n:=
    {se9.same Ha,(RW.same s9).same Ha,ak.lL,ak.fL,λb hb=>ak.fp b ((pm b).mpr (.inr hb)),by have:=ak.ln;lia,by have:=ak.n8;lia,by have:=ak.lc;lia,Ha _ _ hw9,wB,Xh.nd,λu hu=>((Xh.ks u).mp hu).elim (ak.gu u) λh=>(aI.cN.mp h).elim λb h=>h.2.2,λq hq=>(wa e9 q hq).elim (ak.fg q) λh=>(adX.2.2 _ h).2,λu hu=>((Xh.ks u).mp hu).elim (ak.gU u) λh=>ak.pU u (ua u h),λu hu=>ak.pU u (ur u hu),ak.lU}
   refine{_,9,self,A,B,dx,c3,wp,kvs,L,_,U,g9,rest,_,9,ask,bf.of UP,?_,λqD V5 VG nc=>?_,λqD d13 g13 V5 VG agX ahc ag6 ae8=>?_}
   ·have Md:=((lF.same K1).tp (Yi.trans (dc.same s9))).same Ha;exact fC (xX j Md) (xY (j+1) Md)
   ·refine{_,9,9,_,9,fU ?_};refine Yp _ qD (Yz.trans ((SB.same Ha).trans V5)) (VG.mono ∅) (λway hw=>?_) ⟨_,_,_,rfl⟩;rw[e9]at hw;cases hw;exact nc
   ·refine{_,9,9,_,9,nr ?_};exact{_,9,k2 qD d13 g13 ((SB.same K1).trans (Yz.trans ((SB.same Ha).trans V5))) (VG.mono ∅) agX ahc ag6 (aI.S5 ak.nd e9 QF ae8 pm)}
 ·rintro Z H8 ⟨_,_,_,rfl,_,AS,RW,FW⟩;rw[(bb F8),aT]at FW;have nc:=aI.IM ak.nd cmp FW pm;have adm:=oV (oV WW (dc.same s47)) (AS.tp Kl.oS);obtain⟨kv8,w1,w2,w3⟩:=RW;have mi:mV.length*tn rest.length<=08*tn rest.length:=AA _ (by have:=ak.lL;lia);have lc:=ak.lc;exact{_,9,self,C,dx,_,_,9,(Sv.sb Kl AS).ins,O.c,O.vain,9,_,9,B,kt,kv8,uv p mem,9,9,w1,adm,8,k1 _ ((SB.same K1).trans (AS.trans SB.upd)) ((hU.put w1 w2 w3 adm (aI.aav ak.nd nc)).mono ∅) nc}
def step(acc:Aag)(t:Str):Aag:=if bh t=true then(if t∈acc then acc else acc++[t])else acc
def fh(fl:Aag):Aag:=fl.foldl step []
def WR(acc:Aag)(t:Str):(step acc t).length<=acc.length+1:=by
 unfold step;split
 ·split
  ·lia
  ·rw[aC];exact aw _
 ·lia
theorem LS:∀(fl acc:Aag),(fl.foldl step acc).length<=acc.length+fl.length
 |[],acc=>by simp
 |t::r,acc=>by have h1:=LS r (step acc t);have h2:=WR acc t;rw[gQ,bE];lia
def yU(fl:Aag):(fh fl).length<=fl.length:=by have:=LS fl [];simpa[fh]using this
def VJ(fl:Aag)(t:Str):fh (fl++[t])=step (fh fl) t:=by unfold fh;rw[pG];rfl
def qZ(acc:Aag):List (Key×V):=acc.map λt=>(Sum.inr t,V.bl true)
def any_keys(acc:Aag)(t:Str):((qZ acc).any λkv=>decide (kv.1=(Sum.inr t:Key)))=decide (t∈acc):=by
 unfold qZ;rw[ml,fb,il];constructor
 ·rintro⟨x,hx,e⟩;have e':=aR e;injection e' with e';exact bj (e'▸hx)
 ·intro h;exact{t,aR h,bj rfl}
def We(acc:Aag)(t:Str):putK (qZ acc) (Sum.inr t:Key) (V.bl true)=qZ (if t∈acc then acc else acc++[t]):=by
 unfold putK;rw[any_keys];by_cases h:t∈acc
 ·rw[bj h,aK rfl,aK h];unfold qZ;rw[cw];refine b8 λx _=>?_;show(if(Sum.inr x:Key)=Sum.inr t then((Sum.inr x:Key),V.bl true)else(Sum.inr x,V.bl true))=_;split<;>rfl
 ·rw[cA h,aH bD,aH h];unfold qZ;rw[aE];rfl
def T1(acc:Aag):((qZ acc).map λkv=>kV kv.1)=acc.map V.str:=by unfold qZ;rw[cw];rfl
def b4(H H':Hp):Prop:=∀b xs,H b=some 664->H' b=some 664
def b4.trans(a:b4 H H1)(b:b4 H1 H2):b4 H H2:=λc xs h=>b c xs (a c xs h)
def b4.of{H H':Hp}(a:aJ H H'):b4 H H':=λc xs h=>a c _ h
def b4.refl(H:Hp):b4 H H:=λ_ _ h=>h
def b4.new(a:b4 H H1)(h:H1 p=none)(o:HO):b4 H (upd H1 p o):=λb xs q=>by rw[aL (bA (a b xs q) h)];exact a b xs q
def b4.lst(a:b4 H H1)(h:H1 p=some 682)(o:HO):b4 H (upd H1 p o):=λb xs q=>by rw[aL (QD (a b xs q) h λz=>by cases z)];exact a b xs q
def b4.ext(hf:H f=some 682)(a:Ext f H H1):b4 H H1:=λb xs q=>a b _ (QD q hf λz=>by cases z) q
def dJ.fk{K:Frag}(h:dJ K f H)(a:Ext f H H1):b4 H H1:=by obtain⟨_,_,_,hf⟩:=h;exact b4.ext hf a
def wJ(H:Hp)(v:V)(a:Str×Aag):Prop:=∃(p t:Addr),v=.ref p/\H p=some (.tup [.str a.1,.ref t])/\H t=some (.tup (a.2.map V.str))
abbrev dv(H:Hp):Aan->Hy->Prop:=Paired (wJ H)
def wJ.keep(a:b4 H H')(h:wJ H v b):wJ H' v b:=by obtain⟨p,t,e,h1,h2⟩:=h;exact{p,t,e,a _ _ h1,a _ _ h2}
def dv.keep(a:b4 H H')(h:dv H vs ba):dv H' vs ba:=Paired.imp' (λ_ _ q=>q.keep a) h
def PV(H:Hp)(v:V)(hz:Aag)(ba:Hy):Prop:=∃(q h a:Addr)(vs:Aan),v=.ref q/\H q=some (.tup [.ref h,.ref a])/\H h=some (.tup (hz.map V.str))/\H a=some (.tup vs)/\dv H vs ba
def PV.keep{H H':Hp}{v:V}{hz:Aag}{ba:Hy}(t:b4 H H')(x:PV H v hz ba):PV H' v hz ba:=by obtain⟨q,h,a,vs,e,h1,h2,h3,h4⟩:=x;exact{q,h,a,vs,e,t _ _ h1,t _ _ h2,t _ _ h3,dv.keep t h4}
def Paired.Yu(h:Paired F l₁ aab)(q:F a b):Paired F (l₁++[a]) (aab++[b]):=h.snoc q
theorem Paired.app{α β:Type}{F:α->β->Prop}:∀{l₁ m₁:List α}{aab m₂:List β},Paired F l₁ aab->Paired F m₁ m₂->Paired F (l₁++m₁) (aab++m₂)
 |_,_,_,_,.nil,h=>h
 |_,_,_,_,.cons a t,h=>.cons a (Paired.app t h)
theorem Paired.at:∀{l₁:List α}{aab:List β}{i:Nat}{x:α},Paired F l₁ aab->l₁[i]?=some x->∃y,aab[i]?=some y/\F x y
 |_,_,_,_,.nil,e=>by simp at e
 |_,_,0,_,.cons r _,e=>by simp at e;subst e;exact⟨_,rfl,r⟩
 |_,_,i+1,x,.cons _ t,e=>by obtain⟨y,h1,h2⟩:=Paired.at (i:=i) (x:=x) t (by simpa using e);exact{y,by simpa using h1,h2}
def bB(ba:Hy):Aag:=(ba.map (·.2)).flatten
def Rh(l:Hy)(a:Str×Aag):bB (l++[a])=bB l++a.2:=by unfold bB;simp
def mK{ba:Hy}(h:ba[i]?=some a):bB (ba.take (i+1))=bB 711++a.2:=by rw[bq,h];exact Rh _ _
def pZ{zs:Aag}(h0:0<=i)(h1:i<(zs.length:Int)):∃z,z∈zs/\sd 648 i=some (.str z):=by
 obtain⟨z,hz⟩:∃z,zs[i.toNat]?=some z:={_,av ∅};refine{z,aA hz,?_};have e:i=((i.toNat:Nat):Int):=by lia
 rw[e];exact gW (by rw[aX,hz];rfl)
theorem Ht:∀l:Hy,(∀a∈l,a.2.length<=4)->(bB l).length<=4*l.length
 |[],_=>aw _
 |a::r,q=>by have h1:=Ht r λts Jc=>q ts (aG _ Jc);have h2:=q a aF;show(a.2++bB r).length<=_;rw[aC,bE];lia
def ix{ba:Hy}{z:Str}:z∈bB ba↔∃a∈ba,z∈a.2:=by
 unfold bB;rw[ik];constructor
 ·rintro⟨l,h1,h2⟩;obtain⟨a,ha,rfl⟩:=aD.mp h1;exact⟨a,ha,h2⟩
 ·rintro⟨a,ha,h⟩;exact{a.2,bS ha,h}
def j7(z:Str):Str:=("?":Str)++z
def oK:Aag:=dW.map j7
end
inductive G4(K:Frag)(vs:Aan)(H:Hp)(Q:VK)(_x3:XK):Prop
 |mk (f nl ul vl:Addr) (kN us ws:Aag) (_:vs=[.ref f,.ref nl,.ref ul,.ref vl]) (_:dJ K f H) (_:(nl≠f/\ul≠f/\vl≠f)) (_:(H nl=some (.lst (kN.map V.str))/\1<=kN.length/\kN.length<=100)) (_:(H ul=some (.lst (us.map V.str))/\1<=us.length/\us.length<=100)) (_:(H vl=some (.lst (ws.map V.str))/\1<=ws.length/\ws.length<=100)) (_:∀(r:Addr)(a:Str×Aag)(H':Hp),dJ K f H'->Ext f H H'->wJ H' (.ref r) a->a.1∈kN->1<=a.2.length->a.2.length<=4->(∀z∈a.2,z∈us\/z∈ws)->Q (.ref r) H')
section
variable{P:Program}{w:World}{K:Frag}{mg:Aac}{base:Heap}
def aeU{i:Int}(h0:0<=i):∃n:Int,sd [V.int 2,V.int 1,V.int 3] (i % 3)=some (.int n)/\1<=n/\n<=4:=by
 have h1:=nL i (show(3:Int)≠0 by decide);have h2:=lh i (show(0:Int)<3 by decide);generalize i % 3=j at h1 h2;have c:j=0\/j=1\/j=2:=by lia
 rcases c with rfl|rfl|rfl
 ·exact{2,9,7,7}
 ·exact{1,9,7,7}
 ·exact{3,9,7,7}
def mv:bZ ["_law_feed_here","_law_names","_law_unknowns_here","_law_values","_law_at","_law_long","_law_terms_here","_law_k","_law_term"] ["_law_feed_here","_law_names","_law_unknowns_here","_law_values"] (defScope EH):=gA 53
def WJ{f:Addr}{fd:FuncData}(F:dG K "_law_atom" "_law_atom" EH f fd)(T:Txt K mg)(D:Dr P w K mg base):cK P w K mg base dY 2 f fd ["_law_feed_here","_law_names","_law_unknowns_here","_law_values"] (G4 K):=by
 refine F.ok mv (λ_ _ _ _ h=>by cases h;subst_vars;rfl) 55;obtain⟨fe,nl,ul,vl,kN,us,ws,rfl,hF,⟨tY,nul,D7⟩,⟨zb,Mq,Eh⟩,⟨B4,Mf,y0⟩,⟨F7,hv1,hv2⟩,k⟩:=h;have ln:(kN.map V.str).length=kN.length:=ah _;have lu:(us.map V.str).length=us.length:=ah _;have lv:(ws.map V.str).length=ws.length:=ah _;refine cut 3 (λZ H2=>∃(at' lg:Int)(x6 x7 x8:Aao),Z=[some (.ref fe),some (.ref nl),some (.ref ul),some (.ref vl),some (.int at'),some (.int lg),none,none,none]/\0<=at'/\at'<(kN.length:Int)/\1<=lg/\lg<=4/\dJ K fe H2/\Ext fe H H2)
  {_,(az (dE 6 mv (dM iu)) (az (dR bG 9 (og 9 T.sN (bX (pv 5))) (fZ 07 mv) (az (dE 08 mv (bF eF (pv 2) (cl D.dN hr (cu (pv 0) (bN cY 9 T.eT bH (bX (pv 2))))) (λ_ _=>9))) (az (df (b5 lO 650 aM (cx _)) (aQ (dE 08 mv (bF eF (pv 3) (cl D.dN hr (cu (pv 0) (bN cY 9 T.eT bH (bX (pv 3))))) (λ_ _=>9)))) cy) (aQ (gS (jk bR iI iH tZ (pv 6) (bX (pv 08)))))))) (aQ (bK (dX (cu (bF eF (pv 1) (pv 4) (λ_ _=>9)) (cQ d8 9 T.iw 53 (bX (pv 6))))))))),?_} (λt2 ht=>{_,(az (dE 4 mv (cl D.dN hr (cu (pv 0) (bN cY 9 T.eT bH 719)))) (az (dE 5 mv (bF eF (dM (iZ aM aM aM)) (cW pN (pv 4) aM) (λ_ _=>9))) (az (df (b5 lO 650 aM (cx _)) (aQ (dE 5 mv (cW i9 aM 650))) cy) ht))),λtl=>?_})
 ·rintro Z H2 ⟨at',lg,_,_,_,rfl,a0,a1,l0,l1,km,ko⟩;refine{409,λt ht=>?_};have nt:=km.pf ht;have Um:H t=none:=ko.none nt ht;refine{_,rfl,lg,rfl,by lia,by lia,Cm (lo:=0) (n:=lg.toNat)
   (λj Z H3=>∃(y7 y8:Aao)(ts:Aag),Z=[some (.ref fe),some (.ref nl),some (.ref ul),some (.ref vl),some (.int at'),some (.int lg),some (.ref t),y7,y8]/\dJ K fe H3/\Ext fe H H3/\H3 t=some (.lst (ts.map V.str))/\ts.length=j/\∀z∈ts,z∈us\/z∈ws)
   {none,none,[],9,km.new ht _,ko.new ht _,au,9,λz h=>by cases h} ?_ ?_}
  ·rintro j Z H3 hj ⟨y7,y8,ts,rfl,jW,kD,jB,bQ,Jc⟩;refine{_,9,_,9,_,9,_,_,9,.inl {_,bf.of (kD _ _ nul B4),9},fe,_,9,jW,8,8,λi4 H4 i0 i1 kY jX=>?_};have adZ:=kD.trans jX;obtain⟨z,hz,ev⟩:=pZ (zs:=us) i0 ∅;refine{_,_,_,_,9,9,bf.of (adZ _ _ nul B4),ev,?_};have B5:=jX _ _ nt jB;refine{_,9,fe,6,9,kY,7,7,λi5 H5 j0 j1 rl nE=>{9,_,9,?_}};have Ro:=adZ.trans nE;have Ee:=nE _ _ nt B5;refine dS 669 669
   ·refine{_,9,_,9,_,9,_,_,9,.inl {_,bf.of (Ro _ _ D7 F7),9},fe,_,9,rl,8,8,λi6 H6 k0 k1 rh kn=>?_};obtain⟨y,hy,ev6⟩:=pZ (zs:=ws) k0 ∅;have Mg:=kn _ _ nt Ee;refine{_,_,_,_,9,9,bf.of ((Ro.trans kn) _ _ D7 F7),ev6,?_};refine{_,9,.inl {9,_,bf.of Mg},_,9,_,_,_,9,9,Mg,665,?_};refine{_,_,ts++[y],9,rh.lst Mg nt _,(Ro.trans kn).own Um _,by rw[au,aE];rfl,by rw[aC,bQ];rfl,λz' h=>?_};rcases aS.mp h with q|q
    ·exact Jc z' q
    ·rw[ay.mp q];exact .inr hy
   ·refine{_,9,.inl {9,_,bf.of Ee},_,9,_,_,_,9,9,Ee,665,?_};refine{_,_,ts++[z],9,rl.lst Ee nt _,Ro.own Um _,by rw[au,aE];rfl,by rw[aC,bQ];rfl,λz' h=>?_};rcases aS.mp h with q|q
    ·exact Jc z' q
    ·rw[ay.mp q];exact .inl hz
  ·rintro Z H3 ⟨y7,y8,ts,rfl,jW,kD,jB,bQ,Jc⟩;obtain⟨z,hz,ev⟩:=pZ (zs:=kN) a0 ∅;refine{_,9,_,9,_,_,_,_,9,9,bf.of (kD _ _ tY zb),ev,?_};refine{_,9,t,_,9,.inl {bf.of jB,λtt mx=>?_}};refine{96,λap ZK=>?_};have hFa:=(jW.new mx (.tup (ts.map V.str))).new ZK (.tup [.str z,.ref tt]);have nta:tt≠ap:=λe=>by rw[<-e,au]at ZK;cases ZK
   exact k ap (z,ts) _ hFa ((kD.new mx _).new ZK _) {ap,tt,9,au,by rw[aL nta,au]} hz (by show 1<=ts.length;lia) (by show ts.length<=4;lia) Jc
 ·--at,long
  refine{_,9,_,9,_,_,9,.inl {_,bf.of zb,9},fe,_,9,hF,8,8,λi1 H1 a0 a1 zf xr=>?_};refine{675,689};obtain⟨lg,ev,l0,l1⟩:=aeU a0;refine{_,9,_,_,9,9,(by show(0:Int)<3;decide),_,_,_,_,9,9,bf.of au,ev,?_};have km:=zf.new hp (.lst [.int 2,.int 1,.int 3]);have ko:=xr.new hp (.lst [.int 2,.int 1,.int 3]);refine{_,9,fe,08,9,km,7,7,λi3 H3 c0 c1 jW kD=>{9,_,9,?_}};refine dS 669 669
  ·refine{_,9,fe,4,9,jW,7,7,λi4 H4 d0 d1 kY jX=>{_,_,9,9,?_}};exact tl _ _ {i1,_,none,none,none,9,a0,8,8,8,kY,(ko.trans kD).trans jX}
  ·exact tl _ _ {i1,lg,none,none,none,9,a0,8,l0,l1,jW,ko.trans kD}
inductive Ov(K:Frag)(vs:Aan)(H:Hp)(Q:VK)(_x3:XK):Prop
 |mk (f al:Addr) (cR:Aan) (ba:Hy) (_:vs=[.ref f,.ref al]) (_:dJ K f H) (_:al≠f) (_:H al=some (.lst cR)) (_:dv H cR ba) (_:1<=ba.length) (_:ba.length<=100) (_:(∀a∈ba,1<=a.2.length/\a.2.length<=4)) (_:∀(r:Addr)(hz:Aag)(H':Hp),dJ K f H'->Ext f H H'->H' r=some (.tup (hz.map V.str))->hz.length<=4->(∀z∈hz,z∈bB ba)->Q (.ref r) H')
def xh:bZ ["_law_feed_here","_law_atoms","_law_terms_here","_law_name","_law_some"] ["_law_feed_here","_law_atoms"] (defScope ED):=gA 53
theorem Xp:∀{ba:Hy},1<=ba.length->(∀a∈ba,1<=a.2.length/\a.2.length<=4)->1<=(bB ba).length
 |[],h,_=>absurd h 7
 |a::r,_,g=>by have:=(g a aF).1;show 1<=(a.2++bB r).length;rw[aC];lia
def WE{f:Addr}{fd:FuncData}(F:dG K "_law_head" "_law_head" ED f fd)(T:Txt K mg)(D:Dr P w K mg base):cK P w K mg base dY 2 f fd ["_law_feed_here","_law_atoms"] (Ov K):=by
 refine F.ok xh (λ_ _ _ _ h=>by cases h;subst_vars;rfl) 55;obtain⟨fe,al,cR,ba,rfl,hF,nal,nA,fN,lH,f9,hg,k⟩:=h;refine{_,(az (kx (i:=2) xh.nd 9 (Or.inr 9) (dM iu)) (az (dR bG 9 (dH (pv 1)) (jy 9 (b9 (fZ 3 xh) (b9 (fZ 4 xh) fQ))) (aQ (gS (jk bR eA d9 qV (pv 2) (bX (pv 4)))))) (aQ (bK (cQ d8 9 T.iw 53 (bX (kU 9 (c9 (fs:=["_law_terms_here","_law_feed_here"]) (fr:=[2,0])) (og 9 T.sN (bX 650)) (λ_ _ _ _=>(bF (Ag) (pv 1) (cl D.dN hr (cu (pv 2) (bN (xw) 9 T.eT bH 719))) (λ_ _=>9)))))))))),?_}
 refine{409,λt ht=>?_};have nt:=hF.pf ht;have fl:∀n,(bB (ba.take n)).length<=4*ba.length:=λn=>by
  have h1:=Ht (ba.take n) λa ha=>(hg a (iJ ha)).2;have h2:(ba.take n).length<=ba.length:=by rw[aZ];lia
  lia
 refine{_,rfl,al,rfl,{cR,bf.of (by rw[aL (bA nA ht)];exact nA)},gF
  (λi Z H2=>∃(x3 x4:Aao),Z=[some (.ref fe),some (.ref al),some (.ref t),x3,x4]/\dJ K fe H2/\Ext fe H H2/\H2 t=some (.lst ((bB 711).map V.str))) {none,none,9,hF.new ht _,(Ext.refl fe H).new ht _,au} (λi Z H2 _ hq=>by(obtain⟨_,_,_,_,ex,_⟩:=hq;exact bf.of (ex _ _ nal nA))) ?_ ?_}
 ·rintro i x Z H2 hx ⟨x3,x4,rfl,km,ko,iR⟩;obtain⟨a,jA,p,tt,rfl,hp,mx⟩:=Paired.at fN hx;have g:=hg a (aA jA);have tu:=hF.fk ko;have lf:=fl i;refine{p,_,9,aY.of (tu _ _ hp),9,_,_,9,_,_,9,9,?_};refine{_,9,.inl {9,_,bf.of iR},_,9,_,_,_,_,9,9,iR,aY.of (tu _ _ mx),?_,?_}
  ·rw[ah,ah];exact bC (bu ∅)
  ·refine{_,_,9,km.lst iR nt _,ko.own ht _,?_};rw[au,mK jA,aE]
 ·rintro Z H2 ⟨x3,x4,rfl,km,ko,iR⟩;rw[(bb fN),aT]at iR;have lf:=fl ba.length;rw[aT]at lf;have lp:=Xp lH hg;refine{_,9,fe,5,9,km,7,7,λn H3 n0 n1 jW kD=>?_};refine{n,rfl,by lia,by lia,λj m ys H4=>j<=n.toNat/\m=n.toNat -j/\dJ K fe H4/\Ext fe H3 H4/\∃hz:Aag,ys=hz.map V.str/\hz.length=j/\∀z∈hz,z∈bB ba,{_,aO _,9,jW,Ext.refl _ _,[],9,9,λz h=>by cases h},?_};rintro j m ys H4 ⟨hj,rfl,kY,jX,hz,rfl,hlz,Ed⟩;have ly:(hz.map V.str).length=j:=by rw[ah,hlz]
  have B5:=jX _ _ nt (kD _ _ nt iR);have lt4:((bB ba).map V.str).length=(bB ba).length:=ah _;by_cases bQ:j<n.toNat
  ·refine .inr {bQ,by rw[ly];exact bu ∅,?_};rintro v H5 ⟨rfl,rfl⟩;refine{_,9,_,9,_,9,_,_,9,.inl {_,bf.of B5,9},fe,_,9,kY,8,8,λi6 H6 k0 k1 rh kn=>?_};obtain⟨z,hzm,ev⟩:=pZ (zs:=bB ba) k0 ∅;refine{_,_,_,_,9,9,bf.of (kn _ _ nt B5),ev,?_};refine{n.toNat -(j+1),8,bQ,9,rh,jX.trans kn,hz++[z],by rw[aE];rfl,by rw[aC,hlz];rfl,λz' h=>?_};rcases aS.mp h with q|q
   ·exact Ed z' q
   ·rw[ay.mp q];exact hzm
  ·refine .inl {by show n.toNat<=j;lia,by rw[ly];exact bC (bu ∅),λl hl=>?_};exact{l,_,9,.inl {bf.of au,λtp htp=>k tp hz _ ((kY.new hl _).new htp _) ((((ko.trans kD).trans jX).new hl _).new htp _) au ∅ Ed}}
def GoodW(kN:Aag)(ba:Hy):Prop:=∀a∈ba,a.1∈kN/\1<=a.2.length/\a.2.length<=4/\∀z∈a.2,z∈oK\/z∈dW
inductive D0(K:Frag)(vs:Aan)(H:Hp)(Q:VK)(_x3:XK):Prop
 |mk (f nl:Addr) (most:Int) (kN:Aag) (_:vs=[.ref f,.ref nl,.int most]) (_:dJ K f H) (_:nl≠f) (_:(H nl=some (.lst (kN.map V.str))/\1<=kN.length/\kN.length<=100)) (_:1<=most) (_:most<=20) (_:∀(r:Addr)(hz:Aag)(ba:Hy)(H':Hp),dJ K f H'->Ext f H H'->PV H' (.ref r) hz ba->1<=ba.length->(ba.length:Int)<=2*most->GoodW kN ba->hz.length<=4->(∀z∈hz,z∈bB ba)->Q (.ref r) H')
structure Dr2(P:Program)(w:World)(K:Frag)(mg:Aac)(base:Heap):Prop extends Dr P w K mg base where
 yW:cn P w K mg base 2 "_law_words" ["_law_feed_here","_law_many"] (GY K)
 L0:cn P w K mg base 2 "_law_atom" ["_law_feed_here","_law_names","_law_unknowns_here","_law_values"] (G4 K)
 adf:cn P w K mg base 2 "_law_head" ["_law_feed_here","_law_atoms"] (Ov K)
def kT:bZ ["_law_feed_here","_law_names","_law_most","_law_unknowns_here","_law_values","_law_many","_law_atoms"] ["_law_feed_here","_law_names","_law_most"] (defScope vL):=gA 53
def Ki:(dW.all λz=>decide (z.length<=08))=true:=by decide+kernel
def YK:("?":Str).length=1:=by decide+kernel
def LA{f:Addr}{fd:FuncData}(F:dG K "_law_question" "_law_question" vL f fd)(T:Txt K mg)(D:Dr2 P w K mg base):cK P w K mg base dY 3 f fd ["_law_feed_here","_law_names","_law_most"] (D0 K):=by
 refine F.ok kT (λ_ _ _ _ h=>by cases h;subst_vars;rfl) 55;obtain⟨fe,nl,most,kN,rfl,hF,tY,⟨zb,Mq,Eh⟩,hm1,Mr,k⟩:=h;have big:10000<=sizeLine:=by rw[bW];decide
 refine cut 4 (λZ H2=>∃(ul vl:Addr)(us ws:Aag)(many:Int),Z=[some (.ref fe),some (.ref nl),some (.int most),some (.ref ul),some (.ref vl),some (.int many),none]/\(ul≠fe/\vl≠fe)/\(H2 ul=some (.lst (us.map V.str))/\1<=us.length/\us.length<=100)/\(H2 vl=some (.lst (ws.map V.str))/\1<=ws.length/\ws.length<=100)/\(∀z∈us,z∈oK)/\(∀z∈ws,z∈dW)/\1<=many/\many<=2*most/\dJ K fe H2/\Ext fe H H2)
  {_,(az (oP (j:=6) kT.nd 9 9 9 (c9 (fs:=["_law_feed_here","_law_names","_law_unknowns_here","_law_values"]) (fr:=[0,1,3,4])) (og 9 T.sN (bX (pv 5))) (λ_ _ _ _=>(cl D.L0 hr (fu (pv 1) (iZ (pv 2) (pv 3) (pv 4)))))) (aQ (bK (dX (cu (cl D.adf hr (cu (pv 0) (pv 6))) (cQ d8 9 T.iw 53 (bX (pv 6)))))))),?_} (λt2 ht=>{_,(az (kx (i:=3) kT.nd 9 (Or.inr 9) (kU 9 678 (dH (cl D.yW hr (cu (pv 0) (cW i9 aM 650)))) (λ_ _ _ _=>(cW vc cI (pv 0))))) (az (kx (i:=4) kT.nd 9 (Or.inr 9) (cl D.yW hr (cu (pv 0) aM))) (az (dE 5 kT (cW i9 aM (cl D.dN hr (cu (pv 0) (pv 2))))) (az (df (b5 lO 650 aM (cx _)) (aQ (dE 5 kT (cW i9 (pv 2) (cl D.dN hr (cu (pv 0) (cW i9 (pv 2) aM)))))) cy) ht)))),λtl=>?_})
 ·rintro Z H2 ⟨ul,vl,us,ws,many,rfl,⟨nul,D7⟩,⟨B4,Mf,y0⟩,⟨F7,hv1,hv2⟩,yZ,hww,m1,m2,km,ko⟩;refine{_,rfl,many,rfl,by lia,by lia,λj m ys H4=>j<=many.toNat/\m=many.toNat -j/\dJ K fe H4/\Ext fe H2 H4/\∃ba:Hy,dv H4 ys ba/\ba.length=j/\GoodW kN ba,{_,aO _,9,km,Ext.refl _ _,[],.nil,9,λa h=>by cases h},?_};rintro j m ys H4 ⟨hj,rfl,kY,jX,ba,fN,hla,hg⟩;have ly:ys.length=j:=hla▸bb fN;by_cases bQ:j<many.toNat
  ·refine .inr {bQ,by rw[ly];exact bu ∅,?_};rintro v H5 ⟨rfl,rfl⟩;refine{_,9,_,9,_,9,_,9,fe,nl,ul,vl,kN,us,ws,9,kY,⟨tY,nul,D7⟩,{jX _ _ tY (ko _ _ tY zb),Mq,Eh},{jX _ _ nul B4,Mf,y0},{jX _ _ D7 F7,hv1,hv2},λr a H6 rh kn hA Pp lH Gg Jc=>?_};refine{many.toNat -(j+1),8,bQ,9,rh,jX.trans kn,ba++[a],Paired.Yu (dv.keep (kY.fk kn) fN) hA,by rw[aC,hla];rfl,692};rcases aS.mp hb with q|q
   ·exact hg b q
   ·rw[ay.mp q];refine{Pp,lH,Gg,λz hz=>?_};rcases Jc z hz with q|q
    ·exact .inl (yZ z q)
    ·exact .inr (hww z q)
  ·refine .inl {by show many.toNat<=j;lia,by rw[ly];exact bC (bu ∅),λl hl=>?_};have uQ:=kY.pf hl;have hFl:=kY.new hl 682;have exl:=jX.new hl 682;have ZJ:=dv.keep ((b4.refl H4).new hl 682) fN;have A2:upd H4 l 682 l=some 682:=au;refine{_,9,_,9,fe,l,ys,ba,9,hFl,uQ,A2,ZJ,8,8,λa ha=>{(hg a ha).2.1,(hg a ha).2.2.1},λr hz H6 rh kn hr6 Ue Ed=>?_};refine{_,9,l,_,9,.inl {bf.of (kn _ _ uQ A2),λta jA=>?_}};refine{96,λq hq=>?_};have R6:=(((b4.refl H6).new jA (.tup ys)).new hq (.tup [.ref r,.ref ta]));exact k q hz ba _ ((rh.new jA _).new hq _) ((((ko.trans exl).trans kn).new jA _).new hq _) {q,r,ta,ys,9,au,R6 _ _ hr6,by rw[aL (λe=>by rw[<-e,au]at hq;cases hq),au],dv.keep ((hFl.fk kn).trans R6) ZJ} ∅ ∅ hg Ue Ed
 ·--afm
  refine{_,9,_,9,fe,5,9,hF,7,7,λi1 H1 a0 a1 zf xr=>{_,_,9,9,fe,_,9,zf,8,8,λwl mm H2 km ko nwl ahv yY hlw ndw rg=>?_}};refine{wl,9,{_,bf.of yY},iS (xs:=mm.map V.str) (λi ys H3=>H3=H2/\i<=mm.length/\ys=((mm.take i).map j7).map V.str) 665 {9,aO _,9} ?_ ?_ ?_}
  ·rintro i ys H3 hi ⟨rfl,_,rfl⟩;refine{bf.of yY,?_};rw[ah,ah,aZ];lia
  ·rintro i x ys H3 N hc ⟨rfl,hi,rfl⟩ hN;have bQ:=(aq.mp hc).1;rw[ah]at bQ;rw[aX,av bQ]at hc;obtain rfl:V.str mm[i]=x:=bT hc;have lw:=aR (bL.mp Ki mm[i] (rg _ (kH bQ)));refine{_,9,_,_,9,9,by rw[YK];lia,hN _ _ {9,bQ,?_}};rw[bq,av bQ,aE,aE];rfl
  ·rintro ys H3 ⟨rfl,_,rfl⟩ l hl;rw[ah,aT];have uQ:=km.pf hl;have jW:=km.new hl 668;have A2:upd H3 l 668 l=some 668:=au;have kD:=(xr.trans ko).new hl 668;refine{_,9,fe,2,9,jW,7,7,λvl vws H5 rl nE D7 agC F7 Ei ndv hinv=>?_};refine{_,9,_,9,fe,most,9,rl,8,8,λi6 H6 b0 b1 rh kn=>{_,_,9,9,?_}};have yZ:∀z∈mm.map j7,z∈oK:=λz hz=>by obtain⟨y,hy,rfl⟩:=aD.mp hz;exact bS (rg y hy)
   have Y8:(mm.map j7).length=mm.length:=ah _;refine{_,9,fe,08,9,rh,7,7,λi7 H7 c0 c1 uS Gp=>{9,_,9,?_}};have Rn:=kn.trans Gp;refine dS 669 (λc=>tl _ _ {l,vl,mm.map j7,vws,_,9,⟨uQ,D7⟩,{Rn _ _ uQ (nE _ _ uQ A2),8,8},{Rn _ _ D7 F7,8,8},yZ,hinv,8,8,uS,(kD.trans nE).trans Rn})
   ·refine{_,9,_,9,_,9,_,_,9,9,fe,_,9,uS,8,8,λi8 H8 d0 d1 Ek zj=>{_,_,9,9,?_}};have Xr:=Rn.trans zj;exact tl _ _ {l,vl,mm.map j7,vws,_,9,⟨uQ,D7⟩,{Xr _ _ uQ (nE _ _ uQ A2),8,8},{Xr _ _ D7 F7,8,8},yZ,hinv,8,8,Ek,(kD.trans nE).trans Xr}
def Lw(c d:Nat):decide ((⟨#[c]⟩:Str)=⟨#[d]⟩)=(c==d):=by
 by_cases h:c=d
 ·subst h;simp
 ·have:¬((⟨#[c]⟩:Str)=⟨#[d]⟩):=λe=>h (by injection e with e;simpa using e);rw[cA this];exact(cS.mpr h).symm
def Qn:("?":Str)=⟨#[63]⟩:=by decide+kernel
def vA{z:Str}{c:Nat}(h:z.cps.toList[0]?=some c):Txt.startswith z "?"=decide ((⟨#[c]⟩:Str)="?"):=by rw[Qn,Lw];rw[fb,rp];unfold Txt.startswith;rw[bO,jD,DK,h];exact{λe=>bT e,λe=>by rw[e]}
def ND{z:Str}(h:z.cps.toList[0]?=none):Txt.startswith z "?"=false:=by rw[Qn];refine iO.mpr λe=>?_;unfold Txt.startswith at e;rw[bO,jD,DK,h]at e;cases e
def Xq{z:Str}(h:z≠""):∃c,z.cps.toList[0]?=some c:=by
 cases e:z.cps.toList with
 |cons c r=>exact⟨c,rfl⟩
 |nil=>
  exact absurd (wW (e.trans 9)) h
def yd{α:Type}{g:α->Bool}{l:List α}{i:Nat}{x:α}(h:l[i]?=some x):(l.take (i+1)).filter g=(l.take i).filter g++(if g x=true then[x]else[]):=by rw[bq,h,eZ];show _++[x].filter g=_;rw[cZ,rN]
def Ss:sgn 63=false:=by decide+kernel
def aau{z:Str}(h:isVal z=true):bh z=false:=by
 unfold isVal at h;rw[bO,bO]at h;have h1:=aR h.1;unfold bh;cases e:z.cps.toList with
 |nil=>
  have:z.length=0:=by show z.cps.size=0;rw[<-bI,e];rfl
  lia
 |cons c r=>
  have hc:=bL.mp h.2.2 _ (bS (e▸aF));have nc:c≠63:=λz=>by rw[z,Ss]at hc;cases hc
  rw[vA (by rw[e];rfl),Qn,Lw,cS.mpr nc,kr]
def kW(z:Str):Bool:=isVal z||bh z
def rC(acc:Aag)(t:Str):Aag:=if t∈acc then acc else acc++[t]
def wd(g:Aag):Aag:=g.foldl rC []
def M8(g:Aag)(t:Str):wd (g++[t])=rC (wd g) t:=by unfold wd;rw[pG];rfl
theorem LO:∀(g acc:Aag)(z:Str),z∈g.foldl rC acc↔z∈acc\/z∈g
 |[],acc,z=>by simp
 |t::r,acc,z=>by
  rw[gQ,LO r (rC acc t) z];unfold rC;by_cases d:t∈acc
  ·rw[aK d];constructor
   ·rintro(h|h)
    ·exact .inl h
    ·exact .inr (aG _ h)
   ·rintro(h|h)
    ·exact .inl h
    ·rcases aN.mp h with rfl|h
     ·exact .inl d
     ·exact .inr h
  ·rw[aH d];constructor
   ·rintro(h|h)
    ·rcases aS.mp h with h|h
     ·exact .inl h
     ·rw[ay.mp h];exact .inr aF
    ·exact .inr (aG _ h)
   ·rintro(h|h)
    ·exact .inl (bx _ h)
    ·rcases aN.mp h with rfl|h
     ·exact .inl (bc _ (ay.mpr 9))
     ·exact .inr h
def Dg(g:Aag)(z:Str):z∈wd g↔z∈g:=by unfold wd;rw[LO];simp
theorem PH:∀(g acc:Aag),(g.foldl rC acc).length<=acc.length+g.length
 |[],acc=>by simp
 |t::r,acc=>by
  have h1:=PH r (rC acc t);have h2:(rC acc t).length<=acc.length+1:=by
   unfold rC;split
   ·lia
   ·rw[aC];exact aw _
  rw[gQ,bE];lia
def abp(g:Aag):(wd g).length<=g.length:=by have:=PH g [];simpa[wd]using this
theorem GJ:∀(g acc:Aag),acc.Nodup->(g.foldl rC acc).Nodup
 |[],acc,h=>h
 |t::r,acc,h=>by
  refine GJ r _ ?_;unfold rC;split
  ·exact h
  ·rename_i d;rw[fE];refine{h,59,λa ha b hb e=>?_};rw[ay.mp hb]at e;exact d (e▸ha)
def Va(g:Aag):(wd g).Nodup:=GJ g [] .nil
theorem Iy:∀(fl acc:Aag),fl.foldl step acc=(fl.filter bh).foldl rC acc
 |[],acc=>rfl
 |t::r,acc=>by
  rw[gQ,cZ,Iy r];unfold step;by_cases c:bh t=true
  ·rw[aK c,aK c,gQ];rfl
  ·rw[aH c,aH c]
def C8(fl:Aag):fh fl=wd (fl.filter bh):=Iy fl []
def xf(fl:Aag):(fh fl).Nodup:=by rw[C8];exact Va _
def ab8{z:Str}(h:kW z=true):Txt.startswith z "?"=bh z:=by
 have h':(isVal z||bh z)=true:=h;cases e:isVal z with
 |true=>
  rw[aau e];cases e1:z.cps.toList with
  |nil=>exact ND (by rw[e1];rfl)
  |cons c r=>
   unfold isVal at e;rw[bO,bO]at e;have hc:=bL.mp e.2.2 _ (bS (e1▸aF));have nc:c≠63:=λz=>by rw[z,Ss]at hc;cases hc
   rw[vA (by rw[e1];rfl),Qn,Lw,cS.mpr nc]
 |false=>
  rw[e,Bool.false_or]at h';rw[h'];unfold bh at h';rw[bO]at h';exact h'.1
def zD{z:Str}(h:kW z=true):∃c,z.cps.toList[0]?=some c:=by
 refine Xq λe=>?_;rw[e]at h;have:kW ""=false:=by decide+kernel
 cases h
def zE{z:Str}(h:kW z=true){c:Nat}(hc:z.cps.toList[0]?=some c):decide (V.str ⟨#[c]⟩=V.str "?")=bh z:=by rw[<-ab8 h,vA hc,fb];simp
def Vi(xs:Aan)(j:Nat):lD xs none (some (j:Int))=xs.take j:=by
 unfold lD;rw[HT.zS,HT.Dd,sY,CP];by_cases h:j<=xs.length
 ·rw[k7 h]
 ·rw[qj ∅,aT,cU ∅]
def XJ(xs:Aan)(j:Nat):lD xs (some (j:Int)) none=xs.drop j:=by
 unfold lD;rw[HT.zS,HT.Dd];by_cases h:j<=xs.length
 ·rw[k7 h,cU (dD▸aw _)]
 ·rw[qj ∅,wF,mh,List.drop_of_length_le ∅]
noncomputable def C7:Aag:=["?z1","?z","?y","?yy","?0","?m"]
end
structure Aw where
 P:Str->Prop
noncomputable instance:Membership Str Aw:=⟨λs z=>s.P z⟩
def kQ:Aw:=⟨λz=>kW z=true/\z.length<=100/\PyData.strOk z=true⟩
def aeg:((oK++dW++C7).all λz=>kW z&&decide (z.length<=100)&&PyData.strOk z)=true:=by decide+kernel
def Lg{z:Str}(h:z∈oK++dW++C7):z∈kQ:=by have:=bL.mp aeg z h;rw[bO,bO]at this;exact{this.1.1,aR this.1.2,this.2}
def fR{z:Str}(h:z∈kQ):kW z=true/\z.length<=100/\PyData.strOk z=true:=h
def tN{z:Str}(h:z∈dW):z∈kQ:=Lg (bx _ (bc _ h))
def J0{z:Str}(h:z∈oK):z∈kQ:=Lg (bx _ (bx _ h))
def z_T{z:Str}(h:z∈C7):z∈kQ:=Lg (bc _ h)
def nM(ba:Hy):Prop:=∀a∈ba,a.1∈dW/\1<=a.2.length/\a.2.length<=4/\∀z∈a.2,z∈kQ
structure QW(H:Hp)(v:V)(hz:Aag)(ba:Hy):Prop where
 at':PV H v hz ba
 l1:1<=ba.length
 l8:ba.length<=08
 good:nM ba
 h4:hz.length<=4
 hh:∀z∈hz,z∈kQ
def QW.keep{H H':Hp}{v:V}{hz:Aag}{ba:Hy}(t:b4 H H')(x:QW H v hz ba):QW H' v hz ba:={x.at'.keep t,x.l1,x.l8,x.good,x.h4,x.hh}
def nM.flat{ba:Hy}(g:nM ba){z:Str}(h:z∈bB ba):z∈kQ:=by obtain⟨a,ha,hz⟩:=ix.mp h;exact(g a ha).2.2.2 z hz
def nM.len{ba:Hy}(g:nM ba)(n:Nat):(bB (ba.take n)).length<=4*ba.length:=by
 have h1:=Ht (ba.take n) λa ha=>(g a (iJ ha)).2.2.1;have h2:(ba.take n).length<=ba.length:=by rw[aZ];lia
 lia
inductive yG(vs:Aan)(H:Hp)(Q:VK)(_x3:XK):Prop
 |mk (v:V) (hz:Aag) (ba:Hy) (_:vs=[v]) (_:QW H v hz ba) (_:∀(r:Addr)(H':Hp),aJ H H'->H r=none->H' r=some (.lst ((fh (bB ba)).map V.str))->Q (.ref r) H')
section
variable{P:Program}{w:World}{K:Frag}{mg:Aac}{base:Heap}
structure Dv2(P:Program)(w:World)(K:Frag)(mg:Aac)(base:Heap):Prop extends Dv P w K mg base where
 is_unknown:cn P w K mg base 2 "is_unknown" ["thing"] Qb
def oN:bZ ["question","found","atom","term"] ["question"] (defScope uw):=gA 53
def Hl(F:dG K "unknowns_of" "unknowns_of" uw f fd)(T:Txt K mg)(D:Dv2 P w K mg base):cK P w K mg base dY 3 f fd ["question"] yG:=by
 refine F.ok oN (λ_ _ _ _ h=>by cases h;subst_vars;rfl) 55;obtain⟨v,hz0,ba,rfl,⟨⟨q,hd,aa,cR,rfl,hq,Cb,m8,fN⟩,l1,l8,good,h4,hh⟩,k⟩:=h;refine{_,(az (dE 1 oN jf) (az (dR bG 9 (ir (bF bY (pv 0) aM (λ_ _=>9))) (fZ 2 oN) (aQ (dR bG 9 (ir (bF bY (pv 2) aM (λ_ _=>9))) (fZ 3 oN) (aQ (df (gO (cl D.is_unknown hr (bX (pv 3)))) (aQ (yL (oZ hr) (pv 1) (pv 3) gf 9)) cy))))) (aQ (bK (cQ (HX 9) 9 T.pO 53 719))))),?_}
 intro d m7;refine{_,rfl,_,_,_,_,rfl,rfl,aY.of (aB m7 _ _ _ hq),rfl,aa,rfl,{cR,aY.of (aB m7 _ _ _ m8)},qA
  (λi Z H2=>∃(x2 x3:Aao),Z=[some (.ref q),some 700,x2,x3]/\aJ H H2/\H2 d=some (.dK (qZ (fh (bB 711))))) {none,none,9,aB m7 _,au} (λi Z H2 _ hq=>by(obtain⟨_,_,_,sm,_⟩:=hq;exact aY.of (sm _ _ m8))) ?_ ?_}
 ·rintro i x Z H2 hx ⟨x2,x3,rfl,sm,hd2⟩;obtain⟨ta,ht,p,t,rfl,hp,mx⟩:=Paired.at fN hx;have g:=good ta (aA ht);have lf:=good.len i;refine{_,rfl,_,_,_,_,rfl,rfl,aY.of (sm _ _ hp),rfl,t,rfl,{_,aY.of (sm _ _ mx)},qA
   (λj Z H3=>∃(x3:Aao),Z=[some (.ref q),some 700,some 666,x3]/\aJ H H3/\H3 d=some (.dK (qZ (fh (bB 711++ta.2.take j))))) {x3,9,sm,by rw[mh,c7];exact hd2} (λj Z H3 _ hq=>by(obtain⟨_,_,sm',_⟩:=hq;exact aY.of (sm' _ _ mx))) ?_ ?_}
  ·rintro j y Z H3 hy ⟨x3,rfl,qu,Pl⟩;obtain⟨z,hz,rfl⟩:=iN hy;have hz9:=(fR (g.2.2.2 z (aA hz))).2.1;refine{_,9,z,9,8,λH4 uN=>{_,9,?_}};have Jj:=uN _ _ Pl;have en:fh (bB 711++ta.2.take (j+1))=step (fh (bB 711++ta.2.take j)) z:=by rw[bq,hz,<-VJ,dF];rfl
   have lu:=yU (bB 711++ta.2.take j);rw[aC,aZ]at lu;refine dS 688 688
   ·refine{_,9,_,9,d,_,9,AK.k (k:=Sum.inr z) Jj (by unfold qZ;rw[ah];exact bu ∅),?_};refine{_,9,λb u e=>?_,?_}
    ·rw[aL (bA e m7)];exact uN _ _ (qu _ _ e)
    ·rw[au,We,en];unfold step;rw[aK c1]
   ·refine{_,9,qu.trans uN,?_};rw[en];unfold step;rw[aH c1];exact Jj
  ·rintro Z H3 ⟨x3,rfl,qu,Pl⟩;refine{_,_,9,qu,?_};rw[ah,aT]at Pl;rw[mK ht];exact Pl
 ·rintro Z H2 ⟨x2,x3,rfl,sm,hd2⟩;rw[(bb fN),aT]at hd2;refine{_,9,d,_,9,hd2,λl hl=>?_};refine k l _ (sm.trans (aB hl _)) (sm.free hl) ?_;rw[au,T1]
def pT:bZ ["_law_question_here","_law_found","_law_name","_law_terms_here"] ["_law_question_here"] (defScope vK):=gA 53
def Ly{f:Addr}{fd:FuncData}(F:dG K "_law_unknowns" "_law_unknowns" vK f fd)(T:Txt K mg):cK P w K mg base dY 1 f fd ["_law_question_here"] yG:=by
 refine F.ok pT (λ_ _ _ _ h=>by cases h;subst_vars;rfl) 55;obtain⟨v,hz0,ba,rfl,⟨⟨q,pw,aa,cR,rfl,hq,Cb,m8,fN⟩,l1,l8,good,h4,hh⟩,k⟩:=h;refine{_,(az (kx (i:=1) pT.nd 9 (Or.inr 9) (dM iu)) (az (dR bG 9 (ir (bF bY (pv 0) aM (λ_ _=>9))) (jy 9 (b9 (fZ 2 pT) (b9 (fZ 3 pT) fQ))) (aQ (gS (jk bR eA d9 BS (pv 1) (bX (mw 9 678 (ir (pv 3)) (λ_ _ _ _=>(b5 lO (bF F1 (pv 0) aM (λ_ _=>9)) cI (cx _))) 729)))))) (aQ (bK (mw 9 (c9 (fs:=["_law_found"]) (fr:=[1])) (og 9 T.sN (bX (bN cY 9 T.eT bH 719))) (λ_ _ _ _=>(b5 (AX) (bF (Ag) (pv 1) (pv 0) (λ_ _=>9)) (mJ (V2) (pv 1) oR (oQ (pv 0))) 649)) (λ_ _ _ _=>(bF (Ag) (pv 1) (pv 0) (λ_ _=>9)))))))),?_}
 have lf:∀i,((bB 711).filter bh).length<=32:=λi=>by have h1:=da bh (bB 711);have h2:=good.len i;lia
 refine{409,λd m7=>?_};refine{_,rfl,_,_,_,_,rfl,rfl,aY.of (aB m7 _ _ _ hq),rfl,aa,rfl,{cR,aY.of (aB m7 _ _ _ m8)},qA
  (λi Z H2=>∃(x2 x3:Aao),Z=[some (.ref q),some 700,x2,x3]/\aJ H H2/\H2 d=some (.lst (((bB 711).filter bh).map V.str))) {none,none,9,aB m7 _,au} (λi Z H2 _ hq=>by(obtain⟨_,_,_,sm,_⟩:=hq;exact aY.of (sm _ _ m8))) ?_ ?_}
 ·rintro i x Z H2 hx ⟨x2,x3,rfl,sm,hd2⟩;obtain⟨ta,ht,p,t,rfl,hp,mx⟩:=Paired.at fN hx;have g:=good ta (aA ht);have lfi:=lf i;refine{p,_,9,aY.of (sm _ _ hp),9,_,_,9,_,_,9,9,?_};refine{_,9,.inl {9,_,bf.of hd2},_,9,t,9,{_,aY.of (sm _ _ mx)},mN (xs:=ta.2.map V.str) (λj ys H3=>H3=H2/\j<=ta.2.length/\ys=((ta.2.take j).filter bh).map V.str) 665 {9,aO _,9} ?_ ?_ ?_}
  ·rintro j ys H3 hj ⟨rfl,_,rfl⟩;refine{aY.of (sm _ _ mx),?_};rw[ah];refine br (da _ _) ?_;rw[aZ];lia
  ·rintro j y ys H3 N hc ⟨rfl,hj,rfl⟩ hN;obtain⟨z,hz,rfl⟩:=iN hc;have Jh:=(aq.mp hz).1;have Ed:=fR (g.2.2.2 z (aA hz));obtain⟨c,Ce⟩:=zD Ed.1;refine{_,9,_,_,_,9,9,bC (bu ∅),(gW (j:=0) Ce),9,_,9,?_};rw[zE Ed.1 Ce];refine dS 688 688
   ·refine{_,9,hN _ _ {9,Jh,?_}};rw[yd hz,aK c1,aE];rfl
   ·refine hN _ _ {9,Jh,?_};rw[yd hz,aH c1,c7]
  ·rintro ys H3 ⟨rfl,_,rfl⟩ l hl;rw[ah,aT];refine{_,_,_,_,9,9,by rw[aL (bA hd2 hl)];exact hd2,au,?_,?_}
   ·rw[ah,ah];have:=br (da bh ta.2) g.2.2.1;exact bC (bu ∅)
   ·refine{_,_,9,λb u e=>?_,?_}
    ·rw[aL (bA e m7)];exact aB hl _ _ _ (sm _ _ e)
    ·rw[au,mK ht,eZ,aE]
 ·rintro Z H2 ⟨x2,x3,rfl,sm,hd2⟩;rw[(bb fN),aT]at hd2;have lfa:=lf ba.length;rw[aT]at lfa;rw[C8]at k;generalize (bB ba).filter bh=g at hd2 lfa k;have lg:(g.map V.str).length=g.length:=ah _;refine{_,9,_,_,9,.inl {_,bf.of hd2,9},_,9,8,8,λj m' ys H3=>j<=g.length/\m'=g.length -j/\aJ H2 H3/\ys=(wd (g.take j)).map V.str,{_,aO _,9,aJ.refl _,9},?_};rintro j m' ys H3 ⟨hj,rfl,qu,rfl⟩;have ly:((wd (g.take j)).map V.str).length<=32:=by rw[ah];refine br (abp _) ?_;rw[aZ];lia
  by_cases bQ:j<g.length
  ·refine .inr {by show j<((g.map V.str).length:Int).toNat;lia,bu ∅,?_};rintro v H4 ⟨rfl,rfl⟩;have Jj:=qu _ _ hd2;obtain⟨z,hz⟩:∃z,g[j]?=some z:={_,av bQ};have ev:sd (g.map V.str) (0+(j:Int))=some (.str z):=by rw[CZ];exact gW (by rw[aX,hz];rfl)
   refine{_,9,_,9,_,_,_,_,9,9,bf.of Jj,ev,?_};refine{_,9,vS {_,9,_,9,_,_,9,bf.of Jj,689}};have ec:lD (g.map V.str) none (some (0+(j:Int)))=(g.take j).map V.str:=by rw[CZ,Vi,A8]
   rw[ec];refine{p,_,9,.inl (bf.of au),9,zh _,_,9,?_};have uM:aJ H2 (upd H4 p (.lst ((g.take j).map V.str))):=qu.trans (aB hp _);have et:g.take (j+1)=g.take j++[z]:=by rw[bq,hz];rfl
   rw[vo];refine dS 688 688
   ·have c1:z∉g.take j:=by simpa using c1
    refine{_,9,_,9,_,_,_,_,9,9,bf.of (uM _ _ hd2),ev,?_};refine{_,8,bQ,9,uM,?_};rw[et,M8];unfold rC;rw[aH (λh=>c1 ((Dg _ _).mp h)),aE];rfl
   ·have c1:z∈g.take j:=by simpa using c1
    refine{_,8,bQ,9,uM,?_};rw[et,M8];unfold rC;rw[aK ((Dg _ _).mpr c1)]
  ·have ej:j=g.length:=by lia
   refine .inl {by show((g.map V.str).length:Int).toNat<=j;lia,bC (bu ∅),λl hl=>?_};refine k l _ ((sm.trans qu).trans (aB hl _)) ((sm.trans qu).free hl) ?_;rw[au,ej,aT]
def gD(g:List 667):List (Key×V):=g.map λp=>(Sum.inr p.1,V.str p.2)
def IX(g:List 667)(z:Str):Option Str:=(g.find? λp=>decide (p.1=z)).map (·.2)
def dk(g:List 667)(z:Str):Str:=(IX g z).getD z
def j8(g:List 667)(u t:Str):List 667:=if(g.any λp=>decide (p.1=u))=true then g.map (λp=>if p.1=u then(p.1,t)else p)else g++[(u,t)]
theorem GU(z:Str):∀g:List 667,iC (gD g) (Sum.inr z:Key)=(IX g z).map V.str
 |[]=>rfl
 |p::r=>by
  unfold iC IX at*;show Option.map _ (List.find? _ ((Sum.inr p.1,V.str p.2)::gD r))=_;rw[iK,iK];by_cases h:p.1=z
  ·rw[bj h,bj (show(Sum.inr p.1:Key)=Sum.inr z from cP _ h)];rfl
  ·rw[cA h,cA (show ¬(Sum.inr p.1:Key)=Sum.inr z fromλe=>h (by injection e))];exact(GU z r)
def aef(u:Str)(g:List 667):((gD g).any λkv=>decide (kv.1=(Sum.inr u:Key)))=g.any λp=>decide (p.1=u):=by
 unfold gD;rw[ml];congr 1;funext p;show decide ((Sum.inr p.1:Key)=Sum.inr u)=_;by_cases h:p.1=u
 ·rw[bj h,bj (show(Sum.inr p.1:Key)=Sum.inr u from cP _ h)]
 ·rw[cA h,cA (show ¬(Sum.inr p.1:Key)=Sum.inr u fromλe=>h (by injection e))]
def Hg(g:List 667)(u t:Str):putK (gD g) (Sum.inr u:Key) (V.str t)=gD (j8 g u t):=by
 unfold putK j8;rw[aef];by_cases c:(g.any λp=>decide (p.1=u))=true
 ·rw[aK c,aK c];unfold gD;rw[cw,cw];refine b8 λp _=>?_;show(if(Sum.inr p.1:Key)=Sum.inr u then((Sum.inr p.1:Key),V.str t)else(Sum.inr p.1,V.str p.2))=(Sum.inr (if p.1=u then(p.1,t)else p).1,V.str (if p.1=u then(p.1,t)else p).2);by_cases h:p.1=u
  ·rw[aK (cP _ h),aK h]
  ·rw[aH (λe=>h (by injection e)),aH h]
 ·rw[aH c,aH c];unfold gD;rw[aE];rfl
def Lc(g:List 667)(u t:Str):(j8 g u t).length<=g.length+1:=by
 unfold j8;split
 ·rw[ah];lia
 ·rw[aC];exact aw _
def BJ{g:List 667}{u t:Str}{l:Aw}(h:∀p∈g,p.2∈l)(ht:t∈l):∀p∈j8 g u t,p.2∈l:=λp hp=>by
 unfold j8 at hp;split at hp
 ·obtain⟨q,hq,rfl⟩:=aD.mp hp;split
  ·exact ht
  ·exact h q hq
 ·rcases aS.mp hp with hp|hp
  ·exact h p hp
  ·rw[ay.mp hp];exact ht
def HB{g:List 667}{z:Str}{l:Aw}(h:∀p∈g,p.2∈l)(hz:z∈l):dk g z∈l:=by
 unfold dk IX;cases e:g.find? λp=>decide (p.1=z)with
 |none=>exact hz
 |some p=>exact h p (gg e)
def Ac(g:List 667)(ba:Hy):Hy:=ba.map λa=>(a.1,a.2.map (dk g))
inductive J4(vs:Aan)(H:Hp)(Q:VK)(_x3:XK):Prop
 |mk (t d:Addr) (ts:Aag) (g:List (Str×Str)) (_:vs=[.ref t,.ref d]) (_:H t=some (.tup (ts.map V.str))) (_:H d=some (.dK (gD g))) (_:ts.length<=100) (_:∀(r:Addr)(H':Hp),aJ H H'->H' r=some (.tup ((ts.map (dk g)).map V.str))->Q (.ref r) H')
inductive KO(vs:Aan)(H:Hp)(Q:VK)(_x3:XK):Prop
 |mk (v:V) (d:Addr) (hz:Aag) (ba:Hy) (g:List (Str×Str)) (_:vs=[v,.ref d]) (_:QW H v hz ba) (_:H d=some (.dK (gD g))) (_:(∀p∈g,p.2∈kQ)) (_:∀(r:Addr)(H':Hp),aJ H H'->QW H' (.ref r) (hz.map (dk g)) (Ac g ba)->Q (.ref r) H')
def V3:bZ ["_law_terms_here","_law_given"] ["_law_terms_here","_law_given"] (defScope G8):=gA 53
def acV{f:Addr}{fd:FuncData}(F:dG K "_law_led" "_law_led" G8 f fd)(T:Txt K mg):cK P w K mg base dY 1 f fd ["_law_terms_here","_law_given"] J4:=by
 refine F.ok V3 (λ_ _ _ _ h=>by cases h;subst_vars;rfl) 55;obtain⟨t,d,ts,g,rfl,ht,hd,hl,k⟩:=h;refine{_,(aQ (bK (cQ d8 9 T.iw 53 (bX (kU 9 (c9 (fs:=["_law_given"]) (fr:=[1])) (ir (pv 0)) (λ_ _ _ _=>(sL (oZ hr) (pv 1) (pv 0) (pv 0) QL))))))),?_};refine{_,9,t,9,{_,aY.of ht},mN (xs:=ts.map V.str) (λi ys H2=>H2=H/\i<=ts.length/\ys=((ts.take i).map (dk g)).map V.str) 665 {9,aO _,9} ?_ ?_ ?_}
 ·rintro i ys H2 hi ⟨rfl,_,rfl⟩;refine{aY.of ht,?_};rw[ah,ah,aZ];lia
 ·rintro i x ys H2 N hc ⟨rfl,hi,rfl⟩ hN;obtain⟨z,hz,rfl⟩:=iN hc;have bQ:=(aq.mp hz).1;refine{_,9,d,9,.inl {_,.inl hd},_,9,_,9,_,kS.k (k:=Sum.inr z) hd,?_};have e:(iC (gD g) (Sum.inr z:Key)).getD (.str z)=.str (dk g z):=by rw[GU];unfold dk;cases IX g z<;>rfl
  rw[e];refine hN _ _ {9,bQ,?_};rw[bq,hz,aE,aE];rfl
 ·rintro ys H2 ⟨rfl,_,rfl⟩ l pj;rw[ah,aT];exact{l,_,9,.inl {bf.of au,λp hp=>k p _ ((aB pj _).trans (aB hp _)) au}}
structure Dle(P:Program)(w:World)(K:Frag)(mg:Aac)(base:Heap):Prop where
 Kb:cn P w K mg base 1 "_law_led" ["_law_terms_here","_law_given"] J4
def DF:bZ ["_law_question_here","_law_given"] ["_law_question_here","_law_given"] (defScope pY):=gA 53
def abb{f:Addr}{fd:FuncData}(F:dG K "_law_led_question" "_law_led_question" pY f fd)(T:Txt K mg)(D:Dle P w K mg base):cK P w K mg base dY 2 f fd ["_law_question_here","_law_given"] KO:=by
 refine F.ok DF (λ_ _ _ _ h=>by cases h;subst_vars;rfl) 55;obtain⟨v,d,hz,ba,g,rfl,⟨⟨q,h0,aa,cR,rfl,hq,Cc,m8,fN⟩,l1,l8,good,h4,hh⟩,hd,Pe,k⟩:=h;have la:=bb fN;refine{_,(aQ (bK (dX (cu (cl D.Kb hr (cu (bF bY (pv 0) aM (λ_ _=>9)) (pv 1))) (cQ d8 9 T.iw 53 (bX (vQ 9 (o7 (more:=["_law_terms_here"]) (fs:=["_law_given"]) (fr:=[1])) (ir (bF bY (pv 0) aM (λ_ _=>9))) (λ_ _ _ _=>(vk (n:=2) 9 694)) (λ_ _ _ _=>(dX (cu (pv 0) (cl D.Kb hr (cu (pv 1) (pv 2))))))))))))),?_};refine{_,9,_,_,_,_,9,9,aY.of hq,9,_,9,h0,d,hz,g,9,Cc,hd,8,λr1 H1 xg qy=>?_};refine{_,9,_,_,_,_,9,9,aY.of (xg _ _ hq),9,aa,9,{cR,aY.of (xg _ _ m8)},Cu (xs:=cR) (λi ys H2=>aJ H1 H2/\i<=ba.length/\dv H2 ys (Ac g 711)) (bu ∅) {aJ.refl _,aO _,.nil} ?_ ?_ ?_}
 ·rintro i ys H2 hi ⟨gN,_,hA⟩;refine{aY.of (gN _ _ (xg _ _ m8)),?_};rw[(bb hA)];unfold Ac;rw[ah,aZ];lia
 ·rintro i x ys H2 N hc ⟨gN,hi,hA⟩ hN;obtain⟨a,jA,p,tt,rfl,hp,mx⟩:=Paired.at fN hc;have ga:=good a (aA jA);have bQ:=(aq.mp jA).1;have sm:=xg.trans gN;refine{p,_,_,9,aY.of (sm _ _ hp),yK ?_};refine{_,9,_,9,_,9,tt,d,a.2,g,9,sm _ _ mx,sm _ _ hd,8,λr3 H3 qu y4=>?_};refine{96,λp4 Gb=>?_};have uN:aJ H3 (upd H3 p4 (.tup [.str a.1,.ref r3])):=aB Gb _;refine hN _ _ {gN.trans (qu.trans uN),bQ,?_};have e:Ac g (ba.take (i+1))=Ac g 711++[(a.1,a.2.map (dk g))]:=by unfold Ac;rw[bq,jA,aE];rfl
  rw[e];exact Paired.Yu (dv.keep (b4.of (qu.trans uN)) hA) {p4,r3,9,au,uN _ _ y4}
 ·rintro ys H2 ⟨gN,_,hA⟩ l pj;rw[la,aT]at hA;refine{l,_,9,.inl {bf.of au,689}};refine{96,λp5 Pb=>?_};have OA:=aB Pb (.tup [.ref r1,.ref p]);have V0:=(aB pj _).trans ((aB hp _).trans OA);refine k p5 _ (xg.trans (gN.trans V0)) {{p5,r1,p,ys,9,au,V0 _ _ (gN _ _ qy),OA _ _ au,dv.keep (b4.of V0) hA},?_,?_,?_,?_,?_}
  ·unfold Ac;rw[ah];exact l1
  ·unfold Ac;rw[ah];exact l8
  ·intro b hb;obtain⟨a,ha,rfl⟩:=aD.mp hb;obtain⟨g1,g2,g3,g4⟩:=good a ha;refine{g1,by show 1<=(a.2.map _).length;rw[ah];exact g2,by show(a.2.map _).length<=4;rw[ah];exact g3,λz hz=>?_};obtain⟨y,hy,rfl⟩:=aD.mp hz;exact HB Pe (g4 y hy)
  ·rw[ah];exact h4
  ·intro z hz;obtain⟨y,hy,rfl⟩:=aD.mp hz;exact HB Pe (hh y hy)
theorem Paired.take{α β:Type}{F:α->β->Prop}:∀{l₁:List α}{aab:List β}(i:Nat),Paired F l₁ aab->Paired F (l₁.take i) (aab.take i)
 |_,_,0,_=>by rw[mh,mh];exact .nil
 |_,_,_+1,.nil=>.nil
 |_,_,i+1,.cons a t=>.cons a (Paired.take i t)
theorem Paired.drop{α β:Type}{F:α->β->Prop}:∀{l₁:List α}{aab:List β}(i:Nat),Paired F l₁ aab->Paired F (l₁.drop i) (aab.drop i)
 |_,_,0,h=>h
 |_,_,_+1,.nil=>.nil
 |_,_,i+1,.cons _ t=>Paired.drop i t
def Paired.ins{α β:Type}{F:α->β->Prop}{l₁:List α}{aab:List β}{a:α}{b:β}(i:Nat)(h:Paired F l₁ aab)(q:F a b):Paired F (l₁.take i++a::l₁.drop i) (aab.take i++b::aab.drop i):=Paired.app (Paired.take i h) (.cons q (Paired.drop i h))
def O6{α:Type}{l:List α}{i:Nat}{a x:α}(h:x∈l.take i++a::l.drop i):x∈l\/x=a:=by
 rcases aS.mp h with h|h
 ·exact .inl (iJ h)
 ·rcases aN.mp h with h|h
  ·exact .inr h
  ·exact .inl (AE h)
def HJ{α:Type}{l:List α}{i:Nat}{a:α}:(l.take i++a::l.drop i).length=l.length+1:=by rw[aC,bE,aZ,dD];lia
def mB(hz:Aag)(ba:Hy):Prop:=∀z∈hz,bh z=true->z∈bB ba
inductive KP(vs:Aan)(H:Hp)(Q:VK)(_x3:XK):Prop
 |mk (h al:Addr) (hz:Aag) (cR:Aan) (ba:Hy) (_:vs=[.ref h,.ref al]) (_:H h=some (.tup (hz.map V.str))) (_:H al=some (.lst cR)) (_:dv H cR ba) (_:1<=ba.length) (_:ba.length<=08) (_:nM ba) (_:hz.length<=4) (_:(∀z∈hz,z∈kQ)) (_:∀(r:Addr)(kB:Aag)(H':Hp),aJ H H'->QW H' (.ref r) kB ba->mB kB ba->Q (.ref r) H')
def X4(H:Hp)(a:Addr)(l afN:Aag):Prop:=H a=some (.lst (l.map V.str))/\1<=l.length/\l.length<=100/\∀z∈l,z∈afN
end
inductive Ow(K:Frag)(vs:Aan)(H:Hp)(Q:VK)(_x3:XK):Prop
 |mk (f nl ul:Addr) (v:V) (more:Int) (kN us:Aag) (hz:Aag) (ba:Hy) (_:vs=[.ref f,v,.ref nl,.ref ul,.int more]) (_:dJ K f H) (_:(nl≠f/\ul≠f)) (_:X4 H nl kN dW) (_:X4 H ul us oK) (_:QW H v hz ba) (_:0<=more) (_:more<=3) (_:∀(r:Addr)(ij:Hy)(H':Hp),dJ K f H'->Ext f H H'->QW H' (.ref r) hz ij->(∀b∈ba,b∈ij)->Q (.ref r) H')
section
variable{P:Program}{w:World}{K:Frag}{mg:Aac}{base:Heap}
def mn:bZ ["_law_head_here","_law_atoms","_law_terms_here","_law_name","_law_some"] ["_law_head_here","_law_atoms"] (defScope zN):=gA 53
def abc{f:Addr}{fd:FuncData}(F:dG K "_law_kept" "_law_kept" zN f fd)(T:Txt K mg):cK P w K mg base dY 1 f fd ["_law_head_here","_law_atoms"] KP:=by
 refine F.ok mn (λ_ _ _ _ h=>by cases h;subst_vars;rfl) 55;obtain⟨h0,al,hz,cR,ba,rfl,Cc,nA,fN,l1,l8,good,h4,hh,k⟩:=h;refine{_,(az (kx (i:=2) mn.nd 9 (Or.inr 9) (dM iu)) (az (dR bG 9 (dH (pv 1)) (jy 9 (b9 (fZ 3 mn) (b9 (fZ 4 mn) fQ))) (aQ (gS (jk bR eA d9 qV (pv 2) (bX (pv 4)))))) (aQ (bK (dX (cu (cQ d8 9 T.iw 53 (bX (mw 9 (c9 (fs:=["_law_terms_here"]) (fr:=[2])) (ir (pv 0)) (λ_ _ _ _=>(PW.pt (ny (b5 pV (bF F1 (pv 0) aM (λ_ _=>9)) cI (cx _)) (nZ (b5 (zV) (pv 0) (pv 1) 649))))) 729))) (cQ d8 9 T.iw 53 719))))))),?_}
 refine{409,λt ht=>?_};refine{_,rfl,al,rfl,{cR,bf.of (aB ht _ _ _ nA)},gF
  (λi Z H2=>∃(x3 x4:Aao),Z=[some (.ref h0),some (.ref al),some (.ref t),x3,x4]/\aJ H H2/\H2 t=some (.lst ((bB 711).map V.str))) {none,none,9,aB ht _,au} (λi Z H2 _ hq=>by(obtain⟨_,_,_,sm,_⟩:=hq;exact bf.of (sm _ _ nA))) ?_ ?_}
 ·rintro i x Z H2 hx ⟨x3,x4,rfl,gN,iR⟩;obtain⟨a,jA,p,tt,rfl,hp,mx⟩:=Paired.at fN hx;have lf:=good.len i;have g4:=(good a (aA jA)).2.2.1;refine{p,_,9,aY.of (gN _ _ hp),9,_,_,9,_,_,9,9,?_};refine{_,9,.inl {9,_,bf.of iR},_,9,_,_,_,_,9,9,iR,aY.of (gN _ _ mx),?_,?_}
  ·rw[ah,ah];exact bC (bu ∅)
  ·refine{_,_,9,λb u e=>?_,?_}
   ·rw[aL (bA e ht)];exact gN _ _ e
   ·rw[au,mK jA,aE]
 ·rintro Z H2 ⟨x3,x4,rfl,gN,iR⟩;rw[(bb fN),aT]at iR;refine{_,9,h0,9,{_,aY.of (gN _ _ Cc)},mN (xs:=hz.map V.str) (λi ys H3=>H3=H2/\i<=hz.length/\∃zs:Aag,ys=zs.map V.str/\zs.length<=i/\∀z∈zs,z∈kQ/\(bh z=true->z∈bB ba)) 665 {9,aO _,[],9,aw _,λz h=>by cases h} ?_ ?_ ?_}
  ·rintro i ys H3 hi ⟨rfl,_,zs,rfl,hl,_⟩;refine{aY.of (gN _ _ Cc),?_};rw[ah];exact hl
  ·rintro i x ys H3 N hc ⟨rfl,hi,zs,rfl,hl,B2⟩ hN;obtain⟨z,v5,rfl⟩:=iN hc;have bQ:=(aq.mp v5).1;have Ud:=hh z (aA v5);have bJ:=fR Ud;obtain⟨c,Ce⟩:=zD bJ.1;have yes:(bh z=true->z∈bB ba)->N (zs.map V.str++[.str z]) H3:=λhy0=>hN _ _ {rfl,bQ,zs++[z],by rw[aE];rfl,by rw[aC];show zs.length+1<=i+1;lia,λy hy=>by
    rcases aS.mp hy with hy|hy
    ·exact B2 y hy
    ·rw[ay.mp hy];exact⟨Ud,hy0⟩}
   refine{_,9,_,_,_,9,9,bC (bu ∅),(gW (j:=0) Ce),9,_,9,?_};refine dS 688 688
   ·exact nr {_,9,yes λhu=>by rw[zE bJ.1 Ce,hu]at c1;cases c1}
   ·refine{_,9,_,9,t,_,9,.inl (bf.of iR),9,zh _,_,9,?_};refine dS 720 (λc2=>hN _ _ {9,bQ,zs,9,8,B2})
    ·refine{_,9,yes λ_=>?_};rw[vo]at c2;exact aR c2
  ·rintro ys H3 ⟨rfl,_,zs,rfl,hl,B2⟩ l pj;have IC:aJ H3 (upd H3 l (.lst 648)):=aB pj _;have U7:upd H3 l (.lst 648) l=some (.lst 648):=au;generalize upd H3 l (.lst 648)=H4 at IC U7⊢;refine{l,_,9,.inl {bf.of U7,689}};have FC:aJ H4 (upd H4 p (.tup 648)):=aB hp _;have ep:upd H4 p (.tup 648) p=some (.tup 648):=au;generalize upd H4 p (.tup 648)=H5 at FC ep⊢;have uM:=gN.trans (IC.trans FC);refine{_,9,al,_,9,.inl {bf.of (uM _ _ nA),λp2 jC=>?_}};have OA:aJ H5 (upd H5 p2 (.tup cR)):=aB jC _;have ep2:upd H5 p2 (.tup cR) p2=some (.tup cR):=au;refine{96,λp3 gm=>?_};have FA:=aB gm (.tup [.ref p,.ref p2]);exact k p3 zs _ (uM.trans (OA.trans FA)) {{p3,p,p2,cR,9,au,FA _ _ (OA _ _ ep),FA _ _ ep2,dv.keep (b4.of (uM.trans (OA.trans FA))) fN},l1,l8,good,8,λz hz=>(B2 z hz).1} λz hz=>(B2 z hz).2
structure Dgr(P:Program)(w:World)(K:Frag)(mg:Aac)(base:Heap):Prop where
 dN:cn P w K mg base 1 "_law_draw" ["_law_feed_here","_law_many"] (vD K)
 L0:cn P w K mg base 2 "_law_atom" ["_law_feed_here","_law_names","_law_unknowns_here","_law_values"] (G4 K)
def oO:bZ ["_law_feed_here","_law_question_here","_law_names","_law_unknowns_here","_law_more","_law_atoms","_law_atom_here","_law_k"] ["_law_feed_here","_law_question_here","_law_names","_law_unknowns_here","_law_more"] (defScope BC):=gA 53
def a12:∀z∈(["a","12"]:Aag),z∈dW:=by decide+kernel
def Ho{α:Type}{l:List α}{i:Nat}{a b:α}(h:b∈l\/b=a):b∈l.take i++a::l.drop i:=by
 rcases h with h|h
 ·rw[<-jO i l]at h;rcases aS.mp h with h|h
  ·exact bx _ h
  ·exact bc _ (aG _ h)
 ·rw[h];exact bc _ aF
def WG{f:Addr}{fd:FuncData}(F:dG K "_law_grown" "_law_grown" BC f fd)(T:Txt K mg)(D:Dgr P w K mg base):cK P w K mg base dY 3 f fd ["_law_feed_here","_law_question_here","_law_names","_law_unknowns_here","_law_more"] (Ow K):=by
 refine F.ok oO (λ_ _ _ _ h=>by cases h;subst_vars;rfl) 55;obtain⟨fe,nl,ul,v,more,kN,us,hz,X1,rfl,hF,⟨tY,nul⟩,⟨zb,Mq,Eh,Us⟩,⟨B4,Mf,y0,yZ⟩,⟨⟨q,h0,aa,ahg,rfl,hq,Cc,m8,ZI⟩,l1,l8,good,h4,hh⟩,m0,m3,k⟩:=h;have la0:=bb ZI;refine{_,(az (dE 5 oO (dM iu)) (az (dR bG 9 (ir (bF bY (pv 1) aM (λ_ _=>9))) (fZ 6 oO) (aQ (gS (jk bR wA wz IU (pv 5) (cu (cl D.dN hr (cu (pv 0) (cW i9 (bN cY 9 T.eT bH (bX (pv 5))) aM))) (pv 6)))))) (az (dR bG 9 (og 9 T.sN (bX (pv 4))) (fZ 07 oO) (az (dE 6 oO (bF eF (pv 5) (cl D.dN hr (cu (pv 0) (bN cY 9 T.eT bH (bX (pv 5))))) (λ_ _=>9))) (az (df (b5 Qu 650 aM (cx _)) (aQ (dE 6 oO (cl D.L0 hr (fu (pv 0) (iZ (pv 2) (pv 3) (dM (cu cI cI))))))) cy) (aQ (df (b5 xj (bN cY 9 T.eT bH (bX (pv 5))) aM (cx _)) (aQ (gS (jk bR wA wz IU (pv 5) (cu (cl D.dN hr (cu (pv 0) (cW i9 (bN cY 9 T.eT bH (bX (pv 5))) aM))) (pv 6))))) cy))))) (aQ (bK (dX (cu (bF bY (pv 1) aM (λ_ _=>9)) (cQ d8 9 T.iw 53 (bX (pv 5)))))))))),?_}
 refine{409,λt ht=>?_};have nt:=hF.pf ht;have tu0:b4 H (upd H t 656):=(b4.refl H).new ht _;refine{_,rfl,_,_,_,_,rfl,rfl,aY.of (tu0 _ _ hq),rfl,aa,rfl,{ahg,aY.of (tu0 _ _ m8)},qA
  (λi Z H2=>∃(x6:Aao)(cR:Aan)(ba:Hy),Z=[some (.ref fe),some (.ref q),some (.ref nl),some (.ref ul),some (.int more),some (.ref t),x6,none]/\dJ K fe H2/\Ext fe H H2/\H2 t=some (.lst cR)/\dv H2 cR ba/\ba.length=i/\nM ba/\∀b∈X1.take i,b∈ba)
  {none,[],[],9,hF.new ht _,(Ext.refl fe H).new ht _,au,.nil,9,λa h=>(by cases h),λa h=>by simp at h} (λi Z H2 _ hq=>by(obtain⟨_,_,_,_,km,ko,_⟩:=hq;exact aY.of (hF.fk ko _ _ m8))) ?_ ?_}
 ·rintro i x Z H2 hx ⟨x6,cR,ba,rfl,km,ko,iR,MM,hlen,Uz,Qa⟩;obtain⟨a,jA,hAt⟩:=Paired.at ZI hx;have hi:=(aq.mp jA).1;have la:=bb MM;refine{_,9,.inl {9,_,bf.of iR},_,9,_,9,_,_,9,.inl {_,bf.of iR,9},_,_,9,9,fe,_,9,km,8,8,λi3 H3 a0 a1 jW kD=>?_};have jB:=kD _ _ nt iR;have ad0:=ko.trans kD;refine{_,9,_,_,_,_,9,9,jB,a0,8,8,?_};refine{_,_,ba.take i3.toNat++a::ba.drop i3.toNat,rfl,jW.lst jB nt _,ad0.own ht _,au,Paired.ins _ (dv.keep ((km.fk kD).lst jB _) MM) (hAt.keep (((hF.fk ad0)).lst jB (.lst (cR.take i3.toNat++x::cR.drop i3.toNat)))),by rw[HJ,hlen],λb hb=>?_,λb hb=>?_}
  ·rcases O6 hb with hb|rfl
   ·exact Uz b hb
   ·exact good b (aA jA)
  ·rw[bq,jA]at hb;rcases aS.mp hb with hb|hb
   ·exact Ho (.inl (Qa b hb))
   ·have:b=a:=by simpa using hb
    exact Ho (.inr this)
 ·rintro Z H2 ⟨x6,cR,ba,rfl,km,ko,iR,MM,hlen,Uz,Qa⟩;rw[la0,aT]at Qa;refine{_,rfl,more,rfl,by lia,by lia,Cm
   (λj Z H3=>∃(x6 x7:Aao)(cR:Aan)(ba:Hy),Z=[some (.ref fe),some (.ref q),some (.ref nl),some (.ref ul),some (.int more),some (.ref t),x6,x7]/\dJ K fe H3/\Ext fe H H3/\H3 t=some (.lst cR)/\dv H3 cR ba/\1<=ba.length/\ba.length<=08/\nM ba/\∀b∈X1,b∈ba)
   {x6,none,cR,ba,9,km,ko,iR,MM,8,8,Uz,Qa} ?_ ?_}
  ·rintro j Z H3 hj ⟨x6,x7,cR,ba,rfl,jW,kD,jB,UO,n1,n8,Pg,Ky⟩;have la:=bb UO;refine{_,9,_,9,_,9,_,_,9,.inl {_,bf.of jB,9},fe,_,9,jW,8,8,λi4 H4 a0 a1 kY jX=>?_};have B5:=jX _ _ nt jB;obtain⟨y,hy⟩:∃y,cR[i4.toNat]?=some y:={_,av ∅};obtain⟨a,jA,hAt⟩:=Paired.at UO hy;have ev:sd cR i4=some y:=by
    have e:i4=((i4.toNat:Nat):Int):=by lia
    rw[e];exact gW hy
   refine{_,_,_,_,9,9,bf.of B5,ev,?_};have Rp:=kD.trans jX;have ML:=dv.keep (jW.fk jX) UO;have fin:∀(x:V)(b:Str×Aag)(H5:Hp),dJ K fe H5->Ext fe H4 H5->wJ H5 x b->(b.1∈dW/\1<=b.2.length/\b.2.length<=4/\∀z∈b.2,z∈kQ)->∀(i6:Int)(H6:Hp),0<=i6->i6<=(cR.length:Int)->ba.length<08->dJ K fe H6->Ext fe H5 H6->
     ∃(wx:Aan)(ij:Hy),dJ K fe (upd H6 t (.lst (cR.take i6.toNat++x::cR.drop i6.toNat)))/\Ext fe H (upd H6 t (.lst (cR.take i6.toNat++x::cR.drop i6.toNat)))/\upd H6 t (.lst (cR.take i6.toNat++x::cR.drop i6.toNat)) t=some (.lst wx)/\dv (upd H6 t (.lst (cR.take i6.toNat++x::cR.drop i6.toNat))) wx ij/\1<=ij.length/\ij.length<=08/\nM ij/\(∀b∈X1,b∈ij):=λx b H5 rl nE hx gb i6 H6 c0 c1 l7 rh kn=>by
    have Mg:=(nE.trans kn) _ _ nt B5;refine{_,ba.take i6.toNat++b::ba.drop i6.toNat,rh.lst Mg nt _,((Rp.trans nE).trans kn).own ht _,au,Paired.ins _ (dv.keep ((kY.fk (nE.trans kn)).lst Mg _) ML) (hx.keep ((rl.fk kn).lst Mg _)),by rw[HJ];lia,by rw[HJ];lia,λc hc=>?_,λc hc=>Ho (.inl (Ky c hc))};rcases O6 hc with hc|rfl
    ·exact Pg c hc
    ·exact gb
   refine{_,9,fe,3,9,kY,7,7,λi5 H5 b0 b1 rl nE=>{_,_,9,9,_,9,?_}};have Ee:=nE _ _ nt B5;refine dS 669 669
   ·--a new atom
    refine{_,9,_,9,_,9,96,λl6 B8=>?_};have kn:Ext fe H5 (upd H5 l6 713):=(Ext.refl fe H5).new B8 _;have adY:=nE.trans kn;have MZ:=Rp.trans adY;refine{fe,nl,ul,l6,kN,us,["a","12"],9,(rl.new B8 713),{tY,nul,(rl.pf B8)},{MZ _ _ tY zb,Mq,Eh},{MZ _ _ nul B4,Mf,y0},{au,7,7},λr b H7 uS Gp hb MC hb2 Po hbz=>?_};have EZ:=adY.trans Gp;have Ul:=EZ _ _ nt B5;refine{_,9,_,_,9,.inl {_,bf.of Ul,9},_,_,9,9,_,9,?_};refine dS (λc8=>?_) (λc8=>{_,_,cR,ba,9,uS,Rp.trans EZ,Ul,dv.keep (kY.fk EZ) ML,n1,n8,Pg,Ky})
    ·have c8:=aR c8;refine{_,9,.inl {9,_,bf.of Ul},_,9,_,9,_,_,9,.inl {_,bf.of Ul,9},_,_,9,9,fe,_,9,uS,8,8,λi8 H8 d0 d1 Ek zj=>?_};refine{_,9,_,_,_,_,9,9,zj _ _ nt Ul,d0,8,8,?_};obtain⟨wx,ij,f1,f2,f3,f4,f5,f6,f7,f8⟩:=fin _ b H7 uS EZ hb ({Us _ MC,hb2,Po,λz hz=>(hbz z hz).elim (λh=>J0 (yZ z h)) (λh=>tN (a12 z h))}) i8 H8 d0 ∅ ∅ Ek zj;exact⟨_,_,wx,ij,rfl,f1,f2,f3,f4,f5,f6,f7,f8⟩
   ·refine{_,9,_,_,9,.inl {_,bf.of Ee,9},_,_,9,9,_,9,?_};refine dS (λc8=>?_) (λc8=>{_,_,cR,ba,9,rl,Rp.trans nE,Ee,dv.keep (kY.fk nE) ML,n1,n8,Pg,Ky})
    ·have c8:=aR c8;refine{_,9,.inl {9,_,bf.of Ee},_,9,_,9,_,_,9,.inl {_,bf.of Ee,9},_,_,9,9,fe,_,9,rl,8,8,λi8 H8 d0 d1 Ek zj=>?_};refine{_,9,_,_,_,_,9,9,zj _ _ nt Ee,d0,8,8,?_};obtain⟨wx,ij,f1,f2,f3,f4,f5,f6,f7,f8⟩:=fin y a H5 rl nE ((hAt.keep (jW.fk jX)).keep (kY.fk nE)) (Pg a (aA jA)) i8 H8 d0 ∅ ∅ Ek zj;exact⟨_,_,wx,ij,rfl,f1,f2,f3,f4,f5,f6,f7,f8⟩
  ·rintro Z H3 ⟨x6,x7,cR,ba,rfl,jW,kD,jB,UO,n1,n8,Pg,Ky⟩;have tu3:=hF.fk kD;refine{_,9,_,_,_,_,9,9,aY.of (tu3 _ _ hq),9,_,9,t,_,9,.inl {bf.of jB,689}};refine{96,λp2 jC=>?_};have IC:aJ H3 (upd H3 p (.tup cR)):=aB hp _;have FC:=aB jC (.tup [.ref h0,.ref p]);exact k p2 ba _ ((jW.new hp (.tup cR)).new jC (.tup [.ref h0,.ref p])) ((kD.new hp _).new jC _) {{p2,h0,p,cR,9,au,(tu3.trans (b4.of (IC.trans FC))) _ _ Cc,FC _ _ au,dv.keep (b4.of (IC.trans FC)) UO},n1,n8,Pg,h4,hh} Ky
theorem Paired.erase{α β:Type}{F:α->β->Prop}:∀{l₁:List α}{aab:List β}(i:Nat),Paired F l₁ aab->Paired F (l₁.eraseIdx i) (aab.eraseIdx i)
 |_,_,_,.nil=>.nil
 |_,_,0,.cons _ t=>t
 |_,_,i+1,.cons a t=>.cons a (Paired.erase i t)
theorem Paired.set{α β:Type}{F:α->β->Prop}{a:α}{b:β}(q:F a b):∀{l₁:List α}{aab:List β}(i:Nat),Paired F l₁ aab->Paired F (l₁.set i a) (aab.set i b)
 |_,_,_,.nil=>.nil
 |_,_,0,.cons _ t=>.cons q t
 |_,_,i+1,.cons c t=>.cons c (Paired.set q i t)
def Ext.of(s:aJ H H'):Ext f H H':=λb o _ h=>s b o h
def O3{n j:Nat}(h:j<n):F2 n (j:Int)=some j:=by unfold F2;simp;lia
end
inductive Oy(K:Frag)(vs:Aan)(H:Hp)(Q:VK)(_x3:XK):Prop
 |mk (f nl ul:Addr) (v:V) (us:Aag) (hz:Aag) (ba:Hy) (_:vs=[.ref f,v,.ref nl,.ref ul]) (_:dJ K f H) (_:ul≠f) (_:X4 H ul us oK) (_:QW H v hz ba) (_:∀(r:Addr)(kB:Aag)(ij:Hy)(H':Hp),dJ K f H'->Ext f H H'->QW H' (.ref r) kB ij->mB kB ij->Q (.ref r) H')
inductive Sg(K:Frag)(vs:Aan)(H:Hp)(Q:VK)(_x3:XK):Prop
 |mk (f:Addr) (most:Int) (_:vs=[.ref f,.int most]) (_:dJ K f H) (_:1<=most) (_:most<=4) (_:∀(r:Addr)(one other:V)(bJ bM:Aag)(bo bg:Hy)(H':Hp),dJ K f H'->Ext f H H'->H' r=some (.tup [one,other])->QW H' one bJ bo->QW H' other bM bg->mB bJ bo->mB bM bg->Q (.ref r) H')
def YI{H:Hp}{v:V}{hz kN:Aag}{ba:Hy}(q:PV H v hz ba)(l1:1<=ba.length)(l8:ba.length<=08)(g:GoodW kN ba)(hn:∀z∈kN,z∈dW)(h4:hz.length<=4)(kB:∀z∈hz,z∈bB ba):QW H v hz ba:=by
 have gt:nM ba:=λa ha=>by obtain⟨g1,g2,g3,g4⟩:=g a ha;exact{hn _ g1,g2,g3,λz hz=>(g4 z hz).elim J0 tN}
 exact{q,l1,l8,gt,h4,λz hz=>gt.flat (kB z hz)}
section
variable{P:Program}{w:World}{K:Frag}{mg:Aac}{base:Heap}
def OG{a:Addr}{H:Hp}{xs:Aan}{lo hi:Option Int}{Q:VK}(ha:H a=some 664)
  (k:∀(p:Addr)(H':Hp),aJ H H'->H' p=some (.tup (lD xs lo hi))->Q 666 H'):acD K 654 lo hi H Q:=by
 refine{a,xs,9,aY.of ha,λh=>?_,λh p hp=>k p _ (aB hp _) au}
 ·refine k a H (aJ.refl H) ?_;unfold lD;rw[h.1,h.2,sY,CP,aT];exact ha
def OH{a b:Addr}{H:Hp}{xs ys:Aan}{Q:VK}(ha:H a=some 664)(hb:H b=some (.tup ys))(hl:xs.length+ys.length<=1000)
  (k:∀(p:Addr)(H':Hp),aJ H H'->H' p=some (.tup (xs++ys))->Q 666 H'):YH K 654 (.ref b) H Q:=by
 refine{a,b,xs,ys,9,9,aY.of ha,aY.of hb,bC (bu hl),λh=>k b H (aJ.refl H) (by rw[h,jP];exact hb),λ_ h=>k a H (aJ.refl H) (by rw[h,c7];exact ha),λ_ _ p hp=>k p _ (aB hp _) au}
structure Dbe(P:Program)(w:World)(K:Frag)(mg:Aac)(base:Heap):Prop where
 dN:cn P w K mg base 1 "_law_draw" ["_law_feed_here","_law_many"] (vD K)
 LX:cn P w K mg base 1 "_law_kept" ["_law_head_here","_law_atoms"] KP
def nR:bZ ["_law_feed_here","_law_question_here","_law_names","_law_unknowns_here","_law_atoms","_law_at","_law_name","_law_terms_here","_law_spot","_law_term"] ["_law_feed_here","_law_question_here","_law_names","_law_unknowns_here"] (defScope EG):=gA 53
def aee{E G:Prop}(k:E->G)(h:E):G:=k h
def WI{f:Addr}{fd:FuncData}(F:dG K "_law_bent" "_law_bent" EG f fd)(T:Txt K mg)(D:Dbe P w K mg base):cK P w K mg base dY 2 f fd ["_law_feed_here","_law_question_here","_law_names","_law_unknowns_here"] (Oy K):=by
 refine F.ok nR (λ_ _ _ _ h=>by cases h;subst_vars;rfl) 55;obtain⟨fe,nl,ul,v,us,hz,ba,rfl,hF,nul,⟨B4,Mf,y0,yZ⟩,⟨⟨q,h0,aa,cR,rfl,hq,Cc,m8,fN⟩,l1,l8,good,h4,hh⟩,k⟩:=h;have la:cR.length=ba.length:=bb fN;have Y8:(us.map V.str).length=us.length:=ah _;refine{_,(az (dE 4 nR (cQ kF 9 T.pO 53 (bX (bF bY (pv 1) aM (λ_ _=>9))))) (az (dE 5 nR (cl D.dN hr (cu (pv 0) (bN cY 9 T.eT bH (bX (pv 4)))))) (az (df (PW.pt (Lb (b5 lO 650 aM (cx _)) (Hc (b5 Qu (bN cY 9 T.eT bH (bX (pv 4))) aM (cx _))))) (aQ (gS (jk bR PySem.F.slot_list_pop PySem.F.type_list_pop WM (pv 4) (bX (pv 5))))) (az (yM (bF eF (pv 4) (pv 5) (λ_ _=>9)) (jy 9 (b9 (fZ 6 nR) (b9 (fZ 07 nR) fQ)))) (az (dE 08 nR (cl D.dN hr (cu (pv 0) (bN cY 9 T.eT bH (bX (pv 07)))))) (az (dE 09 nR (bF eF (cW vR (pv 3) (dM (cu cI cI))) (cl D.dN hr (cu (pv 0) (cW i9 (bN cY 9 T.eT bH (bX (pv 3))) aM))) (λ_ _=>9))) (aQ (yM (dX (cu (pv 6) (cW OP (cW OP (mJ OB (pv 07) oR (oQ (pv 08))) (dX (bX (pv 09)))) (mJ OB (pv 07) (oQ (cW i9 (pv 08) aM)) oR)))) (Lj (pv 4) (pv 5) set_list))))))) (aQ (bK (cl D.LX hr (cu (bF bY (pv 1) aM (λ_ _=>9)) (pv 4)))))))),?_}
 refine{_,9,_,_,_,_,9,9,aY.of hq,9,aa,_,9,.inr (aY.of m8),λt ht=>?_};have nt:=hF.pf ht;have zf:=hF.new ht (.lst cR);have xr:Ext fe H (upd H t (.lst cR)):=(Ext.refl fe H).new ht _;have et:upd H t (.lst cR) t=some (.lst cR):=au;generalize upd H t (.lst cR)=H1 at zf xr et⊢;refine{_,9,_,9,_,_,9,.inl {_,bf.of et,9},fe,_,9,zf,8,8,λi2 H2 a0 a1 km ko=>?_};obtain⟨j,rfl⟩:∃j:Nat,i2=(j:Int):={i2.toNat,8};have hj:j<cR.length:=by lia
 refine{_,9,fe,2,9,km,7,7,λi3 H3 b0 b1 jW kD=>{9,_,9,?_}};have Rr:=ko.trans kD;have jB:=Rr _ _ nt et;have MZ:=xr.trans Rr;have Oi:=hF.fk MZ;have fin:∀{wx:Aan}{ij:Hy}{H4:Hp},dJ K fe H4->Ext fe H H4->H4 t=some (.lst wx)->dv H4 wx ij->1<=ij.length->ij.length<=08->nM ij->
   KP [.ref h0,.ref t] H4 Q E0:=λ{wx ij H4} kY jX B5 ML n1 n8 hg=>by
  exact{h0,t,hz,wx,ij,9,hF.fk jX _ _ Cc,B5,ML,n1,n8,hg,h4,hh,λr kB H' sm qw rg=>k r kB ij H' (kY.same sm) (jX.trans (Ext.of sm)) qw rg}
 obtain⟨y,hy⟩:∃y,cR[j]?=some y:={_,av hj};obtain⟨a,jA,p,tt,rfl,hp,mx⟩:=Paired.at fN hy;have ga:=good a (aA jA);have IW:(a.2.map V.str).length=a.2.length:=ah _;have g1:=ga.2.1;have g4:=ga.2.2.1;refine aee (λels=>dS (λc=>{_,9,_,_,9,.inl {_,bf.of jB,9},_,_,9,9,_,9,dS 720 (λc2=>els)}) (λc=>fU els)) ?_
 ·have c2:(1:Int)<(cR.length:Int):=aR c2;refine{_,9,.inl {9,_,bf.of jB},_,9,t,_,_,j,_,9,9,jB,8,8,(HI (O3 hj)).1,hy,?_};have Kp:b4 H3 (upd H3 t (.lst (cR.eraseIdx j))):=(b4.refl H3).lst jB _;refine{_,9,_,_,_,_,9,9,aY.of (Oi.trans Kp _ _ hq),9,_,9,fin (jW.lst jB nt _) (MZ.own ht _) au (ij:=ba.eraseIdx j) (Paired.erase j (dv.keep (Oi.trans Kp) fN)) (by rw[AG];split<;>lia) (by rw[AG];split<;>lia) λb hb=>good b (List.mem_of_mem_eraseIdx hb)}
 refine{_,9,_,9,_,_,_,_,9,9,bf.of jB,gW hy,p,_,9,aY.of (Oi _ _ hp),9,_,_,9,_,_,9,9,?_};refine{_,9,_,9,_,_,9,.inr {_,aY.of (Oi _ _ mx),9},fe,_,9,jW,8,8,λi4 H4 c0 c1 kY jX=>?_};obtain⟨sp,rfl⟩:∃j:Nat,i4=(j:Int):={i4.toNat,8};have M0:=MZ.trans jX;refine{_,9,96,λl5 Pd=>?_};have n5:=kY.pf Pd;have nE:Ext fe H4 (upd H4 l5 713):=(Ext.refl fe H4).new Pd _;have rl:=kY.new Pd 713;have e5:upd H4 l5 713 l5=some 713:=au;generalize upd H4 l5 713=H5 at nE rl e5⊢;have adD:=(M0.trans nE) _ _ nul B4;refine{_,_,_,_,9,9,adD,e5,bC (bu (by show(us.map V.str).length+2<=1000;lia)),λl6 B8=>?_};have n6:=rl.pf B8;have kn:Ext fe H5 (upd H5 l6 (.lst (us.map V.str++[.str "a",.str "12"]))):=(Ext.refl fe H5).new B8 _;have rh:=rl.new B8 (.lst (us.map V.str++[.str "a",.str "12"]));have e6:upd H5 l6 (.lst (us.map V.str++[.str "a",.str "12"])) l6=some (.lst ((us++(["a","12"]:Aag)).map V.str)):=by rw[au,aE];rfl
 generalize upd H5 l6 (.lst (us.map V.str++[.str "a",.str "12"]))=H6 at kn rh e6⊢;have agE:=kn _ _ nul adD;refine{_,9,_,9,_,_,9,.inl {_,bf.of agE,9},_,_,9,9,fe,_,9,rh,8,8,λi7 H7 d0 d1 uS Gp=>?_};obtain⟨tm,htm,evt⟩:=pZ (zs:=us++(["a","12"]:Aag)) d0 (by rw[aC];show i7<((us.length+2:Nat):Int);lia);have htT:tm∈kQ:=by
  rcases aS.mp htm with h|h
  ·exact J0 (yZ tm h)
  ·exact tN (a12 tm h)
 refine{_,_,_,_,9,9,bf.of (Gp _ _ n6 e6),evt,?_};have EZ:=(nE.trans kn).trans Gp;have ag8:=M0.trans EZ;have R6:=hF.fk ag8;refine{_,9,_,9,vS {_,9,_,9,OG (R6 _ _ mx) λp8 H8 Yv hp8=>?_}};refine{_,9,(by show 1<=sizeLine;decide),λp9 hp9=>?_};have vF:aJ H8 (upd H8 p9 (.tup [.str tm])):=aB hp9 _;have e9:upd H8 p9 (.tup [.str tm]) p9=some (.tup [.str tm]):=au;generalize upd H8 p9 (.tup [.str tm])=H9 at vF e9⊢;have lc1:=tL (a.2.map V.str) none (some (sp:Int));refine OH (vF _ _ hp8) e9 (by show(lD (a.2.map V.str) none (some (sp:Int))).length+1<=1000;lia) λp10 hV Qh QV=>?_;have Yx:=Yv.trans (vF.trans Qh);refine{_,9,_,9,_,_,9,9,_,9,vS (OG (Yx _ _ (R6 _ _ mx)) λOO mC xJ W4=>?_)};have lc2:=tL (a.2.map V.str) (some ((sp:Int)+1)) none;refine OH (xJ _ _ QV) W4 (by rw[aC];show(lD (a.2.map V.str) none (some (sp:Int))).length+1+(lD (a.2.map V.str) (some ((sp:Int)+1)) none).length<=1000;lia) λS6 uY afB adK=>?_;refine{96,λLr agK=>?_};have V1:aJ uY (upd uY Lr (.tup [.str a.1,.ref S6])):=aB agK _;have ZU:upd uY Lr (.tup [.str a.1,.ref S6]) Lr=some (.tup [.str a.1,.ref S6]):=au;generalize upd uY Lr (.tup [.str a.1,.ref S6])=qD at V1 ZU⊢;have Yw:aJ H7 qD:=Yx.trans (xJ.trans (afB.trans V1));have MI:=uS.same Yw;have Rq:Ext fe H3 qD:=(jX.trans EZ).trans (Ext.of Yw);have QS:=Rq _ _ nt jB;refine{_,9,_,9,t,_,_,_,9,9,QS,O3 hj,?_};have ec:lD (a.2.map V.str) none (some (sp:Int))++[.str tm]++lD (a.2.map V.str) (some ((sp:Int)+1)) none=(a.2.take sp++[tm]++a.2.drop (sp+1)).map V.str:=by rw[Vi,show(sp:Int)+1=((sp+1:Nat):Int)from rfl,XJ,aE,aE,A8,List.map_drop];rfl
 rw[ec]at adK;have Kp:b4 H3 (upd qD t (.lst (cR.set j (.ref Lr)))):=(jW.fk Rq).lst QS _;have tuL:b4 qD (upd qD t (.lst (cR.set j (.ref Lr)))):=(b4.refl qD).lst QS _;have lsp:sp<a.2.length:=by lia
 refine{_,9,_,_,_,_,9,9,aY.of (Oi.trans Kp _ _ hq),9,_,9,fin (MI.lst QS nt _) ((MZ.trans Rq).own ht _) au (ij:=ba.set j (a.1,a.2.take sp++[tm]++a.2.drop (sp+1))) (Paired.set {Lr,S6,9,tuL _ _ ZU,tuL _ _ (V1 _ _ adK)} j (dv.keep (Oi.trans Kp) fN)) (by rw[xA];exact l1) (by rw[xA];exact l8) λb hb=>?_};rcases List.mem_or_eq_of_mem_set hb with hb|rfl
 ·exact good b hb
 ·refine{ga.1,?_,?_,λz hz=>?_}
  ·show 1<=(a.2.take sp++[tm]++a.2.drop (sp+1)).length;rw[aC,aC];show 1<=(a.2.take sp).length+1+_;lia
  ·show(a.2.take sp++[tm]++a.2.drop (sp+1)).length<=4;rw[aC,aC,aZ,dD];show min sp a.2.length+1+(a.2.length -(sp+1))<=4;lia
  ·have hz:z∈a.2.take sp++[tm]++a.2.drop (sp+1):=hz;rcases aS.mp hz with h|h
   ·rcases aS.mp h with h|h
    ·exact ga.2.2.2 z (iJ h)
    ·rw[ay.mp h];exact htT
   ·exact ga.2.2.2 z (AE h)
structure Dpa(P:Program)(w:World)(K:Frag)(mg:Aac)(base:Heap):Prop where
 dN:cn P w K mg base 1 "_law_draw" ["_law_feed_here","_law_many"] (vD K)
 yW:cn P w K mg base 2 "_law_words" ["_law_feed_here","_law_many"] (GY K)
 F0:cn P w K mg base 3 "_law_question" ["_law_feed_here","_law_names","_law_most"] (D0 K)
 Ad:cn P w K mg base 1 "_law_unknowns" ["_law_question_here"] yG
 sO:cn P w K mg base 2 "_law_led_question" ["_law_question_here","_law_given"] KO
 abr:cn P w K mg base 3 "_law_grown" ["_law_feed_here","_law_question_here","_law_names","_law_unknowns_here","_law_more"] (Ow K)
 adh:cn P w K mg base 2 "_law_bent" ["_law_feed_here","_law_question_here","_law_names","_law_unknowns_here"] (Oy K)
def ki:bZ ["_law_feed_here","_law_most","_law_names","_law_other","_law_unknowns_here","_law_way","_law_given","_law_k","_law_unknown","_law_one"] ["_law_feed_here","_law_most"] (defScope EC):=gA 53
def ar:∀z∈(["a","r"]:Aag),z∈dW:=by decide+kernel
def qe{z:Str}{fl:Aag}:z∈fh fl↔z∈fl/\bh z=true:=by rw[C8,Dg,c6]
def BK{g:List 667}{u t:Str}(h:∀p∈g,bh p.1=true)(hu:bh u=true):∀p∈j8 g u t,bh p.1=true:=λp hp=>by
 unfold j8 at hp;split at hp
 ·obtain⟨q,hq,rfl⟩:=aD.mp hp;split
  ·exact h q hq
  ·exact h q hq
 ·rcases aS.mp hp with hp|hp
  ·exact h p hp
  ·rw[ay.mp hp];exact hu
def mB.mono{hz:Aag}{ba ij:Hy}(h:mB hz ba)(s:∀b∈ba,b∈ij):mB hz ij:=λz kB hu=>by obtain⟨a,ha,kB⟩:=ix.mp (h z kB hu);exact ix.mpr {a,s a ha,kB}
def mB.led{hz:Aag}{ba:Hy}{g:List 667}(h:mB hz ba)(hg:∀p∈g,bh p.1=true):mB (hz.map (dk g)) (Ac g ba):=λz kB hu=>by
 obtain⟨y,hy,rfl⟩:=aD.mp kB;have hyu:bh y=true:=by
  unfold dk IX at hu;cases q:g.find? (λp=>decide (p.1=y))with
  |none=>rw[q]at hu;exact hu
  |some p=>
   have e:p.1=y:=aR (nJ (p:=λp:Str×Str=>decide (p.1=y)) q);rw[<-e];exact hg p (gg q)
 obtain⟨a,ha,hya⟩:=ix.mp (h y hy hyu);exact ix.mpr {_,aD.mpr ⟨a,ha,rfl⟩,bS hya}
def aba{f:Addr}{fd:FuncData}(F:dG K "_law_pair" "_law_pair" EC f fd)(T:Txt K mg)(D:Dpa P w K mg base):cK P w K mg base dY 4 f fd ["_law_feed_here","_law_most"] (Sg K):=by
 refine F.ok ki (λ_ _ _ _ h=>by cases h;subst_vars;rfl) 55;obtain⟨fe,most,rfl,hF,m1,m4,k⟩:=h;have big:10000<=sizeLine:=by rw[bW];decide
 have hu:=oZ hr;refine{_,(az (dE 2 ki (cl D.yW hr (cu (pv 0) (cW i9 aM 650)))) (az (dE 3 ki (cl D.F0 hr (iZ (pv 0) (pv 2) (pv 1)))) (az (oP (j:=4) ki.nd 9 9 9 678 (dH (cl D.yW hr (cu (pv 0) aM))) (λ_ _ _ _=>(cW vc cI (pv 0)))) (az (dE 5 ki 650) (az (df (b5 lO (pv 5) aM (cx _)) (aQ (bK (dX (cu (cl D.F0 hr (iZ (pv 0) (pv 2) (pv 1))) (pv 3))))) cy) (az (dE 6 ki jf) (az (dR bG 9 (aaZ 9 T.xZ (bX (cl D.Ad hr (bX (pv 3))))) (jy 9 (b9 (fZ 07 ki) (b9 (fZ 08 ki) fQ))) (az (yL hu (pv 6) (pv 08) (bF eF (cW vR (pv 4) (dM (cu cI cI))) 650 (λ_ _=>9)) 9) (aQ (df (b5 Qu (pv 5) aM (cx _)) (aQ (yL hu (pv 6) (pv 08) (bF eF (dM (fu cI (fu cI (fu cI (iZ cI cI cI))))) (cW pN (pv 07) aM) (λ_ _=>9)) 9)) cy)))) (az (dE 09 ki (cl D.abr hr (fu (pv 0) (fu (cl D.sO hr (cu (pv 3) (pv 6))) (iZ (pv 2) (pv 4) (cW tX 650 (cQ Vp 9 T.aeQ 53 (bX (jK xj (pv 5) aM (cx _)))))))))) (az (df (b5 BO (pv 5) (dX (cu aM aM)) 649) (aQ (dE 09 ki (cl D.adh hr (fu (pv 0) (iZ (pv 09) (pv 2) (pv 4)))))) cy) (aQ (bK (dX (cu (pv 09) (pv 3)))))))))))))),?_}
 refine{_,9,_,9,fe,3,9,hF,7,7,λi1 H1 a0 a1 zf xr=>{_,_,9,9,fe,_,9,zf,8,8,λnl kN H2 km ko tY nl0 zb hln ndn Us=>?_}};refine{_,9,_,9,_,9,fe,nl,most,kN,9,km,tY,{zb,8,8},m1,8,λr2 bM bg H3 jW kD hQ3 l1 l2 hg Ue Ed=>?_};have uP:=YI hQ3 l1 ∅ hg Us Ue Ed;have Q1:mB bM bg:=λz hz _=>Ed z hz;refine{_,9,fe,6,9,jW,7,7,λwl mm H4 kY jX nwl wl0 yY hlw ndw rg=>?_};refine{wl,9,{_,bf.of yY},iS (xs:=mm.map V.str) (λi ys H5=>H5=H4/\i<=mm.length/\ys=((mm.take i).map j7).map V.str) 665 {9,aO _,9} ?_ ?_ ?_}
 ·rintro i ys H5 hi ⟨rfl,_,rfl⟩;refine{bf.of yY,?_};rw[ah,ah,aZ];lia
 ·rintro i x ys H5 N hc ⟨rfl,hi,rfl⟩ hN;obtain⟨z,hz,rfl⟩:=iN hc;have bQ:=(aq.mp hz).1;have lw:=aR (bL.mp Ki z (rg _ (aA hz)));refine{_,9,_,_,9,9,by rw[YK];lia,hN _ _ {9,bQ,?_}};rw[bq,hz,aE,aE];rfl
 rintro ys H5 ⟨rfl,_,rfl⟩ l hl;rw[ah,aT];have uQ:=kY.pf hl;have rh:=kY.new hl 668;have A2:upd H5 l 668 l=some 668:=au;have kn:=jX.new hl 668;generalize upd H5 l 668=H6 at rh A2 kn⊢;have yZ:∀z∈mm.map j7,z∈oK:=λz hz=>by obtain⟨y,hy,rfl⟩:=aD.mp hz;exact bS (rg y hy)
 have Y8:(mm.map j7).length=6:=by rw[ah];lia
 generalize mm.map j7=us at A2 yZ Y8;have aht:(us.map V.str).length=6:=by rw[ah];exact Y8
 refine{_,9,fe,6,9,rh,7,7,λway H7 b0 b1 uS Gp=>?_};have Xs:=kn.trans Gp;have Xw:=((xr.trans ko).trans kD).trans Xs;have adL:=Xs _ _ tY (kD _ _ tY zb);have W7:=Gp _ _ uQ A2;have YJ:=uP.keep (jW.fk Xs);refine{_,9,9,_,9,?_};refine dS 669 669
 ·refine{_,9,_,9,_,9,fe,nl,most,kN,9,uS,tY,{adL,8,8},m1,8,λr1 bJ bo H8 Ek zj hQ8 n1 n2 ZE h84 h8z=>?_};refine{_,9,96,689};have tu8:=(b4.refl H8).new hp (.tup [.ref r1,.ref r2]);exact k p (.ref r1) (.ref r2) bJ bM bo bg _ (Ek.new hp _) ((Xw.trans zj).new hp _) au ((YI hQ8 n1 ∅ ZE Us h84 h8z).keep tu8) ((YJ.keep (uS.fk zj)).keep tu8) (λz hz _=>h8z z hz) Q1
 intro d m7;have nd:=uS.pf m7;have Ek:=uS.new m7 651;have zj:Ext fe H7 (upd H7 d 651):=(Ext.refl fe H7).new m7 _;have hd8:upd H7 d 651 d=some (.dK (gD [])):=au;refine{_,9,.ref r2,bM,bg,9,YJ.keep (uS.fk zj),λur H9 vF YV Zq=>?_};have lun:(fh (bB bg)).length<=32:=by have h1:=yU (bB bg);have h2:=uP.good.len bg.length;rw[aT]at h2;have:=uP.l8;lia
 have ac0:=Ek.pf YV;have ndu:ur≠d:=λe=>by rw[e,hd8]at YV;cases YV
 refine{ur,rfl,{_,bf.of Zq},Xo
  (λi Z hV=>∃(x7 x8:Aao)(g:List 667),Z=[some (.ref fe),some (.int most),some (.ref nl),some (.ref r2),some 727,some (.int way),some 700,x7,x8,none]/\dJ K fe hV/\Ext fe H7 hV/\hV ur=some (.lst ((fh (bB bg)).map V.str))/\hV d=some (.dK (gD g))/\g.length<=2*i/\(∀p∈g,p.2∈kQ)/\∀p∈g,bh p.1=true)
  {none,none,[],9,Ek.same vF,zj.trans (Ext.of vF),Zq,vF _ _ hd8,aO _,λp h=>(by cases h),λp h=>by cases h} (λi Z hV _ hq=>by(obtain⟨_,_,_,_,_,_,h,_⟩:=hq;exact bf.of h)) ?_ ?_}
 ·rintro i x p Z hV hx ⟨x7,x8,g,rfl,Xf,Rt,QR,Q2,Pf,Pe,ZD⟩ hp;obtain⟨u,oq,rfl⟩:=iN hx;have hi:=(aq.mp oq).1;have MK:=Xf.new hp (.tup [.int (i:Int),.str u]);have Xv:=Rt.new hp (.tup [.int (i:Int),.str u]);have adS:upd hV p (.tup [.int (i:Int),.str u]) d=some (.dK (gD g)):=by rw[aL (bA Q2 hp)];exact Q2
  have Zp:upd hV p (.tup [.int (i:Int),.str u]) ur=some (.lst ((fh (bB bg)).map V.str)):=by rw[aL (bA QR hp)];exact QR
  refine{p,_,9,aY.of au,9,_,_,9,_,_,9,9,?_};generalize upd hV p (.tup [.int (i:Int),.str u])=mC at MK Xv adS Zp⊢;refine{_,9,96,λZe adO=>?_};have y12:Ext fe mC (upd mC Ze (.lst [.str "a",.str "r"])):=(Ext.refl fe mC).new adO _;have MJ:=MK.new adO (.lst [.str "a",.str "r"]);have e12:upd mC Ze (.lst [.str "a",.str "r"]) Ze=some (.lst [.str "a",.str "r"]):=au;generalize upd mC Ze (.lst [.str "a",.str "r"])=uY at y12 MJ e12⊢;refine{_,_,_,_,9,9,(Xv.trans y12) _ _ uQ W7,e12,bC (bu (by show(us.map V.str).length+2<=1000;lia)),λl13 W8=>?_};have y13:Ext fe uY (upd uY l13 (.lst (us.map V.str++[.str "a",.str "r"]))):=(Ext.refl fe uY).new W8 _;have MI:=MJ.new W8 (.lst (us.map V.str++[.str "a",.str "r"]));have ZU:upd uY l13 (.lst (us.map V.str++[.str "a",.str "r"])) l13=some (.lst ((us++(["a","r"]:Aag)).map V.str)):=by rw[au,aE];rfl
  refine{_,9,fe,08,9,MI,7,7,λi14 Ny c0 c1 HL M0=>?_};obtain⟨tm,htm,evt⟩:=pZ (zs:=us++(["a","r"]:Aag)) c0 (by rw[aC];show i14<((us.length+2:Nat):Int);lia);have hu0:=(qe.mp (aA oq)).2;have htT:tm∈kQ:=by
   rcases aS.mp htm with h|h
   ·exact J0 (yZ tm h)
   ·exact tN (ar tm h)
  have Oc:=(y12.trans y13).trans M0;refine{_,_,_,_,9,9,bf.of (M0 _ _ (MJ.pf W8) ZU),evt,?_};refine{_,9,_,9,d,_,9,AK.k (k:=Sum.inr u) (Oc _ _ nd adS) (by unfold gD;rw[ah];exact bu ∅),?_};rw[Hg];have pl:=Lc g u tm;have pv':=BJ (u:=u) Pe htT;have MH:dJ K fe (upd Ny d (.dK (gD (j8 g u tm)))):=by obtain⟨x,y,z,hf⟩:=HL;exact{x,y,z,aL nd.symm▸hf}
  have Aj:Ext fe H7 (upd Ny d (.dK (gD (j8 g u tm)))):=(Xv.trans Oc).own m7 _;have Xb:upd Ny d (.dK (gD (j8 g u tm))) d=some (.dK (gD (j8 g u tm))):=au;have QQ:upd Ny d (.dK (gD (j8 g u tm))) ur=some (.lst ((fh (bB bg)).map V.str)):=aL ndu▸Oc _ _ ac0 Zp;generalize upd Ny d (.dK (gD (j8 g u tm)))=VA at MH Aj Xb QQ⊢;refine{_,9,_,_,9,9,_,9,?_};refine dS (λc3=>?_) (λc3=>{_,_,j8 g u tm,9,MH,Aj,QQ,Xb,8,pv',BK ZD hu0})
  ·refine{(by show 6<=sizeLine;decide),λl16 adN=>?_};have y16:Ext fe VA (upd VA l16 (.lst (C7.map V.str))):=(Ext.refl fe VA).new adN _;obtain⟨tz,htz,evz⟩:=pZ (zs:=C7) (i:=(i:Int) % 6) ∅ (by show(i:Int) % 6<6;lia);refine{_,9,_,_,9,9,(by show(0:Int)<6;decide),_,_,_,_,9,9,bf.of au,evz,?_};refine{_,9,_,9,d,_,9,AK.k (k:=Sum.inr u) (y16 _ _ nd Xb) (by unfold gD;rw[ah];exact bu ∅),?_};rw[Hg];have II:=Lc (j8 g u tm) u tz;refine{_,_,j8 (j8 g u tm) u tz,9,?_,(Aj.trans y16).own m7 _,?_,au,8,BJ pv' (z_T htz),BK (BK ZD hu0) hu0}
   ·obtain⟨x,y,z,hf⟩:=(MH.new adN (.lst (C7.map V.str)));exact{x,y,z,aL nd.symm▸hf}
   ·rw[aL ndu];exact y16 _ _ ac0 QQ
 ·rintro Z hV ⟨x7,x8,g,rfl,Xf,Rt,QR,Q2,Pf,Pe,ZD⟩;refine{_,9,_,9,_,9,.ref r2,d,bM,bg,g,9,(YJ.keep (uS.fk Rt)),Q2,Pe,λr11 mC xJ afL=>?_};have MK:=Xf.same xJ;refine{_,9,_,9,_,9,fe,3,9,MK,7,7,λi12 uY c0 c1 MJ ad1=>?_};have Rm:=(Rt.trans (Ext.of xJ)).trans ad1;refine{_,9,_,_,9,9,.inr {_,9,?_}};obtain⟨mr,emr,mr0,mr1⟩:∃m:Int,(if decide (way<5)=true then(1:Int)else 0)=m/\0<=m/\m<=1:=by
   by_cases c5:decide (way<5)=true
   ·exact{1,aK c5,7,7}
   ·exact{0,aH c5,7,7}
  have hmul:0<=i12*mr/\i12*mr<=3:=by
   have:mr=0\/mr=1:=by lia
   rcases this with rfl|rfl
   ·lia
   ·lia
  rw[emr];refine{_,_,9,9,.inl {8,8},fe,nl,l,.ref r11,_,kN,us,_,_,9,MJ,⟨tY,uQ⟩,{Rm _ _ tY adL,8,8,Us},{Rm _ _ uQ W7,8,8,yZ},(afL.keep (MK.fk ad1)),hmul.1,hmul.2,λr13 Z1 qD MI Rr acL aeF=>?_};have ZS:=Rm.trans Rr;have qwo:=YJ.keep (uS.fk ZS);refine{_,9,96,λYM W3=>{YM,_,9,.inr (aY.of au),9,9,_,9,?_}};have Oc:Ext fe qD (upd qD YM (.tup [.int 2,.int 3])):=(Ext.refl fe qD).new W3 _;have HL:=MI.new W3 (.tup [.int 2,.int 3]);have Ko:b4 qD (upd qD YM (.tup [.int 2,.int 3])):=(b4.refl qD).new W3 _;generalize upd qD YM (.tup [.int 2,.int 3])=Ny at Oc HL Ko⊢;have Rk:=ZS.trans Oc;refine dS (λc4=>?_) (λc4=>?_)
  ·refine{_,9,_,9,_,9,_,9,fe,nl,l,.ref r13,us,_,Z1,9,HL,uQ,{Rk _ _ uQ W7,8,8,yZ},acL.keep Ko,λr15 WX afi VA MH Aj afK ae4=>?_};refine{_,9,_,9,96,689};have R5:=(b4.refl VA).new hp (.tup [.ref r15,.ref r2]);exact k p (.ref r15) (.ref r2) WX bM afi bg _ (MH.new hp _) (((Xw.trans Rk).trans Aj).new hp _) au (afK.keep R5) (((qwo.keep Ko).keep (HL.fk Aj)).keep R5) ae4 Q1
  ·refine{_,9,_,9,96,689};have R5:=(b4.refl Ny).new hp (.tup [.ref r13,.ref r2]);exact k p (.ref r13) (.ref r2) _ bM Z1 bg _ (HL.new hp _) ((Xw.trans Rk).new hp _) au ((acL.keep Ko).keep R5) ((qwo.keep Ko).keep R5) ((Q1.led ZD).mono aeF) Q1
def PT:Aw:=⟨λz=>z.length<=100/\PyData.strOk z=true⟩
def GO{z:Str}(h:z∈PT):z.length<=100/\PyData.strOk z=true:=h
abbrev oE(H:Hp):Aan->List 667->Prop:=Paired λ(v:V)(p:Str×Str)=>∃a,v=.ref a/\H a=some (.tup [.str p.1,.str p.2])
def oE.keep{H H':Hp}(t:b4 H H'){vs:Aan}{bV:List 667}(h:oE H vs bV):oE H' vs bV:=Paired.imp' (λ_ _ ⟨a,e,q⟩=>{a,e,t _ _ q}) h
def xC(bV:List 667):Prop:=∀p∈bV,p.1∈PT/\p.2∈PT
def jm(bV:List 667):List 667:=bV.foldl (λg p=>j8 g p.1 p.2) []
theorem ET:∀(bV g:List 667),ky (gD g) (gD bV)=gD (bV.foldl (λg p=>j8 g p.1 p.2) g)
 |[],g=>rfl
 |p::r,g=>by show ky (putK (gD g) (Sum.inr p.1) (V.str p.2)) (gD r)=_;rw[Hg,ET r];rfl
theorem Lp{H:Hp}:∀{vs:Aan}{bV:List 667},oE H vs bV->Paired (λ(y:V)(kv:Key×V)=>∃t,y=.ref t/\H t=some (.tup [kV kv.1,kv.2])) vs (gD bV)
 |_,_,.nil=>.nil
 |_,_,.cons ⟨a,e,h⟩ t=>.cons ⟨a,e,h⟩ (Lp t)
def qW(bJ:Aag)(bo:Hy)(bM:Aag)(bg:Hy)(bV:List 667):Bool:=
 decide (bV.map (·.1)=eW (fh (bB bg)))&&(decide (bM.map (dk (jm bV))=bJ)&&(bg.map λa=>decide ((a.1,a.2.map (dk (jm bV)))∈bo)).all id)
inductive Yr(vs:Aan)(H:Hp)(Q:VK)(_x3:XK):Prop
 |mk (v1 v2:V) (pl:Addr) (bJ bM:Aag) (bo bg:Hy) (kM:Aan) (bV:List (Str×Str)) (_:vs=[v1,v2,.ref pl]) (_:QW H v1 bJ bo) (_:QW H v2 bM bg) (_:H pl=some (.lst kM)) (_:oE H kM bV) (_:xC bV) (_:bV.length<=100) (_:∀H',aJ H H'->Q (.bl (qW bJ bo bM bg bV)) H')
def dA(a:Str×Aag):PyData:=.tuple [.str a.1,.tuple (a.2.map PyData.str)]
def Nf(a b:Str×Aag):PyData.eqv (dA a) (dA b)=decide (a=b):=by unfold dA;obtain⟨a1,a2⟩:=a;obtain⟨b1,b2⟩:=b;simp only[PyData.eqv,PyData.eqvAll,kq,uI];by_cases h:a1=b1<;>by_cases h':a2=b2<;>simp[h,h']
def aed(ba:Hy)(b:Str×Aag):((ba.map dA).any λe=>PyData.eqv e (dA b))=decide (b∈ba):=by
 rw[ml,fb,il,jD];constructor
 ·rintro⟨x,hx,e⟩;have e:PyData.eqv (dA x) (dA b)=true:=e;rw[Nf,jD]at e;exact e▸hx
 ·intro h;exact{b,h,by show PyData.eqv (dA b) (dA b)=true;rw[Nf];exact bj rfl}
def TQ{a:Str×Aag}(h1:PyData.strOk a.1=true)(h2:∀z∈a.2,PyData.strOk z=true):(dA a).canLay0=true:=by unfold dA;simp[PyData.canLay0,PyData.canLayAll0,h1,qg a.2 h2]
theorem HD:∀{ba:Hy},(∀a∈ba,PyData.strOk a.1=true/\∀z∈a.2,PyData.strOk z=true)->PyData.canLayAll0 (ba.map dA)=true
 |[],_=>rfl
 |a::r,h=>by simp[PyData.canLayAll0,(TQ (h a aF).1 (h a aF).2),(HD (ba:=r) λb hb=>h b (aG _ hb))]
def M7(a:Str×Aag):(dA a).depth<=60:=by unfold dA;simp[PyData.depth,PyData.depthAll,mL]
def PF{K:Frag}{H:Hp}{v:V}{a:Str×Aag}(h:wJ H v a):Dt K H (dA a) v:=by obtain⟨p,t,rfl,hp,ht⟩:=h;unfold dA;refine{p,_,9,aY.of hp,?_};refine{_,_,9,by rw[Dt],?_};refine{_,_,9,?_,by rw[mS]};exact{t,_,9,aY.of ht,ka _}
theorem E2{K:Frag}{H:Hp}:∀{vs:Aan}{ba:Hy},dv H vs ba->mS K H (ba.map dA) vs
 |_,_,.nil=>by rw[fI,mS]
 |_,_,.cons r t=>by exact{_,_,9,PF r,E2 t}
def Bt(zs:Aag)(h:∀z∈zs,PyData.strOk z=true):SeqAt.shaped (.tuple (zs.map PyData.str))=true:=by simp[SeqAt.shaped,PyData.canLay0,PyData.depth,qg zs h,mL]
def Nn(bs:List Bool):F6 (.bl false) (bs.map V.bl)=!(bs.all id):=by
 unfold F6;rw[ml]
 induction bs with
 |nil=>rfl
 |cons b r ih=>
  rw[ni,uG,ih];cases b<;>rfl
def MX(bs:List Bool):(bs.map V.bl).all tK=true:=by rw[CY];exact bL.mpr λ_ _=>9
def CI{z:Str}(h:z∈kQ):z∈PT:=(fR h).2
def afa{g bV:List 667}{l:Aw}(hg:∀p∈g,p.2∈l)(h:∀p∈bV,p.2∈l):∀p∈bV.foldl (λg p=>j8 g p.1 p.2) g,p.2∈l:=by
 induction bV generalizing g with
 |nil=>exact hg
 |cons q r ih=>exact ih (BJ hg (h q aF)) λp hp=>h p (aG _ hp)
def TM{bV:List 667}(hg:xC bV){z:Str}(h:z∈kQ):dk (jm bV) z∈PT:=HB (afa (λp h=>by cases h) λp hp=>(hg p hp).2) (CI h)
structure Dma(P:Program)(w:World)(K:Frag)(mg:Aac)(base:Heap):Prop extends Dle P w K mg base where
 Ad:cn P w K mg base 1 "_law_unknowns" ["_law_question_here"] yG
def xP:bZ ["_law_one","_law_other","_law_pairs","_law_pair_here","_law_given"] ["_law_one","_law_other","_law_pairs"] (defScope zP):=gA 53
def WC{f:Addr}{fd:FuncData}(F:dG K "_law_is_map" "_law_is_map" zP f fd)(T:Txt K mg)(D:Dma P w K mg base):cK P w K mg base dY 2 f fd ["_law_one","_law_other","_law_pairs"] Yr:=by
 refine F.ok xP (λ_ _ _ _ h=>by cases h;subst_vars;rfl) 55;obtain⟨v1,v2,pl,bJ,bM,bo,bg,kM,bV,rfl,La,uP,jM,O9,hgp,ahu,k⟩:=h;have lp:=bb O9;obtain⟨q1,h1,aa1,ahE,rfl,Mn,Uy,ag1,Dw⟩:=id La.at';obtain⟨q2,h2,aa2,ahf,rfl,Ml,Mw,adV,Ke⟩:=id uP.at';have Zd:=bb Ke;have l8:=uP.l8;refine{_,(az (df (jx (gO (bN jo 9 T.hJ 53 (cu (pv 2) (tF (n:="list") 9 T.pO 53))))) 671 cy) (az (dR bG 9 (dH (pv 2)) (fZ 3 xP) (aQ (df (PW.pt (ny (jx (gO (bN jo 9 T.hJ 53 (cu (pv 3) (tF (n:="tuple") 9 T.iw 53))))) (ny (b5 pV (bN cY 9 T.eT bH (bX (pv 3))) aM (cx _)) (nZ (jx (gO (bN jo 9 T.hJ 53 (cu (bF bY (pv 3) aM (λ_ _=>9)) (tF (n:="str") 9 T.FX 53))))))))) 671 cy))) (az (df (b5 (FT hr.units) (kU 9 678 (dH (pv 2)) (λ_ _ _ _=>(bF (vm) (pv 0) aM (λ_ _=>9)))) (bN N5 9 T.sM 53 (bX (cl D.Ad hr 719))) (cx _)) 671 cy) (az (kx (i:=4) xP.nd 9 (Or.inr 9) (cQ (GD hr.hd) 9 T.BR 53 (bX (pv 2)))) (az (df (b5 (FT hr.units) (cl D.Kb hr (cu (bF bY (pv 1) aM (λ_ _=>9)) (pv 4))) (bF bY (pv 0) aM (λ_ _=>9)) (cx _)) 671 cy) (aQ (bK (jK qT gf (vQ 9 (o7 (more:=["_law_terms_here"]) (fs:=["_law_given","_law_one"]) (fr:=[4,0])) (ir (bF bY (pv 1) aM (λ_ _=>9))) (λ_ _ _ _=>(vk (n:=2) 9 694)) (λ_ _ _ _=>(jK (aa7 hr.units) (dX (cu (pv 0) (cl D.Kb hr (cu (pv 1) (pv 2))))) (bF (vm) (pv 3) aM (λ_ _=>9)) 649))) 649)))))))),?_}
 refine{_,9,_,_,_,_,9,.lst jM,by rfl,_,9,?_};refine fU ?_;refine{_,rfl,pl,rfl,{_,bf.of jM},gF
  (λi Z H2=>∃x3:Aao,Z=[some (.ref q1),some (.ref q2),some (.ref pl),x3,none]/\H2=H) ⟨none,rfl,rfl⟩ (λi Z H2 _ ⟨_,_,e⟩=>by rw[e];exact bf.of jM) ?_ ?_}
 ·rintro i x Z H2 hx ⟨x3,rfl,rfl⟩;obtain⟨pr,Ga,a,rfl,ha⟩:=Paired.at O9 hx;refine{_,9,_,_,_,_,9,.tup ha,by rfl,_,9,?_};refine fU ?_;refine{_,9,_,_,9,.inr {_,aY.of ha,9},9,_,9,?_};refine fU ?_;refine{_,9,_,_,_,_,9,9,aY.of ha,9,_,_,_,_,9,.str _,by rfl,_,9,?_};exact fU ⟨_,rfl,rfl⟩
 rintro Z H2 ⟨x3,rfl,rfl⟩;refine{_,9,pl,9,{_,bf.of jM},iS (xs:=kM) (λi ys H3=>H3=H2/\i<=bV.length/\ys=((bV.take i).map (·.1)).map V.str) (bu ∅) {9,aO _,9} ?_ ?_ ?_}
 ·rintro i ys H3 hi ⟨rfl,_,rfl⟩;refine{bf.of jM,?_};rw[ah,ah,aZ];lia
 ·rintro i x ys H3 N hc ⟨rfl,hi,rfl⟩ hN;obtain⟨pr,Ga,a,rfl,ha⟩:=Paired.at O9 hc;have bQ:=(aq.mp Ga).1;refine{_,9,_,_,_,_,9,9,aY.of ha,9,hN _ _ {9,bQ,?_}};rw[bq,Ga,aE,aE];rfl
 rintro ys H3 ⟨rfl,_,rfl⟩ l hl;rw[lp,aT];have uN:aJ H3 (upd H3 l (.lst ((bV.map (·.1)).map V.str))):=aB hl _;have e4:upd H3 l (.lst ((bV.map (·.1)).map V.str)) l=some (.lst ((bV.map (·.1)).map V.str)):=au;refine{_,9,.ref q2,bM,bg,9,uP.keep (b4.of uN),λur H5 uM YV Zq=>?_};have lun:(fh (bB bg)).length<=32:=by have h1:=yU (bB bg);have h2:=uP.good.len bg.length;rw[aT]at h2;lia
 have agD:∀z∈fh (bB bg),z∈kQ:=λz hz=>by rw[C8,Dg,c6]at hz;exact uP.good.flat hz.1
 refine{ur,_,9,bf.of Zq,8,λl6 B8=>?_};have sm6:aJ H5 (upd H5 l6 (.lst ((eW (fh (bB bg))).map V.str))):=aB B8 _;have e6:upd H5 l6 (.lst ((eW (fh (bB bg))).map V.str)) l6=some (.lst ((eW (fh (bB bg))).map V.str)):=au;generalize upd H5 l6 (.lst ((eW (fh (bB bg))).map V.str))=H6 at sm6 e6⊢;have acq:=uM.trans sm6;have Qf:=uN.trans acq;refine{.list ((bV.map (·.1)).map PyData.str),.list ((eW (fh (bB bg))).map PyData.str),?_,?_,D4 _ λz hz=>?_,D4 _ λz hz=>(fR (agD z ((hZ _).mem_iff.mp hz))).2.2,_,9,?_}
 ·rw[Dt];exact{l,_,9,bf.of (acq _ _ e4),ka _}
 ·rw[Dt];exact{l6,_,9,bf.of e6,ka _}
 ·obtain⟨p,hp,rfl⟩:=aD.mp hz;exact(GO (hgp p hp).1).2
 have ee:PyData.eqv (.list ((bV.map (·.1)).map PyData.str)) (.list ((eW (fh (bB bg))).map PyData.str))=decide (bV.map (·.1)=eW (fh (bB bg))):=by rw[PyData.eqv,kq]
 rw[ee];refine dS 688 688
 ·have q:=k H6 Qf;unfold qW at q;rw[show decide (bV.map (·.1)=eW (fh (bB bg)))=false by simpa using c1,kr]at q;exact q
 have c1:decide (bV.map (·.1)=eW (fh (bB bg)))=true:=by simpa using c1
 refine{_,9,pl,kM,gD bV,9,bf.of (Qf _ _ jM),Lp (oE.keep (b4.of Qf) O9),λd hd=>?_};rw[show ky [] (gD bV)=gD (jm bV)from ET bV []];have sm7:aJ H6 (upd H6 d (.dK (gD (jm bV)))):=aB hd _;have e7:upd H6 d (.dK (gD (jm bV))) d=some (.dK (gD (jm bV))):=au;have VZ:=Qf.trans sm7;have h24:=uP.h4;refine{_,9,_,_,_,_,9,9,aY.of (VZ _ _ Ml),9,_,9,h2,d,bM,jm bV,9,VZ _ _ Mw,e7,8,λr8 H8 Yv hr8=>?_};have Bq:=VZ.trans Yv;refine{_,9,_,_,_,_,9,9,aY.of (Bq _ _ Mn),9,.tuple ((bM.map (dk (jm bV))).map PyData.str),.tuple (bJ.map PyData.str),?_,?_,Bt _ λz hz=>?_,Bt _ λz hz=>(fR (La.hh z hz)).2.2,_,9,?_}
 ·rw[Dt];exact{r8,_,9,aY.of hr8,ka _}
 ·rw[Dt];exact{h1,_,9,aY.of (Bq _ _ Uy),ka _}
 ·obtain⟨y,hy,rfl⟩:=aD.mp hz;exact(GO (TM hgp (uP.hh y hy))).2
 have ee2:PyData.eqv (.tuple ((bM.map (dk (jm bV))).map PyData.str)) (.tuple (bJ.map PyData.str))=decide (bM.map (dk (jm bV))=bJ):=by rw[PyData.eqv,kq]
 rw[ee2];refine dS 720 720
 ·have q:=k H8 Bq;unfold qW at q;rw[show decide (bM.map (dk (jm bV))=bJ)=false by simpa using c2,kr,tw]at q;exact q
 have c2:decide (bM.map (dk (jm bV))=bJ)=true:=by simpa using c2
 refine{_,9,_,_,_,_,9,9,aY.of (Bq _ _ Ml),9,aa2,9,{_,aY.of (Bq _ _ adV)},Cu (xs:=ahf) (λi ys H9=>aJ H8 H9/\i<=bg.length/\ys=((bg.take i).map λa=>decide ((a.1,a.2.map (dk (jm bV)))∈bo)).map V.bl) (bu ∅) {aJ.refl _,aO _,9} ?_ ?_ ?_}
 ·rintro i ys H9 hi ⟨vF,_,rfl⟩;refine{aY.of (vF _ _ (Bq _ _ adV)),?_};rw[ah,ah,aZ];lia
 ·rintro i x ys H9 N hc ⟨vF,hi,rfl⟩ hN;obtain⟨a,jA,p,tt,rfl,hp,mx⟩:=Paired.at Ke hc;have ga:=uP.good a (aA jA);have bQ:=(aq.mp jA).1;have VY:=Bq.trans vF;refine{p,_,_,9,aY.of (VY _ _ hp),yK ?_};refine{_,9,_,9,_,9,tt,d,a.2,jm bV,9,VY _ _ mx,vF _ _ (Yv _ _ e7),8,λSK hV Qh agH=>?_};refine{96,λOO W4=>?_};have xJ:aJ hV (upd hV OO (.tup [.str a.1,.ref SK])):=aB W4 _;have e11:upd hV OO (.tup [.str a.1,.ref SK]) OO=some (.tup [.str a.1,.ref SK]):=au;generalize upd hV OO (.tup [.str a.1,.ref SK])=mC at xJ e11⊢;have Qg:=VY.trans (Qh.trans xJ);refine{_,9,_,_,_,_,9,9,aY.of (Qg _ _ Mn),9,dA (a.1,a.2.map (dk (jm bV))),bo.map dA,PF {OO,SK,9,e11,xJ _ _ agH},.inl ?_,HD λb hb=>?_,TQ (fR (tN ga.1)).2.2 λz hz=>?_,M7 _,?_}
  ·rw[Dt];exact{aa1,_,9,aY.of (Qg _ _ ag1),E2 (dv.keep (b4.of Qg) Dw)}
  ·have gb:=La.good b hb;exact{(fR (tN gb.1)).2.2,λz hz=>(fR (gb.2.2.2 z hz)).2.2}
  ·obtain⟨y,hy,rfl⟩:=aD.mp hz;exact(GO (TM hgp (ga.2.2.2 y hy))).2
  ·show N (_++[.bl ((bo.map dA).any λe=>PyData.eqv e (dA (a.1,a.2.map (dk (jm bV)))))]) mC;rw[aed];refine hN _ _ {vF.trans (Qh.trans xJ),bQ,?_};rw[bq,jA,aE,aE];rfl
 ·rintro ys H9 ⟨vF,_,rfl⟩ l10 agS;rw[Zd,aT];refine{l10,_,9,.inl (bf.of au),9,MX _,?_};have q:=k _ ((Bq.trans vF).trans (aB agS (.lst ((bg.map λa=>decide ((a.1,a.2.map (dk (jm bV)))∈bo)).map V.bl))));unfold qW at q;rw[c1,c2,iV,iV]at q;rw[Nn,Bool.not_not];exact q
variable{C:Addr}
theorem FG{fm fp:Addr}{dm dp:FuncData}(Fm:dG K "mapped" "MapSearch.mapped" u6 fm dm)(Fp:dG K "mapped_part" "MapSearch.mapped_part" nv fp dp)(Mm:Meth K C "mapped" fm)(Mp:Meth K C "mapped_part" fp)(bm:Binds K dm ["self","atoms","given"] [])(bp:Binds K dp ["self","part","given"] [])
  (T:Txt K mg) (O:Own K C) (D:Dp P w K mg base C):∀n,rK P w K mg base C (07+2*n) "mapped" ["self","atoms","given"] (zI P w K C n)
 |0=>by have LJ:∀vs H Q E,¬KN P w K C 0 vs H Q E:=λvs H Q E ⟨_,_,_,_,_,_,_,_,_,_,_,p,_,_,ak,_,_,gC,_⟩=>gC (dC.mp (Nat.le_zero.mp ak.ln));exact{fm,dm,IP Fm T O {D,{fp,dp,({λvs H Q E h=>absurd h (LJ vs H Q E),λA outer s H args us vs Q E _ _ _ _ h=>absurd h (LJ vs H Q E)}),Mp,bp}},Mm,bm}
 |n+1=>by exact{fm,dm,IP Fm T O {D,{fp,dp,Hm Fp T O {D,(FG Fm Fp Mm Mp bm bp T O D n)},Mp,bp}},Mm,bm}
def Nw(P:Program)(w:World)(K:Frag)(mg:Aac)(base:Heap)(C:Addr)(k:Nat)(x:Str)(ps:Aag)(sp:Sp):Prop:=∃f fd,Mk K C f/\cK P w K mg base dY k f fd ps sp/\mg x=some (.ref C)/\Binds K fd ps []
def mkO(D:Nw X.prog X.w X.K X.mg X.base C k x ps sp)(hr:iD j X.A)(ha:PA X (e::es) t)(hk:k+1<=j)(hg:Gl X x:=by rfl)
  (Cd:658=false:=by decide) (he:starEach (e::es) X.env=(false,eval e X.env)::starEach es X.env:=by rfl) (jM:(backTo pos 709).any (·.1)=false:=by rfl):
  PE X 704 (Yn C sp [] E0 t):=by
 obtain⟨f,fd,M,F,m,b⟩:=D;exact aa3 M F (hr.mono hk) hg m b .nil Qr ha Cd he jM
structure Dfm(P:Program)(w:World)(K:Frag)(mg:Aac)(base:Heap)(C:Addr):Prop where
 fitted:cn P w K mg base 3 "fitted" ["given","terms","aim"] (Ez K)
 vX:rK P w K mg base C (07+2*08) "mapped" ["self","atoms","given"] (zI P w K C 08)
 NS:Nw P w K mg base C 3 "MapSearch" ["self","atoms"] (Qd P w K C)
def iL(bJ:Aag)(bo:Hy)(bM:Aag)(bg:Hy)(h:Str->Str):Prop:=bM.map (aI.ap bh h)=bJ/\aI.Fits bh bo h bg
structure aah(bJ:Aag)(bo:Hy)(bM:Aag)(bg:Hy)(g:cV):Prop where
 nd:(keys g).Nodup
 ks:∀u,u∈keys g↔(u∈bM/\bh u=true)\/u∈aI.ju bh bg
 led:∀h,aI.iz g h->iL bJ bo bM bg h
 ok:∀q∈g,PyData.strOk q.2=true
inductive Ox(vs:Aan)(H:Hp)(Q:VK)(_x3:XK):Prop
 |mk (v1 v2:V) (bJ bM:Aag) (bo bg:Hy) (_:vs=[v1,v2]) (_:QW H v1 bJ bo) (_:QW H v2 bM bg) (_:(∀H',aJ H H'->(∀h,¬iL bJ bo bM bg h)->Q .cz H')) (_:∀H' d g,aJ H H'->H' d=some (.dK (gK g))->aah bJ bo bM bg g->Q (.ref d) H')
def Bw:bZ ["one","other","given"] ["one","other"] (defScope xU):=gA 53
def fV.free{H0 H:Hp}{A:Addr}{kvs:List 645}{R:Rl}{n:Nat}(x:fV P w K H0 H A kvs R n):fV P w K (λ_=>none) H A kvs R n:={x.at_,x.len,rfl,λk v h=>by obtain⟨d,inner,h1,h2,h3,h4⟩:=x.vals k v h;exact⟨d,inner,h1,h2,rfl,h4⟩,x.no,x.inj}
def HN{ba:Hy}(g:nM ba):∀a∈ba,lB a:=λa ha=>by obtain⟨h1,h2,h3,h4⟩:=g a ha;exact{8,(fR (tN h1)).2.2,λz hz=>(fR (h4 z hz)).2}
def Ib{H:Hp}{vs:Aan}{ba:Hy}(h:dv H vs ba):kI K H vs ba:=by
 induction h with
 |nil=>exact .nil
 |cons h _ ih=>
  obtain⟨p,t,e,h1,h2⟩:=h;exact .cons {p,t,e,aY.of h1,aY.of h2} ih
def LC{f:Addr}{fd:FuncData}(F:dG K "found_map" "found_map" xU f fd)(T:Txt K mg)(O:Own K C)(D:Dfm P w K mg base C):cK P w K mg base dY 25 f fd ["one","other"] Ox:=by
 refine F.ok Bw (λ_ _ _ _ h=>by cases h;subst_vars;rfl) 55;obtain⟨v1,v2,bJ,bM,bo,bg,rfl,q1,q2,k1,k2⟩:=h;obtain⟨r1,h1,a1,Yc,rfl,qy,Uy,Pp,Dw⟩:=q1.at';obtain⟨r2,h2,a2,Of,rfl,mZ,Mw,ha2,Ke⟩:=q2.at';refine{_,(az (dE 2 Bw (cl D.fitted hr (iZ jf (bF bY (pv 1) aM (λ_ _=>9)) (bF bY (pv 0) aM (λ_ _=>9))))) (az (df (b5 FU (pv 2) jz (cx _)) (aQ (bK jz)) cy) (aQ (bK (Tx O.c D.vX hr (mkO D.NS hr (bX (bF bY (pv 0) aM (λ_ _=>9))) ∅) (cu (cQ kF 9 T.pO 53 (bX (bF bY (pv 1) aM (λ_ _=>9)))) (pv 2)) ∅))))),?_}
 refineλe0 UB=>?_
 have s1:aJ H (upd H e0 651):=aB UB _;have he1:upd H e0 651 e0=some (.dK (gK [])):=au;have lH:=q1.h4;have f9:=q2.h4;refine{_,9,_,_,_,_,9,9,aY.of (s1 _ _ mZ),9,_,9,_,_,_,_,9,9,aY.of (s1 _ _ qy),9,e0,h2,h1,[],bM,bJ,9,he1,aO _,dZ,aY.of (s1 _ _ Mw),aY.of (s1 _ _ Uy),8,8,λz hz=>br (fR (q2.hh z hz)).2.1 7,λH2 s2 e2=>?_,λd g0 H2 s2 m7 hd2 e2=>?_}
 ·refine{_,9,9,_,9,nr (k1 H2 (s1.trans s2) λh hl=>?_)};obtain⟨g',e,_⟩:=aI.uc (g:=[]) dZ (λp hp=>by cases hp);rw[hl.1,e2]at e;cases e
 refine{_,9,9,_,9,fU ?_};have yJ:=s1.trans s2;obtain⟨n0,_,Zg,Xc⟩:=aI.sS (g:=[]) dZ e2;refine{_,9,_,_,_,_,9,9,aY.of (yJ _ _ qy),9,λx dx hx hdx ne=>?_};have s3:aJ H2 (upd (upd H2 dx (.own x)) x (.ins C dx [])):=λb u h=>by rw[aL (bA h hx),aL (bA h hdx)];exact h
 have hx3:upd (upd H2 dx (.own x)) x (.ins C dx []) x=some (.ins C dx []):=au;have nV:=yJ.trans s3;have la1:=q1.l8;have Zd:=q2.l8;refine{x,a1,dx,Yc,bo,H2,9,hx3,hx,aY.of (nV _ _ Pp),Ib (Dw.keep λb xs h=>nV _ _ h),8,HN q1.good,s3,λH4 A' B kvs s4 A0 B0 Uo hB4 ax ab db=>{9,?_}};have nU:=yJ.trans s4;refine{x,dx,_,9,Uo,9,_,9,_,_,_,_,9,9,aY.of (nU _ _ mZ),9,a2,Of,9,.inr (aY.of (nU _ _ ha2)),λl hl=>?_};have s5:aJ H4 (upd H4 l (.lst Of)):=aB hl _;have Pd:upd H4 l (.lst Of) l=some (.lst Of):=au;generalize (upd H4 l (.lst Of))=H5 at s5 Pd⊢;have FI:=nU.trans s5;have uf:∀u,u∈aI.ju bh bg->u∈bB bg:=λu hu=>by obtain⟨b,hb,h,_⟩:=aI.cN.mp hu;exact ix.mpr ⟨b,hb,h⟩
 have lf:(bB bg).length<=4*bg.length:=by have:=q2.good.len bg.length;rw[aT]at this;exact this
 have k0:=λu hu=>((Zg u).mp hu).elim (λh=>by cases h) id;have dB:d≠B:=λe=>by rw[e,B0]at hd2;cases hd2
 have H0B:H B=none:=by
  cases e:H B with
  |none=>rfl
  |some u=>rw[yJ _ _ e]at B0;cases B0
 have tn8:tn bg.length<=9000000:=br (aaA Zd) 7;have ask:Ask P w K C H5 x A' B dx kvs bo 0 (bM++bB bg) d g0 bg 08:=
  {{s5 _ _ Uo,((ax.free.mono ∅).same s5),ab,db},{[],Dz (s5 _ _ hB4),aw _,λq hq=>by cases hq},la1,HN q1.good,HN q2.good,Zd,aw _,8,s5 _ _ (s4 _ _ hd2),dB,n0,λu hu=>(k0 u hu).2,λq hq=>(wa e2 q hq).elim (λh=>by cases h) λh=>(fR (q1.hh _ h)).2.2,λu hu=>bx _ (k0 u hu).1,λu hu=>bc _ (uf u hu),by rw[aC];lia}
 have YA:∀H6,SB B H5 H6->aJ H H6:=λH6 sb b u h=>sb b u (bA h H0B) (FI _ _ h);refine{_,9,x,A',B,dx,l,d,kvs,bo,0,_,g0,bg,Of,9,ask,bf.of Pd,Ib (Ke.keep λb xs h=>FI _ _ h),λH6 sb va nc=>?_,λH6 d6 g6 sb va UH dB6 fg6 got=>?_}
 ·refine k1 H6 (YA H6 sb) λh hl=>nc {h,?_,hl.2};obtain⟨g',e,ag⟩:=aI.uc (g:=[]) dZ (λp hp=>by cases hp);rw[hl.1,e2]at e;cases e;exact ag
 ·refine k2 H6 d6 g6 (YA H6 sb) UH {got.nd,λu=>?_,λh ag=>{Xc h (aI.iz.longer n0 got.lg ag),got.ft h ag},fg6};rw[got.ks,Zg];exact or_congr_left {λh=>h.elim (λh=>by cases h) id,.inr}
def vi{z:Str}(h:isVal z=true):z.length<=08:=by unfold isVal at h;rw[bO,bO]at h;have:=aR h.2.1;lia
def So{z:Str}(h:1<=z.length):(Txt.slice z (some 1) none).cps.toList=z.cps.toList.drop 1:=by
 have e:=slice_from_eq (x:=z) (i:=1) 7 ∅ rfl;rw[e];refine cU ?_;rw[dD];have:z.cps.toList.length=z.length:=by simp[Str.length]
 lia
def Sm(n:Nat)(h:n<=100000):((n:Int)).natAbs.log2<1920:=by
 rw[Int.natAbs_natCast];by_cases h0:n=0
 ·rw[h0];decide
 ·rw[Nat.log2_lt h0];exact gG h 53
def V4:bZ ["terms","given"] ["terms","given"] (defScope G9):=gA 53
def WD(F:dG K "image" "image" G9 f fd)(T:Txt K mg):cK P w K mg base dY 1 f fd ["terms","given"] J4:=by
 refine F.ok V4 (λ_ _ _ _ h=>by cases h;subst_vars;rfl) 55;obtain⟨t,d,ts,g,rfl,ht,hd,hl,k⟩:=h;refine{_,(aQ (bK (cQ d8 9 T.iw 53 (bX (kU 9 (c9 (fs:=["given"]) (fr:=[1])) (ir (pv 0)) (λ_ _ _ _=>(sL (oZ hr) (pv 1) (pv 0) (pv 0) QL))))))),?_};refine{_,9,t,9,{_,aY.of ht},mN (xs:=ts.map V.str) (λi ys H2=>H2=H/\i<=ts.length/\ys=((ts.take i).map (dk g)).map V.str) 665 {9,aO _,9} ?_ ?_ ?_}
 ·rintro i ys H2 hi ⟨rfl,_,rfl⟩;refine{aY.of ht,?_};rw[ah,ah,aZ];lia
 ·rintro i x ys H2 N hc ⟨rfl,hi,rfl⟩ hN;obtain⟨z,hz,rfl⟩:=iN hc;have bQ:=(aq.mp hz).1;refine{_,9,d,9,.inl {_,.inl hd},_,9,_,9,_,kS.k (k:=Sum.inr z) hd,?_};have e:(iC (gD g) (Sum.inr z:Key)).getD (.str z)=.str (dk g z):=by rw[GU];unfold dk;cases IX g z<;>rfl
  rw[e];refine hN _ _ {9,bQ,?_};rw[bq,hz,aE,aE];rfl
 ·rintro ys H2 ⟨rfl,_,rfl⟩ l pj;rw[ah,aT];exact{l,_,9,.inl {bf.of au,λp hp=>k p _ ((aB pj _).trans (aB hp _)) au}}
def fJ(k:Nat):Str:=⟨(110::(Nat.toDigits 10 k).map Char.toNat).toArray⟩
def Ir(k:Nat):Str:=⟨(63::110::(Nat.toDigits 10 k).map Char.toNat).toArray⟩
def YZ(k:Nat):("n":Str)++Str.ofString (toString (k:Int))=fJ k:=by rw[show(k:Int)=Int.ofNat k from rfl,text_ofNat];show(⟨("n":Str).cps++_⟩:Str)=_;rw[show("n":Str).cps=#[110] by decide+kernel];unfold fJ;simp
def P5(k:Nat):("?":Str)++fJ k=Ir k:=by show(⟨("?":Str).cps++_⟩:Str)=_;rw[show("?":Str).cps=#[63] by decide+kernel];unfold Ir fJ;simp
def abM:((List.range 10).all λd=>sgn (48+d))=true:=by decide+kernel
def aeP:sgn 110=true:=by decide+kernel
def Rx{k c:Nat}(h:c∈(Nat.toDigits 10 k).map Char.toNat):sgn c=true/\c<128:=by obtain⟨ch,A3,rfl⟩:=aD.mp h;have r2:=digit_range (Nat.isDigit_of_mem_toDigits (b:=10) 7 7 A3);have e:=bL.mp abM (ch.toNat -48) (cD.mpr ∅);rw[show 48+(ch.toNat -48)=ch.toNat by lia]at e;exact{e,8}
def Tr{k:Nat}(h:k<600):(fJ k).length<=4:=by show((110::(Nat.toDigits 10 k).map Char.toNat).toArray).size<=4;rw[aP,bE,ah];have:=digits10_le (k:=3) (n:=k) 7 ∅;lia
def LL{k:Nat}(h:k<600):isVal (fJ k)=true:=by
 have l1:=Tr h;have l0:1<=(fJ k).length:=by show 1<=((110::(Nat.toDigits 10 k).map Char.toNat).toArray).size;rw[aP,bE];lia
 unfold isVal;rw[bj ∅,bj ∅,iV,iV,bL];intro b hb;obtain⟨c,hc,rfl⟩:=aD.mp hb;rcases aN.mp hc with rfl|hc
 ·exact aeP
 ·exact(Rx hc).1
def ac4{i j:Nat}(h:fJ i=fJ j):i=j:=by
 have h1:(fJ i).cps.toList=(fJ j).cps.toList:=by rw[h]
 unfold fJ at h1;simp only[nK,true_and]at h1;have h2:=Ax i;rw[h1,Ax]at h2;exact h2.symm
def Kn(k:Nat):Txt.slice (Ir k) (some 1) none=fJ k:=by
 have e:(Txt.slice (Ir k) (some 1) none).cps=(fJ k).cps:=by apply Array.ext';rw[(So (z:=Ir k) (by show 1<=((63::110::(Nat.toDigits 10 k).map Char.toNat).toArray).size;rw[aP,bE];lia))];rfl
 cases hs:Txt.slice (Ir k) (some 1) none with
 |mk c=>rw[hs]at e;cases e;rfl
def ab6{k:Nat}(h:k<600):bh (Ir k)=true:=by unfold bh;rw[Kn,LL h,uI,vA rfl];decide+kernel
def YT{z:Str}(h:∀c∈z.cps.toList,c<128):PyData.strOk z=true:=by
 unfold PyData.strOk;rw[<-Array.all_toList,bL]
 exactλc hc=>bj (by have:=h c hc;lia)
def aet(k:Nat):PyData.strOk (Ir k)=true:=YT λc hc=>by
 rcases aN.mp hc with rfl|hc
 ·decide
 ·rcases aN.mp hc with rfl|hc
  ·decide
  ·exact(Rx hc).2
structure ahj(k:Nat):Prop where
 v:isVal (fJ k)=true
 l:(fJ k).length<=4
 u:bh ("?"++fJ k)=true
 us:PyData.strOk ("?"++fJ k)=true
 c:Txt.slice ("?"++fJ k) (some 1) none=fJ k
def YY{k:Nat}(h:k<600):ahj k:={LL h,Tr h,P5 _▸ab6 h,P5 _▸aet k,P5 _▸Kn k}
def Ts{i j:Nat}(hi:i<600)(hj:j<600)(h:fJ i=fJ j):i=j:=ac4 h
theorem Hn{α β:Type}{f:α->β}:∀{l:List α},(∀i∈l,∀j∈l,f i=f j->i=j)->l.Nodup->(l.map f).Nodup
 |[],_,_=>.nil
 |a::l,h,nd=>by rw[dg]at nd;rw[bt,dg];refine{λe=>?_,Hn (λi hi j hj=>h i (aG _ hi) j (aG _ hj)) nd.2};obtain⟨b,hb,e⟩:=aD.mp e;exact nd.1 (h b (aG _ hb) a aF e▸hb)
theorem Tt:∀{s t:Aag},s.Nodup->(∀z∈s,z∈t)->s.length<=t.length
 |[],_,_,_=>aO _
 |z::s,t,hn,hs=>by
  have hz:=hs z aF;rw[dg]at hn;have h1:=Tt (t:=t.erase z) hn.2 λy hy=>by exact(AF (λe=>hn.1 (by rw[<-e];exact hy))).mpr (hs y (aG _ hy))
  rw[wH hz]at h1;have h2:=yw hz;show s.length+1<=t.length;lia
inductive Sh(vs:Aan)(H:Hp)(Q:VK)(_x3:XK):Prop
 |mk (n:Int) (tl:Addr) (tk:Aag) (_:vs=[.int n,.ref tl]) (_:H tl=some (.lst (tk.map V.str))) (_:0<=n) (_:n+tk.length<=500) (_:∀(r:Addr)(ks:List Nat)(H':Hp),aJ H H'->H r=none->H' r=some (.lst ((ks.map fJ).map V.str))->(ks.length:Int)=n->ks.Nodup->(∀k∈ks,k<600/\fJ k∉tk)->Q (.ref r) H')
def mU:bZ ["count","taken","found","number","value"] ["count","taken"] (defScope vI):=gA 53
def nnS{k:Nat}(h:k<600):(Str.ofString (toString (k:Int))).length<=100:=by have h1:=(YY h).l;rw[<-YZ,Str.length_append]at h1;lia
def JR{f:Addr}{fd:FuncData}(F:dG K "new_values" "new_values" vI f fd)(T:Txt K mg):cK P w K mg base dY 1 f fd ["count","taken"] Sh:=by
 refine F.ok mU (λ_ _ _ _ h=>by cases h;subst_vars;rfl) 55;obtain⟨n,tl,tk,rfl,htl,n0,nt,k⟩:=h;refine{_,(az (dE 2 mU (dM iu)) (az (dE 3 mU aM) (az (Wi bG (b5 xj (bN cY 9 T.eT bH (bX (pv 2))) (pv 0) (cx _)) (az (dE 4 mU (cW vc cI (cQ Vm 9 T.FX 53 (bX (pv 3))))) (az (df (b5 qT (pv 4) (pv 1) 649) (aQ (gS (jk bR iI iH tZ (pv 2) (bX (pv 4))))) cy) (aQ (acO (i:=3) mU.nd 9 (Or.inl 9) aM ado))))) (aQ (bK (pv 2)))))),?_}
 refine{409,λfl hfl=>?_};refine{λm Z H2=>∃(num:Nat)(x4:Aao)(ks sk:List Nat),m=600 -num/\num<600/\Z=[some (.int n),some (.ref tl),some (.ref fl),some (.int (num:Int)),x4]/\aJ H H2/\H2 fl=some (.lst ((ks.map fJ).map V.str))/\(ks.length:Int)<=n/\ks.length+sk.length=num/\ks.Nodup/\sk.Nodup/\(∀i∈ks,i<num/\fJ i∉tk)/\(∀i∈sk,i<num/\fJ i∈tk),{_,0,none,[],[],9,7,9,aB hfl _,au,by show(0:Int)<=n;exact n0,9,.nil,.nil,(λi h=>by cases h),λi h=>by cases h},?_};rintro m Z H2 ⟨num,x4,ks,sk,rfl,QX,rfl,sm,Mx,hkn,hks,LM,qx,B9,rZ⟩;have lk:((ks.map fJ).map V.str).length=ks.length:=by rw[ah,ah]
 have lsk:sk.length<=tk.length:=by
  have h1:(sk.map fJ).Nodup:=by exact Hn (λi hi j hj e=>Ts (dI (rZ i hi).1 QX) (dI (rZ j hj).1 QX) e) qx
  have:=Tt h1 λz hz=>by obtain⟨i,hi,rfl⟩:=aD.mp hz;exact(rZ i hi).2
  rw[ah]at this;exact this
 refine{_,9,_,_,9,.inl {_,bf.of Mx,9},_,9,_,_,9,9,_,9,?_};refine dS 669 669
 ·have c:=aR c;refine{λσ' H'=>∃(zY:Nat)(x4':Aao)(BX Sr:List Nat),zY=num+1/\zY<600/\σ'=[some (.int n),some (.ref tl),some (.ref fl),some (.int (zY:Int)),x4']/\aJ H H'/\H' fl=some (.lst ((BX.map fJ).map V.str))/\(BX.length:Int)<=n/\BX.length+Sr.length=zY/\BX.Nodup/\Sr.Nodup/\(∀i∈BX,i<zY/\fJ i∉tk)/\(∀i∈Sr,i<zY/\fJ i∈tk),λσ' H' ⟨zY,x4',BX,Sr,e,r⟩=>{600 -zY,8,zY,x4',BX,Sr,9,r},?_};have hb:=YY QX;have ln:=nnS QX;have e1:("n":Str).length=1:=by decide+kernel
  have ls:=bu (n:=1+(Str.ofString (toString (num:Int))).length) ∅;refine{_,9,(num:Int),9,Sm num ∅,_,_,9,9,8,?_};rw[YZ];refine{_,9,_,9,tl,_,9,.inl (bf.of (sm _ _ htl)),9,zh _,_,9,?_};rw[vo];refine dS 688 688
  ·have c1:fJ num∉tk:=by simpa using c1
   refine{_,9,.inl {9,_,bf.of Mx},_,9,_,_,_,9,9,Mx,by rw[lk];exact bu ∅,?_};refine{_,9,_,_,9,9,?_};refine{num+1,_,ks++[num],sk,9,by rw[lk]at c;lia,9,λb u e=>?_,?_,?_,?_,?_,qx,λi hi=>?_,λi hi=>{eO (rZ i hi).1,(rZ i hi).2}}
   ·rw[aL (bA e hfl)];exact sm _ _ e
   ·rw[au,aE,aE];rfl
   ·rw[aC];show((ks.length+1:Nat):Int)<=n;lia
   ·rw[aC];show ks.length+1+sk.length=num+1;lia
   ·rw[fE];refine{LM,59,λa ha b hb e=>?_};have h1:=(B9 a ha).1;rw[ay.mp hb]at e;lia
   ·rcases aS.mp hi with hi|hi
    ·exact{eO (B9 i hi).1,(B9 i hi).2}
    ·rw[ay.mp hi];exact{eB _,c1}
  ·have c1:fJ num∈tk:=by simpa using c1
   refine{_,9,_,_,9,9,?_};refine{num+1,_,ks,sk++[num],9,by rw[lk]at c;lia,9,sm,Mx,hkn,?_,LM,?_,λi hi=>{eO (B9 i hi).1,(B9 i hi).2},λi hi=>?_}
   ·rw[aC];show ks.length+(sk.length+1)=num+1;lia
   ·rw[fE];refine{qx,59,λa ha b hb e=>?_};have h1:=(rZ a ha).1;rw[ay.mp hb]at e;lia
   ·rcases aS.mp hi with hi|hi
    ·exact{eO (rZ i hi).1,(rZ i hi).2}
    ·rw[ay.mp hi];exact{eB _,c1}
 ·have c:¬((((ks.map fJ).map V.str).length:Nat):Int)<n:=λh=>c (bj h);refine{_,9,k fl ks H2 sm hfl Mx ∅ LM λi hi=>⟨by have:=(B9 i hi).1;lia,(B9 i hi).2⟩}
inductive vB(vs:Aan)(H:Hp)(Q:VK)(_x3:XK):Prop
 |mk (v:V) (hz:Aag) (ba:Hy) (_:vs=[v]) (_:QW H v hz ba) (_:∀(r:Addr)(H':Hp),aJ H H'->H r=none->H' r=some (.lst ((hz++bB ba).map V.str))->Q (.ref r) H')
def xN:bZ ["question","found","atom"] ["question"] (defScope zL):=gA 53
def NL{f:Addr}{fd:FuncData}(F:dG K "terms_of" "terms_of" zL f fd)(T:Txt K mg):cK P w K mg base dY 1 f fd ["question"] vB:=by
 refine F.ok xN (λ_ _ _ _ h=>by cases h;subst_vars;rfl) 55;obtain⟨v,hz,ba,rfl,⟨⟨q,hd,aa,cR,rfl,hq,Cb,m8,fN⟩,l1,l8,good,h4,hh⟩,k⟩:=h;refine{_,(az (dE 1 xN (cQ kF 9 T.pO 53 (bX (bF bY (pv 0) aM (λ_ _=>9))))) (az (dR bG 9 (ir (bF bY (pv 0) aM (λ_ _=>9))) (fZ 2 xN) (aQ (gS (jk bR eA d9 qV (pv 1) (bX (bF bY (pv 2) aM (λ_ _=>9))))))) (aQ (bK (pv 1))))),?_}
 refine{_,9,_,_,_,_,9,9,aY.of hq,9,hd,_,9,.inr (aY.of Cb),λl hl=>?_};refine{_,rfl,_,_,_,_,rfl,rfl,aY.of (aB hl _ _ _ hq),rfl,aa,rfl,{cR,aY.of (aB hl _ _ _ m8)},qA
  (λi Z H2=>∃(x2:Aao),Z=[some (.ref q),some 727,x2]/\aJ H H2/\H2 l=some (.lst ((hz++bB 711).map V.str))) {none,9,aB hl _,by rw[au];show some (HO.lst _)=some (HO.lst ((hz++[]).map V.str));rw[c7]} (λi Z H2 _ hq=>by(obtain⟨_,_,sm,_⟩:=hq;exact aY.of (sm _ _ m8))) ?_ ?_}
 ·rintro i x Z H2 hx ⟨x2,rfl,sm,f9⟩;obtain⟨ta,ht,p,t,rfl,hp,mx⟩:=Paired.at fN hx;have g:=good ta (aA ht);have lf:=good.len i;refine{_,9,.inl {9,_,bf.of f9},_,9,_,_,_,_,9,9,aY.of (sm _ _ hp),9,l,t,_,_,9,9,f9,aY.of (sm _ _ mx),?_,?_}
  ·rw[ah,ah,aC];exact bC (bu ∅)
  ·refine{_,9,λb u e=>?_,?_}
   ·rw[aL (bA e hl)];exact sm _ _ e
   ·rw[au,mK ht,<-dF,aE (l₁:=hz++bB 711)]
 ·rintro Z H2 ⟨x2,rfl,sm,f9⟩;rw[(bb fN),aT]at f9;exact{_,9,k l H2 sm hl f9}
structure En where
 nm:Str
 ad:Addr
 ys:Aan
 rows:Aaa
def iQ(e:En):Key×V:=(Sum.inr e.nm,.ref e.ad)
def PZ(r:Aag):Prop:=1<=r.length/\r.length<=4
end
def Im(K:Frag)(H:Hp)(e:En):Prop:=H e.ad=some (.lst e.ys)/\fA K H e.ys e.rows/\(∀r∈e.rows,PZ r)/\e.rows.length<=60
def Ig(K:Frag)(H:Hp)(d:Addr)(es:List En):Prop:=H d=some (.dK (es.map iQ))/\(es.map (·.nm)).Nodup/\es.length<=60/\∀e∈es,Im K H e
section
variable{K:Frag}{H H':Hp}{d:Addr}
def ac3(es:List En):(es.map iQ).map (·.1)=(es.map (·.nm)).map (Sum.inr:Str->Key):=by rw[cw,cw];rfl
def Im.keep(h:Im K H e)(x:aJ H H'):Im K H' e:={x _ _ h.1,lV h.2.1 (dc.same x),h.2.2}
def Ig.keep(h:Ig K H d es)(x:aJ H H'):Ig K H' d es:={x _ _ h.1,h.2.1,h.2.2.1,λe he=>(h.2.2.2 e he).keep x}
theorem vj:∀{es:List En},(es.map (·.nm)).Nodup->∀{e:En},e∈es->iC (es.map iQ) (Sum.inr e.nm)=some (.ref e.ad)
 |[],_,e,h=>by cases h
 |a::r,nd,e,h=>by
  rw[bt,dg]at nd;rcases aN.mp h with rfl|h
  ·exact sC rfl
  ·have ne:¬(iQ a).1=Sum.inr e.nm:=λq=>nd.1 (by
    have:a.nm=e.nm:=by injection q
    rw[this];exact bS h)
   rw[bt,pX ne];exact vj nd.2 h
theorem Kj:∀{es:List En}{z:Str},z∉es.map (·.nm)->iC (es.map iQ) (Sum.inr z:Key)=none
 |[],_,_=>rfl
 |a::r,z,h=>by rw[bt,aN]at h;rw[bt,pX (λq=>h (.inl (by injection q with q;exact q.symm)))];exact Kj λq=>h (.inr q)
def iX(es:List En)(z:Str):Aaa:=match es.find? (λe=>decide (e.nm=z))with
 |some e=>e.rows
 |none=>[]
theorem sG:∀{es:List En},(es.map (·.nm)).Nodup->∀{e:En},e∈es->iX es e.nm=e.rows
 |[],_,e,h=>by cases h
 |a::r,nd,e,h=>by
  rw[bt,dg]at nd;unfold iX;rcases aN.mp h with rfl|h
  ·rw[fW (p:=λx:En=>decide (x.nm=e.nm)) (bj 9)]
  ·have ne:¬decide (a.nm=e.nm)=true:=λq=>nd.1 (by
    rw[aR q];exact bS h)
   rw[fX (p:=λx:En=>decide (x.nm=e.nm)) ne];exact sG nd.2 h
end
section
variable{P:Program}{w:World}{K:Frag}{mg:Aac}{base:Heap}
inductive KJ(K:Frag)(vs:Aan)(H:Hp)(Q:VK)(_x3:XK):Prop
 |mk (d:Addr) (es:List En) (e:En) (_:vs=[.ref d,.str e.nm]) (_:Ig K H d es) (_:e∈es) (_:∀(l:Addr)(zs:Aan)(H':Hp),aJ H H'->H l=none->H' l=some (.lst zs)->fA K H' zs (iA e.rows)->Q (.ref l) H')
def Qj:bZ ["tables","name"] ["tables","name"] (defScope By):=gA 53
def gJ(h:fA K H ys rows)(s:aJ H H'):fA K H' ys rows:=lV h (dc.same s)
def KC(q:aY K H a xs)(s:aJ H H'):aY K H' a xs:=by
 rcases q with(q|⟨o,q⟩)|q
 ·exact .inl (.inl (s _ _ q))
 ·exact .inl (.inr {o,s _ _ q})
 ·exact .inr q
def Qw(F:dG K "rows_of" "rows_of" By f fd)(T:Txt K mg):cK P w K mg base dY 1 f fd ["tables","name"] (KJ K):=by
 refine F.ok Qj (λ_ _ _ _ h=>by cases h;subst_vars;rfl) 55;obtain⟨d,es,e,rfl,hT,he,k⟩:=h;refine{_,(aQ (bK (bN (zm hr.hd) 9 T.sM 53 (bX (cQ (JA hr.hd hr.units) 9 T.Y2 53 (bX (sL (oZ hr) (pv 0) (pv 1) (dM iu) Y6))))))),?_};obtain⟨hd,hn,hl,ho⟩:=id hT;obtain⟨ha,hR,hg,hlr⟩:=ho e he;refine{_,9,d,9,.inl {_,.inl hd},_,9,409,λl0 rX=>?_};have FD:aJ H (upd H l0 656):=aB rX _;generalize (upd H l0 656)=H0 at FD⊢;refine{_,kS.k (k:=Sum.inr e.nm) (FD _ _ hd),?_};rw[vj hn he];refine{e.ad,e.ys,e.rows,9,bf.of (FD _ _ ha),gJ hR FD,8,λa us ha0 nu mu lu Me=>?_};have xg:aJ H0 (upd H0 a (.ext (uD P w a us))):=aB ha0 _;refine{a,us,e.ys,9,au,λx hx=>{KC (Me x hx).1 xg,(Me x hx).2},λ_ x hx=>?_,8,λl zs hl mZ _=>?_}
 ·have:=hg x.1 ((mu x.1).mp (bS hx));intro q;have:=this.1;rw[q]at this;cases this
 ·replace hl:upd H0 a (.ext (uD P w a us)) l=none:=hl
  have gN:aJ (upd H0 a (.ext (uD P w a us))) (upd (upd H0 a (.ext (uD P w a us))) l 702):=aB hl _;rw[Ew nu mu]at mZ;refine k l zs _ (FD.trans (xg.trans gN)) ?_ au (gJ mZ gN);cases q:H l with
  |none=>rfl
  |some o=>
   rw[xg _ _ (FD _ _ q)]at hl;cases hl
structure Ds(P:Program)(w:World)(K:Frag)(mg:Aac)(base:Heap):Prop where
 rows_of:cn P w K mg base 1 "rows_of" ["tables","name"] (KJ K)
def Found(K:Frag)(H H':Hp)(p:Addr)(es fs:List En):Prop:=H' p=some 699/\H p=none/\fs.map (·.nm)=(eW (es.map (·.nm))).filter (λz=>!(iX es z).isEmpty)/\(fs.map (·.ad)).Nodup/\
 ∀e∈fs,H e.ad=none/\e.ad≠p/\H' e.ad=some (.lst e.ys)/\fA K H' e.ys e.rows/\e.rows=iA (iX es e.nm)
inductive KH(K:Frag)(vs:Aan)(H:Hp)(Q:VK)(_x3:XK):Prop
 |mk (d:Addr) (es:List En) (_:vs=[.ref d]) (_:Ig K H d es) (_:∀(p:Addr)(fs:List En)(H':Hp),aJ H H'->Found K H H' p es fs->Q (.ref p) H')
def mG:bZ ["tables","told","name","rows"] ["tables"] (defScope qN):=gA 53
def DZ(rows:Aaa):(iA rows).isEmpty=rows.isEmpty:=by
 cases rows with
 |nil=>
  cases h:iA []with
  |nil=>rfl
  |cons b r=>
   have:b∈iA []:=h▸aF;cases(t6 b []).mp this
 |cons a r=>
  have:a∈iA (a::r):=(t6 a _).mpr aF;cases h:iA (a::r)with
  |nil=>rw[h]at this;cases this
  |cons _ _=>rfl
def ER{f:Addr}{fd:FuncData}(F:dG K "sorted_tables" "sorted_tables" qN f fd)(T:Txt K mg)(D:Ds P w K mg base):cK P w K mg base dY 2 f fd ["tables"] (KH K):=by
 refine F.ok mG (λ_ _ _ _ h=>by cases h;subst_vars;rfl) 55;obtain⟨d,es,rfl,hT,k⟩:=h;refine{_,(az (dE 1 mG jf) (az (dR bG 9 (dH (bN (Cy hr.hd) 9 T.sM 53 718)) (fZ 2 mG) (az (dE 3 mG (cl D.rows_of hr (cu (pv 0) (pv 2)))) (aQ (df (Wg (pv 3) (λ_=>9)) (aQ (yL (oZ hr) (pv 1) (pv 2) (pv 3) 9)) cy)))) (aQ (bK (pv 1))))),?_}
 obtain⟨hd,hn,hl,ho⟩:=id hT;intro p hp;have FD:aJ H (upd H p 651):=aB hp _;have m6:upd H p 651 p=some 651:=au;refine{_,9,d,es.map iQ,es.map (·.nm),9,FD _ _ hd,ac3 es,by rw[ah];lia,λl rX=>?_};have nlp:=bA m6 rX;have ps:=hZ (es.map (·.nm));refine{l,rfl,{_,bf.of au},gF (xs:=(eW (es.map (·.nm))).map V.str)
  (λi Z H2=>∃(x2 x3:Aao)(fs:List En),Z=[some 700,some 666,x2,x3]/\aJ H H2/\H2 l=some (.lst ((eW (es.map (·.nm))).map V.str))/\H2 p=some 699/\fs.map (·.nm)=((eW (es.map (·.nm))).take i).filter (λz=>!(iX es z).isEmpty)/\(fs.map (·.ad)).Nodup/\
   ∀e∈fs,H e.ad=none/\e.ad≠p/\H2 e.ad=some (.lst e.ys)/\fA K H2 e.ys e.rows/\e.rows=iA (iX es e.nm)) ?_ ?_ ?_ ?_}
 ·refine{none,none,[],9,(FD.trans (aB rX _)),au,?_,9,dZ,λe h=>by cases h};rw[aL nlp];exact m6
 ·rintro i Z H2 hi ⟨x2,x3,fs,rfl,gN,f9,_⟩;exact bf.of f9
 ·rintro i x Z H2 hx ⟨x2,x3,fs,rfl,gN,f9,jC,My,Y1,Ej⟩;obtain⟨z,hz,rfl⟩:=bz.mp (by rw[<-aX];exact hx);obtain⟨e,he,rfl⟩:=aD.mp (ps.mem_iff.mp (aA hz));have er:=sG hn he;refine{_,9,_,9,d,es,e,9,hT.keep gN,he,λl3 zs H3 qu t7 adM y4=>?_};have gm:=qu _ _ jC;have keep:∀e∈fs,H e.ad=none/\e.ad≠p/\H3 e.ad=some (.lst e.ys)/\fA K H3 e.ys e.rows/\e.rows=iA (iX es e.nm):=λe' h'=>by obtain⟨q1,q2,q3,q4,q5⟩:=Ej e' h';exact{q1,q2,qu _ _ q3,gJ q4 qu,q5}
  have ft:=yd (g:=λz=>!(iX es z).isEmpty) hz;have lz:zs.isEmpty=(iX es e.nm).isEmpty:=by rw[er,<-DZ];have:=y4.length;cases zs<;>cases h:iA e.rows<;>simp_all
  refine{_,9,!zs.isEmpty,.inl {zs,bf.of adM,9},?_};rw[lz];refine dS 669 669
  ·have l3n:H l3=none:=by
    cases q:H l3 with
    |none=>rfl
    |some o=>
     rw[gN _ _ q]at t7;cases t7
   have n3p:l3≠p:=λq=>by rw[q,jC]at t7;cases t7
   have nm:e.nm∉fs.map (·.nm):=λq=>by
    rw[My]at q;have:=(c6.mp q).1;obtain⟨j,hj⟩:=eJ.mp this;rw[CU]at hj;split at hj
    next lt=>
     have li:=(aq.mp hz).1;have:=(List.getElem?_inj li (ps.nodup_iff.mpr hn)).mp (hz.trans hj.symm);lia
    next=>cases hj
   have ek:putK (fs.map iQ) (Sum.inr e.nm) (V.ref l3)=(fs++[En.mk e.nm l3 zs (iA e.rows)]).map iQ:=by rw[EK _ (Kj nm),aE];rfl
   have lfs:fs.length<=1000:=by
    have h1:fs.length=(fs.map (·.nm)).length:=(ah _).symm;rw[My]at h1;have h2:=da (λz=>!(iX es z).isEmpty) ((eW (es.map (·.nm))).take i);have h3:((eW (es.map (·.nm))).take i).length<=(eW (es.map (·.nm))).length:=aZ▸Nat.min_le_right _ _;have h4:(eW (es.map (·.nm))).length=es.length:=by rw[ps.length_eq,ah]
    lia
   refine{_,9,_,9,_,9,p,_,9,.inl {_,Sum.inr e.nm,gm,9,by rw[ah];exact bu lfs,9},?_};rw[ek];have uN:aJ H (upd H3 p (.dK ((fs++[En.mk e.nm l3 zs (iA e.rows)]).map iQ))):=λb u q=>by rw[aL (bA q hp)];exact qu _ _ (gN _ _ q)
   have tk:∀{ys:Aan}{rows:Aaa},fA K H3 ys rows->fA K (upd H3 p (.dK ((fs++[En.mk e.nm l3 zs (iA e.rows)]).map iQ))) ys rows:=λh=>lV h (dc.upd (zZ gm));refine{_,_,fs++[En.mk e.nm l3 zs (iA e.rows)],9,uN,?_,au,?_,?_,λe' h'=>?_}
   ·rw[aL nlp.symm];exact qu _ _ f9
   ·rw[aE,My,ft,aK c];rfl
   ·rw[aE];refine fE.mpr {Y1,59,λa ha b hb=>?_};rw[oH,ay]at hb;obtain⟨e',h',rfl⟩:=aD.mp ha;rw[hb];intro q;have:=(Ej e' h').2.2.1;rw[q]at this;rw[this]at t7;cases t7
   ·rcases aS.mp h' with h'|h'
    ·obtain⟨q1,q2,q3,q4,q5⟩:=keep e' h';exact{q1,q2,aL q2▸q3,tk q4,q5}
    ·rw[ay.mp h'];exact{l3n,n3p,aL n3p▸adM,tk y4,by rw[er]}
  ·refine{_,_,fs,9,gN.trans qu,qu _ _ f9,gm,?_,Y1,keep};rw[ft,aH c,c7];exact My
 ·rintro Z H2 ⟨x2,x3,fs,rfl,gN,f9,jC,My,Y1,Ej⟩;rw[ah,aT]at My;exact{_,9,k p fs H2 gN ⟨jC,hp,My,Y1,Ej⟩}
structure Ds2(P:Program)(w:World)(K:Frag)(mg:Aac)(base:Heap):Prop extends Ds P w K mg base where
 sorted_tables:cn P w K mg base 2 "sorted_tables" ["tables"] (KH K)
def jw(rws:Hy)(z:Str):Aaa:=(rws.filter λa=>decide (a.1=z)).map (·.2)
structure Under(K:Frag)(H0 H:Hp)(d:Addr)(es:List En)(rws:Hy):Prop where
 tb:Ig K H d es
 d0:H0 d=none
 ad:(es.map (·.ad)).Nodup
 own:∀e∈es,H0 e.ad=none/\e.ad≠d
 rows:∀e∈es,e.rows=jw rws e.nm
 all:∀a∈rws,a.1∈es.map (·.nm)
 ne:∀e∈es,e.rows≠[]
 le:es.length<=rws.length
structure Told(K:Frag)(H H':Hp)(p:Addr)(rws:Hy)(fs:List En):Prop where
 at_:H' p=some 699
 p0:H p=none
 nm:(fs.map (·.nm)).Nodup
 ad:(fs.map (·.ad)).Nodup
 en:∀e∈fs,H e.ad=none/\e.ad≠p/\H' e.ad=some (.lst e.ys)/\fA K H' e.ys e.rows/\e.rows=iA (jw rws e.nm)/\e.rows≠[]
 all:∀a∈rws,a.1∈fs.map (·.nm)
 sub:∀e∈fs,∃a∈rws,a.1=e.nm
 len:fs.length<=60
inductive KG(K:Frag)(vs:Aan)(H:Hp)(Q:VK)(_x3:XK):Prop
 |mk (l:Addr) (ys:Aan) (rws:Hy) (_:vs=[.ref l]) (_:bf K H l ys) (_:kI K H ys rws) (_:rws.length<=60) (_:(∀a∈rws,PZ a.2)) (_:∀p fs H',aJ H H'->Told K H H' p rws fs->Q (.ref p) H')
def qL:bZ ["atoms","tables","name","row"] ["atoms"] (defScope xQ):=gA 53
def FJ{rws:Hy}{z:Str}:(jw rws z).length<=rws.length:=by unfold jw;rw[ah];exact da _ _
def xV{rws:Hy}{a:Str×Aag}{z:Str}:jw (rws++[a]) z=jw rws z++if a.1=z then[a.2]else[]:=by
 unfold jw;rw[eZ,aE,cZ,rN];by_cases h:a.1=z
 ·rw[aK (bj h),aK h];rfl
 ·rw[aH (λq=>h (aR q)),aH h];rfl
def FY{rws:Hy}{z:Str}{r:Aag}:r∈jw rws z↔(z,r)∈rws:=by
 unfold jw;rw[aD];constructor
 ·rintro⟨a,ha,rfl⟩;obtain⟨h1,h2⟩:=c6.mp ha;rw[<-aR h2];exact h1
 ·intro h;exact{_,c6.mpr {h,bj rfl},9}
def IS(h:H a=some (.lst l)):vg H a:=λxs q=>by rcases q with q|⟨o,q⟩<;>rw[h]at q<;>cases q
theorem Eu:∀{es:List En}{z:Str}{v:V},iC (es.map iQ) (Sum.inr z:Key)=some v->∃e∈es,e.nm=z/\v=.ref e.ad
 |[],_,_,h=>by cases h
 |e::r,z,v,h=>by
  by_cases c:e.nm=z
  ·rw[bt,sC (show(iQ e).1=Sum.inr z by rw[<-c];rfl)]at h;exact{e,aF,c,(bT h).symm}
  ·rw[bt,pX (λq=>c (by injection q))]at h;obtain⟨e',h1,h2⟩:=Eu h;exact{e',aG _ h1,h2}
theorem HH{α β:Type}{f:α->β}:∀{l:List α},(l.map f).Nodup->∀{x y:α},x∈l->y∈l->f x=f y->x=y
 |[],_,x,_,h,_,_=>by cases h
 |a::l,nd,x,y,hx,hy,e=>by
  rw[bt,dg]at nd;rcases aN.mp hx with h1|h1
  ·rcases aN.mp hy with h2|h2
   ·rw[h1,h2]
   ·exact absurd (by rw[<-h1,e];exact bS h2) nd.1
  ·rcases aN.mp hy with h2|h2
   ·exact absurd (by rw[<-h2,<-e];exact bS h1) nd.1
   ·exact HH nd.2 h1 h2 e
def aei{es:List En}(nd:(es.map (·.ad)).Nodup){x y:En}(hx:x∈es)(hy:y∈es)(e:x.ad=y.ad):x=y:=HH nd hx hy e
def ad5{es:List En}(nd:(es.map (·.nm)).Nodup){x y:En}(hx:x∈es)(hy:y∈es)(e:x.nm=y.nm):x=y:=HH nd hx hy e
def Lz{f:Addr}{fd:FuncData}(F:dG K "tables_of" "tables_of" xQ f fd)(T:Txt K mg)(D:Ds2 P w K mg base):cK P w K mg base dY 3 f fd ["atoms"] (KG K):=by
 refine F.ok qL (λ_ _ _ _ h=>by cases h;subst_vars;rfl) 55;obtain⟨l,ys,rws,rfl,hl,lF,lr,gr,k⟩:=h;refine{_,(az (dE 1 qL jf) (az (dR bG 9 (dH (pv 0)) (jy 9 (b9 (fZ 2 qL) (b9 (fZ 3 qL) fQ))) (aQ (gS (jk bR iI iH tZ (jk eU gM l9 IT (pv 1) (cu (pv 2) (dM iu))) (bX (pv 3)))))) (aQ (bK (cl D.sorted_tables hr 719))))),?_}
 refineλd hd=>?_
 have s1:aJ H (upd H d 651):=aB hd _;have hd1:upd H d 651 d=some 651:=au;refine{_,rfl,l,rfl,{_,iY hl s1},gF (xs:=ys) (λi Z H2=>∃(x2 x3:Aao)(es:List En),Z=[some 727,some 700,x2,x3]/\i<=rws.length/\aJ H H2/\Under K H H2 d es (rws.take i))
  {_,_,[],9,aO _,s1,{hd1,dZ,aO _,λe h=>by cases h},hd,dZ,λe h=>(by cases h),λe h=>(by cases h),λa h=>(by simp at h),λe h=>(by cases h),aO _} ?_ ?_ ?_}
 ·rintro i Z H2 hi ⟨_,_,_,rfl,_,s2,_⟩;exact iY hl s2
 ·rintro i x Z H2 hx ⟨_,_,es,rfl,hi,s2,un⟩;obtain⟨a,ha,B3⟩:=Paired.at' lF hx;have bQ:=(aq.mp ha).1;obtain⟨ab,ac,rfl,v7,qz⟩:=B3.same s2;refine{ab,_,9,v7,9,_,_,9,_,_,9,9,?_};obtain⟨UE,Zy,hlE,Zx⟩:=id un.tb;have ga:=gr a (aA ha);have e1:rws.take (i+1)=rws.take i++[a]:=by rw[bq,ha];rfl
  have lti:(rws.take i).length=i:=by rw[aZ];lia
  refine{_,9,.inr (.inr (.inl {9,.inl ⟨_,UE⟩})),_,9,409,λl0 rX=>?_};have s3:aJ H2 (upd H2 l0 656):=aB rX _;have t7:upd H2 l0 656 l0=some 656:=au;generalize (upd H2 l0 656)=H3 at s3 t7⊢;have nV:=s2.trans s3;have l00:H l0=none:=by
   cases q:H l0 with
   |none=>rfl
   |some u=>rw[s2 _ _ q]at rX;cases rX
  have dl0:l0≠d:=λq=>by rw[q,UE]at rX;cases rX
  refine{d,Sum.inr a.1,.ref l0,es.map iQ,9,9,s3 _ _ UE,(by rw[ah,bW];lia),λv hv=>?_,λhv=>?_}
  ·obtain⟨e,he,hen,rfl⟩:=Eu hv;obtain⟨zd,heR,heg,Ji⟩:=Zx e he;have Xa:=s3 _ _ zd;have Y7:=bb heR;refine{.inl {9,_,bf.of Xa},_,9,e.ad,e.ys,_,9,9,Xa,by rw[bW];lia,?_}
   let up:En->En:=λe'=>if e'.nm=a.1 then{e'.nm,e'.ad,e'.ys++[.ref ac],e'.rows++[a.2]}else e'
   have u1:∀e',(up e').nm=e'.nm:=λe'=>by show(if _ then _ else _:En).nm=_;split<;>rfl
   have u2:∀e',(up e').ad=e'.ad:=λe'=>by show(if _ then _ else _:En).ad=_;split<;>rfl
   have m1:(es.map up).map (·.nm)=es.map (·.nm):=by rw[cw];exact b8 λe' _=>u1 e'
   have m2:(es.map up).map (·.ad)=es.map (·.ad):=by rw[cw];exact b8 λe' _=>u2 e'
   have m3:(es.map up).map iQ=es.map iQ:=by rw[cw];refine b8 λe' _=>?_;show((Sum.inr (up e').nm:Key),V.ref (up e').ad)=_;rw[u1,u2];rfl
   have ne:∀e'∈es,e'.nm≠a.1->e'.ad≠e.ad:=λe' h' n q=>n (aei un.ad h' he q▸hen);have t4:dc H3 (upd H3 e.ad (.lst (e.ys++[.ref ac]))):=dc.upd (IS Xa);refine{_,_,es.map up,9,bQ,λb u q=>?_,{?_,?_,?_,λe' h'=>?_},un.d0,m2▸un.ad,λe' h'=>?_,λe' h'=>?_,692,λe' h'=>?_,?_}
   ·rw[aL (bA q (un.own e he).1)];exact nV _ _ q
   ·rw[m3,aL (cL (un.own e he).2)];exact s3 _ _ UE
   ·rw[m1];exact Zy
   ·rw[ah];exact hlE
   ·obtain⟨e0,h0,rfl⟩:=aD.mp h';obtain⟨q1,q2,q3,q4⟩:=Zx e0 h0;by_cases c:e0.nm=a.1
    ·have:e0=e:=ad5 Zy h0 he (c.trans hen.symm);subst this;show Im K _ (if e0.nm=a.1 then _ else _);rw[aK c];refine{au,fC (lV heR ((dc.same s3).trans t4)) (.cons {ac,9,gY qz ((dc.same s3).trans t4)} .nil),λr hr=>?_,?_}
     ·rcases aS.mp hr with hr|hr
      ·exact heg r hr
      ·rw[ay.mp hr];exact ga
     ·have:=FJ (rws:=rws.take i++[a]) (z:=e0.nm);rw[xV,aK c.symm,<-un.rows e0 h0,aC,aC,lti]at this;rw[aC];simp only[du]at this⊢;lia
    ·show Im K _ (if e0.nm=a.1 then _ else _);rw[aH c];exact{by rw[aL (ne e0 h0 c)];exact s3 _ _ q1,lV q2 ((dc.same s3).trans t4),q3,q4}
   ·obtain⟨e0,h0,rfl⟩:=aD.mp h';rw[u2];exact un.own e0 h0
   ·obtain⟨e0,h0,rfl⟩:=aD.mp h';rw[u1,e1,xV,<-un.rows e0 h0];show(if e0.nm=a.1 then _ else _:En).rows=_;by_cases c:e0.nm=a.1
    ·rw[aK c,aK c.symm]
    ·rw[aH c,aH (λq=>c q.symm),c7]
   ·rw[m1];rw[e1]at hb;rcases aS.mp hb with hb|hb
    ·exact un.all b hb
    ·rw[ay.mp hb,<-hen];exact bS he
   ·obtain⟨e0,h0,rfl⟩:=aD.mp h';show(if e0.nm=a.1 then _ else _:En).rows≠[];by_cases c:e0.nm=a.1
    ·rw[aK c];simp
    ·rw[aH c];exact un.ne e0 h0
   ·have:=un.le;rw[ah,e1,aC,lti];lia
  ·have nn:a.1∉es.map (·.nm):=λq=>by obtain⟨e,he,q⟩:=aD.mp q;rw[<-q,vj Zy he]at hv;cases hv
   rw[EK _ hv];have t4:dc H3 (upd H3 d 679):=dc.upd (zZ (s3 _ _ UE));have Gg:upd H3 d 679 l0=some 656:=aL dl0▸t7;have Jj:upd H3 d 679 d=some 679:=au;have o4:∀b u,b≠d->H3 b=some u->upd H3 d 679 b=some u:=λb u n q=>aL n▸q;generalize (upd H3 d 679)=H4 at t4 Gg Jj o4⊢;refine{.inl {9,_,bf.of Gg},_,9,l0,[],_,9,9,Gg,7,?_};have t5:dc H4 (upd H4 l0 (.lst ([]++[.ref ac]))):=dc.upd (IS Gg);have t35:=(dc.same s3).trans (t4.trans t5);have nl:∀e'∈es,e'.ad≠l0:=λe' h' q=>by have:=(Zx e' h').1;rw[q,rX]at this;cases this
   refine{_,_,es++[{a.1,l0,[.ref ac],[a.2]}],9,bQ,λb u q=>?_,{?_,?_,?_,λe' h'=>?_},un.d0,?_,λe' h'=>?_,λe' h'=>?_,692,λe' h'=>?_,?_}
   ·rw[aL (bA q l00)];exact o4 _ _ (bA q un.d0) (nV _ _ q)
   ·rw[aL (cL dl0),aE];exact Jj
   ·rw[aE];exact fE.mpr {Zy,59,λx hx y hy q=>nn (by rw[oH,ay]at hy;rw[<-show y=a.1 from hy,<-q];exact hx)}
   ·have:=un.le;rw[aC,du];lia
   ·rcases aS.mp h' with h'|h'
    ·obtain⟨q1,q2,q3,q4⟩:=Zx e' h';exact{by rw[aL (nl e' h')];exact o4 _ _ (un.own e' h').2 (s3 _ _ q1),lV q2 t35,q3,q4}
    ·rw[ay.mp h'];refine{au,.cons {ac,9,gY qz t35} .nil,λr hr=>?_,by show 1<=60;decide};rw[ay.mp hr];exact ga
   ·rw[aE];exact fE.mpr {un.ad,by simp,λx hx y hy q=>by rw[oH,ay]at hy;obtain⟨e',h',rfl⟩:=aD.mp hx;exact nl e' h' (q.trans hy)}
   ·rcases aS.mp h' with h'|h'
    ·exact un.own e' h'
    ·rw[ay.mp h'];exact⟨l00,dl0⟩
   ·rw[e1,xV];rcases aS.mp h' with h'|h'
    ·rw[aH (λq=>nn (by rw[q];exact bS h')),c7];exact un.rows e' h'
    ·rw[ay.mp h'];rw[aK rfl];have:jw (rws.take i) a.1=[]:=by
      cases q:jw (rws.take i) a.1 with
      |nil=>rfl
      |cons r t=>
       have hr:r∈jw (rws.take i) a.1:=q▸aF;exact absurd (un.all _ (FY.mp hr)) nn
     rw[this,jP]
   ·rw[aE];rw[e1]at hb;rcases aS.mp hb with hb|hb
    ·exact bx _ (un.all b hb)
    ·rw[ay.mp hb];exact bc _ aF
   ·rcases aS.mp h' with h'|h'
    ·exact un.ne e' h'
    ·rw[ay.mp h'];simp
   ·have:=un.le;rw[e1,aC,aC,du,du];lia
 ·rintro Z H2 ⟨_,_,es,rfl,_,s2,un⟩;rw[(bb lF),aT]at un;refine{_,9,d,es,9,un.tb,λp fs H3 s3 fo=>?_};obtain⟨f1,f2,f3,f4,f5⟩:=fo;have hn:=un.tb.2.1;have ps:=hZ (es.map (·.nm));have ne:∀z∈es.map (·.nm),(iX es z).isEmpty=false:=λz hz=>by
   obtain⟨e,he,rfl⟩:=aD.mp hz;rw[sG hn he];have:=un.ne e he;cases q:e.rows with
   |nil=>exact absurd q this
   |cons _ _=>rfl
  rw[(List.filter_eq_self.mpr λz hz=>by rw[ne z (ps.mem_iff.mp hz)];rfl)]at f3;have z0:∀b,H2 b=none->H b=none:=λb q=>by
   cases e:H b with
   |none=>rfl
   |some u=>rw[s2 _ _ e]at q;cases q
  refine k p fs H3 (s2.trans s3) {f1,z0 p f2,f3▸ps.nodup_iff.mpr hn,f4,λe he=>?_,λa ha=>?_,λe he=>?_,?_}
  ·obtain⟨g1,g2,g3,g4,g5⟩:=f5 e he;have hm:e.nm∈es.map (·.nm):=by rw[<-ps.mem_iff,<-f3];exact bS he
   obtain⟨e',Pk,q⟩:=aD.mp hm;have er:iX es e.nm=jw rws e.nm:=by rw[<-q,sG hn Pk,un.rows e' Pk]
   refine{z0 _ g1,g2,g3,g4,by rw[g5,er],λq2=>?_};have h1:=ne e.nm hm;rw[<-DZ,<-g5,q2]at h1;cases h1
  ·rw[f3,ps.mem_iff];exact un.all a ha
  ·have hm:e.nm∈es.map (·.nm):=by rw[<-ps.mem_iff,<-f3];exact bS he
   obtain⟨e',Pk,q⟩:=aD.mp hm;have:=un.ne e' Pk;rw[un.rows e' Pk]at this;cases q2:jw rws e'.nm with
   |nil=>exact absurd q2 this
   |cons r t=>
    exact{_,FY.mp (by rw[q2];exact aF),q}
  ·have h1:fs.length=(fs.map (·.nm)).length:=(ah _).symm;rw[f3,ps.length_eq,ah]at h1;have:=un.le;lia
structure ng(bJ:Aag)(bo:Hy)(bM:Aag)(bg:Hy)(g:cV)(ks:List Nat):Prop where
 len:ks.length=(fh (bB bo)).length
 nd:ks.Nodup
 new:∀k∈ks,k<600/\fJ k∉(bJ++bB bo)++(bM++bB bg)
 eq:g=(fh (bB bo)).zip (ks.map fJ)
def jg(g:cV)(ba:Hy):Hy:=ba.map λa=>(a.1,a.2.map (dk g))
inductive KL(K:Frag)(vs:Aan)(H:Hp)(Q:VK)(_x3:XK):Prop
 |mk (v1 v2:V) (bJ bM:Aag) (bo bg:Hy) (_:vs=[v1,v2]) (_:QW H v1 bJ bo) (_:QW H v2 bM bg) (_:∀H' r p rw g ks fs,aJ H H'->H r=none->H' r=some (.tup [.str "parted",.ref p,.ref rw])->H' rw=some (.tup ((bJ.map (dk g)).map V.str))->ng bJ bo bM bg g ks->Told K H H' p (jg g bo) fs->Q (.ref r) H')
structure Dpt(P:Program)(w:World)(K:Frag)(mg:Aac)(base:Heap):Prop where
 unknowns_of:cn P w K mg base 3 "unknowns_of" ["question"] yG
 terms_of:cn P w K mg base 1 "terms_of" ["question"] vB
 new_values:cn P w K mg base 1 "new_values" ["count","taken"] Sh
 image:cn P w K mg base 1 "image" ["terms","given"] J4
 tables_of:cn P w K mg base 3 "tables_of" ["atoms"] (KG K)
def Told.more{H0 H H' H'':Hp}{p:Addr}{rws:Hy}{fs:List En}(x:Told K H H' p rws fs)(s0:aJ H0 H)(s1:aJ H' H''):Told K H0 H'' p rws fs:=by
 have z0:∀{b:Addr},H b=none->H0 b=none:=λ{b} q=>by
  cases e:H0 b with
  |none=>rfl
  |some u=>rw[s0 _ _ e]at q;cases q
 exact{s1 _ _ x.at_,z0 x.p0,x.nm,x.ad,λe he=>by obtain⟨g1,g2,g3,g4,g5⟩:=x.en e he;exact{z0 g1,g2,s1 _ _ g3,gJ g4 s1,g5},x.all,x.sub,x.len}
def Wf{g:cV}{u t:Str}(h:u∉g.map (·.1)):j8 g u t=g++[(u,t)]:=by unfold j8;rw[aH];intro q;obtain⟨p,hp,e⟩:=il.mp q;exact h (aD.mpr {p,hp,aR e})
theorem Gk:∀(bV g:cV),((g++bV).map (·.1)).Nodup->bV.foldl (λg p=>j8 g p.1 p.2) g=g++bV
 |[],g,_=>by rw[c7];rfl
 |p::r,g,h=>by
  have hn:=λq=>by rw[aE,fE]at h;exact h.2.2 p.1 q p.1 59 rfl
  rw[gQ,Wf hn,Gk r (g++[(p.1,p.2)]) (by rw[dF];exact h),dF];rfl
def ye{bV:cV}(h:(bV.map (·.1)).Nodup):jm bV=bV:=Gk bV [] h
theorem RS:∀(us vs:Aag),(us.map (Sum.inr:Str->Key)).zip (vs.map V.str)=gD (us.zip vs)
 |[],_=>rfl
 |_::_,[]=>rfl
 |u::us,v::vs=>by show(Sum.inr u,V.str v)::(us.map (Sum.inr:Str->Key)).zip (vs.map V.str)=(Sum.inr u,V.str v)::gD (us.zip vs);rw[RS us vs]
theorem GR:∀{us vs:Aag},us.length=vs.length->(us.zip vs).map (·.1)=us
 |[],[],_=>rfl
 |[],_::_,h=>by cases h
 |_::_,[],h=>by cases h
 |u::us,v::vs,h=>by show u::(us.zip vs).map (·.1)=u::us;rw[GR 717]
def tT:bZ ["one","other","unknowns","values","given","tables"] ["one","other"] (defScope EB):=gA 53
def Tc{f:Addr}{fd:FuncData}(F:dG K "parted" "parted" EB f fd)(T:Txt K mg)(D:Dpt P w K mg base):cK P w K mg base dY 4 f fd ["one","other"] (KL K):=by
 refine F.ok tT (λ_ _ _ _ h=>by cases h;subst_vars;rfl) 55;obtain⟨v1,v2,bJ,bM,bo,bg,rfl,q1,q2,k⟩:=h;refine{_,(az (dE 2 tT (cl D.unknowns_of hr 718)) (az (dE 3 tT (cl D.new_values hr (cu (bN cY 9 T.eT bH (bX (pv 2))) (cW vR (cl D.terms_of hr 718) (cl D.terms_of hr 719))))) (az (kx (i:=4) tT.nd 9 (Or.inr 9) (Wt 9 T.BR 9 T.QE hr.hd (cu (pv 2) (pv 3)))) (az (dE 5 tT (cl D.tables_of hr (bX (vQ 9 (o7 (more:=["terms"]) (fs:=["given"]) (fr:=[4])) (ir (bF bY (pv 0) aM (λ_ _=>9))) (λ_ _ _ _=>(vk (n:=2) 9 694)) (λ_ _ _ _=>(dX (cu (pv 0) (cl D.image hr (cu (pv 1) (pv 2)))))))))) (aQ (bK (dX (iZ cI (pv 5) (cl D.image hr (cu (bF bY (pv 0) aM (λ_ _=>9)) (pv 4))))))))))),?_}
 refine{_,9,v1,bJ,bo,9,q1,λul H1 s1 ahw B4=>?_};have lf1:=q1.good.len bo.length;have lf2:=q2.good.len bg.length;rw[aT]at lf1 lf2;have lu:=yU (bB bo);have l81:=q1.l8;have l82:=q2.l8;have h41:=q1.h4;have h42:=q2.h4;refine{_,9,_,_,9,.inl {_,bf.of B4,9},_,9,v1,bJ,bo,9,(q1.keep (b4.of s1)),λt1 H2 s2 Um B6=>?_};refine{_,9,v2,bM,bg,9,(q2.keep (b4.of s1)).keep (b4.of s2),λt2 H3 s3 ahx iR=>?_};refine{t1,t2,_,_,9,9,s3 _ _ B6,iR,by rw[ah,ah,aC,aC,bW];lia,λtl htl=>?_};have s4:aJ H3 (upd H3 tl (.lst ((bJ++bB bo).map V.str++(bM++bB bg).map V.str))):=aB htl _;have agF:upd H3 tl (.lst ((bJ++bB bo).map V.str++(bM++bB bg).map V.str)) tl=some (.lst (((bJ++bB bo)++(bM++bB bg)).map V.str)):=by rw[au,aE (l₁:=bJ++bB bo)]
 have s14:=s2.trans (s3.trans s4);have lul:((fh (bB bo)).map V.str).length=(fh (bB bo)).length:=ah _;refine{_,tl,_,9,agF,8,by rw[lul];simp only[aC];lia,λvl ks H5 s5 agC F7 lks nks fks=>?_};have WQ:ks.length=(fh (bB bo)).length:=by lia
 have FI:=(s1.trans s14).trans s5;have uk:(fh (bB bo)).map V.str=((fh (bB bo)).map (Sum.inr:Str->Key)).map kV:=by rw[cw];rfl
 refine{_,9,_,9,ul,vl,(fh (bB bo)).map Sum.inr,(ks.map fJ).map V.str,9,by rw[<-uk];exact bf.of ((s14.trans s5) _ _ B4),bf.of F7,by rw[ah,ah,ah,WQ],λd hd=>?_}
 let g:cV:=(fh (bB bo)).zip (ks.map fJ)
 have eg:ky [] (((fh (bB bo)).map (Sum.inr:Str->Key)).zip ((ks.map fJ).map V.str))=gD g:=by rw[RS];show ky (gD []) (gD g)=_;rw[ET];exact cP gD (ye (by rw[GR (by rw[ah,WQ])];exact xf _))
 rw[eg];have s6:aJ H5 (upd H5 d (.dK (gD g))):=aB hd _;have UH:upd H5 d (.dK (gD g)) d=some (.dK (gD g)):=au;generalize (upd H5 d (.dK (gD g)))=H6 at s6 UH⊢;have SA:=FI.trans s6;obtain⟨r1,h1,a1,Yc,rfl,qy,Uy,Pp,Dw⟩:=q1.at';have lv1:=bb Dw;refine{_,9,_,_,_,_,9,9,aY.of (SA _ _ qy),9,a1,9,{Yc,aY.of (SA _ _ Pp)},Cu (xs:=Yc) (λi ys H7=>aJ H6 H7/\i<=bo.length/\kI K H7 ys ((jg g bo).take i)) (bu ∅) {aJ.refl _,aO _,.nil} ?_ ?_ ?_}
 ·rintro i ys H7 hi ⟨s7,my,hy⟩;refine{aY.of (s7 _ _ (SA _ _ Pp)),?_};rw[bb hy,aZ];lia
 ·rintro i x ys H7 N hx ⟨s7,my,hy⟩ hN;obtain⟨a,ha,p,t,rfl,hp,ht⟩:=Paired.at' (Dw.keep (b4.of SA)) hx;have bQ:=(aq.mp ha).1;refine{p,_,_,9,aY.of (s7 _ _ hp),yK ?_};refine{_,rfl,_,rfl,_,rfl,t,d,a.2,g,rfl,s7 _ _ ht,s7 _ _ UH,by have:=(q1.good a (aA ha)).2.2.1;lia,λrr H8 s8 hrr=>{96,λpp Pa=>?_}};refine hN _ _ {s7.trans (s8.trans (aB Pa _)),bQ,?_};have e1:(jg g bo).take (i+1)=(jg g bo).take i++[(a.1,a.2.map (dk g))]:=by
   have:(jg g bo)[i]?=some (a.1,a.2.map (dk g)):=by unfold jg;rw[aX,ha];rfl
   rw[bq,this];rfl
  rw[e1];exact fC (kI.same hy (s8.trans (aB Pa _))) (.cons {pp,rr,9,aY.of au,aY.of (aB Pa _ _ _ hrr)} .nil)
 rintro ys H7 ⟨s7,_,hy⟩ l hl;have ll:(jg g bo).length=bo.length:=ah _;rw[lv1,cU ∅]at hy;have s8:aJ H7 (upd H7 l 682):=aB hl _;have ZA:upd H7 l 682 l=some 682:=au;have Sz:=SA.trans (s7.trans s8);refine{l,ys,jg g bo,9,bf.of ZA,kI.same hy s8,8,692,λp fs H9 s9 tld=>?_}
 ·obtain⟨a,ha,rfl⟩:=aD.mp hb;have:=q1.good a ha;show 1<=(a.2.map (dk g)).length/\(a.2.map (dk g)).length<=4;rw[ah];exact{this.2.1,this.2.2.1}
 have YB:=Sz.trans s9;refine{_,9,_,9,_,_,_,_,9,9,aY.of (YB _ _ qy),9,_,9,h1,d,bJ,g,9,YB _ _ Uy,s9 _ _ (s8 _ _ (s7 _ _ UH)),8,λnW hV kL xp=>{675,λr hr=>?_}};have z0:∀{b:Addr}{Hx:Hp},aJ H Hx->Hx b=none->H b=none:=λ{b Hx} sx q=>by
  cases e:H b with
  |none=>rfl
  |some u=>rw[sx _ _ e]at q;cases q
 have qP:aJ hV (upd hV r (.tup [.str "parted",.ref p,.ref nW])):=aB hr _;refine k _ r p nW g ks fs (YB.trans (kL.trans qP)) (z0 (YB.trans kL) hr) au (qP _ _ xp) ⟨WQ,nks,fks,rfl⟩ (tld.more Sz (kL.trans qP))
def WS{u t u' t':Str}(h:uU.kJ [u,t] [u',t']=true):qX u u'=true:=by
 unfold qX;rw[DT];refine cA λq=>?_;have h:uU.fw [u',t'] [u,t]=false:=by simpa using h
 unfold uU.fw at h;by_cases e:u'=u
 ·rw[e]at q;exact List.lt_irrefl _ q
 ·rw[aH e]at h;exact oh h q
def Qm:∀{rs:Aaa}{g:cV},rs.Perm (rowsOf g)->∃bV:cV,rs=rowsOf bV/\bV.Perm g:=by
 have all:∀{rs:Aaa},(∀r∈rs,∃p:Str×Str,r=[p.1,p.2])->∃bV:cV,rs=rowsOf bV:=by
  intro rs
  induction rs with
  |nil=>intro _;exact{[],9}
  |cons r rs ih=>
   intro h;obtain⟨p,rfl⟩:=h r aF;obtain⟨bV,rfl⟩:=ih λr hr=>h r (aG _ hr);exact{p::bV,rfl}
 intro rs g h;obtain⟨bV,rfl⟩:=all λr hr=>by obtain⟨p,_,e⟩:=aD.mp (h.mem_iff.mp hr);exact{p,e.symm}
 refine{bV,9,?_};have inv:∀l:cV,(rowsOf l).map (λr=>(r.getD 0 "",r.getD 1 ""))=l:=λl=>by
  unfold rowsOf;rw[cw]
  conv=>rhs;rw[<-yu l]
  exact b8 λp _=>9
 rw[<-inv bV,<-inv g];exact h.map _
def Dh(g:cV)(z:Str):IX g z=aI.get g z:=9
def abm{bJ bM:Aag}{bo bg:Hy}{g bV:cV}(im:aah bJ bo bM bg g)(rg:mB bM bg)(pm:bV.Perm g)(Ot:(rowsOf bV).Pairwise λa b=>uU.kJ a b=true):qW bJ bo bM bg bV=true:=by
 have pk:(bV.map (·.1)).Perm (keys g):=pm.map _;have nd:=pk.nodup_iff.mpr im.nd;have uk:∀u,u∈keys g↔u∈fh (bB bg):=λu=>by
  rw[im.ks,qe];constructor
  ·rintro(⟨h1,h2⟩|h)
   ·exact{rg u h1 h2,h2}
   ·obtain⟨b,hb,h1,h2⟩:=aI.cN.mp h;exact{ix.mpr ⟨b,hb,h1⟩,h2}
  ·rintro⟨h1,h2⟩;obtain⟨b,hb,h1⟩:=ix.mp h1;exact .inr (aI.cN.mpr ⟨b,hb,h1,h2⟩)
 have e1:bV.map (·.1)=eW (fh (bB bg)):=by
  refine Hi (pk.trans (((nh im.nd (xf _)).mpr uk).trans (hZ _).symm)) ?_ (Fz _);have:(rowsOf bV).map (λr=>r.getD 0 "")=bV.map (·.1):=by unfold rowsOf;rw[cw];rfl
  rw[<-this,jZ];refine Ot.imp_of_mem λ{a b} ha hb h=>?_;obtain⟨p,_,rfl⟩:=aD.mp ha;obtain⟨q,_,rfl⟩:=aD.mp hb;exact WS h
 have gp:∀z,aI.get bV z=aI.get g z:=λz=>by
  cases q:aI.get g z with
  |some v=>exact aI.get_mem nd (pm.mem_iff.mpr (aI.get_some q))
  |none=>
   exact aI.get_none.mpr λh=>aI.get_none.mp q (pk.mem_iff.mp h)
 have el:∀z,dk (jm bV) z=aI.ap bh (aI.over g λu=>u) z:=λz=>by
  rw[ye nd];unfold dk aI.ap aI.over;rw[Dh,gp];by_cases c:bh z=true
  ·rw[aK c]
  ·rw[aH c];have:aI.get g z=none:=aI.get_none.mpr λh=>c ((qe.mp ((uk z).mp h)).2);rw[this];rfl
 obtain⟨l1,l2⟩:=im.led _ (aI.nj im.nd);have em:∀ts:Aag,ts.map (dk (jm bV))=ts.map (aI.ap bh (aI.over g λu=>u)):=λts=>b8 λz _=>el z;unfold qW;rw[bj e1,em,bj l1,iV,iV,bL];intro b hb;obtain⟨a,ha,rfl⟩:=aD.mp hb;rw[em];exact bj (l2 a ha)
inductive zH(K:Frag)(vs:Aan)(H:Hp)(Q:VK)(_x3:XK):Prop
 |mk (v1 v2:V) (bJ bM:Aag) (bo bg:Hy) (_:vs=[v1,v2]) (_:QW H v1 bJ bo) (_:QW H v2 bM bg) (_:mB bM bg) (_:(∀H' r l kM bV,aJ H H'->H r=none->H l=none->H' r=some (.tup [.str "within",.ref l])->H' l=some (.lst kM)->oE H' kM bV->qW bJ bo bM bg bV=true->xC bV->Q (.ref r) H')) (_:∀H' r p rw g ks fs,aJ H H'->H r=none->H' r=some (.tup [.str "parted",.ref p,.ref rw])->H' rw=some (.tup ((bJ.map (dk g)).map V.str))->ng bJ bo bM bg g ks->Told K H H' p (jg g bo) fs->(∀h,¬iL bJ bo bM bg h)->Q (.ref r) H')
structure Dwi(P:Program)(w:World)(K:Frag)(mg:Aac)(base:Heap):Prop where
 found_map:cn P w K mg base 25 "found_map" ["one","other"] Ox
 parted:cn P w K mg base 4 "parted" ["one","other"] (KL K)
theorem YL{H H':Hp}:∀{zs:Aan}{bV:cV},RM H zs (rowsOf bV)->aJ H H'->oE H' zs bV
 |_,[],h,_=>by cases h;exact .nil
 |_,p::r,h,s=>by
  cases h with
  |cons h t=>
   obtain⟨a,e,h⟩:=h;exact .cons {a,e,s _ _ h} (YL t s)
def IF:bZ ["one","other","given"] ["one","other"] (defScope EA):=gA 53
def Ta{f:Addr}{fd:FuncData}(F:dG K "within" "within" EA f fd)(T:Txt K mg)(D:Dwi P w K mg base):cK P w K mg base dY 26 f fd ["one","other"] (zH K):=by
 refine F.ok IF (λ_ _ _ _ h=>by cases h;subst_vars;rfl) 55;obtain⟨v1,v2,bJ,bM,bo,bg,rfl,q1,q2,rg,k1,k2⟩:=h;have z0:∀{b:Addr}{Hx:Hp},aJ H Hx->Hx b=none->H b=none:=λ{b Hx} sx q=>by
  cases e:H b with
  |none=>rfl
  |some u=>rw[sx _ _ e]at q;cases q
 refine{_,(az (dE 2 IF (cl D.found_map hr (cu (pv 0) (pv 1)))) (az (df (b5 FU (pv 2) jz (cx _)) (aQ (bK (cl D.parted hr (cu (pv 0) (pv 1))))) cy) (aQ (bK (dX (cu cI (bN (E5 hr.hd) 9 T.sM 53 (bX (Wq (pv 2)))))))))),?_}
 refine{_,9,_,9,v1,v2,bJ,bM,bo,bg,9,q1,q2,λH1 s1 no=>?_,λH1 d g s1 hd im=>?_}
 ·refine{_,9,9,_,9,nr ?_};exact{_,9,_,9,v1,v2,bJ,bM,bo,bg,9,q1.keep (b4.of s1),q2.keep (b4.of s1),λH2 r p rw g ks fs s2 r0 mZ xp par tld=>k2 H2 r p rw g ks fs (s1.trans s2) (z0 s1 r0) mZ xp par (tld.more s1 (aJ.refl _)) no}
 ·refine{_,9,9,_,9,fU ?_};refine{_,9,d,gK g,9,hd,λiv hiv=>?_};have s2:aJ H1 (upd H1 iv (.ext (GP iv d))):=aB hiv _;have adP:upd H1 iv (.ext (GP iv d)) iv=some (.ext (GP iv d)):=au;generalize (upd H1 iv (.ext (GP iv d)))=H2 at s2 adP⊢;have lg:g.length<64:=by
   have h1:=jL im.nd (m:=bM++bB bg) λu hu=>by
    rcases(im.ks u).mp hu with h|h
    ·exact bx _ h.1
    ·obtain⟨b,hb,h1,_⟩:=aI.cN.mp h;exact bc _ (ix.mpr ⟨b,hb,h1⟩)
   have h2:=q2.good.len bg.length;rw[aT]at h2;have h3:=q2.l8;have h4:=q2.h4;unfold keys at h1;rw[ah,aC]at h1;lia
  refine{iv,d,g,9,adP,s2 _ _ hd,lg,λl zs H3 k3 t7 f9 F8=>?_};have s3:aJ H2 H3:=k3;obtain⟨bV,epr,pm⟩:=Qm (uU.mE (rowsOf g));rw[epr]at F8;have Ot:=uU.u3 (rowsOf g);rw[epr]at Ot;have s4:aJ H3 (upd H3 l 702):=aB t7 _;have Gg:upd H3 l 702 l=some 702:=au;generalize (upd H3 l 702)=H4 at s4 Gg⊢;refine{96,λr hr=>?_};have s5:aJ H4 (upd H4 r (.tup [.str "within",.ref l])):=aB hr _;have yJ:=s1.trans s2;have nU:=yJ.trans (s3.trans s4);refine k1 _ r l zs bV (nU.trans s5) (z0 nU hr) (z0 yJ f9) au (s5 _ _ Gg) (YL F8 (s4.trans s5)) (abm im rg pm Ot) λp hp=>?_;have Pc:=pm.mem_iff.mp hp;have gv:aI.over g (λu=>u) p.1=p.2:=aI.nj im.nd p Pc;obtain⟨l1,l2⟩:=im.led _ (aI.nj im.nd);rcases(im.ks _).mp (bS Pc)with h|h
  ·refine{CI (q2.hh _ h.1),CI (q1.hh _ ?_)};rw[<-l1,<-gv];have:aI.ap bh (aI.over g λu=>u) p.1∈bM.map (aI.ap bh (aI.over g λu=>u)):=bS h.1;unfold aI.ap at this⊢;rw[aK h.2]at this;exact this
  ·obtain⟨b,hb,h1,h2⟩:=aI.cN.mp h;refine{CI ((q2.good b hb).2.2.2 _ h1),CI ?_};have:=(q1.good _ (l2 b hb)).2.2.2 (aI.ap bh (aI.over g λu=>u) p.1) (bS h1);unfold aI.ap at this;rw[aK h2,gv]at this;exact this
inductive Dc(K:Frag)(vs:Aan)(H:Hp)(Q:VK)(_x3:XK):Prop
 |mk (d t a:Addr) (g:cV) (ts as:Aag) (_:vs=[.ref t,.ref a,.ref d]) (_:H d=some (.dK (gK g))) (_:g.length<=1000) (_:(keys g).Nodup) (_:aY K H t (ts.map V.str)) (_:aY K H a (as.map V.str)) (_:ts.length<=1000) (_:as.length<=1000) (_:(∀z∈ts,kW z=true/\z.length<=100)) (_:(∀H',aJ H H'->aI.fit bh g ts as=none->Q .cz H')) (_:∀p g' H',aJ H H'->H p=none->H' p=some (.dK (gK g'))->aI.fit bh g ts as=some g'->Q (.ref p) H')
def Wd{g:cV}{u v:Str}(nd:(keys g).Nodup)(h:aI.get g u=some v):putK (gK g) (Sum.inr u) (.str v)=gK g:=by
 unfold putK;rw[zB,aK (by rw[qH,h];rfl)];unfold gK;rw[cw];refine b8 λp hp=>?_;show(if(Sum.inr p.1:Key)=Sum.inr u then((Sum.inr p.1:Key),V.str v)else(Sum.inr p.1,V.str p.2))=(Sum.inr p.1,V.str p.2);by_cases c:p.1=u
 ·rw[aK (cP Sum.inr c)];have:=aI.get_mem nd hp;rw[c,h]at this;rw[bT this]
 ·rw[aH (λe=>c (by injection e))]
def u5:bZ ["_law_terms_here","_law_row","_law_given","_law_more","_law_term","_law_value"] ["_law_terms_here","_law_row","_law_given"] (defScope BD):=gA 53
def WH{f:Addr}{fd:FuncData}(F:dG K "_law_bound" "_law_bound" BD f fd)(T:Txt K mg):cK P w K mg base dY 1 f fd ["_law_terms_here","_law_row","_law_given"] (Dc K):=by
 refine F.ok u5 (λ_ _ _ _ h=>by cases h;subst_vars;rfl) 55;obtain⟨d,t,a,g,ts,as,rfl,hd,lg,nd,ht,ha,lt,la,hz,k1,k2⟩:=h;have hu:=oZ hr;refine{_,(az (df (b5 pV (bN cY 9 T.eT bH 718) (bN cY 9 T.eT bH 719) (cx _)) (aQ (bK jz)) cy) (az (dE 3 u5 (cQ GF 9 T.BR 53 (bX (pv 2)))) (az (dR bG 9 (OK 9 T.QE (cu (pv 0) (pv 1))) (jy 9 (b9 (fZ 4 u5) (b9 (fZ 5 u5) fQ))) (aQ (df (b5 lO (bF F1 (pv 4) aM (λ_ _=>9)) cI (cx _)) (az (df (b5 pV (sL hu (pv 3) (pv 4) (pv 5) QL) (pv 5) (cx _)) (aQ (bK jz)) cy) (aQ (yL hu (pv 3) (pv 4) (pv 5) 9))) (aQ (df (b5 pV (pv 4) (pv 5) (cx _)) (aQ (bK jz)) cy))))) (aQ (bK (pv 3)))))),?_}
 have IW:(ts.map V.str).length=ts.length:=ah _;have TR:(as.map V.str).length=as.length:=ah _;refine{_,9,_,_,9,.inr ⟨_,ht,rfl⟩,_,9,_,_,9,.inr ⟨_,ha,rfl⟩,9,_,9,?_};refine dS 669 669
 ·refine k1 H (aJ.refl H) (zi λe=>?_);rw[IW,TR,e]at c;simp at c
 have le:ts.length=as.length:=by have:¬¬(V.int (ts.length:Int)=V.int (as.length:Int)):=λh=>c 717;have:=j4.mp this;injection this with this;lia
 refine{_,9,d,gK g,9,.inl hd,689};have s1:aJ H (upd H p (.dK (gK g))):=aB hp _;have lG:upd H p (.dK (gK g)) p=some (.dK (gK g)):=au;refine{_,rfl,_,rfl,t,a,rfl,{_,fT ht s1},{_,fT ha s1},MV (ys:=as.map V.str)
  (λi Z H2=>∃(x4 x5:Aao)(gi:cV),Z=[some (.ref t),some 654,some 700,some 666,x4,x5]/\aJ H H2/\H2 p=some (.dK (gK gi))/\(keys gi).Nodup/\gi.length<=g.length+i/\aI.fit bh g ts as=aI.fit bh gi (ts.drop i) (as.drop i))
  (by rw[IW,TR,le]) {_,_,g,9,s1,lG,nd,aw _,9} ?_ ?_ ?_}
 ·rintro i Z H2 hi ⟨x4,x5,gi,rfl,s2,_⟩;exact{fT ht s2,fT ha s2}
 ·rintro i x y q Z H2 hx hy ⟨x4,x5,gi,rfl,s2,jC,qx,lg2,ef⟩ hq;rw[aX]at hx hy;obtain⟨z,v5,rfl⟩:=bz.mp hx;obtain⟨b,Pn,rfl⟩:=bz.mp hy;have li:=(aq.mp v5).1;have dz:ts.drop i=z::ts.drop (i+1):=by rw[gh li];rw[av li]at v5;cases v5;rfl
  have db:as.drop i=b::as.drop (i+1):=by
   have TL:i<as.length:=by lia
   rw[gh TL];rw[av TL]at Pn;cases Pn;rfl
  rw[dz,db]at ef;have s3:aJ H2 (upd H2 q (.tup [.str z,.str b])):=aB hq _;have gm:=s3 _ _ jC;refine{q,_,9,aY.of au,9,_,_,9,_,_,9,9,?_};generalize (upd H2 q (.tup [.str z,.str b]))=H3 at s3 gm⊢;obtain⟨zT,zl⟩:=hz z (aA v5);obtain⟨c,Ce⟩:=zD zT;refine{_,9,_,_,_,9,9,bC (bu ∅),gW Ce,9,_,9,?_};rw[zE zT Ce];have rV:=s2.trans s3;have Zb:(gK gi).length=gi.length:=ah _;refine dS 688 688
  ·have c1:=c1;refine{_,9,p,9,.inl {_,.inl gm},_,9,_,9,_,kS.k (k:=Sum.inr z) gm,?_};rw[qH];cases hm:aI.get gi z with
   |some m=>
    refine{_,9,9,_,9,?_};refine dS 720 720
    ·refine k1 H3 rV ?_;rw[ef];unfold aI.fit;rw[aK c1,hm];show(if m=b then _ else none)=none;rw[aH (λe=>by rw[e]at c2;simp at c2)]
    ·have e2:m=b:=by have:¬¬(V.str m=V.str b):=λh=>c2 717;have:=j4.mp this;injection this
     refine{_,9,_,9,_,9,p,_,9,AK.k (k:=Sum.inr z) gm (by rw[Zb];exact bw (show gi.length<3000 by lia) (by rw[bW];decide)),?_};rw[Wd qx (by rw[hm,e2])];refine{_,_,gi,9,λb' u h=>?_,au,qx,8,?_}
     ·rw[aL (bA h hp)];exact rV _ _ h
     ·rw[ef]
      conv=>lhs;unfold aI.fit
      rw[aK c1,hm];show(if m=b then _ else none)=_;rw[aK e2]
   |none=>
    refine{_,9,9,_,9,?_};refine dS 720 720
    ·simp at c2
    ·refine{_,9,_,9,_,9,p,_,9,AK.k (k:=Sum.inr z) gm (by rw[Zb];exact bw (show gi.length<3000 by lia) (by rw[bW];decide)),?_};rw[SN hm];refine{_,_,gi++[(z,b)],9,λb' u h=>?_,au,xk qx hm,by rw[aC];show gi.length+1<=_;lia,?_}
     ·rw[aL (bA h hp)];exact rV _ _ h
     ·rw[ef]
      conv=>lhs;unfold aI.fit
      rw[aK c1,hm]
  ·have c1:=c1;refine{_,9,_,9,9,_,9,?_};refine dS 720 720
   ·refine k1 H3 rV ?_;rw[ef];unfold aI.fit;rw[aH c1,aH (λe=>by rw[e]at c2;simp at c2)]
   ·have e2:z=b:=by have:¬¬(V.str z=V.str b):=λh=>c2 717;have:=j4.mp this;injection this
    refine{_,_,gi,9,rV,gm,qx,8,?_};rw[ef]
    conv=>lhs;unfold aI.fit
    rw[aH c1,aK e2]
 ·rintro Z H2 ⟨x4,x5,gi,rfl,s2,jC,qx,lg2,ef⟩;rw[IW,jr (aw _),jr ∅]at ef;exact{_,9,k2 p gi H2 s2 hp jC ef}
structure Fn(K:Frag)(H:Hp)(p:Addr)(fs:List En):Prop where
 at_:H p=some 699
 nm:(fs.map (·.nm)).Nodup
 en:∀e∈fs,H e.ad=some (.lst e.ys)/\fA K H e.ys e.rows/\e.rows.length<=60/\∀r∈e.rows,r.length<=100
def Fn.same(x:Fn K H p fs)(s:aJ H H'):Fn K H' p fs:={s _ _ x.at_,x.nm,λe he=>by obtain⟨h1,h2,h3⟩:=x.en e he;exact{s _ _ h1,gJ h2 s,h3}}
def DB(fs:List En):List aI.Atom:=(fs.map λe=>e.rows.map λr=>(e.nm,r)).flatten
def Tw{fs:List En}{z:Str}{r:Aag}(nd:(fs.map (·.nm)).Nodup):(z,r)∈DB fs↔r∈iX fs z:=by
 unfold DB;rw[ik];constructor
 ·rintro⟨l,hl,h⟩;obtain⟨e,he,rfl⟩:=aD.mp hl;obtain⟨r',Uq,q⟩:=aD.mp h;cases q;rw[sG nd he];exact Uq
 ·intro h;unfold iX at h;cases q:fs.find? (λe=>decide (e.nm=z))with
  |none=>rw[q]at h;cases h
  |some e=>
   rw[q]at h;have e1:=aR (nJ (p:=λe:En=>decide (e.nm=z)) q);exact{_,aD.mpr {e,gg q,9},aD.mpr {r,h,by rw[e1]}}
def Xg(x:Fn K H p fs)(h0:H l0=some 656)(z:Str):∃q ys,(iC (fs.map iQ) (Sum.inr z:Key)).getD (.ref l0)=.ref q/\H q=some 682/\fA K H ys (iX fs z)/\(iX fs z).length<=60/\∀r∈iX fs z,r.length<=100:=by
 cases h:iC (fs.map iQ) (Sum.inr z:Key)with
 |some v=>
  obtain⟨e,he,rfl,rfl⟩:=Eu h;obtain⟨h1,h2,h3,h4⟩:=x.en e he;rw[sG x.nm he];exact{e.ad,e.ys,9,h1,h2,h3,h4}
 |none=>
  have:iX fs z=[]:=by
   unfold iX;cases q:fs.find? (λe=>decide (e.nm=z))with
   |none=>rfl
   |some e=>
    have e1:=aR (nJ (p:=λe:En=>decide (e.nm=z)) q);rw[<-e1,vj x.nm (gg q)]at h;cases h
  rw[this];exact{l0,[],9,h0,.nil,aO _,λr h=>by cases h}
abbrev X3(H:Hp)(g:cV)(ts:Aag):Aan->Aaa->Prop:=Paired λ(v:V)(row:Aag)=>(aI.fit bh g ts row=none/\v=.cz)\/∃g' p,aI.fit bh g ts row=some g'/\v=.ref p/\H p=some (.dK (gK g'))
abbrev Ik(H:Hp):Aan->List cV->Prop:=Paired λ(v:V)(g:cV)=>∃p,v=.ref p/\H p=some (.dK (gK g))
def Bm{H H':Hp}{g:cV}{ts:Aag}{vs:Aan}{rs:Aaa}(h:X3 H g ts vs rs)(s:aJ H H'):X3 H' g ts vs rs:=by
 induction h with
 |nil=>exact .nil
 |cons h _ ih=>exact .cons (h.imp id λ⟨g',p,e1,e2,h⟩=>{g',p,e1,e2,s _ _ h}) ih
def Jo{H H':Hp}{vs:Aan}{gs:List cV}(h:Ik H vs gs)(s:aJ H H'):Ik H' vs gs:=by
 induction h with
 |nil=>exact .nil
 |cons h _ ih=>exact .cons (let⟨p,e,h⟩:=h;{p,e,s _ _ h}) ih
abbrev DA(H:Hp)(g:cV)(fs:List En):Aan->List aI.Atom->Prop:=Paired λ(v:V)(a:aI.Atom)=>∃l zs,v=.ref l/\H l=some 702/\Ik H zs ((iX fs a.1).filterMap (aI.fit bh g a.2))
def Fv{H H':Hp}{g:cV}{fs:List En}{vs:Aan}{as:List aI.Atom}(h:DA H g fs vs as)(s:aJ H H'):DA H' g fs vs as:=by
 induction h with
 |nil=>exact .nil
 |cons h _ ih=>exact .cons (let⟨l,zs,e,h1,h2⟩:=h;{l,zs,e,s _ _ h1,Jo h2 s}) ih
def P1{H:Hp}{g:cV}{fs:List En}{ys:Aan}{p:List aI.Atom}(h:DA H g fs ys p):∃jS:List Int,jS.length=p.length/\∀(i:Nat) l mV,ys[i]?=some 727->H l=some (.lst mV)->jS[i]?=some (mV.length:Int):=by
 induction h with
 |nil=>exact{[],9,λi l mV e=>by simp at e}
 |cons h _ ih=>
  obtain⟨l,mV,rfl,h1,_⟩:=h;obtain⟨jS,e1,e2⟩:=ih;refine{(mV.length:Int)::jS,by rw[bE,bE,e1],λi l' V8 e h=>?_};cases i with
  |zero=>
   cases e;rw[h1]at h;cases h;rfl
  |succ i=>exact e2 i l' V8 (by simpa using e) h
structure ahm(K:Frag)(H:Hp)(p d:Addr)(fs:List En)(g:cV)(U:Aag)(left:List aI.Atom):Prop where
 tb:Fn K H p fs
 hd:H d=some (.dK (gK g))
 nd:(keys g).Nodup
 gU:∀u∈keys g,u∈U
 pU:∀u∈aI.ju bh left,u∈U
 lU:U.length<=1000
 ts:∀a∈left,a.2.length<=100/\∀z∈a.2,kW z=true/\z.length<=100
 l8:left.length<=08
inductive vC(K:Frag)(n:Nat)(vs:Aan)(H:Hp)(Q:VK)(_x3:XK):Prop
 |mk (l p d:Addr) (ys:Aan) (left:List aI.Atom) (fs:List En) (g:cV) (U:Aag) (_:vs=[.ref l,.ref p,.ref d]) (_:left.length<n) (_:bf K H l ys) (_:kI K H ys left) (_:ahm K H p d fs g U left) (_:∀H' b,aJ H H'->(b=true↔aI.rR bh (DB fs) g left)->Q (.bl b) H')
structure Dfi(P:Program)(w:World)(K:Frag)(mg:Aac)(base:Heap)(n:Nat):Prop where
 HG:cn P w K mg base 1 "_law_bound" ["_law_terms_here","_law_row","_law_given"] (Dc K)
 EU:cn P w K mg base (2+n) "_law_filled" ["_law_left","_law_tables","_law_given"] (vC K n)
def kj:bZ ["_law_left","_law_tables","_law_given","_law_ways","_law_name","_law_terms_here","_law_some","_law_counts","_law_at","_law_more"] ["_law_left","_law_tables","_law_given"] (defScope u7):=gA 53
def Tf{f:Addr}{fd:FuncData}{n:Nat}(F:dG K "_law_filled" "_law_filled" u7 f fd)(T:Txt K mg)(D:Dfi P w K mg base n):cK P w K mg base dY (2+(n+1)) f fd ["_law_left","_law_tables","_law_given"] (vC K (n+1)):=by
 rw[show 2+(n+1)=(2+n)+1 by lia];refine F.ok kj (λ_ _ _ _ h=>by cases h;subst_vars;rfl) 55;obtain⟨l,p,d,ys,left,fs,g,U,rfl,ln,hl,lF,ak,k⟩:=h;have hu:=oZ hr;refine{_,(az (df (b5 (FV hr.Fw) (pv 0) (dM iu) (cx _)) 671 cy) (az (dE 3 kj (dM iu)) (az (dR bG 9 (dH (pv 0)) (jy 9 (b9 (fZ 4 kj) (b9 (sJ (i:=5) kj.nd 9 (Or.inr 9)) fQ))) (az (oP (j:=6) kj.nd 9 9 9 (c9 (fs:=["_law_terms_here","_law_given"]) (fr:=[5,2])) (dH (sL hu (pv 1) (pv 4) (dM iu) Y6)) (λ_ _ _ _=>(cl D.HG hr (iZ (pv 1) (pv 0) (pv 2)) ∅))) (aQ (gS (jk bR iI iH tZ (pv 3) (bX (mw 9 678 (dH (pv 6)) (λ_ _ _ _=>(b5 Hk (pv 0) jz (cx _))) 729))))))) (az (oP (j:=07) kj.nd 9 9 9 678 (dH (pv 3)) (λ_ _ _ _=>(bN (xw) 9 T.eT bH 718))) (az (dE 08 kj (jk bR wQ wO IV (pv 07) (bX (bN (JB 9) 9 T.Y3 53 (bX (pv 07)))))) (az (dR bG 9 (dH (bF eF (pv 3) (pv 08) (λ_ _=>9))) (fZ 09 kj) (aQ (df (gO (cl D.EU hr (iZ (cW vR (mJ yI (pv 0) oR (oQ (pv 08))) (mJ yI (pv 0) (oQ (cW i9 (pv 08) aM)) oR)) (pv 1) (pv 09)) ∅)) 671 cy))) 671)))))),?_}
 have LP:=bb lF;refine{_,9,409,λl0 rX=>?_};have s1:aJ H (upd H l0 656):=aB rX _;have h01:upd H l0 656 l0=some 656:=au;generalize (upd H l0 656)=H1 at s1 h01⊢;refine{_,_,_,9,9,iY hl s1,bf.of h01,_,9,?_};cases left with
 |nil=>
  cases lF;exact nr (k H1 true s1 {λ_=>{aI.over g (λu=>u),aI.nj ak.nd,λa ha=>by cases ha},λ_=>9})
 |cons a0 r0=>
 have gC:a0::r0≠[]:=by simp
 generalize a0::r0=left at lF ak k ln LP gC;have eI:ys.isEmpty=false:=by
  cases lF with
  |nil=>exact absurd rfl gC
  |cons _ _=>rfl
 rw[eI];refine fU ?_;have l8:=ak.l8;refine{409,λwl yY=>?_};have s2:aJ H (upd H1 wl 656):=s1.trans (aB yY _);have agB:upd H1 wl 656 wl=some 656:=au;have wl0:H wl=none:=by
  cases q:H wl with
  |none=>rfl
  |some u=>rw[s1 _ _ q]at yY;cases yY
 have lg:g.length<=1000:=by have:=jL ak.nd ak.gU;have h2:=ak.lU;unfold keys at this;rw[ah]at this;lia
 refine{_,rfl,l,rfl,{_,iY hl s2},gF (xs:=ys) (λi Z H3=>∃(x4 x5 x6:Aao)(yz:Aan),Z=[some 727,some 666,some 700,some (.ref wl),x4,x5,x6,none,none,none]/\i<=left.length/\aJ H H3/\H3 wl=some (.lst yz)/\DA H3 g fs yz (left.take i)/\∀v∈yz,v≠ .ref wl)
  {_,_,_,[],9,aO _,s2,agB,.nil,λv h=>by cases h} ?_ ?_ ?_}
 ·rintro i Z H3 hi ⟨_,_,_,_,rfl,_,s3,_⟩;exact iY hl s3
 ·rintro i x Z H3 hx ⟨_,_,_,yz,rfl,hi,s3,Ui,Jl,nw3⟩;obtain⟨a,ha,B3⟩:=Paired.at' lF hx;have bQ:=(aq.mp ha).1;obtain⟨ab,ac,rfl,v7,qz⟩:=B3.same s3;obtain⟨at1,at2⟩:=ak.ts a (aA ha);refine{ab,_,9,v7,9,_,_,9,_,_,9,9,?_};refine{_,9,p,9,.inl {_,.inl (s3 _ _ ak.tb.at_)},_,9,409,λl1 lH=>?_};have s4:aJ H3 (upd H3 l1 656):=aB lH _;have h14:upd H3 l1 656 l1=some 656:=au;generalize (upd H3 l1 656)=H4 at s4 h14⊢;have nU:=s3.trans s4;have tb4:=ak.tb.same nU;refine{_,kS.k (k:=Sum.inr a.1) tb4.at_,?_};obtain⟨q,mV,eq,hq,hR,lR,lrr⟩:=Xg tb4 h14 a.1;rw[eq];generalize adE:iX fs a.1=rows at hR lR lrr;have lry:=bb hR;refine{q,9,{_,bf.of hq},iS (xs:=mV) (λj zs H5=>aJ H4 H5/\j<=rows.length/\X3 H5 g a.2 zs (rows.take j)) (bu ∅) {aJ.refl _,aO _,.nil} ?_ ?_ ?_}
  ·rintro j zs H5 hj ⟨s5,zc,hW⟩;refine{bf.of (s5 _ _ hq),?_};rw[bb hW,aZ];lia
  ·rintro j y zs H5 N hy ⟨s5,zc,hW⟩ pQ;obtain⟨row,lC,ra,rfl,F9⟩:=Paired.at' hR hy;have lJ:=(aq.mp lC).1;have e1:rows.take (j+1)=rows.take j++[row]:=by rw[bq,lC];rfl
   refine{_,9,_,9,_,9,d,ac,ra,g,a.2,row,9,(nU.trans s5) _ _ ak.hd,lg,ak.nd,fT qz (s4.trans s5),fT F9 s5,8,br (lrr row (aA lC)) 7,at2,λH6 s6 e6=>?_,λpp g6 H6 s6 p0 hp6 e6=>?_}
   ·refine pQ _ _ {s5.trans s6,lJ,?_};rw[e1];exact fC (Bm hW s6) (.cons (.inl ⟨e6,rfl⟩) .nil)
   ·refine pQ _ _ {s5.trans s6,lJ,?_};rw[e1];exact fC (Bm hW s6) (.cons (.inr ⟨g6,pp,e6,rfl,hp6⟩) .nil)
  rintro zs H5 ⟨s5,_,hW⟩ sl Mi;rw[lry,aT]at hW;have s6:aJ H4 (upd H5 sl 702):=s5.trans (aB Mi _);have hs6:upd H5 sl 702 sl=some 702:=au;have hW6:=Bm hW (aB Mi 702);generalize (upd H5 sl 702)=H6 at s6 hs6 hW6⊢;have Zo:=s6 _ _ (s4 _ _ Ui);have lzs:=bb hW6;refine{_,9,.inl {9,_,bf.of Zo},_,9,sl,9,{_,bf.of hs6},iS (xs:=zs) (λj us H7=>H7=H6/\j<=rows.length/\Ik H6 us ((rows.take j).filterMap (aI.fit bh g a.2))/\us.length<=j) (bu ∅) {9,aO _,.nil,aw _} ?_ ?_ ?_}
  ·rintro j us H7 hj ⟨rfl,zc,hG,lu⟩;exact{bf.of hs6,lu}
  ·rintro j y us H7 N hy ⟨e7,zc,hG,lu⟩ pQ;rw[e7];obtain⟨row,lC,hv⟩:=Paired.at' hW6 hy;have lJ:=(aq.mp lC).1;have e1:rows.take (j+1)=rows.take j++[row]:=by rw[bq,lC];rfl
   rcases hv with⟨e6,rfl⟩|⟨g6,pp,e6,rfl,hp6⟩
   ·refine{_,9,9,_,9,fU (pQ _ _ {9,lJ,?_,8})};rw[e1,zw,fB,e6];simpa using hG
   ·refine{_,9,9,_,9,nr {_,9,pQ _ _ {9,lJ,?_,aC▸jh lu}}};rw[e1,zw,fB,e6];exact fC hG (.cons ⟨pp,rfl,hp6⟩ .nil)
  rintro us H7 ⟨e7,_,hG,_⟩ gl Pf;rw[e7]at Pf⊢;rw[lzs,aT,<-adE]at hG;have s8:aJ H6 (upd H6 gl (.lst us)):=aB Pf _;have ZE:upd H6 gl (.lst us) gl=some (.lst us):=au;have gw:gl≠wl:=λe=>by rw[e,Zo]at Pf;cases Pf
  generalize (upd H6 gl (.lst us))=H8 at s8 ZE⊢;have lwv:yz.length<=08:=by rw[bb Jl,aZ];lia
  refine{wl,yz,_,9,9,s8 _ _ Zo,by rw[bW];lia,?_};have nd8:∀{b:Addr}{u:HO},b≠wl->H8 b=some u->upd H8 wl (.lst (yz++[.ref gl])) b=some u:=λ{b u} n h=>aL n▸h;have gk:∀{us:Aan}{gs:List cV},Ik H8 us gs->Ik (upd H8 wl (.lst (yz++[.ref gl]))) us gs:=λ{us gs} h=>by
   induction h with
   |nil=>exact .nil
   |cons h _ ih=>
    obtain⟨pp,e,h⟩:=h;exact .cons {pp,e,nd8 (λq=>by rw[q,s8 _ _ Zo]at h;cases h) h} ih
  have wk:∀{vs:Aan}{as:List aI.Atom},DA H8 g fs vs as->(∀v∈vs,v≠ .ref wl)->DA (upd H8 wl (.lst (yz++[.ref gl]))) g fs vs as:=λ{vs as} h=>by
   induction h with
   |nil=>intro _;exact .nil
   |cons h _ ih=>
    intro n;obtain⟨ll,zz,rfl,h1,h2⟩:=h;exact .cons {ll,zz,9,nd8 (λq=>n _ aF (by rw[q])) h1,gk h2} (ih λv hv=>n v (aG _ hv))
  refine{_,_,_,yz++[.ref gl],9,bQ,λb u h=>?_,au,?_,λv hv=>?_}
  ·rw[aL (bA h wl0)];exact s8 _ _ ((nU.trans s6) _ _ h)
  ·rw[bq,ha];exact fC (wk (Fv Jl ((s4.trans s6).trans s8)) nw3) (.cons {gl,us,9,nd8 gw ZE,gk (Jo hG s8)} .nil)
  ·rcases aS.mp hv with hv|hv
   ·exact nw3 v hv
   ·rw[ay.mp hv]
    exactλe=>gw (by injection e)
 rintro Z H3 ⟨_,_,_,yz,rfl,_,s3,Ui,Jl,_⟩;rw[LP,aT]at Jl;have lwv:=bb Jl;obtain⟨jS,QZ,e6⟩:=P1 Jl;refine{_,9,wl,9,{_,bf.of Ui},iS (xs:=yz) (λi zs H7=>H7=H3/\i<=left.length/\zs=(jS.take i).map V.int) (bu ∅) {9,aO _,9} ?_ ?_ ?_}
 ·rintro i zs H7 hi ⟨rfl,my,rfl⟩;refine{bf.of Ui,?_};rw[ah,aZ];lia
 ·rintro i x zs H7 N hx ⟨rfl,my,rfl⟩ pQ;obtain⟨a,ha,ll,zz,rfl,A2,hr⟩:=Paired.at' Jl hx;have bQ:=(aq.mp ha).1;refine{_,9,_,_,9,.inl {_,bf.of A2,9},pQ _ _ {9,bQ,?_}};rw[bq,e6 i ll zz hx A2,aE];rfl
 rintro cvs H7 ⟨e7,_,rfl⟩ cl lX;rw[e7]at lX⊢;rw[lwv,cU ∅];have s4:aJ H3 (upd H3 cl (.lst (jS.map V.int))):=aB lX _;have Q4:upd H3 cl (.lst (jS.map V.int)) cl=some (.lst (jS.map V.int)):=au;generalize (upd H3 cl (.lst (jS.map V.int)))=H4 at s4 Q4⊢;refine{_,9,.inl {9,_,bf.of Q4},_,9,cl,jS,9,bf.of Q4,?_,λm hm agO=>?_}
 ·rw[QZ];exact Bi.mpr gC
 obtain⟨j,hj,za⟩:=EY hm;refine{cl,jS,m,j,9,9,Q4,hj,za,?_};have hjp:j<left.length:=by have:=(aq.mp hj).1;lia
 obtain⟨va,Uj⟩:∃va,yz[j]?=some va:={_,av ∅};obtain⟨a,ha,al_,zz,rfl,nA,hG⟩:=Paired.at' (Fv Jl s4) Uj;have nU:=s3.trans s4;generalize hgs:(iX fs a.1).filterMap (aI.fit bh g a.2)=gs at hG
 let rest:List aI.Atom:=left.take j++left.drop (j+1)
 have pm:∀b,b∈left↔b=a\/b∈rest:=λb=>by
  have e:left=left.take j++a::left.drop (j+1):=by
   conv=>lhs;rw[<-jO j left]
   rw[gh hjp,(aq.mp ha).2]
  conv=>lhs;rw[e]
  show b∈left.take j++a::left.drop (j+1)↔b=a\/b∈left.take j++left.drop (j+1);simp only[aS,aN];exact{681,681}
 have Y9:rest.length+1=left.length:=by rw[aC,aZ,dD];lia
 have fits:∀g'∈gs,∃row,(a.1,row)∈DB fs/\aI.fit bh g a.2 row=some g':=λg' Ph=>by rw[<-hgs]at Ph;obtain⟨row,hr,e⟩:=k9.mp Ph;exact{row,(Tw ak.tb.nm).mpr hr,e}
 refine{_,rfl,_,rfl,_,_,_,_,rfl,rfl,bf.of (s4 _ _ Ui),gW Uj,al_,rfl,{_,bf.of nA},gF (xs:=zz) (λi Z H8=>∃x9:Aao,(∃x4 x5 x6:Aao,Z=[some 727,some 666,some 700,some (.ref wl),x4,x5,x6,some (.ref cl),some (.int j),x9])/\i<=gs.length/\aJ H4 H8/\∀g'∈gs.take i,¬aI.rR bh (DB fs) g' rest)
  {_,⟨_,_,_,rfl⟩,aO _,aJ.refl _,λg' h=>by simp at h} ?_ ?_ ?_}
 ·rintro i Z H8 hi ⟨_,⟨_,_,_,rfl⟩,_,s8,_⟩;exact bf.of (s8 _ _ nA)
 ·rintro i x Z H8 hx ⟨_,⟨_,_,_,rfl⟩,hi,s8,FW⟩;obtain⟨g',Ph,dp,rfl,hdp⟩:=Paired.at' hG hx;have bQ:=(aq.mp Ph).1;obtain⟨row,lC,aha⟩:=fits g' (aA Ph);have got:=aI.HM ak.nd aha lC;have Sz:=nU.trans s8;have ZA:=iY hl Sz;refine{_,9,vS {_,9,_,9,l,ys,9,ZA,λc1 Pm=>?_}};rw[Ni];have kL:aJ H8 (upd H8 c1 (.lst (ys.take j))):=aB Pm _;have Jn:upd H8 c1 (.lst (ys.take j)) c1=some (.lst (ys.take j)):=au;generalize (upd H8 c1 (.lst (ys.take j)))=hV at kL Jn⊢;refine{_,9,_,9,_,_,9,9,_,9,vS {l,ys,9,iY ZA kL,λc2 ub=>?_}};rw[show((j:Int)+1)=((j+1:Nat):Int)from rfl,Nh];have qP:aJ hV (upd hV c2 725):=aB ub _;have Jm:upd hV c2 725 c2=some 725:=au;generalize (upd hV c2 725)=mC at qP Jm⊢;refine{c1,c2,_,_,9,9,qP _ _ Jn,Jm,by rw[aZ,dD,bW];lia,λc3 hc3=>?_};have vO:aJ mC (upd mC c3 670):=aB hc3 _;have UP:upd mC c3 670 c3=some 670:=au;generalize (upd mC c3 670)=uY at vO UP⊢;have V6:=kL.trans (qP.trans vO);have V7:=Sz.trans V6;have ur:∀u,u∈aI.ju bh rest->u∈aI.ju bh left:=λu hu=>by obtain⟨b,hb,h⟩:=aI.cN.mp hu;exact aI.cN.mpr {b,(pm b).mpr (.inr hb),h}
  have ua:∀u,u∈aI.ju bh [a]->u∈aI.ju bh left:=λu hu=>by obtain⟨b,hb,h⟩:=aI.cN.mp hu;exact aI.cN.mpr {b,(pm b).mpr (.inl (ay.mp hb)),h}
  have Md:=lF.same V7;refine{_,9,_,9,c3,p,dp,_,rest,fs,g',U,9,8,bf.of UP,fC (xX j Md) (xY (j+1) Md),({ak.tb.same V7,V6 _ _ (s8 _ _ hdp),got.nd,λu hu=>((got.ks u).mp hu).elim (ak.gU u) λh=>ak.pU u (ua u h),λu hu=>ak.pU u (ur u hu),ak.lU,λb hb=>ak.ts b ((pm b).mpr (.inr hb)),8}),λqD b s13 hb=>{_,9,?_}};refine dS 669 669
  ·refine k qD true (V7.trans s13) {λ_=>?_,λ_=>9};obtain⟨h,ag,ft⟩:=hb.mp c;refine{h,aI.iz.longer ak.nd got.lg ag,692};rcases(pm b).mp hb with rfl|hb
   ·exact got.ft h ag b aF
   ·exact ft b hb
  ·refine{_,⟨_,_,_,rfl⟩,bQ,s8.trans (V6.trans s13),λg2 h2=>?_};rw[bq,Ph]at h2;rcases aS.mp h2 with h2|h2
   ·exact FW g2 h2
   ·have:g2=g':=by simpa using h2
    rw[this]
    exactλhc=>c (hb.mpr hc)
 ·rintro Z H8 ⟨_,⟨_,_,_,rfl⟩,_,s8,FW⟩;rw[(bb hG),aT]at FW;refine k H8 false (nU.trans s8) {λh=>(by cases h),λhc=>?_};exfalso;refine aI.IM ak.nd (λh ag hm=>(Tw ak.tb.nm).mp hm) (λrow hr way e=>FW way ?_) pm hc;rw[<-hgs];exact k9.mpr ⟨row,hr,e⟩
theorem Gm{f:Addr}{fd:FuncData}(F:dG K "_law_filled" "_law_filled" u7 f fd)(m:mg "_law_filled"=some 695)(kp:keepIn K 695=true)(b:Binds K fd ["_law_left","_law_tables","_law_given"] [])(T:Txt K mg)
  (D:cn P w K mg base 1 "_law_bound" ["_law_terms_here","_law_row","_law_given"] (Dc K)):∀n,cn P w K mg base (2+n) "_law_filled" ["_law_left","_law_tables","_law_given"] (vC K n)
 |0=>by have LJ:∀vs H Q E,¬vC K 0 vs H Q E:=λvs H Q E ⟨_,_,_,_,_,_,_,_,_,h,_,_,_,_⟩=>absurd h (fK _);exact{f,fd,{λvs H Q E h=>absurd h (LJ vs H Q E),λA outer s H args us vs Q E _ _ _ _ h=>absurd h (LJ vs H Q E)},m,kp,b}
 |n+1=>{f,fd,Tf F T {D,Gm F m kp b T D n},m,kp,b}
inductive IB(K:Frag)(vs:Aan)(H:Hp)(Q:VK)(_x3:XK):Prop
 |mk (v:V) (p r:Addr) (hz:Aag) (ba:Hy) (fs:List En) (row:Aag) (_:vs=[v,.ref p,.ref r]) (_:QW H v hz ba) (_:Fn K H p fs) (_:aY K H r (row.map V.str)) (_:row.length<=100) (_:∀H' b,aJ H H'->(b=true↔∃h,iL row (DB fs) hz ba h)->Q (.bl b) H')
structure Dan(P:Program)(w:World)(K:Frag)(mg:Aac)(base:Heap):Prop where
 HG:cn P w K mg base 1 "_law_bound" ["_law_terms_here","_law_row","_law_given"] (Dc K)
 EU:cn P w K mg base (2+09) "_law_filled" ["_law_left","_law_tables","_law_given"] (vC K 09)
def Bv:bZ ["_law_question_here","_law_tables","_law_row","_law_given"] ["_law_question_here","_law_tables","_law_row"] (defScope xT):=gA 53
def Qz(F:dG K "_law_answers" "_law_answers" xT f fd)(T:Txt K mg)(D:Dan P w K mg base):cK P w K mg base dY 12 f fd ["_law_question_here","_law_tables","_law_row"] (IB K):=by
 refine F.ok Bv (λ_ _ _ _ h=>by cases h;subst_vars;rfl) 55;obtain⟨v,p,r,hz,ba,fs,row,rfl,qw,tb,pP,lr,k⟩:=h;obtain⟨q,hd,aa,cR,rfl,hq,Cb,m8,fN⟩:=qw.at';refine{_,(az (dE 3 Bv (cl D.HG hr (iZ (bF bY (pv 0) aM (λ_ _=>9)) (pv 2) jf))) (aQ (bK (tW (jK Hk (pv 3) jz (cx _)) (tV (cl D.EU hr (iZ (cQ kF 9 T.pO 53 (bX (bF bY (pv 0) aM (λ_ _=>9)))) (pv 1) (pv 3)))))))),?_}
 have h4:=qw.h4;have l8:=qw.l8;refine{_,9,_,_,_,_,9,9,aY.of hq,9,_,9,λe0 UB=>?_};have s1:aJ H (upd H e0 651):=aB UB _;have he1:upd H e0 651 e0=some (.dK (gK [])):=au;refine{e0,hd,r,[],hz,row,9,he1,aO _,dZ,aY.of (s1 _ _ Cb),fT pP s1,8,8,λz kB=>{(fR (qw.hh z kB)).1,(fR (qw.hh z kB)).2.1},λH2 s2 e2=>?_,λd g0 H2 s2 d0 hd2 e2=>?_}
 ·refine{_,9,9,_,9,fU (k H2 false (s1.trans s2) {λh=>(by cases h),λaf1=>?_})};obtain⟨h,hl⟩:=af1;obtain⟨g',e,_⟩:=aI.uc (g:=[]) dZ (λp hp=>by cases hp);rw[hl.1,e2]at e;cases e
 ·refine{_,9,9,_,9,nr ?_};have yJ:=s1.trans s2;obtain⟨n0,_,Zg,Xc⟩:=aI.sS (g:=[]) dZ e2;refine{_,9,_,_,_,_,9,9,aY.of (yJ _ _ hq),9,aa,cR,9,.inr (aY.of (yJ _ _ m8)),λl hl=>?_};have s3:aJ H2 (upd H2 l (.lst cR)):=aB hl _;have t7:upd H2 l (.lst cR) l=some (.lst cR):=au;have nV:=yJ.trans s3;have uf:∀u,u∈aI.ju bh ba->u∈bB ba:=λu hu=>by obtain⟨b,hb,h,_⟩:=aI.cN.mp hu;exact ix.mpr ⟨b,hb,h⟩
  have lf:(bB ba).length<=4*ba.length:=by have:=qw.good.len ba.length;rw[aT]at this;exact this
  refine{_,9,_,9,l,p,d,cR,ba,fs,g0,hz++bB ba,9,8,bf.of t7,Ib (fN.keep (b4.of nV)),{tb.same nV,s3 _ _ hd2,n0,λu hu=>bx _ ((λu hu=>((Zg u).mp hu).elim (λh=>by cases h) id) u hu).1,λu hu=>bc _ (uf u hu),by rw[aC];lia,λa ha=>?_,l8},λH4 b s4 hb=>k H4 b (nV.trans s4) (hb.trans ?_)}
  ·have g:=qw.good a ha;exact⟨by have:=g.2.2.1;lia,λz kB=>{(fR (g.2.2.2 z kB)).1,(fR (g.2.2.2 z kB)).2.1}⟩
  ·constructor
   ·rintro⟨h,ag,ft⟩;exact{h,Xc h ag,ft}
   ·rintro⟨h,hl⟩;obtain⟨g',e,ag⟩:=aI.uc (g:=[]) dZ (λp hp=>by cases hp);rw[hl.1,e2]at e;cases e;exact{h,ag,hl.2}
def JZ{X:Cx}:ic X (.builtin "isinstance") (λxs H Q=>∃a ys n b,xs=[.ref a,.ty n]/\aY X.K H a ys/\kitOne X.K (.type "tuple") (.type n)=some b/\Q (.bl b) H):=by intro pins s Z H xs us Q I r h;obtain⟨a,ys,n,b,rfl,hq,e,q⟩:=h;obtain⟨u,w',rfl,ru,nX⟩:=vals2 r;cases ru;cases nX;obtain⟨a9,_,⟨o,h1,h2,_⟩,_⟩:=I.tuple hq;exact eY CM I.mY ⟨o,h1,h2⟩ e 696 λtk=>{.bl b,H,I.tok tk,9,q}
inductive Sf(vs:Aan)(H:Hp)(Q:VK)(_x3:XK):Prop
 |mk (z:Str) (_:vs=[.str z]) (_:isVal z=true) (_:∀H',aJ H H'->Q (.bl true) H')
def KY:bZ ["_law_thing"] ["_law_thing"] (defScope xS):=gA 53
def Qy{f:Addr}{fd:FuncData}(F:dG K "_law_is_word" "_law_is_word" xS f fd)(T:Txt K mg):cK P w K mg base dY 1 f fd ["_law_thing"] Sf:=by
 refine F.ok KY (λ_ _ _ _ h=>by cases h;subst_vars;rfl) 55;obtain⟨z,rfl,hz,k⟩:=h;refine{_,(az (df (PW.pt (ny (jx (gO (bN jo 9 T.hJ 53 (cu (pv 0) (tF (n:="str") 9 T.FX 53))))) (nZ (jx (Wh xj xj aM (bN cY 9 T.eT bH 718) aM))))) 671 cy) (aQ (bK (jK (FV hr.Fw) (mw 9 678 (SX (pv 0)) (λ_ _ _ _=>(b5 Lv (pv 0) cI 649)) 729) (dM iu) (cx _))))),?_}
 have hz8:=vi hz;have hv:=hz;unfold isVal at hv;rw[bO,bO]at hv;have h1:=aR hv.1;refine{_,9,_,_,_,true,9,pF.str z,om _,_,9,fU ?_};refine{_,9,_,_,9,{(bC (bu ∅)),9},_,_,9,9,_,9,?_};rw[bj (show(0:Int)<(z.length:Int) by lia)];refine nr {_,_,9,9,_,9,?_};rw[bj (show(z.length:Int)<09 by lia)];refine fU ?_;refine{_,9,_,9,XQ (λi ys H2=>H2=H/\ys=[]) (bu (show z.length<=1000 by lia)) ⟨rfl,rfl⟩ ?_ ?_ ?_}
 ·rintro i ys H2 hi ⟨rfl,rfl⟩;exact aO _
 ·rintro i c ys H2 N hc ⟨rfl,rfl⟩ hN;have sc:sgn c=true:=by have:=bL.mp hv.2.2 (sgn c) (bS (aA (by simpa using hc)));exact this
  refine{_,9,_,_,9,9,_,9,?_};refine dS (λc3=>?_) (λc3=>hN _ _ ⟨rfl,rfl⟩);have c3:(!sgn c)=true:=c3;rw[sc]at c3;cases c3
 ·rintro ys H2 ⟨rfl,rfl⟩ l hl;refine{409,λl2 f9=>?_};refine{_,_,_,9,9,bf.of (by rw[aL (bA au f9)];exact au),bf.of au,?_};exact k _ ((aB hl _).trans (aB f9 _))
inductive Qc(K:Frag)(vs:Aan)(H:Hp)(Q:VK)(_x3:XK):Prop
 |mk (a:Addr) (zs:Aag) (_:vs=[.ref a]) (_:aY K H a (zs.map V.str)) (_:zs.length<=100) (_:(∀z∈zs,isVal z=true)) (_:∀H',aJ H H'->Q (.bl true) H')
structure Dw1(P:Program)(w:World)(K:Frag)(mg:Aac)(base:Heap):Prop where
 TU:cn P w K mg base 1 "_law_is_word" ["_law_thing"] Sf
def NH:bZ ["_law_row"] ["_law_row"] (defScope zO):=gA 53
def Td{f:Addr}{fd:FuncData}(F:dG K "_law_is_row" "_law_is_row" zO f fd)(T:Txt K mg)(D:Dw1 P w K mg base):cK P w K mg base dY 2 f fd ["_law_row"] (Qc K):=by
 refine F.ok NH (λ_ _ _ _ h=>by cases h;subst_vars;rfl) 55;obtain⟨a,zs,rfl,ha,lz,vz,k⟩:=h;refine{_,(aQ (bK (tW (bN JZ 9 T.hJ 53 (cu (pv 0) (tF (n:="tuple") 9 T.iw 53))) (tV (jK qT gf (kU 9 678 (ir (pv 0)) (λ_ _ _ _=>(cl D.TU hr 718))) 649))))),?_};refine{_,9,a,_,_,_,9,ha,om _,_,9,nr ?_};refine{_,9,a,9,⟨_,ha⟩,mN (xs:=zs.map V.str) (λi ys H2=>aJ H H2/\i<=zs.length/\ys=(List.replicate i true).map V.bl) (by rw[(ah _)];exact bu ∅) {aJ.refl H,aO _,9} ?_ ?_ ?_}
 ·rintro i ys H2 hi ⟨s2,my,rfl⟩;refine{fT ha s2,?_};rw[ah,gx];exact aw _
 ·rintro i x ys H2 N hc ⟨s2,my,rfl⟩ hN;obtain⟨z,hz,rfl⟩:=iN hc;have bQ:=(aq.mp hz).1;refine{_,9,z,9,vz z (aA hz),λH3 s3=>hN _ _ {s2.trans s3,bQ,?_}};rw[AD,aE];rfl
 ·rintro ys H2 ⟨s2,_,rfl⟩ l hl;refine{l,_,9,.inl (bf.of au),9,MX _,?_};rw[Nn];have:(List.replicate (zs.map V.str).length true).all id=true:=bL.mpr λb hb=>by rw[(CS.mp hb).2];rfl
  rw[this];exact k _ (s2.trans (aB hl _))
structure yl(K:Frag)(H:Hp)(p:Addr)(fs:List En):Prop where
 at_:H p=some 699
 nm:(fs.map (·.nm)).Nodup
 en:∀e∈fs,isVal e.nm=true/\H e.ad=some (.lst e.ys)/\fA K H e.ys e.rows/\e.rows≠[]/\e.rows.length<=60/\(∀r∈e.rows,1<=r.length/\r.length<=4/\∀z∈r,isVal z=true/\PyData.strOk z=true)/\iA e.rows=e.rows
inductive Ys(K:Frag)(vs:Aan)(H:Hp)(Q:VK)(_x3:XK):Prop
 |mk (p:Addr) (fs:List En) (_:vs=[.ref p]) (_:yl K H p fs) (_:fs.length<=60) (_:∀H',aJ H H'->Q (.bl true) H')
structure Dar(P:Program)(w:World)(K:Frag)(mg:Aac)(base:Heap):Prop where
 Ae:cn P w K mg base 2 "_law_is_row" ["_law_row"] (Qc K)
def qM:bZ ["_law_tables","_law_name","_law_rows"] ["_law_tables"] (defScope sF):=gA 53
def JU{f:Addr}{fd:FuncData}(F:dG K "_law_are_tables" "_law_are_tables" sF f fd)(T:Txt K mg)(D:Dar P w K mg base):cK P w K mg base dY 3 f fd ["_law_tables"] (Ys K):=by
 refine F.ok qM (λ_ _ _ _ h=>by cases h;subst_vars;rfl) 55;obtain⟨p,fs,rfl,tb,lf,k⟩:=h;refine{_,(az (df (jx (gO (bN jo 9 T.hJ 53 (cu (pv 0) (tF (n:="dict") 9 T.BR 53))))) 671 cy) (az (Wj (dR bG 9 (Wm (pv 0)) (fZ 1 qM) (az (dE 2 qM (ON (oZ hr) (pv 0) (pv 1) (λ_ _=>9))) (az (df (PW.pt (ny (jx (gO (cl D.Ae hr (bX (dX 719))))) (ny (jx (gO (bN jo 9 T.hJ 53 (cu (pv 2) (tF (n:="list") 9 T.pO 53))))) (nZ (b5 (FV hr.Fw) (pv 2) (dM iu) (cx _)))))) 671 cy) (aQ (df (PW.pt (ny (b5 BO gf (kU 9 678 (dH (pv 2)) (λ_ _ _ _=>(tW (cl D.Ae hr 718) (tV (Ln xj xj aM (bN (xw) 9 T.eT bH 718) aM))))) 649) (nZ (b5 (FT hr.units) (pv 2) (bN (zm hr.hd) 9 T.sM 53 (bX (cQ (JA hr.hd hr.units) 9 T.Y2 53 (bX (pv 2))))) (cx _))))) 671 cy)))))) 671)),?_}
 refine{_,9,_,_,_,_,9,.dK tb.at_,om _,_,9,fU ?_};refine{p,(λo v e=>by rw[tb.at_]at e;cases e),_,9,p,_,_,9,tb.at_,.inl ⟨_,rfl,rfl⟩,λo=>?_};have lG:upd H p (.gE o 699) p=some (.gE o 699):=au;have t1:dc H (upd H p (.gE o 699)):=dc.upd (zZ tb.at_);have en1:∀e∈fs,upd H p (.gE o 699) e.ad=some (.lst e.ys):=λe he=>by have h:=(tb.en e he).2.1;rw[aL (λq=>by rw[q,tb.at_]at h;cases h)];exact h
 have b1:∀b u,b≠p->H b=some u->upd H p (.gE o 699) b=some u:=λb u n h=>aL n▸h;generalize (upd H p (.gE o 699))=H1 at lG t1 en1 b1⊢;refine UY (λi Z H2=>∃x1 x2:Aao,Z=[some 666,x1,x2]/\aJ H1 H2) {_,_,9,aJ.refl _} ?_ ?_ ?_
 ·rintro i Z H2 hi ⟨_,_,rfl,s2⟩;exact s2 _ _ lG
 ·rintro i kv Z H2 rY ⟨_,_,rfl,s2⟩;rw[cw,aX]at rY;obtain⟨e,UB,ekv⟩:=bz.mp rY;have ekv:kv=(.str e.nm,.ref e.ad):=ekv.symm;subst ekv;have he:=aA UB;obtain⟨vn,zd,hR,gC,lR,gR,un⟩:=tb.en e he;have Y7:=bb hR;have Mz:=s2 _ _ (en1 e he);have hR2:=gJ (lV hR t1) s2;refine{_,9,_,9,p,.ref e.ad,9,.inl {fs.map iQ,Sum.inr e.nm,.inr {o,s2 _ _ lG},9,(vj tb.nm he).symm},?_};refine{_,9,(by show 1<=sizeLine;decide),λt ht=>?_};have s3:aJ H2 (upd H2 t (.tup [.str e.nm])):=aB ht _;have jB:aY K (upd H2 t (.tup [.str e.nm])) t (([e.nm]:Aag).map V.str):=aY.of au;refine{t,[e.nm],9,jB,by show 1<=100;decide,λz hz=>(ay.mp hz▸vn),λH4 s4=>{_,9,?_}};refine fU ?_;have uO:=s3.trans s4;refine{_,9,_,_,_,true,9,.lst (uO _ _ Mz),om _,_,9,fU ?_};refine{_,9,409,λl0 rX=>?_};have s5:aJ H4 (upd H4 l0 656):=aB rX _;have h05:upd H4 l0 656 l0=some 656:=au;generalize (upd H4 l0 656)=H5 at s5 h05⊢;have Sy:=uO.trans s5;refine{_,_,_,9,9,bf.of (Sy _ _ Mz),bf.of h05,_,9,?_};have eI:e.ys.isEmpty=false:=by
   cases q:e.ys with
   |nil=>
    rw[q]at Y7;exact absurd (dC.mp Y7.symm) gC
   |cons _ _=>rfl
  rw[eI];refine fU ?_;refine{_,9,e.ad,9,{_,bf.of (Sy _ _ Mz)},iS (xs:=e.ys) (λj us H6=>aJ H5 H6/\j<=e.rows.length/\us=(List.replicate j true).map V.bl) (bu ∅) {aJ.refl _,aO _,9} ?_ ?_ ?_}
  ·rintro j us H6 hj ⟨s6,zc,rfl⟩;refine{bf.of (s6 _ _ (Sy _ _ Mz)),?_};rw[ah,gx];exact aw _
  ·rintro j y us H6 N hy ⟨s6,zc,rfl⟩ hN;obtain⟨row,lC,ra,rfl,F9⟩:=Paired.at' (gJ hR2 (Sy.trans s6)) hy;have lJ:=(aq.mp lC).1;obtain⟨r1,r4,rv⟩:=gR row (aA lC);refine{_,9,ra,row,9,F9,8,λz hz=>(rv z hz).1,λH7 s7=>{_,9,nr ?_}};refine{_,9,_,_,9,.inr {_,fT F9 s7,9},_,_,9,9,_,9,?_};rw[(ah _),bj (show(0:Int)<(row.length:Int) by lia)];refine nr {_,_,9,9,?_};rw[bj (show(row.length:Int)<5 by lia)];refine hN _ _ {s6.trans s7,lJ,?_};rw[AD,aE];rfl
  rintro us H6 ⟨s6,_,rfl⟩ l hl;have s7:aJ H5 (upd H6 l (.lst 673)):=s6.trans (aB hl _);have hl7:upd H6 l (.lst 673) l=some (.lst 673):=au;generalize (upd H6 l (.lst 673))=H7 at s7 hl7⊢;refine{l,_,9,.inl (bf.of hl7),9,MX _,_,9,?_};have ev:(if false=true then !F6 (.bl false) 673 else F6 (.bl false) 673)=false:=by
   rw[aH bD,Nn];have:(List.replicate e.ys.length true).all id=true:=bL.mpr λb hb=>by rw[(CS.mp hb).2];rfl
   rw[this];rfl
  rw[ev];refine fU ?_;have s27:=Sy.trans s7;have hR7:=gJ hR2 s27;have adR:=s27 _ _ Mz;refine{_,9,_,9,e.ad,e.ys,e.rows,9,bf.of adR,hR7,8,λa us ha0 nu mu lu Me=>?_};have s8:aJ H7 (upd H7 a (.ext (uD P w a us))):=aB ha0 _;refine{a,us,e.ys,9,au,λx hx=>{KC (Me x hx).1 s8,(Me x hx).2},λ_ x hx=>?_,8,λl2 zs f9 mZ _=>?_}
  ·have:=(gR x.1 ((mu x.1).mp (bS hx))).1;intro q;rw[q]at this;cases this
  rw[Ew nu mu,un]at mZ;have s9:aJ (upd H7 a (.ext (uD P w a us))) (upd (upd H7 a (.ext (uD P w a us))) l2 702):=aB f9 _;have s79:=s8.trans s9;have oku:=λr hr z hz=>((gR r hr).2.2 z hz).2;refine{mH e.rows,mH e.rows,Dy (bf.of (s79 _ _ adR)) (gJ hR7 s79),Dy (bf.of au) (gJ mZ s9),tE oku,tE oku,_,9,?_};have ev:(if true=true then !PyData.eqv (mH e.rows) (mH e.rows)else PyData.eqv (mH e.rows) (mH e.rows))=false:=by rw[aK rfl,M4,bj rfl];rfl
  rw[ev];exact fU {_,_,9,s2.trans (s27.trans s79)}
 ·rintro Z H2 ⟨_,_,rfl,s2⟩;refine{o,_,s2 _ _ lG,k _ λb u h=>?_};by_cases c:b=p
  ·rw[c,au];rw[c,tb.at_]at h;exact h
  ·rw[aL c];exact s2 _ _ (b1 b u c h)
def VF:(dW.all λz=>isVal z)=true:=by decide+kernel
def aeO(k:Nat):PyData.strOk (fJ k)=true:=YT λc hc=>by
 rcases aN.mp hc with rfl|hc
 ·decide
 ·exact(Rx hc).2
def P4(l:Aaa):iA (iA l)=iA l:=by have nd:(iA l).Nodup:=(uU.mE _).nodup_iff.mpr (qU l);rw[<-(Ew nd λr=>Ij)];exact(uU.vE (List.Perm.refl _) (uU.u3 _)).symm
def RY(l:Aaa):(iA l).length<=l.length:=by exact jL ((uU.mE _).nodup_iff.mpr (qU l)) λr hr=>(t6 r l).mp hr
def sP(g:cV)(v:Str):Str:=((g.find? λp=>decide (p.2=v)).map (·.1)).getD v
variable{bJ bM:Aag}{bo bg:Hy}{g:cV}{ks:List Nat}
def ng.fst(x:ng bJ bo bM bg g ks):g.map (·.1)=fh (bB bo):=by rw[x.eq];exact GR (by rw[ah,x.len])
theorem Oa:∀{us vs:Aag},us.length=vs.length->(us.zip vs).map (·.2)=vs
 |[],[],_=>rfl
 |[],_::_,h=>by cases h
 |_::_,[],h=>by cases h
 |u::us,v::vs,h=>by show v::(us.zip vs).map (·.2)=v::vs;rw[Oa 717]
def ng.snd(x:ng bJ bo bM bg g ks):g.map (·.2)=ks.map fJ:=by rw[x.eq];exact Oa (by rw[ah,x.len])
def ng.LM(x:ng bJ bo bM bg g ks):(keys g).Nodup:=by show(g.map (·.1)).Nodup;rw[x.fst];exact xf _
def ng.qx(x:ng bJ bo bM bg g ks):(g.map (·.2)).Nodup:=by rw[x.snd];exact Hn (λi hi j hj e=>Ts (x.new i hi).1 (x.new j hj).1 e) x.nd
def ng.OX(x:ng bJ bo bM bg g ks){z:Str}(h:z∈fh (bB bo)):∃k∈ks,(z,fJ k)∈g/\dk g z=fJ k:=by
 rw[<-x.fst]at h;obtain⟨p,hp,rfl⟩:=aD.mp h;have h2:p.2∈ks.map fJ:=by rw[<-x.snd];exact bS hp
 obtain⟨k,hk,e⟩:=aD.mp h2;refine{k,hk,e▸hp,?_};unfold dk;rw[Dh,aI.get_mem x.LM hp,e];rfl
def ng.HA(x:ng bJ bo bM bg g ks){z:Str}(h:bh z=false):dk g z=z:=by
 unfold dk;rw[Dh];have:aI.get g z=none:=aI.get_none.mpr λq=>by have q:z∈g.map (·.1):=q;rw[x.fst]at q;rw[(qe.mp q).2]at h;cases h
 rw[this];rfl
def ng.abt(x:ng bJ bo bM bg g ks){u:Str}{k:Nat}(h:(u,fJ k)∈g):sP g (fJ k)=u:=by
 unfold sP;have find:∀{l:cV},(l.map (·.2)).Nodup->(u,fJ k)∈l->(l.find? λp=>decide (p.2=fJ k))=some (u,fJ k):=by
  intro l
  induction l with
  |nil=>intro _ h;cases h
  |cons p r ih=>
   intro nd h;rw[bt,dg]at nd;rcases aN.mp h with h|h
   ·rw[<-h,fW (p:=λp:Str×Str=>decide (p.2=fJ k)) (bj 9)]
   ·have ne:¬decide (p.2=fJ k)=true:=λq=>nd.1 (by rw[aR q];exact aD.mpr ⟨_,h,rfl⟩);rw[fX (p:=λp:Str×Str=>decide (p.2=fJ k)) ne];exact ih nd.2 h
 rw[find x.qx h];rfl
def ng.O5(x:ng bJ bo bM bg g ks){z:Str}(h:z∈(bJ++bB bo)++(bM++bB bg)):sP g z=z:=by
 unfold sP;cases q:g.find? λp=>decide (p.2=z)with
 |none=>rfl
 |some p=>
  exfalso;have e:=aR (nJ (p:=λp:Str×Str=>decide (p.2=z)) q);have h2:p.2∈ks.map fJ:=by rw[<-x.snd];exact bS (gg q)
  obtain⟨k,hk,e2⟩:=aD.mp h2;exact(x.new k hk).2 (by rw[e2,e];exact h)
def ng.one(x:ng bJ bo bM bg g ks):iL (bJ.map (dk g)) (jg g bo) bJ bo (dk g):=by
 have e:∀z,aI.ap bh (dk g) z=dk g z:=λz=>by
  unfold aI.ap;cases c:bh z with
  |true=>rfl
  |false=>rw[aH bD,x.HA c]
 have em:∀ts:Aag,ts.map (aI.ap bh (dk g))=ts.map (dk g):=λts=>b8 λz _=>e z;refine{em bJ,λa ha=>?_};rw[em];exact aD.mpr ⟨a,ha,rfl⟩
def ng.other(x:ng bJ bo bM bg g ks)(rg:mB bJ bo){h:Str->Str}(l:iL (bJ.map (dk g)) (jg g bo) bM bg h):iL bJ bo bM bg (λu=>sP g (h u)):=by
 have e2:∀z∈bM++bB bg,sP g (aI.ap bh h z)=aI.ap bh (λu=>sP g (h u)) z:=λz hz=>by
  unfold aI.ap;cases c:bh z with
  |true=>rfl
  |false=>
   exact x.O5 (bc _ hz)
 have e1:∀z∈bJ++bB bo,sP g (dk g z)=z:=λz hz=>by
  cases c:bh z with
  |true=>
   obtain⟨k,_,hm,e⟩:=x.OX (qe.mpr {((aS.mp hz).elim (λq=>rg z q c) id),c});rw[e];exact x.abt hm
  |false=>
   rw[x.HA c];exact x.O5 (bx _ hz)
 refine{?_,λa ha=>?_}
 ·have:=cP (List.map (sP g)) l.1;rw[cw,cw]at this;rw[<-b8 (f:=sP g∘aI.ap bh h) λz hz=>e2 z (bx _ hz),this]
  conv=>rhs;rw[<-yu bJ]
  exact b8 λz hz=>e1 z (bx _ hz)
 ·obtain⟨b,hb,e⟩:=aD.mp (l.2 a ha);injection e with eb1 eb2;have:=cP (List.map (sP g)) eb2;rw[cw,cw]at this;rw[b8 (f:=sP g∘aI.ap bh h) λz hz=>e2 z ((λz hz=>bc _ (ix.mpr ⟨a,ha,hz⟩)) z hz)]at this;have e3:b.2.map (sP g∘dk g)=b.2:=by
   conv=>rhs;rw[<-yu b.2]
   exact b8 λz hz=>e1 z ((λz hz=>bc _ (ix.mpr ⟨b,hb,hz⟩)) z hz)
  rw[e3]at this;rw[<-this,<-eb1];exact hb
end
section
variable{P:Program}{w:World}{K:Frag}{mg:Aac}{base:Heap}
structure Win(H:Hp)(v:V)(l:Addr)(bJ:Aag)(bo:Hy)(bM:Aag)(bg:Hy):Prop where
 at_:∃r kM bV,v=.ref r/\H r=some (.tup [.str "within",.ref l])/\H l=some (.lst kM)/\oE H kM bV/\xC bV/\bV.length<=100/\qW bJ bo bM bg bV=true
structure Prt(K:Frag)(H:Hp)(v:V)(p:Addr)(fs:List En)(bJ:Aag)(bo:Hy)(bM:Aag)(bg:Hy):Prop where
 tb:yl K H p fs
 lf:fs.length<=60
 at_:∃r rw row,v=.ref r/\H r=some (.tup [.str "parted",.ref p,.ref rw])/\H rw=some (.tup (row.map V.str))/\row.length<=4/\(∀z∈row,isVal z=true/\PyData.strOk z=true)/\(∃h,iL row (DB fs) bJ bo h)/\∀h,¬iL row (DB fs) bM bg h
def yl.ab9{H:Hp}{p:Addr}{fs:List En}(x:yl K H p fs):Fn K H p fs:={x.at_,x.nm,λe he=>by obtain⟨_,h2,h3,_,h5,h6,_⟩:=x.en e he;exact{h2,h3,h5,λr hr=>by have:=(h6 r hr).2.1;lia}}
def yl.same{H H':Hp}{p:Addr}{fs:List En}(x:yl K H p fs)(s:aJ H H'):yl K H' p fs:={s _ _ x.at_,x.nm,λe he=>by obtain⟨h1,h2,h3,h4⟩:=x.en e he;exact{h1,s _ _ h2,gJ h3 s,h4}}
structure Sam(H:Hp)(v:V)(l m:Addr)(bJ:Aag)(bo:Hy)(bM:Aag)(bg:Hy):Prop where
 at_:∃r kM bV qR rW,v=.ref r/\H r=some (.tup [.str "same",.ref l,.ref m])/\H l=some (.lst kM)/\oE H kM bV/\xC bV/\bV.length<=100/\qW bJ bo bM bg bV=true/\H m=some (.lst qR)/\oE H qR rW/\xC rW/\rW.length<=100/\qW bM bg bJ bo rW=true
structure Vu(K:Frag)(H:Hp)(v:V)(p:Addr)(fs:List En)(bJ:Aag)(bo:Hy)(bM:Aag)(bg:Hy):Prop where
 tb:yl K H p fs
 lf:fs.length<=60
 at_:∃r rw row,v=.ref r/\H r=some (.tup [.str "unlike",.ref p,.ref rw])/\H rw=some (.tup (row.map V.str))/\row.length<=4/\(∀z∈row,isVal z=true/\PyData.strOk z=true)/\((∃h,iL row (DB fs) bJ bo h)↔¬∃h,iL row (DB fs) bM bg h)
inductive GZ(K:Frag)(vs:Aan)(H:Hp)(Q:VK)(_x3:XK):Prop
 |mk (v v1 v2:V) (bJ bM:Aag) (bo bg:Hy) (_:vs=[v,v1,v2]) (_:QW H v1 bJ bo) (_:QW H v2 bM bg) (_:((∃l m,Sam H v l m bJ bo bM bg)\/∃p fs,Vu K H v p fs bJ bo bM bg)) (_:∀H',aJ H H'->Q (.bl true) H')
structure Dri(P:Program)(w:World)(K:Frag)(mg:Aac)(base:Heap):Prop where
 LY:cn P w K mg base 2 "_law_is_map" ["_law_one","_law_other","_law_pairs"] Yr
 L1:cn P w K mg base 3 "_law_are_tables" ["_law_tables"] (Ys K)
 Ae:cn P w K mg base 2 "_law_is_row" ["_law_row"] (Qc K)
 I0:cn P w K mg base 12 "_law_answers" ["_law_question_here","_law_tables","_law_row"] (IB K)
def Qk:bZ ["_law_found","_law_one","_law_other"] ["_law_found","_law_one","_law_other"] (defScope BB):=gA 53
def q9{b:Bool}{A B:Prop}(e:b=false)(h:B):if b=true then A else B:=by rw[e];exact h
def F3{b:Bool}{A B:Prop}(e:b=true)(h:A):if b=true then A else B:=by rw[e];exact h
def Wz{f:Addr}{fd:FuncData}(F:dG K "_law_right" "_law_right" BB f fd)(T:Txt K mg)(D:Dri P w K mg base):cK P w K mg base dY 13 f fd ["_law_found","_law_one","_law_other"] (GZ K):=by
 refine F.ok Qk (λ_ _ _ _ h=>by cases h;subst_vars;rfl) 55;obtain⟨v,v1,v2,bJ,bM,bo,bg,rfl,q1,q2,hw,k⟩:=h;refine{_,(az (df (PW.pt (ny (jx (gO (bN jo 9 T.hJ 53 (cu (pv 0) (tF (n:="tuple") 9 T.iw 53))))) (nZ (b5 pV (bN cY 9 T.eT bH 718) aM (cx _))))) 671 cy) (az (df (b5 lO (bF bY (pv 0) aM (λ_ _=>9)) cI (cx _)) (aQ (bK (tW (cl D.LY hr (iZ (pv 1) (pv 2) (bF bY (pv 0) aM (λ_ _=>9)))) (tV (cl D.LY hr (iZ (pv 2) (pv 1) (bF bY (pv 0) aM (λ_ _=>9)))))))) cy) (az (df (PW.pt (ny (b5 pV (bF bY (pv 0) aM (λ_ _=>9)) cI (cx _)) (ny (jx (gO (cl D.L1 hr (bX (bF bY (pv 0) aM (λ_ _=>9)))))) (nZ (jx (gO (cl D.Ae hr (bX (bF bY (pv 0) aM (λ_ _=>9)))))))))) 671 cy) (aQ (bK (jK pV (cl D.I0 hr (iZ (pv 1) (bF bY (pv 0) aM (λ_ _=>9)) (bF bY (pv 0) aM (λ_ _=>9)))) (cl D.I0 hr (iZ (pv 2) (bF bY (pv 0) aM (λ_ _=>9)) (bF bY (pv 0) aM (λ_ _=>9)))) (cx _))))))),?_}
 rcases hw with⟨l,m,⟨r,kM,bV,qR,rW,rfl,pP,hl,O9,gp,lp,mb,hm,hqr,gq,lq,mq⟩⟩|⟨p,fs,tb,lf,r,nW,row,rfl,pP,xp,lr,vr,xo⟩
 ·refine{_,9,_,_,_,true,9,.tup pP,om _,_,9,fU ?_};refine{_,9,_,_,9,.inr {_,aY.of pP,9},9,_,9,fU ?_};refine{_,9,_,_,_,_,9,9,aY.of pP,9,9,_,9,F3 7 ?_};refine{_,9,_,9,_,9,_,_,_,_,9,9,aY.of pP,9,v1,v2,l,bJ,bM,bo,bg,kM,bV,9,q1,q2,hl,O9,gp,lp,λH2 s2=>{_,9,?_}};rw[mb];refine nr {_,9,_,9,_,9,_,_,_,_,9,9,aY.of (s2 _ _ pP),9,v2,v1,m,bM,bJ,bg,bo,qR,rW,9,q2.keep (b4.of s2),q1.keep (b4.of s2),s2 _ _ hm,hqr.keep (b4.of s2),gq,lq,λH3 s3=>?_};rw[mq];exact k H3 (s2.trans s3)
 ·refine{_,9,_,_,_,true,9,.tup pP,om _,_,9,fU ?_};refine{_,9,_,_,9,.inr {_,aY.of pP,9},9,_,9,fU ?_};refine{_,9,_,_,_,_,9,9,aY.of pP,9,9,_,9,q9 7 ?_};refine{_,9,_,_,_,_,9,9,aY.of pP,9,9,_,9,q9 7 ?_};refine{_,9,_,_,_,_,9,9,aY.of pP,9,p,fs,9,tb,lf,λH2 s2=>{_,9,?_}};show if(!true)=true then _ else _;refine fU ?_;refine{_,9,_,_,_,_,9,9,aY.of (s2 _ _ pP),9,nW,row,9,aY.of (s2 _ _ xp),8,λz hz=>(vr z hz).1,λH3 s3=>{_,9,?_}};show if(!true)=true then _ else _;refine fU ?_;have nV:=s2.trans s3;refine{_,9,_,9,_,_,_,_,9,9,aY.of (nV _ _ pP),9,_,9,_,_,_,_,9,9,aY.of (nV _ _ pP),9,v1,p,nW,bJ,bo,fs,row,9,q1.keep (b4.of nV),(tb.same nV).ab9,aY.of (nV _ _ xp),8,λH4 b1 s4 MC=>?_};have nU:=nV.trans s4;refine{_,9,_,9,_,_,_,_,9,9,aY.of (nU _ _ pP),9,_,9,_,_,_,_,9,9,aY.of (nU _ _ pP),9,v2,p,nW,bM,bg,fs,row,9,q2.keep (b4.of nU),(tb.same nU).ab9,aY.of (nU _ _ xp),8,λH5 b2 s5 hb2=>{9,?_}};have eb:(!decide (V.bl b1=V.bl b2))=true:=by
   rw[<-MC,<-hb2]at xo;cases b1 with
   |false=>cases b2 with
    |false=>exact absurd (xo.mpr bD) bD
    |true=>decide
   |true=>cases b2 with
    |false=>decide
    |true=>exact absurd rfl (xo.mp 9)
  show Q (.bl (!decide (V.bl b1=V.bl b2))) H5;rw[eb];exact k H5 (nU.trans s5)
def zK:bZ ["_law_question_here","_law_terms_here","_law_atom_here"] ["_law_question_here"] (defScope BA):=gA 53
def Qx{f:Addr}{fd:FuncData}(F:dG K "_law_terms" "_law_terms" BA f fd)(T:Txt K mg):cK P w K mg base dY 1 f fd ["_law_question_here"] vB:=by
 refine F.ok zK (λ_ _ _ _ h=>by cases h;subst_vars;rfl) 55;obtain⟨v,hz,ba,rfl,⟨⟨q,hd,aa,cR,rfl,hq,Cb,m8,fN⟩,l1,l8,good,h4,hh⟩,k⟩:=h;refine{_,(az (dE 1 zK (cQ kF 9 T.pO 53 (bX (bF bY (pv 0) aM (λ_ _=>9))))) (az (dR bG 9 (ir (bF bY (pv 0) aM (λ_ _=>9))) (fZ 2 zK) (aQ (gS (jk bR eA d9 qV (pv 1) (bX (bF bY (pv 2) aM (λ_ _=>9))))))) (aQ (bK (pv 1))))),?_}
 refine{_,9,_,_,_,_,9,9,aY.of hq,9,hd,_,9,.inr (aY.of Cb),λl hl=>?_};refine{_,rfl,_,_,_,_,rfl,rfl,aY.of (aB hl _ _ _ hq),rfl,aa,rfl,{cR,aY.of (aB hl _ _ _ m8)},qA
  (λi Z H2=>∃(x2:Aao),Z=[some (.ref q),some 727,x2]/\aJ H H2/\H2 l=some (.lst ((hz++bB 711).map V.str))) {none,9,aB hl _,by rw[au];show some (HO.lst _)=some (HO.lst ((hz++[]).map V.str));rw[c7]} (λi Z H2 _ hq=>by(obtain⟨_,_,sm,_⟩:=hq;exact aY.of (sm _ _ m8))) ?_ ?_}
 ·rintro i x Z H2 hx ⟨x2,rfl,sm,f9⟩;obtain⟨ta,ht,p,t,rfl,hp,mx⟩:=Paired.at fN hx;have g:=good ta (aA ht);have lf:=good.len i;refine{_,9,.inl {9,_,bf.of f9},_,9,_,_,_,_,9,9,aY.of (sm _ _ hp),9,l,t,_,_,9,9,f9,aY.of (sm _ _ mx),?_,?_}
  ·rw[ah,ah,aC];exact bC (bu ∅)
  ·refine{_,9,λb u e=>?_,?_}
   ·rw[aL (bA e hl)];exact sm _ _ e
   ·rw[au,mK ht,<-dF,aE (l₁:=hz++bB 711)]
 ·rintro Z H2 ⟨x2,rfl,sm,f9⟩;rw[(bb fN),aT]at f9;exact{_,9,k l H2 sm hl f9}
inductive Si(K:Frag)(vs:Aan)(H:Hp)(Q:VK)(_x3:XK):Prop
 |mk (p ql:Addr) (v1 v2:V) (fs:List En) (bJ bM:Aag) (bo bg:Hy) (_:vs=[.ref p,.ref ql]) (_:yl K H p fs) (_:fs.length<=60) (_:H ql=some (.lst [v1,v2])) (_:QW H v1 bJ bo) (_:QW H v2 bM bg) (_:∀H' r(zs:Aag),aJ H H'->H r=none->H' r=some (.lst (zs.map V.str))->zs.length<=100000->(∀z∈zs,isVal z=true/\PyData.strOk z=true)->Q (.ref r) H')
structure Dnv(P:Program)(w:World)(K:Frag)(mg:Aac)(base:Heap):Prop where
 HE:cn P w K mg base 1 "_law_terms" ["_law_question_here"] vB
def jJ:bZ ["_law_tables","_law_questions","_law_old","_law_question_here","_law_some","_law_name","_law_row"] ["_law_tables","_law_questions"] (defScope sE):=gA 53
def WA{f:Addr}{fd:FuncData}(F:dG K "_law_new_values" "_law_new_values" sE f fd)(T:Txt K mg)(D:Dnv P w K mg base):cK P w K mg base dY 2 f fd ["_law_tables","_law_questions"] (Si K):=by
 refine F.ok jJ (λ_ _ _ _ h=>by cases h;subst_vars;rfl) 55;obtain⟨p,ql,v1,v2,fs,bJ,bM,bo,bg,rfl,tb,lf,Zr,q1,q2,k⟩:=h;refine{_,(az (kx (i:=2) jJ.nd 9 (Or.inr 9) (dM iu)) (az (dR bG 9 (dH (pv 1)) (fZ 3 jJ) (aQ (gS (jk bR eA d9 BS (pv 2) (bX (cl D.HE hr (bX (pv 3)))))))) (az (dE 4 jJ (dM iu)) (az (dR bG 9 (dH (bN (Cy hr.hd) 9 T.sM 53 718)) (fZ 5 jJ) (aQ (dR bG 9 (dH (ON (oZ hr) (pv 0) (pv 5) (λ_ _=>9))) (fZ 6 jJ) (aQ (gS (jk bR eA d9 BS (pv 4) (bX (mw 9 (c9 (fs:=["_law_old"]) (fr:=[2])) (ir (pv 6)) (λ_ _ _ _=>(b5 (AX) (pv 0) (pv 1) 649)) 729)))))))) (aQ (bK (pv 4))))))),?_}
 refine{409,λol Gd=>?_};have s1:aJ H (upd H ol 656):=aB Gd _;have y9:upd H ol 656 ol=some (.lst (([]:Aag).map V.str)):=au;refine{_,9,ql,9,{_,bf.of (s1 _ _ Zr)},gF (xs:=[v1,v2]) (λi Z H2=>∃(x3:Aao)(os:Aag),Z=[some 666,some (.ref ql),some (.ref ol),x3,none,none,none]/\aJ H H2/\H2 ol=some (.lst (os.map V.str))/\os.length<=100*i) {_,[],9,s1,y9,aw _} ?_ ?_ ?_}
 ·rintro i Z H2 hi ⟨_,_,rfl,s2,_⟩;exact bf.of (s2 _ _ Zr)
 ·rintro i x Z H2 hx ⟨_,os,rfl,s2,uR,lo⟩;have O7:∃hz ba,QW H x hz ba:=by
   rcases(by cases i with
    |zero=>exact .inl (bT hx).symm
    |succ j=>cases j with
     |zero=>exact .inr (bT hx).symm
     |succ j=>exact absurd hx 59:x=v1\/x=v2)with rfl|rfl
   ·exact⟨_,_,q1⟩
   ·exact⟨_,_,q2⟩
  have hi:i<=1:=by have:=(aq.mp hx).1;have l2:([v1,v2]:Aan).length=2:=9;lia
  obtain⟨hz,ba,q⟩:=O7;have lq:=q.good.len ba.length;rw[aT]at lq;have:=q.l8;have:=q.h4;refine{_,9,.inl {9,_,bf.of uR},_,9,x,hz,ba,9,(q.keep (b4.of s2)),λr H3 s3 pP y4=>{ol,r,_,_,9,9,s3 _ _ uR,y4,?_,?_}}
  ·rw[ah,ah,aC];exact bC (bu ∅)
  ·refine{_,os++(hz++bB ba),9,λb u e=>?_,?_,?_}
   ·rw[aL (bA e Gd)];exact s3 _ _ (s2 _ _ e)
   ·rw[au,aE (l₁:=os)]
   ·rw[aC,aC];lia
 ·rintro Z H2 ⟨_,os,rfl,s2,uR,lo⟩;refine{409,λsl Mi=>?_};have s3:aJ H2 (upd H2 sl 656):=aB Mi _;have h3:upd H2 sl 656 sl=some (.lst (([]:Aag).map V.str)):=au;generalize (upd H2 sl 656)=H3 at s3 h3⊢;have nV:=s2.trans s3;refine{_,9,p,fs.map iQ,fs.map (·.nm),9,nV _ _ tb.at_,by rw[cw,cw];rfl,by rw[ah];lia,λnl zb=>?_};have s4:aJ H3 (upd H3 nl (.lst ((eW (fs.map (·.nm))).map V.str))):=aB zb _;have h4:upd H3 nl (.lst ((eW (fs.map (·.nm))).map V.str)) nl=some (.lst ((eW (fs.map (·.nm))).map V.str)):=au;generalize (upd H3 nl (.lst ((eW (fs.map (·.nm))).map V.str)))=H4 at s4 h4⊢;have nU:=nV.trans s4;have ho4:=s4 _ _ (s3 _ _ uR);have LG:=s2.free Mi;have tY:sl≠nl:=λe=>by rw[e]at h3;rw[h3]at zb;cases zb
  have nol:sl≠ol:=λe=>by rw[e,uR]at Mi;cases Mi
  have lns:(eW (fs.map (·.nm))).length=fs.length:=by rw[(hZ _).length_eq,ah]
  have mns:∀z∈eW (fs.map (·.nm)),∃e∈fs,e.nm=z:=λz hz=>aD.mp ((hZ _).mem_iff.mp hz);generalize eW (fs.map (·.nm))=ns at h4 lns mns⊢;refine{nl,9,{_,bf.of h4},gF (xs:=ns.map V.str) (λi Z H5=>∃(x3 x5 x6:Aao)(zs:Aag),Z=[some 666,some (.ref ql),some (.ref ol),x3,some (.ref sl),x5,x6]/\SB sl H4 H5/\H5 sl=some (.lst 648)/\zs.length<=240*i/\∀z∈zs,isVal z=true/\PyData.strOk z=true) {_,_,_,[],9,SB.refl _ _,s4 _ _ h3,aw _,λz h=>by cases h} ?_ ?_ ?_}
  ·rintro i Z H5 hi ⟨_,_,_,_,rfl,s5,_⟩;exact bf.of (s5 _ _ tY.symm h4)
  ·rintro i x Z H5 hx ⟨x3,x5,x6,zs,rfl,s5,h5,lz,gz⟩;obtain⟨nm,hnm,rfl⟩:=iN hx;have hi:=(aq.mp hnm).1;obtain⟨e,he,rfl⟩:=mns nm (aA hnm);obtain⟨vn,zd,hR,gC,lR,gR,un⟩:=tb.en e he;have FI:=λb u h=>s5 b u (bA h LG) (nU _ _ h);have Y7:=bb hR;refine{_,9,_,9,p,.ref e.ad,9,.inl {fs.map iQ,Sum.inr e.nm,.inl (FI _ _ tb.at_),9,(vj tb.nm he).symm},e.ad,9,{_,bf.of (FI _ _ zd)},gF (xs:=e.ys) (λj Z H6=>∃(x6:Aao)(us:Aag),Z=[some 666,some (.ref ql),some (.ref ol),x3,some (.ref sl),some (.str e.nm),x6]/\SB sl H5 H6/\H6 sl=some (.lst (us.map V.str))/\us.length<=240*i+4*j/\∀z∈us,isVal z=true/\PyData.strOk z=true) {_,zs,9,SB.refl _ _,h5,8,gz} ?_ ?_ ?_}
   ·rintro j Z H6 hj ⟨_,_,rfl,s6,_⟩;exact bf.of (s6 _ _ (bA zd LG) (FI _ _ zd))
   ·rintro j y Z H6 hy ⟨x6',us,rfl,s6,h6,lu,gu⟩;obtain⟨row,lC,ra,rfl,F9⟩:=Paired.at' (gJ hR (λb u h=>s6 b u (bA h LG) (FI _ _ h))) hy;have lJ:=(aq.mp lC).1;obtain⟨r1,r4,rv⟩:=gR row (aA lC);refine{_,9,.inl {9,_,bf.of h6},_,9,ra,9,⟨_,F9⟩,mN (xs:=row.map V.str) (λt ys H7=>H7=H6/\t<=row.length/\ys=((row.take t).filter λz=>!decide (z∈os)).map V.str) 665 {9,aO _,9} ?_ ?_ ?_}
    ·rintro t ys H7 ht ⟨rfl,_,rfl⟩;refine{F9,?_};rw[ah];refine br (da _ _) ?_;rw[aZ];lia
    ·rintro t y ys H7 N hc ⟨rfl,ht,rfl⟩ hN;obtain⟨z,kB,rfl⟩:=iN hc;have bQ:=(aq.mp kB).1;refine{_,9,_,9,ol,_,9,.inl (bf.of (s6 _ _ nol.symm (s5 _ _ nol.symm ho4))),9,zh _,_,9,?_};show if(!F6 (.str z) (os.map V.str))=true then _ else _;rw[vo];have et:=bq (l:=row) (i:=t);rw[kB]at et;refine dS 688 688
     ·refine{_,9,hN _ _ {9,bQ,?_}};rw[et,eZ,aE];show _=_++(List.filter _ [z]).map V.str;rw[cZ,aK c1];rfl
     ·refine hN _ _ {9,bQ,?_};rw[et,eZ,aE];show _=_++(List.filter _ [z]).map V.str;rw[cZ,aH c1];simp
    ·rintro ys H7 ⟨rfl,_,rfl⟩ cl lX;rw[ah,aT];have lc:(row.filter λz=>!decide (z∈os)).length<=row.length:=da _ _;have gc:∀z∈(row.filter λz=>!decide (z∈os)),isVal z=true/\PyData.strOk z=true:=λz hz=>rv z (c6.mp hz).1;generalize (row.filter λz=>!decide (z∈os))=cs at lc gc⊢;refine{sl,cl,_,_,9,9,by rw[aL (λe=>by rw[<-e,h6]at lX;cases lX)];exact h6,au,?_,?_}
     ·rw[ah,ah];have:240*i<=240*60:=Nat.mul_le_mul_left _ ∅;exact bC (gG (m:=20000) ∅ 7)
     ·refine{_,us++cs,9,λb u n h=>?_,?_,?_,?_}
      ·rw[aL n,aL (bA (s6 _ _ n h) lX)];exact s6 _ _ n h
      ·rw[au,aE]
      ·rw[aC];lia
      ·intro z hz;rcases aS.mp hz with h|h
       ·exact gu z h
       ·exact gc z h
   ·rintro Z H6 ⟨x6',us,rfl,s6,h6,lu,gu⟩;exact{_,_,_,us,9,s5.trans s6,h6,8,gu}
  ·rintro Z H5 ⟨x3,x5,x6,zs,rfl,s5,h5,lz,gz⟩;rw[ah]at lz;exact{_,9,k H5 sl zs (λb u h=>s5 b u (bA h LG) (nU _ _ h)) LG h5 ∅ gz}
inductive Ou(vs:Aan)(H:Hp)(Q:VK)(_x3:XK):Prop
 |mk (h al:Addr) (hz:Aag) (cR:Aan) (ba:Hy) (_:vs=[.ref h,.ref al]) (_:H h=some (.tup (hz.map V.str))) (_:H al=some (.tup cR)) (_:dv H cR ba) (_:1<=ba.length) (_:ba.length<=08) (_:nM ba) (_:hz.length<=4) (_:(∀z∈hz,z∈kQ)) (_:∀(r:Addr)(kB:Aag)(H':Hp),aJ H H'->QW H' (.ref r) kB ba->mB kB ba->Q (.ref r) H')
def WB{f:Addr}{fd:FuncData}(F:dG K "_law_kept" "_law_kept" zN f fd)(T:Txt K mg):cK P w K mg base dY 1 f fd ["_law_head_here","_law_atoms"] Ou:=by
 refine F.ok mn (λ_ _ _ _ h=>by cases h;subst_vars;rfl) 55;obtain⟨h0,al,hz,cR,ba,rfl,Cc,nA,fN,l1,l8,good,h4,hh,k⟩:=h;refine{_,(az (kx (i:=2) mn.nd 9 (Or.inr 9) (dM iu)) (az (dR bG 9 (ir (pv 1)) (jy 9 (b9 (fZ 3 mn) (b9 (fZ 4 mn) fQ))) (aQ (gS (jk bR eA d9 qV (pv 2) (bX (pv 4)))))) (aQ (bK (dX (cu (cQ d8 9 T.iw 53 (bX (mw 9 (c9 (fs:=["_law_terms_here"]) (fr:=[2])) (ir (pv 0)) (λ_ _ _ _=>(PW.pt (ny (b5 pV (bF F1 (pv 0) aM (λ_ _=>9)) cI (cx _)) (nZ (b5 (zV) (pv 0) (pv 1) 649))))) 729))) (cQ d8 9 T.iw 53 719))))))),?_}
 refine{409,λt ht=>?_};refine{_,rfl,al,rfl,{cR,aY.of (aB ht _ _ _ nA)},qA
  (λi Z H2=>∃(x3 x4:Aao),Z=[some (.ref h0),some (.ref al),some (.ref t),x3,x4]/\aJ H H2/\H2 t=some (.lst ((bB 711).map V.str))) {none,none,9,aB ht _,au} (λi Z H2 _ hq=>by(obtain⟨_,_,_,sm,_⟩:=hq;exact aY.of (sm _ _ nA))) ?_ ?_}
 ·rintro i x Z H2 hx ⟨x3,x4,rfl,gN,iR⟩;obtain⟨a,jA,p,tt,rfl,hp,mx⟩:=Paired.at fN hx;have lf:=good.len i;have g4:=(good a (aA jA)).2.2.1;refine{p,_,9,aY.of (gN _ _ hp),9,_,_,9,_,_,9,9,?_};refine{_,9,.inl {9,_,bf.of iR},_,9,_,_,_,_,9,9,iR,aY.of (gN _ _ mx),?_,?_}
  ·rw[ah,ah];exact bC (bu ∅)
  ·refine{_,_,9,λb u e=>?_,?_}
   ·rw[aL (bA e ht)];exact gN _ _ e
   ·rw[au,mK jA,aE]
 ·rintro Z H2 ⟨x3,x4,rfl,gN,iR⟩;rw[(bb fN),aT]at iR;refine{_,9,h0,9,{_,aY.of (gN _ _ Cc)},mN (xs:=hz.map V.str) (λi ys H3=>H3=H2/\i<=hz.length/\∃zs:Aag,ys=zs.map V.str/\zs.length<=i/\∀z∈zs,z∈kQ/\(bh z=true->z∈bB ba)) 665 {9,aO _,[],9,aw _,λz h=>by cases h} ?_ ?_ ?_}
  ·rintro i ys H3 hi ⟨rfl,_,zs,rfl,hl,_⟩;refine{aY.of (gN _ _ Cc),?_};rw[ah];exact hl
  ·rintro i x ys H3 N hc ⟨rfl,hi,zs,rfl,hl,B2⟩ hN;obtain⟨z,v5,rfl⟩:=iN hc;have bQ:=(aq.mp v5).1;have Ud:=hh z (aA v5);have bJ:=fR Ud;obtain⟨c,Ce⟩:=zD bJ.1;have yes:(bh z=true->z∈bB ba)->N (zs.map V.str++[.str z]) H3:=λhy0=>hN _ _ {rfl,bQ,zs++[z],by rw[aE];rfl,by rw[aC];show zs.length+1<=i+1;lia,λy hy=>by
    rcases aS.mp hy with hy|hy
    ·exact B2 y hy
    ·rw[ay.mp hy];exact⟨Ud,hy0⟩}
   refine{_,9,_,_,_,9,9,bC (bu ∅),(gW (j:=0) Ce),9,_,9,?_};refine dS 688 688
   ·exact nr {_,9,yes λhu=>by rw[zE bJ.1 Ce,hu]at c1;cases c1}
   ·refine{_,9,_,9,t,_,9,.inl (bf.of iR),9,zh _,_,9,?_};refine dS 720 (λc2=>hN _ _ {9,bQ,zs,9,8,B2})
    ·refine{_,9,yes λ_=>?_};rw[vo]at c2;exact aR c2
  ·rintro ys H3 ⟨rfl,_,zs,rfl,hl,B2⟩ l pj;have IC:aJ H3 (upd H3 l (.lst 648)):=aB pj _;have U7:upd H3 l (.lst 648) l=some (.lst 648):=au;generalize upd H3 l (.lst 648)=H4 at IC U7⊢;refine{l,_,9,.inl {bf.of U7,689}};have FC:aJ H4 (upd H4 p (.tup 648)):=aB hp _;have ep:upd H4 p (.tup 648) p=some (.tup 648):=au;generalize upd H4 p (.tup 648)=H5 at FC ep⊢;have uM:=gN.trans (IC.trans FC);refine{_,9,al,_,9,.inr {aY.of (uM _ _ nA),?_}};refine{96,λp3 gm=>?_};have FA:=aB gm (.tup [.ref p,.ref al]);exact k p3 zs _ (uM.trans FA) {{p3,p,al,cR,9,au,FA _ _ ep,FA _ _ (uM _ _ nA),dv.keep (b4.of (uM.trans FA)) fN},l1,l8,good,8,λz hz=>(B2 z hz).1} λz hz=>(B2 z hz).2
def BG(v:Str):(("?":Str)++v).cps.toList=63::v.cps.toList:=by show(("?":Str).cps++v.cps).toList=_;rw[Array.toList_append];rfl
def P2{v:Str}(h:isVal v=true):bh ("?"++v)=true:=by
 have l1:1<=(("?":Str)++v).length:=by
  have:(("?":Str)++v).length=(("?":Str)++v).cps.toList.length:=by simp[Str.length]
  rw[this,BG,bE];lia
 have es:Txt.slice (("?":Str)++v) (some 1) none=v:=wW (by rw[So l1,BG];rfl);unfold bh;rw[es,h,vA (by rw[BG];rfl)];decide
def aaw{v:Str}(h:v.length<=08):(("?":Str)++v).length<=100:=by
 have:(("?":Str)++v).length=(("?":Str)++v).cps.toList.length:=by simp[Str.length]
 have e:v.length=v.cps.toList.length:=by simp[Str.length]
 rw[this,BG,bE,<-e];lia
def afM{v:Str}(h:PyData.strOk v=true):PyData.strOk (("?":Str)++v)=true:=by unfold PyData.strOk at h⊢;rw[<-Array.all_toList]at h⊢;rw[BG,uG,h];decide
def acr{v:Str}(h:v.length<=08):Txt.slice v none (some 08)=v:=by
 have e:∀n<09,((Builtin.Str.strSliceIndices none (some 08) 1 n).length==n)=true:=by decide+kernel
 unfold Txt.slice;rw[e _ ∅];rfl
inductive KQ(K:Frag)(vs:Aan)(H:Hp)(Q:VK)(_x3:XK):Prop
 |mk (f:Addr) (v:V) (z:Str) (hz:Aag) (ba:Hy) (_:vs=[.ref f,v,.str z]) (_:dJ K f H) (_:QW H v hz ba) (_:isVal z=true) (_:PyData.strOk z=true) (_:∀(r:Addr)(kB:Aag)(ij:Hy)(H':Hp),dJ K f H'->Ext f H H'->QW H' (.ref r) kB ij->mB kB ij->Q (.ref r) H')
structure Dca(P:Program)(w:World)(K:Frag)(mg:Aac)(base:Heap):Prop where
 dN:cn P w K mg base 1 "_law_draw" ["_law_feed_here","_law_many"] (vD K)
 HE:cn P w K mg base 1 "_law_terms" ["_law_question_here"] vB
 sO:cn P w K mg base 2 "_law_led_question" ["_law_question_here","_law_given"] KO
 LX:cn P w K mg base 1 "_law_kept" ["_law_head_here","_law_atoms"] Ou
def pM:bZ ["_law_feed_here","_law_question_here","_law_value","_law_terms_here","_law_old","_law_new","_law_made"] ["_law_feed_here","_law_question_here","_law_value"] (defScope zQ):=gA 53
def Tg{f:Addr}{fd:FuncData}(F:dG K "_law_called" "_law_called" zQ f fd)(T:Txt K mg)(D:Dca P w K mg base):cK P w K mg base dY 3 f fd ["_law_feed_here","_law_question_here","_law_value"] (KQ K):=by
 refine F.ok pM (λ_ _ _ _ h=>by cases h;subst_vars;rfl) 55;obtain⟨fe,v,z,hz,ba,rfl,hF,qw,vz,oz,k⟩:=h;have l8:=qw.l8;have l4:=qw.h4;have lfl:=qw.good.len ba.length;rw[aT]at lfl;have l1:1<=(bB ba).length:=by obtain⟨a,r,e⟩:∃a r,ba=a::r:=List.exists_cons_of_length_pos qw.l1;have:=(qw.good a (e▸aF)).2.1;rw[e];show 1<=(a.2++bB r).length;rw[aC];lia
 refine{_,(az (dE 3 pM (cl D.HE hr 719)) (az (dE 4 pM (bF eF (pv 3) (cl D.dN hr (cu (pv 0) (bN cY 9 T.eT bH (bX (pv 3))))) (λ_ _=>9))) (az (dE 5 pM (bF eF (dM (cu (pv 2) (cW vc cI (mJ Sq (pv 2) oR (oQ aM))))) 650 (λ_ _=>9))) (az (dE 6 pM (cl D.sO hr (cu (pv 1) (aa4 (Wk (pv 4) (pv 5) aaX) 9 9 59 (by show 1<=15;decide))))) (aQ (bK (cl D.LX hr (cu (bF bY (pv 6) aM (λ_ _=>9)) (bF bY (pv 6) aM (λ_ _=>9)))))))))),?_}
 refine{_,9,v,hz,ba,9,qw,λtl H1 s1 Um B6=>?_};have lt:(hz++bB ba).length=hz.length+(bB ba).length:=aC;have lt':((hz++bB ba).map V.str).length=hz.length+(bB ba).length:=by rw[ah,lt]
 refine{_,9,_,9,_,9,_,_,9,.inl {_,bf.of B6,9},fe,_,9,(hF.same s1),8,8,λi2 H2 a0 a1 km ko=>?_};have iR:=ko _ _ (hF.pf Um) B6;obtain⟨old,hold⟩:∃y,(hz++bB ba)[i2.toNat]?=some y:={_,av ∅};have ev:sd ((hz++bB ba).map V.str) i2=some (.str old):=by
  have e:i2=((i2.toNat:Nat):Int):=by lia
  rw[e];exact gW (by rw[aX,hold];rfl)
 refine{_,_,_,_,9,9,bf.of iR,ev,?_};refine{_,9,_,9,_,9,_,9,bC (bu (by have:=vi vz;lia)),?_};rw[acr (vi vz)];refine{_,_,9,9,bC (bu (by have e1:("?":Str).length=1:=9;have:=vi vz;rw[e1];lia)),96,λl hl=>?_};have s3:aJ H2 (upd H2 l (.lst [.str z,.str (("?":Str)++z)])):=aB hl _;have h3:upd H2 l (.lst [.str z,.str (("?":Str)++z)]) l=some (.lst [.str z,.str (("?":Str)++z)]):=au;have jW:=km.same s3;refine{_,9,fe,2,9,jW,7,7,λi4 H4 b0 b1 kY jX=>?_};obtain⟨new,Ah,nT⟩:∃new:Str,([.str z,.str (("?":Str)++z)]:Aan)[i4.toNat]?=some (.str new)/\new∈kQ:=by
  rcases(by lia:i4.toNat=0\/i4.toNat=1)with e|e
  ·rw[e];exact{z,9,({by unfold kW;rw[vz];rfl,by have:=vi vz;lia,oz})}
  ·rw[e];exact{_,9,({by unfold kW;rw[P2 vz,Bool.or_true],aaw (vi vz),afM oz})}
 have ev4:sd ([.str z,.str (("?":Str)++z)]:Aan) i4=some (.str new):=by
  have e:i4=((i4.toNat:Nat):Int):=by lia
  rw[e];exact gW Ah
 refine{_,_,_,_,9,9,bf.of (jX _ _ (km.pf hl) h3),ev4,?_};refine{_,9,689};have s5:aJ H4 (upd (upd H4 p 651) p (.dK (gD [(old,new)]))):=λb u h=>by rw[aL (bA h hp),aL (bA h hp)];exact h
 have h5:upd (upd H4 p 651) p (.dK (gD [(old,new)])) p=some (.dK (gD [(old,new)])):=au;refine{_,9,_,9,au,[(Sum.inr old,.str new)],9,(by show 1<=15;decide),?_};have em:ky [] [((Sum.inr old:Key),V.str new)]=gD [(old,new)]:=9;rw[em];have Aj:=(((Ext.of s1).trans ko).trans ((Ext.of s3).trans jX)).trans (Ext.of s5);refine{v,p,hz,ba,[(old,new)],9,qw.keep (hF.fk Aj),h5,λq hq=>(ay.mp hq▸nT),λr H6 s6 q6=>?_};obtain⟨⟨q,hd,aa,cR,er,hq,Cb,m8,fN⟩,l1',l8',ae9,h4',hh'⟩:=q6;obtain rfl:r=q:=by injection er
 refine{_,9,_,_,_,_,9,9,aY.of hq,9,_,9,_,_,_,_,9,9,aY.of hq,9,?_};refine{hd,aa,_,cR,_,9,Cb,m8,fN,l1',l8',ae9,h4',hh',λr7 hz7 H7 s7 q7 rg=>?_};exact k r7 hz7 _ H7 (((kY.same s5).same s6).same s7) ((Aj.trans (Ext.of s6)).trans (Ext.of s7)) q7 rg
def Tz{bJ bM:Aag}{bo bg:Hy}{bV:cV}(h:qW bJ bo bM bg bV=true):iL bJ bo bM bg (dk bV):=by
 unfold qW at h;rw[bO,bO]at h;obtain⟨h1,h2,h3⟩:=h;have h1:=aR h1;have nd:(bV.map (·.1)).Nodup:=by rw[h1];exact(hZ _).nodup_iff.mpr (xf _)
 rw[ye nd]at h2 h3;have e:∀z,aI.ap bh (dk bV) z=dk bV z:=λz=>by
  unfold aI.ap;by_cases c:bh z=true
  ·rw[aK c]
  ·rw[aH c];unfold dk;rw[Dh];have:aI.get bV z=none:=aI.get_none.mpr λq=>by have q:z∈bV.map (·.1):=q;rw[h1]at q;exact c (qe.mp ((hZ _).mem_iff.mp q)).2
   rw[this];rfl
 have em:∀ts:Aag,ts.map (aI.ap bh (dk bV))=ts.map (dk bV):=λts=>b8 λz _=>e z;refine{by rw[em];exact(aR h2),λa ha=>?_};rw[em];have:=bL.mp h3 _ (aD.mpr ⟨a,ha,rfl⟩);exact aR this
def map_len{bJ bM:Aag}{bo bg:Hy}{bV:cV}(h:qW bJ bo bM bg bV=true):bV.length<=(bB bg).length:=by unfold qW at h;rw[bO]at h;have h1:=cP List.length (aR h.1);rw[ah,(hZ _).length_eq]at h1;rw[h1];exact yU _
def vd(hz:Aag)(ba:Hy):iL hz ba hz ba λu=>u:=by
 have e:∀ts:Aag,ts.map (aI.ap bh λu=>u)=ts:=λts=>by
  conv=>rhs;rw[<-yu ts]
  exact b8 λz _=>by unfold aI.ap;split<;>rfl
 refine{e hz,λa ha=>?_};rw[e];exact ha
end
section
variable{K:Frag}
def ng.Zc{bJ bM:Aag}{bo bg:Hy}{g:cV}{ks:List Nat}(x:ng bJ bo bM bg g ks){z:Str}(hT:z∈kQ)(rg:bh z=true->z∈bB bo):isVal (dk g z)=true/\PyData.strOk (dk g z)=true:=by
 obtain⟨ht,_,ok⟩:=fR hT;cases c:bh z with
 |true=>
  obtain⟨k,hk,_,e⟩:=x.OX (qe.mpr {rg c,c});rw[e];exact{LL (x.new k hk).1,aeO k}
 |false=>
  rw[x.HA c];unfold kW at ht;rw[c,A9]at ht;exact⟨ht,ok⟩
def GV{H H':Hp}{p:Addr}{rws:Hy}{fs:List En}(t:Told K H H' p rws fs)(a:Str×Aag):a∈DB fs↔a∈rws:=by
 obtain⟨z,r⟩:=a;have by_:∀z r,r∈jw rws z↔(z,r)∈rws:=λz r=>by
  unfold jw;rw[aD];constructor
  ·rintro⟨a,ha,rfl⟩;obtain⟨h1,h2⟩:=c6.mp ha;rw[<-aR h2];exact h1
  ·intro h;exact{(z,r),c6.mpr {h,bj rfl},9}
 unfold DB;rw[ik];constructor
 ·rintro⟨l,hl,h⟩;obtain⟨e,he,rfl⟩:=aD.mp hl;obtain⟨r',Uq,q⟩:=aD.mp h;cases q;obtain⟨_,_,_,_,e5,_⟩:=t.en e he;rw[e5]at Uq;exact(by_ _ _).mp ((t6 _ _).mp Uq)
 ·intro h;obtain⟨e,he,hz⟩:=aD.mp (t.all _ h);obtain⟨_,_,_,_,e5,_⟩:=t.en e he;refine{_,aD.mpr ⟨e,he,rfl⟩,aD.mpr {r,?_,by rw[hz]}};rw[e5,hz];exact(t6 _ _).mpr ((by_ _ _).mpr h)
def LU{D D':Hy}(h:∀a,a∈D↔a∈D'){row hz:Aag}{ba:Hy}{g:Str->Str}:iL row D hz ba g↔iL row D' hz ba g:=
 {λx=>{x.1,λa ha=>(h _).mp (x.2 a ha)},λx=>{x.1,λa ha=>(h _).mpr (x.2 a ha)}}
def R7{H H':Hp}{p:Addr}{bJ bM:Aag}{bo bg:Hy}{g:cV}{ks:List Nat}{fs:List En}(t:Told K H H' p (jg g bo) fs)(x:ng bJ bo bM bg g ks)(good:nM bo)(l8:bo.length<=08):yl K H' p fs:=by
 refine{t.at_,t.nm,λe he=>?_};obtain⟨_,_,h3,h4,h5,h6⟩:=t.en e he;have el:(jg g bo).length=bo.length:=ah _;refine{?_,h3,h4,h6,?_,λr hr=>?_,?_}
 ·obtain⟨a,ha,e1⟩:=t.sub e he;obtain⟨b,hb,rfl⟩:=aD.mp ha;rw[<-e1];exact bL.mp VF _ (good b hb).1
 ·rw[h5];have h1:=RY (jw (jg g bo) e.nm);have h2:=FJ (rws:=jg g bo) (z:=e.nm);lia
 ·have hm:=(GV t _).mp (ik.mpr {_,aD.mpr ⟨e,he,rfl⟩,aD.mpr ⟨r,hr,rfl⟩});obtain⟨b,hb,q⟩:=aD.mp hm;injection q with q1 q2;obtain⟨_,g1,g4,gT⟩:=good b hb;rw[<-q2,ah];refine{g1,g4,λz hz=>?_};obtain⟨y,hy,rfl⟩:=aD.mp hz;exact x.Zc (gT y hy) λ_=>ix.mpr ⟨b,hb,hy⟩
 ·rw[h5];exact P4 _
inductive Tld(K:Frag)(H H':Hp)(v:V)(bJ:Aag)(bo:Hy)(bM:Aag)(bg:Hy):Prop
 |RV (r l:Addr) (kM:Aan) (er:v=.ref r) (hr:H' r=some (.tup [.str "within",.ref l])) (hl:H' l=some (.lst kM)) (lp:kM.length<=100) (l0:H l=none) (w:Win H' v l bJ bo bM bg) (yes:∃h,iL bJ bo bM bg h)
 |SR (r p rw:Addr) (fs:List En) (er:v=.ref r) (hr:H' r=some (.tup [.str "parted",.ref p,.ref rw])) (p0:H p=none) (ad:(fs.map (·.ad)).Nodup) (en:∀e∈fs,H e.ad=none/\e.ad≠p) (w:Prt K H' v p fs bJ bo bM bg) (no:∀h,¬iL bJ bo bM bg h)
def xb{H:Hp}{v1 v2:V}{bJ bM:Aag}{bo bg:Hy}{Q:VK}{E:XK}(q1:QW H v1 bJ bo)(q2:QW H v2 bM bg)(i1:mB bJ bo)(i2:mB bM bg)(k:∀v H',aJ H H'->Tld K H H' v bJ bo bM bg->Q v H'):zH K [v1,v2] H Q E:=by
 refine{v1,v2,bJ,bM,bo,bg,9,q1,q2,i2,λH' r l kM bV s r0 l0 hr hl hp mb gp=>?_,λH' r p nW g ks fs s r0 hr xp x t no=>?_}
 ·have ll:bV.length<=100:=by have h1:=map_len mb;have h2:=q2.good.len bg.length;rw[aT]at h2;have:=q2.l8;lia
  have lv:kM.length=bV.length:=bb hp;exact k _ H' s (.RV r l kM 9 hr hl ∅ l0 ⟨r,kM,bV,rfl,hr,hl,hp,gp,ll,mb⟩ {_,Tz mb})
 ·refine k _ H' s (.SR r p nW fs 9 hr t.p0 t.ad (λe he=>{(t.en e he).1,(t.en e he).2.1}) {R7 t x q1.good q1.l8,t.len,r,nW,_,9,hr,xp,?_,λz hz=>?_,{dk g,(LU (GV t)).mpr x.one},λh hh=>?_} no)
  ·rw[ah];exact q1.h4
  ·obtain⟨y,hy,rfl⟩:=aD.mp hz;exact x.Zc (q1.hh y hy) (i1 y hy)
  ·exact no _ (x.other i1 ((LU (GV t)).mp hh))
variable{P:Program}{w:World}{mg:Aac}{base:Heap}
inductive Tls(K:Frag)(H H':Hp)(v:V)(bJ:Aag)(bo:Hy)(bM:Aag)(bg:Hy):Prop
 |sam (r l m:Addr) (kM qR:Aan) (rW:cV) (er:v=.ref r) (hr:H' r=some (.tup [.str "same",.ref l,.ref m])) (hl:H' l=some (.lst kM)) (hm:H' m=some (.lst qR)) (pq:oE H' qR rW) (gq:xC rW) (lq:rW.length<=100) (l0:H l=none) (lm:l≠m) (w:Sam H' v l m bJ bo bM bg) (yes:(∃h,iL bJ bo bM bg h)/\∃h,iL bM bg bJ bo h)
 |Yg (r p rw:Addr) (fs:List En) (row:Aag) (er:v=.ref r) (hr:H' r=some (.tup [.str "unlike",.ref p,.ref rw])) (xp:H' rw=some (.tup (row.map V.str))) (lr:row.length<=4) (vr:∀z∈row,isVal z=true/\PyData.strOk z=true) (p0:H p=none) (w:Vu K H' v p fs bJ bo bM bg) (no:¬((∃h,iL bJ bo bM bg h)/\∃h,iL bM bg bJ bo h))
def Tls.right{H H':Hp}{v:V}{bJ bM:Aag}{bo bg:Hy}(x:Tls K H H' v bJ bo bM bg):(∃l m,Sam H' v l m bJ bo bM bg)\/∃p fs,Vu K H' v p fs bJ bo bM bg:=by
 cases x with
 |sam r l m kM qR rW er hr hl hm pq gq lq l0 lm w yes=>exact .inl ⟨l,m,w⟩
 |Yg r p rw fs row er hr xp lr vr p0 w no=>exact .inr ⟨p,fs,w⟩
inductive KI(K:Frag)(vs:Aan)(H:Hp)(Q:VK)(_x3:XK):Prop
 |mk (v1 v2:V) (bJ bM:Aag) (bo bg:Hy) (_:vs=[v1,v2]) (_:QW H v1 bJ bo) (_:QW H v2 bM bg) (_:mB bJ bo) (_:mB bM bg) (_:∀v H',aJ H H'->Tls K H H' v bJ bo bM bg->Q v H')
structure Dsa(P:Program)(w:World)(K:Frag)(mg:Aac)(base:Heap):Prop where
 within:cn P w K mg base 26 "within" ["one","other"] (zH K)
def G6:bZ ["one","other","there","back"] ["one","other"] (defScope s_same):=gA 53
def oE.same{H H':Hp}{vs:Aan}{bV:cV}(h:oE H vs bV)(s:aJ H H'):oE H' vs bV:=h.keep (b4.of s)
def aa9{f:Addr}{fd:FuncData}(F:dG K "same" "same" s_same f fd)(T:Txt K mg)(D:Dsa P w K mg base):cK P w K mg base dY 27 f fd ["one","other"] (KI K):=by
 refine F.ok G6 (λ_ _ _ _ h=>by cases h;subst_vars;rfl) 55;obtain⟨v1,v2,bJ,bM,bo,bg,rfl,q1,q2,i1,i2,k⟩:=h;refine{_,(az (dE 2 G6 (cl D.within hr (cu (pv 0) (pv 1)))) (az (df (b5 lO (bF bY (pv 2) aM (λ_ _=>9)) cI (cx _)) (aQ (bK (dX (iZ cI (bF bY (pv 2) aM (λ_ _=>9)) (bF bY (pv 2) aM (λ_ _=>9)))))) cy) (az (dE 3 G6 (cl D.within hr (cu (pv 1) (pv 0)))) (az (df (b5 lO (bF bY (pv 3) aM (λ_ _=>9)) cI (cx _)) (aQ (bK (dX (iZ cI (bF bY (pv 3) aM (λ_ _=>9)) (bF bY (pv 3) aM (λ_ _=>9)))))) cy) (aQ (bK (dX (iZ cI (bF bY (pv 2) aM (λ_ _=>9)) (bF bY (pv 3) aM (λ_ _=>9)))))))))),?_}
 refine{_,9,_,9,?_};dsimp only[Bo];refine xb q1 q2 i1 i2 λu H1 s1 t1=>?_;cases t1 with
 |SR r p nW fs er qy p0 ad en w no=>
  subst er;refine{_,9,_,_,_,_,9,9,aY.of qy,9,9,_,9,F3 7 ?_};refine{_,9,_,_,_,_,9,9,aY.of qy,9,_,9,_,_,_,_,9,9,aY.of qy,9,675,λr2 mZ=>?_};obtain⟨tb,lf,r',nX,row,er,g1,g2,lr,vr,one,other⟩:=w;cases er;rw[qy]at g1;cases g1;have s2:=aB mZ (.tup [.str "unlike",.ref p,.ref nW]);exact k _ _ (s1.trans s2) (.Yg r2 p nW fs row 9 au (s2 _ _ g2) lr vr p0 {tb.same s2,lf,r2,nW,row,9,au,s2 _ _ g2,lr,vr,λ_ ⟨h,hh⟩=>other h hh,λ_=>one} λ⟨⟨h,hh⟩,_⟩=>no h hh)
 |RV r l kM er qy hl lp l0 w yes=>
  subst er;refine{_,9,_,_,_,_,9,9,aY.of qy,9,9,_,9,q9 7 ?_};refine{_,9,_,9,?_};dsimp only[Bo];refine xb (q2.keep (b4.of s1)) (q1.keep (b4.of s1)) i2 i1 λu H2 s2 t2=>?_;have vO:=s1.trans s2;have z0:∀{b:Addr},H1 b=none->H b=none:=λ{b} q=>by
   cases e:H b with
   |none=>rfl
   |some u=>rw[s1 _ _ e]at q;cases q
  cases t2 with
  |SR r2 p nW fs er mZ p0 ad en w2 no=>
   subst er;refine{_,9,_,_,_,_,9,9,aY.of mZ,9,9,_,9,F3 7 ?_};refine{_,9,_,_,_,_,9,9,aY.of mZ,9,_,9,_,_,_,_,9,9,aY.of mZ,9,675,λr3 y4=>?_};obtain⟨tb,lf,r',nX,row,er,g1,g2,lr,vr,one,other⟩:=w2;cases er;rw[mZ]at g1;cases g1;have s3:=aB y4 (.tup [.str "unlike",.ref p,.ref nW]);exact k _ _ (vO.trans s3) (.Yg r3 p nW fs row 9 au (s3 _ _ g2) lr vr (z0 p0) {tb.same s3,lf,r3,nW,row,9,au,s3 _ _ g2,lr,vr,λ⟨h,hh⟩=>absurd hh (other h),λn=>absurd one n} λ⟨_,⟨h,hh⟩⟩=>no h hh)
  |RV r2 m qR er mZ hm lq m0 w2 VB=>
   subst er;refine{_,9,_,_,_,_,9,9,aY.of mZ,9,9,_,9,q9 7 ?_};refine{_,9,_,_,_,_,9,9,aY.of (s2 _ _ qy),9,_,9,_,_,_,_,9,9,aY.of mZ,9,675,λr3 y4=>?_};have s3:=aB y4 (.tup [.str "same",.ref l,.ref m]);obtain⟨r',acN,bV,er,g1,g2,g3,g4,g5,g6⟩:=w.at_;cases er;rw[qy]at g1;cases g1;obtain⟨r'',acM,rW,er,f1,f2,f3,f4,f5,f6⟩:=w2.at_;cases er;rw[mZ]at f1;cases f1;have rV:=s2.trans s3;exact k _ _ (vO.trans s3) (.sam r3 l m acN acM rW 9 au (rV _ _ g2) (s3 _ _ f2) (f3.same s3) f4 f5 l0 (λe=>by rw[e,m0]at hl;cases hl) {r3,acN,bV,acM,rW,9,au,rV _ _ g2,g3.same rV,g4,g5,g6,s3 _ _ f2,f3.same s3,f4,f5,f6} ⟨yes,VB⟩)
inductive Oz(K:Frag)(vs:Aan)(H:Hp)(Q:VK)(_x3:XK):Prop
 |mk (f:Addr) (v v1 v2:V) (p:Addr) (fs:List En) (bJ bM:Aag) (bo bg:Hy) (_:vs=[.ref f,v,v1,v2]) (_:dJ K f H) (_:QW H v1 bJ bo) (_:QW H v2 bM bg) (_:mB bJ bo) (_:mB bM bg) (_:Vu K H v p fs bJ bo bM bg) (_:∀H',dJ K f H'->Ext f H H'->Q (.bl true) H')
structure Das(P:Program)(w:World)(K:Frag)(mg:Aac)(base:Heap):Prop where
 dN:cn P w K mg base 1 "_law_draw" ["_law_feed_here","_law_many"] (vD K)
 LW:cn P w K mg base 2 "_law_new_values" ["_law_tables","_law_questions"] (Si K)
 LZ:cn P w K mg base 3 "_law_called" ["_law_feed_here","_law_question_here","_law_value"] (KQ K)
 same:cn P w K mg base 27 "same" ["one","other"] (KI K)
 Dj:cn P w K mg base 13 "_law_right" ["_law_found","_law_one","_law_other"] (GZ K)
def jd:bZ ["_law_feed_here","_law_found","_law_one","_law_other","_law_some","_law_value","_law_first","_law_second","_law_pair_here"] ["_law_feed_here","_law_found","_law_one","_law_other"] (defScope qO):=gA 53
def WK{f:Addr}{fd:FuncData}(F:dG K "_law_asked_again" "_law_asked_again" qO f fd)(T:Txt K mg)(D:Das P w K mg base):cK P w K mg base dY 28 f fd ["_law_feed_here","_law_found","_law_one","_law_other"] (Oz K):=by
 refine F.ok jd (λ_ _ _ _ h=>by cases h;subst_vars;rfl) 55;obtain⟨fe,v,v1,v2,p,fs,bJ,bM,bo,bg,rfl,hF,q1,q2,i1,i2,⟨tb,lf,r,nW,row,rfl,pP,xp,lr,vr,xo⟩,k⟩:=h;refine{_,(az (dE 4 jd (cl D.LW hr (cu (bF bY (pv 1) aM (λ_ _=>9)) (dM (cu (pv 2) (pv 3)))))) (az (df (b5 (FV hr.Fw) (pv 4) (dM iu) (cx _)) 671 cy) (az (dE 5 jd (bF eF (pv 4) (cl D.dN hr (cu (pv 0) (bN cY 9 T.eT bH (bX (pv 4))))) (λ_ _=>9))) (az (dE 6 jd (cl D.LZ hr (iZ (pv 0) (pv 2) (pv 5)))) (az (dE 07 jd (cl D.LZ hr (iZ (pv 0) (pv 3) (pv 5)))) (az (dR bG 9 (dH (dM (iZ (dX (cu (pv 6) (pv 3))) (dX (cu (pv 2) (pv 07))) (dX (cu (pv 6) (pv 07)))))) (fZ 08 jd) (aQ (df (jx (gO (cl D.Dj hr (iZ (cl D.same hr (cu (bF bY (pv 08) aM (λ_ _=>9)) (bF bY (pv 08) aM (λ_ _=>9)))) (bF bY (pv 08) aM (λ_ _=>9)) (bF bY (pv 08) aM (λ_ _=>9)))))) 671 cy))) 671)))))),?_}
 refine{_,9,_,_,_,_,9,9,aY.of pP,9,_,9,_,9,96,λql Zr=>?_};have s1:aJ H (upd H ql (.lst [v1,v2])):=aB Zr _;have h1:upd H ql (.lst [v1,v2]) ql=some (.lst [v1,v2]):=au;generalize (upd H ql (.lst [v1,v2]))=H1 at s1 h1⊢;refine{p,ql,v1,v2,fs,bJ,bM,bo,bg,9,tb.same s1,lf,h1,q1.keep (b4.of s1),q2.keep (b4.of s1),λH2 sl zs s2 hs0 kC lz gz=>?_};have yJ:=s1.trans s2;refine{_,9,409,λl0 rX=>?_};have s3:aJ H2 (upd H2 l0 656):=aB rX _;have h3:upd H2 l0 656 l0=some 656:=au;generalize (upd H2 l0 656)=H3 at s3 h3⊢;have nV:=yJ.trans s3;have jW:=hF.same nV;refine{_,_,_,9,9,bf.of (s3 _ _ kC),bf.of h3,_,9,?_};show if(zs.map V.str).isEmpty=true then _ else _;cases ez:zs with
 |nil=>exact nr (k H3 jW (Ext.of nV))
 |cons z0 zr=>
  refine fU ?_;have l1:1<=zs.length:=by rw[ez];exact jh (aO _)
  have lz':(zs.map V.str).length=zs.length:=ah _;have Je:=s3 _ _ kC;have LG:sl≠fe:=(hF.same s1).pf hs0;refine{_,9,_,9,_,9,_,_,9,.inl {_,bf.of Je,9},fe,_,9,jW,8,8,λi4 H4 a0 a1 kY jX=>?_};obtain⟨z,hz⟩:∃y,zs[i4.toNat]?=some y:={_,av ∅};have ev:sd 648 i4=some (.str z):=by
   have e:i4=((i4.toNat:Nat):Int):=by lia
   rw[e];exact gW (by rw[aX,hz];rfl)
  obtain⟨vz,oz⟩:=gz z (aA hz);refine{_,_,_,_,9,9,bf.of (jX _ _ LG Je),ev,?_};have ad3:Ext fe H H4:=(Ext.of nV).trans jX;refine{_,9,_,9,_,9,fe,v1,z,bJ,bo,9,kY,q1.keep (hF.fk ad3),vz,oz,λr5 hz5 ahG H5 rl nE q5 in5=>?_};have ad2:=ad3.trans nE;refine{_,9,_,9,_,9,fe,v2,z,bM,bg,9,rl,q2.keep (hF.fk ad2),vz,oz,λr6 hz6 ahF H6 rh kn q6 in6=>?_};have Xx:=ad2.trans kn;have w1:=q1.keep (hF.fk Xx);have w2:=q2.keep (hF.fk Xx);have w5:=q5.keep (rl.fk kn);refine{_,9,_,9,96,λt1 B6=>{_,9,_,9,96,λt2 iR=>{_,9,_,9,96,λt3 jB=>?_}}};have m1:aJ H6 (upd H6 t1 (.tup [.ref r5,v2])):=aB B6 _;have e1:upd H6 t1 (.tup [.ref r5,v2]) t1=some (.tup [.ref r5,v2]):=au;generalize (upd H6 t1 (.tup [.ref r5,v2]))=G1 at m1 e1 iR jB⊢;have m2:aJ G1 (upd G1 t2 (.tup [v1,.ref r6])):=aB iR _;have e2:upd G1 t2 (.tup [v1,.ref r6]) t2=some (.tup [v1,.ref r6]):=au;generalize (upd G1 t2 (.tup [v1,.ref r6]))=G2 at m2 e2 jB⊢;have m3:aJ G2 (upd G2 t3 (.tup [.ref r5,.ref r6])):=aB jB _;have e3:upd G2 t3 (.tup [.ref r5,.ref r6]) t3=some (.tup [.ref r5,.ref r6]):=au;generalize (upd G2 t3 (.tup [.ref r5,.ref r6]))=G3 at m3 e3⊢;refine{675,λal nA=>?_};have m5:aJ G3 (upd G3 al 672):=aB nA _;have e5:upd G3 al 672 al=some 672:=au;generalize (upd G3 al 672)=G5 at m5 e5⊢;have m35:=m3.trans m5;have m25:=m2.trans m35;have OV:=m1.trans m25;have hP:∀x∈([.ref t1,.ref t2,.ref t3]:Aan),∃(a:Addr)(va vb:V)(ha:Aag)(aa:Hy)(hb:Aag)(ab:Hy),x=.ref a/\G5 a=some (.tup [va,vb])/\QW G5 va ha aa/\mB ha aa/\QW G5 vb hb ab/\mB hb ab:=λx hx=>by
   have k1:=w1.keep (b4.of OV);have k2:=w2.keep (b4.of OV);have k5:=w5.keep (b4.of OV);have k6:=q6.keep (b4.of OV);rcases aN.mp hx with rfl|hx
   ·exact{t1,_,_,_,_,_,_,9,m25 _ _ e1,k5,in5,k2,i2}
   rcases aN.mp hx with rfl|hx
   ·exact{t2,_,_,_,_,_,_,9,m35 _ _ e2,k1,i1,k6,in6}
   rw[ay.mp hx];exact{t3,_,_,_,_,_,_,9,m5 _ _ e3,k5,in5,k6,in6}
  have ag3:=rh.same OV;generalize ([.ref t1,.ref t2,.ref t3]:Aan)=xs at e5 hP⊢;refine{al,9,{_,bf.of e5},gF (K:=K) (a:=al) (xs:=xs) (λi Z Hs=>∃x8:Aao,Z=[some (.ref fe),some (.ref r),some v1,some v2,some (.ref sl),some (.str z),some (.ref r5),some (.ref r6),x8]/\aJ G5 Hs) {_,9,aJ.refl _} ?_ ?_ ?_}
  ·rintro i Z Hs hi ⟨_,rfl,ss⟩;exact bf.of (ss _ _ e5)
  ·rintro i x Z Hs hx ⟨_,rfl,ss⟩;obtain⟨a,va,vb,ha,aa,hb,ab,rfl,jA,qa,ia,qb,ib⟩:=hP x (aA hx);refine{_,9,_,_,_,_,9,9,aY.of (ss _ _ jA),9,_,9,_,_,_,_,9,9,aY.of (ss _ _ jA),9,?_};refine{va,vb,ha,hb,aa,ab,9,qa.keep (b4.of ss),qb.keep (b4.of ss),ia,ib,λu Hu su tu=>?_};have Se:=ss.trans su;refine{_,9,_,_,_,_,9,9,aY.of (Se _ _ jA),9,_,9,_,_,_,_,9,9,aY.of (Se _ _ jA),9,?_};refine{u,va,vb,ha,hb,aa,ab,9,qa.keep (b4.of Se),qb.keep (b4.of Se),tu.right,λHv sv=>{_,9,?_}};show if(!true)=true then _ else _;exact fU {_,9,Se.trans sv}
  ·rintro Z Hs ⟨_,rfl,ss⟩;exact k Hs (ag3.same ss) ((Xx.trans (Ext.of OV)).trans (Ext.of ss))
end
end rO
namespace L2
open PySem PySem.Spec PyProof.Rows
section
variable{X:Cx}
inductive aaU(x:V)(vs:Aan)(H:Hp)(Q:VK):Prop
 |mk d kvs (_:x=.ref d) (_:vs=[]) (_:H d=some (.dK kvs)) (_:Q .cz (upd H d (.dK [])))
def Tv:JL X "dict.clear" aaU:=by intro pins s Z H x vs v us Q I rx rv h;obtain⟨d,kvs,rfl,rfl,hd,q⟩:=h;cases rx;obtain rfl:=rv.zero;exact abQ I hd λs' I'=>{.cz,_,I',9,q}
def aaC(t u:TE):TE:=λZ H Q=>t Z H Q\/u Z H Q
def S1{e:Expr}{t u:TE}(h1:PE X e t)(h2:PE X e u):PE X e (aaC t u):=λpins s Z H Q I h=>h.elim (h1 pins s Z H Q I) (h2 pins s Z H Q I)
end
end L2
namespace rO
open PySem PySem.Spec PyProof.Rows L2 aI
seal L2.PE L2.PT L2.PW L2.PA L2.PS L2.rF L2.PI L2.PO L2.PX L2.PG L2.Nu
def KZ{f:Addr}{H H1 H2:Hp}(s:aJ H H1)(hf:H f=none)(e:Ext f H1 H2):aJ H H2:=λb u q=>e b u (bA q hf) (s b u q)
def JK.same{K:Frag}{H H':Hp}{a:Addr}{xs:Aan}(h:JK K H a xs)(s:aJ H H'):JK K H' a xs:=by
 rcases h with⟨o,h⟩|h
 ·exact .inl {o,s _ _ h}
 ·exact .inr h
def dQ(hz:Aag)(ba:Hy):PyData:=.tuple [.tuple (hz.map PyData.str),.tuple (ba.map dA)]
theorem Co:∀a b:Hy,PyData.eqvAll (a.map dA) (b.map dA)=decide (a=b)
 |[],[]=>by simp[PyData.eqvAll]
 |[],_::_=>by simp[PyData.eqvAll]
 |_::_,[]=>by simp[PyData.eqvAll]
 |x::a,y::b=>by rw[bt,bt,PyData.eqvAll,Nf,Co a b];by_cases h:x=y<;>by_cases h':a=b<;>simp[h,h']
def aec{bJ bM:Aag}{bo bg:Hy}(h:PyData.eqv (dQ bJ bo) (dQ bM bg)=true):bJ=bM/\bo=bg:=by unfold dQ at h;simp only[PyData.eqv,PyData.eqvAll,kq,Co,uI,bO,jD]at h;exact h
def Rw{K:Frag}{H:Hp}{v:V}{hz:Aag}{ba:Hy}(q:QW H v hz ba):Dt K H (dQ hz ba) v:=by
 obtain⟨p,hd,aa,cR,rfl,hp,Cb,m8,fN⟩:=q.at';unfold dQ;refine{p,_,9,aY.of hp,?_};refine{_,_,9,?_,?_}
 ·rw[Dt];exact{hd,_,9,aY.of Cb,ka _}
 ·rw[mS];refine{_,_,9,?_,by rw[mS]};exact{aa,_,9,aY.of m8,E2 fN}
theorem Jt:∀ba:Hy,PyData.depthAll (ba.map dA)<=60
 |[]=>by simp[PyData.depthAll]
 |a::r=>by have h1:=M7 a;have h2:=Jt r;rw[bt,PyData.depthAll];lia
def zJ{H:Hp}{v:V}{hz:Aag}{ba:Hy}(q:QW H v hz ba):SeqAt.shaped (dQ hz ba)=true:=by have h3:=Jt ba;simp[SeqAt.shaped,dQ,PyData.canLay0,PyData.canLayAll0,PyData.depth,PyData.depthAll,(qg hz λz hz=>(fR (q.hh z hz)).2.2),(HD (ba:=ba) λa ha=>{(fR (tN (q.good a ha).1)).2.2,λz hz=>(fR ((q.good a ha).2.2.2 z hz)).2.2}),(mL hz)];lia
def abR(hz:Aag)(ba:Hy):PyData.eqv (dQ hz ba) (dQ hz ba)=true:=by unfold dQ;simp only[PyData.eqv,PyData.eqvAll,kq,Co,decide_true,uI]
def Bth(bJ:Aag)(bo:Hy)(bM:Aag)(bg:Hy):Prop:=(∃h,iL bJ bo bM bg h)/\∃h,iL bM bg bJ bo h
def OD{K:Frag}{H:Hp}{vs:Aan}{bV:cV}(h:oE H vs bV):fA K H vs (rowsOf bV):=by
 induction h with
 |nil=>exact .nil
 |cons h _ ih=>
  obtain⟨a,e,q⟩:=h;exact .cons {a,e,aY.of q} ih
def YS{bV:cV}(g:xC bV):Nv (rowsOf bV):=λr hr z hz=>by
 obtain⟨p,hp,rfl⟩:=aD.mp hr;obtain⟨h1,h2⟩:=g p hp;rcases aN.mp hz with rfl|hz
 ·exact(GO h1).2
 ·rw[ay.mp hz];exact(GO h2).2
section
variable{P:Program}{w:World}{K:Frag}{mg:Aac}{base:Heap}
structure Dl(P:Program)(w:World)(K:Frag)(mg:Aac)(base:Heap):Prop where
 adg:cn P w K mg base 1 "_law_feed" ["_law_script","_law_k"] (Sj K)
 ade:cn P w K mg base 4 "_law_pair" ["_law_feed_here","_law_most"] (Sg K)
 within:cn P w K mg base 26 "within" ["one","other"] (zH K)
 same:cn P w K mg base 27 "same" ["one","other"] (KI K)
 Dj:cn P w K mg base 13 "_law_right" ["_law_found","_law_one","_law_other"] (GZ K)
 JX:cn P w K mg base 28 "_law_asked_again" ["_law_feed_here","_law_found","_law_one","_law_other"] (Oz K)
inductive J5(K:Frag)(vs:Aan)(H:Hp)(Q:VK)(_x3:XK):Prop
 |mk (a:Addr) (ns:List Int) (_:vs=[.ref a]) (_:JK K H a (ns.map V.int)) (_:ns.length<=63) (_:∀H',Q (.bl true) H')
def pK:bZ ["_law_script","_law_j","_law_feed_here","_law_one","_law_other","_law_alike","_law_first","_law_second","_law_found","_law_kept_here"] ["_law_script"] (defScope Ql):=gA 53
def RU:decide (V.str "within"=V.str "within")=true:=by decide
def SQ:decide (V.str "parted"=V.str "within")=false:=by decide
def acW(F:dG K "law" "law" Ql f fd)(T:Txt K mg)(D:Dl P w K mg base):cK P w K mg base dY 29 f fd ["_law_script"] (J5 K):=by
 refine F.ok pK (λ_ _ _ _ h=>by cases h;subst_vars;rfl) 55;obtain⟨a,ns,rfl,hS,hn,k⟩:=h;refine{_,(az (dR bG 9 (og 9 T.sN (bX aM)) (fZ 1 pK) (az (dE 2 pK (cl D.adg hr (cu (pv 0) (cW tX aM (pv 1))))) (az (yM (cl D.ade hr (cu (pv 2) aM)) (jy 9 (b9 (fZ 3 pK) (b9 (fZ 4 pK) fQ)))) (az (dE 5 pK (tW (jK lO (bF bY (cl D.within hr (cu (pv 3) (pv 4))) aM (λ_ _=>9)) cI (cx _)) (tV (jK lO (bF bY (cl D.within hr (cu (pv 4) (pv 3))) aM (λ_ _=>9)) cI (cx _))))) (aQ (dR bG 9 (dH (dM (iZ (dX (cu (pv 3) (pv 4))) (dX (cu (pv 4) (pv 3))) (dX (cu (pv 3) (pv 3)))))) (jy 9 (b9 (fZ 6 pK) (b9 (fZ 07 pK) fQ))) (az (dE 08 pK (cl D.same hr (cu (pv 6) (pv 07)))) (az (df (PW.pt (ny (jx (gO (cl D.Dj hr (iZ (pv 08) (pv 6) (pv 07))))) (nZ (b5 pV (jK lO (bF bY (pv 08) aM (λ_ _=>9)) cI (cx _)) (aeM (pv 5) (tV (jK (acU hr.units) (pv 6) (pv 07) (cx _)))) (cx _))))) 671 cy) (az (df (PW.pt (Lb (b5 lO (bF bY (pv 08) aM (λ_ _=>9)) cI (cx _)) (Hc (jx (gO (cl D.JX hr (fu (pv 2) (iZ (pv 08) (pv 6) (pv 07))))))))) 671 cy) (az (dE 09 pK (cQ kF 9 T.pO 53 (bX (bF bY (pv 08) aM (λ_ _=>9))))) (az (gS (S1 (S3 bR PySem.F.slot_list_clear PySem.F.type_list_clear WN (bF bY (pv 08) aM (λ_ _=>9))) (S3 eU wU PySem.F.type_dict_clear Tv (bF bY (pv 08) aM (λ_ _=>9))))) (aQ (df (PW.pt (ny (b5 (FT hr.units) (cQ kF 9 T.pO 53 (bX (bF bY (pv 08) aM (λ_ _=>9)))) (pv 09) (cx _)) (nZ (jx (gO (cl D.Dj hr (iZ (cl D.same hr (cu (pv 6) (pv 07))) (pv 6) (pv 07)))))))) 671 cy))))))))))))) 671),?_}
 refine{4,rfl,by decide,by decide,Rg (lo:=0) (n:=4)
  (λj Z H1=>∃x1 x2 x3 x4 x5 x6 x7 x8 x9:Aao,Z=[some 654,x1,x2,x3,x4,x5,x6,x7,x8,x9]/\aJ H H1) {none,none,none,none,none,none,none,none,none,9,aJ.refl H} ?_ ?_}
 ·rintro j Z H1 D1 hj ⟨x1,x2,x3,x4,x5,x6,x7,x8,x9,rfl,xg⟩ hD1 _;refine{_,9,_,9,_,_,9,9,.inl {7,7},a,ns,_,9,hS.same xg,hn,8,λfe H2 km gN UA=>?_};have adQ:H fe=none:=xg.free UA;have s2:=xg.trans gN;refine{_,9,fe,4,9,km,7,7,λr one other bJ bM bo bg H3 jW kD y4 La uP in1 Zm=>?_};refine{r,_,9,aY.of y4,9,_,_,9,_,_,9,9,?_};have s3:=KZ s2 adQ kD;clear y4 kD s2 km gN UA;dsimp only;refine Su λR hR=>?_;have fin:∀(b:Bool)(G0:Hp),aJ H3 G0->(b=true↔Bth bJ bo bM bg)->R [some 654,some (.int (0+(j:Int))),some (.ref fe),some one,some other,some (.bl b),x6,x7,x8,x9] G0:=by
   intro b G0 sG0 hb;refine hR _ _ ?_;refine{_,9,_,9,96,λt1 B6=>{_,9,_,9,96,λt2 iR=>{_,9,_,9,96,λt3 jB=>?_}}};have m1:aJ G0 (upd G0 t1 (.tup [one,other])):=aB B6 _;have e1:upd G0 t1 (.tup [one,other]) t1=some (.tup [one,other]):=au;generalize (upd G0 t1 (.tup [one,other]))=G1 at m1 e1 iR jB⊢;have m2:aJ G1 (upd G1 t2 (.tup [other,one])):=aB iR _;have e2:upd G1 t2 (.tup [other,one]) t2=some (.tup [other,one]):=au;generalize (upd G1 t2 (.tup [other,one]))=G2 at m2 e2 jB⊢;have m3:aJ G2 (upd G2 t3 (.tup [one,one])):=aB jB _;have e3:upd G2 t3 (.tup [one,one]) t3=some (.tup [one,one]):=au;generalize (upd G2 t3 (.tup [one,one]))=G3 at m3 e3⊢;refine{675,λal nA=>?_};have m4:aJ G3 (upd G3 al 672):=aB nA _;have e4:upd G3 al 672 al=some 672:=au;have nal:al≠fe:=((((jW.same sG0).same m1).same m2).same m3).pf nA;generalize (upd G3 al 672)=G at m4 e4⊢;have m34:=m3.trans m4;have m24:=m2.trans m34;have TB:=sG0.trans (m1.trans m24);have hFG:=jW.same TB;have hP:∀x∈([.ref t1,.ref t2,.ref t3]:Aan),∃(a:Addr)(va vb:V)(ha:Aag)(aa:Hy)(hb:Aag)(ab:Hy),x=.ref a/\G a=some (.tup [va,vb])/\QW G va ha aa/\mB ha aa/\QW G vb hb ab/\mB hb ab/\(b=true->Bth ha aa hb ab)/\(Bth ha aa hb ab->b=true\/(ha=hb/\aa=ab)):=λx hx=>by
    have k1:=La.keep (b4.of TB);have k2:=uP.keep (b4.of TB);rcases aN.mp hx with rfl|hx
    ·exact{t1,_,_,_,_,_,_,9,m24 _ _ e1,k1,in1,k2,Zm,hb.mp,λh=>.inl (hb.mpr h)}
    rcases aN.mp hx with rfl|hx
    ·exact{t2,_,_,_,_,_,_,9,m34 _ _ e2,k2,Zm,k1,in1,λh=>(hb.mp h).symm,λh=>.inl (hb.mpr h.symm)}
    rw[ay.mp hx];exact{t3,_,_,_,_,_,_,9,m4 _ _ e3,k1,in1,k1,in1,λ_=>{{_,vd _ _},_,vd _ _},λ_=>.inr ⟨rfl,rfl⟩}
   have s3G:=s3.trans TB;generalize ([.ref t1,.ref t2,.ref t3]:Aan)=xs at e4 hP⊢;clear m1 m2 m3 m4 m34 m24 TB e1 e2 e3 sG0 nA B6 iR jB;refine{al,9,{_,bf.of e4},UX (K:=K) (a:=al) (xs:=xs) (λi Z Hs=>∃x6 x7 x8 x9:Aao,Z=[some 654,some (.int (0+(j:Int))),some (.ref fe),some one,some other,some (.bl b),x6,x7,x8,x9]/\dJ K fe Hs/\Ext fe G Hs) {_,_,_,_,9,hFG,Ext.refl _ _} ?_ ?_ ?_}
   ·rintro i Z Hs hi ⟨_,_,_,_,rfl,_,Gn⟩;exact bf.of (Gn _ _ nal e4)
   ·rintro i x Z Hs D2 hx ⟨x6,x7,x8,x9,rfl,ZP,Gn⟩ hD2 _;obtain⟨ta,va,vb,ha,aa,gd,ab,rfl,jA,qa,ia,qb,ib,b1,b2⟩:=hP x (aA hx);have tus:=hFG.fk Gn;refine{ta,_,9,aY.of (tus _ _ jA),9,_,_,9,_,_,9,9,?_};have qas:=qa.keep tus;have qbs:=qb.keep tus;refine{_,9,_,9,va,vb,ha,gd,aa,ab,9,qas,qbs,ia,ib,λu Hu su tu=>?_};refine{_,9,_,9,_,9,u,va,vb,ha,gd,aa,ab,9,qas.keep (b4.of su),qbs.keep (b4.of su),tu.right,λHv sv=>{_,9,?_}};show if(!true)=true then _ else _;refine fU ?_;have Sa:=su.trans sv;have FL:=qas.keep (b4.of Sa);have FK:=qbs.keep (b4.of Sa);have hFv:=ZP.same Sa;have again:∀(He:Hp)(x8 x9:Aao),QW He va ha aa->QW He vb gd ab->dJ K fe He->Ext fe G He->∀{N:Prop},(∀Hz,dJ K fe Hz->Ext fe G Hz->N)->True:=λ_ _ _ _ _ _ _ _ _=>trivial;cases tu with
    |sam r l m kM qR rW er qy hl hm pq gq lq l0 lm w yes=>
     subst er;have B7:=sv _ _ qy;have Ei:=sv _ _ hl;have hmv:=sv _ _ hm;refine{_,9,_,_,_,_,9,9,aY.of B7,9,9,_,9,_,9,?_};refine aee (λrest=>dS (λcb=>{9,_,9,q9 7 rest}) (λcb=>{_,9,_,9,dQ ha aa,dQ gd ab,Rw FL,Rw FK,zJ FL,zJ FK,9,_,9,q9 ?_ rest})) ?_
     ·obtain⟨h1,h2⟩:=(b2 yes).resolve_left cb;subst h1 h2;rw[abR];decide
     refine{_,9,_,_,_,_,9,9,aY.of B7,9,9,_,9,q9 7 (fU ?_)};refine{_,9,_,_,_,_,9,9,aY.of B7,9,m,_,9,.inl (bf.of hmv),λkl Ms=>?_};have y1:aJ Hv (upd Hv kl (.lst qR)):=aB Ms _;have e1:upd Hv kl (.lst qR) kl=some (.lst qR):=au;generalize upd Hv kl (.lst qR)=I1 at y1 e1⊢;have lH:=y1 _ _ Ei;have nkl:l≠kl:=λe=>by rw[e,Ms]at Ei;cases Ei
     have nlf:l≠fe:=ZP.pf l0;have nlr:r≠l:=λe=>by rw[e,Ei]at B7;cases B7
     refine .inl {_,9,_,_,_,_,9,9,aY.of (y1 _ _ B7),9,.inl {9,_,bf.of lH},_,_,9,9,lH,?_};have o2:∀c y,c≠l->I1 c=some y->upd I1 l 656 c=some y:=λc y n q=>by rw[aL n];exact q
     have t2:b4 I1 (upd I1 l 656):=(b4.refl I1).lst lH _;generalize upd I1 l 656=I2 at o2 t2⊢;have tv2:b4 Hv I2:=(b4.of y1).trans t2;have Mr:=o2 _ _ lm.symm (y1 _ _ hmv);refine{_,9,_,_,_,_,9,9,aY.of (tv2 _ _ B7),9,m,_,9,.inl (bf.of Mr),λk2 rZ=>?_};have y3:aJ I2 (upd I2 k2 (.lst qR)):=aB rZ _;have e3:upd I2 k2 (.lst qR) k2=some (.lst qR):=au;generalize upd I2 k2 (.lst qR)=I3 at y3 e3⊢;have R0:b4 Hv I3:=tv2.trans (b4.of y3);have pr3:oE I3 qR rW:=(pq.same sv).keep R0;refine{_,9,mH (rowsOf rW),mH (rowsOf rW),Dy (bf.of e3) (OD pr3),Dy (bf.of (y3 _ _ (o2 _ _ nkl.symm e1))) (OD pr3),tE (YS gq),tE (YS gq),_,9,q9 (by rw[M4];simp) ?_};have Xe:dJ K fe I3:=by obtain⟨y1',y2',y3',hf⟩:=hFv;exact{y1',y2',y3',y3 _ _ (o2 _ _ nlf.symm (y1 _ _ hf))}
     have Xu:Ext fe G I3:=λc y n q=>y3 _ _ (o2 _ _ (λz=>by have:=Gn c y n q;rw[z,l0]at this;cases this) (y1 _ _ (Sa _ _ (Gn c y n q))))
     refine{_,9,_,9,va,vb,ha,gd,aa,ab,9,FL.keep R0,FK.keep R0,ia,ib,λu2 Hx sx tx=>?_};refine{_,9,_,9,u2,va,vb,ha,gd,aa,ab,9,(FL.keep R0).keep (b4.of sx),(FK.keep R0).keep (b4.of sx),tx.right,λHy sy=>{_,9,?_}};show if(!true)=true then _ else _;exact fU (hD2 _ _ {_,_,_,_,9,Xe.same (sx.trans sy),Xu.trans (Ext.of (sx.trans sy))})
    |Yg r p nW fs row er qy xp lr vr p0 w no=>
     subst er;have B7:=sv _ _ qy;refine{_,9,_,_,_,_,9,9,aY.of B7,9,9,_,9,_,9,?_};have b0:b=false:=by
      cases q:b with
      |false=>rfl
      |true=>exact absurd (b1 q) no
     subst b0;refine fU {_,9,_,9,dQ ha aa,dQ gd ab,Rw FL,Rw FK,zJ FL,zJ FK,9,_,9,q9 ?_ ?_}
     ·rw[aH bD];cases q:PyData.eqv (dQ ha aa) (dQ gd ab)with
      |false=>decide
      |true=>
       obtain⟨q1,q2⟩:=aec q;subst q1 q2;exact absurd {{_,vd _ _},_,vd _ _} no
     have npf:p≠fe:=ZP.pf p0;have wv:Vu K Hv (.ref r) p fs ha aa gd ab:=by obtain⟨tb,lf,r',nX,afD,er,h1,h2,h3⟩:=w;exact{tb.same sv,lf,r',nX,afD,er,sv _ _ h1,sv _ _ h2,h3}
     refine{_,9,_,_,_,_,9,9,aY.of B7,9,9,_,9,F3 7 ?_};refine{_,9,_,9,_,9,_,9,fe,.ref r,va,vb,p,fs,ha,gd,aa,ab,9,hFv,FL,FK,ia,ib,wv,λHw hFw exw=>{_,9,?_}};show if(!true)=true then _ else _;refine fU ?_;have tuw:=hFv.fk exw;have W0:=tuw _ _ B7;have hkw:=tuw _ _ (sv _ _ xp);have Zv:Hw p=some 699:=exw _ _ npf (sv _ _ w.tb.at_);refine{_,9,_,_,_,_,9,9,aY.of W0,9,nW,_,9,.inr (aY.of hkw),λkl Ms=>?_};have y1:aJ Hw (upd Hw kl 705):=aB Ms _;have e1:upd Hw kl 705 kl=some 705:=au;generalize upd Hw kl 705=I1 at y1 e1⊢;have lG:=y1 _ _ Zv;have nkp:kl≠p:=λe=>by rw[<-e,Ms]at Zv;cases Zv
     refine .inr {_,9,_,_,_,_,9,9,aY.of (y1 _ _ W0),9,.inr (.inr (.inl {9,.inl ⟨_,lG⟩})),p,_,9,9,lG,?_};have o2:∀c y,c≠p->I1 c=some y->upd I1 p 651 c=some y:=λc y n q=>by rw[aL n];exact q
     generalize upd I1 p 651=I2 at o2⊢;have tw2:b4 Hw I2:=λc ys q=>o2 _ _ (λz=>by rw[z,Zv]at q;cases q) (y1 _ _ q);refine{_,9,_,_,_,_,9,9,aY.of (tw2 _ _ W0),9,nW,_,9,.inr (aY.of (tw2 _ _ hkw)),λk2 rZ=>?_};have y3:aJ I2 (upd I2 k2 705):=aB rZ _;have e3:upd I2 k2 705 k2=some 705:=au;generalize upd I2 k2 705=I3 at y3 e3⊢;have Yh:b4 Hv I3:=tuw.trans (tw2.trans (b4.of y3));have dt:∀c,I3 c=some 705->Dt K I3 (.list (row.map PyData.str)) (.ref c):=λc q=>by rw[Dt];exact{c,_,9,bf.of q,ka _}
     have sh:SeqAt.shaped (.list (row.map PyData.str))=true:=by simp[SeqAt.shaped,PyData.canLay0,PyData.depth,qg row λz hz=>(vr z hz).2,mL]
     refine{_,9,.list (row.map PyData.str),.list (row.map PyData.str),dt _ e3,dt _ (y3 _ _ (o2 _ _ nkp e1)),sh,sh,_,9,q9 (by rw[PyData.eqv,kq];simp) ?_};have Xe:dJ K fe I3:=by obtain⟨y1',y2',y3',hf⟩:=hFw;exact{y1',y2',y3',y3 _ _ (o2 _ _ npf.symm (y1 _ _ hf))}
     have Xu:Ext fe G I3:=λc y n q=>y3 _ _ (o2 _ _ (λz=>by have:=Gn c y n q;rw[z,p0]at this;cases this) (y1 _ _ (exw _ _ n (Sa _ _ (Gn c y n q)))))
     refine{_,9,_,9,va,vb,ha,gd,aa,ab,9,FL.keep Yh,FK.keep Yh,ia,ib,λu2 Hx sx tx=>?_};refine{_,9,_,9,u2,va,vb,ha,gd,aa,ab,9,(FL.keep Yh).keep (b4.of sx),(FK.keep Yh).keep (b4.of sx),tx.right,λHy sy=>{_,9,?_}};show if(!true)=true then _ else _;exact fU (hD2 _ _ {_,_,_,_,9,Xe.same (sx.trans sy),Xu.trans (Ext.of (sx.trans sy))})
   ·rintro Z Hs ⟨x6,x7,x8,x9,rfl,ZP,Gn⟩;exact hD1 _ _ {_,_,_,_,_,_,_,_,_,9,KZ s3G adQ Gn}
  refine{_,9,_,9,?_};dsimp only[Bo];refine xb La uP in1 Zm λu H4 s4 t4=>?_;cases t4 with
  |SR r p nW fs er hr4 p0 ad en w no=>
   subst er;exact{_,_,_,_,9,9,aY.of hr4,9,9,_,9,q9 SQ (fin false H4 s4 {λh=>(by cases h),λ⟨⟨h,hh⟩,_⟩=>absurd hh (no h)})}
  |RV r l kM er hr4 hl lp l0 w yes=>
   subst er;refine{_,_,_,_,9,9,aY.of hr4,9,9,_,9,F3 RU {_,9,_,9,?_}};dsimp only[Bo];refine xb (uP.keep (b4.of s4)) (La.keep (b4.of s4)) Zm in1 λu H5 s5 t5=>?_;cases t5 with
   |SR r p nW fs er hr5 p0 ad en w no=>
    subst er;refine{_,_,_,_,9,9,aY.of hr5,9,9,?_};exact fin (decide (V.str "parted"=V.str "within")) H5 (s4.trans s5) {λh=>(by rw[SQ]at h;cases h),λ⟨_,⟨h,hh⟩⟩=>absurd hh (no h)}
   |RV r l kM er hr5 hl lp l0 w VB=>
    subst er;refine{_,_,_,_,9,9,aY.of hr5,9,9,?_};exact fin (decide (V.str "within"=V.str "within")) H5 (s4.trans s5) {λ_=>⟨yes,VB⟩,λ_=>RU}
 ·rintro Z H1 ⟨x1,x2,x3,x4,x5,x6,x7,x8,x9,rfl,xg⟩;exact k _
end
end rO
namespace Hd
open PySem PySem.W PyProof.Rows PySem.W.Fast
abbrev pos0:Pos:={0,0,0,0}
abbrev tb:=tw14364793385576792824
abbrev an0:Option Value:=some (.ref 6)
def env0(p:Program):Env:={scope:=p.main.scope,locals:=mainNs,globals:=mainNs,cells:=[],code:=.ref 13,frame:=some 14}
def cd0(p:Program):Code:=.body (behindTheImports p) (env0 p)
abbrev B0:List Frame:=[topFrame pos0]
def S0(w:World)(os:OsState):Shared:={boot_heap w.params,Array.mk [],boot_drawn,boot_toks,os}
def mkT(l:List Obj):Nat->Nat->Nat->BT
 |0,_,_=>.nil
 |f+1,a,b=>match l[b]? with
  |some o=>.node o (mkT l f (2*a) (a+b)) (mkT l f (2*a) (2*a+b))
  |none=>.nil
def toT(s:Shared):SharedT:={mkT s.heap.objs.toList 6 1 0,s.heap.objs.size,s.heap.life,s.gens,s.drawn,s.toks,s.os}
def pre(p:Program)(w:World)(os:OsState):SharedT:=match tw15667345088766844465 tb p w 11 an0 12 (S0 w os) (topStub p)with
 |some r=>toT r.1
 |none=>toT (S0 w os)
def body(p:Program)(n:Nat)(w:World)(os:OsState):Option (Flow×SharedT×Code×Pos):=
 tw10110043849684766642 tb p w 11 an0 1 n (pre p w os) (piecesOf (behindTheImports p) (env0 p) (cd0 p) pos0 B0)
def aft(p:Program)(n:Nat)(w:World)(os:OsState):SharedT:=match body p n w os with
 |some r=>r.2.1
 |none=>toT (S0 w os)
def posL(p:Program)(n:Nat)(w:World)(os:OsState):Pos:=match body p n w os with
 |some r=>r.2.2.2
 |none=>pos0
def fin(p:Program)(n:Nat)(w:World)(os:OsState):Shared:=match tw14082659384304107361 tb p w 11 an0 2 (aft p n w os).abs {doneF .next,cd0 p,posL p n w os,B0}with
 |some s=>s
 |none=>S0 w os
structure Ok(p:Program)(n:Nat):Prop where
 pre:∀w os,tw15667345088766844465 tb p w 11 an0 12 (S0 w os) (topStub p)=some ((Hd.pre p w os).abs,{tw11892475500146522536 tb (cd0 p),cd0 p,pos0,B0})
 block:∀w os,tw14374325043358763698 tb p w 11 an0 1 1 (Hd.pre p w os).abs (blockOf (behindTheImports p) (env0 p) (cd0 p) pos0 B0)=some (.next,(Hd.pre p w os).abs,cd0 p,pos0)
 body:∀w os,Hd.body p n w os=some (.next,aft p n w os,cd0 p,posL p n w os)
 fin:∀w os,tw14082659384304107361 tb p w 11 an0 2 (aft p n w os).abs {doneF .next,cd0 p,posL p n w os,B0}=some (Hd.fin p n w os)
def run(o:Ok p n)(w:World)(os:OsState):topRun treeTable p w 11 an0 (12+(1+(n+2))) (S0 w os) (topStub p)=some (fin p n w os):=by have h1:=o.pre w os;have h2:=o.block w os;have h3:=o.body w os;have h4:=o.fin w os;unfold Hd.body at h3;unfold tb at h1 h2 h3 h4;rw[<-te15667345088766844465,<-te14364793385576792824,<-te11892475500146522536]at h1;rw[<-te14374325043358763698,<-te14364793385576792824]at h2;rw[<-te10110043849684766642,<-te14364793385576792824]at h3;rw[<-te14082659384304107361,<-te14364793385576792824]at h4;have k:topRun treeTable p w 11 an0 (n+2) (Hd.pre p w os).abs (restOf (behindTheImports p++[]) (env0 p) (cd0 p) pos0 B0)=some (fin p n w os):=piece_app (segRun_of h3) (piece_nil h4);rw[c7]at k;exact go_top h1 (piece_block h2 k)
def left(o:Ok p n)(hN:Nat.ble (12+(1+(n+2))) N=true)(he:opening p=plainProg p.main.scope.names)(h6:Nat.ble 600 N=true)(hf:∀s,fenceModules? p s=some s)
  (l1:∀w os,(staticsOk (importedModules p.main.body) (boot_heap w.params) (fin p n w os).heap&&namesBound p (fin p n w os).heap&&gensDone (fin p n w os)&&laidKept (boot_heap w.params) (fin p n w os).heap)=true)
  (l2:∀w os,openSeen q loose (importedModules p.main.body) Xt g0 (fin p n w os)=openGood q loose) (l3:∀w os,Yf (fin p n w os)=Ya w):LeftO p q loose Xt Yf Ya N g0:=λw=>by
 obtain⟨s,e,e'⟩:=bz.mp (boot_open he h6 hf w);obtain⟨os,rfl⟩:∃os,s=S0 w os:=by obtain⟨h,g,d,t,os⟩:=s;simp only[Prod.mk.injEq]at e';obtain⟨rfl,rfl,rfl,rfl⟩:=e';exact⟨os,rfl⟩
 have r:=topRun_mono (N -(12+(1+(n+2)))) _ _ _ _ (run o w os);rw[show 12+(1+(n+2))+(N -(12+(1+(n+2))))=N by have:=Nat.le_of_ble_eq_true hN;lia]at r;have z1:((S0 w os).heap.isNs mainGlobals&&(S0 w os).gens.size==0)=true:=by kernel_rfl
 have z2:(S0 w os).heap.objs.size=11:=by kernel_rfl
 have z3:(S0 w os).heap.nsMap mainGlobals "__annotations__"=an0:=by kernel_rfl
 have t:topFrom treeTable p w N (S0 w os)=some (fin p n w os):=by unfold topFrom;rw[z1,z2,z3,r];have q:=l1 w os;show(match _ with|true=>_|false=>_)=_;rw[show(staticsOk (importedModules p.main.body) (S0 w os).heap (fin p n w os).heap&&namesBound p (fin p n w os).heap&&gensDone (fin p n w os)&&laidKept (S0 w os).heap (fin p n w os).heap)=true from q]
 unfold openEnds;rw[e];show(topFrom treeTable p w N _).map _=_;rw[t];exact cP some (Fo (l2 w os) (l3 w os))
end Hd
namespace rO
open PySem PySem.Spec PyProof.Rows L2
abbrev tO(vs:Aaf):Obj:={.type "tuple",none,.seq vs.toArray 0,#[]}
abbrev cO(vs:Aaf):Obj:={.type "code",none,.fields vs.toArray,#[]}
abbrev kO(P:Params)(x:Str)(t:Tok)(v:Value):DictEntry:={PyData.keyHash P x,.str x t,v}
abbrev fO(s:Stmt)(n q:Str)(pm cd:Value):Obj:={.type "function",none,.func (fnOf n q (defArgs s) (defBody s) (defScope s) .none .none .none pm none cd .none),#[]}
abbrev cF(x q:Str)(a b c:Tok)(l n:Int)(r r1:Addr)(v1 v2:Value)(r2:Addr)(i:Int)(d:Tok):Obj:=cO [.str x a,.str q b,.str "/claim/cut.py" c,.int l 0,.int n 0,.int 0 0,.int 0 0,.int 3 0,.ref r,.bool true,.int 181 0,.ref r1,.none,v1,v2,.ref r2,.int i 0,.int l 0,.str "/claim/cut.py" d]
abbrev cG(x:Str)(a b c:Tok)(l n:Int)(r r1:Addr)(v1 v2:Value)(r2:Addr)(i:Int)(d:Tok):Obj:=cF x x a b c l n r r1 v1 v2 r2 i d
abbrev fF(s:Stmt)(x:Str)(m:Value)(r:Addr):Obj:=fO s x x m (.ref r)
abbrev mO0:Value:=Value.str "askviews.terms" 187
abbrev mO1:Value:=Value.str "askviews.maps" 217
abbrev mO2:Value:=Value.str "askviews.questions" 330
abbrev mO3:Value:=Value.str "askviews.tables" 351
abbrev mO4:Value:=Value.str "askviews.within" 381
abbrev mO5:Value:=Value.str "law_askviews_k33_same_or_unlike" 408
noncomputable def KF(P:Params):Frag:=
 (nat_lit 2,{.none,none,.dict #[] 0,#[]})::
 (nat_lit 3,{(.type "dict"),none,.dict #[kO P "__name__" 165 (.str "law_askviews_k33_same_or_unlike" 408),kO P "__doc__" 166 .none,kO P "__package__" 167 .none,kO P "__loader__" 168 (.builtin "__main__.__loader__#opaque"),kO P "__spec__" 169 .none,kO P "__annotations__" 170 (.ref 6),kO P "__builtins__" 171 (.ref 4),kO P "__file__" 173 (.str "/claim/cut.py" 172),kO P "__cached__" 174 .none,kO P "SIGNS" 190 (.str "abcdefghijklmnopqrstuvwxyz0123456789" 189),kO P "MOST_SIGNS" 192 (.int 08 191),kO P "is_value" 198 (.ref 19),kO P "is_unknown" 205 (.ref 26),kO P "new_values" 216 (.ref 33),kO P "image" 224 (.ref 38),kO P "found_map" 233 (.ref 45),kO P "fitted" 246 (.ref 52),kO P "MapSearch" 310 (.ref 93),kO P "parts_of" 323 (.ref 104),kO P "is_touched" 329 (.ref 109),kO P "unknowns_of" 341 (.ref 116),kO P "terms_of" 350 (.ref 123),kO P "rows_of" 360 (.ref 130),kO P "tables_of" 370 (.ref 137),kO P "sorted_tables" 380 (.ref 144),kO P "within" 391 (.ref 151),kO P "same" 401 (.ref 158),kO P "parted" 407 (.ref 163),kO P "_law_feed" 417 (.ref 170),kO P "_law_draw" 427 (.ref 177),kO P "_law_words" 433 (.ref 182),kO P "_law_atom" 448 (.ref 189),kO P "_law_head" 454 (.ref 194),kO P "_law_question" 460 (.ref 199),kO P "_law_led" 466 (.ref 204),kO P "_law_unknowns" 472 (.ref 209),kO P "_law_kept" 478 (.ref 214),kO P "_law_grown" 492 (.ref 221),kO P "_law_led_question" 498 (.ref 226),kO P "_law_bent" 514 (.ref 233),kO P "_law_pair" 520 (.ref 238),kO P "_law_is_map" 526 (.ref 243),kO P "_law_is_word" 532 (.ref 248),kO P "_law_is_row" 538 (.ref 253),kO P "_law_are_tables" 544 (.ref 258),kO P "_law_bound" 556 (.ref 265),kO P "_law_filled" 562 (.ref 270),kO P "_law_answers" 572 (.ref 277),kO P "_law_right" 581 (.ref 284),kO P "_law_terms" 590 (.ref 291),kO P "_law_new_values" 596 (.ref 296),kO P "_law_called" 609 (.ref 303),kO P "_law_asked_again" 624 (.ref 310),kO P "law" 640 (.ref 317)] 54,#[]})::
 (nat_lit 15,tO [])::
 (nat_lit 18,cG "is_value" 193 194 195 4 1 15 16 .none .none 17 196 197)::
 (nat_lit 19,fF (top 3) "is_value" mO0 18)::
 (nat_lit 20,tO [])::
 (nat_lit 22,tO [(.str "thing" 202)])::
 (nat_lit 23,tO [])::
 (nat_lit 25,cG "is_unknown" 199 200 201 08 1 20 21 (.ref 22) (.ref 23) 24 203 204)::
 (nat_lit 26,fF (top 4) "is_unknown" mO0 25)::
 (nat_lit 27,tO [])::
 (nat_lit 29,tO [(.str "count" 209),(.str "taken" 210),(.str "found" 211),(.str "number" 212),(.str "value" 213)])::
 (nat_lit 30,tO [])::
 (nat_lit 32,cG "new_values" 206 207 208 10 2 27 28 (.ref 29) (.ref 30) 31 214 215)::
 (nat_lit 33,fF (top 5) "new_values" mO0 32)::
 (nat_lit 34,tO [])::
 (nat_lit 37,cG "image" 219 220 221 20 2 34 35 .none .none 36 222 223)::
 (nat_lit 38,fF (top 07) "image" mO1 37)::
 (nat_lit 39,tO [])::
 (nat_lit 41,tO [(.str "one" 228),(.str "other" 229),(.str "given" 230)])::
 (nat_lit 42,tO [])::
 (nat_lit 44,cG "found_map" 225 226 227 22 2 39 40 (.ref 41) (.ref 42) 43 231 232)::
 (nat_lit 45,fF (top 08) "found_map" mO1 44)::
 (nat_lit 46,tO [])::
 (nat_lit 48,tO [(.str "given" 237),(.str "terms" 238),(.str "aim" 239),(.str "longer" 240),(.str "term" 241),(.str "aimed" 242),(.str "meant" 243)])::
 (nat_lit 49,tO [])::
 (nat_lit 51,cG "fitted" 234 235 236 27 3 46 47 (.ref 48) (.ref 49) 50 244 245)::
 (nat_lit 52,fF (top 09) "fitted" mO1 51)::
 (nat_lit 60,tO [])::
 (nat_lit 62,tO [(.str "self" 262),(.str "atoms" 263)])::
 (nat_lit 63,tO [])::
 (nat_lit 65,cF "__init__" "MapSearch.__init__" 259 260 261 38 2 60 61 (.ref 62) (.ref 63) 64 264 265)::
 (nat_lit 66,fO (inClass (top 10) 0) "__init__" "MapSearch.__init__" mO1 (.ref 65))::
 (nat_lit 67,tO [])::
 (nat_lit 69,tO [(.str "self" 270),(.str "atoms" 271),(.str "name" 272),(.str "terms" 273),(.str "place" 274),(.str "term" 275)])::
 (nat_lit 70,tO [])::
 (nat_lit 72,cF "add" "MapSearch.add" 267 268 269 43 2 67 68 (.ref 69) (.ref 70) 71 276 277)::
 (nat_lit 73,fO (inClass (top 10) 1) "add" "MapSearch.add" mO1 (.ref 72))::
 (nat_lit 74,tO [])::
 (nat_lit 76,tO [(.str "self" 282),(.str "atoms" 283),(.str "given" 284),(.str "part" 285)])::
 (nat_lit 77,tO [])::
 (nat_lit 79,cF "mapped" "MapSearch.mapped" 279 280 281 50 3 74 75 (.ref 76) (.ref 77) 78 286 287)::
 (nat_lit 80,fO (inClass (top 10) 2) "mapped" "MapSearch.mapped" mO1 (.ref 79))::
 (nat_lit 81,tO [])::
 (nat_lit 84,cF "mapped_part" "MapSearch.mapped_part" 289 290 291 57 3 81 82 .none .none 83 292 293)::
 (nat_lit 85,fO (inClass (top 10) 3) "mapped_part" "MapSearch.mapped_part" mO1 (.ref 84))::
 (nat_lit 86,tO [])::
 (nat_lit 89,cF "aims_of" "MapSearch.aims_of" 295 296 297 72 3 86 87 .none .none 88 298 299)::
 (nat_lit 90,fO (inClass (top 10) 4) "aims_of" "MapSearch.aims_of" mO1 (.ref 89))::
 (nat_lit 91,tO [(.str "aims" 301),(.str "vain" 302)])::
 (nat_lit 92,{(.type "dict"),none,.dict #[kO P "__module__" 254 (.str "askviews.maps" 217),kO P "__firstlineno__" 258 (.int 36 257),kO P "__init__" 266 (.ref 66),kO P "add" 278 (.ref 73),kO P "mapped" 288 (.ref 80),kO P "mapped_part" 294 (.ref 85),kO P "aims_of" 300 (.ref 90),kO P "__static_attributes__" 303 (.ref 91),kO P "__dict__" 305 (.ref 94),kO P "__weakref__" 307 (.ref 95),kO P "__doc__" 308 .none] 4,#[]})::
 (nat_lit 93,{(.type "type"),none,.cls {"MapSearch",[(.type "object")],[(.ref 93),(.type "object")],92,"MapSearch",true,[],[],false,none,false},#[none,none,some (.str "MapSearch" 247),some (.str "MapSearch" 255),some (.builtin "object.__new__"),some (.bool true)]})::
 (nat_lit 94,{(.type "getset_descriptor"),none,.fields #[(.str "__dict__" 304),(.ref 93),(.builtin "function.__dict__"),(.builtin "function.__dict__#set")],#[]})::
 (nat_lit 95,{(.type "getset_descriptor"),none,.fields #[(.str "__weakref__" 306),(.ref 93),(.builtin "ExceptionGroup.__weakref__"),.none],#[]})::
 (nat_lit 98,tO [])::
 (nat_lit 100,tO [(.str "atoms" 314),(.str "given" 315),(.str "parts" 316),(.str "atom" 317),(.str "part" 318),(.str "beside" 319),(.str "earlier" 320)])::
 (nat_lit 101,tO [])::
 (nat_lit 103,cG "parts_of" 311 312 313 81 2 98 99 (.ref 100) (.ref 101) 102 321 322)::
 (nat_lit 104,fF (top 11) "parts_of" mO1 103)::
 (nat_lit 105,tO [])::
 (nat_lit 108,cG "is_touched" 324 325 326 93 3 105 106 .none .none 107 327 328)::
 (nat_lit 109,fF (top 12) "is_touched" mO1 108)::
 (nat_lit 110,tO [])::
 (nat_lit 112,tO [(.str "question" 335),(.str "found" 336),(.str "atom" 337),(.str "term" 338)])::
 (nat_lit 113,tO [])::
 (nat_lit 115,cG "unknowns_of" 332 333 334 97 1 110 111 (.ref 112) (.ref 113) 114 339 340)::
 (nat_lit 116,fF (top 14) "unknowns_of" mO2 115)::
 (nat_lit 117,tO [])::
 (nat_lit 119,tO [(.str "question" 345),(.str "found" 346),(.str "atom" 347)])::
 (nat_lit 120,tO [])::
 (nat_lit 122,cG "terms_of" 342 343 344 104 1 117 118 (.ref 119) (.ref 120) 121 348 349)::
 (nat_lit 123,fF (top 15) "terms_of" mO2 122)::
 (nat_lit 124,tO [])::
 (nat_lit 126,tO [(.str "tables" 356),(.str "name" 357)])::
 (nat_lit 127,tO [])::
 (nat_lit 129,cG "rows_of" 353 354 355 110 2 124 125 (.ref 126) (.ref 127) 128 358 359)::
 (nat_lit 130,fF (top 17) "rows_of" mO3 129)::
 (nat_lit 131,tO [])::
 (nat_lit 133,tO [(.str "atoms" 364),(.str "tables" 365),(.str "name" 366),(.str "row" 367)])::
 (nat_lit 134,tO [])::
 (nat_lit 136,cG "tables_of" 361 362 363 112 1 131 132 (.ref 133) (.ref 134) 135 368 369)::
 (nat_lit 137,fF (top 18) "tables_of" mO3 136)::
 (nat_lit 138,tO [])::
 (nat_lit 140,tO [(.str "tables" 374),(.str "told" 375),(.str "name" 376),(.str "rows" 377)])::
 (nat_lit 141,tO [])::
 (nat_lit 143,cG "sorted_tables" 371 372 373 117 1 138 139 (.ref 140) (.ref 141) 142 378 379)::
 (nat_lit 144,fF (top 19) "sorted_tables" mO3 143)::
 (nat_lit 145,tO [])::
 (nat_lit 147,tO [(.str "one" 386),(.str "other" 387),(.str "given" 388)])::
 (nat_lit 148,tO [])::
 (nat_lit 150,cG "within" 383 384 385 125 2 145 146 (.ref 147) (.ref 148) 149 389 390)::
 (nat_lit 151,fF (top 21) "within" mO4 150)::
 (nat_lit 152,tO [])::
 (nat_lit 154,tO [(.str "one" 395),(.str "other" 396),(.str "there" 397),(.str "back" 398)])::
 (nat_lit 155,tO [])::
 (nat_lit 157,cG "same" 392 393 394 130 2 152 153 (.ref 154) (.ref 155) 156 399 400)::
 (nat_lit 158,fF (top 22) "same" mO4 157)::
 (nat_lit 159,tO [])::
 (nat_lit 162,cG "parted" 402 403 404 138 2 159 160 .none .none 161 405 406)::
 (nat_lit 163,fF (top 23) "parted" mO4 162)::
 (nat_lit 164,tO [])::
 (nat_lit 166,tO [(.str "_law_script" 413),(.str "_law_k" 414)])::
 (nat_lit 167,tO [])::
 (nat_lit 169,cG "_law_feed" 410 411 412 145 2 164 165 (.ref 166) (.ref 167) 168 415 416)::
 (nat_lit 170,fF (top 25) "_law_feed" mO5 169)::
 (nat_lit 171,tO [])::
 (nat_lit 173,tO [(.str "_law_feed_here" 421),(.str "_law_many" 422),(.str "_law_digit" 423),(.str "_law_seed" 424)])::
 (nat_lit 174,tO [])::
 (nat_lit 176,cG "_law_draw" 418 419 420 149 2 171 172 (.ref 173) (.ref 174) 175 425 426)::
 (nat_lit 177,fF (top 26) "_law_draw" mO5 176)::
 (nat_lit 178,tO [])::
 (nat_lit 181,cG "_law_words" 428 429 430 158 2 178 179 .none .none 180 431 432)::
 (nat_lit 182,fF (top 27) "_law_words" mO5 181)::
 (nat_lit 183,tO [])::
 (nat_lit 185,tO [(.str "_law_feed_here" 437),(.str "_law_names" 438),(.str "_law_unknowns_here" 439),(.str "_law_values" 440),(.str "_law_at" 441),(.str "_law_long" 442),(.str "_law_terms_here" 443),(.str "_law_k" 444),(.str "_law_term" 445)])::
 (nat_lit 186,tO [])::
 (nat_lit 188,cG "_law_atom" 434 435 436 163 4 183 184 (.ref 185) (.ref 186) 187 446 447)::
 (nat_lit 189,fF (top 28) "_law_atom" mO5 188)::
 (nat_lit 190,tO [])::
 (nat_lit 193,cG "_law_head" 449 450 451 175 2 190 191 .none .none 192 452 453)::
 (nat_lit 194,fF (top 29) "_law_head" mO5 193)::
 (nat_lit 195,tO [])::
 (nat_lit 198,cG "_law_question" 455 456 457 180 3 195 196 .none .none 197 458 459)::
 (nat_lit 199,fF (top 30) "_law_question" mO5 198)::
 (nat_lit 200,tO [])::
 (nat_lit 203,cG "_law_led" 461 462 463 188 2 200 201 .none .none 202 464 465)::
 (nat_lit 204,fF (top 31) "_law_led" mO5 203)::
 (nat_lit 205,tO [])::
 (nat_lit 208,cG "_law_unknowns" 467 468 469 190 1 205 206 .none .none 207 470 471)::
 (nat_lit 209,fF (top 32) "_law_unknowns" mO5 208)::
 (nat_lit 210,tO [])::
 (nat_lit 213,cG "_law_kept" 473 474 475 195 2 210 211 .none .none 212 476 477)::
 (nat_lit 214,fF (top 33) "_law_kept" mO5 213)::
 (nat_lit 215,tO [])::
 (nat_lit 217,tO [(.str "_law_feed_here" 482),(.str "_law_question_here" 483),(.str "_law_names" 484),(.str "_law_unknowns_here" 485),(.str "_law_more" 486),(.str "_law_atoms" 487),(.str "_law_atom_here" 488),(.str "_law_k" 489)])::
 (nat_lit 218,tO [])::
 (nat_lit 220,cG "_law_grown" 479 480 481 200 5 215 216 (.ref 217) (.ref 218) 219 490 491)::
 (nat_lit 221,fF (top 34) "_law_grown" mO5 220)::
 (nat_lit 222,tO [])::
 (nat_lit 225,cG "_law_led_question" 493 494 495 211 2 222 223 .none .none 224 496 497)::
 (nat_lit 226,fF (top 35) "_law_led_question" mO5 225)::
 (nat_lit 227,tO [])::
 (nat_lit 229,tO [(.str "_law_feed_here" 502),(.str "_law_question_here" 503),(.str "_law_names" 504),(.str "_law_unknowns_here" 505),(.str "_law_atoms" 506),(.str "_law_at" 507),(.str "_law_name" 508),(.str "_law_terms_here" 509),(.str "_law_spot" 510),(.str "_law_term" 511)])::
 (nat_lit 230,tO [])::
 (nat_lit 232,cG "_law_bent" 499 500 501 213 4 227 228 (.ref 229) (.ref 230) 231 512 513)::
 (nat_lit 233,fF (top 36) "_law_bent" mO5 232)::
 (nat_lit 234,tO [])::
 (nat_lit 237,cG "_law_pair" 515 516 517 224 2 234 235 .none .none 236 518 519)::
 (nat_lit 238,fF (top 37) "_law_pair" mO5 237)::
 (nat_lit 239,tO [])::
 (nat_lit 242,cG "_law_is_map" 521 522 523 240 3 239 240 .none .none 241 524 525)::
 (nat_lit 243,fF (top 38) "_law_is_map" mO5 242)::
 (nat_lit 244,tO [])::
 (nat_lit 247,cG "_law_is_word" 527 528 529 252 1 244 245 .none .none 246 530 531)::
 (nat_lit 248,fF (top 39) "_law_is_word" mO5 247)::
 (nat_lit 249,tO [])::
 (nat_lit 252,cG "_law_is_row" 533 534 535 256 1 249 250 .none .none 251 536 537)::
 (nat_lit 253,fF (top 40) "_law_is_row" mO5 252)::
 (nat_lit 254,tO [])::
 (nat_lit 257,cG "_law_are_tables" 539 540 541 258 1 254 255 .none .none 256 542 543)::
 (nat_lit 258,fF (top 41) "_law_are_tables" mO5 257)::
 (nat_lit 259,tO [])::
 (nat_lit 261,tO [(.str "_law_terms_here" 548),(.str "_law_row" 549),(.str "_law_given" 550),(.str "_law_more" 551),(.str "_law_term" 552),(.str "_law_value" 553)])::
 (nat_lit 262,tO [])::
 (nat_lit 264,cG "_law_bound" 545 546 547 268 3 259 260 (.ref 261) (.ref 262) 263 554 555)::
 (nat_lit 265,fF (top 42) "_law_bound" mO5 264)::
 (nat_lit 266,tO [])::
 (nat_lit 269,cG "_law_filled" 557 558 559 280 3 266 267 .none .none 268 560 561)::
 (nat_lit 270,fF (top 43) "_law_filled" mO5 269)::
 (nat_lit 271,tO [])::
 (nat_lit 273,tO [(.str "_law_question_here" 566),(.str "_law_tables" 567),(.str "_law_row" 568),(.str "_law_given" 569)])::
 (nat_lit 274,tO [])::
 (nat_lit 276,cG "_law_answers" 563 564 565 293 3 271 272 (.ref 273) (.ref 274) 275 570 571)::
 (nat_lit 277,fF (top 44) "_law_answers" mO5 276)::
 (nat_lit 278,tO [])::
 (nat_lit 280,tO [(.str "_law_found" 576),(.str "_law_one" 577),(.str "_law_other" 578)])::
 (nat_lit 281,tO [])::
 (nat_lit 283,cG "_law_right" 573 574 575 296 3 278 279 (.ref 280) (.ref 281) 282 579 580)::
 (nat_lit 284,fF (top 45) "_law_right" mO5 283)::
 (nat_lit 285,tO [])::
 (nat_lit 287,tO [(.str "_law_question_here" 585),(.str "_law_terms_here" 586),(.str "_law_atom_here" 587)])::
 (nat_lit 288,tO [])::
 (nat_lit 290,cG "_law_terms" 582 583 584 304 1 285 286 (.ref 287) (.ref 288) 289 588 589)::
 (nat_lit 291,fF (top 46) "_law_terms" mO5 290)::
 (nat_lit 292,tO [])::
 (nat_lit 295,cG "_law_new_values" 591 592 593 309 2 292 293 .none .none 294 594 595)::
 (nat_lit 296,fF (top 47) "_law_new_values" mO5 295)::
 (nat_lit 297,tO [])::
 (nat_lit 299,tO [(.str "_law_feed_here" 600),(.str "_law_question_here" 601),(.str "_law_value" 602),(.str "_law_terms_here" 603),(.str "_law_old" 604),(.str "_law_new" 605),(.str "_law_made" 606)])::
 (nat_lit 300,tO [])::
 (nat_lit 302,cG "_law_called" 597 598 599 318 3 297 298 (.ref 299) (.ref 300) 301 607 608)::
 (nat_lit 303,fF (top 48) "_law_called" mO5 302)::
 (nat_lit 304,tO [])::
 (nat_lit 306,tO [(.str "_law_feed_here" 613),(.str "_law_found" 614),(.str "_law_one" 615),(.str "_law_other" 616),(.str "_law_some" 617),(.str "_law_value" 618),(.str "_law_first" 619),(.str "_law_second" 620),(.str "_law_pair_here" 621)])::
 (nat_lit 307,tO [])::
 (nat_lit 309,cG "_law_asked_again" 610 611 612 324 4 304 305 (.ref 306) (.ref 307) 308 622 623)::
 (nat_lit 310,fF (top 49) "_law_asked_again" mO5 309)::
 (nat_lit 311,tO [])::
 (nat_lit 313,tO [(.str "_law_script" 628),(.str "_law_j" 629),(.str "_law_feed_here" 630),(.str "_law_one" 631),(.str "_law_other" 632),(.str "_law_alike" 633),(.str "_law_first" 634),(.str "_law_second" 635),(.str "_law_found" 636),(.str "_law_kept_here" 637)])::
 (nat_lit 314,tO [])::
 (nat_lit 316,cG "law" 625 626 627 335 1 311 312 (.ref 313) (.ref 314) 315 638 639)::
 (nat_lit 317,fF (top 50) "law" mO5 316)::[]
noncomputable def asF:Aai:=[2,3,15,18,19,20,22,23,25,26,27,29,30,32,33,34,37,38,39,41,42,44,45,46,48,49,51,52,60,62,63,65,66,67,69,70,72,73,74,76,77,79,80,81,84,85,86,89,90,91,92,93,94,95,98,100,101,103,104,105,108,109,110,112,113,115,116,117,119,120,122,123,124,126,127,129,130,131,133,134,136,137,138,140,141,143,144,145,147,148,150,151,152,154,155,157,158,159,162,163,164,166,167,169,170,171,173,174,176,177,178,181,182,183,185,186,188,189,190,193,194,195,198,199,200,203,204,205,208,209,210,213,214,215,217,218,220,221,222,225,226,227,229,230,232,233,234,237,238,239,242,243,244,247,248,249,252,253,254,257,258,259,261,262,264,265,266,269,270,271,273,274,276,277,278,280,281,283,284,285,287,288,290,291,292,295,296,297,299,300,302,303,304,306,307,309,310,311,313,314,316,317]
def HF:PySem.W.Hook:=PySem.W.kHook KF asF λ_=>by kernel_rfl
noncomputable def qf(p:Program):Program:={p with main:={p.main with body:=[1,2,3,4,5,07,08,09,10,11,12,14,15,17,18,19,21,22,23,25,26,27,28,29,30,31,32,33,34,35,36,37,38,39,40,41,42,43,44,45,46,47,48,49,50].filterMap λi=>p.main.body[i]?}}
abbrev XF(p:Program)(s:Shared):Bool:=PySem.W.xlAt (qf p) [] s&&PySem.W.recOk [] s
abbrev LF(p:Program):Prop:=PySem.W.LeftO p (qf p) [] (XF p) (PySem.W.Hook.obs HF) (PySem.W.Hook.val HF) 3492
abbrev pL:Program:=PySem.Challenge.pw_askviews_k33_same_or_unlike
def okL:Hd.Ok pL 1684:={λw os=>by kernel_rfl,λw os=>by kernel_rfl,λw os=>by kernel_rfl,λw os=>by kernel_rfl}
def l1L(w:World)(os:OsState):(PySem.W.staticsOk (importedModules pL.main.body) (PySem.W.boot_heap w.params) (Hd.fin pL 1684 w os).heap&&PySem.W.namesBound pL (Hd.fin pL 1684 w os).heap&&PySem.W.gensDone (Hd.fin pL 1684 w os)&&PySem.W.laidKept (PySem.W.boot_heap w.params) (Hd.fin pL 1684 w os).heap)=true:=by kernel_rfl
def l2L(w:World)(os:OsState):PySem.W.Fast.tw4187177175401517315 (qf pL) [] (importedModules pL.main.body) (XF pL) true (Hd.fin pL 1684 w os)=PySem.W.openGood (qf pL) []:=by kernel_rfl
def l3L(w:World)(os:OsState):asF.map (Hd.fin pL 1684 w os).heap.get?=(KF w.params).map λp=>some p.2:=by kernel_rfl
def headL:LF pL:=Hd.left (n:=1684) okL (by kernel_rfl) (by kernel_rfl) (by kernel_rfl) (λs=>by kernel_rfl) l1L (λw os=>by rw[PySem.W.Fast.te4187177175401517315];exact l2L w os) l3L
def head:LF PySem.Challenge.pw_askviews_k33_same_or_unlike:=headL
def acv{K:Frag}(hO:RN H)(h:bf K H a xs):JK K H a xs:=by
 rcases h with(h|h)|h
 ·rcases hO a with e|⟨o,ys,e⟩
  ·rw[e]at h;cases h
  ·rw[e]at h;cases h
 ·exact .inl h
 ·exact .inr h
def FN(K:Frag)(x:Str)(st:Stmt):Prop:=∃f fd,nsIn K mainGlobals x=some (some 695)/\dG K x x st f fd
def afc{K:Frag}{x:Str}{st:Stmt}{f:Addr}{oc:Value}{od an:Aaj}{AW:Aae}{kV doc pm cT ct:Value}(a:nsIn K mainGlobals x=some (some 695))(l:K.lookup f=some {oc,od,.func (fnOf x x (defArgs st) (defBody st) (defScope st) .none kV doc pm an cT ct),AW})(c:codeIn K cT x=true)(k:keepIn K 695=true):FN K x st:={f,_,a,UT l c k}
section
variable{K:Frag}{h base:Heap}{x q p p2 r s s5:Str}{st:Stmt}{mg:Aac}{f C:Addr}{fd:FuncData}{P:Program}{w:World}{k:Nat}{sp:Sp}{ps:Aag}
def Nb(b:FN K x st)(hb:∀f fd,dG K x x st f fd->Binds K fd ps [])(X:K.In h)(G:h.Ns mainGlobals mg)(ok:∀f fd,dG K x x st f fd->cK P w K mg base dY k f fd ps sp):cn P w K mg base k x ps sp:=
 have⟨f,fd,a,F⟩:=b
 {f,fd,ok f fd F,m9 X G a,F.kp,hb f fd F}
abbrev Bd1(x q:Str)(st:Stmt)(p:Str):Prop:=(λ(a kV doc pm cT ct:Value)(an:Aaj)=>bindArgs 647 {[a],[]})=λa _ _ _ _ _ _=>pure [(p,a)]
def bd1(F:dG K x q st f fd)(h:Bd1 x q st p):Binds K fd [p] []:=F.binds λk1 k2 k3 k4 k5 k6 us hl=>by rcases us with _|⟨a,_|⟨e,us⟩⟩<;>first|exact cj (cj (cj (cj (cj (cj (cj h a) k1) k2) k3) k5) k6) k4|cases hl
def d1(P:Program)(w:World)(base:Heap)(X:K.In h)(G:h.Ns mainGlobals mg)(b:FN K x st)(ok:∀f fd,dG K x x st f fd->cK P w K mg base dY k f fd [p] sp)(h:Bd1 x x st p:=by rfl):cn P w K mg base k x [p] sp:=Nb b (λ_ _ F=>bd1 F h) X G ok
abbrev Bd2(x q:Str)(st:Stmt)(p p2:Str):Prop:=(λ(a b kV doc pm cT ct:Value)(an:Aaj)=>bindArgs 647 {[a,b],[]})=λa b _ _ _ _ _ _=>pure [(p,a),(p2,b)]
def bd2(F:dG K x q st f fd)(h:Bd2 x q st p p2):Binds K fd [p,p2] []:=F.binds λk1 k2 k3 k4 k5 k6 us hl=>by rcases us with _|⟨a,_|⟨b,_|⟨e,us⟩⟩⟩<;>first|exact cj (cj (cj (cj (cj (cj (cj (cj h a) b) k1) k2) k3) k5) k6) k4|cases hl
def d2(P:Program)(w:World)(base:Heap)(X:K.In h)(G:h.Ns mainGlobals mg)(b:FN K x st)(ok:∀f fd,dG K x x st f fd->cK P w K mg base dY k f fd [p,p2] sp)(h:Bd2 x x st p p2:=by rfl):cn P w K mg base k x [p,p2] sp:=Nb b (λ_ _ F=>bd2 F h) X G ok
abbrev Bd3(x q:Str)(st:Stmt)(p p2 r:Str):Prop:=(λ(a b c kV doc pm cT ct:Value)(an:Aaj)=>bindArgs 647 {[a,b,c],[]})=λa b c _ _ _ _ _ _=>pure [(p,a),(p2,b),(r,c)]
def Vq(F:dG K x q st f fd)(h:Bd3 x q st p p2 r):Binds K fd [p,p2,r] []:=F.binds λk1 k2 k3 k4 k5 k6 us hl=>by rcases us with _|⟨a,_|⟨b,_|⟨c,_|⟨e,us⟩⟩⟩⟩<;>first|exact cj (cj (cj (cj (cj (cj (cj (cj (cj h a) b) c) k1) k2) k3) k5) k6) k4|cases hl
def d3(P:Program)(w:World)(base:Heap)(X:K.In h)(G:h.Ns mainGlobals mg)(b:FN K x st)(ok:∀f fd,dG K x x st f fd->cK P w K mg base dY k f fd [p,p2,r] sp)(h:Bd3 x x st p p2 r:=by rfl):cn P w K mg base k x [p,p2,r] sp:=Nb b (λ_ _ F=>Vq F h) X G ok
abbrev Bd4(x q:Str)(st:Stmt)(p p2 r s:Str):Prop:=(λ(a b c d kV doc pm cT ct:Value)(an:Aaj)=>bindArgs 647 {[a,b,c,d],[]})=λa b c d _ _ _ _ _ _=>pure [(p,a),(p2,b),(r,c),(s,d)]
def bd4(F:dG K x q st f fd)(h:Bd4 x q st p p2 r s):Binds K fd [p,p2,r,s] []:=F.binds λk1 k2 k3 k4 k5 k6 us hl=>by rcases us with _|⟨a,_|⟨b,_|⟨c,_|⟨d,_|⟨e,us⟩⟩⟩⟩⟩<;>first|exact cj (cj (cj (cj (cj (cj (cj (cj (cj (cj h a) b) c) d) k1) k2) k3) k5) k6) k4|cases hl
def d4(P:Program)(w:World)(base:Heap)(X:K.In h)(G:h.Ns mainGlobals mg)(b:FN K x st)(ok:∀f fd,dG K x x st f fd->cK P w K mg base dY k f fd [p,p2,r,s] sp)(h:Bd4 x x st p p2 r s:=by rfl):cn P w K mg base k x [p,p2,r,s] sp:=Nb b (λ_ _ F=>bd4 F h) X G ok
abbrev Bd5(x q:Str)(st:Stmt)(p p2 r s s5:Str):Prop:=(λ(a b c d g kV doc pm cT ct:Value)(an:Aaj)=>bindArgs 647 {[a,b,c,d,g],[]})=λa b c d g _ _ _ _ _ _=>pure [(p,a),(p2,b),(r,c),(s,d),(s5,g)]
def bd5(F:dG K x q st f fd)(h:Bd5 x q st p p2 r s s5):Binds K fd [p,p2,r,s,s5] []:=F.binds λk1 k2 k3 k4 k5 k6 us hl=>by rcases us with _|⟨a,_|⟨b,_|⟨c,_|⟨d,_|⟨g,_|⟨e,us⟩⟩⟩⟩⟩⟩<;>first|exact cj (cj (cj (cj (cj (cj (cj (cj (cj (cj (cj h a) b) c) d) g) k1) k2) k3) k5) k6) k4|cases hl
def d5(P:Program)(w:World)(base:Heap)(X:K.In h)(G:h.Ns mainGlobals mg)(b:FN K x st)(ok:∀f fd,dG K x x st f fd->cK P w K mg base dY k f fd [p,p2,r,s,s5] sp)(h:Bd5 x x st p p2 r s s5:=by rfl):cn P w K mg base k x [p,p2,r,s,s5] sp:=Nb b (λ_ _ F=>bd5 F h) X G ok
def MN(K:Frag)(C:Addr)(x q:Str)(st:Stmt):Prop:=∃f fd,findIn K (.ref C) x=some (some 695)/\isFn K 695=true/\dG K x q st f fd
def aeR{K:Frag}{x q:Str}{st:Stmt}{f C:Addr}{oc:Value}{od an:Aaj}{AW:Aae}{kV doc pm cT ct:Value}(a:findIn K (.ref C) x=some (some 695))(i:isFn K 695=true)(l:K.lookup f=some {oc,od,.func 647,AW})(c:codeIn K cT q=true)(k:keepIn K 695=true):MN K C x q st:={f,_,a,i,UT l c k}
def m2(P:Program)(w:World)(base:Heap)(mg:Aac)(b:MN K C x q st)(ok:∀f fd,dG K x q st f fd->cK P w K mg base dY k f fd [p,p2] sp)(h:Bd2 x q st p p2:=by rfl):rK P w K mg base C k x [p,p2] sp:=
 have⟨f,fd,a,i,F⟩:=b
 {f,fd,ok f fd F,{a,i,F.kp},bd2 F h}
def m3(P:Program)(w:World)(base:Heap)(mg:Aac)(b:MN K C x q st)(ok:∀f fd,dG K x q st f fd->cK P w K mg base dY k f fd [p,p2,r] sp)(h:Bd3 x q st p p2 r:=by rfl):rK P w K mg base C k x [p,p2,r] sp:=
 have⟨f,fd,a,i,F⟩:=b
 {f,fd,ok f fd F,{a,i,F.kp},Vq F h}
end
def all_mk{l:PySem.W.OpenLaw}{w:World}{K:Frag}{h:Heap}{mg:Aac}{fa C0:Addr}{t0 t1:Tok}(X:K.In h)(G:h.Ns mainGlobals mg)(hfa:mg "law"=some (.ref fa))
  (Au:FN K "is_value" zR)
  (wt:FN K "is_unknown" vM)
  (wj:FN K "new_values" vI)
  (Ia:FN K "image" G9)
  (yk:FN K "found_map" xU)
  (Fh:FN K "fitted" EI)
  (Am:FN K "parts_of" zM)
  (wu:FN K "is_touched" vN)
  (uB:FN K "unknowns_of" uw)
  (Al:FN K "terms_of" zL)
  (Cz:FN K "rows_of" By)
  (yg:FN K "tables_of" xQ)
  (rq:FN K "sorted_tables" qN)
  (E7:FN K "within" EA)
  (Np:FN K "same" s_same)
  (E8:FN K "parted" EB)
  (Fc:FN K "_law_feed" EE)
  (Fd:FN K "_law_draw" EF)
  (CA:FN K "_law_words" Bz)
  (Fg:FN K "_law_atom" EH)
  (Fb:FN K "_law_head" ED)
  (wq:FN K "_law_question" vL)
  (HZ:FN K "_law_led" G8)
  (wo:FN K "_law_unknowns" vK)
  (Ao:FN K "_law_kept" zN)
  (CD:FN K "_law_grown" BC)
  (qh:FN K "_law_led_question" pY)
  (Fe:FN K "_law_bent" EG)
  (E9:FN K "_law_pair" EC)
  (Aq:FN K "_law_is_map" zP)
  (yi:FN K "_law_is_word" xS)
  (Ap:FN K "_law_is_row" zO)
  (sW:FN K "_law_are_tables" sF)
  (CF:FN K "_law_bound" BD)
  (Ar:FN K "_law_filled" u7)
  (yj:FN K "_law_answers" xT)
  (CC:FN K "_law_right" BB)
  (CB:FN K "_law_terms" BA)
  (sV:FN K "_law_new_values" sE)
  (As:FN K "_law_called" zQ)
  (rB:FN K "_law_asked_again" qO)
  (RH:FN K "law" Ql)
  (cA0:nsIn K mainGlobals "MapSearch"=some (some (.ref C0)))
  (XO:plainGet K C0 Str.empty=true)
  (XW:hasDictIn K C0=true)
  (XN:PySem.W.plainOver K C0=true)
  (XM:findIn K (.ref C0) "__setattr__"=some (some (.builtin "object.__setattr__")))
  (XT:PySem.W.makesIn K C0=true)
  (XU:keepIn K (.ref C0)=true)
  (HU:findIn K (.ref C0) "aims"=some none)
  (HS:findIn K (.ref C0) "vain"=some none)
  (wm:MN K C0 "__init__" "MapSearch.__init__" vJ)
  (HY:MN K C0 "add" "MapSearch.add" G7)
  (An:MN K C0 "mapped" "MapSearch.mapped" u6)
  (rA:MN K C0 "mapped_part" "MapSearch.mapped_part" nv)
  (yh:MN K C0 "aims_of" "MapSearch.aims_of" xR)
  (z0:nsIn K mainGlobals "len"=some none)
  (z1:nsIn K mainGlobals "range"=some none)
  (z2:nsIn K mainGlobals "tuple"=some none)
  (z3:nsIn K mainGlobals "list"=some none)
  (z4:nsIn K mainGlobals "isinstance"=some none)
  (z5:nsIn K mainGlobals "all"=some none)
  (z6:nsIn K mainGlobals "any"=some none)
  (z7:nsIn K mainGlobals "min"=some none)
  (z8:nsIn K mainGlobals "str"=some none)
  (z9:nsIn K mainGlobals "bool"=some none)
  (z10:nsIn K mainGlobals "int"=some none)
  (z11:nsIn K mainGlobals "dict"=some none)
  (z12:nsIn K mainGlobals "sorted"=some none)
  (z13:nsIn K mainGlobals "set"=some none)
  (z14:nsIn K mainGlobals "enumerate"=some none)
  (z15:nsIn K mainGlobals "zip"=some none)
  (mc0:nsIn K mainGlobals "SIGNS"=some (some (.str "abcdefghijklmnopqrstuvwxyz0123456789" t0)))
  (mc1:nsIn K mainGlobals "MOST_SIGNS"=some (some (.int 08 t1)))
  :∃fd:FuncData,(∀(s:Shared)(v:Value),BindsTo s fd {[v],[]} [("_law_script",v)])/\∀base:Heap,K.In base->base.Ns mainGlobals mg->cK l.prog w K mg base dY 29 fa fd ["_law_script"] (J5 K):=by
 obtain⟨f,fd,a,F⟩:=RH;have e:=hfa.symm.trans (m9 X G a);cases e;have T:Txt K mg:={cJ X G z0,cJ X G z1,cJ X G z2,cJ X G z3,cJ X G z4,cJ X G z5,cJ X G z6,cJ X G z7,cJ X G z8,cJ X G z9,cJ X G z10,cJ X G z11,cJ X G z12,cJ X G z13,cJ X G z14,cJ X G z15,{_,m9 X G mc0},{_,m9 X G mc1}};refine{fd,?_,λbase _ _=>?_}
 ·obtain⟨_,_,_,_,_,_,_,_,_,rfl,_,_⟩:=F.ex
  exactλs v=>.of_eq rfl
 have Gy:=d1 l.prog w base X G Au λ_ _ F=>NN F T;have lY:=d1 l.prog w base X G wt λ_ _ F=>JS F T ⟨Gy⟩;have E4:=d3 l.prog w base X G Fh λ_ _ F=>Te F T ⟨lY⟩;have Cs:=d3 l.prog w base X G wu λ_ _ F=>JT F T ⟨lY⟩;have Rz:=d2 l.prog w base X G Am λ_ _ F=>NM F T {{⟨lY⟩,E4},Cs};have O:Own K C0:={⟨XO,XW,XN,XM⟩,HU,HS};have QK:=m2 l.prog w base mg HY λ_ _ F=>acY F T O;have BU:=m3 l.prog w base mg yh λ_ _ F=>QA F T O ⟨lY⟩;obtain⟨fm,fdm,am,im,Fm⟩:=An;obtain⟨fp,fdp,ap,ip,Fp⟩:=rA;have vX:=FG Fm Fp {am,im,Fm.kp} {ap,ip,Fp.kp} (Vq Fm 9) (Vq Fp 9) T O {{{⟨lY⟩,E4},Cs},Rz,BU} 08;obtain⟨fi,fdi,ai,ii,Fi⟩:=wm;have afX:Nw l.prog w K mg base C0 3 "MapSearch" ["self","atoms"] (Qd l.prog w K C0):={_,_,⟨XT,ai,ii,XU⟩,abd Fi T O ⟨QK⟩,m9 X G cA0,bd2 Fi rfl};have N0:=d2 l.prog w base X G yk λ_ _ F=>LC F T O ⟨E4,vX,afX⟩;have JY:=d1 l.prog w base X G uB λ_ _ F=>Hl F T {⟨Gy⟩,lY};have Ry:=d1 l.prog w base X G Al λ_ _ F=>NL F T;have Na:=d2 l.prog w base X G wj λ_ _ F=>JR F T;have abO:=d2 l.prog w base X G Ia λ_ _ F=>WD F T;have Ju:=d2 l.prog w base X G Cz λ_ _ F=>Qw F T;have Gv:=d1 l.prog w base X G rq λ_ _ F=>ER F T ⟨Ju⟩;have NW:=d1 l.prog w base X G yg λ_ _ F=>Lz F T {⟨Ju⟩,Gv};have XB:=d2 l.prog w base X G E8 λ_ _ F=>Tc F T ⟨JY,Ry,Na,abO,NW⟩;have M9:=d2 l.prog w base X G E7 λ_ _ F=>Ta F T ⟨N0,XB⟩;have Ve:=d2 l.prog w base X G Np λ_ _ F=>aa9 F T ⟨M9⟩;have XG:=d2 l.prog w base X G Fc λ_ _ F=>abe F T;have mM:=d2 l.prog w base X G Fd λ_ _ F=>abf F T;have Jv:=d2 l.prog w base X G CA λ_ _ F=>Wy F T ⟨mM⟩;have Nd:=d4 l.prog w base X G Fg λ_ _ F=>WJ F T ⟨mM⟩;have XE:=d2 l.prog w base X G Fb λ_ _ F=>WE F T ⟨mM⟩;have Nc:=d3 l.prog w base X G wq λ_ _ F=>LA F T {⟨mM⟩,Jv,Nd,XE};have PM:=d2 l.prog w base X G HZ λ_ _ F=>acV F T;have Cr:=d1 l.prog w base X G wo λ_ _ F=>Ly F T;have XD:=d2 l.prog w base X G Ao λ_ _ F=>abc F T;have Vf:=d2 l.prog w base X G Ao λ_ _ F=>WB F T;have Vg:=d5 l.prog w base X G CD λ_ _ F=>WG F T ⟨mM,Nd⟩;have we:=d2 l.prog w base X G qh λ_ _ F=>abb F T ⟨PM⟩;have XH:=d4 l.prog w base X G Fe λ_ _ F=>WI F T ⟨mM,XD⟩;have XC:=d2 l.prog w base X G E9 λ_ _ F=>aba F T ⟨mM,Jv,Nc,Cr,we,Vg,XH⟩;have RA:=d3 l.prog w base X G Aq λ_ _ F=>WC F T {⟨PM⟩,Cr};have NY:=d1 l.prog w base X G yi λ_ _ F=>Qy F T;have Gw:=d1 l.prog w base X G Ap λ_ _ F=>Td F T ⟨NY⟩;have HR:=d1 l.prog w base X G sW λ_ _ F=>JU F T ⟨Gw⟩;have Jy:=d3 l.prog w base X G CF λ_ _ F=>WH F T;obtain⟨ff,fdf,af,Ff⟩:=Ar;have RB:=Gm Ff (m9 X G af) Ff.kp (Vq Ff 9) T Jy 09;have NZ:=d3 l.prog w base X G yj λ_ _ F=>Qz F T ⟨Jy,RB⟩;have Jx:=d3 l.prog w base X G CC λ_ _ F=>Wz F T ⟨RA,HR,Gw,NZ⟩;have Jw:=d1 l.prog w base X G CB λ_ _ F=>Qx F T;have HQ:=d2 l.prog w base X G sV λ_ _ F=>WA F T ⟨Jw⟩;have RC:=d3 l.prog w base X G As λ_ _ F=>Tg F T ⟨mM,Jw,we,Vf⟩;have Gx:=d4 l.prog w base X G rB λ_ _ F=>WK F T ⟨mM,HQ,RC,Ve,Jx⟩;exact acW F T ⟨XG,XC,M9,Ve,Jx,Gx⟩
def walk{l:PySem.W.OpenLaw}{K:Params->Frag}(hn:l.most=some 63)(UD:d.params.defaults=[])
  (hY:∀(w:World)(h:Heap),YP w h->(K w.params).In h)
  (F:∀(w:World)(mg:Aac)(fa:Addr)(h:Heap),(K w.params).In h->h.Ns mainGlobals mg->mg d.name=some (.ref fa)->
   ∃fd:FuncData,(∀(s:Shared)(u:Value),BindsTo s fd {[u],[]} [("_law_script",u)])/\∀base:Heap,(K w.params).In base->base.Ns mainGlobals mg->cK l.prog w (K w.params) mg base dY 29 fa fd ["_law_script"] (J5 (K w.params))):
  PySem.W.WalkO q loose XP YP l.row.toRowW d [] (λf vs=>PySem.call f vs):=
 L2.aat (n:=63) (k:=29) (x:="_law_script") (CX:=λ_=>dY) (sp:=λw=>J5 (K w.params)) hn 7 UD {9,7,7} hY F (λ_ H a ns hl hO hS=>{a,ns,9,acv hO hS,hl,λ_=>9}) λ_ _ _ _ _ z=>z
end rO
open PySem PySem.W PyProof.Rows
set_option maxHeartbeats 0 in
theorem PySem.Challenge.cw_askviews_k33_same_or_unlike_holds : PySem.Challenge.rw_askviews_k33_same_or_unlike.Holds := by
 w_on;refine holds_law (by rw[PySem.W.Fast.te9446332074065402090];kernel_rfl) λahs=>?_
 refine holds_open (q:=rO.qf PySem.Challenge.pw_askviews_k33_same_or_unlike) (loose:=[]) (Xt:=rO.XF PySem.Challenge.pw_askviews_k33_same_or_unlike) (XP:=XL (rO.qf PySem.Challenge.pw_askviews_k33_same_or_unlike) []) (Yf:=Hook.obs rO.HF) (Ya:=Hook.val rO.HF) (YP:=Hook.says rO.HF) (N:=3492) rO.head (Hook.of rO.HF) (Hook.keeps rO.HF)
  (λs e=>xl_of s (rS.mp e).1) XL.keeps (by rfl) (by rfl) (by rfl) (λs e=>recFacts_of (rS.mp e).2) (by rfl) (by first|assumption|decide+kernel) 53 {9,9,9,9,9,53} ?hw ?hc
 case hw=>w_witness2
 case hc=>
 unfold rO.HF
 k_fill
 refine rO.walk (l:=PySem.Challenge.rw_askviews_k33_same_or_unlike) rfl rfl (λw h Y=>PySem.W.kIn_of Y) ?F
 case F=>
  intro w mg fa h KX G Ut
  refine' rO.all_mk KX G Ut ?Au ?wt ?wj ?Ia ?yk ?Fh ?Am ?wu ?uB ?Al ?Cz ?yg ?rq ?E7 ?Np ?E8 ?Fc ?Fd ?CA ?Fg ?Fb ?wq ?HZ ?wo ?Ao ?CD ?qh ?Fe ?E9 ?Aq ?yi ?Ap ?sW ?CF ?Ar ?yj ?CC ?CB ?sV ?As ?rB ?RH ?cA0 ?XO ?XW ?XN ?XM ?XT ?XU ?HU ?HS ?wm ?HY ?An ?rA ?yh ?z0 ?z1 ?z2 ?z3 ?z4 ?z5 ?z6 ?z7 ?z8 ?z9 ?z10 ?z11 ?z12 ?z13 ?z14 ?z15 ?mc0 ?mc1
  case Au|wt|wj|Ia|yk|Fh|Am|wu|uB|Al|Cz|yg|rq|E7|Np|E8|Fc|Fd|CA|Fg|Fb|wq|HZ|wo|Ao|CD|qh|Fe|E9|Aq|yi|Ap|sW|CF|Ar|yj|CC|CB|sV|As|rB|RH=>refine' rO.afc ?a ?l ?c ?k;case a|l|c|k=>k_is
  case cA0|XO|XW|XN|XM|XT|XU|HU|HS=>k_is
  case wm|HY|An|rA|yh=>refine' rO.aeR ?a ?i ?l ?c ?k;case a|i|l|c|k=>k_is
  case z0|z1|z2|z3|z4|z5|z6|z7|z8|z9|z10|z11|z12|z13|z14|z15|mc0|mc1=>k_is
