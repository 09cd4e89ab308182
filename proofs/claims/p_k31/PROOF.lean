import PyProof.Rows.All
import Wide.All
import OpenK.AllK
import PySem.Challenge.RW_askviews_k31_within_or_parted
set_option Elab.async false
set_option linter.all false
set_option bootstrap.genMatcherCode false
set_option maxRecDepth 100000
set_option maxHeartbeats 4000000
local macro_rules|`({$xs:term,*})=>`(⟨$xs,*⟩)
local macro_rules|`(∅)=>`((by lia))
set_option hygiene false
local macro_rules|`(9)=>`(rfl)
local macro_rules|`(7)=>`((by decide))
local macro_rules|`(8)=>`((by lia))
local macro_rules|`(53)=>`((by decide+kernel))
local macro_rules|`(54)=>`(λcY A outer s H vs Q E hr h=>?_)
local macro_rules|`(56)=>`(model X.prog X.w)
local macro_rules|`(58)=>`(model prog w)
local macro_rules|`(59)=>`((by simp))
local macro_rules|`(96)=>`((by show 2<=sizeLine;decide))
local macro_rules|`(331)=>`(dX X (x::more++fs) scope g3.objs.size {s2 with heap:=g3} H2 (s2.heap.objs.size::fp))
local macro_rules|`(352)=>`(.ref s.heap.objs.size)
local macro_rules|`(382)=>`(j3 X (x::fs) scope x g3.objs.size {s2 with heap:=g3} H2 (s2.heap.objs.size::fp))
local macro_rules|`(399)=>`((by show 0<=sizeLine;decide))
local macro_rules|`(644)=>`(λ(p:NK×Addr×V)(q:NK×Addr×Value)=>p.1=q.1/\p.2.1=q.2.1/\RelV p.2.2 q.2.2)
local macro_rules|`(645)=>`(tupleKeyHash knd k)
local macro_rules|`(646)=>`(dX X (x::more++fs) scope C s H ex)
local macro_rules|`(647)=>`(if iq rk (p.getD n 0) (p.getD (n -1) 0)=true then KasT.ret n else kas_asc p f (n+1))
local macro_rules|`(648)=>`(NK×Addr×V)
local macro_rules|`(649)=>`(s.heap.objs.size+1)
local macro_rules|`(650)=>`((by with_unfolding_all rfl))
local macro_rules|`(651)=>`(fnOf x q (defArgs st) (defBody st) (defScope st) .none kV doc pm an cY ct)
local macro_rules|`(652)=>`(zs.map V.str)
local macro_rules|`(653)=>`(cl D.dS hr (cw (pv 0) aO))
local macro_rules|`(654)=>`(.dK (fs.map fb))
local macro_rules|`(655)=>`(.dK [])
local macro_rules|`(656)=>`(ps t.mask h D)
local macro_rules|`(657)=>`(fs.map fb)
local macro_rules|`(658)=>`(((eK items.size 0 lo:Nat):Int)==0&&(1:Int)==1&&(eK items.size items.size hi -eK items.size 0 lo)==items.size)
local macro_rules|`(659)=>`(.ref a)
local macro_rules|`(660)=>`(.ext (DN P w A (putN kvs k b (.ref p))))
local macro_rules|`(661)=>`(.lst [])
local macro_rules|`(662)=>`(eK items.size items.size hi -eK items.size 0 lo)
local macro_rules|`(663)=>`(x==("__debug__":Str))
local macro_rules|`(664)=>`(seqObj "list" acc.toList.toArray 0)
local macro_rules|`(665)=>`(oX (fs.filter λx=>!decide (x.nm=e.nm)))
local macro_rules|`(666)=>`(aq ?_)
local macro_rules|`(667)=>`(model P w)
local macro_rules|`(668)=>`(λc=>?_)
local macro_rules|`(669)=>`(aQ (bK fJ))
local macro_rules|`(670)=>`(.ListComp elt [{tg,iter,ifs,0}] scope pos)
local macro_rules|`(671)=>`(ent knd)
local macro_rules|`(672)=>`(.tup xs)
local macro_rules|`(673)=>`(dX X (x::fs) scope C s H ex)
local macro_rules|`(674)=>`((by rw[aj];exact bt ∅))
local macro_rules|`(675)=>`(.Name x px)
local macro_rules|`(676)=>`(.ref p)
local macro_rules|`(677)=>`(Str×Str)
local macro_rules|`(678)=>`(.lst ((mq.map j9).map V.str))
local macro_rules|`(679)=>`(.lst ys)
local macro_rules|`(680)=>`(.lst (ys.take j++ys.drop (j+1)))
local macro_rules|`(681)=>`((List.replicate e.ys.length true).map V.bl)
local macro_rules|`(682)=>`(aU _ rfl)
local macro_rules|`(683)=>`(I.bQ.fresh (aw _))
local macro_rules|`(684)=>`(cV (fs:=[]) (fr:=[]))
local macro_rules|`(685)=>`(.dK (es.map fb++[(Sum.inr a.1,.ref l0)]))
local macro_rules|`(686)=>`(I.tok _)
local macro_rules|`(687)=>`(λh=>h.elim (λh=>.inr (.inl h)) λh=>h.elim .inl λh=>.inr (.inr h))
local macro_rules|`(688)=>`(p.getD (n -1) 0)
local macro_rules|`(689)=>`(λi m ys H=>m=xs.length -i/\i<=xs.length/\Pv i ys H)
local macro_rules|`(690)=>`(.lst zs)
local macro_rules|`(691)=>`(rg {bu (rM z _ _) hz,λt' k=>{.str _,H,I.tok k,⟨_,rfl⟩,q}})
local macro_rules|`(692)=>`(λt=>hc (by simp[qz,t]))
local macro_rules|`(693)=>`(λc1=>?_)
local macro_rules|`(694)=>`(λb hb=>?_)
local macro_rules|`(695)=>`(λp hp=>?_)
local macro_rules|`(696)=>`(λr s'=>r=.ok (.ret (.bool true))/\OldK aaa.heap s'.heap/\s'.os=aaa.os/\AllBare s'.gens)
local macro_rules|`(697)=>`(ig (wpAny_callSpecial?_slot hT fQ (b7 fQ hT nG ?_ (ph _))))
local macro_rules|`(698)=>`(ha pins s Z H _ I h)
local macro_rules|`(699)=>`(cj (jS (i:=0)) (cj (jS (i:=1)) fY))
local macro_rules|`(700)=>`(.ref f)
local macro_rules|`(701)=>`(λz=>nomatch z)
local macro_rules|`(702)=>`(!t.plain&&decide (es.size>1))
local macro_rules|`(703)=>`(sE (ha pos pins s Z H _ I h) λus s1 vs H1 I1 r1 q1=>?_)
local macro_rules|`(704)=>`(I1.bQ.fresh (aw _))
local macro_rules|`(705)=>`(.ref d)
local macro_rules|`(706)=>`(if i<0 then(i+((ba.toArray.size:Nat):Int)).toNat else min i.toNat ba.toArray.size)
local macro_rules|`(707)=>`(λz=>hc (by simp[z]))
local macro_rules|`(708)=>`(.Call (.Name x p) (e::es) [] pos)
local macro_rules|`(709)=>`(EP X pins Z Q)
local macro_rules|`(710)=>`(λ(u:Value)(p:Key×Value)=>(bT prog w).is p.1 u=true)
local macro_rules|`(711)=>`(putN inner (iR zs) c (.bl true))
local macro_rules|`(712)=>`(starEach es X.env)
local macro_rules|`(713)=>`(List (Option Str))
local macro_rules|`(714)=>`(bW (pv 0))
local macro_rules|`(715)=>`(bb.take i)
local macro_rules|`(716)=>`(fnOf x qual (defArgs st) (defBody st) (defScope st) .none kV doc pm an cY ct)
local macro_rules|`(717)=>`(.lst [.str "a",.str "12"])
local macro_rules|`(718)=>`(apos.endLine==f9.line)
local macro_rules|`(719)=>`(.dK kvs)
local macro_rules|`(720)=>`(.ref l)
local macro_rules|`(721)=>`((by simpa using h))
local macro_rules|`(722)=>`(bW (pv 1))
local macro_rules|`(723)=>`(λc2=>?_)
local macro_rules|`(724)=>`(.ins C dx (jk "vain" (.ref B) [("aims",.ref A)]))
local macro_rules|`(725)=>`(bT X.prog X.w)
local macro_rules|`(726)=>`(⟨_,rfl⟩)
local macro_rules|`(727)=>`(I.turned (t':=s.toks) (λb o hb e=>(sb.2 b hb).trans e) f0 f1 f3 f4 f5)
local macro_rules|`(728)=>`(.lst (ys.drop (j+1)))
local macro_rules|`(729)=>`(I.turned (λb o hb e=>eb b o hb e) f0 f1 f3 f4 f5)
local macro_rules|`(730)=>`((by simpa using e1))
local macro_rules|`(731)=>`(λ_ _ _ _=>(pv 0))
local macro_rules|`(732)=>`(he pins s Z H _ I h)
local macro_rules|`(733)=>`(ho pins s Z H _ I h)
local macro_rules|`(734)=>`(.lst (jT.map V.int))
noncomputable section
open PySem.W (Frag findIn nsIn fnOf emptyDict keepIn instObj plainGet kitOne codeIn hasDictIn isFn lookIn)
abbrev Hw:=List (PySem.Str×List PySem.Str)
abbrev Hz:=List (List PySem.Str)
abbrev Aaa:=List (PySem.Addr×PySem.Obj)
abbrev Aab:=PySem.Str->Option PySem.Value
abbrev Aac:=PySem.Value->PySem.Shared->Prop
abbrev Aad:=Array (Option PySem.Value)
abbrev Aae:=List PySem.Value
abbrev Aaf:=List PySem.Str
abbrev Aah:=List PySem.Addr
abbrev Aai:=Option PySem.Addr
abbrev Aaj:=Array PySem.Value
section
open PySem
def ah:=@wpAny_bind
def aj:=@List.length_map
def ao:=@PySem.Heap.get?_push_of_some
def aq:=@wpAny_pure
def au:=@List.getElem?_eq_some_iff
def aw:=@Nat.le_refl
def ay:=@List.getElem?_eq_getElem
def az:=@List.mem_of_getElem?
def aC:=@List.mem_singleton
def aD:=@List.length_append
def aE:=@List.mem_map
def aF:=@List.mem_cons_self
def aG:=@List.mem_cons_of_mem
def aH:=@List.map_append
def aI:=@if_neg
def aM:=@if_pos
def aN:=@List.mem_cons
def aP:=@Nat.zero_le
def aR:=@List.size_toArray
def aS:=@List.take_length
def aT:=@of_decide_eq_true
def aU:=@PySem.Heap.get?_push_size
def aV:=@List.mem_append
def aW:=@List.getElem?_map
def aX:=@Nat.ne_of_lt
def aY:=@PySem.Heap.lt_size
def a9:=@List.length_take
def bc:=@PySem.Paired.length
def bg:=@decide_eq_true
def bh:=@List.mem_append_right
def bj:=@List.take_add_one
def bq:=@List.map_cons
def br:=@Option.map_eq_some_iff
def bu:=@Nat.le_trans
def bw:=@Nat.lt_of_lt_of_le
def bz:=@List.mem_append_left
def bB:=@Nat.le_of_lt
def bE:=@PySem.PassesOwn.never
def bF:=@List.length_cons
def bG:=@boot_len
def bI:=@PySem.F.plainAttrs_list
def bJ:=@Array.length_toList
def bL:=@Bool.false_ne_true
def bN:=@List.all_eq_true
def bP:=@Bool.and_eq_true
def bR:=@Option.some.inj
def bS:=@List.mem_map_of_mem
def bX:=@sizeLine_eq
def b5:=@List.map_map
def b7:=@wpAny_call_entry
def b9:=@List.map_congr_left
def cm:=@congrFun
def cn:=@wpAny_holding
def cu:=@Nat.ne_of_gt
def cx:=@PySem.Heap.get?_update_other
def cA:=@decide_eq_false
def cD:=@List.getD_eq_getElem?_getD
def cE:=@List.mem_range
def cH:=@PySem.Heap.SameBut.update
def cI:=@Array.getElem?_eq_getElem
def cJ:=@PySem.W.mg_none_of
def cL:=@List.append_nil
def cM:=@Ne.symm
def cP:=@wpAny_newObj_type
def cR:=@congrArg
def cS:=@List.filter_cons
def cX:=@List.mem_filter
def cZ:=@beq_eq_false_iff_ne
def c7:=@List.take_of_length_le
def da:=@Nat.lt_irrefl
def dc:=@List.nodup_cons
def de:=@List.length_filter_le
def dj:=@wpAny_seqItems
def dk:=@PySem.Heap.size_push
def du:=@wpAny_field
def dv:=@List.length_singleton
def dy:=@Array.getElem?_toList
def dC:=@wpAny_mono
def dD:=@List.length_eq_zero_iff
def dE:=@List.length_drop
def dG:=@List.append_assoc
def dN:=@PySem.F.type_list_extend
def dO:=@PySem.F.slot_list_extend
def dP:=@Nat.lt_trans
def dW:=@LawfulBEq.eq_of_beq
def eA:=@List.filter_append
def eB:=@List.nodup_nil
def eF:=@Nat.lt_succ_self
def eG:=@Nat.le_add_right
def eO:=@PyProof.Rows.callWith_type1
def eP:=@List.mem_iff_getElem?
def eR:=@PySem.Heap.get?_update_self
def eT:=@wpAny_truthy_bool
def eU:=@Nat.lt_succ_of_lt
def eW:=@List.length_range
def eX:=@Int.toNat_natCast
def eY:=@PyProof.Rows.slot_tuple_getitem
def eZ:=@PySem.F.plainAttrs_dict
def fq:=@codeAny_builtin
def fu:=@PySem.W.kia_one
def fw:=@List.map_nil
def fA:=@Bool.eq_iff_iff
def fG:=@Nat.le_succ
def fI:=@List.filterMap_cons
def fN:=@PySem.F.slot_dict_keyiterator_next
def fP:=@List.nodup_append
def fS:=@PySem.F.slot_dict_get
def fU:=@Nat.not_lt_zero
def fW:=@Nat.lt_of_le_of_lt
def fX:=@PySem.Calls.spliced_cons
def gm:=@List.find?_cons_of_pos
def gn:=@List.find?_cons_of_neg
def gq:=@PySem.Calls.callWith_builtin
def gx:=@List.mem_of_find?_eq_some
def gA:=@List.drop_eq_getElem_cons
def gE:=@builtinLookup_eq_fast
def gF:=@List.length_replicate
def gM:=@PySem.F.type_list_append
def gN:=@PySem.F.slot_list_append
def gO:=@Nat.succ_le_succ
def gP:=@Bool.false_eq_true
def gQ:=@wpAny_setField
def gS:=@PySem.F.slot_dict_setdefault
def gW:=@Option.isSome_map
def gY:=@List.foldl_cons
def hV:=@wpAny_typeOf
def ig:=@wpAny_attempt
def ik:=@List.getElem?_append_right
def il:=@Array.getElem?_eq_some_iff
def iw:=@List.mem_flatten
def ix:=@List.any_eq_true
def iF:=@List.rel_of_pairwise_cons
def iK:=@wpAny_specialOf
def iM:=@List.mem_of_mem_take
def iN:=@List.find?_cons
def iO:=@PySem.F.slot_zip_next
def iQ:=@Bool.eq_false_iff
def iV:=@Bool.true_and
def iW:=@wpAny_typeNameOfWhole_keyiter
def jg:=@wpAny_isInstance
def jo:=@List.lookup_cons
def jt:=@PySem.F.entry_dict_get
def ju:=@List.drop_eq_nil_of_le
def jv:=@wpAny_setField_rec
def jw:=@wpAny_pyIter_tuple
def jy:=@tupleKind_room_in1
def jE:=@decide_eq_true_iff
def jF:=@PySem.Code.quiet_builtin
def jG:=@wpAny_passesOwn
def jH:=@wpAny_notOrdered_dict
def jI:=@PyProof.Rows.vals1
def jJ:=@typeLookup_type
def jO:=@Option.map_some
def jP:=@List.take_append_drop
def jQ:=@List.nil_append
def jR:=@List.length_nil
def jU:=@PySem.F.slot_NoneType_hash
def jV:=@List.sum_cons
def jW:=@PySem.F.slot_tuple_iterator_next
def j4:=@List.pairwise_map
def j6:=@Decidable.not_not
def j7:=@PySem.Calls.spliced_nil
def j8:=@wpAny_rule
def kf:=@lookup_relabel_local
def kg:=@List.getElem?_append_left
def kh:=@PySem.Calls.evalArgs_plain
def ki:=@PySem.Calls.call_function_entry
def kr:=@Bool.false_and
def kB:=@if_false
def kG:=@call_meetsIn
def kI:=@Nat.le_of_not_lt
def kJ:=@List.getElem_mem
def kM:=@mem_of_lookup
def kS:=@wpAny_getItem_str_slice
def kU:=@List.lookup_eq_some_iff
def k8:=@Nat.mul_assoc
def lB:=@call_meets
def lC:=@Nat.min_eq_left
def lD:=@List.pairwise_cons
def lE:=@List.mem_filterMap
def lF:=@Int.emod_lt_of_pos
def lO:=@Nat.mul_add
def lQ:=@wpAny_pyIter_list
def lS:=@wpAny_dictEntries
def lT:=@Nat.lt_trichotomy
def lW:=@PySem.F.slot_tuple_hash
def lX:=@wpAny_fieldsOf
def md:=@codeAny_mono
def mf:=@PySem.F.type_dict_setdefault
def ml:=@List.take_zero
def mm:=@List.getElem?_eq_none
def mn:=@List.any_map
def mE:=@wpAny_forIn_list
def mQ:=@Nat.mod_lt
def mS:=@PySem.Heap.get?_none_of_le
def mW:=@plainId_quiet
def m8:=@PySem.W.mg_of
def ng:=@List.perm_ext_iff_of_nodup
def nh:=@List.any_cons
def nJ:=@List.pairwise_iff_getElem
def nK:=@List.find?_some
def nL:=@List.cons.injEq
def nM:=@Int.emod_nonneg
def nP:=@wpAny_Call_Name_kw
def nU:=@sub_AttributeError
def oh:=@of_decide_eq_false
def oB:=@PySem.F.args_tuple_add_2
def oC:=@PySem.F.args_dict_keyiterator_next_1
def oE:=@PyProof.Rows.F.entry_set_update_loop
def oF:=@PySem.Obj.data_mapFields
def oG:=@Nat.pow_succ
def oH:=@List.map_singleton
def oJ:=@Array.forIn_toList
def oM:=@typeIs_str
def o7:=@isSubtype_stop
def o8:=@if_true
def pw:=@PySem.F.entry_dict_keyiterator_next
def pE:=@PySem.F.entry_tuple_add
def pF:=@PySem.F.args_dict_get_3
def pG:=@wpAny_pyIter_enum
def pH:=@wpAny_Call_method
def pM:=@List.foldl_append
def pN:=@PySem.F.args_zip_next_1
def pW:=@PySem.F.slot_tuple_add
def pY:=@Option.map_eq_none_iff
def qm:=@merged_length_le
def qr:=@Nat.succ_ne_self
def qt:=@Nat.min_eq_right
def qu:=@List.not_mem_nil
def qv:=@List.cons_append
def qx:=@PySem.F.entry_zip_next
def qL:=@PySem.F.type_dict_get
def qO:=@wpAny_ite_split
def qP:=@wpAny_execs_nil
def rg:=@post_val_or_str
def rF:=@codeAny_call_builtin
def rG:=@beq_iff_eq
def rM:=@PySem.Txt.slice_le
def rO:=@PySem.F.args_dict_setdefault_3
def rP:=@Nat.not_lt
def rQ:=@Nat.le_of_eq
def rT:=@List.sum_append
def rU:=@List.pairwise_append
def rV:=@List.filter_nil
def rW:=@PySem.F.args_list_append_2
def rY:=@Bool.and_eq_true_iff
def rZ:=@PySem.F.entry_dict_setdefault
def sd:=@wpAny_dictSet_pairs
def sh:=@PySem.W.plainGet_of
def sj:=@PySem.F.plain_extend_loop
def sr:=@PySem.F.entry_list_append
def sC:=@wpAny_newTuple
def sR:=@PyProof.Rows.good_str
def sZ:=@List.drop_zero
def tq:=@PySem.F.args_tuple_iterator_next_1
def tD:=@Bool.and_false
def tL:=@Nat.add_mul
def ue:=@PySem.W.callWith_K
def uh:=@List.filterMap_map
def ui:=@PySem.F.slot_list_append
def uj:=@PySem.F.entry_tuple_iterator_next
def um:=@Array.getD_eq_getD_getElem?
def uo:=@wpAny_newList
def uz:=@PyProof.Rows.listUpdate_at
def uH:=@Nat.add_assoc
def uI:=@List.length_eraseIdx_of_lt
def uJ:=@List.all_cons
def uK:=@PySem.Calls.Name_function_global
def uL:=@Array.perm_iff_toList_perm
def uM:=@wpAny_setState_of
def uN:=@wpAny_pyIter_slot
def uW:=@list_append
def uX:=@Nat.mul_left_comm
def uY:=@Nat.le_succ_of_le
def u0:=@Function.comp_def
def vi:=@Classical.byContradiction
def vq:=@wpAny_pyIter_zip
def vt:=@wpAny_comprehension_free
def vv:=@wpAny_askSetting
def vU:=@noFill_tuple_add
def vV:=@merged_take_succ
def wj:=@beq_self_eq_true
def wz:=@PySem.IsL.update
def wA:=@PySem.F.type_list_insert
def wC:=@PySem.F.slot_list_insert
def wD:=@Option.isSome_iff_exists
def wF:=@Nat.succ_pos
def wG:=@Nat.sub_self
def wH:=@Nat.add_zero
def wI:=@List.length_erase_of_mem
def wJ:=@List.getElem?_take_of_lt
def wL:=@Array.toList_inj
def wM:=@Array.getElem?_replicate
def wN:=@wpAny_Call_method0_late
def wO:=@meetsH_dict_get_default
def wQ:=@PySem.F.type_list_index
def wR:=@PySem.F.type_list_clear
def wU:=@PySem.F.slot_list_index
def wV:=@PySem.F.slot_list_clear
def wW:=@PySem.F.slot_dict_items
def wX:=@PySem.F.slot_dict_clear
def wY:=@PySem.F.args_dict_get_2
def wZ:=@PyProof.Rows.ext_toList
def w4:=@Nat.add_sub_cancel_left
def w5:=@List.pairwise_mergeSort
def w6:=@List.getElem?_replicate
def xa:=@List.Pairwise.filterMap
def xb:=@wpAny_updateSeq
def xc:=@wpAny_dictEpoch
def xF:=@List.of_mem_zip
def xG:=@List.length_set
def xH:=@PySem.Heap.DictOf.new
def xI:=@wpAny_pyNext_list_item
def xJ:=@wpAny_nextOf_list_item
def xK:=@wpAny_Assign_Subscript
def xN:=@PyProof.Rows.subscriptTail_builtinR
def xQ:=@PyProof.Rows.seqEpoch_at
def yk:=@codeAny_compStart_list
def yt:=@PySem.W.cellsFrom_some
def yu:=@PySem.F.slot_dict_iter
def yw:=@PySem.Paired.snoc
def yx:=@Nat.mod_mul
def yy:=@List.range_succ_eq_map
def yz:=@List.pairwise_lt_range
def yA:=@List.map_id
def yB:=@List.length_pos_of_mem
def yC:=@List.getElem?_set_self
def yD:=@Array.getElem?_eq_none
def yF:=@wpAny_tryCatch
def yG:=@wpAny_pyNext_list_end
def yH:=@wpAny_isTrue_Compare1
def yI:=@wpAny_isOneOf_keyiter
def yJ:=@wpAny_eqIsQuiet_tuple
def y9:=@isSubtype_type
def zt:=@entryFor_alias
def zA:=@PySem.F.plain_set_new
def zC:=@PySem.Obj.isFreed_of_fields
def zD:=@List.filterMap_append
def zE:=@wpAny_raiseAttrError
def zF:=@wpAny_loadName_local
def AE:=@PySem.W.KIN.val_back
def AG:=@PySem.Obj.data_mapDictKeys
def AH:=@Nat.pow_le_pow_right
def AI:=@Nat.mul_le_mul_right
def AJ:=@List.replicate_succ'
def AK:=@List.mem_of_mem_drop
def AL:=@List.mem_erase_of_ne
def AM:=@List.length_eraseIdx
def AN:=@List.getElem?_set_ne
def AO:=@PySem.F.kt_typeCall_dict_1
def AQ:=@PySem.F.args_list_extend_2
def AU:=@Array.mem_toList_iff
def AV:=@wpAny_standAt
def AW:=@wpAny_onRaise
def AX:=@seq_tuple_add
def Bg:=@Sum.inr.injEq
def Bh:=@List.map_take
def Bi:=@Bool.or_false
def Bj:=@Bool.and_true
def Bk:=@wpAny_loadName_cell
def Bm:=@PyProof.Rows.entry_tuple_getitem
def Bn:=@evalArgs_none
def Bo:=@Nat.add_le_add_left
def Bp:=@List.take_succ_cons
def Bq:=@List.mergeSort_perm
def Br:=@List.length_pos_iff
def Bs:=@PySem.F.entry_list_extend
def Bv:=@wpAny_setItem_heap
def BD:=@seqIndex_neg
def BU:=@putSet_of
def BZ:=@PyProof.Rows.plain_sorted
def Cy:=@PyProof.Rows.entry_sorted
def CB:=@concat_meets
def CN:=@PyProof.Rows.args_tuple_getitem
def CO:=@PyProof.Rows.args_sorted1
def CS:=@PySem.SeqAt.EqAt.str_int
def CU:=@PySem.SeqAt.EqAt.int_str
def CV:=@PySem.W.kitx_tuple
def CW:=@PySem.F.called_set
def CY:=@Option.isSome_some
def CZ:=@Nat.sub_zero
def C1:=@List.sum_nil
def C2:=@List.mem_replicate
def C3:=@List.getElem?_take
def C4:=@List.find?_eq_none
def C5:=@List.countP_append
def C6:=@List.all_map
def C7:=@Int.zero_add
def C8:=@PySem.F.slot_list_extend
def C9:=@PySem.F.args_dict_init_2
def DI:=@wpAny_storeSet_of
def DJ:=@wpAny_sequenceKey
def DK:=@wpAny_assign_Name
def DQ:=@eqIsQuiet_byValue
def DR:=@bne_self_eq_false
def DS:=@PySem.StrLaws.subAt_one
def DT:=@PySem.W.kitx_list
def DU:=@PySem.W.kitx_dict
def DV:=@PySem.Obj.cls_mapFields
def DW:=@List.take_sublist
def DY:=@List.find?_isSome
def DZ:=@PySem.Heap.SameBut.refl
def D0:=@PySem.F.entry_dict_init
def D2:=@Bool.not_eq_true'
def D3:=@Array.toList_push
def D5:=@wpAny_of_eq
def D6:=@wpAny_letGo
def Ed:=@seqIndex_of
def Ek:=@PyProof.Rows.kind_sorted
def E3:=@or_false
def Fc:=@PyProof.Rows.good_int
def FE:=@and_true
def FG:=@Prod.ext
def FJ:=@wpAny_load
def FK:=@wpAny_call
def FL:=@wpAny_Name
def G9:=@PySem.Walks.list
def Ha:=@PyProof.Rows.Subscript_
def Hg:=@PyProof.Rows.Call_
def II:=@Iff.rfl
end
namespace L2
open PySem PySem.Spec PyProof.Rows
abbrev Key:=Sum Int Str
def Ai:Key->Value->Bool
 | .inl k,v=>Value.isInt k v
 | .inr x,v=>Value.isStrOf x v
def af2(w:World):Key->Int
 | .inl k=>hashInt k
 | .inr x=>hashStr w x
theorem iJ:∀{k:Key}{v:Value},Ai k v=true->(∃i t,k=Sum.inl i/\v=Value.int i t)\/(∃x t,k=Sum.inr x/\v=Value.str x t)
 | .inl i,v,h=>by obtain⟨t,e⟩:=Value.isInt_shape h;exact .inl ⟨i,t,rfl,e⟩
 | .inr x,v,h=>by obtain⟨t,e⟩:=Value.isStrOf_shape h;exact .inr ⟨x,t,rfl,e⟩
def Us(i:Int)(t:Tok):Ai (.inl i) (.int i t)=true:=by simp[Ai,Value.isInt]
def Ur(x:Str)(t:Tok):Ai (.inr x) (.str x t)=true:=by simp[Ai,Value.isStrOf]
def adq(a b:Int):decide ((Sum.inl a:Key)=Sum.inl b)=(a==b):=by
 by_cases e:a=b
 ·subst e;simp
 ·have h:¬(Sum.inl a:Key)=Sum.inl b:=λq=>e (Sum.inl.inj q);rw[cA h];exact(cZ.mpr e).symm
def adn(a b:Str):decide ((Sum.inr a:Key)=Sum.inr b)=decide (a=b):=by
 by_cases e:a=b
 ·subst e;simp
 ·have h:¬(Sum.inr a:Key)=Sum.inr b:=λq=>e (Sum.inr.inj q);rw[cA h,cA e]
def adp(a:Int)(b:Str):decide ((Sum.inl a:Key)=Sum.inr b)=false:=cA (λq=>nomatch q)
def ado(a:Str)(b:Int):decide ((Sum.inr a:Key)=Sum.inl b)=false:=cA (λq=>nomatch q)
noncomputable def bT(prog:Program)(w:World):PySem.KeyKind prog w Key where
 is:=Ai
 hash:=af2 w
 inj:=λv a b ha hb=>by
  rcases iJ ha with⟨i,t,rfl,rfl⟩|⟨x,t,rfl,rfl⟩
  ·rcases iJ hb with⟨j,u,rfl,e⟩|⟨y,u,rfl,e⟩
   ·injection e with e1 _;rw[e1]
   ·exact nomatch e
  ·rcases iJ hb with⟨j,u,rfl,e⟩|⟨y,u,rfl,e⟩
   ·exact nomatch e
   ·injection e with e1 _;rw[e1]
 byValue:=λk v h=>by rcases iJ h with⟨i,t,rfl,rfl⟩|⟨x,t,rfl,rfl⟩<;>rfl
 pyHash:=λhv h=>by
  rcases iJ hv with⟨i,t,rfl,rfl⟩|⟨x,t,rfl,rfl⟩
  ·exact wpAny_pyHash_int h
  ·exact wpAny_pyHash_str h
 eqBool:=λhu hv h=>by
  rcases iJ hu with⟨i,t,rfl,rfl⟩|⟨x,t,rfl,rfl⟩
  ·rcases iJ hv with⟨j,u,rfl,rfl⟩|⟨y,u,rfl,rfl⟩
   ·rw[adq]at h;exact wpAny_eqBool_int h
   ·rw[adp]at h;exact CU i t y u _ _ _ _ h
  ·rcases iJ hv with⟨j,u,rfl,rfl⟩|⟨y,u,rfl,rfl⟩
   ·rw[ado]at h;exact CS x t j u _ _ _ _ h
   ·rw[adn]at h;exact wpAny_eqBool_str h
 «strs»:=λk x t v h=>by
  rcases iJ h with⟨i,u,rfl,e⟩|⟨y,u,rfl,e⟩
  ·exact nomatch e
  ·injection e with e1 _;subst e1;cases v<;>rfl
def Og(prog:Program)(w:World)(i:Int)(t:Tok):(bT prog w).is (.inl i) (.int i t)=true:=Us i t
def Eh(prog:Program)(w:World)(x:Str)(t:Tok):(bT prog w).is (.inr x) (.str x t)=true:=Ur x t
inductive V where
 |cz|bl (b:Bool)|int (i:Int)|str (x:Str)|uU (b:Array UInt8)|Nt (b:UInt64)|ref (a:Addr)|ty (n:String)
 deriving DecidableEq
abbrev Aam:=List V
abbrev Aan:=Option V
def RelV:V->Value->Prop
 | .cz,u=>u=Value.none
 | .bl b,u=>u=Value.bool b
 | .int i,u=>∃t,u=Value.int i t
 | .str x,u=>∃t,u=Value.str x t
 | .uU b,u=>∃t,u=Value.bytes b t
 | .Nt b,u=>∃t,u=Value.float b t
 | .ref a,u=>u=Value.ref a
 | .ty n,u=>u=Value.type n
abbrev Vals:Aam->Aae->Prop:=Paired RelV
def Vals.length(r:Vals xs us):xs.length=us.length:=bc r
theorem Vals.get:∀{xs:Aam}{us:Aae}{i:Nat}{x:V},Vals xs us->xs[i]?=some x->∃u,us[i]?=some u/\RelV x u
 |_,_,_,_,.nil,e=>by simp at e
 |_,_,0,_,.cons r _,e=>by simp at e;subst e;exact⟨_,rfl,r⟩
 |_,_,i+1,x,.cons _ t,e=>by obtain⟨u,h1,h2⟩:=Vals.get (i:=i) (x:=x) t (by simpa using e);exact{u,by simpa using h1,h2}
theorem Vals.set(r:RelV x u):∀{xs:Aam}{us:Aae}(i:Nat),Vals xs us->Vals (xs.set i x) (us.set i u)
 |_,_,_,.nil=>.nil
 |_,_,0,.cons _ t=>.cons r t
 |_,_,i+1,.cons q t=>.cons q (Vals.set r i t)
theorem Vals.append:∀{xs ys:Aam}{us ws:Aae},Vals xs us->Vals ys ws->Vals (xs++ys) (us++ws)
 |_,_,_,_,.nil,s=>s
 |_,_,_,_,.cons r t,s=>.cons r (Vals.append t s)
theorem Vals.take:∀{xs:Aam}{us:Aae}(n:Nat),Vals xs us->Vals (xs.take n) (us.take n)
 |_,_,0,_=>.nil
 |_,_,_+1,.nil=>.nil
 |_,_,n+1,.cons r t=>.cons r (Vals.take n t)
theorem Vals.drop:∀{xs:Aam}{us:Aae}(n:Nat),Vals xs us->Vals (xs.drop n) (us.drop n)
 |_,_,0,r=>r
 |_,_,_+1,.nil=>.nil
 |_,_,n+1,.cons _ t=>Vals.drop n t
def mP:Aan->Option Value->Prop
 |some v,some u=>RelV v u
 |none,none=>True
 |_,_=>False
def KV:List (κ×V)->List (κ×Value)->Prop:=Paired λ(p:κ×V)(q:κ×Value)=>p.1=q.1/\RelV p.2 q.2
def kV:Key->V
 | .inl i=>.int i
 | .inr x=>.str x
inductive HO where
 |lst (xs:Aam)
 |tup (xs:Aam)
 |dK (kvs:List (Key×V))|dT (kvs:List (List Key×V))
 |set (S:Int->Bool) (n:Nat)
 |ins (C dx:Addr) (fs:List (Str×V))
 |own (x:Addr)
 |xd (fs:List (Str×V))
 |met (f x:Addr)
 |rng (lo hi:Int)
 |fB (o:Obj) (u:HO)
 |K7 (ps:Aaj)
 |ext (φ:Heap->Prop)
abbrev Hp:=Addr->Option HO
def upd(H:Hp)(a:Addr)(o:HO):Hp:=λb=>if b=a then some o else H b
def av:upd H a o a=some o:=by unfold upd;rw[aM rfl]
def aL(h:b≠a):upd H a o b=H b:=by unfold upd;rw[aI h]
def Q1{H:Hp}(h:H a=some o)(h':H b=some u)(d:o≠u):a≠b:=by intro e;subst e;rw[h]at h';exact d (bR h')
def bC{H:Hp}(h:H a=some o)(h':H b=none):a≠b:=by intro e;subst e;rw[h]at h';cases h'
section
variable(P:Program)(w:World)
noncomputable def dY(H:Hp)(h:Heap)(a:Addr):HO->Prop
 | .lst xs=>xs.length<=sizeLine/\∃(ba:Aae)(n:Nat),Vals xs ba/\h.get? a=some {cls:=.type "list",data:=.seq ba.toArray n}
 | .tup xs=>xs.length<=sizeLine/\∃ba:Aae,Vals xs ba/\IsTup h a ba.toArray/\∃o,h.get? a=some o/\o.dict=none
 | .dK kvs=>kvs.length<=sizeLine/\(a==sysModules)=false/\∃vs,KV kvs vs/\h.DictOf (bT P w) a vs
 | .dT kvs=>kvs.length<=sizeLine/\(a==sysModules)=false/\∃xs:List (List Key×Addr×Value),
   Paired (λ(p:List Key×V)(q:List Key×Addr×Value)=>p.1=q.1/\H q.2.1=some (.tup (p.1.map kV))/\RelV p.2 q.2.2) kvs xs/\
   ∃o es ep,h.get? a=some o/\o.ExactDict/\o.data=.dict es ep/\es.toList=xs.map (entryOfKey (tupleKind (bT P w)))/\(xs.map (·.1)).Nodup
 | .set S n=>h.SetOf (intKind P w) a S n
 | .ins C dx fs=>H dx=some (.own a)/\fs.length<=1000/\dx≠a/\h.get? a=some (instObj C dx)/\
   ∃mA,h.Ns1 dx mA/\(∀f,mP (fs.lookup f) (mA f))/\PySem.Within mA (fs.map (·.1))
 | .own _=>∃o,h.get? a=some o
 | .xd fs=>∃mA,h.Ns1 a mA/\∀f,mP (fs.lookup f) (mA f)
 | .rng lo hi=>∃t u v,h.get? a=some {cls:=.type "range",data:=.fields #[.int lo t,.int hi u,.int 1 v]}
 | .fB o u=>h.get? a=some o/\dY H h a u
 | .K7 ps=>h.get? a=some {cls:=.none,data:=.fields ps}
 | .met f x=>h.get? a=some (PySem.W.methodObj 700 (.ref x))
 | .ext φ=>φ h/\(∃o,h.get? a=some o)/\∀h1 h2:Heap,φ h1->(∀o,h1.get? a=some o->h2.get? a=some o)->φ h2
def j5(H:Hp)(h:Heap):Prop:=∀a o,H a=some o->dY P w H h a o
end
section
variable{P:Program}{w:World}{H H':Hp}{h h':Heap}{a:Addr}{o:HO}
def dY.lt(x:dY P w H h a o):a<h.objs.size:=by
 cases o with
 |lst xs=>obtain⟨_,_,_,_,e⟩:=x;exact aY e
 |tup xs=>obtain⟨_,_,_,p,_⟩:=x;exact p.lt
 |dK kvs=>obtain⟨_,_,_,_,o,_,_,e,_⟩:=x;exact aY e
 |dT kvs=>obtain⟨_,_,_,_,o,_,_,e,_⟩:=x;exact aY e
 |set S n=>obtain⟨o,_,_,_,e,_⟩:=x;exact aY e
 |ins C dx fs=>obtain⟨_,_,_,e,_⟩:=x;exact aY e
 |own y=>obtain⟨_,e⟩:=x;exact aY e
 |xd fs=>obtain⟨_,⟨_,_,_,e,_⟩,_⟩:=x;exact aY e
 |rng lo hi=>obtain⟨_,_,_,e⟩:=x;exact aY e
 |fB ob u=>obtain⟨e,_⟩:=x;exact aY e
 |K7 ps=>exact aY (show h.get? a=some _ from x)
 |met f y=>exact aY (show h.get? a=some _ from x)
 |ext φ=>obtain⟨_,⟨_,e⟩,_⟩:=x;exact aY e
theorem Paired.Q5:∀{l₁:List α}{aab:List β},Paired F l₁ aab->(∀a b,F a b->G a b)->Paired G l₁ aab
 |_,_,.nil,_=>.nil
 |_,_,.cons r t,f=>.cons (f _ _ r) (Paired.Q5 t f)
def Paired.imp'(f:∀a b,F a b->G a b)(r:Paired F l₁ aab):Paired G l₁ aab:=Paired.Q5 r f
def dY.qT(x:dY P w H h a o)(k:∀b u,(b=a\/H b=some (.own a))->h.get? b=some u->h'.get? b=some u)
  (ho:∀b,H b=some (.own a)->H' b=some (.own a)) (ht:∀b xs,H b=some 672->H' b=some 672):dY P w H' h' a o:=by
 induction o with
 |lst xs=>obtain⟨z,ba,n,r,e⟩:=x;exact{z,ba,n,r,k _ _ (.inl 9) e}
 |tup xs=>obtain⟨z,ba,r,⟨ob,e,c⟩,o2,e2,c2⟩:=x;exact{z,ba,r,{ob,k _ _ (.inl 9) e,c},o2,k _ _ (.inl 9) e2,c2}
 |dK kvs=>obtain⟨z,y,vs,r,ob,es,ep,e,c⟩:=x;exact{z,y,vs,r,ob,es,ep,k _ _ (.inl 9) e,c}
 |dT kvs=>
  obtain⟨z,y,xs,r,ob,es,ep,e,c⟩:=x;exact{z,y,xs,Paired.Q5 r λp q z=>{z.1,ht _ _ z.2.1,z.2.2},ob,es,ep,k _ _ (.inl 9) e,c}
 |set S n=>obtain⟨ob,es,ep,t,e,c⟩:=x;exact{ob,es,ep,t,k _ _ (.inl 9) e,c}
 |ins C dx fs=>
  obtain⟨d,z,ne,e,mA,⟨od,es,ep,e2,c⟩,r⟩:=x;exact{ho _ d,z,ne,k _ _ (.inl 9) e,mA,{od,es,ep,k _ _ (.inr d) e2,c},r}
 |own y=>obtain⟨ob,e⟩:=x;exact{ob,k _ _ (.inl 9) e}
 |xd fs=>obtain⟨mA,⟨od,es,ep,e,c⟩,r⟩:=x;exact{mA,{od,es,ep,k _ _ (.inl 9) e,c},r}
 |rng lo hi=>obtain⟨t,u,v,e⟩:=x;exact{t,u,v,k _ _ (.inl 9) e}
 |fB ob u ih=>obtain⟨e,q⟩:=x;exact{k _ _ (.inl 9) e,ih q}
 |K7 ps=>
  exact k a _ (.inl 9) x
 |met f y=>
  exact k a _ (.inl 9) x
 |ext φ=>obtain⟨p,⟨o,e⟩,st⟩:=x;exact{st _ _ p λo q=>k _ _ (.inl 9) q,{o,k _ _ (.inl 9) e},st}
def j5.lt(x:j5 P w H h)(e:H a=some o):a<h.objs.size:=(x a o e).lt
def j5.fresh(x:j5 P w H h)(e:h.objs.size<=a):H a=none:=by
 cases q:H a with
 |none=>rfl
 |some u=>exact absurd (bw (x.lt q) e) (da _)
def j5.kept(x:j5 P w H h)(k:∀b u,h.get? b=some u->h'.get? b=some u):j5 P w H h':=λa o e=>
 (x a o e).qT (λb u _ q=>k b u q) (λ_ q=>q) λ_ _ q=>q
def j5.laid(x:j5 P w H h)(k:∀b u,h.get? b=some u->h'.get? b=some u)(hp:h.objs.size<=a)(new:dY P w (upd H a o) h' a o):j5 P w (upd H a o) h':=λb u e=>by
 have hn:=x.fresh hp;by_cases hb:b=a
 ·subst hb;rw[av]at e;cases e;exact new
 ·rw[aL hb]at e;exact(x b u e).qT (λc v _ q=>k c v q) (λc q=>by rw[aL (bC q hn)];exact q) λc xs q=>by rw[aL (bC q hn)];exact q
end
def Rd(H:Hp)(a:Addr)(u:HO):Prop:=H a=some u\/∃o,H a=some (.fB o u)
def Rd.ok(r:Rd H a u)(x:j5 P w H h):dY P w H h a u:=by
 rcases r with r|⟨o,r⟩
 ·exact x a u r
 ·obtain⟨_,q⟩:=x a _ r;exact q
def VR:Option HO->Prop
 |some (.lst _)=>True
 |some (.dK _)=>True
 |some (.dT _)=>True
 |some (.set _ _)=>True
 |some (.ins _ _ _)=>True
 |some (.ext _)=>True
 |_=>False
section
variable{P:Program}{w:World}{H:Hp}{h h':Heap}{x e:Addr}{o':HO}
def j5.write(ok:j5 P w H h)(mu:VR (H x))(he:e=x\/H e=some (.own x))(k:∀b u,b≠e->h.get? b=some u->h'.get? b=some u)(PQ:∃u,h'.get? e=some u)
  (new:dY P w (upd H x o') h' x o'):j5 P w (upd H x o') h':=λb u q=>by
 have ac6:∀c y,H c=some (.own y)->c≠x:=λc y r z=>by subst z;rw[r]at mu;exact mu
 by_cases hb:b=x
 ·subst hb;rw[av]at q;cases q;exact new
 ·rw[aL hb]at q;by_cases M7:b=e
  ·have q':H b=some (.own x):=by
    rcases he with z|z
    ·exact absurd (M7.trans z) hb
    ·rw[M7];exact z
   rw[q]at q';cases q';obtain⟨v,hv⟩:=PQ;exact{v,M7▸hv}
  ·refine(ok b u q).qT (λc v hc r=>k c v ?_ r) (λc r=>by rw[aL (ac6 c b r)];exact r) λc xs r=>by rw[aL ((λc xs r z=>by subst z;rw[r]at mu;exact mu) c xs r)];exact r
   rcases hc with rfl|hc
   ·exact M7
   ·rintro rfl;rcases he with z|z
    ·exact ac6 c b hc z
    ·rw[hc]at z;cases z;exact hb rfl
end
structure Un(fs ex:Aah)(H H':Hp)(h h':Heap):Prop where
 keep:∀b o,h.get? b=some o->H b=none->b∉fs->b∉ex->h'.get? b=some o
 slot:∀b o,h.get? b=some o->H b=none->b∈fs->b∉ex->∃sl,h'.get? b=some {o with slots:=sl}
 free:∀b o,h.get? b=some o->H b=none->b∉ex->H' b=none
 there:∀b o,h.get? b=some o->b∉ex->∃o',h'.get? b=some o'
 fD:∀b xs,H b=some 672->H' b=some 672
 uC:∀b o u,H b=some (.fB o u)->H' b=some (.fB o u)
 zK:∀b ps,H b=some (.K7 ps)->∃more,H' b=some (.K7 (ps++more))
section
variable{fs ex:Aah}{H H1:Hp}{h h1 h':Heap}{a x e:Addr}{o:HO}
def Un.any(u:Un fs ex H H1 h h1)(q:h.get? b=some ob)(n:H b=none)(hx:b∉ex):∃sl,h1.get? b=some {ob with slots:=sl}:=by
 by_cases hb:b∈fs
 ·exact u.slot b ob q n hb hx
 ·exact{ob.slots,u.keep b ob q n hb hx}
def Un.kept(k:∀b u,h.get? b=some u->h'.get? b=some u):Un fs ex H H h h':=
 {λb ob q _ _ _=>k b ob q,λb ob q _ _ _=>{ob.slots,k b ob q},λ_ _ _ n _=>n,λb ob q _=>{ob,k b ob q},λ_ _ q=>q,λ_ _ _ q=>q,λ_ ps q=>{#[],by rw[q];simp}}
def Un.refl:Un fs ex H H h h:=Un.kept λ_ _ q=>q
def Un.laid(k:∀b u,h.get? b=some u->h'.get? b=some u)(hp:h.objs.size<=a)(hn:H a=none):Un fs ex H (upd H a o) h h' where
 keep:=λb u q _ _ _=>k b u q
 slot:=λb u q _ _ _=>{u.slots,k b u q}
 free:=λb u q n _=>by rw[aL (aX (bw (aY q) hp))];exact n
 there:=λb u q _=>{u,k b u q}
 fD:=λb xs q=>by rw[aL (bC q hn)];exact q
 uC:=λb u xs q=>by rw[aL (bC q hn)];exact q
 zK:=λb ps q=>{#[],by rw[aL (bC q hn),q];simp}
def Un.write(mu:VR (H x))(he:e=x\/H e=some (.own x))(k:∀b u,b≠e->h.get? b=some u->h'.get? b=some u)(PQ:∃u,h'.get? e=some u):Un fs ex H (upd H x o) h h':=by
 have hx:∀b,H b=none->b≠x:=λb n z=>by subst z;rw[n]at mu;exact mu
 have hb:∀b,H b=none->b≠e:=λb n z=>by
  subst z;rcases he with r|r
  ·exact hx b n r
  ·rw[n]at r;cases r
 have hm:∀b u,H b=some u->¬VR (some u)->b≠x:=λb u q nm z=>by subst z;rw[q]at mu;exact nm mu
 refine{λb u q n _ _=>k b u (hb b n) q,λb u q n _ _=>{u.slots,k b u (hb b n) q},λb u q n _=>by rw[aL (hx b n)];exact n,λb u q _=>?_,
  λb xs q=>by rw[aL (hm b _ q λz=>z)];exact q,λb u xs q=>by rw[aL (hm b _ q λz=>z)];exact q,λb ps q=>{#[],by rw[aL (hm b _ q λz=>z),q];simp}}
 by_cases M7:b=e
 ·subst M7;exact PQ
 ·exact{u,k b u M7 q}
end
def trk(h:Heap)(H:Hp):Aah:=(List.range h.objs.size).filter λa=>(H a).isSome
def E9(h:Heap)(H:Hp):Heap:=PySem.W.hideAll h (trk h H)
def UU(h:Heap)(H:Hp):(E9 h H).objs.size=h.objs.size:=PySem.W.hideAll_size _ _
def Xq(e:h.get? b=some o)(n:H b=none):(E9 h H).get? b=some o:=
 PySem.W.hideAll_get _ e λhm=>by have q:=(cX.mp hm).2;rw[n]at q;simp at q
def abi(e:(E9 h H).get? b=some o):h.get? b=some o/\H b=none:=by
 have e':=PySem.W.of_hideAll (trk h H) e;refine{e',?_};cases q:H b with
 |none=>rfl
 |some x=>
  have z:(E9 h H).get? b=none:=PySem.W.hideAll_none (trk h H) (cX.mpr {cE.mpr (aY e'),by simp[q]});rw[z]at e;cases e
def ab0(g h:Heap)(L:Addr):Aaa:=(List.range h.objs.size).filterMap λa=>if a=L\/(g.get? a).isSome=true then none else(h.get? a).map λo=>(a,o)
def rest(g h:Heap)(L d:Addr):Aaa:=(ab0 g h L).filter λp=>decide (p.1≠d)
structure Mod(K:Frag)(mg:Aab)(base:Heap):Prop where
 Uk:K.In base
 glob:base.Ns mainGlobals mg
 blt:∃mb,base.Ns builtinsNs mb/\∀x:Str,x≠"__name__"->mb x=bootBuiltins x
 nolimit:base.NoLimit
structure Cx where
 prog:Program
 w:World
 K:Frag
 mg:Aab
 base:Heap
 A:Around
 N:Aaf
 aac:Shared
 aae:Hp
 env:Env
 outer:List Env
 stack:List Env
 ex:Aah
 fn:Str->Bool
 calm:Bool
 pn:Aaa
 xe:Aac
def Cs(l:List Env):Aah:=l.filterMap (·.frame)
abbrev Cx.fs(X:Cx):Aah:=Cs X.outer
def Vis(sc:Scope)(x:Str):Prop:=sc.names.lookup x=some .local\/sc.names.lookup x=some .cell\/sc.names.lookup x=some .free
def Loc(sc:Scope)(x:Str):Prop:=sc.names.lookup x=some .local\/sc.names.lookup x=some .cell
def Look(env:Env)(h:Heap)(m:Aab)(x:Str)(u:Value):Prop:=
 (env.kindOf x=some .local/\m x=some u)\/((env.kindOf x=some .cell\/env.kindOf x=some .free)/\∃c,env.cells.lookup x=some c/\h.IsCell c (some u))
structure Cx.Ok(X:Cx):Prop where
 mod:Mod X.K X.mg X.base
 kind:X.env.scope.kind=.function
 glob:X.env.globals=mainGlobals
 blt:X.env.builtins=builtinsNs
 above:X.aac.heap.objs.size<=X.env.locals
 inj:∀x y c,X.env.cells.lookup x=some c->X.env.cells.lookup y=some c->x=y
 has:∀x,(X.env.kindOf x=some .cell\/X.env.kindOf x=some .free)->∃c,X.env.cells.lookup x=some c
 Qg:∀x c,X.fn x=true->X.env.cells.lookup x=some c->X.aac.heap.objs.size<=c
 hd:X.calm=true->X.A.handled=none
 frames:X.A.frames=some X.stack
 Sw:X.stack=X.outer\/(X.stack=X.env::X.outer/\X.env.frame=some X.env.locals)
 Nv:∀b∈X.ex,b≠X.env.locals/\∀x c,X.env.cells.lookup x=some c->c≠b
 bs:∀b o,X.base.get? b=some o->X.aac.heap.get? b=some o/\X.aae b=none
 Be:X.base.objs.size<=X.aac.heap.objs.size
 E5:∀b o,X.base.get? b=some o->b∉X.ex
 Al:∀b∈X.ex,b∉X.fs
 sS:X.aac.heap.FunFrames X.base X.outer
 JN:∀b∈X.fs,X.aae b=none
structure Inv(X:Cx)(pins:Aaa)(Z:List (Aan))(H:Hp)(s:Shared):Prop where
 ok:X.Ok
 os:s.os=X.aac.os
 bare:AllBare s.gens
 base:Un X.fs X.ex X.aae H X.aac.heap s.heap
 loc:∃m,s.heap.Ns X.env.locals m/\∀(i:Nat)(x:Str)(v:V),X.N[i]?=some x->Z[i]?=some (some v)->Vis X.env.scope x->∃u,RelV v u/\Look X.env s.heap m x u
 cell:∀x c,X.env.cells.lookup x=some c->∃v,s.heap.IsCell c v
 free:H X.env.locals=none
 nE:∀x c,X.env.cells.lookup x=some c->H c=none
 pin:∀p∈X.pn++pins,s.heap.get? p.1=some p.2/\H p.1=none/\p.1≠X.env.locals/\p.1∉X.fs/\∀v,p.2.data≠ .cell v
 bQ:j5 X.prog X.w H s.heap
 len:Z.length=X.N.length
section
variable{X:Cx}{pins:Aaa}{Z:List (Aan)}{H H':Hp}{s:Shared}{h':Heap}
def Cx.Ok.afW(ok:X.Ok)(e:X.base.get? b=some o):b∉X.fs:=λhb=>by have:=(ok.sS.mem hb).1;rw[e]at this;cases this
def Inv.bs(I:Inv X pins Z H s):∀b o,X.base.get? b=some o->s.heap.get? b=some o/\H b=none:=λb o e=>
 {I.base.keep b o (I.ok.bs b o e).1 (I.ok.bs b o e).2 (I.ok.afW e) (I.ok.E5 b o e),I.base.free b o (I.ok.bs b o e).1 (I.ok.bs b o e).2 (I.ok.E5 b o e)}
def Inv.bk(I:Inv X pins Z H s):∀b o,X.base.get? b=some o->s.heap.get? b=some o:=λb o e=>(I.bs b o e).1
def Inv.mod(I:Inv X pins Z H s):Mod X.K X.mg X.base:=I.ok.mod
def Inv.mY(I:Inv X pins Z H s):X.K.In s.heap:=I.ok.mod.Uk.keeps I.bk
def Inv.lt(I:Inv X pins Z H s):X.env.locals<s.heap.objs.size:=let⟨_,hn,_⟩:=I.loc;hn.lt
def Inv.sz(I:Inv X pins Z H s):X.aac.heap.objs.size<=s.heap.objs.size:=bu I.ok.above (bB I.lt)
def Inv.W5(I:Inv X pins Z H s)(h:s.heap.objs.size<=a):a∉X.fs:=λhb=>by obtain⟨_,o,ho,_⟩:=I.ok.sS.mem hb;exact absurd (bw (aY ho) (bu I.sz h)) (da _)
def Inv.NR(I:Inv X pins Z H s):∀x c,X.env.cells.lookup x=some c->c≠X.env.locals:=λx c e z=>by obtain⟨v,o,ho,hd⟩:=I.cell x c e;obtain⟨m,⟨o',es,ep,pB,pD,_⟩,_⟩:=I.loc;rw[z,pB]at ho;cases ho;rw[pD]at hd;cases hd
def Inv.sS(I:Inv X pins Z H s):s.heap.FunFrames X.base X.outer:=by
 have all:∀(l:List Env),(∀b∈Cs l,b∈X.fs)->X.aac.heap.FunFrames X.base l->s.heap.FunFrames X.base l:=by
  intro l
  induction l with
  |nil=>intro _ _;trivial
  |cons env r ih=>
   intro hs hl;obtain⟨hk,⟨L,o,hf,hn,ho,hd⟩,hr⟩:=hl;have hL:=hs L (by unfold Cs;rw[fI,hf];exact aF);obtain⟨sl,e⟩:=I.base.slot L o ho (I.ok.JN L hL) hL λz=>I.ok.Al L z hL;exact{hk,⟨L,_,hf,hn,e,hd⟩,ih (λb hb=>hs b (by unfold Cs;rw[fI,hf];exact aG _ hb)) hr}
 exact all X.outer (λ_ hb=>hb) I.ok.sS
def Inv.stack(I:Inv X pins Z H s):s.heap.FunFrames X.base X.stack:=by
 rcases I.ok.Sw with e|⟨e,hf⟩
 ·rw[e];exact I.sS
 ·rw[e];obtain⟨m,hn,_⟩:=I.loc;refine .cons (by rw[I.ok.kind];decide) hf hn ?_ I.sS;exact mS (bu I.ok.Be I.ok.above)
def Inv.FR(I:Inv X pins Z H s):∀b∈Cs X.stack,b∈X.env.locals::X.fs:=λb hb=>by
 rcases I.ok.Sw with e|⟨e,hf⟩
 ·rw[e]at hb;exact aG _ hb
 ·rw[e]at hb;unfold Cs at hb;rw[fI,hf]at hb;exact hb
def Inv.Hm(I:Inv X pins Z H s):∀b∈Cs X.stack,H b=none:=λb hb=>by
 rcases aN.mp (I.FR b hb)with e|hb
 ·rw[e];exact I.free
 ·obtain⟨_,o,ho,_⟩:=I.ok.sS.mem hb;exact I.base.free b o ho (I.ok.JN b hb) λz=>I.ok.Al b z hb
def Inv.step{ch:Aah}(I:Inv X pins Z H s)
  (Bb:∀b∈ch,(b∈X.ex\/X.aac.heap.objs.size<=b)/\b≠X.env.locals/\(∀x c,X.env.cells.lookup x=some c->c≠b)/\∀p∈X.pn++pins,p.1≠b)
  (keep:∀b o,b≠X.env.locals->b∉X.fs->b∉ch->s.heap.get? b=some o->H b=none->h'.get? b=some o)
  (slot:∀b o,b≠X.env.locals->b∈X.fs->b∉ch->s.heap.get? b=some o->H b=none->∃sl,h'.get? b=some {o with slots:=sl}) (free:∀b o,b∉ch->s.heap.get? b=some o->H b=none->H' b=none)
  (there:∀b o,b∉ch->s.heap.get? b=some o->∃o',h'.get? b=some o')
  (fD:∀b xs,H b=some 672->H' b=some 672) (uC:∀b o u,H b=some (.fB o u)->H' b=some (.fB o u)) (zK:∀b ps,H b=some (.K7 ps)->∃more,H' b=some (.K7 (ps++more)))
  (ns:∀m,s.heap.Ns X.env.locals m->h'.Ns X.env.locals m) (bQ:j5 X.prog X.w H' h') (hg:AllBare g'):
  Inv X pins Z H' {s with heap:=h',gens:=g',drawn:=d',toks:=t'}:=by
 have Pk:∀b o,X.aac.heap.get? b=some o->b≠X.env.locals:=λb o e=>aX (bw (aY e) I.ok.above);have Zd:∀b o,X.aac.heap.get? b=some o->b∉X.ex->b∉ch:=λb o e hx hb=>by
  rcases(Bb b hb).1 with z|z
  ·exact hx z
  ·exact absurd (bw (aY e) z) (da _)
 have cellK:∀x c,X.env.cells.lookup x=some c->∀v,s.heap.IsCell c v->h'.IsCell c v:=λx c e v ⟨o,ho,hd⟩=>by
  have TY:=λz=>(Bb c z).2.2.1 x c e rfl;by_cases hc:c∈X.fs
  ·obtain⟨sl,q⟩:=slot c o (I.NR x c e) hc TY ho (I.nE x c e);exact⟨_,q,hd⟩
  ·exact{o,keep c o (I.NR x c e) hc TY ho (I.nE x c e),hd}
 refine{I.ok,I.os,hg,{λb o e n hb hx=>keep b o (Pk b o e) hb (Zd b o e hx) (I.base.keep b o e n hb hx) (I.base.free b o e n hx),λb o e n hb hx=>?_,λb o e n hx=>?_,λb o e hx=>?_,λb xs e=>fD b xs (I.base.fD b xs e),λb o xs e=>uC b o xs (I.base.uC b o xs e),λb ps e=>?_},?_,λx c e=>?_,?_,λx c e=>?_,695,bQ,I.len}
 ·obtain⟨sl,e1⟩:=I.base.slot b o e n hb hx;obtain⟨sl',e2⟩:=slot b _ (Pk b o e) hb (Zd b o e hx) e1 (I.base.free b o e n hx);exact⟨sl',e2⟩
 ·obtain⟨o',e1⟩:=I.base.there b o e hx;exact free b o' (Zd b o e hx) e1 (I.base.free b o e n hx)
 ·obtain⟨o',e1⟩:=I.base.there b o e hx;exact there b o' (Zd b o e hx) e1
 ·obtain⟨m1,e1⟩:=I.base.zK b ps e;obtain⟨m2,e2⟩:=zK b _ e1;exact{m1++m2,by rw[e2,Array.append_assoc]}
 ·obtain⟨m,hn,hl⟩:=I.loc;refine{m,ns m hn,λi x v e1 e2 e3=>?_};obtain⟨u,r,l⟩:=hl i x v e1 e2 e3;refine{u,r,?_};rcases l with l|⟨k,c,e,z⟩
  ·exact .inl l
  ·exact .inr {k,c,e,cellK x c e _ z}
 ·obtain⟨v,z⟩:=I.cell x c e;exact{v,cellK x c e v z}
 ·obtain⟨m,⟨o,_,_,ho,_⟩,_⟩:=I.loc;exact free _ o (λz=>(Bb _ z).2.1 9) ho I.free
 ·obtain⟨v,o,ho,hd⟩:=I.cell x c e;exact free c o (λz=>(Bb c z).2.2.1 x c e 9) ho (I.nE x c e)
 ·obtain⟨e,n,ne,nf,d⟩:=I.pin p hp;have TY:=λz=>(Bb p.1 z).2.2.2 p hp rfl;exact{keep p.1 p.2 ne nf TY e n,free p.1 p.2 TY e n,ne,nf,d}
def Inv.un(I:Inv X pins Z H s)(u:Un X.fs [] H H' s.heap h')(bQ:j5 X.prog X.w H' h'):Inv X pins Z H' {s with heap:=h',toks:=t'}:=by
 obtain⟨m,⟨o,es,ep,ho,r⟩,_⟩:=id I.loc;obtain⟨sl,hL⟩:=u.any ho I.free 59;exact I.step (ch:=[]) (λ_ z=>nomatch z) (λb o _ hb _ e n=>u.keep b o e n hb 59) (λb o _ hb _ e n=>u.slot b o e n hb 59) (λb o _ e n=>u.free b o e n 59) (λb o _ e=>u.there b o e 59) u.fD u.uC u.zK (λm' hm=>by obtain⟨o',Vn,Cw,pB,r'⟩:=hm;rw[ho]at pB;cases pB;exact⟨_,Vn,Cw,hL,r'⟩) bQ I.bare
def Inv.call(I:Inv X pins Z H s)(u:Un (Cs X.stack) ch H H' s.heap h')(bQ:j5 X.prog X.w H' h')(hg:AllBare g')
  (Bb:∀b∈ch,(b∈X.ex\/X.aac.heap.objs.size<=b)/\b≠X.env.locals/\(∀x c,X.env.cells.lookup x=some c->c≠b)/\∀p∈X.pn++pins,p.1≠b):
  Inv X pins Z H' {s with heap:=h',gens:=g',drawn:=d',toks:=t'}:=by
 obtain⟨m,⟨o,es,ep,ho,r⟩,_⟩:=id I.loc;obtain⟨sl,hL⟩:=u.any ho I.free λz=>(Bb _ z).2.1 rfl;exact I.step Bb (λb o hL hb hc e n=>u.keep b o e n (λz=>(aN.mp (I.FR b z)).elim hL hb) hc) (λb o _ _ hc e n=>u.any e n hc) (λb o hc e n=>u.free b o e n hc) (λb o hc e=>u.there b o e hc) u.fD u.uC u.zK (λm' hm=>by obtain⟨o',Vn,Cw,pB,r'⟩:=hm;rw[ho]at pB;cases pB;exact⟨_,Vn,Cw,hL,r'⟩) bQ hg
def Inv.turned(I:Inv X pins Z H s)(k:∀b o,b≠it->s.heap.get? b=some o->h'.get? b=some o)(hn:H it=none)(hL:it≠X.env.locals)
  (h1:it∈X.ex\/X.aac.heap.objs.size<=it) (h2:∀x c,X.env.cells.lookup x=some c->c≠it) (h3:∀p∈X.pn++pins,p.1≠it):Inv X pins Z H {s with heap:=h',toks:=t'}:=by
 have nit:∀b u,H b=some u->b≠it:=λb u e z=>by rw[z,hn]at e;cases e
 refine I.step (ch:=[it]) 694 (λb o _ _ hc e _=>k b o 707 e) (λb o _ _ hc e _=>{o.slots,k b o 707 e}) (λ_ _ _ _ n=>n)
  (λb o hc e=>{o,k b o 707 e}) (λ_ _ e=>e) (λ_ _ _ e=>e) (λb ps e=>{#[],by rw[e];simp}) (λm hm=>?_) (λb u e=>?_) I.bare
 ·have e:b=it:=by simpa using hb
  subst e;exact⟨h1,hL,h2,h3⟩
 ·obtain⟨o,es,ep,ho,r⟩:=hm;exact{o,es,ep,k _ o (cM hL) ho,r}
 ·refine(I.bQ b u e).qT (λc v hc q=>k c v ?_ q) (λ_ q=>q) λ_ _ q=>q;rcases hc with z|z
  ·rw[z];exact nit b u e
  ·exact nit c _ z
def Inv.tok(I:Inv X pins Z H s)(t:Nat):Inv X pins Z H {s with toks:=t}:=I.un Un.refl I.bQ
def Inv.kept(I:Inv X pins Z H s)(k:∀b u,s.heap.get? b=some u->h'.get? b=some u):Inv X pins Z H {s with heap:=h',toks:=t'}:=I.un (Un.kept k) (I.bQ.kept k)
def Inv.laid(I:Inv X pins Z H s)(k:∀b u,s.heap.get? b=some u->h'.get? b=some u)(hp:s.heap.objs.size<=a)(new:dY X.prog X.w (upd H a o) h' a o):
  Inv X pins Z (upd H a o) {s with heap:=h',toks:=t'}:=I.un (Un.laid k hp (I.bQ.fresh hp)) (I.bQ.laid k hp new)
def Inv.write(I:Inv X pins Z H s)(mu:VR (H x))(he:e=x\/H e=some (.own x))(k:∀b u,b≠e->s.heap.get? b=some u->h'.get? b=some u)(PQ:∃u,h'.get? e=some u)
  (new:dY X.prog X.w (upd H x o) h' x o):Inv X pins Z (upd H x o) {s with heap:=h',toks:=t'}:=I.un (Un.write mu he k PQ) (I.bQ.write mu he k PQ new)
def Inv.qC(I:Inv X pins Z H s)(h:∀p∈aeS,s.heap.get? p.1=some p.2/\H p.1=none/\p.1≠X.env.locals/\p.1∉X.fs/\∀v,p.2.data≠ .cell v):Inv X aeS Z H s:=
 {I.ok,I.os,I.bare,I.base,I.loc,I.cell,I.free,I.nE,λp hp=>(aV.mp hp).elim (λz=>I.pin p (bz _ z)) (h p),I.bQ,I.len}
def Mh{N:Aaf}(hN:N.Nodup){i j:Nat}(a:N[i]?=some x)(b:N[j]?=some x):i=j:=by obtain⟨h1,e1⟩:=au.mp a;obtain⟨h2,e2⟩:=au.mp b;exact(List.getElem_inj hN).mp (e1.trans e2.symm)
def IU(I:Inv X pins Z H s)(hN:X.N.Nodup)(hi:X.N[i]?=some x)(hx:Loc X.env.scope x)(r:RelV v u)
  (h:∀s',Inv X pins (Z.set i (some v)) H s'->(∃a,Heap.SameBut a s.heap s'.heap/\(a=X.env.locals\/X.env.cells.lookup x=some a))->Q () s') (hf:X.fn x=true\/X.env.scope.names.lookup x=some .local:=by first|exact .inl rfl|exact .inr rfl|assumption):wpAny M A (storeName X.env x u) Q E s:=by
 obtain⟨m,hn,hl⟩:=id I.loc;have hiZ:i<Z.length:=by rw[I.len];exact(au.mp hi).1
 have NR:=I.NR;have tracked:∀{a:Addr}{h':Heap},(∃o,s.heap.get? a=some o/\H a=none)->Heap.SameBut a s.heap h'->j5 X.prog X.w H h':=λ{a h'} ha hs b ob e=>by
  obtain⟨_,_,ZR⟩:=ha;refine(I.bQ b ob e).qT (λc w' hc q=>(hs.2 c ?_).trans q) (λ_ q=>q) λ_ _ q=>q;rintro rfl;rcases hc with rfl|hc
  ·rw[ZR]at e;cases e
  ·rw[ZR]at hc;cases hc
 rcases hx with hk|hk
 ·refine wpAny_storeName_local hk hn (λh' hn' hs=>?_) (by rw[I.ok.kind];rfl);obtain⟨oL,_,_,Gx,_⟩:=id hn;refine h _ {I.ok,I.os,I.bare,{λb o e n hb hx=>(hs.2 b (aX (bw (aY e) I.ok.above))).trans (I.base.keep b o e n hb hx),λb o e n hb hx=>?_,I.base.free,λb o e hx=>?_,I.base.fD,I.base.uC,I.base.zK},{_,hn',λj y v' e1 e2 e3=>?_},λy c e=>?_,I.free,I.nE,695,tracked {oL,Gx,I.free} hs,by simpa using I.len} {_,hs,.inl rfl}
  ·obtain⟨sl,e1⟩:=I.base.slot b o e n hb hx;exact{sl,(hs.2 b (aX (bw (aY e) I.ok.above))).trans e1}
  ·obtain⟨o',e1⟩:=I.base.there b o e hx;exact{o',(hs.2 b (aX (bw (aY e) I.ok.above))).trans e1}
  ·by_cases hj:j=i
   ·subst hj;rw[hi]at e1;cases e1;rw[yC hiZ]at e2;cases e2;exact{u,r,.inl {hk,59}}
   ·rw[AN (cM hj)]at e2;obtain⟨u',r',q⟩:=hl j y v' e1 e2 e3;refine{u',r',?_};rcases q with⟨k,e⟩|⟨k,c,e,z⟩
    ·refine .inl {k,?_};have:y≠x:=λe=>hj (Mh hN e1 (e▸hi));simp[this,e]
    ·exact .inr {k,c,e,z.sameBut hs (NR y c e)}
  ·obtain⟨w',z⟩:=I.cell y c e;exact{w',z.sameBut hs (NR y c e)}
  ·obtain⟨e,n,ne,nf,d⟩:=I.pin p hp;exact{(hs.2 p.1 ne).trans e,n,ne,nf,d}
 ·have hfn:X.fn x=true:=by
   rcases hf with z|z
   ·exact z
   ·rw[z]at hk;cases hk
  obtain⟨c,hc⟩:=I.ok.has x (.inl hk);obtain⟨w',z⟩:=I.cell x c hc;refine wpAny_storeName_cell I.ok.kind hk hc z (λh' JI hs=>?_);obtain⟨oc,ZI,agU⟩:=id z;refine h {s with heap:=h'} {I.ok,I.os,I.bare,{λb o e n hb hx=>(hs.2 b (aX (bw (aY e) (I.ok.Qg x c hfn hc)))).trans (I.base.keep b o e n hb hx),λb o e n hb hx=>?_,I.base.free,λb o e hx=>?_,I.base.fD,I.base.uC,I.base.zK},{m,hn.sameBut hs (cM (NR x c hc)),λj y v' e1 e2 e3=>?_},λy c' e=>?_,I.free,I.nE,695,tracked {oc,ZI,I.nE x c hc} hs,by simpa using I.len} {c,hs,.inr hc}
  ·obtain⟨sl,e1⟩:=I.base.slot b o e n hb hx;exact{sl,(hs.2 b (aX (bw (aY e) (I.ok.Qg x c hfn hc)))).trans e1}
  ·obtain⟨o',e1⟩:=I.base.there b o e hx;exact{o',(hs.2 b (aX (bw (aY e) (I.ok.Qg x c hfn hc)))).trans e1}
  ·by_cases hj:j=i
   ·subst hj;rw[hi]at e1;cases e1;rw[yC hiZ]at e2;cases e2;exact{u,r,.inr {.inl hk,c,hc,JI}}
   ·rw[AN (cM hj)]at e2;obtain⟨u',r',q⟩:=hl j y v' e1 e2 e3;refine{u',r',?_};rcases q with q|⟨k,c',e,z'⟩
    ·exact .inl q
    ·refine .inr {k,c',e,z'.sameBut hs ?_};rintro rfl;exact hj (Mh hN e1 (I.ok.inj _ _ _ e hc▸hi))
  ·by_cases hcc:c'=c
   ·subst hcc;exact⟨_,JI⟩
   ·obtain⟨w2,z2⟩:=I.cell y c' e;exact{w2,z2.sameBut hs hcc}
  ·obtain⟨e,n,ne,nf,d⟩:=I.pin p hp;refine{(hs.2 p.1 ?_).trans e,n,ne,nf,d};intro q;rw[q,ZI]at e;exact d w' (by rw[<-(bR e)];exact agU)
def EI(I:Inv X pins Z H s)(hN:X.N.Nodup)(hi:X.N[i]?=some x)(hx:Loc X.env.scope x)(r:RelV v u)
  (h:∀s',Inv X pins (Z.set i (some v)) H s'->Q () s') (hf:X.fn x=true\/X.env.scope.names.lookup x=some .local:=by first|exact .inl rfl|exact .inr rfl|assumption):wpAny M A (storeName X.env x u) Q E s:=
 IU I hN hi hx r (λs' I' _=>h s' I') hf
def Inv.aah(I:Inv X pins Z H s)(ho:s'.os=s.os)(u:Un (Cs X.stack) ch H H' s.heap s'.heap)(bQ:j5 X.prog X.w H' s'.heap)(hg:AllBare s'.gens)
  (Bb:∀b∈ch,(b∈X.ex\/X.aac.heap.objs.size<=b)/\b≠X.env.locals/\(∀x c,X.env.cells.lookup x=some c->c≠b)/\∀p∈X.pn++pins,p.1≠b):Inv X pins Z H' s':=by
 obtain⟨h',g',d',t',o'⟩:=s';have e:=ho;subst e;exact I.call u bQ hg Bb
abbrev XK:=Value->Aai->Hp->Prop
abbrev St:=List (Aan)
abbrev VK:=V->Hp->Prop
abbrev TE:=St->Hp->VK->Prop
abbrev TT:=St->Hp->(Bool->Hp->Prop)->Prop
abbrev TA:=St->Hp->(Aam->Hp->Prop)->Prop
structure Ends where
 nx:St->Hp->Prop
 rt:VK
 bk:St->Hp->Prop:=λ_ _=>False
 ct:St->Hp->Prop:=λ_ _=>False
abbrev TS:=Ends->St->Hp->Prop
end
inductive EP(X:Cx)(pins:Aaa)(Z:St)(Q:VK)(u:Value)(s':Shared):Prop
 |mk v H' (_:Inv X pins Z H' s') (_:RelV v u) (_:Q v H')
inductive TP(X:Cx)(pins:Aaa)(Z:St)(Q:Bool->Hp->Prop)(b:Bool)(s':Shared):Prop
 |mk H' (_:Inv X pins Z H' s') (_:Q b H')
inductive AP(X:Cx)(pins:Aaa)(Z:St)(Q:Aam->Hp->Prop)(us:Aae)(s':Shared):Prop
 |mk vs H' (_:Inv X pins Z H' s') (_:Vals vs us) (_:Q vs H')
def SP(X:Cx)(pins:Aaa)(D:Ends)(f:Flow)(s':Shared):Prop:=
 match f with
 | .next=>∃σ' H',Inv X pins σ' H' s'/\D.nx σ' H'
 | .brk=>∃σ' H',Inv X pins σ' H' s'/\D.bk σ' H'
 | .cont=>∃σ' H',Inv X pins σ' H' s'/\D.ct σ' H'
 | .ret u=>∃v σ' H',Inv X pins σ' H' s'/\RelV v u/\D.rt v H'
def PE(X:Cx)(e:Expr)(t:TE):Prop:=
 ∀(pins:Aaa)(s:Shared)(Z:St)(H:Hp)(Q:VK),Inv X pins Z H s->t Z H Q->wpAny 56 X.A (eval e X.env) 709 X.xe s
def PT(X:Cx)(e:Expr)(t:TT):Prop:=
 ∀(pins:Aaa)(s:Shared)(Z:St)(H:Hp)(Q:Bool->Hp->Prop),Inv X pins Z H s->t Z H Q->wpAny 56 X.A (isTrue e X.env (eval e X.env)) (TP X pins Z Q) X.xe s
def PW(X:Cx)(e:Expr)(t:TT):Prop:=
 ∀(whole:Sem Value)(pins:Aaa)(s:Shared)(Z:St)(H:Hp)(Q:Bool->Hp->Prop),Inv X pins Z H s->t Z H Q->wpAny 56 X.A (isTrue e X.env whole) (TP X pins Z Q) X.xe s
def PW.pt(h:PW X e t):PT X e t:=h _
def PA(X:Cx)(es:List Expr)(t:TA):Prop:=
 ∀(pos:Pos)(pins:Aaa)(s:Shared)(Z:St)(H:Hp)(Q:Aam->Hp->Prop),Inv X pins Z H s->t Z H Q->wpAny 56 X.A (spliced (backTo pos 712)) (AP X pins Z Q) X.xe s
def PS(X:Cx)(st:Stmt)(t:TS):Prop:=
 ∀(pins:Aaa)(s:Shared)(Z:St)(H:Hp)(D:Ends),Inv X pins Z H s->t D Z H->wpAny 56 X.A (exec st X.env) (SP X pins D) X.xe s
def pX(X:Cx)(st:List Stmt)(t:TS):Prop:=
 ∀(pins:Aaa)(s:Shared)(Z:St)(H:Hp)(D:Ends),Inv X pins Z H s->t D Z H->wpAny 56 X.A (execs st X.env) (SP X pins D) X.xe s
def gB(h:wpAny M A t Q E s)(hQ:∀a s,Q a s->Q' a s):wpAny M A t Q' E s:=dC h hQ λ_ _ x=>x
def dh{X:Cx}{pins:Aaa}{Z:St}{Q:VK}{t:Sem Value}{Q':Aac}{s:Shared}(h:wpAny 56 X.A t 709 X.xe s)(k:∀u s x H,Inv X pins Z H s->RelV x u->Q x H->Q' u s):wpAny 56 X.A t Q' X.xe s:=gB h λu s ⟨x,H,I,r,q⟩=>k u s x H I r q
def sE{X:Cx}{pins:Aaa}{Z:St}{Q:Aam->Hp->Prop}{t:Sem (Aae)}{Q':Aae->Shared->Prop}{s:Shared}(h:wpAny 56 X.A t (AP X pins Z Q) X.xe s)(k:∀u s x H,Inv X pins Z H s->Vals x u->Q x H->Q' u s):wpAny 56 X.A t Q' X.xe s:=gB h λu s ⟨x,H,I,r,q⟩=>k u s x H I r q
def Hl{X:Cx}{pins:Aaa}{Z:St}{Q:Bool->Hp->Prop}{t:Sem Bool}{Q':Bool->Shared->Prop}{s:Shared}(h:wpAny 56 X.A t (TP X pins Z Q) X.xe s)(k:∀u s H,Inv X pins Z H s->Q u H->Q' u s):wpAny 56 X.A t Q' X.xe s:=gB h λu s ⟨H,I,q⟩=>k u s H I q
section
variable{X:Cx}
inductive acg(i:Nat)(Z:St)(H:Hp)(Q:VK):Prop
 |mk v (_:Z[i]?=some (some v)) (_:Q v H)
def tC(v:V):TE:=λ_ H Q=>Q v H
def acT(hN:X.N[i]?=some x)(hv:Vis X.env.scope x)(hd:663=false:=by decide)(Co:(x==("__classdict__":Str))=false:=by decide):PE X (.Name x pos) (acg i):=by
 intro pins s Z H Q I h;obtain⟨v,e,h⟩:=h;obtain⟨m,hn,hl⟩:=I.loc;obtain⟨u,r,l⟩:=hl i x v hN e hv;have fin:EP X pins Z Q u s:=⟨v,H,I,r,h⟩;rcases l with⟨hk,hm⟩|⟨hk,c,hc,KG⟩
 ·exact FL (zF I.ok.kind hk hn hm fin) hd
 ·rcases hk with hk|hk
  ·exact FL (Bk I.ok.kind hk hc KG fin) hd
  ·exact FL (wpAny_loadName_free I.ok.kind hk hc KG fin Co) hd
def aO{i j pos}:PE X (.Constant (.int i) j pos) (tC (.int i)):=λ_ _ _ H _ I h=>wpAny_Constant_int {.int i,H,686,726,h}
def fJ{b j pos}:PE X (.Constant (.bool b) j pos) (tC (.bl b)):=λ_ _ _ H _ I h=>Constant_bool {.bl b,H,I,9,h}
def jB{j pos}:PE X (.Constant .none j pos) (tC .cz):=λ_ _ _ H _ I h=>Constant_none {.cz,H,I,9,h}
def cT{x j pos}:PE X (.Constant (.str x) j pos) (tC (.str x)):=λ_ _ _ H _ I h=>Calls.Constant_str {.str x,H,686,726,h}
def Gl(X:Cx)(x:Str):Prop:=X.env.kindOf x=some .globalImplicit
def HW(I:Inv X pins Z H s)(hg:Gl X x)(hm:X.mg x=some u)(h:Q u s)
  (hd:663=false:=by decide):wpAny 56 X.A (eval (.Name x pos) X.env) Q E s:=
 uK I.ok.kind hg (Calls.loadGlobal_global (I.ok.glob▸I.mod.glob.keeps I.bk) hm h) hd
def rp(I:Inv X pins Z H s)(hg:Gl X x)(hm:X.mg x=none)(hv:bootBuiltins x=some u)(h:Q u s)
  (hn:x≠"__name__":=by decide) (hd:663=false:=by decide):wpAny 56 X.A (eval (.Name x pos) X.env) Q E s:=by
 obtain⟨mb,h1,h2⟩:=I.mod.blt;exact uK I.ok.kind hg (Calls.loadGlobal_builtin (I.ok.glob▸I.mod.glob.keeps I.bk) hm (I.ok.blt▸h1.keeps I.bk) ((h2 x hn).trans hv) h) hd
def Pd(hg:Gl X x)(hm:X.mg x=some u)(r:RelV v u)(hd:663=false:=by decide):PE X (.Name x pos) (tC v):=
 λ_ _ _ H _ I h=>HW I hg hm ⟨v,H,I,r,h⟩ hd
def aa9(hg:Gl X x)(hm:X.mg x=none)(hv:bootBuiltins x=some u)(r:RelV v u)(hn:x≠"__name__":=by decide)(hd:663=false:=by decide):PE X (.Name x pos) (tC v):=
 λ_ _ _ H _ I h=>rp I hg hm hv ⟨v,H,I,r,h⟩ hn hd
variable{a b:Expr}{pos:Pos}
def PC(X:Cx)(op:CmpOp)(a b:Expr)(t:TE):Prop:=
 ∀(pins:Aaa)(s:Shared)(Z:St)(H:Hp)(Q:VK),Inv X pins Z H s->t Z H Q->
  wpAny 56 X.A (eval a X.env) (λv aaa=>wpAny 56 X.A (eval b X.env) (λu aad=>wpAny 56 X.A (compareOp op v u) 709 X.xe aad) X.xe aaa) X.xe s
inductive OP(Q:Bool->Hp->Prop)(x:V)(H1:Hp):Prop
 |mk c (_:x=.bl c) (_:Q c H1)
def tB(t:TE):TT:=λZ H Q=>t Z H λx H1=>OP Q x H1
def Te(h:PC X op a b t)(h1:behindInMarks op b=false:=by first|exact afX _ (by decide) (by decide)|rfl):PT X (.Compare a [op] [b] pos) (tB t):=by intro pins s Z H Q I hw;refine yH (gB (h pins s Z H _ I hw) λv s1 h1=>gB h1 λu s2 h2=>gB h2 λc s3 bU=>?_) h1;obtain⟨x,H1,I1,r1,q1⟩:=bU;obtain⟨d,rfl,q⟩:=q1;cases r1;exact eT ⟨H1,I1,q⟩
def gH(h:PE X e t)(he:∀whole,isTrue e X.env whole=(do let v<-whole;standAt e.pos;holding [v] (truthy v)):=by intro _;rfl):PT X e (tB t):=by intro pins s Z H Q I hw;refine isTrue_plain (dh (h pins s Z H _ I hw) λv s1 x H1 I1 r1 q1=>?_) (he _);obtain⟨d,rfl,q⟩:=q1;cases r1;exact eT ⟨H1,I1,q⟩
variable{ta tb:TE}{tA OP:TT}{rest:List Expr}
def afG(t u:TT):TT:=λZ H Q=>t Z H λc H1=>if c=true then u Z H1 Q else Q false H1
def tOr(t u:TT):TT:=λZ H Q=>t Z H λc H1=>if c=true then Q true H1 else u Z H1 Q
def afx(t:TT):TT:=λZ H Q=>t Z H λc H1=>Q (!c) H1
def yP(ha:PT X a tA):PW X (.BoolOp .And [a] pos) tA:=by
 intro wh pins s Z H Q I h;refine isTrue_and (gB (ha pins s Z H Q I h) λc s1 e=>?_);cases c with
 |true=>exact isTrue_and_nil e
 |false=>exact e
def pR(ha:PT X a tA):PW X (.BoolOp .Or [a] pos) tA:=by
 intro wh pins s Z H Q I h;refine isTrue_or (gB (ha pins s Z H Q I h) λc s1 e=>?_);cases c with
 |false=>exact isTrue_or_nil e
 |true=>exact e
def BR(ha:PT X a tA)(hb:PW X (.BoolOp .And (b::rest) pos) OP):PW X (.BoolOp .And (a::b::rest) pos) (afG tA OP):=by
 intro wh pins s Z H Q I h;refine isTrue_and (Hl 698 λc s1 H1 I1 q1=>?_);cases c with
 |true=>exact hb wh pins s1 Z H1 Q I1 q1
 |false=>exact⟨H1,I1,q1⟩
def oP(ha:PT X a tA)(hb:PW X (.BoolOp .Or (b::rest) pos) OP):PW X (.BoolOp .Or (a::b::rest) pos) (tOr tA OP):=by
 intro wh pins s Z H Q I h;refine isTrue_or (Hl 698 λc s1 H1 I1 q1=>?_);cases c with
 |true=>exact⟨H1,I1,q1⟩
 |false=>exact hb wh pins s1 Z H1 Q I1 q1
def i9(ha:PT X a tA):PT X (.UnaryOp .Not a pos) (afx tA):=by intro pins s Z H Q I h;exact isTrue_not (Hl (ha pins s Z H (λc H1=>Q (!c) H1) I h) λ_ _ a b c=>⟨a,b,c⟩)
inductive acv(tb:TE)(Z:St)(Q:VK)(x:V)(H1:Hp):Prop
 |mk c (_:x=.bl c) (_:if c=true then tb Z H1 Q else Q (.bl false) H1)
def aeL(ta tb:TE):TE:=λZ H Q=>ta Z H λx H1=>acv tb Z Q x H1
inductive acn(Q:VK)(x:V)(H1:Hp):Prop
 |mk c (_:x=.bl c) (_:Q (.bl (!c)) H1)
def aeD(ta:TE):TE:=λZ H Q=>ta Z H λx H1=>acn Q x H1
def vP{op}(h:PE X a t):PE X (.BoolOp op [a] pos) t:=λpins s Z H Q I hw=>BoolOp_one (h pins s Z H Q I hw)
def tV(ha:PE X a ta)(hb:PE X (.BoolOp .And (b::rest) pos) tb):PE X (.BoolOp .And (a::b::rest) pos) (aeL ta tb):=by
 intro pins s Z H Q I h;refine BoolOp_and (dh 698 λv s1 x H1 I1 r1 q1=>?_);obtain⟨c,rfl,q1⟩:=q1;cases r1;refine eT ?_;cases c with
 |true=>exact hb pins s1 Z H1 Q I1 q1
 |false=>exact{.bl false,H1,I1,9,q1}
def acU(ha:PE X a ta):PE X (.UnaryOp .Not a pos) (aeD ta):=by intro pins s Z H Q I h;refine UnaryOp_ (dh 698 λv s1 x H1 I1 r1 q1=>?_);obtain⟨c,rfl,q1⟩:=q1;cases r1;exact not_of (eT {.bl (!c),H1,I1,9,q1})
def tIf(t:TT)(ta tb:TE):TE:=λZ H Q=>t Z H λc H1=>if c=true then ta Z H1 Q else tb Z H1 Q
def E1(hc:PT X c tA)(ha:PE X a ta)(hb:PE X b tb):PE X (.IfExp c a b pos) (tIf tA ta tb):=by
 intro pins s Z H Q I h;refine wpAny_IfExp (Hl (hc pins s Z H _ I h) λd s1 H1 I1 q1=>?_);cases d with
 |true=>exact ha pins s1 Z H1 Q I1 q1
 |false=>exact hb pins s1 Z H1 Q I1 q1
end
def bf(K:Frag)(H:Hp)(a:Addr)(xs:Aam):Prop:=
 Rd H a (.lst xs)\/
  ∃(o:Obj)(ba:Aaj)(n:Nat),K.lookup a=some o/\o.cls=.type "list"/\o.dict=none/\o.data=.seq ba n/\ba.size<=sizeLine/\Vals xs ba.toList
def aZ(K:Frag)(H:Hp)(a:Addr)(xs:Aam):Prop:=
 Rd H a 672\/
  ∃(o:Obj)(ba:Aaj)(n:Nat),K.lookup a=some o/\o.cls=.type "tuple"/\o.data=.seq ba n/\ba.size<=sizeLine/\Vals xs ba.toList
def aho:Value->Aan
 | .none=>some .cz
 | .bool b=>some (.bl b)
 | .int i _=>some (.int i)
 | .str x _=>some (.str x)
 | .bytes b _=>some (.uU b)
 | .float b _=>some (.Nt b)
 | .ref a=>some 659
 | .type n=>some (.ty n)
 |_=>none
def RelV.abs(r:RelV x u):aho u=some x:=by
 cases x with
 |cz=>cases r;rfl
 |bl _=>cases r;rfl
 |int _=>obtain⟨t,rfl⟩:=r;rfl
 |str _=>obtain⟨t,rfl⟩:=r;rfl
 |uU _=>obtain⟨t,rfl⟩:=r;rfl
 |Nt _=>obtain⟨t,rfl⟩:=r;rfl
 |ref _=>cases r;rfl
 |ty _=>cases r;rfl
def RelV.inj(r:RelV x u)(q:RelV y u):x=y:=bR (r.abs.symm.trans q.abs)
theorem Vals.inj:∀{xs ys:Aam}{us:Aae},Vals xs us->Vals ys us->xs=ys
 |_,_,_,.nil,.nil=>rfl
 |_,_,_,.cons r t,.cons r' t'=>by rw[r.inj r',Vals.inj t t']
section
variable{X:Cx}{pins:Aaa}{Z:St}{H:Hp}{s:Shared}{a:Addr}{xs ys:Aam}
def bf.of{K:Frag}(h:H a=some (.lst xs)):bf K H a xs:=.inl (.inl h)
def aZ.of{K:Frag}(h:H a=some 672):aZ K H a xs:=.inl (.inl h)
def Inv.list(I:Inv X pins Z H s)(h:bf X.K H a xs):∃ba:Aae,Vals xs ba/\PlainL s.heap a ba.toArray/\xs.length<=sizeLine:=by
 rcases h with h|⟨o,ba,n,hk,hc,hd,hs,hz,r⟩
 ·obtain⟨z,ba,n,r,e⟩:=h.ok I.bQ;exact{ba,r,⟨_,n,e,rfl,rfl,rfl⟩,z}
 ·refine{ba.toList,r,{o,n,I.mY a o hk,hc,hd,by simpa using hs},?_};have e:=r.length;simp only[bJ]at e;lia
def Inv.tuple(I:Inv X pins Z H s)(h:aZ X.K H a xs):∃ba:Aae,Vals xs ba/\IsTup s.heap a ba.toArray/\xs.length<=sizeLine:=by
 rcases h with h|⟨o,ba,n,hk,hc,hs,hz,r⟩
 ·obtain⟨z,ba,r,p,_⟩:=h.ok I.bQ;exact⟨ba,r,p,z⟩
 ·refine{ba.toList,r,{o,I.mY a o hk,hc,n,by simpa using hs},?_};have e:=r.length;simp only[bJ]at e;lia
def Inv.Mt(I:Inv X pins Z H s)(h:bf X.K H a xs)(h':bf X.K H a ys):xs=ys:=by
 obtain⟨ba,r,⟨o,n,e,_,_,d⟩,_⟩:=I.list h;obtain⟨its',r',⟨o',n',e',_,_,d'⟩,_⟩:=I.list h';rw[e]at e';cases e';rw[d]at d';injection d' with d1 _;have:ba=its':=by simpa using cR Array.toList d1
 subst this;exact r.inj r'
def Inv.tQ(I:Inv X pins Z H s)(h:aZ X.K H a xs)(h':aZ X.K H a ys):xs=ys:=by
 obtain⟨ba,r,⟨o,e,_,n,d⟩,_⟩:=I.tuple h;obtain⟨its',r',⟨o',e',_,n',d'⟩,_⟩:=I.tuple h';rw[e]at e';cases e';rw[d]at d';injection d' with d1 _;have:ba=its':=by simpa using cR Array.toList d1
 subst this;exact r.inj r'
end
abbrev Cx.xM(X:Cx)(E:Aac):Cx:={X with xe:=E}
abbrev Cx.Za(X:Cx):Cx:=X.xM λ_ _=>False
def Cx.Ok.xM{X:Cx}(ok:X.Ok)(E:Aac):(X.xM E).Ok:=
 {ok.mod,ok.kind,ok.glob,ok.blt,ok.above,ok.inj,ok.has,ok.Qg,ok.hd,ok.frames,ok.Sw,ok.Nv,ok.bs,ok.Be,ok.E5,ok.Al,ok.sS,ok.JN}
def Cx.Ok.tP{X:Cx}(ok:(X.xM E).Ok):X.Ok:=
 {ok.mod,ok.kind,ok.glob,ok.blt,ok.above,ok.inj,ok.has,ok.Qg,ok.hd,ok.frames,ok.Sw,ok.Nv,ok.bs,ok.Be,ok.E5,ok.Al,ok.sS,ok.JN}
section
variable{X:Cx}{pins:Aaa}{Z:St}{H:Hp}{s:Shared}{E:Aac}
def Inv.xM(I:Inv X pins Z H s)(E:Aac):Inv (X.xM E) pins Z H s:={I.ok.xM E,I.os,I.bare,I.base,I.loc,I.cell,I.free,I.nE,I.pin,I.bQ,I.len}
def Inv.tP(I:Inv (X.xM E) pins Z H s):Inv X pins Z H s:={I.ok.tP,I.os,I.bare,I.base,I.loc,I.cell,I.free,I.nE,I.pin,I.bQ,I.len}
def SP.tP(h:SP (X.xM E) pins D f s'):SP X pins D f s':=by
 cases f with
 |next=>obtain⟨σ',H',I,q⟩:=h;exact{σ',H',I.tP,q}
 |brk=>obtain⟨σ',H',I,q⟩:=h;exact{σ',H',I.tP,q}
 |cont=>obtain⟨σ',H',I,q⟩:=h;exact{σ',H',I.tP,q}
 |ret u=>obtain⟨v,σ',H',I,r,q⟩:=h;exact{v,σ',H',I.tP,r,q}
def pX.Za{st:List Stmt}(h:pX X.Za st t):pX X st t:=λpins s Z H D I hw=>
 dC (h pins s Z H D (I.xM _) hw) (λ_ _ q=>q.tP) λ_ _ z=>False.elim z
end
section
variable{X:Cx}{st:Stmt}{rest:List Stmt}{t u:TS}{e:Expr}{te:TE}{pos:Pos}
def aeE:TS:=λD Z H=>D.nx Z H
def ack(t u:TS):TS:=λD Z H=>t {D with nx:=u D} Z H
def cy:pX X [] aeE:=λ_ _ Z H _ I h=>qP ⟨Z,H,I,h⟩
def aB(h1:PS X st t)(h2:pX X rest u):pX X (st::rest) (ack t u):=by
 intro pins s Z H D I h;refine wpAny_execs_cons (gB (h1 pins s Z H {D with nx:=u D} I h) λf s1 q=>?_);cases f with
 |next=>
  obtain⟨σ',H',I',q⟩:=q;exact h2 pins s1 σ' H' D I' q
 |ret v=>exact q
 |brk=>exact q
 |cont=>exact q
def aQ(h1:PS X st t):pX X [st] t:=by
 intro pins s Z H D I h;refine wpAny_execs_cons (gB (h1 pins s Z H D I h) λf s1 q=>?_);cases f with
 |next=>exact qP q
 |ret v=>exact q
 |brk=>exact q
 |cont=>exact q
def Inv.quiet(I:Inv X pins Z H s):interactive X.env=false:=by simp[interactive,I.ok.kind]
def aeG(te:TE):TS:=λD Z H=>te Z H λ_ H1=>D.nx Z H1
def fR(he:PE X e te)(hs:swapsWith e none pos.line X.env=pure false:=by rfl):PS X (.Expr e pos) (aeG te):=by intro pins s Z H D I h;exact wpAny_Expr_any (dh 732 λv s1 x H1 I1 r1 q1=>⟨Z,H1,I1,q1⟩) I.quiet hs
def afw(te:TE):TS:=λD Z H=>te Z H D.rt
def bK(he:PE X e te):PS X (.Return (some e) pos) (afw te):=by intro pins s Z H D I h;exact wpAny_Return_some (dh 732 λv s1 x H1 I1 r1 q1=>⟨x,Z,H1,I1,r1,q1⟩)
def afz(c:TT)(t u:TS):TS:=λD Z H=>c Z H λb H1=>if b=true then t D Z H1 else u D Z H1
def dg(hc:PT X c tc)(ha:pX X a t)(hb:pX X b u):PS X (.If c a b pos) (afz tc t u):=by
 intro pins s Z H D I h;refine wpAny_If (Hl (hc pins s Z H _ I h) λd s1 H1 I1 q1=>?_);cases d with
 |true=>exact ha pins s1 Z H1 D I1 q1
 |false=>exact hb pins s1 Z H1 D I1 q1
abbrev TG:=V->St->Hp->(St->Hp->Prop)->Prop
abbrev TGs:=Aam->St->Hp->(St->Hp->Prop)->Prop
end
def PG(X:Cx)(target:Expr)(t:TG):Prop:=
 ∀(pins:Aaa)(s:Shared)(Z:St)(H:Hp)(v:V)(u:Value)(Q:St->Hp->Prop),Inv X pins Z H s->RelV v u->t v Z H Q->
  wpAny 56 X.A (assign target X.env u) (λ_ s'=>∃σ' H',Inv X pins σ' H' s'/\Q σ' H') X.xe s
def Hc(X:Cx)(ts:List Expr)(t:TGs):Prop:=
 ∀(pins:Aaa)(s:Shared)(Z:St)(H:Hp)(vs:Aam)(us:Aae)(Q:St->Hp->Prop),Inv X pins Z H s->Vals vs us->t vs Z H Q->
  wpAny 56 X.A (assignInOrder ((assignEach ts X.env).map (·.2)) us) (λ_ s'=>∃σ' H',Inv X pins σ' H' s'/\Q σ' H') X.xe s
abbrev AD:=V->V->V->Hp->(Hp->Prop)->Prop
def aer(X:Cx)(t:AD):Prop:=
 ∀(pins:Aaa)(s:Shared)(Z:St)(H:Hp)(o i v:V)(ov iv u:Value)(Q:Hp->Prop),Inv X pins Z H s->RelV o ov->RelV i iv->RelV v u->t o i v H Q->
  wpAny 56 X.A (setItem ov iv u) (λ_ s'=>∃H',Inv X pins Z H' s'/\Q H') X.xe s
abbrev TIp:=V->V->Hp->VK->Prop
def PIp(X:Cx)(op:Operator)(t:TIp):Prop:=
 ∀(pins:Aaa)(s:Shared)(Z:St)(H:Hp)(x y:V)(v u:Value)(Q:VK),Inv X pins Z H s->RelV x v->RelV y u->t x y H Q->
  wpAny 56 X.A (inplaceOp op v u) 709 X.xe s
section
variable{X:Cx}{pos:Pos}
def xx(i:Nat):TG:=λv Z H Q=>Q (Z.set i (some v)) H
def qD(hN:X.N.Nodup)(hi:X.N[i]?=some x)(hx:Loc X.env.scope x)(hf:X.fn x=true\/X.env.scope.names.lookup x=some .local:=by first|exact .inl rfl|exact .inr rfl|assumption):PG X (.Name x pos) (xx i):=by intro pins s Z H v u Q I r h;exact DK (EI I hN hi hx r (λs' I'=>⟨_,H,I',h⟩) hf)
def ad3:TGs:=λvs Z H Q=>vs=[]/\Q Z H
inductive RF(t:TG)(u:TGs)(vs:Aam)(Z:St)(H:Hp)(Q:St->Hp->Prop):Prop
 |mk v r (_:vs=v::r) (_:t v Z H λσ' H'=>u r σ' H' Q)
def fY:Hc X [] ad3:=by intro pins s Z H vs us Q I r h;obtain⟨e,h⟩:=h;subst e;cases r;exact assignInOrder_nil ⟨Z,H,I,h⟩
def cj(h1:PG X e t)(h2:Hc X es u)
  (hs:(assignEach (e::es) X.env).map (·.2)=assign e X.env::(assignEach es X.env).map (·.2):=by rfl):Hc X (e::es) (RF t u):=by
 intro pins s Z H vs us Q I r h;obtain⟨v,vr,e1,h⟩:=h;subst e1;cases r with
 |cons r rr=>
  rw[hs];exact assignInOrder_cons (gB (h1 pins s Z H _ _ _ I r h) λ_ s1 ⟨σ1,H1,I1,q1⟩=>h2 pins s1 σ1 H1 _ _ Q I1 rr q1)
inductive XE(K:Frag)(n:Nat)(t:TGs)(v:V)(Z:St)(H:Hp)(Q:St->Hp->Prop):Prop
 |mk a xs (_:v=.ref a) (_:aZ K H a xs) (_:xs.length=n) (_:t xs Z H Q)
def jA(hc:X.calm=true)(h:Hc X es t)
  (hn:(assignEach es X.env).length=n:=by rfl) (A8:(assignEach es X.env).findIdx? (·.1)=none:=by rfl):PG X (.Tuple es k pos) (XE X.K n t):=by
 intro pins s Z H v u Q I r hw;obtain⟨a,xs,e1,hq,hl,hw⟩:=hw;subst e1;cases r;obtain⟨ba,rv,ht,hz⟩:=I.tuple hq;refine assign_Tuple_tuple (I.ok.hd hc) ht (by simp[hn,<-hl,rv.length]) A8 λh' hx=>?_;exact h pins _ Z H xs _ Q (I.kept (t':=s.toks) λb o e=>hx b o (aX (aY e)) e) (by simpa using rv) hw
def ahb(to ti:TE)(t:AD):TG:=λv Z H Q=>to Z H λo H1=>ti Z H1 λi H2=>t o i v H2 λH3=>Q Z H3
def LR(ho:PE X o to)(hi:PE X i ti)(hs:aer X t)
  (ha:∀v,assign (.Subscript o i pos) X.env v=(do
   let ov<-holding [v] (eval o X.env)
   let iv<-holding [v,ov] (eval i X.env)
   standAt pos
   holding [v,ov,iv] (setItem ov iv v)
   release [v,ov,iv] []):=by intro _;rfl):PG X (.Subscript o i pos) (ahb to ti t):=by
 intro pins s Z H v u Q I r h;refine ah (cn (dh 733 λov s1 x H1 I1 r1 q1=>?_));refine ah (cn (dh (hi pins s1 Z H1 _ I1 q1) λiv s2 y H2 I2 r2 q2=>?_));exact ah (AV (ah (cn (gB (hs pins s2 Z H2 x y v ov iv u _ I2 r1 r2 r q2) λ_ s3 ⟨H3,I3,q3⟩=>wpAny_release ⟨Z,H3,I3,q3⟩))))
def Wb(te:TE)(g:TG):TS:=λD Z H=>te Z H λx H1=>g x Z H1 D.nx
def yR(he:PE X e te)(hg:PG X tg g)(hs:swapsWithSole [tg] e pos.line X.env=pure false:=by rfl)(hw:swappedStores [tg] e X.env=pure none:=by rfl)
  (h1:(assignEach [tg] X.env).map (·.2)=[assign tg X.env]:=by rfl):PS X (.Assign [tg] e pos) (Wb te g):=by
 intro pins s Z H D I h;refine wpAny_Assign_stores (dh 732 λv s1 x H1 I1 r1 q1=>?_) hs hw;rw[h1];exact gB (hg pins s1 Z H1 x v _ I1 r1 q1) λ_ s2 q=>q
def kx(hN:X.N.Nodup)(hi:X.N[i]?=some x)(hx:Loc X.env.scope x)(he:PE X e te)(hs:swapsWith e (some (.Name x pos')) pos.line X.env=pure false:=by rfl)(hf:X.fn x=true\/X.env.scope.names.lookup x=some .local:=by first|exact .inl rfl|exact .inr rfl|assumption):
  PS X (.Assign [.Name x pos'] e pos) (Wb te (xx i)):=by
 intro pins s Z H D I h;exact wpAny_Assign_Name (dh 732 λv s1 y H1 I1 r1 q1=>EI I1 hN hi hx r1 (λs2 I2=>⟨_,H1,I2,q1⟩) hf) hs
inductive afF(i:Nat)(te:TE)(ti:TIp)(D:Ends)(Z:St)(H:Hp):Prop
 |mk x (_:Z[i]?=some (some x)) (_:te Z H λy H1=>ti x y H1 λz H2=>D.nx (Z.set i (some z)) H2)
def acS{i:Nat}{x:Str}{e:Expr}{te:TE}{op:Operator}{ti:TIp}{pos':Pos}(hN:X.N.Nodup)(hi:X.N[i]?=some x)(hx:Loc X.env.scope x)(he:PE X e te)(ho:PIp X op ti)(hf:X.fn x=true\/X.env.scope.names.lookup x=some .local:=by first|exact .inl rfl|exact .inr rfl|assumption):
  PS X (.AugAssign (.Name x pos') op e pos) (afF i te ti):=by
 intro pins s Z H D I h;obtain⟨v,e1,h⟩:=h;obtain⟨m,hn,hl⟩:=I.loc;have vis:Vis X.env.scope x:=by rcases hx with k|k;exact .inl k;exact .inr (.inl k)
 obtain⟨u,r,l⟩:=hl i x v hi e1 vis;refine wpAny_AugAssign_Name ?_;have go:wpAny 56 X.A (eval e X.env) (λw aad=>wpAny 56 X.A (inplaceOp op u w) (λr aaf=>wpAny 56 X.A (storeName X.env x r) (λ_=>SP X pins D .next) X.xe aaf) X.xe aad) X.xe s:=by refine dh 732 λw s1 y H1 I1 r1 q1=>?_;refine gB (ho pins s1 Z H1 v y u w _ I1 r r1 q1) λz s2 bV=>?_;obtain⟨zv,H2,I2,r2,q2⟩:=bV;exact EI I2 hN hi hx r2 (λs3 I3=>⟨_,H2,I3,q2⟩) hf
 rcases l with⟨hk,hm⟩|⟨hk,c,hc,KG⟩
 ·exact zF I.ok.kind hk hn hm go
 ·rcases hk with hk|hk
  ·exact Bk I.ok.kind hk hc KG go
  ·rcases hx with k|k
   ·have:X.env.scope.names.lookup x=some .free:=hk;rw[k]at this;cases this
   ·have:X.env.scope.names.lookup x=some .free:=hk;rw[k]at this;cases this
inductive ipI(f:Int->Int->Int)(x:V)(y:V)(H:Hp)(Q:VK):Prop
 |mk i j (_:x=.int i) (_:y=.int j) (_:Q (.int (f i j)) H)
def adu:PIp X .Add (ipI λi j=>i+j):=by intro pins s Z H x y v u Q I r1 r2 h;obtain⟨i,j,e1,e2,q⟩:=h;subst e1;subst e2;obtain⟨t,rfl⟩:=r1;obtain⟨t',rfl⟩:=r2;exact iadd_int {.int _,H,686,726,q}
def acf(c:TT)(tb:TS):TS:=λD Z H=>∃W:Nat->St->Hp->Prop,(∃m,W m Z H)/\∀m Z H,W m Z H->
 c Z H λb H1=>if b=true then∃N:St->Hp->Prop,(∀σ' H',N σ' H'->∃m',m'<m/\W m' σ' H')/\tb {D with nx:=N,ct:=N,bk:=D.nx} Z H1 else D.nx Z H1
def WC(hp:PassesOwn 56 X.A X.env X.xe)(hc:PT X c tc)(hb:pX X body tb):PS X (.While c body [] pos) (acf tc tb):=by
 intro pins s Z H D I h;obtain⟨W,⟨m0,w0⟩,turn⟩:=h;refine wpAny_While (codeAny_whileLoop (λn s'=>∃σ' H',Inv X pins σ' H' s'/\W n σ' H') ?_ m0 ⟨Z,H,I,w0⟩);rintro n s1 ⟨σ1,H1,I1,w1⟩;refine jG hp (Hl (hc pins s1 σ1 H1 _ I1 (turn n σ1 H1 w1)) λb s2 H2 I2 q2=>?_);cases b with
 |true=>
  obtain⟨N,hN,q2⟩:=q2;refine jG hp (gB (hb pins s2 σ1 H2 _ I2 q2) λf s3 q3=>?_);cases f with
  |next=>
   obtain⟨σ3,H3,I3,n3⟩:=q3;obtain⟨m',hm,w3⟩:=hN σ3 H3 n3;exact⟨m',hm,σ3,H3,I3,w3⟩
  |cont=>
   obtain⟨σ3,H3,I3,n3⟩:=q3;obtain⟨m',hm,w3⟩:=hN σ3 H3 n3;exact⟨m',hm,σ3,H3,I3,w3⟩
  |brk=>exact q3
  |ret v=>exact q3
 |false=>
  exact qP ⟨σ1,H2,I2,q2⟩
structure It where
 go:Nat->Hp->Prop
 D4:Nat->Hp->V->Hp->Prop
 stop:Nat->Hp->Prop
end
def oI(X:Cx)(pins:Aaa)(H:Hp)(b:Addr):Prop:=
 H b=none/\b≠X.env.locals/\b∉X.fs/\(b∈X.ex\/X.aac.heap.objs.size<=b)/\(∀x c,X.env.cells.lookup x=some c->c≠b)/\∀p∈X.pn++pins,p.1≠b
def Inv.uD(I:Inv X pins Z H s)(hb:s.heap.objs.size<=b)(hn:H' b=none):oI X pins H' b:=by
 refine{hn,cu (bw I.lt hb),I.W5 hb,.inr (bu I.sz hb),λx c e z=>?_,λp hp z=>?_}
 ·obtain⟨v,q⟩:=I.cell x c e;exact absurd (bw q.lt (z▸hb)) (da _)
 ·exact absurd (bw (aY (I.pin p hp).1) (z▸hb)) (da _)
structure Turn(P:Program)(w:World)(K:Frag)(tg:Expr)(J:It)(fp:Aah)(it:Addr)(tn:Nat->Heap->Prop):Prop where
 mem:it∈fp
 obj:∀i h,tn i h->∀b∈fp,∃o,h.get? b=some o/\∀v,o.data≠ .cell v
 keep:∀i h h',tn i h->(∀b∈fp,∀o,h.get? b=some o->h'.get? b=some o)->tn i h'
 item:∀(X:Cx),X.prog=P->X.w=w->X.K=K->X.calm=true->∀(i:Nat)(pins:Aaa)(s:Shared)(Z:St)(H:Hp)(E:Aac),Inv X pins Z H s->(∀b∈fp,oI X pins H b)->tn i s.heap->J.go i H->
  wpAny 667 X.A (pyNext (.ref it)) (λr s1=>∃u,r=some u/\
   wpAny 667 X.A (letOwnedTupleGo tg (.ref it) u) (λ_ s2=>∃x H',Inv X pins Z H' s2/\RelV x u/\J.D4 i H x H'/\tn (i+1) s2.heap/\∀b∈fp,H' b=none) E s1) E s
 done:∀(X:Cx),X.prog=P->X.w=w->X.K=K->X.calm=true->∀(i:Nat)(pins:Aaa)(s:Shared)(Z:St)(H:Hp)(E:Aac),Inv X pins Z H s->(∀b∈fp,oI X pins H b)->tn i s.heap->J.stop i H->
  wpAny 667 X.A (pyNext (.ref it)) (λr s1=>r=none/\Inv X pins Z H s1) E s
 self:∀(A:Around)(i:Nat)(s:Shared)(Q:Aac)(E:Aac),tn i s.heap->Q (.ref it) s->wpAny 667 A (pyIter (.ref it)) Q E s
abbrev TI:=St->Hp->(It->Hp->Prop)->Prop
def PIE(X:Cx)(pins:Aaa)(Z:St)(tg:Expr)(R:It->Hp->Prop)(ZA:Value)(s2:Shared):Prop:=
 ∃(it:Addr)(fp:Aah)(tn:Nat->Heap->Prop)(J:It)(H':Hp),ZA=.ref it/\Inv X pins Z H' s2/\Turn X.prog X.w X.K tg J fp it tn/\tn 0 s2.heap/\(∀b∈fp,oI X pins H' b)/\R J H'
def PI(X:Cx)(tg iter:Expr)(wi:TI):Prop:=
 ∀(pins:Aaa)(s:Shared)(Z:St)(H:Hp)(R:It->Hp->Prop),Inv X pins Z H s->wi Z H R->
  wpAny 56 X.A (eval iter X.env) (λv s1=>wpAny 56 X.A (pyIter v) (PIE X pins Z tg R) X.xe s1) X.xe s
def GD(ho:s.heap.get? it=some o)(hc:o.cls=.type n)(hd:o.data=.fields vs)
  (hn:["enumerate","zip","dict_itemiterator","dict_reverseitemiterator","odict_iterator","itertools.zip_longest","itertools.pairwise"].contains n=false) (hQ:Q () s):wpAny M A (letOwnedTupleGo tg (.ref it) u) Q E s:=by
 cases tg<;>first
  |exact aq hQ
  |(cases u<;>first
    |exact aq hQ
    |(refine ah (FJ ho ?_);rw[hc,hd];show wpAny M A (if(["enumerate","zip","dict_itemiterator","dict_reverseitemiterator","odict_iterator","itertools.zip_longest","itertools.pairwise"].contains n&&vs[0]?==some (rawInt _))=true then _ else _) Q E s;rw[aI (by intro h;rw[hn,kr]at h;cases h)];exact aq hQ))
def VU(K:Frag)(a:Addr):It:=
 {λi H=>∃xs x,bf K H a xs/\xs[i]?=some x,λi H x H'=>H'=H/\∀xs,bf K H a xs->xs[i]?=some x,λi H=>∃xs,bf K H a xs/\xs.length<=i}
def VT(K:Frag)(a:Addr):It:=
 {λi H=>∃xs x,aZ K H a xs/\xs[i]?=some x,λi H x H'=>H'=H/\∀xs,aZ K H a xs->xs[i]?=some x,λi H=>∃xs,aZ K H a xs/\xs.length<=i}
def Itr(lo:Int)(n:Nat):It:={λi _=>i<n,λi H x H'=>H'=H/\x=.int (lo+i),λi _=>n<=i}
def Sl{K:Frag}(a it:Addr):Turn P w K tg (VU K a) [it] it (λi h=>h.IsListIter it a i) where
 mem:=by simp
 obj:=λi h st b hb=>by
  have e:b=it:=by simpa using hb
  subst e;obtain⟨o,e,c,d⟩:=st;exact{o,e,λv z=>by rw[d]at z;cases z}
 keep:=λi h h' st k=>st.at λo e=>k it 59 o e
 item:=by intro X hP hw hK hc i pins s Z H E I hf st hg;subst hP hw hK;obtain⟨xs,x,hq,hx⟩:=hg;obtain⟨ba,rv,p,hz⟩:=I.list hq;obtain⟨u,hu,ru⟩:=rv.get hx;obtain⟨f0,f1,f2,f3,f4,f5⟩:=hf it 59;refine xI st p.isList (by simpa using hu) λh' mT sb=>?_;obtain⟨o,e,c,d⟩:=id mT;exact{u,9,GD e c d 7 {x,H,727,ru,{9,λys hy=>by rw[I.Mt hy hq];exact hx},mT,λb hb=>(hf b hb).1}}
 done:=by intro X hP hw hK hc i pins s Z H E I hf st hg;subst hP hw hK;obtain⟨xs,hq,hx⟩:=hg;obtain⟨ba,rv,p,hz⟩:=I.list hq;obtain⟨f0,f1,f2,f3,f4,f5⟩:=hf it 59;have hl:=rv.length;exact yG (I.ok.hd hc) st p.isList (by simp;lia) λh' eb=>{9,729}
 self:=λ_ _ _ _ _ st h=>wpAny_pyIter_listiter st h
def Qs{K:Frag}(a it:Addr):Turn P w K tg (VT K a) [it] it (λi h=>h.IsTupleIter it a i) where
 mem:=by simp
 obj:=λi h st b hb=>by
  have e:b=it:=by simpa using hb
  subst e;obtain⟨o,e,c,d⟩:=st;exact{o,e,λv z=>by rw[d]at z;cases z}
 keep:=λi h h' st k=>st.at λo e=>k it 59 o e
 item:=by intro X hP hw hK hc i pins s Z H E I hf st hg;subst hP hw hK;obtain⟨xs,x,hq,hx⟩:=hg;obtain⟨ba,rv,p,hz⟩:=I.tuple hq;obtain⟨u,hu,ru⟩:=rv.get hx;obtain⟨f0,f1,f2,f3,f4,f5⟩:=hf it 59;refine wpAny_pyNext_tuple_item st (show s.heap.IsTuple a ba.toArray from p) (by simpa using hu) λh' mT sb=>?_;obtain⟨o,e,c,d⟩:=id mT;exact{u,9,GD e c d 7 {x,H,727,ru,{9,λys hy=>by rw[I.tQ hy hq];exact hx},mT,λb hb=>(hf b hb).1}}
 done:=by intro X hP hw hK hc i pins s Z H E I hf st hg;subst hP hw hK;obtain⟨xs,hq,hx⟩:=hg;obtain⟨ba,rv,p,hz⟩:=I.tuple hq;obtain⟨f0,f1,f2,f3,f4,f5⟩:=hf it 59;have hl:=rv.length;exact wpAny_pyNext_tuple_end (I.ok.hd hc) st (show s.heap.IsTuple a ba.toArray from p) (by simp;lia) λh' eb=>{9,729}
 self:=λ_ _ _ _ _ st h=>wpAny_pyIter_tupleiter st h
def Qt{K:Frag}(it:Addr)(lo:Int)(n:Nat):Turn P w K tg (Itr lo n) [it] it (λi h=>IsRangeIter h it (lo+(i:Nat)*1) ((n:Int) -(i:Nat)) 1) where
 mem:=by simp
 obj:=λi h st b hb=>by
  have e:b=it:=by simpa using hb
  subst e;exact{_,st,λv z=>by have z':=z;cases z'}
 keep:=λi h h' st k=>k it 59 _ st
 item:=by intro X hP hw hK hc i pins s Z H E I hf st hg;subst hP hw hK;obtain⟨f0,f1,f2,f3,f4,f5⟩:=hf it 59;refine(Walks.range (prog:=X.prog) (w:=X.w) (I.ok.hd hc) it lo 1 n).item i s _ _ hg st λv h' tk hv mT kk=>?_;obtain⟨t,rfl⟩:=hv;refine{_,9,GD mT rfl rfl 7 {.int (lo+i),H,(I.turned (λb o hb e=>kk b o (by simpa using hb) e) f0 f1 f3 f4 f5),{t,?_},⟨rfl,rfl⟩,mT,λb hb=>(hf b hb).1}};rw[Int.mul_one]
 done:=by intro X hP hw hK hc i pins s Z H E I hf st hg;obtain⟨f0,f1,f2,f3,f4,f5⟩:=hf it 59;exact wpAny_pyNext_range_end (I.ok.hd hc) st (by have:n<=i:=hg;lia) λh' eb=>{9,729}
 self:=λ_ _ _ _ _ st h=>wpAny_pyIter_rangeiter st h
section
variable{X:Cx}{tg:Expr}
inductive adA(K:Frag)(R:It->Hp->Prop)(x:V)(H1:Hp):Prop
 |mk a (_:x=.ref a) (_:(∃xs,bf K H1 a xs)) (_:R (VU K a) H1)
def ZD(K:Frag)(tl:TE):TI:=λZ H R=>tl Z H λx H1=>adA K R x H1
inductive ae3(K:Frag)(R:It->Hp->Prop)(x:V)(H1:Hp):Prop
 |mk a (_:x=.ref a) (_:(∃xs,aZ K H1 a xs)) (_:R (VT K a) H1)
def ady(K:Frag)(tl:TE):TI:=λZ H R=>tl Z H λx H1=>ae3 K R x H1
def dI(hl:PE X l tl):PI X tg l (ZD X.K tl):=by
 intro pins s Z H R I h;refine dh (hl pins s Z H _ I h) λv s1 x H1 I1 r1 q1=>?_;obtain⟨a,e,⟨xs,hq⟩,q⟩:=q1;subst e;cases r1;obtain⟨ba,rv,p,hz⟩:=I1.list hq;refine lQ p.isList ?_;refine{s1.heap.objs.size,[s1.heap.objs.size],_,_,H1,9,I1.kept λb o e=>ao _ e,Sl a _,{_,682,9,9},694,q};have e:b=s1.heap.objs.size:=by simpa using hb
 subst e;exact I1.uD (aw _) 704
def iy(hl:PE X l tl):PI X tg l (ady X.K tl):=by
 intro pins s Z H R I h;refine dh (hl pins s Z H _ I h) λv s1 x H1 I1 r1 q1=>?_;obtain⟨a,e,⟨xs,hq⟩,q⟩:=q1;subst e;cases r1;obtain⟨ba,rv,p,hz⟩:=I1.tuple hq;refine jw (show s1.heap.IsTuple a ba.toArray from p) ?_;refine{s1.heap.objs.size,[s1.heap.objs.size],_,_,H1,9,I1.kept λb o e=>ao _ e,Qs a _,{_,682,9,9},694,q};have e:b=s1.heap.objs.size:=by simpa using hb
 subst e;exact I1.uD (aw _) 704
def Wv{lo hi:Int}(I:Inv X pins Z H s)(h1:-(2^62)<=lo)(h2:lo<2^62)(h3:-(2^62)<=hi)(h4:hi<2^62)
  (q:R (Itr lo (hi -lo).toNat) H):wpAny 56 X.A (pyIter 352) (PIE X pins Z tg R) E {s with heap:=s.heap.push {cls:=.type "range",data:=.fields #[.int lo t,.int hi u,.int 1 v]},toks:=tk}:=by
 refine wpAny_pyIter_range (IsRange.new ..) (small_one h1 h2 h3 h4) ?_;have I1:Inv X pins Z H {s with heap:=s.heap.push {cls:=.type "range",data:=.fields #[.int lo t,.int hi u,.int 1 v]},toks:=tk}:=I.kept λb o e=>ao _ e;refine{(s.heap.push {cls:=.type "range",data:=.fields #[.int lo t,.int hi u,.int 1 v]}).objs.size,[(s.heap.push {cls:=.type "range",data:=.fields #[.int lo t,.int hi u,.int 1 v]}).objs.size],_,_,H,rfl,
  I1.kept λb o e=>ao _ e,Qt _ lo (hi -lo).toNat,?_,λb hb=>?_,q}
 ·have e1:lo+((0:Nat):Int)*1=lo:=by simp
  have e2:(((hi -lo).toNat:Nat):Int) -((0:Nat):Int)=Builtin.Range.rangeSize lo hi 1:=by rw[rangeSize_one];split<;>lia
  rw[e1,e2];exact aU _ rfl
 ·have e:b=(s.heap.push {cls:=.type "range",data:=.fields #[.int lo t,.int hi u,.int 1 v]}).objs.size:=by simpa using hb
  subst e;exact I1.uD (aw _) 704
inductive adz(R:It->Hp->Prop)(vs:Aam)(H1:Hp):Prop
 |mk (j:Int) (_:vs=[.int j]) (_:-(2^62)<=j) (_:j<2^62) (_:R (Itr 0 j.toNat) H1)
def ae6(ta:TA):TI:=λZ H R=>ta Z H λvs H1=>adz R vs H1
def nZ(hg:Gl X "range")(hm:X.mg "range"=none)(ha:PA X [a] ta)(hs:starEach [a] X.env=[(false,eval a X.env)]:=by rfl):PI X tg (.Call (.Name "range" p) [a] [] pos) (ae6 ta):=by
 intro pins s Z H R I h;refine Hg (rp I hg hm boot_range (eO 703 hs 9));obtain⟨j,e,q1,q2,q⟩:=q1;subst e;cases r1 with
 |cons r rr=>
  cases rr;obtain⟨t,rfl⟩:=r;exact call_range_1 (Wv I1 ∅ ∅ q1 q2 (by simpa using q))
def afA(wi:TI)(g:TG)(tb:TS):TS:=λD Z H=>wi Z H λJ H1=>∃W:Nat->Nat->St->Hp->Prop,(∃m,W 0 m Z H1)/\∀i m Z H,W i m Z H->
 (J.stop i H/\D.nx Z H)\/(J.go i H/\∃N:St->Hp->Prop,(∀σ' H',N σ' H'->∃m',m'<m/\W (i+1) m' σ' H')/\∀x H',J.D4 i H x H'->g x Z H' λσ2 H2=>tb {D with nx:=N,ct:=N,bk:=D.nx} σ2 H2)
def yS(fp:Aah)(h:Heap):Aaa:=fp.filterMap λb=>(h.get? b).map λo=>(b,o)
def oW(hb:b∈fp)(e:h.get? b=some o):(b,o)∈yS fp h:=lE.mpr {b,hb,by rw[e];rfl}
def TH(hp:p∈yS fp h):p.1∈fp/\h.get? p.1=some p.2:=by
 obtain⟨b,hb,e⟩:=lE.mp hp;cases q:h.get? b with
 |none=>rw[q]at e;cases e
 |some o=>
  rw[q]at e;have e':=bR e;subst e';exact⟨hb,q⟩
def Inv.pinned(I:Inv X pins Z H s)(hf:∀b∈fp,oI X pins H b)(ho:∀b∈fp,∃o,s.heap.get? b=some o/\∀v,o.data≠ .cell v):Inv X (pins++yS fp s.heap) Z H s:=
 I.qC λp hp=>(aV.mp hp).elim (λz=>I.pin p (bh _ z)) λz=>by obtain⟨hb,e⟩:=TH z;obtain⟨f0,f1,f2,_⟩:=hf p.1 hb;obtain⟨o,e',d⟩:=ho p.1 hb;rw[e]at e';cases e';exact⟨e,f0,f1,f2,d⟩
def Inv.vw(I:Inv X (pins++pl) Z H s):Inv X pins Z H s:=I.qC λp hp=>I.pin p (bh _ (bz _ hp))
def dJ(hp:PassesOwn 56 X.A X.env X.xe)(hc:X.calm=true)(hi:PI X tg iter wi)(hg:PG X tg g)(hb:pX X body tb)
  (hs:∀x,foldedSetIterable iter X.env x=pure x:=by intro _;rfl):PS X (.For tg iter body [] pos) (afA wi g tb):=by
 intro pins s Z H D I h;refine wpAny_For (gB (hi pins s Z H _ I h) λv s1 h1=>gB h1 λZA s2 h2=>?_) hs;obtain⟨it,fp,tn,J,H2,e,I2,T,By,f2,W,⟨m0,w0⟩,turn⟩:=h2;subst e;have We:∀{H':Hp},(∀b∈fp,H' b=none)->∀b∈fp,oI X pins H' b:=λhn b hb=>{hn b hb,(f2 b hb).2};refine codeAny_forLoop_any (λn s'=>∃i σ' H',Inv X pins σ' H' s'/\tn i s'.heap/\(∀b∈fp,H' b=none)/\W i n σ' H') ?_ m0 {0,Z,H2,I2,By,λb hb=>(f2 b hb).1,w0};rintro n s3 ⟨i,σ3,H3,I3,st3,fr3,w3⟩;rcases turn i n σ3 H3 w3 with⟨stop,qn⟩|⟨go,N,hN,step⟩
 ·refine jG hp (gB (T.done X 9 9 9 hc i pins s3 σ3 H3 X.xe I3 (We fr3) st3 stop) λr s4 hz3=>?_);obtain⟨hr,I4⟩:=hz3;subst hr;exact qP ⟨σ3,H3,I4,qn⟩
 ·refine jG hp (gB (T.item X 9 9 9 hc i pins s3 σ3 H3 X.xe I3 (We fr3) st3 go) λr s4 UB=>?_);obtain⟨u,hr,h4⟩:=UB;subst hr;refine jG hp (gB h4 λ_ s5 hz5=>?_);obtain⟨x,H5,I5,r5,y5,st5,fr5⟩:=hz5;refine jG hp (gB (hg _ s5 σ3 H5 x u _ (I5.pinned (We fr5) (T.obj _ _ st5)) r5 (step x H5 y5)) λ_ s6 hz6=>?_);obtain⟨σ6,H6,I6,q6⟩:=hz6;refine jG hp (gB (hb _ s6 σ6 H6 _ I6 q6) λf s7 q7=>?_);have again:∀{σ7:St}{H7:Hp},Inv X (pins++yS fp s5.heap) σ7 H7 s7->N σ7 H7->∃m,m<n/\∃i σ' H',Inv X pins σ' H' s7/\tn i s7.heap/\(∀b∈fp,H' b=none)/\W i m σ' H':=λ{σ7 H7} I7 n7=>by obtain⟨m',hm,w7⟩:=hN σ7 H7 n7;refine{m',hm,i+1,σ7,H7,I7.vw,T.keep _ _ _ st5 λb hb o e=>(I7.pin (b,o) (bh _ (bh _ (oW hb e)))).1,694,w7};obtain⟨o,e,d⟩:=T.obj _ _ st5 b hb;exact(I7.pin (b,o) (bh _ (bh _ (oW hb e)))).2.1
  cases f with
  |next=>obtain⟨σ7,H7,I7,n7⟩:=q7;exact again I7 n7
  |cont=>obtain⟨σ7,H7,I7,n7⟩:=q7;exact again I7 n7
  |brk=>obtain⟨σ7,H7,I7,q7⟩:=q7;exact{σ7,H7,I7.vw,q7}
  |ret v=>obtain⟨x7,σ7,H7,I7,r7,q7⟩:=q7;exact{x7,σ7,H7,I7.vw,r7,q7}
abbrev vp(J:It)(g:TG)(tb:TS)(D:Ends)(Z:St)(H:Hp):Prop:=∃W:Nat->Nat->St->Hp->Prop,(∃m,W 0 m Z H)/\∀i m Z H,W i m Z H->
 (J.stop i H/\D.nx Z H)\/(J.go i H/\∃N:St->Hp->Prop,(∀σ' H',N σ' H'->∃m',m'<m/\W (i+1) m' σ' H')/\∀x H',J.D4 i H x H'->g x Z H' λσ2 H2=>tb {D with nx:=N,ct:=N,bk:=D.nx} σ2 H2)
def Cv{J:It}{n:Nat}{g:TG}{tb:TS}{D:Ends}{Z:St}{H:Hp}(Pv:Nat->St->Hp->Prop)(h0:Pv 0 Z H)(hg:∀i Z H,i<n->Pv i Z H->J.go i H/\∀x H',J.D4 i H x H'->g x Z H' λσ2 H2=>tb {D with nx:=Pv (i+1),ct:=Pv (i+1),bk:=D.nx} σ2 H2)(hd:∀Z H,Pv n Z H->J.stop n H/\D.nx Z H):vp J g tb D Z H:=by
 refine{λi m Z H=>m=n -i/\i<=n/\Pv i Z H,{n,59,aP _,h0},?_};rintro i m Z H ⟨rfl,hi,p⟩;by_cases bO:i<n
 ·obtain⟨a,b⟩:=hg i Z H bO p;exact .inr {a,Pv (i+1),λσ' H' p'=>{n -(i+1),8,9,bO,p'},b}
 ·have e:i=n:=by lia
  subst e;exact .inl (hd Z H p)
def gL{K:Frag}{g:TG}{tb:TS}{D:Ends}(Pv:Nat->St->Hp->Prop)(h0:Pv 0 Z H)(hl:∀i Z H,i<=xs.length->Pv i Z H->bf K H a xs)
  (hs:∀i x Z H,xs[i]?=some x->Pv i Z H->g x Z H λσ2 H2=>tb {D with nx:=Pv (i+1),ct:=Pv (i+1),bk:=D.nx} σ2 H2) (hd:∀Z H,Pv xs.length Z H->D.nx Z H):vp (VU K a) g tb D Z H:=by
 refine Cv Pv h0 (λi Z H hi p=>?_) λZ H p=>{{xs,hl _ Z H (aw _) p,aw _},hd Z H p};have q:=hl i Z H (bB hi) p;refine{{xs,_,q,ay hi},?_};rintro x H' ⟨rfl,y⟩;exact hs i x Z _ (y xs q) p
def qJ{K:Frag}{g:TG}{tb:TS}{D:Ends}(Pv:Nat->St->Hp->Prop)(h0:Pv 0 Z H)(hl:∀i Z H,i<=xs.length->Pv i Z H->aZ K H a xs)
  (hs:∀i x Z H,xs[i]?=some x->Pv i Z H->g x Z H λσ2 H2=>tb {D with nx:=Pv (i+1),ct:=Pv (i+1),bk:=D.nx} σ2 H2) (hd:∀Z H,Pv xs.length Z H->D.nx Z H):vp (VT K a) g tb D Z H:=by
 refine Cv Pv h0 (λi Z H hi p=>?_) λZ H p=>{{xs,hl _ Z H (aw _) p,aw _},hd Z H p};have q:=hl i Z H (bB hi) p;refine{{xs,_,q,ay hi},?_};rintro x H' ⟨rfl,y⟩;exact hs i x Z _ (y xs q) p
def Ct{lo:Int}{g:TG}{tb:TS}{D:Ends}(Pv:Nat->St->Hp->Prop)(h0:Pv 0 Z H)
  (hs:∀i Z H,i<n->Pv i Z H->g (.int (lo+i)) Z H λσ2 H2=>tb {D with nx:=Pv (i+1),ct:=Pv (i+1),bk:=D.nx} σ2 H2) (hd:∀Z H,Pv n Z H->D.nx Z H):vp (Itr lo n) g tb D Z H:=by
 refine Cv Pv h0 (λi Z H hi p=>{hi,?_}) λZ H p=>{aw _,hd Z H p};rintro x H' ⟨rfl,rfl⟩;exact hs i Z _ hi p
abbrev R2:=V->V->Hp->VK->Prop
end
def iU(X:Cx)(f:Value->Value->Sem Value)(r:R2):Prop:=
 ∀(pins:Aaa)(s:Shared)(Z:St)(H:Hp)(x y:V)(v u:Value)(Q:VK),Inv X pins Z H s->RelV x v->RelV y u->r x y H Q->
  wpAny 56 X.A (f v u) 709 X.xe s
def gZ(X:Cx)(f:Value)(r:Aam->Hp->VK->Prop):Prop:=
 ∀(pins:Aaa)(s:Shared)(Z:St)(H:Hp)(xs:Aam)(us:Aae)(Q:VK),Inv X pins Z H s->Vals xs us->r xs H Q->
  wpAny 56 X.A (call f us) 709 X.xe s
def ahp(X:Cx)(r:V->Hp->(Bool->Hp->Prop)->Prop):Prop:=
 ∀(pins:Aaa)(s:Shared)(Z:St)(H:Hp)(x:V)(v:Value)(Q:Bool->Hp->Prop),Inv X pins Z H s->RelV x v->r x H Q->
  wpAny 56 X.A (truthy v) (TP X pins Z Q) X.xe s
def Yy(r:R2)(ta tb:TE):TE:=λZ H Q=>ta Z H λx H1=>tb Z H1 λy H2=>r x y H2 Q
inductive rI(C:Int->Int->Prop)(g:Int->Int->V)(x:V)(y:V)(H:Hp)(Q:VK):Prop
 |mk i j (_:x=.int i) (_:y=.int j) (_:C i j) (_:Q (g i j) H)
inductive LH(g:Int->Int->V)(x:V)(y:V)(H:Hp)(Q:VK):Prop
 |mk i j (_:x=.int i) (_:y=.int j) (_:Q (g i j) H)
section
variable{X:Cx}{a b:Expr}{ta tb:TE}{pos:Pos}
def Yg(ha:PE X a ta)(hb:PE X b tb){R:V->V->Hp->Prop}(I:Inv X pins Z H s)
  (h:ta Z H λx H1=>tb Z H1 λy H2=>R x y H2) {f:Value->Value->Sem Value}
  (hf:∀v u s2 x y H2,Inv X pins Z H2 s2->RelV x v->RelV y u->R x y H2->wpAny 56 X.A (f v u) Q X.xe s2):
  wpAny 56 X.A (eval a X.env) (λv aaa=>wpAny 56 X.A (eval b X.env) (λu aad=>wpAny 56 X.A (f v u) Q X.xe aad) X.xe aaa) X.xe s:=by
 refine dh 698 λv s1 x H1 I1 r1 q1=>?_;exact dh (hb pins s1 Z H1 _ I1 q1) λu s2 y H2 I2 r2 q2=>hf v u s2 x y H2 I2 r1 r2 q2
def c9(ho:iU X (binaryOp op) r)(ha:PE X a ta)(hb:PE X b tb):PE X (.BinOp a op b pos) (Yy r ta tb):=by intro pins s Z H Q I h;exact wpAny_BinOp (Yg ha hb I h λv u s2 x y H2 I2 rx ry q=>ho pins s2 Z H2 x y v u Q I2 rx ry q)
def Y4{g:Int->Int->Int}
  (rule:∀(i j:Int)(t u:Tok)(s:Shared)(Q:Aac)(E:Aac),C i j->Q (.int (g i j) s.toks) {s with toks:=s.toks+1}->wpAny 56 X.A (f (.int i t) (.int j u)) Q E s):
  iU X f (rI C λi j=>.int (g i j)):=by
 intro pins s Z H x y v u Q I rx ry h;obtain⟨i,j,rfl,rfl,hc,q⟩:=h;obtain⟨t,rfl⟩:=rx;obtain⟨t',rfl⟩:=ry;exact rule i j t t' s _ _ hc {.int (g i j),H,686,726,q}
def afU{g:Int->Int->Int}
  (rule:∀(i j:Int)(t u:Tok)(s:Shared)(Q:Aac)(E:Aac),Q (.int (g i j) s.toks) {s with toks:=s.toks+1}->wpAny 56 X.A (f (.int i t) (.int j u)) Q E s):
  iU X f (LH λi j=>.int (g i j)):=by
 intro pins s Z H x y v u Q I rx ry h;obtain⟨i,j,rfl,rfl,q⟩:=h;obtain⟨t,rfl⟩:=rx;obtain⟨t',rfl⟩:=ry;exact rule i j t t' s _ _ {.int (g i j),H,686,726,q}
def QR{g:Int->Int->Bool}
  (rule:∀(i j:Int)(t u:Tok)(s:Shared)(Q:Aac)(E:Aac),Q (.bool (g i j)) s->wpAny 56 X.A (f (.int i t) (.int j u)) Q E s):
  iU X f (LH λi j=>.bl (g i j)):=by
 intro pins s Z H x y v u Q I rx ry h;obtain⟨i,j,rfl,rfl,q⟩:=h;obtain⟨t,rfl⟩:=rx;obtain⟨t',rfl⟩:=ry;exact rule i j t t' s _ _ {.bl (g i j),H,I,9,q}
def ahs(i j:Int):Prop:=0<=j/\j<=1000000/\i.natAbs<2^64
def Yn(i j:Int):Prop:=(-(2^64)<i/\i<2^64)\/(-(2^64)<j/\j<2^64)
def Yn.ok(h:Yn i j):IntMulOk i j:=by
 rcases h with⟨h1,h2⟩|⟨h1,h2⟩
 ·exact .of_left (intBits_le_64 h1 h2)
 ·exact .of_right (intBits_le_64 h1 h2)
def jc:iU X (binaryOp .Add) (LH λi j=>.int (i+j)):=afU λ_ _ _ _ _ _ _ q=>add_int q
def tW:iU X (binaryOp .Mult) (rI Yn λi j=>.int (i*j)):=Y4 λ_ _ _ _ _ _ _ hc q=>mul_int q hc.ok
def pS:iU X (binaryOp .Mod) (rI (λ_ j=>0<j) λi j=>.int (i % j)):=Y4 λi j _ _ _ _ _ hc q=>by exact mod_int' ∅ (by rw[Int.fmod_eq_emod_of_nonneg i ∅];exact q)
def acW:iU X (binaryOp .Pow) (rI ahs λi j=>.int (i^j.toNat)):=Y4 λ_ _ _ _ _ _ _ hc q=>pow_int_small hc.1 hc.2.1 hc.2.2 q
def acC:V->V->Bool
 | .cz,.cz=>true| .cz,.int _=>true| .int _,.cz=>true| .cz,.bl _=>true| .bl _,.cz=>true| .cz,.str _=>true| .str _,.cz=>true
 | .int _,.int _=>true| .bl _,.bl _=>true| .str _,.str _=>true| .uU _,.uU _=>true
 | .int _,.str _=>true| .str _,.int _=>true| .bl _,.str _=>true| .str _,.bl _=>true
 |_,_=>false
def rEq:R2:=λx y H Q=>acC x y=true/\Q (.bl (decide (x=y))) H
def rNe:R2:=λx y H Q=>acC x y=true/\Q (.bl (!decide (x=y))) H
def Qc:decide (V.int i=V.int j)=(i==j):=by rw[fA];simp
def Vw:decide (V.bl i=V.bl j)=(i==j):=by rw[fA];simp
def Qb:decide (V.str i=V.str j)=(i==j):=by rw[fA];simp
def Qd:decide (V.uU i=V.uU j)=(i.toList==j.toList):=by rw[fA];cases i;cases j;simp
variable{c:Expr}{tc:TE}
def dZ(I:Inv X pins Z H s)(q:Q (.bl k) H)(e:k=k'):EP X pins Z Q (.bool k') s:=by subst e;exact{.bl k,H,I,9,q}
def ny:iU X (compareOp .Eq) rEq:=by
 intro pins s Z H x y v u Q I rx ry h;obtain⟨hs,q⟩:=h;cases x with
 |cz=>
  cases rx;cases y with
  |cz=>cases ry;exact PySem.EqNone.eq_none_none (dZ I q 59)
  |bl j=>cases ry;exact PySem.EqNone.eq_none_bool (dZ I q 59)
  |int j=>obtain⟨t',rfl⟩:=ry;exact PySem.EqNone.eq_none_int (dZ I q 59)
  |str j=>obtain⟨t',rfl⟩:=ry;exact PySem.EqNone.eq_none_str (dZ I q 59)
  |_=>exact absurd (show false=true from hs) bL
 |bl i=>
  cases rx;cases y with
  |cz=>cases ry;exact PySem.EqNone.eq_bool_none (dZ I q 59)
  |bl j=>cases ry;exact eq_bool (dZ I q Vw)
  |str j=>obtain⟨t',rfl⟩:=ry;exact PySem.EqMixed.eq_bool_str (dZ I q 59)
  |_=>exact absurd (show false=true from hs) bL
 |int i=>
  obtain⟨t,rfl⟩:=rx;cases y with
  |cz=>cases ry;exact PySem.EqNone.eq_int_none (dZ I q 59)
  |int j=>obtain⟨t',rfl⟩:=ry;exact eq_int (dZ I q Qc)
  |str j=>obtain⟨t',rfl⟩:=ry;exact PySem.EqMixed.eq_int_str (dZ I q 59)
  |_=>exact absurd (show false=true from hs) bL
 |str i=>
  obtain⟨t,rfl⟩:=rx;cases y with
  |cz=>cases ry;exact PySem.EqNone.eq_str_none (dZ I q 59)
  |bl j=>cases ry;exact PySem.EqMixed.eq_str_bool (dZ I q 59)
  |int j=>obtain⟨t',rfl⟩:=ry;exact PySem.EqMixed.eq_str_int (dZ I q 59)
  |str j=>obtain⟨t',rfl⟩:=ry;exact eq_str (dZ I q Qb)
  |_=>exact absurd (show false=true from hs) bL
 |uU i=>
  obtain⟨t,rfl⟩:=rx;cases y with
  |uU j=>obtain⟨t',rfl⟩:=ry;exact PySem.W.eq_bytes (dZ I q Qd)
  |_=>exact absurd (show false=true from hs) bL
 |_=>cases y<;>exact absurd (show false=true from hs) bL
def oU:iU X (compareOp .NotEq) rNe:=by
 intro pins s Z H x y v u Q I rx ry h;obtain⟨hs,q⟩:=h;cases x with
 |cz=>
  cases rx;cases y with
  |cz=>cases ry;exact PySem.EqNone.ne_none_none (dZ I q 59)
  |bl j=>cases ry;exact PySem.EqNone.ne_none_bool (dZ I q 59)
  |int j=>obtain⟨t',rfl⟩:=ry;exact PySem.EqNone.ne_none_int (dZ I q 59)
  |str j=>obtain⟨t',rfl⟩:=ry;exact PySem.EqNone.ne_none_str (dZ I q 59)
  |_=>exact absurd (show false=true from hs) bL
 |bl i=>
  cases rx;cases y with
  |cz=>cases ry;exact PySem.EqNone.ne_bool_none (dZ I q 59)
  |bl j=>cases ry;exact ne_bool (dZ I q (cR not Vw))
  |str j=>obtain⟨t',rfl⟩:=ry;exact PySem.EqMixed.ne_bool_str (dZ I q 59)
  |_=>exact absurd (show false=true from hs) bL
 |int i=>
  obtain⟨t,rfl⟩:=rx;cases y with
  |cz=>cases ry;exact PySem.EqNone.ne_int_none (dZ I q 59)
  |int j=>obtain⟨t',rfl⟩:=ry;exact ne_int (dZ I q (cR not Qc))
  |str j=>obtain⟨t',rfl⟩:=ry;exact PySem.EqMixed.ne_int_str (dZ I q 59)
  |_=>exact absurd (show false=true from hs) bL
 |str i=>
  obtain⟨t,rfl⟩:=rx;cases y with
  |cz=>cases ry;exact PySem.EqNone.ne_str_none (dZ I q 59)
  |bl j=>cases ry;exact PySem.EqMixed.ne_str_bool (dZ I q 59)
  |int j=>obtain⟨t',rfl⟩:=ry;exact PySem.EqMixed.ne_str_int (dZ I q 59)
  |str j=>obtain⟨t',rfl⟩:=ry;exact ne_str (dZ I q (cR not Qb))
  |_=>exact absurd (show false=true from hs) bL
 |uU i=>
  obtain⟨t,rfl⟩:=rx;cases y with
  |uU j=>obtain⟨t',rfl⟩:=ry;exact PySem.W.ne_bytes (dZ I q (cR not Qd))
  |_=>exact absurd (show false=true from hs) bL
 |_=>cases y<;>exact absurd (show false=true from hs) bL
def xo:iU X (compareOp .Lt) (LH λi j=>.bl (decide (i<j))):=QR λ_ _ _ _ _ _ _ q=>lt_int q
def Y2:iU X (compareOp .LtE) (LH λi j=>.bl (decide (i<=j))):=QR λ_ _ _ _ _ _ _ q=>le_int q
def QQ:iU X (compareOp .Gt) (LH λi j=>.bl (decide (j<i))):=QR λ_ _ _ _ _ _ _ q=>gt_int q
def aeT:iU X (compareOp .GtE) (LH λi j=>.bl (decide (j<=i))):=QR λ_ _ _ _ _ _ _ q=>ge_int q
def Tu:iU X (compareOp .In) (λx y H Q=>∃i j,x=.str i/\y=.str j/\Q (.bl (!(Builtin.Str.occurrences j i 0 j.length 1).isEmpty)) H):=by intro pins s Z H x y v u Q I rx ry h;obtain⟨i,j,rfl,rfl,q⟩:=h;obtain⟨t,rfl⟩:=rx;obtain⟨t',rfl⟩:=ry;exact in_str (dZ I q 9)
def F9:iU X (compareOp .Is) (λx y H Q=>y=.cz/\Q (.bl (decide (x=.cz))) H):=by
 intro pins s Z H x y v u Q I rx ry h;obtain⟨rfl,q⟩:=h;cases ry;refine is_none_gen (dZ I q ?_);cases x<;>first
  |(cases rx;rfl)
  |(obtain⟨t,rfl⟩:=rx;rfl)
def HK:iU X (compareOp .IsNot) (λx y H Q=>y=.cz/\Q (.bl (!decide (x=.cz))) H):=by
 intro pins s Z H x y v u Q I rx ry h;obtain⟨rfl,q⟩:=h;cases ry;refine isnot_none_gen (dZ I q ?_);cases x<;>first
  |(cases rx;rfl)
  |(obtain⟨t,rfl⟩:=rx;rfl)
def cB(b:Expr)(h:op≠ .In:=by decide)(h2:op≠ .NotIn:=by decide):behindInMarks op b=false:=by
 have e1:(op==CmpOp.In)=false:=by cases op<;>first|rfl|exact absurd rfl h
 have e2:(op==CmpOp.NotIn)=false:=by cases op<;>first|rfl|exact absurd rfl h2
 cases b<;>simp[behindInMarks,e1,e2]
def ni(ho:iU X (compareOp op) r)(ha:PE X a ta)(hb:PE X b tb)(hm:behindInMarks op b=false):PE X (.Compare a [op] [b] pos) (Yy r ta tb):=by intro pins s Z H Q I h;exact wpAny_Compare1 (Yg ha hb I h λv u s2 x y H2 I2 rx ry q=>ho pins s2 Z H2 x y v u Q I2 rx ry q) hm
inductive acj(Q:Bool->Hp->Prop)(x:V)(H':Hp):Prop
 |mk k (_:x=.bl k) (_:Q k H')
def Yx(t:TE):TT:=λZ H Q=>t Z H λx H'=>acj Q x H'
def bY(ho:iU X (compareOp op) r)(ha:PE X a ta)(hb:PE X b tb)(hm:behindInMarks op b=false):PT X (.Compare a [op] [b] pos) (Yx (Yy r ta tb)):=by intro pins s Z H Q I h;refine yH (dh 698 λv s1 x H1 I1 r1 q1=>dh (hb pins s1 Z H1 _ I1 q1) λu s2 y H2 I2 r2 q2=>gB (ho pins s2 Z H2 x y v u _ I2 r1 r2 q2) λc s3 hz7=>?_) hm;obtain⟨z,H3,I3,r3,k,e,q3⟩:=hz7;subst e;cases r3;exact eT ⟨H3,I3,q3⟩
def Ss(r r':R2)(ta tb tc:TE):TE:=λZ H Q=>ta Z H λx H1=>tb Z H1 λy H2=>r x y H2 λz H3=>∃k,z=.bl k/\
 (if k=true then tc Z H3 λw' H4=>r' y w' H4 Q else Q (.bl false) H3)
def LW(ho:iU X (compareOp op) r)(pB:iU X (compareOp Pg) r')(ha:PE X a ta)(hb:PE X b tb)(hc:PE X c tc)
  (hm:lastMarks [op,Pg] [b,c]=false:=by with_unfolding_all rfl):PE X (.Compare a [op,Pg] [b,c] pos) (Ss r r' ta tb tc):=by
 intro pins s Z H Q I h;refine Compare_chain (dh 698 λv s1 x H1 I1 r1 q1=>chain_link (dh (hb pins s1 Z H1 _ I1 q1) λu s2 y H2 I2 r2 q2=>gB (ho pins s2 Z H2 x y v u _ I2 r1 r2 q2) λd s3 hz8=>?_)) hm;obtain⟨z,H3,I3,r3,k,e,q3⟩:=hz8;subst e;cases r3;refine eT ?_;cases k with
 |false=>exact ite_ff {.bl false,H3,I3,9,q3}
 |true=>exact ite_tt (chain_last (gB (hc pins s3 Z H3 _ I3 q3) λw' s4 ⟨z',H4,I4,r4,q4⟩=>pB pins s4 Z H4 y z' u w' Q I4 r2 r4 q4))
def WB{op Pg:CmpOp}{r r':R2}(ho:iU X (compareOp op) r)(pB:iU X (compareOp Pg) r')(ha:PE X a ta)(hb:PE X b tb)(hc:PE X c tc)
  (hm:lastMarks [op,Pg] [b,c]=false:=by with_unfolding_all rfl):PT X (.Compare a [op,Pg] [b,c] pos) (Yx (Ss r r' ta tb tc)):=by
 intro pins s Z H Q I h;refine isTrue_chain (dh 698 λv s1 x H1 I1 r1 q1=>test_link (dh (hb pins s1 Z H1 _ I1 q1) λu s2 y H2 I2 r2 q2=>gB (ho pins s2 Z H2 x y v u _ I2 r1 r2 q2) λd s3 hz9=>?_)) hm;obtain⟨z,H3,I3,r3,k,e,q3⟩:=hz9;subst e;cases r3;refine eT ?_;cases k with
 |false=>
  obtain⟨k',e',q'⟩:=q3;cases e';exact ite_ff ⟨H3,I3,q'⟩
 |true=>
  refine ite_tt (test_last (gB (hc pins s3 Z H3 _ I3 q3) λw' s4 agF=>?_));obtain⟨z',H4,I4,r4,q4⟩:=agF;refine gB (pB pins s4 Z H4 y z' u w' _ I4 r2 r4 q4) λd' s5 agE=>?_;obtain⟨z2,H5,I5,r5,k2,e2,q5⟩:=agE;subst e2;cases r5;exact eT ⟨H5,I5,q5⟩
def aeq(K:Frag)(x:V)(H:Hp)(k:Bool):Prop:=
 match x with
 | .cz=>k=false
 | .bl b=>k=b
 | .int i=>k=(i !=0)
 | .str y=>y.length<=sizeLine/\k=((y.length:Int) !=0)
 | .uU y=>y.size<=sizeLine/\k=((y.size:Int) !=0)
 | .ref p=>(∃xs,bf K H p xs/\k=!xs.isEmpty)\/(∃xs,aZ K H p xs/\k=!xs.isEmpty)\/∃kvs,H p=some 719/\k=!kvs.isEmpty
 |_=>False
def Rg(r:KV kvs vs):(!vs.isEmpty)=!kvs.isEmpty:=by cases r<;>rfl
def Gk(r:Vals xs ba):(!ba.toArray.isEmpty)=!xs.isEmpty:=by cases r<;>simp
def yY:(sizeLine:Nat)<2^63:=by rw[bX];decide
def acb:ahp X (λx H Q=>∃k,aeq X.K x H k/\Q k H):=by
 intro pins s Z H x v Q I rx h;obtain⟨k,e,q⟩:=h;have hl:=yY;have hs:sizeLine=16777216:=bX;cases x with
 |cz=>
  cases rx;have e':k=false:=e;subst e';exact truthy_none ⟨H,I,q⟩
 |bl b=>
  cases rx;have e':k=b:=e;subst e';exact eT ⟨H,I,q⟩
 |int i=>
  obtain⟨t,rfl⟩:=rx;have e':k=(i !=0):=e;subst e';exact PySem.P.truthy_int ⟨H,I,q⟩
 |str y=>
  obtain⟨t,rfl⟩:=rx;obtain⟨hy,e'⟩:y.length<=sizeLine/\k=((y.length:Int) !=0):=e;subst e';exact PySem.P.truthy_str ∅ {H,686,q}
 |uU y=>
  obtain⟨t,rfl⟩:=rx;obtain⟨hy,e'⟩:y.size<=sizeLine/\k=((y.size:Int) !=0):=e;subst e';exact PySem.W.truthy_bytes ∅ {H,686,q}
 |ref p=>
  cases rx;have e':(∃xs,bf X.K H p xs/\k=!xs.isEmpty)\/(∃xs,aZ X.K H p xs/\k=!xs.isEmpty)\/∃kvs,H p=some 719/\k=!kvs.isEmpty:=e;rcases e' with⟨xs,hx,e'⟩|⟨xs,hx,e'⟩|⟨kvs,hx,e'⟩
  ·subst e';obtain⟨ba,r,pl,hz⟩:=I.list hx;have hlen:=r.length;exact wpAny_truthy_list pl.isList (by simp only[aR];lia) {H,686,by rw[Gk r];exact q}
  ·subst e';obtain⟨ba,r,pl,hz⟩:=I.tuple hx;have hlen:=r.length;exact truthy_tuple pl (by simp only[aR];lia) {H,686,by rw[Gk r];exact q}
  ·subst e';obtain⟨hz,hS,vs,r,m⟩:kvs.length<=sizeLine/\(p==sysModules)=false/\∃vs,KV kvs vs/\s.heap.DictOf 725 p vs:=I.bQ p _ hx;have hlen:kvs.length=vs.length:=bc r;exact wpAny_truthy_dict hS m ∅ {H,686,by rw[Rg r];exact q}
 |_=>exact(show False from e).elim
def WA(ha:PE X a ta)(he:∀whole,isTrue a X.env whole=(do let v<-whole;standAt a.pos;holding [v] (truthy v))):
  PT X a (λZ H Q=>ta Z H λx H'=>∃k,aeq X.K x H' k/\Q k H'):=by
 intro pins s Z H Q I h;exact isTrue_plain (dh 698 λv s1 x H1 I1 r1 q1=>acb pins s1 Z H1 x v Q I1 r1 q1) (he _)
def ve:iU X (binaryOp .Add) (λx y H Q=>∃i j,x=.str i/\y=.str j/\i.length+j.length<=sizeLine/\Q (.str (i++j)) H):=by intro pins s Z H x y v u Q I rx ry h;obtain⟨i,j,rfl,rfl,hz,q⟩:=h;obtain⟨t,rfl⟩:=rx;obtain⟨t',rfl⟩:=ry;exact add_str (λt' tk=>{.str (i++j),H,686,726,q}) hz
def jI(r:Vals [x] us):∃u,us=[u]/\RelV x u:=by
 cases r with
 |cons r1 r2=>cases r2;exact⟨_,rfl,r1⟩
def vals2(r:Vals [x,y] us):∃u w',us=[u,w']/\RelV x u/\RelV y w':=by
 cases r with
 |cons r1 r2=>
  cases r2 with
  |cons r3 r4=>cases r4;exact⟨_,_,rfl,r1,r3⟩
def VL:gZ X (.type "int") (λxs H Q=>(∃i,xs=[.int i]/\Q (.int i) H)\/∃k,xs=[.bl k]/\Q (.int (if k then 1 else 0)) H):=by
 intro pins s Z H xs us Q I r h;rcases h with⟨i,rfl,q⟩|⟨k,rfl,q⟩
 ·obtain⟨u,rfl,t,rfl⟩:=jI r;exact call_int_int {.int i,H,I,726,q}
 ·obtain⟨u,rfl,r1⟩:=jI r;cases r1;exact call_int_bool {.int (if k then 1 else 0),H,686,726,q}
def aeu(K:Frag)(x:V)(H:Hp)(n:Nat):Prop:=
 match x with
 | .str y=>y.length<=sizeLine/\n=y.length
 | .uU y=>y.size<=sizeLine/\n=y.size
 | .ref p=>(∃xs,bf K H p xs/\n=xs.length)\/∃xs,aZ K H p xs/\n=xs.length
 |_=>False
def c6:gZ X (.builtin "len") (λxs H Q=>∃x n,xs=[x]/\aeu X.K x H n/\Q (.int n) H):=by
 intro pins s Z H xs us Q I r h;obtain⟨x,n,rfl,e,q⟩:=h;obtain⟨u,rfl,rx⟩:=jI r;have hs:sizeLine=16777216:=bX;cases x with
 |str y=>
  obtain⟨t,rfl⟩:=rx;obtain⟨hy,e'⟩:y.length<=sizeLine/\n=y.length:=e;subst e';exact len_str ∅ {.int _,H,686,726,q}
 |uU y=>
  obtain⟨t,rfl⟩:=rx;obtain⟨hy,e'⟩:y.size<=sizeLine/\n=y.size:=e;subst e';exact PySem.W.len_bytes ∅ {.int _,H,686,726,q}
 |ref p=>
  cases rx;have e':(∃xs,bf X.K H p xs/\n=xs.length)\/∃xs,aZ X.K H p xs/\n=xs.length:=e;rcases e' with⟨xs,hx,e'⟩|⟨xs,hx,e'⟩
  ·subst e';obtain⟨ba,r',pl,hz⟩:=I.list hx;have hlen:=r'.length;exact Calls.call_len_list pl.isList (by simp only[aR];lia) {.int xs.length,H,686,{_,by simp only[aR];rw[hlen]},q}
  ·subst e';obtain⟨ba,r',pl,hz⟩:=I.tuple hx;have hlen:=r'.length;exact len_tuple pl (by simp only[aR];lia) {.int xs.length,H,686,{_,by simp only[aR];rw[hlen]},q}
 |_=>exact(show False from e).elim
structure FH(h:Heap)(x dx C:Addr)(mA:Aab):Prop where
 obj:h.get? x=some (instObj C dx)
 ns:h.Ns1 dx mA
 ne:dx≠x
def T9{h:Heap}(n:h.Ns1 dx mA):∃od,h.get? dx=some od/\∀name,lookIn name od=some (mA name):=by
 obtain⟨o,es,ep,ho,hd,hk,_,hm⟩:=n;refine{o,ho,λname=>?_};have e:=hm name;unfold nsFind findBy at e;rw[<-Array.find?_toList]at e;unfold lookIn;rw[hd];dsimp only;split
 ·rename_i y q;rw[q]at e;exact cR some e
 ·rename_i q;rw[q]at e;have a:es.toList.any (·.refKey)=false:=by rw[List.any_eq_false];intro y hy;obtain⟨z,t,yh⟩:=hk y (AU.mp hy);simp[DictEntry.refKey,yh]
  rw[aI (by rw[a];exact bL)];exact cR some e
def FH.look(I:FH h x dx C mA):∃od,PySem.W.InstAt h x (instObj C dx) C (some od)/\∀name,lookIn name od=some (mA name):=
 let⟨od,ho,hl⟩:=T9 I.ns
 {od,{I.obj,9,9,ho},hl}
variable{prog:Program}{w:World}{A:Around}{E:Aac}{s:Shared}{K:Frag}{x dx C f:Addr}{mA:Aab}{name:Str}{v:Value}
def get_map(X:K.In s.heap)(I:FH s.heap x dx C mA)(hg:plainGet K C name=true)(hh:hasDictIn K C=true)
  (ha:findIn K (.ref C) name=some none) (hv:mA name=some v) (hv':PySem.W.handedIn v=true) (h:Q v {s with toks:=s.toks+1}):
  wpAny 58 A (getAttr (.ref x) name expr) Q E s:=by
 obtain⟨od,J,hl⟩:=I.look;exact PySem.W.get_value X J (sh hg).1 (PySem.W.findObj_own hh ha 9 (by rw[hl,hv])) hv' h
def XC(X:K.In s.heap)(I:FH s.heap x dx C mA)(hg:plainGet K C name=true)
  (hf:findIn K (.ref C) name=some (some 700)) (ht:isFn K 700=true) (hv:mA name=none) (h:Q (.ref f,[.ref x]) s):
  wpAny 58 A (getMethod (.ref x) name pl) Q E s:=by
 obtain⟨od,J,hl⟩:=I.look;exact PySem.W.method_fn X J (sh hg).1 (sh hg).2 hf (rG.mp ht) (by show(lookIn name od).map (·.isSome)=some false;rw[hl,hv];rfl) h
def aaM(X:K.In s.heap)(I:FH s.heap x dx C mA)
  (hs:findIn K (.ref C) "__setattr__"=some (some (.builtin "object.__setattr__"))) (hp:PySem.W.plainOver K C=true) (ht:PySem.W.takerIn K C name=some none) (hh:hasDictIn K C=true)
  (hw:PySem.Within mA ns) (hsz:ns.length<=sizeLine)
  (h:∀h',FH h' x dx C (λy=>if y=name then some v else mA y)->Heap.SameBut dx s.heap h'->Q () {s with heap:=h',toks:=s.toks+2}):
  wpAny 58 A (setAttr (.ref x) name v) Q E s:=by
 obtain⟨od,J,hl⟩:=I.look;refine PySem.W.set_plain X J hs (PySem.W.osa_open X J hp ht λb=>?_);obtain⟨cd,hc,pD⟩:=PySem.W.any_some hh;refine ah (aq (ah (ah (wpAny_loadPart I.obj (ah (PySem.W.Looks.here (PySem.W.looks_clsIn X hc) ?_))))));rw[pD];refine aq (ah (aq (ah ?_)));refine wpAny_nsSet1 I.ns λh' Eu kE=>?_;obtain⟨oD,esD,epD,hoD,hdD,hcD⟩:=Eu.count (PySem.Within.cons name v hw);exact ah (wpAny_lookBehind hoD (by rw[hdD];exact pastItsLine_dict (bu hcD (by rw[bF];lia))) (aq (h _ {(kE.2 _ (cM I.ne)).trans I.obj,Eu,I.ne} kE)))
def W7(X:K.In s.heap)(hm:PySem.W.makesIn K C=true)
  (hi:findIn K (.ref C) "__init__"=some (some 700)) (hf:PySem.W.typeIn K 700=some (.type "function"))
  (h:codeAny 58 (A.under (.builtin "type.__call__" {.ref C::vs,kw})) (.call 700 {.ref 649::vs,kw}) (PySem.W.InitBack 649 R)
   {s with heap:=(s.heap.push emptyDict).push (instObj C s.heap.objs.size)}):
  codeAny 58 A (.call (.ref C) ⟨vs,kw⟩) R s:=by
 obtain⟨hh,g,d,t,os⟩:=s;exact PySem.W.make_core (PySem.W.makes_of X hm) (PySem.W.looks_findIn X hi) (λself=>PySem.W.bind_fn X self hf) (.inl 9) h
end
def jk(f:Str)(v:V):List (Str×V)->List (Str×V)
 |[]=>[(f,v)]
 |(g,x)::r=>if g=f then(g,v)::r else(g,x)::jk f v r
theorem Ei(f g:Str)(v:V):∀fs:List (Str×V),(jk f v fs).lookup g=if g=f then some v else fs.lookup g
 |[]=>by
  show List.lookup g [(f,v)]=_;by_cases h:g=f
  ·have hb:=rG.mpr h;simp only[List.lookup,hb,aM h]
  ·have hb:=cZ.mpr h;simp only[List.lookup,hb,aI h]
 |(k,x)::r=>by
  rw[show jk f v ((k,x)::r)=(if k=f then(k,v)::r else(k,x)::jk f v r)from rfl];by_cases hk:k=f
  ·rw[aM hk];by_cases h:g=k
   ·have hb:=rG.mpr h;simp only[List.lookup,hb,aM (h.trans hk)]
   ·have hb:=cZ.mpr h;simp only[List.lookup,hb,aI (λe:g=f=>h (e.trans hk.symm))]
  ·rw[aI hk];by_cases h:g=k
   ·have hb:=rG.mpr h;simp only[List.lookup,hb,aI (λe:g=f=>hk (h.symm.trans e))]
   ·have hb:=cZ.mpr h;simp only[List.lookup,hb];exact(Ei f g v r)
theorem Ca(f:Str)(v:V):∀fs:List (Str×V),f∈(jk f v fs).map (·.1)/\∀g,g∈fs.map (·.1)->g∈(jk f v fs).map (·.1)
 |[]=>{by simp[jk],λg h=>by simp at h}
 |(k,x)::r=>by
  obtain⟨i1,i2⟩:=Ca f v r;rw[show jk f v ((k,x)::r)=(if k=f then(k,v)::r else(k,x)::jk f v r)from rfl];by_cases hk:k=f
  ·rw[aM hk];subst hk;exact{59,λg h=>by simpa using h}
  ·rw[aI hk];refine{?_,λg h=>?_}
   ·rw[bq];exact aG _ i1
   ·rw[bq]at h⊢;rcases aN.mp h with e|e
    ·exact aN.mpr (.inl e)
    ·exact aG _ (i2 g e)
theorem Ej(f:Str)(v:V):∀fs:List (Str×V),(jk f v fs).length<=fs.length+1
 |[]=>by simp[jk]
 |(k,x)::r=>by
  have ih:=Ej f v r;rw[show jk f v ((k,x)::r)=(if k=f then(k,v)::r else(k,x)::jk f v r)from rfl];by_cases hk:k=f
  ·rw[aM hk,bF,bF];lia
  ·rw[aI hk,bF,bF];lia
def mP.some_of(r:mP (some v) o):∃u,o=some u/\RelV v u:=by
 cases o with
 |none=>exact(show False from r).elim
 |some u=>exact⟨u,rfl,r⟩
def mP.none_of(r:mP none o):o=none:=by
 cases o with
 |none=>rfl
 |some u=>exact(show False from r).elim
def U7(r:RelV v u):PySem.W.handedIn u=true:=by
 cases v with
 |cz=>cases(show u=Value.none from r);rfl
 |bl b=>cases(show u=Value.bool b from r);rfl
 |int i=>obtain⟨t,e⟩:=(show∃t,u=Value.int i t from r);cases e;rfl
 |str x=>obtain⟨t,e⟩:=(show∃t,u=Value.str x t from r);cases e;rfl
 |uU b=>obtain⟨t,e⟩:=(show∃t,u=Value.bytes b t from r);cases e;rfl
 |Nt b=>obtain⟨t,e⟩:=(show∃t,u=Value.float b t from r);cases e;rfl
 |ref a=>cases(show u=Value.ref a from r);rfl
 |ty n=>cases(show u=Value.type n from r);rfl
section
variable{P:Program}{w:World}{H:Hp}{h:Heap}{a C dx:Addr}{fs:List (Str×V)}
def DD(bQ:j5 P w H h)(e:H a=some (.ins C dx fs)):∃mA,FH h a dx C mA/\(∀f,mP (fs.lookup f) (mA f))/\PySem.Within mA (fs.map (·.1))/\fs.length<=1000/\H dx=some (.own a):=by obtain⟨d,z,ne,ob,mA,n,r,q⟩:=(show dY P w H h a (.ins C dx fs)from bQ a _ e);exact{mA,⟨ob,n,ne⟩,r,q,z,d}
end
structure Dd(K:Frag)(C:Addr):Prop where
 pg:plainGet K C Str.empty=true
 hd:hasDictIn K C=true
 po:PySem.W.plainOver K C=true
 sa:findIn K (.ref C) "__setattr__"=some (some (.builtin "object.__setattr__"))
def Dd.get{K:Frag}(c:Dd K C)(f:Str):plainGet K C f=true:=c.pg
def ug(K:Frag)(C:Addr)(f:Str):Prop:=findIn K (.ref C) f=some none
def ug.aeB{K:Frag}(n:ug K C f):PySem.W.takerIn K C f=some none:=by unfold PySem.W.takerIn;rw[show findIn K (.ref C) f=some none from n];rfl
structure Con(K:Frag)(C:Addr)(f:Str)(v:V)(u:Value):Prop where
 at_:findIn K (.ref C) f=some (some u)
 rel:RelV v u
 get:PySem.W.specialIn K u "__get__"=some none
 cp:PySem.W.copiedNames.contains f=false
structure Meth(K:Frag)(C:Addr)(m:Str)(f:Addr):Prop where
 at_:findIn K (.ref C) m=some (some 700)
 fn:isFn K 700=true
 kp:keepIn K 700=true
section
variable{X:Cx}{pins:Aaa}{Z:St}{H:Hp}{s:Shared}{a C dx:Addr}{fs:List (Str×V)}{f:Str}{v:V}{A:Around}{E:Aac}
def RE(I:Inv X pins Z H s)(e:H a=some (.ins C dx fs))(c:Dd X.K C)(n:ug X.K C f)(l:fs.lookup f=some v)
  (h:∀u s',Inv X pins Z H s'->RelV v u->Q u s'):wpAny 56 A (getAttr 659 f b) Q E s:=by
 obtain⟨mA,O,r,_,_,_⟩:=DD I.bQ e;obtain⟨u,hu,ru⟩:=mP.some_of (l▸r f);exact get_map I.mY O (c.get f) c.hd n hu (U7 ru) (h u _ 686 ru)
def RD(I:Inv X pins Z H s)(e:H a=some (.ins C dx fs))(c:Dd X.K C)(k:Meth X.K C m g)(l:fs.lookup m=none)
  (h:Q (.ref g,[.ref a]) s):wpAny 56 A (getMethod 659 m pl) Q E s:=by
 obtain⟨mA,O,r,_,_,_⟩:=DD I.bQ e;exact XC I.mY O (c.get m) k.at_ k.fn (mP.none_of (by rw[<-l];exact r m)) h
def QF(I:Inv X pins Z H s)(e:H a=some (.ins C dx fs))(c:Dd X.K C)(n:ug X.K C f)(hl:fs.length<1000)(ry:RelV y u)
  (h:∀s',Inv X pins Z (upd H a (.ins C dx (jk f y fs))) s'->Q () s'):wpAny 56 A (setAttr 659 f u) Q E s:=by
 obtain⟨mA,O,r,wi,_,ho⟩:=DD I.bQ e;refine aaM I.mY O c.sa c.po n.aeB c.hd wi (by rw[aj,bX];lia) λh' O' sb=>h _ ?_;refine I.write (e▸True.intro) (.inr ho) (λb q hb z=>(sb.2 b hb).trans z) (let⟨o,_,_,e',_⟩:=O'.ns;⟨o,e'⟩) ?_;refine{aL O.ne▸ho,?_,O.ne,O'.obj,_,O'.ns,λg=>?_,λg hg=>?_}
 ·have:=Ej f y fs;lia
 ·show mP ((jk f y fs).lookup g) (if g=f then some u else mA g);rw[Ei];by_cases q:g=f
  ·rw[aM q,aM q];exact ry
  ·rw[aI q,aI q];exact r g
 ·by_cases q:g=f
  ·rw[q];exact(Ca f y fs).1
  ·refine(Ca f y fs).2 g (wi g λz=>hg ?_);show(if g=f then some u else mA g)=none;rw[aI q];exact z
def Inv.made(I:Inv X pins Z H s):Inv X pins Z (upd (upd H s.heap.objs.size (.own 649)) 649 (.ins C s.heap.objs.size []))
  {s with heap:=(s.heap.push emptyDict).push (instObj C s.heap.objs.size)}:=by
 have e1:(s.heap.push emptyDict).get? s.heap.objs.size=some emptyDict:=aU s.heap rfl;have e2:((s.heap.push emptyDict).push (instObj C s.heap.objs.size)).get? 649=some (instObj C s.heap.objs.size):=by have:=aU (s.heap.push emptyDict) (o:=instObj C s.heap.objs.size) rfl;rwa [dk]at this
 have I1:=I.laid (o:=.own 649) (t':=s.toks) (λb u q=>ao _ q) (aw _) ⟨_,e1⟩;refine I1.laid (λb u q=>ao _ q) (rQ (dk _ _)) ?_;have ne:s.heap.objs.size≠s.heap.objs.size+1:=aX (eF _);refine{by rw[aL ne,av],aP _,ne,e2,λ_=>none,(Heap.Ns1.of_empty ({emptyDict,#[],_,e1,9,(λe he=>absurd he 59),λ_=>9})).at λo q=>ao _ q,λ_=>True.intro,λy hy=>absurd rfl hy}
def abY(hb:attributeBase e f env (eval e env)=eval e env)
  (h:wpAny 58 A (eval e env) (λo aaa=>wpAny 58 A (getAttr o f true) Q E aaa) E s):wpAny 58 A (eval (.Attribute e f pos) env) Q E s:=
 Attribute_any_ h (by rw[arm_eval_Attribute,hb])
end
inductive aeF(K:Frag)(f:Str)(Q:VK)(x:V)(H1:Hp):Prop
 |mk a C dx fs v (_:x=.ref a) (_:H1 a=some (.ins C dx fs)) (_:Dd K C) (_:ug K C f) (_:fs.lookup f=some v) (_:Q v H1)
def afB(K:Frag)(ta:TE)(f:Str):TE:=λZ H Q=>ta Z H λx H1=>aeF K f Q x H1
inductive aeP(K:Frag)(f:Str)(D:Ends)(Z:St)(y:V)(x:V)(H2:Hp):Prop
 |mk a C dx fs (_:x=.ref a) (_:H2 a=some (.ins C dx fs)) (_:Dd K C) (_:ug K C f) (_:fs.length<1000) (_:D.nx Z (upd H2 a (.ins C dx (jk f y fs))))
def afI(K:Frag)(ta tv:TE)(f:Str):TS:=λD Z H=>tv Z H λy H1=>ta Z H1 λx H2=>aeP K f D Z y x H2
section
variable{X:Cx}{o e value:Expr}{f:Str}{pos pos':Pos}{ta tv:TE}
def yT(he:PE X e ta)(hb:attributeBase e f X.env (eval e X.env)=eval e X.env):PE X (.Attribute e f pos) (afB X.K ta f):=by intro pins s Z H Q I h;refine abY hb (dh 732 λu s1 x H1 I1 rx agD=>?_);obtain⟨a,C,dx,fs,v,ex,ea,c,n,l,q⟩:=agD;subst ex;obtain rfl:u=Value.ref a:=rx;exact RE I1 ea c n l λu' s2 I2 ru=>⟨v,H1,I2,ru,q⟩
def LK(ha:PE X o ta)(hv:PE X value tv)(hs:swapsWith value (some (.Attribute o f pos')) pos.line X.env=pure false):PS X (.Assign [.Attribute o f pos'] value pos) (afI X.K ta tv f):=by intro pins s Z H D I h;refine plainObj_wpAny_Assign_Attribute (dh (hv pins s Z H _ I h) λu s1 y H1 I1 ry q=>dh (ha pins s1 Z H1 _ I1 q) λov s2 x H2 I2 rx agC=>?_) hs;obtain⟨a,C,dx,fs,ex,ea,c,n,l,q2⟩:=agC;subst ex;obtain rfl:ov=Value.ref a:=rx;exact QF I2 ea c n l ry λs3 I3=>⟨Z,_,I3,q2⟩
end
section
variable{X:Cx}{pins:Aaa}{Z:St}{H:Hp}{s:Shared}{A:Around}{E Q:Aac}{c:Value}{b:Bool}
inductive pK(K:Frag)(H:Hp):V->Value->Prop where
 |cz:pK K H .cz (.type "NoneType")
 |bl (x:Bool):pK K H (.bl x) (.type "bool")
 |int (i:Int):pK K H (.int i) (.type "int")
 |str (x:Str):pK K H (.str x) (.type "str")
 |Nt (x:UInt64):pK K H (.Nt x) (.type "float")
 |lst {a:Addr} {xs:Aam} (e:H a=some (.lst xs)):pK K H (.ref a) (.type "list")
 |fB {a:Addr} {o:Obj} {xs:Aam} (e:H a=some (.fB o (.lst xs))):pK K H (.ref a) (.type "list")
 |tup {a:Addr} {xs:Aam} (e:H a=some (.tup xs)):pK K H (.ref a) (.type "tuple")
 |dK {a:Addr} {kvs:List (Key×V)} (e:H a=some (.dK kvs)):pK K H (.ref a) (.type "dict")
 |dT {a:Addr} {kvs:List (List Key×V)} (e:H a=some (.dT kvs)):pK K H (.ref a) (.type "dict")
 |ins {a C dx:Addr} {fs:List (Str×V)} (e:H a=some (.ins C dx fs)) (cl:Dd K C) (ha:findIn K (.ref C) "__class__"=some (some (.builtin "object.__class__")))
   (hn:PySem.W.specialIn K (.builtin "object.__class__") "__get__"=some (some (.builtin "getset_descriptor.__get__"))) (htk:PySem.W.takesIn K (.builtin "object.__class__")=some true)
   (hm:PySem.W.mroIn K C (.type "object")=some true):pK K H 659 (.ref C)
def Uu(I:Inv X pins Z H s)(rx:RelV x u)(ty:pK X.K H x t)(e:kitOne X.K t c=some b)(h:∀tk,Q (.bool b) {s with toks:=tk}):
  wpAny 56 A (call (.builtin "isinstance") [u,c]) Q E s:=by
 cases ty with
 |cz=>cases(show u=Value.none from rx);exact fu PySem.W.kitx_none I.mY True.intro e 701 h
 |bl y=>cases(show u=Value.bool y from rx);exact fu PySem.W.kitx_bool I.mY True.intro e 701 h
 |int i=>obtain⟨t,q⟩:=(show∃t,u=Value.int i t from rx);cases q;exact fu PySem.W.kitx_int I.mY True.intro e 701 h
 |str y=>obtain⟨t,q⟩:=(show∃t,u=Value.str y t from rx);cases q;exact fu PySem.W.kitx_str I.mY True.intro e 701 h
 |Nt y=>obtain⟨t,q⟩:=(show∃t,u=Value.float y t from rx);cases q;exact fu PySem.W.kitx_float I.mY True.intro e 701 h
 |@lst a xs ea=>
  cases(show u=Value.ref a from rx);obtain⟨_,_,n,_,h1⟩:=(show dY X.prog X.w H s.heap a (.lst xs)from I.bQ a _ ea);exact fu DT I.mY ⟨_,h1,rfl⟩ e 701 h
 |@fB a ob xs ea=>
  cases(show u=Value.ref a from rx);obtain⟨_,_,_,n,_,h1⟩:=(show dY X.prog X.w H s.heap a (.fB ob (.lst xs))from I.bQ a _ ea);exact fu DT I.mY ⟨_,h1,rfl⟩ e 701 h
 |@tup a xs ea=>
  cases(show u=Value.ref a from rx);obtain⟨_,_,_,p,_⟩:=(show dY X.prog X.w H s.heap a 672 from I.bQ a _ ea);obtain⟨o,h1,h2,_⟩:=p;exact fu CV I.mY ⟨o,h1,h2⟩ e 701 h
 |@dK a kvs ea=>
  cases(show u=Value.ref a from rx);obtain⟨_,_,vs,_,p⟩:=(show dY X.prog X.w H s.heap a 719 from I.bQ a _ ea);obtain⟨o,es,ep,h1,h2,_⟩:=p;exact fu DU I.mY {o,h1,h2.1} e 701 h
 |@dT a kvs ea=>
  cases(show u=Value.ref a from rx);obtain⟨_,_,xs,_,o,es,ep,h1,h2,_⟩:=(show dY X.prog X.w H s.heap a (.dT kvs)from I.bQ a _ ea);exact fu DU I.mY {o,h1,h2.1} e 701 h
 |@ins a C dx fs ea cl ha hn htk hm=>
  cases(show u=Value.ref a from rx);obtain⟨mA,O,_⟩:=DD I.bQ ea;obtain⟨od,J,_⟩:=O.look;exact fu (PySem.W.kitx_own (cl.get _) cl.hd ha hn htk hm) I.mY J e 701 h
end
structure iH(k:Nat)(A:Around):Prop where
 hd:A.handled=none
 dp:A.depth+3*k+5<recursionLimit
 un:A.units+16*k+200<cLine
def iH.mono(r:iH k A)(h:j<=k):iH j A:={r.hd,by have:=r.dp;lia,by have:=r.un;lia}
def iH.deeper(r:iH (k+1) A)(env:Env):iH k (A.deeper env):=
 {r.hd,by have:=r.dp;show A.depth+1+3*k+5<_;lia,by have:=r.un;show A.units+3+16*k+200<_;lia}
def Q7{A:Around}:(A.under (.builtin "type.__call__" {.ref C::us,kw})).depth=A.depth+1:=by
 first|rfl|simp[Around.under,Code.weight,Code.isCreation,Code.isGuard,Code.isCaller,Code.frames,Code.isFrame,guardIds]
def Q6{A:Around}:(A.under (.builtin "type.__call__" {.ref C::us,kw})).units=A.units+1:=by
 first|rfl|simp[Around.under,Code.cUnits,Code.frames,Code.isFrame]
def iH.make(r:iH (k+1) A)(C:Addr)(us:Aae)(kw:List (Str×Value)):iH k (A.under (.builtin "type.__call__" {.ref C::us,kw})):=
 {r.hd,by have:=r.dp;rw[Q7];lia,by have:=r.un;rw[Q6];lia}
def iH.depth(r:iH k A):A.depth<recursionLimit:=by have:=r.dp;lia
def iH.units(r:iH k A):A.units+64<cLine:=by have:=r.un;lia
def iH.FP(r:iH k A):A.units<cLine:=by have:=r.un;lia
def Qw:TA:=λ_ H Q=>Q [] H
def zL(ta:TE)(tr:TA):TA:=λZ H Q=>ta Z H λx H1=>tr Z H1 λxs H2=>Q (x::xs) H2
section
variable{X:Cx}{e:Expr}{es:List Expr}{te:TE}{t:TA}{pos:Pos}
def iz:PA X [] Qw:=λ_ _ _ _ H Q I h=>j7 {[],H,I,.nil,h}
def fh(ha:PE X e te)(hr:PA X es t)(hs:starEach (e::es) X.env=(false,eval e X.env)::starEach es X.env:=by rfl):PA X (e::es) (zL te t):=by intro pos pins s Z H Q I h;rw[hs];exact fX (dh 698 λu s1 x H1 I1 r1 q1=>sE (hr pos pins s1 Z H1 _ I1 q1) λus s2 xs H2 I2 r2 q2=>{x::xs,H2,I2,.cons r1 r2,q2})
def bW{X:Cx}{e:Expr}{te:TE}(ha:PE X e te)(hs:starEach [e] X.env=(false,eval e X.env)::starEach [] X.env:=by rfl):PA X [e] (zL te Qw):=fh ha iz hs
def cw{X:Cx}{e f:Expr}{te tf:TE}(ha:PE X e te)(hb:PE X f tf)(hs:starEach [e,f] X.env=(false,eval e X.env)::starEach [f] X.env:=by rfl)(ht:starEach [f] X.env=(false,eval f X.env)::starEach [] X.env:=by rfl):PA X [e,f] (zL te (zL tf Qw)):=fh ha (bW hb ht) hs
def jX{X:Cx}{e f g:Expr}{te tf tg:TE}(ha:PE X e te)(hb:PE X f tf)(hc:PE X g tg)(hs:starEach [e,f,g] X.env=(false,eval e X.env)::starEach [f,g] X.env:=by rfl)(ht:starEach [f,g] X.env=(false,eval f X.env)::starEach [g] X.env:=by rfl)(hu:starEach [g] X.env=(false,eval g X.env)::starEach [] X.env:=by rfl):PA X [e,f,g] (zL te (zL tf (zL tg Qw))):=fh ha (cw hb hc ht hu) hs
def afv(t:TA):TE:=λZ H Q=>t Z H λxs H1=>xs.length<=sizeLine/\∀p,H1 p=none->Q 676 (upd H1 p 672)
def afy(t:TA):TE:=λZ H Q=>t Z H λxs H1=>xs.length<=sizeLine/\∀p,H1 p=none->Q 676 (upd H1 p (.lst xs))
def d9{x1}(h:PA X es t):PE X (.Tuple es x1 pos) (afv t):=by intro pins s Z H Q I hq;refine wpAny_Tuple_spliced (sE (h pos pins s Z H _ I hq) λus s1 xs H1 I1 r ⟨z,q⟩=>{r.length▸z,?_});refine{.ref s1.heap.objs.size,upd H1 s1.heap.objs.size 672,I1.laid (λb u e=>ao _ e) (aw _) ?_,9,q _ 704};exact{z,us,r,{_,682,9,_,9},_,682,9}
def dR(h:PA X es t):PE X (.List es pos) (afy t):=by intro pins s Z H Q I hq;refine wpAny_List_spliced (sE (h pos pins s Z H _ I hq) λus s1 xs H1 I1 r ⟨z,q⟩=>{r.length▸z,?_});refine{.ref s1.heap.objs.size,upd H1 s1.heap.objs.size (.lst xs),I1.laid (λb u e=>ao _ e) (aw _) ?_,9,q _ 704};exact{z,us,0,r,682}
abbrev Sp:=Aam->Hp->VK->XK->Prop
abbrev N5:=List Env->Hp->Shared->XK->Aac
structure IK(P:Program)(w:World)(K:Frag)(mg:Aab)(base:Heap)(A:Around)(outer:List Env)(s:Shared)(H:Hp):Prop where
 frames:A.frames=some outer
 mod:Mod K mg base
 bs:∀b o,base.get? b=some o->s.heap.get? b=some o/\H b=none
 Be:base.objs.size<=s.heap.objs.size
 sS:s.heap.FunFrames base outer
 JN:∀b∈Cs outer,H b=none
 bQ:j5 P w H s.heap
 bare:AllBare s.gens
def CE(outer:List Env)(P:Program)(w:World)(H:Hp)(s:Shared)(Q:VK)(u:Value)(s':Shared):Prop:=
 ∃v H',s'.os=s.os/\AllBare s'.gens/\Un (Cs outer) [] H H' s.heap s'.heap/\j5 P w H' s'.heap/\RelV v u/\Q v H'
end
def CR(CX:N5)(outer:List Env)(P:Program)(w:World)(H:Hp)(s:Shared)(Q:VK)(E:XK)(r:Result)(s':Shared):Prop:=
 match r with
 | .ok (.ret u)=>CE outer P w H s Q u s'
 | .ok _=>False
 | .error e=>CX outer H s E e s'
structure cK(P:Program)(w:World)(K:Frag)(mg:Aab)(base:Heap)(CX:N5)(k:Nat)(f:Addr)(fd:FuncData)(ps:Aaf)(sp:Sp):Prop where
 len:∀vs H Q E,sp vs H Q E->vs.length=ps.length
 run:∀(A:Around)(outer:List Env)(s:Shared)(H:Hp)(args:Args)(us:Aae)(vs:Aam)(Q:VK)(E:XK),iH k A->IK P w K mg base A outer s H->BindsTo s fd args (ps.zip us)->Vals vs us->sp vs H Q E->
  codeAny 667 A (.call 700 args) (CR CX outer P w H s Q E) s
def IK.make{K:Frag}(e:IK P w K mg base A outer s H)(C:Addr)(us:Aae)(kw:List (Str×Value)):
  IK P w K mg base (A.under (.builtin "type.__call__" {.ref C::us,kw})) outer s H:={by first|exact e.frames|(simpa[Around.under,Code.envs,Code.isFrame,pushEnvs]using e.frames),e.mod,e.bs,e.Be,e.sS,e.JN,e.bQ,e.bare}
section
variable{X:Cx}{pins:Aaa}{Z:St}{H:Hp}{s s':Shared}
def Inv.env0(I:Inv X pins Z H s):IK X.prog X.w X.K X.mg X.base X.A X.stack s H:=
 {I.ok.frames,I.ok.mod,I.bs,bu I.ok.Be I.sz,I.stack,I.Hm,I.bQ,I.bare}
def Inv.after(I:Inv X pins Z H s)(h:CE X.stack X.prog X.w H s Q u s'):EP X pins Z Q u s':=by obtain⟨v,H',os,bare,un,bQ,r,q⟩:=h;obtain⟨hh,g,d,t,Y1⟩:=s';obtain rfl:Y1=s.os:=os;exact{v,H',I.call un bQ bare (λb z=>absurd z 59),r,q}
end
def YB(sp:Sp)(qK:Aam)(E:XK)(t:TA):TE:=λZ H Q=>t Z H λvs H1=>sp (vs++qK) H1 Q E
inductive aco(C:Addr)(m:Str)(sp:Sp)(qK:Aam)(E:XK)(t:TA)(Z:St)(Q:VK)(x:V)(H1:Hp):Prop
 |mk a dx fs (_:x=.ref a) (_:H1 a=some (.ins C dx fs)) (_:fs.lookup m=none) (_:t Z H1 λvs H2=>sp (x::(vs++qK)) H2 Q E)
def Yz(C:Addr)(m:Str)(sp:Sp)(qK:Aam)(E:XK)(ta:TE)(t:TA):TE:=λZ H Q=>ta Z H λx H1=>aco C m sp qK E t Z Q x H1
def YA(C:Addr)(sp:Sp)(qK:Aam)(E:XK)(t:TA):TE:=λZ H Q=>t Z H λvs H1=>∀x dx,H1 x=none->H1 dx=none->dx≠x->
 sp (.ref x::(vs++qK)) (upd (upd H1 dx (.own x)) x (.ins C dx [])) (λv H2=>v=.cz/\Q (.ref x) H2) E
def Binds(K:Frag)(fd:FuncData)(ps:Aaf)(ds:Aae):Prop:=
 ∀(s:Shared)(us:Aae),K.In s.heap->(us++ds).length=ps.length->BindsTo s fd {us,[]} (ps.zip (us++ds))
def Binds.all{K:Frag}(h:∀us:Aae,us.length=ps.length->bindArgs fd {us,[]}=pure (ps.zip us)):Binds K fd ps []:=λs us _ hl=>by rw[cL]at hl⊢;exact .of_eq (h us hl)
def Passes(CX:N5)(X:Cx)(E:XK):Prop:=∀(pins:Aaa)(Z:St)(H:Hp)(s:Shared)(e:Value)(s':Shared),Inv X pins Z H s->CX X.stack H s E e s'->X.xe e s'
section
variable{X:Cx}{CX:N5}{k:Nat}{f C:Addr}{fd:FuncData}{ps:Aaf}{sp:Sp}{qK:Aam}{ds:Aae}{E:XK}{x m:Str}{p pos apos:Pos}{e o:Expr}{es:List Expr}{ta:TE}{t:TA}
def SX(F:cK X.prog X.w X.K X.mg X.base CX k f fd ps sp)(hr:iH k X.A)(hb:Binds X.K fd ps ds)(hd:Vals qK ds)(hx:Passes CX X E)
  (I:Inv X pins Z H s) (r:Vals vs us) (h:sp (vs++qK) H Q E):wpAny 56 X.A (call 700 us) 709 X.xe s:=by
 have r2:=r.append hd;refine FK (md (F.run X.A X.stack s H {us,[]} (us++ds) (vs++qK) Q E hr I.env0 (hb s us I.mY (by rw[<-r2.length];exact F.len _ _ _ _ h)) r2 h) λr s' hq=>?_);cases r with
 |error e=>exact hx pins Z H s e s' I hq
 |ok fl=>
  cases fl with
  |ret u=>exact I.after hq
  |next=>exact False.elim hq
  |brk=>exact False.elim hq
  |cont=>exact False.elim hq
def aa8(F:cK X.prog X.w X.K X.mg X.base CX k f fd ps sp)(hr:iH k X.A)(hg:Gl X x)(hm:X.mg x=some 700)(hk:keepIn X.K 700=true)(hb:Binds X.K fd ps ds)(hd:Vals qK ds)(hx:Passes CX X E)
  (ha:PA X (e::es) t) (Cm:663=false:=by decide) (he:starEach (e::es) X.env=(false,eval e X.env)::starEach es X.env:=by rfl) (jN:(backTo pos 712).any (·.1)=false:=by rfl):
  PE X 708 (YB sp qK E t):=by
 intro pins s Z H Q I h;refine nP (HW I hg hm ?_ Cm);exact ue I.ok.mod.Uk hk (sE (ha pos pins s Z H _ I h) λus s1 vs H1 I1 r q=>{I1.mY,SX F hr hb hd hx I1 r q}) he jN
def aa5(he:PE X o ta)(c:Dd X.K C)(hm:Meth X.K C m f)(F:cK X.prog X.w X.K X.mg X.base CX k f fd ps sp)(hr:iH k X.A)(hb:Binds X.K fd ps ds)(hd:Vals qK ds)(hx:Passes CX X E)(ha:PA X (e::es) t)
  (A8:starEach (e::es) X.env=(false,eval e X.env)::starEach es X.env:=by rfl) (jN:(backTo pos 712).any (·.1)=false:=by rfl)
  (ht:eval (.Call (.Attribute o m apos) (e::es) [] pos) X.env=(do
   let ov<-eval o X.env
   standAt apos.atName
   let(f,first)<-holding [ov] (getMethod ov m pl)
   callWith pos f first (backTo pos (starEach (e::es) X.env)) (backToKw pos (keywordEach [] X.env))):=by rfl):
  PE X (.Call (.Attribute o m apos) (e::es) [] pos) (Yz C m sp qK E ta t):=by
 intro pins s Z H Q I h;refine PySem.W.methodCall_KW (dh 732 λu s1 x H1 I1 rx agB=>?_) ht;obtain⟨a,dx,fs,ex,ea,l,q⟩:=agB;subst ex;obtain rfl:u=Value.ref a:=rx;refine RD I1 ea c hm l ?_;refine ue I.ok.mod.Uk hm.kp (sE (ha pos pins s1 Z H1 _ I1 q) λus s2 vs H2 I2 r q2=>{I2.mY,?_}) A8 jN;exact SX (vs:=.ref a::vs) F hr hb hd hx I2 (.cons 9 r) q2
structure Mk(K:Frag)(C f:Addr):Prop where
 makes:PySem.W.makesIn K C=true
 init:findIn K (.ref C) "__init__"=some (some 700)
 fn:isFn K 700=true
 kp:keepIn K (.ref C)=true
def Wt(M:Mk X.K C f)(F:cK X.prog X.w X.K X.mg X.base CX k f fd ps sp)(hr:iH (k+1) X.A)(hb:Binds X.K fd ps ds)(hd:Vals qK ds)
  (hx:Passes CX X E) (I:Inv X pins Z H s) (r:Vals vs us)
  (h:∀x dx,H x=none->H dx=none->dx≠x->sp (.ref x::(vs++qK)) (upd (upd H dx (.own x)) x (.ins C dx [])) (λv H2=>v=.cz/\Q (.ref x) H2) E):
  wpAny 56 X.A (call (.ref C) us) 709 X.xe s:=by
 have hq:=h 649 s.heap.objs.size (I.bQ.fresh (fG _)) 683 (aX (eF _));have I2:=Inv.made (C:=C) I;have r2:Vals (V.ref 649::(vs++qK)) (Value.ref 649::(us++ds)):=.cons rfl (r.append hd);have hl:(Value.ref 649::us++ds).length=ps.length:=by have e:=r2.length;rw[F.len _ _ _ _ hq]at e;exact e.symm
 refine FK (W7 I.mY M.makes M.init (rG.mp M.fn) (md (F.run _ X.stack _ _ {Value.ref 649::us,[]} (Value.ref 649::(us++ds)) _ _ E (hr.make C us [])
  (I2.env0.make C us []) (hb _ (Value.ref 649::us) I2.mY hl) r2 hq) λr s' UN=>?_))
 cases r with
 |error e=>exact hx pins Z _ _ e s' I2 UN
 |ok fl=>
  cases fl with
  |ret u=>
   obtain⟨v,H',I3,rv,ev,q3⟩:=I2.after UN;subst ev;exact{rv,{V.ref 649,H',I3,9,q3}}
  |next=>exact False.elim UN
  |brk=>exact False.elim UN
  |cont=>exact False.elim UN
def aa6(M:Mk X.K C f)(F:cK X.prog X.w X.K X.mg X.base CX k f fd ps sp)(hr:iH (k+1) X.A)(hg:Gl X x)(hm:X.mg x=some (.ref C))(hb:Binds X.K fd ps ds)(hd:Vals qK ds)(hx:Passes CX X E)
  (ha:PA X (e::es) t) (Cm:663=false:=by decide) (he:starEach (e::es) X.env=(false,eval e X.env)::starEach es X.env:=by rfl) (jN:(backTo pos 712).any (·.1)=false:=by rfl):
  PE X 708 (YA C sp qK E t):=by
 intro pins s Z H Q I h;refine nP (HW I hg hm ?_ Cm);exact ue I.ok.mod.Uk M.kp (sE (ha pos pins s Z H _ I h) λus s1 vs H1 I1 r q=>{I1.mY,Wt M F hr hb hd hx I1 r q}) he jN
variable{ks:Aaf}
structure ahv(K:Frag)(fd:FuncData)(ps ks:Aaf)(g:Aae->Aae->Aae)(gV:Aam->Aam->Aam):Prop where
 to:∀(s:Shared)(us ws:Aae),K.In s.heap->(g us ws).length=ps.length->BindsTo s fd {us,ks.zip ws} (ps.zip (g us ws))
 rel:∀{vs:Aam}{us:Aae}{zs:Aam}{ws:Aae},Vals vs us->Vals zs ws->Vals (gV vs zs) (g us ws)
end
structure bZ(N P:Aaf)(sc:Scope):Prop where
 kind:sc.kind=.function
 co:sc.isCoroutine=false
 gen:sc.isGenerator=false
 nd:N.Nodup
 pre:N.take P.length=P
 par:∀x∈P,sc.names.lookup x=some .local\/sc.names.lookup x=some .cell
 ac7:∀y∈sc.names,y.2≠ .free
def gC{N P:Aaf}{sc:Scope}(h:sc.kind=.function/\sc.isCoroutine=false/\sc.isGenerator=false/\N.Nodup/\N.take P.length=P/\(∀x∈P,sc.names.lookup x=some .local\/sc.names.lookup x=some .cell)/\∀y∈sc.names,y.2≠ .free):bZ N P sc:={h.1,h.2.1,h.2.2.1,h.2.2.2.1,h.2.2.2.2.1,h.2.2.2.2.2.1,h.2.2.2.2.2.2}
def gg{X:Cx}{x:Str}{pos:Pos}{ps:Aaf}{sc:Scope}(i:Nat)(S:bZ X.N ps sc)(hi:X.N[i]?=some x:=by rfl)(hx:X.env.scope.names.lookup x=some .local:=by rfl):PG X (.Name x pos) (xx i):=qD S.nd hi (Or.inl hx) (Or.inr hx)
def dM{X:Cx}{x:Str}{pos pos':Pos}{e:Expr}{te:TE}{ps:Aaf}{sc:Scope}(i:Nat)(S:bZ X.N ps sc)(he:PE X e te)(hi:X.N[i]?=some x:=by rfl)(hx:X.env.scope.names.lookup x=some .local:=by rfl)(hs:swapsWith e (some (.Name x pos')) pos.line X.env=pure false:=by rfl):PS X (.Assign [.Name x pos'] e pos) (Wb te (xx i)):=kx S.nd hi (Or.inl hx) he hs (Or.inr hx)
theorem J4{kindOf:Str->Option NameKind}:∀{binds:List (Str×Value)}{m:Aab},(∀v,(x,v)∉binds)->bindL kindOf binds m x=m x
 |[],_,_=>rfl
 |(n,v)::r,m,h=>by
  unfold bindL;rw[J4 λw hw=>h w (aG _ hw)];split
  ·have:x≠n:=by rintro rfl;exact h v aF
   simp[this]
  ·rfl
theorem Ka{kindOf:Str->Option NameKind}:∀{binds:List (Str×Value)}{m:Aab},(∀v,(x,v)∉binds)->bindC kindOf binds m x=m x
 |[],_,_=>rfl
 |(n,v)::r,m,h=>by
  unfold bindC;rw[Ka λw hw=>h w (aG _ hw)];split
  ·rfl
  ·have:x≠n:=by rintro rfl;exact h v aF
   simp[this]
theorem J5{kindOf:Str->Option NameKind}:∀{P:Aaf}{vs:Aae}{i:Nat}{m:Aab},P.Nodup->P[i]?=some x->vs[i]?=some v->kindOf x=some .local->
  bindL kindOf (P.zip vs) m x=some v
 |[],_,_,_,_,h,_,_=>by simp at h
 |_::_,[],_,_,_,_,h,_=>by simp at h
 |p::P,w::vs,0,m,nd,h1,h2,hk=>by simp at h1 h2;subst h1;subst h2;show bindL kindOf ((p,w)::P.zip vs) m p=_;unfold bindL;rw[J4 λv hv=>(dc.mp nd).1 (xF hv).1,aM hk];simp
 |p::P,w::vs,i+1,m,nd,h1,h2,hk=>by unfold bindL;exact J5 (dc.mp nd).2 (by simpa using h1) (by simpa using h2) hk
theorem Kb{kindOf:Str->Option NameKind}:∀{P:Aaf}{vs:Aae}{i:Nat}{m:Aab},P.Nodup->P[i]?=some x->vs[i]?=some v->kindOf x≠some .local->
  bindC kindOf (P.zip vs) m x=some v
 |[],_,_,_,_,h,_,_=>by simp at h
 |_::_,[],_,_,_,_,h,_=>by simp at h
 |p::P,w::vs,0,m,nd,h1,h2,hk=>by simp at h1 h2;subst h1;subst h2;show bindC kindOf ((p,w)::P.zip vs) m p=_;unfold bindC;rw[Ka λv hv=>(dc.mp nd).1 (xF hv).1,aI hk];simp
 |p::P,w::vs,i+1,m,nd,h1,h2,hk=>by unfold bindC;exact Kb (dc.mp nd).2 (by simpa using h1) (by simpa using h2) hk
def start(N:Aaf)(vs:Aam):St:=vs.map some++List.replicate (N.length -vs.length) none
noncomputable def NO(CX:N5)(P:Program)(w:World)(K:Frag)(mg:Aab)(base:Heap)(N:Aaf)(qual:Str)(scope:Scope)(f:Addr)(cd:Value)(A:Around)(outer:List Env)(s:Shared)(H:Hp)(E:XK):Cx where
 prog:=P
 w:=w
 K:=K
 mg:=mg
 base:=base
 A:=A.deeper (envOfC qual scope s.heap.objs.size f cd)
 N:=N
 aac:=s
 aae:=H
 env:=envOfC qual scope s.heap.objs.size f cd
 outer:=outer
 stack:=envOfC qual scope s.heap.objs.size f cd::outer
 ex:=[]
 calm:=true
 fn:=λ_=>true
 pn:=[]
 xe:=λe s'=>wpAny 667 (A.deeper (envOfC qual scope s.heap.objs.size f cd)) (leaving (envOfC qual scope s.heap.objs.size f cd) e) (λ_ s''=>CX outer H s E e s'') (λe' s''=>CX outer H s E e' s'') s'
def NS{sc:Scope}(h:sc.names.lookup x=some .cell):∃c,(cellsFrom n sc.names []).lookup x=some c:=by exact wD.mp (yt sc.names n [] (.inl h))
def Uw{K:Frag}
  (S:bZ N ps scope) (hd:A.handled=none) (e0:IK P w K mg base A outer s H) (hl:vs.length=ps.length) (r:Vals vs us)
  (x:InCallC s s.heap.objs.size (bindL (envOfC qual scope s.heap.objs.size f cd).kindOf (ps.zip us) λ_=>none) (cellsFrom 649 scope.names []) (bindC (envOfC qual scope s.heap.objs.size f cd).kindOf (ps.zip us) λ_=>none) s1):
  Inv (NO CX P w K mg base N qual scope f cd A outer s H E) [] (start N vs) H s1:=by
 have jN:ps.length<=N.length:=by have:=cR List.length S.pre;rw[a9]at this;lia
 obtain⟨h1,tk,rfl,hk⟩:=x.done;have TR:∀b:Addr,b∉(NO CX P w K mg base N qual scope f cd A outer s H E).ex:=λb z=>absurd (show b∈([]:Aah)from z) 59;refine{{e0.mod,S.kind,9,9,aw _,λy z c h1 h2=>?_,λy hy=>?_,λy c _ h=>?_,λ_=>hd,Around.frames_deeper e0.frames,.inr ⟨rfl,rfl⟩,λb z=>absurd z (TR b),e0.bs,e0.Be,λb _ _=>TR b,λb z=>absurd z (TR b),e0.sS,e0.JN},
  rfl,e0.bare,Un.kept hk,{_,x.toInCall.ns,λi y v h1 h2 h3=>?_},λy c h=>{_,x.cell y c h},e0.bQ.fresh (aw _),λy c h=>?_,λp hp=>absurd (show p∈([]:Aaa)from hp) 59,e0.bQ.kept hk,?_}
 ·exact name_of_addr x.apart (kM h1) (kM h2)
 ·have hy:=hy;rcases hy with hy|hy
  ·exact NS hy
  ·exact absurd rfl (S.ac7 _ (kM hy))
 ·exact bB (x.above y c (kM h))
 ·have hi:i<vs.length:=by
   unfold start at h2;by_cases hi:i<vs.length
   ·exact hi
   ·rw[ik (by simpa using hi)]at h2;rw[w6]at h2;split at h2<;>cases h2
  have ha:vs[i]?=some v:=by
   unfold start at h2;rw[kg (by simpa using hi),aW]at h2;cases e:vs[i]? with
   |none=>rw[e]at h2;cases h2
   |some a=>rw[e]at h2;cases h2;rfl
  obtain⟨u,hu,rv⟩:=r.get ha;have hp:ps[i]?=some y:=by rw[<-S.pre,wJ ∅];exact h1
  have ndP:ps.Nodup:=by rw[<-S.pre];exact S.nd.sublist (DW _ _)
  refine{u,rv,?_};rcases S.par y (az hp)with k|k
  ·exact .inl {k,J5 ndP hp hu k}
  ·obtain⟨c,e⟩:=NS k;refine .inr {.inl k,c,e,?_};have q:=x.cell y c e;rw[Kb ndP hp hu (by show scope.names.lookup y≠_;rw[k];decide)]at q;exact q
 ·exact e0.bQ.fresh (bB (x.above y c (kM h)))
 ·unfold start;show _=N.length;rw[aD,aj,gF];lia
def afi{K:Frag}{dV kV doc pm cY ct oc:Value}
     (lk:K.lookup f=some {oc,od,.func (fnOf name qual params body scope dV kV doc pm an cY ct),A4}) (Co:codeIn K cY qual=true) (S:bZ N ps scope)
  (len:∀vs H Q E,sp vs H Q E->vs.length=ps.length)
  (Ry:∀(A:Around)(outer:List Env)(s:Shared)(H:Hp)(vs:Aam)(Q:VK)(E:XK),iH k (A.deeper (envOfC qual scope s.heap.objs.size f cY))->sp vs H Q E->
   ∃t,pX (NO CX P w K mg base N qual scope f cY A outer s H E) body t/\t {nx:=λ_ H'=>Q .cz H',rt:=Q} (start N vs) H):
  cK P w K mg base CX (k+1) f (fnOf name qual params body scope dV kV doc pm an cY ct) ps sp:=by
 refine{len,λA outer s H args us vs Q E hr e0 hb r Jx=>?_};have hl:=len _ _ _ _ Jx;have KX:=e0.mod.Uk.keeps λb o e=>(e0.bs b o e).1;have afa:∀y∈ps.zip us,scope.names.lookup y.1=some .local\/(scope.names.lookup y.1=some .cell/\((cellsFrom 649 scope.names []).lookup y.1).isSome=true):=λ⟨n,v⟩ hy=>by
  rcases S.par n (xF hy).1 with q|q
  ·exact .inl q
  ·exact .inr {q,yt _ _ _ (.inl q)}
 refine codeAny_call_function hr.depth (KX _ _ lk) rfl S.co S.gen rfl (PySem.W.codeRec_of KX Co) (hb _ _ _ _ ?_);refine wpAny_newFunctionEnv_cells S.kind afa λenv he s1 x=>?_;subst he;refine{(e0.mod.nolimit.keeps λb o e=>(e0.bs b o e).1).keeps x.toInCall.keep,codeAny_func ?_};obtain⟨t,ht,hq⟩:=Ry A outer s H vs Q E (hr.deeper _) Jx;refine dC (ht [] s1 (start N vs) H _ (Uw S hr.hd e0 hl r x) hq) (λfl s' hs=>?_) λe s' hs=>hs;have fin:∀{σ':St}{H':Hp}{v:V}{u:Value},Inv (NO CX P w K mg base N qual scope f cY A outer s H E) [] σ' H' s'->RelV v u->Q v H'->CE outer P w H s Q u s':=
  λ{σ' H' v u} J rv q=>{v,H',J.os,J.bare,J.base,J.bQ,rv,q}
 cases fl with
 |ret u=>
  obtain⟨v,σ',H',J,rv,q⟩:=hs;exact fin J rv q
 |next=>
  obtain⟨σ',H',J,q⟩:=hs;exact fin (v:=V.cz) J rfl q
 |brk=>
  obtain⟨_,_,_,q⟩:=hs;exact False.elim q
 |cont=>
  obtain⟨_,_,_,q⟩:=hs;exact False.elim q
section
variable{X:Cx}{x:Str}{p pos:Pos}{e:Expr}{es:List Expr}{t:TA}{id T:String}{r:Aam->Hp->VK->Prop}
def tCB(r:Aam->Hp->VK->Prop)(t:TA):TE:=λZ H Q=>t Z H λvs H1=>r vs H1 Q
def bM(hc:gZ X (.builtin id) r)(hg:Gl X x)(hm:X.mg x=none)(hv:bootBuiltins x=some (.builtin id))(ha:PA X (e::es) t)(hn:x≠"__name__":=by decide)(Cm:663=false:=by decide)
  (he:starEach (e::es) X.env=(false,eval e X.env)::starEach es X.env:=by rfl) (jN:(backTo pos 712).any (·.1)=false:=by rfl):PE X 708 (tCB r t):=by
 intro pins s Z H Q I h;exact nP (rp I hg hm hv (PyProof.Rows.callWith_builtin1 (sE (ha pos pins s Z H _ I h) λus s1 vs H1 I1 r1 q1=>hc pins s1 Z H1 vs us Q I1 r1 q1) he jN) hn Cm)
def cU(hc:gZ X (.type T) r)(hg:Gl X x)(hm:X.mg x=none)(hv:bootBuiltins x=some (.type T))(ha:PA X (e::es) t)(hn:x≠"__name__":=by decide)(Cm:663=false:=by decide)
  (he:starEach (e::es) X.env=(false,eval e X.env)::starEach es X.env:=by rfl) (jN:(backTo pos 712).any (·.1)=false:=by rfl):PE X 708 (tCB r t):=by
 intro pins s Z H Q I h;exact nP (rp I hg hm hv (eO (sE (ha pos pins s Z H _ I h) λus s1 vs H1 I1 r1 q1=>hc pins s1 Z H1 vs us Q I1 r1 q1) he jN) hn Cm)
end
end L2
namespace HT
open PySem PyProof.Rows
section
open PySem.SeqAt
open PySem.AutoSeq1 (wpAny_loadPart')
open PySem.MeetsSeq PySem.MeetsSeq2 PySem.MeetsSeq3
end
section
variable{prog:Program}{w:World}{A:Around}{E:Aac}{s:Shared}
def abW(ht:IsTup s.heap t vs.toArray)(hb:IsTup s.heap b ws.toArray)(hv:vs≠[])
  (h1:ws=[]->Q (.ref t) s) (h2:ws≠[]->Q 352 {s with heap:=s.heap.push {cls:=.type "tuple",data:=.seq (vs++ws).toArray}})
  (hsz:vs.length+ws.length<=sizeLine):wpAny 58 A (binaryOp .Add (.ref t) (.ref b)) Q E s:=by
 obtain⟨⟨cls,dd,data,sl⟩,ho,hc,n,hd⟩:=id ht;obtain⟨⟨ahk,Z9,data2,YL⟩,uS,ub,n2,hd2⟩:=id hb;simp only at hc hd ub hd2;subst hc hd ub hd2;have e:vs.toArray++ws.toArray=(vs++ws).toArray:=by simp
 by_cases hw:ws=[]
 ·exact CB ⟨_,ho,rfl⟩ ⟨_,uS,rfl⟩ vU AX pW pE (oB _ _)
   (tuple_addW1 t b vs.toArray ws.toArray n n2 dd Z9 sl YL (by simpa using hv) (by simp[hw])) {ho,uS,h1 hw}
 ·refine CB ⟨_,ho,rfl⟩ ⟨_,uS,rfl⟩ vU AX pW pE (oB _ _)
   (tuple_addW2 t b vs.toArray ws.toArray n n2 dd Z9 sl YL (by simpa using hv) (by simpa using hw) (by rw[aR,aR];exact hsz)) {ho,uS,?_}
  rw[e];exact h2 hw
def eK(n d:Nat):Option Int->Nat
 |none=>d
 |some v=>if v<0 then(v+(n:Int)).toNat else min v.toNat n
def zX(n d:Nat):eK n d none=d:=9
def Dw(n d k:Nat):eK n d (some (k:Int))=min k n:=by show(if(k:Int)<0 then((k:Int)+(n:Int)).toNat else min (k:Int).toNat n)=min k n;rw[aI ∅,eX]
def Qf(v:Int)(n d:Nat):(if v<0 then max (v+(n:Int)) 0 else min v (n:Int))=((eK n d (some v):Nat):Int):=by
 show(if v<0 then max (v+(n:Int)) 0 else min v (n:Int))=(((if v<0 then(v+(n:Int)).toNat else min v.toNat n):Nat):Int);by_cases hv:v<0
 ·simp only[aM hv];lia
 ·simp only[aI hv];lia
def R5(lo hi:Option Int)(n:Nat):Builtin.Slice.sliceAdjust lo hi 1 (n:Int)=(((eK n 0 lo:Nat):Int),((eK n n hi:Nat):Int)):=by
 have h1:¬((1:Int)<0):=by lia
 unfold Builtin.Slice.sliceAdjust;refine FG ?_ ?_
 ·cases lo with
  |none=>rfl
  |some v=>exact Qf v n 0
 ·cases hi with
  |none=>rfl
  |some v=>exact Qf v n n
def QL(i j:Nat):Builtin.Slice.slicePlaces (i:Int) (j:Int) 1=j -i:=by
 unfold Builtin.Slice.slicePlaces;have h1:(1:Int)>0:=by lia
 split<;>lia
def FY{v:Value}{o:Option Int}{Q:Option Int->Shared->Prop}(p:IsPart v o)(h:Q o s):wpAny 58 A (Builtin.Slice.slicePartIndex v) Q E s:=by
 cases p with
 |none=>exact slicePart_none h
 |int i t=>exact slicePart_int h
def vF{sl:Addr}{vl vu:Value}{lo hi:Option Int}{n:Nat}{Q:Int×Int×Nat->Shared->Prop}(hs:s.heap.IsSliceOf sl vl vu .none)(pl:IsPart vl lo)(pu:IsPart vu hi)
  (h:Q (((eK n 0 lo:Nat):Int),1,eK n n hi -eK n 0 lo) s):wpAny 58 A (Builtin.Slice.sliceApplied (.ref sl) (pure (n:Int))) Q E s:=by
 obtain⟨os,MU,ZT,UY⟩:=id hs;refine ah (ah (du MU UY 9 (ah (du MU UY 9 (ah (du MU UY 9 666))))));refine ah (slicePart_none ?_);refine ah (FY pl (ah (FY pu (ah 666))));show wpAny _ _ (match Builtin.Slice.sliceAdjust lo hi 1 (n:Int)with|(lo,hi)=>pure (lo,(1:Int),Builtin.Slice.slicePlaces lo hi 1)) _ _ s;rw[R5 lo hi n];show wpAny _ _ (pure (((eK n 0 lo:Nat):Int),(1:Int),Builtin.Slice.slicePlaces ((eK n 0 lo:Nat):Int) ((eK n n hi:Nat):Int) 1)) _ _ s;rw[QL];exact aq h
def WE(xs:Aaj)(i k:Nat):((List.range k).filterMap λ(m:Nat)=>xs[((i:Int)+(m:Int)*1).toNat]?).toArray=((xs.toList.drop i).take k).toArray:=by
 have e:(λ(m:Nat)=>xs[((i:Int)+(m:Int)*1).toNat]?)=λm=>xs[i+m]?:=by
  funext m;have:((i:Int)+(m:Int)*1).toNat=i+m:=by lia
  rw[this]
 rw[e];have:=pick_run xs i k;rw[uh]at this;have e2:((λx=>xs[x]?)∘λx=>i+x)=λm=>xs[i+m]?:=9;rw[e2]at this;rw[this]
def DP{t sl:Addr}{items:Aaj}{vl vu:Value}{lo hi:Option Int}{Q:Aac}(ht:IsTup s.heap t items)(hs:s.heap.IsSliceOf sl vl vu .none)(pl:IsPart vl lo)(pu:IsPart vu hi)
  (hw:¬(eK items.size 0 lo=0/\eK items.size items.size hi=items.size))
  (h:Q 352 {s with heap:=s.heap.push {cls:=.type "tuple",data:=.seq ((items.toList.drop (eK items.size 0 lo)).take 662).toArray}})
  (hsz:items.size<=sizeLine):wpAny 58 A (getItem (.ref t) (.ref sl)) Q E s:=by
 have KD:sizeOk (.seq ((items.toList.drop (eK items.size 0 lo)).take 662).toArray):=by show((items.toList.drop (eK items.size 0 lo)).take 662).toArray.size<=sizeLine;rw[aR,a9,dE,bJ];lia
 obtain⟨os,MU,ZT,UY⟩:=id hs;unfold getItem
 try with_reducible refine cn ?_
 first|refine ah (aq ?_)|skip
 refine ah (DJ ht.typeIs 7 ?_);refine ah (wpAny_callSpecial?_slot ht.typeIs eY
  (b7 eY ht.typeIs Bm ?_ (CN _ _)))
 show wpAny _ _ (Builtin.Tuple.tupleItemsOf (.ref t)>>=_) _ _ s;refine ah (tupleItemsOf_ ht ?_);refine ah (hV (⟨os,MU,ZT⟩) ?_);refine ah (vF hs pl pu ?_);have zf:¬(658=true):=by intro q;rw[bP,bP]at q;have q1:=dW q.1.1;have q2:=dW q.2;exact hw {8,8}
 show wpAny _ _ (if 658=true then _ else _) _ _ s;rw[aI zf,WE]
 first
  |exact ah (cP (aq ⟨_,rfl,aq h⟩) KD)
  |exact ah (cP (ah (aq (aq ⟨_,rfl,aq h⟩))) KD)
  |exact ah (ah (cP (aq (aq ⟨_,rfl,aq h⟩)) KD))
  |exact ah (ah (cP (aq ⟨_,rfl,aq h⟩) KD))
end
end HT
namespace L2
open PySem PySem.Spec PyProof.Rows
abbrev TO:=St->Hp->(Option Int->Hp->Prop)->Prop
def PO(X:Cx)(e:Option Expr)(t:TO):Prop:=
 ∀(pins:Aaa)(s:Shared)(Z:St)(H:Hp)(Q:Option Int->Hp->Prop),Inv X pins Z H s->t Z H Q->
  wpAny 56 X.A (evalPart e X.env) (λu s'=>∃o H',Inv X pins Z H' s'/\IsPart u o/\Q o H') X.xe s
def OO:TO:=λ_ H Q=>Q none H
inductive acm(Q:Option Int->Hp->Prop)(x:V)(H1:Hp):Prop
 |mk i (_:x=.int i) (_:Q (some i) H1)
def aeC(t:TE):TO:=λZ H Q=>t Z H λx H1=>acm Q x H1
section
variable{X:Cx}{e:Expr}{te:TE}{lo hi:Option Expr}{tl th:TO}{pos p2:Pos}
def oS:PO X none OO:=by intro pins s Z H Q I h;exact aq {none,H,I,.none,h}
def oR(h:PE X e te):PO X (some e) (aeC te):=by intro pins s Z H Q I hw;refine dh (h pins s Z H _ I hw) λu s1 x H1 I1 r1 q1=>?_;obtain⟨i,rfl,q⟩:=q1;obtain⟨t,rfl⟩:=r1;exact{some i,H1,I1,.int i t,q}
def Qi(X:Cx)(r:V->Option Int->Option Int->Hp->VK->Prop):Prop:=
 ∀(pins:Aaa)(s:Shared)(Z:St)(H:Hp)(x:V)(v vl vu:Value)(lo hi:Option Int)(sl:Addr)(Q:VK),Inv X pins Z H s->RelV x v->s.heap.IsSliceOf sl vl vu .none->IsPart vl lo->IsPart vu hi->r x lo hi H Q->
  ∃T id,typeLookup (.type T) "__getitem__"=pure (some (.builtin id))/\s.TypeIs v T/\wpAny 56 X.A (getItem v (.ref sl)) 709 X.xe s
def tSl(r:V->Option Int->Option Int->Hp->VK->Prop)(te:TE)(tl th:TO):TE:=λZ H Q=>te Z H λx H1=>tl Z H1 λl H2=>th Z H2 λu H3=>r x l u H3 Q
def mJ(hr:Qi X r)(he:PE X e te)(hl:PO X lo tl)(hu:PO X hi th):PE X (.Subscript e (.Slice lo hi none p2) pos) (tSl r te tl th):=by intro pins s Z H Q I h;refine Ha (dh 732 λv s1 x H1 I1 r1 q1=>?_);refine wpAny_Slice (gB (hl pins s1 Z H1 _ I1 q1) λvl s2 Xg=>?_);obtain⟨l,H2,I2,pl,q2⟩:=Xg;refine gB (hu pins s2 Z H2 _ I2 q2) λvu s3 agA=>?_;obtain⟨u,H3,I3,pu,q3⟩:=agA;refine aq ?_;have I4:Inv X pins Z H3 {s3 with heap:=s3.heap.push {cls:=.type "slice",data:=.fields #[vl,vu,.none]}}:=I3.kept λb ob q=>ao _ q;obtain⟨T,id,hT,ht,hg⟩:=hr pins {s3 with heap:=s3.heap.push {cls:=.type "slice",data:=.fields #[vl,vu,.none]}} Z H3 x v vl vu l u s3.heap.objs.size Q I4 r1 (Heap.IsSliceOf.new ..) pl pu q3;exact tail_any ht hT hg 650
def lN(xs:Aam)(lo hi:Option Int):Aam:=(xs.drop (HT.eK xs.length 0 lo)).take (HT.eK xs.length xs.length hi -HT.eK xs.length 0 lo)
def tK(xs:Aam)(lo hi:Option Int):(lN xs lo hi).length<=xs.length:=by unfold lN;rw[a9,dE];lia
def afJ(K:Frag):V->Option Int->Option Int->Hp->VK->Prop:=λx lo hi H Q=>∃a xs,x=.ref a/\aZ K H a xs/\
 ¬(HT.eK xs.length 0 lo=0/\HT.eK xs.length xs.length hi=xs.length)/\∀p,H p=none->Q 676 (upd H p (.tup (lN xs lo hi)))
def acy:Qi X (afJ X.K):=by intro pins s Z H x v vl vu lo hi sl Q I rx hs pl pu h;obtain⟨a,xs,rfl,hx,hw,q⟩:=h;cases rx;obtain⟨ba,r,ht,hz⟩:=I.tuple hx;have hlen:ba.toArray.size=xs.length:=aR▸r.length.symm;refine{"tuple",_,eY.lookup,ht.typeIs,?_};refine HT.DP ht hs pl pu (hlen▸hw) ?_ (hlen▸hz);rw[hlen];refine{352,_,I.laid (λb ob q=>ao _ q) (aw _) ?_,9,q _ 683};exact{bu (tK xs lo hi) hz,_,(r.drop (HT.eK xs.length 0 lo)).take (HT.eK xs.length xs.length hi -HT.eK xs.length 0 lo),IsTup.new _ _,_,682,9}
def Vals.yW(r:Vals xs us):us=[]↔xs=[]:=by
 cases r with
 |nil=>simp
 |cons _ _=>simp
def Gi(n:Nat)(i:Int):Option Nat:=if 0<=i then(if i<n then some i.toNat else none)else if -(n:Int)<=i then some (i+n).toNat else none
def sg(xs:List α)(i:Int):Option α:=(Gi xs.length i).bind λj=>xs[j]?
def Ib(h:Gi n i=some j):seqIndex? i n=some j/\j<n/\-(n:Int)<=i/\i<n:=by
 unfold Gi at h;by_cases h0:0<=i
 ·rw[aM h0]at h;by_cases h1:i<n
  ·rw[aM h1]at h;have e:=bR h;exact{by rw[Ed h0 h1,e],8,8,h1}
  ·rw[aI h1]at h;cases h
 ·rw[aI h0]at h;by_cases h1:-(n:Int)<=i
  ·rw[aM h1]at h;have e:=bR h;exact{by rw[BD ∅ h1,e],8,h1,8}
  ·rw[aI h1]at h;cases h
def ID(h:sg xs i=some v):∃j,seqIndex? i xs.length=some j/\xs[j]?=some v/\j<xs.length/\-(xs.length:Int)<=i/\i<xs.length:=by
 unfold sg at h;cases e:Gi xs.length i with
 |none=>rw[e]at h;cases h
 |some j=>
  rw[e]at h;obtain⟨h1,h2,h3,h4⟩:=Ib e;exact⟨j,h1,h,h2,h3,h4⟩
def hJ{xs:List α}{j:Nat}{v:α}(h:xs[j]?=some v):sg xs (j:Int)=some v:=by
 have hj:=(au.mp h).1;have e:Gi xs.length (j:Int)=some j:=by unfold Gi;rw[aM ∅,aM ∅];simp
 unfold sg;rw[e];exact h
def ab3(b:Expr):Prop:=∀o i,subscripted b false o i=operate [o,i] (getItem o i)
end
def Qk(X:Cx)(r:R2):Prop:=
 ∀(value slice:Expr)(pins:Aaa)(s:Shared)(Z:St)(H:Hp)(x y:V)(v u:Value)(Q:VK),Inv X pins Z H s->RelV x v->RelV y u->r x y H Q->
  subscripted slice false v u=operate [v,u] (getItem v u)->wpAny 56 X.A (subscriptTail value slice v u) 709 X.xe s
def MtR(X:Cx)(id:String)(r:V->Aam->Hp->VK->Prop):Prop:=
 ∀(pins:Aaa)(s:Shared)(Z:St)(H:Hp)(x:V)(xs:Aam)(v:Value)(us:Aae)(Q:VK),Inv X pins Z H s->RelV x v->Vals xs us->r x xs H Q->
  wpAny 56 X.A (call (.builtin id) (v::us)) 709 X.xe s
section
variable{X:Cx}{a b:Expr}{ta tb:TE}{pos:Pos}
def bH(hr:Qk X r)(ha:PE X a ta)(hb:PE X b tb)(hs:ab3 b):PE X (.Subscript a b pos) (Yy r ta tb):=by intro pins s Z H Q I h;exact Ha (Yg ha hb I h λv u s2 x y H2 I2 rx ry q=>hr a b pins s2 Z H2 x y v u Q I2 rx ry q (hs _ _))
inductive acM(K:Frag)(x:V)(y:V)(H:Hp)(Q:VK):Prop
 |mk p xs i v (_:x=.ref p) (_:y=.int i) (_:bf K H p xs) (_:sg xs i=some v) (_:Q v H)
inductive acL(K:Frag)(x:V)(y:V)(H:Hp)(Q:VK):Prop
 |mk p xs i v (_:x=.ref p) (_:y=.int i) (_:aZ K H p xs) (_:sg xs i=some v) (_:Q v H)
inductive afM(x:V)(y:V)(H:Hp)(Q:VK):Prop
 |mk z i c (_:x=.str z) (_:y=.int i) (_:z.length<=sizeLine) (_:sg z.cps.toList i=some c) (_:Q (.str ⟨#[c]⟩) H)
def eM:Qk X (acM X.K):=by
 intro value slice pins s Z H x y v u Q I rx ry h hs;obtain⟨p,xs,i,z,rfl,rfl,hq,he,q⟩:=h;cases rx;obtain⟨t,rfl⟩:=ry;obtain⟨ba,r,pl,hz⟩:=I.list hq;obtain⟨j,h1,h2,h3,h4,h5⟩:=ID he;obtain⟨w,ew,pQ⟩:=r.get h2;have hl:=r.length;have hn:=yY;have fin:EP X pins Z Q w s:=⟨z,H,I,pQ,q⟩;by_cases h0:0<=i
 ·have hj:i.toNat=j:=by rw[Ed h0 h5]at h1;exact bR h1
  exact item_listR pl.isList h0 ∅ (by rw[hj];simpa using ew) fin hs
 ·have hj:(i+(ba.toArray.size:Int)).toNat=j:=by rw[BD ∅ h4]at h1;rw[aR,<-hl];exact bR h1
  exact xN pl.isList.typeIs slot_list_getitem.lookup
   (wpAny_getItem_list_neg pl.isList ∅ (by rw[aR]<;>lia) ∅ (by rw[hj];simpa using ew) ⟨rfl,fin⟩) hs
def b4:Qk X (acL X.K):=by
 intro value slice pins s Z H x y v u Q I rx ry h hs;obtain⟨p,xs,i,z,rfl,rfl,hq,he,q⟩:=h;cases rx;obtain⟨t,rfl⟩:=ry;obtain⟨ba,r,pl,hz⟩:=I.tuple hq;obtain⟨j,h1,h2,h3,h4,h5⟩:=ID he;obtain⟨w,ew,pQ⟩:=r.get h2;have hn:=yY;exact xN pl.typeIs slot_tuple_getitem.lookup
  (getItem_tuple pl ∅ ∅ (by rw[aR,<-r.length];exact h1) (by simpa using ew) {9,(⟨z,H,I,pQ,q⟩)}) hs
def Gh:Qk X afM:=by
 intro value slice pins s Z H x y v u Q I rx ry h hs;obtain⟨z,i,c,rfl,rfl,hz,he,q⟩:=h;obtain⟨t,rfl⟩:=rx;obtain⟨t',rfl⟩:=ry;obtain⟨j,h1,h2,h3,h4,h5⟩:=ID he;have hl:z.cps.toList.length=z.length:=by simp[Str.length]
 rw[hl]at h1 h4 h5;have hn:=yY;exact tail_any (oM s z t) slot_str_getitem.lookup (getItem_str (by
  rw[(cA ∅),(cA ∅),Bi]) (by rw[h1];simpa using h2) {.str ⟨#[c]⟩,H,686,726,q}) hs
def Q4(ba:Aae)(n j:Nat)(u:Value):Obj.mapSeq (·.setIfInBounds j u) {cls:=.type "list",data:=.seq ba.toArray n}={cls:=.type "list",data:=.seq (ba.set j u).toArray n}:=by simp[Obj.mapSeq]
def Inv.lst(I:Inv X pins Z H s)(h:H p=some (.lst xs)):
  ∃(ba:Aae)(n:Nat),Vals xs ba/\s.heap.get? p=some {cls:=.type "list",data:=.seq ba.toArray n}/\xs.length<=sizeLine:=by
 obtain⟨z,ba,n,r,e⟩:=I.bQ p _ h;exact⟨ba,n,r,e,z⟩
def Inv.adh{ba its':Aae}(I:Inv X pins Z H s)(h:H p=some (.lst xs))
  (ho:s.heap.get? p=some {cls:=.type "list",data:=.seq ba.toArray n}) (hf:f {cls:=.type "list",data:=.seq ba.toArray n}={cls:=.type "list",data:=.seq its'.toArray n'}) (r:Vals ys its') (hz:ys.length<=sizeLine) (t:Nat):
  Inv X pins Z (upd H p 679) {s with heap:=s.heap.update p f,toks:=t}:=by
 have e:(s.heap.update p f).get? p=some {cls:=.type "list",data:=.seq its'.toArray n'}:=by rw[eR f ho (by rw[hf]<;>rfl),hf]
 refine I.write (by rw[h];trivial) (.inl 9) (λb u hb q=>(cx _ _ (cM hb)).trans q) ⟨_,e⟩ ?_;exact⟨hz,its',n',r,e⟩
inductive aeR(o:V)(i:V)(v:V)(H:Hp)(Q:Hp->Prop):Prop
 |mk p xs k j (_:o=.ref p) (_:i=.int k) (_:H p=some (.lst xs)) (_:Gi xs.length k=some j) (_:Q (upd H p (.lst (xs.set j v))))
def set_list:aer X aeR:=by
 intro pins s Z H o i v ov iv u Q I ro ri rv h;obtain⟨p,xs,k,j,rfl,rfl,hp,hj,q⟩:=h;cases ro;obtain⟨t,rfl⟩:=ri;obtain⟨ba,n,r,ho,hz⟩:=I.lst hp;obtain⟨h1,h2,h3,h4⟩:=Ib hj;have hl:=r.length;have hn:=yY;have I':Inv X pins Z (upd H p (.lst (xs.set j v))) {s with heap:=s.heap.update p (Obj.mapSeq (·.setIfInBounds j u))}:=
  I.adh hp ho (Q4 ba n j u) (r.set rv j) (by rw[xG];exact hz) s.toks
 by_cases h0:0<=k
 ·have hk:k.toNat=j:=by rw[Ed h0 h4]at h1;exact bR h1
  exact PySem.W.ki_setAt ho h0 ∅ (by rw[aR,<-hl];exact h4) (by rw[hk];exact⟨_,I',q⟩)
 ·have hk:(k+(ba.toArray.size:Int)).toNat=j:=by rw[BD ∅ h3]at h1;rw[aR,<-hl];exact bR h1
  exact PySem.W.ki_setBack ho ∅ (by rw[aR,<-hl];exact h3) ∅ (by rw[hk];exact⟨_,I',q⟩)
def Lq(lo hi:Option Int)(n:Nat):(sliceBounds lo hi none n).1=((HT.eK n 0 lo:Nat):Int)/\(sliceBounds lo hi none n).2.1=((HT.eK n n hi:Nat):Int)/\(sliceBounds lo hi none n).2.2=1:=by
 refine{?_,?_,9}
 ·cases lo with
  |none=>simp[sliceBounds,HT.eK]
  |some i=>
   simp only[sliceBounds,HT.eK,Option.getD_none,show(1:Int)>0 by decide,o8];by_cases h:i<0
   ·simp only[h,o8]<;>lia
   ·simp only[h,kB]<;>lia
 ·cases hi with
  |none=>simp[sliceBounds,HT.eK]
  |some i=>
   simp only[sliceBounds,HT.eK,Option.getD_none,show(1:Int)>0 by decide,o8];by_cases h:i<0
   ·simp only[h,o8]<;>lia
   ·simp only[h,kB]<;>lia
def Kj(ba:Aae)(lo hi:Option Int):slicePick ba.toArray lo hi none=((ba.drop (HT.eK ba.length 0 lo)).take (HT.eK ba.length ba.length hi -HT.eK ba.length 0 lo)).toArray:=by obtain⟨h1,h2,h3⟩:=Lq lo hi ba.toArray.size;unfold slicePick;rw[h1,h2,h3];simp only[sliceRange_one,pick_run,aR]<;>rfl
inductive acI(K:Frag)(x:V)(lo:Option Int)(hi:Option Int)(H:Hp)(Q:VK):Prop
 |mk a xs (_:x=.ref a) (_:bf K H a xs) (_:∀p,H p=none->Q (.ref p) (upd H p (.lst (lN xs lo hi))))
def yN:Qi X (acI X.K):=by intro pins s Z H x v vl vu lo hi sl Q I rx hs pl pu h;obtain⟨a,xs,rfl,hx,q⟩:=h;cases rx;obtain⟨ba,r,ht,hz⟩:=I.list hx;have hlen:=r.length;refine{"list",_,slot_list_getitem.lookup,ht.isList.typeIs,?_};refine wpAny_getItem_list_slice ht.isList hs pl pu .none 59 ?_ (by rw[aR]<;>lia);rw[Kj,<-hlen];refine{352,_,I.laid (λb ob q=>ao _ q) (aw _) ?_,9,q _ 683};exact{bu (tK xs lo hi) hz,_,0,(r.drop (HT.eK xs.length 0 lo)).take (HT.eK xs.length xs.length hi -HT.eK xs.length 0 lo),682}
def tJ:V->Bool
 | .cz=>true
 | .bl _=>true
 | .int _=>true
 | .str _=>true
 |_=>false
def JQ:V->V->Bool
 | .cz,.cz=>true
 | .bl a,.bl b=>a==b
 | .bl a,.int b=>(if a then 1 else 0)==b
 | .int a,.bl b=>a==(if b then 1 else 0)
 | .int a,.int b=>a==b
 | .str a,.str b=>a==b
 |_,_=>false
def aeb(ry:RelV y u)(rx:RelV x v)(fy:tJ y=true)(fx:tJ x=true):SeqAt.EqAt A s u v (JQ y x):=by
 cases y with
 |cz=>
  cases ry;cases x with
  |cz=>cases rx;exact SeqAt.EqAt.same _
  |bl b=>cases rx;exact SeqAt.EqAt.none_bool b
  |int b=>obtain⟨t,rfl⟩:=rx;exact SeqAt.EqAt.none_int b t
  |str b=>obtain⟨t,rfl⟩:=rx;exact SeqAt.EqAt.none_str b t
  |_=>exact absurd (show false=true from fx) bL
 |bl a=>
  cases ry;cases x with
  |cz=>cases rx;exact SeqAt.EqAt.bool_none a
  |bl b=>cases rx;exact SeqAt.EqAt.bool_bool a b
  |int b=>obtain⟨t,rfl⟩:=rx;exact SeqAt.EqAt.bool_int a b t
  |str b=>obtain⟨t,rfl⟩:=rx;exact SeqAt.EqAt.bool_str a b t
  |_=>exact absurd (show false=true from fx) bL
 |int a=>
  obtain⟨t',rfl⟩:=ry;cases x with
  |cz=>cases rx;exact SeqAt.EqAt.int_none a t'
  |bl b=>cases rx;exact SeqAt.EqAt.int_bool a t' b
  |int b=>obtain⟨t,rfl⟩:=rx;exact SeqAt.EqAt.int_int a t' b t
  |str b=>obtain⟨t,rfl⟩:=rx;exact CU a t' b t
  |_=>exact absurd (show false=true from fx) bL
 |str a=>
  obtain⟨t',rfl⟩:=ry;cases x with
  |cz=>cases rx;exact SeqAt.EqAt.str_none a t'
  |bl b=>cases rx;exact SeqAt.EqAt.str_bool a t' b
  |int b=>obtain⟨t,rfl⟩:=rx;exact CS a t' b t
  |str b=>obtain⟨t,rfl⟩:=rx;exact SeqAt.EqAt.str_str a t' b t
  |_=>exact absurd (show false=true from fx) bL
 |_=>exact absurd (show false=true from fy) bL
def wb(x:V)(u:Value):Bool:=match u with
 | .none=>JQ .cz x
 | .bool b=>JQ (.bl b) x
 | .int i _=>JQ (.int i) x
 | .str z _=>JQ (.str z) x
 |_=>false
def Vq(r:RelV y u)(f:tJ y=true):wb x u=JQ y x:=by
 cases y with
 |cz=>cases r;rfl
 |bl b=>cases r;rfl
 |int i=>obtain⟨t,rfl⟩:=r;rfl
 |str z=>obtain⟨t,rfl⟩:=r;rfl
 |_=>exact absurd (show false=true from f) bL
theorem zy:∀{xs:Aam}{us:Aae},Vals xs us->xs.all tJ=true->us.any (wb x)=xs.any λy=>JQ y x
 |_,_,.nil,_=>rfl
 |y::xs,u::us,.cons r t,f=>by rw[uJ,bP]at f;rw[nh,nh,Vq r f.1,zy t f.2]
theorem vW(rx:RelV x v)(fx:tJ x=true):∀{xs:Aam}{us:Aae},Vals xs us->xs.all tJ=true->∀u∈us,SeqAt.EqAt A s u v (wb x u)
 |_,_,.nil,_=>λu hu=>by cases hu
 |y::xs,u::us,.cons r t,f=>λu' hu=>by
  rw[uJ,bP]at f;rcases aN.mp hu with rfl|hu
  ·rw[Vq r f.1];exact aeb r rx f.1 fx
  ·exact vW rx fx t f.2 u' hu
def tZ(x:V)(xs:Aam):Bool:=xs.any λy=>JQ y x
inductive YU(K:Frag)(neg:Bool)(x:V)(y:V)(H:Hp)(Q:VK):Prop
 |mk p xs (_:y=.ref p) (_:(bf K H p xs\/aZ K H p xs)) (_:tJ x=true) (_:xs.all tJ=true) (_:Q (.bl (if neg then !tZ x xs else tZ x xs)) H)
def B1:iU X (compareOp .In) (YU X.K false):=by
 intro pins s Z H x y v u Q I rx ry h;obtain⟨p,xs,rfl,hq,fx,fs,q⟩:=h;cases ry;rcases hq with hq|hq
 ·obtain⟨ba,r,pl,hz⟩:=I.list hq;refine SeqAt.in_listAt (wb x) pl.isList (λw hw=>vW rx fx r fs w (by simpa using hw)) {.bl _,H,I,9,?_};rw[show ba.toArray.any (wb x)=ba.any (wb x) by simp,zy r fs];exact q
 ·obtain⟨ba,r,pl,hz⟩:=I.tuple hq;refine SeqAt.in_tupleAt (wb x) pl (λw hw=>vW rx fx r fs w (by simpa using hw)) {.bl _,H,I,9,?_};rw[show ba.toArray.any (wb x)=ba.any (wb x) by simp,zy r fs];exact q
def og:iU X (compareOp .NotIn) (YU X.K true):=by
 intro pins s Z H x y v u Q I rx ry h;obtain⟨p,xs,rfl,hq,fx,fs,q⟩:=h;cases ry;rcases hq with hq|hq
 ·obtain⟨ba,r,pl,hz⟩:=I.list hq;refine SeqAt.notIn_listAt (wb x) pl.isList (λw hw=>vW rx fx r fs w (by simpa using hw)) {.bl _,H,I,9,?_};rw[show ba.toArray.any (wb x)=ba.any (wb x) by simp,zy r fs];exact q
 ·obtain⟨ba,r,pl,hz⟩:=I.tuple hq;refine SeqAt.notIn_tupleAt (wb x) pl (λw hw=>vW rx fx r fs w (by simpa using hw)) {.bl _,H,I,9,?_};rw[show ba.toArray.any (wb x)=ba.any (wb x) by simp,zy r fs];exact q
def L5:iU X (compareOp .NotIn) (λx y H Q=>∃i j,x=.str i/\y=.str j/\Q (.bl (!(!(Builtin.Str.occurrences j i 0 j.length 1).isEmpty))) H):=by intro pins s Z H x y v u Q I rx ry h;obtain⟨i,j,rfl,rfl,q⟩:=h;obtain⟨t,rfl⟩:=rx;obtain⟨t',rfl⟩:=ry;exact notIn_str {.bl _,H,I,9,q}
def kH:gZ X (.type "list") (λxs H Q=>∃p ys,xs=[.ref p]/\(bf X.K H p ys\/aZ X.K H p ys)/\∀l,H l=none->Q 720 (upd H l 679)):=by
 intro pins s Z H xs us Q I r h;obtain⟨p,ys,rfl,hq,q⟩:=h;obtain⟨u,rfl,rx⟩:=jI r;cases rx;have fin:∀(ba:Aae),Vals ys ba->ys.length<=sizeLine->∀(h':Heap)(c':Nat),(∀b o',s.heap.get? b=some o'->h'.get? b=some o')->
   h'.get? s.heap.objs.size=some {cls:=.type "list",dict:=none,data:=.seq ba.toArray c',slots:=#[]}->EP X pins Z Q 352 {s with heap:=h'}:=λba r' hz h' c' kp e=>
  {352,_,I.laid kp (aw _) (show dY X.prog X.w _ h' _ 679 from⟨hz,ba,c',r',e⟩),9,q _ 683}
 rcases hq with hq|hq
 ·obtain⟨ba,r',pl,hz⟩:=I.list hq;have hlen:=r'.length;obtain⟨o,ho,hc,n,hd⟩:=pl.isList;exact call_list_seq p (.inl 9) ho hc hd (λh' c' kp e=>fin ba r' hz h' c' kp e) (by simp only[aR]<;>lia)
 ·obtain⟨ba,r',pl,hz⟩:=I.tuple hq;have hlen:=r'.length;obtain⟨o,ho,hc,n,hd⟩:=pl;exact call_list_seq p (.inr 9) ho hc hd (λh' c' kp e=>fin ba r' hz h' c' kp e) (by simp only[aR]<;>lia)
def eC:gZ X (.type "tuple") (λxs H Q=>∃p ys,xs=[.ref p]/\((bf X.K H p ys/\∀l,H l=none->Q 720 (upd H l (.tup ys)))\/(aZ X.K H p ys/\Q 676 H))):=by
 intro pins s Z H xs us Q I r h;obtain⟨p,ys,rfl,h⟩:=h;obtain⟨u,rfl,rx⟩:=jI r;cases rx;rcases h with⟨hq,q⟩|⟨hq,q⟩
 ·obtain⟨ba,r',pl,hz⟩:=I.list hq;have hlen:=r'.length;refine call_tuple_list pl.isList (λh' kp=>?_) (by simp only[aR]<;>lia);have I1:=I.kept (t':=s.toks) kp;have I2:Inv X pins Z (upd H h'.objs.size (.tup ys)) {s with heap:=h'.push {cls:=.type "tuple",data:=.seq ba.toArray}}:=
   I1.laid (λb o e=>ao _ e) (aw _) (show dY X.prog X.w _ _ _ (.tup ys)from{hz,ba,r',IsTup.new _ _,_,682,9})
  exact{.ref h'.objs.size,_,I2,9,q _ 704}
 ·obtain⟨ba,r',pl,hz⟩:=I.tuple hq;exact call_tuple_same pl {676,H,I,9,q}
noncomputable def tyV(K:Frag)(T:String)(x:V)(H:Hp):Prop:=match x with
 | .str _=>T="str"
 | .int _=>T="int"
 | .ref p=>(T="list"/\∃xs,bf K H p xs)\/(T="tuple"/\((∃xs,H p=some 672)\/∃o,K.lookup p=some o/\o.cls=.type "tuple"/\o.dict=none))\/
   (T="dict"/\((∃kvs,H p=some 719)\/∃kvs,H p=some (.dT kvs)))\/(T="set"/\∃S n,H p=some (.set S n))
 |_=>False
def Sk(I:Inv X pins Z H s)(r:RelV x v)(ty:tyV X.K T x H):
  s.TypeIs v T/\∀a,v=.ref a->∃ob,s.heap.get? a=some ob/\ob.dict=none:=by
 cases x with
 |str z=>
  obtain⟨t,rfl⟩:=r;cases(show T="str"from ty);exact{oM s z t,λ_ e=>nomatch e}
 |int i=>
  obtain⟨t,rfl⟩:=r;cases(show T="int"from ty);exact{typeIs_int s i t,λ_ e=>nomatch e}
 |ref p=>
  cases r;rcases ty with⟨rfl,xs,hq⟩|⟨rfl,⟨xs,hq⟩|⟨o,hk,hc,hd⟩⟩|⟨rfl,hk⟩|⟨rfl,S,n,hk⟩
  ·obtain⟨ba,_,pl,_⟩:=I.list hq;refine{pl.isList.typeIs,λa e=>?_};cases e;obtain⟨o,n,e,c,hd,_⟩:=pl;exact⟨o,e,hd⟩
  ·obtain⟨_,_,_,⟨o1,e1,c1,_⟩,o,e,hd⟩:=I.bQ p _ hq;refine{⟨o1,e1,c1⟩,λa e2=>?_};cases e2;exact⟨o,e,hd⟩
  ·refine{{o,I.mY p o hk,hc},λa e=>?_};cases e;exact{o,I.mY _ o hk,hd}
  ·have z:∃o,s.heap.get? p=some o/\o.ExactDict:=by
    rcases hk with⟨kvs,hk⟩|⟨kvs,hk⟩
    ·obtain⟨_,_,_,_,o,_,_,e,ex,_⟩:=I.bQ p _ hk;exact⟨o,e,ex⟩
    ·obtain⟨_,_,_,_,o,_,_,e,ex,_⟩:=I.bQ p _ hk;exact⟨o,e,ex⟩
   obtain⟨o,e,ex⟩:=z;refine{{o,e,ex.1},λa e2=>?_};cases e2;exact{o,e,ex.2.1}
  ·obtain⟨o,_,_,_,e,ex,_⟩:=I.bQ p _ hk;refine{{o,e,ex.1},λa e2=>?_};cases e2;exact{o,e,ex.2.1}
 |_=>exact False.elim ty
def afE(K:Frag)(T:String)(r:V->Aam->Hp->VK->Prop)(to:TE):TE:=λZ H Q=>to Z H λx H1=>tyV K T x H1/\r x [] H1 Q
def tBM(K:Frag)(T:String)(r:V->Aam->Hp->VK->Prop)(to:TE)(t:TA):TE:=λZ H Q=>to Z H λx H1=>tyV K T x H1/\t Z H1 λxs H2=>r x xs H2 Q
variable{o e:Expr}{es:List Expr}{to:TE}{t:TA}{name:Str}{apos f9:Pos}{T id:String}{r:V->Aam->Hp->VK->Prop}
def LX(pa:PlainAttrs T)(slot:Slot T name id)(hty:typeOf (.builtin id)=pure (.type "method_descriptor"))(hm:MtR X id r)(ho:PE X o to)
  (GC:attributeBase o name X.env (eval o X.env)=eval o X.env:=by rfl) (Gy:718=true:=by rfl):PE X (.Call (.Attribute o name apos) [] [] f9) (afE X.K T r to):=by
 intro pins s Z H Q I h;refine wN GC Gy (dh 733 λv s1 x H1 I1 r1 agz=>?_);obtain⟨ty,q1⟩:=agz;obtain⟨h1,h2⟩:=Sk I1 r1 ty;exact{T,id,pa,slot,hty,h1,h2,gq rfl (Bn (hm pins s1 Z H1 x [] v [] Q I1 r1 .nil q1))}
def iL(pa:PlainAttrs T)(slot:Slot T name id)(hty:typeOf (.builtin id)=pure (.type "method_descriptor"))(hm:MtR X id r)(ho:PE X o to)(ha:PA X (e::es) t)
  (GC:attributeBase o name X.env (eval o X.env)=eval o X.env:=by rfl)
  (ag3:((backTo f9 (starEach (e::es) X.env)).all (λx=>!x.1)&&(backToKw f9 (keywordEach [] X.env)).all (λx=>x.1.isSome)
   &&decide ((e::es).length+([]:List Keyword).length+(if([]:List Keyword).isEmpty then 0 else 1)<30))=true:=by rfl)
  (Gy:718=true:=by rfl) (hs:starEach (e::es) X.env=(false,eval e X.env)::starEach es X.env:=by rfl) (adM:(backTo f9 712).any (·.1)=false:=by rfl):
  PE X (.Call (.Attribute o name apos) (e::es) [] f9) (tBM X.K T r to t):=by
 intro pins s Z H Q I h;refine wpAny_Call_method_late GC ag3 Gy rfl (dh 733 λv s1 x H1 I1 r1 agy=>?_);obtain⟨ty,q1⟩:=agy;obtain⟨h1,h2⟩:=Sk I1 r1 ty;refine{T,id,pa,slot,hty,h1,h2,?_};have hA:=ha f9 pins s1 Z H1 _ I1 q1;rw[hs]at hA⊢;exact gq (by show(false||(backTo f9 (starEach es X.env)).any (·.1))=false;rw[adM]<;>rfl) (kh (gB hA λus s2 ⟨vs,H2,I2,r2,q2⟩=>hm pins s2 Z H2 x vs v us Q I2 r1 r2 q2))
end
def Kh(X:Cx)(id:String)(r:V->Aam->Hp->VK->Prop):Prop:=
 ∀(pins:Aaa)(s:Shared)(Z:St)(H:Hp)(x:V)(xs:Aam)(v:Value)(us:Aae)(Q:VK),Inv X pins Z H s->RelV x v->Vals xs us->r x xs H Q->
  wpAny 56 X.A (call (.builtin id) (v::us)) 709 X.xe s
theorem Vals.one:∀{x:V}{us:Aae},Vals [x] us->∃u,us=[u]/\RelV x u
 |_,_,.cons r .nil=>⟨_,rfl,r⟩
theorem Vals.two:∀{x y:V}{us:Aae},Vals [x,y] us->∃u v,us=[u,v]/\RelV x u/\RelV y v
 |_,_,_,.cons r (.cons q .nil)=>⟨_,_,rfl,r,q⟩
theorem Vals.zero:∀{us:Aae},Vals [] us->us=[]
 |_,.nil=>rfl
theorem Vals.eraseIdx:∀{xs:Aam}{us:Aae}(i:Nat),Vals xs us->Vals (xs.eraseIdx i) (us.eraseIdx i)
 |_,_,_,.nil=>.nil
 |_,_,0,.cons _ t=>t
 |_,_,i+1,.cons r t=>.cons r (Vals.eraseIdx i t)
theorem Jr{α:Type}:∀(l:List α)(i:Nat),(l.eraseIdx i).length<=l.length
 |[],_=>aw _
 |_::_,0=>fG _
 |_::r,i+1=>gO (Jr r i)
section
variable{X:Cx}{pins:Aaa}{Z:St}{H:Hp}{s:Shared}{l:Addr}{xs ys:Aam}
def Inv.HR{ba its':Aae}(I:Inv X pins Z H s)(hH:H l=some (.lst xs))
  (e:s.heap.get? l=some {cls:=.type "list",data:=.seq ba.toArray n}) (hf:f ba.toArray=its'.toArray) (hv:Vals ys its') (hz:ys.length<=sizeLine):
  Inv X pins Z (upd H l 679) {s with heap:=s.heap.update l (Obj.mapSeq f),toks:=t'}:=by
 have q:=wz e f;rw[hf]at q;refine I.write (hH▸trivial) (.inl 9) (λb' u hb hu=>(cx s.heap (Obj.mapSeq f) (cM hb)).trans hu) ⟨_,q⟩ ?_;exact⟨hz,its',_,hv,q⟩
def Inv.af0(I:Inv X pins Z H s)(hv:Vals ys ba)(hz:ys.length<=sizeLine):
  Inv X pins Z (upd H s.heap.objs.size 679) {s with heap:=s.heap.push {cls:=.type "list",data:=.seq ba.toArray},toks:=t'}:=
 I.laid (λ_ _ q=>ao _ q) (aw _) {hz,ba,0,hv,682}
def Inv.fresh(I:Inv X pins Z H s):H s.heap.objs.size=none:=I.bQ.fresh (aw _)
def Inv.yf(I:Inv X pins Z H s)(hH:H l=some (.lst xs)):xs.length<=sizeLine/\∃(ba:Aae)(n:Nat),Vals xs ba/\xs.length=ba.length/\s.heap.get? l=some {cls:=.type "list",data:=.seq ba.toArray n}:=by obtain⟨z,ba,n,r,e⟩:=I.bQ l _ hH;exact{z,ba,n,r,r.length,e}
def Mf(h:n<=sizeLine):Builtin.List.listTooLong n=false:=by exact cA ∅
end
section
variable{X:Cx}
inductive aaY(x:V)(vs:Aam)(H:Hp)(Q:VK):Prop
 |mk l xs y (_:x=.ref l) (_:vs=[y]) (_:H l=some (.lst xs)) (_:xs.length<sizeLine) (_:Q .cz (upd H l (.lst (xs++[y]))))
def qG:Kh X "list.append" aaY:=by intro pins s Z H x vs v us Q I rx rv h;obtain⟨l,xs,y,rfl,rfl,hH,hz,q⟩:=h;cases rx;obtain⟨u,rfl,ru⟩:=rv.one;obtain⟨z,ba,n,r,hl,e⟩:=I.yf hH;refine lB ui ⟨_,e,rfl⟩ sr (rW _ _) (uW l ba.toArray n u (by rw[aR];lia)) {e,?_};refine{.cz,_,I.HR hH e 59 (r.append (.cons ru .nil)) ?_,9,q};rw[aD,dv];lia
inductive aaW(x:V)(vs:Aam)(H:Hp)(Q:VK):Prop
 |mk l b xs zs (_:x=.ref l) (_:vs=[.ref b]) (_:H l=some (.lst xs)) (_:H b=some (.lst zs)) (_:xs.length+zs.length<=sizeLine) (_:Q .cz (upd H l (.lst (xs++zs))))
def xr:Kh X "list.extend" aaW:=by
 intro pins s Z H x vs v us Q I rx rv h;obtain⟨l,b,xs,zs,rfl,rfl,hH,hB,hz,q⟩:=h;cases rx;obtain⟨u,rfl,ru⟩:=rv.one;cases ru;obtain⟨z,ba,n,r,hl,e⟩:=I.yf hH;obtain⟨z2,uB,n2,r2,gd,e2⟩:=I.yf hB;have hsz:ba.toArray.size+uB.toArray.size<=sizeLine:=by rw[aR,aR];lia
 have Rq:¬(!ba.toArray.isEmpty&&Builtin.List.listTooLong (ba.toArray.size+uB.toArray.size))=true:=by rw[Mf hsz,tD];exact bL
 refine lB C8 ⟨_,e,rfl⟩ Bs (AQ _ _)
  (AutoSeq1.list_extend_list_list_0 l ba.toArray n b uB.toArray n2 Rq (by rw[aR];lia) ∅) {e,e2,?_}
 refine{.cz,_,I.HR hH e 59 (r.append r2) ?_,9,q};rw[aD];lia
inductive acK(x:V)(vs:Aam)(H:Hp)(Q:VK):Prop
 |mk l xs i k y (_:x=.ref l) (_:vs=[.int i]) (_:H l=some (.lst xs)) (_:-(2^63)<=i) (_:i<2^63) (_:seqIndex? i xs.length=some k) (_:xs[k]?=some y) (_:Q y (upd H l (.lst (xs.eraseIdx k))))
def W6:Kh X "list.pop" acK:=by
 intro pins s Z H x vs v us Q I rx rv h;obtain⟨l,xs,i,k,y,rfl,rfl,hH,h1,h2,hk,hy,q⟩:=h;cases rx;obtain⟨u,rfl,ru⟩:=rv.one;obtain⟨t,rfl⟩:=ru;obtain⟨z,ba,n,r,hl,e⟩:=I.yf hH;obtain⟨w,hw,pQ⟩:=r.get hy;refine lB F.slot_list_pop ⟨_,e,rfl⟩ F.entry_list_pop (F.args_list_pop_2 _ _)
  (MeetsSeq.list_pop_at l ba.toArray n i t k w (fitsIndex_both h1 h2) (by rw[aR,<-hl];exact hk) (by rw[<-dy];exact hw) (by rw[aR];lia)) {e,?_}
 refine{y,_,I.HR hH e ?_ (r.eraseIdx k) ?_,pQ,q}
 ·show ba.toArray.eraseIdxIfInBounds k=(ba.eraseIdx k).toArray;rw[List.eraseIdxIfInBounds_toArray]
 ·have:=Jr xs k;lia
inductive acQ(x:V)(vs:Aam)(H:Hp)(Q:VK):Prop
 |mk l xs (_:x=.ref l) (_:vs=[]) (_:H l=some (.lst xs)) (_:Q .cz (upd H l (.lst [])))
def Mn:Kh X "list.clear" acQ:=by intro pins s Z H x vs v us Q I rx rv h;obtain⟨l,xs,rfl,rfl,hH,q⟩:=h;cases rx;have MO:=rv.zero;subst MO;obtain⟨z,ba,n,r,hl,e⟩:=I.yf hH;refine lB F.slot_list_clear ⟨_,e,rfl⟩ F.entry_list_clear (F.args_list_clear_1 _) (AutoSeq1.list_clear_list_0 l ba.toArray n (by rw[aR];lia)) {e,?_};exact{.cz,_,I.HR (its':=[]) (ys:=[]) hH e rfl .nil (aP _),9,q}
inductive afO(x:V)(y:V)(H:Hp)(Q:VK):Prop
 |mk l b xs zs (_:x=.ref l) (_:y=.ref b) (_:H l=some (.lst xs)) (_:H b=some (.lst zs)) (_:xs.length+zs.length<=sizeLine) (_:∀p,H p=none->Q (.ref p) (upd H p (.lst (xs++zs))))
def vR:iU X (binaryOp .Add) afO:=by
 intro pins s Z H x y v u Q I rx ry h;obtain⟨l,b,xs,zs,rfl,rfl,hH,hB,hz,q⟩:=h;cases rx;cases ry;obtain⟨z,ba,n,r,hl,e⟩:=I.yf hH;obtain⟨z2,uB,n2,r2,gd,e2⟩:=I.yf hB;refine PySem.P.add_list e e2 ?_ (by rw[aR,aR];lia);have ea:ba.toArray++uB.toArray=(ba++uB).toArray:=by simp
 rw[ea];exact{.ref _,_,I.af0 (r.append r2) (by rw[aD];lia),9,q _ I.fresh}
end
section
variable{κ:Type}[DecidableEq κ]
def iG(kvs:List (κ×V))(k:κ):Aan:=(kvs.find? λkv=>decide (kv.1=k)).map (·.2)
def putK(kvs:List (κ×V))(k:κ)(v:V):List (κ×V):=
 if(kvs.any λkv=>decide (kv.1=k))=true then kvs.map (λkv=>if kv.1=k then(kv.1,v)else kv)else kvs++[(k,v)]
def sD{p:κ×V}{k:κ}(e:p.1=k):iG (p::r) k=some p.2:=by simp[iG,iN,e]
def qe{p:κ×V}{k:κ}(e:¬p.1=k):iG (p::r) k=iG r k:=by simp[iG,iN,e]
theorem zG(k:κ):∀kvs:List (κ×V),(kvs.any λkv=>decide (kv.1=k))=(iG kvs k).isSome
 |[]=>rfl
 |p::r=>by
  rw[nh];by_cases e:p.1=k
  ·simp only[sD e,bg e,Bool.true_or,CY]
  ·rw[qe e,cA e,Bool.false_or];exact zG k r
def tH(kvs:List (κ×V))(k:κ)(v:V):(putK kvs k v).length<=kvs.length+1:=by
 unfold putK;split
 ·rw[aj];lia
 ·rw[aD,bF,jR];lia
def EW{k:κ}(v:V)(h:iG kvs k=none):putK kvs k v=kvs++[(k,v)]:=by unfold putK;rw[zG,h];exact aI 7
def mP.oo(r:mP o u):o.isSome=u.isSome:=by
 cases o with
 |none=>cases u with
  |none=>rfl
  |some _=>exact(show False from r).elim
 |some _=>cases u with
  |none=>exact(show False from r).elim
  |some _=>rfl
def mP.getD(r:mP o u)(rd:RelV d d'):RelV (o.getD d) (u.getD d'):=by
 cases o with
 |none=>cases u with
  |none=>exact rd
  |some _=>exact(show False from r).elim
 |some _=>cases u with
  |none=>exact(show False from r).elim
  |some _=>exact r
def KV.val(r:KV kvs vs)(k:κ):mP (iG kvs k) (valueAt vs k):=by
 induction r with
 |nil=>exact True.intro
 |@cons p q ps qs h t ih=>
  obtain⟨h1,h2⟩:=h;by_cases e:p.1=k
  ·have e':=h1.symm.trans e;have b:valueAt (q::qs) k=some q.2:=by simp[valueAt,iN,e']
   rw[sD e,b];exact h2
  ·have e':¬q.1=k:=λz=>e (h1.trans z);have b:valueAt (q::qs) k=valueAt qs k:=by simp[valueAt,iN,e']
   rw[qe e,b];exact ih
def KV.any(r:KV kvs vs)(k:κ):(kvs.any λkv=>decide (kv.1=k))=vs.any λkv=>decide (kv.1=k):=by
 unfold KV at r
 induction r with
 |nil=>rfl
 |cons h t ih=>rw[nh,nh,ih,h.1]
def KV.Wu(r:KV kvs vs)(k:κ)(ry:RelV y u):
  KV (kvs.map λkv=>if kv.1=k then(kv.1,y)else kv) (vs.map λkv=>if kv.1=k then(kv.1,u)else kv):=by
 induction r with
 |nil=>exact .nil
 |@cons p q ps qs h t ih=>
  rw[bq,bq];refine .cons ?_ ih;obtain⟨h1,h2⟩:=h;by_cases e:p.1=k
  ·rw[aM e,aM (h1.symm.trans e)];exact⟨h1,ry⟩
  ·rw[aI e,aI (λz=>e (h1.trans z))];exact⟨h1,h2⟩
def KV.put(r:KV kvs vs)(k:κ)(ry:RelV y u):KV (putK kvs k y) (stored vs k u):=by
 unfold putK stored;rw[r.any k];by_cases e:(vs.any λkv=>decide (kv.1=k))=true
 ·rw[aM e,aM e];exact r.Wu k ry
 ·rw[aI e,aI e];exact yw r ⟨rfl,ry⟩
def KV.keys{kvs:List (κ×V)}(r:KV kvs vs):kvs.map (·.1)=vs.map (·.1):=by
 induction r with
 |nil=>rfl
 |cons h t ih=>rw[bq,bq,ih,h.1]
def KV.length{kvs:List (κ×V)}(r:KV kvs vs):kvs.length=vs.length:=bc r
end
def qd(r:RelV (kV k) u):(bT P w).is k u=true:=by
 cases k with
 |inl i=>obtain⟨t,e⟩:=(show∃t,u=Value.int i t from r);subst e;exact Og P w i t
 |inr x=>obtain⟨t,e⟩:=(show∃t,u=Value.str x t from r);subst e;exact Eh P w x t
theorem Jv:∀{ks:List Key}{us:Aae},Vals (ks.map kV) us->ItemsAre (bT P w) ks us
 |[],_,r=>by rw[fw]at r;cases r;exact .nil
 |k::ks,_,r=>by
  cases r with
  |cons h t=>exact .cons (qd h) (Jv t)
abbrev KT(H:Hp):List (List Key×V)->List (List Key×Addr×Value)->Prop:=Paired λp q=>p.1=q.1/\H q.2.1=some (.tup (p.1.map kV))/\RelV p.2 q.2.2
def KT.val(r:KT H kvs xs)(k:List Key):mP (iG kvs k) ((atKey xs k).map (·.2)):=by
 induction r with
 |nil=>exact True.intro
 |@cons p q ps qs h t ih=>
  obtain⟨h1,_,h2⟩:=h;by_cases e:p.1=k
  ·have e':=h1.symm.trans e;have b:atKey (q::qs) k=some q.2:=by simp[atKey,iN,e']
   rw[sD e,b];exact h2
  ·have e':¬q.1=k:=λz=>e (h1.trans z);have b:atKey (q::qs) k=atKey qs k:=by simp[atKey,iN,e']
   rw[qe e,b];exact ih
def KT.Wu(r:KT H kvs xs)(k:List Key)(ry:RelV y u):
  KT H (kvs.map λkv=>if kv.1=k then(kv.1,y)else kv) (xs.map (putAt k u)):=by
 induction r with
 |nil=>exact .nil
 |@cons p q ps qs h t ih=>
  rw[bq,bq];refine .cons ?_ ih;obtain⟨h1,h2,h3⟩:=h;unfold putAt;by_cases e:p.1=k
  ·rw[aM e,aM (h1.symm.trans e)];exact⟨h1,h2,ry⟩
  ·rw[aI e,aI (λz=>e (h1.trans z))];exact⟨h1,h2,h3⟩
def KT.put(r:KT H kvs xs)(k:List Key)(hb:H b=some (.tup (k.map kV)))(ry:RelV y u):
  KT H (putK kvs k y) (storedH xs k b u):=by
 have e:(kvs.any λkv=>decide (kv.1=k))=(atKey xs k).isSome:=by rw[zG,(r.val k).oo,gW]
 unfold putK storedH;rw[e];by_cases q:(atKey xs k).isSome=true
 ·rw[aM q,aM q];exact r.Wu k ry
 ·rw[aI q,aI q];exact yw r ⟨rfl,hb,ry⟩
def KT.keeps(r:KT H kvs xs)(ht:∀b ys,H b=some (.tup ys)->H' b=some (.tup ys)):KT H' kvs xs:=
 Paired.Q5 r λ_ _ z=>{z.1,ht _ _ z.2.1,z.2.2}
section
variable{P:Program}{w:World}{H:Hp}{h:Heap}{a:Addr}
def YT(ok:j5 P w H h)(e:Rd H a u):dY P w H h a u:=e.ok ok
def vf(ok:j5 P w H h)(e:Rd H a 719):kvs.length<=sizeLine/\(a==sysModules)=false/\∃vs,KV kvs vs/\h.DictOf (bT P w) a vs:=
 show dY P w H h a 719 from YT ok e
def xB(ok:j5 P w H h)(e:H a=some 719):kvs.length<=sizeLine/\(a==sysModules)=false/\∃vs,KV kvs vs/\h.DictOf (bT P w) a vs:=vf ok (.inl e)
def v5(ok:j5 P w H h)(e:H a=some (.tup (ks.map kV))):(tupleKind (bT P w)).is h ks a:=by obtain⟨_,ba,r,⟨o,h1,h2,n,h3⟩,_⟩:=(show dY P w H h a (.tup (ks.map kV))from ok a _ e);exact{o,ba.toArray,n,h1,h2,h3,by simpa using Jv r}
def xA(ok:j5 P w H h)(e:Rd H a (.dT kvs)):kvs.length<=sizeLine/\(a==sysModules)=false/\
  ∃xs,KT H kvs xs/\h.DictOfH (tupleKind (bT P w)) a xs:=by
 obtain⟨z,y,xs,r,o,es,ep,h1,h2,h3,h4,h5⟩:=(show dY P w H h a (.dT kvs)from YT ok e);refine{z,y,xs,r,o,es,ep,h1,h2,h3,h4,λx hx=>?_,h5};have all:∀{l:List (List Key×V)}{m:List (List Key×Addr×Value)},KT H l m->∀x∈m,(tupleKind (bT P w)).is h x.1 x.2.1:=by
  intro l m q
  induction q with
  |nil=>intro x hx;exact nomatch hx
  |@cons p q ps qs hq t ih=>
   intro x hx;rcases aN.mp hx with e|hx
   ·subst e;exact v5 ok (hq.1▸hq.2.1)
   ·exact ih x hx
 exact all r x hx
def afm(ok:j5 P w H h)(e:H a=some (.dT kvs)):kvs.length<=sizeLine/\(a==sysModules)=false/\
  ∃xs,KT H kvs xs/\h.DictOfH (tupleKind (bT P w)) a xs:=xA ok (.inl e)
end
def kW(H:Hp)(a:Addr)(y:V)(r:Aan):Prop:=
 (∃kvs k,Rd H a 719/\y=kV k/\r=iG kvs k)\/∃kvs k b,Rd H a (.dT kvs)/\y=.ref b/\H b=some (.tup (k.map kV))/\r=iG kvs k
def AR(H:Hp)(a:Addr)(y v:V)(H':Hp):Prop:=
 (∃kvs k,H a=some 719/\y=kV k/\kvs.length<sizeLine/\H'=upd H a (.dK (putK kvs k v)))\/
 ∃kvs k b,H a=some (.dT kvs)/\y=.ref b/\H b=some (.tup (k.map kV))/\kvs.length<sizeLine/\H'=upd H a (.dT (putK kvs k v))
theorem kW.k{H:Hp}{a:Addr}{kvs:List (Key×V)}{k:Key}(e:H a=some 719):kW H a (kV k) (iG kvs k):=.inl {kvs,k,.inl e,9,9}
theorem AR.k{H:Hp}{a:Addr}{kvs:List (Key×V)}{k:Key}{v:V}(e:H a=some 719)(hl:kvs.length<sizeLine):AR H a (kV k) v (upd H a (.dK (putK kvs k v))):=.inl ⟨kvs,k,e,rfl,hl,rfl⟩
section
variable{X:Cx}{pins:Aaa}{Z:St}{H:Hp}{s:Shared}{a:Addr}{y v:V}{u r:Value}{o:Aan}{A:Around}{E:Aac}
def Inv.big(I:Inv X pins Z H s):sysModules<s.heap.objs.size:=by exact dP 7 ((I.mod.glob.keeps I.bk).lt)
def VC(hu:A.units+1<cLine)(I:Inv X pins Z H s)(g:kW H a y (some v))(ry:RelV y u)(h:∀w' s',Inv X pins Z H s'->RelV v w'->Q w' s'):
  wpAny 56 A (getItem 659 u) Q E s:=by
 rcases g with⟨kvs,k,e,ey,l⟩|⟨kvs,k,b,e,ey,eb,l⟩
 ·subst ey;obtain⟨z,hd,vs,rel,dd⟩:=vf I.bQ e;obtain⟨w',hw,pQ⟩:=mP.some_of (l▸rel.val k);exact wpAny_getItem_of (qd ry) dd.mapOf hw (h w' _ 686 pQ)
 ·subst ey;cases(show u=Value.ref b from ry);obtain⟨z,hd,xs,rel,dd⟩:=xA I.bQ e;obtain⟨w',hw,pQ⟩:=mP.some_of (l▸rel.val k);obtain⟨p,hp,ir⟩:=br.mp hw;refine wpAny_getItem_heap (jy hu) (v5 I.bQ eb) dd hp ?_;rw[ir];exact h w' _ 686 pQ
def ahh(hu:A.units+1<cLine)(I:Inv X pins Z H s)(g:kW H a y o)(ry:RelV y u)(h:∀s',Inv X pins Z H s'->Q (.bool o.isSome) s'):
  wpAny 56 A (compareOp .In u 659) Q E s:=by
 rcases g with⟨kvs,k,e,ey,l⟩|⟨kvs,k,b,e,ey,eb,l⟩
 ·subst ey;obtain⟨z,hd,vs,rel,dd⟩:=vf I.bQ e;refine wpAny_in_of (qd ry) hd dd.mapOf ?_;rw[<-(rel.val k).oo,<-l];exact h _ 686
 ·subst ey;cases(show u=Value.ref b from ry);obtain⟨z,hd,xs,rel,dd⟩:=xA I.bQ e;refine wpAny_in_heap (jy hu) (v5 I.bQ eb) hd dd ?_;have q:=(rel.val k).oo;rw[gW]at q;rw[<-q,<-l];exact h _ 686
def abR{Q:Aac}(hu:A.units+1<cLine)(I:Inv X pins Z H s)(g:kW H a y o)(ry:RelV y u)(h:∀s',Inv X pins Z H s'->Q (.bool (!o.isSome)) s'):
  wpAny 56 A (compareOp .NotIn u 659) Q E s:=by
 rcases g with⟨kvs,k,e,ey,l⟩|⟨kvs,k,b,e,ey,eb,l⟩
 ·subst ey;obtain⟨z,hd,vs,rel,dd⟩:=vf I.bQ e;refine wpAny_notIn_of (qd ry) hd dd.mapOf ?_;rw[<-(rel.val k).oo,<-l];exact h _ 686
 ·subst ey;cases(show u=Value.ref b from ry);obtain⟨z,hd,xs,rel,dd⟩:=xA I.bQ e;refine wpAny_notIn_heap (jy hu) (v5 I.bQ eb) hd dd ?_;have q:=(rel.val k).oo;rw[gW]at q;rw[<-q,<-l];exact h _ 686
def sV(I:Inv X pins Z H s)(mu:VR (H a))(hs:Heap.SameBut a s.heap h')(he:∃q,h'.get? a=some q)(new:dY X.prog X.w (upd H a ob) h' a ob):
  Inv X pins Z (upd H a ob) {s with heap:=h',toks:=t'}:=
 I.write mu (.inl 9) (λb q hb z=>(hs.2 b hb).trans z) he new
def wc(z:kvs.length<=sizeLine)(hd:(a==sysModules)=false)(rel:KV kvs vs)(dd:h'.DictOf (bT P w) a vs):
  dY P w H' h' a 719:=⟨z,hd,vs,rel,dd⟩
def Vx(hu:A.units+1<cLine)(I:Inv X pins Z H s)(g:AR H a y v H')(ry:RelV y u)(rv:RelV v r)(h:∀s',Inv X pins Z H' s'->Q () s'):
  wpAny 56 A (setItem 659 u r) Q E s:=by
 rcases g with⟨kvs,k,e,ey,l,eH⟩|⟨kvs,k,b,e,ey,eb,l,eH⟩
 ·subst ey eH;obtain⟨z,hd,vs,rel,dd⟩:=xB I.bQ e;refine wpAny_setItem_pairs (hsz:=(by rw[<-rel.length];exact z)) (qd ry) dd λh' rE hs=>h _ ?_;exact sV I (e▸True.intro) hs (let⟨q,_,_,hq,_⟩:=rE;⟨q,hq⟩) (wc (by have:=tH kvs k v;lia) hd (rel.put k rv) rE)
 ·subst ey eH;cases(show u=Value.ref b from ry);obtain⟨z,hd,xs,rel,dd⟩:=afm I.bQ e;refine Bv (hsz:=(by rw[<-bc rel];exact z)) (jy hu) (v5 I.bQ eb) dd λh' rE hs=>h _ ?_;obtain⟨q,es,ep,hq,h2,h3,h4,_,h5⟩:=rE;refine sV I (e▸True.intro) hs ⟨q,hq⟩ {(by have:=tH kvs k v;lia),hd,_,(rel.put k eb rv).keeps λc ys ec=>?_,q,es,ep,hq,h2,h3,h4,h5};rw[aL (Q1 ec e 701)];exact ec
variable{kvs:List (Key×V)}
def abU{Q:Aac}(I:Inv X pins Z H s)(e:H a=some 719)(h:∀s',Inv X pins Z (upd H a 655) s'->Q .none s'):wpAny 56 A (call (.builtin "dict.clear") [.ref a]) Q E s:=by
 obtain⟨z,hd,vs,rel,dd⟩:=xB I.bQ e;refine kG wX dd.typeIs PySem.F.entry_dict_clear (PySem.F.args_dict_clear_1 _) (meets_dict_clear 725 a) {vs,dd,by rw[<-rel.length];exact z,λh' rE hs=>h _ ?_};have he:∃q,h'.get? a=some q:=let⟨q,_,_,hq,_⟩:=rE;⟨q,hq⟩
 exact sV (t':=s.toks) I (by rw[e];exact True.intro) hs he (wc (aP _) hd .nil rE)
def aes(i:Expr):Prop:=∀ov iv,subscripted i false ov iv=operate [ov,iv] (getItem ov iv)
end
def aaK{T id:String}
  (hl:typeLookup (.type T) "__getitem__"=pure (some (.builtin id))) (hs:aes slice)
  (h:wpAny 58 A (eval value env) (λo aaa=>wpAny 58 A (eval slice env) (λi aad=>aad.TypeIs o T/\wpAny 58 A (getItem o i) Q E aad) E aaa) E s):
  wpAny 58 A (eval (.Subscript value slice pos) env) Q E s:=by
 refine Ha (dC h (λo aaa af6=>dC af6 (λi aad aag=>?_) λ_ _ x=>x) λ_ _ x=>x);obtain⟨hT,aag⟩:=aag;refine ah ?_;refine ah (iK hT hl ?_);have fin:wpAny 58 A (subscripted slice false o i) (λr aaf=>wpAny 58 A (letTemporaryGo value o r>>=λ_=>pure r) Q E aaf) E aad:=by rw[hs o i];exact wpAny_operating (dC aag (λr aaf af5=>ah (wpAny_letTemporaryGo (aq af5))) λ_ _ x=>x)
 first
  |exact aq (ah fin)
  |exact ah (aq (ah fin))
  |exact ah fin
def Oo(I:Inv X pins Z H s)(g:kW H a y o):s.TypeIs 659 "dict":=by
 rcases g with⟨kvs,k,e,_,_⟩|⟨kvs,k,b,e,_,_,_⟩
 ·obtain⟨_,_,vs,_,dd⟩:=vf I.bQ e;exact dd.typeIs
 ·obtain⟨_,_,xs,_,dd⟩:=xA I.bQ e;exact dd.typeIs
inductive acu(Q:VK)(x:V)(y:V)(H2:Hp):Prop
 |mk a v (_:x=.ref a) (_:kW H2 a y (some v)) (_:Q v H2)
def aeK(td ty:TE):TE:=λZ H Q=>td Z H λx H1=>ty Z H1 λy H2=>acu Q x y H2
inductive aeJ(Q:VK)(y:V)(x:V)(H2:Hp):Prop
 |mk a o (_:x=.ref a) (_:kW H2 a y o) (_:Q (.bl o.isSome) H2)
def afD(ty td:TE):TE:=λZ H Q=>ty Z H λy H1=>td Z H1 λx H2=>aeJ Q y x H2
inductive V9(Q:VK)(y:V)(x:V)(H2:Hp):Prop
 |mk a o (_:x=.ref a) (_:kW H2 a y o) (_:Q (.bl (!o.isSome)) H2)
def aaG(ty td:TE):TE:=λZ H Q=>ty Z H λy H1=>td Z H1 λx H2=>V9 Q y x H2
inductive acE(D:Ends)(Z:St)(v:V)(x:V)(y:V)(H3:Hp):Prop
 |mk a H4 (_:x=.ref a) (_:AR H3 a y v H4) (_:D.nx Z H4)
def aeQ(td ty tv:TE):TS:=λD Z H=>tv Z H λv H1=>td Z H1 λx H2=>ty Z H2 λy H3=>acE D Z v x y H3
section
variable{X:Cx}{o i value:Expr}{pos pos':Pos}{td ty tv:TE}
def qE(hu:X.A.units+1<cLine)(ho:PE X o td)(hi:PE X i ty)(hs:aes i):PE X (.Subscript o i pos) (aeK td ty):=by intro pins s Z H Q I h;refine aaK PySem.F.slot_dict_getitem.lookup hs (dh 733 λu s1 x H1 I1 rx q1=>dh (hi pins s1 Z H1 _ I1 q1) λiv s2 y H2 I2 ry agx=>?_);obtain⟨a,v,ex,g,q2⟩:=agx;subst ex;obtain rfl:u=Value.ref a:=rx;exact{Oo I2 g,VC hu I2 g ry λw' s3 I3 pQ=>⟨v,H2,I3,pQ,q2⟩}
def acV(hu:X.A.units+1<cLine)(hi:PE X i ty)(ho:PE X o td):PC X .In i o (afD ty td):=by intro pins s Z H Q I h;refine dh (hi pins s Z H _ I h) λiv s1 y H1 I1 ry q1=>dh (ho pins s1 Z H1 _ I1 q1) λu s2 x H2 I2 rx agw=>?_;obtain⟨a,ov,ex,g,q2⟩:=agw;subst ex;obtain rfl:u=Value.ref a:=rx;exact ahh hu I2 g ry λs3 I3=>{.bl ov.isSome,H2,I3,9,q2}
def Tq(hu:X.A.units+1<cLine)(hi:PE X i ty)(ho:PE X o td):PC X .NotIn i o (aaG ty td):=by intro pins s Z H Q I h;refine dh (hi pins s Z H _ I h) λiv s1 y H1 I1 ry q1=>dh (ho pins s1 Z H1 _ I1 q1) λu s2 x H2 I2 rx agv=>?_;obtain⟨a,ov,ex,g,q2⟩:=agv;subst ex;obtain rfl:u=Value.ref a:=rx;exact abR hu I2 g ry λs3 I3=>{.bl (!ov.isSome),H2,I3,9,q2}
def yQ(hu:X.A.units+1<cLine)(ho:PE X o td)(hi:PE X i ty)(hv:PE X value tv)(hs:swapsWith value (some (.Subscript o i pos')) pos.line X.env=pure false):
  PS X (.Assign [.Subscript o i pos'] value pos) (aeQ td ty tv):=by
 intro pins s Z H D I h;refine xK (dh (hv pins s Z H _ I h) λr s1 v H1 I1 rv q1=>dh (ho pins s1 Z H1 _ I1 q1) λu s2 x H2 I2 rx q2=>dh (hi pins s2 Z H2 _ I2 q2) λiv s3 y H3 I3 ry agu=>?_) hs;obtain⟨a,H4,ex,g,q3⟩:=agu;subst ex;obtain rfl:u=Value.ref a:=rx;exact Vx hu I3 g ry rv λs4 I4=>⟨Z,H4,I4,q3⟩
def ND(h:Heap)(hb:sysModules<h.objs.size):dY P w H (h.push {cls:=.type "dict",data:=.dict #[]}) h.objs.size 655:=
 {aP _,cZ.mpr (cM (aX hb)),[],.nil,xH h}
def acq:TE:=λ_ H Q=>∀p,H p=none->Q 676 (upd H p 655)
def jm:PE X (.Dict [] [] pos) acq:=λpins s Z H Q I h=>
 wpAny_Dict_empty {352,_,I.laid (λ_ _ q=>ao _ q) (aw _) (ND s.heap I.big),9,h _ 683}
end
def La:List (TE×TE)->St->Hp->(List (V×V)->Hp->Prop)->Prop
 |[],_,H,Q=>Q [] H
 |(tk,tv)::r,Z,H,Q=>tk Z H λx H1=>tv Z H1 λy H2=>La r Z H2 λps H3=>Q ((x,y)::ps) H3
abbrev VV:List (V×V)->List (Value×Value)->Prop:=Paired λp q=>RelV p.1 q.1/\RelV p.2 q.2
def Kg(X:Cx)(pos:Pos)(keys:List (Option Expr))(values:List Expr)(K2:List (TE×TE)):Prop:=
 ∀(pins:Aaa)(s:Shared)(Z:St)(H:Hp)(Q:List (V×V)->Hp->Prop),Inv X pins Z H s->La K2 Z H Q->
  wpAny 56 X.A (evalPairs (pairTrees keys values X.env pos)) (λvs s'=>∃ps H',Inv X pins Z H' s'/\VV ps vs/\Q ps H') X.xe s
def aa0:Kg X pos [] [] []:=λpins s Z H Q I h=>pairTrees_nil_walk {[],H,I,.nil,h}
def WD(hk:PE X k tk)(hv:PE X v tv)(hr:Kg X pos ks vs K2):
  Kg X pos (some k::ks) (v::vs) ((tk,tv)::K2):=λpins s Z H Q I h=>
 pairTrees_cons_walk (dh (hk pins s Z H _ I h) λu s1 x H1 I1 rx q1=>dh (hv pins s1 Z H1 _ I1 q1) λw2 s2 y H2 I2 ry q2=>
  gB (hr pins s2 Z H2 _ I2 q2) λws s3 ⟨ps,H3,I3,rel,q3⟩=>{(x,y)::ps,H3,I3,.cons ⟨rx,ry⟩ rel,q3})
def ky(kvs more:List (Key×V)):List (Key×V):=more.foldl (λacc kv=>putK acc kv.1 kv.2) kvs
def KV.merge:∀{more:List (Key×V)}{rs:List (Key×Value)}{kvs:List (Key×V)}{vs:List (Key×Value)},KV more rs->KV kvs vs->KV (ky kvs more) (merged vs rs):=by
 intro more rs kvs vs r
 induction r generalizing kvs vs with
 |nil=>intro q;exact q
 |@cons p q ps qs h t ih=>
  intro r0;have e:KV (putK kvs p.1 p.2) (stored vs q.1 q.2):=by have:=r0.put p.1 h.2;rw[<-h.1];exact this
  exact ih e
theorem A6:∀(more kvs:List (Key×V)),(ky kvs more).length<=kvs.length+more.length
 |[],kvs=>by show kvs.length<=kvs.length+0;lia
 |p::r,kvs=>by have h1:=A6 r (putK kvs p.1 p.2);have h2:=tH kvs p.1 p.2;show(ky (putK kvs p.1 p.2) r).length<=_;rw[bF];lia
theorem GX:∀{kvs:List (Key×V)}{ws:List (Value×Value)},VV (kvs.map λkv=>(kV kv.1,kv.2)) ws->∃rs,Carries (bT P w) ws rs/\KV kvs rs
 |[],_,r=>by rw[fw]at r;cases r;exact{[],True.intro,.nil}
 |p::kvs,_,r=>by
  cases r with
  |@cons a b as bs h t=>
   obtain⟨rs,c,q⟩:=GX t;obtain⟨b1,b2⟩:=b;exact{(p.1,b2)::rs,{qd h.1,9,c},.cons {9,h.2} q}
def aeH(K2:List (TE×TE)):TE:=λZ H Q=>∀p,H p=none->La K2 Z (upd H p 655) λps H2=>H2 p=some 655/\∃kvs:List (Key×V),ps=kvs.map (λkv=>(kV kv.1,kv.2))/\kvs.length<=15/\Q 676 (upd H2 p (.dK (ky [] kvs)))
def aa7(h:Kg X pos keys values K2)(ot:keys.all (·.isSome)=true)(hl:keys.length=values.length)(h0:keys≠[])
  (h15:keys.length<=15):PE X (.Dict keys values pos) (aeH K2):=by
 intro pins s Z H Q I q;have I1:=I.laid (t':=s.toks) (λ_ _ q=>ao _ q) (aw _) (ND s.heap I.big);refine wpAny_Dict_walk (knd:=bT X.prog X.w) ot hl h0 h15 (gB (h pins _ Z _ _ I1 (q _ (I.bQ.fresh (aw s.heap.objs.size)))) λws s2 agt=>?_);obtain⟨ps,H2,I2,rel,e,kvs,ep,lk,q2⟩:=agt;subst ep;obtain⟨rs,c,rk⟩:=GX rel;obtain⟨z,hd,vs0,r0,dd⟩:=xB I2.bQ e;cases r0;refine{rs,c,dd,λh' rE hs=>{352,_,?_,9,q2}};have hz:(ky [] kvs).length<=sizeLine:=by have h1:=A6 kvs [];rw[jR]at h1;rw[bX];lia
 exact sV I2 (e▸True.intro) hs (let⟨q,_,_,hq,_⟩:=rE;⟨q,hq⟩) (wc hz hd (rk.merge .nil) rE)
structure M1(X:Cx)(o:Expr)(m:Str)(apos:Pos)(e:Expr)(f9:Pos):Prop where
 base:attributeBase o m X.env (eval o X.env)=eval o X.env
 mC:((backTo f9 (starEach [e] X.env)).all (λx=>!x.1)&&(backToKw f9 (keywordEach [] X.env)).all (λx=>x.1.isSome)
  &&decide (([e]:List Expr).length+([]:List Keyword).length+(if([]:List Keyword).isEmpty then 0 else 1)<30))=true
 line:718=true
 trees:backTo f9 (starEach [e] X.env)=[(false,eval e X.env)]
structure M2(X:Cx)(o:Expr)(m:Str)(apos:Pos)(e f:Expr)(f9:Pos):Prop where
 base:attributeBase o m X.env (eval o X.env)=eval o X.env
 mC:((backTo f9 (starEach [e,f] X.env)).all (λx=>!x.1)&&(backToKw f9 (keywordEach [] X.env)).all (λx=>x.1.isSome)
  &&decide (([e,f]:List Expr).length+([]:List Keyword).length+(if([]:List Keyword).isEmpty then 0 else 1)<30))=true
 line:718=true
 trees:backTo f9 (starEach [e,f] X.env)=[(false,eval e X.env),(false,eval f X.env)]
def IsD(H:Hp)(a:Addr):Prop:=(∃kvs,Rd H a 719)\/∃kvs,Rd H a (.dT kvs)
def Uv(I:Inv X pins Z H s)(d:IsD H a):
  s.TypeIs 659 "dict"/\(∀b,Value.ref a=.ref b->∃ob,s.heap.get? b=some ob/\ob.dict=none)/\(a==sysModules)=false:=by
 rcases d with⟨kvs,e⟩|⟨kvs,e⟩
 ·obtain⟨_,hd,vs,_,dd⟩:=vf I.bQ e;refine{dd.typeIs,λb q=>?_,hd};cases q;obtain⟨ob,_,_,h1,h2,_⟩:=dd;exact{ob,h1,h2.2.1}
 ·obtain⟨_,hd,xs,_,dd⟩:=xA I.bQ e;refine{dd.typeIs,λb q=>?_,hd};cases q;obtain⟨ob,_,_,h1,h2,_⟩:=dd;exact{ob,h1,h2.2.1}
section
variable{X:Cx}{pins:Aaa}{Z:St}{H:Hp}{s:Shared}{a:Addr}{y d:V}{u r:Value}{o:Aan}{A:Around}{E:Aac}
def aej{Q:Aac}(hu:A.units+1<cLine)(I:Inv X pins Z H s)(g:kW H a y o)(ry:RelV y u)(h:∀w' s',Inv X pins Z H s'->RelV (o.getD .cz) w'->Q w' s'):
  wpAny 56 A (call (.builtin "dict.get") [.ref a,u]) Q E s:=by
 rcases g with⟨kvs,k,e,ey,l⟩|⟨kvs,k,b,e,ey,eb,l⟩
 ·subst ey;obtain⟨z,hd,vs,rel,dd⟩:=vf I.bQ e;refine kG fS dd.typeIs jt (wY _ _) (meets_dict_get 725 a (qd ry) hd) {_,dd.mapOf,h _ _ 686 ?_};rw[l];exact(rel.val k).getD rfl
 ·subst ey;cases(show u=Value.ref b from ry);obtain⟨z,hd,xs,rel,dd⟩:=xA I.bQ e;refine kG fS dd.typeIs jt (wY _ _) (meetsH_dict_get (tupleKind 725) a b hd) {jy hu,k,xs,v5 I.bQ eb,dd,h _ _ 686 ?_};rw[l];exact(rel.val k).getD rfl
def aei(hu:A.units+1<cLine)(I:Inv X pins Z H s)(g:kW H a y o)(ry:RelV y u)(rd:RelV d r)(h:∀w' s',Inv X pins Z H s'->RelV (o.getD d) w'->Q w' s'):
  wpAny 56 A (call (.builtin "dict.get") [.ref a,u,r]) Q E s:=by
 rcases g with⟨kvs,k,e,ey,l⟩|⟨kvs,k,b,e,ey,eb,l⟩
 ·subst ey;obtain⟨z,hd,vs,rel,dd⟩:=vf I.bQ e;refine kG fS dd.typeIs jt (pF _ _ _) (meets_dict_get_default 725 a (qd ry) hd r) {_,dd.mapOf,h _ _ 686 ?_};rw[l];exact(rel.val k).getD rd
 ·subst ey;cases(show u=Value.ref b from ry);obtain⟨z,hd,xs,rel,dd⟩:=xA I.bQ e;refine kG fS dd.typeIs jt (pF _ _ _) (wO (tupleKind 725) a b hd r) {jy hu,k,xs,v5 I.bQ eb,dd,h _ _ 686 ?_};rw[l];exact(rel.val k).getD rd
end
inductive aaJ(ty:TE)(Z:St)(Q:VK)(x:V)(H1:Hp):Prop
 |mk a (_:x=.ref a) (_:IsD H1 a) (_:ty Z H1 λy H2=>∃o,kW H2 a y o/\Q (o.getD .cz) H2)
def acs(td ty:TE):TE:=λZ H Q=>td Z H λx H1=>aaJ ty Z Q x H1
inductive aaI(ty:TE)(tx:TE)(Z:St)(Q:VK)(x:V)(H1:Hp):Prop
 |mk a (_:x=.ref a) (_:IsD H1 a) (_:ty Z H1 λy H2=>tx Z H2 λz H3=>∃o,kW H3 a y o/\Q (o.getD z) H3)
def acr(td ty tx:TE):TE:=λZ H Q=>td Z H λx H1=>aaI ty tx Z Q x H1
section
variable{X:Cx}{o e f:Expr}{apos f9:Pos}{td ty tx:TE}
def WM(hu:X.A.units+1<cLine)(ho:PE X o td)(he:PE X e ty)(m:M1 X o "get" apos e f9):PE X (.Call (.Attribute o "get" apos) [e] [] f9) (acs td ty):=by intro pins s Z H Q I h;refine pH m.base m.mC m.line eZ fS qL (dh 733 λu s1 x H1 I1 rx ags=>?_);obtain⟨a,ex,d,q1⟩:=ags;subst ex;obtain rfl:u=Value.ref a:=rx;obtain⟨t1,t2,_⟩:=Uv I1 d;refine{t1,t2,?_};rw[m.trees];refine gq rfl (kh (fX (dh (he pins s1 Z H1 _ I1 q1) λiv s2 y H2 I2 ry ⟨ov,g,q2⟩=>j7 ?_)));exact aej hu I2 g ry λw' s3 I3 pQ=>⟨_,H2,I3,pQ,q2⟩
def sL(hu:X.A.units+1<cLine)(ho:PE X o td)(he:PE X e ty)(hf:PE X f tx)(m:M2 X o "get" apos e f f9):PE X (.Call (.Attribute o "get" apos) [e,f] [] f9) (acr td ty tx):=by intro pins s Z H Q I h;refine pH m.base m.mC m.line eZ fS qL (dh 733 λu s1 x H1 I1 rx agr=>?_);obtain⟨a,ex,d,q1⟩:=agr;subst ex;obtain rfl:u=Value.ref a:=rx;obtain⟨t1,t2,_⟩:=Uv I1 d;refine{t1,t2,?_};rw[m.trees];refine gq rfl (kh (fX (dh (he pins s1 Z H1 _ I1 q1) λiv s2 y H2 I2 ry q2=>fX (dh (hf pins s2 Z H2 _ I2 q2) λfv s3 z H3 I3 rz ⟨ov,g,q3⟩=>j7 ?_))));exact aei hu I3 g ry rz λw' s4 I4 pQ=>⟨_,H3,I4,pQ,q3⟩
variable{pins:Aaa}{Z:St}{H:Hp}{s:Shared}{a:Addr}{kvs:List (Key×V)}{A:Around}{E:Aac}
def X1(I:Inv X pins Z H s)(e:Rd H a 719)(h:∀p s',H p=none->Inv X pins Z (upd H p 719) s'->Q 676 s'):wpAny 56 A (call (.type "dict") [.ref a]) Q E s:=by obtain⟨z,hd,vs,rel,dd⟩:=vf I.bQ e;refine kt_call_dict hd dd (rel.length▸z) λh' rE hs=>?_;exact h _ _ 683 (I.laid (λb q hq=>(hs.2 b (aX (aY hq))).trans (ao _ hq)) (aw _) (wc z (cZ.mpr (cM (aX I.big))) rel rE))
end
end L2
namespace Att
open PySem PySem.W PySem.Calls PyProof.Rows
def Gm:∀(ns:List Int)(vs:Aae),WellAll P h vs (ns.map WData.int)->IntsAre vs ns:=by
 intro ns
 induction ns with
 |nil=>
  intro vs w;cases w;exact .nil
 |cons n ns ih=>
  intro vs w;cases w with
  |cons a b=>
   cases a;exact .cons _ _ (ih _ b)
def SQ{l:OpenLaw}(hn:l.most=some n)
  (Rn:l.row.toRowW.claim.pre args=true) (za:WellAll P h vals args):
  ∃a vs ns,vals=[Value.ref a]/\args=[WData.list (ns.map WData.int)]/\h.get? a=some {cls:=.type "list",data:=.seq vs.toArray}/\IntsAre vs ns/\ns.length<=n:=by
 have hc:l.pre.holds [] {args:=args}=true:=(pre_splitW Rn).2;obtain⟨d,r,rfl,h1,h2⟩:=hasAllW_cons ((pre_splitW Rn).1);obtain rfl:=hasAllW_nil h2;obtain⟨xs,rfl,h3⟩:=hasW_list h1;obtain⟨ns,rfl⟩:=items_int h3;have hlen:ns.length<=n:=by
  have h4:(WTm.not (.lt (.lit (.int (n:Int))) (.len (.arg 0)))).holds [] {args:=[.list (ns.map .int)]}=true:=by have h4:=(holds_andW hc).1;rw[hn]at h4;exact h4
  have h5:=condW_of h4 (w_not (w_lt w_lit (w_len_list (w_arg 9))));refine kI λq=>?_
  first
   |(rw[bg q']at h5;exact absurd h5 (by decide))
   |(simp at h5;lia)
 cases za with
 |cons w1 w2=>
  cases w2;cases w1 with
  |list ho ot=>exact{_,_,ns,9,9,ho,Gm ns _ ot,hlen}
def Tg(l:OpenLaw)(args:List WData):l.row.toRowW.claim.post args (.bool true) args=true:=
 postW_of
  (show WShape.has [] (.bool true) .bool=true by first|rfl|decide|simp[WShape.has,WShape.arms,WShape.armsAll])
  (show(WTm.eq .res (.lit (.bool true))).value [] {args:=args,res:=some (.bool true),after:=args}=some (.bool (true==true))from w_eq_bool (w_res 9) w_lit) rfl
def OA{l:OpenLaw}
  (hn:l.most=some n) (UZ:d.params.defaults=[])
  (call:∀(w:World)(aac aaa:Shared)(mg mb:Aab)(fa:Addr)(o:Obj)(pm cd doc:Value)(a:Addr)(vs:Aae)(ns:List Int),
   Ground q loose [] XP w aac mg mb aaa.heap->YP w aaa.heap->
   aaa.heap.get? fa=some o->o.data=.func (docDef d.name d.params d.body d.scope pm cd doc)->aaa.heap.CodeRec cd d.name->mg d.name=some (.ref fa)->
   aaa.heap.get? a=some {cls:=.type "list",data:=.seq vs.toArray}->IntsAre vs ns->ns.length<=n->aaa.gens=#[]->
   codeAny (model l.prog w) callerA (.call (.ref fa) {[.ref a],[]}) 696 aaa):
  WalkO q loose XP YP l.row.toRowW d [] (λf vs=>PySem.call f vs):=by
 intro w aac aaa mg mb G Y fa o pm cd doc dV kV ho hd Co hD UP hg args vals as Rn ahJ hrd za hlo;obtain rfl:dV=.none:=Dflts.none hD UZ;obtain rfl:kV=.none:=Dflts.noKw hD;obtain⟨a,vs,ns,rfl,rfl,Xm,hints,hlen⟩:=SQ hn Rn za;refine enter_call (md (call w aac aaa mg mb fa o pm cd doc a vs ns G Y ho (fd_plain hd) Co UP Xm hints hlen hg) λr s' hq=>?_);obtain⟨rfl,h2,h3,h4⟩:=hq;exact{.inl {.bool true,.bool true,[],9,λ_=>9,.bool true,Tg l _,λ_=>{List.Pairwise.nil,λ_ hm=>(nomatch hm)}},h2,h3,h4}
section
def ledger(h:Heap)(L d:Addr):Aaa:=(List.range h.objs.size).filterMap λa=>if a=L\/a=d then none else(h.get? a).map λo=>(a,o)
end
end Att
namespace L2
open PySem PySem.Spec PyProof.Rows
theorem IP:∀{vs:Aae}{ns:List Int},IntsAre vs ns->Vals (ns.map V.int) vs
 |_,_,.nil=>.nil
 |_,_,.cons n t h=>.cons ⟨t,rfl⟩ (IP h)
def R9(H:Hp):Prop:=∀b,H b=none\/∃o xs,H b=some (.fB o (.lst xs))
def Xc{K:Frag}
  (KX:K.In aaa.heap) (A9:aaa.heap.Ns mainGlobals mg) (hb:aaa.heap.Ns builtinsNs mb) (hbb:∀x:Str,x≠"__name__"->mb x=bootBuiltins x) (agX:aaa.heap.NoLimit) (hg:aaa.gens=#[])
  (ha:aaa.heap.get? a=some {cls:=.type "list",data:=.seq vs.toArray}) (hi:IntsAre vs ns) (hl:ns.length<=sizeLine) (hr:iH k callerA)
  (F:∀base:Heap,K.In base->base.Ns mainGlobals mg->cK P w K mg base CX k fa fd [x] sp) (afc:∀(s:Shared)(u:Value),BindsTo s fd {[u],[]} [(x,u)])
  (Jx:∀H:Hp,R9 H->bf K H a (ns.map V.int)->sp [.ref a] H (λv _=>v=.bl true) λ_ _ _=>False)
  (hCX:∀H e s',CX [] H aaa (λ_ _ _=>False) e s'->False):
  codeAny 667 callerA (.call (.ref fa) {[.ref a],[]}) 696 aaa:=by
 have rv:=IP hi;have core:∀H:Hp,R9 H->bf K H a (ns.map V.int)->j5 P w H aaa.heap->(∀b,H b≠none->b=a)->(H a≠none->K.lookup a=none)->
   codeAny 667 callerA (.call (.ref fa) {[.ref a],[]}) 696 aaa:=by
  intro H hO hS bQ hA hK;have Qh:∀{b:Addr}{o:Obj},aaa.heap.get? b=some o->H b=none->(E9 aaa.heap H).get? b=some o:=λe n=>Xq e n;have TR:∀{b:Addr}{o:Obj}{es:Array DictEntry}{ep:Nat},aaa.heap.get? b=some o->o.data=.dict es ep->H b=none:=λ{b o es ep} e d=>by
   cases q:H b with
   |none=>rfl
   |some u=>
    have e':=hA b (by rw[q];simp);subst e';rw[ha]at e;cases e;have d':=d;cases d'
  have Y9:∀{b:Addr}{m:Aab},aaa.heap.Ns b m->(E9 aaa.heap H).Ns b m:=λ{b m} ⟨o,es,ep,e,d,r⟩=>{o,es,ep,Qh e (TR e d),d,r};have hKb:=λb o e=>Qh (KX b o e) (by
   cases q:H b with
   |none=>rfl
   |some u=>
    have e':=hA b (by rw[q];simp);subst e';rw[hK (by rw[q];simp)]at e;cases e)
  have hM:Mod K mg (E9 aaa.heap H):={hKb,Y9 A9,{mb,Y9 hb,hbb},let⟨mc,h1,h2⟩:=agX;{mc,Y9 h1,h2}};refine md ((F _ hKb (Y9 A9)).run callerA [] aaa H {[.ref a],[]} [.ref a] [.ref a] _ _ hr ({9,hM,λb o e=>abi e,rQ (UU _ _),trivial,λb hb=>absurd (show b∈([]:Aah)from hb) 59,bQ,.of_eq hg}) (afc aaa 659) (.cons 9 .nil) (Jx H hO hS)) λr s' h=>?_;cases r with
  |error e=>exact(hCX H e s' h).elim
  |ok fl=>
   cases fl with
   |next=>exact False.elim h
   |brk=>exact False.elim h
   |cont=>exact False.elim h
   |ret u=>
    obtain⟨v,H',os,bare,un,agT,r',q⟩:=h;have q':=q;subst q';obtain rfl:u=Value.bool true:=r';refine{9,OldK.of_keep λb o e=>?_,os,bare};cases q:H b with
    |none=>exact un.keep b o e q (by intro z;exact absurd (show b∈([]:Aah)from z) 59) 59
    |some u=>
     rcases hO b with z|⟨ob,xs,z⟩
     ·rw[q]at z;cases z
     ·have z2:=un.uC b ob _ z;obtain⟨e1,_⟩:=bQ b _ z;obtain⟨e2,_⟩:=agT b _ z2;rw[e]at e1;cases e1;exact e2
 cases hk:K.lookup a with
 |some o=>
  have e:=KX a o hk;rw[ha]at e;cases e;refine core (λ_=>none) (λ_=>.inl 9) (.inr {_,vs.toArray,_,hk,9,9,9,by rw[aR,hi.length];exact hl,by simpa using rv}) (λb u z=>by have z':=z;cases z') (λb z=>absurd 9 z) λz=>absurd rfl z
 |none=>
  refine core (λb=>if b=a then some (.fB {cls:=.type "list",data:=.seq vs.toArray} (.lst (ns.map V.int)))else none) (λb=>?_) (.inl (.inr ⟨{cls:=.type "list",data:=.seq vs.toArray},aM rfl⟩)) (λb u z=>?_) (λb z=>?_) λ_=>hk
  ·by_cases hb:b=a
   ·exact .inr {_,_,aM hb}
   ·exact .inl (aI hb)
  ·by_cases hb:b=a
   ·have z':=(aM hb).symm.trans z;cases z';subst hb;exact{ha,by rw[aj];exact hl,vs,_,rv,ha}
   ·have z':=(aI hb).symm.trans z;cases z'
  ·by_cases hb:b=a
   ·exact hb
   ·exact absurd (aI hb) z
abbrev KOf{K:Frag}{h:Heap}(_:K.In h):Frag:=K
def aax{l:PySem.W.OpenLaw}{K:Params->Frag}{CX:World->N5}{sp:World->Sp}
  (hn:l.most=some n) (Eu:n<=sizeLine) (UZ:d.params.defaults=[]) (hr:iH k callerA)
  (hY:∀(w:World)(h:Heap),YP w h->(K w.params).In h)
  (F:∀(w:World)(mg:Aab)(fa:Addr)(h:Heap),(K w.params).In h->h.Ns mainGlobals mg->mg d.name=some (.ref fa)->
   ∃fd:FuncData,(∀(s:Shared)(u:Value),BindsTo s fd {[u],[]} [(x,u)])/\
    ∀base:Heap,(K w.params).In base->base.Ns mainGlobals mg->cK l.prog w (K w.params) mg base (CX w) k fa fd [x] (sp w))
  (Jx:∀(w:World)(H:Hp)(a:Addr)(ns:List Int),ns.length<=n->R9 H->bf (K w.params) H a (ns.map V.int)->sp w [.ref a] H (λv _=>v=.bl true) λ_ _ _=>False)
  (hCX:∀(w:World)(H:Hp)(s:Shared)(e:Value)(s':Shared),CX w [] H s (λ_ _ _=>False) e s'->False):
  PySem.W.WalkO q loose XP YP l.row.toRowW d [] (λf vs=>PySem.call f vs):=by
 refine Att.OA hn UZ λw aac aaa mg mb fa o pm cd doc a vs ns G Y ho hd Co UP Xm hints hlen hg=>?_;have KX:=hY w _ Y;obtain⟨fd,hb,hF⟩:=F w mg fa _ KX G.T.g UP;exact Xc KX G.T.g G.T.b G.T.builtins G.T.nolimit hg Xm hints (bu hlen Eu) hr hF hb (λH hO hS=>Jx w H a ns hlen hO hS) λH e s'=>hCX w H aaa e s'
def inClass(s:Stmt)(j:Nat):Stmt:=match s with
 | .ClassDef _ _ _ body _ _ _ _ _ _ _=>body.getD j (.Pass {0,0,0,0})
 |_=>.Pass {0,0,0,0}
def defArgs(s:Stmt):Arguments:=match s with
 | .FunctionDef _ a _ _ _ _ _ _ _ _=>a
 |_=>{posonlyargs:=[],args:=[],vararg:=none,kwonlyargs:=[],kw_defaults:=[],kwarg:=none,defaults:=[]}
def defBody(s:Stmt):List Stmt:=match s with
 | .FunctionDef _ _ b _ _ _ _ _ _ _=>b
 |_=>[]
def defScope(s:Stmt):Scope:=match s with
 | .FunctionDef _ _ _ _ _ _ sc _ _ _=>sc
 |_=>{kind:=.function,names:=[],isGenerator:=false,isCoroutine:=false}
abbrev d7:N5:=λ_ _ _ _ _ _=>False
abbrev E0:XK:=λ_ _ _=>False
def QN:Passes d7 X E0:=λ_ _ _ _ _ _ _ h=>h.elim
structure dF(K:Frag)(x qual:Str)(st:Stmt)(f:Addr)(fd:FuncData):Prop where
 ex:∃(oc:Value)(od:Aai)(kV doc pm:Value)(an:Aai)(cY ct:Value)(A4:Aad),
  fd=fnOf x qual (defArgs st) (defBody st) (defScope st) .none kV doc pm an cY ct/\K.lookup f=some {oc,od,.func fd,A4}/\codeIn K cY qual=true
 kp:keepIn K 700=true
section
variable{P:Program}{w:World}{K:Frag}{mg:Aab}{base:Heap}
def dF.ok{st:Stmt}(F:dF K x qual st f fd)(S:bZ N ps (defScope st))(len:∀vs H Q E,sp vs H Q E->vs.length=ps.length)
  (Ry:∀(cY:Value)(A:Around)(outer:List Env)(s:Shared)(H:Hp)(vs:Aam)(Q:VK)(E:XK),iH k (A.deeper (envOfC qual (defScope st) s.heap.objs.size f cY))->sp vs H Q E->
   ∃t,pX (NO d7 P w K mg base N qual (defScope st) f cY A outer s H E).Za (defBody st) t/\t {nx:=λ_ H'=>Q .cz H',rt:=Q} (start N vs) H):cK P w K mg base d7 (k+1) f fd ps sp:=by
 obtain⟨oc,od,kV,doc,pm,an,cY,ct,A4,rfl,lk,Co⟩:=F.ex;refine afi lk Co S len λA outer s H vs Q E hr Jx=>?_;obtain⟨t,h,q⟩:=Ry cY A outer s H vs Q E hr Jx;exact{t,h.Za,q}
def dF.binds{st:Stmt}(F:dF K x qual st f fd)
  (h:∀(kV doc pm:Value)(an:Aai)(cY ct:Value)(us:Aae),us.length=ps.length->bindArgs 716 {us,[]}=pure (ps.zip us)):Binds K fd ps []:=by
 obtain⟨oc,od,kV,doc,pm,an,cY,ct,A4,rfl,lk,Co⟩:=F.ex;exact .all (h kV doc pm an cY ct)
def Vg{st:Stmt}{kV doc pm cY ct:Value}(l:K.lookup f=some {oc,od,.func 716,A4})
  (c:codeIn K cY qual=true) (k:keepIn K 700=true):dF K x qual st f 716:={⟨oc,od,kV,doc,pm,an,cY,ct,A4,rfl,l,c⟩,k}
def mK(hr:iH k A):A.units+1<cLine:=fW (Bo (by decide:1<=64) _) hr.units
def bt(h:n<=1000):n<sizeLine:=fW h 7
variable{X:Cx}
def pv(i:Nat)(hN:X.N[i]?=some x:=by rfl)(hv:Vis X.env.scope x:=by first|exact Or.inl rfl|exact Or.inr (Or.inl rfl)|exact Or.inr (Or.inr rfl))(hd:663=false:=by decide)
  (Co:(x==("__classdict__":Str))=false:=by decide):PE X (.Name x pos) (acg i):=acT hN hv hd Co
def eS{A B:Prop}(h:B):if false=true then A else B:=by exact h
def kz{A B:Prop}(h:A):if true=true then A else B:=by exact h
def dU{c A B:Prop}[Decidable c](h1:c->A)(h2:¬c->B):if c then A else B:=by
 by_cases h:c
 ·rw[aM h];exact h1 h
 ·rw[aI h];exact h2 h
def aK(H H':Hp):Prop:=∀b o,H b=some o->H' b=some o
def aK.refl(H:Hp):aK H H:=λ_ _ h=>h
def aK.trans(a:aK H H1)(b:aK H1 H2):aK H H2:=λc o h=>b c o (a c o h)
def aK.free(e:aK H H')(h:H' l=Option.none):H l=Option.none:=by
 cases q:H l with
 |none=>rfl
 |some o=>
  rw[e l o q]at h;cases h
end
section
variable{κ:Type}[DecidableEq κ]
end
def Its(z:Str):It:={λi _=>i<z.cps.size,λi H x H'=>H'=H/\∃c,z.cps[i]?=some c/\x=.str ⟨#[c]⟩,λi _=>i=z.cps.size}
def IM(hh:A.handled=none)(I:Addr)(x:Str)(t:Tok):
  Walks prog w A I [I] [I] x.cps.size (SignAt x) (λi h=>h.IsStrIter I (strIterType x) x t i):=by
 unfold strIterType;cases x.cps.all (·<128)with
 |true=>exact Walks.strAscii hh I x t
 |false=>exact Walks.strWide hh I x t
def Ki(x:Str):["enumerate","zip","dict_itemiterator","dict_reverseitemiterator","odict_iterator","itertools.zip_longest","itertools.pairwise"].contains (strIterType x)=false:=by
 unfold strIterType;cases x.cps.all (·<128)with
 |true=>decide
 |false=>decide
def V6{K:Frag}(it:Addr)(z:Str)(t:Tok):Turn P w K tg (Its z) [it] it (λi h=>h.IsStrIter it (strIterType z) z t i) where
 mem:=by simp
 obj:=λi h st b hb=>by
  have e:b=it:=by simpa using hb
  subst e;obtain⟨o,e,c,d⟩:=st;exact{o,e,λv z=>by rw[d]at z;cases z}
 keep:=λi h h' st k=>by obtain⟨o,e,r⟩:=st;exact{o,k it 59 o e,r}
 item:=by intro X hP hw hK hc i pins s Z H E I hf st hg;subst hP hw hK;obtain⟨f0,f1,f2,f3,f4,f5⟩:=hf it 59;refine(IM (prog:=X.prog) (w:=X.w) (I.ok.hd hc) it z t).item i s _ _ hg st λv h' tk hv mT kk=>?_;obtain⟨c,u,JI,rfl⟩:=hv;obtain⟨o,e,c1,d1⟩:=id mT;exact{_,9,GD e c1 d1 (Ki z) {.str ⟨#[c]⟩,H,(I.turned (λb o hb e=>kk b o (by simpa using hb) e) f0 f1 f3 f4 f5),⟨u,rfl⟩,⟨rfl,c,JI,rfl⟩,mT,λb hb=>(hf b hb).1}}
 done:=by intro X hP hw hK hc i pins s Z H E I hf st hg;subst hP hw hK;obtain⟨f0,f1,f2,f3,f4,f5⟩:=hf it 59;have e:=hg;subst e;exact(IM (prog:=X.prog) (w:=X.w) (I.ok.hd hc) it z t).done s _ _ st λh' tk kk=>{9,I.turned (λb o hb e=>kk b o (by simpa using hb) e) f0 f1 f3 f4 f5}
 self:=λA i s Q E st h=>by
  unfold strIterType at st;cases hx:z.cps.all (·<128)with
  |true=>rw[hx]at st;exact wpAny_pyIter_striter_ascii st h
  |false=>rw[hx]at st;exact wpAny_pyIter_striter_wide st h
section
variable{X:Cx}{tg:Expr}
inductive ae4(R:It->Hp->Prop)(x:V)(H1:Hp):Prop
 |mk z (_:x=.str z) (_:R (Its z) H1)
def af4(tl:TE):TI:=λZ H R=>tl Z H λx H1=>ae4 R x H1
def To(hl:PE X l tl):PI X tg l (af4 tl):=by
 intro pins s Z H R I h;refine dh (hl pins s Z H _ I h) λv s1 x H1 I1 r1 q1=>?_;obtain⟨z,e,q⟩:=q1;subst e;obtain⟨t,rfl⟩:=r1;refine wpAny_pyIter_strU ?_;have I2:Inv X pins Z H1 {s1 with heap:=s1.heap.push {cls:=.type (strIterType z),data:=.fields #[.str z t,.int 0 0]}}:=I1.kept λb o e=>ao _ e;refine{s1.heap.objs.size,[s1.heap.objs.size],_,Its z,H1,9,I2,V6 s1.heap.objs.size z t,{_,682,9,9},694,q};have e:b=s1.heap.objs.size:=by simpa using hb
 subst e;exact I1.uD (aw _) 704
def frees(scope:Scope):Aaf:=(scope.names.filter λp=>p.2==.free).map (·.1)
def mO(scope:Scope)(env:Env):List (Str×Addr):=(frees scope).reverse.map λn=>(n,(env.cells.lookup n).getD 0)
theorem Iu(env:Env):∀(names:List (Str×NameKind))(cs:List (Str×Addr)),(∀n∈(names.filter λp=>p.2==.free).map (·.1),∃c,env.cells.lookup n=some c)->
  (forIn names cs λ(x:Str×NameKind)(r:List (Str×Addr))=>(if x.2==.free then do let c<-cellOf env x.1;pure (ForInStep.yield ((x.1,c)::r))else pure (ForInStep.yield r):Sem (ForInStep (List (Str×Addr)))))=
   pure ((((names.filter λp=>p.2==.free).map (·.1)).reverse.map λn=>(n,(env.cells.lookup n).getD 0))++cs)
 |[],cs,_=>rfl
 |(n,k)::r,cs,h=>by
  rw[List.forIn_cons];cases hk:(k==NameKind.free)with
  |false=>
   have ih:=Iu env r cs (λm hm=>h m (by simpa[cS,hk]using hm));simp only[hk,gP,kB,cS,pure_bind];exact ih
  |true=>
   obtain⟨c,hc⟩:=h n (by simp[cS,hk]);have h':=λm hm=>h m (by
    simp only[cS,hk,o8,bq];exact aG _ hm)
   have ec:cellOf env n=pure c:=by unfold cellOf;rw[hc]
   simp only[hk,o8,cS,bq,List.reverse_cons,aH,fw,dG,qv,jQ,ec,pure_bind,hc,Option.getD_some];exact(Iu env r ((n,c)::cs) h')
def xC(h:∀n∈frees scope,∃c,env.cells.lookup n=some c):closureFor scope env=pure (mO scope env):=by have e:=Iu env scope.names [] h;rw[cL]at e;have q:closureFor scope env=((forIn scope.names ([]:List (Str×Addr)) λ(x:Str×NameKind)(r:List (Str×Addr))=>(if x.2==.free then do let c<-cellOf env x.1;pure (ForInStep.yield ((x.1,c)::r))else pure (ForInStep.yield r):Sem (ForInStep (List (Str×Addr)))))>>=λr=>pure r):=9;rw[q,bind_pure];exact e
theorem B7{β:Type}(g:Str->β)(y:Str):∀l:Aaf,(l.map λn=>(n,g n)).lookup y=if y∈l then some (g y)else none
 |[]=>by simp
 |n::r=>by
  rw[bq,jo];cases e:(y==n)with
  |true=>
   have e':=dW e;subst e';simp
  |false=>
   have e':y≠n:=λq=>by rw[q]at e;simp at e
   rw[(B7 g y r)];simp[e']
def jr(h:∀n∈frees scope,∃c,env.cells.lookup n=some c):(mO scope env).lookup y=some c↔y∈frees scope/\env.cells.lookup y=some c:=by
 unfold mO;rw[B7 (λn=>(env.cells.lookup n).getD 0)];by_cases hy:y∈frees scope
 ·obtain⟨d,hd⟩:=h y hy;rw[aM (List.mem_reverse.mpr hy),hd];simp[hy]
 ·rw[aI λq=>hy (List.mem_reverse.mp q)];simp[hy]
theorem B8(f:Str->NameKind->NameKind)(y:Str):∀names:List (Str×NameKind),(names.map λp=>(p.1,f p.1 p.2)).lookup y=(names.lookup y).map (f y)
 |[]=>rfl
 |(n,k)::r=>by
  rw[bq,jo,jo];cases e:(y==n)with
  |true=>
   have e':=dW e;subst e';rfl
  |false=>exact(B8 f y r)
def lY(scope:Scope)(env:Env)(y:Str):(relabel scope env).names.lookup y=(scope.names.lookup y).map λk=>if(k==.free&&env.scope.kind==.function&&env.kindOf y==some .cell)=true then NameKind.cell else k:=by
 have e:(relabel scope env).names=scope.names.map λp=>(p.1,(λ(n:Str)(k:NameKind)=>if(k==.free&&env.scope.kind==.function&&env.kindOf n==some .cell)=true then NameKind.cell else k) p.1 p.2):=by refine b9 λp _=>?_;obtain⟨n,k⟩:=p;show(if(k==.free&&env.scope.kind==.function&&env.kindOf n==some .cell)=true then(n,NameKind.cell)else(n,k))=_;split<;>simp_all
 rw[e];exact B8 (λ(n:Str)(k:NameKind)=>if(k==.free&&env.scope.kind==.function&&env.kindOf n==some .cell)=true then NameKind.cell else k) y scope.names
end
structure pZ(X:Cx)(scope:Scope)(x:Str)(fs:Aaf)(fr:List Nat):Prop where
 kind:scope.kind=.function
 loc:scope.names.lookup x=some .local
 names:∀y∈scope.names,y.2=.local->scope.names.lookup y.1=some .local
 TN:∀y∈scope.names,y.2≠ .cell
 free:∀n∈frees scope,X.env.kindOf n=some .cell/\scope.names.lookup n=some .free
 nd:(x::fs).Nodup
 len:fr.length=fs.length
 slots:∀(j:Nat)(y:Str)(k:Nat),fs[j]?=some y->fr[j]?=some k->X.N[k]?=some y/\y∈frees scope
abbrev dX(X:Cx)(N':Aaf)(scope:Scope)(C:Addr)(s:Shared)(H:Hp)(ex:Aah):Cx:=
 {X with N:=N',aac:=s,aae:=H,env:=compEnvC scope (mO scope X.env) C X.env,outer:=X.stack,stack:=X.stack,ex:=ex,fn:=λ_=>false,pn:=[],xe:=λ_ _=>False}
def CT(X:Cx)(ifs:List Expr)(tt:TT):Prop:=
 ∀(pins:Aaa)(s:Shared)(Z:St)(H:Hp)(Q:Bool->Hp->Prop),Inv X pins Z H s->tt Z H Q->
  wpAny 56 X.A (forIn ifs true λc r=>if r=true then do let ok<-isTrue c X.env (eval c X.env);pure (ForInStep.yield ok)else pure (ForInStep.yield r)) (TP X pins Z Q) X.xe s
def Dj:TT:=λ_ H Q=>Q true H
def GU:CT X [] Dj:=λ_ _ _ H _ I h=>wpAny_tests_nil ⟨H,I,h⟩
def GS(h:PT X c tc):CT X [c] tc:=λpins s Z H Q I hq=>wpAny_tests_one (h pins s Z H Q I hq)
def slotsOf(fr:List Nat)(Z:St):St:=fr.map λk=>(Z[k]?).getD none
def qS(wi:TI)(fr:List Nat)(tt:TT)(te:TE):TE:=λZ H Q=>wi Z H λJ H1=>∃W:Nat->Nat->Aam->Hp->Prop,(∃m,W 0 m [] H1)/\∀i m ys H2,W i m ys H2->
 (J.stop i H2/\ys.length<=sizeLine/\∀l,H2 l=none->Q 720 (upd H2 l 679))\/
 (J.go i H2/\ys.length<sizeLine/\∀v H3,J.D4 i H2 v H3->tt (some v::slotsOf fr Z) H3 λb H4=>
  if b=true then te (some v::slotsOf fr Z) H4 (λy H5=>∃m',m'<m/\W (i+1) m' (ys++[y]) H5)else∃m',m'<m/\W (i+1) m' ys H4)
section
variable{X:Cx}
def tI{h h':Heap}(k:∀b o,h.get? b=some o->h'.get? b=some o)(z:h.IsCell c v):h'.IsCell c v:=by obtain⟨o,e,d⟩:=z;exact{o,k _ _ e,d}
def Inv.adopt(I:Inv X pins Z H s)(hn:H D=none)(e:s.heap.get? D=some {cls:=.type "list",data:=.seq vs.toArray k})(r:Vals ys vs)(hz:ys.length<=sizeLine)
  (h1:X.aac.heap.objs.size<=D) (hL:D≠X.env.locals) (h2:∀x c,X.env.cells.lookup x=some c->c≠D) (h3:∀p∈X.pn++pins,p.1≠D):Inv X pins Z (upd H D 679) s:=by
 have nD:∀b u,H b=some u->b≠D:=λb u q z=>by rw[z,hn]at q;cases q
 have bQ:j5 X.prog X.w (upd H D 679) s.heap:=λb u q=>by
  by_cases hb:b=D
  ·subst hb;rw[av]at q;cases q;exact⟨hz,vs,k,r,e⟩
  ·rw[aL hb]at q;exact(I.bQ b u q).qT (λ_ _ _ z=>z) (λc z=>by rw[aL (nD c _ z)];exact z) λc xs z=>by rw[aL (nD c _ z)];exact z
 have J:=I.step (t':=s.toks) (d':=s.drawn) (ch:=[D])
  (λb hb=>by
   have e':b=D:=by simpa using hb
   subst e';exact{.inr h1,hL,h2,h3})
  (λb o _ _ _ q _=>q) (λb o _ _ _ q _=>{o.slots,q}) (λb o hc _ n=>by rw[aL λz=>hc (by simp[z])];exact n) (λb o _ q=>⟨o,q⟩)
  (λb xs q=>by rw[aL (nD b _ q)];exact q) (λb o u q=>by rw[aL (nD b _ q)];exact q) (λb ps q=>{#[],by rw[aL (nD b _ q),q];simp}) (λm hm=>hm) bQ I.bare
 exact J
def abV(S:pZ X scope x fs fr)(I2:Inv X pins Z H s2)(I3:Inv X pins Z H s)
  (hD:D=s2.heap.objs.size) (hs:s.heap.objs.size=D+1) (bO:∀b∈fp,b<D) (f2:∀b∈fp,oI X pins H b):(dX X (x::fs) scope s.heap.objs.size s H (D::fp)).Ok:=by
 have lZ:=λn hn=>I3.ok.has n (.inl (S.free n hn).1);have sub:∀{y:Str}{c:Addr},(mO scope X.env).lookup y=some c->X.env.cells.lookup y=some c:=λh=>((jr lZ).mp h).2;refine{I3.ok.mod,S.kind,I3.ok.glob,I3.ok.blt,aw _,λa b c h1 h2=>I3.ok.inj a b c (sub h1) (sub h2),λy hy=>?_,(λ_ _ h=>by cases h),I3.ok.hd,I3.ok.frames,.inl rfl,694,I3.bs,bu I3.ok.Be I3.sz,λb o e hb=>?_,λb hb hf=>?_,I3.stack,I3.Hm}
 ·have q:(relabel scope X.env).names.lookup y=some .cell\/(relabel scope X.env).names.lookup y=some .free:=hy;have nf:scope.names.lookup y=some .free:=by
   rw[lY]at q;cases e:scope.names.lookup y with
   |none=>rw[e]at q;simp at q
   |some k=>
    rw[e]at q;cases k with
    |free=>rfl
    |cell=>
     have hm:(y,NameKind.cell)∈scope.names:=by have:=kU.mp e;obtain⟨l1,l2,z,_⟩:=this;rw[z];simp
     exact absurd rfl (S.TN _ hm)
    |_=>simp at q
  have hm:y∈frees scope:=by obtain⟨l1,l2,z,_⟩:=kU.mp nf;unfold frees;rw[z];simp
  obtain⟨c,hc⟩:=lZ y hm;exact{c,(jr lZ).mpr ⟨hm,hc⟩}
 ·rcases aN.mp hb with rfl|hb
  ·refine{λz=>?_,λy c h z=>?_}
   ·exact absurd (hs.symm.trans z.symm:b+1=b) (qr b)
   ·obtain⟨v,q⟩:=I2.cell y c (sub h);have:=q.lt;rw[z,hD]at this;exact absurd this (da _)
  ·refine{λz=>?_,λy c h=>(f2 b hb).2.2.2.2.1 y c (sub h)};have q:=eU (bO b hb);rw[z]at q;exact absurd q (by show ¬s.heap.objs.size<D+1;rw[hs];exact da _)
 ·have jf:=aY e;have h1:=I2.ok.Be;rcases aN.mp hb with rfl|hb
  ·rw[hD]at jf;exact absurd (bw jf (bu h1 I2.sz)) (da _)
  ·rcases(f2 b hb).2.2.2.1 with z|z
   ·exact I2.ok.E5 b o e z
   ·exact absurd (bw jf (bu h1 z)) (da _)
 ·have hf':=hf;rcases aN.mp (I2.FR b hf')with z|z
  ·rcases aN.mp hb with rfl|hb
   ·have:=I2.lt;rw[<-z,hD]at this;exact absurd this (da _)
   ·exact(f2 b hb).2.1 z
  ·rcases aN.mp hb with rfl|hb
   ·exact I2.W5 (rQ hD.symm) z
   ·exact(f2 b hb).2.2.1 z
def X8(S:pZ X scope x fs fr)(I3:Inv X pins Z H s)
  (ok:(dX X (x::fs) scope s.heap.objs.size s H ex).Ok) (hn:h4.Ns s.heap.objs.size m) (old:∀b o,s.heap.get? b=some o->h4.get? b=some o):
  Inv (dX X (x::fs) scope s.heap.objs.size s H ex) [] (none::slotsOf fr Z) H {s with heap:=h4,toks:=t}:=by
 have lZ:=λn hn=>I3.ok.has n (.inl (S.free n hn).1);have sub:∀{y:Str}{c:Addr},(mO scope X.env).lookup y=some c->X.env.cells.lookup y=some c:=λh=>((jr lZ).mp h).2;refine{ok,9,I3.bare,Un.kept old,{m,hn,λi y v e1 e2 e3=>?_},λy c h=>?_,I3.bQ.fresh (aw _),λy c h=>I3.nE y c (sub h),λp hp=>absurd hp 59,I3.bQ.kept old,?_}
 ·cases i with
  |zero=>
   have ud:(none:Aan)=some v:=by simpa using e2
   cases ud
  |succ j=>
   have ud:(slotsOf fr Z)[j]?=some (some v):=by simpa using e2
   unfold slotsOf at ud;rw[aW]at ud;cases hk:fr[j]? with
   |none=>rw[hk]at ud;cases ud
   |some k=>
    rw[hk]at ud;have e4:(Z[k]?).getD none=some v:=by simpa using ud
    have e5:Z[k]?=some (some v):=by
     cases q:Z[k]? with
     |none=>rw[q]at e4;cases e4
     |some z=>rw[q]at e4;exact cR some e4
    obtain⟨n1,n2⟩:=S.slots j y k 730 hk;obtain⟨m0,_,hl⟩:=I3.loc;obtain⟨u,ru,l⟩:=hl k y v n1 e5 (.inr (.inl (S.free y n2).1));have kc:=(S.free y n2).1;rcases l with⟨l,_⟩|⟨_,c,hc,cl⟩
    ·rw[kc]at l;cases l
    ·refine{u,ru,.inr {.inl ?_,c,(jr lZ).mpr ⟨n2,hc⟩,tI old cl}};show(relabel scope X.env).names.lookup y=some .cell;rw[lY,(S.free y n2).2,I3.ok.kind,kc];rfl
 ·obtain⟨v,z⟩:=I3.cell y c (sub h);exact{v,tI old z}
 ·show(none::slotsOf fr Z).length=(x::fs).length;simp[slotsOf,S.len]
abbrev lobj(vs:Aae)(k:Nat):Obj:={cls:=.type "list",data:=.seq vs.toArray k}
theorem OL:∀(xs:Aam)(us:Aae),xs.length=us.length->(∀(j:Nat)(x:V)(u:Value),xs[j]?=some x->us[j]?=some u->RelV x u)->Vals xs us
 |[],[],_,_=>.nil
 |[],_::_,h,_=>by cases h
 |_::_,[],h,_=>by cases h
 |x::xs,u::us,h,f=>.cons (f 0 x u 9 9) (OL xs us 721 λj a b e1 e2=>f (j+1) a b 730 (by simpa using e2))
def sJ(h:Ai k v=true):RelV (kV k) v:=by
 rcases iJ h with⟨i,t,rfl,rfl⟩|⟨x,t,rfl,rfl⟩
 ·exact⟨t,rfl⟩
 ·exact⟨t,rfl⟩
def range_all(bs:List Bool):((List.range bs.length).all λi=>(bs[i]?).getD true)=bs.all id:=by
 rw[fA,bN,bN];constructor
 ·intro h b hb;obtain⟨i,hi⟩:=eP.mp hb;have:=h i (cE.mpr (au.mp hi).1);rw[hi]at this;exact this
 ·intro h i hi;have bO:=cE.mp hi;rw[ay bO];exact h _ (kJ bO)
def Iy(hc:X.calm=true):gZ X (.type "list") (λxs H Q=>∃a kvs,xs=[.ref a]/\H a=some 719/\∀l,H l=none->Q 720 (upd H l (.lst (kvs.map λkv=>kV kv.1)))):=by
 intro pins s Z H xs us Q I r h;obtain⟨a,kvs,rfl,ha,q⟩:=h;obtain⟨u,rfl,ru⟩:=jI r;cases ru;obtain⟨hz,lo,vs,rel,o,es,ep,m⟩:=xB I.bQ ha;have hl:=rel.length;refine PySem.W.kdl_call (PySem.W.kdl_dict lo) (I.ok.hd hc) (⟨o,es,m⟩) (hl▸hz) λh' tk uF c' kp e it=>?_;have rv:Vals (kvs.map λkv=>kV kv.1) uF.toList:=by
  refine OL _ _ (by simp[it.1,hl]) λj x v e1 e2=>?_;obtain⟨k,y,e3,e4⟩:=it.2 j v (by rw[<-dy];exact e2);have e5:(kvs.map (·.1))[j]?=some k:=by rw[rel.keys,aW,e3];rfl
  rw[aW]at e1 e5;cases e6:kvs[j]? with
  |none=>rw[e6]at e1;cases e1
  |some p=>
   rw[e6]at e1 e5;obtain rfl:kV p.1=x:=bR e1;obtain rfl:p.1=k:=bR e5;exact sJ e4
 exact{352,_,I.laid kp (aw _) (show dY X.prog X.w _ h' _ (.lst _)from{by rw[aj];exact hz,uF.toList,c',rv,by simpa using e}),9,q _ I.fresh}
def zx(hc:X.calm=true):gZ X (.builtin "all") (λxs H Q=>∃(a:Addr)(bs:List Bool),xs=[.ref a]/\bf X.K H a (bs.map V.bl)/\Q (.bl (bs.all id)) H):=by
 intro pins s Z H xs us Q I r h;obtain⟨a,bs,rfl,ha,q⟩:=h;obtain⟨u,rfl,ru⟩:=jI r;cases ru;obtain⟨ba,rv,p,hz⟩:=I.list ha;have hl:ba.length=bs.length:=by have:=rv.length;simpa using this.symm
 have gJ:a≠s.heap.objs.size:=by obtain⟨o,n,e,_⟩:=id p;exact aX (aY e)
 refine call_all_walk (lQ p.isList ?_);refine{s.heap.objs.size,_,_,ba.toArray.size,_,_,λi=>(bs[i]?).getD true,9,G9 (show X.A.in1.handled=none from I.ok.hd hc) s.heap.objs.size a gJ ba.toArray,{{_,682,9,9},p.isList.at λo e=>ao _ e},?_,λh' tk kp=>?_}
 ·intro i v s' Q' E' hP hQ;have U9:ba[i]?=some v:=by simpa using hP
  have hi:i<bs.length:=by rw[<-hl];exact(au.mp U9).1
  obtain⟨u,hu,ru⟩:=rv.get (by rw[aW,ay hi];rfl);rw[U9]at hu;cases hu;cases ru;refine eT ?_;have e2:(bs[i]?).getD true=bs[i]:=by rw[ay hi];rfl
  rw[<-e2];exact hQ
 ·refine{.bl (bs.all id),H,I.kept λb o e=>kp b o (by simpa using aX (aY e)) (ao _ e),?_,q};show Value.bool _=Value.bool _;rw[aR,hl,range_all]
def js:gZ X (.builtin "isinstance") (λxs H Q=>∃x n t b,xs=[x,.ty n]/\pK X.K H x t/\kitOne X.K t (.type n)=some b/\Q (.bl b) H):=by intro pins s Z H xs us Q I r h;obtain⟨x,n,t,b,rfl,ty,e,q⟩:=h;obtain⟨u,w',rfl,ru,pQ⟩:=vals2 r;cases pQ;exact Uu I ru ty e λtk=>{.bl b,H,I.tok tk,9,q}
inductive aaS(x:V)(vs:Aam)(H:Hp)(Q:VK):Prop
 |mk a b (_:x=.str a) (_:vs=[.str b]) (_:Q (.bl (Txt.startswith a b)) H)
def Kr:MtR X "str.startswith" aaS:=by intro pins s Z H x vs v us Q I rx rv h;obtain⟨a,b,rfl,rfl,q⟩:=h;obtain⟨t,rfl⟩:=rx;obtain⟨u,rfl,ru⟩:=rv.one;obtain⟨t',rfl⟩:=ru;exact call_gives F.slot_str_startswith (oM s a t) F.entry_str_startswith (F.args_str_startswith_2 _ _) (gives_str_startswith a b t t') {.bl _,H,I,9,q}
inductive afK(x:V)(lo:Option Int)(hi:Option Int)(H:Hp)(Q:VK):Prop
 |mk z (_:x=.str z) (_:z.length<=sizeLine) (_:Q (.str (Txt.slice z lo hi)) H)
def SK:Qi X afK:=by
 intro pins s Z H x v vl vu lo hi sl Q I rx hs pl pu h;obtain⟨z,rfl,hz,q⟩:=h;obtain⟨t,rfl⟩:=rx;cases pl with
 |none=>
  cases pu with
  |none=>exact{"str",_,F.slot_str_getitem.lookup,oM _ _ _,kS (l:=none) (u:=none) (st:=none) hs rfl 691}
  |int j tj=>exact{"str",_,F.slot_str_getitem.lookup,oM _ _ _,kS (l:=none) (u:=some (j,tj)) (st:=none) hs rfl 691}
 |int i ti=>
  cases pu with
  |none=>exact{"str",_,F.slot_str_getitem.lookup,oM _ _ _,kS (l:=some (i,ti)) (u:=none) (st:=none) hs rfl 691}
  |int j tj=>exact{"str",_,F.slot_str_getitem.lookup,oM _ _ _,kS (l:=some (i,ti)) (u:=some (j,tj)) (st:=none) hs rfl 691}
def afs(_i j:Int):Prop:=0<j/\j.natAbs.log2<9000
def WQ:iU X (binaryOp .FloorDiv) (rI afs λi j=>.int (i/j)):=Y4 λi j _ _ _ _ _ hc q=>by have h1:=hc.1;exact floordiv_int ∅ (by rw[Int.fdiv_eq_ediv_of_nonneg i ∅];exact q) (.inl (PyProof.noPylong_of_log2 hc.2))
mutual
def Dt(K:Frag)(H:Hp):PyData->V->Prop
 | .none,x=>x=.cz
 | .bool b,x=>x=.bl b
 | .int i,x=>x=.int i
 | .str z,x=>x=.str z
 | .list ds,x=>∃a xs,x=.ref a/\bf K H a xs/\lJ K H ds xs
 | .tuple ds,x=>∃a xs,x=.ref a/\aZ K H a xs/\lJ K H ds xs
 | .dict _,_=>False
def lJ(K:Frag)(H:Hp):List PyData->Aam->Prop
 |[],xs=>xs=[]
 |d::ds,xs=>∃x r,xs=x::r/\Dt K H d x/\lJ K H ds r
end
mutual
theorem nY(I:Inv X pins Z H s):∀(d:PyData)(x:V)(v:Value),Dt X.K H d x->RelV x v->∃as,Reads s.heap v d as
 | .none,x,v,h,r=>by rw[Dt]at h;subst h;cases r;exact{_,.none}
 | .bool b,x,v,h,r=>by rw[Dt]at h;subst h;cases r;exact{_,.bool b}
 | .int i,x,v,h,r=>by rw[Dt]at h;subst h;obtain⟨t,rfl⟩:=r;exact{_,.int i t}
 | .str z,x,v,h,r=>by rw[Dt]at h;subst h;obtain⟨t,rfl⟩:=r;exact{_,.str z t}
 | .list ds,x,v,h,r=>by rw[Dt]at h;obtain⟨a,xs,rfl,hq,ha⟩:=h;cases r;obtain⟨ba,rv,⟨o,n,e,c,_,d⟩,_⟩:=I.list hq;obtain⟨as,ra⟩:=yb I ds xs ba ha rv;exact{_,.list e c d (by simpa using ra)}
 | .tuple ds,x,v,h,r=>by rw[Dt]at h;obtain⟨a,xs,rfl,hq,ha⟩:=h;cases r;obtain⟨ba,rv,⟨o,e,c,n,d⟩,_⟩:=I.tuple hq;obtain⟨as,ra⟩:=yb I ds xs ba ha rv;exact{_,.tuple e c d (by simpa using ra)}
 | .dict _,x,v,h,r=>by rw[Dt]at h;exact h.elim
theorem yb(I:Inv X pins Z H s):∀(ds:List PyData)(xs:Aam)(vs:Aae),lJ X.K H ds xs->Vals xs vs->∃as,ReadsAll s.heap vs ds as
 |[],xs,vs,h,r=>by rw[lJ]at h;subst h;cases r;exact{_,.nil}
 |d::ds,xs,vs,h,r=>by
  rw[lJ]at h;obtain⟨x,r',rfl,h1,h2⟩:=h;cases r with
  |cons r1 r2=>
   obtain⟨as,q1⟩:=nY I d x _ h1 r1;obtain⟨bs,q2⟩:=yb I ds r' _ h2 r2;exact{_,.cons q1 q2}
end
inductive acO(K:Frag)(neg:Bool)(x:V)(y:V)(H:Hp)(Q:VK):Prop
 |mk d e (_:Dt K H d x) (_:Dt K H e y) (_:SeqAt.shaped d=true) (_:SeqAt.shaped e=true) (_:Q (.bl (if neg then !PyData.eqv d e else PyData.eqv d e)) H)
def acZ(hu:X.A.units+64<cLine):iU X (compareOp .Eq) (acO X.K false):=by intro pins s Z H x y v u Q I rx ry h;obtain⟨d,e,h1,h2,h3,h4,q⟩:=h;obtain⟨as,r1⟩:=nY I d x v h1 rx;obtain⟨bs,r2⟩:=nY I e y u h2 ry;exact eq_dataH r1 r2 h3 h4 hu {.bl _,H,I,9,q}
def F8(hu:X.A.units+64<cLine):iU X (compareOp .NotEq) (acO X.K true):=by intro pins s Z H x y v u Q I rx ry h;obtain⟨d,e,h1,h2,h3,h4,q⟩:=h;obtain⟨as,r1⟩:=nY I d x v h1 rx;obtain⟨bs,r2⟩:=nY I e y u h2 ry;exact ne_dataH r1 r2 h3 h4 hu {.bl _,H,I,9,q}
theorem lA{K:Frag}:∀zs:Aaf,lJ K H (zs.map PyData.str) 652
 |[]=>by rw[fw,lJ];rfl
 |z::r=>by exact{_,_,9,by rw[Dt],lA r}
theorem nq:∀xs ys:Aaf,PyData.eqvAll (xs.map PyData.str) (ys.map PyData.str)=decide (xs=ys)
 |[],[]=>by simp[PyData.eqvAll]
 |[],_::_=>by simp[PyData.eqvAll]
 |_::_,[]=>by simp[PyData.eqvAll]
 |a::r,b::t=>by simp only[bq,PyData.eqvAll,PyData.eqv,nq r t];by_cases h:a=b<;>by_cases h':r=t<;>simp[h,h']
theorem sO:∀zs:Aaf,(∀z∈zs,PyData.strOk z=true)->PyData.canLayAll0 (zs.map PyData.str)=true
 |[],_=>rfl
 |z::r,h=>by simp[PyData.canLayAll0,PyData.canLay0,(h z aF),(sO r λy hy=>h y (aG _ hy))]
theorem o9:∀zs:Aaf,PyData.depthAll (zs.map PyData.str)=0
 |[]=>rfl
 |_::r=>by simp[PyData.depthAll,PyData.depth,o9 r]
def Ea(zs:Aaf)(h:∀z∈zs,PyData.strOk z=true):SeqAt.shaped (.list (zs.map PyData.str))=true:=by simp[SeqAt.shaped,PyData.canLay0,PyData.depth,sO zs h,o9]
def RZ(osc:Scope)(N:Aaf)(scope:Scope)(x:Str)(fs:Aaf)(fr:List Nat):Bool:=
 scope.kind==.function&&scope.names.lookup x==some .local&&scope.names.all (λy=>!(y.2==.local)||scope.names.lookup y.1==some .local)&&scope.names.all (λy=>!(y.2==.cell))&&
  (frees scope).all (λn=>osc.names.lookup n==some .cell&&scope.names.lookup n==some .free)&&decide ((x::fs).Nodup)&&fr.length==fs.length&&
  (List.range fs.length).all (λj=>match fs[j]?,fr[j]? with|some y,some k=>N[k]?==some y&&decide (y∈frees scope)|_,_=>false)
end
def cV(h:RZ X.env.scope X.N scope x fs fr=true:=by kernel_rfl):pZ X scope x fs fr:=by
 unfold RZ at h;simp only[bP]at h;obtain⟨⟨⟨⟨⟨⟨⟨h1,h2⟩,h3⟩,h4⟩,h5⟩,h6⟩,h7⟩,h8⟩:=h;refine{dW h1,dW h2,λy hy e=>?_,λy hy e=>?_,λn hn=>?_,aT h6,dW h7,λj y k e1 e2=>?_}
 ·have:=bN.mp h3 y hy;rw[e]at this;simpa using this
 ·have:=bN.mp h4 y hy;rw[e]at this;simp at this
 ·have:=bN.mp h5 n hn;rw[bP]at this;exact{dW this.1,dW this.2}
 ·have:=bN.mp h8 j (cE.mpr (au.mp e1).1);rw[e1,e2]at this;simp only[bP]at this;exact{dW this.1,aT this.2}
def cq(P:Program)(w:World)(K:Frag)(mg:Aab)(base:Heap)(k:Nat)(x:Str)(ps:Aaf)(sp:Sp):Prop:=
 ∃f fd,cK P w K mg base d7 k f fd ps sp/\mg x=some 700/\keepIn K 700=true/\Binds K fd ps []
def cl(D:cq X.prog X.w X.K X.mg X.base k x ps sp)(hr:iH j X.A)(ha:PA X (e::es) t)(hk:k<=j:=by decide)(hg:Gl X x:=by rfl)
  (Cm:663=false:=by decide) (he:starEach (e::es) X.env=(false,eval e X.env)::starEach es X.env:=by rfl) (jN:(backTo pos 712).any (·.1)=false:=by rfl):
  PE X 708 (YB sp [] E0 t):=by
 obtain⟨f,fd,F,m,kp,b⟩:=D;exact aa8 F (hr.mono hk) hg m kp b .nil QN ha Cm he jN
def Gf(l:Addr)(items:Aaj)(n:Nat)(b:Addr)(dd:Aai)(sl:Aad)(Cc:Aaj)(n2:Nat)(hs0:¬(!items.isEmpty&&Builtin.List.listTooLong (items.size+Cc.size))=true)(Er:items.size<=sizeLine)(kE:items.size+Cc.size<=sizeLine+1):
  Meets (Builtin.«list.extend» {[.ref l,.ref b],[]}) (λ_ R s=>s.heap.get? l=some {cls:=.type "list",dict:=none,data:=.seq items n,slots:=#[]}/\s.heap.get? b=some {cls:=.type "tuple",dict:=dd,data:=.seq Cc n2,slots:=sl}/\R (.ok (.ret Value.none)) {s with heap:=s.heap.update l (Obj.mapSeq λx=>x++Cc),toks:=s.toks}):=
 .of_wp λprog w A R s h=>by
  obtain⟨hp,g,d,tk,os⟩:=s;obtain⟨hl,hb,h⟩:=h
  wp_walk using(xb hl 9 (_hz':=(by rw[Array.size_append];exact kE))),wpAny_loadPart' hl,wpAny_loadPart' hb
  exact⟨_,rfl,h⟩
section
variable{X:Cx}
inductive Ww(K:Frag)(x:V)(vs:Aam)(H:Hp)(Q:VK):Prop
 |mk l b xs zs (_:x=.ref l) (_:vs=[.ref b]) (_:H l=some (.lst xs)) (_:aZ K H b zs) (_:xs.length+zs.length<=sizeLine) (_:Q .cz (upd H l (.lst (xs++zs))))
def rm:Kh X "list.extend" (Ww X.K):=by
 intro pins s Z H x vs v us Q I rx rv h;obtain⟨l,b,xs,zs,rfl,rfl,hH,hB,hz,q⟩:=h;cases rx;obtain⟨u,rfl,ru⟩:=rv.one;cases ru;obtain⟨z,ba,n,r,hl,e⟩:=I.yf hH;obtain⟨uB,r2,⟨⟨cls,dd,data,sl⟩,e2,ub,n2,hd2⟩,z2⟩:=I.tuple hB;simp only at ub hd2;subst ub hd2;have gd:=r2.length;have hsz:ba.toArray.size+uB.toArray.size<=sizeLine:=by rw[aR,aR];lia
 have Rq:¬(!ba.toArray.isEmpty&&Builtin.List.listTooLong (ba.toArray.size+uB.toArray.size))=true:=by rw[Mf hsz,tD];exact bL
 refine lB C8 ⟨_,e,rfl⟩ Bs (AQ _ _)
  (Gf l ba.toArray n b dd sl uB.toArray n2 Rq (by rw[aR];lia) ∅) {e,e2,?_}
 refine{.cz,_,I.HR hH e 59 (r.append r2) ?_,9,q};rw[aD];lia
end
def cut(n:Nat)(C:St->Hp->Prop)(ht:∃t2,pX X (body.drop n) t2/\∀Z H,C Z H->t2 D Z H)
  (hh:∀t2,pX X (body.drop n) t2->∃t,pX X body t/\((∀Z H,C Z H->t2 D Z H)->t D σ0 H0)):∃t,pX X body t/\t D σ0 H0:=by
 obtain⟨t2,p,q⟩:=ht;obtain⟨t,p',q'⟩:=hh t2 p;exact{t,p',q' q}
def WK(hg:Gl X x)(hm:∃t,X.mg x=some (.int i t))(hd:663=false:=by decide):PE X (.Name x pos) (tC (.int i)):=by obtain⟨t,hm⟩:=hm;exact Pd hg hm ⟨t,rfl⟩ hd
def WJ(hg:Gl X x)(hm:∃t,X.mg x=some (.str z t))(hd:663=false:=by decide):PE X (.Name x pos) (tC (.str z)):=by obtain⟨t,hm⟩:=hm;exact Pd hg hm ⟨t,rfl⟩ hd
section
variable{X:Cx}{K:Frag}
def Aj(h:X.K=K:=by rfl):Qk X (acM K):=h▸eM
def qH(h:X.K=K:=by rfl):Qk X (acL K):=h▸b4
def xD(h:X.K=K:=by rfl):gZ X (.builtin "len") (λxs H Q=>∃x n,xs=[x]/\aeu K x H n/\Q (.int n) H):=h▸c6
def zZ(h:X.K=K:=by rfl):iU X (compareOp .In) (YU K false):=h▸B1
def A5(h:X.K=K:=by rfl):iU X (compareOp .NotIn) (YU K true):=h▸og
def yO{A B:Hp->Prop}(h:A H):Dj Z H (λb H4=>if b=true then A H4 else B H4):=by show(if true=true then A H else B H);exact h
end
end L2
namespace HT
open PySem PySem.Spec PyProof.Rows
section
variable{prog:Program}{w:World}{A:Around}{E:Aac}{s:Shared}
def Bl{t sl:Addr}{items:Aaj}{vl vu:Value}{lo hi:Option Int}{Q:Aac}(ht:IsTup s.heap t items)(hs:s.heap.IsSliceOf sl vl vu .none)(pl:IsPart vl lo)(pu:IsPart vu hi)
  (hw:eK items.size 0 lo=0/\eK items.size items.size hi=items.size) (h:Q (.ref t) s):wpAny 58 A (getItem (.ref t) (.ref sl)) Q E s:=by
 obtain⟨os,MU,ZT,UY⟩:=id hs;unfold getItem
 try with_reducible refine cn ?_
 first|refine ah (aq ?_)|skip
 refine ah (DJ ht.typeIs 7 ?_);refine ah (wpAny_callSpecial?_slot ht.typeIs eY
  (b7 eY ht.typeIs Bm ?_ (CN _ _)))
 show wpAny _ _ (Builtin.Tuple.tupleItemsOf (.ref t)>>=_) _ _ s;refine ah (tupleItemsOf_ ht ?_);refine ah (hV (⟨os,MU,ZT⟩) ?_);refine ah (vF hs pl pu ?_);have agG:658=true:=by rw[hw.1,hw.2];simp
 show wpAny _ _ (if 658=true then _ else _) _ _ s;rw[aM agG];refine ah (ah (hV ht.typeIs ?_));refine aq ?_
 wp_walk
 exact{_,9,aq h}
def Yd(ht:IsTup s.heap t vs.toArray)(hb:IsTup s.heap b ws.toArray)(h0:vs=[]->Q (.ref b) s)
  (h1:vs≠[]->ws=[]->Q (.ref t) s) (h2:vs≠[]->ws≠[]->Q 352 {s with heap:=s.heap.push {cls:=.type "tuple",data:=.seq (vs++ws).toArray}})
  (hsz:vs.length+ws.length<=sizeLine):wpAny 58 A (binaryOp .Add (.ref t) (.ref b)) Q E s:=by
 by_cases hv:vs=[]
 ·obtain⟨⟨cls,dd,data,sl⟩,ho,hc,n,hd⟩:=id ht;obtain⟨⟨ahk,Z9,data2,YL⟩,uS,ub,n2,hd2⟩:=id hb;simp only at hc hd ub hd2;subst hc hd ub hd2;exact CB ⟨_,ho,rfl⟩ ⟨_,uS,rfl⟩ vU AX pW pE (oB _ _)
   (tuple_addW0 t b vs.toArray ws.toArray n n2 dd Z9 sl YL (by simp[hv])) {ho,uS,h0 hv}
 ·exact abW ht hb hv (h1 hv) (h2 hv) hsz
end
end HT
namespace L2
open PySem PySem.Spec PyProof.Rows
section
variable{X:Cx}
inductive acJ(K:Frag)(x:V)(lo:Option Int)(hi:Option Int)(H:Hp)(Q:VK):Prop
 |mk a xs (_:x=.ref a) (_:aZ K H a xs) (_:((HT.eK xs.length 0 lo=0/\HT.eK xs.length xs.length hi=xs.length)->Q (.ref a) H)) (_:(¬(HT.eK xs.length 0 lo=0/\HT.eK xs.length xs.length hi=xs.length)->∀p,H p=none->Q (.ref p) (upd H p (.tup (lN xs lo hi)))))
def O4:Qi X (acJ X.K):=by
 intro pins s Z H x v vl vu lo hi sl Q I rx hs pl pu h;obtain⟨a,xs,rfl,hx,q1,q2⟩:=h;by_cases hw:HT.eK xs.length 0 lo=0/\HT.eK xs.length xs.length hi=xs.length
 ·cases rx;obtain⟨ba,r,ht,hz⟩:=I.tuple hx;have hlen:ba.toArray.size=xs.length:=aR▸r.length.symm;exact{"tuple",_,eY.lookup,ht.typeIs,HT.Bl ht hs pl pu (by rw[hlen];exact hw) {659,H,I,9,q1 hw}}
 ·exact acy pins s Z H 659 v vl vu lo hi sl Q I rx hs pl pu {a,xs,9,hx,hw,q2 hw}
inductive YV(K:Frag)(x:V)(y:V)(H:Hp)(Q:VK):Prop
 |mk a b xs ys (_:x=.ref a) (_:y=.ref b) (_:aZ K H a xs) (_:aZ K H b ys) (_:xs.length+ys.length<=sizeLine) (_:(xs=[]->Q (.ref b) H)) (_:(xs≠[]->ys=[]->Q (.ref a) H)) (_:(xs≠[]->ys≠[]->∀p,H p=none->Q (.ref p) (upd H p (.tup (xs++ys)))))
def Pf:iU X (binaryOp .Add) (YV X.K):=by intro pins s Z H x y v u Q I rx ry h;obtain⟨a,b,xs,ys,rfl,rfl,ha,hb,hz,q0,q1,q2⟩:=h;cases rx;cases ry;obtain⟨ba,r1,p1,_⟩:=I.tuple ha;obtain⟨uB,r2,p2,_⟩:=I.tuple hb;refine HT.Yd p1 p2 (λz=>{.ref b,H,I,9,q0 (r1.yW.mp z)}) (λn z=>{659,H,I,9,q1 (λz=>n (r1.yW.mpr z)) (r2.yW.mp z)}) (λn z=>?_) (by rw[<-r1.length,<-r2.length];exact hz);refine{352,_,I.laid (λb ob q=>ao _ q) (aw _) ?_,9,q2 (λz=>n (r1.yW.mpr z)) (λw=>z (r2.yW.mpr w)) _ 683};exact{aD▸hz,_,r1.append r2,IsTup.new _ _,_,682,9}
inductive afL(K:Frag)(neg:Bool)(x:V)(y:V)(H:Hp)(Q:VK):Prop
 |mk a b xs (_:x=.ref a) (_:y=.ref b) (_:bf K H a xs) (_:bf K H b []) (_:Q (.bl (if neg then !xs.isEmpty else xs.isEmpty)) H)
def Ga(hu:X.A.units<cLine):iU X (compareOp .Eq) (afL X.K false):=by
 intro pins s Z H x y v u Q I rx ry h;obtain⟨a,b,xs,rfl,rfl,ha,hb,q⟩:=h;cases rx;cases ry;obtain⟨ba,r1,p1,_⟩:=I.list ha;obtain⟨uB,r2,p2,_⟩:=I.list hb;cases r2;cases xs with
 |nil=>
  cases r1;exact SeqAt.eq_listAt (e:=λ_=>true) p1.isList p2.isList rfl hu (λj h1 _=>absurd h1 (fU _)) {.bl true,H,I,9,q}
 |cons c l=>
  cases r1 with
  |cons r0 r1=>exact SeqAt.eq_list_lengthsAt p1.isList p2.isList 59 hu {.bl false,H,I,9,q}
variable{K:Frag}{a:Addr}{xs:Aam}{fr:List Nat}{tt:TT}{te:TE}{Z:St}{H1:Hp}{R:Addr->Aam->Hp->Prop}
abbrev AS(J:It)(fr:List Nat)(tt:TT)(te:TE)(Z:St)(H1:Hp)(R:Addr->Aam->Hp->Prop):Prop:=
 ∃W:Nat->Nat->Aam->Hp->Prop,(∃m,W 0 m [] H1)/\∀i m ys H2,W i m ys H2->
 (J.stop i H2/\ys.length<=sizeLine/\∀l,H2 l=none->R l ys H2)\/
 (J.go i H2/\ys.length<sizeLine/\∀v H3,J.D4 i H2 v H3->tt (some v::slotsOf fr Z) H3 λb H4=>
  if b=true then te (some v::slotsOf fr Z) H4 (λy H5=>∃m',m'<m/\W (i+1) m' (ys++[y]) H5)else∃m',m'<m/\W (i+1) m' ys H4)
def mN(Pv:Nat->Aam->Hp->Prop)(hx:xs.length<sizeLine)(h0:Pv 0 [] H1)(hl:∀i ys H,i<=xs.length->Pv i ys H->aZ K H a xs/\ys.length<=i)
  (hs:∀(i:Nat)(x:V)(ys:Aam)(H:Hp)(N:Aam->Hp->Prop),xs[i]?=some x->Pv i ys H->(∀hU H',Pv (i+1) hU H'->N hU H')->
   tt (some x::slotsOf fr Z) H λb H4=>if b=true then te (some x::slotsOf fr Z) H4 (λy H5=>N (ys++[y]) H5)else N ys H4)
  (hd:∀ys H,Pv xs.length ys H->∀l,H l=none->R l ys H):AS (VT K a) fr tt te Z H1 R:=by
 refine{689,{xs.length,59,aP _,h0},?_};rintro i m ys H ⟨rfl,hi,p⟩;obtain⟨q,hy⟩:=hl i ys H hi p;by_cases bO:i<xs.length
 ·refine .inr {{xs,_,q,ay bO},8,?_};rintro v H3 ⟨rfl,hv⟩;exact hs i v ys H3 (λhU H'=>∃m',m'<xs.length -i/\m'=xs.length -(i+1)/\i+1<=xs.length/\Pv (i+1) hU H') (hv xs q) p λhU H' p'=>{_,8,9,bO,p'}
 ·have e:i=xs.length:=by lia
  subst e;exact .inl {{xs,q,aw _},8,hd ys H p}
def iS(Pv:Nat->Aam->Hp->Prop)(hx:xs.length<sizeLine)(h0:Pv 0 [] H1)(hl:∀i ys H,i<=xs.length->Pv i ys H->bf K H a xs/\ys.length<=i)
  (hs:∀(i:Nat)(x:V)(ys:Aam)(H:Hp)(N:Aam->Hp->Prop),xs[i]?=some x->Pv i ys H->(∀hU H',Pv (i+1) hU H'->N hU H')->
   tt (some x::slotsOf fr Z) H λb H4=>if b=true then te (some x::slotsOf fr Z) H4 (λy H5=>N (ys++[y]) H5)else N ys H4)
  (hd:∀ys H,Pv xs.length ys H->∀l,H l=none->R l ys H):AS (VU K a) fr tt te Z H1 R:=by
 refine{689,{xs.length,59,aP _,h0},?_};rintro i m ys H ⟨rfl,hi,p⟩;obtain⟨q,hy⟩:=hl i ys H hi p;by_cases bO:i<xs.length
 ·refine .inr {{xs,_,q,ay bO},8,?_};rintro v H3 ⟨rfl,hv⟩;exact hs i v ys H3 (λhU H'=>∃m',m'<xs.length -i/\m'=xs.length -(i+1)/\i+1<=xs.length/\Pv (i+1) hU H') (hv xs q) p λhU H' p'=>{_,8,9,bO,p'}
 ·have e:i=xs.length:=by lia
  subst e;exact .inl {{xs,q,aw _},8,hd ys H p}
def X6{z:Str}(Pv:Nat->Aam->Hp->Prop)(hx:z.cps.size<sizeLine)(h0:Pv 0 [] H1)(hl:∀i ys H,i<=z.cps.size->Pv i ys H->ys.length<=i)
  (hs:∀(i:Nat)(c:Nat)(ys:Aam)(H:Hp)(N:Aam->Hp->Prop),z.cps[i]?=some c->Pv i ys H->(∀hU H',Pv (i+1) hU H'->N hU H')->
   tt (some (.str ⟨#[c]⟩)::slotsOf fr Z) H λb H4=>if b=true then te (some (.str ⟨#[c]⟩)::slotsOf fr Z) H4 (λy H5=>N (ys++[y]) H5)else N ys H4)
  (hd:∀ys H,Pv z.cps.size ys H->∀l,H l=none->R l ys H):AS (Its z) fr tt te Z H1 R:=by
 refine{λi m ys H=>m=z.cps.size -i/\i<=z.cps.size/\Pv i ys H,{z.cps.size,59,aP _,h0},?_};rintro i m ys H ⟨rfl,hi,p⟩;have hy:=hl i ys H hi p;by_cases bO:i<z.cps.size
 ·refine .inr {bO,8,?_};rintro v H3 ⟨rfl,c,hc,rfl⟩;exact hs i c ys H3 (λhU H'=>∃m',m'<z.cps.size -i/\m'=z.cps.size -(i+1)/\i+1<=z.cps.size/\Pv (i+1) hU H') hc p λhU H' p'=>{_,8,9,bO,p'}
 ·have e:i=z.cps.size:=by lia
  subst e;exact .inl {9,8,hd ys H p}
end
section
variable{P:Program}{w:World}{A:Around}{E:Aac}{z:Shared}
def Ad(g:z.heap.IsTupleIter j p k)(gp:z.heap.IsTuple p ba)(gy:ba[k]?=some y)
  (q:∀h',h'.IsTupleIter j p (k+1)->Heap.SameBut j z.heap h'->Q y {z with heap:=h'}):wpAny 667 A (Builtin.SmallTypes.nextOf (.ref j)) Q E z:=by
 obtain⟨ob,g0,g1,g2⟩:=id g;obtain⟨op,p0,_,np,p2⟩:=gp;refine ah (wpAny_callSpecial?_slot g.typeIs jW (b7 jW g.typeIs uj ?_ (tq _)));show wpAny _ _ (field (.ref j) 0>>=_) _ _ z;refine ah (du g0 g2 9 ?_);refine ah (du g0 g2 9 ?_);refine ah (dj p0 p2 ?_);simp only[eX,gy];exact ah (gQ g0 g2 59 (aq {y,9,aq (q _ ({_,eR _ g0 (zC (oF g2 _)),(DV ..).trans g1,by rw[oF g2];simp[rawInt]}) (cH ..))}))
def yX(hd:A.handled=none)(g:z.heap.IsTupleIter j p k)(gp:z.heap.IsTuple p ba)(gy:ba[k]?=none)
  (q:∀h' e,Heap.ExtBut j z.heap h'->(∃o,h'.get? e=some o/\o.cls=.type "StopIteration")->E (.ref e) {z with heap:=h'}):wpAny 667 A (Builtin.SmallTypes.nextOf (.ref j)) Q E z:=by
 obtain⟨ob,g0,g1,g2⟩:=id g;obtain⟨op,p0,_,np,p2⟩:=gp;refine ah (wpAny_callSpecial?_slot g.typeIs jW (b7 jW g.typeIs uj ?_ (tq _)));show wpAny _ _ (field (.ref j) 0>>=_) _ _ z;refine ah (du g0 g2 9 ?_);refine ah (du g0 g2 9 ?_);refine ah (dj p0 p2 ?_);simp only[eX,gy];refine ah (j8 (ah (gQ g0 g2 59 ?_)));refine ah ?_;refine ah (cP ?_ (by size_fits));refine ah (D5 (by first|rfl|(simp only[firstArgMember];rfl)) ?_);refine cP ?_ (by size_fits);refine ah (wpAny_handled ?_)
 first|rw[show A.in1.handled=none from hd]|rw[hd]
 exact ah (aq (wpAny_throw (q _ _ (((cH ..).extBut.push _).push _) {_,682,9})))
def JS(hd:A.handled=none)(j p:Addr)(gJ:p≠j)(ba:Aaj):
  Draws P w A j [j,p] ba.size (λk v=>ba[k]?=some v) (λk h=>h.IsTupleIter j p k/\h.IsTuple p ba) where
 live:=λ_ _ st=>let⟨o,ho,_⟩:=st.1;⟨o,ho⟩
 frame:=λ_ _ _ st hk=>by obtain⟨⟨o,ho,r⟩,o',pB,r'⟩:=st;exact{{o,hk j 59 o ho,r},o',hk p 59 o' pB,r'}
 item:=λk s Q E hi st hQ=>Ad st.1 st.2 (y:=ba[k]) (by simp[hi]) λh' mT hs'=>hQ _ h' s.toks (by simp[hi]) {mT,st.2.extBut hs'.extBut gJ} hs'
 done:=λs Q E st hE=>yX hd st.1 st.2 59 hE
def Vr(p:Addr)(ba:Aaj)(n:Nat)(dd:Aai)(sl:Aad):
  Meets (Builtin.«enumerate.__new__» {[.type "enumerate",.ref p],[]}) (λ_ R s=>s.heap.get? p=some {cls:=.type "tuple",dict:=dd,data:=.seq ba n,slots:=sl}/\
   R (.ok (.ret (.ref (s.heap.push {cls:=.type "tuple_iterator",data:=.fields #[.ref p,.int 0 0]}).objs.size)))
    {s with heap:=(s.heap.push {cls:=.type "tuple_iterator",data:=.fields #[.ref p,.int 0 0]}).push {cls:=.type "enumerate",data:=.fields #[.none,.bool false,.ref s.heap.objs.size,rawInt 0,.none,.none]}}):=
 .of_wp λprog w A R s h=>by
  obtain⟨hp,g,d,tk,os⟩:=s;obtain⟨hl,h⟩:=h;have Xh:=sub_enumerate;have hT:Heap.IsTuple (Shared.heap ⟨hp,g,d,tk,os⟩) p ba:=⟨_,hl,rfl,n,rfl⟩
  wp_walk using AutoSeq1.wpAny_loadPart' hl
  refine wpAny_stack_any λst=>aq ?_;split
  ·rename_i c _ _ _ _ _;cases(c==Value.type "enumerate")
   ·wp_walk using AutoSeq1.wpAny_loadPart' hl,jw hT
    exact⟨_,rfl,h⟩
   ·wp_walk using AutoSeq1.wpAny_loadPart' hl,jw hT
    exact⟨_,rfl,h⟩
  ·wp_walk using AutoSeq1.wpAny_loadPart' hl,jw hT
   exact⟨_,rfl,h⟩
def R1{p:Addr}{ba:Aaj}{Q:Aac}(hT:z.heap.IsTuple p ba)
  (q:∀h',IsEnum h' (z.heap.objs.size+1) z.heap.objs.size 0 .none->h'.IsTupleIter z.heap.objs.size p 0->(∀b o,z.heap.get? b=some o->h'.get? b=some o)->Q (.ref (z.heap.objs.size+1)) {z with heap:=h'}):
  wpAny 667 A (call (.type "enumerate") [.ref p]) Q E z:=by
 obtain⟨⟨c,dct,dt,sl⟩,hl,hc,n,hd⟩:=hT
 replace hc:c=.type "tuple":=hc
 replace hd:dt=.seq ba n:=hd
 subst hc hd;refine callType_new F.called_enumerate 7 (F.typeCall_enumerate_1 _) (F.newCall_enumerate_1 _) (λobj=>F.args_object_init_2 obj _) F.entry_enumerate_new (Vr p ba n dct sl) {hl,?_};have hz:(z.heap.push {cls:=.type "tuple_iterator",data:=.fields #[.ref p,.int 0 0]}).objs.size=z.heap.objs.size+1:=dk ..;show _/\_;rw[hz];have he:IsEnum ((z.heap.push {cls:=.type "tuple_iterator",data:=.fields #[.ref p,.int 0 0]}).push {cls:=.type "enumerate",data:=.fields #[.none,.bool false,.ref z.heap.objs.size,rawInt 0,.none,.none]}) (z.heap.objs.size+1) z.heap.objs.size 0 .none:=by have:=aU (z.heap.push {cls:=.type "tuple_iterator",data:=.fields #[.ref p,.int 0 0]}) (o:={cls:=.type "enumerate",data:=.fields #[.none,.bool false,.ref z.heap.objs.size,rawInt 0,.none,.none]}) rfl;rw[hz]at this;exact this
 exact{⟨_,he,rfl⟩,q _ he {_,ao _ (aU _ 9),9,9} λb o x=>ao _ (ao _ x)}
variable{X:Cx}{pins:Aaa}{Z:St}{H:Hp}{s:Shared}{h':Heap}
def Inv.aaD(I:Inv X pins Z H s)(k:∀b o,b≠e->b≠j->s.heap.get? b=some o->h'.get? b=some o)(fe:oI X pins H e)(fj:oI X pins H j)
  (hp:s.heap.objs.size<=p) (ht:IsTup h' p us.toArray/\∃o,h'.get? p=some o/\o.dict=none) (r:Vals xs us) (hz:xs.length<=sizeLine):Inv X pins Z (upd H p 672) {s with heap:=h',toks:=t'}:=by
 have hn:=I.bQ.fresh hp;have fp:=I.uD hp hn;have nH:∀b u,H b=some u->b≠e/\b≠j/\b≠p:=λb u g=>{(λz=>by rw[z,fe.1]at g;cases g),(λz=>by rw[z,fj.1]at g;cases g),λz=>by rw[z,hn]at g;cases g};refine I.step (ch:=[e,j,p]) 694 (λb o _ _ hc g _=>k b o 707 707 g) (λb o _ _ hc g _=>{o.slots,k b o 707 707 g})
  (λb o hc g n=>by rw[aL λz=>hc (by simp[z])];exact n) (λb o hc g=>{o,k b o 707 707 g})
  (λb ys g=>by rw[aL (nH b _ g).2.2];exact g) (λb o u g=>by rw[aL (nH b _ g).2.2];exact g) (λb ps g=>{#[],by rw[aL (nH b _ g).2.2,g];simp}) (λm hm=>?_) (λb u g=>?_) I.bare
 ·have jf:b=e\/b=j\/b=p:=by simpa using hb
  rcases jf with rfl|rfl|rfl
  ·exact{fe.2.2.2.1,fe.2.1,fe.2.2.2.2.1,fe.2.2.2.2.2}
  ·exact{fj.2.2.2.1,fj.2.1,fj.2.2.2.2.1,fj.2.2.2.2.2}
  ·exact{fp.2.2.2.1,fp.2.1,fp.2.2.2.2.1,fp.2.2.2.2.2}
 ·obtain⟨o,es,ep,ho,r'⟩:=hm;exact{o,es,ep,k _ o (cM fe.2.1) (cM fj.2.1) ho,r'}
 ·by_cases hb:b=p
  ·subst hb;rw[av]at g;cases g;exact⟨hz,us,r,ht⟩
  ·rw[aL hb]at g;refine(I.bQ b u g).qT (λc v hc q=>?_) (λc q=>?_) λc ys q=>?_
   ·rcases hc with z|z
    ·rw[z];rw[z]at q;exact k b v (nH b _ g).1 (nH b _ g).2.1 q
    ·exact k c v (nH c _ z).1 (nH c _ z).2.1 q
   ·rw[aL (nH c _ q).2.2];exact q
   ·rw[aL (nH c _ q).2.2];exact q
def JR{D:Addr->Prop}{E:Aac}{e j:Addr}{fp:Aah}{n i:Nat}{Pv:Nat->Value->Prop}{St':Nat->Heap->Prop}{old:Value}{elts:List Expr}{kk:Nat}{ps:Pos}{y:V}
  (W:Draws X.prog X.w X.A.in1 j fp n Pv St') (he:IsEnum s.heap e j i old) (st:St' i s.heap) (hi:i<n) (gJ:e≠j) (hef:e∉fp) (I:Inv X pins Z H s) (fe:oI X pins H e) (fj:oI X pins H j) (hP:∀u,Pv i u->RelV y u):
  wpAny 56 X.A (pyNext (.ref e)) (λr s1=>∃u,r=some u/\
   wpAny 56 X.A (letOwnedTupleGo (.Tuple elts kk ps) (.ref e) u) (λ_ s2=>∃p,u=.ref p/\H p=none/\Inv X pins Z (upd H p (.tup [.int i,y])) s2/\(∃afV,IsEnum s2.heap e j ((i:Int)+1) afV)/\St' (i+1) s2.heap/\e≠p/\j≠p) E s1) E s:=by
 refine wpAny_pyNext_enum_itemD W he st hi gJ hef λx h1 tk hx ho YC hT hsz hk=>?_;refine{_,9,wpAny_letOwnedTupleGo_enum ho λh2 Ew kE=>?_};have JG:=aY he;have lP:j<s.heap.objs.size:=by obtain⟨o,z⟩:=W.live _ _ st;exact aY z
 have Rm:=kE;exact{s.heap.objs.size,9,683,I.aaD (λb o n1 n2 g=>Rm.extBut b o n1 (hk b o n1 n2 g)) fe fj (aw _) ({{_,Rm.extBut _ _ (cu JG) hT,9,_,9},_,Rm.extBut _ _ (cu JG) hT,9}) (.cons ⟨tk,rfl⟩ (.cons (hP x hx) .nil)) 96,⟨_,Ew⟩,W.frame _ _ _ YC λb hb o g=>Rm.extBut b o (λz=>hef (z▸hb)) g,aX JG,aX lP}
end
def Ite(K:Frag)(a:Addr):It:=
 {λi H=>∃xs x,bf K H a xs/\xs[i]?=some x,λi H x H'=>∃p y,x=.ref p/\H p=none/\H'=upd H p (.tup [.int i,y])/\∀xs,bf K H a xs->xs[i]?=some y,λi H=>∃xs,bf K H a xs/\xs.length=i}
def IH(K:Frag)(a:Addr):It:=
 {λi H=>∃xs x,aZ K H a xs/\xs[i]?=some x,λi H x H'=>∃p y,x=.ref p/\H p=none/\H'=upd H p (.tup [.int i,y])/\∀xs,aZ K H a xs->xs[i]?=some y,λi H=>∃xs,aZ K H a xs/\xs.length=i}
def CD{h:Heap}(e:h.get? a=some o)(e':h.get? b=some o')(n:o.cls≠o'.cls):a≠b:=λz=>by rw[z,e']at e;cases e;exact n rfl
def Sm{K:Frag}(a e j:Addr):Turn P w K (.Tuple elts kk ps) (Ite K a) [e,j] e (λi h=>(∃old,IsEnum h e j i old)/\h.IsListIter j a i/\e≠j) where
 mem:=by simp
 obj:=λi h st b hb=>by
  obtain⟨⟨old,he⟩,⟨o,g,c,d⟩,_⟩:=st;rcases(by simpa using hb)with rfl|rfl
  ·exact{_,he,λv z=>by cases z}
  ·exact{o,g,λv z=>by rw[d]at z;cases z}
 keep:=λi h h' st k=>by obtain⟨⟨old,he⟩,⟨o,g,r⟩,n⟩:=st;exact{{old,k e 59 _ he},{o,k j 59 o g,r},n}
 item:=by
  intro X hP hw hK hc i pins s Z H E I hf st hg;subst hP hw hK;obtain⟨xs,x,hq,hx⟩:=hg;obtain⟨ba,rv,pl,hz⟩:=I.list hq;obtain⟨⟨old,he⟩,hj,gJ⟩:=st;have hl:=rv.length;have hil:=(au.mp hx).1;obtain⟨o0,g0,c0,_⟩:=id pl.isList;obtain⟨o1,g1,c1,_⟩:=id hj;have W:=Draws.list (prog:=X.prog) (w:=X.w) (show X.A.in1.handled=none from I.ok.hd hc) j a (CD g0 g1 (by rw[c0,c1];decide)) ba.toArray;refine gB (JR (D:=λ_=>True) (y:=x) W he {hj,pl.isList} (by rw[aR];lia) gJ (by simp[gJ,(CD g0 he (by rw[c0];show Value.type "list"≠Value.type "enumerate";decide)).symm]) I (hf e 59) (hf j 59) λu hu=>?_) λr s1 ⟨u,er,h1⟩=>{u,er,gB h1 λ_ s2 ⟨p,eu,hp,I2,Ew,By,n1,n2⟩=>?_}
  ·obtain⟨u',oq,ru⟩:=rv.get hx;have zd:ba[i]?=some u:=by simpa using hu
   rw[zd]at oq;cases oq;exact ru
  ·subst eu;refine{676,_,I2,9,{p,x,9,hp,9,λys hy=>by rw[I.Mt hy hq];exact hx},{Ew,By.1,gJ},694};rcases(by simpa using hb)with rfl|rfl
   ·rw[aL n1];exact(hf b 59).1
   ·rw[aL n2];exact(hf b 59).1
 done:=by intro X hP hw hK hc i pins s Z H E I hf st hg;subst hP hw hK;obtain⟨xs,hq,hx⟩:=hg;obtain⟨ba,rv,pl,hz⟩:=I.list hq;obtain⟨⟨old,he⟩,hj,gJ⟩:=st;have hl:=rv.length;obtain⟨f0,f1,f2,f3,f4,f5⟩:=hf j 59;exact wpAny_pyNext_enum_end (I.ok.hd hc) he hj pl.isList (by simp;lia) λh' eb=>{9,I.turned (λb o hb g=>eb b o hb g) f0 f1 f3 f4 f5}
 self:=λ_ _ _ _ _ st h=>by obtain⟨⟨old,he⟩,_⟩:=st;exact pG he h
def Qu{P:Program}{w:World}{K:Frag}{elts:List Expr}{kk:Nat}{ps:Pos}(a e j:Addr):Turn P w K (.Tuple elts kk ps) (IH K a) [e,j] e (λi h=>(∃old,IsEnum h e j i old)/\h.IsTupleIter j a i/\e≠j) where
 mem:=by simp
 obj:=λi h st b hb=>by
  obtain⟨⟨old,he⟩,⟨o,g,c,d⟩,_⟩:=st;have jf:b=e\/b=j:=by simpa using hb
  rcases jf with rfl|rfl
  ·exact{_,he,λv z=>by cases z}
  ·exact{o,g,λv z=>by rw[d]at z;cases z}
 keep:=λi h h' st k=>by obtain⟨⟨old,he⟩,⟨o,g,r⟩,n⟩:=st;exact{{old,k e 59 _ he},{o,k j 59 o g,r},n}
 item:=by
  intro X hP hw hK hc i pins s Z H E I hf st hg;subst hP hw hK;obtain⟨xs,x,hq,hx⟩:=hg;obtain⟨ba,rv,pl,hz⟩:=I.tuple hq;have pt:s.heap.IsTuple a ba.toArray:=pl;obtain⟨⟨old,he⟩,hj,gJ⟩:=st;have hl:=rv.length;have hil:i<xs.length:=(au.mp hx).1;obtain⟨o0,g0,c0,_⟩:=id pt;obtain⟨o1,g1,c1,_⟩:=id hj;have nae:a≠e:=CD g0 he (by rw[c0];show Value.type "tuple"≠Value.type "enumerate";decide);have naj:a≠j:=CD g0 g1 (by rw[c0,c1];decide);have W:=JS (P:=X.prog) (w:=X.w) (A:=X.A.in1) (show X.A.in1.handled=none from I.ok.hd hc) j a naj ba.toArray;refine gB (JR (D:=λ_=>True) (y:=x) W he ⟨hj,pt⟩ (by rw[aR];lia) gJ (by simp[gJ,nae.symm]) I (hf e 59) (hf j 59) λu hu=>?_) λr s1 ⟨u,er,h1⟩=>{u,er,gB h1 λ_ s2 ⟨p,eu,hp,I2,Ew,By,n1,n2⟩=>?_}
  ·obtain⟨u',oq,ru⟩:=rv.get hx;have zd:ba[i]?=some u:=by simpa using hu
   rw[zd]at oq;cases oq;exact ru
  ·subst eu;refine{676,_,I2,9,{p,x,9,hp,9,λys hy=>by rw[I.tQ hy hq];exact hx},{Ew,By.1,gJ},694};have jf:b=e\/b=j:=by simpa using hb
   rcases jf with rfl|rfl
   ·rw[aL n1];exact(hf b 59).1
   ·rw[aL n2];exact(hf b 59).1
 done:=by
  intro X hP hw hK hc i pins s Z H E I hf st hg;subst hP hw hK;obtain⟨xs,hq,hx⟩:=hg;obtain⟨ba,rv,pl,hz⟩:=I.tuple hq;have pt:s.heap.IsTuple a ba.toArray:=pl;obtain⟨⟨old,he⟩,hj,gJ⟩:=st;have hl:=rv.length;obtain⟨o0,g0,c0,_⟩:=id pt;obtain⟨o1,g1,c1,_⟩:=id hj;have naj:a≠j:=CD g0 g1 (by rw[c0,c1];decide);have ei:i=ba.toArray.size:=by rw[aR];lia
  subst ei;obtain⟨f0,f1,f2,f3,f4,f5⟩:=hf j 59;have W:=JS (P:=X.prog) (w:=X.w) (A:=X.A.in1) (show X.A.in1.handled=none from I.ok.hd hc) j a naj ba.toArray;exact wpAny_pyNext_enum_endD W he ⟨hj,pt⟩ λh' eb=>{9,I.turned (t':=s.toks) (λb o hb g=>eb b o hb g) f0 f1 f3 f4 f5}
 self:=λ_ _ _ _ _ st h=>by obtain⟨⟨old,he⟩,_⟩:=st;exact pG he h
section
variable{X:Cx}{elts:List Expr}{kk:Nat}{ps:Pos}
inductive adF(K:Frag)(R:It->Hp->Prop)(vs:Aam)(H1:Hp):Prop
 |mk a (_:vs=[.ref a]) (_:(∃xs,bf K H1 a xs)) (_:R (Ite K a) H1)
def ae7(K:Frag)(ta:TA):TI:=λZ H R=>ta Z H λvs H1=>adF K R vs H1
inductive abB(K:Frag)(R:It->Hp->Prop)(vs:Aam)(H1:Hp):Prop
 |mk a (_:vs=[.ref a]) (_:(∃xs,aZ K H1 a xs)) (_:R (IH K a) H1)
def adE(K:Frag)(ta:TA):TI:=λZ H R=>ta Z H λvs H1=>abB K R vs H1
def P8(I:Inv X pins Z H s):∀b∈[s.heap.objs.size+1,s.heap.objs.size],oI X pins H b:=λb hb=>by
 rcases(by simpa using hb)with rfl|rfl
 ·exact I.uD (fG _) (I.bQ.fresh (fG _))
 ·exact I.uD (aw _) 683
def aa4(hg:Gl X "enumerate")(hm:X.mg "enumerate"=none)(ha:PA X [a] ta)(hs:starEach [a] X.env=[(false,eval a X.env)]:=by rfl):PI X (.Tuple elts kk ps) (.Call (.Name "enumerate" p) [a] [] pos) (ae7 X.K ta):=by intro pins s Z H R I h;refine Hg (rp I hg hm boot_enumerate (eO 703 hs 9));obtain⟨l,e,⟨xs,hq⟩,q⟩:=q1;subst e;obtain⟨u,rfl,ru⟩:=jI r1;cases ru;obtain⟨ba,rv,pl,hz⟩:=I1.list hq;refine call_enumerate_list pl.isList λh' he hj _ hk=>?_;refine pG he ?_;exact{_,_,_,_,H1,9,(I1.kept (t':=s1.toks) hk),Sm l _ s1.heap.objs.size,{⟨_,he⟩,hj,qr _},P8 I1,q}
def LQ{a:Expr}{ta:TA}{p pos:Pos}(hg:Gl X "enumerate")(hm:X.mg "enumerate"=none)(ha:PA X [a] ta)(hs:starEach [a] X.env=[(false,eval a X.env)]:=by rfl):PI X (.Tuple elts kk ps) (.Call (.Name "enumerate" p) [a] [] pos) (adE X.K ta):=by intro pins s Z H R I h;refine Hg (rp I hg hm boot_enumerate (eO 703 hs 9));obtain⟨l,e,⟨xs,hq⟩,q⟩:=q1;subst e;obtain⟨u,rfl,ru⟩:=jI r1;cases ru;obtain⟨ba,rv,pl,hz⟩:=I1.tuple hq;refine R1 (show s1.heap.IsTuple l ba.toArray from pl) λh' he hj hk=>?_;have I2:Inv X pins Z H1 {s1 with heap:=h'}:=I1.kept (t':=s1.toks) hk;refine pG he ?_;exact{_,_,_,_,H1,9,I2,Qu l _ s1.heap.objs.size,{⟨_,he⟩,hj,qr _},P8 I1,q}
def XG{K:Frag}{g:TG}{tb:TS}{D:Ends}(Pv:Nat->St->Hp->Prop)(h0:Pv 0 Z H)(hl:∀i Z H,i<=xs.length->Pv i Z H->bf K H a xs)
  (hs:∀i x p Z H,xs[i]?=some x->Pv i Z H->H p=none->g 676 Z (upd H p (.tup [.int i,x])) λσ2 H2=>tb {D with nx:=Pv (i+1),ct:=Pv (i+1),bk:=D.nx} σ2 H2) (hd:∀Z H,Pv xs.length Z H->D.nx Z H):vp (Ite K a) g tb D Z H:=by
 refine Cv Pv h0 (λi Z H hi p=>?_) λZ H p=>{{xs,hl _ Z H (aw _) p,9},hd Z H p};have q:=hl i Z H (bB hi) p;refine{{xs,_,q,ay hi},?_};rintro x H' ⟨r,z,rfl,hr,rfl,y⟩;exact hs i z r Z H (y xs q) p hr
def Vj{K:Frag}{a:Addr}{xs:Aam}{g:TG}{tb:TS}{D:Ends}{Z:St}{H:Hp}(Pv:Nat->St->Hp->Prop)(h0:Pv 0 Z H)(hl:∀i Z H,i<=xs.length->Pv i Z H->aZ K H a xs)
  (hs:∀i x p Z H,xs[i]?=some x->Pv i Z H->H p=none->g 676 Z (upd H p (.tup [.int i,x])) λσ2 H2=>tb {D with nx:=Pv (i+1),ct:=Pv (i+1),bk:=D.nx} σ2 H2) (hd:∀Z H,Pv xs.length Z H->D.nx Z H):
  ∃W:Nat->Nat->St->Hp->Prop,(∃m,W 0 m Z H)/\∀i m Z H,W i m Z H->
   ((IH K a).stop i H/\D.nx Z H)\/((IH K a).go i H/\∃N:St->Hp->Prop,(∀σ' H',N σ' H'->∃m',m'<m/\W (i+1) m' σ' H')/\∀x H',(IH K a).D4 i H x H'->g x Z H' λσ2 H2=>tb {D with nx:=N,ct:=N,bk:=D.nx} σ2 H2):=by
 refine{λi m Z H=>m=xs.length -i/\i<=xs.length/\Pv i Z H,{xs.length,59,aP _,h0},?_};rintro i m Z H ⟨rfl,hi,p⟩;have q:=hl i Z H hi p;by_cases bO:i<xs.length
 ·refine .inr {{xs,xs[i],q,by simp[bO]},Pv (i+1),λσ' H' p'=>{xs.length -(i+1),8,9,bO,p'},λx H' y=>?_};obtain⟨r,z,rfl,hr,rfl,y⟩:=y;exact hs i z r Z H (y xs q) p hr
 ·have e:i=xs.length:=by lia
  subst e;exact .inl {⟨xs,q,rfl⟩,hd Z H p}
def FQ(j:Nat)(t:TE):TS:=λD Z H=>t Z H λv H1=>D.nx (Z.set j (some v)) H1
variable{K:Frag}
def Wl(h:X.K=K:=by rfl):Qi X (acI K):=h▸yN
variable{prog:Program}{w:World}{A:Around}{E:Aac}
def GL:typeLookup (.type "list") "__getattr__"=pure none:=by rw[jJ,gE];kernel_rfl
def NC:typeLookup (.type "list") "keys"=pure none:=by rw[jJ,gE];kernel_rfl
def abL{sl}{os:OsState}(hx:h.get? a=some {cls:=.type "list",dict:=none,data:=.seq ba n,slots:=sl})(hA:A.handled=none)
  (k:∀h' tk e,Heap.NewAttrErr h h' e 659 "keys"->E (.ref e) ⟨h',g,d,tk,os⟩):
  wpAny 58 A (Builtin.«object.__getattribute__» {[.ref a,.str "keys" u],[]}) Q E ⟨h,g,d,t,os⟩:=by
 have f4:=NC
 repeat (any_goals (first|(assumption)|(wp_step)))
 exact zE hA k (attrMsg_fits 53 (by size_fits))
def abO{sl}{os:OsState}(hx:h.get? a=some {cls:=.type "list",dict:=none,data:=.seq ba n,slots:=sl})(hA:A.handled=none)
  (k:∀h' tk e,Heap.NewAttrErr h h' e 659 "keys"->R (.error (.ref e)) ⟨h',g,d,tk,os⟩):
  codeAny 58 A (.call (.builtin "list.__getattribute__") {[.ref a,.str "keys" u],[]}) R ⟨h,g,d,t,os⟩:=
 rF F.slot_list_getattribute.plain F.entry_list_ga (F.slot_list_getattribute.check _ _ _ _ _ _ _ _ (show(⟨h,g,d,t,os⟩:Shared).TypeIs 659 "list"from⟨_,hx,rfl⟩) (F.args_list_getattribute_2 _ _) (abL hx hA k))
def afn{sl}{os:OsState}(hx:h.get? a=some {cls:=.type "list",dict:=none,data:=.seq ba n,slots:=sl})(hA:A.handled=none)
  (k:∀h' tk e,Heap.NewAttrErr h h' e 659 "keys"->E (.ref e) ⟨h',g,d,tk,os⟩):
  wpAny 58 A (getAttrBy 659 (.str "keys" u) false) Q E ⟨h,g,d,t,os⟩:=by
 have g2:=F.slot_list_getattribute.lookup;have g3:=F.slot_list_getattribute.bind 659;have f5:=GL;have f1:=nU
 repeat (any_goals (first|(assumption)|(wp_step)))
 refine abO hx hA λh' tk e ne=>?_;obtain⟨t',u',he⟩:=ne.there
 repeat (any_goals (first|(assumption)|(wp_step)))
 exact k _ _ _ ne
def abP{sl}{os:OsState}(hx:h.get? a=some {cls:=.type "list",dict:=none,data:=.seq ba n,slots:=sl})(hA:A.handled=none)
  (k:∀h' tk e,Heap.NewAttrErr h h' e 659 "keys"->Q none ⟨h',g,d,tk,os⟩):
  wpAny 58 A (getAttr? 659 "keys") Q E ⟨h,g,d,t,os⟩:=by
 have f1:=nU
 repeat (any_goals (first|assumption|(with_reducible refine afn hx hA λh' tk e ne=>?_)|wp_step))
 obtain⟨t',u',he⟩:=ne.there
 repeat (any_goals (first|(assumption)|(wp_step)))
 exact k _ _ _ ne
theorem Paired.at':∀{l₁:List α}{aab:List β}{i:Nat}{x:α},Paired F l₁ aab->l₁[i]?=some x->∃y,aab[i]?=some y/\F x y
 |_,_,_,_,.nil,e=>by simp at e
 |_,_,0,_,.cons r _,e=>by simp at e;subst e;exact⟨_,rfl,r⟩
 |_,_,i+1,x,.cons _ t,e=>by obtain⟨y,h1,h2⟩:=Paired.at' t (by simpa using e);exact{y,by simpa using h1,h2}
def sU:entryFor table "dict.update.loop"=some Builtin.«dict.update.loop»:=entryFor_of_tree (by kernel_rfl)
def NZ(prog:Program)(w:World)(h0:Heap)(x:Value)(kv:Key×Value):Prop:=∃t o n ku,x=.ref t/\h0.get? t=some o/\o.cls=.type "tuple"/\o.data=.seq #[ku,kv.2] n/\(bT prog w).is kv.1 ku=true
def abM(hA:A.handled=none)(m6:h0.get? d=none)(hi0:h0.get? it=none)(hdi:d≠it)
  (hl:h0.IsList l items.toArray) (hp:Paired (NZ prog w h0) items pairs) (hsz:pairs.length<=sizeLine) (g:Array GenState) (dr:Drawn) (os:OsState)
  (k:∀h' tk,(∀b o,h0.get? b=some o->h'.get? b=some o)->h'.DictOf (bT prog w) d (merged [] pairs)->R (.ok (.ret .none)) ⟨h',g,dr,tk,os⟩):
  ∀(m i:Nat)(h:Heap)(tk:Nat),items.length -i=m->i<=items.length->(∀b o,h0.get? b=some o->h.get? b=some o)->h.IsListIter it l i->h.DictOf (bT prog w) d (merged [] (pairs.take i))->
   codeAny 58 A (.builtin "dict.update.loop" {[.ref d,.ref it,rawInt i,.none],[]}) R ⟨h,g,dr,tk,os⟩:=by
 intro m
 induction m with
 |zero=>
  intro i h tk em hi kp hit hd;have ei:i=items.length:=by lia
  refine fq sU ?_;obtain⟨ol,Gw,hlc,nl,hld⟩:=hl;refine ah (yG (show(A.under _).handled=none from hA) hit {ol,kp _ _ Gw,hlc,nl,hld} (by rw[ei];simp) λh' hs=>?_);refine ah (aq 666);rw[ei,(bc hp),aS]at hd;exact k h' _ (λb o hb=>hs b o (λe=>by rw[e,hi0]at hb;cases hb) (kp b o hb)) (hd.extBut hs hdi)
 |succ m ih=>
  intro i h tk em hi kp hit hd;have bO:i<items.length:=by lia
  obtain⟨x,hx⟩:∃x,items[i]?=some x:={_,ay bO};obtain⟨kv,nB,t,o,n,ku,rfl,hto,htc,htd,US⟩:=Paired.at' hp hx;refine fq sU ?_;obtain⟨ol,Gw,hlc,nl,hld⟩:=hl;refine ah (xI hit {ol,kp _ _ Gw,hlc,nl,hld} (by simpa using hx) λh1 ag0 Er=>?_);have kp1:=λb o hb=>(Er.2 b (λe=>by rw[e,hi0]at hb;cases hb)).trans (kp b o hb);refine ah (cn (ah (yF ?_)));refine ah (hV {o,kp1 _ _ hto,htc} ?_);refine ah (dj (kp1 _ _ hto) htd 666);have lm:(merged [] (pairs.take i)).length<=sizeLine:=by have e1:=qm [] (pairs.take i);rw[a9]at e1;simp only[jR]at e1;lia
  refine cn (sd US (hd.sameBut Er hdi) λh2 hd2 kE=>?_);refine aq {jF _ 53,?_};have Rt:h2.IsListIter it l (i+1):=by obtain⟨oi,JD,r⟩:=ag0;exact{oi,(kE.2 it (cM hdi)).trans JD,r}
  exact ih (i+1) h2 _ ∅ bO (λb o hb=>(kE.2 b (λe=>by rw[e,m6]at hb;cases hb)).trans (kp1 b o hb)) Rt (by rw[vV [] pairs i kv nB];exact hd2)
def abN(hA:A.handled=none)(pl:PlainL s.heap p items.toArray)(hp:Paired (NZ prog w s.heap) items pairs)(hsz:pairs.length<=sizeLine)
  (k:∀h' tk,(∀b o,s.heap.get? b=some o->h'.get? b=some o)->h'.DictOf (bT prog w) s.heap.objs.size (merged [] pairs)->Q 352 {s with heap:=h',toks:=tk}):
  wpAny 58 A (call (.type "dict") [.ref p]) Q E s:=by
 refine callType_codes (Q₁:=λv1 z1=>v1=.ref s.heap.objs.size/\z1={s with heap:=s.heap.push {cls:=.type "dict",data:=.dict #[]}}) F.kt_called_dict (AO _) D0 (kt_code_dict_new _ ⟨rfl,rfl⟩) ?_;rintro v1 z1 ⟨rfl,rfl⟩;obtain⟨mZ,g,dr,tk,os⟩:=s;obtain⟨⟨oc,od,oda,A4⟩,n,ho,hc,hdn,hdd⟩:=pl;subst hc hdn hdd;have Ak:(mZ.push {cls:=.type "dict",data:=.dict #[]}).DictOf (bT prog w) mZ.objs.size []:=xH mZ;have ze:=ao {cls:=.type "dict",data:=.dict #[]} ho;refine{Ak.typeIs,C9 _ _,?_};refine ah ?_;refine ah (jH Ak.typeIs 666);show wpAny 58 _ (Builtin.Dict.updateFrom "dict.__init__" mZ.objs.size 676 [] .none) _ _ _;refine ah (hV ⟨_,ze,rfl⟩ ?_);refine ah (abP ze hA λh2 tk2 e ne=>?_);refine ah (j8 ?_);refine ah (lQ {_,(ne.keeps _ _ ze),9,n,9} ?_);have kp:∀b o,mZ.get? b=some o->(h2.push {cls:=.type "list_iterator",data:=.fields #[.ref p,.int 0 0]}).get? b=some o:=λb o hb=>ao _ (ne.keeps _ _ (ao _ hb));have hd2:h2.DictOf (bT prog w) mZ.objs.size []:=by obtain⟨o',es,ep,h',r⟩:=Ak;exact{o',es,ep,ne.keeps _ _ h',r}
 have ld:mZ.objs.size<h2.objs.size:=by obtain⟨o',es,ep,h',r⟩:=hd2;exact aY h'
 refine aq {jF _ 53,?_};refine abM (show A.in1.handled=none from hA) (mS (aw _)) (mS (bB ld)) (aX ld) ⟨_,ho,rfl,n,rfl⟩ hp hsz g dr os (λh' K6 Ju pD=>{9,k h' K6 Ju pD}) items.length 0 _ _ rfl (aP _) kp ?_ (hd2.push _);exact{_,682,9,9}
end
section
variable{X:Cx}
inductive acP(K:Frag)(xs:Aam)(H:Hp)(Q:VK):Prop
 |mk p ys kvs (_:xs=[.ref p]) (_:bf K H p ys) (_:Paired (λ(y:V)(kv:Key×V)=>∃t,y=.ref t/\H t=some (.tup [kV kv.1,kv.2])) ys kvs) (_:∀d,H d=none->Q (.ref d) (upd H d (.dK (ky [] kvs))))
theorem LY(ok:j5 P w H h):∀{ys:Aam}{us:Aae}{kvs:List (Key×V)},Vals ys us->Paired (λ(y:V)(kv:Key×V)=>∃t,y=.ref t/\H t=some (.tup [kV kv.1,kv.2])) ys kvs->∃ps,Paired (NZ P w h) us ps/\KV kvs ps
 |_,_,_,.nil,.nil=>{[],.nil,.nil}
 |_,_,_,.cons (b:=u) r t,.cons (b:=kv) ⟨a,ea,ha⟩ q=>by
  obtain⟨ps,h1,h2⟩:=LY ok t q;subst ea;cases(show u=Value.ref a from r);obtain⟨_,ba,ri,⟨o,e1,e2,n,e3⟩,_⟩:=(show dY P w H h a (.tup [kV kv.1,kv.2])from ok a _ ha)
  match ba,ri with
  |[ku,vu],.cons rk (.cons rv .nil)=>exact{(kv.1,vu)::ps,.cons {a,o,n,ku,9,e1,e2,e3,qd rk} h1,.cons ⟨rfl,rv⟩ h2}
def GY(hA:X.A.handled=none):gZ X (.type "dict") (acP X.K):=by
 intro pins s Z H xs us Q I r h;obtain⟨p,ys,kvs,rfl,hq,hk,q⟩:=h;obtain⟨u,rfl,rx⟩:=jI r;cases rx;obtain⟨ba,r',pl,hz⟩:=I.list hq;obtain⟨ps,h1,h2⟩:=LY I.bQ r' hk;have l1:=bc h1;have l2:=r'.length;refine abN hA pl h1 ∅ λh' tk kp hd=>?_;have rel:=KV.merge h2 .nil;have lz:(ky [] kvs).length<=sizeLine:=by have e1:=qm [] ps;rw[rel.length];simp only[jR]at e1;lia
 exact{352,_,I.laid kp (aw _) (wc lz (cZ.mpr (cM (aX I.big))) rel hd),9,q _ 683}
variable{prog:Program}{w:World}{A:Around}{s:Shared}{R:Result->Shared->Prop}
theorem R0(Iv:Nat->Shared->Prop)
  (turn:∀n z,Iv n z->wpAny 58 A (pyNext it) (λr z1=>match r with
   |none=>R (.ok .next) z1
   |some v=>wpAny 58 A (letOwnedTupleGo tg it v) (λ_ y2=>wpAny 58 A (assign tg env v) (λ_ z2=>
     wpAny 58 A (forIn ifs true λc r=>if r=true then do let ok<-isTrue c env (eval c env);pure (ForInStep.yield ok)else pure (ForInStep.yield r)) (λok z3=>
      if ok=true then wpAny 58 A (eval elt env) (λx z4=>
       wpAny 58 A (call (.builtin "list.append") [acc,x]) (λ_ z5=>∃m,m<n/\Iv m z5) (notedBy 58 A env λe z'=>R (.error e) z') z4) (notedBy 58 A env λe z'=>R (.error e) z') z3
      else∃m,m<n/\Iv m z3) (notedBy 58 A env λe z'=>R (.error e) z') z2) (notedBy 58 A env λe z'=>R (.error e) z') y2) (notedBy 58 A env λe z'=>R (.error e) z') z1) (notedBy 58 A env λe z'=>R (.error e) z') z)
  (n:Nat) (h:Iv n s):codeAny 58 A (.compLoop 670 0 it acc env) R s:=by
 refine codeAny_loop rfl Iv (λn z hI=>?_) n h;refine wpAny_noted ?_;refine ah (AV (ah (dC (turn n z hI) (λr z1 q1=>?_) λ_ _ q=>q)));cases r with
 |none=>exact aq q1
 |some v=>
  refine ah (dC q1 (λ_ z2 q3=>ah (dC q3 (λ_ z3 q4=>ah (dC q4 (λok z4 q5=>?_) λ_ _ q=>q)) λ_ _ q=>q)) λ_ _ q=>q);cases ok with
  |false=>exact aq ⟨rfl,q5⟩
  |true=>exact ah (ah (dC q5 (λx z5 q6=>ah (dC q6 (λ_ z6 q7=>aq (aq ⟨rfl,q7⟩)) λ_ _ q=>q)) λ_ _ q=>q))
end
structure tw(X:Cx)(scope:Scope)(x:Str)(more fs:Aaf)(fr:List Nat):Prop where
 one:pZ X scope x fs fr
 qF:(x::more++fs).Nodup
def tR(wi:TI)(k:Nat)(fr:List Nat)(g:TG)(tt:TT)(te:TE):TE:=λZ H Q=>wi Z H λJ H1=>∃W:Nat->Nat->Aam->Hp->Prop,(∃m,W 0 m [] H1)/\∀i m ys H2,W i m ys H2->
 (J.stop i H2/\ys.length<=sizeLine/\∀l,H2 l=none->Q 720 (upd H2 l 679))\/
 (J.go i H2/\ys.length<sizeLine/\∀v H3,J.D4 i H2 v H3->∀own:St,own.length=k->g v (own++slotsOf fr Z) H3 λσ4 H4=>∃L4,σ4=L4++slotsOf fr Z/\L4.length=k/\tt σ4 H4 λb H5=>
  if b=true then te σ4 H5 (λy H6=>∃m',m'<m/\W (i+1) m' (ys++[y]) H6)else∃m',m'<m/\W (i+1) m' ys H5)
section
variable{X:Cx}
def Mb(N2:Aaf)(h:(dX X N1 scope C s H ex).Ok):(dX X N2 scope C s H ex).Ok:=
 {h.mod,h.kind,h.glob,h.blt,h.above,h.inj,h.has,h.Qg,h.hd,h.frames,h.Sw,h.Nv,h.bs,h.Be,h.E5,h.Al,h.sS,h.JN}
def VF(S:tw X scope x more fs fr)(I3:Inv X pins Z H s)
  (ok:(dX X (x::fs) scope s.heap.objs.size s H ex).Ok) (hn:h4.Ns s.heap.objs.size m) (old:∀b o,s.heap.get? b=some o->h4.get? b=some o):
  Inv (dX X (x::more++fs) scope s.heap.objs.size s H ex) [] (List.replicate (more.length+1) none++slotsOf fr Z) H {s with heap:=h4,toks:=t}:=by
 have J:=X8 (t:=t) S.one I3 ok hn old;refine{Mb _ J.ok,J.os,J.bare,J.base,?_,J.cell,J.free,J.nE,J.pin,J.bQ,?_}
 ·obtain⟨m1,MV,hl⟩:=J.loc;refine{m1,MV,λi y v e1 e2 e3=>?_};by_cases hi:i<more.length+1
  ·have e2:=e2;rw[kg (gF▸hi),w6,aM hi]at e2;cases e2
  ·obtain⟨j,rfl⟩:∃j,i=more.length+1+j:={i -(more.length+1),8};rw[ik (by rw[gF];lia),gF,w4]at e2;rw[ik (by rw[bF];lia),bF,w4]at e1;exact hl (j+1) y v 730 (by simpa using e2) e3
 ·show(List.replicate (more.length+1) none++slotsOf fr Z).length=((x::more)++fs).length;simp[slotsOf,S.one.len];lia
def JY{elt iter tg:Expr}{x:Str}{more:Aaf}{g:TG}{ifs:List Expr}{scope:Scope}{pos:Pos}{wi:TI}{fs:Aaf}{fr:List Nat}{tt:TT}{te:TE}{use:Option (Value->Sem Unit)}{R:Aac}{pins:Aaa}{s:Shared}{Z:St}{H:Hp}{Q:VK}{HH:Pos}(hc:X.calm=true)(ST:tw X scope x more fs fr)(hi:PI X tg iter wi)(hg:∀C s H ex,PG 646 tg g)
  (ht:∀C s H ex,CT 646 ifs tt) (he:∀C s H ex,PE 646 elt te) (hs:∀z,foldedSetIterable iter X.env z=pure z)
  (I:Inv X pins Z H s) (h:tR wi (more.length+1) fr g tt te Z H Q)
  (ag1:∀(D C:Addr)(s':Shared)(H':Hp)(ys:Aam)(vs:Aae)(k:Nat)(m:Aab),Inv X pins Z H' s'->D<C->X.aac.heap.objs.size<=D->X.env.locals<D->(∀y c,X.env.cells.lookup y=some c->c<D)->(∀p∈X.pn++pins,p.1<D)->
   s'.heap.get? D=some (lobj vs k)->H' D=none->H' C=none->s'.heap.Ns C m->Vals ys vs->ys.length<=sizeLine->(∀l,H' l=none->Q 720 (upd H' l 679))->compPost 56 X.A X.xe use R (.ref D) C (.ok .next) s'):
  wpAny 56 X.A (comprehension 670 scope X.env HH (newList []) false (eval iter X.env) use) R X.xe s:=by
 have S:=ST.one;refine vt (use:=use) rfl hs (xC λn hn=>I.ok.has n (.inl (S.free n hn).1)) S.kind S.names ?_;refine gB (hi pins s Z H _ I h) λv s1 h1=>gB h1 λZA s2 h2=>?_;obtain⟨it,fp,tn,J,H2,e,I2,T,By,f2,W,⟨m0,w0⟩,turn⟩:=h2;subst e;have bO:∀b∈fp,b<s2.heap.objs.size:=λb hb=>by obtain⟨o,e,_⟩:=T.obj 0 _ By b hb;exact aY e
 refine cP (wpAny_newFunctionEnv S.TN (by intro y hy;simp at hy) (λh4 Ie Xi=>?_) S.kind);dsimp only at Ie Xi⊢;generalize Nb:s2.heap.push {cls:=.type "list",dict:=none,data:=.seq ([]:Aae).toArray}=g3 at Ie Xi⊢;have hC:g3.objs.size=s2.heap.objs.size+1:=by rw[<-Nb,dk]
 have Aa:∀b o,s2.heap.get? b=some o->g3.get? b=some o:=λb o e=>Nb▸ao _ e;have I3:Inv X pins Z H2 {s2 with heap:=g3}:=I2.kept (t':=s2.toks) Aa;have Yj:g3.get? s2.heap.objs.size=some (lobj [] 0):=Nb▸aU _ rfl;have B2:∀b o,g3.get? b=some o->h4.get? b=some o:=λb o e=>Xi.extBut b o (aX (aY e)) (ao _ e);have Y6:=abV (s:={s2 with heap:=g3}) (D:=s2.heap.objs.size) (fp:=fp) S I2 I3 rfl hC bO f2;have ok:=Mb (x::more++fs) Y6;have I4:=VF (t:=s2.toks+([]:List (Str×Value)).length) ST I3 Y6 Ie B2;have EB:=ok.Nv s2.heap.objs.size aF;have Vu:=ok.Al s2.heap.objs.size aF;have Fd:∀{H':Hp}{vs:Aae}{k:Nat},(∀b∈fp,H' b=none)->∀b∈fp,oI 331 [(s2.heap.objs.size,lobj vs k)] H' b:=λ{H' vs k} hn b hb=>by
  have q:=ok.Nv b (aG _ hb);refine{hn b hb,q.1,ok.Al b (aG _ hb),.inl (aG _ hb),q.2,695};have e:p=(s2.heap.objs.size,lobj vs k):=by simpa using hp
  rw[e];exact cu (bO b hb)
 have start:Inv 331 [(s2.heap.objs.size,lobj [] 0)] (List.replicate (more.length+1) none++slotsOf fr Z) H2 {s2 with heap:=h4,toks:=s2.toks+([]:List (Str×Value)).length}:=
  I4.qC λp hp=>by
   have e:p=(s2.heap.objs.size,lobj [] 0):=by simpa using hp
   subst e;exact{B2 _ _ Yj,I2.bQ.fresh (aw _),EB.1,Vu,λv z=>by cases z}
 have Sv:tn 0 h4:=T.keep 0 _ _ By λb _ o e=>B2 b o (Aa b o e);have fin:∀{i:Nat}{σ0:St}{H':Hp}{ys:Aam}{vs:Aae}{k:Nat}{s':Shared},Inv 331 [(s2.heap.objs.size,lobj vs k)] (σ0++slotsOf fr Z) H' s'->Vals ys vs->ys.length<=sizeLine->
   (∀l,H' l=none->Q 720 (upd H' l 679))->compPost 56 X.A X.xe use R (.ref s2.heap.objs.size) g3.objs.size (.ok .next) s':=by
  intro i σ0 H' ys vs k s' J1 rv hz q;obtain⟨m,hn,_⟩:=id J1.loc;have below:∀y c,X.env.cells.lookup y=some c->c<s2.heap.objs.size:=λy c z=>by obtain⟨v,q⟩:=I2.cell y c z;exact q.lt
  have mX:∀p∈X.pn++pins,p.1<s2.heap.objs.size:=λp hp=>aY (I2.pin p hp).1;have I5:Inv X pins Z H' s':=I3.aah (ch:=s2.heap.objs.size::fp) J1.os J1.base J1.bQ J1.bare λb hb=>by
   rcases aN.mp hb with e|hb
   ·rw[e];exact{.inr I2.sz,cu I2.lt,λy c z=>aX (below y c z),λp hp=>aX (mX p hp)}
   ·exact{(f2 b hb).2.2.2.1,(f2 b hb).2.1,(f2 b hb).2.2.2.2.1,(f2 b hb).2.2.2.2.2}
  have qA:s2.heap.objs.size<g3.objs.size:=by(first|lia|omega)
  obtain⟨eD,nD,_⟩:=J1.pin (s2.heap.objs.size,lobj vs k) 59;exact ag1 _ _ s' H' ys vs k m I5 qA I2.sz I2.lt below mX eD nD J1.free hn rv hz q
 have loop:∀s4:Shared,s4={s2 with heap:=h4,toks:=s2.toks+([]:List (Str×Value)).length}->
   codeAny 56 X.A (.compLoop 670 0 (.ref it) (.ref s2.heap.objs.size) (compEnvC scope (mO scope X.env) g3.objs.size X.env))
    (compPost 56 X.A X.xe use R (.ref s2.heap.objs.size) g3.objs.size) s4:=by
  rintro s4 rfl;refine R0 (λn s'=>∃i σ0 H' ys vs k,σ0.length=more.length+1/\Inv 331 [(s2.heap.objs.size,lobj vs k)] (σ0++slotsOf fr Z) H' s'/\tn i s'.heap/\(∀b∈fp,H' b=none)/\Vals ys vs/\W i n ys H') ?_ m0
   {0,List.replicate (more.length+1) none,H2,[],[],0,gF,start,Sv,λb hb=>(f2 b hb).1,.nil,w0}
  rintro n s' ⟨i,σ0,H',ys,vs,k,h0,J1,st,Vh,rv,w1⟩;rcases turn i n ys H' w1 with⟨stop,hz,q⟩|⟨go,hz,step⟩
  ·refine gB (T.done 331 9 9 9 hc i _ s' _ H' _ J1 (Fd Vh) st stop) λr s5 agq=>?_;obtain⟨hr,J2⟩:=agq;subst hr;exact fin (i:=i) J2 rv hz q
  ·refine gB (T.item 331 9 9 9 hc i _ s' _ H' _ J1 (Fd Vh) st go) λr s5 agp=>?_;obtain⟨u,hr,h5⟩:=agp;subst hr;refine gB h5 λ_ s6 ago=>?_;obtain⟨v,H6,J6,r6,y6,Le,fr6⟩:=ago;have J6':=J6.pinned (fp:=fp) (Fd fr6) (T.obj _ _ Le);refine dC (hg _ _ _ _ _ s6 _ H6 v u _ J6' r6 (step v H6 y6 σ0 h0)) (λ_ s7 agn=>?_) (λ_ _ z=>z.elim);obtain⟨σ7,H7,J7,own,e7,l7,q7⟩:=agn;subst e7;have Tp:∀{σ8:St}{H8:Hp}{s8:Shared},Inv 331 ([(s2.heap.objs.size,lobj vs k)]++yS fp s6.heap) σ8 H8 s8->
     tn (i+1) s8.heap/\∀b∈fp,H8 b=none:=λ{σ8 H8 s8} J8=>by
    refine{T.keep _ _ _ Le λb hb o e=>(J8.pin (b,o) (bh _ (bh _ (oW hb e)))).1,694};obtain⟨o,e,d⟩:=T.obj _ _ Le b hb;exact(J8.pin (b,o) (bh _ (bh _ (oW hb e)))).2.1
   refine dC (ht _ _ _ _ _ s7 _ H7 _ J7 q7) (λok8 s8 agm=>?_) (λ_ _ z=>z.elim);obtain⟨H8,J8,q8⟩:=agm;cases ok8 with
   |false=>
    rw[aI bL]at q8;rw[aI bL];obtain⟨m',hm,w8⟩:=q8;obtain⟨t8,n8⟩:=Tp J8;exact{m',hm,i+1,own,H8,ys,vs,k,l7,J8.vw,t8,n8,rv,w8}
   |true=>
    rw[aM rfl]at q8;rw[aM rfl];refine dC (he _ _ _ _ _ s8 _ H8 _ J8 q8) (λy s9 agl=>?_) (λ_ _ z=>z.elim);obtain⟨yv,H9,J9,r9,m',hm,w9⟩:=agl;obtain⟨t9,n9⟩:=Tp J9;obtain⟨eD,nD,_⟩:=J9.pin (s2.heap.objs.size,lobj vs k) 59;have hl:=rv.length;refine lB ui ⟨_,eD,rfl⟩ sr (rW _ _) (uW s2.heap.objs.size vs.toArray k y (by rw[aR];(first|lia|omega))) {eD,?_};have eN:=wz (h:=s9.heap) (l:=s2.heap.objs.size) (items:=vs.toArray) (n:=k) eD (·.push y);have eV:vs.toArray.push y=(vs++[y]).toArray:=by simp
    rw[eV]at eN;obtain⟨k',eN⟩:∃k',(s9.heap.update s2.heap.objs.size (Obj.mapSeq (·.push y))).get? s2.heap.objs.size=some (lobj (vs++[y]) k'):=⟨_,eN⟩;have K9:Inv 331 [] (own++slotsOf fr Z) H9 s9:=J9.qC λp hp=>absurd hp 59;have K10:Inv 331 [] (own++slotsOf fr Z) H9 {s9 with heap:=s9.heap.update s2.heap.objs.size (Obj.mapSeq (·.push y))}:=
     K9.turned (t':=s9.toks) (it:=s2.heap.objs.size) (λb o hb e=>(cx s9.heap (Obj.mapSeq (·.push y)) (cM hb)).trans e) nD EB.1 (.inl aF) EB.2 (λp hp=>absurd hp 59)
    refine{m',hm,i+1,own,H9,ys++[yv],vs++[y],k',l7,K10.qC λp hp=>?_,T.keep _ _ _ t9 λb hb o e=>(cx s9.heap (Obj.mapSeq (·.push y)) (cu (bO b hb))).trans e,n9,rv.append (.cons r9 .nil),w9};have e:p=(s2.heap.objs.size,lobj (vs++[y]) k'):=aC.mp hp;rw[e];exact{eN,nD,EB.1,Vu,λv z=>by cases z}
 exact yk (loop _ 9) (T.self X.A 0 _ _ _ Sv (loop _ 9))
def Jh(hc:X.calm=true)(ST:tw X scope x more fs fr)(hi:PI X tg iter wi)(hg:∀C s H ex,PG 646 tg g)
  (ht:∀C s H ex,CT 646 ifs tt) (he:∀C s H ex,PE 646 elt te) (hs:∀z,foldedSetIterable iter X.env z=pure z:=by intro _;rfl):
  PE X 670 (tR wi (more.length+1) fr g tt te):=by
 intro pins s Z H Q I h;rw[eval_ListComp];refine JY hc ST hi hg ht he hs I h ?_;intro D C s' H' ys vs k m I5 qA lo lt below mX eD nD nC hn rv hz q;refine{m,hn,λh' sb=>?_};have I6:Inv X pins Z H' {s' with heap:=h'}:=I5.turned (t':=s'.toks) (it:=C) (λb o hb e=>sb.extBut b o hb e) nC (cu (dP lt qA)) (.inr (bB (fW lo qA))) (λy c z=>aX (dP (below y c z) qA)) (λp hp=>aX (dP (mX p hp) qA));have eD':h'.get? D=some (lobj vs k):=sb.extBut _ _ (aX qA) eD;exact{.ref D,_,I6.adopt nD eD' rv hz lo (cu lt) (λy c z=>aX (below y c z)) (λp hp=>aX (mX p hp)),9,q _ nD}
def BY{elt iter tg:Expr}{x y:Str}{py uw:Pos}{j:Nat}{more:Aaf}{g:TG}{ifs:List Expr}{scope:Scope}{pos:Pos}{wi:TI}{fs:Aaf}{fr:List Nat}{tt:TT}{te:TE}(hN:X.N.Nodup)(hj:X.N[j]?=some y)(hy:X.env.scope.names.lookup y=some .local)(hc:X.calm=true)(ST:tw X scope x more fs fr)(hi:PI X tg iter wi)(hg:∀C s H ex,PG 646 tg g)
  (ht:∀C s H ex,CT 646 ifs tt) (he:∀C s H ex,PE 646 elt te) (hs:∀z,foldedSetIterable iter X.env z=pure z:=by intro _;rfl)
  (Gp:swapsWith 670 (some (.Name y py)) uw.line X.env=pure true:=by rfl):PS X (.Assign [.Name y py] 670 uw) (FQ j (tR wi (more.length+1) fr g tt te)):=by
 intro pins s Z H D I h;obtain⟨Q,eQ⟩:∃Q:VK,Q=λv H1=>D.nx (Z.set j (some v)) H1:=⟨_,rfl⟩;have h:tR wi (more.length+1) fr g tt te Z H Q:=by rw[eQ];exact h
 have S:=ST.one;rw[exec_Assign_Name_used _ _ _ _ Gp];refine ah (AV (ah ?_));show wpAny _ _ (comprehension 670 scope X.env _ (newList []) false (eval iter X.env) (some (assign (.Name y py) X.env))>>=λ_=>pure ()) _ _ s;refine ah (dC (JY (Q:=Q) (R:=λ_ s'=>SP X pins D .next s') hc ST hi hg ht he hs I h ?_) (λ_ s' hq=>aq (aq hq)) λ_ _ e=>e);intro D1 C s' H' ys vs k m I5 qA lo lt below mX eD nD nC hn rv hz q;have I7:=I5.adopt nD eD rv hz lo (cu lt) (λy c z=>aX (below y c z)) (λp hp=>aX (mX p hp));refine DK (IU (v:=.ref D1) I7 hN hj (.inl hy) 9 (λs3 I8 bU=>?_) (.inr hy));obtain⟨a,sb,ha⟩:=bU;refine{m,hn.sameBut sb ?_,λh' BH=>?_}
 ·rcases ha with e|e
  ·rw[e];exact cu (dP lt qA)
  ·exact cu (dP (below _ _ e) qA)
 ·have nC2:upd H' D1 679 C=none:=by rw[aL (cu qA)];exact nC
  have I9:Inv X pins (Z.set j (some (.ref D1))) (upd H' D1 679) {s3 with heap:=h'}:=I8.turned (t':=s3.toks) (it:=C) (λb o hb e=>BH.extBut b o hb e) nC2 (cu (dP lt qA)) (.inr (bB (fW lo qA)))
   (λy c z=>aX (dP (below y c z) qA)) (λp hp=>aX (dP (mX p hp) qA))
  have q':=q _ nD;rw[eQ]at q';exact⟨_,_,I9,q'⟩
def IT(wi:TI)(fr:List Nat)(tt:TT)(te:TE):qS wi fr tt te=tR wi 1 fr (xx 0) tt te:=by
 funext Z H Q;unfold qS tR;congr 1;funext J H1;refine propext (exists_congr λW=>and_congr_right λ_=>?_);refine forall_congr' λi=>forall_congr' λm=>forall_congr' λys=>forall_congr' λH2=>forall_congr' λ_=>?_;refine or_congr II (and_congr_right λ_=>and_congr_right λ_=>forall_congr' λv=>forall_congr' λH3=>forall_congr' λ_=>?_);constructor
 ·intro h own ho
  match own,ho with
  |[o],_=>exact{[some v],9,9,h}
 ·intro h;obtain⟨o4,e,l,q⟩:=h [none] rfl;exact q
def LV(hc:X.calm=true)(S:pZ X scope x fs fr)(hi:PI X 675 iter wi)
  (ht:∀C s H ex,CT 673 ifs tt) (he:∀C s H ex,PE 673 elt te) (hs:∀z,foldedSetIterable iter X.env z=pure z:=by intro _;rfl):
  PE X (.ListComp elt [{675,iter,ifs,0}] scope pos) (qS wi fr tt te):=by
 rw[IT];exact Jh (more:=[]) hc {S,S.nd} hi (λC s H ex=>qD (i:=0) S.nd 9 (Or.inl (kf S.loc)) (.inr (kf S.loc))) ht he hs
def kZ(hc:X.calm=true)(S:pZ X scope x fs fr)(hi:PI X 675 iter wi)
  (he:∀C s H ex,PE 673 elt te) (hs:∀z,foldedSetIterable iter X.env z=pure z:=by intro _;rfl):
  PE X (.ListComp elt [{675,iter,[],0}] scope pos) (qS wi fr Dj te):=LV hc S hi (λ_ _ _ _=>GU) he hs
def k9(hc:X.calm=true)(S:pZ X scope x fs fr)(hi:PI X 675 iter wi)
  (ht:∀C s H ex,PT 673 c tc) (he:∀C s H ex,PE 673 elt te) (hs:∀z,foldedSetIterable iter X.env z=pure z:=by intro _;rfl):
  PE X (.ListComp elt [{675,iter,[c],0}] scope pos) (qS wi fr tc te):=LV hc S hi (λC s H ex=>GS (ht C s H ex)) he hs
def Ef(hN:X.N.Nodup)(hj:X.N[j]?=some y)(hy:X.env.scope.names.lookup y=some .local)
  (hc:X.calm=true) (S:pZ X scope x fs fr) (hi:PI X 675 iter wi)
  (ht:∀C s H ex,CT 673 ifs tt) (he:∀C s H ex,PE 673 elt te) (hs:∀z,foldedSetIterable iter X.env z=pure z:=by intro _;rfl)
  (Gp:swapsWith (.ListComp elt [{675,iter,ifs,0}] scope pos) (some (.Name y py)) uw.line X.env=pure true:=by rfl):
  PS X (.Assign [.Name y py] (.ListComp elt [{675,iter,ifs,0}] scope pos) uw) (FQ j (qS wi fr tt te)):=by
 rw[IT];exact BY (more:=[]) hN hj hy hc {S,S.nd} hi (λC s H ex=>qD (i:=0) S.nd 9 (Or.inl (kf S.loc)) (.inr (kf S.loc))) ht he hs Gp
def oQ{elt iter:Expr}{x y:Str}{px py uw:Pos}{scope:Scope}{pos:Pos}{wi:TI}{fs:Aaf}{fr:List Nat}{te:TE}{j:Nat}(hN:X.N.Nodup)(hj:X.N[j]?=some y)(hy:X.env.scope.names.lookup y=some .local)
  (hc:X.calm=true) (S:pZ X scope x fs fr) (hi:PI X 675 iter wi)
  (he:∀C s H ex,PE 673 elt te) (hs:∀z,foldedSetIterable iter X.env z=pure z:=by intro _;rfl)
  (Gp:swapsWith (.ListComp elt [{675,iter,[],0}] scope pos) (some (.Name y py)) uw.line X.env=pure true:=by rfl):
  PS X (.Assign [.Name y py] (.ListComp elt [{675,iter,[],0}] scope pos) uw) (FQ j (qS wi fr Dj te)):=Ef hN hj hy hc S hi (λ_ _ _ _=>GU) he hs Gp
def LJ(hN:X.N.Nodup)(hj:X.N[j]?=some y)(hy:X.env.scope.names.lookup y=some .local)
  (hc:X.calm=true) (S:pZ X scope x fs fr) (hi:PI X 675 iter wi)
  (ht:∀C s H ex,PT 673 c tc) (he:∀C s H ex,PE 673 elt te) (hs:∀z,foldedSetIterable iter X.env z=pure z:=by intro _;rfl)
  (Gp:swapsWith (.ListComp elt [{675,iter,[c],0}] scope pos) (some (.Name y py)) uw.line X.env=pure true:=by rfl):
  PS X (.Assign [.Name y py] (.ListComp elt [{675,iter,[c],0}] scope pos) uw) (FQ j (qS wi fr tc te)):=Ef hN hj hy hc S hi (λC s H ex=>GS (ht C s H ex)) he hs Gp
def vQ(hc:X.calm=true)(S:tw X scope x more fs fr)(hi:PI X tg iter wi)(hg:∀C s H ex,PG 646 tg g)
  (he:∀C s H ex,PE 646 elt te) (hs:∀z,foldedSetIterable iter X.env z=pure z:=by intro _;rfl):
  PE X (.ListComp elt [{tg,iter,[],0}] scope pos) (tR wi (more.length+1) fr g Dj te):=Jh hc S hi hg (λ_ _ _ _=>GU) he hs
def pf(h:RZ X.env.scope X.N scope x fs fr=true:=by kernel_rfl)(h2:decide (x::more++fs).Nodup=true:=by kernel_rfl):tw X scope x more fs fr:={cV h,aT h2}
def vk{K:Frag}(hc:X.calm=true)(h:Hc X es t)(hK:X.K=K:=by rfl)
  (hn:(assignEach es X.env).length=n:=by rfl) (A8:(assignEach es X.env).findIdx? (·.1)=none:=by rfl):PG X (.Tuple es k pos) (XE K n t):=hK▸jA hc h hn A8
def jS(hN:decide X.N.Nodup=true:=by kernel_rfl)(hi:X.N[i]?=some x:=by rfl)(hl:X.env.scope.names.lookup x=some .local:=by first|rfl|exact kf rfl):PG X (.Name x pos) (xx i):=
 qD (aT hN) hi (.inl hl) (.inr hl)
variable{K:Frag}{a:Addr}{xs:Aam}{fr:List Nat}{tt:TT}{te:TE}{Z:St}{H1:Hp}{R:Addr->Aam->Hp->Prop}
abbrev KI(K:Frag):TG:=XE K 2 (RF (xx 0) (RF (xx 1) ad3))
abbrev Dc(J:It)(k:Nat)(fr:List Nat)(g:TG)(tt:TT)(te:TE)(Z:St)(H1:Hp)(R:Addr->Aam->Hp->Prop):Prop:=
 ∃W:Nat->Nat->Aam->Hp->Prop,(∃m,W 0 m [] H1)/\∀i m ys H2,W i m ys H2->
 (J.stop i H2/\ys.length<=sizeLine/\∀l,H2 l=none->R l ys H2)\/
 (J.go i H2/\ys.length<sizeLine/\∀v H3,J.D4 i H2 v H3->∀own:St,own.length=k->g v (own++slotsOf fr Z) H3 λσ4 H4=>∃L4,σ4=L4++slotsOf fr Z/\L4.length=k/\tt σ4 H4 λb H5=>
  if b=true then te σ4 H5 (λy H6=>∃m',m'<m/\W (i+1) m' (ys++[y]) H6)else∃m',m'<m/\W (i+1) m' ys H5)
def HJ{v a b:V}{own rest:St}(ho:own.length=2)(ev:v=.ref p)(hp:aZ K H p [a,b])(h:Q (some a::some b::rest) H):KI K v (own++rest) H Q:=by
 match own,ho with
 |[o1,o2],_=>exact⟨p,_,ev,hp,rfl,_,_,rfl,_,_,rfl,rfl,h⟩
def CC(Pv:Nat->Aam->Hp->Prop)(hx:xs.length<sizeLine)(h0:Pv 0 [] H1)(hl:∀i ys H,i<=xs.length->Pv i ys H->aZ K H a xs/\ys.length<=i)
  (hs:∀(i:Nat)(x:V)(ys:Aam)(H:Hp)(N:Aam->Hp->Prop),xs[i]?=some x->Pv i ys H->(∀hU H',Pv (i+1) hU H'->N hU H')->
   ∃p b c,x=.ref p/\aZ K H p [b,c]/\tt (some b::some c::slotsOf fr Z) H λt H4=>if t=true then te (some b::some c::slotsOf fr Z) H4 (λy H5=>N (ys++[y]) H5)else N ys H4)
  (hd:∀ys H,Pv xs.length ys H->∀l,H l=none->R l ys H):Dc (VT K a) 2 fr (KI K) tt te Z H1 R:=by
 refine{689,{xs.length,59,aP _,h0},?_};rintro i m ys H ⟨rfl,hi,p⟩;obtain⟨q,hy⟩:=hl i ys H hi p;by_cases bO:i<xs.length
 ·refine .inr {{xs,_,q,ay bO},8,?_};rintro v H3 ⟨rfl,hv⟩ own ho;obtain⟨pp,b,c,ev,hp,h⟩:=hs i v ys H3 (λhU H'=>∃m',m'<xs.length -i/\m'=xs.length -(i+1)/\i+1<=xs.length/\Pv (i+1) hU H') (hv xs q) p λhU H' p'=>{_,8,9,bO,p'};exact HJ ho ev hp {[some b,some c],9,9,h}
 ·have e:i=xs.length:=by lia
  subst e;exact .inl {{xs,q,aw _},8,hd ys H p}
def GW(Pv:Nat->Aam->Hp->Prop)(hx:xs.length<sizeLine)(h0:Pv 0 [] H1)(hl:∀i ys H,i<=xs.length->Pv i ys H->bf K H a xs/\ys.length<=i)
  (hs:∀(i:Nat)(x:V)(ys:Aam)(H:Hp)(N:Aam->Hp->Prop),xs[i]?=some x->Pv i ys H->(∀hU H',Pv (i+1) hU H'->N hU H')->
   ∃p b c,x=.ref p/\aZ K H p [b,c]/\tt (some b::some c::slotsOf fr Z) H λt H4=>if t=true then te (some b::some c::slotsOf fr Z) H4 (λy H5=>N (ys++[y]) H5)else N ys H4)
  (hd:∀ys H,Pv xs.length ys H->∀l,H l=none->R l ys H):Dc (VU K a) 2 fr (KI K) tt te Z H1 R:=by
 refine{689,{xs.length,59,aP _,h0},?_};rintro i m ys H ⟨rfl,hi,p⟩;obtain⟨q,hy⟩:=hl i ys H hi p;by_cases bO:i<xs.length
 ·refine .inr {{xs,_,q,ay bO},8,?_};rintro v H3 ⟨rfl,hv⟩ own ho;obtain⟨pp,b,c,ev,hp,h⟩:=hs i v ys H3 (λhU H'=>∃m',m'<xs.length -i/\m'=xs.length -(i+1)/\i+1<=xs.length/\Pv (i+1) hU H') (hv xs q) p λhU H' p'=>{_,8,9,bO,p'};exact HJ ho ev hp {[some b,some c],9,9,h}
 ·have e:i=xs.length:=by lia
  subst e;exact .inl {{xs,q,aw _},8,hd ys H p}
end
def rn(a b:Str):Bool:=!decide (b.cps.toList<a.cps.toList)
def DC(a b:Str):rn a b=true↔a.cps.toList<=b.cps.toList:=by unfold rn;rw[D2,decide_eq_false_iff_not];exact II
def Js(a b c:Str)(h1:rn a b=true)(h2:rn b c=true):rn a c=true:=by rw[DC]at*;exact List.le_trans h1 h2
def Xb{a b:Str}(h1:rn a b=true)(h2:rn b a=true):a=b:=by rw[DC]at*;exact ext_toList (List.le_antisymm h1 h2)
def Uc(a b:Str):(rn a b||rn b a)=true:=by
 rcases List.le_total a.cps.toList b.cps.toList with h|h
 ·rw[(DC a b).mpr h,Bool.true_or]
 ·rw[(DC b a).mpr h,Bool.or_true]
def fk(zs:Aaf):Aaf:=zs.mergeSort rn
def ij(zs:Aaf):(fk zs).Perm zs:=Bq zs rn
def FU(zs:Aaf):(fk zs).Pairwise (λa b=>rn a b=true):=w5 Js Uc zs
theorem Ee:∀(r:Aaf)(p:Str),risingS p r=true->(p::r).Pairwise (λa b=>rn a b=true)
 |[],p,_=>by simp
 |x::r,p,h=>by
  have h':(!ltCps x.cps.toList p.cps.toList&&risingS x r)=true:=h;rw[bP]at h';have ih:=Ee r x h'.2;have h1:rn p x=true:=by have:=h'.1;rw[ltCps_eq]at this;exact this
  refine lD.mpr {λy hy=>?_,ih};rcases aN.mp hy with rfl|hy
  ·exact h1
  ·exact Js p x y h1 (iF ih hy)
theorem Oa:∀(l:Aaf),sortedS l=true->l.Pairwise (λa b=>rn a b=true)
 |[],_=>.nil
 |x::r,h=>Ee r x h
theorem HI:∀{l m:Aaf},l.Perm m->l.Pairwise (λa b=>rn a b=true)->m.Pairwise (λa b=>rn a b=true)->l=m
 |[],m,h,_,_=>(List.nil_perm.mp h).symm
 |a::l,[],h,_,_=>absurd h.length_eq 59
 |a::l,b::m,h,h1,h2=>by
  have e:a=b:=by
   rcases aN.mp (h.mem_iff.mp (aF))with e|e
   ·exact e
   ·rcases aN.mp (h.mem_iff.mpr (aF))with q|q
    ·exact q.symm
    ·exact Xb (iF h1 q) (iF h2 e)
  subst e;rw[HI (List.perm_cons a|>.mp h) (lD.mp h1).2 (lD.mp h2).2]
def Lp{l zs:Aaf}(h:l.Perm zs)(hs:sortedS l=true):l=fk zs:=HI (h.trans (ij zs).symm) (Oa l hs) (FU zs)
theorem Ld:∀{zs:Aaf}{us:Aae},Vals 652 us->StrsAre us zs
 |[],_,.nil=>.nil
 |z::r,_,.cons ⟨t,e⟩ h=>by subst e;exact .cons _ _ (Ld h)
theorem EH:∀{zs:Aaf}{us:Aae},StrsAre us zs->Vals 652 us
 |_,_,.nil=>.nil
 |_,_,.cons y t h=>.cons ⟨t,rfl⟩ (EH h)
section
variable{X:Cx}
inductive acH(K:Frag)(xs:Aam)(H:Hp)(Q:VK):Prop
 |mk p zs (_:xs=[.ref p]) (_:bf K H p (zs.map V.str)) (_:zs.length<64) (_:∀l,H l=none->Q (.ref l) (upd H l (.lst ((fk zs).map V.str))))
def Oz:gZ X (.builtin "sorted") (acH X.K):=by
 intro pins s Z H xs us Q I r h;obtain⟨p,zs,rfl,hq,hz,q⟩:=h;obtain⟨u,rfl,rx⟩:=jI r;cases rx;obtain⟨ba,r',pl,kC⟩:=I.list hq;have hl:=r'.length;rw[aj]at hl;refine sorted_strs pl.isList (Ld r') ∅ λout ss' a1 a2 a3=>?_;have e:=Lp a2 a3;subst e;obtain⟨n,he⟩:=sortedAll_at s.heap ba out;have ln:((fk zs).map V.str).length<=sizeLine:=by rw[aj,(ij zs).length_eq];exact bB (bt ∅)
 exact{.ref 649,_,I.laid (λb o hb=>sortedAll_old hb) (fG _) (show dY X.prog X.w _ _ _ (.lst ((fk zs).map V.str))from{ln,out.toList,n,EH a1,he}),9,q _ (I.bQ.fresh (fG _))}
inductive aaU(x:V)(vs:Aam)(H:Hp)(Q:VK):Prop
 |mk l xs i y (_:x=.ref l) (_:vs=[.int i,y]) (_:H l=some (.lst xs)) (_:0<=i) (_:i<=(xs.length:Int)) (_:xs.length<1000) (_:Q .cz (upd H l (.lst (xs.take i.toNat++y::xs.drop i.toNat))))
def abx(ba:Aae)(u:Value)(i:Int)(h0:0<=i)(h1:i.toNat<=ba.length):(λxs:Aaj=>have k:=if i<0 then(i+((xs.size:Nat):Int)).toNat else min i.toNat xs.size;(xs.extract 0 k).push u++xs.extract k) ba.toArray=(ba.take i.toNat++u::ba.drop i.toNat).toArray:=by
 have e:706=i.toNat:=by rw[aI ∅,aR];lia
 show((ba.toArray.extract 0 706).push u++ba.toArray.extract 706)=_;rw[e];apply Array.ext';simp;exact c7 (dE▸aw _)
def Jn:Kh X "list.insert" aaU:=by
 intro pins s Z H x vs v us Q I rx rv h;obtain⟨l,xs,i,y,rfl,rfl,hH,h0,h1,hz,q⟩:=h;cases rx
 match us,rv with
 |[_,u],.cons ⟨t,rfl⟩ (.cons ru .nil)=>
  obtain⟨z,ba,n,r,hl,e⟩:=I.yf hH;refine lB F.slot_list_insert ⟨_,e,rfl⟩ F.entry_list_insert (F.args_list_insert_3 _ _ _) (AutoListH.list_insert_list_int_val_1 l ba.toArray n i t u ?_ (by rw[aR];lia)) {e,?_}
  ·have:=fitsIndex_both (k:=i) ∅ ∅;simpa using this
  ·refine{.cz,_,I.HR hH e (abx ba u i h0 ∅) ((r.take _).append (.cons ru (r.drop _))) ?_,9,q};have:=bt (n:=xs.length+1) ∅;rw[aD,bF,a9,dE];lia
inductive acN(K:Frag)(neg:Bool)(x:V)(y:V)(H:Hp)(Q:VK):Prop
 |mk d ds (_:Dt K H d x) (_:(Dt K H (.tuple ds) y\/Dt K H (.list ds) y)) (_:PyData.canLayAll0 ds=true) (_:d.canLay0=true) (_:d.depth<=60) (_:Q (.bl (if neg then !(ds.any λe=>PyData.eqv e d)else ds.any λe=>PyData.eqv e d)) H)
def acY(hu:X.A.units+64<cLine):iU X (compareOp .In) (acN X.K false):=by
 intro pins s Z H x y v u Q I rx ry h;obtain⟨d,ds,h1,h2,h3,h4,h5,q⟩:=h;obtain⟨as,r1⟩:=nY I d x v h1 rx;rcases h2 with h2|h2
 ·obtain⟨bs,r2⟩:=nY I _ y u h2 ry;exact SeqAt.in_tuple_reads r2 r1 h3 h4 ∅ {.bl _,H,I,9,q}
 ·obtain⟨bs,r2⟩:=nY I _ y u h2 ry;exact SeqAt.in_list_reads r2 r1 h3 h4 ∅ {.bl _,H,I,9,q}
def aba{K:Frag}(hu:X.A.units+64<cLine)(h:X.K=K:=by rfl):iU X (compareOp .In) (acN K false):=h▸acY hu
def Q9(hl:718=true:=by rfl)(hb:attributeBase (.Name d pd) "get" X.env (eval (.Name d pd) X.env)=eval (.Name d pd) X.env:=by rfl):M2 X (.Name d pd) "get" apos 675 (.Name y py) f9:=⟨hb,rfl,hl,rfl⟩
end
end L2
namespace L2
open PySem PySem.Spec PyProof.Rows PySem.W Builtin Builtin.ObjectAttr
noncomputable def Vk:Aae->Bool
 | .ref _::r=>Vk r
 |l=>l==[.type "ValueError",.type "Exception",.type "BaseException",.type "object"]
structure ahP(K:Frag)(C:Addr):Prop where
 ga:findIn K (.ref C) "__getattribute__"=some (some (.builtin "BaseException.__getattribute__"))
 gt:findIn K (.ref C) "__getattr__"=some none
 sa:findIn K (.ref C) "__setattr__"=some (some (.builtin "object.__setattr__"))
 be:mroIn K C (.type "BaseException")=some true
 ob:mroIn K C (.type "object")=some true
 hd:hasDictIn K C=true
 tl:(clsIn K C).any (λcd=>Vk cd.mro)=true
 cl:findIn K (.ref C) "__class__"=some (some (.builtin "object.__class__"))
 cg:specialIn K (.builtin "object.__class__") "__get__"=some (some (.builtin "getset_descriptor.__get__"))
 ct:takesIn K (.builtin "object.__class__")=some true
end L2
namespace L2
open PySem PySem.Spec PyProof.Rows PySem.W
abbrev ahd(C:Addr)(dd:Aai)(t:Addr)(tb:Value):Obj:={cls:=.ref C,dict:=dd,data:=.fields #[.ref t,tb,.none,.none,.bool false,.none]}
def ahr(e C:Addr)(dd:Aai):Heap->Prop:=λh=>∃t tb,h.get? e=some (ahd C dd t tb)
def gone(H:Hp)(e C:Addr)(dd:Aai):Hp:=upd H e (.ext (ahr e C dd))
abbrev Cx.held(X:Cx)(q:Aaa)(E:Aac):Cx:={X with pn:=q,xe:=E}
section
variable{X:Cx}{K:Frag}
def Iw(h:X.K=K:=by rfl):gZ X (.type "tuple") (λxs H Q=>∃p ys,xs=[.ref p]/\((bf K H p ys/\∀l,H l=none->Q 720 (upd H l (.tup ys)))\/(aZ K H p ys/\Q 676 H))):=h▸eC
def Kv(h:X.K=K:=by rfl):gZ X (.type "list") (λxs H Q=>∃p ys,xs=[.ref p]/\(bf K H p ys\/aZ K H p ys)/\∀l,H l=none->Q 720 (upd H l 679)):=h▸kH
end
end L2
namespace L2
open PySem PySem.Spec PyProof.Rows
section
variable{P:Program}{w:World}{A:Around}{E:Aac}{v:Shared}
structure Zt(h:Heap)(z ti to i1 i2 l1 l2:Addr)(f:Value)(k:Nat):Prop where
 self:IsZip h z ti to f
 ins:IsPair h ti (.ref i1) (.ref i2)
 outs:∃a b,IsPair h to a b
 w1:h.IsTupleIter i1 l1 k
 w2:h.IsTupleIter i2 l2 k
structure VP(z ti to i1 i2 l1 l2:Addr):Prop where
 ntt:ti≠to
 nii:i1≠i2
 nl1:l1≠to
 nl2:l2≠to
def iT{h:Heap}(e:h.get? a=some o)(e':h.get? b=some o')(c:o.cls=.type m)(c':o'.cls=.type n)(d:m≠n):a≠b:=λg=>by rw[g,e']at e;cases e;rw[c]at c';cases c';exact d rfl
def Zt.ne(g:Zt h z ti to i1 i2 l1 l2 f k):(ti≠z/\to≠z/\i1≠z/\i2≠z)/\(ti≠i1/\ti≠i2/\to≠i1/\to≠i2):=by
 obtain⟨gs,gi,⟨a,b,go⟩,⟨o1,q1,c1,_⟩,⟨o2,q2,c2,_⟩⟩:=g;exact{{iT gi gs rfl rfl 7,iT go gs rfl rfl 7,iT q1 gs c1 rfl 7,iT q2 gs c2 rfl 7},
  iT gi q1 rfl c1 7,iT gi q2 rfl c2 7,iT go q1 rfl c1 7,iT go q2 rfl c2 7}
def tup_ne(g:Zt h z ti to i1 i2 l1 l2 f k)(t:h.IsTuple l xs):l≠z/\l≠i1/\l≠i2:=by obtain⟨gs,_,_,⟨o1,q1,c1,_⟩,⟨o2,q2,c2,_⟩⟩:=g;obtain⟨o,q,c,_⟩:=t;exact{iT q gs c rfl 7,iT q q1 c c1 7,iT q q2 c c2 7}
def o6(g:h.IsTupleIter j p k)(s:Heap.SameBut b h h')(n:j≠b):h'.IsTupleIter j p k:=by obtain⟨o,q,r⟩:=g;exact{o,s.extBut _ _ n q,r}
def yK(g:h.IsTuple l xs)(s:Heap.SameBut b h h')(n:l≠b):h'.IsTuple l xs:=by obtain⟨o,q,r⟩:=g;exact{o,s.extBut _ _ n q,r}
def L0(g:IsPair v.heap t a b)
  (q:∀h',h'.get? t=some {cls:=.type "tuple",data:=.seq ((#[a,b]:Aaj).setIfInBounds k x)}->Heap.SameBut t v.heap h'->Q () {v with heap:=h'}):
  wpAny 667 A (updateSeq t (·.setIfInBounds k x)) Q E v:=wpAny_updateSeq_pair g q
def aap{Q:Aac}(d:VP z ti to i1 i2 l1 l2)(g:Zt v.heap z ti to i1 i2 l1 l2 .none k)
  (t1:v.heap.IsTuple l1 xs) (t2:v.heap.IsTuple l2 ys) (ex:xs[k]?=some x) (ey:ys[k]?=some y)
  (q:∀h',Zt h' z ti to i1 i2 l1 l2 (rawInt v.heap.objs.size) (k+1)->IsPair h' v.heap.objs.size x y->(∀c o,c≠z->c≠to->c≠i1->c≠i2->v.heap.get? c=some o->h'.get? c=some o)->Q (.ref v.heap.objs.size) {v with heap:=h'}):
  wpAny 667 A (Builtin.«zip.__next__» {[.ref z],[]}) (λfin s'=>∃u,fin=.done (.ret u)/\Q u s') E v:=by
 obtain⟨⟨a1,a2,a3,a4⟩,a5,a6,a7,a8⟩:=g.ne;obtain⟨b1,b2,b3⟩:=tup_ne g t1;obtain⟨c1,c2,c3⟩:=tup_ne g t2;obtain⟨gs,gi,⟨a,b,go⟩,g1,g2⟩:=g;show wpAny _ _ (field (.ref z) 2>>=_) _ _ _;refine ah (du gs 9 9 ?_);refine ah (du gs 9 9 ?_);refine ah (dj gi 9 ?_);refine ah ?_;refine ah (du gs 9 9 666);refine ah (j8 ?_);refine ah (du gs 9 9 ?_);refine ah (jv gs 59 λp1 k1 r1=>?_)
 replace k1:IsZip p1 z ti to .ellipsis:=k1
 refine ah ?_;refine ah (ah (AW ?_));refine ah (Ad (o6 g1 r1 a3) (yK t1 r1 b1) ex λp2 k2 r2=>aq ?_);have o2:=r2.extBut _ _ a7 (r1.extBut _ _ a2 go);refine ah (dj o2 9 ?_);refine ah (L0 o2 λp3 o3 r3=>?_)
 replace o3:IsPair p3 to x b:=o3
 refine ah (D6 666);refine ah (ah (AW ?_));refine ah (Ad (o6 (o6 (o6 g2 r1 a4) r2 d.nii.symm) r3 a8.symm) (yK (yK (yK t2 r1 c1) r2 c2) r3 d.nl2) ey λp4 k4 r4=>aq ?_);have o4:=r4.extBut _ _ a8 o3;refine ah (dj o4 9 ?_);refine ah (L0 o4 λp5 o5 r5=>?_)
 replace o5:IsPair p5 to x y:=o5
 refine ah (D6 (aq 666));refine ah (dj o5 9 ?_);refine ah (sC ?_);have sz:p5.objs.size=v.heap.objs.size:=by rw[r5.1,r4.1,r3.1,r2.1,r1.1]
 have z5:=r5.extBut _ _ a2.symm (r4.extBut _ _ a4.symm (r3.extBut _ _ a2.symm (r2.extBut _ _ a3.symm k1)));have st:∀c o,c≠z->c≠to->c≠i1->c≠i2->v.heap.get? c=some o->p5.get? c=some o:=λc o m1 m2 m3 m4 e=>
  r5.extBut _ _ m2 (r4.extBut _ _ m4 (r3.extBut _ _ m2 (r2.extBut _ _ m3 (r1.extBut _ _ m1 e))))
 have lz:=aY z5;refine ah ?_;have z6:IsZip (p5.push {cls:=.type "tuple",data:=.seq #[x,y]}) z ti to .ellipsis:=ao _ z5;refine ah (jv z6 59 λp7 z7 r7=>?_)
 replace z7:IsZip p7 z ti to (rawInt p5.objs.size):=z7
 refine jv z7 59 λp8 z8 r8=>?_
 replace z8:IsZip p8 z ti to (rawInt p5.objs.size):=z8
 have up:∀c o,c≠z->p5.get? c=some o->p8.get? c=some o:=λc o m e=>r8.extBut _ _ m (r7.extBut _ _ m (ao _ e));have n8:=r8.extBut _ _ (cu lz) (r7.extBut _ _ (cu lz) (aU _ 9));rw[sz]at z8 n8;refine aq {_,9,?_};rw[sz];obtain⟨oa,ja,ra⟩:=(o6 (o6 (o6 k2 r3 a7.symm) r4 d.nii) r5 a7.symm);obtain⟨ob,jb,rb⟩:=(o6 k4 r5 a8.symm);exact q p8 {z8,up _ _ a1 (st _ _ a1 d.ntt a5 a6 gi),{x,y,up _ _ a2 o5},{oa,up _ _ a3 ja,ra},{ob,up _ _ a4 jb,rb}} n8 λc o m1 m2 m3 m4 e=>up c o m1 (st c o m1 m2 m3 m4 e)
def ab4{z ti to i1 i2 l1 l2:Addr}{k:Nat}{xs ys:Aaj}{Q:Fin->Shared->Prop}(hh:A.handled=none)(d:VP z ti to i1 i2 l1 l2)(g:Zt v.heap z ti to i1 i2 l1 l2 .none k)
  (t1:v.heap.IsTuple l1 xs) (ex:xs[k]?=none)
  (q:∀h' e,(∀c o,c≠z->c≠to->c≠i1->c≠i2->v.heap.get? c=some o->h'.get? c=some o)->(∃o,h'.get? e=some o/\o.cls=.type "StopIteration")->E (.ref e) {v with heap:=h'}):
  wpAny 667 A (Builtin.«zip.__next__» {[.ref z],[]}) Q E v:=by
 obtain⟨⟨a1,a2,a3,a4⟩,a5,a6,a7,a8⟩:=g.ne;obtain⟨b1,b2,b3⟩:=tup_ne g t1;obtain⟨gs,gi,⟨a,b,go⟩,g1,g2⟩:=g;show wpAny _ _ (field (.ref z) 2>>=_) _ _ _;refine ah (du gs 9 9 ?_);refine ah (du gs 9 9 ?_);refine ah (dj gi 9 ?_);refine ah ?_;refine ah (du gs 9 9 666);refine ah (j8 ?_);refine ah (du gs 9 9 ?_);refine ah (jv gs 59 λp1 k1 r1=>?_)
 replace k1:IsZip p1 z ti to .ellipsis:=k1
 refine ah ?_;refine ah (ah (AW ?_));refine ah (yX hh (o6 g1 r1 a3) (yK t1 r1 b1) ex λp2 e r2 he=>?_);obtain⟨oe,ge,ce⟩:=he;have z2:=r2 _ _ a3.symm k1;refine jv z2 59 λp3 _ r3=>q p3 e (λc o m1 _ m3 _ e=>r3.extBut _ _ m1 (r2 _ _ m3 (r1.extBut _ _ m1 e))) {oe,r3.extBut _ _ (iT ge z2 ce 9 7) ge,ce}
variable{X:Cx}{pins:Aaa}{Z:St}{H:Hp}{s:Shared}
def Inv.freeze(I:Inv X pins Z H s)(hd:H d=some 719)(ho:s.heap.get? d=some o):Inv X pins Z (upd H d (.fB o 719)) s:=by
 have nd:∀b u,H b=some u->(∀l,u≠ .dK l)->b≠d:=λb u q n z=>by rw[z,hd]at q;exact n kvs (bR q).symm
 refine I.un {λb u e _ _ _=>e,λb u e _ _ _=>{u.slots,e},λb u e n _=>by rw[aL ((λb q z=>by rw[z,hd]at q;cases q) b n)];exact n,λb u e _=>⟨u,e⟩,λb xs q=>by rw[aL (nd b _ q λl z=>by cases z)];exact q,λb u v q=>by rw[aL (nd b _ q λl z=>by cases z)];exact q,λb ps q=>{#[],by rw[aL (nd b _ q λl z=>by cases z),q];simp}} λb u g=>?_;by_cases hb:b=d
 ·subst hb;rw[av]at g;cases g;exact{ho,I.bQ b _ hd}
 ·rw[aL hb]at g;exact(I.bQ b u g).qT (λc v hc q=>q) (λc q=>by rw[aL (nd c _ q λl z=>by cases z)];exact q) λc ys q=>by rw[aL (nd c _ q λl z=>by cases z)];exact q
def afY{X:Cx}{d x:Str}{pd px apos f9:Pos}(hl:718=true:=by rfl)(hb:attributeBase (.Name d pd) "get" X.env (eval (.Name d pd) X.env)=eval (.Name d pd) X.env:=by rfl):M1 X (.Name d pd) "get" apos 675 f9:=⟨hb,rfl,hl,rfl⟩
end
section
variable{X:Cx}
theorem ints_of:∀{ns:List Int}{us:Aae},Vals (ns.map V.int) us->IntsAre us ns
 |[],_,.nil=>.nil
 |n::ns,_,.cons ⟨t,r⟩ q=>by subst r;exact .cons _ _ (ints_of q)
def VH:gZ X (.type "str") (λxs H Q=>∃i:Int,xs=[.int i]/\i.natAbs.log2<1920/\Q (.str (Str.ofString (toString i))) H):=by intro pins s Z H xs us Q I r h;obtain⟨i,rfl,hl,q⟩:=h;obtain⟨u,rfl,t,rfl⟩:=jI r;exact P.str_of_int hl {.str (Str.ofString (toString i)),H,686,726,q}
variable{pins:Aaa}{Z:St}{H:Hp}{s:Shared}{h':Heap}
def Inv.aaB{ch:Aah}(I:Inv X pins Z H s)(k:∀b o,b∉ch->s.heap.get? b=some o->h'.get? b=some o)(fc:∀b∈ch,oI X pins H b)
  (hp:s.heap.objs.size<=p) (ht:IsTup h' p us.toArray/\∃o,h'.get? p=some o/\o.dict=none) (r:Vals xs us) (hz:xs.length<=sizeLine):Inv X pins Z (upd H p 672) {s with heap:=h',toks:=t'}:=by
 have hn:=I.bQ.fresh hp;have fp:=I.uD hp hn;have nH:∀b u,H b=some u->b∉ch/\b≠p:=λb u g=>{(λz=>by rw[(fc b z).1]at g;cases g),λz=>by rw[z,hn]at g;cases g};refine I.step 694 (λb o _ _ hc g _=>k b o (λz=>hc (aG _ z)) g) (λb o _ _ hc g _=>{o.slots,k b o (λz=>hc (aG _ z)) g})
  (λb o hc g n=>by rw[aL λz=>hc (by rw[z];exact aF)];exact n) (λb o hc g=>{o,k b o (λz=>hc (aG _ z)) g})
  (λb ys g=>by rw[aL (nH b _ g).2];exact g) (λb o u g=>by rw[aL (nH b _ g).2];exact g) (λb ps g=>{#[],by rw[aL (nH b _ g).2,g];simp}) (λm hm=>?_) (λb u g=>?_) I.bare
 ·rcases aN.mp hb with rfl|z
  ·exact{fp.2.2.2.1,fp.2.1,fp.2.2.2.2.1,fp.2.2.2.2.2}
  ·have f:=fc b z;exact{f.2.2.2.1,f.2.1,f.2.2.2.2.1,f.2.2.2.2.2}
 ·obtain⟨o,es,ep,ho,r'⟩:=hm;exact{o,es,ep,k _ o (λz=>(fc _ z).2.1 9) ho,r'}
 ·by_cases hb:b=p
  ·subst hb;rw[av]at g;cases g;exact⟨hz,us,r,ht⟩
  ·rw[aL hb]at g;refine(I.bQ b u g).qT (λc v hc q=>?_) (λc q=>?_) λc ys q=>?_
   ·rcases hc with z|z
    ·rw[z];rw[z]at q;exact k b v (nH b _ g).1 q
    ·exact k c v (nH c _ z).1 q
   ·rw[aL (nH c _ q).2];exact q
   ·rw[aL (nH c _ q).2];exact q
def Inv.aaC{ch:Aah}(I:Inv X pins Z H s)(k:∀b o,b∉ch->s.heap.get? b=some o->h'.get? b=some o)(fc:∀b∈ch,oI X pins H b):Inv X pins Z H {s with heap:=h',toks:=t'}:=by
 have nH:∀b u,H b=some u->b∉ch:=λb u g z=>by rw[(fc b z).1]at g;cases g
 refine I.step (λb z=>?_) (λb o _ _ hc g _=>k b o hc g) (λb o _ _ hc g _=>{o.slots,k b o hc g}) (λ_ _ _ _ n=>n) (λb o hc g=>{o,k b o hc g})
  (λ_ _ g=>g) (λ_ _ _ g=>g) (λb ps g=>{#[],by rw[g];simp}) (λm hm=>?_) (λb u g=>?_) I.bare
 ·have f:=fc b z;exact{f.2.2.2.1,f.2.1,f.2.2.2.2.1,f.2.2.2.2.2}
 ·obtain⟨o,es,ep,ho,r'⟩:=hm;exact{o,es,ep,k _ o (λz=>(fc _ z).2.1 9) ho,r'}
 ·refine(I.bQ b u g).qT (λc v hc q=>k c v ?_ q) (λ_ q=>q) λ_ _ q=>q;rcases hc with z|z
  ·rw[z];exact nH b _ g
  ·exact nH c _ z
end
section
variable{P:Program}{w:World}{A:Around}{E:Aac}{v:Shared}
def aao(d:VP z ti to i1 i2 l1 l2)(g:Zt v.heap z ti to i1 i2 l1 l2 .none k)
  (t1:v.heap.IsTuple l1 xs) (t2:v.heap.IsTuple l2 ys) (ex:xs[k]?=some x) (ey:ys[k]?=some y)
  (q:∀h',Zt h' z ti to i1 i2 l1 l2 (rawInt v.heap.objs.size) (k+1)->IsPair h' v.heap.objs.size x y->(∀c o,c≠z->c≠to->c≠i1->c≠i2->v.heap.get? c=some o->h'.get? c=some o)->Q (some (.ref v.heap.objs.size)) {v with heap:=h'}):
  wpAny 667 A (pyNext (.ref z)) Q E v:=by
 have ty:v.TypeIs (.ref z) "zip":={_,g.self,9};exact ah (ig (wpAny_callSpecial?_slot ty iO (b7 iO ty qx (aap d g t1 t2 ex ey λh' b1 b2 b3=>aq (q h' b1 b2 b3)) (pN _))))
def aan(hh:A.handled=none)(d:VP z ti to i1 i2 l1 l2)(g:Zt v.heap z ti to i1 i2 l1 l2 .none k)
  (t1:v.heap.IsTuple l1 xs) (ex:xs[k]?=none)
  (q:∀h',(∀c o,c≠z->c≠to->c≠i1->c≠i2->v.heap.get? c=some o->h'.get? c=some o)->Q none {v with heap:=h'}):
  wpAny 667 A (pyNext (.ref z)) Q E v:=by
 have ty:v.TypeIs (.ref z) "zip":={_,g.self,9};refine ah (ig (wpAny_callSpecial?_slot ty iO (b7 iO ty qx (ab4 (ys:=#[]) hh d g t1 ex λh' e hk he=>?_) (pN _))));obtain⟨o,ho,hc⟩:=he;exact ah (jg ⟨o,ho,hc⟩ o7 (aq (q _ hk)))
abbrev Yr(h:Heap)(l1:Addr):Heap:=h.push {cls:=.type "tuple_iterator",data:=.fields #[.ref l1,.int 0 0]}
abbrev Yq(h:Heap)(l1 l2:Addr):Heap:=(Yr h l1).push {cls:=.type "tuple_iterator",data:=.fields #[.ref l2,.int 0 0]}
abbrev Yp(h:Heap)(l1 l2:Addr):Heap:=(Yq h l1 l2).push {cls:=.type "tuple",data:=.seq #[.ref h.objs.size,.ref (Yr h l1).objs.size]}
abbrev Yo(h:Heap)(l1 l2:Addr):Heap:=(Yp h l1 l2).push {cls:=.type "tuple",data:=.seq #[.none,.none]}
abbrev OD(h:Heap)(l1 l2:Addr):Heap:=(Yo h l1 l2).push {cls:=.type "zip",data:=.fields #[.none,.bool false,.bool false,.ref (Yq h l1 l2).objs.size,.ref (Yp h l1 l2).objs.size]}
def ab6(l1 l2:Addr)(xs ys:Aaj):
  Meets (Builtin.«zip.__new__» {[.type "zip",.ref l1,.ref l2],[]}) (λ_ R s=>s.heap.IsTuple l1 xs/\s.heap.IsTuple l2 ys/\R (.ok (.ret (.ref (Yo s.heap l1 l2).objs.size))) {s with heap:=OD s.heap l1 l2}):=
 .of_wp λprog w A R s h=>by
  obtain⟨hp,g,d,tk,os⟩:=s;obtain⟨nA,gd,h⟩:=h;have Xh:=sub_zip;have hL2:Heap.IsTuple (Shared.heap ⟨hp.push {cls:=.type "tuple_iterator",data:=.fields #[.ref l1,.int 0 0]},g,d,tk,os⟩) l2 ys:=by obtain⟨o,e,r⟩:=gd;exact{o,ao _ e,r}
  wp_walk using jw nA,jw hL2
  exact⟨_,rfl,h⟩
def aat(h1:v.heap.IsTuple l1 xs)(h2:v.heap.IsTuple l2 ys)
  (q:∀h' n,n=v.heap.objs.size->Zt h' (n+4) (n+2) (n+3) n (n+1) l1 l2 .none 0->(∀c o,v.heap.get? c=some o->h'.get? c=some o)->Q (.ref (n+4)) {v with heap:=h'}):
  wpAny 667 A (call (.type "zip") [.ref l1,.ref l2]) Q E v:=by
 refine callType_new F.called_zip 7 (F.typeCall_zip_2 _ _) (F.newCall_zip_2 _ _) (λobj=>F.args_object_init_3 obj _ _) F.entry_zip_new (ab6 l1 l2 xs ys) {h1,h2,?_};have e1:(Yr v.heap l1).objs.size=v.heap.objs.size+1:=dk ..;have e2:(Yq v.heap l1 l2).objs.size=v.heap.objs.size+2:=by rw[dk,e1]
 have e3:(Yp v.heap l1 l2).objs.size=v.heap.objs.size+3:=by rw[dk,e2]
 have e4:(Yo v.heap l1 l2).objs.size=v.heap.objs.size+4:=by rw[dk,e3]
 have g5:(OD v.heap l1 l2).get? (Yo v.heap l1 l2).objs.size=some _:=aU _ rfl;have g4:(OD v.heap l1 l2).get? (Yp v.heap l1 l2).objs.size=some _:=ao _ (aU _ 9);have g3:(OD v.heap l1 l2).get? (Yq v.heap l1 l2).objs.size=some _:=ao _ (ao _ (aU _ 9));have g2:(OD v.heap l1 l2).get? (Yr v.heap l1).objs.size=some _:=ao _ (ao _ (ao _ (aU _ 9)));have g1:(OD v.heap l1 l2).get? v.heap.objs.size=some _:=ao _ (ao _ (ao _ (ao _ (aU _ 9))));rw[e2,e3,e4]at g5;rw[e1,e2]at g3;rw[e3]at g4;rw[e1]at g2;rw[e4];exact{⟨_,g5,rfl⟩,q _ _ rfl {g5,g3,⟨_,_,g4⟩,⟨_,g1,rfl,rfl⟩,⟨_,g2,rfl,rfl⟩} λc o x=>ao _ (ao _ (ao _ (ao _ (ao _ x))))}
def VS(K:Frag)(a b:Addr):It:=
 {λi H=>∃xs ys x y,aZ K H a xs/\aZ K H b ys/\xs[i]?=some x/\ys[i]?=some y,
  λi H u H'=>∃p x y,u=.ref p/\H p=none/\H'=upd H p (.tup [x,y])/\(∀xs,aZ K H a xs->xs[i]?=some x)/\∀ys,aZ K H b ys->ys[i]?=some y,
  λi H=>∃xs,aZ K H a xs/\xs.length=i}
def qz(z ti to i1 i2:Addr):Aah:=[z,ti,to,i1,i2]
end
def V5{K:Frag}(a b z ti to i1 i2:Addr)(dd:VP z ti to i1 i2 a b):Turn P w K (.Tuple elts kk ps) (VS K a b) (qz z ti to i1 i2) z (λi h=>Zt h z ti to i1 i2 a b .none i) where
 mem:=aF
 obj:=λi h st c hc=>by
  obtain⟨gs,gi,⟨u,v,go⟩,⟨o1,q1,c1,d1⟩,⟨o2,q2,c2,d2⟩⟩:=st;rcases(by simpa[qz]using hc)with rfl|rfl|rfl|rfl|rfl
  ·exact{_,gs,λv z=>by cases z}
  ·exact{_,gi,λv z=>by cases z}
  ·exact{_,go,λv z=>by cases z}
  ·exact{_,q1,λv z=>by rw[d1]at z;cases z}
  ·exact{_,q2,λv z=>by rw[d2]at z;cases z}
 keep:=λi h h' st k=>by obtain⟨gs,gi,⟨u,v,go⟩,⟨o1,q1,r1⟩,⟨o2,q2,r2⟩⟩:=st;exact{k z (by simp[qz]) _ gs,k ti (by simp[qz]) _ gi,{u,v,k to (by simp[qz]) _ go},{o1,k i1 (by simp[qz]) _ q1,r1},{o2,k i2 (by simp[qz]) _ q2,r2}}
 item:=by
  intro X hP hw hK hc i pins s Z H E I hf st hg;subst hP hw hK;obtain⟨xs,ys,x,y,ha,hb,hx,hy⟩:=hg;obtain⟨MI,Lz,F5,bU⟩:=I.tuple ha;obtain⟨xt,YQ,Jf,bV⟩:=I.tuple hb;obtain⟨u1,MP,S1⟩:=Lz.get hx;obtain⟨u2,zd,SY⟩:=YQ.get hy;refine aao dd st (show s.heap.IsTuple a MI.toArray from F5) (show s.heap.IsTuple b xt.toArray from Jf) (by simpa using MP) (by simpa using zd) λh1 g1 pr kp=>{_,9,?_};refine wpAny_letOwnedTupleGo_zip g1.self λh2 z2 sb=>?_;have BH:=sb;have lz:=aY st.self;have al:∀c∈qz z ti to i1 i2,c<s.heap.objs.size:=λc hc=>by
   obtain⟨gs,gi,⟨u,v,go⟩,⟨o1,q1,r1⟩,⟨o2,q2,r2⟩⟩:=id st;rcases(by simpa[qz]using hc)with rfl|rfl|rfl|rfl|rfl
   ·exact aY gs
   ·exact aY gi
   ·exact aY go
   ·exact aY q1
   ·exact aY q2
  have Uj:∀c o,c∉qz z ti to i1 i2->s.heap.get? c=some o->h2.get? c=some o:=λc o hc e=>
   BH.extBut c o 692 (kp c o 692 692 692 692 e)
  have I2:=I.aaB (t':=s.toks) Uj hf (aw _) ({{_,BH.extBut _ _ (cu lz) pr,9,_,9},_,BH.extBut _ _ (cu lz) pr,9}) (.cons S1 (.cons SY .nil)) 96;obtain⟨⟨n1,n2,n3,n4⟩,n5,n6,n7,n8⟩:=g1.ne;obtain⟨gs,gi,⟨u,v,go⟩,⟨o1,q1,r1⟩,⟨o2,q2,r2⟩⟩:=g1;refine{352,_,I2,9,{_,x,y,9,683,9,λzs hz=>by rw[I.tQ hz ha];exact hx,λzs hz=>by rw[I.tQ hz hb];exact hy},{z2,BH.extBut _ _ n1 gi,{u,v,BH.extBut _ _ n2 go},{o1,BH.extBut _ _ n3 q1,r1},{o2,BH.extBut _ _ n4 q2,r2}},λc hc=>?_};rw[aL (aX (al c hc))];exact(hf c hc).1
 done:=by intro X hP hw hK hc i pins s Z H E I hf st hg;subst hP hw hK;obtain⟨xs,ha,hx⟩:=hg;obtain⟨MI,Lz,F5,bU⟩:=I.tuple ha;have hl:=Lz.length;refine aan (I.ok.hd hc) dd st (show s.heap.IsTuple a MI.toArray from F5) (by simp;lia) λh1 kp=>{9,I.aaC (λc o hc e=>kp c o 692 692 692 692 e) hf}
 self:=λ_ _ _ _ _ st h=>vq st.self h
inductive adx(K:Frag)(R:It->Hp->Prop)(vs:Aam)(H1:Hp):Prop
 |mk a b (_:vs=[.ref a,.ref b]) (_:(∃xs,aZ K H1 a xs)) (_:(∃ys,aZ K H1 b ys)) (_:R (VS K a b) H1)
def ae2(K:Frag)(ta:TA):TI:=λZ H R=>ta Z H λvs H1=>adx K R vs H1
def Pb(hg:Gl X "zip")(hm:X.mg "zip"=none)(ha:PA X [a,b] ta)(hs:starEach [a,b] X.env=[(false,eval a X.env),(false,eval b X.env)]:=by rfl)(kE:starEach [b] X.env=[(false,eval b X.env)]:=by rfl):
  PI X (.Tuple elts kk ps) (.Call (.Name "zip" p) [a,b] [] pos) (ae2 X.K ta):=by
 intro pins s Z H R I h;refine Hg (rp I hg hm boot_zip (eO 703 (by rw[hs,kE]) (by rw[kE];rfl)));obtain⟨l1,l2,e,⟨xs,ha⟩,⟨ys,hb⟩,q⟩:=q1;subst e;obtain⟨u1,u2,rfl,S1,SY⟩:=vals2 r1;cases S1;cases SY;obtain⟨MI,Lz,F5,bU⟩:=I1.tuple ha;obtain⟨xt,YQ,Jf,bV⟩:=I1.tuple hb;have t1:=F5;have t2:=Jf;have b1:l1<s1.heap.objs.size:=by obtain⟨o,e,_⟩:=t1;exact aY e
 have b2:l2<s1.heap.objs.size:=by obtain⟨o,e,_⟩:=t2;exact aY e
 refine aat t1 t2 λh' n en g kp=>?_;subst en;refine vq g.self ?_;refine{_,_,_,_,H1,9,(I1.kept (t':=s1.toks) kp),V5 l1 l2 _ _ _ _ _ {?_,λt=>absurd t (aX (eF _)),aX (bw b1 (eG _ _)),aX (bw b2 (eG _ _))},g,λc hc=>?_,q}
 ·exactλt=>absurd t (aX (eF _))
 ·have JI:c=s1.heap.objs.size+4\/c=s1.heap.objs.size+2\/c=s1.heap.objs.size+3\/c=s1.heap.objs.size\/c=s1.heap.objs.size+1:=by simpa[qz]using hc
  have lc:s1.heap.objs.size<=c:=by rcases JI with e|e|e|e|e<;>rw[e]<;>first|exact aw _|exact eG _ _
  exact I1.uD lc (I1.bQ.fresh lc)
def Nr{K:Frag}{a b:Addr}{xs ys:Aam}{g:TG}{tb:TS}{D:Ends}{Z:St}{H:Hp}(Pv:Nat->St->Hp->Prop)(le:xs.length=ys.length)(h0:Pv 0 Z H)(hl:∀i Z H,i<=xs.length->Pv i Z H->aZ K H a xs/\aZ K H b ys)
  (hs:∀i x y p Z H,xs[i]?=some x->ys[i]?=some y->Pv i Z H->H p=none->g 676 Z (upd H p (.tup [x,y])) λσ2 H2=>tb {D with nx:=Pv (i+1),ct:=Pv (i+1),bk:=D.nx} σ2 H2) (hd:∀Z H,Pv xs.length Z H->D.nx Z H):
  ∃W:Nat->Nat->St->Hp->Prop,(∃m,W 0 m Z H)/\∀i m Z H,W i m Z H->
   ((VS K a b).stop i H/\D.nx Z H)\/((VS K a b).go i H/\∃N:St->Hp->Prop,(∀σ' H',N σ' H'->∃m',m'<m/\W (i+1) m' σ' H')/\∀x H',(VS K a b).D4 i H x H'->g x Z H' λσ2 H2=>tb {D with nx:=N,ct:=N,bk:=D.nx} σ2 H2):=by
 refine{λi m Z H=>m=xs.length -i/\i<=xs.length/\Pv i Z H,{xs.length,59,aP _,h0},?_};rintro i m Z H ⟨rfl,hi,p⟩;obtain⟨q1,q2⟩:=hl i Z H hi p;by_cases bO:i<xs.length
 ·refine .inr {{xs,ys,xs[i],ys[i]'∅,q1,q2,by simp[bO],ay _},Pv (i+1),λσ' H' p'=>{xs.length -(i+1),8,9,bO,p'},λx H' y=>?_};obtain⟨r,u,v,rfl,hr,rfl,y1,y2⟩:=y;exact hs i u v r Z H (y1 xs q1) (y2 ys q2) p hr
 ·have e:i=xs.length:=by lia
  subst e;exact .inl {⟨xs,q1,rfl⟩,hd Z H p}
end L2
namespace Tb
open PySem PySem.SetTable
def S:Nat->Nat
 |0=>0
 |n+1=>5*S n+1
def F:Nat->Nat->Nat
 |0,i=>i
 |n+1,i=>5*F n i+1
theorem N4:∀n i,F n i=i+S n*(4*i+1)
 |0,i=>by simp[F,S]
 |n+1,i=>by show 5*F n i+1=i+(5*S n+1)*(4*i+1);rw[N4 n i,tL,k8,lO];lia
def aam(m:Nat):∀n i,F (m+n) i=F m (F n i):=by
 intro n i
 induction m with
 |zero=>simp[F]
 |succ m ih=>
  rw[show m+1+n=(m+n)+1 by lia];show 5*F (m+n) i+1=5*F m (F n i)+1;rw[ih]
def afr(n:Nat):S (n+n)=2*S n*(2*S n+1):=by have h:=aam n n 0;rw[N4,N4 n (F n 0),N4 n 0]at h;simp only[Nat.mul_zero,Nat.zero_add,Nat.mul_one]at h;rw[h];generalize S n=x;rw[lO,lO,show x*(4*x)=2*x*(2*x) by rw[uX,show(4:Nat)=2*2 from rfl,k8,k8,uX x 2 x]];lia
theorem aak:∀k,∃c,S (2^k)=2^k*(2*c+1)
 |0=>{0,9}
 |k+1=>by
  obtain⟨c,hc⟩:=aak k;refine{2*c*S (2^k)+c+S (2^k),?_};rw[show 2^(k+1)=2^k+2^k by rw[oG];lia,afr];generalize hs:S (2^k)=s at hc;have e:2*s*(2*s+1)=2*(2^k*(2*c+1))*(2*s+1):=by rw[<-hc]
  rw[e,<-Nat.two_mul,<-k8,k8 (2*2^k)];congr 1;rw[tL,lO,lO,lO];have:2*c*(2*s)=2*(2*c*s):=by rw[uX]
  lia
theorem cover:∀(k i j:Nat),∃n,n<2^k/\F n i % 2^k=j % 2^k
 |0,i,j=>{0,7,by simp[Nat.mod_one]}
 |k+1,i,j=>by
  obtain⟨n,hn,e⟩:=cover k i j;rw[oG];by_cases c:F n i/2^k % 2=j/2^k % 2
  ·exact{n,8,by rw[yx,yx,e,c]}
  ·obtain⟨z,hz⟩:=aak k;refine{2^k+n,8,?_};have e2:F (2^k+n) i=F n i+2^k*(2*(z*(4*F n i+1)+2*F n i)+1):=by rw[aam,N4 (2^k),hz,k8];congr 2;rw[tL,Nat.one_mul,k8];lia
   rw[e2,yx,yx,Nat.add_mul_mod_self_left,Nat.add_mul_div_left _ _ (Nat.two_pow_pos k),e];congr 2;lia
def ED(mask:Nat)(p:Probe):Probe:=
 if p.more>0 then{p with j:=p.j+1,more:=p.more -1}else
 {p with j:=(leap mask p.i p.perturb).1,more:=runEnd mask (leap mask p.i p.perturb).1 -(leap mask p.i p.perturb).1,i:=(leap mask p.i p.perturb).1,perturb:=(leap mask p.i p.perturb).2}
abbrev OQ(mask i q:Nat):Probe:={j:=i,more:=runEnd mask i -i,i:=i,perturb:=q,dummy:=none}
def pr(mask:Nat)(h:Int):Nat->Probe
 |0=>OQ mask (bits h %(mask+1)) (bits h)
 |d+1=>ED mask (pr mask h d)
def Wf(t:SetTable)(h:Int):t.probeStart h=pr t.mask h 0:=9
def ps(mask:Nat)(h:Int)(d:Nat):Nat:=(pr mask h d).j
def lp(mask:Nat)(h:Int):Nat->Nat×Nat
 |0=>(bits h %(mask+1),bits h)
 |n+1=>leap mask (lp mask h n).1 (lp mask h n).2
def run(mask i:Nat):Nat:=runEnd mask i -i
def Tn(mask:Nat)(h:Int):Nat->Nat
 |0=>0
 |n+1=>Tn mask h n+run mask (lp mask h n).1+1
def acG(mask i:Nat):run mask i<=09:=by unfold run runEnd;split<;>lia
theorem aaj(mask:Nat)(h:Int):∀n,Tn mask h n<=10*n
 |0=>aw _
 |n+1=>by have:=aaj mask h n;have:=acG mask (lp mask h n).1;show Tn mask h n+run mask (lp mask h n).1+1<=_;lia
def aaZ(mask:Nat)(h:Int):∀n,pr mask h (Tn mask h n)=OQ mask (lp mask h n).1 (lp mask h n).2/\∀e,e<=run mask (lp mask h n).1->pr mask h (Tn mask h n+e)={j:=(lp mask h n).1+e,more:=run mask (lp mask h n).1 -e,i:=(lp mask h n).1,perturb:=(lp mask h n).2,dummy:=none}:=by
 have SW:∀n,pr mask h (Tn mask h n)=OQ mask (lp mask h n).1 (lp mask h n).2->∀e,e<=run mask (lp mask h n).1->pr mask h (Tn mask h n+e)={j:=(lp mask h n).1+e,more:=run mask (lp mask h n).1 -e,i:=(lp mask h n).1,perturb:=(lp mask h n).2,dummy:=none}:=by
  intro n h0 e
  induction e with
  |zero=>intro _;rw[wH,h0];rfl
  |succ e ih=>
   intro he;show ED mask (pr mask h (Tn mask h n+e))=_;rw[ih ∅];unfold ED;rw[aM (show run mask (lp mask h n).1 -e>0 by lia)];congr 1
 intro n
 induction n with
 |zero=>exact{9,SW 0 rfl}
 |succ n ih=>
  have h1:pr mask h (Tn mask h (n+1))=OQ mask (lp mask h (n+1)).1 (lp mask h (n+1)).2:=by show ED mask (pr mask h (Tn mask h n+run mask (lp mask h n).1))=_;rw[ih.2 _ (aw _)];unfold ED;rw[aI 59];rfl
  exact{h1,SW _ h1}
def F4{mask:Nat}(he:e<=run mask (lp mask h n).1):ps mask h (Tn mask h n+e)=(lp mask h n).1+e:=by unfold ps;rw[(aaZ mask h n).2 e he]
theorem aeY(mask:Nat)(h:Int):∀n,(lp mask h n).1<mask+1
 |0=>mQ _ (wF _)
 |n+1=>mQ _ (wF _)
theorem adi(mask:Nat)(h:Int):∀n,(lp mask h n).2=bits h/32^n
 |0=>by simp[lp]
 |n+1=>by show(lp mask h n).2/32=_;rw[adi mask h n,Nat.div_div_eq_div_mul,oG]
def abX(h:Int):bits h<2^64:=by unfold bits;lia
theorem Po{mask k:Nat}(hk:mask+1=2^k)(h:Int):∀n,(lp mask h (13+n)).1=F n (lp mask h 13).1 % 2^k
 |0=>by have:=aeY mask h 13;show(lp mask h 13).1=(lp mask h 13).1 % 2^k;rw[Nat.mod_eq_of_lt ∅]
 |n+1=>by
  show((lp mask h (13+n)).1*5+1+(lp mask h (13+n)).2/32) %(mask+1)=(5*F n (lp mask h 13).1+1) % 2^k;have q0:(lp mask h (13+n)).2/32=0:=by rw[adi];have h2:32^13<=32^(13+n):=AH 7 ∅;rw[Nat.div_eq_of_lt (show bits h<32^(13+n)from bw (dP (abX h) 7) h2)]
  rw[q0,Po hk h n,hk,wH,Nat.add_mod,Nat.mul_mod,Nat.mod_mod,<-Nat.mul_mod,<-Nat.add_mod,Nat.mul_comm]
def hits{mask k:Nat}(hk:mask+1=2^k)(h:Int)(hj:j<=mask):∃n,n<=13+mask/\(lp mask h n).1=j/\ps mask h (Tn mask h n)=j:=by obtain⟨n,hn,e⟩:=cover k (lp mask h 13).1 j;have e2:=Po hk h n;rw[e,Nat.mod_eq_of_lt ∅]at e2;refine{13+n,8,e2,?_};have:=F4 (mask:=mask) (h:=h) (n:=13+n) (aP _);rw[wH,wH]at this;rw[this,e2]
def QK{mask:Nat}:ps mask h d<=mask:=by
 have key:∀d,(pr mask h d).j+(pr mask h d).more<=mask:=by
  have base:∀i q,i<mask+1->(OQ mask i q).j+(OQ mask i q).more<=mask:=λi q hi=>by show i+(runEnd mask i -i)<=mask;unfold runEnd;split<;>lia
  intro d
  induction d with
  |zero=>exact base _ _ (mQ _ (wF _))
  |succ d ih=>
   show(ED mask (pr mask h d)).j+(ED mask (pr mask h d)).more<=mask;unfold ED;split
   ·show(pr mask h d).j+1+((pr mask h d).more -1)<=mask;lia
   ·exact base _ 0 (mQ _ (wF _))
 have:=key d;unfold ps;lia
def least{p:Nat->Prop}:∀{n},p n->∃m,m<=n/\p m/\∀e,e<m->¬p e:=by
 intro n
 induction n using Nat.strongRecOn with
 |ind n ih=>
  intro hn;by_cases c:∃e,e<n/\p e
  ·obtain⟨e,he,pe⟩:=c;obtain⟨m,h1,h2,h3⟩:=ih e he pe;exact{m,8,h2,h3}
  ·exact{n,aw _,hn,λe he pe=>c ⟨e,he,pe⟩}
def oA(xs:Array Nat):Prop:=∀i k,i<k->k<xs.size->xs.getD i 0<xs.getD k 0
def XD{xs:Array Nat}(h:i<xs.size):xs.getD i a=xs.getD i b:=by simp[Array.getD,h]
def getD_some{xs:Array Nat}:xs[i]?=some j↔i<xs.size/\xs.getD i 0=j:=by
 constructor
 ·intro e;obtain⟨h,e⟩:=il.mp e;exact{h,by simp[Array.getD,h,e]}
 ·rintro⟨h,e⟩;simpa[Array.getD,h]using e
theorem Fs(hr:oA xs)(j:Nat):∀(f lo hi:Nat),lo<=hi->hi<=xs.size->hi -lo<=f->(∀i,i<lo->xs.getD i 0<j)->(∀i,hi<=i->i<xs.size->j<=xs.getD i 0)->
  below.go xs j f lo hi<=xs.size/\(∀i,i<below.go xs j f lo hi->xs.getD i 0<j)/\∀i,below.go xs j f lo hi<=i->i<xs.size->j<=xs.getD i 0
 |0,lo,hi,h1,h2,h3,h4,h5=>by show lo<=xs.size/\(∀i,i<lo->xs.getD i 0<j)/\∀i,lo<=i->i<xs.size->j<=xs.getD i 0;exact{8,h4,λi a b=>h5 i ∅ b}
 |f+1,lo,hi,h1,h2,h3,h4,h5=>by
  unfold below.go;by_cases c:lo<hi
  ·simp only[aM c];have hm:(lo+hi)/2<xs.size:=by lia
   rw[XD (b:=0) hm];by_cases d:xs.getD ((lo+hi)/2) 0<j
   ·simp only[aM d];refine Fs hr j f _ _ ∅ h2 ∅ (λi hi'=>?_) h5;by_cases e:i=(lo+hi)/2
    ·rw[e];exact d
    ·exact dP (hr i _ ∅ hm) d
   ·simp only[aI d];refine Fs hr j f _ _ ∅ ∅ ∅ h4 λi a b=>?_;by_cases e:i=(lo+hi)/2
    ·rw[e];lia
    ·have:=hr ((lo+hi)/2) i ∅ b;lia
  ·simp only[aI c];exact{8,h4,λi a b=>h5 i ∅ b}
def vg(hr:oA xs)(j:Nat):below xs j<=xs.size/\(∀i,i<below xs j->xs.getD i 0<j)/\∀i,below xs j<=i->i<xs.size->j<=xs.getD i 0:=
 Fs hr j xs.size 0 xs.size (aP _) (aw _) ∅ (λi h=>absurd h (fU _)) λi a b=>by lia
def below_at(hr:oA xs)(e:xs[i]?=some j):below xs j=i:=by
 obtain⟨h1,h2,h3⟩:=vg hr j;obtain⟨hi,e⟩:=getD_some.mp e;rcases lT (below xs j) i with c|c|c
 ·have:=h3 _ (aw _) ∅;have:=hr _ _ c hi;lia
 ·exact c
 ·have:=h2 i c;lia
def Ja{t:SetTable}(hr:oA t.place)(e:t.place[i]?=some j):t.slot j=.live i:=by unfold SetTable.slot;rw[below_at hr e];simp[e]
def SI{t:SetTable}(hd:t.dummies=#[])(e:∀i:Nat,t.place[i]?≠some j):t.slot j=.empty:=by unfold SetTable.slot;rw[aI (λh=>e _ (dW h)),hd];rw[aI (by simp[has])]
def RG{mask:Nat}(hr:oA xs)(hs:xs.size<=mask):∃j:Nat,j<=mask/\∀i:Nat,xs[i]?≠some j:=by
 by_cases c:∃j:Nat,j<=mask/\∀i:Nat,xs[i]?≠some j
 ·exact c
 ·exfalso;have all:∀j:Nat,j<=mask->∃i:Nat,xs[i]?=some j:=λj hj=>vi λn=>c {j,hj,λi e=>n ⟨i,e⟩};have key:∀m:Nat,m<=mask->xs[m]?=some m:=by
   intro m
   induction m using Nat.strongRecOn with
   |ind m ih=>
    intro hm;obtain⟨i,e⟩:=all m hm;rcases lT i m with q|q|q
    ·have:=ih i q ∅;rw[this]at e;cases e;lia
    ·rw[<-q];rw[q]at e⊢;exact e
    ·obtain⟨hi,ei⟩:=getD_some.mp e;have h1:=hr m i q hi;have h2:m<=xs.getD m 0:=by
      cases m with
      |zero=>exact aP _
      |succ m=>
       obtain⟨_,e3⟩:=getD_some.mp (ih m ∅ ∅);have:=hr m (m+1) ∅ ∅;lia
     lia
  obtain⟨h,_⟩:=getD_some.mp (key mask (aw _));lia
structure Tab(t:SetTable)(hs:List Int):Prop where
 pow:∃k,t.mask+1=2^k
 big:07<=t.mask
 Vt:t.dummies=#[]
 rise:oA t.place
 sz:t.place.size=hs.length
 mC:hs.length<=t.mask
 le:∀i j:Nat,t.place[i]?=some j->j<=t.mask
 reach:∀(i:Nat)(h:Int),hs[i]?=some h->∃d,t.place[i]?=some (ps t.mask h d)/\∀e,e<d->∃i':Nat,t.place[i']?=some (ps t.mask h e)
def Tab.fits(T:Tab t hs):t.fits hs.length=true:=by unfold SetTable.fits SetTable.fill;have h1:=T.sz;have h2:=T.mC;rw[T.Vt,h1];simp[h2]
def Tab.way(T:Tab t hs):t.gaveWay=false:=by
 obtain⟨k,hk⟩:=T.pow;have:=T.big;unfold SetTable.gaveWay;cases k with
 |zero=>rw[Nat.pow_zero]at hk;lia
 |succ k=>rw[oG]at hk;simp;lia
def Tab.fresh(finger moves:Nat)(led:Bool):Tab (.fresh finger moves led) [] where
 pow:={3,9}
 big:=aw 07
 Vt:=9
 rise:=λi k _ h=>absurd h (fU _)
 sz:=9
 mC:=aP _
 le:=λi j e=>by simp[SetTable.fresh]at e
 reach:=λi h e=>by simp at e
structure Sb(t:SetTable)(h:Int)(D:Nat):Prop where
 lt:D<10*turns t.mask
 no:∀i:Nat,t.place[i]?≠some 656
 ahead:∀e,e<D->∃i:Nat,t.place[i]?=some (ps t.mask h e)
def Tab.free(T:Tab t hs)(h:Int):∃D,Sb t h D:=by obtain⟨k,hk⟩:=T.pow;obtain⟨j,hj,hn⟩:=RG T.rise (show t.place.size<=t.mask by rw[T.sz];exact T.mC);obtain⟨n,MV,_,e⟩:=hits hk h hj;obtain⟨D,h1,h2,h3⟩:=least (p:=λd=>∀i:Nat,t.place[i]?≠some (ps t.mask h d)) (n:=Tn t.mask h n) (by rw[e];exact hn);have:=aaj t.mask h n;refine{D,by unfold turns;lia,h2,λe he=>vi λq=>h3 e he λi z=>q ⟨i,z⟩}
theorem LM(mask:Nat)(h:Int):∀d,(pr mask h d).dummy=none
 |0=>rfl
 |d+1=>by show(ED mask (pr mask h d)).dummy=none;unfold ED;split<;>exact LM mask h d
def Tab.live(T:Tab t hs){i j:Nat}(e:t.place[i]?=some j):∃h,hs[i]?=some h:=by obtain⟨hi,_⟩:=getD_some.mp e;rw[T.sz]at hi;exact{_,ay hi}
theorem LL(T:Tab t hs)(fr:Sb t h D)(ha:∀(i:Nat)(g:Int),hs[i]?=some g->hashAt i=g):∀(f d:Nat),d<=D->D -d<f->
  (probe.go t hashAt h f (pr t.mask h d)=some (.empty 656 none)/\∀e,d<=e->e<D->∀i:Nat,t.place[i]?=some (ps t.mask h e)->hs[i]?≠some h)\/
  ∃e i,d<=e/\e<D/\t.place[i]?=some (ps t.mask h e)/\hs[i]?=some h/\probe.go t hashAt h f (pr t.mask h d)=some (.candidate (ps t.mask h e) i (pr t.mask h (e+1)))/\∀e',d<=e'->e'<e->∀i':Nat,t.place[i']?=some (ps t.mask h e')->hs[i']?≠some h
 |0,d,_,hf=>absurd hf (fU _)
 |f+1,d,hd,hf=>by
  unfold probe.go;by_cases c:d=D
  ·subst c;have e:t.slot (pr t.mask h d).j=.empty:=SI T.Vt fr.no;rw[e];refine .inl {?_,λe a b=>by lia};show some (Met.empty (ps t.mask h d) (pr t.mask h d).dummy)=_;rw[LM]
  ·obtain⟨i,hi⟩:=fr.ahead d ∅;have e:t.slot (pr t.mask h d).j=.live i:=Ja T.rise hi;rw[e];obtain⟨g,hg⟩:=T.live hi;have hu:∀i':Nat,t.place[i']?=some (ps t.mask h d)->i'=i:=λi' q=>by rw[<-below_at T.rise q,<-below_at T.rise hi]
   by_cases c2:hashAt i=h
   ·refine .inr {d,i,aw _,8,hi,?_,?_,λe' a b=>by lia}
    ·rw[ha i g hg]at c2;rw[hg,c2]
    ·show(if(hashAt i==h)=true then some (Met.candidate (ps t.mask h d) i (t.advance (pr t.mask h d)))else probe.go t hashAt h f (t.advance (pr t.mask h d)))=_;rw[aM (c2▸BEq.rfl)];rfl
   ·have no:∀i':Nat,t.place[i']?=some (ps t.mask h d)->hs[i']?≠some h:=λi' q z=>by rw[hu i' q]at z;exact c2 (ha i h z)
    have eq:(if(hashAt i==h)=true then some (Met.candidate (ps t.mask h d) i (t.advance (pr t.mask h d)))else probe.go t hashAt h f (t.advance (pr t.mask h d)))=probe.go t hashAt h f (pr t.mask h (d+1)):=by rw[aI (by simpa using c2)];rfl
    rcases(LL T fr ha f (d+1) ∅ ∅)with⟨h1,h2⟩|⟨e,i2,h1,h2,h3,h4,h5,h6⟩
    ·refine .inl {eq.trans h1,λe a b i' q=>?_};by_cases z:e=d
     ·rw[z]at q;exact no i' q
     ·exact h2 e ∅ b i' q
    ·refine .inr {e,i2,8,h2,h3,h4,eq.trans h5,λe' a b i' q=>?_};by_cases z:e'=d
     ·rw[z]at q;exact no i' q
     ·exact h6 e' ∅ b i' q
def kA(l:List α)(p:Nat)(x:α):List α:=l.take p++x::l.drop p
def MK(l:List α)(x:α)(hp:p<=l.length)(i:Nat):(kA l p x)[i]?=if i<p then l[i]? else if i=p then some x else l[i -1]?:=by
 unfold kA;by_cases c:i<p
 ·rw[aM c,kg (by rw[a9];lia),wJ c]
 ·rw[aI c,ik (by rw[a9];lia),a9,lC hp];by_cases c2:i=p
  ·rw[aM c2,c2,wG];rfl
  ·rw[aI c2,show i -p=(i -p -1)+1 by lia,List.getElem?_cons_succ,List.getElem?_drop];congr 1;lia
def yg(l:List α)(x:α)(hp:p<=l.length):(kA l p x).length=l.length+1:=by unfold kA;rw[aD,bF,a9,dE];lia
def Ux(l:List α)(p:Nat)(x:α):(kA l p x).Perm (x::l):=by refine List.perm_middle.trans ?_;rw[jP]
def MJ(f:α->β)(l:List α)(p:Nat)(x:α):(kA l p x).map f=kA (l.map f) p (f x):=by unfold kA;simp
def rA(xs:Array α)(p:Nat)(x:α):(insertAt xs p x).toList=kA xs.toList p x:=by unfold insertAt kA;simp[c7]
def oA.of_get(h:∀i k a b:Nat,i<k->xs[i]?=some a->xs[k]?=some b->a<b):oA xs:=λi k MZ hk=>
 h i k _ _ MZ (getD_some.mpr {8,9}) (getD_some.mpr ⟨hk,rfl⟩)
def oA.get(h:oA xs){i k a b:Nat}(MZ:i<k)(ha:xs[i]?=some a)(hb:xs[k]?=some b):a<b:=by obtain⟨h1,e1⟩:=getD_some.mp ha;obtain⟨h2,e2⟩:=getD_some.mp hb;have:=h i k MZ h2;lia
def BS{t:SetTable}(hr:oA t.place)(j i:Nat):(t.put j).1.place[i]?=if i<below t.place j then t.place[i]? else if i=below t.place j then some j else t.place[i -1]?:=by show(insertAt t.place (below t.place j) j)[i]?=_;rw[<-dy,rA,MK _ _ (by rw[bJ];exact(vg hr j).1)];simp only[dy]
def HE{t:SetTable}(hr:oA t.place){i v:Nat}(e:t.place[i]?=some v):∃i':Nat,(t.put j).1.place[i']?=some v:=by
 by_cases c:i<below t.place j
 ·exact{i,by rw[BS hr,aM c,e]}
 ·exact{i+1,by rw[BS hr,aI ∅,aI ∅,Nat.add_sub_cancel,e]}
def Tab.put(T:Tab t hs)(fr:Sb t h D)(room:hs.length+1<=t.mask):Tab (t.put 656).1 (kA hs (t.put 656).2 h):=by
 have hb:=vg T.rise 656;have hp:(t.put 656).2=below t.place 656:=9;have jD:below t.place 656<=hs.length:=by rw[<-T.sz];exact hb.1
 rw[hp];have pl:=λi=>BS T.rise 656 i;have hl:=MK hs h jD;have at_:(t.put 656).1.place[below t.place 656]?=some 656:=by rw[pl,aI (da _),aM rfl]
 have lo:∀i a:Nat,i<below t.place 656->t.place[i]?=some a->a<ps t.mask h D:=λi a c e=>by obtain⟨_,e⟩:=getD_some.mp e;have:=hb.2.1 i c;lia
 have hi:∀i a:Nat,below t.place 656<=i->t.place[i]?=some a->ps t.mask h D<a:=λi a c e=>by obtain⟨l,e'⟩:=getD_some.mp e;have:=hb.2.2 i c l;have ne:a≠ps t.mask h D:=λz=>fr.no i (by rw[e,z]);lia
 refine{T.pow,T.big,?_,?_,?_,?_,λi j e=>?_,λi g e=>?_}
 ·show(if has t.dummies 656=true then _ else t.dummies)=_;rw[T.Vt];simp[has]
 ·refine oA.of_get λi k a b MZ ha jf=>?_;rw[pl]at ha jf;by_cases c1:i<below t.place 656
  ·rw[aM c1]at ha;by_cases c2:k<below t.place 656
   ·rw[aM c2]at jf;exact T.rise.get MZ ha jf
   ·rw[aI c2]at jf;by_cases c3:k=below t.place 656
    ·rw[aM c3]at jf;cases jf;exact lo i a c1 ha
    ·rw[aI c3]at jf;exact dP (lo i a c1 ha) (hi _ b ∅ jf)
  ·rw[aI c1]at ha;rw[aI ∅,aI ∅]at jf;by_cases c3:i=below t.place 656
   ·rw[aM c3]at ha;cases ha;exact hi _ b ∅ jf
   ·rw[aI c3]at ha;exact T.rise.get ∅ ha jf
 ·rw[yg _ _ jD,<-T.sz,<-bJ];show(insertAt t.place (below t.place 656) 656).toList.length=_;rw[rA,yg _ _ (by rw[bJ];exact hb.1),bJ]
 ·rw[yg _ _ jD];exact room
 ·rw[pl]at e;by_cases c1:i<below t.place 656
  ·rw[aM c1]at e;exact T.le i j e
  ·rw[aI c1]at e;by_cases c3:i=below t.place 656
   ·rw[aM c3]at e;cases e;exact QK
   ·rw[aI c3]at e;exact T.le _ j e
 ·have mk:(t.put 656).1.mask=t.mask:=9;rw[mk];rw[hl]at e;by_cases c1:i<below t.place 656
  ·rw[aM c1]at e;obtain⟨d,h1,h2⟩:=T.reach i g e;exact{d,by rw[pl,aM c1];exact h1,λx hx=>let⟨_,q⟩:=h2 x hx;HE T.rise q}
  ·rw[aI c1]at e;by_cases c3:i=below t.place 656
   ·rw[aM c3]at e;cases e;exact{D,by rw[c3];exact at_,λx hx=>let⟨_,q⟩:=fr.ahead x hx;HE T.rise q}
   ·rw[aI c3]at e;obtain⟨d,h1,h2⟩:=T.reach _ g e;exact{d,by rw[pl,aI c1,aI c3];exact h1,λx hx=>let⟨_,q⟩:=h2 x hx;HE T.rise q}
def Tab.of_eq(T:Tab t hs)(h1:t'.mask=t.mask)(h2:t'.place=t.place)(h3:t'.dummies=t.dummies):Tab t' hs:=by obtain⟨a1,a2,a3,a4,a5,a6,a7,a8⟩:=T;rw[<-h1]at a1 a2 a6 a7 a8;rw[<-h2]at a4 a5 a7 a8;rw[<-h3]at a3;exact⟨a1,a2,a3,a4,a5,a6,a7,a8⟩
structure Own(mask:Nat)(ow:Array (Option Nat))(hs:List Int):Prop where
 sz:ow.size=mask+1
 lt:∀j i:Nat,ow[j]?=some (some i)->i<hs.length
 inj:∀j j' i:Nat,ow[j]?=some (some i)->ow[j']?=some (some i)->j=j'
 at_:∀(i:Nat)(h:Int),hs[i]?=some h->∃d,ow[ps mask h d]?=some (some i)/\∀e,e<d->∃i':Nat,ow[ps mask h e]?=some (some i')
def Own.empty{mask:Nat}(O:Own mask ow hs)(mC:hs.length<=mask):∃j:Nat,j<=mask/\ow[j]?=some none:=by
 by_cases c:∃j:Nat,j<=mask/\ow[j]?=some none
 ·exact c
 ·exfalso;have all:∀j:Nat,j<=mask->ow[j]?=some (some ((ow.getD j none).getD 0)):=λj hj=>by
   have hl:j<ow.size:=by rw[O.sz];lia
   have e:ow[j]?=some (ow.getD j none):=by rw[cI hl];simp[Array.getD,hl]
   cases q:ow.getD j none with
   |none=>exact(c {j,hj,by rw[e,q]}).elim
   |some i=>rw[e,q];rfl
  have nd:((List.range (mask+1)).map λj=>(ow.getD j none).getD 0).Nodup:=by
   refine j4.mpr (List.Pairwise.imp_of_mem (λ{a b} ha hb ne e=>ne (O.inj a b _ (all a ?_) (e▸all b ?_))) List.nodup_range)
   ·have:=cE.mp ha;lia
   ·have:=cE.mp hb;lia
  have sub:((List.range (mask+1)).map λj=>(ow.getD j none).getD 0)⊆List.range hs.length:=λx hx=>by obtain⟨j,hj,rfl⟩:=aE.mp hx;have:=cE.mp hj;exact cE.mpr (O.lt j _ (all j ∅))
  have:=List.Nodup.length_le_of_subset nd sub;rw[aj,eW,eW]at this;lia
def ab2(mask:Nat)(h:Int)(hmn:m<=n):Tn mask h m<=Tn mask h n:=by
 induction n with
 |zero=>rw[Nat.le_zero.mp hmn];exact aw _
 |succ n ih=>
  by_cases c:m=n+1
  ·rw[c];exact aw _
  ·have:=ih ∅;show _<=Tn mask h n+run mask (lp mask h n).1+1;lia
def aaQ(mask i:Nat):runEnd mask i+1 -i=run mask i+1:=by unfold run runEnd;split<;>lia
theorem P4{mask:Nat}(hD:ow[ps mask h D]?=some none)(hb:∀e,e<D->∃i':Nat,ow[ps mask h e]?=some (some i'))(hn0:D<=Tn mask h n0):∀(f n:Nat),Tn mask h n<=D->n0 -n<f->layClean.free mask ow f (lp mask h n).1 (lp mask h n).2=some (ps mask h D)
 |0,n,_,hf=>absurd hf (fU _)
 |f+1,n,hn,hf=>by
  have own:∀e,e<=run mask (lp mask h n).1->Tn mask h n+e<D->(ow.getD ((lp mask h n).1+e) (some 0)).isNone=false:=λe he bO=>by obtain⟨i',q⟩:=hb _ bO;rw[F4 he]at q;obtain⟨l,q⟩:=il.mp q;simp[Array.getD,l,q]
  unfold layClean.free;rw[aaQ];by_cases c:D<=Tn mask h n+run mask (lp mask h n).1
  ·have e1:(List.range (run mask (lp mask h n).1+1)).find? (λk=>(ow.getD ((lp mask h n).1+k) (some 0)).isNone)=some (D -Tn mask h n):=by
    refine List.find?_range_eq_some.mpr {?_,cE.mpr ∅,λj hj=>?_}
    ·have q:=hD;rw[show D=Tn mask h n+(D -Tn mask h n) by lia,F4 ∅]at q;obtain⟨l,q⟩:=il.mp q;simp[Array.getD,l,q]
    ·rw[own j ∅ ∅];rfl
   simp only[e1];rw[<-F4 ∅,show Tn mask h n+(D -Tn mask h n)=D by lia]
  ·have e1:(List.range (run mask (lp mask h n).1+1)).find? (λk=>(ow.getD ((lp mask h n).1+k) (some 0)).isNone)=none:=by refine List.find?_range_eq_none.mpr λj hj=>?_;rw[own j ∅ ∅];rfl
   simp only[e1];have lt:n<n0:=by
    rcases Nat.lt_or_ge n n0 with q|q
    ·exact q
    ·have:=ab2 mask h q;lia
   exact P4 hD hb hn0 f (n+1) (by show Tn mask h n+run mask (lp mask h n).1+1<=D;lia) ∅
abbrev y0(mask:Nat)(acc:Option (Array (Option Nat)×Nat))(h:Int):Option (Array (Option Nat)×Nat):=do
  let(owner,k)<-acc
  let j<-layClean.free mask owner (turns mask) (bits h %(mask+1)) (bits h)
  pure (owner.setIfInBounds j (some k),k+1)
def Oj(mask:Nat)(hashes:Array Int):layClean mask hashes=(hashes.toList.foldl (y0 mask) (some (Array.replicate (mask+1) none,0))).map (·.1):=by rw[Array.foldl_toList];rfl
def Own.step{mask k:Nat}(hk:mask+1=2^k)(O:Own mask ow hs)(mC:hs.length<mask)(h:Int):∃Tt,y0 mask (some (ow,hs.length)) h=some (Tt,hs.length+1)/\Own mask Tt (hs++[h]):=by
 obtain⟨j,hj,ej⟩:=O.empty (bB mC);obtain⟨n0,hn0,_,e0⟩:=hits hk h hj;obtain⟨D,h1,h2,h3⟩:=least (p:=λd=>ow[ps mask h d]?=some none) (e0▸ej);have hb:∀e,e<D->∃i':Nat,ow[ps mask h e]?=some (some i'):=λe he=>by
  have l:ps mask h e<ow.size:=by rw[O.sz];have:=QK (mask:=mask) (h:=h) (d:=e);lia
  cases q:ow[ps mask h e]with
  |none=>exact(h3 e he (by rw[cI l,q])).elim
  |some i=>exact{i,by rw[cI l,q]}
 have ef':layClean.free mask ow (turns mask) (bits h %(mask+1)) (bits h)=some (ps mask h D):=(P4 h2 hb h1 (turns mask) 0 (aP _) (by unfold turns;lia));refine{ow.setIfInBounds (ps mask h D) (some hs.length),by simp[y0,ef'],?_};have get:∀x:Nat,(ow.setIfInBounds (ps mask h D) (some hs.length))[x]?=if x=ps mask h D then some (some hs.length)else ow[x]?:=λx=>by
  rw[Array.getElem?_setIfInBounds];by_cases c:x=ps mask h D
  ·rw[aM c,aM c.symm,aM (by rw[O.sz];have:=QK (mask:=mask) (h:=h) (d:=D);lia)]
  ·rw[aI c,aI (cM c)]
 have keep:∀x i:Nat,ow[x]?=some (some i)->(ow.setIfInBounds (ps mask h D) (some hs.length))[x]?=some (some i):=λx i e=>by rw[get,aI λz=>by rw[z,h2]at e;cases e];exact e
 refine{by simp[O.sz],λx i e=>?_,λx y i ex ey=>?_,λi g e=>?_}
 ·rw[get]at e;rw[aD,dv];by_cases c:x=ps mask h D
  ·rw[aM c]at e;cases e;lia
  ·rw[aI c]at e;have:=O.lt x i e;lia
 ·rw[get]at ex ey;by_cases c:x=ps mask h D
  ·rw[aM c]at ex;cases ex;by_cases c2:y=ps mask h D
   ·rw[c,c2]
   ·rw[aI c2]at ey;exact absurd (O.lt y _ ey) (da _)
  ·rw[aI c]at ex;by_cases c2:y=ps mask h D
   ·rw[aM c2]at ey;cases ey;exact absurd (O.lt x _ ex) (da _)
   ·rw[aI c2]at ey;exact O.inj x y i ex ey
 ·by_cases c:i<hs.length
  ·rw[kg c]at e;obtain⟨d,q1,q2⟩:=O.at_ i g e;exact{d,keep _ _ q1,λx hx=>let⟨i',q⟩:=q2 x hx;{i',keep _ _ q}}
  ·rw[ik ∅]at e;have ei:i=hs.length:=by
    rcases lT i hs.length with q|q|q
    ·lia
    ·exact q
    ·rw[mm (by rw[dv];lia)]at e;cases e
   subst ei;rw[wG]at e;cases e;exact{D,by rw[get,aM rfl],λx hx=>let⟨i',q⟩:=hb x hx;{i',keep _ _ q}}
theorem L3{mask k:Nat}(hk:mask+1=2^k):∀(rest:List Int)(ow:Array (Option Nat))(hs:List Int),Own mask ow hs->(hs++rest).length<=mask->∃Tt,rest.foldl (y0 mask) (some (ow,hs.length))=some (Tt,(hs++rest).length)/\Own mask Tt (hs++rest)
 |[],ow,hs,O,_=>{ow,59,by simpa using O}
 |h::rest,ow,hs,O,mC=>by rw[aD,bF]at mC;obtain⟨ow1,e1,O1⟩:=O.step hk ∅ h;obtain⟨ow2,e2,O2⟩:=L3 hk rest ow1 (hs++[h]) O1 (by rw[aD,aD,dv];lia);rw[dG]at e2 O2;refine{ow2,?_,O2};rw[gY,e1];rw[aD,dv]at e2;exact e2
def abt{mask k:Nat}(hk:mask+1=2^k)(big:07<=mask)(finger moves:Nat)(led plain:Bool)(hs:List Int)(mC:hs.length<=mask):
  ∃t order,laid mask finger moves led plain hs.toArray=some (t,order)/\t.mask=mask/\t.finger=finger/\t.led=led/\t.moves=moves/\t.plain=plain/\order.toList.Perm (List.range hs.length)/\Tab t (order.toList.map λi=>hs.getD i 0):=by
 have O0:Own mask (Array.replicate (mask+1) none) []:={59,λj i e=>by simp[wM]at e,λj j' i e=>by simp[wM]at e,λi h e=>by simp at e};obtain⟨ow,e,O⟩:=L3 hk hs _ _ O0 (by simpa using mC);rw[jQ]at e O;have el:layClean mask hs.toArray=some ow:=by rw[Oj];have e':(hs.toArray.toList.foldl (y0 mask) (some (Array.replicate (mask+1) none,0)))=some (ow,hs.length):=e;rw[e'];rfl
 obtain⟨live,JE⟩:∃live,live=(List.range (mask+1)).filterMap λj=>(ow.getD j none).map (j,·):=⟨_,rfl⟩;have mem:∀p:Nat×Nat,p∈live↔ow[p.1]?=some (some p.2):=λp=>by
  rw[JE,lE];constructor
  ·rintro⟨j,hj,q⟩;have lj:j<ow.size:=O.sz▸cE.mp hj;obtain⟨i,q1,q2⟩:=br.mp q;subst q2;rw[cI lj];have q3:ow[j]=some i:=by simpa[Array.getD,lj]using q1
   rw[q3]
  ·intro q;obtain⟨l,q'⟩:=il.mp q;refine{p.1,cE.mpr (O.sz▸l),?_};have q3:ow.getD p.1 none=some p.2:=by simp[Array.getD,l,q']
   rw[q3];rfl
 have sub:∀(j:Nat)(b:Nat×Nat),(ow.getD j none).map (j,·)=some b->b.1=j/\ow[j]?=some (some b.2):=λj b q=>by
  obtain⟨i,q1,q2⟩:=br.mp q;subst q2;refine{9,?_};by_cases l:j<ow.size
  ·rw[cI l];have q3:ow[j]=some i:=by simpa[Array.getD,l]using q1
   rw[q3]
  ·simp[Array.getD,l]at q1
 have p1:live.Pairwise (λa b=>a.1<b.1):=by rw[JE];refine xa _ (λa a' bO b hb b' jf=>?_) yz;rw[(sub a b hb).1,(sub a' b' jf).1];exact bO
 have p2:live.Pairwise (λa b=>a.2≠b.2):=by rw[JE];refine xa _ (λa a' bO b hb b' jf ne=>?_) yz;have q2:=(sub a' b' jf).2;rw[<-ne]at q2;have:=O.inj a a' _ ((sub a b hb).2) q2;lia
 have perm:(live.map (·.2)).Perm (List.range hs.length):=by
  refine(ng (j4.mpr p2) List.nodup_range).mpr λi=>?_;rw[cE,aE];constructor
  ·rintro⟨p,hp,rfl⟩;exact O.lt _ _ ((mem p).mp hp)
  ·intro hi;obtain⟨d,q,_⟩:=O.at_ i _ (ay hi);exact{(_,i),(mem (_,i)).mpr q,9}
 have ll:live.length=hs.length:=by have:=perm.length_eq;rwa [aj,eW]at this
 have pl:∀m:Nat,((live.map (·.1)).toArray)[m]?=live[m]?.map (·.1):=λm=>by simp
 refine⟨{mask,place:=(live.map (·.1)).toArray,dummies:=#[],finger,led,moves,plain},(live.map (·.2)).toArray,?_,rfl,rfl,rfl,rfl,rfl,by simpa using perm,?_⟩
 ·unfold laid;rw[el,JE];rfl
 ·refine{⟨k,hk⟩,big,9,?_,?_,?_,λi j q=>?_,λm h q=>?_}
  ·refine oA.of_get λi k a b MZ ha hb=>?_;rw[pl]at ha hb;obtain⟨x,hx,rfl⟩:=br.mp ha;obtain⟨y,hy,rfl⟩:=br.mp hb;obtain⟨lx,ex⟩:=au.mp hx;obtain⟨ly,ey⟩:=au.mp hy;subst ex ey;exact nJ.mp p1 i k lx ly MZ
  ·simp
  ·simp[ll,mC]
  ·rw[pl]at q;obtain⟨x,hx,rfl⟩:=br.mp q;have:=(mem x).mp (az hx);obtain⟨l,_⟩:=il.mp this;rw[O.sz]at l;show x.1<=mask;lia
  ·have q':(live.map λp=>hs.getD p.2 0)[m]?=some h:=by
    have e3:(live.map (·.2)).toArray.toList.map (λi=>hs.getD i 0)=live.map λp=>hs.getD p.2 0:=by simp
    rw[<-e3];exact q
   rw[aW]at q';obtain⟨x,hx,rfl⟩:=br.mp q';have hw:=(mem x).mp (az hx);have hl:=O.lt _ _ hw;have eh:hs[x.2]?=some (hs.getD x.2 0):=by rw[ay hl];simp[hl]
   obtain⟨d,d1,d2⟩:=O.at_ x.2 _ eh;refine{d,?_,λe he=>?_}
   ·show((live.map (·.1)).toArray)[m]?=some (ps mask (hs.getD x.2 0) d);rw[pl,hx,(O.inj _ _ _ d1 hw)];rfl
   ·obtain⟨i',q3⟩:=d2 e he;obtain⟨m',hm'⟩:=eP.mp ((mem (_,i')).mpr q3);refine{m',?_};rw[pl,hm'];rfl
theorem BB(n:Nat):∀(f j:Nat),n<2^(j+f)->∃k,j<=k/\sizeAbove.go n f (2^j)=2^k/\n<2^k/\(k=j\/2^k<=2*n)
 |0,j,h=>{j,aw _,9,h,.inl rfl}
 |f+1,j,h=>by
  unfold sizeAbove.go;by_cases c:2^j<=n
  ·rw[aM c,<-oG];obtain⟨k,h1,h2,h3,h4⟩:=BB n f (j+1) (by rw[show j+1+f=j+(f+1) by lia];exact h);refine{k,8,h2,h3,.inr ?_};rcases h4 with h4|h4
   ·rw[h4,oG];lia
   ·exact h4
  ·rw[aI c];exact{j,aw _,9,8,.inl rfl}
def BA(h:n<2^64):∃k,sizeAbove n=2^k/\08<=2^k/\n<2^k/\2^k<=2*n+08:=by
 obtain⟨k,h1,h2,h3,h4⟩:=BB n 64 3 (bw h 7);have:2^3<=2^k:=AH 7 h1;refine{k,h2,this,h3,?_};rcases h4 with h4|h4
 ·rw[h4];lia
 ·lia
def S4(t:SetTable)(hs:List Int)(h:n<2^64)(mC:hs.length<n):∃t' order,t.relaid hs.toArray n=some (t',order)/\n<=t'.mask/\t'.mask<=2*n+07/\t'.finger=t.finger/\t'.led=t.led/\t'.plain=t.plain/\order.toList.Perm (List.range hs.length)/\Tab t' (order.toList.map λi=>hs.getD i 0):=by obtain⟨k,e,h1,h2,h3⟩:=BA h;obtain⟨t',order,q1,q2,q3,q4,_,q5,q6,q7⟩:=abt (mask:=sizeAbove n -1) (k:=k) (by rw[e];lia) (by rw[e];lia) t.finger (t.movedTo (sizeAbove n -1)) t.led t.plain hs (by rw[e];lia);exact{t',order,q1,by rw[q2,e];lia,by rw[q2,e];lia,q3,q4,q5,q6,q7}
theorem BP{α:Type}:∀l:List α,(List.range l.length).filterMap (λi=>l[i]?)=l
 |[]=>rfl
 |x::l=>by rw[bF,yy,fI];show x::_=_;rw[uh];congr 1;exact BP l
def QP{α:Type}{es:Array α}{order:Array Nat}(hp:order.toList.Perm (List.range es.size)):(order.filterMap (es[·]?)).toList.Perm es.toList/\∀(g:α->Int),(order.filterMap (es[·]?)).toList.map g=order.toList.map λi=>(es.toList.map g).getD i 0:=by
 have e1:(order.filterMap (es[·]?)).toList=order.toList.filterMap (es.toList[·]?):=by simp
 rw[e1];constructor
 ·have:=hp.filterMap (es.toList[·]?);rw[<-bJ]at this;rwa [BP]at this
 ·intro g;have lt:∀i∈order.toList,i<es.toList.length:=λi hi=>by rw[bJ];exact cE.mp (hp.mem_iff.mp hi)
  generalize order.toList=l at lt
  induction l with
  |nil=>rfl
  |cons i l ih=>
   have li:=lt i (aF ..);rw[fI,ay li];show g _::_=_;rw[bq,ih λj hj=>lt j (aG _ hj)];congr 1;rw[cD,aW,ay li];rfl
section
variable{prog:Program}{w:World}{K:Type}[DecidableEq K]{knd:KeyKind prog w K}{A:Around}{E:Aac}{s:Shared}
abbrev ent(knd:KeyKind prog w K)(x:List K×Addr):Int×Value:=(tupleKeyHash knd x.1,Value.ref x.2)
structure sY(knd:KeyKind prog w K)(h:Heap)(a:Addr)(o:Obj)(ep:Nat)(t:SetTable)(xs:List (List K×Addr)):Prop where
 ob:h.get? a=some o
 ex:o.ExactSet
 data:o.data=.set (xs.map 671).toArray ep t
 tab:Tab t (xs.map λx=>tupleKeyHash knd x.1)
 mC:xs.length*5<t.mask*3
 cap:t.mask<=08*xs.length+15
 nd:(xs.map (·.1)).Nodup
 is:∀x∈xs,IsTupleKey knd h x.1 x.2
def sY.fits(S:sY knd h a o ep t xs):t.fits ((xs.map 671).toArray).size=true:=by have:=S.tab.fits;rw[aj]at this;simpa using this
def sY.state(S:sY knd s.heap a o ep t xs)(h:Q ((xs.map 671).toArray,ep,t) s):wpAny 58 A (setState a) Q E s:=
 uM S.ob S.data S.fits h
def sY.ne(S:sY knd h a o ep t xs)(hk:IsTupleKey knd h ks b):b≠a:=by rintro rfl;obtain⟨o',items,n,pB,_,pD,_⟩:=hk;obtain rfl:o'=o:=bR (pB.symm.trans S.ob);rw[S.data]at pD;cases pD
def KO(hx:IsTupleKey knd s.heap ks b)(h:Q false s):wpAny 58 A (ofAClassStatement 08 (.ref b)) Q E s:=by
 have hT:=hx.typeIs;obtain⟨o,items,n,ho,_,hd,hi⟩:=hx;unfold ofAClassStatement;refine ah (hV hT ?_);dsimp only;refine ah 666;refine ah (dj ho hd ?_);refine ah ?_;rw[<-oJ];refine mE _ (λrest r s'=>r.1=none/\s'=s/\∀v∈rest,carriedByValue v=true) _ ?_ ?_ _ _ {9,9,hi.byValue}
 ·rintro v rest r s' ⟨hr,rfl,ot⟩;have hv:=ot v aF;have e:ofAClassStatement 07 v=pure false:=by
   cases v with
   |ref a=>simp[carriedByValue]at hv
   |_=>first|rfl|(unfold ofAClassStatement;rfl)
  rw[e];refine ah 666;exact aq {9,9,λu oq=>ot u (aG _ oq)}
 ·rintro⟨r1,r2⟩ s' ⟨hr,rfl,_⟩;simp only at hr;subst hr;exact aq h
def aau(hx:IsTupleKey knd s.heap x b)(l:Aae)(hl:∀v∈l,∃ks c,v=Value.ref c/\IsTupleKey knd s.heap ks c)(h:Q false s):wpAny 58 A (searchCouldBeSeen (.ref b) l) Q E s:=by
 refine ah ?_;refine mE _ (λrest r s'=>r.1=none/\s'=s/\∀v∈rest,∃ks c,v=Value.ref c/\IsTupleKey knd s.heap ks c) _ ?_ ?_ _ _ ⟨rfl,rfl,hl⟩
 ·rintro v rest r s' ⟨hr,rfl,ot⟩;obtain⟨ks,c,rfl,hk⟩:=ot v aF;have YS:=λu oq=>ot u (aG _ oq);by_cases e:(b==c||(carriedByValue (.ref b)&&carriedByValue (.ref c)))=true
  ·rw[aM e];exact aq ⟨rfl,rfl,YS⟩
  ·rw[aI e];refine ah (yJ hx ?_);refine ah (yJ hk ?_);refine ah (KO hx ?_);refine ah (KO hk ?_);exact aq ⟨rfl,rfl,YS⟩
 ·rintro⟨r1,r2⟩ s' ⟨hr,rfl,_⟩;simp only at hr;subst hr;exact aq h
def Sf(hu:A.units<cLine)(S:sY knd s.heap a o ep t xs)(hk:IsTupleKey knd s.heap k b)(fr:Sb t 645 D)
  (h1:(∃x∈xs,x.1=k)->Q (.there none) s) (h2:(∀x∈xs,x.1≠k)->Q (.free (ps t.mask 645 D) false) s):
  ∀(m fuel d:Nat)(st:Option Probe),D -d=m->d<=D->m<fuel->st.getD (t.probeStart 645)=pr t.mask 645 d->(∀e,e<d->∀(i:Nat)(x:List K×Addr),t.place[i]?=some (ps t.mask 645 e)->xs[i]?=some x->x.1≠k)->
   wpAny 58 A (setSearchFrom a (.ref b) 645 true fuel st) Q E s:=by
 intro m
 induction m using Nat.strongRecOn with
 |ind m ih=>
  intro fuel d st hm hd hf A8 zf;cases fuel with
  |zero=>exact absurd hf (fU _)
  |succ fuel=>
   refine ah (S.state ?_);dsimp only;rw[S.tab.way];rw[A8];have hsL:∀(i:Nat)(x:List K×Addr),xs[i]?=some x->(xs.map λx=>tupleKeyHash knd x.1)[i]?=some (tupleKeyHash knd x.1):=λi x e=>by rw[aW,e];rfl
   have hsR:∀(i:Nat)(g:Int),(xs.map λx=>tupleKeyHash knd x.1)[i]?=some g->∃x,xs[i]?=some x/\tupleKeyHash knd x.1=g:=λi g e=>by rw[aW]at e;exact br.mp e
   rcases LL S.tab fr (hashAt:=λi=>((((xs.map 671).toArray)[i]?).map (·.1)).getD 0) (λi g e=>by obtain⟨x,hx,rfl⟩:=hsR i g e;simp[hx]) (10*turns t.mask) d hd (by have:=fr.lt;lia)with⟨e1,e2⟩|⟨e,i,a1,a2,a3,a4,a5,a6⟩
   ·have e1':t.probe (λi=>((((xs.map 671).toArray)[i]?).map (·.1)).getD 0) 645 (pr t.mask 645 d)=some (.empty (ps t.mask 645 D) none):=e1;show wpAny 58 A (match t.probe (λi=>((((xs.map 671).toArray)[i]?).map (·.1)).getD 0) 645 (pr t.mask 645 d)with|some met=>_|_=>_) Q E s;rw[e1'];refine aq (h2 λx hx ex=>?_);obtain⟨i,hi⟩:=eP.mp hx;obtain⟨d',q1,q2⟩:=S.tab.reach i _ (hsL i x hi);rw[ex]at q1 q2;have lt:d'<D:=by
     rcases lT d' D with q|q|q
     ·exact q
     ·rw[q]at q1;exact(fr.no i q1).elim
     ·obtain⟨i',z⟩:=q2 D q;exact(fr.no i' z).elim
    by_cases c:d'<d
    ·exact zf d' c i x q1 hi ex
    ·exact e2 d' ∅ lt i q1 (by rw[hsL i x hi,ex])
   ·obtain⟨y,hy,ey⟩:=hsR i _ a4;have a5':t.probe (λi=>((((xs.map 671).toArray)[i]?).map (·.1)).getD 0) 645 (pr t.mask 645 d)=some (.candidate (ps t.mask 645 e) i (pr t.mask 645 (e+1))):=a5;show wpAny 58 A (match t.probe (λi=>((((xs.map 671).toArray)[i]?).map (·.1)).getD 0) 645 (pr t.mask 645 d)with|some met=>_|_=>_) Q E s;rw[a5'];have ym:=az hy;have eL:((xs.map 671).toArray)[i]?=some (ent knd y):=by simp[hy]
    have cont:wpAny 58 A (do
      let some (_,y):=((xs.map 671).toArray)[i]?|unsupported "internal:set-entry"
      let equal<-holding [y] (eqBool y (.ref b))
      let(Vn,_,t')<-setState a
      if true&&equal then return .there none
      let some same:=t'.sameMemory t.moves t.mask|unsupported "set.changed-during-lookup:is-the-new-block-at-the-old-address"
      let aeN<-match(if same then t'.slot (ps t.mask 645 e)else .empty)with
       | .live i'=>match Vn[i']? with
        |some (_,y')=>do pure (if<-isSame y' y then some i' else none)
        |none=>pure none
       |_=>pure none
      match aeN with
      |none=>rule "set.search.anew";setSearchFrom a (.ref b) 645 true fuel none
      |some i'=>if equal then return .there (some i')else setSearchFrom a (.ref b) 645 true fuel (some (pr t.mask 645 (e+1)))) Q E s:=by
     rw[eL];dsimp only;refine ah (cn (wpAny_eqBool_tuple hu (S.is y ym) hk ?_));refine ah (S.state ?_);by_cases c:y.1=k
     ·rw[bg c];exact aq (h1 ⟨y,ym,c⟩)
     ·rw[cA c];have sm:t.sameMemory t.moves t.mask=some true:=by simp[SetTable.sameMemory]
      rw[sm];simp only[o8];rw[Ja S.tab.rise a3];dsimp only;rw[eL];dsimp only;have iss:isSame (Value.ref y.2) (Value.ref y.2)=pure true:=aM (wj _);rw[iss];refine ah 666;simp only[o8];refine ah 666;refine ih (D -(e+1)) ∅ fuel (e+1) _ rfl ∅ ∅ rfl λe' xw i' x q1 q2 qk=>?_;by_cases c2:e'<d
      ·exact zf e' c2 i' x q1 q2 qk
      ·by_cases c3:e'=e
       ·rw[c3]at q1;have:i'=i:=by rw[<-below_at S.tab.rise q1,<-below_at S.tab.rise a3]
        rw[this,hy]at q2;cases q2;exact c qk
       ·exact a6 e' ∅ ∅ i' q1 (by rw[hsL i' x q2,qk])
    by_cases led:t.led=true
    ·rw[led];exact cont
    ·have lf:t.led=false:=by cases q:t.led with|false=>rfl|true=>exact(led q).elim
     rw[lf];refine ah (aau hk _ (λv hv=>?_) ?_)
     ·obtain⟨p,hp,rfl⟩:=aE.mp hv;have PH:p∈xs.map 671:=by have:=(Array.mem_filter.mp (AU.mp hp)).1;simpa using this
      obtain⟨x,hx,rfl⟩:=aE.mp PH;exact{x.1,x.2,9,S.is x hx}
     ·simp only[gP,kB];exact cont
end
section
variable{prog:Program}{w:World}{K:Type}[DecidableEq K]{knd:KeyKind prog w K}{A:Around}{E:Aac}{s:Shared}
def Om(n:Nat)(h:carriedByValue v=true):∃b,hashByValue n v=pure b:=by
 cases v with
 |ref a=>simp[carriedByValue]at h
 |_=>cases n<;>exact⟨_,rfl⟩
def ab8(hx:IsTupleKey knd s.heap ks b)(h:∀c,Q c s):wpAny 58 A (hashByValue 08 (.ref b)) Q E s:=by
 have hT:=hx.typeIs;obtain⟨o,items,n,ho,_,hd,hi⟩:=hx;refine ah (iK hT lW.lookup ?_);refine ah (dj ho hd ?_);refine ah ?_;rw[<-oJ];refine mE _ (λrest r s'=>r.1=none/\s'=s/\∀v∈rest,carriedByValue v=true) _ ?_ ?_ _ _ {9,9,hi.byValue}
 ·rintro v rest r s' ⟨hr,rfl,ot⟩;obtain⟨c,e⟩:=Om 07 (ot v aF);rw[e];refine ah 666;cases c with
  |false=>
   exact aq (aq (h false))
  |true=>
   exact aq {9,9,λu oq=>ot u (aG _ oq)}
 ·rintro⟨r1,r2⟩ s' ⟨hr,rfl,_⟩;simp only at hr;subst hr;exact aq (h true)
def VX(ob:s.heap.get? a=some o)(ex:o.ExactSet)(hd:o.data=.set (xs.map 671).toArray ep t)(tab:Tab t (xs.map λx=>tupleKeyHash knd x.1))(nd:(xs.map (·.1)).Nodup)(is:∀x∈xs,IsTupleKey knd s.heap x.1 x.2)
  (hn:xs.length*2<=n) (hn4:n<=xs.length*4) (h0:0<n) (hx:xs.length<=100000) (Eu:n<=100000) (h:∀h' ys o' Cw t',Heap.SameBut a s.heap h'->sY knd h' a o' Cw t' ys->t'.led=t.led->ys.Perm xs->Q () {s with heap:=h'}):wpAny 58 A (setRelay a n) Q E s:=by
 have fits:t.fits ((xs.map 671).toArray).size=true:=by have:=tab.fits;simpa using this
 refine ah (uM ob hd fits ?_);dsimp only;obtain⟨k,e1,e2,e3,e4⟩:=BA (n:=n) ∅;rw[aI (by rw[e1,bX];lia)];have hm:((xs.map 671).toArray).map (·.1)=(xs.map λx=>tupleKeyHash knd x.1).toArray:=by simp[u0]
 obtain⟨t',order,q1,q2,qc,q3,q4,q5,q6,q7⟩:=S4 t (xs.map λx=>tupleKeyHash knd x.1) (n:=n) ∅ (by rw[aj];lia);rw[hm,q1];rw[aj]at q6;have oz:order.toList.Perm (List.range ((xs.map 671).toArray).size):=by simpa using q6
 obtain⟨o1,o2⟩:=QP oz;have kD:(order.filterMap (((xs.map 671).toArray)[·]?))=((order.toList.filterMap (xs[·]?)).map 671).toArray:=by apply wL.mp;simp[List.map_filterMap]
 have py:(order.toList.filterMap (xs[·]?)).Perm xs:=by have:=q6.filterMap (xs[·]?);rwa [BP]at this
 have ly:=py.length_eq;have hh:(order.toList.filterMap (xs[·]?)).map (λx=>tupleKeyHash knd x.1)=order.toList.map λi=>(xs.map λx=>tupleKeyHash knd x.1).getD i 0:=by have:=o2 (·.1);rw[kD]at this;simpa[u0]using this
 rw[<-hh]at q7;generalize order.toList.filterMap (xs[·]?)=ys at*;refine ah ?_;show wpAny 58 A (if((order.filterMap (((xs.map 671).toArray)[·]?)).size !=((xs.map 671).toArray).size)=true then unsupported _ else pure (order.filterMap (((xs.map 671).toArray)[·]?),t')) _ E s;rw[kD,aI (by simp[ly])];refine aq ?_;refine DI ob hd ?_ (by rw[aR,aj,ly,bX];lia);have S2:sY knd (s.heap.update a (Obj.putSet (ys.map 671).toArray t')) a {o with data:=.set (ys.map 671).toArray (ep+1) t'} (ep+1) t' ys:=by
  refine{?_,ex,9,q7,8,8,(py.map _).nodup_iff.mpr nd,λx hx=>?_}
  ·have:=eR (Obj.putSet (ys.map 671).toArray t') ob (by rw[BU _ t' hd];rfl);rw[BU _ t' hd]at this;exact this
  ·have Py:=is x (py.mem_iff.mp hx);have ne:x.2≠a:=by intro z;obtain⟨o',items,n,pB,_,pD,_⟩:=Py;rw[z]at pB;obtain rfl:o'=o:=bR (pB.symm.trans ob);rw[hd]at pD;cases pD
   obtain⟨o',items,n,pB,hc,pD,hi⟩:=Py;exact{o',items,n,((cH s.heap a (Obj.putSet (ys.map 671).toArray t')).2 _ ne).trans pB,hc,pD,hi}
 exact h _ ys _ _ _ (cH s.heap a _) S2 q4 py
def ab9(hu:A.units<cLine)(S:sY knd s.heap a o ep t xs)(hk:IsTupleKey knd s.heap k b)(hx:xs.length<=1000)
  (h1:(∃x∈xs,x.1=k)->Q false s) (h2:(∀x∈xs,x.1≠k)->∀h' ys o' Cw t',Heap.SameBut a s.heap h'->sY knd h' a o' Cw t' ys->t'.led=t.led->ys.Perm ((k,b)::xs)->Q true {s with heap:=h'}):
  wpAny 58 A (setAddHashed a (.ref b) 645) Q E s:=by
 refine cn (ah (S.state ?_));dsimp only;have nb:byScan (.ref b) (xs.map 671).toArray=false:=by simp[byScan,Value.scannable]
 rw[nb];obtain⟨D,fr⟩:=S.tab.free 645;have bound:=fr.lt;have hm:=S.cap;unfold turns at bound;refine ah (Sf hu S hk fr (λq=>aq (h1 q)) (λq=>?_) D 100000 0 none 9 (aP _) ∅ (Wf t _) λe he=>absurd he (fU _));refine ah (S.state ?_);have mC:=S.mC;have tb:=S.tab.put fr (by rw[aj];lia);generalize ep1:t.put (ps t.mask 645 D)=tp at tb;obtain⟨t1,p⟩:=tp;have mk1:t1.mask=t.mask:=by have:(t.put (ps t.mask 645 D)).1.mask=t.mask:=9;rw[ep1]at this;exact this
 have ld1:t1.led=t.led:=by have:(t.put (ps t.mask 645 D)).1.led=t.led:=9;rw[ep1]at this;exact this
 have esz:((xs.map 671).toArray).size=xs.length:=by simp
 have ins:insertAt (xs.map 671).toArray p (tupleKeyHash knd k,Value.ref b)=((kA xs p (k,b)).map 671).toArray:=by apply wL.mp;rw[rA,MJ]
 have pI:=Ux xs p (k,b);have nI:((kA xs p (k,b)).map (·.1)).Nodup:=by refine(pI.map _).nodup_iff.mpr ?_;refine dc.mpr {λz=>?_,S.nd};obtain⟨x,hx,e⟩:=aE.mp z;exact q x hx e
 have isI:∀x∈kA xs p (k,b),IsTupleKey knd s.heap x.1 x.2:=λx hx=>by
  rcases aN.mp (pI.mem_iff.mp hx)with rfl|hx
  ·exact hk
  ·exact S.is x hx
 have lI:(kA xs p (k,b)).length=xs.length+1:=by rw[pI.length_eq];rfl
 have fin:∀t2:SetTable,t2.mask=t1.mask->t2.place=t1.place->t2.dummies=t1.dummies->t2.led=t1.led->wpAny 58 A (do
   storeSet a (insertAt (xs.map 671).toArray p (tupleKeyHash knd k,Value.ref b)) t2
   if(!false&&t2.tooFull)=true then
    setRelay a (SetTable.grown (((xs.map 671).toArray).size+1))
    pure true
   else pure true) Q E s:=λt2 e1 e2 e3 e4=>by
  have Yw:Tab t2 ((kA xs p (k,b)).map λx=>tupleKeyHash knd x.1):=by rw[(MJ _ _ _ _)];exact tb.of_eq e1 e2 e3
  rw[ins];refine ah (DI S.ob S.data ?_ (by rw[aR,aj,lI,bX];lia));have sb:=cH s.heap a (Obj.putSet ((kA xs p (k,b)).map 671).toArray t2);have ob2:(s.heap.update a (Obj.putSet ((kA xs p (k,b)).map 671).toArray t2)).get? a=some {o with data:=.set ((kA xs p (k,b)).map 671).toArray (ep+1) t2}:=by have:=eR (Obj.putSet ((kA xs p (k,b)).map 671).toArray t2) S.ob (by rw[BU _ t2 S.data];rfl);rw[BU _ t2 S.data]at this;exact this
  have fl:t2.tooFull=decide ((xs.length+1)*5≥t.mask*3):=by unfold SetTable.tooFull SetTable.fill;rw[Yw.Vt,Yw.sz,aj,lI,e1,mk1];rfl
  have xt:∀x∈kA xs p (k,b),IsTupleKey knd (s.heap.update a (Obj.putSet ((kA xs p (k,b)).map 671).toArray t2)) x.1 x.2:=λx hx=>by obtain⟨o',items,n,pB,hc,pD,hi⟩:=isI x hx;exact{o',items,n,(sb.2 _ (S.ne (isI x hx))).trans pB,hc,pD,hi}
  by_cases c:t2.tooFull=true
  ·rw[c];have g:SetTable.grown (((xs.map 671).toArray).size+1)=(xs.length+1)*4:=by unfold SetTable.grown;rw[esz,aI ∅]
   exact ah (VX ob2 S.ex 9 Yw nI xt ∅ ∅ ∅ ∅ ∅ λh' ys o' Cw t' BH S' l' py=>aq (h2 q h' ys o' Cw t' (sb.trans BH) S' (l'.trans (e4.trans ld1)) (py.trans pI)))
  ·rw[iQ.mpr c];rw[fl]at c;have c':¬(xs.length+1)*5≥t.mask*3:=λz=>c (bg z);exact aq (h2 q _ (kA xs p (k,b)) _ _ _ sb {ob2,S.ex,9,Yw,by rw[lI,e1,mk1];lia,by rw[lI,e1,mk1];lia,nI,xt} (e4.trans ld1) pI)
 by_cases c:t1.plain=true
 ·rw[aM c];refine ah (ab8 hk λbv=>?_);cases bv with
  |true=>exact fin t1 rfl rfl rfl rfl
  |false=>exact fin {t1 with plain:=false} rfl rfl rfl rfl
 ·rw[aI c];exact ah (aq (fin t1 9 9 9 9))
end
end Tb
namespace Tb
open PySem
def GI{α:Type}{l:List α}(h:i<l.length):(l[i]::l.eraseIdx i).Perm l:=by rw[List.eraseIdx_eq_take_drop_succ];refine List.perm_middle.symm.trans ?_;rw[List.getElem_cons_drop,jP]
theorem Pa(next:Nat->Nat):∀(f k:Nat)(left:List α)(out:Array α),f=left.length->(pickOrder.go next f k left out).toList.Perm (out.toList++left)
 |0,k,left,out,h=>by rw[dD.mp h.symm,cL];exact .refl _
 |f+1,k,left,out,h=>by
  have hl:next k % left.length<left.length:=mQ _ ∅
  unfold pickOrder.go;rw[ay hl];refine(Pa next f (k+1) (left.eraseIdx (next k % left.length)) (out.push left[next k % left.length]) (by rw[uI hl];lia)).trans ?_;rw[D3,dG];exact(GI hl).append_left _
def Tj(next:Nat->Nat)(xs:Array α):(pickOrder next xs).toList.Perm xs.toList:=by
 have:=Pa next xs.size 0 xs.toList #[] 59
 rw[jQ]at this;exact this
section
variable{M:Model}{A:Around}{E:Aac}
theorem OI:∀(n:Nat)(xs:List α)(s:Shared){Q:List α->Shared->Prop},n=xs.length->(∀ys d,ys.Perm xs->Q ys {s with drawn:=d})->wpAny M A (drawOrder n xs) Q E s
 |0,xs,s,Q,hn,h=>by have e:xs=[]:=dD.mp hn.symm;subst e;unfold drawOrder;exact aq (h [] s.drawn (.refl _))
 |n+1,[],s,Q,hn,h=>by simp at hn
 |n+1,x::xs,s,Q,hn,h=>by
  unfold drawOrder;refine ah (λΓ p hΓ=>?_);refine{59,?_};have hl:M.w.draws .order (s.drawn.get .order) %(x::xs).length<(x::xs).length:=mQ _ 59;generalize M.w.draws .order (s.drawn.get .order) %(x::xs).length=i at hl;have key:wpAny M A (match(x::xs)[i]? with
   |some y=>do return y::(<-drawOrder n ((x::xs).eraseIdx i))
   |none=>unsupported "internal:drawOrder") Q E {s with drawn:=s.drawn.bump .order}:=by
   rw[ay hl];dsimp only;refine ah (OI n _ _ (by rw[uI hl];lia) λys d hp=>aq ?_);exact h _ d ((hp.cons _).trans (GI hl))
  exact key
end
end Tb
namespace L2
def LS{α β:Type}{f:α->β}:∀{l k:List β},l.Perm k->∀{m:List α},k=m.map f->∃m':List α,m'.Perm m/\l=m'.map f:=by
 intro l k h
 induction h with
 |nil=>intro m e;exact{m,.refl _,e}
 |@cons x l1 l2 _ ih=>
  intro m e;cases m with
  |nil=>cases e
  |cons a m=>
   injection e with e1 e2;obtain⟨m',p,q⟩:=ih e2;exact{a::m',p.cons a,by rw[e1,q];rfl}
 |swap x y l=>
  intro m e
  match m,e with
  |a::b::m,e=>
   injection e with e1 e2;injection e2 with e2 e3;exact{b::a::m,.swap _ _ _,by rw[e1,e2,e3];rfl}
 |trans _ _ ih1 Uz=>
  intro m e;obtain⟨m1,p1,q1⟩:=Uz e;obtain⟨m2,p2,q2⟩:=ih1 q1;exact{m2,p2.trans p1,q2}
end L2
namespace Tb
open PySem PySem.SetTable PyProof.Rows
section
variable{prog:Program}{w:World}
section
variable{A:Around}{R:Result->Shared->Prop}{I:Addr}{fp wr:Aah}{G:Array GenState->Array GenState->Prop}{n:Nat}{P:Nat->Value->Prop}{St:Nat->Shared->Prop}
def aeZ(W:WalksS prog w A.in1 I fp wr G n P St)(S:Addr)(nS:S∉fp)(C:Nat->Heap->Prop)(keep:∀i h h',C i h->(∀b o,b∉wr->h.get? b=some o->h'.get? b=some o)->C i h')
  (step:∀(i:Nat) v(s:Shared)(Q:Bool->Shared->Prop)(E:Aac),i<n->P i v->C i s.heap->(∀c h' tk,s.toks<=tk->Heap.SameBut S s.heap h'->C (i+1) h'->Q c {s with heap:=h',toks:=tk})->wpAny 58 A.in1 (setAdd S v) Q E s) (m:Nat):
  ∀(i:Nat)(s:Shared),n -i=m->i<=n->St i s->C i s.heap->(∀s',Moved (S::wr) G s s'->C n s'.heap->R (.ok (.ret .none)) s')->codeAny 58 A (.builtin "set.update.loop" {[.ref S,.ref I],[]}) R s:=by
 have sub:∀b∈wr,b∈S::wr:=λb q=>aG _ q
 induction m with
 |zero=>
  intro i s hm hi st hC hR;have e:i=n:=by lia
  subst e;refine fq oE ?_;exact ah (W.done s _ _ st λs' hm=>aq (hR s' (hm.mono sub) (keep _ _ _ hC hm.heap)))
 |succ m ih=>
  intro i s hm hi st hC hR;have bO:i<n:=by lia
  refine fq oE ?_;refine ah (W.item i s _ _ bO st λv s' hP mT hm=>?_);refine ah (cn (step i v s' _ _ bO hP (keep _ _ _ hC hm.heap) λc h' tk le sb hC'=>?_));refine aq {mW PyProof.Rows.F.plain_set_update_loop _,ih (i+1) _ ∅ bO (W.frame _ s' h' _ mT le λb q o e=>?_) hC' λs2 m2 c2=>hR s2 (Moved.trans W.gtrans ((hm.mono sub).then_heap le λb o q e=>?_) m2) c2}
  ·rw[sb.2 b λh:b=S=>nS (h▸q)];exact e
  ·rw[sb.2 b λh:b=S=>q (h▸aF)];exact e
end
section
variable{A:Around}{E:Aac}{s:Shared}
abbrev oj(w:World):Bool:=!w.params.followText "set-order"
abbrev qU(led:Bool):Obj:={cls:=.type "set",dict:=none,data:=.set #[] 0 (.fresh 0 0 led)}
def code_set_new(a:Value)(h:Q₁ 352 {s with heap:=s.heap.push (qU (oj w))}):
  codeAny 58 A (.call (.builtin "set.__new__") {[.type "set",a],[]}) (wants Q₁ E) s:=by
 refine codeAny_of_tree ?_;show wpAny _ A.in1 (do checkBuiltinCall "set.__new__" {[.type "set",a],[]};again (.builtin "set.__new__" {[.type "set",a],[]})) _ _ s;refine ah (D5 (PySem.F.newCall_set_1 a) (aq {mW zA _,fq PySem.F.entry_set_new ?_}));rw[Around.under_plainId zA _];unfold Builtin.«set.__new__» Builtin.Frozenset.newClass;have Xh:=sub_set_self;obtain⟨hp,g,d,tk,os⟩:=s;dsimp only
 wp_walk
 refine vv 666;dsimp only;simp only[newObj];refine ah (wpAny_alloc 666);exact aq h
def VJ{l:Addr}{items:Aaj}{Q:Aac}(C:Nat->Heap->Prop)(hA:A.handled=none)(hl:s.heap.IsList l items)
  (keep:∀i h h',C i h->(∀b o,b≠s.heap.objs.size+1->h.get? b=some o->h'.get? b=some o)->C i h')
  (step:∀(i:Nat) v(s':Shared)(Q:Bool->Shared->Prop)(E:Aac),items[i]?=some v->C i s'.heap->(∀c h' tk,s'.toks<=tk->Heap.SameBut s.heap.objs.size s'.heap h'->C (i+1) h'->Q c {s' with heap:=h',toks:=tk})->wpAny 58 A.in1.in1.in1 (setAdd s.heap.objs.size v) Q E s')
  (c0:∀o,C 0 ((s.heap.push (qU (oj w))).push o)) (k:∀(h':Heap)(tk:Nat),C items.size h'->(∀b o,s.heap.get? b=some o->h'.get? b=some o)->Q 352 {s with heap:=h',toks:=tk}):
  wpAny 58 A (call (.type "set") [.ref l]) Q E s:=by
 obtain⟨c,tl,ahI⟩:=CW.mro;have ft:=CW;have ahw:=ft.made;have Xh:=ft.sub;refine FK (codeAny_of_tree ?_);show wpAny _ _ (callAny (.type "set") _) _ _ _;refine aq {jF _ 53,fq PySem.F.entry_type_call ?_};rw[Around.under_plain (weight_type_call_type "set" [.ref l] []) rfl];have h1:=ft.notType;have h2:=ft.canCreate;have hct:=PySem.F.typeCall_set_1 720
 repeat (any_goals (first|assumption|wp_step))
 refine md (code_set_new 720 (E:=E) (Q₁:=λx z=>x=.ref s.heap.objs.size/\z={s with heap:=s.heap.push (qU (oj w))}) ⟨rfl,rfl⟩) λr z hr=>?_;cases r with
 |error e=>exact hr
 |ok fl=>
  cases fl with
  |ret x=>
   obtain⟨rfl,rfl⟩:=hr;have hS:(s.heap.push (qU (oj w))).get? s.heap.objs.size=some (qU (oj w)):=aU _ rfl;have hT:Shared.TypeIs {s with heap:=s.heap.push (qU (oj w))} 352 "set":=⟨_,hS,rfl⟩;have hli:=ft.init.lookup;have PV:=ft.init.bind 352
   repeat (any_goals (first|assumption|wp_step))
   refine md (rF (R:=wants (λr z=>r=.none/\∃h' tk,z={s with heap:=h',toks:=tk}/\C items.size h'/\(∀b o,s.heap.get? b=some o->h'.get? b=some o)) E) ft.init.plain PySem.F.entry_set_init (check_set_init_1 hT ?_)) λr2 z2 kQ=>?_
   ·obtain⟨⟨oc,od,oda,A4⟩,Gw,lZ,nl,hdl⟩:=hl;simp only at lZ hdl;subst lZ hdl;have agS:=ao (qU (oj w)) Gw;have ahF:=PySem.F.sub_list_set;have ahG:=PySem.F.sub_list_frozenset;have gJ:(Value.type "list"==Value.type "dict")=false:=by decide
    have nA:(s.heap.push (qU (oj w))).IsList l items:=⟨_,agS,rfl,nl,rfl⟩;have hh3:A.in1.in1.in1.handled=none:=by simp[hA]
    unfold Builtin.«set.__init__» noKeywords Builtin.Frozenset.updateFrom;generalize hPI:pyIter=PI
    wp_walk
    subst hPI;refine lQ nA (ah (wpAny_runValue ?_));have hlS:l<s.heap.objs.size:=aY Gw;have nI:l≠(s.heap.push (qU (oj w))).objs.size:=by rw[dk];exact aX (eU hlS)
    have nS:s.heap.objs.size∉[(s.heap.push (qU (oj w))).objs.size,l]:=by
     rw[dk];intro hm;rcases aN.mp hm with hm|hm
     ·exact absurd hm (aX (eF _))
     ·exact absurd (aC.mp hm) (cu hlS)
    refine aeZ ((G9 hh3 _ l nI items).toS) s.heap.objs.size nS C (λi h h' hC q=>keep i h h' hC λb o nb e=>q b o (λz=>nb ((aC.mp z).trans (dk _ _))) e) (λi v s' Q E _ hv=>step i v s' Q E hv) items.size 0 _ rfl (aP _) {{_,682,9,9},nA.push _} (c0 _) λs' hm hC=>?_;obtain⟨h',g',d',K6,Y1⟩:=s';have eg:g'=s.gens:=hm.gens;have ed:d'=s.drawn:=hm.drawn;have eo:Y1=s.os:=hm.os;subst eg ed eo;refine aq (aq {9,h',K6,9,hC,λb o e=>hm.heap b o ?_ (ao _ (ao _ e))});have lt:=aY e;rintro(_|⟨_,q⟩)
    ·exact da _ lt
    ·rw[aC.mp q,dk]at lt;exact absurd lt (rP.mpr (fG _))
   ·cases r2 with
    |error e=>exact kQ
    |ok fl2=>
     cases fl2 with
     |ret r=>
      obtain⟨rfl,h',tk,rfl,hC,MX⟩:=kQ
      repeat (any_goals (first|assumption|wp_step))
      exact k _ _ hC MX
     |_=>exact kQ.elim
  |_=>exact hr.elim
end
end
section
variable{prog:Program}{w:World}{K:Type}[DecidableEq K]{knd:KeyKind prog w K}
def ON(x:IsTupleKey knd h k b)(kp:∀b o,h.get? b=some o->h'.get? b=some o):IsTupleKey knd h' k b:=by obtain⟨o,ba,n,ho,r⟩:=x;exact{o,ba,n,kp _ _ ho,r}
structure aev(knd:KeyKind prog w K)(ks:List (List K))(bs:Aah)(i:Nat)(xs:List (List K×Addr)):Prop where
 len:xs.length<=i
 mem:∀k,k∈xs.map (·.1)↔k∈ks.take i
 KJ:∀x∈xs,∃j:Nat,ks[j]?=some x.1/\bs[j]?=some x.2
section
variable{A:Around}{E:Aac}{s:Shared}
def VI(hA:A.handled=none)(hu:A.in1.in1.in1.units<cLine)(hl:s.heap.IsList l items)(hi:items.toList=bs.map Value.ref)(lb:ks.length=bs.length)(hk:∀(i:Nat) k b,ks[i]?=some k->bs[i]?=some b->IsTupleKey knd s.heap k b)(hb:bs.length<=1000)
  (k:∀(h':Heap)(tk:Nat) o ep t xs,sY knd h' s.heap.objs.size o ep t xs->t.led=oj w->aev knd ks bs bs.length xs->(∀b o,s.heap.get? b=some o->h'.get? b=some o)->Q 352 {s with heap:=h',toks:=tk}):
  wpAny 58 A (call (.type "set") [.ref l]) Q E s:=by
 have hsz:items.size=bs.length:=by rw[<-bJ,hi,aj]
 refine VJ (λi h=>(∀b o,s.heap.get? b=some o->h.get? b=some o)/\∃o ep t xs,sY knd h s.heap.objs.size o ep t xs/\t.led=oj w/\aev knd ks bs i xs) hA hl (λi h h' ⟨kp,o,ep,t,xs,hS,pC,hH⟩ q=>?_) (λi v s' Q E hv ⟨kp,o,ep,t,xs,hS,pC,hH⟩ k=>?_) (λo=>{λb o e=>ao _ (ao _ e),qU (oj w),0,.fresh 0 0 (oj w),[],{ao _ (aU _ 9),⟨rfl,rfl,rfl⟩,9,Tab.fresh 0 0 _,by show 0*5<07*3;decide,by show 07<=15;decide,eB,λx hx=>nomatch hx},9,{aw _,λk=>by simp,λx hx=>nomatch hx}}) λh' tk ⟨kp,o,ep,t,xs,hS,pC,hH⟩ Ju=>k h' tk o ep t xs hS pC (hsz▸hH) Ju
 ·have Ju:∀b o,s.heap.get? b=some o->h'.get? b=some o:=λb o e=>q b o (aX (eU (aY e))) (kp b o e);refine{Ju,o,ep,t,xs,{q _ _ (aX (eF _)) hS.ob,hS.ex,hS.data,hS.tab,hS.mC,hS.cap,hS.nd,λx hx=>?_},pC,hH};obtain⟨j,j1,j2⟩:=hH.KJ x hx;exact ON (hk j _ _ j1 j2) Ju
 ·have e:items.toList[i]?=some v:=by rw[dy];exact hv
  rw[hi,aW]at e;obtain⟨b,jf,rfl⟩:=br.mp e;have ib:=(au.mp jf).1;obtain⟨k',MX⟩:∃k,ks[i]?=some k:={_,ay ∅};have kb:=ON (hk i k' b MX jf) kp;have et:ks.take (i+1)=ks.take i++[k']:=by rw[bj,MX];rfl
  have nA:=hH.len;refine cn (ah (wpAny_pyHash_tuple hu kb ?_));refine ab9 (s:={s' with toks:=s'.toks+(k'.length+1)}) hu hS kb ∅ (λq=>?_) λq h' ys o' Cw t' sb S2 af1 py=>?_
  ·refine k _ s'.heap _ (eG _ _) (DZ _ _) {kp,o,ep,t,xs,hS,pC,8,λz=>?_,hH.KJ};rw[et,aV,<-hH.mem,aC];exact{.inl,λc=>c.elim id λe=>by obtain⟨x,hx,ex⟩:=q;rw[e,<-ex];exact aE.mpr ⟨x,hx,rfl⟩}
  ·refine k _ h' _ (eG _ _) sb {λb o e=>?_,o',Cw,t',ys,S2,af1.trans pC,by rw[py.length_eq,bF];lia,λz=>?_,λx hx=>?_}
   ·rw[sb.2 b (aX (aY e))];exact kp b o e
   ·rw[et,aV,<-hH.mem,aC,(py.map (·.1)).mem_iff,bq,aN];exact Or.comm
   ·rcases aN.mp (py.mem_iff.mp hx)with rfl|hx
    ·exact⟨i,MX,jf⟩
    ·exact hH.KJ x hx
end
end
section
variable{prog:Program}{w:World}
abbrev ahf(prog:Program)(w:World)(x:Str×Tok):Int×Value:=((strKind prog w).hash x.1,.str x.1 x.2)
structure ahO(prog:Program)(w:World)(h:Heap)(a:Addr)(o:Obj)(es:Array (Int×Value))(ep:Nat)(t:SetTable)(xs:List (Str×Tok)):Prop where
 ob:h.get? a=some o
 ex:o.ExactSet
 data:o.data=.set es ep t
 en:es.toList=xs.map (ahf prog w)
 mC:xs.length<=1000
 fits:t.fits es.size=true
 pl:t.plain=false\/xs=[]
 led:t.led=oj w
end
end Tb
namespace Tb
open PySem PySem.SetTable
def Ik:entryFor table "set.__iter__"=some Builtin.«frozenset.__iter__»:=
 zt (id':="frozenset.__iter__") (by kernel_rfl) rfl 53 (by kernel_rfl)
def fQ:Slot "set_iterator" "__next__" "set_iterator.__next__":=
 .of (owner:="set_iterator") (n:="__next__") (by rw[jJ,gE];kernel_rfl) 53 53 53
  (by first|exact .inl (by decide+kernel)|exact .inr (by decide+kernel)) (by rw[y9];kernel_rfl)
def nG:entryFor table "set_iterator.__next__"=some Builtin.«set_iterator.__next__»:=entryFor_of_tree (by kernel_rfl)
def ph(a:Value):argsOk "set_iterator.__next__" {[a],[]}:=by unfold argsOk;kernel_rfl
def yM:Slot "set_iterator" "__iter__" "set_iterator.__iter__":=
 .of (owner:="set_iterator") (n:="__iter__") (by rw[jJ,gE];kernel_rfl) 53 53 53
  (by first|exact .inl (by decide+kernel)|exact .inr (by decide+kernel)) (by rw[y9];kernel_rfl)
def GJ:entryFor table "set_iterator.__iter__"=some Builtin.«dict_keyiterator.__iter__»:=
 zt (id':="dict_keyiterator.__iter__") (by kernel_rfl) rfl 53 (by kernel_rfl)
def IE(a:Value):argsOk "set_iterator.__iter__" {[a],[]}:=by unfold argsOk;kernel_rfl
def aaN:typeLookup (.type "set") "__len__"=pure (some (.builtin "set.__len__")):=by rw[jJ,gE];kernel_rfl
section
variable{prog:Program}{w:World}{A:Around}{E:Aac}{s:Shared}
structure Sat(w:World)(h:Heap)(S:Addr)(es:Array (Int×Value))(ep:Nat)(t:SetTable):Prop where
 ob:∃o,h.get? S=some o/\o.ExactSet/\o.data=.set es ep t
 fits:t.fits es.size=true
 lr:w.params.followText "set-order"=false->702=false->t.led=true/\oA t.place
def Sat.keep{S:Addr}(x:Sat w h S es ep t)(k:∀o,h.get? S=some o->h'.get? S=some o):Sat w h' S es ep t:=by obtain⟨⟨o,ho,r⟩,a,b⟩:=x;exact{{o,k o ho,r},a,b}
def Sat.state{S:Addr}(x:Sat w s.heap S es ep t)(h:Q (es,ep,t) s):wpAny 58 A (setState S) Q E s:=by obtain⟨⟨o,ho,_,hd⟩,hf,_⟩:=x;exact uM ho hd hf h
def Bu(h:Q (w.params.followText "set-order") s):wpAny 58 A setsByText Q E s:=by exact ah (vv (aq h))
def vd(w:World)(S:Addr)(es:Array (Int×Value))(ep:Nat):List (Int×Value):=if w.params.followText "set-order"=true then(pickOrder (w.params.setOrder S ep) es).toList else es.toList
def xP(w:World)(t:SetTable):Nat->Nat
 |0=>0
 |i+1=>if w.params.followText "set-order"=true then 0 else t.place.getD i 0+1
def zY(w:World)(S:Addr)(es:Array (Int×Value))(ep:Nat):(vd w S es ep).Perm es.toList:=by
 unfold vd;split
 ·exact Tj _ _
 ·exact .refl _
def Lr(t:SetTable):Nat->Nat
 |0=>0
 |i+1=>t.place.getD i 0+1
def Yh(hr:oA t.place):∀i,i<=t.place.size->below t.place (Lr t i)=i:=by
 intro i hi;obtain⟨h1,h2,h3⟩:=vg hr (Lr t i);generalize eb:below t.place (Lr t i)=b at h1 h2 h3⊢;rcases lT b i with c|c|c
 ·cases i with
  |zero=>lia
  |succ i=>
   have:=h3 b (aw _) ∅;rw[show Lr t (i+1)=t.place.getD i 0+1 from rfl]at this;by_cases e:b=i
   ·rw[e]at this;lia
   ·have:=hr b i ∅ ∅;lia
 ·exact c
 ·have:=h2 i c;cases i with
  |zero=>rw[show Lr t 0=0 from rfl]at this;lia
  |succ i=>
   rw[show Lr t (i+1)=t.place.getD i 0+1 from rfl]at this;have:=hr i (i+1) ∅ ∅;lia
def OH{S:Addr}(x:Sat w s.heap S es ep t)(hi:i<=es.size)(hd:w.params.followText "set-order"=true\/702=false)
  (h:Q ((vd w S es ep)[i]?.map λe=>(e.2,xP w t (i+1))) s):wpAny 58 A (setNext S (xP w t i) i ep) Q E s:=by
 refine ah (x.state ?_);refine ah (Bu ?_);by_cases c:w.params.followText "set-order"=true
 ·rw[aM c];rw[aI 59];refine ah ?_;refine ah (x.state ?_);refine ah (Bu ?_);rw[aM c];refine ah (vv (aq 666));have e1:vd w S es ep=(pickOrder (w.params.setOrder S ep) es).toList:=aM c;have e2:xP w t (i+1)=xP w t i:=by
   cases i with
   |zero=>exact aM c
   |succ i=>exact(aM c).trans (aM c).symm
  rw[e1,e2,dy]at h;exact h
 ·rw[aI c];have pD:=hd.resolve_left c;have cf:=iQ.mpr c;have fz:=x.fits;have sz:t.place.size=es.size:=by have:=(rY.mp fz).1;exact dW this
  show wpAny 58 A (if 702=true then _ else _) Q E s;rw[pD];refine ah ?_;show wpAny 58 A (if(!t.led&&!es.isEmpty)=true then _ else _) _ E s;rw[(x.lr cf pD).1];refine aq 666;have e0:xP w t i=Lr t i:=by
   cases i with
   |zero=>rfl
   |succ i=>exact aI c
  rw[e0,Yh (x.lr cf pD).2 i ∅];have e1:vd w S es ep=es.toList:=aI c;rw[e1,dy]at h;by_cases lt:i<es.size
  ·have g1:=cI lt;have g3:xP w t (i+1)=t.place.getD i 0+1:=aI c;rw[g1]at h⊢;rw[(getD_some.mpr {8,9})];rw[jO,g3]at h;exact h
  ·have g1:es[i]?=none:=yD ∅;rw[g1]at h⊢;exact h
def Jb(hT:s.TypeIs (.ref I) "set_iterator")(h:Q (.ref I) s):wpAny 58 A (pyIter (.ref I)) Q E s:=by refine uN hT yM (b7 yM hT GJ ?_ (IE _));exact aq {_,9,"set_iterator",_,hT,fQ.lookup,h}
abbrev A7(first:Value)(i:Nat)(S:Addr)(n ep:Nat):Obj:={cls:=.type "set_iterator",data:=.fields #[first,.int i 0,.ref S,.int n 0,.int ep 0]}
def Hi(hh:A.handled=none)(k:∀(h':Heap)(e:Addr),(∀b o,h.get? b=some o->h'.get? b=some o)->(∃o,h'.get? e=some o/\o.cls=.type "StopIteration")->E (.ref e) {s with heap:=h'}):
  wpAny 58 A (newExc (.type "StopIteration") []>>=λe=>(raiseNew e:Sem α)) Q E {s with heap:=h}:=by
 refine ah ?_;refine ah (cP ?_ (by size_fits));refine ah (D5 (by first|rfl|(simp only[firstArgMember];rfl)) ?_);refine cP ?_ (by size_fits);refine ah (wpAny_handled ?_);rw[hh];exact ah (aq (wpAny_throw (k _ _ (λb o e=>ao _ (ao _ e)) {_,682,9})))
def u3{h:Heap}(ho:h.get? a=some {cls:=cls,data:=.fields vs}):(h.update a (Obj.mapFields (·.setIfInBounds i x))).get? a=some {cls:=cls,data:=.fields (vs.setIfInBounds i x)}:=eR _ ho rfl
def aey(hh:A.handled=none){S I:Addr}(ne:S≠I)(hd:w.params.followText "set-order"=true\/702=false):
  WalksS prog w A I [I,S] [I] (λa b=>b=a) es.size (λi v=>((vd w S es ep).map (·.2))[i]?=some v) (λi s=>Sat w s.heap S es ep t/\s.heap.get? I=some (A7 (.int (xP w t i) 0) i S es.size ep)) where
 sub:=λb hb=>aC.mp hb▸aF
 grefl:=λ_=>9
 gtrans:=λ_ _ _ h1 h2=>h2.trans h1
 frame:=λi s h' tk st _ hk=>{st.1.keep λo e=>hk S 59 o e,hk I 59 _ st.2}
 item:=by
  intro i s Q E hi ⟨x,hI⟩ k;have hT:s.TypeIs (.ref I) "set_iterator":=⟨_,hI,rfl⟩;refine ah 697;refine ah (ah (aq 666));refine ah (lX hI 9 ?_);refine ah ?_;refine ah (x.state 666);rw[aI 59];simp only[eX];refine ah (OH x (bB hi) hd ?_);have lo:i<(vd w S es ep).length:=by rw[(zY w S es ep).length_eq,bJ];exact hi
  rw[ay lo,jO];refine ah (gQ hI 9 59 ?_);have hI1:=u3 (i:=0) (x:=rawInt (xP w t (i+1))) hI;refine ah (gQ hI1 9 59 ?_);refine aq {_,9,666};have yU:∀b o,b≠I->s.heap.get? b=some o->((s.heap.update I (Obj.mapFields (·.setIfInBounds 0 (rawInt (xP w t (i+1)))))).update I (Obj.mapFields (·.setIfInBounds 1 (rawInt ((i:Int)+1))))).get? b=some o:=λb o nb e=>(cx _ _ (cM nb)).trans ((cx _ _ (cM nb)).trans e);refine k _ _ (by rw[aW,ay lo];rfl) {x.keep λo e=>yU S o ne e,?_} {λb o hb e=>yU b o (λz=>hb (aC.mpr z)) e,9,9,9,aw _};exact(u3 (i:=1) (x:=rawInt ((i:Int)+1)) hI1)
 done:=by intro s Q E ⟨x,hI⟩ k;have hT:s.TypeIs (.ref I) "set_iterator":=⟨_,hI,rfl⟩;refine ah 697;refine ah (ah (aq 666));refine ah (lX hI 9 ?_);refine ah ?_;refine ah (x.state 666);rw[aI 59];simp only[eX];refine ah (OH x (aw _) hd ?_);have lo:=mm (by rw[(zY w S es ep).length_eq,bJ];exact aw _);rw[lo,Option.map_none];refine ah (gQ hI 9 59 ?_);have yU:∀b o,b≠I->s.heap.get? b=some o->(s.heap.update I (Obj.mapFields (·.setIfInBounds 2 Value.none))).get? b=some o:=λb o nb e=>(cx _ _ (cM nb)).trans e;refine Hi (show A.in1.handled=none from hh) λh' e kp agk=>?_;obtain⟨o,ho,hc⟩:=agk;refine ah (jg ⟨o,ho,hc⟩ o7 (aq (k _ {λb o hb q=>kp b o (yU b o (λz=>hb (aC.mpr z)) q),9,9,9,aw _})))
 self:=by intro i s Q E ⟨x,hI⟩ h;exact Jb ⟨_,hI,rfl⟩ h
def aex(hh:A.handled=none){S I T:Addr}(ne:S≠I)(nT:T≠I){ps:List Nat}(hp:ps.Perm (List.range es.size)):
  WalksS prog w A I [I,S,T] [I] (λa b=>b=a) es.size (λi v=>((ps.filterMap (es[·]?)).map (·.2))[i]?=some v) (λi s=>Sat w s.heap S es ep t/\s.heap.get? I=some (A7 (.ref T) i S es.size ep)/\s.heap.get? T=some {cls:=.type "tuple",data:=.seq (ps.map λ(i:Nat)=>rawInt i).toArray}) where
 sub:=λb hb=>aC.mp hb▸aF
 grefl:=λ_=>9
 gtrans:=λ_ _ _ h1 h2=>h2.trans h1
 frame:=λi s h' tk st _ hk=>{st.1.keep λo e=>hk S 59 o e,hk I 59 _ st.2.1,hk T 59 _ st.2.2}
 item:=by
  intro i s Q E hi ⟨x,hI,ZZ⟩ k;have hT:s.TypeIs (.ref I) "set_iterator":=⟨_,hI,rfl⟩;refine ah 697;refine ah (ah (aq 666));refine ah (lX hI 9 ?_);refine ah ?_;refine ah (x.state 666);rw[aI 59];simp only[eX];refine ah (dj ZZ 9 ?_);have lp:ps.length=es.size:=by rw[hp.length_eq,eW]
  have li:i<ps.length:=by lia
  have Zp:=cE.mp (hp.mem_iff.mp (kJ li));have e1:((ps.map λ(i:Nat)=>rawInt i).toArray)[i]?=some (.int (ps[i]:Nat) 0):=by simp[li,rawInt]
  dsimp only;rw[e1];refine ah ?_;refine ah (x.state ?_);dsimp only;rw[aI 59];simp only[eX];rw[cI Zp];refine aq ?_;refine ah (gQ hI 9 59 ?_);refine aq {_,9,666};have yU:∀b o,b≠I->s.heap.get? b=some o->(s.heap.update I (Obj.mapFields (·.setIfInBounds 1 (rawInt ((i:Int)+1))))).get? b=some o:=λb o nb e=>(cx _ _ (cM nb)).trans e;refine k _ _ ?_ {x.keep λo e=>yU S o ne e,(u3 (i:=1) (x:=rawInt ((i:Int)+1)) hI),yU T _ nT ZZ} {λb o hb e=>yU b o (λz=>hb (aC.mpr z)) e,9,9,9,aw _};have all:∀(l:List Nat),(∀p∈l,p<es.size)->∀j:Nat,(l.filterMap (es[·]?))[j]?=(l[j]?).bind (es[·]?):=by
   intro l
   induction l with
   |nil=>intro _ j;simp
   |cons p l ih=>
    intro hl j;have lp:=hl p aF;rw[fI,cI lp];cases j with
    |zero=>simp[lp]
    |succ j=>
     exact ih (λq hq=>hl q (aG _ hq)) j
  rw[aW,all ps (λp hq=>cE.mp (hp.mem_iff.mp hq)) i,ay li];simp[Zp]
 done:=by
  intro s Q E ⟨x,hI,ZZ⟩ k;have hT:s.TypeIs (.ref I) "set_iterator":=⟨_,hI,rfl⟩;refine ah 697;refine ah (ah (aq 666));refine ah (lX hI 9 ?_);refine ah ?_;refine ah (x.state 666);rw[aI 59];simp only[eX];refine ah (dj ZZ 9 ?_);have lp:ps.length=es.size:=by rw[hp.length_eq,eW]
  have e1:((ps.map λ(i:Nat)=>rawInt i).toArray)[es.size]?=none:=by simp[lp]
  dsimp only;rw[e1];refine ah (gQ hI 9 59 ?_);refine ah (gQ (u3 (i:=0) (x:=rawInt 0) hI) 9 59 ?_);have yU:∀b o,b≠I->s.heap.get? b=some o->((s.heap.update I (Obj.mapFields (·.setIfInBounds 0 (rawInt 0)))).update I (Obj.mapFields (·.setIfInBounds 2 Value.none))).get? b=some o:=λb o nb e=>(cx _ _ (cM nb)).trans ((cx _ _ (cM nb)).trans e);refine Hi (show A.in1.handled=none from hh) λh' e kp agj=>?_;obtain⟨o,ho,hc⟩:=agj;refine ah (jg ⟨o,ho,hc⟩ o7 (aq (k _ {λb o hb q=>kp b o (yU b o (λz=>hb (aC.mpr z)) q),9,9,9,aw _})))
 self:=by intro i s Q E ⟨x,hI,_⟩ h;exact Jb ⟨_,hI,rfl⟩ h
def MY(hT:s.TypeIs (.ref r) "set")(h:Q false s):wpAny 58 A (Builtin.List.listLengthHint (.ref r)) Q E s:=by
 refine ah (iK hT aaN ?_);generalize hid:("set.__len__":String)=id0
 wp_delta
 subst hid;refine ah (jg (b:=true) hT (by rw[y9];kernel_rfl) ?_);refine qO (λv8=>absurd v8 7) (λ_=>?_);refine qO (λ_=>?_) (λv8=>absurd 53 v8);exact ah (hV hT (aq h))
def aav{S:Addr}(x:Sat w s.heap S es ep t)(hn:es.size<=100000)
  (h1:(w.params.followText "set-order"=true\/702=false)->Q 352 {s with heap:=s.heap.push (A7 (.int 0 0) 0 S es.size ep)})
  (h2:∀(ps:List Nat) d,ps.Perm (List.range es.size)->Q (.ref 649) {s with heap:=(s.heap.push {cls:=.type "tuple",data:=.seq (ps.map λ(i:Nat)=>rawInt i).toArray}).push (A7 352 0 S es.size ep),drawn:=d}):
  wpAny 58 A (pyIter (.ref S)) Q E s:=by
 obtain⟨o,ho,hex,hd⟩:=x.ob;have hT:s.TypeIs (.ref S) "set":={o,ho,hex.1};refine uN hT F.slot_set_iter (b7 F.slot_set_iter hT Ik ?_ (F.args_set_iter_1 _));unfold Builtin.«frozenset.__iter__» Builtin.Frozenset.slot0 slotArgs;refine ah (ah (aq 666));refine ah ?_;refine ah (ah (x.state (aq 666)));refine ah ?_;refine ah (x.state ?_);refine ah (Bu ?_);refine aq ?_;show wpAny 58 _ (if(!w.params.followText "set-order"&&702)=true then _ else _) _ _ s;by_cases c:(!w.params.followText "set-order"&&702)=true
 ·rw[aM c];refine ah (OI es.size (List.range es.size) s 59 λps d hp=>?_);refine ah (cP ?_ (by show(ps.map _).toArray.size<=_;rw[aR,aj,hp.length_eq,eW,bX];lia));have x2:Sat w (s.heap.push {cls:=.type "tuple",data:=.seq (ps.map λ(i:Nat)=>rawInt i).toArray}) S es ep t:=x.keep λo e=>ao _ e;refine ah ?_;refine ah (Sat.state x2 666);refine ah (cP (aq {_,9,"set_iterator",_,{_,682,9},fQ.lookup,?_}));have:=h2 ps d hp;rw[dk];exact this
 ·rw[aI c];refine ah 666;refine ah ?_;refine ah (x.state 666);refine ah (cP (aq {_,9,"set_iterator",_,{_,682,9},fQ.lookup,h1 ?_}));cases q:w.params.followText "set-order"with
  |true=>exact .inl rfl
  |false=>
   rw[q]at c;exact .inr (iQ.mpr c)
def Pc(l:Aae)(acc:Aaj)(ha:ItemsOf (λi v=>l[i]?=some v) acc l.length):acc.toList=l:=by
 refine List.ext_getElem? λi=>?_;by_cases c:i<l.length
 ·have ci:i<acc.size:=ha.1▸c;have:=ha.2 i acc[i] (cI ci);rw[this,dy,cI ci]
 ·rw[mm (by rw[bJ,ha.1];lia),mm ∅]
theorem S3{α:Type}:∀l:List α,(List.range l.length).filterMap (λi=>l[i]?)=l
 |[]=>rfl
 |x::l=>by rw[bF,yy,fI];show x::_=_;rw[uh];congr 1;exact S3 l
def RI{S L:Addr}(hh:A.handled=none)(x:Sat w s.heap S es ep t)(hn:es.size<=100000)(Pk:L≠S)(hL:s.heap.get? L=some {cls:=.type "list",data:=.seq #[] c₀})
  (hR:∀h' tk d acc c,(∀b o,b≠L->s.heap.get? b=some o->h'.get? b=some o)->h'.get? L=some {cls:=.type "list",dict:=none,data:=.seq acc c,slots:=#[]}->acc.toList.Perm (es.toList.map (·.2))->R (.ok (.ret res)) {s with heap:=h',toks:=tk,drawn:=d}):
  wpAny 58 A.in1 (Builtin.List.listExtendWith (.ref L) (.ref S) res)
   (λfin s'=>match fin with| .done f=>R (.ok f) s'| .again c'=>c'.quiet=true/\codeAny 58 A c' R s') (λe s'=>R (.error e) s') s:=by
 obtain⟨o,ho,hex,hd⟩:=x.ob;have hS:=aY ho;have hLl:=aY hL;have key:∀(I:Addr)(fp:Aah)(P:Nat->Value->Prop)(St:Nat->Shared->Prop),WalksS prog w A.in1 I fp [I] (λa b=>b=a) es.size P St->s.heap.objs.size<=I->L∉fp->(∀acc:Aaj,ItemsOf P acc es.size->acc.toList.Perm (es.toList.map (·.2)))->
   ∀(h:Heap)(d:Drawn)(c₁ tk:Nat),(∀b o,b≠L->s.heap.get? b=some o->h.get? b=some o)->h.get? L=some {cls:=.type "list",data:=.seq #[] c₁}->St 0 {s with heap:=h,toks:=tk,drawn:=d}->
   codeAny 58 A (.builtin "list.extend.loop" {[.ref L,.ref I,res],[]}) R {s with heap:=h,toks:=tk,drawn:=d}:=by
  intro I fp P St W hI nf hP h d c₁ tk hk afe st;refine codeAny_extend_loopS W (by rw[bX];lia) _ nf _ es.size 0 _ _ _ rfl (aP _) st afe (ItemsOf.nil P) λs' uF c' hm U8 ag7=>?_;obtain⟨h',g',d',K6,Y1⟩:=s';have eg:=hm.gens;have ed:d'=d:=hm.drawn;have eo:=hm.os;subst eg ed eo;refine hR h' K6 d' uF c' (λb o hb e=>hm.heap b o ?_ (hk b o hb e)) U8 (hP uF ag7);have lt:=aY e;intro q;rcases aN.mp q with q|q
  ·exact hb q
  ·rw[aC.mp q]at lt;exact absurd (bw lt hI) (da _)
 have tail:∀(I:Addr)(fp:Aah)(P:Nat->Value->Prop)(St:Nat->Shared->Prop),WalksS prog w A.in1 I fp [I] (λa b=>b=a) es.size P St->s.heap.objs.size<=I->L∉fp->(∀acc:Aaj,ItemsOf P acc es.size->acc.toList.Perm (es.toList.map (·.2)))->
   ∀(h:Heap)(d:Drawn),(∀b o,s.heap.get? b=some o->h.get? b=some o)->St 0 {s with heap:=h,drawn:=d}->
   wpAny 58 A.in1 (Builtin.List.listTouch (.ref L)>>=λ_=>again (.builtin "list.extend.loop" {[.ref L,.ref I,res],[]})) (λfin s'=>match fin with| .done f=>R (.ok f) s'| .again c'=>c'.quiet=true/\codeAny 58 A c' R s') (λe s'=>R (.error e) s') {s with heap:=h,drawn:=d}:=by
  intro I fp P St W hI nf hP h d hk st;refine ah ?_;have Z1:=hk _ _ hL;refine ah (xb Z1 9 ?_);have Z0:=eR (Obj.mapSeq (·.push Value.none)) Z1 rfl;refine xb Z0 rfl ?_;have afd:=eR (Obj.mapSeq (·.pop)) Z0 rfl;have yU:∀b o,b≠L->h.get? b=some o->((h.update L (Obj.mapSeq (·.push Value.none))).update L (Obj.mapSeq (·.pop))).get? b=some o:=
   λb o hb e=>(cx _ _ (cM hb)).trans ((cx _ _ (cM hb)).trans e)
  exact aq {mW sj _,key I fp P St W hI nf hP _ d _ s.toks (λb o hb e=>yU b o hb (hk b o e)) afd (W.frame 0 {s with heap:=h,drawn:=d} _ s.toks st (aw _) λb hb o e=>yU b o (λz=>nf (z▸hb)) e)}
 have e1:Builtin.List.listSameRef (.ref L) (.ref S)=false:=by simp[Builtin.List.listSameRef,Pk]
 have e2:(Value.type "set"==Value.type "list")=false:=by decide
 have e3:(Value.type "set"==Value.type "tuple")=false:=by decide
 refine ah (hV ({o,ho,hex.1}) ?_);simp only[e1,e2,e3,Bi,gP,kB];refine ah (aav x hn (λhc=>?_) λps d hp=>?_)
 ·have W:=aey (prog:=prog) (A:=A.in1) (ep:=ep) (by simpa using hh) (aX hS) hc;have nf:L∉[s.heap.objs.size,S]:=λhb=>by
   rcases aN.mp hb with q|q
   ·exact absurd q (aX hLl)
   ·exact Pk (aC.mp q)
  have hP:∀acc:Aaj,ItemsOf (λi v=>((vd w S es ep).map (·.2))[i]?=some v) acc es.size->acc.toList.Perm (es.toList.map (·.2)):=λacc ha=>by
   have lo:((vd w S es ep).map (·.2)).length=es.size:=by rw[aj,(zY w S es ep).length_eq,bJ]
   rw[<-lo]at ha;rw[Pc _ acc ha];exact(zY w S es ep).map _
  have kp:∀b o,s.heap.get? b=some o->(s.heap.push (A7 (.int 0 0) 0 S es.size ep)).get? b=some o:=λb o e=>ao _ e;have st:Sat w (s.heap.push (A7 (.int 0 0) 0 S es.size ep)) S es ep t/\(s.heap.push (A7 (.int 0 0) 0 S es.size ep)).get? s.heap.objs.size=some (A7 (.int (xP w t 0) 0) 0 S es.size ep):={x.keep λo e=>kp _ _ e,682};refine ah (cn (MY {o,kp _ _ ho,hex.1} ?_));exact qO (λ_=>ah (j8 (tail _ _ _ _ W (aw _) nf hP _ s.drawn kp st))) (λ_=>aq {mW sj _,key _ _ _ _ W (aw _) nf hP _ s.drawn c₀ s.toks (λb o _ e=>kp b o e) (kp _ _ hL) st})
 ·have nT:s.heap.objs.size≠s.heap.objs.size+1:=aX (eF _);have W:=aex (prog:=prog) (w:=w) (A:=A.in1) (ep:=ep) (t:=t) (by simpa using hh) (aX (eU hS)) nT hp;have nf:L∉[s.heap.objs.size+1,S,s.heap.objs.size]:=λhb=>by
   rcases aN.mp hb with q|q
   ·exact absurd q (aX (eU hLl))
   ·rcases aN.mp q with q|q
    ·exact Pk q
    ·exact absurd (aC.mp q) (aX hLl)
  have hP:∀acc:Aaj,ItemsOf (λi v=>((ps.filterMap (es[·]?)).map (·.2))[i]?=some v) acc es.size->acc.toList.Perm (es.toList.map (·.2)):=λacc ha=>by
   have hl:(ps.filterMap (es[·]?)).Perm es.toList:=by
    have:=hp.filterMap (es.toList[·]?);rw[<-bJ]at this;have e4:(ps.filterMap (es[·]?))=ps.filterMap (es.toList[·]?):=by simp
    rw[e4];rwa [S3]at this
   have lo:((ps.filterMap (es[·]?)).map (·.2)).length=es.size:=by rw[aj,hl.length_eq,bJ]
   rw[<-lo]at ha;rw[Pc _ acc ha];exact hl.map _
  generalize M0:(s.heap.push {cls:=.type "tuple",data:=.seq (ps.map λ(i:Nat)=>rawInt i).toArray}).push (A7 352 0 S es.size ep)=ir;have kp:∀b o,s.heap.get? b=some o->ir.get? b=some o:=λb o e=>by rw[<-M0];exact ao _ (ao _ e)
  have gI:ir.get? 649=some (A7 352 0 S es.size ep):=by have:=aU (s.heap.push {cls:=.type "tuple",data:=.seq (ps.map λ(i:Nat)=>rawInt i).toArray}) (o:=A7 352 0 S es.size ep) rfl;rw[dk]at this;rw[<-M0];exact this
  have st:Sat w ir S es ep t/\ir.get? 649=some (A7 352 0 S es.size ep)/\ir.get? s.heap.objs.size=some {cls:=.type "tuple",data:=.seq (ps.map λ(i:Nat)=>rawInt i).toArray}:={x.keep λo e=>kp _ _ e,gI,(by rw[<-M0];exact ao _ (aU _ 9))};refine ah (cn (MY {o,kp _ _ ho,hex.1} ?_));exact qO (λ_=>ah (j8 (tail _ _ _ _ W (fG _) nf hP ir d kp st))) (λ_=>aq {mW sj _,key _ _ _ _ W (fG _) nf hP ir d c₀ s.toks (λb o _ e=>kp b o e) (kp _ _ hL) st})
def Oy{S:Addr}(hh:A.handled=none)(x:Sat w s.heap S es ep t)(hn:es.size<=100000)
  (h:∀h' tk d vs,vs.Perm (es.toList.map (·.2))->(∀b o,s.heap.get? b=some o->h'.get? b=some o)->R vs {s with heap:=h',toks:=tk,drawn:=d}):wpAny 58 A (collect (.ref S)) R E s:=by
 obtain⟨o,ho,hex,hd⟩:=x.ob;refine ah (wpAny_runValue (fq F.entry_proto_collect ?_));refine ah (cP ?_);refine aq {mW F.plain_list_iadd _,fq F.entry_list_iadd ?_};have k1:∀b o,s.heap.get? b=some o->(s.heap.push {cls:=.type "list",data:=.seq ([]:Aae).toArray}).get? b=some o:=λb o e=>ao _ e;have hL:(s.heap.push {cls:=.type "list",data:=.seq ([]:Aae).toArray}).get? s.heap.objs.size=some {cls:=.type "list",data:=.seq #[]}:=aU _ rfl;have key:=RI (prog:=prog) (s:={s with heap:=s.heap.push {cls:=.type "list",data:=.seq ([]:Aae).toArray}})
  (R:=λ(q:Result)(s':Shared)=>∃(h':Heap)(tk:Nat)(d:Drawn)(uF:Aaj)(c':Nat),q=.ok (.ret 352)/\s'={s with heap:=h',toks:=tk,drawn:=d}/\
   (∀b o,s.heap.get? b=some o->h'.get? b=some o)/\h'.get? s.heap.objs.size=some {cls:=.type "list",dict:=none,data:=.seq uF c',slots:=#[]}/\uF.toList.Perm (es.toList.map (·.2)))
  hh (x.keep λo e=>k1 _ _ e) hn (cu (aY ho)) hL λh' tk d acc c kp g pm=>{h',tk,d,acc,c,9,9,λb o e=>kp b o (aX (aY e)) (k1 _ _ e),g,pm}
 refine dC key (λfin s' x=>?_) λe s' x=>?_
 ·cases fin with
  |done f=>
   obtain⟨h',tk,d,uF,c',e,rfl,hk,U8,pm⟩:=x;cases e;exact ah (FJ U8 (aq (h h' tk d uF.toList pm hk)))
  |again c₁=>
   refine{x.1,md x.2 λq aad y=>?_};obtain⟨h',tk,d,uF,c',rfl,rfl,hk,U8,pm⟩:=y;exact ah (FJ U8 (aq (h h' tk d uF.toList pm hk)))
 ·obtain⟨_,_,_,_,_,e',_⟩:=x;cases e'
end
end Tb
namespace uV
open PySem PySem.W PyProof.Rows
def ev{α:Type}(lt:Nat->Nat->Bool):KasT α->α
 | .ret a=>a
 | .ask i j k=>ev lt (k (lt i j))
theorem vo{α β:Type}{lt:Nat->Nat->Bool}{f:α->KasT β}:∀t:KasT α,ev lt (t.bind f)=ev lt (f (ev lt t))
 | .ret _=>rfl
 | .ask i j k=>vo (k (lt i j))
section
variable{rk:Nat->Nat}
abbrev iq(rk:Nat->Nat)(i j:Nat):Bool:=decide (rk i<rk j)
abbrev gK(rk:Nat->Nat)(p:Array Nat)(k:Nat):Nat:=rk (p.getD k 0)
def v9{p q:Array Nat}{i j:Nat}(h:p[i]?=q[j]?):gK rk p i=gK rk q j:=by unfold gK;rw[um,um,h]
def Vf{p:Array Nat}{src d:Nat}(hs:src<p.size)(hd:d<=src)(k:Nat):gK rk (bubble p src d) k=if k=src -d then gK rk p src else if src -d<k/\k<=src then gK rk p (k -1)else gK rk p k:=by
 have e:=getElem?_bubble hs d hd k;by_cases h1:k=src -d
 ·rw[aM h1]at e⊢;exact v9 e
 ·rw[aI h1]at e⊢;by_cases h2:src -d<k/\k<=src
  ·rw[aM h2]at e⊢;exact v9 e
  ·rw[aI h2]at e⊢;exact v9 e
def Nn{p:Array Nat}{i j:Nat}(hj:j<=p.size)(k:Nat):gK rk (kas_rev p i j) k=if i<=k/\k<j then gK rk p (i+j -1 -k)else gK rk p k:=by
 have e:=getElem?_mirror_all (i:=i) hj k;by_cases h1:i<=k/\k<j
 ·rw[aM h1]at e⊢;exact v9 e
 ·rw[aI h1]at e⊢;exact v9 e
def EV(p:Array Nat)(i j:Nat):(kas_rev p i j).size=p.size:=mirror_size _ _ _ _
def mI(p:Array Nat)(i j:Nat):(kas_rev p i j).Perm p:=mirror_perm _ _ _ _
def Up(rk:Nat->Nat)(p:Array Nat)(n:Nat):Prop:=∀i j,i<=j->j<n->gK rk p i<=gK rk p j
def Dn(rk:Nat->Nat)(p:Array Nat)(n:Nat):Prop:=∀i j,i<=j->j<n->gK rk p j<=gK rk p i
def Up.more{p:Array Nat}{n:Nat}(h:Up rk p n)(h1:1<=n)(hn:gK rk p (n -1)<=gK rk p n):Up rk p (n+1):=λi j Ci hj=>by
 by_cases e:j=n
 ·subst e;by_cases e2:i=j
  ·rw[e2];exact aw _
  ·exact bu (h i (j -1) ∅ ∅) hn
 ·exact h i j Ci ∅
def Dn.more{p:Array Nat}{n:Nat}(h:Dn rk p n)(h1:1<=n)(hn:gK rk p n<=gK rk p (n -1)):Dn rk p (n+1):=λi j Ci hj=>by
 by_cases e:j=n
 ·subst e;by_cases e2:i=j
  ·rw[e2];exact aw _
  ·exact bu hn (h i (j -1) ∅ ∅)
 ·exact h i j Ci ∅
theorem Nz{p:Array Nat}:∀(f n:Nat),1<=n->Up rk p n->n<=ev (iq rk) (kas_asc p f n)/\ev (iq rk) (kas_asc p f n)<=n+f/\Up rk p (ev (iq rk) (kas_asc p f n))/\(ev (iq rk) (kas_asc p f n)=n+f\/gK rk p (ev (iq rk) (kas_asc p f n))<gK rk p (ev (iq rk) (kas_asc p f n) -1))
 |0,n,_,hu=>{aw _,aw _,hu,.inl rfl}
 |f+1,n,h1,hu=>by
  show n<=ev (iq rk) 647/\ev (iq rk) 647<=n+(f+1)/\Up rk p (ev (iq rk) 647)/\(ev (iq rk) 647=n+(f+1)\/gK rk p (ev (iq rk) 647)<gK rk p (ev (iq rk) 647 -1));by_cases c:iq rk (p.getD n 0) 688=true
  ·rw[aM c];exact{aw _,eG _ _,hu,.inr (aT c)}
  ·rw[aI c];obtain⟨a1,a2,a3,a4⟩:=Nz f (n+1) ∅ (hu.more h1 (kI λh=>c (bg h)));exact{8,8,a3,a4.imp (λe=>by lia) id}
structure aew(rk:Nat->Nat)(p:Array Nat)(n q:Nat):Prop where
 dn:Dn rk p n
 q1:q+1<=n
 eq:∀k,n -(q+1)<=k->k<n->gK rk p k=gK rk p (n -1)
def BO{p:Array Nat}{i j:Nat}(hj:j<=p.size)(he:∀k,i<=k->k<j->gK rk p k=gK rk p (j -1))(k:Nat):gK rk (kas_rev p i j) k=gK rk p k:=by
 rw[Nn hj];split
 ·rw[he _ ∅ ∅,he k ∅ ∅]
 ·rfl
def Dn.of{p p':Array Nat}{n:Nat}(h:Dn rk p n)(e:∀k,gK rk p' k=gK rk p k):Dn rk p' n:=λi j Ci hj=>by rw[e,e];exact h i j Ci hj
theorem DF:∀(f:Nat)(p:Array Nat)(n q:Nat),n+f<=p.size->aew rk p n q->∃p' m q',ev (iq rk) (kas_desc f p n q)=(p',m,q')/\p'.Perm p/\n<=m/\m<=n+f/\aew rk p' m q'
 |0,p,n,q,_,hf=>{p,n,q,9,.refl _,aw _,aw _,hf}
 |f+1,p,n,q,hs,hf=>by
  have q1:=hf.q1;show∃p' m q',ev (iq rk) (if iq rk (p.getD n 0) 688=true then(if q>0 then kas_desc f (kas_rev p (n -(q+1)) n) (n+1) 0 else kas_desc f p (n+1) 0)else .ask 688 (p.getD n 0) λd=>if d=true then .ret (p,n,q)else kas_desc f p (n+1) (q+1))=(p',m,q')/\_;by_cases c:iq rk (p.getD n 0) 688=true
  ·rw[aM c];have c':gK rk p n<gK rk p (n -1):=aT c;by_cases hq:q>0
   ·rw[aM hq];have al:=BO ∅ hf.eq;obtain⟨p',m,q',e,hp,h1,h2,h3⟩:=DF f (kas_rev p (n -(q+1)) n) (n+1) 0 (by rw[EV];lia) {(hf.dn.of al).more ∅ (by rw[al,al];lia),8,λk Cg xv=>by rw[show k=n by lia];rfl};exact{p',m,q',e,hp.trans (mI _ _ _),8,8,h3}
   ·rw[aI hq];obtain⟨p',m,q',e,hp,h1,h2,h3⟩:=DF f p (n+1) 0 ∅ {hf.dn.more ∅ ∅,8,λk Cg xv=>by rw[show k=n by lia];rfl};exact{p',m,q',e,hp,8,8,h3}
  ·rw[aI c];have c':gK rk p (n -1)<=gK rk p n:=kI λh=>c (bg h);show∃p' m q',ev (iq rk) (if iq rk 688 (p.getD n 0)=true then .ret (p,n,q)else kas_desc f p (n+1) (q+1))=(p',m,q')/\_;by_cases d:iq rk 688 (p.getD n 0)=true
   ·rw[aM d];exact{p,n,q,9,.refl _,aw _,eG _ _,hf}
   ·rw[aI d];have d':gK rk p n<=gK rk p (n -1):=kI λh=>d (bg h);obtain⟨p',m,q',e,hp,h1,h2,h3⟩:=DF f p (n+1) (q+1) ∅ {hf.dn.more ∅ d',by lia,λk Cg xv=>by
     show gK rk p k=gK rk p n;by_cases ek:k=n
     ·rw[ek]
     ·rw[hf.eq k ∅ ∅];lia}
    exact{p',m,q',e,hp,8,8,h3}
def P7{p:Array Nat}{n N:Nat}(h1:1<=n)(hn:n<=N)(hN:N<=p.size)(hd:Dn rk p n):∃m p',ev (iq rk) (kas_tail3 n N p)=(m,p')/\p'.Perm p/\1<=m/\m<=N/\Up rk p' m:=by
 unfold kas_tail3;rw[vo];have hu:Up rk (kas_rev p 0 n) n:=λi j Ci hj=>by rw[Nn ∅,Nn ∅,aM ∅,aM ∅];exact hd _ _ ∅ ∅
 obtain⟨a1,a2,a3,_⟩:=Nz (N -n) n h1 hu;exact{_,_,9,mI _ _ _,8,8,a3}
def Ez{p:Array Nat}{n N:Nat}(h1:1<=n)(hn:n<N)(hN:N<=p.size)(hd:Dn rk p (n+1)):∃m p',ev (iq rk) (kas_descPart n N p)=(m,p')/\p'.Perm p/\1<=m/\m<=N/\Up rk p' m:=by
 unfold kas_descPart;rw[vo];obtain⟨p',m,q',e,hp,a1,a2,hf⟩:=DF (N -(n+1)) p (n+1) 0 ∅ {hd,8,λk Cg xv=>by rw[show k=n by lia];rfl};rw[e];have sz:=hp.size_eq;by_cases hq:q'>0
 ·rw[aM hq];have al:=BO ∅ hf.eq;obtain⟨m1,p1,e1,jD,b1,b2,b3⟩:=P7 (N:=N) ∅ ∅ (by rw[EV];lia) (hf.dn.of al);exact{m1,p1,e1,(jD.trans (mI _ _ _)).trans hp,b1,b2,b3}
 ·rw[aI hq];obtain⟨m1,p1,e1,jD,b1,b2,b3⟩:=P7 (N:=N) ∅ ∅ ∅ hf.dn;exact{m1,p1,e1,jD.trans hp,b1,b2,b3}
def XR{p:Array Nat}{N:Nat}(h1:1<=N)(hN:N<=p.size):∃m p',ev (iq rk) (kas_count N p)=(m,p')/\p'.Perm p/\1<=m/\m<=N/\Up rk p' m:=by
 unfold kas_count;rw[vo];obtain⟨a1,a2,a3,a4⟩:=Nz (rk:=rk) (p:=p) (N -1) 1 (aw _) (λi j Ci hj=>by rw[show i=j by lia];exact aw _);generalize ev (iq rk) (kas_asc p (N -1) 1)=n at a1 a2 a3 a4;by_cases hnn:n=N
 ·rw[aM (by simpa using hnn)];exact{n,p,9,.refl _,8,8,a3}
 ·rw[aI (by simpa using hnn)];have bO:gK rk p n<gK rk p (n -1):=a4.resolve_left ∅;by_cases hgt:n>1
  ·rw[aM hgt];show∃m p',ev (iq rk) (if iq rk (p.getD 0 0) 688=true then .ret (n,p)else kas_descPart n N (kas_rev p 0 n))=(m,p')/\_;by_cases c:iq rk (p.getD 0 0) 688=true
   ·rw[aM c];exact{n,p,9,.refl _,8,8,a3}
   ·rw[aI c];have c':gK rk p (n -1)<=gK rk p 0:=kI λh=>c (bg h);have ot:∀k,0<=k->k<n->gK rk p k=gK rk p (n -1):=λk _ hk=>by have b1:=a3 0 k ∅ hk;have b2:=a3 k (n -1) ∅ ∅;lia
    have al:=BO (rk:=rk) (p:=p) (i:=0) (j:=n) ∅ ot;obtain⟨m1,p1,e1,jD,b1,b2,b3⟩:=Ez (rk:=rk) (p:=kas_rev p 0 n) (n:=n) (N:=N) ∅ ∅ (by rw[EV];lia) (λi j Ci hj=>by
     rw[al,al];by_cases hjn:j=n
     ·by_cases rB:i=n
      ·rw[rB,hjn];exact aw _
      ·rw[hjn,ot i ∅ ∅];lia
     ·rw[ot i ∅ ∅,ot j ∅ ∅];exact aw _)
    exact{m1,p1,e1,jD.trans (mI _ _ _),b1,b2,b3}
  ·rw[aI hgt];have e1:n=1:=by lia
   subst e1;have bO:gK rk p 1<gK rk p 0:=bO;exact Ez ∅ ∅ hN λi j Ci hj=>by
    by_cases e:i=j
    ·rw[e];exact aw _
    ·rw[show i=0 by lia,show j=1 by lia];lia
theorem Fh{p:Array Nat}{k:Nat}(hu:Up rk p k):∀(f l r:Nat),l<=r->r<=k->r -l<=f->(∀i,i<l->gK rk p i<=gK rk p k)->(∀i,r<=i->i<k->gK rk p k<=gK rk p i)->∃x,ev (iq rk) (kas_place p k f l r)=x/\x<=k/\(∀i,i<x->gK rk p i<=gK rk p k)/\∀i,x<=i->i<k->gK rk p k<=gK rk p i
 |0,l,r,h1,h2,h3,h4,h5=>{l,9,8,h4,λi a b=>h5 i ∅ b}
 |f+1,l,r,h1,h2,h3,h4,h5=>by
  show∃x,ev (iq rk) (if l≥r then KasT.ret l else .ask (p.getD k 0) (p.getD ((l+r)/2) 0) λc=>if c=true then kas_place p k f l ((l+r)/2)else kas_place p k f ((l+r)/2+1) r)=x/\_;by_cases c:l≥r
  ·rw[aM c];exact{l,9,8,h4,λi a b=>h5 i ∅ b}
  ·rw[aI c];show∃x,ev (iq rk) (if iq rk (p.getD k 0) (p.getD ((l+r)/2) 0)=true then kas_place p k f l ((l+r)/2)else kas_place p k f ((l+r)/2+1) r)=x/\_;by_cases d:iq rk (p.getD k 0) (p.getD ((l+r)/2) 0)=true
   ·rw[aM d];exact Fh hu f l ((l+r)/2) ∅ ∅ ∅ h4 λi a b=>bu (bB (aT d)) (hu _ i a b)
   ·rw[aI d];exact Fh hu f ((l+r)/2+1) r ∅ h2 ∅ (λi hi=>bu (hu i ((l+r)/2) ∅ ∅) (kI λh=>d (bg h))) h5
theorem Vm:∀(f:Nat)(p:Array Nat)(k:Nat),k+f<=p.size->Up rk p k->∃p',ev (iq rk) (kas_bin f p k)=p'/\p'.Perm p/\Up rk p' (k+f)
 |0,p,k,_,hu=>{p,9,.refl _,hu}
 |f+1,p,k,hs,hu=>by
  show∃p',ev (iq rk) ((kas_place p k k 0 k).bind λl=>kas_bin f (bubble p k (k -l)) (k+1))=p'/\_;rw[vo];obtain⟨x,e,hx,h1,h2⟩:=Fh hu k 0 k (aP _) (aw _) ∅ (λi hi=>absurd hi (fU _)) λi a b=>by lia
  rw[e];have hb:=λj=>Vf (rk:=rk) (p:=p) (src:=k) (d:=k -x) ∅ ∅ j;rw[show k -(k -x)=x by lia]at hb;have oq:Up rk (bubble p k (k -x)) (k+1):=λi j Ci hj=>by
   rw[hb,hb];by_cases c1:i=x
   ·rw[aM c1];by_cases c2:j=x
    ·rw[aM c2];exact aw _
    ·rw[aI c2,aM ∅];exact h2 (j -1) ∅ ∅
   ·rw[aI c1];by_cases c3:x<i/\i<=k
    ·rw[aM c3,aI ∅,aM ∅];exact hu _ _ ∅ ∅
    ·rw[aI c3];by_cases c2:j=x
     ·rw[aM c2];exact h1 i ∅
     ·rw[aI c2];by_cases c4:x<j/\j<=k
      ·rw[aM c4];exact hu _ _ ∅ ∅
      ·rw[aI c4];exact hu _ _ Ci ∅
  obtain⟨p',e',hp,zd⟩:=Vm f (bubble p k (k -x)) (k+1) (by rw[bubble_size];lia) oq;exact{p',e',hp.trans (bubble_perm _ _ _),by rw[show k+(f+1)=k+1+f by lia];exact zd}
def abE{n:Nat}(h1:1<=n):∃p,ev (iq rk) (kas_sort n)=p/\p.toList.Perm (List.range n)/\Up rk p n:=by
 unfold kas_sort;rw[vo];have sz:(List.toArray (List.range n)).size=n:=by simp
 obtain⟨m,p,e,hp,b1,b2,hu⟩:=XR (p:=List.toArray (List.range n)) h1 ∅;rw[e];have sp:p.size=n:=by rw[hp.size_eq,sz]
 have hl:p.toList.Perm (List.range n):=by have:=uL.mp hp;simpa using this
 by_cases c:m<n
 ·rw[aM c,show max m 1=m by lia];obtain⟨p',e',PH,oq⟩:=Vm (n -m) p m ∅ hu;exact{p',e',(uL.mp PH).trans hl,by rw[show n=m+(n -m) by lia];exact oq}
 ·rw[aI c];exact{p,9,hl,by rw[show n=m by lia];exact hu}
def pO{α:Type}(n:Nat)(P:α->Prop):KasT α->Prop
 | .ret a=>P a
 | .ask i j k=>i<n/\j<n/\∀b,pO n P (k b)
theorem pO.bind{α β:Type}{n:Nat}{P:α->Prop}{R:β->Prop}{f:α->KasT β}:∀{t:KasT α},pO n P t->(∀a,P a->pO n R (f a))->pO n R (t.bind f)
 | .ret a,h,k=>k a h
 | .ask i j g,h,k=>{h.1,h.2.1,λb=>pO.bind (h.2.2 b) k}
theorem Vl{α:Type}{n:Nat}{P:α->Prop}{lt:Nat->Nat->Bool}{cmp:Nat->Nat->(Bool->Shared->Prop)->Shared->Prop}{J:Shared->Prop}{Q:α->Shared->Prop}(hc:∀i j C s,i<n->j<n->J s->(∀s',J s'->C (lt i j) s')->cmp i j C s):∀(t:KasT α)(s:Shared),pO n P t->J s->(∀s',J s'->Q (ev lt t) s')->t.kasWp cmp Q s
 | .ret _,s,_,hj,h=>h s hj
 | .ask i j k,s,a,hj,h=>hc i j _ s a.1 a.2.1 hj λs' JF=>Vl hc (k (lt i j)) s' (a.2.2 _) JF h
def Bd(n:Nat)(p:Array Nat):Prop:=∀x∈p,x<n
def Bd.getD{n:Nat}{p:Array Nat}(h:Bd n p)(h0:0<n)(k:Nat):p.getD k 0<n:=by
 by_cases c:k<p.size
 ·have e:p.getD k 0=p[k]:=by simp[Array.getD,c]
  rw[e];exact h _ (Array.getElem_mem c)
 ·have e:p.getD k 0=0:=by simp[Array.getD,c]
  rw[e];exact h0
def Bd.perm{n:Nat}{p q:Array Nat}(h:Bd n p)(hp:q.Perm p):Bd n q:=λx hx=>h x (hp.mem_iff.mp hx)
end
section
variable{n:Nat}(h0:0<n)
include h0
theorem FD{p:Array Nat}(hb:Bd n p):∀f m,pO n (λ_=>True) (kas_asc p f m)
 |0,m=>trivial
 |f+1,m=>{hb.getD h0 _,hb.getD h0 _,λb=>by
  cases b with
  |true=>exact trivial
  |false=>exact FD hb f (m+1)}
theorem xE:∀(f:Nat)(p:Array Nat)(m q:Nat),Bd n p->pO n (λr:Array Nat×Nat×Nat=>Bd n r.1) (kas_desc f p m q)
 |0,p,m,q,hb=>hb
 |f+1,p,m,q,hb=>{hb.getD h0 _,hb.getD h0 _,λb=>by
  cases b with
  |true=>
   show pO n _ (if q>0 then kas_desc f (kas_rev p (m -(q+1)) m) (m+1) 0 else kas_desc f p (m+1) 0);split
   ·exact xE f _ _ _ (hb.perm (mI _ _ _))
   ·exact xE f _ _ _ hb
  |false=>
   refine{hb.getD h0 _,hb.getD h0 _,λd=>?_};cases d with
   |true=>exact hb
   |false=>exact xE f p (m+1) (q+1) hb}
def Kc{p:Array Nat}(hb:Bd n p)(m N:Nat):pO n (λr:Nat×Array Nat=>Bd n r.2) (kas_tail3 m N p):=
 (FD h0 (hb.perm (mI _ _ _)) _ _).bind λ_ _=>hb.perm (mI _ _ _)
def Bf{p:Array Nat}(hb:Bd n p)(m N:Nat):pO n (λr:Nat×Array Nat=>Bd n r.2) (kas_descPart m N p):=
 (xE h0 _ _ _ _ hb).bind λr hr=>by
  split
  ·exact Kc h0 (hr.perm (mI _ _ _)) _ _
  ·exact Kc h0 hr _ _
def R4{p:Array Nat}(hb:Bd n p)(N:Nat):pO n (λr:Nat×Array Nat=>Bd n r.2) (kas_count N p):=
 (FD h0 hb _ _).bind λm _=>by
  split
  ·exact hb
  ·split
   ·refine{hb.getD h0 _,hb.getD h0 _,λb=>?_};cases b with
    |true=>exact hb
    |false=>exact Bf h0 (hb.perm (mI _ _ _)) _ _
   ·exact Bf h0 hb _ _
theorem AA{p:Array Nat}(hb:Bd n p)(k:Nat):∀f l r,pO n (λ_=>True) (kas_place p k f l r)
 |0,l,r=>trivial
 |f+1,l,r=>by
  unfold kas_place;split
  ·exact trivial
  ·refine{hb.getD h0 _,hb.getD h0 _,λb=>?_};cases b with
   |true=>exact AA hb k f _ _
   |false=>exact AA hb k f _ _
theorem NY:∀(f:Nat)(p:Array Nat)(k:Nat),Bd n p->pO n (Bd n) (kas_bin f p k)
 |0,p,k,hb=>hb
 |f+1,p,k,hb=>(AA h0 hb k _ _ _).bind λl _=>NY f _ _ (hb.perm (bubble_perm _ _ _))
def VN:pO n (Bd n) (kas_sort n):=
 (R4 h0 (p:=List.toArray (List.range n)) (λx hx=>by simpa using hx) n).bind λr hr=>by
  split
  ·exact NY h0 _ _ _ hr
  ·exact hr
end
end uV
namespace uV
open PySem PySem.W PyProof.Rows PySem.Calls
section
variable{prog:Program}{w:World}{A:Around}{E:Aac}{s:Shared}{vs:Aae}
def Tk(s s':Shared):Prop:=∃t,s'={s with toks:=t}
def Tk.refl(s:Shared):Tk s s:={s.toks,9}
abbrev gh(h:Heap)(a:Addr)(vs:Aae):Heap:=((h.update a (Obj.mapSeq λ_=>(#[]:Aaj))).push (seqObj "tuple" vs.toArray 0)).push (seqObj "list" #[] 0)
def QB{a:Addr}{n:Nat}{P:PySem.Fin->Shared->Prop}{κ:SortKind}{rk:Nat->Nat}(ho:s.heap.get? a=some (seqObj "list" vs.toArray n))(h2:2<=vs.length)(zm:vs.length<64)
  (hk:∀s',Tk {s with heap:=gh s.heap a vs} s'->wpAny 58 A (keyKind' vs.toArray) (λk s2=>k=κ/\Tk {s with heap:=gh s.heap a vs} s2) (λ_ _=>False) s')
  (hc:∀i j C s',i<vs.length->j<vs.length->Tk {s with heap:=gh s.heap a vs} s'->(∀s2,Tk {s with heap:=gh s.heap a vs} s2->C (iq rk i j) s2)->kas_ask prog w A κ vs i j C s')
  (k:∀(p:Array Nat)(h':Heap)(tk c:Nat),p.toList.Perm (List.range vs.length)->Up rk p vs.length->h'.get? a=some (seqObj "list" (List.toArray (p.toList.map λi=>vs.getD i Value.none)) c)->(∀b o,b≠a->s.heap.get? b=some o->h'.get? b=some o)->P (.done (.ret .none)) {s with heap:=h',toks:=tk}):
  wpAny 58 A (Builtin.«list.sort» {[.ref a],[]}) P E s:=by
 obtain⟨e1,ze⟩:∃e1,(s.heap.update a (Obj.mapSeq λ_=>(#[]:Aaj))).get? a=some (seqObj "list" #[] e1):={_,get?_update_seq ho λ_=>#[]};have Na:(gh s.heap a vs).get? a=some (seqObj "list" #[] e1):=ao _ (ao _ ze);have Aa:∀b o,b≠a->s.heap.get? b=some o->(gh s.heap a vs).get? b=some o:=λb o nb q=>ao _ (ao _ ((cH s.heap a _).extBut b o nb q));rw[list_sort_plain];refine ah (listItems_at ho 9 ?_);refine ah (uz ho 9 ?_ (by rw[aR,bX];lia) (aP _));refine ah (xQ ze 9 ?_);refine ah (sC ?_ (by show vs.length<=_;rw[bX];lia));refine ah (uo ?_ (aP _));refine cn ?_;have big:¬vs.toArray.size<2:=by rw[aR];lia
 rw[aI big,aI big];refine ah (dC (hk _ (Tk.refl _)) (λkd s0 hq=>?_) λ_ _ x=>x.elim);obtain⟨rfl,t0⟩:=hq;obtain⟨p,ep,hp,hu⟩:=abE (n:=vs.length) ∅;have agM:(kas_sort vs.length).kasWp (kas_ask prog w A kd vs) (λq s'=>q=p/\Tk {s with heap:=gh s.heap a vs} s') s0:=Vl hc _ s0 (VN ∅) t0 λs' t'=>⟨ep,t'⟩;refine ah (dC (kat_run (Q:=λmT s'=>arrOf mT=p.map (kas_item (vs.toArray.zip vs.toArray))/\failedOf mT=none/\Tk {s with heap:=gh s.heap a vs} s') 9 h2 zm (λp' mT s' a1 a2 a3 a4=>by obtain⟨rfl,t'⟩:=a4;exact⟨a2,a3,t'⟩) agM) ?_ λ_ _ e=>e)
 rintro⟨⟨⟩,mT⟩ s' ⟨har,hf,tk,rfl⟩;dsimp only;rw[kat_snds rfl har];have lp:(p.toList.map λi=>vs.getD i Value.none).length=vs.length:=by rw[aj,hp.length_eq,eW]
 obtain⟨out,eo⟩:∃out,out=p.toList.map λi=>vs.getD i Value.none:=⟨_,rfl⟩;obtain⟨c2,ub⟩:∃c2,((gh s.heap a vs).update a (Obj.mapSeq λ_=>out.toArray)).get? a=some (seqObj "list" out.toArray c2):={_,get?_update_seq Na λ_=>out.toArray};refine ah (xQ Na 9 ?_);refine ah (uz Na 9 ?_ (aP _) (by rw[aR,lp,bX];lia));rw[hf];simp only[DR,gP,kB];refine aq (k p _ tk c2 hp hu ?_ λb o nb q=>(cH (gh s.heap a vs) a _).extBut b o nb (Aa b o nb q));rw[<-eo];exact ub
def aaL{rk:Value->Nat}(ho:s.heap.get? a=some (seqObj "list" vs.toArray n))(h2:2<=vs.length)(zm:vs.length<64)
  (hk:∀s',Tk {s with heap:=gh s.heap a vs} s'->wpAny 58 A (keyKind' vs.toArray) (λk s2=>k=κ/\Tk {s with heap:=gh s.heap a vs} s2) (λ_ _=>False) s')
  (hc:∀x∈vs,∀y∈vs,∀s',Tk {s with heap:=gh s.heap a vs} s'->wpAny 58 A (keyLt' κ x y) (λb s2=>b=decide (rk x<rk y)/\Tk {s with heap:=gh s.heap a vs} s2) (λ_ _=>False) s')
  (k:∀(us:Aae)(h':Heap)(tk c:Nat),us.Perm vs->us.Pairwise (λx y=>rk x<=rk y)->h'.get? a=some (seqObj "list" us.toArray c)->(∀b o,b≠a->s.heap.get? b=some o->h'.get? b=some o)->P (.done (.ret .none)) {s with heap:=h',toks:=tk}):
  wpAny 58 A (Builtin.«list.sort» {[.ref a],[]}) P E s:=by
 have mem:∀i,i<vs.length->vs.getD i Value.none∈vs:=λi hi=>by rw[cD,ay hi];exact kJ hi
 refine QB (rk:=λi=>rk (vs.getD i Value.none)) ho h2 zm hk (λi j C s' hi hj tk q=>?_) λp h' tk c hp hu g kp=>k _ h' tk c ?_ ?_ g kp
 ·refine dC (hc _ (mem i hi) _ (mem j hj) s' tk) (λb s2 agi=>?_) λ_ _ x=>x;obtain⟨e,t⟩:=agi;rw[e];exact q s2 t
 ·have:=hp.map λi=>vs.getD i Value.none;rwa [show(List.range vs.length).map (λi=>vs.getD i Value.none)=vs from List.ext_getElem 59 λi h1 h2=>by simp[h2]]at this
 ·have lp:p.size=vs.length:=by rw[<-bJ,hp.length_eq,eW]
  refine j4.mpr (nJ.mpr λx y hx hy hxy=>?_);have Py:x<p.size:=by simpa using hx
  have UD:y<p.size:=by simpa using hy
  have:=hu x y (bB hxy) ∅;unfold gK at this;have ex:p.getD x 0=p.toList[x]:=by simp[Array.getD,Py]
  have ey:p.getD y 0=p.toList[y]:=by simp[Array.getD,UD]
  rw[ex,ey]at this;exact this
def Wg(ho:s.heap.get? a=some (seqObj "list" vs.toArray n))(h2:vs.length<2)
  (k:∀(h':Heap)(c:Nat),h'.get? a=some (seqObj "list" vs.toArray c)->(∀b o,b≠a->s.heap.get? b=some o->h'.get? b=some o)->P (.done (.ret .none)) {s with heap:=h'}):
  wpAny 58 A (Builtin.«list.sort» {[.ref a],[]}) P E s:=by
 obtain⟨e1,ze⟩:∃e1,(s.heap.update a (Obj.mapSeq λ_=>(#[]:Aaj))).get? a=some (seqObj "list" #[] e1):={_,get?_update_seq ho λ_=>#[]};have Na:(gh s.heap a vs).get? a=some (seqObj "list" #[] e1):=ao _ (ao _ ze);have Aa:∀b o,b≠a->s.heap.get? b=some o->(gh s.heap a vs).get? b=some o:=λb o nb q=>ao _ (ao _ ((cH s.heap a _).extBut b o nb q));rw[list_sort_plain];refine ah (listItems_at ho 9 ?_);refine ah (uz ho 9 ?_ (by rw[aR,bX];lia) (aP _));refine ah (xQ ze 9 ?_);refine ah (sC ?_ (by show vs.length<=_;rw[bX];lia));refine ah (uo ?_ (aP _));refine cn ?_;have mC:vs.toArray.size<2:=by rw[aR];lia
 rw[aM mC,aM mC];refine ah 666;refine ah 666;dsimp only;have es:(arrOf (SortSt.mk' general' (vs.toArray.zip vs.toArray) #[] 07 none)).map (·.2)=vs.toArray:=by apply wL.mp;simp[List.map_snd_zip]
 rw[es];obtain⟨c2,ub⟩:∃c2,((gh s.heap a vs).update a (Obj.mapSeq λ_=>vs.toArray)).get? a=some (seqObj "list" vs.toArray c2):={_,get?_update_seq Na λ_=>vs.toArray};refine ah (xQ Na 9 ?_);refine ah (uz Na 9 ?_ (aP _) (by rw[aR,bX];lia));simp only[DR,gP,kB];exact aq (k _ c2 ub λb o nb q=>(cH (gh s.heap a vs) a _).extBut b o nb (Aa b o nb q))
abbrev Ms(a b:Str):Bool:=decide (a.cps.toList<b.cps.toList)
def fH:Aaf->Aaf->Bool
 |_,[]=>false
 |[],_::_=>true
 |a::r,b::q=>if a=b then fH r q else Ms a b
def Ra(a:Str):Ms a a=false:=cA (List.lt_irrefl _)
def T5(h1:Ms a b=true)(h2:Ms b c=true):Ms a c=true:=bg (List.lt_trans (aT h1) (aT h2))
def T6(h:Ms a b=false)(h2:Ms b a=false):a=b:=by exact ext_toList (List.le_antisymm (List.not_lt.mp (oh h2)) (List.not_lt.mp (oh h)))
theorem vZ:∀a,fH a a=false
 |[]=>rfl
 |a::r=>by unfold fH;rw[aM rfl];exact vZ r
theorem tF:∀{a b c:Aaf},fH a b=true->fH b c=true->fH a c=true
 |_,[],[],_,h=>by unfold fH at h;cases h
 |_,_::_,[],_,h=>by unfold fH at h;cases h
 |_,[],_::_,h,_=>by unfold fH at h;cases h
 |[],_::_,_::_,_,_=>rfl
 |a::r,b::q,c::p,h1,h2=>by
  unfold fH at h1 h2⊢;by_cases e1:a=b
  ·subst e1;rw[aM rfl]at h1;by_cases e2:a=c
   ·rw[aM e2]at h2⊢;exact tF h1 h2
   ·rw[aI e2]at h2⊢;exact h2
  ·rw[aI e1]at h1;by_cases e2:b=c
   ·subst e2;rw[aI e1];exact h1
   ·rw[aI e2]at h2;have h3:=T5 h1 h2;rw[aI (λe=>by rw[e,Ra]at h3;cases h3)];exact h3
theorem tG:∀{a b:Aaf},fH a b=false->fH b a=false->a=b
 |[],[],_,_=>rfl
 |[],_::_,h,_=>by unfold fH at h;cases h
 |_::_,[],_,h=>by unfold fH at h;cases h
 |a::r,b::q,h1,h2=>by
  unfold fH at h1 h2;by_cases e:a=b
  ·subst e;rw[aM rfl]at h1 h2;rw[tG h1 h2]
  ·rw[aI e]at h1;rw[aI (cM e)]at h2;exact(e (T6 h1 h2)).elim
abbrev kL(a b:Aaf):Bool:=!fH b a
def Oh(a b c:Aaf)(h1:kL a b=true)(h2:kL b c=true):kL a c=true:=by
 have Nj:fH c b=false:=by simpa using h2
 cases q:fH c a with
 |false=>simp[kL,q]
 |true=>
  cases p:fH a b with
  |true=>rw[tF q p]at Nj;cases Nj
  |false=>rw[tG p (by simpa using h1),Nj]at q;cases q
def Oi(a b:Aaf):(kL a b||kL b a)=true:=by
 cases q:fH b a with
 |false=>simp[kL,q]
 |true=>
  cases p:fH a b with
  |false=>simp[kL,p]
  |true=>have:=tF q p;rw[vZ]at this;cases this
def Rf(h1:kL a b=true)(h2:kL b a=true):a=b:=tG (by simpa using h2) (by simpa using h1)
def mG(l:Hz):Hz:=l.mergeSort kL
def mF(l:Hz):(mG l).Perm l:=Bq l kL
def u4(l:Hz):(mG l).Pairwise (λa b=>kL a b=true):=w5 Oh Oi l
theorem LU:∀{l m:Hz},l.Perm m->l.Pairwise (λa b=>kL a b=true)->m.Pairwise (λa b=>kL a b=true)->l=m
 |[],m,h,_,_=>(List.nil_perm.mp h).symm
 |a::l,[],h,_,_=>absurd h.length_eq 59
 |a::l,b::m,h,h1,h2=>by
  have e:a=b:=by
   rcases aN.mp (h.mem_iff.mp (aF))with e|e
   ·exact e
   ·rcases aN.mp (h.mem_iff.mpr (aF))with q|q
    ·exact q.symm
    ·exact Rf (iF h1 q) (iF h2 e)
  subst e;rw[LU (List.perm_cons a|>.mp h) (lD.mp h1).2 (lD.mp h2).2]
def vD(h:l.Perm zs)(hs:l.Pairwise (λa b=>kL a b=true)):l=mG zs:=LU (h.trans (mF zs).symm) hs (u4 zs)
def D9(h:l.Perm m):mG l=mG m:=vD ((mF l).trans h) (u4 l)
def O6(rows:Hz)(a:Aaf):Nat:=rows.countP λr=>fH r a
def YR(ha:a∈rows)(hb:b∈rows):decide (O6 rows a<O6 rows b)=fH a b:=by
 have strict:∀{a b:Aaf},a∈rows->fH a b=true->O6 rows a<O6 rows b:=λ{a b} hm h=>by unfold O6;obtain⟨l1,l2,e⟩:=List.append_of_mem hm;have c1:∀l:Hz,(l.countP λr=>fH r a)<=l.countP λr=>fH r b:=λl=>List.countP_mono_left λr _ hr=>tF hr h;rw[e,C5,C5,List.countP_cons,List.countP_cons,vZ,h];have:=c1 l1;have:=c1 l2;simp;lia
 cases q:fH a b with
 |true=>exact bg (strict ha q)
 |false=>
  refine cA (rP.mpr ?_);cases p:fH b a with
  |true=>exact bB (strict hb p)
  |false=>rw[tG q p];exact aw _
end
inductive pj:Aaf->Aae->Prop where
 |nil:pj [] []
 |cons {z:Str} {t:Tok} {zs:Aaf} {vs:Aae}:pj zs vs->pj (z::zs) (.str z t::vs)
def TupIs(h:Heap)(v:Value)(zs:Aaf):Prop:=∃a o ba n,v=.ref a/\h.get? a=some o/\o.cls=.type "tuple"/\o.data=.seq ba n/\pj zs ba.toList
def TupIs.mono(x:TupIs h v zs)(kp:∀b o,h.get? b=some o->h'.get? b=some o):TupIs h' v zs:=by obtain⟨a,o,ba,n,e,ho,r⟩:=x;exact{a,o,ba,n,e,kp _ _ ho,r}
theorem pj.one:∀{xs ys:Aaf}{vs:Aae},pj xs vs->pj ys vs->xs=ys
 |_,_,_,.nil,.nil=>rfl
 |_,_,_,.cons a,.cons b=>by rw[a.one b]
def TupIs.one(a:TupIs h v xs)(b:TupIs h v ys):xs=ys:=by obtain⟨a,o,ba,n,rfl,h1,_,h2,h3⟩:=a;obtain⟨b,p,itq,m,e,q1,_,q2,q3⟩:=b;cases e;rw[h1]at q1;cases q1;rw[h2]at q2;cases q2;exact h3.one q3
open Classical in
def rowOf(h:Heap)(v:Value):Aaf:=if x:∃r,TupIs h v r then Classical.choose x else[]
def sI(x:TupIs h v r):rowOf h v=r:=by unfold rowOf;rw[dif_pos ⟨r,x⟩];exact(Classical.choose_spec (⟨r,x⟩:∃r,TupIs h v r)).one x
section
variable{prog:Program}{w:World}{A:Around}{E:Aac}{s:Shared}
def eq_str(h:Q (decide (a=b)) s):wpAny 58 A (eqBool (.str a t) (.str b u)) Q E s:=
 (PySem.strKind prog w).eqBool (strKind_is _ _ _ _) (strKind_is _ _ _ _) h
def abp{xs:Aaf}{vs:Aae}(h1:pj xs vs):∀{ys:Aaf}{us:Aae}(i:Nat)(s:Shared),pj ys us->(fin=decide (xs.length<ys.length))->C (fH xs ys) s->KatLex prog w A true fin C (vs.zip us) i s:=by
 induction h1 with
 |nil=>
  intro ys us i s h2 hf h;refine kat_nil ?_;rw[hf];cases h2<;>exact h
 |@cons a xs vs t r1 ih=>
  intro ys us i s h2 hf h;cases h2 with
  |nil=>
   refine kat_nil ?_;rw[hf];exact h
  |@cons b ys us u r2=>
   refine kat_cons (eq_str ?_);unfold fH at h;by_cases e:a=b
   ·rw[bg e];rw[aM e]at h;refine kat_yes (ih (i+1) s r2 ?_ h);rw[hf];simp
   ·rw[cA e];rw[aI e]at h;refine kat_no ?_;cases i with
    |zero=>exact oneLt_str h
    |succ i=>
     have e2:(true&&(i+1==0))=false:=by simp
     exact kat_one _ _ (PyProof.Rows.lt_str h)
def adg(hx:TupIs s.heap x xs)(hy:TupIs s.heap y ys)(h:C (fH xs ys) s):wpAny 58 A (keyLt' (tuples' true) x y) C E s:=by
 obtain⟨a,o,ba,n,rfl,ho,hc,hd,hr⟩:=hx;obtain⟨b,p,itq,m,rfl,hp,hpc,hpd,hq⟩:=hy;refine kat_lt ho hd hp hpd (abp hr 0 s hq ?_ h);have len:∀{zs:Aaf}{vs:Aae},pj zs vs->zs.length=vs.length:=by
  intro zs vs r
  induction r with
  |nil=>rfl
  |cons _ ih=>simp[ih]
 rw[len hr,len hq,bJ,bJ]
def Xe{vs:Aae}{rows:Hz}(hl:vs.length=rows.length)(h2:2<=vs.length)(ht:∀(i:Nat) v r,vs[i]?=some v->rows[i]?=some r->TupIs s.heap v r)(gJ:∀r∈rows,r≠[])(h:Q (tuples' true) s):wpAny 58 A (keyKind' vs.toArray) Q E s:=by
 have key:∀(vs:Aae)(rows:Hz),vs.length=rows.length->(∀(i:Nat) v r,vs[i]?=some v->rows[i]?=some r->TupIs s.heap v r)->(∀r∈rows,r≠[])->∃fs,KatTups s.heap vs fs/\fs.length=vs.length/\∀f∈fs,∃z t,f=Value.str z t:=by
  intro vs
  induction vs with
  |nil=>intro rows hl _ _;exact{[],KatTups.nil,9,λf hf=>nomatch hf}
  |cons v vs ih=>
   intro rows hl ht gJ;cases rows with
   |nil=>simp at hl
   |cons r rows=>
    obtain⟨fs,h1,h2,h3⟩:=ih rows (by simpa using hl) (λi v' r' e1 e2=>ht (i+1) v' r' 730 (by simpa using e2)) λr' hr=>gJ r' (aG _ hr);obtain⟨a,o,ba,n,rfl,ho,hc,hd,hr⟩:=ht 0 v r rfl rfl;cases r with
    |nil=>exact(gJ [] aF 9).elim
    |cons z zs=>
     generalize eL:ba.toList=L at hr;cases hr with
     |@cons _ t _ Bx UM=>
      refine{.str z t::fs,KatTups.cons ho hc hd (by rw[<-dy,eL];rfl) h1,by simp[h2],λf hf=>?_};rcases aN.mp hf with rfl|hf
      ·exact⟨z,t,rfl⟩
      ·exact h3 f hf
 obtain⟨fs,h1,h3,h4⟩:=key vs rows hl ht gJ;refine kat_kind (T:=.type "str") h1 ∅ (λv hv=>?_) 7 ?_
 ·obtain⟨z,t,rfl⟩:=h4 v hv;exact Looks.of_pure rfl
 ·have e:((Value.type "str") !=Value.type "tuple")=true:=by decide
  exact h
def SG(ho:s.heap.get? a=some (seqObj "list" vs.toArray n))(hl:vs.length=rows.length)(ht:∀(i:Nat) v r,vs[i]?=some v->rows[i]?=some r->TupIs s.heap v r)(gJ:2<=rows.length->∀r∈rows,r≠[])(zm:vs.length<64)
  (k:∀(h':Heap)(tk c:Nat)(us:Aae),h'.get? a=some (seqObj "list" us.toArray c)->(∀b o,b≠a->s.heap.get? b=some o->h'.get? b=some o)->us.Perm vs->(∀(i:Nat) v r,us[i]?=some v->(mG rows)[i]?=some r->TupIs s.heap v r)->P (.done (.ret .none)) {s with heap:=h',toks:=tk}):
  wpAny 58 A (Builtin.«list.sort» {[.ref a],[]}) P E s:=by
 by_cases c2:vs.length<2
 ·refine Wg ho c2 λh' c g kp=>?_;have e:mG rows=rows:=by
   have:rows.length<2:=by lia
   match rows,this with
   |[],_=>exact(vD (.refl _) .nil).symm
   |[r],_=>exact(vD (.refl _) 59).symm
   |_::_::_,q=>simp at q;lia
  rw[e]at k;exact k h' s.toks c vs g kp (.refl _) ht
 ·have na:∀v r,TupIs s.heap v r->v≠ .ref a:=λv r x z=>by obtain⟨b,o,ba,m,rfl,hb,hc,_⟩:=x;cases z;rw[ho]at hb;cases hb;injection hc with z;exact absurd z 7
  have jM:∀s',Tk {s with heap:=gh s.heap a vs} s'->∀(i:Nat) v r,vs[i]?=some v->rows[i]?=some r->TupIs s'.heap v r:=λs' ⟨t,e⟩ i v r e1 e2=>by subst e;have x:=ht i v r e1 e2;have ne:=na v r x;obtain⟨b,o,ba,m,rfl,hb,r⟩:=x;exact{b,o,ba,m,9,ao _ (ao _ ((cH s.heap a _).extBut b o (λz=>ne (by rw[z])) hb)),r}
  have mr:∀v∈vs,∃r,r∈rows/\TupIs s.heap v r/\∀s',Tk {s with heap:=gh s.heap a vs} s'->TupIs s'.heap v r:=λv hv=>by obtain⟨i,hi,rfl⟩:=List.mem_iff_getElem.mp hv;have e1:=ay hi;have e2:=ay (l:=rows) (i:=i) ∅;exact{_,kJ _,ht i _ _ e1 e2,λs' tk=>jM s' tk i _ _ e1 e2}
  refine aaL (κ:=tuples' true) (rk:=λv=>O6 rows (rowOf s.heap v)) ho ∅ zm (λs' tk=>Xe hl ∅ (jM s' tk) (gJ ∅) ⟨rfl,tk⟩) (λx hx y hy s' tk=>?_) λus h' tk c po so g kp=>?_
  ·obtain⟨r,m1,t1,k1⟩:=mr x hx;obtain⟨q,m2,t2,k2⟩:=mr y hy;refine adg (k1 s' tk) (k2 s' tk) {?_,tk};rw[sI t1,sI t2,YR m1 m2]
  ·have er:us.map (rowOf s.heap)=mG rows:=by
    have ev:vs.map (rowOf s.heap)=rows:=by refine List.ext_getElem (by simpa using hl) λi h1 h2=>?_;rw[List.getElem_map];exact sI (ht i _ _ (ay _) (ay h2))
    refine vD (ev▸po.map _) (j4.mpr (so.imp_of_mem λ{x y} hx hy q=>?_));obtain⟨r,m1,t1,k1⟩:=mr x (po.mem_iff.mp hx);obtain⟨p,m2,t2,k2⟩:=mr y (po.mem_iff.mp hy);rw[sI t1,sI t2]at q⊢;have z:=YR m2 m1;rw[cA (rP.mpr q)]at z;show(!fH _ _)=true;rw[<-z];rfl
   refine k h' tk c us g kp po λi v r e1 e2=>?_;rw[<-er,aW,e1]at e2;cases e2;obtain⟨r,m1,t1,k1⟩:=mr v (po.mem_iff.mp (az e1));rw[sI t1];exact t1
end
end uV
namespace L2
open PySem PySem.Spec PyProof.Rows uV
abbrev eE(K:Frag)(H:Hp):Aam->Hz->Prop:=Paired λ(y:V)(zs:Aaf)=>∃a,y=.ref a/\aZ K H a 652
theorem LB:∀{zs:Aaf}{us:Aae},Vals 652 us->pj zs us
 |[],_,.nil=>.nil
 |z::r,_,.cons ⟨t,e⟩ h=>by subst e;exact .cons (LB h)
theorem Uo:∀{zs:Aaf}{us:Aae},Vals 652 us->ItemsAre (bT P w) (zs.map Sum.inr) us
 |[],_,.nil=>.nil
 |z::r,_,.cons ⟨t,e⟩ h=>by subst e;exact .cons (Eh _ _ _ _) (Uo h)
section
variable{X:Cx}{pins:Aaa}{Z:St}{H:Hp}{s:Shared}
def Inv.row(I:Inv X pins Z H s)(h:aZ X.K H a 652):TupIs s.heap 659 zs/\IsTupleKey 725 s.heap (zs.map Sum.inr) a:=by obtain⟨ba,r,⟨o,e,c,n,d⟩,_⟩:=I.tuple h;exact{{a,o,ba.toArray,n,9,e,c,d,by simpa using LB r},{o,ba.toArray,n,e,c,d,by simpa using Uo r}}
theorem Inv.rows(I:Inv X pins Z H s):∀{ys:Aam}{rows:Hz}{us:Aae},eE X.K H ys rows->Vals ys us->∃bs:Aah,us=bs.map Value.ref/\ys=bs.map V.ref/\bs.length=rows.length/\∀(i:Nat) z b,rows[i]?=some z->bs[i]?=some b->aZ X.K H b (z.map V.str)
 |_,_,_,.nil,.nil=>{[],9,9,9,λi z b e=>by simp at e}
 |_,_,_,.cons ⟨a,e,h⟩ r,.cons (b:=u) ru q=>by
  obtain⟨bs,h1,h2,h3,h4⟩:=I.rows r q;subst e;cases(show u=Value.ref a from ru);refine{a::bs,by rw[h1];rfl,by rw[h2];rfl,by simp[h3],λi z b e1 e2=>?_};cases i with
  |zero=>cases e1;cases e2;exact h
  |succ i=>exact h4 i z b 730 (by simpa using e2)
end
theorem O5{K:Frag}:∀{bs:Aah}{rows:Hz},bs.length=rows.length->(∀(i:Nat) z b,rows[i]?=some z->bs[i]?=some b->aZ K H b (z.map V.str))->eE K H (bs.map V.ref) rows
 |[],[],_,_=>.nil
 |[],_::_,h,_=>by simp at h
 |_::_,[],h,_=>by simp at h
 |b::bs,z::rows,h,k=>.cons {b,9,k 0 z b rfl rfl} (O5 721 λi z' b' e1 e2=>k (i+1) z' b' 730 (by simpa using e2))
theorem OK:∀bs:Aah,Vals (bs.map V.ref) (bs.map Value.ref)
 |[]=>.nil
 |b::bs=>.cons rfl (OK bs)
def aez:Value->Addr
 | .ref a=>a
 |_=>0
def aaR(h:us.Perm (bs.map Value.ref)):∃cs:Aah,us=cs.map Value.ref/\cs.Perm bs:=by
 have all:∀{us:Aae},(∀u∈us,∃b,u=Value.ref b)->∃cs:Aah,us=cs.map Value.ref:=by
  intro us
  induction us with
  |nil=>intro _;exact{[],9}
  |cons u us ih=>
   intro hu;obtain⟨b,rfl⟩:=hu u aF;obtain⟨cs,rfl⟩:=ih λv hv=>hu v (aG _ hv);exact{b::cs,rfl}
 obtain⟨cs,rfl⟩:=all λu hu=>by obtain⟨b,_,e⟩:=aE.mp (h.mem_iff.mp hu);exact{b,e.symm}
 refine{cs,9,?_};have e:∀l:Aah,(l.map Value.ref).map aez=l:=λl=>by
  induction l with
  |nil=>rfl
  |cons a l ih=>exact cR (a::·) ih
 rw[<-e cs,<-e bs];exact h.map _
def Fn:Hz->Hz
 |[]=>[]
 |r::l=>if r∈l then Fn l else r::Fn l
theorem vX(x:Aaf):∀l,x∈Fn l↔x∈l
 |[]=>II
 |r::l=>by
  unfold Fn;by_cases c:r∈l
  ·rw[aM c,vX x l,aN];exact{.inr,λh=>h.elim (λe=>e▸c) id}
  ·rw[aI c,aN,aN,vX x l]
theorem rh:∀l,(Fn l).Nodup
 |[]=>eB
 |r::l=>by
  unfold Fn;by_cases c:r∈l
  ·rw[aM c];exact rh l
  ·rw[aI c];exact dc.mpr {λh=>c ((vX r l).mp h),rh l}
def iE(l:Hz):Hz:=mG (Fn l)
def EG(nd:l.Nodup)(h:∀r,r∈l↔r∈rows):mG l=iE rows:=
 D9 ((ng nd (rh rows)).mpr λr=>by rw[h,vX])
def tY(x:Aaf)(l:Hz):x∈iE l↔x∈l:=by unfold iE;rw[(mF _).mem_iff,vX]
section
variable{prog:Program}{w:World}{A:Around}{E:Aac}{s:Shared}
def N9{Q:Aac}(hl:vs.length=rows.length)(ht:∀(i:Nat) v r,vs[i]?=some v->rows[i]?=some r->TupIs s.heap v r)(gJ:2<=rows.length->∀r∈rows,r≠[])(zm:vs.length<64)
  (k:∀(h':Heap)(tk c:Nat)(us:Aae),h'.get? s.heap.objs.size=some (seqObj "list" us.toArray c)->(∀b o,s.heap.get? b=some o->h'.get? b=some o)->us.Perm vs->(∀(i:Nat) v r,us[i]?=some v->(mG rows)[i]?=some r->TupIs s.heap v r)->Q 352 {s with heap:=h',toks:=tk}):
  wpAny 58 A (newList vs>>=λl=>holding [l] (call (.builtin "list.sort") [l] [])>>=λ_=>ret l) (λfin s'=>∃v,fin=Fin.done (.ret v)/\Q v s') E s:=by
 refine ah (uo ?_ (by rw[bX];lia));have Gx:(s.heap.push (seqObj "list" vs.toArray 0)).get? s.heap.objs.size=some (seqObj "list" vs.toArray 0):=aU _ rfl;refine ah (cn (b7 slot_list_sort ⟨_,Gx,rfl⟩ entry_list_sort (SG (s:={s with heap:=s.heap.push (seqObj "list" vs.toArray 0)}) Gx hl (λi v r e1 e2=>(ht i v r e1 e2).mono λb o e=>ao _ e) gJ zm λh' tk c us g kp pm q=>{_,9,?_}) (args_list_sort _)));refine aq {_,9,k h' tk c us g (λb o e=>kp b o (aX (aY e)) (ao _ e)) pm λi v r e1 e2=>?_};have x:=q i v r e1 e2;have hv:v∈vs:=pm.mem_iff.mp (az e1);obtain⟨j,hj⟩:=eP.mp hv;have lP:j<rows.length:=by have:=(au.mp hj).1;lia
 have y:=ht j v _ hj (ay lP);obtain⟨b,o,ba,m,rfl,hb,r1⟩:=y;obtain⟨b',o',its',m',e',jf,r1'⟩:=x;cases e';have:o'=o:=by have:=ao (seqObj "list" vs.toArray 0) hb;exact bR (jf.symm.trans this)
 subst this;exact⟨b,o',its',m',rfl,hb,r1'⟩
variable{X:Cx}
def SortedTo(K:Frag)(H:Hp)(ys:Aam)(rows:Hz)(Q:VK):Prop:=∀l zs,H l=none->eE K H zs (mG rows)->(∀z∈zs,z∈ys)->Q 720 (upd H l 690)
def FT{pins:Aaa}{Z:St}{H:Hp}{s s1:Shared}{bs:Aah}{rows:Hz}{Q:VK}(I:Inv X pins Z H s1)(lb:bs.length=rows.length)(hb:∀(i:Nat) z b,rows[i]?=some z->bs[i]?=some b->aZ X.K H b (z.map V.str))(gJ:2<=rows.length->∀r∈rows,r≠[])(zm:rows.length<64)(q:SortedTo X.K H (bs.map V.ref) rows Q){A:Around}{E:Aac}:
  wpAny 56 A (newList (bs.map Value.ref)>>=λl=>holding [l] (call (.builtin "list.sort") [l] [])>>=λ_=>ret l) (λfin s'=>∃v,fin=Fin.done (.ret v)/\EP X pins Z Q v s') E s1:=by
 refine N9 (rows:=rows) (by rw[aj];exact lb) (λi v r e1 e2=>?_) gJ (by rw[aj];lia) λh' tk c us g kp pm OS=>?_
 ·rw[aW]at e1;obtain⟨b,e3,rfl⟩:=br.mp e1;exact(I.row (hb i r b e2 e3)).1
 ·obtain⟨cs,rfl,pc⟩:=aaR pm;have lc:cs.length=rows.length:=by rw[pc.length_eq,lb]
  have lz:(cs.map V.ref).length<=sizeLine:=by rw[aj,bX];lia
  refine{.ref s1.heap.objs.size,_,I.laid (t':=tk) kp (aw _) (show dY X.prog X.w _ _ _ (.lst (cs.map V.ref))from{lz,cs.map Value.ref,c,OK cs,g}),9,q _ (cs.map V.ref) 683 (O5 (by rw[lc,(mF rows).length_eq]) λi z b e1 e2=>?_) λz hz=>(pc.map _).mem_iff.mp hz};have t:=OS i (.ref b) z (by rw[aW,e2];rfl) e1;obtain⟨j,hj⟩:=eP.mp (pc.mem_iff.mp (az e2));have lP:j<rows.length:=by have:=(au.mp hj).1;lia
  have hr:=hb j _ b (ay lP) hj;have t2:=(I.row hr).1;have e:rows[j]=z:=by
   obtain⟨b1,o1,i1,n1,e1,g1,c1,d1,r1⟩:=t;obtain⟨b2,o2,i2,n2,e2,g2,c2,d2,r2⟩:=t2;cases e1;cases e2;rw[g1]at g2;cases g2;rw[d1]at d2;cases d2;have inj:∀{x y:Aaf}{vs:Aae},pj x vs->pj y vs->x=y:=by
    intro x y vs hx
    induction hx generalizing y with
    |nil=>intro hy;cases hy;rfl
    |cons _ ih=>intro hy;cases hy with|cons hy=>rw[ih hy]
   exact inj r2 r1
  rw[<-e];exact hr
def qR:Key->Str
 | .inr z=>z
 | .inl _=>""
def xg(z:Aaf):(z.map (Sum.inr:Str->Key)).map qR=z:=by
 induction z with
 |nil=>rfl
 |cons a z ih=>exact cR (a::·) ih
end
def uG(P:Program)(w:World)(a:Addr)(us:List (Aaf×Addr)):Heap->Prop:=λh=>∃o ep t,h.get? a=some o/\o.ExactSet/\o.data=.set (us.map λx=>Tb.ent (bT P w) (x.1.map Sum.inr,x.2)).toArray ep t/\t.fits us.length=true/\t.led=Tb.oj w/\Tb.oA t.place
def aaO(x:uG P w a us h):dY P w H h a (.ext (uG P w a us)):=
 {x,let⟨o,_,_,q,_⟩:=x;⟨o,q⟩,λ_ _ ⟨o,ep,t,q,r⟩ k=>{o,ep,t,k _ q,r}}
section
variable{X:Cx}{pins:Aaa}{Z:St}{H:Hp}{s:Shared}{h':Heap}
def Inv.ae1(I:Inv X pins Z H s)(k:∀b u,s.heap.get? b=some u->h'.get? b=some u):Inv X pins Z H {s with heap:=h',drawn:=d',toks:=t'}:=
 I.step (ch:=[]) (λ_ z=>nomatch z) (λb o _ _ _ e _=>k b o e) (λb o _ _ _ e _=>{o.slots,k b o e}) (λ_ _ _ _ n=>n) (λb o _ e=>{o,k b o e}) (λ_ _ e=>e) (λ_ _ _ e=>e) (λb ps e=>{#[],by rw[e];simp}) (λm hm=>by obtain⟨o,es,ep,ho,r⟩:=hm;exact{o,es,ep,k _ _ ho,r}) (I.bQ.kept k) I.bare
end
section
variable{X:Cx}
def JZ(hA:X.A.handled=none)(hu:X.A.units+64<cLine):gZ X (.type "set") (λxs H Q=>∃p ys rows,xs=[.ref p]/\bf X.K H p ys/\eE X.K H ys rows/\rows.length<=1000/\∀a us,H a=none->(us.map (·.1)).Nodup->(∀r,r∈us.map (·.1)↔r∈rows)->us.length<=rows.length->(∀x∈us,aZ X.K H x.2 (x.1.map V.str)/\V.ref x.2∈ys)->Q 659 (upd H a (.ext (uG X.prog X.w a us)))):=by
 intro pins s Z H xs us Q I r h;obtain⟨p,ys,rows,rfl,hq,hr,hz,q⟩:=h;obtain⟨u,rfl,rx⟩:=jI r;cases rx;obtain⟨ba,r',pl,_⟩:=I.list hq;obtain⟨bs,rfl,rfl,lb,hb⟩:=I.rows hr r';refine Tb.VI (knd:=bT X.prog X.w) (ks:=rows.map λz=>z.map Sum.inr) (bs:=bs) hA (by show X.A.units+1+1+1<cLine;lia) pl.isList 59 (by rw[aj,lb]) (λi k b e1 e2=>?_) ∅ λh' tk o ep t xs S hl hH kp=>?_
 ·rw[aW]at e1;obtain⟨z,e3,rfl⟩:=br.mp e1;exact(I.row (hb i z b e3 e2)).2
 ·have inj:∀x∈xs,∃(j:Nat)(z:Aaf),rows[j]?=some z/\x.1=z.map Sum.inr/\bs[j]?=some x.2:=λx hx=>by obtain⟨j,j1,j2⟩:=hH.KJ x hx;rw[aW]at j1;obtain⟨z,e3,e4⟩:=br.mp j1;exact{j,z,e3,e4.symm,j2}
  have back:(xs.map λx=>(x.1.map qR,x.2)).map (λx=>((x.1.map Sum.inr:List Key),x.2))=xs:=by
   rw[b5];have:∀x∈xs,((λx:Aaf×Addr=>((x.1.map Sum.inr:List Key),x.2))∘λx:List Key×Addr=>(x.1.map qR,x.2)) x=x:=λx hx=>by obtain⟨j,z,_,e,_⟩:=inj x hx;show((x.1.map qR).map Sum.inr,x.2)=x;rw[e,xg];exact FG e.symm rfl
   rw[b9 this,List.map_id']
  have fst:∀r,r∈(xs.map λx=>(x.1.map qR,x.2)).map (·.1)↔r∈rows:=λr=>by
   rw[b5,aE];constructor
   ·rintro⟨x,hx,rfl⟩;obtain⟨j,z,e1,e,_⟩:=inj x hx;show x.1.map qR∈rows;rw[e,xg];exact az e1
   ·intro hr;have:r.map Sum.inr∈xs.map (·.1):=(hH.mem _).mpr (by
     rw[c7 (by rw[aj,lb];exact aw _)];exact aE.mpr ⟨r,hr,rfl⟩)
    obtain⟨x,hx,e⟩:=aE.mp this;exact{x,hx,by show x.1.map qR=r;rw[e,xg]}
  have nd:((xs.map λx=>(x.1.map qR,x.2)).map (·.1)).Nodup:=by
   have h1:=S.nd;rw[<-back,b5]at h1;have h2:((xs.map λx=>(x.1.map qR,x.2)).map ((·.1)∘λx:Aaf×Addr=>((x.1.map Sum.inr:List Key),x.2)))=((xs.map λx=>(x.1.map qR,x.2)).map (·.1)).map λz=>z.map Sum.inr:=by simp only[b5];rfl
   rw[h2]at h1;exact(j4.mp h1).imp λne e=>ne (by rw[e])
  have hd:o.data=.set ((xs.map λx=>(x.1.map qR,x.2)).map λx=>Tb.ent 725 (x.1.map Sum.inr,x.2)).toArray ep t:=by rw[S.data];congr 2;have:=cR (List.map (Tb.ent 725)) back;rw[b5]at this;exact this.symm
  refine{352,_,I.laid kp (aw _) (aaO {o,ep,t,S.ob,S.ex,hd,?_,hl,S.tab.rise}),9,q _ _ 683 nd fst ?_ λx hx=>?_}
  ·have:=S.fits;simpa using this
  ·rw[aj];have:=hH.len;lia
  ·obtain⟨y,hy,rfl⟩:=aE.mp hx;obtain⟨j,z,e1,e,e2⟩:=inj y hy;refine{?_,aE.mpr {y.2,az e2,9}};rw[e,xg];exact hb j z y.2 e1 e2
def zu(hA:X.A.handled=none):gZ X (.builtin "sorted") (λxs H Q=>∃a us ys,xs=[.ref a]/\H a=some (.ext (uG X.prog X.w a us))/\(∀x∈us,aZ X.K H x.2 (x.1.map V.str)/\V.ref x.2∈ys)/\(2<=us.length->∀x∈us,x.1≠[])/\us.length<64/\SortedTo X.K H ys (us.map (·.1)) Q):=by
 intro pins s Z H xs us Q I r h;obtain⟨a,Yu,ys,rfl,ha,hx,gJ,zm,q⟩:=h;obtain⟨u,rfl,rx⟩:=jI r;cases rx;obtain⟨⟨o,ep,t,ho,hex,hd,hf,hl,ae9⟩,_⟩:=(show dY X.prog X.w H s.heap a (.ext (uG X.prog X.w a Yu))from I.bQ a _ ha);refine ki Ek BZ Cy (CO _) ?_;unfold Builtin.«sorted»;refine ah (m:=checkCount "sorted" 1 1 _) 666;refine ah (Tb.Oy (A:=X.A.in1) (by simpa using hA) {⟨o,ho,hex,hd⟩,by simpa using hf,λcf _=>{by rw[hl,Tb.oj,cf];rfl,ae9}} (by simp;lia) λh' tk d vs pm kp=>?_);have e0:(Yu.map λx=>Tb.ent 725 (x.1.map Sum.inr,x.2)).toArray.toList.map (·.2)=Yu.map λx=>Value.ref x.2:=by simp[u0]
 rw[e0]at pm;obtain⟨Bx,pv,rfl⟩:=LS pm rfl;have lb:(Bx.map (·.2)).length=(Bx.map (·.1)).length:=by rw[aj,aj]
 have lu:=pv.length_eq;have e1:(Bx.map λx=>Value.ref x.2)=(Bx.map (·.2)).map Value.ref:=by rw[b5];rfl
 rw[e1];have sc:mG (Bx.map (·.1))=mG (Yu.map (·.1)):=D9 (pv.map _);refine FT (s:=s) (I.ae1 (t':=tk) (d':=d) kp) lb (λi z b e2 e3=>?_) (λh2 r hr=>?_) (by rw[aj];lia) λl zs gd hz hm=>?_
 ·rw[aW]at e2 e3;obtain⟨x,ex,rfl⟩:=br.mp e2;rw[ex]at e3;cases e3;exact(hx x (pv.mem_iff.mp (az ex))).1
 ·obtain⟨x,hxm,rfl⟩:=aE.mp hr;exact gJ (by rw[aj]at h2;lia) x (pv.mem_iff.mp hxm)
 ·rw[sc]at hz;refine q l zs gd hz λz hzm=>?_;obtain⟨b,hb,rfl⟩:=aE.mp (hm z hzm);obtain⟨x,hxm,rfl⟩:=aE.mp hb;exact(hx x (pv.mem_iff.mp hxm)).2
def CG(hA:X.A.handled=none):gZ X (.builtin "sorted") (λxs H Q=>∃(a:Addr)(kvs:List (Key×V))(zs:Aaf),xs=[.ref a]/\H a=some 719/\kvs.map (·.1)=zs.map Sum.inr/\zs.length<64/\∀l,H l=none->Q 720 (upd H l (.lst ((fk zs).map V.str)))):=by
 intro pins s Z H xs us Q I r h;obtain⟨a,kvs,zs,rfl,ha,hk,zm,q⟩:=h;obtain⟨u,rfl,ru⟩:=jI r;cases ru;obtain⟨hz,lo,vs,rel,o,es,ep,m⟩:=xB I.bQ ha;have at':s.heap.DictAt 725 a vs ep:=⟨o,es,m⟩;have hl:kvs.length=vs.length:=rel.length;have xv:kvs.map (·.1)=vs.map (·.1):=rel.keys;refine ki Ek BZ Cy (CO _) ?_;unfold Builtin.«sorted»;refine ah (m:=checkCount "sorted" 1 1 _) 666;refine ah (PySem.W.kdu_collect (A:=X.A.in1) (PySem.W.kdl_dict lo) (by simpa using hA) at' (by rw[<-hl];exact hz) λh' tk acc kp it=>?_);have hS:StrsAre acc.toList zs:=by
  have len:acc.toList.length=zs.length:=by have e1:=cR List.length hk;simp only[aj]at e1;rw[bJ,it.1];lia
  have at_:∀(j:Nat)(v:Value),acc.toList[j]?=some v->∃t,v=.str (zs.getD j "") t:=λj v e=>by
   obtain⟨k,y,e3,e4⟩:=it.2 j v (by rw[<-dy];exact e);have e5:(zs.map (Sum.inr:Str->Key))[j]?=some k:=by rw[<-hk,xv,aW,e3];rfl
   rw[aW]at e5;obtain⟨z,e6,rfl⟩:=br.mp e5;have e8:RelV (kV (Sum.inr z)) v:=sJ (k:=Sum.inr z) e4;obtain⟨t,e7⟩:=(show∃t,v=Value.str z t from e8);exact{t,by rw[e7,cD,e6];rfl}
  have go:∀(us:Aae)(zs:Aaf),us.length=zs.length->(∀(j:Nat)(v:Value),us[j]?=some v->∃t,v=.str (zs.getD j "") t)->StrsAre us zs:=by
   intro us
   induction us with
   |nil=>intro zs hl _;rw[dD.mp hl.symm];exact .nil
   |cons u us ih=>
    intro zs hl hk;cases zs with
    |nil=>simp at hl
    |cons z zs=>
     obtain⟨t,rfl⟩:=hk 0 u rfl;exact .cons z t (ih zs (by simpa using hl) λj v e=>by obtain⟨t,e'⟩:=hk (j+1) v (by simpa using e);exact{t,by simpa using e'})
  exact go _ _ len at_
 have agY:acc.toList.length<64:=by have:=hS.strs;rw[<-this,aj]at zm;exact zm
 refine ah (uo ?_ (by rw[bX];lia));have Gx:(h'.push 664).get? h'.objs.size=some 664:=aU _ rfl;have I1:Inv X pins Z H {s with heap:=h',toks:=tk}:=I.kept kp;refine ah (cn (b7 slot_list_sort ⟨_,Gx,rfl⟩ entry_list_sort (list_sort_treeK strKind_oneLt (s:={s with heap:=h'.push 664,toks:=tk}) Gx hS.keysOf (λahy ahx rest e=>keyKind_strs (by rw[<-e];exact hS)) agY λmT hp hs=>{_,9,?_}) (args_list_sort _)));obtain⟨ss',h1,h2,h3⟩:=sorted_out_str hS hp hs;have e:=Lp h2 h3;subst e;generalize (arrOf mT).map (·.2)=out at h1;have lt:h'.objs.size<(h'.push 664).objs.size:=aY Gx;have ln:((fk zs).map V.str).length<=sizeLine:=by rw[aj,(ij zs).length_eq];exact bB (bt ∅)
 obtain⟨n,he⟩:∃n,(sortedHeap (h'.push 664) h'.objs.size acc.toList out).get? h'.objs.size=some (seqObj "list" out n):=by obtain⟨e1,ze⟩:∃e1,((h'.push 664).update h'.objs.size (Obj.mapSeq λ_=>(#[]:Aaj))).get? h'.objs.size=some (seqObj "list" #[] e1):={_,get?_update_seq Gx λ_=>#[]};have ho3:=ao (seqObj "list" #[] 0) (ao (seqObj "tuple" acc.toList.toArray 0) ze);exact{_,get?_update_seq ho3 λ_=>out}
 have old:∀b o,h'.get? b=some o->(sortedHeap (h'.push 664) h'.objs.size acc.toList out).get? b=some o:=λb o e=>by have nb:b≠h'.objs.size:=aX (aY e);have g1:=ao 664 e;have g2:=(cH (h'.push 664) h'.objs.size (Obj.mapSeq λ_=>(#[]:Aaj))).extBut b o nb g1;have g3:=ao (seqObj "list" #[] 0) (ao (seqObj "tuple" acc.toList.toArray 0) g2);exact(cH _ h'.objs.size (Obj.mapSeq λ_=>out)).extBut b o nb g3
 refine aq {_,9,.ref h'.objs.size,_,I1.laid (t':=tk) old (aw _) (show dY X.prog X.w _ _ _ (.lst ((fk zs).map V.str))from{ln,out.toList,n,EH h1,?_}),9,q _ 704};exact he
end
def Zk(hl:718=true:=by rfl)(hb:attributeBase (.Name d pd) "get" X.env (eval (.Name d pd) X.env)=eval (.Name d pd) X.env:=by rfl):M2 X (.Name d pd) "get" apos 675 (.List [] pl) f9:=⟨hb,rfl,hl,rfl⟩
section
variable{prog:Program}{w:World}{A:Around}{E:Aac}{s:Shared}{d it:Addr}{o:Obj}{es:Array DictEntry}{ep i:Nat}
def HC(lo:(d==sysModules)=false)(ho:s.heap.get? d=some o)(hx:o.ExactDict)(hd:o.data=.dict es ep)
  (q:Q 352 {s with heap:=s.heap.push {cls:=.type "dict_keyiterator",data:=.fields #[.ref d,.int 0 0,.int es.size 0,.int ep 0]}}):wpAny 58 A (pyIter 705) Q E s:=by
 have ty:s.TypeIs 705 "dict":={o,ho,hx.1};refine uN ty yu (b7 yu ty PySem.F.entry_dict_iter ?_ (PySem.F.args_dict_iter_1 _));refine ah (ah (jH ty 666));show wpAny _ _ (Builtin.Dict.showsAll d>>=_) _ _ s;unfold Builtin.Dict.showsAll;rw[lo];exact ah (aq (ah (lS ho hd (ah (xc ho hd (ah (cP (aq {_,9,"dict_keyiterator",_,{_,682,9},fN.lookup,q}))))))))
def acF(hit:s.heap.IsKeyIter it d i es.size ep)(ho:s.heap.get? d=some o)(hd:o.data=.dict es ep)(hi:i<es.size)
  (q:∀h',h'.IsKeyIter it d (i+1) es.size ep->Heap.SameBut it s.heap h'->Q (some es[i].key) {s with heap:=h'}):wpAny 58 A (pyNext (.ref it)) Q E s:=by
 obtain⟨oi,JD,ci,di⟩:=id hit;refine ah (ig (wpAny_callSpecial?_slot hit.typeIs fN (b7 fN hit.typeIs pw ?_ (oC _))));refine ah (aq (ah (ah (ah (iW hit.typeIs 666)))));refine ah (lX JD di ?_);have own:Builtin.Dict_items.ownsTuple "dict_keyiterator"=false:=by decide
 show wpAny _ _ (if(Value.ref d==Value.none)=true then _ else _) _ _ s;refine ah (aq (ah (lS ho hd ?_)));rw[aI 59];refine ah (aq (ah (xc ho hd ?_)));rw[aI 59];refine aq ?_;simp only[show ¬((i:Int)<0)from by lia,kB,eX,cI hi];refine ah (ah (iW hit.typeIs (aq (ah (yI hit.typeIs ?_)))));show wpAny _ _ (setField (.ref it) 1 (rawInt ((i:Int)+1))>>=_) _ _ s;refine ah (gQ JD di 59 ?_);have Rt:(s.heap.update it (Obj.mapFields (·.setIfInBounds 1 (rawInt ((i:Int)+1))))).IsKeyIter it d (i+1) es.size ep:=
  {_,eR _ JD (zC (oF di _)),(DV ..).trans ci,by rw[oF di];simp[rawInt]}
 refine ah (cn (ah (yI Rt.typeIs ?_)));exact aq (aq {_,9,aq (q _ Rt (cH ..))})
def SV(hh:A.handled=none)(hit:s.heap.IsKeyIter it d i es.size ep)(ho:s.heap.get? d=some o)(hd:o.data=.dict es ep)(hi:es.size<=i)
  (q:∀h',(∀b x,b≠it->s.heap.get? b=some x->h'.get? b=some x)->Q none {s with heap:=h'}):wpAny 58 A (pyNext (.ref it)) Q E s:=by
 obtain⟨oi,JD,ci,di⟩:=id hit;refine ah (ig (wpAny_callSpecial?_slot hit.typeIs fN (b7 fN hit.typeIs pw ?_ (oC _))));refine ah (aq (ah (ah (ah (iW hit.typeIs 666)))));refine ah (lX JD di ?_);have own:Builtin.Dict_items.ownsTuple "dict_keyiterator"=false:=by decide
 show wpAny _ _ (if(Value.ref d==Value.none)=true then _ else _) _ _ s;refine ah (aq (ah (lS ho hd ?_)));rw[aI 59];refine ah (aq (ah (xc ho hd ?_)));rw[aI 59];refine aq ?_;simp only[show ¬((i:Int)<0)from by lia,kB,eX,yD hi];refine ah (ah (iW hit.typeIs 666));show wpAny _ _ (setField (.ref it) 0 .none>>=_) _ _ s;refine ah (gQ JD di 59 ?_);refine Tb.Hi (show A.in1.handled=none from hh) λh' e kp agh=>?_;obtain⟨oe,he,ce⟩:=agh;exact ah (jg ⟨oe,he,ce⟩ o7 (aq (q _ λb x nb g=>kp b x ((cx _ _ (cM nb)).trans g))))
end
def DX(P:Program)(w:World)(d:Addr)(kvs:List (Key×V))(ok ov:V):Heap->Prop:=λh=>(d==sysModules)=false/\∃o es ep vs e,h.get? d=some o/\o.ExactDict/\o.data=.dict (es.push e) ep/\KV kvs vs/\KeysOf (bT P w) es/\Pairs (bT P w) es.toList vs/\(vs.map (·.1)).Nodup/\RelV ok e.key/\RelV ov e.val/\kvs.length<=1000
section
variable{X:Cx}{pins:Aaa}{Z:St}{H:Hp}{s:Shared}
def Inv.P2(I:Inv X pins Z H s)(hd:H d=some (.ext φ))(ho:s.heap.get? d=some o):Inv X pins Z (upd H d (.fB o (.ext φ))) s:=by
 have nd:∀b u,H b=some u->(∀l,u≠ .ext l)->b≠d:=λb u q n z=>by rw[z,hd]at q;exact n φ (bR q).symm
 refine I.un {λb u e _ _ _=>e,λb u e _ _ _=>{u.slots,e},λb u e n _=>by rw[aL ((λb q z=>by rw[z,hd]at q;cases q) b n)];exact n,λb u e _=>⟨u,e⟩,λb xs q=>by rw[aL (nd b _ q λl z=>by cases z)];exact q,λb u v q=>by rw[aL (nd b _ q λl z=>by cases z)];exact q,λb ps q=>{#[],by rw[aL (nd b _ q λl z=>by cases z),q];simp}} λb u g=>?_;by_cases hb:b=d
 ·subst hb;rw[av]at g;cases g;exact{ho,I.bQ b _ hd}
 ·rw[aL hb]at g;exact(I.bQ b u g).qT (λc v hc q=>q) (λc q=>by rw[aL (nd c _ q λl z=>by cases z)];exact q) λc ys q=>by rw[aL (nd c _ q λl z=>by cases z)];exact q
def Inv.Qv(I:Inv X pins Z H s)(hd:H d=some (.fB o u))(hn:∀u v,X.aae d≠some (.fB u v)):Inv X pins Z (upd H d u) s:=by
 have nd:∀b u,H b=some u->(∀v l,u≠ .fB v l)->b≠d:=λb u q n z=>by rw[z,hd]at q;exact n _ _ (bR q).symm
 have gJ:∀b,H b=none->b≠d:=λb q z=>by rw[z,hd]at q;cases q
 refine{I.ok,I.os,I.bare,{I.base.keep,I.base.slot,λb u e n hx=>?_,I.base.there,λb xs q=>?_,λb u v q=>?_,λb ps q=>?_},I.loc,I.cell,?_,λx c e=>?_,695,λb v g=>?_,I.len}
 ·have z:=I.base.free b u e n hx;rw[aL (gJ b z)];exact z
 ·have z:=I.base.fD b xs q;rw[aL (nd b _ z λv l t=>by cases t)];exact z
 ·have z:=I.base.uC b u v q;rw[aL (show b≠d fromλt=>hn u v (t▸q))];exact z
 ·obtain⟨m,z⟩:=I.base.zK b ps q;exact{m,by rw[aL (nd b _ z λv l t=>by cases t)];exact z}
 ·rw[aL (gJ _ I.free)];exact I.free
 ·rw[aL (gJ _ (I.nE x c e))];exact I.nE x c e
 ·obtain⟨a1,a2,a3,a4,a5⟩:=I.pin p hp;exact{a1,by rw[aL (gJ _ a2)];exact a2,a3,a4,a5}
 ·by_cases hb:b=d
  ·subst hb;rw[av]at g;cases g;exact((I.bQ b _ hd).2).qT (λc v hc q=>q) (λc q=>by rw[aL (nd c _ q λv l z=>by cases z)];exact q) λc ys q=>by rw[aL (nd c _ q λv l z=>by cases z)];exact q
  ·rw[aL hb]at g;exact(I.bQ b v g).qT (λc v hc q=>q) (λc q=>by rw[aL (nd c _ q λv l z=>by cases z)];exact q) λc ys q=>by rw[aL (nd c _ q λv l z=>by cases z)];exact q
end
inductive ach(t:TE)(Z:St)(H:Hp)(Q:VK):Prop
 |mk (d:Addr) (_:(∀u v,H d≠some (.fB u v))) (_:t Z H λv H'=>∃o u,H' d=some (.fB o u)/\Q v (upd H' d u))
def WH(h:PE X e t):PE X e (ach t):=by intro pins s Z H Q I ht;obtain⟨d,hd,ht⟩:=ht;refine dh (h pins s Z H _ I ht) λv s1 x H1 I1 r1 ⟨o,u,e,q⟩=>{x,_,I1.Qv e (λu v e=>hd u v (I.base.uC d u v e)),r1,q}
def Ql(d:Addr)(o:Obj)(u:HO)(kvs:List (V×V)):It:=
 {λi H=>H d=some (.fB o u)/\i<kvs.length,λi H x H'=>H'=H/\∃kv,kvs[i]?=some kv/\x=kv.1,λi H=>H d=some (.fB o u)/\kvs.length<=i}
def Ym(o:Obj)(es:Array DictEntry)(ep:Nat)(kvs:List (V×V)):Prop:=o.ExactDict/\o.data=.dict es ep/\Paired (λ(p:V×V)(e:DictEntry)=>RelV p.1 e.key/\RelV p.2 e.val) kvs es.toList
def KY{K:Frag}(m:Ym o es ep kvs):Turn P w K tg (Ql d o u kvs) [it] it (λi h=>h.IsKeyIter it d i es.size ep) where
 mem:=by simp
 obj:=λi h st b hb=>by
  have e:b=it:=by simpa using hb
  subst e;obtain⟨v,e,c,q⟩:=st;exact{v,e,λv z=>by rw[q]at z;cases z}
 keep:=λi h h' st k=>by obtain⟨v,e,r⟩:=st;exact{v,k it 59 v e,r}
 item:=by
  intro X hP hw hK hc i pins s Z H E I hf st hg;obtain⟨hd,hi⟩:=hg;have hl:kvs.length=es.size:=by rw[bc m.2.2,bJ]
  obtain⟨f0,f1,f2,f3,f4,f5⟩:=hf it 59;obtain⟨kv,nB⟩:∃kv,kvs[i]?=some kv:={_,ay hi};have hie:i<es.size:=by lia
  obtain⟨e,he,r⟩:=Paired.at' m.2.2 nB;have ee:es[i]=e:=by rw[dy,cI hie]at he;exact bR he
  refine acF st ((I.bQ d _ hd).1) m.2.1 hie λh' mT sb=>?_;obtain⟨v,ev,c,q⟩:=id mT;exact{_,9,GD ev c q 7 {kv.1,H,727,ee▸r.1,⟨rfl,kv,nB,rfl⟩,mT,λb hb=>(hf b hb).1}}
 done:=by
  intro X hP hw hK hc i pins s Z H E I hf st hg;obtain⟨hd,hi⟩:=hg;have hl:kvs.length=es.size:=by rw[bc m.2.2,bJ]
  obtain⟨f0,f1,f2,f3,f4,f5⟩:=hf it 59;exact SV (I.ok.hd hc) st ((I.bQ d _ hd).1) m.2.1 ∅ λh' eb=>{9,729}
 self:=λ_ _ _ _ _ st h=>wpAny_pyIter_keyiter st h
def KN(P:Program)(w:World)(d:Addr)(u:HO)(kvs:List (V×V)):Prop:=(∃l,u=.dK l/\kvs=l.map λp=>(kV p.1,p.2))\/∃l ok ov,u=.ext (DX P w d l ok ov)/\kvs=(l.map λp=>(kV p.1,p.2))++[(ok,ov)]
def F7(rel:KV kvs vs)(hp:Pairs (bT P w) es vs):Paired (λ(p:V×V)(e:DictEntry)=>RelV p.1 e.key/\RelV p.2 e.val) (kvs.map λp=>(kV p.1,p.2)) es:=by
 induction hp generalizing kvs with
 |nil=>cases rel;exact .nil
 |@cons e kv es vs hk hv _ ih=>
  cases rel with
  |@cons p _ ps _ hr t=>exact .cons {sJ (hr.1▸hk),hv▸hr.2} (ih t)
def Ij(x:dY P w H h d u)(hv:KN P w d u kvs):(d==sysModules)=false/\∃o es ep,h.get? d=some o/\Ym o es ep kvs:=by
 rcases hv with⟨l,rfl,rfl⟩|⟨l,ok,ov,rfl,rfl⟩
 ·obtain⟨_,lo,vs,rel,o,es,ep,ga,hx,hd,_,hp,_⟩:=x;exact{lo,o,es,ep,ga,hx,hd,F7 rel hp}
 ·obtain⟨⟨lo,o,es,ep,vs,e,ga,hx,hd,rel,_,hp,_,r1,r2,_⟩,_⟩:=x;refine{lo,o,_,ep,ga,hx,hd,?_};rw[D3];exact yw (F7 rel hp) ⟨r1,r2⟩
def Inv.abD(I:Inv X pins Z H s)(hd:H d=some u)(hv:KN X.prog X.w d u kvs)(ho:s.heap.get? d=some o):Inv X pins Z (upd H d (.fB o u)) s:=by
 rcases hv with⟨l,rfl,rfl⟩|⟨l,ok,ov,rfl,rfl⟩
 ·exact I.freeze hd ho
 ·exact I.P2 hd ho
inductive aby(P:Program)(w:World)(R:It->Hp->Prop)(x:V)(H1:Hp):Prop
 |mk d u kvs (_:x=.ref d) (_:H1 d=some u) (_:KN P w d u kvs) (_:∀o,R (Ql d o u kvs) (upd H1 d (.fB o u)))
def adB(P:Program)(w:World)(tl:TE):TI:=λZ H R=>tl Z H λx H1=>aby P w R x H1
def EZ(hl:PE X l tl):PI X tg l (adB X.prog X.w tl):=by
 intro pins s Z H R I h;refine dh (hl pins s Z H _ I h) λv s1 x H1 I1 r1 q1=>?_;obtain⟨d,u,kvs,e,hd,hv,q⟩:=q1;subst e;cases r1;obtain⟨lo,o,es,ep,ga,m⟩:=Ij (I1.bQ d _ hd) hv;refine HC lo ga m.1 m.2.1 ?_;have I2:=I1.abD hd hv ga;refine{s1.heap.objs.size,[s1.heap.objs.size],_,_,_,9,I2.kept λb o e=>ao _ e,KY m,{_,682,9,9},694,q o};have e:b=s1.heap.objs.size:=by simpa using hb
 subst e;exact I2.uD (aw _) (I2.bQ.fresh (aw _))
inductive aci(t:TS)(D:Ends)(Z:St)(H:Hp):Prop
 |mk (d:Addr) (_:(∀u v,H d≠some (.fB u v))) (_:t {D with nx:=λσ' H'=>∃o u,H' d=some (.fB o u)/\D.nx σ' (upd H' d u),rt:=λv H'=>∃o u,H' d=some (.fB o u)/\D.rt v (upd H' d u)} Z H)
def EX{st:Stmt}(h:PS X st t):PS X st (aci t):=by
 intro pins s Z H D I ht;obtain⟨d,hd,ht⟩:=ht;have h0:=λu v e=>hd u v (I.base.uC d u v e);refine gB (h pins s Z H _ I ht) λf s1 q=>?_;cases f with
 |next=>
  obtain⟨σ',H',J,o,u,e,n⟩:=q;exact{σ',_,J.Qv e h0,n}
 |brk=>exact q
 |cont=>exact q
 |ret u=>
  obtain⟨v,σ',H',J,r,o,u',e,n⟩:=q;exact{v,σ',_,J.Qv e h0,r,n}
section
variable{d:Addr}{o:Obj}{u:HO}{kvs:List (V×V)}
def Cu{g:TG}{tb:TS}{D:Ends}(Pv:Nat->St->Hp->Prop)(h0:Pv 0 Z H)(hl:∀i Z H,i<=kvs.length->Pv i Z H->H d=some (.fB o u))
  (hs:∀i kv Z H,kvs[i]?=some kv->Pv i Z H->g kv.1 Z H λσ2 H2=>tb {D with nx:=Pv (i+1),ct:=Pv (i+1),bk:=D.nx} σ2 H2) (hd:∀Z H,Pv kvs.length Z H->D.nx Z H):vp (Ql d o u kvs) g tb D Z H:=by
 refine Cv Pv h0 (λi Z H hi p=>{{hl i Z H (bB hi) p,hi},?_}) λZ H p=>{{hl _ Z H (aw _) p,aw _},hd Z H p};rintro x H' ⟨rfl,kv,hk,rfl⟩;exact hs i kv Z _ hk p
def Ap(Pv:Nat->Aam->Hp->Prop)(hx:kvs.length<sizeLine)(h0:Pv 0 [] H1)(hl:∀i ys H,i<=kvs.length->Pv i ys H->H d=some (.fB o u)/\ys.length<=i)
  (hs:∀(i:Nat)(kv:V×V)(ys:Aam)(H:Hp)(N:Aam->Hp->Prop),kvs[i]?=some kv->Pv i ys H->(∀hU H',Pv (i+1) hU H'->N hU H')->
   tt (some kv.1::slotsOf fr Z) H λb H4=>if b=true then te (some kv.1::slotsOf fr Z) H4 (λy H5=>N (ys++[y]) H5)else N ys H4)
  (hd:∀ys H,Pv kvs.length ys H->∀l,H l=none->R l ys H):AS (Ql d o u kvs) fr tt te Z H1 R:=by
 refine{λi m ys H=>m=kvs.length -i/\i<=kvs.length/\Pv i ys H,{kvs.length,59,aP _,h0},?_};rintro i m ys H ⟨rfl,hi,p⟩;obtain⟨q,hy⟩:=hl i ys H hi p;by_cases bO:i<kvs.length
 ·refine .inr {⟨q,bO⟩,8,?_};rintro v H3 ⟨rfl,kv,nB,rfl⟩;exact hs i kv ys H3 (λhU H'=>∃m',m'<kvs.length -i/\m'=kvs.length -(i+1)/\i+1<=kvs.length/\Pv (i+1) hU H') nB p λhU H' p'=>{_,8,9,bO,p'}
 ·have e:i=kvs.length:=by lia
  subst e;exact .inl {{q,aw _},8,hd ys H p}
def rf(r:Aaf):PyData:=.tuple (r.map PyData.str)
def iY(rows:Hz):PyData:=.list (rows.map rf)
def zB(rows:Hz):Prop:=∀r∈rows,∀z∈r,PyData.strOk z=true
variable{K:Frag}{H:Hp}
def aee(h:∃a,y=.ref a/\aZ K H a (r.map V.str)):Dt K H (rf r) y:=by obtain⟨a,rfl,h⟩:=h;unfold rf;exact{a,_,9,h,lA r}
def RS:∀{ys:Aam}{rows:Hz},eE K H ys rows->lJ K H (rows.map rf) ys:=by
 intro ys rows h
 induction h with
 |nil=>rw[fw,lJ]
 |cons hr _ ih=>
  exact{_,_,9,aee hr,ih}
def Il(h:bf K H p ys)(hr:eE K H ys rows):Dt K H (iY rows) 676:=by unfold iY;exact{p,ys,9,h,RS hr}
def abF(r t:Aaf):PyData.eqv (rf r) (rf t)=decide (r=t):=by unfold rf;rw[PyData.eqv,nq]
theorem EA:∀a b:Hz,PyData.eqvAll (a.map rf) (b.map rf)=decide (a=b)
 |[],[]=>by simp[PyData.eqvAll]
 |[],_::_=>by simp[PyData.eqvAll]
 |_::_,[]=>by simp[PyData.eqvAll]
 |a::r,b::t=>by simp only[bq,PyData.eqvAll,abF,EA r t];by_cases h:a=b<;>by_cases h':r=t<;>simp[h,h']
def NA(a b:Hz):PyData.eqv (iY a) (iY b)=decide (a=b):=by unfold iY;rw[PyData.eqv,EA]
theorem E7:∀rows:Hz,zB rows->PyData.canLayAll0 (rows.map rf)=true
 |[],_=>rfl
 |z::r,h=>by have h1:(rf z).canLay0=true:=sO z (h z aF);simp[PyData.canLayAll0,h1,(E7 r λy hy=>h y (aG _ hy))]
theorem Ao:∀rows:Hz,PyData.depthAll (rows.map rf)<=1
 |[]=>by simp[PyData.depthAll]
 |z::r=>by
  have h1:(rf z).depth=1:=by simp[rf,PyData.depth,o9]
  have:=Ao r;simp[PyData.depthAll,h1];lia
def Eb(h:zB rows):SeqAt.shaped (iY rows)=true:=by have:=Ao rows;simp[SeqAt.shaped,iY,PyData.canLay0,PyData.depth,E7 rows h];lia
inductive NK:Type
 |cz
 |key (k:Key)
 |tup (ks:List NK)
noncomputable instance:DecidableEq NK:=λa b=>Classical.propDecidable (a=b)
end
section
variable(P:Program)(w:World)
mutual
inductive lV(h:Heap):NK->Value->Prop
 |cz:lV h .cz .none
 |key {k:Key} {v:Value}:(bT P w).is k v=true->lV h (.key k) v
 |tup {ks:List NK} {a:Addr} {o:Obj} {items:Aaj} {n:Nat}:h.get? a=some o->o.cls=.type "tuple"->o.data=.seq items n->mh h ks items.toList->lV h (.tup ks) (.ref a)
inductive mh(h:Heap):List NK->Aae->Prop
 |nil:mh h [] []
 |cons {k:NK} {v:Value} {ks:List NK} {vs:Aae}:lV h k v->mh h ks vs->mh h (k::ks) (v::vs)
end
mutual
def NK.hash:NK->Int
 | .cz=>0xFCA86420
 | .key k=>(bT P w).hash k
 | .tup ks=>reduceHash (Builtin.Tuple.tupleHashOf (NK.hashes ks))
def NK.hashes:List NK->List Int
 |[]=>[]
 |k::ks=>NK.hash k::NK.hashes ks
end
mutual
def NK.draws:NK->Nat
 | .cz=>1
 | .key _=>1
 | .tup ks=>NK.oy ks+1
def NK.oy:List NK->Nat
 |[]=>0
 |k::ks=>NK.draws k+NK.oy ks
end
mutual
def NK.deep:NK->Nat
 | .cz=>0
 | .key _=>0
 | .tup ks=>NK.pb ks+1
def NK.pb:List NK->Nat
 |[]=>0
 |k::ks=>max (NK.deep k) (NK.pb ks)
end
end
section
variable{P:Program}{w:World}{A:Around}{E:Aac}{s:Shared}
def RA(q:Q 0xFCA86420 {s with toks:=s.toks+1}):wpAny 667 A (pyHash .none) Q E s:=by have ty:s.TypeIs .none "NoneType":=9;refine ah (wpAny_cRoomFor_byValue 9 (ah (iK ty jU.lookup ?_)));refine ah (iK ty jU.lookup ?_);refine ah (wpAny_callSpecialIfBoundUnlessNone?_slot ty jU (b7 jU ty PySem.F.entry_NoneType_hash (show wpAny _ _ (do ret (<-mkInt 0xFCA86420)) _ _ s from wpAny_ret_mkInt ?_) (PySem.F.args_NoneType_hash_1 _)));exact aq q
def NK.Xv(ks:List NK):NK.hash P w (.tup ks)=reduceHash (Builtin.Tuple.tupleHashOf (NK.hashes P w ks)):=by rw[NK.hash]
def U5(hu:A.units<cLine)(ho:s.heap.get? a=some o)(hc:o.cls=.type "tuple")(hd:o.data=.seq items n)(hi:mh P w s.heap ks items.toList)
  (ih:∀(A':Around)(k:NK)(v:Value)(t:Nat)(E':Aac)(R:Int->Shared->Prop),A'.units<=A.units+4->k∈ks->lV P w s.heap k v->R (NK.hash P w k) {s with toks:=t+NK.draws k}->wpAny 667 A' (pyHash v) R E' {s with toks:=t})
  (h:Q (NK.hash P w (.tup ks)) {s with toks:=s.toks+NK.draws (.tup ks)}):wpAny 667 A (pyHash 659) Q E s:=by
 have hT:s.TypeIs 659 "tuple":=⟨o,ho,hc⟩;refine ah (wpAny_cRoomFor_or (.inr hu) ?_);refine ah (iK hT lW.lookup ?_);refine ah (iK hT lW.lookup ?_);refine ah (wpAny_callSpecialIfBoundUnlessNone?_slot hT lW (b7 lW hT F.entry_tuple_hash ?_ (F.args_tuple_hash_1 _)));show wpAny _ _ (Builtin.Tuple.tupleItemsOf 659>>=_) _ _ s;refine ah (wpAny_tupleItemsOf ho hd ?_);refine ah ?_;rw[<-oJ];refine mE _
  (λrest(b:Array Int) s'=>∃done left,ks=done++left/\mh P w s.heap left rest/\b.toList=NK.hashes P w done/\s'={s with toks:=s.toks+NK.oy done})
  _ ?_ ?_ _ _ {[],ks,9,hi,by simp[NK.hashes],by simp[NK.oy]}
 ·rintro x rest b s' ⟨done,left,e,hl,hb,rfl⟩;cases hl with
  |@cons k _ B9 _ h1 pC=>
   have e2:NK.hashes P w (done++[k])=NK.hashes P w done++[NK.hash P w k]:=by
    clear e hb
    induction done with
    |nil=>simp[NK.hashes]
    |cons a r Uz=>simp only[qv,NK.hashes,Uz]
   have e3:NK.oy (done++[k])=NK.oy done+NK.draws k:=by
    clear e hb e2
    induction done with
    |nil=>simp[NK.oy]
    |cons a r Uz=>simp only[qv,NK.oy,Uz];lia
   refine ah (ih _ k x _ _ _ ?_ (by rw[e];simp) h1 (aq {done++[k],B9,by rw[e];simp,pC,by simp[hb,e2],by rw[e3,uH]}))
   ·show A.units+1<=A.units+4;lia
 ·rintro b s' ⟨done,left,rfl,hl,hb,rfl⟩;cases hl;rw[cL]at h;show wpAny _ _ (retInt (Builtin.Tuple.tupleHashOf b.toList)) _ _ _;rw[hb];refine wpAny_ret_mkInt ?_;show wpAny _ _ (if(decide (-(2:Int)^63<=Builtin.Tuple.tupleHashOf (NK.hashes P w done))&&decide (Builtin.Tuple.tupleHashOf (NK.hashes P w done)<2^63))=true then _ else _) Q E _;rw[NK.Xv,NK.draws]at h;unfold reduceHash at h;by_cases hr:(decide (-(2:Int)^63<=Builtin.Tuple.tupleHashOf (NK.hashes P w done))&&decide (Builtin.Tuple.tupleHashOf (NK.hashes P w done)<2^63))=true
  ·rw[aM hr];rw[aM hr]at h;exact aq (by simpa[uH]using h)
  ·rw[aI hr];rw[aI hr]at h;exact ah (j8 (aq (by simpa[uH]using h)))
mutual
theorem U6:∀(k:NK)(A:Around)(E:Aac)(s:Shared)(v:Value)(Q:Int->Shared->Prop),A.units+4*NK.deep k<cLine->lV P w s.heap k v->Q (NK.hash P w k) {s with toks:=s.toks+NK.draws k}->wpAny 667 A (pyHash v) Q E s
 | .cz,A,E,s,v,Q,hu,r,q=>by cases r;rw[NK.hash,NK.draws]at q;exact RA q
 | .key k,A,E,s,v,Q,hu,r,q=>by
  cases r with
  |key h=>
   rw[NK.hash,NK.draws]at q;exact(bT P w).pyHash h q
 | .tup ks,A,E,s,v,Q,hu,r,q=>by
  cases r with
  |tup ho hc hd hi=>
   rw[NK.deep]at hu;exact U5 ∅ ho hc hd hi (λA' k v t E' R hA hk r q=>M8 ks k hk A' E' {s with toks:=t} v R ∅ r q) q
theorem M8:∀(ks:List NK)(k:NK),k∈ks->∀(A:Around)(E:Aac)(s:Shared)(v:Value)(Q:Int->Shared->Prop),A.units+4*NK.pb ks<cLine->lV P w s.heap k v->Q (NK.hash P w k) {s with toks:=s.toks+NK.draws k}->wpAny 667 A (pyHash v) Q E s
 |[],k,h,A,E,s,v,Q,hu,r,q=>by cases h
 |k0::ks,k,h,A,E,s,v,Q,hu,r,q=>by
  rw[NK.pb]at hu;rcases aN.mp h with e|h
  ·rw[e]at r q;exact U6 k0 A E s v Q ∅ r q
  ·exact M8 ks k h A E s v Q ∅ r q
end
end
section
variable{P:Program}{w:World}
mutual
theorem O9:∀(k:NK)(n:Nat)(A:Around)(E:Aac)(s:Shared)(v:Value)(Q:Bool->Shared->Prop),lV P w s.heap k v->NK.deep k<=n->Q true s->wpAny 667 A (eqIsQuiet n v) Q E s
 | .cz,n,A,E,s,v,Q,r,_,q=>by cases r;rw[DQ n rfl];exact aq q
 | .key k,n,A,E,s,v,Q,r,_,q=>by
  cases r with
  |key h=>
   rw[DQ n ((bT P w).byValue _ _ h)];exact aq q
 | .tup ks,0,A,E,s,v,Q,r,hn,q=>by rw[NK.deep]at hn;exact absurd hn ∅
 | .tup ks,n+1,A,E,s,v,Q,r,hn,q=>by
  cases r with
  |@tup _ a o items m ho hc hd hi=>
   rw[NK.deep]at hn;have hT:s.TypeIs 659 "tuple":=⟨o,ho,hc⟩;unfold eqIsQuiet;refine ah (iK hT F.slot_tuple_eq.lookup ?_);show wpAny _ _ (isInstance 659 (.type "tuple")>>=_) _ _ s;refine ah (jg hT isSubtype_tuple_tuple ?_);simp only[Bool.not_true,gP,kB];refine ah (dj ho hd ?_);refine ah ?_;show wpAny _ _ (forIn items _ _) _ _ s;rw[<-oJ];refine mE _ (λrest r s'=>r.1=none/\s'=s/\∃left,mh P w s.heap left rest/\∀k∈left,k∈ks) _ ?_ ?_ _ _ {9,9,ks,hi,λ_ h=>h}
   ·rintro v rest r s' ⟨hr,rfl,left,hl,hm⟩;cases hl with
    |@cons k _ B9 _ h1 pC=>
     refine ah (Jd ks k (hm k aF) n _ _ _ v _ h1 ∅ ?_);simp only[Bool.not_true,gP,kB];exact aq {9,9,B9,pC,λk' MX=>hm k' (aG _ MX)}
   ·rintro⟨r1,r2⟩ s' ⟨hr,rfl,_⟩;simp only at hr;subst hr;exact aq q
theorem Jd:∀(ks:List NK)(k:NK),k∈ks->∀(n:Nat)(A:Around)(E:Aac)(s:Shared)(v:Value)(Q:Bool->Shared->Prop),lV P w s.heap k v->NK.pb ks<=n->Q true s->wpAny 667 A (eqIsQuiet n v) Q E s
 |[],k,h,n,A,E,s,v,Q,r,hn,q=>by cases h
 |k0::ks,k,h,n,A,E,s,v,Q,r,hn,q=>by
  rw[NK.pb]at hn;rcases aN.mp h with e|h
  ·rw[e]at r;exact O9 k0 n A E s v Q r ∅ q
  ·exact Jd ks k h n A E s v Q r ∅ q
end
mutual
def NK.toD:NK->PyData
 | .cz=>.none
 | .key (.inl i)=>.int i
 | .key (.inr z)=>.str z
 | .tup ks=>.tuple (NK.nr ks)
def NK.nr:List NK->List PyData
 |[]=>[]
 |k::ks=>NK.toD k::NK.nr ks
end
mutual
theorem HD:∀(k:NK){h:Heap}{v:Value},lV P w h k v->∃as,Reads h v (NK.toD k) as
 | .cz,h,v,r=>by cases r;rw[NK.toD];exact{_,.none}
 | .key (.inl i),h,v,r=>by
  cases r with
  |key q=>
   obtain⟨t,rfl⟩:=(show RelV (.int i) v from sJ (k:=Sum.inl i) q);rw[NK.toD];exact{_,.int i t}
 | .key (.inr z),h,v,r=>by
  cases r with
  |key q=>
   obtain⟨t,rfl⟩:=(show RelV (.str z) v from sJ (k:=Sum.inr z) q);rw[NK.toD];exact{_,.str z t}
 | .tup ks,h,v,r=>by
  cases r with
  |tup ho hc hd hi=>
   obtain⟨as,q⟩:=LG ks hi;rw[NK.toD];exact{_,.tuple ho hc hd q}
theorem LG:∀(ks:List NK){h:Heap}{vs:Aae},mh P w h ks vs->∃as,ReadsAll h vs (NK.nr ks) as
 |[],h,vs,r=>by cases r;rw[NK.nr];exact{_,.nil}
 |k::ks,h,vs,r=>by
  cases r with
  |cons r1 r2=>
   obtain⟨as,q1⟩:=HD k r1;obtain⟨bs,q2⟩:=LG ks r2;rw[NK.nr];exact{_,.cons q1 q2}
end
mutual
theorem Z6:∀(x y:NK),PyData.eqv (NK.toD x) (NK.toD y)=true↔x=y
 | .cz,.cz=>by simp[NK.toD,PyData.eqv]
 | .cz,.key (.inl _)=>by simp[NK.toD,PyData.eqv]
 | .cz,.key (.inr _)=>by simp[NK.toD,PyData.eqv]
 | .cz,.tup _=>by simp[NK.toD,PyData.eqv]
 | .key (.inl _),.cz=>by simp[NK.toD,PyData.eqv]
 | .key (.inl i),.key (.inl j)=>by simp[NK.toD,PyData.eqv]
 | .key (.inl _),.key (.inr _)=>by simp[NK.toD,PyData.eqv]
 | .key (.inl _),.tup _=>by simp[NK.toD,PyData.eqv]
 | .key (.inr _),.cz=>by simp[NK.toD,PyData.eqv]
 | .key (.inr _),.key (.inl _)=>by simp[NK.toD,PyData.eqv]
 | .key (.inr a),.key (.inr b)=>by simp[NK.toD,PyData.eqv]
 | .key (.inr _),.tup _=>by simp[NK.toD,PyData.eqv]
 | .tup _,.cz=>by simp[NK.toD,PyData.eqv]
 | .tup _,.key (.inl _)=>by simp[NK.toD,PyData.eqv]
 | .tup _,.key (.inr _)=>by simp[NK.toD,PyData.eqv]
 | .tup xs,.tup ys=>by rw[NK.toD,NK.toD,PyData.eqv,Vp xs ys];exact{cR NK.tup,λh=>by injection h}
theorem Vp:∀(xs ys:List NK),PyData.eqvAll (NK.nr xs) (NK.nr ys)=true↔xs=ys
 |[],[]=>by simp[NK.nr,PyData.eqvAll]
 |[],_::_=>by simp[NK.nr,PyData.eqvAll]
 |_::_,[]=>by simp[NK.nr,PyData.eqvAll]
 |x::xs,y::ys=>by rw[NK.nr,NK.nr,PyData.eqvAll,bP,Z6 x y,Vp xs ys];simp
end
def El(h:(bT P w).is k 659=true):False:=by have:=(bT P w).byValue _ _ h;cases this
def Cb(h:(bT P w).is k .none=true):False:=by
 have:=sJ (k:=k) h;cases k with
 |inl i=>obtain⟨t,e⟩:=(show∃t,Value.none=Value.int i t from this);cases e
 |inr z=>obtain⟨t,e⟩:=(show∃t,Value.none=Value.str z t from this);cases e
mutual
theorem ZC:∀(x y:NK){h:Heap}{v:Value},lV P w h x v->lV P w h y v->x=y
 | .cz,y,h,v,r1,r2=>by
  cases r1;cases r2 with
  |cz=>rfl
  |key q=>exact(Cb q).elim
 | .key k,y,h,v,r1,r2=>by
  cases r1 with
  |key q=>
   cases r2 with
   |cz=>exact(Cb q).elim
   |key q2=>rw[(bT P w).inj _ _ _ q q2]
   |tup=>exact(El q).elim
 | .tup ks,y,h,v,r1,r2=>by
  cases r1 with
  |tup ho hc hd hi=>
   cases r2 with
   |key q=>exact(El q).elim
   |@tup ks2 _ o2 Cc n2 uS ub hd2 mB=>
    rw[ho]at uS;cases uS;rw[hd]at hd2;injection hd2 with e1 _;subst e1;rw[Uy ks ks2 hi mB]
theorem Uy:∀(xs ys:List NK){h:Heap}{vs:Aae},mh P w h xs vs->mh P w h ys vs->xs=ys
 |[],ys,h,vs,r1,r2=>by cases r1;cases r2;rfl
 |x::xs,ys,h,vs,r1,r2=>by
  cases r1 with
  |cons a b=>
   cases r2 with
   |@cons y _ ys _ c d=>rw[ZC x y a c,Uy xs ys b d]
end
mutual
theorem Ut(h h':Heap)(k:∀b o,(∀es ep,o.data≠ .dict es ep)->h.get? b=some o->h'.get? b=some o):∀(x:NK){v:Value},lV P w h x v->lV P w h' x v
 | .cz,v,r=>by cases r;exact .cz
 | .key _,v,r=>by
  cases r with
  |key q=>exact .key q
 | .tup ks,v,r=>by
  cases r with
  |tup ho hc hd hi=>exact .tup (k _ _ (λes ep e=>by rw[hd]at e;cases e) ho) hc hd (Pr h h' k ks hi)
theorem Pr(h h':Heap)(k:∀b o,(∀es ep,o.data≠ .dict es ep)->h.get? b=some o->h'.get? b=some o):∀(xs:List NK){vs:Aae},mh P w h xs vs->mh P w h' xs vs
 |[],vs,r=>by cases r;exact .nil
 |x::xs,vs,r=>by
  cases r with
  |cons a b=>exact .cons (Ut h h' k x a) (Pr h h' k xs b)
end
def aet(P:Program)(w:World)(h:Heap)(k:NK)(a:Addr):Prop:=lV P w h k 659/\(NK.toD k).canLay0=true/\(NK.toD k).depth<=07/\NK.deep k<=07
noncomputable def qj(P:Program)(w:World):HeapKind P w NK where
 is:=aet P w
 hash:=NK.hash P w
 draws:=NK.draws
 room:=λA=>A.units+100<cLine
 inj:=λhx hy=>ZC _ _ hx.1 hy.1
 keeps:=λx ho hd hs=>{Ut _ _ (λb o' n e=>by refine(hs.2 b ?_).trans e;rintro rfl;rw[ho]at e;cases e;exact n _ _ hd) _ x.1,x.2}
 pyHash:=λhu hk h=>U6 _ _ _ _ _ _ (by have:=hk.2.2.2;lia) hk.1 h
 eqBool:=λ{A E s x y a b Q} hu hx hy h=>by
  obtain⟨as,r1⟩:=HD x hx.1;obtain⟨bs,r2⟩:=HD y hy.1;have e:PyData.eqv (NK.toD x) (NK.toD y)=decide (x=y):=by rw[fA,Z6,jE]
  have:=SeqAt.eqAt_reads _ _ A s _ _ as bs r1 r2 hx.2.1 hy.2.1 (by have:=hx.2.2.1;have:=Nat.min_le_left (NK.toD x).depth (NK.toD y).depth;lia);rw[e]at this;exact this P w E Q h
 quiet:=λhk h=>O9 _ 08 _ _ _ _ _ hk.1 (by have:=hk.2.2.2;lia) h
end
def DN(P:Program)(w:World)(d:Addr)(kvs:List 648):Heap->Prop:=λh=>(d==sysModules)=false/\∃xs:List (NK×Addr×Value),Paired 644 kvs xs/\kvs.length<=10000000/\
 ∃o es ep,h.get? d=some o/\o.ExactDict/\o.data=.dict es ep/\es.toList=xs.map (entryOfKey (qj P w))/\(xs.map (·.1)).Nodup
def Z8(x:DN P w d kvs h):dY P w H h d (.ext (DN P w d kvs)):=
 {x,let⟨_,_,_,_,o,_,_,q,_⟩:=x;⟨o,q⟩,λ_ _ ⟨l,xs,p,n,o,es,ep,q,r⟩ k=>{l,xs,p,n,o,es,ep,k _ q,r}}
mutual
def NV(K:Frag)(H:Hp):NK->V->Prop
 | .cz,v=>v=.cz
 | .key k,v=>v=kV k
 | .tup ks,v=>∃a xs,v=.ref a/\aZ K H a xs/\rR K H ks xs
def rR(K:Frag)(H:Hp):List NK->Aam->Prop
 |[],xs=>xs=[]
 |k::ks,xs=>∃x r,xs=x::r/\NV K H k x/\rR K H ks r
end
section
variable{X:Cx}{pins:Aaa}{Z:St}{H:Hp}{s:Shared}
mutual
theorem Me(I:Inv X pins Z H s):∀(k:NK)(v:V)(u:Value),NV X.K H k v->RelV v u->lV X.prog X.w s.heap k u
 | .cz,v,u,h,r=>by rw[NV]at h;subst h;cases(show u=Value.none from r);exact .cz
 | .key k,v,u,h,r=>by rw[NV]at h;subst h;exact .key (qd r)
 | .tup ks,v,u,h,r=>by rw[NV]at h;obtain⟨a,xs,rfl,hq,ha⟩:=h;cases r;obtain⟨ba,rv,⟨o,e,c,n,d⟩,_⟩:=I.tuple hq;exact .tup e c d (by simpa using Jl I ks xs ba ha rv)
theorem Jl(I:Inv X pins Z H s):∀(ks:List NK)(xs:Aam)(us:Aae),rR X.K H ks xs->Vals xs us->mh X.prog X.w s.heap ks us
 |[],xs,us,h,r=>by rw[rR]at h;subst h;cases r;exact .nil
 |k::ks,xs,us,h,r=>by
  rw[rR]at h;obtain⟨x,t,rfl,h1,h2⟩:=h;cases r with
  |cons r1 r2=>exact .cons (Me I k x _ h1 r1) (Jl I ks t _ h2 r2)
end
def Sa(k:NK):Prop:=(NK.toD k).canLay0=true/\(NK.toD k).depth<=07/\NK.deep k<=07
end
def iI(K:Frag)(H:Hp)(k:NK)(a:Addr):Prop:=NV K H k 659/\Sa k
def iC(P:Program)(w:World)(K:Frag)(H:Hp)(a:Addr)(kvs:List 648):Prop:=(H a=some (.ext (DN P w a kvs))\/(kvs=[]/\H a=some 655))/\∀p∈kvs,iI K H p.1 p.2.1
def valN(kvs:List 648)(k:NK):Aan:=(kvs.find? λp=>decide (p.1=k)).map (·.2.2)
def putN(kvs:List 648)(k:NK)(a:Addr)(v:V):List 648:=if(valN kvs k).isSome then kvs.map (λp=>if p.1=k then(p.1,p.2.1,v)else p)else kvs++[(k,a,v)]
def Dx(rel:Paired 644 kvs xs)(k:NK):mP (valN kvs k) ((atKey xs k).map (·.2)):=by
 unfold valN atKey
 induction rel with
 |nil=>exact trivial
 |@cons p q ps qs h _ ih=>
  by_cases c:p.1=k
  ·rw[gm (p:=λp:NK×Addr×V=>decide (p.1=k)) (bg c),gm (p:=λx:NK×Addr×Value=>decide (x.1=k)) (bg (h.1.symm.trans c))];exact h.2.2
  ·rw[gn (p:=λp:NK×Addr×V=>decide (p.1=k)) (λd=>c (aT d)),gn (p:=λx:NK×Addr×Value=>decide (x.1=k)) (λd=>c (h.1.trans (aT d)))];exact ih
section
variable{X:Cx}{pins:Aaa}{Z:St}{H:Hp}{s:Shared}{A:Around}{E:Aac}{a b:Addr}{kvs:List (NK×Addr×V)}{k:NK}{v:V}
def Inv.MH(I:Inv X pins Z H s)(h:iI X.K H k b):(qj X.prog X.w).is s.heap k b:={Me I k (.ref b) (.ref b) h.1 rfl,h.2}
def Inv.An(I:Inv X pins Z H s)(h:iC X.prog X.w X.K H a kvs):(a==sysModules)=false/\∃xs,Paired 644 kvs xs/\kvs.length<=10000000/\s.heap.DictOfH (qj X.prog X.w) a xs:=by
 obtain⟨h1,h2⟩:=h;have keys:∀{l:List 648}{xs:List (NK×Addr×Value)},Paired 644 l xs->(∀p∈l,iI X.K H p.1 p.2.1)->∀x∈xs,(qj X.prog X.w).is s.heap x.1 x.2.1:=λr=>by
  induction r with
  |nil=>intro _ x hx;cases hx
  |@cons p q ps qs h _ ih=>
   intro hk x hx;rcases aN.mp hx with rfl|hx
   ·rw[<-h.1,<-h.2.1];exact I.MH (hk p aF)
   ·exact ih (λp hp=>hk p (aG _ hp)) x hx
 rcases h1 with h1|⟨rfl,h1⟩
 ·obtain⟨⟨lo,xs,rel,hl,o,es,ep,g,hx,hd,he,nd⟩,_⟩:=(show dY X.prog X.w H s.heap a (.ext (DN X.prog X.w a kvs))from I.bQ a _ h1);exact{lo,xs,rel,hl,o,es,ep,g,hx,hd,he,keys rel h2,nd}
 ·obtain⟨_,lo,vs,rel,o,es,ep,g,hx,hd,_,hp,_⟩:=xB I.bQ h1;cases rel;have e0:es.toList=[]:=by have:=hp.length;exact dD.mp this
  exact{lo,[],.nil,aP _,o,es,ep,g,hx,hd,by rw[e0];rfl,λx h=>(by cases h),eB}
def afo{Q:Aac}(hu:A.units+101<cLine)(I:Inv X pins Z H s)(h:iC X.prog X.w X.K H a kvs)(hk:iI X.K H k b)(q:∀s',Inv X pins Z H s'->Q (.bool (valN kvs k).isSome) s'):wpAny 56 A (compareOp .In (.ref b) 659) Q E s:=by obtain⟨lo,xs,rel,hl,dd⟩:=I.An h;refine wpAny_in_heap (show A.units+1+100<cLine by lia) (I.MH hk) lo dd ?_;have e:=(Dx rel k).oo;rw[gW]at e;rw[<-e];exact q _ 686
def LD(rel:Paired 644 kvs xs)(rv:RelV v r):Paired 644 (putN kvs k b v) (storedH xs k b r):=by
 have e:=(Dx rel k).oo;rw[gW]at e;unfold putN storedH;rw[e];split
 next hs=>
  clear e hs
  induction rel with
  |nil=>exact .nil
  |@cons p q ps qs h _ ih=>
   refine .cons ?_ ih;show(if p.1=k then(p.1,p.2.1,v)else p).1=(if q.1=k then(q.1,q.2.1,r)else q).1/\(if p.1=k then(p.1,p.2.1,v)else p).2.1=(if q.1=k then(q.1,q.2.1,r)else q).2.1/\RelV (if p.1=k then(p.1,p.2.1,v)else p).2.2 (if q.1=k then(q.1,q.2.1,r)else q).2.2;by_cases c:p.1=k
   ·rw[aM c,aM (h.1.symm.trans c)];exact{h.1,h.2.1,rv}
   ·rw[aI c,aI (λd=>c (h.1.trans d))];exact h
 next=>exact yw rel ⟨rfl,rfl,rv⟩
def vO:(putN kvs k b v).length<=kvs.length+1:=by
 unfold putN;split
 ·rw[aj];lia
 ·rw[aD];exact aw _
def aeg(hu:A.units+101<cLine)(I:Inv X pins Z H s)(h:iC X.prog X.w X.K H a kvs)(hk:iI X.K H k b)(nA:kvs.length<10000000)(rv:RelV v r)
  (q:∀s',Inv X pins Z (upd H a (.ext (DN X.prog X.w a (putN kvs k b v)))) s'->Q () s'):wpAny 56 A (setItem 659 (.ref b) r) Q E s:=by
 obtain⟨lo,xs,rel,hl,dd⟩:=I.An h;have lx:xs.length<=sizeLine:=by rw[<-rel.length,bX];lia
 refine Bv (show A.units+1+100<cLine by lia) (I.MH hk) dd λh' rE hs=>q _ ?_;obtain⟨o,es,ep,g,h2,h3,h4,_,h5⟩:=rE;have lp:=vO (kvs:=kvs) (k:=k) (b:=b) (v:=v);refine sV I ?_ hs ⟨o,g⟩ (Z8 {lo,_,LD rel rv,8,o,es,ep,g,h2,h3,h4,h5});rcases h.1 with e|⟨_,e⟩<;>rw[e]<;>exact True.intro
end
inductive afN(P:Program)(w:World)(K:Frag)(neg:Bool)(x:V)(y:V)(H:Hp)(Q:VK):Prop
 |mk a b kvs k (_:x=.ref b) (_:y=.ref a) (_:iC P w K H a kvs) (_:iI K H k b) (_:Q (.bl (if neg then !(valN kvs k).isSome else(valN kvs k).isSome)) H)
inductive aaP(P:Program)(w:World)(K:Frag)(D:Ends)(Z:St)(v:V)(x:V)(y:V)(H3:Hp):Prop
 |mk a b kvs k (_:x=.ref a) (_:y=.ref b) (_:iC P w K H3 a kvs) (_:iI K H3 k b) (_:kvs.length<10000000) (_:D.nx Z (upd H3 a (.ext (DN P w a (putN kvs k b v)))))
def acD(P:Program)(w:World)(K:Frag)(td ty tv:TE):TS:=λD Z H=>tv Z H λv H1=>td Z H1 λx H2=>ty Z H2 λy H3=>aaP P w K D Z v x y H3
section
variable{X:Cx}{o i value:Expr}{pos pos':Pos}{td ty tv:TE}
def acX(hu:X.A.units+101<cLine):iU X (compareOp .In) (afN X.prog X.w X.K false):=by intro pins s Z H x y v u Q I rx ry h;obtain⟨a,b,kvs,k,rfl,rfl,g,hk,q⟩:=h;cases rx;cases ry;exact afo hu I g hk λs' I'=>{.bl _,H,I',9,q}
def EY(hu:X.A.units+101<cLine)(ho:PE X o td)(hi:PE X i ty)(hv:PE X value tv)(hs:swapsWith value (some (.Subscript o i pos')) pos.line X.env=pure false):
  PS X (.Assign [.Subscript o i pos'] value pos) (acD X.prog X.w X.K td ty tv):=by
 intro pins s Z H D I h;refine xK (dh (hv pins s Z H _ I h) λr s1 v H1 I1 rv q1=>dh (ho pins s1 Z H1 _ I1 q1) λu s2 x H2 I2 rx q2=>dh (hi pins s2 Z H2 _ I2 q2) λiv s3 y H3 I3 ry agg=>?_) hs;obtain⟨a,b,kvs,k,ex,ey,g,hk,hl,q⟩:=agg;subst ex ey;obtain rfl:u=Value.ref a:=rx;obtain rfl:iv=Value.ref b:=ry;exact aeg hu I3 g hk hl rv λs4 I4=>⟨Z,_,I4,q⟩
end
def range_any(bs:List Bool):((List.range bs.length).any λi=>(bs[i]?).getD false)=bs.any id:=by
 rw[fA,ix,ix];constructor
 ·rintro⟨i,hi,h⟩;have hl:=cE.mp hi;rw[ay hl]at h;exact{_,kJ hl,h}
 ·rintro⟨b,hb,h⟩;obtain⟨i,hi⟩:=eP.mp hb;exact{i,cE.mpr (au.mp hi).1,hi▸h}
section
variable{X:Cx}
def zw(hc:X.calm=true):gZ X (.builtin "any") (λxs H Q=>∃(a:Addr)(bs:List Bool),xs=[.ref a]/\bf X.K H a (bs.map V.bl)/\Q (.bl (bs.any id)) H):=by
 intro pins s Z H xs us Q I r h;obtain⟨a,bs,rfl,ha,q⟩:=h;obtain⟨u,rfl,ru⟩:=jI r;cases ru;obtain⟨ba,rv,p,hz⟩:=I.list ha;have hl:ba.length=bs.length:=by have:=rv.length;simpa using this.symm
 have gJ:a≠s.heap.objs.size:=by obtain⟨o,n,e,_⟩:=id p;exact aX (aY e)
 refine call_any_walk (lQ p.isList ?_);refine{s.heap.objs.size,_,_,ba.toArray.size,_,_,λi=>(bs[i]?).getD false,9,G9 (show X.A.in1.handled=none from I.ok.hd hc) s.heap.objs.size a gJ ba.toArray,{{_,682,9,9},p.isList.at λo e=>ao _ e},?_,λh' tk kp=>?_}
 ·intro i v s' Q' E' hP hQ;have U9:ba[i]?=some v:=by simpa using hP
  have hi:i<bs.length:=by rw[<-hl];exact(au.mp U9).1
  obtain⟨u,hu,ru⟩:=rv.get (by rw[aW,ay hi];rfl);rw[U9]at hu;cases hu;cases ru;refine eT ?_;have e2:(bs[i]?).getD false=bs[i]:=by rw[ay hi];rfl
  rw[<-e2];exact hQ
 ·refine{.bl (bs.any id),H,I.kept λb o e=>kp b o (by simpa using aX (aY e)) (ao _ e),?_,q};show Value.bool _=Value.bool _;rw[aR,hl,range_any]
def J0(hc:X.calm=true):gZ X (.builtin "min") (λxs H Q=>∃(a:Addr)(ns:List Int),xs=[.ref a]/\bf X.K H a (ns.map V.int)/\0<ns.length/\∀m,m∈ns->(∀n∈ns,m<=n)->Q (.int m) H):=by
 intro pins s Z H xs us Q I r h;obtain⟨a,ns,rfl,ha,hn,q⟩:=h;obtain⟨u,rfl,ru⟩:=jI r;cases ru;obtain⟨ba,rv,p,hz⟩:=I.list ha;have hi:=ints_of rv;obtain⟨xs,e⟩:=hi.allInts.items;have A9:ns=xs.toList.map (·.1):=by rw[<-hi.numsOf,<-nums_intItems,<-e]
 have hsz:0<xs.size:=by have h3:=hn;rw[A9,aj,bJ]at h3;exact h3
 have hl:=p.isList;rw[e]at hl;refine min_intList (show X.A.handled=none from I.ok.hd hc) hl hsz λv h' tk hv hk=>?_;obtain⟨t,rfl⟩:=intItems_at hv;obtain⟨h1,h2⟩:=argBest_lt (numAt xs) (xs.size -1);refine{.int _,H,I.kept hk,⟨t,rfl⟩,q _ ?_ λb hb=>?_}
 ·rw[A9,numAt_eq];exact getD_mem (by rw[aj,bJ];lia)
 ·rw[A9]at hb;obtain⟨j,hj,rfl⟩:=mem_getD hb;rw[aj,bJ]at hj;rw[<-numAt_eq];exact h2 j ∅
def GZ:gZ X (.type "dict") (λxs H Q=>∃a kvs,xs=[.ref a]/\Rd H a 719/\∀p,H p=none->Q 676 (upd H p 719)):=by intro pins s Z H xs us Q I r h;obtain⟨a,kvs,rfl,ha,q⟩:=h;obtain⟨u,rfl,ru⟩:=jI r;cases ru;exact X1 I ha λp s' hp I'=>{676,_,I',9,q p hp}
inductive aaT(x:V)(vs:Aam)(H:Hp)(Q:VK):Prop
 |mk (a:Addr) (k:Key) (z:V) (kvs:List (Key×V)) (_:x=.ref a) (_:vs=[kV k,z]) (_:H a=some (.dK kvs)) (_:kvs.length<sizeLine) (_:(∀v,iG kvs k=some v->Q v H)) (_:(iG kvs k=none->Q z (upd H a (.dK (putK kvs k z)))))
def Jm:Kh X "dict.setdefault" aaT:=by
 intro pins s Z H x vs v us Q I rx rv h;obtain⟨a,k,z,kvs,rfl,rfl,hH,hl,q1,q2⟩:=h;cases rx;obtain⟨u1,u2,rfl,r1,r2⟩:=rv.two;obtain⟨zz,hd,ws,rel,dd⟩:=xB I.bQ hH;refine kG gS dd.typeIs rZ (rO _ _ _) (kt_meets_setdefault 725 a (qd r1) hd u2) {ws,dd,(by rw[<-rel.length];exact zz),λv hv=>?_,λhn h' rE hs=>?_}
 ·have:=rel.val k;rw[hv]at this;cases e:iG kvs k with
  |none=>rw[e]at this;exact this.elim
  |some y=>
   rw[e]at this;exact{y,H,686,this,q1 y e}
 ·have:=rel.val k;rw[hn]at this;cases e:iG kvs k with
  |some y=>rw[e]at this;exact this.elim
  |none=>
   exact{z,_,sV I (hH▸True.intro) hs (let⟨o,_,_,ho,_⟩:=rE;⟨o,ho⟩) (wc (by have:=tH kvs k z;lia) hd (rel.put k r2) rE),r2,q2 e}
variable{K:Frag}
def LO{tg l:Expr}{tl:TE}(hl:PE X l tl)(h:X.K=K:=by rfl):PI X tg l (ZD K tl):=h▸dI hl
def G0(hc:X.calm=true)(h:X.K=K:=by rfl):gZ X (.builtin "any") (λxs H Q=>∃(a:Addr)(bs:List Bool),xs=[.ref a]/\bf K H a (bs.map V.bl)/\Q (.bl (bs.any id)) H):=h▸zw hc
end
end L2
namespace L2
open PySem PySem.Spec PyProof.Rows
theorem CF(n:Nat):∀(b:List (Str×NameKind))(acc:List (Str×Addr)),(∀y∈b,y.2≠ .cell)->cellsFrom n b acc=acc
 |[],_,_=>rfl
 |(y,k)::r,acc,h=>by
  have hk:(k==NameKind.cell)=false:=by simpa using h (y,k) aF
  unfold cellsFrom;rw[hk];exact CF n r acc λz hz=>h z (aG _ hz)
theorem BX(hp:Heap):∀(b:List (Str×NameKind)),(∀y∈b,y.2≠ .cell)->pushCells hp b=hp
 |[],_=>rfl
 |(y,k)::r,h=>by
  have hk:(k==NameKind.cell)=false:=by simpa using h (y,k) aF
  unfold pushCells;rw[hk];exact BX hp r λz hz=>h z (aG _ hz)
theorem Bc(n:Nat)(x:Str)(b:List (Str×NameKind))(acc:List (Str×Addr))(hb:∀y∈b,y.2≠ .cell):∀(a:List (Str×NameKind)),(∀y∈a,y.2≠ .cell)->cellsFrom n (a++(x,.cell)::b) acc=(x,n)::acc
 |[],_=>by show(if(NameKind.cell==NameKind.cell)=true then cellsFrom (n+1) b ((x,n)::acc)else cellsFrom n b acc)=_;exact CF _ b _ hb
 |(y,k)::r,h=>by
  have hk:(k==NameKind.cell)=false:=by simpa using h (y,k) aF
  show(if(k==NameKind.cell)=true then cellsFrom (n+1) (r++(x,.cell)::b) ((y,n)::acc)else cellsFrom n (r++(x,.cell)::b) acc)=_;rw[hk];exact Bc n x b acc hb r λz hz=>h z (aG _ hz)
theorem A3(hp:Heap)(x:Str)(b:List (Str×NameKind))(hb:∀y∈b,y.2≠ .cell):∀(a:List (Str×NameKind)),(∀y∈a,y.2≠ .cell)->pushCells hp (a++(x,.cell)::b)=hp.push {cls:=.type "cell",data:=.cell none}
 |[],_=>by show(if(NameKind.cell==NameKind.cell)=true then pushCells (hp.push {cls:=.type "cell",data:=.cell none}) b else pushCells hp b)=_;exact BX _ b hb
 |(y,k)::r,h=>by
  have hk:(k==NameKind.cell)=false:=by simpa using h (y,k) aF
  show(if(k==NameKind.cell)=true then pushCells (hp.push {cls:=.type "cell",data:=.cell none}) (r++(x,.cell)::b)else pushCells hp (r++(x,.cell)::b))=_;rw[hk];exact A3 hp x b hb r λz hz=>h z (aG _ hz)
section
variable{M:Model}{A:Around}{E:Aac}{s:Shared}
def uq{scope:Scope}{globals:Addr}{cl:List (Str×Addr)}{qual:Str}{outer:Env}{x:Str}{Q:Env->Shared->Prop}
  (hx:∃a b,scope.names=a++(x,.cell)::b/\(∀y∈a,y.2≠ .cell)/\∀y∈b,y.2≠ .cell)
  (hQ:∀h',h'.Ns s.heap.objs.size (λ_=>none)->h'.IsCell 649 none->(∀b o,s.heap.get? b=some o->h'.get? b=some o)->
   Q (newEnv scope s.heap.objs.size globals ((x,s.heap.objs.size+1)::cl) qual none .none (some outer) builtinsNs) {s with heap:=h',toks:=s.toks}):
  wpAny M A (newFunctionEnv scope globals cl [] qual none .none (some outer)) Q E s:=by
 obtain⟨a,b,e,ha,hb⟩:=hx;simp only[newFunctionEnv,CY,o8];refine ah (wpAny_alloc ?_);refine ah (wpAny_layCells _ (λname kind cells=>by cases hkc:kind==NameKind.cell<;>simp[hkc]) _ _ _ _ ?_);rw[e,Bc _ x b _ hb a ha,A3 _ x b hb a ha,List.forIn_nil];refine ah (aq 666);rw[show({s with heap:=s.heap.push {cls:=.type "dict",data:=.dict #[]}}:Shared).heap.objs.size=s.heap.objs.size+1 from dk ..];refine hQ _ ((Heap.Ns.new s.heap (.type "dict")).keeps λb o e=>ao _ e) {_,by rw[<-dk s.heap {cls:=.type "dict",data:=.dict #[]}];exact aU _ rfl,9} λb o e=>ao _ (ao _ e)
structure qN(X:Cx)(scope:Scope)(x:Str)(fs:Aaf)(fr:List Nat):Prop where
 kind:scope.kind=.function
 loc:scope.names.lookup x=some .cell
 names:∀y∈scope.names,y.2=.local->scope.names.lookup y.1=some .local
 one:∃a b,scope.names=a++(x,.cell)::b/\(∀y∈a,y.2≠ .cell)/\∀y∈b,y.2≠ .cell
 free:∀n∈frees scope,X.env.kindOf n=some .cell/\scope.names.lookup n=some .free
 nd:(x::fs).Nodup
 len:fr.length=fs.length
 slots:∀(j:Nat)(y:Str)(k:Nat),fs[j]?=some y->fr[j]?=some k->X.N[k]?=some y/\y∈frees scope
def qN.only{X:Cx}{scope:Scope}{x:Str}{fs:Aaf}{fr:List Nat}(S:qN X scope x fs fr)(y:Str)(h:(y,NameKind.cell)∈scope.names):y=x:=by
 obtain⟨a,b,e,ha,hb⟩:=S.one;rw[e]at h;rcases aV.mp h with h|h
 ·exact absurd rfl (ha _ h)
 ·rcases aN.mp h with h|h
  ·exact cR Prod.fst h
  ·exact absurd rfl (hb _ h)
def LC{env:Env}{scope:Scope}{x:Str}(h:scope.names.lookup x=some .cell):(relabel scope env).names.lookup x=some .cell:=by rw[lY,h];rfl
end
abbrev j3(X:Cx)(N':Aaf)(scope:Scope)(x:Str)(C:Addr)(s:Shared)(H:Hp)(ex:Aah):Cx:=
 {X with N:=N',aac:=s,aae:=H,env:=compEnvC scope ((x,C+1)::mO scope X.env) C X.env,outer:=X.stack,stack:=X.stack,ex:=ex,fn:=λy=>y==x,pn:=[],xe:=λ_ _=>False}
section
variable{X:Cx}
def X7{pins:Aaa}{Z:St}{H:Hp}{s:Shared}{scope:Scope}{x:Str}{fs:Aaf}{fr:List Nat}{D:Addr}{fp:Aah}{s2:Shared}(S:qN X scope x fs fr)(I2:Inv X pins Z H s2)(I3:Inv X pins Z H s)
  (hD:D=s2.heap.objs.size) (hs:s.heap.objs.size=D+1) (bO:∀b∈fp,b<D) (f2:∀b∈fp,oI X pins H b):(j3 X (x::fs) scope x s.heap.objs.size s H (D::fp)).Ok:=by
 have lZ:=λn hn=>I3.ok.has n (.inl (S.free n hn).1);have sub:∀{y:Str}{c:Addr},(mO scope X.env).lookup y=some c->X.env.cells.lookup y=some c:=λh=>((jr lZ).mp h).2;have low:∀{y:Str}{c:Addr},(mO scope X.env).lookup y=some c->c<s.heap.objs.size:=λh=>by obtain⟨v,q⟩:=I3.cell _ _ (sub h);exact q.lt
 have two:∀{y:Str}{c:Addr},((x,s.heap.objs.size+1)::mO scope X.env).lookup y=some c->(y=x/\c=s.heap.objs.size+1)\/(mO scope X.env).lookup y=some c:=λ{y c} h=>by
  rw[jo]at h;cases e:(y==x)with
  |true=>rw[e]at h;exact .inl {dW e,(bR h).symm}
  |false=>rw[e]at h;exact .inr h
 refine{I3.ok.mod,S.kind,I3.ok.glob,I3.ok.blt,aw _,λa b c h1 h2=>?_,λy hy=>?_,(λy c h hl=>?_),I3.ok.hd,I3.ok.frames,.inl rfl,694,I3.bs,bu I3.ok.Be I3.sz,λb o e hb=>?_,λb hb hf=>?_,I3.stack,I3.Hm}
 ·rcases two h1 with⟨e1,e2⟩|Z4
  ·rcases two h2 with⟨e3,_⟩|Nj
   ·rw[e1,e3]
   ·exact absurd (low Nj) (by rw[e2];exact rP.mpr (fG _))
  ·rcases two h2 with⟨_,e2⟩|Nj
   ·exact absurd (low Z4) (by rw[e2];exact rP.mpr (fG _))
   ·exact I3.ok.inj a b c (sub Z4) (sub Nj)
 ·by_cases UC:y=x
  ·subst UC;exact{_,List.lookup_cons_self}
  have q:(relabel scope X.env).names.lookup y=some .cell\/(relabel scope X.env).names.lookup y=some .free:=hy;have nf:scope.names.lookup y=some .free:=by
   rw[lY]at q;cases e:scope.names.lookup y with
   |none=>rw[e]at q;simp at q
   |some k=>
    rw[e]at q;cases k with
    |free=>rfl
    |cell=>
     have hm:(y,NameKind.cell)∈scope.names:=by have:=kU.mp e;obtain⟨l1,l2,z,_⟩:=this;rw[z];simp
     exact absurd (S.only y hm) UC
    |_=>simp at q
  have hm:y∈frees scope:=by obtain⟨l1,l2,z,_⟩:=kU.mp nf;unfold frees;rw[z];simp
  obtain⟨c,hc⟩:=lZ y hm;refine{c,?_};show((x,s.heap.objs.size+1)::mO scope X.env).lookup y=some c;rw[jo,cZ.mpr UC];exact(jr lZ).mpr ⟨hm,hc⟩
 ·have e:=dW h;subst e;rcases two hl with⟨_,e2⟩|Z4
  ·rw[e2];exact fG _
  ·exact absurd (S.loc.symm.trans (S.free y ((jr lZ).mp Z4).1).2) 59
 ·rcases aN.mp hb with rfl|hb
  ·refine{λz=>?_,λy c h z=>?_}
   ·exact absurd (hs.symm.trans z.symm:b+1=b) (qr b)
   ·rcases two h with⟨_,e2⟩|h
    ·rw[e2,hs]at z;exact absurd (z:b+1+1=b) (cu (bw (eF _) (fG _)))
    ·obtain⟨v,q⟩:=I2.cell y c (sub h);have:=q.lt;rw[z,hD]at this;exact absurd this (da _)
  ·refine{λz=>?_,λy c h=>?_}
   ·have q:=eU (bO b hb);rw[z]at q;exact absurd q (by show ¬s.heap.objs.size<D+1;rw[hs];exact da _)
   ·rcases two h with⟨_,e2⟩|h
    ·intro z;have q:=bO b hb;rw[e2,hs]at z;rw[<-z]at q;exact absurd (show D+1+1<D from q) (rP.mpr (bu (fG _) (fG _)))
    ·exact(f2 b hb).2.2.2.2.1 y c (sub h)
 ·have jf:=aY e;have h1:=I2.ok.Be;rcases aN.mp hb with rfl|hb
  ·rw[hD]at jf;exact absurd (bw jf (bu h1 I2.sz)) (da _)
  ·rcases(f2 b hb).2.2.2.1 with z|z
   ·exact I2.ok.E5 b o e z
   ·exact absurd (bw jf (bu h1 z)) (da _)
 ·have hf':=hf;rcases aN.mp (I2.FR b hf')with z|z
  ·rcases aN.mp hb with rfl|hb
   ·have:=I2.lt;rw[<-z,hD]at this;exact absurd this (da _)
   ·exact(f2 b hb).2.1 z
  ·rcases aN.mp hb with rfl|hb
   ·exact I2.W5 (rQ hD.symm) z
   ·exact(f2 b hb).2.2.1 z
def VG{pins:Aaa}{Z:St}{H:Hp}{s:Shared}{scope:Scope}{x:Str}{fs:Aaf}{fr:List Nat}{ex:Aah}{h4:Heap}{m:Aab}{t:Nat}(S:qN X scope x fs fr)(I3:Inv X pins Z H s)
  (ok:(j3 X (x::fs) scope x s.heap.objs.size s H ex).Ok) (hn:h4.Ns s.heap.objs.size m) (ZU:h4.IsCell 649 none) (old:∀b o,s.heap.get? b=some o->h4.get? b=some o):
  Inv (j3 X (x::fs) scope x s.heap.objs.size s H ex) [] (none::slotsOf fr Z) H {s with heap:=h4,toks:=t}:=by
 have lZ:=λn hn=>I3.ok.has n (.inl (S.free n hn).1);have sub:∀{y:Str}{c:Addr},(mO scope X.env).lookup y=some c->X.env.cells.lookup y=some c:=λh=>((jr lZ).mp h).2;have two:∀{y:Str}{c:Addr},((x,s.heap.objs.size+1)::mO scope X.env).lookup y=some c->(y=x/\c=s.heap.objs.size+1)\/(mO scope X.env).lookup y=some c:=λ{y c} h=>by
  rw[jo]at h;cases e:(y==x)with
  |true=>rw[e]at h;exact .inl {dW e,(bR h).symm}
  |false=>rw[e]at h;exact .inr h
 refine{ok,9,I3.bare,Un.kept old,{m,hn,λi y v e1 e2 e3=>?_},λy c h=>?_,I3.bQ.fresh (aw _),λy c h=>?_,λp hp=>absurd hp 59,I3.bQ.kept old,?_}
 ·cases i with
  |zero=>
   have ud:(none:Aan)=some v:=by simpa using e2
   cases ud
  |succ j=>
   have ud:(slotsOf fr Z)[j]?=some (some v):=by simpa using e2
   unfold slotsOf at ud;rw[aW]at ud;cases hk:fr[j]? with
   |none=>rw[hk]at ud;cases ud
   |some k=>
    rw[hk]at ud;have e4:(Z[k]?).getD none=some v:=by simpa using ud
    have e5:Z[k]?=some (some v):=by
     cases q:Z[k]? with
     |none=>rw[q]at e4;cases e4
     |some z=>rw[q]at e4;exact cR some e4
    obtain⟨n1,n2⟩:=S.slots j y k 730 hk;obtain⟨m0,_,hl⟩:=I3.loc;obtain⟨u,ru,l⟩:=hl k y v n1 e5 (.inr (.inl (S.free y n2).1));have kc:=(S.free y n2).1;rcases l with⟨l,_⟩|⟨_,c,hc,cl⟩
    ·rw[kc]at l;cases l
    ·refine{u,ru,.inr {.inl ?_,c,?_,tI old cl}};rotate_left
     ·have UC:y≠x:=λz=>absurd (S.loc.symm.trans (z▸(S.free y n2).2)) 59;show((x,s.heap.objs.size+1)::mO scope X.env).lookup y=some c;rw[jo,cZ.mpr UC];exact(jr lZ).mpr ⟨n2,hc⟩
     show(relabel scope X.env).names.lookup y=some .cell;rw[lY,(S.free y n2).2,I3.ok.kind,kc];rfl
 ·rcases two h with⟨_,e2⟩|h
  ·rw[e2];exact⟨none,ZU⟩
  ·obtain⟨v,z⟩:=I3.cell y c (sub h);exact{v,tI old z}
 ·rcases two h with⟨_,e2⟩|h
  ·rw[e2];exact I3.bQ.fresh (fG _)
  ·exact I3.nE y c (sub h)
 ·show(none::slotsOf fr Z).length=(x::fs).length;simp[slotsOf,S.len]
def Ji{elt iter:Expr}{x:Str}{px:Pos}{ifs:List Expr}{scope:Scope}{pos:Pos}{wi:TI}{fs:Aaf}{fr:List Nat}{tt:TT}{te:TE}(hc:X.calm=true)(S:qN X scope x fs fr)(hi:PI X 675 iter wi)
  (ht:∀C s H ex,CT (j3 X (x::fs) scope x C s H ex) ifs tt) (he:∀C s H ex,PE (j3 X (x::fs) scope x C s H ex) elt te) (hs:∀z,foldedSetIterable iter X.env z=pure z:=by intro _;rfl):
  PE X (.ListComp elt [{675,iter,ifs,0}] scope pos) (qS wi fr tt te):=by
 intro pins s Z H Q I h;refine vt (use:=none) rfl hs (xC λn hn=>I.ok.has n (.inl (S.free n hn).1)) S.kind S.names ?_;refine gB (hi pins s Z H _ I h) λv s1 h1=>gB h1 λZA s2 h2=>?_;obtain⟨it,fp,tn,J,H2,e,I2,T,By,f2,W,⟨m0,w0⟩,turn⟩:=h2;subst e;have bO:∀b∈fp,b<s2.heap.objs.size:=λb hb=>by obtain⟨o,e,_⟩:=T.obj 0 _ By b hb;exact aY e
 refine cP (uq S.one (λh4 Ie ZU B2=>?_));generalize Nb:s2.heap.push {cls:=.type "list",dict:=none,data:=.seq ([]:Aae).toArray}=g3 at Ie ZU B2⊢;have hC:g3.objs.size=s2.heap.objs.size+1:=by rw[<-Nb,dk]
 have Aa:∀b o,s2.heap.get? b=some o->g3.get? b=some o:=λb o e=>Nb▸ao _ e;have I3:=I2.kept (t':=s2.toks) Aa;have Yj:=Nb▸aU _ rfl;have ok:=X7 (fp:=fp) S I2 I3 rfl hC bO f2;have I4:=VG (t:=s2.toks) S I3 ok Ie ZU B2;have EB:=ok.Nv s2.heap.objs.size aF;have Vu:=ok.Al s2.heap.objs.size aF;have Fd:∀{H':Hp}{vs:Aae}{k:Nat},(∀b∈fp,H' b=none)->∀b∈fp,oI 382 [(s2.heap.objs.size,lobj vs k)] H' b:=λ{H' vs k} hn b hb=>by
  have q:=ok.Nv b (aG _ hb);refine{hn b hb,q.1,ok.Al b (aG _ hb),.inl (aG _ hb),q.2,695};have e:p=(s2.heap.objs.size,lobj vs k):=by simpa using hp
  rw[e];exact cu (bO b hb)
 have start:Inv 382 [(s2.heap.objs.size,lobj [] 0)] (none::slotsOf fr Z) H2 {s2 with heap:=h4,toks:=s2.toks}:=
  I4.qC λp hp=>by
   have e:p=(s2.heap.objs.size,lobj [] 0):=by simpa using hp
   subst e;exact{B2 _ _ Yj,I2.bQ.fresh (aw _),EB.1,Vu,λv z=>by cases z}
 have Sv:tn 0 h4:=T.keep 0 _ _ By λb _ o e=>B2 b o (Aa b o e);have fin:∀{i:Nat}{σ0:Aan}{H':Hp}{ys:Aam}{vs:Aae}{k:Nat}{s':Shared},Inv 382 [(s2.heap.objs.size,lobj vs k)] (σ0::slotsOf fr Z) H' s'->Vals ys vs->ys.length<=sizeLine->
   (∀l,H' l=none->Q 720 (upd H' l 679))->∃m,s'.heap.Ns g3.objs.size m/\∀h',Heap.SameBut g3.objs.size s'.heap h'->EP X pins Z Q (.ref s2.heap.objs.size) {s' with heap:=h'}:=by
  intro i σ0 H' ys vs k s' J1 rv hz q;obtain⟨m,hn,_⟩:=id J1.loc;refine{m,hn,λh' sb=>?_};have below:∀y c,X.env.cells.lookup y=some c->c<s2.heap.objs.size:=λy c z=>by obtain⟨v,q⟩:=I2.cell y c z;exact q.lt
  have mX:=λp hp=>aY (I2.pin p hp).1;have I5:=I3.aah J1.os J1.base J1.bQ J1.bare λb hb=>by
   rcases aN.mp hb with e|hb
   ·rw[e];exact{.inr I2.sz,cu I2.lt,λy c z=>aX (below y c z),λp hp=>aX (mX p hp)}
   ·exact{(f2 b hb).2.2.2.1,(f2 b hb).2.1,(f2 b hb).2.2.2.2.1,(f2 b hb).2.2.2.2.2}
  have qA:s2.heap.objs.size<g3.objs.size:=by lia
  have I6:=I5.turned (t':=s'.toks) (λb o hb e=>sb.extBut b o hb e) J1.free (cu (dP I2.lt qA)) (.inr (bB (fW I2.sz qA)))
   (λy c z=>aX (dP (below y c z) qA)) (λp hp=>aX (dP (mX p hp) qA))
  obtain⟨eD,nD,_⟩:=J1.pin (s2.heap.objs.size,lobj vs k) 59;exact{.ref s2.heap.objs.size,_,I6.adopt nD (sb.extBut _ _ EB.1 eD) rv hz I2.sz (cu I2.lt) (λy c z=>aX (below y c z)) (λp hp=>aX (mX p hp)),9,q _ nD}
 have loop:∀s4:Shared,s4={s2 with heap:=h4,toks:=s2.toks}->
   codeAny 56 X.A (.compLoop (.ListComp elt [{675,iter,ifs,0}] scope pos) 0 (.ref it) (.ref s2.heap.objs.size) (compEnvC scope ((x,g3.objs.size+1)::mO scope X.env) g3.objs.size X.env))
    (compPost 56 X.A X.xe none 709 (.ref s2.heap.objs.size) g3.objs.size) s4:=by
  rintro s4 rfl;refine codeAny_compLoop_tests (λn s'=>∃i σ0 H' ys vs k,Inv 382 [(s2.heap.objs.size,lobj vs k)] (σ0::slotsOf fr Z) H' s'/\tn i s'.heap/\(∀b∈fp,H' b=none)/\Vals ys vs/\W i n ys H') ?_ m0
   {0,none,H2,[],[],0,start,Sv,λb hb=>(f2 b hb).1,.nil,w0}
  rintro n s' ⟨i,σ0,H',ys,vs,k,J1,st,Vh,rv,w1⟩;rcases turn i n ys H' w1 with⟨stop,hz,q⟩|⟨go,hz,step⟩
  ·refine gB (T.done 382 9 9 9 hc i _ s' _ H' _ J1 (Fd Vh) st stop) λr s5 agf=>?_;obtain⟨hr,J2⟩:=agf;subst hr;exact fin (i:=i) J2 rv hz q
  ·refine gB (T.item 382 9 9 9 hc i _ s' _ H' _ J1 (Fd Vh) st go) λr s5 age=>?_;obtain⟨u,hr,h5⟩:=age;subst hr;change wpAny _ _ (letOwnedTupleGo 675 (.ref it) u>>=λ_=>assign 675 (compEnvC scope ((x,g3.objs.size+1)::mO scope X.env) g3.objs.size X.env) u) _ _ s5;refine ah (gB h5 λ_ s6 agd=>?_);obtain⟨v,H6,J6,r6,y6,Le,fr6⟩:=agd;refine dC (qD (i:=0) S.nd 9 (.inr (LC (env:=X.env) S.loc)) (.inl (wj x)) _ s6 _ H6 v u (λσ' H'=>σ'=some v::slotsOf fr Z/\H'=H6) (J6.pinned (fp:=fp) (Fd fr6) (T.obj _ _ Le)) r6 ⟨rfl,rfl⟩) (λ_ s7 agc=>?_) (λ_ _ z=>z.elim);obtain⟨σ7,H7,J7,e7,e7'⟩:=agc;subst e7 e7';have Tp:∀{σ8:St}{H8:Hp}{s8:Shared},Inv 382 ([(s2.heap.objs.size,lobj vs k)]++yS fp s6.heap) σ8 H8 s8->
     tn (i+1) s8.heap/\∀b∈fp,H8 b=none:=λ{σ8 H8 s8} J8=>by
    refine{T.keep _ _ _ Le λb hb o e=>(J8.pin (b,o) (bh _ (bh _ (oW hb e)))).1,694};obtain⟨o,e,d⟩:=T.obj _ _ Le b hb;exact(J8.pin (b,o) (bh _ (bh _ (oW hb e)))).2.1
   refine dC (ht _ _ _ _ _ s7 _ H7 _ J7 (step v H7 y6)) (λok8 s8 agb=>?_) (λ_ _ z=>z.elim);obtain⟨H8,J8,q8⟩:=agb;cases ok8 with
   |false=>
    obtain⟨m',hm,w8⟩:=q8;obtain⟨t8,n8⟩:=Tp J8;exact{m',hm,i+1,some v,H8,ys,vs,k,J8.vw,t8,n8,rv,w8}
   |true=>
    refine dC (he _ _ _ _ _ s8 _ H8 _ J8 q8) (λy s9 aga=>?_) (λ_ _ z=>z.elim);obtain⟨yv,H9,J9,r9,m',hm,w9⟩:=aga;obtain⟨t9,n9⟩:=Tp J9;obtain⟨eD,nD,_⟩:=J9.pin (s2.heap.objs.size,lobj vs k) 59;have hl:=rv.length;refine lB ui ⟨_,eD,rfl⟩ sr (rW _ _) (uW s2.heap.objs.size vs.toArray k y (by rw[aR];lia)) {eD,?_};have eN:=wz (h:=s9.heap) (n:=k) eD (·.push y);have eV:vs.toArray.push y=(vs++[y]).toArray:=by simp
    rw[eV]at eN;obtain⟨k',eN⟩:∃k',(s9.heap.update s2.heap.objs.size (Obj.mapSeq (·.push y))).get? s2.heap.objs.size=some (lobj (vs++[y]) k'):=⟨_,eN⟩;have K10:Inv 382 [] (some v::slotsOf fr Z) H9 {s9 with heap:=s9.heap.update s2.heap.objs.size (Obj.mapSeq (·.push y))}:=
     (J9.qC λp hp=>absurd hp 59).turned (t':=s9.toks) (λb o hb e=>(cx s9.heap (Obj.mapSeq (·.push y)) (cM hb)).trans e) nD EB.1 (.inl aF) EB.2 (λp hp=>absurd hp 59)
    refine{m',hm,i+1,some v,H9,ys++[yv],vs++[y],k',K10.qC λp hp=>?_,T.keep _ _ _ t9 λb hb o e=>(cx s9.heap (Obj.mapSeq (·.push y)) (cu (bO b hb))).trans e,n9,rv.append (.cons r9 .nil),w9};rw[(aC.mp hp)];exact{eN,nD,EB.1,Vu,λv z=>by cases z}
 exact yk (loop _ 9) (T.self X.A 0 _ _ _ Sv (loop _ 9))
def WN{elt iter:Expr}{x:Str}{px:Pos}{scope:Scope}{pos:Pos}{wi:TI}{fs:Aaf}{fr:List Nat}{te:TE}(hc:X.calm=true)(S:qN X scope x fs fr)(hi:PI X 675 iter wi)
  (he:∀C s H ex,PE (j3 X (x::fs) scope x C s H ex) elt te) (hs:∀z,foldedSetIterable iter X.env z=pure z:=by intro _;rfl):
  PE X (.ListComp elt [{675,iter,[],0}] scope pos) (qS wi fr Dj te):=Ji hc S hi (λ_ _ _ _=>GU) he hs
def QM{elt iter c:Expr}{x:Str}{px:Pos}{scope:Scope}{pos:Pos}{wi:TI}{fs:Aaf}{fr:List Nat}{tc:TT}{te:TE}(hc:X.calm=true)(S:qN X scope x fs fr)(hi:PI X 675 iter wi)
  (ht:∀C s H ex,PT (j3 X (x::fs) scope x C s H ex) c tc) (he:∀C s H ex,PE (j3 X (x::fs) scope x C s H ex) elt te) (hs:∀z,foldedSetIterable iter X.env z=pure z:=by intro _;rfl):
  PE X (.ListComp elt [{675,iter,[c],0}] scope pos) (qS wi fr tc te):=Ji hc S hi (λC s H ex=>GS (ht C s H ex)) he hs
def VE(osc:Scope)(N:Aaf)(scope:Scope)(x:Str)(fs:Aaf)(fr:List Nat):Bool:=
 scope.kind==.function&&scope.names.lookup x==some .cell&&scope.names.all (λy=>y.2 !=.local||scope.names.lookup y.1==some .local)&&(scope.names.filter λy=>y.2==.cell)==[(x,.cell)]&&
  (frees scope).all (λn=>osc.names.lookup n==some .cell&&scope.names.lookup n==some .free)&&decide ((x::fs).Nodup)&&fr.length==fs.length&&
  (List.range fs.length).all (λj=>match fs[j]?,fr[j]? with|some y,some k=>N[k]?==some y&&decide (y∈frees scope)|_,_=>false)
theorem L7{x:Str}:∀{l:List (Str×NameKind)},(l.filter λy=>y.2==.cell)=[(x,.cell)]->∃a b,l=a++(x,.cell)::b/\(∀y∈a,y.2≠ .cell)/\∀y∈b,y.2≠ .cell
 |[],h=>by cases h
 |(y,k)::r,h=>by
  rw[cS]at h;cases hk:(k==NameKind.cell)with
  |true=>
   simp only[hk,o8]at h;obtain⟨h1,h2⟩:=List.cons.inj h;refine{[],r,by rw[<-h1];rfl,59,λz hz e=>?_};have:z∈r.filter λy=>y.2==.cell:=cX.mpr {hz,by rw[e];rfl};rw[h2]at this;cases this
  |false=>
   simp only[hk,gP,kB]at h;obtain⟨a,b,e,ha,hb⟩:=L7 h;refine{(y,k)::a,b,by rw[e];rfl,λz hz=>?_,hb};rcases aN.mp hz with rfl|hz
   ·exactλe=>by rw[show k=.cell from e]at hk;cases hk
   ·exact ha z hz
def GV{scope:Scope}{x:Str}{fs:Aaf}{fr:List Nat}(h:VE X.env.scope X.N scope x fs fr=true:=by kernel_rfl):qN X scope x fs fr:=by
 unfold VE at h;simp only[bP]at h;obtain⟨⟨⟨⟨⟨⟨⟨h1,h2⟩,h3⟩,h4⟩,h5⟩,h6⟩,h7⟩,h8⟩:=h;refine{dW h1,dW h2,λy hy e=>?_,L7 (dW h4),λn hn=>?_,aT h6,dW h7,λj y k e1 e2=>?_}
 ·have:=bN.mp h3 y hy;rw[e]at this;simpa using this
 ·have:=bN.mp h5 n hn;rw[bP]at this;exact{dW this.1,dW this.2}
 ·have:=bN.mp h8 j (cE.mpr (au.mp e1).1);rw[e1,e2]at this;simp only[bP]at this;exact{dW this.1,aT this.2}
end
end L2
namespace L2
open PySem PySem.Spec PyProof.Rows uV
section
variable{prog:Program}{w:World}{κ:Type}[DecidableEq κ]{kd:HeapKind prog w κ}{A:Around}{E:Aac}{s:Shared}
def FZ(hu:kd.room A)(yh:kd.is s.heap k a)(hm:s.heap.DictOfH kd d xs)
  (h1:∀p,atKey xs k=some p->Q p.2 {s with toks:=s.toks+kd.draws k})
  (h2:atKey xs k=none->∀h',h'.DictOfH kd d (storedH xs k a v)->Heap.SameBut d s.heap h'->Q v {s with heap:=h',toks:=s.toks+kd.draws k}) (hsz:xs.length<=sizeLine):
  wpAny 58 A (dictSetDefault d 659 v) Q E s:=by
 obtain⟨o,es,ep,ho,hc,hd,he,his,hn⟩:=hm;unfold dictSetDefault
 try with_reducible refine cn ?_
 have lz:=size_of_entries he;refine ah (kd.pyHash hu yh (ah (wpAny_dictFind_heap hu yh ho hd he his hn (λzf=>?_) (λj p hj=>?_))))
 ·have nk:=not_mem_keys_of_get zf;have e0:=atKey_none_of_get zf;have e1:=storedH_new e0;refine ah (j8 (ah (wpAny_updateDictKeys ho hd (aq (h2 e0 _ {_,_,ep+1,eR _ ho (Obj.isFreed_of_dict (AG hd _)),hc.mapDictKeys _,AG hd _,?_,?_,?_} (cH ..))))))
  ·rw[e1,aH,<-he];simp[entryOfKey]
  ·rw[e1];intro x hx;rcases aV.mp hx with q|q
   ·exact kd.keeps (his x q) ho hd (cH ..)
   ·rw[aC.mp q];exact kd.keeps yh ho hd (cH ..)
  ·rw[e1,aH];refine fP.mpr {hn,59,λx hx y hy e=>?_};have UD:y=k:=by simpa using hy
   exact nk (by rw[<-UD,<-e];exact hx)
 ·refine ah (lS ho hd ?_);rw[PySem.entry_at he j,hj];exact ah (j8 (aq (h1 p (atKey_of_get hn hj))))
def DO(kd:HeapKind prog w κ)(d a:Addr)(hd:(d==sysModules)=false)(z:Value):
  MeetsIn prog w (Builtin.«dict.setdefault» {[.ref d,.ref a,z],[]}) (λA R s=>kd.room A.in1/\∃k xs,kd.is s.heap k a/\s.heap.DictOfH kd d xs/\xs.length<=sizeLine/\
   (∀p,atKey xs k=some p->R (.ok (.ret p.2)) {s with toks:=s.toks+kd.draws k})/\
   (atKey xs k=none->∀h',h'.DictOfH kd d (storedH xs k a z)->Heap.SameBut d s.heap h'->R (.ok (.ret z)) {s with heap:=h',toks:=s.toks+kd.draws k})):=
 .of_wp λA R s ⟨hu,k,xs,yh,hm,hz,h1,h2⟩=>by refine ah ?_;refine ah (jH hm.typeIs ?_);refine aq ?_;show wpAny _ _ (if(d==sysModules)=true then _ else(dictSetDefault d 659 z>>=_)) _ _ s;rw[aI (hd▸bL)];exact ah (FZ hu yh hm (λp hp=>aq {_,9,h1 p hp}) (λhn h' m' b'=>aq {z,9,h2 hn h' m' b'}) hz)
def abq(hd:(d==sysModules)=false)(ho:s.heap.get? d=some o)(hx:o.ExactDict)(ag4:o.data=.dict es ep)(ahK:(es.size:Int)<2^63)
  (h:∀t t',Q (.int es.size t) {s with toks:=t'}):wpAny 58 A (call (.builtin "len") [.ref d]) Q E s:=by
 have ty:s.TypeIs 705 "dict":={o,ho,hx.1};refine ki kind_len plain_len entry_len (args_len1 _) ?_;refine ah 666;refine ah (wpAny_callSpecial?_slot ty F.slot_dict_len
  (b7 F.slot_dict_len ty F.entry_dict_len ?_ (F.args_dict_len_1 _)))
 show wpAny _ _ (dictSize d>>=_) _ _ s;refine ah (ah (lS ho ag4 666));refine ah (wpAny_pendingCount_other hd ?_);refine ah (wpAny_mkInt (aq {_,9,?_}));refine ah (cn 666);refine ah (D6 ?_);rw[aI ∅];rw[aI ∅];exact ah (wpAny_mkInt (aq {_,9,h _ _}))
end
section
variable{X:Cx}{pins:Aaa}{Z:St}{H:Hp}{s:Shared}{A:Around}{E:Aac}{a b:Addr}{kvs:List (NK×Addr×V)}{k:NK}{z:V}
def Vy(hu:A.units+101<cLine)(I:Inv X pins Z H s)(h:iC X.prog X.w X.K H a kvs)(hk:iI X.K H k b)(nA:kvs.length<10000000)(rv:RelV z r)
  (q1:∀v w' s',valN kvs k=some v->Inv X pins Z H s'->RelV v w'->Q w' s')
  (q2:valN kvs k=none->∀s',Inv X pins Z (upd H a (.ext (DN X.prog X.w a (putN kvs k b z)))) s'->Q r s'):wpAny 56 A (call (.builtin "dict.setdefault") [.ref a,.ref b,r]) Q E s:=by
 obtain⟨lo,xs,rel,hl,dd⟩:=I.An h;have lx:xs.length<=sizeLine:=by rw[<-rel.length,bX];lia
 have e:=Dx rel k;refine kG gS dd.typeIs rZ (rO _ _ _) (DO (qj X.prog X.w) a b lo r)
  {show A.units+1+100<cLine by lia,k,xs,I.MH hk,dd,lx,695,λhn h' rE hs=>?_}
 ·rw[hp]at e;cases ev:valN kvs k with
  |none=>rw[ev]at e;exact e.elim
  |some v=>rw[ev]at e;exact q1 v _ _ ev 686 e
 ·rw[hn]at e;cases ev:valN kvs k with
  |some v=>rw[ev]at e;exact e.elim
  |none=>
   obtain⟨o,es,ep,g,x2,x3,x4,_,x5⟩:=rE;have lp:=vO (kvs:=kvs) (k:=k) (b:=b) (v:=z);refine q2 ev _ (sV I ?_ hs ⟨o,g⟩ (Z8 {lo,_,LD rel rv,8,o,es,ep,g,x2,x3,x4,x5}));rcases h.1 with e|⟨_,e⟩<;>rw[e]<;>exact True.intro
def abT(hu:A.units+101<cLine)(I:Inv X pins Z H s)(h:iC X.prog X.w X.K H a kvs)(hk:iI X.K H k b)(rv:RelV z r)(q:∀w' s',Inv X pins Z H s'->RelV ((valN kvs k).getD z) w'->Q w' s'):
  wpAny 56 A (call (.builtin "dict.get") [.ref a,.ref b,r]) Q E s:=by
 obtain⟨lo,xs,rel,hl,dd⟩:=I.An h;exact kG fS dd.typeIs jt (pF _ _ _) (wO (qj X.prog X.w) a b lo r)
  {show A.units+1+100<cLine by lia,k,xs,I.MH hk,dd,q _ _ 686 ((Dx rel k).getD rv)}
def Pu(I:Inv X pins Z H s)(h:iC X.prog X.w X.K H a kvs):s.TypeIs 659 "dict"/\∀b,Value.ref a=.ref b->∃ob,s.heap.get? b=some ob/\ob.dict=none:=by obtain⟨lo,xs,rel,hl,dd⟩:=I.An h;refine{dd.typeIs,λb q=>?_};cases q;obtain⟨ob,_,_,h1,h2,_⟩:=dd;exact{ob,h1,h2.2.1}
def aeh(I:Inv X pins Z H s)(h:iC X.prog X.w X.K H a kvs)(q:∀t s',Inv X pins Z H s'->Q (.int kvs.length t) s'):wpAny 56 A (call (.builtin "len") [.ref a]) Q E s:=by
 obtain⟨lo,xs,rel,hl,o,es,ep,g,hx,hd,he,_⟩:=I.An h;have l1:es.size=kvs.length:=by rw[size_of_entries he,rel.length]
 refine abq lo g hx hd ∅ λt t'=>?_;rw[l1];exact q t _ 686
end
inductive Sr(P:Program)(w:World)(K:Frag)(ty:TE)(tz:TE)(Z:St)(Q:VK)(x:V)(H1:Hp):Prop
 |mk a MC (_:x=.ref a) (_:iC P w K H1 a MC) (_:ty Z H1 λy H2=>tz Z H2 λz H3=>∃b kvs k,y=.ref b/\iC P w K H3 a kvs/\iI K H3 k b/\kvs.length<10000000/\(∀v,valN kvs k=some v->Q v H3)/\(valN kvs k=none->Q z (upd H3 a (.ext (DN P w a (putN kvs k b z))))))
def V8(P:Program)(w:World)(K:Frag)(td ty tz:TE):TE:=λZ H Q=>td Z H λx H1=>Sr P w K ty tz Z Q x H1
inductive Wa(P:Program)(w:World)(K:Frag)(ty:TE)(tz:TE)(Z:St)(Q:VK)(x:V)(H1:Hp):Prop
 |mk a MC (_:x=.ref a) (_:iC P w K H1 a MC) (_:ty Z H1 λy H2=>tz Z H2 λz H3=>∃b kvs k,y=.ref b/\iC P w K H3 a kvs/\iI K H3 k b/\Q ((valN kvs k).getD z) H3)
def aaH(P:Program)(w:World)(K:Frag)(td ty tz:TE):TE:=λZ H Q=>td Z H λx H1=>Wa P w K ty tz Z Q x H1
section
variable{X:Cx}{o e f:Expr}{apos f9:Pos}{td ty tz:TE}
def F6(hu:X.A.units+101<cLine)(ho:PE X o td)(he:PE X e ty)(hf:PE X f tz)(m:M2 X o "setdefault" apos e f f9):PE X (.Call (.Attribute o "setdefault" apos) [e,f] [] f9) (V8 X.prog X.w X.K td ty tz):=by intro pins s Z H Q I h;refine pH m.base m.mC m.line eZ gS mf (dh 733 λu s1 x H1 I1 rx af9=>?_);obtain⟨a,MC,ex,d,q1⟩:=af9;subst ex;obtain rfl:u=Value.ref a:=rx;obtain⟨t1,t2⟩:=Pu I1 d;refine{t1,t2,?_};rw[m.trees];refine gq rfl (kh (fX (dh (he pins s1 Z H1 _ I1 q1) λiv s2 y H2 I2 ry q2=>fX (dh (hf pins s2 Z H2 _ I2 q2) λfv s3 z H3 I3 rz ⟨b,kvs,k,ey,g,hk,hl,k1,k2⟩=>j7 ?_))));subst ey;obtain rfl:iv=Value.ref b:=ry;exact Vy hu I3 g hk hl rz (λv w' s4 ev I4 r4=>{v,H3,I4,r4,k1 v ev}) λev s4 I4=>{z,_,I4,rz,k2 ev}
def Jg(hu:X.A.units+101<cLine)(ho:PE X o td)(he:PE X e ty)(hf:PE X f tz)(m:M2 X o "get" apos e f f9):PE X (.Call (.Attribute o "get" apos) [e,f] [] f9) (aaH X.prog X.w X.K td ty tz):=by intro pins s Z H Q I h;refine pH m.base m.mC m.line eZ fS qL (dh 733 λu s1 x H1 I1 rx af8=>?_);obtain⟨a,MC,ex,d,q1⟩:=af8;subst ex;obtain rfl:u=Value.ref a:=rx;obtain⟨t1,t2⟩:=Pu I1 d;refine{t1,t2,?_};rw[m.trees];refine gq rfl (kh (fX (dh (he pins s1 Z H1 _ I1 q1) λiv s2 y H2 I2 ry q2=>fX (dh (hf pins s2 Z H2 _ I2 q2) λfv s3 z H3 I3 rz ⟨b,kvs,k,ey,g,hk,k1⟩=>j7 ?_))));subst ey;obtain rfl:iv=Value.ref b:=ry;exact abT hu I3 g hk rz λw' s4 I4 r4=>⟨_,H3,I4,r4,k1⟩
def J3:gZ X (.builtin "len") (λxs H Q=>∃a kvs,xs=[V.ref a]/\iC X.prog X.w X.K H a kvs/\Q (.int kvs.length) H):=by intro pins s Z H xs us Q I r h;obtain⟨a,kvs,rfl,ha,q⟩:=h;obtain⟨u,rfl,ru⟩:=jI r;cases ru;exact aeh I ha λt s' I'=>{.int kvs.length,H,I',⟨t,rfl⟩,q}
inductive abz(P:Program)(w:World)(K:Frag)(R:It->Hp->Prop)(x:V)(H1:Hp):Prop
 |mk d u kvs (_:x=.ref d) (_:H1 d=some u) (_:iC P w K H1 d kvs) (_:∀o,R (Ql d o u (kvs.map λp=>(.ref p.2.1,p.2.2))) (upd H1 d (.fB o u)))
def adC(P:Program)(w:World)(K:Frag)(tl:TE):TI:=λZ H R=>tl Z H λx H1=>abz P w K R x H1
def WG(hl:PE X l tl):PI X tg l (adC X.prog X.w X.K tl):=by
 intro pins s Z H R I h;refine dh (hl pins s Z H _ I h) λv s1 x H1 I1 r1 q1=>?_;obtain⟨d,u,kvs,e,hd,hv,q⟩:=q1;subst e;cases r1;obtain⟨lo,xs,rel,_,o,es,ep,ga,hx,hdt,he,_⟩:=I1.An hv;have ents:∀{l:List 648}{xs:List (NK×Addr×Value)},Paired 644 l xs->Paired (λ(p:V×V)(e:DictEntry)=>RelV p.1 e.key/\RelV p.2 e.val) (l.map λp=>(V.ref p.2.1,p.2.2)) (xs.map (entryOfKey (qj X.prog X.w))):=λr=>by
  induction r with
  |nil=>exact .nil
  |@cons p q ps qs h _ ih=>exact .cons {by show Value.ref q.2.1=Value.ref p.2.1;rw[h.2.1],h.2.2} ih
 have m:Ym o es ep (kvs.map λp=>(V.ref p.2.1,p.2.2)):={hx,hdt,he▸ents rel};have I2:Inv X pins Z (upd H1 d (.fB o u)) s1:=by
  rcases hv.1 with e|⟨_,e⟩
  ·rw[hd]at e;cases e;exact I1.P2 hd ga
  ·rw[hd]at e;cases e;exact I1.freeze hd ga
 refine HC lo ga m.1 m.2.1 ?_;refine{s1.heap.objs.size,[s1.heap.objs.size],_,_,_,9,I2.kept λb o e=>ao _ e,KY m,{_,682,9,9},694,q o};have e:b=s1.heap.objs.size:=by simpa using hb
 subst e;exact I2.uD (aw _) (I2.bQ.fresh (aw _))
def lG(n:Nat)(k:NK):Prop:=(NK.toD k).canLay0=true/\(NK.toD k).depth<=n/\NK.deep k<=n
def Xz{n:Nat}:lG n .cz:={by simp[NK.toD,PyData.canLay0],by simp[NK.toD,PyData.depth],by simp[NK.deep]}
def Fc{n:Nat}(i:Int):lG n (.key (.inl i)):={by simp[NK.toD,PyData.canLay0],by simp[NK.toD,PyData.depth],by simp[NK.deep]}
def sR(h:PyData.strOk z=true):lG n (.key (.inr z)):={by simp[NK.toD,PyData.canLay0,h],by simp[NK.toD,PyData.depth],by simp[NK.deep]}
theorem Nl:∀{ks:List NK},(∀k∈ks,lG n k)->PyData.canLayAll0 (NK.nr ks)=true/\PyData.depthAll (NK.nr ks)<=n/\NK.pb ks<=n
 |[],_=>{by simp[NK.nr,PyData.canLayAll0],by simp[NK.nr,PyData.depthAll],by simp[NK.pb]}
 |k::ks,h=>by
  obtain⟨a1,a2,a3⟩:=h k aF;obtain⟨b1,b2,b3⟩:=Nl λk hk=>h k (aG _ hk);refine{by simp[NK.nr,PyData.canLayAll0,a1,b1],?_,?_}
  ·simp only[NK.nr,PyData.depthAll];lia
  ·simp only[NK.pb];lia
def ox(h:∀k∈ks,lG n k):lG (n+1) (.tup ks):=by obtain⟨b1,b2,b3⟩:=Nl h;refine{by simp only[NK.toD,PyData.canLay0];exact b1,by simp only[NK.toD,PyData.depth];lia,by simp only[NK.deep];lia}
def lG.good(h:lG n k)(hn:n<=07):Sa k:={h.1,bu h.2.1 hn,bu h.2.2 hn}
def iR(zs:Aaf):NK:=.tup (zs.map λz=>.key (.inr z))
def Pj(h:iR xs=iR ys):xs=ys:=by injection h with h;exact List.map_inj_right (λa b e=>by injection e with e;injection e)|>.mp h
def Nk(h:∀z∈zs,PyData.strOk z=true):lG 1 (iR zs):=ox λk hk=>by obtain⟨z,hz,rfl⟩:=aE.mp hk;exact sR (h z hz)
theorem Md{K:Frag}:∀zs:Aaf,rR K H (zs.map λz=>NK.key (.inr z)) 652
 |[]=>by rw[fw,rR];rfl
 |z::r=>by exact{_,_,9,by rw[NV];rfl,Md r}
def TK{K:Frag}(h:aZ K H a 652):NV K H (iR zs) 659:=by unfold iR;exact{a,_,9,h,Md zs}
def ME{K:Frag}(h:aZ K H a 652)(hz:∀z∈zs,PyData.strOk z=true):iI K H (iR zs) a:={TK h,(Nk hz).good 7}
def ada{K:Frag}(h:NV K H (iR zs) 659):aZ K H a 652:=by
 have all:∀{zs:Aaf}{xs:Aam},rR K H (zs.map λz=>NK.key (.inr z)) xs->xs=zs.map V.str:=by
  intro zs
  induction zs with
  |nil=>intro xs h;rw[fw,rR]at h;exact h
  |cons z r ih=>
   intro xs h;obtain⟨x,t,rfl,h1,h2⟩:=h;rw[h1,ih h2];rfl
 unfold iR at h;obtain⟨b,xs,e,hq,h⟩:=h;cases e;rw[<-all h];exact hq
def yV(z:Str)(n:Nat):NK:=.tup [.key (.inr z),.key (.inl n)]
def xq(z:Str)(n i:Nat)(t:Str):NK:=.tup [.key (.inr z),.key (.inl n),.key (.inl i),.key (.inr t)]
def MG{K:Frag}{H:Hp}{a:Addr}{z:Str}{n:Nat}(h:aZ K H a [.str z,.int n])(hz:PyData.strOk z=true):iI K H (yV z n) a:=by
 refine{?_,(ox (n:=0) λk hk=>?_).good 7}
 ·unfold yV;refine{a,_,9,h,?_};exact⟨_,_,rfl,rfl,_,_,rfl,rfl,rfl⟩
 ·simp only[aN,qu,E3]at hk;rcases hk with rfl|rfl
  ·exact sR hz
  ·exact Fc _
def MF{K:Frag}{H:Hp}{a:Addr}{z t:Str}{n i:Nat}(h:aZ K H a [.str z,.int n,.int i,.str t])(hz:PyData.strOk z=true)(ht:PyData.strOk t=true):iI K H (xq z n i t) a:=by
 refine{?_,(ox (n:=0) λk hk=>?_).good 7}
 ·unfold xq;refine{a,_,9,h,?_};exact⟨_,_,rfl,rfl,_,_,rfl,rfl,_,_,rfl,rfl,_,_,rfl,rfl,rfl⟩
 ·simp only[aN,qu,E3]at hk;rcases hk with rfl|rfl|rfl|rfl
  ·exact sR hz
  ·exact Fc _
  ·exact Fc _
  ·exact sR ht
def abm{z z':Str}{n n':Nat}:yV z n=yV z' n'↔z=z'/\n=n':=by unfold yV;simp only[NK.tup.injEq,nL,NK.key.injEq,Bg,Sum.inl.injEq,FE,Int.ofNat_inj]
def abl{z z' t t':Str}{n n' i i':Nat}:xq z n i t=xq z' n' i' t'↔z=z'/\n=n'/\i=i'/\t=t':=by unfold xq;simp only[NK.tup.injEq,nL,NK.key.injEq,Bg,Sum.inl.injEq,FE,Int.ofNat_inj]
def adb{z z' t':Str}{n n' i':Nat}:yV z n≠xq z' n' i' t':=by unfold yV xq;simp
def nQ(e:p.1=k):valN (p::r) k=some p.2.2:=by unfold valN;rw[gm (p:=λp:NK×Addr×V=>decide (p.1=k)) (bg e)];rfl
def nR(e:¬p.1=k):valN (p::r) k=valN r k:=by unfold valN;rw[gn (p:=λp:NK×Addr×V=>decide (p.1=k)) (λq=>e (aT q))]
theorem KR:∀kvs:List 648,valN (kvs.map λp=>if p.1=k then(p.1,p.2.1,v)else p) j=(valN kvs j).map λx=>if j=k then v else x
 |[]=>rfl
 |p::r=>by
  have ih:=KR (k:=k) (j:=j) (v:=v) r;rw[bq];by_cases h:p.1=k
  ·rw[aM h];by_cases e:p.1=j
   ·rw[nQ (p:=(p.1,p.2.1,v)) e,nQ e,jO,aM (e.symm.trans h)]
   ·rw[nR (p:=(p.1,p.2.1,v)) e,nR e,ih]
  ·rw[aI h];by_cases e:p.1=j
   ·rw[nQ e,nQ e,jO,aI (λz=>h (e.trans z))]
   ·rw[nR e,nR e,ih]
theorem IQ:∀kvs:List 648,valN kvs k=none->valN (kvs++[(k,a,v)]) j=if j=k then some v else valN kvs j
 |[],_=>by
  by_cases e:k=j
  ·rw[aM e.symm];exact nQ e
  ·rw[aI (λz=>e z.symm)];exact nR e
 |p::r,hn=>by
  rw[qv];have hk:¬p.1=k:=λz=>by rw[nQ z]at hn;cases hn
  rw[nR hk]at hn;by_cases e:p.1=j
  ·rw[nQ e,nQ e,aI (λz=>hk (e.trans z))]
  ·rw[nR e,nR e,(IQ (j:=j) (a:=a) (v:=v) r hn)]
def tN:valN (putN kvs k a v) j=if j=k then some v else valN kvs j:=by
 unfold putN;split
 ·next hs=>
  rw[KR];by_cases c:j=k
  ·obtain⟨x,hx⟩:=wD.mp hs;rw[aM c,c,hx,jO,aM rfl]
  ·rw[aI c];cases valN kvs j with
   |none=>rfl
   |some x=>rw[jO,aI c]
 ·next hs=>
  refine IQ kvs ?_;cases e:valN kvs k with
  |none=>rfl
  |some x=>rw[e]at hs;exact absurd rfl hs
def Mo(h:p∈putN kvs k a v):(∃q∈kvs,p.1=q.1/\p.2.1=q.2.1)\/(p.1=k/\p.2.1=a):=by
 unfold putN at h;split at h
 ·obtain⟨q,hq,rfl⟩:=aE.mp h;refine .inl {q,hq,?_};split<;>exact⟨rfl,rfl⟩
 ·rcases aV.mp h with h|h
  ·exact .inl ⟨p,h,rfl,rfl⟩
  ·rw[aC.mp h];exact .inr ⟨rfl,rfl⟩
def Ul{kvs:List 648}{k j:NK}{a:Addr}{v:V}:(∃p∈putN kvs k a v,p.1=j)↔j=k\/∃p∈kvs,p.1=j:=by
 have key:∀(l:List 648)(j:NK),(∃p∈l,p.1=j)↔(valN l j).isSome=true:=by intro l j;unfold valN;rw[gW,DY];exact{λ⟨p,hp,e⟩=>{p,hp,bg e},λ⟨p,hp,e⟩=>{p,hp,aT e}}
 rw[key,key,tN];by_cases c:j=k
 ·rw[aM c];simp[c]
 ·rw[aI c];simp[c]
def Pq{kvs:List 648}{j:NK}:(∃p∈kvs,p.1=j)↔(valN kvs j).isSome=true:=by unfold valN;rw[gW,DY];exact{λ⟨p,hp,e⟩=>{p,hp,bg e},λ⟨p,hp,e⟩=>{p,hp,aT e}}
end
end L2
namespace L2
open PySem PySem.Spec PyProof.Rows PySem.W uV
section
variable{X:Cx}
inductive aaV(x:V)(vs:Aam)(H:Hp)(Q:VK):Prop
 |mk (l:Addr) (zs:List Int) (z:Int) (j:Nat) (_:x=.ref l) (_:vs=[.int z]) (_:H l=some (.lst (zs.map V.int))) (_:zs[j]?=some z) (_:(∀m,m<j->zs[m]?≠some z)) (_:Q (.int (j:Int)) H)
def Jo:MtR X "list.index" aaV:=by
 intro pins s Z H x vs v us Q I rx rv h;obtain⟨l,zs,z,j,rfl,rfl,hH,hj,zf,q⟩:=h;cases rx;obtain⟨u,rfl,ru⟩:=rv.one;obtain⟨t,rfl⟩:=ru;obtain⟨z',ba,n,r,hl,e⟩:=I.yf hH;have eat:∀m,(m:Nat)<ba.length->∃y t',ba[m]?=some (.int y t')/\zs[m]?=some y:=λm hm=>by
  have hz:m<zs.length:=by have:=r.length;rw[aj]at this;lia
  obtain⟨u',oq,ru'⟩:=r.get (by rw[aW,ay hz];rfl);obtain⟨t',rfl⟩:=ru';exact{zs[m],t',oq,ay hz}
 have lz:=r.length;rw[aj]at lz;have lP:j<ba.length:=by have:=(au.mp hj).1;lia
 have sl:=yY
 let eq:Value->Bool:=λy=>match y with| .int a _=>a==z|_=>false
 have agW:∀y,y∈ba.toArray->MeetsSeq.EqGives y (.int z t) (eq y):=λy hy=>by obtain⟨m,hm⟩:=List.getElem?_of_mem (by simpa using hy:y∈ba);obtain⟨a,t',e1,_⟩:=eat m (au.mp hm).1;rw[hm]at e1;cases e1;exact MeetsSeq.EqGives.int a z t' t
 have adI:∀m(hm:m<ba.toArray.size),∃a t',ba.toArray[m]=.int a t'/\zs[m]?=some a:=λm hm=>by obtain⟨a,t',e1,e2⟩:=eat m (by simpa using hm);refine{a,t',?_,e2};have:=(au.mp e1).2;simpa using this
 have hjs:j<ba.toArray.size:=by simpa using lP
 refine lB F.slot_list_index ⟨_,e,rfl⟩ F.entry_list_index (F.args_list_index_2 _ _) (MeetsSeq.list_index l ba.toArray n (.int z t) eq agW j hjs ∅ ?_ λm hm bO=>?_) {e,{.int _,H,686,726,q}}
 ·obtain⟨a,t',e1,e2⟩:=adI j hjs;rw[e1];rw[hj]at e2;cases e2;show(z==z)=true;simp
 ·obtain⟨a,t',e1,e2⟩:=adI m hm;rw[e1];exact cZ.mpr λh=>zf m bO (by rw[e2,h])
variable{pins:Aaa}{Z:St}{H:Hp}{s:Shared}
def Inv.aeo(I:Inv X pins Z H s)(hn:H D=none)(new:dY X.prog X.w (upd H D o) s.heap D o)
  (h1:X.aac.heap.objs.size<=D) (hL:D≠X.env.locals) (h2:∀x c,X.env.cells.lookup x=some c->c≠D) (h3:∀p∈X.pn++pins,p.1≠D):Inv X pins Z (upd H D o) s:=by
 have nD:∀b u,H b=some u->b≠D:=λb u q z=>by rw[z,hn]at q;cases q
 have bQ:j5 X.prog X.w (upd H D o) s.heap:=λb u q=>by
  by_cases hb:b=D
  ·subst hb;rw[av]at q;cases q;exact new
  ·rw[aL hb]at q;exact(I.bQ b u q).qT (λ_ _ _ z=>z) (λc z=>by rw[aL (nD c _ z)];exact z) λc xs z=>by rw[aL (nD c _ z)];exact z
 have J:=I.step (t':=s.toks) (d':=s.drawn) (ch:=[D])
  (λb hb=>by
   have e':b=D:=by simpa using hb
   subst e';exact{.inr h1,hL,h2,h3})
  (λb o _ _ _ q _=>q) (λb o _ _ _ q _=>{o.slots,q}) (λb o hc _ n=>by rw[aL λz=>hc (by simp[z])];exact n) (λb o _ q=>⟨o,q⟩)
  (λb xs q=>by rw[aL (nD b _ q)];exact q) (λb o u q=>by rw[aL (nD b _ q)];exact q) (λb ps q=>{#[],by rw[aL (nD b _ q),q];simp}) (λm hm=>hm) bQ I.bare
 exact J
theorem Inv.G7{lo:Addr}(hlo:∀{H:Hp},Inv X pins Z H s->X.aac.heap.objs.size<=lo/\X.env.locals<lo/\(∀x c,X.env.cells.lookup x=some c->c<lo)/\∀p∈X.pn++pins,p.1<lo):
  ∀(as:Aah)(ps:List 677)(H:Hp),Inv X pins Z H s->as.length=ps.length->as.Nodup->(∀a∈as,lo<=a/\H a=none)->
   (∀(j:Nat) a p,as[j]?=some a->ps[j]?=some p->∃t u,s.heap.get? a=some {cls:=.type "tuple",data:=.seq #[.str p.1 t,.str p.2 u]})->
   ∃H',Inv X pins Z H' s/\(∀b u,H b=some u->H' b=some u)/\(∀b,b∉as->H' b=H b)/\∀(j:Nat) a p,as[j]?=some a->ps[j]?=some p->H' a=some (.tup [.str p.1,.str p.2])
 |[],[],H,I,_,_,_,_=>{H,I,λ_ _ h=>h,λ_ _=>9,λj a p e=>by simp at e}
 |[],_::_,_,_,e,_,_,_=>by simp at e
 |_::_,[],_,_,e,_,_,_=>by simp at e
 |a::as,p::ps,H,I,e,nd,fr,tp=>by
  obtain⟨n1,n2⟩:=dc.mp nd;obtain⟨l1,l2,l3,l4⟩:=hlo I;obtain⟨ha,hna⟩:=fr a aF;obtain⟨t,u,g⟩:=tp 0 a p rfl rfl;have I1:=I.aeo (o:=.tup [.str p.1,.str p.2]) hna {96,[.str p.1 t,.str p.2 u],.cons ⟨t,rfl⟩ (.cons ⟨u,rfl⟩ .nil),{_,g,9,0,9},_,g,9} (bu l1 ha) (cu (bw l2 ha))
   (λx c h=>aX (bw (l3 x c h) ha)) (λq hq=>aX (bw (l4 q hq) ha))
  obtain⟨H',I2,k1,k2,k3⟩:=Inv.G7 hlo as ps _ I1 (by simpa using e) n2 (λb hb=>{(fr b (aG _ hb)).1,by rw[aL (show b≠a fromλz=>n1 (z▸hb))];exact(fr b (aG _ hb)).2})
   (λj b q e1 e2=>tp (j+1) b q 730 (by simpa using e2))
  refine{H',I2,λb v h=>k1 b v (by rw[aL (bC h hna)];exact h),694,λj b q e1 e2=>?_}
  ·rw[k2 b (λz=>hb (aG _ z)),aL (λz=>hb (by rw[z];exact aF))]
  ·cases j with
   |zero=>
    obtain rfl:a=b:=by simpa using e1
    obtain rfl:p=q:=by simpa using e2
    rw[k2 a n1];exact av
   |succ j=>exact k3 j b q 730 (by simpa using e2)
def Hf(r d:Addr):Heap->Prop:=λh=>h.IsItemsView r d
end
def adt(x:Hf r d h):dY P w H h r (.ext (Hf r d)):=
 {x,let⟨o,q,_⟩:=x;⟨o,q⟩,λ_ _ ⟨o,q,z⟩ k=>{o,k _ q,z}}
inductive aaF(Q:VK)(x:V)(H1:Hp):Prop
 |mk d kvs (_:x=.ref d) (_:H1 d=some (.dK kvs)) (_:∀p,H1 p=none->Q (.ref p) (upd H1 p (.ext (Hf p d))))
def acp(td:TE):TE:=λZ H Q=>td Z H λx H1=>aaF Q x H1
def WI{X:Cx}{apos f9:Pos}{l:Expr}{tl:TE}(hl:PE X l tl)(GC:attributeBase l "items" X.env (eval l X.env)=eval l X.env:=by rfl)(Gy:718=true:=by rfl):
  PE X (.Call (.Attribute l "items" apos) [] [] f9) (acp tl):=by
 intro pins s Z H R I h;refine wN GC Gy (dh (hl pins s Z H _ I h) λv s1 x H1 I1 r1 q1=>?_);obtain⟨d,kvs,e,hd,q⟩:=q1;subst e;cases r1;obtain⟨lo,o,es,ep,ga,m⟩:=Ij (I1.bQ d _ hd) (.inl ⟨kvs,rfl,rfl⟩);have ty:s1.TypeIs 705 "dict":={o,ga,m.1.1};refine{"dict","dict.items",eZ,wW,PySem.F.type_dict_items,ty,λb q=>?_,gq rfl (Bn ?_)}
 ·cases q;exact{o,ga,m.1.2.1}
 ·refine b7 wW ty PySem.F.entry_dict_items ?_ (PySem.F.args_dict_items_1 _);refine ah (ah (jH ty 666));unfold Builtin.Dict.showsAll;rw[lo];refine ah (aq (ah (cP (aq {_,9,?_}))));exact{.ref s1.heap.objs.size,_,I1.laid (λb o e=>ao _ e) (aw _) (adt {_,682,9,9}),9,q _ 704}
def rowsOf(g:List 677):Hz:=g.map λp=>[p.1,p.2]
abbrev R7(H:Hp):Aam->Hz->Prop:=Paired λ(y:V)(zs:Aaf)=>∃a,y=.ref a/\H a=some (.tup 652)
theorem LA{X:Cx}{pins:Aaa}{Z:St}{H:Hp}{s:Shared}(I:Inv X pins Z H s):∀{zs:Aam}{rows:Hz},eE X.K H zs rows->(∀z∈zs,∃a xs,z=.ref a/\H a=some 672)->R7 H zs rows
 |_,_,.nil,_=>.nil
 |_,_,.cons ⟨a,e,hq⟩ t,h=>by subst e;obtain⟨a',xs,e',h'⟩:=h _ aF;cases e';refine .cons {a,9,?_} (LA I t λz hz=>h z (aG _ hz));rw[h',I.tQ (aZ.of h') hq]
def Fq{X:Cx}(hA:X.A.handled=none):gZ X (.builtin "sorted") (λxs H Q=>∃(r d:Addr)(g:List 677),xs=[.ref r]/\H r=some (.ext (Hf r d))/\H d=some (.dK (g.map λp=>(Sum.inr p.1,.str p.2)))/\g.length<64/\
  ∀l zs H',(∀b u,H b=some u->H' b=some u)->H' l=none->H l=none->R7 H' zs (mG (rowsOf g))->Q 720 (upd H' l 690)):=by
 intro pins s Z H xs us Q I r h;obtain⟨v,d,g,rfl,hv,hd,zm,q⟩:=h;obtain⟨u,rfl,ru⟩:=jI r;cases ru;obtain⟨iv,_⟩:=(show dY X.prog X.w H s.heap v (.ext (Hf v d))from I.bQ v _ hv);obtain⟨hz,lo,vs,rel,o,es,ep,m⟩:=xB I.bQ hd;have hl:g.length=vs.length:=by have:=rel.length;rw[aj]at this;exact this
 refine ki Ek BZ Cy (CO _) ?_;refine ah 666;refine ah (PySem.W.kdx_collect (by simpa using hA) iv (⟨o,es,m⟩) (by rw[<-hl,bX];lia) λh' tk as kp la G=>?_);have la':as.length=g.length:=by rw[la,hl]
 have bound:∀{H:Hp},Inv X pins Z H {s with heap:=h',toks:=tk}->X.aac.heap.objs.size<=s.heap.objs.size/\X.env.locals<s.heap.objs.size/\(∀x c,X.env.cells.lookup x=some c->c<s.heap.objs.size)/\∀p∈X.pn++pins,p.1<s.heap.objs.size:=λ_=>
  {I.sz,I.lt,λx c hc=>let⟨_,z⟩:=I.cell x c hc;z.lt,λp hp=>aY (I.pin p hp).1}
 obtain⟨H',I2,k1,k2,k3⟩:=Inv.G7 bound as g H (I.kept (t':=tk) kp) la' (G.rise.imp (λh=>aX h)) (λa ha=>{bB (G.above a ha),I.bQ.fresh (bB (G.above a ha))}) (λj a p e1 e2=>by obtain⟨key,k,x,e3,e4,e5⟩:=G.pairs j a e1;have rj:∃kv',(g.map λp=>((Sum.inr p.1:Key),V.str p.2))[j]?=some kv'/\kv'=(Sum.inr p.1,V.str p.2):={_,by rw[aW,e2];rfl,9};obtain⟨kv',e6,rfl⟩:=rj;obtain⟨q',e7,e8,e9⟩:=Paired.at' rel e6;rw[e3]at e7;cases e7;subst e8;obtain⟨t,rfl⟩:=(show∃t,key=Value.str p.1 t from sJ (k:=Sum.inr p.1) e4);obtain⟨u,rfl⟩:=(show∃t,x=Value.str p.2 t from e9);exact⟨t,u,e5⟩)
 have lb:as.length=(rowsOf g).length:=by rw[la'];exact(aj _).symm
 refine FT (s:=s) I2 lb (λi z b e1 e2=>?_) (λ_ r hr=>?_) (by rw[<-lb,la'];lia) λl zs gd bV UR=>q l zs H' k1 gd ?_ (LA I2 bV λz hz=>?_)
 ·unfold rowsOf at e1;rw[aW]at e1;obtain⟨p,e3,rfl⟩:=br.mp e1;exact aZ.of (k3 i b p e2 e3)
 ·obtain⟨p,_,rfl⟩:=aE.mp hr;simp
 ·cases e:H l with
  |none=>rfl
  |some o=>rw[k1 l o e]at gd;cases gd
 ·obtain⟨b,hb,rfl⟩:=aE.mp (UR z hz);obtain⟨j,hj⟩:=eP.mp hb;have lP:j<g.length:=by have:=(au.mp hj).1;lia
  exact{b,_,9,k3 j b _ hj (ay lP)}
section
variable{K:Frag}{a:Addr}{xs:Aam}{fr:List Nat}{tt:TT}{te:TE}{Z:St}{H1:Hp}{R:Addr->Aam->Hp->Prop}
def Ox(Pv:Nat->Aam->Hp->Prop)(hx:xs.length<sizeLine)(h0:Pv 0 [] H1)(hl:∀i ys H,i<=xs.length->Pv i ys H->aZ K H a xs/\ys.length<=i)
  (hs:∀(i:Nat)(x:V)(ys:Aam)(H:Hp)(p:Addr)(N:Aam->Hp->Prop),xs[i]?=some x->Pv i ys H->H p=none->(∀hU H',Pv (i+1) hU H'->N hU H')->
   tt (some (.int i)::some x::slotsOf fr Z) (upd H p (.tup [.int i,x])) λt H4=>if t=true then te (some (.int i)::some x::slotsOf fr Z) H4 (λy H5=>N (ys++[y]) H5)else N ys H4)
  (hd:∀ys H,Pv xs.length ys H->∀l,H l=none->R l ys H):Dc (IH K a) 2 fr (KI K) tt te Z H1 R:=by
 refine{689,{xs.length,59,aP _,h0},?_};rintro i m ys H ⟨rfl,hi,p⟩;obtain⟨q,hy⟩:=hl i ys H hi p;by_cases bO:i<xs.length
 ·refine .inr {{xs,xs[i],q,by simp[bO]},8,?_};intro v H3 y own ho;obtain⟨r,z,rfl,hr,rfl,y⟩:=y;exact HJ ho rfl (aZ.of av) {[some (.int i),some z],9,9,(hs i z ys H r (λhU H'=>∃m',m'<xs.length -i/\m'=xs.length -(i+1)/\i+1<=xs.length/\Pv (i+1) hU H') (y xs q) p hr λhU H' p'=>{_,8,9,bO,p'})}
 ·have e:i=xs.length:=by lia
  subst e;exact .inl {⟨xs,q,rfl⟩,8,hd ys H p}
end
section
variable{X:Cx}
def Km{elt iter tg c:Expr}{x y:Str}{py uw:Pos}{j:Nat}{more:Aaf}{g:TG}{scope:Scope}{pos:Pos}{wi:TI}{fs:Aaf}{fr:List Nat}{tc:TT}{te:TE}(hN:X.N.Nodup)(hj:X.N[j]?=some y)(hy:X.env.scope.names.lookup y=some .local)(hc:X.calm=true)(S:tw X scope x more fs fr)(hi:PI X tg iter wi)(hg:∀C s H ex,PG 646 tg g)
  (ht:∀C s H ex,PT 646 c tc) (he:∀C s H ex,PE 646 elt te) (hs:∀z,foldedSetIterable iter X.env z=pure z:=by intro _;rfl)
  (Gp:swapsWith (.ListComp elt [{tg,iter,[c],0}] scope pos) (some (.Name y py)) uw.line X.env=pure true:=by rfl):
  PS X (.Assign [.Name y py] (.ListComp elt [{tg,iter,[c],0}] scope pos) uw) (FQ j (tR wi (more.length+1) fr g tc te)):=BY hN hj hy hc S hi hg (λC s H ex=>GS (ht C s H ex)) he hs Gp
def rS(P:Program)(w:World)(K:Frag)(mg:Aab)(base:Heap)(C:Addr)(k:Nat)(m:Str)(ps:Aaf)(sp:Sp):Prop:=
 ∃f fd,cK P w K mg base d7 k f fd ps sp/\Meth K C m f/\Binds K fd ps []
def T2(c:Dd X.K C)(D:rS X.prog X.w X.K X.mg X.base C k m ps sp)(hr:iH j X.A)(ho:PE X o ta)(ha:PA X (e::es) t)(hk:k<=j:=by decide)
  (A8:starEach (e::es) X.env=(false,eval e X.env)::starEach es X.env:=by rfl) (jN:(backTo pos 712).any (·.1)=false:=by rfl)
  (ht:eval (.Call (.Attribute o m apos) (e::es) [] pos) X.env=(do
   let ov<-eval o X.env
   standAt apos.atName
   let(f,first)<-holding [ov] (getMethod ov m pl)
   callWith pos f first (backTo pos (starEach (e::es) X.env)) (backToKw pos (keywordEach [] X.env))):=by rfl):
  PE X (.Call (.Attribute o m apos) (e::es) [] pos) (Yz C m sp [] E0 ta t):=by
 obtain⟨f,fd,F,me,b⟩:=D;exact aa5 ho c me F (hr.mono hk) b .nil QN ha A8 jN ht
def RC(hr:iH k A):A.units+101<cLine:=by have:=hr.un;lia
def QZ{kvs:List 648}{k:NK}{a:Addr}{v:V}(h:(kvs.map (·.1)).Nodup):((putN kvs k a v).map (·.1)).Nodup:=by
 unfold putN;split
 ·have e:(kvs.map λp=>if p.1=k then(p.1,p.2.1,v)else p).map (·.1)=kvs.map (·.1):=by rw[b5];refine b9 λp _=>?_;show(if p.1=k then(p.1,p.2.1,v)else p).1=p.1;split<;>rfl
  rw[e];exact h
 ·next hs=>
  rw[aH];refine fP.mpr {h,59,λx hx y hy e=>hs ?_};have UD:y=k:=by simpa using hy
  obtain⟨p,hp,hpe⟩:=aE.mp hx;exact Pq.mp {p,hp,by rw[hpe,e,UD]}
theorem jL{α:Type}[DecidableEq α]:∀{l m:List α},l.Nodup->(∀x∈l,x∈m)->l.length<=m.length
 |[],m,_,_=>aP _
 |x::l,m,h,s=>by obtain⟨h1,h2⟩:=dc.mp h;have hx:=s x aF;have:=jL h2 λy hy=>(AL (show y≠x fromλe=>h1 (e▸hy))).mpr (s y (aG _ hy));rw[wI hx]at this;have hp:=yB hx;rw[bF];lia
variable{K:Frag}
def G6(hc:X.calm=true)(h:X.K=K:=by rfl):gZ X (.builtin "all") (λxs H Q=>∃(a:Addr)(bs:List Bool),xs=[.ref a]/\bf K H a (bs.map V.bl)/\Q (.bl (bs.all id)) H):=h▸zx hc
end
end L2
namespace aJ
open PySem
abbrev Atom:=Str×Aaf
abbrev df:=List 677
section
variable(b8:Str->Bool)
def ap(h:Str->Str)(t:Str):Str:=if b8 t then h t else t
def Fits(D:List Atom)(h:Str->Str)(as:List Atom):Prop:=∀a∈as,(a.1,a.2.map (ap b8 h))∈D
def iD(g:df)(h:Str->Str):Prop:=∀p∈g,h p.1=p.2
def rX(D:List Atom)(g:df)(as:List Atom):Prop:=∃h,iD g h/\Fits b8 D h as
def jx(as:List Atom):Aaf:=(as.map λa=>a.2.filter b8).flatten
def keys(g:df):Aaf:=g.map (·.1)
def get(g:df)(u:Str):Option Str:=(g.find? λp=>decide (p.1=u)).map (·.2)
def mj(g g':df):Prop:=∀u v,get g u=some v->get g' u=some v
end
section
variable{b8:Str->Bool}{D as bs:List Atom}{g g':df}{h h':Str->Str}
def afq{t:Str}(e:b8 t=true->h t=h' t):ap b8 h t=ap b8 h' t:=by
 unfold ap;split
 ·exact e ‹_›
 ·rfl
def adf{ts:Aaf}(e:∀t∈ts,b8 t=true->h t=h' t):ts.map (ap b8 h)=ts.map (ap b8 h'):=b9 λt ht=>afq (e t ht)
def cQ{u:Str}:u∈jx b8 as↔∃a∈as,u∈a.2/\b8 u=true:=by
 unfold jx;rw[iw];constructor
 ·rintro⟨l,hl,hu⟩;obtain⟨a,ha,rfl⟩:=aE.mp hl;exact{a,ha,cX.mp hu}
 ·rintro⟨a,ha,hu⟩;exact{_,bS ha,cX.mpr hu}
def Fits.congr(f:Fits b8 D h as)(e:∀u∈jx b8 as,h u=h' u):Fits b8 D h' as:=λa ha=>by rw[<-adf λt ht ut=>e t (cQ.mpr ⟨a,ha,ht,ut⟩)];exact f a ha
def Fits.app:Fits b8 D h (as++bs)↔Fits b8 D h as/\Fits b8 D h bs:=
 {λf=>{λa ha=>f a (bz _ ha),λa ha=>f a (bh _ ha)},λf a ha=>(aV.mp ha).elim (f.1 a) (f.2 a)}
def Fits.sub(f:Fits b8 D h as)(e:∀a∈bs,a∈as):Fits b8 D h bs:=λa ha=>f a (e a ha)
def get_some{u v:Str}(h:get g u=some v):(u,v)∈g:=by obtain⟨p,hp,rfl⟩:=br.mp h;have:=nK hp;rw[<-(aT this)];exact gx hp
def get_none{u:Str}:get g u=none↔u∉keys g:=by
 unfold get keys;rw[pY,C4];constructor
 ·intro h q;obtain⟨p,hp,e⟩:=aE.mp q;exact h p hp (bg e)
 ·intro h p hp q;exact h (aE.mpr {p,hp,aT q})
def get_mem(nd:(keys g).Nodup){u v:Str}(h:(u,v)∈g):get g u=some v:=by
 induction g with
 |nil=>cases h
 |cons p r ih=>
  unfold keys at nd;rw[bq,dc]at nd;unfold get;rcases aN.mp h with e|h
  ·rw[gm (p:=λp:Str×Str=>decide (p.1=u)) (bg (by rw[<-e]))];rw[<-e];rfl
  ·have ne:¬decide (p.1=u)=true:=λq=>nd.1 (by
    rw[aT q];exact aE.mpr ⟨_,h,rfl⟩)
   rw[gn (p:=λp:Str×Str=>decide (p.1=u)) ne];exact ih nd.2 h
def iD.get(a:iD g h){u v:Str}(e:get g u=some v):h u=v:=a (u,v) (get_some e)
def Kd(nd:(keys g).Nodup)(e:∀u v,get g u=some v->h u=v):iD g h:=λp hp=>e p.1 p.2 (get_mem nd hp)
def iD.longer(nd:(keys g).Nodup)(l:mj g g')(a:iD g' h):iD g h:=Kd nd λu v e=>a.get (l u v e)
def over(g:df)(h:Str->Str)(u:Str):Str:=(get g u).getD (h u)
def nj(nd:(keys g).Nodup):iD g (over g h):=Kd nd λu v e=>by unfold over;rw[e];rfl
def WO{g gi:df}{p:List Atom}(ndi:(keys gi).Nodup)(l:mj g gi)(dis:∀u∈jx b8 p,u∈keys gi->u∈keys g)(c:rX b8 D g p):rX b8 D gi p:=by
 obtain⟨h,ag,f⟩:=c;refine{over gi h,nj ndi,f.congr λu hu=>?_};unfold over;cases e:get gi u with
 |none=>rfl
 |some v=>
  have:u∈keys gi:=by
   by_cases q:u∈keys gi
   ·exact q
   ·rw[get_none.mpr q]at e;cases e
  have:=dis u hu this;cases e2:get g u with
  |none=>exact absurd this (get_none.mp e2)
  |some v2=>
   have:=l u v2 e2;rw[e]at this;cases this;exact ag.get e2
def Ye{g g2:df}{p:List Atom}(qF:(keys g2).Nodup)(e:∀a∈p,∀t∈a.2,get g t=get g2 t)(c:rX b8 D g p):rX b8 D g2 p:=by
 obtain⟨h,ag,f⟩:=c;refine{over g2 h,nj qF,f.congr λu hu=>?_};obtain⟨a,ha,ht,_⟩:=cQ.mp hu;unfold over;rw[<-e a ha u ht];cases q:get g u with
 |none=>rfl
 |some v=>exact ag.get q
def fit(b8:Str->Bool)(g:df):Aaf->Aaf->Option df
 |[],[]=>some g
 |t::ts,a::as=>if b8 t then(match get g t with
   |some m=>if m=a then fit b8 g ts as else none
   |none=>fit b8 (g++[(t,a)]) ts as)else if t=a then fit b8 g ts as else none
 |_,_=>none
def PZ{u v x:Str}(n:get g u=none):get (g++[(u,v)]) x=if x=u then some v else get g x:=by
 unfold get at n⊢;rw[List.find?_append];by_cases c:x=u
 ·subst c;rw[aM rfl,pY.mp n];simp
 ·rw[aI c];cases q:g.find? λp=>decide (p.1=x)with
  |none=>
   have:([(u,v)]:df).find? (λp=>decide (p.1=x))=none:=by rw[C4];intro p hp;rw[aC.mp hp];simpa usingλe=>c e.symm
   rw[this];rfl
  |some p=>rfl
def Rb{u v:Str}(n:get g u=none):mj g (g++[(u,v)]):=λx y e=>by
 rw[PZ n];split
 next c=>rw[c,n]at e;cases e
 next=>exact e
def mj.refl(g:df):mj g g:=λ_ _ h=>h
def mj.trans{g1 g2 g3:df}(a:mj g1 g2)(b:mj g2 g3):mj g1 g3:=λu v h=>b u v (a u v h)
def xp{u v:Str}(nd:(keys g).Nodup)(n:get g u=none):(keys (g++[(u,v)])).Nodup:=by unfold keys;rw[aH];refine fP.mpr {nd,59,λa ha b hb=>?_};rw[oH,aC]at hb;rw[hb];rintro rfl;exact get_none.mp n ha
theorem sT:∀{ts as:Aaf}{g g':df},(keys g).Nodup->fit b8 g ts as=some g'->(keys g').Nodup/\mj g g'/\(∀u,u∈keys g'↔u∈keys g\/(u∈ts/\b8 u=true))/\∀h,iD g' h->ts.map (ap b8 h)=as
 |[],[],g,g',nd,e=>by cases e;exact{nd,mj.refl g,λu=>by simp,λh _=>9}
 |[],_::_,g,g',nd,e=>by cases e
 |_::_,[],g,g',nd,e=>by cases e
 |t::ts,a::as,g,g',nd,e=>by
  unfold fit at e;split at e
  next ut=>
   split at e
   next m em=>
    split at e
    next ma=>
     obtain⟨n1,l1,k1,f1⟩:=sT nd e;have tk:t∈keys g:=by
      by_cases q:t∈keys g
      ·exact q
      ·rw[get_none.mpr q]at em;cases em
     refine{n1,l1,λu=>?_,λh ag=>?_}
     ·rw[k1];constructor
      ·rintro(h|⟨h,h2⟩)
       ·exact .inl h
       ·exact .inr {aG _ h,h2}
      ·rintro(h|⟨h,h2⟩)
       ·exact .inl h
       ·rcases aN.mp h with rfl|h
        ·exact .inl tk
        ·exact .inr ⟨h,h2⟩
     ·rw[bq,f1 h ag];have:ap b8 h t=a:=by unfold ap;rw[aM ut,ag.get (l1 t m em),ma]
      rw[this]
    next=>cases e
   next em=>
    obtain⟨n1,l1,k1,f1⟩:=sT (xp nd em) e;refine{n1,(Rb em).trans l1,λu=>?_,λh ag=>?_}
    ·rw[k1];have:u∈keys (g++[(t,a)])↔u∈keys g\/u=t:=by unfold keys;rw[aH,aV];exact or_congr_right aC
     rw[this];constructor
     ·rintro((h|rfl)|⟨h,h2⟩)
      ·exact .inl h
      ·exact .inr ⟨aF,ut⟩
      ·exact .inr {aG _ h,h2}
     ·rintro(h|⟨h,h2⟩)
      ·exact .inl (.inl h)
      ·rcases aN.mp h with rfl|h
       ·exact .inl (.inr 9)
       ·exact .inr ⟨h,h2⟩
    ·rw[bq,f1 h ag];have:ap b8 h t=a:=by unfold ap;rw[aM ut];exact ag.get (l1 t a (by rw[PZ em,aM rfl]))
     rw[this]
  next ut=>
   split at e
   next ta=>
    obtain⟨n1,l1,k1,f1⟩:=sT nd e;refine{n1,l1,λu=>?_,λh ag=>?_}
    ·rw[k1];constructor
     ·rintro(h|⟨h,h2⟩)
      ·exact .inl h
      ·exact .inr {aG _ h,h2}
     ·rintro(h|⟨h,h2⟩)
      ·exact .inl h
      ·rcases aN.mp h with rfl|h
       ·exact absurd h2 ut
       ·exact .inr ⟨h,h2⟩
    ·rw[bq,f1 h ag];have:ap b8 h t=a:=by unfold ap;rw[aI ut,ta]
     rw[this]
   next=>cases e
theorem uc:∀{ts:Aaf}{g:df},(keys g).Nodup->iD g h->∃g',fit b8 g ts (ts.map (ap b8 h))=some g'/\iD g' h
 |[],g,nd,ag=>⟨g,rfl,ag⟩
 |t::ts,g,nd,ag=>by
  rw[bq];unfold fit;by_cases ut:b8 t=true
  ·rw[aM ut];have ea:ap b8 h t=h t:=by unfold ap;rw[aM ut]
   cases em:get g t with
   |some m=>
    rw[ea];show∃g',(if m=h t then fit b8 g ts (ts.map (ap b8 h))else none)=some g'/\_;rw[aM (ag.get em).symm];exact uc nd ag
   |none=>
    refine uc (xp nd em) λp hp=>?_;rcases aV.mp hp with q|q
    ·exact ag p q
    ·rw[aC.mp q];exact ea.symm
  ·rw[aI ut];have ea:ap b8 h t=t:=by unfold ap;rw[aI ut]
   rw[ea,aM rfl];exact uc nd ag
end
section
variable(b8:Str->Bool)(g:df)
def zH(p:List Atom)(a:Atom):Bool:=p.any λo=>(a.2.filter λt=>b8 t&&(get g t).isNone).any λt=>decide (t∈o.2)
def step(a:Atom):List (List Atom)->List Atom×List (List Atom)
 |[]=>([a],[])
 |ps=>ps.foldl (λacc p=>if zH b8 g p a then(p++acc.1,acc.2)else(acc.1,acc.2++[p])) ([a],[])
def pJ(ps:List (List Atom))(a:Atom):List (List Atom):=(step b8 g a ps).2++[(step b8 g a ps).1]
def partsOf(as:List Atom):List (List Atom):=as.foldl (pJ b8 g) []
def Apart(p q:List Atom):Prop:=∀u,u∈jx b8 p->u∈jx b8 q->u∈keys g
end
section
variable{b8:Str->Bool}{g:df}
def Apart.symm{p q:List Atom}(h:Apart b8 g p q):Apart b8 g q p:=λu h1 h2=>h u h2 h1
def KU{p q:List Atom}{u:Str}:u∈jx b8 (p++q)↔u∈jx b8 p\/u∈jx b8 q:=by
 rw[cQ,cQ,cQ];constructor
 ·rintro⟨a,ha,h⟩;rcases aV.mp ha with ha|ha
  ·exact .inl ⟨a,ha,h⟩
  ·exact .inr ⟨a,ha,h⟩
 ·rintro(⟨a,ha,h⟩|⟨a,ha,h⟩)
  ·exact{a,bz _ ha,h}
  ·exact{a,bh _ ha,h}
def Apart.app{p q r:List Atom}(h1:Apart b8 g p r)(h2:Apart b8 g q r):Apart b8 g (p++q) r:=λu hu hr=>(KU.mp hu).elim (λh=>h1 u h hr) (λh=>h2 u h hr)
def V7{p:List Atom}{a:Atom}(h:zH b8 g p a=false):Apart b8 g p [a]:=λu hp ha=>by
 obtain⟨o,ho,hu,uu⟩:=cQ.mp hp;obtain⟨a',ZY,oq,_⟩:=cQ.mp ha;rw[aC.mp ZY]at oq;by_cases q:u∈keys g
 ·exact q
 ·exfalso;have:zH b8 g p a=true:=by refine ix.mpr {o,ho,ix.mpr {u,cX.mpr {oq,?_},bg hu}};rw[uu,get_none.mpr q];rfl
  rw[h]at this;cases this
structure Stp(b8:Str->Bool)(g:df)(a:Atom)(done:List (List Atom))(x:List Atom×List (List Atom)):Prop where
 mem:∀b,(b∈x.1\/∃p∈x.2,b∈p)↔(b=a\/∃p∈done,b∈p)
 len:x.1.length+(x.2.map List.length).sum=1+(done.map List.length).sum
 one:∀p∈x.2,Apart b8 g p x.1
 two:x.2.Pairwise (Apart b8 g)
 sub:∀p∈x.2,p∈done
 mrg:∀r,Apart b8 g r [a]->(∀p∈done,Apart b8 g r p)->Apart b8 g r x.1
 ne:x.1≠[]
theorem OR(a:Atom):∀(ps done:List (List Atom))(x:List Atom×List (List Atom)),Stp b8 g a done x->(done++ps).Pairwise (Apart b8 g)->
  Stp b8 g a (done++ps) (ps.foldl (λacc p=>if zH b8 g p a then(p++acc.1,acc.2)else(acc.1,acc.2++[p])) x)
 |[],done,x,h,_=>cL _▸h
 |p::ps,done,x,h,hp=>by
  have pd:=λr hr=>(rU.mp hp).2.2 r hr p aF;rw[gY,show done++p::ps=(done++[p])++ps by rw[dG];rfl];refine OR a ps (done++[p]) _ ?_ (by rw[dG];exact hp);split
  next c=>
   refine{λb=>?_,?_,λr hr=>((pd r (h.sub r hr)).symm.app (h.one r hr).symm).symm,h.two,λr hr=>bz _ (h.sub r hr),λr h1 h2=>((h2 p 59).symm.app (h.mrg r h1 λq hq=>h2 q (bz _ hq)).symm).symm,?_}
   ·constructor
    ·rintro(hb|⟨q,hq,hb⟩)
     ·rcases aV.mp hb with hb|hb
      ·exact .inr {p,59,hb}
      ·rcases(h.mem b).mp (.inl hb)with e|⟨q,hq,e⟩
       ·exact .inl e
       ·exact .inr {q,bz _ hq,e}
     ·rcases(h.mem b).mp (.inr ⟨q,hq,hb⟩)with e|⟨q,hq,e⟩
      ·exact .inl e
      ·exact .inr {q,bz _ hq,e}
    ·rintro(e|⟨q,hq,e⟩)
     ·rcases(h.mem b).mpr (.inl e)with e|e
      ·exact .inl (bh _ e)
      ·exact .inr e
     ·rcases aV.mp hq with hq|hq
      ·rcases(h.mem b).mpr (.inr ⟨q,hq,e⟩)with e|e
       ·exact .inl (bh _ e)
       ·exact .inr e
      ·rw[aC.mp hq]at e;exact .inl (bz _ e)
   ·have:=h.len;simp only[aD,aH,rT,bq,fw,jV,C1];lia
   ·intro e;have:=cR List.length e;rw[aD]at this;exact h.ne (dD.mp (by simpa using(Nat.add_eq_zero_iff.mp this).2))
  next c=>
   refine{λb=>?_,?_,λr hr=>?_,?_,λr hr=>?_,λr h1 h2=>h.mrg r h1 λq hq=>h2 q (bz _ hq),h.ne}
   ·constructor
    ·rintro(hb|⟨q,hq,hb⟩)
     ·rcases(h.mem b).mp (.inl hb)with e|⟨q,hq,e⟩
      ·exact .inl e
      ·exact .inr {q,bz _ hq,e}
     ·rcases aV.mp hq with hq|hq
      ·rcases(h.mem b).mp (.inr ⟨q,hq,hb⟩)with e|⟨q,hq,e⟩
       ·exact .inl e
       ·exact .inr {q,bz _ hq,e}
      ·exact .inr {q,bh _ hq,hb}
    ·rintro(e|⟨q,hq,e⟩)
     ·rcases(h.mem b).mpr (.inl e)with e|⟨r,hr,e⟩
      ·exact .inl e
      ·exact .inr {r,bz _ hr,e}
     ·rcases aV.mp hq with hq|hq
      ·rcases(h.mem b).mpr (.inr ⟨q,hq,e⟩)with e|⟨r,hr,e⟩
       ·exact .inl e
       ·exact .inr {r,bz _ hr,e}
      ·exact .inr {q,bh _ hq,e}
   ·have:=h.len;simp only[aH,rT,bq,fw,jV,C1];lia
   ·rcases aV.mp hr with hr|hr
    ·exact h.one r hr
    ·rw[aC.mp hr];exact h.mrg p (V7 (by simpa using c)) λq hq=>(pd q hq).symm
   ·refine rU.mpr {h.two,59,λr hr q hq=>?_};rw[aC.mp hq];exact pd r (h.sub r hr)
   ·rcases aV.mp hr with hr|hr
    ·exact bz _ (h.sub r hr)
    ·exact bh _ hr
def Wd(a:Atom)(ps:List (List Atom))(hp:ps.Pairwise (Apart b8 g)):Stp b8 g a ps (step b8 g a ps):=by
 have h0:Stp b8 g a [] ([a],[]):={λb=>by simp,59,λp hp=>(by cases hp),.nil,λp hp=>(by cases hp),λr h1 _=>h1,59};cases ps with
 |nil=>exact h0
 |cons p ps=>exact OR a (p::ps) [] _ h0 hp
theorem E2:∀(as done:List Atom)(ps:List (List Atom)),ps.Pairwise (Apart b8 g)->(∀b,b∈done↔∃p∈ps,b∈p)->(ps.map List.length).sum=done.length->(∀p∈ps,p≠[])->
  (as.foldl (pJ b8 g) ps).Pairwise (Apart b8 g)/\(∀b,b∈done++as↔∃p∈as.foldl (pJ b8 g) ps,b∈p)/\((as.foldl (pJ b8 g) ps).map List.length).sum=(done++as).length/\∀p∈as.foldl (pJ b8 g) ps,p≠[]
 |[],done,ps,h1,h2,h3,h4=>by rw[cL];exact⟨h1,h2,h3,h4⟩
 |a::as,done,ps,h1,h2,h3,h4=>by
  have s:=Wd a ps h1;rw[gY,show done++a::as=(done++[a])++as by rw[dG];rfl];refine E2 as (done++[a]) _ ?_ (λb=>?_) ?_ λp hp=>?_
  ·refine rU.mpr {s.two,59,λr hr q hq=>?_};rw[aC.mp hq];exact s.one r hr
  ·unfold pJ;constructor
   ·intro hb;have:b=a\/∃p∈ps,b∈p:=by
     rcases aV.mp hb with hb|hb
     ·exact .inr ((h2 b).mp hb)
     ·exact .inl (aC.mp hb)
    rcases(s.mem b).mpr this with e|⟨p,hp,e⟩
    ·exact{_,bh _ aF,e}
    ·exact{p,bz _ hp,e}
   ·rintro⟨p,hp,e⟩;have:b∈(step b8 g a ps).1\/∃p∈(step b8 g a ps).2,b∈p:=by
     rcases aV.mp hp with hp|hp
     ·exact .inr ⟨p,hp,e⟩
     ·rw[aC.mp hp]at e;exact .inl e
    rcases(s.mem b).mp this with rfl|e
    ·simp
    ·exact bz _ ((h2 b).mpr e)
  ·unfold pJ;have:=s.len;simp only[aH,rT,bq,fw,jV,C1,aD,bF,jR];lia
  ·unfold pJ at hp;rcases aV.mp hp with hp|hp
   ·exact h4 p (s.sub p hp)
   ·rw[aC.mp hp];exact s.ne
end
section
variable(b8:Str->Bool)(D:List Atom)
structure Got(g g':df)(as:List Atom):Prop where
 nd:(keys g').Nodup
 lg:mj g g'
 ks:∀u,u∈keys g'↔u∈keys g\/u∈jx b8 as
 ft:∀h,iD g' h->Fits b8 D h as
end
section
variable{b8:Str->Bool}{D as bs p:List Atom}{g g' gi way:df}{a:Atom}
def Got.nil(nd:(keys g).Nodup):Got b8 D g g []:={nd,mj.refl g,λu=>{.inl,λh=>h.elim id λq=>by obtain⟨_,h,_⟩:=cQ.mp q;cases h},λh _ a ha=>by cases ha}
def Got.trans(ndi:(keys gi).Nodup)(x:Got b8 D g gi as)(y:Got b8 D gi g' bs):Got b8 D g g' (as++bs):=
 {y.nd,x.lg.trans y.lg,λu=>by rw[y.ks,x.ks,KU,or_assoc],λh ag=>Fits.app.mpr {x.ft h (iD.longer ndi y.lg ag),y.ft h ag}}
def Got.perm(x:Got b8 D g g' as)(e:∀b,b∈as↔b∈bs):Got b8 D g g' bs:=
 {x.nd,x.lg,λu=>by rw[x.ks];refine or_congr_right ?_;rw[cQ,cQ];exact{λ⟨a,ha,h⟩=>{a,(e a).mp ha,h},λ⟨a,ha,h⟩=>{a,(e a).mpr ha,h}},λh ag=>(x.ft h ag).sub λa ha=>(e a).mpr ha}
def rX.sub(c:rX b8 D g as)(e:∀b∈bs,b∈as):rX b8 D g bs:=by obtain⟨h,ag,f⟩:=c;exact{h,ag,f.sub e}
def T8(x:Got b8 D g gi as)(hp:∀q,q∈jx b8 p->q∈jx b8 as->q∈keys g)(n:¬rX b8 D gi p)(sub:∀b∈p,b∈bs):¬rX b8 D g bs:=λc=>
 n (WO x.nd x.lg (λu hu hk=>((x.ks u).mp hk).elim id λq=>hp u hu q) (c.sub sub))
def V3{u:Str}:u∈jx b8 [a]↔u∈a.2/\b8 u=true:=by rw[cQ];exact{λ⟨b,hb,h⟩=>by rw[aC.mp hb]at h;exact h,λh=>⟨a,aF,h⟩}
def Ih{row:Aaf}(nd:(keys g).Nodup)(e:fit b8 g a.2 row=some way)(hD:(a.1,row)∈D):Got b8 D g way [a]:=by obtain⟨n1,l1,k1,f1⟩:=sT nd e;refine{n1,l1,λu=>by rw[k1,V3],λh ag b hb=>?_};rw[aC.mp hb,f1 h ag];exact hD
def Tr{row:Aaf}{rest:List Atom}(nd:(keys g).Nodup)(e:fit b8 g a.2 row=some way)(hD:(a.1,row)∈D)(y:Got b8 D way g' rest)(pm:∀b,b∈p↔b=a\/b∈rest):Got b8 D g g' p:=by have x:=Ih nd e hD;refine(x.trans x.nd y).perm λb=>?_;rw[pm,aV];exact or_congr_left aC
def Jj{aims:Hz}{rest:List Atom}(nd:(keys g).Nodup)(all:∀h,iD g h->(a.1,a.2.map (ap b8 h))∈D->a.2.map (ap b8 h)∈aims)
  (no:∀row∈aims,∀way,fit b8 g a.2 row=some way->¬rX b8 D way rest) (pm:∀b,b∈p↔b=a\/b∈rest):¬rX b8 D g p:=by
 rintro⟨h,ag,f⟩;obtain⟨way,e,ag2⟩:=uc (b8:=b8) (h:=h) (ts:=a.2) nd ag;exact no _ (all h ag (f a ((pm a).mpr (.inl 9)))) way e {h,ag2,f.sub λb hb=>(pm b).mpr (.inr hb)}
def R6(b8:Str->Bool)(D:List Atom)(p:List Atom)(m:List 713):Prop:=∀g,(keys g).Nodup->p.map (λa=>a.2.map (get g))=m->¬rX b8 D g p
def aaz(nd:(keys g).Nodup)(n:¬rX b8 D g p):R6 b8 D p (p.map λa=>a.2.map (get g)):=λg2 qF e c=>n (Ye nd (λa ha t ht=>by
 have:∀{l:List Atom},l.map (λa=>a.2.map (get g2))=l.map (λa=>a.2.map (get g))->∀a∈l,∀t∈a.2,get g2 t=get g t:=by
  intro l
  induction l with
  |nil=>intro _ a ha;cases ha
  |cons b r ih=>
   intro e a ha t ht;rw[bq,bq]at e;injection e with e1 e2;rcases aN.mp ha with rfl|ha
   ·exact List.map_inj_left.mp e1 t ht
   ·exact ih e2 a ha t ht
 exact this e a ha t ht) c)
end
end aJ
namespace K31
open PySem PySem.Spec PyProof.Rows L2 aJ
seal L2.PE L2.PT L2.PW L2.PA L2.PS L2.pX L2.PI L2.PO L2.Kg L2.PG L2.Hc
def top(i:Nat):Stmt:=PySem.Challenge.pw_askviews_k31_within_or_parted.main.body.getD i (.Pass {0,0,0,0})
abbrev zW:Stmt:=top 3
abbrev vL:Stmt:=top 4
abbrev vH:Stmt:=top 5
abbrev HA:Stmt:=top 07
abbrev xZ:Stmt:=top 08
abbrev EU:Stmt:=top 09
abbrev zQ:Stmt:=top 11
abbrev vM:Stmt:=top 12
abbrev ux:Stmt:=top 14
abbrev zP:Stmt:=top 15
abbrev BI:Stmt:=top 17
abbrev xU:Stmt:=top 18
abbrev qY:Stmt:=top 19
abbrev EK:Stmt:=top 21
abbrev EL:Stmt:=top 22
abbrev EO:Stmt:=top 24
abbrev ER:Stmt:=top 25
abbrev BJ:Stmt:=top 26
abbrev ET:Stmt:=top 27
abbrev EN:Stmt:=top 28
abbrev vK:Stmt:=top 29
abbrev Ht:Stmt:=top 30
abbrev vJ:Stmt:=top 31
abbrev zR:Stmt:=top 32
abbrev BL:Stmt:=top 33
abbrev qh:Stmt:=top 34
abbrev ES:Stmt:=top 35
abbrev EM:Stmt:=top 36
abbrev zU:Stmt:=top 37
abbrev xW:Stmt:=top 38
abbrev zS:Stmt:=top 39
abbrev sG:Stmt:=top 40
abbrev BM:Stmt:=top 41
abbrev vc:Stmt:=top 42
abbrev xY:Stmt:=top 43
abbrev qg:Stmt:=top 44
abbrev xX:Stmt:=top 45
abbrev BK:Stmt:=top 46
abbrev sF:Stmt:=top 47
abbrev zV:Stmt:=top 48
abbrev qZ:Stmt:=top 49
abbrev BN:Stmt:=top 50
abbrev QH:Stmt:=top 51
abbrev vI:Stmt:=inClass (top 10) 0
abbrev Hr:Stmt:=inClass (top 10) 1
abbrev u9:Stmt:=inClass (top 10) 2
abbrev nv:Stmt:=inClass (top 10) 3
abbrev xV:Stmt:=inClass (top 10) 4
def Kf(K:Frag)(H:Hp)(a:Addr)(xs:Aam):Prop:=
 (∃o,H a=some (.fB o (.lst xs)))\/∃(o:Obj)(ba:Aaj)(n:Nat),K.lookup a=some o/\o.cls=.type "list"/\o.dict=none/\o.data=.seq ba n/\ba.size<=sizeLine/\Vals xs ba.toList
def Kf.sq{K:Frag}(h:Kf K H a xs):bf K H a xs:=by
 rcases h with⟨o,h⟩|h
 ·exact .inl (.inr ⟨o,h⟩)
 ·exact .inr h
def dH(_K:Frag)(f:Addr)(H:Hp):Prop:=∃x p q:Int,H f=some (.lst [.int x,.int p,.int q])
def Ext(f:Addr)(H H':Hp):Prop:=∀b o,b≠f->H b=some o->H' b=some o
def Ext.refl(f:Addr)(H:Hp):Ext f H H:=λ_ _ _ h=>h
def Ext.trans(a:Ext f H H1)(b:Ext f H1 H2):Ext f H H2:=λc o n h=>b c o n (a c o n h)
def Ext.new(a:Ext f H H1)(h:H1 p=none)(o:HO):Ext f H (upd H1 p o):=λb u n q=>by rw[aL (bC (a b u n q) h)];exact a b u n q
def Ext.own(a:Ext f H H1)(h:H p=none)(o:HO):Ext f H (upd H1 p o):=λb u n q=>by rw[aL (bC q h)];exact a b u n q
def Ext.feed(a:Ext f H H1)(o:HO):Ext f H (upd H1 f o):=λb u n q=>by rw[aL n];exact a b u n q
def Ext.none(a:Ext f H H1)(n:p≠f)(h:H1 p=Option.none):H p=Option.none:=by
 cases q:H p with
 |none=>rfl
 |some o=>
  rw[a p o n q]at h;cases h
def dH.new{K:Frag}(h:dH K f H)(hp:H p=none)(o:HO):dH K f (upd H p o):=by obtain⟨x,y,z,hf⟩:=h;exact{x,y,z,by rw[aL (bC hf hp)];exact hf}
def dH.lst{K:Frag}(h:dH K f H)(hp:H p=some (.lst xs))(n:p≠f)(o:HO):dH K f (upd H p o):=by obtain⟨x,y,z,hf⟩:=h;exact{x,y,z,by rw[aL n.symm];exact hf}
def dH.my{K:Frag}(h:dH K f H)(hp:H p=none):p≠f:=by obtain⟨x,y,z,hf⟩:=h;exact(bC hf hp).symm
def dH.same{K:Frag}{f:Addr}{H H':Hp}(h:dH K f H)(sm:aK H H'):dH K f H':=by obtain⟨x,y,z,hf⟩:=h;exact{x,y,z,sm _ _ hf}
inductive vC(K:Frag)(vs:Aam)(H:Hp)(Q:VK)(_x3:XK):Prop
 |mk (f:Addr) (many:Int) (_:vs=[.ref f,.int many]) (_:dH K f H) (_:0<many) (_:many<1073741824) (_:∀(i:Int)(H':Hp),0<=i->i<many->dH K f H'->Ext f H H'->Q (.int i) H')
inductive SE(K:Frag)(vs:Aam)(H:Hp)(Q:VK)(_x3:XK):Prop
 |mk (a:Addr) (ns:List Int) (k:Int) (_:vs=[.ref a,.int k]) (_:Kf K H a (ns.map V.int)) (_:ns.length<=63) (_:0<=k) (_:∀(r:Addr)(H':Hp),dH K r H'->aK H H'->H r=none->Q (.ref r) H')
noncomputable def d8:Aaf:=["a","ab","r","rs","abc","12","1","x","s","x1","0","abcdefgh"]
inductive Hn(K:Frag)(vs:Aam)(H:Hp)(Q:VK)(_x3:XK):Prop
 |mk (f:Addr) (many:Int) (_:vs=[.ref f,.int many]) (_:dH K f H) (_:0<=many) (_:many<=12) (_:∀(r:Addr)(ws:Aaf)(H':Hp),dH K f H'->Ext f H H'->r≠f->H r=none->H' r=some (.lst (ws.map V.str))->(ws.length:Int)=many->ws.Nodup->(∀z∈ws,z∈d8)->Q (.ref r) H')
section
variable{P:Program}{w:World}{K:Frag}{mg:Aab}{base:Heap}
structure Txt(K:Frag)(mg:Aab):Prop where
 eJ:mg "len"=none
 sN:mg "range"=none
 iA:mg "tuple"=none
 pT:mg "list"=none
 h9:mg "isinstance"=none
 Zj:mg "all"=none
 Zi:mg "any"=none
 Zh:mg "min"=none
 Gd:mg "str"=none
 ahu:mg "bool"=none
 aeW:mg "int"=none
 B5:mg "dict"=none
 sM:mg "sorted"=none
 Zg:mg "set"=none
 ye:mg "enumerate"=none
 Q2:mg "zip"=none
 abC:∃t,mg "SIGNS"=some (.str "abcdefghijklmnopqrstuvwxyz0123456789" t)
 Nm:∃t,mg "MOST_SIGNS"=some (.int 08 t)
def SR:bZ ["_law_script","_law_k"] ["_law_script","_law_k"] (defScope EO):=gC 53
def abg(F:dF K "_law_feed" "_law_feed" EO f fd)(T:Txt K mg):cK P w K mg base d7 1 f fd ["_law_script","_law_k"] (SE K):=by
 refine F.ok SR (λ_ _ _ _ h=>by cases h;subst_vars;rfl) 54;obtain⟨a,ns,kk,rfl,hS,hn,hk,k⟩:=h;refine{_,(aB (dg (bY ny (bM c6 9 T.eJ bG 714) aO (cB _)) (aQ (bK (dR (jX aO aO (pv 1))))) cy) (aQ (bK (dR (jX (bH eM (pv 0) (c9 pS (pv 1) (bM c6 9 T.eJ bG 714)) (λ_ _=>9)) aO (pv 1)))))),?_}
 have nl:(ns.map V.int).length=ns.length:=aj _;refine{_,9,_,_,9,.inl {_,hS.sq,9},9,_,9,?_};refine dU 668 668
 ·refine{_,9,(by show 3<=sizeLine;decide),695};exact k p _ ⟨_,_,_,av⟩ (λb u q=>by rw[aL (bC q hp)];exact q) hp
 ·have c1:((ns.map V.int).length:Int)≠0:=λe=>c (bg (cR V.int e));have c3:(0:Int)<((ns.map V.int).length:Int):=by lia
  have c4:=nM kk (show((ns.map V.int).length:Int)≠0 by lia);have c5:=lF kk c3;obtain⟨v,hv⟩:∃v,ns[(kk %((ns.map V.int).length:Int)).toNat]?=some v:={_,ay (by rw[<-nl];lia)};have ev:sg (ns.map V.int) (kk %((ns.map V.int).length:Int))=some (.int v):=by
   have e0:kk %((ns.map V.int).length:Int)=(((kk %((ns.map V.int).length:Int)).toNat:Nat):Int):=by lia
   rw[e0];exact hJ (by rw[aW,hv];rfl)
  exact{_,9,_,9,_,9,_,_,9,.inl {_,hS.sq,9},_,_,9,9,c3,_,_,_,_,9,9,hS.sq,ev,_,9,(by show 3<=sizeLine;decide),λp hp=>k p _ ⟨_,_,_,av⟩ (λb u q=>by rw[aL (bC q hp)];exact q) hp}
def xk:bZ ["_law_feed_here","_law_many","_law_digit","_law_seed"] ["_law_feed_here","_law_many"] (defScope ER):=gC 53
def abh(F:dF K "_law_draw" "_law_draw" ER f fd)(T:Txt K mg):cK P w K mg base d7 1 f fd ["_law_feed_here","_law_many"] (vC K):=by
 refine F.ok xk (λ_ _ _ _ h=>by cases h;subst_vars;rfl) 54;obtain⟨fe,many,rfl,⟨x,p,q,hf⟩,hm,UR,k⟩:=h;have lo:∀(x m:Int),0<m->m<2^32->-(2^64)<x % m/\x % m<2^64:=λx m h1 h2=>by have h3:=nM x (show m≠0 by lia);have h4:=lF x h1;lia
 refine{_,(aB (yR (c9 jc (bH eM (pv 0) aO (λ_ _=>9)) aO) (LR (pv 0) aO set_list)) (aB (dg (bY aeT (bH eM (pv 0) aO (λ_ _=>9)) (c9 acW aO aO) (cB _)) (aB (dM 2 xk (c9 pS (bH eM (pv 0) aO (λ_ _=>9)) (pv 1))) (aB (yR (c9 WQ (bH eM (pv 0) aO (λ_ _=>9)) (pv 1)) (LR (pv 0) aO set_list)) (aQ (bK (pv 2))))) cy) (aB (dM 3 xk (c9 jc (c9 jc (c9 jc (c9 pS (bH eM (pv 0) aO (λ_ _=>9)) aO) (c9 tW aO (bH eM (pv 0) aO (λ_ _=>9)))) (c9 tW aO (bH eM (pv 0) aO (λ_ _=>9)))) aO)) (aB (dM 3 xk (c9 pS (c9 tW (pv 3) aO) aO)) (aQ (bK (c9 pS (c9 pS (c9 tW (c9 pS (c9 jc (c9 tW (pv 3) aO) (bH eM (pv 0) aO (λ_ _=>9))) aO) aO) aO) (pv 1)))))))),?_}
 refine{_,9,fe,_,_,_,9,9,bf.of hf,9,_,_,9,9,_,9,fe,_,_,_,9,9,hf,9,?_};have GA:upd H fe (.lst [.int x,.int (p+1),.int q]) fe=some (.lst [.int x,.int (p+1),.int q]):=av;have xy:Ext fe H (upd H fe (.lst [.int x,.int (p+1),.int q])):=(Ext.refl fe H).feed _;refine{_,9,fe,_,_,_,9,9,bf.of GA,9,_,_,9,9,{7,7,7},_,_,9,9,_,9,?_};refine dU 668 668
 ·refine{_,9,fe,_,_,_,9,9,bf.of GA,9,_,9,_,_,9,9,hm,?_};have l2:many.natAbs.log2<9000:=by
   by_cases hz:many.natAbs=0
   ·rw[hz];decide
   ·rw[Nat.log2_lt hz];exact dP (show many.natAbs<2^30 by lia) (Nat.pow_lt_pow_right 7 7)
  refine{_,9,fe,_,_,_,9,9,bf.of GA,9,_,9,_,_,9,9,⟨hm,l2⟩,_,9,fe,_,_,_,9,9,GA,9,?_};exact{_,9,k _ _ (nM _ ∅) (lF _ hm) ⟨_,_,_,av⟩ (xy.feed _)}
 ·refine{_,9,fe,_,_,_,9,9,bf.of GA,9,_,_,9,9,(by show(0:Int)<2147483647;decide),?_};refine{_,9,fe,_,_,_,9,9,bf.of GA,9,_,_,9,9,.inl {7,7},_,_,9,9,?_};refine{_,9,fe,_,_,_,9,9,bf.of GA,9,_,_,9,9,.inl {7,7},_,_,9,9,_,_,9,9,?_};refine{_,9,_,_,9,9,.inr {7,7},_,_,9,9,(by show(0:Int)<2147483647;decide),?_};exact{_,9,_,_,9,9,.inr {7,7},_,9,fe,_,_,_,9,9,bf.of GA,9,_,_,9,9,_,_,9,9,(by show(0:Int)<2147483399;decide),_,_,9,9,.inr {7,7},_,_,9,9,(by show(0:Int)<2147483563;decide),_,9,_,_,9,9,hm,k _ _ (nM _ ∅) (lF _ hm) ⟨_,_,_,GA⟩ xy}
structure Dr(P:Program)(w:World)(K:Frag)(mg:Aab)(base:Heap):Prop where
 dS:cq P w K mg base 1 "_law_draw" ["_law_feed_here","_law_many"] (vC K)
def wordAt(i s j:Nat):Str:=d8.getD ((i+s*j) % 12) ""
def VY:((List.range 12).all λi=>([1,5,07,11]:List Nat).all λs=>decide (((List.range 12).map λj=>wordAt i s j).Nodup))=true:=by decide+kernel
def VZ:((List.range 12).all λi=>decide (d8.getD i ""∈d8))=true:=by decide+kernel
def N7{i s m:Nat}(hi:i<12)(hs:s∈([1,5,07,11]:List Nat))(hm:m<=12):((List.range m).map λj=>wordAt i s j).Nodup:=by
 have h2:((List.range m).map λj=>wordAt i s j)=(((List.range 12).map λj=>wordAt i s j)).take m:=by rw[<-Bh,List.take_range,lC hm]
 rw[h2];exact(aT (bN.mp (bN.mp VY i (cE.mpr hi)) s hs)).sublist (DW _ _)
def aaw(i s j:Nat):wordAt i s j∈d8:=aT (bN.mp VZ ((i+s*j) % 12) (cE.mpr (mQ _ 7)))
def aeO{i:Int}(h0:0<=i)(h1:i<4):∃s:Nat,s∈([1,5,07,11]:List Nat)/\sg [V.int 1,V.int 5,V.int 07,V.int 11] i=some (.int (s:Int)):=by
 have c:i=0\/i=1\/i=2\/i=3:=by lia
 rcases c with rfl|rfl|rfl|rfl
 ·exact{1,7,9}
 ·exact{5,7,9}
 ·exact{07,7,9}
 ·exact{11,7,9}
def u5:bZ ["_law_feed_here","_law_many","_law_some","_law_first","_law_step"] ["_law_feed_here","_law_many"] (defScope BJ):=gC 53
def WR{f:Addr}{fd:FuncData}(F:dF K "_law_words" "_law_words" BJ f fd)(T:Txt K mg)(D:Dr P w K mg base):cK P w K mg base d7 2 f fd ["_law_feed_here","_law_many"] (Hn K):=by
 refine F.ok u5 (λ_ _ _ _ h=>by cases h;subst_vars;rfl) 54;obtain⟨fe,many,rfl,hF,hm0,hm1,k⟩:=h;refine{_,(aB (kx (i:=2) u5.nd 9 (Or.inr 9) (dR (fh cT (fh cT (fh cT (fh cT (fh cT (fh cT (fh cT (fh cT (fh cT (jX cT cT cT)))))))))))) (aB (kx (i:=3) u5.nd 9 (Or.inr 9) 653) (aB (kx (i:=4) u5.nd 9 (Or.inr 9) (bH eM (dR (fh aO (jX aO aO aO))) 653 (λ_ _=>9))) (aQ (bK (kZ 9 (cV (fs:=["_law_some","_law_first","_law_step"]) (fr:=[2,3,4])) (nZ 9 T.sN 722) (λ_ _ _ _=>(bH (Aj) (pv 1) (c9 pS (c9 jc (pv 2) (c9 tW (pv 3) (pv 0))) aO) (λ_ _=>9))))))))),?_}
 refine{(by show 12<=sizeLine;decide),695};have np:=hF.my hp;have zk:=hF.new hp (.lst [.str "a",.str "ab",.str "r",.str "rs",.str "abc",.str "12",.str "1",.str "x",.str "s",.str "x1",.str "0",.str "abcdefgh"]);refine{_,9,fe,12,9,zk,7,7,λi H1 i0 i1 zk xy=>?_};refine{(by show 4<=sizeLine;decide),λp2 ir=>?_};refine{_,9,fe,4,9,zk.new ir _,7,7,λj H2 j0 j1 kF kq=>?_};obtain⟨st,A8,ev⟩:=aeO j0 j1;refine{_,_,_,_,9,9,bf.of (kq _ _ (zk.my ir) av),ev,?_};have jD:=xy _ _ np av;have npp:=bC jD ir;have ex:=(((Ext.refl fe H).new hp _).trans xy).trans (((Ext.refl fe H1).new ir _).trans kq);refine{_,9,many,9,8,8,λn m ys H3=>H3=H2/\n<=many.toNat/\m=many.toNat -n/\ys=((List.range n).map λj=>wordAt i.toNat st j).map V.str,{_,9,aP _,9,9},?_};rintro n m ys H3 ⟨rfl,hn,rfl,rfl⟩;have ly:(((List.range n).map λj=>wordAt i.toNat st j).map V.str).length=n:=by rw[aj,aj,eW]
 by_cases bO:n<many.toNat
 ·refine .inr {bO,by rw[ly];exact bt ∅,?_};rintro v H4 ⟨rfl,rfl⟩;have hix:sg (d8.map V.str) ((i+(st:Int)*(0+(n:Int))) % 12)=some (.str (wordAt i.toNat st n)):=by
   have e0:(i+(st:Int)*(0+(n:Int))) % 12=(((i.toNat+st*n) % 12:Nat):Int):=by
    have e1:i=(i.toNat:Int):=by lia
    rw[C7,e1];simp
   rw[e0];refine hJ ?_;have ZL:(i.toNat+st*n) % 12<d8.length:=mQ _ 7;rw[aW,ay ZL];unfold wordAt;rw[cD,ay ZL];rfl
  have ae8:-(2^64)<(st:Int)/\(st:Int)<2^64:=by simp at A8;lia
  refine{_,9,_,9,_,9,_,9,_,_,9,9,.inl ae8,_,_,9,9,_,_,9,9,(by show(0:Int)<12;decide),_,_,_,_,9,9,bf.of (kq _ _ np (by rw[aL npp];exact jD)),hix,?_};refine{many.toNat -(n+1),8,9,bO,9,?_};rw[List.range_succ,aH,aH];rfl
 ·have en:n=many.toNat:=by lia
  refine .inl {by show many.toNat<=n;lia,by rw[ly];exact bB (bt ∅),λl hl=>?_};have nl:=kF.my hl;refine k l _ _ (kF.new hl _) (ex.new hl _) nl (ex.none nl hl) av ?_ (N7 ∅ A8 ∅) λz hz=>?_
  ·rw[aj,eW];lia
  ·obtain⟨j,_,rfl⟩:=aE.mp hz;exact aaw _ _ _
def tE(hg:Gl X x)(hm:X.mg x=none)(hv:bootBuiltins x=some (.type n))(hn:x≠"__name__":=by decide)(hd:663=false:=by decide):PE X (.Name x pos) (tC (.ty n)):=aa9 hg hm hv rfl hn hd
def SIGNS:Str:="abcdefghijklmnopqrstuvwxyz0123456789"
def sgn(c:Nat):Bool:=!(Builtin.Str.occurrences SIGNS ⟨#[c]⟩ 0 SIGNS.length 1).isEmpty
def isVal(s:Str):Bool:=decide ((1:Int)<=(s.length:Int))&&(decide ((s.length:Int)<=08)&&(s.cps.toList.map sgn).all id)
def bo(s:Str):Bool:=Txt.startswith s "?"&&isVal (Txt.slice s (some 1) none)
inductive YD(vs:Aam)(H:Hp)(Q:VK)(_x3:XK):Prop
 |mk (z:Str) (_:vs=[.str z]) (_:z.length<=1000) (_:∀H',aK H H'->Q (.bl (isVal z)) H')
inductive Qy(vs:Aam)(H:Hp)(Q:VK)(_x3:XK):Prop
 |mk (z:Str) (_:vs=[.str z]) (_:z.length<=1000) (_:∀H',aK H H'->Q (.bl (bo z)) H')
def aA(h:H p=none)(o:HO):aK H (upd H p o):=λb u q=>by rw[aL (bC q h)];exact q
def om(t:Value):kitOne K t t=some true:=by unfold kitOne;rw[aM (wj t)]
def Oc:bZ ["thing"] ["thing"] (defScope zW):=gC 53
def Of(F:dF K "is_value" "is_value" zW f fd)(T:Txt K mg):cK P w K mg base d7 1 f fd ["thing"] YD:=by
 refine F.ok Oc (λ_ _ _ _ h=>by cases h;subst_vars;rfl) 54;obtain⟨z,rfl,hz,k⟩:=h;refine{_,(aB (dg (i9 (gH (bM js 9 T.h9 53 (cw (pv 0) (tE (n:="str") 9 T.Gd 53))))) 669 cy) (aQ (bK (tV (LW Y2 Y2 aO (bM c6 9 T.eJ bG 714) (WK 9 T.Nm)) (vP (bM (zx 9) 9 T.Zj boot_all (bW (kZ 9 684 (To (pv 0)) (λ_ _ _ _=>(ni Tu (pv 0) (WJ 9 T.abC) 650)))))))))),?_}
 refine{_,9,_,_,_,true,9,pK.str z,om _,_,9,?_};refine eS ?_;refine{_,9,_,_,9,{(bB (bt hz)),9},_,_,9,9,_,9,?_};refine dU 693 693
 ·refine{_,_,9,9,_,9,?_};refine dU 723 723
  ·refine{_,9,_,9,λi m ys H2=>H2=H/\i<=z.cps.size/\m=z.cps.size -i/\ys=((z.cps.toList.take i).map sgn).map V.bl,{_,9,aP _,9,9},?_};rintro i m ys H2 ⟨rfl,hi,rfl,rfl⟩;have hl:∀j,(((z.cps.toList.take j).map sgn).map V.bl).length<=1000:=λj=>by
    rw[aj,aj,a9];have:z.cps.toList.length=z.length:=by simp[Str.length]
    lia
   by_cases bO:i<z.cps.size
   ·refine .inr {bO,bt (hl i),?_};rintro v H3 ⟨rfl,c,hc,rfl⟩;refine{_,9,_,_,9,9,_,Nat.sub_lt_sub_left bO (eF i),9,bO,9,?_}
    ·have JI:z.cps.toList[i]?=some c:=by simpa using hc
     rw[bj,JI,aH,aH];rfl
   ·have e:i=z.cps.size:=by lia
    refine .inl {e,bB (bt (hl i)),λl pC=>?_};refine{_,(z.cps.toList.take i).map sgn,9,bf.of av,?_};have ev:isVal z=((z.cps.toList.take i).map sgn).all id:=by unfold isVal;rw[c1,c2,(c7 (by rw[e];simp)),iV,iV]
    rw[<-ev];exact k _ (aA pC _)
  ·have ev:isVal z=false:=by unfold isVal;rw[iQ.mpr c2,kr,tD]
   have q:=k H (aK.refl H);rw[ev]at q;exact q
 ·have ev:isVal z=false:=by unfold isVal;rw[iQ.mpr c1,kr]
  have q:=k H (aK.refl H);rw[ev]at q;exact{_,9,eS q}
structure Dv(P:Program)(w:World)(K:Frag)(mg:Aab)(base:Heap):Prop where
 is_value:cq P w K mg base 1 "is_value" ["thing"] YD
def Kl:bZ ["thing"] ["thing"] (defScope vL):=gC 53
def slice_le(z:Str):(Txt.slice z (some 1) none).length<=z.length:=rM z _ _
def Ko(F:dF K "is_unknown" "is_unknown" vL f fd)(T:Txt K mg)(D:Dv P w K mg base):cK P w K mg base d7 2 f fd ["thing"] Qy:=by
 refine F.ok Kl (λ_ _ _ _ h=>by cases h;subst_vars;rfl) 54;obtain⟨z,rfl,hz,k⟩:=h;refine{_,(aQ (bK (tV (bM js 9 T.h9 53 (cw (pv 0) (tE (n:="str") 9 T.Gd 53))) (tV (iL PySem.F.plainAttrs_str PySem.F.slot_str_startswith PySem.F.type_str_startswith Kr (pv 0) (bW cT)) (vP (cl D.is_value hr (bW (mJ SK (pv 0) (oR aO) oS)))))))),?_};refine{_,9,_,_,_,true,9,pK.str z,om _,_,9,?_};refine kz ?_;refine{_,9,9,_,_,9,9,_,9,?_};refine dU 693 693
 ·refine{_,9,_,9,_,9,(bB (bt hz)),_,9,bu (slice_le z) hz,λH' sm=>?_};have ev:bo z=isVal (Txt.slice z (some 1) none):=by unfold bo;rw[c1,iV]
  rw[<-ev];exact k H' sm
 ·have ev:bo z=false:=by unfold bo;rw[iQ.mpr c1,kr]
  have q:=k H (aK.refl H);rw[ev]at q;exact q
end
structure Du(P:Program)(w:World)(K:Frag)(mg:Aab)(base:Heap):Prop where
 is_unknown:cq P w K mg base 2 "is_unknown" ["thing"] Qy
section
variable{P:Program}{w:World}{K:Frag}{mg:Aab}{base:Heap}
def gK(g:df):List (Key×V):=g.map λp=>(Sum.inr p.1,.str p.2)
def qQ(g:df)(u:Str):iG (gK g) (Sum.inr u:Key)=(aJ.get g u).map V.str:=by
 unfold gK aJ.get
 induction g with
 |nil=>rfl
 |cons p r ih=>
  by_cases c:p.1=u
  ·rw[bq,sD (cR Sum.inr c),gm (p:=λp:Str×Str=>decide (p.1=u)) (bg c)];rfl
  ·rw[bq,qe (λe=>c (by injection e)),gn (p:=λp:Str×Str=>decide (p.1=u)) (λd=>c (aT d))];exact ih
def Td{g:df}{u v:Str}(n:aJ.get g u=none):putK (gK g) (Sum.inr u) (.str v)=gK (g++[(u,v)]):=by rw[EW _ (by rw[qQ,n];rfl)];unfold gK;rw[aH];rfl
inductive EJ(K:Frag)(vs:Aam)(H:Hp)(Q:VK)(_x3:XK):Prop
 |mk (d t a:Addr) (g:df) (ts as:Aaf) (_:vs=[.ref d,.ref t,.ref a]) (_:H d=some (.dK (gK g))) (_:g.length<=1000) (_:(keys g).Nodup) (_:aZ K H t (ts.map V.str)) (_:aZ K H a (as.map V.str)) (_:ts.length<=1000) (_:as.length<=1000) (_:(∀z∈ts,z.length<=1000)) (_:(∀H',aK H H'->aJ.fit bo g ts as=none->Q .cz H')) (_:∀p g' H',aK H H'->H p=none->H' p=some (.dK (gK g'))->aJ.fit bo g ts as=some g'->Q (.ref p) H')
def tT:bZ ["given","terms","aim","longer","term","aimed","meant"] ["given","terms","aim"] (defScope EU):=gC 53
def gf{H H':Hp}{a:Addr}{xs:Aam}(q:aZ K H a xs)(s:aK H H'):aZ K H' a xs:=by
 rcases q with(q|⟨o,q⟩)|q
 ·exact .inl (.inl (s _ _ q))
 ·exact .inl (.inr {o,s _ _ q})
 ·exact .inr q
theorem zp:∀{ts as:Aaf}{g:df},ts.length≠as.length->aJ.fit bo g ts as=none
 |[],[],_,h=>absurd rfl h
 |[],_::_,_,_=>rfl
 |_::_,[],_,_=>rfl
 |t::ts,a::as,g,h=>by
  have h':ts.length≠as.length:=λe=>h (by rw[bF,bF,e]);unfold aJ.fit;split
  ·split
   ·split
    ·exact zp h'
    ·rfl
   ·exact zp h'
  ·split
   ·exact zp h'
   ·rfl
def TB{f:Addr}{fd:FuncData}(F:dF K "fitted" "fitted" EU f fd)(T:Txt K mg)(D:Du P w K mg base):cK P w K mg base d7 3 f fd ["given","terms","aim"] (EJ K):=by
 refine F.ok tT (λ_ _ _ _ h=>by cases h;subst_vars;rfl) 54;obtain⟨d,t,a,g,ts,as,rfl,hd,lg,nd,ht,ha,lt,la,hz,k1,k2⟩:=h;refine{_,(aB (dg (bY oU (bM c6 9 T.eJ bG 722) (bM c6 9 T.eJ bG (bW (pv 2))) (cB _)) (aQ (bK jB)) cy) (aB (dM 3 tT (cU GZ 9 T.B5 53 714)) (aB (dJ bE 9 (Pb 9 T.Q2 (cw (pv 1) (pv 2))) (jA 9 (cj (gg 4 tT) (cj (gg 5 tT) fY))) (aB (dM 6 tT (E1 (gH (cl D.is_unknown hr (bW (pv 4)))) (iL eZ gS mf Jm (pv 3) (cw (pv 4) (pv 5))) (pv 4))) (aQ (dg (bY oU (pv 6) (pv 5) (cB _)) (aQ (bK jB)) cy)))) (aQ (bK (pv 3)))))),?_}
 have Jp:(ts.map V.str).length=ts.length:=aj _;have Ue:(as.map V.str).length=as.length:=aj _;refine{_,9,_,_,9,.inr ⟨_,ht,rfl⟩,_,9,_,_,9,.inr ⟨_,ha,rfl⟩,9,_,9,?_};refine dU 668 668
 ·refine k1 H (aK.refl H) (zp λe=>?_);rw[Jp,Ue,e]at c;simp at c
 have le:ts.length=as.length:=by have:¬¬(V.int (ts.length:Int)=V.int (as.length:Int)):=λh=>c 721;have:=j6.mp this;injection this with this;lia
 refine{_,9,d,gK g,9,.inl hd,695};have s1:aK H (upd H p (.dK (gK g))):=aA hp _;have jD:upd H p (.dK (gK g)) p=some (.dK (gK g)):=av;refine{_,rfl,_,rfl,t,a,rfl,{_,gf ht s1},{_,gf ha s1},Nr (ys:=as.map V.str)
  (λi Z H2=>∃(x4 x5 x6:Aan)(gi:df),Z=[some 705,some (.ref t),some 659,some 676,x4,x5,x6]/\aK H H2/\H2 p=some (.dK (gK gi))/\(keys gi).Nodup/\gi.length<=g.length+i/\aJ.fit bo g ts as=aJ.fit bo gi (ts.drop i) (as.drop i))
  (by rw[Jp,Ue,le]) {_,_,_,g,9,s1,jD,nd,aw _,9} ?_ ?_ ?_}
 ·rintro i Z H2 hi ⟨x4,x5,x6,gi,rfl,s2,_⟩;exact{gf ht s2,gf ha s2}
 ·rintro i x y q Z H2 hx hy ⟨x4,x5,x6,gi,rfl,s2,ir,qF,lg2,ef⟩ hq;rw[aW]at hx hy;obtain⟨z,v7,rfl⟩:=br.mp hx;obtain⟨b,PV,rfl⟩:=br.mp hy;have li:=(au.mp v7).1;have dz:ts.drop i=z::ts.drop (i+1):=by rw[gA li];rw[ay li]at v7;cases v7;rfl
  have db:as.drop i=b::as.drop (i+1):=by
   have Ua:i<as.length:=by lia
   rw[gA Ua];rw[ay Ua]at PV;cases PV;rfl
  rw[dz,db]at ef;have s3:aK H2 (upd H2 q (.tup [.str z,.str b])):=aA hq _;have gh:=s3 _ _ ir;refine{q,_,9,aZ.of av,9,_,_,9,_,_,9,9,?_};refine{_,9,z,9,hz z (az v7),λH4 s4=>{_,9,?_}};have pz:=s2.trans (s3.trans s4);have Gv:=s4 _ _ gh;have Zq:(gK gi).length=gi.length:=aj _;refine dU 693 693
  ·have c1:=c1;refine{_,9,.inr (.inr (.inl {9,.inl ⟨_,Gv⟩})),_,9,_,9,p,Sum.inr z,.str b,gK gi,9,9,Gv,by rw[Zq];exact bw (show gi.length<3000 by lia) (by rw[bX];decide),λv hv=>?_,λhv=>?_}
   ·rw[qQ]at hv;obtain⟨m,hm,rfl⟩:=br.mp hv;refine{_,9,_,9,9,_,9,?_};refine dU 723 723
    ·refine k1 H4 pz ?_;rw[ef];unfold aJ.fit;rw[aM c1,hm];show(if m=b then _ else none)=none;rw[aI (λe=>by rw[e]at c2;simp at c2)]
    ·have e2:m=b:=by have:¬¬(V.str m=V.str b):=λh=>c2 721;have:=j6.mp this;injection this
     refine{_,_,_,gi,9,pz,Gv,qF,8,?_};rw[ef]
     conv=>lhs;unfold aJ.fit
     rw[aM c1,hm];show(if m=b then _ else none)=_;rw[aM e2]
   ·rw[qQ]at hv;have hm:=pY.mp hv;rw[Td hm];refine{_,9,_,9,9,_,9,?_};refine dU 723 723
    ·simp at c2
    ·refine{_,_,_,gi++[(z,b)],9,λb' u h=>?_,av,xp qF hm,by rw[aD];show gi.length+1<=_;lia,?_}
     ·rw[aL (bC h hp)];exact pz _ _ h
     ·rw[ef]
      conv=>lhs;unfold aJ.fit
      rw[aM c1,hm]
  ·have c1:=c1;refine{_,9,?_};refine{_,9,_,9,9,_,9,?_};refine dU 723 723
   ·refine k1 H4 pz ?_;rw[ef];unfold aJ.fit;rw[aI c1,aI (λe=>by rw[e]at c2;simp at c2)]
   ·have e2:z=b:=by have:¬¬(V.str z=V.str b):=λh=>c2 721;have:=j6.mp this;injection this
    refine{_,_,_,gi,9,pz,Gv,qF,8,?_};rw[ef]
    conv=>lhs;unfold aJ.fit
    rw[aI c1,aM e2]
 ·rintro Z H2 ⟨x4,x5,x6,gi,rfl,s2,ir,qF,lg2,ef⟩;rw[Jp,ju (aw _),ju ∅]at ef;exact{_,9,k2 p gi H2 s2 hp ir ef}
structure Df(P:Program)(w:World)(K:Frag)(mg:Aab)(base:Heap):Prop extends Du P w K mg base where
 fitted:cq P w K mg base 3 "fitted" ["given","terms","aim"] (EJ K)
def vm(z:Str)(l:Aaf):tZ (.str z) (l.map V.str)=decide (z∈l):=by
 unfold tZ;rw[mn,fA,ix];constructor
 ·rintro⟨y,hy,e⟩;rw[dW e]at hy;exact bg hy
 ·intro h;exact{z,aT h,by show(z==z)=true;simp}
def zo(l:Aaf):(l.map V.str).all tJ=true:=by rw[C6];exact bN.mpr λ_ _=>9
def iP{zs:Aaf}{i:Nat}(h:(zs.map V.str)[i]?=some y):∃z,zs[i]?=some z/\y=V.str z:=by
 rw[aW]at h;cases e:zs[i]? with
 |none=>rw[e]at h;cases h
 |some z=>rw[e]at h;exact{z,9,(bR h).symm}
theorem fK{α β:Type}{R:α->β->Prop}:∀{xs zs:List α}{ys ws:List β},Paired R xs ys->Paired R zs ws->Paired R (xs++zs) (ys++ws)
 |_,_,_,_,.nil,h=>h
 |_,_,_,_,.cons a r,h=>.cons a (fK r h)
def EE(K:Frag)(H:Hp)(v:V)(a:aJ.Atom):Prop:=∃b c,v=.ref b/\aZ K H b [.str a.1,.ref c]/\aZ K H c (a.2.map V.str)
abbrev kK(K:Frag)(H:Hp):Aam->List aJ.Atom->Prop:=Paired (EE K H)
def EE.same{H H':Hp}{v:V}{a:aJ.Atom}(h:EE K H v a)(s:aK H H'):EE K H' v a:=by obtain⟨b,c,e,h1,h2⟩:=h;exact{b,c,e,gf h1 s,gf h2 s}
def kK.same{H H':Hp}{ys:Aam}{as:List aJ.Atom}(h:kK K H ys as)(s:aK H H'):kK K H' ys as:=by
 induction h with
 |nil=>exact .nil
 |cons h _ ih=>exact .cons (h.same s) ih
def lH(a:aJ.Atom):Prop:=a.2.length<=100/\PyData.strOk a.1=true/\∀z∈a.2,z.length<=100/\PyData.strOk z=true
inductive IW(K:Frag)(vs:Aam)(H:Hp)(Q:VK)(_x3:XK):Prop
 |mk (pl d:Addr) (v:V) (ys:Aam) (p:List aJ.Atom) (a:aJ.Atom) (g:df) (_:vs=[.ref pl,v,.ref d]) (_:bf K H pl ys) (_:kK K H ys p) (_:EE K H v a) (_:p.length<=1000) (_:(∀b∈p,lH b)) (_:lH a) (_:H d=some (.dK (gK g))) (_:∀H',aK H H'->Q (.bl (aJ.zH bo g p a)) H')
def AY:bZ ["part","atom","given","free"] ["part","atom","given"] (defScope vM):=gC 53
def iZ{H H':Hp}{a:Addr}{xs:Aam}(q:bf K H a xs)(s:aK H H'):bf K H' a xs:=by
 rcases q with(q|⟨o,q⟩)|q
 ·exact .inl (.inl (s _ _ q))
 ·exact .inl (.inr {o,s _ _ q})
 ·exact .inr q
def Kp{f:Addr}{fd:FuncData}(F:dF K "is_touched" "is_touched" vM f fd)(T:Txt K mg)(D:Du P w K mg base):cK P w K mg base d7 3 f fd ["part","atom","given"] (IW K):=by
 refine F.ok AY (λ_ _ _ _ h=>by cases h;subst_vars;rfl) 54;obtain⟨pl,d,v,ys,p,a,g,rfl,jN,hp,ha,lp,fp,fa,hd,k⟩:=h;obtain⟨ab,ac,rfl,v8,qI⟩:=ha;refine{_,(aB (kx (i:=3) AY.nd 9 (Or.inr 9) (k9 9 (cV (fs:=["given"]) (fr:=[2])) (iy (bH b4 (pv 1) aO (λ_ _=>9))) (λ_ _ _ _=>(PW.pt (BR (gH (cl D.is_unknown hr 714)) (yP (Te (Tq (mK hr) (pv 0) (pv 1))))))) 731)) (aQ (bK (bM (zw 9) 9 T.Zi 53 (bW (WN 9 (GV (fs:=["free"]) (fr:=[3])) (dI (pv 0)) (λ_ _ _ _=>(bM (G0 9) 9 T.Zi 53 (bW (kZ 9 (cV (fs:=["other"]) (fr:=[0])) (LO (pv 1)) (λ_ _ _ _=>(ni (zZ) (pv 0) (bH (qH) (pv 1) aO (λ_ _=>9)) 650)))))))))))),?_}
 obtain⟨fl,f0,fz⟩:=fa
 let fr:Str->Bool:=λt=>bo t&&(aJ.get g t).isNone
 refine{_,9,_,_,_,_,9,9,v8,9,ac,9,⟨_,qI⟩,mN (xs:=a.2.map V.str) (λi zs H2=>aK H H2/\i<=a.2.length/\zs=((a.2.take i).filter fr).map V.str) 674 {aK.refl H,aP _,9} ?_ ?_ ?_}
 ·rintro i zs H2 hi ⟨s2,mB,rfl⟩;refine{gf qI s2,?_};rw[aj];have:=de fr (a.2.take i);rw[a9]at this;lia
 ·rintro i x zs H2 N hc ⟨s2,mB,rfl⟩ hN;obtain⟨z,hz,rfl⟩:=iP hc;have bO:=(au.mp hz).1;refine{_,rfl,z,rfl,by have:=(fz z (az hz)).1;lia,λH3 s3=>{_,9,?_}};have xm:=s2.trans s3;have fin:∀H4,aK H H4->if fr z=true then N ((((a.2.take i).filter fr).map V.str)++[.str z]) H4 else N (((a.2.take i).filter fr).map V.str) H4:=λH4 s4=>by
   refine dU 668 668
   ·refine hN _ _ {s4,bO,?_};rw[bj,hz,eA,aH];show _=_++List.map V.str (List.filter fr [z]);rw[cS,aM c];rfl
   ·refine hN _ _ {s4,bO,?_};rw[bj,hz,eA,aH];show _=_++List.map V.str (List.filter fr [z]);rw[cS,aI c];simp
  refine dU 668 668
  ·refine{_,9,_,9,d,_,9,kW.k (k:=Sum.inr z) (xm _ _ hd),_,9,?_};have e:(!(iG (gK g) (Sum.inr z:Key)).isSome)=fr z:=by rw[qQ];show _=(bo z&&_);rw[show bo z=true from c];cases aJ.get g z<;>rfl
   rw[e];have:=fin H3 xm;cases q:fr z with
   |true=>rw[q]at this;exact⟨_,rfl,this⟩
   |false=>rw[q]at this;exact this
  ·have q:fr z=false:=by show(bo z&&_)=false;rw[show bo z=false by simpa using c];rfl
   have:=fin H3 xm;rw[q]at this;exact this
 rintro zs H2 ⟨s2,_,rfl⟩ l hl;rw[aj,aS];generalize ZS:a.2.filter fr=Ey;have lfe:Ey.length<=100:=by rw[<-ZS];have:=de fr a.2;lia
 have s3:aK H (upd H2 l (.lst (Ey.map V.str))):=s2.trans (aA hl _);have t7:upd H2 l (.lst (Ey.map V.str)) l=some (.lst (Ey.map V.str)):=av;generalize (upd H2 l (.lst (Ey.map V.str)))=H3 at s3 t7⊢;have Mr:=bc hp;refine{_,9,pl,9,{_,iZ jN s3},iS (xs:=ys) (λi zs H4=>aK H3 H4/\i<=p.length/\zs=((p.take i).map λo=>Ey.any λt=>decide (t∈o.2)).map V.bl) (bt ∅) {aK.refl _,aP _,9} ?_ ?_ ?_}
 ·rintro i zs H4 hi ⟨s4,mB,rfl⟩;refine{iZ jN (s3.trans s4),?_};rw[aj,aj,a9];lia
 ·rintro i x zs H4 N hc ⟨s4,mB,rfl⟩ hN;obtain⟨o,ho,hxo⟩:=Paired.at' hp hc;have bO:=(au.mp ho).1;obtain⟨ob,oc,rfl,hob,ZI⟩:=hxo.same (s3.trans s4);obtain⟨ol,_,oz⟩:=fp o (az ho);refine{_,9,l,9,{_,bf.of (s4 _ _ t7)},iS (xs:=Ey.map V.str) (λj us H5=>H5=H4/\j<=Ey.length/\us=((Ey.take j).map λt=>decide (t∈o.2)).map V.bl) 674 {9,aP _,9} ?_ ?_ ?_}
  ·rintro j us H5 hj ⟨rfl,zh,rfl⟩;refine{bf.of (s4 _ _ t7),?_};rw[aj,aj,a9];lia
  ·rintro j y us H5 M hcy ⟨rfl,zh,rfl⟩ hM;obtain⟨t,ht,rfl⟩:=iP hcy;have hjt:=(au.mp ht).1;refine{_,9,_,9,_,_,_,_,9,9,hob,9,oc,_,9,.inr ZI,9,zo _,?_};rw[vm];refine hM _ _ {9,hjt,?_};rw[bj,ht,aH,aH];rfl
  ·rintro us H5 ⟨rfl,_,rfl⟩ q hq;rw[aj,aS];refine{q,_,9,bf.of av,hN _ _ {s4.trans (aA hq _),bO,?_}};rw[bj,ho,aH,aH,mn];rfl
 ·rintro zs H4 ⟨s4,_,rfl⟩ q hq;rw[Mr,aS];refine{q,_,9,bf.of av,?_};have e:((p.map λo=>Ey.any λt=>decide (t∈o.2)).any id)=aJ.zH bo g p a:=by rw[mn,<-ZS];rfl
  rw[e];exact k _ (s3.trans (s4.trans (aA hq _)))
structure Dt2(P:Program)(w:World)(K:Frag)(mg:Aab)(base:Heap):Prop extends Df P w K mg base where
 is_touched:cq P w K mg base 3 "is_touched" ["part","atom","given"] (IW K)
def Dg(K:Frag)(H:Hp):Aam->List (List aJ.Atom)->Prop:=Paired λv p=>∃l ys,v=.ref l/\H l=some 679/\kK K H ys p
def Dg.same{H H':Hp}{vs:Aam}{ps:List (List aJ.Atom)}(h:Dg K H vs ps)(s:aK H H'):Dg K H' vs ps:=by
 unfold Dg at h⊢
 induction h with
 |nil=>exact .nil
 |cons h _ ih=>
  obtain⟨l,ys,e,h1,h2⟩:=h;exact .cons {l,ys,e,s _ _ h1,h2.same s} ih
inductive IX(K:Frag)(vs:Aam)(H:Hp)(Q:VK)(_x3:XK):Prop
 |mk (l d:Addr) (ys:Aam) (as:List aJ.Atom) (g:df) (_:vs=[.ref l,.ref d]) (_:bf K H l ys) (_:kK K H ys as) (_:as.length<=100) (_:(∀b∈as,lH b)) (_:H d=some (.dK (gK g))) (_:∀p Bx H',aK H H'->H p=none->H' p=some (.lst Bx)->Dg K H' Bx (aJ.partsOf bo g as)->Q (.ref p) H')
def kj:bZ ["atoms","given","parts","atom","part","beside","earlier"] ["atoms","given"] (defScope zQ):=gC 53
theorem Ae{n:Nat}:∀{l:List Nat},n∈l->n<=l.sum
 |[],h=>by cases h
 |m::l,h=>by
  rw[jV];rcases aN.mp h with rfl|h
  ·lia
  ·have:=Ae h;lia
def QO{g:df}(as:List aJ.Atom)(fa:∀b∈as,lH b):∀q∈as.foldl (aJ.pJ bo g) [],q.length<=as.length/\∀b∈q,lH b:=λq hq=>by obtain⟨_,h2,h3,_⟩:=aJ.E2 as [] [] .nil 59 59 59;rw[jQ]at h3;refine{?_,λb hb=>fa b (by simpa using(h2 b).mpr ⟨q,hq,hb⟩)};rw[<-h3];exact Ae (aE.mpr ⟨q,hq,rfl⟩)
def Oe{f:Addr}{fd:FuncData}(F:dF K "parts_of" "parts_of" zQ f fd)(T:Txt K mg)(D:Dt2 P w K mg base):cK P w K mg base d7 4 f fd ["atoms","given"] (IX K):=by
 refine F.ok kj (λ_ _ _ _ h=>by cases h;subst_vars;rfl) 54;obtain⟨l,d,ys,as,g,rfl,hl,kD,la,fa,hd,k⟩:=h;refine{_,(aB (dM 2 kj (dR iz)) (aB (dJ bE 9 (dI (pv 0)) (gg 3 kj) (aB (dM 4 kj (dR (bW (pv 3)))) (aB (dM 5 kj (dR iz)) (aB (dJ bE 9 (dI (pv 2)) (gg 6 kj) (aQ (dg (gH (cl D.is_touched hr (jX (pv 6) (pv 3) (pv 1)))) (aQ (dM 4 kj (c9 vR (pv 6) (pv 4)))) (aQ (fR (iL bI gN gM qG (pv 5) (bW (pv 6)))))))) (aQ (dM 2 kj (c9 vR (pv 5) (dR (bW (pv 4)))))))))) (aQ (bK (pv 2))))),?_}
 refine{399,λpp PD=>?_};have s0:aK H (upd H pp 661):=aA PD _;have mZ:upd H pp 661 pp=some 661:=av;refine{_,rfl,l,rfl,{_,iZ hl s0},gL (xs:=ys) (λi Z H2=>∃(x3 x4 x5 x6:Aan)(pq:Addr)(vs:Aam),Z=[some 720,some 705,some (.ref pq),x3,x4,x5,x6]/\i<=as.length/\aK H H2/\H pq=none/\H2 pq=some (.lst vs)/\Dg K H2 vs ((as.take i).foldl (aJ.pJ bo g) [])/\vs.length<=i)
  {_,_,_,_,pp,[],9,aP _,s0,PD,mZ,.nil,aw _} ?_ ?_ ?_}
 ·rintro i Z H2 hi ⟨_,_,_,_,pq,vs,rfl,mB,s2,_⟩;exact iZ hl s2
 ·rintro i x Z H2 hx ⟨_,_,_,_,pq,vs,rfl,mB,s2,Pz,MS,Et,lvs⟩;obtain⟨a,ha,Ce⟩:=Paired.at' kD hx;have bO:=(au.mp ha).1;have fa1:=fa a (az ha);refine{_,9,(by show 1<=sizeLine;decide),λp1 jD=>?_};have s3:aK H2 (upd H2 p1 (.lst [x])):=aA jD _;have gh:upd H2 p1 (.lst [x]) p1=some (.lst [x]):=av;generalize (upd H2 p1 (.lst [x]))=H3 at s3 gh⊢;refine{399,λbs Cp=>?_};have s4:aK H3 (upd H3 bs 661):=aA Cp _;have PX:upd H3 bs 661 bs=some 661:=av;have xm:=s2.trans s3;have adH:=Ce.same xm;have adL:=Et.same s3;have e0:(as.take (i+1)).foldl (aJ.pJ bo g) []=aJ.pJ bo g ((as.take i).foldl (aJ.pJ bo g) []) a:=by rw[bj,ha,pM];rfl
  have Vi:=QO (g:=g) (as.take i) λb hb=>fa b (iM hb);rw[e0];generalize ahH:(as.take i).foldl (aJ.pJ bo g) []=ps at Et adL Vi;have Vi:∀q∈ps,q.length<=i/\∀b∈q,lH b:=λq hq=>{bu (Vi q hq).1 (by rw[a9];lia),(Vi q hq).2};have lps:=bc Et
  let st:List aJ.Atom×List (List aJ.Atom)->List aJ.Atom->List aJ.Atom×List (List aJ.Atom):=λacc p=>if aJ.zH bo g p a then(p++acc.1,acc.2)else(acc.1,acc.2++[p])
  refine{_,rfl,pq,rfl,{_,bf.of (s4 _ _ (s3 _ _ MS))},gL (xs:=vs) (λj Z H5=>∃(x6:Aan)(p2:Addr)(Je EC:Aam),Z=[some 720,some 705,some (.ref pq),some x,some (.ref p2),some (.ref bs),x6]/\j<=ps.length/\aK H3 H5/\H5 p2=some (.lst Je)/\p2≠bs/\H5 bs=some (.lst EC)/\
    kK K H3 Je ((ps.take j).foldl st ([a],[])).1/\Dg K H3 EC ((ps.take j).foldl st ([a],[])).2/\EC.length<=j/\((ps.take j).foldl st ([a],[])).1.length<=1+i*j/\(∀b∈((ps.take j).foldl st ([a],[])).1,lH b)/\∀q∈((ps.take j).foldl st ([a],[])).2,q∈ps)
   {_,p1,[x],[],9,aP _,s4,s4 _ _ gh,(λe=>by rw[<-e,gh]at Cp;cases Cp),PX,.cons adH .nil,.nil,aw _,59,λb hb=>(aC.mp hb▸fa1),λq hq=>(by cases hq)} ?_ ?_ ?_}
  ·rintro j Z H5 hj ⟨_,p2,Je,EC,rfl,zh,s5,_⟩;exact bf.of (s5 _ _ (s3 _ _ MS))
  ·rintro j y Z H5 hy ⟨_,p2,Je,EC,rfl,zh,s5,PF,n5,zj,JB,M6,lbv,T7,P5,sub⟩;obtain⟨p,hp,e,P6,rfl,JG,zi⟩:=Paired.at' adL hy;have lP:=(au.mp hp).1;have mp:=az hp;have e1:(ps.take (j+1)).foldl st ([a],[])=st ((ps.take j).foldl st ([a],[])) p:=by rw[bj,hp,pM];rfl
   generalize (ps.take j).foldl st ([a],[])=acc at JB M6 T7 P5 sub e1;obtain⟨lp1,fp1⟩:=Vi p mp;refine{_,9,_,9,_,9,e,d,x,P6,p,a,g,9,bf.of (s5 _ _ JG),zi.same s5,adH.same s5,8,fp1,fa1,s5 _ _ (xm _ _ hd),λH6 s6=>{_,9,?_}};have s56:=s5.trans s6;refine dU 668 668
   ·have c:=c;have e2:st acc p=(p++acc.1,acc.2):=aM c;rw[e1,e2];have le1:=bc zi;have le2:=bc JB;have NT:acc.1.length<=1+100*100:=bu T7 (Bo (Nat.mul_le_mul ∅ ∅) 1);refine{_,9,_,9,e,p2,P6,Je,9,9,s56 _ _ JG,s6 _ _ PF,by rw[bX];lia,λp3 gh=>?_};refine{_,p3,_,EC,9,lP,s56.trans (aA gh _),av,λe=>?_,?_,fK zi JB,M6,8,?_,694,sub}
    ·rw[e,s6 _ _ zj]at gh;cases gh
    ·rw[aL (bC (s6 _ _ zj) gh)];exact s6 _ _ zj
    ·show(p++acc.1).length<=_;rw[aD,lO];lia
    ·rcases aV.mp hb with hb|hb
     ·exact fp1 b hb
     ·exact P5 b hb
   ·have c:=c;have e2:st acc p=(acc.1,acc.2++[p]):=aI c;rw[e1,e2];refine{_,9,.inl {9,_,bf.of (s6 _ _ zj)},_,9,bs,EC,_,9,9,s6 _ _ zj,by rw[bX];lia,?_};refine{_,p2,Je,_,9,lP,λb u h=>?_,?_,n5,av,JB,fK M6 (.cons ⟨e,P6,rfl,JG,zi⟩ .nil),aD▸gO lbv,?_,P5,λq hq=>?_}
    ·rw[aL (bC h Cp)];exact s56 _ _ h
    ·rw[aL n5];exact s6 _ _ PF
    ·show acc.1.length<=_;rw[lO];lia
    ·rcases aV.mp hq with hq|hq
     ·exact sub q hq
     ·rw[aC.mp hq];exact mp
  ·rintro Z H5 ⟨_,p2,Je,EC,rfl,_,s5,PF,n5,zj,JB,M6,lbv,T7,P5,sub⟩;rw[lps,aS]at JB M6 T7 P5 sub;have es:ps.foldl st ([a],[])=aJ.step bo g a ps:=by
    cases ps with
    |nil=>rfl
    |cons q r=>rfl
   rw[es]at JB M6 T7 P5 sub;refine{_,9,_,9,(by show 1<=sizeLine;decide),λq1 MT=>?_};have s6:aK H5 (upd H5 q1 (.lst [.ref p2])):=aA MT _;have hq6:upd H5 q1 (.lst [.ref p2]) q1=some (.lst [.ref p2]):=av;generalize (upd H5 q1 (.lst [.ref p2]))=H6 at s6 hq6⊢;refine{bs,q1,EC,_,9,9,s6 _ _ zj,hq6,by rw[bX,dv];lia,λr hr=>?_};have s7:aK H6 (upd H6 r (.lst (EC++[.ref p2]))):=aA hr _;have s37:=s5.trans (s6.trans s7);have r0:H r=none:=by
    cases e:H r with
    |none=>rfl
    |some u=>
     have:=s5.trans s6 _ _ (xm _ _ e);rw[hr]at this;cases this
   refine{_,_,_,_,r,_,9,bO,xm.trans s37,r0,av,?_,?_}
   ·unfold aJ.pJ;exact fK (Dg.same M6 s37) (.cons {p2,Je,9,s7 _ _ (s6 _ _ PF),kK.same JB s37} .nil)
   ·rw[aD,dv];lia
 ·rintro Z H2 ⟨_,_,_,_,pq,vs,rfl,mB,s2,Pz,MS,Et,_⟩;rw[(bc kD),aS]at Et;exact{_,9,k pq vs H2 s2 Pz MS Et}
variable{C:Addr}
def cN(H H':Hp):Prop:=∀b xs,Rd H b 672->Rd H' b 672
def cN.refl(H:Hp):cN H H:=λ_ _ h=>h
def cN.trans(a:cN H H1)(b:cN H1 H2):cN H H2:=λx xs h=>b x xs (a x xs h)
def cN.same(s:aK H H'):cN H H':=λb xs h=>by
 rcases h with h|⟨o,h⟩
 ·exact .inl (s _ _ h)
 ·exact .inr {o,s _ _ h}
def vh(H:Hp)(a:Addr):Prop:=∀xs,¬Rd H a 672
def cN.upd(h:vh H a):cN H (upd H a o):=λb xs q=>by
 have hb:b≠a:=λe=>h xs (e▸q);rcases q with q|⟨o',q⟩
 ·exact .inl (by rw[aL hb];exact q)
 ·exact .inr {o',by rw[aL hb];exact q}
def Q0{H:Hp}{a:Addr}(h:H a=none):vh H a:=λxs q=>by rcases q with q|⟨o,q⟩<;>rw[h]at q<;>cases q
def TQ(h:H a=some (.ext φ)):vh H a:=λxs q=>by rcases q with q|⟨o,q⟩<;>rw[h]at q<;>cases q
def vS(h:H a=some (.dK l)):vh H a:=λxs q=>by rcases q with q|⟨o,q⟩<;>rw[h]at q<;>cases q
def B4(h:H a=some (.ins C dx l)):vh H a:=λxs q=>by rcases q with q|⟨o,q⟩<;>rw[h]at q<;>cases q
def hX(q:aZ K H a xs)(t:cN H H'):aZ K H' a xs:=by
 rcases q with q|q
 ·exact .inl (t _ _ q)
 ·exact .inr q
mutual
theorem Y7(t:cN H H'):∀(k:NK)(v:V),NV K H k v->NV K H' k v
 | .cz,v,h=>by rw[NV]at h⊢;exact h
 | .key k,v,h=>by rw[NV]at h⊢;exact h
 | .tup ks,v,h=>by rw[NV]at h⊢;obtain⟨a,xs,e,hq,hs⟩:=h;exact{a,xs,e,hX hq t,TJ t ks xs hs}
theorem TJ(t:cN H H'):∀(ks:List NK)(vs:Aam),rR K H ks vs->rR K H' ks vs
 |[],vs,h=>by rw[rR]at h⊢;exact h
 |k::ks,vs,h=>by rw[rR]at h⊢;obtain⟨x,r,e,h1,h2⟩:=h;exact{x,r,e,Y7 t k x h1,TJ t ks r h2}
end
def oZ{H H':Hp}{k:NK}{a:Addr}(h:iI K H k a)(t:cN H H'):iI K H' k a:={Y7 t _ _ h.1,h.2}
def _root_.L2.iC.tp{H H':Hp}{d:Addr}{kvs:List 648}(h:iC P w K H d kvs)(t:cN H H')(e:H' d=H d):iC P w K H' d kvs:={e▸h.1,λp hp=>oZ (h.2 p hp) t}
def _root_.L2.iC.some{H:Hp}{d:Addr}{kvs:List 648}(h:iC P w K H d kvs):∃u,H d=some u:=by rcases h.1 with h|⟨_,h⟩<;>exact⟨_,h⟩
def _root_.L2.iC.oV{H:Hp}{d:Addr}{kvs:List 648}(h:iC P w K H d kvs):vh H d:=by
 rcases h.1 with h|⟨_,h⟩
 ·exact TQ h
 ·exact vS h
def _root_.L2.iC.put{H:Hp}{d b:Addr}{kvs:List 648}{k:NK}{v:V}(h:iC P w K H d kvs)(hk:iI K H k b):iC P w K (upd H d (.ext (DN P w d (putN kvs k b v)))) d (putN kvs k b v):=by
 have t:cN H (upd H d (.ext (DN P w d (putN kvs k b v)))):=cN.upd h.oV;refine{.inl av,695};rcases Mo hp with⟨q,hq,e1,e2⟩|⟨e1,e2⟩
 ·rw[e1,e2];exact oZ (h.2 q hq) t
 ·rw[e1,e2];exact oZ hk t
def DG{H:Hp}{p:Addr}(h:H p=Option.some 655):iC P w K H p []:={.inr ⟨rfl,h⟩,λ_ hp=>by cases hp}
def EE.tp{H H':Hp}{v:V}{a:aJ.Atom}(h:EE K H v a)(t:cN H H'):EE K H' v a:=by obtain⟨b,c,e,h1,h2⟩:=h;exact{b,c,e,hX h1 t,hX h2 t}
def kK.tp{H H':Hp}{ys:Aam}{as:List aJ.Atom}(h:kK K H ys as)(t:cN H H'):kK K H' ys as:=by
 induction h with
 |nil=>exact .nil
 |cons h _ ih=>exact .cons (h.tp t) ih
abbrev Rl:=NK->Aaf->Prop
structure gj(P:Program)(w:World)(K:Frag)(H0 H:Hp)(A:Addr)(kvs:List 648)(R:Rl)(n:Nat):Prop where
 at_:iC P w K H A kvs
 len:kvs.length<=n
 own:H0 A=none
 vals:∀k v,valN kvs k=some v->∃d inner,v=.ref d/\d≠A/\H0 d=none/\iC P w K H d inner/\inner.length<=n/\(inner.map (·.1)).Nodup/\(∀p∈inner,p.2.2=.bl true)/\∀j,(∃p∈inner,p.1=j)↔∃zs,R k zs/\j=iR zs
 no:∀k,valN kvs k=none->∀zs,¬R k zs
 inj:∀k k' d,valN kvs k=some 705->valN kvs k'=some 705->k=k'
def gj.congr{H0 H:Hp}{A:Addr}{kvs:List 648}{R R':Rl}{n:Nat}(x:gj P w K H0 H A kvs R n)(e:∀k zs,R k zs↔R' k zs):gj P w K H0 H A kvs R' n:=
 {x.at_,x.len,x.own,λk v h=>by obtain⟨d,inner,h1,h2,h3,h4,h5,h6,h7,h8⟩:=x.vals k v h;exact{d,inner,h1,h2,h3,h4,h5,h6,h7,λj=>(h8 j).trans {λ⟨zs,a,b⟩=>{zs,(e _ _).mp a,b},λ⟨zs,a,b⟩=>{zs,(e _ _).mpr a,b}}},λk h zs q=>x.no k h zs ((e _ _).mpr q),x.inj}
def gj.mono{H0 H:Hp}{A:Addr}{kvs:List 648}{R:Rl}{n m:Nat}(x:gj P w K H0 H A kvs R n)(e:n<=m):gj P w K H0 H A kvs R m:=
 {x.at_,bu x.len e,x.own,λk v h=>by obtain⟨d,inner,h1,h2,h3,h4,h5,h6,h7,h8⟩:=x.vals k v h;exact{d,inner,h1,h2,h3,h4,bu h5 e,h6,h7,h8},x.no,x.inj}
def gj.move{H0 H H':Hp}{A:Addr}{kvs:List 648}{R:Rl}{n:Nat}(x:gj P w K H0 H A kvs R n)(t:cN H H')(e:∀b,H0 b=none->(b=A\/∃k,valN kvs k=some (.ref b))->H' b=H b):gj P w K H0 H' A kvs R n:=
 {x.at_.tp t (e A x.own (.inl 9)),x.len,x.own,λk v h=>by obtain⟨d,inner,h1,h2,h3,h4,h5,h6,h7,h8⟩:=x.vals k v h;exact{d,inner,h1,h2,h3,h4.tp t (e d h3 (.inr {k,by rw[h,h1]})),h5,h6,h7,h8},x.no,x.inj}
def gj.ade{H0 H:Hp}{A b p:Addr}{kvs:List 648}{R:Rl}{n:Nat}{k:NK}(x:gj P w K H0 H A kvs R n)(hn:valN kvs k=none)(hk:iI K H k b)(hp:H p=some 655)(h0:H0 p=none)(pA:p≠A)(pd:∀k' d,valN kvs k'=some 705->d≠p):
  gj P w K H0 (upd H A 660) A (putN kvs k b 676) R (n+1):=by
 have t:cN H (upd H A 660):=cN.upd x.at_.oV;refine{x.at_.put hk,bu vO (gO x.len),x.own,λk' v h=>?_,λk' h=>?_,λk1 k2 d h1 h2=>?_}
 ·rw[tN]at h;by_cases c:k'=k
  ·rw[aM c]at h;cases h;refine{p,[],9,pA,h0,(DG hp).tp t (by rw[aL pA]),aP _,59,λq hq=>(by cases hq),λj=>{λ⟨q,hq,_⟩=>(by cases hq),λ⟨zs,hz,_⟩=>absurd (c▸hz) (x.no k hn zs)}}
  ·rw[aI c]at h;obtain⟨d,inner,h1,h2,h3,h4,h5,h6,h7,h8⟩:=x.vals k' v h;exact{d,inner,h1,h2,h3,h4.tp t (by rw[aL h2]),uY h5,h6,h7,h8}
 ·rw[tN]at h;by_cases c:k'=k
  ·rw[aM c]at h;cases h
  ·rw[aI c]at h;exact x.no k' h
 ·rw[tN]at h1 h2;by_cases c1:k1=k
  ·by_cases c2:k2=k
   ·rw[c1,c2]
   ·rw[aM c1]at h1;rw[aI c2]at h2;cases h1;exact absurd rfl (pd k2 _ h2)
  ·by_cases c2:k2=k
   ·rw[aI c1]at h1;rw[aM c2]at h2;cases h2;exact absurd rfl (pd k1 _ h1)
   ·rw[aI c1]at h1;rw[aI c2]at h2;exact x.inj k1 k2 d h1 h2
def gj.put{H0 H:Hp}{A c d:Addr}{kvs:List 648}{R:Rl}{n:Nat}{k:NK}{zs:Aaf}(x:gj P w K H0 H A kvs R n)(hv:valN kvs k=some 705)(hc:iI K H (iR zs) c):
  ∃inner,iC P w K H d inner/\inner.length<=n/\H0 d=none/\d≠A/\gj P w K H0 (upd H d (.ext (DN P w d 711))) A kvs (λk' z'=>R k' z'\/(k'=k/\z'=zs)) (n+1):=by
 obtain⟨d',inner,e,h2,h3,h4,h5,h6,h7,h8⟩:=x.vals k _ hv;cases e;have t:cN H (upd H d (.ext (DN P w d 711))):=cN.upd h4.oV;refine{inner,h4,h5,h3,h2,x.at_.tp t (by rw[aL (cM h2)]),uY x.len,x.own,λk' v h=>?_,λk' h OC q=>?_,x.inj}
 ·by_cases ck:k'=k
  ·subst ck;rw[hv]at h;cases h;refine{d,_,9,h2,h3,h4.put hc,bu vO (gO h5),QZ h6,λq hq=>?_,λj=>?_}
   ·unfold putN at hq;split at hq
    ·obtain⟨q0,Pz,rfl⟩:=aE.mp hq;split
     ·rfl
     ·exact h7 q0 Pz
    ·rcases aV.mp hq with hq|hq
     ·exact h7 q hq
     ·rw[aC.mp hq]
   ·rw[Ul,h8 j];constructor
    ·rintro(rfl|⟨z',a,b⟩)
     ·exact{zs,.inr ⟨rfl,rfl⟩,9}
     ·exact{z',.inl a,b}
    ·rintro⟨z',a|⟨_,a⟩,b⟩
     ·exact .inr ⟨z',a,b⟩
     ·exact .inl (by rw[b,a])
  ·obtain⟨d1,adw,e1,g2,g3,g4,g5,g6,g7,g8⟩:=x.vals k' v h;have nd:d1≠d:=λe=>ck (x.inj k' k d (by rw[h,e1,e]) hv);refine{d1,adw,e1,g2,g3,g4.tp t (by rw[aL nd]),uY g5,g6,g7,λj=>(g8 j).trans {λ⟨OC,a,b⟩=>{OC,.inl a,b},λ⟨OC,a,b⟩=>{OC,a.elim id λq=>absurd q.1 ck,b}}}
 ·rcases q with q|⟨q,_⟩
  ·exact x.no k' h OC q
  ·rw[q,hv]at h;cases h
def si(H H':Hp):Prop:=∀b C dx fs,H b=some (.ins C dx fs)->H' b=some (.ins C dx fs)
def si.refl(H:Hp):si H H:=λ_ _ _ _ h=>h
def si.trans{H H1 H2:Hp}(a:si H H1)(b:si H1 H2):si H H2:=λx c d f h=>b x c d f (a x c d f h)
def si.same{H H':Hp}(s:aK H H'):si H H':=λb _ _ _ h=>s _ _ h
def si.dict{H:Hp}{d:Addr}{kvs:List 648}{o:HO}(h:iC P w K H d kvs):si H (upd H d o):=λb c dx fs q=>by
 have:b≠d:=λe=>by rw[e]at q;rcases h.1 with h|⟨_,h⟩<;>rw[h]at q<;>cases q
 rw[aL this];exact q
structure Hb(P:Program)(w:World)(K:Frag)(H0 H H':Hp)(A:Addr)(R:Rl)(n:Nat):Prop where
 sm:aK H0 H'
 tp:cN H H'
 is:si H H'
 ai:∃kvs,gj P w K H0 H' A kvs R n
def gj.same{H0 H H':Hp}{A:Addr}{kvs:List 648}{R:Rl}{n:Nat}(x:gj P w K H0 H A kvs R n)(s:aK H H'):gj P w K H0 H' A kvs R n:=x.move (cN.same s) λq _ h=>by
 rcases h with rfl|⟨k',h⟩
 ·obtain⟨u,hu⟩:=x.at_.some;rw[hu,s _ _ hu]
 ·obtain⟨d',_,e',_,_,h4,_⟩:=x.vals k' _ h;cases e';obtain⟨u,hu⟩:=h4.some;rw[hu,s _ _ hu]
def ab1{H0 H:Hp}{A b c p:Addr}{kvs:List 648}{R R':Rl}{n:Nat}{k:NK}{zs:Aaf}{Nx:Hp->Prop}(x:gj P w K H0 H A kvs R n)(sm:aK H0 H)(hk:iI K H k b)(hc:iI K H (iR zs) c)(hn:n+2<10000000)(hp:H p=some 655)(h0:H0 p=none)(pA:p≠A)(pd:∀k' d,valN kvs k'=some 705->d≠p)
  (hR:∀k' z',R' k' z'↔R k' z'\/(k'=k/\z'=zs)) (nx:∀H',Hb P w K H0 H H' A R' (n+2)->Nx H'):
  (∀v,valN kvs k=some v->∃a inner,v=.ref a/\iC P w K H a inner/\iI K H (iR zs) c/\inner.length<10000000/\Nx (upd H a (.ext (DN P w a 711))))/\
  (valN kvs k=none->∃inner,iC P w K (upd H A 660) p inner/\iI K (upd H A 660) (iR zs) c/\inner.length<10000000/\
   Nx (upd (upd H A 660) p (.ext (DN P w p 711)))):=by
 have own:∀{d:Addr}{o:HO}{H1:Hp},aK H0 H1->H0 d=none->aK H0 (upd H1 d o):=λ{d o H1} s h q u e=>by rw[aL (bC e h)];exact s _ _ e
 refine{λv hv=>?_,λhv=>?_}
 ·obtain⟨a,_,rfl,_⟩:=x.vals k v hv;obtain⟨inner,g1,g2,g3,g4,g5⟩:=x.put hv hc;exact{a,inner,9,g1,hc,8,nx _ {own sm g3,cN.upd g1.oV,si.dict g1,kvs,(g5.congr λk' z'=>(hR k' z').symm).mono ∅}}
 ·have y:=x.ade hv hk hp h0 pA pd;have t1:cN H (upd H A 660):=cN.upd x.at_.oV;have PU:=oZ hc t1;obtain⟨inner,g1,g2,g3,g4,g5⟩:=y.put (by rw[tN,aM rfl]) PU;exact{inner,g1,PU,8,nx _ {own (own sm x.own) g3,t1.trans (cN.upd g1.oV),(si.dict x.at_).trans (si.dict g1),_,g5.congr λk' z'=>(hR k' z').symm}}
def Tc{H0 H H2:Hp}{A b c p:Addr}{xs:Aam}{kvs:List 648}{R R':Rl}{n:Nat}{k:NK}{zs:Aaf}{Nx:Hp->Prop}(gX:aK H0 H2)(K3:cN H H2)(xt:si H H2)(x:gj P w K H0 H2 A kvs R n)(hb:H2 b=none)(hp:upd H2 b 672 p=none)
  (yh:∀H3,aZ K H3 b xs->iI K H3 k b) (hc:iI K H2 (iR zs) c) (hn:n+2<10000000) (hR:∀k' z',R' k' z'↔R k' z'\/(k'=k/\z'=zs)) (nx:∀H',Hb P w K H0 H H' A R' (n+2)->Nx H'):
  iC P w K (upd (upd H2 b 672) p 655) A kvs/\iI K (upd (upd H2 b 672) p 655) k b/\kvs.length<10000000/\
  (∀v,valN kvs k=some v->∃a inner,v=.ref a/\iC P w K (upd (upd H2 b 672) p 655) a inner/\iI K (upd (upd H2 b 672) p 655) (iR zs) c/\inner.length<10000000/\Nx (upd (upd (upd H2 b 672) p 655) a (.ext (DN P w a 711))))/\
  (valN kvs k=none->∃inner,iC P w K (upd (upd (upd H2 b 672) p 655) A 660) p inner/\iI K (upd (upd (upd H2 b 672) p 655) A 660) (iR zs) c/\inner.length<10000000/\
   Nx (upd (upd (upd (upd H2 b 672) p 655) A 660) p (.ext (DN P w p 711)))):=by
 have s3:aK H2 (upd H2 b 672):=aA hb _;have s4:aK (upd H2 b 672) (upd (upd H2 b 672) p 655):=aA hp _;have pz:=s3.trans s4;have PX:aZ K (upd (upd H2 b 672) p 655) b xs:=aZ.of (s4 _ _ av);have Gv:upd (upd H2 b 672) p 655 p=some 655:=av;have p2:H2 p=none:=by
  cases e:H2 p with
  |none=>rfl
  |some u=>rw[s3 _ _ e]at hp;cases hp
 have p0:H0 p=none:=by
  cases e:H0 p with
  |none=>rfl
  |some u=>rw[gX _ _ e]at p2;cases p2
 obtain⟨uA,hA⟩:=x.at_.some;have pd:∀k' d,valN kvs k'=some 705->d≠p:=λk' d h e=>by obtain⟨d',_,e',_,_,h4,_⟩:=x.vals k' _ h;cases e';obtain⟨u,hu⟩:=h4.some;rw[e,p2]at hu;cases hu
 have x4:=x.move (cN.same pz) λq _ h=>by
  rcases h with rfl|⟨k',h⟩
  ·rw[hA,pz _ _ hA]
  ·obtain⟨d',_,e',_,_,h4,_⟩:=x.vals k' _ h;cases e';obtain⟨u,hu⟩:=h4.some;rw[hu,pz _ _ hu]
 obtain⟨q1,q2⟩:=ab1 x4 (gX.trans pz) (yh _ PX) (oZ hc (cN.same pz)) hn Gv p0 (λe=>by rw[e,hA]at p2;cases p2) pd hR λH' pt=>nx H' {pt.sm,K3.trans ((cN.same pz).trans pt.tp),xt.trans ((si.same pz).trans pt.is),pt.ai};exact{x4.at_,yh _ PX,fW x4.len ∅,q1,q2}
def acz(h:∀R:L2.St->Hp->Prop,(∀σ' H',u D σ' H'->R σ' H')->t {D with nx:=R} Z H):ack t u D Z H:=h (u D) λ_ _ x=>x
def Hit(k:NK)(a:aJ.Atom):Prop:=k=yV a.1 a.2.length\/∃i t,a.2[i]?=some t/\k=xq a.1 a.2.length i t
def hits(L:List aJ.Atom):Rl:=λk zs=>∃a∈L,Hit k a/\zs=a.2
structure Own(K:Frag)(C:Addr):Prop where
 c:Dd K C
 aims:ug K C "aims"
 vain:ug K C "vain"
inductive YG(P:Program)(w:World)(K:Frag)(C:Addr)(vs:Aam)(H:Hp)(Q:VK)(_x3:XK):Prop
 |mk (self t dx A:Addr) (fs:List (Str×V)) (ys:Aam) (L M:List aJ.Atom) (kvs:List (NK×Addr×V)) (H0:Hp) (n:Nat) (_:vs=[.ref self,.ref t]) (_:H self=some (.ins C dx fs)) (_:fs.lookup ("aims":Str)=some (.ref A)) (_:fs.length<1000) (_:H0 self=none) (_:aZ K H t ys) (_:kK K H ys M) (_:M.length<=100) (_:(∀a∈M,lH a)) (_:aK H0 H) (_:gj P w K H0 H A kvs (hits L) n) (_:n<=1000000) (_:∀H' MD B,aK H0 H'->cN H H'->H0 B=none->H' self=some (.ins C dx (jk "vain" (.ref B) fs))->H' B=some (.dK [])->gj P w K H0 H' A MD (hits (L++M)) (n+300*M.length)->A≠B->(∀k d,valN MD k=some (.ref d)->d≠B)->Q .cz H')
def vG:bZ ["self","atoms","name","terms","place","term"] ["self","atoms"] (defScope Hr):=gC 53
def ac3{f:Addr}{fd:FuncData}(F:dF K "add" "MapSearch.add" Hr f fd)(T:Txt K mg)(O:Own K C):cK P w K mg base d7 2 f fd ["self","atoms"] (YG P w K C):=by
 refine F.ok vG (λ_ _ _ _ h=>by cases h;subst_vars;rfl) 54;obtain⟨self,t,dx,A,fs,ys,L,M,kvs,H0,n,rfl,hs,lk,lf,Vd,ht,kD,lM,fM,sm,ax,hn,k⟩:=h;have hN:=RC hr;refine{_,(aB (dJ bE 9 (iy (pv 1)) (jA 9 (cj (gg 2 vG) (cj (gg 3 vG) fY))) (aB (EY hN (F6 hN (yT (pv 0) 9) (d9 (cw (pv 2) (bM c6 9 T.eJ bG (bW (pv 3))))) jm ⟨rfl,rfl,rfl,rfl⟩) (pv 3) fJ 9) (aQ (dJ bE 9 (LQ 9 T.ye (bW (pv 3))) (jA 9 (cj (gg 4 vG) (cj (gg 5 vG) fY))) (aQ (EY hN (F6 hN (yT (pv 0) 9) (d9 (fh (pv 2) (jX (bM c6 9 T.eJ bG (bW (pv 3))) (pv 4) (pv 5)))) jm ⟨rfl,rfl,rfl,rfl⟩) (pv 3) fJ 9)))))) (aQ (LK (pv 0) jm 9))),?_}
 refine{_,9,t,9,⟨_,ht⟩,qJ (xs:=ys) (λi Z H2=>∃x2 x3 x4 x5:Aan,Z=[some (.ref self),some (.ref t),x2,x3,x4,x5]/\i<=M.length/\Hb P w K H0 H H2 A (hits (L++M.take i)) (n+300*i)) {_,_,_,_,9,aP _,sm,cN.refl H,si.refl H,kvs,by simpa using ax} ?_ ?_ ?_}
 ·rintro i Z H2 hi ⟨_,_,_,_,rfl,_,pt⟩;exact hX ht pt.tp
 ·rintro i x Z H2 hx ⟨_,_,_,_,rfl,hi,gX,K3,xt,Ui,NW⟩;obtain⟨a,ha,Ce⟩:=Paired.at' kD hx;have bO:=(au.mp ha).1;obtain⟨ab,ac,rfl,ag8,M9⟩:=Ce;have qI:=hX M9 K3;obtain⟨fl,f0,fz⟩:=fM a (az ha);refine{ab,_,9,(hX ag8 K3),9,_,_,9,_,_,9,9,?_};have lt:(a.2.map V.str).length=a.2.length:=aj _
  let Rj:Nat->Rl:=λj k' z'=>hits (L++M.take i) k' z'\/(z'=a.2/\(k'=yV a.1 a.2.length\/∃i' t',i'<j/\a.2[i']?=some t'/\k'=xq a.1 a.2.length i' t'))
  refine acz λNX hNX=>?_;have go:∀(x4 x5:Aan)(H3:Hp),Hb P w K H0 H H3 A (Rj 0) (n+300*i+2)->NX [some (.ref self),some (.ref t),some (.str a.1),some (.ref ac),x4,x5] H3:=λx4 x5 H3 pt=>by
   refine hNX _ _ ?_;refine{_,9,ac,9,{_,(hX M9 pt.tp)},Vj (xs:=a.2.map V.str) (λj Z H4=>∃x4 x5:Aan,Z=[some (.ref self),some (.ref t),some (.str a.1),some (.ref ac),x4,x5]/\j<=a.2.length/\Hb P w K H0 H H4 A (Rj j) (n+300*i+2+2*j)) {_,_,9,aP _,pt} ?_ ?_ ?_}
   ·rintro j Z H4 hj ⟨_,_,rfl,_,pt4⟩;exact hX M9 pt4.tp
   ·rintro j y q Z H4 hy ⟨_,_,rfl,hj,uP,tp4,is4,Zw,ax4⟩ hq;obtain⟨z,hz,rfl⟩:=iP hy;have lP:=(au.mp hz).1;have s5:aK H4 (upd H4 q (.tup [.int j,.str z])):=aA hq _;refine{q,_,9,aZ.of av,9,_,_,9,_,_,9,9,?_};have uO:=uP.trans s5;have tp5:=tp4.trans (cN.same s5);have is5:=is4.trans (si.same s5);have ax5:=ax4.same s5;refine{_,9,self,C,dx,fs,_,9,is5 _ _ _ _ hs,O.c,O.aims,lk,A,Zw,9,ax5.at_,_,9,_,9,_,_,9,.inr {_,(hX M9 tp5),9},_,9,_,9,(by show 4<=sizeLine;decide),λb hb p hp=>?_};rw[lt]at hp⊢;have hR:∀k' z',Rj (j+1) k' z'↔Rj j k' z'\/(k'=xq a.1 a.2.length j z/\z'=a.2):=λk' z'=>by
     constructor
     ·rintro(h|⟨e,h|⟨i',t',h1,h2,h3⟩⟩)
      ·exact .inl (.inl h)
      ·exact .inl (.inr {e,.inl h})
      ·rcases Nat.lt_or_eq_of_le (Nat.lt_succ_iff.mp h1)with h1|rfl
       ·exact .inl (.inr {e,.inr ⟨i',t',h1,h2,h3⟩})
       ·rw[hz]at h2;cases h2;exact .inr ⟨h3,e⟩
     ·rintro((h|⟨e,h|⟨i',t',h1,h2,h3⟩⟩)|⟨h3,e⟩)
      ·exact .inl h
      ·exact .inr {e,.inl h}
      ·exact .inr {e,.inr {i',t',eU h1,h2,h3}}
      ·exact .inr {e,.inr {j,z,eF _,hz,h3}}
    obtain⟨q1,q2,q3,q4,q5⟩:=Tc uO tp5 is5 ax5 hb hp (λH3 h=>MF h f0 (fz z (az hz)).2) (oZ (ME M9 λz hz=>(fz z hz).2) tp5) ∅ hR (λH' pt=>pt);refine{b,Zw,xq a.1 a.2.length j z,9,q1,q2,q3,λv hv=>?_,λhv=>?_}
    ·obtain⟨a',inner,rfl,r1,r2,r3,r4⟩:=q4 v hv;exact{_,9,a',ac,inner,iR a.2,9,9,r1,r2,r3,_,_,9,lP,r4}
    ·obtain⟨inner,r1,r2,r3,r4⟩:=q5 hv;exact{_,9,p,ac,inner,iR a.2,9,9,r1,r2,r3,_,_,9,lP,r4}
   ·rintro Z H4 ⟨_,_,rfl,_,uP,tp4,is4,Zw,ax4⟩;rw[lt]at ax4;refine{_,_,_,_,9,bO,uP,tp4,is4,Zw,(ax4.congr λk' z'=>?_).mono ∅};rw[bj,ha];constructor
    ·rintro(⟨b,hb,h⟩|⟨e,h⟩)
     ·exact{b,by rw[<-dG];exact bz _ hb,h}
     ·refine{a,59,?_,e};rcases h with h|⟨i',t',_,h2,h3⟩
      ·exact .inl h
      ·exact .inr ⟨i',t',h2,h3⟩
    ·rintro⟨b,hb,h,e⟩;rw[<-dG]at hb;rcases aV.mp hb with hb|hb
     ·exact .inl ⟨b,hb,h,e⟩
     ·have jf:b=a:=by simpa using hb
      subst jf;refine .inr {e,?_};rcases h with h|⟨i',t',h2,h3⟩
      ·exact .inl h
      ·exact .inr {i',t',(au.mp h2).1,h2,h3}
  refine{_,9,self,C,dx,fs,_,9,(xt _ _ _ _ hs),O.c,O.aims,lk,A,Ui,9,NW.at_,_,9,_,9,_,_,9,.inr ⟨_,qI,rfl⟩,96,λb hb p hp=>?_};rw[lt]at hp⊢;obtain⟨q1,q2,q3,q4,q5⟩:=Tc gX K3 xt NW hb hp (λH3 h=>MG h f0) (ME qI λz hz=>(fz z hz).2) ∅ (λk' z'=>{λh=>h.imp id λ⟨e1,e2⟩=>{e2.elim id λ⟨i',_,h,_⟩=>absurd h (fU _),e1},λh=>h.imp id λ⟨e1,e2⟩=>{e2,.inl e1}}) (λH' pt=>go _ _ H' pt);refine{b,Ui,yV a.1 a.2.length,9,q1,q2,q3,λv hv=>?_,λhv=>?_}
  ·obtain⟨a',inner,rfl,r1,r2,r3,r4⟩:=q4 v hv;exact{_,9,a',ac,inner,iR a.2,9,9,r1,r2,r3,r4}
  ·obtain⟨inner,r1,r2,r3,r4⟩:=q5 hv;exact{_,9,p,ac,inner,iR a.2,9,9,r1,r2,r3,r4}
 ·rintro Z H2 ⟨_,_,_,_,rfl,_,gX,K3,xt,Ui,NW⟩;have kE:=xt _ _ _ _ hs;rw[(bc kD),aS]at NW
  refineλB hB=>?_
  have s3:aK H2 (upd H2 B 655):=aA hB _;have Z3:upd H2 B 655 B=some 655:=av;have B0:H0 B=none:=by
   cases e:H0 B with
   |none=>rfl
   |some u=>rw[gX _ _ e]at hB;cases hB
  have AB:A≠B:=λe=>by obtain⟨u,hu⟩:=NW.at_.some;rw[e,hB]at hu;cases hu
  have dB:∀k d,valN Ui k=some 705->d≠B:=λk' d h e=>by obtain⟨d',_,e',_,_,h4,_⟩:=NW.vals k' _ h;cases e';obtain⟨u,hu⟩:=h4.some;rw[e,hB]at hu;cases hu
  have ax3:=NW.same s3;generalize (upd H2 B 655)=H3 at s3 Z3 ax3⊢;refine{_,9,self,C,dx,fs,9,s3 _ _ kE,O.c,O.vain,lf,?_};have t4:cN H3 (upd H3 self (.ins C dx (jk "vain" (.ref B) fs))):=cN.upd (B4 (s3 _ _ kE));have nd:∀b MD,iC P w K H3 b MD->b≠self:=λb MD h e=>by have Jy:=s3 _ _ kE;rw[<-e]at Jy;rcases h.1 with h|⟨_,h⟩<;>rw[h]at Jy<;>cases Jy
  refine k _ Ui B (λb u h=>?_) (K3.trans ((cN.same s3).trans t4)) B0 av ?_ (ax3.move t4 λb _ h=>?_) AB dB
  ·rw[aL (bC h Vd)];exact s3 _ _ (gX _ _ h)
  ·rw[aL (λe=>by rw[e,s3 _ _ kE]at Z3;cases Z3)];exact Z3
  ·refine aL ?_;rcases h with rfl|⟨k',h⟩
   ·exact nd _ _ ax3.at_
   ·obtain⟨d',_,e',_,_,h4,_⟩:=ax3.vals k' _ h;cases e';exact nd _ _ h4
structure Da(P:Program)(w:World)(K:Frag)(mg:Aab)(base:Heap)(C:Addr):Prop where
 Q8:rS P w K mg base C 2 "add" ["self","atoms"] (YG P w K C)
inductive QA(P:Program)(w:World)(K:Frag)(C:Addr)(vs:Aam)(H:Hp)(Q:VK)(_x3:XK):Prop
 |mk (self t dx:Addr) (ys:Aam) (L:List aJ.Atom) (H0:Hp) (_:vs=[.ref self,.ref t]) (_:H self=some (.ins C dx [])) (_:H0 self=none) (_:aZ K H t ys) (_:kK K H ys L) (_:L.length<=100) (_:(∀a∈L,lH a)) (_:aK H0 H) (_:∀H' A B kvs,aK H0 H'->H0 A=none->H0 B=none->H' self=some (.ins C dx [("aims",.ref A),("vain",.ref B)])->H' B=some (.dK [])->gj P w K H0 H' A kvs (hits L) (300*L.length)->A≠B->(∀k d,valN kvs k=some (.ref d)->d≠B)->Q .cz H')
def Kk:bZ ["self","atoms"] ["self","atoms"] (defScope vI):=gC 53
def abf{f:Addr}{fd:FuncData}(F:dF K "__init__" "MapSearch.__init__" vI f fd)(T:Txt K mg)(O:Own K C)(D:Da P w K mg base C):cK P w K mg base d7 3 f fd ["self","atoms"] (QA P w K C):=by
 refine F.ok Kk (λ_ _ _ _ h=>by cases h;subst_vars;rfl) 54;obtain⟨self,t,dx,ys,L,H0,rfl,hs,Vd,ht,kD,lL,fL,sm,k⟩:=h;refine{_,(aB (LK (pv 0) jm 9) (aB (LK (pv 0) jm 9) (aQ (fR (T2 O.c D.Q8 hr (pv 0) 722 ∅))))),?_}
 have own:∀{d:Addr}{o:HO}{H1:Hp},aK H0 H1->H0 d=none->aK H0 (upd H1 d o):=λ{d o H1} s h q u e=>by rw[aL (bC e h)];exact s _ _ e
 have z0:∀{p:Addr}{H1:Hp},aK H0 H1->H1 p=none->H0 p=none:=λ{p H1} s h=>by
  cases e:H0 p with
  |none=>rfl
  |some u=>rw[s _ _ e]at h;cases h
 intro A hA;have s1:aK H (upd H A 655):=aA hA _;have hA1:upd H A 655 A=some 655:=av;have A0:=z0 sm hA;have sA:A≠self:=λe=>by rw[e,hs]at hA;cases hA
 have m1:=sm.trans s1;generalize (upd H A 655)=H1 at s1 hA1 m1⊢;refine{_,9,self,C,dx,[],9,s1 _ _ hs,O.c,O.aims,7,?_};have t2:cN H1 (upd H1 self (.ins C dx (jk "aims" (.ref A) []))):=cN.upd (B4 (s1 _ _ hs));have m2:aK H0 (upd H1 self (.ins C dx (jk "aims" (.ref A) []))):=own m1 Vd;have kE:upd H1 self (.ins C dx (jk "aims" (.ref A) [])) self=some (.ins C dx [("aims",.ref A)]):=av;have Ni:upd H1 self (.ins C dx (jk "aims" (.ref A) [])) A=some 655:=aL sA▸hA1;generalize (upd H1 self (.ins C dx (jk "aims" (.ref A) [])))=H2 at t2 m2 kE Ni⊢;intro B hB;have s3:aK H2 (upd H2 B 655):=aA hB _;have m3:=m2.trans s3;generalize (upd H2 B 655)=H3 at s3 m3⊢;refine{_,9,self,C,dx,_,9,s3 _ _ kE,O.c,O.vain,by show 1<1000;decide,?_};have t4:cN H3 (upd H3 self 724):=cN.upd (B4 (s3 _ _ kE));have m4:aK H0 (upd H3 self 724):=own m3 Vd;have UK:upd H3 self 724 self=some (.ins C dx [("aims",.ref A),("vain",.ref B)]):=by rw[av];rfl
 have Nh:upd H3 self 724 A=some 655:=aL sA▸s3 _ _ Ni;have t04:=(cN.same s1).trans (t2.trans ((cN.same s3).trans t4));exact{_,9,self,dx,_,9,UK,9,_,9,self,t,dx,A,_,ys,[],L,[],H0,0,9,UK,9,by show 2<1000;decide,Vd,hX ht t04,kD.tp t04,lL,fL,m4,{DG Nh,aP _,A0,λk v h=>(by cases h),λk _ zs ⟨a,ha,_⟩=>(by cases ha),λk k' d h=>(by cases h)},aP _,λH5 kvs B' m5 t5 B0 hs5 hB5 ax5 ab db=>k H5 A B' kvs m5 A0 B0 hs5 hB5 (by simpa using ax5) ab db}
structure Ke(P:Program)(w:World)(K:Frag)(C:Addr)(H:Hp)(me A B dx:Addr)(kvs:List 648)(L:List aJ.Atom):Prop where
 ins:H me=some (.ins C dx [("aims",.ref A),("vain",.ref B)])
 ai:gj P w K (λ_=>none) H A kvs (hits L) 100000
 ab:A≠B
 db:∀k d,valN kvs k=some 705->d≠B
def Ke.same{H H':Hp}{self A B dx:Addr}{kvs:List 648}{L:List aJ.Atom}(x:Ke P w K C H self A B dx kvs L)(s:aK H H'):Ke P w K C H' self A B dx kvs L:=
 {s _ _ x.ins,x.ai.move (cN.same s) (λb _ h=>by
  rcases h with rfl|⟨k,h⟩
  ·obtain⟨u,hu⟩:=x.ai.at_.some;rw[hu,s _ _ hu]
  ·obtain⟨d,inner,e,_,_,h4,_⟩:=x.ai.vals k _ h;cases e;obtain⟨u,hu⟩:=h4.some;rw[hu,s _ _ hu]),x.ab,x.db}
def gj.got{H0 H:Hp}{A p:Addr}{kvs:List 648}{R:Rl}{n:Nat}(x:gj P w K H0 H A kvs R n)(hp:H p=some 655)(k:NK):∃d inner,(valN kvs k).getD 676=.ref d/\iC P w K H d inner/\inner.length<=n/\(inner.map (·.1)).Nodup/\∀j,(∃q∈inner,q.1=j)↔∃zs,R k zs/\j=iR zs:=by
 cases e:valN kvs k with
 |some v=>
  obtain⟨d,inner,rfl,_,_,h4,h5,h6,_,h8⟩:=x.vals k v e;exact⟨d,inner,rfl,h4,h5,h6,h8⟩
 |none=>exact{p,[],9,DG hp,aP _,59,λj=>{λ⟨q,hq,_⟩=>(by cases hq),λ⟨zs,hz,_⟩=>absurd hz (x.no k e zs)}}
def Cr(g:df)(t:Str):Bool:=(aJ.get g t).isSome||!bo t
def ML(g:df)(t:Str):Str:=(aJ.get g t).getD t
def Cq(g:df)(ts:Aaf)(n:Nat):List Nat:=(List.range n).filter λj=>Cr g (ts.getD j "")
def NT(g:df)(ts:Aaf)(ns:List Nat):List (Nat×Str):=ns.map λj=>(j,ML g (ts.getD j ""))
abbrev De(K:Frag)(H:Hp):Aam->List (Nat×Str)->Prop:=Paired λ(y:V)(p:Nat×Str)=>∃q,y=.ref q/\aZ K H q [.int p.1,.str p.2]
def Ab(bs:List (Nat×Str))(zs:Aaf):Bool:=bs.all λp=>decide (zs.getD p.1 ""=p.2)
def Qn(L:List aJ.Atom)(a:aJ.Atom)(bs:List (Nat×Str))(inner:List 648):Prop:=(inner.map (·.1)).Nodup/\(∀p∈inner,∃zs,p.1=iR zs/\(a.1,zs)∈L/\zs.length=a.2.length)/\
 ∀zs,(a.1,zs)∈L->zs.length=a.2.length->Ab bs zs=true->∃p∈inner,p.1=iR zs
def Np{g:df}{ts:Aaf}{i:Nat}:Cq g ts (i+1)=Cq g ts i++if Cr g (ts.getD i "")=true then[i]else[]:=by unfold Cq;rw[List.range_succ,eA,cS,rV]
def P1{g:df}{ts:Aaf}{i:Nat}:(Cq g ts i).length<=i:=by have:=de (λj=>Cr g (ts.getD j "")) (List.range i);rw[eW]at this;exact this
def P0{g:df}{ts:Aaf}{j:Nat}:j∈Cq g ts ts.length↔∃t,ts[j]?=some t/\Cr g t=true:=by
 unfold Cq;rw[cX,cE,cD];constructor
 ·rintro⟨h1,h2⟩;rw[ay h1]at h2;exact{_,ay h1,h2}
 ·rintro⟨t,h1,h2⟩;rw[h1];exact{(au.mp h1).1,h2}
def De.same{H H':Hp}{ys:Aam}{bs:List (Nat×Str)}(h:De K H ys bs)(s:aK H H'):De K H' ys bs:=by
 induction h with
 |nil=>exact .nil
 |cons h _ ih=>
  obtain⟨q,e,hq⟩:=h;exact .cons {q,e,gf hq s} ih
def Nq{L:List aJ.Atom}{a:aJ.Atom}{bs:List (Nat×Str)}{inner:List 648}{k:NK}(nd:(inner.map (·.1)).Nodup)(h:∀j,(∃q∈inner,q.1=j)↔∃zs,hits L k zs/\j=iR zs)(hb:∀p∈bs,p.1<a.2.length)(hk:k=yV a.1 a.2.length\/∃p∈bs,k=xq a.1 a.2.length p.1 p.2):Qn L a bs inner:=by
 refine{nd,695,λzs hz lz ok=>?_}
 ·obtain⟨zs,⟨b,hbL,hit,rfl⟩,e⟩:=(h p.1).mp ⟨p,hp,rfl⟩;have:b.1=a.1/\b.2.length=a.2.length:=by
   rcases hk with rfl|⟨p0,_,rfl⟩
   ·rcases hit with hit|⟨i,t,_,hit⟩
    ·obtain⟨e1,e2⟩:=abm.mp hit;exact{e1.symm,e2.symm}
    ·exact absurd hit adb
   ·rcases hit with hit|⟨i,t,_,hit⟩
    ·exact absurd hit.symm adb
    ·obtain⟨e1,e2,_⟩:=abl.mp hit;exact{e1.symm,e2.symm}
  refine{b.2,e,?_,this.2};rw[<-this.1];exact hbL
 ·refine(h (iR zs)).mpr {zs,{(a.1,zs),hz,?_,9},9};rcases hk with rfl|⟨p0,mZ,rfl⟩
  ·exact .inl (by rw[lz])
  ·refine .inr {p0.1,p0.2,?_,by rw[lz]};have h1:=aT (bN.mp ok p0 mZ);have h2:p0.1<zs.length:=lz▸hb p0 mZ;rw[cD,ay h2]at h1;rw[ay h2];exact cR some h1
theorem A2{L:List aJ.Atom}{a:aJ.Atom}{bs:List (Nat×Str)}:∀{inner:List 648},(∀p∈inner,∃zs,p.1=iR zs/\(a.1,zs)∈L/\zs.length=a.2.length)->∃rs:Hz,inner.map (·.1)=rs.map iR/\∀zs∈rs,(a.1,zs)∈L/\zs.length=a.2.length
 |[],_=>{[],9,λ_ h=>by cases h}
 |p::r,h=>by
  obtain⟨zs,e,h1,h2⟩:=h p aF;obtain⟨rs,e',h'⟩:=A2 (bs:=bs) λq hq=>h q (aG _ hq);refine{zs::rs,by rw[bq,bq,e,e'],λz hz=>?_};rcases aN.mp hz with rfl|hz
  ·exact⟨h1,h2⟩
  ·exact h' z hz
def ji(h:eE K H ys rs)(t:cN H H'):eE K H' ys rs:=by
 induction h with
 |nil=>exact .nil
 |cons h _ ih=>
  obtain⟨q,e,hq⟩:=h;exact .cons {q,e,hX hq t} ih
def De.tp{H H':Hp}{ys:Aam}{bs:List (Nat×Str)}(h:De K H ys bs)(t:cN H H'):De K H' ys bs:=by
 induction h with
 |nil=>exact .nil
 |cons h _ ih=>
  obtain⟨q,e,hq⟩:=h;exact .cons {q,e,hX hq t} ih
def ac2{g:df}{ts:Aaf}{ns:List Nat}{bs:List (Nat×Str)}{h:Str->Str}(Cp:NT g ts ns=bs)(A9:Cq g ts ts.length=ns)(ag:aJ.iD g h)(gu:∀u∈keys g,bo u=true):Ab bs (ts.map (aJ.ap bo h))=true:=by
 refine bN.mpr λp hp=>bg ?_;rw[<-Cp]at hp;obtain⟨j,hj,rfl⟩:=aE.mp hp;rw[<-A9]at hj;obtain⟨t,ht,hf⟩:=P0.mp hj;rw[cD,cD,aW,ht];show aJ.ap bo h t=ML g t;unfold ML aJ.ap;cases q:aJ.get g t with
 |some v=>
  have hk:t∈keys g:=by
   cases e:(decide (t∈keys g))with
   |true=>exact aT e
   |false=>rw[aJ.get_none.mpr (oh e)]at q;cases q
  rw[gu t hk,aM rfl];exact ag.get q
 |none=>
  unfold Cr at hf;rw[q]at hf;have:bo t=false:=by simpa using hf
  rw[this,aI 59];rfl
inductive SF(P:Program)(w:World)(K:Frag)(C:Addr)(vs:Aam)(H:Hp)(Q:VK)(_x3:XK):Prop
 |mk (self A B dx d:Addr) (kvs:List (NK×Addr×V)) (L:List aJ.Atom) (v:V) (a:aJ.Atom) (g:df) (_:vs=[.ref self,v,.ref d]) (_:Ke P w K C H self A B dx kvs L) (_:EE K H v a) (_:lH a) (_:(∀b∈L,lH b)) (_:L.length<=1000) (_:H d=some (.dK (gK g))) (_:(keys g).Nodup) (_:(∀u∈keys g,bo u=true)) (_:(∀q∈g,PyData.strOk q.2=true)) (_:∀p ys qy H',aK H H'->H p=none->H' p=some (.lst ys)->eE K H' ys qy->qy.length<=L.length->(∀zs∈qy,(a.1,zs)∈L)->(∀h,aJ.iD g h->(a.1,a.2.map (aJ.ap bo h))∈L->a.2.map (aJ.ap bo h)∈qy)->Q (.ref p) H')
def hZ:bZ ["self","atom","given","name","terms","fixed","bound","found","place","term","closer"] ["self","atom","given"] (defScope xV):=gC 53
def QY{f:Addr}{fd:FuncData}(F:dF K "aims_of" "MapSearch.aims_of" xV f fd)(T:Txt K mg)(O:Own K C)(D:Du P w K mg base):cK P w K mg base d7 3 f fd ["self","atom","given"] (SF P w K C):=by
 refine F.ok hZ (λ_ _ _ _ h=>by cases h;subst_vars;rfl) 54;obtain⟨self,A,B,dx,d,kvs,L,v,a,g,rfl,se,ha,fa,fL,lL0,hd,nd,gu,gs,k⟩:=h;have hu:=mK hr;have hN:=RC hr;obtain⟨ab,ac,rfl,v8,qI⟩:=ha;obtain⟨fl,f0,fz⟩:=fa;refine{_,(aB (yR (pv 1) (jA 9 (cj (gg 3 hZ) (cj (qD (i:=4) hZ.nd 9 (Or.inr 9)) fY)))) (aB (Km (j:=5) hZ.nd 9 9 9 (pf (more:=["term"]) (fs:=["given"]) (fr:=[2])) (LQ 9 T.ye (bW (pv 4))) (λ_ _ _ _=>(vk (n:=2) 9 699)) (λ_ _ _ _=>(PW.pt (oP (Te (acV hu (pv 1) (pv 2))) (pR (i9 (gH (cl D.is_unknown hr 722))))))) 731) (aB (kx (i:=6) hZ.nd 9 (Or.inr 9) (kZ 9 (cV (fs:=["given","terms"]) (fr:=[2,4])) (dI (pv 5)) (λ_ _ _ _=>(d9 (cw (pv 0) (sL hu (pv 1) (bH (qH) (pv 2) (pv 0) (λ_ _=>9)) (bH (qH) (pv 2) (pv 0) (λ_ _=>9)) ⟨rfl,rfl,rfl,rfl⟩)))))) (aB (dM 07 hZ (Jg hN (yT (pv 0) 9) (d9 (cw (pv 3) (bM c6 9 T.eJ bG (bW (pv 4))))) jm ⟨rfl,rfl,rfl,rfl⟩)) (aB (dJ bE 9 (dI (pv 6)) (jA 9 (cj (gg 08 hZ) (cj (gg 09 hZ) fY))) (aB (dM 10 hZ (Jg hN (yT (pv 0) 9) (d9 (fh (pv 3) (jX (bM c6 9 T.eJ bG (bW (pv 4))) (pv 08) (pv 09)))) jm ⟨rfl,rfl,rfl,rfl⟩)) (aQ (dM 07 hZ (E1 (bY xo (bM J3 9 T.eJ bG (bW (pv 10))) (bM J3 9 T.eJ bG (bW (pv 07))) (cB _)) (pv 10) (pv 07)))))) (aQ (bK (WH (QM 9 (GV (fs:=["bound"]) (fr:=[6])) (WG (pv 07)) (λ_ _ _ _=>(gH (bM (G6 9) 9 T.Zj boot_all (bW (vQ 9 (pf (more:=["term"]) (fs:=["aim"]) (fr:=[0])) (LO (pv 1)) (λ_ _ _ _=>(vk (n:=2) 9 699)) (λ_ _ _ _=>(ni ny (bH (qH) (pv 2) (pv 0) (λ_ _=>9)) (pv 1) (cB _)))))))) 731))))))))),?_}
 have lt:(a.2.map V.str).length=a.2.length:=aj _;refine{_,9,ab,_,9,v8,9,_,_,9,_,_,9,9,?_};refine{_,9,ac,9,⟨_,qI⟩,Ox (λi zs H2=>aK H H2/\i<=a.2.length/\zs=(Cq g a.2 i).map λj:Nat=>V.int (j:Int)) (by rw[lt];exact bt ∅) {aK.refl H,aP _,9} ?_ ?_ ?_}
 ·rintro i zs H2 hi ⟨s2,mB,rfl⟩;refine{hX qI (cN.same s2),?_};rw[aj];exact P1
 ·rintro i x zs H2 q N hc ⟨s2,mB,rfl⟩ hq pV;obtain⟨z,hz,rfl⟩:=iP hc;have bO:=(au.mp hz).1;have s3:aK H (upd H2 q (.tup [.int i,.str z])):=s2.trans (aA hq _);generalize (upd H2 q (.tup [.int i,.str z]))=H3 at s3⊢;have ez:a.2.getD i ""=z:=by rw[cD,hz];rfl
  have yes:∀H4,aK H H4->Cr g z=true->N (((Cq g a.2 i).map λj:Nat=>V.int (j:Int))++[.int i]) H4:=λH4 s4 c=>pV _ _ {s4,bO,by rw[Np,ez,aM c,aH];rfl};have no:∀H4,aK H H4->Cr g z=false->N ((Cq g a.2 i).map λj:Nat=>V.int (j:Int)) H4:=λH4 s4 c=>pV _ _ {s4,bO,by rw[Np,ez,c];simp};refine{_,9,_,9,d,_,9,kW.k (k:=Sum.inr z) (s3 _ _ hd),_,9,?_};have e0:(iG (gK g) (Sum.inr z:Key)).isSome=(aJ.get g z).isSome:=by rw[qQ,gW]
  rw[e0];refine dU 668 668
  ·refine kz {_,9,yes H3 s3 ?_};unfold Cr;rw[c];rfl
  ·refine{_,rfl,z,rfl,by have:=(fz z (az hz)).1;lia,λH4 s4=>{_,9,?_}};have e1:Cr g z=!bo z:=by unfold Cr;rw[show(aJ.get g z).isSome=false by simpa using c];rfl
   rw[<-e1];refine dU (λc2=>{_,9,yes H4 (s3.trans s4) c2}) (λc2=>no H4 (s3.trans s4) (by simpa using c2))
 rintro zs H2 ⟨s2,_,rfl⟩ fx hfx;rw[lt];generalize A9:Cq g a.2 a.2.length=ns;have lns:ns.length<=100:=by rw[<-A9];exact bu P1 fl
 have Xn:∀j∈ns,∃t,a.2[j]?=some t/\Cr g t=true:=λj hj=>by rw[<-A9]at hj;exact P0.mp hj
 have s3:aK H (upd H2 fx (.lst (ns.map λj:Nat=>V.int (j:Int)))):=s2.trans (aA hfx _);have hf3:upd H2 fx (.lst (ns.map λj:Nat=>V.int (j:Int))) fx=some (.lst (ns.map λj:Nat=>V.int (j:Int))):=av;generalize (upd H2 fx (.lst (ns.map λj:Nat=>V.int (j:Int))))=H3 at s3 hf3⊢;have lnv:(ns.map λj:Nat=>V.int (j:Int)).length=ns.length:=aj _;refine{_,9,fx,9,{_,bf.of hf3},iS (λi zs H4=>aK H3 H4/\i<=ns.length/\De K H4 zs (NT g a.2 (ns.take i))) (by rw[lnv];exact bt ∅) {aK.refl _,aP _,.nil} ?_ ?_ ?_}
 ·rintro i zs H4 hi ⟨s4,mB,hb⟩;refine{bf.of (s4 _ _ hf3),?_};have:=bc hb;rw[this];unfold NT;rw[aj,a9];lia
 ·rintro i x zs H4 N hc ⟨s4,mB,hb⟩ pV;rw[aW]at hc;obtain⟨j,hj,rfl⟩:=br.mp hc;have bO:=(au.mp hj).1;obtain⟨z,hz,_⟩:=Xn j (az hj);have ez:a.2.getD j ""=z:=by rw[cD,hz];rfl
  have s34:=s3.trans s4;have ad0:=hX qI (cN.same s34);have at':sg (a.2.map V.str) (j:Int)=some (.str z):=hJ (by rw[aW,hz];rfl);refine{_,9,_,9,d,9,.inl {_,.inl (s34 _ _ hd)},_,9,_,9,_,_,_,_,9,9,ad0,at',_,9,_,9,_,_,_,_,9,9,ad0,at',_,kW.k (k:=Sum.inr z) (s34 _ _ hd),96,λq hq=>?_};have e1:(iG (gK g) (Sum.inr z:Key)).getD (.str z)=.str (ML g z):=by rw[qQ];unfold ML;cases aJ.get g z<;>rfl
  rw[e1];refine pV _ _ {s4.trans (aA hq _),bO,?_};unfold NT;rw[bj,hj,aH];refine fK (De.same hb (aA hq _)) (.cons {q,9,aZ.of ?_} .nil);show upd H4 q _ q=some (.tup [.int j,.str (ML g (a.2.getD j ""))]);rw[ez];exact av
 rintro zs H4 ⟨s4,_,hb⟩ bl hbl;rw[lnv,aS]at hb;generalize Cp:NT g a.2 ns=bs at hb;have s5:aK H (upd H4 bl 690):=s3.trans (s4.trans (aA hbl _));have zj:upd H4 bl 690 bl=some 690:=av;have Rz:=De.same hb (aA hbl 690);generalize (upd H4 bl 690)=H5 at s5 zj Rz⊢;have lbs:bs.length<=100:=by rw[<-Cp];unfold NT;rw[aj];exact lns
 have U4:∀p∈bs,p.1<a.2.length:=λp hp=>by rw[<-Cp]at hp;obtain⟨j,hj,rfl⟩:=aE.mp hp;obtain⟨t,ht,_⟩:=Xn j hj;exact(au.mp ht).1
 have lzb:=bc Rz;have Lu:=se.same s5;have adZ:=hX qI (cN.same s5);refine{_,9,self,C,dx,_,_,9,Lu.ins,O.c,O.aims,9,A,kvs,9,Lu.ai.at_,_,9,_,9,_,_,9,.inr ⟨_,adZ,rfl⟩,96,λb hb p hp=>?_};rw[lt]at hp⊢;have s6:aK H5 (upd H5 b (.tup [.str a.1,.int a.2.length])):=aA hb _;have hb6:aZ K (upd H5 b (.tup [.str a.1,.int a.2.length])) b [.str a.1,.int a.2.length]:=aZ.of av;generalize (upd H5 b (.tup [.str a.1,.int a.2.length]))=H6 at s6 hb6 hp⊢;have s7:aK H6 (upd H6 p 655):=aA hp _;have hp7:upd H6 p 655 p=some 655:=av;have s57:=s6.trans s7;have SO:=Lu.same s57;obtain⟨dd,inner,e0,g1,g2,g3,g4⟩:=SO.ai.got hp7 (yV a.1 a.2.length);refine{b,kvs,yV a.1 a.2.length,9,SO.ai.at_,MG (gf hb6 s7) f0,?_};rw[e0];refine{_,rfl,bl,rfl,{_,bf.of (s57 _ _ zj)},gL (xs:=zs) (λi Z H8=>∃(dd:Addr)(inner:List 648)(x8 x9 x10:Aan),Z=[some (.ref self),some (.ref ab),some 705,some (.str a.1),some (.ref ac),some (.ref fx),some (.ref bl),some (.ref dd),x8,x9,x10]/\aK H5 H8/\iC P w K H8 dd inner/\Qn L a bs inner)
  {dd,inner,_,_,_,9,s57,g1,Nq g3 g4 U4 (.inl 9)} ?_ ?_ ?_}
 ·rintro i Z H8 hi ⟨_,_,_,_,_,rfl,s8,_⟩;exact bf.of (s8 _ _ zj)
 ·rintro i x Z H8 hx ⟨dd,inner,_,_,_,rfl,s8,g1,g2⟩;obtain⟨⟨j,z⟩,UT,q,rfl,hq⟩:=Paired.at' (De.same Rz s8) hx;have mjz:=az UT;have se8:=Lu.same s8;have hz:PyData.strOk z=true:=by
   rw[<-Cp]at mjz;obtain⟨j',JF,e⟩:=aE.mp mjz;obtain⟨t,ht,_⟩:=Xn j' JF;have e2:ML g (a.2.getD j' "")=z:=cR Prod.snd e;rw[cD,ht]at e2;rw[<-e2];show PyData.strOk ((aJ.get g t).getD t)=true;cases q2:aJ.get g t with
   |none=>exact(fz t (az ht)).2
   |some v=>exact gs _ (aJ.get_some q2)
  refine{q,_,9,hq,9,_,_,9,_,_,9,9,?_};refine{_,9,self,C,dx,_,_,9,se8.ins,O.c,O.aims,9,A,kvs,9,se8.ai.at_,_,9,_,9,_,_,9,.inr {_,hX adZ (cN.same s8),9},_,9,_,9,(by show 4<=sizeLine;decide),λb hb p hp=>?_};rw[lt]at hp⊢;have s9:aK H8 (upd H8 b (.tup [.str a.1,.int a.2.length,.int j,.str z])):=aA hb _;have U3:aZ K (upd H8 b (.tup [.str a.1,.int a.2.length,.int j,.str z])) b [.str a.1,.int a.2.length,.int j,.str z]:=aZ.of av;generalize (upd H8 b (.tup [.str a.1,.int a.2.length,.int j,.str z]))=H9 at s9 U3 hp⊢;have kN:aK H9 (upd H9 p 655):=aA hp _;have Ro:upd H9 p 655 p=some 655:=av;generalize (upd H9 p 655)=ie at kN Ro⊢;have Lx:=s9.trans kN;have acA:=se8.same Lx;obtain⟨cd,cin,e1,c1,c2,c3,c4⟩:=acA.ai.got Ro (xq a.1 a.2.length j z);refine{b,kvs,xq a.1 a.2.length j z,9,acA.ai.at_,MF (gf U3 kN) f0 hz,?_};rw[e1];have g10:iC P w K ie dd inner:=by obtain⟨u,hu⟩:=g1.some;exact g1.tp (cN.same Lx) (by rw[hu,Lx _ _ hu])
  refine{_,9,cd,cin,9,c1,_,9,dd,inner,9,g10,_,_,9,9,_,9,?_};refine dU 668 (λc=>{_,9,dd,inner,_,_,_,9,s8.trans Lx,g10,g2})
  ·exact{_,9,cd,cin,_,_,_,9,s8.trans Lx,c1,(Nq c3 c4 U4 (.inr {(j,z),mjz,9}))}
 rintro Z H8 ⟨dd,inner,_,_,_,rfl,s8,g1,Ml,g2,g3⟩;obtain⟨rs,ers,hrs⟩:=A2 (bs:=bs) g2;have lrs:inner.length=rs.length:=by have:=cR List.length ers;rw[aj,aj]at this;exact this
 have lL:rs.length<=L.length:=by
  have:=jL (m:=L.map λb=>iR b.2) Ml λj hj=>by obtain⟨p,hp,rfl⟩:=aE.mp hj;obtain⟨OC,e,h1,_⟩:=g2 p hp;exact aE.mpr {_,h1,e.symm}
  rw[aj,aj]at this;lia
 obtain⟨u,UH⟩:=g1.some;have nfz:∀o v,H8 dd≠some (.fB o v):=λo v e=>by rcases g1.1 with h|⟨_,h⟩<;>rw[h]at e<;>cases e
 have lkv:(inner.map λp=>((V.ref p.2.1,p.2.2):V×V)).length=inner.length:=aj _;have ahl:bl≠dd:=λe=>by have:=s8 _ _ zj;rw[e]at this;rcases g1.1 with h|⟨_,h⟩<;>rw[h]at this<;>cases this
 refine{dd,nfz,_,9,dd,u,inner,9,UH,g1,λo=>?_};have t9:cN H8 (upd H8 dd (.fB o u)):=cN.upd g1.oV;have bl9:upd H8 dd (.fB o u) bl=some 690:=aL ahl▸s8 _ _ zj;have U3:=(De.same Rz s8).tp t9;have U1:upd H8 dd (.fB o u) dd=some (.fB o u):=av;have back:∀b v,b≠dd->H8 b=some v->upd H8 dd (.fB o u) b=some v:=λb v n h=>aL n▸h;have Zy:=λp hp=>oZ (g1.2 p hp) t9;generalize (upd H8 dd (.fB o u))=H9 at t9 bl9 U3 U1 back Zy⊢;refine Ap (λi ys ie=>aK H9 ie/\i<=rs.length/\eE K ie ys ((rs.take i).filter (Ab bs))) (by rw[lkv,bX];lia) {aK.refl _,aP _,.nil} ?_ ?_ ?_
 ·rintro i ys ie hi ⟨kN,mB,hr⟩;refine{kN _ _ U1,?_};rw[bc hr];have:=de (Ab bs) (rs.take i);rw[a9]at this;lia
 ·rintro i kv ys ie N nB ⟨kN,mB,hr⟩ pV;rw[aW]at nB;obtain⟨p,hp,rfl⟩:=br.mp nB;have hil:=(au.mp hp).1;have Es:i<rs.length:=by lia
  have ep:p.1=iR rs[i]:=by have:=cR (λl=>l[i]?) ers;simp only[aW,hp,ay Es,jO]at this;exact bR this
  generalize hri:rs[i]=row at ep;have Xj:rs[i]?=some row:=by rw[ay Es,hri]
  obtain⟨Q3,afZ⟩:=hrs row (az Xj);have lK:=gf (ada (by rw[<-ep];exact(Zy p (az hp)).1)) kN;refine{_,9,bl,9,{_,bf.of (kN _ _ bl9)},GW (xs:=zs) (λj us mD=>aK ie mD/\j<=bs.length/\us=((bs.take j).map λq=>decide (row.getD q.1 ""=q.2)).map V.bl) (bt ∅) {aK.refl _,aP _,9} ?_ ?_ ?_}
  ·rintro j us mD hj ⟨q9,zh,rfl⟩;refine{bf.of (q9 _ _ (kN _ _ bl9)),?_};rw[aj,aj,a9];lia
  ·rintro j y us mD M hy ⟨q9,zh,rfl⟩ hM;obtain⟨⟨jj,z⟩,UT,q,rfl,hq⟩:=Paired.at' (U3.same (kN.trans q9)) hy;have lP:=(au.mp UT).1;have jl:jj<row.length:=by rw[afZ];exact U4 (jj,z) (az UT)
   refine{q,_,_,9,hq,yO ?_};refine{_,9,_,9,_,_,_,_,9,9,gf lK q9,hJ (by rw[aW,ay jl];rfl),_,9,9,?_};have e1:decide (V.str row[jj]=V.str z)=decide (row.getD jj ""=z):=by rw[cD,ay jl];simp
   rw[e1];refine hM _ _ {q9,lP,?_};rw[bj,UT,aH,aH];rfl
  ·rintro us mD ⟨q9,_,rfl⟩ q hq;rw[lzb,aS];refine{q,_,9,bf.of av,_,9,?_};have e1:((bs.map λq=>decide (row.getD q.1 ""=q.2)).all id)=Ab bs row:=by rw[C6];rfl
   rw[e1];have A1:aK ie (upd mD q (.lst ((bs.map λq=>decide (row.getD q.1 ""=q.2)).map V.bl))):=q9.trans (aA hq _);generalize (upd mD q (.lst ((bs.map λq=>decide (row.getD q.1 ""=q.2)).map V.bl)))=uZ at A1⊢;refine dU (λc=>{_,9,pV _ _ {kN.trans A1,Es,?_}}) (λc=>pV _ _ {kN.trans A1,Es,?_})
   ·rw[bj,Xj,eA];refine fK (ji hr (cN.same A1)) ?_;show eE K uZ _ (List.filter (Ab bs) [row]);rw[cS,aM c];exact .cons {p.2.1,9,gf lK A1} .nil
   ·rw[bj,Xj,eA];show eE K uZ _ (_++List.filter (Ab bs) [row]);rw[cS,aI c,rV,cL];exact ji hr (cN.same A1)
 ·rintro ys ie ⟨kN,_,hr⟩ l hl;rw[lkv,lrs,aS]at hr;have ld:l≠dd:=λe=>by rw[e,kN _ _ U1]at hl;cases hl
  refine{o,u,by rw[aL (cM ld)];exact kN _ _ U1,?_};have st:aK H (upd (upd ie l 679) dd u):=λb v h=>by
   by_cases c:b=dd
   ·rw[c,av];have:=s8 _ _ (s5 _ _ h);rw[c,UH]at this;exact this
   ·have JL:=kN _ _ (back b v c (s8 _ _ (s5 _ _ h)));rw[aL c,aL (bC JL hl)];exact JL
  have l0:H l=none:=by
   cases e:H l with
   |none=>rfl
   |some v=>rw[kN _ _ (back l v ld (s8 _ _ (s5 _ _ e)))]at hl;cases hl
  have tpp:cN ie (upd (upd ie l 679) dd u):=(cN.upd (Q0 hl)).trans (cN.upd λxs q=>by
   have h0:upd ie l 679 dd=some (.fB o u):=by rw[aL (cM ld)];exact kN _ _ U1
   have nu:∀xs,u≠ .tup xs:=λxs e=>by rw[e]at UH;rcases g1.1 with h|⟨_,h⟩<;>rw[h]at UH<;>cases UH
   rcases q with q|⟨o',q⟩<;>rw[h0]at q
   ·cases q
   ·injection q with q;injection q with _ q;exact nu _ q)
  refine k l ys _ _ st l0 (aL ld▸av) (ji hr tpp) (bu (de _ _) lL) (λz hz=>(hrs z (cX.mp hz).1).1) λh ag hm=>?_;have bQ:=ac2 Cp A9 ag gu;refine cX.mpr {?_,bQ};obtain⟨p,hp,e⟩:=g3 _ hm (by rw[aj]) bQ;have:iR (a.2.map (aJ.ap bo h))∈rs.map iR:=by rw[<-ers,<-e];exact aE.mpr ⟨p,hp,rfl⟩
  obtain⟨z,hz,ez⟩:=aE.mp this;rw[<-Pj ez];exact hz
def atK(a:aJ.Atom):NK:=.tup [.key (.inr a.1),iR a.2]
def Tv:Option Str->NK
 |none=>.cz
 |some z=>.key (.inr z)
def Pl(m:List (Option Str)):NK:=.tup (m.map Tv)
def uv(p:List aJ.Atom)(m:List 713):NK:=.tup [.tup (p.map atK),.tup (m.map Pl)]
theorem map_inj{α β:Type}{f:α->β}(h:∀x y,f x=f y->x=y):∀{l m:List α},l.map f=m.map f->l=m
 |[],[],_=>rfl
 |[],_::_,e=>by cases e
 |_::_,[],e=>by cases e
 |x::l,y::m,e=>by injection e with e1 e2;rw[h x y e1,map_inj h e2]
def abZ(a b:aJ.Atom)(h:atK a=atK b):a=b:=by unfold atK at h;simp only[NK.tup.injEq,nL,NK.key.injEq,Bg,FE]at h;exact FG h.1 (Pj h.2)
def abb(a b:Option Str)(h:Tv a=Tv b):a=b:=by cases a<;>cases b<;>simp_all [Tv]
def abn(a b:List (Option Str))(h:Pl a=Pl b):a=b:=by injection h with h;exact map_inj abb h
def V2{p p':List aJ.Atom}{m m':List 713}(h:uv p m=uv p' m'):p=p'/\m=m':=by unfold uv at h;simp only[NK.tup.injEq,nL,FE]at h;exact{map_inj abZ h.1,map_inj abn h.2}
def XB{a:aJ.Atom}(h:lH a):lG 2 (atK a):=ox λk hk=>by
 simp only[aN,qu,E3]at hk;rcases hk with rfl|rfl
 ·exact sR h.2.1
 ·exact Nk λz hz=>(h.2.2 z hz).2
def XA{m:List (Option Str)}(h:∀z,some z∈m->PyData.strOk z=true):lG 1 (Pl m):=ox λk hk=>by
 obtain⟨o,ho,rfl⟩:=aE.mp hk;cases o with
 |none=>exact Xz
 |some z=>exact sR (h z ho)
def _root_.L2.lG.mono{n m:Nat}{k:NK}(h:lG n k)(e:n<=m):lG m k:={h.1,bu h.2.1 e,bu h.2.2 e}
def Ve{p:List aJ.Atom}{m:List 713}(h1:∀a∈p,lH a)(h2:∀r∈m,∀z,some z∈r->PyData.strOk z=true):Sa (uv p m):=(ox λk hk=>by
 simp only[aN,qu,E3]at hk;rcases hk with rfl|rfl
 ·exact ox λk hk=>by obtain⟨a,ha,rfl⟩:=aE.mp hk;exact XB (h1 a ha)
 ·exact ox λk hk=>by obtain⟨r,hr,rfl⟩:=aE.mp hk;exact(XA (h2 r hr)).mono 7).good 7
def ac4{H:Hp}{v:V}{a:aJ.Atom}(h:EE K H v a):NV K H (atK a) v:=by obtain⟨b,c,rfl,h1,h2⟩:=h;unfold atK;refine{b,_,9,h1,?_};exact{_,_,9,by rw[NV];rfl,_,_,9,TK h2,9}
def abk{H:Hp}{ys:Aam}{p:List aJ.Atom}(h:kK K H ys p):rR K H (p.map atK) ys:=by
 induction h with
 |nil=>rw[fw,rR]
 |cons h _ ih=>
  exact{_,_,9,ac4 h,ih}
def Y3:Option Str->V
 |none=>.cz
 |some z=>.str z
abbrev IG(K:Frag)(H:Hp):Aam->List 713->Prop:=Paired λ(y:V)(m:List (Option Str))=>∃q,y=.ref q/\aZ K H q (m.map Y3)
theorem Ph{H:Hp}:∀m:List (Option Str),rR K H (m.map Tv) (m.map Y3)
 |[]=>by rw[fw,rR];rfl
 |o::r=>by
  refine{_,_,9,?_,Ph r};cases o with
  |none=>show NV K H .cz .cz;rw[NV]
  |some z=>show NV K H (.key (.inr z)) (.str z);rw[NV];rfl
def abj{H:Hp}{ys:Aam}{ms:List 713}(h:IG K H ys ms):rR K H (ms.map Pl) ys:=by
 induction h with
 |nil=>rw[fw,rR]
 |cons h _ ih=>
  obtain⟨q,rfl,hq⟩:=h;refine{_,_,9,?_,ih};unfold Pl;exact{q,_,9,hq,Ph _}
def Uq{H:Hp}{b b1 b2:Addr}{ys zs:Aam}{p:List aJ.Atom}{ms:List 713}(hb:aZ K H b [.ref b1,.ref b2])(h1:aZ K H b1 ys)(h2:aZ K H b2 zs)(hp:kK K H ys p)(hm:IG K H zs ms)(g1:∀a∈p,lH a)(g2:∀r∈ms,∀z,some z∈r->PyData.strOk z=true):iI K H (uv p ms) b:=by
 refine{?_,Ve g1 g2};unfold uv;refine{b,_,9,hb,?_};refine{_,_,9,?_,_,_,9,?_,9}
 ·rw[NV];exact{b1,ys,9,h1,abk hp}
 ·rw[NV];exact{b2,zs,9,h2,abj hm}
def ic(P:Program)(w:World)(K:Frag)(H:Hp)(B:Addr)(L:List aJ.Atom)(n:Nat):Prop:=∃kvs,iC P w K H B kvs/\kvs.length<=n/\∀q∈kvs,∃p m,q.1=uv p m/\aJ.R6 bo L p m
def ic.mono{H:Hp}{B:Addr}{L:List aJ.Atom}{n m:Nat}(h:ic P w K H B L n)(e:n<=m):ic P w K H B L m:=by obtain⟨kvs,h1,h2,h3⟩:=h;exact{kvs,h1,bu h2 e,h3}
def ic.same{H H':Hp}{B:Addr}{L:List aJ.Atom}{n:Nat}(h:ic P w K H B L n)(s:aK H H'):ic P w K H' B L n:=by obtain⟨kvs,h1,h2,h3⟩:=h;obtain⟨u,hu⟩:=h1.some;exact{kvs,h1.tp (cN.same s) (by rw[hu,s _ _ hu]),h2,h3}
def ic.put{H:Hp}{B b:Addr}{L:List aJ.Atom}{n:Nat}{kvs:List 648}{p:List aJ.Atom}{m:List 713}{v:V}(h1:iC P w K H B kvs)(h2:kvs.length<=n)(h3:∀q∈kvs,∃p m,q.1=uv p m/\aJ.R6 bo L p m)(hb:iI K H (uv p m) b)(hv:aJ.R6 bo L p m):
  ic P w K (upd H B (.ext (DN P w B (putN kvs (uv p m) b v)))) B L (n+1):=by
 refine{_,h1.put hb,bu vO (gO h2),λq hq=>?_};rcases Mo hq with⟨q0,Pz,e,_⟩|⟨e,_⟩
 ·obtain⟨p',m',e',hv'⟩:=h3 q0 Pz;exact{p',m',e.trans e',hv'}
 ·exact⟨p,m,e,hv⟩
def SB(B:Addr)(H H':Hp):Prop:=∀b u,b≠B->H b=some u->H' b=some u
def SB.refl(B:Addr)(H:Hp):SB B H H:=λ_ _ _ h=>h
def SB.trans{B:Addr}{H H1 H2:Hp}(a:SB B H H1)(b:SB B H1 H2):SB B H H2:=λx u n h=>b x u n (a x u n h)
def SB.same{B:Addr}{H H':Hp}(s:aK H H'):SB B H H':=λx u _ h=>s x u h
def SB.upd{B:Addr}{H:Hp}{o:HO}:SB B H (upd H B o):=λx u n h=>by rw[aL n];exact h
def ic.oV{H:Hp}{B:Addr}{L:List aJ.Atom}{n:Nat}(h:ic P w K H B L n):vh H B:=by obtain⟨kvs,h1,_⟩:=h;exact h1.oV
def SB.tp{B:Addr}{H H':Hp}(s:SB B H H')(h:vh H B):cN H H':=λb xs q=>by
 have hb:b≠B:=λe=>h xs (e▸q);rcases q with q|⟨o,q⟩
 ·exact .inl (s _ _ hb q)
 ·exact .inr {o,s _ _ hb q}
def ic.KA{H:Hp}{B:Addr}{L:List aJ.Atom}{n:Nat}(h:ic P w K H B L n):∀xs,¬Rd H B (.lst xs):=λxs q=>by obtain⟨kvs,h1,_⟩:=h;rcases h1.1 with e|⟨_,e⟩<;>rcases q with q|⟨o,q⟩<;>rw[e]at q<;>cases q
def Lg{B a:Addr}{H H':Hp}{xs:Aam}(q:bf K H a xs)(s:SB B H H')(h:∀xs,¬Rd H B (.lst xs)):bf K H' a xs:=by
 rcases q with q|q
 ·have hb:a≠B:=λe=>h xs (e▸q);rcases q with q|⟨o,q⟩
  ·exact .inl (.inl (s _ _ hb q))
  ·exact .inl (.inr {o,s _ _ hb q})
 ·exact .inr q
def Ke.sb{H H':Hp}{self A B dx:Addr}{kvs:List 648}{L:List aJ.Atom}{n:Nat}(x:Ke P w K C H self A B dx kvs L)(v:ic P w K H B L n)(s:SB B H H'):Ke P w K C H' self A B dx kvs L:=by
 have sB:self≠B:=λe=>by obtain⟨kv,h1,_⟩:=v;have:=x.ins;rw[e]at this;rcases h1.1 with h|⟨_,h⟩<;>rw[h]at this<;>cases this
 refine{s _ _ sB x.ins,x.ai.move (s.tp v.oV) (λb _ h=>?_),x.ab,x.db};rcases h with rfl|⟨k,h⟩
 ·obtain⟨u,hu⟩:=x.ai.at_.some;rw[hu,s _ _ x.ab hu]
 ·have:=x.db k b h;obtain⟨d,inner,e,_,_,h4,_⟩:=x.ai.vals k _ h;cases e;obtain⟨u,hu⟩:=h4.some;rw[hu,s _ _ this hu]
def tn:Nat->Nat
 |0=>0
 |n+1=>08*tn n+1
theorem K5:∀a b,tn a+tn b<=tn (a+b)
 |0,b=>by simp[tn]
 |a+1,b=>by
  have ih:=K5 a b;rw[show a+1+b=(a+b)+1 by lia];simp only[tn];have:tn b<=08*tn b:=by lia
  lia
def aaE{a b:Nat}(h:a<=b):tn a<=tn b:=by have:=K5 a (b -a);rw[show a+(b -a)=b by lia]at this;lia
theorem K4:∀ps:List (List aJ.Atom),(ps.map λp=>tn p.length).sum<=tn (ps.map List.length).sum
 |[]=>by simp[tn]
 |p::ps=>by have:=K4 ps;have h2:=K5 p.length (ps.map List.length).sum;simp only[bq,jV];lia
structure Ask(P:Program)(w:World)(K:Frag)(C:Addr)(H:Hp)(me A B dx:Addr)(kvs:List 648)(L:List aJ.Atom)(c:Nat)(U:Aaf)(d:Addr)(g:df)(p:List aJ.Atom)(n:Nat):Prop where
 se:Ke P w K C H me A B dx kvs L
 va:ic P w K H B L c
 lL:L.length<=08
 fL:∀b∈L,lH b
 fp:∀b∈p,lH b
 ln:p.length<=n
 n8:n<=08
 lc:c+tn p.length<=9000000
 hd:H d=some (.dK (gK g))
 dB:d≠B
 nd:(keys g).Nodup
 gu:∀u∈keys g,bo u=true
 fg:∀q∈g,PyData.strOk q.2=true
 gU:∀u∈keys g,u∈U
 pU:∀u∈aJ.jx bo p,u∈U
 lU:U.length<=1000
def Tells(P:Program)(w:World)(K:Frag)(H:Hp)(B:Addr)(L:List aJ.Atom)(c:Nat)(g:df)(p:List aJ.Atom)(Q:VK):Prop:=
 (∀H',SB B H H'->ic P w K H' B L (c+tn p.length)->¬aJ.rX bo L g p->Q .cz H')/\
 ∀H' d' g',SB B H H'->ic P w K H' B L (c+tn p.length)->H' d'=some (.dK (gK g'))->d'≠B->(∀q∈g',PyData.strOk q.2=true)->aJ.Got bo L g g' p->Q (.ref d') H'
inductive Ll(P:Program)(w:World)(K:Frag)(C:Addr)(n:Nat)(vs:Aam)(H:Hp)(Q:VK)(_x3:XK):Prop
 |mk (self A B dx pl d:Addr) (kvs:List (NK×Addr×V)) (L:List aJ.Atom) (c:Nat) (U:Aaf) (g:df) (p:List aJ.Atom) (ys:Aam) (_:vs=[.ref self,.ref pl,.ref d]) (_:Ask P w K C H self A B dx kvs L c U d g p n) (_:bf K H pl ys) (_:kK K H ys p) (_:p≠[]) (_:Tells P w K H B L c g p Q)
inductive zN(P:Program)(w:World)(K:Frag)(C:Addr)(n:Nat)(vs:Aam)(H:Hp)(Q:VK)(_x3:XK):Prop
 |mk (self A B dx pl d:Addr) (kvs:List (NK×Addr×V)) (L:List aJ.Atom) (c:Nat) (U:Aaf) (g:df) (p:List aJ.Atom) (ys:Aam) (_:vs=[.ref self,.ref pl,.ref d]) (_:Ask P w K C H self A B dx kvs L c U d g p n) (_:bf K H pl ys) (_:kK K H ys p) (_:Tells P w K H B L c g p Q)
structure Dp(P:Program)(w:World)(K:Frag)(mg:Aab)(base:Heap)(C:Addr):Prop extends Dt2 P w K mg base where
 parts_of:cq P w K mg base 4 "parts_of" ["atoms","given"] (IX K)
 B6:rS P w K mg base C 3 "aims_of" ["self","atom","given"] (SF P w K C)
structure Dm(P:Program)(w:World)(K:Frag)(mg:Aab)(base:Heap)(C:Addr)(n:Nat):Prop extends Dp P w K mg base C where
 Ks:rS P w K mg base C (6+2*n) "mapped_part" ["self","part","given"] (Ll P w K C n)
structure Dq(P:Program)(w:World)(K:Frag)(mg:Aab)(base:Heap)(C:Addr)(n:Nat):Prop extends Dp P w K mg base C where
 vY:rS P w K mg base C (07+2*n) "mapped" ["self","atoms","given"] (zN P w K C n)
theorem Lb:∀(l:List (List aJ.Atom))(i:Nat),((l.take i).map λp=>tn p.length).sum<=(l.map λp=>tn p.length).sum
 |[],i=>by simp
 |x::r,0=>by simp
 |x::r,i+1=>by have:=Lb r i;rw[Bp,bq,bq,jV,jV];lia
def xS:bZ ["self","atoms","given","part"] ["self","atoms","given"] (defScope u9):=gC 53
def Jk{f:Addr}{fd:FuncData}{n:Nat}(F:dF K "mapped" "MapSearch.mapped" u9 f fd)(T:Txt K mg)(O:Own K C)(D:Dm P w K mg base C n):cK P w K mg base d7 (07+2*n) f fd ["self","atoms","given"] (zN P w K C n):=by
 rw[show 07+2*n=(6+2*n)+1 by lia];refine F.ok xS (λ_ _ _ _ h=>by cases h;subst_vars;rfl) 54;obtain⟨self,A,B,dx,pl,d,kvs,L,c,U,g,p,ys,rfl,ak,jN,kD,k1,k2⟩:=h;refine{_,(aB (dJ bE 9 (dI (cl D.parts_of hr (cw (pv 1) (pv 2)) ∅)) (gg 3 xS) (aB (dM 2 xS (T2 O.c D.Ks hr (pv 0) (cw (pv 3) (pv 2)) ∅)) (aQ (dg (bY F9 (pv 2) jB (cB _)) (aQ (bK jB)) cy)))) (aQ (bK (pv 2)))),?_}
 obtain⟨po1,Ti,Th,po4⟩:=aJ.E2 p [] [] .nil 59 59 59;rw[jQ]at Th;have l8:=bu ak.ln ak.n8;refine{_,9,_,9,pl,d,ys,p,g,9,jN,kD,8,ak.fp,ak.hd,λq Bx H1 s1 hq MT Et=>?_};generalize agQ:aJ.partsOf bo g p=ps at Et;have agP:p.foldl (aJ.pJ bo g) []=ps:=agQ;rw[agP]at po1 Ti Th po4;have Si:=ak.va.same s1;have lps:ps.length<=08:=by
  have:∀l:List (List aJ.Atom),(∀q∈l,q≠[])->l.length<=(l.map List.length).sum:=by
   intro l
   induction l with
   |nil=>intro _;simp
   |cons x r ih=>
    intro h;have h1:x.length≠0:=λe=>h x aF (dD.mp e);have h2:=ih λq hq=>h q (aG _ hq);rw[bq,jV,bF];lia
  have:=this ps po4;lia
 refine{q,rfl,{_,bf.of MT},gL (xs:=Bx) (λi Z H2=>∃(di:Addr)(gi:df)(x3:Aan),Z=[some (.ref self),some (.ref pl),some (.ref di),x3]/\i<=ps.length/\SB B H1 H2/\ic P w K H2 B L (c+((ps.take i).map λp=>tn p.length).sum)/\H2 di=some (.dK (gK gi))/\di≠B/\(∀q∈gi,PyData.strOk q.2=true)/\aJ.Got bo L g gi (ps.take i).flatten)
  {d,g,_,9,aP _,SB.refl B H1,by simpa using Si,s1 _ _ ak.hd,ak.dB,ak.fg,aJ.Got.nil ak.nd} ?_ ?_ ?_}
 ·rintro i Z H2 hi ⟨di,gi,_,rfl,_,F1,_⟩;exact Lg (bf.of MT) F1 Si.KA
 ·rintro i x Z H2 hx ⟨di,gi,_,rfl,hi,F1,Yt,hd2,dB2,fg2,got⟩;obtain⟨pi,Gu,l,P6,rfl,hl,zi⟩:=Paired.at' Et hx;have bO:=(au.mp Gu).1;have mpi:=az Gu;have Wc:=λb hb=>by simpa using(Ti b).mpr ⟨pi,mpi,hb⟩
  have e1:((ps.take (i+1)).map λp=>tn p.length).sum=((ps.take i).map λp=>tn p.length).sum+tn pi.length:=by rw[bj,Gu,aH,rT];simp
  have e2:(ps.take (i+1)).flatten=(ps.take i).flatten++pi:=by rw[bj,Gu,List.flatten_append];simp
  have le1:((ps.take (i+1)).map λp=>tn p.length).sum<=tn p.length:=bu (Lb _ _) (bu (K4 ps) (rQ (by rw[Th])));have Zp:pi.length<=p.length:=by rw[<-Th];exact Ae (aE.mpr ⟨pi,mpi,rfl⟩)
  have uu:=λu hu=>ak.pU u (by
   obtain⟨b,hb,h⟩:=aJ.cQ.mp hu;exact aJ.cQ.mpr {b,Wc b hb,h})
  have gk:=λu hu=>((got.ks u).mp hu).imp id λh=>by obtain⟨b,hb,h⟩:=aJ.cQ.mp h;obtain⟨r,hr,hb⟩:=iw.mp hb;exact aJ.cQ.mpr {b,by simpa using(Ti b).mpr {r,iM hr,hb},h}
  have ask:Ask P w K C H2 self A B dx kvs L (c+((ps.take i).map λp=>tn p.length).sum) U di gi pi n:=
   {(ak.se.same s1).sb Si F1,Yt,ak.lL,ak.fL,λb hb=>ak.fp b (Wc b hb),bu Zp ak.ln,ak.n8,by have:=ak.lc;lia,hd2,dB2,got.nd,λu hu=>(gk u hu).elim (ak.gu u) λh=>(aJ.cQ.mp h).elim λb h=>h.2.2,fg2,λu hu=>(gk u hu).elim (ak.gU u) (ak.pU u),uu,ak.lU}
  refine{_,9,self,dx,_,9,ask.se.ins,9,_,9,_,9,self,A,B,dx,l,di,kvs,L,_,U,gi,pi,P6,9,ask,bf.of (F1 _ _ (λe=>Si.KA P6 (.inl (e▸hl))) hl),zi.tp (F1.tp Si.oV),po4 pi mpi,λH3 sb3 va3 nc=>?_,λH3 d3 g3 sb3 va3 PR dB3 fg3 aha=>?_}
  ·refine{_,9,9,_,9,kz ?_};refine k1 H3 ((SB.same s1).trans (F1.trans sb3)) (va3.mono ∅) (aJ.T8 got (λu hu hq=>?_) nc Wc);obtain⟨b,hb,h⟩:=aJ.cQ.mp hq;obtain⟨r,hr,hb⟩:=iw.mp hb;obtain⟨j,hj⟩:=eP.mp hr;have hji:j<i:=by have:=(au.mp hj).1;rw[a9]at this;lia
   have JF:ps[j]?=some r:=by rw[C3,aM hji]at hj;exact hj
   have ap:=nJ.mp po1 j i ∅ bO hji;rw[(au.mp JF).2,(au.mp Gu).2]at ap;exact ap u (aJ.cQ.mpr ⟨b,hb,h⟩) hu
  ·refine{_,9,9,_,9,eS ?_};refine{d3,g3,_,9,bO,F1.trans sb3,?_,PR,dB3,fg3,?_}
   ·rw[e1,<-uH];exact va3
   ·rw[e2];exact got.trans got.nd aha
 ·rintro Z H2 ⟨di,gi,_,rfl,_,F1,Yt,hd2,dB2,fg2,got⟩;rw[(bc Et),aS]at Yt got;have le2:=K4 ps;rw[Th]at le2;refine{_,9,k2 H2 di gi ((SB.same s1).trans F1) (Yt.mono ∅) hd2 dB2 fg2 (got.perm λb=>?_)};rw[iw];exact{λ⟨r,hr,hb⟩=>by simpa using(Ti b).mpr ⟨r,hr,hb⟩,λhb=>(Ti b).mp (by simpa using hb)}
def aa3{X:Cx}{tg l:Expr}{tl:TE}(hl:PE X l tl)(h:X.K=K:=by rfl):PI X tg l (ady K tl):=h▸iy hl
def HQ{H H':Hp}{ys:Aam}{ms:List 713}(h:IG K H ys ms)(s:aK H H'):IG K H' ys ms:=by
 induction h with
 |nil=>exact .nil
 |cons h _ ih=>
  obtain⟨q,e,hq⟩:=h;exact .cons {q,e,gf hq s} ih
abbrev Sd(K:Frag)(H:Hp)(L:List aJ.Atom)(g:df):Aam->List aJ.Atom->Prop:=Paired λ(v:V)(a:aJ.Atom)=>∃l mV qy,v=.ref l/\H l=some (.lst mV)/\eE K H mV qy/\qy.length<=L.length/\(∀zs∈qy,(a.1,zs)∈L)/\∀h,aJ.iD g h->(a.1,a.2.map (aJ.ap bo h))∈L->a.2.map (aJ.ap bo h)∈qy
def CQ{H H':Hp}{L:List aJ.Atom}{g:df}{ys:Aam}{p:List aJ.Atom}(h:Sd K H L g ys p)(s:aK H H'):Sd K H' L g ys p:=by
 induction h with
 |nil=>exact .nil
 |cons h _ ih=>
  obtain⟨l,mV,qy,e,h1,h2,h3⟩:=h;exact .cons {l,mV,qy,e,s _ _ h1,ji h2 (cN.same s),h3} ih
def VO{H:Hp}{L:List aJ.Atom}{g:df}{ys:Aam}{p:List aJ.Atom}(h:Sd K H L g ys p):∃jT:List Int,jT.length=p.length/\∀(i:Nat) l mV,ys[i]?=some 720->H l=some (.lst mV)->jT[i]?=some (mV.length:Int):=by
 induction h with
 |nil=>exact{[],9,λi l mV e=>by simp at e}
 |cons h _ ih=>
  obtain⟨l,mV,qy,rfl,h1,_⟩:=h;obtain⟨jT,e1,e2⟩:=ih;refine{(mV.length:Int)::jT,by rw[bF,bF,e1],λi l' Ws e h=>?_};cases i with
  |zero=>
   cases e;rw[h1]at h;cases h;rfl
  |succ i=>exact e2 i l' Ws (by simpa using e) h
theorem Fe{m:Int}:∀{l:List Int},m∈l->∃j:Nat,l[j]?=some m/\∀i,i<j->l[i]?≠some m
 |[],h=>by cases h
 |x::l,h=>by
  by_cases c:x=m
  ·exact{0,by rw[c];rfl,λi hi=>absurd hi (fU _)}
  ·have h':=(aN.mp h).elim (λe=>absurd e.symm c) id;obtain⟨j,h1,h2⟩:=Fe h';refine{j+1,by simpa using h1,λi hi=>?_};cases i with
   |zero=>exactλe=>c (by simpa using e)
   |succ i=>simpa using h2 i ∅
def NQ{xs:Aam}{j:Nat}:lN xs none (some (j:Int))=xs.take j:=by
 unfold lN;rw[HT.zX,HT.Dw,sZ,CZ];by_cases h:j<=xs.length
 ·rw[lC h]
 ·rw[qt ∅,aS,c7 ∅]
def NP{xs:Aam}{j:Nat}:lN xs (some (j:Int)) none=xs.drop j:=by
 unfold lN;rw[HT.Dw,HT.zX];by_cases h:j<=xs.length
 ·rw[lC h];exact c7 (by rw[dE];lia)
 ·rw[qt ∅,wG,ml,ju ∅]
def vT(h:q none H):OO Z H q:=h
theorem yc{α β:Type}{R:α->β->Prop}:∀{xs:List α}{ys:List β}(j:Nat),Paired R xs ys->Paired R (xs.take j) (ys.take j)
 |_,_,_,.nil=>by simp only[List.take_nil];exact .nil
 |_,_,0,.cons _ _=>by simp only[ml];exact .nil
 |_,_,j+1,.cons a r=>by simp only[Bp];exact .cons a (yc j r)
theorem yd{α β:Type}{R:α->β->Prop}:∀{xs:List α}{ys:List β}(j:Nat),Paired R xs ys->Paired R (xs.drop j) (ys.drop j)
 |_,_,_,.nil=>by simp only[List.drop_nil];exact .nil
 |_,_,0,.cons a r=>by simp only[sZ];exact .cons a r
 |_,_,j+1,.cons a r=>by simp only[List.drop_succ_cons];exact yd j r
theorem wa:∀{ts as:Aaf}{g g':df},aJ.fit bo g ts as=some g'->∀q∈g',q∈g\/q.2∈as
 |[],[],g,g',h,q,hq=>by cases h;exact .inl hq
 |[],_::_,g,g',h,q,hq=>by cases h
 |_::_,[],g,g',h,q,hq=>by cases h
 |t::ts,a::as,g,g',h,q,hq=>by
  unfold aJ.fit at h;split at h
  ·split at h
   ·split at h
    ·exact(wa h q hq).imp id λh=>aG _ h
    ·cases h
   ·rcases wa h q hq with h|h
    ·rcases aV.mp h with h|h
     ·exact .inl h
     ·rw[aC.mp h];exact .inr aF
    ·exact .inr (aG _ h)
  ·split at h
   ·exact(wa h q hq).imp id λh=>aG _ h
   ·cases h
def gG:bZ ["self","part","given","key","aims","counts","place","aim","way","whole"] ["self","part","given"] (defScope nv):=gC 53
def HM{f:Addr}{fd:FuncData}{n:Nat}(F:dF K "mapped_part" "MapSearch.mapped_part" nv f fd)(T:Txt K mg)(O:Own K C)(D:Dq P w K mg base C n):cK P w K mg base d7 (6+2*(n+1)) f fd ["self","part","given"] (Ll P w K C (n+1)):=by
 rw[show 6+2*(n+1)=(07+2*n)+1 by lia];refine F.ok gG (λ_ _ _ _ h=>by cases h;subst_vars;rfl) 54;obtain⟨self,A,B,dx,pl,d,kvs,L,c,U,g,p,ys,rfl,ak,jN,kD,gJ,k1,k2⟩:=h;have cC:=O.c;have hu:=mK hr;have hN:=RC hr;refine{_,(aB (dM 3 gG (d9 (cw (cU eC 9 T.iA 53 722) (cU eC 9 T.iA 53 (bW (vQ 9 (pf (more:=["terms"]) (fs:=["given"]) (fr:=[2])) (dI (pv 1)) (λ_ _ _ _=>(vk (n:=2) 9 699)) (λ_ _ _ _=>(cU (Iw) 9 T.iA 53 (bW (kZ 9 (cV (fs:=["given"]) (fr:=[2])) (aa3 (pv 1)) (λ_ _ _ _=>(WM hu (pv 1) (pv 0) afY)))))))))))) (aB (dg (bY (acX hN) (pv 3) (yT (pv 0) 9) 650) (aQ (bK jB)) cy) (aB (oQ (j:=4) gG.nd 9 9 9 (cV (fs:=["self","given"]) (fr:=[0,2])) (dI (pv 1)) (λ_ _ _ _=>(T2 cC D.B6 hr (pv 1) (cw (pv 0) (pv 2)) ∅))) (aB (oQ (j:=5) gG.nd 9 9 9 684 (dI (pv 4)) (λ_ _ _ _=>(bM (xD) 9 T.eJ bG 714))) (aB (dM 6 gG (iL bI wU wQ Jo (pv 5) (bW (bM (J0 9) 9 T.Zh 53 (bW (pv 5)))))) (aB (dJ bE 9 (dI (bH eM (pv 4) (pv 6) (λ_ _=>9))) (gg 07 gG) (aB (dM 08 gG (cl D.fitted hr (jX (pv 2) (bH b4 (bH eM (pv 1) (pv 6) (λ_ _=>9)) aO (λ_ _=>9)) (pv 07)) ∅)) (aB (dM 09 gG (E1 (bY F9 (pv 08) jB (cB _)) jB (T2 cC D.vY hr (pv 0) (cw (c9 vR (mJ yN (pv 1) oS (oR (pv 6))) (mJ yN (pv 1) (oR (c9 jc (pv 6) aO)) oS)) (pv 08)) ∅))) (aQ (dg (bY HK (pv 09) jB (cB _)) (aQ (bK (pv 09))) cy))))) (aB (EY hN (yT (pv 0) 9) (pv 3) fJ 9) (aQ (bK jB))))))))),?_}
 have l8:=bu ak.ln ak.n8;have Mr:=bc kD
 let mem:List 713:=p.map λa=>a.2.map (aJ.get g)
 refine{_,9,pl,ys,9,.inl {jN,λt1 Ep=>?_}};have s1:aK H (upd H t1 (.tup ys)):=aA Ep _;have JK:aZ K (upd H t1 (.tup ys)) t1 ys:=aZ.of av;generalize (upd H t1 (.tup ys))=H1 at s1 JK⊢;refine{_,9,pl,9,{_,iZ jN s1},GW (xs:=ys) (λi zs H2=>aK H1 H2/\i<=p.length/\IG K H2 zs ((p.take i).map λa=>a.2.map (aJ.get g))) (bt ∅) {aK.refl _,aP _,.nil} ?_ ?_ ?_}
 ·rintro i zs H2 hi ⟨s2,mB,hm⟩;refine{iZ jN (s1.trans s2),?_};rw[bc hm,aj,a9];lia
 ·rintro i x zs H2 N hx ⟨s2,mB,hm⟩ pV;obtain⟨a,ha,Ce⟩:=Paired.at' kD hx;have bO:=(au.mp ha).1;obtain⟨ab,ac,rfl,v8,qI⟩:=Ce.same (s1.trans s2);have lt:(a.2.map V.str).length=a.2.length:=aj _;have fa:=(ak.fp a (az ha)).1;refine{ab,_,_,9,v8,yO ?_};refine{_,9,ac,9,⟨_,qI⟩,mN (λj us H3=>H3=H2/\j<=a.2.length/\us=((a.2.take j).map (aJ.get g)).map Y3) (by rw[lt];exact bt ∅) {9,aP _,9} ?_ ?_ ?_}
  ·rintro j us H3 hj ⟨rfl,zh,rfl⟩;refine{qI,?_};rw[aj,aj,a9];lia
  ·rintro j y us H3 M hy ⟨rfl,zh,rfl⟩ hM;obtain⟨z,hz,rfl⟩:=iP hy;have lP:=(au.mp hz).1;refine{_,9,d,9,.inl {_,.inl (s2 _ _ (s1 _ _ ak.hd))},_,9,_,kW.k (k:=Sum.inr z) (s2 _ _ (s1 _ _ ak.hd)),?_};have e1:(iG (gK g) (Sum.inr z:Key)).getD .cz=Y3 (aJ.get g z):=by rw[qQ];cases aJ.get g z<;>rfl
   rw[e1];refine hM _ _ {9,lP,?_};rw[bj,hz,aH,aH];rfl
  ·rintro us H3 ⟨rfl,_,rfl⟩ l hl;rw[lt,aS];refine{l,_,9,.inl {bf.of av,λt ht=>pV _ _ {s2.trans ((aA hl _).trans (aA ht _)),bO,?_}}};rw[bj,ha,aH];exact fK (HQ hm ((aA hl _).trans (aA ht _))) (.cons {t,9,aZ.of av} .nil)
 rintro zs H2 ⟨s2,_,hm⟩ l2 gd;rw[Mr,aS]at hm;refine{l2,_,9,.inl {bf.of av,λt2 jd=>?_}};have s3:aK H1 (upd (upd H2 l2 690) t2 (.tup zs)):=s2.trans ((aA gd _).trans (aA jd _));have h32:aZ K (upd (upd H2 l2 690) t2 (.tup zs)) t2 zs:=aZ.of av;have hm3:IG K (upd (upd H2 l2 690) t2 (.tup zs)) zs mem:=HQ hm ((aA gd _).trans (aA jd _));generalize (upd (upd H2 l2 690) t2 (.tup zs))=H3 at s3 h32 hm3⊢;refine{96,λkt ZN=>?_};have s4:aK H (upd H3 kt (.tup [.ref t1,.ref t2])):=s1.trans (s3.trans (aA ZN _));have Xf:=Uq (aZ.of av) (gf JK (s3.trans (aA ZN _))) (gf h32 (aA ZN _)) (kD.same s4) (HQ hm3 (aA ZN _)) ak.fp λr hr z hz=>by obtain⟨a,_,rfl⟩:=aE.mp hr;obtain⟨t,_,e⟩:=aE.mp hz;exact ak.fg _ (aJ.get_some e)
 generalize (upd H3 kt (.tup [.ref t1,.ref t2]))=H4 at s4 Xf⊢;have se4:=ak.se.same s4;have va4:=ak.va.same s4;obtain⟨vkv,v1,v2,v3⟩:=id va4;refine{_,9,_,9,self,C,dx,_,_,9,se4.ins,O.c,O.vain,9,B,kt,vkv,uv p mem,9,9,v1,Xf,_,9,?_};refine dU (λcc=>?_) (λcc=>?_)
 ·have cc:=cc;obtain⟨q,hq,eq⟩:=Pq.mpr cc;obtain⟨p',m',e',hv⟩:=v3 q hq;obtain⟨rfl,rfl⟩:=V2 (eq.symm.trans e');exact k1 H4 (SB.same s4) (va4.mono (eG _ _)) (hv g ak.nd 9)
 have adP:=iZ jN s4;have adG:=kD.same s4;refine{_,9,pl,9,⟨_,adP⟩,iS (xs:=ys) (λi zs H5=>aK H4 H5/\i<=p.length/\Sd K H5 L g zs (p.take i)) (bt ∅) {aK.refl _,aP _,.nil} ?_ ?_ ?_}
 ·rintro i zs H5 hi ⟨s5,mB,hm⟩;refine{iZ adP s5,?_};rw[bc hm,a9];lia
 ·rintro i x zs H5 N hx ⟨s5,mB,hm⟩ pV;obtain⟨a,ha,Ce⟩:=Paired.at' adG hx;have bO:=(au.mp ha).1;have Lu:=se4.same s5;refine{_,rfl,self,dx,_,rfl,Lu.ins,rfl,_,rfl,_,rfl,self,A,B,dx,d,kvs,L,x,a,g,rfl,Lu,Ce.same s5,ak.fp a (az ha),ak.fL,by have:=ak.lL;lia,s5 _ _ (s4 _ _ ak.hd),ak.nd,ak.gu,ak.fg,λl mV qy H6 s6 sf Cf hr h1 h2 h3=>pV _ _ {s5.trans s6,bO,?_}};rw[bj,ha];exact fK (CQ hm s6) (.cons ⟨l,mV,qy,rfl,Cf,hr,h1,h2,h3⟩ .nil)
 rintro cW H5 ⟨s5,_,hm⟩ al ou;rw[Mr,aS]at hm;have s6:aK H4 (upd H5 al (.lst cW)):=s5.trans (aA ou _);have RB:upd H5 al (.lst cW) al=some (.lst cW):=av;have UQ:=CQ hm (aA ou (.lst cW));generalize (upd H5 al (.lst cW))=H6 at s6 RB UQ⊢;have lav:=bc UQ;obtain⟨jT,Rr,e6⟩:=VO UQ;refine{_,9,al,9,{_,bf.of RB},iS (xs:=cW) (λi zs H7=>H7=H6/\i<=p.length/\zs=(jT.take i).map V.int) (bt ∅) {9,aP _,9} ?_ ?_ ?_}
 ·rintro i zs H7 hi ⟨rfl,mB,rfl⟩;refine{bf.of RB,?_};rw[aj,a9];lia
 ·rintro i x zs H7 N hx ⟨rfl,mB,rfl⟩ pV;obtain⟨a,ha,l,mV,qy,rfl,hl,hr,_⟩:=Paired.at' UQ hx;have bO:=(au.mp ha).1;refine{_,9,_,_,9,.inl {_,bf.of hl,9},pV _ _ {9,bO,?_}};rw[bj,e6 i l mV hx hl,aH];rfl
 rintro cvs H7 ⟨e7,_,rfl⟩ cl lZ;rw[e7]at lZ⊢;rw[lav,c7 ∅];have s7:aK H6 (upd H6 cl 734):=aA lZ _;have Rw:upd H6 cl 734 cl=some 734:=av;generalize (upd H6 cl 734)=H7 at s7 Rw⊢;refine{_,9,.inl {9,_,bf.of Rw},_,9,cl,jT,9,bf.of Rw,?_,λm hm agV=>?_}
 ·rw[Rr];exact Br.mpr gJ
 obtain⟨j,hj,zf⟩:=Fe hm;refine{cl,jT,m,j,9,9,Rw,hj,zf,?_};have hjp:j<p.length:=by have:=(au.mp hj).1;lia
 have s47:=s6.trans s7;have hm7:=CQ UQ s7;have ag6:=s7 _ _ RB;obtain⟨va,UG,haj⟩:∃va,cW[j]?=some va/\True:={_,ay ∅,trivial};obtain⟨a,ha,al_,mV,qy,rfl,Es,Gq,lz,snd,cmp⟩:=Paired.at' hm7 UG;obtain⟨vy,hvy⟩:∃vy,ys[j]?=some vy:={_,ay ∅};obtain⟨a',ZY,hya⟩:=Paired.at' adG hvy;rw[ha]at ZY;cases ZY;obtain⟨ab,ac,rfl,v8,qI⟩:=hya.same s47;have Ly:=s4.trans s47;have KS:=ak.va.same Ly;have SO:=ak.se.same Ly
 let rest:List aJ.Atom:=p.take j++p.drop (j+1)
 have Zo:rest.length+1=p.length:=by rw[aD,a9,dE];lia
 have pm:∀b,b∈p↔b=a\/b∈rest:=λb=>by
  have e:p=p.take j++a::p.drop (j+1):=by
   conv=>lhs;rw[<-jP j p]
   rw[gA hjp,(au.mp ha).2]
  conv=>lhs;rw[e]
  show b∈p.take j++a::p.drop (j+1)↔b=a\/b∈p.take j++p.drop (j+1);simp only[aV,aN];exact{687,687}
 have fa:=ak.fp a (az ha);have tnp:tn p.length=08*tn rest.length+1:=by rw[<-Zo];rfl
 refine{_,rfl,_,rfl,_,_,_,_,rfl,rfl,bf.of ag6,hJ UG,al_,rfl,{_,bf.of Es},gL (xs:=mV) (λi Z H8=>∃x7 x8 x9:Aan,Z=[some (.ref self),some (.ref pl),some 705,some (.ref kt),some (.ref al),some (.ref cl),some (.int j),x7,x8,x9]/\i<=qy.length/\SB B H7 H8/\ic P w K H8 B L (c+i*tn rest.length)/\∀row∈qy.take i,∀way,aJ.fit bo g a.2 row=some way->¬aJ.rX bo L way rest)
  {_,_,_,9,aP _,SB.refl _ _,by simpa using KS,λrow h=>by simp at h} ?_ ?_ ?_}
 ·rintro i Z H8 hi ⟨_,_,_,rfl,_,AZ,_⟩;exact Lg (bf.of Es) AZ KS.KA
 ·rintro i x Z H8 hx ⟨_,_,_,rfl,hi,AZ,Sh,Gb⟩;obtain⟨row,lK,ra,rfl,Gr⟩:=Paired.at' Gq hx;have bO:=(au.mp lK).1;have Yv:=AZ.tp KS.oV;have Q3:=snd row (az lK);have ad4:=ak.fL _ Q3;have adO:=Lg (iZ jN Ly) AZ KS.KA;have lg:g.length<=1000:=by have:=jL ak.nd ak.gU;have h2:=ak.lU;unfold keys at this;rw[aj]at this;lia
  have YC:∀σ' H9,SB B H7 H9->ic P w K H9 B L (c+(i+1)*tn rest.length)->(∀way,aJ.fit bo g a.2 row=some way->¬aJ.rX bo L way rest)->(∃x7 x8 x9:Aan,σ'=[some (.ref self),some (.ref pl),some 705,some (.ref kt),some (.ref al),some (.ref cl),some (.int j),x7,x8,x9])->
    ∃x7 x8 x9:Aan,σ'=[some (.ref self),some (.ref pl),some 705,some (.ref kt),some (.ref al),some (.ref cl),some (.int j),x7,x8,x9]/\i+1<=qy.length/\SB B H7 H9/\ic P w K H9 B L (c+(i+1)*tn rest.length)/\∀row∈qy.take (i+1),∀way,aJ.fit bo g a.2 row=some way->¬aJ.rX bo L way rest:=λσ' H9 YM va9 no9 ⟨x7,x8,x9,e⟩=>{x7,x8,x9,e,bO,YM,va9,λr hr=>by
   rw[bj,lK]at hr;rcases aV.mp hr with hr|hr
   ·exact Gb r hr
   ·have:r=row:=by simpa using hr
    rw[this];exact no9}
  refine{_,rfl,_,rfl,_,rfl,_,_,_,_,rfl,rfl,adO,hJ hvy,_,_,_,_,rfl,rfl,hX v8 Yv,rfl,_,rfl,d,ac,ra,g,a.2,row,rfl,(AZ _ _ ak.dB (Ly _ _ ak.hd)),lg,ak.nd,hX qI Yv,hX Gr Yv,by have:=fa.1;lia,by have:=ad4.1;exact bu this 7,λz hz=>bu (fa.2.2 z hz).1 7,λH9 s9 e9=>?_,λwp g9 H9 s9 hw0 hw9 e9=>?_}
  ·refine{_,9,9,_,9,kz ?_};exact{_,9,9,_,9,eS (YC _ H9 (AZ.trans (SB.same s9)) ((Sh.same s9).mono (by rw[tL];lia)) (λway hw=>by rw[e9]at hw;cases hw) ⟨_,_,_,rfl⟩)}
  ·refine{_,9,9,_,9,eS ?_};have Xy:=aJ.Ih ak.nd e9 Q3;have YM:=AZ.trans (SB.same s9);have se9:=(SO.sb KS AZ).same s9;have wB:wp≠B:=λe=>by obtain⟨kv,h1,_⟩:=Sh;obtain⟨u,hu⟩:=h1.some;rw[e,hu]at hw0;cases hw0
   have adN:=iZ adO s9;refine{_,9,self,dx,_,9,se9.ins,9,_,9,vT {_,9,_,9,pl,ys,9,adN,λc1 PU=>?_}};rw[NQ];have kN:aK H9 (upd H9 c1 (.lst (ys.take j))):=aA PU _;have JL:upd H9 c1 (.lst (ys.take j)) c1=some (.lst (ys.take j)):=av;generalize (upd H9 c1 (.lst (ys.take j)))=ie at kN JL⊢;refine{_,9,_,9,_,_,9,9,_,9,vT {pl,ys,9,iZ adN kN,λc2 ub=>?_}};rw[show((j:Int)+1)=((j+1:Nat):Int)from rfl,NP];have q9:aK ie (upd ie c2 728):=aA ub _;have JK:upd ie c2 728 c2=some 728:=av;generalize (upd ie c2 728)=mD at q9 JK⊢;refine{c1,c2,_,_,9,9,q9 _ _ JL,JK,by rw[a9,dE,bX];lia,λc3 hc3=>?_};have A1:aK mD (upd mD c3 680):=aA hc3 _;have Vc:upd mD c3 680 c3=some 680:=av;generalize (upd mD c3 680)=uZ at A1 Vc⊢;have HB:=kN.trans (q9.trans A1);have ur:∀u,u∈aJ.jx bo rest->u∈aJ.jx bo p:=λu hu=>by obtain⟨b,hb,h⟩:=aJ.cQ.mp hu;exact aJ.cQ.mpr {b,(pm b).mpr (.inr hb),h}
   have ua:∀u,u∈aJ.jx bo [a]->u∈aJ.jx bo p:=λu hu=>by obtain⟨b,hb,h⟩:=aJ.cQ.mp hu;exact aJ.cQ.mpr {b,(pm b).mpr (.inl (aC.mp hb)),h}
   have mi:(i+1)*tn rest.length<=08*tn rest.length:=AI _ (by have:=ak.lL;lia);have mi2:(i+1)*tn rest.length=i*tn rest.length+tn rest.length:=by rw[tL,Nat.one_mul]
   have ask:Ask P w K C uZ self A B dx kvs L (c+i*tn rest.length) U wp g9 rest n:=
    {se9.same HB,(Sh.same s9).same HB,ak.lL,ak.fL,λb hb=>ak.fp b ((pm b).mpr (.inr hb)),by have:=ak.ln;lia,by have:=ak.n8;lia,by have:=ak.lc;lia,HB _ _ hw9,wB,Xy.nd,λu hu=>((Xy.ks u).mp hu).elim (ak.gu u) λh=>(aJ.cQ.mp h).elim λb h=>h.2.2,λq hq=>(wa e9 q hq).elim (ak.fg q) λh=>(ad4.2.2 _ h).2,λu hu=>((Xy.ks u).mp hu).elim (ak.gU u) λh=>ak.pU u (ua u h),λu hu=>ak.pU u (ur u hu),ak.lU}
   refine{_,9,self,A,B,dx,c3,wp,kvs,L,_,U,g9,rest,_,9,ask,bf.of Vc,?_,λqM Wo V1 nc=>?_,λqM d13 g13 Wo V1 ag5 ahi ahc aff=>?_}
   ·have MM:=((kD.same Ly).tp (Yv.trans (cN.same s9))).same HB;exact fK (yc j MM) (yd (j+1) MM)
   ·refine{_,9,9,_,9,eS ?_};refine YC _ qM (YM.trans ((SB.same HB).trans Wo)) (V1.mono ∅) (λway hw=>?_) ⟨_,_,_,rfl⟩;rw[e9]at hw;cases hw;exact nc
   ·refine{_,9,9,_,9,kz ?_};exact{_,9,k2 qM d13 g13 ((SB.same Ly).trans (YM.trans ((SB.same HB).trans Wo))) (V1.mono ∅) ag5 ahi ahc (aJ.Tr ak.nd e9 Q3 aff pm)}
 ·rintro Z H8 ⟨_,_,_,rfl,_,AZ,Sh,Gb⟩;rw[(bc Gq),aS]at Gb;have nc:=aJ.Jj ak.nd cmp Gb pm;have ads:=oZ (oZ Xf (cN.same s47)) (AZ.tp KS.oV);obtain⟨kv8,w1,w2,w3⟩:=Sh;have mi:mV.length*tn rest.length<=08*tn rest.length:=AI _ (by have:=ak.lL;lia);have lc:=ak.lc;exact{_,9,self,C,dx,_,_,9,(SO.sb KS AZ).ins,O.c,O.vain,9,_,9,B,kt,kv8,uv p mem,9,9,w1,ads,8,k1 _ ((SB.same Ly).trans (AZ.trans SB.upd)) ((ic.put w1 w2 w3 ads (aJ.aaz ak.nd nc)).mono ∅) nc}
def step(acc:Aaf)(t:Str):Aaf:=if bo t=true then(if t∈acc then acc else acc++[t])else acc
def fC(fl:Aaf):Aaf:=fl.foldl step []
def W9(acc:Aaf)(t:Str):(step acc t).length<=acc.length+1:=by
 unfold step;split
 ·split
  ·lia
  ·rw[aD];exact aw _
 ·lia
theorem Mu:∀(fl acc:Aaf),(fl.foldl step acc).length<=acc.length+fl.length
 |[],acc=>by simp
 |t::r,acc=>by have h1:=Mu r (step acc t);have h2:=W9 acc t;rw[gY,bF];lia
def yZ(fl:Aaf):(fC fl).length<=fl.length:=by have:=Mu fl [];simpa[fC]using this
def V4(fl:Aaf)(t:Str):fC (fl++[t])=step (fC fl) t:=by unfold fC;rw[pM];rfl
def rq(acc:Aaf):List (Key×V):=acc.map λt=>(Sum.inr t,V.bl true)
def any_keys(acc:Aaf)(t:Str):((rq acc).any λkv=>decide (kv.1=(Sum.inr t:Key)))=decide (t∈acc):=by
 unfold rq;rw[mn,fA,ix];constructor
 ·rintro⟨x,hx,e⟩;have e':=aT e;injection e' with e';exact bg (e'▸hx)
 ·intro h;exact{t,aT h,bg rfl}
def Wy(acc:Aaf)(t:Str):putK (rq acc) (Sum.inr t:Key) (V.bl true)=rq (if t∈acc then acc else acc++[t]):=by
 unfold putK;rw[any_keys];by_cases h:t∈acc
 ·rw[bg h,aM rfl,aM h];unfold rq;rw[b5];refine b9 λx _=>?_;show(if(Sum.inr x:Key)=Sum.inr t then((Sum.inr x:Key),V.bl true)else(Sum.inr x,V.bl true))=_;split<;>rfl
 ·rw[cA h,aI bL,aI h];unfold rq;rw[aH];rfl
def Um(acc:Aaf):((rq acc).map λkv=>kV kv.1)=acc.map V.str:=by unfold rq;rw[b5];rfl
def cv(H H':Hp):Prop:=∀b xs,H b=some 672->H' b=some 672
def cv.trans(a:cv H H1)(b:cv H1 H2):cv H H2:=λc xs h=>b c xs (a c xs h)
def cv.of{H H':Hp}(a:aK H H'):cv H H':=λc xs h=>a c _ h
def cv.refl(H:Hp):cv H H:=λ_ _ h=>h
def cv.new(a:cv H H1)(h:H1 p=none)(o:HO):cv H (upd H1 p o):=λb xs q=>by rw[aL (bC (a b xs q) h)];exact a b xs q
def cv.lst(a:cv H H1)(h:H1 p=some 679)(o:HO):cv H (upd H1 p o):=λb xs q=>by rw[aL (Q1 (a b xs q) h λz=>by cases z)];exact a b xs q
def cv.ext(hf:H f=some 679)(a:Ext f H H1):cv H H1:=λb xs q=>a b _ (Q1 q hf λz=>by cases z) q
def dH.fD{K:Frag}(h:dH K f H)(a:Ext f H H1):cv H H1:=by obtain⟨_,_,_,hf⟩:=h;exact cv.ext hf a
def wK(H:Hp)(v:V)(a:Str×Aaf):Prop:=∃(p t:Addr),v=.ref p/\H p=some (.tup [.str a.1,.ref t])/\H t=some (.tup (a.2.map V.str))
abbrev dw(H:Hp):Aam->Hw->Prop:=Paired (wK H)
def wK.keep(a:cv H H')(h:wK H v b):wK H' v b:=by obtain⟨p,t,e,h1,h2⟩:=h;exact{p,t,e,a _ _ h1,a _ _ h2}
def dw.keep(a:cv H H')(h:dw H vs bb):dw H' vs bb:=Paired.imp' (λ_ _ q=>q.keep a) h
def Qj(H:Hp)(v:V)(hz:Aaf)(bb:Hw):Prop:=∃(q h a:Addr)(vs:Aam),v=.ref q/\H q=some (.tup [.ref h,.ref a])/\H h=some (.tup (hz.map V.str))/\H a=some (.tup vs)/\dw H vs bb
def Qj.keep{H H':Hp}{v:V}{hz:Aaf}{bb:Hw}(t:cv H H')(x:Qj H v hz bb):Qj H' v hz bb:=by obtain⟨q,h,a,vs,e,h1,h2,h3,h4⟩:=x;exact{q,h,a,vs,e,t _ _ h1,t _ _ h2,t _ _ h3,dw.keep t h4}
def Paired.YH(h:Paired F l₁ aab)(q:F a b):Paired F (l₁++[a]) (aab++[b]):=h.snoc q
theorem Paired.app{α β:Type}{F:α->β->Prop}:∀{l₁ m₁:List α}{aab m₂:List β},Paired F l₁ aab->Paired F m₁ m₂->Paired F (l₁++m₁) (aab++m₂)
 |_,_,_,_,.nil,h=>h
 |_,_,_,_,.cons a t,h=>.cons a (Paired.app t h)
theorem Paired.at:∀{l₁:List α}{aab:List β}{i:Nat}{x:α},Paired F l₁ aab->l₁[i]?=some x->∃y,aab[i]?=some y/\F x y
 |_,_,_,_,.nil,e=>by simp at e
 |_,_,0,_,.cons r _,e=>by simp at e;subst e;exact⟨_,rfl,r⟩
 |_,_,i+1,x,.cons _ t,e=>by obtain⟨y,h1,h2⟩:=Paired.at (i:=i) (x:=x) t (by simpa using e);exact{y,by simpa using h1,h2}
def bD(bb:Hw):Aaf:=(bb.map (·.2)).flatten
def RH(l:Hw)(a:Str×Aaf):bD (l++[a])=bD l++a.2:=by unfold bD;simp
def mL{bb:Hw}(h:bb[i]?=some a):bD (bb.take (i+1))=bD 715++a.2:=by rw[bj,h];exact RH _ _
def qi{zs:Aaf}(h0:0<=i)(h1:i<(zs.length:Int)):∃z,z∈zs/\sg 652 i=some (.str z):=by
 obtain⟨z,hz⟩:∃z,zs[i.toNat]?=some z:={_,ay ∅};refine{z,az hz,?_};have e:i=((i.toNat:Nat):Int):=by lia
 rw[e];exact hJ (by rw[aW,hz];rfl)
theorem HS:∀l:Hw,(∀a∈l,a.2.length<=4)->(bD l).length<=4*l.length
 |[],_=>aw _
 |a::r,q=>by have h1:=HS r λts Jw=>q ts (aG _ Jw);have h2:=q a aF;show(a.2++bD r).length<=_;rw[aD,bF];lia
def iB{bb:Hw}{z:Str}:z∈bD bb↔∃a∈bb,z∈a.2:=by
 unfold bD;rw[iw];constructor
 ·rintro⟨l,h1,h2⟩;obtain⟨a,ha,rfl⟩:=aE.mp h1;exact⟨a,ha,h2⟩
 ·rintro⟨a,ha,h⟩;exact{a.2,bS ha,h}
def j9(z:Str):Str:=("?":Str)++z
def oK:Aaf:=d8.map j9
end
inductive Hq(K:Frag)(vs:Aam)(H:Hp)(Q:VK)(_x3:XK):Prop
 |mk (f nl ul vl:Addr) (kP us ws:Aaf) (_:vs=[.ref f,.ref nl,.ref ul,.ref vl]) (_:dH K f H) (_:(nl≠f/\ul≠f/\vl≠f)) (_:(H nl=some (.lst (kP.map V.str))/\1<=kP.length/\kP.length<=100)) (_:(H ul=some (.lst (us.map V.str))/\1<=us.length/\us.length<=100)) (_:(H vl=some (.lst (ws.map V.str))/\1<=ws.length/\ws.length<=100)) (_:∀(r:Addr)(a:Str×Aaf)(H':Hp),dH K f H'->Ext f H H'->wK H' (.ref r) a->a.1∈kP->1<=a.2.length->a.2.length<=4->(∀z∈a.2,z∈us\/z∈ws)->Q (.ref r) H')
section
variable{P:Program}{w:World}{K:Frag}{mg:Aab}{base:Heap}
def ae0{i:Int}(h0:0<=i):∃n:Int,sg [V.int 2,V.int 1,V.int 3] (i % 3)=some (.int n)/\1<=n/\n<=4:=by
 have h1:=nM i (show(3:Int)≠0 by decide);have h2:=lF i (show(0:Int)<3 by decide);generalize i % 3=j at h1 h2;have c:j=0\/j=1\/j=2:=by lia
 rcases c with rfl|rfl|rfl
 ·exact{2,9,7,7}
 ·exact{1,9,7,7}
 ·exact{3,9,7,7}
def mw:bZ ["_law_feed_here","_law_names","_law_unknowns_here","_law_values","_law_at","_law_long","_law_terms_here","_law_k","_law_term"] ["_law_feed_here","_law_names","_law_unknowns_here","_law_values"] (defScope ET):=gC 53
def W2{f:Addr}{fd:FuncData}(F:dF K "_law_atom" "_law_atom" ET f fd)(T:Txt K mg)(D:Dr P w K mg base):cK P w K mg base d7 2 f fd ["_law_feed_here","_law_names","_law_unknowns_here","_law_values"] (Hq K):=by
 refine F.ok mw (λ_ _ _ _ h=>by cases h;subst_vars;rfl) 54;obtain⟨fe,nl,ul,vl,kP,us,ws,rfl,hF,⟨tX,nul,Eg⟩,⟨zg,MV,Eu⟩,⟨zc,MP,zd⟩,⟨Gn,hv1,hv2⟩,k⟩:=h;have ln:(kP.map V.str).length=kP.length:=aj _;have lu:(us.map V.str).length=us.length:=aj _;have lv:(ws.map V.str).length=ws.length:=aj _;refine cut 3 (λZ H2=>∃(at' lg:Int)(x6 x7 x8:Aan),Z=[some (.ref fe),some (.ref nl),some (.ref ul),some (.ref vl),some (.int at'),some (.int lg),none,none,none]/\0<=at'/\at'<(kP.length:Int)/\1<=lg/\lg<=4/\dH K fe H2/\Ext fe H H2)
  {_,(aB (dM 6 mw (dR iz)) (aB (dJ bE 9 (nZ 9 T.sN (bW (pv 5))) (gg 07 mw) (aB (dM 08 mw (bH eM (pv 2) (cl D.dS hr (cw (pv 0) (bM c6 9 T.eJ bG (bW (pv 2))))) (λ_ _=>9))) (aB (dg (bY ny 653 aO (cB _)) (aQ (dM 08 mw (bH eM (pv 3) (cl D.dS hr (cw (pv 0) (bM c6 9 T.eJ bG (bW (pv 3))))) (λ_ _=>9)))) cy) (aQ (fR (iL bI gN gM qG (pv 6) (bW (pv 08)))))))) (aQ (bK (d9 (cw (bH eM (pv 1) (pv 4) (λ_ _=>9)) (cU eC 9 T.iA 53 (bW (pv 6))))))))),?_} (λt2 ht=>{_,(aB (dM 4 mw (cl D.dS hr (cw (pv 0) (bM c6 9 T.eJ bG 722)))) (aB (dM 5 mw (bH eM (dR (jX aO aO aO)) (c9 pS (pv 4) aO) (λ_ _=>9))) (aB (dg (bY ny 653 aO (cB _)) (aQ (dM 5 mw (c9 jc aO 653))) cy) ht))),λtl=>?_})
 ·rintro Z H2 ⟨at',lg,_,_,_,rfl,a0,a1,l0,l1,kF,kq⟩;refine{399,λt ht=>?_};have nt:=kF.my ht;have UJ:H t=none:=kq.none nt ht;refine{_,rfl,lg,rfl,by lia,by lia,Ct (lo:=0) (n:=lg.toNat)
   (λj Z H3=>∃(y7 y8:Aan)(ts:Aaf),Z=[some (.ref fe),some (.ref nl),some (.ref ul),some (.ref vl),some (.int at'),some (.int lg),some (.ref t),y7,y8]/\dH K fe H3/\Ext fe H H3/\H3 t=some (.lst (ts.map V.str))/\ts.length=j/\∀z∈ts,z∈us\/z∈ws)
   {none,none,[],9,kF.new ht _,kq.new ht _,av,9,λz h=>by cases h} ?_ ?_}
  ·rintro j Z H3 hj ⟨y7,y8,ts,rfl,jY,kR,jM,bO,Jw⟩;refine{_,9,_,9,_,9,_,_,9,.inl {_,bf.of (kR _ _ nul zc),9},fe,_,9,jY,8,8,λi4 H4 i0 i1 lh jZ=>?_};have ad6:=kR.trans jZ;obtain⟨z,hz,ev⟩:=qi (zs:=us) i0 ∅;refine{_,_,_,_,9,9,bf.of (ad6 _ _ nul zc),ev,?_};have uR:=jZ _ _ nt jM;refine{_,9,fe,6,9,lh,7,7,λi5 H5 j0 j1 rD nF=>{9,_,9,?_}};have RM:=ad6.trans nF;have Eo:=nF _ _ nt uR;refine dU 668 668
   ·refine{_,9,_,9,_,9,_,_,9,.inl {_,bf.of (RM _ _ Eg Gn),9},fe,_,9,rD,8,8,λi6 H6 k0 k1 rC ko=>?_};obtain⟨y,hy,ev6⟩:=qi (zs:=ws) k0 ∅;have MQ:=ko _ _ nt Eo;refine{_,_,_,_,9,9,bf.of ((RM.trans ko) _ _ Eg Gn),ev6,?_};refine{_,9,.inl {9,_,bf.of MQ},_,9,_,_,_,9,9,MQ,674,?_};refine{_,_,ts++[y],9,rC.lst MQ nt _,(RM.trans ko).own UJ _,by rw[av,aH];rfl,by rw[aD,bO];rfl,λz' h=>?_};rcases aV.mp h with q|q
    ·exact Jw z' q
    ·rw[aC.mp q];exact .inr hy
   ·refine{_,9,.inl {9,_,bf.of Eo},_,9,_,_,_,9,9,Eo,674,?_};refine{_,_,ts++[z],9,rD.lst Eo nt _,RM.own UJ _,by rw[av,aH];rfl,by rw[aD,bO];rfl,λz' h=>?_};rcases aV.mp h with q|q
    ·exact Jw z' q
    ·rw[aC.mp q];exact .inl hz
  ·rintro Z H3 ⟨y7,y8,ts,rfl,jY,kR,jM,bO,Jw⟩;obtain⟨z,hz,ev⟩:=qi (zs:=kP) a0 ∅;refine{_,9,_,9,_,_,_,_,9,9,bf.of (kR _ _ tX zg),ev,?_};refine{_,9,t,_,9,.inl {bf.of jM,λtt mz=>?_}};refine{96,λap ZX=>?_};have hFa:=(jY.new mz (.tup (ts.map V.str))).new ZX (.tup [.str z,.ref tt]);have nta:tt≠ap:=λe=>by rw[<-e,av]at ZX;cases ZX
   exact k ap (z,ts) _ hFa ((kR.new mz _).new ZX _) {ap,tt,9,av,by rw[aL nta,av]} hz (by show 1<=ts.length;lia) (by show ts.length<=4;lia) Jw
 ·--at,long
  refine{_,9,_,9,_,_,9,.inl {_,bf.of zg,9},fe,_,9,hF,8,8,λi1 H1 a0 a1 zk xy=>?_};refine{(by show 3<=sizeLine;decide),695};obtain⟨lg,ev,l0,l1⟩:=ae0 a0;refine{_,9,_,_,9,9,(by show(0:Int)<3;decide),_,_,_,_,9,9,bf.of av,ev,?_};have kF:=zk.new hp (.lst [.int 2,.int 1,.int 3]);have kq:=xy.new hp (.lst [.int 2,.int 1,.int 3]);refine{_,9,fe,08,9,kF,7,7,λi3 H3 c0 c1 jY kR=>{9,_,9,?_}};refine dU 668 668
  ·refine{_,9,fe,4,9,jY,7,7,λi4 H4 d0 d1 lh jZ=>{_,_,9,9,?_}};exact tl _ _ {i1,_,none,none,none,9,a0,8,8,8,lh,(kq.trans kR).trans jZ}
  ·exact tl _ _ {i1,lg,none,none,none,9,a0,8,l0,l1,jY,kq.trans kR}
inductive OU(K:Frag)(vs:Aam)(H:Hp)(Q:VK)(_x3:XK):Prop
 |mk (f al:Addr) (cW:Aam) (bb:Hw) (_:vs=[.ref f,.ref al]) (_:dH K f H) (_:al≠f) (_:H al=some (.lst cW)) (_:dw H cW bb) (_:1<=bb.length) (_:bb.length<=100) (_:(∀a∈bb,1<=a.2.length/\a.2.length<=4)) (_:∀(r:Addr)(hz:Aaf)(H':Hp),dH K f H'->Ext f H H'->H' r=some (.tup (hz.map V.str))->hz.length<=4->(∀z∈hz,z∈bD bb)->Q (.ref r) H')
def xj:bZ ["_law_feed_here","_law_atoms","_law_terms_here","_law_name","_law_some"] ["_law_feed_here","_law_atoms"] (defScope EN):=gC 53
theorem XH:∀{bb:Hw},1<=bb.length->(∀a∈bb,1<=a.2.length/\a.2.length<=4)->1<=(bD bb).length
 |[],h,_=>absurd h 7
 |a::r,_,g=>by have:=(g a aF).1;show 1<=(a.2++bD r).length;rw[aD];lia
def WX{f:Addr}{fd:FuncData}(F:dF K "_law_head" "_law_head" EN f fd)(T:Txt K mg)(D:Dr P w K mg base):cK P w K mg base d7 2 f fd ["_law_feed_here","_law_atoms"] (OU K):=by
 refine F.ok xj (λ_ _ _ _ h=>by cases h;subst_vars;rfl) 54;obtain⟨fe,al,cW,bb,rfl,hF,nal,ou,fV,nA,gd,hg,k⟩:=h;refine{_,(aB (kx (i:=2) xj.nd 9 (Or.inr 9) (dR iz)) (aB (dJ bE 9 (dI (pv 1)) (jA 9 (cj (gg 3 xj) (cj (gg 4 xj) fY))) (aQ (fR (iL bI dO dN rm (pv 2) (bW (pv 4)))))) (aQ (bK (cU eC 9 T.iA 53 (bW (kZ 9 (cV (fs:=["_law_terms_here","_law_feed_here"]) (fr:=[2,0])) (nZ 9 T.sN (bW 653)) (λ_ _ _ _=>(bH (Aj) (pv 1) (cl D.dS hr (cw (pv 2) (bM (xD) 9 T.eJ bG 722))) (λ_ _=>9)))))))))),?_}
 refine{399,λt ht=>?_};have nt:=hF.my ht;have fl:∀n,(bD (bb.take n)).length<=4*bb.length:=λn=>by
  have h1:=HS (bb.take n) λa ha=>(hg a (iM ha)).2;have h2:(bb.take n).length<=bb.length:=by rw[a9];lia
  lia
 refine{_,rfl,al,rfl,{cW,bf.of (by rw[aL (bC ou ht)];exact ou)},gL
  (λi Z H2=>∃(x3 x4:Aan),Z=[some (.ref fe),some (.ref al),some (.ref t),x3,x4]/\dH K fe H2/\Ext fe H H2/\H2 t=some (.lst ((bD 715).map V.str))) {none,none,9,hF.new ht _,(Ext.refl fe H).new ht _,av} (λi Z H2 _ hq=>by(obtain⟨_,_,_,_,ex,_⟩:=hq;exact bf.of (ex _ _ nal ou))) ?_ ?_}
 ·rintro i x Z H2 hx ⟨x3,x4,rfl,kF,kq,jd⟩;obtain⟨a,jC,p,tt,rfl,hp,mz⟩:=Paired.at fV hx;have g:=hg a (az jC);have tu:=hF.fD kq;have lf:=fl i;refine{p,_,9,aZ.of (tu _ _ hp),9,_,_,9,_,_,9,9,?_};refine{_,9,.inl {9,_,bf.of jd},_,9,_,_,_,_,9,9,jd,aZ.of (tu _ _ mz),?_,?_}
  ·rw[aj,aj];exact bB (bt ∅)
  ·refine{_,_,9,kF.lst jd nt _,kq.own ht _,?_};rw[av,mL jC,aH]
 ·rintro Z H2 ⟨x3,x4,rfl,kF,kq,jd⟩;rw[(bc fV),aS]at jd;have lf:=fl bb.length;rw[aS]at lf;have lp:=XH nA hg;refine{_,9,fe,5,9,kF,7,7,λn H3 n0 n1 jY kR=>?_};refine{n,rfl,by lia,by lia,λj m ys H4=>j<=n.toNat/\m=n.toNat -j/\dH K fe H4/\Ext fe H3 H4/\∃hz:Aaf,ys=hz.map V.str/\hz.length=j/\∀z∈hz,z∈bD bb,{_,aP _,9,jY,Ext.refl _ _,[],9,9,λz h=>by cases h},?_};rintro j m ys H4 ⟨hj,rfl,lh,jZ,hz,rfl,hlz,Em⟩;have ly:(hz.map V.str).length=j:=by rw[aj,hlz]
  have uR:=jZ _ _ nt (kR _ _ nt jd);have lt4:((bD bb).map V.str).length=(bD bb).length:=aj _;by_cases bO:j<n.toNat
  ·refine .inr {bO,by rw[ly];exact bt ∅,?_};rintro v H5 ⟨rfl,rfl⟩;refine{_,9,_,9,_,9,_,_,9,.inl {_,bf.of uR,9},fe,_,9,lh,8,8,λi6 H6 k0 k1 rC ko=>?_};obtain⟨z,hzm,ev⟩:=qi (zs:=bD bb) k0 ∅;refine{_,_,_,_,9,9,bf.of (ko _ _ nt uR),ev,?_};refine{n.toNat -(j+1),8,bO,9,rC,jZ.trans ko,hz++[z],by rw[aH];rfl,by rw[aD,hlz];rfl,λz' h=>?_};rcases aV.mp h with q|q
   ·exact Em z' q
   ·rw[aC.mp q];exact hzm
  ·refine .inl {by show n.toNat<=j;lia,by rw[ly];exact bB (bt ∅),λl hl=>?_};exact{l,_,9,.inl {bf.of av,λtp htp=>k tp hz _ ((lh.new hl _).new htp _) ((((kq.trans kR).trans jZ).new hl _).new htp _) av ∅ Em}}
def GoodW(kP:Aaf)(bb:Hw):Prop:=∀a∈bb,a.1∈kP/\1<=a.2.length/\a.2.length<=4/\∀z∈a.2,z∈oK\/z∈d8
inductive D8(K:Frag)(vs:Aam)(H:Hp)(Q:VK)(_x3:XK):Prop
 |mk (f nl:Addr) (most:Int) (kP:Aaf) (_:vs=[.ref f,.ref nl,.int most]) (_:dH K f H) (_:nl≠f) (_:(H nl=some (.lst (kP.map V.str))/\1<=kP.length/\kP.length<=100)) (_:1<=most) (_:most<=20) (_:∀(r:Addr)(hz:Aaf)(bb:Hw)(H':Hp),dH K f H'->Ext f H H'->Qj H' (.ref r) hz bb->1<=bb.length->(bb.length:Int)<=2*most->GoodW kP bb->hz.length<=4->(∀z∈hz,z∈bD bb)->Q (.ref r) H')
structure Dr2(P:Program)(w:World)(K:Frag)(mg:Aab)(base:Heap):Prop extends Dr P w K mg base where
 y4:cq P w K mg base 2 "_law_words" ["_law_feed_here","_law_many"] (Hn K)
 MA:cq P w K mg base 2 "_law_atom" ["_law_feed_here","_law_names","_law_unknowns_here","_law_values"] (Hq K)
 adk:cq P w K mg base 2 "_law_head" ["_law_feed_here","_law_atoms"] (OU K)
def kY:bZ ["_law_feed_here","_law_names","_law_most","_law_unknowns_here","_law_values","_law_many","_law_atoms"] ["_law_feed_here","_law_names","_law_most"] (defScope vK):=gC 53
def KP:(d8.all λz=>decide (z.length<=08))=true:=by decide+kernel
def YY:("?":Str).length=1:=by decide+kernel
def Ma{f:Addr}{fd:FuncData}(F:dF K "_law_question" "_law_question" vK f fd)(T:Txt K mg)(D:Dr2 P w K mg base):cK P w K mg base d7 3 f fd ["_law_feed_here","_law_names","_law_most"] (D8 K):=by
 refine F.ok kY (λ_ _ _ _ h=>by cases h;subst_vars;rfl) 54;obtain⟨fe,nl,most,kP,rfl,hF,tX,⟨zg,MV,Eu⟩,hm1,UR,k⟩:=h;have big:10000<=sizeLine:=by rw[bX];decide
 refine cut 4 (λZ H2=>∃(ul vl:Addr)(us ws:Aaf)(many:Int),Z=[some (.ref fe),some (.ref nl),some (.int most),some (.ref ul),some (.ref vl),some (.int many),none]/\(ul≠fe/\vl≠fe)/\(H2 ul=some (.lst (us.map V.str))/\1<=us.length/\us.length<=100)/\(H2 vl=some (.lst (ws.map V.str))/\1<=ws.length/\ws.length<=100)/\(∀z∈us,z∈oK)/\(∀z∈ws,z∈d8)/\1<=many/\many<=2*most/\dH K fe H2/\Ext fe H H2)
  {_,(aB (oQ (j:=6) kY.nd 9 9 9 (cV (fs:=["_law_feed_here","_law_names","_law_unknowns_here","_law_values"]) (fr:=[0,1,3,4])) (nZ 9 T.sN (bW (pv 5))) (λ_ _ _ _=>(cl D.MA hr (fh (pv 1) (jX (pv 2) (pv 3) (pv 4)))))) (aQ (bK (d9 (cw (cl D.adk hr (cw (pv 0) (pv 6))) (cU eC 9 T.iA 53 (bW (pv 6)))))))),?_} (λt2 ht=>{_,(aB (kx (i:=3) kY.nd 9 (Or.inr 9) (kZ 9 684 (dI (cl D.y4 hr (cw (pv 0) (c9 jc aO 653)))) (λ_ _ _ _=>(c9 ve cT (pv 0))))) (aB (kx (i:=4) kY.nd 9 (Or.inr 9) (cl D.y4 hr (cw (pv 0) aO))) (aB (dM 5 kY (c9 jc aO (cl D.dS hr (cw (pv 0) (pv 2))))) (aB (dg (bY ny 653 aO (cB _)) (aQ (dM 5 kY (c9 jc (pv 2) (cl D.dS hr (cw (pv 0) (c9 jc (pv 2) aO)))))) cy) ht)))),λtl=>?_})
 ·rintro Z H2 ⟨ul,vl,us,ws,many,rfl,⟨nul,Eg⟩,⟨zc,MP,zd⟩,⟨Gn,hv1,hv2⟩,zb,hww,m1,m2,kF,kq⟩;refine{_,rfl,many,rfl,by lia,by lia,λj m ys H4=>j<=many.toNat/\m=many.toNat -j/\dH K fe H4/\Ext fe H2 H4/\∃bb:Hw,dw H4 ys bb/\bb.length=j/\GoodW kP bb,{_,aP _,9,kF,Ext.refl _ _,[],.nil,9,λa h=>by cases h},?_};rintro j m ys H4 ⟨hj,rfl,lh,jZ,bb,fV,hla,hg⟩;have ly:ys.length=j:=hla▸bc fV;by_cases bO:j<many.toNat
  ·refine .inr {bO,by rw[ly];exact bt ∅,?_};rintro v H5 ⟨rfl,rfl⟩;refine{_,9,_,9,_,9,_,9,fe,nl,ul,vl,kP,us,ws,9,lh,⟨tX,nul,Eg⟩,{jZ _ _ tX (kq _ _ tX zg),MV,Eu},{jZ _ _ nul zc,MP,zd},{jZ _ _ Eg Gn,hv1,hv2},λr a H6 rC ko hA PY nA Gz Jw=>?_};refine{many.toNat -(j+1),8,bO,9,rC,jZ.trans ko,bb++[a],Paired.YH (dw.keep (lh.fD ko) fV) hA,by rw[aD,hla];rfl,694};rcases aV.mp hb with q|q
   ·exact hg b q
   ·rw[aC.mp q];refine{PY,nA,Gz,λz hz=>?_};rcases Jw z hz with q|q
    ·exact .inl (zb z q)
    ·exact .inr (hww z q)
  ·refine .inl {by show many.toNat<=j;lia,by rw[ly];exact bB (bt ∅),λl hl=>?_};have uQ:=lh.my hl;have hFl:=lh.new hl 679;have exl:=jZ.new hl 679;have ZW:=dw.keep ((cv.refl H4).new hl 679) fV;have Ba:upd H4 l 679 l=some 679:=av;refine{_,9,_,9,fe,l,ys,bb,9,hFl,uQ,Ba,ZW,8,8,λa ha=>{(hg a ha).2.1,(hg a ha).2.2.1},λr hz H6 rC ko UL UB Em=>?_};refine{_,9,l,_,9,.inl {bf.of (ko _ _ uQ Ba),λta jC=>?_}};refine{96,λq hq=>?_};have So:=(((cv.refl H6).new jC (.tup ys)).new hq (.tup [.ref r,.ref ta]));exact k q hz bb _ ((rC.new jC _).new hq _) ((((kq.trans exl).trans ko).new jC _).new hq _) {q,r,ta,ys,9,av,So _ _ UL,by rw[aL (λe=>by rw[<-e,av]at hq;cases hq),av],dw.keep ((hFl.fD ko).trans So) ZW} ∅ ∅ hg UB Em
 ·--afu
  refine{_,9,_,9,fe,5,9,hF,7,7,λi1 H1 a0 a1 zk xy=>{_,_,9,9,fe,_,9,zk,8,8,λwl mq H2 kF kq nwl ahC za hlw ndw rB=>?_}};refine{wl,9,{_,bf.of za},iS (xs:=mq.map V.str) (λi ys H3=>H3=H2/\i<=mq.length/\ys=((mq.take i).map j9).map V.str) 674 {9,aP _,9} ?_ ?_ ?_}
  ·rintro i ys H3 hi ⟨rfl,_,rfl⟩;refine{bf.of za,?_};rw[aj,aj,a9];lia
  ·rintro i x ys H3 N hc ⟨rfl,hi,rfl⟩ hN;have bO:=(au.mp hc).1;rw[aj]at bO;rw[aW,ay bO]at hc;obtain rfl:V.str mq[i]=x:=bR hc;have lw:=aT (bN.mp KP mq[i] (rB _ (kJ bO)));refine{_,9,_,_,9,9,by rw[YY];lia,hN _ _ {9,bO,?_}};rw[bj,ay bO,aH,aH];rfl
  ·rintro ys H3 ⟨rfl,_,rfl⟩ l hl;rw[aj,aS];have uQ:=kF.my hl;have jY:=kF.new hl 678;have Ba:upd H3 l 678 l=some 678:=av;have kR:=(xy.trans kq).new hl 678;refine{_,9,fe,2,9,jY,7,7,λvl vws H5 rD nF Eg agI Gn JE ndv hinv=>?_};refine{_,9,_,9,fe,most,9,rD,8,8,λi6 H6 b0 b1 rC ko=>{_,_,9,9,?_}};have zb:∀z∈mq.map j9,z∈oK:=λz hz=>by obtain⟨y,hy,rfl⟩:=aE.mp hz;exact bS (rB y hy)
   have Zn:(mq.map j9).length=mq.length:=aj _;refine{_,9,fe,08,9,rC,7,7,λi7 H7 c0 c1 uT GH=>{9,_,9,?_}};have RL:=ko.trans GH;refine dU 668 (λc=>tl _ _ {l,vl,mq.map j9,vws,_,9,⟨uQ,Eg⟩,{RL _ _ uQ (nF _ _ uQ Ba),8,8},{RL _ _ Eg Gn,8,8},zb,hinv,8,8,uT,(kR.trans nF).trans RL})
   ·refine{_,9,_,9,_,9,_,_,9,9,fe,_,9,uT,8,8,λi8 H8 d0 d1 Ex zq=>{_,_,9,9,?_}};have XJ:=RL.trans zq;exact tl _ _ {l,vl,mq.map j9,vws,_,9,⟨uQ,Eg⟩,{XJ _ _ uQ (nF _ _ uQ Ba),8,8},{XJ _ _ Eg Gn,8,8},zb,hinv,8,8,Ex,(kR.trans nF).trans XJ}
def L6(c d:Nat):decide ((⟨#[c]⟩:Str)=⟨#[d]⟩)=(c==d):=by
 by_cases h:c=d
 ·subst h;simp
 ·have:¬((⟨#[c]⟩:Str)=⟨#[d]⟩):=λe=>h (by injection e with e;simpa using e);rw[cA this];exact(cZ.mpr h).symm
def QJ:("?":Str)=⟨#[63]⟩:=by decide+kernel
def vx{z:Str}{c:Nat}(h:z.cps.toList[0]?=some c):Txt.startswith z "?"=decide ((⟨#[c]⟩:Str)="?"):=by rw[QJ,L6];rw[fA,rG];unfold Txt.startswith;rw[bP,jE,DS,h];exact{λe=>bR e,λe=>by rw[e]}
def N8{z:Str}(h:z.cps.toList[0]?=none):Txt.startswith z "?"=false:=by rw[QJ];refine iQ.mpr λe=>?_;unfold Txt.startswith at e;rw[bP,jE,DS,h]at e;cases e
def XI{z:Str}(h:z≠""):∃c,z.cps.toList[0]?=some c:=by
 cases e:z.cps.toList with
 |cons c r=>exact⟨c,rfl⟩
 |nil=>
  exact absurd (wZ (e.trans 9)) h
def yi{α:Type}{g:α->Bool}{l:List α}{i:Nat}{x:α}(h:l[i]?=some x):(l.take (i+1)).filter g=(l.take i).filter g++(if g x=true then[x]else[]):=by rw[bj,h,eA];show _++[x].filter g=_;rw[cS,rV]
def SN:sgn 63=false:=by decide+kernel
def aay{z:Str}(h:isVal z=true):bo z=false:=by
 unfold isVal at h;rw[bP,bP]at h;have h1:=aT h.1;unfold bo;cases e:z.cps.toList with
 |nil=>
  have:z.length=0:=by show z.cps.size=0;rw[<-bJ,e];rfl
  lia
 |cons c r=>
  have hc:=bN.mp h.2.2 _ (bS (e▸aF));have nc:c≠63:=λz=>by rw[z,SN]at hc;cases hc
  rw[vx (by rw[e];rfl),QJ,L6,cZ.mpr nc,kr]
def k7(z:Str):Bool:=isVal z||bo z
def rL(acc:Aaf)(t:Str):Aaf:=if t∈acc then acc else acc++[t]
def wd(g:Aaf):Aaf:=g.foldl rL []
def NG(g:Aaf)(t:Str):wd (g++[t])=rL (wd g) t:=by unfold wd;rw[pM];rfl
theorem Mq:∀(g acc:Aaf)(z:Str),z∈g.foldl rL acc↔z∈acc\/z∈g
 |[],acc,z=>by simp
 |t::r,acc,z=>by
  rw[gY,Mq r (rL acc t) z];unfold rL;by_cases d:t∈acc
  ·rw[aM d];constructor
   ·rintro(h|h)
    ·exact .inl h
    ·exact .inr (aG _ h)
   ·rintro(h|h)
    ·exact .inl h
    ·rcases aN.mp h with rfl|h
     ·exact .inl d
     ·exact .inr h
  ·rw[aI d];constructor
   ·rintro(h|h)
    ·rcases aV.mp h with h|h
     ·exact .inl h
     ·rw[aC.mp h];exact .inr aF
    ·exact .inr (aG _ h)
   ·rintro(h|h)
    ·exact .inl (bz _ h)
    ·rcases aN.mp h with rfl|h
     ·exact .inl (bh _ (aC.mpr 9))
     ·exact .inr h
def Dy(g:Aaf)(z:Str):z∈wd g↔z∈g:=by unfold wd;rw[Mq];simp
theorem Qa:∀(g acc:Aaf),(g.foldl rL acc).length<=acc.length+g.length
 |[],acc=>by simp
 |t::r,acc=>by
  have h1:=Qa r (rL acc t);have h2:(rL acc t).length<=acc.length+1:=by
   unfold rL;split
   ·lia
   ·rw[aD];exact aw _
  rw[gY,bF];lia
def abr(g:Aaf):(wd g).length<=g.length:=by have:=Qa g [];simpa[wd]using this
theorem G8:∀(g acc:Aaf),acc.Nodup->(g.foldl rL acc).Nodup
 |[],acc,h=>h
 |t::r,acc,h=>by
  refine G8 r _ ?_;unfold rL;split
  ·exact h
  ·rename_i d;rw[fP];refine{h,59,λa ha b hb e=>?_};rw[aC.mp hb]at e;exact d (e▸ha)
def Vv(g:Aaf):(wd g).Nodup:=G8 g [] .nil
theorem IV:∀(fl acc:Aaf),fl.foldl step acc=(fl.filter bo).foldl rL acc
 |[],acc=>rfl
 |t::r,acc=>by
  rw[gY,cS,IV r];unfold step;by_cases c:bo t=true
  ·rw[aM c,aM c,gY];rfl
  ·rw[aI c,aI c]
def Di(fl:Aaf):fC fl=wd (fl.filter bo):=IV fl []
def xh(fl:Aaf):(fC fl).Nodup:=by rw[Di];exact Vv _
def acd{z:Str}(h:k7 z=true):Txt.startswith z "?"=bo z:=by
 have h':(isVal z||bo z)=true:=h;cases e:isVal z with
 |true=>
  rw[aay e];cases e1:z.cps.toList with
  |nil=>exact N8 (by rw[e1];rfl)
  |cons c r=>
   unfold isVal at e;rw[bP,bP]at e;have hc:=bN.mp e.2.2 _ (bS (e1▸aF));have nc:c≠63:=λz=>by rw[z,SN]at hc;cases hc
   rw[vx (by rw[e1];rfl),QJ,L6,cZ.mpr nc]
 |false=>
  rw[e,Bool.false_or]at h';rw[h'];unfold bo at h';rw[bP]at h';exact h'.1
def zI{z:Str}(h:k7 z=true):∃c,z.cps.toList[0]?=some c:=by
 refine XI λe=>?_;rw[e]at h;have:k7 ""=false:=by decide+kernel
 cases h
def zJ{z:Str}(h:k7 z=true){c:Nat}(hc:z.cps.toList[0]?=some c):decide (V.str ⟨#[c]⟩=V.str "?")=bo z:=by rw[<-acd h,vx hc,fA];simp
def VD(xs:Aam)(j:Nat):lN xs none (some (j:Int))=xs.take j:=by
 unfold lN;rw[HT.zX,HT.Dw,sZ,CZ];by_cases h:j<=xs.length
 ·rw[lC h]
 ·rw[qt ∅,aS,c7 ∅]
def X2(xs:Aam)(j:Nat):lN xs (some (j:Int)) none=xs.drop j:=by
 unfold lN;rw[HT.zX,HT.Dw];by_cases h:j<=xs.length
 ·rw[lC h,c7 (dE▸aw _)]
 ·rw[qt ∅,wG,ml,List.drop_of_length_le ∅]
noncomputable def Dh:Aaf:=["?z1","?z","?y","?yy","?0","?m"]
end
structure AD where
 P:Str->Prop
noncomputable instance:Membership Str AD:=⟨λs z=>s.P z⟩
def kT:AD:=⟨λz=>k7 z=true/\z.length<=100/\PyData.strOk z=true⟩
def aen:((oK++d8++Dh).all λz=>k7 z&&decide (z.length<=100)&&PyData.strOk z)=true:=by decide+kernel
def LN{z:Str}(h:z∈oK++d8++Dh):z∈kT:=by have:=bN.mp aen z h;rw[bP,bP]at this;exact{this.1.1,aT this.1.2,this.2}
def fZ{z:Str}(h:z∈kT):k7 z=true/\z.length<=100/\PyData.strOk z=true:=h
def tM{z:Str}(h:z∈d8):z∈kT:=LN (bz _ (bh _ h))
def Kx{z:Str}(h:z∈oK):z∈kT:=LN (bz _ (bz _ h))
def z_T{z:Str}(h:z∈Dh):z∈kT:=LN (bh _ h)
def nO(bb:Hw):Prop:=∀a∈bb,a.1∈d8/\1<=a.2.length/\a.2.length<=4/\∀z∈a.2,z∈kT
structure QW(H:Hp)(v:V)(hz:Aaf)(bb:Hw):Prop where
 at':Qj H v hz bb
 l1:1<=bb.length
 l8:bb.length<=08
 good:nO bb
 h4:hz.length<=4
 hh:∀z∈hz,z∈kT
def QW.keep{H H':Hp}{v:V}{hz:Aaf}{bb:Hw}(t:cv H H')(x:QW H v hz bb):QW H' v hz bb:={x.at'.keep t,x.l1,x.l8,x.good,x.h4,x.hh}
def nO.flat{bb:Hw}(g:nO bb){z:Str}(h:z∈bD bb):z∈kT:=by obtain⟨a,ha,hz⟩:=iB.mp h;exact(g a ha).2.2.2 z hz
def nO.len{bb:Hw}(g:nO bb)(n:Nat):(bD (bb.take n)).length<=4*bb.length:=by
 have h1:=HS (bb.take n) λa ha=>(g a (iM ha)).2.2.1;have h2:(bb.take n).length<=bb.length:=by rw[a9];lia
 lia
inductive yL(vs:Aam)(H:Hp)(Q:VK)(_x3:XK):Prop
 |mk (v:V) (hz:Aaf) (bb:Hw) (_:vs=[v]) (_:QW H v hz bb) (_:∀(r:Addr)(H':Hp),aK H H'->H r=none->H' r=some (.lst ((fC (bD bb)).map V.str))->Q (.ref r) H')
section
variable{P:Program}{w:World}{K:Frag}{mg:Aab}{base:Heap}
structure Dv2(P:Program)(w:World)(K:Frag)(mg:Aab)(base:Heap):Prop extends Dv P w K mg base where
 is_unknown:cq P w K mg base 2 "is_unknown" ["thing"] Qy
def oN:bZ ["question","found","atom","term"] ["question"] (defScope ux):=gC 53
def HL(F:dF K "unknowns_of" "unknowns_of" ux f fd)(T:Txt K mg)(D:Dv2 P w K mg base):cK P w K mg base d7 3 f fd ["question"] yL:=by
 refine F.ok oN (λ_ _ _ _ h=>by cases h;subst_vars;rfl) 54;obtain⟨v,hz0,bb,rfl,⟨⟨q,hd,aa,cW,rfl,hq,Cj,m7,fV⟩,l1,l8,good,h4,hh⟩,k⟩:=h;refine{_,(aB (dM 1 oN jm) (aB (dJ bE 9 (iy (bH b4 (pv 0) aO (λ_ _=>9))) (gg 2 oN) (aQ (dJ bE 9 (iy (bH b4 (pv 2) aO (λ_ _=>9))) (gg 3 oN) (aQ (dg (gH (cl D.is_unknown hr (bW (pv 3)))) (aQ (yQ (mK hr) (pv 1) (pv 3) fJ 9)) cy))))) (aQ (bK (cU (Iy 9) 9 T.pT 53 722))))),?_}
 intro d m6;refine{_,rfl,_,_,_,_,rfl,rfl,aZ.of (aA m6 _ _ _ hq),rfl,aa,rfl,{cW,aZ.of (aA m6 _ _ _ m7)},qJ
  (λi Z H2=>∃(x2 x3:Aan),Z=[some (.ref q),some 705,x2,x3]/\aK H H2/\H2 d=some (.dK (rq (fC (bD 715))))) {none,none,9,aA m6 _,av} (λi Z H2 _ hq=>by(obtain⟨_,_,_,sm,_⟩:=hq;exact aZ.of (sm _ _ m7))) ?_ ?_}
 ·rintro i x Z H2 hx ⟨x2,x3,rfl,sm,hd2⟩;obtain⟨ta,ht,p,t,rfl,hp,mz⟩:=Paired.at fV hx;have g:=good ta (az ht);have lf:=good.len i;refine{_,rfl,_,_,_,_,rfl,rfl,aZ.of (sm _ _ hp),rfl,t,rfl,{_,aZ.of (sm _ _ mz)},qJ
   (λj Z H3=>∃(x3:Aan),Z=[some (.ref q),some 705,some 676,x3]/\aK H H3/\H3 d=some (.dK (rq (fC (bD 715++ta.2.take j))))) {x3,9,sm,by rw[ml,cL];exact hd2} (λj Z H3 _ hq=>by(obtain⟨_,_,sm',_⟩:=hq;exact aZ.of (sm' _ _ mz))) ?_ ?_}
  ·rintro j y Z H3 hy ⟨x3,rfl,qB,PR⟩;obtain⟨z,hz,rfl⟩:=iP hy;have hz9:=(fZ (g.2.2.2 z (az hz))).2.1;refine{_,9,z,9,8,λH4 uP=>{_,9,?_}};have JH:=uP _ _ PR;have en:fC (bD 715++ta.2.take (j+1))=step (fC (bD 715++ta.2.take j)) z:=by rw[bj,hz,<-V4,dG];rfl
   have lu:=yZ (bD 715++ta.2.take j);rw[aD,a9]at lu;refine dU 693 693
   ·refine{_,9,_,9,d,_,9,AR.k (k:=Sum.inr z) JH (by unfold rq;rw[aj];exact bt ∅),?_};refine{_,9,λb u e=>?_,?_}
    ·rw[aL (bC e m6)];exact uP _ _ (qB _ _ e)
    ·rw[av,Wy,en];unfold step;rw[aM c1]
   ·refine{_,9,qB.trans uP,?_};rw[en];unfold step;rw[aI c1];exact JH
  ·rintro Z H3 ⟨x3,rfl,qB,PR⟩;refine{_,_,9,qB,?_};rw[aj,aS]at PR;rw[mL ht];exact PR
 ·rintro Z H2 ⟨x2,x3,rfl,sm,hd2⟩;rw[(bc fV),aS]at hd2;refine{_,9,d,_,9,hd2,λl hl=>?_};refine k l _ (sm.trans (aA hl _)) (sm.free hl) ?_;rw[av,Um]
def p6:bZ ["_law_question_here","_law_found","_law_name","_law_terms_here"] ["_law_question_here"] (defScope vJ):=gC 53
def L8{f:Addr}{fd:FuncData}(F:dF K "_law_unknowns" "_law_unknowns" vJ f fd)(T:Txt K mg):cK P w K mg base d7 1 f fd ["_law_question_here"] yL:=by
 refine F.ok p6 (λ_ _ _ _ h=>by cases h;subst_vars;rfl) 54;obtain⟨v,hz0,bb,rfl,⟨⟨q,pD,aa,cW,rfl,hq,Cj,m7,fV⟩,l1,l8,good,h4,hh⟩,k⟩:=h;refine{_,(aB (kx (i:=1) p6.nd 9 (Or.inr 9) (dR iz)) (aB (dJ bE 9 (iy (bH b4 (pv 0) aO (λ_ _=>9))) (jA 9 (cj (gg 2 p6) (cj (gg 3 p6) fY))) (aQ (fR (iL bI dO dN xr (pv 1) (bW (k9 9 684 (iy (pv 3)) (λ_ _ _ _=>(bY ny (bH Gh (pv 0) aO (λ_ _=>9)) cT (cB _))) 731)))))) (aQ (bK (k9 9 (cV (fs:=["_law_found"]) (fr:=[1])) (nZ 9 T.sN (bW (bM c6 9 T.eJ bG 722))) (λ_ _ _ _=>(bY (A5) (bH (Aj) (pv 1) (pv 0) (λ_ _=>9)) (mJ (Wl) (pv 1) oS (oR (pv 0))) 650)) (λ_ _ _ _=>(bH (Aj) (pv 1) (pv 0) (λ_ _=>9)))))))),?_}
 have lf:∀i,((bD 715).filter bo).length<=32:=λi=>by have h1:=de bo (bD 715);have h2:=good.len i;lia
 refine{399,λd m6=>?_};refine{_,rfl,_,_,_,_,rfl,rfl,aZ.of (aA m6 _ _ _ hq),rfl,aa,rfl,{cW,aZ.of (aA m6 _ _ _ m7)},qJ
  (λi Z H2=>∃(x2 x3:Aan),Z=[some (.ref q),some 705,x2,x3]/\aK H H2/\H2 d=some (.lst (((bD 715).filter bo).map V.str))) {none,none,9,aA m6 _,av} (λi Z H2 _ hq=>by(obtain⟨_,_,_,sm,_⟩:=hq;exact aZ.of (sm _ _ m7))) ?_ ?_}
 ·rintro i x Z H2 hx ⟨x2,x3,rfl,sm,hd2⟩;obtain⟨ta,ht,p,t,rfl,hp,mz⟩:=Paired.at fV hx;have g:=good ta (az ht);have lfi:=lf i;refine{p,_,9,aZ.of (sm _ _ hp),9,_,_,9,_,_,9,9,?_};refine{_,9,.inl {9,_,bf.of hd2},_,9,t,9,{_,aZ.of (sm _ _ mz)},mN (xs:=ta.2.map V.str) (λj ys H3=>H3=H2/\j<=ta.2.length/\ys=((ta.2.take j).filter bo).map V.str) 674 {9,aP _,9} ?_ ?_ ?_}
  ·rintro j ys H3 hj ⟨rfl,_,rfl⟩;refine{aZ.of (sm _ _ mz),?_};rw[aj];refine bu (de _ _) ?_;rw[a9];lia
  ·rintro j y ys H3 N hc ⟨rfl,hj,rfl⟩ hN;obtain⟨z,hz,rfl⟩:=iP hc;have JF:=(au.mp hz).1;have Em:=fZ (g.2.2.2 z (az hz));obtain⟨c,Cn⟩:=zI Em.1;refine{_,9,_,_,_,9,9,bB (bt ∅),(hJ (j:=0) Cn),9,_,9,?_};rw[zJ Em.1 Cn];refine dU 693 693
   ·refine{_,9,hN _ _ {9,JF,?_}};rw[yi hz,aM c1,aH];rfl
   ·refine hN _ _ {9,JF,?_};rw[yi hz,aI c1,cL]
  ·rintro ys H3 ⟨rfl,_,rfl⟩ l hl;rw[aj,aS];refine{_,_,_,_,9,9,by rw[aL (bC hd2 hl)];exact hd2,av,?_,?_}
   ·rw[aj,aj];have:=bu (de bo ta.2) g.2.2.1;exact bB (bt ∅)
   ·refine{_,_,9,λb u e=>?_,?_}
    ·rw[aL (bC e m6)];exact aA hl _ _ _ (sm _ _ e)
    ·rw[av,mL ht,eA,aH]
 ·rintro Z H2 ⟨x2,x3,rfl,sm,hd2⟩;rw[(bc fV),aS]at hd2;have lfa:=lf bb.length;rw[aS]at lfa;rw[Di]at k;generalize (bD bb).filter bo=g at hd2 lfa k;have lg:(g.map V.str).length=g.length:=aj _;refine{_,9,_,_,9,.inl {_,bf.of hd2,9},_,9,8,8,λj m' ys H3=>j<=g.length/\m'=g.length -j/\aK H2 H3/\ys=(wd (g.take j)).map V.str,{_,aP _,9,aK.refl _,9},?_};rintro j m' ys H3 ⟨hj,rfl,qB,rfl⟩;have ly:((wd (g.take j)).map V.str).length<=32:=by rw[aj];refine bu (abr _) ?_;rw[a9];lia
  by_cases bO:j<g.length
  ·refine .inr {by show j<((g.map V.str).length:Int).toNat;lia,bt ∅,?_};rintro v H4 ⟨rfl,rfl⟩;have JH:=qB _ _ hd2;obtain⟨z,hz⟩:∃z,g[j]?=some z:={_,ay bO};have ev:sg (g.map V.str) (0+(j:Int))=some (.str z):=by rw[C7];exact hJ (by rw[aW,hz];rfl)
   refine{_,9,_,9,_,_,_,_,9,9,bf.of JH,ev,?_};refine{_,9,vT {_,9,_,9,_,_,9,bf.of JH,695}};have ec:lN (g.map V.str) none (some (0+(j:Int)))=(g.take j).map V.str:=by rw[C7,VD,Bh]
   rw[ec];refine{p,_,9,.inl (bf.of av),9,zo _,_,9,?_};have uO:aK H2 (upd H4 p (.lst ((g.take j).map V.str))):=qB.trans (aA hp _);have et:g.take (j+1)=g.take j++[z]:=by rw[bj,hz];rfl
   rw[vm];refine dU 693 693
   ·have c1:z∉g.take j:=by simpa using c1
    refine{_,9,_,9,_,_,_,_,9,9,bf.of (uO _ _ hd2),ev,?_};refine{_,8,bO,9,uO,?_};rw[et,NG];unfold rL;rw[aI (λh=>c1 ((Dy _ _).mp h)),aH];rfl
   ·have c1:z∈g.take j:=by simpa using c1
    refine{_,8,bO,9,uO,?_};rw[et,NG];unfold rL;rw[aM ((Dy _ _).mpr c1)]
  ·have ej:j=g.length:=by lia
   refine .inl {by show((g.map V.str).length:Int).toNat<=j;lia,bB (bt ∅),λl hl=>?_};refine k l _ ((sm.trans qB).trans (aA hl _)) ((sm.trans qB).free hl) ?_;rw[av,ej,aS]
def gD(g:List 677):List (Key×V):=g.map λp=>(Sum.inr p.1,V.str p.2)
def Jq(g:List 677)(z:Str):Option Str:=(g.find? λp=>decide (p.1=z)).map (·.2)
def dq(g:List 677)(z:Str):Str:=(Jq g z).getD z
def ka(g:List 677)(u t:Str):List 677:=if(g.any λp=>decide (p.1=u))=true then g.map (λp=>if p.1=u then(p.1,t)else p)else g++[(u,t)]
theorem Hj(z:Str):∀g:List 677,iG (gD g) (Sum.inr z:Key)=(Jq g z).map V.str
 |[]=>rfl
 |p::r=>by
  unfold iG Jq at*;show Option.map _ (List.find? _ ((Sum.inr p.1,V.str p.2)::gD r))=_;rw[iN,iN];by_cases h:p.1=z
  ·rw[bg h,bg (show(Sum.inr p.1:Key)=Sum.inr z from cR _ h)];rfl
  ·rw[cA h,cA (show ¬(Sum.inr p.1:Key)=Sum.inr z fromλe=>h (by injection e))];exact(Hj z r)
def aem(u:Str)(g:List 677):((gD g).any λkv=>decide (kv.1=(Sum.inr u:Key)))=g.any λp=>decide (p.1=u):=by
 unfold gD;rw[mn];congr 1;funext p;show decide ((Sum.inr p.1:Key)=Sum.inr u)=_;by_cases h:p.1=u
 ·rw[bg h,bg (show(Sum.inr p.1:Key)=Sum.inr u from cR _ h)]
 ·rw[cA h,cA (show ¬(Sum.inr p.1:Key)=Sum.inr u fromλe=>h (by injection e))]
def HG(g:List 677)(u t:Str):putK (gD g) (Sum.inr u:Key) (V.str t)=gD (ka g u t):=by
 unfold putK ka;rw[aem];by_cases c:(g.any λp=>decide (p.1=u))=true
 ·rw[aM c,aM c];unfold gD;rw[b5,b5];refine b9 λp _=>?_;show(if(Sum.inr p.1:Key)=Sum.inr u then((Sum.inr p.1:Key),V.str t)else(Sum.inr p.1,V.str p.2))=(Sum.inr (if p.1=u then(p.1,t)else p).1,V.str (if p.1=u then(p.1,t)else p).2);by_cases h:p.1=u
  ·rw[aM (cR _ h),aM h]
  ·rw[aI (λe=>h (by injection e)),aI h]
 ·rw[aI c,aI c];unfold gD;rw[aH];rfl
def LI(g:List 677)(u t:Str):(ka g u t).length<=g.length+1:=by
 unfold ka;split
 ·rw[aj];lia
 ·rw[aD];exact aw _
def BV{g:List 677}{u t:Str}{l:AD}(h:∀p∈g,p.2∈l)(ht:t∈l):∀p∈ka g u t,p.2∈l:=λp hp=>by
 unfold ka at hp;split at hp
 ·obtain⟨q,hq,rfl⟩:=aE.mp hp;split
  ·exact ht
  ·exact h q hq
 ·rcases aV.mp hp with hp|hp
  ·exact h p hp
  ·rw[aC.mp hp];exact ht
def HV{g:List 677}{z:Str}{l:AD}(h:∀p∈g,p.2∈l)(hz:z∈l):dq g z∈l:=by
 unfold dq Jq;cases e:g.find? λp=>decide (p.1=z)with
 |none=>exact hz
 |some p=>exact h p (gx e)
def Af(g:List 677)(bb:Hw):Hw:=bb.map λa=>(a.1,a.2.map (dq g))
inductive Ky(vs:Aam)(H:Hp)(Q:VK)(_x3:XK):Prop
 |mk (t d:Addr) (ts:Aaf) (g:List (Str×Str)) (_:vs=[.ref t,.ref d]) (_:H t=some (.tup (ts.map V.str))) (_:H d=some (.dK (gD g))) (_:ts.length<=100) (_:∀(r:Addr)(H':Hp),aK H H'->H' r=some (.tup ((ts.map (dq g)).map V.str))->Q (.ref r) H')
inductive Lm(vs:Aam)(H:Hp)(Q:VK)(_x3:XK):Prop
 |mk (v:V) (d:Addr) (hz:Aaf) (bb:Hw) (g:List (Str×Str)) (_:vs=[v,.ref d]) (_:QW H v hz bb) (_:H d=some (.dK (gD g))) (_:(∀p∈g,p.2∈kT)) (_:∀(r:Addr)(H':Hp),aK H H'->QW H' (.ref r) (hz.map (dq g)) (Af g bb)->Q (.ref r) H')
def Wm:bZ ["_law_terms_here","_law_given"] ["_law_terms_here","_law_given"] (defScope Ht):=gC 53
def ac0{f:Addr}{fd:FuncData}(F:dF K "_law_led" "_law_led" Ht f fd)(T:Txt K mg):cK P w K mg base d7 1 f fd ["_law_terms_here","_law_given"] Ky:=by
 refine F.ok Wm (λ_ _ _ _ h=>by cases h;subst_vars;rfl) 54;obtain⟨t,d,ts,g,rfl,ht,hd,hl,k⟩:=h;refine{_,(aQ (bK (cU eC 9 T.iA 53 (bW (kZ 9 (cV (fs:=["_law_given"]) (fr:=[1])) (iy (pv 0)) (λ_ _ _ _=>(sL (mK hr) (pv 1) (pv 0) (pv 0) Q9))))))),?_};refine{_,9,t,9,{_,aZ.of ht},mN (xs:=ts.map V.str) (λi ys H2=>H2=H/\i<=ts.length/\ys=((ts.take i).map (dq g)).map V.str) 674 {9,aP _,9} ?_ ?_ ?_}
 ·rintro i ys H2 hi ⟨rfl,_,rfl⟩;refine{aZ.of ht,?_};rw[aj,aj,a9];lia
 ·rintro i x ys H2 N hc ⟨rfl,hi,rfl⟩ hN;obtain⟨z,hz,rfl⟩:=iP hc;have bO:=(au.mp hz).1;refine{_,9,d,9,.inl {_,.inl hd},_,9,_,9,_,kW.k (k:=Sum.inr z) hd,?_};have e:(iG (gD g) (Sum.inr z:Key)).getD (.str z)=.str (dq g z):=by rw[Hj];unfold dq;cases Jq g z<;>rfl
  rw[e];refine hN _ _ {9,bO,?_};rw[bj,hz,aH,aH];rfl
 ·rintro ys H2 ⟨rfl,_,rfl⟩ l pC;rw[aj,aS];exact{l,_,9,.inl {bf.of av,λp hp=>k p _ ((aA pC _).trans (aA hp _)) av}}
structure Dle(P:Program)(w:World)(K:Frag)(mg:Aab)(base:Heap):Prop where
 KC:cq P w K mg base 1 "_law_led" ["_law_terms_here","_law_given"] Ky
def DM:bZ ["_law_question_here","_law_given"] ["_law_question_here","_law_given"] (defScope qh):=gC 53
def abd{f:Addr}{fd:FuncData}(F:dF K "_law_led_question" "_law_led_question" qh f fd)(T:Txt K mg)(D:Dle P w K mg base):cK P w K mg base d7 2 f fd ["_law_question_here","_law_given"] Lm:=by
 refine F.ok DM (λ_ _ _ _ h=>by cases h;subst_vars;rfl) 54;obtain⟨v,d,hz,bb,g,rfl,⟨⟨q,h0,aa,cW,rfl,hq,Ck,m7,fV⟩,l1,l8,good,h4,hh⟩,hd,PK,k⟩:=h;have la:=bc fV;refine{_,(aQ (bK (d9 (cw (cl D.KC hr (cw (bH b4 (pv 0) aO (λ_ _=>9)) (pv 1))) (cU eC 9 T.iA 53 (bW (vQ 9 (pf (more:=["_law_terms_here"]) (fs:=["_law_given"]) (fr:=[1])) (iy (bH b4 (pv 0) aO (λ_ _=>9))) (λ_ _ _ _=>(vk (n:=2) 9 699)) (λ_ _ _ _=>(d9 (cw (pv 0) (cl D.KC hr (cw (pv 1) (pv 2))))))))))))),?_};refine{_,9,_,_,_,_,9,9,aZ.of hq,9,_,9,h0,d,hz,g,9,Ck,hd,8,λr1 H1 xi Gs=>?_};refine{_,9,_,_,_,_,9,9,aZ.of (xi _ _ hq),9,aa,9,{cW,aZ.of (xi _ _ m7)},CC (xs:=cW) (λi ys H2=>aK H1 H2/\i<=bb.length/\dw H2 ys (Af g 715)) (bt ∅) {aK.refl _,aP _,.nil} ?_ ?_ ?_}
 ·rintro i ys H2 hi ⟨gX,_,hA⟩;refine{aZ.of (gX _ _ (xi _ _ m7)),?_};rw[(bc hA)];unfold Af;rw[aj,a9];lia
 ·rintro i x ys H2 N hc ⟨gX,hi,hA⟩ hN;obtain⟨a,jC,p,tt,rfl,hp,mz⟩:=Paired.at fV hc;have ga:=good a (az jC);have bO:=(au.mp jC).1;have sm:=xi.trans gX;refine{p,_,_,9,aZ.of (sm _ _ hp),yO ?_};refine{_,9,_,9,_,9,tt,d,a.2,g,9,sm _ _ mz,sm _ _ hd,8,λr3 H3 qB JA=>?_};refine{96,λp4 Gv=>?_};have uP:aK H3 (upd H3 p4 (.tup [.str a.1,.ref r3])):=aA Gv _;refine hN _ _ {gX.trans (qB.trans uP),bO,?_};have e:Af g (bb.take (i+1))=Af g 715++[(a.1,a.2.map (dq g))]:=by unfold Af;rw[bj,jC,aH];rfl
  rw[e];exact Paired.YH (dw.keep (cv.of (qB.trans uP)) hA) {p4,r3,9,av,uP _ _ JA}
 ·rintro ys H2 ⟨gX,_,hA⟩ l pC;rw[la,aS]at hA;refine{l,_,9,.inl {bf.of av,695}};refine{96,λp5 PF=>?_};have O3:=aA PF (.tup [.ref r1,.ref p]);have Wj:=(aA pC _).trans ((aA hp _).trans O3);refine k p5 _ (xi.trans (gX.trans Wj)) {{p5,r1,p,ys,9,av,Wj _ _ (gX _ _ Gs),O3 _ _ av,dw.keep (cv.of Wj) hA},?_,?_,?_,?_,?_}
  ·unfold Af;rw[aj];exact l1
  ·unfold Af;rw[aj];exact l8
  ·intro b hb;obtain⟨a,ha,rfl⟩:=aE.mp hb;obtain⟨g1,g2,g3,g4⟩:=good a ha;refine{g1,by show 1<=(a.2.map _).length;rw[aj];exact g2,by show(a.2.map _).length<=4;rw[aj];exact g3,λz hz=>?_};obtain⟨y,hy,rfl⟩:=aE.mp hz;exact HV PK (g4 y hy)
  ·rw[aj];exact h4
  ·intro z hz;obtain⟨y,hy,rfl⟩:=aE.mp hz;exact HV PK (hh y hy)
theorem Paired.take{α β:Type}{F:α->β->Prop}:∀{l₁:List α}{aab:List β}(i:Nat),Paired F l₁ aab->Paired F (l₁.take i) (aab.take i)
 |_,_,0,_=>by rw[ml,ml];exact .nil
 |_,_,_+1,.nil=>.nil
 |_,_,i+1,.cons a t=>.cons a (Paired.take i t)
theorem Paired.drop{α β:Type}{F:α->β->Prop}:∀{l₁:List α}{aab:List β}(i:Nat),Paired F l₁ aab->Paired F (l₁.drop i) (aab.drop i)
 |_,_,0,h=>h
 |_,_,_+1,.nil=>.nil
 |_,_,i+1,.cons _ t=>Paired.drop i t
def Paired.ins{α β:Type}{F:α->β->Prop}{l₁:List α}{aab:List β}{a:α}{b:β}(i:Nat)(h:Paired F l₁ aab)(q:F a b):Paired F (l₁.take i++a::l₁.drop i) (aab.take i++b::aab.drop i):=Paired.app (Paired.take i h) (.cons q (Paired.drop i h))
def Px{α:Type}{l:List α}{i:Nat}{a x:α}(h:x∈l.take i++a::l.drop i):x∈l\/x=a:=by
 rcases aV.mp h with h|h
 ·exact .inl (iM h)
 ·rcases aN.mp h with h|h
  ·exact .inr h
  ·exact .inl (AK h)
def Ic{α:Type}{l:List α}{i:Nat}{a:α}:(l.take i++a::l.drop i).length=l.length+1:=by rw[aD,bF,a9,dE];lia
def nN(hz:Aaf)(bb:Hw):Prop:=∀z∈hz,bo z=true->z∈bD bb
inductive Ln(vs:Aam)(H:Hp)(Q:VK)(_x3:XK):Prop
 |mk (h al:Addr) (hz:Aaf) (cW:Aam) (bb:Hw) (_:vs=[.ref h,.ref al]) (_:H h=some (.tup (hz.map V.str))) (_:H al=some (.lst cW)) (_:dw H cW bb) (_:1<=bb.length) (_:bb.length<=08) (_:nO bb) (_:hz.length<=4) (_:(∀z∈hz,z∈kT)) (_:∀(r:Addr)(kC:Aaf)(H':Hp),aK H H'->QW H' (.ref r) kC bb->nN kC bb->Q (.ref r) H')
def Yl(H:Hp)(a:Addr)(l afT:Aaf):Prop:=H a=some (.lst (l.map V.str))/\1<=l.length/\l.length<=100/\∀z∈l,z∈afT
end
inductive OV(K:Frag)(vs:Aam)(H:Hp)(Q:VK)(_x3:XK):Prop
 |mk (f nl ul:Addr) (v:V) (more:Int) (kP us:Aaf) (hz:Aaf) (bb:Hw) (_:vs=[.ref f,v,.ref nl,.ref ul,.int more]) (_:dH K f H) (_:(nl≠f/\ul≠f)) (_:Yl H nl kP d8) (_:Yl H ul us oK) (_:QW H v hz bb) (_:0<=more) (_:more<=3) (_:∀(r:Addr)(iu:Hw)(H':Hp),dH K f H'->Ext f H H'->QW H' (.ref r) hz iu->(∀b∈bb,b∈iu)->Q (.ref r) H')
section
variable{P:Program}{w:World}{K:Frag}{mg:Aab}{base:Heap}
def mv:bZ ["_law_head_here","_law_atoms","_law_terms_here","_law_name","_law_some"] ["_law_head_here","_law_atoms"] (defScope zR):=gC 53
def abe{f:Addr}{fd:FuncData}(F:dF K "_law_kept" "_law_kept" zR f fd)(T:Txt K mg):cK P w K mg base d7 1 f fd ["_law_head_here","_law_atoms"] Ln:=by
 refine F.ok mv (λ_ _ _ _ h=>by cases h;subst_vars;rfl) 54;obtain⟨h0,al,hz,cW,bb,rfl,Ck,ou,fV,l1,l8,good,h4,hh,k⟩:=h;refine{_,(aB (kx (i:=2) mv.nd 9 (Or.inr 9) (dR iz)) (aB (dJ bE 9 (dI (pv 1)) (jA 9 (cj (gg 3 mv) (cj (gg 4 mv) fY))) (aQ (fR (iL bI dO dN rm (pv 2) (bW (pv 4)))))) (aQ (bK (d9 (cw (cU eC 9 T.iA 53 (bW (k9 9 (cV (fs:=["_law_terms_here"]) (fr:=[2])) (iy (pv 0)) (λ_ _ _ _=>(PW.pt (oP (bY oU (bH Gh (pv 0) aO (λ_ _=>9)) cT (cB _)) (pR (bY (zZ) (pv 0) (pv 1) 650))))) 731))) (cU eC 9 T.iA 53 722))))))),?_}
 refine{399,λt ht=>?_};refine{_,rfl,al,rfl,{cW,bf.of (aA ht _ _ _ ou)},gL
  (λi Z H2=>∃(x3 x4:Aan),Z=[some (.ref h0),some (.ref al),some (.ref t),x3,x4]/\aK H H2/\H2 t=some (.lst ((bD 715).map V.str))) {none,none,9,aA ht _,av} (λi Z H2 _ hq=>by(obtain⟨_,_,_,sm,_⟩:=hq;exact bf.of (sm _ _ ou))) ?_ ?_}
 ·rintro i x Z H2 hx ⟨x3,x4,rfl,gX,jd⟩;obtain⟨a,jC,p,tt,rfl,hp,mz⟩:=Paired.at fV hx;have lf:=good.len i;have g4:=(good a (az jC)).2.2.1;refine{p,_,9,aZ.of (gX _ _ hp),9,_,_,9,_,_,9,9,?_};refine{_,9,.inl {9,_,bf.of jd},_,9,_,_,_,_,9,9,jd,aZ.of (gX _ _ mz),?_,?_}
  ·rw[aj,aj];exact bB (bt ∅)
  ·refine{_,_,9,λb u e=>?_,?_}
   ·rw[aL (bC e ht)];exact gX _ _ e
   ·rw[av,mL jC,aH]
 ·rintro Z H2 ⟨x3,x4,rfl,gX,jd⟩;rw[(bc fV),aS]at jd;refine{_,9,h0,9,{_,aZ.of (gX _ _ Ck)},mN (xs:=hz.map V.str) (λi ys H3=>H3=H2/\i<=hz.length/\∃zs:Aaf,ys=zs.map V.str/\zs.length<=i/\∀z∈zs,z∈kT/\(bo z=true->z∈bD bb)) 674 {9,aP _,[],9,aw _,λz h=>by cases h} ?_ ?_ ?_}
  ·rintro i ys H3 hi ⟨rfl,_,zs,rfl,hl,_⟩;refine{aZ.of (gX _ _ Ck),?_};rw[aj];exact hl
  ·rintro i x ys H3 N hc ⟨rfl,hi,zs,rfl,hl,Cd⟩ hN;obtain⟨z,v7,rfl⟩:=iP hc;have bO:=(au.mp v7).1;have UA:=hh z (az v7);have bU:=fZ UA;obtain⟨c,Cn⟩:=zI bU.1;have yes:(bo z=true->z∈bD bb)->N (zs.map V.str++[.str z]) H3:=λhy0=>hN _ _ {rfl,bO,zs++[z],by rw[aH];rfl,by rw[aD];show zs.length+1<=i+1;lia,λy hy=>by
    rcases aV.mp hy with hy|hy
    ·exact Cd y hy
    ·rw[aC.mp hy];exact⟨UA,hy0⟩}
   refine{_,9,_,_,_,9,9,bB (bt ∅),(hJ (j:=0) Cn),9,_,9,?_};refine dU 693 693
   ·exact kz {_,9,yes λhu=>by rw[zJ bU.1 Cn,hu]at c1;cases c1}
   ·refine{_,9,_,9,t,_,9,.inl (bf.of jd),9,zo _,_,9,?_};refine dU 723 (λc2=>hN _ _ {9,bO,zs,9,8,Cd})
    ·refine{_,9,yes λ_=>?_};rw[vm]at c2;exact aT c2
  ·rintro ys H3 ⟨rfl,_,zs,rfl,hl,Cd⟩ l pC;have I0:aK H3 (upd H3 l (.lst 652)):=aA pC _;have Vs:upd H3 l (.lst 652) l=some (.lst 652):=av;generalize upd H3 l (.lst 652)=H4 at I0 Vs⊢;refine{l,_,9,.inl {bf.of Vs,695}};have FW:aK H4 (upd H4 p (.tup 652)):=aA hp _;have ep:upd H4 p (.tup 652) p=some (.tup 652):=av;generalize upd H4 p (.tup 652)=H5 at FW ep⊢;have uO:=gX.trans (I0.trans FW);refine{_,9,al,_,9,.inl {bf.of (uO _ _ ou),λp2 ir=>?_}};have O3:aK H5 (upd H5 p2 (.tup cW)):=aA ir _;have ep2:upd H5 p2 (.tup cW) p2=some (.tup cW):=av;refine{96,λp3 gh=>?_};have FV:=aA gh (.tup [.ref p,.ref p2]);exact k p3 zs _ (uO.trans (O3.trans FV)) {{p3,p,p2,cW,9,av,FV _ _ (O3 _ _ ep),FV _ _ ep2,dw.keep (cv.of (uO.trans (O3.trans FV))) fV},l1,l8,good,8,λz hz=>(Cd z hz).1} λz hz=>(Cd z hz).2
structure Dgr(P:Program)(w:World)(K:Frag)(mg:Aab)(base:Heap):Prop where
 dS:cq P w K mg base 1 "_law_draw" ["_law_feed_here","_law_many"] (vC K)
 MA:cq P w K mg base 2 "_law_atom" ["_law_feed_here","_law_names","_law_unknowns_here","_law_values"] (Hq K)
def oO:bZ ["_law_feed_here","_law_question_here","_law_names","_law_unknowns_here","_law_more","_law_atoms","_law_atom_here","_law_k"] ["_law_feed_here","_law_question_here","_law_names","_law_unknowns_here","_law_more"] (defScope BL):=gC 53
def a12:∀z∈(["a","12"]:Aaf),z∈d8:=by decide+kernel
def HP{α:Type}{l:List α}{i:Nat}{a b:α}(h:b∈l\/b=a):b∈l.take i++a::l.drop i:=by
 rcases h with h|h
 ·rw[<-jP i l]at h;rcases aV.mp h with h|h
  ·exact bz _ h
  ·exact bh _ (aG _ h)
 ·rw[h];exact bh _ aF
def WY{f:Addr}{fd:FuncData}(F:dF K "_law_grown" "_law_grown" BL f fd)(T:Txt K mg)(D:Dgr P w K mg base):cK P w K mg base d7 3 f fd ["_law_feed_here","_law_question_here","_law_names","_law_unknowns_here","_law_more"] (OV K):=by
 refine F.ok oO (λ_ _ _ _ h=>by cases h;subst_vars;rfl) 54;obtain⟨fe,nl,ul,v,more,kP,us,hz,Yi,rfl,hF,⟨tX,nul⟩,⟨zg,MV,Eu,UO⟩,⟨zc,MP,zd,zb⟩,⟨⟨q,h0,aa,ahn,rfl,hq,Ck,m7,ZV⟩,l1,l8,good,h4,hh⟩,m0,m3,k⟩:=h;have la0:=bc ZV;refine{_,(aB (dM 5 oO (dR iz)) (aB (dJ bE 9 (iy (bH b4 (pv 1) aO (λ_ _=>9))) (gg 6 oO) (aQ (fR (iL bI wC wA Jn (pv 5) (cw (cl D.dS hr (cw (pv 0) (c9 jc (bM c6 9 T.eJ bG (bW (pv 5))) aO))) (pv 6)))))) (aB (dJ bE 9 (nZ 9 T.sN (bW (pv 4))) (gg 07 oO) (aB (dM 6 oO (bH eM (pv 5) (cl D.dS hr (cw (pv 0) (bM c6 9 T.eJ bG (bW (pv 5))))) (λ_ _=>9))) (aB (dg (bY QQ 653 aO (cB _)) (aQ (dM 6 oO (cl D.MA hr (fh (pv 0) (jX (pv 2) (pv 3) (dR (cw cT cT))))))) cy) (aQ (dg (bY xo (bM c6 9 T.eJ bG (bW (pv 5))) aO (cB _)) (aQ (fR (iL bI wC wA Jn (pv 5) (cw (cl D.dS hr (cw (pv 0) (c9 jc (bM c6 9 T.eJ bG (bW (pv 5))) aO))) (pv 6))))) cy))))) (aQ (bK (d9 (cw (bH b4 (pv 1) aO (λ_ _=>9)) (cU eC 9 T.iA 53 (bW (pv 5)))))))))),?_}
 refine{399,λt ht=>?_};have nt:=hF.my ht;have tu0:cv H (upd H t 661):=(cv.refl H).new ht _;refine{_,rfl,_,_,_,_,rfl,rfl,aZ.of (tu0 _ _ hq),rfl,aa,rfl,{ahn,aZ.of (tu0 _ _ m7)},qJ
  (λi Z H2=>∃(x6:Aan)(cW:Aam)(bb:Hw),Z=[some (.ref fe),some (.ref q),some (.ref nl),some (.ref ul),some (.int more),some (.ref t),x6,none]/\dH K fe H2/\Ext fe H H2/\H2 t=some (.lst cW)/\dw H2 cW bb/\bb.length=i/\nO bb/\∀b∈Yi.take i,b∈bb)
  {none,[],[],9,hF.new ht _,(Ext.refl fe H).new ht _,av,.nil,9,λa h=>(by cases h),λa h=>by simp at h} (λi Z H2 _ hq=>by(obtain⟨_,_,_,_,kF,kq,_⟩:=hq;exact aZ.of (hF.fD kq _ _ m7))) ?_ ?_}
 ·rintro i x Z H2 hx ⟨x6,cW,bb,rfl,kF,kq,jd,Ni,hlen,UX,Qx⟩;obtain⟨a,jC,hAt⟩:=Paired.at ZV hx;have hi:=(au.mp jC).1;have la:=bc Ni;refine{_,9,.inl {9,_,bf.of jd},_,9,_,9,_,_,9,.inl {_,bf.of jd,9},_,_,9,9,fe,_,9,kF,8,8,λi3 H3 a0 a1 jY kR=>?_};have jM:=kR _ _ nt jd;have ad7:=kq.trans kR;refine{_,9,_,_,_,_,9,9,jM,a0,8,8,?_};refine{_,_,bb.take i3.toNat++a::bb.drop i3.toNat,rfl,jY.lst jM nt _,ad7.own ht _,av,Paired.ins _ (dw.keep ((kF.fD kR).lst jM _) Ni) (hAt.keep (((hF.fD ad7)).lst jM (.lst (cW.take i3.toNat++x::cW.drop i3.toNat)))),by rw[Ic,hlen],λb hb=>?_,λb hb=>?_}
  ·rcases Px hb with hb|rfl
   ·exact UX b hb
   ·exact good b (az jC)
  ·rw[bj,jC]at hb;rcases aV.mp hb with hb|hb
   ·exact HP (.inl (Qx b hb))
   ·have:b=a:=by simpa using hb
    exact HP (.inr this)
 ·rintro Z H2 ⟨x6,cW,bb,rfl,kF,kq,jd,Ni,hlen,UX,Qx⟩;rw[la0,aS]at Qx;refine{_,rfl,more,rfl,by lia,by lia,Ct
   (λj Z H3=>∃(x6 x7:Aan)(cW:Aam)(bb:Hw),Z=[some (.ref fe),some (.ref q),some (.ref nl),some (.ref ul),some (.int more),some (.ref t),x6,x7]/\dH K fe H3/\Ext fe H H3/\H3 t=some (.lst cW)/\dw H3 cW bb/\1<=bb.length/\bb.length<=08/\nO bb/\∀b∈Yi,b∈bb)
   {x6,none,cW,bb,9,kF,kq,jd,Ni,8,8,UX,Qx} ?_ ?_}
  ·rintro j Z H3 hj ⟨x6,x7,cW,bb,rfl,jY,kR,jM,Vb,n1,n8,PM,Lc⟩;have la:=bc Vb;refine{_,9,_,9,_,9,_,_,9,.inl {_,bf.of jM,9},fe,_,9,jY,8,8,λi4 H4 a0 a1 lh jZ=>?_};have uR:=jZ _ _ nt jM;obtain⟨y,hy⟩:∃y,cW[i4.toNat]?=some y:={_,ay ∅};obtain⟨a,jC,hAt⟩:=Paired.at Vb hy;have ev:sg cW i4=some y:=by
    have e:i4=((i4.toNat:Nat):Int):=by lia
    rw[e];exact hJ hy
   refine{_,_,_,_,9,9,bf.of uR,ev,?_};have RN:=kR.trans jZ;have Nh:=dw.keep (jY.fD jZ) Vb;have fin:∀(x:V)(b:Str×Aaf)(H5:Hp),dH K fe H5->Ext fe H4 H5->wK H5 x b->(b.1∈d8/\1<=b.2.length/\b.2.length<=4/\∀z∈b.2,z∈kT)->∀(i6:Int)(H6:Hp),0<=i6->i6<=(cW.length:Int)->bb.length<08->dH K fe H6->Ext fe H5 H6->
     ∃(wy:Aam)(iu:Hw),dH K fe (upd H6 t (.lst (cW.take i6.toNat++x::cW.drop i6.toNat)))/\Ext fe H (upd H6 t (.lst (cW.take i6.toNat++x::cW.drop i6.toNat)))/\upd H6 t (.lst (cW.take i6.toNat++x::cW.drop i6.toNat)) t=some (.lst wy)/\dw (upd H6 t (.lst (cW.take i6.toNat++x::cW.drop i6.toNat))) wy iu/\1<=iu.length/\iu.length<=08/\nO iu/\(∀b∈Yi,b∈iu):=λx b H5 rD nF hx gb i6 H6 c0 c1 l7 rC ko=>by
    have MQ:=(nF.trans ko) _ _ nt uR;refine{_,bb.take i6.toNat++b::bb.drop i6.toNat,rC.lst MQ nt _,((RN.trans nF).trans ko).own ht _,av,Paired.ins _ (dw.keep ((lh.fD (nF.trans ko)).lst MQ _) Nh) (hx.keep ((rD.fD ko).lst MQ _)),by rw[Ic];lia,by rw[Ic];lia,λc hc=>?_,λc hc=>HP (.inl (Lc c hc))};rcases Px hc with hc|rfl
    ·exact PM c hc
    ·exact gb
   refine{_,9,fe,3,9,lh,7,7,λi5 H5 b0 b1 rD nF=>{_,_,9,9,_,9,?_}};have Eo:=nF _ _ nt uR;refine dU 668 668
   ·--a new atom
    refine{_,9,_,9,_,9,96,λl6 Cf=>?_};have ko:Ext fe H5 (upd H5 l6 717):=(Ext.refl fe H5).new Cf _;have ad5:=nF.trans ko;have Nw:=RN.trans ad5;refine{fe,nl,ul,l6,kP,us,["a","12"],9,(rD.new Cf 717),{tX,nul,(rD.my Cf)},{Nw _ _ tX zg,MV,Eu},{Nw _ _ nul zc,MP,zd},{av,7,7},λr b H7 uT GH hb U4 hb2 PX hbz=>?_};have Fg:=ad5.trans GH;have UI:=Fg _ _ nt uR;refine{_,9,_,_,9,.inl {_,bf.of UI,9},_,_,9,9,_,9,?_};refine dU (λc8=>?_) (λc8=>{_,_,cW,bb,9,uT,RN.trans Fg,UI,dw.keep (lh.fD Fg) Nh,n1,n8,PM,Lc})
    ·have c8:=aT c8;refine{_,9,.inl {9,_,bf.of UI},_,9,_,9,_,_,9,.inl {_,bf.of UI,9},_,_,9,9,fe,_,9,uT,8,8,λi8 H8 d0 d1 Ex zq=>?_};refine{_,9,_,_,_,_,9,9,zq _ _ nt UI,d0,8,8,?_};obtain⟨wy,iu,f1,f2,f3,f4,f5,f6,f7,f8⟩:=fin _ b H7 uT Fg hb ({UO _ U4,hb2,PX,λz hz=>(hbz z hz).elim (λh=>Kx (zb z h)) (λh=>tM (a12 z h))}) i8 H8 d0 ∅ ∅ Ex zq;exact⟨_,_,wy,iu,rfl,f1,f2,f3,f4,f5,f6,f7,f8⟩
   ·refine{_,9,_,_,9,.inl {_,bf.of Eo,9},_,_,9,9,_,9,?_};refine dU (λc8=>?_) (λc8=>{_,_,cW,bb,9,rD,RN.trans nF,Eo,dw.keep (lh.fD nF) Nh,n1,n8,PM,Lc})
    ·have c8:=aT c8;refine{_,9,.inl {9,_,bf.of Eo},_,9,_,9,_,_,9,.inl {_,bf.of Eo,9},_,_,9,9,fe,_,9,rD,8,8,λi8 H8 d0 d1 Ex zq=>?_};refine{_,9,_,_,_,_,9,9,zq _ _ nt Eo,d0,8,8,?_};obtain⟨wy,iu,f1,f2,f3,f4,f5,f6,f7,f8⟩:=fin y a H5 rD nF ((hAt.keep (jY.fD jZ)).keep (lh.fD nF)) (PM a (az jC)) i8 H8 d0 ∅ ∅ Ex zq;exact⟨_,_,wy,iu,rfl,f1,f2,f3,f4,f5,f6,f7,f8⟩
  ·rintro Z H3 ⟨x6,x7,cW,bb,rfl,jY,kR,jM,Vb,n1,n8,PM,Lc⟩;have tu3:=hF.fD kR;refine{_,9,_,_,_,_,9,9,aZ.of (tu3 _ _ hq),9,_,9,t,_,9,.inl {bf.of jM,695}};refine{96,λp2 ir=>?_};have I0:aK H3 (upd H3 p (.tup cW)):=aA hp _;have FW:=aA ir (.tup [.ref h0,.ref p]);exact k p2 bb _ ((jY.new hp (.tup cW)).new ir (.tup [.ref h0,.ref p])) ((kR.new hp _).new ir _) {{p2,h0,p,cW,9,av,(tu3.trans (cv.of (I0.trans FW))) _ _ Ck,FW _ _ av,dw.keep (cv.of (I0.trans FW)) Vb},n1,n8,PM,h4,hh} Lc
theorem Paired.erase{α β:Type}{F:α->β->Prop}:∀{l₁:List α}{aab:List β}(i:Nat),Paired F l₁ aab->Paired F (l₁.eraseIdx i) (aab.eraseIdx i)
 |_,_,_,.nil=>.nil
 |_,_,0,.cons _ t=>t
 |_,_,i+1,.cons a t=>.cons a (Paired.erase i t)
theorem Paired.set{α β:Type}{F:α->β->Prop}{a:α}{b:β}(q:F a b):∀{l₁:List α}{aab:List β}(i:Nat),Paired F l₁ aab->Paired F (l₁.set i a) (aab.set i b)
 |_,_,_,.nil=>.nil
 |_,_,0,.cons _ t=>.cons q t
 |_,_,i+1,.cons c t=>.cons c (Paired.set q i t)
def Ext.of(s:aK H H'):Ext f H H':=λb o _ h=>s b o h
def Pt{n j:Nat}(h:j<n):Gi n (j:Int)=some j:=by unfold Gi;simp;lia
end
inductive OX(K:Frag)(vs:Aam)(H:Hp)(Q:VK)(_x3:XK):Prop
 |mk (f nl ul:Addr) (v:V) (us:Aaf) (hz:Aaf) (bb:Hw) (_:vs=[.ref f,v,.ref nl,.ref ul]) (_:dH K f H) (_:ul≠f) (_:Yl H ul us oK) (_:QW H v hz bb) (_:∀(r:Addr)(kC:Aaf)(iu:Hw)(H':Hp),dH K f H'->Ext f H H'->QW H' (.ref r) kC iu->nN kC iu->Q (.ref r) H')
inductive Sz(K:Frag)(vs:Aam)(H:Hp)(Q:VK)(_x3:XK):Prop
 |mk (f:Addr) (most:Int) (_:vs=[.ref f,.int most]) (_:dH K f H) (_:1<=most) (_:most<=4) (_:∀(r:Addr)(one other:V)(bU bV:Aaf)(bA bx:Hw)(H':Hp),dH K f H'->Ext f H H'->H' r=some (.tup [one,other])->QW H' one bU bA->QW H' other bV bx->nN bU bA->nN bV bx->Q (.ref r) H')
def YW{H:Hp}{v:V}{hz kP:Aaf}{bb:Hw}(q:Qj H v hz bb)(l1:1<=bb.length)(l8:bb.length<=08)(g:GoodW kP bb)(hn:∀z∈kP,z∈d8)(h4:hz.length<=4)(kC:∀z∈hz,z∈bD bb):QW H v hz bb:=by
 have gt:nO bb:=λa ha=>by obtain⟨g1,g2,g3,g4⟩:=g a ha;exact{hn _ g1,g2,g3,λz hz=>(g4 z hz).elim Kx tM}
 exact{q,l1,l8,gt,h4,λz hz=>gt.flat (kC z hz)}
section
variable{P:Program}{w:World}{K:Frag}{mg:Aab}{base:Heap}
def O7{a:Addr}{H:Hp}{xs:Aam}{lo hi:Option Int}{Q:VK}(ha:H a=some 672)
  (k:∀(p:Addr)(H':Hp),aK H H'->H' p=some (.tup (lN xs lo hi))->Q 676 H'):acJ K 659 lo hi H Q:=by
 refine{a,xs,9,aZ.of ha,λh=>?_,λh p hp=>k p _ (aA hp _) av}
 ·refine k a H (aK.refl H) ?_;unfold lN;rw[h.1,h.2,sZ,CZ,aS];exact ha
def O8{a b:Addr}{H:Hp}{xs ys:Aam}{Q:VK}(ha:H a=some 672)(hb:H b=some (.tup ys))(hl:xs.length+ys.length<=1000)
  (k:∀(p:Addr)(H':Hp),aK H H'->H' p=some (.tup (xs++ys))->Q 676 H'):YV K 659 (.ref b) H Q:=by
 refine{a,b,xs,ys,9,9,aZ.of ha,aZ.of hb,bB (bt hl),λh=>k b H (aK.refl H) (by rw[h,jQ];exact hb),λ_ h=>k a H (aK.refl H) (by rw[h,cL];exact ha),λ_ _ p hp=>k p _ (aA hp _) av}
structure Dbe(P:Program)(w:World)(K:Frag)(mg:Aab)(base:Heap):Prop where
 dS:cq P w K mg base 1 "_law_draw" ["_law_feed_here","_law_many"] (vC K)
 My:cq P w K mg base 1 "_law_kept" ["_law_head_here","_law_atoms"] Ln
def nV:bZ ["_law_feed_here","_law_question_here","_law_names","_law_unknowns_here","_law_atoms","_law_at","_law_name","_law_terms_here","_law_spot","_law_term"] ["_law_feed_here","_law_question_here","_law_names","_law_unknowns_here"] (defScope ES):=gC 53
def ahj{E G:Prop}(k:E->G)(h:E):G:=k h
def W0{f:Addr}{fd:FuncData}(F:dF K "_law_bent" "_law_bent" ES f fd)(T:Txt K mg)(D:Dbe P w K mg base):cK P w K mg base d7 2 f fd ["_law_feed_here","_law_question_here","_law_names","_law_unknowns_here"] (OX K):=by
 refine F.ok nV (λ_ _ _ _ h=>by cases h;subst_vars;rfl) 54;obtain⟨fe,nl,ul,v,us,hz,bb,rfl,hF,nul,⟨zc,MP,zd,zb⟩,⟨⟨q,h0,aa,cW,rfl,hq,Ck,m7,fV⟩,l1,l8,good,h4,hh⟩,k⟩:=h;have la:cW.length=bb.length:=bc fV;have Zn:(us.map V.str).length=us.length:=aj _;refine{_,(aB (dM 4 nV (cU kH 9 T.pT 53 (bW (bH b4 (pv 1) aO (λ_ _=>9))))) (aB (dM 5 nV (cl D.dS hr (cw (pv 0) (bM c6 9 T.eJ bG (bW (pv 4)))))) (aB (dg (PW.pt (BR (bY ny 653 aO (cB _)) (yP (bY QQ (bM c6 9 T.eJ bG (bW (pv 4))) aO (cB _))))) (aQ (fR (iL bI PySem.F.slot_list_pop PySem.F.type_list_pop W6 (pv 4) (bW (pv 5))))) (aB (yR (bH eM (pv 4) (pv 5) (λ_ _=>9)) (jA 9 (cj (gg 6 nV) (cj (gg 07 nV) fY)))) (aB (dM 08 nV (cl D.dS hr (cw (pv 0) (bM c6 9 T.eJ bG (bW (pv 07)))))) (aB (dM 09 nV (bH eM (c9 vR (pv 3) (dR (cw cT cT))) (cl D.dS hr (cw (pv 0) (c9 jc (bM c6 9 T.eJ bG (bW (pv 3))) aO))) (λ_ _=>9))) (aQ (yR (d9 (cw (pv 6) (c9 Pf (c9 Pf (mJ O4 (pv 07) oS (oR (pv 08))) (d9 (bW (pv 09)))) (mJ O4 (pv 07) (oR (c9 jc (pv 08) aO)) oS)))) (LR (pv 4) (pv 5) set_list))))))) (aQ (bK (cl D.My hr (cw (bH b4 (pv 1) aO (λ_ _=>9)) (pv 4)))))))),?_}
 refine{_,9,_,_,_,_,9,9,aZ.of hq,9,aa,_,9,.inr (aZ.of m7),λt ht=>?_};have nt:=hF.my ht;have zk:=hF.new ht (.lst cW);have xy:Ext fe H (upd H t (.lst cW)):=(Ext.refl fe H).new ht _;have et:upd H t (.lst cW) t=some (.lst cW):=av;generalize upd H t (.lst cW)=H1 at zk xy et⊢;refine{_,9,_,9,_,_,9,.inl {_,bf.of et,9},fe,_,9,zk,8,8,λi2 H2 a0 a1 kF kq=>?_};obtain⟨j,rfl⟩:∃j:Nat,i2=(j:Int):={i2.toNat,8};have hj:j<cW.length:=by lia
 refine{_,9,fe,2,9,kF,7,7,λi3 H3 b0 b1 jY kR=>{9,_,9,?_}};have RP:=kq.trans kR;have jM:=RP _ _ nt et;have Nw:=xy.trans RP;have OM:=hF.fD Nw;have fin:∀{wy:Aam}{iu:Hw}{H4:Hp},dH K fe H4->Ext fe H H4->H4 t=some (.lst wy)->dw H4 wy iu->1<=iu.length->iu.length<=08->nO iu->
   Ln [.ref h0,.ref t] H4 Q E0:=λ{wy iu H4} lh jZ uR Nh n1 n8 hg=>by
  exact{h0,t,hz,wy,iu,9,hF.fD jZ _ _ Ck,uR,Nh,n1,n8,hg,h4,hh,λr kC H' sm qw rB=>k r kC iu H' (lh.same sm) (jZ.trans (Ext.of sm)) qw rB}
 obtain⟨y,hy⟩:∃y,cW[j]?=some y:={_,ay hj};obtain⟨a,jC,p,tt,rfl,hp,mz⟩:=Paired.at fV hy;have ga:=good a (az jC);have Jp:(a.2.map V.str).length=a.2.length:=aj _;have g1:=ga.2.1;have g4:=ga.2.2.1;refine ahj (λels=>dU (λc=>{_,9,_,_,9,.inl {_,bf.of jM,9},_,_,9,9,_,9,dU 723 (λc2=>els)}) (λc=>eS els)) ?_
 ·have c2:(1:Int)<(cW.length:Int):=aT c2;refine{_,9,.inl {9,_,bf.of jM},_,9,t,_,_,j,_,9,9,jM,8,8,(Ib (Pt hj)).1,hy,?_};have K1:cv H3 (upd H3 t (.lst (cW.eraseIdx j))):=(cv.refl H3).lst jM _;refine{_,9,_,_,_,_,9,9,aZ.of (OM.trans K1 _ _ hq),9,_,9,fin (jY.lst jM nt _) (Nw.own ht _) av (iu:=bb.eraseIdx j) (Paired.erase j (dw.keep (OM.trans K1) fV)) (by rw[AM];split<;>lia) (by rw[AM];split<;>lia) λb hb=>good b (List.mem_of_mem_eraseIdx hb)}
 refine{_,9,_,9,_,_,_,_,9,9,bf.of jM,hJ hy,p,_,9,aZ.of (OM _ _ hp),9,_,_,9,_,_,9,9,?_};refine{_,9,_,9,_,_,9,.inr {_,aZ.of (OM _ _ mz),9},fe,_,9,jY,8,8,λi4 H4 c0 c1 lh jZ=>?_};obtain⟨sp,rfl⟩:∃j:Nat,i4=(j:Int):={i4.toNat,8};have Ny:=Nw.trans jZ;refine{_,9,96,λl5 PJ=>?_};have n5:=lh.my PJ;have nF:Ext fe H4 (upd H4 l5 717):=(Ext.refl fe H4).new PJ _;have rD:=lh.new PJ 717;have e5:upd H4 l5 717 l5=some 717:=av;generalize upd H4 l5 717=H5 at nF rD e5⊢;have adJ:=(Ny.trans nF) _ _ nul zc;refine{_,_,_,_,9,9,adJ,e5,bB (bt (by show(us.map V.str).length+2<=1000;lia)),λl6 Cf=>?_};have n6:=rD.my Cf;have ko:Ext fe H5 (upd H5 l6 (.lst (us.map V.str++[.str "a",.str "12"]))):=(Ext.refl fe H5).new Cf _;have rC:=rD.new Cf (.lst (us.map V.str++[.str "a",.str "12"]));have e6:upd H5 l6 (.lst (us.map V.str++[.str "a",.str "12"])) l6=some (.lst ((us++(["a","12"]:Aaf)).map V.str)):=by rw[av,aH];rfl
 generalize upd H5 l6 (.lst (us.map V.str++[.str "a",.str "12"]))=H6 at ko rC e6⊢;have agK:=ko _ _ nul adJ;refine{_,9,_,9,_,_,9,.inl {_,bf.of agK,9},_,_,9,9,fe,_,9,rC,8,8,λi7 H7 d0 d1 uT GH=>?_};obtain⟨tm,htm,evt⟩:=qi (zs:=us++(["a","12"]:Aaf)) d0 (by rw[aD];show i7<((us.length+2:Nat):Int);lia);have htT:tm∈kT:=by
  rcases aV.mp htm with h|h
  ·exact Kx (zb tm h)
  ·exact tM (a12 tm h)
 refine{_,_,_,_,9,9,bf.of (GH _ _ n6 e6),evt,?_};have Fg:=(nF.trans ko).trans GH;have ahe:=Ny.trans Fg;have So:=hF.fD ahe;refine{_,9,_,9,vT {_,9,_,9,O7 (So _ _ mz) λp8 H8 YI hp8=>?_}};refine{_,9,(by show 1<=sizeLine;decide),λp9 hp9=>?_};have vE:aK H8 (upd H8 p9 (.tup [.str tm])):=aA hp9 _;have e9:upd H8 p9 (.tup [.str tm]) p9=some (.tup [.str tm]):=av;generalize upd H8 p9 (.tup [.str tm])=H9 at vE e9⊢;have lc1:=tK (a.2.map V.str) none (some (sp:Int));refine O8 (vE _ _ hp8) e9 (by show(lN (a.2.map V.str) none (some (sp:Int))).length+1<=1000;lia) λp10 ie QE Ro=>?_;have YK:=YI.trans (vE.trans QE);refine{_,9,_,9,_,_,9,9,_,9,vT (O7 (YK _ _ (So _ _ mz)) λPe mD xO Xl=>?_)};have lc2:=tK (a.2.map V.str) (some ((sp:Int)+1)) none;refine O8 (xO _ _ Ro) Xl (by rw[aD];show(lN (a.2.map V.str) none (some (sp:Int))).length+1+(lN (a.2.map V.str) (some ((sp:Int)+1)) none).length<=1000;lia) λTs uZ afH adQ=>?_;refine{96,λL1 agR=>?_};have Wk:aK uZ (upd uZ L1 (.tup [.str a.1,.ref Ts])):=aA agR _;have Z7:upd uZ L1 (.tup [.str a.1,.ref Ts]) L1=some (.tup [.str a.1,.ref Ts]):=av;generalize upd uZ L1 (.tup [.str a.1,.ref Ts])=qM at Wk Z7⊢;have YJ:aK H7 qM:=YK.trans (xO.trans (afH.trans Wk));have Nd:=uT.same YJ;have RO:Ext fe H3 qM:=(jZ.trans Fg).trans (Ext.of YJ);have Rk:=RO _ _ nt jM;refine{_,9,_,9,t,_,_,_,9,9,Rk,Pt hj,?_};have ec:lN (a.2.map V.str) none (some (sp:Int))++[.str tm]++lN (a.2.map V.str) (some ((sp:Int)+1)) none=(a.2.take sp++[tm]++a.2.drop (sp+1)).map V.str:=by rw[VD,show(sp:Int)+1=((sp+1:Nat):Int)from rfl,X2,aH,aH,Bh,List.map_drop];rfl
 rw[ec]at adQ;have K1:cv H3 (upd qM t (.lst (cW.set j (.ref L1)))):=(jY.fD RO).lst Rk _;have tuL:cv qM (upd qM t (.lst (cW.set j (.ref L1)))):=(cv.refl qM).lst Rk _;have lsp:sp<a.2.length:=by lia
 refine{_,9,_,_,_,_,9,9,aZ.of (OM.trans K1 _ _ hq),9,_,9,fin (Nd.lst Rk nt _) ((Nw.trans RO).own ht _) av (iu:=bb.set j (a.1,a.2.take sp++[tm]++a.2.drop (sp+1))) (Paired.set {L1,Ts,9,tuL _ _ Z7,tuL _ _ (Wk _ _ adQ)} j (dw.keep (OM.trans K1) fV)) (by rw[xG];exact l1) (by rw[xG];exact l8) λb hb=>?_};rcases List.mem_or_eq_of_mem_set hb with hb|rfl
 ·exact good b hb
 ·refine{ga.1,?_,?_,λz hz=>?_}
  ·show 1<=(a.2.take sp++[tm]++a.2.drop (sp+1)).length;rw[aD,aD];show 1<=(a.2.take sp).length+1+_;lia
  ·show(a.2.take sp++[tm]++a.2.drop (sp+1)).length<=4;rw[aD,aD,a9,dE];show min sp a.2.length+1+(a.2.length -(sp+1))<=4;lia
  ·have hz:z∈a.2.take sp++[tm]++a.2.drop (sp+1):=hz;rcases aV.mp hz with h|h
   ·rcases aV.mp h with h|h
    ·exact ga.2.2.2 z (iM h)
    ·rw[aC.mp h];exact htT
   ·exact ga.2.2.2 z (AK h)
structure Dpa(P:Program)(w:World)(K:Frag)(mg:Aab)(base:Heap):Prop where
 dS:cq P w K mg base 1 "_law_draw" ["_law_feed_here","_law_many"] (vC K)
 y4:cq P w K mg base 2 "_law_words" ["_law_feed_here","_law_many"] (Hn K)
 Gg:cq P w K mg base 3 "_law_question" ["_law_feed_here","_law_names","_law_most"] (D8 K)
 Ag:cq P w K mg base 1 "_law_unknowns" ["_law_question_here"] yL
 sP:cq P w K mg base 2 "_law_led_question" ["_law_question_here","_law_given"] Lm
 abu:cq P w K mg base 3 "_law_grown" ["_law_feed_here","_law_question_here","_law_names","_law_unknowns_here","_law_more"] (OV K)
 adm:cq P w K mg base 2 "_law_bent" ["_law_feed_here","_law_question_here","_law_names","_law_unknowns_here"] (OX K)
def km:bZ ["_law_feed_here","_law_most","_law_names","_law_other","_law_unknowns_here","_law_way","_law_given","_law_k","_law_unknown","_law_one"] ["_law_feed_here","_law_most"] (defScope EM):=gC 53
def ar:∀z∈(["a","r"]:Aaf),z∈d8:=by decide+kernel
def qo{z:Str}{fl:Aaf}:z∈fC fl↔z∈fl/\bo z=true:=by rw[Di,Dy,cX]
def BW{g:List 677}{u t:Str}(h:∀p∈g,bo p.1=true)(hu:bo u=true):∀p∈ka g u t,bo p.1=true:=λp hp=>by
 unfold ka at hp;split at hp
 ·obtain⟨q,hq,rfl⟩:=aE.mp hp;split
  ·exact h q hq
  ·exact h q hq
 ·rcases aV.mp hp with hp|hp
  ·exact h p hp
  ·rw[aC.mp hp];exact hu
def nN.mono{hz:Aaf}{bb iu:Hw}(h:nN hz bb)(s:∀b∈bb,b∈iu):nN hz iu:=λz kC hu=>by obtain⟨a,ha,kC⟩:=iB.mp (h z kC hu);exact iB.mpr {a,s a ha,kC}
def nN.led{hz:Aaf}{bb:Hw}{g:List 677}(h:nN hz bb)(hg:∀p∈g,bo p.1=true):nN (hz.map (dq g)) (Af g bb):=λz kC hu=>by
 obtain⟨y,hy,rfl⟩:=aE.mp kC;have hyu:bo y=true:=by
  unfold dq Jq at hu;cases q:g.find? (λp=>decide (p.1=y))with
  |none=>rw[q]at hu;exact hu
  |some p=>
   have e:p.1=y:=aT (nK (p:=λp:Str×Str=>decide (p.1=y)) q);rw[<-e];exact hg p (gx q)
 obtain⟨a,ha,hya⟩:=iB.mp (h y hy hyu);exact iB.mpr {_,aE.mpr ⟨a,ha,rfl⟩,bS hya}
def abc{f:Addr}{fd:FuncData}(F:dF K "_law_pair" "_law_pair" EM f fd)(T:Txt K mg)(D:Dpa P w K mg base):cK P w K mg base d7 4 f fd ["_law_feed_here","_law_most"] (Sz K):=by
 refine F.ok km (λ_ _ _ _ h=>by cases h;subst_vars;rfl) 54;obtain⟨fe,most,rfl,hF,m1,m4,k⟩:=h;have big:10000<=sizeLine:=by rw[bX];decide
 have hu:=mK hr;refine{_,(aB (dM 2 km (cl D.y4 hr (cw (pv 0) (c9 jc aO 653)))) (aB (dM 3 km (cl D.Gg hr (jX (pv 0) (pv 2) (pv 1)))) (aB (oQ (j:=4) km.nd 9 9 9 684 (dI (cl D.y4 hr (cw (pv 0) aO))) (λ_ _ _ _=>(c9 ve cT (pv 0)))) (aB (dM 5 km 653) (aB (dg (bY ny (pv 5) aO (cB _)) (aQ (bK (d9 (cw (cl D.Gg hr (jX (pv 0) (pv 2) (pv 1))) (pv 3))))) cy) (aB (dM 6 km jm) (aB (dJ bE 9 (aa4 9 T.ye (bW (cl D.Ag hr (bW (pv 3))))) (jA 9 (cj (gg 07 km) (cj (gg 08 km) fY))) (aB (yQ hu (pv 6) (pv 08) (bH eM (c9 vR (pv 4) (dR (cw cT cT))) 653 (λ_ _=>9)) 9) (aQ (dg (bY QQ (pv 5) aO (cB _)) (aQ (yQ hu (pv 6) (pv 08) (bH eM (dR (fh cT (fh cT (fh cT (jX cT cT cT))))) (c9 pS (pv 07) aO) (λ_ _=>9)) 9)) cy)))) (aB (dM 09 km (cl D.abu hr (fh (pv 0) (fh (cl D.sP hr (cw (pv 3) (pv 6))) (jX (pv 2) (pv 4) (c9 tW 653 (cU VL 9 T.aeW 53 (bW (ni xo (pv 5) aO (cB _)))))))))) (aB (dg (bY B1 (pv 5) (d9 (cw aO aO)) 650) (aQ (dM 09 km (cl D.adm hr (fh (pv 0) (jX (pv 09) (pv 2) (pv 4)))))) cy) (aQ (bK (d9 (cw (pv 09) (pv 3)))))))))))))),?_}
 refine{_,9,_,9,fe,3,9,hF,7,7,λi1 H1 a0 a1 zk xy=>{_,_,9,9,fe,_,9,zk,8,8,λnl kP H2 kF kq tX nl0 zg hln ndn UO=>?_}};refine{_,9,_,9,_,9,fe,nl,most,kP,9,kF,tX,{zg,8,8},m1,8,λr2 bV bx H3 jY kR hQ3 l1 l2 hg UB Em=>?_};have xn:=YW hQ3 l1 ∅ hg UO UB Em;have Ru:nN bV bx:=λz hz _=>Em z hz;refine{_,9,fe,6,9,jY,7,7,λwl mq H4 lh jZ nwl wl0 za hlw ndw rB=>?_};refine{wl,9,{_,bf.of za},iS (xs:=mq.map V.str) (λi ys H5=>H5=H4/\i<=mq.length/\ys=((mq.take i).map j9).map V.str) 674 {9,aP _,9} ?_ ?_ ?_}
 ·rintro i ys H5 hi ⟨rfl,_,rfl⟩;refine{bf.of za,?_};rw[aj,aj,a9];lia
 ·rintro i x ys H5 N hc ⟨rfl,hi,rfl⟩ hN;obtain⟨z,hz,rfl⟩:=iP hc;have bO:=(au.mp hz).1;have lw:=aT (bN.mp KP z (rB _ (az hz)));refine{_,9,_,_,9,9,by rw[YY];lia,hN _ _ {9,bO,?_}};rw[bj,hz,aH,aH];rfl
 rintro ys H5 ⟨rfl,_,rfl⟩ l hl;rw[aj,aS];have uQ:=lh.my hl;have rC:=lh.new hl 678;have Ba:upd H5 l 678 l=some 678:=av;have ko:=jZ.new hl 678;generalize upd H5 l 678=H6 at rC Ba ko⊢;have zb:∀z∈mq.map j9,z∈oK:=λz hz=>by obtain⟨y,hy,rfl⟩:=aE.mp hz;exact bS (rB y hy)
 have Zn:(mq.map j9).length=6:=by rw[aj];lia
 generalize mq.map j9=us at Ba zb Zn;have ahA:(us.map V.str).length=6:=by rw[aj];exact Zn
 refine{_,9,fe,6,9,rC,7,7,λway H7 b0 b1 uT GH=>?_};have XM:=ko.trans GH;have XO:=((xy.trans kq).trans kR).trans XM;have adR:=XM _ _ tX (kR _ _ tX zg);have Xo:=GH _ _ uQ Ba;have YX:=xn.keep (jY.fD XM);refine{_,9,9,_,9,?_};refine dU 668 668
 ·refine{_,9,_,9,_,9,fe,nl,most,kP,9,uT,tX,{adR,8,8},m1,8,λr1 bU bA H8 Ex zq hQ8 n1 n2 ZQ h84 h8z=>?_};refine{_,9,96,695};have tu8:=(cv.refl H8).new hp (.tup [.ref r1,.ref r2]);exact k p (.ref r1) (.ref r2) bU bV bA bx _ (Ex.new hp _) ((XO.trans zq).new hp _) av ((YW hQ8 n1 ∅ ZQ UO h84 h8z).keep tu8) ((YX.keep (uT.fD zq)).keep tu8) (λz hz _=>h8z z hz) Ru
 intro d m6;have nd:=uT.my m6;have Ex:=uT.new m6 655;have zq:Ext fe H7 (upd H7 d 655):=(Ext.refl fe H7).new m6 _;have hd8:upd H7 d 655 d=some (.dK (gD [])):=av;refine{_,9,.ref r2,bV,bx,9,YX.keep (uT.fD zq),λur H9 vE Y8 ZG=>?_};have lun:(fC (bD bx)).length<=32:=by have h1:=yZ (bD bx);have h2:=xn.good.len bx.length;rw[aS]at h2;have:=xn.l8;lia
 have ac5:=Ex.my Y8;have ndu:ur≠d:=λe=>by rw[e,hd8]at Y8;cases Y8
 refine{ur,rfl,{_,bf.of ZG},XG
  (λi Z ie=>∃(x7 x8:Aan)(g:List 677),Z=[some (.ref fe),some (.int most),some (.ref nl),some (.ref r2),some 720,some (.int way),some 705,x7,x8,none]/\dH K fe ie/\Ext fe H7 ie/\ie ur=some (.lst ((fC (bD bx)).map V.str))/\ie d=some (.dK (gD g))/\g.length<=2*i/\(∀p∈g,p.2∈kT)/\∀p∈g,bo p.1=true)
  {none,none,[],9,Ex.same vE,zq.trans (Ext.of vE),ZG,vE _ _ hd8,aP _,λp h=>(by cases h),λp h=>by cases h} (λi Z ie _ hq=>by(obtain⟨_,_,_,_,_,_,h,_⟩:=hq;exact bf.of h)) ?_ ?_}
 ·rintro i x p Z ie hx ⟨x7,x8,g,rfl,Xw,RQ,Ri,Rv,PL,PK,ZP⟩ hp;obtain⟨u,oq,rfl⟩:=iP hx;have hi:=(au.mp oq).1;have Ng:=Xw.new hp (.tup [.int (i:Int),.str u]);have XN:=RQ.new hp (.tup [.int (i:Int),.str u]);have adY:upd ie p (.tup [.int (i:Int),.str u]) d=some (.dK (gD g)):=by rw[aL (bC Rv hp)];exact Rv
  have ZF:upd ie p (.tup [.int (i:Int),.str u]) ur=some (.lst ((fC (bD bx)).map V.str)):=by rw[aL (bC Ri hp)];exact Ri
  refine{p,_,9,aZ.of av,9,_,_,9,_,_,9,9,?_};generalize upd ie p (.tup [.int (i:Int),.str u])=mD at Ng XN adY ZF⊢;refine{_,9,96,λZv adU=>?_};have y12:Ext fe mD (upd mD Zv (.lst [.str "a",.str "r"])):=(Ext.refl fe mD).new adU _;have Nf:=Ng.new adU (.lst [.str "a",.str "r"]);have e12:upd mD Zv (.lst [.str "a",.str "r"]) Zv=some (.lst [.str "a",.str "r"]):=av;generalize upd mD Zv (.lst [.str "a",.str "r"])=uZ at y12 Nf e12⊢;refine{_,_,_,_,9,9,(XN.trans y12) _ _ uQ Xo,e12,bB (bt (by show(us.map V.str).length+2<=1000;lia)),λl13 Xp=>?_};have y13:Ext fe uZ (upd uZ l13 (.lst (us.map V.str++[.str "a",.str "r"]))):=(Ext.refl fe uZ).new Xp _;have Nd:=Nf.new Xp (.lst (us.map V.str++[.str "a",.str "r"]));have Z7:upd uZ l13 (.lst (us.map V.str++[.str "a",.str "r"])) l13=some (.lst ((us++(["a","r"]:Aaf)).map V.str)):=by rw[av,aH];rfl
  refine{_,9,fe,08,9,Nd,7,7,λi14 N3 c0 c1 Ig Ny=>?_};obtain⟨tm,htm,evt⟩:=qi (zs:=us++(["a","r"]:Aaf)) c0 (by rw[aD];show i14<((us.length+2:Nat):Int);lia);have hu0:=(qo.mp (az oq)).2;have htT:tm∈kT:=by
   rcases aV.mp htm with h|h
   ·exact Kx (zb tm h)
   ·exact tM (ar tm h)
  have OG:=(y12.trans y13).trans Ny;refine{_,_,_,_,9,9,bf.of (Ny _ _ (Nf.my Xp) Z7),evt,?_};refine{_,9,_,9,d,_,9,AR.k (k:=Sum.inr u) (OG _ _ nd adY) (by unfold gD;rw[aj];exact bt ∅),?_};rw[HG];have pl:=LI g u tm;have pv':=BV (u:=u) PK htT;have Nc:dH K fe (upd N3 d (.dK (gD (ka g u tm)))):=by obtain⟨x,y,z,hf⟩:=Ig;exact{x,y,z,aL nd.symm▸hf}
  have Am:Ext fe H7 (upd N3 d (.dK (gD (ka g u tm)))):=(XN.trans OG).own m6 _;have Xs:upd N3 d (.dK (gD (ka g u tm))) d=some (.dK (gD (ka g u tm))):=av;have Rh:upd N3 d (.dK (gD (ka g u tm))) ur=some (.lst ((fC (bD bx)).map V.str)):=aL ndu▸OG _ _ ac5 ZF;generalize upd N3 d (.dK (gD (ka g u tm)))=VW at Nc Am Xs Rh⊢;refine{_,9,_,_,9,9,_,9,?_};refine dU (λc3=>?_) (λc3=>{_,_,ka g u tm,9,Nc,Am,Rh,Xs,8,pv',BW ZP hu0})
  ·refine{(by show 6<=sizeLine;decide),λl16 adT=>?_};have y16:Ext fe VW (upd VW l16 (.lst (Dh.map V.str))):=(Ext.refl fe VW).new adT _;obtain⟨tz,htz,evz⟩:=qi (zs:=Dh) (i:=(i:Int) % 6) ∅ (by show(i:Int) % 6<6;lia);refine{_,9,_,_,9,9,(by show(0:Int)<6;decide),_,_,_,_,9,9,bf.of av,evz,?_};refine{_,9,_,9,d,_,9,AR.k (k:=Sum.inr u) (y16 _ _ nd Xs) (by unfold gD;rw[aj];exact bt ∅),?_};rw[HG];have Jf:=LI (ka g u tm) u tz;refine{_,_,ka (ka g u tm) u tz,9,?_,(Am.trans y16).own m6 _,?_,av,8,BV pv' (z_T htz),BW (BW ZP hu0) hu0}
   ·obtain⟨x,y,z,hf⟩:=(Nc.new adT (.lst (Dh.map V.str)));exact{x,y,z,aL nd.symm▸hf}
   ·rw[aL ndu];exact y16 _ _ ac5 Rh
 ·rintro Z ie ⟨x7,x8,g,rfl,Xw,RQ,Ri,Rv,PL,PK,ZP⟩;refine{_,9,_,9,_,9,.ref r2,d,bV,bx,g,9,(YX.keep (uT.fD RQ)),Rv,PK,λr11 mD xO afQ=>?_};have Ng:=Xw.same xO;refine{_,9,_,9,_,9,fe,3,9,Ng,7,7,λi12 uZ c0 c1 Nf ad8=>?_};have RK:=(RQ.trans (Ext.of xO)).trans ad8;refine{_,9,_,_,9,9,.inr {_,9,?_}};obtain⟨mr,emr,mr0,mr1⟩:∃m:Int,(if decide (way<5)=true then(1:Int)else 0)=m/\0<=m/\m<=1:=by
   by_cases c5:decide (way<5)=true
   ·exact{1,aM c5,7,7}
   ·exact{0,aI c5,7,7}
  have hmul:0<=i12*mr/\i12*mr<=3:=by
   have:mr=0\/mr=1:=by lia
   rcases this with rfl|rfl
   ·lia
   ·lia
  rw[emr];refine{_,_,9,9,.inl {8,8},fe,nl,l,.ref r11,_,kP,us,_,_,9,Nf,⟨tX,uQ⟩,{RK _ _ tX adR,8,8,UO},{RK _ _ uQ Xo,8,8,zb},(afQ.keep (Ng.fD ad8)),hmul.1,hmul.2,λr13 aai qM Nd RP acR aeM=>?_};have Z5:=RK.trans RP;have qwo:=YX.keep (uT.fD Z5);refine{_,9,96,λY0 Xk=>{Y0,_,9,.inr (aZ.of av),9,9,_,9,?_}};have OG:Ext fe qM (upd qM Y0 (.tup [.int 2,.int 3])):=(Ext.refl fe qM).new Xk _;have Ig:=Nd.new Xk (.tup [.int 2,.int 3]);have K0:cv qM (upd qM Y0 (.tup [.int 2,.int 3])):=(cv.refl qM).new Xk _;generalize upd qM Y0 (.tup [.int 2,.int 3])=N3 at OG Ig K0⊢;have RJ:=Z5.trans OG;refine dU (λc4=>?_) (λc4=>?_)
  ·refine{_,9,_,9,_,9,_,9,fe,nl,l,.ref r13,us,_,aai,9,Ig,uQ,{RJ _ _ uQ Xo,8,8,zb},acR.keep K0,λr15 Xg afp VW Nc Am afP afb=>?_};refine{_,9,_,9,96,695};have Sn:=(cv.refl VW).new hp (.tup [.ref r15,.ref r2]);exact k p (.ref r15) (.ref r2) Xg bV afp bx _ (Nc.new hp _) (((XO.trans RJ).trans Am).new hp _) av (afP.keep Sn) (((qwo.keep K0).keep (Ig.fD Am)).keep Sn) afb Ru
  ·refine{_,9,_,9,96,695};have Sn:=(cv.refl N3).new hp (.tup [.ref r13,.ref r2]);exact k p (.ref r13) (.ref r2) _ bV aai bx _ (Ig.new hp _) ((XO.trans RJ).new hp _) av ((acR.keep K0).keep Sn) ((qwo.keep K0).keep Sn) ((Ru.led ZP).mono aeM) Ru
def PT:AD:=⟨λz=>z.length<=100/\PyData.strOk z=true⟩
def R8{z:Str}(h:z∈PT):z.length<=100/\PyData.strOk z=true:=h
abbrev AF(H:Hp):Aam->List 677->Prop:=Paired λ(v:V)(p:Str×Str)=>∃a,v=.ref a/\H a=some (.tup [.str p.1,.str p.2])
def AF.keep{H H':Hp}(t:cv H H'){vs:Aam}{cb:List 677}(h:AF H vs cb):AF H' vs cb:=Paired.imp' (λ_ _ ⟨a,e,q⟩=>{a,e,t _ _ q}) h
def KL(cb:List 677):Prop:=∀p∈cb,p.1∈PT/\p.2∈PT
def jq(cb:List 677):List 677:=cb.foldl (λg p=>ka g p.1 p.2) []
theorem E6:∀(cb g:List 677),ky (gD g) (gD cb)=gD (cb.foldl (λg p=>ka g p.1 p.2) g)
 |[],g=>rfl
 |p::r,g=>by show ky (putK (gD g) (Sum.inr p.1) (V.str p.2)) (gD r)=_;rw[HG,E6 r];rfl
theorem LZ{H:Hp}:∀{vs:Aam}{cb:List 677},AF H vs cb->Paired (λ(y:V)(kv:Key×V)=>∃t,y=.ref t/\H t=some (.tup [kV kv.1,kv.2])) vs (gD cb)
 |_,_,.nil=>.nil
 |_,_,.cons ⟨a,e,h⟩ t=>.cons ⟨a,e,h⟩ (LZ t)
def uy(bU:Aaf)(bA:Hw)(bV:Aaf)(bx:Hw)(cb:List 677):Bool:=
 decide (cb.map (·.1)=fk (fC (bD bx)))&&(decide (bV.map (dq (jq cb))=bU)&&(bx.map λa=>decide ((a.1,a.2.map (dq (jq cb)))∈bA)).all id)
inductive YE(vs:Aam)(H:Hp)(Q:VK)(_x3:XK):Prop
 |mk (v1 v2:V) (pl:Addr) (bU bV:Aaf) (bA bx:Hw) (mx:Aam) (cb:List (Str×Str)) (_:vs=[v1,v2,.ref pl]) (_:QW H v1 bU bA) (_:QW H v2 bV bx) (_:H pl=some (.lst mx)) (_:AF H mx cb) (_:KL cb) (_:cb.length<=100) (_:∀H',aK H H'->Q (.bl (uy bU bA bV bx cb)) H')
def dA(a:Str×Aaf):PyData:=.tuple [.str a.1,.tuple (a.2.map PyData.str)]
def NN(a b:Str×Aaf):PyData.eqv (dA a) (dA b)=decide (a=b):=by unfold dA;obtain⟨a1,a2⟩:=a;obtain⟨b1,b2⟩:=b;simp only[PyData.eqv,PyData.eqvAll,nq,Bj];by_cases h:a1=b1<;>by_cases h':a2=b2<;>simp[h,h']
def ael(bb:Hw)(b:Str×Aaf):((bb.map dA).any λe=>PyData.eqv e (dA b))=decide (b∈bb):=by
 rw[mn,fA,ix,jE];constructor
 ·rintro⟨x,hx,e⟩;have e:PyData.eqv (dA x) (dA b)=true:=e;rw[NN,jE]at e;exact e▸hx
 ·intro h;exact{b,h,by show PyData.eqv (dA b) (dA b)=true;rw[NN];exact bg rfl}
def Ud{a:Str×Aaf}(h1:PyData.strOk a.1=true)(h2:∀z∈a.2,PyData.strOk z=true):(dA a).canLay0=true:=by unfold dA;simp[PyData.canLay0,PyData.canLayAll0,h1,sO a.2 h2]
theorem HX:∀{bb:Hw},(∀a∈bb,PyData.strOk a.1=true/\∀z∈a.2,PyData.strOk z=true)->PyData.canLayAll0 (bb.map dA)=true
 |[],_=>rfl
 |a::r,h=>by simp[PyData.canLayAll0,(Ud (h a aF).1 (h a aF).2),(HX (bb:=r) λb hb=>h b (aG _ hb))]
def NF(a:Str×Aaf):(dA a).depth<=60:=by unfold dA;simp[PyData.depth,PyData.depthAll,o9]
def P9{K:Frag}{H:Hp}{v:V}{a:Str×Aaf}(h:wK H v a):Dt K H (dA a) v:=by obtain⟨p,t,rfl,hp,ht⟩:=h;unfold dA;refine{p,_,9,aZ.of hp,?_};refine{_,_,9,by rw[Dt],?_};refine{_,_,9,?_,by rw[lJ]};exact{t,_,9,aZ.of ht,lA _}
theorem Fl{K:Frag}{H:Hp}:∀{vs:Aam}{bb:Hw},dw H vs bb->lJ K H (bb.map dA) vs
 |_,_,.nil=>by rw[fw,lJ]
 |_,_,.cons r t=>by exact{_,_,9,P9 r,Fl t}
def BC(zs:Aaf)(h:∀z∈zs,PyData.strOk z=true):SeqAt.shaped (.tuple (zs.map PyData.str))=true:=by simp[SeqAt.shaped,PyData.canLay0,PyData.depth,sO zs h,o9]
def NU(bs:List Bool):tZ (.bl false) (bs.map V.bl)=!(bs.all id):=by
 unfold tZ;rw[mn]
 induction bs with
 |nil=>rfl
 |cons b r ih=>
  rw[nh,uJ,ih];cases b<;>rfl
def Nu(bs:List Bool):(bs.map V.bl).all tJ=true:=by rw[C6];exact bN.mpr λ_ _=>9
def CP{z:Str}(h:z∈kT):z∈PT:=(fZ h).2
def afh{g cb:List 677}{l:AD}(hg:∀p∈g,p.2∈l)(h:∀p∈cb,p.2∈l):∀p∈cb.foldl (λg p=>ka g p.1 p.2) g,p.2∈l:=by
 induction cb generalizing g with
 |nil=>exact hg
 |cons q r ih=>exact ih (BV hg (h q aF)) λp hp=>h p (aG _ hp)
def Ub{cb:List 677}(hg:KL cb){z:Str}(h:z∈kT):dq (jq cb) z∈PT:=HV (afh (λp h=>by cases h) λp hp=>(hg p hp).2) (CP h)
structure Dma(P:Program)(w:World)(K:Frag)(mg:Aab)(base:Heap):Prop extends Dle P w K mg base where
 Ag:cq P w K mg base 1 "_law_unknowns" ["_law_question_here"] yL
def xT:bZ ["_law_one","_law_other","_law_pairs","_law_pair_here","_law_given"] ["_law_one","_law_other","_law_pairs"] (defScope zU):=gC 53
def WV{f:Addr}{fd:FuncData}(F:dF K "_law_is_map" "_law_is_map" zU f fd)(T:Txt K mg)(D:Dma P w K mg base):cK P w K mg base d7 2 f fd ["_law_one","_law_other","_law_pairs"] YE:=by
 refine F.ok xT (λ_ _ _ _ h=>by cases h;subst_vars;rfl) 54;obtain⟨v1,v2,pl,bU,bV,bA,bx,mx,cb,rfl,S6,xn,jN,PB,hgp,ahB,k⟩:=h;have lp:=bc PB;obtain⟨q1,h1,aa1,ahL,rfl,MT,UW,ag9,DE⟩:=id S6.at';obtain⟨q2,h2,aa2,ahm,rfl,MS,M0,ad1,KH⟩:=id xn.at';have Zu:=bc KH;have l8:=xn.l8;refine{_,(aB (dg (i9 (gH (bM js 9 T.h9 53 (cw (pv 2) (tE (n:="list") 9 T.pT 53))))) 669 cy) (aB (dJ bE 9 (dI (pv 2)) (gg 3 xT) (aQ (dg (PW.pt (oP (i9 (gH (bM js 9 T.h9 53 (cw (pv 3) (tE (n:="tuple") 9 T.iA 53))))) (oP (bY oU (bM c6 9 T.eJ bG (bW (pv 3))) aO (cB _)) (pR (i9 (gH (bM js 9 T.h9 53 (cw (bH b4 (pv 3) aO (λ_ _=>9)) (tE (n:="str") 9 T.Gd 53))))))))) 669 cy))) (aB (dg (bY (F8 hr.units) (kZ 9 684 (dI (pv 2)) (λ_ _ _ _=>(bH (qH) (pv 0) aO (λ_ _=>9)))) (bM Oz 9 T.sM 53 (bW (cl D.Ag hr 722))) (cB _)) 669 cy) (aB (kx (i:=4) xT.nd 9 (Or.inr 9) (cU (GY hr.hd) 9 T.B5 53 (bW (pv 2)))) (aB (dg (bY (F8 hr.units) (cl D.KC hr (cw (bH b4 (pv 1) aO (λ_ _=>9)) (pv 4))) (bH b4 (pv 0) aO (λ_ _=>9)) (cB _)) 669 cy) (aQ (bK (ni og fJ (vQ 9 (pf (more:=["_law_terms_here"]) (fs:=["_law_given","_law_one"]) (fr:=[4,0])) (iy (bH b4 (pv 1) aO (λ_ _=>9))) (λ_ _ _ _=>(vk (n:=2) 9 699)) (λ_ _ _ _=>(ni (aba hr.units) (d9 (cw (pv 0) (cl D.KC hr (cw (pv 1) (pv 2))))) (bH (qH) (pv 3) aO (λ_ _=>9)) 650))) 650)))))))),?_}
 refine{_,9,_,_,_,_,9,.lst jN,by rfl,_,9,?_};refine eS ?_;refine{_,rfl,pl,rfl,{_,bf.of jN},gL
  (λi Z H2=>∃x3:Aan,Z=[some (.ref q1),some (.ref q2),some (.ref pl),x3,none]/\H2=H) ⟨none,rfl,rfl⟩ (λi Z H2 _ ⟨_,_,e⟩=>by rw[e];exact bf.of jN) ?_ ?_}
 ·rintro i x Z H2 hx ⟨x3,rfl,rfl⟩;obtain⟨pr,Gu,a,rfl,ha⟩:=Paired.at PB hx;refine{_,9,_,_,_,_,9,.tup ha,by rfl,_,9,?_};refine eS ?_;refine{_,9,_,_,9,.inr {_,aZ.of ha,9},9,_,9,?_};refine eS ?_;refine{_,9,_,_,_,_,9,9,aZ.of ha,9,_,_,_,_,9,.str _,by rfl,_,9,?_};exact eS ⟨_,rfl,rfl⟩
 rintro Z H2 ⟨x3,rfl,rfl⟩;refine{_,9,pl,9,{_,bf.of jN},iS (xs:=mx) (λi ys H3=>H3=H2/\i<=cb.length/\ys=((cb.take i).map (·.1)).map V.str) (bt ∅) {9,aP _,9} ?_ ?_ ?_}
 ·rintro i ys H3 hi ⟨rfl,_,rfl⟩;refine{bf.of jN,?_};rw[aj,aj,a9];lia
 ·rintro i x ys H3 N hc ⟨rfl,hi,rfl⟩ hN;obtain⟨pr,Gu,a,rfl,ha⟩:=Paired.at PB hc;have bO:=(au.mp Gu).1;refine{_,9,_,_,_,_,9,9,aZ.of ha,9,hN _ _ {9,bO,?_}};rw[bj,Gu,aH,aH];rfl
 rintro ys H3 ⟨rfl,_,rfl⟩ l hl;rw[lp,aS];have uP:aK H3 (upd H3 l (.lst ((cb.map (·.1)).map V.str))):=aA hl _;have e4:upd H3 l (.lst ((cb.map (·.1)).map V.str)) l=some (.lst ((cb.map (·.1)).map V.str)):=av;refine{_,9,.ref q2,bV,bx,9,xn.keep (cv.of uP),λur H5 uO Y8 ZG=>?_};have lun:(fC (bD bx)).length<=32:=by have h1:=yZ (bD bx);have h2:=xn.good.len bx.length;rw[aS]at h2;lia
 have agJ:∀z∈fC (bD bx),z∈kT:=λz hz=>by rw[Di,Dy,cX]at hz;exact xn.good.flat hz.1
 refine{ur,_,9,bf.of ZG,8,λl6 Cf=>?_};have sm6:aK H5 (upd H5 l6 (.lst ((fk (fC (bD bx))).map V.str))):=aA Cf _;have e6:upd H5 l6 (.lst ((fk (fC (bD bx))).map V.str)) l6=some (.lst ((fk (fC (bD bx))).map V.str)):=av;generalize upd H5 l6 (.lst ((fk (fC (bD bx))).map V.str))=H6 at sm6 e6⊢;have acw:=uO.trans sm6;have QC:=uP.trans acw;refine{.list ((cb.map (·.1)).map PyData.str),.list ((fk (fC (bD bx))).map PyData.str),?_,?_,Ea _ λz hz=>?_,Ea _ λz hz=>(fZ (agJ z ((ij _).mem_iff.mp hz))).2.2,_,9,?_}
 ·rw[Dt];exact{l,_,9,bf.of (acw _ _ e4),lA _}
 ·rw[Dt];exact{l6,_,9,bf.of e6,lA _}
 ·obtain⟨p,hp,rfl⟩:=aE.mp hz;exact(R8 (hgp p hp).1).2
 have ee:PyData.eqv (.list ((cb.map (·.1)).map PyData.str)) (.list ((fk (fC (bD bx))).map PyData.str))=decide (cb.map (·.1)=fk (fC (bD bx))):=by rw[PyData.eqv,nq]
 rw[ee];refine dU 693 693
 ·have q:=k H6 QC;unfold uy at q;rw[show decide (cb.map (·.1)=fk (fC (bD bx)))=false by simpa using c1,kr]at q;exact q
 have c1:decide (cb.map (·.1)=fk (fC (bD bx)))=true:=by simpa using c1
 refine{_,9,pl,mx,gD cb,9,bf.of (QC _ _ jN),LZ (AF.keep (cv.of QC) PB),λd hd=>?_};rw[show ky [] (gD cb)=gD (jq cb)from E6 cb []];have sm7:aK H6 (upd H6 d (.dK (gD (jq cb)))):=aA hd _;have e7:upd H6 d (.dK (gD (jq cb))) d=some (.dK (gD (jq cb))):=av;have Wi:=QC.trans sm7;have h24:=xn.h4;refine{_,9,_,_,_,_,9,9,aZ.of (Wi _ _ MS),9,_,9,h2,d,bV,jq cb,9,Wi _ _ M0,e7,8,λr8 H8 YI hr8=>?_};have Bz:=Wi.trans YI;refine{_,9,_,_,_,_,9,9,aZ.of (Bz _ _ MT),9,.tuple ((bV.map (dq (jq cb))).map PyData.str),.tuple (bU.map PyData.str),?_,?_,BC _ λz hz=>?_,BC _ λz hz=>(fZ (S6.hh z hz)).2.2,_,9,?_}
 ·rw[Dt];exact{r8,_,9,aZ.of hr8,lA _}
 ·rw[Dt];exact{h1,_,9,aZ.of (Bz _ _ UW),lA _}
 ·obtain⟨y,hy,rfl⟩:=aE.mp hz;exact(R8 (Ub hgp (xn.hh y hy))).2
 have ee2:PyData.eqv (.tuple ((bV.map (dq (jq cb))).map PyData.str)) (.tuple (bU.map PyData.str))=decide (bV.map (dq (jq cb))=bU):=by rw[PyData.eqv,nq]
 rw[ee2];refine dU 723 723
 ·have q:=k H8 Bz;unfold uy at q;rw[show decide (bV.map (dq (jq cb))=bU)=false by simpa using c2,kr,tD]at q;exact q
 have c2:decide (bV.map (dq (jq cb))=bU)=true:=by simpa using c2
 refine{_,9,_,_,_,_,9,9,aZ.of (Bz _ _ MS),9,aa2,9,{_,aZ.of (Bz _ _ ad1)},CC (xs:=ahm) (λi ys H9=>aK H8 H9/\i<=bx.length/\ys=((bx.take i).map λa=>decide ((a.1,a.2.map (dq (jq cb)))∈bA)).map V.bl) (bt ∅) {aK.refl _,aP _,9} ?_ ?_ ?_}
 ·rintro i ys H9 hi ⟨vE,_,rfl⟩;refine{aZ.of (vE _ _ (Bz _ _ ad1)),?_};rw[aj,aj,a9];lia
 ·rintro i x ys H9 N hc ⟨vE,hi,rfl⟩ hN;obtain⟨a,jC,p,tt,rfl,hp,mz⟩:=Paired.at KH hc;have ga:=xn.good a (az jC);have bO:=(au.mp jC).1;have Wh:=Bz.trans vE;refine{p,_,_,9,aZ.of (Wh _ _ hp),yO ?_};refine{_,9,_,9,_,9,tt,d,a.2,jq cb,9,Wh _ _ mz,vE _ _ (YI _ _ e7),8,λS5 ie QE agO=>?_};refine{96,λPe Xl=>?_};have xO:aK ie (upd ie Pe (.tup [.str a.1,.ref S5])):=aA Xl _;have e11:upd ie Pe (.tup [.str a.1,.ref S5]) Pe=some (.tup [.str a.1,.ref S5]):=av;generalize upd ie Pe (.tup [.str a.1,.ref S5])=mD at xO e11⊢;have QD:=Wh.trans (QE.trans xO);refine{_,9,_,_,_,_,9,9,aZ.of (QD _ _ MT),9,dA (a.1,a.2.map (dq (jq cb))),bA.map dA,P9 {Pe,S5,9,e11,xO _ _ agO},.inl ?_,HX λb hb=>?_,Ud (fZ (tM ga.1)).2.2 λz hz=>?_,NF _,?_}
  ·rw[Dt];exact{aa1,_,9,aZ.of (QD _ _ ag9),Fl (dw.keep (cv.of QD) DE)}
  ·have gb:=S6.good b hb;exact{(fZ (tM gb.1)).2.2,λz hz=>(fZ (gb.2.2.2 z hz)).2.2}
  ·obtain⟨y,hy,rfl⟩:=aE.mp hz;exact(R8 (Ub hgp (ga.2.2.2 y hy))).2
  ·show N (_++[.bl ((bA.map dA).any λe=>PyData.eqv e (dA (a.1,a.2.map (dq (jq cb)))))]) mD;rw[ael];refine hN _ _ {vE.trans (QE.trans xO),bO,?_};rw[bj,jC,aH,aH];rfl
 ·rintro ys H9 ⟨vE,_,rfl⟩ l10 agZ;rw[Zu,aS];refine{l10,_,9,.inl (bf.of av),9,Nu _,?_};have q:=k _ ((Bz.trans vE).trans (aA agZ (.lst ((bx.map λa=>decide ((a.1,a.2.map (dq (jq cb)))∈bA)).map V.bl))));unfold uy at q;rw[c1,c2,iV,iV]at q;rw[NU,Bool.not_not];exact q
variable{C:Addr}
theorem F0{fm fp:Addr}{dm dp:FuncData}(Fm:dF K "mapped" "MapSearch.mapped" u9 fm dm)(Fp:dF K "mapped_part" "MapSearch.mapped_part" nv fp dp)(Mm:Meth K C "mapped" fm)(Mp:Meth K C "mapped_part" fp)(bm:Binds K dm ["self","atoms","given"] [])(bp:Binds K dp ["self","part","given"] [])
  (T:Txt K mg) (O:Own K C) (D:Dp P w K mg base C):∀n,rS P w K mg base C (07+2*n) "mapped" ["self","atoms","given"] (zN P w K C n)
 |0=>by have Mg:∀vs H Q E,¬Ll P w K C 0 vs H Q E:=λvs H Q E ⟨_,_,_,_,_,_,_,_,_,_,_,p,_,_,ak,_,_,gJ,_⟩=>gJ (dD.mp (Nat.le_zero.mp ak.ln));exact{fm,dm,Jk Fm T O {D,{fp,dp,({λvs H Q E h=>absurd h (Mg vs H Q E),λA outer s H args us vs Q E _ _ _ _ h=>absurd h (Mg vs H Q E)}),Mp,bp}},Mm,bm}
 |n+1=>by exact{fm,dm,Jk Fm T O {D,{fp,dp,HM Fp T O {D,(F0 Fm Fp Mm Mp bm bp T O D n)},Mp,bp}},Mm,bm}
def N0(P:Program)(w:World)(K:Frag)(mg:Aab)(base:Heap)(C:Addr)(k:Nat)(x:Str)(ps:Aaf)(sp:Sp):Prop:=∃f fd,Mk K C f/\cK P w K mg base d7 k f fd ps sp/\mg x=some (.ref C)/\Binds K fd ps []
def mkO(D:N0 X.prog X.w X.K X.mg X.base C k x ps sp)(hr:iH j X.A)(ha:PA X (e::es) t)(hk:k+1<=j)(hg:Gl X x:=by rfl)
  (Cm:663=false:=by decide) (he:starEach (e::es) X.env=(false,eval e X.env)::starEach es X.env:=by rfl) (jN:(backTo pos 712).any (·.1)=false:=by rfl):
  PE X 708 (YA C sp [] E0 t):=by
 obtain⟨f,fd,M,F,m,b⟩:=D;exact aa6 M F (hr.mono hk) hg m b .nil QN ha Cm he jN
structure Dfm(P:Program)(w:World)(K:Frag)(mg:Aab)(base:Heap)(C:Addr):Prop where
 fitted:cq P w K mg base 3 "fitted" ["given","terms","aim"] (EJ K)
 vY:rS P w K mg base C (07+2*08) "mapped" ["self","atoms","given"] (zN P w K C 08)
 Ol:N0 P w K mg base C 3 "MapSearch" ["self","atoms"] (QA P w K C)
def mR(bU:Aaf)(bA:Hw)(bV:Aaf)(bx:Hw)(h:Str->Str):Prop:=bV.map (aJ.ap bo h)=bU/\aJ.Fits bo bA h bx
structure aal(bU:Aaf)(bA:Hw)(bV:Aaf)(bx:Hw)(g:df):Prop where
 nd:(keys g).Nodup
 ks:∀u,u∈keys g↔(u∈bV/\bo u=true)\/u∈aJ.jx bo bx
 led:∀h,aJ.iD g h->mR bU bA bV bx h
 ok:∀q∈g,PyData.strOk q.2=true
inductive OW(vs:Aam)(H:Hp)(Q:VK)(_x3:XK):Prop
 |mk (v1 v2:V) (bU bV:Aaf) (bA bx:Hw) (_:vs=[v1,v2]) (_:QW H v1 bU bA) (_:QW H v2 bV bx) (_:(∀H',aK H H'->(∀h,¬mR bU bA bV bx h)->Q .cz H')) (_:∀H' d g,aK H H'->H' d=some (.dK (gK g))->aal bU bA bV bx g->Q (.ref d) H')
def BG:bZ ["one","other","given"] ["one","other"] (defScope xZ):=gC 53
def gj.free{H0 H:Hp}{A:Addr}{kvs:List 648}{R:Rl}{n:Nat}(x:gj P w K H0 H A kvs R n):gj P w K (λ_=>none) H A kvs R n:={x.at_,x.len,rfl,λk v h=>by obtain⟨d,inner,h1,h2,h3,h4⟩:=x.vals k v h;exact⟨d,inner,h1,h2,rfl,h4⟩,x.no,x.inj}
def Ii{bb:Hw}(g:nO bb):∀a∈bb,lH a:=λa ha=>by obtain⟨h1,h2,h3,h4⟩:=g a ha;exact{8,(fZ (tM h1)).2.2,λz hz=>(fZ (h4 z hz)).2}
def IC{H:Hp}{vs:Aam}{bb:Hw}(h:dw H vs bb):kK K H vs bb:=by
 induction h with
 |nil=>exact .nil
 |cons h _ ih=>
  obtain⟨p,t,e,h1,h2⟩:=h;exact .cons {p,t,e,aZ.of h1,aZ.of h2} ih
def Mc{f:Addr}{fd:FuncData}(F:dF K "found_map" "found_map" xZ f fd)(T:Txt K mg)(O:Own K C)(D:Dfm P w K mg base C):cK P w K mg base d7 25 f fd ["one","other"] OW:=by
 refine F.ok BG (λ_ _ _ _ h=>by cases h;subst_vars;rfl) 54;obtain⟨v1,v2,bU,bV,bA,bx,rfl,q1,q2,k1,k2⟩:=h;obtain⟨r1,h1,a1,Ys,rfl,Gs,UW,PY,DE⟩:=q1.at';obtain⟨r2,h2,a2,OJ,rfl,kQ,M0,ha2,KH⟩:=q2.at';refine{_,(aB (dM 2 BG (cl D.fitted hr (jX jm (bH b4 (pv 1) aO (λ_ _=>9)) (bH b4 (pv 0) aO (λ_ _=>9))))) (aB (dg (bY F9 (pv 2) jB (cB _)) (aQ (bK jB)) cy) (aQ (bK (T2 O.c D.vY hr (mkO D.Ol hr (bW (bH b4 (pv 0) aO (λ_ _=>9))) ∅) (cw (cU kH 9 T.pT 53 (bW (bH b4 (pv 1) aO (λ_ _=>9)))) (pv 2)) ∅))))),?_}
 refineλe0 GB=>?_
 have s1:aK H (upd H e0 655):=aA GB _;have he1:upd H e0 655 e0=some (.dK (gK [])):=av;have nA:=q1.h4;have gd:=q2.h4;refine{_,9,_,_,_,_,9,9,aZ.of (s1 _ _ kQ),9,_,9,_,_,_,_,9,9,aZ.of (s1 _ _ Gs),9,e0,h2,h1,[],bV,bU,9,he1,aP _,eB,aZ.of (s1 _ _ M0),aZ.of (s1 _ _ UW),8,8,λz hz=>bu (fZ (q2.hh z hz)).2.1 7,λH2 s2 e2=>?_,λd g0 H2 s2 m6 hd2 e2=>?_}
 ·refine{_,9,9,_,9,kz (k1 H2 (s1.trans s2) λh hl=>?_)};obtain⟨g',e,_⟩:=aJ.uc (g:=[]) eB (λp hp=>by cases hp);rw[hl.1,e2]at e;cases e
 refine{_,9,9,_,9,eS ?_};have vN:=s1.trans s2;obtain⟨n0,_,Zx,Xu⟩:=aJ.sT (g:=[]) eB e2;refine{_,9,_,_,_,_,9,9,aZ.of (vN _ _ Gs),9,λx dx hx hdx ne=>?_};have s3:aK H2 (upd (upd H2 dx (.own x)) x (.ins C dx [])):=λb u h=>by rw[aL (bC h hx),aL (bC h hdx)];exact h
 have hx3:upd (upd H2 dx (.own x)) x (.ins C dx []) x=some (.ins C dx []):=av;have nX:=vN.trans s3;have la1:=q1.l8;have Zu:=q2.l8;refine{x,a1,dx,Ys,bA,H2,9,hx3,hx,aZ.of (nX _ _ PY),IC (DE.keep λb xs h=>nX _ _ h),8,Ii q1.good,s3,λH4 A' B kvs s4 A0 B0 UK hB4 ax ab db=>{9,?_}};have nW:=vN.trans s4;refine{x,dx,_,9,UK,9,_,9,_,_,_,_,9,9,aZ.of (nW _ _ kQ),9,a2,OJ,9,.inr (aZ.of (nW _ _ ha2)),λl hl=>?_};have s5:aK H4 (upd H4 l (.lst OJ)):=aA hl _;have PJ:upd H4 l (.lst OJ) l=some (.lst OJ):=av;generalize (upd H4 l (.lst OJ))=H5 at s5 PJ⊢;have F2:=nW.trans s5;have uf:∀u,u∈aJ.jx bo bx->u∈bD bx:=λu hu=>by obtain⟨b,hb,h,_⟩:=aJ.cQ.mp hu;exact iB.mpr ⟨b,hb,h⟩
 have lf:(bD bx).length<=4*bx.length:=by have:=q2.good.len bx.length;rw[aS]at this;exact this
 have k0:=λu hu=>((Zx u).mp hu).elim (λh=>by cases h) id;have dB:d≠B:=λe=>by rw[e,B0]at hd2;cases hd2
 have H0B:H B=none:=by
  cases e:H B with
  |none=>rfl
  |some u=>rw[vN _ _ e]at B0;cases B0
 have tn8:tn bx.length<=9000000:=bu (aaE Zu) 7;have ask:Ask P w K C H5 x A' B dx kvs bA 0 (bV++bD bx) d g0 bx 08:=
  {{s5 _ _ UK,((ax.free.mono ∅).same s5),ab,db},{[],DG (s5 _ _ hB4),aw _,λq hq=>by cases hq},la1,Ii q1.good,Ii q2.good,Zu,aw _,8,s5 _ _ (s4 _ _ hd2),dB,n0,λu hu=>(k0 u hu).2,λq hq=>(wa e2 q hq).elim (λh=>by cases h) λh=>(fZ (q1.hh _ h)).2.2,λu hu=>bz _ (k0 u hu).1,λu hu=>bh _ (uf u hu),by rw[aD];lia}
 have YN:∀H6,SB B H5 H6->aK H H6:=λH6 sb b u h=>sb b u (bC h H0B) (F2 _ _ h);refine{_,9,x,A',B,dx,l,d,kvs,bA,0,_,g0,bx,OJ,9,ask,bf.of PJ,IC (KH.keep λb xs h=>F2 _ _ h),λH6 sb va nc=>?_,λH6 d6 g6 sb va U2 dB6 fg6 got=>?_}
 ·refine k1 H6 (YN H6 sb) λh hl=>nc {h,?_,hl.2};obtain⟨g',e,ag⟩:=aJ.uc (g:=[]) eB (λp hp=>by cases hp);rw[hl.1,e2]at e;cases e;exact ag
 ·refine k2 H6 d6 g6 (YN H6 sb) U2 {got.nd,λu=>?_,λh ag=>{Xu h (aJ.iD.longer n0 got.lg ag),got.ft h ag},fg6};rw[got.ks,Zx];exact or_congr_left {λh=>h.elim (λh=>by cases h) id,.inr}
end
end K31
namespace L2
open PySem PySem.Spec PyProof.Rows
section
variable{P:Program}{w:World}{A:Around}{E:Aac}{v:Shared}
def N6(h:Q (v.heap.get? a) v):wpAny M A (loadIfAlive a) Q E v:=λΓ p _=>by show Sem.wp M Γ (Sem.loadIfAlive a Sem.pure) _ _ p v;exact h
abbrev Bt(f0:Value)(b:Bool)(ti to:Addr):Obj:={cls:=.type "zip",dict:=none,data:=.fields #[f0,.bool b,.bool false,.ref ti,.ref to],slots:=#[]}
structure Zs(h:Heap)(z ti to i1 i2 l1 l2 T:Addr)(k:Nat):Prop where
 self:∃b,h.get? z=some (Bt (rawInt T) b ti to)
 live:∃o,h.get? T=some o
 ins:IsPair h ti (.ref i1) (.ref i2)
 w1:h.IsListIter i1 l1 k
 w2:h.IsListIter i2 l2 k
def OB{z ti to T:Addr}(g:v.heap.get? z=some (Bt (rawInt T) b ti to))(l:∃o,v.heap.get? T=some o)
  (q:∀h',h'.get? z=some (Bt (rawInt T) true ti to)->Heap.SameBut z v.heap h'->Q false {v with heap:=h'}):wpAny 667 A (Builtin.SmallTypes.ownedTupleIsFree (.ref z)) Q E v:=by
 obtain⟨o,l⟩:=l;refine ah (du g 9 9 ?_);refine ah (N6 ?_);rw[eX,l];refine ah (du g 9 9 ?_);cases b with
 |true=>
  exact aq (q v.heap g (DZ _ _))
 |false=>
  refine ah (jv g 59 λh1 g1 s1=>aq (q h1 g1 s1))
def aas{z ti to i1 i2 l1 l2 T:Addr}{k:Nat}{xs ys:Aaj}{x y:Value}{Q:Aac}(D:ZipApart z ti to i1 i2 l1 l2)(nT:T≠z)(g:Zs v.heap z ti to i1 i2 l1 l2 T k)
  (t1:v.heap.IsList l1 xs) (t2:v.heap.IsList l2 ys) (ex:xs[k]?=some x) (ey:ys[k]?=some y)
  (q:∀h',Zs h' z ti to i1 i2 l1 l2 T (k+1)->IsPair h' v.heap.objs.size x y->(∀c o,c≠z->c≠i1->c≠i2->v.heap.get? c=some o->h'.get? c=some o)->Q (.ref v.heap.objs.size) {v with heap:=h'}):
  wpAny 667 A (Builtin.«zip.__next__» {[.ref z],[]}) (λfin s'=>∃u,fin=.done (.ret u)/\Q u s') E v:=by
 obtain⟨⟨b,gs⟩,gT,gi,g1,g2⟩:=g;show wpAny _ _ (field (.ref z) 2>>=_) _ _ _;refine ah (du gs 9 9 ?_);refine ah (du gs 9 9 ?_);refine ah (dj gi 9 ?_);refine ah (OB gs gT λp1 z1 r1=>?_);refine ah ?_;refine ah (ah (cn ?_));refine ah (xJ (g1.extBut r1.extBut D.i1z) (t1.extBut r1.extBut D.l1z) ex λp2 k2 r2=>aq ?_);refine aq ?_;refine ah (ah (cn ?_));refine ah (xJ ((g2.extBut r1.extBut D.i2z).extBut r2.extBut D.i12.symm) ((t2.extBut r1.extBut D.l2z).extBut r2.extBut D.l2i1) ey λp3 k3 r3=>aq ?_);refine aq 666;show wpAny _ _ (newTuple [x,y]>>=_) _ _ _;refine ah (sC (aq {_,9,?_}));have sz:p3.objs.size=v.heap.objs.size:=by rw[r3.1,r2.1,r1.1]
 have st:∀c o,c≠z->c≠i1->c≠i2->v.heap.get? c=some o->p3.get? c=some o:=λc o m1 m2 m3 e=>r3.extBut _ _ m3 (r2.extBut _ _ m2 (r1.extBut _ _ m1 e));rw[sz];obtain⟨oa,ja,ra⟩:=(k2.extBut r3.extBut D.i12);obtain⟨ob,jb,rb⟩:=k3;obtain⟨oT,gT⟩:=gT;obtain⟨o1,e1,c1,_⟩:=g1;obtain⟨o2,e2,c2,_⟩:=g2;refine q _ {{true,ao _ (r3.extBut _ _ D.i2z.symm (r2.extBut _ _ D.i1z.symm z1))},?_,ao _ (st _ _ D.TIz D.TIi1 D.TIi2 gi),{oa,ao _ ja,ra},{ob,ao _ jb,rb}} ?_ λc o m1 m2 m3 e=>ao _ (st c o m1 m2 m3 e)
 ·by_cases n1:T=i1
  ·rw[n1];exact{oa,ao _ ja}
  ·by_cases n2:T=i2
   ·rw[n2];exact{ob,ao _ jb}
   ·exact{oT,ao _ (st _ _ nT n1 n2 gT)}
 ·have:=aU p3 (o:={cls:=.type "tuple",data:=.seq #[x,y]}) rfl;rw[sz]at this;exact this
def ab5{z ti to i1 i2 l1 l2 T:Addr}{k:Nat}{xs:Aaj}{Q:Fin->Shared->Prop}(hh:A.handled=none)(D:ZipApart z ti to i1 i2 l1 l2)(g:Zs v.heap z ti to i1 i2 l1 l2 T k)
  (t1:v.heap.IsList l1 xs) (ex:xs[k]?=none)
  (q:∀h' e,(∀c o,c≠z->c≠i1->c≠i2->v.heap.get? c=some o->h'.get? c=some o)->(∃o,h'.get? e=some o/\o.cls=.type "StopIteration")->E (.ref e) {v with heap:=h'}):
  wpAny 667 A (Builtin.«zip.__next__» {[.ref z],[]}) Q E v:=by
 obtain⟨⟨b,gs⟩,gT,gi,g1,g2⟩:=g;show wpAny _ _ (field (.ref z) 2>>=_) _ _ _;refine ah (du gs 9 9 ?_);refine ah (du gs 9 9 ?_);refine ah (dj gi 9 ?_);refine ah (OB gs gT λp1 z1 r1=>?_);refine ah ?_;refine ah (ah (cn ?_));exact ah (wpAny_nextOf_list_end hh (g1.extBut r1.extBut D.i1z) (t1.extBut r1.extBut D.l1z) ex λp2 e r2 he=>q p2 e (λc o m1 m2 m3 x=>r2 _ _ m2 (r1.extBut _ _ m1 x)) he)
def aar{z ti to i1 i2 l1 l2 T:Addr}{k:Nat}{xs ys:Aaj}{x y:Value}{Q:Option Value->Shared->Prop}(D:ZipApart z ti to i1 i2 l1 l2)(nT:T≠z)(g:Zs v.heap z ti to i1 i2 l1 l2 T k)
  (t1:v.heap.IsList l1 xs) (t2:v.heap.IsList l2 ys) (ex:xs[k]?=some x) (ey:ys[k]?=some y)
  (q:∀h',Zs h' z ti to i1 i2 l1 l2 T (k+1)->IsPair h' v.heap.objs.size x y->(∀c o,c≠z->c≠i1->c≠i2->v.heap.get? c=some o->h'.get? c=some o)->Q (some (.ref v.heap.objs.size)) {v with heap:=h'}):
  wpAny 667 A (pyNext (.ref z)) Q E v:=by
 obtain⟨b,gs⟩:=g.self;have ty:v.TypeIs (.ref z) "zip":=⟨_,gs,rfl⟩;exact ah (ig (wpAny_callSpecial?_slot ty iO (b7 iO ty qx (aas D nT g t1 t2 ex ey λh' b1 b2 b3=>aq (q h' b1 b2 b3)) (pN _))))
def aaq{z ti to i1 i2 l1 l2 T:Addr}{k:Nat}{xs:Aaj}{Q:Option Value->Shared->Prop}(hh:A.handled=none)(D:ZipApart z ti to i1 i2 l1 l2)(g:Zs v.heap z ti to i1 i2 l1 l2 T k)
  (t1:v.heap.IsList l1 xs) (ex:xs[k]?=none) (q:∀h',(∀c o,c≠z->c≠i1->c≠i2->v.heap.get? c=some o->h'.get? c=some o)->Q none {v with heap:=h'}):
  wpAny 667 A (pyNext (.ref z)) Q E v:=by
 obtain⟨b,gs⟩:=g.self;have ty:v.TypeIs (.ref z) "zip":=⟨_,gs,rfl⟩;refine ah (ig (wpAny_callSpecial?_slot ty iO (b7 iO ty qx (ab5 hh D g t1 ex λh' e hk he=>?_) (pN _))));obtain⟨o,ho,hc⟩:=he;exact ah (jg ⟨o,ho,hc⟩ o7 (aq (q _ hk)))
variable{prog:Program}
def RR:typeLookup (.type "zip") "__getattr__"=pure none:=by rw[jJ,gE];kernel_rfl
def abI:typeLookup (.type "zip") "keys"=pure none:=by rw[jJ,gE];kernel_rfl
def afk:entryFor table "zip.__getattribute__"=some Builtin.«object.__getattribute__»:=zt (id':="object.__getattribute__") (by kernel_rfl) 53 53 (by kernel_rfl)
def abG{os:OsState}(hx:h.get? a=some (Bt f0 b ti to))(hA:A.handled=none)
  (k:∀h' tk e,Heap.NewAttrErr h h' e 659 "keys"->E (.ref e) ⟨h',g,d,tk,os⟩):
  wpAny 58 A (Builtin.«object.__getattribute__» {[.ref a,.str "keys" u],[]}) Q E ⟨h,g,d,t,os⟩:=by
 have f4:=abI
 repeat (any_goals (first|(assumption)|(wp_step)))
 exact zE hA k (attrMsg_fits 53 (by size_fits))
def abJ{os:OsState}(hx:h.get? a=some (Bt f0 b ti to))(hA:A.handled=none)
  (k:∀h' tk e,Heap.NewAttrErr h h' e 659 "keys"->R (.error (.ref e)) ⟨h',g,d,tk,os⟩):
  codeAny 58 A (.call (.builtin "zip.__getattribute__") {[.ref a,.str "keys" u],[]}) R ⟨h,g,d,t,os⟩:=
 rF F.slot_zip_getattribute.plain afk (F.slot_zip_getattribute.check _ _ _ _ _ _ _ _ (show(⟨h,g,d,t,os⟩:Shared).TypeIs 659 "zip"from⟨_,hx,rfl⟩) (F.args_zip_getattribute_2 _ _) (abG hx hA k))
def afl{os:OsState}(hx:h.get? a=some (Bt f0 b ti to))(hA:A.handled=none)
  (k:∀h' tk e,Heap.NewAttrErr h h' e 659 "keys"->E (.ref e) ⟨h',g,d,tk,os⟩):
  wpAny 58 A (getAttrBy 659 (.str "keys" u) false) Q E ⟨h,g,d,t,os⟩:=by
 have g2:=F.slot_zip_getattribute.lookup;have g3:=F.slot_zip_getattribute.bind 659;have f5:=RR;have f1:=nU
 repeat (any_goals (first|(assumption)|(wp_step)))
 refine abJ hx hA λh' tk e ne=>?_;obtain⟨t',u',he⟩:=ne.there
 repeat (any_goals (first|(assumption)|(wp_step)))
 exact k _ _ _ ne
def abK{os:OsState}(hx:h.get? a=some (Bt f0 b ti to))(hA:A.handled=none)
  (k:∀h' tk e,Heap.NewAttrErr h h' e 659 "keys"->Q none ⟨h',g,d,tk,os⟩):
  wpAny 58 A (getAttr? 659 "keys") Q E ⟨h,g,d,t,os⟩:=by
 have f1:=nU
 repeat (any_goals (first|assumption|(with_reducible refine afl hx hA λh' tk e ne=>?_)|wp_step))
 obtain⟨t',u',he⟩:=ne.there
 repeat (any_goals (first|(assumption)|(wp_step)))
 exact k _ _ _ ne
def abH{l1 l2 d z ti to i1 i2:Addr}{us vs:Aae}{h0:Heap}{pairs:List (Key×Value)}{R:Result->Shared->Prop}(hA:A.handled=none)(D:ZipApart z ti to i1 i2 l1 l2)(m6:h0.get? d=none)(n1:d≠z)(n2:d≠i1)(n3:d≠i2)(n4:d≠ti)
  (nA:h0.IsList l1 us.toArray) (gd:h0.IsList l2 vs.toArray) (hp:Paired 710 us pairs) (hv:vs=pairs.map (·.2)) (hsz:pairs.length<=sizeLine) (g:Array GenState) (dr:Drawn) (os:OsState)
  (k:∀h' tk,(∀b o,b≠z->b≠to->b≠i1->b≠i2->h0.get? b=some o->h'.get? b=some o)->h'.DictOf (bT prog w) d (merged [] pairs)->R (.ok (.ret .none)) ⟨h',g,dr,tk,os⟩):
  ∀(m i:Nat)(h:Heap)(tk:Nat)(T:Addr),us.length -i=m->i<=us.length->(∀b o,b≠z->b≠to->b≠i1->b≠i2->h0.get? b=some o->h.get? b=some o)->T≠z->Zs h z ti to i1 i2 l1 l2 T i->h.DictOf (bT prog w) d (merged [] (pairs.take i))->
   codeAny 58 A (.builtin "dict.update.loop" {[.ref d,.ref z,rawInt i,.none],[]}) R ⟨h,g,dr,tk,os⟩:=by
 intro m;have Zz:∀(h:Heap),(∀b o,b≠z->b≠to->b≠i1->b≠i2->h0.get? b=some o->h.get? b=some o)->h.IsList l1 us.toArray/\h.IsList l2 vs.toArray:=λh kp=>by obtain⟨o1,e1,r1⟩:=nA;obtain⟨o2,e2,r2⟩:=gd;exact{{o1,kp _ _ D.l1z D.l1TO D.l1i1 D.l1i2 e1,r1},{o2,kp _ _ D.l2z D.l2TO D.l2i1 D.l2i2 e2,r2}}
 induction m with
 |zero=>
  intro i h tk T em hi kp nT hz hd;have ei:i=us.length:=by lia
  refine fq sU ?_;refine ah (aaq (show(A.under _).handled=none from hA) D hz (Zz h kp).1 (by rw[ei];simp) λh' hs=>?_);refine ah (aq 666);rw[ei,(bc hp),aS]at hd;obtain⟨o,es,ep,e,r⟩:=hd;exact k h' _ (λb o m1 m2 m3 m4 hb=>hs b o m1 m3 m4 (kp b o m1 m2 m3 m4 hb)) {o,es,ep,hs _ _ n1 n2 n3 e,r}
 |succ m ih=>
  intro i h tk T em hi kp nT hz hd;have bO:i<us.length:=by lia
  obtain⟨x,hx⟩:∃x,us[i]?=some x:={_,ay bO};obtain⟨kv,nB,US⟩:=Paired.at' hp hx;refine fq sU ?_;obtain⟨t1,t2⟩:=Zz h kp;refine ah (aar D nT hz t1 t2 (by simpa using hx) (by simpa using(by rw[hv,aW,nB];rfl)) λh1 bU pr Er=>?_);obtain⟨od,es,ep,ed,rd⟩:=hd;refine ah (cn (ah (yF ?_)));refine ah (hV ⟨_,pr,rfl⟩ ?_);refine ah (dj pr 9 666);have lm:(merged [] (pairs.take i)).length<=sizeLine:=by have e1:=qm [] (pairs.take i);rw[a9]at e1;simp only[jR]at e1;lia
  refine cn (sd US ({od,es,ep,Er _ _ n1 n2 n3 ed,rd}) λh2 hd2 kE=>?_);refine aq {jF _ 53,?_};have st:∀b o,b≠d->h1.get? b=some o->h2.get? b=some o:=λb o n e=>(kE.2 b n).trans e;have Uj:=λb o m1 m2 m3 m4 hb=>st b o (λe=>by rw[e,m6]at hb;cases hb) ((λb o m1 m2 m3 m4 hb=>Er b o m1 m3 m4 (kp b o m1 m2 m3 m4 hb)) b o m1 m2 m3 m4 hb);obtain⟨⟨b,gs⟩,⟨oT,gT⟩,gi,⟨oa,ja,ra⟩,⟨ob,jb,rb⟩⟩:=bU;have bV:Zs h2 z ti to i1 i2 l1 l2 T (i+1):=by
   refine{{b,st _ _ (cM n1) gs},?_,st _ _ (cM n4) gi,{oa,st _ _ (cM n2) ja,ra},{ob,st _ _ (cM n3) jb,rb}};by_cases nd:T=d
   ·obtain⟨o',_,_,e',_⟩:=hd2;rw[nd];exact⟨o',e'⟩
   ·exact{oT,st _ _ nd gT}
  exact ih (i+1) h2 _ T ∅ bO Uj nT bV (by rw[vV [] pairs i kv nB];exact hd2)
def XS{l1 l2 d z ti to i1 i2:Addr}{us vs:Aae}{h0 h:Heap}{tk:Nat}{pairs:List (Key×Value)}{R:Result->Shared->Prop}(hA:A.handled=none)(D:ZipApart z ti to i1 i2 l1 l2)(m6:h0.get? d=none)(n1:d≠z)(n2:d≠i1)(n3:d≠i2)(n4:d≠ti)(n5:d≠to)
  (nA:h0.IsList l1 us.toArray) (gd:h0.IsList l2 vs.toArray) (hp:Paired 710 us pairs) (hv:vs=pairs.map (·.2)) (hsz:pairs.length<=sizeLine) (h1l:1<=us.length) (g:Array GenState) (dr:Drawn) (os:OsState)
  (k:∀h' tk,(∀b o,b≠z->b≠to->b≠i1->b≠i2->h0.get? b=some o->h'.get? b=some o)->h'.DictOf (bT prog w) d (merged [] pairs)->R (.ok (.ret .none)) ⟨h',g,dr,tk,os⟩)
  (kp:∀b o,b≠z->b≠to->b≠i1->b≠i2->h0.get? b=some o->h.get? b=some o) (hz:IsZip h z ti to .none) (hi:IsPair h ti (.ref i1) (.ref i2)) (ho:∃a b,IsPair h to a b) (j1:h.IsListIter i1 l1 0) (j2:h.IsListIter i2 l2 0) (hd:h.DictOf (bT prog w) d []):
   codeAny 58 A (.builtin "dict.update.loop" {[.ref d,.ref z,rawInt 0,.none],[]}) R ⟨h,g,dr,tk,os⟩:=by
 obtain⟨x,hx⟩:∃x,us[0]?=some x:={_,ay ∅};obtain⟨kv,nB,US⟩:=Paired.at' hp hx;have t1:h.IsList l1 us.toArray:=by obtain⟨o1,e1,r1⟩:=nA;exact{o1,kp _ _ D.l1z D.l1TO D.l1i1 D.l1i2 e1,r1}
 have t2:h.IsList l2 vs.toArray:=by obtain⟨o2,e2,r2⟩:=gd;exact{o2,kp _ _ D.l2z D.l2TO D.l2i1 D.l2i2 e2,r2}
 refine fq sU ?_;obtain⟨a,b,ho⟩:=ho;refine ah (wpAny_pyNext_zip_item D hz hi ho j1 j2 t1 t2 (by simpa using hx) (by simpa using(by rw[hv,aW,nB];rfl)) λh1 a1 a2 a3 a4 a5 a6 Er=>?_);obtain⟨od,es,ep,ed,rd⟩:=hd;refine ah (cn (ah (yF ?_)));refine ah (hV ⟨_,a5,rfl⟩ ?_);refine ah (dj a5 9 666);refine cn (sd US ({od,es,ep,Er _ _ n1 n5 n2 n3 ed,rd}) λh2 hd2 kE=>?_);refine aq {jF _ 53,?_};have st:∀b o,b≠d->h1.get? b=some o->h2.get? b=some o:=λb o n e=>(kE.2 b n).trans e;obtain⟨oa,ja,ra⟩:=a3;obtain⟨ob,jb,rb⟩:=a4;have bV:Zs h2 z ti to i1 i2 l1 l2 h.objs.size 1:=by
  refine{{false,st _ _ (cM n1) a1},?_,st _ _ (cM n4) (Er _ _ D.TIz D.TITO D.TIi1 D.TIi2 hi),{oa,st _ _ (cM n2) ja,ra},{ob,st _ _ (cM n3) jb,rb}};by_cases nd:h.objs.size=d
  ·obtain⟨o',_,_,e',_⟩:=hd2;rw[nd];exact⟨o',e'⟩
  ·exact{_,st _ _ nd a5}
 exact abH hA D m6 n1 n2 n3 n4 nA gd hp hv hsz g dr os k (us.length -1) 1 h2 _ h.objs.size rfl ∅ (λb o m1 m2 m3 m4 hb=>st b o (λe=>by rw[e,m6]at hb;cases hb) (Er b o m1 m2 m3 m4 (kp b o m1 m2 m3 m4 hb))) (cu (aY hz)) bV (by rw[vV [] pairs 0 kv nB];exact hd2)
end
section
theorem OF:∀{ks:List Key}{ys:Aam}{us vs:Aae},Vals (ks.map kV) us->Vals ys vs->ks.length=ys.length->∃pairs:List (Key×Value),Paired (λ(u:Value)(p:Key×Value)=>(bT P w).is p.1 u=true) us pairs/\vs=pairs.map (·.2)/\KV (ks.zip ys) pairs/\pairs.length=ks.length
 |[],[],_,_,.nil,.nil,_=>{[],.nil,9,.nil,9}
 |k::ks,y::ys,_,_,.cons r1 t1,.cons (b:=v) r2 t2,h=>by obtain⟨ps,h1,h2,h3,h4⟩:=OF t1 t2 (Nat.succ.inj h);exact{(k,v)::ps,.cons (qd r1) h1,by rw[bq,<-h2],.cons ⟨rfl,r2⟩ h3,cR Nat.succ h4}
end
end L2
namespace K31
open PySem PySem.Spec PyProof.Rows L2 aJ
seal L2.PE L2.PT L2.PW L2.PA L2.PS L2.pX L2.PI L2.PO L2.Kg L2.PG L2.Hc
section
variable{P:Program}{w:World}{K:Frag}{mg:Aab}{base:Heap}
def vj{z:Str}(h:isVal z=true):z.length<=08:=by unfold isVal at h;rw[bP,bP]at h;have:=aT h.2.1;lia
def SJ{z:Str}(h:1<=z.length):(Txt.slice z (some 1) none).cps.toList=z.cps.toList.drop 1:=by
 have e:=slice_from_eq (x:=z) (i:=1) 7 ∅ rfl;rw[e];refine c7 ?_;rw[dE];have:z.cps.toList.length=z.length:=by simp[Str.length]
 lia
def SH(n:Nat)(h:n<=100000):((n:Int)).natAbs.log2<1920:=by
 rw[Int.natAbs_natCast];by_cases h0:n=0
 ·rw[h0];decide
 ·rw[Nat.log2_lt h0];exact fW h 53
def Wn:bZ ["terms","given"] ["terms","given"] (defScope HA):=gC 53
def WW(F:dF K "image" "image" HA f fd)(T:Txt K mg):cK P w K mg base d7 1 f fd ["terms","given"] Ky:=by
 refine F.ok Wn (λ_ _ _ _ h=>by cases h;subst_vars;rfl) 54;obtain⟨t,d,ts,g,rfl,ht,hd,hl,k⟩:=h;refine{_,(aQ (bK (cU eC 9 T.iA 53 (bW (kZ 9 (cV (fs:=["given"]) (fr:=[1])) (iy (pv 0)) (λ_ _ _ _=>(sL (mK hr) (pv 1) (pv 0) (pv 0) Q9))))))),?_};refine{_,9,t,9,{_,aZ.of ht},mN (xs:=ts.map V.str) (λi ys H2=>H2=H/\i<=ts.length/\ys=((ts.take i).map (dq g)).map V.str) 674 {9,aP _,9} ?_ ?_ ?_}
 ·rintro i ys H2 hi ⟨rfl,_,rfl⟩;refine{aZ.of ht,?_};rw[aj,aj,a9];lia
 ·rintro i x ys H2 N hc ⟨rfl,hi,rfl⟩ hN;obtain⟨z,hz,rfl⟩:=iP hc;have bO:=(au.mp hz).1;refine{_,9,d,9,.inl {_,.inl hd},_,9,_,9,_,kW.k (k:=Sum.inr z) hd,?_};have e:(iG (gD g) (Sum.inr z:Key)).getD (.str z)=.str (dq g z):=by rw[Hj];unfold dq;cases Jq g z<;>rfl
  rw[e];refine hN _ _ {9,bO,?_};rw[bj,hz,aH,aH];rfl
 ·rintro ys H2 ⟨rfl,_,rfl⟩ l pC;rw[aj,aS];exact{l,_,9,.inl {bf.of av,λp hp=>k p _ ((aA pC _).trans (aA hp _)) av}}
def fT(k:Nat):Str:=⟨(110::(Nat.toDigits 10 k).map Char.toNat).toArray⟩
def IS(k:Nat):Str:=⟨(63::110::(Nat.toDigits 10 k).map Char.toNat).toArray⟩
def Zc(k:Nat):("n":Str)++Str.ofString (toString (k:Int))=fT k:=by rw[show(k:Int)=Int.ofNat k from rfl,text_ofNat];show(⟨("n":Str).cps++_⟩:Str)=_;rw[show("n":Str).cps=#[110] by decide+kernel];unfold fT;simp
def Qr(k:Nat):("?":Str)++fT k=IS k:=by show(⟨("?":Str).cps++_⟩:Str)=_;rw[show("?":Str).cps=#[63] by decide+kernel];unfold IS fT;simp
def abQ:((List.range 10).all λd=>sgn (48+d))=true:=by decide+kernel
def aeV:sgn 110=true:=by decide+kernel
def RT{k c:Nat}(h:c∈(Nat.toDigits 10 k).map Char.toNat):sgn c=true/\c<128:=by obtain⟨ch,Bb,rfl⟩:=aE.mp h;have r2:=digit_range (Nat.isDigit_of_mem_toDigits (b:=10) 7 7 Bb);have e:=bN.mp abQ (ch.toNat -48) (cE.mpr ∅);rw[show 48+(ch.toNat -48)=ch.toNat by lia]at e;exact{e,8}
def TU{k:Nat}(h:k<600):(fT k).length<=4:=by show((110::(Nat.toDigits 10 k).map Char.toNat).toArray).size<=4;rw[aR,bF,aj];have:=digits10_le (k:=3) (n:=k) 7 ∅;lia
def Mi{k:Nat}(h:k<600):isVal (fT k)=true:=by
 have l1:=TU h;have l0:1<=(fT k).length:=by show 1<=((110::(Nat.toDigits 10 k).map Char.toNat).toArray).size;rw[aR,bF];lia
 unfold isVal;rw[bg ∅,bg ∅,iV,iV,bN];intro b hb;obtain⟨c,hc,rfl⟩:=aE.mp hb;rcases aN.mp hc with rfl|hc
 ·exact aeV
 ·exact(RT hc).1
def ac9{i j:Nat}(h:fT i=fT j):i=j:=by
 have h1:(fT i).cps.toList=(fT j).cps.toList:=by rw[h]
 unfold fT at h1;simp only[nL,true_and]at h1;have h2:=AE i;rw[h1,AE]at h2;exact h2.symm
def KW(k:Nat):Txt.slice (IS k) (some 1) none=fT k:=by
 have e:(Txt.slice (IS k) (some 1) none).cps=(fT k).cps:=by apply Array.ext';rw[(SJ (z:=IS k) (by show 1<=((63::110::(Nat.toDigits 10 k).map Char.toNat).toArray).size;rw[aR,bF];lia))];rfl
 cases hs:Txt.slice (IS k) (some 1) none with
 |mk c=>rw[hs]at e;cases e;rfl
def aca{k:Nat}(h:k<600):bo (IS k)=true:=by unfold bo;rw[KW,Mi h,Bj,vx rfl];decide+kernel
def Y5{z:Str}(h:∀c∈z.cps.toList,c<128):PyData.strOk z=true:=by
 unfold PyData.strOk;rw[<-Array.all_toList,bN]
 exactλc hc=>bg (by have:=h c hc;lia)
def aeA(k:Nat):PyData.strOk (IS k)=true:=Y5 λc hc=>by
 rcases aN.mp hc with rfl|hc
 ·decide
 ·rcases aN.mp hc with rfl|hc
  ·decide
  ·exact(RT hc).2
structure ahq(k:Nat):Prop where
 v:isVal (fT k)=true
 l:(fT k).length<=4
 u:bo ("?"++fT k)=true
 us:PyData.strOk ("?"++fT k)=true
 c:Txt.slice ("?"++fT k) (some 1) none=fT k
def Zb{k:Nat}(h:k<600):ahq k:={Mi h,TU h,Qr _▸aca h,Qr _▸aeA k,Qr _▸KW k}
def TV{i j:Nat}(hi:i<600)(hj:j<600)(h:fT i=fT j):i=j:=ac9 h
theorem HN{α β:Type}{f:α->β}:∀{l:List α},(∀i∈l,∀j∈l,f i=f j->i=j)->l.Nodup->(l.map f).Nodup
 |[],_,_=>.nil
 |a::l,h,nd=>by rw[dc]at nd;rw[bq,dc];refine{λe=>?_,HN (λi hi j hj=>h i (aG _ hi) j (aG _ hj)) nd.2};obtain⟨b,hb,e⟩:=aE.mp e;exact nd.1 (h b (aG _ hb) a aF e▸hb)
theorem TX:∀{s t:Aaf},s.Nodup->(∀z∈s,z∈t)->s.length<=t.length
 |[],_,_,_=>aP _
 |z::s,t,hn,hs=>by
  have hz:=hs z aF;rw[dc]at hn;have h1:=TX (t:=t.erase z) hn.2 λy hy=>by exact(AL (λe=>hn.1 (by rw[<-e];exact hy))).mpr (hs y (aG _ hy))
  rw[wI hz]at h1;have h2:=yB hz;show s.length+1<=t.length;lia
inductive SA(vs:Aam)(H:Hp)(Q:VK)(_x3:XK):Prop
 |mk (n:Int) (tl:Addr) (tk:Aaf) (_:vs=[.int n,.ref tl]) (_:H tl=some (.lst (tk.map V.str))) (_:0<=n) (_:n+tk.length<=500) (_:∀(r:Addr)(ks:List Nat)(H':Hp),aK H H'->H r=none->H' r=some (.lst ((ks.map fT).map V.str))->(ks.length:Int)=n->ks.Nodup->(∀k∈ks,k<600/\fT k∉tk)->Q (.ref r) H')
def mU:bZ ["count","taken","found","number","value"] ["count","taken"] (defScope vH):=gC 53
def nnS{k:Nat}(h:k<600):(Str.ofString (toString (k:Int))).length<=100:=by have h1:=(Zb h).l;rw[<-Zc,Str.length_append]at h1;lia
def Kn{f:Addr}{fd:FuncData}(F:dF K "new_values" "new_values" vH f fd)(T:Txt K mg):cK P w K mg base d7 1 f fd ["count","taken"] SA:=by
 refine F.ok mU (λ_ _ _ _ h=>by cases h;subst_vars;rfl) 54;obtain⟨n,tl,tk,rfl,htl,n0,nt,k⟩:=h;refine{_,(aB (dM 2 mU (dR iz)) (aB (dM 3 mU aO) (aB (WC bE (bY xo (bM c6 9 T.eJ bG (bW (pv 2))) (pv 0) (cB _)) (aB (dM 4 mU (c9 ve cT (cU VH 9 T.Gd 53 (bW (pv 3))))) (aB (dg (bY og (pv 4) (pv 1) 650) (aQ (fR (iL bI gN gM qG (pv 2) (bW (pv 4))))) cy) (aQ (acS (i:=3) mU.nd 9 (Or.inl 9) aO adu))))) (aQ (bK (pv 2)))))),?_}
 refine{399,λfl hfl=>?_};refine{λm Z H2=>∃(num:Nat)(x4:Aan)(ks sk:List Nat),m=600 -num/\num<600/\Z=[some (.int n),some (.ref tl),some (.ref fl),some (.int (num:Int)),x4]/\aK H H2/\H2 fl=some (.lst ((ks.map fT).map V.str))/\(ks.length:Int)<=n/\ks.length+sk.length=num/\ks.Nodup/\sk.Nodup/\(∀i∈ks,i<num/\fT i∉tk)/\(∀i∈sk,i<num/\fT i∈tk),{_,0,none,[],[],9,7,9,aA hfl _,av,by show(0:Int)<=n;exact n0,9,.nil,.nil,(λi h=>by cases h),λi h=>by cases h},?_};rintro m Z H2 ⟨num,x4,ks,sk,rfl,Rp,rfl,sm,M3,hkn,hks,Ml,qF,Cg,xv⟩;have lk:((ks.map fT).map V.str).length=ks.length:=by rw[aj,aj]
 have lsk:sk.length<=tk.length:=by
  have h1:(sk.map fT).Nodup:=by exact HN (λi hi j hj e=>TV (dP (xv i hi).1 Rp) (dP (xv j hj).1 Rp) e) qF
  have:=TX h1 λz hz=>by obtain⟨i,hi,rfl⟩:=aE.mp hz;exact(xv i hi).2
  rw[aj]at this;exact this
 refine{_,9,_,_,9,.inl {_,bf.of M3,9},_,9,_,_,9,9,_,9,?_};refine dU 668 668
 ·have c:=aT c;refine{λσ' H'=>∃(Ac:Nat)(x4':Aan)(B9 SM:List Nat),Ac=num+1/\Ac<600/\σ'=[some (.int n),some (.ref tl),some (.ref fl),some (.int (Ac:Int)),x4']/\aK H H'/\H' fl=some (.lst ((B9.map fT).map V.str))/\(B9.length:Int)<=n/\B9.length+SM.length=Ac/\B9.Nodup/\SM.Nodup/\(∀i∈B9,i<Ac/\fT i∉tk)/\(∀i∈SM,i<Ac/\fT i∈tk),λσ' H' ⟨Ac,x4',B9,SM,e,r⟩=>{600 -Ac,8,Ac,x4',B9,SM,9,r},?_};have hb:=Zb Rp;have ln:=nnS Rp;have e1:("n":Str).length=1:=by decide+kernel
  have ls:=bt (n:=1+(Str.ofString (toString (num:Int))).length) ∅;refine{_,9,(num:Int),9,SH num ∅,_,_,9,9,8,?_};rw[Zc];refine{_,9,_,9,tl,_,9,.inl (bf.of (sm _ _ htl)),9,zo _,_,9,?_};rw[vm];refine dU 693 693
  ·have c1:fT num∉tk:=by simpa using c1
   refine{_,9,.inl {9,_,bf.of M3},_,9,_,_,_,9,9,M3,by rw[lk];exact bt ∅,?_};refine{_,9,_,_,9,9,?_};refine{num+1,_,ks++[num],sk,9,by rw[lk]at c;lia,9,λb u e=>?_,?_,?_,?_,?_,qF,λi hi=>?_,λi hi=>{eU (xv i hi).1,(xv i hi).2}}
   ·rw[aL (bC e hfl)];exact sm _ _ e
   ·rw[av,aH,aH];rfl
   ·rw[aD];show((ks.length+1:Nat):Int)<=n;lia
   ·rw[aD];show ks.length+1+sk.length=num+1;lia
   ·rw[fP];refine{Ml,59,λa ha b hb e=>?_};have h1:=(Cg a ha).1;rw[aC.mp hb]at e;lia
   ·rcases aV.mp hi with hi|hi
    ·exact{eU (Cg i hi).1,(Cg i hi).2}
    ·rw[aC.mp hi];exact{eF _,c1}
  ·have c1:fT num∈tk:=by simpa using c1
   refine{_,9,_,_,9,9,?_};refine{num+1,_,ks,sk++[num],9,by rw[lk]at c;lia,9,sm,M3,hkn,?_,Ml,?_,λi hi=>{eU (Cg i hi).1,(Cg i hi).2},λi hi=>?_}
   ·rw[aD];show ks.length+(sk.length+1)=num+1;lia
   ·rw[fP];refine{qF,59,λa ha b hb e=>?_};have h1:=(xv a ha).1;rw[aC.mp hb]at e;lia
   ·rcases aV.mp hi with hi|hi
    ·exact{eU (xv i hi).1,(xv i hi).2}
    ·rw[aC.mp hi];exact{eF _,c1}
 ·have c:¬((((ks.map fT).map V.str).length:Nat):Int)<n:=λh=>c (bg h);refine{_,9,k fl ks H2 sm hfl M3 ∅ Ml λi hi=>⟨by have:=(Cg i hi).1;lia,(Cg i hi).2⟩}
inductive vA(vs:Aam)(H:Hp)(Q:VK)(_x3:XK):Prop
 |mk (v:V) (hz:Aaf) (bb:Hw) (_:vs=[v]) (_:QW H v hz bb) (_:∀(r:Addr)(H':Hp),aK H H'->H r=none->H' r=some (.lst ((hz++bD bb).map V.str))->Q (.ref r) H')
def xR:bZ ["question","found","atom"] ["question"] (defScope zP):=gC 53
def Od{f:Addr}{fd:FuncData}(F:dF K "terms_of" "terms_of" zP f fd)(T:Txt K mg):cK P w K mg base d7 1 f fd ["question"] vA:=by
 refine F.ok xR (λ_ _ _ _ h=>by cases h;subst_vars;rfl) 54;obtain⟨v,hz,bb,rfl,⟨⟨q,hd,aa,cW,rfl,hq,Cj,m7,fV⟩,l1,l8,good,h4,hh⟩,k⟩:=h;refine{_,(aB (dM 1 xR (cU kH 9 T.pT 53 (bW (bH b4 (pv 0) aO (λ_ _=>9))))) (aB (dJ bE 9 (iy (bH b4 (pv 0) aO (λ_ _=>9))) (gg 2 xR) (aQ (fR (iL bI dO dN rm (pv 1) (bW (bH b4 (pv 2) aO (λ_ _=>9))))))) (aQ (bK (pv 1))))),?_}
 refine{_,9,_,_,_,_,9,9,aZ.of hq,9,hd,_,9,.inr (aZ.of Cj),λl hl=>?_};refine{_,rfl,_,_,_,_,rfl,rfl,aZ.of (aA hl _ _ _ hq),rfl,aa,rfl,{cW,aZ.of (aA hl _ _ _ m7)},qJ
  (λi Z H2=>∃(x2:Aan),Z=[some (.ref q),some 720,x2]/\aK H H2/\H2 l=some (.lst ((hz++bD 715).map V.str))) {none,9,aA hl _,by rw[av];show some (HO.lst _)=some (HO.lst ((hz++[]).map V.str));rw[cL]} (λi Z H2 _ hq=>by(obtain⟨_,_,sm,_⟩:=hq;exact aZ.of (sm _ _ m7))) ?_ ?_}
 ·rintro i x Z H2 hx ⟨x2,rfl,sm,gd⟩;obtain⟨ta,ht,p,t,rfl,hp,mz⟩:=Paired.at fV hx;have g:=good ta (az ht);have lf:=good.len i;refine{_,9,.inl {9,_,bf.of gd},_,9,_,_,_,_,9,9,aZ.of (sm _ _ hp),9,l,t,_,_,9,9,gd,aZ.of (sm _ _ mz),?_,?_}
  ·rw[aj,aj,aD];exact bB (bt ∅)
  ·refine{_,9,λb u e=>?_,?_}
   ·rw[aL (bC e hl)];exact sm _ _ e
   ·rw[av,mL ht,<-dG,aH (l₁:=hz++bD 715)]
 ·rintro Z H2 ⟨x2,rfl,sm,gd⟩;rw[(bc fV),aS]at gd;exact{_,9,k l H2 sm hl gd}
structure En where
 nm:Str
 ad:Addr
 ys:Aam
 rows:Hz
def fb(e:En):Key×V:=(Sum.inr e.nm,.ref e.ad)
def Qm(r:Aaf):Prop:=1<=r.length/\r.length<=4
end
def IL(K:Frag)(H:Hp)(e:En):Prop:=H e.ad=some (.lst e.ys)/\eE K H e.ys e.rows/\(∀r∈e.rows,Qm r)/\e.rows.length<=60
def IF(K:Frag)(H:Hp)(d:Addr)(es:List En):Prop:=H d=some (.dK (es.map fb))/\(es.map (·.nm)).Nodup/\es.length<=60/\∀e∈es,IL K H e
section
variable{K:Frag}{H H':Hp}{d:Addr}
def ac8(es:List En):(es.map fb).map (·.1)=(es.map (·.nm)).map (Sum.inr:Str->Key):=by rw[b5,b5];rfl
def IL.keep(h:IL K H e)(x:aK H H'):IL K H' e:={x _ _ h.1,ji h.2.1 (cN.same x),h.2.2}
def IF.keep(h:IF K H d es)(x:aK H H'):IF K H' d es:={x _ _ h.1,h.2.1,h.2.2.1,λe he=>(h.2.2.2 e he).keep x}
theorem kX:∀{es:List En},(es.map (·.nm)).Nodup->∀{e:En},e∈es->iG (es.map fb) (Sum.inr e.nm)=some (.ref e.ad)
 |[],_,e,h=>by cases h
 |a::r,nd,e,h=>by
  rw[bq,dc]at nd;rcases aN.mp h with rfl|h
  ·exact sD rfl
  ·have ne:¬(fb a).1=Sum.inr e.nm:=λq=>nd.1 (by
    have:a.nm=e.nm:=by injection q
    rw[this];exact bS h)
   rw[bq,qe ne];exact kX nd.2 h
theorem KQ:∀{es:List En}{z:Str},z∉es.map (·.nm)->iG (es.map fb) (Sum.inr z:Key)=none
 |[],_,_=>rfl
 |a::r,z,h=>by rw[bq,aN]at h;rw[bq,qe (λq=>h (.inl (by injection q with q;exact q.symm)))];exact KQ λq=>h (.inr q)
def iX(es:List En)(z:Str):Hz:=match es.find? (λe=>decide (e.nm=z))with
 |some e=>e.rows
 |none=>[]
theorem sH:∀{es:List En},(es.map (·.nm)).Nodup->∀{e:En},e∈es->iX es e.nm=e.rows
 |[],_,e,h=>by cases h
 |a::r,nd,e,h=>by
  rw[bq,dc]at nd;unfold iX;rcases aN.mp h with rfl|h
  ·rw[gm (p:=λx:En=>decide (x.nm=e.nm)) (bg 9)]
  ·have ne:¬decide (a.nm=e.nm)=true:=λq=>nd.1 (by
    rw[aT q];exact bS h)
   rw[gn (p:=λx:En=>decide (x.nm=e.nm)) ne];exact sH nd.2 h
end
section
variable{P:Program}{w:World}{K:Frag}{mg:Aab}{base:Heap}
inductive Lj(K:Frag)(vs:Aam)(H:Hp)(Q:VK)(_x3:XK):Prop
 |mk (d:Addr) (es:List En) (e:En) (_:vs=[.ref d,.str e.nm]) (_:IF K H d es) (_:e∈es) (_:∀(l:Addr)(zs:Aam)(H':Hp),aK H H'->H l=none->H' l=some (.lst zs)->eE K H' zs (iE e.rows)->Q (.ref l) H')
def QG:bZ ["tables","name"] ["tables","name"] (defScope BI):=gC 53
def fE(h:eE K H ys rows)(s:aK H H'):eE K H' ys rows:=ji h (cN.same s)
def Lf(q:aZ K H a xs)(s:aK H H'):aZ K H' a xs:=by
 rcases q with(q|⟨o,q⟩)|q
 ·exact .inl (.inl (s _ _ q))
 ·exact .inl (.inr {o,s _ _ q})
 ·exact .inr q
def QS(F:dF K "rows_of" "rows_of" BI f fd)(T:Txt K mg):cK P w K mg base d7 1 f fd ["tables","name"] (Lj K):=by
 refine F.ok QG (λ_ _ _ _ h=>by cases h;subst_vars;rfl) 54;obtain⟨d,es,e,rfl,hT,he,k⟩:=h;refine{_,(aQ (bK (bM (zu hr.hd) 9 T.sM 53 (bW (cU (JZ hr.hd hr.units) 9 T.Zg 53 (bW (sL (mK hr) (pv 0) (pv 1) (dR iz) Zk))))))),?_};obtain⟨hd,hn,hl,ho⟩:=id hT;obtain⟨ha,hR,hg,hlr⟩:=ho e he;refine{_,9,d,9,.inl {_,.inl hd},_,9,399,λl0 sf=>?_};have FX:aK H (upd H l0 661):=aA sf _;generalize (upd H l0 661)=H0 at FX⊢;refine{_,kW.k (k:=Sum.inr e.nm) (FX _ _ hd),?_};rw[kX hn he];refine{e.ad,e.ys,e.rows,9,bf.of (FX _ _ ha),fE hR FX,8,λa us ha0 nu mu lu MO=>?_};have xi:aK H0 (upd H0 a (.ext (uG P w a us))):=aA ha0 _;refine{a,us,e.ys,9,av,λx hx=>{Lf (MO x hx).1 xi,(MO x hx).2},λ_ x hx=>?_,8,λl zs hl kQ _=>?_}
 ·have:=hg x.1 ((mu x.1).mp (bS hx));intro q;have:=this.1;rw[q]at this;cases this
 ·replace hl:upd H0 a (.ext (uG P w a us)) l=none:=hl
  have gX:aK (upd H0 a (.ext (uG P w a us))) (upd (upd H0 a (.ext (uG P w a us))) l 690):=aA hl _;rw[EG nu mu]at kQ;refine k l zs _ (FX.trans (xi.trans gX)) ?_ av (fE kQ gX);cases q:H l with
  |none=>rfl
  |some o=>
   rw[xi _ _ (FX _ _ q)]at hl;cases hl
structure Ds(P:Program)(w:World)(K:Frag)(mg:Aab)(base:Heap):Prop where
 rows_of:cq P w K mg base 1 "rows_of" ["tables","name"] (Lj K)
def Found(K:Frag)(H H':Hp)(p:Addr)(es fs:List En):Prop:=H' p=some 654/\H p=none/\fs.map (·.nm)=(fk (es.map (·.nm))).filter (λz=>!(iX es z).isEmpty)/\(fs.map (·.ad)).Nodup/\
 ∀e∈fs,H e.ad=none/\e.ad≠p/\H' e.ad=some (.lst e.ys)/\eE K H' e.ys e.rows/\e.rows=iE (iX es e.nm)
inductive Li(K:Frag)(vs:Aam)(H:Hp)(Q:VK)(_x3:XK):Prop
 |mk (d:Addr) (es:List En) (_:vs=[.ref d]) (_:IF K H d es) (_:∀(p:Addr)(fs:List En)(H':Hp),aK H H'->Found K H H' p es fs->Q (.ref p) H')
def mH:bZ ["tables","told","name","rows"] ["tables"] (defScope qY):=gC 53
def D7(rows:Hz):(iE rows).isEmpty=rows.isEmpty:=by
 cases rows with
 |nil=>
  cases h:iE []with
  |nil=>rfl
  |cons b r=>
   have:b∈iE []:=h▸aF;cases(tY b []).mp this
 |cons a r=>
  have:a∈iE (a::r):=(tY a _).mpr aF;cases h:iE (a::r)with
  |nil=>rw[h]at this;cases this
  |cons _ _=>rfl
def E4{f:Addr}{fd:FuncData}(F:dF K "sorted_tables" "sorted_tables" qY f fd)(T:Txt K mg)(D:Ds P w K mg base):cK P w K mg base d7 2 f fd ["tables"] (Li K):=by
 refine F.ok mH (λ_ _ _ _ h=>by cases h;subst_vars;rfl) 54;obtain⟨d,es,rfl,hT,k⟩:=h;refine{_,(aB (dM 1 mH jm) (aB (dJ bE 9 (dI (bM (CG hr.hd) 9 T.sM 53 714)) (gg 2 mH) (aB (dM 3 mH (cl D.rows_of hr (cw (pv 0) (pv 2)))) (aQ (dg (WA (pv 3) (λ_=>9)) (aQ (yQ (mK hr) (pv 1) (pv 2) (pv 3) 9)) cy)))) (aQ (bK (pv 1))))),?_}
 obtain⟨hd,hn,hl,ho⟩:=id hT;intro p hp;have FX:aK H (upd H p 655):=aA hp _;have mZ:upd H p 655 p=some 655:=av;refine{_,9,d,es.map fb,es.map (·.nm),9,FX _ _ hd,ac8 es,by rw[aj];lia,λl sf=>?_};have nlp:=bC mZ sf;have ps:=ij (es.map (·.nm));refine{l,rfl,{_,bf.of av},gL (xs:=(fk (es.map (·.nm))).map V.str)
  (λi Z H2=>∃(x2 x3:Aan)(fs:List En),Z=[some 705,some 676,x2,x3]/\aK H H2/\H2 l=some (.lst ((fk (es.map (·.nm))).map V.str))/\H2 p=some 654/\fs.map (·.nm)=((fk (es.map (·.nm))).take i).filter (λz=>!(iX es z).isEmpty)/\(fs.map (·.ad)).Nodup/\
   ∀e∈fs,H e.ad=none/\e.ad≠p/\H2 e.ad=some (.lst e.ys)/\eE K H2 e.ys e.rows/\e.rows=iE (iX es e.nm)) ?_ ?_ ?_ ?_}
 ·refine{none,none,[],9,(FX.trans (aA sf _)),av,?_,9,eB,λe h=>by cases h};rw[aL nlp];exact mZ
 ·rintro i Z H2 hi ⟨x2,x3,fs,rfl,gX,gd,_⟩;exact bf.of gd
 ·rintro i x Z H2 hx ⟨x2,x3,fs,rfl,gX,gd,ir,M4,Zf,Ew⟩;obtain⟨z,hz,rfl⟩:=br.mp (by rw[<-aW];exact hx);obtain⟨e,he,rfl⟩:=aE.mp (ps.mem_iff.mp (az hz));have er:=sH hn he;refine{_,9,_,9,d,es,e,9,hT.keep gX,he,λl3 zs H3 qB t7 adS JA=>?_};have gh:=qB _ _ ir;have keep:∀e∈fs,H e.ad=none/\e.ad≠p/\H3 e.ad=some (.lst e.ys)/\eE K H3 e.ys e.rows/\e.rows=iE (iX es e.nm):=λe' h'=>by obtain⟨q1,q2,q3,q4,q5⟩:=Ew e' h';exact{q1,q2,qB _ _ q3,fE q4 qB,q5}
  have ft:=yi (g:=λz=>!(iX es z).isEmpty) hz;have lz:zs.isEmpty=(iX es e.nm).isEmpty:=by rw[er,<-D7];have:=JA.length;cases zs<;>cases h:iE e.rows<;>simp_all
  refine{_,9,!zs.isEmpty,.inl {zs,bf.of adS,9},?_};rw[lz];refine dU 668 668
  ·have l3n:H l3=none:=by
    cases q:H l3 with
    |none=>rfl
    |some o=>
     rw[gX _ _ q]at t7;cases t7
   have n3p:l3≠p:=λq=>by rw[q,ir]at t7;cases t7
   have nm:e.nm∉fs.map (·.nm):=λq=>by
    rw[M4]at q;have:=(cX.mp q).1;obtain⟨j,hj⟩:=eP.mp this;rw[C3]at hj;split at hj
    next lt=>
     have li:=(au.mp hz).1;have:=(List.getElem?_inj li (ps.nodup_iff.mpr hn)).mp (hz.trans hj.symm);lia
    next=>cases hj
   have ek:putK 657 (Sum.inr e.nm) (V.ref l3)=(fs++[En.mk e.nm l3 zs (iE e.rows)]).map fb:=by rw[EW _ (KQ nm),aH];rfl
   have lfs:fs.length<=1000:=by
    have h1:fs.length=(fs.map (·.nm)).length:=(aj _).symm;rw[M4]at h1;have h2:=de (λz=>!(iX es z).isEmpty) ((fk (es.map (·.nm))).take i);have h3:((fk (es.map (·.nm))).take i).length<=(fk (es.map (·.nm))).length:=a9▸Nat.min_le_right _ _;have h4:(fk (es.map (·.nm))).length=es.length:=by rw[ps.length_eq,aj]
    lia
   refine{_,9,_,9,_,9,p,_,9,.inl {_,Sum.inr e.nm,gh,9,by rw[aj];exact bt lfs,9},?_};rw[ek];have uP:aK H (upd H3 p (.dK ((fs++[En.mk e.nm l3 zs (iE e.rows)]).map fb))):=λb u q=>by rw[aL (bC q hp)];exact qB _ _ (gX _ _ q)
   have tk:∀{ys:Aam}{rows:Hz},eE K H3 ys rows->eE K (upd H3 p (.dK ((fs++[En.mk e.nm l3 zs (iE e.rows)]).map fb))) ys rows:=λh=>ji h (cN.upd (vS gh));refine{_,_,fs++[En.mk e.nm l3 zs (iE e.rows)],9,uP,?_,av,?_,?_,λe' h'=>?_}
   ·rw[aL nlp.symm];exact qB _ _ gd
   ·rw[aH,M4,ft,aM c];rfl
   ·rw[aH];refine fP.mpr {Zf,59,λa ha b hb=>?_};rw[oH,aC]at hb;obtain⟨e',h',rfl⟩:=aE.mp ha;rw[hb];intro q;have:=(Ew e' h').2.2.1;rw[q]at this;rw[this]at t7;cases t7
   ·rcases aV.mp h' with h'|h'
    ·obtain⟨q1,q2,q3,q4,q5⟩:=keep e' h';exact{q1,q2,aL q2▸q3,tk q4,q5}
    ·rw[aC.mp h'];exact{l3n,n3p,aL n3p▸adS,tk JA,by rw[er]}
  ·refine{_,_,fs,9,gX.trans qB,qB _ _ gd,gh,?_,Zf,keep};rw[ft,aI c,cL];exact M4
 ·rintro Z H2 ⟨x2,x3,fs,rfl,gX,gd,ir,M4,Zf,Ew⟩;rw[aj,aS]at M4;exact{_,9,k p fs H2 gX ⟨ir,hp,M4,Zf,Ew⟩}
structure Ds2(P:Program)(w:World)(K:Frag)(mg:Aab)(base:Heap):Prop extends Ds P w K mg base where
 sorted_tables:cq P w K mg base 2 "sorted_tables" ["tables"] (Li K)
def jz(rws:Hw)(z:Str):Hz:=(rws.filter λa=>decide (a.1=z)).map (·.2)
structure Under(K:Frag)(H0 H:Hp)(d:Addr)(es:List En)(rws:Hw):Prop where
 tb:IF K H d es
 d0:H0 d=none
 ad:(es.map (·.ad)).Nodup
 own:∀e∈es,H0 e.ad=none/\e.ad≠d
 rows:∀e∈es,e.rows=jz rws e.nm
 all:∀a∈rws,a.1∈es.map (·.nm)
 ne:∀e∈es,e.rows≠[]
 le:es.length<=rws.length
structure Told(K:Frag)(H H':Hp)(p:Addr)(rws:Hw)(fs:List En):Prop where
 at_:H' p=some 654
 p0:H p=none
 nm:(fs.map (·.nm)).Nodup
 ad:(fs.map (·.ad)).Nodup
 en:∀e∈fs,H e.ad=none/\e.ad≠p/\H' e.ad=some (.lst e.ys)/\eE K H' e.ys e.rows/\e.rows=iE (jz rws e.nm)/\e.rows≠[]
 all:∀a∈rws,a.1∈fs.map (·.nm)
 sub:∀e∈fs,∃a∈rws,a.1=e.nm
 len:fs.length<=60
inductive Lh(K:Frag)(vs:Aam)(H:Hp)(Q:VK)(_x3:XK):Prop
 |mk (l:Addr) (ys:Aam) (rws:Hw) (_:vs=[.ref l]) (_:bf K H l ys) (_:kK K H ys rws) (_:rws.length<=60) (_:(∀a∈rws,Qm a.2)) (_:∀p fs H',aK H H'->Told K H H' p rws fs->Q (.ref p) H')
def qV:bZ ["atoms","tables","name","row"] ["atoms"] (defScope xU):=gC 53
def F3{rws:Hw}{z:Str}:(jz rws z).length<=rws.length:=by unfold jz;rw[aj];exact de _ _
def ya{rws:Hw}{a:Str×Aaf}{z:Str}:jz (rws++[a]) z=jz rws z++if a.1=z then[a.2]else[]:=by
 unfold jz;rw[eA,aH,cS,rV];by_cases h:a.1=z
 ·rw[aM (bg h),aM h];rfl
 ·rw[aI (λq=>h (aT q)),aI h];rfl
def Ge{rws:Hw}{z:Str}{r:Aaf}:r∈jz rws z↔(z,r)∈rws:=by
 unfold jz;rw[aE];constructor
 ·rintro⟨a,ha,rfl⟩;obtain⟨h1,h2⟩:=cX.mp ha;rw[<-aT h2];exact h1
 ·intro h;exact{_,cX.mpr {h,bg rfl},9}
def B3(h:H a=some (.lst l)):vh H a:=λxs q=>by rcases q with q|⟨o,q⟩<;>rw[h]at q<;>cases q
theorem EF:∀{es:List En}{z:Str}{v:V},iG (es.map fb) (Sum.inr z:Key)=some v->∃e∈es,e.nm=z/\v=.ref e.ad
 |[],_,_,h=>by cases h
 |e::r,z,v,h=>by
  by_cases c:e.nm=z
  ·rw[bq,sD (show(fb e).1=Sum.inr z by rw[<-c];rfl)]at h;exact{e,aF,c,(bR h).symm}
  ·rw[bq,qe (λq=>c (by injection q))]at h;obtain⟨e',h1,h2⟩:=EF h;exact{e',aG _ h1,h2}
theorem Ia{α β:Type}{f:α->β}:∀{l:List α},(l.map f).Nodup->∀{x y:α},x∈l->y∈l->f x=f y->x=y
 |[],_,x,_,h,_,_=>by cases h
 |a::l,nd,x,y,hx,hy,e=>by
  rw[bq,dc]at nd;rcases aN.mp hx with h1|h1
  ·rcases aN.mp hy with h2|h2
   ·rw[h1,h2]
   ·exact absurd (by rw[<-h1,e];exact bS h2) nd.1
  ·rcases aN.mp hy with h2|h2
   ·exact absurd (by rw[<-h2,<-e];exact bS h1) nd.1
   ·exact Ia nd.2 h1 h2 e
def aep{es:List En}(nd:(es.map (·.ad)).Nodup){x y:En}(hx:x∈es)(hy:y∈es)(e:x.ad=y.ad):x=y:=Ia nd hx hy e
def aec{es:List En}(nd:(es.map (·.nm)).Nodup){x y:En}(hx:x∈es)(hy:y∈es)(e:x.nm=y.nm):x=y:=Ia nd hx hy e
def L9{f:Addr}{fd:FuncData}(F:dF K "tables_of" "tables_of" xU f fd)(T:Txt K mg)(D:Ds2 P w K mg base):cK P w K mg base d7 3 f fd ["atoms"] (Lh K):=by
 refine F.ok qV (λ_ _ _ _ h=>by cases h;subst_vars;rfl) 54;obtain⟨l,ys,rws,rfl,hl,kD,lr,gr,k⟩:=h;refine{_,(aB (dM 1 qV jm) (aB (dJ bE 9 (dI (pv 0)) (jA 9 (cj (gg 2 qV) (cj (gg 3 qV) fY))) (aQ (fR (iL bI gN gM qG (iL eZ gS mf Jm (pv 1) (cw (pv 2) (dR iz))) (bW (pv 3)))))) (aQ (bK (cl D.sorted_tables hr 722))))),?_}
 refineλd hd=>?_
 have s1:aK H (upd H d 655):=aA hd _;have hd1:upd H d 655 d=some 655:=av;refine{_,rfl,l,rfl,{_,iZ hl s1},gL (xs:=ys) (λi Z H2=>∃(x2 x3:Aan)(es:List En),Z=[some 720,some 705,x2,x3]/\i<=rws.length/\aK H H2/\Under K H H2 d es (rws.take i))
  {_,_,[],9,aP _,s1,{hd1,eB,aP _,λe h=>by cases h},hd,eB,λe h=>(by cases h),λe h=>(by cases h),λa h=>(by simp at h),λe h=>(by cases h),aP _} ?_ ?_ ?_}
 ·rintro i Z H2 hi ⟨_,_,_,rfl,_,s2,_⟩;exact iZ hl s2
 ·rintro i x Z H2 hx ⟨_,_,es,rfl,hi,s2,un⟩;obtain⟨a,ha,Ce⟩:=Paired.at' kD hx;have bO:=(au.mp ha).1;obtain⟨ab,ac,rfl,v8,qI⟩:=Ce.same s2;refine{ab,_,9,v8,9,_,_,9,_,_,9,9,?_};obtain⟨U0,ZK,hlE,ZJ⟩:=id un.tb;have ga:=gr a (az ha);have e1:rws.take (i+1)=rws.take i++[a]:=by rw[bj,ha];rfl
  have lti:(rws.take i).length=i:=by rw[a9];lia
  refine{_,9,.inr (.inr (.inl {9,.inl ⟨_,U0⟩})),_,9,399,λl0 sf=>?_};have s3:aK H2 (upd H2 l0 661):=aA sf _;have t7:upd H2 l0 661 l0=some 661:=av;generalize (upd H2 l0 661)=H3 at s3 t7⊢;have nX:=s2.trans s3;have l00:H l0=none:=by
   cases q:H l0 with
   |none=>rfl
   |some u=>rw[s2 _ _ q]at sf;cases sf
  have dl0:l0≠d:=λq=>by rw[q,U0]at sf;cases sf
  refine{d,Sum.inr a.1,.ref l0,es.map fb,9,9,s3 _ _ U0,(by rw[aj,bX];lia),λv hv=>?_,λhv=>?_}
  ·obtain⟨e,he,hen,rfl⟩:=EF hv;obtain⟨zi,heR,heg,JG⟩:=ZJ e he;have Xr:=s3 _ _ zi;have Zm:=bc heR;refine{.inl {9,_,bf.of Xr},_,9,e.ad,e.ys,_,9,9,Xr,by rw[bX];lia,?_}
   let up:En->En:=λe'=>if e'.nm=a.1 then{e'.nm,e'.ad,e'.ys++[.ref ac],e'.rows++[a.2]}else e'
   have u1:∀e',(up e').nm=e'.nm:=λe'=>by show(if _ then _ else _:En).nm=_;split<;>rfl
   have u2:∀e',(up e').ad=e'.ad:=λe'=>by show(if _ then _ else _:En).ad=_;split<;>rfl
   have m1:(es.map up).map (·.nm)=es.map (·.nm):=by rw[b5];exact b9 λe' _=>u1 e'
   have m2:(es.map up).map (·.ad)=es.map (·.ad):=by rw[b5];exact b9 λe' _=>u2 e'
   have m3:(es.map up).map fb=es.map fb:=by rw[b5];refine b9 λe' _=>?_;show((Sum.inr (up e').nm:Key),V.ref (up e').ad)=_;rw[u1,u2];rfl
   have ne:∀e'∈es,e'.nm≠a.1->e'.ad≠e.ad:=λe' h' n q=>n (aep un.ad h' he q▸hen);have t4:cN H3 (upd H3 e.ad (.lst (e.ys++[.ref ac]))):=cN.upd (B3 Xr);refine{_,_,es.map up,9,bO,λb u q=>?_,{?_,?_,?_,λe' h'=>?_},un.d0,m2▸un.ad,λe' h'=>?_,λe' h'=>?_,694,λe' h'=>?_,?_}
   ·rw[aL (bC q (un.own e he).1)];exact nX _ _ q
   ·rw[m3,aL (cM (un.own e he).2)];exact s3 _ _ U0
   ·rw[m1];exact ZK
   ·rw[aj];exact hlE
   ·obtain⟨e0,h0,rfl⟩:=aE.mp h';obtain⟨q1,q2,q3,q4⟩:=ZJ e0 h0;by_cases c:e0.nm=a.1
    ·have:e0=e:=aec ZK h0 he (c.trans hen.symm);subst this;show IL K _ (if e0.nm=a.1 then _ else _);rw[aM c];refine{av,fK (ji heR ((cN.same s3).trans t4)) (.cons {ac,9,hX qI ((cN.same s3).trans t4)} .nil),λr hr=>?_,?_}
     ·rcases aV.mp hr with hr|hr
      ·exact heg r hr
      ·rw[aC.mp hr];exact ga
     ·have:=F3 (rws:=rws.take i++[a]) (z:=e0.nm);rw[ya,aM c.symm,<-un.rows e0 h0,aD,aD,lti]at this;rw[aD];simp only[dv]at this⊢;lia
    ·show IL K _ (if e0.nm=a.1 then _ else _);rw[aI c];exact{by rw[aL (ne e0 h0 c)];exact s3 _ _ q1,ji q2 ((cN.same s3).trans t4),q3,q4}
   ·obtain⟨e0,h0,rfl⟩:=aE.mp h';rw[u2];exact un.own e0 h0
   ·obtain⟨e0,h0,rfl⟩:=aE.mp h';rw[u1,e1,ya,<-un.rows e0 h0];show(if e0.nm=a.1 then _ else _:En).rows=_;by_cases c:e0.nm=a.1
    ·rw[aM c,aM c.symm]
    ·rw[aI c,aI (λq=>c q.symm),cL]
   ·rw[m1];rw[e1]at hb;rcases aV.mp hb with hb|hb
    ·exact un.all b hb
    ·rw[aC.mp hb,<-hen];exact bS he
   ·obtain⟨e0,h0,rfl⟩:=aE.mp h';show(if e0.nm=a.1 then _ else _:En).rows≠[];by_cases c:e0.nm=a.1
    ·rw[aM c];simp
    ·rw[aI c];exact un.ne e0 h0
   ·have:=un.le;rw[aj,e1,aD,lti];lia
  ·have nn:a.1∉es.map (·.nm):=λq=>by obtain⟨e,he,q⟩:=aE.mp q;rw[<-q,kX ZK he]at hv;cases hv
   rw[EW _ hv];have t4:cN H3 (upd H3 d 685):=cN.upd (vS (s3 _ _ U0));have Gz:upd H3 d 685 l0=some 661:=aL dl0▸t7;have JH:upd H3 d 685 d=some 685:=av;have o4:∀b u,b≠d->H3 b=some u->upd H3 d 685 b=some u:=λb u n q=>aL n▸q;generalize (upd H3 d 685)=H4 at t4 Gz JH o4⊢;refine{.inl {9,_,bf.of Gz},_,9,l0,[],_,9,9,Gz,7,?_};have t5:cN H4 (upd H4 l0 (.lst ([]++[.ref ac]))):=cN.upd (B3 Gz);have t35:=(cN.same s3).trans (t4.trans t5);have nl:∀e'∈es,e'.ad≠l0:=λe' h' q=>by have:=(ZJ e' h').1;rw[q,sf]at this;cases this
   refine{_,_,es++[{a.1,l0,[.ref ac],[a.2]}],9,bO,λb u q=>?_,{?_,?_,?_,λe' h'=>?_},un.d0,?_,λe' h'=>?_,λe' h'=>?_,694,λe' h'=>?_,?_}
   ·rw[aL (bC q l00)];exact o4 _ _ (bC q un.d0) (nX _ _ q)
   ·rw[aL (cM dl0),aH];exact JH
   ·rw[aH];exact fP.mpr {ZK,59,λx hx y hy q=>nn (by rw[oH,aC]at hy;rw[<-show y=a.1 from hy,<-q];exact hx)}
   ·have:=un.le;rw[aD,dv];lia
   ·rcases aV.mp h' with h'|h'
    ·obtain⟨q1,q2,q3,q4⟩:=ZJ e' h';exact{by rw[aL (nl e' h')];exact o4 _ _ (un.own e' h').2 (s3 _ _ q1),ji q2 t35,q3,q4}
    ·rw[aC.mp h'];refine{av,.cons {ac,9,hX qI t35} .nil,λr hr=>?_,by show 1<=60;decide};rw[aC.mp hr];exact ga
   ·rw[aH];exact fP.mpr {un.ad,by simp,λx hx y hy q=>by rw[oH,aC]at hy;obtain⟨e',h',rfl⟩:=aE.mp hx;exact nl e' h' (q.trans hy)}
   ·rcases aV.mp h' with h'|h'
    ·exact un.own e' h'
    ·rw[aC.mp h'];exact⟨l00,dl0⟩
   ·rw[e1,ya];rcases aV.mp h' with h'|h'
    ·rw[aI (λq=>nn (by rw[q];exact bS h')),cL];exact un.rows e' h'
    ·rw[aC.mp h'];rw[aM rfl];have:jz (rws.take i) a.1=[]:=by
      cases q:jz (rws.take i) a.1 with
      |nil=>rfl
      |cons r t=>
       have hr:r∈jz (rws.take i) a.1:=q▸aF;exact absurd (un.all _ (Ge.mp hr)) nn
     rw[this,jQ]
   ·rw[aH];rw[e1]at hb;rcases aV.mp hb with hb|hb
    ·exact bz _ (un.all b hb)
    ·rw[aC.mp hb];exact bh _ aF
   ·rcases aV.mp h' with h'|h'
    ·exact un.ne e' h'
    ·rw[aC.mp h'];simp
   ·have:=un.le;rw[e1,aD,aD,dv,dv];lia
 ·rintro Z H2 ⟨_,_,es,rfl,_,s2,un⟩;rw[(bc kD),aS]at un;refine{_,9,d,es,9,un.tb,λp fs H3 s3 fo=>?_};obtain⟨f1,f2,f3,f4,f5⟩:=fo;have hn:=un.tb.2.1;have ps:=ij (es.map (·.nm));have ne:∀z∈es.map (·.nm),(iX es z).isEmpty=false:=λz hz=>by
   obtain⟨e,he,rfl⟩:=aE.mp hz;rw[sH hn he];have:=un.ne e he;cases q:e.rows with
   |nil=>exact absurd q this
   |cons _ _=>rfl
  rw[(List.filter_eq_self.mpr λz hz=>by rw[ne z (ps.mem_iff.mp hz)];rfl)]at f3;have z0:∀b,H2 b=none->H b=none:=λb q=>by
   cases e:H b with
   |none=>rfl
   |some u=>rw[s2 _ _ e]at q;cases q
  refine k p fs H3 (s2.trans s3) {f1,z0 p f2,f3▸ps.nodup_iff.mpr hn,f4,λe he=>?_,λa ha=>?_,λe he=>?_,?_}
  ·obtain⟨g1,g2,g3,g4,g5⟩:=f5 e he;have hm:e.nm∈es.map (·.nm):=by rw[<-ps.mem_iff,<-f3];exact bS he
   obtain⟨e',xw,q⟩:=aE.mp hm;have er:iX es e.nm=jz rws e.nm:=by rw[<-q,sH hn xw,un.rows e' xw]
   refine{z0 _ g1,g2,g3,g4,by rw[g5,er],λq2=>?_};have h1:=ne e.nm hm;rw[<-D7,<-g5,q2]at h1;cases h1
  ·rw[f3,ps.mem_iff];exact un.all a ha
  ·have hm:e.nm∈es.map (·.nm):=by rw[<-ps.mem_iff,<-f3];exact bS he
   obtain⟨e',xw,q⟩:=aE.mp hm;have:=un.ne e' xw;rw[un.rows e' xw]at this;cases q2:jz rws e'.nm with
   |nil=>exact absurd q2 this
   |cons r t=>
    exact{_,Ge.mp (by rw[q2];exact aF),q}
  ·have h1:fs.length=(fs.map (·.nm)).length:=(aj _).symm;rw[f3,ps.length_eq,aj]at h1;have:=un.le;lia
end
end K31
namespace L2
open PySem PySem.Spec PyProof.Rows
section
variable{prog:Program}{w:World}{A:Around}{E:Aac}
def aed{l1 l2 d z ti to i1 i2:Addr}{us vs:Aae}{h0 h:Heap}{tk:Nat}{pairs:List (Key×Value)}{R:Result->Shared->Prop}(hA:A.handled=none)(D:ZipApart z ti to i1 i2 l1 l2)(m6:h0.get? d=none)(n1:d≠z)(n2:d≠i1)(n3:d≠i2)(n4:d≠ti)(n5:d≠to)
  (nA:h0.IsList l1 us.toArray) (gd:h0.IsList l2 vs.toArray) (hp:Paired 710 us pairs) (hv:vs=pairs.map (·.2)) (hsz:pairs.length<=sizeLine) (g:Array GenState) (dr:Drawn) (os:OsState)
  (k:∀h' tk,(∀b o,b≠z->b≠to->b≠i1->b≠i2->h0.get? b=some o->h'.get? b=some o)->h'.DictOf (bT prog w) d (merged [] pairs)->R (.ok (.ret .none)) ⟨h',g,dr,tk,os⟩)
  (kp:∀b o,b≠z->b≠to->b≠i1->b≠i2->h0.get? b=some o->h.get? b=some o) (hz:IsZip h z ti to .none) (hi:IsPair h ti (.ref i1) (.ref i2)) (ho:∃a b,IsPair h to a b) (j1:h.IsListIter i1 l1 0) (j2:h.IsListIter i2 l2 0) (hd:h.DictOf (bT prog w) d []):
   codeAny 58 A (.builtin "dict.update.loop" {[.ref d,.ref z,rawInt 0,.none],[]}) R ⟨h,g,dr,tk,os⟩:=by
 by_cases h1l:1<=us.length
 ·exact XS hA D m6 n1 n2 n3 n4 n5 nA gd hp hv hsz h1l g dr os k kp hz hi ho j1 j2 hd
 ·have lp:=bc hp;have e1:us=[]:=dD.mp ∅;have e2:pairs=[]:=dD.mp ∅;subst e1 e2;have t1:h.IsList l1 ([]:Aae).toArray:=by obtain⟨o1,e1,r1⟩:=nA;exact{o1,kp _ _ D.l1z D.l1TO D.l1i1 D.l1i2 e1,r1}
  have t2:h.IsList l2 vs.toArray:=by obtain⟨o2,e2,r2⟩:=gd;exact{o2,kp _ _ D.l2z D.l2TO D.l2i1 D.l2i2 e2,r2}
  refine fq sU ?_;obtain⟨a,b,ho⟩:=ho;refine ah (wpAny_pyNext_zip_end (show(A.under _).handled=none from hA) D hz hi ho j1 j2 t1 t2 59 λh' hs=>?_);refine ah (aq 666);obtain⟨o,es,ep,e,r⟩:=hd;exact k h' _ (λb o m1 m2 m3 m4 hb=>hs b o m1 m2 m3 m4 (kp b o m1 m2 m3 m4 hb)) {o,es,ep,hs _ _ n1 n5 n2 n3 e,r}
def XT{l1 l2 z ti to i1 i2:Addr}{us vs:Aae}{pairs:List (Key×Value)}{s:Shared}{Q:Aac}(hA:A.handled=none)(D:ZipApart z ti to i1 i2 l1 l2)
  (nA:s.heap.IsList l1 us.toArray) (gd:s.heap.IsList l2 vs.toArray) (hp:Paired 710 us pairs) (hv:vs=pairs.map (·.2)) (hsz:pairs.length<=sizeLine)
  (hz:IsZip s.heap z ti to .none) (hi:IsPair s.heap ti (.ref i1) (.ref i2)) (ho:∃a b,IsPair s.heap to a b) (j1:s.heap.IsListIter i1 l1 0) (j2:s.heap.IsListIter i2 l2 0)
  (k:∀h' tk,(∀b o,b≠z->b≠to->b≠i1->b≠i2->s.heap.get? b=some o->h'.get? b=some o)->h'.DictOf (bT prog w) s.heap.objs.size (merged [] pairs)->Q 352 {s with heap:=h',toks:=tk}):
  wpAny 58 A (call (.type "dict") [.ref z]) Q E s:=by
 refine callType_codes (Q₁:=λv1 z1=>v1=.ref s.heap.objs.size/\z1={s with heap:=s.heap.push {cls:=.type "dict",data:=.dict #[]}}) F.kt_called_dict (AO _) D0 (kt_code_dict_new _ ⟨rfl,rfl⟩) ?_;rintro v1 z1 ⟨rfl,rfl⟩;obtain⟨mZ,g,dr,tk,os⟩:=s;have Ak:(mZ.push {cls:=.type "dict",data:=.dict #[]}).DictOf (bT prog w) mZ.objs.size []:=xH mZ;have bU:(mZ.push {cls:=.type "dict",data:=.dict #[]}).get? z=some (Bt .none false ti to):=ao _ hz;refine{Ak.typeIs,C9 _ _,?_};refine ah ?_;refine ah (jH Ak.typeIs 666);show wpAny 58 _ (Builtin.Dict.updateFrom "dict.__init__" mZ.objs.size (.ref z) [] .none) _ _ _;refine ah (hV ⟨_,bU,rfl⟩ ?_);refine ah (abK bU hA λh2 tk2 e ne=>?_);refine ah (j8 ?_);have kp:∀b o,mZ.get? b=some o->h2.get? b=some o:=λb o hb=>ne.keeps _ _ (ao _ hb);have bV:=kp _ _ hz;refine ah (vq bV ?_);have hd2:h2.DictOf (bT prog w) mZ.objs.size []:=by obtain⟨o',es,ep,h',r⟩:=Ak;exact{o',es,ep,ne.keeps _ _ h',r}
 refine aq {jF _ 53,?_};obtain⟨a,b,ho⟩:=ho;obtain⟨oa,ja,ra⟩:=j1;obtain⟨ob,jb,rb⟩:=j2;have nz:∀{c:Addr}{o:Obj},mZ.get? c=some o->mZ.objs.size≠c:=λe=>cu (aY e);exact aed (show A.in1.handled=none from hA) D (mS (aw _)) (nz hz) (nz ja) (nz jb) (nz hi) (nz ho) nA gd hp hv hsz g dr os (λh' K6 Ju pD=>{9,k h' K6 Ju pD}) (λb o _ _ _ _ hb=>kp b o hb) bV (kp _ _ hi) {a,b,kp _ _ ho} {oa,kp _ _ ja,ra} {ob,kp _ _ jb,rb} hd2
inductive aeI(K:Frag)(Q:VK)(vs:Aam)(H1:Hp):Prop
 |mk (l1 l2:Addr) (ks:List Key) (ys:Aam) (_:vs=[.ref l1,.ref l2]) (_:bf K H1 l1 (ks.map kV)) (_:bf K H1 l2 ys) (_:ks.length=ys.length) (_:∀d,H1 d=none->Q (.ref d) (upd H1 d (.dK (ky [] (ks.zip ys)))))
def afC(K:Frag)(ta:TA):TE:=λZ H Q=>ta Z H λvs H1=>aeI K Q vs H1
variable{X:Cx}
def WL{a b:Expr}{ta:TA}{p p2 pos HH:Pos}(hg:Gl X "dict")(hm:X.mg "dict"=none)(UX:Gl X "zip")(UR:X.mg "zip"=none)(hA:X.A.handled=none)(ha:PA X [a,b] ta)
  (hs:starEach [a,b] X.env=[(false,eval a X.env),(false,eval b X.env)]:=by rfl) (kE:starEach [b] X.env=[(false,eval b X.env)]:=by rfl) (Jy:starEach [.Call (.Name "zip" p2) [a,b] [] HH] X.env=[(false,eval (.Call (.Name "zip" p2) [a,b] [] HH) X.env)]:=by rfl):
  PE X (.Call (.Name "dict" p) [.Call (.Name "zip" p2) [a,b] [] HH] [] pos) (afC X.K ta):=by
 intro pins s Z H Q I h;refine Hg (rp I hg hm (by decide+kernel:bootBuiltins "dict"=some (.type "dict")) (eO ?_ Jy 9));refine fX (Hg (rp I UX UR boot_zip (eO (sE (ha HH pins s Z H _ I h) λus s1 vs H1 I1 r1 q1=>?_) (by rw[hs,kE]) (by rw[kE];rfl))));obtain⟨l1,l2,ks,ys,e,h1,h2,ZO,q⟩:=q1;subst e;obtain⟨u1,u2,rfl,S1,SY⟩:=vals2 r1;cases S1;cases SY;obtain⟨MI,Lz,F5,bU⟩:=I1.list h1;obtain⟨xt,YQ,Jf,bV⟩:=I1.list h2;obtain⟨pairs,jD,ir,gh,Gv⟩:=OF Lz YQ ZO;have b1:l1<s1.heap.objs.size:=by obtain⟨o,e,_⟩:=id F5.isList;exact aY e
 have b2:l2<s1.heap.objs.size:=by obtain⟨o,e,_⟩:=id Jf.isList;exact aY e
 have lz:ks.length<=sizeLine:=by rw[aj]at bU;exact bU
 refine call_zip_2 F5.isList Jf.isList λh' z0 z1 z2 z3 z4 zs kp=>?_;refine j7 ?_;have t1:h'.IsList l1 MI.toArray:=by obtain⟨o,e,r⟩:=id F5.isList;exact{o,kp _ _ e,r}
 have t2:h'.IsList l2 xt.toArray:=by obtain⟨o,e,r⟩:=id Jf.isList;exact{o,kp _ _ e,r}
 have l0:MI.length=ks.length:=by have:=Lz.length;rw[aj]at this;exact this.symm
 refine XT hA (zipApart_new b1 b2) t1 t2 jD ir ∅ z0 z1 ⟨_,_,z2⟩ z3 z4 λh2 tk Uj hd=>?_;have rel:=KV.merge gh .nil;have lzm:(ky [] (ks.zip ys)).length<=sizeLine:=by have e1:=qm [] pairs;rw[rel.length];simp only[jR]at e1;lia
 have kpA:∀c o,s1.heap.get? c=some o->h2.get? c=some o:=λc o e=>by have lc:=aY e;exact Uj c o (aX (bw lc (eG _ _))) (aX (bw lc (eG _ _))) (aX lc) (aX (bw lc (eG _ _))) (kp c o e)
 have ld:s1.heap.objs.size<=h'.objs.size:=by rw[zs];exact eG _ _
 exact{.ref h'.objs.size,_,I1.laid kpA ld (wc lzm (cZ.mpr (cM (aX (bw I1.big ld)))) rel hd),9,q _ (I1.bQ.fresh ld)}
end
end L2
namespace K31
open PySem PySem.Spec PyProof.Rows L2 aJ
seal L2.PE L2.PT L2.PW L2.PA L2.PS L2.pX L2.PI L2.PO L2.Kg L2.PG L2.Hc
section
variable{P:Program}{w:World}{K:Frag}{mg:Aab}{base:Heap}
structure m9(bU:Aaf)(bA:Hw)(bV:Aaf)(bx:Hw)(g:df)(ks:List Nat):Prop where
 len:ks.length=(fC (bD bA)).length
 nd:ks.Nodup
 new:∀k∈ks,k<600/\fT k∉(bU++bD bA)++(bV++bD bx)
 eq:g=(fC (bD bA)).zip (ks.map fT)
def jn(g:df)(bb:Hw):Hw:=bb.map λa=>(a.1,a.2.map (dq g))
inductive Lk(K:Frag)(vs:Aam)(H:Hp)(Q:VK)(_x3:XK):Prop
 |mk (v1 v2:V) (bU bV:Aaf) (bA bx:Hw) (_:vs=[v1,v2]) (_:QW H v1 bU bA) (_:QW H v2 bV bx) (_:∀H' r p rw g ks fs,aK H H'->H r=none->H' r=some (.tup [.str "parted",.ref p,.ref rw])->H' rw=some (.tup ((bU.map (dq g)).map V.str))->m9 bU bA bV bx g ks->Told K H H' p (jn g bA) fs->Q (.ref r) H')
structure Dpt(P:Program)(w:World)(K:Frag)(mg:Aab)(base:Heap):Prop where
 unknowns_of:cq P w K mg base 3 "unknowns_of" ["question"] yL
 terms_of:cq P w K mg base 1 "terms_of" ["question"] vA
 new_values:cq P w K mg base 1 "new_values" ["count","taken"] SA
 image:cq P w K mg base 1 "image" ["terms","given"] Ky
 tables_of:cq P w K mg base 3 "tables_of" ["atoms"] (Lh K)
def Told.more{H0 H H' H'':Hp}{p:Addr}{rws:Hw}{fs:List En}(x:Told K H H' p rws fs)(s0:aK H0 H)(s1:aK H' H''):Told K H0 H'' p rws fs:=by
 have z0:∀{b:Addr},H b=none->H0 b=none:=λ{b} q=>by
  cases e:H0 b with
  |none=>rfl
  |some u=>rw[s0 _ _ e]at q;cases q
 exact{s1 _ _ x.at_,z0 x.p0,x.nm,x.ad,λe he=>by obtain⟨g1,g2,g3,g4,g5⟩:=x.en e he;exact{z0 g1,g2,s1 _ _ g3,fE g4 s1,g5},x.all,x.sub,x.len}
def Wz{g:df}{u t:Str}(h:u∉g.map (·.1)):ka g u t=g++[(u,t)]:=by unfold ka;rw[aI];intro q;obtain⟨p,hp,e⟩:=ix.mp q;exact h (aE.mpr {p,hp,aT e})
theorem GF:∀(cb g:df),((g++cb).map (·.1)).Nodup->cb.foldl (λg p=>ka g p.1 p.2) g=g++cb
 |[],g,_=>by rw[cL];rfl
 |p::r,g,h=>by
  have hn:=λq=>by rw[aH,fP]at h;exact h.2.2 p.1 q p.1 59 rfl
  rw[gY,Wz hn,GF r (g++[(p.1,p.2)]) (by rw[dG];exact h),dG];rfl
def yj{cb:df}(h:(cb.map (·.1)).Nodup):jq cb=cb:=GF cb [] h
theorem Se:∀(us vs:Aaf),(us.map (Sum.inr:Str->Key)).zip (vs.map V.str)=gD (us.zip vs)
 |[],_=>rfl
 |_::_,[]=>rfl
 |u::us,v::vs=>by show(Sum.inr u,V.str v)::(us.map (Sum.inr:Str->Key)).zip (vs.map V.str)=(Sum.inr u,V.str v)::gD (us.zip vs);rw[Se us vs]
theorem Hh:∀{us vs:Aaf},us.length=vs.length->(us.zip vs).map (·.1)=us
 |[],[],_=>rfl
 |[],_::_,h=>by cases h
 |_::_,[],h=>by cases h
 |u::us,v::vs,h=>by show u::(us.zip vs).map (·.1)=u::us;rw[Hh 721]
def tS:bZ ["one","other","unknowns","values","given","tables"] ["one","other"] (defScope EL):=gC 53
def Tx{f:Addr}{fd:FuncData}(F:dF K "parted" "parted" EL f fd)(T:Txt K mg)(D:Dpt P w K mg base):cK P w K mg base d7 4 f fd ["one","other"] (Lk K):=by
 refine F.ok tS (λ_ _ _ _ h=>by cases h;subst_vars;rfl) 54;obtain⟨v1,v2,bU,bV,bA,bx,rfl,q1,q2,k⟩:=h;refine{_,(aB (dM 2 tS (cl D.unknowns_of hr 714)) (aB (dM 3 tS (cl D.new_values hr (cw (bM c6 9 T.eJ bG (bW (pv 2))) (c9 vR (cl D.terms_of hr 714) (cl D.terms_of hr 722))))) (aB (kx (i:=4) tS.nd 9 (Or.inr 9) (WL 9 T.B5 9 T.Q2 hr.hd (cw (pv 2) (pv 3)))) (aB (dM 5 tS (cl D.tables_of hr (bW (vQ 9 (pf (more:=["terms"]) (fs:=["given"]) (fr:=[4])) (iy (bH b4 (pv 0) aO (λ_ _=>9))) (λ_ _ _ _=>(vk (n:=2) 9 699)) (λ_ _ _ _=>(d9 (cw (pv 0) (cl D.image hr (cw (pv 1) (pv 2)))))))))) (aQ (bK (d9 (jX cT (pv 5) (cl D.image hr (cw (bH b4 (pv 0) aO (λ_ _=>9)) (pv 4))))))))))),?_}
 refine{_,9,v1,bU,bA,9,q1,λul H1 s1 ahD zc=>?_};have lf1:=q1.good.len bA.length;have lf2:=q2.good.len bx.length;rw[aS]at lf1 lf2;have lu:=yZ (bD bA);have l81:=q1.l8;have l82:=q2.l8;have h41:=q1.h4;have h42:=q2.h4;refine{_,9,_,_,9,.inl {_,bf.of zc,9},_,9,v1,bU,bA,9,(q1.keep (cv.of s1)),λt1 H2 s2 UJ Ep=>?_};refine{_,9,v2,bV,bx,9,(q2.keep (cv.of s1)).keep (cv.of s2),λt2 H3 s3 ahE jd=>?_};refine{t1,t2,_,_,9,9,s3 _ _ Ep,jd,by rw[aj,aj,aD,aD,bX];lia,λtl htl=>?_};have s4:aK H3 (upd H3 tl (.lst ((bU++bD bA).map V.str++(bV++bD bx).map V.str))):=aA htl _;have agL:upd H3 tl (.lst ((bU++bD bA).map V.str++(bV++bD bx).map V.str)) tl=some (.lst (((bU++bD bA)++(bV++bD bx)).map V.str)):=by rw[av,aH (l₁:=bU++bD bA)]
 have s14:=s2.trans (s3.trans s4);have lul:((fC (bD bA)).map V.str).length=(fC (bD bA)).length:=aj _;refine{_,tl,_,9,agL,8,by rw[lul];simp only[aD];lia,λvl ks H5 s5 agI Gn lks nks fks=>?_};have W8:ks.length=(fC (bD bA)).length:=by lia
 have F2:=(s1.trans s14).trans s5;have uk:(fC (bD bA)).map V.str=((fC (bD bA)).map (Sum.inr:Str->Key)).map kV:=by rw[b5];rfl
 refine{_,9,_,9,ul,vl,(fC (bD bA)).map Sum.inr,(ks.map fT).map V.str,9,by rw[<-uk];exact bf.of ((s14.trans s5) _ _ zc),bf.of Gn,by rw[aj,aj,aj,W8],λd hd=>?_}
 let g:df:=(fC (bD bA)).zip (ks.map fT)
 have eg:ky [] (((fC (bD bA)).map (Sum.inr:Str->Key)).zip ((ks.map fT).map V.str))=gD g:=by rw[Se];show ky (gD []) (gD g)=_;rw[E6];exact cR gD (yj (by rw[Hh (by rw[aj,W8])];exact xh _))
 rw[eg];have s6:aK H5 (upd H5 d (.dK (gD g))):=aA hd _;have U2:upd H5 d (.dK (gD g)) d=some (.dK (gD g)):=av;generalize (upd H5 d (.dK (gD g)))=H6 at s6 U2⊢;have SU:=F2.trans s6;obtain⟨r1,h1,a1,Ys,rfl,Gs,UW,PY,DE⟩:=q1.at';have lv1:=bc DE;refine{_,9,_,_,_,_,9,9,aZ.of (SU _ _ Gs),9,a1,9,{Ys,aZ.of (SU _ _ PY)},CC (xs:=Ys) (λi ys H7=>aK H6 H7/\i<=bA.length/\kK K H7 ys ((jn g bA).take i)) (bt ∅) {aK.refl _,aP _,.nil} ?_ ?_ ?_}
 ·rintro i ys H7 hi ⟨s7,mB,hy⟩;refine{aZ.of (s7 _ _ (SU _ _ PY)),?_};rw[bc hy,a9];lia
 ·rintro i x ys H7 N hx ⟨s7,mB,hy⟩ hN;obtain⟨a,ha,p,t,rfl,hp,ht⟩:=Paired.at' (DE.keep (cv.of SU)) hx;have bO:=(au.mp ha).1;refine{p,_,_,9,aZ.of (s7 _ _ hp),yO ?_};refine{_,rfl,_,rfl,_,rfl,t,d,a.2,g,rfl,s7 _ _ ht,s7 _ _ U2,by have:=(q1.good a (az ha)).2.2.1;lia,λrr H8 s8 hrr=>{96,λpp PD=>?_}};refine hN _ _ {s7.trans (s8.trans (aA PD _)),bO,?_};have e1:(jn g bA).take (i+1)=(jn g bA).take i++[(a.1,a.2.map (dq g))]:=by
   have:(jn g bA)[i]?=some (a.1,a.2.map (dq g)):=by unfold jn;rw[aW,ha];rfl
   rw[bj,this];rfl
  rw[e1];exact fK (kK.same hy (s8.trans (aA PD _))) (.cons {pp,rr,9,aZ.of av,aZ.of (aA PD _ _ _ hrr)} .nil)
 rintro ys H7 ⟨s7,_,hy⟩ l hl;have ll:(jn g bA).length=bA.length:=aj _;rw[lv1,c7 ∅]at hy;have s8:aK H7 (upd H7 l 679):=aA hl _;have ZM:upd H7 l 679 l=some 679:=av;have SS:=SU.trans (s7.trans s8);refine{l,ys,jn g bA,9,bf.of ZM,kK.same hy s8,8,694,λp fs H9 s9 tld=>?_}
 ·obtain⟨a,ha,rfl⟩:=aE.mp hb;have:=q1.good a ha;show 1<=(a.2.map (dq g)).length/\(a.2.map (dq g)).length<=4;rw[aj];exact{this.2.1,this.2.2.1}
 have YO:=SS.trans s9;refine{_,9,_,9,_,_,_,_,9,9,aZ.of (YO _ _ Gs),9,_,9,h1,d,bU,g,9,YO _ _ UW,s9 _ _ (s8 _ _ (s7 _ _ U2)),8,λtU ie kN xu=>{(by show 3<=sizeLine;decide),λr hr=>?_}};have z0:∀{b:Addr}{Hx:Hp},aK H Hx->Hx b=none->H b=none:=λ{b Hx} sx q=>by
  cases e:H b with
  |none=>rfl
  |some u=>rw[sx _ _ e]at q;cases q
 have q9:aK ie (upd ie r (.tup [.str "parted",.ref p,.ref tU])):=aA hr _;refine k _ r p tU g ks fs (YO.trans (kN.trans q9)) (z0 (YO.trans kN) hr) av (q9 _ _ xu) ⟨W8,nks,fks,rfl⟩ (tld.more SS (kN.trans q9))
def Xa{u t u' t':Str}(h:uV.kL [u,t] [u',t']=true):rn u u'=true:=by
 unfold rn;rw[D2];refine cA λq=>?_;have h:uV.fH [u',t'] [u,t]=false:=by simpa using h
 unfold uV.fH at h;by_cases e:u'=u
 ·rw[e]at q;exact List.lt_irrefl _ q
 ·rw[aI e]at h;exact oh h q
def QI:∀{rs:Hz}{g:df},rs.Perm (rowsOf g)->∃cb:df,rs=rowsOf cb/\cb.Perm g:=by
 have all:∀{rs:Hz},(∀r∈rs,∃p:Str×Str,r=[p.1,p.2])->∃cb:df,rs=rowsOf cb:=by
  intro rs
  induction rs with
  |nil=>intro _;exact{[],9}
  |cons r rs ih=>
   intro h;obtain⟨p,rfl⟩:=h r aF;obtain⟨cb,rfl⟩:=ih λr hr=>h r (aG _ hr);exact{p::cb,rfl}
 intro rs g h;obtain⟨cb,rfl⟩:=all λr hr=>by obtain⟨p,_,e⟩:=aE.mp (h.mem_iff.mp hr);exact{p,e.symm}
 refine{cb,9,?_};have inv:∀l:df,(rowsOf l).map (λr=>(r.getD 0 "",r.getD 1 ""))=l:=λl=>by
  unfold rowsOf;rw[b5]
  conv=>rhs;rw[<-yA l]
  exact b9 λp _=>9
 rw[<-inv cb,<-inv g];exact h.map _
def DA(g:df)(z:Str):Jq g z=aJ.get g z:=9
def abo{bU bV:Aaf}{bA bx:Hw}{g cb:df}(im:aal bU bA bV bx g)(rB:nN bV bx)(pm:cb.Perm g)(OS:(rowsOf cb).Pairwise λa b=>uV.kL a b=true):uy bU bA bV bx cb=true:=by
 have pk:(cb.map (·.1)).Perm (keys g):=pm.map _;have nd:=pk.nodup_iff.mpr im.nd;have uk:∀u,u∈keys g↔u∈fC (bD bx):=λu=>by
  rw[im.ks,qo];constructor
  ·rintro(⟨h1,h2⟩|h)
   ·exact{rB u h1 h2,h2}
   ·obtain⟨b,hb,h1,h2⟩:=aJ.cQ.mp h;exact{iB.mpr ⟨b,hb,h1⟩,h2}
  ·rintro⟨h1,h2⟩;obtain⟨b,hb,h1⟩:=iB.mp h1;exact .inr (aJ.cQ.mpr ⟨b,hb,h1,h2⟩)
 have e1:cb.map (·.1)=fk (fC (bD bx)):=by
  refine HI (pk.trans (((ng im.nd (xh _)).mpr uk).trans (ij _).symm)) ?_ (FU _);have:(rowsOf cb).map (λr=>r.getD 0 "")=cb.map (·.1):=by unfold rowsOf;rw[b5];rfl
  rw[<-this,j4];refine OS.imp_of_mem λ{a b} ha hb h=>?_;obtain⟨p,_,rfl⟩:=aE.mp ha;obtain⟨q,_,rfl⟩:=aE.mp hb;exact Xa h
 have gp:∀z,aJ.get cb z=aJ.get g z:=λz=>by
  cases q:aJ.get g z with
  |some v=>exact aJ.get_mem nd (pm.mem_iff.mpr (aJ.get_some q))
  |none=>
   exact aJ.get_none.mpr λh=>aJ.get_none.mp q (pk.mem_iff.mp h)
 have el:∀z,dq (jq cb) z=aJ.ap bo (aJ.over g λu=>u) z:=λz=>by
  rw[yj nd];unfold dq aJ.ap aJ.over;rw[DA,gp];by_cases c:bo z=true
  ·rw[aM c]
  ·rw[aI c];have:aJ.get g z=none:=aJ.get_none.mpr λh=>c ((qo.mp ((uk z).mp h)).2);rw[this];rfl
 obtain⟨l1,l2⟩:=im.led _ (aJ.nj im.nd);have em:∀ts:Aaf,ts.map (dq (jq cb))=ts.map (aJ.ap bo (aJ.over g λu=>u)):=λts=>b9 λz _=>el z;unfold uy;rw[bg e1,em,bg l1,iV,iV,bN];intro b hb;obtain⟨a,ha,rfl⟩:=aE.mp hb;rw[em];exact bg (l2 a ha)
inductive zM(K:Frag)(vs:Aam)(H:Hp)(Q:VK)(_x3:XK):Prop
 |mk (v1 v2:V) (bU bV:Aaf) (bA bx:Hw) (_:vs=[v1,v2]) (_:QW H v1 bU bA) (_:QW H v2 bV bx) (_:nN bV bx) (_:(∀H' r l mx cb,aK H H'->H r=none->H l=none->H' r=some (.tup [.str "within",.ref l])->H' l=some (.lst mx)->AF H' mx cb->uy bU bA bV bx cb=true->KL cb->Q (.ref r) H')) (_:∀H' r p rw g ks fs,aK H H'->H r=none->H' r=some (.tup [.str "parted",.ref p,.ref rw])->H' rw=some (.tup ((bU.map (dq g)).map V.str))->m9 bU bA bV bx g ks->Told K H H' p (jn g bA) fs->(∀h,¬mR bU bA bV bx h)->Q (.ref r) H')
structure Dwi(P:Program)(w:World)(K:Frag)(mg:Aab)(base:Heap):Prop where
 found_map:cq P w K mg base 25 "found_map" ["one","other"] OW
 parted:cq P w K mg base 4 "parted" ["one","other"] (Lk K)
theorem YZ{H H':Hp}:∀{zs:Aam}{cb:df},R7 H zs (rowsOf cb)->aK H H'->AF H' zs cb
 |_,[],h,_=>by cases h;exact .nil
 |_,p::r,h,s=>by
  cases h with
  |cons h t=>
   obtain⟨a,e,h⟩:=h;exact .cons {a,e,s _ _ h} (YZ t s)
def Jc:bZ ["one","other","given"] ["one","other"] (defScope EK):=gC 53
def Tw{f:Addr}{fd:FuncData}(F:dF K "within" "within" EK f fd)(T:Txt K mg)(D:Dwi P w K mg base):cK P w K mg base d7 26 f fd ["one","other"] (zM K):=by
 refine F.ok Jc (λ_ _ _ _ h=>by cases h;subst_vars;rfl) 54;obtain⟨v1,v2,bU,bV,bA,bx,rfl,q1,q2,rB,k1,k2⟩:=h;have z0:∀{b:Addr}{Hx:Hp},aK H Hx->Hx b=none->H b=none:=λ{b Hx} sx q=>by
  cases e:H b with
  |none=>rfl
  |some u=>rw[sx _ _ e]at q;cases q
 refine{_,(aB (dM 2 Jc (cl D.found_map hr (cw (pv 0) (pv 1)))) (aB (dg (bY F9 (pv 2) jB (cB _)) (aQ (bK (cl D.parted hr (cw (pv 0) (pv 1))))) cy) (aQ (bK (d9 (cw cT (bM (Fq hr.hd) 9 T.sM 53 (bW (WI (pv 2)))))))))),?_}
 refine{_,9,_,9,v1,v2,bU,bV,bA,bx,9,q1,q2,λH1 s1 no=>?_,λH1 d g s1 hd im=>?_}
 ·refine{_,9,9,_,9,kz ?_};exact{_,9,_,9,v1,v2,bU,bV,bA,bx,9,q1.keep (cv.of s1),q2.keep (cv.of s1),λH2 r p rw g ks fs s2 r0 kQ xu par tld=>k2 H2 r p rw g ks fs (s1.trans s2) (z0 s1 r0) kQ xu par (tld.more s1 (aK.refl _)) no}
 ·refine{_,9,9,_,9,eS ?_};refine{_,9,d,gK g,9,hd,λiv hiv=>?_};have s2:aK H1 (upd H1 iv (.ext (Hf iv d))):=aA hiv _;have adV:upd H1 iv (.ext (Hf iv d)) iv=some (.ext (Hf iv d)):=av;generalize (upd H1 iv (.ext (Hf iv d)))=H2 at s2 adV⊢;have lg:g.length<64:=by
   have h1:=jL im.nd (m:=bV++bD bx) λu hu=>by
    rcases(im.ks u).mp hu with h|h
    ·exact bz _ h.1
    ·obtain⟨b,hb,h1,_⟩:=aJ.cQ.mp h;exact bh _ (iB.mpr ⟨b,hb,h1⟩)
   have h2:=q2.good.len bx.length;rw[aS]at h2;have h3:=q2.l8;have h4:=q2.h4;unfold keys at h1;rw[aj,aD]at h1;lia
  refine{iv,d,g,9,adV,s2 _ _ hd,lg,λl zs H3 k3 t7 gd Gq=>?_};have s3:aK H2 H3:=k3;obtain⟨cb,epr,pm⟩:=QI (uV.mF (rowsOf g));rw[epr]at Gq;have OS:=uV.u4 (rowsOf g);rw[epr]at OS;have s4:aK H3 (upd H3 l 690):=aA t7 _;have Gz:upd H3 l 690 l=some 690:=av;generalize (upd H3 l 690)=H4 at s4 Gz⊢;refine{96,λr hr=>?_};have s5:aK H4 (upd H4 r (.tup [.str "within",.ref l])):=aA hr _;have vN:=s1.trans s2;have nW:=vN.trans (s3.trans s4);refine k1 _ r l zs cb (nW.trans s5) (z0 nW hr) (z0 vN gd) av (s5 _ _ Gz) (YZ Gq (s4.trans s5)) (abo im rB pm OS) λp hp=>?_;have PH:=pm.mem_iff.mp hp;have gv:aJ.over g (λu=>u) p.1=p.2:=aJ.nj im.nd p PH;obtain⟨l1,l2⟩:=im.led _ (aJ.nj im.nd);rcases(im.ks _).mp (bS PH)with h|h
  ·refine{CP (q2.hh _ h.1),CP (q1.hh _ ?_)};rw[<-l1,<-gv];have:aJ.ap bo (aJ.over g λu=>u) p.1∈bV.map (aJ.ap bo (aJ.over g λu=>u)):=bS h.1;unfold aJ.ap at this⊢;rw[aM h.2]at this;exact this
  ·obtain⟨b,hb,h1,h2⟩:=aJ.cQ.mp h;refine{CP ((q2.good b hb).2.2.2 _ h1),CP ?_};have:=(q1.good _ (l2 b hb)).2.2.2 (aJ.ap bo (aJ.over g λu=>u) p.1) (bS h1);unfold aJ.ap at this;rw[aM h2,gv]at this;exact this
inductive Dk(K:Frag)(vs:Aam)(H:Hp)(Q:VK)(_x3:XK):Prop
 |mk (d t a:Addr) (g:df) (ts as:Aaf) (_:vs=[.ref t,.ref a,.ref d]) (_:H d=some (.dK (gK g))) (_:g.length<=1000) (_:(keys g).Nodup) (_:aZ K H t (ts.map V.str)) (_:aZ K H a (as.map V.str)) (_:ts.length<=1000) (_:as.length<=1000) (_:(∀z∈ts,k7 z=true/\z.length<=100)) (_:(∀H',aK H H'->aJ.fit bo g ts as=none->Q .cz H')) (_:∀p g' H',aK H H'->H p=none->H' p=some (.dK (gK g'))->aJ.fit bo g ts as=some g'->Q (.ref p) H')
def Wx{g:df}{u v:Str}(nd:(keys g).Nodup)(h:aJ.get g u=some v):putK (gK g) (Sum.inr u) (.str v)=gK g:=by
 unfold putK;rw[zG,aM (by rw[qQ,h];rfl)];unfold gK;rw[b5];refine b9 λp hp=>?_;show(if(Sum.inr p.1:Key)=Sum.inr u then((Sum.inr p.1:Key),V.str v)else(Sum.inr p.1,V.str p.2))=(Sum.inr p.1,V.str p.2);by_cases c:p.1=u
 ·rw[aM (cR Sum.inr c)];have:=aJ.get_mem nd hp;rw[c,h]at this;rw[bR this]
 ·rw[aI (λe=>c (by injection e))]
def u6:bZ ["_law_terms_here","_law_row","_law_given","_law_more","_law_term","_law_value"] ["_law_terms_here","_law_row","_law_given"] (defScope BM):=gC 53
def WZ{f:Addr}{fd:FuncData}(F:dF K "_law_bound" "_law_bound" BM f fd)(T:Txt K mg):cK P w K mg base d7 1 f fd ["_law_terms_here","_law_row","_law_given"] (Dk K):=by
 refine F.ok u6 (λ_ _ _ _ h=>by cases h;subst_vars;rfl) 54;obtain⟨d,t,a,g,ts,as,rfl,hd,lg,nd,ht,ha,lt,la,hz,k1,k2⟩:=h;have hu:=mK hr;refine{_,(aB (dg (bY oU (bM c6 9 T.eJ bG 714) (bM c6 9 T.eJ bG 722) (cB _)) (aQ (bK jB)) cy) (aB (dM 3 u6 (cU GZ 9 T.B5 53 (bW (pv 2)))) (aB (dJ bE 9 (Pb 9 T.Q2 (cw (pv 0) (pv 1))) (jA 9 (cj (gg 4 u6) (cj (gg 5 u6) fY))) (aQ (dg (bY ny (bH Gh (pv 4) aO (λ_ _=>9)) cT (cB _)) (aB (dg (bY oU (sL hu (pv 3) (pv 4) (pv 5) Q9) (pv 5) (cB _)) (aQ (bK jB)) cy) (aQ (yQ hu (pv 3) (pv 4) (pv 5) 9))) (aQ (dg (bY oU (pv 4) (pv 5) (cB _)) (aQ (bK jB)) cy))))) (aQ (bK (pv 3)))))),?_}
 have Jp:(ts.map V.str).length=ts.length:=aj _;have Ue:(as.map V.str).length=as.length:=aj _;refine{_,9,_,_,9,.inr ⟨_,ht,rfl⟩,_,9,_,_,9,.inr ⟨_,ha,rfl⟩,9,_,9,?_};refine dU 668 668
 ·refine k1 H (aK.refl H) (zp λe=>?_);rw[Jp,Ue,e]at c;simp at c
 have le:ts.length=as.length:=by have:¬¬(V.int (ts.length:Int)=V.int (as.length:Int)):=λh=>c 721;have:=j6.mp this;injection this with this;lia
 refine{_,9,d,gK g,9,.inl hd,695};have s1:aK H (upd H p (.dK (gK g))):=aA hp _;have jD:upd H p (.dK (gK g)) p=some (.dK (gK g)):=av;refine{_,rfl,_,rfl,t,a,rfl,{_,gf ht s1},{_,gf ha s1},Nr (ys:=as.map V.str)
  (λi Z H2=>∃(x4 x5:Aan)(gi:df),Z=[some (.ref t),some 659,some 705,some 676,x4,x5]/\aK H H2/\H2 p=some (.dK (gK gi))/\(keys gi).Nodup/\gi.length<=g.length+i/\aJ.fit bo g ts as=aJ.fit bo gi (ts.drop i) (as.drop i))
  (by rw[Jp,Ue,le]) {_,_,g,9,s1,jD,nd,aw _,9} ?_ ?_ ?_}
 ·rintro i Z H2 hi ⟨x4,x5,gi,rfl,s2,_⟩;exact{gf ht s2,gf ha s2}
 ·rintro i x y q Z H2 hx hy ⟨x4,x5,gi,rfl,s2,ir,qF,lg2,ef⟩ hq;rw[aW]at hx hy;obtain⟨z,v7,rfl⟩:=br.mp hx;obtain⟨b,PV,rfl⟩:=br.mp hy;have li:=(au.mp v7).1;have dz:ts.drop i=z::ts.drop (i+1):=by rw[gA li];rw[ay li]at v7;cases v7;rfl
  have db:as.drop i=b::as.drop (i+1):=by
   have Ua:i<as.length:=by lia
   rw[gA Ua];rw[ay Ua]at PV;cases PV;rfl
  rw[dz,db]at ef;have s3:aK H2 (upd H2 q (.tup [.str z,.str b])):=aA hq _;have gh:=s3 _ _ ir;refine{q,_,9,aZ.of av,9,_,_,9,_,_,9,9,?_};generalize (upd H2 q (.tup [.str z,.str b]))=H3 at s3 gh⊢;obtain⟨zT,zl⟩:=hz z (az v7);obtain⟨c,Cn⟩:=zI zT;refine{_,9,_,_,_,9,9,bB (bt ∅),hJ Cn,9,_,9,?_};rw[zJ zT Cn];have xm:=s2.trans s3;have Zq:(gK gi).length=gi.length:=aj _;refine dU 693 693
  ·have c1:=c1;refine{_,9,p,9,.inl {_,.inl gh},_,9,_,9,_,kW.k (k:=Sum.inr z) gh,?_};rw[qQ];cases hm:aJ.get gi z with
   |some m=>
    refine{_,9,9,_,9,?_};refine dU 723 723
    ·refine k1 H3 xm ?_;rw[ef];unfold aJ.fit;rw[aM c1,hm];show(if m=b then _ else none)=none;rw[aI (λe=>by rw[e]at c2;simp at c2)]
    ·have e2:m=b:=by have:¬¬(V.str m=V.str b):=λh=>c2 721;have:=j6.mp this;injection this
     refine{_,9,_,9,_,9,p,_,9,AR.k (k:=Sum.inr z) gh (by rw[Zq];exact bw (show gi.length<3000 by lia) (by rw[bX];decide)),?_};rw[Wx qF (by rw[hm,e2])];refine{_,_,gi,9,λb' u h=>?_,av,qF,8,?_}
     ·rw[aL (bC h hp)];exact xm _ _ h
     ·rw[ef]
      conv=>lhs;unfold aJ.fit
      rw[aM c1,hm];show(if m=b then _ else none)=_;rw[aM e2]
   |none=>
    refine{_,9,9,_,9,?_};refine dU 723 723
    ·simp at c2
    ·refine{_,9,_,9,_,9,p,_,9,AR.k (k:=Sum.inr z) gh (by rw[Zq];exact bw (show gi.length<3000 by lia) (by rw[bX];decide)),?_};rw[Td hm];refine{_,_,gi++[(z,b)],9,λb' u h=>?_,av,xp qF hm,by rw[aD];show gi.length+1<=_;lia,?_}
     ·rw[aL (bC h hp)];exact xm _ _ h
     ·rw[ef]
      conv=>lhs;unfold aJ.fit
      rw[aM c1,hm]
  ·have c1:=c1;refine{_,9,_,9,9,_,9,?_};refine dU 723 723
   ·refine k1 H3 xm ?_;rw[ef];unfold aJ.fit;rw[aI c1,aI (λe=>by rw[e]at c2;simp at c2)]
   ·have e2:z=b:=by have:¬¬(V.str z=V.str b):=λh=>c2 721;have:=j6.mp this;injection this
    refine{_,_,gi,9,xm,gh,qF,8,?_};rw[ef]
    conv=>lhs;unfold aJ.fit
    rw[aI c1,aM e2]
 ·rintro Z H2 ⟨x4,x5,gi,rfl,s2,ir,qF,lg2,ef⟩;rw[Jp,ju (aw _),ju ∅]at ef;exact{_,9,k2 p gi H2 s2 hp ir ef}
structure FF(K:Frag)(H:Hp)(p:Addr)(fs:List En):Prop where
 at_:H p=some 654
 nm:(fs.map (·.nm)).Nodup
 en:∀e∈fs,H e.ad=some (.lst e.ys)/\eE K H e.ys e.rows/\e.rows.length<=60/\∀r∈e.rows,r.length<=100
def FF.same(x:FF K H p fs)(s:aK H H'):FF K H' p fs:={s _ _ x.at_,x.nm,λe he=>by obtain⟨h1,h2,h3⟩:=x.en e he;exact{s _ _ h1,fE h2 s,h3}}
def DB(fs:List En):List aJ.Atom:=(fs.map λe=>e.rows.map λr=>(e.nm,r)).flatten
def T1{fs:List En}{z:Str}{r:Aaf}(nd:(fs.map (·.nm)).Nodup):(z,r)∈DB fs↔r∈iX fs z:=by
 unfold DB;rw[iw];constructor
 ·rintro⟨l,hl,h⟩;obtain⟨e,he,rfl⟩:=aE.mp hl;obtain⟨r',UM,q⟩:=aE.mp h;cases q;rw[sH nd he];exact UM
 ·intro h;unfold iX at h;cases q:fs.find? (λe=>decide (e.nm=z))with
  |none=>rw[q]at h;cases h
  |some e=>
   rw[q]at h;have e1:=aT (nK (p:=λe:En=>decide (e.nm=z)) q);exact{_,aE.mpr {e,gx q,9},aE.mpr {r,h,by rw[e1]}}
def Xx(x:FF K H p fs)(h0:H l0=some 661)(z:Str):∃q ys,(iG 657 (Sum.inr z:Key)).getD (.ref l0)=.ref q/\H q=some 679/\eE K H ys (iX fs z)/\(iX fs z).length<=60/\∀r∈iX fs z,r.length<=100:=by
 cases h:iG 657 (Sum.inr z:Key)with
 |some v=>
  obtain⟨e,he,rfl,rfl⟩:=EF h;obtain⟨h1,h2,h3,h4⟩:=x.en e he;rw[sH x.nm he];exact{e.ad,e.ys,9,h1,h2,h3,h4}
 |none=>
  have:iX fs z=[]:=by
   unfold iX;cases q:fs.find? (λe=>decide (e.nm=z))with
   |none=>rfl
   |some e=>
    have e1:=aT (nK (p:=λe:En=>decide (e.nm=z)) q);rw[<-e1,kX x.nm (gx q)]at h;cases h
  rw[this];exact{l0,[],9,h0,.nil,aP _,λr h=>by cases h}
abbrev Yk(H:Hp)(g:df)(ts:Aaf):Aam->Hz->Prop:=Paired λ(v:V)(row:Aaf)=>(aJ.fit bo g ts row=none/\v=.cz)\/∃g' p,aJ.fit bo g ts row=some g'/\v=.ref p/\H p=some (.dK (gK g'))
abbrev IJ(H:Hp):Aam->List df->Prop:=Paired λ(v:V)(g:df)=>∃p,v=.ref p/\H p=some (.dK (gK g))
def Bw{H H':Hp}{g:df}{ts:Aaf}{vs:Aam}{rs:Hz}(h:Yk H g ts vs rs)(s:aK H H'):Yk H' g ts vs rs:=by
 induction h with
 |nil=>exact .nil
 |cons h _ ih=>exact .cons (h.imp id λ⟨g',p,e1,e2,h⟩=>{g',p,e1,e2,s _ _ h}) ih
def JM{H H':Hp}{vs:Aam}{gs:List df}(h:IJ H vs gs)(s:aK H H'):IJ H' vs gs:=by
 induction h with
 |nil=>exact .nil
 |cons h _ ih=>exact .cons (let⟨p,e,h⟩:=h;{p,e,s _ _ h}) ih
abbrev DH(H:Hp)(g:df)(fs:List En):Aam->List aJ.Atom->Prop:=Paired λ(v:V)(a:aJ.Atom)=>∃l zs,v=.ref l/\H l=some 690/\IJ H zs ((iX fs a.1).filterMap (aJ.fit bo g a.2))
def FO{H H':Hp}{g:df}{fs:List En}{vs:Aam}{as:List aJ.Atom}(h:DH H g fs vs as)(s:aK H H'):DH H' g fs vs as:=by
 induction h with
 |nil=>exact .nil
 |cons h _ ih=>exact .cons (let⟨l,zs,e,h1,h2⟩:=h;{l,zs,e,s _ _ h1,JM h2 s}) ih
def Qo{H:Hp}{g:df}{fs:List En}{ys:Aam}{p:List aJ.Atom}(h:DH H g fs ys p):∃jT:List Int,jT.length=p.length/\∀(i:Nat) l mV,ys[i]?=some 720->H l=some (.lst mV)->jT[i]?=some (mV.length:Int):=by
 induction h with
 |nil=>exact{[],9,λi l mV e=>by simp at e}
 |cons h _ ih=>
  obtain⟨l,mV,rfl,h1,_⟩:=h;obtain⟨jT,e1,e2⟩:=ih;refine{(mV.length:Int)::jT,by rw[bF,bF,e1],λi l' Ws e h=>?_};cases i with
  |zero=>
   cases e;rw[h1]at h;cases h;rfl
  |succ i=>exact e2 i l' Ws (by simpa using e) h
structure aht(K:Frag)(H:Hp)(p d:Addr)(fs:List En)(g:df)(U:Aaf)(left:List aJ.Atom):Prop where
 tb:FF K H p fs
 hd:H d=some (.dK (gK g))
 nd:(keys g).Nodup
 gU:∀u∈keys g,u∈U
 pU:∀u∈aJ.jx bo left,u∈U
 lU:U.length<=1000
 ts:∀a∈left,a.2.length<=100/\∀z∈a.2,k7 z=true/\z.length<=100
 l8:left.length<=08
inductive vB(K:Frag)(n:Nat)(vs:Aam)(H:Hp)(Q:VK)(_x3:XK):Prop
 |mk (l p d:Addr) (ys:Aam) (left:List aJ.Atom) (fs:List En) (g:df) (U:Aaf) (_:vs=[.ref l,.ref p,.ref d]) (_:left.length<n) (_:bf K H l ys) (_:kK K H ys left) (_:aht K H p d fs g U left) (_:∀H' b,aK H H'->(b=true↔aJ.rX bo (DB fs) g left)->Q (.bl b) H')
structure Dfi(P:Program)(w:World)(K:Frag)(mg:Aab)(base:Heap)(n:Nat):Prop where
 HZ:cq P w K mg base 1 "_law_bound" ["_law_terms_here","_law_row","_law_given"] (Dk K)
 E8:cq P w K mg base (2+n) "_law_filled" ["_law_left","_law_tables","_law_given"] (vB K n)
def kn:bZ ["_law_left","_law_tables","_law_given","_law_ways","_law_name","_law_terms_here","_law_some","_law_counts","_law_at","_law_more"] ["_law_left","_law_tables","_law_given"] (defScope vc):=gC 53
def TC{f:Addr}{fd:FuncData}{n:Nat}(F:dF K "_law_filled" "_law_filled" vc f fd)(T:Txt K mg)(D:Dfi P w K mg base n):cK P w K mg base d7 (2+(n+1)) f fd ["_law_left","_law_tables","_law_given"] (vB K (n+1)):=by
 rw[show 2+(n+1)=(2+n)+1 by lia];refine F.ok kn (λ_ _ _ _ h=>by cases h;subst_vars;rfl) 54;obtain⟨l,p,d,ys,left,fs,g,U,rfl,ln,hl,kD,ak,k⟩:=h;have hu:=mK hr;refine{_,(aB (dg (bY (Ga hr.FP) (pv 0) (dR iz) (cB _)) 669 cy) (aB (dM 3 kn (dR iz)) (aB (dJ bE 9 (dI (pv 0)) (jA 9 (cj (gg 4 kn) (cj (qD (i:=5) kn.nd 9 (Or.inr 9)) fY))) (aB (oQ (j:=6) kn.nd 9 9 9 (cV (fs:=["_law_terms_here","_law_given"]) (fr:=[5,2])) (dI (sL hu (pv 1) (pv 4) (dR iz) Zk)) (λ_ _ _ _=>(cl D.HZ hr (jX (pv 1) (pv 0) (pv 2)) ∅))) (aQ (fR (iL bI gN gM qG (pv 3) (bW (k9 9 684 (dI (pv 6)) (λ_ _ _ _=>(bY HK (pv 0) jB (cB _))) 731))))))) (aB (oQ (j:=07) kn.nd 9 9 9 684 (dI (pv 3)) (λ_ _ _ _=>(bM (xD) 9 T.eJ bG 714))) (aB (dM 08 kn (iL bI wU wQ Jo (pv 07) (bW (bM (J0 9) 9 T.Zh 53 (bW (pv 07)))))) (aB (dJ bE 9 (dI (bH eM (pv 3) (pv 08) (λ_ _=>9))) (gg 09 kn) (aQ (dg (gH (cl D.E8 hr (jX (c9 vR (mJ yN (pv 0) oS (oR (pv 08))) (mJ yN (pv 0) (oR (c9 jc (pv 08) aO)) oS)) (pv 1) (pv 09)) ∅)) 669 cy))) 669)))))),?_}
 have Mr:=bc kD;refine{_,9,399,λl0 sf=>?_};have s1:aK H (upd H l0 661):=aA sf _;have h01:upd H l0 661 l0=some 661:=av;generalize (upd H l0 661)=H1 at s1 h01⊢;refine{_,_,_,9,9,iZ hl s1,bf.of h01,_,9,?_};cases left with
 |nil=>
  cases kD;exact kz (k H1 true s1 {λ_=>{aJ.over g (λu=>u),aJ.nj ak.nd,λa ha=>by cases ha},λ_=>9})
 |cons a0 r0=>
 have gJ:a0::r0≠[]:=by simp
 generalize a0::r0=left at kD ak k ln Mr gJ;have eI:ys.isEmpty=false:=by
  cases kD with
  |nil=>exact absurd rfl gJ
  |cons _ _=>rfl
 rw[eI];refine eS ?_;have l8:=ak.l8;refine{399,λwl za=>?_};have s2:aK H (upd H1 wl 661):=s1.trans (aA za _);have agH:upd H1 wl 661 wl=some 661:=av;have wl0:H wl=none:=by
  cases q:H wl with
  |none=>rfl
  |some u=>rw[s1 _ _ q]at za;cases za
 have lg:g.length<=1000:=by have:=jL ak.nd ak.gU;have h2:=ak.lU;unfold keys at this;rw[aj]at this;lia
 refine{_,rfl,l,rfl,{_,iZ hl s2},gL (xs:=ys) (λi Z H3=>∃(x4 x5 x6:Aan)(yE:Aam),Z=[some 720,some 676,some 705,some (.ref wl),x4,x5,x6,none,none,none]/\i<=left.length/\aK H H3/\H3 wl=some (.lst yE)/\DH H3 g fs yE (left.take i)/\∀v∈yE,v≠ .ref wl)
  {_,_,_,[],9,aP _,s2,agH,.nil,λv h=>by cases h} ?_ ?_ ?_}
 ·rintro i Z H3 hi ⟨_,_,_,_,rfl,_,s3,_⟩;exact iZ hl s3
 ·rintro i x Z H3 hx ⟨_,_,_,yE,rfl,hi,s3,UE,JJ,nw3⟩;obtain⟨a,ha,Ce⟩:=Paired.at' kD hx;have bO:=(au.mp ha).1;obtain⟨ab,ac,rfl,v8,qI⟩:=Ce.same s3;obtain⟨at1,at2⟩:=ak.ts a (az ha);refine{ab,_,9,v8,9,_,_,9,_,_,9,9,?_};refine{_,9,p,9,.inl {_,.inl (s3 _ _ ak.tb.at_)},_,9,399,λl1 nA=>?_};have s4:aK H3 (upd H3 l1 661):=aA nA _;have h14:upd H3 l1 661 l1=some 661:=av;generalize (upd H3 l1 661)=H4 at s4 h14⊢;have nW:=s3.trans s4;have tb4:=ak.tb.same nW;refine{_,kW.k (k:=Sum.inr a.1) tb4.at_,?_};obtain⟨q,mV,eq,hq,hR,lR,lrr⟩:=Xx tb4 h14 a.1;rw[eq];generalize adK:iX fs a.1=rows at hR lR lrr;have lry:=bc hR;refine{q,9,{_,bf.of hq},iS (xs:=mV) (λj zs H5=>aK H4 H5/\j<=rows.length/\Yk H5 g a.2 zs (rows.take j)) (bt ∅) {aK.refl _,aP _,.nil} ?_ ?_ ?_}
  ·rintro j zs H5 hj ⟨s5,zh,hW⟩;refine{bf.of (s5 _ _ hq),?_};rw[bc hW,a9];lia
  ·rintro j y zs H5 N hy ⟨s5,zh,hW⟩ pV;obtain⟨row,lK,ra,rfl,Gr⟩:=Paired.at' hR hy;have lP:=(au.mp lK).1;have e1:rows.take (j+1)=rows.take j++[row]:=by rw[bj,lK];rfl
   refine{_,9,_,9,_,9,d,ac,ra,g,a.2,row,9,(nW.trans s5) _ _ ak.hd,lg,ak.nd,gf qI (s4.trans s5),gf Gr s5,8,bu (lrr row (az lK)) 7,at2,λH6 s6 e6=>?_,λpp g6 H6 s6 p0 JC e6=>?_}
   ·refine pV _ _ {s5.trans s6,lP,?_};rw[e1];exact fK (Bw hW s6) (.cons (.inl ⟨e6,rfl⟩) .nil)
   ·refine pV _ _ {s5.trans s6,lP,?_};rw[e1];exact fK (Bw hW s6) (.cons (.inr ⟨g6,pp,e6,rfl,JC⟩) .nil)
  rintro zs H5 ⟨s5,_,hW⟩ sl MR;rw[lry,aS]at hW;have s6:aK H4 (upd H5 sl 690):=s5.trans (aA MR _);have hs6:upd H5 sl 690 sl=some 690:=av;have hW6:=Bw hW (aA MR 690);generalize (upd H5 sl 690)=H6 at s6 hs6 hW6⊢;have ZE:=s6 _ _ (s4 _ _ UE);have lzs:=bc hW6;refine{_,9,.inl {9,_,bf.of ZE},_,9,sl,9,{_,bf.of hs6},iS (xs:=zs) (λj us H7=>H7=H6/\j<=rows.length/\IJ H6 us ((rows.take j).filterMap (aJ.fit bo g a.2))/\us.length<=j) (bt ∅) {9,aP _,.nil,aw _} ?_ ?_ ?_}
  ·rintro j us H7 hj ⟨rfl,zh,hG,lu⟩;exact{bf.of hs6,lu}
  ·rintro j y us H7 N hy ⟨e7,zh,hG,lu⟩ pV;rw[e7];obtain⟨row,lK,hv⟩:=Paired.at' hW6 hy;have lP:=(au.mp lK).1;have e1:rows.take (j+1)=rows.take j++[row]:=by rw[bj,lK];rfl
   rcases hv with⟨e6,rfl⟩|⟨g6,pp,e6,rfl,JC⟩
   ·refine{_,9,9,_,9,eS (pV _ _ {9,lP,?_,8})};rw[e1,zD,fI,e6];simpa using hG
   ·refine{_,9,9,_,9,kz {_,9,pV _ _ {9,lP,?_,aD▸gO lu}}};rw[e1,zD,fI,e6];exact fK hG (.cons ⟨pp,rfl,JC⟩ .nil)
  rintro us H7 ⟨e7,_,hG,_⟩ gl PL;rw[e7]at PL⊢;rw[lzs,aS,<-adK]at hG;have s8:aK H6 (upd H6 gl (.lst us)):=aA PL _;have ZQ:upd H6 gl (.lst us) gl=some (.lst us):=av;have gw:gl≠wl:=λe=>by rw[e,ZE]at PL;cases PL
  generalize (upd H6 gl (.lst us))=H8 at s8 ZQ⊢;have lwv:yE.length<=08:=by rw[bc JJ,a9];lia
  refine{wl,yE,_,9,9,s8 _ _ ZE,by rw[bX];lia,?_};have nd8:∀{b:Addr}{u:HO},b≠wl->H8 b=some u->upd H8 wl (.lst (yE++[.ref gl])) b=some u:=λ{b u} n h=>aL n▸h;have gk:∀{us:Aam}{gs:List df},IJ H8 us gs->IJ (upd H8 wl (.lst (yE++[.ref gl]))) us gs:=λ{us gs} h=>by
   induction h with
   |nil=>exact .nil
   |cons h _ ih=>
    obtain⟨pp,e,h⟩:=h;exact .cons {pp,e,nd8 (λq=>by rw[q,s8 _ _ ZE]at h;cases h) h} ih
  have wk:∀{vs:Aam}{as:List aJ.Atom},DH H8 g fs vs as->(∀v∈vs,v≠ .ref wl)->DH (upd H8 wl (.lst (yE++[.ref gl]))) g fs vs as:=λ{vs as} h=>by
   induction h with
   |nil=>intro _;exact .nil
   |cons h _ ih=>
    intro n;obtain⟨ll,zz,rfl,h1,h2⟩:=h;exact .cons {ll,zz,9,nd8 (λq=>n _ aF (by rw[q])) h1,gk h2} (ih λv hv=>n v (aG _ hv))
  refine{_,_,_,yE++[.ref gl],9,bO,λb u h=>?_,av,?_,λv hv=>?_}
  ·rw[aL (bC h wl0)];exact s8 _ _ ((nW.trans s6) _ _ h)
  ·rw[bj,ha];exact fK (wk (FO JJ ((s4.trans s6).trans s8)) nw3) (.cons {gl,us,9,nd8 gw ZQ,gk (JM hG s8)} .nil)
  ·rcases aV.mp hv with hv|hv
   ·exact nw3 v hv
   ·rw[aC.mp hv]
    exactλe=>gw (by injection e)
 rintro Z H3 ⟨_,_,_,yE,rfl,_,s3,UE,JJ,_⟩;rw[Mr,aS]at JJ;have lwv:=bc JJ;obtain⟨jT,Rr,e6⟩:=Qo JJ;refine{_,9,wl,9,{_,bf.of UE},iS (xs:=yE) (λi zs H7=>H7=H3/\i<=left.length/\zs=(jT.take i).map V.int) (bt ∅) {9,aP _,9} ?_ ?_ ?_}
 ·rintro i zs H7 hi ⟨rfl,mB,rfl⟩;refine{bf.of UE,?_};rw[aj,a9];lia
 ·rintro i x zs H7 N hx ⟨rfl,mB,rfl⟩ pV;obtain⟨a,ha,ll,zz,rfl,Ba,hr⟩:=Paired.at' JJ hx;have bO:=(au.mp ha).1;refine{_,9,_,_,9,.inl {_,bf.of Ba,9},pV _ _ {9,bO,?_}};rw[bj,e6 i ll zz hx Ba,aH];rfl
 rintro cvs H7 ⟨e7,_,rfl⟩ cl lZ;rw[e7]at lZ⊢;rw[lwv,c7 ∅];have s4:aK H3 (upd H3 cl 734):=aA lZ _;have Rx:upd H3 cl 734 cl=some 734:=av;generalize (upd H3 cl 734)=H4 at s4 Rx⊢;refine{_,9,.inl {9,_,bf.of Rx},_,9,cl,jT,9,bf.of Rx,?_,λm hm agV=>?_}
 ·rw[Rr];exact Br.mpr gJ
 obtain⟨j,hj,zf⟩:=Fe hm;refine{cl,jT,m,j,9,9,Rx,hj,zf,?_};have hjp:j<left.length:=by have:=(au.mp hj).1;lia
 obtain⟨va,UG⟩:∃va,yE[j]?=some va:={_,ay ∅};obtain⟨a,ha,al_,zz,rfl,ou,hG⟩:=Paired.at' (FO JJ s4) UG;have nW:=s3.trans s4;generalize hgs:(iX fs a.1).filterMap (aJ.fit bo g a.2)=gs at hG
 let rest:List aJ.Atom:=left.take j++left.drop (j+1)
 have pm:∀b,b∈left↔b=a\/b∈rest:=λb=>by
  have e:left=left.take j++a::left.drop (j+1):=by
   conv=>lhs;rw[<-jP j left]
   rw[gA hjp,(au.mp ha).2]
  conv=>lhs;rw[e]
  show b∈left.take j++a::left.drop (j+1)↔b=a\/b∈left.take j++left.drop (j+1);simp only[aV,aN];exact{687,687}
 have Zo:rest.length+1=left.length:=by rw[aD,a9,dE];lia
 have fits:∀g'∈gs,∃row,(a.1,row)∈DB fs/\aJ.fit bo g a.2 row=some g':=λg' PN=>by rw[<-hgs]at PN;obtain⟨row,hr,e⟩:=lE.mp PN;exact{row,(T1 ak.tb.nm).mpr hr,e}
 refine{_,rfl,_,rfl,_,_,_,_,rfl,rfl,bf.of (s4 _ _ UE),hJ UG,al_,rfl,{_,bf.of ou},gL (xs:=zz) (λi Z H8=>∃x9:Aan,(∃x4 x5 x6:Aan,Z=[some 720,some 676,some 705,some (.ref wl),x4,x5,x6,some (.ref cl),some (.int j),x9])/\i<=gs.length/\aK H4 H8/\∀g'∈gs.take i,¬aJ.rX bo (DB fs) g' rest)
  {_,⟨_,_,_,rfl⟩,aP _,aK.refl _,λg' h=>by simp at h} ?_ ?_ ?_}
 ·rintro i Z H8 hi ⟨_,⟨_,_,_,rfl⟩,_,s8,_⟩;exact bf.of (s8 _ _ ou)
 ·rintro i x Z H8 hx ⟨_,⟨_,_,_,rfl⟩,hi,s8,Gb⟩;obtain⟨g',PN,dp,rfl,hdp⟩:=Paired.at' hG hx;have bO:=(au.mp PN).1;obtain⟨row,lK,ahg⟩:=fits g' (az PN);have got:=aJ.Ih ak.nd ahg lK;have SS:=nW.trans s8;have ZM:=iZ hl SS;refine{_,9,vT {_,9,_,9,l,ys,9,ZM,λc1 PU=>?_}};rw[NQ];have kN:aK H8 (upd H8 c1 (.lst (ys.take j))):=aA PU _;have JL:upd H8 c1 (.lst (ys.take j)) c1=some (.lst (ys.take j)):=av;generalize (upd H8 c1 (.lst (ys.take j)))=ie at kN JL⊢;refine{_,9,_,9,_,_,9,9,_,9,vT {l,ys,9,iZ ZM kN,λc2 ub=>?_}};rw[show((j:Int)+1)=((j+1:Nat):Int)from rfl,NP];have q9:aK ie (upd ie c2 728):=aA ub _;have JK:upd ie c2 728 c2=some 728:=av;generalize (upd ie c2 728)=mD at q9 JK⊢;refine{c1,c2,_,_,9,9,q9 _ _ JL,JK,by rw[a9,dE,bX];lia,λc3 hc3=>?_};have A1:aK mD (upd mD c3 680):=aA hc3 _;have Vc:upd mD c3 680 c3=some 680:=av;generalize (upd mD c3 680)=uZ at A1 Vc⊢;have Wq:=kN.trans (q9.trans A1);have Wr:=SS.trans Wq;have ur:∀u,u∈aJ.jx bo rest->u∈aJ.jx bo left:=λu hu=>by obtain⟨b,hb,h⟩:=aJ.cQ.mp hu;exact aJ.cQ.mpr {b,(pm b).mpr (.inr hb),h}
  have ua:∀u,u∈aJ.jx bo [a]->u∈aJ.jx bo left:=λu hu=>by obtain⟨b,hb,h⟩:=aJ.cQ.mp hu;exact aJ.cQ.mpr {b,(pm b).mpr (.inl (aC.mp hb)),h}
  have MM:=kD.same Wr;refine{_,9,_,9,c3,p,dp,_,rest,fs,g',U,9,8,bf.of Vc,fK (yc j MM) (yd (j+1) MM),({ak.tb.same Wr,Wq _ _ (s8 _ _ hdp),got.nd,λu hu=>((got.ks u).mp hu).elim (ak.gU u) λh=>ak.pU u (ua u h),λu hu=>ak.pU u (ur u hu),ak.lU,λb hb=>ak.ts b ((pm b).mpr (.inr hb)),8}),λqM b s13 hb=>{_,9,?_}};refine dU 668 668
  ·refine k qM true (Wr.trans s13) {λ_=>?_,λ_=>9};obtain⟨h,ag,ft⟩:=hb.mp c;refine{h,aJ.iD.longer ak.nd got.lg ag,694};rcases(pm b).mp hb with rfl|hb
   ·exact got.ft h ag b aF
   ·exact ft b hb
  ·refine{_,⟨_,_,_,rfl⟩,bO,s8.trans (Wq.trans s13),λg2 h2=>?_};rw[bj,PN]at h2;rcases aV.mp h2 with h2|h2
   ·exact Gb g2 h2
   ·have:g2=g':=by simpa using h2
    rw[this]
    exactλhc=>c (hb.mpr hc)
 ·rintro Z H8 ⟨_,⟨_,_,_,rfl⟩,_,s8,Gb⟩;rw[(bc hG),aS]at Gb;refine k H8 false (nW.trans s8) {λh=>(by cases h),λhc=>?_};exfalso;refine aJ.Jj ak.nd (λh ag hm=>(T1 ak.tb.nm).mp hm) (λrow hr way e=>Gb way ?_) pm hc;rw[<-hgs];exact lE.mpr ⟨row,hr,e⟩
theorem GG{f:Addr}{fd:FuncData}(F:dF K "_law_filled" "_law_filled" vc f fd)(m:mg "_law_filled"=some 700)(kp:keepIn K 700=true)(b:Binds K fd ["_law_left","_law_tables","_law_given"] [])(T:Txt K mg)
  (D:cq P w K mg base 1 "_law_bound" ["_law_terms_here","_law_row","_law_given"] (Dk K)):∀n,cq P w K mg base (2+n) "_law_filled" ["_law_left","_law_tables","_law_given"] (vB K n)
 |0=>by have Mg:∀vs H Q E,¬vB K 0 vs H Q E:=λvs H Q E ⟨_,_,_,_,_,_,_,_,_,h,_,_,_,_⟩=>absurd h (fU _);exact{f,fd,{λvs H Q E h=>absurd h (Mg vs H Q E),λA outer s H args us vs Q E _ _ _ _ h=>absurd h (Mg vs H Q E)},m,kp,b}
 |n+1=>{f,fd,TC F T {D,GG F m kp b T D n},m,kp,b}
inductive IZ(K:Frag)(vs:Aam)(H:Hp)(Q:VK)(_x3:XK):Prop
 |mk (v:V) (p r:Addr) (hz:Aaf) (bb:Hw) (fs:List En) (row:Aaf) (_:vs=[v,.ref p,.ref r]) (_:QW H v hz bb) (_:FF K H p fs) (_:aZ K H r (row.map V.str)) (_:row.length<=100) (_:∀H' b,aK H H'->(b=true↔∃h,mR row (DB fs) hz bb h)->Q (.bl b) H')
structure Dan(P:Program)(w:World)(K:Frag)(mg:Aab)(base:Heap):Prop where
 HZ:cq P w K mg base 1 "_law_bound" ["_law_terms_here","_law_row","_law_given"] (Dk K)
 E8:cq P w K mg base (2+09) "_law_filled" ["_law_left","_law_tables","_law_given"] (vB K 09)
def BF:bZ ["_law_question_here","_law_tables","_law_row","_law_given"] ["_law_question_here","_law_tables","_law_row"] (defScope xY):=gC 53
def QX(F:dF K "_law_answers" "_law_answers" xY f fd)(T:Txt K mg)(D:Dan P w K mg base):cK P w K mg base d7 12 f fd ["_law_question_here","_law_tables","_law_row"] (IZ K):=by
 refine F.ok BF (λ_ _ _ _ h=>by cases h;subst_vars;rfl) 54;obtain⟨v,p,r,hz,bb,fs,row,rfl,qw,tb,je,lr,k⟩:=h;obtain⟨q,hd,aa,cW,rfl,hq,Cj,m7,fV⟩:=qw.at';refine{_,(aB (dM 3 BF (cl D.HZ hr (jX (bH b4 (pv 0) aO (λ_ _=>9)) (pv 2) jm))) (aQ (bK (tV (ni HK (pv 3) jB (cB _)) (vP (cl D.E8 hr (jX (cU kH 9 T.pT 53 (bW (bH b4 (pv 0) aO (λ_ _=>9)))) (pv 1) (pv 3)))))))),?_}
 have h4:=qw.h4;have l8:=qw.l8;refine{_,9,_,_,_,_,9,9,aZ.of hq,9,_,9,λe0 GB=>?_};have s1:aK H (upd H e0 655):=aA GB _;have he1:upd H e0 655 e0=some (.dK (gK [])):=av;refine{e0,hd,r,[],hz,row,9,he1,aP _,eB,aZ.of (s1 _ _ Cj),gf je s1,8,8,λz kC=>{(fZ (qw.hh z kC)).1,(fZ (qw.hh z kC)).2.1},λH2 s2 e2=>?_,λd g0 H2 s2 d0 hd2 e2=>?_}
 ·refine{_,9,9,_,9,eS (k H2 false (s1.trans s2) {λh=>(by cases h),λaf7=>?_})};obtain⟨h,hl⟩:=af7;obtain⟨g',e,_⟩:=aJ.uc (g:=[]) eB (λp hp=>by cases hp);rw[hl.1,e2]at e;cases e
 ·refine{_,9,9,_,9,kz ?_};have vN:=s1.trans s2;obtain⟨n0,_,Zx,Xu⟩:=aJ.sT (g:=[]) eB e2;refine{_,9,_,_,_,_,9,9,aZ.of (vN _ _ hq),9,aa,cW,9,.inr (aZ.of (vN _ _ m7)),λl hl=>?_};have s3:aK H2 (upd H2 l (.lst cW)):=aA hl _;have t7:upd H2 l (.lst cW) l=some (.lst cW):=av;have nX:=vN.trans s3;have uf:∀u,u∈aJ.jx bo bb->u∈bD bb:=λu hu=>by obtain⟨b,hb,h,_⟩:=aJ.cQ.mp hu;exact iB.mpr ⟨b,hb,h⟩
  have lf:(bD bb).length<=4*bb.length:=by have:=qw.good.len bb.length;rw[aS]at this;exact this
  refine{_,9,_,9,l,p,d,cW,bb,fs,g0,hz++bD bb,9,8,bf.of t7,IC (fV.keep (cv.of nX)),{tb.same nX,s3 _ _ hd2,n0,λu hu=>bz _ ((λu hu=>((Zx u).mp hu).elim (λh=>by cases h) id) u hu).1,λu hu=>bh _ (uf u hu),by rw[aD];lia,λa ha=>?_,l8},λH4 b s4 hb=>k H4 b (nX.trans s4) (hb.trans ?_)}
  ·have g:=qw.good a ha;exact⟨by have:=g.2.2.1;lia,λz kC=>{(fZ (g.2.2.2 z kC)).1,(fZ (g.2.2.2 z kC)).2.1}⟩
  ·constructor
   ·rintro⟨h,ag,ft⟩;exact{h,Xu h ag,ft}
   ·rintro⟨h,hl⟩;obtain⟨g',e,ag⟩:=aJ.uc (g:=[]) eB (λp hp=>by cases hp);rw[hl.1,e2]at e;cases e;exact{h,ag,hl.2}
def Kw{X:Cx}:gZ X (.builtin "isinstance") (λxs H Q=>∃a ys n b,xs=[.ref a,.ty n]/\aZ X.K H a ys/\kitOne X.K (.type "tuple") (.type n)=some b/\Q (.bl b) H):=by intro pins s Z H xs us Q I r h;obtain⟨a,ys,n,b,rfl,hq,e,q⟩:=h;obtain⟨u,w',rfl,ru,pQ⟩:=vals2 r;cases ru;cases pQ;obtain⟨ba,_,⟨o,h1,h2,_⟩,_⟩:=I.tuple hq;exact fu CV I.mY ⟨o,h1,h2⟩ e 701 λtk=>{.bl b,H,I.tok tk,9,q}
inductive Sy(vs:Aam)(H:Hp)(Q:VK)(_x3:XK):Prop
 |mk (z:Str) (_:vs=[.str z]) (_:isVal z=true) (_:∀H',aK H H'->Q (.bl true) H')
def Lv:bZ ["_law_thing"] ["_law_thing"] (defScope xW):=gC 53
def QU{f:Addr}{fd:FuncData}(F:dF K "_law_is_word" "_law_is_word" xW f fd)(T:Txt K mg):cK P w K mg base d7 1 f fd ["_law_thing"] Sy:=by
 refine F.ok Lv (λ_ _ _ _ h=>by cases h;subst_vars;rfl) 54;obtain⟨z,rfl,hz,k⟩:=h;refine{_,(aB (dg (PW.pt (oP (i9 (gH (bM js 9 T.h9 53 (cw (pv 0) (tE (n:="str") 9 T.Gd 53))))) (pR (i9 (WB xo xo aO (bM c6 9 T.eJ bG 714) aO))))) 669 cy) (aQ (bK (ni (Ga hr.FP) (k9 9 684 (To (pv 0)) (λ_ _ _ _=>(bY L5 (pv 0) cT 650)) 731) (dR iz) (cB _))))),?_}
 have hz8:=vj hz;have hv:=hz;unfold isVal at hv;rw[bP,bP]at hv;have h1:=aT hv.1;refine{_,9,_,_,_,true,9,pK.str z,om _,_,9,eS ?_};refine{_,9,_,_,9,{(bB (bt ∅)),9},_,_,9,9,_,9,?_};rw[bg (show(0:Int)<(z.length:Int) by lia)];refine kz {_,_,9,9,_,9,?_};rw[bg (show(z.length:Int)<09 by lia)];refine eS ?_;refine{_,9,_,9,X6 (λi ys H2=>H2=H/\ys=[]) (bt (show z.length<=1000 by lia)) ⟨rfl,rfl⟩ ?_ ?_ ?_}
 ·rintro i ys H2 hi ⟨rfl,rfl⟩;exact aP _
 ·rintro i c ys H2 N hc ⟨rfl,rfl⟩ hN;have sc:sgn c=true:=by have:=bN.mp hv.2.2 (sgn c) (bS (az (by simpa using hc)));exact this
  refine{_,9,_,_,9,9,_,9,?_};refine dU (λc3=>?_) (λc3=>hN _ _ ⟨rfl,rfl⟩);have c3:(!sgn c)=true:=c3;rw[sc]at c3;cases c3
 ·rintro ys H2 ⟨rfl,rfl⟩ l hl;refine{399,λl2 gd=>?_};refine{_,_,_,9,9,bf.of (by rw[aL (bC av gd)];exact av),bf.of av,?_};exact k _ ((aA hl _).trans (aA gd _))
inductive Qz(K:Frag)(vs:Aam)(H:Hp)(Q:VK)(_x3:XK):Prop
 |mk (a:Addr) (zs:Aaf) (_:vs=[.ref a]) (_:aZ K H a (zs.map V.str)) (_:zs.length<=100) (_:(∀z∈zs,isVal z=true)) (_:∀H',aK H H'->Q (.bl true) H')
structure Dw1(P:Program)(w:World)(K:Frag)(mg:Aab)(base:Heap):Prop where
 Ug:cq P w K mg base 1 "_law_is_word" ["_law_thing"] Sy
def Ob:bZ ["_law_row"] ["_law_row"] (defScope zS):=gC 53
def Tz{f:Addr}{fd:FuncData}(F:dF K "_law_is_row" "_law_is_row" zS f fd)(T:Txt K mg)(D:Dw1 P w K mg base):cK P w K mg base d7 2 f fd ["_law_row"] (Qz K):=by
 refine F.ok Ob (λ_ _ _ _ h=>by cases h;subst_vars;rfl) 54;obtain⟨a,zs,rfl,ha,lz,vz,k⟩:=h;refine{_,(aQ (bK (tV (bM Kw 9 T.h9 53 (cw (pv 0) (tE (n:="tuple") 9 T.iA 53))) (vP (ni og fJ (kZ 9 684 (iy (pv 0)) (λ_ _ _ _=>(cl D.Ug hr 714))) 650))))),?_};refine{_,9,a,_,_,_,9,ha,om _,_,9,kz ?_};refine{_,9,a,9,⟨_,ha⟩,mN (xs:=zs.map V.str) (λi ys H2=>aK H H2/\i<=zs.length/\ys=(List.replicate i true).map V.bl) (by rw[(aj _)];exact bt ∅) {aK.refl H,aP _,9} ?_ ?_ ?_}
 ·rintro i ys H2 hi ⟨s2,mB,rfl⟩;refine{gf ha s2,?_};rw[aj,gF];exact aw _
 ·rintro i x ys H2 N hc ⟨s2,mB,rfl⟩ hN;obtain⟨z,hz,rfl⟩:=iP hc;have bO:=(au.mp hz).1;refine{_,9,z,9,vz z (az hz),λH3 s3=>hN _ _ {s2.trans s3,bO,?_}};rw[AJ,aH];rfl
 ·rintro ys H2 ⟨s2,_,rfl⟩ l hl;refine{l,_,9,.inl (bf.of av),9,Nu _,?_};rw[NU];have:(List.replicate (zs.map V.str).length true).all id=true:=bN.mpr λb hb=>by rw[(C2.mp hb).2];rfl
  rw[this];exact k _ (s2.trans (aA hl _))
structure rN(K:Frag)(H:Hp)(p:Addr)(fs:List En):Prop where
 at_:H p=some 654
 nm:(fs.map (·.nm)).Nodup
 en:∀e∈fs,isVal e.nm=true/\H e.ad=some (.lst e.ys)/\eE K H e.ys e.rows/\e.rows≠[]/\e.rows.length<=60/\(∀r∈e.rows,1<=r.length/\r.length<=4/\∀z∈r,isVal z=true/\PyData.strOk z=true)/\iE e.rows=e.rows
inductive YF(K:Frag)(vs:Aam)(H:Hp)(Q:VK)(_x3:XK):Prop
 |mk (p:Addr) (fs:List En) (_:vs=[.ref p]) (_:rN K H p fs) (_:fs.length<=60) (_:∀H',aK H H'->Q (.bl true) H')
structure Dar(P:Program)(w:World)(K:Frag)(mg:Aab)(base:Heap):Prop where
 Ah:cq P w K mg base 2 "_law_is_row" ["_law_row"] (Qz K)
def qX:bZ ["_law_tables","_law_name","_law_rows"] ["_law_tables"] (defScope sG):=gC 53
def Kq{f:Addr}{fd:FuncData}(F:dF K "_law_are_tables" "_law_are_tables" sG f fd)(T:Txt K mg)(D:Dar P w K mg base):cK P w K mg base d7 3 f fd ["_law_tables"] (YF K):=by
 refine F.ok qX (λ_ _ _ _ h=>by cases h;subst_vars;rfl) 54;obtain⟨p,fs,rfl,tb,lf,k⟩:=h;refine{_,(aB (dg (i9 (gH (bM js 9 T.h9 53 (cw (pv 0) (tE (n:="dict") 9 T.B5 53))))) 669 cy) (aB (EX (dJ bE 9 (EZ (pv 0)) (gg 1 qX) (aB (dM 2 qX (qE (mK hr) (pv 0) (pv 1) (λ_ _=>9))) (aB (dg (PW.pt (oP (i9 (gH (cl D.Ah hr (bW (d9 722))))) (oP (i9 (gH (bM js 9 T.h9 53 (cw (pv 2) (tE (n:="list") 9 T.pT 53))))) (pR (bY (Ga hr.FP) (pv 2) (dR iz) (cB _)))))) 669 cy) (aQ (dg (PW.pt (oP (bY B1 fJ (kZ 9 684 (dI (pv 2)) (λ_ _ _ _=>(tV (cl D.Ah hr 714) (vP (LW xo xo aO (bM (xD) 9 T.eJ bG 714) aO))))) 650) (pR (bY (F8 hr.units) (pv 2) (bM (zu hr.hd) 9 T.sM 53 (bW (cU (JZ hr.hd hr.units) 9 T.Zg 53 (bW (pv 2))))) (cB _))))) 669 cy)))))) 669)),?_}
 refine{_,9,_,_,_,_,9,.dK tb.at_,om _,_,9,eS ?_};refine{p,(λo v e=>by rw[tb.at_]at e;cases e),_,9,p,_,_,9,tb.at_,.inl ⟨_,rfl,rfl⟩,λo=>?_};have jD:upd H p (.fB o 654) p=some (.fB o 654):=av;have t1:cN H (upd H p (.fB o 654)):=cN.upd (vS tb.at_);have en1:∀e∈fs,upd H p (.fB o 654) e.ad=some (.lst e.ys):=λe he=>by have h:=(tb.en e he).2.1;rw[aL (λq=>by rw[q,tb.at_]at h;cases h)];exact h
 have b1:∀b u,b≠p->H b=some u->upd H p (.fB o 654) b=some u:=λb u n h=>aL n▸h;generalize (upd H p (.fB o 654))=H1 at jD t1 en1 b1⊢;refine Cu (λi Z H2=>∃x1 x2:Aan,Z=[some 676,x1,x2]/\aK H1 H2) {_,_,9,aK.refl _} ?_ ?_ ?_
 ·rintro i Z H2 hi ⟨_,_,rfl,s2⟩;exact s2 _ _ jD
 ·rintro i kv Z H2 nB ⟨_,_,rfl,s2⟩;rw[b5,aW]at nB;obtain⟨e,GB,GK⟩:=br.mp nB;have GK:kv=(.str e.nm,.ref e.ad):=GK.symm;subst GK;have he:=az GB;obtain⟨vn,zi,hR,gJ,lR,gR,un⟩:=tb.en e he;have Zm:=bc hR;have M5:=s2 _ _ (en1 e he);have hR2:=fE (ji hR t1) s2;refine{_,9,_,9,p,.ref e.ad,9,.inl {657,Sum.inr e.nm,.inr {o,s2 _ _ jD},9,(kX tb.nm he).symm},?_};refine{_,9,(by show 1<=sizeLine;decide),λt ht=>?_};have s3:aK H2 (upd H2 t (.tup [.str e.nm])):=aA ht _;have jM:aZ K (upd H2 t (.tup [.str e.nm])) t (([e.nm]:Aaf).map V.str):=aZ.of av;refine{t,[e.nm],9,jM,by show 1<=100;decide,λz hz=>(aC.mp hz▸vn),λH4 s4=>{_,9,?_}};refine eS ?_;have pz:=s3.trans s4;refine{_,9,_,_,_,true,9,.lst (pz _ _ M5),om _,_,9,eS ?_};refine{_,9,399,λl0 sf=>?_};have s5:aK H4 (upd H4 l0 661):=aA sf _;have h05:upd H4 l0 661 l0=some 661:=av;generalize (upd H4 l0 661)=H5 at s5 h05⊢;have xl:=pz.trans s5;refine{_,_,_,9,9,bf.of (xl _ _ M5),bf.of h05,_,9,?_};have eI:e.ys.isEmpty=false:=by
   cases q:e.ys with
   |nil=>
    rw[q]at Zm;exact absurd (dD.mp Zm.symm) gJ
   |cons _ _=>rfl
  rw[eI];refine eS ?_;refine{_,9,e.ad,9,{_,bf.of (xl _ _ M5)},iS (xs:=e.ys) (λj us H6=>aK H5 H6/\j<=e.rows.length/\us=(List.replicate j true).map V.bl) (bt ∅) {aK.refl _,aP _,9} ?_ ?_ ?_}
  ·rintro j us H6 hj ⟨s6,zh,rfl⟩;refine{bf.of (s6 _ _ (xl _ _ M5)),?_};rw[aj,gF];exact aw _
  ·rintro j y us H6 N hy ⟨s6,zh,rfl⟩ hN;obtain⟨row,lK,ra,rfl,Gr⟩:=Paired.at' (fE hR2 (xl.trans s6)) hy;have lP:=(au.mp lK).1;obtain⟨r1,r4,rv⟩:=gR row (az lK);refine{_,9,ra,row,9,Gr,8,λz hz=>(rv z hz).1,λH7 s7=>{_,9,kz ?_}};refine{_,9,_,_,9,.inr {_,gf Gr s7,9},_,_,9,9,_,9,?_};rw[(aj _),bg (show(0:Int)<(row.length:Int) by lia)];refine kz {_,_,9,9,?_};rw[bg (show(row.length:Int)<5 by lia)];refine hN _ _ {s6.trans s7,lP,?_};rw[AJ,aH];rfl
  rintro us H6 ⟨s6,_,rfl⟩ l hl;have s7:aK H5 (upd H6 l (.lst 681)):=s6.trans (aA hl _);have hl7:upd H6 l (.lst 681) l=some (.lst 681):=av;generalize (upd H6 l (.lst 681))=H7 at s7 hl7⊢;refine{l,_,9,.inl (bf.of hl7),9,Nu _,_,9,?_};have ev:(if false=true then !tZ (.bl false) 681 else tZ (.bl false) 681)=false:=by
   rw[aI bL,NU];have:(List.replicate e.ys.length true).all id=true:=bN.mpr λb hb=>by rw[(C2.mp hb).2];rfl
   rw[this];rfl
  rw[ev];refine eS ?_;have s27:=xl.trans s7;have hR7:=fE hR2 s27;have adX:=s27 _ _ M5;refine{_,9,_,9,e.ad,e.ys,e.rows,9,bf.of adX,hR7,8,λa us ha0 nu mu lu MO=>?_};have s8:aK H7 (upd H7 a (.ext (uG P w a us))):=aA ha0 _;refine{a,us,e.ys,9,av,λx hx=>{Lf (MO x hx).1 s8,(MO x hx).2},λ_ x hx=>?_,8,λl2 zs gd kQ _=>?_}
  ·have:=(gR x.1 ((mu x.1).mp (bS hx))).1;intro q;rw[q]at this;cases this
  rw[EG nu mu,un]at kQ;have s9:aK (upd H7 a (.ext (uG P w a us))) (upd (upd H7 a (.ext (uG P w a us))) l2 690):=aA gd _;have s79:=s8.trans s9;have oku:=λr hr z hz=>((gR r hr).2.2 z hz).2;refine{iY e.rows,iY e.rows,Il (bf.of (s79 _ _ adX)) (fE hR7 s79),Il (bf.of av) (fE kQ s9),Eb oku,Eb oku,_,9,?_};have ev:(if true=true then !PyData.eqv (iY e.rows) (iY e.rows)else PyData.eqv (iY e.rows) (iY e.rows))=false:=by rw[aM rfl,NA,bg rfl];rfl
  rw[ev];exact eS {_,_,9,s2.trans (s27.trans s79)}
 ·rintro Z H2 ⟨_,_,rfl,s2⟩;refine{o,_,s2 _ _ jD,k _ λb u h=>?_};by_cases c:b=p
  ·rw[c,av];rw[c,tb.at_]at h;exact h
  ·rw[aL c];exact s2 _ _ (b1 b u c h)
def V0:(d8.all λz=>isVal z)=true:=by decide+kernel
def aeU(k:Nat):PyData.strOk (fT k)=true:=Y5 λc hc=>by
 rcases aN.mp hc with rfl|hc
 ·decide
 ·exact(RT hc).2
def Qq(l:Hz):iE (iE l)=iE l:=by have nd:(iE l).Nodup:=(uV.mF _).nodup_iff.mpr (rh l);rw[<-(EG nd λr=>II)];exact(uV.vD (List.Perm.refl _) (uV.u4 _)).symm
def Sj(l:Hz):(iE l).length<=l.length:=by exact jL ((uV.mF _).nodup_iff.mpr (rh l)) λr hr=>(tY r l).mp hr
def sQ(g:df)(v:Str):Str:=((g.find? λp=>decide (p.2=v)).map (·.1)).getD v
variable{bU bV:Aaf}{bA bx:Hw}{g:df}{ks:List Nat}
def m9.fst(x:m9 bU bA bV bx g ks):g.map (·.1)=fC (bD bA):=by rw[x.eq];exact Hh (by rw[aj,x.len])
theorem OE:∀{us vs:Aaf},us.length=vs.length->(us.zip vs).map (·.2)=vs
 |[],[],_=>rfl
 |[],_::_,h=>by cases h
 |_::_,[],h=>by cases h
 |u::us,v::vs,h=>by show v::(us.zip vs).map (·.2)=v::vs;rw[OE 721]
def m9.snd(x:m9 bU bA bV bx g ks):g.map (·.2)=ks.map fT:=by rw[x.eq];exact OE (by rw[aj,x.len])
def m9.Ml(x:m9 bU bA bV bx g ks):(keys g).Nodup:=by show(g.map (·.1)).Nodup;rw[x.fst];exact xh _
def m9.qF(x:m9 bU bA bV bx g ks):(g.map (·.2)).Nodup:=by rw[x.snd];exact HN (λi hi j hj e=>TV (x.new i hi).1 (x.new j hj).1 e) x.nd
def m9.Pp(x:m9 bU bA bV bx g ks){z:Str}(h:z∈fC (bD bA)):∃k∈ks,(z,fT k)∈g/\dq g z=fT k:=by
 rw[<-x.fst]at h;obtain⟨p,hp,rfl⟩:=aE.mp h;have h2:p.2∈ks.map fT:=by rw[<-x.snd];exact bS hp
 obtain⟨k,hk,e⟩:=aE.mp h2;refine{k,hk,e▸hp,?_};unfold dq;rw[DA,aJ.get_mem x.Ml hp,e];rfl
def m9.HU(x:m9 bU bA bV bx g ks){z:Str}(h:bo z=false):dq g z=z:=by
 unfold dq;rw[DA];have:aJ.get g z=none:=aJ.get_none.mpr λq=>by have q:z∈g.map (·.1):=q;rw[x.fst]at q;rw[(qo.mp q).2]at h;cases h
 rw[this];rfl
def m9.abw(x:m9 bU bA bV bx g ks){u:Str}{k:Nat}(h:(u,fT k)∈g):sQ g (fT k)=u:=by
 unfold sQ;have find:∀{l:df},(l.map (·.2)).Nodup->(u,fT k)∈l->(l.find? λp=>decide (p.2=fT k))=some (u,fT k):=by
  intro l
  induction l with
  |nil=>intro _ h;cases h
  |cons p r ih=>
   intro nd h;rw[bq,dc]at nd;rcases aN.mp h with h|h
   ·rw[<-h,gm (p:=λp:Str×Str=>decide (p.2=fT k)) (bg 9)]
   ·have ne:¬decide (p.2=fT k)=true:=λq=>nd.1 (by rw[aT q];exact aE.mpr ⟨_,h,rfl⟩);rw[gn (p:=λp:Str×Str=>decide (p.2=fT k)) ne];exact ih nd.2 h
 rw[find x.qF h];rfl
def m9.Pw(x:m9 bU bA bV bx g ks){z:Str}(h:z∈(bU++bD bA)++(bV++bD bx)):sQ g z=z:=by
 unfold sQ;cases q:g.find? λp=>decide (p.2=z)with
 |none=>rfl
 |some p=>
  exfalso;have e:=aT (nK (p:=λp:Str×Str=>decide (p.2=z)) q);have h2:p.2∈ks.map fT:=by rw[<-x.snd];exact bS (gx q)
  obtain⟨k,hk,e2⟩:=aE.mp h2;exact(x.new k hk).2 (by rw[e2,e];exact h)
def m9.one(x:m9 bU bA bV bx g ks):mR (bU.map (dq g)) (jn g bA) bU bA (dq g):=by
 have e:∀z,aJ.ap bo (dq g) z=dq g z:=λz=>by
  unfold aJ.ap;cases c:bo z with
  |true=>rfl
  |false=>rw[aI bL,x.HU c]
 have em:∀ts:Aaf,ts.map (aJ.ap bo (dq g))=ts.map (dq g):=λts=>b9 λz _=>e z;refine{em bU,λa ha=>?_};rw[em];exact aE.mpr ⟨a,ha,rfl⟩
def m9.other(x:m9 bU bA bV bx g ks)(rB:nN bU bA){h:Str->Str}(l:mR (bU.map (dq g)) (jn g bA) bV bx h):mR bU bA bV bx (λu=>sQ g (h u)):=by
 have e2:∀z∈bV++bD bx,sQ g (aJ.ap bo h z)=aJ.ap bo (λu=>sQ g (h u)) z:=λz hz=>by
  unfold aJ.ap;cases c:bo z with
  |true=>rfl
  |false=>
   exact x.Pw (bh _ hz)
 have e1:∀z∈bU++bD bA,sQ g (dq g z)=z:=λz hz=>by
  cases c:bo z with
  |true=>
   obtain⟨k,_,hm,e⟩:=x.Pp (qo.mpr {((aV.mp hz).elim (λq=>rB z q c) id),c});rw[e];exact x.abw hm
  |false=>
   rw[x.HU c];exact x.Pw (bz _ hz)
 refine{?_,λa ha=>?_}
 ·have:=cR (List.map (sQ g)) l.1;rw[b5,b5]at this;rw[<-b9 (f:=sQ g∘aJ.ap bo h) λz hz=>e2 z (bz _ hz),this]
  conv=>rhs;rw[<-yA bU]
  exact b9 λz hz=>e1 z (bz _ hz)
 ·obtain⟨b,hb,e⟩:=aE.mp (l.2 a ha);injection e with eb1 eb2;have:=cR (List.map (sQ g)) eb2;rw[b5,b5]at this;rw[b9 (f:=sQ g∘aJ.ap bo h) λz hz=>e2 z ((λz hz=>bh _ (iB.mpr ⟨a,ha,hz⟩)) z hz)]at this;have e3:b.2.map (sQ g∘dq g)=b.2:=by
   conv=>rhs;rw[<-yA b.2]
   exact b9 λz hz=>e1 z ((λz hz=>bh _ (iB.mpr ⟨b,hb,hz⟩)) z hz)
  rw[e3]at this;rw[<-this,<-eb1];exact hb
end
section
variable{P:Program}{w:World}{K:Frag}{mg:Aab}{base:Heap}
structure Win(H:Hp)(v:V)(l:Addr)(bU:Aaf)(bA:Hw)(bV:Aaf)(bx:Hw):Prop where
 at_:∃r mx cb,v=.ref r/\H r=some (.tup [.str "within",.ref l])/\H l=some (.lst mx)/\AF H mx cb/\KL cb/\cb.length<=100/\uy bU bA bV bx cb=true
structure VQ(K:Frag)(H:Hp)(v:V)(p:Addr)(fs:List En)(bU:Aaf)(bA:Hw)(bV:Aaf)(bx:Hw):Prop where
 tb:rN K H p fs
 lf:fs.length<=60
 at_:∃r rw row,v=.ref r/\H r=some (.tup [.str "parted",.ref p,.ref rw])/\H rw=some (.tup (row.map V.str))/\row.length<=4/\(∀z∈row,isVal z=true)/\(∃h,mR row (DB fs) bU bA h)/\∀h,¬mR row (DB fs) bV bx h
def rN.ace{H:Hp}{p:Addr}{fs:List En}(x:rN K H p fs):FF K H p fs:={x.at_,x.nm,λe he=>by obtain⟨_,h2,h3,_,h5,h6,_⟩:=x.en e he;exact{h2,h3,h5,λr hr=>by have:=(h6 r hr).2.1;lia}}
def rN.same{H H':Hp}{p:Addr}{fs:List En}(x:rN K H p fs)(s:aK H H'):rN K H' p fs:={s _ _ x.at_,x.nm,λe he=>by obtain⟨h1,h2,h3,h4⟩:=x.en e he;exact{h1,s _ _ h2,fE h3 s,h4}}
inductive Ho(K:Frag)(vs:Aam)(H:Hp)(Q:VK)(_x3:XK):Prop
 |mk (v v1 v2:V) (bU bV:Aaf) (bA bx:Hw) (_:vs=[v,v1,v2]) (_:QW H v1 bU bA) (_:QW H v2 bV bx) (_:((∃l,Win H v l bU bA bV bx)\/∃p fs,VQ K H v p fs bU bA bV bx)) (_:∀H',aK H H'->Q (.bl true) H')
structure Dri(P:Program)(w:World)(K:Frag)(mg:Aab)(base:Heap):Prop where
 Xd:cq P w K mg base 2 "_law_is_map" ["_law_one","_law_other","_law_pairs"] YE
 MB:cq P w K mg base 3 "_law_are_tables" ["_law_tables"] (YF K)
 Ah:cq P w K mg base 2 "_law_is_row" ["_law_row"] (Qz K)
 Jt:cq P w K mg base 12 "_law_answers" ["_law_question_here","_law_tables","_law_row"] (IZ K)
def DL:bZ ["_law_found","_law_one","_law_other"] ["_law_found","_law_one","_law_other"] (defScope qg):=gC 53
def WS{f:Addr}{fd:FuncData}(F:dF K "_law_within_right" "_law_within_right" qg f fd)(T:Txt K mg)(D:Dri P w K mg base):cK P w K mg base d7 13 f fd ["_law_found","_law_one","_law_other"] (Ho K):=by
 refine F.ok DL (λ_ _ _ _ h=>by cases h;subst_vars;rfl) 54;obtain⟨v,v1,v2,bU,bV,bA,bx,rfl,q1,q2,hw,k⟩:=h;refine{_,(aB (dg (PW.pt (oP (i9 (gH (bM js 9 T.h9 53 (cw (pv 0) (tE (n:="tuple") 9 T.iA 53))))) (pR (bY og (bM c6 9 T.eJ bG 714) (d9 (cw aO aO)) 650)))) 669 cy) (aB (dg (bY ny (bM c6 9 T.eJ bG 714) aO (cB _)) (aQ (bK (tV (ni ny (bH b4 (pv 0) aO (λ_ _=>9)) cT (cB _)) (vP (cl D.Xd hr (jX (pv 1) (pv 2) (bH b4 (pv 0) aO (λ_ _=>9)))))))) cy) (aB (dg (PW.pt (oP (bY oU (bH b4 (pv 0) aO (λ_ _=>9)) cT (cB _)) (oP (i9 (gH (cl D.MB hr (bW (bH b4 (pv 0) aO (λ_ _=>9)))))) (pR (i9 (gH (cl D.Ah hr (bW (bH b4 (pv 0) aO (λ_ _=>9)))))))))) 669 cy) (aQ (bK (tV (cl D.Jt hr (jX (pv 1) (bH b4 (pv 0) aO (λ_ _=>9)) (bH b4 (pv 0) aO (λ_ _=>9)))) (vP (acU (cl D.Jt hr (jX (pv 2) (bH b4 (pv 0) aO (λ_ _=>9)) (bH b4 (pv 0) aO (λ_ _=>9)))))))))))),?_}
 rcases hw with⟨l,⟨r,mx,cb,rfl,je,hl,PB,gp,lp,mb⟩⟩|⟨p,fs,tb,lf,r,tU,row,rfl,je,xu,lr,vr,one,other⟩
 ·refine{_,9,_,_,_,true,9,.tup je,om _,_,9,eS ?_};refine{_,9,_,_,9,.inr {_,aZ.of je,9},96,λt ht=>{t,_,9,.inr (aZ.of av),9,9,_,9,?_}};have ev:(if true=true then !tZ (.int (([.str "within",.ref l]:Aam).length:Int)) [.int 2,.int 3]else tZ (.int (([.str "within",.ref l]:Aam).length:Int)) [.int 2,.int 3])=false:=(by decide:(if true=true then !tZ (.int ((2:Nat):Int)) [.int 2,.int 3]else tZ (.int ((2:Nat):Int)) [.int 2,.int 3])=false);refine eS ?_;have s1:aK H (upd H t (.tup [.int 2,.int 3])):=aA ht _;refine{_,9,_,_,9,.inr {_,aZ.of (s1 _ _ je),9},9,_,9,kz ?_};refine{_,9,_,_,_,_,9,9,aZ.of (s1 _ _ je),9,9,_,9,?_};refine kz {_,9,_,9,_,9,_,_,_,_,9,9,aZ.of (s1 _ _ je),9,v1,v2,l,bU,bV,bA,bx,mx,cb,9,q1.keep (cv.of s1),q2.keep (cv.of s1),s1 _ _ hl,PB.keep (cv.of s1),gp,lp,λH2 s2=>?_};rw[mb];exact k H2 (s1.trans s2)
 ·refine{_,9,_,_,_,true,9,.tup je,om _,_,9,eS ?_};refine{_,9,_,_,9,.inr {_,aZ.of je,9},96,λt ht=>{t,_,9,.inr (aZ.of av),9,9,_,9,?_}};have ev:(if true=true then !tZ (.int (([.str "parted",.ref p,.ref tU]:Aam).length:Int)) [.int 2,.int 3]else tZ (.int (([.str "parted",.ref p,.ref tU]:Aam).length:Int)) [.int 2,.int 3])=false:=(by decide:(if true=true then !tZ (.int ((3:Nat):Int)) [.int 2,.int 3]else tZ (.int ((3:Nat):Int)) [.int 2,.int 3])=false);refine eS ?_;have s1:aK H (upd H t (.tup [.int 2,.int 3])):=aA ht _;refine{_,9,_,_,9,.inr {_,aZ.of (s1 _ _ je),9},9,_,9,eS ?_};refine{_,9,_,_,_,_,9,9,aZ.of (s1 _ _ je),9,9,_,9,?_};refine eS ?_;refine{_,9,_,_,_,_,9,9,aZ.of (s1 _ _ je),9,p,fs,9,tb.same s1,lf,λH2 s2=>{_,9,?_}};refine eS ?_;have vN:=s1.trans s2;refine{_,9,_,_,_,_,9,9,aZ.of (vN _ _ je),9,tU,row,9,aZ.of (vN _ _ xu),8,vr,λH3 s3=>{_,9,?_}};refine eS ?_;have nX:=vN.trans s3;refine{_,9,_,9,_,_,_,_,9,9,aZ.of (nX _ _ je),9,_,9,_,_,_,_,9,9,aZ.of (nX _ _ je),9,v1,p,tU,bU,bA,fs,row,9,q1.keep (cv.of nX),(tb.same nX).ace,aZ.of (nX _ _ xu),8,λH4 b s4 hb=>{_,9,?_}};rw[hb.mpr one];refine kz ?_;have nW:=nX.trans s4;refine{_,9,_,9,_,_,_,_,9,9,aZ.of (nW _ _ je),9,_,9,_,_,_,_,9,9,aZ.of (nW _ _ je),9,v2,p,tU,bV,bx,fs,row,9,q2.keep (cv.of nW),(tb.same nW).ace,aZ.of (nW _ _ xu),8,λH5 b s5 hb=>{_,9,?_}};have eb:b=false:=by
   cases q:b with
   |false=>rfl
   |true=>
    obtain⟨h,hh⟩:=hb.mp q;exact absurd hh (other h)
  rw[eb];exact k H5 (nW.trans s5)
def zO:bZ ["_law_question_here","_law_terms_here","_law_atom_here"] ["_law_question_here"] (defScope BK):=gC 53
def QT{f:Addr}{fd:FuncData}(F:dF K "_law_terms" "_law_terms" BK f fd)(T:Txt K mg):cK P w K mg base d7 1 f fd ["_law_question_here"] vA:=by
 refine F.ok zO (λ_ _ _ _ h=>by cases h;subst_vars;rfl) 54;obtain⟨v,hz,bb,rfl,⟨⟨q,hd,aa,cW,rfl,hq,Cj,m7,fV⟩,l1,l8,good,h4,hh⟩,k⟩:=h;refine{_,(aB (dM 1 zO (cU kH 9 T.pT 53 (bW (bH b4 (pv 0) aO (λ_ _=>9))))) (aB (dJ bE 9 (iy (bH b4 (pv 0) aO (λ_ _=>9))) (gg 2 zO) (aQ (fR (iL bI dO dN rm (pv 1) (bW (bH b4 (pv 2) aO (λ_ _=>9))))))) (aQ (bK (pv 1))))),?_}
 refine{_,9,_,_,_,_,9,9,aZ.of hq,9,hd,_,9,.inr (aZ.of Cj),λl hl=>?_};refine{_,rfl,_,_,_,_,rfl,rfl,aZ.of (aA hl _ _ _ hq),rfl,aa,rfl,{cW,aZ.of (aA hl _ _ _ m7)},qJ
  (λi Z H2=>∃(x2:Aan),Z=[some (.ref q),some 720,x2]/\aK H H2/\H2 l=some (.lst ((hz++bD 715).map V.str))) {none,9,aA hl _,by rw[av];show some (HO.lst _)=some (HO.lst ((hz++[]).map V.str));rw[cL]} (λi Z H2 _ hq=>by(obtain⟨_,_,sm,_⟩:=hq;exact aZ.of (sm _ _ m7))) ?_ ?_}
 ·rintro i x Z H2 hx ⟨x2,rfl,sm,gd⟩;obtain⟨ta,ht,p,t,rfl,hp,mz⟩:=Paired.at fV hx;have g:=good ta (az ht);have lf:=good.len i;refine{_,9,.inl {9,_,bf.of gd},_,9,_,_,_,_,9,9,aZ.of (sm _ _ hp),9,l,t,_,_,9,9,gd,aZ.of (sm _ _ mz),?_,?_}
  ·rw[aj,aj,aD];exact bB (bt ∅)
  ·refine{_,9,λb u e=>?_,?_}
   ·rw[aL (bC e hl)];exact sm _ _ e
   ·rw[av,mL ht,<-dG,aH (l₁:=hz++bD 715)]
 ·rintro Z H2 ⟨x2,rfl,sm,gd⟩;rw[(bc fV),aS]at gd;exact{_,9,k l H2 sm hl gd}
inductive SD(K:Frag)(vs:Aam)(H:Hp)(Q:VK)(_x3:XK):Prop
 |mk (p ql:Addr) (v1 v2:V) (fs:List En) (bU bV:Aaf) (bA bx:Hw) (_:vs=[.ref p,.ref ql]) (_:rN K H p fs) (_:fs.length<=60) (_:H ql=some (.lst [v1,v2])) (_:QW H v1 bU bA) (_:QW H v2 bV bx) (_:∀H' r(zs:Aaf),aK H H'->H r=none->H' r=some (.lst (zs.map V.str))->zs.length<=100000->(∀z∈zs,isVal z=true/\PyData.strOk z=true)->Q (.ref r) H')
structure Dnv(P:Program)(w:World)(K:Frag)(mg:Aab)(base:Heap):Prop where
 HY:cq P w K mg base 1 "_law_terms" ["_law_question_here"] vA
def jK:bZ ["_law_tables","_law_questions","_law_old","_law_question_here","_law_some","_law_name","_law_row"] ["_law_tables","_law_questions"] (defScope sF):=gC 53
def WT{f:Addr}{fd:FuncData}(F:dF K "_law_new_values" "_law_new_values" sF f fd)(T:Txt K mg)(D:Dnv P w K mg base):cK P w K mg base d7 2 f fd ["_law_tables","_law_questions"] (SD K):=by
 refine F.ok jK (λ_ _ _ _ h=>by cases h;subst_vars;rfl) 54;obtain⟨p,ql,v1,v2,fs,bU,bV,bA,bx,rfl,tb,lf,ZH,q1,q2,k⟩:=h;refine{_,(aB (kx (i:=2) jK.nd 9 (Or.inr 9) (dR iz)) (aB (dJ bE 9 (dI (pv 1)) (gg 3 jK) (aQ (fR (iL bI dO dN xr (pv 2) (bW (cl D.HY hr (bW (pv 3)))))))) (aB (dM 4 jK (dR iz)) (aB (dJ bE 9 (dI (bM (CG hr.hd) 9 T.sM 53 714)) (gg 5 jK) (aQ (dJ bE 9 (dI (qE (mK hr) (pv 0) (pv 5) (λ_ _=>9))) (gg 6 jK) (aQ (fR (iL bI dO dN xr (pv 4) (bW (k9 9 (cV (fs:=["_law_old"]) (fr:=[2])) (iy (pv 6)) (λ_ _ _ _=>(bY (A5) (pv 0) (pv 1) 650)) 731)))))))) (aQ (bK (pv 4))))))),?_}
 refine{399,λol Gw=>?_};have s1:aK H (upd H ol 661):=aA Gw _;have ze:upd H ol 661 ol=some (.lst (([]:Aaf).map V.str)):=av;refine{_,9,ql,9,{_,bf.of (s1 _ _ ZH)},gL (xs:=[v1,v2]) (λi Z H2=>∃(x3:Aan)(os:Aaf),Z=[some 676,some (.ref ql),some (.ref ol),x3,none,none,none]/\aK H H2/\H2 ol=some (.lst (os.map V.str))/\os.length<=100*i) {_,[],9,s1,ze,aw _} ?_ ?_ ?_}
 ·rintro i Z H2 hi ⟨_,_,rfl,s2,_⟩;exact bf.of (s2 _ _ ZH)
 ·rintro i x Z H2 hx ⟨_,os,rfl,s2,uS,lo⟩;have Py:∃hz bb,QW H x hz bb:=by
   rcases(by cases i with
    |zero=>exact .inl (bR hx).symm
    |succ j=>cases j with
     |zero=>exact .inr (bR hx).symm
     |succ j=>exact absurd hx 59:x=v1\/x=v2)with rfl|rfl
   ·exact⟨_,_,q1⟩
   ·exact⟨_,_,q2⟩
  have hi:i<=1:=by have:=(au.mp hx).1;have l2:([v1,v2]:Aam).length=2:=9;lia
  obtain⟨hz,bb,q⟩:=Py;have lq:=q.good.len bb.length;rw[aS]at lq;have:=q.l8;have:=q.h4;refine{_,9,.inl {9,_,bf.of uS},_,9,x,hz,bb,9,(q.keep (cv.of s2)),λr H3 s3 je JA=>{ol,r,_,_,9,9,s3 _ _ uS,JA,?_,?_}}
  ·rw[aj,aj,aD];exact bB (bt ∅)
  ·refine{_,os++(hz++bD bb),9,λb u e=>?_,?_,?_}
   ·rw[aL (bC e Gw)];exact s3 _ _ (s2 _ _ e)
   ·rw[av,aH (l₁:=os)]
   ·rw[aD,aD];lia
 ·rintro Z H2 ⟨_,os,rfl,s2,uS,lo⟩;refine{399,λsl MR=>?_};have s3:aK H2 (upd H2 sl 661):=aA MR _;have h3:upd H2 sl 661 sl=some (.lst (([]:Aaf).map V.str)):=av;generalize (upd H2 sl 661)=H3 at s3 h3⊢;have nX:=s2.trans s3;refine{_,9,p,657,fs.map (·.nm),9,nX _ _ tb.at_,by rw[b5,b5];rfl,by rw[aj];lia,λnl zg=>?_};have s4:aK H3 (upd H3 nl (.lst ((fk (fs.map (·.nm))).map V.str))):=aA zg _;have h4:upd H3 nl (.lst ((fk (fs.map (·.nm))).map V.str)) nl=some (.lst ((fk (fs.map (·.nm))).map V.str)):=av;generalize (upd H3 nl (.lst ((fk (fs.map (·.nm))).map V.str)))=H4 at s4 h4⊢;have nW:=nX.trans s4;have ho4:=s4 _ _ (s3 _ _ uS);have TL:=s2.free MR;have tX:sl≠nl:=λe=>by rw[e]at h3;rw[h3]at zg;cases zg
  have nol:sl≠ol:=λe=>by rw[e,uS]at MR;cases MR
  have lns:(fk (fs.map (·.nm))).length=fs.length:=by rw[(ij _).length_eq,aj]
  have mns:∀z∈fk (fs.map (·.nm)),∃e∈fs,e.nm=z:=λz hz=>aE.mp ((ij _).mem_iff.mp hz);generalize fk (fs.map (·.nm))=ns at h4 lns mns⊢;refine{nl,9,{_,bf.of h4},gL (xs:=ns.map V.str) (λi Z H5=>∃(x3 x5 x6:Aan)(zs:Aaf),Z=[some 676,some (.ref ql),some (.ref ol),x3,some (.ref sl),x5,x6]/\SB sl H4 H5/\H5 sl=some (.lst 652)/\zs.length<=240*i/\∀z∈zs,isVal z=true/\PyData.strOk z=true) {_,_,_,[],9,SB.refl _ _,s4 _ _ h3,aw _,λz h=>by cases h} ?_ ?_ ?_}
  ·rintro i Z H5 hi ⟨_,_,_,_,rfl,s5,_⟩;exact bf.of (s5 _ _ tX.symm h4)
  ·rintro i x Z H5 hx ⟨x3,x5,x6,zs,rfl,s5,h5,lz,gz⟩;obtain⟨nm,hnm,rfl⟩:=iP hx;have hi:=(au.mp hnm).1;obtain⟨e,he,rfl⟩:=mns nm (az hnm);obtain⟨vn,zi,hR,gJ,lR,gR,un⟩:=tb.en e he;have F2:=λb u h=>s5 b u (bC h TL) (nW _ _ h);have Zm:=bc hR;refine{_,9,_,9,p,.ref e.ad,9,.inl {657,Sum.inr e.nm,.inl (F2 _ _ tb.at_),9,(kX tb.nm he).symm},e.ad,9,{_,bf.of (F2 _ _ zi)},gL (xs:=e.ys) (λj Z H6=>∃(x6:Aan)(us:Aaf),Z=[some 676,some (.ref ql),some (.ref ol),x3,some (.ref sl),some (.str e.nm),x6]/\SB sl H5 H6/\H6 sl=some (.lst (us.map V.str))/\us.length<=240*i+4*j/\∀z∈us,isVal z=true/\PyData.strOk z=true) {_,zs,9,SB.refl _ _,h5,8,gz} ?_ ?_ ?_}
   ·rintro j Z H6 hj ⟨_,_,rfl,s6,_⟩;exact bf.of (s6 _ _ (bC zi TL) (F2 _ _ zi))
   ·rintro j y Z H6 hy ⟨x6',us,rfl,s6,h6,lu,gu⟩;obtain⟨row,lK,ra,rfl,Gr⟩:=Paired.at' (fE hR (λb u h=>s6 b u (bC h TL) (F2 _ _ h))) hy;have lP:=(au.mp lK).1;obtain⟨r1,r4,rv⟩:=gR row (az lK);refine{_,9,.inl {9,_,bf.of h6},_,9,ra,9,⟨_,Gr⟩,mN (xs:=row.map V.str) (λt ys H7=>H7=H6/\t<=row.length/\ys=((row.take t).filter λz=>!decide (z∈os)).map V.str) 674 {9,aP _,9} ?_ ?_ ?_}
    ·rintro t ys H7 ht ⟨rfl,_,rfl⟩;refine{Gr,?_};rw[aj];refine bu (de _ _) ?_;rw[a9];lia
    ·rintro t y ys H7 N hc ⟨rfl,ht,rfl⟩ hN;obtain⟨z,kC,rfl⟩:=iP hc;have bO:=(au.mp kC).1;refine{_,9,_,9,ol,_,9,.inl (bf.of (s6 _ _ nol.symm (s5 _ _ nol.symm ho4))),9,zo _,_,9,?_};show if(!tZ (.str z) (os.map V.str))=true then _ else _;rw[vm];have et:=bj (l:=row) (i:=t);rw[kC]at et;refine dU 693 693
     ·refine{_,9,hN _ _ {9,bO,?_}};rw[et,eA,aH];show _=_++(List.filter _ [z]).map V.str;rw[cS,aM c1];rfl
     ·refine hN _ _ {9,bO,?_};rw[et,eA,aH];show _=_++(List.filter _ [z]).map V.str;rw[cS,aI c1];simp
    ·rintro ys H7 ⟨rfl,_,rfl⟩ cl lZ;rw[aj,aS];have lc:(row.filter λz=>!decide (z∈os)).length<=row.length:=de _ _;have gc:∀z∈(row.filter λz=>!decide (z∈os)),isVal z=true/\PyData.strOk z=true:=λz hz=>rv z (cX.mp hz).1;generalize (row.filter λz=>!decide (z∈os))=cs at lc gc⊢;refine{sl,cl,_,_,9,9,by rw[aL (λe=>by rw[<-e,h6]at lZ;cases lZ)];exact h6,av,?_,?_}
     ·rw[aj,aj];have:240*i<=240*60:=Nat.mul_le_mul_left _ ∅;exact bB (fW (m:=20000) ∅ 7)
     ·refine{_,us++cs,9,λb u n h=>?_,?_,?_,?_}
      ·rw[aL n,aL (bC (s6 _ _ n h) lZ)];exact s6 _ _ n h
      ·rw[av,aH]
      ·rw[aD];lia
      ·intro z hz;rcases aV.mp hz with h|h
       ·exact gu z h
       ·exact gc z h
   ·rintro Z H6 ⟨x6',us,rfl,s6,h6,lu,gu⟩;exact{_,_,_,us,9,s5.trans s6,h6,8,gu}
  ·rintro Z H5 ⟨x3,x5,x6,zs,rfl,s5,h5,lz,gz⟩;rw[aj]at lz;exact{_,9,k H5 sl zs (λb u h=>s5 b u (bC h TL) (nW _ _ h)) TL h5 ∅ gz}
inductive OT(vs:Aam)(H:Hp)(Q:VK)(_x3:XK):Prop
 |mk (h al:Addr) (hz:Aaf) (cW:Aam) (bb:Hw) (_:vs=[.ref h,.ref al]) (_:H h=some (.tup (hz.map V.str))) (_:H al=some (.tup cW)) (_:dw H cW bb) (_:1<=bb.length) (_:bb.length<=08) (_:nO bb) (_:hz.length<=4) (_:(∀z∈hz,z∈kT)) (_:∀(r:Addr)(kC:Aaf)(H':Hp),aK H H'->QW H' (.ref r) kC bb->nN kC bb->Q (.ref r) H')
def WU{f:Addr}{fd:FuncData}(F:dF K "_law_kept" "_law_kept" zR f fd)(T:Txt K mg):cK P w K mg base d7 1 f fd ["_law_head_here","_law_atoms"] OT:=by
 refine F.ok mv (λ_ _ _ _ h=>by cases h;subst_vars;rfl) 54;obtain⟨h0,al,hz,cW,bb,rfl,Ck,ou,fV,l1,l8,good,h4,hh,k⟩:=h;refine{_,(aB (kx (i:=2) mv.nd 9 (Or.inr 9) (dR iz)) (aB (dJ bE 9 (iy (pv 1)) (jA 9 (cj (gg 3 mv) (cj (gg 4 mv) fY))) (aQ (fR (iL bI dO dN rm (pv 2) (bW (pv 4)))))) (aQ (bK (d9 (cw (cU eC 9 T.iA 53 (bW (k9 9 (cV (fs:=["_law_terms_here"]) (fr:=[2])) (iy (pv 0)) (λ_ _ _ _=>(PW.pt (oP (bY oU (bH Gh (pv 0) aO (λ_ _=>9)) cT (cB _)) (pR (bY (zZ) (pv 0) (pv 1) 650))))) 731))) (cU eC 9 T.iA 53 722))))))),?_}
 refine{399,λt ht=>?_};refine{_,rfl,al,rfl,{cW,aZ.of (aA ht _ _ _ ou)},qJ
  (λi Z H2=>∃(x3 x4:Aan),Z=[some (.ref h0),some (.ref al),some (.ref t),x3,x4]/\aK H H2/\H2 t=some (.lst ((bD 715).map V.str))) {none,none,9,aA ht _,av} (λi Z H2 _ hq=>by(obtain⟨_,_,_,sm,_⟩:=hq;exact aZ.of (sm _ _ ou))) ?_ ?_}
 ·rintro i x Z H2 hx ⟨x3,x4,rfl,gX,jd⟩;obtain⟨a,jC,p,tt,rfl,hp,mz⟩:=Paired.at fV hx;have lf:=good.len i;have g4:=(good a (az jC)).2.2.1;refine{p,_,9,aZ.of (gX _ _ hp),9,_,_,9,_,_,9,9,?_};refine{_,9,.inl {9,_,bf.of jd},_,9,_,_,_,_,9,9,jd,aZ.of (gX _ _ mz),?_,?_}
  ·rw[aj,aj];exact bB (bt ∅)
  ·refine{_,_,9,λb u e=>?_,?_}
   ·rw[aL (bC e ht)];exact gX _ _ e
   ·rw[av,mL jC,aH]
 ·rintro Z H2 ⟨x3,x4,rfl,gX,jd⟩;rw[(bc fV),aS]at jd;refine{_,9,h0,9,{_,aZ.of (gX _ _ Ck)},mN (xs:=hz.map V.str) (λi ys H3=>H3=H2/\i<=hz.length/\∃zs:Aaf,ys=zs.map V.str/\zs.length<=i/\∀z∈zs,z∈kT/\(bo z=true->z∈bD bb)) 674 {9,aP _,[],9,aw _,λz h=>by cases h} ?_ ?_ ?_}
  ·rintro i ys H3 hi ⟨rfl,_,zs,rfl,hl,_⟩;refine{aZ.of (gX _ _ Ck),?_};rw[aj];exact hl
  ·rintro i x ys H3 N hc ⟨rfl,hi,zs,rfl,hl,Cd⟩ hN;obtain⟨z,v7,rfl⟩:=iP hc;have bO:=(au.mp v7).1;have UA:=hh z (az v7);have bU:=fZ UA;obtain⟨c,Cn⟩:=zI bU.1;have yes:(bo z=true->z∈bD bb)->N (zs.map V.str++[.str z]) H3:=λhy0=>hN _ _ {rfl,bO,zs++[z],by rw[aH];rfl,by rw[aD];show zs.length+1<=i+1;lia,λy hy=>by
    rcases aV.mp hy with hy|hy
    ·exact Cd y hy
    ·rw[aC.mp hy];exact⟨UA,hy0⟩}
   refine{_,9,_,_,_,9,9,bB (bt ∅),(hJ (j:=0) Cn),9,_,9,?_};refine dU 693 693
   ·exact kz {_,9,yes λhu=>by rw[zJ bU.1 Cn,hu]at c1;cases c1}
   ·refine{_,9,_,9,t,_,9,.inl (bf.of jd),9,zo _,_,9,?_};refine dU 723 (λc2=>hN _ _ {9,bO,zs,9,8,Cd})
    ·refine{_,9,yes λ_=>?_};rw[vm]at c2;exact aT c2
  ·rintro ys H3 ⟨rfl,_,zs,rfl,hl,Cd⟩ l pC;have I0:aK H3 (upd H3 l (.lst 652)):=aA pC _;have Vs:upd H3 l (.lst 652) l=some (.lst 652):=av;generalize upd H3 l (.lst 652)=H4 at I0 Vs⊢;refine{l,_,9,.inl {bf.of Vs,695}};have FW:aK H4 (upd H4 p (.tup 652)):=aA hp _;have ep:upd H4 p (.tup 652) p=some (.tup 652):=av;generalize upd H4 p (.tup 652)=H5 at FW ep⊢;have uO:=gX.trans (I0.trans FW);refine{_,9,al,_,9,.inr {aZ.of (uO _ _ ou),?_}};refine{96,λp3 gh=>?_};have FV:=aA gh (.tup [.ref p,.ref al]);exact k p3 zs _ (uO.trans FV) {{p3,p,al,cW,9,av,FV _ _ ep,FV _ _ (uO _ _ ou),dw.keep (cv.of (uO.trans FV)) fV},l1,l8,good,8,λz hz=>(Cd z hz).1} λz hz=>(Cd z hz).2
def BQ(v:Str):(("?":Str)++v).cps.toList=63::v.cps.toList:=by show(("?":Str).cps++v.cps).toList=_;rw[Array.toList_append];rfl
def Qp{v:Str}(h:isVal v=true):bo ("?"++v)=true:=by
 have l1:1<=(("?":Str)++v).length:=by
  have:(("?":Str)++v).length=(("?":Str)++v).cps.toList.length:=by simp[Str.length]
  rw[this,BQ,bF];lia
 have es:Txt.slice (("?":Str)++v) (some 1) none=v:=wZ (by rw[SJ l1,BQ];rfl);unfold bo;rw[es,h,vx (by rw[BQ];rfl)];decide
def aaA{v:Str}(h:v.length<=08):(("?":Str)++v).length<=100:=by
 have:(("?":Str)++v).length=(("?":Str)++v).cps.toList.length:=by simp[Str.length]
 have e:v.length=v.cps.toList.length:=by simp[Str.length]
 rw[this,BQ,bF,<-e];lia
def afR{v:Str}(h:PyData.strOk v=true):PyData.strOk (("?":Str)++v)=true:=by unfold PyData.strOk at h⊢;rw[<-Array.all_toList]at h⊢;rw[BQ,uJ,h];decide
def acx{v:Str}(h:v.length<=08):Txt.slice v none (some 08)=v:=by
 have e:∀n<09,((Builtin.Str.strSliceIndices none (some 08) 1 n).length==n)=true:=by decide+kernel
 unfold Txt.slice;rw[e _ ∅];rfl
inductive Lo(K:Frag)(vs:Aam)(H:Hp)(Q:VK)(_x3:XK):Prop
 |mk (f:Addr) (v:V) (z:Str) (hz:Aaf) (bb:Hw) (_:vs=[.ref f,v,.str z]) (_:dH K f H) (_:QW H v hz bb) (_:isVal z=true) (_:PyData.strOk z=true) (_:∀(r:Addr)(kC:Aaf)(iu:Hw)(H':Hp),dH K f H'->Ext f H H'->QW H' (.ref r) kC iu->nN kC iu->Q (.ref r) H')
structure Dca(P:Program)(w:World)(K:Frag)(mg:Aab)(base:Heap):Prop where
 dS:cq P w K mg base 1 "_law_draw" ["_law_feed_here","_law_many"] (vC K)
 HY:cq P w K mg base 1 "_law_terms" ["_law_question_here"] vA
 sP:cq P w K mg base 2 "_law_led_question" ["_law_question_here","_law_given"] Lm
 My:cq P w K mg base 1 "_law_kept" ["_law_head_here","_law_atoms"] OT
def pP:bZ ["_law_feed_here","_law_question_here","_law_value","_law_terms_here","_law_old","_law_new","_law_made"] ["_law_feed_here","_law_question_here","_law_value"] (defScope zV):=gC 53
def TF{f:Addr}{fd:FuncData}(F:dF K "_law_called" "_law_called" zV f fd)(T:Txt K mg)(D:Dca P w K mg base):cK P w K mg base d7 3 f fd ["_law_feed_here","_law_question_here","_law_value"] (Lo K):=by
 refine F.ok pP (λ_ _ _ _ h=>by cases h;subst_vars;rfl) 54;obtain⟨fe,v,z,hz,bb,rfl,hF,qw,vz,oz,k⟩:=h;have l8:=qw.l8;have l4:=qw.h4;have lfl:=qw.good.len bb.length;rw[aS]at lfl;have l1:1<=(bD bb).length:=by obtain⟨a,r,e⟩:∃a r,bb=a::r:=List.exists_cons_of_length_pos qw.l1;have:=(qw.good a (e▸aF)).2.1;rw[e];show 1<=(a.2++bD r).length;rw[aD];lia
 refine{_,(aB (dM 3 pP (cl D.HY hr 722)) (aB (dM 4 pP (bH eM (pv 3) (cl D.dS hr (cw (pv 0) (bM c6 9 T.eJ bG (bW (pv 3))))) (λ_ _=>9))) (aB (dM 5 pP (bH eM (dR (cw (pv 2) (c9 ve cT (mJ SK (pv 2) oS (oR aO))))) 653 (λ_ _=>9))) (aB (dM 6 pP (cl D.sP hr (cw (pv 1) (aa7 (WD (pv 4) (pv 5) aa0) 9 9 59 (by show 1<=15;decide))))) (aQ (bK (cl D.My hr (cw (bH b4 (pv 6) aO (λ_ _=>9)) (bH b4 (pv 6) aO (λ_ _=>9)))))))))),?_}
 refine{_,9,v,hz,bb,9,qw,λtl H1 s1 UJ Ep=>?_};have lt:(hz++bD bb).length=hz.length+(bD bb).length:=aD;have lt':((hz++bD bb).map V.str).length=hz.length+(bD bb).length:=by rw[aj,lt]
 refine{_,9,_,9,_,9,_,_,9,.inl {_,bf.of Ep,9},fe,_,9,(hF.same s1),8,8,λi2 H2 a0 a1 kF kq=>?_};have jd:=kq _ _ (hF.my UJ) Ep;obtain⟨old,hold⟩:∃y,(hz++bD bb)[i2.toNat]?=some y:={_,ay ∅};have ev:sg ((hz++bD bb).map V.str) i2=some (.str old):=by
  have e:i2=((i2.toNat:Nat):Int):=by lia
  rw[e];exact hJ (by rw[aW,hold];rfl)
 refine{_,_,_,_,9,9,bf.of jd,ev,?_};refine{_,9,_,9,_,9,_,9,bB (bt (by have:=vj vz;lia)),?_};rw[acx (vj vz)];refine{_,_,9,9,bB (bt (by have e1:("?":Str).length=1:=9;have:=vj vz;rw[e1];lia)),96,λl hl=>?_};have s3:aK H2 (upd H2 l (.lst [.str z,.str (("?":Str)++z)])):=aA hl _;have h3:upd H2 l (.lst [.str z,.str (("?":Str)++z)]) l=some (.lst [.str z,.str (("?":Str)++z)]):=av;have jY:=kF.same s3;refine{_,9,fe,2,9,jY,7,7,λi4 H4 b0 b1 lh jZ=>?_};obtain⟨new,Ak,nT⟩:∃new:Str,([.str z,.str (("?":Str)++z)]:Aam)[i4.toNat]?=some (.str new)/\new∈kT:=by
  rcases(by lia:i4.toNat=0\/i4.toNat=1)with e|e
  ·rw[e];exact{z,9,({by unfold k7;rw[vz];rfl,by have:=vj vz;lia,oz})}
  ·rw[e];exact{_,9,({by unfold k7;rw[Qp vz,Bool.or_true],aaA (vj vz),afR oz})}
 have ev4:sg ([.str z,.str (("?":Str)++z)]:Aam) i4=some (.str new):=by
  have e:i4=((i4.toNat:Nat):Int):=by lia
  rw[e];exact hJ Ak
 refine{_,_,_,_,9,9,bf.of (jZ _ _ (kF.my hl) h3),ev4,?_};refine{_,9,695};have s5:aK H4 (upd (upd H4 p 655) p (.dK (gD [(old,new)]))):=λb u h=>by rw[aL (bC h hp),aL (bC h hp)];exact h
 have h5:upd (upd H4 p 655) p (.dK (gD [(old,new)])) p=some (.dK (gD [(old,new)])):=av;refine{_,9,_,9,av,[(Sum.inr old,.str new)],9,(by show 1<=15;decide),?_};have em:ky [] [((Sum.inr old:Key),V.str new)]=gD [(old,new)]:=9;rw[em];have Am:=(((Ext.of s1).trans kq).trans ((Ext.of s3).trans jZ)).trans (Ext.of s5);refine{v,p,hz,bb,[(old,new)],9,qw.keep (hF.fD Am),h5,λq hq=>(aC.mp hq▸nT),λr H6 s6 q6=>?_};obtain⟨⟨q,hd,aa,cW,er,hq,Cj,m7,fV⟩,l1',l8',afg,h4',hh'⟩:=q6;obtain rfl:r=q:=by injection er
 refine{_,9,_,_,_,_,9,9,aZ.of hq,9,_,9,_,_,_,_,9,9,aZ.of hq,9,?_};refine{hd,aa,_,cW,_,9,Cj,m7,fV,l1',l8',afg,h4',hh',λr7 hz7 H7 s7 q7 rB=>?_};exact k r7 hz7 _ H7 (((lh.same s5).same s6).same s7) ((Am.trans (Ext.of s6)).trans (Ext.of s7)) q7 rB
def T3{bU bV:Aaf}{bA bx:Hw}{cb:df}(h:uy bU bA bV bx cb=true):mR bU bA bV bx (dq cb):=by
 unfold uy at h;rw[bP,bP]at h;obtain⟨h1,h2,h3⟩:=h;have h1:=aT h1;have nd:(cb.map (·.1)).Nodup:=by rw[h1];exact(ij _).nodup_iff.mpr (xh _)
 rw[yj nd]at h2 h3;have e:∀z,aJ.ap bo (dq cb) z=dq cb z:=λz=>by
  unfold aJ.ap;by_cases c:bo z=true
  ·rw[aM c]
  ·rw[aI c];unfold dq;rw[DA];have:aJ.get cb z=none:=aJ.get_none.mpr λq=>by have q:z∈cb.map (·.1):=q;rw[h1]at q;exact c (qo.mp ((ij _).mem_iff.mp q)).2
   rw[this];rfl
 have em:∀ts:Aaf,ts.map (aJ.ap bo (dq cb))=ts.map (dq cb):=λts=>b9 λz _=>e z;refine{by rw[em];exact(aT h2),λa ha=>?_};rw[em];have:=bN.mp h3 _ (aE.mpr ⟨a,ha,rfl⟩);exact aT this
def map_len{bU bV:Aaf}{bA bx:Hw}{cb:df}(h:uy bU bA bV bx cb=true):cb.length<=(bD bx).length:=by unfold uy at h;rw[bP]at h;have h1:=cR List.length (aT h.1);rw[aj,(ij _).length_eq]at h1;rw[h1];exact yZ _
def Rc(hz:Aaf)(bb:Hw):mR hz bb hz bb λu=>u:=by
 have e:∀ts:Aaf,ts.map (aJ.ap bo λu=>u)=ts:=λts=>by
  conv=>rhs;rw[<-yA ts]
  exact b9 λz _=>by unfold aJ.ap;split<;>rfl
 refine{e hz,λa ha=>?_};rw[e];exact ha
end
section
variable{K:Frag}
def m9.Zr{bU bV:Aaf}{bA bx:Hw}{g:df}{ks:List Nat}(x:m9 bU bA bV bx g ks){z:Str}(hT:z∈kT)(rB:bo z=true->z∈bD bA):isVal (dq g z)=true/\PyData.strOk (dq g z)=true:=by
 obtain⟨ht,_,ok⟩:=fZ hT;cases c:bo z with
 |true=>
  obtain⟨k,hk,_,e⟩:=x.Pp (qo.mpr {rB c,c});rw[e];exact{Mi (x.new k hk).1,aeU k}
 |false=>
  rw[x.HU c];unfold k7 at ht;rw[c,Bi]at ht;exact⟨ht,ok⟩
def Hk{H H':Hp}{p:Addr}{rws:Hw}{fs:List En}(t:Told K H H' p rws fs)(a:Str×Aaf):a∈DB fs↔a∈rws:=by
 obtain⟨z,r⟩:=a;have by_:∀z r,r∈jz rws z↔(z,r)∈rws:=λz r=>by
  unfold jz;rw[aE];constructor
  ·rintro⟨a,ha,rfl⟩;obtain⟨h1,h2⟩:=cX.mp ha;rw[<-aT h2];exact h1
  ·intro h;exact{(z,r),cX.mpr {h,bg rfl},9}
 unfold DB;rw[iw];constructor
 ·rintro⟨l,hl,h⟩;obtain⟨e,he,rfl⟩:=aE.mp hl;obtain⟨r',UM,q⟩:=aE.mp h;cases q;obtain⟨_,_,_,_,e5,_⟩:=t.en e he;rw[e5]at UM;exact(by_ _ _).mp ((tY _ _).mp UM)
 ·intro h;obtain⟨e,he,hz⟩:=aE.mp (t.all _ h);obtain⟨_,_,_,_,e5,_⟩:=t.en e he;refine{_,aE.mpr ⟨e,he,rfl⟩,aE.mpr {r,?_,by rw[hz]}};rw[e5,hz];exact(tY _ _).mpr ((by_ _ _).mpr h)
def Mv{D D':Hw}(h:∀a,a∈D↔a∈D'){row hz:Aaf}{bb:Hw}{g:Str->Str}:mR row D hz bb g↔mR row D' hz bb g:=
 {λx=>{x.1,λa ha=>(h _).mp (x.2 a ha)},λx=>{x.1,λa ha=>(h _).mpr (x.2 a ha)}}
def Sq{H H':Hp}{p:Addr}{bU bV:Aaf}{bA bx:Hw}{g:df}{ks:List Nat}{fs:List En}(t:Told K H H' p (jn g bA) fs)(x:m9 bU bA bV bx g ks)(good:nO bA)(l8:bA.length<=08):rN K H' p fs:=by
 refine{t.at_,t.nm,λe he=>?_};obtain⟨_,_,h3,h4,h5,h6⟩:=t.en e he;have el:(jn g bA).length=bA.length:=aj _;refine{?_,h3,h4,h6,?_,λr hr=>?_,?_}
 ·obtain⟨a,ha,e1⟩:=t.sub e he;obtain⟨b,hb,rfl⟩:=aE.mp ha;rw[<-e1];exact bN.mp V0 _ (good b hb).1
 ·rw[h5];have h1:=Sj (jz (jn g bA) e.nm);have h2:=F3 (rws:=jn g bA) (z:=e.nm);lia
 ·have hm:=(Hk t _).mp (iw.mpr {_,aE.mpr ⟨e,he,rfl⟩,aE.mpr ⟨r,hr,rfl⟩});obtain⟨b,hb,q⟩:=aE.mp hm;injection q with q1 q2;obtain⟨_,g1,g4,gT⟩:=good b hb;rw[<-q2,aj];refine{g1,g4,λz hz=>?_};obtain⟨y,hy,rfl⟩:=aE.mp hz;exact x.Zr (gT y hy) λ_=>iB.mpr ⟨b,hb,hy⟩
 ·rw[h5];exact Qq _
inductive Tld(K:Frag)(H H':Hp)(v:V)(bU:Aaf)(bA:Hw)(bV:Aaf)(bx:Hw):Prop
 |Sg (r l:Addr) (mx:Aam) (er:v=.ref r) (hr:H' r=some (.tup [.str "within",.ref l])) (hl:H' l=some (.lst mx)) (lp:mx.length<=100) (l0:H l=none) (w:Win H' v l bU bA bV bx) (yes:∃h,mR bU bA bV bx h)
 |Tf (r p rw:Addr) (fs:List En) (er:v=.ref r) (hr:H' r=some (.tup [.str "parted",.ref p,.ref rw])) (p0:H p=none) (ad:(fs.map (·.ad)).Nodup) (en:∀e∈fs,H e.ad=none/\e.ad≠p) (w:VQ K H' v p fs bU bA bV bx) (no:∀h,¬mR bU bA bV bx h)
def xf{H:Hp}{v1 v2:V}{bU bV:Aaf}{bA bx:Hw}{Q:VK}{E:XK}(q1:QW H v1 bU bA)(q2:QW H v2 bV bx)(i1:nN bU bA)(i2:nN bV bx)(k:∀v H',aK H H'->Tld K H H' v bU bA bV bx->Q v H'):zM K [v1,v2] H Q E:=by
 refine{v1,v2,bU,bV,bA,bx,9,q1,q2,i2,λH' r l mx cb s r0 l0 hr hl hp mb gp=>?_,λH' r p tU g ks fs s r0 hr xu x t no=>?_}
 ·have ll:cb.length<=100:=by have h1:=map_len mb;have h2:=q2.good.len bx.length;rw[aS]at h2;have:=q2.l8;lia
  have lv:=bc hp;exact k _ H' s (.Sg r l mx 9 hr hl ∅ l0 ⟨r,mx,cb,rfl,hr,hl,hp,gp,ll,mb⟩ {_,T3 mb})
 ·refine k _ H' s (.Tf r p tU fs 9 hr t.p0 t.ad (λe he=>{(t.en e he).1,(t.en e he).2.1}) {Sq t x q1.good q1.l8,t.len,r,tU,_,9,hr,xu,?_,λz hz=>?_,{dq g,(Mv (Hk t)).mpr x.one},λh hh=>?_} no)
  ·rw[aj];exact q1.h4
  ·obtain⟨y,hy,rfl⟩:=aE.mp hz;exact(x.Zr (q1.hh y hy) (i1 y hy)).1
  ·exact no _ (x.other i1 ((Mv (Hk t)).mp hh))
def Tld.right{H H':Hp}{v:V}{bU bV:Aaf}{bA bx:Hw}(x:Tld K H H' v bU bA bV bx):(∃l,Win H' v l bU bA bV bx)\/∃p fs,VQ K H' v p fs bU bA bV bx:=by
 cases x with
 |Sg r l mx er hr hl lp l0 w yes=>exact .inl ⟨l,w⟩
 |Tf r p rw fs er hr p0 ad en w no=>exact .inr ⟨p,fs,w⟩
variable{P:Program}{w:World}{mg:Aab}{base:Heap}
inductive OY(K:Frag)(vs:Aam)(H:Hp)(Q:VK)(_x3:XK):Prop
 |mk (f:Addr) (v v1 v2:V) (p:Addr) (fs:List En) (bU bV:Aaf) (bA bx:Hw) (_:vs=[.ref f,v,v1,v2]) (_:dH K f H) (_:QW H v1 bU bA) (_:QW H v2 bV bx) (_:nN bU bA) (_:nN bV bx) (_:VQ K H v p fs bU bA bV bx) (_:∀H',dH K f H'->Ext f H H'->Q (.bl true) H')
structure Das(P:Program)(w:World)(K:Frag)(mg:Aab)(base:Heap):Prop where
 dS:cq P w K mg base 1 "_law_draw" ["_law_feed_here","_law_many"] (vC K)
 Mx:cq P w K mg base 2 "_law_new_values" ["_law_tables","_law_questions"] (SD K)
 Mz:cq P w K mg base 3 "_law_called" ["_law_feed_here","_law_question_here","_law_value"] (Lo K)
 within:cq P w K mg base 26 "within" ["one","other"] (zM K)
 oY:cq P w K mg base 13 "_law_within_right" ["_law_found","_law_one","_law_other"] (Ho K)
def jh:bZ ["_law_feed_here","_law_found","_law_one","_law_other","_law_some","_law_value","_law_first","_law_second","_law_pair_here"] ["_law_feed_here","_law_found","_law_one","_law_other"] (defScope qZ):=gC 53
def W3{f:Addr}{fd:FuncData}(F:dF K "_law_asked_again" "_law_asked_again" qZ f fd)(T:Txt K mg)(D:Das P w K mg base):cK P w K mg base d7 27 f fd ["_law_feed_here","_law_found","_law_one","_law_other"] (OY K):=by
 refine F.ok jh (λ_ _ _ _ h=>by cases h;subst_vars;rfl) 54;obtain⟨fe,v,v1,v2,p,fs,bU,bV,bA,bx,rfl,hF,q1,q2,i1,i2,⟨tb,lf,r,tU,row,rfl,je,xu,lr,vr,one,other⟩,k⟩:=h;refine{_,(aB (dM 4 jh (cl D.Mx hr (cw (bH b4 (pv 1) aO (λ_ _=>9)) (dR (cw (pv 2) (pv 3)))))) (aB (dg (bY (Ga hr.FP) (pv 4) (dR iz) (cB _)) 669 cy) (aB (dM 5 jh (bH eM (pv 4) (cl D.dS hr (cw (pv 0) (bM c6 9 T.eJ bG (bW (pv 4))))) (λ_ _=>9))) (aB (dM 6 jh (cl D.Mz hr (jX (pv 0) (pv 2) (pv 5)))) (aB (dM 07 jh (cl D.Mz hr (jX (pv 0) (pv 3) (pv 5)))) (aB (dJ bE 9 (dI (dR (fh (d9 (cw (pv 6) (pv 3))) (jX (d9 (cw (pv 2) (pv 07))) (d9 (cw (pv 6) (pv 07))) (d9 (cw (pv 07) (pv 6))))))) (gg 08 jh) (aQ (dg (i9 (gH (cl D.oY hr (jX (cl D.within hr (cw (bH b4 (pv 08) aO (λ_ _=>9)) (bH b4 (pv 08) aO (λ_ _=>9)))) (bH b4 (pv 08) aO (λ_ _=>9)) (bH b4 (pv 08) aO (λ_ _=>9)))))) 669 cy))) 669)))))),?_}
 refine{_,9,_,_,_,_,9,9,aZ.of je,9,_,9,_,9,96,λql ZH=>?_};have s1:aK H (upd H ql (.lst [v1,v2])):=aA ZH _;have h1:upd H ql (.lst [v1,v2]) ql=some (.lst [v1,v2]):=av;refine{p,ql,v1,v2,fs,bU,bV,bA,bx,9,tb.same s1,lf,h1,q1.keep (cv.of s1),q2.keep (cv.of s1),λH2 sl zs s2 hs0 kE lz gz=>?_};refine{_,9,399,λl0 sf=>?_};have s3:aK H2 (upd H2 l0 661):=aA sf _;have h3:upd H2 l0 661 l0=some 661:=av;generalize (upd H2 l0 661)=H3 at s3 h3⊢;have nX:=(s1.trans s2).trans s3;have jY:=hF.same nX;refine{_,_,_,9,9,bf.of (s3 _ _ kE),bf.of h3,_,9,?_};cases ez:zs with
 |nil=>exact kz (k H3 jY (Ext.of nX))
 |cons z0 zr=>
  refine eS ?_;have l1:1<=zs.length:=by rw[ez];exact gO (aP _)
  have lz':(zs.map V.str).length=zs.length:=aj _;have Jy:=s3 _ _ kE;refine{_,9,_,9,_,9,_,_,9,.inl {_,bf.of Jy,9},fe,_,9,jY,8,8,λi4 H4 a0 a1 lh jZ=>?_};obtain⟨z,hz⟩:∃y,zs[i4.toNat]?=some y:={_,ay ∅};have ev:sg 652 i4=some (.str z):=by
   have e:i4=((i4.toNat:Nat):Int):=by lia
   rw[e];exact hJ (by rw[aW,hz];rfl)
  obtain⟨vz,oz⟩:=gz z (az hz);refine{_,_,_,_,9,9,bf.of (jZ _ _ ((hF.same s1).my hs0) Jy),ev,?_};have aea:=(Ext.of nX).trans jZ;refine{_,9,_,9,_,9,fe,v1,z,bU,bA,9,lh,q1.keep (hF.fD aea),vz,oz,λr5 hz5 ahN H5 rD nF q5 in5=>?_};have ad9:=aea.trans nF;refine{_,9,_,9,_,9,fe,v2,z,bV,bx,9,rD,q2.keep (hF.fD ad9),vz,oz,λr6 hz6 ahM H6 rC ko q6 in6=>?_};have XQ:=ad9.trans ko;have w1:=q1.keep (hF.fD XQ);have w2:=q2.keep (hF.fD XQ);refine{_,9,_,9,96,λt1 Ep=>{_,9,_,9,96,λt2 jd=>{_,9,_,9,96,λt3 jM=>{_,9,_,9,96,λt4 uR=>?_}}}};have m1:aK H6 (upd H6 t1 (.tup [.ref r5,v2])):=aA Ep _;have e1:upd H6 t1 (.tup [.ref r5,v2]) t1=some (.tup [.ref r5,v2]):=av;generalize (upd H6 t1 (.tup [.ref r5,v2]))=G1 at m1 e1 jd jM uR⊢;have m2:aK G1 (upd G1 t2 (.tup [v1,.ref r6])):=aA jd _;have e2:upd G1 t2 (.tup [v1,.ref r6]) t2=some (.tup [v1,.ref r6]):=av;generalize (upd G1 t2 (.tup [v1,.ref r6]))=G2 at m2 e2 jM uR⊢;have m3:aK G2 (upd G2 t3 (.tup [.ref r5,.ref r6])):=aA jM _;have e3:upd G2 t3 (.tup [.ref r5,.ref r6]) t3=some (.tup [.ref r5,.ref r6]):=av;generalize (upd G2 t3 (.tup [.ref r5,.ref r6]))=G3 at m3 e3 uR⊢;have m4:aK G3 (upd G3 t4 (.tup [.ref r6,.ref r5])):=aA uR _;have e4:upd G3 t4 (.tup [.ref r6,.ref r5]) t4=some (.tup [.ref r6,.ref r5]):=av;generalize (upd G3 t4 (.tup [.ref r6,.ref r5]))=G4 at m4 e4⊢;refine{(by show 4<=sizeLine;decide),λal ou=>?_};have m5:aK G4 (upd G4 al (.lst [.ref t1,.ref t2,.ref t3,.ref t4])):=aA ou _;have e5:upd G4 al (.lst [.ref t1,.ref t2,.ref t3,.ref t4]) al=some (.lst [.ref t1,.ref t2,.ref t3,.ref t4]):=av;generalize (upd G4 al (.lst [.ref t1,.ref t2,.ref t3,.ref t4]))=G5 at m5 e5⊢;have m45:=m4.trans m5;have m35:=m3.trans m45;have m25:=m2.trans m35;have Pm:=m1.trans m25;have hP:∀x∈([.ref t1,.ref t2,.ref t3,.ref t4]:Aam),∃(a:Addr)(va vb:V)(ha:Aaf)(aa:Hw)(hb:Aaf)(ab:Hw),x=.ref a/\G5 a=some (.tup [va,vb])/\QW G5 va ha aa/\nN ha aa/\QW G5 vb hb ab/\nN hb ab:=λx hx=>by
   have k5:=(q5.keep (rD.fD ko)).keep (cv.of Pm);have k6:=q6.keep (cv.of Pm);rcases aN.mp hx with rfl|hx
   ·exact{t1,_,_,_,_,_,_,9,m25 _ _ e1,k5,in5,(w2.keep (cv.of Pm)),i2}
   rcases aN.mp hx with rfl|hx
   ·exact{t2,_,_,_,_,_,_,9,m35 _ _ e2,(w1.keep (cv.of Pm)),i1,k6,in6}
   rcases aN.mp hx with rfl|hx
   ·exact{t3,_,_,_,_,_,_,9,m45 _ _ e3,k5,in5,k6,in6}
   rw[aC.mp hx];exact{t4,_,_,_,_,_,_,9,m5 _ _ e4,k6,in6,k5,in5}
  generalize ([.ref t1,.ref t2,.ref t3,.ref t4]:Aam)=xs at e5 hP⊢;refine{al,9,{_,bf.of e5},gL (xs:=xs) (λi Z Hs=>∃x8:Aan,Z=[some (.ref fe),some (.ref r),some v1,some v2,some (.ref sl),some (.str z),some (.ref r5),some (.ref r6),x8]/\aK G5 Hs) {_,9,aK.refl _} ?_ ?_ ?_}
  ·rintro i Z Hs hi ⟨_,rfl,ss⟩;exact bf.of (ss _ _ e5)
  ·rintro i x Z Hs hx ⟨_,rfl,ss⟩;obtain⟨a,va,vb,ha,aa,hb,ab,rfl,jC,qa,ia,qb,ib⟩:=hP x (az hx);refine{_,9,_,_,_,_,9,9,aZ.of (ss _ _ jC),9,_,9,_,_,_,_,9,9,aZ.of (ss _ _ jC),9,?_};refine xf (qa.keep (cv.of ss)) (qb.keep (cv.of ss)) ia ib λu Hu su tu=>?_;have Sx:=ss.trans su;refine{_,9,_,_,_,_,9,9,aZ.of (Sx _ _ jC),9,_,9,_,_,_,_,9,9,aZ.of (Sx _ _ jC),9,?_};refine{u,va,vb,ha,hb,aa,ab,9,qa.keep (cv.of Sx),qb.keep (cv.of Sx),tu.right,λHv sv=>{_,9,?_}};exact eS {_,9,Sx.trans sv}
  ·rintro Z Hs ⟨_,rfl,ss⟩;exact k Hs ((rC.same Pm).same ss) ((XQ.trans (Ext.of Pm)).trans (Ext.of ss))
end
end K31
namespace L2
open PySem PySem.Spec PyProof.Rows
section
variable{X:Cx}
inductive aaX(x:V)(vs:Aam)(H:Hp)(Q:VK):Prop
 |mk d kvs (_:x=.ref d) (_:vs=[]) (_:H d=some (.dK kvs)) (_:Q .cz (upd H d (.dK [])))
def TZ:Kh X "dict.clear" aaX:=by intro pins s Z H x vs v us Q I rx rv h;obtain⟨d,kvs,rfl,rfl,hd,q⟩:=h;cases rx;obtain rfl:=rv.zero;exact abU I hd λs' I'=>{.cz,_,I',9,q}
inductive abA(P:Program)(w:World)(R:It->Hp->Prop)(x:V)(H1:Hp):Prop
 |mk d o u kvs (_:x=.ref d) (_:H1 d=some (.fB o u)) (_:KN P w d u kvs) (_:R (Ql d o u kvs) H1)
def adD(P:Program)(w:World)(tl:TE):TI:=λZ H R=>tl Z H λx H1=>abA P w R x H1
def LP{tg l:Expr}{tl:TE}(hl:PE X l tl):PI X tg l (adD X.prog X.w tl):=by
 intro pins s Z H R I h;refine dh (hl pins s Z H _ I h) λv s1 x H1 I1 r1 q1=>?_;obtain⟨d,o,u,kvs,e,hd,hv,q⟩:=q1;subst e;cases r1;obtain⟨ho,hu⟩:=I1.bQ d _ hd;obtain⟨lo,o',es,ep,ga,m⟩:=Ij hu hv;obtain rfl:o=o':=bR (ho.symm.trans ga);refine HC lo ga m.1 m.2.1 ?_;refine{s1.heap.objs.size,[s1.heap.objs.size],_,_,_,9,I1.kept (t':=s1.toks) λb o e=>ao _ e,KY m,{_,682,9,9},694,q};have e:b=s1.heap.objs.size:=by simpa using hb
 subst e;exact I1.uD (aw _) 704
end
end L2
namespace K31
open PySem PySem.Spec PyProof.Rows L2 aJ
seal L2.PE L2.PT L2.PW L2.PA L2.PS L2.pX L2.PI L2.PO L2.Kg L2.PG L2.Hc
section
variable{P:Program}{w:World}{K:Frag}{mg:Aab}{base:Heap}
inductive IY(K:Frag)(vs:Aam)(H:Hp)(Q:VK)(_x3:XK):Prop
 |mk (r:Addr) (_:vs=[.ref r]) (_:((∃l mx,H r=some (.tup [.str "within",.ref l])/\H l=some (.lst mx)/\mx.length<=100/\∀H',(∀b u,b≠l->H b=some u->H' b=some u)->Q .cz H')\/(∃p rw fs,H r=some (.tup [.str "parted",.ref p,.ref rw])/\rN K H p fs/\fs.length<=60/\(fs.map (·.ad)).Nodup/\∀H',(∀b u,b≠p->(∀e∈fs,b≠e.ad)->H b=some u->H' b=some u)->Q .cz H')))
def BE:bZ ["_law_found","_law_name"] ["_law_found"] (defScope xX):=gC 53
def QV{f:Addr}{fd:FuncData}(F:dF K "_law_emptied" "_law_emptied" xX f fd)(T:Txt K mg):cK P w K mg base d7 1 f fd ["_law_found"] (IY K):=by
 refine F.ok BE (λ_ _ _ _ h=>by cases h;subst_vars;rfl) 54;obtain⟨r,rfl,h⟩:=h;refine{_,(aQ (dg (bY ny (bH b4 (pv 0) aO (λ_ _=>9)) cT (cB _)) (aQ (fR (iL bI gN gM qG (bH b4 (pv 0) aO (λ_ _=>9)) (bW (d9 (cw cT cT)))))) (aB (EX (dJ bE 9 (EZ (bH b4 (pv 0) aO (λ_ _=>9))) (gg 1 BE) (aQ (fR (LX bI wV wR Mn (qE (mK hr) (bH b4 (pv 0) aO (λ_ _=>9)) (pv 1) (λ_ _=>9))))))) (aQ (fR (LX eZ wX PySem.F.type_dict_clear TZ (bH b4 (pv 0) aO (λ_ _=>9)))))))),?_}
 rcases h with⟨l,mx,je,hl,lp,k⟩|⟨p,tU,fs,je,tb,lf,ad,k⟩
 ·refine{_,9,_,_,_,_,9,9,aZ.of je,9,9,_,9,?_};refine kz ?_;refine{_,9,_,_,_,_,9,9,aZ.of je,9,.inl {9,_,bf.of hl},96,λt ht=>{l,_,_,9,9,aA ht _ _ _ hl,fW lp 7,?_}};refine k _ λb u n h=>?_;rw[aL n];exact aA ht _ _ _ h
 ·refine{_,9,_,_,_,_,9,9,aZ.of je,9,9,_,9,?_};have ev:decide (V.str "parted"=V.str "within")=false:=by decide
  refine eS ?_;refine{p,(λo v e=>by rw[tb.at_]at e;cases e),_,9,_,_,_,_,9,9,aZ.of je,9,p,_,_,9,tb.at_,.inl ⟨_,rfl,rfl⟩,λo=>?_};have jD:upd H p (.fB o 654) p=some (.fB o 654):=av;have b1:∀b u,b≠p->H b=some u->upd H p (.fB o 654) b=some u:=λb u n h=>aL n▸h;generalize (upd H p (.fB o 654))=H1 at jD b1⊢;have TM:r≠p:=λe=>by rw[e,tb.at_]at je;cases je
  have Mj:∀e∈fs,e.ad≠p:=λe he q=>by have:=(tb.en e he).2.1;rw[q,tb.at_]at this;cases this
  have nra:∀e∈fs,r≠e.ad:=λe he q=>by have:=(tb.en e he).2.1;rw[<-q,je]at this;cases this
  refine Cu (λi Z H2=>∃x1:Aan,Z=[some (.ref r),x1]/\(∀b u,(∀e∈fs,b≠e.ad)->H1 b=some u->H2 b=some u)/\∀e∈fs,∃ys,H2 e.ad=some 679) {_,9,λb u _ h=>h,λe he=>{_,b1 _ _ (Mj e he) (tb.en e he).2.1}} ?_ ?_ ?_
  ·rintro i Z H2 hi ⟨_,rfl,k2,_⟩;exact k2 _ _ (λe he=>(Mj e he).symm) jD
  ·rintro i kv Z H2 nB ⟨_,rfl,k2,l2⟩;rw[b5,aW]at nB;obtain⟨e,GB,GK⟩:=br.mp nB;subst GK;have he:=az GB;obtain⟨ys,kD⟩:=l2 e he;refine{_,9,_,_,_,_,9,9,aZ.of (k2 _ _ (nra · ·) (b1 _ _ TM je)),9,_,9,p,.ref e.ad,9,.inl {657,Sum.inr e.nm,.inr {o,(k2 _ _ (λe he=>(Mj e he).symm) jD)},9,(kX tb.nm he).symm},.inl {9,_,bf.of kD},_,_,9,9,kD,?_};refine{_,9,λb u n h=>?_,λe' xw=>?_}
   ·rw[aL (n e he)];exact k2 b u n h
   ·by_cases q:e'.ad=e.ad
    ·exact{[],by rw[q,av]}
    ·obtain⟨hU,h'⟩:=l2 e' xw;exact{hU,aL q▸h'}
  ·rintro Z H2 ⟨_,rfl,k2,l2⟩;have kQ:=k2 _ _ (nra · ·) (b1 _ _ TM je);refine{o,_,(k2 _ _ (λe he=>(Mj e he).symm) jD),?_};have gh:upd H2 p 654 p=some 654:=av;refine{_,9,_,_,_,_,9,9,aZ.of (by rw[aL TM];exact kQ),9,?_,p,_,9,9,gh,?_}
   ·exact .inr (.inr (.inl {9,.inl ⟨_,gh⟩}))
   ·refine k _ λb u n1 n2 h=>?_;rw[aL n1,aL n1];exact k2 b u n2 (b1 b u n1 h)
theorem Ze{α β:Type}(f:α->β):∀{l:List α},(l.map f).Nodup->∀{a b:α},a∈l->b∈l->f a=f b->a=b
 |[],_,_,_,h,_,_=>by cases h
 |x::r,nd,a,b,ha,hb,e=>by
  rw[bq,dc]at nd;rcases aN.mp ha with e1|h1
  ·rcases aN.mp hb with e2|h2
   ·rw[e1,e2]
   ·exact absurd (aE.mpr {b,h2,by rw[<-e,e1]}) nd.1
  ·rcases aN.mp hb with e2|h2
   ·exact absurd (aE.mpr {a,h1,by rw[e,e2]}) nd.1
   ·exact Ze f nd.2 h1 h2 e
def K8{fs:List En}{j:Nat}{x:En}(q:En->Bool)(h:fs[j]?=some x):(fs.take (j+1)).filter q=(fs.take j).filter q++if q x=true then[x]else[]:=by rw[bj,h,eA];show _++List.filter q [x]=_;rw[cS];rfl
end
abbrev FI(K:Frag)(G:Addr->Prop)(H:Hp):Aam->List En->Prop:=Paired λy e=>∃a ys,y=.ref a/\G a/\H a=some 679/\eE K H ys e.rows
theorem Dz{K:Frag}{G G':Addr->Prop}{H H':Hp}(g:∀a,G a->G' a)(k:∀a u,G a->H a=some u->H' a=some u)(t:cN H H'):∀{zs:Aam}{es:List En},FI K G H zs es->FI K G' H' zs es
 |_,_,.nil=>.nil
 |_,_,.cons ⟨a,ys,e,ga,h,r⟩ tl=>.cons {a,ys,e,g a ga,k _ _ ga h,ji r t} (Dz g k t tl)
def Pn{K:Frag}{G:Addr->Prop}{H:Hp}{zs:Aam}{es:List En}{y:V}{e:En}(h:FI K G H zs es)(q:∃a ys,y=.ref a/\G a/\H a=some 679/\eE K H ys e.rows):FI K G H (zs++[y]) (es++[e]):=Paired.app h (.cons q .nil)
def oX(es:List En):PyData:=.list (es.map λe=>iY e.rows)
theorem Im{K:Frag}{G:Addr->Prop}{H:Hp}:∀{zs:Aam}{es:List En},FI K G H zs es->lJ K H (es.map λe=>iY e.rows) zs
 |_,_,.nil=>by rw[fw,lJ]
 |_,_,.cons ⟨a,ys,e,_,h,r⟩ t=>by exact{_,_,9,by rw[e];exact Il (bf.of h) r,Im t}
theorem NB:∀es:List En,PyData.eqvAll (es.map λe=>iY e.rows) (es.map λe=>iY e.rows)=true
 |[]=>by simp[PyData.eqvAll]
 |a::r=>by rw[bq,PyData.eqvAll,NA,NB r,bg rfl];rfl
theorem Mw:∀es:List En,(∀e∈es,zB e.rows)->PyData.canLayAll0 (es.map λe=>iY e.rows)=true
 |[],_=>rfl
 |a::r,h=>by have h1:(iY a.rows).canLay0=true:=E7 a.rows (h a aF);rw[bq,PyData.canLayAll0,h1,(Mw r λe he=>h e (aG _ he))];rfl
theorem GN:∀es:List En,PyData.depthAll (es.map λe=>iY e.rows)<=2
 |[]=>by simp[PyData.depthAll]
 |a::r=>by
  have h1:=Ao a.rows;have h2:=GN r;have h3:(iY a.rows).depth<=2:=by unfold iY;rw[PyData.depth];lia
  rw[bq,PyData.depthAll];lia
def Ec{es:List En}(h:∀e∈es,zB e.rows):SeqAt.shaped (oX es)=true:=by have h2:=GN es;simp[SeqAt.shaped,oX,PyData.canLay0,PyData.depth,(Mw es h)];lia
section
variable{P:Program}{w:World}{K:Frag}{mg:Aab}{base:Heap}
inductive OZ(K:Frag)(vs:Aam)(H:Hp)(Q:VK)(_x3:XK):Prop
 |mk (r p rw:Addr) (fs:List En) (_:vs=[.ref r]) (_:H r=some (.tup [.str "parted",.ref p,.ref rw])) (_:rN K H p fs) (_:fs.length<=60) (_:(fs.map (·.ad)).Nodup) (_:∀H',aK H H'->Q (.bl true) H')
def u7:bZ ["_law_found","_law_name","_law_kept_here","_law_rows"] ["_law_found"] (defScope BN):=gC 53
def W4{f:Addr}{fd:FuncData}(F:dF K "_law_apart" "_law_apart" BN f fd)(T:Txt K mg):cK P w K mg base d7 1 f fd ["_law_found"] (OZ K):=by
 refine F.ok u7 (λ_ _ _ _ h=>by cases h;subst_vars;rfl) 54;obtain⟨r,p,tU,fs,rfl,je,tb,lf,ad,k⟩:=h;have hu:=mK hr;refine{_,(aB (EX (dJ bE 9 (EZ (bH b4 (pv 0) aO (λ_ _=>9))) (qD (i:=1) u7.nd 9 (Or.inr 9)) (aB (LJ (j:=2) u7.nd 9 9 9 (cV (fs:=["_law_found","_law_name"]) (fr:=[0,1])) (LP (bH b4 (pv 0) aO (λ_ _=>9))) (λ_ _ _ _=>(bY oU (pv 0) (pv 2) (cB _))) (λ_ _ _ _=>(cU (Kv (K:=K)) 9 T.pT 53 (bW (qE hu (bH (qH (K:=K)) (pv 1) aO (λ_ _=>9)) (pv 0) (λ_ _=>9)))))) (aB (dM 3 u7 (cU kH 9 T.pT 53 (bW (qE hu (bH b4 (pv 0) aO (λ_ _=>9)) (pv 1) (λ_ _=>9))))) (aB (fR (LX bI wV wR Mn (qE hu (bH b4 (pv 0) aO (λ_ _=>9)) (pv 1) (λ_ _=>9)))) (aB (dg (bY (F8 hr.units) (pv 2) (k9 9 (cV (fs:=["_law_found","_law_name"]) (fr:=[0,1])) (LP (bH b4 (pv 0) aO (λ_ _=>9))) (λ_ _ _ _=>(bY oU (pv 0) (pv 2) (cB _))) (λ_ _ _ _=>(qE hu (bH (qH (K:=K)) (pv 1) aO (λ_ _=>9)) (pv 0) (λ_ _=>9)))) (cB _)) 669 cy) (aQ (fR (iL bI dO dN xr (qE hu (bH b4 (pv 0) aO (λ_ _=>9)) (pv 1) (λ_ _=>9)) (bW (pv 3))))))))))) 669),?_}
 have nfz:∀o v,H p≠some (.fB o v):=λo v e=>by rw[tb.at_]at e;cases e
 refine{p,nfz,_,9,_,_,_,_,9,9,aZ.of je,9,p,_,_,9,tb.at_,.inl ⟨_,rfl,rfl⟩,λo=>?_};have jD:upd H p (.fB o 654) p=some (.fB o 654):=av;have t1:cN H (upd H p (.fB o 654)):=cN.upd (vS tb.at_);have b1:∀b u,b≠p->H b=some u->upd H p (.fB o 654) b=some u:=λb u n h=>by rw[aL n];exact h
 generalize (upd H p (.fB o 654))=H1 at jD t1 b1⊢;have TM:r≠p:=λe=>by rw[e,tb.at_]at je;cases je
 have Mj:∀e∈fs,e.ad≠p:=λe he q=>by have:=(tb.en e he).2.1;rw[q,tb.at_]at this;cases this
 have Gs:=b1 _ _ TM je;have Y6:∀es:List En,(∀e∈es,e∈fs)->∀e∈es,zB e.rows:=λes h e he r hr z hz=>(((tb.en e (h e he)).2.2.2.2.2.1 r hr).2.2 z hz).2;refine Cu (d:=p) (o:=o) (u:=.dK 657) (λi Z H2=>∃x1 x2 x3:Aan,Z=[some (.ref r),x1,x2,x3]/\aK H1 H2) {_,_,_,9,aK.refl _} ?_ ?_ ?_
 ·rintro i Z H2 hi ⟨_,_,_,rfl,s2⟩;exact s2 _ _ jD
 ·rintro i kv Z H2 nB ⟨_,_,_,rfl,s2⟩;rw[b5,aW]at nB;obtain⟨e,GB,GK⟩:=br.mp nB;have GK:kv=(.str e.nm,.ref e.ad):=GK.symm;subst GK;have he:=az GB;have ir:=s2 _ _ jD;have kQ:=s2 _ _ Gs;have ea2:∀e∈fs,H2 e.ad=some (.lst e.ys)/\eE K H2 e.ys e.rows:=λe he=>{s2 _ _ (b1 _ _ (Mj e he) (tb.en e he).2.1),fE (ji (tb.en e he).2.2.1 t1) s2};have lk:((fs.map fb).map λp=>(kV p.1,p.2)).length=fs.length:=by rw[aj,aj]
  refine{_,9,_,_,_,_,9,9,aZ.of kQ,9,p,o,654,_,9,ir,.inl ⟨_,rfl,rfl⟩,Ap (d:=p) (o:=o) (u:=.dK 657) (λj zs H3=>aK H2 H3/\j<=fs.length/\zs.length<=j/\FI K (λa=>H2 a=none) H3 zs ((fs.take j).filter λx=>!decide (x.nm=e.nm))) (by rw[lk];exact bt ∅) {aK.refl _,aP _,aw _,.nil} ?_ ?_ ?_}
  ·rintro j zs H3 hj ⟨s3,_,lz,_⟩;exact{s3 _ _ ir,lz}
  ·rintro j kv zs H3 N MW ⟨s3,hj,lz,ls⟩ hN;rw[b5,aW]at MW;obtain⟨e',Fb,Fj⟩:=br.mp MW;have Fj:kv=(.str e'.nm,.ref e'.ad):=Fj.symm;subst Fj;have xw:=az Fb;have bO:j<fs.length:=(au.mp Fb).1;obtain⟨a2,r2⟩:=ea2 e' xw;refine{_,9,_,9,9,_,9,?_};have tf:=K8 (λx=>!decide (x.nm=e.nm)) Fb;have ed:(!decide (V.str e'.nm=V.str e.nm))=!decide (e'.nm=e.nm):=by congr 1;exact decide_eq_decide.mpr {λq=>by injection q,λq=>by rw[q]}
   rw[ed];refine dU 668 668
   ·rw[aM c]at tf;refine{_,9,_,_,_,_,9,9,aZ.of (s3 _ _ kQ),9,_,9,p,.ref e'.ad,9,.inl {657,Sum.inr e'.nm,.inr {o,s3 _ _ ir},9,(kX tb.nm xw).symm},e'.ad,_,9,.inl (bf.of (s3 _ _ a2)),λl hl=>hN _ _ {s3.trans (aA hl _),bO,?_,?_}}
    ·rw[aD];exact gO lz
    ·rw[tf];refine Pn (Dz (λ_ g=>g) (λa u _ h=>aA hl _ _ _ h) (cN.same (aA hl _)) ls) {l,_,9,s3.free hl,av,fE r2 (s3.trans (aA hl _))}
   ·rw[aI c,cL]at tf;exact hN _ _ {s3,bO,8,by rw[tf];exact ls}
  ·rintro zs H3 ⟨s3,_,lz,ls⟩ kl ZO;rw[lk]at lz ls;rw[aS]at ls;have s4:aK H3 (upd H3 kl 690):=aA ZO _;have h4:upd H3 kl 690 kl=some 690:=av;generalize (upd H3 kl 690)=H4 at s4 h4⊢;have pz:=s3.trans s4;have nkl:H2 kl=none:=s3.free ZO;obtain⟨ae,re⟩:=ea2 e he;refine{_,9,_,_,_,_,9,9,aZ.of (pz _ _ kQ),9,_,9,p,.ref e.ad,9,.inl {657,Sum.inr e.nm,.inr {o,pz _ _ ir},9,(kX tb.nm he).symm},e.ad,_,9,.inl (bf.of (pz _ _ ae)),λrl Es=>?_};have s5:aK H4 (upd H4 rl (.lst e.ys)):=aA Es _;have h5:upd H4 rl (.lst e.ys) rl=some (.lst e.ys):=av;generalize (upd H4 rl (.lst e.ys))=H5 at s5 h5⊢;have xl:=pz.trans s5;have nrl:H2 rl=none:=pz.free Es;have ae5:=xl _ _ ae;refine{_,9,_,_,_,_,9,9,aZ.of (xl _ _ kQ),9,_,9,p,.ref e.ad,9,.inl {657,Sum.inr e.nm,.inr {o,xl _ _ ir},9,(kX tb.nm he).symm},.inl {9,_,bf.of ae5},e.ad,_,9,9,ae5,?_};have b6:∀b u,b≠e.ad->H5 b=some u->upd H5 e.ad 661 b=some u:=λb u n h=>by rw[aL n];exact h
   have t6:cN H5 (upd H5 e.ad 661):=cN.upd (B3 ae5);have h6:upd H5 e.ad 661 e.ad=some 661:=av;generalize (upd H5 e.ad 661)=H6 at b6 t6 h6⊢;have nfr:∀a,H2 a=none->a≠e.ad:=λa h q=>by rw[q,ae]at h;cases h
   have JC:=b6 _ _ (Mj e he).symm (xl _ _ ir);have nre:r≠e.ad:=λq=>by rw[q,ae]at kQ;cases kQ
   have UL:=b6 _ _ nre (xl _ _ kQ);have ls6:=Dz (λ_ g=>g) (λa u g h=>b6 _ _ (nfr a g) (s5 _ _ h)) ((cN.same s5).trans t6) (Dz (λ_ g=>g) (λa u _ h=>s4 _ _ h) (cN.same s4) ls);have hk6:=b6 _ _ (nfr kl nkl) (s5 _ _ h4);have agN:=b6 _ _ (nfr rl nrl) h5;have ot6:∀x∈fs,x.nm≠e.nm->H6 x.ad=some (.lst x.ys)/\eE K H6 x.ys x.rows:=λx hx n=>by obtain⟨q1,q2⟩:=ea2 x hx;have nx:x.ad≠e.ad:=λq=>n (by rw[Ze (·.ad) ad hx he q]);exact{b6 _ _ nx (xl _ _ q1),ji (fE q2 xl) t6}
   refine{_,9,_,9,_,_,_,_,9,9,aZ.of UL,9,p,o,654,_,9,JC,.inl ⟨_,rfl,rfl⟩,Ap (d:=p) (o:=o) (u:=.dK 657) (λj us H7=>H7=H6/\j<=fs.length/\us.length<=j/\FI K (λ_=>True) H6 us ((fs.take j).filter λx=>!decide (x.nm=e.nm))) (by rw[lk];exact bt ∅) {9,aP _,aw _,.nil} ?_ ?_ ?_}
   ·rintro j us H7 hj ⟨rfl,_,lu,_⟩;exact⟨JC,lu⟩
   ·rintro j kv us H7 N MW ⟨rfl,hj,lu,T4⟩ hN;rw[b5,aW]at MW;obtain⟨e',Fb,Fj⟩:=br.mp MW;have Fj:kv=(.str e'.nm,.ref e'.ad):=Fj.symm;subst Fj;have xw:=az Fb;have bO:j<fs.length:=(au.mp Fb).1;refine{_,9,_,9,9,_,9,?_};have tf:=K8 (λx=>!decide (x.nm=e.nm)) Fb;have ed:(!decide (V.str e'.nm=V.str e.nm))=!decide (e'.nm=e.nm):=by congr 1;exact decide_eq_decide.mpr {λq=>by injection q,λq=>by rw[q]}
    rw[ed];refine dU 668 668
    ·rw[aM c]at tf;have ne:e'.nm≠e.nm:=λq=>by rw[q,bg rfl]at c;cases c
     obtain⟨q1,q2⟩:=ot6 e' xw ne;refine{_,9,_,_,_,_,9,9,aZ.of UL,9,_,9,p,.ref e'.ad,9,.inl {657,Sum.inr e'.nm,.inr ⟨o,JC⟩,9,(kX tb.nm xw).symm},hN _ _ {9,bO,?_,?_}}
     ·rw[aD];exact gO lu
     ·rw[tf];exact Pn T4 {e'.ad,_,9,trivial,q1,q2}
    ·rw[aI c,cL]at tf;exact hN _ _ {9,bO,8,by rw[tf];exact T4}
   ·rintro us H7 ⟨rfl,_,lu,T4⟩ ul zc;rw[lk,aS]at T4;have s8:aK H7 (upd H7 ul (.lst us)):=aA zc _;have h8:upd H7 ul (.lst us) ul=some (.lst us):=av;have okF:∀x∈fs.filter (λx=>!decide (x.nm=e.nm)),zB x.rows:=Y6 _ λx hx=>(cX.mp hx).1;refine{665,665,?_,?_,Ec okF,Ec okF,_,9,?_}
    ·unfold oX;rw[Dt];exact{kl,_,9,bf.of (s8 _ _ hk6),Im (Dz (G':=λ_=>True) (λ_ _=>trivial) (λa u _ h=>s8 _ _ h) (cN.same s8) ls6)}
    ·unfold oX;rw[Dt];exact{ul,_,9,bf.of h8,Im (Dz (G':=λ_=>True) (λ_ _=>trivial) (λa u _ h=>s8 _ _ h) (cN.same s8) T4)}
    have ee:PyData.eqv 665 665=true:=by unfold oX;rw[PyData.eqv];exact NB _
    have ev:(if true=true then !PyData.eqv 665 665 else PyData.eqv 665 665)=false:=by rw[aM rfl,ee];rfl
    rw[ev];refine eS ?_;refine{_,9,_,_,_,_,9,9,aZ.of (s8 _ _ UL),9,_,9,p,.ref e.ad,9,.inl {657,Sum.inr e.nm,.inr {o,s8 _ _ JC},9,(kX tb.nm he).symm},.inl {9,_,bf.of (s8 _ _ h6)},_,9,e.ad,rl,_,_,9,9,s8 _ _ h6,s8 _ _ agN,?_,?_}
    ·have:=(tb.en e he).2.2.2.2.1;have:e.ys.length=e.rows.length:=bc re;exact bB (bt (by show 0+e.ys.length<=1000;lia))
    ·refine{_,_,_,9,s2.trans λb u h=>?_};by_cases c:b=e.ad
     ·rw[c]at h;rw[ae]at h;rw[c,av,<-h];rfl
     ·rw[aL c];exact s8 _ _ (b6 _ _ c (xl _ _ h))
 ·rintro Z H2 ⟨_,_,_,rfl,s2⟩;refine{o,_,s2 _ _ jD,k _ λb u h=>?_};by_cases c:b=p
  ·rw[c,av];rw[c,tb.at_]at h;exact h
  ·rw[aL c];exact s2 _ _ (b1 b u c h)
def Lw{f:Addr}{H H1 H2:Hp}(s:aK H H1)(hf:H f=none)(e:Ext f H1 H2):aK H H2:=λb u q=>e b u (bC q hf) (s b u q)
def Kf.same{K:Frag}{H H':Hp}{a:Addr}{xs:Aam}(h:Kf K H a xs)(s:aK H H'):Kf K H' a xs:=by
 rcases h with⟨o,h⟩|h
 ·exact .inl {o,s _ _ h}
 ·exact .inr h
def dQ(hz:Aaf)(bb:Hw):PyData:=.tuple [.tuple (hz.map PyData.str),.tuple (bb.map dA)]
theorem JP:∀a b:Hw,PyData.eqvAll (a.map dA) (b.map dA)=decide (a=b)
 |[],[]=>by simp[PyData.eqvAll]
 |[],_::_=>by simp[PyData.eqvAll]
 |_::_,[]=>by simp[PyData.eqvAll]
 |x::a,y::b=>by rw[bq,bq,PyData.eqvAll,NN,JP a b];by_cases h:x=y<;>by_cases h':a=b<;>simp[h,h']
def aek{bU bV:Aaf}{bA bx:Hw}(h:PyData.eqv (dQ bU bA) (dQ bV bx)=true):bU=bV/\bA=bx:=by unfold dQ at h;simp only[PyData.eqv,PyData.eqvAll,nq,JP,Bj,bP,jE]at h;exact h
def aef{K:Frag}{H:Hp}{v:V}{hz:Aaf}{bb:Hw}(q:QW H v hz bb):Dt K H (dQ hz bb) v:=by
 obtain⟨p,hd,aa,cW,rfl,hp,Cj,m7,fV⟩:=q.at';unfold dQ;refine{p,_,9,aZ.of hp,?_};refine{_,_,9,?_,?_}
 ·rw[Dt];exact{hd,_,9,aZ.of Cj,lA _}
 ·rw[lJ];refine{_,_,9,?_,by rw[lJ]};exact{aa,_,9,aZ.of m7,Fl fV}
theorem JT:∀bb:Hw,PyData.depthAll (bb.map dA)<=60
 |[]=>by simp[PyData.depthAll]
 |a::r=>by have h1:=NF a;have h2:=JT r;rw[bq,PyData.depthAll];lia
def Ls{H:Hp}{v:V}{hz:Aaf}{bb:Hw}(q:QW H v hz bb):SeqAt.shaped (dQ hz bb)=true:=by have h3:=JT bb;simp[SeqAt.shaped,dQ,PyData.canLay0,PyData.canLayAll0,PyData.depth,PyData.depthAll,(sO hz λz hz=>(fZ (q.hh z hz)).2.2),(HX (bb:=bb) λa ha=>{(fZ (tM (q.good a ha).1)).2.2,λz hz=>(fZ ((q.good a ha).2.2.2 z hz)).2.2}),(o9 hz)];lia
def both{b:Bool}{A B N:Prop}(x:N->A)(y:N->B)(h:N):if b=true then A else B:=by
 cases b
 ·exact y h
 ·exact x h
def Gj{b:Bool}{A B:Prop}(e:b=false)(h:B):if b=true then A else B:=by rw[e];exact h
def dH.tps{K:Frag}{f:Addr}{H H':Hp}(h:dH K f H)(e:Ext f H H'):cN H H':=λb xs q=>by
 obtain⟨x,y,z,hf⟩:=h;rcases q with q|⟨o,q⟩
 ·exact .inl (e b _ (λc=>by rw[c,hf]at q;cases q) q)
 ·exact .inr {o,e b _ (λc=>by rw[c,hf]at q;cases q) q}
def rN.ext{K:Frag}{H H':Hp}{p f:Addr}{fs:List En}(x:rN K H p fs)(h:dH K f H)(e:Ext f H H')(np:p≠f)(ne:∀e∈fs,e.ad≠f):rN K H' p fs:={e _ _ np x.at_,x.nm,λy hy=>by obtain⟨h1,h2,h3,h4⟩:=x.en y hy;exact{h1,e _ _ (ne y hy) h2,ji h3 (h.tps e),h4}}
structure Dl(P:Program)(w:World)(K:Frag)(mg:Aab)(base:Heap):Prop where
 adl:cq P w K mg base 1 "_law_feed" ["_law_script","_law_k"] (SE K)
 adj:cq P w K mg base 4 "_law_pair" ["_law_feed_here","_law_most"] (Sz K)
 within:cq P w K mg base 26 "within" ["one","other"] (zM K)
 oY:cq P w K mg base 13 "_law_within_right" ["_law_found","_law_one","_law_other"] (Ho K)
 Kt:cq P w K mg base 27 "_law_asked_again" ["_law_feed_here","_law_found","_law_one","_law_other"] (OY K)
 abv:cq P w K mg base 1 "_law_apart" ["_law_found"] (OZ K)
 Uh:cq P w K mg base 1 "_law_emptied" ["_law_found"] (IY K)
inductive Kz(K:Frag)(vs:Aam)(H:Hp)(Q:VK)(_x3:XK):Prop
 |mk (a:Addr) (ns:List Int) (_:vs=[.ref a]) (_:Kf K H a (ns.map V.int)) (_:ns.length<=63) (_:∀H',Q (.bl true) H')
def qW:bZ ["_law_script","_law_j","_law_feed_here","_law_one","_law_other","_law_first","_law_second","_law_found","_law_again"] ["_law_script"] (defScope QH):=gC 53
def ac1(F:dF K "law" "law" QH f fd)(T:Txt K mg)(D:Dl P w K mg base):cK P w K mg base d7 28 f fd ["_law_script"] (Kz K):=by
 refine F.ok qW (λ_ _ _ _ h=>by cases h;subst_vars;rfl) 54;obtain⟨a,ns,rfl,hS,hn,k⟩:=h;refine{_,(aB (dJ bE 9 (nZ 9 T.sN (bW aO)) (gg 1 qW) (aB (dM 2 qW (cl D.adl hr (cw (pv 0) (c9 tW aO (pv 1))))) (aB (yR (cl D.adj hr (cw (pv 2) aO)) (jA 9 (cj (gg 3 qW) (cj (gg 4 qW) fY)))) (aQ (dJ bE 9 (dI (dR (jX (d9 (cw (pv 3) (pv 4))) (d9 (cw (pv 4) (pv 3))) (d9 (cw (pv 3) (pv 3)))))) (jA 9 (cj (gg 5 qW) (cj (gg 6 qW) fY))) (aB (dM 07 qW (cl D.within hr (cw (pv 5) (pv 6)))) (aB (dg (i9 (gH (cl D.oY hr (jX (pv 07) (pv 5) (pv 6))))) 669 cy) (aB (dg (PW.pt (BR (bY (acZ hr.units) (pv 5) (pv 6) (cB _)) (yP (bY oU (bH b4 (pv 07) aO (λ_ _=>9)) cT (cB _))))) 669 cy) (aB (dg (PW.pt (BR (bY ny (bH b4 (pv 07) aO (λ_ _=>9)) cT (cB _)) (yP (i9 (gH (cl D.Kt hr (fh (pv 2) (jX (pv 07) (pv 5) (pv 6))))))))) 669 cy) (aB (dg (PW.pt (BR (bY ny (bH b4 (pv 07) aO (λ_ _=>9)) cT (cB _)) (yP (i9 (gH (cl D.abv hr (bW (pv 07)))))))) 669 cy) (aB (fR (cl D.Uh hr (bW (pv 07)))) (aB (dM 08 qW (cl D.within hr (cw (pv 5) (pv 6)))) (aQ (dg (PW.pt (oP (i9 (gH (cl D.oY hr (jX (pv 08) (pv 5) (pv 6))))) (pR (bY oU (bH b4 (pv 08) aO (λ_ _=>9)) (bH b4 (pv 07) aO (λ_ _=>9)) (cB _))))) 669 cy)))))))))))))) 669),?_}
 refine{4,rfl,by decide,by decide,Ct
  (λj Z H1=>∃x1 x2 x3 x4 x5 x6 x7 x8:Aan,Z=[some 659,x1,x2,x3,x4,x5,x6,x7,x8]/\aK H H1) {none,none,none,none,none,none,none,none,9,aK.refl H} ?_ ?_}
 ·rintro j Z H1 hj ⟨x1,x2,x3,x4,x5,x6,x7,x8,rfl,xi⟩;refine{_,9,_,9,_,_,9,9,.inl {7,7},a,ns,_,9,hS.same xi,hn,8,λfe H2 kF gX ZS=>?_};have adW:=xi.free ZS;refine{_,9,fe,4,9,kF,7,7,λr one other bU bV bA bx H3 jY kR JA S6 xn in1 in2=>?_};refine{r,_,9,aZ.of JA,9,_,_,9,_,_,9,9,?_};have s3:=Lw (xi.trans gX) adW kR;refine{_,9,_,9,96,λt1 Ep=>{_,9,_,9,96,λt2 jd=>{_,9,_,9,96,λt3 jM=>?_}}};have m1:aK H3 (upd H3 t1 (.tup [one,other])):=aA Ep _;have e1:upd H3 t1 (.tup [one,other]) t1=some (.tup [one,other]):=av;generalize (upd H3 t1 (.tup [one,other]))=G1 at m1 e1 jd jM⊢;have m2:aK G1 (upd G1 t2 (.tup [other,one])):=aA jd _;have e2:upd G1 t2 (.tup [other,one]) t2=some (.tup [other,one]):=av;generalize (upd G1 t2 (.tup [other,one]))=G2 at m2 e2 jM⊢;have m3:aK G2 (upd G2 t3 (.tup [one,one])):=aA jM _;have e3:upd G2 t3 (.tup [one,one]) t3=some (.tup [one,one]):=av;generalize (upd G2 t3 (.tup [one,one]))=G3 at m3 e3⊢;refine{(by show 3<=sizeLine;decide),λal ou=>?_};have m4:aK G3 (upd G3 al (.lst [.ref t1,.ref t2,.ref t3])):=aA ou _;have e4:upd G3 al (.lst [.ref t1,.ref t2,.ref t3]) al=some (.lst [.ref t1,.ref t2,.ref t3]):=av;generalize (upd G3 al (.lst [.ref t1,.ref t2,.ref t3]))=G at m4 e4⊢;have m34:=m3.trans m4;have m24:=m2.trans m34;have Zl:=m1.trans m24;have hFG:=jY.same Zl;have hP:∀x∈([.ref t1,.ref t2,.ref t3]:Aam),∃(a:Addr)(va vb:V)(ha:Aaf)(aa:Hw)(hb:Aaf)(ab:Hw),x=.ref a/\G a=some (.tup [va,vb])/\QW G va ha aa/\nN ha aa/\QW G vb hb ab/\nN hb ab:=λx hx=>by
   have k1:=S6.keep (cv.of Zl);have k2:=xn.keep (cv.of Zl);rcases aN.mp hx with rfl|hx
   ·exact{t1,_,_,_,_,_,_,9,m24 _ _ e1,k1,in1,k2,in2}
   rcases aN.mp hx with rfl|hx
   ·exact{t2,_,_,_,_,_,_,9,m34 _ _ e2,k2,in2,k1,in1}
   rw[aC.mp hx];exact{t3,_,_,_,_,_,_,9,m4 _ _ e3,k1,in1,k1,in1}
  generalize ([.ref t1,.ref t2,.ref t3]:Aam)=xs at e4 hP⊢;refine{al,9,{_,bf.of e4},gL (xs:=xs) (λi Z Hs=>∃x5 x6 x7 x8:Aan,Z=[some 659,some (.int (0+(j:Int))),some (.ref fe),some one,some other,x5,x6,x7,x8]/\dH K fe Hs/\Ext fe G Hs) {_,_,_,_,9,hFG,Ext.refl _ _} ?_ ?_ ?_}
  ·rintro i Z Hs hi ⟨_,_,_,_,rfl,_,JO⟩;exact bf.of (JO _ _ ((((jY.same m1).same m2).same m3).my ou) e4)
  ·rintro i x Z Hs hx ⟨x5,x6,x7,x8,rfl,Va,JO⟩;obtain⟨ta,va,vb,ha,aa,hb,ab,rfl,jC,qa,ia,qb,ib⟩:=hP x (az hx);have tus:=hFG.fD JO;refine{ta,_,9,aZ.of (tus _ _ jC),9,_,_,9,_,_,9,9,?_};have qas:=qa.keep tus;have qbs:=qb.keep tus;refine{_,9,_,9,?_};refine xf qas qbs ia ib λu Hu su tu=>?_;refine{_,9,_,9,_,9,u,va,vb,ha,hb,aa,ab,9,(qas.keep (cv.of su)),(qbs.keep (cv.of su)),tu.right,λHv sv=>{_,9,?_}};refine eS ?_;have Su:=su.trans sv;have S9:=qas.keep (cv.of Su);have S7:=qbs.keep (cv.of Su);have Z2:=Va.same Su;refine{_,9,_,9,dQ ha aa,dQ hb ab,aef S9,aef S7,Ls S9,Ls S7,_,9,?_};cases tu with
   |Sg r l mx er hr hl lp l0 w yes=>
    subst er;have Jz:=sv _ _ hr;have JE:=sv _ _ hl;refine both (λh=>{_,9,_,_,_,_,9,9,aZ.of Jz,9,9,_,9,Gj 7 h}) (λh=>eS h) ?_;refine{_,9,_,_,_,_,9,9,aZ.of Jz,9,9,_,9,Gj 7 (eS ?_)};refine{_,9,_,_,_,_,9,9,aZ.of Jz,9,9,_,9,Gj 7 (eS ?_)};refine{_,9,r,9,.inl {l,mx,Jz,JE,lp,λHe ke=>?_}};have KZ:cv Hv He:=λb ys q=>ke b _ (λc=>by rw[c,JE]at q;cases q) q;have hFe:dH K fe He:=by obtain⟨y1,y2,y3,hf⟩:=Z2;exact{y1,y2,y3,ke _ _ (Va.my l0).symm hf}
    have exe:Ext fe G He:=λb y n q=>ke b y (λc=>by have:=JO b y n q;rw[c,l0]at this;cases this) (Su _ _ (JO b y n q))
    have Ta:=S9.keep KZ;have S8:=S7.keep KZ;refine{_,9,_,9,?_};refine xf Ta S8 ia ib λu2 Hx sx tx=>?_;refine{_,9,_,9,_,9,u2,va,vb,ha,hb,aa,ab,9,Ta.keep (cv.of sx),S8.keep (cv.of sx),tx.right,λHy sy=>{_,9,?_}};refine eS ?_;have sxy:=sx.trans sy;cases tx with
    |Sg r2 l2 afS Vo kQ gd lp2 l02 w2 ab7=>
     subst Vo;exact{_,9,_,_,_,_,9,9,aZ.of (sy _ _ kQ),9,_,9,_,_,_,_,9,9,aZ.of (sxy _ _ (KZ _ _ Jz)),9,9,_,9,Gj 7 ({_,_,_,_,9,hFe.same sxy,exe.trans (Ext.of sxy)})}
    |Tf r2 p2 rw2 fs2 Vo kQ p02 ad2 en2 w2 no2=>exact absurd yes λ⟨h,hh⟩=>no2 h hh
   |Tf r p tU fs er hr p0 ad en w no=>
    subst er;have Jz:=sv _ _ hr;have ef:(if false=true then !PyData.eqv (dQ ha aa) (dQ hb ab)else PyData.eqv (dQ ha aa) (dQ hb ab))=false:=by
     cases q:PyData.eqv (dQ ha aa) (dQ hb ab)with
     |false=>rfl
     |true=>
      obtain⟨q1,q2⟩:=aek q;subst q1 q2;exact absurd (Rc _ _) (no _)
    rw[ef];refine eS (eS ?_);have npf:=Va.my p0;have my:=λe he=>Va.my (en e he).1;have wv:VQ K Hv (.ref r) p fs ha aa hb ab:=by obtain⟨tb,lf,r',pQ,row,er,h1,h2,h3⟩:=w;exact{tb.same sv,lf,r',pQ,row,er,sv _ _ h1,sv _ _ h2,h3}
    refine{_,9,_,_,_,_,9,9,aZ.of Jz,9,9,_,9,?_};have ev:decide (V.str "parted"=V.str "parted")=true:=by decide
    refine kz {_,9,_,9,_,9,_,9,fe,.ref r,va,vb,p,fs,ha,hb,aa,ab,9,Z2,S9,S7,ia,ib,wv,λHw hFw exw=>{_,9,?_}};refine eS ?_;have tuw:=Z2.fD exw;have xu:=tuw _ _ Jz;have tbw:=(w.tb.same sv).ext Z2 exw npf my;refine{_,9,_,_,_,_,9,9,aZ.of xu,9,9,_,9,?_};refine kz {_,9,r,p,tU,fs,9,xu,tbw,w.lf,ad,λHx sx=>{_,9,?_}};refine eS ?_;have tbx:=tbw.same sx;have hrx:=sx _ _ xu;refine{_,9,r,9,.inr {p,tU,fs,hrx,tbx,w.lf,ad,λHe ke=>?_}};have KZ:cv Hx He:=λb ys q=>ke b _ (λc=>by rw[c,tbx.at_]at q;cases q) (λe he c=>by rw[c,(tbx.en e he).2.1]at q;cases q) q;have hFe:dH K fe He:=by obtain⟨y1,y2,y3,hf⟩:=(hFw.same sx);exact{y1,y2,y3,ke _ _ npf.symm (λe he=>(my e he).symm) hf}
    have exe:Ext fe G He:=λb y n q=>by
     have q1:=JO b y n q;refine ke b y 668 (λe he c=>?_) (sx _ _ (exw _ _ n (Su _ _ q1)))
     ·rw[c,p0]at q1;cases q1
     ·rw[c,(en e he).1]at q1;cases q1
    have tux:=tuw.trans (cv.of sx);have Ta:=(S9.keep tux).keep KZ;have S8:=(S7.keep tux).keep KZ;refine{_,9,_,9,?_};refine xf Ta S8 ia ib λu2 Hy sy ty=>?_;refine{_,9,_,9,_,9,u2,va,vb,ha,hb,aa,ab,9,Ta.keep (cv.of sy),S8.keep (cv.of sy),ty.right,λHz sz=>{_,9,?_}};refine eS ?_;have syz:=sy.trans sz;cases ty with
    |Sg r2 l2 afS Vo kQ gd lp2 l02 w2 ab7=>exact absurd ab7 λ⟨h,hh⟩=>no h hh
    |Tf r2 p2 rw2 fs2 Vo kQ p02 ad2 en2 w2 no2=>
     subst Vo;exact{_,9,_,_,_,_,9,9,aZ.of (sz _ _ kQ),9,_,9,_,_,_,_,9,9,aZ.of (syz _ _ (KZ _ _ hrx)),9,9,_,9,Gj 7 ({_,_,_,_,9,hFe.same syz,exe.trans (Ext.of syz)})}
  ·rintro Z Hs ⟨x5,x6,x7,x8,rfl,Va,JO⟩;exact{_,_,_,_,_,_,_,_,9,Lw (s3.trans Zl) adW JO}
 ·rintro Z H1 ⟨x1,x2,x3,x4,x5,x6,x7,x8,rfl,xi⟩;exact k _
end
end K31
namespace Hd
open PySem PySem.W PyProof.Rows PySem.W.Fast
abbrev pos0:Pos:={0,0,0,0}
abbrev tb:=tw14364793385576792824
abbrev an0:Option Value:=some (.ref 6)
def env0(p:Program):Env:={scope:=p.main.scope,locals:=mainNs,globals:=mainNs,cells:=[],code:=.ref 13,frame:=some 14}
def cd0(p:Program):Code:=.body (behindTheImports p) (env0 p)
abbrev B0:List Frame:=[topFrame pos0]
def S0(w:World)(os:OsState):Shared:={boot_heap w.params,Array.mk [],boot_drawn,boot_toks,os}
def mkT(l:List Obj):Nat->Nat->Nat->BT
 |0,_,_=>.nil
 |f+1,a,b=>match l[b]? with
  |some o=>.node o (mkT l f (2*a) (a+b)) (mkT l f (2*a) (2*a+b))
  |none=>.nil
def toT(s:Shared):SharedT:={mkT s.heap.objs.toList 6 1 0,s.heap.objs.size,s.heap.life,s.gens,s.drawn,s.toks,s.os}
def pre(p:Program)(w:World)(os:OsState):SharedT:=match tw15667345088766844465 tb p w 11 an0 12 (S0 w os) (topStub p)with
 |some r=>toT r.1
 |none=>toT (S0 w os)
def body(p:Program)(n:Nat)(w:World)(os:OsState):Option (Flow×SharedT×Code×Pos):=
 tw10110043849684766642 tb p w 11 an0 1 n (pre p w os) (piecesOf (behindTheImports p) (env0 p) (cd0 p) pos0 B0)
def aft(p:Program)(n:Nat)(w:World)(os:OsState):SharedT:=match body p n w os with
 |some r=>r.2.1
 |none=>toT (S0 w os)
def posL(p:Program)(n:Nat)(w:World)(os:OsState):Pos:=match body p n w os with
 |some r=>r.2.2.2
 |none=>pos0
def fin(p:Program)(n:Nat)(w:World)(os:OsState):Shared:=match tw14082659384304107361 tb p w 11 an0 2 (aft p n w os).abs {doneF .next,cd0 p,posL p n w os,B0}with
 |some s=>s
 |none=>S0 w os
structure Ok(p:Program)(n:Nat):Prop where
 pre:∀w os,tw15667345088766844465 tb p w 11 an0 12 (S0 w os) (topStub p)=some ((Hd.pre p w os).abs,{tw11892475500146522536 tb (cd0 p),cd0 p,pos0,B0})
 block:∀w os,tw14374325043358763698 tb p w 11 an0 1 1 (Hd.pre p w os).abs (blockOf (behindTheImports p) (env0 p) (cd0 p) pos0 B0)=some (.next,(Hd.pre p w os).abs,cd0 p,pos0)
 body:∀w os,Hd.body p n w os=some (.next,aft p n w os,cd0 p,posL p n w os)
 fin:∀w os,tw14082659384304107361 tb p w 11 an0 2 (aft p n w os).abs {doneF .next,cd0 p,posL p n w os,B0}=some (Hd.fin p n w os)
def run(o:Ok p n)(w:World)(os:OsState):topRun treeTable p w 11 an0 (12+(1+(n+2))) (S0 w os) (topStub p)=some (fin p n w os):=by have h1:=o.pre w os;have h2:=o.block w os;have h3:=o.body w os;have h4:=o.fin w os;unfold Hd.body at h3;unfold tb at h1 h2 h3 h4;rw[<-te15667345088766844465,<-te14364793385576792824,<-te11892475500146522536]at h1;rw[<-te14374325043358763698,<-te14364793385576792824]at h2;rw[<-te10110043849684766642,<-te14364793385576792824]at h3;rw[<-te14082659384304107361,<-te14364793385576792824]at h4;have k:topRun treeTable p w 11 an0 (n+2) (Hd.pre p w os).abs (restOf (behindTheImports p++[]) (env0 p) (cd0 p) pos0 B0)=some (fin p n w os):=piece_app (segRun_of h3) (piece_nil h4);rw[cL]at k;exact go_top h1 (piece_block h2 k)
def left(o:Ok p n)(hN:Nat.ble (12+(1+(n+2))) N=true)(he:opening p=plainProg p.main.scope.names)(h6:Nat.ble 600 N=true)(hf:∀s,fenceModules? p s=some s)
  (l1:∀w os,(staticsOk (importedModules p.main.body) (boot_heap w.params) (fin p n w os).heap&&namesBound p (fin p n w os).heap&&gensDone (fin p n w os)&&laidKept (boot_heap w.params) (fin p n w os).heap)=true)
  (l2:∀w os,openSeen q loose (importedModules p.main.body) Xt g0 (fin p n w os)=openGood q loose) (l3:∀w os,Yf (fin p n w os)=Ya w):LeftO p q loose Xt Yf Ya N g0:=λw=>by
 obtain⟨s,e,e'⟩:=br.mp (boot_open he h6 hf w);obtain⟨os,rfl⟩:∃os,s=S0 w os:=by obtain⟨h,g,d,t,os⟩:=s;simp only[Prod.mk.injEq]at e';obtain⟨rfl,rfl,rfl,rfl⟩:=e';exact⟨os,rfl⟩
 have r:=topRun_mono (N -(12+(1+(n+2)))) _ _ _ _ (run o w os);rw[show 12+(1+(n+2))+(N -(12+(1+(n+2))))=N by have:=Nat.le_of_ble_eq_true hN;lia]at r;have z1:((S0 w os).heap.isNs mainGlobals&&(S0 w os).gens.size==0)=true:=by kernel_rfl
 have z2:(S0 w os).heap.objs.size=11:=by kernel_rfl
 have z3:(S0 w os).heap.nsMap mainGlobals "__annotations__"=an0:=by kernel_rfl
 have t:topFrom treeTable p w N (S0 w os)=some (fin p n w os):=by unfold topFrom;rw[z1,z2,z3,r];have q:=l1 w os;show(match _ with|true=>_|false=>_)=_;rw[show(staticsOk (importedModules p.main.body) (S0 w os).heap (fin p n w os).heap&&namesBound p (fin p n w os).heap&&gensDone (fin p n w os)&&laidKept (S0 w os).heap (fin p n w os).heap)=true from q]
 unfold openEnds;rw[e];show(topFrom treeTable p w N _).map _=_;rw[t];exact cR some (FG (l2 w os) (l3 w os))
end Hd
namespace K31
open PySem PySem.Spec PyProof.Rows L2
abbrev tO(vs:Aae):Obj:={.type "tuple",none,.seq vs.toArray 0,#[]}
abbrev cO(vs:Aae):Obj:={.type "code",none,.fields vs.toArray,#[]}
abbrev kO(P:Params)(x:Str)(t:Tok)(v:Value):DictEntry:={PyData.keyHash P x,.str x t,v}
abbrev fO(s:Stmt)(n q:Str)(pm cd:Value):Obj:={.type "function",none,.func (fnOf n q (defArgs s) (defBody s) (defScope s) .none .none .none pm none cd .none),#[]}
abbrev cF(x q:Str)(a b c:Tok)(l n:Int)(r r1:Addr)(v1 v2:Value)(r2:Addr)(i:Int)(d:Tok):Obj:=cO [.str x a,.str q b,.str "/claim/cut.py" c,.int l 0,.int n 0,.int 0 0,.int 0 0,.int 3 0,.ref r,.bool true,.int 181 0,.ref r1,.none,v1,v2,.ref r2,.int i 0,.int l 0,.str "/claim/cut.py" d]
abbrev cG(x:Str)(a b c:Tok)(l n:Int)(r r1:Addr)(v1 v2:Value)(r2:Addr)(i:Int)(d:Tok):Obj:=cF x x a b c l n r r1 v1 v2 r2 i d
abbrev fF(s:Stmt)(x:Str)(m:Value)(r:Addr):Obj:=fO s x x m (.ref r)
abbrev mO0:Value:=Value.str "askviews.terms" 187
abbrev mO1:Value:=Value.str "askviews.maps" 217
abbrev mO2:Value:=Value.str "askviews.questions" 330
abbrev mO3:Value:=Value.str "askviews.tables" 351
abbrev mO4:Value:=Value.str "askviews.within" 381
abbrev mO5:Value:=Value.str "law_askviews_k31_within_or_parted" 398
noncomputable def KF(P:Params):Frag:=
 (nat_lit 2,{.none,none,.dict #[] 0,#[]})::
 (nat_lit 3,{(.type "dict"),none,.dict #[kO P "__name__" 165 (.str "law_askviews_k31_within_or_parted" 398),kO P "__doc__" 166 .none,kO P "__package__" 167 .none,kO P "__loader__" 168 (.builtin "__main__.__loader__#opaque"),kO P "__spec__" 169 .none,kO P "__annotations__" 170 (.ref 6),kO P "__builtins__" 171 (.ref 4),kO P "__file__" 173 (.str "/claim/cut.py" 172),kO P "__cached__" 174 .none,kO P "SIGNS" 190 (.str "abcdefghijklmnopqrstuvwxyz0123456789" 189),kO P "MOST_SIGNS" 192 (.int 08 191),kO P "is_value" 198 (.ref 19),kO P "is_unknown" 205 (.ref 26),kO P "new_values" 216 (.ref 33),kO P "image" 224 (.ref 38),kO P "found_map" 233 (.ref 45),kO P "fitted" 246 (.ref 52),kO P "MapSearch" 310 (.ref 93),kO P "parts_of" 323 (.ref 104),kO P "is_touched" 329 (.ref 109),kO P "unknowns_of" 341 (.ref 116),kO P "terms_of" 350 (.ref 123),kO P "rows_of" 360 (.ref 130),kO P "tables_of" 370 (.ref 137),kO P "sorted_tables" 380 (.ref 144),kO P "within" 391 (.ref 151),kO P "parted" 397 (.ref 156),kO P "_law_feed" 407 (.ref 163),kO P "_law_draw" 417 (.ref 170),kO P "_law_words" 423 (.ref 175),kO P "_law_atom" 438 (.ref 182),kO P "_law_head" 444 (.ref 187),kO P "_law_question" 450 (.ref 192),kO P "_law_led" 456 (.ref 197),kO P "_law_unknowns" 462 (.ref 202),kO P "_law_kept" 468 (.ref 207),kO P "_law_grown" 482 (.ref 214),kO P "_law_led_question" 488 (.ref 219),kO P "_law_bent" 504 (.ref 226),kO P "_law_pair" 510 (.ref 231),kO P "_law_is_map" 516 (.ref 236),kO P "_law_is_word" 522 (.ref 241),kO P "_law_is_row" 528 (.ref 246),kO P "_law_are_tables" 534 (.ref 251),kO P "_law_bound" 546 (.ref 258),kO P "_law_filled" 552 (.ref 263),kO P "_law_answers" 562 (.ref 270),kO P "_law_within_right" 571 (.ref 277),kO P "_law_emptied" 579 (.ref 284),kO P "_law_terms" 588 (.ref 291),kO P "_law_new_values" 594 (.ref 296),kO P "_law_called" 607 (.ref 303),kO P "_law_asked_again" 622 (.ref 310),kO P "_law_apart" 628 (.ref 315),kO P "law" 643 (.ref 322)] 55,#[]})::
 (nat_lit 15,tO [])::
 (nat_lit 18,cG "is_value" 193 194 195 4 1 15 16 .none .none 17 196 197)::
 (nat_lit 19,fF (top 3) "is_value" mO0 18)::
 (nat_lit 20,tO [])::
 (nat_lit 22,tO [(.str "thing" 202)])::
 (nat_lit 23,tO [])::
 (nat_lit 25,cG "is_unknown" 199 200 201 08 1 20 21 (.ref 22) (.ref 23) 24 203 204)::
 (nat_lit 26,fF (top 4) "is_unknown" mO0 25)::
 (nat_lit 27,tO [])::
 (nat_lit 29,tO [(.str "count" 209),(.str "taken" 210),(.str "found" 211),(.str "number" 212),(.str "value" 213)])::
 (nat_lit 30,tO [])::
 (nat_lit 32,cG "new_values" 206 207 208 10 2 27 28 (.ref 29) (.ref 30) 31 214 215)::
 (nat_lit 33,fF (top 5) "new_values" mO0 32)::
 (nat_lit 34,tO [])::
 (nat_lit 37,cG "image" 219 220 221 20 2 34 35 .none .none 36 222 223)::
 (nat_lit 38,fF (top 07) "image" mO1 37)::
 (nat_lit 39,tO [])::
 (nat_lit 41,tO [(.str "one" 228),(.str "other" 229),(.str "given" 230)])::
 (nat_lit 42,tO [])::
 (nat_lit 44,cG "found_map" 225 226 227 22 2 39 40 (.ref 41) (.ref 42) 43 231 232)::
 (nat_lit 45,fF (top 08) "found_map" mO1 44)::
 (nat_lit 46,tO [])::
 (nat_lit 48,tO [(.str "given" 237),(.str "terms" 238),(.str "aim" 239),(.str "longer" 240),(.str "term" 241),(.str "aimed" 242),(.str "meant" 243)])::
 (nat_lit 49,tO [])::
 (nat_lit 51,cG "fitted" 234 235 236 27 3 46 47 (.ref 48) (.ref 49) 50 244 245)::
 (nat_lit 52,fF (top 09) "fitted" mO1 51)::
 (nat_lit 60,tO [])::
 (nat_lit 62,tO [(.str "self" 262),(.str "atoms" 263)])::
 (nat_lit 63,tO [])::
 (nat_lit 65,cF "__init__" "MapSearch.__init__" 259 260 261 38 2 60 61 (.ref 62) (.ref 63) 64 264 265)::
 (nat_lit 66,fO (inClass (top 10) 0) "__init__" "MapSearch.__init__" mO1 (.ref 65))::
 (nat_lit 67,tO [])::
 (nat_lit 69,tO [(.str "self" 270),(.str "atoms" 271),(.str "name" 272),(.str "terms" 273),(.str "place" 274),(.str "term" 275)])::
 (nat_lit 70,tO [])::
 (nat_lit 72,cF "add" "MapSearch.add" 267 268 269 43 2 67 68 (.ref 69) (.ref 70) 71 276 277)::
 (nat_lit 73,fO (inClass (top 10) 1) "add" "MapSearch.add" mO1 (.ref 72))::
 (nat_lit 74,tO [])::
 (nat_lit 76,tO [(.str "self" 282),(.str "atoms" 283),(.str "given" 284),(.str "part" 285)])::
 (nat_lit 77,tO [])::
 (nat_lit 79,cF "mapped" "MapSearch.mapped" 279 280 281 50 3 74 75 (.ref 76) (.ref 77) 78 286 287)::
 (nat_lit 80,fO (inClass (top 10) 2) "mapped" "MapSearch.mapped" mO1 (.ref 79))::
 (nat_lit 81,tO [])::
 (nat_lit 84,cF "mapped_part" "MapSearch.mapped_part" 289 290 291 57 3 81 82 .none .none 83 292 293)::
 (nat_lit 85,fO (inClass (top 10) 3) "mapped_part" "MapSearch.mapped_part" mO1 (.ref 84))::
 (nat_lit 86,tO [])::
 (nat_lit 89,cF "aims_of" "MapSearch.aims_of" 295 296 297 72 3 86 87 .none .none 88 298 299)::
 (nat_lit 90,fO (inClass (top 10) 4) "aims_of" "MapSearch.aims_of" mO1 (.ref 89))::
 (nat_lit 91,tO [(.str "aims" 301),(.str "vain" 302)])::
 (nat_lit 92,{(.type "dict"),none,.dict #[kO P "__module__" 254 (.str "askviews.maps" 217),kO P "__firstlineno__" 258 (.int 36 257),kO P "__init__" 266 (.ref 66),kO P "add" 278 (.ref 73),kO P "mapped" 288 (.ref 80),kO P "mapped_part" 294 (.ref 85),kO P "aims_of" 300 (.ref 90),kO P "__static_attributes__" 303 (.ref 91),kO P "__dict__" 305 (.ref 94),kO P "__weakref__" 307 (.ref 95),kO P "__doc__" 308 .none] 4,#[]})::
 (nat_lit 93,{(.type "type"),none,.cls {"MapSearch",[(.type "object")],[(.ref 93),(.type "object")],92,"MapSearch",true,[],[],false,none,false},#[none,none,some (.str "MapSearch" 247),some (.str "MapSearch" 255),some (.builtin "object.__new__"),some (.bool true)]})::
 (nat_lit 94,{(.type "getset_descriptor"),none,.fields #[(.str "__dict__" 304),(.ref 93),(.builtin "function.__dict__"),(.builtin "function.__dict__#set")],#[]})::
 (nat_lit 95,{(.type "getset_descriptor"),none,.fields #[(.str "__weakref__" 306),(.ref 93),(.builtin "ExceptionGroup.__weakref__"),.none],#[]})::
 (nat_lit 98,tO [])::
 (nat_lit 100,tO [(.str "atoms" 314),(.str "given" 315),(.str "parts" 316),(.str "atom" 317),(.str "part" 318),(.str "beside" 319),(.str "earlier" 320)])::
 (nat_lit 101,tO [])::
 (nat_lit 103,cG "parts_of" 311 312 313 81 2 98 99 (.ref 100) (.ref 101) 102 321 322)::
 (nat_lit 104,fF (top 11) "parts_of" mO1 103)::
 (nat_lit 105,tO [])::
 (nat_lit 108,cG "is_touched" 324 325 326 93 3 105 106 .none .none 107 327 328)::
 (nat_lit 109,fF (top 12) "is_touched" mO1 108)::
 (nat_lit 110,tO [])::
 (nat_lit 112,tO [(.str "question" 335),(.str "found" 336),(.str "atom" 337),(.str "term" 338)])::
 (nat_lit 113,tO [])::
 (nat_lit 115,cG "unknowns_of" 332 333 334 97 1 110 111 (.ref 112) (.ref 113) 114 339 340)::
 (nat_lit 116,fF (top 14) "unknowns_of" mO2 115)::
 (nat_lit 117,tO [])::
 (nat_lit 119,tO [(.str "question" 345),(.str "found" 346),(.str "atom" 347)])::
 (nat_lit 120,tO [])::
 (nat_lit 122,cG "terms_of" 342 343 344 104 1 117 118 (.ref 119) (.ref 120) 121 348 349)::
 (nat_lit 123,fF (top 15) "terms_of" mO2 122)::
 (nat_lit 124,tO [])::
 (nat_lit 126,tO [(.str "tables" 356),(.str "name" 357)])::
 (nat_lit 127,tO [])::
 (nat_lit 129,cG "rows_of" 353 354 355 110 2 124 125 (.ref 126) (.ref 127) 128 358 359)::
 (nat_lit 130,fF (top 17) "rows_of" mO3 129)::
 (nat_lit 131,tO [])::
 (nat_lit 133,tO [(.str "atoms" 364),(.str "tables" 365),(.str "name" 366),(.str "row" 367)])::
 (nat_lit 134,tO [])::
 (nat_lit 136,cG "tables_of" 361 362 363 112 1 131 132 (.ref 133) (.ref 134) 135 368 369)::
 (nat_lit 137,fF (top 18) "tables_of" mO3 136)::
 (nat_lit 138,tO [])::
 (nat_lit 140,tO [(.str "tables" 374),(.str "told" 375),(.str "name" 376),(.str "rows" 377)])::
 (nat_lit 141,tO [])::
 (nat_lit 143,cG "sorted_tables" 371 372 373 117 1 138 139 (.ref 140) (.ref 141) 142 378 379)::
 (nat_lit 144,fF (top 19) "sorted_tables" mO3 143)::
 (nat_lit 145,tO [])::
 (nat_lit 147,tO [(.str "one" 386),(.str "other" 387),(.str "given" 388)])::
 (nat_lit 148,tO [])::
 (nat_lit 150,cG "within" 383 384 385 125 2 145 146 (.ref 147) (.ref 148) 149 389 390)::
 (nat_lit 151,fF (top 21) "within" mO4 150)::
 (nat_lit 152,tO [])::
 (nat_lit 155,cG "parted" 392 393 394 130 2 152 153 .none .none 154 395 396)::
 (nat_lit 156,fF (top 22) "parted" mO4 155)::
 (nat_lit 157,tO [])::
 (nat_lit 159,tO [(.str "_law_script" 403),(.str "_law_k" 404)])::
 (nat_lit 160,tO [])::
 (nat_lit 162,cG "_law_feed" 400 401 402 137 2 157 158 (.ref 159) (.ref 160) 161 405 406)::
 (nat_lit 163,fF (top 24) "_law_feed" mO5 162)::
 (nat_lit 164,tO [])::
 (nat_lit 166,tO [(.str "_law_feed_here" 411),(.str "_law_many" 412),(.str "_law_digit" 413),(.str "_law_seed" 414)])::
 (nat_lit 167,tO [])::
 (nat_lit 169,cG "_law_draw" 408 409 410 141 2 164 165 (.ref 166) (.ref 167) 168 415 416)::
 (nat_lit 170,fF (top 25) "_law_draw" mO5 169)::
 (nat_lit 171,tO [])::
 (nat_lit 174,cG "_law_words" 418 419 420 150 2 171 172 .none .none 173 421 422)::
 (nat_lit 175,fF (top 26) "_law_words" mO5 174)::
 (nat_lit 176,tO [])::
 (nat_lit 178,tO [(.str "_law_feed_here" 427),(.str "_law_names" 428),(.str "_law_unknowns_here" 429),(.str "_law_values" 430),(.str "_law_at" 431),(.str "_law_long" 432),(.str "_law_terms_here" 433),(.str "_law_k" 434),(.str "_law_term" 435)])::
 (nat_lit 179,tO [])::
 (nat_lit 181,cG "_law_atom" 424 425 426 155 4 176 177 (.ref 178) (.ref 179) 180 436 437)::
 (nat_lit 182,fF (top 27) "_law_atom" mO5 181)::
 (nat_lit 183,tO [])::
 (nat_lit 186,cG "_law_head" 439 440 441 167 2 183 184 .none .none 185 442 443)::
 (nat_lit 187,fF (top 28) "_law_head" mO5 186)::
 (nat_lit 188,tO [])::
 (nat_lit 191,cG "_law_question" 445 446 447 172 3 188 189 .none .none 190 448 449)::
 (nat_lit 192,fF (top 29) "_law_question" mO5 191)::
 (nat_lit 193,tO [])::
 (nat_lit 196,cG "_law_led" 451 452 453 180 2 193 194 .none .none 195 454 455)::
 (nat_lit 197,fF (top 30) "_law_led" mO5 196)::
 (nat_lit 198,tO [])::
 (nat_lit 201,cG "_law_unknowns" 457 458 459 182 1 198 199 .none .none 200 460 461)::
 (nat_lit 202,fF (top 31) "_law_unknowns" mO5 201)::
 (nat_lit 203,tO [])::
 (nat_lit 206,cG "_law_kept" 463 464 465 187 2 203 204 .none .none 205 466 467)::
 (nat_lit 207,fF (top 32) "_law_kept" mO5 206)::
 (nat_lit 208,tO [])::
 (nat_lit 210,tO [(.str "_law_feed_here" 472),(.str "_law_question_here" 473),(.str "_law_names" 474),(.str "_law_unknowns_here" 475),(.str "_law_more" 476),(.str "_law_atoms" 477),(.str "_law_atom_here" 478),(.str "_law_k" 479)])::
 (nat_lit 211,tO [])::
 (nat_lit 213,cG "_law_grown" 469 470 471 192 5 208 209 (.ref 210) (.ref 211) 212 480 481)::
 (nat_lit 214,fF (top 33) "_law_grown" mO5 213)::
 (nat_lit 215,tO [])::
 (nat_lit 218,cG "_law_led_question" 483 484 485 203 2 215 216 .none .none 217 486 487)::
 (nat_lit 219,fF (top 34) "_law_led_question" mO5 218)::
 (nat_lit 220,tO [])::
 (nat_lit 222,tO [(.str "_law_feed_here" 492),(.str "_law_question_here" 493),(.str "_law_names" 494),(.str "_law_unknowns_here" 495),(.str "_law_atoms" 496),(.str "_law_at" 497),(.str "_law_name" 498),(.str "_law_terms_here" 499),(.str "_law_spot" 500),(.str "_law_term" 501)])::
 (nat_lit 223,tO [])::
 (nat_lit 225,cG "_law_bent" 489 490 491 205 4 220 221 (.ref 222) (.ref 223) 224 502 503)::
 (nat_lit 226,fF (top 35) "_law_bent" mO5 225)::
 (nat_lit 227,tO [])::
 (nat_lit 230,cG "_law_pair" 505 506 507 216 2 227 228 .none .none 229 508 509)::
 (nat_lit 231,fF (top 36) "_law_pair" mO5 230)::
 (nat_lit 232,tO [])::
 (nat_lit 235,cG "_law_is_map" 511 512 513 232 3 232 233 .none .none 234 514 515)::
 (nat_lit 236,fF (top 37) "_law_is_map" mO5 235)::
 (nat_lit 237,tO [])::
 (nat_lit 240,cG "_law_is_word" 517 518 519 244 1 237 238 .none .none 239 520 521)::
 (nat_lit 241,fF (top 38) "_law_is_word" mO5 240)::
 (nat_lit 242,tO [])::
 (nat_lit 245,cG "_law_is_row" 523 524 525 248 1 242 243 .none .none 244 526 527)::
 (nat_lit 246,fF (top 39) "_law_is_row" mO5 245)::
 (nat_lit 247,tO [])::
 (nat_lit 250,cG "_law_are_tables" 529 530 531 250 1 247 248 .none .none 249 532 533)::
 (nat_lit 251,fF (top 40) "_law_are_tables" mO5 250)::
 (nat_lit 252,tO [])::
 (nat_lit 254,tO [(.str "_law_terms_here" 538),(.str "_law_row" 539),(.str "_law_given" 540),(.str "_law_more" 541),(.str "_law_term" 542),(.str "_law_value" 543)])::
 (nat_lit 255,tO [])::
 (nat_lit 257,cG "_law_bound" 535 536 537 260 3 252 253 (.ref 254) (.ref 255) 256 544 545)::
 (nat_lit 258,fF (top 41) "_law_bound" mO5 257)::
 (nat_lit 259,tO [])::
 (nat_lit 262,cG "_law_filled" 547 548 549 272 3 259 260 .none .none 261 550 551)::
 (nat_lit 263,fF (top 42) "_law_filled" mO5 262)::
 (nat_lit 264,tO [])::
 (nat_lit 266,tO [(.str "_law_question_here" 556),(.str "_law_tables" 557),(.str "_law_row" 558),(.str "_law_given" 559)])::
 (nat_lit 267,tO [])::
 (nat_lit 269,cG "_law_answers" 553 554 555 285 3 264 265 (.ref 266) (.ref 267) 268 560 561)::
 (nat_lit 270,fF (top 43) "_law_answers" mO5 269)::
 (nat_lit 271,tO [])::
 (nat_lit 273,tO [(.str "_law_found" 566),(.str "_law_one" 567),(.str "_law_other" 568)])::
 (nat_lit 274,tO [])::
 (nat_lit 276,cG "_law_within_right" 563 564 565 288 3 271 272 (.ref 273) (.ref 274) 275 569 570)::
 (nat_lit 277,fF (top 44) "_law_within_right" mO5 276)::
 (nat_lit 278,tO [])::
 (nat_lit 280,tO [(.str "_law_found" 575),(.str "_law_name" 576)])::
 (nat_lit 281,tO [])::
 (nat_lit 283,cG "_law_emptied" 572 573 574 296 1 278 279 (.ref 280) (.ref 281) 282 577 578)::
 (nat_lit 284,fF (top 45) "_law_emptied" mO5 283)::
 (nat_lit 285,tO [])::
 (nat_lit 287,tO [(.str "_law_question_here" 583),(.str "_law_terms_here" 584),(.str "_law_atom_here" 585)])::
 (nat_lit 288,tO [])::
 (nat_lit 290,cG "_law_terms" 580 581 582 303 1 285 286 (.ref 287) (.ref 288) 289 586 587)::
 (nat_lit 291,fF (top 46) "_law_terms" mO5 290)::
 (nat_lit 292,tO [])::
 (nat_lit 295,cG "_law_new_values" 589 590 591 308 2 292 293 .none .none 294 592 593)::
 (nat_lit 296,fF (top 47) "_law_new_values" mO5 295)::
 (nat_lit 297,tO [])::
 (nat_lit 299,tO [(.str "_law_feed_here" 598),(.str "_law_question_here" 599),(.str "_law_value" 600),(.str "_law_terms_here" 601),(.str "_law_old" 602),(.str "_law_new" 603),(.str "_law_made" 604)])::
 (nat_lit 300,tO [])::
 (nat_lit 302,cG "_law_called" 595 596 597 317 3 297 298 (.ref 299) (.ref 300) 301 605 606)::
 (nat_lit 303,fF (top 48) "_law_called" mO5 302)::
 (nat_lit 304,tO [])::
 (nat_lit 306,tO [(.str "_law_feed_here" 611),(.str "_law_found" 612),(.str "_law_one" 613),(.str "_law_other" 614),(.str "_law_some" 615),(.str "_law_value" 616),(.str "_law_first" 617),(.str "_law_second" 618),(.str "_law_pair_here" 619)])::
 (nat_lit 307,tO [])::
 (nat_lit 309,cG "_law_asked_again" 608 609 610 323 4 304 305 (.ref 306) (.ref 307) 308 620 621)::
 (nat_lit 310,fF (top 49) "_law_asked_again" mO5 309)::
 (nat_lit 311,tO [])::
 (nat_lit 314,cG "_law_apart" 623 624 625 334 1 311 312 .none .none 313 626 627)::
 (nat_lit 315,fF (top 50) "_law_apart" mO5 314)::
 (nat_lit 316,tO [])::
 (nat_lit 318,tO [(.str "_law_script" 632),(.str "_law_j" 633),(.str "_law_feed_here" 634),(.str "_law_one" 635),(.str "_law_other" 636),(.str "_law_first" 637),(.str "_law_second" 638),(.str "_law_found" 639),(.str "_law_again" 640)])::
 (nat_lit 319,tO [])::
 (nat_lit 321,cG "law" 629 630 631 343 1 316 317 (.ref 318) (.ref 319) 320 641 642)::
 (nat_lit 322,fF (top 51) "law" mO5 321)::[]
noncomputable def asF:Aah:=[2,3,15,18,19,20,22,23,25,26,27,29,30,32,33,34,37,38,39,41,42,44,45,46,48,49,51,52,60,62,63,65,66,67,69,70,72,73,74,76,77,79,80,81,84,85,86,89,90,91,92,93,94,95,98,100,101,103,104,105,108,109,110,112,113,115,116,117,119,120,122,123,124,126,127,129,130,131,133,134,136,137,138,140,141,143,144,145,147,148,150,151,152,155,156,157,159,160,162,163,164,166,167,169,170,171,174,175,176,178,179,181,182,183,186,187,188,191,192,193,196,197,198,201,202,203,206,207,208,210,211,213,214,215,218,219,220,222,223,225,226,227,230,231,232,235,236,237,240,241,242,245,246,247,250,251,252,254,255,257,258,259,262,263,264,266,267,269,270,271,273,274,276,277,278,280,281,283,284,285,287,288,290,291,292,295,296,297,299,300,302,303,304,306,307,309,310,311,314,315,316,318,319,321,322]
def HF:PySem.W.Hook:=PySem.W.kHook KF asF λ_=>by kernel_rfl
noncomputable def qf(p:Program):Program:={p with main:={p.main with body:=[1,2,3,4,5,07,08,09,10,11,12,14,15,17,18,19,21,22,24,25,26,27,28,29,30,31,32,33,34,35,36,37,38,39,40,41,42,43,44,45,46,47,48,49,50,51].filterMap λi=>p.main.body[i]?}}
abbrev XF(p:Program)(s:Shared):Bool:=PySem.W.xlAt (qf p) [] s&&PySem.W.recOk [] s
abbrev LF(p:Program):Prop:=PySem.W.LeftO p (qf p) [] (XF p) (PySem.W.Hook.obs HF) (PySem.W.Hook.val HF) 3538
abbrev pL:Program:=PySem.Challenge.pw_askviews_k31_within_or_parted
def okL:Hd.Ok pL 1707:={λw os=>by kernel_rfl,λw os=>by kernel_rfl,λw os=>by kernel_rfl,λw os=>by kernel_rfl}
def l1L(w:World)(os:OsState):(PySem.W.staticsOk (importedModules pL.main.body) (PySem.W.boot_heap w.params) (Hd.fin pL 1707 w os).heap&&PySem.W.namesBound pL (Hd.fin pL 1707 w os).heap&&PySem.W.gensDone (Hd.fin pL 1707 w os)&&PySem.W.laidKept (PySem.W.boot_heap w.params) (Hd.fin pL 1707 w os).heap)=true:=by kernel_rfl
def l2L(w:World)(os:OsState):PySem.W.Fast.tw4187177175401517315 (qf pL) [] (importedModules pL.main.body) (XF pL) true (Hd.fin pL 1707 w os)=PySem.W.openGood (qf pL) []:=by kernel_rfl
def l3L(w:World)(os:OsState):asF.map (Hd.fin pL 1707 w os).heap.get?=(KF w.params).map λp=>some p.2:=by kernel_rfl
def headL:LF pL:=Hd.left (n:=1707) okL (by kernel_rfl) (by kernel_rfl) (by kernel_rfl) (λs=>by kernel_rfl) l1L (λw os=>by rw[PySem.W.Fast.te4187177175401517315];exact l2L w os) l3L
def head:LF PySem.Challenge.pw_askviews_k31_within_or_parted:=headL
def acB{K:Frag}(hO:R9 H)(h:bf K H a xs):Kf K H a xs:=by
 rcases h with(h|h)|h
 ·rcases hO a with e|⟨o,ys,e⟩
  ·rw[e]at h;cases h
  ·rw[e]at h;cases h
 ·exact .inl h
 ·exact .inr h
def FN(K:Frag)(x:Str)(st:Stmt):Prop:=∃f fd,nsIn K mainGlobals x=some (some 700)/\dF K x x st f fd
def afj{K:Frag}{x:Str}{st:Stmt}{f:Addr}{oc:Value}{od an:Aai}{A4:Aad}{kV doc pm cY ct:Value}(a:nsIn K mainGlobals x=some (some 700))(l:K.lookup f=some {oc,od,.func (fnOf x x (defArgs st) (defBody st) (defScope st) .none kV doc pm an cY ct),A4})(c:codeIn K cY x=true)(k:keepIn K 700=true):FN K x st:={f,_,a,Vg l c k}
section
variable{K:Frag}{h base:Heap}{x q p p2 r s s5:Str}{st:Stmt}{mg:Aab}{f C:Addr}{fd:FuncData}{P:Program}{w:World}{k:Nat}{sp:Sp}{ps:Aaf}
def NJ(b:FN K x st)(hb:∀f fd,dF K x x st f fd->Binds K fd ps [])(X:K.In h)(G:h.Ns mainGlobals mg)(ok:∀f fd,dF K x x st f fd->cK P w K mg base d7 k f fd ps sp):cq P w K mg base k x ps sp:=
 have⟨f,fd,a,F⟩:=b
 {f,fd,ok f fd F,m8 X G a,F.kp,hb f fd F}
abbrev Bd1(x q:Str)(st:Stmt)(p:Str):Prop:=(λ(a kV doc pm cY ct:Value)(an:Aai)=>bindArgs 651 {[a],[]})=λa _ _ _ _ _ _=>pure [(p,a)]
def bd1(F:dF K x q st f fd)(h:Bd1 x q st p):Binds K fd [p] []:=F.binds λk1 k2 k3 k4 k5 k6 us hl=>by rcases us with _|⟨a,_|⟨e,us⟩⟩<;>first|exact cm (cm (cm (cm (cm (cm (cm h a) k1) k2) k3) k5) k6) k4|cases hl
def d1(P:Program)(w:World)(base:Heap)(X:K.In h)(G:h.Ns mainGlobals mg)(b:FN K x st)(ok:∀f fd,dF K x x st f fd->cK P w K mg base d7 k f fd [p] sp)(h:Bd1 x x st p:=by rfl):cq P w K mg base k x [p] sp:=NJ b (λ_ _ F=>bd1 F h) X G ok
abbrev Bd2(x q:Str)(st:Stmt)(p p2:Str):Prop:=(λ(a b kV doc pm cY ct:Value)(an:Aai)=>bindArgs 651 {[a,b],[]})=λa b _ _ _ _ _ _=>pure [(p,a),(p2,b)]
def bd2(F:dF K x q st f fd)(h:Bd2 x q st p p2):Binds K fd [p,p2] []:=F.binds λk1 k2 k3 k4 k5 k6 us hl=>by rcases us with _|⟨a,_|⟨b,_|⟨e,us⟩⟩⟩<;>first|exact cm (cm (cm (cm (cm (cm (cm (cm h a) b) k1) k2) k3) k5) k6) k4|cases hl
def d2(P:Program)(w:World)(base:Heap)(X:K.In h)(G:h.Ns mainGlobals mg)(b:FN K x st)(ok:∀f fd,dF K x x st f fd->cK P w K mg base d7 k f fd [p,p2] sp)(h:Bd2 x x st p p2:=by rfl):cq P w K mg base k x [p,p2] sp:=NJ b (λ_ _ F=>bd2 F h) X G ok
abbrev Bd3(x q:Str)(st:Stmt)(p p2 r:Str):Prop:=(λ(a b c kV doc pm cY ct:Value)(an:Aai)=>bindArgs 651 {[a,b,c],[]})=λa b c _ _ _ _ _ _=>pure [(p,a),(p2,b),(r,c)]
def VM(F:dF K x q st f fd)(h:Bd3 x q st p p2 r):Binds K fd [p,p2,r] []:=F.binds λk1 k2 k3 k4 k5 k6 us hl=>by rcases us with _|⟨a,_|⟨b,_|⟨c,_|⟨e,us⟩⟩⟩⟩<;>first|exact cm (cm (cm (cm (cm (cm (cm (cm (cm h a) b) c) k1) k2) k3) k5) k6) k4|cases hl
def d3(P:Program)(w:World)(base:Heap)(X:K.In h)(G:h.Ns mainGlobals mg)(b:FN K x st)(ok:∀f fd,dF K x x st f fd->cK P w K mg base d7 k f fd [p,p2,r] sp)(h:Bd3 x x st p p2 r:=by rfl):cq P w K mg base k x [p,p2,r] sp:=NJ b (λ_ _ F=>VM F h) X G ok
abbrev Bd4(x q:Str)(st:Stmt)(p p2 r s:Str):Prop:=(λ(a b c d kV doc pm cY ct:Value)(an:Aai)=>bindArgs 651 {[a,b,c,d],[]})=λa b c d _ _ _ _ _ _=>pure [(p,a),(p2,b),(r,c),(s,d)]
def bd4(F:dF K x q st f fd)(h:Bd4 x q st p p2 r s):Binds K fd [p,p2,r,s] []:=F.binds λk1 k2 k3 k4 k5 k6 us hl=>by rcases us with _|⟨a,_|⟨b,_|⟨c,_|⟨d,_|⟨e,us⟩⟩⟩⟩⟩<;>first|exact cm (cm (cm (cm (cm (cm (cm (cm (cm (cm h a) b) c) d) k1) k2) k3) k5) k6) k4|cases hl
def d4(P:Program)(w:World)(base:Heap)(X:K.In h)(G:h.Ns mainGlobals mg)(b:FN K x st)(ok:∀f fd,dF K x x st f fd->cK P w K mg base d7 k f fd [p,p2,r,s] sp)(h:Bd4 x x st p p2 r s:=by rfl):cq P w K mg base k x [p,p2,r,s] sp:=NJ b (λ_ _ F=>bd4 F h) X G ok
abbrev Bd5(x q:Str)(st:Stmt)(p p2 r s s5:Str):Prop:=(λ(a b c d g kV doc pm cY ct:Value)(an:Aai)=>bindArgs 651 {[a,b,c,d,g],[]})=λa b c d g _ _ _ _ _ _=>pure [(p,a),(p2,b),(r,c),(s,d),(s5,g)]
def bd5(F:dF K x q st f fd)(h:Bd5 x q st p p2 r s s5):Binds K fd [p,p2,r,s,s5] []:=F.binds λk1 k2 k3 k4 k5 k6 us hl=>by rcases us with _|⟨a,_|⟨b,_|⟨c,_|⟨d,_|⟨g,_|⟨e,us⟩⟩⟩⟩⟩⟩<;>first|exact cm (cm (cm (cm (cm (cm (cm (cm (cm (cm (cm h a) b) c) d) g) k1) k2) k3) k5) k6) k4|cases hl
def d5(P:Program)(w:World)(base:Heap)(X:K.In h)(G:h.Ns mainGlobals mg)(b:FN K x st)(ok:∀f fd,dF K x x st f fd->cK P w K mg base d7 k f fd [p,p2,r,s,s5] sp)(h:Bd5 x x st p p2 r s s5:=by rfl):cq P w K mg base k x [p,p2,r,s,s5] sp:=NJ b (λ_ _ F=>bd5 F h) X G ok
def MN(K:Frag)(C:Addr)(x q:Str)(st:Stmt):Prop:=∃f fd,findIn K (.ref C) x=some (some 700)/\isFn K 700=true/\dF K x q st f fd
def aeX{K:Frag}{x q:Str}{st:Stmt}{f C:Addr}{oc:Value}{od an:Aai}{A4:Aad}{kV doc pm cY ct:Value}(a:findIn K (.ref C) x=some (some 700))(i:isFn K 700=true)(l:K.lookup f=some {oc,od,.func 651,A4})(c:codeIn K cY q=true)(k:keepIn K 700=true):MN K C x q st:={f,_,a,i,Vg l c k}
def m2(P:Program)(w:World)(base:Heap)(mg:Aab)(b:MN K C x q st)(ok:∀f fd,dF K x q st f fd->cK P w K mg base d7 k f fd [p,p2] sp)(h:Bd2 x q st p p2:=by rfl):rS P w K mg base C k x [p,p2] sp:=
 have⟨f,fd,a,i,F⟩:=b
 {f,fd,ok f fd F,{a,i,F.kp},bd2 F h}
def m3(P:Program)(w:World)(base:Heap)(mg:Aab)(b:MN K C x q st)(ok:∀f fd,dF K x q st f fd->cK P w K mg base d7 k f fd [p,p2,r] sp)(h:Bd3 x q st p p2 r:=by rfl):rS P w K mg base C k x [p,p2,r] sp:=
 have⟨f,fd,a,i,F⟩:=b
 {f,fd,ok f fd F,{a,i,F.kp},VM F h}
end
def all_mk{l:PySem.W.OpenLaw}{w:World}{K:Frag}{h:Heap}{mg:Aab}{fa C0:Addr}{t0 t1:Tok}(X:K.In h)(G:h.Ns mainGlobals mg)(hfa:mg "law"=some (.ref fa))
  (Az:FN K "is_value" zW)
  (wu:FN K "is_unknown" vL)
  (wm:FN K "new_values" vH)
  (IB:FN K "image" HA)
  (yr:FN K "found_map" xZ)
  (FC:FN K "fitted" EU)
  (Ar:FN K "parts_of" zQ)
  (wx:FN K "is_touched" vM)
  (uE:FN K "unknowns_of" ux)
  (Aq:FN K "terms_of" zP)
  (CH:FN K "rows_of" BI)
  (yl:FN K "tables_of" xU)
  (rH:FN K "sorted_tables" qY)
  (Ft:FN K "within" EK)
  (Fu:FN K "parted" EL)
  (Fx:FN K "_law_feed" EO)
  (Fy:FN K "_law_draw" ER)
  (CI:FN K "_law_words" BJ)
  (FA:FN K "_law_atom" ET)
  (Fw:FN K "_law_head" EN)
  (wt:FN K "_law_question" vK)
  (IA:FN K "_law_led" Ht)
  (wq:FN K "_law_unknowns" vJ)
  (Au:FN K "_law_kept" zR)
  (CK:FN K "_law_grown" BL)
  (qq:FN K "_law_led_question" qh)
  (Fz:FN K "_law_bent" ES)
  (Fv:FN K "_law_pair" EM)
  (Aw:FN K "_law_is_map" zU)
  (yo:FN K "_law_is_word" xW)
  (Av:FN K "_law_is_row" zS)
  (sX:FN K "_law_are_tables" sG)
  (CL:FN K "_law_bound" BM)
  (Ax:FN K "_law_filled" vc)
  (yq:FN K "_law_answers" xY)
  (qp:FN K "_law_within_right" qg)
  (yp:FN K "_law_emptied" xX)
  (CJ:FN K "_law_terms" BK)
  (sW:FN K "_law_new_values" sF)
  (Ay:FN K "_law_called" zV)
  (rK:FN K "_law_asked_again" qZ)
  (CM:FN K "_law_apart" BN)
  (R3:FN K "law" QH)
  (cA0:nsIn K mainGlobals "MapSearch"=some (some (.ref C0)))
  (X5:plainGet K C0 Str.empty=true)
  (Yc:hasDictIn K C0=true)
  (X4:PySem.W.plainOver K C0=true)
  (X3:findIn K (.ref C0) "__setattr__"=some (some (.builtin "object.__setattr__")))
  (X9:PySem.W.makesIn K C0=true)
  (Yb:keepIn K (.ref C0)=true)
  (Ir:findIn K (.ref C0) "aims"=some none)
  (Iq:findIn K (.ref C0) "vain"=some none)
  (wo:MN K C0 "__init__" "MapSearch.__init__" vI)
  (Iz:MN K C0 "add" "MapSearch.add" Hr)
  (As:MN K C0 "mapped" "MapSearch.mapped" u9)
  (rJ:MN K C0 "mapped_part" "MapSearch.mapped_part" nv)
  (yn:MN K C0 "aims_of" "MapSearch.aims_of" xV)
  (z0:nsIn K mainGlobals "len"=some none)
  (z1:nsIn K mainGlobals "range"=some none)
  (z2:nsIn K mainGlobals "tuple"=some none)
  (z3:nsIn K mainGlobals "list"=some none)
  (z4:nsIn K mainGlobals "isinstance"=some none)
  (z5:nsIn K mainGlobals "all"=some none)
  (z6:nsIn K mainGlobals "any"=some none)
  (z7:nsIn K mainGlobals "min"=some none)
  (z8:nsIn K mainGlobals "str"=some none)
  (z9:nsIn K mainGlobals "bool"=some none)
  (z10:nsIn K mainGlobals "int"=some none)
  (z11:nsIn K mainGlobals "dict"=some none)
  (z12:nsIn K mainGlobals "sorted"=some none)
  (z13:nsIn K mainGlobals "set"=some none)
  (z14:nsIn K mainGlobals "enumerate"=some none)
  (z15:nsIn K mainGlobals "zip"=some none)
  (mc0:nsIn K mainGlobals "SIGNS"=some (some (.str "abcdefghijklmnopqrstuvwxyz0123456789" t0)))
  (mc1:nsIn K mainGlobals "MOST_SIGNS"=some (some (.int 08 t1)))
  :∃fd:FuncData,(∀(s:Shared)(v:Value),BindsTo s fd {[v],[]} [("_law_script",v)])/\∀base:Heap,K.In base->base.Ns mainGlobals mg->cK l.prog w K mg base d7 28 fa fd ["_law_script"] (Kz K):=by
 obtain⟨f,fd,a,F⟩:=R3;have e:=hfa.symm.trans (m8 X G a);cases e;have T:Txt K mg:={cJ X G z0,cJ X G z1,cJ X G z2,cJ X G z3,cJ X G z4,cJ X G z5,cJ X G z6,cJ X G z7,cJ X G z8,cJ X G z9,cJ X G z10,cJ X G z11,cJ X G z12,cJ X G z13,cJ X G z14,cJ X G z15,{_,m8 X G mc0},{_,m8 X G mc1}};refine{fd,?_,λbase _ _=>?_}
 ·obtain⟨_,_,_,_,_,_,_,_,_,rfl,_,_⟩:=F.ex
  exactλs v=>.of_eq rfl
 have GR:=d1 l.prog w base X G Az λ_ _ F=>Of F T;have l9:=d1 l.prog w base X G wu λ_ _ F=>Ko F T ⟨GR⟩;have Fo:=d3 l.prog w base X G FC λ_ _ F=>TB F T ⟨l9⟩;have CA:=d3 l.prog w base X G wx λ_ _ F=>Kp F T ⟨l9⟩;have RV:=d2 l.prog w base X G Ar λ_ _ F=>Oe F T {{⟨l9⟩,Fo},CA};have O:Own K C0:={⟨X5,Yc,X4,X3⟩,Ir,Iq};have Q8:=m2 l.prog w base mg Iz λ_ _ F=>ac3 F T O;have B6:=m3 l.prog w base mg yn λ_ _ F=>QY F T O ⟨l9⟩;obtain⟨fm,fdm,am,im,Fm⟩:=As;obtain⟨fp,fdp,ap,ip,Fp⟩:=rJ;have vY:=F0 Fm Fp {am,im,Fm.kp} {ap,ip,Fp.kp} (VM Fm 9) (VM Fp 9) T O {{{⟨l9⟩,Fo},CA},RV,B6} 08;obtain⟨fi,fdi,ai,ii,Fi⟩:=wo;have af3:N0 l.prog w K mg base C0 3 "MapSearch" ["self","atoms"] (QA l.prog w K C0):={_,_,⟨X9,ai,ii,Yb⟩,abf Fi T O ⟨Q8⟩,m8 X G cA0,bd2 Fi rfl};have Ow:=d2 l.prog w base X G yr λ_ _ F=>Mc F T O ⟨Fo,vY,af3⟩;have Ku:=d1 l.prog w base X G uE λ_ _ F=>HL F T {⟨GR⟩,l9};have RU:=d1 l.prog w base X G Aq λ_ _ F=>Od F T;have NI:=d2 l.prog w base X G wm λ_ _ F=>Kn F T;have abS:=d2 l.prog w base X G IB λ_ _ F=>WW F T;have JU:=d2 l.prog w base X G CH λ_ _ F=>QS F T;have GO:=d1 l.prog w base X G rH λ_ _ F=>E4 F T ⟨JU⟩;have Oq:=d1 l.prog w base X G yl λ_ _ F=>L9 F T {⟨JU⟩,GO};have XU:=d2 l.prog w base X G Fu λ_ _ F=>Tx F T ⟨Ku,RU,NI,abS,Oq⟩;have NH:=d2 l.prog w base X G Ft λ_ _ F=>Tw F T ⟨Ow,XU⟩;have XZ:=d2 l.prog w base X G Fx λ_ _ F=>abg F T;have mM:=d2 l.prog w base X G Fy λ_ _ F=>abh F T;have JV:=d2 l.prog w base X G CI λ_ _ F=>WR F T ⟨mM⟩;have NM:=d4 l.prog w base X G FA λ_ _ F=>W2 F T ⟨mM⟩;have XY:=d2 l.prog w base X G Fw λ_ _ F=>WX F T ⟨mM⟩;have NL:=d3 l.prog w base X G wt λ_ _ F=>Ma F T {⟨mM⟩,JV,NM,XY};have Qe:=d2 l.prog w base X G IA λ_ _ F=>ac0 F T;have Cz:=d1 l.prog w base X G wq λ_ _ F=>L8 F T;have XX:=d2 l.prog w base X G Au λ_ _ F=>abe F T;have Vz:=d2 l.prog w base X G Au λ_ _ F=>WU F T;have VA:=d5 l.prog w base X G CK λ_ _ F=>WY F T ⟨mM,NM⟩;have wg:=d2 l.prog w base X G qq λ_ _ F=>abd F T ⟨Qe⟩;have X0:=d4 l.prog w base X G Fz λ_ _ F=>W0 F T ⟨mM,XX⟩;have XW:=d2 l.prog w base X G Fv λ_ _ F=>abc F T ⟨mM,JV,NL,Cz,wg,VA,X0⟩;have RW:=d3 l.prog w base X G Aw λ_ _ F=>WV F T {⟨Qe⟩,Cz};have Ot:=d1 l.prog w base X G yo λ_ _ F=>QU F T;have GP:=d1 l.prog w base X G Av λ_ _ F=>Tz F T ⟨Ot⟩;have Ip:=d1 l.prog w base X G sX λ_ _ F=>Kq F T ⟨GP⟩;have JX:=d3 l.prog w base X G CL λ_ _ F=>WZ F T;obtain⟨ff,fdf,af,Ff⟩:=Ax;have RX:=GG Ff (m8 X G af) Ff.kp (VM Ff 9) T JX 09;have Ov:=d3 l.prog w base X G yq λ_ _ F=>QX F T ⟨JX,RX⟩;have we:=d3 l.prog w base X G qp λ_ _ F=>WS F T ⟨RW,Ip,GP,Ov⟩;have Ou:=d1 l.prog w base X G yp λ_ _ F=>QV F T;have JW:=d1 l.prog w base X G CJ λ_ _ F=>QT F T;have Io:=d2 l.prog w base X G sW λ_ _ F=>WT F T ⟨JW⟩;have RY:=d3 l.prog w base X G Ay λ_ _ F=>TF F T ⟨mM,JW,wg,Vz⟩;have GQ:=d4 l.prog w base X G rK λ_ _ F=>W3 F T ⟨mM,Io,RY,NH,we⟩;have VB:=d1 l.prog w base X G CM λ_ _ F=>W4 F T;exact ac1 F T ⟨XZ,XW,NH,we,GQ,VB,Ou⟩
def walk{l:PySem.W.OpenLaw}{K:Params->Frag}(hn:l.most=some 63)(UZ:d.params.defaults=[])
  (hY:∀(w:World)(h:Heap),YP w h->(K w.params).In h)
  (F:∀(w:World)(mg:Aab)(fa:Addr)(h:Heap),(K w.params).In h->h.Ns mainGlobals mg->mg d.name=some (.ref fa)->
   ∃fd:FuncData,(∀(s:Shared)(u:Value),BindsTo s fd {[u],[]} [("_law_script",u)])/\∀base:Heap,(K w.params).In base->base.Ns mainGlobals mg->cK l.prog w (K w.params) mg base d7 28 fa fd ["_law_script"] (Kz (K w.params))):
  PySem.W.WalkO q loose XP YP l.row.toRowW d [] (λf vs=>PySem.call f vs):=
 L2.aax (n:=63) (k:=28) (x:="_law_script") (CX:=λ_=>d7) (sp:=λw=>Kz (K w.params)) hn 7 UZ {9,7,7} hY F (λ_ H a ns hl hO hS=>{a,ns,9,acB hO hS,hl,λ_=>9}) λ_ _ _ _ _ z=>z
end K31
open PySem PySem.W PyProof.Rows
set_option maxHeartbeats 0 in
theorem PySem.Challenge.cw_askviews_k31_within_or_parted_holds : PySem.Challenge.rw_askviews_k31_within_or_parted.Holds := by
 w_on;refine holds_law (by rw[PySem.W.Fast.te9446332074065402090];kernel_rfl) λahz=>?_
 refine holds_open (q:=K31.qf PySem.Challenge.pw_askviews_k31_within_or_parted) (loose:=[]) (Xt:=K31.XF PySem.Challenge.pw_askviews_k31_within_or_parted) (XP:=XL (K31.qf PySem.Challenge.pw_askviews_k31_within_or_parted) []) (Yf:=Hook.obs K31.HF) (Ya:=Hook.val K31.HF) (YP:=Hook.says K31.HF) (N:=3538) K31.head (Hook.of K31.HF) (Hook.keeps K31.HF)
  (λs e=>xl_of s (rY.mp e).1) XL.keeps (by rfl) (by rfl) (by rfl) (λs e=>recFacts_of (rY.mp e).2) (by rfl) (by first|assumption|decide+kernel) 53 {9,9,9,9,9,53} ?hw ?hc
 case hw=>w_witness2
 case hc=>
 unfold K31.HF
 k_fill
 refine K31.walk (l:=PySem.Challenge.rw_askviews_k31_within_or_parted) rfl rfl (λw h Y=>PySem.W.kIn_of Y) ?F
 case F=>
  intro w mg fa h KX G UP
  refine' K31.all_mk KX G UP ?Az ?wu ?wm ?IB ?yr ?FC ?Ar ?wx ?uE ?Aq ?CH ?yl ?rH ?Ft ?Fu ?Fx ?Fy ?CI ?FA ?Fw ?wt ?IA ?wq ?Au ?CK ?qq ?Fz ?Fv ?Aw ?yo ?Av ?sX ?CL ?Ax ?yq ?qp ?yp ?CJ ?sW ?Ay ?rK ?CM ?R3 ?cA0 ?X5 ?Yc ?X4 ?X3 ?X9 ?Yb ?Ir ?Iq ?wo ?Iz ?As ?rJ ?yn ?z0 ?z1 ?z2 ?z3 ?z4 ?z5 ?z6 ?z7 ?z8 ?z9 ?z10 ?z11 ?z12 ?z13 ?z14 ?z15 ?mc0 ?mc1
  case Az|wu|wm|IB|yr|FC|Ar|wx|uE|Aq|CH|yl|rH|Ft|Fu|Fx|Fy|CI|FA|Fw|wt|IA|wq|Au|CK|qq|Fz|Fv|Aw|yo|Av|sX|CL|Ax|yq|qp|yp|CJ|sW|Ay|rK|CM|R3=>refine' K31.afj ?a ?l ?c ?k;case a|l|c|k=>k_is
  case cA0|X5|Yc|X4|X3|X9|Yb|Ir|Iq=>k_is
  case wo|Iz|As|rJ|yn=>refine' K31.aeX ?a ?i ?l ?c ?k;case a|i|l|c|k=>k_is
  case z0|z1|z2|z3|z4|z5|z6|z7|z8|z9|z10|z11|z12|z13|z14|z15|mc0|mc1=>k_is
