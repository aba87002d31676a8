import PyProof.Rows.All
import Wide.All
import OpenK.AllK
import Wide.FinOn
import Lean
import PyProof.EqAt
import PyProof.EqKinds
import PyProof.TupleCall
import PyProof.CompFree
import PyProof.WalkInts
import PyProof.StrBlockI
import PyProof.StrBlockL
import PyProof.MeetsSeq
import PyProof.Rows.StrJoinMade
import PyProof.ZipIter
import KE.KRevSl
import PyProof.Rows.StrSplitAre
import PyProof.StrBlockH
import PyProof.Rows.SortRuns
import KE.KSortTup
import KE.KDictSum
import PyProof.DictValues
import PyProof.ToksMono
import PyProof.StationsW
import PyProof.ExcClass2
import PyProof.Rows.Own
import KE.KTryMore
import PyProof.Rows.CatchBare
import PyProof.ExcAttrAll.ValueError
import PyProof.TableCode
import PySem.Challenge.RW_turnyard_k14_whole_numbers
set_option linter.all false
def Zq:=@PySem.wpAny_bind
def Zr:=@Nat.lt_of_lt_of_le
def Zt:=@List.getElem?_eq_getElem
def Zu:=@Bool.and_eq_true
def Zv:=@PySem.Heap.get?_push_of_some
def Zw:=@Nat.le_trans
def Zx:=@Nat.le_of_lt
def Zy:=@List.mem_cons_of_mem
def Zz:=@Bool.false_ne_true
def ZA:=@List.length_map
def ZC:=@PySem.wpAny_pure
def ZD:=@List.mem_cons_self
def ZE:=@List.mem_singleton
def ZF:=@Nat.le_of_eq
def ZG:=@Nat.le_refl
def ZH:=@Nat.lt_of_le_of_lt
def ZI:=@List.size_toArray
def ZJ:=@List.getElem?_map
def ZK:=@List.mem_cons
def ZL:=@List.getElem?_eq_some_iff
def ZM:=@if_pos
def ZN:=@PySem.Heap.get?_push_size
def ZO:=@PySem.Heap.lt_size
def ZP:=@Nat.add_le_add_left
def ZQ:=@List.length_append
def ZR:=@List.getD_eq_getElem?_getD
def ZS:=@Array.toList_append
def ZT:=@List.mem_map
def ZU:=@Nat.le_add_right
def ZV:=@List.mem_append_right
def ZW:=@if_neg
def ZX:=@Int.natCast_nonneg
def ZY:=@Option.some.inj
def ZZ:=@List.mem_append
def Z0:=@Nat.le_of_not_lt
def Z1:=@List.getElem?_set_ne
def Z2:=@List.getElem?_set_self
def Z3:=@List.length_cons
def Z4:=@List.map_cons
def Z5:=@Nat.ne_of_lt
def Z6:=@List.getElem?_eq_none
def Z7:=@List.mem_append_left
def Z8:=@Nat.add_right_comm
def Z9:=@Nat.add_sub_of_le
def Z_:=@Array.length_toList
def Z':=@PySem.wpAny_newObj_type
def aaa:=@Eq.symm
def aab:=@Nat.zero_le
def aac:=@List.mem_of_getElem?
def aad:=@Nat.lt_of_le_of_ne
def aae:=@List.pairwise_append
def aaf:=@List.nodup_cons
def aag:=@PyProof.Rows.slot_tuple_getitem
def aah:=@List.length_singleton
def aai:=@List.append_assoc
def aaj:=@Nat.lt_succ_of_le
def aak:=@Array.getElem?_eq_getElem
def aal:=@Nat.le_antisymm
def aam:=@List.map_append
def aan:=@Nat.le_of_lt_succ
def aao:=@Option.bind_some
def aap:=@PySem.Heap.get?_update_other
def aaq:=@List.getElem?_append_left
def aar:=@List.mem_range
def aas:=@Nat.add_lt_add_left
def aat:=@List.length_set
def aau:=@Nat.add_sub_cancel_left
def aav:=@PySem.wpAny_callSpecial?_slot
def aaw:=@List.map_map
def aax:=@PySem.mem_of_lookup
def aay:=@List.take_of_length_le
def aaz:=@List.getElem?_append_right
def aaA:=@PySem.wpAny_call_entry
def aaB:=@Array.getElem_mem
def aaC:=@Nat.lt_irrefl
def aaD:=@Array.getElem?_toList
def aaE:=@Nat.zero_add
def aaF:=@PySem.wpAny_field
def aaG:=@List.drop_eq_getElem_cons
def aaH:=@Ne.symm
def aaI:=@Nat.le_sub_one_of_lt
def aaJ:=@PySem.wpAny_mono
def aaK:=@List.append_nil
def aaL:=@Nat.sub_add_cancel
def aaM:=@Nat.lt_or_ge
def aaN:=@List.nodup_iff_pairwise_ne
def aaO:=@PySem.wpAny_holding
def aaP:=@Nat.eq_of_le_of_lt_succ
def aaQ:=@Nat.min_eq_left
def aaR:=@List.mem_reverse
def aaS:=@PySem.wpAny_truthy_bool
def aaT:=@Int.toNat_natCast
def aaU:=@Array.toList_reverse
def aaV:=@Nat.add_assoc
def aaW:=@PySem.Obj.data_mapFields
def aaX:=@Nat.sub_le
def aaY:=@PySem.Heap.get?_update_self
def aaZ:=@Nat.not_lt_zero
def aba:=@PySem.wpAny_setField
def abb:=@List.drop_sublist
def abc:=@Bool.and_eq_true_iff
def abd:=@List.pairwise_cons
def abe:=@Nat.pos_of_ne_zero
def abf:=@Classical.byContradiction
def abg:=@Int.emod_nonneg
def abh:=@Int.not_lt_of_ge
def abi:=@PySem.Heap.SameBut.update
def abj:=@List.take_sublist
def abk:=@Nat.le_succ_of_le
def abl:=@List.pairwise_map
def abm:=@List.nodup_append
def abn:=@PySem.F.slot_dict_keyiterator_next
def abo:=@PyProof.Rows.callWith_type1
def abp:=@Bool.false_eq_true
def abq:=@Nat.le_add_left
def abr:=@Int.emod_lt_of_pos
def abt:=@List.length_take
def abu:=@List.getElem_mem
def abv:=@List.mem_flatMap
def abw:=@Nat.sub_pos_of_lt
def abx:=@List.ext_getElem?
def aby:=@List.getElem?_range
def abz:=@PySem.Heap.size_push
def abA:=@List.pairwise_iff_getElem
def abB:=@PySem.Obj.isFreed_of_fields
def abC:=@PySem.wpAny_typeNameOfWhole_keyiter
def abD:=@Array.toList_extract
def abE:=@Array.mem_toList_iff
def abF:=@PySem.W.mg_of
def abG:=@Bool.not_eq_true'
def abH:=@Int.toNat_of_nonneg
def abI:=@List.filterMap_cons
def abJ:=@PySem.Calls.callWith_builtin
def abK:=@PySem.F.slot_tuple_iterator_next
def abL:=@Nat.lt_succ_self
def abM:=@Nat.succ_le_succ
def abN:=@Int.lt_of_not_ge
def abO:=@Nat.lt_of_not_le
def abP:=@List.all_eq_true
def abQ:=@Nat.ne_of_gt
def abR:=@List.length_replicate
def abS:=@Int.lt_of_le_of_lt
def abT:=@Nat.add_le_add_right
def abU:=@List.mem_of_mem_take
def abV:=@Nat.sub_le_sub_right
def abW:=@PySem.wpAny_passesOwn
def abX:=@Option.isSome_iff_exists
def abY:=@List.forIn_cons
def abZ:=@PySem.wpAny_loadPart'
def aca:=@List.find?_cons
def acb:=@PySem.wpAny_typeNameOf_keyiter
def acd:=@Array.toList_push
def ace:=@Nat.add_sub_assoc
def acf:=@List.set_eq_of_length_le
def acg:=@Int.ofNat_lt
def ach:=@Nat.add_zero
def aci:=@PySem.wpAny_attempt
def acj:=@Nat.sub_le_sub_left
def ack:=@List.getElem_of_mem
def acm:=@PySem.F.plainAttrs_list
def acn:=@Int.ofNat.inj
def aco:=@List.length_drop
def acq:=@Nat.lt_add_right
def acr:=@Nat.sub_lt
def acs:=@PySem.wpAny_rule
def acu:=@Option.map_eq_some_iff
def acv:=@PySem.wpAny_Call_Name_kw
def acw:=@PySem.wpAny_pyIter_tuple
def acx:=@Nat.le_of_sub_eq_zero
def acy:=@List.Perm.append_left
def acz:=@List.take_append_drop
def acA:=@List.pairwise_reverse
def acB:=@Nat.sub_ne_zero_of_lt
def acC:=@List.dropLast_eq_take
def acD:=@List.any_cons
def acE:=@List.all_cons
def acF:=@PySem.Calls.Name_function_global
def acG:=@Array.toList_setIfInBounds
def acH:=@PySem.Calls.evalArgs_plain
def acI:=@List.mem_of_mem_drop
def acJ:=@Nat.sub_one_lt_of_le
def acK:=@List.drop_zero
def acL:=@Nat.sub_lt_left_of_lt_add
def acM:=@List.lookup_cons
def acN:=@List.isEmpty_iff
def acO:=@List.map_congr_left
def acP:=@Nat.add_comm
def acQ:=@Int.le_of_lt
def acR:=@PySem.F.args_tuple_add_2
def acS:=@Int.le_trans
def acT:=@Nat.exists_eq_add_of_le
def acU:=@Nat.min_le_left
def acV:=@PySem.Paired.length
def acW:=@List.mem_filter
def acX:=@PySem.F.entry_tuple_add
def acY:=@Option.map_some
def acZ:=@List.pairwise_singleton
def ada:=@Bool.or_eq_true
def adb:=@List.length_zip
def ade:=@Int.eq_ofNat_of_zero_le
def adf:=@PySem.wpAny_pyNext_list_item
def adg:=@PySem.F.slot_tuple_add
def adh:=@List.length_pos_of_mem
def adi:=@Nat.lt_succ_of_lt
def adj:=@PySem.wpAny_pyIter_list
def adk:=@List.reverse_cons
def adl:=@Option.isSome_map
def adm:=@Nat.lt_trichotomy
def adn:=@Array.toList_eraseIdxIfInBounds
def ado:=@Int.ne_of_gt
def adp:=@Nat.lt_trans
def adq:=@PySem.F.slot_dict_get
def ads:=@PySem.F.args_dict_keyiterator_next_1
def adt:=@PySem.wpAny_isOneOf_keyiter
def adu:=@Nat.le_sub_of_add_le'
def adv:=@PySem.wpAny_eqBool_int
def adw:=@Nat.min_le_right
def adx:=@List.getElem?_replicate_of_lt
def ady:=@List.range'_succ
def adz:=@List.any_eq_true
def adA:=@Array.toList_map
def adB:=@PySem.F.entry_dict_keyiterator_next
def adC:=@PySem.F.args_object_init_2
def adD:=@List.range_eq_range'
def adE:=@PySem.F.args_tuple_iterator_next_1
def adF:=@PySem.wpAny_execs_nil
def adG:=@List.of_mem_zip
def adH:=@PySem.F.entry_tuple_iterator_next
def adI:=@Array.Perm.refl
def adJ:=@List.nil_append
def adK:=@Int.le_refl
def adL:=@Array.perm_iff_toList_perm
def adM:=@List.perm_ext_iff_of_nodup
def adN:=@PySem.Calls.spliced_cons
def adO:=@PySem.codeAny_mono
def adP:=@PySem.W.callWith_K
def adQ:=@PySem.wpAny_typeOf
def adR:=@List.lookup_append
def adS:=@Nat.min_self
def adT:=@List.drop_drop
def adU:=@PySem.wpAny_fieldsOf
def adV:=@Nat.sub_add_eq
def adW:=@List.mem_take_iff_getElem
def adX:=@List.mem_drop_iff_getElem
def adY:=@Nat.add_le_add
def adZ:=@PySem.Calls.call_function_entry
def aea:=@List.getElem?_zip_eq_some
def aeb:=@List.getLast?_eq_getElem?
def aec:=@PySem.wpAny_sequenceKey
def aed:=@PySem.wpAny_comprehension_free
def aee:=@PySem.Obj.cls_mapFields
def aef:=@PySem.wpAny_pyIter_enum
def aeg:=@PySem.F.slot_tuple_index
def aeh:=@List.reverse_perm
def aei:=@PySem.wpAny_dictEntries
def aej:=@Nat.not_lt
def aek:=@PySem.F.slot_dict_values
def ael:=@List.length_erase_of_mem
def aem:=@List.length_range
def aen:=@Sum.inl.inj
def aeo:=@PySem.wpAny_standAt
def aep:=@List.getElem?_replicate
def aeq:=@PySem.wpAny_handled
def aer:=@PySem.F.args_dict_get_3
def aes:=@PySem.F.plainAttrs_dict
def aet:=@Nat.lt_add_of_pos_right
def aeu:=@PySem.wpAny_execs_cons
def aev:=@List.map_snd_zip
def aew:=@PySem.wpAny_isInstance
def aex:=@Nat.max_eq_right
def aey:=@Nat.le_max_right
def aez:=@Nat.min_eq_right
def aeA:=@Int.le_of_not_gt
def aeB:=@List.drop_length
def aeC:=@Nat.not_le_of_lt
def aeD:=@Nat.le_mul_of_pos_left
def aeE:=@PySem.W.cellsFrom_some
def aeF:=@PySem.F.entry_dict_get
def aeG:=@Nat.lt_sub_iff_add_lt'
def aeH:=@List.drop_eq_nil_of_le
def aeI:=@List.reverse_singleton
def aeJ:=@Classical.epsilon_spec
def aeK:=@Option.map_eq_none_iff
def aeL:=@List.pairwise_lt_range
def aeM:=@List.filter_eq_nil_iff
def aeN:=@Nat.add_le_of_le_sub'
def aeO:=@List.lookup_cons_self
def aeP:=@PySem.wpAny_specialOf
def aeQ:=@Array.mem_iff_getElem
def aeR:=@PySem.codeAny_builtin
def aeS:=@Bool.eq_iff_iff
def aeT:=@List.getElem?_reverse
def aeU:=@List.length_nil
def aeV:=@List.perm_append_comm
def aeW:=@PySem.wpAny_dictEpoch
def aeX:=@Nat.add_lt_of_lt_sub'
def aeY:=@Int.natCast_add
def aeZ:=@List.eq_nil_or_concat
def afa:=@List.concat_eq_append
def afb:=@Eq.trans
def afc:=@Int.le_of_lt_add_one
def afd:=@Array.toArray_toList
def afe:=@Nat.sub_eq_of_eq_add
def aff:=@Nat.add_le_of_le_sub
def afg:=@Nat.le_sub_of_add_le
def afh:=@Nat.add_lt_add_right
def afi:=@Bool.or_eq_false_iff
def afj:=@List.getElem?_of_mem
def afk:=@PySem.wpAny_seqItems
def afl:=@List.nodup_nil
def afm:=@List.take_take
def afn:=@PySem.evalArgs_none
def afo:=@PySem.wpAny_of_eq
def afp:=@PySem.wpAny_throw
def afq:=@List.length_reverse
def afr:=@Nat.pred_lt
def afs:=@Bool.or_eq_true_iff
def aft:=@List.map_id
def afu:=@Prod.mk.inj
def afv:=@List.filter_sublist
def afw:=@List.mem_filterMap
def afx:=@Option.isSome_some
def afy:=@List.getElem?_take
def afz:=@List.getElem?_drop
def afA:=@Array.size_extract
def afB:=@PySem.W.mg_none_of
def afC:=@List.map_nil
def afD:=@Nat.succ.inj
def afE:=@Nat.mul_comm
def afF:=@Nat.two_pos
def afG:=@Nat.add_mul
def au(h:¬p->False):p:=abf h
section
variable {q:Prop}{α β γ δ ε ζ η θ ι κ:Sort _}
def cy(x:A/\B/\C)(k:A->B->C->q):q:=k x.1 x.2.1 x.2.2
def yL(x:A/\B/\C/\D)(k:A->B->C->D->q):q:=cy x.2 (k x.1)
def Lv(x:A/\B/\C/\D/\E)(k:A->B->C->D->E->q):q:=yL x.2 (k x.1)
def tK(x:A/\B/\C/\D/\E/\F)(k:A->B->C->D->E->F->q):q:=Lv x.2 (k x.1)
def Uy(x:A/\B/\C/\D/\E/\F/\G)(k:A->B->C->D->E->F->G->q):q:=tK x.2 (k x.1)
def Uz(x:A/\B/\C/\D/\E/\F/\G/\H)(k:A->B->C->D->E->F->G->H->q):q:=Uy x.2 (k x.1)
def V'(x:A/\B/\C/\D/\E/\F/\G/\H/\I)(k:A->B->C->D->E->F->G->H->I->q):q:=Uz x.2 (k x.1)
def Qx(x:A/\B/\C/\D/\E/\F/\G/\H/\I/\J)(k:A->B->C->D->E->F->G->H->I->J->q):q:=V' x.2 (k x.1)
variable {A B C D E F G H I J:α->Prop}
def aa(x:∃a,A a/\B a)(k:∀a,A a->B a->q):q:=x.elim λa x=>k a x.1 x.2
def bB(x:∃a,A a/\B a/\C a)(k:∀a,A a->B a->C a->q):q:=x.elim λa x=>cy x (k a)
def CM(x:∃a,A a/\B a/\C a/\D a)(k:∀a,A a->B a->C a->D a->q):q:=x.elim λa x=>yL x (k a)
def FW(x:∃a,A a/\B a/\C a/\D a/\E a)(k:∀a,A a->B a->C a->D a->E a->q):q:=x.elim λa x=>Lv x (k a)
def Wa(x:∃a,A a/\B a/\C a/\D a/\E a/\F a)(k:∀a,A a->B a->C a->D a->E a->F a->q):q:=x.elim λa x=>tK x (k a)
def Wb(x:∃a,A a/\B a/\C a/\D a/\E a/\F a/\G a)(k:∀a,A a->B a->C a->D a->E a->F a->G a->q):q:=x.elim λa x=>Uy x (k a)
def Wc(x:∃a,A a/\B a/\C a/\D a/\E a/\F a/\G a/\H a)(k:∀a,A a->B a->C a->D a->E a->F a->G a->H a->q):q:=x.elim λa x=>Uz x (k a)
def Qy(x:∃a,A a/\B a/\C a/\D a/\E a/\F a/\G a/\H a/\I a/\J a)(k:∀a,A a->B a->C a->D a->E a->F a->G a->H a->I a->J a->q):q:=x.elim λa x=>Qx x (k a)
variable {A B C D E F G H I J:α->β->Prop}
def Lw(x:∃a b,A a b)(k:∀a b,A a b->q):q:=x.elim λa x=>x.elim (k a)
def dU(x:∃a b,A a b/\B a b)(k:∀a b,A a b->B a b->q):q:=x.elim λa x=>aa x (k a)
def bu(x:∃a b,A a b/\B a b/\C a b)(k:∀a b,A a b->B a b->C a b->q):q:=x.elim λa x=>bB x (k a)
def iD(x:∃a b,A a b/\B a b/\C a b/\D a b)(k:∀a b,A a b->B a b->C a b->D a b->q):q:=x.elim λa x=>CM x (k a)
def iE(x:∃a b,A a b/\B a b/\C a b/\D a b/\E a b)(k:∀a b,A a b->B a b->C a b->D a b->E a b->q):q:=x.elim λa x=>FW x (k a)
def Qz(x:∃a b,A a b/\B a b/\C a b/\D a b/\E a b/\F a b)(k:∀a b,A a b->B a b->C a b->D a b->E a b->F a b->q):q:=x.elim λa x=>Wa x (k a)
def UA(x:∃a b,A a b/\B a b/\C a b/\D a b/\E a b/\F a b/\G a b)(k:∀a b,A a b->B a b->C a b->D a b->E a b->F a b->G a b->q):q:=x.elim λa x=>Wb x (k a)
def Wd(x:∃a b,A a b/\B a b/\C a b/\D a b/\E a b/\F a b/\G a b/\H a b)(k:∀a b,A a b->B a b->C a b->D a b->E a b->F a b->G a b->H a b->q):q:=x.elim λa x=>Wc x (k a)
def QA(x:∃a b,A a b/\B a b/\C a b/\D a b/\E a b/\F a b/\G a b/\H a b/\I a b/\J a b)(k:∀a b,A a b->B a b->C a b->D a b->E a b->F a b->G a b->H a b->I a b->J a b->q):q:=x.elim λa x=>Qy x (k a)
variable {A B C D E F G H I J:α->β->γ->Prop}
def QB(x:∃a b c,A a b c)(k:∀a b c,A a b c->q):q:=x.elim λa x=>Lw x (k a)
def kW(x:∃a b c,A a b c/\B a b c)(k:∀a b c,A a b c->B a b c->q):q:=x.elim λa x=>dU x (k a)
def b6(x:∃a b c,A a b c/\B a b c/\C a b c)(k:∀a b c,A a b c->B a b c->C a b c->q):q:=x.elim λa x=>bu x (k a)
def Lx(x:∃a b c,A a b c/\B a b c/\C a b c/\D a b c)(k:∀a b c,A a b c->B a b c->C a b c->D a b c->q):q:=x.elim λa x=>iD x (k a)
def tS(x:∃a b c,A a b c/\B a b c/\C a b c/\D a b c/\E a b c)(k:∀a b c,A a b c->B a b c->C a b c->D a b c->E a b c->q):q:=x.elim λa x=>iE x (k a)
def KY(x:∃a b c,A a b c/\B a b c/\C a b c/\D a b c/\E a b c/\F a b c)(k:∀a b c,A a b c->B a b c->C a b c->D a b c->E a b c->F a b c->q):q:=x.elim λa x=>Qz x (k a)
def We(x:∃a b c,A a b c/\B a b c/\C a b c/\D a b c/\E a b c/\F a b c/\G a b c)(k:∀a b c,A a b c->B a b c->C a b c->D a b c->E a b c->F a b c->G a b c->q):q:=x.elim λa x=>UA x (k a)
def Wf(x:∃a b c,A a b c/\B a b c/\C a b c/\D a b c/\E a b c/\F a b c/\G a b c/\H a b c)(k:∀a b c,A a b c->B a b c->C a b c->D a b c->E a b c->F a b c->G a b c->H a b c->q):q:=x.elim λa x=>Wd x (k a)
def QC(x:∃a b c,A a b c/\B a b c/\C a b c/\D a b c/\E a b c/\F a b c/\G a b c/\H a b c/\I a b c/\J a b c)(k:∀a b c,A a b c->B a b c->C a b c->D a b c->E a b c->F a b c->G a b c->H a b c->I a b c->J a b c->q):q:=x.elim λa x=>QA x (k a)
variable {A B C D E F G H I J:α->β->γ->δ->Prop}
def nr(x:∃a b c d,A a b c d/\B a b c d)(k:∀a b c d,A a b c d->B a b c d->q):q:=x.elim λa x=>kW x (k a)
def KZ(x:∃a b c d,A a b c d/\B a b c d/\C a b c d)(k:∀a b c d,A a b c d->B a b c d->C a b c d->q):q:=x.elim λa x=>b6 x (k a)
def Pc(x:∃a b c d,A a b c d/\B a b c d/\C a b c d/\D a b c d)(k:∀a b c d,A a b c d->B a b c d->C a b c d->D a b c d->q):q:=x.elim λa x=>Lx x (k a)
def tT(x:∃a b c d,A a b c d/\B a b c d/\C a b c d/\D a b c d/\E a b c d)(k:∀a b c d,A a b c d->B a b c d->C a b c d->D a b c d->E a b c d->q):q:=x.elim λa x=>tS x (k a)
def CN(x:∃a b c d,A a b c d/\B a b c d/\C a b c d/\D a b c d/\E a b c d/\F a b c d)(k:∀a b c d,A a b c d->B a b c d->C a b c d->D a b c d->E a b c d->F a b c d->q):q:=x.elim λa x=>KY x (k a)
def Wg(x:∃a b c d,A a b c d/\B a b c d/\C a b c d/\D a b c d/\E a b c d/\F a b c d/\G a b c d)(k:∀a b c d,A a b c d->B a b c d->C a b c d->D a b c d->E a b c d->F a b c d->G a b c d->q):q:=x.elim λa x=>We x (k a)
def Wh(x:∃a b c d,A a b c d/\B a b c d/\C a b c d/\D a b c d/\E a b c d/\F a b c d/\G a b c d/\H a b c d)(k:∀a b c d,A a b c d->B a b c d->C a b c d->D a b c d->E a b c d->F a b c d->G a b c d->H a b c d->q):q:=x.elim λa x=>Wf x (k a)
def QD(x:∃a b c d,A a b c d/\B a b c d/\C a b c d/\D a b c d/\E a b c d/\F a b c d/\G a b c d/\H a b c d/\I a b c d/\J a b c d)(k:∀a b c d,A a b c d->B a b c d->C a b c d->D a b c d->E a b c d->F a b c d->G a b c d->H a b c d->I a b c d->J a b c d->q):q:=x.elim λa x=>QC x (k a)
variable {A B C D E F G H I J:α->β->γ->δ->ε->Prop}
def K0(x:∃a b c d e,A a b c d e/\B a b c d e)(k:∀a b c d e,A a b c d e->B a b c d e->q):q:=x.elim λa x=>nr x (k a)
def Wi(x:∃a b c d e,A a b c d e/\B a b c d e/\C a b c d e)(k:∀a b c d e,A a b c d e->B a b c d e->C a b c d e->q):q:=x.elim λa x=>KZ x (k a)
def QE(x:∃a b c d e,A a b c d e/\B a b c d e/\C a b c d e/\D a b c d e)(k:∀a b c d e,A a b c d e->B a b c d e->C a b c d e->D a b c d e->q):q:=x.elim λa x=>Pc x (k a)
def Pd(x:∃a b c d e,A a b c d e/\B a b c d e/\C a b c d e/\D a b c d e/\E a b c d e)(k:∀a b c d e,A a b c d e->B a b c d e->C a b c d e->D a b c d e->E a b c d e->q):q:=x.elim λa x=>tT x (k a)
def UB(x:∃a b c d e,A a b c d e/\B a b c d e/\C a b c d e/\D a b c d e/\E a b c d e/\F a b c d e)(k:∀a b c d e,A a b c d e->B a b c d e->C a b c d e->D a b c d e->E a b c d e->F a b c d e->q):q:=x.elim λa x=>CN x (k a)
def Wj(x:∃a b c d e,A a b c d e/\B a b c d e/\C a b c d e/\D a b c d e/\E a b c d e/\F a b c d e/\G a b c d e)(k:∀a b c d e,A a b c d e->B a b c d e->C a b c d e->D a b c d e->E a b c d e->F a b c d e->G a b c d e->q):q:=x.elim λa x=>Wg x (k a)
def QF(x:∃a b c d e,A a b c d e/\B a b c d e/\C a b c d e/\D a b c d e/\E a b c d e/\F a b c d e/\G a b c d e/\H a b c d e/\I a b c d e/\J a b c d e)(k:∀a b c d e,A a b c d e->B a b c d e->C a b c d e->D a b c d e->E a b c d e->F a b c d e->G a b c d e->H a b c d e->I a b c d e->J a b c d e->q):q:=x.elim λa x=>QD x (k a)
variable {A B C D E F G H I J:α->β->γ->δ->ε->ζ->Prop}
def Wk(x:∃a b c d e f,A a b c d e f/\B a b c d e f/\C a b c d e f)(k:∀a b c d e f,A a b c d e f->B a b c d e f->C a b c d e f->q):q:=x.elim λa x=>Wi x (k a)
def Ly(x:∃a b c d e f,A a b c d e f/\B a b c d e f/\C a b c d e f/\D a b c d e f/\E a b c d e f)(k:∀a b c d e f,A a b c d e f->B a b c d e f->C a b c d e f->D a b c d e f->E a b c d e f->q):q:=x.elim λa x=>Pd x (k a)
def Wl(x:∃a b c d e f,A a b c d e f/\B a b c d e f/\C a b c d e f/\D a b c d e f/\E a b c d e f/\F a b c d e f/\G a b c d e f)(k:∀a b c d e f,A a b c d e f->B a b c d e f->C a b c d e f->D a b c d e f->E a b c d e f->F a b c d e f->G a b c d e f->q):q:=x.elim λa x=>Wj x (k a)
def Lz(x:∃a b c d e f,A a b c d e f/\B a b c d e f/\C a b c d e f/\D a b c d e f/\E a b c d e f/\F a b c d e f/\G a b c d e f/\H a b c d e f/\I a b c d e f/\J a b c d e f)(k:∀a b c d e f,A a b c d e f->B a b c d e f->C a b c d e f->D a b c d e f->E a b c d e f->F a b c d e f->G a b c d e f->H a b c d e f->I a b c d e f->J a b c d e f->q):q:=x.elim λa x=>QF x (k a)
variable {A B C D E F G H I J:α->β->γ->δ->ε->ζ->η->Prop}
def Wm(x:∃a b c d e f g,A a b c d e f g/\B a b c d e f g/\C a b c d e f g)(k:∀a b c d e f g,A a b c d e f g->B a b c d e f g->C a b c d e f g->q):q:=x.elim λa x=>Wk x (k a)
def UC(x:∃a b c d e f g,A a b c d e f g/\B a b c d e f g/\C a b c d e f g/\D a b c d e f g/\E a b c d e f g/\F a b c d e f g/\G a b c d e f g)(k:∀a b c d e f g,A a b c d e f g->B a b c d e f g->C a b c d e f g->D a b c d e f g->E a b c d e f g->F a b c d e f g->G a b c d e f g->q):q:=x.elim λa x=>Wl x (k a)
variable {A B C D E F G H I J:α->β->γ->δ->ε->ζ->η->θ->Prop}
def pF(x:∃a b c d e f g h,A a b c d e f g h/\B a b c d e f g h/\C a b c d e f g h)(k:∀a b c d e f g h,A a b c d e f g h->B a b c d e f g h->C a b c d e f g h->q):q:=x.elim λa x=>Wm x (k a)
variable {A B C D E F G H I J:α->β->γ->δ->ε->ζ->η->θ->ι->Prop}
def UD(x:∃a b c d e f g h i,A a b c d e f g h i/\B a b c d e f g h i/\C a b c d e f g h i)(k:∀a b c d e f g h i,A a b c d e f g h i->B a b c d e f g h i->C a b c d e f g h i->q):q:=x.elim λa x=>pF x (k a)
end
def pG{a b:Nat}(h:¬(a==b)=true):a≠b:=λe=>h (e▸beq_self_eq_true a)
def qN{a b c:Nat}(h:b<=c)(k:a<=b):a<=c:=Zw k h
def UE{a b c:Nat}(h:b<c)(k:a<=b):a<c:=ZH k h
def nu{a b c:Nat}(h:b=c)(k:a<=b):a<=c:=h▸k
def K1{a b c:Nat}(h:a=b)(k:b<=c):a<=c:=h▸k
def Pf{a b c:Nat}(h:a=b)(k:b<c):a<c:=h▸k
def QG(h:j-1<n):j<=n:=Nat.le_of_pred_lt h
def QH(h:i<n):n-1-i<n:=ZH (aaX _ _) (acr (Nat.zero_lt_of_lt h) Nat.one_pos)
def Hc{i:Int}{n:Nat}(h:0<=i)(k:i<n):i.toNat<n:=(Int.toNat_lt h).mpr k
def UG{a b:Int}(h:0<=a)(k:0<=b)(e:a.toNat=b.toNat):a=b:=(abH h).symm.trans ((congrArg Int.ofNat e).trans (abH k))
def UH(h:k<=a)(z:¬a-k>0):a=k:=aal (acx (Nat.eq_zero_of_not_pos z)) h
def LA(h:1<=n)(k:n<=z-lo):lo+n<=z:=aeN (Zx (Nat.lt_of_sub_pos (Zr h k))) k
def LB(e:l=n)(h:k<n+1):min k l+(l-k+1)=n+1:=by
 subst e
 rw[aaQ (aan h),<-aaV,Z9 (aan h)]
def LC{k n:Nat}(h:k<=n):(min (k:Int) n).toNat =k:=by
 rw[Int.min_eq_left (Int.ofNat_le.mpr h)]
 rfl
def QI(h:b<=c)(e:c+v=b+w)(k:c<=n):2*(n-c)+w<=2*(n-b)+v:=by
 obtain⟨d,rfl⟩:=acT h
 obtain⟨x,rfl⟩:=acT k
 have e:w=d+v:=Nat.add_left_cancel (e.symm.trans (aaV _ _ _))
 rw[e,aau,aaV b d x,aau,Nat.mul_add,<-aaV,acP _ d]
 exact abT (abT (aeD d afF) _) _
def LD{i n:Nat}(h:i<n):(n:Int)-1-i=((n-1-i:Nat):Int):=by
 rw[Nat.sub_sub,Int.ofNat_sub (Nat.one_add_le_iff.mpr h),Int.sub_sub]
 rfl
def QJ(h:1<=a):c+1+(a-1)=c+a:=by
 rw[aaV,Z9 h]
def QK{i o m:Nat}(h:¬i<o)(k:¬i-o<m):o+m+(i-o-m)=i:=by
 rw[aaV,Z9 (Z0 k),Z9 (Z0 h)]
def QL(h:m<min i n)(k:m ≥ i-1):m=i-1:=aal (aaI (Zr h (acU _ _))) k
def LF{k a z:Nat}(h:k<=z-a)(h0:k>0)(e:¬(a+k==z)=true):a+k<z:=aad (LA h0 h) (pG e)
def LH(h:1<n):n-2+1<n:=by
 obtain⟨m,rfl⟩:=acT h
 rw[acP 2 m]
 exact abL _
def QM(h:k<n):n=k+(n-k-1+1):=by
 rw[aaL (abw h),Z9 (Zx h)]
def pH{u c d z:Nat}(h:u+c<z)(k:d<=c):u+d<z:=ZH (ZP k u) h
def Hd(h:0<=x/\x<((n+1:Nat):Int))(e:x≠n):0<=x/\x<n:=⟨h.1,Int.lt_iff_le_and_ne.mpr ⟨afc h.2,e⟩⟩
def CO{i:Int}{n:Nat}(h:i<=n):i.toNat<=n:=Int.toNat_le.mpr h
def LI(h:i+1<=o):i+1+1<=2*o+1:=abM (Zw h (aeD o afF))
def QN{m n:Nat}(h:m<n):((n:Int)-1+(m:Int) * -1).toNat =n-1-m:=by
 rw[Int.mul_neg,Int.mul_one,<-Int.sub_eq_add_neg,LD h]
 rfl
def QO(h:1<=i)(x:K+i+j<=z)(e:k<=j):K+1+(i-1)+k<=z:=by
 rw[QJ h]
 exact Zw (ZP e _) x
def QP{i n:Nat}(h:i<n):((0<=if(i:Int)<0 then(i:Int)+n else i)/\(if(i:Int)<0 then(i:Int)+n else i)<n)/\(if(i:Int)<0 then(i:Int)+n else i).toNat =i:=by
 rw[ZW (Int.not_lt.mpr (ZX i))]
 exact⟨⟨ZX i,acg.mpr h⟩,rfl⟩
def QQ:o+(j+1)+m-(o+j)=m+1:=by
 show o+j+1+m-(o+j)=m+1
 rw[aaV (o+j),aau,acP]
set_option bootstrap.genMatcherCode false
set_option genSizeOf false
set_option compiler.extract_closed false
set_option Elab.async false
set_option maxRecDepth 100000
abbrev aC:=PySem.W.Frag
namespace L2
open PySem PySem.Spec PyProof.Rows
abbrev cq:=Sum Int Str
noncomputable def lG:cq->Value->Bool
 | .inl k,v=>Value.isInt k v
 | .inr x,v=>Value.isStrOf x v
noncomputable def QR(w:World):cq->Int
 | .inl k=>hashInt k
 | .inr x=>hashStr w x
def ba:∀{k:cq}{v:Value},lG k v=true->(∃i t,k=Sum.inl i/\v=Value.int i t)\/(∃x t,k=Sum.inr x/\v=Value.str x t)
 | .inl i,v,h=>by
  obtain⟨t,e⟩:=Value.isInt_shape (k:=i) (v:=v) h
  exact .inl ⟨i,t,rfl,e⟩
 | .inr x,v,h=>by
  obtain⟨t,e⟩:=Value.isStrOf_shape (x:=x) (v:=v) h
  exact .inr ⟨x,t,rfl,e⟩
def wY(i:Int)(t:Tok):lG (.inl i) (.int i t)=true:=by simp[lG,Value.isInt]
def wZ(x:Str)(t:Tok):lG (.inr x) (.str x t)=true:=by simp[lG,Value.isStrOf]
def He(a b:Int):decide ((Sum.inl a:cq)=Sum.inl b)=(a==b):=by
 by_cases e:a=b
 .subst e;simp
 .have h:¬(Sum.inl a:cq)=Sum.inl b:=λq=>e (aen q)
  rw[decide_eq_false h]
  exact(beq_eq_false_iff_ne.mpr e).symm
def Hf(a b:Str):decide ((Sum.inr a:cq)=Sum.inr b)=decide (a=b):=by
 by_cases e:a=b
 .subst e;simp
 .have h:¬(Sum.inr a:cq)=Sum.inr b:=λq=>e (Sum.inr.inj q)
  rw[decide_eq_false h,decide_eq_false e]
def Hg(a:Int)(b:Str):decide ((Sum.inl a:cq)=Sum.inr b)=false:=decide_eq_false (λq=>nomatch q)
def Hh(a:Str)(b:Int):decide ((Sum.inr a:cq)=Sum.inl b)=false:=decide_eq_false (λq=>nomatch q)
noncomputable def aS(prog:Program)(w:World):PySem.KeyKind prog w cq where
 is:=lG
 hash:=QR w
 inj:=λv a b ha hb=>by
  rcases ba ha with⟨i,t,rfl,rfl⟩|⟨x,t,rfl,rfl⟩
  .rcases ba hb with⟨j,u,rfl,e⟩|⟨y,u,rfl,e⟩
   .injection e with e1 _;rw[e1]
   .exact nomatch e
  .rcases ba hb with⟨j,u,rfl,e⟩|⟨y,u,rfl,e⟩
   .exact nomatch e
   .injection e with e1 _;rw[e1]
 byValue:=λk v h=>by
  rcases ba h with⟨i,t,rfl,rfl⟩|⟨x,t,rfl,rfl⟩<;>rfl
 pyHash:=λhv h=>by
  rcases ba hv with⟨i,t,rfl,rfl⟩|⟨x,t,rfl,rfl⟩
  .exact wpAny_pyHash_int h
  .exact wpAny_pyHash_str h
 eqBool:=λhu hv h=>by
  rcases ba hu with⟨i,t,rfl,rfl⟩|⟨x,t,rfl,rfl⟩
  .rcases ba hv with⟨j,u,rfl,rfl⟩|⟨y,u,rfl,rfl⟩
   .rw[He]at h;exact adv h
   .rw[Hg]at h;exact SeqAt.EqAt.int_str i t y u _ _ _ _ h
  .rcases ba hv with⟨j,u,rfl,rfl⟩|⟨y,u,rfl,rfl⟩
   .rw[Hh]at h;exact SeqAt.EqAt.str_int x t j u _ _ _ _ h
   .rw[Hf]at h;exact wpAny_eqBool_str h
 «strs»:=λk x t v h=>by
  rcases ba h with⟨i,u,rfl,e⟩|⟨y,u,rfl,e⟩
  .exact nomatch e
  .injection e with e1 _
   subst e1
   cases v<;>rfl
def qT(prog:Program)(w:World)(i:Int)(t:Tok):(aS prog w).is (.inl i) (.int i t)=true:=wY i t
def qU(prog:Program)(w:World)(x:Str)(t:Tok):(aS prog w).is (.inr x) (.str x t)=true:=wZ x t
inductive V where
 |bX|bl (b:Bool)|int (i:Int)|str (x:Str)|LJ (b:Array UInt8)|QS (b:UInt64)|ref (a:Addr)|ty (n:String)
 deriving DecidableEq
def RelV:V->Value->Prop
 | .bX,u=>u=Value.none
 | .bl b,u=>u=Value.bool b
 | .int i,u=>∃t,u=Value.int i t
 | .str x,u=>∃t,u=Value.str x t
 | .LJ b,u=>∃t,u=Value.bytes b t
 | .QS b,u=>∃t,u=Value.float b t
 | .ref a,u=>u=Value.ref a
 | .ty n,u=>u=Value.type n
abbrev aE:List V->List Value->Prop:=Paired RelV
theorem aE.length(r:aE xs us):xs.length=us.length:=acV r
theorem aE.get:∀{xs:List V}{us:List Value}{i:Nat}{x:V},aE xs us->xs[i]?=some x->∃u,us[i]?=some u/\RelV x u
 |_,_,_,_,.nil,e=>by simp at e
 |_,_,0,_,.cons r _,e=>by simp at e;subst e;exact⟨_,rfl,r⟩
 |_,_,i+1,x,.cons _ t,e=>by
  exact aa (aE.get (i:=i) (x:=x) t (by simpa using e)) λu h1 h2=>⟨u,by simpa using h1,h2⟩
theorem aE.set(r:RelV x u):∀{xs:List V}{us:List Value} (i:Nat),aE xs us->aE (xs.set i x) (us.set i u)
 |_,_,_,.nil => .nil
 |_,_,0,.cons _ t=> .cons r t
 |_,_,i+1,.cons q t=> .cons q (aE.set r i t)
def aE.append:∀{xs ys:List V}{us ws:List Value},aE xs us->aE ys ws->aE (xs++ys) (us++ws):=λ{xs ys us ws} h s=>by
 induction h with
 |nil=>exact s
 |cons r t ih=>exact .cons r ih
theorem aE.take:∀{xs:List V}{us:List Value} (n:Nat),aE xs us->aE (xs.take n) (us.take n)
 |_,_,0,_=> .nil
 |_,_,_+1,.nil => .nil
 |_,_,n+1,.cons r t=> .cons r (aE.take n t)
theorem aE.drop:∀{xs:List V}{us:List Value} (n:Nat),aE xs us->aE (xs.drop n) (us.drop n)
 |_,_,0,r=>r
 |_,_,_+1,.nil => .nil
 |_,_,n+1,.cons _ t=>aE.drop n t
def kD:Option V->Option Value->Prop
 |some v,some u=>RelV v u
 |none,none=>True
 |_,_=>False
def KV{κ:Type}:List (κ×V)->List (κ×Value)->Prop:=Paired λ(p:κ×V) (q:κ×Value)=>p.1=q.1/\RelV p.2 q.2
noncomputable def kV:cq->V
 | .inl i=> .int i
 | .inr x=> .str x
inductive HO where
  |lst (xs:List V)
  |tup (xs:List V)
  |dK (az:List (cq×V))|dT (az:List (List cq×V))
  |set (S:Int->Bool) (n:Nat)
  |ins (C dx:Addr) (fs:List (Str×V))
  |own (x:Addr)
  |xd (fs:List (Str×V))
  |met (f x:Addr)
  |fj (lo hi:Int)
  |c9 (o:Obj) (u:HO)
  |FX (ps:Array Value)
  |ext (φ:Heap->Prop)
abbrev Hp:=Addr->Option HO
noncomputable def upd(H:Hp)(a:Addr)(o:HO):Hp:=λb=>if b=a then some o else H b
def ai:upd H a o a=some o:=by unfold upd;rw[ZM rfl]
def aq(h:b≠a):upd H a o b=H b:=by unfold upd;rw[ZW h]
def fK{H:Hp}{a b:Addr}{o u:HO}(h:H a=some o)(h':H b=some u)(d:o≠u):a≠b:=by
 intro e;subst e;rw[h]at h';exact d (ZY h')
def bS{H:Hp}{a b:Addr}{o:HO}(h:H a=some o)(h':H b=none):a≠b:=by
 intro e;subst e;rw[h]at h';cases h'
def ig(h:Heap)(a:Addr)(items:Array Value):Prop:=∃o,h.get? a=some o/\o.cls= .type "tuple"/\(∃n,o.data= .seq items n)/\o.dict=none
def ig.tup{h:Heap}{a:Addr}{items:Array Value}(x:ig h a items):IsTup h a items:=let ⟨o,e,c,d,_⟩:=x;⟨o,e,c,d⟩
def ig.lt{h:Heap}{a:Addr}{items:Array Value}(x:ig h a items):a<h.objs.size:=let ⟨_,ho,_⟩:=x;ZO ho
def ig.new(h:Heap)(items:Array Value):ig (h.push {cls:= .type "tuple",data:= .seq items}) h.objs.size items:=⟨_,ZN _ rfl,rfl,⟨_,rfl⟩,rfl⟩
section
variable (P:Program)(w:World)
def aT(H:Hp)(h:Heap)(a:Addr):HO->Prop
 | .lst xs=>xs.length<=sizeLine/\∃(its:List Value) (n:Nat),aE xs its/\h.get? a=some {cls:= .type "list",data:= .seq its.toArray n}
 | .tup xs=>xs.length<=sizeLine/\∃its:List Value,aE xs its/\ig h a its.toArray
 | .dK az=>az.length<=sizeLine/\(a==sysModules)=false/\∃vs,KV az vs/\h.DictOf (aS P w) a vs
 | .dT az=>az.length<=sizeLine/\(a==sysModules)=false/\∃xs:List (List cq×Addr×Value),
   Paired (λ(p:List cq×V) (q:List cq×Addr×Value)=>p.1=q.1/\H q.2.1=some (.tup (p.1.map kV))/\RelV p.2 q.2.2) az xs/\
   ∃o es ep,h.get? a=some o/\o.ExactDict/\o.data= .dict es ep/\es.toList=xs.map (entryOfKey (tupleKind (aS P w)))/\(xs.map (·.1)).Nodup
 | .set S n=>h.SetOf (intKind P w) a S n
 | .ins C dx fs=>H dx=some (.own a)/\fs.length<=1000/\dx≠a/\h.get? a=some (PySem.W.instObj C dx)/\
   ∃mA,h.Ns1 dx mA/\(∀f,kD (fs.lookup f) (mA f))/\PySem.Within mA (fs.map (·.1))
 | .own _=>∃o,h.get? a=some o
 | .xd fs=>∃mA,h.Ns1 a mA/\∀f,kD (fs.lookup f) (mA f)
 | .fj lo hi=>∃t u v,h.get? a=some {cls:= .type "range",data:= .fields #[.int lo t,.int hi u,.int 1 v]}
 | .c9 o u=>h.get? a=some o/\aT H h a u
 | .FX ps=>h.get? a=some {cls:= .none,data:= .fields ps}
 | .met f x=>h.get? a=some (PySem.W.methodObj (.ref f) (.ref x))
 | .ext φ=>φ h/\(∃o,h.get? a=some o)/\∀h1 h2:Heap,φ h1->(∀o,h1.get? a=some o->h2.get? a=some o)->φ h2
def fN(H:Hp)(h:Heap):Prop:=∀a o,H a=some o->aT P w H h a o
end
section
variable {P:Program}{w:World}{H H':Hp}{h h':Heap}{a:Addr}{o:HO}
theorem aT.lt(x:aT P w H h a o):a<h.objs.size:=by
 cases o with
 |lst xs=>obtain⟨_,_,_,_,e⟩:=x;exact ZO e
 |tup xs=>obtain⟨_,_,_,p⟩:=x;exact p.lt
 |dK az=>obtain⟨_,_,_,_,o,_,_,e,_⟩:=x;exact ZO e
 |dT az=>obtain⟨_,_,_,_,o,_,_,e,_⟩:=x;exact ZO e
 |set S n=>obtain⟨o,_,_,_,e,_⟩:=x;exact ZO e
 |ins C dx fs=>obtain⟨_,_,_,e,_⟩:=x;exact ZO e
 |own y=>obtain⟨_,e⟩:=x;exact ZO e
 |xd fs=>obtain⟨_,⟨_,_,_,e,_⟩,_⟩:=x;exact ZO e
 |fj lo hi=>obtain⟨_,_,_,e⟩:=x;exact ZO e
 |c9 ob u=>obtain⟨e,_⟩:=x;exact ZO e
 |FX ps=>exact ZO (show h.get? a=some _ from x)
 |met f y=>exact ZO (show h.get? a=some _ from x)
 |ext φ=>obtain⟨_,⟨_,e⟩,_⟩:=x;exact ZO e
def Paired.LK:∀{Hj:List α}{Hk:List β},Paired F Hj Hk->(∀a b,F a b->G a b)->Paired G Hj Hk:=λ{Hj Hk} h f=>by
 induction h with
 |nil=>exact .nil
 |cons r t ih=>exact .cons (f _ _ r) ih
def aT.kE(x:aT P w H h a o)(k:∀b u,(b=a\/H b=some (.own a))->h.get? b=some u->h'.get? b=some u)
  (ho:∀b,H b=some (.own a)->H' b=some (.own a)) (ht:∀b xs,H b=some (.tup xs)->H' b=some (.tup xs)):aT P w H' h' a o:=by
 induction o with
 |lst xs=>obtain⟨z,its,n,r,e⟩:=x;exact⟨z,its,n,r,k _ _ (.inl rfl) e⟩
 |tup xs=>obtain⟨z,its,r,ob,e,c⟩:=x;exact⟨z,its,r,ob,k _ _ (.inl rfl) e,c⟩
 |dK az=>obtain⟨z,y,vs,r,ob,es,ep,e,c⟩:=x;exact⟨z,y,vs,r,ob,es,ep,k _ _ (.inl rfl) e,c⟩
 |dT az=>
  obtain⟨z,y,xs,r,ob,es,ep,e,c⟩:=x
  exact⟨z,y,xs,Paired.LK r λp q z=>⟨z.1,ht _ _ z.2.1,z.2.2⟩,ob,es,ep,k _ _ (.inl rfl) e,c⟩
 |set S n=>obtain⟨ob,es,ep,t,e,c⟩:=x;exact⟨ob,es,ep,t,k _ _ (.inl rfl) e,c⟩
 |ins C dx fs=>
  obtain⟨d,z,ne,e,mA,⟨od,es,ep,e2,c⟩,r⟩:=x
  exact⟨ho _ d,z,ne,k _ _ (.inl rfl) e,mA,⟨od,es,ep,k _ _ (.inr d) e2,c⟩,r⟩
 |own y=>obtain⟨ob,e⟩:=x;exact⟨ob,k _ _ (.inl rfl) e⟩
 |xd fs=>obtain⟨mA,⟨od,es,ep,e,c⟩,r⟩:=x;exact⟨mA,⟨od,es,ep,k _ _ (.inl rfl) e,c⟩,r⟩
 |fj lo hi=>obtain⟨t,u,v,e⟩:=x;exact⟨t,u,v,k _ _ (.inl rfl) e⟩
 |c9 ob u ih=>obtain⟨e,q⟩:=x;exact⟨k _ _ (.inl rfl) e,ih q⟩
 |FX ps=>
  have e:h.get? a=some {cls:= .none,data:= .fields ps}:=x
  show h'.get? a=some {cls:= .none,data:= .fields ps}
  exact k a _ (.inl rfl) e
 |met f y=>
  have e:h.get? a=some (PySem.W.methodObj (.ref f) (.ref y)):=x
  show h'.get? a=some (PySem.W.methodObj (.ref f) (.ref y))
  exact k a _ (.inl rfl) e
 |ext φ=>obtain⟨p,⟨o,e⟩,st⟩:=x;exact⟨st _ _ p λo q=>k _ _ (.inl rfl) q,⟨o,k _ _ (.inl rfl) e⟩,st⟩
theorem fN.lt(x:fN P w H h)(e:H a=some o):a<h.objs.size:=(x a o e).lt
def fN.fresh(x:fN P w H h)(e:h.objs.size<=a):H a=none:=by
 cases q:H a with
 |none=>rfl
 |some u=>exact absurd (Zr (x.lt q) e) (aaC _)
def fN.kept(x:fN P w H h)(k:∀b u,h.get? b=some u->h'.get? b=some u):fN P w H h':=λa o e=>
 (x a o e).kE (λb u _ q=>k b u q) (λ_ q=>q) λ_ _ q=>q
def fN.laid(x:fN P w H h)(k:∀b u,h.get? b=some u->h'.get? b=some u)(hp:h.objs.size<=a)(new:aT P w (upd H a o) h' a o):fN P w (upd H a o) h':=λb u e=>by
 have hn:=x.fresh hp
 by_cases hb:b=a
 .subst hb;rw[ai]at e;cases e;exact new
 .rw[aq hb]at e
  exact(x b u e).kE (λc v _ q=>k c v q) (λc q=>by rw[aq (bS q hn)];exact q) λc xs q=>by rw[aq (bS q hn)];exact q
end
def Rd(H:Hp)(a:Addr)(u:HO):Prop:=H a=some u\/∃o,H a=some (.c9 o u)
def Rd.ok(r:Rd H a u)(x:fN P w H h):aT P w H h a u:=by
 rcases r with r|⟨o,r⟩
 .exact x a u r
 .obtain⟨_,q⟩:=x a _ r
  exact q
def yY:Option HO->Prop
 |some (.lst _)=>True
 |some (.dK _)=>True
 |some (.dT _)=>True
 |some (.set _ _)=>True
 |some (.ins _ _ _)=>True
 |some (.ext _)=>True
 |_=>False
section
variable {P:Program}{w:World}{H:Hp}{h h':Heap}{x e:Addr}{o':HO}
def fN.write(ok:fN P w H h)(mu:yY (H x))(he:e=x\/H e=some (.own x))(k:∀b u,b≠e->h.get? b=some u->h'.get? b=some u)(FY:∃u,h'.get? e=some u)
  (new:aT P w (upd H x o') h' x o'):fN P w (upd H x o') h':=λb u q=>by
 have LL:∀c y,H c=some (.own y)->c≠x:=λc y r z=>by subst z;rw[r]at mu;exact mu
 have QT:∀c xs,H c=some (.tup xs)->c≠x:=λc xs r z=>by subst z;rw[r]at mu;exact mu
 by_cases hb:b=x
 .subst hb;rw[ai]at q;cases q;exact new
 .rw[aq hb]at q
  by_cases yM:b=e
  .have q':H b=some (.own x):=by
    rcases he with z|z
    .exact absurd (yM.trans z) hb
    .rw[yM];exact z
   rw[q]at q';cases q'
   obtain⟨v,hv⟩:=FY
   exact⟨v,by rw[yM];exact hv⟩
  .refine(ok b u q).kE (λc v hc r=>k c v ?_ r) (λc r=>by rw[aq (LL c b r)];exact r) λc xs r=>by rw[aq (QT c xs r)];exact r
   rcases hc with rfl|hc
   .exact yM
   .rintro rfl
    rcases he with z|z
    .exact LL c b hc z
    .rw[hc]at z;cases z;exact hb rfl
end
structure Un(fs ex:List Addr)(H H':Hp)(h h':Heap):Prop where
 keep:∀b o,h.get? b=some o->H b=none->b∉fs->b∉ex->h'.get? b=some o
 slot:∀b o,h.get? b=some o->H b=none->b∈fs->b∉ex->∃sl,h'.get? b=some {o with slots:=sl}
 free:∀b o,h.get? b=some o->H b=none->b∉ex->H' b=none
 there:∀b o,h.get? b=some o->b∉ex->∃o',h'.get? b=some o'
 kF:∀b xs,H b=some (.tup xs)->H' b=some (.tup xs)
 fO:∀b o u,H b=some (.c9 o u)->H' b=some (.c9 o u)
 kG:∀b ps,H b=some (.FX ps)->∃more,H' b=some (.FX (ps++more))
section
variable {fs Wn ex Y9:List Addr}{H H1 H2:Hp}{h h1 h2 h':Heap}{a x e:Addr}{o:HO}
def Un.any(u:Un fs ex H H1 h h1)(q:h.get? b=some ob)(n:H b=none)(hx:b∉ex):∃sl,h1.get? b=some {ob with slots:=sl}:=by
 by_cases hb:b∈fs
 .exact u.slot b ob q n hb hx
 .exact⟨ob.slots,u.keep b ob q n hb hx⟩
def Un.kept(k:∀b u,h.get? b=some u->h'.get? b=some u):Un fs ex H H h h':=
 ⟨λb ob q _ _ _=>k b ob q,λb ob q _ _ _=>⟨ob.slots,k b ob q⟩,λ_ _ _ n _=>n,λb ob q _=>⟨ob,k b ob q⟩,λ_ _ q=>q,λ_ _ _ q=>q,λ_ ps q=>⟨#[],by rw[q];simp⟩⟩
def Un.refl:Un fs ex H H h h:=Un.kept λ_ _ q=>q
def Un.laid(k:∀b u,h.get? b=some u->h'.get? b=some u)(hp:h.objs.size<=a)(hn:H a=none):Un fs ex H (upd H a o) h h' where
 keep:=λb u q _ _ _=>k b u q
 slot:=λb u q _ _ _=>⟨u.slots,k b u q⟩
 free:=λb u q n _=>by rw[aq (Z5 (Zr (ZO q) hp))];exact n
 there:=λb u q _=>⟨u,k b u q⟩
 kF:=λb xs q=>by rw[aq (bS q hn)];exact q
 fO:=λb u xs q=>by rw[aq (bS q hn)];exact q
 kG:=λb ps q=>⟨#[],by rw[aq (bS q hn),q];simp⟩
def Un.write(mu:yY (H x))(he:e=x\/H e=some (.own x))(k:∀b u,b≠e->h.get? b=some u->h'.get? b=some u)(FY:∃u,h'.get? e=some u):Un fs ex H (upd H x o) h h':=by
 have hx:∀b,H b=none->b≠x:=λb n z=>by subst z;rw[n]at mu;exact mu
 have hb:∀b,H b=none->b≠e:=λb n z=>by
  subst z
  rcases he with r|r
  .exact hx b n r
  .rw[n]at r;cases r
 have hm:∀b u,H b=some u->¬yY (some u)->b≠x:=λb u q nm z=>by subst z;rw[q]at mu;exact nm mu
 refine⟨λb u q n _ _=>k b u (hb b n) q,λb u q n _ _=>⟨u.slots,k b u (hb b n) q⟩,λb u q n _=>by rw[aq (hx b n)];exact n,λb u q _=>?_,
  λb xs q=>by rw[aq (hm b _ q λz=>z)];exact q,λb u xs q=>by rw[aq (hm b _ q λz=>z)];exact q,λb ps q=>⟨#[],by rw[aq (hm b _ q λz=>z),q];simp⟩⟩
 by_cases yM:b=e
 .subst yM;exact FY
 .exact⟨u,k b u yM q⟩
end
noncomputable def FZ(h:Heap)(H:Hp):List Addr:=(List.range h.objs.size).filter λa=>(H a).isSome
noncomputable def pI(h:Heap)(H:Hp):Heap:=PySem.W.hideAll h (FZ h H)
def w6(h:Heap)(H:Hp):(pI h H).objs.size =h.objs.size:=PySem.W.hideAll_size _ _
def yZ(e:h.get? b=some o)(n:H b=none):(pI h H).get? b=some o:=
 PySem.W.hideAll_get _ e λhm=>by
  have q:(H b).isSome =true:=(acW.mp hm).2
  rw[n]at q;simp at q
def CP(e:(pI h H).get? b=some o):h.get? b=some o/\H b=none:=by
 have e':h.get? b=some o:=PySem.W.of_hideAll (FZ h H) e
 refine⟨e',?_⟩
 cases q:H b with
 |none=>rfl
 |some x=>
  have hm:b∈FZ h H:=acW.mpr ⟨aar.mpr (ZO e'),by simp[q]⟩
  have z:(pI h H).get? b=none:=PySem.W.hideAll_none (FZ h H) hm
  rw[z]at e;cases e
structure Mod(K:aC)(mg:Str->Option Value)(base:Heap):Prop where
 LN:K.In base
 glob:base.Ns mainGlobals mg
 blt:∃mb,base.Ns builtinsNs mb/\∀x:Str,x≠"__name__"->mb x=bootBuiltins x
 nolimit:base.NoLimit
structure Cx where
 prog:Program
 w:World
 K:aC
 mg:Str->Option Value
 base:Heap
 A:Around
 N:List Str
 s₀:Shared
 H₀:Hp
 env:Env
 outer:List Env
 stack:List Env
 ex:List Addr
 fn:Str->Bool
 calm:Bool
 pn:List (Addr×Obj)
 xe:Value->Shared->Prop
noncomputable def gW(l:List Env):List Addr:=l.filterMap (·.frame)
noncomputable abbrev Cx.fs(X:Cx):List Addr:=gW X.outer
def uU(sc:Scope)(x:Str):Prop:=sc.names.lookup x=some .local \/sc.names.lookup x=some .cell \/sc.names.lookup x=some .free
def Loc(sc:Scope)(x:Str):Prop:=sc.names.lookup x=some .local \/sc.names.lookup x=some .cell
def Look(env:Env)(h:Heap)(m:Str->Option Value)(x:Str)(u:Value):Prop:=
 (env.kindOf x=some .local /\m x=some u)\/((env.kindOf x=some .cell \/env.kindOf x=some .free)/\∃c,env.cells.lookup x=some c/\h.IsCell c (some u))
structure Cx.Ok(X:Cx):Prop where
 mod:Mod X.K X.mg X.base
 kind:X.env.scope.kind= .function
 glob:X.env.globals=mainGlobals
 blt:X.env.builtins=builtinsNs
 above:X.s₀.heap.objs.size<=X.env.locals
 inj:∀x y c,X.env.cells.lookup x=some c->X.env.cells.lookup y=some c->x=y
 has:∀x,(X.env.kindOf x=some .cell \/X.env.kindOf x=some .free)->∃c,X.env.cells.lookup x=some c
 K2:∀x c,X.fn x=true->X.env.cells.lookup x=some c->X.s₀.heap.objs.size<=c
 hd:X.calm=true->X.A.handled=none
 frames:X.A.frames=some X.stack
 LO:X.stack=X.outer\/(X.stack=X.env::X.outer/\X.env.frame=some X.env.locals)
 QU:∀b∈X.ex,b≠X.env.locals/\∀x c,X.env.cells.lookup x=some c->c≠b
 bs:∀b o,X.base.get? b=some o->X.s₀.heap.get? b=some o/\X.H₀ b=none
 CQ:X.base.objs.size<=X.s₀.heap.objs.size
 w8:∀b o,X.base.get? b=some o->b∉X.ex
 y0:∀b∈X.ex,b∉X.fs
 jD:X.s₀.heap.FunFrames X.base X.outer
 Hl:∀b∈X.fs,X.H₀ b=none
structure Inv(X:Cx)(U:List (Addr×Obj))(σ:List (Option V))(H:Hp)(s:Shared):Prop where
 ok:X.Ok
 os:s.os=X.s₀.os
 bare:AllBare s.gens
 base:Un X.fs X.ex X.H₀ H X.s₀.heap s.heap
 loc:∃m,s.heap.Ns X.env.locals m/\∀(i:Nat) (x:Str) (v:V),X.N[i]?=some x->σ[i]?=some (some v)->uU X.env.scope x->∃u,RelV v u/\Look X.env s.heap m x u
 cell:∀x c,X.env.cells.lookup x=some c->∃v,s.heap.IsCell c v
 free:H X.env.locals=none
 dG:∀x c,X.env.cells.lookup x=some c->H c=none
 pin:∀p∈X.pn++U,s.heap.get? p.1=some p.2/\H p.1=none/\p.1≠X.env.locals/\p.1∉X.fs/\∀v,p.2.data≠ .cell v
 aI:fN X.prog X.w H s.heap
 len:σ.length=X.N.length
section
variable {X:Cx}{U:List (Addr×Obj)}{σ:List (Option V)}{H H':Hp}{s:Shared}{h':Heap}
def Cx.Ok.QV(ok:X.Ok)(e:X.base.get? b=some o):b∉X.fs:=λhb=>by
 have:=(ok.jD.mem hb).1
 rw[e]at this;cases this
theorem Inv.bs(I:Inv X U σ H s):∀b o,X.base.get? b=some o->s.heap.get? b=some o/\H b=none:=λb o e=>
 ⟨I.base.keep b o (I.ok.bs b o e).1 (I.ok.bs b o e).2 (I.ok.QV e) (I.ok.w8 b o e),I.base.free b o (I.ok.bs b o e).1 (I.ok.bs b o e).2 (I.ok.w8 b o e)⟩
def Inv.bk(I:Inv X U σ H s):∀b o,X.base.get? b=some o->s.heap.get? b=some o:=λb o e=>(I.bs b o e).1
theorem Inv.mod(I:Inv X U σ H s):Mod X.K X.mg X.base:=I.ok.mod
def Inv.yN(I:Inv X U σ H s):X.K.In s.heap:=I.ok.mod.LN.keeps I.bk
theorem Inv.lt(I:Inv X U σ H s):X.env.locals<s.heap.objs.size:=let ⟨_,hn,_⟩:=I.loc;hn.lt
def Inv.sz(I:Inv X U σ H s):X.s₀.heap.objs.size<=s.heap.objs.size:=Zw I.ok.above (Zx I.lt)
def Inv.QW(I:Inv X U σ H s)(h:s.heap.objs.size<=a):a∉X.fs:=λhb=>by
 obtain⟨_,o,ho,_⟩:=I.ok.jD.mem hb
 exact absurd (Zr (ZO ho) (Zw I.sz h)) (aaC _)
def Inv.y_(I:Inv X U σ H s):∀x c,X.env.cells.lookup x=some c->c≠X.env.locals:=λx c e z=>by
 refine dU (I.cell x c e) λv o ho hd=>?_
 obtain⟨m,⟨o',es,ep,lH,iF,_⟩,_⟩:=I.loc
 rw[z,lH]at ho;cases ho;rw[iF]at hd;cases hd
theorem Inv.jD(I:Inv X U σ H s):s.heap.FunFrames X.base X.outer:=by
 have all:∀(l:List Env),(∀b∈gW l,b∈X.fs)->X.s₀.heap.FunFrames X.base l->s.heap.FunFrames X.base l:=by
  intro l
  induction l with
  |nil=>intro _ _;trivial
  |cons env r ih=>
   intro hs hl
   refine au λnO=>?_
   obtain⟨hk,⟨L,o,hf,hn,ho,hd⟩,hr⟩:=hl
   have hL:L∈X.fs:=hs L (by unfold gW;rw[abI,hf];exact ZD)
   obtain⟨sl,e⟩:=I.base.slot L o ho (I.ok.Hl L hL) hL λz=>I.ok.y0 L z hL
   exact nO<|⟨hk,⟨L,_,hf,hn,e,hd⟩,ih (λb hb=>hs b (by unfold gW;rw[abI,hf];exact Zy _ hb)) hr⟩
 exact all X.outer (λ_ hb=>hb) I.ok.jD
theorem Inv.stack(I:Inv X U σ H s):s.heap.FunFrames X.base X.stack:=by
 rcases I.ok.LO with e|⟨e,hf⟩
 .rw[e];exact I.jD
 .rw[e]
  refine aa I.loc λm hn _=> .cons (by rw[I.ok.kind];decide) hf hn ?_ I.jD
  exact Heap.get?_none_of_le (Zw I.ok.CQ I.ok.above)
def Inv.lI(I:Inv X U σ H s):∀b∈gW X.stack,b∈X.env.locals::X.fs:=λb hb=>by
 rcases I.ok.LO with e|⟨e,hf⟩
 .rw[e]at hb;exact Zy _ hb
 .rw[e]at hb
  unfold gW at hb
  rw[abI,hf]at hb
  exact hb
def Inv.kX(I:Inv X U σ H s):∀b∈gW X.stack,H b=none:=λb hb=>by
 rcases ZK.mp (I.lI b hb)with e|hb
 .rw[e];exact I.free
 .obtain⟨_,o,ho,_⟩:=I.ok.jD.mem hb
  exact I.base.free b o ho (I.ok.Hl b hb) λz=>I.ok.y0 b z hb
def Inv.step{g':Array GenState}{t':Nat}{d':Drawn}{ch:List Addr}(I:Inv X U σ H s)
  (Cv:∀b∈ch,(b∈X.ex\/X.s₀.heap.objs.size<=b)/\b≠X.env.locals/\(∀x c,X.env.cells.lookup x=some c->c≠b)/\∀p∈X.pn++U,p.1≠b)
  (keep:∀b o,b≠X.env.locals->b∉X.fs->b∉ch->s.heap.get? b=some o->H b=none->h'.get? b=some o)
  (slot:∀b o,b≠X.env.locals->b∈X.fs->b∉ch->s.heap.get? b=some o->H b=none->∃sl,h'.get? b=some {o with slots:=sl}) (free:∀b o,b∉ch->s.heap.get? b=some o->H b=none->H' b=none)
  (there:∀b o,b∉ch->s.heap.get? b=some o->∃o',h'.get? b=some o')
  (kF:∀b xs,H b=some (.tup xs)->H' b=some (.tup xs)) (fO:∀b o u,H b=some (.c9 o u)->H' b=some (.c9 o u)) (kG:∀b ps,H b=some (.FX ps)->∃more,H' b=some (.FX (ps++more)))
  (ns:∀m,s.heap.Ns X.env.locals m->h'.Ns X.env.locals m) (aI:fN X.prog X.w H' h') (hg:AllBare g'):
  Inv X U σ H' {s with heap:=h',gens:=g',drawn:=d',toks:=t'}:=by
 have UI:∀b o,X.s₀.heap.get? b=some o->b≠X.env.locals:=λb o e=>Z5 (Zr (ZO e) I.ok.above)
 have Pj:∀b o,X.s₀.heap.get? b=some o->b∉X.ex->b∉ch:=λb o e hx hb=>by
  rcases (Cv b hb).1 with z|z
  .exact hx z
  .exact absurd (Zr (ZO e) z) (aaC _)
 have cellK:∀x c,X.env.cells.lookup x=some c->∀v,s.heap.IsCell c v->h'.IsCell c v:=λx c e v zz=>by
  refine aa zz λo ho hd=>?_
  have LP:c∉ch:=λz=>(Cv c z).2.2.1 x c e rfl
  by_cases hc:c∈X.fs
  .obtain⟨sl,q⟩:=slot c o (I.y_ x c e) hc LP ho (I.dG x c e)
   exact⟨_,q,hd⟩
  .exact⟨o,keep c o (I.y_ x c e) hc LP ho (I.dG x c e),hd⟩
 refine⟨I.ok,I.os,hg,⟨λb o e n hb hx=>?_,λb o e n hb hx=>?_,λb o e n hx=>?_,λb o e hx=>?_,λb xs e=>kF b xs (I.base.kF b xs e),λb o xs e=>fO b o xs (I.base.fO b o xs e),λb ps e=>?_⟩,?_,λx c e=>?_,?_,λx c e=>?_,λp hp=>?_,aI,I.len⟩
 .exact keep b o (UI b o e) hb (Pj b o e hx) (I.base.keep b o e n hb hx) (I.base.free b o e n hx)
 .obtain⟨sl,e1⟩:=I.base.slot b o e n hb hx
  obtain⟨CS,e2⟩:=slot b _ (UI b o e) hb (Pj b o e hx) e1 (I.base.free b o e n hx)
  exact⟨CS,e2⟩
 .obtain⟨o',e1⟩:=I.base.there b o e hx
  exact free b o' (Pj b o e hx) e1 (I.base.free b o e n hx)
 .obtain⟨o',e1⟩:=I.base.there b o e hx
  exact there b o' (Pj b o e hx) e1
 .obtain⟨m1,e1⟩:=I.base.kG b ps e
  obtain⟨m2,e2⟩:=kG b _ e1
  exact⟨m1++m2,by rw[e2,Array.append_assoc]⟩
 .refine aa I.loc λm hn hl=>⟨m,ns m hn,λi x v e1 e2 e3=>?_⟩
  refine aa (hl i x v e1 e2 e3) λu r l=>⟨u,r,?_⟩
  rcases l with l|⟨k,c,e,z⟩
  .exact .inl l
  .exact .inr ⟨k,c,e,cellK x c e _ z⟩
 .obtain⟨v,z⟩:=I.cell x c e
  exact⟨v,cellK x c e v z⟩
 .obtain⟨m,⟨o,_,_,ho,_⟩,_⟩:=I.loc
  exact free _ o (λz=>(Cv _ z).2.1 rfl) ho I.free
 .exact dU (I.cell x c e) λv o ho hd=>free c o (λz=>(Cv c z).2.2.1 x c e rfl) ho (I.dG x c e)
 .refine Lv (I.pin p hp) λe n ne nf d=>?_
  have LP:p.1∉ch:=λz=>(Cv p.1 z).2.2.2 p hp rfl
  exact⟨keep p.1 p.2 ne nf LP e n,free p.1 p.2 LP e n,ne,nf,d⟩
def Inv.un{t':Nat}(I:Inv X U σ H s)(u:Un X.fs [] H H' s.heap h')(aI:fN X.prog X.w H' h'):Inv X U σ H' {s with heap:=h',toks:=t'}:=by
 refine au λnO=>?_
 obtain⟨m,⟨o,es,ep,ho,r⟩,_⟩:=id I.loc
 obtain⟨sl,hL⟩:=u.any ho I.free (by simp)
 refine nO ?_
 exact I.step (g':=s.gens) (d':=s.drawn) (ch:=[]) (λ_ z=>nomatch z) (λb o _ hb _ e n=>u.keep b o e n hb (by simp)) (λb o _ hb _ e n=>u.slot b o e n hb (by simp)) (λb o _ e n=>u.free b o e n (by simp)) (λb o _ e=>u.there b o e (by simp)) u.kF u.fO u.kG (λm' hm=>by
  refine au λnO=>kW hm λo' Cw F0 lH r'=>nO ?_
  rw[ho]at lH;cases lH
  exact⟨_,Cw,F0,hL,r'⟩) aI I.bare
def Inv.call{g':Array GenState}{t':Nat}{d':Drawn}{ch:List Addr}(I:Inv X U σ H s)(u:Un (gW X.stack) ch H H' s.heap h')(aI:fN X.prog X.w H' h')(hg:AllBare g')
  (Cv:∀b∈ch,(b∈X.ex\/X.s₀.heap.objs.size<=b)/\b≠X.env.locals/\(∀x c,X.env.cells.lookup x=some c->c≠b)/\∀p∈X.pn++U,p.1≠b):
  Inv X U σ H' {s with heap:=h',gens:=g',drawn:=d',toks:=t'}:=by
 refine au λnO=>?_
 obtain⟨m,⟨o,es,ep,ho,r⟩,_⟩:=id I.loc
 obtain⟨sl,hL⟩:=u.any ho I.free λz=>(Cv _ z).2.1 rfl
 refine nO ?_
 exact I.step (ch:=ch) Cv (λb o hL hb hc e n=>u.keep b o e n (λz=>(ZK.mp (I.lI b z)).elim hL hb) hc) (λb o _ _ hc e n=>u.any e n hc) (λb o hc e n=>u.free b o e n hc) (λb o hc e=>u.there b o e hc) u.kF u.fO u.kG (λm' hm=>by
  refine au λnO=>kW hm λo' Cw F0 lH r'=>nO ?_
  rw[ho]at lH;cases lH
  exact⟨_,Cw,F0,hL,r'⟩) aI hg
def Inv.turned{t':Nat}{it:Addr}(I:Inv X U σ H s)(k:∀b o,b≠it->s.heap.get? b=some o->h'.get? b=some o)(hn:H it=none)(hL:it≠X.env.locals)
  (h1:it∈X.ex\/X.s₀.heap.objs.size<=it) (h2:∀x c,X.env.cells.lookup x=some c->c≠it) (h3:∀p∈X.pn++U,p.1≠it):Inv X U σ H {s with heap:=h',toks:=t'}:=by
 have LQ:∀b u,H b=some u->b≠it:=λb u e z=>by rw[z,hn]at e;cases e
 refine I.step (g':=s.gens) (d':=s.drawn) (ch:=[it]) (λb hb=>?_) (λb o _ _ hc e _=>k b o (λz=>hc (by simp[z])) e) (λb o _ _ hc e _=>⟨o.slots,k b o (λz=>hc (by simp[z])) e⟩) (λ_ _ _ _ n=>n)
  (λb o hc e=>⟨o,k b o (λz=>hc (by simp[z])) e⟩) (λ_ _ e=>e) (λ_ _ _ e=>e) (λb ps e=>⟨#[],by rw[e];simp⟩) (λm hm=>?_) (λb u e=>?_) I.bare
 .have e:b=it:=by simpa using hb
  subst e
  exact⟨h1,hL,h2,h3⟩
 .exact kW hm λo es ep ho r=>⟨o,es,ep,k _ o (aaH hL) ho,r⟩
 .refine(I.aI b u e).kE (λc v hc q=>k c v ?_ q) (λ_ q=>q) λ_ _ q=>q
  rcases hc with z|z
  .rw[z];exact LQ b u e
  .exact LQ c _ z
def Inv.tok(I:Inv X U σ H s)(t:Nat):Inv X U σ H {s with toks:=t}:=I.un (h':=s.heap) (t':=t) Un.refl I.aI
theorem Inv.kept(I:Inv X U σ H s)(k:∀b u,s.heap.get? b=some u->h'.get? b=some u):Inv X U σ H {s with heap:=h',toks:=t'}:=I.un (Un.kept k) (I.aI.kept k)
theorem Inv.laid(I:Inv X U σ H s)(k:∀b u,s.heap.get? b=some u->h'.get? b=some u)(hp:s.heap.objs.size<=a)(new:aT X.prog X.w (upd H a o) h' a o):
  Inv X U σ (upd H a o) {s with heap:=h',toks:=t'}:=I.un (Un.laid k hp (I.aI.fresh hp)) (I.aI.laid k hp new)
theorem Inv.write(I:Inv X U σ H s)(mu:yY (H x))(he:e=x\/H e=some (.own x))(k:∀b u,b≠e->s.heap.get? b=some u->h'.get? b=some u)(FY:∃u,h'.get? e=some u)
  (new:aT X.prog X.w (upd H x o) h' x o):Inv X U σ (upd H x o) {s with heap:=h',toks:=t'}:=I.un (Un.write mu he k FY) (I.aI.write mu he k FY new)
def Inv.weak(I:Inv X U σ H s)(hl:bO.length=σ.length)(w:∀(i:Nat) v,bO[i]?=some (some v)->σ[i]?=some (some v)):Inv X U bO H s:=
 ⟨I.ok,I.os,I.bare,I.base,let ⟨m,hn,pJ⟩:=I.loc;⟨m,hn,λi x v e1 e2 e3=>pJ i x v e1 (w i v e2) e3⟩,I.cell,I.free,I.dG,I.pin,I.aI,hl.trans I.len⟩
def Inv.uV(I:Inv X U σ H s)(h:∀p∈LR,s.heap.get? p.1=some p.2/\H p.1=none/\p.1≠X.env.locals/\p.1∉X.fs/\∀v,p.2.data≠ .cell v):Inv X LR σ H s:=
 ⟨I.ok,I.os,I.bare,I.base,I.loc,I.cell,I.free,I.dG,λp hp=>(ZZ.mp hp).elim (λz=>I.pin p (Z7 _ z)) (h p),I.aI,I.len⟩
def lJ{N:List Str}(hN:N.Nodup){i j:Nat}{x:Str}(a:N[i]?=some x)(b:N[j]?=some x):i=j:=by
 obtain⟨h1,e1⟩:=ZL.mp a
 obtain⟨h2,e2⟩:=ZL.mp b
 exact(List.getElem_inj hN).mp (e1.trans e2.symm)
def jE{M:Model}{A:Around}{E:Value->Shared->Prop}{i:Nat}{x:Str}{v:V}{u:Value}{Q:Unit->Shared->Prop}(I:Inv X U σ H s)(hN:X.N.Nodup)(hi:X.N[i]?=some x)(hx:Loc X.env.scope x)(r:RelV v u)
  (h:∀s',Inv X U (σ.set i (some v)) H s'->(∃a,Heap.SameBut a s.heap s'.heap/\(a=X.env.locals\/X.env.cells.lookup x=some a))->Q () s') (hf:X.fn x=true\/X.env.scope.names.lookup x=some .local :=by first|exact .inl rfl|exact .inr rfl|assumption):wpAny M A (storeName X.env x u) Q E s:=by
 obtain⟨m,hn,hl⟩:=id I.loc
 have QX:(X.env.scope.kind == .class||(X.env.scope.kind == .module&&X.env.locals !=X.env.globals))=false:=by rw[I.ok.kind];rfl
 have LU:i<σ.length:=by rw[I.len];exact(ZL.mp hi).1
 have y_:=I.y_
 have tracked:∀{a:Addr}{h':Heap},(∃o,s.heap.get? a=some o/\H a=none)->Heap.SameBut a s.heap h'->fN X.prog X.w H h':=λ{a h'} ha hs b ob e=>by
  obtain⟨_,_,F1⟩:=ha
  refine(I.aI b ob e).kE (λc w' hc q=>(hs.2 c ?_).trans q) (λ_ q=>q) λ_ _ q=>q
  rintro rfl
  rcases hc with rfl|hc
  .rw[F1]at e;cases e
  .rw[F1]at hc;cases hc
 rcases hx with hk|hk
 .refine wpAny_storeName_local hk hn (λh' QY hs=>?_) QX
  refine au λnO=>?_
  obtain⟨oL,_,_,K3,_⟩:=id hn
  refine nO ?_
  refine h _ ⟨I.ok,I.os,I.bare,⟨λb o e n hb hx=>?_,λb o e n hb hx=>?_,I.base.free,λb o e hx=>?_,I.base.kF,I.base.fO,I.base.kG⟩,⟨_,QY,λj y v' e1 e2 e3=>?_⟩,λy c e=>?_,I.free,I.dG,λp hp=>?_,tracked ⟨oL,K3,I.free⟩ hs,by simpa using I.len⟩ ⟨_,hs,.inl rfl⟩
  .exact(hs.2 b (Z5 (Zr (ZO e) I.ok.above))).trans (I.base.keep b o e n hb hx)
  .obtain⟨sl,e1⟩:=I.base.slot b o e n hb hx
   exact⟨sl,(hs.2 b (Z5 (Zr (ZO e) I.ok.above))).trans e1⟩
  .obtain⟨o',e1⟩:=I.base.there b o e hx
   exact⟨o',(hs.2 b (Z5 (Zr (ZO e) I.ok.above))).trans e1⟩
  .by_cases hj:j=i
   .subst hj
    rw[hi]at e1;cases e1
    rw[Z2 LU]at e2
    cases e2
    exact⟨u,r,.inl ⟨hk,by simp⟩⟩
   .rw[Z1 (aaH hj)]at e2
    obtain⟨u',r',q⟩:=hl j y v' e1 e2 e3
    refine⟨u',r',?_⟩
    rcases q with⟨k,e⟩|⟨k,c,e,z⟩
    .refine .inl ⟨k,?_⟩
     have:y≠x:=λe=>hj (lJ hN e1 (e▸hi))
     simp[this,e]
    .exact .inr ⟨k,c,e,z.sameBut hs (y_ y c e)⟩
  .obtain⟨w',z⟩:=I.cell y c e
   exact⟨w',z.sameBut hs (y_ y c e)⟩
  .refine au λnO=>?_
   obtain⟨e,n,ne,nf,d⟩:=I.pin p hp
   exact nO<|⟨(hs.2 p.1 ne).trans e,n,ne,nf,d⟩
 .have QZ:X.fn x=true:=by
   rcases hf with z|z
   .exact z
   .rw[z]at hk;cases hk
  obtain⟨c,hc⟩:=I.ok.has x (.inl hk)
  obtain⟨w',z⟩:=I.cell x c hc
  refine wpAny_storeName_cell I.ok.kind hk hc z (λh' kY hs=>?_)
  obtain⟨oc,UJ,Q0⟩:=id z
  refine h {s with heap:=h'} ⟨I.ok,I.os,I.bare,⟨λb o e n hb hx=>?_,λb o e n hb hx=>?_,I.base.free,λb o e hx=>?_,I.base.kF,I.base.fO,I.base.kG⟩,⟨m,hn.sameBut hs (aaH (y_ x c hc)),λj y v' e1 e2 e3=>?_⟩,λy c' e=>?_,I.free,I.dG,λp hp=>?_,tracked ⟨oc,UJ,I.dG x c hc⟩ hs,by simpa using I.len⟩ ⟨c,hs,.inr hc⟩
  .exact(hs.2 b (Z5 (Zr (ZO e) (I.ok.K2 x c QZ hc)))).trans (I.base.keep b o e n hb hx)
  .obtain⟨sl,e1⟩:=I.base.slot b o e n hb hx
   exact⟨sl,(hs.2 b (Z5 (Zr (ZO e) (I.ok.K2 x c QZ hc)))).trans e1⟩
  .obtain⟨o',e1⟩:=I.base.there b o e hx
   exact⟨o',(hs.2 b (Z5 (Zr (ZO e) (I.ok.K2 x c QZ hc)))).trans e1⟩
  .by_cases hj:j=i
   .subst hj
    rw[hi]at e1;cases e1
    rw[Z2 LU]at e2
    cases e2
    exact⟨u,r,.inr ⟨.inl hk,c,hc,kY⟩⟩
   .rw[Z1 (aaH hj)]at e2
    obtain⟨u',r',q⟩:=hl j y v' e1 e2 e3
    refine⟨u',r',?_⟩
    rcases q with q|⟨k,c',e,z'⟩
    .exact .inl q
    .refine .inr ⟨k,c',e,z'.sameBut hs ?_⟩
     rintro rfl
     exact hj (lJ hN e1 (I.ok.inj _ _ _ e hc▸hi))
  .by_cases UK:c'=c
   .subst UK;exact⟨_,kY⟩
   .obtain⟨w2,z2⟩:=I.cell y c' e
    exact⟨w2,z2.sameBut hs UK⟩
  .refine au λnO=>?_
   obtain⟨e,n,ne,nf,d⟩:=I.pin p hp
   refine nO ?_
   refine⟨(hs.2 p.1 ?_).trans e,n,ne,nf,d⟩
   intro q
   rw[q,UJ]at e
   have q':oc=p.2:=ZY e
   exact d w' (by rw[<-q'];exact Q0)
def qV(I:Inv X U σ H s)(hN:X.N.Nodup)(hi:X.N[i]?=some x)(hx:Loc X.env.scope x)(r:RelV v u)
  (h:∀s',Inv X U (σ.set i (some v)) H s'->Q () s') (hf:X.fn x=true\/X.env.scope.names.lookup x=some .local :=by first|exact .inl rfl|exact .inr rfl|assumption):wpAny M A (storeName X.env x u) Q E s:=
 jE I hN hi hx r (λs' I' _=>h s' I') hf
def Inv.F2(I:Inv X U σ H s)(ho:s'.os=s.os)(u:Un (gW X.stack) ch H H' s.heap s'.heap)(aI:fN X.prog X.w H' s'.heap)(hg:AllBare s'.gens)
  (Cv:∀b∈ch,(b∈X.ex\/X.s₀.heap.objs.size<=b)/\b≠X.env.locals/\(∀x c,X.env.cells.lookup x=some c->c≠b)/\∀p∈X.pn++U,p.1≠b):Inv X U σ H' s':=by
 obtain⟨h',g',d',t',o'⟩:=s'
 have e:o'=s.os:=ho
 subst e
 exact I.call (g':=g') (t':=t') (d':=d') u aI hg Cv
end
abbrev XK:=Value->Option Addr->Hp->Prop
abbrev St:=List (Option V)
abbrev VK:=V->Hp->Prop
abbrev TE:=St->Hp->VK->Prop
abbrev TT:=St->Hp->(Bool->Hp->Prop)->Prop
abbrev TA:=St->Hp->(List V->Hp->Prop)->Prop
structure za where
 nx:St->Hp->Prop
 rt:VK
 bk:St->Hp->Prop:=λ_ _=>False
 ct:St->Hp->Prop:=λ_ _=>False
abbrev TS:=za->St->Hp->Prop
def EP(X:Cx)(U:List (Addr×Obj))(σ:St)(Q:VK)(u:Value)(s':Shared):Prop:=∃v H',Inv X U σ H' s'/\RelV v u/\Q v H'
def TP(X:Cx)(U:List (Addr×Obj))(σ:St)(Q:Bool->Hp->Prop)(b:Bool)(s':Shared):Prop:=∃H',Inv X U σ H' s'/\Q b H'
def AP(X:Cx)(U:List (Addr×Obj))(σ:St)(Q:List V->Hp->Prop)(us:List Value)(s':Shared):Prop:=∃vs H',Inv X U σ H' s'/\aE vs us/\Q vs H'
def SP(X:Cx)(U:List (Addr×Obj))(D:za)(f:Flow)(s':Shared):Prop:=
 match f with
 | .next =>∃bO H',Inv X U bO H' s'/\D.nx bO H'
 | .brk =>∃bO H',Inv X U bO H' s'/\D.bk bO H'
 | .cont =>∃bO H',Inv X U bO H' s'/\D.ct bO H'
 | .ret u=>∃v bO H',Inv X U bO H' s'/\RelV v u/\D.rt v H'
def PE(X:Cx)(e:Expr)(t:TE):Prop:=
 ∀(U:List (Addr×Obj)) (s:Shared) (σ:St) (H:Hp) (Q:VK),Inv X U σ H s->t σ H Q->wpAny (model X.prog X.w) X.A (eval e X.env) (EP X U σ Q) X.xe s
def PT(X:Cx)(e:Expr)(t:TT):Prop:=
 ∀(U:List (Addr×Obj)) (s:Shared) (σ:St) (H:Hp) (Q:Bool->Hp->Prop),Inv X U σ H s->t σ H Q->wpAny (model X.prog X.w) X.A (isTrue e X.env (eval e X.env)) (TP X U σ Q) X.xe s
def PW(X:Cx)(e:Expr)(t:TT):Prop:=
 ∀(cz:Sem Value) (U:List (Addr×Obj)) (s:Shared) (σ:St) (H:Hp) (Q:Bool->Hp->Prop),Inv X U σ H s->t σ H Q->wpAny (model X.prog X.w) X.A (isTrue e X.env cz) (TP X U σ Q) X.xe s
def PW.pt(h:PW X e t):PT X e t:=h _
def PA(X:Cx)(es:List Expr)(t:TA):Prop:=
 ∀(pos:Pos) (U:List (Addr×Obj)) (s:Shared) (σ:St) (H:Hp) (Q:List V->Hp->Prop),Inv X U σ H s->t σ H Q->wpAny (model X.prog X.w) X.A (spliced (backTo pos (starEach es X.env))) (AP X U σ Q) X.xe s
def PS(X:Cx)(st:Stmt)(t:TS):Prop:=
 ∀(U:List (Addr×Obj)) (s:Shared) (σ:St) (H:Hp) (D:za),Inv X U σ H s->t D σ H->wpAny (model X.prog X.w) X.A (exec st X.env) (SP X U D) X.xe s
def jF(X:Cx)(st:List Stmt)(t:TS):Prop:=
 ∀(U:List (Addr×Obj)) (s:Shared) (σ:St) (H:Hp) (D:za),Inv X U σ H s->t D σ H->wpAny (model X.prog X.w) X.A (execs st X.env) (SP X U D) X.xe s
def aU(h:wpAny M A t Q E s)(hQ:∀a s,Q a s->Q' a s):wpAny M A t Q' E s:=aaJ h hQ λ_ _ x=>x
section
variable {X:Cx}
def cP(i:Nat):TE:=λσ H Q=>∃v,σ[i]?=some (some v)/\Q v H
def tC(v:V):TE:=λ_ H Q=>Q v H
def bG(hN:X.N[i]?=some x)(hv:uU X.env.scope x)(hd:(x==("__debug__":Str))=false:=by decide)(nE:(x==("__classdict__":Str))=false:=by decide):PE X (.Name x pos) (cP i):=by
 intro U s σ H Q I h
 refine aa h λv e h=>aa I.loc λm hn hl=>aa (hl i x v hN e hv) λu r l=>?_
 have fin:EP X U σ Q u s:=⟨v,H,I,r,h⟩
 rcases l with⟨hk,hm⟩|⟨hk,c,hc,uW⟩
 .exact wpAny_Name (wpAny_loadName_local I.ok.kind hk hn hm fin) hd
 .rcases hk with hk|hk
  .exact wpAny_Name (wpAny_loadName_cell I.ok.kind hk hc uW fin) hd
  .exact wpAny_Name (wpAny_loadName_free I.ok.kind hk hc uW fin nE) hd
def zb:PE X (.Constant (.int i) j pos) (tC (.int i)):=λ_ _ _ H _ I h=>wpAny_Constant_int ⟨.int i,H,I.tok _,⟨_,rfl⟩,h⟩
def LV:PE X (.Constant (.bool b) j pos) (tC (.bl b)):=λ_ _ _ H _ I h=>Constant_bool ⟨.bl b,H,I,rfl,h⟩
def Hn:PE X (.Constant .none j pos) (tC .bX):=λ_ _ _ H _ I h=>Constant_none ⟨.bX,H,I,rfl,h⟩
def zc:PE X (.Constant (.str x) j pos) (tC (.str x)):=λ_ _ _ H _ I h=>Calls.Constant_str ⟨.str x,H,I.tok _,⟨_,rfl⟩,h⟩
def Gl(X:Cx)(x:Str):Prop:=X.env.kindOf x=some .globalImplicit
def iG(I:Inv X U σ H s)(hg:Gl X x)(hm:X.mg x=some u)(h:Q u s)
  (hd:(x==("__debug__":Str))=false:=by decide):wpAny (model X.prog X.w) X.A (eval (.Name x pos) X.env) Q E s:=
 acF I.ok.kind hg (Calls.loadGlobal_global (by rw[I.ok.glob];exact I.mod.glob.keeps I.bk) hm h) hd
def ij(I:Inv X U σ H s)(hg:Gl X x)(hm:X.mg x=none)(hv:bootBuiltins x=some u)(h:Q u s)
  (hn:x≠"__name__":=by decide) (hd:(x==("__debug__":Str))=false:=by decide):wpAny (model X.prog X.w) X.A (eval (.Name x pos) X.env) Q E s:=by
 exact aa I.mod.blt λmb h1 h2=>acF I.ok.kind hg (Calls.loadGlobal_builtin (by rw[I.ok.glob];exact I.mod.glob.keeps I.bk) hm (by rw[I.ok.blt];exact h1.keeps I.bk) ((h2 x hn).trans hv) h) hd
def uX(hg:Gl X x)(hm:X.mg x=some u)(r:RelV v u)(hd:(x==("__debug__":Str))=false:=by decide):PE X (.Name x pos) (tC v):=
 λ_ _ _ H _ I h=>iG I hg hm ⟨v,H,I,r,h⟩ hd
def uY(hg:Gl X x)(hm:X.mg x=none)(hv:bootBuiltins x=some u)(r:RelV v u)(hn:x≠"__name__":=by decide)(hd:(x==("__debug__":Str))=false:=by decide):PE X (.Name x pos) (tC v):=
 λ_ _ _ H _ I h=>ij I hg hm hv ⟨v,H,I,r,h⟩ hn hd
variable {a b:Expr}{ta tb:TE}{pos:Pos}
def PC(X:Cx)(op:CmpOp)(a b:Expr)(t:TE):Prop:=
 ∀(U:List (Addr×Obj)) (s:Shared) (σ:St) (H:Hp) (Q:VK),Inv X U σ H s->t σ H Q->
  wpAny (model X.prog X.w) X.A (eval a X.env) (λv aX=>wpAny (model X.prog X.w) X.A (eval b X.env) (λu lK=>wpAny (model X.prog X.w) X.A (compareOp op v u) (EP X U σ Q) X.xe lK) X.xe aX) X.xe s
def tB(t:TE):TT:=λσ H Q=>t σ H λx H1=>∃c,x= .bl c/\Q c H1
def Ho(h:PC X op a b t)(h1:behindInMarks op b=false:=by first|exact zf _ (by decide) (by decide)|rfl):PE X (.Compare a [op] [b] pos) t:=λU s σ H Q I hw=>wpAny_Compare1 (h U s σ H Q I hw) h1
def Hq(h:PC X op a b t)(h1:behindInMarks op b=false:=by first|exact zf _ (by decide) (by decide)|rfl):PT X (.Compare a [op] [b] pos) (tB t):=by
 intro U s σ H Q I hw
 refine wpAny_isTrue_Compare1 (aU (h U s σ H _ I hw) λv s1 h1=>aU h1 λu s2 h2=>aU h2 λc s3 zz=>bu zz λx H1 I1 r1 q1=>?_) h1
 refine aa q1 λd ah q=>?_
 try clear q1
 subst ah
 cases r1
 exact aaS ⟨H1,I1,q⟩
def Hr(h:PE X e t)(he:∀cz,isTrue e X.env cz=(do let v<-cz;standAt e.pos;holding [v] (truthy v)):=by intro _;rfl):PT X e (tB t):=by
 intro U s σ H Q I hw
 refine isTrue_plain (aU (h U s σ H _ I hw) λv s1 ⟨x,H1,I1,r1,q1⟩=>?_) (he _)
 refine aa q1 λd ah q=>?_
 try clear q1
 subst ah
 cases r1
 exact aaS ⟨H1,I1,q⟩
variable {tA Pk:TT}{bx:List Expr}
def LX(t u:TT):TT:=λσ H Q=>t σ H λc H1=>if c=true then u σ H1 Q else Q false H1
def Wo(t u:TT):TT:=λσ H Q=>t σ H λc H1=>if c=true then Q true H1 else u σ H1 Q
def Q2(t:TT):TT:=λσ H Q=>t σ H λc H1=>Q (!c) H1
def CT(ha:PT X a tA):PW X (.BoolOp .And [a] pos) tA:=by
 intro wh U s σ H Q I h
 refine isTrue_and (aU (ha U s σ H Q I h) λc s1 e=>?_)
 cases c with
 |true=>exact isTrue_and_nil e
 |false=>exact e
def Hs(ha:PT X a tA):PW X (.BoolOp .Or [a] pos) tA:=by
 intro wh U s σ H Q I h
 refine isTrue_or (aU (ha U s σ H Q I h) λc s1 e=>?_)
 cases c with
 |false=>exact isTrue_or_nil e
 |true=>exact e
def Ht(ha:PT X a tA)(hb:PW X (.BoolOp .And (b::bx) pos) Pk):PW X (.BoolOp .And (a::b::bx) pos) (LX tA Pk):=by
 intro wh U s σ H Q I h
 refine isTrue_and (aU (ha U s σ H _ I h) λc s1 zz=>?_)
 refine aa zz λH1 I1 q1=>?_
 cases c with
 |true=>exact hb wh U s1 σ H1 Q I1 q1
 |false=>exact⟨H1,I1,q1⟩
def LY(ha:PT X a tA)(hb:PW X (.BoolOp .Or (b::bx) pos) Pk):PW X (.BoolOp .Or (a::b::bx) pos) (Wo tA Pk):=by
 intro wh U s σ H Q I h
 refine isTrue_or (aU (ha U s σ H _ I h) λc s1 zz=>?_)
 refine aa zz λH1 I1 q1=>?_
 cases c with
 |true=>exact⟨H1,I1,q1⟩
 |false=>exact hb wh U s1 σ H1 Q I1 q1
def Hu(ha:PT X a tA):PT X (.UnaryOp .Not a pos) (Q2 tA):=by
 intro U s σ H Q I h
 exact isTrue_not (ha U s σ H (λc H1=>Q (!c) H1) I h)
def LZ(ta tb:TE):TE:=λσ H Q=>ta σ H λx H1=>∃c,x= .bl c/\if c=true then tb σ H1 Q else Q (.bl false) H1
def Q3(ta tb:TE):TE:=λσ H Q=>ta σ H λx H1=>∃c,x= .bl c/\if c=true then Q (.bl true) H1 else tb σ H1 Q
def L4(ta:TE):TE:=λσ H Q=>ta σ H λx H1=>∃c,x= .bl c/\Q (.bl (!c)) H1
def zg(h:PE X a t):PE X (.BoolOp op [a] pos) t:=λU s σ H Q I hw=>BoolOp_one (h U s σ H Q I hw)
def tU(ha:PE X a ta)(hb:PE X (.BoolOp .And (b::bx) pos) tb):PE X (.BoolOp .And (a::b::bx) pos) (LZ ta tb):=by
 intro U s σ H Q I h
 refine BoolOp_and (aU (ha U s σ H _ I h) λv s1 zz=>?_)
 refine au λnO=>?_
 obtain⟨x,H1,I1,r1,q1⟩:=zz
 obtain⟨c,rfl,q1⟩:=q1
 cases r1
 refine nO<|aaS ?_
 cases c with
 |true=>exact hb U s1 σ H1 Q I1 q1
 |false=>exact⟨.bl false,H1,I1,rfl,q1⟩
def L5(ha:PE X a ta)(hb:PE X (.BoolOp .Or (b::bx) pos) tb):PE X (.BoolOp .Or (a::b::bx) pos) (Q3 ta tb):=by
 intro U s σ H Q I h
 refine BoolOp_or (aU (ha U s σ H _ I h) λv s1 zz=>?_)
 refine au λnO=>?_
 obtain⟨x,H1,I1,r1,q1⟩:=zz
 obtain⟨c,rfl,q1⟩:=q1
 cases r1
 refine nO<|aaS ?_
 cases c with
 |false=>exact hb U s1 σ H1 Q I1 q1
 |true=>exact⟨.bl true,H1,I1,rfl,q1⟩
def zh(ha:PE X a ta):PE X (.UnaryOp .Not a pos) (L4 ta):=by
 intro U s σ H Q I h
 refine UnaryOp_ (aU (ha U s σ H _ I h) λv s1 zz=>?_)
 refine au λnO=>?_
 obtain⟨x,H1,I1,r1,q1⟩:=zz
 obtain⟨c,rfl,q1⟩:=q1
 cases r1
 exact nO<|not_of (aaS ⟨.bl (!c),H1,I1,rfl,q1⟩)
end
def du(K:aC)(H:Hp)(a:Addr)(xs:List V):Prop:=
 Rd H a (.lst xs)\/
  ∃(o:Obj) (its:Array Value) (n:Nat),K.lookup a=some o/\o.cls= .type "list"/\o.dict=none/\o.data= .seq its n/\its.size<=sizeLine/\aE xs its.toList/\o.slots=#[]
def cC(K:aC)(H:Hp)(a:Addr)(xs:List V):Prop:=H a=some (.tup xs)
noncomputable def Q4:Value->Option V
 | .none =>some .bX
 | .bool b=>some (.bl b)
 | .int i _=>some (.int i)
 | .str x _=>some (.str x)
 | .bytes b _=>some (.LJ b)
 | .float b _=>some (.QS b)
 | .ref a=>some (.ref a)
 | .type n=>some (.ty n)
 |_=>none
def RelV.abs(r:RelV x u):Q4 u=some x:=by
 cases x with
 |bX=>cases r;rfl
 |bl _=>cases r;rfl
 |int _=>obtain⟨t,rfl⟩:=r;rfl
 |str _=>obtain⟨t,rfl⟩:=r;rfl
 |LJ _=>obtain⟨t,rfl⟩:=r;rfl
 |QS _=>obtain⟨t,rfl⟩:=r;rfl
 |ref _=>cases r;rfl
 |ty _=>cases r;rfl
theorem RelV.inj(r:RelV x u)(q:RelV y u):x=y:=ZY (r.abs.symm.trans q.abs)
theorem aE.inj:∀{xs ys:List V}{us:List Value},aE xs us->aE ys us->xs=ys:=λ{xs ys us} h=>by
 induction h generalizing ys with
 |nil=>intro h;cases h;rfl
 |cons r t ih=>intro h;cases h with|cons r' t'=>rw[r.inj r',ih t']
section
variable {X:Cx}{U:List (Addr×Obj)}{σ:St}{H:Hp}{s:Shared}{a:Addr}{xs ys:List V}
def du.of{K:aC}(h:H a=some (.lst xs)):du K H a xs:= .inl (.inl h)
def cC.of{K:aC}(h:H a=some (.tup xs)):cC K H a xs:=h
def Inv.list(I:Inv X U σ H s)(h:du X.K H a xs):∃its:List Value,aE xs its/\PlainL s.heap a its.toArray/\xs.length<=sizeLine:=by
 rcases h with h|⟨o,its,n,hk,hc,hd,hs,hz,r,_⟩
 .obtain⟨z,its,n,r,e⟩:=h.ok I.aI
  exact⟨its,r,⟨_,n,e,rfl,rfl,rfl⟩,z⟩
 .refine⟨its.toList,r,⟨o,n,I.yN a o hk,hc,hd,by simpa using hs⟩,?_⟩
  have e:=r.length
  simp only[Z_]at e
  exact Zw (ZF e) hz
def Inv.tuple(I:Inv X U σ H s)(h:cC X.K H a xs):∃its:List Value,aE xs its/\IsTup s.heap a its.toArray/\xs.length<=sizeLine:=by
 obtain⟨z,its,r,p⟩:=I.aI a _ h
 exact⟨its,r,p.tup,z⟩
def Inv.Hv(I:Inv X U σ H s)(h:cC X.K H a xs):∃its:List Value,aE xs its/\ig s.heap a its.toArray/\xs.length<=sizeLine:=by
 obtain⟨z,its,r,p⟩:=I.aI a _ h
 exact⟨its,r,p,z⟩
def Inv.qW(I:Inv X U σ H s)(h:du X.K H a xs)(h':du X.K H a ys):xs=ys:=by
 refine au λnO=>?_
 obtain⟨its,r,⟨o,n,e,_,_,d⟩,_⟩:=I.list h
 obtain⟨its',r',⟨o',n',e',_,_,d'⟩,_⟩:=I.list h'
 refine nO ?_
 rw[e]at e';cases e'
 rw[d]at d'
 injection d' with d1 _
 have:its=its':=by simpa using congrArg Array.toList d1
 subst this
 exact r.inj r'
def Inv.jG(I:Inv X U σ H s)(h:cC X.K H a xs)(h':cC X.K H a ys):xs=ys:=by
 obtain⟨its,r,⟨o,e,_,n,d⟩,_⟩:=I.tuple h
 obtain⟨its',r',⟨o',e',_,n',d'⟩,_⟩:=I.tuple h'
 rw[e]at e';cases e'
 rw[d]at d'
 injection d' with d1 _
 have:its=its':=by simpa using congrArg Array.toList d1
 subst this
 exact r.inj r'
end
noncomputable abbrev Cx.kH(X:Cx)(E:Value->Shared->Prop):Cx:={X with xe:=E}
noncomputable abbrev Cx.w_(X:Cx):Cx:=X.kH λ_ _=>False
theorem Cx.Ok.kH{X:Cx}(ok:X.Ok)(E:Value->Shared->Prop):(X.kH E).Ok :=
 ⟨ok.mod,ok.kind,ok.glob,ok.blt,ok.above,ok.inj,ok.has,ok.K2,ok.hd,ok.frames,ok.LO,ok.QU,ok.bs,ok.CQ,ok.w8,ok.y0,ok.jD,ok.Hl⟩
def Cx.Ok.eA{X:Cx}{E:Value->Shared->Prop}(ok:(X.kH E).Ok):X.Ok:=
 ⟨ok.mod,ok.kind,ok.glob,ok.blt,ok.above,ok.inj,ok.has,ok.K2,ok.hd,ok.frames,ok.LO,ok.QU,ok.bs,ok.CQ,ok.w8,ok.y0,ok.jD,ok.Hl⟩
section
variable {X:Cx}{U:List (Addr×Obj)}{σ:St}{H:Hp}{s:Shared}{E:Value->Shared->Prop}
theorem Inv.kH(I:Inv X U σ H s)(E:Value->Shared->Prop):Inv (X.kH E) U σ H s:=⟨I.ok.kH E,I.os,I.bare,I.base,I.loc,I.cell,I.free,I.dG,I.pin,I.aI,I.len⟩
theorem Inv.eA(I:Inv (X.kH E) U σ H s):Inv X U σ H s:=⟨I.ok.eA,I.os,I.bare,I.base,I.loc,I.cell,I.free,I.dG,I.pin,I.aI,I.len⟩
theorem SP.eA(h:SP (X.kH E) U D f s'):SP X U D f s':=by
 cases f with
 |next=>obtain⟨bO,H',I,q⟩:=h;exact⟨bO,H',I.eA,q⟩
 |brk=>obtain⟨bO,H',I,q⟩:=h;exact⟨bO,H',I.eA,q⟩
 |cont=>obtain⟨bO,H',I,q⟩:=h;exact⟨bO,H',I.eA,q⟩
 |ret u=>obtain⟨v,bO,H',I,r,q⟩:=h;exact⟨v,bO,H',I.eA,r,q⟩
theorem PT.w_(h:PT X.w_ e t):PT X e t:=λU s σ H Q I hw=>
 aaJ (h U s σ H Q (I.kH _) hw) (λ_ _ zz=>aa zz λH' I' q=>⟨H',I'.eA,q⟩) λ_ _ z=>False.elim z
theorem jF.w_{st:List Stmt}{t:TS}(h:jF X.w_ st t):jF X st t:=λU s σ H D I hw=>
 aaJ (h U s σ H D (I.kH _) hw) (λ_ _ q=>q.eA) λ_ _ z=>False.elim z
end
section
variable {X:Cx}{st:Stmt}{bx:List Stmt}{t u:TS}{e:Expr}{te:TE}{pos:Pos}
def uZ:TS:=λD σ H=>D.nx σ H
def pK(t u:TS):TS:=λD σ H=>t {D with nx:=u D} σ H
def gz:jF X [] uZ:=λ_ _ σ H _ I h=>adF ⟨σ,H,I,h⟩
def bC(h1:PS X st t)(h2:jF X bx u):jF X (st::bx) (pK t u):=by
 intro U s σ H D I h
 refine aeu (aU (h1 U s σ H {D with nx:=u D} I h) λf s1 q=>?_)
 cases f with
 |next=>
  exact dU q λbO H' I' q=>h2 U s1 bO H' D I' q
 |ret v=>exact q
 |brk=>exact q
 |cont=>exact q
def u0(h1:PS X st t):jF X [st] t:=by
 intro U s σ H D I h
 refine aeu (aU (h1 U s σ H D I h) λf s1 q=>?_)
 cases f with
 |next=>exact adF q
 |ret v=>exact q
 |brk=>exact q
 |cont=>exact q
def Inv.quiet(I:Inv X U σ H s):interactive X.env=false:=by simp[interactive,I.ok.kind]
def u5(te:TE):TS:=λD σ H=>te σ H λ_ H1=>D.nx σ H1
def u6(he:PE X e te)(hs:swapsWith e none pos.line X.env=pure false:=by rfl):PS X (.Expr e pos) (u5 te):=by
 intro U s σ H D I h
 exact wpAny_Expr_any (aU (he U s σ H _ I h) λv s1 zz=>bu zz λx H1 I1 r1 q1=>⟨σ,H1,I1,q1⟩) I.quiet hs
def Q5(te:TE):TS:=λD σ H=>te σ H D.rt
def pL(he:PE X e te):PS X (.Return (some e) pos) (Q5 te):=by
 intro U s σ H D I h
 exact wpAny_Return_some (aU (he U s σ H _ I h) λv s1 zz=>bu zz λx H1 I1 r1 q1=>⟨x,σ,H1,I1,r1,q1⟩)
def CU(c:TT)(t u:TS):TS:=λD σ H=>c σ H λb H1=>if b=true then t D σ H1 else u D σ H1
def zi(hc:PT X c tc)(ha:jF X a t)(hb:jF X b u):PS X (.If c a b pos) (CU tc t u):=by
 intro U s σ H D I h
 refine wpAny_If (aU (hc U s σ H _ I h) λd s1 zz=>?_)
 refine aa zz λH1 I1 q1=>?_
 cases d with
 |true=>exact ha U s1 σ H1 D I1 q1
 |false=>exact hb U s1 σ H1 D I1 q1
end
abbrev TG:=V->St->Hp->(St->Hp->Prop)->Prop
abbrev Hw:=List V->St->Hp->(St->Hp->Prop)->Prop
def PG(X:Cx)(target:Expr)(t:TG):Prop:=
 ∀(U:List (Addr×Obj)) (s:Shared) (σ:St) (H:Hp) (v:V) (u:Value) (Q:St->Hp->Prop),Inv X U σ H s->RelV v u->t v σ H Q->
  wpAny (model X.prog X.w) X.A (assign target X.env u) (λ_ s'=>∃bO H',Inv X U bO H' s'/\Q bO H') X.xe s
def K4(X:Cx)(ts:List Expr)(t:Hw):Prop:=
 ∀(U:List (Addr×Obj)) (s:Shared) (σ:St) (H:Hp) (vs:List V) (us:List Value) (Q:St->Hp->Prop),Inv X U σ H s->aE vs us->t vs σ H Q->
  wpAny (model X.prog X.w) X.A (assignInOrder ((assignEach ts X.env).map (·.2)) us) (λ_ s'=>∃bO H',Inv X U bO H' s'/\Q bO H') X.xe s
abbrev L6:=V->V->V->Hp->(Hp->Prop)->Prop
def L7(X:Cx)(t:L6):Prop:=
 ∀(U:List (Addr×Obj)) (s:Shared) (σ:St) (H:Hp) (o i v:V) (ov iv u:Value) (Q:Hp->Prop),Inv X U σ H s->RelV o ov->RelV i iv->RelV v u->t o i v H Q->
  wpAny (model X.prog X.w) X.A (setItem ov iv u) (λ_ s'=>∃H',Inv X U σ H' s'/\Q H') X.xe s
section
variable {X:Cx}{pos:Pos}
def cb(i:Nat):TG:=λv σ H Q=>Q (σ.set i (some v)) H
def kZ(hN:X.N.Nodup)(hi:X.N[i]?=some x)(hx:Loc X.env.scope x)(hf:X.fn x=true\/X.env.scope.names.lookup x=some .local :=by first|exact .inl rfl|exact .inr rfl|assumption):PG X (.Name x pos) (cb i):=by
 intro U s σ H v u Q I r h
 exact wpAny_assign_Name (qV I hN hi hx r (λs' I'=>⟨_,H,I',h⟩) hf)
def L8:Hw:=λvs σ H Q=>vs=[]/\Q σ H
def F3(t:TG)(u:Hw):Hw:=λvs σ H Q=>∃v r,vs=v::r/\t v σ H λbO H'=>u r bO H' Q
def CV:K4 X [] L8:=by
 intro U s σ H vs us Q I r h
 obtain⟨e,h⟩:=h
 subst e
 cases r
 exact assignInOrder_nil ⟨σ,H,I,h⟩
def zk(h1:PG X e t)(h2:K4 X es u)
  (hs:(assignEach (e::es) X.env).map (·.2)=assign e X.env::(assignEach es X.env).map (·.2):=by rfl):K4 X (e::es) (F3 t u):=by
 intro U s σ H vs us Q I r h
 obtain⟨v,vr,e1,h⟩:=h
 subst e1
 cases r with
 |cons r rr=>
  rw[hs]
  refine assignInOrder_cons (aU (h1 U s σ H _ _ _ I r h) λ_ s1 zz=>?_)
  obtain⟨Hx,H1,I1,q1⟩:=zz
  exact h2 U s1 Hx H1 _ _ Q I1 rr q1
def Q6(K:aC)(n:Nat)(t:Hw):TG:=λv σ H Q=>∃a xs,v= .ref a/\cC K H a xs/\xs.length=n/\t xs σ H Q
def Hy(hc:X.calm=true)(h:K4 X es t)
  (hn:(assignEach es X.env).length =n:=by rfl) (pM:(assignEach es X.env).findIdx? (·.1)=none:=by rfl):PG X (.Tuple es k pos) (Q6 X.K n t):=by
 intro U s σ H v u Q I r hw
 refine au λnO=>?_
 obtain⟨a,xs,e1,hq,hl,hw⟩:=hw
 subst e1
 cases r
 obtain⟨its,rv,ht,hz⟩:=I.tuple hq
 refine nO<|assign_Tuple_tuple (I.ok.hd hc) ht (by simp[hn,<-hl,rv.length]) pM λh' hx=>?_
 have I1:Inv X U σ H {s with heap:=h'}:=I.kept (t':=s.toks) λb o e=>hx b o (Z5 (ZO e)) e
 exact h U _ σ H xs _ Q I1 (by simpa using rv) hw
def Q7(to ti:TE)(t:L6):TG:=λv σ H Q=>to σ H λo H1=>ti σ H1 λi H2=>t o i v H2 λH3=>Q σ H3
def Hz(ho:PE X o to)(hi:PE X i ti)(hs:L7 X t)
  (ha:∀v,assign (.Subscript o i pos) X.env v=(do
   let ov<-holding [v] (eval o X.env)
   let iv<-holding [v,ov] (eval i X.env)
   standAt pos
   holding [v,ov,iv] (setItem ov iv v)
   release [v,ov,iv] []):=by intro _;rfl):PG X (.Subscript o i pos) (Q7 to ti t):=by
 intro U s σ H v u Q I r h
 rw[ha]
 refine Zq (aaO (aU (ho U s σ H _ I h) λov s1 zz=>?_))
 refine bu zz λx H1 I1 r1 q1=>Zq (aaO (aU (hi U s1 σ H1 _ I1 q1) λiv s2 zz=>?_))
 refine bu zz λy H2 I2 r2 q2=>Zq (aeo (Zq (aaO (aU (hs U s2 σ H2 x y v ov iv u _ I2 r1 r2 r q2) λ_ s3 zz=>?_))))
 exact aa zz λH3 I3 q3=>wpAny_release ⟨σ,H3,I3,q3⟩
def nF(te:TE)(g:TG):TS:=λD σ H=>te σ H λx H1=>g x σ H1 D.nx
def HA(he:PE X e te)(hg:PG X tg g)(hs:swapsWithSole [tg] e pos.line X.env=pure false:=by rfl)(hw:swappedStores [tg] e X.env=pure none:=by rfl)
  (h1:(assignEach [tg] X.env).map (·.2)=[assign tg X.env]:=by rfl):PS X (.Assign [tg] e pos) (nF te g):=by
 intro U s σ H D I h
 refine wpAny_Assign_stores (aU (he U s σ H _ I h) λv s1 zz=>bu zz λx H1 I1 r1 q1=>?_) hs hw
 rw[h1]
 exact aU (hg U s1 σ H1 x v _ I1 r1 q1) λ_ s2 q=>q
def fX(hN:X.N.Nodup)(hi:X.N[i]?=some x)(hx:Loc X.env.scope x)(he:PE X e te)(hs:swapsWith e (some (.Name x pos')) pos.line X.env=pure false:=by rfl)(hf:X.fn x=true\/X.env.scope.names.lookup x=some .local :=by first|exact .inl rfl|exact .inr rfl|assumption):
  PS X (.Assign [.Name x pos'] e pos) (nF te (cb i)):=by
 intro U s σ H D I h
 refine wpAny_Assign_Name (aU (he U s σ H _ I h) λv s1 zz=>bu zz λy H1 I1 r1 q1=>?_) hs
 exact qV I1 hN hi hx r1 (λs2 I2=>⟨_,H1,I2,q1⟩) hf
def HB(c:TT)(tb:TS):TS:=λD σ H=>∃W:Nat->St->Hp->Prop,(∃m,W m σ H)/\∀m σ H,W m σ H->
 c σ H λb H1=>if b=true then∃N:St->Hp->Prop,(∀bO H',N bO H'->∃m',m'<m/\W m' bO H')/\tb {D with nx:=N,ct:=N,bk:=D.nx} σ H1 else D.nx σ H1
def qX(hp:PassesOwn (model X.prog X.w) X.A X.env X.xe)(hc:PT X c tc)(hb:jF X body tb):PS X (.While c body [] pos) (HB tc tb):=by
 intro U s σ H D I h
 refine au λnO=>?_
 obtain⟨W,⟨m0,w0⟩,turn⟩:=h
 refine nO ?_
 refine wpAny_While (codeAny_whileLoop (λn s'=>∃bO H',Inv X U bO H' s'/\W n bO H') ?_ m0 ⟨σ,H,I,w0⟩)
 rintro n s1 ⟨Hx,H1,I1,w1⟩
 refine abW hp (aU (hc U s1 Hx H1 _ I1 (turn n Hx H1 w1)) λb s2 zz=>?_)
 refine aa zz λH2 I2 q2=>?_
 cases b with
 |true=>
  refine aa q2 λN hN q2=>?_
  rw[ZM rfl]
  refine abW hp (aU (hb U s2 Hx H2 _ I2 q2) λf s3 q3=>?_)
  cases f with
  |next=>
   exact au λnO=>dU q3 λxa H3 I3 n3=>aa (hN xa H3 n3) λm' hm w3=>nO<|⟨m',hm,xa,H3,I3,w3⟩
  |cont=>
   exact au λnO=>dU q3 λxa H3 I3 n3=>aa (hN xa H3 n3) λm' hm w3=>nO<|⟨m',hm,xa,H3,I3,w3⟩
  |brk=>exact q3
  |ret v=>exact q3
 |false=>
  rw[ZW Zz]
  exact adF ⟨Hx,H2,I2,q2⟩
end
structure It where
 go:Nat->Hp->Prop
 zl:Nat->Hp->V->Hp->Prop
 stop:Nat->Hp->Prop
def kI(X:Cx)(U:List (Addr×Obj))(H:Hp)(b:Addr):Prop:=
 H b=none/\b≠X.env.locals/\b∉X.fs/\(b∈X.ex\/X.s₀.heap.objs.size<=b)/\(∀x c,X.env.cells.lookup x=some c->c≠b)/\∀p∈X.pn++U,p.1≠b
def Inv.tW(I:Inv X U σ H s)(hb:s.heap.objs.size<=b)(hn:H' b=none):kI X U H' b:=by
 refine⟨hn,abQ (Zr I.lt hb),I.QW hb,.inr (Zw I.sz hb),λx c e z=>?_,λp hp z=>?_⟩
 .obtain⟨v,q⟩:=I.cell x c e
  exact absurd (Zr q.lt (by rw[z];exact hb)) (aaC _)
 .exact absurd (Zr (ZO (I.pin p hp).1) (by rw[z];exact hb)) (aaC _)
structure pN(P:Program)(w:World)(K:aC)(tg:Expr)(J:It)(fp:List Addr)(it:Addr)(tn:Nat->Heap->Prop):Prop where
 mem:it∈fp
 obj:∀i h,tn i h->∀b∈fp,∃o,h.get? b=some o/\∀v,o.data≠ .cell v
 keep:∀i h h',tn i h->(∀b∈fp,∀o,h.get? b=some o->h'.get? b=some o)->tn i h'
 item:∀(X:Cx),X.prog=P->X.w=w->X.K=K->X.calm=true->∀(i:Nat) (U:List (Addr×Obj)) (s:Shared) (σ:St) (H:Hp) (E:Value->Shared->Prop),Inv X U σ H s->(∀b∈fp,kI X U H b)->tn i s.heap->J.go i H->
  wpAny (model P w) X.A (pyNext (.ref it)) (λr s1=>∃u,r=some u/\
   wpAny (model P w) X.A (letOwnedTupleGo tg (.ref it) u) (λ_ s2=>∃x H',Inv X U σ H' s2/\RelV x u/\J.zl i H x H'/\tn (i+1) s2.heap/\∀b∈fp,H' b=none) E s1) E s
 done:∀(X:Cx),X.prog=P->X.w=w->X.K=K->X.calm=true->∀(i:Nat) (U:List (Addr×Obj)) (s:Shared) (σ:St) (H:Hp) (E:Value->Shared->Prop),Inv X U σ H s->(∀b∈fp,kI X U H b)->tn i s.heap->J.stop i H->
  wpAny (model P w) X.A (pyNext (.ref it)) (λr s1=>r=none/\Inv X U σ H s1) E s
 self:∀(A:Around) (i:Nat) (s:Shared) (Q:Value->Shared->Prop) (E:Value->Shared->Prop),tn i s.heap->Q (.ref it) s->wpAny (model P w) A (pyIter (.ref it)) Q E s
abbrev TI:=St->Hp->(It->Hp->Prop)->Prop
def UL(X:Cx)(U:List (Addr×Obj))(σ:St)(tg:Expr)(R:It->Hp->Prop)(Pl:Value)(s2:Shared):Prop:=
 ∃(it:Addr) (fp:List Addr) (tn:Nat->Heap->Prop) (J:It) (H':Hp),Pl= .ref it/\Inv X U σ H' s2/\pN X.prog X.w X.K tg J fp it tn/\tn 0 s2.heap/\(∀b∈fp,kI X U H' b)/\R J H'
def PI(X:Cx)(tg iter:Expr)(wi:TI):Prop:=
 ∀(U:List (Addr×Obj)) (s:Shared) (σ:St) (H:Hp) (R:It->Hp->Prop),Inv X U σ H s->wi σ H R->
  wpAny (model X.prog X.w) X.A (eval iter X.env) (λv s1=>wpAny (model X.prog X.w) X.A (pyIter v) (UL X U σ tg R) X.xe s1) X.xe s
def nX(ho:s.heap.get? it=some o)(hc:o.cls= .type n)(hd:o.data= .fields vs)
  (hn:["enumerate","zip","dict_itemiterator","dict_reverseitemiterator","odict_iterator","itertools.zip_longest","itertools.pairwise"].contains n=false) (hQ:Q () s):wpAny M A (letOwnedTupleGo tg (.ref it) u) Q E s:=by
 unfold letOwnedTupleGo
 cases tg<;>first
  |exact ZC hQ
  |(cases u<;>first
    |exact ZC hQ
    |(refine Zq (wpAny_load ho ?_);rw[hc,hd];show wpAny M A (if(["enumerate","zip","dict_itemiterator","dict_reverseitemiterator","odict_iterator","itertools.zip_longest","itertools.pairwise"].contains n&&vs[0]? == some (rawInt _))=true then _ else _) Q E s;rw[ZW (by intro h;rw[hn,Bool.false_and]at h;cases h)];exact ZC hQ))
noncomputable def Q8(K:aC)(a:Addr):It:=
 ⟨λi H=>∃xs x,du K H a xs/\xs[i]?=some x,λi H x H'=>H'=H/\∀xs,du K H a xs->xs[i]?=some x,λi H=>∃xs,du K H a xs/\xs.length<=i⟩
noncomputable def Q9(K:aC)(a:Addr):It:=
 ⟨λi H=>∃xs x,cC K H a xs/\xs[i]?=some x,λi H x H'=>H'=H/\∀xs,cC K H a xs->xs[i]?=some x,λi H=>∃xs,cC K H a xs/\xs.length<=i⟩
noncomputable def Pn(lo:Int)(n:Nat):It:=⟨λi _=>i<n,λi H x H'=>H'=H/\x= .int (lo+i),λi _=>n<=i⟩
def xf{P:Program}{w:World}{K:aC}{tg:Expr}(a it:Addr):pN P w K tg (Q8 K a) [it] it (λi h=>h.IsListIter it a i) where
 mem:=by simp
 obj:=λi h st b hb=>by
  have e:b=it:=by simpa using hb
  subst e
  exact bB st λo e c d=>⟨o,e,λv z=>by rw[d]at z;cases z⟩
 keep:=λi h h' st k=>st.at λo e=>k it (by simp) o e
 item:=by
  intro X hP hw hK hc i U s σ H E I hf st hg
  subst hP hw hK
  refine dU hg λxs x hq hx=>bB (I.list hq) λits rv p hz=>aa (rv.get hx) λu hu ru=>tK (hf it (by simp)) λf0 f1 f2 f3 f4 f5=>adf st p.isList (x:=u) (by simpa using hu) λh' ak sb=>?_
  have I1:Inv X U σ H {s with heap:=h'}:=I.turned (t':=s.toks) (λb o hb e=>(sb.2 b hb).trans e) f0 f1 f3 f4 f5
  exact bB (id ak) λo e c d=>⟨u,rfl,nX (s:={s with heap:=h'}) e c d (by decide) ⟨x,H,I1,ru,⟨rfl,λys hy=>by rw[I.qW hy hq];exact hx⟩,ak,λb hb=>(hf b hb).1⟩⟩
 done:=by
  intro X hP hw hK hc i U s σ H E I hf st hg
  subst hP hw hK
  refine aa hg λxs hq hx=>bB (I.list hq) λits rv p hz=>tK (hf it (by simp)) λf0 f1 f2 f3 f4 f5=>?_
  have hl:=rv.length
  exact wpAny_pyNext_list_end (I.ok.hd hc) st p.isList (by simp;exact Zw (ZF (aaa hl)) hx) λh' eb=>⟨rfl,I.turned (t':=s.toks) (λb o hb e=>eb b o hb e) f0 f1 f3 f4 f5⟩
 self:=λ_ _ _ _ _ st h=>wpAny_pyIter_listiter st h
def tX{P:Program}{w:World}{K:aC}{tg:Expr}(a it:Addr):pN P w K tg (Q9 K a) [it] it (λi h=>h.IsTupleIter it a i) where
 mem:=by simp
 obj:=λi h st b hb=>by
  have e:b=it:=by simpa using hb
  subst e
  exact bB st λo e c d=>⟨o,e,λv z=>by rw[d]at z;cases z⟩
 keep:=λi h h' st k=>st.at λo e=>k it (by simp) o e
 item:=by
  intro X hP hw hK hc i U s σ H E I hf st hg
  subst hP hw hK
  refine dU hg λxs x hq hx=>bB (I.tuple hq) λits rv p hz=>aa (rv.get hx) λu hu ru=>tK (hf it (by simp)) λf0 f1 f2 f3 f4 f5=>wpAny_pyNext_tuple_item st (show s.heap.IsTuple a its.toArray from p) (x:=u) (by simpa using hu) λh' ak sb=>?_
  have I1:Inv X U σ H {s with heap:=h'}:=I.turned (t':=s.toks) (λb o hb e=>(sb.2 b hb).trans e) f0 f1 f3 f4 f5
  exact bB (id ak) λo e c d=>⟨u,rfl,nX (s:={s with heap:=h'}) e c d (by decide) ⟨x,H,I1,ru,⟨rfl,λys hy=>by rw[I.jG hy hq];exact hx⟩,ak,λb hb=>(hf b hb).1⟩⟩
 done:=by
  intro X hP hw hK hc i U s σ H E I hf st hg
  subst hP hw hK
  refine aa hg λxs hq hx=>bB (I.tuple hq) λits rv p hz=>tK (hf it (by simp)) λf0 f1 f2 f3 f4 f5=>?_
  have hl:=rv.length
  exact wpAny_pyNext_tuple_end (I.ok.hd hc) st (show s.heap.IsTuple a its.toArray from p) (by simp;exact Zw (ZF (aaa hl)) hx) λh' eb=>⟨rfl,I.turned (t':=s.toks) (λb o hb e=>eb b o hb e) f0 f1 f3 f4 f5⟩
 self:=λ_ _ _ _ _ st h=>wpAny_pyIter_tupleiter st h
def tY{P:Program}{w:World}{K:aC}{tg:Expr}(it:Addr)(lo:Int)(n:Nat):pN P w K tg (Pn lo n) [it] it (λi h=>IsRangeIter h it (lo+(i:Nat)*1) ((n:Int)-(i:Nat)) 1) where
 mem:=by simp
 obj:=λi h st b hb=>by
  have e:b=it:=by simpa using hb
  subst e
  exact⟨_,st,λv z=>by
   have z':Data.fields _=Data.cell v:=z
   cases z'⟩
 keep:=λi h h' st k=>k it (by simp) _ st
 item:=by
  intro X hP hw hK hc i U s σ H E I hf st hg
  subst hP hw hK
  refine tK (hf it (by simp)) λf0 f1 f2 f3 f4 f5=>?_
  have W:=Walks.range (prog:=X.prog) (w:=X.w) (I.ok.hd hc) it lo 1 n
  refine W.item i s _ _ hg st λv h' tk hv ak kk=>?_
  obtain⟨t,rfl⟩:=hv
  have I1:Inv X U σ H {s with heap:=h',toks:=tk}:=I.turned (λb o hb e=>kk b o (by simpa using hb) e) f0 f1 f3 f4 f5
  refine⟨_,rfl,nX (s:={s with heap:=h',toks:=tk}) (n:="range_iterator") ak rfl rfl (by decide) ⟨.int (lo+i),H,I1,⟨t,?_⟩,⟨rfl,rfl⟩,ak,λb hb=>(hf b hb).1⟩⟩
  rw[Int.mul_one]
 done:=by
  intro X hP hw hK hc i U s σ H E I hf st hg
  subst hP hw hK
  exact tK (hf it (by simp)) λf0 f1 f2 f3 f4 f5=>wpAny_pyNext_range_end (I.ok.hd hc) st (by have:n<=i:=hg;lia) λh' eb=>⟨rfl,I.turned (t':=s.toks) (λb o hb e=>eb b o hb e) f0 f1 f3 f4 f5⟩
 self:=λ_ _ _ _ _ st h=>wpAny_pyIter_rangeiter st h
section
variable {X:Cx}{tg:Expr}
def zo{U:List (Addr×Obj)}{σ:St}{H:Hp}{s:Shared}{R:It->Hp->Prop}{E:Value->Shared->Prop}{lo hi:Int}{t u v:Tok}{tk:Nat}(I:Inv X U σ H s)(h1: -(2 ^ 62)<=lo)(h2:lo<2 ^ 62)(h3: -(2 ^ 62)<=hi)(h4:hi<2 ^ 62)
  (q:R (Pn lo (hi-lo).toNat) H):wpAny (model X.prog X.w) X.A (pyIter (.ref s.heap.objs.size)) (UL X U σ tg R) E {s with heap:=s.heap.push {cls:= .type "range",data:= .fields #[.int lo t,.int hi u,.int 1 v]},toks:=tk}:=by
 refine wpAny_pyIter_range (IsRange.new ..) (small_one h1 h2 h3 h4) ?_
 have I1:Inv X U σ H {s with heap:=s.heap.push {cls:= .type "range",data:= .fields #[.int lo t,.int hi u,.int 1 v]},toks:=tk}:=I.kept λb o e=>Zv _ e
 refine⟨(s.heap.push {cls:= .type "range",data:= .fields #[.int lo t,.int hi u,.int 1 v]}).objs.size,[(s.heap.push {cls:= .type "range",data:= .fields #[.int lo t,.int hi u,.int 1 v]}).objs.size],_,_,H,rfl,
  I1.kept (t':=tk) λb o e=>Zv _ e,tY _ lo (hi-lo).toNat,?_,λb hb=>?_,q⟩
 .have e1:lo+((0:Nat):Int)*1=lo:=by simp
  have e2:(((hi-lo).toNat :Nat):Int)-((0:Nat):Int)=Builtin.Range.rangeSize lo hi 1:=by rw[rangeSize_one];split<;>lia
  show IsRangeIter _ _ (lo+((0:Nat):Int)*1) ((((hi-lo).toNat :Nat):Int)-((0:Nat):Int)) 1
  rw[e1,e2]
  exact ZN _ rfl
 .have e:b=(s.heap.push {cls:= .type "range",data:= .fields #[.int lo t,.int hi u,.int 1 v]}).objs.size :=by simpa using hb
  subst e
  exact I1.tW (ZG _) (I1.aI.fresh (ZG _))
def L9(ta:TA):TI:=λσ H R=>ta σ H λvs H1=>∃j:Int,vs=[.int j]/\ -(2 ^ 62)<=j/\j<2 ^ 62/\R (Pn 0 j.toNat) H1
def xg{a:Expr}{ta:TA}{p pos:Pos}(hg:Gl X "range")(hm:X.mg "range"=none)(ha:PA X [a] ta)(hs:starEach [a] X.env=[(false,eval a X.env)]:=by rfl):PI X tg (.Call (.Name "range" p) [a] [] pos) (L9 ta):=by
 intro U s σ H R I h
 refine Call_ (ij I hg hm boot_range (abo (aU (ha pos U s σ H _ I h) λus s1 zz=>bu zz λvs H1 I1 r1 q1=>?_) hs rfl))
 obtain⟨j,e,q1,q2,q⟩:=q1
 subst e
 cases r1 with
 |cons r rr=>
  cases rr
  obtain⟨t,rfl⟩:=r
  exact call_range_1 (zo I1 (by decide) (by decide) q1 q2 (by simpa using q))
def Q_(wi:TI)(g:TG)(tb:TS):TS:=λD σ H=>wi σ H λJ H1=>∃W:Nat->Nat->St->Hp->Prop,(∃m,W 0 m σ H1)/\∀i m σ H,W i m σ H->
 (J.stop i H/\D.nx σ H)\/(J.go i H/\∃N:St->Hp->Prop,(∀bO H',N bO H'->∃m',m'<m/\W (i+1) m' bO H')/\∀x H',J.zl i H x H'->g x σ H' λyO H2=>tb {D with nx:=N,ct:=N,bk:=D.nx} yO H2)
noncomputable def lL(fp:List Addr)(h:Heap):List (Addr×Obj):=fp.filterMap λb=>(h.get? b).map λo=>(b,o)
def fm(hb:b∈fp)(e:h.get? b=some o):(b,o)∈lL fp h:=afw.mpr ⟨b,hb,by rw[e];rfl⟩
def xj(hp:p∈lL fp h):p.1∈fp/\h.get? p.1=some p.2:=by
 refine aa (afw.mp hp) λb hb e=>?_
 cases q:h.get? b with
 |none=>rw[q]at e;cases e
 |some o=>
  rw[q]at e
  have e':(b,o)=p:=ZY e
  subst e'
  exact⟨hb,q⟩
def Inv.pinned(I:Inv X U σ H s)(hf:∀b∈fp,kI X U H b)(ho:∀b∈fp,∃o,s.heap.get? b=some o/\∀v,o.data≠ .cell v):Inv X (U++lL fp s.heap) σ H s:=
 I.uV λp hp=>(ZZ.mp hp).elim (λz=>I.pin p (ZV _ z)) λz=>by
  refine au λnO=>?_
  obtain⟨hb,e⟩:=xj z
  refine yL (hf p.1 hb) λf0 f1 f2 _=>aa (ho p.1 hb) λo e' d=>nO ?_
  rw[e]at e';cases e'
  exact⟨e,f0,f1,f2,d⟩
def Inv.iH(I:Inv X (U++pl) σ H s):Inv X U σ H s:=I.uV λp hp=>I.pin p (ZV _ (Z7 _ hp))
def HC(hp:PassesOwn (model X.prog X.w) X.A X.env X.xe)(hc:X.calm=true)(hi:PI X tg iter wi)(hg:PG X tg g)(hb:jF X body tb)
  (hs:∀x,foldedSetIterable iter X.env x=pure x:=by intro _;rfl):PS X (.For tg iter body [] pos) (Q_ wi g tb):=by
 intro U s σ H D I h
 refine wpAny_For (aU (hi U s σ H _ I h) λv s1 h1=>aU h1 λPl s2 h2=>?_) hs
 refine au λnO=>?_
 obtain⟨it,fp,tn,J,H2,e,I2,T,cu,f2,W,⟨m0,w0⟩,turn⟩:=h2
 subst e
 refine nO ?_
 have tZ:∀{H':Hp},(∀b∈fp,H' b=none)->∀b∈fp,kI X U H' b:=λhn b hb=>⟨hn b hb,(f2 b hb).2⟩
 refine codeAny_forLoop_any (λn s'=>∃i bO H',Inv X U bO H' s'/\tn i s'.heap/\(∀b∈fp,H' b=none)/\W i n bO H') ?_ m0 ⟨0,σ,H2,I2,cu,λb hb=>(f2 b hb).1,w0⟩
 rintro n s3 ⟨i,xa,H3,I3,kJ,UM,w3⟩
 rcases turn i n xa H3 w3 with⟨stop,qn⟩|⟨go,N,hN,step⟩
 .refine abW hp (aU (T.done X rfl rfl rfl hc i U s3 xa H3 X.xe I3 (tZ UM) kJ stop) λr s4 zz=>?_)
  obtain⟨hr,I4⟩:=zz
  subst hr
  exact adF ⟨xa,H3,I4,qn⟩
 .refine abW hp (aU (T.item X rfl rfl rfl hc i U s3 xa H3 X.xe I3 (tZ UM) kJ go) λr s4 zz=>?_)
  refine au λnO=>aa zz λu hr h4=>?_
  subst hr
  refine nO ?_
  refine abW hp (aU h4 λ_ s5 zz=>?_)
  refine au λnO=>iE zz λx H5 I5 r5 y5 xl Po=>nO ?_
  have Wq:=I5.pinned (tZ Po) (T.obj _ _ xl)
  refine abW hp (aU (hg _ s5 xa H5 x u _ Wq r5 (step x H5 y5)) λ_ s6 zz=>?_)
  refine au λnO=>dU zz λWr H6 I6 q6=>nO ?_
  refine abW hp (aU (hb _ s6 Wr H6 _ I6 q6) λf s7 q7=>?_)
  have again:∀{zp:St}{H7:Hp},Inv X (U++lL fp s5.heap) zp H7 s7->N zp H7->∃m,m<n/\∃i bO H',Inv X U bO H' s7/\tn i s7.heap/\(∀b∈fp,H' b=none)/\W i m bO H':=λ{zp H7} I7 n7=>by
   refine aa (hN zp H7 n7) λm' hm w7=>⟨m',hm,i+1,zp,H7,I7.iH,T.keep _ _ _ xl λb hb o e=>(I7.pin (b,o) (ZV _ (ZV _ (fm hb e)))).1,λb hb=>?_,w7⟩
   exact aa (T.obj _ _ xl b hb) λo e d=>(I7.pin (b,o) (ZV _ (ZV _ (fm hb e)))).2.1
  cases f with
  |next=>obtain⟨zp,H7,I7,n7⟩:=q7;exact again I7 n7
  |cont=>obtain⟨zp,H7,I7,n7⟩:=q7;exact again I7 n7
  |brk=>obtain⟨zp,H7,I7,q7⟩:=q7;exact⟨zp,H7,I7.iH,q7⟩
  |ret v=>obtain⟨x7,zp,H7,I7,r7,q7⟩:=q7;exact⟨x7,zp,H7,I7.iH,r7,q7⟩
end
abbrev R2:=V->V->Hp->VK->Prop
def gX(X:Cx)(f:Value->Value->Sem Value)(r:R2):Prop:=
 ∀(U:List (Addr×Obj)) (s:Shared) (σ:St) (H:Hp) (x y:V) (v u:Value) (Q:VK),Inv X U σ H s->RelV x v->RelV y u->r x y H Q->
  wpAny (model X.prog X.w) X.A (f v u) (EP X U σ Q) X.xe s
def Ra(X:Cx)(f:Value->Sem Value)(r:V->Hp->VK->Prop):Prop:=
 ∀(U:List (Addr×Obj)) (s:Shared) (σ:St) (H:Hp) (x:V) (v:Value) (Q:VK),Inv X U σ H s->RelV x v->r x H Q->
  wpAny (model X.prog X.w) X.A (f v) (EP X U σ Q) X.xe s
def cA(X:Cx)(f:Value)(r:List V->Hp->VK->Prop):Prop:=
 ∀(U:List (Addr×Obj)) (s:Shared) (σ:St) (H:Hp) (xs:List V) (us:List Value) (Q:VK),Inv X U σ H s->aE xs us->r xs H Q->
  wpAny (model X.prog X.w) X.A (call f us) (EP X U σ Q) X.xe s
def Rb(X:Cx)(r:V->Hp->(Bool->Hp->Prop)->Prop):Prop:=
 ∀(U:List (Addr×Obj)) (s:Shared) (σ:St) (H:Hp) (x:V) (v:Value) (Q:Bool->Hp->Prop),Inv X U σ H s->RelV x v->r x H Q->
  wpAny (model X.prog X.w) X.A (truthy v) (TP X U σ Q) X.xe s
def F4(r:R2)(ta tb:TE):TE:=λσ H Q=>ta σ H λx H1=>tb σ H1 λy H2=>r x y H2 Q
def Ws(r:V->Hp->VK->Prop)(ta:TE):TE:=λσ H Q=>ta σ H λx H1=>r x H1 Q
def rI(C:Int->Int->Prop)(g:Int->Int->V):R2:=λx y H Q=>∃i j,x= .int i/\y= .int j/\C i j/\Q (g i j) H
def HD(g:Int->Int->V):R2:=λx y H Q=>∃i j,x= .int i/\y= .int j/\Q (g i j) H
def rU(g:Int->V):V->Hp->VK->Prop:=λx H Q=>∃i,x= .int i/\Q (g i) H
section
variable {X:Cx}{a b c:Expr}{ta tb tc:TE}{pos:Pos}
def HE(ha:PE X a ta)(hb:PE X b tb){U:List (Addr×Obj)}{s:Shared}{σ:St}{H:Hp}{R:V->V->Hp->Prop}(I:Inv X U σ H s)
  (h:ta σ H λx H1=>tb σ H1 λy H2=>R x y H2) {Q:Value->Shared->Prop}{f:Value->Value->Sem Value}
  (hf:∀v u s2 x y H2,Inv X U σ H2 s2->RelV x v->RelV y u->R x y H2->wpAny (model X.prog X.w) X.A (f v u) Q X.xe s2):
  wpAny (model X.prog X.w) X.A (eval a X.env) (λv aX=>wpAny (model X.prog X.w) X.A (eval b X.env) (λu lK=>wpAny (model X.prog X.w) X.A (f v u) Q X.xe lK) X.xe aX) X.xe s:=by
 exact aU (ha U s σ H _ I h) λv s1 zz=>bu zz λx H1 I1 r1 q1=>aU (hb U s1 σ H1 _ I1 q1) λu s2 zz=>bu zz λy H2 I2 r2 q2=>hf v u s2 x y H2 I2 r1 r2 q2
def qY{op:Operator}{r:R2}(ho:gX X (binaryOp op) r)(ha:PE X a ta)(hb:PE X b tb):PE X (.BinOp a op b pos) (F4 r ta tb):=by
 intro U s σ H Q I h
 exact wpAny_BinOp (HE ha hb I h λv u s2 x y H2 I2 rx ry q=>ho U s2 σ H2 x y v u Q I2 rx ry q)
def F5(ho:Ra X (unaryOp op) r)(ha:PE X a ta):PE X (.UnaryOp op a pos) (Ws r ta):=by
 intro U s σ H Q I h
 exact UnaryOp_ (aU (ha U s σ H _ I h) λv s1 zz=>bu zz λx H1 I1 r1 q1=>ho U s1 σ H1 x v Q I1 r1 q1)
def Rc{f:Value->Value->Sem Value}{C:Int->Int->Prop}{g:Int->Int->Int}
  (rule:∀(i j:Int) (t u:Tok) (s:Shared) (Q:Value->Shared->Prop) (E:Value->Shared->Prop),C i j->Q (.int (g i j) s.toks) {s with toks:=s.toks+1}->wpAny (model X.prog X.w) X.A (f (.int i t) (.int j u)) Q E s):
  gX X f (rI C λi j=> .int (g i j)):=by
 intro U s σ H x y v u Q I rx ry h
 refine iD h λi j ah aM hc q=>?_
 try clear h
 subst ah
 subst aM
 obtain⟨t,rfl⟩:=rx
 obtain⟨t',rfl⟩:=ry
 exact rule i j t t' s _ _ hc ⟨.int (g i j),H,I.tok _,⟨_,rfl⟩,q⟩
def Rf{f:Value->Value->Sem Value}{g:Int->Int->Int}
  (rule:∀(i j:Int) (t u:Tok) (s:Shared) (Q:Value->Shared->Prop) (E:Value->Shared->Prop),Q (.int (g i j) s.toks) {s with toks:=s.toks+1}->wpAny (model X.prog X.w) X.A (f (.int i t) (.int j u)) Q E s):
  gX X f (HD λi j=> .int (g i j)):=by
 intro U s σ H x y v u Q I rx ry h
 refine bu h λi j ah aM q=>?_
 try clear h
 subst ah
 subst aM
 obtain⟨t,rfl⟩:=rx
 obtain⟨t',rfl⟩:=ry
 exact rule i j t t' s _ _ ⟨.int (g i j),H,I.tok _,⟨_,rfl⟩,q⟩
def HF{f:Value->Value->Sem Value}{g:Int->Int->Bool}
  (rule:∀(i j:Int) (t u:Tok) (s:Shared) (Q:Value->Shared->Prop) (E:Value->Shared->Prop),Q (.bool (g i j)) s->wpAny (model X.prog X.w) X.A (f (.int i t) (.int j u)) Q E s):
  gX X f (HD λi j=> .bl (g i j)):=by
 intro U s σ H x y v u Q I rx ry h
 refine bu h λi j ah aM q=>?_
 try clear h
 subst ah
 subst aM
 obtain⟨t,rfl⟩:=rx
 obtain⟨t',rfl⟩:=ry
 exact rule i j t t' s _ _ ⟨.bl (g i j),H,I,rfl,q⟩
def Rh(i j:Int):Prop:=0<j/\j<1073741824
def CW(i j:Int):Prop:=(-(2 ^ 64)<i/\i<2 ^ 64)\/(-(2 ^ 64)<j/\j<2 ^ 64)
def CW.ok(h:CW i j):IntMulOk i j:=by
 rcases h with⟨h1,h2⟩|⟨h1,h2⟩
 .exact .of_left (intBits_le_64 h1 h2)
 .exact .of_right (intBits_le_64 h1 h2)
def HG:gX X (binaryOp .Add) (HD λi j=> .int (i+j)):=Rf λ_ _ _ _ _ _ _ q=>add_int q
def HH:gX X (binaryOp .Mult) (rI CW λi j=> .int (i*j)):=Rc λ_ _ _ _ _ _ _ hc q=>mul_int q hc.ok
def CY:gX X (binaryOp .FloorDiv) (rI Rh λi j=> .int (i/j)):=Rc λi j _ _ _ _ _ hc q=>by
 have h1:(0:Int)<j:=hc.1
 have h2:j<1073741824:=hc.2
 exact floordiv_int (ado h1) (by rw[Int.fdiv_eq_ediv_of_nonneg i (acQ h1)];exact q) (.inl (PyProof.noPylong_small (by lia)))
def HK:gX X (binaryOp .Mod) (rI (λ_ j=>0<j) λi j=> .int (i%j)):=Rc λi j _ _ _ _ _ hc q=>by
 have h1:(0:Int)<j:=hc
 exact mod_int' (ado hc) (by rw[Int.fmod_eq_emod_of_nonneg i (acQ hc)];exact q)
def Wt{f:Value->Sem Value}{g:Int->Int}
  (rule:∀(i:Int) (t:Tok) (s:Shared) (Q:Value->Shared->Prop) (E:Value->Shared->Prop),Q (.int (g i) s.toks) {s with toks:=s.toks+1}->wpAny (model X.prog X.w) X.A (f (.int i t)) Q E s):
  Ra X f (rU λi=> .int (g i)):=by
 intro U s σ H x v Q I rx h
 refine aa h λi ah q=>?_
 try clear h
 subst ah
 obtain⟨t,rfl⟩:=rx
 exact rule i t s _ _ ⟨.int (g i),H,I.tok _,⟨_,rfl⟩,q⟩
def zq:Ra X (unaryOp .USub) (rU λi=> .int (-i)):=Wt λ_ _ _ _ _ q=>neg_int q
def HL(I:Inv X U σ H s)(q:Q (.bl k) H)(e:k=k'):EP X U σ Q (.bool k') s:=by
 subst e
 exact⟨.bl k,H,I,rfl,q⟩
def L_:gX X (compareOp .Lt) (HD λi j=> .bl (decide (i<j))):=HF λ_ _ _ _ _ _ _ q=>lt_int q
def L':gX X (compareOp .LtE) (HD λi j=> .bl (decide (i<=j))):=HF λ_ _ _ _ _ _ _ q=>le_int q
def Ma:gX X (compareOp .Gt) (HD λi j=> .bl (decide (j<i))):=HF λ_ _ _ _ _ _ _ q=>gt_int q
def HM:gX X (compareOp .Is) (λx y H Q=>y= .bX /\Q (.bl (decide (x= .bX))) H):=by
 intro U s σ H x y v u Q I rx ry h
 obtain⟨rfl,q⟩:=h
 cases ry
 refine is_none_gen (HL I q ?_)
 cases x<;>first
  |(cases rx;rfl)
  |(obtain⟨t,rfl⟩:=rx;rfl)
def gX.or(h:gX X f r)(h':gX X f r'):gX X f (λx y H Q=>r x y H Q\/r' x y H Q):=by
 intro U s σ H x y v u Q I rx ry q
 rcases q with q|q
 .exact h U s σ H x y v u Q I rx ry q
 .exact h' U s σ H x y v u Q I rx ry q
def CZ{op:CmpOp}{r:R2}(ho:gX X (compareOp op) r)(ha:PE X a ta)(hb:PE X b tb)(hm:behindInMarks op b=false):PE X (.Compare a [op] [b] pos) (F4 r ta tb):=by
 intro U s σ H Q I h
 exact wpAny_Compare1 (HE ha hb I h λv u s2 x y H2 I2 rx ry q=>ho U s2 σ H2 x y v u Q I2 rx ry q) hm
def F6(t:TE):TT:=λσ H Q=>t σ H λx H'=>∃k,x= .bl k/\Q k H'
def C0(ho:gX X (compareOp op) r)(ha:PE X a ta)(hb:PE X b tb)(hm:behindInMarks op b=false):PT X (.Compare a [op] [b] pos) (F6 (F4 r ta tb)):=by
 intro U s σ H Q I h
 refine wpAny_isTrue_Compare1 (aU (ha U s σ H _ I h) λv s1 ⟨x,H1,I1,r1,q1⟩=>aU (hb U s1 σ H1 _ I1 q1) λu s2 ⟨y,H2,I2,r2,q2⟩=>
  aU (ho U s2 σ H2 x y v u _ I2 r1 r2 q2) λc s3 ⟨z,H3,I3,r3,k,e,q3⟩=>?_) hm
 subst e
 cases r3
 exact aaS ⟨H3,I3,q3⟩
def zu(r r':R2)(ta tb tc:TE):TE:=λσ H Q=>ta σ H λx H1=>tb σ H1 λy H2=>r x y H2 λz H3=>∃k,z= .bl k/\
 (if k=true then tc σ H3 λw' H4=>r' y w' H4 Q else Q (.bl false) H3)
def zw(ho:gX X (compareOp op) r)(lH:gX X (compareOp tL) r')(ha:PE X a ta)(hb:PE X b tb)(hc:PE X c tc)
  (hm:lastMarks [op,tL] [b,c]=false:=by with_unfolding_all rfl):PE X (.Compare a [op,tL] [b,c] pos) (zu r r' ta tb tc):=by
 intro U s σ H Q I h
 refine Compare_chain (aU (ha U s σ H _ I h) λv s1 ⟨x,H1,I1,r1,q1⟩=>chain_link (aU (hb U s1 σ H1 _ I1 q1) λu s2 ⟨y,H2,I2,r2,q2⟩=>
  aU (ho U s2 σ H2 x y v u _ I2 r1 r2 q2) λd s3 ⟨z,H3,I3,r3,k,e,q3⟩=>?_)) hm
 subst e
 cases r3
 refine aaS ?_
 cases k with
 |false=>exact ite_ff ⟨.bl false,H3,I3,rfl,q3⟩
 |true=>exact ite_tt (chain_last (aU (hc U s3 σ H3 _ I3 q3) λw' s4 ⟨z',H4,I4,r4,q4⟩=>lH U s4 σ H4 y z' u w' Q I4 r2 r4 q4))
def zx(ho:gX X (compareOp op) r)(lH:gX X (compareOp tL) r')(ha:PE X a ta)(hb:PE X b tb)(hc:PE X c tc)
  (hm:lastMarks [op,tL] [b,c]=false:=by with_unfolding_all rfl):PT X (.Compare a [op,tL] [b,c] pos) (F6 (zu r r' ta tb tc)):=by
 intro U s σ H Q I h
 refine isTrue_chain (aU (ha U s σ H _ I h) λv s1 ⟨x,H1,I1,r1,q1⟩=>test_link (aU (hb U s1 σ H1 _ I1 q1) λu s2 ⟨y,H2,I2,r2,q2⟩=>
  aU (ho U s2 σ H2 x y v u _ I2 r1 r2 q2) λd s3 ⟨z,H3,I3,r3,k,e,q3⟩=>?_)) hm
 subst e
 cases r3
 refine aaS ?_
 cases k with
 |false=>
  refine au λnO=>aa q3 λk' e' q'=>?_
  cases e'
  exact nO<|ite_ff ⟨H3,I3,q'⟩
 |true=>
  refine ite_tt (test_last (aU (hc U s3 σ H3 _ I3 q3) λw' s4 ⟨z',H4,I4,r4,q4⟩=>aU (lH U s4 σ H4 y z' u w' _ I4 r2 r4 q4) λd' s5 zz=>?_))
  refine au λnO=>?_
  obtain⟨z2,H5,I5,r5,k2,e2,q5⟩:=zz
  subst e2
  cases r5
  exact nO<|aaS ⟨H5,I5,q5⟩
def HN(K:aC)(x:V)(H:Hp)(k:Bool):Prop:=
 match x with
 | .bX =>k=false
 | .bl b=>k=b
 | .int i=>k=(i !=0)
 | .str y=>y.length<=sizeLine/\k=((y.length:Int) !=0)
 | .LJ y=>y.size<=sizeLine/\k=((y.size:Int) !=0)
 | .ref p=>(∃xs,du K H p xs/\k=!xs.isEmpty)\/(∃xs,cC K H p xs/\k=!xs.isEmpty)\/∃az,H p=some (.dK az)/\k=!az.isEmpty
 |_=>False
def t8(r:KV az vs):(!vs.isEmpty)=!az.isEmpty:=by
 cases r<;>rfl
def lM(r:aE xs its):(!its.toArray.isEmpty)=!xs.isEmpty:=by
 cases r<;>simp
def lO:(sizeLine:Nat)<2 ^ 63:=by rw[sizeLine_eq];decide
def HP:Rb X (λx H Q=>∃k,HN X.K x H k/\Q k H):=by
 intro U s σ H x v Q I rx h
 obtain⟨k,e,q⟩:=h
 have hl:=lO
 have hs:sizeLine=16777216:=sizeLine_eq
 cases x with
 |bX=>
  cases rx
  have e':k=false:=e
  subst e'
  exact truthy_none ⟨H,I,q⟩
 |bl b=>
  cases rx
  have e':k=b:=e
  subst e'
  exact aaS ⟨H,I,q⟩
 |int i=>
  obtain⟨t,rfl⟩:=rx
  have e':k=(i !=0):=e
  subst e'
  exact PySem.P.truthy_int ⟨H,I,q⟩
 |str y=>
  obtain⟨t,rfl⟩:=rx
  obtain⟨hy,e'⟩:y.length<=sizeLine/\k=((y.length:Int) !=0):=e
  subst e'
  exact PySem.P.truthy_str (by lia) ⟨H,I.tok _,q⟩
 |LJ y=>
  obtain⟨t,rfl⟩:=rx
  obtain⟨hy,e'⟩:y.size<=sizeLine/\k=((y.size:Int) !=0):=e
  subst e'
  exact PySem.W.truthy_bytes (Zw hy (by decide)) ⟨H,I.tok _,q⟩
 |ref p=>
  cases rx
  have e':(∃xs,du X.K H p xs/\k=!xs.isEmpty)\/(∃xs,cC X.K H p xs/\k=!xs.isEmpty)\/∃az,H p=some (.dK az)/\k=!az.isEmpty:=e
  rcases e' with⟨xs,hx,e'⟩|⟨xs,hx,e'⟩|⟨az,hx,e'⟩
  .refine au λnO=>?_
   subst e'
   obtain⟨its,r,pl,hz⟩:=I.list hx
   refine nO ?_
   have aV:=r.length
   exact wpAny_truthy_list pl.isList (by simp only[ZI];lia) ⟨H,I.tok _,by rw[lM r];exact q⟩
  .refine au λnO=>?_
   subst e'
   obtain⟨its,r,pl,hz⟩:=I.tuple hx
   refine nO ?_
   have aV:=r.length
   exact truthy_tuple pl (by simp only[ZI];lia) ⟨H,I.tok _,by rw[lM r];exact q⟩
  .subst e'
   obtain⟨hz,hS,vs,r,m⟩:az.length<=sizeLine/\(p==sysModules)=false/\∃vs,KV az vs/\s.heap.DictOf (aS X.prog X.w) p vs:=I.aI p _ hx
   have aV:az.length=vs.length:=acV r
   exact wpAny_truthy_dict hS m (by lia) ⟨H,I.tok _,by rw[t8 r];exact q⟩
 |_=>exact(show False from e).elim
def qZ(ha:PE X a ta)(he:∀cz,isTrue a X.env cz=(do let v<-cz;standAt a.pos;holding [v] (truthy v))):
  PT X a (λσ H Q=>ta σ H λx H'=>∃k,HN X.K x H' k/\Q k H'):=by
 intro U s σ H Q I h
 exact isTrue_plain (aU (ha U s σ H _ I h) λv s1 zz=>bu zz λx H1 I1 r1 q1=>HP U s1 σ H1 x v Q I1 r1 q1) (he _)
def vals1(r:aE [x] us):∃u,us=[u]/\RelV x u:=by
 cases r with
 |cons r1 r2=>cases r2;exact⟨_,rfl,r1⟩
def vals2(r:aE [x,y] us):∃u w',us=[u,w']/\RelV x u/\RelV y w':=by
 cases r with
 |cons r1 r2=>
  cases r2 with
  |cons r3 r4=>cases r4;exact⟨_,_,rfl,r1,r3⟩
def xo(hc:X.calm=true):cA X (.builtin "min") (λxs H Q=>∃i j,xs=[.int i,.int j]/\Q (.int (if j<i then j else i)) H):=by
 intro U s σ H xs us Q I r h
 refine dU h λi j ah q=>?_
 try clear h
 subst ah
 obtain⟨u,w',rfl,⟨t,rfl⟩,⟨t',rfl⟩⟩:=vals2 r
 refine min_two_ints (I.ok.hd hc) λh' tk k=>⟨_,H,I.kept k,?_,q⟩
 by_cases hj:j<i
 .rw[ZM hj,ZM hj];exact⟨_,rfl⟩
 .rw[ZW hj,ZW hj];exact⟨_,rfl⟩
end
section
variable {prog:Program}{w:World}{A:Around}{E:Value->Shared->Prop}{s:Shared}{K:aC}{x dx C f:Addr}{mA:Str->Option Value}{name:Str}{v:Value}
end
noncomputable def HQ(f:Str)(v:V):List (Str×V)->List (Str×V)
 |[]=>[(f,v)]
 |(g,x)::r=>if g=f then(g,v)::r else(g,x)::HQ f v r
def kD.some_of(r:kD (some v) o):∃u,o=some u/\RelV v u:=by
 cases o with
 |none=>exact(show False from r).elim
 |some u=>exact⟨u,rfl,r⟩
section
variable {P:Program}{w:World}{H H':Hp}{h h':Heap}{a C dx:Addr}{fs Wn:List (Str×V)}{X:Cx}{U:List (Addr×Obj)}{σ:St}{s:Shared}{f:Str}{v:V}{A:Around}{E:Value->Shared->Prop}
end
section
variable {X:Cx}{o e value:Expr}{f:Str}{pos pos' tpos:Pos}{ta tv:TE}
def HR:V->V->Hp->VK->Prop:=λx y H Q=>∃i j,x= .int i/\y= .int j/\Q (.int (i+j)) H
end
section
variable {X:Cx}{U:List (Addr×Obj)}{σ:St}{H:Hp}{s:Shared}{A:Around}{E:Value->Shared->Prop}{Q:Value->Shared->Prop}{c:Value}{b:Bool}
end
structure dW(k:Nat)(A:Around):Prop where
 hd:A.handled=none
 dp:A.depth+3*k+5<recursionLimit
 un:A.units+16*k+200<cLine
def dW.mono(r:dW k A)(h:j<=k):dW j A:=⟨r.hd,by have:=r.dp;lia,by have:=r.un;lia⟩
theorem dW.deeper(r:dW (k+1) A)(env:Env):dW k (A.deeper env):=
 ⟨r.hd,by have:=r.dp;show A.depth+1+3*k+5<_;lia,by have:=r.un;show A.units+3+16*k+200<_;lia⟩
theorem dW.depth(r:dW k A):A.depth<recursionLimit:=by have:=r.dp;lia
theorem dW.units(r:dW k A):A.units+64<cLine:=by have:=r.un;lia
def lP:TA:=λ_ H Q=>Q [] H
def cB(ta:TE)(tr:TA):TA:=λσ H Q=>ta σ H λx H1=>tr σ H1 λxs H2=>Q (x::xs) H2
section
variable {X:Cx}{e:Expr}{es:List Expr}{te:TE}{t:TA}{pos:Pos}
def cf:PA X [] lP:=λ_ _ _ _ H Q I h=>Calls.spliced_nil ⟨[],H,I,.nil,h⟩
def aZ(ha:PE X e te)(hr:PA X es t)(hs:starEach (e::es) X.env=(false,eval e X.env)::starEach es X.env:=by rfl):PA X (e::es) (cB te t):=by
 intro pos U s σ H Q I h
 rw[hs]
 show wpAny _ _ (spliced ((false,eval e X.env)::backTo pos (starEach es X.env))) _ _ s
 refine adN (aU (ha U s σ H _ I h) λu s1 zz=>?_)
 exact bu zz λx H1 I1 r1 q1=>aU (hr pos U s1 σ H1 _ I1 q1) λus s2 zz=>bu zz λxs H2 I2 r2 q2=>⟨x::xs,H2,I2,.cons r1 r2,q2⟩
def Ri(t:TA):TE:=λσ H Q=>t σ H λxs H1=>xs.length<=sizeLine/\∀p,H1 p=none->Q (.ref p) (upd H1 p (.tup xs))
def Rj(t:TA):TE:=λσ H Q=>t σ H λxs H1=>xs.length<=sizeLine/\∀p,H1 p=none->Q (.ref p) (upd H1 p (.lst xs))
def HS(h:PA X es t):PE X (.Tuple es x1 pos) (Ri t):=by
 intro U s σ H Q I hq
 refine wpAny_Tuple_spliced (aU (h pos U s σ H _ I hq) λus s1 ⟨xs,H1,I1,r,z,q⟩=>⟨by rw[<-r.length];exact z,?_⟩)
 have hf:H1 s1.heap.objs.size=none:=I1.aI.fresh (ZG _)
 refine⟨.ref s1.heap.objs.size,upd H1 s1.heap.objs.size (.tup xs),I1.laid (t':=s1.toks) (λb u e=>Zv _ e) (ZG _) ?_,rfl,q _ hf⟩
 exact⟨z,us,r,ig.new _ _⟩
def zy(h:PA X es t):PE X (.List es pos) (Rj t):=by
 intro U s σ H Q I hq
 refine wpAny_List_spliced (aU (h pos U s σ H _ I hq) λus s1 ⟨xs,H1,I1,r,z,q⟩=>⟨by rw[<-r.length];exact z,?_⟩)
 have hf:H1 s1.heap.objs.size=none:=I1.aI.fresh (ZG _)
 refine⟨.ref s1.heap.objs.size,upd H1 s1.heap.objs.size (.lst xs),I1.laid (t':=s1.toks) (λb u e=>Zv _ e) (ZG _) ?_,rfl,q _ hf⟩
 exact⟨z,us,0,r,ZN _ rfl⟩
end
abbrev Sp:=List V->Hp->VK->XK->Prop
abbrev xt:=List Env->Hp->Shared->XK->Value->Shared->Prop
structure C5(P:Program)(w:World)(K:aC)(mg:Str->Option Value)(base:Heap)(A:Around)(outer:List Env)(s:Shared)(H:Hp):Prop where
 frames:A.frames=some outer
 mod:Mod K mg base
 bs:∀b o,base.get? b=some o->s.heap.get? b=some o/\H b=none
 CQ:base.objs.size<=s.heap.objs.size
 jD:s.heap.FunFrames base outer
 Hl:∀b∈gW outer,H b=none
 aI:fN P w H s.heap
 bare:AllBare s.gens
def CE(outer:List Env)(P:Program)(w:World)(H:Hp)(s:Shared)(Q:VK)(u:Value)(s':Shared):Prop:=
 ∃v H',s'.os=s.os/\AllBare s'.gens/\Un (gW outer) [] H H' s.heap s'.heap/\fN P w H' s'.heap/\RelV v u/\Q v H'
def CR(CX:xt)(outer:List Env)(P:Program)(w:World)(H:Hp)(s:Shared)(Q:VK)(E:XK)(r:Result)(s':Shared):Prop:=
 match r with
 | .ok (.ret u)=>CE outer P w H s Q u s'
 | .ok _=>False
 | .error e=>CX outer H s E e s'
structure fY(P:Program)(w:World)(K:aC)(mg:Str->Option Value)(base:Heap)(CX:xt)(k:Nat)(f:Addr)(fd:FuncData)(ps:List Str)(sp:Sp):Prop where
 len:∀vs H Q E,sp vs H Q E->vs.length=ps.length
 run:∀(A:Around) (outer:List Env) (s:Shared) (H:Hp) (args:Args) (us:List Value) (vs:List V) (Q:VK) (E:XK),dW k A->C5 P w K mg base A outer s H->BindsTo s fd args (ps.zip us)->aE vs us->sp vs H Q E->
  codeAny (model P w) A (.call (.ref f) args) (CR CX outer P w H s Q E) s
section
variable {X:Cx}{U:List (Addr×Obj)}{σ:St}{H:Hp}{s s':Shared}
def Inv.Mb(I:Inv X U σ H s):C5 X.prog X.w X.K X.mg X.base X.A X.stack s H:=
 ⟨I.ok.frames,I.ok.mod,I.bs,Zw I.ok.CQ I.sz,I.stack,I.kX,I.aI,I.bare⟩
def Inv.after(I:Inv X U σ H s)(h:CE X.stack X.prog X.w H s Q u s'):EP X U σ Q u s':=by
 refine Qz h λv H' os bare un aI r q=>?_
 obtain⟨hh,g,d,t,Wu⟩:=s'
 obtain rfl:Wu=s.os:=os
 exact⟨v,H',I.call (h':=hh) (g':=g) (d':=d) (t':=t) (ch:=[]) un aI bare (λb z=>absurd z (by simp)),r,q⟩
end
def Mc(sp:Sp)(F7:List V)(E:XK)(t:TA):TE:=λσ H Q=>t σ H λvs H1=>sp (vs++F7) H1 Q E
def Binds(K:aC)(fd:FuncData)(ps:List Str)(ds:List Value):Prop:=
 ∀(s:Shared) (us:List Value),K.In s.heap->(us++ds).length =ps.length->BindsTo s fd ⟨us,[]⟩ (ps.zip (us++ds))
def Binds.all{K:aC}{fd:FuncData}{ps:List Str}(h:∀us:List Value,us.length=ps.length->bindArgs fd ⟨us,[]⟩=pure (ps.zip us)):Binds K fd ps []:=λs us _ hl=>by
 rw[aaK]at hl⊢
 exact .of_eq (h us hl)
def t9(CX:xt)(X:Cx)(E:XK):Prop:=∀(U:List (Addr×Obj)) (σ:St) (H:Hp) (s:Shared) (e:Value) (s':Shared),Inv X U σ H s->CX X.stack H s E e s'->X.xe e s'
section
variable {X:Cx}{CX:xt}{k:Nat}{f C:Addr}{fd:FuncData}{ps:List Str}{sp:Sp}{F7:List V}{ds:List Value}{E:XK}{x m:Str}{p pos iI:Pos}{e o:Expr}{es:List Expr}{ta:TE}{t:TA}{ks:List Str}{Wv:Pos}{qO:List Keyword}{te:TE}{tk:TA}{nm:Option Str}{g:List Value->List Value->List Value}{gV:List V->List V->List V}
def zA(F:fY X.prog X.w X.K X.mg X.base CX k f fd ps sp)(hr:dW k X.A)(hb:Binds X.K fd ps ds)(hd:aE F7 ds)(hx:t9 CX X E)
  (I:Inv X U σ H s) (r:aE vs us) (h:sp (vs++F7) H Q E):wpAny (model X.prog X.w) X.A (call (.ref f) us) (EP X U σ Q) X.xe s:=by
 have r2:aE (vs++F7) (us++ds):=r.append hd
 have hl:(us++ds).length =ps.length:=by rw[<-r2.length];exact F.len _ _ _ _ h
 refine wpAny_call (adO (F.run X.A X.stack s H ⟨us,[]⟩ (us++ds) (vs++F7) Q E hr I.Mb (hb s us I.yN hl) r2 h) λr s' hq=>?_)
 cases r with
 |error e=>exact hx U σ H s e s' I hq
 |ok fl=>
  cases fl with
  |ret u=>exact I.after hq
  |next=>exact False.elim hq
  |brk=>exact False.elim hq
  |cont=>exact False.elim hq
def u7(F:fY X.prog X.w X.K X.mg X.base CX k f fd ps sp)(hr:dW k X.A)(hg:Gl X x)(hm:X.mg x=some (.ref f))(hk:PySem.W.keepIn X.K (.ref f)=true)(hb:Binds X.K fd ps ds)(hd:aE F7 ds)(hx:t9 CX X E)
  (ha:PA X (e::es) t) (tM:(x==("__debug__":Str))=false:=by decide) (he:starEach (e::es) X.env=(false,eval e X.env)::starEach es X.env:=by rfl) (iJ:(backTo pos (starEach es X.env)).any (·.1)=false:=by rfl):
  PE X (.Call (.Name x p) (e::es) [] pos) (Mc sp F7 E t):=by
 intro U s σ H Q I h
 refine acv (iG I hg hm ?_ tM)
 refine adP (h₀:=X.base) I.ok.mod.LN hk (aU (ha pos U s σ H _ I h) λus s1 zz=>bu zz λvs H1 I1 r q=>⟨I1.yN,?_⟩) he iJ
 exact zA F hr hb hd hx I1 r q
end
structure c_(N P:List Str)(sc:Scope):Prop where
 kind:sc.kind= .function
 co:sc.isCoroutine=false
 gen:sc.isGenerator=false
 nd:N.Nodup
 pre:N.take P.length=P
 par:∀x∈P,sc.names.lookup x=some .local \/sc.names.lookup x=some .cell
 HU:∀y∈sc.names,y.2≠ .free
theorem nY{kindOf:Str->Option NameKind}{x:Str}:∀{binds:List (Str×Value)}{m:Str->Option Value},(∀v,(x,v)∉binds)->bindL kindOf binds m x=m x
 |[],_,_=>rfl
 |(n,v)::r,m,h=>by
  unfold bindL
  rw[nY λw hw=>h w (Zy _ hw)]
  split
  .have:x≠n:=by rintro rfl;exact h v ZD
   simp[this]
  .rfl
theorem nZ{kindOf:Str->Option NameKind}{x:Str}:∀{binds:List (Str×Value)}{m:Str->Option Value},(∀v,(x,v)∉binds)->bindC kindOf binds m x=m x
 |[],_,_=>rfl
 |(n,v)::r,m,h=>by
  unfold bindC
  rw[nZ λw hw=>h w (Zy _ hw)]
  split
  .rfl
  .have:x≠n:=by rintro rfl;exact h v ZD
   simp[this]
theorem n6{kindOf:Str->Option NameKind}{x:Str}{v:Value}:∀{P:List Str}{vs:List Value}{i:Nat}{m:Str->Option Value},P.Nodup->P[i]?=some x->vs[i]?=some v->kindOf x=some .local ->
  bindL kindOf (P.zip vs) m x=some v
 |[],_,_,_,_,h,_,_=>by simp at h
 |_::_,[],_,_,_,_,h,_=>by simp at h
 |p::P,w::vs,0,m,nd,h1,h2,hk=>by
  simp at h1 h2;subst h1;subst h2
  show bindL kindOf ((p,w)::P.zip vs) m p=_
  unfold bindL
  rw[nY λv hv=>(aaf.mp nd).1 (adG hv).1,ZM hk]
  simp
 |p::P,w::vs,i+1,m,nd,h1,h2,hk=>by
  show bindL kindOf ((p,w)::P.zip vs) m x=_
  unfold bindL
  exact n6 (i:=i) (aaf.mp nd).2 (by simpa using h1) (by simpa using h2) hk
theorem n8{kindOf:Str->Option NameKind}{x:Str}{v:Value}:∀{P:List Str}{vs:List Value}{i:Nat}{m:Str->Option Value},P.Nodup->P[i]?=some x->vs[i]?=some v->kindOf x≠some .local ->
  bindC kindOf (P.zip vs) m x=some v
 |[],_,_,_,_,h,_,_=>by simp at h
 |_::_,[],_,_,_,_,h,_=>by simp at h
 |p::P,w::vs,0,m,nd,h1,h2,hk=>by
  simp at h1 h2;subst h1;subst h2
  show bindC kindOf ((p,w)::P.zip vs) m p=_
  unfold bindC
  rw[nZ λv hv=>(aaf.mp nd).1 (adG hv).1,ZW hk]
  simp
 |p::P,w::vs,i+1,m,nd,h1,h2,hk=>by
  show bindC kindOf ((p,w)::P.zip vs) m x=_
  unfold bindC
  exact n8 (i:=i) (aaf.mp nd).2 (by simpa using h1) (by simpa using h2) hk
noncomputable def start(N:List Str)(vs:List V):St:=vs.map some++List.replicate (N.length-vs.length) none
noncomputable def gN(CX:xt)(P:Program)(w:World)(K:aC)(mg:Str->Option Value)(base:Heap)(N:List Str)(qual:Str)(scope:Scope)(f:Addr)(cd:Value)(A:Around)(outer:List Env)(s:Shared)(H:Hp)(E:XK):Cx where
 prog:=P
 w:=w
 K:=K
 mg:=mg
 base:=base
 A:=A.deeper (envOfC qual scope s.heap.objs.size f cd)
 N:=N
 s₀:=s
 H₀:=H
 env:=envOfC qual scope s.heap.objs.size f cd
 outer:=outer
 stack:=envOfC qual scope s.heap.objs.size f cd::outer
 ex:=[]
 calm:=true
 fn:=λ_=>true
 pn:=[]
 xe:=λe s'=>wpAny (model P w) (A.deeper (envOfC qual scope s.heap.objs.size f cd)) (leaving (envOfC qual scope s.heap.objs.size f cd) e) (λ_ u9=>CX outer H s E e u9) (λe' u9=>CX outer H s E e' u9) s'
def q0{sc:Scope}{n:Nat}{x:Str}(h:sc.names.lookup x=some .cell):∃c,(cellsFrom n sc.names []).lookup x=some c:=by
 have q:=aeE sc.names n [] (.inl h)
 exact abX.mp q
def xu{CX:xt}{P:Program}{w:World}{K:aC}{mg:Str->Option Value}{base:Heap}{N ps:List Str}{qual:Str}{scope:Scope}{f:Addr}{cd:Value}{A:Around}{outer:List Env}{s s1:Shared}{H:Hp}{E:XK}{us:List Value}{vs:List V}
  (S:c_ N ps scope) (hd:A.handled=none) (e0:C5 P w K mg base A outer s H) (hl:vs.length=ps.length) (r:aE vs us)
  (x:InCallC s s.heap.objs.size (bindL (envOfC qual scope s.heap.objs.size f cd).kindOf (ps.zip us) λ_=>none) (cellsFrom (s.heap.objs.size+1) scope.names []) (bindC (envOfC qual scope s.heap.objs.size f cd).kindOf (ps.zip us) λ_=>none) s1):
  Inv (gN CX P w K mg base N qual scope f cd A outer s H E) [] (start N vs) H s1:=by
 have iJ:ps.length<=N.length:=by have:=congrArg List.length S.pre;rw[abt]at this;lia
 refine dU x.done λh1 tk ah hk=>?_
 subst ah
 have Md:∀b:Addr,b∉(gN CX P w K mg base N qual scope f cd A outer s H E).ex :=λb z=>absurd (show b∈([]:List Addr) from z) (by simp)
 refine⟨⟨e0.mod,S.kind,rfl,rfl,ZG _,λy z c h1 h2=>?_,λy hy=>?_,λy c _ h=>?_,λ_=>hd,Around.frames_deeper e0.frames,.inr ⟨rfl,rfl⟩,λb z=>absurd z (Md b),e0.bs,e0.CQ,λb _ _=>Md b,λb z=>absurd z (Md b),e0.jD,e0.Hl⟩,
  rfl,e0.bare,Un.kept hk,⟨_,x.toInCall.ns,λi y v h1 h2 h3=>?_⟩,λy c h=>⟨_,x.cell y c h⟩,e0.aI.fresh (ZG _),λy c h=>?_,λp hp=>absurd (show p∈([]:List (Addr×Obj)) from hp) (by simp),e0.aI.kept hk,?_⟩
 .exact name_of_addr x.apart (aax h1) (aax h2)
 .have hy:scope.names.lookup y=some .cell \/scope.names.lookup y=some .free :=hy
  rcases hy with hy|hy
  .exact q0 hy
  .exact absurd rfl (S.HU _ (aax hy))
 .exact Zx (x.above y c (aax h))
 .have hi:i<vs.length:=by
   unfold start at h2
   by_cases hi:i<vs.length
   .exact hi
   .rw[aaz (by simpa using hi),aep]at h2
    split at h2<;>cases h2
  have ha:vs[i]?=some v:=by
   unfold start at h2
   rw[aaq (by simpa using hi),ZJ]at h2
   cases e:vs[i]? with
   |none=>rw[e]at h2;cases h2
   |some a=>rw[e]at h2;cases h2;rfl
  refine aa (r.get ha) λu hu rv=>?_
  have hp:ps[i]?=some y:=by
   rw[<-S.pre,List.getElem?_take_of_lt (Zr hi (ZF hl))];exact h1
  have UN:ps.Nodup:=by rw[<-S.pre];exact S.nd.sublist (abj _ _)
  refine⟨u,rv,?_⟩
  rcases S.par y (aac hp)with k|k
  .exact .inl ⟨k,n6 UN hp hu k⟩
  .obtain⟨c,e⟩:=q0 (n:=s.heap.objs.size+1) k
   refine .inr ⟨.inl k,c,e,?_⟩
   have q:=x.cell y c e
   rw[n8 UN hp hu (by show scope.names.lookup y≠_;rw[k];decide)]at q
   exact q
 .exact e0.aI.fresh (Zx (x.above y c (aax h)))
 .unfold start
  show _=N.length
  rw[ZQ,ZA,abR]
  exact Z9 (Zw (ZF hl) iJ)
def F8{CX:xt}{P:Program}{w:World}{K:aC}{mg:Str->Option Value}{base:Heap}{k:Nat}{f:Addr}{name qual:Str}{params:Arguments}{body:List Stmt}{scope:Scope}{dV kV gC pm dH ct oc:Value}{an od:Option Addr}
  {Cy:Array (Option Value)}{N ps:List Str}{sp:Sp} (lk:K.lookup f=some ⟨oc,od,.func (PySem.W.fnOf name qual params body scope dV kV gC pm an dH ct),Cy⟩) (nE:PySem.W.codeIn K dH qual=true) (S:c_ N ps scope)
  (len:∀vs H Q E,sp vs H Q E->vs.length=ps.length)
  (iK:∀(A:Around) (outer:List Env) (s:Shared) (H:Hp) (vs:List V) (Q:VK) (E:XK),dW k (A.deeper (envOfC qual scope s.heap.objs.size f dH))->sp vs H Q E->
   ∃t,jF (gN CX P w K mg base N qual scope f dH A outer s H E) body t/\t {nx:=λ_ H'=>Q .bX H',rt:=Q} (start N vs) H):
  fY P w K mg base CX (k+1) f (PySem.W.fnOf name qual params body scope dV kV gC pm an dH ct) ps sp:=by
 refine⟨len,λA outer s H args us vs Q E hr e0 hb r CA=>?_⟩
 have hl:=len _ _ _ _ CA
 have KX:K.In s.heap:=e0.mod.LN.keeps λb o e=>(e0.bs b o e).1
 have lim:s.heap.NoLimit:=e0.mod.nolimit.keeps λb o e=>(e0.bs b o e).1
 have Me:∀y∈ps.zip us,scope.names.lookup y.1=some .local \/(scope.names.lookup y.1=some .cell /\((cellsFrom (s.heap.objs.size+1) scope.names []).lookup y.1).isSome =true):=λ⟨n,v⟩ hy=>by
  rcases S.par n (adG hy).1 with q|q
  .exact .inl q
  .exact .inr ⟨q,aeE _ _ _ (.inl q)⟩
 refine codeAny_call_function hr.depth (KX _ _ lk) rfl S.co S.gen rfl (PySem.W.codeRec_of KX nE) (hb _ _ _ _ ?_)
 refine wpAny_newFunctionEnv_cells S.kind Me λenv he s1 x=>?_
 subst he
 refine⟨lim.keeps x.toInCall.keep,codeAny_func ?_⟩
 refine aa (iK A outer s H vs Q E (hr.deeper _) CA) λt ht hq=>?_
 have I:Inv (gN CX P w K mg base N qual scope f dH A outer s H E) [] (start N vs) H s1:=xu S hr.hd e0 hl r x
 refine aaJ (ht [] s1 (start N vs) H _ I hq) (λfl s' hs=>?_) λe s' hs=>hs
 have fin:∀{bO:St}{H':Hp}{v:V}{u:Value},Inv (gN CX P w K mg base N qual scope f dH A outer s H E) [] bO H' s'->RelV v u->Q v H'->CE outer P w H s Q u s':=
  λ{bO H' v u} J rv q=>⟨v,H',J.os,J.bare,J.base,J.aI,rv,q⟩
 cases fl with
 |ret u=>
  exact b6 hs λv bO H' J rv q=>fin J rv q
 |next=>
  exact dU hs λbO H' J q=>fin (v:=V.bX) (u:=Value.none) J rfl q
 |brk=>
  exact dU hs λ_ _ _ q=>False.elim q
 |cont=>
  exact dU hs λ_ _ _ q=>False.elim q
section
variable {X:Cx}{x:Str}{p pos:Pos}{e:Expr}{es:List Expr}{t:TA}{id T:String}{r:List V->Hp->VK->Prop}
def Rk(r:List V->Hp->VK->Prop)(t:TA):TE:=λσ H Q=>t σ H λvs H1=>r vs H1 Q
def eF(hc:cA X (.builtin id) r)(hg:Gl X x)(hm:X.mg x=none)(hv:bootBuiltins x=some (.builtin id))(ha:PA X (e::es) t)(hn:x≠"__name__":=by decide)(tM:(x==("__debug__":Str))=false:=by decide)
  (he:starEach (e::es) X.env=(false,eval e X.env)::starEach es X.env:=by rfl) (iJ:(backTo pos (starEach es X.env)).any (·.1)=false:=by rfl):PE X (.Call (.Name x p) (e::es) [] pos) (Rk r t):=by
 intro U s σ H Q I h
 refine acv (ij I hg hm hv ?_ hn tM)
 exact PyProof.Rows.callWith_builtin1 (aU (ha pos U s σ H _ I h) λus s1 zz=>bu zz λvs H1 I1 r1 q1=>hc U s1 σ H1 vs us Q I1 r1 q1) he iJ
def eG(hc:cA X (.type T) r)(hg:Gl X x)(hm:X.mg x=none)(hv:bootBuiltins x=some (.type T))(ha:PA X (e::es) t)(hn:x≠"__name__":=by decide)(tM:(x==("__debug__":Str))=false:=by decide)
  (he:starEach (e::es) X.env=(false,eval e X.env)::starEach es X.env:=by rfl) (iJ:(backTo pos (starEach es X.env)).any (·.1)=false:=by rfl):PE X (.Call (.Name x p) (e::es) [] pos) (Rk r t):=by
 intro U s σ H Q I h
 refine acv (ij I hg hm hv ?_ hn tM)
 exact abo (aU (ha pos U s σ H _ I h) λus s1 zz=>bu zz λvs H1 I1 r1 q1=>hc U s1 σ H1 vs us Q I1 r1 q1) he iJ
end
end L2
namespace HT
open PySem PyProof.Rows
section
open PySem.SeqAt
open PySem.AutoSeq1 (wpAny_loadPart')
open PySem.MeetsSeq PySem.MeetsSeq2 PySem.MeetsSeq3
end
section
variable {prog:Program}{w:World}{A:Around}{E:Value->Shared->Prop}{s:Shared}
def C6(ht:IsTup s.heap t vs.toArray)(hb:IsTup s.heap b ws.toArray)(hv:vs≠[])
  (h1:ws=[]->Q (.ref t) s) (h2:ws≠[]->Q (.ref s.heap.objs.size) {s with heap:=s.heap.push {cls:= .type "tuple",data:= .seq (vs++ws).toArray}})
  (hsz:vs.length+ws.length<=sizeLine):wpAny (model prog w) A (binaryOp .Add (.ref t) (.ref b)) Q E s:=by
 refine au λnO=>?_
 obtain⟨⟨cls,dd,data,sl⟩,ho,hc,n,hd⟩:=id ht
 obtain⟨⟨Ww,Pp,data2,Pu⟩,HV,Mf,n2,tN⟩:=id hb
 refine nO ?_
 simp only at hc hd Mf tN
 subst hc hd Mf tN
 have e:vs.toArray++ws.toArray=(vs++ws).toArray :=by simp
 by_cases hw:ws=[]
 .exact concat_meets ⟨_,ho,rfl⟩ ⟨_,HV,rfl⟩ noFill_tuple_add seq_tuple_add adg acX (acR _ _)
   (tuple_addW1 t b vs.toArray ws.toArray n n2 dd Pp sl Pu (by simpa using hv) (by simp[hw])) ⟨ho,HV,h1 hw⟩
 .refine concat_meets ⟨_,ho,rfl⟩ ⟨_,HV,rfl⟩ noFill_tuple_add seq_tuple_add adg acX (acR _ _)
   (tuple_addW2 t b vs.toArray ws.toArray n n2 dd Pp sl Pu (by simpa using hv) (by simpa using hw) (by rw[ZI,ZI];exact hsz)) ⟨ho,HV,?_⟩
  rw[e]
  exact h2 hw
noncomputable def b9(n d:Nat):Option Int->Nat
 |none=>d
 |some v=>if v<0 then(v+(n:Int)).toNat else min v.toNat n
def HW(n d:Nat)(hd:d<=n)(o:Option Int):b9 n d o<=n:=by
 cases o with
 |none=>exact hd
 |some v=>
  show(if v<0 then(v+(n:Int)).toNat else min v.toNat n)<=n
  by_cases hv:v<0
  .rw[ZM hv];lia
  .rw[ZW hv];exact adw _ _
def pO(v:Int)(n d:Nat):(if v<0 then max (v+(n:Int)) 0 else min v (n:Int))=((b9 n d (some v):Nat):Int):=by
 show(if v<0 then max (v+(n:Int)) 0 else min v (n:Int))=(((if v<0 then(v+(n:Int)).toNat else min v.toNat n):Nat):Int)
 by_cases hv:v<0
 .simp only[ZM hv];lia
 .simp only[ZW hv];lia
def t_(lo hi:Option Int)(n:Nat):Builtin.Slice.sliceAdjust lo hi 1 (n:Int)=(((b9 n 0 lo:Nat):Int),((b9 n n hi:Nat):Int)):=by
 have h1:¬((1:Int)<0):=(by decide)
 unfold Builtin.Slice.sliceAdjust
 simp only[h1,if_false]
 refine Prod.ext ?_ ?_
 .cases lo with
  |none=>rfl
  |some v=>exact pO v n 0
 .cases hi with
  |none=>rfl
  |some v=>exact pO v n n
def ua(i j:Nat):Builtin.Slice.slicePlaces (i:Int) (j:Int) 1=j-i:=by
 unfold Builtin.Slice.slicePlaces
 have h1:(1:Int)>0:=(by decide)
 simp only[h1,if_true,Int.ediv_one]
 split<;>lia
def lQ(p:IsPart v o)(h:Q o s):wpAny (model prog w) A (Builtin.Slice.slicePartIndex v) Q E s:=by
 cases p with
 |none=>exact slicePart_none h
 |int i t=>exact slicePart_int h
def eI{sl:Addr}{vl vu:Value}{lo hi:Option Int}{n:Nat}{Q:Int×Int×Nat->Shared->Prop}(hs:s.heap.IsSliceOf sl vl vu .none)(pl:IsPart vl lo)(pu:IsPart vu hi)
  (h:Q (((b9 n 0 lo:Nat):Int),1,b9 n n hi-b9 n 0 lo) s):wpAny (model prog w) A (Builtin.Slice.sliceApplied (.ref sl) (pure (n:Int))) Q E s:=by
 refine bB (id hs) λos q_ n9 CC=>?_
 unfold Builtin.Slice.sliceApplied Builtin.Slice.sliceFields
 refine Zq (Zq (aaF q_ CC (x:=vl) rfl (Zq (aaF q_ CC (x:=vu) rfl (Zq (aaF q_ CC (x:= .none) rfl (ZC ?_)))))))
 refine Zq (slicePart_none ?_)
 show wpAny _ _ (if((1:Int)==0)=true then _ else _) _ _ s
 rw[ZW (by decide)]
 refine Zq (lQ pl (Zq (lQ pu (Zq (ZC ?_)))))
 show wpAny _ _ (match Builtin.Slice.sliceAdjust lo hi 1 (n:Int)with|(lo,hi)=>pure (lo,(1:Int),Builtin.Slice.slicePlaces lo hi 1)) _ _ s
 rw[t_ lo hi n]
 show wpAny _ _ (pure (((b9 n 0 lo:Nat):Int),(1:Int),Builtin.Slice.slicePlaces ((b9 n 0 lo:Nat):Int) ((b9 n n hi:Nat):Int) 1)) _ _ s
 rw[ua]
 exact ZC h
def zB(xs:Array Value)(i k:Nat):((List.range k).filterMap λ(m:Nat)=>xs[((i:Int)+(m:Int)*1).toNat]?).toArray =((xs.toList.drop i).take k).toArray :=by
 have e:(λ(m:Nat)=>xs[((i:Int)+(m:Int)*1).toNat]?)=λm=>xs[i+m]?:=by
  funext m
  have:((i:Int)+(m:Int)*1).toNat =i+m:=by lia
  rw[this]
 rw[e]
 have:=pick_run xs i k
 rw[List.filterMap_map]at this
 have e2:((λx=>xs[x]?) ∘ λx=>i+x)=λm=>xs[i+m]?:=rfl
 rw[e2]at this
 rw[this]
def iL{t sl:Addr}{items:Array Value}{vl vu:Value}{lo hi:Option Int}{Q:Value->Shared->Prop}(ht:IsTup s.heap t items)(hs:s.heap.IsSliceOf sl vl vu .none)(pl:IsPart vl lo)(pu:IsPart vu hi)
  (hw:¬(b9 items.size 0 lo=0/\b9 items.size items.size hi=items.size))
  (h:Q (.ref s.heap.objs.size) {s with heap:=s.heap.push {cls:= .type "tuple",data:= .seq ((items.toList.drop (b9 items.size 0 lo)).take (b9 items.size items.size hi-b9 items.size 0 lo)).toArray}})
  (hsz:items.size<=sizeLine):wpAny (model prog w) A (getItem (.ref t) (.ref sl)) Q E s:=by
 have u_:sizeOk (.seq ((items.toList.drop (b9 items.size 0 lo)).take (b9 items.size items.size hi-b9 items.size 0 lo)).toArray):=by
  show((items.toList.drop (b9 items.size 0 lo)).take (b9 items.size items.size hi-b9 items.size 0 lo)).toArray.size <=sizeLine
  rw[ZI,abt,aco,Z_]
  lia
 have hj:b9 items.size items.size hi<=items.size:=HW _ _ (ZG _) hi
 refine bB (id hs) λos q_ n9 CC=>?_
 have Mi:s.TypeIs (.ref sl) "slice":=⟨os,q_,n9⟩
 unfold getItem
 try with_reducible refine aaO ?_
 first|refine Zq (ZC ?_)|skip
 refine Zq (aec ht.typeIs (by decide) ?_)
 refine Zq (aav (name:=Str.ofString "__getitem__") ht.typeIs aag
  (aaA aag ht.typeIs entry_tuple_getitem ?_ (args_tuple_getitem _ _)))
 show wpAny _ _ (Builtin.Tuple.tupleItemsOf (.ref t) >>= _) _ _ s
 refine Zq (tupleItemsOf_ ht ?_)
 refine Zq (adQ Mi ?_)
 rw[ZM (by decide)]
 refine Zq (eI hs pl pu ?_)
 have va:¬((((b9 items.size 0 lo:Nat):Int)==0&&(1:Int)==1&&(b9 items.size items.size hi-b9 items.size 0 lo)==items.size)=true):=by
  intro q
  rw[Zu,Zu]at q
  have q1:((b9 items.size 0 lo:Nat):Int)=0:=eq_of_beq q.1.1
  have q2:b9 items.size items.size hi-b9 items.size 0 lo=items.size:=eq_of_beq q.2
  exact hw ⟨by lia,by lia⟩
 show wpAny _ _ (if(((b9 items.size 0 lo:Nat):Int)==0&&(1:Int)==1&&(b9 items.size items.size hi-b9 items.size 0 lo)==items.size)=true then _ else _) _ _ s
 rw[ZW va,zB]
 first
  |exact Zq (m:=Builtin.Tuple.tupleExact _) (Z' (ZC ⟨_,rfl,ZC h⟩) u_)
  |exact Zq (m:=Builtin.Tuple.tupleExact _) (Z' (Zq (ZC (ZC ⟨_,rfl,ZC h⟩))) u_)
  |exact Zq (Zq (m:=Builtin.Tuple.tupleExact _) (Z' (ZC (ZC ⟨_,rfl,ZC h⟩)) u_))
  |exact Zq (Zq (m:=Builtin.Tuple.tupleExact _) (Z' (ZC ⟨_,rfl,ZC h⟩) u_))
end
end HT
namespace L2
open PySem PySem.Spec PyProof.Rows
abbrev TO:=St->Hp->(Option Int->Hp->Prop)->Prop
def PO(X:Cx)(e:Option Expr)(t:TO):Prop:=
 ∀(U:List (Addr×Obj)) (s:Shared) (σ:St) (H:Hp) (Q:Option Int->Hp->Prop),Inv X U σ H s->t σ H Q->
  wpAny (model X.prog X.w) X.A (evalPart e X.env) (λu s'=>∃o H',Inv X U σ H' s'/\IsPart u o/\Q o H') X.xe s
def C7:TO:=λ_ H Q=>Q none H
def Mj(t:TE):TO:=λσ H Q=>t σ H λx H1=>∃i,x= .int i/\Q (some i) H1
def intsAre_of:∀{us:List Value},aE (ns.map V.int) us->IntsAre us ns:=by
 induction ns with
 |nil=>intro us r;rw[afC]at r;cases r;exact .nil
 |cons n ns ih=>
  intro us r
  rw[Z4]at r
  cases r with
  |cons r1 r2=>
   obtain⟨t,e⟩:=r1
   subst e
   exact .cons n t (ih r2)
section
variable {X:Cx}{e:Expr}{te:TE}{lo hi:Option Expr}{tl th:TO}{pos p2:Pos}
def C8:PO X none C7:=by
 intro U s σ H Q I h
 rw[evalPart_none]
 exact ZC ⟨none,H,I,.none,h⟩
def C9(h:PE X e te):PO X (some e) (Mj te):=by
 intro U s σ H Q I hw
 rw[evalPart_some]
 refine aU (h U s σ H _ I hw) λu s1 zz=>bu zz λx H1 I1 r1 q1=>aa q1 λi ah q=>?_
 try clear q1
 subst ah
 obtain⟨t,rfl⟩:=r1
 exact⟨some i,H1,I1,.int i t,q⟩
def CD(X:Cx)(r:V->Option Int->Option Int->Hp->VK->Prop):Prop:=
 ∀(U:List (Addr×Obj)) (s:Shared) (σ:St) (H:Hp) (x:V) (v vl vu:Value) (lo hi:Option Int) (sl:Addr) (Q:VK),Inv X U σ H s->RelV x v->s.heap.IsSliceOf sl vl vu .none ->IsPart vl lo->IsPart vu hi->r x lo hi H Q->
  ∃T id,typeLookup (.type T) "__getitem__"=pure (some (.builtin id))/\s.TypeIs v T/\wpAny (model X.prog X.w) X.A (getItem v (.ref sl)) (EP X U σ Q) X.xe s
def CD.or(h:CD X r)(h':CD X r'):CD X (λx lo hi H Q=>r x lo hi H Q\/r' x lo hi H Q):=by
 intro U s σ H x v vl vu lo hi sl Q I rx hs pl pu q
 rcases q with q|q
 .exact h U s σ H x v vl vu lo hi sl Q I rx hs pl pu q
 .exact h' U s σ H x v vl vu lo hi sl Q I rx hs pl pu q
def Wx(r:V->Option Int->Option Int->Hp->VK->Prop)(te:TE)(tl th:TO):TE:=λσ H Q=>te σ H λx H1=>tl σ H1 λl H2=>th σ H2 λu H3=>r x l u H3 Q
def rf(hr:CD X r)(he:PE X e te)(hl:PO X lo tl)(hu:PO X hi th):PE X (.Subscript e (.Slice lo hi none p2) pos) (Wx r te tl th):=by
 intro U s σ H Q I h
 refine Subscript_ (aU (he U s σ H _ I h) λv s1 zz=>?_)
 refine bu zz λx H1 I1 r1 q1=>wpAny_Slice (aU (hl U s1 σ H1 _ I1 q1) λvl s2 zz=>bu zz λl H2 I2 pl q2=>aU (hu U s2 σ H2 _ I2 q2) λvu s3 zz=>?_)
 refine bu zz λu H3 I3 pu q3=>?_
 rw[evalPart_none]
 refine ZC ?_
 have I4:Inv X U σ H3 {s3 with heap:=s3.heap.push {cls:= .type "slice",data:= .fields #[vl,vu,.none]}}:=I3.kept (t':=s3.toks) λb ob q=>Zv _ q
 refine bu (hr U {s3 with heap:=s3.heap.push {cls:= .type "slice",data:= .fields #[vl,vu,.none]}} σ H3 x v vl vu l u s3.heap.objs.size Q I4 r1 (Heap.IsSliceOf.new ..) pl pu q3) λT id hT ht hg=>?_
 show wpAny (model X.prog X.w) X.A (subscriptTail e (.Slice lo hi none p2) v (.ref s3.heap.objs.size)) (EP X U σ Q) X.xe {s3 with heap:=s3.heap.push {cls:= .type "slice",data:= .fields #[vl,vu,.none]}}
 exact tail_any (ops:=[.ref s3.heap.objs.size,v]) ht hT hg (by with_unfolding_all rfl)
noncomputable def rg(xs:List V)(lo hi:Option Int):List V:=(xs.drop (HT.b9 xs.length 0 lo)).take (HT.b9 xs.length xs.length hi-HT.b9 xs.length 0 lo)
def kf(xs:List V)(lo hi:Option Int):(rg xs lo hi).length <=xs.length:=by
 unfold rg
 rw[abt,aco]
 exact Zw (adw _ _) (aaX _ _)
def Mk(K:aC):V->Option Int->Option Int->Hp->VK->Prop:=λx lo hi H Q=>∃a xs,x= .ref a/\cC K H a xs/\
 ¬(HT.b9 xs.length 0 lo=0/\HT.b9 xs.length xs.length hi=xs.length)/\∀p,H p=none->Q (.ref p) (upd H p (.tup (rg xs lo hi)))
def HX:CD X (Mk X.K):=by
 intro U s σ H x v vl vu lo hi sl Q I rx hs pl pu h
 refine iD h λa xs ah hx hw q=>?_
 try clear h
 subst ah
 cases rx
 refine bB (I.tuple hx) λits r ht hz=>?_
 have aV:its.toArray.size=xs.length:=by rw[ZI];exact r.length.symm
 refine⟨"tuple",_,aag.lookup,ht.typeIs,?_⟩
 refine HT.iL ht hs pl pu (by rw[aV];exact hw) ?_ (by rw[aV];exact hz)
 rw[aV]
 refine⟨.ref s.heap.objs.size,_,I.laid (t':=s.toks) (o:= .tup (rg xs lo hi)) (λb ob q=>Zv _ q) (ZG _) ?_,rfl,q _ (I.aI.fresh (ZG _))⟩
 exact⟨Zw (kf xs lo hi) hz,_,(r.drop (HT.b9 xs.length 0 lo)).take (HT.b9 xs.length xs.length hi-HT.b9 xs.length 0 lo),ig.new _ _⟩
def F9(K:aC):R2:=λx y H Q=>∃a b xs ys,x= .ref a/\y= .ref b/\cC K H a xs/\cC K H b ys/\xs≠[]/\xs.length+ys.length<=sizeLine/\
 (ys=[]->Q (.ref a) H)/\(ys≠[]->∀p,H p=none->Q (.ref p) (upd H p (.tup (xs++ys))))
def aE.pP(r:aE xs us):us=[]↔xs=[]:=by
 cases r with
 |nil=>simp
 |cons _ _=>simp
def C_:gX X (binaryOp .Add) (F9 X.K):=by
 intro U s σ H x y v u Q I rx ry h
 refine Wh h λa b xs ys ah aM ha hb hx hz q1 q2=>?_
 try clear h
 subst ah
 subst aM
 cases rx
 cases ry
 refine bB (I.tuple ha) λits r1 p1 _=>bB (I.tuple hb) λik r2 p2 _=>HT.C6 p1 p2 (λz=>hx (r1.pP.mp z)) (λz=>⟨.ref a,H,I,rfl,q1 (r2.pP.mp z)⟩) (λz=>?_) (by rw[<-r1.length,<-r2.length];exact hz)
 refine⟨.ref s.heap.objs.size,_,I.laid (t':=s.toks) (o:= .tup (xs++ys)) (λb ob q=>Zv _ q) (ZG _) ?_,rfl,q2 (λw=>z (r2.pP.mpr w)) _ (I.aI.fresh (ZG _))⟩
 exact⟨by rw[ZQ];exact hz,_,r1.append r2,ig.new _ _⟩
end
noncomputable def K5(n:Nat)(i:Int):Option Nat:=if 0<=i then(if i<n then some i.toNat else none) else if -(n:Int)<=i then some (i+n).toNat else none
noncomputable def F_{α:Type}(xs:List α)(i:Int):Option α:=(K5 xs.length i).bind λj=>xs[j]?
def vb(h:K5 n i=some j):seqIndex? i n=some j/\j<n/\ -(n:Int)<=i/\i<n:=by
 unfold K5 at h
 by_cases h0:0<=i
 .rw[ZM h0]at h
  by_cases h1:i<n
  .rw[ZM h1]at h
   have e:i.toNat=j:=ZY h
   exact⟨by rw[seqIndex_of h0 h1,e],by lia,by lia,h1⟩
  .rw[ZW h1]at h;cases h
 .rw[ZW h0]at h
  by_cases h1: -(n:Int)<=i
  .rw[ZM h1]at h
   have e:(i+n).toNat =j:=ZY h
   exact⟨by rw[seqIndex_neg (abN h0) h1,e],by lia,h1,(acS (abN h0) (ZX _))⟩
  .rw[ZW h1]at h;cases h
def vc(h:F_ xs i=some v):∃j,seqIndex? i xs.length=some j/\xs[j]?=some v/\j<xs.length/\ -(xs.length:Int)<=i/\i<xs.length:=by
 unfold F_ at h
 cases e:K5 xs.length i with
 |none=>rw[e]at h;cases h
 |some j=>
  rw[e]at h
  exact yL (vb e) λh1 h2 h3 h4=>⟨j,h1,h,h2,h3,h4⟩
def pQ(b:Expr):Prop:=∀o i,subscripted b false o i=operate [o,i] (getItem o i)
def HY(X:Cx)(r:R2):Prop:=
 ∀(value slice:Expr) (U:List (Addr×Obj)) (s:Shared) (σ:St) (H:Hp) (x y:V) (v u:Value) (Q:VK),Inv X U σ H s->RelV x v->RelV y u->r x y H Q->
  subscripted slice false v u=operate [v,u] (getItem v u)->wpAny (model X.prog X.w) X.A (subscriptTail value slice v u) (EP X U σ Q) X.xe s
def Ml(X:Cx)(id:String)(r:V->List V->Hp->VK->Prop):Prop:=
 ∀(U:List (Addr×Obj)) (s:Shared) (σ:St) (H:Hp) (x:V) (xs:List V) (v:Value) (us:List Value) (Q:VK),Inv X U σ H s->RelV x v->aE xs us->r x xs H Q->
  wpAny (model X.prog X.w) X.A (call (.builtin id) (v::us)) (EP X U σ Q) X.xe s
section
variable {X:Cx}{a b:Expr}{ta tb:TE}{pos:Pos}
def HY.or(h:HY X r)(h':HY X r'):HY X (λx y H Q=>r x y H Q\/r' x y H Q):=by
 intro value slice U s σ H x y v u Q I rx ry q hs
 rcases q with q|q
 .exact h value slice U s σ H x y v u Q I rx ry q hs
 .exact h' value slice U s σ H x y v u Q I rx ry q hs
def Ga(hr:HY X r)(ha:PE X a ta)(hb:PE X b tb)(hs:pQ b):PE X (.Subscript a b pos) (F4 r ta tb):=by
 intro U s σ H Q I h
 exact Subscript_ (HE ha hb I h λv u s2 x y H2 I2 rx ry q=>hr a b U s2 σ H2 x y v u Q I2 rx ry q (hs _ _))
def C'(K:aC):R2:=λx y H Q=>∃p xs i v,x= .ref p/\y= .int i/\du K H p xs/\F_ xs i=some v/\Q v H
def Rl(K:aC):R2:=λx y H Q=>∃p xs i v,x= .ref p/\y= .int i/\cC K H p xs/\F_ xs i=some v/\Q v H
def vd:HY X (C' X.K):=by
 intro value slice U s σ H x y v u Q I rx ry h hs
 refine au λnO=>tT h λp xs i z ah aM hq he q=>?_
 try clear h
 subst ah
 subst aM
 cases rx
 obtain⟨t,rfl⟩:=ry
 refine bB (I.list hq) λits r pl hz=>FW (vc he) λj h1 h2 h3 h4 h5=>aa (r.get h2) λw ew xv=>nO ?_
 have hl:=r.length
 have hn:=lO
 have fin:EP X U σ Q w s:=⟨z,H,I,xv,q⟩
 by_cases h0:0<=i
 .have hj:i.toNat=j:=by
   rw[seqIndex_of h0 h5]at h1
   exact ZY h1
  exact item_listR pl.isList h0 (by lia) (by rw[hj];simpa using ew) fin hs
 .have hj:(i+(its.toArray.size:Int)).toNat =j:=by
   rw[seqIndex_neg (abN h0) h4]at h1
   rw[ZI,<-hl]
   exact ZY h1
  exact subscriptTail_builtinR (x:=w) pl.isList.typeIs slot_list_getitem.lookup
   (wpAny_getItem_list_neg (Q:=λr s'=>r=w/\EP X U σ Q r s') pl.isList (abN h0) (by rw[ZI]<;>lia) (by lia) (by rw[hj];simpa using ew) ⟨rfl,fin⟩) hs
def HZ:HY X (Rl X.K):=by
 intro value slice U s σ H x y v u Q I rx ry h hs
 refine au λnO=>tT h λp xs i z ah aM hq he q=>?_
 try clear h
 subst ah
 subst aM
 cases rx
 obtain⟨t,rfl⟩:=ry
 refine bB (I.tuple hq) λits r pl hz=>FW (vc he) λj h1 h2 h3 h4 h5=>aa (r.get h2) λw ew xv=>nO ?_
 have hl:=r.length
 have hn:=lO
 have fin:EP X U σ Q w s:=⟨z,H,I,xv,q⟩
 exact subscriptTail_builtinR (x:=w) pl.typeIs slot_tuple_getitem.lookup
  (getItem_tuple (j:=j) (Q:=λr s'=>r=w/\EP X U σ Q r s') pl (by lia) (by lia) (by rw[ZI,<-hl];exact h1) (by simpa using ew) ⟨rfl,fin⟩) hs
def ub(its:List Value)(n j:Nat)(u:Value):Obj.mapSeq (·.setIfInBounds j u) {cls:= .type "list",data:= .seq its.toArray n}={cls:= .type "list",data:= .seq (its.set j u).toArray n}:=by
 simp[Obj.mapSeq]
theorem Inv.lst{U:List (Addr×Obj)}{σ:St}{H:Hp}{s:Shared}{p:Addr}{xs:List V}(I:Inv X U σ H s)(h:H p=some (.lst xs)):
  ∃(its:List Value) (n:Nat),aE xs its/\s.heap.get? p=some {cls:= .type "list",data:= .seq its.toArray n}/\xs.length<=sizeLine:=by
 refine au λnO=>?_
 obtain⟨z,its,n,r,e⟩:=I.aI p _ h
 exact nO<|⟨its,n,r,e,z⟩
def Inv.H_{U:List (Addr×Obj)}{σ:St}{H:Hp}{s:Shared}{p:Addr}{xs ys:List V}{its its':List Value}{n n':Nat}{f:Obj->Obj}(I:Inv X U σ H s)(h:H p=some (.lst xs))
  (ho:s.heap.get? p=some {cls:= .type "list",data:= .seq its.toArray n}) (hf:f {cls:= .type "list",data:= .seq its.toArray n}={cls:= .type "list",data:= .seq its'.toArray n'}) (r:aE ys its') (hz:ys.length<=sizeLine) (t:Nat):
  Inv X U σ (upd H p (.lst ys)) {s with heap:=s.heap.update p f,toks:=t}:=by
 have e:(s.heap.update p f).get? p=some {cls:= .type "list",data:= .seq its'.toArray n'}:=by
  rw[aaY f ho (by rw[hf]<;>rfl),hf]
 exact I.write (x:=p) (e:=p) (by rw[h];trivial) (.inl rfl) (λb u hb q=>(aap _ _ (aaH hb)).trans q) ⟨_,e⟩<|⟨hz,its',n',r,e⟩
def Mm:V->V->V->Hp->(Hp->Prop)->Prop:=λo i v H Q=>∃p xs k j,o= .ref p/\i= .int k/\H p=some (.lst xs)/\K5 xs.length k=some j/\Q (upd H p (.lst (xs.set j v)))
def zC:L7 X Mm:=by
 intro U s σ H o i v ov iv u Q I ro ri rv h
 refine au λnO=>tT h λp xs k j ah aM hp hj q=>?_
 try clear h
 subst ah
 subst aM
 cases ro
 obtain⟨t,rfl⟩:=ri
 refine bu (I.lst hp) λits n r ho hz=>yL (vb hj) λh1 h2 h3 h4=>nO ?_
 have hl:=r.length
 have hn:=lO
 have I':Inv X U σ (upd H p (.lst (xs.set j v))) {s with heap:=s.heap.update p (Obj.mapSeq (·.setIfInBounds j u))}:=
  I.H_ hp ho (ub its n j u) (r.set rv j) (by rw[aat];exact hz) s.toks
 by_cases h0:0<=k
 .have hk:k.toNat=j:=by
   rw[seqIndex_of h0 h4]at h1
   exact ZY h1
  exact PySem.W.ki_setAt ho h0 (by lia) (by rw[ZI,<-hl];exact h4) (by rw[hk];exact⟨_,I',q⟩)
 .have hk:(k+(its.toArray.size:Int)).toNat =j:=by
   rw[seqIndex_neg (abN h0) h3]at h1
   rw[ZI,<-hl]
   exact ZY h1
  exact PySem.W.ki_setBack ho (abN h0) (by rw[ZI,<-hl];exact h3) (by lia) (by rw[hk];exact⟨_,I',q⟩)
def pR(lo hi:Option Int)(n:Nat):(sliceBounds lo hi none n).1 =((HT.b9 n 0 lo:Nat):Int)/\(sliceBounds lo hi none n).2.1 =((HT.b9 n n hi:Nat):Int)/\(sliceBounds lo hi none n).2.2 =1:=by
 refine⟨?_,?_,rfl⟩
 .cases lo with
  |none=>simp[sliceBounds,HT.b9]
  |some i=>
   simp only[sliceBounds,HT.b9,Option.getD_none,show(1:Int)>0 by decide,if_true]
   by_cases h:i<0
   .simp only[h,if_true]<;>lia
   .simp only[h,if_false]<;>lia
 .cases hi with
  |none=>simp[sliceBounds,HT.b9]
  |some i=>
   simp only[sliceBounds,HT.b9,Option.getD_none,show(1:Int)>0 by decide,if_true]
   by_cases h:i<0
   .simp only[h,if_true]<;>lia
   .simp only[h,if_false]<;>lia
def nG(its:List Value)(lo hi:Option Int):slicePick its.toArray lo hi none=((its.drop (HT.b9 its.length 0 lo)).take (HT.b9 its.length its.length hi-HT.b9 its.length 0 lo)).toArray :=by
 refine cy (pR lo hi its.toArray.size) λh1 h2 h3=>?_
 unfold slicePick
 rw[h1,h2,h3]
 simp only[sliceRange_one,pick_run,ZI]<;>rfl
def Rm(K:aC):V->Option Int->Option Int->Hp->VK->Prop:=λx lo hi H Q=>∃a xs,x= .ref a/\du K H a xs/\∀p,H p=none->Q (.ref p) (upd H p (.lst (rg xs lo hi)))
def vg:CD X (Rm X.K):=by
 intro U s σ H x v vl vu lo hi sl Q I rx hs pl pu h
 refine bu h λa xs ah hx q=>?_
 try clear h
 subst ah
 cases rx
 refine bB (I.list hx) λits r ht hz=>?_
 have aV:=r.length
 refine⟨"list",_,slot_list_getitem.lookup,ht.isList.typeIs,?_⟩
 refine wpAny_getItem_list_slice ht.isList hs pl pu .none (by simp) ?_ (by rw[ZI]<;>exact Zw (ZF (aaa aV)) hz)
 rw[nG,<-aV]
 refine⟨.ref s.heap.objs.size,_,I.laid (t':=s.toks) (o:= .lst (rg xs lo hi)) (λb ob q=>Zv _ q) (ZG _) ?_,rfl,q _ (I.aI.fresh (ZG _))⟩
 exact⟨Zw (kf xs lo hi) hz,_,0,(r.drop (HT.b9 xs.length 0 lo)).take (HT.b9 xs.length xs.length hi-HT.b9 xs.length 0 lo),ZN _ rfl⟩
def pS:cA X (.builtin "len") (λxs H Q=>∃p ys,xs=[.ref p]/\(du X.K H p ys\/cC X.K H p ys)/\Q (.int ys.length) H):=by
 intro U s σ H xs us Q I r h
 refine bu h λp ys ah hq q=>?_
 try clear h
 subst ah
 refine aa (vals1 r) λu aM rx=>?_
 subst aM
 cases rx
 have hn:=lO
 rcases hq with hq|hq
 .refine bB (I.list hq) λits r' pl hz=>?_
  have aV:=r'.length
  exact Calls.call_len_list pl.isList (by simp only[ZI]<;>lia) ⟨.int ys.length,H,I.tok _,⟨s.toks+1,by rw[ZI,aV]⟩,q⟩
 .refine bB (I.tuple hq) λits r' pl hz=>?_
  have aV:=r'.length
  exact len_tuple pl (by simp only[ZI]<;>lia) ⟨.int ys.length,H,I.tok _,⟨s.toks+1,by rw[ZI,aV]⟩,q⟩
def cA.or(h:cA X f r)(h':cA X f r'):cA X f (λxs H Q=>r xs H Q\/r' xs H Q):=by
 intro U s σ H xs us Q I rs q
 rcases q with q|q
 .exact h U s σ H xs us Q I rs q
 .exact h' U s σ H xs us Q I rs q
def iM:cA X (.type "list") (λxs H Q=>∃p ys,xs=[.ref p]/\(du X.K H p ys\/cC X.K H p ys)/\∀l,H l=none->Q (.ref l) (upd H l (.lst ys))):=by
 intro U s σ H xs us Q I r h
 refine au λnO=>bu h λp ys ah hq q=>?_
 try clear h
 subst ah
 refine aa (vals1 r) λu aM rx=>?_
 subst aM
 cases rx
 refine nO ?_
 have fin:∀(its:List Value),aE ys its->ys.length<=sizeLine->∀(h':Heap) (c':Nat),(∀b o',s.heap.get? b=some o'->h'.get? b=some o')->
   h'.get? s.heap.objs.size=some {cls:= .type "list",dict:=none,data:= .seq its.toArray c',slots:=#[]}->EP X U σ Q (.ref s.heap.objs.size) {s with heap:=h'}:=λits r' hz h' c' kp e=>
  ⟨.ref s.heap.objs.size,_,I.laid (t':=s.toks) kp (ZG _) (show aT X.prog X.w _ h' _ (.lst ys) from⟨hz,its,c',r',e⟩),rfl,q _ (I.aI.fresh (ZG _))⟩
 rcases hq with hq|hq
 .refine au λnO=>bB (I.list hq) λits r' pl hz=>?_
  have aV:=r'.length
  obtain⟨o,ho,hc,n,hd⟩:=pl.isList
  exact nO<|call_list_seq p (.inl rfl) ho hc hd (λh' c' kp e=>fin its r' hz h' c' kp e) (by simp only[ZI]<;>exact Zw (ZF (aaa aV)) hz)
 .refine au λnO=>bB (I.tuple hq) λits r' pl hz=>?_
  have aV:=r'.length
  obtain⟨o,ho,hc,n,hd⟩:=pl
  exact nO<|call_list_seq p (.inr rfl) ho hc hd (λh' c' kp e=>fin its r' hz h' c' kp e) (by simp only[ZI]<;>exact Zw (ZF (aaa aV)) hz)
def nH:cA X (.type "tuple") (λxs H Q=>∃p ys,xs=[.ref p]/\((du X.K H p ys/\∀l,H l=none->Q (.ref l) (upd H l (.tup ys)))\/(cC X.K H p ys/\Q (.ref p) H))):=by
 intro U s σ H xs us Q I r h
 refine au λnO=>?_
 obtain⟨p,ys,rfl,h⟩:=h
 obtain⟨u,rfl,rx⟩:=vals1 r
 cases rx
 refine nO ?_
 rcases h with⟨hq,q⟩|⟨hq,q⟩
 .refine au λnO=>?_
  obtain⟨its,r',pl,hz⟩:=I.list hq
  refine nO ?_
  have aV:=r'.length
  refine call_tuple_list pl.isList (λh' kp=>?_) (by simp only[ZI]<;>exact Zw (ZF (aaa aV)) hz)
  have I1:Inv X U σ H {s with heap:=h'}:=I.kept (t':=s.toks) kp
  have I2:Inv X U σ (upd H h'.objs.size (.tup ys)) {s with heap:=h'.push {cls:= .type "tuple",data:= .seq its.toArray}}:=
   I1.laid (t':=s.toks) (λb o e=>Zv _ e) (ZG _) (show aT X.prog X.w _ _ _ (.tup ys) from⟨hz,its,r',ig.new _ _⟩)
  exact⟨.ref h'.objs.size,_,I2,rfl,q _ (I1.aI.fresh (ZG _))⟩
 .refine au λnO=>?_
  obtain⟨its,r',pl,hz⟩:=I.tuple hq
  exact nO<|call_tuple_same pl ⟨.ref p,H,I,rfl,q⟩
def Rn(K:aC)(T:String)(x:V)(H:Hp):Prop:=match x with
 | .str _=>T="str"
 | .int _=>T="int"
 | .ref p=>(T="list"/\∃xs,du K H p xs)\/(T="tuple"/\∃o,K.lookup p=some o/\o.cls= .type "tuple"/\o.dict=none)\/
   (T="dict"/\((∃az,H p=some (.dK az))\/∃az,H p=some (.dT az)))\/(T="set"/\∃S n,H p=some (.set S n))
 |_=>False
def zD(I:Inv X U σ H s)(r:RelV x v)(ty:Rn X.K T x H):
  s.TypeIs v T/\∀a,v= .ref a->∃ob,s.heap.get? a=some ob/\ob.dict=none:=by
 cases x with
 |str z=>
  obtain⟨t,rfl⟩:=r
  cases (show T="str" from ty)
  exact⟨typeIs_str s z t,λ_ e=>nomatch e⟩
 |int i=>
  obtain⟨t,rfl⟩:=r
  cases (show T="int" from ty)
  exact⟨typeIs_int s i t,λ_ e=>nomatch e⟩
 |ref p=>
  cases r
  rcases ty with⟨rfl,xs,hq⟩|⟨rfl,o,hk,hc,hd⟩|⟨rfl,hk⟩|⟨rfl,S,n,hk⟩
  .refine bB (I.list hq) λits _ pl _=>⟨pl.isList.typeIs,λa e=>?_⟩
   cases e
   exact iD pl λo n e c hd _=>⟨o,e,hd⟩
  .refine⟨⟨o,I.yN p o hk,hc⟩,λa e=>?_⟩
   cases e
   exact⟨o,I.yN _ o hk,hd⟩
  .have z:∃o,s.heap.get? p=some o/\o.ExactDict:=by
    rcases hk with⟨az,hk⟩|⟨az,hk⟩
    .obtain⟨_,_,_,_,o,_,_,e,ex,_⟩:=I.aI p _ hk
     exact⟨o,e,ex⟩
    .obtain⟨_,_,_,_,o,_,_,e,ex,_⟩:=I.aI p _ hk
     exact⟨o,e,ex⟩
   refine aa z λo e ex=>⟨⟨o,e,ex.1⟩,λa e2=>?_⟩
   cases e2
   exact⟨o,e,ex.2.1⟩
  .refine KZ (I.aI p _ hk) λo _ _ _ e ex _=>⟨⟨o,e,ex.1⟩,λa e2=>?_⟩
   cases e2
   exact⟨o,e,ex.2.1⟩
 |_=>exact False.elim ty
def Ro(K:aC)(T:String)(r:V->List V->Hp->VK->Prop)(to:TE):TE:=λσ H Q=>to σ H λx H1=>Rn K T x H1/\r x [] H1 Q
def Pw(K:aC)(T:String)(r:V->List V->Hp->VK->Prop)(to:TE)(t:TA):TE:=λσ H Q=>to σ H λx H1=>Rn K T x H1/\t σ H1 λxs H2=>r x xs H2 Q
variable {o e:Expr}{es:List Expr}{to:TE}{t:TA}{name:Str}{iI cj:Pos}{T id:String}{r:V->List V->Hp->VK->Prop}
def Ia(pa:PlainAttrs T)(slot:Slot T name id)(Mn:typeOf (.builtin id)=pure (.type "method_descriptor"))(hm:Ml X id r)(ho:PE X o to)
  (iO:attributeBase o name X.env (eval o X.env)=eval o X.env:=by rfl) (iP:(iI.endLine==cj.line)=true:=by rfl):PE X (.Call (.Attribute o name iI) [] [] cj) (Ro X.K T r to):=by
 intro U s σ H Q I h
 refine wpAny_Call_method0_late iO iP (aU (ho U s σ H _ I h) λv s1 zz=>?_)
 refine iD zz λx H1 I1 r1 ty q1=>?_
 obtain⟨h1,h2⟩:=zD I1 r1 ty
 exact⟨T,id,pa,slot,Mn,h1,h2,abJ rfl (afn (hm U s1 σ H1 x [] v [] Q I1 r1 .nil q1))⟩
def zE(pa:PlainAttrs T)(slot:Slot T name id)(Mn:typeOf (.builtin id)=pure (.type "method_descriptor"))(hm:Ml X id r)(ho:PE X o to)(ha:PA X (e::es) t)
  (iO:attributeBase o name X.env (eval o X.env)=eval o X.env:=by rfl)
  (Ib:((backTo cj (starEach (e::es) X.env)).all (λx=>!x.1)&&(backToKw cj (keywordEach [] X.env)).all (λx=>x.1.isSome)
   && decide ((e::es).length+([]:List Keyword).length+(if([]:List Keyword).isEmpty then 0 else 1)<30))=true:=by rfl)
  (iP:(iI.endLine==cj.line)=true:=by rfl) (hs:starEach (e::es) X.env=(false,eval e X.env)::starEach es X.env:=by rfl) (uc:(backTo cj (starEach es X.env)).any (·.1)=false:=by rfl):
  PE X (.Call (.Attribute o name iI) (e::es) [] cj) (Pw X.K T r to t):=by
 intro U s σ H Q I h
 refine wpAny_Call_method_late iO Ib iP rfl (aU (ho U s σ H _ I h) λv s1 zz=>?_)
 refine iD zz λx H1 I1 r1 ty q1=>?_
 obtain⟨h1,h2⟩:=zD I1 r1 ty
 refine⟨T,id,pa,slot,Mn,h1,h2,?_⟩
 have hA:=ha cj U s1 σ H1 _ I1 q1
 rw[hs]at hA⊢
 refine abJ (by show(false||(backTo cj (starEach es X.env)).any (·.1))=false;rw[uc]<;>rfl) (acH ?_)
 exact aU hA λus s2 zz=>bu zz λvs H2 I2 r2 q2=>hm U s2 σ H2 x vs v us Q I2 r1 r2 q2
end
def Rp(X:Cx)(id:String)(r:V->List V->Hp->VK->Prop):Prop:=
 ∀(U:List (Addr×Obj)) (s:Shared) (σ:St) (H:Hp) (x:V) (xs:List V) (v:Value) (us:List Value) (Q:VK),Inv X U σ H s->RelV x v->aE xs us->r x xs H Q->
  wpAny (model X.prog X.w) X.A (call (.builtin id) (v::us)) (EP X U σ Q) X.xe s
def aE.one(h:aE [x] us):∃u,us=[u]/\RelV x u:=by
 cases h with
 |cons r t=>cases t;exact⟨_,rfl,r⟩
def aE.zero:∀{us:List Value},aE [] us->us=[]
 |_,.nil =>rfl
theorem aE.dropLast(h:aE xs us):aE xs.dropLast us.dropLast:=by
 induction h with
 |nil=>exact .nil
 |cons r t ih=>
  cases t with
  |nil=>exact .nil
  |cons q t'=>exact .cons r ih
def ud(l:List α):l.eraseIdx (l.length-1)=l.dropLast:=by
 induction l with
 |nil=>rfl
 |cons a r ih=>
  cases r with
  |nil=>rfl
  |cons b r=>
   have e:(a::b::r).length-1=((b::r).length-1)+1:=by
    have h1:(a::b::r).length =r.length+2:=rfl
    have h2:(b::r).length =r.length+1:=rfl
    exact h2
   rw[e,List.eraseIdx_cons_succ,ih]
   all_goals rfl
section
variable {X:Cx}{U:List (Addr×Obj)}{σ:St}{H:Hp}{s:Shared}{l b:Addr}{xs ys zs:List V}
def Inv.Ic{its its':List Value}{n:Nat}{f:Array Value->Array Value}{t':Nat}(I:Inv X U σ H s)(hH:H l=some (.lst xs))
  (e:s.heap.get? l=some {cls:= .type "list",data:= .seq its.toArray n}) (hf:f its.toArray=its'.toArray) (hv:aE ys its') (hz:ys.length<=sizeLine):
  Inv X U σ (upd H l (.lst ys)) {s with heap:=s.heap.update l (Obj.mapSeq f),toks:=t'}:=by
 have q:=PySem.IsL.update e f
 rw[hf]at q
 exact I.write (x:=l) (e:=l) (by rw[hH];exact trivial) (.inl rfl) (λb' u hb hu=>(aap s.heap (Obj.mapSeq f) (aaH hb)).trans hu) ⟨_,q⟩<|⟨hz,its',_,hv,q⟩
def Inv.Mo(I:Inv X U σ H s)(hv:aE ys its)(hz:ys.length<=sizeLine):
  Inv X U σ (upd H s.heap.objs.size (.lst ys)) {s with heap:=s.heap.push {cls:= .type "list",data:= .seq its.toArray},toks:=t'}:=
 I.laid (λ_ _ q=>Zv _ q) (ZG _) ⟨hz,its,0,hv,ZN _ rfl⟩
theorem Inv.fresh(I:Inv X U σ H s):H s.heap.objs.size=none:=I.aI.fresh (ZG _)
def Inv.Ie(I:Inv X U σ H s)(hH:H l=some (.lst xs)):xs.length<=sizeLine/\∃(its:List Value) (n:Nat),aE xs its/\xs.length=its.length/\s.heap.get? l=some {cls:= .type "list",data:= .seq its.toArray n}:=by
 refine au λnO=>?_
 obtain⟨z,its,n,r,e⟩:=I.aI l _ hH
 exact nO<|⟨z,its,n,r,r.length,e⟩
def zF(h:n<=sizeLine):Builtin.List.listTooLong n=false:=by
 unfold Builtin.List.listTooLong
 exact decide_eq_false (Nat.not_lt_of_le h)
end
section
variable {X:Cx}
def Dc:V->List V->Hp->VK->Prop:=λx vs H Q=>∃l xs y,x= .ref l/\vs=[y]/\H l=some (.lst xs)/\xs.length<sizeLine/\Q .bX (upd H l (.lst (xs++[y])))
def n_:Rp X "list.append" Dc:=by
 intro U s σ H x vs v us Q I rx rv h
 refine au λnO=>tS h λl xs y ah aM hH hz q=>?_
 try clear h
 subst ah
 subst aM
 cases rx
 refine aa rv.one λu cO ru=>?_
 subst cO
 obtain⟨z,its,n,r,hl,e⟩:=I.Ie hH
 refine nO ?_
 refine call_meets F.slot_list_append ⟨_,e,rfl⟩ F.entry_list_append (F.args_list_append_2 _ _) (PySem.list_append l its.toArray n u (by rw[ZI];exact Zw (ZF (aaa hl)) (Zx hz))) ⟨e,?_⟩
 refine⟨.bX,_,I.Ic (its':=its++[u]) hH e (by simp) (r.append (.cons ru .nil)) ?_,rfl,q⟩
 rw[ZQ,aah]
 exact hz
def Rq:V->List V->Hp->VK->Prop:=λx vs H Q=>∃l xs y,x= .ref l/\vs=[]/\H l=some (.lst xs)/\xs[xs.length-1]?=some y/\Q y (upd H l (.lst xs.dropLast))
def Ig:Rp X "list.pop" Rq:=by
 intro U s σ H x vs v us Q I rx rv h
 refine au λnO=>tS h λl xs y ah aM hH hy q=>?_
 try clear h
 subst ah
 subst aM
 cases rx
 have Wy:=rv.zero
 subst Wy
 obtain⟨z,its,n,r,hl,e⟩:=I.Ie hH
 refine aa (r.get hy) λu hu ru=>nO ?_
 have K6:its.toArray[its.toArray.size-1]?=some u:=by
  show its.toArray[its.length-1]?=some u
  rw[<-aaD,<-hl]
  exact hu
 refine call_meets F.slot_list_pop ⟨_,e,rfl⟩ F.entry_list_pop (F.args_list_pop_1 _) (MeetsSeq.list_pop_last l its.toArray n u K6 (by rw[ZI];exact Zw (ZF (aaa hl)) z)) ⟨e,?_⟩
 refine⟨y,_,I.Ic (its':=its.dropLast) hH e ?_ r.dropLast ?_,ru,q⟩
 .show its.toArray.eraseIdxIfInBounds (its.toArray.size-1)=its.dropLast.toArray
  rw[ZI,List.eraseIdxIfInBounds_toArray,ud]
 .rw[List.length_dropLast]
  exact Zw (aaX _ _) z
end
section
variable {prog:Program}{w:World}{A:Around}{E:Value->Shared->Prop}{s:Shared}{X:Cx}
end
end L2
namespace UO
open PySem PySem.W PySem.Calls PyProof.Rows
def kK:∀(ns:List Int) (vs:List Value),WellAll P h vs (ns.map WData.int)->IntsAre vs ns:=by
 intro ns
 induction ns with
 |nil=>
  intro vs w
  rw[afC]at w
  cases w
  exact .nil
 |cons n ns ih=>
  intro vs w
  rw[Z4]at w
  cases w with
  |cons a b=>
   cases a
   exact .cons _ _ (ih _ b)
def xw{l:OpenLaw}{n:Nat}(hn:l.most=some n){P:Params}{h:Heap}{args:List WData}{vals:List Value}
  (Dd:l.row.toRowW.claim.pre args=true) (Rr:WellAll P h vals args):
  ∃a vs ns,vals=[Value.ref a]/\args=[WData.list (ns.map WData.int)]/\h.get? a=some {cls:= .type "list",data:= .seq vs.toArray}/\IntsAre vs ns/\ns.length<=n:=by
 have Wz:WShape.hasAll [] args [.list .int]=true:=(pre_splitW Dd).1
 have hc:l.pre.holds [] {args:=args}=true:=(pre_splitW Dd).2
 refine bu (hasAllW_cons Wz) λd r ah h1 h2=>?_
 subst ah
 obtain rfl:=hasAllW_nil h2
 refine aa (hasW_list h1) λxs aM h3=>?_
 subst aM
 obtain⟨ns,rfl⟩:=items_int h3
 have aV:ns.length<=n:=by
  unfold OpenLaw.pre at hc
  have h4:(WTm.not (.lt (.lit (.int (n:Int))) (.len (.arg 0)))).holds [] {args:=[.list (ns.map .int)]}=true:=by
   have h4:=(holds_andW hc).1
   rw[hn]at h4
   exact h4
  have h5:=condW_of h4 (w_not (w_lt w_lit (w_len_list (w_arg rfl))))
  rw[ZA]at h5
  refine Z0 λq=>?_
  have q':(n:Int)<((ns.length:Nat):Int):=by lia
  first
   |(rw[decide_eq_true q']at h5;exact absurd h5 (by decide))
   |(simp at h5;lia)
 cases Rr with
 |cons w1 w2=>
  cases w2
  cases w1 with
  |list ho Ih=>exact⟨_,_,ns,rfl,rfl,ho,kK ns _ Ih,aV⟩
def xy(l:OpenLaw)(args:List WData):l.row.toRowW.claim.post args (.bool true) args=true:=
 postW_of (r:=l.row.toRowW) (X:=(true==true))
  (show WShape.has [] (.bool true) .bool =true by first|rfl|decide|simp[WShape.has,WShape.arms,WShape.armsAll])
  (show(WTm.eq .res (.lit (.bool true))).value [] {args:=args,res:=some (.bool true),after:=args}=some (.bool (true==true)) from w_eq_bool (w_res rfl) w_lit) rfl
def rh{l:OpenLaw}{n:Nat}{q:Program}{loose:List Str}{XP:(Str->Option Value)->Heap->Prop}{YP:World->Heap->Prop}{d:DefRec}
  (hn:l.most=some n) (Ii:d.params.defaults=[])
  (call:∀(w:World) (s₀ aX:Shared) (mg mb:Str->Option Value) (fa:Addr) (o:Obj) (pm cd gC:Value) (a:Addr) (vs:List Value) (ns:List Int),
   Ground q loose [] XP w s₀ mg mb aX.heap->YP w aX.heap->
   aX.heap.get? fa=some o->o.data= .func (docDef d.name d.params d.body d.scope pm cd gC)->aX.heap.CodeRec cd d.name->mg d.name=some (.ref fa)->
   aX.heap.get? a=some {cls:= .type "list",data:= .seq vs.toArray}->IntsAre vs ns->ns.length<=n->aX.gens=#[]->
   codeAny (model l.prog w) callerA (.call (.ref fa) ⟨[.ref a],[]⟩) (λr s'=>r= .ok (.ret (.bool true))/\OldK aX.heap s'.heap/\s'.os=aX.os/\AllBare s'.gens) aX):
  WalkO q loose XP YP l.row.toRowW d [] (λf vs=>PySem.call f vs):=by
 intro w s₀ aX mg mb G Y fa o pm cd gC dV kV ho hd nE hD Mp hg args vals as Dd WA Y_ Rr xA
 obtain rfl:dV= .none :=Dflts.none hD Ii
 obtain rfl:kV= .none :=Dflts.noKw hD
 refine tS (xw hn Dd Rr) λa vs ns ah aM Ij hints aV=>?_
 subst ah
 subst aM
 refine enter_call (adO (call w s₀ aX mg mb fa o pm cd gC a vs ns G Y ho (fd_plain hd) nE Mp Ij hints aV hg) λr s' hq=>?_)
 refine yL hq λcO h2 h3 h4=>?_
 try clear hq
 subst cO
 exact⟨.inl ⟨.bool true,.bool true,[],rfl,λ_=>rfl,.bool true,xy l _,λ_=>⟨List.Pairwise.nil,λ_ hm=>(nomatch hm)⟩⟩,h2,h3,h4⟩
section
variable {prog:Program}{w:World}{A:Around}{E:Value->Shared->Prop}{s:Shared}{K:Frag}
end
end UO
namespace L2
open PySem PySem.Spec PyProof.Rows
def xB:∀{vs:List Value}{ns:List Int},IntsAre vs ns->aE (ns.map V.int) vs:=λ{vs ns} h=>by
 induction h with
 |nil=>exact .nil
 |cons n t h ih=>exact .cons ⟨t,rfl⟩ ih
def Ik(H:Hp):Prop:=∀b,H b=none\/∃o xs,H b=some (.c9 o (.lst xs))
def zG{P:Program}{w:World}{K:aC}{mg mb:Str->Option Value}{CX:xt}{k:Nat}{fa a:Addr}{fd:FuncData}{x:Str}{sp:Sp}{aX:Shared}{vs:List Value}{ns:List Int}
  (KX:K.In aX.heap) (UP:aX.heap.Ns mainGlobals mg) (hb:aX.heap.Ns builtinsNs mb) (WB:∀x:Str,x≠"__name__"->mb x=bootBuiltins x) (Rt:aX.heap.NoLimit) (hg:aX.gens=#[])
  (ha:aX.heap.get? a=some {cls:= .type "list",data:= .seq vs.toArray}) (hi:IntsAre vs ns) (hl:ns.length<=sizeLine) (hr:dW k callerA)
  (F:∀base:Heap,K.In base->base.Ns mainGlobals mg->fY P w K mg base CX k fa fd [x] sp) (Mq:∀(s:Shared) (u:Value),BindsTo s fd ⟨[u],[]⟩ [(x,u)])
  (CA:∀H:Hp,Ik H->du K H a (ns.map V.int)->sp [.ref a] H (λv _=>v= .bl true) λ_ _ _=>False)
  (Ru:∀H e s',CX [] H aX (λ_ _ _=>False) e s'->False):
  codeAny (model P w) callerA (.call (.ref fa) ⟨[.ref a],[]⟩) (λr s'=>r= .ok (.ret (.bool true))/\OldK aX.heap s'.heap/\s'.os=aX.os/\AllBare s'.gens) aX:=by
 have rv:=xB hi
 have Rv:=hi.length
 have aG:∀H:Hp,Ik H->du K H a (ns.map V.int)->fN P w H aX.heap->(∀b,H b≠none->b=a)->(H a≠none->K.lookup a=none)->
   codeAny (model P w) callerA (.call (.ref fa) ⟨[.ref a],[]⟩) (λr s'=>r= .ok (.ret (.bool true))/\OldK aX.heap s'.heap/\s'.os=aX.os/\AllBare s'.gens) aX:=by
  intro H hO hS aI hA hK
  have iQ:∀{b:Addr}{o:Obj},aX.heap.get? b=some o->H b=none->(pI aX.heap H).get? b=some o:=λe n=>yZ e n
  have Md:∀{b:Addr}{o:Obj}{es:Array DictEntry}{ep:Nat},aX.heap.get? b=some o->o.data= .dict es ep->H b=none:=λ{b o es ep} e d=>by
   cases q:H b with
   |none=>rfl
   |some u=>
    have e':b=a:=hA b (by rw[q];simp)
    subst e'
    rw[ha]at e;cases e
    have d':Data.seq vs.toArray _=Data.dict es ep:=d
    cases d'
  have Px:∀{b:Addr}{m:Str->Option Value},aX.heap.Ns b m->(pI aX.heap H).Ns b m:=λ{b m} zz=>b6 zz λo es ep e d r=>⟨o,es,ep,iQ e (Md e d),d,r⟩
  have UQ:K.In (pI aX.heap H):=λb o e=>iQ (KX b o e) (by
   cases q:H b with
   |none=>rfl
   |some u=>
    have e':b=a:=hA b (by rw[q];simp)
    subst e'
    rw[hK (by rw[q];simp)]at e;cases e)
  have hM:Mod K mg (pI aX.heap H):=⟨UQ,Px UP,⟨mb,Px hb,WB⟩,let ⟨mc,h1,h2⟩:=Rt;⟨mc,Px h1,h2⟩⟩
  have e0:C5 P w K mg (pI aX.heap H) callerA [] aX H:=⟨rfl,hM,λb o e=>CP e,ZF (w6 _ _),trivial,λb hb=>absurd (show b∈([]:List Addr) from hb) (by simp),aI,.of_eq hg⟩
  refine adO ((F _ UQ (Px UP)).run callerA [] aX H ⟨[.ref a],[]⟩ [.ref a] [.ref a] _ _ hr e0 (Mq aX (.ref a)) (.cons rfl .nil) (CA H hO hS)) λr s' h=>?_
  cases r with
  |error e=>exact(Ru H e s' h).elim
  |ok fl=>
   cases fl with
   |next=>exact False.elim h
   |brk=>exact False.elim h
   |cont=>exact False.elim h
   |ret u=>
    refine Qz h λv H' os bare un Rw r' q=>?_
    have q':v= .bl true:=q
    subst q'
    obtain rfl:u=Value.bool true:=r'
    refine⟨rfl,OldK.of_keep λb o e=>?_,os,bare⟩
    cases q:H b with
    |none=>exact un.keep b o e q (by intro z;exact absurd (show b∈([]:List Addr) from z) (by simp)) (by simp)
    |some u=>
     rcases hO b with z|⟨ob,xs,z⟩
     .rw[q]at z;cases z
     .have z2:=un.fO b ob _ z
      obtain⟨e1,_⟩:=aI b _ z
      obtain⟨e2,_⟩:=Rw b _ z2
      rw[e]at e1;cases e1
      exact e2
 cases hk:K.lookup a with
 |some o=>
  have e:=KX a o hk
  rw[ha]at e
  cases e
  refine aG (λ_=>none) (λ_=> .inl rfl) (.inr ⟨_,vs.toArray,_,hk,rfl,rfl,rfl,by rw[ZI,Rv];exact hl,by simpa using rv⟩) (λb u z=>by have z':(none:Option HO)=some u:=z;cases z') (λb z=>absurd rfl z) λz=>absurd rfl z
 |none=>
  refine aG (λb=>if b=a then some (.c9 {cls:= .type "list",data:= .seq vs.toArray} (.lst (ns.map V.int))) else none) (λb=>?_) (.inl (.inr ⟨{cls:= .type "list",data:= .seq vs.toArray},ZM rfl⟩)) (λb u z=>?_) (λb z=>?_) λ_=>hk
  .by_cases hb:b=a
   .exact .inr ⟨_,_,ZM hb⟩
   .exact .inl (ZW hb)
  .by_cases hb:b=a
   .have z':=(ZM hb).symm.trans z
    cases z'
    subst hb
    exact⟨ha,by rw[ZA];exact hl,vs,_,rv,ha⟩
   .have z':=(ZW hb).symm.trans z
    cases z'
  .by_cases hb:b=a
   .exact hb
   .exact absurd (ZW hb) z
def Df{l:PySem.W.OpenLaw}{n k:Nat}{q:Program}{loose:List Str}{XP:(Str->Option Value)->Heap->Prop}{YP:World->Heap->Prop}{d:DefRec}{K:Params->aC}{CX:World->xt}{sp:World->Sp}{x:Str}
  (hn:l.most=some n) (Gb:n<=sizeLine) (Ii:d.params.defaults=[]) (hr:dW k callerA)
  (hY:∀(w:World) (h:Heap),YP w h->(K w.params).In h)
  (F:∀(w:World) (mg:Str->Option Value) (fa:Addr) (h:Heap),(K w.params).In h->h.Ns mainGlobals mg->mg d.name=some (.ref fa)->
   ∃fd:FuncData,(∀(s:Shared) (u:Value),BindsTo s fd ⟨[u],[]⟩ [(x,u)])/\
    ∀base:Heap,(K w.params).In base->base.Ns mainGlobals mg->fY l.prog w (K w.params) mg base (CX w) k fa fd [x] (sp w))
  (CA:∀(w:World) (H:Hp) (a:Addr) (ns:List Int),ns.length<=n->Ik H->du (K w.params) H a (ns.map V.int)->sp w [.ref a] H (λv _=>v= .bl true) λ_ _ _=>False)
  (Ru:∀(w:World) (H:Hp) (s:Shared) (e:Value) (s':Shared),CX w [] H s (λ_ _ _=>False) e s'->False):
  PySem.W.WalkO q loose XP YP l.row.toRowW d [] (λf vs=>PySem.call f vs):=by
 refine UO.rh hn Ii λw s₀ aX mg mb fa o pm cd gC a vs ns G Y ho hd nE Mp Ij hints aV hg=>?_
 have KX:=hY w _ Y
 exact aa (F w mg fa _ KX G.T.g Mp) λfd hb hF=>zG KX G.T.g G.T.b G.T.builtins G.T.nolimit hg Ij hints (Zw aV Gb) hr hF hb (λH hO hS=>CA w H a ns aV hO hS) λH e s'=>Ru w H aX e s'
noncomputable def de(s:Stmt):Arguments:=match s with
 | .FunctionDef _ a _ _ _ _ _ _ _ _=>a
 |_=>{posonlyargs:=[],args:=[],vararg:=none,kwonlyargs:=[],kw_defaults:=[],kwarg:=none,defaults:=[]}
noncomputable def bD(s:Stmt):List Stmt:=match s with
 | .FunctionDef _ _ b _ _ _ _ _ _ _=>b
 |_=>[]
noncomputable def af(s:Stmt):Scope:=match s with
 | .FunctionDef _ _ _ _ _ _ sc _ _ _=>sc
 |_=>{kind:= .function,names:=[],isGenerator:=false,isCoroutine:=false}
abbrev rj:xt:=λ_ _ _ _ _ _=>False
abbrev E0:XK:=λ_ _ _=>False
def zH:t9 rj X E0:=λ_ _ _ _ _ _ _ h=>h.elim
structure zI(K:aC)(x qual:Str)(st:Stmt)(f:Addr)(fd:FuncData):Prop where
 ex:∃(oc:Value) (od:Option Addr) (kV gC pm:Value) (an:Option Addr) (dH ct:Value) (Cy:Array (Option Value)),
  fd=PySem.W.fnOf x qual (de st) (bD st) (af st) .none kV gC pm an dH ct/\K.lookup f=some ⟨oc,od,.func fd,Cy⟩/\PySem.W.codeIn K dH qual=true
 kp:PySem.W.keepIn K (.ref f)=true
section
variable {P:Program}{w:World}{K:aC}{mg:Str->Option Value}{base:Heap}{X:Cx}
def zI.ok{x qual:Str}{st:Stmt}{f:Addr}{fd:FuncData}{N ps:List Str}{k:Nat}{sp:Sp}(F:zI K x qual st f fd)(S:c_ N ps (af st))(len:∀vs H Q E,sp vs H Q E->vs.length=ps.length)
  (iK:∀(dH:Value) (A:Around) (outer:List Env) (s:Shared) (H:Hp) (vs:List V) (Q:VK) (E:XK),dW k (A.deeper (envOfC qual (af st) s.heap.objs.size f dH))->sp vs H Q E->
   ∃t,jF (gN rj P w K mg base N qual (af st) f dH A outer s H E).w_ (bD st) t/\t {nx:=λ_ H'=>Q .bX H',rt:=Q} (start N vs) H):fY P w K mg base rj (k+1) f fd ps sp:=by
 refine UD F.ex λoc od kV gC pm an dH ct Cy ah lk nE=>?_
 subst ah
 exact F8 lk nE S len λA outer s H vs Q E hr CA=>aa (iK dH A outer s H vs Q E hr CA) λt h q=>⟨t,h.w_,q⟩
def zI.binds{x qual:Str}{st:Stmt}{f:Addr}{fd:FuncData}{ps:List Str}(F:zI K x qual st f fd)
  (h:∀(kV gC pm:Value) (an:Option Addr) (dH ct:Value) (us:List Value),us.length=ps.length->bindArgs (PySem.W.fnOf x qual (de st) (bD st) (af st) .none kV gC pm an dH ct) ⟨us,[]⟩=pure (ps.zip us)):Binds K fd ps []:=by
 refine UD F.ex λoc od kV gC pm an dH ct Cy ah lk nE=>?_
 subst ah
 exact .all (h kV gC pm an dH ct)
def Il{x qual:Str}{st:Stmt}{f:Addr}{oc:Value}{od an:Option Addr}{Cy:Array (Option Value)}{kV gC pm dH ct:Value}(l:K.lookup f=some ⟨oc,od,.func (PySem.W.fnOf x qual (de st) (bD st) (af st) .none kV gC pm an dH ct),Cy⟩)
  (c:PySem.W.codeIn K dH qual=true) (k:PySem.W.keepIn K (.ref f)=true):zI K x qual st f (PySem.W.fnOf x qual (de st) (bD st) (af st) .none kV gC pm an dH ct):=⟨⟨oc,od,kV,gC,pm,an,dH,ct,Cy,rfl,l,c⟩,k⟩
end
def kL{A B:Prop}(h:B):if false=true then A else B:=by
 rw[ZW Zz]
 exact h
def iR{A B:Prop}(h:A):if true=true then A else B:=by
 rw[ZM rfl]
 exact h
def ag(H H':Hp):Prop:=∀b o,H b=some o->H' b=some o
def ag.refl(H:Hp):ag H H:=λ_ _ h=>h
def ag.trans(a:ag H H1)(b:ag H1 H2):ag H H2:=λc o h=>b c o (a c o h)
def ag.seq{K:aC}{H H':Hp}{a:Addr}{xs:List V}(e:ag H H')(h:du K H a xs):du K H' a xs:=by
 rcases h with (h|⟨o,h⟩)|h
 .exact .inl (.inl (e _ _ h))
 .exact .inl (.inr ⟨o,e _ _ h⟩)
 .exact .inr h
end L2
namespace L2
open PySem
theorem il(env:Env):∀(l:List (Str×NameKind)) (cs:List (Str×Addr)),(∀y∈l,y.2= .free ->∃c,env.cells.lookup y.1=some c)->
  ∃cl,(forIn l cs λ(x:Str×NameKind) (r:List (Str×Addr))=>if(x.2==NameKind.free)=true then(do let a<-cellOf env x.1;pure (ForInStep.yield ((x.1,a)::r))) else pure (ForInStep.yield r):Sem (List (Str×Addr)))=pure cl/\
   (∀x c,cl.lookup x=some c->cs.lookup x=some c\/(env.cells.lookup x=some c/\(x,NameKind.free)∈l))/\
   (∀x,(x,NameKind.free)∈l\/(∃c,cs.lookup x=some c)->∃c,cl.lookup x=some c)
 |[],cs,_=>⟨cs,rfl,λx c h=> .inl h,λx h=>h.elim (λz=>nomatch z) id⟩
 |(n,k)::l,cs,h=>by
  have hl:∀y∈l,y.2= .free ->∃c,env.cells.lookup y.1=some c:=λy hy=>h y (Zy _ hy)
  by_cases hk:k= .free
  .subst hk
   obtain⟨c,hc⟩:=h (n,.free) ZD rfl
   refine bB (il env l ((n,c)::cs) hl) λcl e h1 h2=>⟨cl,?_,λx d hx=>?_,λx hx=>?_⟩
   .rw[abY]
    simp only[beq_self_eq_true,if_true,cellOf,hc]
    exact e
   .rcases h1 x d hx with z|⟨z,m⟩
    .rw[acM]at z
     by_cases K7:(x==n)=true
     .rw[K7]at z
      have:x=n:=eq_of_beq K7
      subst this
      cases z
      exact .inr ⟨hc,ZD⟩
     .have e0:(x==n)=false:=by simpa using K7
      rw[e0]at z
      exact .inl z
    .exact .inr ⟨z,Zy _ m⟩
   .refine h2 x ?_
    rcases hx with hx|⟨d,hd⟩
    .rcases ZK.mp hx with e1|hx
     .cases e1
      exact .inr ⟨c,by rw[acM,beq_self_eq_true]⟩
     .exact .inl hx
    .by_cases K7:(x==n)=true
     .exact .inr ⟨c,by rw[acM,K7]⟩
     .have e0:(x==n)=false:=by simpa using K7
      exact .inr ⟨d,by rw[acM,e0];exact hd⟩
  .refine bB (il env l cs hl) λcl e h1 h2=>?_
   have hb:(k==NameKind.free)=false:=by simpa using hk
   refine⟨cl,?_,λx d hx=>?_,λx hx=>h2 x ?_⟩
   .rw[abY]
    simp only[hb,abp,if_false]
    exact e
   .rcases h1 x d hx with z|⟨z,m⟩
    .exact .inl z
    .exact .inr ⟨z,Zy _ m⟩
   .rcases hx with hx|hx
    .rcases ZK.mp hx with e1|hx
     .cases e1;exact absurd rfl hk
     .exact .inl hx
    .exact .inr hx
def ue(h:∀y∈sc.names,y.2= .free ->∃c,env.cells.lookup y.1=some c):
  ∃cl,closureFor sc env=pure cl/\(∀x c,cl.lookup x=some c->env.cells.lookup x=some c/\(x,NameKind.free)∈sc.names)/\(∀x,(x,NameKind.free)∈sc.names->∃c,cl.lookup x=some c):=by
 refine bB (il env sc.names [] h) λcl e h1 h2=>⟨cl,?_,λx c hx=>(h1 x c hx).resolve_left (λz=>by simp at z),λx hx=>h2 x (.inl hx)⟩
 have e':closureFor sc env=(forIn sc.names ([]:List (Str×Addr)) λ(x:Str×NameKind) (r:List (Str×Addr))=>if(x.2==NameKind.free)=true then(do let a<-cellOf env x.1;pure (ForInStep.yield ((x.1,a)::r))) else pure (ForInStep.yield r):Sem (List (Str×Addr))) >>= λr=>pure r:=by
  rfl
 rw[e',e]
 rfl
section
variable {prog:Program}{w:World}{A:Around}{E:Value->Shared->Prop}{R:Result->Shared->Prop}{s:Shared}
def uf(I:Nat->Shared->Prop)
  (turn:∀n s,I n s->wpAny (model prog w) A (pyNext it) (λr aX=>match r with
   |none=>R (.ok .next) aX
   |some v=>wpAny (model prog w) A (letOwnedTupleGo target it v) (λ_ Gd=>wpAny (model prog w) A (assign target env v) (λ_ lK=>
     wpAny (model prog w) A (forIn ifs true λc r=>if r=true then do let ok<-isTrue c env (eval c env);pure (ForInStep.yield ok) else pure (ForInStep.yield r)) (λok xC=>
      if ok=true then wpAny (model prog w) A (eval d_ env) (λx Mr=>
       wpAny (model prog w) A (call (.builtin "list.append") [acc,x]) (λ_ Mt=>∃m,m<n/\I m Mt) (λ_ _=>False) Mr) (λ_ _=>False) xC
      else∃m,m<n/\I m xC) (λ_ _=>False) lK) (λ_ _=>False) Gd) (λ_ _=>False) aX) (λ_ _=>False) s)
  (n:Nat) (h:I n s):
  codeAny (model prog w) A (.compLoop (.ListComp d_ [⟨target,iter,ifs,0⟩] scope pos) 0 it acc env) R s:=by
 refine codeAny_loop rfl I (λn s hI=>?_) n h
 show wpAny _ A ((compTurn (.ListComp d_ [⟨target,iter,ifs,0⟩] scope pos) 0 it acc env).onRaise (λx=>do noteFrame x env;theTreesLotGoes x)) _ _ s
 refine wpAny_noted ?_
 rw[compTurn_list]
 refine Zq (aeo (Zq (aaJ (turn n s hI) (λr aX Dg=>?_) λ_ _ h'=>h'.elim)))
 cases r with
 |none=>exact ZC Dg
 |some v=>
  refine Zq (aaJ Dg (λ_ Gd Mu=>?_) λ_ _ h'=>h'.elim)
  refine Zq (aaJ Mu (λ_ lK zJ=>Zq (aaJ zJ (λok xC Di=>?_) λ_ _ h'=>h'.elim)) λ_ _ h'=>h'.elim)
  cases ok with
  |false=>exact ZC ⟨rfl,Di⟩
  |true=>
   exact Zq (Zq (aaJ Di (λx Mr Rx=>Zq (aaJ Rx (λ_ Mt Ry=>ZC (ZC ⟨rfl,Ry⟩)) λ_ _ h'=>h'.elim)) λ_ _ h'=>h'.elim))
end
end L2
set_option maxHeartbeats 4000000
namespace L2
open PySem PySem.Spec PyProof.Rows
def Inv.Ge(I:Inv X U σ H s)(h:du X.K H a xs):∃(its:List Value) (n:Nat),aE xs its/\xs.length=its.length/\s.heap.get? a=some {cls:= .type "list",data:= .seq its.toArray n}/\xs.length<=sizeLine:=by
 rcases h with h|⟨o,its,n,hk,hc,hd,hs,hz,r,Pz⟩
 .obtain⟨z,its,n,r,e⟩:=h.ok I.aI
  exact⟨its,n,r,r.length,e,z⟩
 .refine⟨its.toList,n,r,r.length,?_,?_⟩
  .rw[I.yN a o hk]
   obtain⟨c,d,dt,sl⟩:=o
   simp only at hc hd hs Pz
   subst hc hd hs Pz
   simp
  .have e:=r.length
   simp only[Z_]at e
   exact Zw (ZF e) hz
theorem PB{env:Env}:∀{names:List (Str×NameKind)}{x:Str},(names.map λ(n,k)=>if(k==NameKind.free&&env.scope.kind == .function&&env.kindOf n==some .cell) then(n,NameKind.cell) else(n,k)).lookup x=
  (names.lookup x).map λk=>if(k==NameKind.free&&env.scope.kind == .function&&env.kindOf x==some .cell)=true then NameKind.cell else k
 |[],_=>rfl
 |(n,k)::r,x=>by
  rw[Z4]
  show List.lookup x ((if(k==NameKind.free&&env.scope.kind == .function&&env.kindOf n==some .cell)=true then(n,NameKind.cell) else(n,k))::_)=_
  cases hx:x==n with
  |true=>
   cases eq_of_beq hx
   rw[aeO,acY]
   split<;>exact aeO
  |false=>split<;>simp only[acM,hx]<;>exact PB
def gO{sc:Scope}(h:sc.names.lookup x=some .free):(relabel sc env).names.lookup x=some .cell \/(relabel sc env).names.lookup x=some .free :=by
 refine(show _=_ from PB)▸?_
 rw[h,acY]
 split
 .exact .inl rfl
 .exact .inr rfl
def kg(hk:kd= .cell \/kd= .free)(h:(relabel sc env).names.lookup x=some kd):(x,NameKind.free)∈sc.names\/(x,NameKind.cell)∈sc.names:=by
 rw[show(relabel sc env).names.lookup x=_ from PB]at h
 obtain⟨k,h1,h2⟩:=acu.mp h
 have:=aax h1
 cases k with
 |free=>exact .inl this
 |cell=>exact .inr this
 |_=>simp at h2;subst h2;rcases hk with z|z<;>cases z
theorem lR:∀{names:List (Str×NameKind)}{n:Nat}{acc:List (Str×Addr)},cellsFrom n names acc=cellsFrom n names []++acc
 |[],_,_=>rfl
 |(x,k)::r,n,acc=>by
  unfold cellsFrom
  split
  .rw[lR,lR (acc:=[(x,n)]),aai];rfl
  .exact lR
theorem pT:∀{names:List (Str×NameKind)}{n:Nat},(∀x c,(x,c)∈cellsFrom n names []->(x,NameKind.cell)∈names)/\∀x,(x,NameKind.cell)∈names->∃c,(cellsFrom n names []).lookup x=some c
 |[],_=>⟨λ_ _ h=>(nomatch h),λ_ h=>nomatch h⟩
 |(y,k)::r,n=>by
  unfold cellsFrom
  split
  .rename_i hk
   cases eq_of_beq hk
   rw[lR]
   obtain⟨a,b⟩:=@pT r (n+1)
   refine⟨λx c h=>?_,λx h=>?_⟩
   .rcases ZZ.mp h with z|z
    .exact Zy _ (a x c z)
    .cases ZE.mp z;exact ZD
   .rw[adR]
    cases q:(cellsFrom (n+1) r []).lookup x with
    |some c=>exact⟨c,rfl⟩
    |none=>
     rcases ZK.mp h with z|z
     .cases z;exact⟨n,by simp⟩
     .obtain⟨c,hc⟩:=b x z
      rw[q]at hc;cases hc
  .rename_i hk
   obtain⟨a,b⟩:=@pT r n
   refine⟨λx c h=>Zy _ (a x c h),λx h=>?_⟩
   rcases ZK.mp h with z|z
   .cases z;exact absurd rfl hk
   .exact b x z
def xD(X:Cx)(ifs:List Expr)(t:TT):Prop:=
 ∀(U:List (Addr×Obj)) (s:Shared) (σ:St) (H:Hp) (Q:Bool->Hp->Prop),Inv X U σ H s->t σ H Q->
  wpAny (model X.prog X.w) X.A (forIn ifs true λc r=>if r=true then do let ok<-isTrue c X.env (eval c X.env);pure (ForInStep.yield ok) else pure (ForInStep.yield r)) (TP X U σ Q) X.xe s
theorem og:∀(cs:List Expr),(forIn cs false λc r=>if r=true then do let ok<-isTrue c env (eval c env);pure (ForInStep.yield ok) else pure (ForInStep.yield r):Sem Bool)=pure false
 |[]=>rfl
 |c::cs=>by
  rw[abY,ZW Zz]
  exact og cs
section
variable {X:Cx}
def Dj:xD X [] (λσ H Q=>Q true H):=λ_ _ _ H _ I h=>ZC ⟨H,I,h⟩
def zK(h:PT X c t)(hr:xD X cs u):xD X (c::cs) (LX t u):=by
 intro U s σ H Q I hw
 rw[abY,ZM rfl]
 refine Zq (Zq (aU (h U s σ H _ I hw) λb s1 zz=>aa zz λH1 I1 q1=>ZC ?_))
 cases b with
 |true=>exact hr U s1 σ H1 Q I1 q1
 |false=>
  show wpAny _ _ (forIn cs false _) _ _ _
  rw[og]
  exact ZC ⟨H1,I1,q1⟩
noncomputable def iS(fr:List Nat)(σ:St):St:=fr.map λi=>(σ[i]?).join
noncomputable def gP(X:Cx)(sc:Scope)(cl:List (Str×Addr))(C:Addr)(N:List Str)(U:List (Addr×Obj))(s:Shared)(H:Hp)(ex:List Addr):Cx:=
 {X with N:=N,s₀:=s,H₀:=H,env:=compEnvC sc cl C X.env,outer:=X.stack,ex:=ex,fn:=λx=>decide ((x,NameKind.cell)∈sc.names),pn:=X.pn++U,xe:=λ_ _=>False}
structure Im(N:List Str)(CF:Scope)(sc:Scope)(N':List Str)(k:Nat)(fr:List Nat):Prop where
 kind:sc.kind= .function
 apart:∀y∈sc.names,y.2= .free ->(y.1,NameKind.cell)∉sc.names
 loc:∀y∈sc.names,y.2= .local ->sc.names.lookup y.1=some .local
 free:∀y∈sc.names,y.2= .free ->CF.names.lookup y.1=some .cell \/CF.names.lookup y.1=some .free
 len:N'.length=k+fr.length
 WC:∀j x,N'[k+j]?=some x->∃i,fr[j]?=some i/\N[i]?=some x/\sc.names.lookup x=some .free
def oh(k:Nat)(fr:List Nat)(wi:TI)(g:TG)(tt:TT)(te:TE):TE:=λσ H Q=>wi σ H λJ H1=>
 ∀p,H1 p=none->∃W:Nat->Nat->Hp->Prop,(∃m,W 0 m (upd H1 p (.lst [])))/\∀i m H,W i m H->
  (J.stop i H/\Q (.ref p) H)\/
  (J.go i H/\∀x H',J.zl i H x H'->g x (List.replicate k none++iS fr σ) H' λyO H2=>tt yO H2 λb H3=>
   if b=true then te yO H3 λv H4=>∃xs m',H4 p=some (.lst xs)/\xs.length<sizeLine/\m'<m/\W (i+1) m' (upd H4 p (.lst (xs++[v])))
   else∃m',m'<m/\W (i+1) m' H3)
def pU(k:Nat)(g:TG):Prop:=∀x σ H Q,g x σ H Q->g x σ H λyO H2=>Q yO H2/\yO.length=σ.length/\∀i,k<=i->yO[i]?=σ[i]?
def zL(I:Inv X U σ H s)(S:Im X.N X.env.scope sc N' k fr)
  (h1:∀x c,cl.lookup x=some c->X.env.cells.lookup x=some c/\(x,NameKind.free)∈sc.names\/(x,NameKind.cell)∈sc.names/\s.heap.objs.size<c/\s4.heap.IsCell c none) (h2:∀x,(x,NameKind.free)∈sc.names\/(x,NameKind.cell)∈sc.names->∃c,cl.lookup x=some c)
  (inj:∀x y c,cl.lookup x=some c->cl.lookup y=some c->x=y) (PD:∀b∈fp,kI X U H b) (bg:∀b∈fp,b<s.heap.objs.size) (os:s4.os=s.os) (gens:s4.gens=s.gens) (keep:∀b o,s.heap.get? b=some o->s4.heap.get? b=some o)
  (ns:s4.heap.Ns s.heap.objs.size m):
  Inv (gP X sc cl s.heap.objs.size N' U s H fp) [] (List.replicate k none++iS fr σ) H s4:=by
 have kx:∀x,(x,NameKind.free)∈sc.names->X.env.kindOf x=some .cell \/X.env.kindOf x=some .free :=λx hx=>S.free (x,.free) hx rfl
 have Gf:∀x c v,X.env.cells.lookup x=some c->s.heap.IsCell c v->s4.heap.IsCell c v:=λx c v _ ⟨o,ho,hd⟩=>⟨o,keep c o ho,hd⟩
 refine⟨⟨I.ok.mod,S.kind,I.ok.glob,I.ok.blt,ZG _,inj,λx hx=>?_,λx c hf hx=>?_,I.ok.hd,I.ok.frames,.inl rfl,λb hb=>⟨?_,λx c hx=>?_⟩,I.bs,Zw I.ok.CQ I.sz,λb o e hb=>?_,λb hb=>?_,I.stack,I.kX⟩,
  os,by rw[gens];exact I.bare,Un.kept keep,⟨m,ns,λi x v e1 e2 e3=>?_⟩,λx c hx=>?_,I.fresh,λx c hx=>?_,λp hp=>?_,I.aI.kept keep,?_⟩
 .rcases hx with hx|hx
  .exact h2 x (kg (.inl rfl) hx)
  .exact h2 x (kg (.inr rfl) hx)
 .rcases h1 x c hx with z|z
  .exact absurd (of_decide_eq_true hf) (S.apart _ z.2 rfl)
  .exact Zx z.2.1
 .exact Z5 (bg b hb)
 .rcases h1 x c hx with z|z
  .exact(PD b hb).2.2.2.2.1 x c z.1
  .exact abQ (adp (bg b hb) z.2.1)
 .rcases (PD b hb).2.2.2.1 with z|z
  .exact I.ok.w8 b o e z
  .exact absurd (Zr (Zr (ZO e) I.ok.CQ) z) (aaC _)
 .intro lS
  rcases ZK.mp (I.lI b lS)with z|z
  .exact(PD b hb).2.1 z
  .exact(PD b hb).2.2.1 z
 .by_cases hi:i<k
  .rw[aaq (by simpa using hi),adx hi]at e2
   cases e2
  .have iT:k<=i:=Z0 hi
   rw[aaz (by simpa using iT),abR]at e2
   have pV:N'[k+(i-k)]?=some x:=by rw[Nat.add_sub_cancel' iT];exact e1
   refine bB (S.WC (i-k) x pV) λj f1 f2 f3=>?_
   unfold iS at e2
   rw[ZJ,f1]at e2
   have Dk:(σ[j]?).join =some v:=by simpa using e2
   have Rz:σ[j]?=some (some v):=by
    cases q:σ[j]? with
    |none=>rw[q]at Dk;cases Dk
    |some y=>rw[q]at Dk;simp at Dk;rw[Dk]
   refine aa I.loc λmo va xA=>?_
   have WD:uU X.env.scope x:=by
    rcases kx x (aax f3)with z|z
    .exact .inr (.inl z)
    .exact .inr (.inr z)
   refine aa (xA j x v f2 Rz WD) λu r l=>⟨u,r,?_⟩
   rcases l with⟨z,_⟩|⟨_,c,hc,uW⟩
   .rcases kx x (aax f3)with y|y
    .rw[y]at z;cases z
    .rw[y]at z;cases z
   .obtain⟨c',kY⟩:=h2 x (.inl (aax f3))
    have ec:=(h1 x c' kY).resolve_right λz=>S.apart _ (aax f3) rfl z.1
    cases hc.symm.trans ec.1
    refine .inr ⟨?_,c,kY,Gf x c _ hc uW⟩
    have vz:uU (relabel sc X.env) x:=e3
    rcases vz with z|z|z
    .rcases gO (env:=X.env) f3 with y|y<;>cases y.symm.trans z
    .exact .inl z
    .exact .inr z
 .rcases h1 x c hx with y|y
  .obtain⟨v,z⟩:=I.cell x c y.1
   exact⟨v,Gf x c v y.1 z⟩
  .exact⟨_,y.2.2⟩
 .rcases h1 x c hx with y|y
  .exact I.dG x c y.1
  .exact I.aI.fresh (Zx y.2.1)
 .have K8:p∈X.pn++U:=by simpa[gP]using hp
  refine Lv (I.pin p K8) λe n ne nf d=>⟨keep _ _ e,n,Z5 (ZO e),λz=>?_,d⟩
  rcases ZK.mp (I.lI p.1 z)with y|y
  .exact ne y
  .exact nf y
 .show _=N'.length
  rw[S.len,ZQ,abR]
  unfold iS
  rw[ZA]
def Mv(X:Cx)(U:List (Addr×Obj))(H:Hp)(C:Addr):Prop:=
 H C=none/\C≠X.env.locals/\X.s₀.heap.objs.size<=C/\(∀x c,X.env.cells.lookup x=some c->c≠C)/\∀p∈X.pn++U,p.1≠C
def Inv.Mw(I:Inv X U σ H s)(h:Mv X U H C)(hs:Heap.SameBut C s.heap h'):Inv X U σ H {s with heap:=h'}:=by
 exact Lv h λa b c d e=>I.turned (t':=s.toks) (it:=C) (λb o hb q=>(hs.2 b hb).trans q) a b (.inr c) d e
theorem oj
  {g:TG}{tt:TT}{te:TE}{E:Value->Shared->Prop}{Qe:Addr->Hp->Prop}{RR:Value->Addr->Result->Shared->Prop}
  (I2:Inv X U σ H1 s2) (T:pN X.prog X.w X.K tg J fp it tn) (cu:tn 0 s2.heap) (f2:∀b∈fp,kI X U H1 b) (S:Im X.N X.env.scope sc N' k fr) (hc:X.calm=true)
  (h1:∀x c,cl.lookup x=some c->X.env.cells.lookup x=some c/\(x,NameKind.free)∈sc.names) (h2:∀x,(x,NameKind.free)∈sc.names->∃c,cl.lookup x=some c) (gk:pU k g)
  (Io:∀cl C s H ex,PG (gP X sc cl C N' U s H ex) tg g/\xD (gP X sc cl C N' U s H ex) ifs tt/\PE (gP X sc cl C N' U s H ex) d_ te)
  (hW:∀p,H1 p=none->∃W:Nat->Nat->Hp->Prop,(∃m,W 0 m (upd H1 p (.lst [])))/\∀i m H,W i m H->
   (J.stop i H/\Qe p H)\/
   (J.go i H/\∀x H',J.zl i H x H'->g x (List.replicate k none++iS fr σ) H' λyO H2=>tt yO H2 λb H3=>
    if b=true then te yO H3 λv H4=>∃xs m',H4 p=some (.lst xs)/\xs.length<sizeLine/\m'<m/\W (i+1) m' (upd H4 p (.lst (xs++[v])))
    else∃m',m'<m/\W (i+1) m' H3))
  (WE:∀a C s' H',Inv X U σ H' s'->Mv X U H' C->(∃m,s'.heap.Ns C m)->Qe a H'->RR (.ref a) C (.ok .next) s'):
  wpAny (model X.prog X.w) X.A (newList []) (λacc s3=>wpAny (model X.prog X.w) X.A (newFunctionEnv sc X.env.globals cl [] X.env.qual none .none (some X.env)) (λMx s4=>
   codeAny (model X.prog X.w) X.A (.compStart (.ListComp d_ [⟨tg,iter,ifs,0⟩] sc pos) 0 (.ref it) acc {Mx with scope:=relabel sc X.env}) (RR acc Mx.locals) s4) E s3) E s2:=by
 have hD:H1 s2.heap.objs.size=none:=I2.fresh
 refine au λnO=>?_
 obtain⟨W,⟨m0,w0⟩,turn⟩:=hW _ hD
 refine nO ?_
 have Gg:∀b∈fp,b<s2.heap.objs.size:=λb hb=>by
  exact aa (T.obj _ _ cu b hb) λo e _=>ZO e
 refine Z' ?_ (aab _)
 have I3:Inv X U σ (upd H1 s2.heap.objs.size (.lst [])) {s2 with heap:=s2.heap.push {cls:= .type "list",data:= .seq ([]:List Value).toArray}}:=I2.Mo (ys:=[]) (its:=[]) (t':=s2.toks) .nil (aab _)
 have Gh:∀b o,s2.heap.get? b=some o->(s2.heap.push {cls:= .type "list",data:= .seq ([]:List Value).toArray}).get? b=some o:=λb o e=>Zv _ e
 have ne:∀b∈fp,b≠s2.heap.objs.size:=λb hb=>Z5 (Gg b hb)
 have f3:∀b∈fp,kI X U (upd H1 s2.heap.objs.size (.lst [])) b:=λb hb=>⟨by rw[aq (ne b hb)];exact(f2 b hb).1,(f2 b hb).2⟩
 have Dl:∀b∈fp,b<(s2.heap.push {cls:= .type "list",data:= .seq ([]:List Value).toArray}).objs.size :=λb hb=>by
  rw[abz];exact adi (Gg b hb)
 have kJ:tn 0 (s2.heap.push {cls:= .type "list",data:= .seq ([]:List Value).toArray}):=T.keep _ _ _ cu λb _ o e=>Gh b o e
 generalize WG:({s2 with heap:=s2.heap.push {cls:= .type "list",data:= .seq ([]:List Value).toArray}}:Shared)=s3 at *
 have WH:s3.heap=s2.heap.push {cls:= .type "list",data:= .seq ([]:List Value).toArray}:=by rw[<-WG]
 rw[<-WH]at Gh Dl kJ
 simp only[newFunctionEnv,afx,if_true]
 refine Zq (wpAny_alloc (Zq (wpAny_layCells _ (λname kind cells=>by cases WI:kind==NameKind.cell<;>simp[WI]) _ _ _ _ ?_)))
 have ok:=cellsFrom_ok sc.names (s3.heap.push {cls:= .type "dict",data:= .dict #[]}) (s3.heap.objs.size+1) [] ⟨λ_ _ hm=>(nomatch hm),List.Pairwise.nil⟩ (by rw[abz];exact ZG _)
 rw[abz]at ok
 rw[show({s3 with heap:=s3.heap.push {cls:= .type "dict",data:= .dict #[]}}:Shared).heap.objs.size =s3.heap.objs.size+1 from abz ..,lR]
 refine Zq (ZC (ZC ?_))
 have Gi:∀b o,s3.heap.get? b=some o->(pushCells (s3.heap.push {cls:= .type "dict",data:= .dict #[]}) sc.names).get? b=some o:=λb o e=>pushCells_keeps _ _ b o (Zv _ e)
 have WJ:=(Heap.Ns.new s3.heap (.type "dict")).keeps (pushCells_keeps sc.names _)
 have g1:∀x c,(cellsFrom (s3.heap.objs.size+1) sc.names []++cl).lookup x=some c->X.env.cells.lookup x=some c/\(x,NameKind.free)∈sc.names\/(x,c)∈cellsFrom (s3.heap.objs.size+1) sc.names []:=λx c e=>by
  rw[adR]at e
  cases q:(cellsFrom (s3.heap.objs.size+1) sc.names []).lookup x with
  |some c'=>rw[q]at e;cases e;exact .inr (aax q)
  |none=>rw[q]at e;exact .inl (h1 x c e)
 have g2:∀x,(x,NameKind.free)∈sc.names\/(x,NameKind.cell)∈sc.names->∃c,(cellsFrom (s3.heap.objs.size+1) sc.names []++cl).lookup x=some c:=λx e=>by
  rw[adR]
  cases q:(cellsFrom (s3.heap.objs.size+1) sc.names []).lookup x with
  |some c=>exact⟨c,rfl⟩
  |none=>
   rcases e with z|z
   .exact h2 x z
   .obtain⟨c,hc⟩:=pT.2 x z
    cases q.symm.trans hc
 have UR:∀x c,X.env.cells.lookup x=some c->c<s3.heap.objs.size:=λx c e=>by
  obtain⟨v,z⟩:=I3.cell x c e
  exact z.lt
 have gj:∀x y c,(cellsFrom (s3.heap.objs.size+1) sc.names []++cl).lookup x=some c->(cellsFrom (s3.heap.objs.size+1) sc.names []++cl).lookup y=some c->x=y:=λx y c e1 e2=>by
  rcases g1 x c e1 with a|a<;>rcases g1 y c e2 with b|b
  .exact I3.ok.inj x y c a.1 b.1
  .exact absurd (adp (UR x c a.1) (ok.empty y c b).2) (aaC _)
  .exact absurd (adp (UR y c b.1) (ok.empty x c a).2) (aaC _)
  .exact name_of_addr ok.apart a b
 have g3:∀x c,(cellsFrom (s3.heap.objs.size+1) sc.names []++cl).lookup x=some c->X.env.cells.lookup x=some c/\(x,NameKind.free)∈sc.names\/(x,NameKind.cell)∈sc.names/\s3.heap.objs.size<c/\(pushCells (s3.heap.push {cls:= .type "dict",data:= .dict #[]}) sc.names).IsCell c none:=λx c e=>(g1 x c e).imp_right λz=>⟨pT.1 x c z,(ok.empty x c z).2,(ok.empty x c z).1⟩
 clear ok g1 h1 h2
 generalize cellsFrom (s3.heap.objs.size+1) sc.names []++cl=cl at *
 generalize pushCells (s3.heap.push {cls:= .type "dict",data:= .dict #[]}) sc.names=h4 at *
 generalize eH:upd H1 s2.heap.objs.size (.lst [])=H3 at *
 generalize eD:s2.heap.objs.size=D at *
 have J4:Inv (gP X sc cl s3.heap.objs.size N' U s3 H3 fp) [] (List.replicate k none++iS fr σ) H3 {s3 with heap:=h4,toks:=s3.toks}:=
  zL (s4:={s3 with heap:=h4,toks:=s3.toks}) I3 S g3 g2 gj f3 Dl rfl rfl Gi WJ
 have K9:tn 0 h4:=T.keep _ _ _ kJ λb _ o e=>Gi b o e
 refine cy (Io cl s3.heap.objs.size s3 H3 fp) λpg pt pe=>?_
 have tZ:∀{H':Hp},(∀b∈fp,H' b=none)->∀b∈fp,kI (gP X sc cl s3.heap.objs.size N' U s3 H3 fp) [] H' b:=λ{H'} hn b hb=>by
  refine au λnO=>tK (f3 b hb) λ_ a1 a2 a3 a4 a5=>nO ?_
  refine⟨hn b hb,Z5 (Dl b hb),λz=>?_,.inl hb,λx c hx=>(g3 x c hx).elim (λz=>a4 x c z.1) λz=>abQ (adp (Dl b hb) z.2.1),λp hp=>a5 p (by simpa[gP]using hp)⟩
  rcases ZK.mp (I3.lI b z)with y|y
  .exact a1 y
  .exact a2 y
 have fin:∀{s':Shared}{H':Hp},Inv (gP X sc cl s3.heap.objs.size N' U s3 H3 fp) [] (List.replicate k none++iS fr σ) H' s'->Qe D H'->RR (.ref D) s3.heap.objs.size (.ok .next) s':=λ{s' H'} J5 q=>by
  refine WE D s3.heap.objs.size s' H' ?_ ⟨J5.free,(Z5 I3.lt).symm,I3.sz,λx c hx z=>?_,λp hp z=>?_⟩ (let ⟨m,hn,_⟩:=J5.loc;⟨m,hn⟩) q
  .exact I3.F2 (ch:=fp) J5.os J5.base J5.aI J5.bare λb hb=>let ⟨_,a1,a2,a3,a4,a5⟩:=f3 b hb;⟨a3,a1,a4,a5⟩
  .exact au λnO=>dU (I3.cell x c hx) λv o ho _=>nO<|absurd (ZO ho) (by rw[z];exact aaC _)
  .exact absurd (ZO (I3.pin p hp).1) (by rw[z];exact aaC _)
 have loop:∀s5:Shared,s5={s3 with heap:=h4,toks:=s3.toks}->codeAny (model X.prog X.w) X.A (.compLoop (.ListComp d_ [⟨tg,iter,ifs,0⟩] sc pos) 0 (.ref it) (.ref D) (compEnvC sc cl s3.heap.objs.size X.env)) (RR (.ref D) s3.heap.objs.size) s5:=by
  rintro s5 rfl
  refine uf (λn s'=>∃i H',Inv (gP X sc cl s3.heap.objs.size N' U s3 H3 fp) [] (List.replicate k none++iS fr σ) H' s'/\tn i s'.heap/\(∀b∈fp,H' b=none)/\W i n H') ?_ m0 ⟨0,H3,J4,K9,λb hb=>(f3 b hb).1,w0⟩
  rintro n s5 ⟨i,H5,J5,xl,Po,w5⟩
  rcases turn i n H5 w5 with⟨stop,qn⟩|⟨go,step⟩
  .refine aU (T.done (gP X sc cl s3.heap.objs.size N' U s3 H3 fp) rfl rfl rfl hc i [] s5 _ H5 (λ_ _=>False) J5 (tZ Po) xl stop) λr s6 zz=>?_
   obtain⟨hr,J6⟩:=zz
   subst hr
   exact fin J6 qn
  .refine aU (T.item (gP X sc cl s3.heap.objs.size N' U s3 H3 fp) rfl rfl rfl hc i [] s5 _ H5 (λ_ _=>False) J5 (tZ Po) xl go) λr s6 zz=>au λnO=>aa zz λu hr h6=>?_
   subst hr
   refine nO<|aU h6 λ_ s7 zz=>au λnO=>iE zz λx H7 J7 r7 y7 My WK=>nO ?_
   have WL:=J7.pinned (tZ WK) (T.obj _ _ My)
   refine aU (pg _ s7 _ H7 x u _ WL r7 (gk _ _ _ _ (step x H7 y7))) λ_ s8 zz=>au λnO=>iD zz λMz H8 J8 q8 l8 k8=>nO ?_
   have back:∀{s9:Shared}{H9:Hp}{m:Nat},Inv (gP X sc cl s3.heap.objs.size N' U s3 H3 fp) ([]++lL fp s7.heap) Mz H9 s9->m<n->W (i+1) m H9->
     ∃m,m<n/\∃i H',Inv (gP X sc cl s3.heap.objs.size N' U s3 H3 fp) [] (List.replicate k none++iS fr σ) H' s9/\tn i s9.heap/\(∀b∈fp,H' b=none)/\W i m H':=λ{s9 H9 m} J9 hm w9=>by
    refine⟨m,hm,i+1,H9,(J9.iH).weak l8.symm λj v e=>?_,T.keep _ _ _ My λb hb o e=>(J9.pin (b,o) (ZV _ (ZV _ (fm hb e)))).1,λb hb=>?_,w9⟩
    .by_cases hj:j<k
     .rw[aaq (by simpa using hj),adx hj]at e
      cases e
     .rw[k8 j (Z0 hj)];exact e
    .exact aa (T.obj _ _ My b hb) λo e _=>(J9.pin (b,o) (ZV _ (ZV _ (fm hb e)))).2.1
   refine aU (pt _ s8 Mz H8 _ J8 q8) λb s9 zz=>aa zz λH9 J9 q9=>?_
   cases b with
   |false=>
    rw[ZW Zz]at q9⊢
    exact aa q9 λm' hm w'=>back J9 hm w'
   |true=>
    rw[ZM rfl]at q9⊢
    refine aU (pe _ s9 Mz H9 _ J9 q9) λy RA zz=>au λnO=>?_
    obtain⟨v,RB,WM,WN,xs,m',hx,hl,hm,w'⟩:=zz
    refine nO<|aU (n_ _ RA Mz RB (.ref D) [v] (.ref D) [y] (λ_ RC=>∃m',m'<n/\W (i+1) m' RC) WM rfl (.cons WN .nil) ⟨D,xs,v,rfl,rfl,hx,hl,m',hm,w'⟩) λ_ K_ zz=>au λnO=>?_
    obtain⟨_,RC,WO,_,Y',xE,WQ⟩:=zz
    exact nO<|back WO xE WQ
 exact codeAny_compStart_list (loop _ rfl) (T.self X.A 0 _ _ _ K9 (loop _ rfl))
def rk(I:Inv X U σ H s)(S:Im X.N X.env.scope sc N' k fr):
  ∃cl,closureFor sc X.env=pure cl/\(∀x c,cl.lookup x=some c->X.env.cells.lookup x=some c/\(x,NameKind.free)∈sc.names)/\(∀x,(x,NameKind.free)∈sc.names->∃c,cl.lookup x=some c):=
 ue λy hy hf=>I.ok.has y.1 (S.free y hy hf)
def vh(hi:PI X tg iter wi)(S:Im X.N X.env.scope sc N' k fr)(hc:X.calm=true)(gk:pU k g)
  (Io:∀cl C U s H ex,PG (gP X sc cl C N' U s H ex) tg g/\xD (gP X sc cl C N' U s H ex) ifs tt/\PE (gP X sc cl C N' U s H ex) d_ te)
  (hs:∀x,foldedSetIterable iter X.env x=pure x):PE X (.ListComp d_ [⟨tg,iter,ifs,0⟩] sc pos) (oh k fr wi g tt te):=by
 intro U s σ H Q I h
 refine bB (rk I S) λcl RD h1 h2=>?_
 rw[eval_ListComp]
 refine aed (use:=none) (g:=⟨tg,iter,ifs,0⟩) (gs:=[]) rfl hs RD S.kind S.loc<|aU (hi U s σ H _ I h) λv s1 q1=>aU q1 λPl s2 q2=>UB q2 λit fp tn J H2 e I2 T cu f2 hW=>?_
 subst e
 refine oj (Qe:=λp H=>Q (.ref p) H) (RR:=λacc C=>compPost (model X.prog X.w) X.A X.xe none (EP X U σ Q) acc C) I2 T cu f2 S hc h1 h2 gk (λcl C s H ex=>Io cl C U s H ex) hW ?_
 intro a C s' H' I' off ⟨m,hn⟩ q
 exact⟨m,hn,λh' yP=>⟨.ref a,H',I'.Mw off yP,rfl,q⟩⟩
def lU(hi:PI X tg iter wi)(S:Im X.N X.env.scope sc N' k fr)(hc:X.calm=true)(gk:pU k g)
  (Io:∀cl C U s H ex,PG (gP X sc cl C N' U s H ex) tg g/\xD (gP X sc cl C N' U s H ex) ifs tt/\PE (gP X sc cl C N' U s H ex) d_ te)
  (hs:∀x,foldedSetIterable iter X.env x=pure x) (hN:X.N.Nodup) (hj:X.N[j]?=some y) (hy:X.env.scope.names.lookup y=some .local)
  (WR:swapsWith (.ListComp d_ [⟨tg,iter,ifs,0⟩] sc pos) (some (.Name y py)) RE.line X.env=pure true):
  PS X (.Assign [.Name y py] (.ListComp d_ [⟨tg,iter,ifs,0⟩] sc pos) RE) (nF (oh k fr wi g tt te) (cb j)):=by
 intro U s σ H D I h
 refine bB (rk I S) λcl RD h1 h2=>?_
 rw[exec_Assign_Name_used _ _ _ _ WR]
 refine Zq (aeo (Zq ?_))
 show wpAny _ _ (do let _<-comprehension (.ListComp d_ [⟨tg,iter,ifs,0⟩] sc pos) sc X.env _ (newList []) false (eval iter X.env) (some (assign (.Name y py) X.env))) _ _ s
 refine Zq (aaJ (aed (g:=⟨tg,iter,ifs,0⟩) (gs:=[]) (use:=some (assign (.Name y py) X.env)) (Q:=λ_ s'=>SP X U D .next s') rfl hs RD S.kind S.loc ?_) (λ_ s' hq=>ZC (ZC hq)) λ_ _ e=>e)
 refine aU (hi U s σ H _ I h) λv s1 q1=>aU q1 λPl s2 q2=>UB q2 λit fp tn J H2 e I2 T cu f2 hW=>?_
 subst e
 refine oj (Qe:=λp H=>D.nx (σ.set j (some (.ref p))) H) (RR:=λacc C=>compPost (model X.prog X.w) X.A X.xe (some (assign (.Name y py) X.env)) (λ_ s'=>SP X U D .next s') acc C) I2 T cu f2 S hc h1 h2 gk (λcl C s H ex=>Io cl C U s H ex) hW ?_
 intro a C s' H' I' off ⟨m,hn⟩ q
 show wpAny _ _ (assign (.Name y py) X.env (.ref a)) _ _ _
 refine wpAny_assign_Name (jE I' hN hj (.inl hy) (v:= .ref a) rfl (λu9 WS sb=>?_) (.inr hy))
 refine aa sb λb hb lS=>?_
 have WT:C≠b:=by
  rintro rfl
  rcases lS with z|z
  .exact off.2.1 z
  .exact off.2.2.2.1 _ _ z rfl
 exact⟨m,hn.sameBut hb WT,λh' yP=>⟨_,H',WS.Mw off yP,q⟩⟩
end
end L2
namespace dw
noncomputable def df:List Int->List Int->Bool
 |[],[]=>false
 |[],_::_=>true
 |_::_,[]=>false
 |n::u,m::v=>if n=m then df u v else decide (n<m)
noncomputable def xF(x:List Int):List (List Int)->List (List Int)
 |[]=>[x]
 |y::r=>if df y x then y::xF x r else x::y::r
noncomputable def c8:List (List Int)->List (List Int)
 |[]=>[]
 |x::r=>xF x (c8 r)
end dw
namespace Py
open PySem
set_option genInjectivity false
inductive D where
 |bX|bl (b:Bool)|int (i:Int)|str (x:Str)|tup (xs:List D)|lst (xs:List D)
  |bj (t:Nat) (ks:List (List Int)) (vs:List D)
 deriving Inhabited
noncomputable def bR:Nat:=16777216
mutual
noncomputable def nv:D->D->Bool
 | .bX,b=>match b with| .bX =>true| .str _=>true| .bj _ _ _=>true|_=>false
 | .bl x,b=>match b with| .bl y=>x==y| .int j=>(if x then 1 else 0)==j|_=>false
 | .int i,b=>match b with| .bl y=>i==(if y then 1 else 0)| .int j=>i==j|_=>false
 | .tup xs,b=>match b with| .tup ys=>Dm xs ys|_=>false
 | .lst xs,b=>match b with| .lst ys=>Dm xs ys|_=>false
 | .str _,b=>match b with| .bX =>true| .str _=>true| .bj _ _ _=>true|_=>false
 | .bj _ _ _,b=>match b with| .bX =>true| .str _=>true| .bj _ _ _=>true|_=>false
noncomputable def Dm:List D->List D->Bool
 |[],ys=>match ys with|[]=>true|_=>false
 |x::xs,ys=>match ys with|[]=>false|y::ys=>nv x y&&Dm xs ys
end
mutual
noncomputable def aF:D->Bool
 | .tup xs=>aW xs
 | .lst _=>false
 | .bj _ _ _=>false
 |_=>true
noncomputable def aW:List D->Bool
 |[]=>true
 |x::xs=>aF x&&aW xs
end
mutual
noncomputable def gY:D->Nat->Bool
 | .tup xs,n=>match n with|0=>false|n+1=>jH xs n
 | .lst xs,n=>match n with|0=>false|n+1=>jH xs n
 | .bj _ _ _,_=>false
 | .str _,_=>false
 |_,_=>true
noncomputable def jH:List D->Nat->Bool
 |[],_=>true
 |x::xs,n=>gY x n&&jH xs n
end
theorem jI(n:Nat):∀ns:List Int,jH (ns.map .int) n=true
 |[]=>by simp[jH]
 |i::ns=>by simp[jH,gY,jI n ns]
noncomputable def lV:D->Bool
 | .bj t _ _=>t==2
 |_=>false
@[simp] def Ip:D->Bool
 | .bj _ _ _=>false
 |_=>true
inductive ug where
 |len|tuple|list|min
 deriving DecidableEq,Inhabited
inductive US where
 |index|jJ
 deriving DecidableEq,Inhabited
inductive E where
 |nil|cons (a r:E)
 |var (i:Nat)
 |c (d:D)
 |bin (o:Operator) (a b:E)
 |cmp (o:CmpOp) (a b:E)
 |om (k:Bool) (es:E)|not (a:E)|neg (a:E)
  |yQ (a:E) (b:Bool)
 |chain (o o':CmpOp) (a b c:E)
 |rev (a:E)
 |tup (es:E)|lst (es:E)
 |idx (a i:E)
 |sl (a lo hi:E)
 |call (f:Nat) (es:E)
 |prim (p:ug) (es:E)
 |cK (m:US) (o:E) (es:E)
 |comp (fr:List Nat) (tg:Nat) (it ifs d_:E)
 |fj (es:E)|xG (a:E)|it (a:E)
 |nA (p:ug) (es:E)
  |fq (i:Nat) (k:E)
 |CG (i:Nat) (k e:E)
 |vj (neg:Bool) (k:E) (i:Nat)
  |ed (i:Nat)
 |dk (i:Nat)|dv (i:Nat)
 |Gj (a:E)
 deriving Inhabited
noncomputable abbrev E.u(i:Nat):E:= .cons (.var i) .nil
noncomputable abbrev E.w(i:Nat)(r:E):E:= .cons (.var i) r
abbrev Env:=List (Option (Bool×D))
abbrev FT:=Nat->List D->Option D
noncomputable def rd(b:Bool)(ρ:Env)(i:Nat):Option D:=
 match ρ[i]? with
 |some (some (o,d))=>if o&&!(b&&Ip d) then none else some d
 |_=>none
noncomputable def pW(ρ:Env)(i:Nat):Bool:=
 match ρ[i]? with
 |some (some (o,_))=>o
 |_=>false
noncomputable def pX(ρ:Env):E->Bool
 | .cons (.var i) r=>pW ρ i||pX ρ r
 | .cons _ r=>pX ρ r
 |_=>false
noncomputable def kh(i j:Int):Bool:=(decide (-(2 ^ 64)<i)&&decide (i<2 ^ 64))||(decide (-(2 ^ 64)<j)&&decide (j<2 ^ 64))
noncomputable def bin(o:Operator)(x y:D):Option D:=
 match o with
 | .Add =>match x,y with
  | .int i,.int j=>some (.int (i+j))
  | .lst a,.lst b=>if a.length+b.length<=bR then some (.lst (a++b)) else none
  | .tup a,.tup b=>if a.length+b.length<=bR then some (.tup (a++b)) else none
  |_,_=>none
 | .Mult =>match x,y with
  | .int i,.int j=>if kh i j then some (.int (i*j)) else none
  |_,_=>none
 | .FloorDiv =>match x,y with
  | .int i,.int j=>if 0<j/\j<1073741824 then some (.int (i/j)) else none
  |_,_=>none
 | .Mod =>match x,y with
  | .int i,.int j=>if 0<j then some (.int (i%j)) else none
  |_,_=>none
 |_=>none
noncomputable def aP:List D->Option (List Int)
 |[]=>some []
 | .int i::r=>(aP r).map (i:: ·)
 |_::_=>none
noncomputable def cv(t:Nat)(x:D):Option (List Int):=
 match x with
 | .int i=>if t=0 then some [i] else none
 | .tup xs=>if t=0 then none else aP xs
 |_=>none
noncomputable def find:List (List Int)->List D->List Int->Option D
 |k::ks,v::vs,x=>if k=x then some v else find ks vs x
 |_,_,_=>none
abbrev UT:=Nat×List (List Int)×List D
noncomputable def eJ(ρ:List (Option (Bool×D)))(i:Nat):Option UT:=
 match ρ[i]? with
 |some (some (_,.bj t ks vs))=>if t=2 then none else some (t,ks,vs)
 |_=>none
noncomputable def keysAt(ρ:List (Option (Bool×D)))(i:Nat):Option (List D):=
 match ρ[i]? with
 |some (some (false,.bj 0 ks _))=>some (ks.map λk=> .int (k.headD 0))
 |_=>none
noncomputable def pY(ρ:List (Option (Bool×D)))(i:Nat):Option (List D):=
 match ρ[i]? with
 |some (some (false,.bj 0 _ vs))=>some vs
 |_=>none
noncomputable def kj(ρ:List (Option (Bool×D)))(i:Nat):Option (List D):=
 match ρ[i]? with
 |some (some (_,.lst xs))=>some xs
 |_=>none
noncomputable def zM(t:Nat):List D->Option D
 |[]=>some (.bj t [] [])
 |[k,v]=>(cv t k).map λx=> .bj t [x] [v]
 |_=>none
noncomputable def cmp(o:CmpOp)(x y:D):Option Bool:=
 match o with
 | .Eq =>if gY x 60&&gY y 60 then some (nv x y) else none
 | .NotEq =>if gY x 60&&gY y 60 then some (!nv x y) else none
 | .Is =>match y with| .bX =>some (match x with| .bX =>true|_=>false)|_=>none
 | .In =>match y with
  | .lst ys=>if gY x 60&&gY y 60 then some (ys.any λz=>nv z x) else none
  |_=>none
 | .NotIn =>match y with
  | .lst ys=>if gY x 60&&gY y 60 then some (!ys.any λz=>nv z x) else none
  |_=>none
 | .Lt =>match x,y with
  | .int i,.int j=>some (decide (i<j))
  |_,_=>none
 | .LtE =>match x,y with
  | .int i,.int j=>some (decide (i<=j))
  |_,_=>none
 | .Gt =>match x,y with
  | .int i,.int j=>some (decide (j<i))
  |_,_=>none
 |_=>none
noncomputable def bT(n:Nat)(i:Int):Option Nat:=if 0<=i then(if i<n then some i.toNat else none) else if -(n:Int)<=i then some (i+n).toNat else none
noncomputable def item(x i:D):Option D:=
 match x,i with
 | .lst xs,.int k=>(bT xs.length k).bind λj=>xs[j]?
 | .tup xs,.int k=>(bT xs.length k).bind λj=>xs[j]?
 |_,_=>none
noncomputable def bound(n d:Nat):Option Int->Nat
 |none=>d
 |some v=>(if v<0 then max (v+(n:Int)) 0 else min v (n:Int)).toNat
noncomputable def zN(xs:List D)(lo hi:Option Int):List D:=(xs.drop (bound xs.length 0 lo)).take (bound xs.length xs.length hi-bound xs.length 0 lo)
noncomputable def insI(x:Int):List Int->List Int
 |[]=>[x]
 |y::r=>if x<=y then x::y::r else y::insI x r
noncomputable def sortI:List Int->List Int
 |[]=>[]
 |x::r=>insI x (sortI r)
noncomputable def zO(k:List Int):D:= .tup (k.map .int)
noncomputable def gQ:Int->List Int->Int
 |a,[]=>a
 |a,b::r=>gQ (if b<a then b else a) r
noncomputable def seq:D->Option (List D)
 | .lst xs=>some xs
 | .tup xs=>some xs
 |_=>none
noncomputable def prim(p:ug)(xs:List D):Option D:=
 match p with
 | .len =>match xs with
  |[x]=>(seq x).map λys=> .int ys.length
  |_=>none
 | .tuple =>match xs with
  |[x]=>(seq x).map .tup
  |_=>none
 | .list =>match xs with
  |[x]=>(seq x).map .lst
  |_=>none
 | .min =>match xs with
  |[x]=>(seq x).bind λys=>(aP ys).bind λns=>match ns with|[]=>none|a::r=>some (.int (gQ a r))
  |[.int i,.int j]=>some (.int (if j<i then j else i))
  |_=>none
noncomputable def cw(k:Int):List Int->Option Nat
 |[]=>none
 |n::r=>if n=k then some 0 else(cw k r).map (· + 1)
noncomputable def cK(m:US)(o:D)(xs:List D):Option D:=
 match m,o,xs with
 | .index,.tup ys,[.int k]=>(aP ys).bind λns=>(cw k ns).map λ(i:Nat)=> .int (i:Int)
 | .jJ,.lst ys,[.int k]=>(aP ys).bind λns=>(cw k ns).map λ(i:Nat)=> .int (i:Int)
 |_,_,_=>none
noncomputable def bK(lo:Int):Nat->List D
 |0=>[]
 |n+1=> .int lo::bK (lo+1) n
noncomputable def cQ(xs:List D):Option (List D):=
 match xs with
 |[.int n]=>if -(2 ^ 62)<=n/\n<=bR then some (bK 0 n.toNat) else none
 |_=>none
noncomputable def bE(k:Int):List D->List D
 |[]=>[]
 |x::r=> .tup [.int k,x]::bE (k+1) r
noncomputable def aJ(tg:Nat)(x:D):Option (List D):=
 match tg with
 |0=>some [x]
 |n+1=>match x with
  | .tup xs=>if xs.length=n+1 then some xs else none
  |_=>none
noncomputable def MA(ρ:Env)(fr:List Nat):Env:=fr.map λi=>(ρ[i]?).join
noncomputable def UU:D->Option Bool
 | .bl b=>some b
 |_=>none
noncomputable def walk(f:D->Option (Option D)):List D->Option (List D)
 |[]=>some []
 |x::r=>match f x with
  |none=>none
  |some none=>walk f r
  |some (some y)=>(walk f r).map (y:: ·)
noncomputable def fg:D->Option Bool
 | .bl b=>some b
 |_=>none
noncomputable def Dp:D->Option Int
 | .int i=>some i
 |_=>none
noncomputable def RF(b:Bool):D->Option Bool
 | .bX =>some false
 | .bl _=>some true
 | .int _=>some !b
 | .str _=>some false
 |_=>none
noncomputable def cutD(x:D)(l h:Option Int):Option D:=
 match x with
 | .lst xs=>some (.lst (zN xs l h))
 | .tup xs=>some (.tup (zN xs l h))
 |_=>none
noncomputable def MB(x:D):Option D:=
 match x with
 | .tup xs=>some (.tup xs.reverse)
 |_=>none
noncomputable def pZ(p:ug)(xs:List D):Option D:=
 match p with
 | .list =>some (.lst xs)
 | .tuple =>some (.tup xs)
 |_=>none
noncomputable def inner(ys:List D)(ρ:Env)(fr:List Nat):Env:=ys.map (λy=>some (false,y))++MA ρ fr
mutual
noncomputable def ev(F:FT):Bool->E->Env->Option D
 |b,.var i,ρ=>rd b ρ i
 |_,.c d,_=>some d
 |_,.bin o a b,ρ=>(ev F true a ρ).bind λx=>(ev F true b ρ).bind λy=>bin o x y
 |_,.cmp o a b,ρ=>(ev F true a ρ).bind λx=>(ev F true b ρ).bind λy=>(cmp o x y).map .bl
 |_,.om k es,ρ=>(jB F k es ρ).map .bl
 |_,.not a,ρ=>((ev F false a ρ).bind fg).map λk=> .bl !k
 |_,.neg a,ρ=>((ev F false a ρ).bind Dp).map λi=> .int (-i)
 |_,.yQ a b,ρ=>((ev F false a ρ).bind (RF b)).map .bl
 |_,.chain o o' a b c,ρ=>(ev F true a ρ).bind λx=>(ev F true b ρ).bind λy=>(cmp o x y).bind λk=>if k then(ev F true c ρ).bind λz=>(cmp o' y z).map .bl else some (.bl false)
 |_,.rev a,ρ=>(ev F true a ρ).bind MB
 |_,.tup es,ρ=>(cR F false es ρ).bind λxs=>if xs.length<=bR then some (.tup xs) else none
 |_,.lst es,ρ=>(cR F false es ρ).bind λxs=>if xs.length<=bR then some (.lst xs) else none
 |_,.idx a i,ρ=>(ev F true a ρ).bind λx=>(ev F false i ρ).bind λk=>item x k
 |_,.sl a lo hi,ρ=>(ev F true a ρ).bind λx=>(Iq F lo ρ).bind λl=>(Iq F hi ρ).bind λh=>cutD x l h
 |_,.call f es,ρ=>(cR F true es ρ).bind λxs=>(F f xs).bind λd=>if pX ρ es&&!aF d then none else some d
 |_,.prim p es,ρ=>(cR F true es ρ).bind λxs=>prim p xs
 |_,.nA p es,ρ=>((cR F false es ρ).bind cQ).bind (pZ p)
 |_,.cK m o es,ρ=>(ev F true o ρ).bind λx=>(cR F true es ρ).bind λxs=>cK m x xs
 |_,.comp fr tg it ifs d_,ρ=>(k7 F true it ρ).bind λxs=>if xs.length<=bR then(walk (λx=>(aJ tg x).bind λys=>
   (jB F true ifs (inner ys ρ fr)).bind λk=>if k then(ev F false d_ (inner ys ρ fr)).map some else some none) xs).map .lst else none
 |_,.fq i k,ρ=>(eJ ρ i).bind λd=>((ev F false k ρ).bind (cv d.1)).bind λx=>find d.2.1 d.2.2 x
 |_,.CG i k e,ρ=>(eJ ρ i).bind λd=>(ev F false k ρ).bind λz=>(ev F false e ρ).bind λy=>(cv d.1 z).map λx=>(find d.2.1 d.2.2 x).getD y
 |_,.vj neg k i,ρ=>((ev F false k ρ).bind λy=>(eJ ρ i).bind λd=>(cv d.1 y).map λx=> .bl (if neg then !decide (x∈d.2.1) else decide (x∈d.2.1)))
 |_,.ed i,ρ=>(eJ ρ i).bind λd=>if d.1=0 then(if d.2.1.length<64 then some (.lst ((sortI (d.2.1.map λk=>k.headD 0)).map .int)) else none)
   else if []∈d.2.1 then none else some (.lst ((dw.c8 d.2.1).map zO))
 |_,.nil,_=>none
 |_,.cons _ _,_=>none
 |_,.fj _,_=>none
 |_,.xG _,_=>none
 |_,.it _,_=>none
 |_,.dk _,_=>none
 |_,.dv _,_=>none
 |_,.Gj _,_=>none
noncomputable def cR(F:FT):Bool->E->Env->Option (List D)
 |_,.nil,_=>some []
 |b,.cons a r,ρ=>(ev F b a ρ).bind λx=>(cR F b r ρ).bind λxs=>some (x::xs)
 |_,_,_=>none
noncomputable def Iq(F:FT):E->Env->Option (Option Int)
 | .nil,_=>some none
 | .cons a _,ρ=>((ev F false a ρ).bind Dp).map some
 |_,_=>none
noncomputable def jB(F:FT):Bool->E->Env->Option Bool
 |k,.nil,_=>some k
 |k,.cons a r,ρ=>((ev F false a ρ).bind fg).bind λx=>if x=k then jB F k r ρ else some x
 |_,_,_=>none
noncomputable def k7(F:FT):Bool->E->Env->Option (List D)
 |_,.fj es,ρ=>(cR F false es ρ).bind cQ
 |b,.xG a,ρ=>(ev F b a ρ).bind λx=>(seq x).map (bE 0)
 |b,.it a,ρ=>(ev F b a ρ).bind seq
 |_,.dk i,ρ=>keysAt ρ i
 |_,.dv i,ρ=>pY ρ i
 |b,.Gj a,ρ=>(ev F false a ρ).bind λx=>match x with| .tup xs=>some xs.reverse|_=>none
 |_,_,_=>none
end
inductive C where
 |skip|seq (a b:C)
 |asg (i:Nat) (e:E)
  |cS (i:Nat) (e:E)
 |lW (i:Nat) (ix e:E)
 |app (i:Nat) (e:E)
 |ret (e:E)
 |ifs (c:E) (t u:C)
 |while (c:E) (b:C)
 |for (is:List Nat) (tg:Nat) (it:E) (b:C)
  |lX (i:Nat) (t:Nat) (es:E)
  |kM (i:Nat) (k e:E)
  |pop (i j:Nat)
  |raise (k:Nat)
  |fst (x:Nat) (fr:List Nat) (it k v:E) (c1:C) (y r f:Nat) (c2:C) (m:Nat) (c3:C) (p q u:E) (g:Nat) (w:E)
 deriving Inhabited
inductive lZ where
 |next (ρ:Env)|brk (ρ:Env)|cont (ρ:Env)|ret (d:D)
 deriving Inhabited
noncomputable def put(ρ:Env)(i:Nat)(o:Bool)(d:D):Env:=ρ.set i (some (o,d))
noncomputable def dI(ρ:Env):List Nat->List D->Option Env
 |[],[]=>some ρ
 |i::is,d::ds=>dI (put ρ i false d) is ds
 |_,_=>none
noncomputable def gZ:Nat:=1000000
noncomputable def iU(c:Env->Option Bool)(b:Env->Option lZ):Nat->Env->Option lZ
 |0,_=>none
 |n+1,ρ=>(c ρ).bind λk=>if k then(b ρ).bind λo=>match o with
   | .next ρ'=>iU c b n ρ'
   | .cont ρ'=>iU c b n ρ'
   | .brk ρ'=>some (.next ρ')
   | .ret d=>some (.ret d)
  else some (.next ρ)
noncomputable def aO(b:D->Env->Option lZ):List D->Env->Option lZ
 |[],ρ=>some (.next ρ)
 |x::r,ρ=>(b x ρ).bind λo=>match o with
   | .next ρ'=>aO b r ρ'
   | .cont ρ'=>aO b r ρ'
   | .brk ρ'=>some (.next ρ')
   | .ret d=>some (.ret d)
noncomputable def fu(it:E)(ρ:Env):Env:=
 match it with
 | .it (.var i)=>match ρ[i]? with
  |some (some (true,.lst xs))=>ρ.set i (some (false,.lst xs))
  |_=>ρ
 | .xG (.var i)=>match ρ[i]? with
  |some (some (true,.lst xs))=>ρ.set i (some (false,.lst xs))
  |_=>ρ
 |_=>ρ
noncomputable def l3(ρ:Env)(i:Nat):Option (List D):=
 match ρ[i]? with
 |some (some (true,.lst xs))=>some xs
 |_=>none
noncomputable def zP(ρ:Env)(i:Nat):Option UT:=
 match ρ[i]? with
 |some (some (true,.bj t ks vs))=>if t=2 then none else some (t,ks,vs)
 |_=>none
noncomputable def gR(T:List D)(q:Nat)(k:List Int)(v:D):Option (List D):=
 match T[q]? with
 |some (.bj 0 ks vs)=>if ks.length<bR/\k∉ks then some (T.set q (.bj 0 (ks++[k]) (vs++[v]))) else none
 |_=>none
noncomputable def nI(t:Nat)(ks:List (List Int))(vs:List D)(x:List Int)(y:D):D:=if x∈ks then .bj t ks (vs.set (ks.idxOf x) y) else .bj t (ks++[x]) (vs++[y])
noncomputable def uh:D:= .bj 2 [] []
noncomputable def iV(ρ:Env)(x:Nat):Bool:=
 match ρ[x]? with
 |some (some (true,.bj t [] []))=>t==2
 |_=>false
noncomputable def rm(ρ:Env):Bool:=ρ.all λo=>match o with
 |some (_,d)=>!lV d
 |none=>true
noncomputable def iW(F:FT)(x y r f:Nat)(c2:Env->Option lZ)(m:Nat)(c3:Env->Option lZ)(p q u:Env->Option D)(g:Nat)(w:Env->Option D)(T:List D)(ρ:Env)(l:List D):Option (List D×Env):=
 (l.getLast?).bind λz=>(F f [.lst T,z]).bind λd=>if aF z&&aF d then
  (c2 (put (put ρ y true (.lst l.dropLast)) r false d)).bind λo=>match o with
  | .next Gk=>if iV Gk x then(kj Gk m).bind λms=>if ms.isEmpty then some (T,Gk) else(c3 Gk).bind λo=>match o with
   | .next ui=>if iV ui x then(u ui).bind λuv=>if aF uv then((p ui).bind Dp).bind λpi=>(bT T.length pi).bind λpq=>((q ui).bind (cv 0)).bind λkk=>(gR T pq kk uv).bind λT'=>
     (w ui).bind λwv=>if aF wv then(F g [.lst T',wv]).bind λzd=>match zd with
     | .lst zs=>if aW zs then(l3 ui y).bind λws=>if ws.length+zs.length<=bR then some (T',put ui y true (.lst (ws++zs))) else none else none
     |_=>none
     else none
    else none
    else none
   |_=>none
   else none
  |_=>none
 else none
noncomputable def fZ(tn:List D->Env->List D->Option (List D×Env))(y:Nat):Nat->List D->Env->Option (List D)
 |0,_,_=>none
 |n+1,T,ρ=>(l3 ρ y).bind λl=>if l.isEmpty then some T else(tn T ρ l).bind λs=>fZ tn y n s.1 s.2
noncomputable def rn(k v:Env->Option D)(fr:List Nat)(ρ:Env)(x:D):Option (Option D):=
 ((k (inner [x] ρ fr)).bind (cv 0)).bind λkk=>(v (inner [x] ρ fr)).bind λd=>if aF d then some (some (.bj 0 [kk] [d])) else none
noncomputable def ex(F:FT):C->Env->Option lZ
 | .skip,ρ=>some (.next ρ)
 | .seq a b,ρ=>(ex F a ρ).bind λo=>match o with
  | .next ρ'=>ex F b ρ'
  |o=>some o
 | .asg i e,ρ=>(ev F false e ρ).map λd=> .next (put ρ i false d)
 | .cS i e,ρ=>(ev F false e ρ).bind λd=>match d with
  | .lst xs=>some (.next (put ρ i true (.lst xs)))
  |_=>none
 | .lW i ix e,ρ=>(ev F false e ρ).bind λd=>((ev F false ix ρ).bind Dp).bind λk=>match ρ[i]? with
  |some (some (true,.lst xs))=>(bT xs.length k).map λj=> .next (put ρ i true (.lst (xs.set j d)))
  |_=>none
 | .app i e,ρ=>(ev F false e ρ).bind λd=>match ρ[i]? with
  |some (some (true,.lst xs))=>if xs.length<bR then some (.next (put ρ i true (.lst (xs++[d])))) else none
  |_=>none
 | .ret e,ρ=>(ev F true e ρ).map .ret
 | .ifs c t u,ρ=>((ev F false c ρ).bind fg).bind λk=>if k then ex F t ρ else ex F u ρ
 | .while c b,ρ=>iU (λρ=>(ev F false c ρ).bind fg) (ex F b) gZ ρ
 | .for is tg it b,ρ=>(k7 F false it (fu it ρ)).bind λxs=>aO (λx ρ=>(aJ tg x).bind λys=>(dI ρ is ys).bind λρ'=>ex F b ρ') xs (fu it ρ)
 | .lX i t es,ρ=>if t=2 then none else((cR F false es ρ).bind (zM t)).map λd=> .next (put ρ i true d)
 | .kM i k e,ρ=>(ev F false e ρ).bind λy=>(zP ρ i).bind λd=>((ev F false k ρ).bind (cv d.1)).bind λx=>
   if d.2.1.length<bR then some (.next (put ρ i true (nI d.1 d.2.1 d.2.2 x y))) else none
 | .pop i j,ρ=>(l3 ρ j).bind λl=>(l.getLast?).map λz=> .next (put (put ρ j true (.lst l.dropLast)) i false z)
 | .raise _,_=>none
 | .fst x fr it k v c1 y r f c2 m c3 p q u g w,ρ=>(k7 F true it ρ).bind λxs=>if xs.length<=bR/\x≠y/\x<ρ.length/\rm ρ=true then(walk (rn (ev F false k) (ev F false v) fr ρ) xs).bind λT=>
   (ex F c1 (put ρ x true uh)).bind λo=>match o with
   | .next oq=>if iV oq x then(fZ (iW F x y r f (ex F c2) m (ex F c3) (ev F false p) (ev F false q) (ev F false u) g (ev F false w)) y gZ T oq).map λT=> .ret (.lst T) else none
   |_=>none
  else none
def WU:ev F b (.var i) ρ=rd b ρ i:=rfl
def vC:ev F m (.c d) ρ=some d:=rfl
def RG:ev F m (.bin o a b) ρ=(ev F true a ρ).bind λx=>(ev F true b ρ).bind λy=>bin o x y:=rfl
def Ir:ev F m (.cmp o a b) ρ=(ev F true a ρ).bind λx=>(ev F true b ρ).bind λy=>(cmp o x y).map .bl :=rfl
def Dq:ev F m (.om k es) ρ=(jB F k es ρ).map .bl :=rfl
def Dr:ev F m (.not a) ρ=((ev F false a ρ).bind fg).map λk=> .bl !k:=rfl
def RH:ev F m (.cK o a es) ρ=(ev F true a ρ).bind λx=>(cR F true es ρ).bind λxs=>cK o x xs:=rfl
def RK:ev F m (.tup es) ρ=(cR F false es ρ).bind λxs=>if xs.length<=bR then some (.tup xs) else none:=rfl
def RL:ev F m (.lst es) ρ=(cR F false es ρ).bind λxs=>if xs.length<=bR then some (.lst xs) else none:=rfl
def zQ:ev F m (.idx a i) ρ=(ev F true a ρ).bind λx=>(ev F false i ρ).bind λk=>item x k:=rfl
def Za:ev F m (.sl a l h) ρ=(ev F true a ρ).bind λx=>(Iq F l ρ).bind λl=>(Iq F h ρ).bind λh=>cutD x l h:=rfl
def Iu:ev F m (.call f es) ρ=(cR F true es ρ).bind λxs=>(F f xs).bind λd=>if pX ρ es&&!aF d then none else some d:=rfl
def Ds:ev F m (.prim p es) ρ=(cR F true es ρ).bind λxs=>prim p xs:=rfl
def p7:cR F b (.cons a r) ρ=(ev F b a ρ).bind λx=>(cR F b r ρ).bind λxs=>some (x::xs):=rfl
def xH:jB F k (.cons a r) ρ=((ev F false a ρ).bind fg).bind λx=>if x=k then jB F k r ρ else some x:=rfl
def WV:k7 F b (.it a) ρ=(ev F b a ρ).bind seq:=rfl
def RM:k7 F b (.fj es) ρ=(cR F false es ρ).bind cQ:=rfl
def MC:ev F m (.nA p es) ρ=((cR F false es ρ).bind cQ).bind (pZ p):=rfl
def MD:ev F m (.comp fr tg it ifs d_) ρ=(k7 F true it ρ).bind λxs=>if xs.length<=bR then(walk (λx=>(aJ tg x).bind λys=>
   (jB F true ifs (inner ys ρ fr)).bind λk=>if k then(ev F false d_ (inner ys ρ fr)).map some else some none) xs).map .lst else none:=rfl
def ME:ev F m (.fq i k) ρ=(eJ ρ i).bind λd=>((ev F false k ρ).bind (cv d.1)).bind λx=>find d.2.1 d.2.2 x:=rfl
def RN:ev F m (.vj n k i) ρ=((ev F false k ρ).bind λy=>(eJ ρ i).bind λd=>(cv d.1 y).map λx=> .bl (if n then !decide (x∈d.2.1) else decide (x∈d.2.1))):=rfl
def WW:ex F .skip ρ=some (.next ρ):=rfl
def bU:ex F (.seq a b) ρ=(ex F a ρ).bind λo=>match o with
  | .next ρ'=>ex F b ρ'
  |o=>some o:=rfl
def RO:ex F (.asg i e) ρ=(ev F false e ρ).map λd=> .next (put ρ i false d):=rfl
def zR:ex F (.cS i e) ρ=(ev F false e ρ).bind λd=>match d with
  | .lst xs=>some (.next (put ρ i true (.lst xs)))
  |_=>none:=rfl
def WX:ex F (.lW i x e) ρ=(ev F false e ρ).bind λd=>((ev F false x ρ).bind Dp).bind λk=>match ρ[i]? with
  |some (some (true,.lst xs))=>(bT xs.length k).map λj=> .next (put ρ i true (.lst (xs.set j d)))
  |_=>none:=rfl
def RP:ex F (.app i e) ρ=(ev F false e ρ).bind λd=>match ρ[i]? with
  |some (some (true,.lst xs))=>if xs.length<bR then some (.next (put ρ i true (.lst (xs++[d])))) else none
  |_=>none:=rfl
def Iv:ex F (.ret e) ρ=(ev F true e ρ).map .ret :=rfl
def fP:ex F (.ifs c t u) ρ=((ev F false c ρ).bind fg).bind λk=>if k then ex F t ρ else ex F u ρ:=rfl
def RQ:ex F (.for l g t b) ρ=(k7 F false t (fu t ρ)).bind λxs=>aO (λx ρ=>(aJ g x).bind λys=>(dI ρ l ys).bind λρ'=>ex F b ρ') xs (fu t ρ):=rfl
structure Fd where
 par:Nat
 iX:Nat
 body:C
 deriving Inhabited
noncomputable def ao(d:Fd)(xs:List D):Env:=xs.map (λx=>some (false,x))++List.replicate (d.iX-d.par) none
noncomputable def out:Option lZ->Option D
 |some (.ret d)=>some d
 |some (.next _)=>some .bX
 |_=>none
noncomputable def run(P:List Fd):Nat->FT
 |0,_,_=>none
 |n+1,f,xs=>match P[f]? with
  |some d=>if xs.length=d.par then out (ex (run P n) d.body (ao d xs)) else none
  |none=>none
end Py
namespace L2
open PySem PyProof.Rows
def rq(val:Nat->Int):∀(k:Nat),∀(ns:List Int),(∀i,i<k->ns[i]?=some (val (i+1)))->val (argBest (λi j=>decide (val i<val j)) k)=Py.gQ (val 0) (ns.take k):=by
 have snoc:∀(ns:List Int) (a b:Int),Py.gQ a (ns++[b])=if b<Py.gQ a ns then b else Py.gQ a ns:=by
  intro ns
  induction ns with
  |nil=>intro a b;rfl
  |cons x ns ih=>intro a b;exact ih _ b
 intro k
 induction k with
 |zero=>intro ns _;rfl
 |succ k ih=>
  intro ns h
  have hk:=h k (abL k)
  have MF:=ih ns λi hi=>h i (adi hi)
  have e:ns.take (k+1)=ns.take k++[val (k+1)]:=by
   rw[List.take_add_one,hk];rfl
  rw[e,snoc,<-MF]
  show val (if(decide (val (k+1)<val (argBest _ k)))=true then k+1 else argBest _ k)=_
  by_cases c:val (k+1)<val (argBest (λi j=>decide (val i<val j)) k)
  .rw[ZM (decide_eq_true c),ZM c]
  .rw[ZW (by simpa using c),ZW c]
def ints_get:∀{vs:List Value}{ns:List Int},IntsAre vs ns->∀(i:Nat) (v:Value),vs[i]?=some v->∃t,v= .int (ns.getD i 0) t:=λ{vs ns} h=>by
 induction h with
 |nil=>intro i v h;simp at h
 |cons n t r ih=>
  intro i v h
  cases i with
  |zero=>simp at h;subst h;exact⟨t,rfl⟩
  |succ i=>
   obtain⟨t',e⟩:=ih i v (by simpa using h)
   exact⟨t',by simpa using e⟩
section
variable {prog:Program}{w:World}{A:Around}{E:Value->Shared->Prop}{s:Shared}{l:Addr}
def kl(hh:A.handled=none)(hl:s.heap.IsList l vs.toArray\/IsTup s.heap l vs.toArray)(hi:IntsAre vs (n::ns))
  (h:∀h' tk t,(∀b o,s.heap.get? b=some o->h'.get? b=some o)->Q (.int (Py.gQ n ns) t) {s with heap:=h',toks:=tk}):wpAny (model prog w) A (call (.builtin "min") [.ref l]) Q E s:=by
 have len:=hi.length
 have Iw:∀(i:Nat) (v:Value),vs.toArray[i]?=some v->∃t,v=Value.int ((n::ns).getD i 0) t:=λi v e=>ints_get hi i v (by simpa using e)
 have best:(n::ns).getD (argBest (λi j=>decide ((n::ns).getD i 0<(n::ns).getD j 0)) ns.length) 0=Py.gQ n ns:=by
  have:=rq (λi=>(n::ns).getD i 0) ns.length ns (λi hi=>by simp[hi])
  simpa using this
 have fin:∀(v:Value) (h':Heap) (tk:Nat),vs.toArray[argBest (λi j=>decide ((n::ns).getD i 0<(n::ns).getD j 0)) (vs.toArray.size-1)]?=some v->(∀b o,s.heap.get? b=some o->h'.get? b=some o)->Q v {s with heap:=h',toks:=tk}:=λv h' tk hP hk=>by
  have e:vs.toArray.size-1=ns.length:=by rw[ZI,len];simp
  rw[e]at hP
  obtain⟨t,rfl⟩:=Iw _ v hP
  rw[best]
  exact h h' tk t hk
 have pos:0<vs.toArray.size:=by rw[ZI,len];simp
 rcases hl with hl|hl
 .have bg:l<s.heap.objs.size:=by obtain⟨_,e,_⟩:=hl;exact ZO e
  refine call_min_walk (adj hl ?_)
  refine⟨_,[_,l],[_],_,_,_,_,rfl,Walks.list (A:=A.in1) hh s.heap.objs.size l (Z5 bg) vs.toArray,⟨⟨_,ZN _ rfl,rfl,rfl⟩,hl.push _⟩,λb hb=>?_,pos,CmpOf.ints_lt (λi=>(n::ns).getD i 0) Iw,λv h' tk hP hk=>fin v h' tk hP λb o e=>hk b o ?_ (Zv _ e)⟩
  .show b<(s.heap.push _).objs.size
   rw[abz]
   rcases ZK.mp hb with rfl|hb
   .exact abL _
   .rw[ZE.mp hb];exact adi bg
  .intro hm
   rw[ZE.mp hm]at e
   exact absurd (ZO e) (aaC _)
 .have pJ:s.heap.IsTuple l vs.toArray:=hl
  have bg:l<s.heap.objs.size:=by obtain⟨_,e,_⟩:=hl;exact ZO e
  refine call_min_walk (acw pJ ?_)
  refine⟨_,[_,l],[_],_,_,_,_,rfl,Walks.tuple (A:=A.in1) hh s.heap.objs.size l (Z5 bg) vs.toArray,⟨⟨_,ZN _ rfl,rfl,rfl⟩,pJ.push _⟩,λb hb=>?_,pos,CmpOf.ints_lt (λi=>(n::ns).getD i 0) Iw,λv h' tk hP hk=>fin v h' tk hP λb o e=>hk b o ?_ (Zv _ e)⟩
  .show b<(s.heap.push _).objs.size
   rw[abz]
   rcases ZK.mp hb with rfl|hb
   .exact abL _
   .rw[ZE.mp hb];exact adi bg
  .intro hm
   rw[ZE.mp hm]at e
   exact absurd (ZO e) (aaC _)
end
open PySem.Spec
open AutoSeq1 (wpAny_loadPart')
noncomputable abbrev rA(l:Addr):Obj:={cls:= .type "tuple_iterator",data:= .fields #[.ref l,.int 0 0]}
noncomputable abbrev Iy(it:Addr):Obj:={cls:= .type "enumerate",data:= .fields #[.none,.bool false,.ref it,rawInt 0,.none,.none]}
def rB(l:Addr)(items:Array Value)(n:Nat)(Dt:Option Addr)(sl:Array (Option Value)):
  Meets (Builtin.«enumerate.__new__» ⟨[.type "enumerate",.ref l],[]⟩) (λ_ R s=>s.heap.get? l=some {cls:= .type "tuple",dict:=Dt,data:= .seq items n,slots:=sl}/\
   R (.ok (.ret (.ref (s.heap.push (rA l)).objs.size))) {s with heap:=(s.heap.push (rA l)).push (Iy s.heap.objs.size)}):=
 .of_wp λprog w A R s h=>by
  obtain⟨hp,g,d,tk,os⟩:=s
  obtain⟨hl,h⟩:=h
  have sb:=sub_enumerate
  have hL:Heap.IsTuple (Shared.heap ⟨hp,g,d,tk,os⟩) l items:=⟨_,hl,rfl,n,rfl⟩
  wp_walk using abZ hl
  refine wpAny_stack_any λst=>ZC ?_
  split
  .rename_i c _ _ _ _ _
   cases (c==Value.type "enumerate")
   .wp_walk using abZ hl,acw hL
    exact⟨_,rfl,h⟩
   .wp_walk using abZ hl,acw hL
    exact⟨_,rfl,h⟩
  .wp_walk using abZ hl,acw hL
   exact⟨_,rfl,h⟩
section
variable {prog:Program}{w:World}{A:Around}{E:Value->Shared->Prop}{s:Shared}
def uj(hL:s.heap.IsTuple l items)
  (h:∀h',IsEnum h' (s.heap.objs.size+1) s.heap.objs.size 0 .none ->h'.IsTupleIter s.heap.objs.size l 0->h'.objs.size=s.heap.objs.size+2->
   (∀b o,s.heap.get? b=some o->h'.get? b=some o)->Q (.ref (s.heap.objs.size+1)) {s with heap:=h'}):
  wpAny (model prog w) A (call (.type "enumerate") [.ref l]) Q E s:=by
 refine au λnO=>?_
 obtain⟨⟨c,Dt,dt,sl⟩,hl,hc,n,hd⟩:=hL
 have kY:c= .type "tuple":=hc
 have iF:dt= .seq items n:=hd
 subst kY iF
 refine nO ?_
 refine callType_new F.called_enumerate (by decide) (F.typeCall_enumerate_1 _) (F.newCall_enumerate_1 _) (λobj=>adC obj _) F.entry_enumerate_new (rB l items n Dt sl) ⟨hl,?_⟩
 have hz:(s.heap.push (rA l)).objs.size =s.heap.objs.size+1:=abz ..
 have he:IsEnum ((s.heap.push (rA l)).push (Iy s.heap.objs.size)) (s.heap.objs.size+1) s.heap.objs.size 0 .none :=by
  have q:=ZN (s.heap.push (rA l)) (o:=Iy s.heap.objs.size) rfl
  rw[hz]at q
  exact q
 show _/\_
 rw[hz]
 exact⟨⟨_,he,rfl⟩,h _ he ⟨_,Zv _ (ZN _ rfl),rfl,rfl⟩ (by rw[abz,hz]) λb o x=>Zv _ (Zv _ x)⟩
def rC(nJ:s.heap.IsTupleIter it l i)(hl:s.heap.IsTuple l items)(hx:items[i]?=some x)
  (hQ:∀h',h'.IsTupleIter it l (i+1)->Heap.SameBut it s.heap h'->Q x {s with heap:=h'}):wpAny (model prog w) A (Builtin.SmallTypes.nextOf (.ref it)) Q E s:=by
 refine bB (id nJ) λo ho hc hd=>?_
 obtain⟨ol,MG,_,nl,MH⟩:=hl
 unfold Builtin.SmallTypes.nextOf
 refine Zq (aav (name:=Str.ofString "__next__") nJ.typeIs abK (aaA abK nJ.typeIs adH ?_ (adE _)))
 show wpAny _ _ (field (.ref it) 0 >>= _) _ _ s
 refine Zq (aaF ho hd (x:= .ref l) rfl ?_)
 first
  |(show wpAny _ _ (if(Value.ref l==Value.none)=true then _ else _) _ _ s;rw[ZW (show¬((Value.ref l==Value.none)=true) from Zz)])
  |skip
 show wpAny _ _ (field (.ref it) 1 >>= _) _ _ s
 refine Zq (aaF ho hd (x:= .int i 0) rfl ?_)
 show wpAny _ _ (seqItems? (.ref l) >>= _) _ _ s
 refine Zq (afk MG MH ?_)
 simp only[aaT,hx]
 refine Zq (aba ho hd (by simp) (ZC ⟨x,rfl,ZC (hQ _ ⟨_,aaY _ ho (abB (aaW hd _)),(aee ..).trans hc,?_⟩ (abi ..))⟩))
 rw[aaW hd]
 simp[rawInt]
def rD(hh:A.handled=none)(nJ:s.heap.IsTupleIter it l i)(hl:s.heap.IsTuple l items)(hx:items[i]?=none)
  (hE:∀h' e,Heap.ExtBut it s.heap h'->(∃o,h'.get? e=some o/\o.cls= .type "StopIteration")->E (.ref e) {s with heap:=h'}):wpAny (model prog w) A (Builtin.SmallTypes.nextOf (.ref it)) Q E s:=by
 refine bB (id nJ) λo ho hc hd=>?_
 obtain⟨ol,MG,_,nl,MH⟩:=hl
 unfold Builtin.SmallTypes.nextOf
 refine Zq (aav (name:=Str.ofString "__next__") nJ.typeIs abK (aaA abK nJ.typeIs adH ?_ (adE _)))
 show wpAny _ _ (field (.ref it) 0 >>= _) _ _ s
 refine Zq (aaF ho hd (x:= .ref l) rfl ?_)
 first
  |(show wpAny _ _ (if(Value.ref l==Value.none)=true then _ else _) _ _ s;rw[ZW (show¬((Value.ref l==Value.none)=true) from Zz)])
  |skip
 show wpAny _ _ (field (.ref it) 1 >>= _) _ _ s
 refine Zq (aaF ho hd (x:= .int i 0) rfl ?_)
 show wpAny _ _ (seqItems? (.ref l) >>= _) _ _ s
 refine Zq (afk MG MH ?_)
 simp only[aaT,hx]
 first
  |refine Zq (acs (Zq (aba ho hd (by simp) ?_)))
  |refine Zq (acs (Zq (aba ho hd (by simp) (Zq (wpAny_letGo ?_)))))
 show wpAny _ _ (newExc (.type "StopIteration") [] >>= _) _ _ _
 refine Zq ?_
 simp only[newExc,newTuple]
 refine Zq (Z' ?_ (by size_fits))
 refine Zq (m:=firstArgMember _ _) (afo (a:=Value.none) (by first|rfl|(simp only[firstArgMember];rfl)) ?_)
 refine Z' ?_ (by size_fits)
 simp only[raiseNew]
 refine Zq (aeq ?_)
 first|rw[show A.in1.handled=none from hh]|rw[hh]
 exact Zq (ZC (afp (hE _ _ (((abi ..).extBut.push _).push _) ⟨_,ZN _ rfl,rfl⟩)))
end
def xI(hh:A.handled=none)(it l:Addr)(fy:l≠it)(items:Array Value):
  Draws prog w A it [it,l] items.size (λi v=>items[i]?=some v) (λi h=>h.IsTupleIter it l i/\h.IsTuple l items) where
 live:=λ_ _ st=>let ⟨o,ho,_⟩:=st.1;⟨o,ho⟩
 frame:=λ_ _ _ st hk=>⟨st.1.at λo e=>hk it (by simp) o e,st.2.at λo e=>hk l (by simp) o e⟩
 item:=λi s Q E hi st hQ=>rC st.1 st.2 (x:=items[i]) (by simp[hi]) λh' Iz yP=>hQ _ h' s.toks (by simp[hi]) ⟨Iz,st.2.extBut yP.extBut fy⟩ yP
 done:=λs Q E st hE=>rD hh st.1 st.2 (by simp) hE
section
variable {X:Cx}{U:List (Addr×Obj)}{σ:List (Option V)}{H H':Hp}{s:Shared}{h':Heap}
def Inv.vk{ch:List Addr}(I:Inv X U σ H s)(k:∀b o,b∉ch->s.heap.get? b=some o->h'.get? b=some o)(hf:∀b∈ch,kI X U H b):Inv X U σ H {s with heap:=h',toks:=t'}:=by
 have LQ:∀b u,H b=some u->b∉ch:=λb u e z=>by rw[(hf b z).1]at e;cases e
 refine I.step (g':=s.gens) (d':=s.drawn) (ch:=ch) (λb hb=>?_) (λb o _ _ hc e _=>k b o hc e) (λb o _ _ hc e _=>⟨o.slots,k b o hc e⟩) (λ_ _ _ _ n=>n)
  (λb o hc e=>⟨o,k b o hc e⟩) (λ_ _ e=>e) (λ_ _ _ e=>e) (λb ps e=>⟨#[],by rw[e];simp⟩) (λm hm=>?_) (λb u e=>?_) I.bare
 .exact tK (hf b hb) λ_ f1 _ f3 f4 f5=>⟨f3,f1,f4,f5⟩
 .exact kW hm λo es ep ho r=>⟨o,es,ep,k _ o (λz=>(hf _ z).2.1 rfl) ho,r⟩
 .refine(I.aI b u e).kE (λc v hc q=>k c v ?_ q) (λ_ q=>q) λ_ _ q=>q
  rcases hc with z|z
  .rw[z];exact LQ b u e
  .exact LQ c _ z
end
structure IA(K:aC)(a it:Addr)(Sq:Hp->List V->Prop)(PF:Heap->Array Value->Prop)(K':Nat->Heap->Prop):Prop where
 get:∀{X:Cx}{U:List (Addr×Obj)}{σ:St}{H:Hp}{s:Shared}{xs:List V},X.K=K->Inv X U σ H s->Sq H xs->∃its:List Value,aE xs its/\PF s.heap its.toArray
 inj:∀{X:Cx}{U:List (Addr×Obj)}{σ:St}{H:Hp}{s:Shared}{xs ys:List V},X.K=K->Inv X U σ H s->Sq H xs->Sq H ys->xs=ys
 dr:∀(prog:Program) (w:World) (A:Around) (items:Array Value),A.handled=none->Draws prog w A it [it,a] items.size (λi v=>items[i]?=some v) (λi h=>K' i h/\PF h items)
 obj:∀{i:Nat}{h:Heap},K' i h->∃o,h.get? it=some o/\∀v,o.data≠ .cell v
 at':∀{i:Nat}{h h':Heap},K' i h->(∀o,h.get? it=some o->h'.get? it=some o)->K' i h'
 ne:∀{h:Heap}{e:Addr}{i:Int}{old:Value}{items:Array Value},IsEnum h e it i old->PF h items->e≠a
noncomputable def PH(Sq:Hp->List V->Prop):It:=
 ⟨λi H=>∃xs x,Sq H xs/\xs[i]?=some x,λi H x H'=>∃(t:Addr) (y:V),H t=none/\x= .ref t/\H'=upd H t (.tup [.int i,y])/\∀xs,Sq H xs->xs[i]?=some y,λi H=>∃xs,Sq H xs/\xs.length=i⟩
def ot{w:World}{K:aC}(S:IA K a it Sq PF K')(fy:e≠it):
  pN P w K (.Tuple elts k0 tpos) (PH Sq) [e,it] e (λi h=>(∃old,IsEnum h e it i old)/\K' i h) where
 mem:=by simp
 obj:=λi h st b hb=>by
  obtain⟨⟨old,he⟩,hi⟩:=st
  rcases ZK.mp hb with rfl|hb
  .exact⟨_,he,λv z=>by cases z⟩
  .rw[ZE.mp hb];exact S.obj hi
 keep:=λi h h' st k=>⟨let ⟨old,he⟩:=st.1;⟨old,k e (by simp) _ he⟩,S.at' st.2 λo z=>k it (by simp) o z⟩
 item:=by
  intro X hP hw hK hc i U s σ H E I hf st hg
  subst hP hw hK
  obtain⟨⟨old,he⟩,hi⟩:=st
  refine dU hg λxs x hq hx=>aa (S.get rfl I hq) λits rv hX=>aa (rv.get hx) λu hu ru=>?_
  have bg:i<its.toArray.size:=by
   have:=(ZL.mp hu).1
   simpa using this
  have WY:e∉[it,a]:=λz=>by
   rcases ZK.mp z with z|z
   .exact fy z
   .exact S.ne he hX (ZE.mp z)
  refine wpAny_pyNext_enum_itemD (S.dr X.prog X.w X.A.in1 its.toArray (I.ok.hd hc)) he ⟨hi,hX⟩ bg fy WY λv h' tk hP FY pM hT hsz hk=>?_
  have hP:its.toArray[i]?=some v:=hP
  have ev:v=u:=by
   have q:its[i]?=some v:=by simpa using hP
   rw[hu]at q
   exact(ZY q).symm
  subst ev
  refine⟨_,rfl,wpAny_letOwnedTupleGo_enum FY λLa RS Du=>?_⟩
  have Du:Heap.SameBut e h' La:=Du
  have WZ:e<s.heap.objs.size:=ZO he
  have ltI:it<s.heap.objs.size:=by obtain⟨o,ho,_⟩:=S.obj hi;exact ZO ho
  have I1:Inv X U σ (upd H s.heap.objs.size (.tup [.int i,x])) {s with heap:=s.heap.push {cls:= .type "tuple",data:= .seq #[.int i tk,v]}}:=
   I.laid (t':=s.toks) (λb o z=>Zv _ z) (ZG _) ⟨by show 2<=sizeLine;decide,[.int i tk,v],.cons ⟨_,rfl⟩ (.cons ru .nil),ig.new s.heap _⟩
  have yR:H s.heap.objs.size=none:=I.aI.fresh (ZG _)
  have MI:∀b∈[e,it],(upd H s.heap.objs.size (.tup [.int i,x])) b=none:=λb hb=>by
   have lS:b≠s.heap.objs.size:=by
    rcases ZK.mp hb with rfl|hb
    .exact Z5 WZ
    .rw[ZE.mp hb];exact Z5 ltI
   rw[aq lS];exact(hf b hb).1
  have I2:Inv X U σ (upd H s.heap.objs.size (.tup [.int i,x])) {s with heap:=La,toks:=tk+1}:=by
   have key:∀b o,b∉[e,it]->(s.heap.push {cls:= .type "tuple",data:= .seq #[.int i tk,v]}).get? b=some o->La.get? b=some o:=λb o hb z=>by
    have yM:b≠e:=λq=>hb (by simp[q])
    have W2:b≠it:=λq=>hb (by simp[q])
    refine(Du.2 b yM).trans ?_
    rcases Heap.get?_push_cases z with⟨rfl,rfl⟩|z
    .exact hT
    .exact hk b o yM W2 z
   have J:=I1.vk (h':=La) (t':=tk+1) (ch:=[e,it]) key λb hb=>⟨MI b hb,(hf b hb).2⟩
   exact J
  refine⟨.ref s.heap.objs.size,_,I2,rfl,⟨s.heap.objs.size,x,yR,rfl,rfl,λys hy=>by rw[S.inj rfl I hy hq];exact hx⟩,⟨⟨v,?_⟩,S.at' pM.1 λo z=>(Du.2 it (aaH fy)).trans z⟩,MI⟩
  have:((i+1:Nat):Int)=(i:Int)+1:=by push_cast;rfl
  rw[this]
  exact RS
 done:=by
  intro X hP hw hK hc i U s σ H E I hf st hg
  subst hP hw hK
  obtain⟨⟨old,he⟩,hi⟩:=st
  refine aa hg λxs hq ah=>?_
  try clear hg
  subst ah
  refine aa (S.get rfl I hq) λits rv hX=>?_
  have hl:xs.length=its.toArray.size:=by rw[ZI];exact rv.length
  rw[hl]at hi he
  refine wpAny_pyNext_enum_endD (S.dr X.prog X.w X.A.in1 its.toArray (I.ok.hd hc)) he ⟨hi,hX⟩ λh' hx=>⟨rfl,?_⟩
  exact I.vk (t':=s.toks) (ch:=[e,it]) (λb o hb z=>hx b o (λq=>hb (by simp[q])) z) hf
 self:=λ_ _ _ _ _ st h=>let ⟨⟨_,he⟩,_⟩:=st;aef he h
def zS{K:aC}(h:a≠it):IA K a it (λH xs=>cC K H a xs) (λh xs=>h.IsTuple a xs) (λi h=>h.IsTupleIter it a i) where
 get:=λhK I q=>by subst hK;obtain⟨its,r,t,_⟩:=I.tuple q;exact⟨its,r,t⟩
 inj:=λhK I q q'=>by subst hK;exact I.jG q q'
 dr:=λprog w A items hh=>xI hh it a h items
 obj:=λzz=>bB zz λo e c d=>⟨o,e,λv z=>by rw[d]at z;cases z⟩
 at':=λst k=>st.at k
 ne:=λhe ⟨o,e,c,_⟩ z=>by subst z;rw[he]at e;cases e;injection c with c;exact absurd c (by decide)
def zT{K:aC}(h:a≠it):IA K a it (λH xs=>du K H a xs) (λh xs=>h.IsList a xs) (λi h=>h.IsListIter it a i) where
 get:=λhK I q=>by subst hK;obtain⟨its,r,t,_⟩:=I.list q;exact⟨its,r,t.isList⟩
 inj:=λhK I q q'=>by subst hK;exact I.qW q q'
 dr:=λprog w A items hh=>Draws.list hh it a h items
 obj:=λzz=>bB zz λo e c d=>⟨o,e,λv z=>by rw[d]at z;cases z⟩
 at':=λst k=>st.at k
 ne:=λhe ⟨o,e,c,_⟩ z=>by subst z;rw[he]at e;cases e;injection c with c;exact absurd c (by decide)
def RT(K:aC)(ta:TA):TI:=λσ H R=>ta σ H λvs H1=>∃a xs,vs=[.ref a]/\((cC K H1 a xs/\R (PH λH ys=>cC K H a ys) H1)\/(du K H1 a xs/\R (PH λH ys=>du K H a ys) H1))
def Dv{X:Cx}{ta:TA}(hg:Gl X "enumerate")(hm:X.mg "enumerate"=none)(ha:PA X [a] ta)(hs:starEach [a] X.env=[(false,eval a X.env)]:=by rfl):
  PI X (.Tuple elts k0 tpos) (.Call (.Name "enumerate" p) [a] [] pos) (RT X.K ta):=by
 intro U s σ H R I h
 refine Call_ (ij I hg hm PyProof.Rows.boot_enumerate (abo (aU (ha pos U s σ H _ I h) λus s1 zz=>bu zz λvs H1 I1 r1 q1=>?_) hs rfl))
 refine dU q1 λb xs ah q=>?_
 try clear q1
 subst ah
 cases r1 with
 |cons r rr=>
  cases rr
  cases r
  have fin:∀(h':Heap),h'.objs.size=s1.heap.objs.size+2->(∀b o,s1.heap.get? b=some o->h'.get? b=some o)->Inv X U σ H1 {s1 with heap:=h'}/\∀c∈[s1.heap.objs.size+1,s1.heap.objs.size],kI X U H1 c:=λh' _ hk=>by
   refine⟨I1.kept (t':=s1.toks) hk,λc hc=>?_⟩
   have kN:s1.heap.objs.size<=c:=by
    rcases ZK.mp hc with rfl|hc
    .exact Nat.le_succ _
    .rw[ZE.mp hc];exact ZG _
   exact I1.tW kN (I1.aI.fresh kN)
  rcases q with⟨hq,hR⟩|⟨hq,hR⟩
  .refine bB (I1.tuple hq) λits rv t _=>?_
   have ht:s1.heap.IsTuple b its.toArray:=t
   have hb:b≠s1.heap.objs.size:=by obtain⟨o,e,_⟩:=ht;exact Z5 (ZO e)
   refine uj ht λh' he nJ hsz hk=>?_
   obtain⟨J1,J2⟩:=fin h' hsz hk
   exact aef he ⟨s1.heap.objs.size+1,[s1.heap.objs.size+1,s1.heap.objs.size],_,_,H1,rfl,J1,ot (zS hb) (Nat.succ_ne_self _),⟨⟨_,he⟩,nJ⟩,J2,hR⟩
  .refine bB (I1.list hq) λits rv t _=>?_
   have ht:s1.heap.IsList b its.toArray:=t.isList
   have hb:b≠s1.heap.objs.size:=by obtain⟨o,e,_⟩:=ht;exact Z5 (ZO e)
   refine call_enumerate_list ht λh' he nJ hsz hk=>?_
   obtain⟨J1,J2⟩:=fin h' hsz hk
   exact aef he ⟨s1.heap.objs.size+1,[s1.heap.objs.size+1,s1.heap.objs.size],_,_,H1,rfl,J1,ot (zT hb) (Nat.succ_ne_self _),⟨⟨_,he⟩,nJ⟩,J2,hR⟩
section
variable {prog:Program}{w:World}{A:Around}{E:Value->Shared->Prop}{s:Shared}
theorem rE(fy:t≠it):∀(n i:Nat) (s:Shared) (Q:List Value->Shared->Prop),s.heap.IsListIter it t i->s.heap.IsList t items->i+n<=items.size->
  (∀h',h'.IsListIter it t (i+n)->Heap.SameBut it s.heap h'->Q ((items.toList.drop i).take n) {s with heap:=h'})->wpAny (model prog w) A (draw (.ref it) n) Q E s
 |0,i,s,Q,nJ,_,_,hQ=>ZC (by simpa using hQ s.heap nJ (Heap.SameBut.refl ..))
 |n+1,i,s,Q,nJ,ht,kN,hQ=>by
  have bg:i<items.size:=(ZH (ZU _ _) kN)
  show wpAny _ _ (pyNext (.ref it) >>= _) Q E s
  refine Zq (adf nJ ht (x:=items[i]) (by simp[bg]) λh1 IB Lb=>?_)
  refine Zq (aaO (rE fy n (i+1) _ _ IB (ht.extBut Lb.extBut fy) (K1 (Z8 _ _ _) kN) λh2 RU MJ=>ZC ?_))
  have hd:items.toList.drop i=items[i]::items.toList.drop (i+1):=by simp[aaG,bg]
  have q:=hQ h2 (by rw[show i+(n+1)=i+1+n by exact aaa (Z8 _ _ _)];exact RU) (Lb.trans MJ)
  rw[hd,List.take_succ_cons]at q
  exact q
def kO(hh:A.handled=none)(ht:s.heap.IsList t items)
  (hQ:∀h',Heap.ExtBut s.heap.objs.size s.heap h'->Q items.toList {s with heap:=h'}):wpAny (model prog w) A (unpackItems (.ref t) items.size none) Q E s:=by
 have bg:t≠s.heap.objs.size:=by obtain⟨o,ho,_⟩:=ht;exact Z5 (ZO ho)
 have push:∀o,(s.heap.push o).IsList t items:=λo=>by obtain⟨ol,e,r⟩:=ht;exact⟨ol,Zv _ e,r⟩
 unfold unpackItems
 refine Zq ?_
 unfold notIterableAtAll
 refine Zq (aeP ht.typeIs F.slot_list_iter.lookup (ZC ?_))
 simp only[abp,if_false]
 refine Zq (aaO (adj ht ?_))
 refine Zq (aaO (rE bg items.size 0 _ _ ⟨_,ZN _ rfl,rfl,rfl⟩ (push _) (ZF (aaE _)) λh1 IB Lb=>?_))
 have Ih:List.take items.size (List.drop 0 items.toList)=items.toList:=by
  rw[acK];exact aay (by simp)
 rw[Ih,ZW (by simp)]
 have RV:h1.IsList t items:=(push _).extBut Lb.extBut bg
 refine Zq (aaO (wpAny_pyNext_list_end hh IB RV (by simp) λh2 MK=>?_))
 simp only[Option.isSome_none,abp,if_false]
 exact ZC (hQ h2 λb o hb e=>MK b o hb (Lb.extBut b o hb (Zv _ e)))
def uk(hh:A.handled=none)(ht:s.heap.IsList t items)
  (hn:(assignEach elts env).length =items.size) (ML:(assignEach elts env).findIdx? (·.1)=none)
  (h:∀h',Heap.ExtBut s.heap.objs.size s.heap h'->wpAny (model prog w) A (assignInOrder ((assignEach elts env).map (·.2)) items.toList) Q E {s with heap:=h'}):
  wpAny (model prog w) A (assign (.Tuple elts x1 pos) env (.ref t)) Q E s:=by
 rw[PyProof.Rows.assign_Tuple]
 refine Zq (aeo ?_)
 unfold unpack
 rw[hn,ML]
 exact Zq (aaO (kO hh ht h))
end
def MM(K:aC)(n:Nat)(t:Hw):TG:=λv σ H Q=>∃a xs,v= .ref a/\(du K H a xs\/cC K H a xs)/\xs.length=n/\t xs σ H Q
def IC(hc:X.calm=true)(h:K4 X es t)
  (hn:(assignEach es X.env).length =n:=by rfl) (pM:(assignEach es X.env).findIdx? (·.1)=none:=by rfl):PG X (.Tuple es k pos) (MM X.K n t):=by
 intro U s σ H v u Q I r hw
 refine au λnO=>?_
 obtain⟨a,xs,e1,hq,hl,hw⟩:=hw
 subst e1
 cases r
 refine nO ?_
 rcases hq with hq|hq
 .refine au λnO=>?_
  obtain⟨its,rv,ht,hz⟩:=I.list hq
  refine nO<|uk (I.ok.hd hc) ht.isList (by simp[hn,<-hl,rv.length]) pM λh' hx=>?_
  have I1:Inv X U σ H {s with heap:=h'}:=I.kept (t':=s.toks) λb o e=>hx b o (Z5 (ZO e)) e
  exact h U _ σ H xs _ Q I1 (by simpa using rv) hw
 .exact Hy hc h hn pM U s σ H (.ref a) (.ref a) Q I rfl ⟨a,xs,rfl,hq,hl,hw⟩
open AutoSeq1 (wpAny_loadPart')
noncomputable abbrev p8(items:Array Value)(x:Value)(i:Nat)(_:Option PySem.Fin×Unit):Sem (ForInStep (Option PySem.Fin×Unit)):=
 match items[i]? with
 |some y=>do
  let c<-eqBool y x
  if c=true then do
   let r<-retInt (i:Int)
   pure (ForInStep.done (some r,()))
  else pure (ForInStep.yield (none,()))
 |_=>pure (ForInStep.yield (none,()))
section
variable {prog:Program}{w:World}{A:Around}{E:Value->Shared->Prop}
theorem rF(hi:IntsAre items.toList ns)(hj:ns[j]?=some k)(va:∀m,m<j->ns[m]?≠some k):
  ∀(m i:Nat) (s:Shared) (Q:Option PySem.Fin×Unit->Shared->Prop),i<=j->j<i+m->i+m<=items.size->Q (some (.done (.ret (.int j s.toks))),()) {s with toks:=s.toks+1}->
   wpAny (model prog w) A (forIn (List.range' i m) ((none,()):Option PySem.Fin×Unit) (p8 items (.int k t))) Q E s
 |0,i,s,Q,h1,h2,_,_=>absurd h2 (Nat.not_lt_of_le h1)
 |m+1,i,s,Q,h1,h2,h3,h=>by
  have bg:i<items.size:=(ZH (ZU _ _) h3)
  have hl:ns.length=items.toList.length:=hi.length.symm
  obtain⟨ti,ei⟩:=ints_get hi i items[i] (by simp[bg])
  have hn:ns[i]?=some (ns.getD i 0):=by
   rw[ZR,Zt (by rw[hl];simpa using bg)]
   rfl
  rw[ady,abY]
  unfold p8
  rw[aak bg]
  show wpAny _ _ ((eqBool items[i] (.int k t) >>= _) >>= _) _ _ s
  rw[ei]
  refine Zq (Zq (adv ?_))
  by_cases um:i=j
  .subst um
   rw[hj]at hn
   have e:ns.getD i 0=k:=(ZY hn).symm
   rw[e,beq_self_eq_true,ZM rfl]
   refine Zq ?_
   unfold retInt ret
   refine Zq (wpAny_mkInt (ZC (ZC (ZC h))))
  .have e:(ns.getD i 0==k)=false:=by
    rw[beq_eq_false_iff_ne]
    exact λz=>va i (aad h1 um) (by rw[hn,z])
   rw[e,ZW Zz]
   exact ZC (rF hi hj va m (i+1) s Q (aad h1 um) (nu (Z8 _ _ _) h2) (K1 (Z8 _ _ _) h3) h)
end
def xJ(l:Addr)(items:Array Value)(n:Nat)(dd:Option Addr)(sl:Array (Option Value))(hi:IntsAre items.toList ns){j:Nat}(hj:ns[j]?=some k)(va:∀m,m<j->ns[m]?≠some k):
  Meets (Builtin.«tuple.index» ⟨[.ref l,.int k t],[]⟩)
   (λA R s=>s.heap.get? l=some {cls:= .type "tuple",dict:=dd,data:= .seq items n,slots:=sl}/\R (.ok (.ret (.int j s.toks))) {s with toks:=s.toks+1}):=by
 intro prog w A R s h
 obtain⟨hp,g,d,tk,os⟩:=s;obtain⟨hl,h⟩:=h
 unfold Builtin.«tuple.index»
 simp only[Std.Legacy.Range.forIn_eq_forIn_range']
 wp_walk using abZ hl
 have PJ:j<items.size:=by
  have q:=(ZL.mp hj).1
  have:=hi.length
  simp at this
  exact Zr q (ZF (aaa this))
 have W4:(([:min items.size items.size]:Std.Legacy.Range)).size =items.size:=by simp[Std.Legacy.Range.size]
 rw[W4]
 show wpAny _ _ (forIn (List.range' 0 items.size) ((none,()):Option PySem.Fin×Unit) (p8 items (.int k t))) _ _ _
 exact rF hi hj va items.size 0 _ _ (aab _) (Nat.lt_add_left _ PJ) (ZF (aaE _))<|ZC h
def ID(K:aC):V->List V->Hp->VK->Prop:=λx vs H Q=>∃(l:Addr) (ns:List Int) (k:Int) (j:Nat),x= .ref l/\vs=[.int k]/\cC K H l (ns.map V.int)/\ns[j]?=some k/\(∀m,m<j->ns[m]?≠some k)/\Q (.int (j:Nat)) H
def zU:Ml X "tuple.index" (ID X.K):=by
 intro U s σ H x vs v us Q I rx rv h
 refine au λnO=>CN h λl ns k j ah aM hq hj va q=>?_
 try clear h
 subst ah
 subst aM
 cases rx
 obtain⟨u,rfl,t,rfl⟩:=vals1 rv
 obtain⟨its,r,⟨⟨c,dd,dt,sl⟩,ho,hc,n,hd⟩,hz⟩:=I.tuple hq
 have kY:c= .type "tuple":=hc
 have iF:dt= .seq its.toArray n:=hd
 subst kY iF
 refine nO ?_
 have hi:IntsAre its.toArray.toList ns:=by simpa using intsAre_of r
 exact call_meets aeg ⟨_,ho,rfl⟩ PySem.F.entry_tuple_index (PySem.F.args_tuple_index_2 _ _) (xJ l its.toArray n dd sl hi hj va) ⟨ho,.int j,H,I.tok _,⟨_,rfl⟩,q⟩
def W5(K:aC)(r:V->List V->Hp->VK->Prop)(to:TE)(t:TA):TE:=λσ H Q=>to σ H λx H1=>(∃a xs,x= .ref a/\cC K H1 a xs)/\t σ H1 λxs H2=>r x xs H2 Q
def MN{id:String}(pa:PlainAttrs "tuple")(slot:Slot "tuple" name id)(Mn:typeOf (.builtin id)=pure (.type "method_descriptor"))(hm:Ml X id r)(ho:PE X o to)(ha:PA X (e::es) t)
  (iO:attributeBase o name X.env (eval o X.env)=eval o X.env)
  (Ib:((backTo cj (starEach (e::es) X.env)).all (λx=>!x.1)&&(backToKw cj (keywordEach [] X.env)).all (λx=>x.1.isSome)
   && decide ((e::es).length+([]:List Keyword).length+(if([]:List Keyword).isEmpty then 0 else 1)<30))=true)
  (iP:(iI.endLine==cj.line)=true) (hs:starEach (e::es) X.env=(false,eval e X.env)::starEach es X.env) (uc:(backTo cj (starEach es X.env)).any (·.1)=false):
  PE X (.Call (.Attribute o name iI) (e::es) [] cj) (W5 X.K r to t):=by
 intro U s σ H Q I h
 refine wpAny_Call_method_late iO Ib iP rfl (aU (ho U s σ H _ I h) λv s1 zz=>?_)
 refine au λnO=>iD zz λx H1 I1 r1 ty q1=>dU ty λa xs ah hq=>?_
 try clear ty
 subst ah
 cases r1
 obtain⟨its,rv,⟨ob,e1,e2,_,e4⟩,_⟩:=I1.Hv hq
 refine nO ?_
 refine⟨"tuple",id,pa,slot,Mn,⟨ob,e1,e2⟩,λb z=>by cases z;exact⟨ob,e1,e4⟩,?_⟩
 have hA:=ha cj U s1 σ H1 _ I1 q1
 rw[hs]at hA⊢
 refine abJ (by show(false||(backTo cj (starEach es X.env)).any (·.1))=false;rw[uc]<;>rfl) (acH ?_)
 exact aU hA λus s2 zz=>bu zz λvs H2 I2 W6 q2=>hm U s2 σ H2 (.ref a) vs (.ref a) us Q I2 rfl W6 q2
def Dw(a b:Int)(t u:Tok):MeetsSeq.EqGives (.int a t) (.int b u) (a==b):=λ_ _ _ _ _ _ h=>adv h
noncomputable def MO(K:aC):V->List V->Hp->VK->Prop:=λx vs H Q=>∃(l:Addr) (ns:List Int) (k:Int) (j:Nat),x= .ref l/\vs=[.int k]/\du K H l (ns.map V.int)/\ns[j]?=some k/\(∀m,m<j->ns[m]?≠some k)/\Q (.int (j:Nat)) H
def xK:Ml X "list.index" (MO X.K):=by
 intro U s σ H x vs v us Q I rx rv h
 refine au λnO=>CN h λl ns k j ah aM hq h1 h2 q=>?_
 try clear h
 subst ah
 subst aM
 cases rx
 obtain⟨wv,rfl,W7⟩:=vals1 rv
 obtain⟨u,rfl⟩:=W7
 obtain⟨its,r,pl,hz⟩:=I.list hq
 refine nO ?_
 have len:=r.length
 rw[ZA]at len
 have at':∀(m:Nat) (hm:m<its.toArray.size),∃a t,its.toArray[m]= .int a t/\ns[m]?=some a:=λm hm=>by
  have xE:m<its.length:=by simpa using hm
  have Gm:(ns.map V.int)[m]?=some (V.int (ns[m]'(Zr xE (ZF (aaa len))))):=by rw[ZJ,Zt (Zr xE (ZF (aaa len)))];rfl
  refine aa (r.get Gm) λw' e1 e2=>?_
  obtain⟨t,e3⟩:=e2
  refine⟨_,t,?_,Zt (Zr xE (ZF (aaa len)))⟩
  rw[<-e3]
  have:its[m]?=some its[m]:=Zt xE
  rw[this]at e1
  simpa using e1
 have W8:j<ns.length:=(ZL.mp h1).1
 have PJ:j<its.toArray.size:=by simpa using ((Zr W8 (ZF len)):j<its.length)
 let e:Value->Bool:=λy=>match y with| .int a _=>a==k|_=>false
 have ee:∀y,y∈its.toArray->MeetsSeq.EqGives y (.int k u) (e y):=λy hy=>by
  obtain⟨m,hm,rfl⟩:=aeQ.mp hy
  refine dU (at' m hm) λa t q1 _=>?_
  rw[q1]
  exact Dw a k t u
 refine au λnO=>?_
 obtain⟨⟨c0,d0,Zb,W9⟩,n,hl,UW,PK,MP⟩:=pl
 dsimp only at UW PK MP
 subst UW PK MP
 refine dU (at' j PJ) λaj tj qj zj=>nO ?_
 have nJ:e its.toArray[j]=true:=by
  rw[h1]at zj
  cases zj
  show(match its.toArray[j]with| .int a _=>a==k|_=>false)=true
  rw[qj]
  exact beq_self_eq_true _
 have va:∀m (hm:m<its.toArray.size),m<j->e its.toArray[m]=false:=λm hm W_=>by
  refine dU (at' m hm) λa t q1 q2=>?_
  show(match its.toArray[m]with| .int a _=>a==k|_=>false)=false
  rw[q1]
  exact beq_eq_false_iff_ne.mpr λy=>h2 m W_ (by rw[q2,y])
 have iq:(j:Int)<2 ^ 63-1:=by
  have Gm:ns.length<=16777216:=by
   have:=hz
   rw[ZA,sizeLine_eq]at this
   exact this
  lia
 exact call_meets F.slot_list_index (show s.TypeIs (.ref l) "list" from⟨_,hl,rfl⟩) F.entry_list_index (F.args_list_index_2 _ _) (SeqAt.list_indexAt l its.toArray n none W9 (.int k u) e j PJ iq nJ va) ⟨hl,λy hy=>(ee y hy).at _ _,.int j,H,I.kept (t':=s.toks+1) λ_ _ q=>q,⟨_,rfl⟩,q⟩
open AutoSeq1 (wpAny_loadPart')
abbrev MQ(a c:Int):Nat->Value->Prop:=λi v=>∃t,v= .int (a+i*c) t
section
variable {prog:Program}{w:World}{A:Around}{E:Value->Shared->Prop}{s:Shared}
def nK{n:Nat}(hh:A.handled=none)(hr:IsRange s.heap r a b c t u v)(iq:Builtin.Range.small a b c=true)
  (hn:Builtin.Range.rangeSize a b c=n) (aV:n<=2 ^ 24)
  (hQ:∀h' tk acc,(∀b o,s.heap.get? b=some o->h'.get? b=some o)->ItemsOf (MQ a c) acc n->Q acc.toList {s with heap:=h',toks:=tk}):wpAny (model prog w) A (collect (.ref r)) Q E s:=by
 unfold collect
 refine Zq (wpAny_runValue (aeR F.entry_proto_collect ?_))
 rw[Around.under_plainId F.plain_proto_collect _]
 show wpAny _ A.in1 (newList [] >>= λl=>again (.builtin "list.__iadd__" ⟨[l,.ref r],[]⟩)) _ _ s
 refine Zq (Z' ?_)
 refine ZC ⟨plainId_quiet F.plain_list_iadd _,aeR F.entry_list_iadd ?_⟩
 rw[Around.under_plainId F.plain_list_iadd _]
 show wpAny _ A.in1 (Builtin.List.listExtendWith (.ref s.heap.objs.size) (.ref r) (.ref s.heap.objs.size)) _ _ _
 have hS:(s.heap.push {cls:= .type "list",data:= .seq ([]:List Value).toArray}).get? s.heap.objs.size=some {cls:= .type "list",data:= .seq #[] 0}:=ZN _ rfl
 let RR:Result->Shared->Prop:=λr s'=>∃(h':Heap) (tk:Nat) (acc:Array Value) (c':Nat),r= .ok (.ret (.ref s.heap.objs.size))/\s'={s with heap:=h',toks:=tk}/\
  (∀b o,s.heap.get? b=some o->h'.get? b=some o)/\h'.get? s.heap.objs.size=some {cls:= .type "list",dict:=none,data:= .seq acc c',slots:=#[]}/\ItemsOf (MQ a c) acc n
 have dh:∀(h':Heap) (tk:Nat) (acc:Array Value) (c':Nat),(∀b o,s.heap.get? b=some o->h'.get? b=some o)->h'.get? s.heap.objs.size=some {cls:= .type "list",dict:=none,data:= .seq acc c',slots:=#[]}->ItemsOf (MQ a c) acc n->
   wpAny (model prog w) A (match Value.ref s.heap.objs.size with
    |Value.ref a=>do
     match (<-load a).data with
      |Data.seq xs _=>pure xs.toList
      |_=>unsupported "internal:collect"
    |_=>unsupported "internal:collect") Q E {s with heap:=h',toks:=tk}:=λh' tk acc c' hk vm kP=>by
  show wpAny _ A (load s.heap.objs.size >>= _) _ _ _
  exact Zq (wpAny_load vm (ZC (hQ h' tk acc hk kP)))
 refine aaJ (wpAny_extend_range (A:=A) (R:=RR) (s:={s with heap:=s.heap.push {cls:= .type "list",data:= .seq ([]:List Value).toArray}}) hh (Zv _ hr) iq hn aV _ (.ref s.heap.objs.size) _ hS λh' tk IE c' hk vm kP=>⟨h',tk,IE,c',rfl,rfl,λb o e=>hk b o (Z5 (ZO e)) (Zv _ e),vm,kP⟩) (λfin s' h=>?_) (λe s' h=>?_)
 .cases fin with
  |done f=>
   refine tT h λh' tk acc c' e ah hk vm kP=>?_
   try clear h
   subst ah
   cases e
   exact dh h' tk acc c' hk vm kP
  |again c'=>
   refine⟨h.1,adO h.2 λr u9 hr=>?_⟩
   refine tT hr λh' tk acc c' e aM hk vm kP=>?_
   try clear hr
   subst aM
   subst e
   exact dh h' tk acc c' hk vm kP
 .refine nr h λh' tk acc c' e _=>?_
  cases e
end
def uo{n:Nat}(iq:Builtin.Range.small a b c=true)(hn:Builtin.Range.rangeSize a b c=n)(aV:n<=2 ^ 24):
  Meets (Builtin.«tuple.__new__» ⟨[.type "tuple",.ref r],[]⟩)
   (λA R s=>A.handled=none/\IsRange s.heap r a b c t u v/\∀(h':Heap) (tk:Nat) (acc:Array Value),(∀b o,s.heap.get? b=some o->h'.get? b=some o)->ItemsOf (MQ a c) acc n->
    R (.ok (.ret (.ref h'.objs.size))) {s with heap:=h'.push {cls:= .type "tuple",data:= .seq acc},toks:=tk}):=
 .of_wp λprog w A R s h=>by
  obtain⟨hp,g,d,Xa,os⟩:=s
  refine cy h λhh hr h=>?_
  have Xb:=sub_tuple_self
  have UX:=init_tuple_lookup
  have Zc:=madeHere_tuple
  have hT:Shared.TypeIs ⟨hp,g,d,Xa,os⟩ (.ref r) "range":=⟨_,hr,rfl⟩
  have Xc:A.in1.handled=none:=hh
  wp_walk using abZ hr,adQ hT,nK Xc hr iq hn aV
  intro h' tk acc hk kP
  show wpAny _ _ (Builtin.Tuple.tupleExact acc.toList.toArray >>= λv=>ret v) _ _ _
  unfold Builtin.Tuple.tupleExact
  refine Zq (Z' ?_ (show acc.toList.toArray.size<=sizeLine by simp only[afd];rw[kP.1,sizeLine_eq];exact aV))
  refine ZC ⟨_,rfl,?_⟩
  have e:acc.toList.toArray=acc:=by simp
  rw[e]
  exact h h' tk acc hk kP
section
variable {prog:Program}{w:World}{A:Around}{E:Value->Shared->Prop}{s:Shared}
def xM{n:Nat}(hh:A.handled=none)(hr:IsRange s.heap r a b c t u v)(iq:Builtin.Range.small a b c=true)(hn:Builtin.Range.rangeSize a b c=n)(aV:n<=2 ^ 24)
  (h:∀(h':Heap) (tk:Nat) (acc:Array Value),(∀b o,s.heap.get? b=some o->h'.get? b=some o)->ItemsOf (MQ a c) acc n->Q (.ref h'.objs.size) {s with heap:=h'.push {cls:= .type "tuple",data:= .seq acc},toks:=tk}):
  wpAny (model prog w) A (call (.type "tuple") [.ref r]) Q E s:=
 callType_new F.called_tuple (by decide) (F.typeCall_tuple_1 _) (F.newCall_tuple_1 _) (λobj=>adC obj _) F.entry_tuple_new (uo iq hn aV)
  ⟨hh,hr,λh' tk acc hk kP=>⟨⟨_,ZN _ rfl,rfl⟩,h h' tk acc hk kP⟩⟩
end
open AutoSeq1 (wpAny_loadPart')
theorem vn:∀{bs:List Bool}{us:List Value},aE (bs.map V.bl) us->us=bs.map Value.bool
 |[],_,.nil =>rfl
 |b::bs,_,.cons r t=>by
  have e:_=Value.bool b:=r
  rw[e,vn t]
  rfl
section
variable {prog:Program}{w:World}{A:Around}{E:Value->Shared->Prop}{s:Shared}{l:Addr}{X:Cx}
def rG(A:Around)(bs:List Bool):TruthOf prog w A (λi v=>(bs.map Value.bool).toArray[i]?=some v) (λi=>bs.getD i false):=λi v s Q E hP hQ=>by
 have q:(bs.map Value.bool)[i]?=some v:=by simpa using hP
 rw[ZJ]at q
 cases e:bs[i]? with
 |none=>rw[e]at q;cases q
 |some b=>
  rw[e]at q
  cases q
  have:bs.getD i false=b:=by rw[ZR,e];rfl
  have UY:Q (bs.getD i false) s:=hQ
  rw[this]at UY
  exact aaS UY
def any_range{bs:List Bool}:(List.range bs.length).any (λi=>bs.getD i false)=bs.any id:=by
 rw[aeS,adz,adz]
 constructor
 .rintro⟨i,hi,h⟩
  have iT:=aar.mp hi
  rw[ZR,Zt iT]at h
  exact⟨_,abu iT,h⟩
 .rintro⟨b,hb,h⟩
  obtain⟨i,hi,rfl⟩:=List.mem_iff_getElem.mp hb
  exact⟨i,aar.mpr hi,by rw[ZR,Zt hi];exact h⟩
end
section
variable {X:Cx}
theorem iY:∀{us:List Value}{ns:List Int},IntsAre us ns->aE (ns.map V.int) us
 |_,_,.nil => .nil
 |_,_,.cons n t r=> .cons ⟨t,rfl⟩ (iY r)
def Dx:gX X (binaryOp .Add) (λx y H Q=>∃a b ys,x= .ref a/\y= .ref b/\cC X.K H a []/\cC X.K H b ys/\Q (.ref b) H):=by
 intro U s σ H x y v u Q I rx ry zz
 refine tS zz λa b ys e1 e2 h1 h2 q=>?_
 refine au λnO=>?_
 subst e1 e2
 cases rx
 cases ry
 obtain⟨its,r1,⟨⟨c,dd,dt,sl⟩,ho,hc,n,hd⟩,_⟩:=I.tuple h1
 obtain⟨ik,r2,⟨⟨c2,Pp,Zd,Pu⟩,HV,Mf,n2,tN⟩,_⟩:=I.tuple h2
 cases r1
 refine nO ?_
 simp only at hc hd Mf tN
 subst hc hd Mf tN
 exact concat_meets ⟨_,ho,rfl⟩ ⟨_,HV,rfl⟩ noFill_tuple_add seq_tuple_add adg acX (acR _ _)
  (tuple_addW0 a b _ ik.toArray n n2 dd Pp sl Pu (by simp)) ⟨ho,HV,.ref b,H,I,rfl,q⟩
end
open HT
open AutoSeq1 (wpAny_loadPart')
theorem rH:∀l:List α,(∀x∈l,f x=g x)->l.filterMap f=l.filterMap g
 |[],_=>rfl
 |x::l,h=>by rw[abI,abI,h x ZD,rH l λy hy=>h y (Zy _ hy)]
section
variable {prog:Program}{w:World}{A:Around}{E:Value->Shared->Prop}{s:Shared}
def nL(ht:IsTup s.heap t items)(h:Q true s):wpAny (model prog w) A (Builtin.Tuple.tupleIsExact (.ref t)) Q E s:=by
 unfold Builtin.Tuple.tupleIsExact
 exact Zq (adQ ht.typeIs (ZC (by simpa using h)))
def gS{lo hi:Option Int}(ht:IsTup s.heap t items)(hs:s.heap.IsSliceOf sl vl vu .none)(pl:IsPart vl lo)(pu:IsPart vu hi)
  (hw:b9 items.size 0 lo=0/\b9 items.size items.size hi=items.size) (h:Q (.ref t) s):wpAny (model prog w) A (getItem (.ref t) (.ref sl)) Q E s:=by
 refine bB (id hs) λos q_ n9 CC=>?_
 have Mi:s.TypeIs (.ref sl) "slice":=⟨os,q_,n9⟩
 unfold getItem
 try with_reducible refine aaO ?_
 first|refine Zq (ZC ?_)|skip
 refine Zq (aec ht.typeIs (by decide) ?_)
 refine Zq (aav (name:=Str.ofString "__getitem__") ht.typeIs aag (aaA aag ht.typeIs entry_tuple_getitem ?_ (args_tuple_getitem _ _)))
 show wpAny _ _ (Builtin.Tuple.tupleItemsOf (.ref t) >>= _) _ _ s
 refine Zq (tupleItemsOf_ ht ?_)
 refine Zq (adQ Mi ?_)
 rw[ZM (by decide)]
 refine Zq (eI hs pl pu ?_)
 have RW:(((b9 items.size 0 lo:Nat):Int)==0&&(1:Int)==1&&(b9 items.size items.size hi-b9 items.size 0 lo)==items.size)=true:=by
  rw[hw.1,hw.2];simp
 show wpAny _ _ (if(((b9 items.size 0 lo:Nat):Int)==0&&(1:Int)==1&&(b9 items.size items.size hi-b9 items.size 0 lo)==items.size)=true then _ else _) _ _ s
 rw[ZM RW]
 refine Zq (nL ht ?_)
 rw[ZM rfl]
 exact Zq (acs (ZC ⟨_,rfl,ZC h⟩))
def jK{n:Nat}(hs:s.heap.IsSliceOf sl .none .none (.int (-1) u))
  (h:Q ((n:Int)-1,-1,n) s):wpAny (model prog w) A (Builtin.Slice.sliceApplied (.ref sl) (pure (n:Int))) Q E s:=by
 refine bB (id hs) λos q_ n9 CC=>?_
 unfold Builtin.Slice.sliceApplied Builtin.Slice.sliceFields
 refine Zq (Zq (aaF q_ CC (x:= .none) rfl (Zq (aaF q_ CC (x:= .none) rfl (Zq (aaF q_ CC (x:= .int (-1) u) rfl (ZC ?_)))))))
 refine Zq (slicePart_int ?_)
 show wpAny _ _ (if((-1:Int)==0)=true then _ else _) _ _ s
 rw[ZW (by decide)]
 refine Zq (slicePart_none (Zq (slicePart_none (Zq (ZC ?_)))))
 have e:Builtin.Slice.slicePlaces ((n:Int)-1) (-1) (-1)=n:=by
  unfold Builtin.Slice.slicePlaces
  rw[ZW (by decide)]
  by_cases hn:n=0
  .subst hn;decide
  .rw[ZM (by omega)]
   simp
 show wpAny _ _ (pure ((n:Int)-1,(-1:Int),Builtin.Slice.slicePlaces ((n:Int)-1) (-1) (-1))) _ _ s
 rw[e]
 exact ZC h
def zV(xs:List Value):((List.range xs.length).filterMap λ(m:Nat)=>xs.toArray[(((xs.length:Int)-1)+(m:Int) * -1).toNat]?).toArray =xs.reverse.toArray:=by
 congr 1
 apply abx
 intro i
 have e:(List.range xs.length).filterMap (λ(m:Nat)=>xs.toArray[(((xs.length:Int)-1)+(m:Int) * -1).toNat]?)=(List.range xs.length).map λ(m:Nat)=>xs.getD (xs.length-1-m) .none :=by
  rw[<-List.filterMap_eq_map]
  refine rH _ λm hm=>?_
  have xE:=aar.mp hm
  have q:(((xs.length:Int)-1)+(m:Int) * -1).toNat =xs.length-1-m:=(QN xE)
  rw[q]
  have bg:xs.length-1-m<xs.length:=(QH xE)
  simp[Zt bg]
 rw[e,ZJ]
 by_cases hi:i<xs.length
 .rw[aby hi,aeT hi]
  show some (xs.getD (xs.length-1-i) .none)=_
  rw[ZR,Zt (QH hi)]
  rfl
 .have l1:(List.range xs.length)[i]?=none:=Z6 (by simp;exact Z0 hi)
  have l2:xs.reverse[i]?=none:=Z6 (by simp;exact Z0 hi)
  rw[l1,l2]
  rfl
def iZ{xs:List Value}(ht:IsTup s.heap t xs.toArray)(hs:s.heap.IsSliceOf sl .none .none (.int (-1) u))(hsz:xs.length<=sizeLine)
  (h:Q (.ref s.heap.objs.size) {s with heap:=s.heap.push {cls:= .type "tuple",data:= .seq xs.reverse.toArray}}):wpAny (model prog w) A (getItem (.ref t) (.ref sl)) Q E s:=by
 refine bB (id hs) λos q_ n9 CC=>?_
 have Mi:s.TypeIs (.ref sl) "slice":=⟨os,q_,n9⟩
 unfold getItem
 try with_reducible refine aaO ?_
 first|refine Zq (ZC ?_)|skip
 refine Zq (aec ht.typeIs (by decide) ?_)
 refine Zq (aav (name:=Str.ofString "__getitem__") ht.typeIs aag (aaA aag ht.typeIs entry_tuple_getitem ?_ (args_tuple_getitem _ _)))
 show wpAny _ _ (Builtin.Tuple.tupleItemsOf (.ref t) >>= _) _ _ s
 refine Zq (tupleItemsOf_ ht ?_)
 refine Zq (adQ Mi ?_)
 rw[ZM (by decide)]
 have e:(xs.toArray.size:Int)=(xs.length:Nat):=by simp
 rw[e]
 refine Zq (jK hs ?_)
 show wpAny _ _ (if(((xs.length:Int)-1)==0&&(-1:Int)==1&&xs.length==xs.toArray.size)=true then _ else _) _ _ s
 rw[ZW (by simp),zV]
 have aI:sizeOk (.seq xs.reverse.toArray):=by
  show xs.reverse.toArray.size<=sizeLine
  simpa using hsz
 first
  |exact Zq (m:=Builtin.Tuple.tupleExact _) (Z' (ZC ⟨_,rfl,ZC h⟩) aI)
  |exact Zq (m:=Builtin.Tuple.tupleExact _) (Z' (Zq (ZC (ZC ⟨_,rfl,ZC h⟩))) aI)
  |exact Zq (Zq (m:=Builtin.Tuple.tupleExact _) (Z' (ZC (ZC ⟨_,rfl,ZC h⟩)) aI))
  |exact Zq (Zq (m:=Builtin.Tuple.tupleExact _) (Z' (ZC ⟨_,rfl,ZC h⟩) aI))
end
section
variable {X:Cx}
def MR(K:aC):V->Option Int->Option Int->Hp->VK->Prop:=λx lo hi H Q=>∃a xs,x= .ref a/\cC K H a xs/\(b9 xs.length 0 lo=0/\b9 xs.length xs.length hi=xs.length)/\Q x H
def zW:CD X (MR X.K):=by
 intro U s σ H x v vl vu lo hi sl Q I rx hs pl pu h
 refine iD h λa xs ah hx hw q=>?_
 try clear h
 subst ah
 cases rx
 refine bB (I.tuple hx) λits r ht hz=>?_
 have aV:its.toArray.size=xs.length:=by rw[ZI];exact r.length.symm
 exact⟨"tuple",_,aag.lookup,ht.typeIs,gS ht hs pl pu (by rw[aV];exact hw) ⟨.ref a,H,I,rfl,q⟩⟩
def Dy:CD X (λx lo hi H Q=>Mk X.K x lo hi H Q\/MR X.K x lo hi H Q):=HX.or zW
def IF(he:PE X e te):
  PE X (.Subscript e (.Slice none none (some (.UnaryOp .USub (.Constant (.int 1) j p1) p3)) p2) pos) (λσ H Q=>te σ H λx H1=>∃a xs,x= .ref a/\cC X.K H1 a xs/\∀p,H1 p=none->Q (.ref p) (upd H1 p (.tup xs.reverse))):=by
 intro U s σ H Q I h
 refine Subscript_ (aU (he U s σ H _ I h) λv s1 zz=>?_)
 refine au λnO=>bu zz λx H1 I1 r1 q1=>bu q1 λa xs ah hx q=>?_
 try clear q1
 subst ah
 cases r1
 refine nO<|wpAny_Slice ?_
 rw[evalPart_none]
 refine ZC (ZC ?_)
 rw[evalPart_some]
 refine aU ((F5 (zq (X:=X)) (zb (i:=1) (j:=j) (pos:=p1)) (pos:=p3)) U s1 σ H1 (λy H2=>y= .int (-1)/\H2=H1) I1 ⟨1,rfl,rfl,rfl⟩) λst s3 zz=>au λnO=>iD zz λy H3 I3 r3 e1 e2=>?_
 subst e1 e2
 obtain⟨u,rfl⟩:=r3
 have I4:Inv X U σ H3 {s3 with heap:=s3.heap.push {cls:= .type "slice",data:= .fields #[.none,.none,.int (-1) u]}}:=I3.kept (t':=s3.toks) λb ob q=>Zv _ q
 refine bB (I4.tuple hx) λits r ht hz=>nO ?_
 show wpAny (model X.prog X.w) X.A (subscriptTail e (.Slice none none (some (.UnaryOp .USub (.Constant (.int 1) j p1) p3)) p2) (.ref a) (.ref s3.heap.objs.size)) (EP X U σ Q) X.xe {s3 with heap:=s3.heap.push {cls:= .type "slice",data:= .fields #[.none,.none,.int (-1) u]}}
 refine tail_any (ops:=[.ref a,.ref s3.heap.objs.size]) ht.typeIs aag.lookup ?_ (by with_unfolding_all rfl)
 have hl:=r.length
 refine iZ ht (Heap.IsSliceOf.new ..) (Zw (ZF (aaa hl)) hz) ?_
 have RX:aE xs.reverse its.reverse:=by
  have aux:∀{xs:List V}{us:List Value},aE xs us->aE xs.reverse us.reverse:=λ{xs us} h=>by
   induction h with
   |nil=>exact .nil
   |cons r _ ih=>rw[adk,adk];exact ih.append (.cons r .nil)
  exact aux r
 refine⟨.ref _,_,I4.laid (t':=s3.toks) (o:= .tup xs.reverse) (λb ob q=>Zv _ q) (ZG _) ⟨by rw[afq];exact hz,_,RX,ig.new _ _⟩,rfl,q _ (I4.aI.fresh (ZG _))⟩
end
end L2
namespace L2
open PySem PyProof.Rows
open PySem.Spec
section
variable {κ:Type}[DecidableEq κ]
noncomputable def jL(az:List (κ×V))(k:κ):Option V:=(az.find? λkv=>decide (kv.1=k)).map (·.2)
noncomputable def f_(az:List (κ×V))(k:κ)(v:V):List (κ×V):=
 if(az.any λkv=>decide (kv.1=k))=true then az.map (λkv=>if kv.1=k then(kv.1,v) else kv) else az++[(k,v)]
def i5{r:List (κ×V)}(e:p.1=k):jL (p::r) k=some p.2:=by simp[jL,aca,e]
def i6{r:List (κ×V)}(e:¬p.1=k):jL (p::r) k=jL r k:=by simp[jL,aca,e]
theorem rJ(k:κ):∀az:List (κ×V),(az.any λkv=>decide (kv.1=k))=(jL az k).isSome
 |[]=>rfl
 |p::r=>by
  rw[acD]
  by_cases e:p.1=k
  .simp only[i5 e,decide_eq_true e,Bool.true_or,afx]
  .rw[i6 e,decide_eq_false e,Bool.false_or];exact rJ k r
def km(az:List (κ×V))(k:κ)(v:V):(f_ az k v).length <=az.length+1:=by
 unfold f_
 split
 .rw[ZA];exact ZU _ _
 .rw[ZQ,Z3,aeU];exact ZG _
def kD.eK(r:kD o u):o.isSome=u.isSome:=by
 cases o with
 |none=>cases u with
  |none=>rfl
  |some _=>exact(show False from r).elim
 |some _=>cases u with
  |none=>exact(show False from r).elim
  |some _=>rfl
theorem kD.getD(r:kD o u)(rd:RelV d d'):RelV (o.getD d) (u.getD d'):=by
 cases o with
 |none=>cases u with
  |none=>exact rd
  |some _=>exact(show False from r).elim
 |some _=>cases u with
  |none=>exact(show False from r).elim
  |some _=>exact r
def KV.val{az:List (κ×V)}(r:KV az vs)(k:κ):kD (jL az k) (valueAt vs k):=by
 unfold KV at r
 induction r with
 |nil=>exact True.intro
 |@cons p q ps qs h t ih=>
  obtain⟨h1,h2⟩:=h
  by_cases e:p.1=k
  .have e':q.1=k:=h1.symm.trans e
   have b:valueAt (q::qs) k=some q.2:=by simp[valueAt,aca,e']
   rw[i5 e,b];exact h2
  .have e':¬q.1=k:=λz=>e (h1.trans z)
   have b:valueAt (q::qs) k=valueAt qs k:=by simp[valueAt,aca,e']
   rw[i6 e,b];exact ih
theorem KV.any(r:KV az vs)(k:κ):(az.any λkv=>decide (kv.1=k))=vs.any λkv=>decide (kv.1=k):=by
 unfold KV at r
 induction r with
 |nil=>rfl
 |cons h t ih=>rw[acD,acD,ih,h.1]
def KV.IG(r:KV az vs)(k:κ)(ry:RelV y u):
  KV (az.map λkv=>if kv.1=k then(kv.1,y) else kv) (vs.map λkv=>if kv.1=k then(kv.1,u) else kv):=by
 unfold KV at r⊢
 induction r with
 |nil=>exact .nil
 |@cons p q ps qs h t ih=>
  rw[Z4,Z4]
  refine .cons ?_ ih
  obtain⟨h1,h2⟩:=h
  by_cases e:p.1=k
  .rw[ZM e,ZM (h1.symm.trans e)];exact⟨h1,ry⟩
  .rw[ZW e,ZW (λz=>e (h1.trans z))];exact⟨h1,h2⟩
def KV.put(r:KV az vs)(k:κ)(ry:RelV y u):KV (f_ az k y) (stored vs k u):=by
 unfold f_ stored
 rw[r.any k]
 by_cases e:(vs.any λkv=>decide (kv.1=k))=true
 .rw[ZM e,ZM e];exact r.IG k ry
 .rw[ZW e,ZW e];exact Paired.snoc r ⟨rfl,ry⟩
def KV.keys{vs:List (κ×Value)}(r:KV az vs):az.map (·.1)=vs.map (·.1):=by
 unfold KV at r
 induction r with
 |nil=>rfl
 |cons h t ih=>rw[Z4,Z4,ih,h.1]
theorem KV.length(r:KV az vs):az.length=vs.length:=acV r
end
def l7(r:RelV (kV k) u):(aS P w).is k u=true:=by
 cases k with
 |inl i=>obtain⟨t,e⟩:=(show∃t,u=Value.int i t from r);subst e;exact qT P w i t
 |inr x=>obtain⟨t,e⟩:=(show∃t,u=Value.str x t from r);subst e;exact qU P w x t
theorem ou:∀{ks:List cq}{us:List Value},aE (ks.map kV) us->ItemsAre (aS P w) ks us
 |[],_,r=>by rw[afC]at r;cases r;exact .nil
 |k::ks,_,r=>by
  rw[Z4]at r
  cases r with
  |cons h t=>exact .cons (l7 h) (ou t)
abbrev KT(H:Hp):List (List cq×V)->List (List cq×Addr×Value)->Prop:=Paired λp q=>p.1=q.1/\H q.2.1=some (.tup (p.1.map kV))/\RelV p.2 q.2.2
def KT.val{az:List (List cq×V)}(r:KT H az xs)(k:List cq):kD (jL az k) ((atKey xs k).map (·.2)):=by
 induction r with
 |nil=>exact True.intro
 |@cons p q ps qs h t ih=>
  refine cy h λh1 _ h2=>?_
  by_cases e:p.1=k
  .have e':q.1=k:=h1.symm.trans e
   have b:atKey (q::qs) k=some q.2:=by simp[atKey,aca,e']
   rw[i5 e,b];exact h2
  .have e':¬q.1=k:=λz=>e (h1.trans z)
   have b:atKey (q::qs) k=atKey qs k:=by simp[atKey,aca,e']
   rw[i6 e,b];exact ih
def KT.IG(r:KT H az xs)(k:List cq)(ry:RelV y u):
  KT H (az.map λkv=>if kv.1=k then(kv.1,y) else kv) (xs.map (putAt k u)):=by
 induction r with
 |nil=>exact .nil
 |@cons p q ps qs h t ih=>
  rw[Z4,Z4]
  refine .cons ?_ ih
  refine cy h λh1 h2 h3=>?_
  unfold putAt
  by_cases e:p.1=k
  .rw[ZM e,ZM (h1.symm.trans e)];exact⟨h1,h2,ry⟩
  .rw[ZW e,ZW (λz=>e (h1.trans z))];exact⟨h1,h2,h3⟩
def KT.put(r:KT H az xs)(k:List cq)(hb:H b=some (.tup (k.map kV)))(ry:RelV y u):
  KT H (f_ az k y) (storedH xs k b u):=by
 have e:(az.any λkv=>decide (kv.1=k))=(atKey xs k).isSome :=by
  rw[rJ,(r.val k).eK,adl]
 unfold f_ storedH
 rw[e]
 by_cases q:(atKey xs k).isSome =true
 .rw[ZM q,ZM q];exact r.IG k ry
 .rw[ZW q,ZW q];exact Paired.snoc r ⟨rfl,hb,ry⟩
def KT.keeps(r:KT H az xs)(ht:∀b ys,H b=some (.tup ys)->H' b=some (.tup ys)):KT H' az xs:=
 Paired.LK r λ_ _ z=>⟨z.1,ht _ _ z.2.1,z.2.2⟩
section
variable {P:Program}{w:World}{H:Hp}{h:Heap}{a:Addr}
def Gn(ok:fN P w H h)(e:Rd H a u):aT P w H h a u:=e.ok ok
def g_(ok:fN P w H h)(e:Rd H a (.dK az)):az.length<=sizeLine/\(a==sysModules)=false/\∃vs,KV az vs/\h.DictOf (aS P w) a vs:=
 show aT P w H h a (.dK az) from Gn ok e
def Gp(ok:fN P w H h)(e:H a=some (.dK az)):az.length<=sizeLine/\(a==sysModules)=false/\∃vs,KV az vs/\h.DictOf (aS P w) a vs:=g_ ok (.inl e)
def ir(ok:fN P w H h)(e:H a=some (.tup (ks.map kV))):(tupleKind (aS P w)).is h ks a:=by
 refine au λnO=>?_
 obtain⟨_,its,r,o,h1,h2,⟨n,h3⟩,_⟩:=(show aT P w H h a (.tup (ks.map kV)) from ok a _ e)
 exact nO<|⟨o,its.toArray,n,h1,h2,h3,by simpa using ou r⟩
def kq(ok:fN P w H h)(e:Rd H a (.dT az)):az.length<=sizeLine/\(a==sysModules)=false/\
  ∃xs,KT H az xs/\h.DictOfH (tupleKind (aS P w)) a xs:=by
 refine au λnO=>?_
 obtain⟨z,y,xs,r,o,es,ep,h1,h2,h3,h4,h5⟩:=(show aT P w H h a (.dT az) from Gn ok e)
 refine nO ?_
 refine⟨z,y,xs,r,o,es,ep,h1,h2,h3,h4,λx hx=>?_,h5⟩
 have all:∀{l:List (List cq×V)}{m:List (List cq×Addr×Value)},KT H l m->∀x∈m,(tupleKind (aS P w)).is h x.1 x.2.1:=by
  intro l m q
  induction q with
  |nil=>intro x hx;exact nomatch hx
  |@cons p q ps qs hq t ih=>
   intro x hx
   rcases ZK.mp hx with e|hx
   .subst e
    exact ir ok (by rw[<-hq.1];exact hq.2.1)
   .exact ih x hx
 exact all r x hx
def Gq(ok:fN P w H h)(e:H a=some (.dT az)):az.length<=sizeLine/\(a==sysModules)=false/\
  ∃xs,KT H az xs/\h.DictOfH (tupleKind (aS P w)) a xs:=kq ok (.inl e)
end
def l9(H:Hp)(a:Addr)(y:V)(r:Option V):Prop:=
 (∃az k,Rd H a (.dK az)/\y=kV k/\r=jL az k)\/∃az k b,Rd H a (.dT az)/\y= .ref b/\H b=some (.tup (k.map kV))/\r=jL az k
def IH(H:Hp)(a:Addr)(y v:V)(H':Hp):Prop:=
 (∃az k,H a=some (.dK az)/\y=kV k/\az.length<sizeLine/\H'=upd H a (.dK (f_ az k v)))\/
 ∃az k b,H a=some (.dT az)/\y= .ref b/\H b=some (.tup (k.map kV))/\az.length<sizeLine/\H'=upd H a (.dT (f_ az k v))
section
variable {X:Cx}{U:List (Addr×Obj)}{σ:St}{H:Hp}{s:Shared}{a:Addr}{y v:V}{u r:Value}{o:Option V}{A:Around}{E:Value->Shared->Prop}
def Inv.big(I:Inv X U σ H s):sysModules<s.heap.objs.size:=by
 have h:mainGlobals<s.heap.objs.size:=(I.mod.glob.keeps I.bk).lt
 exact adp (by decide) h
def xN(hu:A.units+1<cLine)(I:Inv X U σ H s)(g:l9 H a y (some v))(ry:RelV y u)(h:∀w' s',Inv X U σ H s'->RelV v w'->Q w' s'):
  wpAny (model X.prog X.w) A (getItem (.ref a) u) Q E s:=by
 rcases g with⟨az,k,e,ey,l⟩|⟨az,k,b,e,ey,eb,l⟩
 .refine au λnO=>?_
  subst ey
  obtain⟨z,hd,vs,dX,dd⟩:=g_ I.aI e
  exact aa (kD.some_of (v:=v) (o:=valueAt vs k) (by rw[l];exact dX.val k)) λw' hw xv=>nO<|wpAny_getItem_of (l7 ry) dd.mapOf hw (h w' _ (I.tok _) xv)
 .subst ey
  cases (show u=Value.ref b from ry)
  refine au λnO=>?_
  obtain⟨z,hd,xs,dX,dd⟩:=kq I.aI e
  refine aa (kD.some_of (v:=v) (o:=(atKey xs k).map (·.2)) (by rw[l];exact dX.val k)) λw' hw xv=>aa (acu.mp hw) λp hp xO=>nO<|wpAny_getItem_heap (tupleKind_room_in1 hu) (ir I.aI eb) dd hp ?_
  rw[xO]
  exact h w' _ (I.tok _) xv
def RY(hu:A.units+1<cLine)(I:Inv X U σ H s)(g:l9 H a y o)(ry:RelV y u)(h:∀s',Inv X U σ H s'->Q (.bool o.isSome) s'):
  wpAny (model X.prog X.w) A (compareOp .In u (.ref a)) Q E s:=by
 rcases g with⟨az,k,e,ey,l⟩|⟨az,k,b,e,ey,eb,l⟩
 .refine au λnO=>?_
  subst ey
  obtain⟨z,hd,vs,dX,dd⟩:=g_ I.aI e
  refine nO<|wpAny_in_of (l7 ry) hd dd.mapOf ?_
  rw[<-(dX.val k).eK,<-l]
  exact h _ (I.tok _)
 .subst ey
  cases (show u=Value.ref b from ry)
  refine au λnO=>?_
  obtain⟨z,hd,xs,dX,dd⟩:=kq I.aI e
  refine nO<|wpAny_in_heap (tupleKind_room_in1 hu) (ir I.aI eb) hd dd ?_
  have q:=(dX.val k).eK
  rw[adl]at q
  rw[<-q,<-l]
  exact h _ (I.tok _)
def Dz(hu:A.units+1<cLine)(I:Inv X U σ H s)(g:l9 H a y o)(ry:RelV y u)(h:∀s',Inv X U σ H s'->Q (.bool (!o.isSome)) s'):
  wpAny (model X.prog X.w) A (compareOp .NotIn u (.ref a)) Q E s:=by
 rcases g with⟨az,k,e,ey,l⟩|⟨az,k,b,e,ey,eb,l⟩
 .refine au λnO=>?_
  subst ey
  obtain⟨z,hd,vs,dX,dd⟩:=g_ I.aI e
  refine nO<|wpAny_notIn_of (l7 ry) hd dd.mapOf ?_
  rw[<-(dX.val k).eK,<-l]
  exact h _ (I.tok _)
 .subst ey
  cases (show u=Value.ref b from ry)
  refine au λnO=>?_
  obtain⟨z,hd,xs,dX,dd⟩:=kq I.aI e
  refine nO<|wpAny_notIn_heap (tupleKind_room_in1 hu) (ir I.aI eb) hd dd ?_
  have q:=(dX.val k).eK
  rw[adl]at q
  rw[<-q,<-l]
  exact h _ (I.tok _)
def k9(I:Inv X U σ H s)(mu:yY (H a))(hs:Heap.SameBut a s.heap h')(he:∃q,h'.get? a=some q)(new:aT X.prog X.w (upd H a ob) h' a ob):
  Inv X U σ (upd H a ob) {s with heap:=h',toks:=t'}:=
 I.write (x:=a) (e:=a) mu (.inl rfl) (λb q hb z=>(hs.2 b hb).trans z) he new
def zX(z:az.length<=sizeLine)(hd:(a==sysModules)=false)(dX:KV az vs)(dd:h'.DictOf (aS P w) a vs):
  aT P w H' h' a (.dK az):=⟨z,hd,vs,dX,dd⟩
def xP(hu:A.units+1<cLine)(I:Inv X U σ H s)(g:IH H a y v H')(ry:RelV y u)(rv:RelV v r)(h:∀s',Inv X U σ H' s'->Q () s'):
  wpAny (model X.prog X.w) A (setItem (.ref a) u r) Q E s:=by
 rcases g with⟨az,k,e,ey,l,eH⟩|⟨az,k,b,e,ey,eb,l,eH⟩
 .refine au λnO=>?_
  subst ey eH
  obtain⟨z,hd,vs,dX,dd⟩:=Gp I.aI e
  refine nO ?_
  have hz:vs.length<=sizeLine:=by rw[<-dX.length];exact z
  have hl:(f_ az k v).length <=sizeLine:=by have:=km az k v;exact Zw this l
  refine wpAny_setItem_pairs (hsz:=hz) (l7 ry) dd λh' DA hs=>h _ ?_
  have he:∃q,h'.get? a=some q:=let ⟨q,_,_,hq,_⟩:=DA;⟨q,hq⟩
  exact k9 I (by rw[e];exact True.intro) hs he (zX hl hd (dX.put k rv) DA)
 .subst ey eH
  cases (show u=Value.ref b from ry)
  refine au λnO=>?_
  obtain⟨z,hd,xs,dX,dd⟩:=Gq I.aI e
  refine nO ?_
  have hz:xs.length<=sizeLine:=by rw[<-acV dX];exact z
  have hl:(f_ az k v).length <=sizeLine:=by have:=km az k v;exact Zw this l
  refine wpAny_setItem_heap (hsz:=hz) (tupleKind_room_in1 hu) (ir I.aI eb) dd λh' DA hs=>h _<|au λnO=>KY DA λq es ep hq h2 h3 h4 _ h5=>nO ?_
  refine k9 I (by rw[e];exact True.intro) hs ⟨q,hq⟩ ⟨hl,hd,_,(dX.put k eb rv).keeps λc ys ec=>?_,q,es,ep,hq,h2,h3,h4,h5⟩
  rw[aq (fK ec e (λz=>nomatch z))]
  exact ec
end
def DB(i:Expr):Prop:=∀ov iv,subscripted i false ov iv=operate [ov,iv] (getItem ov iv)
def DC{T id:String}
  (hl:typeLookup (.type T) "__getitem__"=pure (some (.builtin id))) (hs:DB slice)
  (h:wpAny (model prog w) A (eval value env) (λo aX=>wpAny (model prog w) A (eval slice env) (λi lK=>lK.TypeIs o T/\wpAny (model prog w) A (getItem o i) Q E lK) E aX) E s):
  wpAny (model prog w) A (eval (.Subscript value slice pos) env) Q E s:=by
 refine Subscript_ (aaJ h (λo aX Dg=>aaJ Dg (λi lK zJ=>?_) λ_ _ x=>x) λ_ _ x=>x)
 obtain⟨hT,zJ⟩:=zJ
 unfold subscriptTail
 refine Zq ?_
 rw[getitemInPython_of_ne hT.not_modules]
 refine Zq (aeP hT hl ?_)
 have fin:wpAny (model prog w) A (subscripted slice false o i) (λr xC=>wpAny (model prog w) A (letTemporaryGo value o r >>= λ_=>pure r) Q E xC) E lK:=by
  rw[hs o i]
  exact wpAny_operating (aaJ zJ (λr xC Di=>Zq (wpAny_letTemporaryGo (ZC Di))) λ_ _ x=>x)
 first
  |exact ZC (Zq fin)
  |exact Zq (ZC (Zq fin))
  |exact Zq fin
def rK(I:Inv X U σ H s)(g:l9 H a y o):s.TypeIs (.ref a) "dict":=by
 rcases g with⟨az,k,e,_,_⟩|⟨az,k,b,e,_,_,_⟩
 .obtain⟨_,_,vs,_,dd⟩:=g_ I.aI e
  exact dd.typeIs
 .obtain⟨_,_,xs,_,dd⟩:=kq I.aI e
  exact dd.typeIs
def MS(td ty:TE):TE:=λσ H Q=>td σ H λx H1=>ty σ H1 λy H2=>∃a v,x= .ref a/\l9 H2 a y (some v)/\Q v H2
def RZ(ty td:TE):TE:=λσ H Q=>ty σ H λy H1=>td σ H1 λx H2=>∃a o,x= .ref a/\l9 H2 a y o/\Q (.bl o.isSome) H2
def DD(ty td:TE):TE:=λσ H Q=>ty σ H λy H1=>td σ H1 λx H2=>∃a o,x= .ref a/\l9 H2 a y o/\Q (.bl (!o.isSome)) H2
def vp(td ty tv:TE):TS:=λD σ H=>tv σ H λv H1=>td σ H1 λx H2=>ty σ H2 λy H3=>∃a H4,x= .ref a/\IH H3 a y v H4/\D.nx σ H4
section
variable {X:Cx}{o i e value:Expr}{pos pos' tpos:Pos}{td ty tv:TE}
def DE(hu:X.A.units+1<cLine)(ho:PE X o td)(hi:PE X i ty)(hs:DB i):PE X (.Subscript o i pos) (MS td ty):=by
 intro U s σ H Q I h
 refine DC PySem.F.slot_dict_getitem.lookup hs (aU (ho U s σ H _ I h) λu s1 zz=>bu zz λx H1 I1 rx q1=>aU (hi U s1 σ H1 _ I1 q1) λiv s2 zz=>?_)
 refine au λnO=>?_
 obtain⟨y,H2,I2,ry,a,v,ex,g,q2⟩:=zz
 subst ex
 refine nO ?_
 obtain rfl:u=Value.ref a:=rx
 exact⟨rK I2 g,xN hu I2 g ry λw' s3 I3 xv=>⟨v,H2,I3,xv,q2⟩⟩
def II(hu:X.A.units+1<cLine)(hi:PE X i ty)(ho:PE X o td):PC X .In i o (RZ ty td):=by
 intro U s σ H Q I h
 refine aU (hi U s σ H _ I h) λiv s1 zz=>bu zz λy H1 I1 ry q1=>aU (ho U s1 σ H1 _ I1 q1) λu s2 zz=>au λnO=>?_
 obtain⟨x,H2,I2,rx,a,ov,ex,g,q2⟩:=zz
 subst ex
 refine nO ?_
 obtain rfl:u=Value.ref a:=rx
 exact RY hu I2 g ry λs3 I3=>⟨.bl ov.isSome,H2,I3,rfl,q2⟩
def xQ(hu:X.A.units+1<cLine)(hi:PE X i ty)(ho:PE X o td):PC X .NotIn i o (DD ty td):=by
 intro U s σ H Q I h
 refine aU (hi U s σ H _ I h) λiv s1 zz=>bu zz λy H1 I1 ry q1=>aU (ho U s1 σ H1 _ I1 q1) λu s2 zz=>au λnO=>?_
 obtain⟨x,H2,I2,rx,a,ov,ex,g,q2⟩:=zz
 subst ex
 refine nO ?_
 obtain rfl:u=Value.ref a:=rx
 exact Dz hu I2 g ry λs3 I3=>⟨.bl (!ov.isSome),H2,I3,rfl,q2⟩
def vq(hu:X.A.units+1<cLine)(ho:PE X o td)(hi:PE X i ty)(hv:PE X value tv)(hs:swapsWith value (some (.Subscript o i pos')) pos.line X.env=pure false):
  PS X (.Assign [.Subscript o i pos'] value pos) (vp td ty tv):=by
 intro U s σ H D I h
 refine wpAny_Assign_Subscript (aU (hv U s σ H _ I h) λr s1 ⟨v,H1,I1,rv,q1⟩=>aU (ho U s1 σ H1 _ I1 q1) λu s2 ⟨x,H2,I2,rx,q2⟩=>aU (hi U s2 σ H2 _ I2 q2) λiv s3 ⟨y,H3,I3,ry,a,H4,ex,g,q3⟩=>?_) hs
 subst ex
 obtain rfl:u=Value.ref a:=rx
 exact xP hu I3 g ry rv λs4 I4=>⟨σ,H4,I4,q3⟩
end
def zY(h:Heap)(hb:sysModules<h.objs.size):aT P w H (h.push {cls:= .type "dict",data:= .dict #[]}) h.objs.size (.dK []):=
 ⟨aab _,beq_eq_false_iff_ne.mpr (aaH (Z5 hb)),[],.nil,Heap.DictOf.new h⟩
def rL(h:Heap)(hb:sysModules<h.objs.size):aT P w H (h.push {cls:= .type "dict",data:= .dict #[]}) h.objs.size (.dT []):=
 ⟨aab _,beq_eq_false_iff_ne.mpr (aaH (Z5 hb)),[],.nil,_,#[],0,ZN _ rfl,⟨rfl,rfl,rfl⟩,rfl,rfl,afl⟩
def IJ:TE:=λ_ H Q=>∀p,H p=none->Q (.ref p) (upd H p (.dT []))
section
variable {X:Cx}{pos:Pos}
def zZ:PE X (.Dict [] [] pos) IJ:=λU s σ H Q I h=>
 wpAny_Dict_empty ⟨.ref s.heap.objs.size,_,I.laid (a:=s.heap.objs.size) (o:= .dT []) (t':=s.toks) (λ_ _ q=>Zv _ q) (ZG _) (rL s.heap I.big),rfl,h _ (I.aI.fresh (ZG _))⟩
end
def R1(H:Hp)(a:Addr):Prop:=(∃az,Rd H a (.dK az))\/∃az,Rd H a (.dT az)
def z8(I:Inv X U σ H s)(d:R1 H a):
  s.TypeIs (.ref a) "dict"/\(∀b,Value.ref a= .ref b->∃ob,s.heap.get? b=some ob/\ob.dict=none)/\(a==sysModules)=false:=by
 rcases d with⟨az,e⟩|⟨az,e⟩
 .refine au λnO=>?_
  obtain⟨_,hd,vs,_,dd⟩:=g_ I.aI e
  refine nO ?_
  refine⟨dd.typeIs,λb q=>?_,hd⟩
  refine au λnO=>?_
  cases q
  exact b6 dd λob _ _ h1 h2 _=>nO<|⟨ob,h1,h2.2.1⟩
 .refine au λnO=>?_
  obtain⟨_,hd,xs,_,dd⟩:=kq I.aI e
  refine nO ?_
  refine⟨dd.typeIs,λb q=>?_,hd⟩
  refine au λnO=>?_
  cases q
  exact b6 dd λob _ _ h1 h2 _=>nO<|⟨ob,h1,h2.2.1⟩
section
variable {X:Cx}{U:List (Addr×Obj)}{σ:St}{H:Hp}{s:Shared}{a:Addr}{y d:V}{u r:Value}{o:Option V}{A:Around}{E:Value->Shared->Prop}
end
section
variable {X:Cx}{o e f:Expr}{iI cj:Pos}{td ty tx:TE}
end
structure M2(X:Cx)(o:Expr)(m:Str)(iI:Pos)(e f:Expr)(cj:Pos):Prop where
 base:attributeBase o m X.env (eval o X.env)=eval o X.env
 Xd:((backTo cj (starEach [e,f] X.env)).all (λx=>!x.1)&&(backToKw cj (keywordEach [] X.env)).all (λx=>x.1.isSome)
  && decide (([e,f]:List Expr).length+([]:List Keyword).length+(if([]:List Keyword).isEmpty then 0 else 1)<30))=true
 line:(iI.endLine==cj.line)=true
 trees:backTo cj (starEach [e,f] X.env)=[(false,eval e X.env),(false,eval f X.env)]
section
variable {X:Cx}{U:List (Addr×Obj)}{σ:St}{H:Hp}{s:Shared}{a:Addr}{y d:V}{u r:Value}{o:Option V}{A:Around}{E:Value->Shared->Prop}
def IK(hu:A.units+1<cLine)(I:Inv X U σ H s)(g:l9 H a y o)(ry:RelV y u)(rd:RelV d r)(h:∀w' s',Inv X U σ H s'->RelV (o.getD d) w'->Q w' s'):
  wpAny (model X.prog X.w) A (call (.builtin "dict.get") [.ref a,u,r]) Q E s:=by
 rcases g with⟨az,k,e,ey,l⟩|⟨az,k,b,e,ey,eb,l⟩
 .subst ey
  obtain⟨z,hd,vs,dX,dd⟩:=g_ I.aI e
  refine call_meetsIn adq dd.typeIs aeF (aer _ _ _) (meets_dict_get_default (aS X.prog X.w) a (l7 ry) hd r) ⟨_,dd.mapOf,h _ _ (I.tok _) ?_⟩
  rw[l]
  exact(dX.val k).getD rd
 .subst ey
  cases (show u=Value.ref b from ry)
  obtain⟨z,hd,xs,dX,dd⟩:=kq I.aI e
  refine call_meetsIn adq dd.typeIs aeF (aer _ _ _) (meetsH_dict_get_default (tupleKind (aS X.prog X.w)) a b hd r) ⟨tupleKind_room_in1 hu,k,xs,ir I.aI eb,dd,h _ _ (I.tok _) ?_⟩
  rw[l]
  exact(dX.val k).getD rd
end
noncomputable def IL(td ty tx:TE):TE:=λσ H Q=>td σ H λx H1=>∃a,x= .ref a/\R1 H1 a/\ty σ H1 λy H2=>tx σ H2 λz H3=>∃o,l9 H3 a y o/\Q (o.getD z) H3
section
variable {X:Cx}{o e f:Expr}{iI cj:Pos}{td ty tx:TE}
def z9(hu:X.A.units+1<cLine)(ho:PE X o td)(he:PE X e ty)(hf:PE X f tx)(m:M2 X o "get" iI e f cj):PE X (.Call (.Attribute o "get" iI) [e,f] [] cj) (IL td ty tx):=by
 intro U s σ H Q I h
 refine wpAny_Call_method m.base m.Xd m.line aes adq PySem.F.type_dict_get (aU (ho U s σ H _ I h) λu s1 ⟨x,H1,I1,rx,a,ex,d,q1⟩=>?_)
 subst ex
 obtain rfl:u=Value.ref a:=rx
 obtain⟨t1,t2,_⟩:=z8 I1 d
 refine⟨t1,t2,?_⟩
 rw[m.trees]
 refine abJ rfl (acH (adN (aU (he U s1 σ H1 _ I1 q1) λiv s2 ⟨y,H2,I2,ry,q2⟩=>
  adN (aU (hf U s2 σ H2 _ I2 q2) λfv s3 ⟨z,H3,I3,rz,ov,g,q3⟩=>Calls.spliced_nil ?_))))
 exact IK hu I3 g ry rz λw' s4 I4 xv=>⟨_,H3,I4,xv,q3⟩
end
end L2
namespace dw
open PySem PyProof.Rows
abbrev SM:=StateT SortSt Sem
noncomputable def bY:Bool->Keyed->Array Keyed->Nat->Nat->Nat->SM (Option Nat):=sortPriv% PySem.Builtin.gallop
noncomputable def l_:Array Keyed->Array Keyed->SM (Array Keyed):=sortPriv% PySem.Builtin.mergeLo
noncomputable def ma:Array Keyed->Array Keyed->SM (Array Keyed):=sortPriv% PySem.Builtin.mergeHi
noncomputable abbrev setG(zt:SortSt)(g:Nat):SortSt:=SortSt.mk' (kindOf zt) (arrOf zt) (pendingOf zt) g (failedOf zt)
noncomputable def bf(g:Nat):SM Unit:=modify λs=>setG s g
noncomputable def ef(left:Bool)(key:Keyed)(arr:Array Keyed)(base i:Nat):SM (Option Bool):=do {let x<-elem' arr (base+i);if left then lt' x key else return (<-lt' key x).map (!·)}
section
variable {prog:Program}{w:World}{A:Around}{E:Value->Shared->Prop}{s:Shared}{κ:SortKind}{P:Keyed->Prop}
def br(hi:i<arr.size)(q:Q arr[i] zt):wpS (model prog w) A E s (elem' arr i) Q zt:=by
 rw[elem'_eq,aak hi]
 exact wpS_pure q
structure Sm(zt ak:SortSt):Prop where
 k:kindOf ak=kindOf zt
 a:arrOf ak=arrOf zt
 p:pendingOf ak=pendingOf zt
 f:failedOf ak=failedOf zt
def Sm.rfl':Sm zt zt:=⟨rfl,rfl,rfl,rfl⟩
theorem Sm.setG(h:Sm zt ak):Sm zt (setG ak g):=⟨h.k,h.a,h.p,h.f⟩
def Pt(a b out:Array Keyed)(i j:Nat):Prop:=out.toList.Perm (a.toList.take i++b.toList.take j)
def dA(X Y Z:List α):((X++Y)++Z).Perm ((X++Z)++Y):=by
 rw[aai,aai]
 exact acy X aeV
section
variable {a b out:Array Keyed}{i j k:Nat}
def eL(a:Array Keyed):a.toList.take i++(a.extract i (i+k)).toList =a.toList.take (i+k):=by
 rw[abD]
 unfold List.extract
 rw[show i+k-i=k by exact aau _ _,List.take_add]
def Pt.p9(h:Pt a b out i j):Pt a b (out++b.extract j (j+k)) i (j+k):=by
 unfold Pt at h⊢
 rw[ZS,<-eL b,<-aai]
 exact h.append_right _
def Pt.p_(h:Pt a b out i j):Pt a b (out++a.extract i (i+k)) (i+k) j:=by
 unfold Pt at h⊢
 rw[ZS,<-eL a]
 exact(h.append_right _).trans (dA _ _ _)
def gD(hi:i<a.size):(a.extract i (i+1)).toList =[a[i]]:=by
 rw[abD]
 unfold List.extract
 have iT:i<a.toList.length:=by simpa using hi
 rw[show i+1-i=1 by exact aau _ _,aaG iT]
 simp
def vt(a:Array Keyed)(hi:i<=a.size):a.toList.take i++(a.extract i a.size).toList =a.toList:=by
 have:=eL a (i:=i) (k:=a.size-i)
 rw[show i+(a.size-i)=a.size by exact Z9 hi]at this
 rw[this]
 exact aay (by simp)
def Pt.done(h:Pt a b out i j)(hi:i<=a.size)(hj:j<=b.size):((out++a.extract i a.size)++b.extract j b.size).toList.Perm (a.toList++b.toList):=by
 unfold Pt at h
 rw[ZS,ZS]
 refine((h.append_right _).append_right _).trans<|((dA _ _ _).append_right _).trans ?_
 rw[vt a hi,aai,vt b hj]
def Pt.last(h:Pt a b out i j)(hi:i<=a.size)(hj:j<=b.size):((out++b.extract j b.size)++a.extract i a.size).toList.Perm (a.toList++b.toList):=by
 refine List.Perm.trans ?_ (h.done hi hj)
 simp only[ZS]
 exact dA _ _ _
end
def fQ[Decidable c](t:c->wpS (model prog w) A E s x Q zt)(f:¬c->wpS (model prog w) A E s y Q zt):wpS (model prog w) A E s (if c then x else y) Q zt:=by
 split
 .exact t ‹_›
 .exact f ‹_›
def Ph(a b out:Array Keyed)(i j:Nat):Prop:=((a.toList.take i++b.toList.take j)++out.toList).Perm (a.toList++b.toList)
section
variable {a b out:Array Keyed}{i j k:Nat}
def rM(a:Array Keyed)(h:k<=i):a.toList.take k++(a.extract k i).toList =a.toList.take i:=by
 have:=eL a (i:=k) (k:=i-k)
 rwa [show k+(i-k)=i by exact Z9 h]at this
def dJ(a:Array Keyed):(a.extract 0 i).toList =a.toList.take i:=by
 rw[abD]
 unfold List.extract
 simp
def Ph.p_(h:Ph a b out i j)(hk:k<=i)(_:i<=a.size):Ph a b (out++(a.extract k i).reverse) k j:=by
 unfold Ph at h⊢
 refine List.Perm.trans ?_ h
 rw[ZS,aaU,<-rM a hk,<-aai]
 exact(acy _ (aeh _)).trans<|(dA _ _ _).trans<|(dA _ _ _).append_right _
def Ph.p9(h:Ph a b out i j)(hk:k<=j)(_:j<=b.size):Ph a b (out++(b.extract k j).reverse) i k:=by
 unfold Ph at h⊢
 refine List.Perm.trans ?_ h
 rw[ZS,aaU,<-rM b hk,<-aai,<-aai]
 exact(acy _ (aeh _)).trans<|dA _ _ _
def i7(h1:1<=i)(hi:i-1<a.size):(a.extract (i-1) i).toList =[a[i-1]]:=by
 have:=gD (a:=a) (i:=i-1) hi
 rwa [show i-1+1=i by exact aaL h1]at this
def Ph.done(h:Ph a b out i j):((a.extract 0 i++b.extract 0 j)++out.reverse).toList.Perm (a.toList++b.toList):=by
 unfold Ph at h
 refine List.Perm.trans ?_ h
 rw[ZS,ZS,dJ,dJ,aaU]
 exact acy _ (aeh _)
def Ph.first(h:Ph a b out i j):((b.extract 0 j++a.extract 0 i)++out.reverse).toList.Perm (a.toList++b.toList):=by
 refine List.Perm.trans ?_ h.done
 simp only[ZS]
 exact aeV.append_right _
end
end
section
variable {prog:Program}{w:World}{A:Around}{E:Value->Shared->Prop}{s:Shared}{κ:SortKind}{P:Keyed->Prop}
structure Ar(zt ak:SortSt):Prop where
 k:kindOf ak=kindOf zt
 a:(arrOf ak).Perm (arrOf zt)
 p:pendingOf ak=pendingOf zt
 f:failedOf ak=failedOf zt
def Ar.rfl':Ar zt zt:=⟨rfl,adI _,rfl,rfl⟩
def Ar.set(h:Ar zt ak)(hx:x.Perm (arrOf ak)):Ar zt (setArr ak x):=⟨h.k,hx.trans h.a,h.p,h.f⟩
theorem Ar.size(h:Ar zt ak):(arrOf ak).size =(arrOf zt).size :=h.a.size_eq
def Ar.all(h:Ar zt ak)(hp:∀x∈arrOf zt,P x):∀x∈arrOf ak,P x:=λx hx=>hp x (h.a.mem_iff.mp hx)
def vw(q:Q () (setArr zt (mirror (arrOf zt) i j ((j-i)/2)))):wpS (model prog w) A E s (reverseSlice' i j) Q zt:=by
 rw[reverseSlice'_eq]
 exact wpS_modify q
def rN(i:Nat):mergeAt' i=(do
  let s<-get
  let (some (sa,na,power),some (sb,nb,_)):=((pendingOf s)[i]?,(pendingOf s)[i+1]?)|unsupported "internal:list.sort.pending"
  set (setPending s (((pendingOf s).setIfInBounds i (sa,na+nb,power)).eraseIdxIfInBounds (i+1)))
  let some k<-bY false (<-elem' (arrOf s) sb) (arrOf s) sa na 0|return false
  let (sa,na):=(sa+k,na-k)
  if na==0 then return true
  let some nb<-bY true (<-elem' (arrOf s) (sa+na-1)) (arrOf s) sb nb (nb-1)|return false
  if nb==0 then return true
  let x:=(arrOf s).extract sa sb
  let y:=(arrOf s).extract sb (sb+nb)
  let merged<-if na<=nb then l_ x y else ma x y
  modify λs=>setArr s (merged.toList.zipIdx.foldl (λa (p,j)=>a.setIfInBounds (sa+j) p) (arrOf s))
  return (failedOf (<-get)).isNone):=rfl
def DF{σ:Type}{M:Model}{zt ak:σ}{Q:PUnit->σ->Prop}(h:Q ⟨⟩ ak):wpS M A E s (set ak:StateT σ Sem PUnit) Q zt:=by
 unfold wpS
 rw[StateT.run_set]
 exact ZC ⟨rfl,h⟩
theorem qa:∀(ms:List Keyed) (o j:Nat) (a:Array Keyed),o+j+ms.length<=a.size->
  ((ms.zipIdx j).foldl (λa (p:Keyed×Nat)=>a.setIfInBounds (o+p.2) p.1) a).toList =a.toList.take (o+j)++ms++a.toList.drop (o+j+ms.length)
 |[],o,j,a,h=>by simp
 |m::ms,o,j,a,h=>by
  rw[Z3]at h
  rw[List.zipIdx_cons,List.foldl_cons,qa ms o (j+1) _ (by rw[Array.size_setIfInBounds];lia)]
  have e:(a.setIfInBounds (o+j) m).toList =a.toList.set (o+j) m:=acG ..
  have hl:o+j<a.toList.length:=by rw[Z_];exact ZH (ZU _ _) h
  rw[e,List.set_eq_take_append_cons_drop,ZM hl,Z3]
  have ht:(List.take (o+j) a.toList).length =o+j:=by rw[abt];exact aaQ (Zx hl)
  have e5:(a.toList.take (o+j)++m::a.toList.drop (o+j+1)).take (o+(j+1))=a.toList.take (o+j)++[m]:=by
   rw[List.take_append,ht,show o+(j+1)-(o+j)=1 by exact afe (aaa (acP _ _)),aay (by rw[ht];exact Nat.le_succ _)]
   rfl
  have e6:(a.toList.take (o+j)++m::a.toList.drop (o+j+1)).drop (o+(j+1)+ms.length)=a.toList.drop (o+j+(ms.length+1)):=by
   rw[List.drop_append,ht,show o+(j+1)+ms.length-(o+j)=ms.length+1 by exact QQ,List.drop_of_length_le (by rw[ht];exact Zx (ZU _ _)),adJ,List.drop_succ_cons,adT]
   congr 1
   exact Z8 _ _ _
  rw[e5,e6]
  simp
def vx{a:Array Keyed}(h:x∈a.extract i j):x∈a:=by
 rw[<-abE,abD]at h
 unfold List.extract at h
 exact abE.mp (acI (abU h))
def MT[Decidable c](h1:x+1<n)(h2:y+1<n):(if c then x else y)+1<n:=by split<;>assumption
end
open PySem.W
def kQ(h:Heap)(v:Value):Prop:=∃(x:Addr) (o:Obj) (xs:List Value) (n:Nat) (i:Int) (r:List Int),v= .ref x/\h.get? x=some o/\o.cls= .type "tuple"/\o.data= .seq xs.toArray n/\IntsAre xs (i::r)
section
variable {prog:Program}{w:World}{A:Around}{E:Value->Shared->Prop}{s:Shared}
theorem kr:∀{vs:List Value},(∀v∈vs,kQ h v)->∃fs,KatTups h vs fs/\(∀f∈fs,∃i t,f=Value.int i t)/\fs.length=vs.length
 |[],_=>⟨[],.nil,λ_ z=>(nomatch z),rfl⟩
 |v::vs,hv=>by
  refine bB (kr (vs:=vs) λz hz=>hv z (Zy _ hz)) λfs h1 h2 h3=>Ly (hv v ZD) λx o xs n i r ah g1 g2 g3 g4=>?_
  subst ah
  cases g4 with
  |cons _ t g5=>exact⟨_,.cons g1 g2 g3 rfl h1,λf hf=>(ZK.mp hf).elim (λz=>⟨i,t,z⟩) (h2 f),by rw[Z3,Z3,h3]⟩
def rO(vs:List Value):(vs.toArray.zip vs.toArray).map (λp:Keyed=>p.2)=vs.toArray:=by
 apply Array.toList_inj.mp
 rw[adA,Array.toList_zip]
 exact aev (ZG _)
end
end dw
namespace L2
open PySem PySem.Spec PyProof.Rows
def fR(h:Heap)(d:Addr)(es:Array DictEntry)(ep:Nat):Prop:=∃o,h.get? d=some o/\o.ExactDict/\o.data= .dict es ep
def fR.ty{s:Shared}(r:fR s.heap d es ep):s.TypeIs (.ref d) "dict":=let ⟨o,e,c,_⟩:=r;⟨o,e,c.1⟩
def fR.on(r:fR h d es ep)(k:∀o,h.get? d=some o->h'.get? d=some o):fR h' d es ep:=let ⟨o,e,c⟩:=r;⟨o,k o e,c⟩
def fR.lt(r:fR h d es ep):d<h.objs.size:=let ⟨_,e,_⟩:=r;ZO e
section
variable {prog:Program}{w:World}{A:Around}{E:Value->Shared->Prop}{s:Shared}{d:Addr}{es:Array DictEntry}{ep:Nat}
end
open PySem.W
section
variable {prog:Program}{w:World}{A:Around}{E:Value->Shared->Prop}{s:Shared}{d it:Addr}{es:Array DictEntry}{ep i:Nat}
def rP(hm:(d==sysModules)=false)(r:fR s.heap d es ep)(h:Q (.ref s.heap.objs.size) {s with heap:=s.heap.push {cls:= .type "dict_keyiterator",data:= .fields #[.ref d,.int 0 0,.int es.size 0,.int ep 0]}}):
  wpAny (model prog w) A (pyIter (.ref d)) Q E s:=by
 have T:=r.ty
 refine bB r λo e c dt=>wpAny_pyIter_slot T F.slot_dict_iter (aaA F.slot_dict_iter T F.entry_dict_iter ?_ (F.args_dict_iter_1 _))
 unfold Builtin.«dict.__iter__» Builtin.Dict.dictSlotNone
 refine Zq (Zq (wpAny_notOrdered_dict T ?_))
 show wpAny _ _ (pure (Value.ref d)) _ _ s
 refine ZC ?_
 show wpAny _ _ (Builtin.Dict.showsAll d >>= λ_=>_) _ _ s
 unfold Builtin.Dict.showsAll
 rw[ZW (by rw[hm];exact Zz)]
 refine Zq (ZC (Zq (aei e dt (Zq (aeW e dt ?_)))))
 refine Zq (Z' (ZC ⟨_,rfl,"dict_keyiterator",_,⟨_,ZN _ rfl,rfl⟩,abn.lookup,?_⟩))
 simpa[rawInt]using h
def rQ(k:s.heap.IsKeyIter it d i es.size ep)(r:fR s.heap d es ep)(hi:i<es.size)
  (h:∀h',h'.IsKeyIter it d (i+1) es.size ep->Heap.SameBut it s.heap h'->Q (some es[i].key) {s with heap:=h'}):wpAny (model prog w) A (pyNext (.ref it)) Q E s:=by
 have T:=k.typeIs
 refine bB (id k) λoi ei ci di=>bB r λo e c dt=>?_
 unfold pyNext
 refine Zq (aci (aav (name:=Str.ofString "__next__") T abn (aaA abn T adB ?_ (ads _))))
 refine Zq (ZC (Zq (Zq ?_)))
 first|refine Zq (abC T (ZC (Zq (adU ei di ?_))))|refine Zq (acb T (ZC (Zq (adU ei di ?_))))
 have own:Builtin.Dict_items.ownsTuple "dict_keyiterator"=false:=by decide
 simp only[own,abp,if_false]
 show wpAny _ _ (if(Value.ref d==Value.none)=true then _ else _) _ _ s
 rw[ZW (show¬((Value.ref d==Value.none)=true) from Zz)]
 refine Zq (ZC (Zq (aei e dt ?_)))
 rw[ZW (by simp)]
 refine Zq (ZC (Zq (aeW e dt ?_)))
 rw[ZW (by simp)]
 refine ZC ?_
 simp only[show¬((i:Int)<0) from(abh (ZX _)),if_false,aaT,aak hi]
 refine Zq ?_
 first|refine Zq (abC T (ZC (Zq (adt T ?_))))|refine Zq (acb T (ZC (Zq (adt T ?_))))
 show wpAny _ _ (setField (.ref it) 1 (rawInt ((i:Int)+1)) >>= λ_=>_) _ _ s
 refine Zq (aba ei di (by simp) ?_)
 have k':(s.heap.update it (Obj.mapFields (·.setIfInBounds 1 (rawInt ((i:Int)+1))))).IsKeyIter it d (i+1) es.size ep:=
  ⟨_,aaY _ ei (abB (aaW di _)),(aee ..).trans ci,by rw[aaW di];simp[rawInt]⟩
 refine Zq (aaO (Zq (adt (s:={s with heap:=s.heap.update it (Obj.mapFields (·.setIfInBounds 1 (rawInt ((i:Int)+1))))}) k'.typeIs ?_)))
 show wpAny _ _ (pure es[i].key) _ _ _
 exact ZC (ZC ⟨_,rfl,ZC (h _ k' (abi ..))⟩)
def vy(hh:A.handled=none)(k:s.heap.IsKeyIter it d es.size es.size ep)(r:fR s.heap d es ep)(h:∀h',Heap.ExtBut it s.heap h'->Q none {s with heap:=h'}):wpAny (model prog w) A (pyNext (.ref it)) Q E s:=by
 have T:=k.typeIs
 refine bB (id k) λoi ei ci di=>bB r λo e c dt=>?_
 unfold pyNext
 refine Zq (aci (aav (name:=Str.ofString "__next__") T abn (aaA abn T adB ?_ (ads _))))
 refine Zq (ZC (Zq (Zq ?_)))
 first|refine Zq (abC T (ZC (Zq (adU ei di ?_))))|refine Zq (acb T (ZC (Zq (adU ei di ?_))))
 have own:Builtin.Dict_items.ownsTuple "dict_keyiterator"=false:=by decide
 simp only[own,abp,if_false]
 show wpAny _ _ (if(Value.ref d==Value.none)=true then _ else _) _ _ s
 rw[ZW (show¬((Value.ref d==Value.none)=true) from Zz)]
 refine Zq (ZC (Zq (aei e dt ?_)))
 rw[ZW (by simp)]
 refine Zq (ZC (Zq (aeW e dt ?_)))
 rw[ZW (by simp)]
 refine ZC ?_
 simp only[show¬((es.size:Int)<0) from(abh (ZX _)),if_false,aaT,Array.getElem?_eq_none (ZG es.size)]
 refine Zq ?_
 first|refine Zq (abC T (ZC ?c))|refine Zq (acb T (ZC ?c))
 case c=>
  show wpAny _ _ (setField (.ref it) 0 .none >>= λ_=>_) _ _ s
  refine Zq (aba ei di (by simp) ?_)
  show wpAny _ _ (newExc (.type "StopIteration") [] >>= λ_=>_) _ _ _
  refine Zq ?_
  simp only[newExc,newTuple]
  refine Zq (Z' (Zq (m:=firstArgMember _ _) (afo (a:=Value.none) (by first|rfl|(simp only[firstArgMember];rfl)) (Z' ?_ (by size_fits)))) (by size_fits))
  simp only[raiseNew]
  refine Zq (aeq ?_)
  rw[show A.in1.handled=none from hh]
  refine(Zq (ZC (afp ?_)))
  refine(Zq (aew (T:="StopIteration") (b:=true) ⟨_,ZN _ rfl,rfl⟩ isSubtype_stop ?_))
  exact ZC (h _ (((abi ..).extBut.push _).push _))
def rR(k:s.heap.IsKeyIter it d i n ep)(h:Q (.ref it) s):wpAny (model prog w) A (pyIter (.ref it)) Q E s:=wpAny_pyIter_keyiter k h
def xR(hh:A.handled=none)(it d:Addr)(fy:d≠it)(es:Array DictEntry)(ep:Nat):Walks prog w A it [it,d] [it] es.size (λi v=>∃e,es[i]?=some e/\v=e.key) (λi h=>h.IsKeyIter it d i es.size ep/\fR h d es ep) where
 sub:=λb hb=>by simp at hb;simp[hb]
 frame:=λ_ _ _ st hk=>⟨st.1.at λo e=>hk it (by simp) o e,st.2.on λo e=>hk d (by simp) o e⟩
 item:=λi s Q E hi st hQ=>rQ st.1 st.2 hi λh' k' hs=>hQ _ h' s.toks ⟨_,aak hi,rfl⟩ ⟨k',st.2.on λo e=>hs.extBut d o fy e⟩ λb o hb e=>hs.extBut b o (λz=>hb (by simp[z])) e
 done:=λs Q E st hQ=>vy hh st.1 st.2 λh' he=>hQ h' s.toks λb o hb e=>he b o (λz=>hb (by simp[z])) e
 self:=λ_ _ _ _ st hQ=>rR st.1 hQ
def vA(lo:(d==sysModules)=false):KdlSrc prog w "dict" d d es.size (λi v=>∃e,es[i]?=some e/\v=e.key) (λh=>fR h d es ep) where
 type:=λ_ r=>r.ty
 there:=λ_ r=>⟨r.lt,r.lt⟩
 keep:=λ_ _ r hk=>r.on λo e=>hk d (.inl rfl) o e
 notList:=by decide
 notTuple:=by decide
 hint:=λ_ _ _ _ r hq=>kdl_hint_dict r.ty hq
 iter:=λA s hh r=>⟨_,λi h=>h.IsKeyIter s.heap.objs.size d i es.size ep/\fR h d es ep,(λ_ _ hq=>rP lo r hq),xR hh _ d (Z5 r.lt) es ep,⟨⟨_,ZN _ rfl,rfl,rfl⟩,r.on λo e=>Zv _ e⟩⟩
end
def uq(I:Inv X U σ H s)(e:Rd H a (.dK az)):∃es ep,fR s.heap a es ep/\es.size=az.length/\(a==sysModules)=false/\az.length<=sizeLine/\∀(i:Nat) (kv:cq×V),az[i]?=some kv->∃en,es[i]?=some en/\RelV (kV kv.1) en.key:=by
 refine au λnO=>?_
 obtain⟨z,lo,vs,dX,o,es,ep,h1,h2,h3,h4,h5,h6⟩:=g_ I.aI e
 refine nO ?_
 have hl:es.size=az.length:=by rw[dX.length,<-h5.length];simp
 refine⟨es,ep,⟨o,h1,h2,h3⟩,hl,lo,z,λi kv hi=>?_⟩
 have bg:i<az.length:=(ZL.mp hi).1
 have kN:i<es.size:=(Zr bg (ZF (aaa hl)))
 have UZ:i<vs.length:=by rw[<-dX.length];exact bg
 refine⟨es[i],aak kN,?_⟩
 have hk:=(h5.get? (e:=es[i]) (k:=vs[i].1) (v:=vs[i].2) (i:=i) (by rw[aaD];exact aak kN) (Zt UZ)).1
 have he:vs[i].1 =kv.1:=by
  have:=congrArg (λl:List cq=>l[i]?) dX.keys
  simp only[ZJ,hi,Zt UZ,acY]at this
  exact(ZY this).symm
 rw[he]at hk
 rcases ba (show lG kv.1 es[i].key =true from hk)with⟨n,t,e1,e2⟩|⟨x,t,e1,e2⟩
 .rw[e1,e2];exact⟨t,rfl⟩
 .rw[e1,e2];exact⟨t,rfl⟩
section
variable {X:Cx}
end
noncomputable def R3(a:Addr)(o:Obj)(az:List (cq×V)):It:=
 ⟨λi H=>H a=some (.c9 o (.dK az))/\i<az.length,λi H x H'=>H'=H/\(az[i]?).map (λkv=>kV kv.1)=some x,λi H=>H a=some (.c9 o (.dK az))/\i=az.length⟩
def vB(I:Inv X U σ H s)(e:H a=some (.c9 o (.dK az)))(hd:o.data= .dict es ep):
  fR s.heap a es ep/\es.size=az.length/\∀(i:Nat) (kv:cq×V),az[i]?=some kv->∃en,es[i]?=some en/\RelV (kV kv.1) en.key:=by
 refine au λnO=>iE (uq I (.inr ⟨o,e⟩)) λCw F0 r1 r2 _ _ r5=>?_
 have ho:s.heap.get? a=some o:=(show aT X.prog X.w H s.heap a (.c9 o (.dK az)) from I.aI a _ e).1
 refine bB (id r1) λo' g1 g2 g3=>?_
 rw[ho]at g1
 cases g1
 rw[hd]at g3
 cases g3
 exact nO<|⟨r1,r2,r5⟩
def DG{K:aC}(a it:Addr)(fy:a≠it)(o:Obj)(az:List (cq×V))(es:Array DictEntry)(ep:Nat)(hd:o.data= .dict es ep):pN P w K tg (R3 a o az) [it] it (λi h=>h.IsKeyIter it a i es.size ep) where
 mem:=by simp
 obj:=λi h st b hb=>by
  have e:b=it:=by simpa using hb
  refine au λnO=>?_
  subst e
  exact bB st λo e c d=>nO<|⟨o,e,λv z=>by rw[d]at z;cases z⟩
 keep:=λi h h' st k=>st.at λo e=>k it (by simp) o e
 item:=by
  intro X hP hw hK hc i U s σ H E I hf st hg
  refine au λnO=>?_
  subst hP hw hK
  obtain⟨e1,e2⟩:=hg
  refine cy (vB I e1 hd) λr1 r2 r3=>tK (hf it (by simp)) λf0 f1 f2 f3 f4 f5=>?_
  have hi:i<es.size:=(Zr e2 (ZF (aaa r2)))
  refine aa (r3 i az[i] (Zt e2)) λen n1 n2=>?_
  rw[aak hi]at n1
  cases n1
  refine nO<|rQ st r1 hi λh' k' hs=>?_
  have I1:Inv X U σ H {s with heap:=h'}:=I.turned (t':=s.toks) (λb o hb e=>(hs.2 b hb).trans e) f0 f1 f3 f4 f5
  exact au λnO=>bB (id k') λoi g1 g2 g3=>nO<|⟨_,rfl,nX (s:={s with heap:=h'}) g1 g2 g3 (by decide) ⟨_,H,I1,n2,⟨rfl,by rw[Zt e2];rfl⟩,k',λb hb=>(hf b hb).1⟩⟩
 done:=by
  intro X hP hw hK hc i U s σ H E I hf st hg
  refine au λnO=>?_
  subst hP hw hK
  obtain⟨e1,e2⟩:=hg
  refine cy (vB I e1 hd) λr1 r2 r3=>tK (hf it (by simp)) λf0 f1 f2 f3 f4 f5=>?_
  have e:i=es.size:=(afb e2 (aaa r2))
  subst e
  exact nO<|vy (I.ok.hd hc) st r1 λh' eb=>⟨rfl,I.turned (t':=s.toks) (λb o hb e=>eb b o hb e) f0 f1 f3 f4 f5⟩
 self:=λ_ _ _ _ _ st h=>rR st h
section
variable {X:Cx}{tg:Expr}
def Xe(tl:TE):TI:=λσ H R=>tl σ H λx H1=>∃a o az,x= .ref a/\H1 a=some (.c9 o (.dK az))/\R (R3 a o az) H1
def MU(hl:PE X l tl):PI X tg l (Xe tl):=by
 intro U s σ H R I h
 refine aU (hl U s σ H _ I h) λv s1 zz=>bu zz λx H1 I1 r1 q1=>b6 q1 λa o az e hq q=>?_
 subst e
 cases r1
 refine iE (uq I1 (.inr ⟨o,hq⟩)) λes ep g1 g2 g3 g4 g5=>?_
 have ho:s1.heap.get? a=some o:=(show aT X.prog X.w H1 s1.heap a (.c9 o (.dK az)) from I1.aI a _ hq).1
 have hd:o.data= .dict es ep:=by
  refine bB (id g1) λo' z1 z2 z3=>?_
  rw[ho]at z1
  cases z1
  exact z3
 refine rP g3 g1 ?_
 refine⟨s1.heap.objs.size,[s1.heap.objs.size],_,_,H1,rfl,I1.kept (t':=s1.toks) λb o e=>Zv _ e,DG a _ (Z5 (ZO ho)) o az es ep hd,⟨_,ZN _ rfl,rfl,rfl⟩,λb hb=>?_,q⟩
 have e:b=s1.heap.objs.size:=by simpa using hb
 subst e
 exact I1.tW (ZG _) (I1.aI.fresh (ZG _))
def MV(tk tv:TE):TE:=λσ H Q=>∀p,H p=none->tk σ (upd H p (.dT [])) λx H1=>tv σ H1 λy H2=>∃b ks,x= .ref b/\H2 b=some (.tup (ks.map kV))/\H2 p=some (.dT [])/\Q (.ref p) (upd H2 p (.dT [(ks,y)]))
def DH(hu:X.A.units+1<cLine)(hk:PE X k tk)(hv:PE X v tv):PE X (.Dict [some k] [v] pos) (MV tk tv):=by
 intro U s σ H Q I h
 have hn:H s.heap.objs.size=none:=I.aI.fresh (ZG _)
 refine wpAny_Dict_any rfl rfl (by simp) (show 1<=15 by decide) ?_
 have I0:Inv X U σ (upd H s.heap.objs.size (.dT [])) {s with heap:=s.heap.push {cls:= .type "dict",data:= .dict #[]}}:=I.laid (a:=s.heap.objs.size) (o:= .dT []) (t':=s.toks) (λ_ _ q=>Zv _ q) (ZG _) (rL s.heap I.big)
 refine pairTrees_cons_walk (aU (hk U _ σ _ _ I0 (h _ hn)) λkv s1 ⟨x,H1,I1,r1,q1⟩=>aU (hv U s1 σ H1 _ I1 q1) λvv s2 ⟨y,H2,I2,r2,q2⟩=>pairTrees_nil_walk ?_)
 refine au λnO=>iD q2 λb ks ex eb ep q3=>?_
 subst ex
 cases r1
 refine nO ?_
 unfold storeAll
 rw[abY]
 refine au λnO=>?_
 obtain⟨z,hd,xs,dX,dd⟩:=Gq I2.aI ep
 cases dX
 refine nO ?_
 refine Zq (Zq (wpAny_dictSet_heap (hsz:=aab _) (knd:=tupleKind (aS X.prog X.w)) (show X.A.units<cLine by exact Zx hu) (ir I2.aI eb) dd λh' DA hs=>ZC ?_))
 dsimp only
 rw[List.forIn_nil]
 refine ZC ⟨.ref s.heap.objs.size,_,?_,rfl,q3⟩
 refine au λnO=>KY DA λo es e2 g1 g2 g3 g4 _ g5=>nO ?_
 refine k9 I2 (by rw[ep];exact True.intro) hs ⟨o,g1⟩ ⟨by rw[sizeLine_eq];exact(by decide:(1:Nat)<=16777216),hd,_,?_,o,es,e2,g1,g2,g3,g4,g5⟩
 refine .cons ⟨rfl,?_,r2⟩ .nil
 rw[aq (fK eb ep (λz=>nomatch z))]
 exact eb
end
end L2
namespace dw
open PySem PyProof.Rows
structure Ord(r:Keyed->Keyed->Bool):Prop where
 PL:∀x y,r x y=true->r y x=false
 tr:∀x y z,r y x=false->r z y=false->r z x=false
def le(r:Keyed->Keyed->Bool)(x y:Keyed):Prop:=r y x=false
section
variable {r:Keyed->Keyed->Bool}
def Ord.refl(O:Ord r)(x:Keyed):le r x x:=by
 show r x x=false
 cases h:r x x with
 |false=>rfl
 |true=>exact(O.PL x x h).symm.trans h |>.symm ▸rfl
def Ord.of_lt(O:Ord r)(h:r x y=true):le r x y:=O.PL x y h
def Ord.trans(O:Ord r)(h1:le r x y)(h2:le r y z):le r x z:=O.tr x y z h1 h2
end
section
variable {prog:Program}{w:World}{A:Around}{E:Value->Shared->Prop}{s:Shared}{κ:SortKind}{P:Keyed->Prop}{r:Keyed->Keyed->Bool}
def kS(prog:Program)(w:World)(A:Around)(E:Value->Shared->Prop)(s:Shared)(κ:SortKind)(P:Keyed->Prop)(r:Keyed->Keyed->Bool):Prop:=
 ∀(x y:Keyed) (zt:SortSt) (Q:Option Bool->SortSt->Prop),P x->P y->kindOf zt=κ->Q (some (r x y)) zt->wpS (model prog w) A E s (lt' x y) Q zt
noncomputable def ur(r:Keyed->Keyed->Bool)(left:Bool)(key x:Keyed):Bool:=if left then r x key else !r key x
def z_(L:kS prog w A E s κ P r)(hk:kindOf zt=κ)(hp:P key)(ha:∀x∈arr,P x)(hi:base+i<arr.size)(q:Q (some (ur r left key arr[base+i])) zt):
  wpS (model prog w) A E s (ef left key arr base i) Q zt:=by
 unfold ef
 refine wpS_bind (br hi ?_)
 have hx:=ha _ (aaB hi)
 cases left with
 |true=>exact L _ _ zt _ hx hp hk q
 |false=>exact wpS_bind (L _ _ zt _ hp hx hk (wpS_pure q))
def Aa(O:Ord r)(h:le r x y)(hy:ur r left key y=true):ur r left key x=true:=by
 unfold ur at hy⊢
 cases left with
 |true=>
  have K6:r y key=true:=hy
  show r x key=true
  cases e:r x key with
  |true=>rfl
  |false=>
   have:=O.tr key x y e h
   rw[this]at K6
   cases K6
 |false=>
  have K6:(!r key y)=true:=hy
  show(!r key x)=true
  have h1:r key y=false:=by simpa using K6
  have:=O.tr x y key h h1
  simp[this]
abbrev W3:=Option (Option Nat)×Nat×Nat
noncomputable def R4(left:Bool)(key:Keyed)(arr:Array Keyed)(base n hint l o:Nat):SM (ForInStep W3):=do
 if o ≥ n-hint then return .done (none,l,o)
 let some more<-ef left key arr base (hint+o)|return .done (some none,l,o)
 if !more then return .done (none,l,o)
 return .yield (none,o,2*o+1)
noncomputable def R6(left:Bool)(key:Keyed)(arr:Array Keyed)(base hint l o:Nat):SM (ForInStep W3):=do
 if o ≥ hint+1 then return .done (none,l,o)
 let some found<-ef left key arr base (hint-o)|return .done (some none,l,o)
 if found then return .done (none,l,o)
 return .yield (none,o,2*o+1)
noncomputable def R7(left:Bool)(key:Keyed)(arr:Array Keyed)(base lo hi:Nat):SM (ForInStep W3):=do
 if lo ≥ hi then return .done (none,lo,hi)
 let some more<-ef left key arr base (lo+(hi-lo)/2)|return .done (some none,lo,hi)
 if more then return .yield (none,lo+(hi-lo)/2+1,hi) else return .yield (none,lo,lo+(hi-lo)/2)
noncomputable def PM(left:Bool)(key:Keyed)(arr:Array Keyed)(base n lo hi:Nat):SM (Option Nat):=do
 let c<-forIn [0:n] ((none,lo,hi):W3) λ_ c=>R7 left key arr base c.2.1 c.2.2
 match c.1 with
 |some r=>pure r
 |none=>pure (some c.2.2)
def MW(left:Bool)(key:Keyed)(arr:Array Keyed)(base n hint:Nat):bY left key arr base n hint=(do
  let some right<-ef left key arr base hint|return none
  if right then
   let c<-forIn [0:n] ((none,0,1):W3) λ_ c=>R4 left key arr base n hint c.2.1 c.2.2
   match c.1 with
   |some r=>pure r
   |none=>PM left key arr base n (hint+c.2.1+1) (hint+min c.2.2 (n-hint))
  else
   let c<-forIn [0:n] ((none,0,1):W3) λ_ c=>R6 left key arr base hint c.2.1 c.2.2
   match c.1 with
   |some r=>pure r
   |none=>PM left key arr base n (hint+1-min c.2.2 (hint+1)) (hint-c.2.1)):=by kernel_rfl
section
variable {left:Bool}{key:Keyed}{arr:Array Keyed}{base n hint lo hi:Nat}{zt:SortSt}{Q:Option Nat->SortSt->Prop}{f:Nat->Bool}
def R8(h:lo<hi):lo+(hi-lo)/2<hi:=Nat.lt_of_lt_of_eq (aas (Nat.div_lt_self (abw h) (by decide)) lo) (Z9 (Zx h))
def Xf(h:lo<hi)(z:hi-lo+i<=n):hi-(lo+(hi-lo)/2+1)+(i+1)<=n:=by
 rw[adV,<-aaV,Z8,aaL (abw (R8 h))]
 exact Zw (abT (acj (ZU lo _) hi) i) z
def Xg(h:lo<hi)(z:hi-lo+i<=n):lo+(hi-lo)/2-lo+(i+1)<=n:=by
 rw[aau,<-aaV,Z8]
 exact Zw (abT (Nat.div_lt_self (abw h) (by decide)) i) z
def Gr(hB:∀(i:Nat) (Q:Option Bool->SortSt->Prop),i<n->Q (some (f i)) zt->wpS (model prog w) A E s (ef left key arr base i) Q zt)
  (mono:∀i j,i<=j->j<n->f j=true->f i=true) (up:∀i j,i<=j->j<n->f i=false->f j=false) (z1:lo<=hi) (z2:hi<=n) (a1:∀i,i<lo->f i=true) (a2:∀i,hi<=i->i<n->f i=false)
  (q:∀k,k<=n->(∀i,i<k->f i=true)->(∀i,k<=i->i<n->f i=false)->Q (some k) zt):wpS (model prog w) A E s (PM left key arr base n lo hi) Q zt:=by
 unfold PM
 refine wpS_bind (wpS_mono (wpS_forRange (I:=λi c cu=>cu=zt/\∃lo hi,c=(none,lo,hi)/\lo<=hi/\hi<=n/\hi-lo+i<=n/\(∀i,i<lo->f i=true)/\(∀i,hi<=i->i<n->f i=false)) (Q:=λc cu=>cu=zt/\∃lo hi,c=(none,lo,hi)/\hi<=n/\(∀i,i<hi->f i=true)/\(∀i,hi<=i->i<n->f i=false)) ?_ ?_ ⟨rfl,_,_,rfl,z1,z2,(Zw (aaX _ _) z2),a1,a2⟩) ?_)
 .rintro i c cu _ _ ⟨rfl,lo,hi,rfl,z1,z2,z3,z4,z5⟩
  show wpS (model prog w) A E s (R7 left key arr base lo hi) _ _
  unfold R7
  refine fQ (λhg=>?_) (λhg=>?_)
  .exact wpS_pure ⟨rfl,lo,hi,rfl,z2,λi h=>z4 i (Zr h hg),z5⟩
  .have hg:=abO hg
   have hm:=Zr (R8 hg) z2
   refine wpS_bind (hB _ _ hm ?_)
   cases e2:f (lo+(hi-lo)/2)with
   |true=>exact wpS_pure ⟨rfl,_,hi,rfl,R8 hg,z2,Xf hg z3,λi h=>mono i _ (aan h) hm e2,z5⟩
   |false=>exact wpS_pure ⟨rfl,lo,_,rfl,ZU _ _,Zx hm,Xg hg z3,z4,λi h1 h2=>up _ i h1 h2 e2⟩
 .rintro c cu ⟨rfl,lo,hi,rfl,z1,z2,z3,z4,z5⟩
  rw[aex (aab n)]at z3
  have hl:hi<=lo:=acx (Nat.le_zero.mp (Nat.le_of_add_le_add_right (show hi-lo+n<=0+n by rw[aaE];exact z3)))
  exact⟨rfl,lo,hi,rfl,z2,λi h=>z4 i (Zr h hl),z5⟩
 .rintro c cu ⟨rfl,lo,hi,rfl,z2,z4,z5⟩
  exact wpS_pure (q hi z2 z4 z5)
def Ab(hn:hint<n)(hB:∀(i:Nat) (Q:Option Bool->SortSt->Prop),i<n->Q (some (f i)) zt->wpS (model prog w) A E s (ef left key arr base i) Q zt)
  (mono:∀i j,i<=j->j<n->f j=true->f i=true)
  (q:∀k,k<=n->(∀i,i<k->f i=true)->(∀i,k<=i->i<n->f i=false)->Q (some k) zt):wpS (model prog w) A E s (bY left key arr base n hint) Q zt:=by
 have up:∀i j,i<=j->j<n->f i=false->f j=false:=λi j h1 h2 h3=>by
  cases e:f j with
  |false=>rfl
  |true=>rw[mono i j h1 h2 e]at h3;cases h3
 rw[MW]
 refine wpS_bind (hB hint _ hn ?_)
 cases e0:f hint with
 |true=>
  dsimp only
  rw[ZM rfl]
  refine wpS_bind (wpS_mono (wpS_forRange (I:=λi c ak=>ak=zt/\∃l o,c=(none,l,o)/\l<o/\i+1<=o/\hint+l<n/\f (hint+l)=true)
   (Q:=λc ak=>ak=zt/\∃l o,c=(none,l,o)/\l<o/\hint+l<n/\f (hint+l)=true/\(n-hint<=o\/(hint+o<n/\f (hint+o)=false))) ?_ ?_ ⟨rfl,0,1,rfl,(by decide),(by decide),hn,e0⟩) ?_)
  .rintro i c ak _ _ ⟨rfl,l,o,rfl,g1,g2,g3,g4⟩
   show wpS (model prog w) A E s (R4 left key arr base n hint l o) _ _
   unfold R4
   refine fQ (λhg=>?_) (λhg=>?_)
   .exact wpS_pure ⟨rfl,l,o,rfl,g1,g3,g4,.inl hg⟩
   .have hh:hint+o<n:=aeX (abO hg)
    refine wpS_bind (hB (hint+o) _ hh ?_)
    cases e1:f (hint+o)with
    |true=>exact wpS_pure ⟨rfl,_,_,rfl,by omega,(LI g2),hh,e1⟩
    |false=>exact wpS_pure ⟨rfl,_,_,rfl,g1,g3,g4,.inr ⟨hh,e1⟩⟩
  .rintro c ak ⟨rfl,l,o,rfl,g1,g2,g3,g4⟩
   exact⟨rfl,l,o,rfl,g1,g3,g4,.inl (Zw (aaX _ _) (Zw (aey 0 n) (Nat.le_of_succ_le g2)))⟩
  rintro c ak ⟨rfl,l,o,rfl,g1,g3,g4,g5⟩
  have hh:=Z9 (Zx hn)
  refine Gr hB mono up ?_ ?_ (λi hi=>mono i (hint+l) (aan hi) g3 g4) (λi h1 h2=>?_) q
  .exact ZP (Nat.le_min.mpr ⟨g1,aeG.mpr g3⟩) hint
  .exact Zw (ZP (adw _ _) _) (ZF hh)
  .dsimp only at h1
   rcases g5 with g5|⟨g5,g6⟩
   .rw[aez g5,hh]at h1
    exact absurd h2 (aej.mpr h1)
   .rw[aaQ (Zx (aeG.mpr g5))]at h1
    exact up (hint+o) i h1 h2 g6
 |false=>
  dsimp only
  rw[ZW Zz]
  refine wpS_bind (wpS_mono (wpS_forRange (I:=λi c ak=>ak=zt/\∃l o,c=(none,l,o)/\l<o/\i+1<=o/\l<=hint/\f (hint-l)=false)
   (Q:=λc ak=>ak=zt/\∃l o,c=(none,l,o)/\l<o/\l<=hint/\f (hint-l)=false/\(hint+1<=o\/(o<=hint/\f (hint-o)=true))) ?_ ?_ ⟨rfl,0,1,rfl,(by decide),(by decide),(aab _),e0⟩) ?_)
  .rintro i c ak _ _ ⟨rfl,l,o,rfl,g1,g2,g3,g4⟩
   show wpS (model prog w) A E s (R6 left key arr base hint l o) _ _
   unfold R6
   refine fQ (λhg=>?_) (λhg=>?_)
   .exact wpS_pure ⟨rfl,l,o,rfl,g1,g3,g4,.inl hg⟩
   .have hh:hint-o<n:=ZH (aaX _ _) hn
    refine wpS_bind (hB (hint-o) _ hh ?_)
    cases e1:f (hint-o)with
    |true=>exact wpS_pure ⟨rfl,_,_,rfl,g1,g3,g4,.inr ⟨(Z0 hg),e1⟩⟩
    |false=>exact wpS_pure ⟨rfl,_,_,rfl,by omega,(LI g2),(Z0 hg),e1⟩
  .rintro c ak ⟨rfl,l,o,rfl,g1,g2,g3,g4⟩
   exact⟨rfl,l,o,rfl,g1,g3,g4,.inl (Zw hn (Zw (aey 0 n) (Nat.le_of_succ_le g2)))⟩
  rintro c ak ⟨rfl,l,o,rfl,g1,g3,g4,g5⟩
  refine Gr hB mono up ?_ ?_ (λi hi=>?_) (λi h1 h2=>up (hint-l) i h1 h2 g4) q
  .exact Zw (acj (Nat.le_min.mpr ⟨g1,abM g3⟩) (hint+1)) (ZF (Nat.add_sub_add_right hint 1 l))
  .exact Zw (aaX _ _) (Zx hn)
  .dsimp only at hi
   rcases g5 with g5|⟨g5,g6⟩
   .rw[aez g5,Nat.sub_self]at hi
    exact absurd hi (aaZ _)
   .rw[aaQ (abk g5),Nat.succ_sub g5]at hi
    exact mono i (hint-o) (aan hi) (ZH (aaX _ _) hn) g6
end
noncomputable abbrev sg(arr:Array Keyed)(base n:Nat):List Keyed:=(arr.toList.drop base).take n
def fA(hi:i<n)(hz:base+n<=arr.size):(sg arr base n)[i]?=some (arr[base+i]'(qN hz (aas hi _))):=by
 rw[afy,ZM hi,afz,aaD,aak]
def dM(hz:base+n<=arr.size):(sg arr base n).length =n:=by
 rw[abt,aco,Z_,aaQ (adu hz)]
def cD(L:kS prog w A E s κ P r)(O:Ord r)(hk:kindOf zt=κ)(hp:P key)(ha:∀x∈arr,P x)(hz:base+n<=arr.size)(hn:hint<n)
  (hS:(sg arr base n).Pairwise (le r))
  (q:∀k,k<=n->(∀x∈(sg arr base n).take k,ur r left key x=true)->(∀x∈(sg arr base n).drop k,ur r left key x=false)->Q (some k) zt):wpS (model prog w) A E s (bY left key arr base n hint) Q zt:=by
 have hl:=dM hz
 have fe:∀i (h:i<n),(((sg arr base n)[i]?).elim false (ur r left key))=ur r left key (arr[base+i]'(qN hz (aas h _))):=λi h=>by rw[fA h hz];rfl
 refine Ab (f:=λi=>((sg arr base n)[i]?).elim false (ur r left key)) hn (λi Q hi hq=>z_ L hk hp ha (qN hz (aas hi _)) (by rw[<-fe i hi];exact hq)) (λi j um hj hf=>?_) (λk vD h1 h2=>q k vD (λx hx=>?_) (λx hx=>?_))
 .rcases aaM i j with z|z
  .rw[fe j hj]at hf
   rw[fe i (Zr z (Zx hj))]
   refine Aa O ?_ hf
   have:=(abA.mp hS) i j (nu (aaa hl) (qN (Zx hj) z)) (Zr hj (ZF (aaa hl))) z
   have e1:=fA (arr:=arr) (show i<n by exact Zr z (Zx hj)) hz
   have e2:=fA (arr:=arr) hj hz
   rw[Zt (by omega)]at e1 e2
   rw[ZY e1,ZY e2]at this
   exact this
  .rw[show i=j by exact aal um z];exact hf
 .obtain⟨i,hi,rfl⟩:=ack hx
  rw[abt]at hi
  have:=h1 i (Zr hi (acU _ _))
  rw[Zt (Zr hi (adw _ _))]at this
  rw[List.getElem_take]
  exact this
 .obtain⟨i,hi,rfl⟩:=ack hx
  rw[aco]at hi
  have hi:=aeX hi
  have:=h2 (k+i) (ZU _ _) (hl▸hi)
  rw[Zt hi]at this
  rw[List.getElem_drop]
  exact this
structure Ms(r:Keyed->Keyed->Bool)(a b out:Array Keyed)(i j:Nat):Prop where
 p:Pt a b out i j
 s:out.toList.Pairwise (le r)
 ta:∀x∈out.toList,∀y∈a.toList.drop i,le r x y
 tb:∀x∈out.toList,∀y∈b.toList.drop j,le r x y
end
section
variable {r:Keyed->Keyed->Bool}{a b out:Array Keyed}{i j k:Nat}
def dO(a:Array Keyed)(i k:Nat):(a.extract i (i+k)).toList =sg a i k:=by
 rw[abD]
 unfold List.extract
 rw[show i+k-i=k by exact aau _ _]
def Ac(a:Array Keyed)(i k:Nat):a.toList.drop i=sg a i k++a.toList.drop (i+k):=by
 have:=(acz k (a.toList.drop i)).symm
 rwa [adT]at this
theorem Ms.p_(h:Ms r a b out i j)(sa:a.toList.Pairwise (le r))(hb:∀x∈sg a i k,∀y∈b.toList.drop j,le r x y):Ms r a b (out++a.extract i (i+k)) (i+k) j:=by
 have sd:(a.toList.drop i).Pairwise (le r):=sa.sublist (abb _ _)
 have e:=Ac a i k
 rw[e,aae]at sd
 refine cy sd λp1 p2 p3=>?_
 have MX:∀x∈out.toList,∀y∈sg a i k++a.toList.drop (i+k),le r x y:=λx hx y hy=>h.ta x hx y (by rw[e];exact hy)
 refine⟨h.p.p_,?_,λx hx y hy=>?_,λx hx y hy=>?_⟩
 .rw[ZS,dO,aae]
  exact⟨h.s,p1,λx hx y hy=>MX x hx y (Z7 _ hy)⟩
 .rw[ZS,dO]at hx
  rcases ZZ.mp hx with z|z
  .exact MX x z y (ZV _ hy)
  .exact p3 x z y hy
 .rw[ZS,dO]at hx
  rcases ZZ.mp hx with z|z
  .exact h.tb x z y hy
  .exact hb x z y hy
theorem Ms.p9(h:Ms r a b out i j)(sb:b.toList.Pairwise (le r))(ha:∀x∈sg b j k,∀y∈a.toList.drop i,le r x y):Ms r a b (out++b.extract j (j+k)) i (j+k):=by
 have sd:(b.toList.drop j).Pairwise (le r):=sb.sublist (abb _ _)
 have e:=Ac b j k
 rw[e,aae]at sd
 refine cy sd λp1 p2 p3=>?_
 have MY:∀x∈out.toList,∀y∈sg b j k++b.toList.drop (j+k),le r x y:=λx hx y hy=>h.tb x hx y (by rw[e];exact hy)
 refine⟨h.p.p9,?_,λx hx y hy=>?_,λx hx y hy=>?_⟩
 .rw[ZS,dO,aae]
  exact⟨h.s,p1,λx hx y hy=>MY x hx y (Z7 _ hy)⟩
 .rw[ZS,dO]at hx
  rcases ZZ.mp hx with z|z
  .exact h.ta x z y hy
  .exact ha x z y hy
 .rw[ZS,dO]at hx
  rcases ZZ.mp hx with z|z
  .exact MY x z y (ZV _ hy)
  .exact p3 x z y hy
def Ms.cg(h:Ms r a b out i j)(e:o.toList=out.toList):Ms r a b o i j:=⟨by unfold Pt;rw[e];exact h.p,by rw[e];exact h.s,λx hx=>h.ta x (by rw[<-e];exact hx),λx hx=>h.tb x (by rw[<-e];exact hx)⟩
def Ms.ox(h:Ms r a b out i j)(sa:a.toList.Pairwise (le r))(hi:i<a.size)(hb:∀y∈b.toList.drop j,le r a[i] y):Ms r a b (out.push a[i]) (i+1) j:=by
 refine(h.p_ (k:=1) sa λx hx=>?_).cg (by rw[ZS,gD hi,<-acd])
 rw[<-dO,gD hi,ZE]at hx
 rw[hx];exact hb
def Ms.oy(h:Ms r a b out i j)(sb:b.toList.Pairwise (le r))(hj:j<b.size)(ha:∀y∈a.toList.drop i,le r b[j] y):Ms r a b (out.push b[j]) i (j+1):=by
 refine(h.p9 (k:=1) sb λx hx=>?_).cg (by rw[ZS,gD hj,<-acd])
 rw[<-dO,gD hj,ZE]at hx
 rw[hx];exact ha
def MZ(O:Ord r)(sa:a.toList.Pairwise (le r))(hi:i<a.size):∀y∈a.toList.drop i,le r a[i] y:=λy hy=>by
 have iT:i<a.toList.length:=by simpa using hi
 have sd:(a.toList.drop i).Pairwise (le r):=sa.sublist (abb _ _)
 rw[aaG iT]at sd hy
 rcases ZK.mp hy with z|z
 .rw[z];exact O.refl _
 .exact(abd.mp sd).1 y z
def qb(O:Ord r)(sa:a.toList.Pairwise (le r))(hi:i<a.size)(h:le r x a[i]):∀y∈a.toList.drop i,le r x y:=λy hy=>O.trans h (MZ O sa hi y hy)
def k_(a:Array Keyed)(hi:i<=a.size):(a.extract i a.size).toList =a.toList.drop i:=by
 have:=dO a i (a.size-i)
 rw[show i+(a.size-i)=a.size by exact Z9 hi]at this
 rw[this]
 exact aay (by simp)
def Ms.done(h:Ms r a b out i j)(sa:a.toList.Pairwise (le r))(sb:b.toList.Pairwise (le r))(hi:i<=a.size)(hj:j<=b.size)(c:i=a.size\/j=b.size):((out++a.extract i a.size)++b.extract j b.size).toList.Pairwise (le r):=by
 rw[ZS,ZS,k_ a hi,k_ b hj]
 have na:i=a.size->a.toList.drop i=[]:=λe=>aeH (by simp[e])
 have nb:j=b.size->b.toList.drop j=[]:=λe=>aeH (by simp[e])
 rcases c with c|c
 .rw[na c,aaK,aae]
  exact⟨h.s,sb.sublist (abb _ _),h.tb⟩
 .rw[nb c,aaK,aae]
  exact⟨h.s,sa.sublist (abb _ _),h.ta⟩
def Ms.last(h:Ms r a b out i j)(sa:a.toList.Pairwise (le r))(sb:b.toList.Pairwise (le r))(hi:i<=a.size)(hj:j<=b.size)(c:∀y∈b.toList,∀x∈a.toList.drop i,le r y x):((out++b.extract j b.size)++a.extract i a.size).toList.Pairwise (le r):=by
 rw[ZS,ZS,k_ a hi,k_ b hj,aai,aae]
 refine⟨h.s,?_,λx hx y hy=>?_⟩
 .rw[aae]
  exact⟨sb.sublist (abb _ _),sa.sublist (abb _ _),λy hy x hx=>c y (acI hy) x hx⟩
 .rcases ZZ.mp hy with z|z
  .exact h.tb x hx y z
  .exact h.ta x hx y z
end
section
variable {prog:Program}{w:World}{A:Around}{E:Value->Shared->Prop}{s:Shared}{κ:SortKind}{P:Keyed->Prop}{r:Keyed->Keyed->Bool}
def bne{n m:Nat}(h:¬(n==m)=true):n≠m:=λe=>h (by rw[e];simp)
structure Lo(r:Keyed->Keyed->Bool)(a b:Array Keyed)(k:Nat)(out:Array Keyed)(ia ib:Nat):Prop where
 m:Ms r a b out ia ib
 x1:ia+1<a.size
 x2:ib<b.size
 x3:k<=ia+ib
abbrev Dn(r:Keyed->Keyed->Bool)(a b:Array Keyed)(o:Option (Array Keyed)):Prop:=∃o',o=some o'/\o'.toList.Perm (a.toList++b.toList)/\o'.toList.Pairwise (le r)
abbrev U0(r:Keyed->Keyed->Bool)(a b:Array Keyed)(zt:SortSt)(k:Nat)(c:Option (Array Keyed)×Array Keyed×Nat×Nat×Nat)(ak:SortSt):Prop:=Sm zt ak/\∃out ia ib g,c=(none,out,ia,ib,g)/\Lo r a b k out ia ib
abbrev Q1{β:Type}(r:Keyed->Keyed->Bool)(a b:Array Keyed)(zt:SortSt)(c:Option (Array Keyed)×β)(ak:SortSt):Prop:=Sm zt ak/\Dn r a b c.1
abbrev M0(r:Keyed->Keyed->Bool)(a b:Array Keyed)(k:Nat)(c:Option (Array Keyed)×Array Keyed×Nat×Nat×Nat×Nat):Prop:=∃out ia ib n m,c=(none,out,ia,ib,n,m)/\Lo r a b k out ia ib
abbrev Lc(r:Keyed->Keyed->Bool)(a b:Array Keyed)(k:Nat)(c:Option (Array Keyed)×Array Keyed×Nat×Nat×Nat×Nat×Nat):Prop:=∃out ia ib g n m,c=(none,out,ia,ib,g,n,m)/\Lo r a b k out ia ib
abbrev Pq{β:Type}(J:Option (Array Keyed)×β->Prop)(zt:SortSt)(c:Option (Array Keyed)×β)(ak:SortSt):Prop:=Sm zt ak/\J c
abbrev Qq{β:Type}(r:Keyed->Keyed->Bool)(a b:Array Keyed)(J:Option (Array Keyed)×β->Prop)(zt:SortSt)(c:Option (Array Keyed)×β)(ak:SortSt):Prop:=Sm zt ak/\(Dn r a b c.1\/J c)
abbrev T5:=Option (Array Keyed)×Array Keyed×Nat×Nat×Nat
abbrev T6:=Option (Array Keyed)×Array Keyed×Nat×Nat×Nat×Nat
abbrev T7:=Option (Array Keyed)×Array Keyed×Nat×Nat×Nat×Nat×Nat
noncomputable def Gs(a b out:Array Keyed)(ia ib:Nat):Array Keyed:=(out++a.extract ia a.size)++b.extract ib b.size
noncomputable def PN(a b out:Array Keyed)(ia ib:Nat):Array Keyed:=(out++b.extract ib b.size)++a.extract ia a.size
noncomputable def R9(a b:Array Keyed)(g:Nat)(out:Array Keyed)(ia ib ac bc:Nat):SM (ForInStep T6):=do
 let some w<-lt' (<-elem' b ib) (<-elem' a ia)|return .done (some (Gs a b out ia ib),out,ia,ib,ac,bc)
 if w then
  let o:=out.push (<-elem' b ib)
  if ib+1==b.size then return .done (some (Gs a b o ia (ib+1)),o,ia,ib+1,0,bc+1)
  if bc+1 ≥ g then return .done (none,o,ia,ib+1,0,bc+1)
  return .yield (none,o,ia,ib+1,0,bc+1)
 else
  let o:=out.push (<-elem' a ia)
  if ia+1+1==a.size then return .done (some (PN a b o (ia+1) ib),o,ia+1,ib,ac+1,0)
  if ac+1 ≥ g then return .done (none,o,ia+1,ib,ac+1,0)
  return .yield (none,o,ia+1,ib,ac+1,0)
noncomputable def DI(a b out:Array Keyed)(ia ib g ac bc:Nat):SM (ForInStep T7):=do
 let o:=out.push (<-elem' a ia)
 if ia+1+1==a.size then return .done (some (PN a b o (ia+1) ib),o,ia+1,ib,g,ac,bc)
 if ac<7&&bc<7 then return .done (none,o,ia+1,ib,g,ac,bc)
 return .yield (none,o,ia+1,ib,g,ac,bc)
noncomputable def DJ(a b out:Array Keyed)(ia ib g ac bc:Nat):SM (ForInStep T7):=do
 let o:=out.push (<-elem' b ib)
 if ib+1==b.size then return .done (some (Gs a b o ia (ib+1)),o,ia,ib+1,g,ac,bc)
 let some k<-bY true (<-elem' a ia) b (ib+1) (b.size-(ib+1)) 0|return .done (some (Gs a b o ia (ib+1)),o,ia,ib+1,g,ac,bc)
 if k>0 then
  let o:=o++b.extract (ib+1) (ib+1+k)
  if ib+1+k==b.size then return .done (some (Gs a b o ia (ib+1+k)),o,ia,ib+1+k,g,ac,k)
  DI a b o ia (ib+1+k) g ac k
 else DI a b o ia (ib+1) g ac k
noncomputable def DK(a b out:Array Keyed)(ia ib ac bc g:Nat):SM (ForInStep T7):=do
 bf g
 let some k<-bY false (<-elem' b ib) a ia (a.size-ia) 0|return .done (some (Gs a b out ia ib),out,ia,ib,g,ac,bc)
 if k>0 then
  let o:=out++a.extract ia (ia+k)
  if ia+k+1==a.size then return .done (some (PN a b o (ia+k) ib),o,ia+k,ib,g,k,bc)
  if ia+k==a.size then return .done (some (Gs a b o (ia+k) ib),o,ia+k,ib,g,k,bc)
  DJ a b o (ia+k) ib g k bc
 else DJ a b out ia ib g k bc
noncomputable def U1(a b out:Array Keyed)(ia ib g ac bc:Nat):SM (ForInStep T7):=if g>1 then DK a b out ia ib ac bc (g-1) else DK a b out ia ib ac bc g
noncomputable def R_(a b:Array Keyed)(g:Nat)(u:T7):SM (ForInStep T5):=
 match u.1 with
 |some r=>pure (.done (some r,u.2.1,u.2.2.1,u.2.2.2.1,u.2.2.2.2.1))
 |none=>do
  bf (u.2.2.2.2.1+1)
  pure (.yield (none,u.2.1,u.2.2.1,u.2.2.2.1,u.2.2.2.2.1+1))
noncomputable def Sa(a b:Array Keyed)(g:Nat)(t:T6):SM (ForInStep T5):=
 match t.1 with
 |some r=>pure (.done (some r,t.2.1,t.2.2.1,t.2.2.2.1,g))
 |none=>do
  rule "list.sort.gallop"
  let u<-forIn [0:a.size+b.size] ((none,t.2.1,t.2.2.1,t.2.2.2.1,g+1,t.2.2.2.2.1,t.2.2.2.2.2):T7) λ_ u=>U1 a b u.2.1 u.2.2.1 u.2.2.2.1 u.2.2.2.2.1 u.2.2.2.2.2.1 u.2.2.2.2.2.2
  R_ a b g u
noncomputable def Sb(a b out:Array Keyed)(ia ib g:Nat):SM (ForInStep T5):=do
 let t<-forIn [0:a.size+b.size] ((none,out,ia,ib,0,0):T6) λ_ t=>R9 a b g t.2.1 t.2.2.1 t.2.2.2.1 t.2.2.2.2.1 t.2.2.2.2.2
 Sa a b g t
def M1(a b:Array Keyed):l_ a b=(do
  rule "list.sort.merge-lo"
  let x<-elem' b 0
  if 1==b.size then return Gs a b #[x] 0 1
  if 0+1==a.size then return PN a b #[x] 0 1
  let g:=gallopOf (<-get)
  let s<-forIn [0:a.size+b.size] ((none,#[x],0,1,g):T5) λ_ s=>Sb a b s.2.1 s.2.2.1 s.2.2.2.1 s.2.2.2.2
  match s.1 with
  |some r=>pure r
  |none=>unsupported "internal:list.sort.merge-bound"):=by kernel_rfl
structure Mg(prog:Program)(w:World)(A:Around)(E:Value->Shared->Prop)(s:Shared)(κ:SortKind)(P:Keyed->Prop)(r:Keyed->Keyed->Bool)(a b:Array Keyed)(zt:SortSt):Prop where
 L:kS prog w A E s κ P r
 O:Ord r
 hk:kindOf zt=κ
 ha:∀x∈a,P x
 hb:∀x∈b,P x
 sa:a.toList.Pairwise (le r)
 sb:b.toList.Pairwise (le r)
def Mg.gA(G:Mg prog w A E s κ P r a b zt)(uu:ib<b.size)(hS:Sm zt ak)(oz:ia<a.size)(hq:∀k,k<=a.size-ia->(∀x∈sg a ia k,∀y∈b.toList.drop ib,le r x y)->(∀x∈a.toList.drop (ia+k),le r b[ib] x)->Q' (some k) ak):
  wpS (model prog w) A E s (bY false b[ib] a ia (a.size-ia) 0) Q' ak:=by
 have e:sg a ia (a.size-ia)=a.toList.drop ia:=aay (by simp)
 refine cD G.L G.O (hS.k.trans G.hk) (G.hb _ (aaB _)) G.ha (ZF (Z9 (Zx oz))) (abw oz) (by rw[e];exact G.sa.sublist (abb _ _)) λk hk g1 g2=>hq k hk (λx hx=>?_) (λx hx=>?_)
 .have:=g1 x (by rw[e];exact hx)
  have h':le r x b[ib]:=by unfold ur at this;simpa[le]using this
  exact qb G.O G.sb uu h'
 .have:=g2 x (by rw[e,adT];exact hx)
  unfold ur at this
  have h':r b[ib] x=true:=by simpa using this
  exact G.O.of_lt h'
def Mg.gB(G:Mg prog w A E s κ P r a b zt)(oz:ia<a.size)(hS:Sm zt ak)(uu:ib<b.size)(hq:∀k,k<=b.size-ib->(∀x∈sg b ib k,∀y∈a.toList.drop ia,le r x y)->(∀x∈b.toList.drop (ib+k),le r a[ia] x)->Q' (some k) ak):
  wpS (model prog w) A E s (bY true a[ia] b ib (b.size-ib) 0) Q' ak:=by
 have e:sg b ib (b.size-ib)=b.toList.drop ib:=aay (by simp)
 refine cD G.L G.O (hS.k.trans G.hk) (G.ha _ (aaB _)) G.hb (ZF (Z9 (Zx uu))) (abw uu) (by rw[e];exact G.sb.sublist (abb _ _)) λk hk g1 g2=>hq k hk (λx hx=>?_) (λx hx=>?_)
 .have:=g1 x (by rw[e];exact hx)
  exact qb G.O G.sa oz (G.O.of_lt this)
 .exact g2 x (by rw[e,adT];exact hx)
abbrev RI(r:Keyed->Keyed->Bool)(a b:Array Keyed)(zt:SortSt)(K:Nat)(x:ForInStep T6)(ak:SortSt):Prop:=match x with
 | .done c=>Qq r a b (M0 r a b K) zt c ak
 | .yield c=>Pq (M0 r a b K) zt c ak
abbrev RJ(r:Keyed->Keyed->Bool)(a b:Array Keyed)(zt:SortSt)(K:Nat)(x:ForInStep T7)(ak:SortSt):Prop:=match x with
 | .done c=>Qq r a b (Lc r a b K) zt c ak
 | .yield c=>Pq (Lc r a b K) zt c ak
section
variable {a b out:Array Keyed}{zt ak:SortSt}{ia ib g ac bc K:Nat}
def M3(G:Mg prog w A E s κ P r a b zt)(dh:∀i,i+1=a.size->∀y∈b.toList,∀x∈a.toList.drop i,le r y x)(hS:Sm zt ak)(h:Lo r a b K out ia ib):wpS (model prog w) A E s (R9 a b g out ia ib ac bc) (RI r a b zt K) ak:=by
 have hP:=h.m
 have x1:=h.x1
 have x2:=h.x2
 have x3:=h.x3
 have oz:ia<a.size:=(Zx x1)
 unfold R9
 refine wpS_bind (br x2 (wpS_bind (br oz (wpS_bind (G.L _ _ _ _ (G.hb _ (aaB _)) (G.ha _ (aaB _)) (hS.k.trans G.hk) ?_)))))
 cases bw:r b[ib] a[ia]with
 |true=>
  dsimp only
  rw[ZM rfl]
  refine wpS_bind (br x2 ?_)
  have qc:=hP.oy G.sb x2 (qb G.O G.sa oz (G.O.of_lt bw))
  refine fQ (λe1=>?_) (λe1=>?_)
  .exact wpS_pure ⟨hS,.inl ⟨_,rfl,qc.p.done (Zx (Zx x1)) (by lia),qc.done G.sa G.sb (Zx (Zx x1)) (by lia) (.inr (by simpa using e1))⟩⟩
  .have pV:ib+1<b.size:=by have:=bne e1;exact aad x2 (pG e1)
   refine fQ (λ_=>?_) (λ_=>?_)
   .exact wpS_pure ⟨hS,.inr ⟨_,_,_,_,_,rfl,qc,x1,pV,(abk x3)⟩⟩
   .exact wpS_pure ⟨hS,_,_,_,_,_,rfl,qc,x1,pV,(abk x3)⟩
 |false=>
  dsimp only
  rw[ZW Zz]
  refine wpS_bind (br oz ?_)
  have qc:=hP.ox G.sa oz (qb G.O G.sb x2 bw)
  refine fQ (λe1=>?_) (λe1=>?_)
  .exact wpS_pure ⟨hS,.inl ⟨_,rfl,qc.p.last (by lia) (Zx x2),qc.last G.sa G.sb (by lia) (Zx x2) (dh _ (by simpa using e1))⟩⟩
  .have pV:ia+1+1<a.size:=by have:=bne e1;exact aad x1 (pG e1)
   refine fQ (λ_=>?_) (λ_=>?_)
   .exact wpS_pure ⟨hS,.inr ⟨_,_,_,_,_,rfl,qc,pV,x2,(nu (Z8 _ _ _) (abk x3))⟩⟩
   .exact wpS_pure ⟨hS,_,_,_,_,_,rfl,qc,pV,x2,(nu (Z8 _ _ _) (abk x3))⟩
def Ad(G:Mg prog w A E s κ P r a b zt)(dh:∀i,i+1=a.size->∀y∈b.toList,∀x∈a.toList.drop i,le r y x)(hS:Sm zt ak)(hP:Ms r a b out ia ib)(x1:ia+1<a.size)(x2:ib<b.size)(x3:K<=ia+ib)(hi:ia<a.size)(y5:∀x∈b.toList.drop ib,le r a[ia] x):
  wpS (model prog w) A E s (DI a b out ia ib g ac bc) (RJ r a b zt K) ak:=by
 unfold DI
 refine wpS_bind (br hi ?_)
 have DL:=hP.ox G.sa hi y5
 refine fQ (λe5=>?_) (λe5=>?_)
 .exact wpS_pure ⟨hS,.inl ⟨_,rfl,DL.p.last (by lia) (Zx x2),DL.last G.sa G.sb (by lia) (Zx x2) (dh _ (by simpa using e5))⟩⟩
 have M4:ia+1+1<a.size:=by have:=bne e5;exact aad x1 (pG e5)
 refine fQ (λ_=>?_) (λ_=>?_)
 .exact wpS_pure ⟨hS,.inr ⟨_,_,_,_,_,_,rfl,DL,M4,x2,(nu (Z8 _ _ _) (abk x3))⟩⟩
 .exact wpS_pure ⟨hS,_,_,_,_,_,_,rfl,DL,M4,x2,(nu (Z8 _ _ _) (abk x3))⟩
def Ae(G:Mg prog w A E s κ P r a b zt)(dh:∀i,i+1=a.size->∀y∈b.toList,∀x∈a.toList.drop i,le r y x)(hS:Sm zt ak)(hP:Ms r a b out ia ib)(x1:ia+1<a.size)(x2:ib<b.size)(x3:K<=ia+ib)(y3:∀x∈a.toList.drop ia,le r b[ib] x):
  wpS (model prog w) A E s (DJ a b out ia ib g ac bc) (RJ r a b zt (K+1)) ak:=by
 unfold DJ
 refine wpS_bind (br x2 ?_)
 have DM:=hP.oy G.sb x2 y3
 refine fQ (λe3=>?_) (λe3=>?_)
 .exact wpS_pure ⟨hS,.inl ⟨_,rfl,DM.p.done (Zx (Zx x1)) (by lia),DM.done G.sa G.sb (Zx (Zx x1)) (by lia) (.inr (by simpa using e3))⟩⟩
 have M5:ib+1<b.size:=by have:=bne e3;exact aad x2 (pG e3)
 have iT:ia<a.size:=(Zx x1)
 refine wpS_bind (br iT (wpS_bind (G.gB iT hS M5 λkk M6 g1 g2=>?_)))
 dsimp only
 refine fQ (λM7=>?_) (λM7=>?_)
 .have DN:=DM.p9 G.sb g1
  refine fQ (λe4=>?_) (λe4=>?_)
  .exact wpS_pure ⟨hS,.inl ⟨_,rfl,DN.p.done (Zx (Zx x1)) (by lia),DN.done G.sa G.sb (Zx (Zx x1)) (by lia) (.inr (by simpa using e4))⟩⟩
  exact Ad G dh hS DN x1 (by have:=bne e4;exact LF M6 M7 e4) (by lia) iT g2
 .exact Ad G dh hS DM x1 M5 (aaj x3) iT (by rw[show ib+1=ib+1+kk by lia];exact g2)
def Af(G:Mg prog w A E s κ P r a b zt)(dh:∀i,i+1=a.size->∀y∈b.toList,∀x∈a.toList.drop i,le r y x)(hS:Sm zt ak)(h:Lo r a b K out ia ib):wpS (model prog w) A E s (DK a b out ia ib ac bc g) (RJ r a b zt (K+1)) ak:=by
 have hP:=h.m
 have x1:=h.x1
 have x2:=h.x2
 have x3:=h.x3
 unfold DK bf
 refine wpS_bind (wpS_modify ?_)
 refine wpS_bind (br x2 (wpS_bind (G.gA x2 hS.setG (Zx x1) λk vD k1 k2=>?_)))
 dsimp only
 refine fQ (λM8=>?_) (λM8=>?_)
 .have DO:=hP.p_ G.sa k1
  refine fQ (λe1=>?_) (λe1=>?_)
  .exact wpS_pure ⟨hS.setG,.inl ⟨_,rfl,DO.p.last (by lia) (Zx x2),DO.last G.sa G.sb (by lia) (Zx x2) (dh _ (by simpa using e1))⟩⟩
  refine fQ (λe2=>?_) (λe2=>?_)
  .exact wpS_pure ⟨hS.setG,.inl ⟨_,rfl,DO.p.done (by lia) (Zx x2),DO.done G.sa G.sb (by lia) (Zx x2) (.inl (by simpa using e2))⟩⟩
  exact Ae G dh hS.setG DO (by have:=bne e1;have:=bne e2;exact aad (LF vD M8 e2) (pG e1)) x2 (nu (Z8 _ _ _) (Nat.le_add_right_of_le x3)) k2
 .exact Ae G dh hS.setG hP x1 x2 x3 (by rw[show ia=ia+k by lia];exact k2)
def M9(G:Mg prog w A E s κ P r a b zt)(dh:∀i,i+1=a.size->∀y∈b.toList,∀x∈a.toList.drop i,le r y x)(hS:Sm zt ak)(h:Lo r a b K out ia ib):wpS (model prog w) A E s (U1 a b out ia ib g ac bc) (RJ r a b zt (K+1)) ak:=
 fQ (λ_=>Af G dh hS h) λ_=>Af G dh hS h
def Lo.less(h:Lo r a b (K+1) out ia ib):Lo r a b K out ia ib:=⟨h.m,h.x1,h.x2,by have:=h.x3;exact Zx this⟩
abbrev R5(r:Keyed->Keyed->Bool)(a b:Array Keyed)(zt:SortSt)(K:Nat)(x:ForInStep T5)(ak:SortSt):Prop:=match x with
 | .done c=>Q1 r a b zt c ak
 | .yield c=>U0 r a b zt K c ak
def M_(h:Qq r a b (Lc r a b K) zt u ak):wpS (model prog w) A E s (R_ a b g u) (R5 r a b zt K) ak:=by
 obtain⟨c,d⟩:=u
 obtain⟨hS,⟨o,hc,hr⟩|⟨out,ia,ib,g',n,m,hc,hL⟩⟩:=h
 .have kY:c=some o:=hc
  subst kY
  exact wpS_pure ⟨hS,o,rfl,hr⟩
 .cases hc
  unfold R_ bf
  exact wpS_bind (wpS_modify (wpS_pure ⟨hS.setG,_,_,_,_,rfl,hL⟩))
def M'(G:Mg prog w A E s κ P r a b zt)(dh:∀i,i+1=a.size->∀y∈b.toList,∀x∈a.toList.drop i,le r y x)(rS:1<=a.size+b.size)(h:Qq r a b (M0 r a b K) zt t ak):wpS (model prog w) A E s (Sa a b g t) (R5 r a b zt (K+1)) ak:=by
 obtain⟨c,d⟩:=t
 obtain⟨hS,⟨o,hc,hr⟩|⟨out,ia,ib,n,m,hc,hL⟩⟩:=h
 .have kY:c=some o:=hc
  subst kY
  exact wpS_pure ⟨hS,o,rfl,hr⟩
 .cases hc
  unfold Sa
  refine wpS_bind (wpS_lift (acs ⟨rfl,?_⟩))
  refine wpS_bind (wpS_mono (wpS_forRange
   (I:=λj=>match j with|0=>Pq (Lc r a b K) zt|_+1=>Pq (Lc r a b (K+1)) zt)
   (Q:=Qq r a b (Lc r a b (K+1)) zt) ?step ?fin ⟨hS,_,_,_,_,_,_,rfl,hL⟩) λu cu h2=>M_ h2)
  case fin=>
   intro c cu h2
   rw[show max 0 (a.size+b.size)=(a.size+b.size-1)+1 by exact aaa (aaL rS)]at h2
   exact⟨h2.1,.inr h2.2⟩
  case step=>
   intro j c cu _ _ h2
   have h3:Sm zt cu/\∃out ia ib g n m,c=(none,out,ia,ib,g,n,m)/\Lo r a b K out ia ib:=by
    cases j with
    |zero=>exact h2
    |succ j=>
     obtain⟨z1,out,ia,ib,g,n,m,z2,z3⟩:=h2
     exact⟨z1,out,ia,ib,g,n,m,z2,z3.less⟩
   obtain⟨z1,out,ia,ib,g,n,m,rfl,z3⟩:=h3
   exact wpS_mono (M9 G dh z1 z3) λx _ h=>by cases x<;>exact h
def Na(G:Mg prog w A E s κ P r a b zt)(dh:∀i,i+1=a.size->∀y∈b.toList,∀x∈a.toList.drop i,le r y x)(rS:1<=a.size+b.size)(hS:Sm zt ak)(h:Lo r a b K out ia ib):wpS (model prog w) A E s (Sb a b out ia ib g) (R5 r a b zt (K+1)) ak:=by
 unfold Sb
 refine wpS_bind (wpS_mono (wpS_forRange (I:=λ_=>Pq (M0 r a b K) zt) (Q:=Qq r a b (M0 r a b K) zt) ?step (λc cu h2=>⟨h2.1,.inr h2.2⟩) ⟨hS,_,_,_,_,_,rfl,h⟩) λt cu h2=>M' G dh rS h2)
 intro _ c cu _ _ h2
 obtain⟨z1,out,ia,ib,n,m,rfl,z3⟩:=h2
 exact wpS_mono (M3 G dh z1 z3) λx _ h=>by cases x<;>exact h
end
def xS(L:kS prog w A E s κ P r)(O:Ord r)(hk:kindOf zt=κ)(ha:∀x∈a,P x)(hb:∀x∈b,P x)(h1:1<=a.size)(h2:1<=b.size)
  (sa:a.toList.Pairwise (le r)) (sb:b.toList.Pairwise (le r)) (first:∀y∈a.toList,le r b[0] y) (final:∀y∈b.toList,∀x∈a.toList.drop (a.size-1),le r y x)
  (q:∀out ak,out.toList.Perm (a.toList++b.toList)->out.toList.Pairwise (le r)->Sm zt ak->Q out ak):wpS (model prog w) A E s (l_ a b) Q zt:=by
 have dh:∀i,i+1=a.size->∀y∈b.toList,∀x∈a.toList.drop i,le r y x:=λi hi=>by rw[show i=a.size-1 by exact Nat.eq_sub_of_add_eq hi];exact final
 have G:Mg prog w A E s κ P r a b zt:=⟨L,O,hk,ha,hb,sa,sb⟩
 rw[M1]
 refine wpS_bind (wpS_lift (acs ⟨rfl,?_⟩))
 refine wpS_bind (br (h2) ?_)
 have p0:Ms r a b #[b[0]] 0 1:=by
  have:Ms r a b #[] 0 0:=⟨by unfold Pt;simp,by simp,by simp,by simp⟩
  exact this.oy sb (h2) first
 refine fQ (λc1=>?_) (λc1=>?_)
 .exact wpS_pure (q _ _ (p0.p.done (aab _) h2) (p0.done sa sb (aab _) h2 (.inr (by simpa using c1))) .rfl')
 have yS:1<b.size:=by have:=bne c1;exact aad h2 (pG c1)
 refine fQ (λc2=>?_) (λc2=>?_)
 .exact wpS_pure (q _ _ (p0.p.last (aab _) h2) (p0.last sa sb (aab _) h2 (dh 0 (by simpa using c2))) .rfl')
 have xT:0+1<a.size:=by have:=bne c2;exact aad h1 (pG c2)
 refine wpS_bind (wpS_get ?_)
 refine wpS_bind (wpS_mono (wpS_forRange (I:=λi=>U0 r a b zt (i+1)) (Q:=Q1 r a b zt) ?step ?fin ⟨.rfl',_,_,_,_,rfl,p0,xT,yS,ZG _⟩) ?post)
 case post=>
  rintro⟨c,d⟩ ak ⟨hS,o,hc,hr,Sd⟩
  have kY:c=some o:=hc
  subst kY
  exact wpS_pure (q o ak hr Sd hS)
 case fin=>
  rintro c ak ⟨_,out,ia,ib,g,_,_,x1,x2,x3⟩
  lia
 case step=>
  rintro i c eC _ _ ⟨Se,out,ia,ib,g,rfl,hL⟩
  exact wpS_mono (Na G dh (acq _ h1) Se hL) λx _ h=>by cases x<;>exact h
end
structure Mh(r:Keyed->Keyed->Bool)(a b out:Array Keyed)(i j:Nat):Prop where
 p:Ph a b out i j
 s:out.toList.Pairwise λx y=>le r y x
 ta:∀x∈out.toList,∀y∈a.toList.take i,le r y x
 tb:∀x∈out.toList,∀y∈b.toList.take j,le r y x
section
variable {r:Keyed->Keyed->Bool}{a b out:Array Keyed}{i j k:Nat}
def i8(a:Array Keyed)(k i:Nat):(a.extract k i).toList =(a.toList.take i).drop k:=by
 rw[abD]
 unfold List.extract
 rw[List.drop_take]
def rV(a:Array Keyed)(h:k<=i):a.toList.take i=a.toList.take k++(a.toList.take i).drop k:=by
 have:=(acz k (a.toList.take i)).symm
 rwa [afm,aaQ h]at this
theorem Mh.p_(h:Mh r a b out i j)(sa:a.toList.Pairwise (le r))(hk:k<=i)(hi:i<=a.size)(hb:∀x∈(a.toList.take i).drop k,∀y∈b.toList.take j,le r y x):Mh r a b (out++(a.extract k i).reverse) k j:=by
 have sd:(a.toList.take i).Pairwise (le r):=sa.sublist (abj _ _)
 have e:=rV a hk
 rw[e,aae]at sd
 refine cy sd λp1 p2 p3=>?_
 have MX:∀x∈out.toList,∀y∈a.toList.take k++(a.toList.take i).drop k,le r y x:=λx hx y hy=>h.ta x hx y (by rw[e];exact hy)
 have el:(out++(a.extract k i).reverse).toList =out.toList++((a.toList.take i).drop k).reverse :=by rw[ZS,aaU,i8]
 refine⟨h.p.p_ hk hi,?_,λx hx y hy=>?_,λx hx y hy=>?_⟩
 .rw[el,aae]
  exact⟨h.s,acA.mpr p2,λx hx y hy=>MX x hx y (ZV _ (aaR.mp hy))⟩
 .rw[el]at hx
  rcases ZZ.mp hx with z|z
  .exact MX x z y (Z7 _ hy)
  .exact p3 y hy x (aaR.mp z)
 .rw[el]at hx
  rcases ZZ.mp hx with z|z
  .exact h.tb x z y hy
  .exact hb x (aaR.mp z) y hy
theorem Mh.p9(h:Mh r a b out i j)(sb:b.toList.Pairwise (le r))(hk:k<=j)(hj:j<=b.size)(ha:∀x∈(b.toList.take j).drop k,∀y∈a.toList.take i,le r y x):Mh r a b (out++(b.extract k j).reverse) i k:=by
 have sd:(b.toList.take j).Pairwise (le r):=sb.sublist (abj _ _)
 have e:=rV b hk
 rw[e,aae]at sd
 refine cy sd λp1 p2 p3=>?_
 have MY:∀x∈out.toList,∀y∈b.toList.take k++(b.toList.take j).drop k,le r y x:=λx hx y hy=>h.tb x hx y (by rw[e];exact hy)
 have el:(out++(b.extract k j).reverse).toList =out.toList++((b.toList.take j).drop k).reverse :=by rw[ZS,aaU,i8]
 refine⟨h.p.p9 hk hj,?_,λx hx y hy=>?_,λx hx y hy=>?_⟩
 .rw[el,aae]
  exact⟨h.s,acA.mpr p2,λx hx y hy=>MY x hx y (ZV _ (aaR.mp hy))⟩
 .rw[el]at hx
  rcases ZZ.mp hx with z|z
  .exact h.ta x z y hy
  .exact ha x (aaR.mp z) y hy
 .rw[el]at hx
  rcases ZZ.mp hx with z|z
  .exact MY x z y (Z7 _ hy)
  .exact p3 y hy x (aaR.mp z)
def Mh.cg(h:Mh r a b out i j)(e:o.toList=out.toList):Mh r a b o i j:=⟨by unfold Ph;rw[e];exact h.p,by rw[e];exact h.s,λx hx=>h.ta x (by rw[<-e];exact hx),λx hx=>h.tb x (by rw[<-e];exact hx)⟩
def Mh.ox(h:Mh r a b out i j)(sa:a.toList.Pairwise (le r))(h1:1<=i)(hi:i-1<a.size)(hb:∀y∈b.toList.take j,le r y a[i-1]):Mh r a b (out.push a[i-1]) (i-1) j:=by
 refine(h.p_ (k:=i-1) sa (aaX _ _) (QG hi) λx hx=>?_).cg (by rw[ZS,aaU,i7 h1 hi,aeI,<-acd])
 rw[<-i8,i7 h1 hi,ZE]at hx
 rw[hx];exact hb
def Mh.oy(h:Mh r a b out i j)(sb:b.toList.Pairwise (le r))(h1:1<=j)(hj:j-1<b.size)(ha:∀y∈a.toList.take i,le r y b[j-1]):Mh r a b (out.push b[j-1]) i (j-1):=by
 refine(h.p9 (k:=j-1) sb (aaX _ _) (QG hj) λx hx=>?_).cg (by rw[ZS,aaU,i7 h1 hj,aeI,<-acd])
 rw[<-i8,i7 h1 hj,ZE]at hx
 rw[hx];exact ha
def vE(O:Ord r)(sa:a.toList.Pairwise (le r))(hi:i-1<a.size)(hx:le r a[i-1] x):∀y∈a.toList.take i,le r y x:=λy hy=>by
 obtain⟨m,hm,rfl⟩:=ack hy
 rw[abt,Z_]at hm
 rw[List.getElem_take]
 rcases aaM m (i-1)with z|z
 .refine O.trans ?_ hx
  have:=(abA.mp sa) m (i-1) (by simp;exact Zr z (Zx hi)) (by simp;exact hi) z
  simpa using this
 .have e:m=i-1:=(QL hm z)
  subst e
  simpa using hx
def Mh.done(h:Mh r a b out i j)(sa:a.toList.Pairwise (le r))(sb:b.toList.Pairwise (le r))(c:i=0\/j=0):((a.extract 0 i++b.extract 0 j)++out.reverse).toList.Pairwise (le r):=by
 rw[ZS,ZS,dJ,dJ,aaU,aae]
 refine⟨?_,acA.mpr h.s,λx hx y hy=>?_⟩
 .rcases c with rfl|rfl
  .rw[List.take_zero,adJ];exact sb.sublist (abj _ _)
  .rw[List.take_zero,aaK];exact sa.sublist (abj _ _)
 .rcases ZZ.mp hx with z|z
  .exact h.ta y (aaR.mp hy) x z
  .exact h.tb y (aaR.mp hy) x z
def Mh.first(h:Mh r a b out i j)(sa:a.toList.Pairwise (le r))(sb:b.toList.Pairwise (le r))(c:∀x∈b.toList.take j,∀y∈a.toList,le r x y):((b.extract 0 j++a.extract 0 i)++out.reverse).toList.Pairwise (le r):=by
 rw[ZS,ZS,dJ,dJ,aaU,aae]
 refine⟨?_,acA.mpr h.s,λx hx y hy=>?_⟩
 .rw[aae]
  exact⟨sb.sublist (abj _ _),sa.sublist (abj _ _),λx hx y hy=>c x hx y (abU hy)⟩
 .rcases ZZ.mp hx with z|z
  .exact h.tb y (aaR.mp hy) x z
  .exact h.ta y (aaR.mp hy) x z
end
section
variable {prog:Program}{w:World}{A:Around}{E:Value->Shared->Prop}{s:Shared}{κ:SortKind}{P:Keyed->Prop}{r:Keyed->Keyed->Bool}
structure Hi(r:Keyed->Keyed->Bool)(a b:Array Keyed)(k:Nat)(out:Array Keyed)(ia ib:Nat):Prop where
 m:Mh r a b out ia ib
 x1:1<=ia
 x2:ia<=a.size
 x3:2<=ib
 x4:ib<=b.size
 x5:k+ia+ib<=a.size+b.size
abbrev U2(r:Keyed->Keyed->Bool)(a b:Array Keyed)(k:Nat)(c:Option (Array Keyed)×Nat×Nat×Array Keyed×Nat):Prop:=∃ia ib out g,c=(none,ia,ib,out,g)/\Hi r a b k out ia ib
abbrev Nb(r:Keyed->Keyed->Bool)(a b:Array Keyed)(k:Nat)(c:Option (Array Keyed)×Nat×Nat×Array Keyed×Nat×Nat):Prop:=∃ia ib out n m,c=(none,ia,ib,out,n,m)/\Hi r a b k out ia ib
abbrev Ld(r:Keyed->Keyed->Bool)(a b:Array Keyed)(k:Nat)(c:Option (Array Keyed)×Nat×Nat×Array Keyed×Nat×Nat×Nat):Prop:=∃ia ib out g n m,c=(none,ia,ib,out,g,n,m)/\Hi r a b k out ia ib
abbrev U5:=Option (Array Keyed)×Nat×Nat×Array Keyed×Nat
abbrev U6:=Option (Array Keyed)×Nat×Nat×Array Keyed×Nat×Nat
abbrev U7:=Option (Array Keyed)×Nat×Nat×Array Keyed×Nat×Nat×Nat
noncomputable def Gu(a b out:Array Keyed)(na nb:Nat):Array Keyed:=(a.extract 0 na++b.extract 0 nb)++out.reverse
noncomputable def PQ(a b out:Array Keyed)(na nb:Nat):Array Keyed:=(b.extract 0 nb++a.extract 0 na)++out.reverse
noncomputable def Sf(a b:Array Keyed)(g na nb:Nat)(out:Array Keyed)(ac bc:Nat):SM (ForInStep U6):=do
 let some w<-lt' (<-elem' b (nb-1)) (<-elem' a (na-1))|return .done (some (Gu a b out na nb),na,nb,out,ac,bc)
 if w then
  let o:=out.push (<-elem' a (na-1))
  if na-1==0 then return .done (some (Gu a b o (na-1) nb),na-1,nb,o,ac+1,0)
  if ac+1 ≥ g then return .done (none,na-1,nb,o,ac+1,0)
  return .yield (none,na-1,nb,o,ac+1,0)
 else
  let o:=out.push (<-elem' b (nb-1))
  if nb-1==1 then return .done (some (PQ a b o na (nb-1)),na,nb-1,o,0,bc+1)
  if bc+1 ≥ g then return .done (none,na,nb-1,o,0,bc+1)
  return .yield (none,na,nb-1,o,0,bc+1)
noncomputable def DP(a b:Array Keyed)(na nb:Nat)(out:Array Keyed)(g ac bc:Nat):SM (ForInStep U7):=do
 let o:=out.push (<-elem' a (na-1))
 if na-1==0 then return .done (some (Gu a b o (na-1) nb),na-1,nb,o,g,ac,bc)
 if ac<7&&bc<7 then return .done (none,na-1,nb,o,g,ac,bc)
 return .yield (none,na-1,nb,o,g,ac,bc)
noncomputable def DQ(a b:Array Keyed)(na nb:Nat)(out:Array Keyed)(g ac bc:Nat):SM (ForInStep U7):=do
 let o:=out.push (<-elem' b (nb-1))
 if nb-1==1 then return .done (some (PQ a b o na (nb-1)),na,nb-1,o,g,ac,bc)
 let some k<-bY true (<-elem' a (na-1)) b 0 (nb-1) (nb-1-1)|return .done (some (Gu a b o na (nb-1)),na,nb-1,o,g,ac,bc)
 if nb-1-k>0 then
  let o:=o++(b.extract k (nb-1)).reverse
  if k==1 then return .done (some (PQ a b o na k),na,k,o,g,ac,nb-1-k)
  if k==0 then return .done (some (Gu a b o na k),na,k,o,g,ac,nb-1-k)
  DP a b na k o g ac (nb-1-k)
 else DP a b na (nb-1) o g ac (nb-1-k)
noncomputable def DR(a b:Array Keyed)(na nb:Nat)(out:Array Keyed)(ac bc g:Nat):SM (ForInStep U7):=do
 bf g
 let some k<-bY false (<-elem' b (nb-1)) a 0 na (na-1)|return .done (some (Gu a b out na nb),na,nb,out,g,ac,bc)
 if na-k>0 then
  let o:=out++(a.extract k na).reverse
  if k==0 then return .done (some (Gu a b o k nb),k,nb,o,g,na-k,bc)
  DQ a b k nb o g (na-k) bc
 else DQ a b na nb out g (na-k) bc
noncomputable def U3(a b:Array Keyed)(na nb:Nat)(out:Array Keyed)(g ac bc:Nat):SM (ForInStep U7):=if g>1 then DR a b na nb out ac bc (g-1) else DR a b na nb out ac bc g
noncomputable def Sg(u:U7):SM (ForInStep U5):=
 match u.1 with
 |some r=>pure (.done (some r,u.2.1,u.2.2.1,u.2.2.2.1,u.2.2.2.2.1))
 |none=>do
  bf (u.2.2.2.2.1+1)
  pure (.yield (none,u.2.1,u.2.2.1,u.2.2.2.1,u.2.2.2.2.1+1))
noncomputable def Sh(a b:Array Keyed)(g:Nat)(t:U6):SM (ForInStep U5):=
 match t.1 with
 |some r=>pure (.done (some r,t.2.1,t.2.2.1,t.2.2.2.1,g))
 |none=>do
  rule "list.sort.gallop"
  let u<-forIn [0:a.size+b.size] ((none,t.2.1,t.2.2.1,t.2.2.2.1,g+1,t.2.2.2.2.1,t.2.2.2.2.2):U7) λ_ u=>U3 a b u.2.1 u.2.2.1 u.2.2.2.1 u.2.2.2.2.1 u.2.2.2.2.2.1 u.2.2.2.2.2.2
  Sg u
noncomputable def Si(a b:Array Keyed)(na nb:Nat)(out:Array Keyed)(g:Nat):SM (ForInStep U5):=do
 let t<-forIn [0:a.size+b.size] ((none,na,nb,out,0,0):U6) λ_ t=>Sf a b g t.2.1 t.2.2.1 t.2.2.2.1 t.2.2.2.2.1 t.2.2.2.2.2
 Sh a b g t
def Nc(a b:Array Keyed):ma a b=(do
  rule "list.sort.merge-hi"
  let x<-elem' a (a.size-1)
  if a.size-1==0 then return Gu a b #[x] (a.size-1) b.size
  if b.size==1 then return PQ a b #[x] (a.size-1) b.size
  let g:=gallopOf (<-get)
  let s<-forIn [0:a.size+b.size] ((none,a.size-1,b.size,#[x],g):U5) λ_ s=>Si a b s.2.1 s.2.2.1 s.2.2.2.1 s.2.2.2.2
  match s.1 with
  |some r=>pure r
  |none=>unsupported "internal:list.sort.merge-bound"):=by kernel_rfl
def Mg.hA(G:Mg prog w A E s κ P r a b zt)(uu:ib-1<b.size)(hS:Sm zt ak)(oz:1<=ia)(Sj:ia<=a.size)(hq:∀k,k<=ia->(∀x∈(a.toList.take ia).drop k,∀y∈b.toList.take ib,le r y x)->(∀y∈a.toList.take k,le r y b[ib-1])->Q' (some k) ak):
  wpS (model prog w) A E s (bY false b[ib-1] a 0 ia (ia-1)) Q' ak:=by
 have e:sg a 0 ia=a.toList.take ia:=by unfold sg;rw[acK]
 refine cD G.L G.O (hS.k.trans G.hk) (G.hb _ (aaB _)) G.ha (aff Sj (aab _)) (acr oz (by decide)) (by rw[e];exact G.sa.sublist (abj _ _)) λk hk g1 g2=>hq k hk (λx hx=>?_) (λx hx=>?_)
 .have:=g2 x (by rw[e];exact hx)
  unfold ur at this
  have h':r b[ib-1] x=true:=by simpa using this
  exact vE G.O G.sb uu (G.O.of_lt h')
 .have:=g1 x (by rw[e,afm,aaQ hk];exact hx)
  unfold ur at this
  simpa[le]using this
def Mg.hB(G:Mg prog w A E s κ P r a b zt)(oz:ia-1<a.size)(hS:Sm zt ak)(uu:1<=ib)(Sl:ib<=b.size)(hq:∀k,k<=ib->(∀x∈(b.toList.take ib).drop k,∀y∈a.toList.take ia,le r y x)->(∀y∈b.toList.take k,le r y a[ia-1])->Q' (some k) ak):
  wpS (model prog w) A E s (bY true a[ia-1] b 0 ib (ib-1)) Q' ak:=by
 have e:sg b 0 ib=b.toList.take ib:=by unfold sg;rw[acK]
 refine cD G.L G.O (hS.k.trans G.hk) (G.ha _ (aaB _)) G.hb (aff Sl (aab _)) (acr uu (by decide)) (by rw[e];exact G.sb.sublist (abj _ _)) λk hk g1 g2=>hq k hk (λx hx=>?_) (λx hx=>?_)
 .exact vE G.O G.sa oz (g2 x (by rw[e];exact hx))
 .exact G.O.of_lt (g1 x (by rw[e,afm,aaQ hk];exact hx))
abbrev HI(r:Keyed->Keyed->Bool)(a b:Array Keyed)(zt:SortSt)(K:Nat)(x:ForInStep U6)(ak:SortSt):Prop:=match x with
 | .done c=>Qq r a b (Nb r a b K) zt c ak
 | .yield c=>Pq (Nb r a b K) zt c ak
abbrev HJ(r:Keyed->Keyed->Bool)(a b:Array Keyed)(zt:SortSt)(K:Nat)(x:ForInStep U7)(ak:SortSt):Prop:=match x with
 | .done c=>Qq r a b (Ld r a b K) zt c ak
 | .yield c=>Pq (Ld r a b K) zt c ak
abbrev H5(r:Keyed->Keyed->Bool)(a b:Array Keyed)(zt:SortSt)(K:Nat)(x:ForInStep U5)(ak:SortSt):Prop:=match x with
 | .done c=>Q1 r a b zt c ak
 | .yield c=>Pq (U2 r a b K) zt c ak
section
variable {a b out:Array Keyed}{zt ak:SortSt}{ia ib g ac bc K:Nat}
def Nd(G:Mg prog w A E s κ P r a b zt)(fS:∀j,j=1->∀x∈b.toList.take j,∀y∈a.toList,le r x y)(hS:Sm zt ak)(h:Hi r a b K out ia ib):wpS (model prog w) A E s (Sf a b g ia ib out ac bc) (HI r a b zt K) ak:=by
 have hP:=h.m
 have x1:=h.x1
 have x2:=h.x2
 have x3:=h.x3
 have x4:=h.x4
 have x5:=h.x5
 have uu:ib-1<b.size:=(acJ (Zx x3) x4)
 have oz:ia-1<a.size:=(acJ x1 x2)
 unfold Sf
 refine wpS_bind (br uu (wpS_bind (br oz (wpS_bind (G.L _ _ _ _ (G.hb _ (aaB _)) (G.ha _ (aaB _)) (hS.k.trans G.hk) ?_)))))
 cases bw:r b[ib-1] a[ia-1]with
 |true=>
  dsimp only
  rw[ZM rfl]
  refine wpS_bind (br oz ?_)
  have qc:=hP.ox G.sa x1 oz (vE G.O G.sb uu (G.O.of_lt bw))
  refine fQ (λe1=>?_) (λe1=>?_)
  .exact wpS_pure ⟨hS,.inl ⟨_,rfl,qc.p.done,qc.done G.sa G.sb (.inl (by simpa using e1))⟩⟩
  .have pV:1<=ia-1:=by have:=bne e1;exact abe (pG e1)
   refine fQ (λ_=>?_) (λ_=>?_)
   .exact wpS_pure ⟨hS,.inr ⟨_,_,_,_,_,rfl,qc,pV,(Zx oz),x3,x4,by lia⟩⟩
   .exact wpS_pure ⟨hS,_,_,_,_,_,rfl,qc,pV,(Zx oz),x3,x4,by lia⟩
 |false=>
  dsimp only
  rw[ZW Zz]
  refine wpS_bind (br uu ?_)
  have qc:=hP.oy G.sb (show 1<=ib by exact Zx x3) uu (vE G.O G.sa oz bw)
  refine fQ (λe1=>?_) (λe1=>?_)
  .exact wpS_pure ⟨hS,.inl ⟨_,rfl,qc.p.first,qc.first G.sa G.sb (fS _ (by simpa using e1))⟩⟩
  .have pV:2<=ib-1:=by have:=bne e1;exact aad (afg x3) (aaH (pG e1))
   refine fQ (λ_=>?_) (λ_=>?_)
   .exact wpS_pure ⟨hS,.inr ⟨_,_,_,_,_,rfl,qc,x1,x2,pV,(Zx uu),(qN x5 (ZP (aaX _ _) _))⟩⟩
   .exact wpS_pure ⟨hS,_,_,_,_,_,rfl,qc,x1,x2,pV,(Zx uu),(qN x5 (ZP (aaX _ _) _))⟩
def Ag(G:Mg prog w A E s κ P r a b zt)(hS:Sm zt ak)(hP:Mh r a b out ia ib)(x1:1<=ia)(x2:ia<=a.size)(x3:2<=ib)(x4:ib<=b.size)(x5:K+(ia-1)+ib<=a.size+b.size)(DS:ia-1<a.size)(y7:∀y∈b.toList.take ib,le r y a[ia-1]):
  wpS (model prog w) A E s (DP a b ia ib out g ac bc) (HJ r a b zt K) ak:=by
 unfold DP
 refine wpS_bind (br DS ?_)
 have DL:=hP.ox G.sa x1 DS y7
 refine fQ (λe5=>?_) (λe5=>?_)
 .exact wpS_pure ⟨hS,.inl ⟨_,rfl,DL.p.done,DL.done G.sa G.sb (.inl (by simpa using e5))⟩⟩
 have M4:1<=ia-1:=by have:=bne e5;exact abe (pG e5)
 refine fQ (λ_=>?_) (λ_=>?_)
 .exact wpS_pure ⟨hS,.inr ⟨_,_,_,_,_,_,rfl,DL,M4,(Zx DS),x3,x4,x5⟩⟩
 .exact wpS_pure ⟨hS,_,_,_,_,_,_,rfl,DL,M4,(Zx DS),x3,x4,x5⟩
def Ah(G:Mg prog w A E s κ P r a b zt)(fS:∀j,j=1->∀x∈b.toList.take j,∀y∈a.toList,le r x y)(hS:Sm zt ak)(hP:Mh r a b out ia ib)(x1:1<=ia)(x2:ia<=a.size)(x3:2<=ib)(x4:ib<=b.size)(x5:K+ia+ib<=a.size+b.size)(Ai:ib-1<b.size)(y6:∀y∈a.toList.take ia,le r y b[ib-1]):
  wpS (model prog w) A E s (DQ a b ia ib out g ac bc) (HJ r a b zt (K+1)) ak:=by
 unfold DQ
 refine wpS_bind (br Ai ?_)
 have DM:=hP.oy G.sb (show 1<=ib by exact Zx x3) Ai y6
 refine fQ (λe3=>?_) (λe3=>?_)
 .exact wpS_pure ⟨hS,.inl ⟨_,rfl,DM.p.first,DM.first G.sa G.sb (fS _ (by simpa using e3))⟩⟩
 have M5:2<=ib-1:=by have:=bne e3;exact aad (afg x3) (aaH (pG e3))
 have DS:ia-1<a.size:=(acJ x1 x2)
 refine wpS_bind (br DS (wpS_bind (G.hB DS hS (Zx M5) (Zx Ai) λk M6 g1 g2=>?_)))
 dsimp only
 refine fQ (λM7=>?_) (λM7=>?_)
 .have DN:=DM.p9 (k:=k) G.sb M6 (Zx Ai) g1
  refine fQ (λe4=>?_) (λe4=>?_)
  .exact wpS_pure ⟨hS,.inl ⟨_,rfl,DN.p.first,DN.first G.sa G.sb (fS _ (by simpa using e4))⟩⟩
  refine fQ (λe6=>?_) (λe6=>?_)
  .exact wpS_pure ⟨hS,.inl ⟨_,rfl,DN.p.done,DN.done G.sa G.sb (.inr (by simpa using e6))⟩⟩
  exact Ag G hS DN x1 x2 (by have:=bne e4;have:=bne e6;exact aad (abe (pG e6)) (aaH (pG e4))) (Zw M6 (Zx Ai)) (by lia) DS g2
 .exact Ag G hS DM x1 x2 M5 (Zx Ai) (by exact QO x1 x5 (aaX _ _)) DS (by rw[show ib-1=k by exact UH M6 M7];exact g2)
def Aj(G:Mg prog w A E s κ P r a b zt)(fS:∀j,j=1->∀x∈b.toList.take j,∀y∈a.toList,le r x y)(hS:Sm zt ak)(h:Hi r a b K out ia ib):wpS (model prog w) A E s (DR a b ia ib out ac bc g) (HJ r a b zt (K+1)) ak:=by
 have hP:=h.m
 have x1:=h.x1
 have x2:=h.x2
 have x3:=h.x3
 have x4:=h.x4
 have x5:=h.x5
 have Ai:ib-1<b.size:=(acJ (Zx x3) x4)
 unfold DR bf
 refine wpS_bind (wpS_modify ?_)
 refine wpS_bind (br Ai (wpS_bind (G.hA Ai hS.setG x1 x2 λk vD k1 k2=>?_)))
 dsimp only
 refine fQ (λM8=>?_) (λM8=>?_)
 .have DO:=hP.p_ (k:=k) G.sa vD x2 k1
  refine fQ (λe1=>?_) (λe1=>?_)
  .exact wpS_pure ⟨hS.setG,.inl ⟨_,rfl,DO.p.done,DO.done G.sa G.sb (.inl (by simpa using e1))⟩⟩
  exact Ah G fS hS.setG DO (by have:=bne e1;exact abe (pG e1)) (by exact Zw vD x2) x3 x4 (qN x5 (abT (ZP vD _) _)) Ai k2
 .exact Ah G fS hS.setG hP x1 x2 x3 x4 x5 Ai (by rw[show ia=k by exact UH vD M8];exact k2)
def Nf(G:Mg prog w A E s κ P r a b zt)(fS:∀j,j=1->∀x∈b.toList.take j,∀y∈a.toList,le r x y)(hS:Sm zt ak)(h:Hi r a b K out ia ib):wpS (model prog w) A E s (U3 a b ia ib out g ac bc) (HJ r a b zt (K+1)) ak:=
 fQ (λ_=>Aj G fS hS h) λ_=>Aj G fS hS h
def Hi.less(h:Hi r a b (K+1) out ia ib):Hi r a b K out ia ib:=⟨h.m,h.x1,h.x2,h.x3,h.x4,by have:=h.x5;lia⟩
def Ng(h:Qq r a b (Ld r a b K) zt u ak):wpS (model prog w) A E s (Sg u) (H5 r a b zt K) ak:=by
 obtain⟨c,d⟩:=u
 obtain⟨hS,⟨o,hc,hr⟩|⟨ia,ib,out,g',n,m,hc,hL⟩⟩:=h
 .have kY:c=some o:=hc
  subst kY
  exact wpS_pure ⟨hS,o,rfl,hr⟩
 .cases hc
  unfold Sg bf
  exact wpS_bind (wpS_modify (wpS_pure ⟨hS.setG,_,_,_,_,rfl,hL⟩))
def Nh(G:Mg prog w A E s κ P r a b zt)(fS:∀j,j=1->∀x∈b.toList.take j,∀y∈a.toList,le r x y)(rS:1<=a.size+b.size)(h:Qq r a b (Nb r a b K) zt t ak):wpS (model prog w) A E s (Sh a b g t) (H5 r a b zt (K+1)) ak:=by
 obtain⟨c,d⟩:=t
 obtain⟨hS,⟨o,hc,hr⟩|⟨ia,ib,out,n,m,hc,hL⟩⟩:=h
 .have kY:c=some o:=hc
  subst kY
  exact wpS_pure ⟨hS,o,rfl,hr⟩
 .cases hc
  unfold Sh
  refine wpS_bind (wpS_lift (acs ⟨rfl,?_⟩))
  refine wpS_bind (wpS_mono (wpS_forRange
   (I:=λj=>match j with|0=>Pq (Ld r a b K) zt|_+1=>Pq (Ld r a b (K+1)) zt)
   (Q:=Qq r a b (Ld r a b (K+1)) zt) ?step ?fin ⟨hS,_,_,_,_,_,_,rfl,hL⟩) λu cu h2=>Ng h2)
  case fin=>
   intro c cu h2
   rw[show max 0 (a.size+b.size)=(a.size+b.size-1)+1 by exact aaa (aaL rS)]at h2
   exact⟨h2.1,.inr h2.2⟩
  case step=>
   intro j c cu _ _ h2
   have h3:Sm zt cu/\∃ia ib out g n m,c=(none,ia,ib,out,g,n,m)/\Hi r a b K out ia ib:=by
    cases j with
    |zero=>exact h2
    |succ j=>
     obtain⟨z1,ia,ib,out,g,n,m,z2,z3⟩:=h2
     exact⟨z1,ia,ib,out,g,n,m,z2,z3.less⟩
   obtain⟨z1,ia,ib,out,g,n,m,rfl,z3⟩:=h3
   exact wpS_mono (Nf G fS z1 z3) λx _ h=>by cases x<;>exact h
def Ni(G:Mg prog w A E s κ P r a b zt)(fS:∀j,j=1->∀x∈b.toList.take j,∀y∈a.toList,le r x y)(rS:1<=a.size+b.size)(hS:Sm zt ak)(h:Hi r a b K out ia ib):wpS (model prog w) A E s (Si a b ia ib out g) (H5 r a b zt (K+1)) ak:=by
 unfold Si
 refine wpS_bind (wpS_mono (wpS_forRange (I:=λ_=>Pq (Nb r a b K) zt) (Q:=Qq r a b (Nb r a b K) zt) ?step (λc cu h2=>⟨h2.1,.inr h2.2⟩) ⟨hS,_,_,_,_,_,rfl,h⟩) λt cu h2=>Nh G fS rS h2)
 intro _ c cu _ _ h2
 obtain⟨z1,ia,ib,out,n,m,rfl,z3⟩:=h2
 exact wpS_mono (Nd G fS z1 z3) λx _ h=>by cases x<;>exact h
end
def xU(L:kS prog w A E s κ P r)(O:Ord r)(hk:kindOf zt=κ)(ha:∀x∈a,P x)(hb:∀x∈b,P x)(h1:1<=a.size)(h2:1<=b.size)
  (sa:a.toList.Pairwise (le r)) (sb:b.toList.Pairwise (le r)) (first:∀y∈a.toList,le r b[0] y) (final:∀y∈b.toList,∀x∈a.toList.drop (a.size-1),le r y x)
  (q:∀out ak,out.toList.Perm (a.toList++b.toList)->out.toList.Pairwise (le r)->Sm zt ak->Q out ak):wpS (model prog w) A E s (ma a b) Q zt:=by
 have fS:∀j,j=1->∀x∈b.toList.take j,∀y∈a.toList,le r x y:=λj hj x hx=>by
  subst hj
  have:=dJ b (i:=1)
  rw[<-this,gD (h2),ZE]at hx
  rw[hx];exact first
 have G:Mg prog w A E s κ P r a b zt:=⟨L,O,hk,ha,hb,sa,sb⟩
 rw[Nc]
 refine wpS_bind (wpS_lift (acs ⟨rfl,?_⟩))
 refine wpS_bind (br (show a.size-1<a.size by exact acr h1 (by decide)) ?_)
 have p0:Mh r a b #[a[a.size-1]] (a.size-1) b.size:=by
  have:Mh r a b #[] a.size b.size:=⟨by
   unfold Ph
   rw[aay (by simp),aay (by simp)]
   simp,by simp,by simp,by simp⟩
  refine this.ox sa h1 (acr h1 (by decide)) λy hy=>?_
  have iT:a.size-1<a.toList.length:=by simp;exact acr h1 (by decide)
  refine final y (abU hy) _ ?_
  rw[aaG iT]
  simp
 refine fQ (λc1=>?_) (λc1=>?_)
 .exact wpS_pure (q _ _ p0.p.done (p0.done sa sb (.inl (by simpa using c1))) .rfl')
 have yS:1<=a.size-1:=by have:=bne c1;exact abe (pG c1)
 refine fQ (λc2=>?_) (λc2=>?_)
 .exact wpS_pure (q _ _ p0.p.first (p0.first sa sb (fS _ (by simpa using c2))) .rfl')
 have xT:2<=b.size:=by have:=bne c2;exact aad h2 (aaH (pG c2))
 refine wpS_bind (wpS_get ?_)
 refine wpS_bind (wpS_mono (wpS_forRange (I:=λi=>Pq (U2 r a b (i+1)) zt) (Q:=Q1 r a b zt) ?step ?fin ⟨.rfl',_,_,_,_,rfl,p0,yS,(aaX _ _),xT,ZG _,by lia⟩) ?post)
 case post=>
  rintro⟨c,d⟩ ak ⟨hS,o,hc,hr,Sd⟩
  have kY:c=some o:=hc
  subst kY
  exact wpS_pure (q o ak hr Sd hS)
 case fin=>
  rintro c ak ⟨_,ia,ib,out,g,_,_,x1,x2,x3,x4,x5⟩
  lia
 case step=>
  rintro i c eC _ _ ⟨Se,ia,ib,out,g,rfl,hL⟩
  exact wpS_mono (Ni G fS (acq _ h1) Se hL) λx _ h=>by cases x<;>exact h
end
noncomputable def gt(xs:Array Keyed)(i:Nat):Keyed:=xs[i]?.getD (.none,.none)
def hJ(h:i<xs.size):gt xs i=xs[i]:=by unfold gt;rw[aak h];rfl
def So(r:Keyed->Keyed->Bool)(xs:Array Keyed)(lo hi:Nat):Prop:=∀i j,lo<=i->i<=j->j<hi->le r (gt xs i) (gt xs j)
def De(r:Keyed->Keyed->Bool)(xs:Array Keyed)(lo hi:Nat):Prop:=∀i j,lo<=i->i<=j->j<hi->le r (gt xs j) (gt xs i)
def gE(hj:j<=xs.size)(k:Nat):gt (mirror xs i j ((j-i)/2)) k=if i<=k/\k<j then gt xs (i+j-1-k) else gt xs k:=by
 unfold gt
 rw[getElem?_mirror_all hj k]
 split<;>rfl
def jM(hs:gF<xs.size)(hd:d<=gF)(k:Nat):gt (bubble xs gF d) k=if k=gF-d then gt xs gF else if gF-d<k/\k<=gF then gt xs (k-1) else gt xs k:=by
 unfold gt
 rw[getElem?_bubble hs d hd k]
 split
 .rfl
 .split<;>rfl
structure At(zt ak:SortSt)(lo hi:Nat):Prop where
 a:Ar zt ak
 o:∀i,i<lo\/hi<=i->gt (arrOf ak) i=gt (arrOf zt) i
theorem At.rfl'{lo hi:Nat}:At zt zt lo hi:=⟨.rfl',λ_ _=>rfl⟩
theorem At.trans{lo hi:Nat}(h:At zt ak lo hi)(h':At ak Sn lo hi):At zt Sn lo hi:=
 ⟨⟨h'.a.k.trans h.a.k,h'.a.a.trans h.a.a,h'.a.p.trans h.a.p,h'.a.f.trans h.a.f⟩,λi hi=>(h'.o i hi).trans (h.o i hi)⟩
theorem At.mirror{lo hi i j:Nat}(hj:j<=(arrOf zt).size)(h1:lo<=i)(h2:j<=hi):At zt (setArr zt (mirror (arrOf zt) i j ((j-i)/2))) lo hi:=
 ⟨(Ar.rfl').set (mirror_perm _ _ _ _),λk hk=>by
  show gt (PyProof.Rows.mirror (arrOf zt) i j ((j-i)/2)) k=_
  rw[gE hj,ZW (by lia)]⟩
theorem At.bubble{lo hi gF d:Nat}(hs:gF<(arrOf zt).size)(hd:d<=gF)(h1:lo<=gF-d)(h2:gF<hi):At zt (setArr zt (bubble (arrOf zt) gF d)) lo hi:=
 ⟨(Ar.rfl').set (bubble_perm _ _ _),λk hk=>by
  show gt (PyProof.Rows.bubble (arrOf zt) gF d) k=_
  rw[jM hs hd,ZW (by lia),ZW (by lia)]⟩
section
variable {prog:Program}{w:World}{A:Around}{E:Value->Shared->Prop}{s:Shared}{κ:SortKind}{P:Keyed->Prop}{r:Keyed->Keyed->Bool}
def jO(L:kS prog w A E s κ P r)(hk:kindOf zt=κ)(hp:∀x∈arrOf zt,P x)(hi:i<(arrOf zt).size)(hj:j<(arrOf zt).size)(q:Q (some (r (gt (arrOf zt) i) (gt (arrOf zt) j))) zt):wpS (model prog w) A E s (ltAt' i j) Q zt:=by
 rw[hJ hi,hJ hj]at q
 rw[ltAt'_eq]
 exact wpS_bind (wpS_get (wpS_bind (br hi (wpS_bind (br hj (L _ _ _ _ (hp _ (aaB _)) (hp _ (aaB _)) hk q))))))
def Ak(h:l<u):(l+u)/2<u:=Nat.div_lt_of_lt_mul (by rw[Nat.two_mul];exact afh h u)
def Nj(h:l<u):l<=(l+u)/2:=(Nat.le_div_iff_mul_le afF).mpr (by rw[Nat.mul_two];exact ZP (Zx h) l)
def Sr(h:l<u)(h2:u-l<=k-x):(l+u)/2-l<=k-(x+1):=by
 rw[adV]
 refine Zw ?_ (abV h2 1)
 rw[Nat.sub_right_comm]
 exact abV (aaI (Ak h)) l
def Ss(h:l<u)(h2:u-l<=k-x):u-((l+u)/2+1)<=k-(x+1):=by
 rw[adV,adV]
 exact abV (Zw (acj (Nj h) u) h2) 1
def qd{lo n ok:Nat}(L:kS prog w A E s κ P r)(O:Ord r)(hk:kindOf zt=κ)(hp:∀x∈arrOf zt,P x)(hz:lo+n<=(arrOf zt).size)(aI:ok<=n)(hs:So r (arrOf zt) lo (lo+ok))(q:∀ak,At zt ak lo (lo+n)->So r (arrOf ak) lo (lo+n)->Q true ak):wpS (model prog w) A E s (binarySort' lo n ok) Q zt:=by
 rw[binarySort'_eq]
 refine wpS_bind (wpS_mono (wpS_forRange (I:=λk c ak=>c=(none,())/\At zt ak lo (lo+n)/\So r (arrOf ak) lo (lo+min k n)) (Q:=λc ak=>c=(none,())/\At zt ak lo (lo+n)/\So r (arrOf ak) lo (lo+n)) ?_ ?_ ⟨rfl,.rfl',λi j h1 h2 h3=>?_⟩) ?_)
 .rintro k c eC k1 k2 ⟨rfl,a1,s1⟩
  rw[aaQ (Zx k2)]at s1
  have CH:lo+k<(arrOf eC).size :=by rw[a1.a.size];exact Zr (aas k2 lo) hz
  refine wpS_bind (wpS_mono (wpS_forRange (I:=λx c ak=>ak=eC/\∃l u,c=(none,l,u)/\l<=u/\u<=k/\u-l<=k-x/\(∀i,i<l->le r (gt (arrOf eC) (lo+i)) (gt (arrOf eC) (lo+k)))/\(∀i,u<=i->i<k->le r (gt (arrOf eC) (lo+k)) (gt (arrOf eC) (lo+i))))
   (Q:=λc ak=>ak=eC/\∃l u,c=(none,l,u)/\l<=k/\(∀i,i<l->le r (gt (arrOf eC) (lo+i)) (gt (arrOf eC) (lo+k)))/\(∀i,l<=i->i<k->le r (gt (arrOf eC) (lo+k)) (gt (arrOf eC) (lo+i)))) ?_ ?_ ⟨rfl,0,k,rfl,aab _,ZG _,ZG _,λi h=>absurd h (aaZ _),λi h1 h2=>absurd h2 (aej.mpr h1)⟩) ?_)
  .rintro x c cu _ hx ⟨rfl,l,u,rfl,z1,z2,z3,z4,z5⟩
   dsimp only
   refine fQ (λhl=>?_) (λhl=>?_)
   .exact wpS_pure ⟨rfl,l,u,rfl,Zw z1 z2,z4,λi h1 h2=>z5 i (Zw hl h1) h2⟩
   .have hl:=abO hl
    refine wpS_bind (jO L (a1.a.k.trans hk) (a1.a.all hp) CH (ZH (ZP (Zw (Zx (Ak hl)) z2) lo) CH) ?_)
    cases e:r (gt (arrOf cu) (lo+k)) (gt (arrOf cu) (lo+(l+u)/2))with
    |true=>exact wpS_pure ⟨rfl,l,_,rfl,Nj hl,Zw (Zx (Ak hl)) z2,Sr hl z3,z4,λi h1 h2=>O.trans (O.of_lt e) (s1 _ _ (ZU _ _) (ZP h1 _) (aas h2 _))⟩
    |false=>exact wpS_pure ⟨rfl,_,u,rfl,Ak hl,z2,Ss hl z3,λi h=>O.trans (s1 (lo+i) (lo+(l+u)/2) (ZU _ _) (ZP (aan h) _) (aas (Zr (Ak hl) z2) _)) e,z5⟩
  .rintro c cu ⟨rfl,l,u,rfl,z1,z2,z3,z4,z5⟩
   rw[aex (aab k),Nat.sub_self]at z3
   exact⟨rfl,l,u,rfl,Zw z1 z2,z4,λi h1 h2=>z5 i (Zw (acx (Nat.le_zero.mp z3)) h1) h2⟩
  .rintro c cu ⟨rfl,l,u,rfl,z1,z4,z5⟩
   dsimp only
   rw[moveDown'_eq]
   have hb:lo+k-(lo+k-(lo+l))=lo+l:=Nat.sub_sub_self (ZP z1 lo)
   refine wpS_bind (wpS_modify (wpS_pure ⟨rfl,a1.trans (At.bubble CH (aaX _ _) (by rw[hb];exact ZU lo l) (aas k2 lo)),?_⟩))
   rw[aaQ k2]
   intro i j h1 h2 h3
   show le r (gt (bubble (arrOf cu) (lo+k) (lo+k-(lo+l))) i) (gt (bubble (arrOf cu) (lo+k) (lo+k-(lo+l))) j)
   have a4:∀i,lo<=i->i<lo+l->le r (gt (arrOf cu) i) (gt (arrOf cu) (lo+k)):=λi h h'=>by
    have:=z4 (i-lo) (acL h h')
    rwa [Z9 h]at this
   have a5:∀i,lo+l<=i->i<lo+k->le r (gt (arrOf cu) (lo+k)) (gt (arrOf cu) i):=λi h h'=>by
    have hh:=Zw (ZU lo l) h
    have:=z5 (i-lo) (adu h) (acL hh h')
    rwa [Z9 hh]at this
   have h4:j<=lo+k:=aan h3
   have jm:lo+l<j->j-1<lo+k:=λb=>Zr (acr (ZH (aab _) b) Nat.one_pos) h4
   rw[jM CH (aaX _ _),jM CH (aaX _ _),hb]
   rcases adm i (lo+l)with a|a|a
   .rw[ZW (Z5 a),ZW λz=>Nat.lt_asymm a z.1]
    rcases adm j (lo+l)with b|b|b
    .rw[ZW (Z5 b),ZW λz=>Nat.lt_asymm b z.1]
     exact s1 _ _ h1 h2 (Zr b (ZP z1 lo))
    .rw[ZM b]
     exact a4 _ h1 a
    .rw[ZW (abQ b),ZM ⟨b,h4⟩]
     exact s1 _ _ h1 (aaI (adp a b)) (jm b)
   .rw[ZM a]
    rcases Nat.lt_or_eq_of_le (a▸h2:lo+l<=j)with b|b
    .rw[ZW (abQ b),ZM ⟨b,h4⟩]
     exact a5 _ (aaI b) (jm b)
    .rw[ZM b.symm]
     exact O.refl _
   .have b:=Zr a h2
    rw[ZW (abQ a),ZM ⟨a,Zw h2 h4⟩,ZW (abQ b),ZM ⟨b,h4⟩]
    exact s1 _ _ (Zw (ZU lo l) (aaI a)) (abV h2 1) (jm b)
 .rintro c ak ⟨hc,a1,s1⟩
  rw[aez (aey _ _)]at s1
  exact⟨hc,a1,s1⟩
 .by_cases e:ok=0
  .rw[aal h2 (Zw (aan (Zr h3 (ZP (Zw (acU _ _) (show max ok 1<=1 by rw[e];decide)) lo))) h1)];exact O.refl _
  .exact hs i j h1 h2 (Zr h3 (ZP (Zw (acU _ _) (Nat.max_le.mpr ⟨ZG _,abe e⟩)) lo))
 .rintro c eC ⟨rfl,a1,s1⟩
  exact wpS_pure (q eC a1 s1)
def pd(h:b<a):a-1<a:=acr (ZH (aab b) h) Nat.one_pos
def Xh{lo hi j:Nat}(h:j<hi):lo+hi-1-j=lo+(hi-1-j):=by rw[ace (ZH (aab j) h),ace (aaI h)]
def U4{lo hi i:Nat}(h:lo<=i)(h2:i<hi):lo+hi-1-i<hi:=by
 refine ZH (acj h _) ?_
 rw[ace (ZH (aab i) h2),aau]
 exact pd h2
def U8{lo hi j:Nat}(h:j<hi):lo<=lo+hi-1-j:=by rw[Xh h];exact ZU _ _
def So.one(O:Ord r)(xs:Array Keyed)(lo:Nat):So r xs lo (lo+1):=λi j h1 h2 h3=>by rw[aal h2 (Zw (aan h3) h1)];exact O.refl _
def De.one(O:Ord r)(xs:Array Keyed)(lo:Nat):De r xs lo (lo+1):=λi j h1 h2 h3=>by rw[aal h2 (Zw (aan h3) h1)];exact O.refl _
def So.more(O:Ord r){lo n:Nat}(h:So r xs lo (lo+n))(h1:1<=n)(hl:le r (gt xs (lo+n-1)) (gt xs (lo+n))):So r xs lo (lo+(n+1)):=λi j g1 g2 g3=>by
 rcases aaM j (lo+n)with z|z
 .exact h i j g1 g2 z
 .have e:j=lo+n:=aal (aan g3) z
  subst e
  rcases aaM i (lo+n)with y|y
  .exact O.trans (h i (lo+n-1) g1 (aaI y) (pd y)) hl
  .rw[aal g2 y];exact O.refl _
def De.more(O:Ord r){lo n:Nat}(h:De r xs lo (lo+n))(h1:1<=n)(hl:le r (gt xs (lo+n)) (gt xs (lo+n-1))):De r xs lo (lo+(n+1)):=λi j g1 g2 g3=>by
 rcases aaM j (lo+n)with z|z
 .exact h i j g1 g2 z
 .have e:j=lo+n:=aal (aan g3) z
  subst e
  rcases aaM i (lo+n)with y|y
  .exact O.trans hl (h i (lo+n-1) g1 (aaI y) (pd y))
  .rw[aal g2 y];exact O.refl _
def Eqv(r:Keyed->Keyed->Bool)(xs ys:Array Keyed):Prop:=∀k,le r (gt xs k) (gt ys k)/\le r (gt ys k) (gt xs k)
def iu(O:Ord r){i j:Nat}(hj:j<=xs.size)(h:∀k,i<=k->k<j->le r (gt xs k) (gt xs (j-1))/\le r (gt xs (j-1)) (gt xs k)):Eqv r (mirror xs i j ((j-i)/2)) xs:=λk=>by
 rw[gE hj]
 split
 .rename_i z
  have h1:=h (i+j-1-k) (U8 z.2) (U4 z.1 z.2)
  have h2:=h k z.1 z.2
  exact⟨O.trans h1.1 h2.2,O.trans h2.1 h1.2⟩
 .exact⟨O.refl _,O.refl _⟩
def De.eqv(O:Ord r){lo hi:Nat}(h:De r xs lo hi)(e:Eqv r ys xs):De r ys lo hi:=λi j h1 h2 h3=>O.trans (e j).1 (O.trans (h i j h1 h2 h3) (e i).2)
def De.turn{lo n:Nat}(h:De r xs lo (lo+n))(hz:lo+n<=xs.size):So r (mirror xs lo (lo+n) ((lo+n-lo)/2)) lo (lo+n):=λi j h1 h2 h3=>by
 rw[gE hz,gE hz,ZM ⟨h1,ZH h2 h3⟩,ZM ⟨Zw h1 h2,h3⟩]
 exact h _ _ (U8 h3) (acj h2 _) (U4 h1 (ZH h2 h3))
def An{α:Type}{x:SM α}{zt:SortSt}{Q:α->SortSt->Prop}{T:SortSt->Prop}(C:SortSt->Prop)(main:(∀s',C s'->T s')->wpS (model prog w) A E s x Q zt)(h:∀s',C s'->T s'):wpS (model prog w) A E s x Q zt:=main h
def uw{lo eM:Nat}(L:kS prog w A E s κ P r)(O:Ord r)(hk:kindOf zt=κ)(hp:∀x∈arrOf zt,P x)(hz:lo+eM<=(arrOf zt).size)(h1:1<=eM)(q:∀n ak,1<=n->n<=eM->At zt ak lo (lo+eM)->So r (arrOf ak) lo (lo+n)->Q (some n) ak):wpS (model prog w) A E s (countRun' lo eM) Q zt:=by
 rw[countRun'_eq]
 refine wpS_bind (wpS_mono (wpS_forRange (I:=λi c ak=>ak=zt/\∃n,c=(none,n)/\1<=n/\n=i/\n<=eM/\So r (arrOf zt) lo (lo+n))
  (Q:=λc ak=>ak=zt/\∃n,c=(none,n)/\1<=n/\n<=eM/\So r (arrOf zt) lo (lo+n)/\(n=eM\/r (gt (arrOf zt) (lo+n)) (gt (arrOf zt) (lo+n-1))=true)) ?_ ?_ ⟨rfl,1,rfl,(by decide),(by decide),h1,.one O _ _⟩) ?_)
 .rintro i c eC i1 i2 ⟨rfl,n,rfl,n1,n2,n3,s1⟩
  dsimp only
  have hn:lo+n<(arrOf eC).size :=Zr (aas (by rw[n2];exact i2) lo) hz
  refine wpS_bind (jO L hk hp hn (ZH (aaX _ _) hn) ?_)
  cases e:r (gt (arrOf eC) (lo+n)) (gt (arrOf eC) (lo+n-1))with
  |true=>exact wpS_pure ⟨rfl,n,rfl,n1,n3,s1,.inr e⟩
  |false=>exact wpS_pure ⟨rfl,n+1,rfl,(abq _ _),by lia,(ZH (ZF n2) i2),s1.more O n1 e⟩
 .rintro c eC ⟨rfl,n,rfl,n1,n2,n3,s1⟩
  exact⟨rfl,n,rfl,n1,n3,s1,.inl (afb n2 (aex h1))⟩
 rintro c eC ⟨rfl,n,rfl,n1,n2,s1,CI⟩
 dsimp only
 refine fQ (λe1=>?_) (λe1=>?_)
 .exact wpS_pure (q n _ n1 n2 .rfl' s1)
 have pV:n<eM:=aad n2 (bne e1)
 have hn:lo+n<(arrOf eC).size :=Zr (aas pV lo) hz
 have bg:=CI.resolve_left (pG e1)
 apply An (λs'=>At eC s' lo (lo+eM)/\De r (arrOf s') lo (lo+(n+1)))
 .intro shared
  refine fQ (λyT=>?_) (λyT=>?_)
  rotate_left
  .have e:n=1:=(aal (Z0 yT) n1)
   have d:De r (arrOf eC) lo (lo+(n+1)):=by
    subst e
    exact(De.one O _ _).more O (by decide) (O.of_lt bg)
   apply shared eC ⟨.rfl',d⟩
  .refine wpS_bind (jO L hk hp (ZH (ZU lo n) hn) (ZH (aaX _ _) hn) ?_)
   cases e:r (gt (arrOf eC) lo) (gt (arrOf eC) (lo+n-1))with
   |true=>exact wpS_pure (q n _ n1 n2 .rfl' s1)
   |false=>
    dsimp only
    rw[ZW Zz]
    refine wpS_bind (vw ?_)
    have all:∀k,lo<=k->k<lo+n->le r (gt (arrOf eC) k) (gt (arrOf eC) (lo+n-1))/\le r (gt (arrOf eC) (lo+n-1)) (gt (arrOf eC) k):=λk k1 k2=>⟨s1 k _ k1 (aaI k2) (pd k2),O.trans e (s1 lo k (ZG _) k1 k2)⟩
    have d0:De r (arrOf eC) lo (lo+n):=λi j g1 g2 g3=>O.trans (all j (Zw g1 g2) g3).1 (all i g1 (ZH g2 g3)).2
    exact shared _ ⟨At.mirror (qN hz (ZP n2 _)) (ZG _) (ZP n2 _),(d0.more O n1 (O.of_lt bg)).eqv O (iu O (qN hz (ZP n2 _)) all)⟩
 rintro s' ⟨a0,d0⟩
 have z0:=a0.a.size
 refine wpS_bind (wpS_lift (acs ⟨rfl,?_⟩))
 refine wpS_bind (wpS_mono (wpS_forRange (I:=λi c ak=>At eC ak lo (lo+eM)/\∃n' z,c=(none,n',z)/\2<=n'/\n'=i/\n'<=eM/\z+1<=n'/\De r (arrOf ak) lo (lo+n')/\∀k,lo+n'-(z+1)<=k->k<lo+n'->le r (gt (arrOf ak) k) (gt (arrOf ak) (lo+n'-1))/\le r (gt (arrOf ak) (lo+n'-1)) (gt (arrOf ak) k))
  (Q:=λc ak=>At eC ak lo (lo+eM)/\∃n' z,c=(none,n',z)/\2<=n'/\n'<=eM/\z+1<=n'/\De r (arrOf ak) lo (lo+n')/\∀k,lo+n'-(z+1)<=k->k<lo+n'->le r (gt (arrOf ak) k) (gt (arrOf ak) (lo+n'-1))/\le r (gt (arrOf ak) (lo+n'-1)) (gt (arrOf ak) k)) ?_ ?_ ⟨a0,n+1,0,rfl,(aaj n1),rfl,(aad n2 (pG e1)),(abq _ _),d0,λk k1 k2=>?_⟩) ?_)
 .rintro i c cu i1 i2 ⟨a2,n',z,rfl,m1,m2,m3,m4,d2,eq2⟩
  have MJ:=a2.a.size
  have hq:lo+n'<(arrOf cu).size :=by rw[MJ];exact Zr (aas (by rw[m2];exact i2) lo) hz
  have U9:=ZH (aaX (lo+n') 1) hq
  dsimp only
  refine wpS_bind (jO L (a2.a.k.trans hk) (a2.a.all hp) hq U9 ?_)
  cases e:r (gt (arrOf cu) (lo+n')) (gt (arrOf cu) (lo+n'-1))with
  |true=>
   dsimp only
   rw[ZM rfl]
   have d3:=d2.more O (Zx m1) (O.of_lt e)
   split
   .refine wpS_bind (vw (wpS_pure ⟨a2.trans (At.mirror (Zx hq) (by rw[ace m4];exact ZU _ _) (ZP (K1 m2 (Zx i2)) _)),n'+1,0,rfl,by exact aaj (Zx m1),by lia,by exact ZH (ZF m2) i2,by exact abq _ _,d3.eqv O (iu O (by lia) eq2),λk k1 k2=>?_⟩))
    rw[show k=lo+(n'+1)-1 by exact aaP k1 k2]
    exact⟨O.refl _,O.refl _⟩
   .refine wpS_pure ⟨a2,n'+1,0,rfl,by exact aaj (Zx m1),by lia,by exact ZH (ZF m2) i2,by exact abq _ _,d3,λk k1 k2=>?_⟩
    rw[show k=lo+(n'+1)-1 by exact aaP k1 k2]
    exact⟨O.refl _,O.refl _⟩
  |false=>
   dsimp only
   rw[ZW Zz]
   refine wpS_bind (jO L (a2.a.k.trans hk) (a2.a.all hp) U9 hq ?_)
   cases e':r (gt (arrOf cu) (lo+n'-1)) (gt (arrOf cu) (lo+n'))with
   |true=>exact wpS_pure ⟨a2,n',z,rfl,m1,m3,m4,d2,eq2⟩
   |false=>
    refine wpS_pure ⟨a2,n'+1,z+1,rfl,(aaj (Zx m1)),by lia,(ZH (ZF m2) i2),(aaj m4),d2.more O (Zx m1) e',λk k1 k2=>?_⟩
    rw[show lo+(n'+1)-1=lo+n' by exact ach _]
    rcases aaM k (lo+n')with y|y
    .have:=eq2 k (by lia) y
     exact⟨O.trans this.1 e,O.trans e' this.2⟩
    .rw[show k=lo+n' by exact aaP y k2]
     exact⟨O.refl _,O.refl _⟩
 .rintro c cu ⟨a2,n',z,rfl,m1,m2,m3,m4,d2,eq2⟩
  exact⟨a2,n',z,rfl,m1,m3,m4,d2,eq2⟩
 .rw[show k=lo+(n+1)-1 by exact aaP k1 k2]
  exact⟨O.refl _,O.refl _⟩
 rintro c kJ ⟨a3,n',z,rfl,m1,m2,m4,d3,eq3⟩
 have U_:=a3.a.size
 dsimp only
 apply An (λs'=>At eC s' lo (lo+eM)/\De r (arrOf s') lo (lo+n'))
 .intro shared
  refine fQ (λNk=>?_) (λNk=>?_)
  rotate_left
  .apply shared kJ ⟨a3,d3⟩
  .refine wpS_bind (vw ?_)
   exact shared _ ⟨a3.trans (At.mirror (nu (aaa U_) (qN hz (ZP m2 _))) (by rw[ace m4];exact ZU _ _) (ZP m2 _)),d3.eqv O (iu O (nu (aaa U_) (qN hz (ZP m2 _))) eq3)⟩
 rintro s4 ⟨a4,d4⟩
 have U':=a4.a.size
 refine wpS_bind (vw ?_)
 have a5:=a4.trans (At.mirror (i:=lo) (j:=lo+n') (nu (aaa U') (qN hz (ZP m2 _))) (ZG _) (show lo+n'<=lo+eM by exact ZP m2 _))
 have s5:=d4.turn (nu (aaa U') (qN hz (ZP m2 _)))
 refine wpS_bind (wpS_mono (wpS_forRange (I:=λi c ak=>At eC ak lo (lo+eM)/\∃m,c=(none,m)/\1<=m/\m=i/\m<=eM/\So r (arrOf ak) lo (lo+m))
  (Q:=λc ak=>At eC ak lo (lo+eM)/\∃m,c=(none,m)/\1<=m/\m<=eM/\So r (arrOf ak) lo (lo+m)) ?_ (λc ak ⟨y,m,y1,y2,_,y3,y4⟩=>⟨y,m,y1,y2,y3,y4⟩) ⟨a5,n',rfl,(Zx m1),rfl,m2,s5⟩) ?_)
 .rintro i c xl i1 i2 ⟨a5,m,rfl,y1,y2,y3,y4⟩
  have Ze:=a5.a.size
  dsimp only
  refine wpS_bind (jO L (a5.a.k.trans hk) (a5.a.all hp) (by lia) (by lia) ?_)
  cases e:r (gt (arrOf xl) (lo+m)) (gt (arrOf xl) (lo+m-1))with
  |true=>exact wpS_pure ⟨a5,m,rfl,y1,y3,y4⟩
  |false=>exact wpS_pure ⟨a5,m+1,rfl,(abq _ _),by lia,(ZH (ZF y2) i2),y4.more O y1 e⟩
 .rintro c xl ⟨a5,m,rfl,y1,y3,y4⟩
  exact wpS_pure (q m xl y1 y3 a5 y4)
end
def qf(xs:Array Keyed)(i:Nat):gt xs i=xs.toList[i]?.getD (.none,.none):=by unfold gt;rw[aaD]
section
variable {r:Keyed->Keyed->Bool}{prog:Program}{w:World}{A:Around}{E:Value->Shared->Prop}{s:Shared}{κ:SortKind}{P:Keyed->Prop}
def rW{lo n:Nat}(h:So r xs lo (lo+n))(hz:lo+n<=xs.size):(sg xs lo n).Pairwise (le r):=by
 rw[abA]
 intro i j hi hj um
 rw[dM hz]at hi hj
 have e1:=fA (arr:=xs) hi hz
 have e2:=fA (arr:=xs) hj hz
 rw[Zt (by rw[dM hz];lia)]at e1 e2
 rw[ZY e1,ZY e2,<-hJ,<-hJ]
 exact h _ _ (ZU _ _) (ZP (Zx um) _) (aas hj _)
def IM{ms:List Keyed}(h:o+ms.length<=a.size)(i:Nat):gt (ms.zipIdx.foldl (λa (p:Keyed×Nat)=>a.setIfInBounds (o+p.2) p.1) a) i=if i<o then gt a i else if h:i-o<ms.length then ms[i-o] else gt a i:=by
 rw[qf,qa ms o 0 a (h),ach]
 have ht:(a.toList.take o).length =o:=by rw[abt,Z_];exact aaQ (Zw (ZU _ _) h)
 by_cases h1:i<o
 .rw[ZM h1,aai,aaq (Zr h1 (ZF (aaa ht))),afy,ZM h1,qf]
 .rw[ZW h1,aai,aaz (Zw (ZF ht) (Z0 h1)),ht]
  by_cases h2:i-o<ms.length
  .rw[dif_pos h2,aaq h2,Zt h2]
   rfl
  .rw[dif_neg h2,aaz (Z0 h2),afz,qf]
   congr 2
   exact QK h1 h2
def PR{a j m:Nat}(h:a<=j)(h2:j<a+m):j-a<m:=acL h h2
def Nl{a k j:Nat}(h:a+k<=j):k<=j-a:=adu h
def Su{a j m:Nat}(h0:¬j<a)(h:¬j-a<m):a+m<=j:=aeN (aej.mp h0) (aej.mp h)
def Sv(h:b<a):a-1<a:=acr (ZH (aab b) h) Nat.one_pos
def Va{a b c d:Nat}(h:a<b+c)(h2:c<=d):a<b+d:=Zr h (ZP h2 b)
def IP{a b c:Nat}(h:a+b<=c):a<=c:=Zw (ZU a b) h
def xV{i sa na pw sb nb Le:Nat}(L:kS prog w A E s κ P r)(O:Ord r)(hk:kindOf zt=κ)(hp:∀x∈arrOf zt,P x)(hf:failedOf zt=none)(e1:(pendingOf zt)[i]?=some (sa,na,pw))(e2:(pendingOf zt)[i+1]?=some (sb,nb,Le))(Lf:sb=sa+na)(h1:1<=na)(h2:1<=nb)(hz:sb+nb<=(arrOf zt).size)
  (Nm:So r (arrOf zt) sa sb) (Nn:So r (arrOf zt) sb (sb+nb))
  (q:∀ak,kindOf ak=κ->(arrOf ak).Perm (arrOf zt)->failedOf ak=none->pendingOf ak=((pendingOf zt).setIfInBounds i (sa,na+nb,pw)).eraseIdxIfInBounds (i+1)->(∀i,i<sa\/sb+nb<=i->gt (arrOf ak) i=gt (arrOf zt) i)->So r (arrOf ak) sa (sb+nb)->Q true ak):wpS (model prog w) A E s (mergeAt' i) Q zt:=by
 have Sw:So r (arrOf zt) sa (sa+na):=by rw[<-Lf];exact Nm
 have hA:sa+na<=(arrOf zt).size :=Lf▸IP hz
 have Xi:=rW Sw hA
 have Xj:=rW Nn hz
 have Ao:sb<(arrOf zt).size :=Zr (aet h2) hz
 have b0:∀j,sb<=j->j<sb+nb->le r (arrOf zt)[sb] (gt (arrOf zt) j):=λj j1 j2=>by
  rw[<-hJ Ao];exact Nn sb j (ZG _) j1 j2
 have cz:(∀x,sa<=x->x<sb->∀y,sb<=y->y<sb+nb->le r (gt (arrOf zt) x) (gt (arrOf zt) y))->So r (arrOf zt) sa (sb+nb):=λh x y x1 x2 x3=>by
  rcases aaM y sb with z|z
  .exact Nm x y x1 x2 z
  .rcases aaM x sb with z'|z'
   .exact h x x1 z' y z x3
   .exact Nn x y z' x2 x3
 have Vb:∀{c:Nat},c<na->∃h,(sg (arrOf zt) sa na)[c]'h=gt (arrOf zt) (sa+c):=λ{c} hc=>by
  have hl:c<(sg (arrOf zt) sa na).length :=by rw[dM hA];exact hc
  refine⟨hl,?_⟩
  have e:=fA (arr:=arrOf zt) hc hA
  rw[Zt hl]at e
  rw[ZY e,<-hJ]
 have Vc:∀{c:Nat},c<nb->∃h,(sg (arrOf zt) sb nb)[c]'h=gt (arrOf zt) (sb+c):=λ{c} hc=>by
  have hl:c<(sg (arrOf zt) sb nb).length :=by rw[dM hz];exact hc
  refine⟨hl,?_⟩
  have e:=fA (arr:=arrOf zt) hc hz
  rw[Zt hl]at e
  rw[ZY e,<-hJ]
 rw[rN]
 refine wpS_bind (wpS_get ?_)
 rw[e1,e2]
 dsimp only
 refine wpS_bind (DF (wpS_bind (br Ao (wpS_bind (cD L O hk (hp _ (aaB _)) hp hA (h1) Xi λk vD g1 g2=>?_)))))
 dsimp only
 have IQ:∀j,sa<=j->j<sa+k->le r (gt (arrOf zt) j) (arrOf zt)[sb]:=λj j1 j2=>by
  have jl:=PR j1 j2
  have jn:=Zr jl vD
  obtain⟨hl,e⟩:=Vb jn
  have:=g1 ((sg (arrOf zt) sa na)[j-sa]) (by rw[adW];exact⟨j-sa,by rw[dM hA];exact Nat.lt_min.mpr ⟨jl,jn⟩,rfl⟩)
  rw[e,Z9 j1]at this
  unfold ur at this
  simpa[le]using this
 have Vd:∀j,sa+k<=j->j<sb->le r (arrOf zt)[sb] (gt (arrOf zt) j):=λj j1 j2=>by
  have ja:=IP j1
  obtain⟨hl,e⟩:=Vb (PR ja (Lf▸j2))
  have:=g2 ((sg (arrOf zt) sa na)[j-sa]) (by rw[adX];exact⟨j-sa-k,by rw[aaL (Nl j1)];exact hl,by congr 1;exact Z9 (Nl j1)⟩)
  rw[e,Z9 ja]at this
  unfold ur at this
  have h':r (arrOf zt)[sb] (gt (arrOf zt) j)=true:=by simpa using this
  exact O.of_lt h'
 by_cases c1:(na-k==0)=true
 .rw[ZM c1]
  have yS:k=na:=by
   have:na-k=0:=by simpa using c1
   exact aal vD (acx this)
  exact wpS_pure (q _ hk (adI _) hf rfl (λ_ _=>rfl) (cz λx x1 x2 y y1 y2=>O.trans (IQ x x1 (by rw[yS,<-Lf];exact x2)) (b0 y y1 y2)))
 rw[ZW c1]
 have yS:k<na:=Nat.lt_of_sub_ne_zero (bne c1)
 have jP:1<=na-k:=abw yS
 have hS:sa+k+(na-k)=sb:=by rw[aaV,Z9 vD,Lf]
 have vm:sa+k+(na-k)<=(arrOf zt).size :=by rw[hS];exact Zx Ao
 have Ve:sa+k+(na-k)-1<(arrOf zt).size :=by rw[hS];exact ZH (aaX _ _) Ao
 refine wpS_bind (br Ve (wpS_bind (cD L O hk (hp _ (aaB _)) hp hz (acr h2 (by decide)) Xj λnB Ap g3 g4=>?_)))
 dsimp only
 have ze:(arrOf zt)[sa+k+(na-k)-1]=gt (arrOf zt) (sb-1):=by rw[<-hJ Ve];congr 1;rw[hS]
 rw[ze]at g3 g4
 have Np:∀j,sa<=j->j<sb->le r (gt (arrOf zt) j) (gt (arrOf zt) (sb-1)):=λj j1 j2=>Nm j (sb-1) j1 (aaI j2) (Sv j2)
 have Nq:∀j,sb<=j->j<sb+nB->le r (gt (arrOf zt) j) (gt (arrOf zt) (sb-1)):=λj j1 j2=>by
  have jl:=PR j1 j2
  have jn:=Zr jl Ap
  obtain⟨hl,e⟩:=Vc jn
  have:=g3 ((sg (arrOf zt) sb nb)[j-sb]) (by rw[adW];exact⟨j-sb,by rw[dM hz];exact Nat.lt_min.mpr ⟨jl,jn⟩,rfl⟩)
  rw[e,Z9 j1]at this
  exact O.of_lt this
 have Vf:∀j,sb+nB<=j->j<sb+nb->le r (gt (arrOf zt) (sb-1)) (gt (arrOf zt) j):=λj j1 j2=>by
  have ja:=IP j1
  obtain⟨hl,e⟩:=Vc (PR ja j2)
  have:=g4 ((sg (arrOf zt) sb nb)[j-sb]) (by rw[adX];exact⟨j-sb-nB,by rw[aaL (Nl j1)];exact hl,by congr 1;exact Z9 (Nl j1)⟩)
  rw[e,Z9 ja]at this
  exact this
 by_cases c2:(nB==0)=true
 .rw[ZM c2]
  have xT:nB=0:=by simpa using c2
  exact wpS_pure (q _ hk (adI _) hf rfl (λ_ _=>rfl) (cz λx x1 x2 y y1 y2=>O.trans (Np x x1 x2) (Vf y (by rw[xT];exact y1) y2)))
 rw[ZW c2]
 have xT:1<=nB:=abe (bne c2)
 have Gv:sb+nB<=(arrOf zt).size :=Zw (ZP Ap sb) hz
 have hx:∀x∈(arrOf zt).extract (sa+k) sb,P x:=λx hx=>hp x (vx hx)
 have hy:∀x∈(arrOf zt).extract sb (sb+nB),P x:=λx hx=>hp x (vx hx)
 have sx:((arrOf zt).extract (sa+k) sb).size =na-k:=by rw[afA,aaQ (Zx Ao),Lf,Nat.add_sub_add_left]
 have sy:((arrOf zt).extract sb (sb+nB)).size =nB:=by rw[afA,aaQ Gv,aau]
 have lx:((arrOf zt).extract (sa+k) sb).toList =sg (arrOf zt) (sa+k) (na-k):=by
  have:=dO (arrOf zt) (sa+k) (na-k)
  rwa [hS]at this
 have ly:((arrOf zt).extract sb (sb+nB)).toList =sg (arrOf zt) sb nB:=dO _ _ _
 have px:((arrOf zt).extract (sa+k) sb).toList.Pairwise (le r):=by
  rw[lx]
  exact rW (λx y x1 x2 x3=>Nm x y (IP x1) x2 (hS▸x3)) vm
 have py:((arrOf zt).extract sb (sb+nB)).toList.Pairwise (le r):=by
  rw[ly]
  exact rW (λx y x1 x2 x3=>Nn x y x1 x2 (Va x3 Ap)) Gv
 have mem:∀{x:Keyed}{o m:Nat},o+m<=(arrOf zt).size ->x∈sg (arrOf zt) o m->∃j,o<=j/\j<o+m/\x=gt (arrOf zt) j:=λ{x o m} Sx hx=>by
  obtain⟨t,ht,rfl⟩:=ack hx
  rw[dM Sx]at ht
  refine⟨o+t,ZU _ _,aas ht _,?_⟩
  have e:=fA (arr:=arrOf zt) ht Sx
  rw[Zt (by rw[dM Sx];exact ht)]at e
  rw[ZY e,<-hJ]
 have first:∀y∈((arrOf zt).extract (sa+k) sb).toList,le r (((arrOf zt).extract sb (sb+nB))[0]'(by rw[sy];exact xT)) y:=λy hy=>by
  rw[lx]at hy
  obtain⟨j,j1,j2,rfl⟩:=mem vm hy
  have e:((arrOf zt).extract sb (sb+nB))[0]'(by rw[sy];exact xT)=(arrOf zt)[sb]:=by rw[Array.getElem_extract];rfl
  rw[e]
  exact Vd j j1 (hS▸j2)
 have final:∀y∈((arrOf zt).extract sb (sb+nB)).toList,∀x∈((arrOf zt).extract (sa+k) sb).toList.drop (((arrOf zt).extract (sa+k) sb).size-1),le r y x:=λy hy x hx=>by
  rw[ly]at hy
  obtain⟨j,j1,j2,rfl⟩:=mem Gv hy
  rw[sx,lx]at hx
  obtain⟨m,hm,rfl⟩:=ack hx
  rw[aco,dM vm,Nat.sub_sub_self jP]at hm
  have Xk:=Nat.lt_one_iff.mp hm
  subst Xk
  rw[List.getElem_drop]
  have e:=fA (arr:=arrOf zt) (show na-k-1+0<na-k from Sv jP) vm
  rw[Zt (by rw[dM vm];exact Sv jP)]at e
  rw[ZY e,<-hJ,show sa+k+(na-k-1+0)=sb-1 by rw[ach,<-ace jP,hS]]
  exact Nq j j1 j2
 have Nr:∀(out:Array Keyed) (ak:SortSt),out.toList.Perm (((arrOf zt).extract (sa+k) sb).toList ++((arrOf zt).extract sb (sb+nB)).toList)->out.toList.Pairwise (le r)->Sm (setPending zt (((pendingOf zt).setIfInBounds i (sa,na+nb,pw)).eraseIdxIfInBounds (i+1))) ak->
   Q (failedOf (setArr ak (out.toList.zipIdx.foldl (λa (p,j)=>a.setIfInBounds (sa+k+j) p) (arrOf ak)))).isNone (setArr ak (out.toList.zipIdx.foldl (λa (p,j)=>a.setIfInBounds (sa+k+j) p) (arrOf ak))):=λout ak qg Aq hM=>by
  have PU:failedOf ak=none:=hM.f.trans hf
  have e4:(failedOf (setArr ak (out.toList.zipIdx.foldl (λa (p,j)=>a.setIfInBounds (sa+k+j) p) (arrOf ak)))).isNone =true:=by show(failedOf ak).isNone =true;rw[PU];rfl
  rw[e4]
  have ha:arrOf ak=arrOf zt:=hM.a
  have hl:=qg.length_eq
  rw[ZQ,Z_ (xs:=(arrOf zt).extract (sa+k) sb),Z_ (xs:=(arrOf zt).extract sb (sb+nB)),sx,sy]at hl
  have hE:sa+k+out.toList.length=sb+nB:=by rw[hl,<-aaV,hS]
  have Vg:∀x∈out.toList,le r (arrOf zt)[sb] x/\le r x (gt (arrOf zt) (sb-1)):=λx hx=>by
   rcases ZZ.mp (qg.mem_iff.mp hx)with z|z
   .rw[lx]at z
    obtain⟨j,j1,j2,rfl⟩:=mem vm z
    exact⟨Vd j j1 (hS▸j2),Np j (IP j1) (hS▸j2)⟩
   .rw[ly]at z
    obtain⟨j,j1,j2,rfl⟩:=mem Gv z
    exact⟨b0 j j1 (Va j2 Ap),Nq j j1 j2⟩
  have hg:∀j,gt (arrOf (setArr ak (out.toList.zipIdx.foldl (λa (p,j)=>a.setIfInBounds (sa+k+j) p) (arrOf ak)))) j=if j<sa+k then gt (arrOf zt) j else if h:j-(sa+k)<out.toList.length then out.toList[j-(sa+k)] else gt (arrOf zt) j:=λj=>by
   show gt (out.toList.zipIdx.foldl (λa (p:Keyed×Nat)=>a.setIfInBounds (sa+k+p.2) p.1) (arrOf ak)) j=_
   rw[IM (by rw[ha,hE];exact Gv),ha]
  refine q _ (hM.k.trans hk) ?_ PU hM.p (λj hj=>?_) (λx y x1 x2 x3=>?_)
  .show(out.toList.zipIdx.foldl (λa (p:Keyed×Nat)=>a.setIfInBounds (sa+k+p.2) p.1) (arrOf ak)).Perm (arrOf zt)
   rw[adL,ha,qa _ (sa+k) 0 _ (by rw[ach,hE];exact Gv)]
   have e3:(arrOf zt).toList =(arrOf zt).toList.take (sa+k+0)++(((arrOf zt).extract (sa+k) sb).toList ++((arrOf zt).extract sb (sb+nB)).toList)++(arrOf zt).toList.drop (sa+k+0+out.toList.length):=by
    have t1:=eL (arrOf zt) (i:=sa+k) (k:=na-k)
    have t2:=eL (arrOf zt) (i:=sb) (k:=nB)
    rw[hS]at t1
    rw[ach,<-aai,t1,t2,hE,acz]
   refine List.Perm.trans ?_ (List.Perm.of_eq e3.symm)
   exact(qg.append_left _).append_right _
  .rw[hg]
   split
   .rfl
   .rename_i a1
    rw[dif_neg (aej.mpr (Nl (hj.elim (λz=>absurd (Zr z (ZU sa k)) a1) λz=>hE.symm▸Zw (ZP Ap sb) z)))]
  .rw[hg,hg]
   by_cases a1:x<sa+k
   .rw[ZM a1]
    by_cases a2:y<sa+k
    .rw[ZM a2];exact Nm x y x1 x2 (Zr a2 (hS▸ZU _ _))
    .rw[ZW a2]
     by_cases a3:y-(sa+k)<out.toList.length
     .rw[dif_pos a3];exact O.trans (IQ x x1 a1) (Vg _ (abu a3)).1
     .rw[dif_neg a3];exact O.trans (IQ x x1 a1) (b0 y (IP (hE▸Su a2 a3)) x3)
   .have ny:¬y<sa+k:=λz=>a1 (ZH x2 z)
    rw[ZW a1,ZW ny]
    by_cases a2:x-(sa+k)<out.toList.length
    .rw[dif_pos a2]
     by_cases a3:y-(sa+k)<out.toList.length
     .rw[dif_pos a3]
      rcases aaM x y with z|z
      .exact(abA.mp Aq) _ _ a2 a3 (Nat.sub_lt_sub_right (aej.mp a1) z)
      .have:x=y:=aal x2 z
       subst this
       exact O.refl _
     .rw[dif_neg a3];exact O.trans (Vg _ (abu a2)).2 (Vf y (hE▸Su ny a3) x3)
    .rw[dif_neg a2,dif_neg λz=>a2 (ZH (abV x2 _) z)]
     exact Nn x y (IP (hE▸Su a1 a2)) x2 x3
 by_cases c3:na-k<=nB
 .rw[ZM c3]
  exact wpS_bind (xS L O hk hx hy (by rw[sx];exact jP) (by rw[sy];exact xT) px py first final λout ak qg Aq hS=>wpS_bind (wpS_modify (wpS_bind (wpS_get (wpS_pure (Nr out ak qg Aq hS))))))
 .rw[ZW c3]
  exact wpS_bind (xU L O hk hx hy (by rw[sx];exact jP) (by rw[sy];exact xT) px py first final λout ak qg Aq hS=>wpS_bind (wpS_modify (wpS_bind (wpS_get (wpS_pure (Nr out ak qg Aq hS))))))
end
def qh(r:Keyed->Keyed->Bool)(xs:Array Keyed):Nat->List (Nat×Nat×Nat)->Nat->Prop
 |s,[],e=>s=e
 |s,(a,n,_)::l,e=>a=s/\1<=n/\So r xs s (s+n)/\qh r xs (s+n) l e
section
variable {r:Keyed->Keyed->Bool}{xs ys:Array Keyed}
def So.keep{lo hi:Nat}(h:So r xs lo hi)(e:∀i,lo<=i->i<hi->gt ys i=gt xs i):So r ys lo hi:=λi j h1 h2 h3=>by
 rw[e i h1 (ZH h2 h3),e j (Zw h1 h2) h3];exact h i j h1 h2 h3
theorem qh.snoc:∀{s:Nat}{l:List (Nat×Nat×Nat)}{e n:Nat},qh r xs s l e->1<=n->So r xs e (e+n)->qh r xs s (l++[(e,n,p)]) (e+n)
 |s,[],e,n,h,hn,hs=>by
  have h':s=e:=h
  subst h'
  exact⟨rfl,hn,hs,rfl⟩
 |s,(a,m,q)::l,e,n,⟨h1,h2,h3,h4⟩,hn,hs=>⟨h1,h2,h3,h4.snoc hn hs⟩
theorem qh.le:∀{s:Nat}{l:List (Nat×Nat×Nat)}{e:Nat},qh r xs s l e->s+l.length<=e
 |s,[],e,h=>ZF h
 |s,(a,m,q)::l,e,⟨h1,h2,h3,h4⟩=>by have:=h4.le;rw[Z3];exact qN this (afh (aet h2) _)
theorem qh.keep:∀{s:Nat}{l:List (Nat×Nat×Nat)}{e:Nat},qh r xs s l e->(∀i,s<=i->i<e->gt ys i=gt xs i)->qh r ys s l e
 |s,[],e,h,_=>h
 |s,(a,m,q)::l,e,⟨h1,h2,h3,h4⟩,k=>⟨h1,h2,h3.keep λi i1 i2=>k i i1 (by have:=h4.le;exact qN this (acq _ i2)),h4.keep λi i1 i2=>k i (Zw (ZU _ _) i1) i2⟩
theorem qh.at:∀{s:Nat}{l:List (Nat×Nat×Nat)}{e i:Nat},qh r xs s l e->i+1<l.length->∃sa na pw sb nb Le,l[i]?=some (sa,na,pw)/\l[i+1]?=some (sb,nb,Le)/\sb=sa+na/\1<=na/\1<=nb/\sb+nb<=e/\s<=sa/\So r xs sa sb/\So r xs sb (sb+nb)/\
   ∀ys:Array Keyed,(∀i,i<sa\/sb+nb<=i->gt ys i=gt xs i)->So r ys sa (sb+nb)->qh r ys s ((l.set i (sa,na+nb,pw)).eraseIdx (i+1)) e
 |s,[],e,i,h,hi=>by simp at hi
 |s,[x],e,i,h,hi=>by simp at hi
 |s,(a,n,p)::(b,m,q)::l,e,0,⟨h1,h2,h3,h4,h5,h6,h7⟩,_=>by
  subst h1
  subst h4
  refine⟨a,n,p,a+n,m,q,rfl,rfl,rfl,h2,h5,by have:=h7.le;exact Zw (ZU _ _) this,ZG _,h3,h6,λys k ks=>?_⟩
  refine⟨rfl,(acq _ h2),by rw[<-aaV];exact ks,?_⟩
  rw[<-aaV]
  exact h7.keep λi i1 i2=>k i (.inr i1)
 |s,(a,n,p)::y::l,e,i+1,⟨h1,h2,h3,h4⟩,hi=>by
  refine Lz (qh.at (i:=i) h4 (by simpa using hi)) λsa na pw sb nb Le g1 g2 g3 g4 g5 g6 g7 g8 g9 Nt=>⟨sa,na,pw,sb,nb,Le,g1,g2,g3,g4,g5,g6,(Zw (ZU _ _) g7),g8,g9,λys k ks=>?_⟩
  exact⟨h1,h2,h3.keep λi i1 i2=>k i (.inl (Zr i2 g7)),Nt ys k ks⟩
theorem qh.power:∀{s:Nat}{l:List (Nat×Nat×Nat)}{e i:Nat},qh r xs s l e->qh r xs s (l.modify i λx=>(x.1,x.2.1,f)) e
 |s,[],e,i,h=>by cases i<;>exact h
 |s,(a,n,p)::l,e,0,⟨h1,h2,h3,h4⟩=>⟨h1,h2,h3,h4⟩
 |s,(a,n,p)::l,e,i+1,⟨h1,h2,h3,h4⟩=>⟨h1,h2,h3,h4.power⟩
end
section
variable {prog:Program}{w:World}{A:Around}{E:Value->Shared->Prop}{s:Shared}{κ:SortKind}{P:Keyed->Prop}{r:Keyed->Keyed->Bool}
structure yU(r:Keyed->Keyed->Bool)(κ:SortKind)(a₀:Array Keyed)(zt:SortSt)(lo:Nat):Prop where
 k:kindOf zt=κ
 a:(arrOf zt).Perm a₀
 f:failedOf zt=none
 c:qh r (arrOf zt) 0 (pendingOf zt).toList lo
def yU.merge{lo i:Nat}(L:kS prog w A E s κ P r)(O:Ord r)(hp:∀x∈a₀,P x)(h:yU r κ a₀ zt lo)(xA:lo<=a₀.size)(hi:i+1<(pendingOf zt).size)(q:∀ak,yU r κ a₀ ak lo->(pendingOf ak).size+1=(pendingOf zt).size ->(∀j,lo<=j->gt (arrOf ak) j=gt (arrOf zt) j)->Q true ak):wpS (model prog w) A E s (mergeAt' i) Q zt:=by
 refine Lz (h.c.at (i:=i) (by rw[Z_];exact hi)) λsa na pw sb nb Le g1 g2 g3 g4 g5 g6 g7 g8 g9 Nt=>?_
 rw[aaD]at g1 g2
 refine xV L O h.k (λx hx=>hp x (h.a.mem_iff.mp hx)) h.f g1 g2 g3 g4 g5 (by rw[h.a.size_eq];exact Zw g6 xA) g8 g9 λak k1 k2 k3 k4 k5 k6=>q ak ⟨k1,k2.trans h.a,k3,?_⟩ ?_ (λj hj=>k5 j (.inr (Zw g6 hj)))
 .rw[k4,adn,acG]
  exact Nt _ k5 k6
 .rw[k4,<-Z_,adn,acG,List.length_eraseIdx_of_lt (by rw[aat,Z_];exact hi),aat,Z_]
  exact aaL (Zr (abq _ _) hi)
def IS{α:Type}{x:SM α}{zt:SortSt}{Q:α->SortSt->Prop}{T:Nat->SortSt->Prop}(C:Nat->SortSt->Prop)(main:(∀n s',C n s'->T n s')->wpS (model prog w) A E s x Q zt)(h:∀n s',C n s'->T n s'):wpS (model prog w) A E s x Q zt:=main h
def ux(L:kS prog w A E s κ P r)(O:Ord r)(hp:∀x∈a₀,P x)(h:yU r κ a₀ zt 0)(q:∀ak,(arrOf ak).Perm a₀->failedOf ak=none->So r (arrOf ak) 0 a₀.size->Q () ak):wpS (model prog w) A E s sortRuns' Q zt:=by
 rw[sortRuns'_eq]
 refine wpS_bind (wpS_get ?_)
 dsimp only
 have hz:(arrOf zt).size =a₀.size:=h.a.size_eq
 rw[hz]
 refine wpS_bind (wpS_mono (wpS_forRange (I:=λi c ak=>∃lo,c=(none,lo)/\yU r κ a₀ ak lo/\lo<=a₀.size/\i<=lo) (Q:=λc ak=>∃lo,c=(none,lo)/\yU r κ a₀ ak lo/\lo=a₀.size) ?step ?fin ⟨0,rfl,h,aab _,ZG _⟩) ?post)
 case fin=>
  rintro c eC ⟨lo,rfl,g0,xA,PV⟩
  exact⟨lo,rfl,g0,(aal xA PV)⟩
 case step=>
  rintro i c eC _ _ ⟨lo,rfl,g0,xA,PV⟩
  dsimp only
  by_cases Nu:lo ≥ a₀.size
  .rw[ZM Nu]
   exact wpS_pure ⟨lo,rfl,g0,(aal xA Nu)⟩
  rw[ZW Nu]
  have Lb:(arrOf eC).size =a₀.size:=g0.a.size_eq
  refine wpS_bind (uw L O g0.k (λx hx=>hp x (g0.a.mem_iff.mp hx)) (by lia) (abw (abO Nu)) λn cu yT Gb a1 Lg=>?_)
  have g1:yU r κ a₀ cu lo:=⟨a1.a.k.trans g0.k,a1.a.a.trans g0.a,a1.a.f.trans g0.f,by rw[a1.a.p];exact g0.c.keep λj _ hj=>a1.o j (.inl hj)⟩
  dsimp only
  apply IS (λn s'=>yU r κ a₀ s' lo/\1<=n/\lo+n<=a₀.size/\So r (arrOf s') lo (lo+n))
  .intro shared
   by_cases Sy:n<minRun' a₀.size a₀.size 0
   rotate_left
   .rw[ZW Sy]
    apply shared n cu ⟨g1,yT,(LA yT Gb),Lg⟩
   .rw[ZM Sy]
    refine wpS_bind (wpS_lift (acs ⟨rfl,?_⟩))
    have MJ:(arrOf cu).size =a₀.size:=g1.a.size_eq
    have Nv:lo+(a₀.size-lo)=a₀.size:=Z9 xA
    have Vh:lo+min (a₀.size-lo) (minRun' a₀.size a₀.size 0)<=a₀.size:=Zw (ZP (acU _ _) lo) (ZF Nv)
    have Vi:n<=min (a₀.size-lo) (minRun' a₀.size a₀.size 0):=Nat.le_min.mpr ⟨Gb,Zx Sy⟩
    refine wpS_bind (qd L O g1.k (λx hx=>hp x (g1.a.mem_iff.mp hx)) (by rw[MJ];exact Vh) Vi Lg λkJ a3 IT=>?_)
    rw[ZW (by decide)]
    exact shared _ kJ ⟨⟨a3.a.k.trans g1.k,a3.a.a.trans g1.a,a3.a.f.trans g1.f,by rw[a3.a.p];exact g1.c.keep λj _ hj=>a3.o j (.inl hj)⟩,Zw yT Vi,Vh,IT⟩
  clear yT Gb a1 Lg g1
  rintro n cu ⟨g1,yT,Gb,Lg⟩
  refine wpS_bind (wpS_get ?_)
  cases hb:(pendingOf cu).back? with
  |none=>exact wpS_bind (wpS_modify (wpS_pure ⟨_,rfl,⟨g1.k,g1.a,g1.f,by
    show qh r (arrOf cu) 0 ((pendingOf cu).push _).toList _
    rw[acd]
    exact g1.c.snoc yT Lg⟩,Gb,(adY PV yT)⟩))
  |some x=>
   obtain⟨s1,n1,p1⟩:=x
   dsimp only
   refine wpS_bind (wpS_mono (wpS_forRange (I:=λ_ c ak=>c=(none,())/\yU r κ a₀ ak lo/\So r (arrOf ak) lo (lo+n)) (Q:=λc ak=>c=(none,())/\yU r κ a₀ ak lo/\So r (arrOf ak) lo (lo+n)) ?_ (λ_ _ z=>z) ⟨rfl,g1,Lg⟩) ?_)
   .rintro _ c kJ _ _ ⟨rfl,g3,IT⟩
    refine wpS_bind (wpS_get ?_)
    by_cases hs:(pendingOf kJ).size>1
    .rw[ZM hs]
     have bg:(pendingOf kJ).size-2<(pendingOf kJ).size :=(acr (Zx hs) (by decide))
     rw[aak bg]
     dsimp only
     split
     .exact wpS_pure ⟨rfl,g3,IT⟩
     .refine wpS_bind (g3.merge L O hp (Zx (abO Nu)) (LH hs) λK9 g4 _ k4=>?_)
      exact wpS_pure ⟨rfl,g4,IT.keep λj j1 _=>k4 j j1⟩
    .rw[ZW hs]
     exact wpS_pure ⟨rfl,g3,IT⟩
   .rintro c kJ ⟨rfl,g3,IT⟩
    exact wpS_bind (wpS_modify (wpS_bind (wpS_modify (wpS_pure ⟨_,rfl,⟨g3.k,g3.a,g3.f,by
     show qh r (arrOf kJ) 0 (((pendingOf kJ).modify _ _).push _).toList _
     rw[acd,Array.toList_modify]
     exact(g3.c.power).snoc yT IT⟩,Gb,(adY PV yT)⟩))))
 case post=>
  rintro c eC ⟨lo,rfl,g0,xA⟩
  dsimp only
  refine wpS_bind (wpS_mono (wpS_forRange (I:=λi c ak=>c=(none,())/\yU r κ a₀ ak lo/\((pendingOf ak).size <=1\/(pendingOf ak).size+i<=lo)) (Q:=λc ak=>c=(none,())/\yU r κ a₀ ak lo/\(pendingOf ak).size <=1) ?_ ?_ ⟨rfl,g0,.inr ?_⟩) ?_)
  .rintro j c kJ _ _ ⟨rfl,g3,CI⟩
   refine wpS_bind (wpS_get ?_)
   by_cases hs:(pendingOf kJ).size <=1
   .rw[ZM hs]
    exact wpS_pure ⟨rfl,g3,hs⟩
   .rw[ZW hs]
    refine wpS_bind (g3.merge L O hp (ZF xA) (MT (by lia) (LH (abO hs))) λK9 g4 k4 _=>?_)
    exact wpS_pure ⟨rfl,g4,.inr (by lia)⟩
  .rintro c kJ ⟨hc,g3,CI⟩
   exact⟨hc,g3,by lia⟩
  .have:=g0.c.le
   rw[Z_]at this
   exact Zw (abq _ _) this
  .rintro c kJ ⟨rfl,g3,hs⟩
   refine wpS_pure (q kJ g3.a g3.f ?_)
   have hc:=g3.c
   have hl:(pendingOf kJ).toList.length <=1:=by rw[Z_];exact hs
   cases K8:(pendingOf kJ).toList with
   |nil=>
    rw[K8]at hc
    have:0=lo:=hc
    intro x y _ _ h3
    exact absurd xA (Z5 (qN h3 (Pf (aaa this) (abq _ _))))
   |cons x l=>
    rw[K8]at hc hl
    cases l with
    |cons _ _=>simp at hl
    |nil=>
     obtain⟨a,n,p⟩:=x
     refine yL hc λc1 c2 c3 c4=>?_
     have Xl:0+n=lo:=c4
     rw[<-xA,<-Xl]
     exact c3
end
open PySem.W
theorem md:∀u v:List Int,df u v=true->df v u=false
 |[],[],h=>by cases h
 |[],_::_,_=>rfl
 |_::_,[],h=>by cases h
 |n::u,m::v,h=>by
  unfold df at h⊢
  by_cases e:n=m
  .rw[ZM e]at h
   rw[ZM e.symm]
   exact md u v h
  .rw[ZW e]at h
   rw[ZW λz=>e z.symm]
   have:=of_decide_eq_true h
   exact decide_eq_false (abh (acQ this))
theorem qi:∀u v w:List Int,df v u=false->df w v=false->df w u=false
 |[],_,[],_,_=>rfl
 |[],_,_::_,_,_=>rfl
 |_::_,[],_,h,_=>by cases h
 |_::_,_::_,[],_,h=>by cases h
 |n::u,m::v,k::w,h1,h2=>by
  unfold df at h1 h2⊢
  by_cases e1:m=n
  .rw[ZM e1]at h1
   by_cases e2:k=m
   .rw[ZM e2]at h2
    rw[ZM (e2.trans e1)]
    exact qi u v w h1 h2
   .rw[ZW e2]at h2
    rw[ZW (λz=>e2 (z.trans e1.symm)),<-e1]
    exact h2
  .rw[ZW e1]at h1
   have g1:=of_decide_eq_false h1
   by_cases e2:k=m
   .rw[ZW (λz=>e1 (e2.symm.trans z))]
    exact decide_eq_false (abh (acS (aeA g1) (Int.le_of_eq (aaa e2))))
   .rw[ZW e2]at h2
    have g2:=of_decide_eq_false h2
    rw[ZW (by omega)]
    exact decide_eq_false (abh (acS (aeA g1) (aeA g2)))
theorem oE:∀u v:List Int,df u v=false->df v u=false->u=v
 |[],[],_,_=>rfl
 |[],_::_,h,_=>by cases h
 |_::_,[],_,h=>by cases h
 |n::u,m::v,h1,h2=>by
  unfold df at h1 h2
  by_cases e:n=m
  .rw[ZM e]at h1
   rw[ZM e.symm]at h2
   rw[e,oE u v h1 h2]
  .rw[ZW e]at h1
   rw[ZW λz=>e z.symm]at h2
   have:=of_decide_eq_false h1
   have:=of_decide_eq_false h2
   omega
def As:∀{l:List α},l.length<=1->l.Pairwise R
 |[],_=> .nil
 |[_],_=>acZ _ _
 |_::_::_,h=>absurd h (by simp)
def TupIs(h:Heap)(v:Value)(ns:List Int):Prop:=∃(x:Addr) (o:Obj) (xs:List Value) (n:Nat),v= .ref x/\h.get? x=some o/\o.cls= .type "tuple"/\o.data= .seq xs.toArray n/\IntsAre xs ns
def Au:∀{xs:List Value}{ns ms:List Int},IntsAre xs ns->IntsAre xs ms->ns=ms:=λ{xs ns ms} h=>by
 induction h generalizing ms with
 |nil=>intro h;cases h;rfl
 |cons n t r ih=>intro h;cases h with|cons m u r'=>rw[ih r']
def TupIs.one(h1:TupIs h v ns)(h2:TupIs h v ms):ns=ms:=by
 refine tT h1 λx o xs n ah a1 _ a3 a4=>?_
 try clear h1
 subst ah
 refine tT h2 λy o' ys n' e b1 _ b3 b4=>?_
 cases e
 rw[a1]at b1
 cases b1
 rw[a3]at b3
 injection b3 with b5 _
 have:xs=ys:=by simpa using b5
 subst this
 exact Au a4 b4
noncomputable def b_(h:Heap)(v:Value):List Int:=Classical.epsilon λns=>TupIs h v ns
def cL(e:TupIs h v ns):b_ h v=ns:=(aeJ (p:=λns=>TupIs h v ns) ⟨ns,e⟩).one e
def kQ.is(e:kQ h v):∃ns,TupIs h v ns:=by
 exact Ly e λx o xs n i r h1 h2 h3 h4 h5=>⟨i::r,x,o,xs,n,h1,h2,h3,h4,h5⟩
noncomputable def rT(h:Heap)(x y:Keyed):Bool:=df (b_ h x.1) (b_ h y.1)
def IU(h:Heap):Ord (rT h):=⟨λx y=>md _ _,λx y z=>qi _ _ _⟩
section
variable {prog:Program}{w:World}{A:Around}{E:Value->Shared->Prop}{s:Shared}
def Nw:∀{xs ys:List Value}{ns ms:List Int},IntsAre xs ns->IntsAre ys ms->fin=decide (xs.length<ys.length)->Q (df ns ms) s->∀i:Nat,(b=true\/0<i)->KatLex prog w A b fin Q (xs.zip ys) i s:=λ{xs ys ns ms} h=>by
 induction h generalizing ys ms with
 |nil=>
  intro h' hf q i _
  refine kat_nil ?_
  subst hf
  cases h' with
  |nil=>exact q
  |cons _ _ _=>simpa[df]using q
 |cons n t r ih=>
  intro h' hf q i hi
  cases h' with
  |nil=>exact kat_nil (by rw[hf];simpa[df]using q)
  |cons m u r'=>
   refine kat_cons (adv ?_)
   cases e:(n==m)with
   |true=>
    have e':n=m:=by simpa using e
    unfold df at q
    rw[ZM e']at q
    exact kat_yes (ih r' (by rw[hf];simp) q (i+1) (.inr (Nat.succ_pos _)))
   |false=>
    have e':¬n=m:=by simpa using e
    unfold df at q
    rw[ZW e']at q
    refine kat_no ?_
    by_cases h0:i=0
    .subst h0
     have hb:b=true:=hi.elim id λz=>absurd z (aaC _)
     subst hb
     exact oneLt_int q
    .have e:(b&&i==0)=false:=by cases b<;>simp[h0]
     rw[e]
     exact kat_one _ _ (PyProof.Rows.lt_int q)
def DT:kS prog w A E s (tuples' true) (λp=>kQ s.heap p.1) (rT s.heap):=λx y zt Q hx hy hk q=>by
 obtain⟨x1,x2⟩:=x
 obtain⟨y1,y2⟩:=y
 refine Ly hx λa o xs n i r ah h1 h2 h3 h4=>?_
 try clear hx
 subst ah
 refine Ly hy λb o' ys n' j r' aM g1 g2 g3 g4=>?_
 try clear hy
 subst aM
 have q':Q (some (df (i::r) (j::r'))) zt:=by
  have e1:b_ s.heap (.ref a)=i::r:=cL ⟨a,o,xs,n,rfl,h1,h2,h3,h4⟩
  have e2:b_ s.heap (.ref b)=j::r':=cL ⟨b,o',ys,n',rfl,g1,g2,g3,g4⟩
  have:=q
  unfold rT at this
  dsimp only at this
  rwa [e1,e2]at this
 rw[lt'_eq]
 refine wpS_bind (wpS_get ?_)
 rw[hk]
 refine wpS_bind (wpS_lift (aci (kat_lt (b:=true) h1 h3 g1 g3 ?_)))
 have e1:xs.toArray.toList=xs:=by simp
 have e2:ys.toArray.toList=ys:=by simp
 rw[e1,e2]
 exact Nw h4 g4 (by simp) ⟨rfl,wpS_pure q'⟩ 0 (.inl rfl)
def DU(ho:s.heap.get? a=some (seqObj "list" vs.toArray n))(hv:∀v∈vs,kQ s.heap v)(hz:vs.length<=sizeLine)
  (h:∀out:List Value,out.Perm vs->out.Pairwise (λx y=>df (b_ s.heap y) (b_ s.heap x)=false)->R (.done (.ret .none)) {s with heap:=sortedHeap s.heap a vs out.toArray}):wpAny (model prog w) A (Builtin.«list.sort» ⟨[.ref a],[]⟩) R E s:=by
 rw[list_sort_plain]
 have bg:a<s.heap.objs.size:=ZO ho
 have fy:∀v∈vs,∀x,v= .ref x->x≠a:=λv m x e z=>by
  refine au λnO=>?_
  obtain⟨x',o,xs,k,i,r,e',g1,g2,_⟩:=hv v m
  rw[e]at e'
  cases e'
  rw[z,ho]at g1
  cases g1
  refine nO ?_
  have Xm:Value.type "list"=Value.type "tuple":=g2
  injection Xm with g3
  exact absurd g3 (by decide)
 refine Zq (listItems_at ho rfl (Zq (listUpdate_at ho rfl ?_ (by rw[ZI];exact hz) (aab _))))
 obtain⟨e1,PX⟩:∃e1,(s.heap.update a (Obj.mapSeq λ_=>#[])).get? a=some (seqObj "list" #[] e1):=⟨_,get?_update_seq ho (λ_=>#[])⟩
 refine Zq (seqEpoch_at PX rfl (Zq (wpAny_newTuple (Zq (wpAny_newList (aaO ?_) (aab _))) (by show vs.length<=_;exact hz))))
 have up:∀b o,b≠a->s.heap.get? b=some o->(((s.heap.update a (Obj.mapSeq λ_=>#[])).push (seqObj "tuple" vs.toArray 0)).push (seqObj "list" #[] 0)).get? b=some o:=λb o hb e=>
  Zv _ (Zv _ (by rw[aap _ _ (aaH hb)];exact e))
 have Sz:(((s.heap.update a (Obj.mapSeq λ_=>#[])).push (seqObj "tuple" vs.toArray 0)).push (seqObj "list" #[] 0)).get? a=some (seqObj "list" #[] e1):=Zv _ (Zv _ PX)
 show wpAny (model prog w) A _ R E {s with heap:=((s.heap.update a (Obj.mapSeq λ_=>#[])).push (seqObj "tuple" vs.toArray 0)).push (seqObj "list" #[] 0)}
 generalize hh:((s.heap.update a (Obj.mapSeq λ_=>#[])).push (seqObj "tuple" vs.toArray 0)).push (seqObj "list" #[] 0)=h6 at up Sz⊢
 have Vj:∀v∈vs,kQ h6 v:=λv m=>by
  refine au λnO=>?_
  obtain⟨x,o,xs,k,i,r,e',g1,g2,g3,g4⟩:=hv v m
  exact nO<|⟨x,o,xs,k,i,r,e',up x o (fy v m x e') g1,g2,g3,g4⟩
 have same:∀v∈vs,b_ h6 v=b_ s.heap v:=λv m=>by
  refine au λnO=>?_
  obtain⟨ns,x,o,xs,k,e',g1,g2,g3,g4⟩:=(hv v m).is
  refine nO ?_
  rw[cL (h:=s.heap) ⟨x,o,xs,k,e',g1,g2,g3,g4⟩]
  exact cL ⟨x,o,xs,k,e',up x o (fy v m x e') g1,g2,g3,g4⟩
 dsimp only
 have ends:∀(zt:SortSt) (out:List Value),(arrOf zt).map (·.2)=out.toArray->out.Perm vs->out.Pairwise (λx y=>df (b_ s.heap y) (b_ s.heap x)=false)->failedOf zt=none->wpAny (model prog w) A (do
   let touched:=(<-seqEpoch a) !=e1
   Builtin.List.listUpdate (.ref a) λ_=>(arrOf zt).map (·.2)
   if let some e:=failedOf zt then rule "list.sort.comparison-raised";throw e
   if touched then rule "list.sort.modified";raiseError "ValueError" "list modified during sort"
   ret .none) R E {s with heap:=h6}:=λzt out e hp Aq hf=>by
  rw[e,hf]
  refine Zq (seqEpoch_at Sz rfl (Zq (listUpdate_at Sz rfl ?_ (aab _) (by rw[ZI,hp.length_eq];exact Zw hz (by decide)))))
  simp only[bne_self_eq_false,abp,if_false]
  have:=h out hp Aq
  unfold sortedHeap at this
  rw[hh]at this
  exact ZC this
 by_cases h2:vs.toArray.size<2
 .rw[ZM h2,ZM h2]
  refine Zq (ZC ?_)
  rw[StateT.run_pure]
  refine Zq (ZC ?_)
  exact ends (SortSt.mk' general' (vs.toArray.zip vs.toArray) #[] 7 none) vs (rO vs) (List.Perm.refl _) (As (by rw[ZI]at h2;exact aan h2)) rfl
 .rw[ZW h2,ZW h2]
  refine au λnO=>?_
  obtain⟨fs,k1,k2,k3⟩:=kr Vj
  refine nO ?_
  have Vk:2<=vs.length:=by rw[ZI]at h2;exact Z0 h2
  refine Zq (kat_kind (s:={s with heap:=h6}) (T:= .type "int") k1 (Zr (Zx Vk) (ZF (aaa k3))) (λv m=>?_) rfl ?_)
  .obtain⟨i,t,rfl⟩:=k2 v m
   exact Looks.now
  have zm:∀p∈vs.toArray.zip vs.toArray,p.1=p.2/\p.2∈vs:=λp m=>by
   obtain⟨i,hi,e⟩:=aeQ.mp m
   rw[Array.getElem_zip]at e
   rw[<-e]
   exact⟨rfl,by simp⟩
  refine Zq (aaJ (ux (s:={s with heap:=h6}) (κ:=tuples' true) (P:=λp=>kQ h6 p.1) (r:=rT h6) (a₀:=vs.toArray.zip vs.toArray) (Q:=λ_ zt=>(arrOf zt).Perm (vs.toArray.zip vs.toArray)/\failedOf zt=none/\So (rT h6) (arrOf zt) 0 (vs.toArray.zip vs.toArray).size) DT (IU h6) (λp m=>by rw[(zm p m).1];exact Vj _ (zm p m).2) ⟨rfl,adI _,rfl,rfl⟩ λzt g1 g2 g3=>⟨g1,g2,g3⟩) ?_ λ_ _ e=>e)
  rintro⟨⟨⟩,zt⟩ s' ⟨rfl,g1,g2,g3⟩
  dsimp only at g1 g2 g3⊢
  refine ends zt ((arrOf zt).map (·.2)).toList afd.symm ?_ ?_ g2
  .have:=(adL.mp g1).map (λp:Keyed=>p.2)
   rw[adA]
   refine this.trans (List.Perm.of_eq ?_)
   have e:=congrArg Array.toList (rO vs)
   rw[adA]at e
   exact e
  .have hsz:(arrOf zt).size =(vs.toArray.zip vs.toArray).size :=g1.size_eq
   have pw:=rW (xs:=arrOf zt) (lo:=0) (n:=(vs.toArray.zip vs.toArray).size) (by rw[aaE];exact g3) (nu (aaa hsz) (ZF (aaE _)))
   have e0:sg (arrOf zt) 0 (vs.toArray.zip vs.toArray).size =(arrOf zt).toList :=by
    unfold sg
    rw[acK]
    exact aay (by rw[Z_,hsz];exact ZG _)
   rw[e0]at pw
   rw[adA,abl]
   refine pw.imp_of_mem λ{x y} mx my yV=>?_
   obtain⟨x1,x2⟩:=zm x (g1.mem_iff.mp (abE.mp mx))
   obtain⟨y1,y2⟩:=zm y (g1.mem_iff.mp (abE.mp my))
   have:=yV
   unfold le rT at this
   rw[x1,y1,same _ x2,same _ y2]at this
   exact this
end
abbrev PY(x y:List Int):Prop:=df y x=false
theorem jQ(x:List Int):∀l,(xF x l).Perm (x::l)
 |[]=> .refl _
 |y::r=>by
  unfold xF
  split
  .exact((jQ x r).cons y).trans (.swap x y r)
  .exact .refl _
theorem dP:∀l,(c8 l).Perm l
 |[]=> .refl _
 |x::r=>(jQ x (c8 r)).trans ((dP r).cons x)
theorem vF(x:List Int):∀l:List (List Int),l.Pairwise PY->(xF x l).Pairwise PY
 |[],_=>acZ _ _
 |y::r,h=>by
  unfold xF
  rw[abd]at h
  split
  .rename_i SA
   refine abd.mpr ⟨λz hz=>?_,vF x r h.2⟩
   rcases ZK.mp ((jQ x r).mem_iff.mp hz)with e|hz
   .rw[e];exact md _ _ SA
   .exact h.1 z hz
  .rename_i SA
   have Nx:df y x=false:=by simpa using SA
   refine abd.mpr ⟨λz hz=>?_,abd.mpr h⟩
   rcases ZK.mp hz with e|hz
   .rw[e];exact Nx
   .exact qi x y z Nx (h.1 z hz)
theorem rX:∀l,(c8 l).Pairwise PY
 |[]=> .nil
 |x::r=>vF x _ (rX r)
def Av(hp:l.Perm m)(hs:l.Pairwise PY):l=c8 m:=
 (hp.trans (dP m).symm).eq_of_pairwise (λa b _ _ h1 h2=>oE a b h2 h1) hs (rX m)
end dw
namespace L2
open PySem PySem.Spec PyProof.Rows PySem.W dw
section
variable {prog:Program}{w:World}{A:Around}{E:Value->Shared->Prop}{s:Shared}{d it:Addr}{es:Array DictEntry}{ep i:Nat}
def rY(hv:kQ h v)(k:∀b o,h.get? b=some o->h'.get? b=some o):b_ h' v=b_ h v:=by
 refine Pd hv.is λns x o xs n e g1 g2 g3 g4=>?_
 rw[cL (h:=h) ⟨x,o,xs,n,e,g1,g2,g3,g4⟩]
 exact cL ⟨x,o,xs,n,e,k x o g1,g2,g3,g4⟩
def qk(hh:A.handled=none)(lo:(d==sysModules)=false)(r:fR s.heap d es ep)(hz:es.size<=sizeLine)(hk:∀e∈es,dw.kQ s.heap e.key)
  (h:∀(h1 h':Heap) (tk c:Nat) (vs:List Value),(∀b o,s.heap.get? b=some o->h1.get? b=some o)->(∀b o,h1.get? b=some o->h'.get? b=some o)->h'.get? h1.objs.size=some {cls:= .type "list",data:= .seq vs.toArray c}->vs.Perm (es.toList.map (·.key))->vs.Pairwise (λx y=>df (b_ s.heap y) (b_ s.heap x)=false)->Q (.ref h1.objs.size) {s with heap:=h',toks:=tk}):
  wpAny (model prog w) A (call (.builtin "sorted") [.ref d]) Q E s:=by
 refine adZ kind_sorted plain_sorted entry_sorted (args_sorted1 _) ?_
 unfold Builtin.«sorted»
 refine Zq (m:=checkCount "sorted" 1 1 _) (ZC (Zq (kdu_collect (A:=A.in1) (vA lo) hh r hz λh1 tk acc k1 it=>?_)))
 have hl:acc.toList.length=es.size:=by rw[Z_];exact it.1
 have eq:acc.toList=es.toList.map (·.key):=by
  apply abx
  intro j
  rcases aaM j es.size with z|z
  .have hj:j<acc.toList.length:=(Zr z (ZF (aaa hl)))
   refine aa (it.2 j acc.toList[j] (by rw[<-aaD];exact Zt hj)) λe e1 e2=>?_
   rw[Zt hj,ZJ,aaD,e1,e2]
   rfl
  .rw[Z6 (Zw (ZF hl) z),Z6 (by simpa using z)]
 have hm:∀v∈acc.toList,∃e∈es,v=e.key:=λv m=>by
  rw[eq]at m
  exact aa (ZT.mp m) λe e1 e2=>⟨e,abE.mp e1,e2.symm⟩
 have ht:∀v∈acc.toList,kQ s.heap v:=λv m=>by
  refine aa (hm v m) λe e1 ah=>?_
  subst ah
  exact hk e e1
 have kp:∀b o,s.heap.get? b=some o->(h1.push (seqObj "list" acc.toList.toArray 0)).get? b=some o:=λb o e=>Zv _ (k1 b o e)
 refine Zq (wpAny_newList ?_ (by rw[hl];exact hz))
 have ho:(h1.push (seqObj "list" acc.toList.toArray 0)).get? h1.objs.size=some (seqObj "list" acc.toList.toArray 0):=ZN _ rfl
 refine Zq (aaO (aaA slot_list_sort ⟨_,ho,rfl⟩ entry_list_sort (dw.DU (s:={s with heap:=h1.push (seqObj "list" acc.toList.toArray 0),toks:=tk}) ho (λv m=>?_) (by rw[hl];exact hz) λout hp Aq=>⟨_,rfl,ZC ⟨_,rfl,?_⟩⟩) (args_list_sort _)))
 .exact Ly (ht v m) λx o xs n i rr g0 g1 g2 g3 g4=>⟨x,o,xs,n,i,rr,g0,kp x o g1,g2,g3,g4⟩
 .have u1:=get?_update_seq ho (λ_=>#[])
  have u2:=Zv (seqObj "tuple" acc.toList.toArray 0) u1
  have u3:=Zv (seqObj "list" #[] 0) u2
  have u4:=get?_update_seq u3 (λ_=>out.toArray)
  refine h h1 _ tk _ out k1 (λb o e=>?_) u4 (by rw[<-eq];exact hp) (Aq.imp_of_mem λ{x y} mx my yV=>?_)
  .have hb:b≠h1.objs.size:=Z5 (ZO e)
   unfold sortedHeap
   rw[aap _ _ (aaH hb)]
   refine Zv _ (Zv _ ?_)
   rw[aap _ _ (aaH hb)]
   exact Zv _ e
  .have e1:=rY (ht x (hp.mem_iff.mp mx)) kp
   have e2:=rY (ht y (hp.mem_iff.mp my)) kp
   rw[<-e1,<-e2]
   exact yV
end
def DV(I:Inv X U σ H s)(e:Rd H a (.dT az)):∃es ep,fR s.heap a es ep/\es.size=az.length/\(a==sysModules)=false/\az.length<=sizeLine/\
  Paired (λ(kv:List cq×V) (v:Value)=>∃b,v= .ref b/\H b=some (.tup (kv.1.map kV))) az (es.toList.map (·.key)):=by
 refine au λnO=>?_
 obtain⟨z,lo,xs,dX,o,es,ep,h1,h2,h3,h4,h5,h6⟩:=kq I.aI e
 refine nO ?_
 have hl:es.size=az.length:=by
  have e1:=acV dX
  have e2:=congrArg List.length h4
  rw[Z_,ZA]at e2
  exact afb e2 (aaa e1)
 refine⟨es,ep,⟨o,h1,h2,h3⟩,hl,lo,z,?_⟩
 rw[h4,aaw]
 have all:∀{l:List (List cq×V)}{m:List (List cq×Addr×Value)},KT H l m->Paired (λ(kv:List cq×V) (v:Value)=>∃b,v= .ref b/\H b=some (.tup (kv.1.map kV))) l (m.map ((λx:DictEntry=>x.key)∘entryOfKey (tupleKind (aS X.prog X.w)))):=by
  intro l m q
  induction q with
  |nil=>exact .nil
  |@cons p q ps qs hq t ih=>exact .cons ⟨q.2.1,rfl,hq.2.1⟩ ih
 exact all dX
section
variable {X:Cx}
def me(I:Inv X U σ H s)(h:H b=some (.tup (k.map V.int))):TupIs s.heap (.ref b) k:=by
 obtain⟨_,its,rv,o,g1,g2,⟨n,g3⟩,_⟩:=(show aT X.prog X.w H s.heap b (.tup (k.map V.int)) from I.aI b _ h)
 exact⟨b,o,its,n,rfl,g1,g2,g3,intsAre_of rv⟩
def DW(e:TupIs h v k)(hk:k≠[]):kQ h v:=by
 refine tT e λx o xs n h1 h2 h3 h4 h5=>?_
 cases k with
 |nil=>exact absurd rfl hk
 |cons i r=>exact⟨x,o,xs,n,i,r,h1,h2,h3,h4,h5⟩
def TupAt(H:Hp)(u:V)(k:List Int):Prop:=∃b,u= .ref b/\H b=some (.tup (k.map V.int))
theorem vG(I:Inv X U σ H s):∀{vs:List Value},(∀v∈vs,∃b k,v= .ref b/\H b=some (.tup (List.map V.int k)))->∃us:List V,aE us vs/\us.length=vs.length/\Paired (TupAt H) us (vs.map (b_ s.heap))
 |[],_=>⟨[],.nil,rfl,.nil⟩
 |v::vs,h=>by
  refine bB (vG I (vs:=vs) λz hz=>h z (Zy _ hz)) λus u1 u2 u3=>dU (h v ZD) λb k ah hb=>?_
  subst ah
  refine⟨.ref b::us,.cons rfl u1,by rw[Z3,Z3,u2],?_⟩
  rw[Z4,cL (me I hb)]
  exact .cons ⟨b,rfl,hb⟩ u3
def ql(hc:X.calm=true):cA X (.builtin "sorted") (λxs H Q=>∃a az ks,xs=[V.ref a]/\Rd H a (.dT az)/\az.map (·.1)=ks.map (λk:List Int=>k.map (Sum.inl:Int->cq))/\(∀k∈ks,k≠[])/\
  ∀(l:Addr) (us:List V),H l=none->Paired (TupAt H) us (c8 ks)->Q (.ref l) (upd H l (.lst us))):=by
 intro U s σ H xs us Q I r zz
 refine tS zz λa az ks e hd CH fy q=>?_
 subst e
 refine aa (vals1 r) λu ah ru=>?_
 subst ah
 cases ru
 refine iE (DV I hd) λes ep r1 r2 r3 r4 r5=>?_
 have pk:∀{az:List (List cq×V)}{ks:List (List Int)}{vs:List Value},az.map (·.1)=ks.map (λk:List Int=>k.map (Sum.inl:Int->cq))->Paired (λ(kv:List cq×V) (v:Value)=>∃b,v= .ref b/\H b=some (.tup (kv.1.map kV))) az vs->vs.map (b_ s.heap)=ks/\∀v∈vs,∃b,∃k∈ks,v= .ref b/\H b=some (.tup (List.map V.int k)):=by
  intro az ks vs hk p
  induction p generalizing ks with
  |nil=>
   cases ks with
   |nil=>exact⟨rfl,λ_ z=>nomatch z⟩
   |cons _ _=>cases hk
  |@cons kv v az vs hq _ ih=>
   cases ks with
   |nil=>cases hk
   |cons k ks=>
    rw[Z4,Z4]at hk
    injection hk with h1 h2
    obtain⟨i1,i2⟩:=ih h2
    refine aa hq λb aM hb=>?_
    try clear hq
    subst aM
    rw[h1,aaw]at hb
    have lS:H b=some (.tup (List.map V.int k)):=hb
    refine⟨by rw[Z4,i1,cL (me I lS)],λw hw=>?_⟩
    rcases ZK.mp hw with e|hw
    .exact⟨b,k,ZD,e,lS⟩
    .exact bu (i2 w hw) λb2 k2 m2 e2 g2=>⟨b2,k2,Zy _ m2,e2,g2⟩
 obtain⟨p1,p2⟩:=pk CH r5
 have hI:∀v∈es.toList.map (·.key),kQ s.heap v:=λv m=>by
  refine bu (p2 v m) λb k mk cO hb=>?_
  subst cO
  exact DW (me I hb) (fy k mk)
 refine qk (I.ok.hd hc) r3 r1 (by rw[r2];exact r4) (λen PZ=>hI _ (ZT.mpr ⟨en,abE.mpr PZ,rfl⟩)) λh1 h' tk c vs k1 k2 e1 e2 e3=>?_
 have Ny:(vs.map (b_ s.heap)).Perm ks:=by
  have:=e2.map (b_ s.heap)
  rwa [p1]at this
 have SD:vs.map (b_ s.heap)=c8 ks:=Av Ny (abl.mpr e3)
 have I1:Inv X U σ H {s with heap:=h1,toks:=tk}:=I.kept (t':=tk) k1
 obtain⟨us,u1,u2,u3⟩:=vG I (vs:=vs) λv m=>by
  exact bu (p2 v (e2.mem_iff.mp m)) λb k _ e hb=>⟨b,k,e,hb⟩
 rw[SD]at u3
 have aV:vs.length=es.size:=by rw[e2.length_eq];simp
 have I2:Inv X U σ (upd H h1.objs.size (.lst us)) {s with heap:=h',toks:=tk}:=by
  have:=I1.laid (a:=h1.objs.size) (o:= .lst us) (t':=tk) k2 (ZG _) (show aT X.prog X.w _ h' _ (.lst us) from⟨by rw[u2,aV,r2];exact r4,vs,c,u1,e1⟩)
  exact this
 exact⟨.ref h1.objs.size,_,I2,rfl,q _ us (I1.aI.fresh (ZG _)) u3⟩
end
section
variable {prog:Program}{w:World}{A:Around}{E:Value->Shared->Prop}{s:Shared}{X:Cx}{R:Result->Shared->Prop}{I:Addr}{fp wr:List Addr}{n:Nat}{P:Nat->Value->Prop}{St:Nat->Heap->Prop}
end
end L2
namespace dw
end dw
namespace L2
open PySem PySem.Spec PyProof.Rows PySem.W dw
section
variable {X:Cx}
end
end L2
namespace PySem
namespace F
def Aw:mroOf (.type "reversed")=pure [.type "reversed",.type "object"]:=by rw[mroOf_type];kernel_rfl
def IV:typeLookup (.type "reversed") "__new__"=pure (some (.builtin "reversed.__new__")):=by rw[typeLookup_type,builtinLookup_eq_fast];kernel_rfl
def DX:Slot "reversed" "__init__" "object.__init__":= .of (owner:="object") (n:="__init__") (by rw[typeLookup_type,builtinLookup_eq_fast];kernel_rfl) (by decide +kernel) (by decide +kernel) (by decide +kernel) (by first|exact .inl (by decide +kernel)|exact .inr (by decide +kernel)) (by rw[isSubtype_type];kernel_rfl)
def xW:TypeCalled "reversed" "reversed.__new__" "object.__init__":=
 ⟨by decide +kernel,by decide +kernel,⟨_,_,Aw⟩,madeBy_type Aw IV (by decide +kernel),by decide +kernel,by rw[isSubtype_type];kernel_rfl,DX⟩
def Nz(a:Value):checkTypeCall "reversed" ⟨[a],[]⟩=pure ():=by kernel_rfl
def NA(a:Value):checkBuiltinCall "reversed.__new__" ⟨[.type "reversed",a],[]⟩=pure ():=by kernel_rfl
def Ax:entryFor table "reversed.__new__"=some Builtin.«reversed.__new__»:=entryFor_of_tree (by kernel_rfl)
def i9:Slot "reversed" "__next__" "reversed.__next__":= .of (owner:="reversed") (n:="__next__") (by rw[typeLookup_type,builtinLookup_eq_fast];kernel_rfl) (by decide +kernel) (by decide +kernel) (by decide +kernel) (by first|exact .inl (by decide +kernel)|exact .inr (by decide +kernel)) (by rw[isSubtype_type];kernel_rfl)
def hU:entryFor table "reversed.__next__"=some Builtin.«reversed.__next__»:=entryFor_of_tree (by kernel_rfl)
def DY:typeLookup (.type "tuple") "__reversed__"=pure none:=by rw[typeLookup_type,builtinLookup_eq_fast];kernel_rfl
def IW:isSubtype (.type "reversed") (.type "reversed")=pure true:=by rw[isSubtype_type];kernel_rfl
def vH:Slot "reversed" "__iter__" "reversed.__iter__":= .of (owner:="reversed") (n:="__iter__") (by rw[typeLookup_type,builtinLookup_eq_fast];kernel_rfl) (by decide +kernel) (by decide +kernel) (by decide +kernel) (by first|exact .inl (by decide +kernel)|exact .inr (by decide +kernel)) (by rw[isSubtype_type];kernel_rfl)
def nM:entryFor table "reversed.__iter__"=some Builtin.«dict_keyiterator.__iter__»:=entryFor_alias (id':="dict_keyiterator.__iter__") (by kernel_rfl) (by first|rfl|decide +kernel|(unfold String.splitOn;simp +decide [String.splitOnAux])) (by decide +kernel) (by kernel_rfl)
end F
def xX(a:Value):argsOk "reversed.__iter__" ⟨[a],[]⟩:=by unfold argsOk;kernel_rfl
def oF(a:Value):argsOk "reversed.__next__" ⟨[a],[]⟩:=by unfold argsOk;kernel_rfl
end PySem
namespace L2
open PySem PySem.Spec PyProof.Rows
open AutoSeq1 (wpAny_loadPart')
noncomputable abbrev DZ(l:Addr)(i:Int):Obj:={cls:= .type "reversed",data:= .fields #[.ref l,rawInt i]}
def Ay(l:Addr)(items:Array Value)(n:Nat)(Dt:Option Addr)(sl:Array (Option Value)):
  Meets (Builtin.«reversed.__new__» ⟨[.type "reversed",.ref l],[]⟩) (λ_ R s=>s.heap.get? l=some {cls:= .type "tuple",dict:=Dt,data:= .seq items n,slots:=sl}/\items.size<2 ^ 62/\
   ∀tk,R (.ok (.ret (.ref s.heap.objs.size))) {s with heap:=s.heap.push (DZ l ((items.size:Int)-1)),toks:=tk}):=
 .of_wp λprog w A R s h=>by
  obtain⟨hp,g,d,tk,os⟩:=s
  obtain⟨hl,hz,h⟩:=h
  have sb:=F.IW
  have no:=F.DY
  have hT:Shared.TypeIs ⟨hp,g,d,tk,os⟩ (.ref l) "tuple":=⟨_,hl,rfl⟩
  have nd:isSubtype (.type "tuple") (.type "dict")=pure false:=by rw[isSubtype_type];kernel_rfl
  have gi:=F.slot_tuple_getitem.lookup
  have hL:IsTup (Shared.heap ⟨hp,g,d,tk,os⟩) l items:=⟨_,hl,rfl,n,rfl⟩
  have Gm:(items.size:Int)<2 ^ 63:=by lia
  wp_walk using abZ hl,PyProof.Rows.len_tuple hL Gm
  exact⟨_,rfl,h _⟩
section
variable {prog:Program}{w:World}{A:Around}{E:Value->Shared->Prop}{s:Shared}
def rZ(h:Heap)(it l:Addr)(i:Int):Prop:=∃o,h.get? it=some o/\o.cls= .type "reversed"/\o.data= .fields #[.ref l,rawInt i]
def rZ.ty(r:rZ s.heap it l i):s.TypeIs (.ref it) "reversed":=let ⟨o,e,c,_⟩:=r;⟨o,e,c⟩
def D0(hL:IsTup s.heap l items)(hz:items.size<2 ^ 62)
  (h:∀tk,Q (.ref s.heap.objs.size) {s with heap:=s.heap.push (DZ l ((items.size:Int)-1)),toks:=tk}):
  wpAny (model prog w) A (call (.type "reversed") [.ref l]) Q E s:=by
 refine au λnO=>?_
 obtain⟨⟨c,Dt,dt,sl⟩,hl,hc,n,hd⟩:=hL
 have kY:c= .type "tuple":=hc
 have iF:dt= .seq items n:=hd
 subst kY iF
 refine nO ?_
 refine callType_new F.xW (by decide) (F.Nz _) (F.NA _) (λobj=>adC obj _) F.Ax (Ay l items n Dt sl) ⟨hl,hz,λtk=>?_⟩
 exact⟨⟨_,ZN _ rfl,rfl⟩,h tk⟩
def vI(st:rZ s.heap it l i)(h:Q (.ref it) s):wpAny (model prog w) A (pyIter (.ref it)) Q E s:=by
 refine wpAny_pyIter_slot st.ty F.vH (aaA F.vH st.ty F.nM ?_ (xX _))
 show wpAny _ _ (ret (.ref it)) _ _ s
 exact ZC ⟨_,rfl,"reversed",_,st.ty,F.i9.lookup,h⟩
def D1{i:Nat}(st:rZ s.heap it l i)(hl:IsTup s.heap l items)(hx:items[i]?=some x)(hz:items.size<2 ^ 62)
  (hQ:∀h' tk,rZ h' it l ((i:Int)-1)->Heap.SameBut it s.heap h'->Q (some x) {s with heap:=h',toks:=tk}):wpAny (model prog w) A (pyNext (.ref it)) Q E s:=by
 have T:=st.ty
 refine bB (id st) λo ho hc hd=>?_
 have TL:s.TypeIs (.ref l) "tuple":=let ⟨ol,a,b,_⟩:=hl;⟨ol,a,b⟩
 have hi:i<items.size:=(Array.getElem?_eq_some_iff.mp hx).1
 unfold pyNext
 refine Zq (aci (aav (name:=Str.ofString "__next__") T F.i9 (aaA F.i9 T F.hU ?_ (oF _))))
 show wpAny _ _ (field (.ref it) 0 >>= _) _ _ s
 refine Zq (aaF ho hd (x:= .ref l) rfl ?_)
 show wpAny _ _ (field (.ref it) 1 >>= _) _ _ s
 refine Zq (aaF ho hd (x:= .int i 0) rfl ?_)
 show wpAny _ _ (if((i:Nat):Int)<0 then _ else _) _ _ s
 rw[ZW (abh (ZX _))]
 have gi:=F.slot_tuple_getitem.lookup
 refine Zq (aeP TL gi ?_)
 show wpAny _ _ (mkInt ((i:Nat):Int) >>= _) _ _ s
 refine Zq (wpAny_mkInt ?_)
 refine Zq (aci (PyProof.Rows.getItem_tuple (j:=i) (x:=x) (s:={s with toks:=s.toks+1}) hl (ZX _) (by lia) (by unfold seqIndex?;simp;exact QP hi) hx ?_))
 show wpAny _ _ (field (.ref it) 1 >>= _) _ _ {s with toks:=s.toks+1}
 refine Zq (aaF ho hd (x:= .int i 0) rfl ?_)
 show wpAny _ _ (setField (.ref it) 1 (rawInt ((i:Int)-1)) >>= _) _ _ {s with toks:=s.toks+1}
 refine Zq (aba ho hd (by simp) (ZC ⟨x,rfl,ZC (hQ _ _ ⟨_,aaY _ ho (abB (aaW hd _)),(aee ..).trans hc,?_⟩ (abi ..))⟩))
 rw[aaW hd]
 simp[rawInt]
def IX(hh:A.handled=none)(st:rZ s.heap it l (-1))(hQ:∀h',Heap.ExtBut it s.heap h'->Q none {s with heap:=h'}):wpAny (model prog w) A (pyNext (.ref it)) Q E s:=by
 have T:=st.ty
 refine bB (id st) λo ho hc hd=>?_
 unfold pyNext
 refine Zq (aci (aav (name:=Str.ofString "__next__") T F.i9 (aaA F.i9 T F.hU ?_ (oF _))))
 show wpAny _ _ (field (.ref it) 0 >>= _) _ _ s
 refine Zq (aaF ho hd (x:= .ref l) rfl ?_)
 show wpAny _ _ (field (.ref it) 1 >>= _) _ _ s
 refine Zq (aaF ho hd (x:= .int (-1) 0) rfl ?_)
 refine Zq (acs (Zq ?_))
 refine Zq (m:=setField (.ref it) 1 (rawInt (-1))) (aba ho hd (by simp) ?_)
 have PX:(s.heap.update it (Obj.mapFields (·.setIfInBounds 1 (rawInt (-1))))).get? it=some (Obj.mapFields (·.setIfInBounds 1 (rawInt (-1))) o):=aaY _ ho (abB (aaW hd _))
 refine aba PX (aaW hd _) (by simp)<|Zq ?_
 unfold Builtin.SmallTypes.stopIteration
 refine Zq ?_
 simp only[newExc,newTuple]
 refine Zq (Z' ?_ (by size_fits))
 refine Zq (m:=firstArgMember _ _) (afo (a:=Value.none) (by first|rfl|(simp only[firstArgMember];rfl)) ?_)
 refine Z' ?_ (by size_fits)
 simp only[raiseNew]
 refine Zq (aeq ?_)
 first|rw[show A.in1.handled=none from hh]|rw[hh]
 refine Zq (ZC (afp ?_))
 refine Zq (aew (T:="StopIteration") (b:=true) ⟨_,ZN _ rfl,rfl⟩ isSubtype_stop ?_)
 exact ZC (hQ _ ((((abi ..).trans (abi ..)).extBut.push _).push _))
end
noncomputable def NB(K:aC)(a:Addr)(n:Nat):It:=
 ⟨λi H=>∃xs,cC K H a xs/\xs.length=n/\i<n,λi H x H'=>H'=H/\∀xs,cC K H a xs->xs[n-1-i]?=some x,λi H=>i=n⟩
def D2{K:aC}(a it:Addr)(n:Nat):pN P w K tg (NB K a n) [it] it (λi h=>rZ h it a ((n:Int)-1-i)) where
 mem:=by simp
 obj:=λi h st b hb=>by
  have e:b=it:=by simpa using hb
  subst e
  exact bB st λo e c d=>⟨o,e,λv z=>by rw[d]at z;cases z⟩
 keep:=λi h h' st k=>let ⟨o,e,r⟩:=st;⟨o,k it (by simp) o e,r⟩
 item:=by
  intro X hP hw hK hc i U s σ H E I hf st hg
  subst hP hw hK
  refine bB hg λxs hq hl hi=>bB (I.tuple hq) λits rv p hz=>tK (hf it (by simp)) λf0 f1 f2 f3 f4 f5=>?_
  have hj:n-1-i<xs.length:=(nu (aaa hl) (QH hi))
  refine aa (rv.get (Zt hj)) λu hu ru=>?_
  have len:=rv.length
  have ei:(n:Int)-1-i=((n-1-i:Nat):Int):=(LD hi)
  rw[ei]at st
  refine D1 st p (x:=u) (by simpa using hu) (by rw[ZI];rw[sizeLine_eq]at hz;lia) λh' tk ak sb=>?_
  have I1:Inv X U σ H {s with heap:=h',toks:=tk}:=I.turned (t':=tk) (λb o hb e=>(sb.2 b hb).trans e) f0 f1 f3 f4 f5
  refine bB (id ak) λo e c d=>⟨u,rfl,nX (s:={s with heap:=h',toks:=tk}) e c d (by decide) ⟨xs[n-1-i],H,I1,ru,⟨rfl,λys hy=>by rw[I.jG hy hq];exact Zt hj⟩,?_,λb hb=>(hf b hb).1⟩⟩
  have e2:(n:Int)-1-((i+1:Nat):Int)=((n-1-i:Nat):Int)-1:=by lia
  rw[e2]
  exact ak
 done:=by
  intro X hP hw hK hc i U s σ H E I hf st hg
  subst hP hw hK
  have hg:i=n:=hg
  subst hg
  refine tK (hf it (by simp)) λf0 f1 f2 f3 f4 f5=>?_
  have ei:(i:Int)-1-i= -1:=by lia
  rw[ei]at st
  exact IX (I.ok.hd hc) st λh' eb=>⟨rfl,I.turned (t':=s.toks) (λb o hb e=>eb b o hb e) f0 f1 f3 f4 f5⟩
 self:=λ_ _ _ _ _ st h=>vI st h
section
variable {X:Cx}{tg:Expr}
def Xn(K:aC)(ta:TA):TI:=λσ H R=>ta σ H λvs H1=>∃a xs,vs=[.ref a]/\cC K H1 a xs/\R (NB K a xs.length) H1
def ND{p pos:Pos}(hg:Gl X "reversed")(hm:X.mg "reversed"=none)(ha:PA X [a] ta)(hs:starEach [a] X.env=[(false,eval a X.env)]):PI X tg (.Call (.Name "reversed" p) [a] [] pos) (Xn X.K ta):=by
 intro U s σ H R I h
 refine Call_ (ij I hg hm boot_reversed (abo (aU (ha pos U s σ H _ I h) λus s1 ⟨vs,H1,I1,r1,q1⟩=>?_) hs rfl))
 refine au λnO=>bu q1 λl xs e hq q=>?_
 subst e
 refine aa (vals1 r1) λu ah rx=>?_
 subst ah
 cases rx
 refine bB (I1.tuple hq) λits rv pl hz=>nO ?_
 have len:=rv.length
 refine D0 pl (by rw[ZI];rw[sizeLine_eq]at hz;lia) λtk=>?_
 have es:((its.toArray.size:Nat):Int)-1=(xs.length:Int)-1-((0:Nat):Int):=by rw[ZI,len];exact Int.le_antisymm (Int.le_add_of_nonneg_right (by decide)) (afc (Int.add_lt_add_left (by decide) _))
 have st:rZ (s1.heap.push (DZ l ((its.toArray.size:Int)-1))) s1.heap.objs.size l ((xs.length:Int)-1-((0:Nat):Int)):=⟨_,ZN _ rfl,rfl,by rw[es]⟩
 refine vI (s:={s1 with heap:=s1.heap.push (DZ l ((its.toArray.size:Int)-1)),toks:=tk}) st ?_
 refine⟨s1.heap.objs.size,[s1.heap.objs.size],_,_,H1,rfl,I1.kept (t':=tk) λb o e=>Zv _ e,D2 l _ xs.length,st,λb hb=>?_,q⟩
 have e:b=s1.heap.objs.size:=by simpa using hb
 subst e
 exact I1.tW (ZG _) (I1.aI.fresh (ZG _))
end
open PySem.W
noncomputable def SE(a:Addr)(o:Obj)(az:List (cq×V)):It:=
 ⟨λi H=>H a=some (.c9 o (.dK az))/\i<az.length,λi H x H'=>H'=H/\(az[i]?).map (λkv=>kv.2)=some x,λi H=>H a=some (.c9 o (.dK az))/\i=az.length⟩
def qm{σ:St}(I:Inv X U σ H s)(e:H a=some (.c9 o (.dK az)))(hd:o.data= .dict es ep):
  (a==sysModules)=false/\∃vs,KV az vs/\s.heap.DictAt (aS X.prog X.w) a vs ep:=by
 refine au λnO=>?_
 obtain⟨z,lo,vs,dX,o',Cw,F0,h1,h2,h3,h4,h5,h6⟩:=g_ I.aI (.inr ⟨o,e⟩)
 have ho:s.heap.get? a=some o:=(show aT X.prog X.w H s.heap a (.c9 o (.dK az)) from I.aI a _ e).1
 rw[ho]at h1
 cases h1
 rw[hd]at h3
 cases h3
 exact nO<|⟨lo,vs,dX,o,es,ho,h2,hd,h4,h5,h6⟩
def NG{κ:Type}[DecidableEq κ]{az:List (κ×V)}{vs:List (κ×Value)}(r:KV az vs){i:Nat}(hi:i<az.length):∃k v,vs[i]?=some (k,v)/\RelV az[i].2 v:=by
 unfold KV at r
 induction r generalizing i with
 |nil=>exact absurd hi (aaZ _)
 |@cons p q ps qs hq t ih=>
  cases i with
  |zero=>exact⟨q.1,q.2,rfl,hq.2⟩
  |succ i=>
   exact dU (ih (i:=i) (by simpa using hi)) λk v h1 h2=>⟨k,v,by simpa using h1,by simpa using h2⟩
def D3{K:aC}{tg:Expr}(a it:Addr)(fy:a≠it)(o:Obj)(az:List (cq×V))(es:Array DictEntry)(ep:Nat)(hd:o.data= .dict es ep):pN P w K tg (SE a o az) [it] it (λi h=>h.IsValIter it a i az.length ep) where
 mem:=by simp
 obj:=λi h st b hb=>by
  have e:b=it:=by simpa using hb
  refine au λnO=>?_
  subst e
  exact bB st λo e c d=>nO<|⟨o,e,λv z=>by rw[d]at z;cases z⟩
 keep:=λi h h' st k=>let ⟨o,e,r⟩:=st;⟨o,k it (by simp) o e,r⟩
 item:=by
  intro X hP hw hK hc i U s σ H E I hf st hg
  refine au λnO=>?_
  subst hP hw hK
  obtain⟨e1,e2⟩:=hg
  obtain⟨_,vs,dX,hm⟩:=qm I e1 hd
  refine tK (hf it (by simp)) λf0 f1 f2 f3 f4 f5=>dU (NG dX e2) λk v n1 n2=>nO ?_
  rw[dX.length]at st
  refine wpAny_pyNext_values_item st hm n1 λh' k' hs=>?_
  have I1:Inv X U σ H {s with heap:=h'}:=I.turned (t':=s.toks) (λb o hb e=>(hs.2 b hb).trans e) f0 f1 f3 f4 f5
  exact au λnO=>bB (id k') λoi g1 g2 g3=>nO<|⟨_,rfl,nX (s:={s with heap:=h'}) g1 g2 g3 (by decide) ⟨_,H,I1,n2,⟨rfl,by rw[Zt e2];rfl⟩,by rw[dX.length];exact k',λb hb=>(hf b hb).1⟩⟩
 done:=by
  intro X hP hw hK hc i U s σ H E I hf st hg
  refine au λnO=>?_
  subst hP hw hK
  obtain⟨e1,e2⟩:=hg
  obtain⟨_,vs,dX,hm⟩:=qm I e1 hd
  refine tK (hf it (by simp)) λf0 f1 f2 f3 f4 f5=>nO ?_
  rw[dX.length]at st
  exact wpAny_pyNext_values_end (I.ok.hd hc) st hm (by rw[Z6];rw[<-dX.length,e2];exact ZG _) λh' eb=>⟨rfl,I.turned (t':=s.toks) (λb o hb e=>eb b o hb e) f0 f1 f3 f4 f5⟩
 self:=λ_ _ _ _ _ st h=>wpAny_pyIter_valiter st h
section
variable {X:Cx}{tg:Expr}
def Xo(tl:TE):TI:=λσ H R=>tl σ H λx H1=>∃a o az,x= .ref a/\H1 a=some (.c9 o (.dK az))/\R (SE a o az) H1
def NH{ap cp:Pos}(hl:PE X l tl)(iO:attributeBase l "values" X.env (eval l X.env)=eval l X.env)(iP:(ap.endLine==cp.line)=true):PI X tg (.Call (.Attribute l "values" ap) [] [] cp) (Xo tl):=by
 intro U s σ H R I h
 refine wpAny_Call_method0_late iO iP (aU (hl U s σ H _ I h) λv s1 zz=>?_)
 refine au λnO=>bu zz λx H1 I1 r1 q1=>b6 q1 λa o az e hq q=>?_
 subst e
 cases r1
 refine cy (z8 I1 (.inl ⟨az,.inr ⟨o,hq⟩⟩)) λt1 t2 t3=>nO ?_
 have ho:s1.heap.get? a=some o:=(show aT X.prog X.w H1 s1.heap a (.c9 o (.dK az)) from I1.aI a _ hq).1
 obtain⟨es,ep,hd⟩:∃es ep,o.data= .dict es ep:=by
  refine au λnO=>?_
  obtain⟨_,_,_,_,o',Cw,F0,h1,h2,h3,_⟩:=g_ I1.aI (.inr ⟨o,hq⟩)
  rw[ho]at h1
  cases h1
  exact nO<|⟨Cw,F0,h3⟩
 refine au λnO=>?_
 obtain⟨_,vs,dX,hm⟩:=qm I1 hq hd
 refine nO ?_
 refine⟨"dict",_,aes,aek,PySem.F.type_dict_values,t1,t2,abJ rfl (afn ?_)⟩
 refine call_meetsIn aek t1 PySem.F.entry_dict_values (PySem.F.args_dict_values_1 _) (meets_dict_values (aS X.prog X.w) a t3) ⟨⟨vs,?_⟩,?_⟩
 .exact au λnO=>iD (id hm) λo' Cw h1 h2 h3 r=>nO<|⟨o',Cw,ep,h1,h2,h3,r⟩
 .show wpAny _ _ (pyIter (.ref s1.heap.objs.size)) _ _ _
  have I2:Inv X U σ H1 {s1 with heap:=s1.heap.push {cls:= .type "dict_values",data:= .fields #[.ref a]}}:=I1.kept (t':=s1.toks) λb o e=>Zv _ e
  refine au λnO=>?_
  obtain⟨_,D4,SF,Xp⟩:=qm I2 hq hd
  refine nO<|wpAny_pyIter_values (s:={s1 with heap:=s1.heap.push {cls:= .type "dict_values",data:= .fields #[.ref a]}}) ⟨_,ZN _ rfl,rfl,rfl⟩ Xp ?_
  have alt:a<(s1.heap.push {cls:= .type "dict_values",data:= .fields #[.ref a]}).objs.size :=ZO (Zv _ ho)
  refine⟨_,[(s1.heap.push {cls:= .type "dict_values",data:= .fields #[.ref a]}).objs.size],_,_,H1,rfl,I2.kept (t':=s1.toks) λb o e=>Zv _ e,D3 a _ (Z5 alt) o az es ep hd,⟨_,ZN _ rfl,rfl,by rw[SF.length];rfl⟩,λb hb=>?_,q⟩
  have e:b=(s1.heap.push {cls:= .type "dict_values",data:= .fields #[.ref a]}).objs.size :=by simpa using hb
  subst e
  exact I2.tW (ZG _) (I2.aI.fresh (ZG _))
end
section
variable {X:Cx}{U:List (Addr×Obj)}{σ:St}{H H1 H2:Hp}{s:Shared}
def mf(H:Hp)(b:Addr):Prop:=∃u,H b=some u/\yY (some u)
def NF(X:Cx)(b:Addr):Prop:=∀o u,X.H₀ b≠some (.c9 o u)
def Inv.SG(I:Inv X U σ H1 s)(ea:H1 a=some u)(mu:yY (some u)):∃o,Inv X U σ (upd H1 a (.c9 o u)) s:=by
 obtain⟨o,ho⟩:∃o,s.heap.get? a=some o:=by
  have ok:=I.aI a u ea
  cases u with
  |lst xs=>obtain⟨_,_,_,_,e⟩:=ok;exact⟨_,e⟩
  |dK az=>obtain⟨_,_,_,_,o,_,_,e,_⟩:=ok;exact⟨_,e⟩
  |dT az=>obtain⟨_,_,_,_,o,_,_,e,_⟩:=ok;exact⟨_,e⟩
  |set S n=>obtain⟨o,_,_,_,e,_⟩:=ok;exact⟨_,e⟩
  |ins C dx fs=>obtain⟨_,_,_,e,_⟩:=ok;exact⟨_,e⟩
  |ext φ=>obtain⟨_,⟨o,e⟩,_⟩:=ok;exact⟨_,e⟩
  |_=>exact mu.elim
 have nt:∀b w,H1 b=some w->¬yY (some w)->upd H1 a (.c9 o u) b=some w:=λb w e nm=>by
  rw[aq (λz=>?_)]
  .exact e
  .rw[z,ea]at e;cases e;exact nm mu
 have aI:fN X.prog X.w (upd H1 a (.c9 o u)) s.heap:=λb w' e=>by
  by_cases hb:b=a
  .subst hb
   rw[ai]at e
   cases e
   exact⟨ho,(I.aI b u ea).kE (λ_ _ _ z=>z) (λc z=>nt c _ z id) λc ys z=>nt c _ z id⟩
  .rw[aq hb]at e
   exact(I.aI b w' e).kE (λ_ _ _ z=>z) (λc z=>nt c _ z id) λc ys z=>nt c _ z id
 have un:Un X.fs [] H1 (upd H1 a (.c9 o u)) s.heap s.heap:=Un.write (x:=a) (e:=a) (by rw[ea];exact mu) (.inl rfl) (λ_ _ _ z=>z) ⟨o,ho⟩
 have:=I.un (t':=s.toks) un aI
 exact⟨o,this⟩
structure D5(as:List Addr)(H1 H2:Hp):Prop where
 out:∀b,b∉as->H2 b=H1 b
 at_:∀b,b∈as->∃o u,H1 b=some u/\yY (some u)/\H2 b=some (.c9 o u)
theorem Inv.fO:∀(as:List Addr) {H1:Hp},Inv X U σ H1 s->as.Nodup->(∀b∈as,mf H1 b)->∃H2,Inv X U σ H2 s/\D5 as H1 H2
 |[],H1,I,_,_=>⟨H1,I,λ_ _=>rfl,λ_ z=>nomatch z⟩
 |a::as,H1,I,nd,hm=>by
  rw[aaf]at nd
  refine aa (hm a ZD) λu ea mu=>aa (Inv.fO as I nd.2 λb hb=>hm b (Zy _ hb)) λH2 I2 f2=>?_
  have Xq:H2 a=some u:=by rw[f2.out a nd.1];exact ea
  obtain⟨o,I3⟩:=I2.SG Xq mu
  refine⟨_,I3,λb hb=>?_,λb hb=>?_⟩
  .rw[ZK,not_or]at hb
   rw[aq hb.1]
   exact f2.out b hb.2
  .by_cases oG:b=a
   .subst oG
    exact⟨o,u,ea,mu,ai⟩
   .rw[aq oG]
    exact f2.at_ b ((ZK.mp hb).resolve_left oG)
def Inv.nf(I:Inv X U σ H s)(h:mf H b):NF X b:=λo u e=>by
 refine aa h λw e1 mu=>?_
 have:=I.base.fO b o u e
 rw[e1]at this
 cases this
 exact mu
open Classical in
noncomputable def fT(as:List Addr)(H1 H2:Hp):Hp:=λb=>if b∈as then H1 b else H2 b
def i_(h:b∈as):fT as H1 H2 b=H1 b:=ZM h
def bL(h:b∉as):fT as H1 H2 b=H2 b:=ZW h
def r8(as:List Addr)(H1 H2:Hp):Prop:=∀b,b∈as->∃o u,H1 b=some u/\yY (some u)/\H2 b=some (.c9 o u)
theorem Inv.fT(I:Inv X U σ H2 s)(nf:∀b∈as,NF X b)(h:r8 as H1 H2):Inv X U σ (fT as H1 H2) s:=by
 have same:∀b w,H2 b=some w->(∀o u,w≠ .c9 o u)->L2.fT as H1 H2 b=some w:=λb w e n=>by
  rw[bL λhb=>?_]
  .exact e
  .refine bu (h b hb) λo u _ _ e2=>?_
   rw[e]at e2
   cases e2
   exact n o u rfl
 have vJ:∀b,H2 b=none->L2.fT as H1 H2 b=none:=λb e=>by
  rw[bL λhb=>?_]
  .exact e
  .refine bu (h b hb) λo u _ _ e2=>?_
   rw[e]at e2
   cases e2
 have aI:fN X.prog X.w (L2.fT as H1 H2) s.heap:=λb w' e=>by
  by_cases hb:b∈as
  .refine bu (h b hb) λo u e1 mu e2=>?_
   rw[i_ hb,e1]at e
   have ew:u=w':=ZY e
   subst ew
   obtain⟨_,q⟩:=(show aT X.prog X.w H2 s.heap b (.c9 o u) from I.aI b _ e2)
   exact q.kE (λ_ _ _ z=>z) (λc z=>same c _ z λ_ _ y=>(nomatch y)) λc ys z=>same c _ z λ_ _ y=>(nomatch y)
  .rw[bL hb]at e
   exact(I.aI b w' e).kE (λ_ _ _ z=>z) (λc z=>same c _ z λ_ _ y=>(nomatch y)) λc ys z=>same c _ z λ_ _ y=>(nomatch y)
 refine⟨I.ok,I.os,I.bare,⟨I.base.keep,I.base.slot,λb o e n hx=>vJ b (I.base.free b o e n hx),I.base.there,λb xs e=>same b _ (I.base.kF b xs e) λ_ _ y=>(nomatch y),λb o u e=>?_,λb ps e=>?_⟩,I.loc,I.cell,vJ _ I.free,λx c e=>vJ _ (I.dG x c e),λp hp=>?_,aI,I.len⟩
 .have e2:=I.base.fO b o u e
  rw[bL λhb=>nf b hb o u e]
  exact e2
 .obtain⟨more,e2⟩:=I.base.kG b ps e
  exact⟨more,same b _ e2 λ_ _ y=>(nomatch y)⟩
 .exact cy (I.pin p hp) λe n r=>⟨e,vJ _ n,r⟩
end
section
variable {X:Cx}{k:Nat}{f:Addr}{fd:FuncData}{ps:List Str}{sp:Sp}{x:Str}{p pos:Pos}{e:Expr}{es:List Expr}{t:TA}
def Az(F:fY X.prog X.w X.K X.mg X.base rj k f fd ps sp)(hr:dW k X.A)(hg:Gl X x)(hm:X.mg x=some (.ref f))(hk:PySem.W.keepIn X.K (.ref f)=true)(hb:Binds X.K fd ps [])
  (ha:PA X (e::es) t) (tM:(x==("__debug__":Str))=false) (he:starEach (e::es) X.env=(false,eval e X.env)::starEach es X.env) (iJ:(backTo pos (starEach es X.env)).any (·.1)=false):
  PE X (.Call (.Name x p) (e::es) [] pos) (λσ H Q=>t σ H λvs H1=>∃as:List Addr,as.Nodup/\(∀b∈as,mf H1 b)/\∀H2,D5 as H1 H2->sp (vs++[]) H2 (λv H3=>r8 as H1 H3/\Q v (fT as H1 H3)) E0):=by
 intro U s σ H Q I h
 refine acv (iG I hg hm ?_ tM)
 refine adP (h₀:=X.base) I.ok.mod.LN hk (aU (ha pos U s σ H _ I h) λus s1 ⟨vs,H1,I1,r,as,nd,P0,q⟩=>⟨I1.yN,?_⟩) he iJ
 exact aa (Inv.fO as I1 nd P0) λH2 I2 fz=>aU (zA F hr hb .nil zH I2 r (q H2 fz)) λv s2 zz=>iD zz λy H3 I3 ry hc q3=>⟨y,_,I3.fT (λb lS=>I1.nf (P0 b lS)) hc,ry,q3⟩
def D6{t:TE}(h:PE X e t):PE X e (λσ H Q=>t σ H λv H1=>∃as:List Addr,as.Nodup/\(∀b∈as,mf H1 b)/\∀H2,D5 as H1 H2->Q v H2):=by
 intro U s σ H Q I q
 refine aU (h U s σ H _ I q) λv s1 zz=>au λnO=>?_
 obtain⟨y,H1,I1,r1,as,nd,P0,q1⟩:=zz
 exact aa (Inv.fO as I1 nd P0) λH2 I2 fz=>nO<|⟨y,H2,I2,r1,q1 H2 fz⟩
end
section
variable {X:Cx}
def AA(K:aC):V->List V->Hp->VK->Prop:=λx vs H Q=>∃l b xs zs,x= .ref l/\vs=[.ref b]/\H l=some (.lst xs)/\du K H b zs/\xs.length+zs.length<=sizeLine/\Q .bX (upd H l (.lst (xs++zs)))
def IY:Rp X "list.extend" (AA X.K):=by
 intro U s σ H x vs v us Q I rx rv h
 refine au λnO=>CN h λl b xs zs ah aM hH hB hz q=>?_
 try clear h
 subst ah
 subst aM
 cases rx
 refine aa rv.one λu cO ru=>?_
 subst cO
 cases ru
 obtain⟨z,its,n,r,hl,e⟩:=I.Ie hH
 refine nO ?_
 have key:∃(ik:List Value) (n2:Nat),aE zs ik/\s.heap.get? b=some {cls:= .type "list",data:= .seq ik.toArray n2}:=by
  rcases hB with hB|⟨o,its,m,h1,h2,h3,h4,h5,h6,h7⟩
  .refine au λnO=>?_
   obtain⟨_,ik,n2,r2,e2⟩:=hB.ok I.aI
   exact nO<|⟨ik,n2,r2,e2⟩
  .have hg:=I.yN b o h1
   refine au λnO=>?_
   obtain⟨c,Dt,dt,sl⟩:=o
   have h2:c= .type "list":=h2
   have h3:Dt=none:=h3
   have h4:dt= .seq its m:=h4
   have h7:sl=#[]:=h7
   subst h2 h3 h4 h7
   exact nO<|⟨its.toList,m,h6,by simpa using hg⟩
 refine au λnO=>dU key λik n2 r2 e2=>nO ?_
 have Vk:=r2.length
 have hsz:its.toArray.size+ik.toArray.size<=sizeLine:=by rw[ZI,ZI];lia
 have NI:¬(!its.toArray.isEmpty&&Builtin.List.listTooLong (its.toArray.size+ik.toArray.size))=true:=by
  rw[zF hsz,Bool.and_false]
  exact Zz
 refine call_meets F.slot_list_extend ⟨_,e,rfl⟩ F.entry_list_extend (F.args_list_extend_2 _ _) (AutoSeq1.list_extend_list_list_0 l its.toArray n b ik.toArray n2 NI (by rw[ZI];lia) (Zw hsz (by decide))) ⟨e,e2,?_⟩
 refine⟨.bX,_,I.Ic (its':=its++ik) hH e (by simp) (r.append r2) ?_,rfl,q⟩
 rw[ZQ]
 exact hz
def r_(tk tv:TE):TE:=λσ H Q=>∀p,H p=none->tk σ (upd H p (.dK [])) λx H1=>tv σ H1 λy H2=>∃i:Int,x= .int i/\H2 p=some (.dK [])/\Q (.ref p) (upd H2 p (.dK [(Sum.inl i,y)]))
def D7(hu:X.A.units+1<cLine)(hk:PE X k tk)(hv:PE X v tv):PE X (.Dict [some k] [v] pos) (r_ tk tv):=by
 intro U s σ H Q I h
 have hn:H s.heap.objs.size=none:=I.aI.fresh (ZG _)
 refine wpAny_Dict_any rfl rfl (by simp) (show 1<=15 by decide) ?_
 have I0:Inv X U σ (upd H s.heap.objs.size (.dK [])) {s with heap:=s.heap.push {cls:= .type "dict",data:= .dict #[]}}:=I.laid (a:=s.heap.objs.size) (o:= .dK []) (t':=s.toks) (λ_ _ q=>Zv _ q) (ZG _) (zY s.heap I.big)
 refine pairTrees_cons_walk (aU (hk U _ σ _ _ I0 (h _ hn)) λkv s1 zz=>bu zz λx H1 I1 r1 q1=>aU (hv U s1 σ H1 _ I1 q1) λvv s2 zz=>bu zz λy H2 I2 r2 q2=>pairTrees_nil_walk ?_)
 refine au λnO=>bB q2 λi ex ep q3=>?_
 subst ex
 obtain⟨t,rfl⟩:=r1
 refine nO ?_
 unfold storeAll
 rw[abY]
 refine au λnO=>?_
 obtain⟨z,hd,xs,dX,dd⟩:=Gp I2.aI ep
 refine nO ?_
 have ry:RelV (kV (Sum.inl i)) (Value.int i t):=⟨t,rfl⟩
 have hz:xs.length<=sizeLine:=by rw[<-dX.length];exact z
 refine Zq (Zq (wpAny_dictSet_pairs (hsz:=hz) (knd:=aS X.prog X.w) (l7 ry) dd λh' DA hs=>ZC ?_))
 dsimp only
 rw[List.forIn_nil]
 refine ZC ⟨.ref s.heap.objs.size,_,?_,rfl,q3⟩
 have he:∃q,h'.get? s.heap.objs.size=some q:=let ⟨q,_,_,hq,_⟩:=DA;⟨q,hq⟩
 exact k9 (t':=s2.toks+1) I2 (by rw[ep];exact True.intro) hs he (zX (by rw[sizeLine_eq];exact(by decide:(1:Nat)<=16777216)) hd (dX.put (Sum.inl i) r2) DA)
end
section
variable {prog:Program}{w:World}{A:Around}{E:Value->Shared->Prop}{s:Shared}{d:Addr}{es:Array DictEntry}{ep:Nat}
def sf(hh:A.handled=none)(lo:(d==sysModules)=false)(r:fR s.heap d es ep)(Gw:es.size<64)(hI:IntsAre (es.toList.map (·.key)) ns)
  (h:∀(h1 h':Heap) (tk:Nat) (out:Array Value) (c:Nat) (uy:List Int),(∀b o',s.heap.get? b=some o'->h1.get? b=some o')->(∀b o',h1.get? b=some o'->h'.get? b=some o')->h'.get? h1.objs.size=some {cls:= .type "list",data:= .seq out c}->IntsAre out.toList uy->uy.Perm ns->uy.Pairwise (· <= ·)->Q (.ref h1.objs.size) {s with heap:=h',toks:=tk}):
  wpAny (model prog w) A (call (.builtin "sorted") [.ref d]) Q E s:=by
 refine adZ kind_sorted plain_sorted entry_sorted (args_sorted1 _) ?_
 unfold Builtin.«sorted»
 refine Zq (m:=checkCount "sorted" 1 1 _) (ZC (Zq (kdu_collect (A:=A.in1) (vA lo) hh r (by rw[sizeLine_eq];exact Zw (Zx Gw) (by decide)) λh1 tk acc k1 it=>?_)))
 have hl:acc.toList.length=es.size:=by rw[Z_];exact it.1
 have eq:acc.toList=es.toList.map (·.key):=by
  apply abx
  intro j
  rcases aaM j es.size with z|z
  .have hj:j<acc.toList.length:=(Zr z (ZF (aaa hl)))
   refine aa (it.2 j acc.toList[j] (by rw[<-aaD];exact Zt hj)) λe e1 e2=>?_
   rw[Zt hj,ZJ,aaD,e1,e2]
   rfl
  .rw[Z6 (Zw (ZF hl) z),Z6 (by simpa using z)]
 rw[eq]
 refine Zq (wpAny_newList ?_ (by rw[<-eq,hl,sizeLine_eq];exact Zw (Zx Gw) (by decide)))
 have K3:(h1.push (seqObj "list" (es.toList.map (·.key)).toArray 0)).get? h1.objs.size=some (seqObj "list" (es.toList.map (·.key)).toArray 0):=ZN _ rfl
 refine Zq (aaO (aaA slot_list_sort ⟨_,K3,rfl⟩ entry_list_sort (list_sort_tree (s:={s with heap:=h1.push (seqObj "list" (es.toList.map (·.key)).toArray 0),toks:=tk}) K3 hI (by rw[<-eq,hl];exact Gw) λout uy a1 a2 a3=>⟨_,rfl,?_⟩) (args_list_sort _)))
 refine ZC ⟨_,rfl,?_⟩
 have u1:=get?_update_seq K3 (λ_=>#[])
 have u2:=Zv (seqObj "tuple" (es.toList.map (·.key)).toArray 0) u1
 have u3:=Zv (seqObj "list" #[] 0) u2
 have u4:=get?_update_seq u3 (λ_=>out)
 refine h h1 _ tk out _ uy k1 (λb o' e=>?_) u4 a1 a2 a3
 have hb:b≠h1.objs.size:=Z5 (ZO e)
 unfold sortedHeap
 rw[aap _ _ (aaH hb)]
 refine Zv _ (Zv _ ?_)
 rw[aap _ _ (aaH hb)]
 exact Zv _ e
end
section
variable {X:Cx}
theorem vK:∀{ns:List Int}{vs:List Value},vs.length=ns.length->(∀(i:Nat) (n:Int),ns[i]?=some n->∃t,vs[i]?=some (.int n t))->IntsAre vs ns
 |[],[],_,_=> .nil
 |[],_::_,h,_=>nomatch h
 |_::_,[],h,_=>nomatch h
 |n::ns,v::vs,h,k=>by
  obtain⟨t,e⟩:=k 0 n rfl
  have e:v= .int n t:=by simpa using e
  subst e
  exact .cons n t (vK (by simpa using h) λi m hi=>by
   obtain⟨t',e'⟩:=k (i+1) m (by simpa using hi)
   exact⟨t',by simpa using e'⟩)
def qp(hc:X.calm=true):cA X (.builtin "sorted") (λxs H Q=>∃(p:Addr) (az:List (cq×V)) (ns:List Int),xs=[.ref p]/\Rd H p (.dK az)/\az.map (·.1)=ns.map Sum.inl/\ns.length<64/\
  ∀uy:List Int,uy.Perm ns->uy.Pairwise (· <= ·)->∀l,H l=none->Q (.ref l) (upd H l (.lst (uy.map V.int)))):=by
 intro U s σ H xs us Q I r zz
 refine tS zz λp az ns e hq hk Gw q=>?_
 subst e
 refine aa (vals1 r) λu ah rx=>?_
 subst ah
 cases rx
 refine iE (uq I hq) λes ep g1 g2 g3 g4 g5=>?_
 have aV:az.length=ns.length:=by
  have:=congrArg List.length hk
  rwa [ZA,ZA]at this
 have hI:IntsAre (es.toList.map (·.key)) ns:=by
  refine vK (by rw[ZA,Z_,g2,aV]) λi n hi=>?_
  have iT:i<az.length:=by rw[aV];exact(ZL.mp hi).1
  refine aa (g5 i az[i] (Zt iT)) λen e1 e2=>?_
  have D8:az[i].1 =Sum.inl n:=by
   have:=congrArg (λl:List cq=>l[i]?) hk
   simp only[ZJ,hi,Zt iT,acY]at this
   exact ZY this
  rw[D8]at e2
  obtain⟨t,e3⟩:=e2
  exact⟨t,by rw[ZJ,aaD,e1,<-e3];rfl⟩
 refine sf (I.ok.hd hc) g3 g1 (Pf g2 (Pf aV Gw)) hI λh1 h' tk out c uy k1 k2 e a1 a2 a3=>?_
 have I1:Inv X U σ H {s with heap:=h1,toks:=tk}:=I.kept (t':=tk) k1
 have I2:Inv X U σ (upd H h1.objs.size (.lst (uy.map V.int))) {s with heap:=h',toks:=tk}:=
  I1.laid (t':=tk) k2 (ZG _) (show aT X.prog X.w _ h' _ (.lst (uy.map V.int)) from⟨by rw[ZA,a2.length_eq,sizeLine_eq];exact Zw (Zx Gw) (by decide),out.toList,c,iY a1,by simpa using e⟩)
 exact⟨.ref h1.objs.size,_,I2,rfl,q uy a2 a3 _ (I1.aI.fresh (ZG _))⟩
end
end L2
namespace Py
open PySem PySem.Spec PyProof.Rows L2
abbrev St:=L2.St
def SH(K:aC)(a:Addr)(xs:List V):Prop:=
 ∃(o:Obj) (its:Array Value) (n:Nat),K.lookup a=some o/\o.cls= .type "list"/\o.dict=none/\o.data= .seq its n/\its.size<=sizeLine/\aE xs its.toList/\o.slots=#[]
noncomputable def fL(t:Nat)(ks:List (List Int))(vs:List V):HO:=if t=0 then .dK ((ks.map λk=>Sum.inl (k.headD 0)).zip vs) else .dT ((ks.map λk=>k.map Sum.inl).zip vs)
def qP:HO->Prop
 | .lst _=>True
 | .dK _=>True
 | .dT _=>True
 |_=>False
def nS{α:Type}{x:α}{P:Prop}(h:none=some x):P:=nomatch h
def slot{ρ:Env}{i:Nat}{P:Prop}(n:ρ[i]?=none->P)(m:ρ[i]?=some none->P)(k:∀o d,ρ[i]?=some (some (o,d))->P):P:=by
 cases e:ρ[i]? with
 |none=>exact n e
 |some o=>cases o with
  |none=>exact m e
  |some t=>exact k t.1 t.2 e
def ku:qP (fL t ks vs):=by unfold fL;split<;>exact trivial
def mh(t:Nat)(ks:List (List Int)):Prop:=ks.Nodup/\(t=0->∀k∈ks,∃i,k=[i])
mutual
inductive aY(K:aC)(O:Addr->Prop)(H:Hp):V->D->Prop
 |bX:aY K O H .bX .bX
 |bl (b:Bool):aY K O H (.bl b) (.bl b)
 |int (i:Int):aY K O H (.int i) (.int i)
 |str (x:Str):aY K O H (.str x) (.str x)
 |tup {a vs ds}:cC K H a vs->av K O H vs ds->aY K O H (.ref a) (.tup ds)
 |lst {a vs ds}:Rd H a (.lst vs)->¬O a->av K O H vs ds->aY K O H (.ref a) (.lst ds)
 |mod {a vs ds}:SH K a vs->av K O H vs ds->aY K O H (.ref a) (.lst ds)
 |bj {a o t ks vs ds}:H a=some (.c9 o (fL t ks vs))->ks.length=vs.length->mh t ks->av K O H vs ds->aY K O H (.ref a) (.bj t ks ds)
inductive av(K:aC)(O:Addr->Prop)(H:Hp):List V->List D->Prop
 |nil:av K O H [] []
 |cons {v d vs ds}:aY K O H v d->av K O H vs ds->av K O H (v::vs) (d::ds)
end
section
variable {K:aC}{O O':Addr->Prop}{H H':Hp}
def gG(ht:∀a vs,cC K H a vs->cC K H' a vs)(hl:∀a vs,Rd H a (.lst vs)->¬O a->Rd H' a (.lst vs)/\¬O' a)(hz:∀a o u,H a=some (.c9 o u)->H' a=some (.c9 o u)):∀{v d},aY K O H v d->aY K O' H' v d:=λ{v d} h=>
 aY.rec (motive_1:=λv d _=>aY K O' H' v d) (motive_2:=λvs ds _=>av K O' H' vs ds) .bX .bl .int .str (λh _ ih=> .tup (ht _ _ h) ih) (λh n _ ih=> .lst (hl _ _ h n).1 (hl _ _ h n).2 ih) (λh _ ih=> .mod h ih) (λh l z _ ih=> .bj (hz _ _ _ h) l z ih) .nil (λ_ _ i1 i2=> .cons i1 i2) h
def eN(ht:∀a vs,cC K H a vs->cC K H' a vs)(hl:∀a vs,Rd H a (.lst vs)->¬O a->Rd H' a (.lst vs)/\¬O' a)(hz:∀a o u,H a=some (.c9 o u)->H' a=some (.c9 o u)):∀{vs ds},av K O H vs ds->av K O' H' vs ds:=λ{vs ds} h=>
 av.rec (motive_1:=λv d _=>aY K O' H' v d) (motive_2:=λvs ds _=>av K O' H' vs ds) .bX .bl .int .str (λh _ ih=> .tup (ht _ _ h) ih) (λh n _ ih=> .lst (hl _ _ h n).1 (hl _ _ h n).2 ih) (λh _ ih=> .mod h ih) (λh l z _ ih=> .bj (hz _ _ _ h) l z ih) .nil (λ_ _ i1 i2=> .cons i1 i2) h
def jb(s:ag H H')(h:cC K H a vs):cC K H' a vs:=by
 exact s _ _ h
def jc(s:ag H H')(h:Rd H a u):Rd H' a u:=h.elim (λh=> .inl (s _ _ h)) λ⟨o,h⟩=> .inr ⟨o,s _ _ h⟩
def aY.mono(h:aY K O H v d)(s:ag H H'):aY K O H' v d:=gG (λ_ _=>jb s) (λ_ _ h n=>⟨jc s h,n⟩) (λ_ _ _ h=>s _ _ h) h
def av.mono(h:av K O H vs ds)(s:ag H H'):av K O H' vs ds:=eN (λ_ _=>jb s) (λ_ _ h n=>⟨jc s h,n⟩) (λ_ _ _ h=>s _ _ h) h
def aY.weak(h:aY K O H v d)(s:∀a,O' a->O a):aY K O' H v d:=gG (λ_ _ h=>h) (λ_ _ h n=>⟨h,λz=>n (s _ z)⟩) (λ_ _ _ h=>h) h
def av.weak(h:av K O H vs ds)(s:∀a,O' a->O a):av K O' H vs ds:=eN (λ_ _ h=>h) (λ_ _ h n=>⟨h,λz=>n (s _ z)⟩) (λ_ _ _ h=>h) h
def vL(ha:H a=some u)(hu:qP u)(h:cC K H b vs):cC K (L2.upd H a o) b vs:=by
 have h':H b=some (.tup vs):=h
 show L2.upd H a o b=some (.tup vs)
 rw[aq (fK h' ha (by intro z;rw[<-z]at hu;exact hu))]
 exact h'
def vM(ha:H a=some u)(hu:qP u)(h:H b=some (.c9 q w)):L2.upd H a o b=some (.c9 q w):=by
 rw[aq (fK h ha (by intro z;rw[<-z]at hu;exact hu))]
 exact h
def vN(rS:b≠a)(h:Rd H b (.lst vs)):Rd (L2.upd H a o) b (.lst vs):=by
 rcases h with h|⟨u,h⟩
 .exact .inl (by rw[aq rS];exact h)
 .exact .inr ⟨u,by rw[aq rS];exact h⟩
theorem aY.upd(h:aY K O H v d)(ho:O a)(ha:H a=some u)(hu:qP u):aY K O (L2.upd H a o) v d:=
 gG (λ_ _ h=>vL ha hu h) (λb _ h n=>⟨vN (λz=>n (z▸ho)) h,n⟩) (λ_ _ _ h=>vM ha hu h) h
theorem av.upd(h:av K O H vs ds)(ho:O a)(ha:H a=some u)(hu:qP u):av K O (L2.upd H a o) vs ds:=
 eN (λ_ _ h=>vL ha hu h) (λb _ h n=>⟨vN (λz=>n (z▸ho)) h,n⟩) (λ_ _ _ h=>vM ha hu h) h
def lh(hp:H p=none):¬Rd H p u:=λh=>by
 rcases h with h|⟨o,h⟩
 .rw[hp]at h;cases h
 .rw[hp]at h;cases h
def av.own(h:av K O H vs ds)(hp:H p=none):av K (λa=>O a\/a=p) H vs ds:=
 eN (λ_ _ h=>h) (λb us h n=>⟨h,λz=>z.elim n λe=>lh hp (e▸h)⟩) (λ_ _ _ h=>h) h
def aY.own(h:aY K O H v d)(hp:H p=none):aY K (λa=>O a\/a=p) H v d:=
 gG (λ_ _ h=>h) (λb us h n=>⟨h,λz=>z.elim n λe=>lh hp (e▸h)⟩) (λ_ _ _ h=>h) h
def xY(h:aY K O H v d):aF d=true->aY K O' H v d:=
 aY.rec (motive_1:=λv d _=>aF d=true->aY K O' H v d) (motive_2:=λvs ds _=>aW ds=true->av K O' H vs ds) (λ_=> .bX) (λb _=> .bl b) (λi _=> .int i) (λi _=> .str i)
  (λh _ ih n=> .tup h (ih (by simpa[aF]using n))) (λ_ _ _ _ n=>absurd n (by simp[aF])) (λ_ _ _ n=>absurd n (by simp[aF])) (λ_ _ _ _ _ n=>absurd n (by simp[aF])) (λ_=> .nil)
  (λ_ _ i1 i2 n=>by
   simp only[aW,Zu]at n
   exact .cons (i1 n.1) (i2 n.2)) h
theorem av.length:∀{vs:List V}{ds:List D},av K O H vs ds->vs.length=ds.length
 |_,_,.nil =>rfl
 |_,_,.cons _ t=>by rw[Z3,Z3,av.length t]
theorem av.get:∀{vs:List V}{ds:List D}{i:Nat}{d:D},av K O H vs ds->ds[i]?=some d->∃v,vs[i]?=some v/\aY K O H v d
 |_,_,_,_,.nil,e=>by simp at e
 |_,_,0,_,.cons r _,e=>by simp at e;subst e;exact⟨_,rfl,r⟩
 |_,_,i+1,d,.cons _ t,e=>by
  exact aa (av.get (i:=i) (d:=d) t (by simpa using e)) λv h1 h2=>⟨v,by simpa using h1,h2⟩
theorem av.append:∀{xs ys:List V}{us ws:List D},av K O H xs us->av K O H ys ws->av K O H (xs++ys) (us++ws)
 |_,_,_,_,.nil,s=>s
 |_,_,_,_,.cons r t,s=> .cons r (av.append t s)
theorem av.take:∀{xs:List V}{us:List D} (n:Nat),av K O H xs us->av K O H (xs.take n) (us.take n)
 |_,_,0,_=> .nil
 |_,_,_+1,.nil => .nil
 |_,_,n+1,.cons r t=> .cons r (av.take n t)
theorem av.drop:∀{xs:List V}{us:List D} (n:Nat),av K O H xs us->av K O H (xs.drop n) (us.drop n)
 |_,_,0,r=>r
 |_,_,_+1,.nil => .nil
 |_,_,n+1,.cons _ t=>av.drop n t
theorem av.set(r:aY K O H x u):∀{xs:List V}{us:List D} (i:Nat),av K O H xs us->av K O H (xs.set i x) (us.set i u)
 |_,_,_,.nil => .nil
 |_,_,0,.cons _ t=> .cons r t
 |_,_,i+1,.cons q t=> .cons q (av.set r i t)
def aY.int_inv(h:aY K O H v (.int i)):v= .int i:=by cases h;rfl
def aY.str_inv(h:aY K O H v (.str i)):v= .str i:=by cases h;rfl
def aY.AB(h:aY K O H v (.bl i)):v= .bl i:=by cases h;rfl
def aY.D9(h:aY K O H v .bX):v= .bX :=by cases h;rfl
def aY.lj(h:aY K O H v (.tup ds)):∃a vs,v= .ref a/\cC K H a vs/\av K O H vs ds:=by
 cases h with
 |tup h1 h2=>exact⟨_,_,rfl,h1,h2⟩
def aY.lst_inv(h:aY K O H v (.lst ds)):∃a vs,v= .ref a/\du K H a vs/\av K O H vs ds:=by
 cases h with
 |lst h1 _ h2=>exact⟨_,_,rfl,.inl h1,h2⟩
 |mod h1 h2=>exact⟨_,_,rfl,.inr h1,h2⟩
theorem eO:∀(ns:List Int),av K O H (ns.map V.int) (ns.map D.int)
 |[]=> .nil
 |n::ns=> .cons (.int n) (eO ns)
def bz(K:aC)(O:Addr->Prop)(b:Bool)(H:Hp)(v:V)(d:D):Prop:=
 aY K O H v d\/(b=true/\∃a vs ds,v= .ref a/\d= .lst ds/\H a=some (.lst vs)/\av K O H vs ds)
variable {b:Bool}{v:V}{d:D}
theorem bz.mono(h:bz K O b H v d)(s:ag H H'):bz K O b H' v d:=by
 rcases h with h|⟨e,a,vs,ds,h1,h2,h3,h4⟩
 .exact .inl (h.mono s)
 .exact .inr ⟨e,a,vs,ds,h1,h2,s _ _ h3,h4.mono s⟩
def bz.own(h:bz K O false H v d):aY K O H v d:=h.elim id λz=>absurd z.1 Zz
theorem bz.int(h:bz K O b H v (.int i)):v= .int i:=by
 rcases h with h|⟨_,_,_,_,_,h,_⟩
 .exact h.int_inv
 .cases h
theorem bz.str(h:bz K O b H v (.str i)):v= .str i:=by
 rcases h with h|⟨_,_,_,_,_,h,_⟩
 .exact h.str_inv
 .cases h
theorem bz.bl(h:bz K O b H v (.bl i)):v= .bl i:=by
 rcases h with h|⟨_,_,_,_,_,h,_⟩
 .exact h.AB
 .cases h
theorem bz.bX(h:bz K O b H v .bX):v= .bX :=by
 rcases h with h|⟨_,_,_,_,_,h,_⟩
 .exact h.D9
 .cases h
theorem bz.tup(h:bz K O b H v (.tup ds)):∃a vs,v= .ref a/\cC K H a vs/\av K O H vs ds:=by
 rcases h with h|⟨_,_,_,_,_,h,_⟩
 .exact h.lj
 .cases h
theorem bz.lst(h:bz K O b H v (.lst ds)):∃a vs,v= .ref a/\du K H a vs/\av K O H vs ds:=by
 rcases h with h|⟨_,a,vs,NJ,h1,h2,h3,h4⟩
 .exact h.lst_inv
 .cases h2
  exact⟨a,vs,h1,du.of h3,h4⟩
theorem bz.seq(h:bz K O b H v d)(e:Py.seq d=some xs):∃a vs,v= .ref a/\(du K H a vs\/cC K H a vs)/\av K O H vs xs:=by
 refine au λnO=>?_
 cases d with
 |lst ds=>
  refine nO ?_
  cases e;obtain⟨a,vs,h1,h2,h3⟩:=h.lst;exact⟨a,vs,h1,.inl h2,h3⟩
 |tup ds=>
  refine nO ?_
  cases e;obtain⟨a,vs,h1,h2,h3⟩:=h.tup;exact⟨a,vs,h1,.inr h2,h3⟩
 |_=>cases e
def bz.IZ(h:bz K O b H v (.bj t ks ds)):∃a,v= .ref a:=by
 rcases h with h|⟨_,_,_,_,_,h,_⟩
 .cases h;exact⟨_,rfl⟩
 .cases h
def bz.any(h:bz K O b H v d):aY K (λ_=>False) H v d:=by
 rcases h with h|⟨_,a,vs,NJ,h1,h2,h3,h4⟩
 .exact h.weak λ_ z=>z.elim
 .subst h1 h2
  exact .lst (.inl h3) id (h4.weak λ_ z=>z.elim)
end
def dZ(K:aC)(O:Addr->Prop)(H:Hp)(a:Addr)(d:D):Prop:=
 (∃vs ds,d= .lst ds/\H a=some (.lst vs)/\av K O H vs ds)\/
 (∃t ks vs ds,d= .bj t ks ds/\H a=some (fL t ks vs)/\ks.length=vs.length/\mh t ks/\av K O H vs ds)\/
 d=uh/\∃u,H a=some u/\qP u
section
variable {K:aC}{O O':Addr->Prop}{H H':Hp}{a:Addr}{d:D}
theorem dZ.mono(h:dZ K O H a d)(s:ag H H'):dZ K O H' a d:=by
 rcases h with⟨vs,ds,e1,e2,e3⟩|⟨t,ks,vs,ds,e1,e2,e3,e4,e5⟩|⟨e1,u',e2,e3⟩
 .exact .inl ⟨vs,ds,e1,s _ _ e2,e3.mono s⟩
 .exact .inr (.inl ⟨t,ks,vs,ds,e1,s _ _ e2,e3,e4,e5.mono s⟩)
 .exact .inr (.inr ⟨e1,u',s _ _ e2,e3⟩)
theorem dZ.weak(h:dZ K O H a d)(s:∀a,O' a->O a):dZ K O' H a d:=by
 rcases h with⟨vs,ds,e1,e2,e3⟩|⟨t,ks,vs,ds,e1,e2,e3,e4,e5⟩|⟨e1,u',e2,e3⟩
 .exact .inl ⟨vs,ds,e1,e2,e3.weak s⟩
 .exact .inr (.inl ⟨t,ks,vs,ds,e1,e2,e3,e4,e5.weak s⟩)
 .exact .inr (.inr ⟨e1,u',e2,e3⟩)
theorem dZ.own(h:dZ K O H a d)(hp:H p=none):dZ K (λa=>O a\/a=p) H a d:=by
 rcases h with⟨vs,ds,e1,e2,e3⟩|⟨t,ks,vs,ds,e1,e2,e3,e4,e5⟩|⟨e1,u',e2,e3⟩
 .exact .inl ⟨vs,ds,e1,e2,e3.own hp⟩
 .exact .inr (.inl ⟨t,ks,vs,ds,e1,e2,e3,e4,e5.own hp⟩)
 .exact .inr (.inr ⟨e1,u',e2,e3⟩)
theorem dZ.upd(h:dZ K O H a d)(hb:a≠b)(ho:O b)(Vl:H b=some u)(hu:qP u):dZ K O (L2.upd H b o) a d:=by
 rcases h with⟨vs,ds,e1,e2,e3⟩|⟨t,ks,vs,ds,e1,e2,e3,e4,e5⟩|⟨e1,u',e2,e3⟩
 .exact .inl ⟨vs,ds,e1,by rw[aq hb];exact e2,e3.upd ho Vl hu⟩
 .exact .inr (.inl ⟨t,ks,vs,ds,e1,by rw[aq hb];exact e2,e3,e4,e5.upd ho Vl hu⟩)
 .exact .inr (.inr ⟨e1,u',by rw[aq hb];exact e2,e3⟩)
theorem dZ.lst(h:dZ K O H a (.lst ds)):∃vs,H a=some (.lst vs)/\av K O H vs ds:=by
 rcases h with⟨vs,ds,e1,e2,e3⟩|⟨t,ks,vs,ds,e1,_⟩|⟨e1,_⟩
 .cases e1;exact⟨vs,e2,e3⟩
 .cases e1
 .cases e1
theorem dZ.bj(h:dZ K O H a (.bj t ks ds))(h2:t≠2):∃vs,H a=some (fL t ks vs)/\ks.length=vs.length/\mh t ks/\av K O H vs ds:=by
 rcases h with⟨vs,ds,e1,e2,e3⟩|⟨t,ks,vs,ds,e1,e2,e3,e4,e5⟩|⟨e1,u',e2,e3⟩
 .cases e1
 .cases e1;exact⟨vs,e2,e3,e4,e5⟩
 .cases e1;exact absurd rfl h2
end
structure EX(K:aC)(O:Addr->Prop)(σ:St)(H:Hp)(ρ:Env):Prop where
 live:∀a,O a->∃u,H a=some u/\qP u
 iX:∀(i:Nat) (o:Bool) (d:D),ρ[i]?=some (some (o,d))->∃v,σ[i]?=some (some v)/\
  if o=true then∃a,v= .ref a/\O a/\dZ K O H a d else aY K O H v d
theorem EX.mono{K:aC}(h:EX K O σ H ρ)(s:ag H H'):EX K O σ H' ρ:=by
 refine⟨λa ha=>let ⟨u,e,q⟩:=h.live a ha;⟨u,s _ _ e,q⟩,λi o d e=>?_⟩
 refine aa (h.iX i o d e) λv h1 h2=>⟨v,h1,?_⟩
 cases o with
 |true=>
  exact bB h2 λa e1 e2 c=>⟨a,e1,e2,c.mono s⟩
 |false=>exact aY.mono h2 s
def EX.free{K:aC}(h:EX K O σ H ρ)(s:ag H H1)(hp:H1 p=none):¬O p:=λz=>by
 refine aa (h.live p z) λvs e _=>?_
 rw[s _ _ e]at hp;cases hp
def bind_some{α β:Type}{o:Option α}{f:α->Option β}{y:β}(h:o.bind f=some y):∃x,o=some x/\f x=some y:=by
 cases o with
 |none=>cases h
 |some x=>exact⟨x,rfl,h⟩
def map_some{α β:Type}{o:Option α}{f:α->β}{y:β}(h:o.map f=some y):∃x,o=some x/\f x=y:=by
 cases o with
 |none=>cases h
 |some x=>exact⟨x,rfl,ZY h⟩
def tV(K:aC)(b:Bool)(f:Env->Option D):TE:=λσ H Q=>∃O ρ d,EX K O σ H ρ/\f ρ=some d/\∀v H',ag H H'->bz K O b H' v d->Q v H'
def tF(K:aC)(f:Env->Option (List D)):TE:=λσ H Q=>∃O ρ ds,EX K O σ H ρ/\f ρ=some ds/\∀p vs H1,ag H H1->H1 p=none->av K O H1 vs ds->Q (.ref p) (L2.upd H1 p (.lst vs))
def tB(K:aC)(f:Env->Option Bool):TT:=λσ H Q=>∃O ρ k,EX K O σ H ρ/\f ρ=some k/\∀H',ag H H'->Q k H'
def tP(K:aC)(b:Bool)(f:Env->Option (List D)):TA:=λσ H Q=>∃O ρ ds,EX K O σ H ρ/\f ρ=some ds/\∀vs H',ag H H'->Paired (bz K O b H') vs ds->Q vs H'
theorem ag.upd(h:H p=none):ag H (L2.upd H p o):=λb u e=>by rw[aq (bS e h)];exact e
section
variable {X:Cx}{a b c e:Expr}{pos:Pos}{m:Bool}{es:List Expr}
def _root_.L2.PE.weak(h:PE X e t)(w:∀σ H Q,t' σ H Q->t σ H Q):PE X e t':=λU s σ H Q I q=>h U s σ H Q I (w σ H Q q)
def _root_.L2.PT.weak(h:PT X e t)(w:∀σ H Q,t' σ H Q->t σ H Q):PT X e t':=λU s σ H Q I q=>h U s σ H Q I (w σ H Q q)
def D_{f:Env->Option D}(h:PE X e (tF X.K f'))(hf:∀ρ d,f ρ=some d->∃ds,f' ρ=some ds/\d= .lst ds):PE X e (tV X.K m f):=h.weak λσ H Q zz=>by
 refine b6 zz λO ρ d hx hd k=>aa (hf ρ d hd) λds e1 ah=>?_
 subst ah
 refine⟨O,ρ,ds,hx,e1,λp vs H1 s1 hp r=>k _ _ (s1.trans (ag.upd hp)) (.inl (.lst (.inl ai) (hx.free s1 hp) (r.mono (ag.upd hp))))⟩
def v_var(hN:X.N[i]?=some x)(hv:uU X.env.scope x)(hd:(x==("__debug__":Str))=false)(nE:(x==("__classdict__":Str))=false):PE X (.Name x pos) (tV X.K m λρ=>rd m ρ i):=
 (bG hN hv hd nE).weak λσ H Q zz=>by
  refine b6 zz λO ρ d hx hd k=>?_
  have hd:rd m ρ i=some d:=hd
  unfold rd at hd
  split at hd
  .rename_i o d' e
   refine aa (hx.iX i o d' e) λv h1 h2=>⟨v,h1,k v H (ag.refl _) ?_⟩
   cases o with
   |true=>
    cases m with
    |true=>
     refine bB h2 λa e1 e2 c=>?_
     rcases c with⟨vs,ds,f1,f2,f3⟩|⟨t,ks,vs,ds,f1,_⟩|⟨f1,_⟩
     .subst f1
      cases hd
      exact .inr ⟨rfl,a,vs,ds,e1,rfl,f2,f3⟩
     .subst f1
      cases hd
     .subst f1
      cases hd
    |false=>cases hd
   |false=>
    cases hd
    exact .inl h2
  .cases hd
def NK(h:PE X e (tC v))(r:∀K O H,aY K O H v d):PE X e (tV X.K m λ_=>some d):=h.weak λσ H Q zz=>by
 refine b6 zz λO ρ d' hx hd k=>?_
 cases hd
 exact k v H (ag.refl _) (.inl (r _ _ _))
def vO{g:D->D->Option D}(ha:PE X a (tV X.K true fa))(hb:PE X b (tV X.K true fb))(mk:∀ta tb,PE X a ta->PE X b tb->PE X e (F4 r ta tb))
  (hr:∀O σ (ρ:Env) H x y d v w Q,EX X.K O σ H ρ->bz X.K O true H v x->bz X.K O true H w y->g x y=some d->(∀u H',ag H H'->bz X.K O m H' u d->Q u H')->r v w H Q):
  PE X e (tV X.K m λρ=>(fa ρ).bind λx=>(fb ρ).bind λy=>g x y):=(mk _ _ ha hb).weak λσ H Q zz=>by
 exact b6 zz λO ρ d hx hd k=>aa (bind_some hd) λx e1 hd=>aa (bind_some hd) λy e2 hd=>⟨O,ρ,x,hx,e1,λv H1 s1 r1=>⟨O,ρ,y,hx.mono s1,e2,λw H2 s2 r2=>hr O σ ρ H2 x y d v w Q (hx.mono (s1.trans s2)) (r1.mono s2) r2 hd λu H' s' r'=>k u H' ((s1.trans s2).trans s') r'⟩⟩
def _root_.L2.PE.Xr(h:∀ρ,f ρ=none):PE X e (tV X.K m f):=λU s σ H Q I ⟨O,ρ,d,hx,hd,k⟩=>by rw[h]at hd;cases hd
def Gx(K:aC):R2:=λx y H Q=>∃l b xs zs,x= .ref l/\y= .ref b/\du K H l xs/\du K H b zs/\xs.length+zs.length<=sizeLine/\∀p,H p=none->Q (.ref p) (L2.upd H p (.lst (xs++zs)))
def Ea:gX X (binaryOp .Add) (Gx X.K):=by
 intro U s σ H x y v u Q I rx ry h
 refine CN h λl b xs zs ah aM hl hb hz q=>?_
 try clear h
 subst ah
 subst aM
 cases rx
 cases ry
 refine iD (I.Ge hl) λits n r e1 e z=>iD (I.Ge hb) λik n2 r2 aa e2 z2=>PySem.P.add_list e e2 ?_ (by rw[ZI,ZI];lia)
 have ea:its.toArray++ik.toArray=(its++ik).toArray :=by simp
 rw[ea]
 exact⟨.ref _,_,I.Mo (t':=s.toks) (r.append r2) (by rw[ZQ];exact hz),rfl,q _ I.fresh⟩
noncomputable def Gy(K:aC):R2:=λx y H Q=>∃a b ys,x= .ref a/\y= .ref b/\cC K H a []/\cC K H b ys/\Q (.ref b) H
def HR(K:aC):R2:=λx y H Q=>HD (λi j=> .int (i+j)) x y H Q\/F9 K x y H Q\/Gx K x y H Q\/Gy K x y H Q
def oH:gX X (binaryOp .Add) (HR X.K):=HG.or (gX.or C_ (gX.or Ea (r':=Gy X.K) Dx))
def cE:(sizeLine:Nat)=bR:=by rw[sizeLine_eq];rfl
def v_add(ha:PE X a (tV X.K true fa))(hb:PE X b (tV X.K true fb)):PE X (.BinOp a .Add b pos) (tV X.K m λρ=>(fa ρ).bind λx=>(fb ρ).bind λy=>bin .Add x y):=
 vO (r:=HR X.K) ha hb (λ_ _ h1 h2=>qY oH h1 h2) λO σ ρ H x y d v w Q hx r1 r2 hd k=>by
  cases x with
  |int i=>
   cases y with
   |int j=>cases hd;exact .inl ⟨i,j,r1.int,r2.int,k _ _ (ag.refl _) (.inl (.int _))⟩
   |_=>cases hd
  |tup us=>
   cases y with
   |tup ws=>
    simp only[bin]at hd
    split at hd
    .rename_i hz
     cases hd
     refine bu r1.tup λa1 vs ah q1 p1=>?_
     subst ah
     refine bu r2.tup λa2 zs aM q2 p2=>?_
     subst aM
     have l1:=p1.length
     have l2:=p2.length
     by_cases fy:vs=[]
     .subst fy
      cases p1
      exact .inr (.inr (.inr ⟨a1,a2,zs,rfl,rfl,q1,q2,k _ _ (ag.refl _) (.inl (.tup q2 p2))⟩))
     .refine .inr (.inl ⟨a1,a2,vs,zs,rfl,rfl,q1,q2,fy,by rw[cE,l1,l2];exact hz,λez=>?_,λ_ p hp=>?_⟩)
      .subst ez
       cases p2
       rw[aaK]at k
       exact k _ _ (ag.refl _) (.inl (.tup q1 p1))
      .exact k _ _ (ag.upd hp) (.inl (.tup (cC.of ai) ((p1.append p2).mono (ag.upd hp))))
    .cases hd
   |_=>cases hd
  |lst us=>
   cases y with
   |lst ws=>
    simp only[bin]at hd
    split at hd
    .rename_i hz
     cases hd
     refine bu r1.lst λa1 vs cO q1 p1=>?_
     subst cO
     refine bu r2.lst λa2 zs sh q2 p2=>?_
     subst sh
     have l1:=p1.length
     have l2:=p2.length
     refine .inr (.inr (.inl ⟨a1,a2,vs,zs,rfl,rfl,q1,q2,by rw[cE,l1,l2];exact hz,λp hp=>?_⟩))
     exact k _ _ (ag.upd hp) (.inl (.lst (.inl ai) (hx.free (ag.refl _) hp) ((p1.append p2).mono (ag.upd hp))))
    .cases hd
   |_=>cases hd
  |_=>cases hd
def NL(ha:PE X a (tV X.K true fa))(hb:PE X b (tV X.K true fb)):PE X (.BinOp a .Add b pos) (tF X.K λρ=>((fa ρ).bind λx=>(fb ρ).bind λy=>bin .Add x y).bind λd=>match d with| .lst ds=>some ds|_=>none):=
 (qY oH ha hb).weak λσ H Q zz=>by
  refine b6 zz λO ρ ds hx hd k=>aa (bind_some hd) λz hd Nk=>aa (bind_some hd) λx e1 hd=>aa (bind_some hd) λy e2 hd=>⟨O,ρ,x,hx,e1,λv H1 s1 r1=>⟨O,ρ,y,hx.mono s1,e2,λw H2 s2 r2=>?_⟩⟩
  have lu:=r1.mono s2
  cases x with
  |lst us=>
   cases y with
   |lst ws=>
    simp only[bin]at hd
    split at hd
    .rename_i hz
     cases hd
     cases Nk
     refine bu lu.lst λa1 vs ah q1 p1=>?_
     subst ah
     refine bu r2.lst λa2 zs aM q2 p2=>?_
     subst aM
     have l1:=p1.length
     have l2:=p2.length
     exact .inr (.inr (.inl ⟨a1,a2,vs,zs,rfl,rfl,q1,q2,by rw[cE,l1,l2];exact hz,λp hp=>k p _ H2 (s1.trans s2) hp (p1.append p2)⟩))
    .cases hd
   |_=>cases hd
  |int i=>
   cases y with
   |int j=>cases hd;cases Nk
   |_=>cases hd
  |tup i=>
   cases y with
   |tup j=>
    simp only[bin]at hd
    split at hd<;>cases hd<;>cases Nk
   |_=>cases hd
  |_=>cases hd
def Eb(h:kh i j=true):CW i j:=by
 unfold kh at h
 simp only[ada,Zu,decide_eq_true_eq]at h
 exact h
def Gz(ha:PE X a (tV X.K true fa))(hb:PE X b (tV X.K true fb)):PE X (.BinOp a o b pos) (tV X.K m λρ=>(fa ρ).bind λx=>(fb ρ).bind λy=>bin o x y):=by
 have no:∀(f:Env->Option D) (g:Env->Option D),(∀ρ,((f ρ).bind λ_=>(g ρ).bind λ_=>(none:Option D))=none):=λf g ρ=>by
  cases f ρ<;>simp
 cases o with
 |Add=>exact v_add ha hb
 |Mult=>
  exact vO ha hb (λ_ _ h1 h2=>qY HH h1 h2) λO σ ρ H x y d v w Q hx r1 r2 hd k=>by
   cases x with
   |int i=>
    cases y with
    |int j=>
     simp only[bin]at hd
     split at hd
     .rename_i hz
      cases hd
      exact⟨i,j,r1.int,r2.int,Eb hz,k _ _ (ag.refl _) (.inl (.int _))⟩
     .cases hd
    |_=>cases hd
   |_=>cases hd
 |FloorDiv=>
  exact vO ha hb (λ_ _ h1 h2=>qY CY h1 h2) λO σ ρ H x y d v w Q hx r1 r2 hd k=>by
   cases x with
   |int i=>
    cases y with
    |int j=>
     simp only[bin]at hd
     split at hd
     .rename_i hz
      cases hd
      exact⟨i,j,r1.int,r2.int,hz,k _ _ (ag.refl _) (.inl (.int _))⟩
     .cases hd
    |_=>cases hd
   |_=>cases hd
 |Mod=>
  exact vO ha hb (λ_ _ h1 h2=>qY HK h1 h2) λO σ ρ H x y d v w Q hx r1 r2 hd k=>by
   cases x with
   |int i=>
    cases y with
    |int j=>
     simp only[bin]at hd
     split at hd
     .rename_i hz
      cases hd
      exact⟨i,j,r1.int,r2.int,hz,k _ _ (ag.refl _) (.inl (.int _))⟩
     .cases hd
    |_=>cases hd
   |_=>cases hd
 |_=>exact PE.Xr λρ=>no fa fb ρ
def sj(h:Dp d=some i):d= .int i:=by cases d<;>first|(cases h;rfl)|cases h
def eP(h:fg d=some i):d= .bl i:=by cases d<;>first|(cases h;rfl)|cases h
mutual
noncomputable def gb:D->PyData
 | .bX => .none
 | .bl b=> .bool b
 | .int i=> .int i
 | .tup xs=> .tuple (dQ xs)
 | .lst xs=> .list (dQ xs)
 | .bj _ _ _=> .none
 | .str _=> .none
noncomputable def dQ:List D->List PyData
 |[]=>[]
 |x::xs=>gb x::dQ xs
end
mutual
theorem jd:∀x y:D,PyData.eqv (gb x) (gb y)=nv x y
 | .bX,y=>by cases y<;>rfl
 | .bl b,y=>by cases y<;>rfl
 | .int b,y=>by cases y<;>rfl
 | .tup xs,y=>by
  cases y with
  |tup ys=>exact jR xs ys
  |_=>rfl
 | .lst xs,y=>by
  cases y with
  |lst ys=>exact jR xs ys
  |_=>rfl
 | .bj _ _ _,y=>by cases y<;>rfl
 | .str _,y=>by cases y<;>rfl
theorem jR:∀xs ys:List D,PyData.eqvAll (dQ xs) (dQ ys)=Dm xs ys
 |[],ys=>by cases ys<;>rfl
 |x::xs,ys=>by
  cases ys with
  |nil=>rfl
  |cons y ys=>show(PyData.eqv (gb x) (gb y)&&PyData.eqvAll (dQ xs) (dQ ys))=(nv x y&&Dm xs ys);rw[jd x y,jR xs ys]
end
mutual
theorem jS:∀(x:D) (n:Nat),gY x n=true->(gb x).canLay0 =true/\(gb x).depth <=n
 | .bX,n,h=>⟨rfl,aab _⟩
 | .bl b,n,h=>⟨rfl,aab _⟩
 | .int i,n,h=>⟨rfl,aab _⟩
 | .tup xs,0,h=>nomatch (show false=true from h)
 | .lst xs,0,h=>nomatch (show false=true from h)
 | .bj _ _ _,n,h=>nomatch (show false=true from h)
 | .str _,n,h=>nomatch (show false=true from h)
 | .tup xs,n+1,h=>by
  have:=lz xs n h
  exact⟨this.1,abM this.2⟩
 | .lst xs,n+1,h=>by
  have:=lz xs n h
  exact⟨this.1,abM this.2⟩
theorem lz:∀(xs:List D) (n:Nat),jH xs n=true->PyData.canLayAll0 (dQ xs)=true/\PyData.depthAll (dQ xs)<=n
 |[],n,h=>⟨rfl,aab _⟩
 |x::xs,n,h=>by
  have h:=abc.mp (show(gY x n&&jH xs n)=true from h)
  have a:=jS x n h.1
  have b:=lz xs n h.2
  exact⟨abc.mpr ⟨a.1,b.1⟩,Nat.max_le.mpr ⟨a.2,b.2⟩⟩
end
def eQ(I:Inv X U σ H s)(h:aY X.K O H v d):∀n,gY d n=true->∀u,RelV v u->∃as,Reads s.heap u (gb d) as:=
 aY.rec (motive_1:=λv d _=>∀n,gY d n=true->∀u,RelV v u->∃as,Reads s.heap u (gb d) as) (motive_2:=λvs ds _=>∀n,jH ds n=true->∀us,aE vs us->∃as,ReadsAll s.heap us (dQ ds) as)
  (λ_ _ u r=>by cases r;exact⟨_,by rw[gb];exact .none⟩) (λb _ _ u r=>by cases r;exact⟨_,by rw[gb];exact .bool b⟩) (λi _ _ u r=>by obtain⟨t,rfl⟩:=r;exact⟨_,by rw[gb];exact .int i t⟩)
  (λ_ n hl _ _=>nomatch (show false=true from hl))
  (λ{a vs ds} h _ ih n hl u r=>by
   cases r
   cases n with
   |zero=>exact nomatch (show false=true from hl)
   |succ n=>
    refine au λnO=>?_
    obtain⟨its,rv,⟨o,ho,hc,n',hd⟩,hz⟩:=I.tuple h
    obtain⟨as,ra⟩:=ih n hl its rv
    exact nO<|⟨as,by rw[gb];exact .tuple ho hc hd (by simpa using ra)⟩)
  (λ{a vs ds} h _ _ ih n hl u r=>by
   cases r
   cases n with
   |zero=>exact nomatch (show false=true from hl)
   |succ n=>
    refine au λnO=>?_
    obtain⟨its,rv,⟨o,n',ho,hc,_,hd⟩,hz⟩:=I.list (.inl h)
    obtain⟨as,ra⟩:=ih n hl its rv
    exact nO<|⟨_,by rw[gb];exact .list ho hc hd (by simpa using ra)⟩)
  (λ{a vs ds} h _ ih n hl u r=>by
   cases r
   cases n with
   |zero=>exact nomatch (show false=true from hl)
   |succ n=>
    refine au λnO=>?_
    obtain⟨its,rv,⟨o,n',ho,hc,_,hd⟩,hz⟩:=I.list (.inr h)
    obtain⟨as,ra⟩:=ih n hl its rv
    exact nO<|⟨_,by rw[gb];exact .list ho hc hd (by simpa using ra)⟩)
  (λ_ _ _ _ _ n hl _ _=>absurd hl (by simp[gY]))
  (λ_ _ us r=>by cases r;exact⟨[],by rw[dQ];exact .nil⟩)
  (λ{v d vs ds} _ _ i1 i2 n hl us r=>by
   simp only[jH,Zu]at hl
   cases r with
   |cons r1 r2=>
    obtain⟨a1,q1⟩:=i1 n hl.1 _ r1
    obtain⟨a2,q2⟩:=i2 n hl.2 _ r2
    exact⟨a1++a2,by rw[dQ];exact .cons q1 q2⟩) h
def NM(K:aC)(neg:Bool):R2:=λx y H Q=>∃dx dy,aY K (λ_=>False) H x dx/\aY K (λ_=>False) H y dy/\gY dx 60=true/\gY dy 60=true/\Q (.bl (if neg then !nv dx dy else nv dx dy)) H
def I_(hu:X.A.units+64<cLine):gX X (compareOp .Eq) (NM X.K false):=by
 intro U s σ H x y v u Q I rx ry zz
 refine iE zz λdx dy r1 r2 l1 l2 q=>?_
 obtain⟨a1,q1⟩:=eQ I r1 60 l1 v rx
 obtain⟨a2,q2⟩:=eQ I r2 60 l2 u ry
 have b1:=jS dx 60 l1
 have b2:=jS dy 60 l2
 exact SeqAt.compareEq_reads q1 q2 b1.1 b2.1 (by lia) ⟨.bl _,H,I,rfl,by rw[jd];exact q⟩
def Ja(hu:X.A.units+64<cLine):gX X (compareOp .NotEq) (NM X.K true):=by
 intro U s σ H x y v u Q I rx ry zz
 refine iE zz λdx dy r1 r2 l1 l2 q=>?_
 obtain⟨a1,q1⟩:=eQ I r1 60 l1 v rx
 obtain⟨a2,q2⟩:=eQ I r2 60 l2 u ry
 have b1:=jS dx 60 l1
 have b2:=jS dy 60 l2
 exact SeqAt.compareNe_reads q1 q2 b1.1 b2.1 (by lia) ⟨.bl _,H,I,rfl,by rw[jd];exact q⟩
theorem mi(x:D):∀ys:List D,((dQ ys).any λy=>y.eqv (gb x))=ys.any λy=>nv y x
 |[]=>by rw[dQ];rfl
 |y::ys=>by rw[dQ,acD,acD,jd,mi x ys]
noncomputable def SI(K:aC)(neg:Bool):R2:=λx y H Q=>∃dx ys,aY K (λ_=>False) H x dx/\aY K (λ_=>False) H y (.lst ys)/\gY dx 60=true/\gY (.lst ys) 60=true/\Q (.bl (if neg then !ys.any λz=>nv z dx else ys.any λz=>nv z dx)) H
def AD(hu:X.A.units+64<cLine):gX X (compareOp (if neg then .NotIn else .In)) (SI X.K neg):=by
 intro U s σ H x y v u Q I rx ry zz
 refine iE zz λdx ys r1 r2 l1 l2 q=>?_
 obtain⟨a1,q1⟩:=eQ I r1 60 l1 v rx
 obtain⟨a2,q2⟩:=eQ I r2 60 l2 u ry
 have b1:=jS dx 60 l1
 have b2:=lz ys 59 (by simpa only[gY]using l2)
 rw[gb]at q2
 cases neg with
 |false=>exact SeqAt.in_list_reads q2 q1 b2.1 b1.1 (by lia) ⟨.bl _,H,I,rfl,by rw[mi];exact q⟩
 |true=>exact SeqAt.notIn_list_reads q2 q1 b2.1 b1.1 (by lia) ⟨.bl _,H,I,rfl,by rw[mi];exact q⟩
def jT(hu:X.A.units+64<cLine):∃r,gX X (compareOp op) r/\∀O σ (ρ:Env) H x y k v w Q,EX X.K O σ H ρ->bz X.K O true H v x->bz X.K O true H w y->cmp op x y=some k->(∀H',ag H H'->Q (.bl k) H')->r v w H Q:=by
 cases op with
 |Eq=>
  refine⟨_,I_ hu,λO σ ρ H x y k v w Q hx r1 r2 hd q=>?_⟩
  simp only[cmp]at hd
  split at hd
  .rename_i hl
   rw[Zu]at hl
   cases hd
   exact⟨x,y,r1.any,r2.any,hl.1,hl.2,q _ (ag.refl _)⟩
  .cases hd
 |NotEq=>
  refine⟨_,Ja hu,λO σ ρ H x y k v w Q hx r1 r2 hd q=>?_⟩
  simp only[cmp]at hd
  split at hd
  .rename_i hl
   rw[Zu]at hl
   cases hd
   exact⟨x,y,r1.any,r2.any,hl.1,hl.2,q _ (ag.refl _)⟩
  .cases hd
 |Is=>
  refine⟨_,HM,λO σ ρ H x y k v w Q hx r1 r2 hd q=>?_⟩
  cases y with
  |bX=>
   simp only[cmp]at hd
   cases r2.bX
   refine⟨rfl,?_⟩
   have:decide (v= .bX)=k:=by
    cases hd
    cases x with
    |bX=>cases r1.bX;rfl
    |bl i=>cases r1.bl;rfl
    |int i=>cases r1.int;rfl
    |str i=>cases r1.str;rfl
    |tup i=>obtain⟨_,_,rfl,_⟩:=r1.tup;rfl
    |lst i=>obtain⟨_,_,rfl,_⟩:=r1.lst;rfl
    |bj t ks i=>obtain⟨_,rfl⟩:=r1.IZ;rfl
   rw[this]
   exact q _ (ag.refl _)
  |_=>cases hd
 |In=>
  refine⟨_,AD (neg:=false) hu,λO σ ρ H x y k v w Q hx r1 r2 hd q=>?_⟩
  cases y with
  |lst ys=>
   simp only[cmp]at hd
   split at hd
   .rename_i hl
    rw[Zu]at hl
    cases hd
    exact⟨x,ys,r1.any,r2.any,hl.1,hl.2,q _ (ag.refl _)⟩
   .cases hd
  |_=>cases hd
 |NotIn=>
  refine⟨_,AD (neg:=true) hu,λO σ ρ H x y k v w Q hx r1 r2 hd q=>?_⟩
  cases y with
  |lst ys=>
   simp only[cmp]at hd
   split at hd
   .rename_i hl
    rw[Zu]at hl
    cases hd
    exact⟨x,ys,r1.any,r2.any,hl.1,hl.2,q _ (ag.refl _)⟩
   .cases hd
  |_=>cases hd
 |Lt=>
  refine⟨_,L_,λO σ ρ H x y k v w Q hx r1 r2 hd q=>?_⟩
  cases x with
  |int i=>
   cases y with
   |int j=>cases hd;exact⟨i,j,r1.int,r2.int,q _ (ag.refl _)⟩
   |_=>cases hd
  |_=>cases hd
 |LtE=>
  refine⟨_,L',λO σ ρ H x y k v w Q hx r1 r2 hd q=>?_⟩
  cases x with
  |int i=>
   cases y with
   |int j=>cases hd;exact⟨i,j,r1.int,r2.int,q _ (ag.refl _)⟩
   |_=>cases hd
  |_=>cases hd
 |Gt=>
  refine⟨_,Ma,λO σ ρ H x y k v w Q hx r1 r2 hd q=>?_⟩
  cases x with
  |int i=>
   cases y with
   |int j=>cases hd;exact⟨i,j,r1.int,r2.int,q _ (ag.refl _)⟩
   |_=>cases hd
  |_=>cases hd
 |_=>exact⟨λ_ _ _ _=>False,λ_ _ _ _ _ _ _ _ _ _ _ _ h=>h.elim,λ_ _ _ _ _ _ _ _ _ _ _ _ _ hd _=>by cases hd⟩
def NN(hu:X.A.units+64<cLine)(ha:PE X a (tV X.K true fa))(hb:PE X b (tV X.K true fb))(hm:behindInMarks op b=false):
  PE X (.Compare a [op] [b] pos) (tV X.K m λρ=>(fa ρ).bind λx=>(fb ρ).bind λy=>(cmp op x y).map .bl):=by
 refine aa (jT (op:=op) hu) λr ho hr=>(CZ ho ha hb hm).weak λσ H Q zz=>au λnO=>b6 zz λO ρ d hx hd k=>aa (bind_some hd) λx e1 hd=>aa (bind_some hd) λy e2 hd=>aa (map_some hd) λq e3 ah=>?_
 subst ah
 exact nO<|⟨O,ρ,x,hx,e1,λv H1 s1 r1=>⟨O,ρ,y,hx.mono s1,e2,λw H2 s2 r2=>hr O σ ρ H2 x y q v w Q (hx.mono (s1.trans s2)) (r1.mono s2) r2 e3 λH' s'=>k _ H' ((s1.trans s2).trans s') (.inl (.bl _))⟩⟩
def NO(hu:X.A.units+64<cLine)(ha:PE X a (tV X.K true fa))(hb:PE X b (tV X.K true fb))(hm:behindInMarks op b=false):
  PT X (.Compare a [op] [b] pos) (tB X.K λρ=>((fa ρ).bind λx=>(fb ρ).bind λy=>(cmp op x y).map .bl).bind fg):=by
 refine aa (jT (op:=op) hu) λr ho hr=>(C0 ho ha hb hm).weak λσ H Q zz=>au λnO=>b6 zz λO ρ d hx hd k=>aa (bind_some hd) λz hd hz=>aa (bind_some hd) λx e1 hd=>aa (bind_some hd) λy e2 hd=>aa (map_some hd) λq e3 ah=>?_
 subst ah
 have Gm:q=d:=ZY hz
 subst Gm
 exact nO<|⟨O,ρ,x,hx,e1,λv H1 s1 r1=>⟨O,ρ,y,hx.mono s1,e2,λw H2 s2 r2=>hr O σ ρ H2 x y q v w _ (hx.mono (s1.trans s2)) (r1.mono s2) r2 e3 λH' s'=>⟨q,rfl,k H' ((s1.trans s2).trans s')⟩⟩⟩
def Ec(hu:X.A.units+64<cLine)(ha:PE X a (tV X.K true fa))(hb:PE X b (tV X.K true fb))(hc:PE X c (tV X.K true fc))(hm:lastMarks [op,tL] [b,c]=false):
  PE X (.Compare a [op,tL] [b,c] pos) (tV X.K m λρ=>(fa ρ).bind λx=>(fb ρ).bind λy=>(cmp op x y).bind λk=>if k then(fc ρ).bind λz=>(cmp tL y z).map .bl else some (.bl false)):=by
 refine au λnO=>aa (jT (op:=op) hu) λr ho hr=>aa (jT (op:=tL) hu) λr' lH AF=>nO<|(zw ho lH ha hb hc hm).weak λσ H Q zz=>abf λnO=>b6 zz λO ρ d hx hd k=>aa (bind_some hd) λx e1 hd=>aa (bind_some hd) λy e2 hd=>aa (bind_some hd) λq e3 hd=>nO ?_
 refine⟨O,ρ,x,hx,e1,λv H1 s1 r1=>⟨O,ρ,y,hx.mono s1,e2,λw H2 s2 r2=>hr O σ ρ H2 x y q v w _ (hx.mono (s1.trans s2)) (r1.mono s2) r2 e3 λH3 s3=>⟨q,rfl,?_⟩⟩⟩
 cases q with
 |false=>
  cases hd
  exact kL (k _ H3 ((s1.trans s2).trans s3) (.inl (.bl _)))
 |true=>
  refine au λnO=>aa (bind_some hd) λz e4 hd=>aa (map_some hd) λq' e5 ah=>?_
  subst ah
  exact nO<|iR ⟨O,ρ,z,hx.mono ((s1.trans s2).trans s3),e4,λu H4 s4 r4=>AF O σ ρ H4 y z q' w u _ (hx.mono (((s1.trans s2).trans s3).trans s4)) (r2.mono (s3.trans s4)) r4 e5 λH5 s5=>k _ H5 ((((s1.trans s2).trans s3).trans s4).trans s5) (.inl (.bl _))⟩
def Ed(hu:X.A.units+64<cLine)(ha:PE X a (tV X.K true fa))(hb:PE X b (tV X.K true fb))(hc:PE X c (tV X.K true fc))(hm:lastMarks [op,tL] [b,c]=false):
  PT X (.Compare a [op,tL] [b,c] pos) (tB X.K λρ=>((fa ρ).bind λx=>(fb ρ).bind λy=>(cmp op x y).bind λk=>if k then(fc ρ).bind λz=>(cmp tL y z).map .bl else some (.bl false)).bind fg):=by
 refine au λnO=>aa (jT (op:=op) hu) λr ho hr=>aa (jT (op:=tL) hu) λr' lH AF=>nO<|(zx ho lH ha hb hc hm).weak λσ H Q zz=>abf λnO=>b6 zz λO ρ d hx hd k=>aa (bind_some hd) λz' hd hz=>aa (bind_some hd) λx e1 hd=>aa (bind_some hd) λy e2 hd=>aa (bind_some hd) λq e3 hd=>nO ?_
 refine⟨O,ρ,x,hx,e1,λv H1 s1 r1=>⟨O,ρ,y,hx.mono s1,e2,λw H2 s2 r2=>hr O σ ρ H2 x y q v w _ (hx.mono (s1.trans s2)) (r1.mono s2) r2 e3 λH3 s3=>⟨q,rfl,?_⟩⟩⟩
 cases q with
 |false=>
  cases hd
  cases hz
  exact kL ⟨_,rfl,k H3 ((s1.trans s2).trans s3)⟩
 |true=>
  refine au λnO=>aa (bind_some hd) λz e4 hd=>aa (map_some hd) λq' e5 ah=>?_
  subst ah
  have Gm:q'=d:=ZY hz
  subst Gm
  exact nO<|iR ⟨O,ρ,z,hx.mono ((s1.trans s2).trans s3),e4,λu H4 s4 r4=>AF O σ ρ H4 y z q' w u _ (hx.mono (((s1.trans s2).trans s3).trans s4)) (r2.mono (s3.trans s4)) r4 e5 λH5 s5=>⟨_,rfl,k H5 ((((s1.trans s2).trans s3).trans s4).trans s5)⟩⟩
def cm(h:PE X e (tV X.K false f))(he:∀cz,isTrue e X.env cz=(do let v<-cz;standAt e.pos;holding [v] (truthy v))):PT X e (tB X.K λρ=>(f ρ).bind fg):=
 (Hr h he).weak λσ H Q zz=>by
  refine b6 zz λO ρ k hx hd q=>aa (bind_some hd) λx e1 hd=>?_
  cases eP hd
  exact⟨O,ρ,_,hx,e1,λv H1 s1 r1=>⟨k,r1.bl,q H1 s1⟩⟩
def GA(ha:PE X a (tV X.K false fa)):PE X (.UnaryOp .USub a pos) (tV X.K m λρ=>((fa ρ).bind Dp).map λi=> .int (-i)):=
 (F5 zq ha).weak λσ H Q zz=>by
  refine b6 zz λO ρ d hx hd k=>aa (map_some hd) λi iF ah=>?_
  subst ah
  refine aa (bind_some iF) λx e1 jU=>?_
  cases sj jU
  exact⟨O,ρ,_,hx,e1,λv H1 s1 r1=>⟨i,r1.int,k _ _ s1 (.inl (.int _))⟩⟩
def v_not(ha:PE X a (tV X.K false fa)):PE X (.UnaryOp .Not a pos) (tV X.K m λρ=>((fa ρ).bind fg).map λk=> .bl !k):=
 (zh ha).weak λσ H Q zz=>by
  refine b6 zz λO ρ d hx hd k=>aa (map_some hd) λx iF ah=>?_
  subst ah
  refine aa (bind_some iF) λy e1 jU=>?_
  cases eP jU
  exact⟨O,ρ,_,hx,e1,λv H1 s1 r1=>⟨x,r1.bl,k _ H1 s1 (.inl (.bl _))⟩⟩
def NP{fa:Env->Option D}(ha:PT X a (tB X.K λρ=>(fa ρ).bind fg)):PT X (.UnaryOp .Not a pos) (tB X.K λρ=>(((fa ρ).bind fg).map λk=>D.bl !k).bind fg):=
 (Hu ha).weak λσ H Q zz=>by
  refine au λnO=>b6 zz λO ρ d hx hd k=>aa (bind_some hd) λx iF h2=>aa (map_some iF) λy jU ah=>?_
  subst ah
  cases h2
  exact nO<|⟨O,ρ,y,hx,jU,λH1 s1=>k H1 s1⟩
noncomputable def bo(k:Bool):BoolOp:=if k then .And else .Or
def Jb(ha:PE X a (tV X.K false fa)):PE X (.BoolOp (bo k) [a] pos) (tV X.K m λρ=>(((fa ρ).bind fg).bind λx=>if x=k then some k else some x).map .bl):=
 (zg (op:=bo k) ha).weak λσ H Q zz=>by
  refine b6 zz λO ρ d hx hd q=>aa (map_some hd) λy iF ah=>?_
  subst ah
  refine aa (bind_some iF) λx jU hy=>aa (bind_some jU) λz e1 NQ=>?_
  cases eP NQ
  have:x=y:=by
   split at hy
   .rename_i e;cases hy;exact e
   .cases hy;rfl
  subst this
  exact⟨O,ρ,_,hx,e1,λv H1 s1 r1=>q v H1 s1 (.inl r1.own)⟩
def NR{fr:Env->Option Bool}(ha:PE X a (tV X.K false fa))(hr:PE X (.BoolOp (bo k) (b::es) pos) (tV X.K false λρ=>(fr ρ).map .bl)):
  PE X (.BoolOp (bo k) (a::b::es) pos) (tV X.K m λρ=>(((fa ρ).bind fg).bind λx=>if x=k then fr ρ else some x).map .bl):=by
 cases k with
 |true=>
  refine PE.weak (tU ha hr) λσ H Q zz=>au λnO=>b6 zz λO ρ d hx hd q=>aa (map_some hd) λy iF ah=>?_
  subst ah
  refine aa (bind_some iF) λx jU hy=>aa (bind_some jU) λz e1 NQ=>nO ?_
  cases eP NQ
  refine⟨O,ρ,_,hx,e1,λv H1 s1 r1=>⟨x,r1.bl,?_⟩⟩
  cases x with
  |true=>exact iR ⟨O,ρ,.bl y,hx.mono s1,by rw[ZM rfl]at hy;show(fr ρ).map D.bl=_;rw[hy];rfl,λv H2 s2 r2=>q v H2 (s1.trans s2) (.inl r2.own)⟩
  |false=>rw[ZW Zz]at hy;cases hy;exact kL (q _ H1 s1 (.inl (.bl _)))
 |false=>
  refine PE.weak (L5 ha hr) λσ H Q zz=>au λnO=>b6 zz λO ρ d hx hd q=>aa (map_some hd) λy iF aM=>?_
  subst aM
  refine aa (bind_some iF) λx jU hy=>aa (bind_some jU) λz e1 NQ=>nO ?_
  cases eP NQ
  refine⟨O,ρ,_,hx,e1,λv H1 s1 r1=>⟨x,r1.bl,?_⟩⟩
  cases x with
  |false=>exact kL ⟨O,ρ,.bl y,hx.mono s1,by rw[ZM rfl]at hy;show(fr ρ).map D.bl=_;rw[hy];rfl,λv H2 s2 r2=>q v H2 (s1.trans s2) (.inl r2.own)⟩
  |true=>rw[ZW (by decide)]at hy;cases hy;exact iR (q _ H1 s1 (.inl (.bl _)))
def Jc{fa:Env->Option D}(ha:PT X a (tB X.K λρ=>(fa ρ).bind fg)):PW X (.BoolOp (bo k) [a] pos) (tB X.K λρ=>((fa ρ).bind fg).bind λx=>if x=k then some k else some x):=by
 have w:∀σ H Q,tB X.K (λρ=>((fa ρ).bind fg).bind λx=>if x=k then some k else some x) σ H Q->tB X.K (λρ=>(fa ρ).bind fg) σ H Q:=λσ H Q zz=>by
  refine b6 zz λO ρ y hx hd q=>aa (bind_some hd) λx iF hy=>?_
  have:x=y:=by
   split at hy
   .rename_i e;cases hy;exact e
   .cases hy;rfl
  subst this
  exact⟨O,ρ,x,hx,iF,q⟩
 cases k with
 |true=>exact λwh U s σ H Q I h=>CT ha wh U s σ H Q I (w σ H Q h)
 |false=>exact λwh U s σ H Q I h=>Hs ha wh U s σ H Q I (w σ H Q h)
def NS{fa:Env->Option D}(ha:PT X a (tB X.K λρ=>(fa ρ).bind fg))(hr:PW X (.BoolOp (bo k) (b::es) pos) (tB X.K fr)):
  PW X (.BoolOp (bo k) (a::b::es) pos) (tB X.K λρ=>((fa ρ).bind fg).bind λx=>if x=k then fr ρ else some x):=by
 cases k with
 |true=>
  refine λwh U s σ H Q I h=>Ht ha hr wh U s σ H Q I ?_
  refine b6 h λO ρ y hx hd q=>aa (bind_some hd) λx hd hy=>⟨O,ρ,x,hx,hd,λH1 s1=>?_⟩
  cases x with
  |true=>exact iR ⟨O,ρ,y,hx.mono s1,by rw[ZM rfl]at hy;exact hy,λH2 s2=>q H2 (s1.trans s2)⟩
  |false=>rw[ZW Zz]at hy;cases hy;exact kL (q H1 s1)
 |false=>
  refine λwh U s σ H Q I h=>LY ha hr wh U s σ H Q I ?_
  refine b6 h λO ρ y hx hd q=>aa (bind_some hd) λx hd hy=>⟨O,ρ,x,hx,hd,λH1 s1=>?_⟩
  cases x with
  |false=>exact kL ⟨O,ρ,y,hx.mono s1,by rw[ZM rfl]at hy;exact hy,λH2 s2=>q H2 (s1.trans s2)⟩
  |true=>rw[ZW (by decide)]at hy;cases hy;exact iR (q H1 s1)
def NT:PA X [] (tP X.K m λ_=>some []):=λp U s σ H Q I zz=>by
 refine au λnO=>b6 zz λO ρ ds hx hd k=>?_
 cases hd
 exact nO<|cf p U s σ H Q I (k [] H (ag.refl _) .nil)
def fB{K:aC}:∀{vs:List V}{ds:List D},Paired (bz K O false H) vs ds->av K O H vs ds:=λ{vs ds} h=>by
 induction h with
 |nil=>exact .nil
 |cons r t ih=>exact .cons r.own ih
def uz{K:aC}{b:Bool}:∀{vs:List V}{ds:List D},Paired (bz K O b H) vs ds->av K (λ_=>False) H vs ds:=λ{vs ds} h=>by
 induction h with
 |nil=>exact .nil
 |cons r t ih=>exact .cons r.any ih
def Jd(h:PE X e (tV X.K m f))(hr:PA X es (tP X.K m g))(hs:starEach (e::es) X.env=(false,eval e X.env)::starEach es X.env):
  PA X (e::es) (tP X.K m λρ=>(f ρ).bind λx=>(g ρ).bind λxs=>some (x::xs)):=λp U s σ H Q I zz=>by
 refine au λnO=>b6 zz λO ρ ds hx hd k=>aa (bind_some hd) λx e1 hd=>aa (bind_some hd) λxs e2 hd=>?_
 cases hd
 exact nO<|aZ h hr hs p U s σ H Q I ⟨O,ρ,x,hx,e1,λv H1 s1 r1=>⟨O,ρ,xs,hx.mono s1,e2,λvs H2 s2 r2=>k (v::vs) H2 (s1.trans s2) (.cons (r1.mono s2) r2)⟩⟩
def GB{k:Nat}(h:PA X es (tP X.K false g)):PE X (.Tuple es k pos) (tV X.K m λρ=>(g ρ).bind λxs=>if xs.length<=bR then some (.tup xs) else none):=
 PE.weak (HS h) λσ H Q zz=>by
  refine b6 zz λO ρ d hx hd q=>aa (bind_some hd) λxs e1 hd=>?_
  split at hd
  .rename_i hz
   cases hd
   refine⟨O,ρ,xs,hx,e1,λvs H1 s1 r1=>?_⟩
   have lu:=fB r1
   exact⟨by rw[lu.length,cE];exact hz,λp hp=>q _ _ (s1.trans (ag.upd hp)) (.inl (.tup (cC.of ai) (lu.mono (ag.upd hp))))⟩
  .cases hd
def NU{g:Env->Option (List D)}(h:PA X es (tP X.K false g)):PE X (.List es pos) (tF X.K λρ=>(g ρ).bind λxs=>if xs.length<=bR then some xs else none):=
 PE.weak (zy h) λσ H Q zz=>by
  refine b6 zz λO ρ d hx hd q=>aa (bind_some hd) λxs e1 hd=>?_
  split at hd
  .rename_i hz
   cases hd
   refine⟨O,ρ,_,hx,e1,λvs H1 s1 r1=>?_⟩
   have lu:=fB r1
   exact⟨by rw[lu.length,cE];exact hz,λp hp=>q p vs H1 s1 hp lu⟩
  .cases hd
def mj(n:Nat)(i:Int):bT n i=K5 n i:=rfl
def item_at{K:aC}(h:av K O H vs ds)(e:((bT ds.length k).bind λj=>ds[j]?)=some d):∃v,F_ vs k=some v/\aY K O H v d:=by
 exact aa (bind_some e) λj e1 e2=>aa (h.get e2) λv h1 h2=>⟨v,by unfold F_;rw[h.length,<-mj,e1];exact h1,h2⟩
def NV{fa fb:Env->Option D}(ha:PE X a (tV X.K true fa))(hb:PE X b (tV X.K false fb))(hs:pQ b):PE X (.Subscript a b pos) (tV X.K m λρ=>(fa ρ).bind λx=>(fb ρ).bind λk=>item x k):=
 PE.weak (Ga (vd.or HZ) ha hb hs) λσ H Q zz=>by
  refine au λnO=>b6 zz λO ρ d hx hd q=>aa (bind_some hd) λx e1 hd=>aa (bind_some hd) λy e2 hd=>nO ?_
  refine⟨O,ρ,x,hx,e1,λv H1 s1 r1=>⟨O,ρ,y,hx.mono s1,e2,λw H2 s2 r2=>?_⟩⟩
  have lu:=r1.mono s2
  cases y with
  |int k=>
   cases x with
   |lst xs=>
    refine au λnO=>bu lu.lst λp vs ah h1 h2=>?_
    subst ah
    exact aa (item_at h2 hd) λu h3 h4=>nO<| .inl ⟨p,vs,k,u,rfl,r2.int,h1,h3,q u H2 (s1.trans s2) (.inl h4)⟩
   |tup xs=>
    refine au λnO=>bu lu.tup λp vs aM h1 h2=>?_
    subst aM
    exact aa (item_at h2 hd) λu h3 h4=>nO<| .inr ⟨p,vs,k,u,rfl,r2.int,h1,h3,q u H2 (s1.trans s2) (.inl h4)⟩
   |_=>cases hd
  |_=>cases x<;>cases hd
def tO(K:aC)(f:Env->Option (Option Int)):TO:=λσ H Q=>∃O ρ o,EX K O σ H ρ/\f ρ=some o/\∀H',ag H H'->Q o H'
def Je:PO X none (tO X.K λ_=>some none):=λU s σ H Q I zz=>by
 refine au λnO=>b6 zz λO ρ o hx hd k=>?_
 cases hd
 exact nO<|C8 U s σ H Q I (k H (ag.refl _))
def Jf(h:PE X e (tV X.K false f)):PO X (some e) (tO X.K λρ=>((f ρ).bind Dp).map some):=λU s σ H Q I zz=>by
 refine au λnO=>b6 zz λO ρ o hx hd k=>aa (map_some hd) λi iF ah=>?_
 subst ah
 refine aa (bind_some iF) λd e1 jU=>nO ?_
 cases sj jU
 exact C9 h U s σ H Q I ⟨O,ρ,_,hx,e1,λv H1 s1 r1=>⟨i,r1.int,k H1 s1⟩⟩
def dB(n d:Nat)(o:Option Int):bound n d o=HT.b9 n d o:=by
 cases o with
 |none=>rfl
 |some v=>
  have:=HT.pO v n d
  show(if v<0 then max (v+(n:Int)) 0 else min v (n:Int)).toNat =_
  rw[this]
  exact aaT _
def ml{K:aC}(h:av K O H vs ds)(lo hi:Option Int):av K O H (rg vs lo hi) (zN ds lo hi):=by
 unfold rg zN
 rw[dB,dB,h.length]
 exact(h.drop _).take _
theorem av.rev{K:aC}:∀{vs:List V}{ds:List D},av K O H vs ds->av K O H vs.reverse ds.reverse
 |_,_,.nil => .nil
 |_,_,.cons r t=>by rw[adk,adk];exact(av.rev t).append (.cons r .nil)
def NW(ha:PE X a (tV X.K true fa)):PE X (.Subscript a (.Slice none none (some (.UnaryOp .USub (.Constant (.int 1) j p1) p3)) p2) pos) (tV X.K m λρ=>(fa ρ).bind MB):=
 (IF ha).weak λσ H Q zz=>by
  refine au λnO=>b6 zz λO ρ d hx hd q=>aa (bind_some hd) λx e1 hd=>nO ?_
  cases x with
  |tup xs=>
   refine⟨O,ρ,_,hx,e1,λv H1 s1 r1=>au λnO=>?_⟩
   cases hd
   refine bu r1.tup λp vs aM h1 h2=>?_
   subst aM
   exact nO<|⟨p,vs,rfl,h1,λp' hp=>q _ _ (s1.trans (ag.upd hp)) (.inl (.tup (cC.of ai) (h2.rev.mono (ag.upd hp))))⟩
  |_=>cases hd
def NX{lo hi:Option Expr}(ha:PE X a (tV X.K true fa))(hl:PO X lo (tO X.K fl))(hh:PO X hi (tO X.K fh)):
  PE X (.Subscript a (.Slice lo hi none p2) pos) (tV X.K m λρ=>(fa ρ).bind λx=>(fl ρ).bind λl=>(fh ρ).bind λh=>cutD x l h):=
 PE.weak (rf (CD.or vg Dy) ha hl hh) λσ H Q zz=>by
  refine au λnO=>b6 zz λO ρ d hx hd q=>aa (bind_some hd) λx e1 hd=>aa (bind_some hd) λl e2 hd=>aa (bind_some hd) λh e3 hd=>nO ?_
  refine⟨O,ρ,x,hx,e1,λv H1 s1 r1=>⟨O,ρ,l,hx.mono s1,e2,λH2 s2=>⟨O,ρ,h,hx.mono (s1.trans s2),e3,λH3 s3=>?_⟩⟩⟩
  have lu:=r1.mono (s2.trans s3)
  have CJ:=(s1.trans s2).trans s3
  cases x with
  |lst xs=>
   refine au λnO=>?_
   cases hd
   refine bu lu.lst λp vs ah h1 h2=>?_
   subst ah
   exact nO<| .inl ⟨p,vs,rfl,h1,λp' hp=>q _ _ (CJ.trans (ag.upd hp)) (.inl (.lst (.inl ai) ((hx.mono CJ).free (ag.refl _) hp) ((ml h2 l h).mono (ag.upd hp))))⟩
  |tup xs=>
   refine au λnO=>bu lu.tup λp vs aM h1 h2=>?_
   subst aM
   cases hd
   refine nO ?_
   by_cases hw:bound xs.length 0 l=0/\bound xs.length xs.length h=xs.length
   .refine .inr (.inr ⟨p,vs,rfl,h1,by rw[<-dB,<-dB,h2.length];exact hw,q _ _ CJ (.inl (.tup h1 ?_))⟩)
    have e:zN xs l h=xs:=by
     unfold zN
     rw[hw.1,hw.2,acK,Nat.sub_zero,List.take_length]
    rw[e]
    exact h2
   .refine .inr (.inl ⟨p,vs,rfl,h1,?_,λp' hp=>q _ _ (CJ.trans (ag.upd hp)) (.inl (.tup (cC.of ai) ((ml h2 l h).mono (ag.upd hp))))⟩)
    rw[<-dB,<-dB,h2.length]
    exact hw
  |_=>cases hd
def SJ{lo hi:Option Expr}(ha:PE X a (tV X.K true fa))(hl:PO X lo (tO X.K fl))(hh:PO X hi (tO X.K fh)):
  PE X (.Subscript a (.Slice lo hi none p2) pos) (tF X.K λρ=>((fa ρ).bind λx=>(fl ρ).bind λl=>(fh ρ).bind λh=>cutD x l h).bind λd=>match d with| .lst ds=>some ds|_=>none):=
 PE.weak (rf vg ha hl hh) λσ H Q zz=>by
  refine au λnO=>b6 zz λO ρ ds hx hd q=>aa (bind_some hd) λd hd hz=>aa (bind_some hd) λx e1 hd=>aa (bind_some hd) λl e2 hd=>aa (bind_some hd) λh e3 hd=>nO ?_
  refine⟨O,ρ,x,hx,e1,λv H1 s1 r1=>⟨O,ρ,l,hx.mono s1,e2,λH2 s2=>⟨O,ρ,h,hx.mono (s1.trans s2),e3,λH3 s3=>?_⟩⟩⟩
  have lu:=r1.mono (s2.trans s3)
  have CJ:=(s1.trans s2).trans s3
  cases x with
  |lst xs=>
   refine au λnO=>?_
   cases hd
   cases hz
   refine bu lu.lst λp vs ah h1 h2=>?_
   subst ah
   exact nO<|⟨p,vs,rfl,h1,λp' hp=>q p' _ H3 CJ hp (ml h2 l h)⟩
  |tup xs=>cases hd;cases hz
  |_=>cases hd
end
section
variable {X:Cx}{a b c e e0:Expr}{es:List Expr}{pos p:Pos}{m:Bool}
def uA(K:aC)(n:Nat)(f:List D->Option D):Sp:=λvs H Q _=>∃O ds d,(∀a,O a->∃u,H a=some u/\qP u)/\av K O H vs ds/\f ds=some d/\vs.length=n/\∀v H',ag H H'->aY K O H' v d->Q v H'
def Jg{g:Bool->Env->Option (List D)}{ln:Env->Bool}(F:fY X.prog X.w X.K X.mg X.base rj k fa fd ps (uA X.K ps.length f))(hr:dW k X.A)(hg:Gl X x)(hm:X.mg x=some (.ref fa))
  (hk:PySem.W.keepIn X.K (.ref fa)=true) (hb:Binds X.K fd ps []) (hf:∀ds d,f ds=some d->ds.length=ps.length) (ha:∀b,PA X (e::es) (tP X.K b (g b))) (hl:∀ρ,ln ρ=false->g true ρ=g false ρ)
  (tM:(x==("__debug__":Str))=false) (he:starEach (e::es) X.env=(false,eval e X.env)::starEach es X.env) (iJ:(backTo pos (starEach es X.env)).any (·.1)=false):
  PE X (.Call (.Name x p) (e::es) [] pos) (tV X.K m λρ=>(g true ρ).bind λxs=>(f xs).bind λd=>if ln ρ&&!aF d then none else some d):=by
 intro U s σ H Q I zz
 refine b6 zz λO ρ d hx hd q=>?_
 refine aa (bind_some hd) λxs e1 hd=>aa (bind_some hd) λd' e2 hd=>?_
 cases SK:ln ρ with
 |false=>
  rw[SK]at hd
  simp only[Bool.false_and,abp,if_false]at hd
  cases hd
  rw[hl ρ SK]at e1
  refine u7 F hr hg hm hk hb .nil zH (ha false) tM he iJ U s σ H Q I ⟨O,ρ,xs,hx,e1,λvs H1 s1 r1=>?_⟩
  have lu:=fB r1
  show uA X.K ps.length f (vs++[]) H1 Q E0
  rw[aaK]
  exact⟨O,xs,d,(hx.mono s1).live,lu,e2,by rw[lu.length];exact hf _ _ e2,λv H2 s2 r2=>q v H2 (s1.trans s2) (.inl r2)⟩
 |true=>
  rw[SK]at hd
  cases hn:aF d' with
  |false=>rw[hn]at hd;cases hd
  |true=>
   rw[hn]at hd
   simp only[Bool.not_true,Bool.and_false,abp,if_false]at hd
   cases hd
   refine u7 F hr hg hm hk hb .nil zH (ha true) tM he iJ U s σ H Q I ⟨O,ρ,xs,hx,e1,λvs H1 s1 r1=>?_⟩
   have lu:=uz r1
   show uA X.K ps.length f (vs++[]) H1 Q E0
   rw[aaK]
   exact⟨λ_=>False,xs,d,λ_ z=>z.elim,lu,e2,by rw[lu.length];exact hf _ _ e2,λv H2 s2 r2=>q v H2 (s1.trans s2) (.inl (xY r2 hn))⟩
def qq(mk:∀t,PA X (e::es) t->PE X e0 (Rk r t))(ha:PA X (e::es) (tP X.K true g))
  (hr:∀O σ (ρ:Env) H ds vs d Q,EX X.K O σ H ρ->Paired (bz X.K O true H) vs ds->pf ds=some d->(∀v H',ag H H'->bz X.K O m H' v d->Q v H')->r vs H Q):PE X e0 (tV X.K m λρ=>(g ρ).bind pf):=
 (mk _ ha).weak λσ H Q zz=>by
  exact b6 zz λO ρ d hx hd q=>aa (bind_some hd) λxs e1 hd=>⟨O,ρ,xs,hx,e1,λvs H1 s1 r1=>hr O σ ρ H1 xs vs d Q (hx.mono s1) r1 hd λv H' s' r'=>q v H' (s1.trans s') r'⟩
def cI{K:aC}{b:Bool}(h:Paired (bz K O b H) vs [d]):∃v,vs=[v]/\bz K O b H v d:=by
 cases h with
 |cons r t=>cases t;exact⟨_,rfl,r⟩
def Ee{K:aC}{b:Bool}(h:Paired (bz K O b H) vs [d,d']):∃v v',vs=[v,v']/\bz K O b H v d/\bz K O b H v' d':=by
 cases h with
 |cons r t=>
  cases t with
  |cons r' t=>cases t;exact⟨_,_,rfl,r,r'⟩
theorem cJ{K:aC}:∀{vs:List V}{ds:List D}{ns:List Int},av K O H vs ds->aP ds=some ns->vs=ns.map V.int
 |_,_,_,.nil,h=>by cases h;rfl
 |_,_,ns,.cons (d:=d) r t,h=>by
  cases d with
  |int i=>
   simp only[aP]at h
   refine aa (map_some h) λuy h1 ah=>?_
   subst ah
   rw[Z4,<-cJ t h1,r.int_inv]
  |_=>cases h
def SN(K:aC):List V->Hp->VK->Prop:=λxs H Q=>∃p n ns,xs=[.ref p]/\(du K H p ((n::ns).map V.int)\/cC K H p ((n::ns).map V.int))/\Q (.int (gQ n ns)) H
def xZ(hc:X.calm=true):cA X (.builtin "min") (SN X.K):=by
 intro U s σ H xs us Q I r zz
 refine b6 zz λp n ns e hq q=>?_
 subst e
 refine aa (vals1 r) λu ah rx=>?_
 subst ah
 cases rx
 have fin:∀(h':Heap) (tk:Nat) (t:Tok),(∀b o,s.heap.get? b=some o->h'.get? b=some o)->EP X U σ Q (.int (gQ n ns) t) {s with heap:=h',toks:=tk}:=λh' tk t k=>⟨.int _,H,I.kept k,⟨_,rfl⟩,q⟩
 rcases hq with hq|hq
 .exact bB (I.list hq) λits rv pl hz=>kl (I.ok.hd hc) (.inl pl.isList) (intsAre_of rv) fin
 .exact bB (I.tuple hq) λits rv pl hz=>kl (I.ok.hd hc) (.inr pl) (intsAre_of rv) fin
noncomputable def hZ:ug->Str
 | .len =>"len"| .tuple =>"tuple"| .list =>"list"| .min =>"min"
def Ef{K:aC}(h:TupAt H u k):aY K O H u (zO k):=by
 refine aa h λb ah hb=>?_
 try clear h
 subst ah
 exact .tup hb (eO k)
def AG{K:aC}:∀{us:List V}{ks:List (List Int)},Paired (TupAt H) us ks->av K O H us (ks.map zO):=λ{us ks} h=>by
 induction h with
 |nil=>exact .nil
 |cons h t ih=>exact .cons (Ef h) ih
def oJ{q:ug}(hu:X.A.units+64<cLine)(hc:X.calm=true)(hg:Gl X (hZ q))(hm:X.mg (hZ q)=none)(ha:PA X (e::es) (tP X.K true g))
  (he:starEach (e::es) X.env=(false,eval e X.env)::starEach es X.env) (iJ:(backTo pos (starEach es X.env)).any (·.1)=false):
  PE X (.Call (.Name (hZ q) p) (e::es) [] pos) (tV X.K m λρ=>(g ρ).bind (prim q)):=by
 cases q with
 |len=>
  refine qq (λt ht=>eF pS hg hm PySem.boot_len ht (by decide) (by decide) he iJ) ha λO σ ρ H ds vs d Q hx r hd q=>?_
  cases ds with
  |nil=>cases hd
  |cons x t=>
   cases t with
   |cons _ _=>cases hd
   |nil=>
    refine aa (cI r) λv ah rv=>?_
    subst ah
    refine au λnO=>aa (map_some (show(seq x).map (λys=>D.int ys.length)=some d from hd)) λys h1 aM=>?_
    subst aM
    refine bu (rv.seq h1) λp us cO h2 h3=>?_
    subst cO
    exact nO<|⟨p,us,rfl,h2,by rw[h3.length];exact q _ _ (ag.refl _) (.inl (.int _))⟩
 |tuple=>
  refine qq (λt ht=>eG nH hg hm boot_tuple ht (by decide) (by decide) he iJ) ha λO σ ρ H ds vs d Q hx r hd q=>?_
  cases ds with
  |nil=>cases hd
  |cons x t=>
   cases t with
   |cons _ _=>cases hd
   |nil=>
    refine au λnO=>aa (cI r) λv sh rv=>?_
    subst sh
    refine aa (map_some hd) λys h1 NY=>?_
    subst NY
    refine bu (rv.seq h1) λp us NZ h2 h3=>?_
    subst NZ
    refine nO ?_
    refine⟨p,us,rfl,?_⟩
    rcases h2 with h2|h2
    .exact .inl ⟨h2,λl hl=>q _ _ (ag.upd hl) (.inl (.tup (cC.of ai) (h3.mono (ag.upd hl))))⟩
    .exact .inr ⟨h2,q _ _ (ag.refl _) (.inl (.tup h2 h3))⟩
 |list=>
  refine qq (λt ht=>eG iM hg hm boot_list ht (by decide) (by decide) he iJ) ha λO σ ρ H ds vs d Q hx r hd q=>?_
  cases ds with
  |nil=>cases hd
  |cons x t=>
   cases t with
   |cons _ _=>cases hd
   |nil=>
    refine au λnO=>aa (cI r) λv Lh rv=>?_
    subst Lh
    refine aa (map_some hd) λys h1 SO=>?_
    subst SO
    refine bu (rv.seq h1) λp us Xs h2 h3=>?_
    subst Xs
    exact nO<|⟨p,us,rfl,h2,λl hl=>q _ _ (ag.upd hl) (.inl (.lst (.inl ai) (hx.free (ag.refl _) hl) (h3.mono (ag.upd hl))))⟩
 |min=>
  refine qq (λt ht=>eF ((xZ hc).or (xo hc)) hg hm boot_min ht (by decide) (by decide) he iJ) ha λO σ ρ H ds vs d Q hx r hd q=>?_
  cases ds with
  |nil=>cases hd
  |cons x t=>
   cases t with
   |nil=>
    refine au λnO=>aa (cI r) λv Jh rv=>?_
    subst Jh
    refine aa (bind_some (o:=seq x) hd) λys h1 hd=>bu (rv.seq h1) λp us Ji h3 h4=>?_
    subst Ji
    refine nO ?_
    refine aa (bind_some hd) λns h2 hd=>?_
    cases ns with
    |nil=>cases hd
    |cons n ns=>
     cases hd
     have:=cJ h4 h2
     subst this
     exact .inl ⟨p,n,ns,rfl,h3,q _ _ (ag.refl _) (.inl (.int _))⟩
   |cons y t=>
    cases t with
    |cons _ _=>cases x<;>cases y<;>cases hd
    |nil=>
     cases x with
     |int i=>
      cases y with
      |int j=>
       cases hd
       obtain⟨v,v',rfl,r1,r2⟩:=Ee r
       cases r1.int
       cases r2.int
       exact .inr ⟨i,j,rfl,q _ _ (ag.refl _) (.inl (.int _))⟩
      |_=>cases hd
     |_=>cases y<;>cases hd
def f_list{g:Env->Option (List D)}(hg:Gl X "list")(hm:X.mg "list"=none)(ha:PA X (e::es) (tP X.K true g))
  (he:starEach (e::es) X.env=(false,eval e X.env)::starEach es X.env) (iJ:(backTo pos (starEach es X.env)).any (·.1)=false):
  PE X (.Call (.Name "list" p) (e::es) [] pos) (tF X.K λρ=>(g ρ).bind λxs=>match xs with|[x]=>seq x|_=>none):=
 PE.weak (eG iM hg hm boot_list ha (by decide) (by decide) he iJ) λσ H Q zz=>by
  refine b6 zz λO ρ ds hx hd q=>aa (bind_some hd) λxs e1 hd=>⟨O,ρ,xs,hx,e1,λvs H1 s1 r=>?_⟩
  cases xs with
  |nil=>cases hd
  |cons x t=>
   cases t with
   |cons _ _=>cases hd
   |nil=>
    refine aa (cI r) λv ah rv=>?_
    subst ah
    refine bu (rv.seq hd) λp us aM h2 h3=>?_
    subst aM
    exact⟨p,us,rfl,h2,λl hl=>q l us H1 s1 hl h3⟩
noncomputable def x_:Bool->String
 |true=>"bool"|false=>"int"
def SQ(K:aC)(b:Bool):List V->Hp->VK->Prop:=λxs H Q=>∃x d k,xs=[x,.ty (x_ b)]/\aY K (λ_=>False) H x d/\RF b d=some k/\Q (.bl k) H
def AH{b:Bool}:cA X (.builtin "isinstance") (SQ X.K b):=by
 intro U s σ H xs us Q I r zz
 refine Lx zz λx d k e rp hk q=>?_
 subst e
 obtain⟨u,u',rfl,rx,rt⟩:=vals2 r
 cases rt
 have f0:∀k,Q (.bl k) H->EP X U σ Q (.bool k) s:=λk q=>⟨.bl k,H,I,rfl,q⟩
 have f1:∀k,Q (.bl k) H->EP X U σ Q (.bool k) {s with toks:=s.toks+1}:=λk q=>⟨.bl k,H,I.tok _,rfl,q⟩
 cases rp with
 |bX=>
  cases rx;cases hk
  cases b with
  |false=>exact IsiPair.NoneType_int (f1 _ q)
  |true=>exact IsiPair.NoneType_bool (f1 _ q)
 |bl x=>
  cases rx;cases hk
  cases b with
  |false=>exact IsiPair.bool_int (f0 _ q)
  |true=>exact IsiPair.bool_bool (f0 _ q)
 |int i=>
  obtain⟨tk,rfl⟩:=rx
  cases hk
  cases b with
  |false=>exact IsiPair.int_int (f0 _ q)
  |true=>exact IsiPair.int_bool (f1 _ q)
 |str z=>
  obtain⟨tk,rfl⟩:=rx
  cases hk
  cases b with
  |false=>exact IsiPair.str_int (f1 _ q)
  |true=>exact IsiPair.str_bool (f1 _ q)
 |_=>cases hk
def Eg(b:Bool):bootBuiltins (Str.ofString (x_ b))=some (.type (x_ b)):=by
 cases b
 .exact boot_int
 .exact boot_bool
def N0{b:Bool}(ha:PE X a (tV X.K false f))(hg:Gl X "isinstance")(hm:X.mg "isinstance"=none)(Xt:Gl X (Str.ofString (x_ b)))(Xu:X.mg (Str.ofString (x_ b))=none)
  (hs:starEach [a,.Name (Str.ofString (x_ b)) p'] X.env=(false,eval a X.env)::starEach [.Name (Str.ofString (x_ b)) p'] X.env):
  PE X (.Call (.Name "isinstance" p) [a,.Name (Str.ofString (x_ b)) p'] [] pos) (tV X.K m λρ=>((f ρ).bind (RF b)).map .bl):=by
 have pt:PE X (.Name (Str.ofString (x_ b)) p') (tC (.ty (x_ b))):=uY Xt Xu (Eg b) rfl (by cases b<;>decide) (by cases b<;>decide)
 refine PE.weak (eF (AH (b:=b)) hg hm boot_isinstance (aZ ha (aZ pt cf rfl) hs) (by decide) (by decide) hs (by rfl)) λσ H Q zz=>au λnO=>b6 zz λO ρ d hx hd q=>aa (map_some hd) λk e1 ah=>aa (bind_some e1) λx e2 e3=>nO ?_
 subst ah
 exact⟨O,ρ,x,hx,e2,λv H1 s1 r1=>⟨v,x,k,rfl,r1.any,e3,q _ H1 s1 (.inl (.bl _))⟩⟩
noncomputable def nN(lo:Int):Nat->List V
 |0=>[]
 |n+1=> .int lo::nN (lo+1) n
theorem jV{K:aC}:∀(n:Nat) (lo:Int),av K O H (nN lo n) (bK lo n)
 |0,_=> .nil
 |n+1,lo=> .cons (.int lo) (jV n (lo+1))
theorem gc:∀(n:Nat) (lo:Int),(nN lo n).length =n
 |0,_=>rfl
 |n+1,lo=>by rw[nN,Z3,gc n]
theorem jW:∀(n:Nat) (lo:Int) (us:List Value),us.length=n->(∀(j:Nat) (v:Value),us[j]?=some v->∃t,v=Value.int (lo+j) t)->aE (nN lo n) us
 |0,lo,us,hl,_=>by
  cases us with
  |nil=>exact .nil
  |cons _ _=>cases hl
 |n+1,lo,us,hl,h=>by
  cases us with
  |nil=>cases hl
  |cons u us=>
   obtain⟨t,e⟩:=h 0 u rfl
   refine .cons ⟨t,by simpa using e⟩ (jW n (lo+1) us (by simpa using hl) λj v hj=>?_)
   obtain⟨t',e'⟩:=h (j+1) v (by simpa using hj)
   refine⟨t',?_⟩
   rw[e']
   congr 1
   push_cast
   lia
def vP(hg:Gl X "range")(hm:X.mg "range"=none)(ha:PA X [a] t)(hs:starEach [a] X.env=[(false,eval a X.env)]):PE X (.Call (.Name "range" p) [a] [] pos) (λσ H Q=>t σ H λvs H1=>∃hi:Int,vs=[.int hi]/\∀p,H1 p=none->Q (.ref p) (L2.upd H1 p (.fj 0 hi))):=by
 intro U s σ H Q I h
 refine Call_ (ij I hg hm boot_range (abo (aU (ha pos U s σ H _ I h) λus s1 zz=>bu zz λvs H1 I1 r1 q1=>?_) hs rfl))
 refine aa q1 λhi e q=>?_
 subst e
 obtain⟨u,rfl,t',rfl⟩:=vals1 r1
 refine call_range_1 ⟨.ref s1.heap.objs.size,_,I1.laid (o:= .fj 0 hi) (λb o e=>Zv _ e) (ZG _) ⟨_,_,_,ZN _ rfl⟩,rfl,q _ I1.fresh⟩
def uB(hc:X.calm=true):cA X (.type "list") (λxs H Q=>∃(p:Addr) (hi:Int),xs=[.ref p]/\H p=some (.fj 0 hi)/\(-(2 ^ 62)<=hi/\hi<=bR)/\∀l,H l=none->Q (.ref l) (L2.upd H l (.lst (nN 0 hi.toNat)))):=by
 intro U s σ H xs us Q I r ⟨p,hi,e,hp,⟨Jj,hl⟩,q⟩
 subst e
 refine aa (vals1 r) λu ah rx=>?_
 subst ah
 cases rx
 refine QB ((show aT X.prog X.w H s.heap p (.fj 0 hi) from I.aI p _ hp)) λt u v ho=>?_
 have je:bR=16777216:=rfl
 have AI:Builtin.Range.rangeSize 0 hi 1=((hi.toNat:Nat):Int):=by rw[rangeSize_one];split<;>lia
 refine call_list_range (n:=hi.toNat) (I.ok.hd hc) ho (small_one (by decide) (by decide) Jj (abS hl (by decide))) AI (CO hl) λh' tk IE c' kp hg iT=>⟨.ref s.heap.objs.size,_,I.laid (o:= .lst (nN 0 hi.toNat)) kp (ZG _) ⟨by rw[gc,cE];exact CO hl,IE.toList,c',jW _ _ _ (by simpa using iT.1) (λj v hj=>?_),by simpa using hg⟩,rfl,q _ I.fresh⟩
 obtain⟨t',e'⟩:=iT.2 j v (by simpa using hj)
 exact⟨t',by rw[e'];simp⟩
def sk(hc:X.calm=true):cA X (.type "tuple") (λxs H Q=>∃(p:Addr) (hi:Int),xs=[.ref p]/\H p=some (.fj 0 hi)/\(-(2 ^ 62)<=hi/\hi<=bR)/\∀l,H l=none->Q (.ref l) (L2.upd H l (.tup (nN 0 hi.toNat)))):=by
 intro U s σ H xs us Q I r ⟨p,hi,e,hp,⟨Jj,hl⟩,q⟩
 subst e
 refine aa (vals1 r) λu ah rx=>?_
 subst ah
 cases rx
 refine QB ((show aT X.prog X.w H s.heap p (.fj 0 hi) from I.aI p _ hp)) λt u v ho=>?_
 have je:bR=16777216:=rfl
 have AI:Builtin.Range.rangeSize 0 hi 1=((hi.toNat:Nat):Int):=by rw[rangeSize_one];split<;>lia
 refine xM (n:=hi.toNat) (I.ok.hd hc) ho (small_one (by decide) (by decide) Jj (abS hl (by decide))) AI (CO hl) λh' tk acc kp iT=>?_
 have I1:Inv X U σ H {s with heap:=h'}:=I.kept (t':=s.toks) kp
 have I2:Inv X U σ (L2.upd H h'.objs.size (.tup (nN 0 hi.toNat))) {s with heap:=h'.push {cls:= .type "tuple",data:= .seq acc},toks:=tk}:=
  I1.laid (t':=tk) (λb o e=>Zv _ e) (ZG _) (show aT X.prog X.w _ _ _ (.tup (nN 0 hi.toNat)) from⟨by rw[gc,cE];exact CO hl,acc.toList,jW _ _ _ (by simpa using iT.1) (λj v hj=>by
   obtain⟨t',e'⟩:=iT.2 j v (by simpa using hj)
   exact⟨t',by rw[e'];simp⟩),by simpa using ig.new h' acc⟩)
 exact⟨.ref h'.objs.size,_,I2,rfl,q _ (I1.aI.fresh (ZG _))⟩
def AJ{q1 pos':Pos}(hc:X.calm=true)(hg:Gl X "range")(hm:X.mg "range"=none)(Jk:Gl X "tuple")(xE:X.mg "tuple"=none)(ha:PA X [a] (tP X.K false g))(hl:∀ρ ds,g ρ=some ds->ds.length=1)(hs:starEach [a] X.env=[(false,eval a X.env)]):
  PE X (.Call (.Name "tuple" q1) [.Call (.Name "range" p) [a] [] pos] [] pos') (tV X.K m λρ=>((g ρ).bind cQ).map .tup):=by
 have h1:=vP (p:=p) (pos:=pos) hg hm ha hs
 refine PE.weak (eG (sk hc) Jk xE PyProof.Rows.boot_tuple (aZ h1 cf rfl) (by decide) (by decide) rfl rfl) λσ H Q zz=>au λnO=>b6 zz λO ρ d hx hd q=>aa (map_some hd) λds tN ah=>?_
 subst ah
 refine nO ?_
 clear hd
 refine aa (bind_some tN) λxs e1 hd=>?_
 clear tN
 have pJ:=hl ρ xs e1
 refine⟨O,ρ,xs,hx,e1,λvs H1 s1 r=>?_⟩
 refine au λnO=>?_
 cases xs with
 |nil=>cases pJ
 |cons x t=>
  refine nO<|au λnO=>?_
  cases t with
  |cons _ _=>cases pJ
  |nil=>
   refine nO<|aa (cI r) λv aM rv=>?_
   subst aM
   refine au λnO=>?_
   cases x with
   |int n=>
    refine nO ?_
    simp only[cQ]at hd
    split at hd
    .rename_i hz
     cases hd
     cases rv.int
     exact⟨n,rfl,λp hp=>⟨p,n,rfl,ai,hz,λl hl=>q _ _ ((s1.trans (ag.upd hp)).trans (ag.upd hl)) (.inl (.tup (cC.of ai) (jV _ _)))⟩⟩
    .cases hd
   |_=>cases hd
theorem jX:∀{ns:List Int}{j:Nat},cw k ns=some j->ns[j]?=some k/\∀m,m<j->ns[m]?≠some k
 |[],_,h=>by cases h
 |n::r,j,h=>by
  unfold cw at h
  split at h
  .rename_i e;cases h;subst e;exact⟨rfl,λm hm=>absurd hm (aaZ _)⟩
  .rename_i ne
   refine aa (map_some h) λi h1 ah=>?_
   subst ah
   obtain⟨h2,h3⟩:=jX h1
   refine⟨h2,λm hm=>?_⟩
   cases m with
   |zero=>exact λz=>ne (by simpa using z)
   |succ m=>exact h3 m (aan hm)
def AK{K:aC}(s:ag H H'){a:Addr}(h:du K H a vs):du K H' a vs:=h.elim (λh=> .inl (jc s h)) .inr
def Eh{oe a0:Expr}(ho:PE X oe (tV X.K true fo))(ha:PA X [a0] (tP X.K true g))(hb:attributeBase oe "index" X.env (eval oe X.env)=eval oe X.env)(hl:(ap.endLine==cp.line)=true)(hs:starEach [a0] X.env=[(false,eval a0 X.env)]):
  PE X (.Call (.Attribute oe "index" ap) [a0] [] cp) (tV X.K m λρ=>(fo ρ).bind λx=>(g ρ).bind λxs=>cK .index x xs):=
 (MN PySem.F.plainAttrs_tuple aeg PySem.F.type_tuple_index zU ho ha hb (by rw[hs];rfl) hl hs rfl).weak λσ H Q zz=>by
  refine au λnO=>b6 zz λO ρ d hx hd k=>aa (bind_some hd) λx e1 hd=>aa (bind_some hd) λxs e2 hd=>nO ?_
  have key:∃ys kk,x= .tup ys/\xs=[.int kk]/\∃ns,aP ys=some ns/\∃j:Nat,cw kk ns=some j/\d= .int (j:Int):=by
   cases x with
   |tup ys=>
    cases xs with
    |nil=>cases hd
    |cons y t=>
     cases t with
     |cons _ _=>cases y<;>cases hd
     |nil=>
      cases y with
      |int kk=>
       exact au λnO=>aa (bind_some (show(aP ys).bind (λns=>(cw kk ns).map λ(i:Nat)=>D.int (i:Int))=some d from hd)) λns e3 h4=>aa (map_some h4) λj e4 e5=>nO<|⟨ys,kk,rfl,rfl,ns,e3,j,e4,e5.symm⟩
      |_=>cases hd
   |_=>cases hd
  refine au λnO=>?_
  obtain⟨ys,kk,rfl,rfl,ns,e3,j,e4,rfl⟩:=key
  refine nO ?_
  refine⟨O,ρ,.tup ys,hx,e1,λv H1 s1 r1=>?_⟩
  refine au λnO=>bu r1.tup λa vs ah q1 p1=>?_
  subst ah
  refine nO ?_
  refine⟨⟨a,vs,rfl,q1⟩,O,ρ,[.int kk],hx.mono s1,e2,λus H2 s2 r2=>?_⟩
  refine au λnO=>aa (cI r2) λu aM ru=>?_
  subst aM
  have hv:vs=ns.map V.int:=cJ p1 e3
  subst hv
  obtain⟨h1,h2⟩:=jX e4
  exact nO<|⟨a,ns,kk,j,rfl,by rw[ru.int],jb s2 q1,h1,h2,k _ _ (s1.trans s2) (.inl (.int _))⟩
def AL{oe a0:Expr}(ho:PE X oe (tV X.K true fo))(ha:PA X [a0] (tP X.K true g))(hb:attributeBase oe "index" X.env (eval oe X.env)=eval oe X.env)(hl:(ap.endLine==cp.line)=true)(hs:starEach [a0] X.env=[(false,eval a0 X.env)]):
  PE X (.Call (.Attribute oe "index" ap) [a0] [] cp) (tV X.K m λρ=>(fo ρ).bind λx=>(g ρ).bind λxs=>cK .jJ x xs):=
 (zE acm PySem.F.slot_list_index PySem.F.type_list_index xK ho ha hb (by rw[hs];rfl) hl hs rfl).weak λσ H Q zz=>by
  refine au λnO=>b6 zz λO ρ d hx hd k=>aa (bind_some hd) λx e1 hd=>aa (bind_some hd) λxs e2 hd=>nO ?_
  have key:∃ys kk,x= .lst ys/\xs=[.int kk]/\∃ns,aP ys=some ns/\∃j:Nat,cw kk ns=some j/\d= .int (j:Int):=by
   cases x with
   |lst ys=>
    cases xs with
    |nil=>cases hd
    |cons y t=>
     cases t with
     |cons _ _=>cases y<;>cases hd
     |nil=>
      cases y with
      |int kk=>
       exact au λnO=>aa (bind_some (show(aP ys).bind (λns=>(cw kk ns).map λ(i:Nat)=>D.int (i:Int))=some d from hd)) λns e3 h4=>aa (map_some h4) λj e4 e5=>nO<|⟨ys,kk,rfl,rfl,ns,e3,j,e4,e5.symm⟩
      |_=>cases hd
   |_=>cases hd
  refine au λnO=>?_
  obtain⟨ys,kk,rfl,rfl,ns,e3,j,e4,rfl⟩:=key
  refine nO ?_
  refine⟨O,ρ,.lst ys,hx,e1,λv H1 s1 r1=>?_⟩
  refine au λnO=>bu r1.lst λa vs ah q1 p1=>?_
  subst ah
  refine nO ?_
  refine⟨.inl ⟨rfl,vs,q1⟩,O,ρ,[.int kk],hx.mono s1,e2,λus H2 s2 r2=>?_⟩
  refine au λnO=>aa (cI r2) λu aM ru=>?_
  subst aM
  have hv:vs=ns.map V.int:=cJ p1 e3
  subst hv
  obtain⟨h1,h2⟩:=jX e4
  exact nO<|⟨a,ns,kk,j,rfl,by rw[ru.int],AK s2 q1,h1,h2,k _ _ (s1.trans s2) (.inl (.int _))⟩
inductive Sk where
 |tup|lst|bj (o:Obj) (ks:List (List Int)) (vs:List V)
abbrev SR:=Option (Sk×V×List D)
def eR(K:aC)(O:Addr->Prop)(H:Hp):SR->Prop
 |none=>True
 |some (.lst,v,ds)=>∃a vs,v= .ref a/\du K H a vs/\av K O H vs ds
 |some (.tup,v,ds)=>∃a vs,v= .ref a/\cC K H a vs/\av K O H vs ds
 |some (.bj o ks vs,v,ds)=>∃a,v= .ref a/\H a=some (.c9 o (fL 0 ks vs))/\ks.length=vs.length/\mh 0 ks/\av K O H vs ds
theorem eR.mono{K:aC}(h:eR K O H gF)(s:ag H H'):eR K O H' gF:=by
 rcases gF with _|⟨_|_|⟨o,ks,vs⟩,v,ds⟩
 .trivial
 .obtain⟨a,vs,e,h1,h2⟩:=h;exact⟨a,vs,e,jb (K:=K) s h1,h2.mono s⟩
 .obtain⟨a,vs,e,h1,h2⟩:=h;exact⟨a,vs,e,s.seq h1,h2.mono s⟩
 .obtain⟨a,e,h1,h2,h3,h4⟩:=h;exact⟨a,e,s _ _ h1,h2,h3,h4.mono s⟩
theorem eR.own{K:aC}{p:Addr}(h:eR K O H gF)(hp:H p=none):eR K (λa=>O a\/a=p) H gF:=by
 rcases gF with _|⟨_|_|⟨o,ks,vs⟩,v,ds⟩
 .trivial
 .obtain⟨a,vs,e,h1,h2⟩:=h;exact⟨a,vs,e,h1,h2.own hp⟩
 .obtain⟨a,vs,e,h1,h2⟩:=h;exact⟨a,vs,e,h1,h2.own hp⟩
 .obtain⟨a,e,h1,h2,h3,h4⟩:=h;exact⟨a,e,h1,h2,h3,h4.own hp⟩
def Jl(K:aC)(O:Addr->Prop)(b:Bool)(H:Hp):SR->Prop
 |none=>True
 |some (.lst,v,ds)=>bz K O b H v (.lst ds)
 |some (.tup,v,ds)=>bz K O b H v (.tup ds)
 |some (.bj o ks vs,v,ds)=>eR K O H (some (.bj o ks vs,v,ds))
def Jl.ok{K:aC}{b:Bool}(h:Jl K O b H gF):eR K O H gF:=by
 rcases gF with _|⟨_|_|⟨o,ks,vs⟩,v,ds⟩
 .trivial
 .exact bz.tup h
 .exact bz.lst h
 .exact h
def uC(K:aC)(J:It)(gF:SR)(ds:List D):Prop:=
 ∀O H,eR K O H gF->(∀i,i<ds.length->J.go i H)/\(∀i x H' d,J.zl i H x H'->ds[i]?=some d->ag H H'/\aY K O H' x d)/\J.stop ds.length H
def tI(K:aC)(b:Bool)(f:Env->Option (List D)):TI:=λσ H R=>∃O ρ ds,EX K O σ H ρ/\f ρ=some ds/\
 ∀J gF H',ag H H'->uC K J gF ds->Jl K O b H' gF->R J H'
def Jm{K:aC}{a:Addr}:uC K (Q8 K a) (some (.lst,.ref a,ds)) ds:=λO H zz=>by
 refine bu zz λb vs e h1 h2=>?_
 cases e
 have l:=h2.length
 refine⟨λi hi=>?_,λi x H' d ⟨e,y⟩ hd=>?_,vs,h1,ZF l⟩
 .have iT:i<vs.length:=(Zr hi (ZF (aaa l)))
  exact⟨vs,vs[i],h1,by simp[iT]⟩
 .subst e
  refine aa (h2.get hd) λv e1 e2=>?_
  have:=y vs h1
  rw[e1]at this
  cases this
  exact⟨ag.refl _,e2⟩
def Jn{K:aC}{a:Addr}:uC K (Q9 K a) (some (.tup,.ref a,ds)) ds:=λO H zz=>by
 refine bu zz λb vs e h1 h2=>?_
 cases e
 have l:=h2.length
 refine⟨λi hi=>?_,λi x H' d ⟨e,y⟩ hd=>?_,vs,h1,ZF l⟩
 .have iT:i<vs.length:=(Zr hi (ZF (aaa l)))
  exact⟨vs,vs[i],h1,by simp[iT]⟩
 .subst e
  refine aa (h2.get hd) λv e1 e2=>?_
  have:=y vs h1
  rw[e1]at this
  cases this
  exact⟨ag.refl _,e2⟩
theorem gf:∀(n:Nat) (lo:Int),(bK lo n).length =n
 |0,_=>rfl
 |n+1,lo=>by rw[bK,Z3,gf n]
theorem so:∀(n:Nat) (lo:Int) (i:Nat) (d:D),(bK lo n)[i]?=some d->d= .int (lo+i)
 |0,lo,i,d,h=>by simp[bK]at h
 |n+1,lo,0,d,h=>by simp[bK]at h;subst h;simp
 |n+1,lo,i+1,d,h=>by
  simp[bK]at h
  rw[so n (lo+1) i d h]
  congr 1
  push_cast
  lia
def Jo{K:aC}{lo:Int}:uC K (Pn lo n) none (bK lo n):=λO H _=>by
 refine⟨λi hi=>?_,λi x H' d ⟨e,y⟩ hd=>?_,?_⟩
 .rw[gf]at hi;exact hi
 .subst e y
  rw[so n lo i d hd]
  exact⟨ag.refl _,.int _⟩
 .show n<=(bK lo n).length
  rw[gf];exact ZG _
def SS(h:PE X a (tV X.K m f)):PI X tg a (tI X.K m λρ=>(f ρ).bind seq):=by
 intro U s σ H R I zz
 refine b6 zz λO ρ ds hx hd q=>?_
 refine aa (bind_some hd) λd e1 hd=>aU (h U s σ H (λv H1=>ag H H1/\bz X.K O m H1 v d) I ⟨O,ρ,d,hx,e1,λv H' s' r'=>⟨s',r'⟩⟩) λv s1 zz=>au λnO=>iD zz λx H1 I1 r1 s' rb=>nO<|abf λnO=>?_
 cases d with
 |lst xs=>
  refine nO<|au λnO=>?_
  cases hd
  refine bu rb.lst λp vs ah h1 h2=>?_
  subst ah
  cases r1
  refine bB (I1.list h1) λits rv pl hz=>nO<|adj pl.isList ?_
  refine⟨s1.heap.objs.size,[s1.heap.objs.size],_,Q8 X.K p,H1,rfl,I1.kept (t':=s1.toks) λb o e=>Zv _ e,xf p _,⟨_,ZN _ rfl,rfl,rfl⟩,λb hb=>?_,q _ (some (.lst,.ref p,ds)) H1 s' Jm rb⟩
  have e:b=s1.heap.objs.size:=by simpa using hb
  subst e
  exact I1.tW (ZG _) (I1.aI.fresh (ZG _))
 |tup xs=>
  refine nO<|au λnO=>?_
  cases hd
  refine bu rb.tup λp vs aM h1 h2=>?_
  subst aM
  cases r1
  refine bB (I1.tuple h1) λits rv pl hz=>nO<|acw (show s1.heap.IsTuple p its.toArray from pl) ?_
  refine⟨s1.heap.objs.size,[s1.heap.objs.size],_,Q9 X.K p,H1,rfl,I1.kept (t':=s1.toks) λb o e=>Zv _ e,tX p _,⟨_,ZN _ rfl,rfl,rfl⟩,λb hb=>?_,q _ (some (.tup,.ref p,ds)) H1 s' Jn rb⟩
  have e:b=s1.heap.objs.size:=by simpa using hb
  subst e
  exact I1.tW (ZG _) (I1.aI.fresh (ZG _))
 |_=>cases hd
theorem cU:∀(xs:List D) (k:Int),(bE k xs).length =xs.length
 |[],_=>rfl
 |_::r,k=>by rw[bE,Z3,Z3,cU r]
theorem jf:∀(xs:List D) (k:Int) (i:Nat) (d:D),(bE k xs)[i]?=some d->∃y,xs[i]?=some y/\d= .tup [.int (k+i),y]
 |[],_,_,_,h=>by simp[bE]at h
 |x::r,k,0,d,h=>by
  simp[bE]at h
  exact⟨x,rfl,by rw[<-h];simp⟩
 |x::r,k,i+1,d,h=>by
  refine aa (jf r (k+1) i d (by simpa[bE]using h)) λy h1 h2=>⟨y,by simpa using h1,?_⟩
  rw[h2,show k+1+(i:Int)=k+((i+1:Nat):Int) by push_cast;lia]
def AM{K:aC}{a:Addr}(hS:∀O H,eR K O H (some (k,.ref a,ds))->∃vs,Sq H vs/\av K O H vs ds):uC K (PH Sq) (some (k,.ref a,ds)) (bE 0 ds):=λO H h=>by
 obtain⟨vs,hq,hr⟩:=hS O H h
 have hl:=hr.length
 refine⟨λi hi=>?_,λi x H' d hy hd=>?_,?_⟩
 .rw[cU,<-hl]at hi
  exact⟨vs,vs[i],hq,by simp[hi]⟩
 .obtain⟨t,y,ht,rfl,rfl,hy⟩:=hy
  obtain⟨z,h1,rfl⟩:=jf ds 0 i d hd
  obtain⟨v,e1,e2⟩:=hr.get h1
  have:y=v:=by
   have q:=hy vs hq
   rw[e1]at q
   exact(ZY q).symm
  subst this
  refine⟨ag.upd ht,.tup (cC.of ai) (.cons ?_ (.cons (e2.mono (ag.upd ht)) .nil))⟩
  have e0:(0:Int)+(i:Int)=i:=(UG (ZX _) (ZX _) (aaE _))
  rw[e0]
  exact .int _
 .exact⟨vs,hq,by rw[cU];exact hl⟩
def N1{elts:List Expr}(hg:Gl X "enumerate")(hm:X.mg "enumerate"=none)(ha:PE X a (tV X.K m f))(hs:starEach [a] X.env=[(false,eval a X.env)]):
  PI X (.Tuple elts k0 tpos) (.Call (.Name "enumerate" p) [a] [] pos) (tI X.K m λρ=>(f ρ).bind λx=>(seq x).map (bE 0)):=by
 have h1:=Dv (X:=X) (a:=a) (p:=p) (pos:=pos) (elts:=elts) (k0:=k0) (tpos:=tpos) hg hm (aZ ha cf hs) hs
 intro U s σ H R I zz
 refine b6 zz λO ρ ds hx hd q=>?_
 refine au λnO=>aa (bind_some hd) λx e1 hd=>aa (map_some hd) λxs e2 ah=>?_
 subst ah
 refine nO ?_
 refine h1 U s σ H R I ⟨O,ρ,x,hx,e1,λv H1 s1 r1=>?_⟩
 refine au λnO=>?_
 cases x with
 |tup ys=>
  refine nO<|au λnO=>?_
  cases e2
  refine bu r1.tup λb vs aM q1 p1=>?_
  subst aM
  refine nO ?_
  refine⟨b,vs,rfl,.inl ⟨q1,q _ (some (.tup,.ref b,xs)) H1 s1 (AM λO' H' h=>?_) r1⟩⟩
  refine au λnO=>bu h λc us e h2 h3=>?_
  cases e
  exact nO<|⟨us,h2,h3⟩
 |lst ys=>
  refine nO<|au λnO=>?_
  cases e2
  refine bu r1.lst λb vs cO q1 p1=>?_
  subst cO
  refine nO ?_
  refine⟨b,vs,rfl,.inr ⟨q1,q _ (some (.lst,.ref b,xs)) H1 s1 (AM λO' H' h=>?_) r1⟩⟩
  refine au λnO=>bu h λc us e h2 h3=>?_
  cases e
  exact nO<|⟨us,h2,h3⟩
 |_=>cases e2
def AN{κ:Type}{f:List Int->κ}{ks:List (List Int)}{vs:List V}(hl:ks.length=vs.length){i:Nat}(hi:i<ks.length):((ks.map f).zip vs)[i]?=some (f ks[i],vs[i]'(hl▸hi)):=
 aea.mpr ⟨by rw[ZJ,Zt hi];rfl,Zt (hl▸hi)⟩
def jg:fL 0 ks vs= .dK ((ks.map λk=>(Sum.inl (k.headD 0):cq)).zip vs):=by unfold fL;rw[ZM rfl]
def Ei{K:aC}{a:Addr}{ks:List (List Int)}(hl:ks.length=vs.length):uC K (R3 a o ((ks.map λk=>(Sum.inl (k.headD 0):cq)).zip vs)) (some (.bj o ks vs,.ref a,ds)) (ks.map λk=> .int (k.headD 0)):=λO H zz=>by
 refine FW zz λb e h1 h2 h3 h4=>?_
 cases e
 rw[jg]at h1
 have len:((ks.map λk=>(Sum.inl (k.headD 0):cq)).zip vs).length =ks.length:=by rw[adb,ZA,hl,adS]
 refine⟨λi hi=>⟨h1,by rw[len];simpa using hi⟩,λi x H' d ⟨e,y⟩ hd=>?_,h1,by rw[len,ZA]⟩
 subst e
 have hi:i<ks.length:=by
  have:=(ZL.mp hd).1
  simpa using this
 rw[AN hl hi]at y
 rw[ZJ,Zt hi]at hd
 cases hd
 cases y
 exact⟨ag.refl _,.int _⟩
def Ej{K:aC}{a:Addr}{ks:List (List Int)}(hl:ks.length=vs.length)(iF:vs.length=ds.length):uC K (SE a o ((ks.map λk=>(Sum.inl (k.headD 0):cq)).zip vs)) (some (.bj o ks vs,.ref a,ds)) ds:=λO H zz=>by
 refine FW zz λb e h1 h2 h3 h4=>?_
 cases e
 rw[jg]at h1
 have len:((ks.map λk=>(Sum.inl (k.headD 0):cq)).zip vs).length =ks.length:=by rw[adb,ZA,hl,adS]
 refine⟨λi hi=>⟨h1,by rw[len];exact nu (aaa hl) (nu (aaa iF) hi)⟩,λi x H' d ⟨e,y⟩ hd=>?_,h1,by rw[len];exact afb (aaa iF) (aaa hl)⟩
 subst e
 refine aa (h4.get hd) λv e1 e2=>?_
 have hi:i<ks.length:=by
  have:=(ZL.mp e1).1
  exact Zr this (ZF (aaa hl))
 rw[AN hl hi]at y
 cases y
 rw[Zt (Zr hi (ZF hl))]at e1
 cases e1
 exact⟨ag.refl _,e2⟩
def EX.N2{K:aC}(hx:EX K O σ H ρ){i:Nat}(h:ρ[i]?=some (some (false,.bj 0 ks ds))):∃a o vs,σ[i]?=some (some (.ref a))/\H a=some (.c9 o (fL 0 ks vs))/\ks.length=vs.length/\mh 0 ks/\av K O H vs ds:=by
 refine aa (hx.iX i false _ h) λv q1 q2=>?_
 have P4:aY K O H v (.bj 0 ks ds):=q2
 cases P4 with
 |bj g1 g2 g3 g4=>exact⟨_,_,_,q1,g1,g2,g3,g4⟩
def SU{tg:Expr}(hj:PE X a (cP j)):PI X tg a (tI X.K m λρ=>keysAt ρ j):=by
 intro U s σ H R I zz
 refine b6 zz λO ρ ds hx hd q=>?_
 have hd:keysAt ρ j=some ds:=hd
 unfold keysAt at hd
 refine slot (λe=>nS (by rw[e]at hd;exact hd)) (λe=>nS (by rw[e]at hd;exact hd)) λo d e=>?_
 rw[e]at hd
 cases o with
 |true=>exact nS hd
 |false=>cases d with
  |bj t ks xs=>cases t with
   |zero=>
    refine au λnO=>?_
    cases (show some _=some ds from hd)
    refine tS (hx.N2 e) λb o vs e1 e2 e3 e4 e5=>nO ?_
    refine MU hj U s σ H R I ⟨.ref b,e1,b,o,_,rfl,by rw[e2,jg],q _ (some (.bj o ks vs,.ref b,xs)) H (ag.refl _) (Ei e3) ⟨b,rfl,e2,e3,e4,e5⟩⟩
   |succ=>exact nS hd
  |_=>exact nS hd
def SV{tg:Expr}(hj:PE X a (cP j))(iO:attributeBase a "values" X.env (eval a X.env)=eval a X.env)(iP:(ap.endLine==cp.line)=true):PI X tg (.Call (.Attribute a "values" ap) [] [] cp) (tI X.K m λρ=>pY ρ j):=by
 intro U s σ H R I zz
 refine b6 zz λO ρ ds hx hd q=>?_
 have hd:pY ρ j=some ds:=hd
 unfold pY at hd
 refine slot (λe=>nS (by rw[e]at hd;exact hd)) (λe=>nS (by rw[e]at hd;exact hd)) λo d e=>?_
 rw[e]at hd
 cases o with
 |true=>exact nS hd
 |false=>cases d with
  |bj t ks xs=>cases t with
   |zero=>
    refine au λnO=>?_
    cases (show some _=some ds from hd)
    refine tS (hx.N2 e) λb o vs e1 e2 e3 e4 e5=>nO ?_
    refine NH hj iO iP U s σ H R I ⟨.ref b,e1,b,o,_,rfl,by rw[e2,jg],q _ (some (.bj o ks vs,.ref b,ds)) H (ag.refl _) (Ej e3 e5.length) ⟨b,rfl,e2,e3,e4,e5⟩⟩
   |succ=>exact nS hd
  |_=>exact nS hd
def N3(hg:Gl X "reversed")(hm:X.mg "reversed"=none)(ha:PE X a (tV X.K false f))(hs:starEach [a] X.env=[(false,eval a X.env)]):
  PI X tg (.Call (.Name "reversed" p) [a] [] pos) (tI X.K m λρ=>(f ρ).bind λx=>match x with| .tup xs=>some xs.reverse|_=>none):=by
 intro U s σ H R I ⟨O,ρ,ds,hx,hd,q⟩
 refine aa (bind_some hd) λx e1 hd=>ND hg hm (aZ ha cf hs) hs U s σ H R I ⟨O,ρ,x,hx,e1,λv H1 s1 r=>?_⟩
 cases x with
 |tup xs=>
  cases hd
  refine bu r.tup λb vs ah h1 h2=>?_
  subst ah
  refine⟨b,vs,rfl,h1,q _ (some (.tup,.ref b,xs)) H1 s1 (λO' H' ⟨c,us,e,g1,g2⟩=>?_) (.inl r.own)⟩
  cases e
  have l1:=g2.length
  have l2:=h2.length
  have lr:xs.reverse.length=vs.length:=by rw[afq];exact l2.symm
  refine⟨λi hi=>⟨us,g1,(afb l1 (aaa l2)),(Zr hi (ZF lr))⟩,λi y Vm d ⟨e,hy⟩ hd=>?_,lr⟩
  subst e
  have hi:i<xs.length:=by
   have:=(ZL.mp hd).1
   simpa using this
  have ey:=hy us g1
  rw[aeT hi]at hd
  refine aa (g2.get hd) λv e1 e2=>?_
  have:vs.length-1-i=xs.length-1-i:=by lia
  rw[this,e1]at ey
  cases ey
  exact⟨ag.refl _,e2⟩
 |_=>cases hd
end
section
variable {X:Cx}{a b c e:Expr}{es:List Expr}{pos p:Pos}{m:Bool}
def EX.ext{K:aC}{p:Addr}(h:EX K O σ H1 ρ)(hp:H1 p=none)(s:ag H1 H)(e:H p=some (.lst vs)):EX K (λa=>O a\/a=p) σ H ρ:=by
 refine⟨λa ha=>?_,λi o d hi=>?_⟩
 .rcases ha with ha|ha
  .exact aa (h.live a ha) λus q qo=>⟨us,s _ _ q,qo⟩
  .subst ha;exact⟨_,e,trivial⟩
 .refine aa (h.iX i o d hi) λv h1 h2=>⟨v,h1,?_⟩
  cases o with
  |true=>
   exact bB h2 λa e1 e2 c=>⟨a,e1,.inl e2,(c.own hp).mono s⟩
  |false=>exact(aY.own h2 hp).mono s
def ya(h:o.join=some x):o=some (some x):=by
 cases o with
 |none=>cases h
 |some y=>cases y with
  |none=>cases h
  |some z=>cases h;rfl
theorem EX.inner{K:aC}(h:EX K O σ H ρ)(r:av K O H us ys)(fr:List Nat):EX K O (us.map some++iS fr σ) H (inner ys ρ fr):=by
 refine⟨h.live,λi o d' hi=>?_⟩
 unfold Py.inner at hi
 have hl:=r.length
 by_cases bg:i<ys.length
 .rw[aaq (by simpa using bg),ZJ]at hi
  obtain⟨y,e1,e2⟩:=map_some hi
  cases e2
  obtain⟨v,f1,f2⟩:=r.get e1
  exact⟨v,by rw[aaq (by simpa[hl]using bg),ZJ,f1];rfl,f2⟩
 .rw[aaz (by simpa using bg),ZA]at hi
  unfold MA at hi
  rw[ZJ]at hi
  refine aa (map_some hi) λi0 e0 hj=>aa (h.iX i0 o d' (ya hj)) λw h1 h2=>⟨w,?_,h2⟩
  rw[aaz (by simpa[hl]using bg),ZA,hl]
  unfold iS
  rw[ZJ,e0]
  show some (σ[i0]?).join =_
  rw[h1]
  rfl
noncomputable def oK(tg:Nat)(fs:Env->Option Bool)(fe:Env->Option D)(fr:List Nat)(ρ:Env)(y:D):Option (Option D):=(aJ tg y).bind λys=>(fs (inner ys ρ fr)).bind λk=>if k then(fe (inner ys ρ fr)).map some else some none
def Vn(K:aC)(k tg:Nat)(g:TG):Prop:=∀O x H d ys bx Q,aY K O H x d->aJ tg d=some ys->(∀us,av K O H us ys->Q (us.map some++bx) H)->g x (List.replicate k none++bx) H Q
def N4{K:aC}:Vn K 1 0 (cb 0):=λO x H d ys bx Q r e q=>by
 cases e
 exact q [x] (.cons r .nil)
def oM{K:aC}(hg:Vn K k tg g)(σ:St)(H:Hp)(Q:VK)
  (h:tF K (λρ=>(fi ρ).bind λxs=>if xs.length<=bR then walk (oK tg fs fe fr ρ) xs else none) σ H Q):oh k fr (tI K true fi) g (tB K fs) (tV K false fe) σ H Q:=by
 refine b6 h λO ρ out hx hd q=>aa (bind_some hd) λxs e1 hd=>?_
 split at hd
 .rename_i hz
  refine⟨O,ρ,xs,hx,e1,λJ gF H1 s1 AO sq p hp=>?_⟩
  have tQ:=hx.mono s1
  have Jp:eR K (λa=>O a\/a=p) H1 gF:=sq.ok.own hp
  refine⟨λi m H'=>m=xs.length-i/\i<=xs.length/\ag H1 H'/\∃vs ys bx,H' p=some (.lst vs)/\av K (λa=>O a\/a=p) H' vs ys/\ys.length<=i/\walk (oK tg fs fe fr ρ) (xs.drop i)=some bx/\out=ys++bx,
   ⟨xs.length,rfl,aab _,ag.upd hp,[],[],out,ai,.nil,ZG _,hd,rfl⟩,?_⟩
  rintro i mm H2 ⟨rfl,hi,s2,vs,ys,bx,ep,rp,hl,hw,ho⟩
  refine cy (AO _ H2 (Jp.mono s2)) λgo zl stop=>?_
  by_cases bg:i<xs.length
  .refine .inr ⟨go i bg,λx H3 hy=>?_⟩
   have SW:xs[i]?=some xs[i]:=by simp[bg]
   obtain⟨s3,rx⟩:=zl i x H3 _ hy SW
   have N5:H3 p=some (.lst vs):=s3 _ _ ep
   have SY:EX K (λa=>O a\/a=p) σ H3 ρ:=tQ.ext hp (s2.trans s3) N5
   have dr:xs.drop i=xs[i]::xs.drop (i+1):=(aaG bg)
   rw[dr,walk]at hw
   have ht:oK tg fs fe fr ρ xs[i]=(aJ tg xs[i]).bind λys=>(fs (Py.inner ys ρ fr)).bind λk=>if k then(fe (Py.inner ys ρ fr)).map some else some none:=rfl
   rw[ht]at hw
   cases S0:aJ tg xs[i]with
   |none=>rw[S0]at hw;cases hw
   |some zs=>
   rw[S0,aao]at hw
   refine hg _ x H3 _ zs _ _ rx S0 λus Xv=>?_
   have N6:=SY.inner Xv fr
   cases ek:fs (Py.inner zs ρ fr)with
   |none=>rw[ek]at hw;cases hw
   |some k=>
    rw[ek]at hw
    refine⟨_,_,k,N6,ek,λH4 s4=>?_⟩
    have Vo:H4 p=some (.lst vs):=s4 _ _ N5
    cases k with
    |false=>
     refine kL ⟨xs.length-(i+1),(afr (acB bg)),rfl,bg,(s2.trans s3).trans s4,vs,ys,bx,Vo,rp.mono (s3.trans s4),abk hl,?_,ho⟩
     simpa using hw
    |true=>
     cases ee:fe (Py.inner zs ρ fr)with
     |none=>rw[aao,ZM rfl,ee]at hw;cases hw
     |some d=>
      rw[aao,ZM rfl,ee]at hw
      simp only[acY]at hw
      refine aa (map_some hw) λsv vQ AF=>iR ⟨_,_,d,N6.mono s4,ee,λv H5 s5 r5=>?_⟩
      have Vp:H5 p=some (.lst vs):=s5 _ _ Vo
      have Xw:ag H1 H5:=((s2.trans s3).trans s4).trans s5
      refine⟨vs,xs.length-(i+1),Vp,by rw[rp.length,cE];exact ZH hl (Zr bg hz),(afr (acB bg)),rfl,bg,λbb oo eb=>?_,vs++[v],ys++[d],sv,ai,?_,?_,vQ,?_⟩
      .rw[aq (bS eb hp)];exact Xw _ _ eb
      .exact((rp.mono ((s3.trans s4).trans s5)).append (.cons r5.own .nil)).upd (.inr rfl) Vp trivial
      .rw[ZQ,aah];exact aaj hl
      .rw[ho,<-AF,aai];rfl
  .have ei:i=xs.length:=(aal hi (Z0 bg))
   subst ei
   refine .inl ⟨stop,?_⟩
   rw[aeB,walk]at hw
   cases hw
   rw[aaK]at ho
   subst ho
   have Xx:H p=none:=by
    cases z:H p with
    |none=>rfl
    |some o=>rw[s1 _ _ z]at hp;cases hp
   let H0:Hp:=λb=>if b=p then none else H2 b
   have e0:L2.upd H0 p (.lst vs)=H2:=by
    funext b
    unfold L2.upd
    by_cases hb:b=p
    .rw[ZM hb,hb,ep]
    .rw[ZW hb];exact ZW hb
   have k0:∀b,b≠p->H0 b=H2 b:=λb hb=>ZW hb
   rw[<-e0]
   refine q p vs H0 (λb o eb=>?_) (ZM rfl) ?_
   .rw[k0 b (λz=>by rw[z,Xx]at eb;cases eb)]
    exact s2 _ _ (s1 _ _ eb)
   .refine eN (λb us hb=>?_) (λb us hb nb=>⟨?_,λz=>nb (Or.inl z)⟩) (λb o u hb=>by rw[k0 b (fK hb ep (by intro z;cases z))];exact hb) rp
    .have lS:H2 b=some (.tup us):=hb
     show H0 b=some (.tup us)
     rw[k0 b (fK lS ep (by intro z;cases z))];exact lS
    .rcases hb with hb|⟨u,hb⟩
     .exact .inl (by rw[k0 b (λz=>nb (.inr z))];exact hb)
     .exact .inr ⟨u,by rw[k0 b (λz=>nb (.inr z))];exact hb⟩
 .cases hd
def P7:pU 1 (cb 0):=λx σ H Q h=>⟨h,aat ..,λi hi=>by rw[Z1 (Z5 hi)]⟩
def Jq(hi:PI X (.Name x q) iter (tI X.K true fi))(S:Im X.N X.env.scope sc N' 1 fr)(hc:X.calm=true)
  (Io:∀cl C U s H ex,PG (gP X sc cl C N' U s H ex) (.Name x q) (cb 0)/\xD (gP X sc cl C N' U s H ex) ifs (tB X.K fs)/\PE (gP X sc cl C N' U s H ex) d_ (tV X.K false fe))
  (hs:∀x,foldedSetIterable iter X.env x=pure x):PE X (.ListComp d_ [⟨.Name x q,iter,ifs,0⟩] sc pos) (tF X.K λρ=>(fi ρ).bind λxs=>if xs.length<=bR then walk (oK 0 fs fe fr ρ) xs else none):=
 (vh hi S hc P7 Io hs).weak λσ H Q h=>oM N4 σ H Q h
def AQ:xD X [] (tB X.K λ_=>some true):=λU s σ H Q I zz=>by
 refine au λnO=>b6 zz λO ρ k hx hd q=>?_
 cases hd
 exact nO<|Dj U s σ H Q I (q H (ag.refl _))
def Ek{f:Env->Option D}(h:PT X c (tB X.K λρ=>(f ρ).bind fg))(hr:xD X es (tB X.K g)):xD X (c::es) (tB X.K λρ=>((f ρ).bind fg).bind λx=>if x=true then g ρ else some x):=λU s σ H Q I zz=>by
 refine b6 zz λO ρ k hx hd q=>aa (bind_some hd) λx e1 hd=>zK h hr U s σ H Q I ⟨O,ρ,x,hx,e1,λH1 s1=>?_⟩
 cases x with
 |true=>exact iR ⟨O,ρ,k,hx.mono s1,by rw[ZM rfl]at hd;exact hd,λH2 s2=>q H2 (s1.trans s2)⟩
 |false=>rw[ZW Zz]at hd;cases hd;exact kL (q H1 s1)
end
abbrev GT:=List Str×List (Str×Int)
noncomputable def sA(sc:Scope)(x:Str):Bool:=match sc.names.lookup x with|some .local =>true|some .cell =>true|some .free =>true|_=>false
noncomputable def cV(sc:Scope)(x:Str):Bool:=match sc.names.lookup x with|some .globalImplicit =>true|_=>false
noncomputable def vS(x:Str):Bool:=!(x==("__debug__":Str))&&!(x==("__classdict__":Str))
noncomputable def bH:Expr->Bool| .Starred _ _=>false|_=>true
noncomputable def bZ:Expr->Bool| .Slice _ _ _ _=>false|_=>true
noncomputable def fC:Expr->Bool| .Set _ _ _=>false|_=>true
noncomputable def AR:Expr->Bool| .Name _ _=>true| .Subscript _ _ _=>true| .Constant _ _ _=>true|_=>false
noncomputable def GC:Const->Bool| .int i=>decide (i=1)|_=>false
noncomputable def Vq:D->Const->Bool
 | .bX,.none =>true
 | .bl b,.bool c=>b==c
 | .int i,.int j=>decide (i=j)
 | .str i,.str j=>decide (i=j)
 |_,_=>false
noncomputable def N7(G:GT)(x:Str):D->Bool| .int i=>decide ((x,i)∈G.2)|_=>false
noncomputable def ky(sc CF:Scope):Scope:={sc with names:=sc.names.map λ(n,k)=>if(k == .free&&CF.kind == .function&&CF.names.lookup n==some .cell) then(n,.cell) else(n,k)}
noncomputable def nP(N:List Str)(xs:List Str)(fr:List Nat):List Str:=xs++fr.map λi=>N.getD i ""
noncomputable def yb(N:List Str)(CF sc:Scope)(xs:List Str)(fr:List Nat):Bool:=
 decide (sc.kind= .function)&&sc.names.all (λy=>decide (y.2= .free ->(y.1,NameKind.cell)∉sc.names))&&sc.names.all (λy=>decide (y.2= .local ->sc.names.lookup y.1=some .local)) &&
 sc.names.all (λy=>decide (y.2= .free ->CF.names.lookup y.1=some .cell \/CF.names.lookup y.1=some .free)) &&
 fr.all (λi=>match N[i]? with|some y=>decide (sc.names.lookup y=some .free)|none=>false)&&xs.all (λx=>decide (sc.names.lookup x=some .local \/sc.names.lookup x=some .cell))&&decide (nP N xs fr).Nodup
noncomputable def AS(_:E):Bool:=true
noncomputable def fresh:E->Bool
 | .lst _=>true
 | .comp _ _ _ _ _=>true
 | .bin .Add _ _=>true
 | .prim .list _=>true
 | .nA .list _=>true
 | .sl _ _ _=>true
 |_=>false
noncomputable def cZ(N:List Str)(sc:Scope)(i:Nat)(e:Expr):Bool:=match e with| .Name x _=>decide (N[i]?=some x)&&sA sc x&&vS x|_=>false
noncomputable def gg(e:Expr)(k:Str->Bool):Bool:=match e with| .Name x _=>k x|_=>false
noncomputable def uD(e:Expr)(k:Expr->List Expr->Pos->Bool):Bool:=match e with| .Call f a s p=>s.isEmpty&&k f a p|_=>false
noncomputable def AU(e:Expr)(k:Expr->Str->Pos->Bool):Bool:=match e with| .Attribute o n p=>k o n p|_=>false
noncomputable def oN(e:Expr)(k:Expr->Expr->Bool):Bool:=match e with| .Subscript v s _=>k v s|_=>false
noncomputable def uE(e:Expr)(k:List (Option Expr)->List Expr->Bool):Bool:=match e with| .Dict a b _=>k a b|_=>false
noncomputable def Jr(e:Expr)(k:Expr->List Comprehension->Scope->Bool):Bool:=match e with| .ListComp a b c _=>k a b c|_=>false
noncomputable def AV(e:Expr)(k:Expr->List CmpOp->List Expr->Bool):Bool:=match e with| .Compare l a b _=>k l a b|_=>false
noncomputable def sC(st:Stmt)(k:List Expr->Expr->Bool):Bool:=match st with| .Assign t v _=>k t v|_=>false
noncomputable def uF(st:Stmt)(k:Expr->Bool):Bool:=match st with| .Expr e _=>k e|_=>false
noncomputable def nQ(l:List α)(k:α->Bool):Bool:=match l with|[]=>false|a::r=>r.isEmpty&&k a
noncomputable def Li(l:List α)(k:α->α->Bool):Bool:=match l with|[]=>false|a::r=>nQ r (k a)
noncomputable def qr(o:Option α)(k:α->Bool):Bool:=match o with|none=>false|some a=>k a
noncomputable def mr(e:Expr)(k:Str->List Expr->Bool):Bool:=uD e λf a _=>gg f λx=>k x a
noncomputable def mz(e:Expr)(k:Expr->Str->List Expr->Bool->Bool):Bool:=uD e λf a cp=>AU f λo n ap=>k o n a (ap.endLine==cp.line)
noncomputable def uG(st:Stmt)(k:Str->Expr->Bool):Bool:=sC st λt v=>nQ t λe=>gg e λx=>k x v
noncomputable def Js(e:Expr)(k:Expr->CmpOp->Expr->Bool):Bool:=AV e λl a b=>nQ a λo=>nQ b λr=>k l o r
noncomputable def oO(e:Expr)(k:Str->Expr->Bool):Bool:=mr e λx a=>nQ a (k x)
section
variable {e:Expr}{st:Stmt}
def cF(h:gg e k=true):∃x p,e= .Name x p/\k x=true:=by
 cases e with
 |Name x p=>exact⟨x,p,rfl,h⟩
 |_=>cases h
def oP(h:uD e k=true):∃f a p,e= .Call f a [] p/\k f a p=true:=by
 cases e with
 |Call f a s p=>
  have h':(s.isEmpty&&k f a p)=true:=h
  rw[Zu]at h'
  cases s with
  |nil=>exact⟨f,a,p,rfl,h'.2⟩
  |cons _ _=>cases h'.1
 |_=>cases h
def yc(h:AU e k=true):∃o n p,e= .Attribute o n p/\k o n p=true:=by
 cases e with
 |Attribute o n p=>exact⟨o,n,p,rfl,h⟩
 |_=>cases h
def jh(h:oN e k=true):∃v s p,e= .Subscript v s p/\k v s=true:=by
 cases e with
 |Subscript v s p=>exact⟨v,s,p,rfl,h⟩
 |_=>cases h
def oQ(h:uE e k=true):∃a b p,e= .Dict a b p/\k a b=true:=by
 cases e with
 |Dict a b p=>exact⟨a,b,p,rfl,h⟩
 |_=>cases h
def vT(h:Jr e k=true):∃a b c p,e= .ListComp a b c p/\k a b c=true:=by
 cases e with
 |ListComp a b c p=>exact⟨a,b,c,p,rfl,h⟩
 |_=>cases h
def sD(h:AV e k=true):∃l a b p,e= .Compare l a b p/\k l a b=true:=by
 cases e with
 |Compare l a b p=>exact⟨l,a,b,p,rfl,h⟩
 |_=>cases h
def ji(h:sC st k=true):∃t v p,st= .Assign t v p/\k t v=true:=by
 cases st with
 |Assign t v p=>exact⟨t,v,p,rfl,h⟩
 |_=>cases h
def oU(h:uF st k=true):∃e p,st= .Expr e p/\k e=true:=by
 cases st with
 |Expr e p=>exact⟨e,p,rfl,h⟩
 |_=>cases h
def bV(h:nQ l k=true):∃a,l=[a]/\k a=true:=by
 cases l with
 |nil=>cases h
 |cons a r=>
  have h':(r.isEmpty&&k a)=true:=h
  rw[Zu]at h'
  cases r with
  |nil=>exact⟨a,rfl,h'.2⟩
  |cons _ _=>cases h'.1
def mB(h:Li l k=true):∃a b,l=[a,b]/\k a b=true:=by
 cases l with
 |nil=>cases h
 |cons a r=>exact aa (bV (show nQ r (k a)=true from h)) λb e q=>⟨a,b,by rw[e],q⟩
def oV(h:qr o k=true):∃a,o=some a/\k a=true:=by
 cases o with
 |none=>cases h
 |some a=>exact⟨a,rfl,h⟩
def eS(h:mr e k=true):∃x q a p,e= .Call (.Name x q) a [] p/\k x a=true:=
 kW (oP h) λf a p e1 h=>dU (cF h) λx q e2 h=>⟨x,q,a,p,by rw[e1,e2],h⟩
def eU(h:mz e k=true):∃o n ap a cp,e= .Call (.Attribute o n ap) a [] cp/\k o n a (ap.endLine==cp.line)=true:=
 kW (oP h) λf a p e1 h=>kW (yc h) λo n ap e2 h=>⟨o,n,ap,a,p,by rw[e1,e2],h⟩
def gH(h:uG st k=true):∃x px v p,st= .Assign [.Name x px] v p/\k x v=true:=
 kW (ji h) λt v p e1 h=>aa (bV h) λa e2 h=>dU (cF h) λx q e3 h=>⟨x,q,v,p,by rw[e1,e2,e3],h⟩
def vU(h:Js e k=true):∃l o r p,e= .Compare l [o] [r] p/\k l o r=true:=
 nr (sD h) λl a b p e1 h=>aa (bV h) λo e2 h=>aa (bV h) λr e3 h=>⟨l,o,r,p,by rw[e1,e2,e3],h⟩
def gh(h:oO e k=true):∃x q a p,e= .Call (.Name x q) [a] [] p/\k x a=true:=
 nr (eS h) λx q a p e1 h=>aa (bV h) λb e2 h=>⟨x,q,b,p,by rw[e1,e2],h⟩
end
mutual
noncomputable def bh(G:GT):E->List Str->Scope->Expr->Bool
 | .var i,N,sc,e=>match e with| .Name x _=>decide (N[i]?=some x)&&sA sc x&&vS x|_=>false
 | .c d,_,sc,e=>match e with| .Constant c _ _=>Vq d c| .Name x _=>cV sc x&&vS x&&N7 G x d|_=>false
 | .bin o a b,N,sc,e=>match e with| .BinOp l op r _=>decide (o=op)&&bh G a N sc l&&bh G b N sc r|_=>false
 | .cmp o a b,N,sc,e=>Js e λl op r=>decide (o=op)&&bh G a N sc l&&bh G b N sc r&&fC r
 | .om k es,N,sc,e=>match e with| .BoolOp op vs _=>decide (op=bo k)&&!vs.isEmpty&&mC G es N sc vs|_=>false
 | .not a,N,sc,e=>match e with| .UnaryOp op x _=>decide (op= .Not)&&bh G a N sc x&&AS a|_=>false
 | .neg a,N,sc,e=>match e with| .UnaryOp op x _=>decide (op= .USub)&&bh G a N sc x|_=>false
 | .yQ a b,N,sc,e=>mr e λx as=>Li as λa0 t=>gg t λy=>decide (x="isinstance")&&decide (y=Str.ofString (x_ b))&&cV sc x&&cV sc y&&bh G a N sc a0&&bH a0
 | .chain o o' a b c,N,sc,e=>AV e λl ops rs=>Li ops λop tL=>Li rs λr t=>decide (o=op)&&decide (o'=tL)&&bh G a N sc l&&bh G b N sc r&&bh G c N sc t&&fC t
 | .rev a,N,sc,e=>oN e λv s=>match s with
  | .Slice none none (some (.UnaryOp op (.Constant c _ _) _)) _=>decide (op= .USub)&&GC c&&bh G a N sc v
  |_=>false
 | .tup es,N,sc,e=>match e with| .Tuple xs _ _=>c6 G es N sc xs|_=>false
 | .lst es,N,sc,e=>match e with| .List xs _=>c6 G es N sc xs|_=>false
 | .idx a i,N,sc,e=>match e with| .Subscript v s _=>bh G a N sc v&&bh G i N sc s&&bZ s|_=>false
 | .sl a lo hi,N,sc,e=>match e with
  | .Subscript v s _=>match s with
   | .Slice l h st _=>st.isNone&&bh G a N sc v&&GD G lo N sc l&&GD G hi N sc h
   |_=>false
  |_=>false
 | .call f es,N,sc,e=>mr e λx as=>decide (G.1[f]?=some x)&&cV sc x&&vS x&&!as.isEmpty&&c6 G es N sc as
 | .prim q es,N,sc,e=>mr e λx as=>decide (x=hZ q)&&cV sc x&&!as.isEmpty&&c6 G es N sc as
 | .nA q es,N,sc,e=>oO e λx ar=>oO ar λy a0=>(decide (q= .list)||decide (q= .tuple))&&decide (x=hZ q)&&decide (y="range")&&cV sc x&&cV sc y&&c6 G es N sc [a0]
 | .cK mm o es,N,sc,e=>mz e λoe nm as b=>nQ as λa0=>decide (nm="index")&&AR oe&&b&&bh G o N sc oe&&c6 G es N sc [a0]
 | .comp fr tg it ifs d_,N,sc,e=>Jr e λel gs gI=>nQ gs λg=>gg g.target λx=>decide (tg=0)&&decide (g.is_async=0)&&fC g.iter&&yb N sc gI [x] fr&&El G it N sc g.iter&&mC G ifs (nP N [x] fr) (ky gI sc) g.ifs&&bh G d_ (nP N [x] fr) (ky gI sc) el
 | .fq i k,N,sc,e=>match e with| .Subscript v s _=>cZ N sc i v&&bh G k N sc s&&bZ s|_=>false
 | .CG i k d,N,sc,e=>mz e λoe nm as b=>Li as λa0 a1=>decide (nm="get")&&cZ N sc i oe&&b&&bh G k N sc a0&&bH a0&&bh G d N sc a1&&bH a1
 | .vj neg k i,N,sc,e=>Js e λl op r=>decide (op=if neg then .NotIn else .In)&&bh G k N sc l&&cZ N sc i r
 | .ed i,N,sc,e=>oO e λx a0=>decide (x="sorted")&&cV sc x&&cZ N sc i a0
 |_,_,_,_=>false
noncomputable def c6(G:GT):E->List Str->Scope->List Expr->Bool
 | .nil,_,_,es=>es.isEmpty
 | .cons a r,N,sc,es=>match es with|e::es=>bh G a N sc e&&bH e&&c6 G r N sc es|[]=>false
 |_,_,_,_=>false
noncomputable def mC(G:GT):E->List Str->Scope->List Expr->Bool
 | .nil,_,_,es=>es.isEmpty
 | .cons a r,N,sc,es=>match es with|e::es=>bh G a N sc e&&AS a&&mC G r N sc es|[]=>false
 |_,_,_,_=>false
noncomputable def GD(G:GT):E->List Str->Scope->Option Expr->Bool
 | .nil,_,_,o=>o.isNone
 | .cons a _,N,sc,o=>match o with|some e=>bh G a N sc e|none=>false
 |_,_,_,_=>false
noncomputable def El(G:GT):E->List Str->Scope->Expr->Bool
 | .fj es,N,sc,e=>mr e λx as=>decide (x="range")&&cV sc x&&decide (as.length=1)&&c6 G es N sc as
 | .it a,N,sc,e=>bh G a N sc e
 | .dk i,N,sc,e=>cZ N sc i e
 | .dv i,N,sc,e=>mz e λoe nm as b=>as.isEmpty&&decide (nm="values")&&cZ N sc i oe&&b
 | .Gj a,N,sc,e=>oO e λx a0=>decide (x="reversed")&&cV sc x&&bh G a N sc a0&&bH a0
 |_,_,_,_=>false
end
def bM(h:bH e=true):starEach (e::es) env=(false,eval e env)::starEach es env:=by
 cases e<;>first|rfl|exact absurd h Zz
theorem gm:∀{es:List Expr},es.all bH=true->(backTo pos (starEach es env)).any (·.1)=false
 |[],_=>rfl
 |e::es,h=>by
  rw[acE,Zu]at h
  rw[bM h.1]
  show(false||(backTo pos (starEach es env)).any (·.1))=false
  rw[gm h.2]
  rfl
def jj:∀{e':E}{N:List Str}{sc:Scope}{es:List Expr},c6 G e' N sc es=true->es.all bH=true:=λ{e'}=>by
 induction e' with
 |nil=>
  intro N sc es h
  rw[c6]at h
  cases es with
  |nil=>rfl
  |cons _ _=>cases h
 |cons a r _ ih=>
  intro N sc es h
  cases es with
  |nil=>rfl
  |cons e es=>
   rw[c6]at h
   simp only[Zu]at h
   rw[acE,Zu]
   exact⟨h.1.2,ih h.2⟩
 |_=>intro N sc es h;exact absurd (show false=true from h) Zz
def AW:∀{e':E},pX ρ e'=false->cR F true e' ρ=cR F false e' ρ:=λ{e'}=>by
 induction e' with
 |nil=>intro _;rfl
 |cons a r _ ih=>
  intro h
  have hr:pX ρ r=false:=by
   cases a with
   |var i=>exact(afi.mp h).2
   |_=>exact h
  have ha:ev F true a ρ=ev F false a ρ:=by
   cases a with
   |var i=>
    show rd true ρ i=rd false ρ i
    have h1:pW ρ i=false:=(afi.mp h).1
    unfold rd
    unfold pW at h1
    cases e:ρ[i]? with
    |none=>rfl
    |some o=>
     cases o with
     |none=>rfl
     |some t=>
      obtain⟨o,d⟩:=t
      rw[e]at h1
      have P8:o=false:=h1
      subst P8
      rfl
   |_=>rfl
  show(ev F true a ρ).bind _=(ev F false a ρ).bind _
  rw[ha,ih hr]
 |_=>intro _;rfl
noncomputable def eV:List Str:=["len","tuple","list","min","sorted","int","isinstance","bool","range","enumerate","reversed","any"]
structure Ct(X:Cx)(G:GT)(F:FT):Prop where
 calm:X.calm=true
 units:X.A.units+64<cLine
 mg:∀x∈eV,X.mg x=none
 cst:∀(x:Str) (i:Int),(x,i)∈G.2->∃t,X.mg x=some (.int i t)
 call:∀(f:Nat) (x:Str),G.1[f]?=some x->∃(k:Nat) (fa:Addr) (fd:FuncData) (ps:List Str),fY X.prog X.w X.K X.mg X.base rj k fa fd ps (uA X.K ps.length (F f))/\dW k X.A/\X.mg x=some (.ref fa)/\PySem.W.keepIn X.K (.ref fa)=true/\Binds X.K fd ps []/\∀ds d,F f ds=some d->ds.length=ps.length
def Ct.inner(h:Ct X G F)(sc:Scope)(cl:List (Str×Addr))(C:Addr)(N:List Str)(U:List (Addr×Obj))(s:Shared)(H:Hp)(ex:List Addr):Ct (gP X sc cl C N U s H ex) G F:=⟨h.calm,h.units,h.mg,h.cst,h.call⟩
noncomputable def h_:D->Option (List D)
 | .lst ds=>some ds
 |_=>none
structure bN(G:GT)(F:FT)(e':E):Prop where
 e:∀X,Ct X G F->∀x,bh G e' X.N X.env.scope x=true->∀m,PE X x (tV X.K m (ev F m e'))
 t:∀X,Ct X G F->∀x,bh G e' X.N X.env.scope x=true->AS e'=true->PT X x (tB X.K λρ=>(ev F false e' ρ).bind fg)
 f:∀X,Ct X G F->∀x,bh G e' X.N X.env.scope x=true->fresh e'=true->PE X x (tF X.K λρ=>(ev F false e' ρ).bind h_)
 es:∀X,Ct X G F->∀xs,c6 G e' X.N X.env.scope xs=true->∀m,PA X xs (tP X.K m (cR F m e'))
 ts:∀X,Ct X G F->∀xs,mC G e' X.N X.env.scope xs=true->xD X xs (tB X.K (jB F true e'))/\
  (xs≠[]->∀k pos,(∀m,PE X (.BoolOp (bo k) xs pos) (tV X.K m λρ=>(jB F k e' ρ).map .bl))/\PW X (.BoolOp (bo k) xs pos) (tB X.K (jB F k e')))
 o:∀X,Ct X G F->∀x,GD G e' X.N X.env.scope x=true->PO X x (tO X.K (Iq F e'))
 i:∀X,Ct X G F->∀tg x,El G e' X.N X.env.scope x=true->∀m,PI X tg x (tI X.K m (k7 F m e'))
def mD(h:sA sc x=true):uU sc x:=by
 unfold sA at h
 split at h
 .rename_i e;exact .inl e
 .rename_i e;exact .inr (.inl e)
 .rename_i e;exact .inr (.inr e)
 .cases h
def bP(h:cV X.env.scope x=true):Gl X x:=by
 unfold cV at h
 split at h
 .rename_i e;exact e
 .cases h
def qt{X:Cx}{C:Addr}{ex:List Addr}(h:L2.Loc sc x):L2.Loc (gP X sc cl C N U s H ex).env.scope x/\((gP X sc cl C N U s H ex).fn x=true\/(gP X sc cl C N U s H ex).env.scope.names.lookup x=some .local):=by
 show L2.Loc (relabel sc X.env) x/\(_\/(relabel sc X.env).names.lookup x=some .local)
 unfold L2.Loc
 rw[show(relabel sc X.env).names.lookup x=_ from PB]
 rcases h with h|h<;>rw[h]
 .exact⟨.inl rfl,.inr rfl⟩
 .exact⟨.inr rfl,.inl (decide_eq_true (aax h))⟩
def bW(h:vS x=true):(x==("__debug__":Str))=false/\(x==("__classdict__":Str))=false:=by
 unfold vS at h
 simpa using h
def dC(h:fC e=true):∀x,foldedSetIterable e env x=pure x:=by
 intro x
 cases e<;>first|rfl|exact absurd h Zz
def jY(h:fC e=true):behindInMarks op e=false:=by
 cases e<;>first|rfl|exact absurd h Zz
def mE(h:bZ e=true):pQ e:=by
 intro o i
 cases e<;>first|rfl|exact absurd h Zz
def qu(h:yb N CF sc xs fr=true):Im N CF sc (nP N xs fr) xs.length fr/\(∀x∈xs,L2.Loc sc x)/\(nP N xs fr).Nodup :=by
 unfold yb at h
 simp only[Zu,decide_eq_true_eq,abP]at h
 refine au λnO=>?_
 obtain⟨⟨⟨⟨⟨⟨h1,h2⟩,h3⟩,h4⟩,h5⟩,h6⟩,h7⟩:=h
 refine nO ?_
 refine⟨⟨h1,h2,h3,h4,?_,λj y e=>?_⟩,h6,h7⟩
 .unfold nP;rw[ZQ,ZA]
 .have e':(fr.map λi=>N.getD i "")[j]?=some y:=by
   unfold nP at e
   rwa [aaz (ZU _ _),aau]at e
  rw[ZJ]at e'
  refine aa (map_some e') λi f1 f2=>?_
  have P9:=h5 i (aac f1)
  cases q:N[i]? with
  |none=>rw[q]at P9;cases P9
  |some z=>
   rw[q]at P9
   have ez:N.getD i ""=z:=by rw[ZR,q];rfl
   rw[ez]at f2
   subst f2
   exact⟨i,f1,q,by simpa using P9⟩
def sE(h:Vq d c=true)(m:Bool):PE X (.Constant c j pos) (tV X.K m λ_=>some d):=by
 cases d with
 |bX=>
  cases c with
  |none=>exact NK Hn λ_ _ _=> .bX
  |_=>exact absurd h Zz
 |bl b=>
  cases c with
  |bool b'=>
   have e:b=b':=eq_of_beq h
   subst e
   exact NK LV λ_ _ _=> .bl _
  |_=>exact absurd h Zz
 |int i=>
  cases c with
  |int i'=>
   have e:i=i':=of_decide_eq_true h
   subst e
   exact NK zb λ_ _ _=> .int _
  |_=>exact absurd h Zz
 |str i=>
  cases c with
  |str i'=>
   have e:i=i':=of_decide_eq_true h
   subst e
   exact NK zc λ_ _ _=> .str _
  |_=>exact absurd h Zz
 |tup _=>exact absurd h (by cases c<;>exact Zz)
 |lst _=>exact absurd h (by cases c<;>exact Zz)
 |bj _ _ _=>exact absurd h (by cases c<;>exact Zz)
def AX{K:aC}{m:Bool}(h:∀ρ,f ρ=g ρ):tV K m f=tV K m g:=by rw[show f=g from funext h]
def AY{K:aC}{f g:Env->Option (List D)}(h:∀ρ,f ρ=g ρ):tF K f=tF K g:=by rw[show f=g from funext h]
def mF(m:Bool)(h:PE X e (tF X.K λρ=>(f ρ).bind h_))(hf:∀ρ d,f ρ=some d->∃ds,d= .lst ds):PE X e (tV X.K m f):=
 D_ h λρ d hd=>by
  obtain⟨ds,rfl⟩:=hf ρ d hd
  exact⟨ds,by rw[hd];rfl,rfl⟩
def Em{F:FT}(h:c6 G es N sc [a0]=true):∃a,es= .cons a .nil /\bh G a N sc a0=true/\bH a0=true:=by
 cases es with
 |cons a r=>
  rw[c6]at h
  simp only[Zu]at h
  cases r with
  |nil=>exact⟨a,rfl,h.1.1,h.1.2⟩
  |cons b r=>exact absurd h.2 Zz
  |_=>exact absurd h.2 Zz
 |nil=>exact absurd h Zz
 |_=>exact absurd h Zz
def AZ{F:FT}{es:E}{N:List Str}{sc:Scope}{G:GT}{a0 b0:Expr}(h:c6 G es N sc [a0,b0]=true):∃a b,es= .cons a (.cons b .nil)/\bh G a N sc a0=true/\bH a0=true/\bh G b N sc b0=true/\bH b0=true:=by
 cases es with
 |cons a r=>
  rw[c6]at h
  simp only[Zu]at h
  refine bB (Em (F:=F) h.2) λb ah h1 h2=>?_
  subst ah
  exact⟨a,b,rfl,h.1.1,h.1.2,h1,h2⟩
 |nil=>exact absurd h Zz
 |_=>exact absurd h Zz
def qv:∀{es:E}{N:List Str}{sc:Scope}{xs:List Expr}{ds:List D},c6 G es N sc xs=true->cR F m es ρ=some ds->ds.length=xs.length:=λ{es}=>by
 induction es with
 |nil=>
  intro N sc xs ds h hd
  cases xs with
  |nil=>cases hd;rfl
  |cons _ _=>exact absurd h Zz
 |cons a r _ ih=>
  intro N sc xs ds h hd
  cases xs with
  |nil=>exact absurd h Zz
  |cons x xs=>
   rw[c6]at h
   simp only[Zu]at h
   refine aa (bind_some (show(ev F m a ρ).bind _=_ from hd)) λd _ hd=>aa (bind_some hd) λNJ h2 hd=>?_
   cases hd
   rw[Z3,Z3,ih h.2 h2]
 |_=>intro N sc xs ds h hd;exact absurd (show false=true from h) Zz
section
variable {X:Cx}{a b c e:Expr}{es:List Expr}{pos p:Pos}{m:Bool}
def A0(hc:X.calm=true)(hg:Gl X "range")(hm:X.mg "range"=none)(Jk:Gl X "list")(xE:X.mg "list"=none)(ha:PA X [a] (tP X.K false g))(hl:∀ρ ds,g ρ=some ds->ds.length=1)(hs:starEach [a] X.env=[(false,eval a X.env)]):
  PE X (.Call (.Name "list" q1) [.Call (.Name "range" p) [a] [] pos] [] pos') (tF X.K λρ=>(g ρ).bind cQ):=by
 have h1:=vP (p:=p) (pos:=pos) hg hm ha hs
 refine PE.weak (eG (uB hc) Jk xE boot_list (aZ h1 cf rfl) (by decide) (by decide) rfl rfl) λσ H Q zz=>b6 zz λO ρ ds hx hd q=>aa (bind_some hd) λxs e1 hd=>?_
 have pJ:=hl ρ xs e1
 refine⟨O,ρ,xs,hx,e1,λvs H1 s1 r=>?_⟩
 cases xs with
 |nil=>cases pJ
 |cons x t=>
  cases t with
  |cons _ _=>cases pJ
  |nil=>
   refine aa (cI r) λv ah rv=>?_
   subst ah
   cases x with
   |int n=>
    change (if -(2 ^ 62)<=n/\n<=bR then some (bK 0 (n).toNat) else none)=some _ at hd
    split at hd
    .rename_i hz
     cases hd
     cases rv.int
     exact⟨n,rfl,λp hp=>⟨p,n,rfl,ai,hz,λl hl=>q l _ _ (s1.trans (ag.upd hp)) hl (jV _ _)⟩⟩
    .cases hd
   |_=>cases hd
def N8(hg:Gl X "range")(hm:X.mg "range"=none)(ha:PA X es (tP X.K false g))(hl:∀ρ ds,g ρ=some ds->ds.length=es.length)(P_:es.length=1)(hs:es.all bH=true):
  PI X tg (.Call (.Name "range" p) es [] pos) (tI X.K m λρ=>(g ρ).bind cQ):=by
 intro U s σ H R I ⟨O,ρ,ds,hx,hd,q⟩
 refine aa (bind_some hd) λxs e1 hd=>?_
 have pJ:=hl ρ xs e1
 have je:bR=16777216:=rfl
 cases es with
 |nil=>simp at P_
 |cons a t=>
  rw[acE,Zu]at hs
  cases t with
  |nil=>
   refine xg hg hm ha (bM hs.1) U s σ H R I ⟨O,ρ,xs,hx,e1,λvs H1 s1 r=>?_⟩
   cases xs with
   |nil=>cases pJ
   |cons x t=>
    cases t with
    |cons _ _=>cases pJ
    |nil=>
     refine aa (cI r) λv ah rv=>?_
     subst ah
     cases x with
     |int n=>
      change (if -(2 ^ 62)<=n/\n<=bR then some (bK 0 (n).toNat) else none)=some _ at hd
      split at hd
      .rename_i hz
       cases hd
       cases rv.int
       exact⟨n,rfl,hz.1,(abS hz.2 (by decide)),q _ none H1 s1 Jo trivial⟩
      .cases hd
     |_=>cases hd
  |cons b t=>simp at P_
end
section
variable {G:GT}{F:FT}
def bN.fU(e:∀X,Ct X G F->∀x,bh G e' X.N X.env.scope x=true->∀m,PE X x (tV X.K m (ev F m e')))
  (t:∀X,Ct X G F->∀x,bh G e' X.N X.env.scope x=true->AS e'=true->PT X x (tB X.K λρ=>(ev F false e' ρ).bind fg))
  (f:∀X,Ct X G F->∀x,bh G e' X.N X.env.scope x=true->fresh e'=true->PE X x (tF X.K λρ=>(ev F false e' ρ).bind h_))
  (n1:∀N sc xs,c6 G e' N sc xs=false:=by intro _ _ _;rfl) (n2:∀N sc xs,mC G e' N sc xs=false:=by intro _ _ _;rfl) (n3:∀N sc xs,GD G e' N sc xs=false:=by intro _ _ _;rfl) (n4:∀N sc xs,El G e' N sc xs=false:=by intro _ _ _;rfl):bN G F e':=
 ⟨e,t,f,λX _ xs h=>absurd h (by rw[n1];exact Zz),λX _ xs h=>absurd h (by rw[n2];exact Zz),λX _ xs h=>absurd h (by rw[n3];exact Zz),λX _ tg xs h=>absurd h (by rw[n4];exact Zz)⟩
def ff{P:Prop}(h:false=true):P:=absurd h Zz
def En:bN G F .nil where
 e:=λX hC x h=>ff h
 t:=λX hC x h=>ff h
 f:=λX hC x h=>ff h
 es:=λX hC xs h m=>by
  cases xs with
  |nil=>exact NT
  |cons _ _=>exact ff h
 ts:=λX hC xs h=>by
  cases xs with
  |nil=>exact⟨AQ,λz=>absurd rfl z⟩
  |cons _ _=>exact ff h
 o:=λX hC x h=>by
  cases x with
  |none=>exact Je
  |some _=>exact ff h
 i:=λX hC tg x h=>ff h
def A1{a r:E}(ha:bN G F a)(hr:bN G F r):bN G F (.cons a r) where
 e:=λX hC x h=>ff h
 t:=λX hC x h=>ff h
 f:=λX hC x h=>ff h
 es:=λX hC xs h m=>by
  cases xs with
  |nil=>exact ff h
  |cons x xs=>
   rw[c6]at h
   simp only[Zu]at h
   exact Jd (ha.e X hC x h.1.1 m) (hr.es X hC xs h.2 m) (bM h.1.2)
 ts:=λX hC xs h=>by
  cases xs with
  |nil=>exact ff h
  |cons x xs=>
   rw[mC]at h
   simp only[Zu]at h
   have t1:=ha.t X hC x h.1.1 h.1.2
   have e1:=ha.e X hC x h.1.1 false
   have t2:=hr.ts X hC xs h.2
   refine⟨Ek t1 t2.1,λ_ k pos=>?_⟩
   cases xs with
   |nil=>
    have er:∀ρ,jB F k r ρ=some k:=by
     cases r with
     |nil=>intro ρ;rfl
     |cons _ _=>exact ff h.2
     |_=>exact ff h.2
    have eq:∀ρ,jB F k (.cons a r) ρ=((ev F false a ρ).bind fg).bind λx=>if x=k then some k else some x:=λρ=>by
     show((ev F false a ρ).bind fg).bind _=_
     congr 1
     funext x
     rw[er ρ]
    refine⟨λm=>?_,?_⟩
    .rw[AX λρ=>congrArg (Option.map D.bl) (eq ρ)]
     exact Jb e1
    .rw[show(jB F k (.cons a r))=λρ=>((ev F false a ρ).bind fg).bind λx=>if x=k then some k else some x from funext eq]
     exact Jc t1
   |cons y ys=>
    have t3:=t2.2 (by simp) k pos
    exact⟨λm=>NR e1 (t3.1 false),NS t1 t3.2⟩
 o:=λX hC x h=>by
  cases x with
  |none=>exact ff h
  |some x=>exact Jf (ha.e X hC x h false)
 i:=λX hC tg x h=>ff h
def Eo{i:Nat}:bN G F (.var i):=by
 have e:∀X,Ct X G F->∀x,bh G (.var i) X.N X.env.scope x=true->∃n p,x= .Name n p/\∀m,PE X x (tV X.K m (ev F m (.var i))):=λX hC x h=>by
  cases x with
  |Name n p=>
   change (decide (X.N[i]?=some n)&&sA X.env.scope n&&vS n)=true at h
   simp only[Zu,decide_eq_true_eq]at h
   exact⟨n,p,rfl,λm=>v_var h.1.1 (mD h.1.2) (bW h.2).1 (bW h.2).2⟩
  |_=>exact ff h
 refine .fU (λX hC x h m=>?_) (λX hC x h _=>?_) (λX hC x h z=>ff z)
 .refine dU (e X hC x h) λn p ah k=>?_
  subst ah
  exact k m
 .refine dU (e X hC x h) λn p aM k=>?_
  subst aM
  exact cm (k false) λ_=>rfl
def vV{X:Cx}(hC:Ct X G F)(h:(cV X.env.scope x&&vS x&&N7 G x d)=true)(m:Bool):PE X (.Name x p) (tV X.K m λ_=>some d):=by
 simp only[Zu]at h
 obtain⟨⟨h1,h2⟩,h3⟩:=h
 cases d with
 |int i=>
  obtain⟨t,e⟩:=hC.cst x i (of_decide_eq_true h3)
  exact NK (uX (v:= .int i) (bP h1) e ⟨t,rfl⟩ (bW h2).1) λ_ _ _=> .int _
 |_=>exact ff h3
def N9{d:D}:bN G F (.c d):=by
 refine .fU (λX hC x h m=>?_) (λX hC x h _=>?_) (λX hC x h z=>ff z)
 .cases x with
  |Constant c j p=>exact sE h m
  |Name n p=>exact vV hC h m
  |_=>exact ff h
 .cases x with
  |Constant c j p=>exact cm (sE h false) λ_=>rfl
  |Name n p=>exact cm (vV hC h false) λ_=>rfl
  |_=>exact ff h
def Ep(ha:bN G F a)(hb:bN G F b):bN G F (.bin o a b):=by
 have aG:∀X,Ct X G F->∀x,bh G (.bin o a b) X.N X.env.scope x=true->∃l r p,x= .BinOp l o r p/\PE X l (tV X.K true (ev F true a))/\PE X r (tV X.K true (ev F true b)):=λX hC x h=>by
  cases x with
  |BinOp l op r p=>
   change (decide (o=op)&&bh G a X.N X.env.scope l&&bh G b X.N X.env.scope r)=true at h
   simp only[Zu,decide_eq_true_eq]at h
   obtain⟨⟨rfl,h1⟩,h2⟩:=h
   exact⟨l,r,p,rfl,ha.e X hC l h1 true,hb.e X hC r h2 true⟩
  |_=>exact ff h
 refine .fU (λX hC x h m=>?_) (λX hC x h _=>?_) (λX hC x h z=>?_)
 .refine b6 (aG X hC x h) λl r p ah h1 h2=>?_
  subst ah
  exact Gz h1 h2
 .refine b6 (aG X hC x h) λl r p aM h1 h2=>?_
  subst aM
  exact cm (Gz h1 h2) λ_=>rfl
 .refine b6 (aG X hC x h) λl r p cO h1 h2=>?_
  subst cO
  cases o with
  |Add=>exact(NL h1 h2).weak λσ H Q q=>q
  |_=>exact ff z
def Er(ha:bN G F a)(hb:bN G F b):bN G F (.cmp o a b):=by
 have aG:∀X,Ct X G F->∀x,bh G (.cmp o a b) X.N X.env.scope x=true->∃l r p,x= .Compare l [o] [r] p/\PE X l (tV X.K true (ev F true a))/\PE X r (tV X.K true (ev F true b))/\behindInMarks o r=false:=λX hC x h=>by
  refine nr (vU (e:=x) h) λl op r p zr dj=>?_
  subst zr
  simp only[Zu,decide_eq_true_eq]at dj
  obtain⟨⟨⟨rfl,h1⟩,h2⟩,h3⟩:=dj
  exact⟨l,r,p,rfl,ha.e X hC l h1 true,hb.e X hC r h2 true,jY h3⟩
 refine .fU (λX hC x h m=>?_) (λX hC x h _=>?_) (λX hC x h z=>ff z)
 .refine Lx (aG X hC x h) λl r p ah h1 h2 h3=>?_
  subst ah
  exact NN hC.units h1 h2 h3
 .refine Lx (aG X hC x h) λl r p aM h1 h2 h3=>?_
  subst aM
  exact NO hC.units h1 h2 h3
def ye(ha:bN G F a)(hb:bN G F b)(hc:bN G F c):bN G F (.chain o o' a b c):=by
 have aG:∀X,Ct X G F->∀x,bh G (.chain o o' a b c) X.N X.env.scope x=true->∃l r t p,x= .Compare l [o,o'] [r,t] p/\PE X l (tV X.K true (ev F true a))/\PE X r (tV X.K true (ev F true b))/\PE X t (tV X.K true (ev F true c))/\lastMarks [o,o'] [r,t]=false:=λX hC x h=>by
  refine nr (sD (e:=x) h) λl ops rs p zr h=>dU (mB h) λop tL aM h=>dU (mB h) λr t cO hz=>?_
  subst zr aM cO
  simp only[Zu,decide_eq_true_eq]at hz
  obtain⟨⟨⟨⟨⟨rfl,rfl⟩,h1⟩,h2⟩,h3⟩,h4⟩:=hz
  exact⟨l,r,t,p,rfl,ha.e X hC l h1 true,hb.e X hC r h2 true,hc.e X hC t h3 true,jY h4⟩
 refine .fU (λX hC x h m=>?_) (λX hC x h _=>?_) (λX hC x h z=>ff z)
 .refine tT (aG X hC x h) λl r t p ah h1 h2 h3 h4=>?_
  subst ah
  exact Ec hC.units h1 h2 h3 h4
 .refine tT (aG X hC x h) λl r t p ah h1 h2 h3 h4=>?_
  subst ah
  exact Ed hC.units h1 h2 h3 h4
def Es(ha:bN G F a):bN G F (.rev a):=by
 have aG:∀X,Ct X G F->∀x,bh G (.rev a) X.N X.env.scope x=true->(∃v s p,x= .Subscript v s p)/\∀m,PE X x (tV X.K m (ev F m (.rev a))):=λX hC x h=>by
  cases x with
  |Subscript v s p=>
   refine⟨⟨_,_,_,rfl⟩,?_⟩
   cases s with
   |Slice lo hi st=>
    cases lo with
    |some=>exact ff h
    |none=>cases hi with
     |some=>exact ff h
     |none=>cases st with
      |none=>exact ff h
      |some e=>cases e with
       |UnaryOp op c=>cases c with
        |Constant c=>
         have h:=abc.mp (show(decide (op= .USub)&&GC c&&bh G a X.N X.env.scope v)=true from h)
         obtain⟨h1,h2⟩:=abc.mp h.1
         cases of_decide_eq_true h1
         cases c with
         |int i=>
          cases (of_decide_eq_true h2:i=1)
          exact λm=>NW (ha.e X hC v h.2 true)
         |_=>exact ff h2
        |_=>exact ff h
       |_=>exact ff h
   |_=>exact ff h
  |_=>exact ff h
 refine .fU (λX hC x h m=>(aG X hC x h).2 m) (λX hC x h _=>?_) (λX hC x h z=>ff z)
 obtain⟨⟨v,s,p,rfl⟩,k⟩:=aG X hC x h
 exact cm (k false) λ_=>rfl
def Et(ha:bN G F a):bN G F (.neg a):=by
 have aG:∀X,Ct X G F->∀x,bh G (.neg a) X.N X.env.scope x=true->∃l p,x= .UnaryOp .USub l p/\PE X l (tV X.K false (ev F false a)):=λX hC x h=>by
  cases x with
  |UnaryOp op l p=>
   change (decide (op= .USub)&&bh G a X.N X.env.scope l)=true at h
   simp only[Zu,decide_eq_true_eq]at h
   obtain⟨rfl,h1⟩:=h
   exact⟨l,p,rfl,ha.e X hC l h1 false⟩
  |_=>exact ff h
 refine .fU (λX hC x h m=>?_) (λX hC x h _=>?_) (λX hC x h z=>ff z)
 .obtain⟨l,p,rfl,h1⟩:=aG X hC x h
  exact GA h1
 .obtain⟨l,p,rfl,h1⟩:=aG X hC x h
  exact cm (GA h1) λ_=>rfl
def Eu(ha:bN G F a):bN G F (.not a):=by
 have aG:∀X,Ct X G F->∀x,bh G (.not a) X.N X.env.scope x=true->∃l p,x= .UnaryOp .Not l p/\PE X l (tV X.K false (ev F false a))/\PT X l (tB X.K λρ=>(ev F false a ρ).bind fg):=λX hC x h=>by
  cases x with
  |UnaryOp op l p=>
   change (decide (op= .Not)&&bh G a X.N X.env.scope l&&AS a)=true at h
   simp only[Zu,decide_eq_true_eq]at h
   obtain⟨⟨rfl,h1⟩,h2⟩:=h
   exact⟨l,p,rfl,ha.e X hC l h1 false,ha.t X hC l h1 h2⟩
  |_=>exact ff h
 refine .fU (λX hC x h m=>?_) (λX hC x h _=>?_) (λX hC x h z=>ff z)
 .refine bu (aG X hC x h) λl p ah h1 h2=>?_
  subst ah
  exact v_not h1
 .refine bu (aG X hC x h) λl p aM h1 h2=>?_
  subst aM
  exact NP h2
def Ew(he:bN G F es):bN G F (.om k es):=by
 have aG:∀X,Ct X G F->∀x,bh G (.om k es) X.N X.env.scope x=true->∃vs p,x= .BoolOp (bo k) vs p/\(∀m,PE X (.BoolOp (bo k) vs p) (tV X.K m λρ=>(jB F k es ρ).map .bl))/\PW X (.BoolOp (bo k) vs p) (tB X.K (jB F k es)):=λX hC x h=>by
  cases x with
  |BoolOp op vs p=>
   change (decide (op=bo k)&&!vs.isEmpty&&mC G es X.N X.env.scope vs)=true at h
   simp only[Zu,decide_eq_true_eq]at h
   obtain⟨⟨rfl,h1⟩,h2⟩:=h
   have hv:vs≠[]:=by rintro rfl;exact ff (by simpa using h1)
   exact⟨vs,p,rfl,(he.ts X hC vs h2).2 hv k p⟩
  |_=>exact ff h
 refine .fU (λX hC x h m=>?_) (λX hC x h _=>?_) (λX hC x h z=>ff z)
 .refine bu (aG X hC x h) λvs p ah h1 h2=>?_
  subst ah
  exact h1 m
 .refine bu (aG X hC x h) λvs p aM h1 h2=>?_
  subst aM
  refine h2.pt.weak λσ H Q ⟨O,ρ,q,hx,hd,kk⟩=>⟨O,ρ,q,hx,?_,kk⟩
  refine aa (bind_some hd) λd hd hq=>aa (map_some (show(jB F k es ρ).map D.bl=some d from hd)) λb hb cO=>?_
  subst cO
  cases hq
  exact hb
def Ex(he:bN G F es):bN G F (.tup es):=by
 refine .fU (λX hC x h m=>?_) (λX hC x h _=>?_) (λX hC x h z=>ff z)
 .cases x with
  |Tuple xs k p=>exact GB (he.es X hC xs h false)
  |_=>exact ff h
 .cases x with
  |Tuple xs k p=>exact cm (GB (he.es X hC xs h false)) λ_=>rfl
  |_=>exact ff h
def Ey(he:bN G F es):bN G F (.lst es):=by
 have aG:∀X,Ct X G F->∀x,bh G (.lst es) X.N X.env.scope x=true->∃xs p,x= .List xs p/\PE X x (tF X.K λρ=>(ev F false (.lst es) ρ).bind h_):=λX hC x h=>by
  cases x with
  |List xs p=>
   refine⟨xs,p,rfl,(NU (he.es X hC xs h false)).weak λσ H Q ⟨O,ρ,ds,hx,hd,q⟩=>⟨O,ρ,ds,hx,?_,q⟩⟩
   refine aa (bind_some hd) λd hd hl=>aa (bind_some (show(cR F false es ρ).bind _=_ from hd)) λys h1 hd=>?_
   show(cR F false es ρ).bind _=_
   rw[h1]
   split at hd
   .rename_i hz
    cases hd
    cases hl
    exact ZM hz
   .cases hd
  |_=>exact ff h
 have Jt:∀ρ d,ev F false (.lst es) ρ=some d->∃ds,d= .lst ds:=λρ d hd=>by
  refine aa (bind_some (show(cR F false es ρ).bind _=_ from hd)) λys h1 hd=>?_
  split at hd
  .cases hd;exact⟨_,rfl⟩
  .cases hd
 refine .fU (λX hC x h m=>?_) (λX hC x h _=>?_) (λX hC x h z=>?_)
 .refine dU (aG X hC x h) λxs p ah k=>?_
  subst ah
  exact mF m k Jt
 .refine dU (aG X hC x h) λxs p aM k=>?_
  subst aM
  exact cm (mF false k Jt) λ_=>rfl
 .refine dU (aG X hC x h) λxs p cO k=>?_
  subst cO
  exact k
def Ez(ha:bN G F a)(hi:bN G F i):bN G F (.idx a i):=by
 have aG:∀X,Ct X G F->∀x,bh G (.idx a i) X.N X.env.scope x=true->∃v s p,x= .Subscript v s p/\∀m,PE X x (tV X.K m (ev F m (.idx a i))):=λX hC x h=>by
  cases x with
  |Subscript v s p=>
   change (bh G a X.N X.env.scope v&&bh G i X.N X.env.scope s&&bZ s)=true at h
   simp only[Zu]at h
   exact⟨v,s,p,rfl,λm=>NV (ha.e X hC v h.1.1 true) (hi.e X hC s h.1.2 false) (mE h.2)⟩
  |_=>exact ff h
 refine .fU (λX hC x h m=>?_) (λX hC x h _=>?_) (λX hC x h z=>ff z)
 .refine kW (aG X hC x h) λv s p ah k=>?_
  subst ah
  exact k m
 .refine kW (aG X hC x h) λv s p aM k=>?_
  subst aM
  exact cm (k false) λ_=>rfl
def Ju{a lo hi:E}(ha:bN G F a)(hl:bN G F lo)(hh:bN G F hi):bN G F (.sl a lo hi):=by
 have aG:∀X,Ct X G F->∀x,bh G (.sl a lo hi) X.N X.env.scope x=true->∃v l u p2 p,x= .Subscript v (.Slice l u none p2) p/\PE X v (tV X.K true (ev F true a))/\PO X l (tO X.K (Iq F lo))/\PO X u (tO X.K (Iq F hi)):=λX hC x h=>by
  cases x with
  |Subscript v s p=>
   cases s with
   |Slice l u st p2=>
    cases st with
    |some _=>exact ff h
    |none=>
     change (true&&bh G a X.N X.env.scope v&&GD G lo X.N X.env.scope l&&GD G hi X.N X.env.scope u)=true at h
     simp only[Zu]at h
     exact⟨v,l,u,p2,p,rfl,ha.e X hC v h.1.1.2 true,hl.o X hC l h.1.2,hh.o X hC u h.2⟩
   |_=>exact ff h
  |_=>exact ff h
 refine .fU (λX hC x h m=>?_) (λX hC x h _=>?_) (λX hC x h z=>?_)
 .refine QE (aG X hC x h) λv l u p2 p ah k1 k2 k3=>?_
  subst ah
  exact NX k1 k2 k3
 .refine QE (aG X hC x h) λv l u p2 p aM k1 k2 k3=>?_
  subst aM
  exact cm (NX k1 k2 k3) λ_=>rfl
 .refine QE (aG X hC x h) λv l u p2 p cO k1 k2 k3=>?_
  subst cO
  exact(SJ k1 k2 k3).weak λσ H Q q=>q
def A2(he:bN G F es):bN G F (.call f es):=by
 have aG:∀X,Ct X G F->∀x,bh G (.call f es) X.N X.env.scope x=true->(∃fn args qO p,x= .Call fn args qO p)/\∀m,PE X x (tV X.K m (ev F m (.call f es))):=λX hC x h=>by
  refine nr (eS (e:=x) h) λn q as p zr dj=>?_
  subst zr
  refine⟨⟨_,_,_,_,rfl⟩,?_⟩
  simp only[Zu,decide_eq_true_eq]at dj
  refine au λnO=>?_
  obtain⟨⟨⟨⟨h1,h2⟩,h3⟩,h0⟩,h4⟩:=dj
  cases as with
  |nil=>cases h0
  |cons a0 ar=>
   refine CN (hC.call f n h1) λk fa fd ps h5 h6 h7 h8 h9 Lj=>nO ?_
   have ns:=jj h4
   rw[acE,Zu]at ns
   exact λm=>Jg (g:=λb=>cR F b es) (ln:=λρ=>pX ρ es) h5 h6 (bP h2) h7 h8 h9 Lj (λb=>he.es X hC _ h4 b) (λρ hl=>AW hl) (bW h3).1 (bM ns.1) (gm ns.2)
 refine .fU (λX hC x h m=>(aG X hC x h).2 m) (λX hC x h _=>?_) (λX hC x h z=>ff z)
 refine au λnO=>?_
 obtain⟨⟨fn,args,qO,p,rfl⟩,k⟩:=aG X hC x h
 exact nO<|cm (k false) λ_=>rfl
def qw(q:ug):hZ q∈eV:=by cases q<;>decide +kernel
def A3(he:bN G F es):bN G F (.prim q es):=by
 have aG:∀X,Ct X G F->∀x,bh G (.prim q es) X.N X.env.scope x=true->∃a0 ar n p,x= .Call (.Name (hZ q) n) (a0::ar) [] p/\Gl X (hZ q)/\(∀m,PA X (a0::ar) (tP X.K m (cR F m es)))/\bH a0=true/\ar.all bH=true:=λX hC x h=>by
  refine nr (eS (e:=x) h) λn pn as p zr dj=>?_
  subst zr
  simp only[Zu,decide_eq_true_eq]at dj
  obtain⟨⟨⟨rfl,h2⟩,h0⟩,h4⟩:=dj
  cases as with
  |nil=>cases h0
  |cons a0 ar=>
   have ns:=jj h4
   rw[acE,Zu]at ns
   exact⟨a0,ar,pn,p,rfl,bP h2,λm=>he.es X hC _ h4 m,ns.1,ns.2⟩
 refine .fU (λX hC x h m=>?_) (λX hC x h _=>?_) (λX hC x h z=>?_)
 .refine tT (aG X hC x h) λa0 ar n p ah h1 h2 h3 h4=>?_
  subst ah
  exact oJ hC.units hC.calm h1 (hC.mg _ (qw q)) (h2 true) (bM h3) (gm h4)
 .refine tT (aG X hC x h) λa0 ar n p aM h1 h2 h3 h4=>?_
  subst aM
  exact cm (oJ hC.units hC.calm h1 (hC.mg _ (qw q)) (h2 true) (bM h3) (gm h4)) λ_=>rfl
 .refine tT (aG X hC x h) λa0 ar n p cO h1 h2 h3 h4=>?_
  subst cO
  cases q with
  |list=>
   refine(f_list h1 (hC.mg _ (qw .list)) (h2 true) (bM h3) (gm h4)).weak λσ H Q ⟨O,ρ,ds,hx,hd,k⟩=>⟨O,ρ,ds,hx,?_,k⟩
   refine aa (bind_some hd) λd hd hl=>aa (bind_some (show(cR F true es ρ).bind _=_ from hd)) λxs e1 hd=>?_
   show(cR F true es ρ).bind _=_
   rw[e1]
   cases xs with
   |nil=>cases hd
   |cons y t=>
    cases t with
    |cons _ _=>cases hd
    |nil=>
     refine aa (map_some hd) λys h5 sh=>?_
     subst sh
     cases hl
     exact h5
  |_=>exact ff z
def EA(he:bN G F es):bN G F (.nA q es):=by
 have aG:∀X,Ct X G F->∀x,bh G (.nA q es) X.N X.env.scope x=true->(∃fn args qO p,x= .Call fn args qO p)/\((q= .list /\PE X x (tF X.K λρ=>(ev F false (.nA q es) ρ).bind h_))\/(q= .tuple /\∀m,PE X x (tV X.K m (ev F m (.nA q es))))):=λX hC x h=>by
  obtain⟨n,pn,ar,p,rfl,g⟩:=gh (e:=x) h
  obtain⟨y,py,a0,p2,rfl,g2⟩:=gh g
  replace h:=g2
  refine⟨⟨_,_,_,_,rfl⟩,?_⟩
  simp only[Zu,ada,decide_eq_true_eq]at h
  refine au λnO=>?_
  obtain⟨⟨⟨⟨⟨hq,rfl⟩,rfl⟩,h3⟩,h4⟩,h5⟩:=h
  refine nO ?_
  have ns:=jj h5
  rw[acE,Zu]at ns
  rcases hq with rfl|rfl
  .refine .inl ⟨rfl,?_⟩
   refine(A0 hC.calm (bP h4) (hC.mg _ (by simp[eV])) (bP h3) (hC.mg _ (by simp[eV,hZ])) (he.es X hC _ h5 false) (λρ ds hd=>qv h5 hd) (bM ns.1)).weak λσ H Q ⟨O,ρ,ds,hx,hd,k⟩=>⟨O,ρ,ds,hx,?_,k⟩
   refine au λnO=>aa (bind_some hd) λd hd hl=>aa (bind_some (show((cR F false es ρ).bind cQ).bind (pZ .list)=_ from hd)) λxs e1 hd=>?_
   cases hd
   cases hl
   exact nO<|e1
  .refine .inr ⟨rfl,λm=>?_⟩
   refine(AJ (m:=m) hC.calm (bP h4) (hC.mg _ (by simp[eV])) (bP h3) (hC.mg _ (by simp[eV,hZ])) (he.es X hC _ h5 false) (λρ ds hd=>qv h5 hd) (bM ns.1)).weak λσ H Q ⟨O,ρ,d,hx,hd,k⟩=>⟨O,ρ,d,hx,?_,k⟩
   refine au λnO=>aa (bind_some (show((cR F false es ρ).bind cQ).bind (pZ .tuple)=_ from hd)) λxs e1 hd=>?_
   cases hd
   refine nO ?_
   show((cR F false es ρ).bind cQ).map D.tup=_
   rw[e1]
   rfl
 have Jt:q= .list ->∀ρ d,ev F false (.nA q es) ρ=some d->∃ds,d= .lst ds:=λhq ρ d hd=>by
  refine au λnO=>?_
  subst hq
  refine aa (bind_some (show((cR F false es ρ).bind cQ).bind (pZ .list)=_ from hd)) λxs e1 hd=>?_
  cases hd
  exact nO<|⟨_,rfl⟩
 have val:∀X,Ct X G F->∀x,bh G (.nA q es) X.N X.env.scope x=true->∀m,PE X x (tV X.K m (ev F m (.nA q es))):=λX hC x h m=>by
  obtain⟨_,k⟩:=aG X hC x h
  rcases k with⟨hq,k⟩|⟨hq,k⟩
  .exact mF m k (Jt hq)
  .exact k m
 refine .fU val (λX hC x h _=>?_) (λX hC x h z=>?_)
 .refine au λnO=>?_
  obtain⟨⟨fn,args,qO,p,rfl⟩,_⟩:=aG X hC x h
  exact nO<|cm (val X hC _ h false) λ_=>rfl
 .obtain⟨_,k⟩:=aG X hC x h
  rcases k with⟨hq,k⟩|⟨rfl,_⟩
  .exact k
  .exact ff z
def iQ(h:AR oe=true):attributeBase oe nm env (eval oe env)=eval oe env:=by
 cases oe<;>first|rfl|exact ff h
def A4(ho:bN G F o)(he:bN G F es):bN G F (.cK mm o es):=by
 have aG:∀X,Ct X G F->∀x,bh G (.cK mm o es) X.N X.env.scope x=true->(∃fn args qO p,x= .Call fn args qO p)/\∀m,PE X x (tV X.K m (ev F m (.cK mm o es))):=λX hC x h=>by
  refine K0 (eU (e:=x) h) λoe nm ap as p zr h=>aa (bV h) λa0 aM dj=>?_
  subst zr aM
  refine⟨⟨_,_,_,_,rfl⟩,?_⟩
  simp only[Zu,decide_eq_true_eq]at dj
  obtain⟨⟨⟨⟨P_,h3⟩,h4⟩,h5⟩,h6⟩:=dj
  have ns:=jj h6
  rw[acE,Zu]at ns
  subst P_
  cases mm with
  |index=>exact λm=>Eh (ho.e X hC oe h5 true) (he.es X hC _ h6 true) (iQ h3) h4 (bM ns.1)
  |jJ=>exact λm=>AL (ho.e X hC oe h5 true) (he.es X hC _ h6 true) (iQ h3) h4 (bM ns.1)
 refine .fU (λX hC x h m=>(aG X hC x h).2 m) (λX hC x h _=>?_) (λX hC x h z=>ff z)
 obtain⟨⟨fn,args,qO,p,rfl⟩,k⟩:=aG X hC x h
 exact cm (k false) λ_=>rfl
def EB(ha:bN G F a):bN G F (.yQ a b):=by
 have aG:∀X,Ct X G F->∀x,bh G (.yQ a b) X.N X.env.scope x=true->(∃fn args qO p,x= .Call fn args qO p)/\∀m,PE X x (tV X.K m (ev F m (.yQ a b))):=λX hC x h=>by
  refine nr (eS (e:=x) h) λn pn as p zr h=>dU (mB h) λa0 t aM h=>dU (cF h) λy py cO dj=>?_
  subst zr aM cO
  refine⟨⟨_,_,_,_,rfl⟩,?_⟩
  simp only[Zu,decide_eq_true_eq]at dj
  obtain⟨⟨⟨⟨⟨rfl,rfl⟩,h3⟩,h4⟩,h5⟩,h6⟩:=dj
  have hb:Str.ofString (x_ b)∈eV:=by cases b<;>simp[x_,eV]
  exact λm=>N0 (ha.e X hC a0 h5 false) (bP h3) (hC.mg _ (by simp[eV])) (bP h4) (hC.mg _ hb) (bM h6)
 refine .fU (λX hC x h m=>(aG X hC x h).2 m) (λX hC x h _=>?_) (λX hC x h z=>ff z)
 obtain⟨⟨fn,args,qO,p,rfl⟩,k⟩:=aG X hC x h
 exact cm (k false) λ_=>rfl
end
noncomputable def eW:List (List Int)->List V->List Int->Option V
 |k::ks,v::vs,x=>if k=x then some v else eW ks vs x
 |_,_,_=>none
theorem jZ[DecidableEq κ](f:List Int->κ):∀(ks:List (List Int)) (vs:List V) (x:List Int),(∀k∈ks,f k=f x->k=x)->jL ((ks.map f).zip vs) (f x)=eW ks vs x
 |[],vs,x,_=>by simp[eW,jL]
 |k::ks,[],x,_=>by simp[eW,jL]
 |k::ks,v::vs,x,h=>by
  rw[Z4,List.zip_cons_cons,eW]
  by_cases e:k=x
  .rw[ZM e,i5 (by rw[e])]
  .rw[ZW e,i6 (λz=>e (h k ZD z))]
   exact jZ f ks vs x λk hk=>h k (Zy _ hk)
theorem qx:∀{a b:List Int},a.map (Sum.inl:Int->cq)=b.map Sum.inl->a=b
 |[],[],_=>rfl
 |[],_::_,h=>by simp at h
 |_::_,[],h=>by simp at h
 |x::a,y::b,h=>by
  rw[Z4,Z4]at h
  injection h with h1 h2
  rw[aen h1,qx h2]
theorem oX{K:aC}:∀{x:List Int}{vs:List V},av K O H vs (x.map .int)->vs=x.map V.int
 |[],_,.nil =>rfl
 |i::x,_,.cons r t=>by rw[r.int_inv,oX t];rfl
theorem kz:∀{xs:List D}{p:List Int},aP xs=some p->xs=p.map .int
 |[],p,h=>by cases h;rfl
 |x::xs,p,h=>by
  cases x with
  |int i=>
   refine aa (map_some (show(aP xs).map (i:: ·)=some p from h)) λq h1 ah=>?_
   subst ah
   rw[kz h1]
   rfl
  |_=>cases h
section
variable {K:aC}{O:Addr->Prop}{H:Hp}{a:Addr}{t:Nat}{ks:List (List Int)}{vs:List V}{ds:List D}
def gJ{y:V}(r:aY K O H y dy)(hx:cv t dy=some x):(t=0/\(∃i,x=[i]/\y= .int i))\/(t≠0/\∃b,y= .ref b/\H b=some (.tup ((x.map Sum.inl).map kV))):=by
 cases dy with
 |int i=>
  simp only[cv]at hx
  split at hx
  .rename_i h0
   cases hx
   exact .inl ⟨h0,i,rfl,r.int_inv⟩
  .cases hx
 |tup xs=>
  simp only[cv]at hx
  split at hx
  .cases hx
  .rename_i h0
   have e:=kz hx
   subst e
   refine bu r.lj λb us ah h1 h2=>?_
   subst ah
   refine .inr ⟨h0,b,rfl,?_⟩
   rw[aaw]
   have:=oX h2
   rw[this]at h1
   exact h1
 |_=>cases hx
def qy(hd:Rd H a (fL t ks vs))(hk:mh t ks)(r:aY K O H y dy)(hx:cv t dy=some x):l9 H a y (eW ks vs x):=by
 rcases gJ r hx with⟨h0,i,rfl,rfl⟩|⟨h0,b,rfl,hb⟩
 .unfold fL at hd
  rw[ZM h0]at hd
  refine .inl ⟨_,Sum.inl i,hd,rfl,?_⟩
  have:=jZ (λk:List Int=>(Sum.inl (k.headD 0):cq)) ks vs [i] (λk hm e=>by
   obtain⟨j,rfl⟩:=hk.2 h0 k hm
   have:j=i:=aen e
   rw[this])
  exact this.symm
 .unfold fL at hd
  rw[ZW h0]at hd
  exact .inr ⟨_,x.map Sum.inl,b,hd,rfl,hb,(jZ (λk:List Int=>k.map (Sum.inl:Int->cq)) ks vs x λk _ e=>qx e).symm⟩
theorem jk:∀{ks:List (List Int)}{vs:List V}{ds:List D}{x:List Int},ks.length=vs.length->av K O H vs ds->(∀d,find ks ds x=some d->∃v,eW ks vs x=some v/\aY K O H v d)/\(find ks ds x=none->eW ks vs x=none)/\((eW ks vs x).isSome =decide (x∈ks))
 |[],_,_,x,_,_=>⟨λ_ h=>by simp[find]at h,λ_=>by simp[eW],by simp[eW]⟩
 |k::ks,[],_,x,h,_=>by simp at h
 |k::ks,v::vs,_,x,h,.cons (d:=d) (ds:=ds) r rs=>by
  have ih:=jk (ks:=ks) (x:=x) (by simpa using h) rs
  by_cases e:k=x
  .simp only[find,eW,ZM e]
   exact⟨λd' hd=>(by cases hd;exact⟨v,rfl,r⟩),λz=>(by cases z),by simp[e]⟩
  .simp only[find,eW,ZW e]
   exact⟨ih.1,ih.2.1,by rw[ih.2.2];simp[aaH e]⟩
def EC:yY (some (fL t ks vs)):=by unfold fL;split<;>exact True.intro
theorem EX.bj(hx:EX K O σ H ρ)(h:eJ ρ i=some d):∃a vs,σ[i]?=some (some (.ref a))/\Rd H a (fL d.1 d.2.1 vs)/\d.2.1.length=vs.length/\mh d.1 d.2.1/\av K O H vs d.2.2:=by
 unfold eJ at h
 split at h
 .rename_i o t ks ds e
  split at h
  .cases h
  rename_i ht
  cases h
  refine aa (hx.iX i o _ e) λv h1 h2=>?_
  cases o with
  |true=>
   refine bB h2 λa e1 _ c=>CM (c.bj ht) λvs c1 c2 c3 c4=>?_
   subst e1
   exact⟨a,vs,h1,.inl c1,c2,c3,c4⟩
  |false=>
   have S1:aY K O H v (.bj t ks ds):=h2
   cases S1 with
   |bj g1 g2 g3 g4=>exact⟨_,_,h1,.inr ⟨_,g1⟩,g2,g3,g4⟩
 .cases h
end
def bQ(h:cZ N sc i e=true):∃x p,e= .Name x p/\N[i]?=some x/\uU sc x/\(x==("__debug__":Str))=false/\(x==("__classdict__":Str))=false:=by
 refine au λnO=>?_
 cases e with
 |Name x p=>
  refine nO ?_
  unfold cZ at h
  simp only[Zu,decide_eq_true_eq]at h
  exact⟨x,p,rfl,h.1.1,mD h.1.2,(bW h.2).1,(bW h.2).2⟩
 |_=>cases h
section
variable {X:Cx}{a b c e k:Expr}{pos p px:Pos}{m:Bool}{i:Nat}{x:Str}{f:Env->Option D}
def Jv(hu:X.A.units+64<cLine)(ho:PE X a (cP i))(hk:PE X k (tV X.K false f))(hs:DB k):PE X (.Subscript a k pos) (tV X.K m λρ=>(eJ ρ i).bind λd=>((f ρ).bind (cv d.1)).bind λx=>find d.2.1 d.2.2 x):=
 (DE (pH hu (by decide)) ho hk hs).weak λσ H Q zz=>by
  refine b6 zz λO ρ d hx hd q=>aa (bind_some hd) λdd e1 hd=>aa (bind_some hd) λxx e2 hd=>aa (bind_some e2) λdy e3 e4=>iE (hx.bj e1) λa vs g1 g2 g3 g4 g5=>⟨.ref a,g1,O,ρ,dy,hx,e3,λv H1 s1 r1=>?_⟩
  refine aa ((jk (x:=xx) g3 (g5.mono s1)).1 d hd) λv' h1 h2=>?_
  have hg:=qy (jc s1 g2) g4 r1.own e4
  rw[h1]at hg
  exact⟨a,v',rfl,hg,q v' H1 s1 (.inl h2)⟩
def N_(hu:X.A.units+64<cLine)(ho:PE X a (cP i))(hk:PE X k (tV X.K false f))(he:PE X e (tV X.K false g))(m2:M2 X a "get" ap k e cp):
  PE X (.Call (.Attribute a "get" ap) [k,e] [] cp) (tV X.K m λρ=>(eJ ρ i).bind λd=>(f ρ).bind λz=>(g ρ).bind λy=>(cv d.1 z).map λx=>(find d.2.1 d.2.2 x).getD y):=
 (z9 (pH hu (by decide)) ho hk he m2).weak λσ H Q zz=>by
  refine b6 zz λO ρ d hx hd q=>aa (bind_some hd) λdd e1 hd=>aa (bind_some hd) λdz e2 hd=>aa (bind_some hd) λdy e3 hd=>aa (map_some hd) λxx e4 hd=>iE (hx.bj e1) λa vs g1 g2 g3 g4 g5=>?_
  have Xy:R1 H a:=by
   unfold fL at g2
   split at g2
   .exact .inl ⟨_,g2⟩
   .exact .inr ⟨_,g2⟩
  refine⟨.ref a,g1,a,rfl,Xy,O,ρ,dz,hx,e2,λv H1 s1 r1=>⟨O,ρ,dy,hx.mono s1,e3,λw H2 s2 r2=>?_⟩⟩
  have hg:=qy (jc (s1.trans s2) g2) g4 (r1.own.mono s2) e4
  have fr:=jk (x:=xx) g3 (g5.mono (s1.trans s2))
  subst hd
  cases hf:find dd.2.1 dd.2.2 xx with
  |some d'=>
   rw[hf]at q
   refine aa (fr.1 d' hf) λv' h1 h2=>?_
   rw[h1]at hg
   exact⟨_,hg,q v' H2 (s1.trans s2) (.inl h2)⟩
  |none=>
   rw[hf]at q
   rw[fr.2.1 hf]at hg
   exact⟨_,hg,q w H2 (s1.trans s2) (.inl r2.own)⟩
def Oa{neg:Bool}(hu:X.A.units+64<cLine)(hk:PE X k (tV X.K false f))(ho:PE X a (cP i)):PC X (if neg then .NotIn else .In) k a (tV X.K m λρ=>((f ρ).bind λy=>(eJ ρ i).bind λd=>(cv d.1 y).map λx=> .bl (if neg then !decide (x∈d.2.1) else decide (x∈d.2.1)))):=by
 have key:∀σ H (Q:VK),tV X.K m (λρ=>((f ρ).bind λy=>(eJ ρ i).bind λd=>(cv d.1 y).map λx=>D.bl (if neg then !decide (x∈d.2.1) else decide (x∈d.2.1)))) σ H Q->
   tV X.K false f σ H λy H1=>cP i σ H1 λx H2=>∃a o,x= .ref a/\l9 H2 a y o/\Q (.bl (if neg then !o.isSome else o.isSome)) H2:=λσ H Q zz=>by
  refine au λnO=>b6 zz λO ρ d hx hd q=>aa (bind_some hd) λdy e1 hd=>aa (bind_some hd) λdd e2 hd=>aa (map_some hd) λxx e3 ah=>?_
  subst ah
  refine nO ?_
  refine⟨O,ρ,dy,hx,e1,λv H1 s1 r1=>?_⟩
  refine au λnO=>iE ((hx.mono s1).bj e2) λa vs g1 g2 g3 g4 g5=>nO ?_
  refine⟨.ref a,g1,a,_,rfl,qy g2 g4 r1.own e3,?_⟩
  rw[(jk (x:=xx) g3 g5).2.2]
  exact q _ H1 s1 (.inl (.bl _))
 cases neg with
 |true=>exact λU s σ H Q I q=>xQ (pH hu (by decide)) hk ho U s σ H Q I (key σ H Q q)
 |false=>exact λU s σ H Q I q=>II (pH hu (by decide)) hk ho U s σ H Q I (key σ H Q q)
theorem insI_perm(x:Int):∀l,(insI x l).Perm (x::l)
 |[]=> .refl _
 |y::r=>by
  unfold insI
  split
  .exact .refl _
  .exact((insI_perm x r).cons y).trans (.swap x y r)
theorem sortI_perm:∀l,(sortI l).Perm l
 |[]=> .refl _
 |x::r=>(insI_perm x (sortI r)).trans ((sortI_perm r).cons x)
theorem vW(x:Int):∀l:List Int,l.Pairwise (· <= ·)->(insI x l).Pairwise (· <= ·)
 |[],_=>acZ _ _
 |y::r,h=>by
  unfold insI
  rw[abd]at h
  split
  .rename_i yV
   refine abd.mpr ⟨λz hz=>?_,abd.mpr h⟩
   rcases ZK.mp hz with e|hz
   .rw[e];exact yV
   .exact acS yV (h.1 z hz)
  .rename_i yV
   refine abd.mpr ⟨λz hz=>?_,vW x r h.2⟩
   rcases ZK.mp ((insI_perm x r).mem_iff.mp hz)with e|hz
   .rw[e];exact acQ (abN yV)
   .exact h.1 z hz
theorem mG:∀l:List Int,(sortI l).Pairwise (· <= ·)
 |[]=> .nil
 |x::r=>vW x _ (mG r)
def A5{l m:List Int}(hp:l.Perm m)(hs:l.Pairwise (· <= ·)):l=sortI m:=
 (hp.trans (sortI_perm m).symm).eq_of_pairwise (λa b _ _ h1 h2=>Int.le_antisymm h1 h2) hs (mG m)
def ED(hc:X.calm=true)(ho:PE X a (cP i))(hg:Gl X "sorted")(hm:X.mg "sorted"=none)(hs:starEach [a] X.env=(false,eval a X.env)::starEach [] X.env):PE X (.Call (.Name "sorted" p) [a] [] pos) (tV X.K m λρ=>(eJ ρ i).bind λd=>if d.1=0 then(if d.2.1.length<64 then some (.lst ((sortI (d.2.1.map λk=>k.headD 0)).map .int)) else none)
   else if []∈d.2.1 then none else some (.lst ((dw.c8 d.2.1).map zO))):=
 (eF ((qp hc).or (ql hc)) hg hm boot_sorted (aZ ho cf hs) (by decide) (by decide) hs rfl).weak λσ H Q zz=>by
  refine b6 zz λO ρ d hx hd q=>aa (bind_some hd) λdd e1 hd=>iE (hx.bj e1) λb vs g1 g2 g3 g4 g5=>⟨.ref b,g1,?_⟩
  unfold fL at g2
  by_cases h0:dd.1=0
  .rw[ZM h0]at hd g2
   split at hd
   .rename_i Gw
    cases hd
    refine .inl ⟨b,_,dd.2.1.map λk=>k.headD 0,rfl,g2,?_,by rw[ZA];exact Gw,λuy p1 p2 l hl=>?_⟩
    .rw[List.map_fst_zip (by rw[ZA];exact ZF g3),aaw]
     rfl
    .rw[A5 p1 p2]
     exact q _ _ (ag.upd hl) (.inl (.lst (.inl ai) (hx.free (ag.refl _) hl) (eO _)))
   .cases hd
  .rw[ZW h0]at hd g2
   split at hd
   .cases hd
   .rename_i fy
    cases hd
    refine .inr ⟨b,_,dd.2.1,rfl,g2,?_,λk hk e=>fy (e▸hk),λl us hl pw=>q _ _ (ag.upd hl) (.inl (.lst (.inl ai) (hx.free (ag.refl _) hl) ((AG pw).mono (ag.upd hl))))⟩
    rw[List.map_fst_zip (by rw[ZA];exact ZF g3)]
end
section
variable {G:GT}{F:FT}
def EE(h:bZ e=true):DB e:=by
 intro o i
 cases e<;>first|rfl|exact absurd h Zz
def A6(hk:bN G F k):bN G F (.fq i k):=by
 have aG:∀X,Ct X G F->∀x,bh G (.fq i k) X.N X.env.scope x=true->(∃v s p,x= .Subscript v s p)/\∀m,PE X x (tV X.K m (ev F m (.fq i k))):=λX hC x h=>by
  cases x with
  |Subscript v s p=>
   change (cZ X.N X.env.scope i v&&bh G k X.N X.env.scope s&&bZ s)=true at h
   simp only[Zu]at h
   refine iE (bQ h.1.1) λx q ah n1 n2 n3 n4=>?_
   subst ah
   exact⟨⟨_,_,_,rfl⟩,λm=>Jv hC.units (bG n1 n2 n3 n4) (hk.e X hC s h.1.2 false) (EE h.2)⟩
  |_=>exact ff h
 refine .fU (λX hC x h m=>(aG X hC x h).2 m) (λX hC x h _=>?_) (λX hC x h z=>ff z)
 obtain⟨⟨v,s,p,rfl⟩,q⟩:=aG X hC x h
 exact cm (q false) λ_=>rfl
def EF(hk:bN G F k)(he:bN G F e):bN G F (.CG i k e):=by
 have aG:∀X,Ct X G F->∀x,bh G (.CG i k e) X.N X.env.scope x=true->(∃fn args qO p,x= .Call fn args qO p)/\∀m,PE X x (tV X.K m (ev F m (.CG i k e))):=λX hC x h=>by
  refine K0 (eU (e:=x) h) λoe nm ap as p zr h=>dU (mB h) λa0 a1 aM hz=>?_
  subst zr aM
  refine⟨⟨_,_,_,_,rfl⟩,?_⟩
  simp only[Zu,decide_eq_true_eq]at hz
  obtain⟨⟨⟨⟨⟨⟨rfl,h1⟩,h2⟩,h3⟩,h4⟩,h5⟩,h6⟩:=hz
  refine iE (bQ h1) λy q ah n1 n2 n3 n4=>?_
  subst ah
  have hs:starEach [a0,a1] X.env=[(false,eval a0 X.env),(false,eval a1 X.env)]:=by rw[bM h4,bM h6];rfl
  exact λm=>N_ hC.units (bG n1 n2 n3 n4) (hk.e X hC a0 h3 false) (he.e X hC a1 h5 false) ⟨rfl,by rw[hs];rfl,h2,by rw[hs];rfl⟩
 refine .fU (λX hC x h m=>(aG X hC x h).2 m) (λX hC x h _=>?_) (λX hC x h z=>ff z)
 obtain⟨⟨fn,args,qO,p,rfl⟩,k⟩:=aG X hC x h
 exact cm (k false) λ_=>rfl
def EG(hk:bN G F k):bN G F (.vj neg k i):=by
 have aG:∀X,Ct X G F->∀x,bh G (.vj neg k i) X.N X.env.scope x=true->∃l r p,x= .Compare l [if neg then .NotIn else .In] [r] p/\(∀m,PC X (if neg then .NotIn else .In) l r (tV X.K m (ev F m (.vj neg k i))))/\behindInMarks (if neg then .NotIn else .In) r=false:=λX hC x h=>by
  refine nr (vU (e:=x) h) λl op r p zr dj=>?_
  subst zr
  simp only[Zu,decide_eq_true_eq]at dj
  obtain⟨⟨rfl,h1⟩,h2⟩:=dj
  refine iE (bQ h2) λx q ah n1 n2 n3 n4=>?_
  subst ah
  exact⟨l,_,p,rfl,λm=>Oa hC.units (hk.e X hC l h1 false) (bG n1 n2 n3 n4),jY rfl⟩
 refine .fU (λX hC x h m=>?_) (λX hC x h _=>?_) (λX hC x h z=>ff z)
 .refine b6 (aG X hC x h) λl r p aM q1 q2=>?_
  subst aM
  exact Ho (q1 m) q2
 .refine b6 (aG X hC x h) λl r p cO q1 q2=>?_
  subst cO
  refine(Hq (q1 false) q2).weak λσ H Q zz=>b6 zz λO ρ kk hx hd q=>aa (bind_some hd) λd e1 e2=>?_
  cases eP e2
  exact⟨O,ρ,_,hx,e1,λv H1 s1 r1=>⟨kk,r1.bl,q H1 s1⟩⟩
def yf:bN G F (.ed i):=by
 have aG:∀X,Ct X G F->∀x,bh G (.ed i) X.N X.env.scope x=true->(∃fn args qO p,x= .Call fn args qO p)/\∀m,PE X x (tV X.K m (ev F m (.ed i))):=λX hC x h=>by
  obtain⟨y,py,a0,p,rfl,g⟩:=gh (e:=x) h
  replace h:=g
  refine⟨⟨_,_,_,_,rfl⟩,?_⟩
  simp only[Zu,decide_eq_true_eq]at h
  obtain⟨⟨rfl,h1⟩,h2⟩:=h
  refine iE (bQ h2) λx q ah n1 n2 n3 n4=>?_
  subst ah
  exact λm=>ED hC.calm (bG n1 n2 n3 n4) (bP h1) (hC.mg _ (by simp[eV])) (bM rfl)
 refine .fU (λX hC x h m=>(aG X hC x h).2 m) (λX hC x h _=>?_) (λX hC x h z=>ff z)
 obtain⟨⟨fn,args,qO,p,rfl⟩,q⟩:=aG X hC x h
 exact cm (q false) λ_=>rfl
def bN.S2(i:∀X,Ct X G F->∀tg x,El G e' X.N X.env.scope x=true->∀m,PI X tg x (tI X.K m (k7 F m e')))
  (n0:∀N sc x,bh G e' N sc x=false:=by intro _ _ _;rfl) (n1:∀N sc xs,c6 G e' N sc xs=false:=by intro _ _ _;rfl) (n2:∀N sc xs,mC G e' N sc xs=false:=by intro _ _ _;rfl) (n3:∀N sc xs,GD G e' N sc xs=false:=by intro _ _ _;rfl):bN G F e':=
 ⟨λX _ x h=>absurd h (by rw[n0];exact Zz),λX _ x h=>absurd h (by rw[n0];exact Zz),λX _ x h=>absurd h (by rw[n0];exact Zz),λX _ xs h=>absurd h (by rw[n1];exact Zz),λX _ xs h=>absurd h (by rw[n2];exact Zz),λX _ xs h=>absurd h (by rw[n3];exact Zz),i⟩
def Jw:bN G F (.dk i):= .S2 λX hC tg x h m=>by
 refine iE (bQ (show cZ X.N X.env.scope i x=true from h)) λy q ah n1 n2 n3 n4=>?_
 subst ah
 exact SU (bG n1 n2 n3 n4)
def Jx:bN G F (.dv i):= .S2 λX hC tg x h m=>by
 refine K0 (eU (e:=x) h) λoe nm ap as p zr dj=>?_
 subst zr
 simp only[Zu,decide_eq_true_eq,acN]at dj
 obtain⟨⟨⟨rfl,rfl⟩,h1⟩,h2⟩:=dj
 refine iE (bQ h1) λy q ah n1 n2 n3 n4=>?_
 subst ah
 exact SV (bG n1 n2 n3 n4) rfl h2
def EH(ha:bN G F a):bN G F (.Gj a):= .S2 λX hC tg x h m=>by
 obtain⟨y,py,a0,p,rfl,g⟩:=gh (e:=x) h
 replace h:=g
 simp only[Zu,decide_eq_true_eq]at h
 obtain⟨⟨⟨rfl,h1⟩,h2⟩,h3⟩:=h
 exact N3 (bP h1) (hC.mg _ (by simp[eV])) (ha.e X hC a0 h2 false) (bM h3)
def Jy(n0:∀N sc x,bh G e' N sc x=false:=by intro _ _ _;rfl)(n1:∀N sc xs,c6 G e' N sc xs=false:=by intro _ _ _;rfl)(n2:∀N sc xs,mC G e' N sc xs=false:=by intro _ _ _;rfl)(n3:∀N sc xs,GD G e' N sc xs=false:=by intro _ _ _;rfl)(n4:∀N sc xs,El G e' N sc xs=false:=by intro _ _ _;rfl):bN G F e':=
 .fU (λX hC x h=>absurd h (by rw[n0];exact Zz)) (λX hC x h=>absurd h (by rw[n0];exact Zz)) (λX hC x h=>absurd h (by rw[n0];exact Zz)) n1 n2 n3 n4
def EI(he:bN G F es):bN G F (.fj es) where
 e:=λX hC x h=>ff h
 t:=λX hC x h=>ff h
 f:=λX hC x h=>ff h
 es:=λX hC x h=>ff h
 ts:=λX hC x h=>ff h
 o:=λX hC x h=>ff h
 i:=λX hC tg x h m=>by
  refine nr (eS (e:=x) h) λn pn as p zr dj=>?_
  subst zr
  simp only[Zu,decide_eq_true_eq]at dj
  obtain⟨⟨⟨rfl,h1⟩,h2⟩,h3⟩:=dj
  exact N8 (bP h1) (hC.mg _ (by simp[eV])) (he.es X hC _ h3 false) (λρ ds hd=>qv h3 hd) h2 (jj h3)
def Jz(ha:bN G F a):bN G F (.it a) where
 e:=λX hC x h=>ff h
 t:=λX hC x h=>ff h
 f:=λX hC x h=>ff h
 es:=λX hC x h=>ff h
 ts:=λX hC x h=>ff h
 o:=λX hC x h=>ff h
 i:=λX hC tg x h m=>SS (ha.e X hC x h m)
def mH(hC:Ct X G F)(hi:bN G F it)(hf:bN G F ifs)(he:bN G F d_)(h4:yb X.N X.env.scope gI [n] fr=true)(h5:El G it X.N X.env.scope iter=true)
  (h6:mC G ifs (nP X.N [n] fr) (ky gI X.env.scope) fs=true) (h7:bh G d_ (nP X.N [n] fr) (ky gI X.env.scope) el=true):
  ∀cl C U s H ex,PG (gP X gI cl C (nP X.N [n] fr) U s H ex) (.Name n q) (cb 0)/\xD (gP X gI cl C (nP X.N [n] fr) U s H ex) fs (tB X.K (jB F true ifs))/\PE (gP X gI cl C (nP X.N [n] fr) U s H ex) el (tV X.K false (ev F false d_)):=λcl C U s H ex=>by
 refine cy (qu h4) λS Nv nd=>have hl:=Nv _ ZD;?_
 have Lk:=hC.inner gI cl C (nP X.N [n] fr) U s H ex
 exact⟨kZ nd rfl (qt hl).1 (qt hl).2,(hf.ts _ Lk fs h6).1,he.e _ Lk el h7 false⟩
def oY(h:bh G (.comp fr tg it ifs d_) N sc x=true):∃el n q iter fs gI p,x= .ListComp el [⟨.Name n q,iter,fs,0⟩] gI p/\tg=0/\fC iter=true/\yb N sc gI [n] fr=true/\El G it N sc iter=true/\mC G ifs (nP N [n] fr) (ky gI sc) fs=true/\bh G d_ (nP N [n] fr) (ky gI sc) el=true:=by
 refine nr (vT (e:=x) h) λel gs gI p zr h=>aa (bV h) λg aM dj=>?_
 obtain⟨qQ,iter,fs,kk⟩:=g
 refine dU (cF dj) λn q cO Ll=>?_
 change qQ=_ at cO
 subst zr aM cO
 simp only[Zu,decide_eq_true_eq]at Ll
 obtain⟨⟨⟨⟨⟨⟨rfl,rfl⟩,h3⟩,h4⟩,h5⟩,h6⟩,h7⟩:=Ll
 exact⟨el,n,q,iter,fs,gI,p,rfl,rfl,h3,h4,h5,h6,h7⟩
def vX(ρ:Env):ev F false (.comp fr 0 it ifs d_) ρ=((k7 F true it ρ).bind λxs=>if xs.length<=bR then walk (oK 0 (jB F true ifs) (ev F false d_) fr ρ) xs else none).map .lst :=by
 show(k7 F true it ρ).bind _=_
 cases k7 F true it ρ with
 |none=>rfl
 |some xs=>
  show(if xs.length<=bR then _ else _)=Option.map _ (if xs.length<=bR then _ else _)
  by_cases h:xs.length<=bR
  .rw[ZM h,ZM h]
   rfl
  .rw[ZW h,ZW h]
   rfl
def A7{g:Option (List D)}(h:e=g.map D.lst):e.bind h_=g:=by rw[h];cases g<;>rfl
def vY{K:aC}{it ifs d_:E}(σ:St)(H:Hp)(Q:VK)(h:tF K (λρ=>(ev F false (.comp fr 0 it ifs d_) ρ).bind h_) σ H Q):
  tF K (λρ=>(k7 F true it ρ).bind λxs=>if xs.length<=bR then walk (oK 0 (jB F true ifs) (ev F false d_) fr ρ) xs else none) σ H Q:=by
 rwa [AY λρ=>A7 (vX ρ)]at h
def A8(hi:bN G F it)(hf:bN G F ifs)(he:bN G F d_):bN G F (.comp fr tg it ifs d_):=by
 have aG:∀X,Ct X G F->∀x,bh G (.comp fr tg it ifs d_) X.N X.env.scope x=true->(∃el gs s p,x= .ListComp el gs s p)/\tg=0/\PE X x (tF X.K λρ=>(ev F false (.comp fr tg it ifs d_) ρ).bind h_):=λX hC x h=>by
  refine UC (oY h) λel n q iter fs gI p ah aM h3 h4 h5 h6 h7=>?_
  subst ah
  subst aM
  exact⟨⟨_,_,_,_,rfl⟩,rfl,(Jq (hi.i X hC _ iter h5 true) (qu h4).1 hC.calm (mH hC hi hf he h4 h5 h6 h7) (dC h3)).weak λσ H Q z=>vY σ H Q z⟩
 have Jt:tg=0->∀ρ d,ev F false (.comp fr tg it ifs d_) ρ=some d->∃ds,d= .lst ds:=λht ρ d hd=>by
  subst ht
  rw[vX]at hd
  refine aa (map_some hd) λxs h1 cO=>?_
  subst cO
  exact⟨_,rfl⟩
 refine .fU (λX hC x h m=>?_) (λX hC x h _=>?_) (λX hC x h z=>?_)
 .exact cy (aG X hC x h) λ_ hq k=>mF m k (Jt hq)
 .obtain⟨⟨el,gs,s,p,rfl⟩,hq,k⟩:=aG X hC x h
  exact cm (mF false k (Jt hq)) λ_=>rfl
 .exact(aG X hC x h).2.2
def snd(e':E):bN G F e':=by
 induction e' with
 |nil=>exact En
 |cons a r ha hr=>exact A1 ha hr
 |var i=>exact Eo
 |c d=>exact N9
 |bin o a b ha hb=>exact Ep ha hb
 |cmp o a b ha hb=>exact Er ha hb
 |tup es he=>exact Ex he
 |lst es he=>exact Ey he
 |idx a i ha hi=>exact Ez ha hi
 |sl a lo hi ha hl hh=>exact Ju ha hl hh
 |call f es he=>exact A2 he
 |prim q es he=>exact A3 he
 |nA q es he=>exact EA he
 |comp fr tg it ifs d_ hi hf he=>exact A8 hi hf he
 |fj es he=>exact EI he
 |it a ha=>exact Jz ha
 |cK mm o es ho he=>exact A4 ho he
 |xG a _=>exact Jy
 |fq i k hk=>exact A6 hk
 |vj neg k i hk=>exact EG hk
 |ed i=>exact yf
 |dk i=>exact Jw
 |dv i=>exact Jx
 |Gj a ha=>exact EH ha
 |om k es he=>exact Ew he
 |not a ha=>exact Eu ha
 |yQ a b ha=>exact EB ha
 |chain o o' a b c ha hb hc=>exact ye ha hb hc
 |rev a ha=>exact Es ha
 |CG i k e hk he=>exact EF hk he
 |neg a ha=>exact Et ha
end
def Os(ae:Addr->Prop)(ow:Nat->Option Addr):Addr->Prop:=λa=>ae a\/∃i,ow i=some a
noncomputable def oZ(ow:Nat->Option Addr)(i:Nat)(o:Option Addr):Nat->Option Addr:=λj=>if j=i then o else ow j
def aH:oZ ow i o i=o:=ZM rfl
def aN(h:¬j=i):oZ ow i o j=ow j:=ZW h
structure SX(K:aC)(H₀:Hp)(ae Z:Addr->Prop)(kv:List V)(kd:List D)(ow:Nat->Option Addr)(σ:St)(H:Hp)(ρ:Env):Prop where
 ex:EX K (Os ae ow) σ H ρ
 own:∀(i:Nat) (d:D),ρ[i]?=some (some (true,d))->∃a,σ[i]?=some (some (.ref a))/\((lV d=false/\ow i=some a)\/(lV d=true/\Z a/\ae a))
 inj:∀i j a,ow i=some a->ow j=some a->i=j
 new:∀i a,ow i=some a->H₀ a=none
 same:ag H₀ H
 kp:av K (Os ae ow) H kv kd
 o0:∀a,ae a->∃o,H₀ a=some o
 len:ρ.length=σ.length
section
variable {K:aC}{H₀:Hp}{ae Z:Addr->Prop}{kv:List V}{kd:List D}{ow:Nat->Option Addr}{σ:St}{H H1:Hp}{ρ:Env}
theorem SX.mono(h:SX K H₀ ae Z kv kd ow σ H ρ)(s:ag H H1):SX K H₀ ae Z kv kd ow σ H1 ρ:=⟨h.ex.mono s,h.own,h.inj,h.new,h.same.trans s,h.kp.mono s,h.o0,h.len⟩
theorem SX.put(h:SX K H₀ ae Z kv kd ow σ H ρ)(r:aY K (Os ae ow) H v d)(i:Nat):SX K H₀ ae Z kv kd (oZ ow i none) (σ.set i (some v)) H (Py.put ρ i false d):=by
 have sub:∀a,Os ae (oZ ow i none) a->Os ae ow a:=λa z=>by
  rcases z with z|⟨j,z⟩
  .exact .inl z
  .by_cases hj:j=i
   .rw[hj,aH]at z;cases z
   .rw[aN hj]at z;exact .inr ⟨j,z⟩
 refine⟨⟨λa ha=>h.ex.live a (sub a ha),λj o d' hj=>?_⟩,λj d' hj=>?_,λj k a hj hk=>?_,λj a hj=>?_,h.same,h.kp.weak sub,h.o0,by unfold Py.put;rw[aat,aat];exact h.len⟩
 .by_cases ej:j=i
  .subst ej
   unfold Py.put at hj
   by_cases hl:j<ρ.length
   .rw[Z2 hl]at hj
    cases hj
    exact⟨v,Z2 (by rw[<-h.len];exact hl),r.weak sub⟩
   .rw[Z6 (by rw[aat];exact Z0 hl)]at hj;cases hj
  .unfold Py.put at hj
   rw[Z1 (aaH ej)]at hj
   refine aa (h.ex.iX j o d' hj) λw h1 h2=>⟨w,by rw[Z1 (aaH ej)];exact h1,?_⟩
   cases o with
   |true=>
    refine au λnO=>bB h2 λa e1 e2 c=>aa (h.own j d' hj) λa' o2 o1=>?_
    rw[h1]at o2
    cases o2
    cases e1
    exact nO<|⟨a,rfl,o1.elim (λo1=> .inr ⟨j,by rw[aN ej];exact o1.2⟩) (λo1=> .inl o1.2.2),c.weak sub⟩
   |false=>exact aY.weak h2 sub
 .by_cases ej:j=i
  .subst ej
   unfold Py.put at hj
   by_cases hl:j<ρ.length
   .rw[Z2 hl]at hj;cases hj
   .rw[Z6 (by rw[aat];exact Z0 hl)]at hj;cases hj
  .unfold Py.put at hj
   rw[Z1 (aaH ej)]at hj
   exact aa (h.own j d' hj) λa o2 o1=>⟨a,by rw[Z1 (aaH ej)];exact o2,o1.imp (λo1=>⟨o1.1,by rw[aN ej];exact o1.2⟩) id⟩
 .by_cases h1:j=i
  .rw[h1,aH]at hj;cases hj
  .by_cases h2:k=i
   .rw[h2,aH]at hk;cases hk
   .rw[aN h1]at hj;rw[aN h2]at hk;exact h.inj j k a hj hk
 .by_cases h1:j=i
  .rw[h1,aH]at hj;cases hj
  .rw[aN h1]at hj;exact h.new j a hj
def A9:∀a,Os ae (oZ ow i (some p)) a->Os ae ow a\/a=p:=λa z=>by
 rcases z with z|⟨j,z⟩
 .exact .inl (.inl z)
 .by_cases hj:j=i
  .rw[hj,aH]at z;cases z;exact .inr rfl
  .rw[aN hj]at z;exact .inl (.inr ⟨j,z⟩)
def mI(hp:H1 p=none)(r:av K (Os ae ow) H1 vs ds):av K (Os ae (oZ ow i (some p))) (L2.upd H1 p u) vs ds:=((r.own hp).mono (ag.upd hp)).weak A9
def SX.Ob(h:SX K H₀ ae Z kv kd ow σ H ρ)(s:ag H H1)(hp:H1 p=none)(hu:qP u)(i:Nat)(hi:i<ρ.length)(P':lV d0=false)(c:dZ K (Os ae (oZ ow i (some p))) (L2.upd H1 p u) p d0):
  SX K H₀ ae Z kv kd (oZ ow i (some p)) (σ.set i (some (.ref p))) (L2.upd H1 p u) (Py.put ρ i true d0):=by
 have h1:=h.mono s
 have JA:H₀ p=none:=by
  cases z:H₀ p with
  |none=>rfl
  |some o=>rw[h1.same _ _ z]at hp;cases hp
 have sub:∀a,Os ae (oZ ow i (some p)) a->(λa=>Os ae ow a\/a=p) a:=λa z=>by
  rcases z with z|⟨j,z⟩
  .exact .inl (.inl z)
  .by_cases hj:j=i
   .rw[hj,aH]at z;cases z;exact .inr rfl
   .rw[aN hj]at z;exact .inl (.inr ⟨j,z⟩)
 have up:ag H1 (L2.upd H1 p u):=ag.upd hp
 have mv:∀{v d},aY K (Os ae ow) H1 v d->aY K (Os ae (oZ ow i (some p))) (L2.upd H1 p u) v d:=λq=>((q.own hp).mono up).weak sub
 have Xz:∀{v d},av K (Os ae ow) H1 v d->av K (Os ae (oZ ow i (some p))) (L2.upd H1 p u) v d:=λq=>((q.own hp).mono up).weak sub
 have Vr:∀j,ow j≠some p:=λj z=>by
  refine aa (h1.ex.live p (.inr ⟨j,z⟩)) λus q _=>?_
  rw[q]at hp;cases hp
 refine⟨⟨λa ha=>?_,λj o d' hj=>?_⟩,λj d' hj=>?_,λj k a hj hk=>?_,λj a hj=>?_,h1.same.trans up,Xz h1.kp,h.o0,by unfold Py.put;rw[aat,aat];exact h.len⟩
 .rcases sub a ha with z|z
  .exact aa (h1.ex.live a z) λus q qo=>⟨us,up _ _ q,qo⟩
  .subst z;exact⟨u,ai,hu⟩
 .by_cases ej:j=i
  .subst ej
   unfold Py.put at hj
   rw[Z2 hi]at hj
   cases hj
   exact⟨.ref p,Z2 (by rw[<-h.len];exact hi),p,rfl,.inr ⟨j,aH⟩,c⟩
  .unfold Py.put at hj
   rw[Z1 (aaH ej)]at hj
   refine aa (h1.ex.iX j o d' hj) λw q1 q2=>⟨w,by rw[Z1 (aaH ej)];exact q1,?_⟩
   cases o with
   |true=>
    refine au λnO=>bB q2 λa e1 e2 c'=>aa (h.own j d' hj) λa' o2 o1=>?_
    rw[q1]at o2
    cases o2
    cases e1
    exact nO<|⟨a,rfl,o1.elim (λo1=> .inr ⟨j,by rw[aN ej];exact o1.2⟩) (λo1=> .inl o1.2.2),((c'.own hp).mono up).weak sub⟩
   |false=>exact mv q2
 .by_cases ej:j=i
  .subst ej
   unfold Py.put at hj
   rw[Z2 hi]at hj
   cases hj
   exact⟨p,Z2 (by rw[<-h.len];exact hi),.inl ⟨P',aH⟩⟩
  .unfold Py.put at hj
   rw[Z1 (aaH ej)]at hj
   exact aa (h.own j d' hj) λa o2 o1=>⟨a,by rw[Z1 (aaH ej)];exact o2,o1.imp (λo1=>⟨o1.1,by rw[aN ej];exact o1.2⟩) id⟩
 .by_cases q1:j=i
  .rw[q1,aH]at hj
   cases hj
   by_cases q2:k=i
   .rw[q1,q2]
   .rw[aN q2]at hk;exact absurd hk (Vr k)
  .rw[aN q1]at hj
   by_cases q2:k=i
   .rw[q2,aH]at hk
    cases hk
    exact absurd hj (Vr j)
   .rw[aN q2]at hk;exact h.inj j k a hj hk
 .by_cases q1:j=i
  .rw[q1,aH]at hj;cases hj;exact JA
  .rw[aN q1]at hj;exact h.new j a hj
def SX.HQ(h:SX K H₀ ae Z kv kd ow σ H ρ)(s:ag H H1)(hp:H1 p=none)(r:av K (Os ae ow) H1 vs ds)(i:Nat)(hi:i<ρ.length):
  SX K H₀ ae Z kv kd (oZ ow i (some p)) (σ.set i (some (.ref p))) (L2.upd H1 p (.lst vs)) (Py.put ρ i true (.lst ds)):=h.Ob (u:= .lst vs) s hp trivial i hi rfl (.inl ⟨vs,ds,rfl,ai,mI hp r⟩)
def SX.Vs(h:SX K H₀ ae Z kv kd ow σ H ρ)(ha:ow i=some a)(hs:σ[i]?=some (some (.ref a)))(hH:H a=some u)(hu:qP u)(EJ:qP u')(hz:lV d0=false)(c:dZ K (Os ae ow) (L2.upd H a u') a d0):
  SX K H₀ ae Z kv kd ow σ (L2.upd H a u') (Py.put ρ i true d0):=by
 have oa:Os ae ow a:= .inr ⟨i,ha⟩
 have sm:ag H₀ (L2.upd H a u'):=λb o e=>by
  have hb:b≠a:=λz=>by rw[z,h.new i a ha]at e;cases e
  rw[aq hb];exact h.same _ _ e
 refine⟨⟨λb hb=>?_,λj o d' hj=>?_⟩,λj d' hj=>?_,h.inj,h.new,sm,h.kp.upd oa hH hu,h.o0,by unfold Py.put;rw[aat];exact h.len⟩
 .by_cases oG:b=a
  .subst oG;exact⟨u',ai,EJ⟩
  .exact aa (h.ex.live b hb) λus q qo=>⟨us,by rw[aq oG];exact q,qo⟩
 .by_cases ej:j=i
  .subst ej
   unfold Py.put at hj
   by_cases hl:j<ρ.length
   .rw[Z2 hl]at hj
    cases hj
    exact⟨.ref a,hs,a,rfl,oa,c⟩
   .rw[Z6 (by rw[aat];exact Z0 hl)]at hj;cases hj
  .unfold Py.put at hj
   rw[Z1 (aaH ej)]at hj
   refine aa (h.ex.iX j o d' hj) λw q1 q2=>⟨w,q1,?_⟩
   cases o with
   |true=>
    refine au λnO=>bB q2 λb e1 e2 c'=>aa (h.own j d' hj) λb' o2 o1=>?_
    rw[q1]at o2
    cases o2
    cases e1
    refine nO ?_
    have oG:b≠a:=λz=>by
     rcases o1 with o1|o1
     .exact ej (h.inj j i b o1.2 (by rw[z];exact ha))
     .obtain⟨w,hw⟩:=h.o0 b o1.2.2
      rw[z,h.new i a ha]at hw
      cases hw
    exact⟨b,rfl,e2,c'.upd oG oa hH hu⟩
   |false=>exact aY.upd q2 oa hH hu
 .by_cases ej:j=i
  .subst ej
   unfold Py.put at hj
   by_cases hl:j<ρ.length
   .rw[Z2 hl]at hj
    cases hj
    exact⟨a,hs,.inl ⟨hz,ha⟩⟩
   .rw[Z6 (by rw[aat];exact Z0 hl)]at hj;cases hj
  .unfold Py.put at hj
   rw[Z1 (aaH ej)]at hj
   exact h.own j d' hj
def SX.wr(h:SX K H₀ ae Z kv kd ow σ H ρ)(ha:ow i=some a)(hs:σ[i]?=some (some (.ref a)))(hH:H a=some (.lst vs))(r:av K (Os ae ow) H CK NJ):
  SX K H₀ ae Z kv kd ow σ (L2.upd H a (.lst CK)) (Py.put ρ i true (.lst NJ)):=h.Vs (u':= .lst CK) ha hs hH trivial trivial rfl (.inl ⟨CK,NJ,rfl,ai,r.upd (.inr ⟨i,ha⟩) hH trivial⟩)
def SX.freeze(h:SX K H₀ ae Z kv kd ow σ H ρ)(hd:ρ[i]?=some (some (true,.lst ds))):SX K H₀ ae Z kv kd (oZ ow i none) σ H (ρ.set i (some (false,.lst ds))):=by
 refine au λnO=>aa (h.own i _ hd) λa o2 o1=>?_
 have o1:ow i=some a:=o1.elim (λz=>z.2) λz=>nomatch z.1
 refine aa (h.ex.iX i true _ hd) λw q1 q2=>bB q2 λa' e1 e3 c=>aa c.lst λvs e4 e5=>?_
 rw[q1]at o2
 cases o2
 cases e1
 refine nO ?_
 have e6:¬Os ae (oZ ow i none) a:=λz=>by
  rcases z with z|⟨j,z⟩
  .obtain⟨o,q⟩:=h.o0 a z
   rw[h.new i a o1]at q;cases q
  .by_cases hj:j=i
   .rw[hj,aH]at z;cases z
   .rw[aN hj]at z;exact hj (h.inj j i a z o1)
 have Zf:σ=σ.set i (some (.ref a)):=by
  apply abx
  intro j
  by_cases hj:i=j
  .subst hj
   have hl:i<σ.length:=(ZL.mp q1).1
   rw[Z2 hl,q1]
  .rw[Z1 hj]
 have sub:∀b,Os ae (oZ ow i none) b->Os ae ow b:=λb z=>by
  rcases z with z|⟨j,z⟩
  .exact .inl z
  .by_cases hj:j=i
   .rw[hj,aH]at z;cases z
   .rw[aN hj]at z;exact .inr ⟨j,z⟩
 have r:aY K (Os ae (oZ ow i none)) H (.ref a) (.lst ds):= .lst (.inl e4) e6 (e5.weak sub)
 refine⟨⟨λb hb=>h.ex.live b (sub b hb),λj o d' hj=>?_⟩,λj d' hj=>?_,λj k b hj hk=>?_,λj b hj=>?_,h.same,h.kp.weak sub,h.o0,by rw[aat];exact h.len⟩
 .by_cases ej:j=i
  .subst ej
   have hl:j<ρ.length:=(ZL.mp hd).1
   rw[Z2 hl]at hj
   cases hj
   exact⟨.ref a,q1,r⟩
  .rw[Z1 (aaH ej)]at hj
   refine aa (h.ex.iX j o d' hj) λw p1 p2=>⟨w,p1,?_⟩
   cases o with
   |true=>
    refine au λnO=>bB p2 λb f1 f2 c'=>aa (h.own j d' hj) λb' g2 g1=>?_
    rw[p1]at g2
    cases g2
    cases f1
    exact nO<|⟨b,rfl,g1.elim (λg1=> .inr ⟨j,by rw[aN ej];exact g1.2⟩) (λg1=> .inl g1.2.2),c'.weak sub⟩
   |false=>exact aY.weak p2 sub
 .by_cases ej:j=i
  .subst ej
   have hl:j<ρ.length:=(ZL.mp hd).1
   rw[Z2 hl]at hj
   cases hj
  .rw[Z1 (aaH ej)]at hj
   exact aa (h.own j d' hj) λb g2 g1=>⟨b,g2,g1.imp (λg1=>⟨g1.1,by rw[aN ej];exact g1.2⟩) id⟩
 .by_cases h1:j=i
  .rw[h1,aH]at hj;cases hj
  .by_cases h2:k=i
   .rw[h2,aH]at hk;cases hk
   .rw[aN h1]at hj;rw[aN h2]at hk;exact h.inj j k b hj hk
 .by_cases h1:j=i
  .rw[h1,aH]at hj;cases hj
  .rw[aN h1]at hj;exact h.new j b hj
def SX.keep(h:SX K H₀ ae Z kv kd ow σ H ρ)(r:aY K (Os ae ow) H v d):SX K H₀ ae Z (v::kv) (d::kd) ow σ H ρ:=⟨h.ex,h.own,h.inj,h.new,h.same,.cons r h.kp,h.o0,h.len⟩
def SX.drop(h:SX K H₀ ae Z (v::kv) (d::kd) ow σ H ρ):SX K H₀ ae Z kv kd ow σ H ρ:=⟨h.ex,h.own,h.inj,h.new,h.same,by cases h.kp with|cons _ t=>exact t,h.o0,h.len⟩
def SX.kept(h:SX K H₀ ae Z (v::kv) (d::kd) ow σ H ρ):aY K (Os ae ow) H v d:=by cases h.kp with|cons r _=>exact r
end
def post(K:aC)(H₀:Hp)(ae Z:Addr->Prop)(kv:List V)(kd:List D)(D':za):lZ->Prop
 | .next ρ=>∀ow σ H,SX K H₀ ae Z kv kd ow σ H ρ->D'.nx σ H
 | .brk ρ=>∀ow σ H,SX K H₀ ae Z kv kd ow σ H ρ->D'.bk σ H
 | .cont ρ=>∀ow σ H,SX K H₀ ae Z kv kd ow σ H ρ->D'.ct σ H
 | .ret d=>∀v H,ag H₀ H->aY K ae H v d->D'.rt v H
def tC(K:aC)(f:Env->Option lZ):TS:=λD' σ H=>∃H₀ ae Z kv kd ow ρ out,SX K H₀ ae Z kv kd ow σ H ρ/\f ρ=some out/\post K H₀ ae Z kv kd D' out
def _root_.L2.PS.weak{st:Stmt}(h:PS X st t)(w:∀D' σ H,t' D' σ H->t D' σ H):PS X st t':=λU s σ H D' I q=>h U s σ H D' I (w D' σ H q)
def _root_.L2.jF.weak{st:List Stmt}(h:jF X st t)(w:∀D' σ H,t' D' σ H->t D' σ H):jF X st t':=λU s σ H D' I q=>h U s σ H D' I (w D' σ H q)
noncomputable def fD:Expr->Bool
 | .ListComp _ _ _ _=>true
 | .SetComp _ _ _ _=>true
 | .DictComp _ _ _ _ _=>true
 |_=>false
noncomputable def XA:E->Bool
 | .comp _ _ _ _ _=>true
 |_=>false
noncomputable def nR(sc:Scope)(x:Str):Bool:=match sc.names.lookup x with|some .local =>true|some .cell =>true|_=>false
noncomputable def Vt:Expr->Bool
 | .Tuple _ _ _=>false
 |_=>true
noncomputable def fE(N:List Str)(sc:Scope):List Nat->List Expr->Bool
 |[],es=>es.isEmpty
 |i::is,es=>match es with
  |e::es=>(match e with| .Name x _=>decide (N[i]?=some x)&&nR sc x|_=>false)&&fE N sc is es
  |[]=>false
noncomputable def JB(N:List Str)(sc:Scope)(is:List Nat)(tg:Nat)(e:Expr):Bool:=
 match e with
 | .Name _ _=>decide (tg=0)&&fE N sc is [e]&&decide (is.length=1)
 | .Tuple es _ _=>decide (tg=is.length)&&!es.isEmpty&&fE N sc is es
 |_=>false
noncomputable def JC(G:GT)(it:E)(N:List Str)(sc:Scope)(qQ iter:Expr):Bool:=
 match it with
 | .xG a=>match qQ with
  | .Tuple _ _ _=>oO iter λx a0=>decide (x="enumerate")&&cV sc x&&bh G a N sc a0&&bH a0
  |_=>false
 |it=>El G it N sc iter
noncomputable def A_(N:List Str)(sc:Scope)(y:Nat)(e:Expr):Bool:=mz e λe2 nm as b=>as.isEmpty&&decide (nm="pop")&&cZ N sc y e2&&b
noncomputable def EK(G:GT)(x f:Nat)(N:List Str)(sc:Scope)(e:Expr)(ok:Expr->Bool):Bool:=
 mr e λn as=>Li as λe1 w=>decide (G.1[f]?=some n)&&cV sc n&&vS n&&cZ N sc x e1&&ok w&&bH w
noncomputable def Oc(G:GT)(x:Nat)(fr:List Nat)(it k v:E)(N:List Str)(sc:Scope)(st:Stmt):Bool:=
 uG st λa e=>decide (N[x]?=some a)&&nR sc a&&Jr e λel gs gI=>uE el λks vs=>nQ ks λko=>qr ko λke=>nQ vs λve=>nQ gs λg=>gg g.target λn=>g.ifs.isEmpty&&decide (g.is_async=0)&&fC g.iter&&yb N sc gI [n] fr&&El G it N sc g.iter&&bh G k (nP N [n] fr) (ky gI sc) ke&&bh G v (nP N [n] fr) (ky gI sc) ve
noncomputable def S3(G:GT)(x y r f:Nat)(N:List Str)(sc:Scope)(st:Stmt):Bool:=uG st λa e=>decide (N[r]?=some a)&&nR sc a&&EK G x f N sc e (A_ N sc y)
noncomputable def GF(G:GT)(x:Nat)(p q u:E)(N:List Str)(sc:Scope)(st:Stmt):Bool:=
 sC st λGG e=>nQ GG λo=>oN o λo2 qe=>oN o2 λe1 pe=>cZ N sc x e1&&bh G p N sc pe&&bZ pe&&bh G q N sc qe&&bZ qe&&bh G u N sc e&&!fD e
noncomputable def Od(G:GT)(x y g:Nat)(w:E)(N:List Str)(sc:Scope)(st:Stmt):Bool:=
 uF st λe=>mz e λe2 m as b=>nQ as λv=>cZ N sc y e2&&decide (m="extend")&&b&&bH v&&EK G x g N sc v (bh G w N sc)
noncomputable def Vu(f g h k:Stmt->Bool)(l:List Stmt):Bool:=
 match l with
 |[]=>false
 |s1::l=>match l with
  |[]=>false
  |s2::l=>match l with
   |[]=>false
   |s3::l=>match l with
    |[]=>false
    |s4::l=>match l with
     |[]=>f s1&&g s2&&h s3&&k s4
     |_::_=>false
def JD(e:Vu f g h k l=true):∃s1 s2 s3 s4,l=[s1,s2,s3,s4]/\f s1=true/\g s2=true/\h s3=true/\k s4=true:=by
 cases l with
 |nil=>cases e
 |cons s1 l=>cases l with
  |nil=>cases e
  |cons s2 l=>cases l with
   |nil=>cases e
   |cons s3 l=>cases l with
    |nil=>cases e
    |cons s4 l=>cases l with
     |cons _ _=>cases e
     |nil=>
      change (f s1&&g s2&&h s3&&k s4)=true at e
      simp only[Zu]at e
      exact⟨s1,s2,s3,s4,rfl,e.1.1.1,e.1.1.2,e.1.2,e.2⟩
noncomputable def Oe(f g h:Stmt->Bool)(l:List Stmt):Bool:=
 match l with
 |[]=>false
 |s1::l=>match l with
  |[]=>false
  |s2::l=>match l with
   |[]=>false
   |s3::l=>match l with
    |[]=>f s1&&g s2&&h s3
    |_::_=>false
def Ba(e:Oe f g h l=true):∃s1 s2 s3,l=[s1,s2,s3]/\f s1=true/\g s2=true/\h s3=true:=by
 cases l with
 |nil=>cases e
 |cons s1 l=>cases l with
  |nil=>cases e
  |cons s2 l=>cases l with
   |nil=>cases e
   |cons s3 l=>cases l with
    |cons _ _=>cases e
    |nil=>
     change (f s1&&g s2&&h s3)=true at e
     simp only[Zu]at e
     exact⟨s1,s2,s3,rfl,e.1.1,e.1.2,e.2⟩
noncomputable def Of(N:List Str)(sc:Scope)(m:Nat)(f g h:Stmt->Bool)(st:Stmt):Bool:=
 match st with
 | .If em a b _=>cZ N sc m em&&b.isEmpty&&Oe f g h a
 |_=>false
noncomputable def Og(N:List Str)(sc:Scope)(y:Nat)(f g h:Stmt->Bool)(st:Stmt):Bool:=
 match st with
 | .While e2 a b _=>cZ N sc y e2&&b.isEmpty&&Oe f g h a
 |_=>false
noncomputable def Oh(N:List Str)(sc:Scope)(x:Nat)(st:Stmt):Bool:=
 match st with
 | .Return o _=>match o with
  |some e=>cZ N sc x e
  |none=>false
 |_=>false
def EL{st:Stmt}(e:Of N sc m f g h st=true):∃em s1 s2 s3 p,st= .If em [s1,s2,s3] [] p/\cZ N sc m em=true/\f s1=true/\g s2=true/\h s3=true:=by
 refine au λnO=>?_
 cases st with
 |If em a b p=>
  refine nO ?_
  change (cZ N sc m em&&b.isEmpty&&Oe f g h a)=true at e
  simp only[Zu]at e
  refine kW (Ba e.2) λs1 s2 s3 ah q=>?_
  subst ah
  cases b with
  |nil=>exact⟨em,s1,s2,s3,p,rfl,e.1.1,q⟩
  |cons _ _=>cases e.1.2
 |_=>cases e
def EM{st:Stmt}(e:Og N sc m f g h st=true):∃em s1 s2 s3 p,st= .While em [s1,s2,s3] [] p/\cZ N sc m em=true/\f s1=true/\g s2=true/\h s3=true:=by
 refine au λnO=>?_
 cases st with
 |While em a b p=>
  refine nO ?_
  change (cZ N sc m em&&b.isEmpty&&Oe f g h a)=true at e
  simp only[Zu]at e
  refine kW (Ba e.2) λs1 s2 s3 ah q=>?_
  subst ah
  cases b with
  |nil=>exact⟨em,s1,s2,s3,p,rfl,e.1.1,q⟩
  |cons _ _=>cases e.1.2
 |_=>cases e
def EN{st:Stmt}(e:Oh N sc x st=true):∃e1 p,st= .Return (some e1) p/\cZ N sc x e1=true:=by
 refine au λnO=>?_
 cases st with
 |Return o p=>
  refine nO<|au λnO=>?_
  cases o with
  |none=>cases e
  |some e1=>
   exact nO<|⟨e1,p,rfl,e⟩
 |_=>cases e
mutual
noncomputable def JE(G:GT):C->List Str->Scope->Stmt->Bool
 | .asg i e,N,sc,st=>uG st λx v=>decide (N[i]?=some x)&&nR sc x&&bh G e N sc v&&!fD v
 | .cS i e,N,sc,st=>uG st λx v=>decide (N[i]?=some x)&&nR sc x&&bh G e N sc v&&fresh e&&(!fD v||XA e)
 | .lW i ix e,N,sc,st=>sC st λGG v=>nQ GG λo=>oN o λn k=>gg n λx=>decide (N[i]?=some x)&&sA sc x&&vS x&&bh G ix N sc k&&bZ k&&bh G e N sc v
 | .app i e,N,sc,st=>uF st λex=>mz ex λo m as b=>nQ as λv=>gg o λx=>decide (N[i]?=some x)&&sA sc x&&vS x&&decide (m="append")&&b&&bh G e N sc v&&bH v
 | .ret e,N,sc,st=>match st with
  | .Return o _=>match o with
   |some v=>bh G e N sc v
   |none=>false
  |_=>false
 | .ifs c t u,N,sc,st=>match st with
  | .If x a b _=>bh G c N sc x&&AS c&&gT G t N sc a&&gT G u N sc b
  |_=>false
 | .while c b,N,sc,st=>match st with
  | .While x a o _=>o.isEmpty&&bh G c N sc x&&AS c&&gT G b N sc a
  |_=>false
 | .for is tg it b,N,sc,st=>match st with
  | .For qQ iter a o _=>o.isEmpty&&fC iter&&gT G b N sc a&&JB N sc is tg qQ&&JC G it N sc qQ iter
  |_=>false
 | .lX i t es,N,sc,st=>uG st λx v=>decide (N[i]?=some x)&&nR sc x&&uE v λks vs=>decide (t≠0)&&match es with
  | .nil =>ks.isEmpty&&vs.isEmpty
  |es=>nQ ks λko=>qr ko λk=>nQ vs λw=>c6 G es N sc [k,w]
 | .kM i k e,N,sc,st=>sC st λGG v=>nQ GG λt=>oN t λo ix=>cZ N sc i o&&bh G k N sc ix&&bZ ix&&bh G e N sc v&&!fD v
 | .pop i j,N,sc,st=>uG st λx v=>decide (N[i]?=some x)&&nR sc x&&A_ N sc j v
 | .raise _,_,_,st=>match st with| .Raise _ _ _=>true|_=>false
 |_,_,_,_=>false
noncomputable def gT(G:GT):C->List Str->Scope->List Stmt->Bool
 | .skip,_,_,tR=>tR.isEmpty
 | .seq a b,N,sc,tR=>match tR with
  |s::r=>JE G a N sc s&&gT G b N sc r
  |[]=>false
 | .fst x fr it k v c1 y r f c2 m c3 p q u g w,N,sc,tR=>Vu (Oc G x fr it k v N sc) (JE G c1 N sc) (Og N sc y (S3 G x y r f N sc) (JE G c2 N sc) (Of N sc m (JE G c3 N sc) (GF G x p q u N sc) (Od G x y g w N sc))) (Oh N sc x) tR
 |_,_,_,_=>false
end
def fF(h:nR sc x=true):Loc sc x:=by
 unfold nR at h
 split at h
 .rename_i e;exact .inl e
 .rename_i e;exact .inr e
 .cases h
def mJ(h:fD v=false):swapsWith v (some t) l env=pure false:=by
 cases v<;>first|rfl|exact absurd h Bool.noConfusion
section
variable {K:aC}{H₀:Hp}{ae Z:Addr->Prop}{kv:List V}{kd:List D}{ow:Nat->Option Addr}{σ:St}{H H1:Hp}{ρ:Env}{a:Addr}{o:Obj}{u:HO}
def SX.base(h:SX K H₀ ae Z kv kd ow σ H ρ)(e:H a=some (.c9 o u)):SX K (L2.upd H₀ a (.c9 o u)) ae Z kv kd ow σ H ρ:=by
 refine⟨h.ex,h.own,h.inj,λi b hb=>?_,λb w hb=>?_,h.kp,λb hb=>?_,h.len⟩
 .have fy:b≠a:=λz=>by
   refine aa (h.ex.live b (.inr ⟨i,hb⟩)) λw q1 q2=>?_
   rw[z,e]at q1
   cases q1
   exact q2
  rw[aq fy]
  exact h.new i b hb
 .by_cases oG:b=a
  .subst oG
   rw[ai]at hb
   cases hb
   exact e
  .rw[aq oG]at hb
   exact h.same _ _ hb
 .by_cases oG:b=a
  .subst oG;exact⟨_,ai⟩
  .obtain⟨w,q⟩:=h.o0 b hb
   exact⟨w,by rw[aq oG];exact q⟩
def o_(s0:H₀ a=none\/H₀ a=some (.c9 o u)):ag H₀ (L2.upd H₀ a (.c9 o u)):=λb w hb=>by
 by_cases oG:b=a
 .subst oG
  rcases s0 with z|z
  .rw[z]at hb;cases hb
  .rw[z]at hb;cases hb;exact ai
 .rw[aq oG];exact hb
def SX.JF(h:SX K (L2.upd H₀ a (.c9 o u)) ae Z kv kd ow σ H ρ)(s0:H₀ a=none\/H₀ a=some (.c9 o u))(o0:∀b,ae b->∃w,H₀ b=some w):SX K H₀ ae Z kv kd ow σ H ρ:=by
 refine⟨h.ex,h.own,h.inj,λi b hb=>?_,(o_ s0).trans h.same,h.kp,o0,h.len⟩
 have:=h.new i b hb
 by_cases oG:b=a
 .subst oG;rw[ai]at this;cases this
 .rw[aq oG]at this;exact this
end
def EO(h1:ks.length=vs.length)(h2:ks.length=us.length)(e:fL 0 ks vs=fL 0 ks us):vs=us:=by
 rw[jg,jg]at e
 have e:=HO.dK.inj e
 have:=congrArg (List.map Prod.snd) e
 rwa [aev (by rw[ZA];exact ZF (aaa h1)),aev (by rw[ZA];exact ZF (aaa h2))]at this
section
variable {X:Cx}{c e:Expr}{st:Stmt}{bx:List Stmt}{pos px:Pos}{x:Str}{i:Nat}
def JG:jF X [] (tC X.K λρ=>some (.next ρ)):=gz.weak λD' σ H zz=>by
 refine pF zz λH₀ ae Z kv kd ow ρ out hx hd k=>?_
 cases hd
 exact k ow σ H hx
def Oi(h1:PS X st (tC X.K f))(h2:jF X bx (tC X.K g)):jF X (st::bx) (tC X.K λρ=>(f ρ).bind λo=>match o with
  | .next ρ'=>g ρ'
  |o=>some o):=
 (bC h1 h2).weak λD' σ H zz=>by
  refine pF zz λH₀ ae Z kv kd ow ρ out hx hd k=>aa (bind_some hd) λo e1 hd=>⟨H₀,ae,Z,kv,kd,ow,ρ,o,hx,e1,?_⟩
  cases o with
  |next ρ'=>exact λow σ H h=>⟨H₀,ae,Z,kv,kd,ow,ρ',out,h,hd,k⟩
  |brk ρ'=>cases hd;exact k
  |cont ρ'=>cases hd;exact k
  |ret d=>cases hd;exact k
def Oj(hN:X.N.Nodup)(hi:X.N[i]?=some x)(hx:Loc X.env.scope x)(hf:X.fn x=true)(he:PE X e (tV X.K false f))(hs:swapsWith e (some (.Name x px)) pos.line X.env=pure false):
  PS X (.Assign [.Name x px] e pos) (tC X.K λρ=>(f ρ).map λd=> .next (put ρ i false d)):=
 (fX hN hi hx he hs (.inl hf)).weak λD' σ H zz=>by
  refine pF zz λH₀ ae Z kv kd ow ρ out hx hd k=>aa (map_some hd) λd e1 ah=>?_
  subst ah
  refine⟨Os ae ow,ρ,d,hx.ex,e1,λv H1 s1 r1=>?_⟩
  exact k (oZ ow i none) _ _ ((hx.mono s1).put r1.own i)
def Bb{K:aC}(h:SX K H₀ ae Z kv kd ow σ H ρ)(s:ag H H1)(hp:H1 p=none)(r:av K (Os ae ow) H1 vs ds)(i:Nat):
  ∃mK,SX K H₀ ae Z kv kd mK (σ.set i (some (.ref p))) (L2.upd H1 p (.lst vs)) (Py.put ρ i true (.lst ds)):=by
 by_cases hi:i<ρ.length
 .exact⟨_,h.HQ s hp r i hi⟩
 .have e1:σ.set i (some (.ref p))=σ:=acf (by rw[<-h.len];exact Z0 hi)
  have e2:Py.put ρ i true (.lst ds)=ρ:=acf (Z0 hi)
  rw[e1,e2]
  exact⟨ow,h.mono (s.trans (ag.upd hp))⟩
def pb{f:Env->Option D}(hP:PS X st (nF te (cb i)))(ht:∀σ H Q,tF X.K (λρ=>(f ρ).bind h_) σ H Q->te σ H Q):
  PS X st (tC X.K λρ=>(f ρ).bind λd=>match d with
   | .lst xs=>some (.next (put ρ i true (.lst xs)))
   |_=>none):=
 hP.weak λD' σ H zz=>by
  refine pF zz λH₀ ae Z kv kd ow ρ out hx hd k=>aa (bind_some hd) λd e1 hd=>?_
  cases d with
  |lst ds=>
   cases hd
   refine ht σ H _ ⟨Os ae ow,ρ,ds,hx.ex,by show(f ρ).bind h_=_;rw[e1];rfl,λp vs H1 s1 hp r=>?_⟩
   obtain⟨mK,h'⟩:=Bb hx s1 hp r i
   exact k mK _ _ h'
  |_=>cases hd
def JH(hi:X.N[i]?=some x)(hv:uU X.env.scope x)(JI:(x==("__debug__":Str))=false)(tN:(x==("__classdict__":Str))=false)(hk:PE X ke (tV X.K false fi))(iJ:bZ ke=true)(he:PE X e (tV X.K false f)):
  PS X (.Assign [.Subscript (.Name x px) ke o] e pos) (tC X.K λρ=>(f ρ).bind λd=>((fi ρ).bind Dp).bind λk=>match ρ[i]? with
   |some (some (true,.lst xs))=>(bT xs.length k).map λj=> .next (put ρ i true (.lst (xs.set j d)))
   |_=>none):=
 (HA he (Hz (bG hi hv JI tN) hk zC (by intro v;cases ke<;>first|rfl|exact absurd iJ Zz)) (by cases e<;>rfl) (by cases e<;>rfl) rfl).weak λD' σ H zz=>by
  refine au λnO=>pF zz λH₀ ae Z kv kd ow ρ out hx hd k=>aa (bind_some hd) λd e1 hd=>aa (bind_some hd) λkk e2 hd=>aa (bind_some e2) λdk e3 e4=>nO ?_
  have XB:dk= .int kk:=by cases dk<;>first|(cases e4;rfl)|cases e4
  subst XB
  split at hd
  .rename_i xs GH
   refine aa (map_some hd) λj e5 ah=>?_
   subst ah
   refine⟨Os ae ow,ρ,d,hx.ex,e1,λv H1 s1 r1=>?_⟩
   refine aa (hx.own i _ GH) λa o2 o1=>?_
   have o1:ow i=some a:=o1.elim (λz=>z.2) λz=>nomatch z.1
   refine⟨.ref a,o2,Os ae ow,ρ,.int kk,(hx.mono s1).ex,e3,λw H2 s2 r2=>?_⟩
   have GI:=(hx.mono s1).mono s2
   refine au λnO=>aa (GI.ex.iX i true _ GH) λw' q1 q2=>bB q2 λa' e6 e8 c0=>aa c0.lst λvs e9 vZ=>?_
   rw[o2]at q1
   cases q1
   cases e6
   refine nO ?_
   refine⟨a,vs,kk,j,rfl,r2.int,e9,?_,?_⟩
   .rw[<-mj,vZ.length];exact e5
   .exact k ow _ _ (GI.wr o1 o2 e9 (vZ.set (r1.own.mono s2) j))
  .cases hd
def Ol(he:PE X e (tV X.K false f)):PS X (.Return (some e) pos) (tC X.K λρ=>(f ρ).map .ret):=
 (pL he).weak λD' σ H zz=>by
  refine pF zz λH₀ ae Z kv kd ow ρ out hx hd k=>aa (map_some hd) λd e1 ah=>?_
  subst ah
  refine⟨Os ae ow,ρ,d,hx.ex,e1,λv H1 s1 r1=>?_⟩
  exact k v H1 (hx.same.trans s1) (r1.own.weak λa z=> .inl z)
def JJ(hi:X.N[i]?=some x)(hv:uU X.env.scope x)(JI:(x==("__debug__":Str))=false)(tN:(x==("__classdict__":Str))=false):PS X (.Return (some (.Name x px)) pos) (tC X.K λρ=>(rd true ρ i).map .ret):=
 (pL (bG hi hv JI tN)).weak λD' σ H zz=>by
  refine pF zz λH₀ ae Z kv kd ow ρ out hx hd k=>aa (map_some hd) λd e1 ah=>?_
  subst ah
  have e1:rd true ρ i=some d:=e1
  unfold rd at e1
  split at e1
  .rename_i o d' GH
   refine aa (hx.ex.iX i o d' GH) λw q1 q2=>?_
   cases o with
   |true=>
    refine bB q2 λa e6 e8 c0=>aa (hx.own i _ GH) λa' o2 o1=>?_
    rw[o2]at q1
    cases q1
    cases e6
    rcases c0 with⟨vs,ds,rfl,e9,vZ⟩|⟨t,ks,vs,ds,rfl,_⟩|⟨rfl,_⟩
    .cases e1
     have o1:ow i=some a:=o1.elim (λz=>z.2) λz=>nomatch z.1
     refine⟨_,o2,k _ H hx.same (.lst (.inl e9) (λz=>?_) (vZ.weak λa z=> .inl z))⟩
     obtain⟨u,hu⟩:=hx.o0 a z
     rw[hx.new i a o1]at hu
     cases hu
    .cases e1
    .cases e1
   |false=>
    cases e1
    exact⟨w,q1,k _ H hx.same (aY.weak q2 λa z=> .inl z)⟩
  .cases e1
def S4{f:Env->Option D}(hc:PT X c (tB X.K λρ=>(f ρ).bind fg))(ha:jF X a (tC X.K g))(hb:jF X b (tC X.K h)):
  PS X (.If c a b pos) (tC X.K λρ=>((f ρ).bind fg).bind λk=>if k then g ρ else h ρ):=
 (zi hc ha hb).weak λD' σ H zz=>by
  refine pF zz λH₀ ae Z kv kd ow ρ out hx hd k=>aa (bind_some hd) λkk e1 hd=>⟨Os ae ow,ρ,kk,hx.ex,e1,λH1 s1=>?_⟩
  cases kk with
  |true=>exact iR ⟨H₀,ae,Z,kv,kd,ow,ρ,out,hx.mono s1,hd,k⟩
  |false=>exact kL ⟨H₀,ae,Z,kv,kd,ow,ρ,out,hx.mono s1,hd,k⟩
def ER{f:Env->Option D}(hp:PassesOwn (model X.prog X.w) X.A X.env X.xe)(hc:PT X c (tB X.K λρ=>(f ρ).bind fg))(hb:jF X body (tC X.K b))(n:Nat):
  PS X (.While c body [] pos) (tC X.K λρ=>iU (λρ=>(f ρ).bind fg) b n ρ):=
 (qX hp hc hb).weak λD' σ H zz=>by
  refine pF zz λH₀ ae Z kv kd ow ρ out hx hd k=>⟨λm σ H=>∃ow ρ,SX X.K H₀ ae Z kv kd ow σ H ρ/\iU (λρ=>(f ρ).bind fg) b m ρ=some out,⟨n,ow,ρ,hx,hd⟩,?_⟩
  rintro m σ H ⟨ow,ρ,hx,hd⟩
  cases m with
  |zero=>cases hd
  |succ m=>
   rw[iU]at hd
   refine aa (bind_some hd) λkk e1 hd=>⟨Os ae ow,ρ,kk,hx.ex,e1,λH1 s1=>?_⟩
   cases kk with
   |false=>
    rw[ZW Zz]at hd
    cases hd
    exact kL (k ow σ H1 (hx.mono s1))
   |true=>
    rw[ZM rfl]at hd
    refine aa (bind_some hd) λo e2 hd=>iR ⟨λbO H'=>∃ow ρ,SX X.K H₀ ae Z kv kd ow bO H' ρ/\iU (λρ=>(f ρ).bind fg) b m ρ=some out,λbO H' h=>⟨m,abL m,h⟩,H₀,ae,Z,kv,kd,ow,ρ,o,hx.mono s1,e2,?_⟩
    cases o with
    |next ρ'=>exact λow σ H h=>⟨ow,ρ',h,hd⟩
    |cont ρ'=>exact λow σ H h=>⟨ow,ρ',h,hd⟩
    |brk ρ'=>cases hd;exact λow σ H h=>k ow σ H h
    |ret d=>cases hd;exact λv H s r=>k v H s r
def JK(K:aC)(g:TG)(setT:Env->D->Option Env):Prop:=
 ∀(H₀:Hp) (ae Z:Addr->Prop) (kv:List V) (kd:List D) (ow:Nat->Option Addr) (σ:St) (H:Hp) (ρ ρ':Env) (v:V) (d:D) (Q:St->Hp->Prop),SX K H₀ ae Z kv kd ow σ H ρ->aY K (Os ae ow) H v d->setT ρ d=some ρ'->
  (∀mK bO,SX K H₀ ae Z kv kd mK bO H ρ'->Q bO H)->g v σ H Q
def ES{K:aC}:JK K (cb j) (λρ d=>some (put ρ j false d)):=λH₀ ae Z kv kd ow σ H ρ ρ' v d Q hx r e q=>by
 cases e
 exact q _ _ (hx.put r j)
def qz:List Nat->Hw
 |[]=>L8
 |i::is=>F3 (cb i) (qz is)
theorem ph(hN:X.N.Nodup)(hf:∀x,X.fn x=true):∀{is:List Nat}{es:List Expr},fE X.N X.env.scope is es=true->K4 X es (qz is)/\(assignEach es X.env).length =is.length/\(assignEach es X.env).findIdx? (·.1)=none
 |[],es,h=>by
  cases es with
  |nil=>exact⟨CV,rfl,rfl⟩
  |cons _ _=>cases h
 |i::is,es,h=>by
  cases es with
  |nil=>cases h
  |cons e es=>
   cases e with
   |Name x p=>
    have h:=abc.mp (show(decide (X.N[i]?=some x)&&nR X.env.scope x&&fE X.N X.env.scope is es)=true from h)
    have h1:=abc.mp h.1
    refine cy (ph hN hf h.2) λq1 q2 q3=>?_
    refine⟨zk (kZ hN (of_decide_eq_true h1.1) (fF h1.2) (.inl (hf _))) q1 rfl,congrArg (· + 1) q2,?_⟩
    show List.findIdx? _ ((false,_)::assignEach es X.env)=none
    rw[List.findIdx?_cons]
    simp[q3]
   |_=>exact nomatch (show false=true from h)
theorem sF{K:aC}:∀{is:List Nat}{xs:List V}{ys:List D}{ow:Nat->Option Addr}{σ:St}{H:Hp}{ρ ρ':Env}{Q:St->Hp->Prop},av K (Os ae ow) H xs ys->SX K H₀ ae Z kv kd ow σ H ρ->dI ρ is ys=some ρ'->
  (∀mK bO,SX K H₀ ae Z kv kd mK bO H ρ'->Q bO H)->qz is xs σ H Q
 |[],xs,ys,ow,σ,H,ρ,ρ',Q,r,hx,e,q=>by
  cases ys with
  |nil=>cases e;cases r;exact⟨rfl,q _ _ hx⟩
  |cons _ _=>cases e
 |i::is,xs,ys,ow,σ,H,ρ,ρ',Q,r,hx,e,q=>by
  cases ys with
  |nil=>cases e
  |cons d ds=>
   cases r with
   |cons r1 r2=>
    have sub:∀a,Os ae (oZ ow i none) a->Os ae ow a:=λa z=>by
     rcases z with z|⟨j,z⟩
     .exact .inl z
     .by_cases hj:j=i
      .rw[hj,aH]at z;cases z
      .rw[aN hj]at z;exact .inr ⟨j,z⟩
    exact⟨_,_,rfl,sF (r2.weak sub) (hx.put r1 i) e q⟩
def JL{K:aC}(h:0<is.length):JK K (MM K is.length (qz is)) (λρ d=>(aJ is.length d).bind (dI ρ is)):=λH₀ ae Z kv kd ow σ H ρ ρ' v d Q hx r e q=>by
 refine aa (bind_some e) λys e1 e2=>?_
 obtain⟨n,hn⟩:∃n,is.length=n+1:=⟨is.length-1,(aaa (aaL h))⟩
 rw[hn]at e1⊢
 cases d with
 |tup zs=>
  simp only[aJ]at e1
  split at e1
  .rename_i hz
   cases e1
   refine bu r.lj λa xs ah q1 p1=>?_
   subst ah
   exact⟨a,xs,rfl,.inr q1,by rw[p1.length];exact hz,sF p1 hx e2 q⟩
  .cases e1
 |_=>cases e1
def GJ(hp:PassesOwn (model X.prog X.w) X.A X.env X.xe)(hc:X.calm=true)(hg:PG X qQ g)(hS:JK X.K g setT)
  (hI:PI X qQ iter (tI X.K false fi)) (hb:jF X body (tC X.K b)) (hs:∀x,foldedSetIterable iter X.env x=pure x):
  PS X (.For qQ iter body [] pos) (tC X.K λρ=>(fi ρ).bind λxs=>aO (λy ρ=>(setT ρ y).bind b) xs ρ):=
 (HC hp hc hI hg hb hs).weak λD' σ H zz=>by
  refine pF zz λH₀ ae Z kv kd ow ρ out hx hd k=>aa (bind_some hd) λxs e1 hd=>⟨Os ae ow,ρ,xs,hx.ex,e1,λJ gF H1 s1 AO sq=>?_⟩
  have tQ:=hx.mono s1
  obtain⟨bF,GK,GL,sm,JM,hk,yP⟩:∃bF GK GL,ag H₀ bF/\SX X.K bF ae Z GK GL ow σ H1 ρ/\(∀ow σ H ρ,SX X.K bF ae Z GK GL ow σ H ρ->SX X.K H₀ ae Z kv kd ow σ H ρ)/\(∀ow σ H ρ,SX X.K bF ae Z GK GL ow σ H ρ->eR X.K (Os ae ow) H gF):=by
   rcases gF with _|⟨_|_|⟨o,ks,vs⟩,v,ds⟩
   .exact⟨H₀,kv,kd,ag.refl _,tQ,λ_ _ _ _ h=>h,λ_ _ _ _ _=>trivial⟩
   .exact⟨H₀,v::kv,.tup ds::kd,ag.refl _,tQ.keep (bz.own sq),λ_ _ _ _ h=>h.drop,λ_ _ _ _ h=>h.kept.lj⟩
   .exact⟨H₀,v::kv,.lst ds::kd,ag.refl _,tQ.keep (bz.own sq),λ_ _ _ _ h=>h.drop,λ_ _ _ _ h=>h.kept.lst_inv⟩
   .refine FW sq λa ah g1 g2 g3 g4=>?_
    try clear sq
    subst ah
    have s0:H₀ a=none\/H₀ a=some (.c9 o (fL 0 ks vs)):=by
     cases z:H₀ a with
     |none=>exact .inl rfl
     |some w=>have:=tQ.same _ _ z;rw[g1]at this;cases this;exact .inr rfl
    have o0:=hx.o0
    refine⟨_,.ref a::kv,.bj 0 ks ds::kd,o_ s0,(tQ.base g1).keep (.bj g1 g2 g3 g4),λ_ _ _ _ h=>h.drop.JF s0 o0,λ_ _ H' _ h=>?_⟩
    have e:=h.same _ _ (ai (H:=H₀) (a:=a))
    have r:=h.kept
    cases r with
    |bj f1 f2 f3 f4=>
     rw[e]at f1
     have XC:=HO.c9.inj (ZY f1)
     rw[<-EO g2 f2 XC.2]at f4
     exact⟨a,rfl,e,g2,g3,f4⟩
  refine⟨λi m σ H=>m=xs.length-i/\i<=xs.length/\∃ow ρ,SX X.K bF ae Z GK GL ow σ H ρ/\aO (λy ρ=>(setT ρ y).bind b) (xs.drop i) ρ=some out,⟨xs.length,rfl,aab _,ow,ρ,JM,hd⟩,?_⟩
  rintro t m σ H ⟨rfl,hi,ow,ρ,hx,hd⟩
  refine cy (AO _ H (yP _ _ _ _ hx)) λgo zl stop=>?_
  by_cases bg:t<xs.length
  .refine .inr ⟨go t bg,λσ H=>∃ow ρ,SX X.K bF ae Z GK GL ow σ H ρ/\aO (λy ρ=>(setT ρ y).bind b) (xs.drop (t+1)) ρ=some out,λbO H' h=>⟨xs.length-(t+1),(afr (acB bg)),rfl,bg,h⟩,λx H3 hy=>?_⟩
   obtain⟨s3,rx⟩:=zl t x H3 xs[t] hy (by simp[bg])
   rw[aaG bg,aO]at hd
   refine aa (bind_some hd) λo e2 hd=>aa (bind_some e2) λnC e2 e3=>hS bF ae Z GK GL ow σ H3 ρ nC x xs[t] _ (hx.mono s3) rx e2 λmK bO JM=>⟨bF,ae,Z,GK,GL,mK,nC,o,JM,e3,?_⟩
   cases o with
   |next ρ'=>exact λow σ H h=>⟨ow,ρ',h,hd⟩
   |cont ρ'=>exact λow σ H h=>⟨ow,ρ',h,hd⟩
   |brk ρ'=>cases hd;exact λow σ H h=>k ow σ H (hk _ _ _ _ h)
   |ret d=>cases hd;exact λv H s r=>k v H (sm.trans s) r
  .have e:t=xs.length:=(aal hi (Z0 bg))
   subst e
   rw[aeB,aO]at hd
   cases hd
   exact .inl ⟨stop,k ow σ H (hk _ _ _ _ hx)⟩
def Bc(h:PS X st (tC X.K g)):PS X st (tC X.K λρ=>g (fu it ρ)):=
 h.weak λD' σ H zz=>by
  refine pF zz λH₀ ae Z kv kd ow ρ out hx hd k=>?_
  have key:∃mK,SX X.K H₀ ae Z kv kd mK σ H (fu it ρ):=by
   have one:∀i:Nat,∃mK,SX X.K H₀ ae Z kv kd mK σ H (match ρ[i]? with
     |some (some (true,D.lst xs))=>ρ.set i (some (false,D.lst xs))
     |_=>ρ):=λi=>by
    cases e:ρ[i]? with
    |none=>exact⟨ow,hx⟩
    |some o=>cases o with
     |none=>exact⟨ow,hx⟩
     |some t=>
      obtain⟨b,d⟩:=t
      cases b with
      |false=>exact⟨ow,hx⟩
      |true=>cases d with
       |lst=>exact⟨_,hx.freeze e⟩
       |_=>exact⟨ow,hx⟩
   cases it with
   |it a=>cases a with
    |var i=>exact one i
    |_=>exact⟨ow,hx⟩
   |xG a=>cases a with
    |var i=>exact one i
    |_=>exact⟨ow,hx⟩
   |_=>exact⟨ow,hx⟩
  obtain⟨mK,h'⟩:=key
  exact⟨H₀,ae,Z,kv,kd,mK,_,out,h',hd,k⟩
end
def ET(h:zP ρ i=some d):ρ[i]?=some (some (true,.bj d.1 d.2.1 d.2.2))/\d.1≠2:=by
 unfold zP at h
 refine slot (ρ:=ρ) (i:=i) (λe=>?_) (λe=>?_) λo d e=>?_<;>rw[e]at h
 .cases h
 .cases h
 cases o with
 |false=>cases h
 |true=>cases d with
  |bj t ks vs=>
   by_cases ht:t=2
   .exact nS ((ZM ht).symm.trans h)
   .cases (ZW ht).symm.trans h;exact⟨e,ht⟩
  |_=>cases h
def v3(h:l3 ρ i=some xs):ρ[i]?=some (some (true,.lst xs)):=by
 unfold l3 at h
 split at h
 .rename_i xs e;cases h;exact e
 .cases h
section
variable {K:aC}{H₀:Hp}{ae Z:Addr->Prop}{kv:List V}{kd:List D}{ow:Nat->Option Addr}{σ:St}{H H1:Hp}{ρ:Env}
def SX.S5(hx:SX K H₀ ae Z kv kd ow σ H ρ)(h:zP ρ i=some d):∃a vs,ow i=some a/\σ[i]?=some (some (.ref a))/\d.1≠2/\H a=some (fL d.1 d.2.1 vs)/\d.2.1.length=vs.length/\mh d.1 d.2.1/\av K (Os ae ow) H vs d.2.2:=by
 refine au λnO=>?_
 obtain⟨e,h2⟩:=ET h
 have hp:lV (.bj d.1 d.2.1 d.2.2)=false:=by show(d.1==2)=false;simp[h2]
 refine aa (hx.own i _ e) λa o2 o1=>?_
 have o1:ow i=some a:=o1.elim (λz=>z.2) λz=>by rw[hp]at z;exact nomatch z.1
 refine aa (hx.ex.iX i true _ e) λw q1 q2=>bB q2 λa' e6 e8 c=>?_
 rw[o2]at q1
 cases q1
 cases e6
 exact CM (c.bj h2) λvs c1 c2 c3 c4=>nO<|⟨a,vs,o1,o2,h2,c1,c2,c3,c4⟩
def SX.Om(hx:SX K H₀ ae Z kv kd ow σ H ρ)(h:l3 ρ i=some xs):∃a vs,ow i=some a/\σ[i]?=some (some (.ref a))/\H a=some (.lst vs)/\av K (Os ae ow) H vs xs:=by
 have e:=v3 h
 refine au λnO=>aa (hx.own i _ e) λa o2 o1=>?_
 have o1:ow i=some a:=o1.elim (λz=>z.2) λz=>nomatch z.1
 refine aa (hx.ex.iX i true _ e) λw q1 q2=>bB q2 λa' e6 e8 c=>?_
 rw[o2]at q1
 cases q1
 cases e6
 exact aa c.lst λvs c1 c2=>nO<|⟨a,vs,o1,o2,c1,c2⟩
end
def qA[DecidableEq κ](f:List Int->κ)(hl:ks.length=vs.length)(hf:∀k∈ks,f k=f x->k=x)(hx:x∉ks):f_ ((ks.map f).zip vs) (f x) v=((ks++[x]).map f).zip (vs++[v]):=by
 have e:((((ks.map f).zip vs).any λkv=>decide (kv.1=f x))=true)=False:=by
  rw[eq_iff_iff,iff_false,adz]
  rintro⟨p,hp,hq⟩
  have h1:=(adG (show(p.1,p.2)∈_ from hp)).1
  refine aa (ZT.mp h1) λk k1 k2=>?_
  have:=hf k k1 (by rw[k2];exact of_decide_eq_true hq)
  exact hx (this▸k1)
 unfold f_
 rw[ZW (by rw[e];exact id),aam,List.zip_append (by rw[ZA];exact hl)]
 rfl
theorem Be[DecidableEq κ](f:List Int->κ):∀{ks:List (List Int)}{vs:List V},(∀k∈ks,f k≠f x)->((ks.map f).zip vs).map (λkv=>if kv.1=f x then(kv.1,v) else kv)=(ks.map f).zip vs
 |[],_,_=>rfl
 |_::_,[],_=>rfl
 |k::ks,w::vs,h=>by
  show(if f k=f x then(f k,v) else(f k,w))::((ks.map f).zip vs).map _=_
  rw[ZW (h k ZD),Be f λj hj=>h j (Zy _ hj)]
  rfl
theorem Bf[DecidableEq κ](f:List Int->κ):∀{ks:List (List Int)}{vs:List V},ks.length=vs.length->ks.Nodup->(∀k∈ks,f k=f x->k=x)->x∈ks->((ks.map f).zip vs).map (λkv=>if kv.1=f x then(kv.1,v) else kv)=(ks.map f).zip (vs.set (ks.idxOf x) v)
 |[],_,_,_,_,h=>nomatch h
 |_::_,[],h,_,_,_=>nomatch h
 |k::ks,w::vs,hl,nd,hf,hx=>by
  rw[aaf]at nd
  show(if f k=f x then(f k,v) else(f k,w))::((ks.map f).zip vs).map _=_
  by_cases h:k=x
  .subst h
   rw[ZM rfl,List.idxOf_cons_self,Be f λj hj e=>nd.1 (hf j (Zy _ hj) e▸hj)]
   rfl
  .rw[ZW λz=>h (hf k ZD z),List.idxOf_cons,show(k==x)=false from beq_eq_false_iff_ne.mpr h,Bf f (by simpa using hl) nd.2 (λj hj=>hf j (Zy _ hj)) ((ZK.mp hx).resolve_left λz=>h z.symm)]
   rfl
def v_[DecidableEq κ]{ks:List (List Int)}(f:List Int->κ)(hl:ks.length=vs.length)(nd:ks.Nodup)(hf:∀k∈ks,f k=f x->k=x)(hx:x∈ks):f_ ((ks.map f).zip vs) (f x) v=(ks.map f).zip (vs.set (ks.idxOf x) v):=by
 unfold f_
 rw[ZM,Bf f hl nd hf hx]
 rw[adz]
 obtain⟨i,hi⟩:=afj hx
 have bg:=(ZL.mp hi).1
 have hz:((ks.map f).zip vs)[i]?=some (f x,vs[i]'(by rw[<-hl];exact bg)):=by
  rw[aea,ZJ,hi]
  exact⟨rfl,Zt _⟩
 exact⟨_,aac hz,decide_eq_true rfl⟩
section
variable {X:Cx}{c e ke:Expr}{st:Stmt}{bx:List Stmt}{pos px o:Pos}{x:Str}{i j:Nat}{f fk:Env->Option D}
def JN(hu:X.A.units+64<cLine)(hi:X.N[i]?=some x)(hv:uU X.env.scope x)(JI:(x==("__debug__":Str))=false)(tN:(x==("__classdict__":Str))=false)(hk:PE X ke (tV X.K false fk))(he:PE X e (tV X.K false f))(hs:∀t,swapsWith e (some t) pos.line X.env=pure false):
  PS X (.Assign [.Subscript (.Name x px) ke o] e pos) (tC X.K λρ=>(f ρ).bind λy=>(zP ρ i).bind λd=>((fk ρ).bind (cv d.1)).bind λx=>
   if d.2.1.length<bR then some (.next (put ρ i true (nI d.1 d.2.1 d.2.2 x y))) else none):=
 (vq (pH hu (by decide)) (bG hi hv JI tN) hk he (hs _)).weak λD' σ H zz=>by
  refine au λnO=>pF zz λH₀ ae Z kv kd ow ρ out hx hd k=>aa (bind_some hd) λy e1 hd=>aa (bind_some hd) λd e2 hd=>aa (bind_some hd) λxx e3 hd=>aa (bind_some e3) λdk e4 e5=>nO ?_
  split at hd
  .rename_i hz
   cases hd
   refine⟨Os ae ow,ρ,y,hx.ex,e1,λv H1 s1 r1=>?_⟩
   refine au λnO=>UA ((hx.mono s1).S5 e2) λa vs o1 o2 o3 c1 c2 c3 c4=>nO ?_
   refine⟨.ref a,o2,Os ae ow,ρ,dk,(hx.mono s1).ex,e4,λw H2 s2 r2=>?_⟩
   have GI:=(hx.mono s1).mono s2
   have yS:=s2 _ _ c1
   have aV:vs.length<sizeLine:=by rw[cE,<-c2];exact hz
   have one:d.1=0->∃n,xx=[n]:=λh0=>by
    rcases gJ r2.own e5 with⟨_,n,rfl,_⟩|⟨h1,_⟩
    .exact⟨n,rfl⟩
    .exact absurd h0 h1
   have key:∃(GN:List (List Int)) (D4:List V) (Oo:List D),nI d.1 d.2.1 d.2.2 xx y= .bj d.1 GN Oo/\GN.length=D4.length/\mh d.1 GN/\av X.K (Os ae ow) H2 D4 Oo/\(∀(f:List Int->cq),(∀k∈d.2.1,f k=f xx->k=xx)->f_ ((d.2.1.map f).zip vs) (f xx) v=(GN.map f).zip D4)/\
     ∀(f:List Int->List cq),(∀k∈d.2.1,f k=f xx->k=xx)->f_ ((d.2.1.map f).zip vs) (f xx) v=(GN.map f).zip D4:=by
    by_cases hm:xx∈d.2.1
    .exact⟨_,_,_,ZM hm,by rw[aat];exact c2,c3,av.set (r1.own.mono s2) _ (c4.mono s2),λf hf=>v_ f c2 c3.1 hf hm,λf hf=>v_ f c2 c3.1 hf hm⟩
    .refine⟨_,_,_,ZW hm,by simp[c2],⟨?_,λh0 q hq=>?_⟩,(c4.mono s2).append (.cons (r1.own.mono s2) .nil),λf hf=>qA f c2 hf hm,λf hf=>qA f c2 hf hm⟩
     .rw[abm]
      exact⟨c3.1,by simp,λa ha b hb e=>hm (by rw[ZE.mp hb]at e;exact e▸ha)⟩
     .rcases ZZ.mp hq with hq|hq
      .exact c3.2 h0 q hq
      .rw[ZE.mp hq]
       exact one h0
   refine KY key λGN D4 Oo p1 p2 p3 p4 p5 p6=>?_
   rw[p1]at k
   have S6:av X.K (Os ae ow) (L2.upd H2 a (fL d.1 GN D4)) D4 Oo:=p4.upd (.inr ⟨i,o1⟩) yS ku
   refine⟨a,_,rfl,?_,k ow _ _ (GI.Vs (d0:= .bj d.1 GN Oo) o1 o2 yS ku ku (by show(d.1==2)=false;simp[o3]) (.inr (.inl ⟨_,_,D4,_,rfl,ai,p2,p3,S6⟩)))⟩
   rcases gJ r2.own e5 with⟨h0,n,rfl,rfl⟩|⟨h0,b,rfl,hb⟩
   .refine .inl ⟨_,Sum.inl n,by rw[yS];unfold fL;rw[ZM h0],rfl,by rw[adb,ZA,c2,adS];exact aV,?_⟩
    unfold fL
    rw[ZM h0,<-p5 (λk:List Int=>(Sum.inl (k.headD 0):cq)) (λq hm e=>?_)]
    .rfl
    .obtain⟨j,rfl⟩:=c3.2 h0 q hm
     have:j=n:=aen e
     rw[this]
   .refine .inr ⟨_,xx.map Sum.inl,b,by rw[yS];unfold fL;rw[ZW h0],rfl,hb,by rw[adb,ZA,c2,adS];exact aV,?_⟩
    unfold fL
    rw[ZW h0,<-p6 (λk:List Int=>k.map (Sum.inl:Int->cq)) (λq _ e=>qx e)]
  .cases hd
def sG{K:aC}(h:SX K H₀ ae Z kv kd ow σ H ρ)(s:ag H H1)(hp:H1 p=none)(r:av K (Os ae ow) H1 vs ds)(h2:t≠2)(hl:ks.length=vs.length)(hk:mh t ks)(i:Nat):
  ∃mK,SX K H₀ ae Z kv kd mK (σ.set i (some (.ref p))) (L2.upd H1 p (fL t ks vs)) (Py.put ρ i true (.bj t ks ds)):=by
 by_cases hi:i<ρ.length
 .exact⟨_,h.Ob (u:=fL t ks vs) s hp ku i hi (by show(t==2)=false;simp[h2]) (.inr (.inl ⟨t,ks,vs,ds,rfl,ai,hl,hk,mI hp r⟩))⟩
 .have e1:σ.set i (some (.ref p))=σ:=acf (by rw[<-h.len];exact Z0 hi)
  have e2:Py.put ρ i true (.bj t ks ds)=ρ:=acf (Z0 hi)
  rw[e1,e2]
  exact⟨ow,h.mono (s.trans (ag.upd hp))⟩
def EU{t:Nat}(hN:X.N.Nodup)(hi:X.N[i]?=some x)(hx:Loc X.env.scope x)(hf:X.fn x=true)(h0:t≠0):
  PS X (.Assign [.Name x px] (.Dict [] [] dp) pos) (tC X.K λρ=>if t=2 then none else some (.next (put ρ i true (.bj t [] [])))):=by
 refine(fX hN hi hx zZ rfl (.inl hf)).weak λD' σ H zz=>au λnO=>pF zz λH₀ ae Z kv kd ow ρ out hx hd k=>nO ?_
 split at hd
 .cases hd
 .rename_i h2
  cases hd
  intro p hp
  refine(sG (t:=t) (ks:=[]) (vs:=[]) (ds:=[]) hx (ag.refl _) hp .nil h2 rfl ⟨afl,λ_ _ z=>nomatch z⟩ i).elim λmK h=>?_
  have e:fL t [] []= .dT []:=ZW h0
  rw[e]at h
  exact k mK _ _ h
def EV{t:Nat}(hu:X.A.units+64<cLine)(hN:X.N.Nodup)(hi:X.N[i]?=some x)(hx:Loc X.env.scope x)(hf:X.fn x=true)(h0:t≠0)(hk:PE X ke (tV X.K false fk))(he:PE X e (tV X.K false f)):
  PS X (.Assign [.Name x px] (.Dict [some ke] [e] dp) pos) (tC X.K λρ=>if t=2 then none else((fk ρ).bind λa=>(f ρ).bind λb=>(cv t a).map λx=>D.bj t [x] [b]).map λd=> .next (put ρ i true d)):=by
 refine(fX hN hi hx (DH (pH hu (by decide)) hk he) rfl (.inl hf)).weak λD' σ H zz=>au λnO=>pF zz λH₀ ae Z kv kd ow ρ out hx hd k=>nO ?_
 split at hd
 .cases hd
 .rename_i h2
  refine au λnO=>aa (map_some hd) λd yW qg=>aa (bind_some yW) λda e1 yW=>aa (bind_some yW) λdb e2 yW=>aa (map_some yW) λxx e3 yW=>?_
  subst yW
  subst qg
  refine nO ?_
  intro p hp
  have Vv:=hx.ex.mono (ag.upd (o:= .dT []) hp)
  refine⟨Os ae ow,ρ,da,Vv,e1,λv H1 s1 r1=>⟨Os ae ow,ρ,db,Vv.mono s1,e2,λw H2 s2 r2=>?_⟩⟩
  have xO:H2 p=some (.dT []):=s2 _ _ (s1 _ _ ai)
  rcases gJ (r1.own.mono s2) e3 with⟨z,_⟩|⟨_,b,rfl,hb⟩
  .exact absurd z h0
  .refine⟨b,xx.map Sum.inl,rfl,hb,xO,?_⟩
   let H3:Hp:=λq=>if q=p then none else H2 q
   have k3:∀q,q≠p->H3 q=H2 q:=λq hq=>ZW hq
   have e4:L2.upd H2 p (.dT [(xx.map Sum.inl,w)])=L2.upd H3 p (fL t [xx] [w]):=by
    funext q
    unfold L2.upd
    by_cases hq:q=p
    .rw[ZM hq,ZM hq]
     unfold fL
     rw[ZW h0]
     rfl
    .rw[ZW hq,ZW hq,k3 q hq]
   have s3:ag H H3:=λq u hq=>by
    have Vw:q≠p:=λz=>by rw[z,hp]at hq;cases hq
    rw[k3 q Vw]
    exact s2 _ _ (s1 _ _ (by rw[aq Vw];exact hq))
   have rep3:aY X.K (Os ae ow) H3 w db:=gG (λq us hq=>by
     have Vx:H2 q=some (.tup us):=hq
     show H3 q=some (.tup us)
     rw[k3 q (fK Vx xO (by intro z;cases z))];exact Vx) (λq us hq nq=>⟨by
     rcases hq with hq|⟨ob,hq⟩
     .exact .inl (by rw[k3 q (fK hq xO (by intro z;cases z))];exact hq)
     .exact .inr ⟨ob,by rw[k3 q (fK hq xO (by intro z;cases z))];exact hq⟩,nq⟩) (λq ob u hq=>by rw[k3 q (fK hq xO (by intro z;cases z))];exact hq) r2.own
   obtain⟨mK,h'⟩:=sG (t:=t) (ks:=[xx]) (ds:=[db]) hx s3 (ZM rfl) (.cons rep3 .nil) h2 rfl ⟨by simp,λz=>absurd z h0⟩ i
   rw[e4]
   exact k mK _ _ h'
def Bg(h:kj ρ j=some xs):∃o,ρ[j]?=some (some (o,.lst xs)):=by
 unfold kj at h
 refine slot (ρ:=ρ) (i:=j) (λe=>?_) (λe=>?_) λo d e=>?_<;>rw[e]at h
 .cases h
 .cases h
 cases d with
 |lst=>cases h;exact⟨_,e⟩
 |_=>cases h
def JO{K:aC}(hx:SX K H₀ ae Z kv kd ow σ H ρ)(e1:l3 ρ j=some l)(e2:l.getLast?=some z):
  ∃a vs v,σ[j]?=some (some (.ref a))/\H a=some (.lst vs)/\vs[vs.length-1]?=some v/\SX K H₀ ae Z kv kd ow σ (L2.upd H a (.lst vs.dropLast)) (put ρ j true (.lst l.dropLast))/\aY K (Os ae ow) (L2.upd H a (.lst vs.dropLast)) v z:=by
 refine au λnO=>iD (hx.Om e1) λa vs o1 o2 o3 o4=>?_
 have ll:=o4.length
 have Dk:l[vs.length-1]?=some z:=by rw[ll,<-aeb];exact e2
 refine aa (o4.get Dk) λv g1 g2=>nO ?_
 have rd:av K (Os ae ow) H vs.dropLast l.dropLast:=by
  rw[acC,acC,ll]
  exact o4.take _
 exact⟨a,vs,v,o2,o3,g1,hx.wr o1 o2 o3 rd,g2.upd (.inr ⟨j,o1⟩) o3 trivial⟩
def Bh(hv:PE X y (cP j))(hb:attributeBase y "pop" X.env (eval y X.env)=eval y X.env)(hl:(ap.endLine==cp.line)=true):
  PE X (.Call (.Attribute y "pop" ap) [] [] cp) (λσ H Q=>∃a vs v,σ[j]?=some (some (.ref a))/\H a=some (.lst vs)/\vs[vs.length-1]?=some v/\Q v (L2.upd H a (.lst vs.dropLast))):=
 (Ia acm PySem.F.slot_list_pop PySem.F.type_list_pop Ig hv hb hl).weak λσ H Q ⟨a,vs,v,h1,h2,h3,q⟩=>⟨.ref a,h1,.inl ⟨rfl,vs,du.of h2⟩,a,vs,v,rfl,rfl,h2,h3,q⟩
def Oq(hN:X.N.Nodup)(hi:X.N[i]?=some x)(hx:Loc X.env.scope x)(hf:X.fn x=true){y:Expr}(hv:PE X y (cP j))(hb:attributeBase y "pop" X.env (eval y X.env)=eval y X.env)(hl:(ap.endLine==cp.line)=true):
  PS X (.Assign [.Name x px] (.Call (.Attribute y "pop" ap) [] [] cp) pos) (tC X.K λρ=>(l3 ρ j).bind λl=>(l.getLast?).map λz=> .next (put (put ρ j true (.lst l.dropLast)) i false z)):=
 (fX hN hi hx (Bh hv hb hl) rfl (.inl hf)).weak λD' σ H zz=>by
  refine au λnO=>pF zz λH₀ ae Z kv kd ow ρ out hx hd k=>aa (bind_some hd) λl e1 hd=>aa (map_some hd) λz e2 ah=>?_
  subst ah
  exact tS (JO hx e1 e2) λa vs v h1 h2 h3 h4 h5=>nO<|⟨a,vs,v,h1,h2,h3,k _ _ _ (h4.put h5 i)⟩
end
section
variable {K:aC}{O O':Addr->Prop}{H H' H1 H2 H3:Hp}{a b:Addr}{as:List Addr}{T:List D}
def iw(H H':Hp):Prop:=∀b us,H b=some (.tup us)->H' b=some (.tup us)
def iw.trans(h1:iw H H1)(h2:iw H1 H2):iw H H2:=λb us e=>h2 b us (h1 b us e)
def pj(s:ag H H'):iw H H':=λb us e=>s _ _ e
def gn(e:H a=some u)(hu:qP u):iw H (L2.upd H a o):=λb us h=>by
 rw[aq (fK h e (by intro z;rw[<-z]at hu;exact hu))];exact h
def dR(ht:iw H H')(h:aY K O H v d):aF d=true->aY K O' H' v d:=
 aY.rec (motive_1:=λv d _=>aF d=true->aY K O' H' v d) (motive_2:=λvs ds _=>aW ds=true->av K O' H' vs ds) (λ_=> .bX) (λb _=> .bl b) (λi _=> .int i) (λi _=> .str i)
  (λh _ ih n=> .tup (ht _ _ h) (ih (by simpa[aF]using n))) (λ_ _ _ _ n=>absurd n (by simp[aF])) (λ_ _ _ n=>absurd n (by simp[aF])) (λ_ _ _ _ _ n=>absurd n (by simp[aF])) (λ_=> .nil)
  (λ_ _ i1 i2 n=>by
   simp only[aW,Zu]at n
   exact .cons (i1 n.1) (i2 n.2)) h
theorem eX(ht:iw H H'):∀{vs:List V}{ds:List D},av K O H vs ds->aW ds=true->av K O' H' vs ds
 |_,_,.nil,_=> .nil
 |_,_,.cons r t,n=>by
  simp only[aW,Zu]at n
  exact .cons (dR ht r n.1) (eX ht t n.2)
theorem ic:∀{xs ys:List D},aW (xs++ys)=(aW xs&&aW ys)
 |[],ys=>by simp[aW]
 |x::xs,ys=>by simp[aW,ic (xs:=xs),Bool.and_assoc]
def mL(K:aC)(H:Hp)(b:Addr)(d:D):Prop:=∃ks vs xs,d= .bj 0 ks xs/\H b=some (fL 0 ks vs)/\ks.length=vs.length/\mh 0 ks/\aW xs=true/\av K (λ_=>False) H vs xs
def mL.keep(h:mL K H b d)(ht:iw H H')(e:H' b=H b):mL K H' b d:=by
 exact KY h λks vs xs h1 h2 h3 h4 h5 h6=>⟨ks,vs,xs,h1,by rw[e];exact h2,h3,h4,h5,eX ht h6 h5⟩
def j0:∀{l:List α}{m:List β},Paired R l m->(∀x y,x∈l->R x y->R' x y)->Paired R' l m:=λ{l m} h=>by
 induction h with
 |nil=>exact λ_=> .nil
 |cons r t ih=>exact λk=> .cons (k _ _ ZD r) (ih λx y hx=>k x y (Zy _ hx))
def EW:∀{l:List α}{m:List β}{i:Nat}{y:β},Paired R l m->m[i]?=some y->∃x,l[i]?=some x/\R x y:=λ{l m i y} h=>by
 induction h generalizing i with
 |nil=>intro e;simp at e
 |cons r t ih=>
  intro e
  cases i with
  |zero=>simp at e;subst e;exact⟨_,rfl,r⟩
  |succ i=>exact aa (ih (i:=i) (by simpa using e)) λx h1 h2=>⟨x,by simpa using h1,h2⟩
def yg{α β:Type}{R:α->β->Prop}{x:α}{y:β}(h:R x y):∀{l:List α}{m:List β},Paired R l m->Paired R (l++[x]) (m++[y]):=λ{l m} p=>by
 induction p with
 |nil=>exact .cons h .nil
 |cons r t ih=>exact .cons r ih
def jo:∀{l:List α}{m:List β},Paired R l m->x∈l->∃y,R x y:=λ{l m} p=>by
 induction p with
 |nil=>exact λh=>nomatch h
 |cons r t ih=>exact λh=>(ZK.mp h).elim (λe=>by subst e;exact⟨_,r⟩) ih
structure qR(K:aC)(H:Hp)(a:Addr)(as:List Addr)(T:List D):Prop where
 lst:H a=some (.lst (as.map V.ref))
 bj:Paired (mL K H) as T
 nd:(a::as).Nodup
theorem qR.keep(h:qR K H a as T)(ht:iw H H')(e:∀b,b∈a::as->H' b=H b):qR K H' a as T:=
 ⟨by rw[e a ZD];exact h.lst,j0 h.bj λb d hb hd=>hd.keep ht (e b (Zy _ hb)),h.nd⟩
def qR.there(h:qR K H a as T):∀b,b∈a::as->∃u,H b=some u/\qP u:=λb hb=>by
 rcases ZK.mp hb with e|hb
 .subst e;exact⟨_,h.lst,trivial⟩
 .exact KZ (jo h.bj hb) λd ks vs xs _ h2 _=>⟨_,h2,ku⟩
def qR.mut(h:qR K H a as T):∀b,b∈as->mf H b:=λb hb=>by
 exact KZ (jo h.bj hb) λd ks vs xs _ h2 _=>⟨_,h2,EC⟩
def qR.wa(h:qR K H a as T)(s:ag H H'):qR K H' a as T:=
 h.keep (pj s) λb hb=>by
  refine aa (h.there b hb) λu e _=>?_
  rw[e];exact s _ _ e
def sH(f:D5 as H1 H2):iw H1 H2:=λb us e=>by
 rw[f.out b λhb=>?_]
 .exact e
 .refine bu (f.at_ b hb) λo u e1 mu _=>?_
  rw[e]at e1;cases e1;exact mu
def qR.rep(h:qR K H1 a as T)(f:D5 as H1 H2):aY K O H2 (.ref a) (.lst T)\/O a:=by
 by_cases ho:O a
 .exact .inr ho
 .refine .inl (.lst (.inl (by rw[f.out a (aaf.mp h.nd).1];exact h.lst)) ho ?_)
  have all:∀{bs:List Addr}{S:List D},(∀b∈bs,b∈as)->Paired (mL K H1) bs S->av K O H2 (bs.map V.ref) S:=by
   intro bs S hs p
   induction p with
   |nil=>exact .nil
   |@cons b d bs S hd _ ih=>
    refine KY hd λks vs xs ah h2 h3 h4 h5 h6=>?_
    try clear hd
    subst ah
    refine bu (f.at_ b (hs b ZD)) λo u e1 mu e2=>?_
    rw[h2]at e1
    cases e1
    exact .cons (.bj e2 h3 h4 (eX (sH f) h6 h5)) (ih λc hc=>hs c (Zy _ hc))
  exact all (λb hb=>hb) h.bj
def yh(f:D5 as H1 H2)(s:ag H2 H3):r8 as H1 H3/\ag H1 (fT as H1 H3)/\iw H3 (fT as H1 H3):=by
 have c:r8 as H1 H3:=λb hb=>by
  exact bu (f.at_ b hb) λo u e1 mu e2=>⟨o,u,e1,mu,s _ _ e2⟩
 refine⟨c,λb u e=>?_,λb us e=>?_⟩
 .by_cases hb:b∈as
  .rw[i_ hb];exact e
  .rw[bL hb];exact s _ _ (by rw[f.out b hb];exact e)
 .rw[bL λhb=>?_]
  .exact e
  .refine bu (c b hb) λo u _ _ e2=>?_
   rw[e]at e2;cases e2
def Bi(c:r8 as H1 H3)(hd:∀b∈as,∀zs,H1 b≠some (.lst zs))(h:du K H3 p us):du K (fT as H1 H3) p us:=by
 rcases h with h|h
 .refine .inl ?_
  have hp:p∉as:=λhb=>by
   refine bu (c p hb) λo u e1 mu e2=>?_
   rcases h with h|⟨o',h⟩
   .rw[h]at e2;cases e2
   .rw[h]at e2;cases e2;exact hd p hb us e1
  rcases h with h|⟨o',h⟩
  .exact .inl (by rw[bL hp];exact h)
  .exact .inr ⟨o',by rw[bL hp];exact h⟩
 .exact .inr h
def JP:∀us,fL t ks vs≠ .lst us:=by
 intro us h
 unfold fL at h
 split at h<;>cases h
def qR.Ot(h:qR K H a as T):∀b∈as,∀zs,H b≠some (.lst zs):=λb hb zs e=>by
 refine KZ (jo h.bj hb) λd ks vs xs _ h2 _=>?_
 rw[h2]at e
 exact JP _ (ZY e)
end
section
variable {K:aC}{H₀ bF:Hp}{ae Z:Addr->Prop}{kv:List V}{kd:List D}{ow:Nat->Option Addr}{σ:St}{H H1 H':Hp}{ρ:Env}{a b:Addr}{as:List Addr}{T:List D}{x y:Nat}
def OT(ae:Addr->Prop)(a:Addr)(as:List Addr):Addr->Prop:=λb=>ae b\/b∈a::as
def aY.yi{l:List Addr}(h:aY K (Os ae ow) H v d)(hp:∀p∈l,H p=none):aY K (λb=>Os ae ow b\/b∈l) H v d:=
 gG (λ_ _ h=>h) (λb us h n=>⟨h,λz=>z.elim n λe=>lh (hp b e) h⟩) (λ_ _ _ h=>h) h
def av.yi{l:List Addr}(h:av K (Os ae ow) H v d)(hp:∀p∈l,H p=none):av K (λb=>Os ae ow b\/b∈l) H v d:=
 eN (λ_ _ h=>h) (λb us h n=>⟨h,λz=>z.elim n λe=>lh (hp b e) h⟩) (λ_ _ _ h=>h) h
theorem dZ.yi{l:List Addr}(h:dZ K (Os ae ow) H b d)(hp:∀p∈l,H p=none):dZ K (λb=>Os ae ow b\/b∈l) H b d:=by
 rcases h with⟨vs,ds,e1,e2,e3⟩|⟨t,ks,vs,ds,e1,e2,e3,e4,e5⟩|⟨e1,u',e2,e3⟩
 .exact .inl ⟨vs,ds,e1,e2,e3.yi hp⟩
 .exact .inr (.inl ⟨t,ks,vs,ds,e1,e2,e3,e4,e5.yi hp⟩)
 .exact .inr (.inr ⟨e1,u',e2,e3⟩)
noncomputable def mM(a:Addr)(as:List Addr)(H₀ H:Hp):Hp:=fT (a::as) H H₀
def S7:∀b,Os (OT ae a as) (oZ ow x none) b->Os ae ow b\/b∈a::as:=λb z=>by
 rcases z with (z|z)|⟨j,z⟩
 .exact .inl (.inl z)
 .exact .inr z
 .by_cases hj:j=x
  .rw[hj,aH]at z;cases z
  .rw[aN hj]at z;exact .inl (.inr ⟨j,z⟩)
def SX.tab(h:SX K H₀ ae Z kv kd ow σ H ρ)(s:ag H H')(t:qR K H' a as T)(hn:∀b∈a::as,H b=none)(nt:rm ρ=true)(hx:x<ρ.length):
  ag H₀ (mM a as H₀ H')/\SX K (mM a as H₀ H') (OT ae a as) (λb=>b=a) [] [] (oZ ow x none) (σ.set x (some (.ref a))) H' (Py.put ρ x true uh):=by
 have XD:∀b∈a::as,H₀ b=none:=λb hb=>by
  cases z:H₀ b with
  |none=>rfl
  |some w=>have:=h.same _ _ z;rw[hn b hb]at this;cases this
 have sb:ag H₀ (mM a as H₀ H'):=λb u e=>by
  unfold mM
  rw[bL λhb=>by rw[XD b hb]at e;cases e]
  exact e
 have GO:∀(j:Nat) (o:Bool) (d:D),ρ[j]?=some (some (o,d))->lV d=false:=λj o d e=>by
  unfold rm at nt
  have:=abP.mp nt _ (aac e)
  simpa using this
 refine⟨sb,⟨⟨λb hb=>?_,λj o d' hj=>?_⟩,λj d' hj=>?_,λj k b hj hk=>?_,λj b hj=>?_,λb u e=>?_,.nil,λb hb=>?_,by unfold Py.put;rw[aat,aat];exact h.len⟩⟩
 .rcases S7 b hb with z|z
  .exact aa (h.ex.live b z) λu e q=>⟨u,s _ _ e,q⟩
  .exact t.there b z
 .by_cases ej:j=x
  .subst ej
   unfold Py.put at hj
   rw[Z2 hx]at hj
   cases hj
   exact aa (t.there a ZD) λu e q=>⟨.ref a,Z2 (by rw[<-h.len];exact hx),a,rfl,.inl (.inr ZD),.inr (.inr ⟨rfl,u,e,q⟩)⟩
  .unfold Py.put at hj
   rw[Z1 (aaH ej)]at hj
   refine aa (h.ex.iX j o d' hj) λw h1 h2=>⟨w,by rw[Z1 (aaH ej)];exact h1,?_⟩
   cases o with
   |true=>
    refine bB h2 λb e1 e2 c=>aa (h.own j d' hj) λb' o2 o1=>?_
    rw[h1]at o2
    cases o2
    cases e1
    refine⟨b,rfl,o1.elim (λo1=> .inr ⟨j,by rw[aN ej];exact o1.2⟩) (λo1=> .inl (.inl o1.2.2)),((c.yi hn).mono s).weak S7⟩
   |false=>exact((aY.yi h2 hn).mono s).weak S7
 .by_cases ej:j=x
  .subst ej
   unfold Py.put at hj
   rw[Z2 hx]at hj
   cases hj
   exact⟨a,Z2 (by rw[<-h.len];exact hx),.inr ⟨rfl,rfl,.inr ZD⟩⟩
  .unfold Py.put at hj
   rw[Z1 (aaH ej)]at hj
   refine aa (h.own j d' hj) λb o2 o1=>⟨b,by rw[Z1 (aaH ej)];exact o2,.inl ⟨GO j true d' hj,?_⟩⟩
   rw[aN ej]
   exact o1.elim (λo1=>o1.2) λo1=>by rw[GO j true d' hj]at o1;exact nomatch o1.1
 .by_cases h1:j=x
  .rw[h1,aH]at hj;cases hj
  .by_cases h2:k=x
   .rw[h2,aH]at hk;cases hk
   .rw[aN h1]at hj;rw[aN h2]at hk;exact h.inj j k b hj hk
 .by_cases h1:j=x
  .rw[h1,aH]at hj;cases hj
  .rw[aN h1]at hj
   refine aa (h.ex.live b (.inr ⟨j,hj⟩)) λu e _=>?_
   unfold mM
   rw[bL λhb=>by rw[hn b hb]at e;cases e]
   exact h.new j b hj
 .unfold mM at e
  by_cases hb:b∈a::as
  .rw[i_ hb]at e;exact e
  .rw[bL hb]at e;exact s _ _ (h.same _ _ e)
 .unfold mM
  by_cases lS:b∈a::as
  .exact aa (t.there b lS) λu e _=>⟨u,by rw[i_ lS];exact e⟩
  .rw[bL lS]
   exact h.o0 b (hb.resolve_right lS)
noncomputable def ie(bF H:Hp):Hp:=λb=>match H b with
 |some (.tup us)=>some (.tup us)
 |_=>bF b
def gK(e:H b=some (.tup us)):ie bF H b=some (.tup us):=by unfold ie;rw[e]
def eY(e:∀us,H b≠some (.tup us)):ie bF H b=bF b:=by
 unfold ie
 split
 .rename_i us z;exact absurd z (e us)
 .rfl
theorem SX.ie(h:SX K bF ae Z kv kd ow σ H ρ):SX K (ie bF H) ae Z kv kd ow σ H ρ:=by
 refine⟨h.ex,h.own,h.inj,λi b hb=>?_,λb u e=>?_,h.kp,λb hb=>?_,h.len⟩
 .refine aa (h.ex.live b (.inr ⟨i,hb⟩)) λu e q=>?_
  rw[eY λus z=>by rw[e]at z;cases z;exact q]
  exact h.new i b hb
 .by_cases hb:∃us,H b=some (.tup us)
  .obtain⟨us,z⟩:=hb
   rw[gK z]at e
   cases e
   exact z
  .rw[eY λus z=>hb ⟨us,z⟩]at e
   exact h.same _ _ e
 .by_cases lS:∃us,H b=some (.tup us)
  .obtain⟨us,z⟩:=lS
   exact⟨_,gK z⟩
  .rw[eY λus z=>lS ⟨us,z⟩]
   exact h.o0 b hb
def LS(K:aC)(H₀:Hp)(ae:Addr->Prop)(a:Addr)(as:List Addr)(T:List D)(σ:St)(H:Hp)(ρ:Env):Prop:=
 ∃bF ow,ag H₀ bF/\SX K bF (OT ae a as) (λb=>b=a) [] [] ow σ H ρ/\(∀b,b∈a::as->bF b=H b)/\qR K H a as T
def SX.sJ(hx:SX K bF (OT ae a as) (λb=>b=a) [] [] ow σ H ρ)(t:qR K H a as T)(s:ag H H')(e:∀b,b∈a::as->bF b=H b):∀b,b∈a::as->bF b=H' b:=λb hb=>by
 refine aa (t.there b hb) λu eu _=>?_
 rw[e b hb,eu]
 exact(s _ _ eu).symm
theorem LS.mono(h:LS K H₀ ae a as T σ H ρ)(s:ag H H'):LS K H₀ ae a as T σ H' ρ:=by
 exact iD h λbF ow h1 h2 h3 h4=>⟨bF,ow,h1,h2.mono s,h2.sJ h4 s h3,h4.wa s⟩
def LS.run(h:LS K H₀ ae a as T σ H ρ)(e:f ρ=some (.next ρ'))(k:∀bO H',LS K H₀ ae a as T bO H' ρ'->D'.nx bO H'):tC K f D' σ H:=by
 refine iD h λbF ow h1 h2 h3 h4=>⟨ie bF H,_,_,[],[],ow,ρ,.next ρ',h2.ie,e,λmK bO H' hx=>k bO H' ⟨_,mK,λb u eb=>?_,hx,λb hb=>?_,?_⟩⟩
 .have:=h1 _ _ eb
  by_cases hb:∃us,H b=some (.tup us)
  .obtain⟨us,z⟩:=hb
   rw[gK z,<-z]
   exact h2.same _ _ this
  .rw[eY λus z=>hb ⟨us,z⟩];exact this
 .refine aa (h4.there b hb) λu eu q=>?_
  have e1:ie bF H b=some u:=by
   rw[eY λus z=>by rw[eu]at z;cases z;exact q,h3 b hb];exact eu
  rw[e1]
  exact(hx.same _ _ e1).symm
 .refine h4.keep (λb us z=>hx.same _ _ (gK z)) λb hb=>aa (h4.there b hb) λu eu q=>?_
  have e1:ie bF H b=some u:=by
   rw[eY λus z=>by rw[eu]at z;cases z;exact q,h3 b hb];exact eu
  rw[eu]
  exact hx.same _ _ e1
def EY(h:iV ρ x=true):ρ[x]?=some (some (true,uh)):=by
 unfold iV at h
 refine slot (ρ:=ρ) (i:=x) (λe=>?_) (λe=>?_) λo d e=>?_<;>rw[e]at h
 .cases h
 .cases h
 cases o with
 |false=>cases h
 |true=>cases d with
  |bj t ks vs=>cases ks with
   |nil=>cases vs with
    |nil=>cases eq_of_beq h;exact e
    |cons=>cases h
   |cons=>cases h
  |_=>cases h
def LS.at(h:LS K H₀ ae a as T σ H ρ)(ht:iV ρ x=true):σ[x]?=some (some (.ref a)):=by
 refine iD h λbF ow _ h2 _ _=>aa (h2.own x _ (EY ht)) λb o2 o1=>?_
 rcases o1 with o1|o1
 .exact nomatch o1.1
 .rw[o2,o1.2.1]
theorem LS.lst(h:LS K H₀ ae a as T σ H ρ)(e:kj ρ y=some l):∃b vs,σ[y]?=some (some (.ref b))/\du K H b vs/\vs.length=l.length:=by
 refine au λnO=>iD h λbF ow _ h2 _ _=>?_
 obtain⟨o,e2⟩:=Bg e
 refine aa (h2.ex.iX y o _ e2) λu q1 q2=>nO ?_
 cases o with
 |true=>
  refine au λnO=>bB q2 λb f1 f2 c=>aa c.lst λvs c1 c2=>?_
  subst f1
  exact nO<|⟨b,vs,q1,du.of c1,c2.length⟩
 |false=>
  refine au λnO=>bu (aY.lst_inv q2) λb vs f1 f2 f3=>?_
  subst f1
  exact nO<|⟨b,vs,q1,f2,f3.length⟩
def yj(e:l3 ρ y=some l):kj ρ y=some l:=by
 have:=v3 e
 unfold kj
 rw[this]
end
def Ou(h:cv 0 d=some k):∃i,d= .int i/\k=[i]:=by
 cases d with
 |int i=>cases h;exact⟨i,rfl,rfl⟩
 |tup xs=>cases h
 |_=>cases h
def yk{K:aC}(hx:EX K O σ H ρ)(e1:fi ρ=some xs)(hz:xs.length<=bR)(hd:walk (rn fk fv fr ρ) xs=some T)
  (q:∀p as H',ag H H'->qR K H' p as T->(∀b∈p::as,H b=none)->Q (.ref p) H'):oh 1 fr (tI K true fi) (cb 0) (tB K λ_=>some true) (r_ (tV K false fk) (tV K false fv)) σ H Q:=by
 refine⟨O,ρ,xs,hx,e1,λJ gF H1 s1 AO sq p hp=>?_⟩
 have tQ:=hx.mono s1
 have Jp:eR K (λa=>O a\/a=p) H1 gF:=sq.ok.own hp
 refine⟨λi m H'=>m=xs.length-i/\i<=xs.length/\ag H1 H'/\∃as S bx,H' p=some (.lst (as.map V.ref))/\Paired (mL K H') as S/\(p::as).Nodup /\(∀b∈as,H1 b=none)/\as.length=i/\walk (rn fk fv fr ρ) (xs.drop i)=some bx/\T=S++bx,
  ⟨xs.length,rfl,aab _,ag.upd hp,[],[],T,ai,.nil,by simp,λ_ z=>(nomatch z),rfl,hd,rfl⟩,?_⟩
 rintro i mm H2 ⟨rfl,hi,s2,as,S,bx,ep,pd,nd,hn,hl,hw,ho⟩
 refine cy (AO _ H2 (Jp.mono s2)) λgo zl stop=>?_
 by_cases bg:i<xs.length
 .refine .inr ⟨go i bg,λx H3 hy=>?_⟩
  have SW:xs[i]?=some xs[i]:=by simp[bg]
  obtain⟨s3,rx⟩:=zl i x H3 _ hy SW
  have N5:H3 p=some (.lst (as.map V.ref)):=s3 _ _ ep
  have SY:EX K (λa=>O a\/a=p) σ H3 ρ:=tQ.ext hp (s2.trans s3) N5
  have dr:xs.drop i=xs[i]::xs.drop (i+1):=(aaG bg)
  rw[dr,walk]at hw
  show tB K (λ_=>some true) ((List.replicate 1 none++iS fr σ).set 0 (some x)) H3 _
  have XE:(List.replicate 1 none++iS fr σ).set 0 (some x)=some x::iS fr σ:=rfl
  rw[XE]
  have N6:=SY.inner (.cons rx .nil) fr
  refine⟨_,_,true,N6,rfl,λH4 s4=>iR λGP Qa=>?_⟩
  cases en:rn fk fv fr ρ xs[i]with
  |none=>rw[en]at hw;cases hw
  |some o=>
  have GQ:=en
  unfold rn at GQ
  refine au λnO=>aa (bind_some GQ) λkk g0 GQ=>aa (bind_some g0) λdk g1 g2=>aa (bind_some GQ) λd g3 GQ=>nO ?_
  split at GQ
  .rename_i va
   refine au λnO=>?_
   cases GQ
   rw[en]at hw
   refine aa (map_some hw) λsv vQ AF=>aa (Ou g2) λki ah aM=>?_
   subst ah
   subst aM
   refine nO ?_
   have Vy:=(N6.mono s4).mono (ag.upd (o:= .dK []) Qa)
   refine⟨_,_,_,Vy,g1,λkv H5 s5 r5=>⟨_,_,d,Vy.mono s5,g3,λv H6 s6 r6=>?_⟩⟩
   have JQ:H6 GP=some (.dK []):=s6 _ _ (s5 _ _ ai)
   have Qb:ag H4 H6:=((ag.upd (o:= .dK []) Qa).trans s5).trans s6
   have S8:H6 p=some (.lst (as.map V.ref)):=Qb _ _ (s4 _ _ N5)
   have Qc:p≠GP:=fK S8 JQ (by intro z;cases z)
   have XF:ag H2 H6:=(s3.trans s4).trans Qb
   have JR:∀b u,H4 b=some u->b≠GP:=λb u e z=>by rw[z,Qa]at e;cases e
   refine⟨ki,r5.int,JQ,as.map V.ref,xs.length-(i+1),by rw[aq Qc];exact S8,by rw[ZA,hl,cE];exact Zr bg hz,(afr (acB bg)),rfl,bg,λbb oo eb=>?_,as++[GP],S++[.bj 0 [[ki]] [d]],sv,?_,?_,?_,?_,?_,vQ,?_⟩
   .have e4:H4 bb=some oo:=s4 _ _ (s3 _ _ (s2 _ _ eb))
    rw[aq (bS eb hp),aq (JR _ _ e4)]
    exact Qb _ _ e4
   .rw[aam];exact ai
   .have t6:iw H6 (L2.upd (L2.upd H6 GP (.dK [(Sum.inl ki,v)])) p (.lst (as.map V.ref++[.ref GP]))):=(gn (o:= .dK [(Sum.inl ki,v)]) JQ trivial).trans (gn (u:= .lst (as.map V.ref)) (by rw[aq Qc];exact S8) trivial)
    have old:Paired (mL K (L2.upd (L2.upd H6 GP (.dK [(Sum.inl ki,v)])) p (.lst (as.map V.ref++[.ref GP])))) as S:=j0 pd λb dd hb yW=>yW.keep ((pj XF).trans t6) (by
     refine au λnO=>b6 yW λks vs ys _ h2 _=>nO ?_
     have e4:H4 b=some (fL 0 ks vs):=s4 _ _ (s3 _ _ h2)
     have XG:b≠p:=λz=>by rw[aaf]at nd;exact nd.1 (z▸hb)
     rw[aq XG,aq (JR _ _ e4),h2]
     exact Qb _ _ e4)
    refine yg ⟨[[ki]],[v],[d],rfl,?_,rfl,⟨by simp,λ_ k hk=>⟨ki,by simpa using hk⟩⟩,by simp[aW,va],.cons (dR t6 r6.own va) .nil⟩ old
    rw[aq (aaH Qc),ai,jg];rfl
   .rw[<-List.cons_append,abm]
    refine⟨nd,by simp,λb hb c hc e=>?_⟩
    rw[ZE]at hc
    rw[e,hc]at hb
    rcases ZK.mp hb with z|z
    .exact Qc z.symm
    .exact au λnO=>KZ (jo pd z) λdd ks vs ys _ h2 _=>nO<|JR _ _ (s4 _ _ (s3 _ _ h2)) rfl
   .intro b hb
    rcases ZZ.mp hb with hb|hb
    .exact hn b hb
    .rw[ZE]at hb
     subst hb
     cases z:H1 b with
     |none=>rfl
     |some w=>have:=s4 _ _ (s3 _ _ (s2 _ _ z));rw[Qa]at this;cases this
   .rw[ZQ,aah,hl]
   .rw[ho,<-AF,aai];rfl
  .cases GQ
 .have ei:i=xs.length:=(aal hi (Z0 bg))
  subst ei
  refine .inl ⟨stop,?_⟩
  rw[aeB,walk]at hw
  cases hw
  rw[aaK]at ho
  subst ho
  refine q p as H2 (s1.trans s2) ⟨ep,pd,nd⟩ λb hb=>?_
  have h1:H1 b=none:=(ZK.mp hb).elim (λz=>z▸hp) (hn b)
  cases z:H b with
  |none=>rfl
  |some w=>have:=s1 _ _ z;rw[h1]at this;cases this
section
variable {K:aC}{H₀ bF:Hp}{ae EZ Z:Addr->Prop}{kv:List V}{kd:List D}{ow:Nat->Option Addr}{σ:St}{H H1 H':Hp}{ρ:Env}{a b:Addr}{as:List Addr}{T:List D}{x y r:Nat}{u u':HO}
def Bj{α β:Type}{R R':α->β->Prop}{x:α}{y':β}(hy:R' x y'):∀{l:List α}{m:List β}{q:Nat},Paired R l m->l.Nodup->l[q]?=some x->(∀z y,z∈l->z≠x->R z y->R' z y)->Paired R' l (m.set q y'):=λ{l m q} p=>by
 induction p generalizing q with
 |nil=>intro _ e;simp at e
 |cons r t ih=>
  intro nd e k
  rw[aaf]at nd
  cases q with
  |zero=>
   simp at e
   subst e
   exact .cons hy (j0 t λz y hz=>k z y (Zy _ hz) λe=>nd.1 (e▸hz))
  |succ q=>
   have e':=by simpa using e
   exact .cons (k _ _ ZD (λe2=>nd.1 (e2▸aac e')) r) (ih nd.2 e' λz y hz=>k z y (Zy _ hz))
def SX.XH(h:SX K bF EZ Z kv kd ow σ H ρ)(ob:EZ b)(e:H b=some u)(hu:qP u)(EJ:qP u')(hz:∀c,Z c->c≠b):SX K (L2.upd bF b u') EZ Z kv kd ow σ (L2.upd H b u') ρ:=by
 have oa:Os EZ ow b:= .inl ob
 obtain⟨w,hw⟩:=h.o0 b ob
 have fy:∀i c,ow i=some c->c≠b:=λi c hc z=>by
  have:=h.new i c hc
  rw[z,hw]at this
  cases this
 refine⟨⟨λc hc=>?_,λj o d' hj=>?_⟩,h.own,h.inj,λi c hc=>by rw[aq (fy i c hc)];exact h.new i c hc,λc v hc=>?_,h.kp.upd oa e hu,λc hc=>?_,h.len⟩
 .by_cases qS:c=b
  .subst qS;exact⟨u',ai,EJ⟩
  .exact aa (h.ex.live c hc) λus q qo=>⟨us,by rw[aq qS];exact q,qo⟩
 .refine aa (h.ex.iX j o d' hj) λw q1 q2=>⟨w,q1,?_⟩
  cases o with
  |true=>
   refine au λnO=>bB q2 λc e1 e2 c'=>aa (h.own j d' hj) λb' o2 o1=>?_
   rw[q1]at o2
   cases o2
   cases e1
   exact nO<|⟨c,rfl,e2,c'.upd (o1.elim (λo1=>fy j c o1.2) λo1=>hz c o1.2.1) oa e hu⟩
  |false=>exact aY.upd q2 oa e hu
 .by_cases qS:c=b
  .subst qS;rw[ai]at hc⊢;exact hc
  .rw[aq qS]at hc⊢;exact h.same _ _ hc
 .by_cases qS:c=b
  .subst qS;exact⟨u',ai⟩
  .obtain⟨v,hv⟩:=h.o0 c hc
   exact⟨v,by rw[aq qS];exact hv⟩
theorem LS.put(h:LS K H₀ ae a as T σ H ρ)(rp:aY K O' H v d)(n:aF d=true):LS K H₀ ae a as T (σ.set r (some v)) H (Py.put ρ r false d):=by
 exact iD h λbF ow h1 h2 h3 h4=>⟨bF,_,h1,h2.put (dR (λ_ _ e=>e) rp n) r,h3,h4⟩
def LS.own(h:LS K H₀ ae a as T σ H ρ)(e:l3 ρ y=some l):∃b vs O',σ[y]?=some (some (.ref b))/\H b=some (.lst vs)/\av K O' H vs l/\
  ∀CK l' H',ag H H'->av K O' H' CK l'->LS K H₀ ae a as T σ (L2.upd H' b (.lst CK)) (Py.put ρ y true (.lst l')):=by
 refine au λnO=>iD h λbF ow h1 h2 h3 h4=>iD (h2.Om e) λb vs o1 o2 o3 o4=>nO ?_
 refine⟨b,vs,_,o2,o3,o4,λCK l' H' s rr=>?_⟩
 have hb:∀c,c∈a::as->c≠b:=λc hc z=>by
  have n:=h2.new y b o1
  refine aa (h4.there c hc) λu eu _=>?_
  rw[<-z,h3 c hc,eu]at n
  cases n
 have Vz:=s _ _ o3
 refine⟨bF,ow,h1,(h2.mono s).wr o1 o2 Vz rr,λc hc=>?_,(h4.wa s).keep (gn Vz trivial) λc hc=>aq (hb c hc)⟩
 rw[aq (hb c hc)]
 exact h2.sJ h4 s h3 c hc
def LS.dput(h:LS K H₀ ae a as T σ H ρ){xs:List D}{ki:Int}(e:T[q]?=some (.bj 0 ks xs))(hk:[ki]∉ks)(hl:ks.length<bR)(rp:aY K O' H v d)(n:aF d=true)(hn:∀b∈a::as,H₀ b=none):
  ∃b H',as[q]?=some b/\IH H b (.int ki) v H'/\LS K H₀ ae a as (T.set q (.bj 0 (ks++[[ki]]) (xs++[d]))) σ H' ρ:=by
 refine au λnO=>iD h λbF ow h1 h2 h3 h4=>?_
 obtain⟨b,e1,Qd,vs,Zg,e2,g1,g2,g3,g4,g5⟩:=EW h4.bj e
 cases e2
 refine nO ?_
 have hb:b∈as:=aac e1
 have nd:=aaf.mp h4.nd
 have rS:a≠b:=λz=>nd.1 (z▸hb)
 have JS:f_ ((ks.map λk=>(Sum.inl (k.headD 0):cq)).zip vs) (Sum.inl ki) v=((ks++[[ki]]).map λk=>(Sum.inl (k.headD 0):cq)).zip (vs++[v]):=by
  have:=qA (λk:List Int=>(Sum.inl (k.headD 0):cq)) (x:=[ki]) (v:=v) g2 (λk hm he=>by
   obtain⟨j,rfl⟩:=g3.2 rfl k hm
   have:j=ki:=aen he
   rw[this]) hk
  exact this
 refine⟨b,L2.upd H b (fL 0 (ks++[[ki]]) (vs++[v])),e1,.inl ⟨_,Sum.inl ki,by rw[g1,jg],rfl,by rw[adb,ZA,g2,adS,cE,<-g2];exact hl,by rw[JS,jg]⟩,?_⟩
 have ts:iw H (L2.upd H b (fL 0 (ks++[[ki]]) (vs++[v]))):=gn g1 ku
 refine⟨L2.upd bF b (fL 0 (ks++[[ki]]) (vs++[v])),ow,λc w ec=>?_,h2.XH (.inr (Zy _ hb)) g1 ku ku (λc hc=>by rw[hc];exact rS),λc hc=>?_,⟨by rw[aq rS];exact h4.lst,?_,h4.nd⟩⟩
 .have qS:c≠b:=λz=>by rw[z,hn b (Zy _ hb)]at ec;cases ec
  rw[aq qS];exact h1 _ _ ec
 .by_cases qS:c=b
  .subst qS;rw[ai,ai]
  .rw[aq qS,aq qS];exact h3 c hc
 .refine Bj ⟨ks++[[ki]],vs++[v],xs++[d],rfl,ai,by simp[g2],⟨?_,λ_ k hm=>?_⟩,by rw[ic,g4];simp[aW,n],(eX ts g5 g4).append (.cons (dR ts rp n) .nil)⟩ h4.bj nd.2 e1 λz y hz XI hd=>hd.keep ts (aq XI)
  .rw[abm]
   exact⟨g3.1,by simp,λa ha b hb e=>hk (by rw[ZE.mp hb]at e;exact e▸ha)⟩
  .rcases ZZ.mp hm with hm|hm
   .exact g3.2 rfl k hm
   .exact⟨ki,ZE.mp hm⟩
def LS.call(h:LS K H₀ ae a as T σ H1 ρ){Q:VK}(rz:aY K O' H1 v z)(nz:aF z=true)(fe:f [.lst T,z]=some d)(hn:∀ds d,f ds=some d->ds.length=n)
  (k:∀w H3,ag H1 (fT as H1 H3)->aY K (λ_=>False) H3 w d->iw H3 (fT as H1 H3)->r8 as H1 H3->Q w (fT as H1 H3)):
  ∃Ov:List Addr,Ov.Nodup/\(∀b∈Ov,mf H1 b)/\∀H2,D5 Ov H1 H2->uA K n f ([.ref a,v]++[]) H2 (λw H3=>r8 Ov H1 H3/\Q w (fT Ov H1 H3)) E0:=by
 refine iD h λbF ow h1 h2 h3 h4=>⟨as,(aaf.mp h4.nd).2,h4.mut,λH2 fz=>⟨λ_=>False,[.lst T,z],d,λ_ z=>z.elim,.cons ((h4.rep fz).resolve_right id) (.cons (dR (sH fz) rz nz) .nil),fe,hn _ _ fe,λw H3 s xv=>?_⟩⟩
 exact cy (yh fz s) λc s' t=>⟨c,k w H3 s' xv t c⟩
def LS.ret(h:LS K H₀ ae a as T σ H ρ)(hn:∀b∈a::as,H₀ b=none)(o0:∀b,ae b->∃w,H₀ b=some w)(fz:D5 as H H2):ag H₀ H2/\aY K ae H2 (.ref a) (.lst T):=by
 refine iD h λbF ow h1 h2 h3 h4=>⟨λb u e=>?_,(h4.rep fz).resolve_right λz=>?_⟩
 .rw[fz.out b λhb=>by rw[hn b (Zy _ hb)]at e;cases e]
  exact h2.same _ _ (h1 _ _ e)
 .obtain⟨w,hw⟩:=o0 a z
  rw[hn a ZD]at hw
  cases hw
end
abbrev JT(K:aC)(n:Nat)(f:List D->Option D)(t:TA):TE:=λσ H Q=>t σ H λvs H1=>∃as:List Addr,as.Nodup/\(∀b∈as,mf H1 b)/\∀H2,D5 as H1 H2->uA K n f (vs++[]) H2 (λv H3=>r8 as H1 H3/\Q v (fT as H1 H3)) E0
abbrev E1(y:Nat):TE:=λσ H Q=>∃a vs v,σ[y]?=some (some (.ref a))/\H a=some (.lst vs)/\vs[vs.length-1]?=some v/\Q v (L2.upd H a (.lst vs.dropLast))
abbrev Bk(K:aC)(y:Nat):TT:=λσ H Q=>cP y σ H λx H'=>∃k,HN K x H' k/\Q k H'
section
variable {K:aC}{H₀:Hp}{ae:Addr->Prop}{σ:St}{H:Hp}{ρ:Env}{a:Addr}{as:List Addr}{T:List D}{x y:Nat}
def Bl(h:iV ρ x=true)(ne:x≠y):iV (Py.put ρ y o d) x=true:=by
 unfold iV Py.put at *
 rw[Z1 (aaH ne)]
 exact h
def LS.VA(h:LS K H₀ ae a as T σ H ρ)(e:kj ρ y=some l)(q:Q (!l.isEmpty) H):Bk K y σ H Q:=by
 refine bu (h.lst e) λb vs h1 h2 h3=>?_
 have he:(!vs.isEmpty)=!l.isEmpty:=by cases vs<;>cases l<;>simp at h3⊢
 exact⟨.ref b,h1,!vs.isEmpty,.inl ⟨vs,h2,rfl⟩,by rw[he];exact q⟩
def Bm(h:t {D' with nx:=u D'} σ H):pK t u D' σ H:=h
def LS.ifs(h:LS K H₀ ae a as T σ H ρ)(e:kj ρ y=some l)(q:if(!l.isEmpty)=true then t D' σ H else u D' σ H):CU (Bk K y) t u D' σ H:=by
 unfold CU
 exact h.VA e q
def LS.turn(h:LS K H₀ ae a as T σ H ρ)(hn:∀b∈a::as,H₀ b=none)(ht:iV ρ x=true)(yV:x≠y)(el:l3 ρ y=some l)(Ow:∀ds d,F f ds=some d->ds.length=n1)(Ox:∀ds d,F g ds=some d->ds.length=n2)
  (e:iW F x y r f c2 m c3 p q u g w T ρ l=some (T',ρ')) (k:∀bO H',LS K H₀ ae a as T' bO H' ρ'->iV ρ' x=true->D'.nx bO H'):
  pK (nF (JT K n1 (F f) (cB (cP x) (cB (E1 y) lP))) (cb r)) (pK (tC K c2) (pK (CU (Bk K m) (pK (tC K c3) (pK (vp (F4 (C' K) (cP x) (tV K false p)) (tV K false q) (tV K false u)) (pK (u5 (Pw K "list" (AA K) (cP y) (cB (JT K n2 (F g) (cB (cP x) (cB (tV K false w) lP))) lP))) uZ))) uZ) uZ)) D' σ H:=by
 unfold iW at e
 refine au λnO=>?_
 obtain⟨z,e1,e⟩:=bind_some e
 obtain⟨d,e2,e⟩:=bind_some e
 split at e
 .rename_i Oy
  rw[Zu]at Oy
  obtain⟨o,e3,e⟩:=bind_some e
  cases o with
  |next Gk=>
   dsimp only at e
   split at e
   .rename_i S9
    obtain⟨ms,e4,e⟩:=bind_some e
    obtain⟨b,vs,O',y1,y2,y3,y4⟩:=h.own el
    have pV:l[vs.length-1]?=some z:=by rw[y3.length,<-aeb];exact e1
    obtain⟨v,z1,z2⟩:=y3.get pV
    refine nO ?_
    have yd:av K O' H vs.dropLast l.dropLast:=by
     rw[acC,acC,y3.length]
     exact y3.take _
    have h1:=y4 vs.dropLast l.dropLast H (ag.refl _) yd
    have XJ:aY K (λ_=>False) (L2.upd H b (.lst vs.dropLast)) v z:=dR (gn y2 trivial) z2 Oy.1
    refine⟨.ref a,h.at ht,b,vs,v,y1,y2,z1,h1.call (Q:=λw H'=>pK (tC K c2) _ D' (σ.set r (some w)) H') XJ Oy.1 e2 Ow λw H3 s3 r3 t3 S_=>?_⟩
    have h2:=(h1.mono s3).put (r:=r) (dR (O':=λ_=>False) t3 r3 Oy.2) Oy.2
    refine h2.run e3 λxa H4 h3=>Bm (h3.ifs e4 ?_)
    generalize ms.isEmpty=bm at e⊢
    refine au λnO=>?_
    cases bm with
    |true=>
     cases e
     exact nO<|kL (k xa H4 h3 S9)
    |false=>
     rw[ZW Zz]at e
     obtain⟨o,e5,e⟩:=bind_some e
     cases o with
     |next ui=>
      dsimp only at e
      split at e
      .rename_i Ta
       obtain⟨uv,e6,e⟩:=bind_some e
       split at e
       .rename_i hu
        obtain⟨pi,XM,e⟩:=bind_some e
        obtain⟨dp,e7,VB⟩:=bind_some XM
        have XN:dp= .int pi:=by cases dp<;>first|(cases VB;rfl)|cases VB
        subst XN
        obtain⟨pq,e8,e⟩:=bind_some e
        obtain⟨kk,XO,e⟩:=bind_some e
        obtain⟨dk,e9,Qf⟩:=bind_some XO
        obtain⟨ki,rfl,rfl⟩:=Ou Qf
        obtain⟨T2,vZ,e⟩:=bind_some e
        obtain⟨wv,XQ,e⟩:=bind_some e
        split at e
        .rename_i hw
         obtain⟨zd,aa,e⟩:=bind_some e
         cases zd with
         |lst zs=>
          dsimp only at e
          split at e
          .rename_i XR
           obtain⟨ws,bB,e⟩:=bind_some e
           split at e
           .rename_i aV
            cases e
            refine nO<|iR (h3.run e5 λXS H5 h5=>?_)
            refine au λnO=>?_
            obtain⟨bF,ow,b1,b2,b3,b4⟩:=id h5
            refine nO ?_
            refine⟨_,ui,uv,b2.ex,e6,λv6 H6 s6 r6=>⟨.ref a,(h5.mono s6).at Ta,_,ui,.int pi,(b2.mono s6).ex,e7,λv7 H7 s7 r7=>?_⟩⟩
            have h7:=(h5.mono s6).mono s7
            have t7:=b4.wa (s6.trans s7)
            refine au λnO=>?_
            unfold gR at vZ
            split at vZ
            .rename_i ks xs eT
             split at vZ
             .rename_i CH
              cases vZ
              have lT:as.length=T.length:=acV t7.bj
              obtain⟨b8,XT,Tb⟩:∃c,F_ (as.map V.ref) pi=some (V.ref c)/\as[pq]?=some c:=by
               have bg:pq<as.length:=by rw[lT];exact(ZL.mp eT).1
               refine⟨as[pq],?_,Zt bg⟩
               unfold F_
               rw[ZA,lT,<-mj,e8]
               show(as.map V.ref)[pq]?=_
               rw[ZJ,Zt bg]
               rfl
              refine nO<|⟨a,_,pi,.ref b8,rfl,r7.int,du.of t7.lst,XT,_,ui,.int ki,((b2.mono s6).mono s7).ex,e9,λv9 H9 s9 r9=>?_⟩
              have h9:=h7.mono s9
              refine au λnO=>?_
              obtain⟨b',RB,f1,f2,f3⟩:=h9.dput eT CH.2 CH.1 (r6.own.mono (s7.trans s9)) hu hn
              rw[Tb]at f1
              cases f1
              refine nO ?_
              refine⟨_,RB,rfl,by rw[r9.int];exact f2,?_⟩
              refine au λnO=>?_
              obtain⟨c,us,O2,c1,xT,S_,c4⟩:=f3.own bB
              obtain⟨XU,Zh,d1,d2,d3,d4⟩:=id f3
              refine nO ?_
              refine⟨.ref c,c1,.inl ⟨rfl,us,du.of xT⟩,.ref a,f3.at Ta,_,ui,wv,d2.ex,XQ,λv11 RC K_ XW=>?_⟩
              refine(f3.mono K_).call (Q:=λw2 H'=>AA K (.ref c) [w2] H' λ_ Vm=>D'.nx XS Vm) XW.own hw aa Ox λw2 Zi XX XY XZ X0=>au λnO=>?_
              obtain⟨bb,zv,rfl,g1,g2⟩:=XY.lst_inv
              refine nO ?_
              have CJ:=K_.trans XX
              refine⟨c,bb,us,zv,rfl,rfl,CJ _ _ xT,Bi X0 (d4.wa K_).Ot g1,by rw[cE,S_.length,g2.length];exact aV,?_⟩
              exact k _ _ (c4 _ _ _ CJ ((S_.mono CJ).append (eX XZ g2 XR))) (Bl Ta yV)
             .cases vZ
            .cases vZ
           .cases e
          .cases e
         |_=>cases e
        .cases e
       .cases e
      .cases e
     |_=>cases e
   .cases e
  |_=>cases e
 .cases e
end
def JU(h:te σ H λv H1=>g v σ H1 D'.nx):nF te g D' σ H:=h
section
variable {X:Cx}{s1 s2 sr s5 s6 ss se:Stmt}{e1 e2 em:Expr}{wp ip rp:Pos}{x y r f m g n1 n2:Nat}{fr:List Nat}{F:FT}{fi:Env->Option (List D)}{fk fv p q u w:Env->Option D}{c1 c2 c3:Env->Option lZ}
def Oz(hp:PassesOwn (model X.prog X.w) X.A X.env X.xe)(Ow:∀ds d,F f ds=some d->ds.length=n1)(Ox:∀ds d,F g ds=some d->ds.length=n2)
  (P1:PS X s1 (nF (oh 1 fr (tI X.K true fi) (cb 0) (tB X.K λ_=>some true) (r_ (tV X.K false fk) (tV X.K false fv))) (cb x)))
  (P2:PS X s2 (tC X.K c1)) (Py:PT X e2 (Bk X.K y)) (Pr:PS X sr (nF (JT X.K n1 (F f) (cB (cP x) (cB (E1 y) lP))) (cb r))) (P5:PS X s5 (tC X.K c2)) (Pm:PT X em (Bk X.K m)) (P6:PS X s6 (tC X.K c3))
  (Ps:PS X ss (vp (F4 (C' X.K) (cP x) (tV X.K false p)) (tV X.K false q) (tV X.K false u))) (Pe:PS X se (u5 (Pw X.K "list" (AA X.K) (cP y) (cB (JT X.K n2 (F g) (cB (cP x) (cB (tV X.K false w) lP))) lP)))) (Pt:PE X e1 (cP x)) (n:Nat):
  jF X [s1,s2,.While e2 [sr,s5,.If em [s6,ss,se] [] ip] [] wp,.Return (some e1) rp] (tC X.K λρ=>(fi ρ).bind λxs=>if xs.length<=bR/\x≠y/\x<ρ.length/\rm ρ=true then(walk (rn fk fv fr ρ) xs).bind λT=>
   (c1 (put ρ x true uh)).bind λo=>match o with
   | .next oq=>if iV oq x then(fZ (iW F x y r f c2 m c3 p q u g w) y n T oq).map λT=> .ret (.lst T) else none
   |_=>none
  else none):=
 (bC P1 (bC P2 (bC (qX hp Py (bC Pr (bC P5 (bC (zi Pm (bC P6 (bC Ps (bC Pe gz))) gz) gz)))) (bC (pL (D6 Pt)) gz)))).weak λD' σ H zz=>by
  refine au λnO=>pF zz λH₀ ae Z kv kd ow ρ out hx hd k=>aa (bind_some hd) λxs pV hd=>nO ?_
  split at hd
  .rename_i hc
   refine au λnO=>yL hc λhz yV X1 X2=>aa (bind_some hd) λT Dk hd=>aa (bind_some hd) λo e3 hd=>nO<|abf λnO=>?_
   cases o with
   |next oq=>
    refine nO ?_
    dsimp only at hd
    split at hd
    .rename_i RV
     refine aa (map_some hd) λT' e4 ah=>?_
     subst ah
     refine Bm (JU (yk hx.ex pV hz Dk λa as H' s t hn=>?_))
     have P':∀b∈a::as,H₀ b=none:=λb hb=>by
      cases z:H₀ b with
      |none=>rfl
      |some w'=>have:=hx.same _ _ z;rw[hn b hb]at this;cases this
     obtain⟨sb,tQ⟩:=hx.tab s t hn X2 X1
     have L0:LS X.K H₀ ae a as T (σ.set x (some (.ref a))) H' (put ρ x true uh):=⟨_,_,sb,tQ,λb hb=>i_ hb,t⟩
     refine L0.run e3 λHx H1 L1=>⟨λi σ H=>∃S ρ,LS X.K H₀ ae a as S σ H ρ/\iV ρ x=true/\fZ (iW F x y r f c2 m c3 p q u g w) y i S ρ=some T',⟨n,T,oq,L1,RV,e4⟩,?_⟩
     rintro i yO H2 ⟨S,nC,Lm,VC,e5⟩
     refine au λnO=>?_
     cases i with
     |zero=>cases e5
     |succ i=>
      refine nO ?_
      rw[fZ]at e5
      refine aa (bind_some e5) λl e6 e5=>Lm.VA (yj e6) ?_
      cases hl:l.isEmpty with
      |true=>
       rw[hl,ZM rfl]at e5
       cases e5
       refine kL ?_
       refine⟨.ref a,Lm.at VC,as,?_,?_,λH3 fz=>?_⟩
       .exact au λnO=>iD Lm λ_ _ _ _ _ t4=>nO<|(aaf.mp t4.nd).2
       .exact au λnO=>iD Lm λ_ _ _ _ _ t4=>nO<|t4.mut
       .obtain⟨q1,q2⟩:=Lm.ret P' hx.o0 fz
        exact k _ _ q1 q2
      |false=>
       rw[hl,ZW Zz]at e5
       refine au λnO=>?_
       obtain⟨⟨S',ρ'⟩,e7,e5⟩:=bind_some e5
       refine nO ?_
       refine iR ⟨λbO H'=>∃S ρ,LS X.K H₀ ae a as S bO H' ρ/\iV ρ x=true/\fZ (iW F x y r f c2 m c3 p q u g w) y i S ρ=some T',λbO H' h=>⟨i,abL i,h⟩,?_⟩
       exact Lm.turn P' VC yV e6 Ow Ox e7 λbO H' L3 S9=>⟨S',ρ',L3,S9,e5⟩
    .cases hd
   |_=>cases hd
  .cases hd
end
section
variable {X:Cx}{c e:Expr}{st:Stmt}{pos px:Pos}{x:Str}{i:Nat}
def OA(hi:X.N[i]?=some x)(hv:uU X.env.scope x)(JI:(x==("__debug__":Str))=false)(tN:(x==("__classdict__":Str))=false)(hl:(ap.endLine==cp.line)=true)(he:PE X e (tV X.K false f))(hn:bH e=true):
  PS X (.Expr (.Call (.Attribute (.Name x px) "append" ap) [e] [] cp) pos) (tC X.K λρ=>(f ρ).bind λd=>match ρ[i]? with
   |some (some (true,.lst xs))=>if xs.length<bR then some (.next (put ρ i true (.lst (xs++[d])))) else none
   |_=>none):=
 (u6 (zE acm PySem.F.slot_list_append PySem.F.type_list_append n_ (bG hi hv JI tN) (aZ he cf (bM hn)) rfl (by rw[bM hn];rfl) hl (bM hn) rfl) rfl).weak λD' σ H zz=>by
  refine au λnO=>pF zz λH₀ ae Z kv kd ow ρ out hx hd k=>aa (bind_some hd) λd e1 hd=>nO ?_
  split at hd
  .rename_i xs GH
   split at hd
   .rename_i hz
    refine au λnO=>?_
    cases hd
    refine aa (hx.own i _ GH) λa o2 o1=>?_
    have o1:ow i=some a:=o1.elim (λz=>z.2) λz=>nomatch z.1
    refine aa (hx.ex.iX i true _ GH) λw' q1 q2=>bB q2 λa' e6 e8 c0=>aa c0.lst λvs e9 vZ=>?_
    rw[o2]at q1
    cases q1
    cases e6
    refine nO ?_
    refine⟨.ref a,o2,.inl ⟨rfl,vs,du.of e9⟩,Os ae ow,ρ,d,hx.ex,e1,λv H1 s1 r1=>?_⟩
    have tQ:=hx.mono s1
    have Qf:=s1 _ _ e9
    refine⟨a,vs,v,rfl,rfl,Qf,?_,?_⟩
    .rw[cE,vZ.length];exact hz
    .exact k ow _ _ (tQ.wr o1 o2 Qf ((vZ.mono s1).append (.cons r1.own .nil)))
   .cases hd
  .cases hd
end
structure Cs(X:Cx)(G:GT)(F:FT):Prop where
 ct:Ct X G F
 fn:∀x,X.fn x=true
 nd:X.N.Nodup
 pass:PassesOwn (model X.prog X.w) X.A X.env X.xe
structure cH(G:GT)(F:FT)(c:C):Prop where
 s:∀X,Cs X G F->∀st,JE G c X.N X.env.scope st=true->PS X st (tC X.K (ex F c))
 ss:∀X,Cs X G F->∀tR,gT G c X.N X.env.scope tR=true->jF X tR (tC X.K (ex F c))
section
variable {G:GT}{F:FT}
def cH.fU(s:∀X,Cs X G F->∀st,JE G c X.N X.env.scope st=true->PS X st (tC X.K (ex F c)))(n:∀N sc tR,gT G c N sc tR=false:=by intro _ _ _;rfl):cH G F c:=⟨s,λX hC tR h=>absurd h (by rw[n];exact Zz)⟩
def E2:cH G F .skip where
 s:=λX hC st h=>ff h
 ss:=λX hC tR h=>by
  cases tR with
  |nil=>exact JG
  |cons _ _=>exact ff h
def JV(ha:cH G F a)(hb:cH G F b):cH G F (.seq a b) where
 s:=λX hC st h=>ff h
 ss:=λX hC tR h=>by
  cases tR with
  |nil=>exact ff h
  |cons s r=>
   change (JE G a X.N X.env.scope s&&gT G b X.N X.env.scope r)=true at h
   simp only[Zu]at h
   exact Oi (ha.s X hC s h.1) (hb.ss X hC r h.2)
def wc{p px pos:Pos}(hs:¬swapsWith (.ListComp el gs gI p) (some (.Name x px)) pos.line env=pure false):env.scope.names.lookup x=some .local /\swapsWith (.ListComp el gs gI p) (some (.Name x px)) pos.line env=pure true:=by
 have e0:swapsWith (.ListComp el gs gI p) (some (.Name x px)) pos.line env=pure (env.blockKind == .function&&env.kindOf x==some .local&&px.line==p.line
   && !(gI.names.any λ(n,k)=>n==x&&(k == .local||k == .cell))):=rfl
 cases eb:(env.blockKind == .function&&env.kindOf x==some .local&&px.line==p.line&&!(gI.names.any λ(n,k)=>n==x&&(k == .local||k == .cell)))with
 |false=>rw[eb]at e0;exact absurd e0 hs
 |true=>
  rw[eb]at e0
  simp only[Zu]at eb
  exact⟨eq_of_beq eb.1.1.2,e0⟩
def JW:cH G F (.asg i e):= .fU λX hC st h=>by
 refine nr (gH (st:=st) h) λx px v pos ah hb=>?_
 subst ah
 replace h:=hb
 simp only[Zu,decide_eq_true_eq,abG]at h
 obtain⟨⟨⟨h1,h2⟩,h3⟩,h4⟩:=h
 exact Oj hC.nd h1 (fF h2) (hC.fn _) ((snd e).e X hC.ct v h3 false) (mJ h4)
def E3:cH G F (.cS i e):= .fU λX hC st h=>by
 refine nr (gH (st:=st) h) λx px v pos ah hb=>?_
 subst ah
 replace h:=hb
 simp only[Zu,decide_eq_true_eq]at h
 obtain⟨⟨⟨⟨h1,h2⟩,h3⟩,h4⟩,h0⟩:=h
 by_cases hs:swapsWith v (some (.Name x px)) pos.line X.env=pure false
 .exact pb (fX hC.nd h1 (fF h2) ((snd e).f X hC.ct v h3 h4) hs (.inl (hC.fn _))) (λσ H Q z=>z)
 .have hv:fD v=true:=by
   cases z:fD v with
   |true=>rfl
   |false=>exact absurd (mJ z) hs
  rw[hv]at h0
  cases e with
  |comp fr tg it ifs d_=>
   refine UC (oY h3) λel n q iter fs gI p cO sh OB VD h5 h6 h7=>?_
   subst cO
   subst sh
   have e0:=wc hs
   refine pb (lU ((snd it).i X hC.ct _ iter h5 true) (qu VD).1 hC.ct.calm P7 (mH hC.ct (snd it) (snd ifs) (snd d_) VD h5 h6 h7) (dC OB) hC.nd h1 e0.1 e0.2) (λσ H Q z=>?_)
   exact oM N4 σ H Q (vY σ H Q z)
  |_=>exact ff h0
def E4:cH G F (.lW i ix e):= .fU λX hC st h=>by
 refine kW (ji (st:=st) h) λGG v pos zr h=>aa (bV h) λo aM h=>kW (jh h) λn k p2 cO h=>dU (cF h) λx px sh dj=>?_
 subst zr aM cO sh
 simp only[Zu,decide_eq_true_eq]at dj
 obtain⟨⟨⟨⟨⟨h1,h2⟩,h3⟩,h4⟩,h5⟩,h6⟩:=dj
 exact JH h1 (mD h2) (bW h3).1 (bW h3).2 ((snd ix).e X hC.ct _ h4 false) h5 ((snd e).e X hC.ct v h6 false)
def JX:cH G F (.app i e):= .fU λX hC st h=>by
 refine dU (oU (st:=st) h) λex pos zr h=>K0 (eU h) λo m ap as cp aM h=>aa (bV h) λv cO h=>dU (cF h) λx px sh dj=>?_
 subst zr aM cO sh
 simp only[Zu,decide_eq_true_eq]at dj
 obtain⟨⟨⟨⟨⟨⟨h1,h2⟩,h3⟩,rfl⟩,h4⟩,h5⟩,h6⟩:=dj
 exact OA h1 (mD h2) (bW h3).1 (bW h3).2 h4 ((snd e).e X hC.ct _ h5 false) h6
def JY:cH G F (.ret e):= .fU λX hC st h=>by
 cases st with
 |Return o pos=>
  cases o with
  |none=>exact ff h
  |some v=>
   have h:bh G e X.N X.env.scope v=true:=h
   cases e with
   |var i=>
    cases v with
    |Name x px=>
     change (decide (X.N[i]?=some x)&&sA X.env.scope x&&vS x)=true at h
     simp only[Zu,decide_eq_true_eq]at h
     obtain⟨⟨h1,h2⟩,h3⟩:=h
     exact JJ h1 (mD h2) (bW h3).1 (bW h3).2
    |_=>exact ff h
   |_=>exact Ol ((snd _).e X hC.ct v h false)
 |_=>exact ff h
def JZ(ht:cH G F t)(hu:cH G F u):cH G F (.ifs c t u):= .fU λX hC st h=>by
 cases st with
 |If x a b pos=>
  change (bh G c X.N X.env.scope x&&AS c&&gT G t X.N X.env.scope a&&gT G u X.N X.env.scope b)=true at h
  simp only[Zu]at h
  obtain⟨⟨⟨h1,h2⟩,h3⟩,h4⟩:=h
  exact S4 ((snd c).t X hC.ct x h1 h2) (ht.ss X hC a h3) (hu.ss X hC b h4)
 |_=>exact ff h
def Bn(hb:cH G F b):cH G F (.while c b):= .fU λX hC st h=>by
 cases st with
 |While x a o pos=>
  change (o.isEmpty&&bh G c X.N X.env.scope x&&AS c&&gT G b X.N X.env.scope a)=true at h
  simp only[Zu]at h
  obtain⟨⟨⟨h0,h1⟩,h2⟩,h3⟩:=h
  cases o with
  |cons _ _=>exact ff h0
  |nil=>exact ER hC.pass ((snd c).t X hC.ct x h1 h2) (hb.ss X hC a h3) gZ
 |_=>exact ff h
def VE(hC:Ct X G F)(h:JC G it X.N X.env.scope qQ iter=true):PI X qQ iter (tI X.K false (k7 F false it)):=by
 cases it with
 |xG a=>
  cases qQ with
  |Tuple es k p=>
   refine nr (gh (e:=iter) h) λx q a0 cp zr dj=>?_
   subst zr
   simp only[Zu,decide_eq_true_eq]at dj
   obtain⟨⟨⟨rfl,h1⟩,h2⟩,h3⟩:=dj
   exact N1 (bP h1) (hC.mg _ (by simp[eV])) ((snd a).e X hC _ h2 false) (bM h3)
  |_=>exact ff h
 |_=>exact(snd _).i X hC _ iter h false
def J0:ex F (.for is tg it b)=λρ=>(λρ=>(k7 F false it ρ).bind λxs=>aO (λy ρ=>((aJ tg y).bind (dI ρ is)).bind (ex F b)) xs ρ) (fu it ρ):=by
 funext ρ
 have e:(λ(x:D) (ρ:Env)=>(aJ tg x).bind λys=>(dI ρ is ys).bind λρ'=>ex F b ρ')=λy ρ=>((aJ tg y).bind (dI ρ is)).bind (ex F b):=by
  funext y ρ
  cases aJ tg y<;>rfl
 show(k7 F false it (fu it ρ)).bind (λxs=>aO (λx ρ=>(aJ tg x).bind λys=>(dI ρ is ys).bind λρ'=>ex F b ρ') xs (fu it ρ))=_
 rw[e]
def J3(hb:cH G F b):cH G F (.for is tg it b):= .fU λX hC st h=>by
 cases st with
 |For qQ iter a o pos=>
  change (o.isEmpty&&fC iter&&gT G b X.N X.env.scope a&&JB X.N X.env.scope is tg qQ&&JC G it X.N X.env.scope qQ iter)=true at h
  simp only[Zu]at h
  obtain⟨⟨⟨⟨h0,h1⟩,h2⟩,h3⟩,h4⟩:=h
  cases o with
  |cons _ _=>exact ff h0
  |nil=>
   rw[J0]
   refine Bc (it:=it) (g:=λρ=>(k7 F false it ρ).bind λxs=>aO (λy ρ=>((aJ tg y).bind (dI ρ is)).bind (ex F b)) xs ρ) ?_
   unfold JB at h3
   cases qQ with
   |Name x p=>
    simp only[Zu,decide_eq_true_eq]at h3
    obtain⟨⟨rfl,h5⟩,h6⟩:=h3
    obtain⟨i,rfl⟩:∃i,is=[i]:=by
     cases is with
     |nil=>cases h6
     |cons i t=>cases t with|nil=>exact⟨i,rfl⟩|cons _ _=>cases h6
    unfold fE at h5
    simp only[Zu,decide_eq_true_eq]at h5
    exact GJ (setT:=λρ d=>some (put ρ i false d)) hC.pass hC.ct.calm (kZ hC.nd h5.1.1 (fF h5.1.2) (.inl (hC.fn _))) ES (VE hC.ct h4) (hb.ss X hC a h2) (dC h1)
   |Tuple es k p=>
    simp only[Zu,decide_eq_true_eq]at h3
    obtain⟨⟨rfl,h5⟩,h6⟩:=h3
    refine cy (ph hC.nd hC.fn h6) λq1 q2 q3=>?_
    have jP:0<is.length:=by
     cases is with
     |nil=>
      unfold fE at h6
      rw[h6]at h5
      cases h5
     |cons _ _=>exact Nat.succ_pos _
    exact GJ hC.pass hC.ct.calm (IC hC.ct.calm q1 q2 q3) (JL jP) (VE hC.ct h4) (hb.ss X hC a h2) (dC h1)
   |_=>exact ff h3
 |_=>exact ff h
def E5:cH G F (.lX i t es):= .fU λX hC st h=>by
 refine nr (gH (st:=st) h) λx px v pos zr dj=>?_
 subst zr
 rw[Zu,Zu,decide_eq_true_eq]at dj
 obtain⟨⟨h1,h2⟩,Ll⟩:=dj
 refine kW (oQ Ll) λks vs dp zr E6=>?_
 subst zr
 rw[Zu,decide_eq_true_eq]at E6
 have ht:=E6.1
 replace E6:=E6.2
 have two:(nQ ks λko=>qr ko λk=>nQ vs λw=>c6 G es X.N X.env.scope [k,w])=true->PS X (.Assign [.Name x px] (.Dict ks vs dp) pos) (tC X.K (ex F (.lX i t es))):=λh=>by
  refine aa (bV h) λko aM h=>aa (oV h) λke cO h=>aa (bV h) λwe sh h3=>?_
  subst aM cO sh
  refine iE (AZ (F:=F) h3) λa b ah k1 _ k2 _=>?_
  subst ah
  have e0:ex F (.lX i t (.cons a (.cons b .nil)))=λρ=>if t=2 then none else((ev F false a ρ).bind λx=>(ev F false b ρ).bind λy=>(cv t x).map λz=>D.bj t [z] [y]).map λd=> .next (put ρ i true d):=by
   funext ρ
   show(if t=2 then none else((cR F false (.cons a (.cons b .nil)) ρ).bind (zM t)).map λd=>lZ.next (put ρ i true d))=_
   rw[p7]
   cases ev F false a ρ with
   |none=>rfl
   |some x=>
    show(if t=2 then none else(((cR F false (.cons b .nil) ρ).bind λxs=>some (x::xs)).bind (zM t)).map λd=>lZ.next (put ρ i true d))=_
    rw[p7]
    cases ev F false b ρ with
    |none=>rfl
    |some y=>rfl
  rw[e0]
  exact EV hC.ct.units hC.nd h1 (fF h2) (hC.fn _) ht ((snd a).e X hC.ct ke k1 false) ((snd b).e X hC.ct we k2 false)
 cases es with
 |nil=>
  rw[Zu,acN,acN]at E6
  obtain⟨rfl,rfl⟩:=E6
  exact EU hC.nd h1 (fF h2) (hC.fn _) ht
 |_=>exact two E6
def Bo:cH G F (.raise k):= .fU λX hC st h=>λU s σ H D' I zz=>abf λ_=>pF zz λ_ _ _ _ _ _ _ _ _ hd _=>nomatch hd
def E7:cH G F (.kM i k e):= .fU λX hC st h=>by
 refine kW (ji (st:=st) h) λGG v pos zr h=>aa (bV h) λt aM h=>kW (jh h) λo ix sp cO dj=>?_
 subst zr aM cO
 simp only[Zu,abG]at dj
 obtain⟨⟨⟨⟨h1,h2⟩,h3⟩,h4⟩,h5⟩:=dj
 refine iE (bQ h1) λx q ah n1 n2 n3 n4=>?_
 subst ah
 exact JN hC.ct.units n1 n2 n3 n4 ((snd k).e X hC.ct _ h2 false) ((snd e).e X hC.ct v h4 false) (λt=>mJ h5)
def Bp(h:A_ N sc y e=true):∃x px ap cp,e= .Call (.Attribute (.Name x px) "pop" ap) [] [] cp/\N[y]?=some x/\uU sc x/\(x==("__debug__":Str))=false/\(x==("__classdict__":Str))=false/\(ap.endLine==cp.line)=true:=by
 refine K0 (eU h) λe2 nm ap as cp zr dj=>?_
 subst zr
 simp only[Zu,decide_eq_true_eq,acN]at dj
 obtain⟨⟨⟨rfl,rfl⟩,h1⟩,h2⟩:=dj
 refine iE (bQ h1) λx q ah n1 n2 n3 n4=>?_
 subst ah
 exact⟨x,q,_,cp,rfl,n1,n2,n3,n4,h2⟩
def J_:cH G F (.pop i j):= .fU λX hC st h=>by
 refine nr (gH (st:=st) h) λx px v pos ah hb=>?_
 subst ah
 replace h:=hb
 simp only[Zu,decide_eq_true_eq]at h
 refine CN (Bp h.2) λy q ap cp cO n1 n2 n3 n4 n5=>?_
 subst cO
 exact Oq hC.nd h.1.1 (fF h.1.2) (hC.fn _) (bG n1 n2 n3 n4) rfl n5
def GR(hC:Ct X G F)(h:EK G x f X.N X.env.scope e ok=true)(hw:∀w,ok w=true->PE X w tw):∃n:Nat,(∀ds d,F f ds=some d->ds.length=n)/\PE X e (JT X.K n (F f) (cB (cP x) (cB tw lP)))/\fD e=false/\bH e=true:=by
 refine nr (eS h) λn pn as cp zr h=>dU (mB h) λe1 w aM dj=>?_
 subst zr aM
 simp only[Zu,decide_eq_true_eq]at dj
 refine au λnO=>?_
 obtain⟨⟨⟨⟨⟨h1,h2⟩,h3⟩,h4⟩,h5⟩,h6⟩:=dj
 refine iE (bQ h4) λy q ah n1 n2 n3 n4=>?_
 subst ah
 exact CN (hC.call f n h1) λk fa fd ps g5 g6 g7 g8 g9 Nt=>nO<|⟨ps.length,Nt,Az g5 g6 (bP h2) g7 g8 g9 (aZ (bG n1 n2 n3 n4) (aZ (hw w h5) cf (bM h6)) rfl) (bW h3).1 rfl (by rw[bM h6];rfl),rfl,rfl⟩
def J'{st:Stmt}(h:GF G x p q u N sc st=true):∃e1 pe qe e p1 p2 p3,st= .Assign [.Subscript (.Subscript e1 pe p1) qe p2] e p3/\(cZ N sc x e1&&bh G p N sc pe&&bZ pe&&bh G q N sc qe&&bZ qe&&bh G u N sc e&&!fD e)=true:=by
 exact kW (ji h) λGG e p3 z h=>aa (bV h) λo z2 h=>kW (jh h) λo2 qe p2 z3 h=>kW (jh h) λe1 pe p1 z4 h=>⟨e1,pe,qe,e,p1,p2,p3,by rw[z,z2,z3,z4],h⟩
def Ka{st:Stmt}(h:Od G x y g w N sc st=true):∃e2 m ap v cp pos,st= .Expr (.Call (.Attribute e2 m ap) [v] [] cp) pos/\(cZ N sc y e2&&decide (m="extend")&&(ap.endLine==cp.line)&&bH v&&EK G x g N sc v (bh G w N sc))=true:=by
 exact dU (oU h) λe p z h=>K0 (eU h) λo m ap as cp z2 h=>aa (bV h) λv z3 h=>⟨o,m,ap,v,cp,p,by rw[z,z2,z3],h⟩
def OC(hC:Cs X G F){st:Stmt}(h:Oc G x fr it k v X.N X.env.scope st=true):PS X st (nF (oh 1 fr (tI X.K true (k7 F true it)) (cb 0) (tB X.K λ_=>some true) (r_ (tV X.K false (ev F false k)) (tV X.K false (ev F false v)))) (cb x)):=by
 refine nr (gH h) λa pa e pos zr dj=>?_
 subst zr
 rw[Zu,Zu,decide_eq_true_eq]at dj
 obtain⟨⟨h1,h2⟩,Ll⟩:=dj
 refine nr (vT Ll) λel gs gI lp zr h=>kW (oQ h) λks vs dp aM h=>aa (bV h) λko cO h=>aa (oV h) λke sh h=>aa (bV h) λve NY h=>aa (bV h) λg NZ E6=>?_
 obtain⟨qQ,iter,fs,kk⟩:=g
 refine dU (cF E6) λn q Lh VF=>?_
 change qQ=_ at Lh
 subst zr aM cO sh NY NZ Lh
 simp only[Zu,decide_eq_true_eq,acN]at VF
 obtain⟨⟨⟨⟨⟨⟨rfl,rfl⟩,h3⟩,h4⟩,h5⟩,h6⟩,h7⟩:=VF
 refine cy (qu h4) λS Nv nd=>have hl:=Nv _ ZD;?_
 have parts:∀cl C U s H ex,PG (gP X gI cl C (nP X.N [n] fr) U s H ex) (.Name n q) (cb 0)/\xD (gP X gI cl C (nP X.N [n] fr) U s H ex) [] (tB X.K λ_=>some true)/\PE (gP X gI cl C (nP X.N [n] fr) U s H ex) (.Dict [some ke] [ve] dp) (r_ (tV X.K false (ev F false k)) (tV X.K false (ev F false v))):=λcl C U s H ex=>by
  have Lk:=hC.ct.inner gI cl C (nP X.N [n] fr) U s H ex
  refine⟨kZ nd rfl (qt hl).1 (qt hl).2,AQ,D7 ?_ ((snd k).e _ Lk ke h6 false) ((snd v).e _ Lk ve h7 false)⟩
  have:=Lk.units
  exact pH this (by decide)
 by_cases hs:swapsWith (.ListComp (.Dict [some ke] [ve] dp) [⟨.Name n q,iter,[],0⟩] gI lp) (some (.Name a pa)) pos.line X.env=pure false
 .exact fX hC.nd h1 (fF h2) (vh ((snd it).i X hC.ct _ iter h5 true) S hC.ct.calm P7 parts (dC h3)) hs (.inl (hC.fn _))
 .have e0:=wc hs
  exact lU ((snd it).i X hC.ct _ iter h5 true) S hC.ct.calm P7 parts (dC h3) hC.nd h1 e0.1 e0.2
def Kb(h1:cH G F c1)(h2:cH G F c2)(h3:cH G F c3):cH G F (.fst x fr it k v c1 y r f c2 m c3 p q u g w) where
 s:=λX hC st h=>ff h
 ss:=λX hC tR h=>by
  refine tT (JD h) λs1 s2 s3 s4 ah o1 o2 oW oR=>?_
  subst ah
  refine Pd (EM oW) λe2 sr s5 sI wp aM o3 o4 o5 oI=>?_
  subst aM
  refine Pd (EL oI) λem s6 ss se ip cO o6 o7 o8 o9=>?_
  subst cO
  refine dU (EN oR) λe1 rp sh X3=>?_
  subst sh
  refine iE (bQ o3) λyn yq NY y1 y2 y3 y4=>?_
  subst NY
  refine iE (bQ o6) λmn mq NZ m1 m2 m3 m4=>?_
  subst NZ
  refine iE (bQ X3) λxn xq Lh x1 x2 x3 x4=>?_
  subst Lh
  have Pr:∃n1,(∀ds d,F f ds=some d->ds.length=n1)/\PS X sr (nF (JT X.K n1 (F f) (cB (cP x) (cB (E1 y) lP))) (cb r)):=by
   refine nr (gH (st:=sr) o4) λxr pr e pos SO hb=>?_
   subst SO
   replace o4:=hb
   simp only[Zu,decide_eq_true_eq]at o4
   obtain⟨n,g1,g2,g3,_⟩:=GR hC.ct o4.2 (tw:=E1 y) λw hw=>by
    refine CN (Bp hw) λyy q ap cp Jh n1 n2 n3 n4 n5=>?_
    subst Jh
    exact Bh (bG n1 n2 n3 n4) rfl n5
   exact⟨n,g1,fX hC.nd o4.1.1 (fF o4.1.2) g2 (mJ g3) (.inl (hC.fn _))⟩
  refine aa Pr λn1 Ow Pr=>?_
  have Ps:PS X ss (vp (F4 (C' X.K) (cP x) (tV X.K false (ev F false p))) (tV X.K false (ev F false q)) (tV X.K false (ev F false u))):=by
   obtain⟨e1,pe,qe,e,p1,p2,p3,rfl,VG⟩:=J' o8
   simp only[Zu,abG]at VG
   obtain⟨⟨⟨⟨⟨⟨t1,t2⟩,t3⟩,t4⟩,t5⟩,t6⟩,t7⟩:=VG
   refine iE (bQ t1) λxx q' Ji n1 n2 n3 n4=>?_
   subst Ji
   exact vq (by have:=hC.ct.units;exact pH this (by decide)) (Ga vd (bG n1 n2 n3 n4) ((snd p).e X hC.ct _ t2 false) (mE t3)) ((snd q).e X hC.ct _ t4 false) ((snd u).e X hC.ct _ t6 false) (mJ t7)
  have Pe:∃n2,(∀ds d,F g ds=some d->ds.length=n2)/\PS X se (u5 (Pw X.K "list" (AA X.K) (cP y) (cB (JT X.K n2 (F g) (cB (cP x) (cB (tV X.K false (ev F false w)) lP))) lP))):=by
   obtain⟨e2,m,ap,v,cp,pos,rfl,VH⟩:=Ka o9
   simp only[Zu,decide_eq_true_eq]at VH
   obtain⟨⟨⟨⟨t1,rfl⟩,t3⟩,t4⟩,t5⟩:=VH
   refine iE (bQ t1) λyy q' Tc n1 n2 n3 n4=>?_
   subst Tc
   exact CM (GR hC.ct t5 (tw:=tV X.K false (ev F false w)) λwe hw=>(snd w).e X hC.ct we hw false) λn g1 g2 _ _=>⟨n,g1,u6 (zE acm PySem.F.slot_list_extend PySem.F.type_list_extend IY (bG n1 n2 n3 n4) (aZ g2 cf (bM t4)) rfl (by rw[bM t4];rfl) t3 (bM t4) rfl) rfl⟩
  exact aa Pe λn2 Ox Pe=>Oz hC.pass Ow Ox (OC hC o1) (h1.s X hC s2 o2) (qZ (bG y1 y2 y3 y4) λ_=>rfl) Pr (h2.s X hC s5 o5) (qZ (bG m1 m2 m3 m4) λ_=>rfl) (h3.s X hC s6 o7) Ps Pe (bG x1 x2 x3 x4) gZ
def Td(c:C):cH G F c:=by
 induction c with
 |skip=>exact E2
 |seq a b ha hb=>exact JV ha hb
 |asg i e=>exact JW
 |cS i e=>exact E3
 |lW i ix e=>exact E4
 |app i e=>exact JX
 |ret e=>exact JY
 |ifs c t u ht hu=>exact JZ ht hu
 |«while» c b hb=>exact Bn hb
 |«for» is tg it b hb=>exact J3 hb
 |lX i t es=>exact E5
 |kM i k e=>exact E7
 |pop i j=>exact J_
 |raise k=>exact Bo
 |fst x fr it k v c1 y r f c2 m c3 p q u g w h1 h2 h3=>exact Kb h1 h2 h3
end
structure Bq(K:aC)(mg:Str->Option Value)(G:GT)(x:Str)(d:Fd):Prop where
 ex:∃(st:Stmt) (fa:Addr) (fd:FuncData) (N ps:List Str),zI K x x st fa fd/\c_ N ps (af st)/\Binds K fd ps []/\mg x=some (.ref fa)/\gT G d.body N (af st) (bD st)=true/\ps.length=d.par/\N.length=d.iX
def mO{K:aC}(hO:∀a,O a->∃u,H a=some u/\qP u)(r:av K O H vs ds)(h1:ds.length=d.par)(h2:N.length=d.iX):SX K H O (λ_=>False) [] [] (λ_=>none) (start N vs) H (ao d ds):=by
 have hl:=r.length
 have sub:∀a,Os O (λ_=>none) a->O a:=λa z=>z.elim id λ⟨_,z⟩=>nomatch z
 have nm:∀(i:Nat) (o:Bool) (dd:D),(ao d ds)[i]?=some (some (o,dd))->o=false/\ds[i]?=some dd:=λi o dd hi=>by
  unfold ao at hi
  by_cases bg:i<ds.length
  .rw[aaq (by simpa using bg),ZJ]at hi
   refine aa (map_some hi) λy e1 e2=>?_
   cases e2
   exact⟨rfl,e1⟩
  .rw[aaz (by simpa using bg),aep]at hi
   split at hi<;>cases hi
 refine⟨⟨λa ha=>hO a (sub a ha),λi o dd hi=>?_⟩,λi dd hi=>?_,λi j a h _=>(nomatch h),λi a h=>(nomatch h),ag.refl _,.nil,λa ha=>let ⟨us,e,_⟩:=hO a ha;⟨_,e⟩,?_⟩
 .obtain⟨rfl,e⟩:=nm i o dd hi
  refine aa (r.get e) λv e1 e2=>⟨v,?_,aY.weak e2 sub⟩
  unfold L2.start
  have bg:i<vs.length:=(ZL.mp e1).1
  rw[aaq (by simpa using bg),ZJ,e1]
  rfl
 .exact absurd (nm i true dd hi).1 (by decide)
 .unfold ao L2.start
  simp only[ZQ,ZA,abR]
  lia
def pv(P:Program)(w:World)(K:aC)(mg:Str->Option Value)(base:Heap)(G:GT)(T:List Fd)(n:Nat):Prop:=
 ∀(f:Nat) (x:Str),G.1[f]?=some x->∃(fa:Addr) (fd:FuncData) (ps:List Str),fY P w K mg base rj n fa fd ps (uA K ps.length (run T n f))/\mg x=some (.ref fa)/\PySem.W.keepIn K (.ref fa)=true/\Binds K fd ps []/\∀ds d,run T n f ds=some d->ds.length=ps.length
section
variable {P:Program}{w:World}{K:aC}{mg:Str->Option Value}{base:Heap}{G:GT}{T:List Fd}
def gp(hT:T[f]?=some d)(z:run T (n+1) f ds=some r):ds.length=d.par/\out (ex (run T n) d.body (ao d ds))=some r:=by
 unfold run at z
 rw[hT]at z
 dsimp only at z
 split at z
 .rename_i q;exact⟨q,z⟩
 .cases z
def Br{st:Stmt}(hb:∀x∈eV,mg x=none)(n9:∀(x:Str) (i:Int),(x,i)∈G.2->∃t,mg x=some (.int i t))(ih:pv P w K mg base G T n)(F:zI K x x st fa fd)(S:c_ N ps (af st))(hT:T[f]?=some d)
  (ok:gT G d.body N (af st) (bD st)=true) (l1:ps.length=d.par) (l2:N.length=d.iX):fY P w K mg base rj (n+1) fa fd ps (uA K ps.length (run T (n+1) f)):=by
 refine F.ok S (λvs H Q E z=>?_) (λdH A outer s H vs Q E hr z=>?_)
 .exact tS z λ_ _ _ _ _ _ q _=>q
 .refine tS z λO ds r hO hR AF hl k=>?_
  obtain⟨q1,q2⟩:=gp hT AF
  have X4:Cs (gN rj P w K mg base N x (af st) fa dH A outer s H E).w_ G (run T n):=by
   refine⟨⟨rfl,hr.units,hb,n9,λg y hy=>?_⟩,λ_=>rfl,S.nd,PassesOwn.never⟩
   exact tS (ih g y hy) λga gd OD G1 G2 G3 G4 G5=>⟨n,ga,gd,OD,G1,hr,G2,G3,G4,G5⟩
  cases eo:ex (run T n) d.body (ao d ds)with
  |none=>rw[eo]at q2;cases q2
  |some o=>
   rw[eo]at q2
   refine⟨tC K (ex (run T n) d.body),(Td d.body).ss _ X4 _ ok,H,O,λ_=>False,[],[],λ_=>none,ao d ds,o,mO hO hR q1 l2,eo,?_⟩
   cases o with
   |ret dd=>cases q2;exact k
   |next ρ'=>cases q2;exact λow σ H' JM=>k .bX H' JM.same .bX
   |brk _=>cases q2
   |cont _=>cases q2
def uH(P:Program)(w:World)(K:aC)(mg:Str->Option Value)(base:Heap)(G:GT)(T:List Fd)(f:Nat)(x:Str):Prop:=
 ∃(fa:Addr) (fd:FuncData) (ps:List Str),mg x=some (.ref fa)/\PySem.W.keepIn K (.ref fa)=true/\Binds K fd ps []/\(∀n ds d,run T n f ds=some d->ds.length=ps.length)/\
  ∀n,(∀m,m<=n->pv P w K mg base G T m)->fY P w K mg base rj (n+1) fa fd ps (uA K ps.length (run T (n+1) f))
def Bq.step(hb:∀x∈eV,mg x=none)(n9:∀(x:Str) (i:Int),(x,i)∈G.2->∃t,mg x=some (.int i t))(hT:T[f]?=some d)(h:Bq K mg G x d):uH P w K mg base G T f x:=by
 refine au λnO=>?_
 obtain⟨st,fa,fd,N,ps,F,S,B,m,ok,l1,l2⟩:=h
 refine nO ?_
 refine⟨fa,fd,ps,m,F.kp,B,λn ds r z=>?_,λn ih=>?_⟩
 .cases n with
  |zero=>exact nomatch z
  |succ n=>exact(gp hT z).1.trans l1.symm
 .exact Br hb n9 (ih n (ZG _)) F S hT ok l1 l2
def E8(h:∀(f:Nat) (x:Str),G.1[f]?=some x->uH P w K mg base G T f x)(n:Nat):pv P w K mg base G T n:=by
 have all:∀n m:Nat,m<=n->pv P w K mg base G T m:=by
  intro n
  induction n with
  |zero=>
   intro m hm f x hx
   obtain rfl:m=0:=(Nat.eq_zero_of_le_zero hm)
   refine tS (h f x hx) λfa fd ps mm kp B l _=>?_
   have no:∀vs H Q E,¬uA K ps.length (run T 0 f) vs H Q E:=λvs H Q E z=>by
    refine Lx z λ_ _ _ _ _ z _=>?_
    cases z
   exact⟨fa,fd,ps,⟨λvs H Q E z=>absurd z (no vs H Q E),λA outer s H args us vs Q E _ _ _ _ z=>absurd z (no vs H Q E)⟩,mm,kp,B,λds d z=>nomatch z⟩
  |succ n ih=>
   intro m hm
   by_cases he:m=n+1
   .subst he
    intro f x hx
    exact tS (h f x hx) λfa fd ps mm kp B l st=>⟨fa,fd,ps,st n ih,mm,kp,B,l (n+1)⟩
   .exact ih m (aan (aad hm he))
 exact all n n (ZG _)
end
def Kc{K:aC}(h:∀ns:List Int,ns.length<=m->run T n f [.lst (ns.map .int)]=some (.bl true))(H:Hp)(a:Addr)(ns:List Int)(hl:ns.length<=m)(hS:du K H a (ns.map V.int)):
  uA K 1 (run T n f) [.ref a] H (λv _=>v= .bl true) λ_ _ _=>False:=by
 refine⟨λ_=>False,[.lst (ns.map .int)],.bl true,λ_ z=>z.elim,.cons ?_ .nil,h ns hl,rfl,λv H' _ r=>r.AB⟩
 rcases hS with hS|hS
 .exact .lst hS id (eO ns)
 .exact .mod hS (eO ns)
def OE{l:PySem.W.OpenLaw}{K:Params->aC}(hn:l.most=some 63)(Ii:d.params.defaults=[])(X5:n<=65)
  (hY:∀(w:World) (h:Heap),YP w h->(K w.params).In h)
  (F:∀(w:World) (mg:Str->Option Value) (fa:Addr) (h:Heap),(K w.params).In h->h.Ns mainGlobals mg->mg d.name=some (.ref fa)->
   ∃fd:FuncData,(∀(s:Shared) (u:Value),BindsTo s fd ⟨[u],[]⟩ [(x,u)])/\∀base:Heap,(K w.params).In base->base.Ns mainGlobals mg->fY l.prog w (K w.params) mg base rj n fa fd [x] (uA (K w.params) 1 (run T n f)))
  (hT:∀ns:List Int,ns.length<=63->run T n f [.lst (ns.map .int)]=some (.bl true)):
  PySem.W.WalkO q loose XP YP l.row.toRowW d [] (λf vs=>PySem.call f vs):=
 L2.Df (n:=63) (k:=n) (x:=x) (CX:=λ_=>rj) (sp:=λw=>uA (K w.params) 1 (run T n f)) hn (by decide) Ii (dW.mono (k:=65) ⟨rfl,by decide,by decide⟩ X5) hY F (λw H a ns hl _ hS=>Kc hT H a ns hl hS) λ_ _ _ _ _ z=>z
def OF(h:l.length=1):∃a,l=[a]:=by
 cases l with
 |nil=>cases h
 |cons a l=>cases l with
  |nil=>exact⟨a,rfl⟩
  |cons _ _=>cases h
def OG(h:l.length=2):∃a b,l=[a,b]:=by
 cases l with
 |nil=>cases h
 |cons a l=>
  obtain⟨b,rfl⟩:=OF (afD h)
  exact⟨a,b,rfl⟩
def Te(h:l.length=3):∃a b c,l=[a,b,c]:=by
 cases l with
 |nil=>cases h
 |cons a l=>
  refine Lw (OG (afD h)) λb c ah=>?_
  subst ah
  exact⟨a,b,c,rfl⟩
end Py
namespace PySem
inductive NC:{α:Type}->Sem α->Prop
 |pure {α:Type} (a:α):NC (.pure a)
 |yl {α:Type} (w:String):NC (α:=α) (.unsupported w)
 |load {α:Type}{a:Addr}{p:Option Value}{k:Obj->Sem α} (h:∀o,NC (k o)):NC (.load a p k)
 |upd {α:Type}{a:Addr}{p:Option Value}{f:Obj->Obj}{k:Unit->Sem α} (h:∀o,NC (k o)):NC (.update a p f k)
 |alloc {α:Type}{o:Obj}{k:Addr->Sem α} (h:∀o,NC (k o)):NC (.alloc o k)
 |stack {α:Type}{k:List (Code×Pos)->Sem α} (h:∀o,NC (k o)):NC (.stack k)
def NC.bind{α β:Type}{t:Sem α}{f:α->Sem β}(h:NC t)(hf:∀a,NC (f a)):NC (t >>= f):=by
 induction h with
 |pure a=>exact hf a
 |yl w=>exact .yl w
 |load _ ih=>exact .load λo=>ih o
 |upd _ ih=>exact .upd λo=>ih o
 |alloc _ ih=>exact .alloc λo=>ih o
 |stack _ ih=>exact .stack λo=>ih o
def jq{α:Type}{M:Model}{A:Around}{t:Sem α}{Q Q':α->Shared->Prop}{E E':Value->Shared->Prop}{s:Shared}(n:NC t)(h:wpAny M A t Q E s)(h':wpAny M A t Q' E' s):
  wpAny M A t (λa s'=>Q a s'/\Q' a s') (λe s'=>E e s'/\E' e s') s:=by
 have key:∀{Γ:Ctx}{Q Q':α->Pos->Shared->Prop}{E E':Value->Pos->Shared->Prop}{p:Pos}{s:Shared},Sem.wp M Γ t Q E p s->Sem.wp M Γ t Q' E' p s->Sem.wp M Γ t (λa p' s'=>Q a p' s'/\Q' a p' s') (λe p' s'=>E e p' s'/\E' e p' s') p s:=by
  clear h h'
  intro Γ Q Q' E E' p s
  induction n generalizing p s with
  |pure a=>exact λh h'=>⟨h,h'⟩
  |yl _=>exact λh _=>h
  |load _ ih=>exact λh h'=>h.elim λo x=>h'.elim λo' x'=>⟨o,x.1,ih o x.2 ((ZY (x.1.symm.trans x'.1))▸x'.2)⟩
  |upd _ ih=>exact λh h'=>⟨h.1,ih () h.2 h'.2⟩
  |alloc _ ih=>exact λh h'=>ih _ h h'
  |stack _ ih=>exact λh h'=>ih _ h h'
 exact λΓ p VI=>key (h Γ p VI) (h' Γ p VI)
def NC.ite{α:Type}{p:Prop}[Decidable p]{t u:Sem α}(h:NC t)(h':NC u):NC (if p then t else u):=by
 split
 .exact h
 .exact h'
def jr(v:Value)(i:Nat):NC (field v i):=by
 refine .bind ?_ λa=>?_
 .unfold fieldsOf
  split
  .refine .bind (.load λo=> .pure o) λo=>?_
   split
   .exact .pure _
   .exact .yl _
  .exact .yl _
 .split
  .exact .pure _
  .exact .yl _
def gq(v:Value)(i:Nat)(x:Value):NC (setField v i x):=by
 unfold setField
 split
 .refine .bind (.load λo=> .pure o) λo=>?_
  split
  .exact .ite (.upd λo=> .pure o) (.yl _)
  .exact .yl _
 .exact .yl _
def j4(v:Value):NC (setFlight v none):= .bind (jr v 1) λtb=> .ite (gq tb 3 _) (.pure _)
theorem sL:∀l,NC (readyFrames l)
 |[]=> .pure _
 |env::outer=>by
  unfold readyFrames
  split
  .refine .bind (.load λo=> .pure o) λo=> .ite (.pure _) (.bind ?_ λb=> .bind ?_ λv=> .bind (.upd λo=> .pure o) λ_=>sL outer)
   .unfold behindIsImport
    exact .ite (.pure _) (.ite (.pure _) (.bind (jr _ _) λ_=> .pure _))
   .unfold keptBack
    split
    .exact .ite (.pure _) (.bind (.bind (.stack λo=> .pure o) λ_=> .pure _) λ_=> .pure _)
    .exact .pure _
  .exact .yl _
def Kd(ty:String)(vs:List Value):NC (newFields ty vs):=by
 unfold newFields newObj newObjAsIs
 exact .ite (.bind (.yl _) λ_=> .bind (.alloc λo=> .pure o) λa=> .pure _) (.bind (.alloc λo=> .pure o) λa=> .pure _)
def wd(e:Value)(env:Env):NC (noteFrame e env):=by
 have key:∀f head,NC (do setField e 1 (<-EntryCells.newEntry head (<-frameOf env) .none (rawInt f) .none (<-entryPlaceOf f (head != .none)))):=λf head=>by
  refine .bind (.bind (.bind (.stack λo=> .pure o) λ_=> .pure _) λl=> .bind ?_ λo=>?_) λfr=> .bind (.bind (.stack λo=> .pure o) λa=>?_) λpl=> .bind (Kd _ _) λb=>gq _ _ _
  .unfold frameObject
   split
   .exact .pure _
   .exact .bind (sL _) λ_=> .pure _
  .split
   .exact .pure _
   .exact .yl _
  .split
   .exact .pure _
   .exact .pure _
 unfold noteFrame
 split
 .exact .bind (jr _ _) λhead=> .ite (.bind (jr _ _) λx=> .ite (.pure _) (.bind (gq _ _ _) λ_=>key _ head)) (key _ head)
 .exact .yl _
def uI(e:Value)(env:Env):NC (leaving env e):= .bind (wd e env) λ_=>j4 e
end PySem
namespace L2
open PySem PySem.Spec PyProof.Rows
structure eZ(C:Addr)(o:Obj)(vs:Array Value):Prop where
 cls:o.cls= .ref C
 dict:o.dict=none
 data:o.data= .fields vs
 sz:1<vs.size
 ctx:vs[2]?=some .none
noncomputable def mP(h:Heap)(e C:Addr):Prop:=∃o vs T oT ts,h.get? e=some o/\eZ C o vs/\vs[1]?=some (.ref T)/\T≠e/\h.get? T=some oT/\oT.data= .fields ts/\3<ts.size
def eZ.trace(x:eZ C o vs)(v:Value):eZ C (Obj.mapFields (·.setIfInBounds 1 v) o) (vs.setIfInBounds 1 v):=by
 obtain⟨c,d,e,f,g⟩:=x
 obtain⟨oc,od,dt,sl⟩:=o
 dsimp only at c d e
 subst c d e
 exact⟨rfl,rfl,rfl,by simpa using f,by rw[Array.getElem?_setIfInBounds_ne (by decide)];exact g⟩
section
variable {M:Model}{A:Around}{E:Value->Shared->Prop}{s:Shared}{e C:Addr}
def mQ(yR:A.frames=some (env::outer))(hl:s.heap.FunFrames base (env::outer))(hf:env.frame=some L)
  (he:s.heap.get? e=some o) (ho:eZ C o vs):
  wpAny M A (do let a<-frameOf env;let pl<-entryPlaceOf L hn;let b<-EntryCells.newEntry head a .none (rawInt L) .none pl;setField (.ref e) 1 b) (λ_ s'=>mP s'.heap e C) E s:=by
 have X6:e∉(env::outer).filterMap (·.frame):=λhm=>by
  obtain⟨_,o',q,n⟩:=hl.mem hm
  rw[he]at q
  cases q
  exact n vs ho.data
 refine Zq (wpAny_frameOf_fun yR hl hf λh1 k1=>?_)
 refine Zq (wpAny_entryPlaceOf λpl iJ=>?_)
 unfold EntryCells.newEntry newFields
 refine Zq (Z' ?_ (iJ.sizeOk5 _ _ _ _ _))
 have e1:h1.get? e=some o:=(k1.2.1 e X6).trans he
 have e2:(h1.push {cls:= .type "traceback",dict:=none,data:= .fields ([head,.ref L,.none,rawInt L,.none]++(if pl.isEmpty then List.replicate 6 Value.none else pl)).toArray}).get? e=some o:=Zv _ e1
 refine aba e2 ho.data ho.sz ?_
 have ne:h1.objs.size≠e:=abQ (ZO e1)
 have x:=ho.trace (.ref h1.objs.size)
 refine⟨_,_,h1.objs.size,{cls:= .type "traceback",dict:=none,data:= .fields ([head,.ref L,.none,rawInt L,.none]++(if pl.isEmpty then List.replicate 6 Value.none else pl)).toArray},_,aaY _ e2 (abB x.data),x,?_,ne,?_,rfl,?_⟩
 .rw[Array.getElem?_setIfInBounds_self,ZM ho.sz]
 .rw[aap _ _ (aaH ne)]
  exact ZN h1 rfl
 .simp only[ZI,ZQ,Z3,aeU]
  exact acq _ (by decide)
def gr(x:mP s.heap e C):wpAny M A (setFlight (.ref e) none) (λ_ s'=>mP s'.heap e C) E s:=by
 obtain⟨o,vs,T,oT,ts,h1,h2,h3,h4,h5,h6,h7⟩:=x
 unfold setFlight
 refine Zq (aaF h1 h2.data h3 ?_)
 rw[ZM (show(Value.ref T !=Value.none)=true from by simp)]
 refine aba h5 h6 h7 ?_
 refine⟨o,vs,T,_,_,?_,h2,h3,h4,aaY _ h5 (abB (aaW h6 _)),aaW h6 _,by simpa using h7⟩
 rw[aap _ _ h4]
 exact h1
def uJ(yR:A.frames=some (env::outer))(hl:s.heap.FunFrames base (env::outer))(hf:env.frame=some L)
  (he:s.heap.get? e=some o) (ho:eZ C o vs) (h1:vs[1]?=some .none):wpAny M A (leaving env (.ref e)) (λ_ s'=>mP s'.heap e C) E s:=by
 unfold leaving noteFrame
 simp only[hf]
 refine Zq (Zq (aaF he ho.data h1 ?_))
 rw[ZW (by decide)]
 exact aaJ (mQ yR hl hf he ho) (λ_ s' x=>gr x) λ_ _ z=>z
def ym(yR:A.frames=some (env::outer))(hl:s.heap.FunFrames base (env::outer))(hf:env.frame=some L)(x:mP s.heap e C):
  wpAny M A (noteFrame (.ref e) env) (λ_ s'=>mP s'.heap e C) E s:=by
 have x0:=x
 obtain⟨o,vs,T,oT,ts,h1,h2,h3,h4,h5,h6,h7⟩:=x
 obtain⟨t3,h8⟩:∃t3,ts[3]?=some t3:=⟨_,aak h7⟩
 unfold noteFrame
 simp only[hf]
 refine Zq (aaF h1 h2.data h3 ?_)
 rw[ZM (show(Value.ref T !=Value.none)=true from by simp)]
 refine Zq (aaF h5 h6 h8 ?_)
 split
 .exact ZC x0
 .refine Zq (aba h5 h6 h7 ?_)
  have X7:∀b o,s.heap.get? b=some o->(∀vs,o.data≠ .fields vs)->T≠b:=λb o hb Bs q=>by
   rw[<-q,h5]at hb
   cases hb
   exact Bs ts h6
  refine mQ (base:=base) yR (hl.of_keeps λb o hb Bs=>⟨o,?_,rfl⟩) hf ?_ h2
  .dsimp only
   rw[aap _ _ (X7 b o hb Bs)];exact hb
  .dsimp only
   rw[aap _ _ h4];exact h1
end
end L2
namespace L2
open PySem PyProof.Rows
noncomputable def pz(S:List Addr)(h:Heap):Heap:=⟨h.objs.mapIdx λi o=>if i∈S then {o with data:= .freed} else o,h.life⟩
def dD(S:List Addr)(h:Heap)(b:Addr):(pz S h).get? b=if b∈S then none else h.get? b:=by
 unfold pz Heap.get?
 simp only[Array.getElem?_mapIdx]
 cases h.objs[b]? with
 |none=>by_cases hb:b∈S<;>simp[hb]
 |some o=>
  by_cases hb:b∈S
  .simp[hb]
  .simp[hb]
def sM(S:List Addr)(h:Heap):(pz S h).StaysIn h:=λb o q=>by
 rw[dD]at q
 split at q
 .cases q
 .exact q
theorem pA{h base:Heap}:∀{l:List Env},h.FunFrames base l->(∀b∈gW l,b∈S)->h.FunFrames (pz S h) l
 |[],_,_=>trivial
 |env::bx,⟨hk,⟨L,o,hf,hn,ho,hd⟩,hr⟩,hS=>by
  have hm:gW (env::bx)=L::gW bx:=by unfold gW;rw[abI,hf]
  rw[hm]at hS
  exact⟨hk,⟨L,o,hf,by rw[dD,ZM (hS L ZD)],ho,hd⟩,pA hr λb hb=>hS b (Zy _ hb)⟩
structure Kept(l:List Env)(e:Addr)(h h':Heap):Prop where
 keep:∀b o,b∉gW l->b≠e->h.get? b=some o->h'.get? b=some o
 slot:∀b o,b∈gW l->h.get? b=some o->∃sl,h'.get? b=some {o with slots:=sl}
def sN{M:Model}
  (yR:A.frames=some (env::outer)) (hl:s.heap.FunFrames base (env::outer)) (hf:env.frame=some L) (he:s.heap.get? e=some oe) (hd:oe.data= .fields vs) (h1:vs[1]?=some .none) (h0:vs[0]?=some a0)
  (h:∀h',Kept (env::outer) e s.heap h'->Heap.FlyingW (pz (e::gW (env::outer)) s.heap) outer e oe.cls a0 h'->Q () {s with heap:=h'}):wpAny M A (leaving env (.ref e)) Q E s:=by
 refine wpAny_leaving_firstW (base:=pz (e::gW (env::outer)) s.heap) yR (pA hl λb hb=>Zy _ hb) hf he (sM _ _) (by rw[dD,ZM ZD]) hd h1 h0 λh' hL=>?_
 obtain⟨x1,x2,x3,x4⟩:=hL
 refine h h' ⟨λb o hb yM q=>x1 b o ?_,λb o hb q=>x4 b o q ?_⟩ ⟨x1,by rw[dD,ZM ZD],x2.2.2,x3⟩
 .rw[dD,ZW]
  .exact q
  .intro z
   rcases ZK.mp z with z|z
   .exact yM z
   .exact hb z
 .obtain⟨_,o',lH,Bs⟩:=hl.mem hb
  rw[q]at lH
  cases lH
  exact Bs
noncomputable def VJ(P:Program)(w:World)(C:Addr):xt:=λouter H s E e s'=>∃(a:Addr) (a0:Value) (H':Hp) (B:Heap),e= .ref a/\s'.os=s.os/\AllBare s'.gens/\Un (gW outer) [] H H' s.heap s'.heap/\fN P w H' s'.heap/\
 Heap.FlyingW B outer a (.ref C) a0 s'.heap/\H' a=none/\s.heap.get? a=none/\E (.ref a) none H'/\
 (∀b o,s'.heap.get? b=some o->b∉gW outer->(H' b≠none\/s.heap.get? b≠none)->B.get? b=some o)
noncomputable def Bt(P:Program)(w:World)(C:Addr):xt:=λouter H s E e s'=>VJ P w C outer H s E e s'/\∀a,e= .ref a->mP s'.heap a C
def fN.off(x:fN P w H h)(k:∀b u,H b≠none->h.get? b=some u->h'.get? b=some u):fN P w H h':=λa o e=>
 (x a o e).kE (λb u hb q=>k b u (by rcases hb with rfl|hb<;>simp_all) q) (λ_ q=>q) λ_ _ q=>q
def aT.obj(x:aT P w H h a o):∃ob,h.get? a=some ob:=by
 cases o with
 |lst xs=>obtain⟨_,_,_,_,e⟩:=x;exact⟨_,e⟩
 |tup xs=>obtain⟨_,_,_,ob,e,_⟩:=x;exact⟨_,e⟩
 |dK az=>obtain⟨_,_,_,_,o,_,_,e,_⟩:=x;exact⟨_,e⟩
 |dT az=>obtain⟨_,_,_,_,o,_,_,e,_⟩:=x;exact⟨_,e⟩
 |set S n=>obtain⟨o,_,_,_,e,_⟩:=x;exact⟨_,e⟩
 |ins C dx fs=>obtain⟨_,_,_,e,_⟩:=x;exact⟨_,e⟩
 |own y=>obtain⟨_,e⟩:=x;exact⟨_,e⟩
 |xd fs=>obtain⟨_,⟨_,_,_,e,_⟩,_⟩:=x;exact⟨_,e⟩
 |fj lo hi=>obtain⟨_,_,_,e⟩:=x;exact⟨_,e⟩
 |c9 ob u=>obtain⟨e,_⟩:=x;exact⟨_,e⟩
 |FX ps=>exact⟨_,(show h.get? a=some _ from x)⟩
 |met f y=>exact⟨_,(show h.get? a=some _ from x)⟩
 |ext φ=>obtain⟨_,⟨_,e⟩,_⟩:=x;exact⟨_,e⟩
section
variable {P:Program}{w:World}{K:aC}{mg:Str->Option Value}{base:Heap}{N:List Str}{qual:Str}{scope:Scope}{f C:Addr}{cd:Value}{A:Around}{outer:List Env}{s0:Shared}{H0:Hp}{E:XK}
def uK(I:Inv (gN (Bt P w C) P w K mg base N qual scope f cd A outer s0 H0 E) U σ H s)(hm:Heap.MadeExcOf s.heap h' e (.ref C) us)(hE:E (.ref e) none H):
  (gN (Bt P w C) P w K mg base N qual scope f cd A outer s0 H0 E).xe (.ref e) {s with heap:=h'}:=by
 have I':=I.kept (t':=s.toks) hm.keeps
 have PZ:H e=none:=by
  cases q:H e with
  |none=>rfl
  |some o=>
   obtain⟨ob,Qg⟩:=(I.aI e o q).obj
   rw[hm.new]at Qg;cases Qg
 have old:∀b o,s0.heap.get? b=some o->b≠e:=λb o q z=>by
  obtain⟨o',h1⟩:=I.base.there b o q (λz=>nomatch z)
  rw[z,hm.new]at h1;cases h1
 have Tf:gW (envOfC qual scope s0.heap.objs.size f cd::outer)=s0.heap.objs.size::gW outer:=rfl
 have Ke:∀b o,s0.heap.get? b=some o->b∉gW outer->b∉gW (envOfC qual scope s0.heap.objs.size f cd::outer):=λb o q hb z=>by
  rw[Tf]at z
  rcases ZK.mp z with z|z
  .exact absurd (ZO q) (by rw[z];exact aaC _)
  .exact hb z
 have FZ:∀b,H b≠none->b∉gW (envOfC qual scope s0.heap.objs.size f cd::outer)/\b≠e:=λb hb=>⟨λz=>hb (I'.kX b z),λz=>hb (by rw[z];exact PZ)⟩
 obtain⟨t,ht,_,_⟩:=hm.there
 show wpAny (model P w) (A.deeper (envOfC qual scope s0.heap.objs.size f cd)) (leaving (envOfC qual scope s0.heap.objs.size f cd) (.ref e)) (λ_ u9=>Bt P w C outer H0 s0 E (.ref e) u9) (λe' u9=>Bt P w C outer H0 s0 E e' u9) {s with heap:=h'}
 refine aaJ (jq (uI _ _) (E:=λe' u9=>Bt P w C outer H0 s0 E e' u9) (E':=λ_ _=>True) (Q:=λ_ u9=>VJ P w C outer H0 s0 E (.ref e) u9) ?_ (uJ (base:=base) (C:=C) (L:=s0.heap.objs.size) I.ok.frames I'.stack rfl ht ⟨rfl,rfl,rfl,by simp,rfl⟩ rfl)) (λ_ u9 x=>⟨x.1,λa q=>by cases q;exact x.2⟩) λ_ _ x=>x.1
 refine sN (base:=base) (L:=s0.heap.objs.size) I.ok.frames I'.stack rfl ht rfl rfl rfl λLa hk Qh=>?_
 refine⟨e,_,H,_,rfl,I.os,I.bare,⟨λb o q n hb hx=>?_,λb o q n hb hx=>?_,I'.base.free,λb o q hx=>?_,I'.base.kF,I'.base.fO,I'.base.kG⟩,I'.aI.off λb u hb q=>hk.keep b u (FZ b hb).1 (FZ b hb).2 q,Qh,PZ,?_,hE,λb o q hb CI=>?_⟩
 .exact hk.keep b o (Ke b o q hb) (old b o q) (I'.base.keep b o q n hb hx)
 .obtain⟨sl,h1⟩:=I'.base.slot b o q n hb hx
  obtain⟨CS,h2⟩:=hk.slot b _ (by rw[Tf];exact Zy _ hb) h1
  exact⟨CS,h2⟩
 .obtain⟨o',h1⟩:=I'.base.there b o q hx
  by_cases hb:b∈gW outer
  .obtain⟨CS,h2⟩:=hk.slot b _ (by rw[Tf];exact Zy _ hb) h1
   exact⟨_,h2⟩
  .exact⟨o',hk.keep b o' (Ke b o q hb) (old b o q) h1⟩
 .cases q:s0.heap.get? e with
  |none=>rfl
  |some o=>exact absurd rfl (old e o q)
 .obtain⟨o1,h1,n1,n2⟩:∃o1,h'.get? b=some o1/\b∉gW (envOfC qual scope s0.heap.objs.size f cd::outer)/\b≠e:=by
   rcases CI with CI|CI
   .cases z:H b with
    |none=>exact absurd z CI
    |some u=>
     obtain⟨ob,Qg⟩:=(I'.aI b u z).obj
     exact⟨ob,Qg,FZ b CI⟩
   .cases z:s0.heap.get? b with
    |none=>exact absurd z CI
    |some u=>
     obtain⟨o',h1⟩:=I'.base.there b u z (λz=>nomatch z)
     exact⟨o',h1,Ke b u z hb,old b u z⟩
  have h2:=hk.keep b o1 n1 n2 h1
  have h3:La.get? b=some o:=q
  rw[h2]at h3
  cases h3
  rw[dD,ZW]
  .exact h1
  .intro z
   rcases ZK.mp z with z|z
   .exact n2 z
   .exact n1 z
def Bu(O:OwnCls x C bm newId mg base)(FB:ExcBaseFacts B newId Bv bm)(hg:Gl (gN (Bt P w C) P w K mg base N qual scope f cd A outer s0 H0 E) x)(tM:(x==("__debug__":Str))=false):
  PS (gN (Bt P w C) P w K mg base N qual scope f cd A outer s0 H0 E) (.Raise (some (.Call (.Name x np) [.Constant (.str msg) j p'] [] cj)) none pos) (λ_ _ H=>∀e,E (.ref e) none H):=by
 intro U s σ H D I hE
 obtain⟨tl,N',nm,q,bs,hdct,sn,sub,ab,col,dd,k0,k1,k2,k3,k5,mN,hC,hN,X8,T⟩:=O.obj
 refine wpAny_Raise_call_subT (C:=C) (nm:=nm) (q:=q) (N:=N') (bs:=bs) (bm:=tl) (hdct:=hdct) (sn:=sn) (sub:=sub) (ab:=ab) (col:=col) (dd:=dd) (k0:=k0) (k1:=k1) (k2:=k2) (k3:=k3) (k5:=k5)
  FB (mN:=mN) (T.hasType FB.hasBase) (I.ok.hd rfl) rfl X8 (iG I hg O.bound ⟨rfl,?_⟩ tM)
 have hA:=(aZ (X:=gN (Bt P w C) P w K mg base N qual scope f cd A outer s0 H0 E) (zc (x:=msg) (j:=j) (pos:=p')) cf) cj U s σ H (λvs H1=>vs.length=1/\∀e,E (.ref e) none H1) I ⟨rfl,hE⟩
 refine acH (aU hA λus s1 hs=>?_)
 obtain⟨vs,H1,I1,rv,hv⟩:=hs
 refine⟨rfl,?_,I1.bk _ _ hC,hN.keeps I1.bk,T.keeps I1.bk,λh' e hm=>uK I1 hm (hv.2 e)⟩
 show us.length<=sizeLine
 rw[<-rv.length,hv.1]
 decide
end
def Bw{s s':Shared}(I:Inv X U σ H s)(q_:s'.os=s.os)(Bx:AllBare s'.gens)(un:Un (gW X.stack) [] H H' s.heap s'.heap)(aI:fN X.prog X.w H' s'.heap)
  (Qh:s'.heap.FunFrames B X.stack) (OH:∀b o,s'.heap.get? b=some o->b∉gW X.stack->(H' b≠none\/s.heap.get? b≠none)->B.get? b=some o) (stays:B.StaysIn h3) (up:s'.heap.UpToSlots h3) {t':Nat}:Inv X U σ H' {s' with heap:=h3,toks:=t'}:=by
 have X9:∀b,b∈gW X.stack->H' b=none:=λb hb=>by
  obtain⟨_,o,ho,_⟩:=I.stack.mem hb
  exact un.free b o ho (I.kX b hb) (λz=>nomatch z)
 refine I.F2 (s':={s' with heap:=h3,toks:=t'}) (ch:=[]) q_ ⟨λb o q n hb hx=>?_,λb o q n hb hx=>?_,un.free,λb o q hx=>?_,un.kF,un.fO,un.kG⟩ (aI.off λb u hb q=>?_) Bx (λb z=>nomatch z)
 .exact stays b o (OH b o (un.keep b o q n hb hx) hb (.inr (by rw[q];intro z;cases z)))
 .obtain⟨sl,h1⟩:=un.slot b o q n hb hx
  obtain⟨_,o',h2,Bs⟩:=Qh.mem hb
  rw[h1]at h2
  cases h2
  obtain⟨CS,OB⟩:=up b _ h1 Bs
  exact⟨CS,OB⟩
 .obtain⟨o',h1⟩:=un.there b o q hx
  by_cases hb:b∈gW X.stack
  .obtain⟨_,Zj,h2,Bs⟩:=Qh.mem hb
   rw[h1]at h2
   cases h2
   obtain⟨CS,OB⟩:=up b _ h1 Bs
   exact⟨_,OB⟩
  .exact⟨o',stays b o' (OH b o' h1 hb (.inr (by rw[q];intro z;cases z)))⟩
 .exact stays b u (OH b u q (λz=>hb (X9 b z)) (.inl hb))
end L2
namespace Py
open PySem L2 PyProof.Rows
noncomputable def X_(K:aC)(n:Nat)(d:Fd)(F:FT)(c:E):Sp:=λvs H Q E=>∃(O:Addr->Prop) (ds:List D),(∀a,O a->∃u,H a=some u/\qP u)/\av K O H vs ds/\ds.length=d.par/\vs.length=n/\(ev F false c (ao d ds)).bind fg=some true/\∀e H',ag H H'->E (.ref e) none H'
section
variable {P:Program}{w:World}{K:aC}{mg:Str->Option Value}{base:Heap}{G:GT}{T:List Fd}
def yo{st:Stmt}{fa C:Addr}{bx:List Stmt}
  (hb:∀x∈eV,mg x=none) (n9:∀(x:Str) (i:Int),(x,i)∈G.2->∃t,mg x=some (.int i t)) (ih:pv P w K mg base G T n) (F:zI K x x st fa fd) (S:c_ N ps (af st))
  (iK:bD st= .If ce [.Raise (some (.Call (.Name xc np) [.Constant (.str msg) j p'] [] cj)) none rp] [] ip::bx) (Tg:bh G c N (af st) ce=true) (tc:AS c=true)
  (O:OwnCls xc C bm newId mg base) (FB:ExcBaseFacts B newId Bv bm) (hg:∀X:Cx,X.env.scope=af st->Gl X xc) (tM:(xc==("__debug__":Str))=false) (l1:ps.length=d.par) (l2:N.length=d.iX):
  fY P w K mg base (Bt P w C) (n+1) fa fd ps (X_ K ps.length d (run T n) c):=by
 obtain⟨oc,od,kV,gC,pm,an,dH,ct,Cy,rfl,lk,nE⟩:=F.ex
 refine F8 lk nE S (λvs H Q E ⟨_,_,_,_,_,q,_⟩=>q) λA outer s H vs Q E hr CA=>?_
 obtain⟨O',ds,hO,hR,q1,_,yX,hE⟩:=CA
 have Th:Ct (gN (Bt P w C) P w K mg base N x (af st) fa dH A outer s H E).w_ G (run T n):=by
  refine⟨rfl,hr.units,hb,n9,λg y hy=>?_⟩
  obtain⟨ga,gd,OD,G1,G2,G3,G4,G5⟩:=ih g y hy
  exact⟨n,ga,gd,OD,G1,hr,G2,G3,G4,G5⟩
 have hT:=((snd c).t _ Th ce Tg tc).w_
 have hx:=mO (K:=K) (N:=N) (d:=d) hO hR q1 l2
 rw[iK]
 refine⟨_,bC (u:=λ_ _ _=>False) (zi hT (u0 (Bu O FB (hg _ rfl) tM)) gz) (λ_ _ _ _ _ _ z=>z.elim),?_⟩
 exact⟨_,_,true,hx.ex,yX,λH' s1=>iR λe=>hE e H' s1⟩
end
end Py
namespace L2
open PySem PySem.Spec PyProof.Rows
def nT:entryFor table "proto.unchain"=some Builtin.«proto.unchain»:=entryFor_of_tree (by kernel_rfl)
section
variable {prog:Program}{w:World}{A:Around}{E:Value->Shared->Prop}{s:Shared}
noncomputable def E9(h:Heap)(e:Addr):Prop:=∃oe fs,h.get? e=some oe/\oe.data= .fields fs/\fs[2]?=some .none
def yr{α:Type}{e a:Addr}{o:Obj}{vs:Array Value}{Q:α->Shared->Prop}(hh:A.handled=some (.ref e))(he:E9 s.heap e)(ho:s.heap.get? a=some o)(hd:o.data= .fields vs)(hz:2<vs.size)(fy:e≠a)
  (h:E (.ref a) {s with heap:=s.heap.update a (Obj.mapFields (·.setIfInBounds 2 (.ref e)))}):wpAny (model prog w) A (raiseNew (.ref a):Sem α) Q E s:=by
 obtain⟨oe,fs,Qi,MK,Ti⟩:=he
 simp only[raiseNew]
 refine Zq (aeq ?_)
 rw[hh]
 dsimp only
 have hb:(Value.ref e !=Value.ref a)=true:=by simpa using fy
 rw[ZM hb]
 refine Zq (aaO (wpAny_runValue (aeR nT ?_)))
 unfold Builtin.«proto.unchain»
 dsimp only
 refine Zq (aaF Qi MK Ti ?_)
 show wpAny _ _ (if(Value.none==Value.none)=true then _ else _) _ _ _
 rw[ZM (by decide)]
 refine ZC ?_
 dsimp only
 have q:wpAny (model prog w) A (setField (.ref a) 2 (.ref e)) (λ_ s'=>wpAny (model prog w) A (throw (Value.ref a):Sem α) Q E s') E s:=aba (i:=2) ho hd hz (afp h)
 exact Zq q
def mR(hh:A.handled=some (.ref e))(he:E9 s.heap e)(X':it≠e)
  (nJ:s.heap.IsListIter it l i) (hl:s.heap.IsList l items) (hx:items[i]?=none)
  (hQ:∀h',Heap.ExtBut it s.heap h'->Q none {s with heap:=h'}):wpAny (model prog w) A (pyNext (.ref it)) Q E s:=by
 obtain⟨o,ho,hc,hd⟩:=id nJ
 obtain⟨ol,MG,_,nl,MH⟩:=hl
 obtain⟨oe,fs,Qi,MK,Ti⟩:=he
 unfold pyNext
 refine Zq (aci (aav (name:=Str.ofString "__next__") nJ.typeIs slot_listiter_next
  (aaA slot_listiter_next nJ.typeIs entry_listiter_next ?_ (args_listiter_next _))))
 show wpAny _ _ (field (.ref it) 0 >>= _) _ _ s
 refine Zq (aaF ho hd (x:= .ref l) rfl ?_)
 show wpAny _ _ (if(Value.ref l==Value.none)=true then _ else _) _ _ s
 rw[ZW (show¬((Value.ref l==Value.none)=true) from Zz)]
 show wpAny _ _ (field (.ref it) 1 >>= _) _ _ s
 refine Zq (aaF ho hd (x:= .int i 0) rfl ?_)
 show wpAny _ _ (seqItems? (.ref l) >>= _) _ _ s
 refine Zq (afk MG MH ?_)
 simp only[aaT,hx]
 refine Zq (acs (Zq (aba ho hd (by simp) ?_)))
 show wpAny _ _ (newExc (.type "StopIteration") [] >>= _) _ _ _
 refine Zq ?_
 simp only[newExc,newTuple]
 refine Zq (Z' ?_ (by size_fits))
 refine Zq (m:=firstArgMember _ _) (afo (a:=Value.none) (by first|rfl|(simp only[firstArgMember];rfl)) ?_)
 refine Z' ?_ (by size_fits)
 have eh:=((abi s.heap it (Obj.mapFields (·.setIfInBounds 0 .none))).extBut)
 refine yr (e:=e) hh ⟨oe,fs,?_,MK,Ti⟩ (ZN _ rfl) rfl (by simp;exact by decide) ?_ ?_
 .exact Zv _ (Zv _ (eh e oe (λz=>X' z.symm) Qi))
 .intro z
  have:=ZO Qi
  rw[z]at this
  simp only[abz,Heap.size_after_update]at this
  exact absurd (Nat.lt_of_succ_lt this) (aaC _)
 dsimp only
 refine Zq (aew (T:="StopIteration") (b:=true) ⟨_,aaY _ (ZN _ rfl) rfl,rfl⟩ isSubtype_stop ?_)
 refine ZC (hQ _ λb o' hb q=>?_)
 have bg:=ZO q
 rw[aap]
 .exact Zv _ (Zv _ (eh b o' hb q))
 .intro z
  rw[<-z]at bg
  simp only[abz,Heap.size_after_update]at bg
  exact absurd (Nat.lt_of_succ_lt bg) (aaC _)
def sO(hh:A.handled=some (.ref e))(I ax:Addr)(fy:ax≠I)(OI:I≠e)(items:Array Value):
  Walks prog w A I [I,ax,e] [I] items.size (λi v=>items[i]?=some v) (λi h=>h.IsListIter I ax i/\h.IsList ax items/\E9 h e) where
 sub:=λb hb=>by simp at hb;simp[hb]
 frame:=λ_ _ _ st hk=>⟨st.1.at λo e=>hk I (by simp) o e,st.2.1.at λo e=>hk ax (by simp) o e,let ⟨oe,fs,q,r⟩:=st.2.2;⟨oe,fs,hk e (by simp) _ q,r⟩⟩
 item:=λi s Q E hi st hQ=>by
  refine adf st.1 st.2.1 (x:=items[i]) (by simp[hi]) λh' Iz yP=>?_
  obtain⟨oe,fs,q,r⟩:=st.2.2
  exact hQ _ h' s.toks (by simp[hi]) ⟨Iz,st.2.1.extBut yP.extBut fy,oe,fs,yP.extBut _ _ (λz=>OI z.symm) q,r⟩ λb o hb e=>yP.extBut b o (λh=>hb (by simp[h])) e
 done:=λs Q E st hQ=>mR hh st.2.2 OI st.1 st.2.1 (by simp) λh' yt=>hQ h' s.toks λb o hb e=>yt b o (λh=>hb (by simp[h])) e
 self:=λ_ _ _ _ st hQ=>wpAny_pyIter_listiter st.1 hQ
def yu{bs:List Bool}(hh:A.handled=some (.ref e))(he:E9 s.heap e)(hl:s.heap.IsList l (bs.map Value.bool).toArray)
  (h:∀h' tk,(∀b o,s.heap.get? b=some o->h'.get? b=some o)->Q (.bool (bs.any id)) {s with heap:=h',toks:=tk}):wpAny (model prog w) A (call (.builtin "any") [.ref l]) Q E s:=by
 have bg:l<s.heap.objs.size:=by obtain⟨_,e,_⟩:=hl;exact ZO e
 have kN:s.heap.objs.size≠e:=by obtain⟨_,_,q,_⟩:=he;exact abQ (ZO q)
 refine call_any_walk (adj hl ?_)
 refine⟨_,[_,l,e],[_],_,_,_,_,rfl,sO (A:=A.in1) hh s.heap.objs.size l (Z5 bg) kN _,⟨⟨_,ZN _ rfl,rfl,rfl⟩,hl.push _,let ⟨oe,fs,q,r⟩:=he;⟨oe,fs,Zv _ q,r⟩⟩,rG _ bs,λh' tk hk=>?_⟩
 have e:(bs.map Value.bool).toArray.size =bs.length:=by simp
 rw[e,any_range]
 refine h h' tk λb o z=>hk b o (λhm=>?_) (Zv _ z)
 rw[ZE.mp hm]at z
 exact absurd (ZO z) (aaC _)
end
open PySem.W (Frag findIn specialIn takesIn mroIn clsIn InstAt findObj KitX looks_findIn looks_mroIn looks_find looks_typeIn)
noncomputable def excIn(K:Frag)(D:Addr):Bool:=
 (findIn K (.ref D) "__getattribute__" == some (some (.builtin "BaseException.__getattribute__")))&&(findIn K (.ref D) "__getattr__" == some none)&&(clsIn K D).isSome &&
 (findIn K (.ref D) "__class__" == some (some (.builtin "object.__class__")))&&(specialIn K (.builtin "object.__class__") "__get__" == some (some (.builtin "getset_descriptor.__get__"))) &&
 (takesIn K (.builtin "object.__class__")==some true)&&(mroIn K D (.type "object")==some true)&&(mroIn K D (.type "BaseException")==some true)
structure js(K:Frag)(D:Addr):Prop where
 ga:findIn K (.ref D) "__getattribute__"=some (some (.builtin "BaseException.__getattribute__"))
 gt:findIn K (.ref D) "__getattr__"=some none
 cl:(clsIn K D).isSome =true
 ca:findIn K (.ref D) "__class__"=some (some (.builtin "object.__class__"))
 sp:specialIn K (.builtin "object.__class__") "__get__"=some (some (.builtin "getset_descriptor.__get__"))
 tk:takesIn K (.builtin "object.__class__")=some true
 mo:mroIn K D (.type "object")=some true
 mb:mroIn K D (.type "BaseException")=some true
def js.of{K:Frag}(h:excIn K D=true):js K D:=by
 unfold excIn at h
 simp only[Zu,beq_iff_eq]at h
 obtain⟨⟨⟨⟨⟨⟨⟨a,b⟩,c⟩,d⟩,e⟩,f⟩,g⟩,k⟩:=h
 exact⟨a,b,c,d,e,f,g,k⟩
def js.find{K:Frag}(x:js K D):findObj K D none "__class__"=some (.bind (.builtin "getset_descriptor.__get__") (.builtin "object.__class__")):=by
 obtain⟨cd,hc⟩:=abX.mp x.cl
 unfold findObj
 rw[hc,aao,x.ca,aao]
 simp[x.sp,x.tk]
section
variable {prog:Program}{w:World}{A:Around}{E:Value->Shared->Prop}{s:Shared}{K:Frag}{a D:Addr}{o:Obj}
def yv(x:js K D)(X:K.In s.heap)(I:InstAt s.heap a o D none)(hq:Q () s):
  wpAny M A (checkBuiltinCall "BaseException.__getattribute__" ⟨[.ref a,nameV],[]⟩) Q E s:=by
 have hk:builtinKind "BaseException.__getattribute__"=some .slot :=by decide +kernel
 have Kf:splitId "BaseException.__getattribute__"=some ("BaseException","__getattribute__"):=by decide +kernel
 have L0:=I.type (M:=M)
 have L1:=looks_mroIn (M:=M) X x.mb
 have L2:PySem.W.Looks M s.heap (isInstance (.ref a) (.type "BaseException")) true:=L0.andThen L1
 have ha:=F.args_bexc_ga (.ref a) nameV
 obtain⟨h,g,d,t,os⟩:=s
 simp only[checkBuiltinCall,hk,Kf]
 refine Zq ?_
 refine L2.at ?_
 repeat (first|wp_step)
 exact hq
def kT{tk:Tok}(x:js K D)(X:K.In s.heap)(I:InstAt s.heap a o D none)(hq:Q (.done (.ret (.ref D))) s):
  wpAny (model prog w) A (Builtin.«object.__getattribute__» ⟨[.ref a,.str "__class__" tk],[]⟩) Q E s:=by
 have L0:=I.type (M:=model prog w)
 have L1:=looks_find (M:=model prog w) X I x.find
 have cg:=λ(A:Around) (R:Result->Shared->Prop) (h:R (.ok (.ret (.ref D))) s)=>PySem.W.class_get (prog:=prog) (w:=w) (A:=A) (tp:= .ref D) X I x.mo h
 obtain⟨h,g,d,t,os⟩:=s
 unfold Builtin.«object.__getattribute__»
 repeat (any_goals (first|assumption|(with_reducible refine wpAny_loadPart_at I.at_ ?_;rw[I.cls])|with_reducible refine L1.at ?_|wp_step))
 refine cg _ _ ?_
 repeat (any_goals (first|assumption|wp_step))
def qB(x:js K D)(X:K.In s.heap)(I:InstAt s.heap a o D none)(hq:Q (.ref D) s):
  wpAny (model prog w) A (getAttrBy (.ref a) (.str "__class__" tk) false) Q E s:=by
 have LG:=looks_findIn (M:=model prog w) X x.ga
 have LT:=looks_findIn (M:=model prog w) X x.gt
 have f3:=F.attrBase_ValueError.ga.bind (.ref a)
 have GI:(Value.builtin "BaseException.__getattribute__" == Value.builtin "object.__getattribute__")=false:=by decide +kernel
 have tQ:(onTheHeap (Value.ref D)&&Value.builtin "BaseException.__getattribute__" == Value.builtin "object.__getattribute__")=false:=by rw[GI];rfl
 have cc:=λ(A:Around) (R:Result->Shared->Prop) (h:R (.ok (.ret (.ref D))) s)=>codeAny_call_builtin (prog:=prog) (w:=w) (A:=A) (R:=R) F.attrBase_ValueError.ga.plain F.entry_bexc_ga (yv (nameV:= .str "__class__" tk) x X I (kT (tk:=tk) x X I h))
 obtain⟨h,g,d,t,os⟩:=s
 repeat (any_goals (first|assumption|(with_reducible refine wpAny_loadPart_at I.at_ ?_;rw[I.cls])|with_reducible refine LG.at ?_|with_reducible refine LT.at ?_|wp_step))
 refine cc _ _ ?_
 repeat (any_goals (first|assumption|wp_step))
def mS(x:js K D)(X:K.In s.heap)(I:InstAt s.heap a o D none)(hq:Q (some (.ref D)) {s with toks:=s.toks+1}):
  wpAny (model prog w) A (getAttr? (.ref a) "__class__") Q E s:=by
 unfold getAttr? getAttrBy?
 exact Zq (wpAny_mkText (Zq (aci (qB x X I (ZC hq)))))
def By(x:js K D):KitX K (.ref a) (.ref D) (λh=>InstAt h a o D none) where
 ty:=λ_ _ _ I=>I.type
 it:=λ_ _ X _=>by
  obtain⟨Ya,Kg⟩:=abX.mp x.cl
  unfold clsIn at Kg
  split at Kg
  .rename_i c' d' Yb CS ho
   intro A' Q' E' s' k q
   unfold isType loadHead
   exact Zq (wpAny_loadPart (k _ _ (X _ _ ho)) (ZC q))
  .cases Kg
 ne:=λh tp dd its n sl X Yc=>by
  obtain⟨Ya,Kg⟩:=abX.mp x.cl
  refine Bool.eq_false_iff.mpr λq=>?_
  have e:D=tp:=Value.ref.inj (beq_iff_eq.mp q)
  subst e
  unfold clsIn at Kg
  split at Kg
  .rename_i c' d' Yb CS ho
   have z:=(X _ _ ho).symm.trans Yc
   cases z
  .cases Kg
 ca:=λX I k=>mS x X I k
end
noncomputable def Cx.sP(X:Cx)(e:Addr)(oe:Obj):Cx:={X with A:=X.A.mark (some (.ref e)),calm:=false,pn:=(e,oe)::X.pn,xe:=λ_ _=>False}
section
variable {X:Cx}{U:List (Addr×Obj)}{σ:St}{H:Hp}{s:Shared}{e:Addr}{oe:Obj}
def Kh(o:X.Ok):(X.sP e oe).Ok :=⟨o.mod,o.kind,o.glob,o.blt,o.above,o.inj,o.has,o.K2,λz=>Bool.noConfusion z,o.frames,o.LO,o.QU,o.bs,o.CQ,o.w8,o.y0,o.jD,o.Hl⟩
def E_(I:Inv X U σ H s)(h:s.heap.get? e=some oe/\H e=none/\e≠X.env.locals/\e∉X.fs/\∀v,oe.data≠ .cell v):Inv (X.sP e oe) U σ H s:=
 ⟨Kh I.ok,I.os,I.bare,I.base,I.loc,I.cell,I.free,I.dG,λp hp=>by
  rcases ZK.mp hp with rfl|hp
  .exact h
  .exact I.pin p hp,I.aI,I.len⟩
def yw(o:X.Ok)(I:Inv (X.sP e oe) U σ H s):Inv X U σ H s:=
 ⟨o,I.os,I.bare,I.base,I.loc,I.cell,I.free,I.dG,λp hp=>I.pin p (Zy _ hp),I.aI,I.len⟩
def yx(I:Inv X U σ H s)(hN:X.N.Nodup)(hi:X.N[i]?=some x)(hx:X.env.scope.names.lookup x=some .local)
  (h:∀s',Inv X U (σ.set i none) H s'->Q () s'):wpAny M A (do bindName X.env x .none;unbindBehindTheSuite X.env x pos) Q E s:=by
 obtain⟨m,hn,hl⟩:=id I.loc
 refine wpAny_nameGoes_keeps hx hn (by rw[I.ok.kind];rfl) λh' v QY hs=>?_
 obtain⟨oL,_,_,K3,_⟩:=id hn
 have y_:=I.y_
 have old:∀b o,X.s₀.heap.get? b=some o->X.env.locals≠b:=λb o q z=>absurd (Zr (ZO q) I.ok.above) (by rw[z];exact aaC _)
 have OJ:∀b,X.env.locals≠b->h'.get? b=s.heap.get? b:=λb z=>hs.2 b (aaH z)
 have aI:fN X.prog X.w H h':=λb ob q=>by
  refine(I.aI b ob q).kE (λc w' hc z=>(OJ c ?_).trans z) (λ_ z=>z) λ_ _ z=>z
  rintro rfl
  rcases hc with rfl|hc
  .rw[I.free]at q;cases q
  .rw[I.free]at hc;cases hc
 refine h _ ⟨I.ok,I.os,I.bare,⟨λb o q n hb hx=>?_,λb o q n hb hx=>?_,I.base.free,λb o q hx=>?_,I.base.kF,I.base.fO,I.base.kG⟩,⟨_,QY,λj y v' e1 e2 e3=>?_⟩,λy c q=>?_,I.free,I.dG,λp hp=>?_,aI,by simpa using I.len⟩
 .exact(OJ b (old b o q)).trans (I.base.keep b o q n hb hx)
 .obtain⟨sl,z⟩:=I.base.slot b o q n hb hx
  exact⟨sl,(OJ b (old b o q)).trans z⟩
 .obtain⟨o',z⟩:=I.base.there b o q hx
  exact⟨o',(OJ b (old b o q)).trans z⟩
 .by_cases hj:j=i
  .subst hj
   rw[List.getElem?_set]at e2
   simp at e2
  .rw[Z1 (aaH hj)]at e2
   obtain⟨u',r',q⟩:=hl j y v' e1 e2 e3
   refine⟨u',r',?_⟩
   rcases q with⟨k,q⟩|⟨k,c,q,z⟩
   .have ny:y≠x:=λz=>hj (lJ hN e1 (z▸hi))
    exact .inl ⟨k,by simp[ny,q]⟩
   .exact .inr ⟨k,c,q,z.sameBut hs (y_ y c q)⟩
 .obtain⟨w',z⟩:=I.cell y c q
  exact⟨w',z.sameBut hs (y_ y c q)⟩
 .obtain⟨q,n,ne,nf,d⟩:=I.pin p hp
  exact⟨(OJ p.1 (aaH ne)).trans q,n,ne,nf,d⟩
end
def Bz{ts:Addr->TS}
  (fn:fY X.prog X.w X.K X.mg X.base (Bt X.prog X.w C) k fa fd ps sp) (hr:dW k X.A) (hg:Gl X fx) (hm:X.mg fx=some (.ref fa)) (hk:PySem.W.keepIn X.K (.ref fa)=true) (hb:Binds X.K fd ps []) (ha:PA X.w_ (e::es) ta) (tM:(fx==("__debug__":Str))=false)
  (he:starEach (e::es) X.env=(false,eval e X.env)::starEach es X.env) (iJ:(backTo cp (starEach es X.env)).any (·.1)=false)
  (iK:∀{U σ H s}{E:Value->Shared->Prop}{Q:Flow->Shared->Prop},Inv X U σ H s->wpAny (model X.prog X.w) X.A (eval (.Call (.Name fx fp) (e::es) [] cp) X.env) (λ_ _=>False) E s->wpAny (model X.prog X.w) X.A (exec body X.env) Q E s)
  (OK:X.stack=X.env::X.outer) (OL:X.env.frame=some X.env.locals)
  (qS:X.mg xb=some (.ref CB)) (hex:PySem.W.exmOne X.K (.ref C) (.ref CB)=some true) (Tj:Gl X xb) (Yd:(xb==("__debug__":Str))=false)
  (hN:X.N.Nodup) (hi:X.N[i]?=some n) (Ki:X.env.scope.names.lookup n=some .local)
  (hs:∀a oe vs,eZ C oe vs->jF (X.sP a oe) (b0::OM) (ts a)):
  PS X (.Try [body] [.ExceptHandler (some (.Name xb xp)) (some n) (b0::OM) hp] [] [] tp)
   (λD σ H=>ta σ H λvs H1=>sp vs H1 (λ_ _=>False) (λev _ H2=>∃a,ev= .ref a/\ts a ⟨λ_ _=>False,D.rt,λ_ _=>False,λ_ _=>False⟩ (σ.set i (some (.ref a))) H2)):=by
 intro U s σ H D I h
 refine wpAny_Try_except (aeu (iK I (acv (iG I hg hm ?_ tM))))
 refine adP (h₀:=X.base) I.ok.mod.LN hk (aaJ (ha cp U s σ H _ (I.kH _) h) (λus s1 hs=>?_) λ_ _ z=>z.elim) he iJ
 obtain⟨vs,H1,Ye,r,q⟩:=hs
 have I1:Inv X U σ H1 s1:=Ye.eA
 refine⟨I1.yN,?_⟩
 have hl:(us++[]).length =ps.length:=by rw[aaK,<-r.length];exact fn.len _ _ _ _ q
 refine wpAny_call (adO (fn.run X.A X.stack s1 H1 ⟨us,[]⟩ (us++[]) vs (λ_ _=>False) _ hr I1.Mb (hb s1 us I1.yN hl) (by rw[aaK];exact r) q) λrr s' hq=>?_)
 cases rr with
 |ok fl=>
  cases fl with
  |ret u=>obtain⟨_,_,_,_,_,_,_,z⟩:=hq;exact z.elim
  |next=>exact False.elim hq
  |brk=>exact False.elim hq
  |cont=>exact False.elim hq
 |error ee=>
  obtain⟨⟨a,a0,H',B,rfl,q_,Bx,un,aI,Qj,Yf,Zk,Tn,OH⟩,ON⟩:=hq
  obtain⟨_,ea,Yg⟩:=Tn
  cases ea
  have l0:=ON a rfl
  have back:∀h3:Heap,B.StaysIn h3->s'.heap.UpToSlots h3->Inv X U σ H' {s' with heap:=h3}:=λh3 st up=>Bw (t':=s'.toks) I1 q_ Bx un aI Qj.2.2.1 OH st up
  rw[OK]at Qj
  have yR:X.A.frames=some (X.env::X.outer):=by rw[I.ok.frames,OK]
  show wpAny _ _ (noteFrame (.ref a) X.env) _ _ s'
  refine aaJ (jq (wd _ _) (E:=X.xe) (E':=λ_ _=>True) (Q:=λ_ s4=>∃h4,s4={s' with heap:=h4}/\Heap.HeldW B (X.env::X.outer) a (.ref C) a0 X.env.locals h4/\s'.heap.UpToSlots h4)
   (wpAny_looks_onW yR OL Qj λh4 BA Qk=>⟨h4,rfl,BA,Qk⟩) (ym yR Qj.2.2.1 OL l0)) (λ_ s4 x4=>?_) λ_ _ x=>x.1
  obtain⟨⟨h4,rfl,BA,Qk⟩,l4⟩:=x4
  refine aaJ (jq (j4 _) (E:=X.xe) (E':=λ_ _=>True) (Q:=λ_ s5=>∃h5,s5={s' with heap:=h5}/\Heap.FlyingW B (X.env::X.outer) a (.ref C) a0 h5/\h4.UpToSlots h5)
   (wpAny_landsW BA λh5 Fb Ql=>⟨h5,rfl,Fb,Ql⟩) (gr l4)) (λ_ s5 x5=>?_) λ_ _ x=>x.1
  obtain⟨⟨h5,rfl,Fb,Ql⟩,l5⟩:=x5
  have I5:=back h5 Fb.1 (Qk.trans Ql)
  refine wpAny_handleBy_cons (codeAny_handlers_test ?_) (by intro z;cases z)
  refine acF I.ok.kind Tj (Calls.loadGlobal_global (by rw[I.ok.glob];exact I.mod.glob.keeps I5.bk) qS ?_) Yd
  have LT:PySem.W.Looks (model X.prog X.w) h5 (typeOf (.ref a)) (.ref C):=by
   obtain⟨o,CK,_,_,_,q1,q2,_⟩:=l5
   exact q2.cls▸(PySem.W.Looks.ld q1).andThen .now
  refine(PySem.W.exm_one I5.yN LT hex).here ?_
  refine codeAny_handlers_suite_as ?_
  refine aaJ (jq (j4 _) (E':=λ_ _=>True) (Q:=λ_ s6=>∃h6,s6={s' with heap:=h6}/\Heap.FlyingW B (X.env::X.outer) a (.ref C) a0 h6/\h5.UpToSlots h6)
   (lands_againW Fb λh6 Kj To=>⟨h6,rfl,Kj,To⟩) (gr l5)) (λ_ s6 x6=>?_) λ_ _ x=>x.1
  obtain⟨⟨h6,rfl,Kj,To⟩,l6⟩:=x6
  have I6:=back h6 Kj.1 ((Qk.trans Ql).trans To)
  obtain⟨oe,CK,_,_,_,q1,q2,_⟩:=l6
  have Tp:h6.get? a=some oe/\H' a=none/\a≠X.env.locals/\a∉X.fs/\∀v,oe.data≠ .cell v:=by
   refine⟨q1,Yf,λz=>?_,λz=>?_,λv z=>by rw[q2.data]at z;cases z⟩
   .obtain⟨m,⟨o',Cw,F0,lH,iF,_⟩,_⟩:=I6.loc
    have:h6.get? a=some o':=by rw[z];exact lH
    rw[q1]at this
    cases this
    rw[q2.data]at iF
    cases iF
   .obtain⟨_,o',lH,Bs⟩:=I6.jD.mem z
    have:h6.get? a=some o':=lH
    rw[q1]at this
    cases this
    exact Bs _ q2.data
  refine jE (X:=X.sP a oe) (E_ I6 Tp) hN hi (.inl Ki) (v:= .ref a) rfl (λs7 I7 _=>?_) (.inr Ki)
  refine aaJ (hs a oe CK q2 U s7 _ H' _ I7 Yg) (λf s8 hf=>?_) λ_ _ z=>z.elim
  cases f with
  |ret u=>
   obtain⟨v,Mz,H8,I8,rv,Tn⟩:=hf
   exact yx (yw I.ok I8) hN hi Ki λs9 I9=>⟨v,_,H8,I9,rv,Tn⟩
  |next=>obtain⟨_,_,_,z⟩:=hf;exact z.elim
  |brk=>obtain⟨_,_,_,z⟩:=hf;exact z.elim
  |cont=>obtain⟨_,_,_,z⟩:=hf;exact z.elim
section
variable {X:Cx}{a C:Addr}{oe:Obj}{vs:Array Value}
def wj(I:Inv (X.sP a oe) U σ H s)(lo:eZ C oe vs):PySem.W.InstAt s.heap a oe C none:=by
 obtain⟨q,_⟩:=I.pin (a,oe) (Z7 _ ZD)
 refine⟨q,lo.cls,?_,by rw[lo.dict];trivial⟩
 unfold PySem.W.notCls
 rw[lo.data]
def BB(lo:eZ C oe vs)(x:js X.K C)(hy:∀u,RelV y u->u=c)(hk:PySem.W.kitOne X.K (.ref C) c=some b):cA (X.sP a oe) (.builtin "isinstance") (λxs H Q=>xs=[.ref a,y]/\Q (.bl b) H):=by
 intro U s σ H xs us Q I r ⟨e,q⟩
 subst e
 obtain⟨u,u',rfl,rx,rt⟩:=vals2 r
 have e1:u= .ref a:=rx
 have e2:=hy _ rt
 subst e1 e2
 exact PySem.W.kia_one (By (o:=oe) x) I.yN (wj I lo) hk (λz=>nomatch z) λtk=>⟨.bl b,H,I.kept (t':=tk) λ_ _ z=>z,rfl,q⟩
noncomputable def Tq(i:Nat)(a:Addr)(b:Bool):TE:=λσ H Q=>σ[i]?=some (some (.ref a))/\Q (.bl b) H
def mT(lo:eZ C oe vs)(x:js X.K C)(hy:∀u,RelV y u->u=c)(hk:PySem.W.kitOne X.K (.ref C) c=some b)(hi:X.N[i]?=some n)(hv:uU X.env.scope n)
  (hd:(n==("__debug__":Str))=false) (nE:(n==("__classdict__":Str))=false) (hg:Gl X "isinstance") (hm:X.mg "isinstance"=none) (Yh:PE (X.sP a oe) ce (tC y))
  (hs:∀env:Env,starEach [ce] env=(false,eval ce env)::starEach [] env):PE (X.sP a oe) (.Call (.Name "isinstance" p) [.Name n q,ce] [] pos) (Tq i a b):=by
 refine PE.weak (eF (BB (y:=y) lo x hy hk) hg hm boot_isinstance (aZ (bG (X:=X.sP a oe) hi hv hd nE) (aZ Yh cf (hs _)) rfl) (by decide) (by decide) rfl (by rw[hs];rfl)) λσ H Q ⟨h1,h2⟩=>?_
 exact⟨_,h1,rfl,h2⟩
def yz(lo:eZ C oe vs):cA (X.sP a oe) (.builtin "any") (λxs H Q=>∃(p:Addr) (bs:List Bool),xs=[.ref p]/\du X.K H p (bs.map V.bl)/\Q (.bl (bs.any id)) H):=by
 intro U s σ H xs us Q I r ⟨p,bs,e,hq,q⟩
 subst e
 obtain⟨u,rfl,rx⟩:=vals1 r
 cases rx
 obtain⟨its,rv,pl,hz⟩:=I.list hq
 rw[vn rv]at pl
 refine yu (e:=a) rfl ?_ pl.isList λh' tk hk=>⟨.bl _,H,I.kept (t':=tk) hk,rfl,q⟩
 exact⟨oe,vs,(wj I lo).at_,lo.data,lo.ctx⟩
end
def Fc:bootBuiltins "ValueError"=some (.type "ValueError"):=by decide +kernel
section
variable {X:Cx}{a C C1 C2 C3 C4:Addr}{oe:Obj}{vs:Array Value}{i j:Nat}{n y c1 c2 c3 c4:Str}
def yA(lo:eZ C oe vs)(x:js X.K C)(hN:X.N.Nodup)(hi:X.N[i]?=some n)(hv:uU X.env.scope n)(hd:(n==("__debug__":Str))=false)(nE:(n==("__classdict__":Str))=false)
  (hj:X.N[j]?=some y) (hy:X.env.scope.names.lookup y=some .local) (Yi:(y==("__debug__":Str))=false) (Tr:(y==("__classdict__":Str))=false) (um:i≠j)
  (hg:Gl X "isinstance") (hm:X.mg "isinstance"=none) (Yj:Gl X "any") (Yk:X.mg "any"=none) (Yl:Gl X "ValueError") (Tt:X.mg "ValueError"=none)
  (g1:Gl X c1) (m1:X.mg c1=some (.ref C1)) (d1:(c1==("__debug__":Str))=false) (k1:PySem.W.kitOne X.K (.ref C) (.ref C1)=some false)
  (g2:Gl X c2) (m2:X.mg c2=some (.ref C2)) (d2:(c2==("__debug__":Str))=false) (k2:PySem.W.kitOne X.K (.ref C) (.ref C2)=some false)
  (g3:Gl X c3) (m3:X.mg c3=some (.ref C3)) (d3:(c3==("__debug__":Str))=false) (k3:PySem.W.kitOne X.K (.ref C) (.ref C3)=some false)
  (g4:Gl X c4) (m4:X.mg c4=some (.ref C4)) (d4:(c4==("__debug__":Str))=false) (k4:PySem.W.kitOne X.K (.ref C) (.ref C4)=some true)
  (k5:PySem.W.kitOne X.K (.ref C) (.type "ValueError")=some true):
  jF (X.sP a oe) [.Assign [.Name y py] (.List [.Call (.Name "isinstance" p1) [.Name n q1,.Name c1 r1] [] z1,.Call (.Name "isinstance" p2) [.Name n q2,.Name c2 r2] [] z2,.Call (.Name "isinstance" p3) [.Name n q3,.Name c3 r3] [] z3] lp) ap,
    .Return (some (.BoolOp .And [.Call (.Name "isinstance" p4) [.Name n q4,.Name c4 r4] [] z4,.Call (.Name "isinstance" p5) [.Name n q5,.Name "ValueError" r5] [] z5,.UnaryOp .Not (.Call (.Name "any" anp) [.Name y yp] [] acp) np] bp)) rp]
   (λD σ H=>σ[i]?=some (some (.ref a))/\∀p H',H p=none->H'=upd H p (.lst [.bl false,.bl false,.bl false])->D.rt (.bl true) H'):=by
 have own:∀{c:Str}{D:Addr}{r:Pos},Gl X c->X.mg c=some (.ref D)->(c==("__debug__":Str))=false->PE (X.sP a oe) (.Name c r) (tC (.ref D)):=λg m d=>uX (X:=X.sP a oe) g m rfl d
 have ry:∀{D:Addr} (u:Value),RelV (.ref D) u->u= .ref D:=λu z=>z
 have rt:∀(u:Value),RelV (.ty "ValueError") u->u= .type "ValueError":=λu z=>z
 have st:∀{c:Str}{r:Pos} (env:Env),starEach [.Name c r] env=(false,eval (.Name c r) env)::starEach [] env:=λ_=>rfl
 have e1:=mT (p:=p1) (q:=q1) (pos:=z1) lo x ry k1 hi hv hd nE hg hm (own (r:=r1) g1 m1 d1) st
 have e2:=mT (p:=p2) (q:=q2) (pos:=z2) lo x ry k2 hi hv hd nE hg hm (own (r:=r2) g2 m2 d2) st
 have e3:=mT (p:=p3) (q:=q3) (pos:=z3) lo x ry k3 hi hv hd nE hg hm (own (r:=r3) g3 m3 d3) st
 have e4:=mT (p:=p4) (q:=q4) (pos:=z4) lo x ry k4 hi hv hd nE hg hm (own (r:=r4) g4 m4 d4) st
 have e5:=mT (p:=p5) (q:=q5) (pos:=z5) lo x rt k5 hi hv hd nE hg hm (uY (X:=X.sP a oe) (v:= .ty "ValueError") (pos:=r5) Yl Tt Fc rfl (by decide) (by decide)) st
 have e6:=eF (p:=anp) (pos:=acp) (yz (X:=X) (a:=a) lo) Yj Yk boot_any (aZ (bG (X:=X.sP a oe) (pos:=yp) hj (.inl hy) Yi Tr) cf rfl) (by decide) (by decide) rfl rfl
 have s1:=fX (X:=X.sP a oe) (pos:=ap) (pos':=py) hN hj (.inl hy) (zy (pos:=lp) (aZ e1 (aZ e2 (aZ e3 cf rfl) rfl) rfl)) rfl (.inr hy)
 have s2:=pL (pos:=rp) (tU (pos:=bp) e4 (tU e5 (zg (zh (pos:=np) e6))))
 intro U s σ H D I h
 refine bC s1 (u0 s2) U s σ H D I ?_
 obtain⟨h1,h2⟩:=h
 have hl:j<σ.length:=by rw[I.len];exact(ZL.mp hj).1
 have P8:∀p,(σ.set j (some (.ref p)))[i]?=some (some (.ref a)):=λp=>by rw[Z1 (aaH um)];exact h1
 refine⟨h1,h1,h1,by decide,λp hp=>?_⟩
 refine⟨P8 p,true,rfl,?_⟩
 rw[ZM rfl]
 refine⟨P8 p,true,rfl,?_⟩
 rw[ZM rfl]
 refine⟨.ref p,by rw[Z2 hl],p,[false,false,false],rfl,.inl (.inl ai),false,rfl,h2 p _ hp rfl⟩
end
end L2
namespace Py
open PySem L2 PyProof.Rows
section
variable {P:Program}{w:World}{K:aC}{mg:Str->Option Value}{base:Heap}{G:GT}{T:List Fd}
def nU{iN jN:Nat}{st ak:Stmt}{fa Tu C CB:Addr}{bx sv:List Stmt}
  (hb:∀x∈eV,mg x=none) (n9:∀(x:Str) (i:Int),(x,i)∈G.2->∃t,mg x=some (.int i t)) (ih:∀m,m<=n->pv P w K mg base G T m)
  (F':zI K fx fx ak Tu VM) (S':c_ N' VN (af ak)) (B':Binds K VM VN []) (m':mg fx=some (.ref Tu))
  (Kk:bD ak= .If ce [.Raise (some (.Call (.Name xc np) [.Constant (.str msg) j p'] [] cj)) none rp] [] ip::bx) (Tg:bh G c N' (af ak) ce=true) (tc:AS c=true) (Jk:cV (af ak) xc=true) (Tv:VN.length=d'.par) (VO:N'.length=d'.iX)
  (O:OwnCls xc C bm newId mg base) (FB:ExcBaseFacts B newId Bv bm) (Ym:(xc==("__debug__":Str))=false) (qS:mg xh=some (.ref CB)) (hex:PySem.W.exmOne K (.ref C) (.ref CB)=some true) (Yn:(xh==("__debug__":Str))=false)
  (F:zI K x x st fa fd) (S:c_ N ps (af st)) (l1:ps.length=d.par) (l2:N.length=d.iX)
  (iK:bD st= .Try [.Expr (.Call (.Name fx fp) (e0::el) [] cp) ep] [.ExceptHandler (some (.Name xh xp)) (some nm) [.Assign [.Name y py] (.List [.Call (.Name "isinstance" p1) [.Name nm q1,.Name c1 r1] [] z1,.Call (.Name "isinstance" p2) [.Name nm q2,.Name c2 r2] [] z2,.Call (.Name "isinstance" p3) [.Name nm q3,.Name c3 r3] [] z3] lp) ap,
    .Return (some (.BoolOp .And [.Call (.Name "isinstance" p4) [.Name nm q4,.Name c4 r4] [] z4,.Call (.Name "isinstance" p5) [.Name nm q5,.Name "ValueError" r5] [] z5,.UnaryOp .Not (.Call (.Name "any" anp) [.Name y yp] [] acp) Yo] bp)) Yp] hp] [] [] tp::sv)
  (Yq:c6 G es N (af st) (e0::el)=true) (Yr:cV (af st) fx=true) (Tj:cV (af st) xh=true) (Ii:(fx==("__debug__":Str))=false)
  (he:∀env:PySem.Env,starEach (e0::el) env=(false,eval e0 env)::starEach el env/\(backTo cp (starEach el env)).any (·.1)=false/\swapsWith (.Call (.Name fx fp) (e0::el) [] cp) none ep.line env=pure false)
  (ek:js K C) (Tw:N[iN]?=some nm) (Ys:N[jN]?=some y) (um:iN≠jN) (lN:(af st).names.lookup nm=some .local) (lY:(af st).names.lookup y=some .local) (dN:vS nm=true) (dY:vS y=true)
  (gi:cV (af st) "isinstance"=true) (ga:cV (af st) "any"=true) (gv:cV (af st) "ValueError"=true) (mv:mg "ValueError"=none)
  (g1:cV (af st) c1=true) (m1:mg c1=some (.ref C1)) (d1:(c1==("__debug__":Str))=false) (k1:PySem.W.kitOne K (.ref C) (.ref C1)=some false)
  (g2:cV (af st) c2=true) (m2:mg c2=some (.ref C2)) (d2:(c2==("__debug__":Str))=false) (k2:PySem.W.kitOne K (.ref C) (.ref C2)=some false)
  (g3:cV (af st) c3=true) (m3:mg c3=some (.ref C3)) (d3:(c3==("__debug__":Str))=false) (k3:PySem.W.kitOne K (.ref C) (.ref C3)=some false)
  (g4:cV (af st) c4=true) (m4:mg c4=some (.ref C4)) (d4:(c4==("__debug__":Str))=false) (k4:PySem.W.kitOne K (.ref C) (.ref C4)=some true)
  (k5:PySem.W.kitOne K (.ref C) (.type "ValueError")=some true)
  (hT:T[f]?=some d) (hd:d.body= .seq (.ifs (.call g es) (.seq (.ret (.c (.bl true))) .skip) .skip) (.seq (.raise 0) .skip)) (Yt:T[g]?=some dg) (Yu:dg.body= .seq (.ret c) .skip) (lg:dg.par=d'.par) (eg:∀ds,ao dg ds=ao d' ds)
  (bc:∀F ρ v,ev F true c ρ=some v->ev F false c ρ=some v) (be:∀ds:List D,ds.length=d.par->∀F v,cR F true es (ao d ds)=some v->cR F false es (ao d ds)=some v):
  fY P w K mg base rj (n+1) fa fd ps (uA K ps.length (run T (n+1) f)):=by
 refine F.ok S (λvs H Q E z=>?_) (λdH A outer s H vs Q E hr z=>?_)
 .obtain⟨_,_,_,_,_,_,q,_⟩:=z
  exact q
 .obtain⟨O',ds,r,hO,hR,AF,hl,kk⟩:=z
  obtain⟨VP,P4⟩:=gp hT AF
  obtain⟨m,xs,rfl,e1,e2,e3,rfl⟩:∃m xs,n=m+1/\cR (run T n) true es (ao d ds)=some xs/\xs.length=d'.par/\(ev (run T m) false c (ao d' xs)).bind fg=some true/\r= .bl true:=by
   rw[hd]at P4
   have q3:out ((ex (run T n) (.ifs (.call g es) (.seq (.ret (.c (.bl true))) .skip) .skip) (ao d ds)).bind λo=>match o with
    | .next ρ'=>ex (run T n) (.seq (.raise 0) .skip) ρ'
    |o=>some o)=some r:=by(rw[<-P4,bU];try rfl)
   rw[fP]at q3
   cases yX:ev (run T n) false (.call g es) (ao d ds)with
   |none=>rw[yX]at q3;cases q3
   |some v=>
    rw[yX]at q3
    cases v with
    |bl b=>
     cases b with
     |false=>cases q3
     |true=>
      have OO:r= .bl true:=by
       have q4:some (D.bl true)=some r:=q3
       cases q4;rfl
      rw[Iu]at yX
      obtain⟨xs,e1,yX⟩:=bind_some yX
      obtain⟨dd,e2,yX⟩:=bind_some yX
      have yW:dd= .bl true:=by
       split at yX
       .cases yX
       .cases yX;rfl
      subst yW
      cases n with
      |zero=>cases e2
      |succ m=>
       obtain⟨w1,w2⟩:=gp Yt e2
       rw[Yu]at w2
       have w3:out ((ex (run T m) (.ret c) (ao dg xs)).bind λo=>match o with
        | .next ρ'=>ex (run T m) .skip ρ'
        |o=>some o)=some (.bl true):=by(rw[<-w2,bU];try rfl)
       rw[Iv]at w3
       cases hv:ev (run T m) true c (ao dg xs)with
       |none=>rw[hv]at w3;cases w3
       |some v=>
        rw[hv]at w3
        have w4:some v=some (D.bl true):=w3
        cases w4
        refine⟨m,xs,rfl,e1,by rw[w1,lg],?_,OO⟩
        rw[<-eg xs,bc _ _ _ hv]
        rfl
    |_=>cases q3
  have Th:Ct (gN rj P w K mg base N x (af st) fa dH A outer s H E).w_ G (run T (m+1)):=by
   refine⟨rfl,hr.units,hb,n9,λg y hy=>?_⟩
   obtain⟨ga,gd,OD,G1,G2,G3,G4,G5⟩:=ih (m+1) (ZG _) g y hy
   exact⟨m+1,ga,gd,OD,G1,hr,G2,G3,G4,G5⟩
  have fn:=yo (C:=C) (d:=d') hb n9 (ih m (ZU _ _)) F' S' Kk Tg tc O FB (λX hX=>bP (by rw[hX];exact Jk)) Ym Tv VO
  have hA:=(snd es).es _ Th (e0::el) Yq false
  have hx:=mO (K:=K) (N:=N) (d:=d) hO hR VP l2
  rw[iK]
  have Yv:=λ(a:Addr) (oe:Obj) (vs:Array Value) (lo:eZ C oe vs)=>yA (X:=(gN rj P w K mg base N x (af st) fa dH A outer s H E).w_) (a:=a) (p1:=p1) (q1:=q1) (r1:=r1) (z1:=z1) (p2:=p2) (q2:=q2) (r2:=r2) (z2:=z2) (p3:=p3) (q3:=q3) (r3:=r3) (z3:=z3) (p4:=p4) (q4:=q4) (r4:=r4) (z4:=z4) (p5:=p5) (q5:=q5) (r5:=r5) (z5:=z5) (py:=py) (lp:=lp) (ap:=ap) (anp:=anp) (yp:=yp) (acp:=acp) (np:=Yo) (bp:=bp) (rp:=Yp)
   lo ek S.nd Tw (.inl lN) (bW dN).1 (bW dN).2 Ys lY (bW dY).1 (bW dY).2 um (bP gi) (hb _ (by simp[eV])) (bP ga) (hb _ (by simp[eV])) (bP gv) mv (bP g1) m1 d1 k1 (bP g2) m2 d2 k2 (bP g3) m3 d3 k3 (bP g4) m4 d4 k4 k5
  refine⟨_,bC (u:=λ_ _ _=>False) (Bz (X:=(gN rj P w K mg base N x (af st) fa dH A outer s H E).w_) fn hr (bP Yr) m' F'.kp B' hA Ii (he _).1 (he _).2.1
   (λI z=>wpAny_Expr_any (aaJ z (λ_ _ z=>z.elim) λ_ _ z=>z) I.quiet (he _).2.2) rfl rfl qS hex (bP Tj) Yn S.nd Tw lN Yv) (λ_ _ _ _ _ _ z=>z.elim),?_⟩
  refine⟨_,_,xs,hx.ex,be ds VP _ _ e1,λus H1 s1 r1=>?_⟩
  have lu:=fB r1
  have li:iN<(start N vs).length :=by
   have:=(ZL.mp Tw).1
   unfold L2.start
   simp only[ZQ,ZA,abR]
   omega
  exact⟨_,xs,(hx.ex.mono s1).live,lu,e2,by rw[lu.length,e2,Tv],e3,λe H2 s2=>⟨e,rfl,by rw[Z2 li],λp H3 hp h3=>kk (.bl true) H3 ((s1.trans s2).trans (by rw[h3];exact ag.upd hp)) (.bl _)⟩⟩
end
def Kl{K:aC}{C:Addr}(X:K.In h)(hm:mg x=some (.ref C))(q:PySem.W.excIn K C bm Yw=true):OwnCls x C bm Yw mg h:=by
 refine⟨hm,?_⟩
 unfold PySem.W.excIn at q
 split at q
 rotate_left
 .cases q
 rename_i od Yx Yy fV
 split at q
 rotate_left
 .cases q
 rename_i Cz tl t0 t1 t2 t3 nn t5 OP VQ
 simp only[Zu,beq_iff_eq,abG]at q
 obtain⟨⟨⟨⟨⟨a1,a2⟩,a3⟩,a4⟩,a5⟩,a6⟩:=q
 subst a1
 subst a2
 obtain⟨f1,f2,f3,f4,f5,f6,f7,f8,f9,Qm,VR⟩:=Yx
 dsimp only at OP a3 a5 a6
 subst OP
 subst a3
 obtain⟨ll⟩:=Yy
 dsimp only at VQ
 subst VQ
 exact⟨tl,f4,f1,f5,f2,f6,f7,f8,f9,Qm,od,t0,t1,t2,t3,t5,_,X _ _ fV,.of_isNs (PySem.W.isNs_of_in X a5),PySem.W.nsMap_none_of_in X a5 a6,PySem.W.tail_of_in X a4⟩
def Fe{ps:List Str}(hT:T[f]?=some d)(l:ps.length=d.par)(ds:List D)(r:D)(z:run T n f ds=some r):ds.length=ps.length:=by
 cases n with
 |zero=>exact nomatch z
 |succ n=>exact(gp hT z).1.trans l.symm
def BC(hp:d.par=2)(ds:List D)(hl:ds.length=d.par)(F:FT)(v:List D)(h:cR F true (.cons (.var 0) (.cons (.var 1) .nil)) (ao d ds)=some v):cR F false (.cons (.var 0) (.cons (.var 1) .nil)) (ao d ds)=some v:=by
 rw[hp]at hl
 match ds,hl with
 |[x,y],_=>exact h
end Py
namespace Py
noncomputable abbrev vf(d:D):Option (Bool×D):=some (false,d)
noncomputable abbrev E.ci(i:Int):E:=.c (.int i)
noncomputable abbrev E.o(a:E):E:=.cons a .nil
noncomputable def j5:Fd:=⟨2,2,(.seq (.ifs (.cmp .Lt (.var 1) (.prim .len (.u 0))) (.seq (.ret (.idx (.var 0) (.var 1))) .skip) .skip) (.seq (.ret (.ci 0)) .skip))⟩
noncomputable def sQ(g:Nat):Fd:=⟨2,3,(.seq (.asg 2 (.bin .Mod (.bin .Mult (.bin .Add (.bin .Add (.call g (.w 0 (.u 1))) (.bin .Mult (.ci 7919) (.var 1))) (.ci 1)) (.ci 48271)) (.ci 2147483647))) (.seq (.ret (.bin .Mod (.bin .Add (.bin .Add (.bin .Mult (.var 2) (.var 2)) (.bin .Mult (.ci 7) (.var 2))) (.var 1)) (.ci 2147483629))) .skip))⟩
noncomputable def lA:Fd:=⟨2,3,(.seq (.asg 2 (.bin .Mod (.bin .Mult (.bin .Add (.bin .Add (.var 0) (.bin .Mult (.ci 104729) (.var 1))) (.ci 17)) (.ci 69621)) (.ci 2147483647))) (.seq (.ret (.bin .Mod (.bin .Add (.bin .Add (.bin .Mult (.var 2) (.var 2)) (.bin .Mult (.ci 3) (.var 2))) (.var 1)) (.ci 2147483629))) .skip))⟩
noncomputable def fG(ns:List Int):D:= .lst (ns.map .int)
noncomputable def cell(ns:List Int)(k:Nat):Int:=ns[k]?.getD 0
noncomputable def Ff(c k:Int):Int:=(c+7919*k+1)*48271%2147483647
noncomputable def iA(ns:List Int)(k:Nat):Int:=(Ff (cell ns k) k*Ff (cell ns k) k+7*Ff (cell ns k) k+k)%2147483629
noncomputable def qC(a k:Int):Int:=(a+104729*k+17)*69621%2147483647
noncomputable def drawn(a k:Int):Int:=(qC a k*qC a k+3*qC a k+k)%2147483629
def Km(ns:List Int)(k:Nat):0<=iA ns k:=abg _ (by decide)
def BD(a k:Int):0<=drawn a k:=abg _ (by decide)
def a_(h:T[f]?=some d)(hl:xs.length=d.par):run T (n+1) f xs=out (ex (run T n) d.body (ao d xs)):=by
 rw[run,h]
 exact ZM hl
def ay(h:ev F false e ρ=some d):ex F (.asg i e) ρ=some (.next (put ρ i false d)):=by
 rw[RO,h]
 rfl
def aB(h1:cR F true es ρ=some xs)(h2:F f xs=some d)(h3:aF d=true):ev F b (.call f es) ρ=some d:=by
 rw[Iu,h1]
 show(F f xs).bind _=_
 rw[h2]
 show(if(pX ρ es&&!aF d)=true then none else some d)=_
 rw[h3]
 rw[Bool.and_comm]
 rfl
section
variable {F:FT}{ρ:Env}{b:Bool}
def fW(h:ex F a ρ=some (.next ρ')):ex F (.seq a c) ρ=ex F c ρ':=by
 rw[bU,h]
 rfl
def Tx(h:ex F a ρ=some (.ret d)):ex F (.seq a c) ρ=some (.ret d):=by
 rw[bU,h]
 rfl
def qD(h1:ev F true a ρ=some x)(h2:ev F true c ρ=some y):ev F b (.bin o a c) ρ=bin o x y:=by
 rw[RG,h1,h2]
 rfl
def GS(h1:ev F true a ρ=some (.int i))(h2:ev F true c ρ=some (.int j))(hj:0<j):ev F b (.bin .Mod a c) ρ=some (.int (i%j)):=(qD h1 h2).trans (ZM hj)
def Qn(h0:ev F true (.var 0) ρ=some (.int i))(h1:ev F true (.var 1) ρ=some (.int j))(hj:0<j)(hk:0<k/\k<1073741824):ev F b (.bin .Mod (.bin .FloorDiv (.var 0) (.ci k)) (.var 1)) ρ=some (.int (i/k%j)):=GS ((qD h0 (y:= .int k) rfl).trans (ZM hk)) h1 hj
def GU(h1:ev F true a ρ=some (.int i))(h2:ev F true c ρ=some (.int j)):ev F b (.bin .Add a c) ρ=some (.int (i+j)):=qD h1 h2
def GV(h1:ev F true a ρ=some (.int i))(h2:ev F true c ρ=some (.int j))(m:kh i j=true):ev F b (.bin .Mult a c) ρ=some (.int (i*j)):=(qD h1 h2).trans (ZM m)
def Fg(h1:ev F true a ρ=some x)(h2:ev F true c ρ=some y)(h3:cmp o x y=some k):ev F b (.cmp o a c) ρ=some (.bl k):=by
 rw[Ir,h1,h2]
 show(cmp o x y).map D.bl=_
 rw[h3]
 rfl
def dm(h:ev F true e ρ=some d):out (ex F (.seq (.ret e) t) ρ)=some d:=by
 rw[bU,Iv,h]
 rfl
def yB(h:k<n):bT n k=some k:=(ZM (ZX _)).trans (ZM (acg.mpr h))
def sR(h:ev F false e ρ=some (.lst xs)):ex F (.cS i e) ρ=some (.next (put ρ i true (.lst xs))):=by
 rw[zR,h]
 rfl
end
def Fh(ns:List Int)(k:Nat):out (ex F j5.body (ao j5 [fG ns,.int k]))=some (.int (cell ns k)):=by
 have hl:(ns.map D.int).length =ns.length:=ZA ..
 have t:ev F false (.cmp .Lt (.var 1) (.prim .len (.u 0))) (ao j5 [fG ns,.int k])=some (.bl (decide ((k:Int)<((ns.map D.int).length :Nat)))):=Fg (x:= .int k) (y:= .int ((ns.map D.int).length :Nat)) rfl rfl rfl
 rw[hl]at t
 by_cases h:k<ns.length
 .rw[decide_eq_true (acg.mpr h)]at t
  refine congrArg out (Tx (d:= .int (cell ns k)) ?_)
  rw[fP,t]
  have i:ev F true (.idx (.var 0) (.var 1)) (ao j5 [fG ns,.int k])=some (.int (cell ns k)):=by
   show(bT (ns.map D.int).length k).bind (λj=>(ns.map D.int)[j]?)=_
   rw[yB (hl.symm▸h)]
   show(ns.map D.int)[k]?=_
   rw[ZJ,cell,Zt h]
   rfl
  show ex F (.seq (.ret _) .skip) _=_
  rw[bU,Iv,i]
  rfl
 .rw[decide_eq_false λz=>h (acg.mp z)]at t
  refine(congrArg out (fW (ρ':=ao j5 [fG ns,.int k]) ?_)).trans ?_
  .rw[fP,t]
   rfl
  .rw[cell,Z6 (Z0 h)]
   rfl
def jt(i:Int)(h1: -(2 ^ 64)<j)(h2:j<2 ^ 64):kh i j=true:=afs.mpr (.inr (abc.mpr ⟨decide_eq_true h1,decide_eq_true h2⟩))
def lB(j:Int)(h1: -(2 ^ 64)<i)(h2:i<2 ^ 64):kh i j=true:=afs.mpr (.inl (abc.mpr ⟨decide_eq_true h1,decide_eq_true h2⟩))
def GW(hm:0<m/\m<2 ^ 64):kh (n%m) (n%m)=true:=jt _ (Int.lt_of_lt_of_le (by decide) (abg _ (ado hm.1))) (Int.lt_trans (abr _ hm.1) hm.2)
def Ko(ns:List Int)(k:Nat)(hk:k<1000)(hF:F g [fG ns,.int k]=some (.int (cell ns k))):out (ex F (sQ g).body (ao (sQ g) [fG ns,.int k]))=some (.int (iA ns k)):=by
 have c1:ev F true (.call g (.w 0 (.u 1))) (ao (sQ g) [fG ns,.int k])=some (.int (cell ns k)):=aB (xs:=[fG ns,.int k]) rfl hF rfl
 have a2:ev F false (.bin .Mod (.bin .Mult (.bin .Add (.bin .Add (.call g (.w 0 (.u 1))) (.bin .Mult (.ci 7919) (.var 1))) (.ci 1)) (.ci 48271)) (.ci 2147483647)) (ao (sQ g) [fG ns,.int k])=some (.int (Ff (cell ns k) k)):=
  GS (GV (GU (GU c1 (GV rfl rfl (lB _ (by decide) (by decide)))) rfl) rfl (jt _ (by decide) (by decide))) rfl (by decide)
 exact(congrArg out (fW (ay a2))).trans (dm (GS (GU (GU (GV rfl rfl (GW (by decide))) (GV rfl rfl (lB _ (by decide) (by decide)))) rfl) rfl (by decide)))
def BE(a k:Int):out (ex F lA.body (ao lA [.int a,.int k]))=some (.int (drawn a k)):=by
 have a2:ev F false (.bin .Mod (.bin .Mult (.bin .Add (.bin .Add (.var 0) (.bin .Mult (.ci 104729) (.var 1))) (.ci 17)) (.ci 69621)) (.ci 2147483647)) (ao lA [.int a,.int k])=some (.int (qC a k)):=
  GS (GV (GU (GU rfl (GV rfl rfl (lB _ (by decide) (by decide)))) rfl) rfl (jt _ (by decide) (by decide))) rfl (by decide)
 exact(congrArg out (fW (ay a2))).trans (dm (GS (GU (GU (GV rfl rfl (GW (by decide))) (GV rfl rfl (lB _ (by decide) (by decide)))) rfl) rfl (by decide)))
noncomputable def perms:Nat->List (List Int)
 |0=>[[]]
 |n+1=>(perms n).flatMap λp=>(List.range (n+1)).map λk=>p.take k++(n:Int)::p.drop k
def pB(h:p∈perms n)(hk:k<=n):p.take k++(n:Int)::p.drop k∈perms (n+1):=
 abv.mpr ⟨p,h,ZT.mpr ⟨k,aar.mpr (aaj hk),rfl⟩⟩
theorem aQ:∀{n:Nat}{p:List Int},p∈perms n->p.length=n
 |0,p,h=>by
  cases ZE.mp h
  rfl
 |n+1,p,h=>by
  refine aa (abv.mp h) λq hq h=>aa (ZT.mp h) λk hk ah=>?_
  subst ah
  have:=aQ hq
  have D8:=aar.mp hk
  rw[ZQ,abt,Z3,aco]
  exact LB this D8
noncomputable def tp(p:List Int):D:= .tup (p.map .int)
def uL{xs:List D}:∀{p:List Int},aP xs=some p->xs=p.map .int :=by
 induction xs with
 |nil=>intro p h;cases h;rfl
 |cons x r ih=>
  intro p h
  cases x with
  |int i=>
   have h:(aP r).map (i:: ·)=some p:=h
   cases e:aP r with
   |none=>rw[e]at h;cases h
   |some q=>
    rw[e]at h
    cases h
    rw[ih e]
    rfl
  |_=>cases h
noncomputable def Kp(n:Nat):Option D->Bool
 |some (.tup xs)=>match aP xs with
  |some p=>(perms n).contains p
  |none=>false
 |_=>false
def wk(h:Kp n o=true):∃p∈perms n,o=some (tp p):=by
 cases o with
 |none=>cases h
 |some d=>cases d with
  |tup xs=>
   cases e:aP xs with
   |none=>
    have h:(match aP xs with|some p=>(perms n).contains p|none=>false)=true:=h
    rw[e]at h;cases h
   |some p=>
    have h:(match aP xs with|some p=>(perms n).contains p|none=>false)=true:=h
    rw[e]at h
    exact⟨p,List.contains_iff_mem.mp h,by rw[uL e];rfl⟩
  |_=>cases h
noncomputable def BF:C:=(.seq (.lW 2 (.var 3) (.var 4)) (.seq (.lW 2 (.var 4) (.var 3)) (.seq (.ret (.prim .tuple (.u 2))) .skip)))
noncomputable def Kq:C:=(.seq (.for [7] 0 (.fj (.u 5)) (.seq (.lW 2 (.bin .Mod (.bin .Add (.var 6) (.var 7)) (.var 1)) (.bin .Mod (.bin .Add (.var 6) (.bin .Mod (.bin .Add (.var 7) (.ci 1)) (.var 5))) (.var 1))) .skip)) (.seq (.ret (.prim .tuple (.u 2))) .skip))
noncomputable def Fi(g:Nat):C:=(.seq (.asg 9 (.bin .Mod (.call g (.w 0 (.u 7))) (.bin .Add (.prim .len (.u 8)) (.ci 1)))) (.seq (.cS 8 (.bin .Add (.bin .Add (.sl (.var 8) .nil (.u 9)) (.lst (.u 7))) (.sl (.var 8) (.u 9) .nil))) .skip))
noncomputable def qE(g:Nat):Fd:=⟨2,10,(.seq (.cS 2 (.nA .list (.u 1))) (.seq (.ifs (.cmp .Eq (.bin .Mod (.var 0) (.ci 3)) (.ci 0)) (.seq (.asg 3 (.bin .Mod (.bin .FloorDiv (.var 0) (.ci 3)) (.var 1))) (.seq (.asg 4 (.bin .Mod (.bin .FloorDiv (.var 0) (.ci 18)) (.var 1))) BF)) .skip)
 (.seq (.ifs (.cmp .Eq (.bin .Mod (.var 0) (.ci 3)) (.ci 1)) (.seq (.asg 5 (.bin .Add (.ci 1) (.bin .Mod (.bin .FloorDiv (.var 0) (.ci 3)) (.var 1)))) (.seq (.asg 6 (.bin .Mod (.bin .FloorDiv (.var 0) (.ci 18)) (.var 1))) Kq)) .skip)
 (.seq (.cS 8 (.lst .nil)) (.seq (.for [7] 0 (.fj (.u 1)) (Fi g)) (.seq (.ret (.prim .tuple (.u 8))) .skip))))))⟩
noncomputable abbrev vi(i:Int):Option (Bool×D):=vf (.int i)
noncomputable abbrev vo(xs:List D):Option (Bool×D):=some (true,.lst xs)
noncomputable def wm(a:Int)(s o1 o2:Nat):Env:=[vi a,vi s,vo (bK 0 s),vi o1,vi o2,none,none,none,none,none]
noncomputable def BG(a:Int)(s m o:Nat):Env:=[vi a,vi s,vo (bK 0 s),none,none,vi m,vi o,none,none,none]
set_option maxHeartbeats 0 in
def BH(F:FT)(a:Int):(List.range 6).all (λs=>(List.range (s+1)).all λo1=>(List.range (s+1)).all λo2=>Kp (s+1) (out (ex F BF (wm a (s+1) o1 o2))))=true:=by kernel_rfl
set_option maxHeartbeats 0 in
def Fj(F:FT)(a:Int):(List.range 6).all (λs=>(List.range (s+1)).all λm=>(List.range (s+1)).all λo=>Kp (s+1) (out (ex F Kq (BG a (s+1) (m+1) o))))=true:=by kernel_rfl
def all_range(h:(List.range n).all f=true){k:Nat}(hk:k<n):f k=true:=abP.mp h k (aar.mpr hk)
def Fl(F:FT)(a:Int)(h0:1<=s)(h6:s<=6)(h1:o1<s)(h2:o2<s):∃p∈perms s,out (ex F BF (wm a s o1 o2))=some (tp p):=by
 obtain⟨t,rfl⟩:∃t,s=t+1:=⟨s-1,(aaa (aaL h0))⟩
 exact wk (all_range (all_range (all_range (BH F a) (k:=t) (h6)) h1) h2)
def Kr(F:FT)(a:Int)(h0:1<=s)(h6:s<=6)(h1:m<s)(h2:o<s):∃p∈perms s,out (ex F Kq (BG a s (m+1) o))=some (tp p):=by
 obtain⟨t,rfl⟩:∃t,s=t+1:=⟨s-1,(aaa (aaL h0))⟩
 exact wk (all_range (all_range (all_range (Fj F a) (k:=t) (h6)) h1) h2)
def BI(h:out o=some (tp p)):o=some (.ret (tp p)):=by
 cases o with
 |none=>cases h
 |some o=>cases o<;>cases h;rfl
noncomputable def gu(a s:Int)(x2:Option (Bool×D))(made:List Int)(x7 x9:Option (Bool×D)):Env:=[vi a,vi s,x2,none,none,none,none,x7,vo (made.map .int),x9]
def BJ(xs:List D)(k:Nat)(h:k<=xs.length):zN xs none (some (k:Int))=xs.take k:=by
 unfold zN bound
 simp only[acK,Nat.sub_zero]
 congr 1
 rw[ZW (abh (ZX _))]
 exact LC h
def sS(xs:List D)(k:Nat)(h:k<=xs.length):zN xs (some (k:Int)) none=xs.drop k:=by
 unfold zN bound
 simp only
 have e:(if(k:Int)<0 then max ((k:Int)+(xs.length:Int)) 0 else min (k:Int) (xs.length:Int)).toNat =k:=by
  rw[ZW (abh (ZX _))]
  exact LC h
 rw[e,aay (by simp)]
def BK(hF:F g [.int a,.int k]=some (.int y))(hm:made∈perms k)(hk:k<=1000):
  ∃at'≤k,ex F (Fi g) (put (gu a s x2 made x7 x9) 7 false (.int k))=some (.next (gu a s x2 (made.take at'++(k:Int)::made.drop at') (vi k) (vi at'))):=by
 have je:bR=16777216:=rfl
 have hl:=aQ hm
 have pJ:(made.map D.int).length =k:=(ZA ..).trans hl
 have jP:(0:Int)<(k:Int)+1:=Int.add_le_add (ZX _) (by decide)
 obtain⟨t,ht⟩:=ade (abg y (ado jP))
 have Tz:t<=k:=aan (acg.mp (ht▸abr y jP))
 refine⟨t,Tz,?_⟩
 let M:List D:=made.map .int
 let BL:Env:=[vi a,vi s,x2,none,none,none,none,vi k,vo M,x9]
 let nV:Env:=[vi a,vi s,x2,none,none,none,none,vi k,vo M,vi t]
 have a9:ev F false (.bin .Mod (.call g (.w 0 (.u 7))) (.bin .Add (.prim .len (.u 8)) (.ci 1))) BL=some (.int t):=by
  have l1:ev F true (.bin .Add (.prim .len (.u 8)) (.ci 1)) BL=some (.int ((k:Int)+1)):=(qD (x:= .int M.length) (y:= .int 1) rfl rfl).trans (congrArg (λn:Nat=>some (D.int ((n:Int)+1))) pJ)
  rw[GS (aB (xs:=[.int a,.int k]) rfl hF rfl) l1 jP,ht]
 have c1:ev F true (.sl (.var 8) .nil (.u 9)) nV=some (.lst (M.take t)):=congrArg (λz=>some (D.lst z)) (BJ M t (pJ.symm▸Tz))
 have c2:ev F true (.sl (.var 8) (.u 9) .nil) nV=some (.lst (M.drop t)):=congrArg (λz=>some (D.lst z)) (sS M t (pJ.symm▸Tz))
 have z1:(M.take t).length+1<=k+1:=abM (Zw (List.length_take_le' t M) (ZF pJ))
 have b1:ev F true (.bin .Add (.sl (.var 8) .nil (.u 9)) (.lst (.u 7))) nV=some (.lst (M.take t++[.int k])):=(qD c1 (y:= .lst [.int k]) rfl).trans (ZM (Zw z1 (Zw (abM hk) (by decide))))
 have b2:ev F false (.bin .Add (.bin .Add (.sl (.var 8) .nil (.u 9)) (.lst (.u 7))) (.sl (.var 8) (.u 9) .nil)) nV=some (.lst (M.take t++[.int k]++M.drop t)):=(qD b1 c2).trans (ZM (by
  rw[ZQ]
  exact Zw (adY z1 (Zw (abb t M).length_le (ZF pJ))) (Zw (adY (abM hk) hk) (by decide))))
 have e:gu a s x2 (made.take t++(k:Int)::made.drop t) (vi k) (vi t)=put nV 8 true (.lst (M.take t++[.int k]++M.drop t)):=by
  show _=[vi a,vi s,x2,none,none,none,none,vi k,vo _,vi t]
  rw[gu,aam,Z4,List.map_take,List.map_drop,aai]
  rfl
 rw[e]
 exact(fW (ρ':=nV) (ay a9)).trans (fW (sR b2))
theorem sT(hF:∀k:Nat,∃y,F g [.int a,.int k]=some (.int y)):
  ∀(m k:Nat) (made:List Int) (x7 x9:Option (Bool×D)),made∈perms k->k+m<=1000->∃p∈perms (k+m),∃TB TC,aO (λx ρ=>(aJ 0 x).bind λys=>(dI ρ [7] ys).bind λρ'=>ex F (Fi g) ρ') (bK k m) (gu a s x2 made x7 x9)=some (.next (gu a s x2 p TB TC))
 |0,k,made,x7,x9,hm,_=>⟨made,hm,x7,x9,rfl⟩
 |m+1,k,made,x7,x9,hm,hk=>by
  refine au λnO=>?_
  obtain⟨y,hy⟩:=hF k
  refine aa (BK (s:=s) (x2:=x2) (x7:=x7) (x9:=x9) hy hm (Zw (ZU _ _) hk)) λt ht e=>?_
  obtain⟨p,hp,TB,TC,e2⟩:=sT (s:=s) (x2:=x2) hF m (k+1) _ (vi k) (vi t) (pB hm ht) (by lia)
  refine nO ?_
  refine⟨p,by rw[show k+(m+1)=k+1+m by exact aaa (Z8 _ _ _)];exact hp,TB,TC,?_⟩
  rw[bK,aO]
  show(ex F (Fi g) (put (gu a s x2 made x7 x9) 7 false (.int k))).bind _=_
  rw[e]
  exact e2
def Fm(ha:0<=a)(h1:1<=s)(h6:s<=6)(hF:∀k:Nat,∃y,F g [.int a,.int k]=some (.int y)):∃p∈perms s,out (ex F (qE g).body (ao (qE g) [.int a,.int s]))=some (tp p):=by
 have hr:cQ [.int s]=some (bK 0 s):=by
  show(if -(2 ^ 62)<=(s:Int)/\(s:Int)<=bR then some (bK 0 (s:Int).toNat) else none)=_
  exact ZM ⟨ZX _,Int.ofNat_le.mpr (Zw h6 (by decide))⟩
 have GX:(0:Int)<s:=acg.mpr h1
 obtain⟨o1,e1⟩:=ade (abg (a/3) (ado GX))
 obtain⟨o2,e2⟩:=ade (abg (a/18) (ado GX))
 have q1:o1<s:=acg.mp (e1▸abr (a/3) GX)
 have q2:o2<s:=acg.mp (e2▸abr (a/18) GX)
 let nC:Env:=[vi a,vi s,vo (bK 0 s),none,none,none,none,none,none,none]
 have s2:ex F (.cS 2 (.nA .list (.u 1))) (ao (qE g) [.int a,.int s])=some (.next nC):=by
  rw[zR,MC]
  show((cQ [.int s]).bind (pZ .list)).bind _=_
  rw[hr]
  rfl
 have t2:∀c:Int,ev F false (.cmp .Eq (.bin .Mod (.var 0) (.ci 3)) (.ci c)) nC=some (.bl (a%3==c)):=λc=>by
  rw[Ir,GS (i:=a) (j:=3) rfl rfl (by decide)]
  rfl
 have go:∀{p:List Int}{c:Int}{t w:C},a%3=c->ex F t nC=some (.ret (tp p))->ex F (.seq (.ifs (.cmp .Eq (.bin .Mod (.var 0) (.ci 3)) (.ci c)) t .skip) w) nC=some (.ret (tp p)):=λ{p c t w} e h=>by
  refine Tx ?_
  rw[fP,t2,beq_iff_eq.mpr e]
  exact h
 have no:∀{c:Int}{t w:C},¬a%3=c->ex F (.seq (.ifs (.cmp .Eq (.bin .Mod (.var 0) (.ci 3)) (.ci c)) t .skip) w) nC=ex F w nC:=λ{c t w} e=>by
  refine fW ?_
  rw[fP,t2,beq_eq_false_iff_ne.mpr e]
  rfl
 by_cases c0:a%3=0
 .refine aa (Fl F a h1 h6 (o1:=o1) (o2:=o2) q1 q2) λp hp e=>⟨p,hp,congrArg out ((fW s2).trans (go c0 ?_))⟩
  exact(fW (ay ((Qn rfl rfl GX (by decide)).trans (congrArg (λz=>some (D.int z)) e1)))).trans ((fW (ay ((Qn rfl rfl GX (by decide)).trans (congrArg (λz=>some (D.int z)) e2)))).trans (BI e))
 .by_cases c1:a%3=1
  .refine aa (Kr F a h1 h6 (m:=o1) (o:=o2) q1 q2) λp hp e=>⟨p,hp,congrArg out ((fW s2).trans ((no c0).trans (go c1 ?_)))⟩
   refine(fW (ay (d:= .int ((o1+1:Nat):Int)) ?_)).trans ((fW (ay ((Qn rfl rfl GX (by decide)).trans (congrArg (λz=>some (D.int z)) e2)))).trans (BI e))
   exact(qD (x:= .int 1) rfl ((Qn rfl rfl GX (by decide)).trans (congrArg (λz=>some (D.int z)) e1))).trans (congrArg (λz=>some (D.int z)) (Int.add_comm 1 (o1:Int)))
  .obtain⟨p,hp,x7,x9,e⟩:=sT (a:=a) (s:=s) (x2:=vo (bK 0 s)) hF s 0 [] none none (ZE.mpr rfl) (Zw (ZF (aaE s)) (Zw h6 (by decide)))
   rw[aaE]at hp
   refine⟨p,hp,congrArg out ((fW s2).trans ((no c0).trans ((no c1).trans ((fW (sR (xs:=[]) rfl)).trans ((fW (ρ':=gu a s (vo (bK 0 s)) p x7 x9) ?_).trans (Tx ?_))))))⟩
   .rw[RQ]
    show(cQ [.int s]).bind _=_
    rw[hr]
    exact e
   .rfl
theorem qF:∀(n:Nat) (p:List Int),p.Nodup->(∀x∈p,0<=x/\x<n)->p.length<=n
 |0,p,_,h=>by
  cases p with
  |nil=>exact ZG _
  |cons x r=>have:=h x ZD;exact absurd this.2 (abh this.1)
 |n+1,p,nd,h=>by
  have h1:(p.erase (n:Int)).length <=n:=qF n _ (nd.sublist List.erase_sublist) λx hx=>by
   have h2:=h x (List.mem_of_mem_erase hx)
   have h3:x≠n:=λe=>by
    subst e
    exact(List.Nodup.mem_erase_iff nd).mp hx |>.1 rfl
   exact Hd (And.intro h2.1 h2.2) h3
  by_cases hm:(n:Int)∈p
  .rw[ael hm]at h1;exact QG (aaj h1)
  .rw[List.erase_of_not_mem hm]at h1;exact abk h1
theorem aD:∀{n:Nat}{p:List Int},p∈perms n↔p.length=n/\p.Nodup/\∀x∈p,0<=x/\x<n
 |0,p=>by
  simp only[perms,ZE]
  constructor
  .rintro rfl;exact⟨rfl,afl,λx h=>nomatch h⟩
  .rintro⟨h,_⟩;exact List.length_eq_zero_iff.mp h
 |n+1,p=>by
  constructor
  .intro h
   refine aa (abv.mp h) λq hq h=>aa (ZT.mp h) λk hk ah=>?_
   subst ah
   refine cy (aD.mp hq) λl nd bd=>?_
   have D8:=aar.mp hk
   have Qo:(q.take k++q.drop k).Nodup :=by rw[acz];exact nd
   have hn:(n:Int)∉q:=λz=>by have:=bd _ z;exact abh (acQ this.2) this.2
   have nt:(n:Int)∉q.take k:=λz=>hn (abU z)
   have Yz:(n:Int)∉q.drop k:=λz=>hn (acI z)
   refine⟨by simp;exact LB l D8,?_,λx hx=>?_⟩
   .rw[abm]at Qo⊢
    refine⟨Qo.1,aaf.mpr ⟨Yz,Qo.2.1⟩,λa ha b hb=>?_⟩
    rcases ZK.mp hb with rfl|hb
    .exact λe=>nt (e▸ha)
    .exact Qo.2.2 a ha b hb
   .rcases ZZ.mp hx with z|z
    .have:=bd x (abU z);exact And.intro this.1 (abS (acQ this.2) (adK _))
    .rcases ZK.mp z with rfl|z
     .exact And.intro (ZX _) (adK _)
     .have:=bd x (acI z);exact And.intro this.1 (abS (acQ this.2) (adK _))
  .rintro⟨l,nd,bd⟩
   have hm:(n:Int)∈p:=by
    by_cases hm:(n:Int)∈p
    .exact hm
    .have:=qF n p nd λx hx=>by
      have h2:=bd x hx
      have h3:x≠n:=λe=>hm (e▸hx)
      exact Hd (And.intro h2.1 h2.2) h3
     exact absurd l (Z5 (aaj this))
   refine Lw (List.append_of_mem hm) λu v aM=>?_
   subst aM
   rw[abm,aaf]at nd
   have hq:u++v∈perms n:=by
    refine aD.mpr ⟨by simp at l⊢;exact afD l,?_,λx hx=>?_⟩
    .rw[abm]
     exact⟨nd.1,nd.2.1.2,λa ha b hb=>nd.2.2 a ha b (Zy _ hb)⟩
    .have JM:x∈u++(n:Int)::v:=by
      rcases ZZ.mp hx with z|z
      .exact Z7 _ z
      .exact ZV _ (Zy _ z)
     have h2:=bd x JM
     have h3:x≠n:=λe=>by
      subst e
      rcases ZZ.mp hx with z|z
      .exact nd.2.2 _ z _ ZD rfl
      .exact nd.2.1.1 z
     exact Hd (And.intro h2.1 h2.2) h3
   have:=pB hq (k:=u.length) (by simp at l;exact nu (afe l) (ZU _ _))
   rw[List.take_left,List.drop_left]at this
   exact this
noncomputable def comp(p q:List Int):List Int:=p.map λi=>q.getD i.toNat 0
def getD_mem{q:List Int}(h:k<q.length):q.getD k 0∈q:=by
 rw[ZR,Zt h]
 exact abu h
def dE{n:Nat}(hp:p∈perms n)(hq:q∈perms n):comp p q∈perms n:=by
 refine cy (aD.mp hp) λlp np bp=>cy (aD.mp hq) λlq nq bq=>aD.mpr ⟨by simp[comp,lp],?_,λx hx=>?_⟩
 .unfold comp
  rw[aaN]at np⊢
  rw[abl]
  refine np.imp_of_mem λ{a b} ha hb rS e=>rS ?_
  have h1:=bp a ha
  have h2:=bp b hb
  have l1:a.toNat<q.length:=(nu (aaa lq) (Hc h1.1 h1.2))
  have l2:b.toNat<q.length:=(nu (aaa lq) (Hc h2.1 h2.2))
  rw[ZR,ZR,Zt l1,Zt l2]at e
  have e':q[a.toNat]=q[b.toNat]:=e
  have:=(List.getElem?_inj (j:=b.toNat) l1 nq).mp (by rw[Zt l1,Zt l2,e'])
  exact UG h1.1 h2.1 this
 .refine aa (ZT.mp hx) λi hi ah=>?_
  subst ah
  have h1:=bp i hi
  exact bq _ (getD_mem (nu (aaa lq) (Hc h1.1 h1.2)))
def iy(hp:p∈perms n)(hq:q∈perms n):comp (comp p q) r=comp p (comp q r):=by
 refine cy (aD.mp hp) λlp np bp=>cy (aD.mp hq) λlq nq bq=>?_
 unfold comp
 rw[aaw]
 refine acO λi hi=>?_
 have h1:=bp i hi
 have l1:i.toNat<q.length:=(nu (aaa lq) (Hc h1.1 h1.2))
 show r.getD (q.getD i.toNat 0).toNat 0=_
 rw[ZR (l:=List.map _ q),ZJ,ZR (l:=q),Zt l1]
 rfl
noncomputable def inv:List Int->Nat
 |[]=>0
 |x::r=>(r.filter λy=>decide (y<x)).length+inv r
noncomputable def bJ(n:Nat):List Int:=(List.range n).map λ(k:Nat)=>Int.ofNat k
def ju(hp:p∈perms n):comp p (bJ n)=p:=by
 refine cy (aD.mp hp) λlp np bp=>?_
 unfold comp
 rw[acO (g:=id),aft]
 intro i hi
 have h1:=bp i hi
 have l1:i.toNat<n:=(Hc h1.1 h1.2)
 simp[bJ,ZJ,aby l1]
 lia
theorem cM(h:α->D)(g:α->D)(f:D->Option (Option D)):∀xs:List α,(∀x∈xs,f (h x)=some (some (g x)))->walk f (xs.map h)=some (xs.map g)
 |[],_=>rfl
 |x::r,e=>by
  rw[Z4,walk,e x ZD]
  show(walk f (r.map h)).map _=_
  rw[cM h g f r λy hy=>e y (Zy _ hy)]
  rfl
noncomputable def lC:Fd:=⟨2,2,(.seq (.ret (.prim .tuple (.o (.comp [1] 0 (.it (.var 0)) .nil (.idx (.var 1) (.var 0)))))) .skip)⟩
def wo(h0:0<=i)(h1:i<q.length):item (tp q) (.int i)=some (.int (q.getD i.toNat 0)):=by
 show(bT (q.map D.int).length i).bind _=_
 unfold bT
 rw[ZM h0,ZM (by rw[ZA];exact h1)]
 show(q.map D.int)[i.toNat]?=_
 rw[ZJ,ZR,Zt (Hc h0 h1)]
 rfl
def sU(hn:n<=1000)(hp:p∈perms n)(hq:q∈perms n):out (ex F lC.body (ao lC [tp p,tp q]))=some (tp (comp p q)):=by
 refine cy (aD.mp hp) λlp np bp=>cy (aD.mp hq) λlq nq bq=>?_
 have w:=cM (α:=Int) D.int (λi=> .int (q.getD i.toNat 0)) (λx=>(aJ 0 x).bind λys=>(jB F true .nil (inner ys [vf (tp p),vf (tp q)] [1])).bind λk=>if k then(ev F false (.idx (.var 1) (.var 0)) (inner ys [vf (tp p),vf (tp q)] [1])).map some else some none) p (λx hx=>by
  have h1:=bp x hx
  show(item (tp q) (.int x)).map some=_
  rw[wo h1.1 (acS h1.2 (Int.le_of_eq (congrArg _ (aaa lq))))]
  rfl)
 have hl:(p.map D.int).length <=bR:=by rw[ZA,lp];unfold bR;exact Zw hn (by decide)
 have e:ev F true (.comp [1] 0 (.it (.var 0)) .nil (.idx (.var 1) (.var 0))) [vf (tp p),vf (tp q)]=some (.lst ((comp p q).map .int)):=by
  show(if(p.map D.int).length <=bR then _ else _)=_
  rw[ZM hl]
  show(walk _ (p.map D.int)).map D.lst=_
  rw[w]
  simp[comp]<;>rfl
 show out ((((ev F true (.comp [1] 0 (.it (.var 0)) .nil (.idx (.var 1) (.var 0))) [vf (tp p),vf (tp q)]).bind _).bind _ |>.map _).bind _)=_
 rw[e]
 rfl
theorem sV:∀a b:List Int,Dm (a.map .int) (b.map .int)=decide (a=b)
 |[],[]=>rfl
 |[],_::_=>rfl
 |_::_,[]=>rfl
 |x::a,y::b=>by
  show(nv (.int x) (.int y)&&Dm (a.map .int) (b.map .int))=_
  rw[sV a b]
  show((x==y)&&decide (a=b))=_
  by_cases h1:x=y
  .subst h1;simp
  .simp[h1]
def Ks(a b:List Int):nv (tp a) (tp b)=decide (a=b):=sV a b
def BM(a:List Int)(n:Nat):gY (tp a) (n+1)=true:=jI n a
def sW(a:List Int):gY (tp a) 60=true:=BM a 59
theorem sX:∀(n k:Nat),bK (k:Int) n=(List.range' k n).map λ(j:Nat)=>D.int (j:Int)
 |0,k=>rfl
 |n+1,k=>by
  rw[bK,ady,Z4]
  have e:(k:Int)+1=((k+1:Nat):Int):=by push_cast;rfl
  rw[e,sX n (k+1)]
def dS(n:Nat):bK 0 n=(bJ n).map .int :=by
 have:=sX n 0
 rw[show((0:Nat):Int)=0 from rfl]at this
 rw[this,bJ,aaw,adD]
 rfl
def cn{n:Nat}(h:n<=1000):cQ [.int n]=some (bK 0 n):=by
 show(if -(2 ^ 62)<=(n:Int)/\(n:Int)<=bR then some (bK 0 (n:Int).toNat) else none)=_
 rw[ZM ⟨(ZX _),by unfold bR;lia⟩]
 rfl
noncomputable def qG:Fd:=⟨1,1,(.seq (.ret (.nA .tuple (.u 0))) .skip)⟩
def BN{n:Nat}(h:n<=1000):out (ex F qG.body (ao qG [.int n]))=some (tp (bJ n)):=by
 refine dm ?_
 rw[MC]
 show(cQ [.int n]).bind (pZ .tuple)=_
 rw[cn h]
 show some (D.tup (bK 0 n))=_
 rw[dS]
 rfl
def gw(n:Nat):bJ n∈perms n:=by
 refine aD.mpr ⟨by simp[bJ],?_,λx hx=>?_⟩
 .unfold bJ
  rw[aaN,abl]
  exact(aaN.mp List.nodup_range).imp λ{a b} h e=>h (acn e)
 .refine aa (ZT.mp hx) λk hk ah=>?_
  subst ah
  have:=aar.mp hk
  exact⟨ZX k,by show(k:Int)<n;lia⟩
def mU(hp:p∈perms n):comp (bJ n) p=p:=by
 refine cy (aD.mp hp) λlp np bp=>?_
 apply abx
 intro i
 unfold comp bJ
 rw[aaw,ZJ]
 by_cases hi:i<n
 .rw[aby hi]
  show some (p.getD i 0)=_
  rw[ZR,Zt (Zr hi (ZF (aaa lp)))]
  rfl
 .rw[Z6 (by simp;exact Z0 hi),Z6 (Zw (ZF lp) (Z0 hi))]
  rfl
def yC(hp:p∈perms n){k:Int}(h0:0<=k)(h1:k<n):k∈p:=by
 refine cy (aD.mp hp) λlp np bp=>?_
 by_cases hm:k∈p
 .exact hm
 .have:=qF n (k::p) (aaf.mpr ⟨hm,np⟩) λx hx=>by
   rcases ZK.mp hx with rfl|hx
   .exact⟨h0,h1⟩
   .exact bp x hx
  rw[Z3]at this
  exact absurd lp (Z5 this)
theorem sY:∀{p:List Int},k∈p->∃j,cw k p=some j
 |[],h=>nomatch h
 |n::r,h=>by
  unfold cw
  by_cases e:n=k
  .exact⟨0,ZM e⟩
  .rw[ZW e]
   obtain⟨j,hj⟩:=sY (List.mem_of_ne_of_mem (aaH e) h)
   exact⟨j+1,by rw[hj];rfl⟩
theorem sZ:∀{p:List Int}{j:Nat},cw k p=some j->p[j]?=some k
 |[],_,h=>by cases h
 |n::r,j,h=>by
  unfold cw at h
  split at h
  .rename_i e;cases h;subst e;rfl
  .cases e:cw k r with
   |none=>rw[e]at h;cases h
   |some i=>rw[e]at h;cases h;simpa using sZ e
theorem qH:∀{p:List Int}{j:Nat}{k:Int},p.Nodup->p[j]?=some k->cw k p=some j
 |[],_,_,_,h=>by simp at h
 |n::r,0,k,_,h=>by
  simp at h
  unfold cw
  rw[ZM h]
 |n::r,j+1,k,nd,h=>by
  have h':r[j]?=some k:=by simpa using h
  have hn:n≠k:=λe=>(aaf.mp nd).1 (e▸aac h')
  unfold cw
  rw[ZW hn,qH (aaf.mp nd).2 h']
  rfl
noncomputable def ip(p:List Int):List Int:=(List.range p.length).map λ(k:Nat)=>(((cw (k:Int) p).getD 0:Nat):Int)
def j6(hp:p∈perms n){k:Nat}(hk:k<n):∃j:Nat,cw (k:Int) p=some j/\(ip p)[k]?=some (j:Int)/\j<n/\p[j]?=some (k:Int):=by
 refine cy (aD.mp hp) λlp np bp=>?_
 obtain⟨j,hj⟩:=sY (yC hp (k:=(k:Int)) (ZX _) (by lia))
 have hg:=sZ hj
 refine⟨j,hj,?_,by have:=(ZL.mp hg).1;exact Zr this (ZF lp),hg⟩
 unfold ip
 rw[ZJ,aby (Zr hk (ZF (aaa lp)))]
 simp[hj]
def qI:(ip p).length =p.length:=by simp[ip]
def Fn(hp:p∈perms n):comp p (ip p)=bJ n:=by
 refine cy (aD.mp hp) λlp np bp=>?_
 apply abx
 intro i
 unfold comp bJ
 rw[ZJ,ZJ]
 by_cases hi:i<n
 .have hb:=bp p[i] (abu (Zr hi (ZF (aaa lp))))
  rw[aby hi,Zt (Zr hi (ZF (aaa lp)))]
  obtain⟨k,hk⟩:∃k:Nat,p[i]=(k:Int):=⟨p[i].toNat,(aaa (abH hb.1))⟩
  have vD:k<n:=by lia
  refine CM (j6 hp vD) λj h1 h2 h3 h4=>?_
  have um:cw (k:Int) p=some i:=qH np (by rw[Zt (Zr hi (ZF (aaa lp))),hk])
  rw[h1]at um
  have e:=ZY um
  subst e
  show some ((ip p).getD (p[j].toNat) 0)=some (Int.ofNat j)
  rw[hk,aaT,ZR,h2]
  rfl
 .have l1:(List.range n)[i]?=none:=Z6 (by simp;exact Z0 hi)
  have l2:p[i]?=none:=Z6 (Zw (ZF lp) (Z0 hi))
  rw[l1,l2]
  rfl
def wq(hp:p∈perms n):comp (ip p) p=bJ n:=by
 refine cy (aD.mp hp) λlp np bp=>?_
 apply abx
 intro i
 unfold comp bJ
 rw[ZJ,ZJ]
 by_cases hi:i<n
 .refine CM (j6 hp hi) λj h1 h2 h3 h4=>?_
  rw[h2,aby hi]
  show some (p.getD ((j:Int).toNat) 0)=some (Int.ofNat i)
  rw[aaT,ZR,h4]
  rfl
 .have l1:(List.range n)[i]?=none:=Z6 (by simp;exact Z0 hi)
  have l2:(ip p)[i]?=none:=Z6 (by rw[qI];exact Zw (ZF lp) (Z0 hi))
  rw[l1,l2]
  rfl
def fH(hp:p∈perms n):ip p∈perms n:=by
 refine cy (aD.mp hp) λlp np bp=>aD.mpr ⟨by rw[qI,lp],?_,λx hx=>?_⟩
 .rw[aaN,abA]
  intro i j hi hj um e
  rw[qI,lp]at hi hj
  refine CM (j6 hp hi) λa a1 a2 a3 a4=>CM (j6 hp hj) λb b1 b2 b3 b4=>?_
  rw[Zt (by rw[qI];lia)]at a2 b2
  have ea:=ZY a2
  have eb:=ZY b2
  rw[ea,eb]at e
  have:a=b:=(acn e)
  subst this
  rw[a4]at b4
  have:=ZY b4
  lia
 .refine aa (ZT.mp hx) λk hk ah=>?_
  subst ah
  have D8:=aar.mp hk
  refine CM (j6 hp (k:=k) (Zr D8 (ZF lp))) λj h1 _ h3 _=>?_
  rw[h1]
  exact⟨ZX _,by show(j:Int)<n;lia⟩
def yD(hp:p∈perms n)(hq:q∈perms n)(h:comp p q=bJ n):q=ip p:=by
 have e:comp (comp (ip p) p) q=comp (ip p) (comp p q):=iy (fH hp) hp
 rw[wq hp,mU hq,h,ju (fH hp)]at e
 exact e
noncomputable def uM:Fd:=⟨1,1,(.seq (.ret (.prim .tuple (.o (.comp [0] 0 (.fj (.o (.prim .len (.u 0)))) .nil (.cK .index (.var 1) (.u 0)))))) .skip)⟩
theorem dF:∀p:List Int,aP (p.map .int)=some p
 |[]=>rfl
 |x::p=>by
  show(aP (p.map .int)).map (x:: ·)=_
  rw[dF p]
  rfl
def Fo{n:Nat}(hn:n<=1000)(hp:p∈perms n):out (ex F uM.body (ao uM [tp p]))=some (tp (ip p)):=by
 refine cy (aD.mp hp) λlp np bp=>?_
 have w:=cM (α:=Nat) (λk=>D.int (k:Int)) (λ(k:Nat)=> .int (((cw (k:Int) p).getD 0:Nat):Int)) (λx=>(aJ 0 x).bind λys=>(jB F true .nil (inner ys [vf (tp p)] [0])).bind λk=>if k then(ev F false (.cK .index (.var 1) (.u 0)) (inner ys [vf (tp p)] [0])).map some else some none) (List.range n) (λk hk=>by
  have D8:=aar.mp hk
  refine aa (j6 hp D8) λj h1 _=>?_
  show(cK .index (tp p) [.int (k:Int)]).map some=_
  show(((aP (p.map .int)).bind λns=>(cw (k:Int) ns).map λ(i:Nat)=>D.int (i:Int))).map some=_
  rw[dF]
  show((cw (k:Int) p).map λ(i:Nat)=>D.int (i:Int)).map some=_
  rw[h1]
  rfl)
 have hr:cQ [.int ((p.map D.int).length :Nat)]=some ((List.range n).map λ(k:Nat)=>D.int (k:Int)):=by
  rw[ZA,lp,cn hn,dS,bJ,aaw]
  rfl
 have hl:((List.range n).map λ(k:Nat)=>D.int (k:Int)).length <=bR:=by rw[ZA,aem];unfold bR;exact Zw hn (by decide)
 have e:ev F true (.comp [0] 0 (.fj (.o (.prim .len (.u 0)))) .nil (.cK .index (.var 1) (.u 0))) [vf (tp p)]=some (.lst ((ip p).map .int)):=by
  show(cQ [.int ((p.map D.int).length :Nat)]).bind _=_
  rw[hr]
  show(if((List.range n).map λ(k:Nat)=>D.int (k:Int)).length <=bR then _ else _)=_
  rw[ZM hl]
  show(walk _ ((List.range n).map λ(k:Nat)=>D.int (k:Int))).map D.lst=_
  rw[w]
  simp[ip,lp]<;>rfl
 show out ((((ev F true (.comp [0] 0 (.fj (.o (.prim .len (.u 0)))) .nil (.cK .index (.var 1) (.u 0))) [vf (tp p)]).bind _).bind _ |>.map _).bind _)=_
 rw[e]
 rfl
noncomputable def sb:List Int->Nat->List Int->List Int
 |[],_,f=>f
 |g::r,i,f=>sb r (i+1) (f.set g.toNat (i:Int))
theorem mV:∀p:List Int,aW (p.map .int)=true
 |[]=>rfl
 |x::p=>by show(aF (.int x)&&aW (p.map .int))=true;rw[mV p];rfl
def aA(p:List Int):aF (tp p)=true:=mV p
noncomputable def pw(p:List Int):Nat->List Int
 |0=>bJ p.length
 |m+1=>comp (pw p m) p
theorem jv(hp:p∈perms n):∀m,pw p m∈perms n
 |0=>by rw[pw,aQ hp];exact gw n
 |m+1=>dE (jv hp m) hp
theorem BO(hp:p∈perms n)(a:Nat):∀b,pw p (a+b)=comp (pw p a) (pw p b)
 |0=>by rw[ach,pw,aQ hp,ju (jv hp a)]
 |b+1=>by
  show comp (pw p (a+b)) p=comp (pw p a) (comp (pw p b) p)
  rw[BO hp a b,iy (jv hp a) (jv hp b)]
def Kt(hp:p∈perms n):pw p 1=p:=by
 show comp (bJ p.length) p=p
 rw[aQ hp,mU hp]
noncomputable def yE(p:List Int):Nat:=(((List.range 6).find? λm=>pw p (m+1)==bJ p.length).getD 0)+1
noncomputable def GY(n:Nat)(p:List Int):Bool:=decide (pw p (yE p)=bJ n)&&decide (yE p<=6)&&(List.range (yE p)).all λk=>k==0||decide (pw p k≠bJ n)
set_option maxHeartbeats 0 in
def Fp:(List.range 7).all (λn=>(perms n).all (GY n))=true:=by decide +kernel
def BP(hn:n<=6)(hp:p∈perms n):pw p (yE p)=bJ n/\1<=yE p/\yE p<=6/\∀k,1<=k->k<yE p->pw p k≠bJ n:=by
 have h:=abP.mp (all_range Fp (k:=n) (ZH hn (by decide))) p hp
 unfold GY at h
 simp only[Zu,decide_eq_true_eq,abP,aar,ada,beq_iff_eq]at h
 refine⟨h.1.1,by unfold yE;exact abq _ _,h.1.2,λk h1 h2=>?_⟩
 rcases h.2 k h2 with z|z
 .exact absurd z (abQ h1)
 .exact z
def dn(h1:ev F b a ρ=some x)(h2:ev F b c ρ=some y):cR F b (.cons a (.o c)) ρ=some [x,y]:=by
 rw[p7,h1,p7,h2]
 rfl
def jw(h1:ev F b a ρ=some x):cR F b (.o a) ρ=some [x]:=by
 rw[p7,h1]
 rfl
noncomputable def kA(F:FT)(fr:List Nat)(ifs d_:E)(ρ:Env)(x:D):Option (Option D):=(jB F true ifs (inner [x] ρ fr)).bind λk=>if k then(ev F false d_ (inner [x] ρ fr)).map some else some none
def wt(h1:ev F true a ρ=some d)(h2:seq d=some xs)(h3:xs.length<=bR):ev F b (.comp fr 0 (.it a) ifs d_) ρ=(walk (kA F fr ifs d_ ρ) xs).map .lst :=by
 rw[MD,WV,h1,aao,h2,aao,ZM h3]
 rfl
def mW(h1:(cR F false es ρ).bind cQ=some xs)(h3:xs.length<=bR):ev F b (.comp fr 0 (.fj es) ifs d_) ρ=(walk (kA F fr ifs d_ ρ) xs).map .lst :=by
 rw[MD,RM,h1,aao,ZM h3]
 rfl
theorem kB:∀xs:List D,(∀x∈xs,f x=some (if p x then some x else none))->walk f xs=some (xs.filter p)
 |[],_=>rfl
 |x::r,h=>by
  rw[walk,h x ZD,List.filter_cons]
  have ih:=kB r λy hy=>h y (Zy _ hy)
  cases p x with
  |true=>show(walk f r).map _=_;rw[ih];rfl
  |false=>exact ih
theorem wu{P:D->Prop}:∀xs:List D,(∀x∈xs,∃y,P y/\f x=some (some y))->∃ys,walk f xs=some ys/\ys.length=xs.length/\∀y∈ys,P y
 |[],_=>⟨[],rfl,rfl,λ_ h=>nomatch h⟩
 |x::r,h=>by
  refine aa (h x ZD) λy hy e=>bB (wu r λz hz=>h z (Zy _ hz)) λys e2 hl hP=>⟨y::ys,?_,by rw[Z3,Z3,hl],λz hz=>?_⟩
  .rw[walk,e]
   show(walk f r).map _=_
   rw[e2]
   rfl
  .rcases ZK.mp hz with rfl|hz
   .exact hy
   .exact hP z hz
def s_(hx:x∈bK 0 n):∃k:Nat,k<n/\x= .int k:=by
 rw[dS]at hx
 refine aa (ZT.mp hx) λi hi ah=>?_
 subst ah
 refine aa (ZT.mp hi) λj hj aM=>?_
 subst aM
 exact⟨j,aar.mp hj,rfl⟩
def gx(n:Nat):(bK 0 n).length =n:=by
 rw[dS,ZA,bJ,ZA,aem]
noncomputable def kC(ft fd:Nat):Fd:=⟨2,2,(.seq (.ret (.prim .tuple (.o (.comp [0,1] 0 (.fj (.o (.idx (.tup (.cons (.ci 1) (.cons (.ci 1) (.cons (.ci 2) (.cons (.ci 2) (.cons (.ci 3) (.cons (.ci 0) (.o (.ci 6))))))))) (.bin .Mod (.var 0) (.ci 7))))) .nil (.call ft (.cons (.call fd (.w 1 (.u 0))) (.u 2))))))) .skip)⟩
def Ku(s:Nat)(y:D):Prop:=∃p∈perms s,y=tp p
def mX{k:Nat}(h:xs[k]?=some x):item (.tup xs) (.int k)=some x:=by
 show(bT xs.length k).bind _=_
 have hk:k<xs.length:=(ZL.mp h).1
 unfold bT
 rw[ZM (ZX _),ZM (by lia)]
 show xs[((k:Int)).toNat]?=_
 rw[aaT]
 exact h
def Kv{a:Int}(hd:∀k:Nat,F fd [.int a,.int k]=some (.int (drawn a k)))(ht:∀b:Int,0<=b->∃p∈perms s,F ft [.int b,.int s]=some (tp p)):
  ∃ys,out (ex F (kC ft fd).body (ao (kC ft fd) [.int a,.int s]))=some (.tup ys)/\ys.length<=6/\∀y∈ys,Ku s y:=by
 have g0:0<=a%7:=abg _ (by decide)
 have g1:a%7<7:=abr _ (by decide)
 obtain⟨j,hj⟩:∃j:Nat,a%7=j:=⟨(a%7).toNat,(aaa (abH g0))⟩
 have YA:j<7:=acg.mp (hj▸g1)
 have key:∀j,j<7->∃n:Nat,n<=6/\[D.int 1,.int 1,.int 2,.int 2,.int 3,.int 0,.int 6][j]?=some (.int n):=λj hj=>
  ⟨[1,1,2,2,3,0,6][j],(show∀x∈[1,1,2,2,3,0,6],x<=6 by decide) _ (abu _),by rw[show [D.int 1,.int 1,.int 2,.int 2,.int 3,.int 0,.int 6]=[1,1,2,2,3,0,6].map λn:Nat=>D.int n from rfl,ZJ,Zt hj];rfl⟩
 refine aa (key j YA) λn hn hg=>?_
 have e1:ev F false (.idx (.tup (.cons (.ci 1) (.cons (.ci 1) (.cons (.ci 2) (.cons (.ci 2) (.cons (.ci 3) (.cons (.ci 0) (.o (.ci 6))))))))) (.bin .Mod (.var 0) (.ci 7))) (ao (kC ft fd) [.int a,.int s])=some (.int n):=by
  have q1:ev F true (.tup (.cons (.ci 1) (.cons (.ci 1) (.cons (.ci 2) (.cons (.ci 2) (.cons (.ci 3) (.cons (.ci 0) (.o (.ci 6))))))))) (ao (kC ft fd) [.int a,.int s])=some (.tup [D.int 1,.int 1,.int 2,.int 2,.int 3,.int 0,.int 6]):=rfl
  have q2:ev F false (.bin .Mod (.var 0) (.ci 7)) (ao (kC ft fd) [.int a,.int s])=some (.int j):=(GS rfl rfl (by decide)).trans (congrArg (λz=>some (D.int z)) hj)
  rw[zQ,q1,aao,q2,aao]
  exact mX hg
 obtain⟨ys,w,hl,hP⟩:=wu (f:=kA F [0,1] .nil (.call ft (.cons (.call fd (.w 1 (.u 0))) (.u 2))) (ao (kC ft fd) [.int a,.int s])) (P:=Ku s) (bK 0 n) λx hx=>by
  refine aa (s_ hx) λk hk ah=>?_
  subst ah
  refine aa (ht (drawn a k) (BD _ _)) λp hp e=>⟨tp p,⟨p,hp,rfl⟩,?_⟩
  show(ev F false _ (inner [.int (k:Int)] _ [0,1])).map some=_
  have i1:ev F true (.call fd (.w 1 (.u 0))) (inner [.int (k:Int)] (ao (kC ft fd) [.int a,.int s]) [0,1])=some (.int (drawn a k)):=
   aB (xs:=[.int a,.int k]) (dn rfl rfl) (hd k) rfl
  rw[aB (xs:=[.int (drawn a k),.int s]) (d:=tp p) (dn i1 rfl) e (aA _)]
  rfl
 refine⟨ys,dm ?_,by rw[hl,gx];exact hn,hP⟩
 rw[Ds,jw (x:= .lst ys)]
 .rfl
 .rw[mW (xs:=bK 0 n) (by rw[jw e1,aao,cn (Zw hn (by decide))]) (by rw[gx];unfold bR;exact Zw hn (by decide)),w]
  rfl
section
variable {s:Nat}{ps:List (List Int)}(nD:∀p∈ps,p∈perms s)
include nD
end
def j7(h1:cR F true es ρ=some xs)(h2:F f xs=some d)(h3:pX ρ es=false):ev F b (.call f es) ρ=some d:=by
 rw[Iu,h1]
 show(F f xs).bind _=_
 rw[h2]
 simp[h3]
def TF(h1:ev F b a ρ=some x)(h2:ev F b c ρ=some y)(h3:ev F b e ρ=some z):cR F b (.cons a (.cons c (.o e))) ρ=some [x,y,z]:=by
 rw[p7,h1,p7,h2,p7,h3]
 rfl
theorem BQ:∀{s:Nat} (ys:List D),(∀y∈ys,Ku s y)->∃ps:List (List Int),ys=ps.map tp/\∀p∈ps,p∈perms s
 |_,[],_=>⟨[],rfl,λ_ h=>nomatch h⟩
 |s,y::r,h=>by
  refine aa (h y ZD) λp hp ah=>?_
  subst ah
  refine aa (BQ r λz hz=>h z (Zy _ hz)) λps aM nD=>?_
  subst aM
  exact⟨p::ps,rfl,λq hq=>(ZK.mp hq).elim (λe=>e▸hp) (nD q)⟩
end Py
namespace jC
structure Pg(α:Type) where
 n:Nat
 S:α->Prop
 mul:α->α->α
 inv:α->α
 one:α
 im:α->Nat->Nat
structure fM{α:Type}(Y:Pg α):Prop where
 s1:Y.S Y.one
 sm:∀{a b},Y.S a->Y.S b->Y.S (Y.mul a b)
 si:∀{a},Y.S a->Y.S (Y.inv a)
 assoc:∀{a b c},Y.S a->Y.S b->Y.S c->Y.mul (Y.mul a b) c=Y.mul a (Y.mul b c)
 mul_one:∀{a},Y.S a->Y.mul a Y.one=a
 one_mul:∀{a},Y.S a->Y.mul Y.one a=a
 dq:∀{a},Y.S a->Y.mul a (Y.inv a)=Y.one
 inv_mul:∀{a},Y.S a->Y.mul (Y.inv a) a=Y.one
 bI:∀{k},k<Y.n->Y.im Y.one k=k
 aR:∀{a b k},Y.S a->Y.S b->k<Y.n->Y.im (Y.mul a b) k=Y.im b (Y.im a k)
 jx:∀{a k},Y.S a->k<Y.n->Y.im a k<Y.n
 ext:∀{a b},Y.S a->Y.S b->(∀k,k<Y.n->Y.im a k=Y.im b k)->a=b
section
variable {α:Type}{Y:Pg α}
def fM.inj(L:fM Y)(ha:Y.S a)(hk:k<Y.n)(hl:l<Y.n)(h:Y.im a k=Y.im a l):k=l:=by
 have e:∀j,j<Y.n->Y.im (Y.inv a) (Y.im a j)=j:=λj hj=>by
  rw[<-L.aR ha (L.si ha) hj,L.dq ha,L.bI hj]
 rw[<-e k hk,<-e l hl,h]
def iB(Y:Pg α)(t:α)(i:Nat):Prop:=∀k,k<i->Y.im t k=k
abbrev Rg(α:Type):=List (Nat×α)
structure V(Y:Pg α)(i:Nat)(R:Rg α):Prop where
 st:∀p u,(p,u)∈R->Y.S u/\iB Y u i/\Y.im u i=p
 one:(i,Y.one)∈R
 nd:(R.map (·.1)).Nodup
def VL(Y:Pg α):List (Rg α)->Nat->Prop
 |[],i=>i=Y.n
 |R::l,i=>V Y i R/\i<Y.n/\VL Y l (i+1)
def H(Y:Pg α):List (Rg α)->α->Prop
 |[],t=>t=Y.one
 |R::l,t=>∃p u w,(p,u)∈R/\H Y l w/\t=Y.mul w u
def jy{R:Rg α}(h:(R.map (·.1)).Nodup)(h1:(p,u)∈R)(h2:(p,v)∈R):u=v:=by
 induction R with
 |nil=>cases h1
 |cons e R ih=>
  rw[Z4,aaf]at h
  rcases ZK.mp h1 with a|a
  .rcases ZK.mp h2 with b|b
   .exact(afu (a.trans b.symm)).2
   .exact absurd (ZT.mpr ⟨_,b,by rw[<-a]⟩) h.1
  .rcases ZK.mp h2 with b|b
   .exact absurd (ZT.mpr ⟨_,a,by rw[<-b]⟩) h.1
   .exact ih h.2 a b
theorem H.good(L:fM Y):∀{l:List (Rg α)}{i:Nat}{t:α},VL Y l i->H Y l t->Y.S t/\iB Y t i
 |[],i,t,hv,h=>by
  have h':t=Y.one:=h
  have CL:i=Y.n:=hv
  subst h'
  exact⟨L.s1,λk hk=>L.bI (Zr hk (ZF CL))⟩
 |R::l,i,t,⟨hv,hi,hl⟩,⟨p,u,w,hu,hw,e⟩=>by
  obtain⟨s1,f1⟩:=H.good L hl hw
  refine cy (hv.st p u hu) λs2 f2 _=>?_
  subst e
  refine⟨L.sm s1 s2,λk hk=>?_⟩
  rw[L.aR s1 s2 (Zr hk (Zx hi)),f1 k (aaj (Zx hk)),f2 k hk]
theorem H.one(L:fM Y):∀{l:List (Rg α)}{i:Nat},VL Y l i->H Y l Y.one
 |[],_,_=>rfl
 |R::l,i,⟨hv,hi,hl⟩=>⟨i,Y.one,Y.one,hv.one,H.one L hl,(L.one_mul L.s1).symm⟩
def St(l:List (Rg α))(u:α):Prop:=∃R∈l,∃p,(p,u)∈R
theorem St.good(L:fM Y):∀{l:List (Rg α)}{i:Nat}{u:α},VL Y l i->St l u->Y.S u/\iB Y u i
 |[],_,_,_,⟨_,h,_⟩=>by cases h
 |R::l,i,u,⟨hv,hi,hl⟩,⟨R',hR,p,hp⟩=>by
  rcases ZK.mp hR with e|e
  .rw[e]at hp
   exact⟨(hv.st p u hp).1,(hv.st p u hp).2.1⟩
  .obtain⟨a,b⟩:=St.good L hl ⟨R',e,p,hp⟩
   exact⟨a,λk hk=>b k (aaj (Zx hk))⟩
def H.drop(L:fM Y){R:Rg α}(hv:VL Y (R::l) i)(h:H Y (R::l) t)(hf:Y.im t i=i):H Y l t:=by
 refine cy hv λhV hi hl=>b6 h λp u w hu hw e=>?_
 obtain⟨s1,f1⟩:=H.good L hl hw
 refine cy (hV.st p u hu) λs2 f2 f3=>?_
 have:p=i:=by
  rw[e,L.aR s1 s2 hi,f1 i (ZG _),f3]at hf
  exact hf
 subst this
 have:u=Y.one:=jy hV.nd hu hV.one
 rw[this,L.mul_one s1]at e
 rw[e]
 exact hw
def H.Fq(L:fM Y)(hv:VL Y (R::l) i)(h:H Y l t):H Y (R::l) t:=⟨i,Y.one,t,hv.1.one,h,(L.mul_one (H.good L hv.2.2 h).1).symm⟩
inductive Gen(Y:Pg α)(G:α->Prop):α->Prop
 |one:Gen Y G Y.one
 |mul {t u:α}:Gen Y G t->G u->Gen Y G (Y.mul t u)
theorem Gen.S(L:fM Y)(hG:∀u,G u->Y.S u):∀{t:α},Gen Y G t->Y.S t
 |_,.one =>L.s1
 |_,.mul h hu=>L.sm (Gen.S L hG h) (hG _ hu)
theorem Gen.mono(h:∀u,G u->G' u):∀{t:α},Gen Y G t->Gen Y G' t
 |_,.one => .one
 |_,.mul a hu=> .mul (Gen.mono h a) (h _ hu)
theorem Gen.app(L:fM Y)(hG:∀u,G u->Y.S u)(ha:Gen Y G a):∀{b:α},Gen Y G b->Gen Y G (Y.mul a b)
 |_,.one =>by rw[L.mul_one (Gen.S L hG ha)];exact ha
 |_,.mul (t:=t) (u:=u) h hu=>by
  rw[<-L.assoc (Gen.S L hG ha) (Gen.S L hG h) (hG _ hu)]
  exact .mul (Gen.app L hG ha h) hu
def Gen.of(L:fM Y)(hs:Y.S u)(h:G u):Gen Y G u:=by
 have:=Gen.mul (Gen.one (Y:=Y) (G:=G)) h
 rwa [L.one_mul hs]at this
theorem H.gen(L:fM Y):∀{l:List (Rg α)}{i:Nat}{t:α},VL Y l i->H Y l t->Gen Y (St l) t
 |[],_,t,_,h=>by
  have h':t=Y.one:=h
  rw[h'];exact .one
 |R::l,i,t,⟨hV,hi,hl⟩,⟨p,u,w,hu,hw,e⟩=>by
  rw[e]
  exact .mul (Gen.mono (λx ⟨R',h,q⟩=>⟨R',Zy _ h,q⟩) (H.gen L hl hw)) ⟨R,ZD,p,hu⟩
theorem H.closed(L:fM Y):∀{l:List (Rg α)}{i:Nat},VL Y l i->(∀u v,St l u->St l v->H Y l (Y.mul u v))->∀t v,H Y l t->St l v->H Y l (Y.mul t v)
 |[],_,_,_,_,_,_,⟨_,h,_⟩=>by cases h
 |R::l,i,hv,hp,t,v,⟨p,u,w,hu,hw,e⟩,pM=>by
  have hl:=hv.2.2
  have sub:∀x,St l x->St (R::l) x:=λx ⟨R',h,q⟩=>⟨R',Zy _ h,q⟩
  have ih:=H.closed L hl λx y hx hy=>by
   obtain⟨s1,f1⟩:=St.good L hl hx
   obtain⟨s2,f2⟩:=St.good L hl hy
   refine(hp x y (sub x hx) (sub y hy)).drop L hv ?_
   rw[L.aR s1 s2 hv.2.1,f1 i (ZG _),f2 i (ZG _)]
  have all:∀{x:α},Gen Y (St l) x->H Y l (Y.mul w x):=λ{x} hx=>by
   induction hx with
   |one=>rw[L.mul_one (H.good L hl hw).1];exact hw
   |mul h hu MF=>
    rw[<-L.assoc (H.good L hl hw).1 (Gen.S L (λu hu=>(St.good L hl hu).1) h) (St.good L hl hu).1]
    exact ih _ _ MF hu
  have su:St (R::l) u:=⟨R,ZD,p,hu⟩
  refine b6 (hp u v su pM) λp' u' w' EJ vQ e'=>?_
  obtain⟨sw,_⟩:=H.good L hl hw
  obtain⟨Kw,_⟩:=H.good L hl vQ
  have YB:=(St.good L hv su).1
  have YC:=(St.good L hv pM).1
  have YD:=(hv.1.st p' u' EJ).1
  refine⟨p',u',Y.mul w w',EJ,all (H.gen L hl vQ),?_⟩
  rw[e,L.assoc sw YB YC,e',<-L.assoc sw Kw YD]
def H.all(L:fM Y)(hv:VL Y l i)(hp:∀u v,St l u->St l v->H Y l (Y.mul u v))(ht:H Y l t)(hx:Gen Y (St l) x):H Y l (Y.mul t x):=by
 induction hx with
 |one=>rw[L.mul_one (H.good L hv ht).1];exact ht
 |mul h hu ih=>
  rw[<-L.assoc (H.good L hv ht).1 (Gen.S L (λu hu=>(St.good L hv hu).1) h) (St.good L hv hu).1]
  exact H.closed L hv hp _ _ ih hu
def H.row(L:fM Y)(hv:VL Y l 0)(hG:∀u,G u->Y.S u)(hp:∀u v,St l u->St l v->H Y l (Y.mul u v))(hr:∀g,G g->H Y l g)(hs:∀u,St l u->Gen Y G u)(t:α):H Y l t↔Gen Y G t:=by
 constructor
 .intro h
  have:∀{x:α},Gen Y (St l) x->Gen Y G x:=λ{x} hx=>by
   induction hx with
   |one=>exact .one
   |mul h hu ih=>exact Gen.app L hG ih (hs _ hu)
  exact this (H.gen L hv h)
 .intro h
  induction h with
  |one=>exact H.one L hv
  |mul h hu ih=>exact H.all L hv hp ih (H.gen L hv (hr _ hu))
noncomputable def fV(R:Rg α)(p:Nat):Option α:=(R.find? λe=>e.1==p).map (·.2)
def e_(h:fV R p=some u):(p,u)∈R:=by
 unfold fV at h
 cases e:R.find? (λe=>e.1==p)with
 |none=>rw[e]at h;cases h
 |some x=>
  rw[e]at h
  cases h
  have h1:=List.find?_some e
  have h2:=List.mem_of_find?_eq_some e
  have:x.1=p:=by simpa using h1
  rw[<-this];exact h2
def j8{R:Rg α}(h:fV R p=none):p∉R.map (·.1):=λhm=>by
 unfold fV at h
 rw[aeK,List.find?_eq_none]at h
 exact aa (ZT.mp hm) λe he hp=>h e he (by simp[hp])
def wx{R:Rg α}(nd:(R.map (·.1)).Nodup)(h:(p,u)∈R):fV R p=some u:=by
 cases e:fV R p with
 |none=>exact absurd (ZT.mpr ⟨_,h,rfl⟩) (j8 e)
 |some v=>rw[jy nd h (e_ e)]
noncomputable def c7(Y:Pg α):List (Rg α)->Nat->α->α
 |[],_,t=>t
 |R::l,i,t=>match fV R (Y.im t i)with
  |some u=>c7 Y l (i+1) (Y.mul t (Y.inv u))
  |none=>t
noncomputable def add:List (Rg α)->Nat->Nat×α->List (Rg α)
 |[],_,_=>[]
 |R::l,0,x=>(R++[x])::l
 |R::l,k+1,x=>R::add l k x
theorem H.add:∀{l:List (Rg α)}{k:Nat}{t:α},H Y l t->H Y (jC.add l k x) t
 |[],_,_,h=>h
 |R::l,0,t,⟨p,u,w,hu,hw,e⟩=>⟨p,u,w,Z7 _ hu,hw,e⟩
 |R::l,k+1,t,⟨p,u,w,hu,hw,e⟩=>⟨p,u,w,hu,H.add hw,e⟩
theorem St.add:∀{l:List (Rg α)}{k:Nat},St (jC.add l k x) v->St l v\/v=x.2
 |[],_,⟨_,h,_⟩=>by cases h
 |R::l,0,⟨R',hR,p,hp⟩=>by
  rcases ZK.mp hR with e|e
  .rw[e]at hp
   rcases ZZ.mp hp with z|z
   .exact .inl ⟨R,ZD,p,z⟩
   .rw[ZE]at z
    exact .inr (by rw[<-z])
  .exact .inl ⟨R',Zy _ e,p,hp⟩
 |R::l,k+1,⟨R',hR,p,hp⟩=>by
  rcases ZK.mp hR with e|e
  .exact .inl ⟨R,ZD,p,by rw[<-e];exact hp⟩
  .rcases St.add (l:=l) (k:=k) ⟨R',e,p,hp⟩with⟨R2,h2,q⟩|z
   .exact .inl ⟨R2,Zy _ h2,q⟩
   .exact .inr z
theorem pC(L:fM Y):∀{l:List (Rg α)}{i:Nat}{t:α},VL Y l i->Y.S t->iB Y t i->
  (c7 Y l i t=Y.one/\H Y l t)\/∃k R,l[k]?=some R/\i+k<Y.n/\Y.S (c7 Y l i t)/\iB Y (c7 Y l i t) (i+k)/\Y.im (c7 Y l i t) (i+k)∉R.map (·.1)/\Y.im (c7 Y l i t) (i+k)≠i+k/\
   H Y (add l k (Y.im (c7 Y l i t) (i+k),c7 Y l i t)) t/\VL Y (add l k (Y.im (c7 Y l i t) (i+k),c7 Y l i t)) i
 |[],i,t,hv,hs,hf=>by
  have CL:i=Y.n:=hv
  have:t=Y.one:=L.ext hs L.s1 λk hk=>by rw[hf k (Zr hk (ZF (aaa CL))),L.bI hk]
  exact .inl ⟨this,this⟩
 |R::l,i,t,hv,hs,hf=>by
  refine cy hv λhV hi hl=>?_
  unfold c7
  cases e:fV R (Y.im t i)with
  |none=>
   have hn:=j8 e
   have fy:Y.im t i≠i:=λz=>hn (ZT.mpr ⟨_,hV.one,z.symm⟩)
   refine .inr ⟨0,R,rfl,hi,hs,hf,hn,fy,?_,?_⟩
   .exact⟨Y.im t i,t,Y.one,ZV _ (ZE.mpr rfl),H.one L hl,(L.one_mul hs).symm⟩
   .refine⟨⟨λp u hu=>?_,Z7 _ hV.one,?_⟩,hi,hl⟩
    .rcases ZZ.mp hu with z|z
     .exact hV.st p u z
     .rw[ZE]at z
      cases z
      exact⟨hs,hf,rfl⟩
    .rw[aam,abm]
     refine⟨hV.nd,by simp,λa ha b hb z=>?_⟩
     have:b=Y.im t i:=by simpa using hb
     exact hn (by rw[<-this,<-z];exact ha)
  |some u=>
   have hu:=e_ e
   refine cy (hV.st _ u hu) λs2 f2 f3=>?_
   have sI:=L.si s2
   have s3:Y.S (Y.mul t (Y.inv u)):=L.sm hs sI
   have back:Y.mul (Y.mul t (Y.inv u)) u=t:=by rw[L.assoc hs sI s2,L.inv_mul s2,L.mul_one hs]
   have BR:∀k,k<Y.n->Y.im (Y.inv u) (Y.im u k)=k:=λk hk=>by rw[<-L.aR s2 sI hk,L.dq s2,L.bI hk]
   have f4:iB Y (Y.mul t (Y.inv u)) (i+1):=λk hk=>by
    rw[L.aR hs sI (Zr hk hi)]
    rcases aaM k i with z|z
    .rw[hf k z]
     have:=BR k (Zr z (Zx hi))
     rwa [f2 k z]at this
    .have e2:k=i:=(aaP z hk)
     rw[e2]
     have:=BR i hi
     rwa [f3]at this
   dsimp only
   rcases pC L hl s3 f4 with⟨a,b⟩|⟨k,R',a1,a2,a3,a4,a5,a6,a7,a8⟩
   .exact .inl ⟨a,_,u,_,hu,b,back.symm⟩
   .have ek:i+1+k=i+(k+1):=(Z8 _ _ _)
    rw[ek]at a2 a4 a5 a6 a7 a8
    exact .inr ⟨k+1,R',a1,a2,a3,a4,a5,a6,⟨_,u,_,hu,a7,back.symm⟩,hV,hi,a8⟩
structure Fd(Y:Pg α)(G:α->Prop)(l:List (Rg α))(W:List α):Prop where
 v:VL Y l 0
 g:∀u,St l u->Gen Y G u
 wg:∀t∈W,Gen Y G t
 row:∀t,G t->t∈W\/H Y l t
 OQ:∀u v,St l u->St l v->Y.mul u v∈W\/H Y l (Y.mul u v)
def Fd.done(L:fM Y)(hG:∀u,G u->Y.S u)(h:Fd Y G l [])(t:α):H Y l t↔Gen Y G t:=
 H.row L h.v hG (λu v hu hv=>(h.OQ u v hu hv).resolve_left (by simp)) (λg hg=>(h.row g hg).resolve_left (by simp)) h.g t
def Fd.none(h:Fd Y G l (W++[t]))(ht:H Y l t):Fd Y G l W where
 v:=h.v
 g:=h.g
 wg:=λx hx=>h.wg x (Z7 _ hx)
 row:=λx hx=>by
  rcases h.row x hx with z|z
  .rcases ZZ.mp z with z|z
   .exact .inl z
   .rw[ZE.mp z];exact .inr ht
  .exact .inr z
 OQ:=λu v hu hv=>by
  rcases h.OQ u v hu hv with z|z
  .rcases ZZ.mp z with z|z
   .exact .inl z
   .rw[ZE.mp z];exact .inr ht
  .exact .inr z
def Fd.more(L:fM Y)(h:Fd Y G l (W++[t]))(hv:VL Y (add l k (p,r)) 0)(ht:H Y (add l k (p,r)) t)(hr:Gen Y G r)(nD:∀x∈Ps,Gen Y G x)
  (hP:∀u,St (add l k (p,r)) u->Y.mul u r∈Ps/\Y.mul r u∈Ps):Fd Y G (add l k (p,r)) (W++Ps) where
 v:=hv
 g:=λu hu=>by
  rcases hu.add with z|z
  .exact h.g u z
  .rw[z];exact hr
 wg:=λx hx=>(ZZ.mp hx).elim (λz=>h.wg x (Z7 _ z)) (nD x)
 row:=λx hx=>by
  rcases h.row x hx with z|z
  .rcases ZZ.mp z with z|z
   .exact .inl (Z7 _ z)
   .rw[ZE.mp z];exact .inr ht
  .exact .inr z.add
 OQ:=λu v hu CL=>by
  rcases hu.add with z1|z1
  .rcases CL.add with z2|z2
   .rcases h.OQ u v z1 z2 with z|z
    .rcases ZZ.mp z with z|z
     .exact .inl (Z7 _ z)
     .rw[ZE.mp z];exact .inr ht
    .exact .inr z.add
   .rw[z2]
    exact .inl (ZV _ (hP u hu).1)
  .rw[z1]
   exact .inl (ZV _ (hP v CL).2)
theorem iB.mul(L:fM Y)(ha:Y.S a)(hb:Y.S b)(hi:i<=Y.n)(h1:iB Y a i)(h2:iB Y b i):iB Y (Y.mul a b) i:=λk hk=>by rw[L.aR ha hb (Zr hk hi),h1 k hk,h2 k hk]
theorem iB.inv(L:fM Y)(ha:Y.S a)(hi:i<=Y.n)(h1:iB Y a i):iB Y (Y.inv a) i:=λk hk=>by
 have:=L.aR ha (L.si ha) (k:=k) (Zr hk hi)
 rw[L.dq ha,L.bI (Zr hk hi),h1 k hk]at this
 exact this.symm
structure kU(Y:Pg α)(M:α->Prop):Prop where
 s:∀t,M t->Y.S t
 one:M Y.one
 mul:∀a b,M a->M b->M (Y.mul a b)
 inv:∀a,M a->M (Y.inv a)
def Hm(Y:Pg α)(M:α->Prop)(l:List (Rg α))(i:Nat):Prop:=VL Y l i/\∀t,H Y l t↔M t/\iB Y t i
def Hm.tail(L:fM Y)(h:Hm Y M (R::l) i):Hm Y M l (i+1):=by
 refine⟨h.1.2.2,λt=>⟨λht=>?_,λ⟨h1,h2⟩=>?_⟩⟩
 .exact⟨((h.2 t).mp (ht.Fq L h.1)).1,(H.good L h.1.2.2 ht).2⟩
 .exact((h.2 t).mpr ⟨h1,λk hk=>h2 k (aaj (Zx hk))⟩).drop L h.1 (h2 i (ZG _))
def Hm.step(L:fM Y)(h:Hm Y M (R::l) i)(hu:(p,u)∈R):M u/\iB Y u i/\Y.im u i=p:=by
 refine cy (h.1.1.st p u hu) λs1 f1 f2=>?_
 have:H Y (R::l) u:=⟨p,u,Y.one,hu,H.one L h.1.2.2,(L.one_mul s1).symm⟩
 exact⟨((h.2 u).mp this).1,f1,f2⟩
def Hm.split(L:fM Y)(h:Hm Y M (R::l) i)(hM:M t)(hf:iB Y t i):∃u w,(Y.im t i,u)∈R/\H Y l w/\t=Y.mul w u:=by
 refine au λnO=>b6 ((h.2 t).mpr ⟨hM,hf⟩) λp u w hu hw e=>?_
 obtain⟨s1,f1⟩:=H.good L h.1.2.2 hw
 refine cy (h.1.1.st p u hu) λs2 f2 f3=>nO ?_
 have:Y.im t i=p:=by rw[e,L.aR s1 s2 h.1.2.1,f1 i (ZG _),f3]
 exact⟨u,w,by rw[this];exact hu,hw,e⟩
def Lt(Y:Pg α)(a b:α):Prop:=∃i,i<Y.n/\(∀k,k<i->Y.im a k=Y.im b k)/\Y.im a i<Y.im b i
def Lt.PL(h:Lt Y a b)(h':Lt Y b a):False:=by
 refine bB h λi i1 i2 i3=>bB h' λj j1 j2 j3=>?_
 rcases adm i j with z|z|z
 .have:=j2 i z;exact Z5 i3 (aaa this)
 .subst z;exact aeC i3 (Zx j3)
 .have:=i2 j z;exact Z5 j3 (aaa this)
inductive LM(Y:Pg α):List (Rg α)->α->α->Prop
 |nil {u:α}:LM Y [] u u
 |cons {R:Rg α}{l:List (Rg α)}{u x:α}{p:Nat}{v:α}:(p,v)∈R->(∀q,q∈R.map (·.1)->Y.im u p<=Y.im u q)->LM Y l (Y.mul v u) x->LM Y (R::l) u x
theorem LM.least(L:fM Y):∀{l:List (Rg α)}{i:Nat}{u x:α},VL Y l i->Y.S u->LM Y l u x->(∃w,H Y l w/\x=Y.mul w u)/\∀w,H Y l w->x=Y.mul w u\/Lt Y x (Y.mul w u)
 |[],i,u,x,hv,hs,h=>by
  cases h
  refine⟨⟨Y.one,rfl,(L.one_mul hs).symm⟩,λw hw=>?_⟩
  have vQ:w=Y.one:=hw
  rw[vQ,L.one_mul hs];exact .inl rfl
 |R::l,i,u,x,hv,hs,h=>by
  cases h
  rename_i p v hp Kx hl
  refine au λnO=>cy hv λhV hi TH=>cy (hV.st p v hp) λs2 f2 f3=>?_
  obtain⟨⟨w',vQ,ex⟩,ih⟩:=LM.least L TH (L.sm s2 hs) hl
  obtain⟨Kw,VS⟩:=H.good L TH vQ
  refine nO ?_
  have hx:x=Y.mul (Y.mul w' v) u:=by rw[ex,L.assoc Kw s2 hs]
  refine⟨⟨Y.mul w' v,⟨p,v,w',hp,vQ,rfl⟩,hx⟩,?_⟩
  rintro w ⟨p2,v2,w2,xO,VT,ew⟩
  refine au λnO=>cy (hV.st p2 v2 xO) λs3 g2 g3=>?_
  obtain⟨OR,VU⟩:=H.good L TH VT
  refine nO ?_
  by_cases e:p2=p
  .subst e
   have:v2=v:=jy hV.nd xO hp
   subst this
   rw[ew,L.assoc OR s3 hs]
   exact ih w2 VT
  .refine .inr ⟨i,hi,λk hk=>?_,?_⟩
   .rw[hx,ew,L.aR (L.sm Kw s2) hs (Zr hk (Zx hi)),L.aR (L.sm OR s3) hs (Zr hk (Zx hi)),L.aR Kw s2 (Zr hk (Zx hi)),L.aR OR s3 (Zr hk (Zx hi)),VS k (aaj (Zx hk)),VU k (aaj (Zx hk)),f2 k hk,g2 k hk]
   .rw[hx,ew,L.aR (L.sm Kw s2) hs hi,L.aR (L.sm OR s3) hs hi,L.aR Kw s2 hi,L.aR OR s3 hi,VS i (ZG _),VU i (ZG _),f3,g3]
    have h1:=Kx p2 (ZT.mpr ⟨_,xO,rfl⟩)
    have K8:p<Y.n:=by rw[<-f3];exact L.jx s2 hi
    have TJ:p2<Y.n:=by rw[<-g3];exact L.jx s3 hi
    have h2:Y.im u p≠Y.im u p2:=λz=>e (L.inj hs K8 TJ z).symm
    exact aad h1 h2
def gU(Y:Pg α)(M:α->Prop)(i p:Nat)(x:α):Prop:=M x/\iB Y x i/\Y.im x i=p/\∀t,M t->iB Y t i->Y.im t i=p->x=t\/Lt Y x t
def gU.OS(h:gU Y M i p x)(h':gU Y M i p y):x=y:=by
 rcases h.2.2.2 y h'.1 h'.2.1 h'.2.2.1 with z|z
 .exact z
 .rcases h'.2.2.2 x h.1 h.2.1 h.2.2.1 with z'|z'
  .exact z'.symm
  .exact(z.PL z').elim
def Hm.best(L:fM Y)(hM:kU Y M)(h:Hm Y M (R::l) i)(hu:(p,u)∈R)(hx:LM Y l u x):gU Y M i p x:=by
 refine cy (h.step L hu) λm1 f1 f2=>?_
 have hs:=hM.s u m1
 obtain⟨⟨w,hw,ex⟩,least⟩:=LM.least L h.1.2.2 hs hx
 obtain⟨mw,fw⟩:=((h.tail L).2 w).mp hw
 have sw:=hM.s w mw
 have hi:=h.1.2.1
 refine⟨by rw[ex];exact hM.mul _ _ mw m1,?_,?_,λt ht hf hp=>?_⟩
 .rw[ex];exact iB.mul L sw hs (Zx hi) (λk hk=>fw k (aaj (Zx hk))) f1
 .rw[ex,L.aR sw hs hi,fw i (ZG _),f2]
 .refine bu (h.split L ht hf) λu' w' h1 h2 e=>?_
  rw[hp]at h1
  have:u'=u:=jy h.1.1.nd h1 hu
  rw[e,this]
  exact least w' h2
def BS(L:fM Y)(hM:kU Y M)(hi:i<Y.n):gU Y M i i Y.one:=by
 refine⟨hM.one,λk hk=>L.bI (Zr hk (Zx hi)),L.bI hi,λt ht hf hp=>?_⟩
 have hs:=hM.s t ht
 by_cases all:∀k,k<Y.n->Y.im t k=k
 .exact .inl (L.ext L.s1 hs λk hk=>by rw[L.bI hk,all k hk])
 .
  have ex:∃j,j<Y.n/\Y.im t j≠j/\∀k,k<j->Y.im t k=k:=by
   have key:∀m,m<=Y.n->(∀k,k<m->Y.im t k=k)\/∃j,j<m/\Y.im t j≠j/\∀k,k<j->Y.im t k=k:=λm=>by
    induction m with
    |zero=>intro _;exact .inl λk hk=>(absurd hk (aaZ _))
    |succ m ih=>
     intro hm
     rcases ih (Zx hm)with z|⟨j,z1,z2,z3⟩
     .by_cases e:Y.im t m=m
      .exact .inl λk hk=>by
        rcases aaM k m with y|y
        .exact z k y
        .rw[show k=m by exact aaP y hk];exact e
      .exact .inr ⟨m,(ZG _),e,z⟩
     .exact .inr ⟨j,(aaj (Zx z1)),z2,z3⟩
   rcases key Y.n (ZG _)with z|⟨j,z1,z2,z3⟩
   .exact absurd z all
   .exact⟨j,z1,z2,z3⟩
  refine bB ex λj j1 j2 j3=> .inr ⟨j,j1,λk hk=>by rw[L.bI (Zr hk (Zx j1)),j3 k hk],?_⟩
  rw[L.bI j1]
  rcases adm (Y.im t j) j with z|z|z
  .have:=L.inj hs (L.jx hs j1) j1 (j3 _ z)
   exact absurd this (Z5 z)
  .exact absurd z j2
  .exact z
def Ky(Y:Pg α)(M:α->Prop):List (Rg α)->Nat->Prop
 |[],i=>i=Y.n
 |R::l,i=>i<Y.n/\(∀p x,(p,x)∈R->gU Y M i p x)/\(∀t,M t->iB Y t i->∃x,(Y.im t i,x)∈R)/\(R.map (·.1)).Nodup /\Ky Y M l (i+1)
theorem Ky.hm(L:fM Y)(hM:kU Y M):∀{l:List (Rg α)}{i:Nat},Ky Y M l i->Hm Y M l i
 |[],i,h=>by
  have h':i=Y.n:=h
  refine⟨h,λt=>⟨λht=>?_,λ⟨h1,h2⟩=>?_⟩⟩
  .have e:t=Y.one:=ht
   rw[e]
   exact⟨hM.one,λk hk=>L.bI (Zr hk (ZF h'))⟩
  .exact L.ext (hM.s t h1) L.s1 λk hk=>by rw[h2 k (Zr hk (ZF (aaa h'))),L.bI hk]
 |R::l,i,⟨hi,hb,ha,nd,hl⟩=>by
  have ih:=Ky.hm L hM hl
  have Kz:(i,Y.one)∈R:=by
   obtain⟨x,hx⟩:=ha Y.one hM.one λk hk=>L.bI (Zr hk (Zx hi))
   rw[L.bI hi]at hx
   have:=(hb i x hx).OS (BS L hM hi)
   rw[this]at hx
   exact hx
  have hV:VL Y (R::l) i:=⟨⟨λp u hu=>by
   exact yL (hb p u hu) λb1 b2 b3 _=>⟨hM.s u b1,b2,b3⟩,Kz,nd⟩,hi,ih.1⟩
  refine⟨hV,λt=>⟨?_,λ⟨h1,h2⟩=>?_⟩⟩
  .rintro⟨p,u,w,hu,hw,e⟩
   refine yL (hb p u hu) λb1 b2 b3 _=>?_
   obtain⟨mw,fw⟩:=(ih.2 w).mp hw
   rw[e]
   exact⟨hM.mul _ _ mw b1,iB.mul L (hM.s w mw) (hM.s u b1) (Zx hi) (λk hk=>fw k (aaj (Zx hk))) b2⟩
  .obtain⟨x,hx⟩:=ha t h1 h2
   refine yL (hb _ x hx) λb1 b2 b3 _=>?_
   have st:=hM.s t h1
   have sx:=hM.s x b1
   have sI:=L.si sx
   refine⟨_,x,Y.mul t (Y.inv x),hx,(ih.2 _).mpr ⟨hM.mul _ _ h1 (hM.inv _ b1),λk hk=>?_⟩,by rw[L.assoc st sI sx,L.inv_mul sx,L.mul_one st]⟩
   rw[L.aR st sI (Zr hk hi)]
   rcases aaM k i with z|z
   .rw[h2 k z];exact iB.inv L sx (Zx hi) b2 k z
   .have e:k=i:=(aaP z hk)
    rw[e,<-b3,<-L.aR sx sI hi,L.dq sx,L.bI hi]
noncomputable def TL(Y:Pg α):List (Rg α)->List α
 |[]=>[Y.one]
 |R::l=>R.flatMap λe=>(TL Y l).map λw=>Y.mul w e.2
theorem qJ:∀{l:List (Rg α)}{t:α},t∈TL Y l↔H Y l t
 |[],t=>ZE
 |R::l,t=>by
  unfold TL
  simp only[abv,ZT]
  constructor
  .rintro⟨e,he,w,hw,rfl⟩
   exact⟨e.1,e.2,w,he,qJ.mp hw,rfl⟩
  .rintro⟨p,u,w,hu,hw,e⟩
   exact⟨(p,u),hu,w,qJ.mpr hw,e.symm⟩
theorem tf(L:fM Y):∀{l:List (Rg α)}{i:Nat},VL Y l i->(TL Y l).Nodup
 |[],_,_=>by simp[TL]
 |R::l,i,⟨hV,hi,hl⟩=>by
  have ih:=tf L hl
  have good:∀w,w∈TL Y l->Y.S w/\iB Y w (i+1):=λw hw=>H.good L hl (qJ.mp hw)
  have key:∀{R':Rg α},(∀p u,(p,u)∈R'->Y.S u/\Y.im u i=p)->(R'.map (·.1)).Nodup ->(R'.flatMap λe=>(TL Y l).map λw=>Y.mul w e.2).Nodup :=λ{R'}=>by
   induction R' with
   |nil=>intro _ _;simp
   |cons e R' MF=>
    intro hs nd
    rw[Z4,aaf]at nd
    obtain⟨se,pe⟩:=hs e.1 e.2 ZD
    rw[List.flatMap_cons,abm]
    refine⟨?_,MF (λp u h=>hs p u (Zy _ h)) nd.2,λa ha b hb z=>?_⟩
    .refine abl.mpr (ih.imp_of_mem λ{a b} ha hb fy rS=>fy ?_)
     have sa:=(good a ha).1
     have sb:=(good b hb).1
     have sI:=L.si se
     have:Y.mul (Y.mul a e.2) (Y.inv e.2)=Y.mul (Y.mul b e.2) (Y.inv e.2):=congrArg (λx=>Y.mul x (Y.inv e.2)) rS
     rwa [L.assoc sa se sI,L.assoc sb se sI,L.dq se,L.mul_one sa,L.mul_one sb]at this
    .refine aa (ZT.mp ha) λw hw ah=>?_
     subst ah
     refine aa (abv.mp hb) λe' yt lS=>aa (ZT.mp lS) λw' vQ aM=>?_
     subst aM
     obtain⟨YE,YF⟩:=hs e'.1 e'.2 (Zy _ yt)
     have h1:Y.im (Y.mul w e.2) i=e.1:=by rw[L.aR (good w hw).1 se hi,(good w hw).2 i (ZG _),pe]
     have h2:Y.im (Y.mul w' e'.2) i=e'.1:=by rw[L.aR (good w' vQ).1 YE hi,(good w' vQ).2 i (ZG _),YF]
     rw[z,h2]at h1
     exact nd.1 (ZT.mpr ⟨e',yt,h1⟩)
  exact key (λp u h=>⟨(hV.st p u h).1,(hV.st p u h).2.2⟩) hV.nd
end
open Py
noncomputable def pg(s:Nat):Pg (List Int) where
 n:=s
 S:=λp=>p∈perms s
 mul:=comp
 inv:=ip
 one:=bJ s
 im:=λp k=>(p.getD k 0).toNat
section
variable {s:Nat}
def KA(hp:p∈perms s)(hk:k<s):p.getD k 0∈p:=getD_mem (by rw[aQ hp];exact hk)
def GZ(hp:p∈perms s)(hk:k<s):0<=p.getD k 0/\p.getD k 0<s:=(aD.mp hp).2.2 _ (KA hp hk)
def wy(hp:p∈perms s)(hk:k<s):p.getD k 0=(((pg s).im p k:Nat):Int):=by
 have:=GZ hp hk
 show _=(((p.getD k 0).toNat :Nat):Int)
 exact aaa (abH this.1)
def Fs(hp:p∈perms s)(hk:k<s):(comp p q).getD k 0=q.getD (p.getD k 0).toNat 0:=by
 have hl:k<p.length:=by rw[aQ hp];exact hk
 unfold comp
 rw[ZR,ZJ,Zt hl,ZR (l:=p),Zt hl]
 rfl
def KC(hk:k<s):(bJ s).getD k 0=(k:Int):=by
 unfold bJ
 rw[ZR,ZJ,aby hk]
 rfl
def aK:fM (pg s) where
 s1:=gw s
 sm:=λha hb=>dE ha hb
 si:=λha=>fH ha
 assoc:=λha hb _=>iy ha hb
 mul_one:=λha=>ju ha
 one_mul:=λha=>mU ha
 dq:=λha=>Fn ha
 inv_mul:=λha=>wq ha
 bI:=λ{k} hk=>by
  show((bJ s).getD k 0).toNat =k
  rw[KC (s:=s) hk];exact ach _
 aR:=λ{a b k} ha hb hk=>by
  show((comp a b).getD k 0).toNat =(b.getD (a.getD k 0).toNat 0).toNat
  rw[Fs ha hk]
 jx:=λ{a k} ha hk=>by
  have:=GZ ha hk
  show(a.getD k 0).toNat<s
  exact Hc this.1 this.2
 ext:=λ{a b} ha hb h=>by
  apply abx
  intro k
  rcases aaM k s with z|z
  .have h1:=wy ha z
   have h2:=wy hb z
   have h3:=h k z
   rw[h3]at h1
   have e:a.getD k 0=b.getD k 0:=h1.trans h2.symm
   rw[ZR,ZR]at e
   have la:k<a.length:=by rw[aQ ha];exact z
   have lb:k<b.length:=by rw[aQ hb];exact z
   rw[Zt la,Zt lb]at e⊢
   simpa using e
  .rw[Z6 (by rw[aQ ha];exact z),Z6 (by rw[aQ hb];exact z)]
theorem BU(L:fM (pg s))(hG:∀u,G u->u∈perms s)(hu:Gen (pg s) G u):∀m,Gen (pg s) G (pw u m)
 |0=>by
  have hp:u∈perms s:=Gen.S L hG hu
  have:pw u 0=bJ s:=by show bJ u.length=bJ s;rw[aQ hp]
  rw[this];exact .one
 |m+1=>by
  have:=Gen.app L hG (BU L hG hu m) hu
  exact this
def mY(h6:s<=6)(hG:∀u,G u->u∈perms s):kU (pg s) (Gen (pg s) G) where
 s:=λt ht=>Gen.S aK hG ht
 one:= .one
 mul:=λa b ha hb=>Gen.app aK hG ha hb
 inv:=λa ha=>by
  have hp:a∈perms s:=Gen.S aK hG ha
  refine yL (BP h6 hp) λo1 o2 o3 _=>?_
  have e:comp a (pw a (yE a-1))=bJ s:=by
   have:=BO hp 1 (yE a-1)
   rw[Kt hp,show 1+(yE a-1)=yE a by exact acP _ _,o1]at this
   exact this.symm
  have:ip a=pw a (yE a-1):=(yD hp (jv hp _) e).symm
  show Gen (pg s) G (ip a)
  rw[this]
  exact BU aK hG ha _
end
end jC
namespace jC
section
variable {α:Type}{Y:Pg α}
open Classical in
noncomputable def eE(Y:Pg α)(M:α->Prop)(i p:Nat):α:=@Classical.epsilon α ⟨Y.one⟩ (gU Y M i p)
def gL(h:gU Y M i p x):eE Y M i p=x:=(@aeJ α (gU Y M i p) ⟨x,h⟩).OS h
open Classical in
noncomputable def et(Y:Pg α)(M:α->Prop)(i:Nat):Rg α:=((List.range Y.n).filter λp=>decide (∃x,gU Y M i p x)).map λp=>(p,eE Y M i p)
def mZ{l:List Nat}(h:l.Pairwise (· < ·)):l.Nodup:=h.imp λz e=>(aeC z (ZF (aaa e)))
def OU{l m:List Nat}(h1:l.Pairwise (· < ·))(h2:m.Pairwise (· < ·))(h:∀a,a∈l↔a∈m):l=m:=
 ((adM (mZ h1) (mZ h2)).mpr h).eq_of_pairwise (λa b _ _ x y=>(aal (Zx x) (Zx y))) h1 h2
def BV(L:fM Y){i:Nat}(hi:i<Y.n)(hM:∀t,M t->Y.S t)(hb:∀p x,(p,x)∈R->gU Y M i p x)(ha:∀t,M t->iB Y t i->∃x,(Y.im t i,x)∈R)(hs:(R.map (·.1)).Pairwise (· < ·)):R=et Y M i:=by
 have keys:R.map (·.1)=(List.range Y.n).filter λp=>@decide (∃x,gU Y M i p x) (Classical.propDecidable _):=by
  refine OU hs (aeL.sublist (afv)) λp=>?_
  rw[acW,aar,ZT]
  constructor
  .rintro⟨⟨q,x⟩,h1,h2⟩
   have S1:q=p:=h2
   subst S1
   have b:=hb q x h1
   exact⟨by rw[<-b.2.2.1];exact L.jx (hM x b.1) hi,@decide_eq_true _ (Classical.propDecidable _) ⟨x,b⟩⟩
  .rintro⟨h1,h2⟩
   obtain⟨x,b⟩:=@of_decide_eq_true _ (Classical.propDecidable _) h2
   obtain⟨y,hy⟩:=ha x b.1 b.2.1
   rw[b.2.2.1]at hy
   exact⟨(p,y),hy,rfl⟩
 unfold et
 rw[<-keys,aaw]
 have:R=R.map id:=(aft R).symm
 conv=>lhs;rw[this]
 refine acO λe he=>?_
 show e=(e.1,eE Y M i e.1)
 rw[gL (hb e.1 e.2 he)]
def BW:((et Y M i).map (·.1)).Pairwise (· < ·):=by
 unfold et
 rw[aaw]
 have:((λx:Nat×α=>x.1) ∘ λp=>(p,eE Y M i p))=id:=rfl
 rw[this,aft]
 exact aeL.sublist afv
def uN:∀p x,(p,x)∈et Y M i->gU Y M i p x:=λp x h=>by
 refine aa (ZT.mp h) λq hq e=>?_
 cases e
 obtain⟨y,hy⟩:=@of_decide_eq_true _ (Classical.propDecidable _) (acW.mp hq).2
 rw[gL hy]
 exact hy
noncomputable def cx(Y:Pg α)(M:α->Prop)(i:Nat):List (Rg α):=(List.range' i (Y.n-i)).map (et Y M)
theorem tm(L:fM Y)(hM:kU Y M)(G0:∀i t,i<Y.n->M t->iB Y t i->∃x,gU Y M i (Y.im t i) x):∀(m i:Nat),i+m=Y.n->Ky Y M ((List.range' i m).map (et Y M)) i
 |0,i,h=>by
  show i=Y.n
  exact h
 |m+1,i,h=>by
  rw[ady,Z4]
  have hi:i<Y.n:=(UE (ZF h) (ZU _ _))
  refine⟨hi,uN,λt ht hf=>?_,mZ BW,tm L hM G0 m (i+1) (afb (Z8 _ _ _) h)⟩
  obtain⟨x,hx⟩:=G0 i t hi ht hf
  have hp:Y.im t i<Y.n:=L.jx (hM.s t ht) hi
  exact⟨eE Y M i (Y.im t i),ZT.mpr ⟨Y.im t i,acW.mpr ⟨aar.mpr hp,@decide_eq_true _ (Classical.propDecidable _) ⟨x,hx⟩⟩,rfl⟩⟩
theorem BX(f:β->Nat):∀{l:List β},l≠[]->∃e∈l,∀e'∈l,f e<=f e'
 |[],h=>absurd rfl h
 |[x],_=>⟨x,ZE.mpr rfl,λy hy=>by rw[ZE.mp hy];exact ZG _⟩
 |x::y::l,_=>by
  refine aa (BX f (l:=y::l) (by simp)) λe h1 h2=>?_
  by_cases c:f x<=f e
  .refine⟨x,ZD,λz hz=>?_⟩
   rcases ZK.mp hz with rfl|hz
   .exact ZG _
   .exact Zw c (h2 z hz)
  .refine⟨e,Zy _ h1,λz hz=>?_⟩
   rcases ZK.mp hz with rfl|hz
   .exact Zx (abO c)
   .exact h2 z hz
theorem LM.ex:∀{l:List (Rg α)}{i:Nat},VL Y l i->∀u,∃x,LM Y l u x
 |[],_,_,u=>⟨u,.nil⟩
 |R::l,i,⟨hV,_,hl⟩,u=>by
  refine aa (BX (λe:Nat×α=>Y.im u e.1) (l:=R) (λz=>by have:=hV.one;rw[z]at this;cases this)) λe h1 h2=>?_
  obtain⟨x,hx⟩:=LM.ex hl (Y.mul e.2 u)
  refine⟨x,.cons (p:=e.1) (v:=e.2) h1 (λq hq=>?_) hx⟩
  refine aa (ZT.mp hq) λe' yt ah=>?_
  subst ah
  exact h2 e' yt
theorem Hm.wz(L:fM Y)(hM:kU Y M):∀{l:List (Rg α)}{i:Nat},Hm Y M l i->∀j t,i<=j->j<Y.n->M t->iB Y t j->∃x,gU Y M j (Y.im t j) x
 |[],i,h,j,t,h1,h2,_,_=>by
  have:i=Y.n:=h.1
  exact absurd h1 (aeC (Zr h2 (ZF (aaa this))))
 |R::l,i,h,j,t,h1,h2,ht,hf=>by
  rcases aaM i j with z|z
  .exact Hm.wz L hM (h.tail L) j t (z) h2 ht hf
  .have e:j=i:=(aal z h1)
   subst e
   refine bu (h.split L ht hf) λu w hu _ _=>?_
   obtain⟨x,hx⟩:=LM.ex h.1.2.2 u
   exact⟨x,h.best L hM hu hx⟩
def BY(L:fM Y)(hM:kU Y M)(h:Hm Y M l 0):Ky Y M (cx Y M 0) 0/\(∀t,t∈TL Y (cx Y M 0)↔M t)/\(TL Y (cx Y M 0)).Nodup :=by
 have hl:Ky Y M (cx Y M 0) 0:=tm L hM (λi t hi ht hf=>h.wz L hM i t (aab _) hi ht hf) _ 0 (aaE _)
 have hm:=hl.hm L hM
 refine⟨hl,λt=>?_,tf L hm.1⟩
 rw[qJ,hm.2 t]
 exact⟨λz=>z.1,λz=>⟨z,λk hk=>(absurd hk (aaZ _))⟩⟩
def Fd.hm(L:fM Y)(hG:∀u,G u->Y.S u)(h:Fd Y G l []):Hm Y (Gen Y G) l 0:=
 ⟨h.v,λt=>⟨λz=>⟨(h.done L hG t).mp z,λk hk=>(absurd hk (aaZ _))⟩,λz=>(h.done L hG t).mpr z.1⟩⟩
end
section
variable {α β:Type}{act:β->α->β}{b t:β}{G D:List α}{B W:List β}
inductive G6(act:β->α->β)(b:β)(G:List α):β->Prop
 |one:G6 act b G b
 |mul:G6 act b G x->g∈G->G6 act b G (act x g)
structure Al(act:β->α->β)(b:β)(G:List α)(B W:List β):Prop where
 one:b∈B
 nd:B.Nodup
 wb:∀x∈W,x∈B
 gen:∀x∈B,G6 act b G x
 out:∀x∈B,x∉W->∀g∈G,act x g∈B
def YG:Al act b G [b] [b] where
 one:=ZE.mpr rfl
 nd:=by simp
 wb:=λ_ h=>h
 gen:=λx hx=>by rw[ZE.mp hx];exact .one
 out:=λx hx h=>absurd hx h
structure Am(act:β->α->β)(b:β)(G:List α)(t:β)(D:List α)(B W:List β):Prop where
 one:b∈B
 nd:B.Nodup
 wb:∀x∈W,x∈B
 gen:∀x∈B,G6 act b G x
 tb:t∈B
 out:∀x∈B,x∉W->x≠t->∀g∈G,act x g∈B
 now:∀g∈D,act t g∈B
def Al.start(h:Al act b G B (W++[t])):Am act b G t [] B W where
 one:=h.one
 nd:=h.nd
 wb:=λx hx=>h.wb x (Z7 _ hx)
 gen:=h.gen
 tb:=h.wb t (ZV _ (ZE.mpr rfl))
 out:=λx hx h1 h2=>h.out x hx λz=>(ZZ.mp z).elim h1 λz=>h2 (ZE.mp z)
 now:=λ_ h=>nomatch h
def Am.old(h:Am act b G t D B W)(hg:act t g∈B):Am act b G t (D++[g]) B W:=
 ⟨h.one,h.nd,h.wb,h.gen,h.tb,h.out,λx hx=>(ZZ.mp hx).elim (h.now x) λz=>by rw[ZE.mp z];exact hg⟩
def Am.new(h:Am act b G t D B W)(hG:g∈G)(hg:act t g∉B):Am act b G t (D++[g]) (B++[act t g]) (W++[act t g]) where
 one:=Z7 _ h.one
 nd:=by
  rw[abm]
  exact⟨h.nd,by simp,λa ha b hb e=>hg (by rw[<-ZE.mp hb,<-e];exact ha)⟩
 wb:=λx hx=>(ZZ.mp hx).elim (λz=>Z7 _ (h.wb x z)) λz=>ZV _ z
 gen:=λx hx=>(ZZ.mp hx).elim (h.gen x) λz=>by
  rw[ZE.mp z]
  exact .mul (h.gen t h.tb) hG
 tb:=Z7 _ h.tb
 out:=λx hx h1 h2 g' Jk=>by
  rcases ZZ.mp hx with z|z
  .exact Z7 _ (h.out x z (λy=>h1 (Z7 _ y)) h2 g' Jk)
  .exact absurd (ZV _ z) h1
 now:=λx hx=>(ZZ.mp hx).elim (λz=>Z7 _ (h.now x z)) λz=>by
  rw[ZE.mp z]
  exact ZV _ (ZE.mpr rfl)
def Am.fin[DecidableEq β](h:Am act b G t D B W)(hD:∀g∈G,g∈D):Al act b G B W where
 one:=h.one
 nd:=h.nd
 wb:=h.wb
 gen:=h.gen
 out:=λx hx hw g hg=>by
  by_cases e:x=t
  .rw[e];exact h.now g (hD g hg)
  .exact h.out x hx hw e g hg
def Al.done(h:Al act b G B [])(t:β):t∈B↔G6 act b G t:=by
 refine⟨h.gen t,λz=>?_⟩
 induction z with
 |one=>exact h.one
 |mul _ hu ih=>exact h.out _ ih (by simp) _ hu
end
def wA:G6 Py.comp (Py.bJ s) G t↔Gen (pg s) (· ∈G) t:=by
 constructor
 .intro h
  induction h with
  |one=>exact .one
  |mul _ hu ih=>exact .mul ih hu
 .intro h
  induction h with
  |one=>exact .one
  |mul _ hu ih=>exact .mul ih hu
def BZ(hG:∀u∈G,u∈Py.perms s)(h:G6 Py.comp (Py.bJ s) G t):t∈Py.perms s:=Gen.S aK hG (wA.mp h)
end jC
namespace b7
open Py
noncomputable def d0:Fd:=⟨1,1,(.seq (.ret (.nA .tuple (.u 0))) .skip)⟩
noncomputable def d1:Fd:=⟨2,2,(.seq (.ret (.prim .tuple (.o (.comp [1] 0 (.it (.var 0)) .nil (.idx (.var 1) (.var 0)))))) .skip)⟩
noncomputable def d2:Fd:=⟨1,1,(.seq (.ret (.prim .tuple (.o (.comp [0] 0 (.fj (.o (.prim .len (.u 0)))) .nil (.cK .index (.var 1) (.u 0)))))) .skip)⟩
noncomputable def d3:Fd:=⟨2,5,(.seq (.asg 2 (.var 1)) (.seq (.for [3,4] 2 (.xG (.var 0)) (.seq (.ifs (.vj true (.idx (.var 2) (.var 3)) 4) (.seq (.ret (.var 2)) .skip) .skip) (.seq (.asg 2 (.call 1 (.w 2 (.o (.call 2 (.o (.fq 4 (.idx (.var 2) (.var 3))))))))) .skip))) (.seq (.ret (.var 2)) .skip)))⟩
noncomputable def d4:Fd:=⟨2,5,(.seq (.cS 2 (.lst .nil)) (.seq (.for [3] 0 (.it (.var 0)) (.seq (.for [4] 0 (.dv 3) (.seq (.app 2 (.call 1 (.w 1 (.u 4)))) (.seq (.app 2 (.call 1 (.w 4 (.u 1)))) .skip))) .skip)) (.seq (.ret (.var 2)) .skip)))⟩
noncomputable def d5:Fd:=⟨2,7,(.fst 2 [1] (.fj (.u 1)) (.var 0) (.call 0 (.u 1)) (.cS 3 (.prim .list (.u 0))) 3 4 3 (.cS 5 (.comp [4] 0 (.fj (.u 1)) (.o (.cmp .NotEq (.idx (.var 1) (.var 0)) (.var 0))) (.var 0))) 5 (.asg 6 (.idx (.var 5) (.ci 0))) (.var 6) (.idx (.var 4) (.var 6)) (.var 4) 4 (.var 4))⟩
noncomputable def d6:Fd:=⟨3,6,(.seq (.asg 3 (.var 2)) (.seq (.for [4] 0 (.it (.sl (.var 0) (.o (.bin .Add (.var 1) (.ci 1))) .nil)) (.seq (.asg 5 (.prim .min (.o (.comp [3] 0 (.dk 4) .nil (.idx (.var 1) (.var 0)))))) (.seq (.asg 3 (.call 1 (.cons (.fq 4 (.cK .index (.var 3) (.u 5))) (.u 3)))) .skip))) (.seq (.ret (.var 3)) .skip)))⟩
noncomputable def d7:Fd:=⟨2,3,(.seq (.asg 2 (.idx (.var 0) (.var 1))) (.seq (.ret (.prim .tuple (.o (.comp [0,1,2] 0 (.it (.ed 2)) .nil (.tup (.w 0 (.o (.call 6 (.w 1 (.w 2 (.o (.fq 3 (.var 0))))))))))))) .skip))⟩
noncomputable def d8:Fd:=⟨2,3,(.seq (.asg 2 (.call 5 (.w 0 (.u 1)))) (.seq (.ret (.prim .tuple (.o (.comp [2] 0 (.fj (.u 1)) .nil (.call 7 (.w 1 (.u 0))))))) .skip))⟩
noncomputable def d9:Fd:=⟨1,3,(.seq (.asg 1 (.ci 1)) (.seq (.for [2] 0 (.it (.var 0)) (.seq (.asg 1 (.bin .Mult (.var 1) (.prim .len (.u 2)))) .skip)) (.seq (.ret (.var 1)) .skip)))⟩
noncomputable def KD:Fd:=⟨2,8,(.seq (.asg 2 (.ci 0)) (.seq (.asg 3 (.var 1)) (.seq (.for [4,5] 2 (.xG (.var 0)) (.seq (.cS 6 (.comp [] 0 (.it (.var 5)) .nil (.idx (.var 0) (.ci 0)))) (.seq (.ifs (.cmp .NotIn (.idx (.var 3) (.var 4)) (.var 6)) (.seq (.ret (.c .bX)) .skip) .skip) (.seq (.asg 7 (.cK .jJ (.var 6) (.o (.idx (.var 3) (.var 4))))) (.seq (.asg 2 (.bin .Add (.bin .Mult (.var 2) (.prim .len (.u 5))) (.var 7))) (.seq (.asg 3 (.call 1 (.w 3 (.o (.call 2 (.o (.idx (.idx (.var 5) (.var 7)) (.ci 1)))))))) .skip)))))) (.seq (.ret (.var 2)) .skip))))⟩
noncomputable def KG:Fd:=⟨2,5,(.seq (.ifs (.om false (.cons (.not (.call 22 (.u 1))) (.o (.not (.chain .LtE .Lt (.ci 0) (.var 1) (.call 9 (.u 0))))))) (.seq (.raise 2) .skip) .skip) (.seq (.asg 2 (.call 0 (.o (.prim .len (.u 0))))) (.seq (.asg 3 (.var 1)) (.seq (.for [4] 0 (.Gj (.var 0)) (.seq (.asg 2 (.call 1 (.w 2 (.o (.idx (.idx (.var 4) (.bin .Mod (.var 3) (.prim .len (.u 4)))) (.ci 1)))))) (.seq (.asg 3 (.bin .FloorDiv (.var 3) (.prim .len (.u 4)))) .skip))) (.seq (.ret (.var 2)) .skip)))))⟩
noncomputable def VV:Fd:=⟨2,2,(.seq (.ifs (.cmp .Lt (.var 1) (.prim .len (.u 0))) (.seq (.ret (.idx (.var 0) (.var 1))) .skip) .skip) (.seq (.ret (.ci 0)) .skip))⟩
noncomputable def VW:Fd:=⟨2,3,(.seq (.asg 2 (.bin .Mod (.bin .Mult (.bin .Add (.bin .Add (.call 12 (.w 0 (.u 1))) (.bin .Mult (.ci 7919) (.var 1))) (.ci 1)) (.ci 48271)) (.ci 2147483647))) (.seq (.ret (.bin .Mod (.bin .Add (.bin .Add (.bin .Mult (.var 2) (.var 2)) (.bin .Mult (.ci 7) (.var 2))) (.var 1)) (.ci 2147483629))) .skip))⟩
noncomputable def VX:Fd:=⟨2,3,(.seq (.asg 2 (.bin .Mod (.bin .Mult (.bin .Add (.bin .Add (.var 0) (.bin .Mult (.ci 104729) (.var 1))) (.ci 17)) (.ci 69621)) (.ci 2147483647))) (.seq (.ret (.bin .Mod (.bin .Add (.bin .Add (.bin .Mult (.var 2) (.var 2)) (.bin .Mult (.ci 3) (.var 2))) (.var 1)) (.ci 2147483629))) .skip))⟩
noncomputable def VY:Fd:=⟨2,10,(.seq (.cS 2 (.nA .list (.u 1))) (.seq (.ifs (.cmp .Eq (.bin .Mod (.var 0) (.ci 3)) (.ci 0)) (.seq (.asg 3 (.bin .Mod (.bin .FloorDiv (.var 0) (.ci 3)) (.var 1))) (.seq (.asg 4 (.bin .Mod (.bin .FloorDiv (.var 0) (.ci 18)) (.var 1))) (.seq (.lW 2 (.var 3) (.var 4)) (.seq (.lW 2 (.var 4) (.var 3)) (.seq (.ret (.prim .tuple (.u 2))) .skip))))) .skip) (.seq (.ifs (.cmp .Eq (.bin .Mod (.var 0) (.ci 3)) (.ci 1)) (.seq (.asg 5 (.bin .Add (.ci 1) (.bin .Mod (.bin .FloorDiv (.var 0) (.ci 3)) (.var 1)))) (.seq (.asg 6 (.bin .Mod (.bin .FloorDiv (.var 0) (.ci 18)) (.var 1))) (.seq (.for [7] 0 (.fj (.u 5)) (.seq (.lW 2 (.bin .Mod (.bin .Add (.var 6) (.var 7)) (.var 1)) (.bin .Mod (.bin .Add (.var 6) (.bin .Mod (.bin .Add (.var 7) (.ci 1)) (.var 5))) (.var 1))) .skip)) (.seq (.ret (.prim .tuple (.u 2))) .skip)))) .skip) (.seq (.cS 8 (.lst .nil)) (.seq (.for [7] 0 (.fj (.u 1)) (.seq (.asg 9 (.bin .Mod (.call 14 (.w 0 (.u 7))) (.bin .Add (.prim .len (.u 8)) (.ci 1)))) (.seq (.cS 8 (.bin .Add (.bin .Add (.sl (.var 8) .nil (.u 9)) (.lst (.u 7))) (.sl (.var 8) (.u 9) .nil))) .skip))) (.seq (.ret (.prim .tuple (.u 8))) .skip))))))⟩
noncomputable def VZ:Fd:=⟨2,2,(.seq (.ret (.prim .tuple (.o (.comp [0,1] 0 (.fj (.o (.idx (.tup (.cons (.ci 1) (.cons (.ci 1) (.cons (.ci 2) (.cons (.ci 2) (.cons (.ci 3) (.cons (.ci 0) (.o (.ci 6))))))))) (.bin .Mod (.var 0) (.ci 7))))) .nil (.call 15 (.cons (.call 14 (.w 1 (.u 0))) (.u 2))))))) .skip)⟩
noncomputable def V0:Fd:=⟨2,2,(.seq (.ret (.prim .tuple (.o (.comp [1] 0 (.it (.var 0)) .nil (.idx (.var 1) (.var 0)))))) .skip)⟩
noncomputable def Ft:Fd:=⟨2,8,(.seq (.asg 2 (.nA .tuple (.u 1))) (.seq (.lX 3 1 (.w 2 (.o (.c (.bl true))))) (.seq (.cS 4 (.lst (.u 2))) (.seq (.while (.cmp .NotEq (.var 4) (.lst .nil)) (.seq (.pop 5 4) (.seq (.for [6] 0 (.it (.var 0)) (.seq (.asg 7 (.call 17 (.w 5 (.u 6)))) (.seq (.ifs (.vj true (.var 7) 3) (.seq (.kM 3 (.var 7) (.c (.bl true))) (.seq (.app 4 (.var 7)) .skip)) .skip) .skip))) .skip))) (.seq (.ret (.ed 3)) .skip)))))⟩
noncomputable def OV:Fd:=⟨2,5,(.seq (.asg 2 (.nA .tuple (.o (.prim .len (.u 0))))) (.seq (.asg 3 (.var 1)) (.seq (.for [4] 0 (.it (.rev (.var 0))) (.seq (.asg 2 (.call 17 (.w 2 (.o (.idx (.idx (.var 4) (.bin .Mod (.var 3) (.prim .len (.u 4)))) (.ci 1)))))) (.seq (.asg 3 (.bin .FloorDiv (.var 3) (.prim .len (.u 4)))) .skip))) (.seq (.ret (.var 2)) .skip))))⟩
noncomputable def Fu:Fd:=⟨2,4,(.seq (.ifs (.call 23 (.w 0 (.u 1))) (.seq (.ret (.c (.bl true))) .skip) .skip) (.seq (.raise 0) .skip))⟩
noncomputable def KH:Fd:=⟨1,13,(.seq (.asg 1 (.bin .Add (.ci 1) (.bin .Mod (.call 13 (.w 0 (.o (.ci 0)))) (.ci 5)))) (.seq (.asg 2 (.call 16 (.cons (.call 13 (.w 0 (.o (.ci 1)))) (.u 1)))) (.seq (.asg 3 (.call 8 (.w 2 (.u 1)))) (.seq (.asg 4 (.call 18 (.w 2 (.u 1)))) (.seq (.asg 5 (.prim .len (.u 4))) (.seq (.lX 6 1 .nil) (.seq (.for [7] 0 (.fj (.o (.prim .min (.w 5 (.o (.ci 60)))))) (.seq (.asg 8 (.var 7)) (.seq (.ifs (.cmp .Gt (.var 5) (.ci 60)) (.seq (.asg 8 (.bin .Mod (.call 14 (.cons (.call 13 (.w 0 (.o (.ci 2)))) (.u 7))) (.var 5))) .skip) .skip) (.seq (.asg 9 (.call 11 (.w 3 (.u 8)))) (.seq (.ifs (.om false (.cons (.cmp .NotEq (.var 9) (.call 19 (.w 3 (.u 8)))) (.cons (.cmp .NotIn (.var 9) (.var 4)) (.o (.cmp .NotEq (.CG 6 (.var 9) (.var 8)) (.var 8)))))) (.seq (.ret (.c (.bl false))) .skip) .skip) (.seq (.kM 6 (.var 9) (.var 8)) (.seq (.asg 10 (.call 10 (.w 3 (.u 9)))) (.seq (.ifs (.om false (.cons (.yQ (.var 10) true) (.o (.cmp .NotEq (.var 10) (.var 8))))) (.seq (.ret (.c (.bl false))) .skip) .skip) .skip)))))))) (.seq (.asg 11 (.call 15 (.cons (.call 13 (.w 0 (.o (.ci 3)))) (.u 1)))) (.seq (.ifs (.cmp .NotEq (.cmp .Is (.call 10 (.w 3 (.u 11))) (.c .bX)) (.cmp .NotIn (.var 11) (.var 4))) (.seq (.ret (.c (.bl false))) .skip) .skip) (.seq (.cS 12 (.lst (.w 5 (.cons (.neg (.ci 1)) (.cons (.bin .Add (.var 5) (.bin .Mod (.call 13 (.w 0 (.o (.ci 3)))) (.ci 999))) (.cons (.c (.bl true)) (.cons (.c .bX) (.o (.c (.str "0")))))))))) (.seq (.ret (.call 20 (.w 3 (.o (.idx (.var 12) (.bin .Mod (.call 13 (.w 0 (.o (.ci 4)))) (.ci 6))))))) .skip)))))))))))⟩
noncomputable def OW:Fd:=⟨1,1,(.seq (.ret (.om true (.cons (.yQ (.var 0) false) (.o (.not (.yQ (.var 0) true)))))) .skip)⟩
noncomputable def Ln:Fd:=⟨2,5,(.seq (.ret (.om false (.cons (.not (.call 22 (.u 1))) (.o (.not (.chain .LtE .Lt (.ci 0) (.var 1) (.call 9 (.u 0)))))))) .skip)⟩
noncomputable def T:List Fd:=[d0,d1,d2,d3,d4,d5,d6,d7,d8,d9,KD,KG,VV,VW,VX,VY,VZ,V0,Ft,OV,Fu,KH,OW,Ln]
open jC
noncomputable abbrev kR(R:Rg (List Int)):List (List Int):=R.map λe=>[(e.1:Int)]
noncomputable abbrev vR(R:Rg (List Int)):List D:=R.map λe=>tp e.2
noncomputable def aw(R:Rg (List Int)):D:= .bj 0 (kR R) (vR R)
theorem gM:∀(R:Rg (List Int)) (k:Nat),find (kR R) (vR R) [(k:Int)]=(fV R k).map tp
 |[],k=>rfl
 |e::R,k=>by
  show find ([(e.1:Int)]::kR R) (tp e.2::vR R) [(k:Int)]=_
  rw[find]
  unfold fV
  rw[aca]
  by_cases h:e.1=k
  .subst h
   rw[ZM rfl]
   simp
  .have h':¬([(e.1:Int)]=[(k:Int)]):=λz=>h (by injection z with z _;exact acn z)
   rw[ZW h',gM R k]
   have:(e.1==k)=false:=by simp[h]
   rw[this]
   rfl
def B0{k:Nat}:[(k:Int)]∈kR R↔fV R k≠none:=by
 constructor
 .intro h z
  refine aa (ZT.mp h) λe he hk=>?_
  have:e.1=k:=by injection hk with hk _;exact acn hk
  exact j8 z (ZT.mpr ⟨e,he,this⟩)
 .intro h
  cases z:fV R k with
  |none=>exact absurd z h
  |some u=>exact ZT.mpr ⟨_,e_ z,rfl⟩
section
variable {s:Nat}{F:FT}
def m5(ht:t∈perms s)(hk:k<s):item (tp t) (.int k)=some (.int ((pg s).im t k:Nat)):=by
 rw[wo (ZX _) (by rw[aQ ht];lia)]
 show some (D.int (t.getD (k:Int).toNat 0))=_
 rw[aaT,wy ht hk]
def wB(a b:Nat):((a:Int)==(b:Int))=decide (a=b):=by
 by_cases h:a=b
 .rw[h,decide_eq_true rfl];exact beq_self_eq_true _
 .rw[decide_eq_false h];exact beq_eq_false_iff_ne.mpr λz=>h (acn z)
theorem VL.len:∀{l:List (Rg (List Int))}{i:Nat},VL Y l i->i+l.length=Y.n
 |[],i,h=>h
 |R::l,i,h=>by
  have:=VL.len h.2.2
  rw[Z3]
  lia
noncomputable abbrev lo1:C:=(.seq (.ifs (.vj true (.idx (.var 2) (.var 3)) 4) (.seq (.ret (.var 2)) .skip) .skip) (.seq (.asg 2 (.call 1 (.w 2 (.o (.call 2 (.o (.fq 4 (.idx (.var 2) (.var 3))))))))) .skip))
noncomputable abbrev LE(x0 x1:Option (Bool×D))(t:List Int)(x3 x4:Option (Bool×D)):Env:=[x0,x1,vf (tp t),x3,x4]
def Fv(ht:∀p∈perms s,∀q∈perms s,F 1 [tp p,tp q]=some (tp (comp p q)))(hb:∀p∈perms s,F 2 [tp p]=some (tp (ip p))){x0 x1 x3 x4:Option (Bool×D)}(hi:i<s)(hv:V (pg s) i R)(hp:t∈perms s):
  ex F lo1 (LE x0 x1 t (vf (.int i)) (vf (aw R)))=match fV R ((pg s).im t i)with
   |some u=>some (.next (LE x0 x1 (comp t (ip u)) (vf (.int i)) (vf (aw R))))
   |none=>some (.ret (tp t)):=by
 have uO:∀b,ev F b (.idx (.var 2) (.var 3)) (LE x0 x1 t (vf (.int i)) (vf (aw R)))=some (.int ((pg s).im t i:Nat)):=λb=>m5 hp hi
 have Fw:ev F false (.vj true (.idx (.var 2) (.var 3)) 4) (LE x0 x1 t (vf (.int i)) (vf (aw R)))=some (.bl (!decide ([((pg s).im t i:Int)]∈kR R))):=by
  rw[RN,uO]
  rfl
 cases e:fV R ((pg s).im t i)with
 |none=>
  have hn:¬[((pg s).im t i:Int)]∈kR R:=λz=>B0.mp z e
  rw[decide_eq_false hn]at Fw
  rw[bU,fP,Fw]
  rfl
 |some u=>
  have hn:[((pg s).im t i:Int)]∈kR R:=B0.mpr (by rw[e];simp)
  rw[decide_eq_true hn]at Fw
  have hu:u∈perms s:=(hv.st _ _ (e_ e)).1
  have B1:ev F true (.fq 4 (.idx (.var 2) (.var 3))) (LE x0 x1 t (vf (.int i)) (vf (aw R)))=some (tp u):=by
   rw[ME,uO]
   show find (kR R) (vR R) [((pg s).im t i:Int)]=_
   rw[gM,e]
   rfl
  have YH:ev F true (.call 2 (.o (.fq 4 (.idx (.var 2) (.var 3))))) (LE x0 x1 t (vf (.int i)) (vf (aw R)))=some (tp (ip u)):=aB (jw B1) (hb u hu) (aA _)
  have TK:ev F false (.call 1 (.w 2 (.o (.call 2 (.o (.fq 4 (.idx (.var 2) (.var 3)))))))) (LE x0 x1 t (vf (.int i)) (vf (aw R)))=some (tp (comp t (ip u))):=aB (dn rfl YH) (ht t hp _ (fH hu)) (aA _)
  rw[bU,fP,Fw]
  show(ex F (.seq (.asg 2 _) .skip) _)=_
  rw[bU,ay TK]
  rfl
theorem wC(ht:∀p∈perms s,∀q∈perms s,F 1 [tp p,tp q]=some (tp (comp p q)))(hb:∀p∈perms s,F 2 [tp p]=some (tp (ip p))){x0 x1:Option (Bool×D)}:∀{l:List (Rg (List Int))}{i:Nat}{t:List Int}{x3 x4:Option (Bool×D)},VL (pg s) l i->t∈perms s->
  ∃o,aO (λx ρ=>(aJ 2 x).bind λys=>(dI ρ [3,4] ys).bind λρ'=>ex F lo1 ρ') (bE i (l.map aw)) (LE x0 x1 t x3 x4)=some o/\(o= .ret (tp (c7 (pg s) l i t))\/∃y3 y4,o= .next (LE x0 x1 (c7 (pg s) l i t) y3 y4))
 |[],i,t,x3,x4,_,_=>⟨_,rfl,.inr ⟨x3,x4,rfl⟩⟩
 |R::l,i,t,x3,x4,hv,hp=>by
  have hi:i<s:=hv.2.1
  have h1:=Fv (x0:=x0) (x1:=x1) (x3:=x3) (x4:=x4) ht hb hi hv.1 hp
  show∃o,aO _ (.tup [.int i,aw R]::bE ((i:Int)+1) (l.map aw)) _=some o/\_
  rw[aO]
  show∃o,(ex F lo1 (LE x0 x1 t (vf (.int i)) (vf (aw R)))).bind _=some o/\_
  rw[h1]
  unfold c7
  cases e:fV R ((pg s).im t i)with
  |none=>exact⟨_,rfl,.inl rfl⟩
  |some u=>
   have hu:u∈perms s:=(hv.1.st _ _ (e_ e)).1
   have:=wC ht hb (x0:=x0) (x1:=x1) (l:=l) (i:=i+1) (t:=comp t (ip u)) (x3:=vf (.int i)) (x4:=vf (aw R)) hv.2.2 (dE hp (fH hu))
   rw[show(((i+1:Nat):Int))=(i:Int)+1 by exact aeY _ _]at this
   exact this
def Fx(ht:∀p∈perms s,∀q∈perms s,F 1 [tp p,tp q]=some (tp (comp p q)))(hb:∀p∈perms s,F 2 [tp p]=some (tp (ip p)))(hv:VL (pg s) l 0)(hp:t∈perms s):
  out (ex F d3.body (ao d3 [.lst (l.map aw),tp t]))=some (tp (c7 (pg s) l 0 t)):=by
 refine aa (wC ht hb (x0:=vf (.lst (l.map aw))) (x1:=vf (tp t)) (x3:=none) (x4:=none) hv hp) λo h1 h2=>?_
 have hf:ex F (.for [3,4] 2 (.xG (.var 0)) lo1) (LE (vf (.lst (l.map aw))) (vf (tp t)) t none none)=some o:=h1
 have hx:ex F d3.body (ao d3 [.lst (l.map aw),tp t])=(ex F (.for [3,4] 2 (.xG (.var 0)) lo1) (LE (vf (.lst (l.map aw))) (vf (tp t)) t none none)).bind λo=>match o with
   | .next ρ'=>ex F (.seq (.ret (.var 2)) .skip) ρ'
   |o=>some o:=rfl
 rw[hx,hf]
 rcases h2 with rfl|⟨y3,y4,rfl⟩
 .rfl
 .rfl
noncomputable def nW(r:List Int)(R:Rg (List Int)):List (List Int):=R.flatMap λe=>[comp r e.2,comp e.2 r]
noncomputable def bt(r:List Int)(l:List (Rg (List Int))):List (List Int):=l.flatMap (nW r)
theorem jz(r:List Int):∀R:Rg (List Int),(nW r R).length =2*R.length
 |[]=>rfl
 |e::R=>by
  show([comp r e.2,comp e.2 r]++nW r R).length =_
  rw[ZQ,jz r R,Z3]
  simp
  exact acP _ _
noncomputable abbrev PE(x0:Option (Bool×D))(r:List Int)(acc:List (List Int))(x3 x4:Option (Bool×D)):Env:=[x0,vf (tp r),some (true,.lst (acc.map tp)),x3,x4]
noncomputable abbrev OX:C:=(.seq (.app 2 (.call 1 (.w 1 (.u 4)))) (.seq (.app 2 (.call 1 (.w 4 (.u 1)))) .skip))
noncomputable abbrev OY:C:=(.seq (.for [4] 0 (.dv 3) OX) .skip)
def m6(h:ev F false e ρ=some d)(hi:ρ[i]?=some (some (true,.lst xs)))(hl:xs.length<bR):ex F (.app i e) ρ=some (.next (put ρ i true (.lst (xs++[d])))):=by
 rw[RP,h]
 show(match ρ[i]? with
  |some (some (true,.lst xs))=>if xs.length<bR then some (lZ.next (put ρ i true (.lst (xs++[d])))) else none
  |_=>none)=_
 rw[hi]
 exact ZM hl
def Fy(ht:∀p∈perms s,∀q∈perms s,F 1 [tp p,tp q]=some (tp (comp p q)))(hr:r∈perms s)(hu:u∈perms s)(hl:acc.length+2<=10000):
  ex F OX (PE x0 r acc x3 (vf (tp u)))=some (.next (PE x0 r (acc++[comp r u,comp u r]) x3 (vf (tp u)))):=by
 have h1:ev F false (.call 1 (.w 1 (.u 4))) (PE x0 r acc x3 (vf (tp u)))=some (tp (comp r u)):=aB (dn rfl rfl) (ht r hr u hu) (aA _)
 have h2:ev F false (.call 1 (.w 4 (.u 1))) (PE x0 r (acc++[comp r u]) x3 (vf (tp u)))=some (tp (comp u r)):=aB (dn rfl rfl) (ht u hu r hr) (aA _)
 have e1:acc.map tp++[tp (comp r u)]=(acc++[comp r u]).map tp:=by rw[aam];rfl
 have e2:(acc++[comp r u]).map tp++[tp (comp u r)]=(acc++[comp r u,comp u r]).map tp:=by rw[aam,aam];simp
 have je:bR=16777216:=rfl
 have s1:ex F (.app 2 (.call 1 (.w 1 (.u 4)))) (PE x0 r acc x3 (vf (tp u)))=some (.next (PE x0 r (acc++[comp r u]) x3 (vf (tp u)))):=by
  rw[m6 h1 (xs:=acc.map tp) rfl (by rw[ZA];exact Zr (Zx hl) (by decide)),e1]
  rfl
 have s2:ex F (.app 2 (.call 1 (.w 4 (.u 1)))) (PE x0 r (acc++[comp r u]) x3 (vf (tp u)))=some (.next (PE x0 r (acc++[comp r u,comp u r]) x3 (vf (tp u)))):=by
  rw[m6 h2 (xs:=(acc++[comp r u]).map tp) rfl (by rw[ZA,ZQ,aah];exact Zr hl (by decide)),e2]
  rfl
 rw[bU,s1]
 show ex F (.seq (.app 2 _) .skip) _=_
 rw[bU,s2]
 rfl
theorem G7(ht:∀p∈perms s,∀q∈perms s,F 1 [tp p,tp q]=some (tp (comp p q)))(hr:r∈perms s):∀{R:Rg (List Int)}{acc:List (List Int)}{x4:Option (Bool×D)},(∀e∈R,e.2∈perms s)->acc.length+2*R.length<=10000->
  ∃y4,aO (λx ρ=>(aJ 0 x).bind λys=>(dI ρ [4] ys).bind λρ'=>ex F OX ρ') (vR R) (PE x0 r acc x3 x4)=some (.next (PE x0 r (acc++nW r R) x3 y4))
 |[],acc,x4,_,_=>⟨x4,by show some (lZ.next _)=_;rw[show nW r []=[] from rfl,aaK]⟩
 |e::R,acc,x4,h,hl=>by
  rw[Z3]at hl
  have hu:=h e ZD
  obtain⟨y4,ih⟩:=G7 ht (x0:=x0) (x3:=x3) hr (R:=R) (acc:=acc++[comp r e.2,comp e.2 r]) (x4:=vf (tp e.2)) (λe' yt=>h e' (Zy _ yt)) (by rw[ZQ];simp;exact K1 (Z8 _ _ _) hl)
  refine⟨y4,?_⟩
  show aO _ (tp e.2::vR R) _=_
  rw[aO]
  show(ex F OX (PE x0 r acc x3 (vf (tp e.2)))).bind _=_
  rw[Fy ht hr hu (pH hl (abq _ _))]
  show aO _ (vR R) _=_
  rw[ih,aai]
  rfl
theorem B3(ht:∀p∈perms s,∀q∈perms s,F 1 [tp p,tp q]=some (tp (comp p q)))(hr:r∈perms s):∀{l:List (Rg (List Int))}{acc:List (List Int)}{x3 x4:Option (Bool×D)},(∀R∈l,∀e∈R,e.2∈perms s)->acc.length+(bt r l).length <=10000->
  ∃y3 y4,aO (λx ρ=>(aJ 0 x).bind λys=>(dI ρ [3] ys).bind λρ'=>ex F OY ρ') (l.map aw) (PE x0 r acc x3 x4)=some (.next (PE x0 r (acc++bt r l) y3 y4))
 |[],acc,x3,x4,_,_=>⟨x3,x4,by show some (lZ.next _)=_;rw[show bt r []=[] from rfl,aaK]⟩
 |R::l,acc,x3,x4,h,hl=>by
  have e0:bt r (R::l)=nW r R++bt r l:=rfl
  rw[e0,ZQ,jz]at hl
  obtain⟨z4,i1⟩:=G7 ht (x0:=x0) (x3:=vf (aw R)) hr (R:=R) (acc:=acc) (x4:=x4) (h R ZD) (qN hl (ZP (ZU _ _) _))
  refine Lw (B3 ht (x0:=x0) hr (l:=l) (acc:=acc++nW r R) (x3:=vf (aw R)) (x4:=z4) (λR' Lp=>h R' (Zy _ Lp)) (by rw[ZQ,jz];exact K1 (aaV _ _ _) hl)) λy3 y4 ih=>⟨y3,y4,?_⟩
  have hb:ex F OY (PE x0 r acc (vf (aw R)) x4)=some (.next (PE x0 r (acc++nW r R) (vf (aw R)) z4)):=by
   have:ex F (.for [4] 0 (.dv 3) OX) (PE x0 r acc (vf (aw R)) x4)=some (.next (PE x0 r (acc++nW r R) (vf (aw R)) z4)):=i1
   rw[bU,this]
   rfl
  rw[Z4,aO]
  show(ex F OY (PE x0 r acc (vf (aw R)) x4)).bind _=_
  rw[hb]
  show aO _ (l.map aw) _=_
  rw[ih,e0,aai]
def Fz(ht:∀p∈perms s,∀q∈perms s,F 1 [tp p,tp q]=some (tp (comp p q)))(hr:r∈perms s)(h:∀R∈l,∀e∈R,e.2∈perms s)(hl:(bt r l).length <=10000):
  out (ex F d4.body (ao d4 [.lst (l.map aw),tp r]))=some (.lst ((bt r l).map tp)):=by
 refine Lw (B3 ht (x0:=vf (.lst (l.map aw))) hr (l:=l) (acc:=[]) (x3:=none) (x4:=none) h (by simpa using hl)) λy3 y4 h1=>?_
 have hf:ex F (.for [3] 0 (.it (.var 0)) OY) (PE (vf (.lst (l.map aw))) r [] none none)=some (.next (PE (vf (.lst (l.map aw))) r (bt r l) y3 y4)):=h1
 have hx:ex F d4.body (ao d4 [.lst (l.map aw),tp r])=(ex F (.for [3] 0 (.it (.var 0)) OY) (PE (vf (.lst (l.map aw))) r [] none none)).bind λo=>match o with
   | .next ρ'=>ex F (.seq (.ret (.var 2)) .skip) ρ'
   |o=>some o:=rfl
 rw[hx,hf]
 rfl
end
end b7
namespace jC
section
variable {α:Type}{Y:Pg α}
theorem lD(hM:kU Y M):∀{l:List (Rg α)}{i:Nat}{t:α},(∀u,St l u->M u)->M t->M (c7 Y l i t)
 |[],_,_,_,h=>h
 |R::l,i,t,hs,h=>by
  unfold c7
  cases e:fV R (Y.im t i)with
  |none=>exact h
  |some u=>exact lD hM (λv ⟨R',hR,q⟩=>hs v ⟨R',Zy _ hR,q⟩) (hM.mul _ _ h (hM.inv _ (hs u ⟨R,ZD,_,e_ e⟩)))
theorem wD:∀{l:List (Rg α)}{k:Nat}{R:Rg α},l[k]?=some R->add l k x=l.set k (R++[x])
 |[],_,_,h=>by simp at h
 |R::l,0,_,h=>by simp at h;subst h;rfl
 |R::l,k+1,R',h=>by
  show R::add l k x=R::l.set k (R'++[x])
  rw[wD (by simpa using h)]
noncomputable def cnt:List (Rg α)->Nat
 |[]=>0
 |R::l=>R.length+cnt l
theorem wF:∀{l:List (Rg α)}{k:Nat}{R:Rg α},l[k]?=some R->cnt (add l k x)=cnt l+1
 |[],_,_,h=>by simp at h
 |R::l,0,_,h=>by
  show(R++[x]).length+cnt l=R.length+cnt l+1
  rw[ZQ,aah];exact Z8 _ _ _
 |R::l,k+1,R',h=>by
  show R.length+cnt (add l k x)=R.length+cnt l+1
  rw[wF (by simpa using h)];exact ach _
def B4{l:List Nat}(nd:l.Nodup)(h:∀k∈l,k<n):l.length<=n:=by
 have:(l.map λk:Nat=>(k:Int)).length <=n:=Py.qF n _ (by
  rw[aaN,abl]
  exact nd.imp λh e=>h (acn e)) λx hx=>by
   refine aa (ZT.mp hx) λk hk ah=>?_
   subst ah
   have:=h k hk
   lia
 rwa [ZA]at this
theorem uP(L:fM Y):∀{l:List (Rg α)}{i:Nat},VL Y l i->cnt l<=l.length*Y.n
 |[],_,_=>by simp[cnt]
 |R::l,i,⟨hv,hi,hl⟩=>by
  have h1:R.length<=Y.n:=by
   have:=B4 hv.nd (n:=Y.n) λp hp=>by
    refine aa (ZT.mp hp) λe he ah=>?_
    subst ah
    refine cy (hv.st e.1 e.2 he) λs1 _ s3=>?_
    rw[<-s3]
    exact L.jx s1 hi
   rwa [ZA]at this
  have:=uP L hl
  show R.length+cnt l<=(l.length+1)*Y.n
  rw[afG]
  lia
end
end jC
namespace b7
open Py jC
section
variable {s:Nat}{F:FT}
theorem j9(r:List Int):∀l:List (Rg (List Int)),(bt r l).length =2*cnt l
 |[]=>rfl
 |R::l=>by
  show(nW r R++bt r l).length =2*(R.length+cnt l)
  rw[ZQ,jz,j9 r l];lia
def yF(h:St l u):comp u r∈bt r l/\comp r u∈bt r l:=by
 obtain⟨R,hR,p,hp⟩:=h
 have h1:∀x,x∈[comp r u,comp u r]->x∈bt r l:=λx hx=>abv.mpr ⟨R,hR,abv.mpr ⟨(p,u),hp,hx⟩⟩
 exact⟨h1 _ (by simp),h1 _ (by simp)⟩
def B5(hM:kU (pg s) M)(hr:M r)(hs:∀u,St l u->M u):∀x∈bt r l,M x:=λx hx=>by
 refine aa (abv.mp hx) λR hR hx=>aa (abv.mp hx) λe he hx=>?_
 have hu:=hs e.2 ⟨R,hR,e.1,he⟩
 rcases ZK.mp hx with z|z
 .rw[z];exact hM.mul _ _ hr hu
 .rw[ZE.mp z];exact hM.mul _ _ hu hr
noncomputable def j_(s:Nat)(r:List Int):List Nat:=(List.range s).filter λk=>decide ((pg s).im r k≠k)
noncomputable abbrev FE(x0:Option (Bool×D))(s:Nat)(W:List (List Int))(x4 x5 x6:Option (Bool×D)):Env:=[x0,vf (.int s),some (true,uh),some (true,.lst (W.map tp)),x4,x5,x6]
noncomputable abbrev Qp:C:=(.cS 5 (.comp [4] 0 (.fj (.u 1)) (.o (.cmp .NotEq (.idx (.var 1) (.var 0)) (.var 0))) (.var 0)))
def fI(n:Nat):bK 0 n=(List.range n).map λ(k:Nat)=>D.int (k:Int):=by
 rw[dS]
 unfold bJ
 rw[aaw]
 rfl
def G8(h6:s<=6)(hr:r∈perms s):ex F Qp (FE x0 s W (vf (tp r)) x5 x6)=some (.next (FE x0 s W (vf (tp r)) (some (true,.lst ((j_ s r).map λ(k:Nat)=>D.int (k:Int)))) x6)):=by
 have hc:ev F false (.comp [4] 0 (.fj (.u 1)) (.o (.cmp .NotEq (.idx (.var 1) (.var 0)) (.var 0))) (.var 0)) (FE x0 s W (vf (tp r)) x5 x6)=some (.lst ((j_ s r).map λ(k:Nat)=>D.int (k:Int))):=by
  have je:bR=16777216:=rfl
  have OO:(cR F false (.u 1) (FE x0 s W (vf (tp r)) x5 x6)).bind cQ=some (bK 0 s):=cn (Zw h6 (by decide))
  rw[mW OO (by rw[gx];exact Zw h6 (by decide))]
  have hw:walk (kA F [4] (.o (.cmp .NotEq (.idx (.var 1) (.var 0)) (.var 0))) (.var 0) (FE x0 s W (vf (tp r)) x5 x6)) (bK 0 s)=some ((bK 0 s).filter λd=>match d with
    | .int k=>decide ((pg s).im r k.toNat≠k.toNat)
    |_=>false):=by
   refine kB _ λx hx=>aa (s_ hx) λk hk ah=>?_
   subst ah
   have hi:ev F true (.idx (.var 1) (.var 0)) [vf (.int k),vf (tp r)]=some (.int ((pg s).im r k:Nat)):=m5 hr hk
   have YI:ev F false (.cmp .NotEq (.idx (.var 1) (.var 0)) (.var 0)) [vf (.int k),vf (tp r)]=some (.bl (decide ((pg s).im r k≠k))):=by
    rw[Ir,hi]
    show some (D.bl (!(((pg s).im r k:Nat):Int)==(k:Int)))=_
    rw[wB,<-decide_not]
   show((jB F true (.o (.cmp .NotEq (.idx (.var 1) (.var 0)) (.var 0))) [vf (.int k),vf (tp r)]).bind λk'=>if k' then some (some (D.int k)) else some none)=_
   rw[xH,YI]
   show((if decide ((pg s).im r k≠k)=true then jB F true .nil _ else some (decide ((pg s).im r k≠k))).bind _)=some (if decide ((pg s).im r (k:Int).toNat ≠(k:Int).toNat)=true then some (D.int k) else none)
   rw[aaT]
   cases decide ((pg s).im r k≠k)<;>rfl
  rw[hw,fI,List.filter_map]
  rfl
 rw[zR,hc]
 rfl
def tq(hk:k<s)(hf:iB (pg s) r k)(hm:(pg s).im r k≠k):∃bx,j_ s r=k::bx:=by
 unfold j_
 obtain⟨m,hs⟩:∃m,s=k+(m+1):=⟨s-k-1,(QM hk)⟩
 have e:List.range s=List.range k++k::(List.range m).map λj=>k+(j+1):=by
  rw[hs,List.range_add,List.range_succ_eq_map,Z4,aaw]
  rfl
 have e1:(List.range k).filter (λj=>decide ((pg s).im r j≠j))=[]:=by
  rw[aeM]
  intro j hj
  have:=hf j (aar.mp hj)
  simp[this]
 rw[e,List.filter_append,e1,adJ,List.filter_cons,ZM (by simp[hm])]
 exact⟨_,rfl⟩
def uQ(hs:0<=s):j_ s (bJ s)=[]:=by
 unfold j_
 rw[aeM]
 intro j hj
 have:(pg s).im (bJ s) j=j:=aK.bI (Y:=pg s) (aar.mp hj)
 simp[this]
end
noncomputable abbrev TM:C:=(.asg 6 (.idx (.var 5) (.ci 0)))
section
variable {s:Nat}{F:FT}
noncomputable abbrev FA(F:FT):List D->Env->List D->Option (List D×Env):=iW F 2 3 4 3 (ex F Qp) 5 (ex F TM) (ev F false (.var 6)) (ev F false (.idx (.var 4) (.var 6))) (ev F false (.var 4)) 4 (ev F false (.var 4))
def FC(h:l[k]?=some R):(l.map aw).set k (.bj 0 (kR R++[[(x.1:Int)]]) (vR R++[tp x.2]))=(add l k x).map aw:=by
 rw[wD h,List.map_set]
 congr 1
 unfold aw kR vR
 rw[aam,aam]
 rfl
def yG(h6:s<=6){l:List (Rg (List Int))}(hl:F 3 [.lst (l.map aw),tp t]=some (tp (bJ s))):
  FA F (l.map aw) (FE x0 s (W++[t]) x4 x5 x6) ((W++[t]).map tp)=some (l.map aw,FE x0 s W (vf (tp (bJ s))) (some (true,.lst [])) x6):=by
 have e1:((W++[t]).map tp).getLast? =some (tp t):=by rw[aam];simp
 have e2:((W++[t]).map tp).dropLast =W.map tp:=by rw[aam];simp
 have hc:=G8 (F:=F) h6 (x0:=x0) (x5:=x5) (x6:=x6) (W:=W) (gw s)
 rw[uQ (aab _)]at hc
 unfold FA iW
 rw[e1,e2]
 show((F 3 [.lst (l.map aw),tp t]).bind _)=_
 rw[hl]
 show(if(aF (tp t)&&aF (tp (bJ s)))=true then(ex F Qp (FE x0 s W (vf (tp (bJ s))) x5 x6)).bind _ else none)=_
 rw[aA,aA,Bool.and_self,ZM rfl,hc]
 rfl
def yH(h6:s<=6)(hl:F 3 [.lst (l.map aw),tp t]=some (tp r))(hr:r∈perms s)(hk:k<s)(hR:l[k]?=some R)(hf:iB (pg s) r k)(hm:(pg s).im r k≠k)(hn:(pg s).im r k∉R.map (·.1))(YJ:R.length<=6)
  (hg:F 4 [.lst ((add l k ((pg s).im r k,r)).map aw),tp r]=some (.lst ((bt r (add l k ((pg s).im r k,r))).map tp))) (hW:W.length+(bt r (add l k ((pg s).im r k,r))).length <=10000):
  ∃y4 y5 y6,FA F (l.map aw) (FE x0 s (W++[t]) x4 x5 x6) ((W++[t]).map tp)=some ((add l k ((pg s).im r k,r)).map aw,FE x0 s (W++bt r (add l k ((pg s).im r k,r))) y4 y5 y6):=by
 have e1:((W++[t]).map tp).getLast? =some (tp t):=by rw[aam];simp
 have e2:((W++[t]).map tp).dropLast =W.map tp:=by rw[aam];simp
 have hc:=G8 (F:=F) h6 (x0:=x0) (x5:=x5) (x6:=x6) (W:=W) hr
 obtain⟨bx,Tt⟩:=tq hk hf hm
 rw[Tt]at hc
 have je:bR=16777216:=rfl
 have Qr:k<l.length:=(ZL.mp hR).1
 have JS:gR (l.map aw) k [((pg s).im r k:Int)] (tp r)=some ((add l k ((pg s).im r k,r)).map aw):=by
  unfold gR
  rw[ZJ,hR]
  show(if(kR R).length<bR/\[((pg s).im r k:Int)]∉kR R then some ((l.map aw).set k (.bj 0 (kR R++[[((pg s).im r k:Int)]]) (vR R++[tp r]))) else none)=_
  have YK:[((pg s).im r k:Int)]∉kR R:=λz=>by
   refine aa (ZT.mp z) λe he hq=>?_
   have:e.1=(pg s).im r k:=by injection hq with hq _;exact acn hq
   exact hn (ZT.mpr ⟨e,he,this⟩)
  rw[ZM ⟨by rw[ZA];exact ZH YJ (by decide),YK⟩]
  exact congrArg some (FC (x:=((pg s).im r k,r)) hR)
 have iJ:bT (l.map aw).length (k:Int)=some k:=by
  unfold bT
  rw[ZA,ZM (ZX _),ZM (by lia)]
  rfl
 have TN:∀V1,ev F false (.idx (.var 4) (.var 6)) (FE x0 s W (vf (tp r)) V1 (vf (.int k)))=some (.int ((pg s).im r k:Nat)):=λV1=>m5 hr hk
 have YL:ex F TM (FE x0 s W (vf (tp r)) (some (true,.lst ((k::bx).map λ(k:Nat)=>D.int (k:Int)))) x6)=some (.next (FE x0 s W (vf (tp r)) (some (true,.lst ((k::bx).map λ(k:Nat)=>D.int (k:Int)))) (vf (.int k)))):=by
  have hi:ev F false (.idx (.var 5) (.ci 0)) (FE x0 s W (vf (tp r)) (some (true,.lst ((k::bx).map λ(k:Nat)=>D.int (k:Int)))) x6)=some (.int k):=by
   show((bT ((k::bx).map λ(k:Nat)=>D.int (k:Int)).length 0).bind λj=>((k::bx).map λ(k:Nat)=>D.int (k:Int))[j]?)=_
   unfold bT
   rw[ZM (by decide),ZM (by rw[ZA,Z3];exact abS (ZX _) (adK _))]
   rfl
  rw[ay hi]
  rfl
 refine⟨some (false,tp r),some (true,.lst ((k::bx).map λ(k:Nat)=>D.int (k:Int))),vf (.int k),?_⟩
 unfold FA iW
 rw[e1,e2]
 show((F 3 [.lst (l.map aw),tp t]).bind _)=_
 rw[hl]
 show(if(aF (tp t)&&aF (tp r))=true then(ex F Qp (FE x0 s W (vf (tp r)) x5 x6)).bind _ else none)=_
 rw[aA,aA,Bool.and_self,ZM rfl,hc]
 show((ex F TM (FE x0 s W (vf (tp r)) (some (true,.lst ((k::bx).map λ(k:Nat)=>D.int (k:Int)))) x6)).bind _)=_
 rw[YL]
 show(if aF (tp r)=true then _ else none)=_
 rw[aA,ZM rfl]
 show((bT (l.map aw).length (k:Int)).bind _)=_
 rw[iJ]
 show(((ev F false (.idx (.var 4) (.var 6)) (FE x0 s W (vf (tp r)) (some (true,.lst ((k::bx).map λ(k:Nat)=>D.int (k:Int)))) (vf (.int k)))).bind (cv 0)).bind _)=_
 rw[TN]
 show((gR (l.map aw) k [((pg s).im r k:Int)] (tp r)).bind _)=_
 rw[JS]
 show(if aF (tp r)=true then(F 4 [.lst ((add l k ((pg s).im r k,r)).map aw),tp r]).bind _ else none)=_
 rw[aA,ZM rfl,hg]
 have nl:aW ((bt r (add l k ((pg s).im r k,r))).map tp)=true:=by
  have:∀ps:List (List Int),aW (ps.map tp)=true:=λps=>by
   induction ps with
   |nil=>rfl
   |cons p ps ih=>show(aF (tp p)&&aW (ps.map tp))=true;rw[aA,ih];rfl
  exact this _
 show(if aW ((bt r (add l k ((pg s).im r k,r))).map tp)=true then(if(W.map tp).length+((bt r (add l k ((pg s).im r k,r))).map tp).length <=bR then _ else none) else none)=_
 rw[nl,ZM rfl,ZM (by rw[ZA,ZA];exact Zw hW (by decide)),<-aam]
 rfl
theorem VL.at:∀{l:List (Rg (List Int))}{i k:Nat}{R:Rg (List Int)},VL Y l i->l[k]?=some R->V Y (i+k) R
 |[],_,_,_,_,h=>by simp at h
 |R::l,i,0,_,hv,h=>by simp at h;subst h;exact hv.1
 |R::l,i,k+1,R',hv,h=>by
  have:=VL.at hv.2.2 (k:=k) (R:=R') (by simpa using h)
  rwa [show i+1+k=i+(k+1) by exact Z8 _ _ _]at this
def m7(hi:i<s)(hv:V (pg s) i R):R.length<=s:=by
 have:=B4 hv.nd (n:=s) λp hp=>by
  refine aa (ZT.mp hp) λe he ah=>?_
  subst ah
  refine cy (hv.st e.1 e.2 he) λs1 _ s3=>?_
  rw[<-s3]
  exact aK.jx (Y:=pg s) s1 hi
 rwa [ZA]at this
def FD(hv:VL (pg s) l i):∀R∈l,∀e∈R,e.2∈perms s:=λR hR e he=>(St.good aK hv ⟨R,hR,e.1,he⟩).1
theorem iz(h6:s<=6)(hG:∀u,G u->u∈perms s)(m8:∀l t,VL (pg s) l 0->t∈perms s->F 3 [.lst (l.map aw),tp t]=some (tp (c7 (pg s) l 0 t)))
  (m9:∀l r,VL (pg s) l 0->r∈perms s->F 4 [.lst (l.map aw),tp r]=some (.lst ((bt r l).map tp))):∀(n:Nat) (l:List (Rg (List Int))) (W:List (List Int)) (x4 x5 x6:Option (Bool×D)),Fd (pg s) G l W->(36-cnt l)*100+W.length<n->(36-cnt l)*100+W.length<=5000->
  ∃l',fZ (FA F) 3 n (l.map aw) (FE x0 s W x4 x5 x6)=some (l'.map aw)/\Fd (pg s) G l' []
 |0,_,_,_,_,_,_,h,_=>absurd h (aaZ _)
 |n+1,l,W,x4,x5,x6,hd,hn,hm=>by
  have hY:=mY h6 hG
  have ss:s*s<=36:=Nat.mul_le_mul h6 h6
  have cl:∀{l':List (Rg (List Int))},VL (pg s) l' 0->cnt l'<=36:=λ{l'} hv=>by
   have h1:=uP aK hv
   have h2:=VL.len hv
   have h3:l'.length=s:=by rw[aaE]at h2;exact h2
   rw[h3]at h1
   exact Zw h1 ss
  rw[fZ]
  show∃l':List (Rg (List Int)),(if(W.map tp).isEmpty =true then some (l.map aw) else(FA F (l.map aw) (FE x0 s W x4 x5 x6) (W.map tp)).bind λz=>fZ (FA F) 3 n z.1 z.2)=some (l'.map aw)/\_
  rcases aeZ W with rfl|⟨W0,t,rfl⟩
  .exact⟨l,rfl,hd⟩
  .rw[afa]at hd hn hm⊢
   have fy:((W0++[t]).map tp).isEmpty =false:=by rw[aam];simp
   rw[fy,ZW Zz]
   rw[ZQ,aah]at hn hm
   have ht:Gen (pg s) G t:=hd.wg t (ZV _ (ZE.mpr rfl))
   have V2:t∈perms s:=Gen.S aK hG ht
   have hl:=m8 l t hd.v V2
   rcases pC aK hd.v V2 (λk hk=>absurd hk (aaZ _))with⟨e1,e2⟩|⟨k,R,a1,a2,a3,a4,a5,a6,a7,a8⟩
   .rw[e1]at hl
    rw[yG h6 hl]
    exact iz h6 hG m8 m9 n l W0 _ _ _ (hd.none e2) (aan hn) (Zx hm)
   .rw[aaE]at a2 a4 a5 a6 a7 a8
    have hk:k<s:=a2
    have hV:=VL.at hd.v a1
    rw[aaE]at hV
    have KI:=m7 hk hV
    have hg:=m9 _ _ a8 a3
    have kY:=cl a8
    have Zl:=wF (x:=((pg s).im (c7 (pg s) l 0 t) k,c7 (pg s) l 0 t)) a1
    have iJ:=j9 (c7 (pg s) l 0 t) (add l k ((pg s).im (c7 (pg s) l 0 t) k,c7 (pg s) l 0 t))
    refine QB (yH h6 hl a3 hk a1 a4 a6 a5 (Zw KI h6) hg (x0:=x0) (x4:=x4) (x5:=x5) (x6:=x6) (W:=W0) (by lia)) λy4 y5 y6 hT=>?_
    rw[hT]
    refine iz h6 hG m8 m9 n _ _ _ _ _ (hd.more aK a8 a7 (lD hY hd.g ht) (B5 hY (lD hY hd.g ht) λu hu=>?_) λu hu=>yF hu) ?_ ?_
    .rcases hu.add with z|z
     .exact hd.g u z
     .rw[z];exact lD hY hd.g ht
    .rw[ZQ];lia
    .rw[ZQ];lia
noncomputable def wG(s:Nat):List (Rg (List Int)):=(List.range s).map λi=>[(i,bJ s)]
theorem VL.wG:∀(m i:Nat),i+m=s->VL (pg s) ((List.range' i m).map λi=>[(i,bJ s)]) i
 |0,i,h=>by show i=s;exact h
 |m+1,i,h=>by
  rw[ady,Z4]
  have hi:i<s:=(UE (ZF h) (ZU _ _))
  refine⟨⟨λp u hu=>?_,ZE.mpr rfl,by simp⟩,hi,VL.wG m (i+1) (afb (Z8 _ _ _) h)⟩
  rw[ZE]at hu
  cases hu
  exact⟨gw s,λk hk=>aK.bI (Y:=pg s) (show k<s by exact nu h (acq _ hk)),aK.bI (Y:=pg s) hi⟩
def B6(nD:∀p∈ps,p∈perms s):Fd (pg s) (· ∈ps) (wG s) ps:=by
 have pM:∀u,St (wG s) u->u=bJ s:=λu zz=>by
  obtain⟨R,hR,p,hp⟩:=zz
  refine aa (ZT.mp hR) λi _ ah=>?_
  subst ah
  rw[ZE]at hp
  exact(afu hp).2
 have hv:VL (pg s) (wG s) 0:=by
  have:=VL.wG (s:=s) s 0 (aaE _)
  unfold b7.wG
  rw[adD]
  exact this
 refine⟨hv,λu hu=>by rw[pM u hu];exact .one,λt ht=>Gen.of aK (nD t ht) ht,λt ht=> .inl ht,λu v hu CL=> .inr ?_⟩
 rw[pM u hu,pM v CL]
 show H (pg s) (wG s) (comp (bJ s) (bJ s))
 rw[ju (gw s)]
 exact H.one aK hv
def B7(h6:s<=6){ps:List (List Int)}(nD:∀p∈ps,p∈perms s)(aV:ps.length<=720)(pM:F 0 [.int s]=some (tp (bJ s)))(m8:∀l t,VL (pg s) l 0->t∈perms s->F 3 [.lst (l.map aw),tp t]=some (tp (c7 (pg s) l 0 t)))
  (m9:∀l r,VL (pg s) l 0->r∈perms s->F 4 [.lst (l.map aw),tp r]=some (.lst ((bt r l).map tp))):
  ∃l,out (ex F d5.body (ao d5 [.tup (ps.map tp),.int s]))=some (.lst (l.map aw))/\Fd (pg s) (· ∈ps) l []:=by
 have je:bR=16777216:=rfl
 obtain⟨l,h1,h2⟩:=iz h6 nD m8 m9 (x0:=vf (.tup (ps.map tp))) gZ (wG s) ps none none none (B6 nD) (by
  have:gZ=1000000:=rfl
  rw[this]
  have:(36-cnt (wG s))*100<=3600:=by lia
  lia) (by
  have:(36-cnt (wG s))*100<=3600:=by lia
  lia)
 refine⟨l,?_,h2⟩
 have hr:k7 F true (.fj (.u 1)) (ao d5 [.tup (ps.map tp),.int s])=some (bK 0 s):=cn (by lia)
 have hw:walk (rn (ev F false (.var 0)) (ev F false (.call 0 (.u 1))) [1] (ao d5 [.tup (ps.map tp),.int s])) (bK 0 s)=some ((wG s).map aw):=by
  rw[fI]
  unfold wG
  rw[aaw]
  refine cM (λk:Nat=>D.int (k:Int)) _ _ _ λk hk=>?_
  have hc:ev F false (.call 0 (.u 1)) [vf (.int k),vf (.int s)]=some (tp (bJ s)):=aB (jw rfl) pM (aA _)
  show((ev F false (.call 0 (.u 1)) [vf (.int k),vf (.int s)]).bind λd=>if aF d then some (some (D.bj 0 [[(k:Int)]] [d])) else none)=_
  rw[hc]
  show(if aF (tp (bJ s))=true then _ else none)=_
  rw[aA,ZM rfl]
  rfl
 have hx:ex F d5.body (ao d5 [.tup (ps.map tp),.int s])=(k7 F true (.fj (.u 1)) (ao d5 [.tup (ps.map tp),.int s])).bind λxs=>if xs.length<=bR/\2≠3/\2<(ao d5 [.tup (ps.map tp),.int s]).length /\rm (ao d5 [.tup (ps.map tp),.int s])=true then
   (walk (rn (ev F false (.var 0)) (ev F false (.call 0 (.u 1))) [1] (ao d5 [.tup (ps.map tp),.int s])) xs).bind λS=>(fZ (FA F) 3 gZ S (FE (vf (.tup (ps.map tp))) s ps none none none)).map λS=> .ret (.lst S) else none:=rfl
 rw[hx,hr]
 show out (if _ then _ else none)=_
 rw[ZM ⟨by rw[gx];lia,by decide,(by decide:2<7),rfl⟩,hw]
 show out ((fZ (FA F) 3 gZ ((wG s).map aw) (FE (vf (.tup (ps.map tp))) s ps none none none)).map λS=> .ret (.lst S))=_
 rw[h1]
 rfl
end
end b7
namespace Py
theorem pD:∀(r:List Int) (a:Int),gQ a r∈a::r/\∀x∈a::r,gQ a r<=x
 |[],a=>⟨ZE.mpr rfl,λx hx=>by rw[ZE.mp hx];exact adK _⟩
 |b::r,a=>by
  rw[gQ]
  obtain⟨h1,h2⟩:=pD r (if b<a then b else a)
  have h0:=h2 _ ZD
  have kN:(if b<a then b else a)<=a/\(if b<a then b else a)<=b:=by split<;>lia
  refine⟨?_,λx hx=>?_⟩
  .rcases ZK.mp h1 with z|z
   .rw[z]
    split
    .exact Zy _ ZD
    .exact ZD
   .exact Zy _ (Zy _ z)
  .rcases ZK.mp hx with z|hx
   .rw[z];exact acS h0 kN.1
   .rcases ZK.mp hx with z|hx
    .rw[z];exact acS h0 kN.2
    .exact h2 x (Zy _ hx)
end Py
namespace b7
open Py jC
section
variable {s:Nat}{F:FT}
noncomputable abbrev OZ:C:=(.seq (.asg 5 (.prim .min (.o (.comp [3] 0 (.dk 4) .nil (.idx (.var 1) (.var 0)))))) (.seq (.asg 3 (.call 1 (.cons (.fq 4 (.cK .index (.var 3) (.u 5))) (.u 3)))) .skip))
noncomputable abbrev TE(x0 x1 x2:Option (Bool×D))(u:List Int)(x4 x5:Option (Bool×D)):Env:=[x0,x1,x2,vf (tp u),x4,x5]
def FF(h6:s<=6)(ht:∀p∈perms s,∀q∈perms s,F 1 [tp p,tp q]=some (tp (comp p q)))(hi:i<s)(hv:V (pg s) i R)(hu:u∈perms s):
  ∃e∈R,(∀q,q∈R.map (·.1)->(pg s).im u e.1<=(pg s).im u q)/\∃y5,ex F OZ (TE x0 x1 x2 u (vf (aw R)) x5)=some (.next (TE x0 x1 x2 (comp e.2 u) (vf (aw R)) y5)):=by
 have je:bR=16777216:=rfl
 have kb:∀e∈R,e.1<s:=λe he=>by
  refine cy (hv.st e.1 e.2 he) λs1 _ s3=>?_
  rw[<-s3];exact aK.jx (Y:=pg s) s1 hi
 have KI:=m7 hi hv
 have hc:ev F true (.comp [3] 0 (.dk 4) .nil (.idx (.var 1) (.var 0))) (TE x0 x1 x2 u (vf (aw R)) x5)=some (.lst ((R.map λe=>(((pg s).im u e.1:Nat):Int)).map .int)):=by
  have hk:k7 F true (.dk 4) (TE x0 x1 x2 u (vf (aw R)) x5)=some (R.map λe=>D.int (e.1:Int)):=by
   show some ((kR R).map λk=>D.int (k.headD 0))=_
   rw[aaw]
   rfl
  have hw:walk (kA F [3] .nil (.idx (.var 1) (.var 0)) (TE x0 x1 x2 u (vf (aw R)) x5)) (R.map λe=>D.int (e.1:Int))=some (R.map λe=>D.int (((pg s).im u e.1:Nat):Int)):=
   cM (λe:Nat×List Int=>D.int (e.1:Int)) _ _ _ λe he=>by
    have TN:ev F false (.idx (.var 1) (.var 0)) [vf (.int e.1),vf (tp u)]=some (.int ((pg s).im u e.1:Nat)):=m5 hu (kb e he)
    show(ev F false (.idx (.var 1) (.var 0)) [vf (.int e.1),vf (tp u)]).map some=_
    rw[TN]
    rfl
  have he:ev F true (.comp [3] 0 (.dk 4) .nil (.idx (.var 1) (.var 0))) (TE x0 x1 x2 u (vf (aw R)) x5)=(k7 F true (.dk 4) (TE x0 x1 x2 u (vf (aw R)) x5)).bind λxs=>if xs.length<=bR then(walk (kA F [3] .nil (.idx (.var 1) (.var 0)) (TE x0 x1 x2 u (vf (aw R)) x5)) xs).map .lst else none:=rfl
  rw[he,hk]
  show(if(R.map λe=>D.int (e.1:Int)).length <=bR then _ else none)=_
  rw[ZM (by rw[ZA];exact Zw KI (Zw h6 (by decide))),hw,aaw]
  rfl
 obtain⟨e0,R0,hR⟩:∃e0 R0,R=e0::R0:=by
  cases R with
  |nil=>exact absurd hv.one (by simp)
  |cons e R=>exact⟨e,R,rfl⟩
 obtain⟨m1,m2⟩:=pD (R0.map λe=>(((pg s).im u e.1:Nat):Int)) (((pg s).im u e0.1:Nat):Int)
 have O0:R.map (λe=>(((pg s).im u e.1:Nat):Int))=(((pg s).im u e0.1:Nat):Int)::R0.map λe=>(((pg s).im u e.1:Nat):Int):=by rw[hR];rfl
 generalize YM:gQ (((pg s).im u e0.1:Nat):Int) (R0.map λe=>(((pg s).im u e.1:Nat):Int))=mn at m1 m2
 rw[<-O0]at m1 m2
 refine aa (ZT.mp m1) λe he YN=>⟨e,he,λq hq=>?_,vf (.int mn),?_⟩
 .refine aa (ZT.mp hq) λe' yt ah=>?_
  subst ah
  have:=m2 _ (ZT.mpr ⟨e',yt,rfl⟩)
  lia
 .have Kx:ev F false (.prim .min (.o (.comp [3] 0 (.dk 4) .nil (.idx (.var 1) (.var 0))))) (TE x0 x1 x2 u (vf (aw R)) x5)=some (.int mn):=by
   rw[Ds,jw hc]
   show(aP ((R.map λe=>(((pg s).im u e.1:Nat):Int)).map .int)).bind (λns=>match ns with|[]=>none|a::r=>some (D.int (gQ a r)))=_
   rw[dF,O0]
   show some (D.int (gQ _ _))=_
   rw[YM]
  have uO:ev F false (.cK .index (.var 3) (.u 5)) (TE x0 x1 x2 u (vf (aw R)) (vf (.int mn)))=some (.int (e.1:Nat)):=by
   have YO:u[e.1]?=some mn:=by
    have bg:e.1<u.length:=by rw[aQ hu];exact kb e he
    rw[Zt bg]
    have h1:=wy hu (kb e he)
    rw[ZR,Zt bg]at h1
    have h2:u[e.1]=(((pg s).im u e.1:Nat):Int):=h1
    rw[h2,YN]
   show(aP (u.map .int)).bind (λns=>(cw mn ns).map λ(i:Nat)=>D.int (i:Int))=_
   rw[dF]
   show(cw mn u).map (λ(i:Nat)=>D.int (i:Int))=_
   rw[qH (aD.mp hu).2.1 YO]
   rfl
  have B1:ev F true (.fq 4 (.cK .index (.var 3) (.u 5))) (TE x0 x1 x2 u (vf (aw R)) (vf (.int mn)))=some (tp e.2):=by
   rw[ME,uO]
   show find (kR R) (vR R) [(e.1:Int)]=_
   rw[gM,wx hv.nd (show(e.1,e.2)∈R from he)]
   rfl
  have TK:ev F false (.call 1 (.cons (.fq 4 (.cK .index (.var 3) (.u 5))) (.u 3))) (TE x0 x1 x2 u (vf (aw R)) (vf (.int mn)))=some (tp (comp e.2 u)):=aB (dn B1 rfl) (ht _ (hv.st _ _ (show(e.1,e.2)∈R from he)).1 u hu) (aA _)
  rw[bU,ay Kx]
  show ex F (.seq (.asg 3 _) .skip) (TE x0 x1 x2 u (vf (aw R)) (vf (.int mn)))=_
  rw[bU,ay TK]
  rfl
theorem wH(h6:s<=6)(ht:∀p∈perms s,∀q∈perms s,F 1 [tp p,tp q]=some (tp (comp p q))):∀{l:List (Rg (List Int))}{i:Nat}{u:List Int}{x4 x5:Option (Bool×D)},VL (pg s) l i->u∈perms s->
  ∃x y4 y5,aO (λx ρ=>(aJ 0 x).bind λys=>(dI ρ [4] ys).bind λρ'=>ex F OZ ρ') (l.map aw) (TE x0 x1 x2 u x4 x5)=some (.next (TE x0 x1 x2 x y4 y5))/\LM (pg s) l u x
 |[],_,u,x4,x5,_,_=>⟨u,x4,x5,rfl,.nil⟩
 |R::l,i,u,x4,x5,hv,hu=>by
  refine au λnO=>?_
  obtain⟨e,he,hm,z5,h1⟩:=FF (x0:=x0) (x1:=x1) (x2:=x2) (x5:=x5) h6 ht hv.2.1 hv.1 hu
  have hs:=(hv.1.st e.1 e.2 he).1
  refine kW (wH h6 ht (x0:=x0) (x1:=x1) (x2:=x2) (l:=l) (i:=i+1) (u:=comp e.2 u) (x4:=vf (aw R)) (x5:=z5) hv.2.2 (dE hs hu)) λx y4 y5 h2 h3=>nO ?_
  refine⟨x,y4,y5,?_,.cons (p:=e.1) (v:=e.2) he hm h3⟩
  rw[Z4,aO]
  show(ex F OZ (TE x0 x1 x2 u (vf (aw R)) x5)).bind _=_
  rw[h1]
  exact h2
theorem VL.drop:∀{l:List (Rg (List Int))}{i:Nat} (k:Nat),VL Y l i->k<=l.length->VL Y (l.drop k) (i+k)
 |l,i,0,h,_=>h
 |[],i,k+1,h,hk=>absurd hk (by simp)
 |R::l,i,k+1,h,hk=>by
  have:=VL.drop k h.2.2 (by simpa using hk)
  rwa [show i+1+k=i+(k+1) by exact Z8 _ _ _]at this
noncomputable abbrev oT:E:= .it (.sl (.var 0) (.o (.bin .Add (.var 1) (.ci 1))) .nil)
def B8(h6:s<=6)(ht:∀p∈perms s,∀q∈perms s,F 1 [tp p,tp q]=some (tp (comp p q)))(hv:VL (pg s) l 0)(hk:k<s)(hu:u∈perms s):
  ∃x,out (ex F d6.body (ao d6 [.lst (l.map aw),.int k,tp u]))=some (tp x)/\LM (pg s) (l.drop (k+1)) u x:=by
 have hl:l.length=s:=by have:=VL.len hv;rw[aaE]at this;exact this
 refine kW (wH h6 ht (x0:=vf (.lst (l.map aw))) (x1:=vf (.int k)) (x2:=vf (tp u)) (l:=l.drop (k+1)) (u:=u) (x4:=none) (x5:=none) (VL.drop (k+1) hv (Zr hk (ZF (aaa hl)))) hu) λx y4 y5 h1 h2=>⟨x,?_,h2⟩
 have Pz:k7 F false oT (TE (vf (.lst (l.map aw))) (vf (.int k)) (vf (tp u)) u none none)=some ((l.drop (k+1)).map aw):=by
  show seq (.lst (zN (l.map aw) (some ((k:Int)+1)) none))=_
  rw[show(k:Int)+1=((k+1:Nat):Int) by exact aeY _ _,sS _ _ (by rw[ZA];exact Zr hk (ZF (aaa hl))),<-List.map_drop]
  rfl
 have hf:ex F (.for [4] 0 oT OZ) (TE (vf (.lst (l.map aw))) (vf (.int k)) (vf (tp u)) u none none)=some (.next (TE (vf (.lst (l.map aw))) (vf (.int k)) (vf (tp u)) x y4 y5)):=by
  show(k7 F false oT (TE (vf (.lst (l.map aw))) (vf (.int k)) (vf (tp u)) u none none)).bind _=_
  rw[Pz]
  exact h1
 have hx:ex F d6.body (ao d6 [.lst (l.map aw),.int k,tp u])=(ex F (.for [4] 0 oT OZ) (TE (vf (.lst (l.map aw))) (vf (.int k)) (vf (tp u)) u none none)).bind λo=>match o with
   | .next ρ'=>ex F (.seq (.ret (.var 3)) .skip) ρ'
   |o=>some o:=rfl
 rw[hx,hf]
 rfl
end
noncomputable def pairD(e:Nat×List Int):D:= .tup [.int (e.1:Int),tp e.2]
noncomputable def aL(R:Rg (List Int)):D:= .tup (R.map pairD)
noncomputable def bA(l:List (Rg (List Int))):D:= .tup (l.map aL)
section
variable {s:Nat}{F:FT}
noncomputable def ka(R:Rg (List Int)):List Nat:=(sortI (R.map λe=>(e.1:Int))).map Int.toNat
def m_(R:Rg (List Int)):sortI (R.map λe=>(e.1:Int))=(ka R).map λ(k:Nat)=>(k:Int):=by
 unfold ka
 rw[aaw]
 have:∀x∈sortI (R.map λe=>(e.1:Int)),((λ(k:Nat)=>(k:Int))∘Int.toNat) x=x:=λx hx=>by
  refine aa (ZT.mp ((sortI_perm _).mem_iff.mp hx)) λe _ ah=>?_
  subst ah
  show((e.1:Int).toNat :Int)=_
  exact abH (ZX _)
 rw[acO this,List.map_id']
def qK:k∈ka R↔k∈R.map (·.1):=by
 unfold ka
 constructor
 .intro h
  refine aa (ZT.mp h) λx hx ah=>?_
  subst ah
  refine aa (ZT.mp ((sortI_perm _).mem_iff.mp hx)) λe he aM=>?_
  subst aM
  exact ZT.mpr ⟨e,he,by simp⟩
 .intro h
  refine aa (ZT.mp h) λe he cO=>?_
  subst cO
  exact ZT.mpr ⟨(e.1:Int),(sortI_perm _).mem_iff.mpr (ZT.mpr ⟨e,he,rfl⟩),by simp⟩
def KJ(nd:(R.map (·.1)).Nodup):(ka R).Pairwise (· < ·):=by
 have h1:=mG (R.map λe=>(e.1:Int))
 have h2:(sortI (R.map λe=>(e.1:Int))).Nodup :=by
  rw[(sortI_perm _).nodup_iff]
  rw[aaN,abl]at nd⊢
  exact nd.imp λh e=>h (acn e)
 rw[m_,abl]at h1
 rw[m_,aaN,abl]at h2
 exact(h1.and h2).imp λh=>by lia
theorem Hm.drop:∀{l:List (Rg (List Int))}{i:Nat} (k:Nat),Hm (pg s) M l i->k<=l.length->Hm (pg s) M (l.drop k) (i+k)
 |l,i,0,h,_=>h
 |[],i,k+1,h,hk=>absurd hk (by simp)
 |R::l,i,k+1,h,hk=>by
  have:=Hm.drop k (h.tail aK) (by simpa using hk)
  rwa [show i+1+k=i+(k+1) by exact Z8 _ _ _]at this
noncomputable abbrev oR:E:= .call 6 (.w 1 (.w 2 (.o (.fq 3 (.var 0)))))
noncomputable abbrev oS:E:= .tup (.w 0 (.o oR))
def FG(h6:s<=6)(hM:kU (pg s) M)(hl:Hm (pg s) M l 0)(hk:k<s)
  (KL:∀u∈perms s,∃x,F 6 [.lst (l.map aw),.int k,tp u]=some (tp x)/\LM (pg s) (l.drop (k+1)) u x):
  out (ex F d7.body (ao d7 [.lst (l.map aw),.int k]))=some (aL (et (pg s) M k)):=by
 have je:bR=16777216:=rfl
 have aV:l.length=s:=by have:=VL.len hl.1;rw[aaE]at this;exact this
 have Qr:k<l.length:=(Zr hk (ZF (aaa aV)))
 obtain⟨R,hR⟩:∃R,l[k]?=some R:=⟨l[k],Zt Qr⟩
 have YQ:l.drop k=R::l.drop (k+1):=by
  rw[aaG Qr]
  rw[Zt Qr]at hR
  cases hR
  rfl
 have hm:=Hm.drop k hl (Zw (Zx hk) (ZF (aaa aV)))
 rw[aaE,YQ]at hm
 have hV:=hm.1.1
 have KI:=m7 hk hV
 have best:∀p u,(p,u)∈R->∃x,F 6 [.lst (l.map aw),.int k,tp u]=some (tp x)/\gU (pg s) M k p x:=λp u hu=>by
  exact aa (KL u (hV.st p u hu).1) λx h1 h2=>⟨x,h1,hm.best aK hM hu h2⟩
 have pM:item (.lst (l.map aw)) (.int k)=some (aw R):=by
  show((bT (l.map aw).length (k:Int)).bind λj=>(l.map aw)[j]?)=_
  unfold bT
  rw[ZA,ZM (ZX _),ZM (by lia)]
  show(l.map aw)[k]?=_
  rw[ZJ,hR]
  rfl
 let oq:Env:=[vf (.lst (l.map aw)),vf (.int k),vf (aw R)]
 have Aq:ev F true (.ed 2) oq=some (.lst ((ka R).map λ(k:Nat)=>D.int (k:Int))):=by
  show(if(kR R).length<64 then some (D.lst ((sortI ((kR R).map λk=>k.headD 0)).map .int)) else none)=_
  rw[ZM (by rw[ZA];exact ZH KI (ZH h6 (by decide))),aaw]
  show some (D.lst ((sortI (R.map λe=>(e.1:Int))).map .int))=_
  rw[m_,aaw]
  rfl
 have hw:walk (kA F [0,1,2] .nil oS oq) ((ka R).map λ(k:Nat)=>D.int (k:Int))=some ((ka R).map λp=>pairD (p,eE (pg s) M k p)):=
  cM (λk:Nat=>D.int (k:Int)) _ _ _ λp hp=>by
   refine aa (ZT.mp (qK.mp hp)) λe he TQ=>?_
   have yt:(p,e.2)∈R:=by rw[<-TQ];exact he
   refine aa (best p e.2 yt) λx tQ GI=>?_
   let nC:Env:=[vf (.int p),vf (.lst (l.map aw)),vf (.int k),vf (aw R)]
   have B1:ev F true (.fq 3 (.var 0)) nC=some (tp e.2):=by
    show find (kR R) (vR R) [(p:Int)]=_
    rw[gM,wx hV.nd yt]
    rfl
   have hc:ev F false oR nC=some (tp x):=aB (TF rfl rfl B1) tQ (aA _)
   have xO:ev F false oS nC=some (.tup [.int p,tp x]):=by
    have:=dn (b:=false) (F:=F) (ρ:=nC) (a:= .var 0) (x:= .int p) rfl hc
    rw[RK,this]
    rfl
   show(ev F false oS nC).map some=_
   rw[xO,gL GI]
   rfl
 have B9:ev F true (.comp [0,1,2] 0 (.it (.ed 2)) .nil oS) oq=some (.lst ((ka R).map λp=>pairD (p,eE (pg s) M k p))):=by
  rw[wt Aq rfl (by
   rw[ZA]
   have:(ka R).length =R.length:=by unfold ka;rw[ZA,(sortI_perm _).length_eq,ZA]
   lia),hw]
  rfl
 have Kz:(ka R).map (λp=>(p,eE (pg s) M k p))=et (pg s) M k:=by
  refine BV aK hk hM.s (λp x hx=>?_) (λt ht hf=>?_) ?_
  .refine aa (ZT.mp hx) λq hq e=>?_
   rw[<-(afu e).1,<-(afu e).2]
   refine aa (ZT.mp (qK.mp hq)) λe he TQ=>aa (best q e.2 (by rw[<-TQ];exact he)) λy _ hy=>?_
   rw[gL hy]
   exact hy
  .exact bu (hm.split aK ht hf) λu w hu _ _=>⟨_,ZT.mpr ⟨_,qK.mpr (ZT.mpr ⟨_,hu,rfl⟩),rfl⟩⟩
  .rw[aaw]
   have:((λx:Nat×List Int=>x.1) ∘ λp=>(p,eE (pg s) M k p))=id:=rfl
   rw[this,aft]
   exact KJ hV.nd
 have ha:ex F (.asg 2 (.idx (.var 0) (.var 1))) (ao d7 [.lst (l.map aw),.int k])=some (.next oq):=ay (F:=F) pM
 have hx:ex F d7.body (ao d7 [.lst (l.map aw),.int k])=(ex F (.asg 2 (.idx (.var 0) (.var 1))) (ao d7 [.lst (l.map aw),.int k])).bind λo=>match o with
   | .next ρ'=>ex F (.seq (.ret (.prim .tuple (.o (.comp [0,1,2] 0 (.it (.ed 2)) .nil oS)))) .skip) ρ'
   |o=>some o:=rfl
 rw[hx,ha]
 refine dm ?_
 rw[Ds,jw B9]
 show some (D.tup ((ka R).map λp=>pairD (p,eE (pg s) M k p)))=_
 rw[<-Kz]
 unfold aL
 rw[aaw]
 rfl
def FH(R:Rg (List Int)):aF (aL R)=true:=by
 show aW (R.map pairD)=true
 induction R with
 |nil=>rfl
 |cons e R ih=>
  show(aF (pairD e)&&aW (R.map pairD))=true
  rw[ih]
  show((aF (.int (e.1:Int))&&(aF (tp e.2)&&true))&&true)=true
  rw[aA]
  rfl
def yI(h6:s<=6){l:List (Rg (List Int))}(hf:F 5 [row,.int s]=some (.lst (l.map aw)))(O1:aF row=true)(hr:∀k,k<s->F 7 [.lst (l.map aw),.int k]=some (aL (et (pg s) M k))):
  out (ex F d8.body (ao d8 [row,.int s]))=some (bA (cx (pg s) M 0)):=by
 have je:bR=16777216:=rfl
 let oq:Env:=[vf row,vf (.int s),vf (.lst (l.map aw))]
 have h1:ev F false (.call 5 (.w 0 (.u 1))) (ao d8 [row,.int s])=some (.lst (l.map aw)):=j7 (dn rfl rfl) hf rfl
 have hw:walk (kA F [2] .nil (.call 7 (.w 1 (.u 0))) oq) (bK 0 s)=some ((List.range s).map λk=>aL (et (pg s) M k)):=by
  rw[fI]
  refine cM (λk:Nat=>D.int (k:Int)) _ _ _ λk hk=>?_
  have hc:ev F false (.call 7 (.w 1 (.u 0))) [vf (.int k),vf (.lst (l.map aw))]=some (aL (et (pg s) M k)):=aB (dn rfl rfl) (hr k (aar.mp hk)) (FH _)
  show(ev F false (.call 7 (.w 1 (.u 0))) [vf (.int k),vf (.lst (l.map aw))]).map some=_
  rw[hc]
  rfl
 have B9:ev F true (.comp [2] 0 (.fj (.u 1)) .nil (.call 7 (.w 1 (.u 0)))) oq=some (.lst ((List.range s).map λk=>aL (et (pg s) M k))):=by
  have OO:(cR F false (.u 1) oq).bind cQ=some (bK 0 s):=cn (Zw h6 (by decide))
  rw[mW OO (by rw[gx];exact Zw h6 (by decide)),hw]
  rfl
 have hx:ex F d8.body (ao d8 [row,.int s])=(ex F (.asg 2 (.call 5 (.w 0 (.u 1)))) (ao d8 [row,.int s])).bind λo=>match o with
   | .next ρ'=>ex F (.seq (.ret (.prim .tuple (.o (.comp [2] 0 (.fj (.u 1)) .nil (.call 7 (.w 1 (.u 0))))))) .skip) ρ'
   |o=>some o:=rfl
 rw[hx,ay h1]
 refine dm ?_
 show ev F true _ oq=_
 rw[Ds,jw B9]
 show some (D.tup ((List.range s).map λk=>aL (et (pg s) M k)))=_
 unfold bA cx
 rw[aaw,adD]
 rfl
end
def yJ:(List.range 7).all (λn=>decide ((perms n).length <=720))=true:=by decide +kernel
section
variable {s:Nat}{F:FT}
def nc(h6:s<=6):(perms s).length <=720:=of_decide_eq_true (all_range yJ (show s<7 by exact ZH h6 (by decide)))
theorem lE[DecidableEq α]:∀(l m:List α),l.Nodup->(∀x∈l,x∈m)->l.length<=m.length
 |[],_,_,_=>aab _
 |x::l,m,nd,h=>by
  rw[aaf]at nd
  have hx:=h x ZD
  have:=lE l (m.erase x) nd.2 λy hy=>(List.mem_erase_of_ne (λe:y=x=>nd.1 (e▸hy))).mpr (h y (Zy _ hy))
  rw[ael hx]at this
  have:0<m.length:=adh hx
  rw[Z3]
  lia
def B_:(TL (pg s) (R::l)).length =R.length*(TL (pg s) l).length :=by
 show(R.flatMap λe=>(TL (pg s) l).map λw=>(pg s).mul w e.2).length =_
 generalize TL (pg s) l=T
 induction R with
 |nil=>simp
 |cons e R ih=>rw[List.flatMap_cons,ZQ,ZA,ih,Z3,afG];lia
def wI(h:kh i j=true):bin .Mult (.int i) (.int j)=some (.int (i*j)):=ZM h
def tu(h:ex F b (put ρ i false x)=some (.next ρ')):aO (λx ρ=>(aJ 0 x).bind λys=>(dI ρ [i] ys).bind λρ'=>ex F b ρ') (x::r) ρ=aO (λx ρ=>(aJ 0 x).bind λys=>(dI ρ [i] ys).bind λρ'=>ex F b ρ') r ρ':=by
 rw[aO]
 show(ex F b (put ρ i false x)).bind _=_
 rw[h]
 rfl
noncomputable abbrev Qs:C:=(.seq (.asg 1 (.bin .Mult (.var 1) (.prim .len (.u 2)))) .skip)
theorem count_loop:∀{l:List (Rg (List Int))}{c:Nat}{x2:Option (Bool×D)},(∀R∈l,R.length<=1000)->
  ∃y2,aO (λx ρ=>(aJ 0 x).bind λys=>(dI ρ [2] ys).bind λρ'=>ex F Qs ρ') (l.map aL) [x0,vf (.int c),x2]=some (.next [x0,vf (.int (c*(TL (pg s) l).length :Nat)),y2])
 |[],c,x2,_=>⟨x2,by show some (lZ.next [x0,vf (.int c),x2])=_;rw[show(TL (pg s) []).length =1 from rfl,Nat.mul_one]⟩
 |R::l,c,x2,h=>by
  obtain⟨y2,ih⟩:=count_loop (x0:=x0) (l:=l) (c:=c*R.length) (x2:=vf (aL R)) λR' Lp=>h R' (Zy _ Lp)
  refine⟨y2,?_⟩
  have hR:=h R ZD
  have aV:ev F true (.prim .len (.u 2)) [x0,vf (.int c),vf (aL R)]=some (.int (R.length:Nat)):=by
   show some (D.int ((R.map pairD).length :Nat))=_
   rw[ZA]
  have hm:ev F false (.bin .Mult (.var 1) (.prim .len (.u 2))) [x0,vf (.int c),vf (aL R)]=some (.int (c*R.length:Nat)):=by
   rw[qD (a:= .var 1) (x:= .int c) rfl aV,wI (jt _ (ZX _) (by lia))]
   congr 2
  have hb:ex F Qs (put [x0,vf (.int c),x2] 2 false (aL R))=some (.next [x0,vf (.int (c*R.length:Nat)),vf (aL R)]):=by
   have e:put [x0,vf (.int c),x2] 2 false (aL R)=[x0,vf (.int c),vf (aL R)]:=rfl
   rw[e,bU,ay hm]
   rfl
  rw[Z4,tu hb,ih,B_,Nat.mul_assoc]
def Ca(h:∀R∈l,R.length<=1000):out (ex F d9.body (ao d9 [bA l]))=some (.int ((TL (pg s) l).length :Nat)):=by
 obtain⟨y2,h1⟩:=count_loop (s:=s) (F:=F) (x0:=vf (bA l)) (l:=l) (c:=1) (x2:=none) h
 rw[Nat.one_mul]at h1
 have hf:ex F (.for [2] 0 (.it (.var 0)) Qs) [vf (bA l),vf (.int (1:Nat)),none]=some (.next [vf (bA l),vf (.int ((TL (pg s) l).length :Nat)),y2]):=h1
 have hx:ex F d9.body (ao d9 [bA l])=(ex F (.for [2] 0 (.it (.var 0)) Qs) [vf (bA l),vf (.int (1:Nat)),none]).bind λo=>match o with
   | .next ρ'=>ex F (.seq (.ret (.var 1)) .skip) ρ'
   |o=>some o:=rfl
 rw[hx,hf]
 rfl
def KN(h1:1<=s)(h:t∈perms s):t≠[]:=λz=>by
 have:=aQ h
 rw[z]at this
 simp at this
 exact Z5 h1 this
noncomputable abbrev mv(B:List (List Int)):List D:=B.map λ_=>D.bl true
noncomputable abbrev AE(x0 x1 x2:Option (Bool×D))(B W:List (List Int))(x5 x6 x7:Option (Bool×D)):Env:=[x0,x1,x2,some (true,.bj 1 B (mv B)),some (true,.lst (W.map tp)),x5,x6,x7]
noncomputable abbrev O3:C:=(.seq (.asg 7 (.call 17 (.w 5 (.u 6)))) (.seq (.ifs (.vj true (.var 7) 3) (.seq (.kM 3 (.var 7) (.c (.bl true))) (.seq (.app 4 (.var 7)) .skip)) .skip) .skip))
noncomputable abbrev Lq:C:=(.seq (.pop 5 4) (.seq (.for [6] 0 (.it (.var 0)) O3) .skip))
def jA(h:t≠0)(p:List Int):cv t (tp p)=some p:=by
 show(if t=0 then none else aP (p.map .int))=some p
 rw[ZW h]
 exact dF p
def FI(bg:∀p∈perms s,∀q∈perms s,F 17 [tp p,tp q]=some (tp (comp p q)))(ht:t∈perms s)(hg:g∈perms s)(hB:B.length<=1000)(hW:W.length<=10000):
  ex F O3 (AE x0 x1 x2 B W (vf (tp t)) (vf (tp g)) x7)=some (.next (if comp t g∈B then AE x0 x1 x2 B W (vf (tp t)) (vf (tp g)) (vf (tp (comp t g))) else AE x0 x1 x2 (B++[comp t g]) (W++[comp t g]) (vf (tp t)) (vf (tp g)) (vf (tp (comp t g))))):=by
 have je:bR=16777216:=rfl
 have h1:ev F false (.call 17 (.w 5 (.u 6))) (AE x0 x1 x2 B W (vf (tp t)) (vf (tp g)) x7)=some (tp (comp t g)):=aB (dn rfl rfl) (bg t ht g hg) (aA _)
 have h2:ev F false (.vj true (.var 7) 3) (AE x0 x1 x2 B W (vf (tp t)) (vf (tp g)) (vf (tp (comp t g))))=some (.bl (!decide (comp t g∈B))):=by
  show((cv 1 (tp (comp t g))).map λx=>D.bl (!decide (x∈B)))=_
  rw[jA (by decide)]
  rfl
 rw[bU,ay h1]
 show ex F (.seq (.ifs (.vj true (.var 7) 3) _ .skip) .skip) (AE x0 x1 x2 B W (vf (tp t)) (vf (tp g)) (vf (tp (comp t g))))=_
 by_cases hm:comp t g∈B
 .rw[decide_eq_true hm]at h2
  rw[bU,fP,h2,ZM hm]
  rfl
 .rw[decide_eq_false hm]at h2
  have s1:ex F (.kM 3 (.var 7) (.c (.bl true))) (AE x0 x1 x2 B W (vf (tp t)) (vf (tp g)) (vf (tp (comp t g))))=some (.next (AE x0 x1 x2 (B++[comp t g]) W (vf (tp t)) (vf (tp g)) (vf (tp (comp t g))))):=by
   show((cv 1 (tp (comp t g))).bind λx=>if B.length<bR then some (lZ.next (put (AE x0 x1 x2 B W (vf (tp t)) (vf (tp g)) (vf (tp (comp t g)))) 3 true (nI 1 B (mv B) x (.bl true)))) else none)=_
   rw[jA (by decide)]
   show(if B.length<bR then some (lZ.next (put _ 3 true (nI 1 B (mv B) (comp t g) (.bl true)))) else none)=_
   have:mv B++[D.bl true]=mv (B++[comp t g]):=by unfold mv;rw[aam];rfl
   rw[ZM (ZH hB (by decide)),show nI 1 B (mv B) (comp t g) (.bl true)= .bj 1 (B++[comp t g]) (mv B++[.bl true]) from ZW hm,this]
   rfl
  have s2:ex F (.app 4 (.var 7)) (AE x0 x1 x2 (B++[comp t g]) W (vf (tp t)) (vf (tp g)) (vf (tp (comp t g))))=some (.next (AE x0 x1 x2 (B++[comp t g]) (W++[comp t g]) (vf (tp t)) (vf (tp g)) (vf (tp (comp t g))))):=by
   rw[m6 (d:=tp (comp t g)) (xs:=W.map tp) rfl rfl (by rw[ZA];exact ZH hW (by decide))]
   have:W.map tp++[tp (comp t g)]=(W++[comp t g]).map tp:=by rw[aam];rfl
   rw[this]
   rfl
  rw[bU,fP,h2,ZW hm]
  show((ex F (.seq (.kM 3 (.var 7) (.c (.bl true))) (.seq (.app 4 (.var 7)) .skip)) (AE x0 x1 x2 B W (vf (tp t)) (vf (tp g)) (vf (tp (comp t g))))).bind _)=_
  rw[bU,s1]
  show((ex F (.seq (.app 4 (.var 7)) .skip) (AE x0 x1 x2 (B++[comp t g]) W (vf (tp t)) (vf (tp g)) (vf (tp (comp t g))))).bind _)=_
  rw[bU,s2]
  rfl
theorem Cb(h6:s<=6)(bg:∀p∈perms s,∀q∈perms s,F 17 [tp p,tp q]=some (tp (comp p q)))(hG:∀g∈G,g∈perms s)(ht:t∈perms s):∀{gs done B W:List (List Int)}{x6 x7:Option (Bool×D)},(∀g∈gs,g∈G)->Am comp (bJ s) G t done B W->W.length+gs.length<=5000->
  ∃B' W' y6 y7,aO (λx ρ=>(aJ 0 x).bind λys=>(dI ρ [6] ys).bind λρ'=>ex F O3 ρ') (gs.map tp) (AE x0 x1 x2 B W (vf (tp t)) x6 x7)=some (.next (AE x0 x1 x2 B' W' (vf (tp t)) y6 y7))/\Am comp (bJ s) G t (done++gs) B' W'/\B.length<=B'.length/\B'.length+W.length=B.length+W'.length
 |[],done,B,W,x6,x7,_,h,_=>⟨B,W,x6,x7,rfl,by rw[aaK];exact h,ZG _,rfl⟩
 |g::gs,done,B,W,x6,x7,TR,h,hn=>by
  rw[Z3]at hn
  have V3:=TR g ZD
  have hg:=hG g V3
  have hB:B.length<=720:=Zw (lE _ _ h.nd λx hx=>BZ hG (h.gen x hx)) (nc h6)
  have h1:=FI bg (x0:=x0) (x1:=x1) (x2:=x2) (x7:=x7) (B:=B) (W:=W) ht hg (Zw hB (by decide)) (by lia)
  have e0:done++g::gs=(done++[g])++gs:=by rw[aai];rfl
  by_cases hm:comp t g∈B
  .rw[ZM hm]at h1
   refine Pc (Cb h6 bg hG (x0:=x0) (x1:=x1) (x2:=x2) ht (gs:=gs) (done:=done++[g]) (B:=B) (W:=W) (x6:=vf (tp g)) (x7:=vf (tp (comp t g))) (λq hq=>TR q (Zy _ hq)) (h.old hm) (Zx hn)) λB' W' y6 y7 i1 i2 i3 i4=>⟨B',W',y6,y7,?_,by rw[e0];exact i2,i3,i4⟩
   rw[Z4,tu (ρ':=AE x0 x1 x2 B W (vf (tp t)) (vf (tp g)) (vf (tp (comp t g)))) h1]
   exact i1
  .rw[ZW hm]at h1
   refine Pc (Cb h6 bg hG (x0:=x0) (x1:=x1) (x2:=x2) ht (gs:=gs) (done:=done++[g]) (B:=B++[comp t g]) (W:=W++[comp t g]) (x6:=vf (tp g)) (x7:=vf (tp (comp t g))) (λq hq=>TR q (Zy _ hq)) (h.new V3 hm) (by rw[ZQ,aah];exact K1 (Z8 _ _ _) hn)) λB' W' y6 y7 i1 i2 i3 i4=>?_
   rw[ZQ,aah]at i3
   rw[ZQ,aah,ZQ,aah]at i4
   refine⟨B',W',y6,y7,?_,by rw[e0];exact i2,(Zx i3),by lia⟩
   rw[Z4,tu (ρ':=AE x0 x1 x2 (B++[comp t g]) (W++[comp t g]) (vf (tp t)) (vf (tp g)) (vf (tp (comp t g)))) h1]
   exact i1
theorem ng(n:Nat):∀W:List (List Int),jH (W.map tp) (n+1)=true
 |[]=>rfl
 |t::W=>by
  show(gY (tp t) (n+1)&&jH (W.map tp) (n+1))=true
  rw[BM,ng n W]
  rfl
def FJ:ev F false (.cmp .NotEq (.var 4) (.lst .nil)) (AE x0 x1 x2 B W x5 x6 x7)=some (.bl (!W.isEmpty)):=by
 have h1:cmp .NotEq (.lst (W.map tp)) (.lst [])=some (!W.isEmpty):=by
  show(if(gY (.lst (W.map tp)) 60&&gY (.lst []) 60)=true then some (!nv (.lst (W.map tp)) (.lst [])) else none)=_
  have e1:gY (.lst (W.map tp)) 60=true:=ng 58 W
  rw[e1]
  cases W<;>rfl
 show(cmp .NotEq (.lst (W.map tp)) (.lst [])).map D.bl=_
 rw[h1]
 rfl
theorem wJ(h6:s<=6)(bg:∀p∈perms s,∀q∈perms s,F 17 [tp p,tp q]=some (tp (comp p q)))(hG:∀g∈G,g∈perms s)(TU:G.length<=1000):∀(n:Nat) {B W:List (List Int)}{x5 x6 x7:Option (Bool×D)},Al comp (bJ s) G B W->2*(720-B.length)+W.length<n->2*(720-B.length)+W.length<=2000->
  ∃B' y5 y6 y7,iU (λρ=>(ev F false (.cmp .NotEq (.var 4) (.lst .nil)) ρ).bind fg) (ex F Lq) n (AE (vf (.tup (G.map tp))) x1 x2 B W x5 x6 x7)=some (.next (AE (vf (.tup (G.map tp))) x1 x2 B' [] y5 y6 y7))/\Al comp (bJ s) G B' []
 |0,_,_,_,_,_,_,h,_=>absurd h (aaZ _)
 |n+1,B,W,x5,x6,x7,h,hn,hb=>by
  rw[iU,FJ]
  rcases aeZ W with rfl|⟨W0,t,rfl⟩
  .exact⟨B,x5,x6,x7,rfl,h⟩
  .rw[afa]at h hn hb⊢
   rw[ZQ,aah]at hn hb
   have fy:(W0++[t]).isEmpty =false:=by simp
   rw[fy]
   have YR:t∈B:=h.wb t (ZV _ (ZE.mpr rfl))
   have ht:t∈perms s:=BZ hG (h.gen t YR)
   refine au λnO=>Pc (Cb h6 bg hG (x0:=vf (.tup (G.map tp))) (x1:=x1) (x2:=x2) ht (gs:=G) (done:=[]) (B:=B) (W:=W0) (x6:=x6) (x7:=x7) (λ_ z=>z) h.start (by lia)) λB' W' y6 y7 i1 i2 i3 i4=>?_
   rw[adJ]at i2
   have hA:=i2.fin λg hg=>hg
   have Gv:B'.length<=720:=Zw (lE _ _ hA.nd λx hx=>BZ hG (hA.gen x hx)) (nc h6)
   refine nr (wJ h6 bg hG TU (x1:=x1) (x2:=x2) n (B:=B') (W:=W') (x5:=vf (tp t)) (x6:=y6) (x7:=y7) hA (by lia) (qN (Zx hb) (QI i3 i4 Gv))) λB2 z5 z6 z7 j1 j2=>nO ?_
   refine⟨B2,z5,z6,z7,?_,j2⟩
   have p1:ex F (.pop 5 4) (AE (vf (.tup (G.map tp))) x1 x2 B (W0++[t]) x5 x6 x7)=some (.next (AE (vf (.tup (G.map tp))) x1 x2 B W0 (vf (tp t)) x6 x7)):=by
    have e1:((W0++[t]).map tp).getLast? =some (tp t):=by rw[aam];simp
    have e2:((W0++[t]).map tp).dropLast =W0.map tp:=by rw[aam];simp
    show(((W0++[t]).map tp).getLast?.map λz=>lZ.next (put (put (AE (vf (.tup (G.map tp))) x1 x2 B (W0++[t]) x5 x6 x7) 4 true (.lst ((W0++[t]).map tp).dropLast)) 5 false z))=_
    rw[e1,e2]
    rfl
   have p2:ex F (.for [6] 0 (.it (.var 0)) O3) (AE (vf (.tup (G.map tp))) x1 x2 B W0 (vf (tp t)) x6 x7)=some (.next (AE (vf (.tup (G.map tp))) x1 x2 B' W' (vf (tp t)) y6 y7)):=i1
   have p3:ex F Lq (AE (vf (.tup (G.map tp))) x1 x2 B (W0++[t]) x5 x6 x7)=some (.next (AE (vf (.tup (G.map tp))) x1 x2 B' W' (vf (tp t)) y6 y7)):=by
    rw[bU,p1]
    show ex F (.seq (.for [6] 0 (.it (.var 0)) O3) .skip) _=_
    rw[bU,p2]
    rfl
   show((ex F Lq (AE (vf (.tup (G.map tp))) x1 x2 B (W0++[t]) x5 x6 x7)).bind _)=_
   rw[p3]
   exact j1
def KO(h1:1<=s)(h6:s<=6)(bg:∀p∈perms s,∀q∈perms s,F 17 [tp p,tp q]=some (tp (comp p q)))(hG:∀g∈G,g∈perms s)(TU:G.length<=1000):
  ∃B,out (ex F Ft.body (ao Ft [.tup (G.map tp),.int s]))=some (.lst ((dw.c8 B).map tp))/\Al comp (bJ s) G B []:=by
 obtain⟨B,y5,y6,y7,i1,i2⟩:=wJ h6 bg hG TU (x1:=vf (.int s)) (x2:=vf (tp (bJ s))) gZ (B:=[bJ s]) (W:=[bJ s]) (x5:=none) (x6:=none) (x7:=none) YG (by
  have:gZ=1000000:=rfl
  rw[this,aah];exact by decide) (by rw[aah];exact by decide)
 refine⟨B,?_,i2⟩
 have a1:ev F false (.nA .tuple (.u 1)) (ao Ft [.tup (G.map tp),.int s])=some (tp (bJ s)):=by
  show(cQ [.int s]).bind (pZ .tuple)=_
  rw[cn (Zw h6 (by decide)),dS]
  rfl
 have a2:ex F (.lX 3 1 (.w 2 (.o (.c (.bl true))))) [vf (.tup (G.map tp)),vf (.int s),vf (tp (bJ s)),none,none,none,none,none]=some (.next [vf (.tup (G.map tp)),vf (.int s),vf (tp (bJ s)),some (true,.bj 1 [bJ s] [.bl true]),none,none,none,none]):=by
  show(((cv 1 (tp (bJ s))).map λx=>D.bj 1 [x] [.bl true]).map λd=>lZ.next (put [vf (.tup (G.map tp)),vf (.int s),vf (tp (bJ s)),none,none,none,none,none] 3 true d))=_
  rw[jA (by decide)]
  rfl
 have a3:ex F (.while (.cmp .NotEq (.var 4) (.lst .nil)) Lq) (AE (vf (.tup (G.map tp))) (vf (.int s)) (vf (tp (bJ s))) [bJ s] [bJ s] none none none)=some (.next (AE (vf (.tup (G.map tp))) (vf (.int s)) (vf (tp (bJ s))) B [] y5 y6 y7)):=i1
 have a4:ev F true (.ed 3) (AE (vf (.tup (G.map tp))) (vf (.int s)) (vf (tp (bJ s))) B [] y5 y6 y7)=some (.lst ((dw.c8 B).map tp)):=by
  show(if []∈B then none else some (D.lst ((dw.c8 B).map zO)))=_
  rw[ZW λz=>KN h1 (BZ hG (i2.gen _ z)) rfl]
  rfl
 have hx:ex F Ft.body (ao Ft [.tup (G.map tp),.int s])=(ex F (.asg 2 (.nA .tuple (.u 1))) (ao Ft [.tup (G.map tp),.int s])).bind λo=>match o with
   | .next ρ'=>ex F (.seq (.lX 3 1 (.w 2 (.o (.c (.bl true))))) (.seq (.cS 4 (.lst (.u 2))) (.seq (.while (.cmp .NotEq (.var 4) (.lst .nil)) Lq) (.seq (.ret (.ed 3)) .skip)))) ρ'
   |o=>some o:=rfl
 rw[hx,ay a1]
 show out (ex F (.seq (.lX 3 1 (.w 2 (.o (.c (.bl true))))) _) [vf (.tup (G.map tp)),vf (.int s),vf (tp (bJ s)),none,none,none,none,none])=_
 rw[bU,a2]
 show out (ex F (.seq (.while (.cmp .NotEq (.var 4) (.lst .nil)) Lq) (.seq (.ret (.ed 3)) .skip)) (AE (vf (.tup (G.map tp))) (vf (.int s)) (vf (tp (bJ s))) [bJ s] [bJ s] none none none))=_
 rw[bU,a3]
 exact dm a4
end
end b7
namespace jC
section
variable {α:Type}{Y:Pg α}
noncomputable def gy(k:Nat):Rg α->Option Nat
 |[]=>none
 |e::R=>if e.1=k then some 0 else(gy k R).map (· + 1)
theorem nh:∀{R:Rg α}{j:Nat},gy k R=some j->∃u,R[j]?=some (k,u)
 |[],_,h=>nomatch h
 |e::R,j,h=>by
  unfold gy at h
  by_cases z:e.1=k
  .rw[ZM z]at h
   cases h
   exact⟨e.2,by rw[<-z];rfl⟩
  .rw[ZW z]at h
   obtain⟨j',h1,rfl⟩:=acu.mp h
   obtain⟨u,hu⟩:=nh h1
   exact⟨u,hu⟩
theorem wK:∀{R:Rg α}{j:Nat},(R.map (·.1)).Nodup ->R[j]?=some (k,u)->gy k R=some j
 |[],_,_,h=>nomatch h
 |e::R,0,_,h=>by
  have:e=(k,u):=ZY h
  subst this
  exact ZM rfl
 |e::R,j+1,nd,h=>by
  rw[Z4,aaf]at nd
  have h':R[j]?=some (k,u):=h
  unfold gy
  rw[ZW λz:e.1=k=>nd.1 (z▸ZT.mpr ⟨_,aac h',rfl⟩),wK nd.2 h']
  rfl
theorem pE:∀{R:Rg α},gy k R=none->k∉R.map (·.1)
 |[],_=>nofun
 |e::R,h=>by
  unfold gy at h
  by_cases z:e.1=k
  .rw[ZM z]at h;cases h
  .rw[ZW z]at h
   rw[Z4,ZK]
   exact λhm=>hm.elim (λq=>z q.symm) (pE (aeK.mp h))
noncomputable def fJ(Y:Pg α):List (Rg α)->Nat->Nat->α->Option Nat
 |[],_,c,_=>some c
 |R::l,i,c,t=>(gy (Y.im t i) R).bind λj=>(R[j]?).bind λe=>fJ Y l (i+1) (c*R.length+j) (Y.mul t (Y.inv e.2))
noncomputable def KP(Y:Pg α)(s:α×Nat)(R:Rg α):α×Nat:=(Y.mul s.1 ((R[s.2%R.length]?).getD (0,Y.one)).2,s.2/R.length)
noncomputable def ni(Y:Pg α)(l:List (Rg α))(n:Nat):α×Nat:=l.foldr (λR s=>KP Y s R) (Y.one,n)
noncomputable def iC(l:List (Rg α)):Nat:=l.foldr (λR n=>n*R.length) 1
theorem G9(n:Nat):∀l:List (Rg α),(ni Y l n).2 =n/iC l
 |[]=>(Nat.div_one n).symm
 |R::l=>by
  show(ni Y l n).2/R.length=n/(iC l*R.length)
  rw[G9 n l,Nat.div_div_eq_div_mul]
def O4{R:Rg α}(hR:0<R.length)(q:Nat):∃p u,R[q%R.length]?=some (p,u)/\((p,u):Nat×α)∈R:=by
 have h:=Nat.mod_lt q hR
 exact⟨_,_,Zt h,abu h⟩
theorem Cc(L:fM Y)(n:Nat):∀{l:List (Rg α)}{i:Nat},VL Y l i->(∀R∈l,0<R.length)->H Y l (ni Y l n).1
 |[],_,_,_=>rfl
 |R::l,i,hv,hR=>by
  obtain⟨p,u,e,hm⟩:=O4 (hR R ZD) (ni Y l n).2
  refine⟨p,u,(ni Y l n).1,hm,Cc L n hv.2.2 λQ h=>hR Q (Zy _ h),?_⟩
  show Y.mul _ ((R[(ni Y l n).2%R.length]?).getD (0,Y.one)).2 =_
  rw[e]
  rfl
theorem Cd(L:fM Y)(n:Nat):∀{l:List (Rg α)}{i c:Nat},VL Y l i->(∀R∈l,0<R.length)->fJ Y l i c (ni Y l n).1 =some (c*iC l+n%iC l)
 |[],i,c,_,_=>by
  show some c=some (c*1+n%1)
  rw[Nat.mod_one,Nat.mul_one,ach]
 |R::l,i,c,hv,hR=>by
  obtain⟨p,u,e,hm⟩:=O4 (hR R ZD) (ni Y l n).2
  have Lp:∀Q∈l,0<Q.length:=λQ h=>hR Q (Zy _ h)
  obtain⟨s1,f1⟩:=H.good L hv.2.2 (Cc L n hv.2.2 Lp)
  obtain⟨s2,f2,f3⟩:=hv.1.st p u hm
  have ht:(ni Y (R::l) n).1 =Y.mul (ni Y l n).1 u:=by
   show Y.mul _ ((R[(ni Y l n).2%R.length]?).getD (0,Y.one)).2 =_
   rw[e]
   rfl
  have hp:Y.im (Y.mul (ni Y l n).1 u) i=p:=by rw[L.aR s1 s2 hv.2.1,f1 i (abL i),f3]
  have hr:Y.mul (Y.mul (ni Y l n).1 u) (Y.inv u)=(ni Y l n).1 :=by rw[L.assoc s1 s2 (L.si s2),L.dq s2,L.mul_one s1]
  rw[ht]
  unfold fJ
  rw[hp,wK hv.1.nd e,aao,e,aao,hr,Cd L n hv.2.2 Lp]
  show some ((c*R.length+(ni Y l n).2%R.length)*iC l+n%iC l)=some (c*(iC l*R.length)+n%(iC l*R.length))
  rw[G9,Nat.mod_mul,afG,Nat.mul_assoc,afE R.length,aaV,afE (n/iC l%R.length),acP (iC l*_)]
theorem tD(L:fM Y):∀{l:List (Rg α)}{i c:Nat}{t:α},VL Y l i->Y.S t->iB Y t i->((fJ Y l i c t).isSome =true↔H Y l t)
 |[],i,c,t,hv,hs,hf=>by
  have CL:i=Y.n:=hv
  exact⟨λ_=>L.ext hs L.s1 λk hk=>by rw[hf k (Zr hk (ZF (aaa CL))),L.bI hk],λ_=>rfl⟩
 |R::l,i,c,t,hv,hs,hf=>by
  refine cy hv λhV hi hl=>?_
  have at':∀p u w,(p,u)∈R->H Y l w->t=Y.mul w u->p=Y.im t i:=λp u w hu hw e=>by
   obtain⟨s1,f1⟩:=H.good L hl hw
   refine cy (hV.st p u hu) λs2 f2 f3=>?_
   rw[e,L.aR s1 s2 hi,f1 i (ZG _),f3]
  unfold fJ
  cases e:gy (Y.im t i) R with
  |none=>
   refine⟨λz=>absurd z Zz,λh=>b6 h λp u w hu hw ew=>?_⟩
   exact absurd (ZT.mpr ⟨_,hu,at' p u w hu hw ew⟩) (pE e)
  |some j=>
   obtain⟨u,hj⟩:=nh e
   have hu:=aac hj
   rw[aao,hj,aao]
   refine cy (hV.st _ u hu) λs2 f2 f3=>?_
   have back:∀k,k<Y.n->Y.im (Y.inv u) (Y.im u k)=k:=λk hk=>by rw[<-L.aR s2 (L.si s2) hk,L.dq s2,L.bI hk]
   have PU:iB Y (Y.mul t (Y.inv u)) (i+1):=λk hk=>by
    rw[L.aR hs (L.si s2) (Zr hk hi)]
    rcases aaM k i with z|z
    .rw[hf k z]
     have:=back k (Zr z (Zx hi))
     rwa [f2 k z]at this
    .have:k=i:=(aaP z hk)
     subst this
     rw[<-f3]
     exact back k hi
   have ih:=tD L (c:=c*R.length+j) hl (L.sm hs (L.si s2)) PU
   refine Iff.trans ih ⟨λh=>⟨_,u,_,hu,h,?_⟩,λh=>b6 h λp u' w EJ hw ew=>?_⟩
   .rw[L.assoc hs (L.si s2) s2,L.inv_mul s2,L.mul_one hs]
   .have hp:=at' p u' w EJ hw ew
    subst hp
    have YS:u'=u:=jy hV.nd EJ hu
    subst YS
    rw[ew,L.assoc (H.good L hl hw).1 s2 (L.si s2),L.dq s2,L.mul_one (H.good L hl hw).1]
    exact hw
end
end jC
namespace b7
open Py jC
section
variable {s:Nat}{F:FT}
theorem tE(k:Nat):∀R:Rg (List Int),cw (k:Int) (R.map λe=>(e.1:Int))=gy k R
 |[]=>rfl
 |e::R=>by
  show(if(e.1:Int)=k then some 0 else(cw (k:Int) (R.map λe=>(e.1:Int))).map (· + 1))=if e.1=k then some 0 else(gy k R).map (· + 1)
  rw[tE k R]
  by_cases h:e.1=k
  .rw[ZM (congrArg _ h),ZM h]
  .rw[ZW (by lia),ZW h]
theorem wL(k:Nat):∀R:Rg (List Int),((R.map λe=>D.int (e.1:Int)).any λz=>nv z (.int k))=(gy k R).isSome
 |[]=>rfl
 |e::R=>by
  rw[Z4,acD,wL k R]
  show(((e.1:Int)==(k:Int))||_)=_
  rw[wB]
  show _=(if e.1=k then some 0 else(gy k R).map (· + 1)).isSome
  by_cases h:e.1=k
  .rw[decide_eq_true h,ZM h];rfl
  .rw[decide_eq_false h,ZW h,adl];rfl
noncomputable abbrev Lr:C:=(.seq (.cS 6 (.comp [] 0 (.it (.var 5)) .nil (.idx (.var 0) (.ci 0)))) (.seq (.ifs (.cmp .NotIn (.idx (.var 3) (.var 4)) (.var 6)) (.seq (.ret (.c .bX)) .skip) .skip) (.seq (.asg 7 (.cK .jJ (.var 6) (.o (.idx (.var 3) (.var 4))))) (.seq (.asg 2 (.bin .Add (.bin .Mult (.var 2) (.prim .len (.u 5))) (.var 7))) (.seq (.asg 3 (.call 1 (.w 3 (.o (.call 2 (.o (.idx (.idx (.var 5) (.var 7)) (.ci 1)))))))) .skip)))))
noncomputable abbrev NE(x0 x1:Option (Bool×D))(c:Int)(t:List Int)(x4 x5 x6 x7:Option (Bool×D)):Env:=[x0,x1,vf (.int c),vf (tp t),x4,x5,x6,x7]
def FK(h6:s<=6)(ht:∀p∈perms s,∀q∈perms s,F 1 [tp p,tp q]=some (tp (comp p q)))(hb:∀p∈perms s,F 2 [tp p]=some (tp (ip p))){c:Nat}(hi:i<s)(hv:V (pg s) i R)(hp:t∈perms s):
  (gy ((pg s).im t i) R=none->ex F Lr (NE x0 x1 c t (vf (.int i)) (vf (aL R)) x6 x7)=some (.ret .bX))/\
  ∀j e,gy ((pg s).im t i) R=some j->R[j]?=some e->∃y6 y7,ex F Lr (NE x0 x1 c t (vf (.int i)) (vf (aL R)) x6 x7)=some (.next (NE x0 x1 ((c*R.length+j:Nat):Int) (comp t (ip e.2)) (vf (.int i)) (vf (aL R)) y6 y7)):=by
 have je:bR=16777216:=rfl
 have KI:R.length<=s:=m7 hi hv
 let P:List D:=R.map λe=>D.int (e.1:Int)
 let uR:Env:=NE x0 x1 c t (vf (.int i)) (vf (aL R)) (some (true,.lst P)) x7
 have hP:P=(R.map λe=>(e.1:Int)).map D.int:=by rw[aaw];rfl
 have a6:ex F (.cS 6 (.comp [] 0 (.it (.var 5)) .nil (.idx (.var 0) (.ci 0)))) (NE x0 x1 c t (vf (.int i)) (vf (aL R)) x6 x7)=some (.next uR):=by
  rw[zR,wt (d:=aL R) (xs:=R.map pairD) rfl rfl (by rw[ZA];exact Zw KI (Zw h6 (by decide))),cM pairD (λe=>D.int (e.1:Int)) _ R λe _=>rfl]
  rfl
 have uO:∀b,ev F b (.idx (.var 3) (.var 4)) uR=some (.int ((pg s).im t i:Nat)):=λb=>m5 hp hi
 have FL:ev F false (.cmp .NotIn (.idx (.var 3) (.var 4)) (.var 6)) uR=some (.bl (!(gy ((pg s).im t i) R).isSome)):=by
  refine Fg (uO true) (c:= .var 6) (y:= .lst P) rfl ?_
  show(if(true&&jH P 59)=true then some (!P.any λz=>nv z (.int ((pg s).im t i:Nat))) else none)=_
  rw[wL,hP,jI]
  rfl
 constructor
 .intro e
  rw[e]at FL
  rw[bU,a6]
  show ex F (.seq (.ifs _ _ _) _) uR=_
  rw[bU,fP,FL]
  rfl
 .intro j e hj he
  rw[hj]at FL
  have V4:e.2∈perms s:=(hv.st _ _ (aac he)).1
  let BL:Env:=NE x0 x1 c t (vf (.int i)) (vf (aL R)) (some (true,.lst P)) (vf (.int (j:Nat)))
  let tG:Env:=NE x0 x1 ((c*R.length+j:Nat):Int) t (vf (.int i)) (vf (aL R)) (some (true,.lst P)) (vf (.int (j:Nat)))
  have a7:ev F false (.cK .jJ (.var 6) (.o (.idx (.var 3) (.var 4)))) uR=some (.int (j:Nat)):=by
   rw[RH,jw (uO true)]
   show(aP P).bind (λns=>(cw ((pg s).im t i:Nat) ns).map λ(i:Nat)=>D.int (i:Int))=_
   rw[hP,dF,aao,tE,hj]
   rfl
  have a8:ev F false (.bin .Add (.bin .Mult (.var 2) (.prim .len (.u 5))) (.var 7)) BL=some (.int ((c*R.length+j:Nat):Int)):=by
   have m1:ev F true (.bin .Mult (.var 2) (.prim .len (.u 5))) BL=some (.int ((c:Int)*R.length)):=by
    rw[qD (a:= .var 2) (x:= .int c) (c:= .prim .len (.u 5)) (y:= .int ((R.map pairD).length :Nat)) rfl rfl,ZA]
    have h1: -(2 ^ 64)<((R.length:Nat):Int):=(ZX _)
    have h2:((R.length:Nat):Int)<2 ^ 64:=by lia
    exact wI (jt _ h1 h2)
   rw[qD m1 (c:= .var 7) (y:= .int (j:Nat)) rfl]
   show some (D.int ((c:Int)*R.length+j))=_
   congr 2
  have g1:ev F true (.idx (.var 5) (.var 7)) tG=some (pairD e):=mX (by rw[ZJ,he];rfl)
  have g2:ev F true (.idx (.idx (.var 5) (.var 7)) (.ci 1)) tG=some (tp e.2):=by
   rw[zQ,g1]
   rfl
  have a9:ev F false (.call 1 (.w 3 (.o (.call 2 (.o (.idx (.idx (.var 5) (.var 7)) (.ci 1))))))) tG=some (tp (comp t (ip e.2))):=
   aB (dn (x:=tp t) rfl (aB (jw g2) (hb e.2 V4) (aA _))) (ht t hp _ (fH V4)) (aA _)
  refine⟨some (true,.lst P),vf (.int (j:Nat)),?_⟩
  rw[bU,a6]
  show ex F (.seq (.ifs _ _ _) _) uR=_
  rw[bU,fP,FL]
  show ex F (.seq (.asg 7 _) _) uR=_
  rw[fW (ay a7)]
  show ex F (.seq (.asg 2 _) _) BL=_
  rw[fW (ay a8)]
  show ex F (.seq (.asg 3 _) _) tG=_
  rw[fW (ay a9)]
  rfl
theorem wM(h6:s<=6)(ht:∀p∈perms s,∀q∈perms s,F 1 [tp p,tp q]=some (tp (comp p q)))(hb:∀p∈perms s,F 2 [tp p]=some (tp (ip p))):∀{l:List (Rg (List Int))}{i c:Nat}{t:List Int}{x4 x5 x6 x7:Option (Bool×D)},VL (pg s) l i->t∈perms s->
  ∃o,aO (λx ρ=>(aJ 2 x).bind λys=>(dI ρ [4,5] ys).bind λρ'=>ex F Lr ρ') (bE i (l.map aL)) (NE x0 x1 c t x4 x5 x6 x7)=some o/\(∀c',fJ (pg s) l i c t=some c'->∃t' y4 y5 y6 y7,o= .next (NE x0 x1 (c':Nat) t' y4 y5 y6 y7))/\(fJ (pg s) l i c t=none->o= .ret .bX)
 |[],i,c,t,x4,x5,x6,x7,_,_=>⟨_,rfl,λc' e=>by cases e;exact⟨t,x4,x5,x6,x7,rfl⟩,λe=>nomatch e⟩
 |R::l,i,c,t,x4,x5,x6,x7,hv,hp=>by
  have hi:i<s:=hv.2.1
  obtain⟨t1,t2⟩:=FK (x0:=x0) (x1:=x1) (x6:=x6) (x7:=x7) (c:=c) h6 ht hb hi hv.1 hp
  show∃o,aO _ (.tup [.int i,aL R]::bE ((i:Int)+1) (l.map aL)) _=some o/\_
  rw[aO]
  show∃o,(ex F Lr (NE x0 x1 c t (vf (.int i)) (vf (aL R)) x6 x7)).bind _=some o/\_
  unfold fJ
  cases e:gy ((pg s).im t i) R with
  |none=>rw[t1 e];exact⟨_,rfl,⟨λ_ z=>(Option.some_ne_none _ z.symm).elim,λ_=>rfl⟩⟩
  |some j=>
   obtain⟨u,hj⟩:=nh e
   have hu:u∈perms s:=(hv.1.st _ _ (aac hj)).1
   rw[aao,hj,aao]
   obtain⟨y6,y7,e2⟩:=t2 j _ e hj
   rw[e2]
   have:=wM h6 ht hb (x0:=x0) (x1:=x1) (l:=l) (i:=i+1) (c:=c*R.length+j) (t:=comp t (ip u)) (x4:=vf (.int i)) (x5:=vf (aL R)) (x6:=y6) (x7:=y7) hv.2.2 (dE hp (fH hu))
   rw[show(((i+1:Nat):Int))=(i:Int)+1 by exact aeY _ _]at this
   exact this
noncomputable def Ce:Option Nat->D
 |some c=> .int (c:Nat)
 |none=> .bX
def yK(h6:s<=6)(ht:∀p∈perms s,∀q∈perms s,F 1 [tp p,tp q]=some (tp (comp p q)))(hb:∀p∈perms s,F 2 [tp p]=some (tp (ip p)))(hv:VL (pg s) l 0)(hp:t∈perms s):
  out (ex F KD.body (ao KD [bA l,tp t]))=some (Ce (fJ (pg s) l 0 0 t)):=by
 refine bB (wM h6 ht hb (x0:=vf (bA l)) (x1:=vf (tp t)) (c:=0) (x4:=none) (x5:=none) (x6:=none) (x7:=none) hv hp) λo h1 h2 h3=>?_
 have hx:ex F KD.body (ao KD [bA l,tp t])=(ex F (.for [4,5] 2 (.xG (.var 0)) Lr) (NE (vf (bA l)) (vf (tp t)) (0:Nat) t none none none none)).bind λo=>match o with
   | .next ρ'=>ex F (.seq (.ret (.var 2)) .skip) ρ'
   |o=>some o:=rfl
 have hf:ex F (.for [4,5] 2 (.xG (.var 0)) Lr) (NE (vf (bA l)) (vf (tp t)) (0:Nat) t none none none none)=some o:=h1
 rw[hx,hf]
 cases hh:fJ (pg s) l 0 0 t with
 |some c=>
  obtain⟨t',y4,y5,y6,y7,rfl⟩:=h2 c hh
  rfl
 |none=>rw[h3 hh];rfl
noncomputable abbrev Ls(f:Nat):C:= .seq (.asg 2 (.call f (.w 2 (.o (.idx (.idx (.var 4) (.bin .Mod (.var 3) (.prim .len (.u 4)))) (.ci 1)))))) (.seq (.asg 3 (.bin .FloorDiv (.var 3) (.prim .len (.u 4)))) .skip)
noncomputable abbrev TA(x0 x1:Option (Bool×D))(p:List Int×Nat)(x4:Option (Bool×D)):Env:=[x0,x1,vf (tp p.1),vf (.int (p.2:Nat)),x4]
def FN(ht:∀p∈perms s,∀q∈perms s,F f [tp p,tp q]=some (tp (comp p q)))(h0:0<R.length)(h1:R.length<=1000)(hR:∀e∈R,e.2∈perms s)(hp:p.1∈perms s):
  ex F (Ls f) (TA x0 x1 p (vf (aL R)))=some (.next (TA x0 x1 (KP (pg s) p R) (vf (aL R))))/\(KP (pg s) p R).1 ∈perms s:=by
 have bg:=Nat.mod_lt p.2 h0
 have he:R[p.2%R.length]?=some R[p.2%R.length]:=Zt bg
 have hm:R[p.2%R.length].2 ∈perms s:=hR _ (abu bg)
 have hs:KP (pg s) p R=(comp p.1 R[p.2%R.length].2,p.2/R.length):=by
  unfold KP
  rw[he]
  rfl
 have c1:ev F false (.bin .Mod (.var 3) (.prim .len (.u 4))) (TA x0 x1 p (vf (aL R)))=some (.int ((p.2%R.length:Nat):Int)):=by
  rw[qD (a:= .var 3) (x:= .int (p.2:Nat)) (c:= .prim .len (.u 4)) (y:= .int ((R.map pairD).length :Nat)) rfl rfl,ZA]
  exact ZM (by lia)
 have c2:ev F true (.idx (.var 4) (.bin .Mod (.var 3) (.prim .len (.u 4)))) (TA x0 x1 p (vf (aL R)))=some (pairD R[p.2%R.length]):=by
  rw[zQ,c1]
  exact mX (by rw[ZJ,he];rfl)
 have c3:ev F true (.idx (.idx (.var 4) (.bin .Mod (.var 3) (.prim .len (.u 4)))) (.ci 1)) (TA x0 x1 p (vf (aL R)))=some (tp R[p.2%R.length].2):=by
  rw[zQ,c2]
  rfl
 have c4:ev F false (.call f (.w 2 (.o (.idx (.idx (.var 4) (.bin .Mod (.var 3) (.prim .len (.u 4)))) (.ci 1))))) (TA x0 x1 p (vf (aL R)))=some (tp (comp p.1 R[p.2%R.length].2)):=aB (dn (x:=tp p.1) rfl c3) (ht _ hp _ hm) (aA _)
 let nC:Env:=TA x0 x1 (comp p.1 R[p.2%R.length].2,p.2) (vf (aL R))
 have c5:ev F false (.bin .FloorDiv (.var 3) (.prim .len (.u 4))) nC=some (.int ((p.2/R.length:Nat):Int)):=by
  rw[qD (a:= .var 3) (x:= .int (p.2:Nat)) (c:= .prim .len (.u 4)) (y:= .int ((R.map pairD).length :Nat)) rfl rfl,ZA]
  exact ZM ⟨by lia,by lia⟩
 rw[hs]
 refine⟨?_,dE hp hm⟩
 show ex F (.seq (.asg 2 _) _) _=_
 rw[fW (ay c4)]
 show ex F (.seq (.asg 3 _) .skip) nC=_
 rw[fW (ay c5)]
 rfl
theorem qL(ht:∀p∈perms s,∀q∈perms s,F f [tp p,tp q]=some (tp (comp p q))):∀{rs:List (Rg (List Int))}{p:List Int×Nat}{x4:Option (Bool×D)},(∀R∈rs,0<R.length/\R.length<=1000/\∀e∈R,e.2∈perms s)->p.1∈perms s->
  ∃y4,aO (λx ρ=>(aJ 0 x).bind λys=>(dI ρ [4] ys).bind λρ'=>ex F (Ls f) ρ') (rs.map aL) (TA x0 x1 p x4)=some (.next (TA x0 x1 (rs.foldl (KP (pg s)) p) y4))
 |[],p,x4,_,_=>⟨x4,rfl⟩
 |R::rs,p,x4,h,hp=>by
  obtain⟨a,b,c⟩:=h R ZD
  obtain⟨e1,e2⟩:=FN (x0:=x0) (x1:=x1) ht a b c hp
  obtain⟨y4,ih⟩:=qL (x0:=x0) (x1:=x1) (x4:=vf (aL R)) ht (λQ hQ=>h Q (Zy _ hQ)) e2
  exact⟨y4,by rw[Z4,tu (ρ:=TA x0 x1 p x4) e1];exact ih⟩
def wN(l:List (Rg (List Int)))(n:Nat):l.reverse.foldl (KP (pg s)) (bJ s,n)=ni (pg s) l n:=List.foldl_reverse ..
def Cf(hl:l.length=s)(hR:∀R∈l,0<R.length/\R.length<=1000/\∀e∈R,e.2∈perms s)(h0:F 0 [.int s]=some (tp (bJ s)))(ht:∀p∈perms s,∀q∈perms s,F 1 [tp p,tp q]=some (tp (comp p q)))(h9:F 9 [bA l]=some (.int (iC l:Nat)))(TV:F 22 [.int (n:Nat)]=some (.bl true))(hn:n<iC l):
  out (ex F KG.body (ao KG [bA l,.int (n:Nat)]))=some (tp (ni (pg s) l n).1):=by
 let qM:Env:=[vf (bA l),vf (.int (n:Nat)),none,none,none]
 have t1:ev F false (.not (.call 22 (.u 1))) qM=some (.bl false):=by
  rw[Dr,aB (es:= .u 1) (jw (x:= .int (n:Nat)) rfl) TV rfl]
  rfl
 have t2:ev F false (.chain .LtE .Lt (.ci 0) (.var 1) (.call 9 (.u 0))) qM=some (.bl true):=by
  have c:ev F true (.call 9 (.u 0)) qM=some (.int (iC l:Nat)):=aB (jw rfl) h9 rfl
  show(if decide ((0:Int)<=n)=true then(ev F true (.call 9 (.u 0)) qM).bind (λz=>(cmp .Lt (.int (n:Nat)) z).map D.bl) else some (D.bl false))=_
  rw[ZM (decide_eq_true (ZX _)),c]
  show some (D.bl (decide ((n:Int)<(iC l:Nat))))=_
  rw[decide_eq_true (by lia)]
 have t3:ev F false (.om false (.cons (.not (.call 22 (.u 1))) (.o (.not (.chain .LtE .Lt (.ci 0) (.var 1) (.call 9 (.u 0))))))) qM=some (.bl false):=by
  rw[Dq,xH,t1]
  show(jB F false (.o (.not (.chain .LtE .Lt (.ci 0) (.var 1) (.call 9 (.u 0))))) qM).map D.bl=_
  rw[xH,Dr,t2]
  rfl
 have a2:ev F false (.call 0 (.o (.prim .len (.u 0)))) qM=some (tp (bJ s)):=by
  refine aB (jw (x:= .int s) ?_) h0 (aA _)
  show some (D.int ((l.map aL).length :Nat))=_
  rw[ZA,hl]
 obtain⟨y4,lp⟩:=qL (F:=F) (x0:=vf (bA l)) (x1:=vf (.int (n:Nat))) ht (rs:=l.reverse) (p:=(bJ s,n)) (x4:=none) (λR h=>hR R (aaR.mp h)) (aK.s1 (Y:=pg s))
 rw[wN,List.map_reverse]at lp
 have TX:ex F (.for [4] 0 (.Gj (.var 0)) (Ls 1)) (TA (vf (bA l)) (vf (.int (n:Nat))) (bJ s,n) none)=some (.next (TA (vf (bA l)) (vf (.int (n:Nat))) (ni (pg s) l n) y4)):=lp
 show out (ex F (.seq (.ifs _ _ _) _) qM)=_
 rw[bU,fP,t3]
 show out (ex F (.seq (.asg 2 _) _) qM)=_
 rw[fW (ay a2)]
 show out (ex F (.seq (.for [4] 0 (.Gj (.var 0)) (Ls 1)) _) (TA (vf (bA l)) (vf (.int (n:Nat))) (bJ s,n) none))=_
 rw[fW TX]
 rfl
def KQ(h6:s<=6)(hl:l.length=s)(hR:∀R∈l,0<R.length/\R.length<=1000/\∀e∈R,e.2∈perms s)(ht:∀p∈perms s,∀q∈perms s,F 17 [tp p,tp q]=some (tp (comp p q))):
  out (ex F OV.body (ao OV [bA l,.int (n:Nat)]))=some (tp (ni (pg s) l n).1):=by
 let qM:Env:=[vf (bA l),vf (.int (n:Nat)),none,none,none]
 have a2:ev F false (.nA .tuple (.o (.prim .len (.u 0)))) qM=some (tp (bJ s)):=by
  show(cQ [.int ((l.map aL).length :Nat)]).bind (pZ .tuple)=_
  rw[ZA,hl,cn (Zw h6 (by decide)),dS]
  rfl
 obtain⟨y4,lp⟩:=qL (F:=F) (x0:=vf (bA l)) (x1:=vf (.int (n:Nat))) ht (rs:=l.reverse) (p:=(bJ s,n)) (x4:=none) (λR h=>hR R (aaR.mp h)) (aK.s1 (Y:=pg s))
 rw[wN,List.map_reverse]at lp
 have TX:ex F (.for [4] 0 (.it (.rev (.var 0))) (Ls 17)) (TA (vf (bA l)) (vf (.int (n:Nat))) (bJ s,n) none)=some (.next (TA (vf (bA l)) (vf (.int (n:Nat))) (ni (pg s) l n) y4)):=lp
 show out (ex F (.seq (.asg 2 _) _) qM)=_
 rw[fW (ay a2)]
 show out (ex F (.seq (.for [4] 0 (.it (.rev (.var 0))) (Ls 17)) _) (TA (vf (bA l)) (vf (.int (n:Nat))) (bJ s,n) none))=_
 rw[fW TX]
 rfl
noncomputable def cz:D->Bool
 | .int _=>true
 |_=>false
noncomputable def KR:D->Prop
 | .bX =>True
 | .bl _=>True
 | .int _=>True
 | .str _=>True
 |_=>False
def Cg(h:KR d):out (ex F OW.body (ao OW [d]))=some (.bl (cz d)):=by
 cases d with
 |bX=>rfl
 |bl b=>rfl
 |int i=>rfl
 |str x=>rfl
 |_=>exact h.elim
noncomputable def O5(m:Nat):D->Prop
 | .int i=>i<0\/(m:Int)<=i
 | .bX =>True
 | .bl _=>True
 | .str _=>True
 |_=>False
def Ci(h9:F 9 [bA l]=some (.int (iC l:Nat)))(TV:F 22 [d]=some (.bl (cz d)))(ho:O5 (iC l) d):out (ex F Ln.body (ao Ln [bA l,d]))=some (.bl true):=by
 let qM:Env:=[vf (bA l),vf d,none,none,none]
 have t1:ev F false (.not (.call 22 (.u 1))) qM=some (.bl (!cz d)):=by
  rw[Dr,aB (es:= .u 1) (jw (x:=d) rfl) TV rfl]
  rfl
 have key:ev F true (.om false (.cons (.not (.call 22 (.u 1))) (.o (.not (.chain .LtE .Lt (.ci 0) (.var 1) (.call 9 (.u 0))))))) qM=some (.bl true):=by
  rw[Dq,xH,t1]
  cases d with
  |int i=>
   have c:ev F true (.call 9 (.u 0)) qM=some (.int (iC l:Nat)):=aB (jw rfl) h9 rfl
   have t2:ev F false (.chain .LtE .Lt (.ci 0) (.var 1) (.call 9 (.u 0))) qM=some (.bl false):=by
    show(if decide ((0:Int)<=i)=true then(ev F true (.call 9 (.u 0)) qM).bind (λz=>(cmp .Lt (.int i) z).map D.bl) else some (D.bl false))=_
    have lH:i<0\/(iC l:Int)<=i:=ho
    by_cases h:(0:Int)<=i
    .rw[ZM (decide_eq_true h),c]
     show some (D.bl (decide (i<(iC l:Nat))))=_
     rw[decide_eq_false (by lia)]
    .rw[ZW (by simp[h])]
   show(jB F false (.o (.not (.chain .LtE .Lt (.ci 0) (.var 1) (.call 9 (.u 0))))) qM).map D.bl=_
   rw[xH,Dr,t2]
   rfl
  |bX=>rfl
  |bl b=>rfl
  |str x=>rfl
  |_=>exact ho.elim
 exact dm key
def uS(h:F 23 [y,d]=some (.bl true)):out (ex F Fu.body (ao Fu [y,d]))=some (.bl true):=by
 have c:ev F false (.call 23 (.w 0 (.u 1))) (ao Fu [y,d])=some (.bl true):=aB (dn rfl rfl) h rfl
 show out (ex F (.seq (.ifs _ _ _) _) _)=_
 rw[bU,fP,c]
 rfl
end
end b7
namespace Py
mutual
theorem tH:∀d:D,nv d d=true
 | .bX =>rfl
 | .bl b=>by show(b==b)=true;simp
 | .int i=>by show(i==i)=true;simp
 | .tup xs=>nj xs
 | .lst xs=>nj xs
 | .str _=>rfl
 | .bj _ _ _=>rfl
theorem nj:∀l:List D,Dm l l=true
 |[]=>rfl
 |x::l=>by show(nv x x&&Dm l l)=true;rw[tH x,nj l];rfl
end
end Py
namespace b7
open Py jC
section
variable {n s:Nat}
def Cj(h:s<=6):run T (n+1) 0 [.int s]=some (tp (bJ s)):=by
 rw[a_ (d:=qG) rfl rfl];exact BN (Zw h (by decide))
def nk(h:s<=6):∀p∈perms s,∀q∈perms s,run T (n+1) 1 [tp p,tp q]=some (tp (comp p q)):=λp hp q hq=>by
 rw[a_ (d:=lC) rfl rfl];exact sU (Zw h (by decide)) hp hq
def wO(h:s<=6):∀p∈perms s,∀q∈perms s,run T (n+1) 17 [tp p,tp q]=some (tp (comp p q)):=λp hp q hq=>by
 rw[a_ (d:=lC) rfl rfl];exact sU (Zw h (by decide)) hp hq
def G_(h:s<=6):∀p∈perms s,run T (n+1) 2 [tp p]=some (tp (ip p)):=λp hp=>by
 rw[a_ (d:=uM) rfl rfl];exact Fo (Zw h (by decide)) hp
def TY(ns:List Int){k:Nat}(hk:k<1000):run T (n+2) 13 [.lst (ns.map .int),.int k]=some (.int (iA ns k)):=by
 rw[a_ (d:=sQ 12) rfl rfl]
 refine Ko ns k hk ?_
 rw[a_ (d:=j5) rfl rfl]
 exact Fh ns k
def uT(a k:Int):run T (n+1) 14 [.int a,.int k]=some (.int (drawn a k)):=by
 rw[a_ (d:=lA) rfl rfl]
 exact BE a k
def Ha(ha:0<=a)(h1:1<=s)(h6:s<=6):∃p∈perms s,run T (n+2) 15 [.int a,.int s]=some (tp p):=by
 rw[a_ (d:=qE 14) rfl rfl]
 exact Fm ha h1 h6 λk=>⟨drawn a k,uT a k⟩
def O1(a:Int)(h1:1<=s)(h6:s<=6):∃ps:List (List Int),run T (n+3) 16 [.int a,.int s]=some (.tup (ps.map tp))/\ps.length<=6/\∀p∈ps,p∈perms s:=by
 rw[a_ (d:=kC 15 14) rfl rfl]
 refine bB (Kv (F:=run T (n+2)) (ft:=15) (fd:=14) (s:=s) (a:=a) (λk=>uT a k) λb hb=>Ha hb h1 h6) λys e hl hP=>aa (BQ ys hP) λps ah nD=>?_
 subst ah
 exact⟨ps,e,by rwa [ZA]at hl,nD⟩
theorem kc:∀ps:List (List Int),aF (.tup (ps.map tp))=true
 |[]=>rfl
 |p::ps=>by
  show(aF (tp p)&&aF (.tup (ps.map tp)))=true
  rw[aA,kc ps]
  rfl
def m8(h6:s<=6):∀l t,VL (pg s) l 0->t∈perms s->run T (n+2) 3 [.lst (l.map aw),tp t]=some (tp (c7 (pg s) l 0 t)):=λl t hv ht=>by
 rw[a_ (d:=d3) rfl rfl];exact Fx (nk h6) (G_ h6) hv ht
def m9(h6:s<=6):∀l r,VL (pg s) l 0->r∈perms s->run T (n+2) 4 [.lst (l.map aw),tp r]=some (.lst ((bt r l).map tp)):=λl r hv hr=>by
 rw[a_ (d:=d4) rfl rfl]
 refine Fz (nk h6) hr (FD hv) ?_
 have h1:=uP aK hv
 have h2:=VL.len hv
 rw[aaE]at h2
 have h3:l.length*(pg s).n <=6*6:=Nat.mul_le_mul (by rw[h2];exact h6) h6
 rw[j9]
 lia
def FO(h6:s<=6){ps:List (List Int)}(nD:∀p∈ps,p∈perms s)(hl:ps.length<=720):
  ∃l,Fd (pg s) (· ∈ps) l []/\∀n,run T (n+4) 8 [.tup (ps.map tp),.int s]=some (bA (cx (pg s) (Gen (pg s) (· ∈ps)) 0)):=by
 have key:∀n,∃l,run T (n+3) 5 [.tup (ps.map tp),.int s]=some (.lst (l.map aw))/\Fd (pg s) (· ∈ps) l []:=λn=>by
  exact aa (B7 (F:=run T (n+2)) h6 nD hl (Cj h6) (m8 h6) (m9 h6)) λl e hd=>⟨l,by rw[a_ (d:=d5) rfl rfl];exact e,hd⟩
 refine aa (key 0) λl0 _ PK=>⟨l0,PK,λn=>?_⟩
 refine aa (key n) λl e hd=>?_
 have hM:=mY h6 nD
 have hm:=hd.hm aK nD
 rw[a_ (d:=d8) rfl rfl]
 refine yI h6 e (kc ps) λk hk=>?_
 rw[a_ (d:=d7) rfl rfl]
 exact FG h6 hM hm hk λu hu=>aa (B8 (F:=run T (n+1)) h6 (nk h6) hm.1 hk hu) λx e1 e2=>⟨x,by rw[a_ (d:=d6) rfl rfl];exact e1,e2⟩
def lF(h:gY d 60=true):cmp .NotEq d d=some false:=by
 show(if(gY d 60&&gY d 60)=true then some (!nv d d) else none)=_
 rw[h,tH]
 rfl
def Ck(h:ev F false a ρ=some (.bl k)):jB F k (.cons a r) ρ=jB F k r ρ:=by
 rw[xH,h]
 exact ZM rfl
end
section
variable {n s:Nat}{F:FT}{M N:List Int->Prop}
theorem wQ:∀l:List (Rg (List Int)),iC l=(TL (pg s) l).length
 |[]=>rfl
 |R::l=>by
  show iC l*R.length=_
  rw[B_,wQ l,afE]
theorem Cm:∀{l:List (Rg (List Int))},0<iC l->∀R∈l,0<R.length
 |R::l,h,Q,hQ=>by
  have h':0<iC l*R.length:=h
  rcases ZK.mp hQ with rfl|hQ
  .exact Nat.pos_of_mul_pos_left h' |> λ_=>abe λz=>by rw[z]at h';simp at h'
  .exact Cm (abe λz=>by rw[z]at h';simp at h') Q hQ
structure Kn(s:Nat)(M:List Int->Prop):Prop where
 y:kU (pg s) M
 hm:Hm (pg s) M (cx (pg s) M 0) 0
 tl:∀t,t∈TL (pg s) (cx (pg s) M 0)↔M t
 nd:(TL (pg s) (cx (pg s) M 0)).Nodup
 len:(cx (pg s) M 0).length =s
 rl:∀R∈cx (pg s) M 0,0<R.length/\R.length<=1000/\∀e∈R,e.2∈perms s
def O6(h6:s<=6)(hM:kU (pg s) M)(h:Hm (pg s) M l 0):Kn s M:=by
 obtain⟨a,b,c⟩:=BY aK hM h
 have hm:=a.hm aK hM
 have v:=hm.1
 have hl:(cx (pg s) M 0).length =s:=by have:=VL.len v;rw[aaE]at this;exact this
 have hp:0<iC (cx (pg s) M 0):=by rw[wQ (s:=s)];exact adh ((b _).mpr hM.one)
 refine⟨hM,hm,b,c,hl,λR hR=>?_⟩
 obtain⟨i,hi⟩:=afj hR
 have hv:=VL.at v hi
 have:=m7 (by have:=(ZL.mp hi).1;exact nu hl (Pf (aaE _) this)) hv
 exact⟨Cm hp R hR,(Zw this (Zw h6 (by decide))),λe he=>(hv.st e.1 e.2 he).1⟩
def Cn(k:Kn s M):run T (n+1) 9 [bA (cx (pg s) M 0)]=some (.int (iC (cx (pg s) M 0):Nat)):=by
 rw[a_ (d:=d9) rfl rfl,Ca (s:=s) λR hR=>(k.rl R hR).2.1,wQ (s:=s)]
def FP(h6:s<=6)(k:Kn s M)(ht:t∈perms s):run T (n+2) 10 [bA (cx (pg s) M 0),tp t]=some (Ce (fJ (pg s) (cx (pg s) M 0) 0 0 t)):=by
 rw[a_ (d:=KD) rfl rfl]
 exact yK (F:=run T (n+1)) h6 (nk h6) (G_ h6) k.hm.1 ht
def Co(h:KR d):run T (n+1) 22 [d]=some (.bl (cz d)):=by
 rw[a_ (d:=OW) rfl rfl];exact Cg h
def FQ(h6:s<=6)(k:Kn s M)(hj:j<iC (cx (pg s) M 0)):run T (n+2) 11 [bA (cx (pg s) M 0),.int (j:Nat)]=some (tp (ni (pg s) (cx (pg s) M 0) j).1):=by
 rw[a_ (d:=KG) rfl rfl]
 exact Cf (F:=run T (n+1)) k.len k.rl (Cj h6) (nk h6) (Cn k) (Co (d:= .int (j:Nat)) trivial) hj
def TZ(h6:s<=6)(k:Kn s M):run T (n+2) 19 [bA (cx (pg s) M 0),.int (j:Nat)]=some (tp (ni (pg s) (cx (pg s) M 0) j).1):=by
 rw[a_ (d:=OV) rfl rfl]
 exact KQ (F:=run T (n+1)) h6 k.len k.rl (wO h6)
def O7(h:O5 m d):KR d:=by cases d<;>first|exact trivial|exact h.elim
def Cp(k:Kn s M)(ho:O5 (iC (cx (pg s) M 0)) d):run T (n+3) 20 [bA (cx (pg s) M 0),d]=some (.bl true):=by
 rw[a_ (d:=Fu) rfl rfl]
 refine uS ?_
 rw[a_ (d:=Ln) rfl rfl]
 exact Ci (F:=run T (n+1)) (Cn k) (Co (O7 ho)) ho
def FR(k:Kn s M)(ht:t∈perms s):(fJ (pg s) (cx (pg s) M 0) 0 0 t).isSome =true↔M t:=
 (tD aK k.hm.1 ht λj hj=>absurd hj (aaZ _)).trans ((k.hm.2 t).trans ⟨λh=>h.1,λh=>⟨h,λj hj=>absurd hj (aaZ _)⟩⟩)
def Cq{Ts:List (List Int)}:cmp .NotIn (tp t) (.lst (Ts.map tp))=some (!decide (t∈Ts)):=by
 have e:∀l:List (List Int),((l.map tp).any λz=>nv z (tp t))=decide (t∈l):=λl=>by
  induction l with
  |nil=>rfl
  |cons a l ih=>
   rw[Z4,acD,ih,Ks,aeS,ada,decide_eq_true_eq,decide_eq_true_eq,decide_eq_true_eq,ZK]
   exact⟨λz=>z.imp (λz=>z.symm) id,λz=>z.imp (λz=>z.symm) id⟩
 show(if(gY (tp t) 60&&gY (.lst (Ts.map tp)) 60)=true then some (!(Ts.map tp).any λz=>nv z (tp t)) else none)=_
 rw[sW,show gY (.lst (Ts.map tp)) 60=true from ng 58 Ts,e]
 rfl
theorem tJ(g:List Int->D)(x:List Int):∀ks:List (List Int),(find ks (ks.map g) x).getD (g x)=g x
 |[]=>rfl
 |k::ks=>by
  show(if k=x then some (g k) else find ks (ks.map g) x).getD (g x)=g x
  by_cases h:k=x
  .rw[ZM h,h];rfl
  .rw[ZW h,tJ g x ks]
theorem wR(g:List Int->D)(x:List Int):∀ks:List (List Int),(ks.map g).set (ks.idxOf x) (g x)=ks.map g
 |[]=>rfl
 |k::ks=>by
  rw[List.idxOf_cons]
  by_cases h:k=x
  .subst h
   rw[show(k==k)=true from beq_self_eq_true k]
   rfl
  .rw[show(k==x)=false from beq_eq_false_iff_ne.mpr h]
   show g k::(ks.map g).set (ks.idxOf x) (g x)=_
   rw[wR g x ks]
   rfl
noncomputable def gR(ks:List (List Int))(t:List Int):List (List Int):=if t∈ks then ks else ks++[t]
def FU(g:List Int->D):nI 1 ks (ks.map g) t (g t)= .bj 1 (gR ks t) ((gR ks t).map g):=by
 unfold nI gR
 by_cases h:t∈ks
 .rw[ZM h,ZM h,wR]
 .rw[ZW h,ZW h,aam]
  rfl
def Cr(ks:List (List Int))(t:List Int):(gR ks t).length <=ks.length+1:=by
 unfold gR
 split
 .exact ZU _ _
 .rw[ZQ,aah];exact ZG _
noncomputable abbrev O8:C:=(.seq (.asg 9 (.call 11 (.w 3 (.u 8)))) (.seq (.ifs (.om false (.cons (.cmp .NotEq (.var 9) (.call 19 (.w 3 (.u 8)))) (.cons (.cmp .NotIn (.var 9) (.var 4)) (.o (.cmp .NotEq (.CG 6 (.var 9) (.var 8)) (.var 8)))))) (.seq (.ret (.c (.bl false))) .skip) .skip) (.seq (.kM 6 (.var 9) (.var 8)) (.seq (.asg 10 (.call 10 (.w 3 (.u 9)))) (.seq (.ifs (.om false (.cons (.yQ (.var 10) true) (.o (.cmp .NotEq (.var 10) (.var 8))))) (.seq (.ret (.c (.bl false))) .skip) .skip) .skip)))))
noncomputable abbrev O9:C:=(.seq (.asg 8 (.bin .Mod (.call 14 (.cons (.call 13 (.w 0 (.o (.ci 2)))) (.u 7))) (.var 5))) .skip)
noncomputable abbrev O_:C:=(.seq (.asg 8 (.var 7)) (.seq (.ifs (.cmp .Gt (.var 5) (.ci 60)) O9 .skip) O8))
noncomputable abbrev LW(x0 x1 x2:Option (Bool×D))(y:D)(Ts:List (List Int))(m:Nat)(g:List Int->D)(ks:List (List Int))(x7 x8 x9 x10:Option (Bool×D)):Env:=[x0,x1,x2,vf y,vf (.lst (Ts.map tp)),vf (.int (m:Nat)),some (true,.bj 1 ks (ks.map g)),x7,x8,x9,x10,none,none]
def KS{y:D}(hk:ks.length<=1000)(Qt:F 11 [y,.int (j:Nat)]=some (tp t))(Qu:F 19 [y,.int (j:Nat)]=some (tp t))(Lj:F 10 [y,tp t]=some (.int (j:Nat)))(hT:t∈Ts)(hg:g t= .int (j:Nat)):
  ex F O8 (LW x0 x1 x2 y Ts m g ks x7 (vf (.int (j:Nat))) x9 x10)=some (.next (LW x0 x1 x2 y Ts m g (gR ks t) x7 (vf (.int (j:Nat))) (vf (tp t)) (vf (.int (j:Nat))))):=by
 have je:bR=16777216:=rfl
 let v8:Option (Bool×D):=vf (.int (j:Nat))
 let v9:Option (Bool×D):=vf (tp t)
 let nV:Env:=LW x0 x1 x2 y Ts m g ks x7 v8 v9 x10
 let uR:Env:=LW x0 x1 x2 y Ts m g (gR ks t) x7 v8 v9 x10
 let FV:Env:=LW x0 x1 x2 y Ts m g (gR ks t) x7 v8 v9 v8
 have a1:ev F false (.call 11 (.w 3 (.u 8))) (LW x0 x1 x2 y Ts m g ks x7 v8 x9 x10)=some (tp t):=aB (dn rfl rfl) Qt (aA _)
 have e1:ev F false (.cmp .NotEq (.var 9) (.call 19 (.w 3 (.u 8)))) nV=some (.bl false):=Fg (a:= .var 9) (x:=tp t) rfl (aB (dn rfl rfl) Qu (aA _)) (lF (sW _))
 have e2:ev F false (.cmp .NotIn (.var 9) (.var 4)) nV=some (.bl false):=by
  refine Fg (a:= .var 9) (c:= .var 4) (x:=tp t) (y:= .lst (Ts.map tp)) rfl rfl ?_
  rw[Cq,decide_eq_true hT]
  rfl
 have e3:ev F false (.cmp .NotEq (.CG 6 (.var 9) (.var 8)) (.var 8)) nV=some (.bl false):=by
  refine Fg (c:= .var 8) (x:= .int (j:Nat)) (y:= .int (j:Nat)) ?_ rfl (lF rfl)
  show(cv 1 (tp t)).map (λx=>(find ks (ks.map g) x).getD (.int (j:Nat)))=_
  rw[jA (by decide),<-hg]
  show some ((find ks (ks.map g) t).getD (g t))=_
  rw[tJ]
 have e4:ev F false (.om false (.cons (.cmp .NotEq (.var 9) (.call 19 (.w 3 (.u 8)))) (.cons (.cmp .NotIn (.var 9) (.var 4)) (.o (.cmp .NotEq (.CG 6 (.var 9) (.var 8)) (.var 8)))))) nV=some (.bl false):=by
  rw[Dq,Ck e1,Ck e2,Ck e3]
  rfl
 have a2:ex F (.kM 6 (.var 9) (.var 8)) nV=some (.next uR):=by
  show((cv 1 (tp t)).bind λx=>if ks.length<bR then some (lZ.next (put nV 6 true (nI 1 ks (ks.map g) x (.int (j:Nat))))) else none)=_
  rw[jA (by decide)]
  show(if ks.length<bR then some (lZ.next (put nV 6 true (nI 1 ks (ks.map g) t (.int (j:Nat))))) else none)=_
  rw[ZM (ZH hk (by decide)),<-hg,FU]
  rfl
 have a3:ev F false (.call 10 (.w 3 (.u 9))) uR=some (.int (j:Nat)):=aB (dn rfl rfl) Lj rfl
 have f1:ev F false (.yQ (.var 10) true) FV=some (.bl false):=rfl
 have f2:ev F false (.cmp .NotEq (.var 10) (.var 8)) FV=some (.bl false):=Fg (a:= .var 10) (c:= .var 8) (x:= .int (j:Nat)) (y:= .int (j:Nat)) rfl rfl (lF rfl)
 have f3:ev F false (.om false (.cons (.yQ (.var 10) true) (.o (.cmp .NotEq (.var 10) (.var 8))))) FV=some (.bl false):=by
  rw[Dq,Ck f1,Ck f2]
  rfl
 show ex F (.seq (.asg 9 _) _) _=_
 rw[fW (ay a1)]
 show ex F (.seq (.ifs _ _ _) _) nV=_
 rw[bU,fP,e4]
 show ex F (.seq (.kM 6 _ _) _) nV=_
 rw[fW a2]
 show ex F (.seq (.asg 10 _) _) uR=_
 rw[fW (ay a3)]
 show ex F (.seq (.ifs _ _ _) .skip) FV=_
 rw[bU,fP,f3]
 rfl
theorem wU{at':Nat->List Int}{nb:Nat->Nat}(Qt:∀j,j<m->F 11 [y,.int (j:Nat)]=some (tp (at' j)))(Qu:∀j,j<m->F 19 [y,.int (j:Nat)]=some (tp (at' j)))(Lj:∀j,j<m->F 10 [y,tp (at' j)]=some (.int (j:Nat)))(hT:∀j,j<m->at' j∈Ts)(hg:∀j,j<m->g (at' j)= .int (j:Nat))
  (Qv:∀k,nb k<m) (hd:∀k:Nat,60<m->∀ρ:Env,ρ[0]?=some x0->ρ[7]?=some (vf (.int (k:Nat)))->ρ[5]?=some (vf (.int (m:Nat)))->ev F false (.bin .Mod (.call 14 (.cons (.call 13 (.w 0 (.o (.ci 2)))) (.u 7))) (.var 5)) ρ=some (.int (nb k:Nat))):
  ∀{qs:List Nat}{ks:List (List Int)}{x7 x8 x9 x10:Option (Bool×D)},(∀q∈qs,q<m)->ks.length+qs.length<=1000->
  ∃Qd y7 y8 y9 Pa,aO (λx ρ=>(aJ 0 x).bind λys=>(dI ρ [7] ys).bind λρ'=>ex F O_ ρ') (qs.map λk:Nat=>D.int (k:Int)) (LW x0 x1 x2 y Ts m g ks x7 x8 x9 x10)=some (.next (LW x0 x1 x2 y Ts m g Qd y7 y8 y9 Pa))
 |[],ks,x7,x8,x9,x10,_,_=>⟨ks,x7,x8,x9,x10,rfl⟩
 |q::qs,ks,x7,x8,x9,x10,hq,hn=>by
  rw[Z3]at hn
  obtain⟨j,hj,hb⟩:∃j:Nat,j<m/\ex F (.seq (.ifs (.cmp .Gt (.var 5) (.ci 60)) O9 .skip) O8) (LW x0 x1 x2 y Ts m g ks (vf (.int (q:Nat))) (vf (.int (q:Nat))) x9 x10)=ex F O8 (LW x0 x1 x2 y Ts m g ks (vf (.int (q:Nat))) (vf (.int (j:Nat))) x9 x10):=by
   have c1:ev F false (.cmp .Gt (.var 5) (.ci 60)) (LW x0 x1 x2 y Ts m g ks (vf (.int (q:Nat))) (vf (.int (q:Nat))) x9 x10)=some (.bl (decide ((60:Int)<m))):=rfl
   by_cases h:60<m
   .refine⟨nb q,Qv q,?_⟩
    rw[decide_eq_true (show(60:Int)<m by lia)]at c1
    have c2:=hd q h (LW x0 x1 x2 y Ts m g ks (vf (.int (q:Nat))) (vf (.int (q:Nat))) x9 x10) rfl rfl rfl
    have c3:ex F O9 (LW x0 x1 x2 y Ts m g ks (vf (.int (q:Nat))) (vf (.int (q:Nat))) x9 x10)=some (.next (LW x0 x1 x2 y Ts m g ks (vf (.int (q:Nat))) (vf (.int (nb q:Nat))) x9 x10)):=by
     rw[fW (ay c2)]
     rfl
    rw[bU,fP,c1]
    show((ex F O9 _).bind _)=_
    rw[c3]
    rfl
   .refine⟨q,hq q ZD,?_⟩
    rw[decide_eq_false (show¬(60:Int)<m by lia)]at c1
    rw[bU,fP,c1]
    rfl
  have hl:=Cr ks (at' j)
  have hw:=KS (F:=F) (x0:=x0) (x1:=x1) (x2:=x2) (x7:=vf (.int (q:Nat))) (x9:=x9) (x10:=x10) (m:=m) (show ks.length<=1000 by exact Zw (ZU _ _) hn) (Qt j hj) (Qu j hj) (Lj j hj) (hT j hj) (hg j hj)
  obtain⟨Qd,y7,y8,y9,Pa,ih⟩:=wU Qt Qu Lj hT hg Qv hd (qs:=qs) (x1:=x1) (x2:=x2) (ks:=gR ks (at' j)) (x7:=vf (.int (q:Nat))) (x8:=vf (.int (j:Nat))) (x9:=vf (tp (at' j))) (x10:=vf (.int (j:Nat))) (λk h=>hq k (Zy _ h)) (by lia)
  refine⟨Qd,y7,y8,y9,Pa,?_⟩
  have YT:ex F O_ (put (LW x0 x1 x2 y Ts m g ks x7 x8 x9 x10) 7 false (.int (q:Nat)))=some (.next (LW x0 x1 x2 y Ts m g (gR ks (at' j)) (vf (.int (q:Nat))) (vf (.int (j:Nat))) (vf (tp (at' j))) (vf (.int (j:Nat))))):=by
   show ex F (.seq (.asg 8 (.var 7)) (.seq (.ifs (.cmp .Gt (.var 5) (.ci 60)) O9 .skip) O8)) (LW x0 x1 x2 y Ts m g ks (vf (.int (q:Nat))) x8 x9 x10)=_
   rw[fW (ay (e:= .var 7) (d:= .int (q:Nat)) rfl)]
   exact hb.trans hw
  rw[Z4,tu YT]
  exact ih
end
noncomputable abbrev oA:E:= .bin .Add (.var 5) (.bin .Mod (.call 13 (.w 0 (.o (.ci 3)))) (.ci 999))
noncomputable abbrev oB:E:= .cons (.c (.bl true)) (.cons (.c .bX) (.o (.c (.str "0"))))
noncomputable abbrev oC:E:= .cons oA oB
noncomputable abbrev oD:E:= .w 5 (.cons (.neg (.ci 1)) oC)
def holds(ns:List Int)(hl:ns.length<=63):run T (6+1) 21 [.lst (ns.map .int)]=some (.bl true):=by
 have g0:0<=iA ns 0%5:=abg _ (by decide)
 have g1:iA ns 0%5<5:=abr _ (by decide)
 obtain⟨s,hs⟩:∃s:Nat,1+iA ns 0%5=s:=⟨(1+iA ns 0%5).toNat,by lia⟩
 have h1:1<=s:=by lia
 have h6:s<=6:=by lia
 have je:bR=16777216:=rfl
 obtain⟨ps,er,iJ,nD⟩:=O1 (n:=3) (iA ns 1) h1 h6
 obtain⟨B,eB,hB⟩:=KO (F:=run T 5) h1 h6 (wO h6) nD (by lia)
 obtain⟨l0,hd,KU⟩:=FO h6 nD (by lia)
 obtain⟨q,hq,FW⟩:=Ha (n:=4) (a:=iA ns 3) (s:=s) (Km ns 3) h1 h6
 have hM:=mY h6 nD
 have kn:Kn s (Gen (pg s) (· ∈ps)):=O6 h6 hM (hd.hm aK nD)
 have Zm:B.length<=720:=Zw (lE _ _ hB.nd λx hx=>BZ nD (hB.gen x hx)) (nc h6)
 have Lu:∀t,t∈dw.c8 B↔Gen (pg s) (· ∈ps) t:=λt=>((dw.dP B).mem_iff).trans ((hB.done t).trans wA)
 have YU:(dw.c8 B).length <=720:=by rw[(dw.dP B).length_eq];lia
 have V5:(dw.c8 B).Nodup :=(dw.dP B).nodup_iff.mpr hB.nd
 generalize Zn:Gen (pg s) (· ∈ps)=M at KU kn hM Lu
 generalize Zo:dw.c8 B=Ts at eB Lu YU V5
 have wV:Ts.length=iC (cx (pg s) M 0):=by
  rw[wQ (s:=s)]
  exact((adM V5 kn.nd).mpr λt=>(Lu t).trans (kn.tl t).symm).length_eq
 have jP:0<Ts.length:=adh ((Lu _).mpr hM.one)
 generalize kN:cx (pg s) M 0=l at KU wV
 have hv:VL (pg s) l 0:=kN▸kn.hm.1
 have hR:∀R∈l,0<R.length:=λR h=>(kn.rl R (kN▸h)).1
 let F:=run T 6
 let at':Nat->List Int:=λj=>(ni (pg s) l j).1
 have V6:∀j,M (at' j):=λj=>by
  have:=Cc aK j hv hR
  rw[<-kN]at this
  exact((kn.hm.2 _).mp (kN▸this)).1
 have num:∀j,j<Ts.length->fJ (pg s) l 0 0 (at' j)=some j:=λj hj=>by
  rw[Cd aK j hv hR,Nat.zero_mul,aaE,Nat.mod_eq_of_lt (by rw[<-wV];exact hj)]
 let g:List Int->D:=λt=>Ce (fJ (pg s) l 0 0 t)
 have YV:∀k:Nat,k<1000->F 13 [.lst (ns.map .int),.int k]=some (.int (iA ns k)):=λk hk=>TY (n:=4) ns hk
 have VR:∀j,j<Ts.length->F 11 [bA l,.int (j:Nat)]=some (tp (at' j)):=λj hj=>by
  have:=FQ (n:=4) h6 kn (j:=j) (by rw[kN,<-wV];exact hj)
  rwa [kN]at this
 have YW:∀j,j<Ts.length->F 19 [bA l,.int (j:Nat)]=some (tp (at' j)):=λj _=>by
  have:=TZ (n:=4) h6 kn (j:=j)
  rwa [kN]at this
 have Qm:∀t,t∈perms s->F 10 [bA l,tp t]=some (Ce (fJ (pg s) l 0 0 t)):=λt ht=>by
  have:=FP (n:=4) h6 kn ht
  rwa [kN]at this
 have YX:∀d,O5 (iC l) d->F 20 [bA l,d]=some (.bl true):=λd ho=>by
  have:=Cp (n:=3) kn (d:=d) (kN▸ho)
  rwa [kN]at this
 have YY:F 18 [.tup (ps.map tp),.int s]=some (.lst (Ts.map tp)):=by
  show run T (5+1) 18 _=_
  rw[a_ (d:=Ft) rfl rfl];exact eB
 have f8:F 8 [.tup (ps.map tp),.int s]=some (bA l):=KU 2
 let sc:Option (Bool×D):=vf (.lst (ns.map .int))
 let x1:Option (Bool×D):=vf (.int s)
 let x2:Option (Bool×D):=vf (.tup (ps.map tp))
 let x3:Option (Bool×D):=vf (bA l)
 let x4:Option (Bool×D):=vf (.lst (Ts.map tp))
 have mx:∀{b:Bool}{ρ:Env} (i:Int) (k:Nat),i=k->ρ[0]?=some sc->k<1000->ev F b (.call 13 (.w 0 (.o (.ci i)))) ρ=some (.int (iA ns k)):=λ{b ρ} i k e h0 hk=>by
  subst e
  have hv:ev F true (.var 0) ρ=some (.lst (ns.map .int)):=by
   show rd true ρ 0=_
   unfold rd
   rw[h0]
   rfl
  exact aB (dn hv rfl) (YV k hk) rfl
 let nb:Nat->Nat:=λk=>(drawn (iA ns 2) k%(Ts.length:Int)).toNat
 have V7:∀k:Nat,drawn (iA ns 2) k%(Ts.length:Int)=nb k:=λk=>by
  have:0<=drawn (iA ns 2) k%(Ts.length:Int):=abg _ (by lia)
  show _=((drawn (iA ns 2) k%(Ts.length:Int)).toNat :Int)
  lia
 have Qv:∀k,nb k<Ts.length:=λk=>by
  have:=V7 k
  have:drawn (iA ns 2) k%(Ts.length:Int)<Ts.length:=abr _ (by lia)
  lia
 have hd:∀k:Nat,60<Ts.length->∀ρ:Env,ρ[0]?=some sc->ρ[7]?=some (vf (.int (k:Nat)))->ρ[5]?=some (vf (.int (Ts.length:Nat)))->ev F false (.bin .Mod (.call 14 (.cons (.call 13 (.w 0 (.o (.ci 2)))) (.u 7))) (.var 5)) ρ=some (.int (nb k:Nat)):=λk _ ρ r0 r7 r5=>by
  have v7:ev F true (.var 7) ρ=some (.int (k:Nat)):=by
   show rd true ρ 7=_
   unfold rd
   rw[r7]
   rfl
  have v5:ev F true (.var 5) ρ=some (.int (Ts.length:Nat)):=by
   show rd true ρ 5=_
   unfold rd
   rw[r5]
   rfl
  rw[qD (aB (dn (mx 2 2 rfl r0 (by lia)) v7) (uT (n:=5) (iA ns 2) k) rfl) v5]
  show(if(0:Int)<(Ts.length:Nat) then some (D.int (drawn (iA ns 2) k%(Ts.length:Int))) else none)=_
  rw[ZM (by lia),V7]
 let oq:Env:=[sc,x1,none,none,none,none,none,none,none,none,none,none,none]
 let nC:Env:=[sc,x1,x2,none,none,none,none,none,none,none,none,none,none]
 let Gk:Env:=[sc,x1,x2,x3,none,none,none,none,none,none,none,none,none]
 let ui:Env:=[sc,x1,x2,x3,x4,none,none,none,none,none,none,none,none]
 let Zp:Env:=[sc,x1,x2,x3,x4,vf (.int (Ts.length:Nat)),none,none,none,none,none,none,none]
 let uR:Env:=LW sc x1 x2 (bA l) Ts Ts.length g [] none none none none
 have s1:ev F false (.bin .Add (.ci 1) (.bin .Mod (.call 13 (.w 0 (.o (.ci 0)))) (.ci 5))) (ao KH [.lst (ns.map .int)])=some (.int s):=by
  rw[qD (a:= .ci 1) (x:= .int 1) (y:= .int (iA ns 0%5)) rfl (qD (c:= .ci 5) (y:= .int 5) (mx 0 0 rfl rfl (by lia)) rfl)]
  show some (D.int (1+iA ns 0%5))=_
  rw[hs]
 have s2:ev F false (.call 16 (.cons (.call 13 (.w 0 (.o (.ci 1)))) (.u 1))) oq=some (.tup (ps.map tp)):=aB (dn (mx 1 1 rfl rfl (by lia)) (y:= .int s) rfl) er (kc ps)
 have s3:ev F false (.call 8 (.w 2 (.u 1))) nC=some (bA l):=j7 (dn (x:= .tup (ps.map tp)) (y:= .int s) rfl rfl) f8 rfl
 have s4:ev F false (.call 18 (.w 2 (.u 1))) Gk=some (.lst (Ts.map tp)):=j7 (dn (x:= .tup (ps.map tp)) (y:= .int s) rfl rfl) YY rfl
 have s5:ev F false (.prim .len (.u 4)) ui=some (.int (Ts.length:Nat)):=by
  show some (D.int ((Ts.map tp).length :Nat))=_
  rw[ZA]
 obtain⟨ks,y7,y8,y9,Pa,lp⟩:=wU (F:=F) (x0:=sc) (x1:=x1) (x2:=x2) (g:=g) VR YW (λj hj=>by rw[Qm _ (hM.s _ (V6 j)),num j hj];rfl) (λj _=>(Lu _).mpr (V6 j)) (λj hj=>by show Ce _=_;rw[num j hj];rfl) Qv hd (qs:=List.range (min Ts.length 60)) (ks:=[]) (x7:=none) (x8:=none) (x9:=none) (x10:=none) (λk h=>by have:=aar.mp h;lia) (by rw[aeU,aem];lia)
 let BL:Env:=LW sc x1 x2 (bA l) Ts Ts.length g ks y7 y8 y9 Pa
 have s7:ex F (.for [7] 0 (.fj (.o (.prim .min (.w 5 (.o (.ci 60)))))) O_) uR=some (.next BL):=by
  show((cQ [.int (if(60:Int)<(Ts.length:Nat) then 60 else(Ts.length:Nat))]).bind λxs=>aO (λx ρ=>(aJ 0 x).bind λys=>(dI ρ [7] ys).bind λρ'=>ex F O_ ρ') xs uR)=_
  rw[show(if(60:Int)<(Ts.length:Nat) then 60 else((Ts.length:Nat):Int))=((min Ts.length 60:Nat):Int) by split<;>lia,cn (by lia),fI]
  exact lp
 let tG:Env:=put BL 11 false (tp q)
 have s8:ev F false (.call 15 (.cons (.call 13 (.w 0 (.o (.ci 3)))) (.u 1))) BL=some (tp q):=aB (dn (mx 3 3 rfl rfl (by lia)) (y:= .int s) rfl) FW (aA _)
 have s9:ev F false (.cmp .NotEq (.cmp .Is (.call 10 (.w 3 (.u 11))) (.c .bX)) (.cmp .NotIn (.var 11) (.var 4))) tG=some (.bl false):=by
  have c1:ev F true (.cmp .Is (.call 10 (.w 3 (.u 11))) (.c .bX)) tG=some (.bl (fJ (pg s) l 0 0 q).isNone):=Fg (c:= .c .bX) (y:= .bX) (aB (dn (x:=bA l) (y:=tp q) rfl rfl) (Qm q hq) (by cases fJ (pg s) l 0 0 q<;>rfl)) rfl (by cases fJ (pg s) l 0 0 q<;>rfl)
  have c2:ev F true (.cmp .NotIn (.var 11) (.var 4)) tG=some (.bl (!decide (q∈Ts))):=Fg (a:= .var 11) (c:= .var 4) (x:=tp q) (y:= .lst (Ts.map tp)) rfl rfl Cq
  have e:(!decide (q∈Ts))=(fJ (pg s) l 0 0 q).isNone :=by
   have:=FR kn hq
   rw[kN,<-Lu]at this
   rw[<-Option.not_isSome,aeS,abG,abG,decide_eq_false_iff_not,<-this,Bool.not_eq_true]
  rw[e]at c2
  exact Fg c1 c2 (lF rfl)
 have r0:0<=iA ns 3%999:=abg _ (by decide)
 let L:List D:=[.int (Ts.length:Nat),.int (-1),.int ((Ts.length:Nat)+iA ns 3%999),.bl true,.bX,.str "0"]
 let nV:Env:=put tG 12 true (.lst L)
 have RA:ex F (.cS 12 (.lst oD)) tG=some (.next nV):=by
  have c1:ev F false oA tG=some (.int ((Ts.length:Nat)+iA ns 3%999)):=by
   rw[qD (a:= .var 5) (x:= .int (Ts.length:Nat)) (y:= .int (iA ns 3%999)) rfl (qD (c:= .ci 999) (y:= .int 999) (mx 3 3 rfl rfl (by lia)) rfl)]
   rfl
  have c2:cR F false oC tG=some [.int ((Ts.length:Nat)+iA ns 3%999),.bl true,.bX,.str "0"]:=by
   rw[p7,c1]
   rfl
  have c3:ev F false (.lst oD) tG=some (.lst L):=by
   have c4:cR F false oD tG=some L:=by
    show((((cR F false oC tG).bind λxs=>some (D.int (-1)::xs))).bind λxs=>some (D.int (Ts.length:Nat)::xs))=_
    rw[c2]
    rfl
   rw[RL,c4]
   rfl
  rw[zR,c3]
  rfl
 have hL:∀d∈L,O5 (iC l) d:=λd h=>by
  rw[<-wV]
  simp only[L,ZK,List.not_mem_nil,or_false]at h
  rcases h with rfl|rfl|rfl|rfl|rfl|rfl
  .exact .inr (adK _)
  .exact .inl (by decide)
  .exact .inr (by lia)
  .exact trivial
  .exact trivial
  .exact trivial
 have K_:ev F true (.call 20 (.w 3 (.o (.idx (.var 12) (.bin .Mod (.call 13 (.w 0 (.o (.ci 4)))) (.ci 6)))))) nV=some (.bl true):=by
  obtain⟨j,hj⟩:∃j:Nat,iA ns 4%6=j:=⟨(iA ns 4%6).toNat,by have:0<=iA ns 4%6:=abg _ (by decide);lia⟩
  have V8:j<L.length:=by have:iA ns 4%6<6:=abr _ (by decide);show j<6;lia
  have c1:ev F false (.bin .Mod (.call 13 (.w 0 (.o (.ci 4)))) (.ci 6)) nV=some (.int (j:Nat)):=by
   rw[qD (c:= .ci 6) (y:= .int 6) (mx 4 4 rfl rfl (by lia)) rfl]
   show some (D.int (iA ns 4%6))=_
   rw[hj]
  have c2:ev F true (.idx (.var 12) (.bin .Mod (.call 13 (.w 0 (.o (.ci 4)))) (.ci 6))) nV=some L[j]:=by
   rw[zQ,c1]
   show(bT L.length (j:Int)).bind (λk=>L[k]?)=_
   unfold bT
   rw[ZM (by lia),ZM (by lia)]
   exact Zt V8
  exact aB (dn (x:=bA l) rfl c2) (YX _ (hL _ (abu V8))) rfl
 rw[a_ (d:=KH) rfl rfl]
 show out (ex F (.seq (.asg 1 _) _) (ao KH [.lst (ns.map .int)]))=_
 rw[fW (ay s1)]
 show out (ex F (.seq (.asg 2 _) _) oq)=_
 rw[fW (ay s2)]
 show out (ex F (.seq (.asg 3 _) _) nC)=_
 rw[fW (ay s3)]
 show out (ex F (.seq (.asg 4 _) _) Gk)=_
 rw[fW (ay s4)]
 show out (ex F (.seq (.asg 5 _) _) ui)=_
 rw[fW (ay s5)]
 show out (ex F (.seq (.for [7] 0 _ O_) _) uR)=_
 rw[fW s7]
 show out (ex F (.seq (.asg 11 _) _) BL)=_
 rw[fW (ay s8)]
 show out (ex F (.seq (.ifs _ _ _) _) tG)=_
 rw[bU,fP,s9]
 show out (ex F (.seq (.cS 12 _) _) tG)=_
 rw[fW RA]
 exact dm K_
end b7
namespace b7
open PySem L2 Py
def top(i:Nat):Stmt:=PySem.Challenge.pw_turnyard_k14_whole_numbers.main.body.getD i (.Pass ⟨0,0,0,0⟩)
abbrev Row:=Str×Nat×Fd×List Str
noncomputable def tb:List Row:=[("still",8,d0,["size"]),
 ("times",9,d1,["one","other"]),
 ("back",10,d2,["turn"]),
 ("left_over",12,d3,["found","turn","rest","place","steps"]),
 ("products_with",13,d4,["found","turn","made","steps","step"]),
 ("found_steps",14,d5,["row","size","found","waiting","rest","moved","place"]),
 ("least_turn",15,d6,["found","place","turn","least","steps","part"]),
 ("rung_at",16,d7,["found","place","steps"]),
 ("ladder",17,d8,["row","size","found"]),
 ("count_of",18,d9,["yard","count","rung"]),
 ("number_of",19,KD,["yard","turn","number","rest","place","rung","points","chosen"]),
 ("turn_at",20,KG,["yard","number","turn","left","rung"]),
 ("_law_cell_at",22,VV,["_law_script","_law_k"]),
 ("_law_mixed",23,VW,["_law_script","_law_k","_law_drawn_here"]),
 ("_law_drawn",24,VX,["_law_number","_law_k","_law_drawn_here"]),
 ("_law_turn",25,VY,["_law_number","_law_size","_law_found","_law_one","_law_other","_law_many","_law_shift","_law_k","_law_made","_law_at_here"]),
 ("_law_row",26,VZ,["_law_number","_law_size"]),
 ("_law_times",27,V0,["_law_one","_law_other"]),
 ("_law_all",29,Ft,["_law_row_here","_law_size","_law_start","_law_met","_law_todo","_law_turn_here","_law_other","_law_goal"]),
 ("_law_at",30,OV,["_law_yard","_law_number","_law_found","_law_left","_law_rung"]),
 ("_law_refused",31,Fu,["_law_yard","_law_number","e","_law_some"]),
 ("law",32,KH,["_law_script","_law_size","_law_row_here","_law_yard","_law_turns","_law_many","_law_met","_law_k","_law_number","_law_turn_here","_law_back_again","_law_other","_law_odd"]),
 ("is_whole",7,OW,["thing"])]
noncomputable def G:GT:=(tb.map λr=>r.1,[])
noncomputable def V9(r:Row):Bool:=
 decide ((af (top r.2.1)).kind = .function)&&!(af (top r.2.1)).isCoroutine&&!(af (top r.2.1)).isGenerator&&decide r.2.2.2.Nodup&&decide ((r.2.2.2.take r.2.2.1.par).length =r.2.2.1.par) &&
 (r.2.2.2.take r.2.2.1.par).all (λx=>decide ((af (top r.2.1)).names.lookup x=some .local \/(af (top r.2.1)).names.lookup x=some .cell))&&(af (top r.2.1)).names.all (λy=>decide (y.2≠ .free)) &&
 (decide (r.1="_law_refused")||gT G r.2.2.1.body r.2.2.2 (af (top r.2.1)) (bD (top r.2.1)))&&decide (r.2.2.2.length=r.2.2.1.iX)
def ck:tb.all V9=true:=by decide +kernel
def Bd(r:Row):Prop:=∀(kV gC pm:Value) (an:Option Addr) (dH ct:Value) (us:List Value),us.length=(r.2.2.2.take r.2.2.1.par).length ->bindArgs (PySem.W.fnOf r.1 r.1 (de (top r.2.1)) (bD (top r.2.1)) (af (top r.2.1)) .none kV gC pm an dH ct) ⟨us,[]⟩=pure ((r.2.2.2.take r.2.2.1.par).zip us)
def KW:List Row->Prop
 |[]=>True
 |r::l=>Bd r/\KW l
section
variable {r:Row}{l:List Row}{p q o:Str}(H:KW l)
include H
def YZ(e:r.2.2.2.take r.2.2.1.par=[p])(h:∀(kV gC pm:Value) (an:Option Addr) (dH ct u:Value),bindArgs (PySem.W.fnOf r.1 r.1 (de (top r.2.1)) (bD (top r.2.1)) (af (top r.2.1)) .none kV gC pm an dH ct) ⟨[u],[]⟩=pure [(p,u)]):KW (r::l):=
 ⟨λkV gC pm an dH ct us hl=>by rw[e]at hl⊢;obtain⟨u,rfl⟩:=OF hl;exact h kV gC pm an dH ct u,H⟩
def Y0(e:r.2.2.2.take r.2.2.1.par=[p,q])(h:∀(kV gC pm:Value) (an:Option Addr) (dH ct u v:Value),bindArgs (PySem.W.fnOf r.1 r.1 (de (top r.2.1)) (bD (top r.2.1)) (af (top r.2.1)) .none kV gC pm an dH ct) ⟨[u,v],[]⟩=pure [(p,u),(q,v)]):KW (r::l):=
 ⟨λkV gC pm an dH ct us hl=>by rw[e]at hl⊢;obtain⟨u,v,rfl⟩:=OG hl;exact h kV gC pm an dH ct u v,H⟩
def Y1(e:r.2.2.2.take r.2.2.1.par=[p,q,o])(h:∀(kV gC pm:Value) (an:Option Addr) (dH ct u v w:Value),bindArgs (PySem.W.fnOf r.1 r.1 (de (top r.2.1)) (bD (top r.2.1)) (af (top r.2.1)) .none kV gC pm an dH ct) ⟨[u,v,w],[]⟩=pure [(p,u),(q,v),(o,w)]):KW (r::l):=
 ⟨λkV gC pm an dH ct us hl=>by rw[e]at hl⊢;obtain⟨u,v,w,rfl⟩:=Te hl;exact h kV gC pm an dH ct u v w,H⟩
end
def T1:KW tb:=by
 repeat first
  |refine YZ ?_ rfl λ_ _ _ _ _ _ _=>rfl
  |refine Y0 ?_ rfl λ_ _ _ _ _ _ _ _=>rfl
  |refine Y1 ?_ rfl λ_ _ _ _ _ _ _ _ _=>rfl
 exact trivial
theorem wW:∀{l:List Row},KW l->∀r∈l,Bd r
 |_::_,h,_,.head _=>h.1
 |_::_,h,r,.tail _ m=>wW h.2 r m
def Dh(K:aC)(r:Row):Prop:=∃(f:Addr) (fd:FuncData),zI K r.1 r.1 (top r.2.1) f fd/\PySem.W.nsIn K mainGlobals r.1=some (some (.ref f))
def Pb(K:aC):List Row->Prop
 |[]=>True
 |r::l=>Dh K r/\Pb K l
theorem wX{K:aC}:∀{l:List Row},Pb K l->∀r∈l,Dh K r
 |_::_,h,_,.head _=>h.1
 |_::_,h,r,.tail _ m=>wX h.2 r m
def Y2{K:aC}{r:List Row}{x:Str}{i:Nat}{d:Fd}{N:List Str}{f:Addr}{oc:Value}{od an:Option Addr}{sl:Array (Option Value)}{kV dc pm cd ct:Value}(a:PySem.W.nsIn K mainGlobals x=some (some (.ref f)))
  (l:K.lookup f=some ⟨oc,od,.func (PySem.W.fnOf x x (de (top i)) (bD (top i)) (af (top i)) .none kV dc pm an cd ct),sl⟩) (c:PySem.W.codeIn K cd x=true) (k:PySem.W.keepIn K (.ref f)=true) (h:Pb K r):Pb K ((x,i,d,N)::r):=
 ⟨⟨f,_,Il l c k,a⟩,h⟩
def Zs(K:aC):List Str->Prop
 |[]=>True
 |x::l=>PySem.W.nsIn K mainGlobals x=some none/\Zs K l
def zs{K:aC}(a:PySem.W.nsIn K mainGlobals x=some none)(h:Zs K l):Zs K (x::l):=⟨a,h⟩
theorem Hb{K:aC}(X:K.In h)(GM:h.Ns mainGlobals mg):∀{l:List Str},Zs K l->∀x∈l,mg x=none
 |_::_,z,_,.head _=>afB X GM z.1
 |_::_,z,x,.tail _ m=>Hb X GM z.2 x m
def Cu(F:FT)(ρ:Py.Env)(v:D)(h:ev F true (.om k es) ρ=some v):ev F false (.om k es) ρ=some v:=h
noncomputable abbrev cG:E:= .om false (.cons (.not (.call 22 (.u 1))) (.o (.not (.chain .LtE .Lt (.ci 0) (.var 1) (.call 9 (.u 0))))))
def all_mk{l:PySem.W.OpenLaw}{w:World}{K:aC}{h:Heap}{mg:Str->Option Value}{fa cN cT cX cW cY:Addr}(X:K.In h)(GM:h.Ns mainGlobals mg)(Y3:mg "law"=some (.ref fa))(D:Pb K tb)(Z:Zs K eV)
  (Qw:PySem.W.nsIn K mainGlobals "NoNumber"=some (some (.ref cN))) (T3:PySem.W.nsIn K mainGlobals "NoTurn"=some (some (.ref cT))) (T4:PySem.W.nsIn K mainGlobals "NoText"=some (some (.ref cX))) (T8:PySem.W.nsIn K mainGlobals "NotWithin"=some (some (.ref cW))) (T9:PySem.W.nsIn K mainGlobals "YardError"=some (some (.ref cY)))
  (xi:PySem.W.excIn K cN [.type "ValueError",.type "Exception",.type "BaseException",.type "object"] "ValueError.__new__"=true) (xk:L2.excIn K cN=true) (kv:PySem.W.kitOne K (.ref cN) (.type "ValueError")=some true) (xm:PySem.W.exmOne K (.ref cN) (.ref cN)=some true)
  (k1:PySem.W.kitOne K (.ref cN) (.ref cT)=some false) (k2:PySem.W.kitOne K (.ref cN) (.ref cX)=some false) (k3:PySem.W.kitOne K (.ref cN) (.ref cW)=some false) (k4:PySem.W.kitOne K (.ref cN) (.ref cY)=some true) (zv:PySem.W.nsIn K mainGlobals "ValueError"=some none):
  ∃fd:FuncData,(∀(s:Shared) (v:Value),BindsTo s fd ⟨[v],[]⟩ [("_law_script",v)])/\∀base:Heap,K.In base->base.Ns mainGlobals mg->fY l.prog w K mg base rj (6+1) fa fd ["_law_script"] (uA K 1 (run T (6+1) 21)):=by
 have hb:=Hb X GM Z
 have n9:∀(x:Str) (i:Int),(x,i)∈G.2->∃t,mg x=some (.int i t):=λx i hx=>nomatch hx
 have cr:∀r∈tb,c_ r.2.2.2 (r.2.2.2.take r.2.2.1.par) (af (top r.2.1))/\(r.1="_law_refused"\/gT G r.2.2.1.body r.2.2.2 (af (top r.2.1)) (bD (top r.2.1))=true)/\(r.2.2.2.take r.2.2.1.par).length =r.2.2.1.par/\r.2.2.2.length=r.2.2.1.iX:=λr hr=>by
  have h:=abP.mp ck r hr
  unfold V9 at h
  simp only[Zu,ada,decide_eq_true_eq,abP,abG]at h
  obtain⟨⟨⟨⟨⟨⟨⟨⟨h1,h2⟩,h3⟩,h4⟩,h5⟩,h6⟩,h7⟩,h8⟩,h9⟩:=h
  exact⟨⟨h1,h2,h3,h4,by rw[h5],h6,h7⟩,h8,h5,h9⟩
 have rd:tb[20]?=some (("_law_refused",31,Fu,["_law_yard","_law_number","e","_law_some"]):Row):=rfl
 have rt:tb[11]?=some (("turn_at",20,KG,["yard","number","turn","left","rung"]):Row):=rfl
 have pM:∀(base:Heap),K.In base->∀(f:Nat) (x:Str),G.1[f]?=some x->uH l.prog w K mg base G T f x:=λbase KB f x hf=>by
  obtain⟨r,hr,rfl⟩:=acu.mp ((ZJ ..).symm.trans hf)
  have hm:=aac hr
  obtain⟨fa,fd,F,a⟩:=wX D r hm
  obtain⟨S,ok,l1,l2⟩:=cr r hm
  have bg:=(ZL.mp hr).1
  by_cases hf:f=20
  .subst hf
   cases hr.symm.trans rd
   obtain⟨Tu,VM,F',a'⟩:=wX D _ (aac rt)
   obtain⟨S',_,Tv,VO⟩:=cr _ (aac rt)
   have B':=F'.binds (wW T1 _ (aac rt))
   refine⟨_,_,_,abF X GM a,F.kp,F.binds (wW T1 _ hm),λn ds r z=>Fe (d:=Fu) rfl l1 ds r z,λn ih=>?_⟩
   exact nU (f:=20) (g:=23) (d:=Fu) (d':=KG) (dg:=Ln) (c:=cG) (es:= .w 0 (.u 1)) hb n9 ih F' S' B' (abF X GM a') rfl (by decide +kernel) rfl (by decide +kernel) rfl rfl (Kl KB (abF X GM Qw) xi) PySem.F.excBase_ValueError (by decide) (abF X GM Qw) xm (by decide) F S rfl rfl rfl (by decide +kernel) (by decide +kernel) (by decide +kernel) (by decide) (λenv=>⟨rfl,rfl,rfl⟩) (js.of xk) (iN:=2) (jN:=3) rfl rfl (by decide) rfl rfl (by decide) (by decide) (by decide +kernel) (by decide +kernel) (by decide +kernel) (afB X GM zv)
    (by decide +kernel) (abF X GM T3) (by decide) k1 (by decide +kernel) (abF X GM T4) (by decide) k2 (by decide +kernel) (abF X GM T8) (by decide) k3 (by decide +kernel) (abF X GM T9) (by decide) k4 kv rfl rfl rfl rfl rfl (λ_=>rfl) Cu (BC rfl)
  .refine Bq.step hb n9 (d:=r.2.2.1) ?_ ⟨top r.2.1,fa,fd,_,_,F,S,F.binds (wW T1 r hm),abF X GM a,ok.resolve_left λz=>hf ?_,l1,l2⟩
   .show((tb.map λr=>r.2.2.1)++[Ln])[f]?=_
    rw[aaq (by rw[ZA];exact bg),ZJ,hr];rfl
   .have nd:(tb.map λr=>r.1).Nodup :=by decide +kernel
    have e1:(tb.map λr=>r.1)[f]?=some ("_law_refused":Str):=by rw[ZJ,hr];exact congrArg some z
    have e2:(tb.map λr=>r.1)[20]?=some ("_law_refused":Str):=rfl
    exact(List.getElem?_inj (by rw[ZA];exact bg) nd).mp (e1.trans e2.symm)
 have hl:tb[21]?=some (("law",32,KH,["_law_script","_law_size","_law_row_here","_law_yard","_law_turns","_law_many","_law_met","_law_k","_law_number","_law_turn_here","_law_back_again","_law_other","_law_odd"]):Row):=rfl
 have hm:=aac hl
 obtain⟨f,fd,F,a⟩:=wX D _ hm
 cases Y3.symm.trans (abF X GM a)
 obtain⟨S,ok,l1,l2⟩:=cr _ hm
 obtain⟨oc,od,kV,gC,pm,an,dH,ct,Cy,rfl,_⟩:=id F.ex
 exact⟨_,λs v=> .of_eq rfl,λbase KB _=>Br (n:=6) (f:=21) (d:=KH) (ps:=["_law_script"]) hb n9 (E8 (pM base KB) 6) F S rfl (ok.resolve_left (by decide)) l1 l2⟩
end b7
def Y4:PySem.Stmt:=b7.top 0
def eC:PySem.Stmt:=b7.top 1
def cu:PySem.Stmt:=b7.top 2
def kJ:PySem.Stmt:=b7.top 3
def K9:PySem.Stmt:=b7.top 4
def xl:PySem.Stmt:=b7.top 5
def Y5:PySem.Stmt:=b7.top 6
def My:PySem.Stmt:=b7.top 7
def Y6:PySem.Stmt:=b7.top 8
def Y7:PySem.Stmt:=b7.top 9
def T_:PySem.Stmt:=b7.top 10
def Ua:PySem.Stmt:=b7.top 11
def Ub:PySem.Stmt:=b7.top 12
def Uc:PySem.Stmt:=b7.top 13
def Ud:PySem.Stmt:=b7.top 14
def Ue:PySem.Stmt:=b7.top 15
def Ug:PySem.Stmt:=b7.top 16
def Uh:PySem.Stmt:=b7.top 17
def Ui:PySem.Stmt:=b7.top 18
def Uj:PySem.Stmt:=b7.top 19
def Uk:PySem.Stmt:=b7.top 20
def Ul:PySem.Stmt:=b7.top 21
def Um:PySem.Stmt:=b7.top 22
def Uo:PySem.Stmt:=b7.top 23
def Up:PySem.Stmt:=b7.top 24
def Uq:PySem.Stmt:=b7.top 25
def Ur:PySem.Stmt:=b7.top 26
def Us:PySem.Stmt:=b7.top 27
def Ut:PySem.Stmt:=b7.top 28
def Uu:PySem.Stmt:=b7.top 29
def Uv:PySem.Stmt:=b7.top 30
def Uw:PySem.Stmt:=b7.top 31
def Ux:PySem.Stmt:=b7.top 32
def Y8:PySem.Program:={PySem.Challenge.pw_turnyard_k14_whole_numbers with main:={PySem.Challenge.pw_turnyard_k14_whole_numbers.main with body:=[Y4,eC,cu,kJ,K9,xl,Y5,My,Y6,Y7,T_,Ua,Ub,Uc,Ud,Ue,Ug,Uh,Ui,Uj,Uk,Ul,Um,Uo,Up,Uq,Ur,Us,Ut,Uu,Uv,Uw,Ux]}}
def V_:PySem.W.OpenLaw:={PySem.Challenge.rw_turnyard_k14_whole_numbers with prog:=Y8}
open PySem PySem.W PyProof.Rows
set_option maxRecDepth 100000 in
set_option maxHeartbeats 0 in
def hh:V_.Holds:=by
 w_on;o_law;k_head;(case hw=>w_witness2)
 k_fill
 refine Py.OE (x:="_law_script") (l:=V_) (T:=b7.T) (n:=6+1) (f:=21) rfl rfl (by decide) (λw h Y=>PySem.W.kIn_of Y) ?F b7.holds
 case F=>
  intro w mg fa h KX G Mp
  refine' b7.all_mk KX G Mp ?D ?Z ?Qw ?T3 ?T4 ?T8 ?T9 ?xi ?xk ?kv ?xm ?k1 ?k2 ?k3 ?k4 ?zv
  (case D=>
   iterate 23 (apply b7.Y2;(case a=>k_is);(case l=>k_is);(case c=>k_is);(case k=>k_is))
   exact trivial)
  (case Z=>
   iterate 12 (apply b7.zs;(case a=>k_is))
   exact trivial)
  (case Qw=>k_is)
  (case T3=>k_is)
  (case T4=>k_is)
  (case T8=>k_is)
  (case T9=>k_is)
  (case xi=>kernel_rfl)
  (case xk=>kernel_rfl)
  (case kv=>kernel_rfl)
  (case xm=>kernel_rfl)
  (case k1=>kernel_rfl)
  (case k2=>kernel_rfl)
  (case k3=>kernel_rfl)
  (case k4=>kernel_rfl)
  (case zv=>k_is)
theorem PySem.Challenge.cw_turnyard_k14_whole_numbers_holds : PySem.Challenge.rw_turnyard_k14_whole_numbers.Holds :=
 hh
