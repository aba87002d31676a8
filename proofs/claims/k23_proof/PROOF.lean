import PyProof.Rows.All
import Wide.All
import OpenK.AllK
import Wide.FinOn
import Lean
import PyProof.EqAt
import PyProof.EqKinds
import PyProof.TupleCall
import PyProof.CompFree
import PyProof.WalkInts
import PyProof.StrBlockI
import PyProof.StrBlockL
import PyProof.MeetsSeq
import PyProof.Rows.StrJoinMade
import PyProof.ZipIter
import KE.KRevSl
import PyProof.Rows.StrSplitAre
import PyProof.StrBlockH
import PyProof.Rows.SortRuns
import KE.KSortTup
import KE.KDictSum
import PyProof.DictValues
import PySem.SetOps
import PyProof.SetScanFacts
import PyProof.SetKind
import PyProof.TupleKey
import PyProof.Rows.SetFrom
import PyProof.IsRules
import PyProof.TableCode
import PySem.Challenge.RW_turnyard_k23_whole_even
set_option linter.all false
set_option hygiene false
local macro_rules
|`(aa0)=>`((by omega))
|`(aa1)=>`((by decide))
|`(aa2)=>`((List Int))
|`(aa3)=>`((model prog w))
|`(aa4)=>`((bind_some hd))
|`(aa5)=>`(Inv X U σ H s)
|`(aa6)=>`((model X.prog X.w))
|`(aa7)=>`(∀p∈perms s,∀q∈perms s,F 1 [tp p,tp q]=some (tp (comp p q)))
|`(aa8)=>`(∀p∈perms s,∀q∈perms s,F 24 [tp p,tp q]=some (tp (comp p q)))
|`(aa9)=>`((by simp))
|`(aa_)=>`((.var 0))
|`(ab0)=>`((Addr×Obj))
|`(ab1)=>`((arrOf st))
|`(ab2)=>`((∀b o,s.heap.get? b=some o->h'.get? b=some o))
|`(ab3)=>`(SX K H₀ ab Z kv kd ow σ H ρ)
|`(ab4)=>`((x==("__debug__":Str)))
set_option hygiene true
def Zh:=@PySem.wpAny_bind
def Zi:=@PySem.Heap.get?_push_of_some
def Zj:=@List.getElem?_eq_getElem
def Zk:=@Bool.and_eq_true
def Zl:=@Bool.false_ne_true
def Zm:=@List.mem_cons_of_mem
def Zn:=@Nat.lt_of_lt_of_le
def Zo:=@List.length_map
def Zp:=@List.mem_singleton
def Zq:=@PySem.wpAny_pure
def Zr:=@Nat.le_trans
def Zt:=@List.mem_cons_self
def Zu:=@Nat.le_refl
def Zv:=@List.mem_map
def Zw:=@List.length_append
def Zx:=@List.getD_eq_getElem?_getD
def Zy:=@Nat.le_of_eq
def Zz:=@List.getElem?_map
def ZA:=@List.size_toArray
def ZC:=@List.mem_cons
def ZD:=@if_pos
def ZF:=@PySem.Heap.get?_push_size
def ZG:=@PySem.Heap.lt_size
def ZH:=@List.mem_append_right
def ZI:=@List.mem_append
def ZJ:=@List.getElem?_eq_some_iff
def ZK:=@Array.getElem?_eq_getElem
def ZL:=@if_neg
def ZM:=@List.length_cons
def ZN:=@Array.toList_append
def ZO:=@List.mem_append_left
def ZP:=@Nat.le_of_lt
def ZQ:=@Array.length_toList
def ZR:=@List.getElem?_eq_none
def ZS:=@List.map_cons
def ZT:=@Nat.ne_of_lt
def ZU:=@Option.some.inj
def ZV:=@List.getElem?_set_ne
def ZW:=@List.append_assoc
def ZX:=@List.getElem?_set_self
def ZY:=@Array.getElem?_toList
def ZZ:=@Nat.le_of_not_lt
def Z0:=@PySem.Heap.get?_update_other
def Z1:=@Nat.le_of_lt_succ
def Z3:=@List.map_append
def Z4:=@Nat.lt_of_le_of_lt
def Z5:=@List.map_map
def Z6:=@Int.natCast_nonneg
def Z7:=@List.nodup_iff_pairwise_ne
def Z8:=@List.nodup_cons
def Z9:=@List.mem_range
def Z_:=@Nat.add_right_comm
def aaa:=@List.pairwise_append
def aab:=@List.length_singleton
def aac:=@List.mem_of_getElem?
def aad:=@Eq.symm
def aae:=@PySem.wpAny_ite_split
def aaf:=@List.append_nil
def aag:=@List.length_set
def aah:=@Nat.not_lt_zero
def aai:=@Nat.le_add_right
def aaj:=@PySem.wpAny_newObj_type
def aak:=@Nat.zero_le
def aal:=@List.pairwise_map
def aam:=@Nat.lt_irrefl
def aan:=@PySem.wpAny_holding
def aao:=@List.getElem?_append_left
def aap:=@Nat.lt_or_ge
def aaq:=@Nat.lt_succ_of_le
def aar:=@List.getElem?_append_right
def aas:=@List.all_eq_true
def aat:=@PySem.mem_of_lookup
def aau:=@List.take_of_length_le
def aav:=@Nat.zero_add
def aaw:=@PySem.wpAny_call_entry
def aax:=@Array.getElem_mem
def aay:=@Ne.symm
def aaz:=@List.drop_eq_getElem_cons
def aaA:=@List.mem_of_mem_take
def aaB:=@Option.bind_some
def aaC:=@PyProof.Rows.slot_tuple_getitem
def aaD:=@Classical.byContradiction
def aaE:=@Int.toNat_natCast
def aaF:=@List.drop_sublist
def aaG:=@List.ext_getElem?
def aaH:=@Array.toList_reverse
def aaI:=@List.pairwise_cons
def aaJ:=@PySem.Heap.get?_update_self
def aaK:=@PySem.Heap.SameBut.update
def aaL:=@List.take_append_drop
def aaM:=@List.length_take
def aaN:=@Nat.lt_succ_self
def aaO:=@List.mem_flatMap
def aaP:=@Nat.add_sub_cancel_left
def aaQ:=@List.take_sublist
def aaR:=@PySem.wpAny_callSpecial?_slot
def aaS:=@List.nodup_append
def aaT:=@Array.getElem?_eq_some_iff
def aaU:=@Bool.and_eq_true_iff
def aaV:=@Bool.false_eq_true
def aaW:=@Option.map_eq_some_iff
def aaX:=@PySem.F.plain_min_loop
def aaY:=@List.pairwise_iff_getElem
def aaZ:=@List.mem_reverse
def aba:=@Int.toNat_of_nonneg
def abb:=@PySem.wpAny_truthy_bool
def abc:=@Nat.lt_succ_of_lt
def abd:=@List.mem_iff_getElem?
def abe:=@PySem.F.slot_dict_keyiterator_next
def abf:=@PySem.Heap.size_push
def abg:=@PySem.Obj.data_mapFields
def abh:=@Int.emod_nonneg
def abi:=@Int.emod_lt_of_pos
def abj:=@Array.mem_toList_iff
def abk:=@Int.not_lt_of_ge
def abl:=@Nat.succ_pos
def abm:=@Nat.add_sub_of_le
def abn:=@PySem.wpAny_mono
def abo:=@Nat.lt_trichotomy
def abp:=@PySem.wpAny_setState_of
def abq:=@List.getElem?_range
def abr:=@List.length_nil
def abt:=@PySem.codeAny_builtin
def abu:=@Nat.lt_of_le_of_ne
def abv:=@List.getElem_mem
def abw:=@PySem.wpAny_typeNameOfWhole_keyiter
def abx:=@Nat.succ_le_succ
def aby:=@Array.toList_extract
def abz:=@List.mem_of_mem_drop
def abA:=@Nat.add_assoc
def abB:=@PySem.F.plainAttrs_list
def abC:=@Array.toList_push
def abD:=@List.mem_filter
def abE:=@PyProof.Rows.callWith_type1
def abF:=@PySem.wpAny_loadPart'
def abG:=@List.find?_cons
def abH:=@List.map_congr_left
def abI:=@PySem.F.slot_tuple_iterator_next
def abJ:=@Nat.not_lt_of_le
def abK:=@Int.lt_of_not_ge
def abL:=@List.Perm.append_left
def abM:=@Int.lt_of_le_of_lt
def abN:=@PySem.wpAny_setField
def abO:=@PySem.Calls.call_function_entry
def abP:=@PySem.Around.under_plainId
def abQ:=@PySem.wpAny_passesOwn
def abR:=@List.forIn_cons
def abS:=@PySem.wpAny_pyIter_list
def abT:=@PySem.wpAny_typeNameOf_keyiter
def abU:=@List.length_range
def abV:=@List.set_eq_of_length_le
def abW:=@Nat.lt_trans
def abX:=@Nat.exists_eq_add_of_le
def abY:=@List.getElem_of_mem
def abZ:=@List.all_cons
def aca:=@Int.ofNat.inj
def acb:=@List.length_drop
def acd:=@PySem.wpAny_seqItems
def ace:=@List.drop_zero
def acf:=@PySem.Calls.callWith_builtin
def acg:=@Array.getElem?_eq_none
def ach:=@Nat.sub_add_cancel
def aci:=@PySem.wpAny_pyIter_tuple
def acj:=@List.getElem?_take
def ack:=@Nat.lt_or_eq_of_le
def acm:=@Nat.min_eq_left
def acn:=@List.length_replicate
def aco:=@Option.map_some
def acp:=@PySem.Obj.isFreed_of_fields
def acq:=@List.pairwise_reverse
def acr:=@PySem.F.called_set
def acs:=@Nat.sub_ne_zero_of_lt
def acu:=@List.dropLast_eq_take
def acv:=@Int.ofNat_lt
def acw:=@PySem.Paired.length
def acx:=@List.any_cons
def acy:=@Nat.mod_lt
def acz:=@List.map_take
def acA:=@Array.toList_setIfInBounds
def acB:=@PySem.Around.under_plainId
def acC:=@List.perm_ext_iff_of_nodup
def acD:=@List.range_eq_range'
def acE:=@List.lookup_cons
def acF:=@PySem.wpAny_askSetting
def acG:=@Nat.add_le_add_left
def acH:=@List.filterMap_cons
def acI:=@Int.le_of_lt
def acJ:=@PySem.F.args_tuple_add_2
def acK:=@Int.le_trans
def acL:=@PySem.wpAny_rule
def acM:=@List.length_erase_of_mem
def acN:=@PySem.wpAny_Call_Name_kw
def acO:=@List.zip_cons_cons
def acP:=@PySem.F.entry_tuple_add
def acQ:=@List.nil_append
def acR:=@List.getElem?_drop
def acS:=@List.pairwise_singleton
def acT:=@Bool.or_eq_true
def acU:=@Nat.le_add_left
def acV:=@PyProof.Rows.F.plain_set_update_loop
def acW:=@List.length_zip
def acX:=@Nat.le_antisymm
def acY:=@Int.eq_ofNat_of_zero_le
def acZ:=@Nat.eq_of_le_of_lt_succ
def ada:=@PySem.F.slot_tuple_add
def adb:=@PySem.F.entry_min_loop
def ade:=@Nat.lt_of_succ_lt_succ
def adf:=@List.pairwise_lt_range
def adg:=@List.filter_eq_nil_iff
def adh:=@PySem.wpAny_field
def adi:=@PySem.Obj.cls_mapFields
def adj:=@Array.toList_eraseIdxIfInBounds
def adk:=@Bool.not_eq_true'
def adl:=@List.nodup_nil
def adm:=@PySem.wpAny_fieldsOf
def adn:=@Nat.add_le_add
def ado:=@Nat.add_comm
def adp:=@Int.ne_of_gt
def adq:=@PySem.codeAny_mono
def ads:=@PySem.wpAny_typeOf
def adt:=@List.perm_append_comm
def adu:=@PySem.F.args_dict_keyiterator_next_1
def adv:=@PySem.wpAny_isOneOf_keyiter
def adw:=@List.eq_nil_or_concat
def adx:=@List.concat_eq_append
def ady:=@PySem.wpAny_eqBool_int
def adz:=@List.getElem?_replicate_of_lt
def adA:=@List.range'_succ
def adB:=@Array.toList_map
def adC:=@PySem.F.entry_dict_keyiterator_next
def adD:=@List.not_mem_nil
def adE:=@List.filter_cons
def adF:=@PySem.F.args_tuple_iterator_next_1
def adG:=@PySem.wpAny_newList
def adH:=@List.of_mem_zip
def adI:=@PySem.F.entry_tuple_iterator_next
def adJ:=@PySem.wpAny_specialOf
def adK:=@Bool.eq_iff_iff
def adL:=@Array.Perm.refl
def adM:=@List.foldl_cons
def adN:=@List.length_take_le
def adO:=@PySem.Calls.Name_function_global
def adP:=@Array.perm_iff_toList_perm
def adQ:=@List.length_eraseIdx_of_lt
def adR:=@List.mem_filterMap
def adS:=@List.map_nil
def adT:=@List.lookup_append
def adU:=@Nat.add_zero
def adV:=@Nat.min_self
def adW:=@List.drop_drop
def adX:=@List.mem_take_iff_getElem
def adY:=@List.mem_drop_iff_getElem
def adZ:=@PySem.wpAny_tryCatch
def aea:=@List.getElem?_zip_eq_some
def aeb:=@List.getLast?_eq_getElem?
def aec:=@PySem.wpAny_comprehension_free
def aed:=@PySem.wpAny_pyIter_enum
def aee:=@PySem.F.slot_tuple_index
def aef:=@Option.isSome_map
def aeg:=@List.reverse_perm
def aeh:=@Array.size_setIfInBounds
def aei:=@PySem.wpAny_pyIter_slot
def aej:=@PySem.wpAny_dictEntries
def aek:=@PySem.F.slot_dict_values
def ael:=@Nat.le_succ_of_le
def aem:=@List.foldl_append
def aen:=@PySem.F.slot_list_extend
def aeo:=@PySem.F.type_list_extend
def aep:=@Sum.inl.inj
def aeq:=@PySem.wpAny_standAt
def aer:=@List.getElem?_replicate
def aes:=@PySem.wpAny_letGo
def aet:=@PySem.wpAny_of_eq
def aeu:=@PySem.wpAny_attempt
def aev:=@List.length_eq_zero_iff
def aew:=@Int.le_refl
def aex:=@PySem.wpAny_forIn_list
def aey:=@Array.toList_inj
def aez:=@List.map_snd_zip
def aeA:=@PySem.wpAny_isInstance
def aeB:=@Int.le_of_not_gt
def aeC:=@List.nodup_range
def aeD:=@List.drop_length
def aeE:=@List.isEmpty_iff
def aeF:=@Nat.not_le_of_lt
def aeG:=@PySem.W.cellsFrom_some
def aeH:=@List.drop_eq_nil_of_le
def aeI:=@List.reverse_singleton
def aeJ:=@Classical.epsilon_spec
def aeK:=@List.range_succ_eq_map
def aeL:=@List.length_pos_of_mem
def aeM:=@PySem.wpAny_execs_nil
def aeN:=@Nat.ne_of_gt
def aeO:=@List.lookup_cons_self
def aeP:=@Array.mem_iff_getElem
def aeQ:=@PySem.wpAny_dictEpoch
def aeR:=@PySem.wpAny_updateSeq
def aeS:=@Eq.trans
def aeT:=@Nat.add_le_add_right
def aeU:=@Array.toArray_toList
def aeV:=@Nat.sub_eq_of_eq_add
def aeW:=@Bool.or_eq_false_iff
def aeX:=@List.length_take_le'
def aeY:=@List.mem_erase_of_ne
def aeZ:=@List.take_take
def afa:=@Nat.mul_le_mul
def afb:=@Nat.add_left_cancel
def afc:=@PyProof.Rows.lt_int
def afd:=@PySem.evalArgs_none
def afe:=@Nat.pred_lt
def aff:=@Bool.or_eq_true_iff
def afg:=@List.map_id
def afh:=@Prod.mk.inj
def afi:=@List.filter_sublist
def afj:=@PySem.W.callWith_K
def afk:=@List.zip_nil_right
def afl:=@Option.isSome_some
def afm:=@Array.size_extract
def afn:=@List.find?_eq_none
def afo:=@List.map_drop
def afp:=@Nat.sub_le
def afq:=@PySem.Walks.list
def afr:=@Nat.sub_self
def afs:=@Nat.sub_zero
def aft:=@Nat.succ.inj
def Uk(h:¬p->False):p:=aaD h
section
variable {q:Prop}{α β γ δ ε ζ η θ ι κ:Sort _}
def cP(x:A/\B/\C)(k:A->B->C->q):q:=k x.1 x.2.1 x.2.2
def Ak(x:A/\B/\C/\D)(k:A->B->C->D->q):q:=cP x.2 (k x.1)
def MA(x:A/\B/\C/\D/\E)(k:A->B->C->D->E->q):q:=Ak x.2 (k x.1)
def vS(x:A/\B/\C/\D/\E/\F)(k:A->B->C->D->E->F->q):q:=MA x.2 (k x.1)
def Ul(x:A/\B/\C/\D/\E/\F/\G)(k:A->B->C->D->E->F->G->q):q:=vS x.2 (k x.1)
def VZ(x:A/\B/\C/\D/\E/\F/\G/\H)(k:A->B->C->D->E->F->G->H->q):q:=Ul x.2 (k x.1)
variable {A B C D E F G H I J:α->Prop}
def aa(x:∃a,A a/\B a)(k:∀a,A a->B a->q):q:=x.elim λa x=>k a x.1 x.2
def bO(x:∃a,A a/\B a/\C a)(k:∀a,A a->B a->C a->q):q:=x.elim λa x=>cP x (k a)
def DK(x:∃a,A a/\B a/\C a/\D a)(k:∀a,A a->B a->C a->D a->q):q:=x.elim λa x=>Ak x (k a)
def L8(x:∃a,A a/\B a/\C a/\D a/\E a)(k:∀a,A a->B a->C a->D a->E a->q):q:=x.elim λa x=>MA x (k a)
def V0(x:∃a,A a/\B a/\C a/\D a/\E a/\F a)(k:∀a,A a->B a->C a->D a->E a->F a->q):q:=x.elim λa x=>vS x (k a)
def V1(x:∃a,A a/\B a/\C a/\D a/\E a/\F a/\G a)(k:∀a,A a->B a->C a->D a->E a->F a->G a->q):q:=x.elim λa x=>Ul x (k a)
def V2(x:∃a,A a/\B a/\C a/\D a/\E a/\F a/\G a/\H a)(k:∀a,A a->B a->C a->D a->E a->F a->G a->H a->q):q:=x.elim λa x=>VZ x (k a)
variable {A B C D E F G H I J:α->β->Prop}
def D2(x:∃a b,A a b)(k:∀a b,A a b->q):q:=x.elim λa x=>x.elim (k a)
def eC(x:∃a b,A a b/\B a b)(k:∀a b,A a b->B a b->q):q:=x.elim λa x=>aa x (k a)
def bu(x:∃a b,A a b/\B a b/\C a b)(k:∀a b,A a b->B a b->C a b->q):q:=x.elim λa x=>bO x (k a)
def gQ(x:∃a b,A a b/\B a b/\C a b/\D a b)(k:∀a b,A a b->B a b->C a b->D a b->q):q:=x.elim λa x=>DK x (k a)
def jU(x:∃a b,A a b/\B a b/\C a b/\D a b/\E a b)(k:∀a b,A a b->B a b->C a b->D a b->E a b->q):q:=x.elim λa x=>L8 x (k a)
def Q_(x:∃a b,A a b/\B a b/\C a b/\D a b/\E a b/\F a b)(k:∀a b,A a b->B a b->C a b->D a b->E a b->F a b->q):q:=x.elim λa x=>V0 x (k a)
def Um(x:∃a b,A a b/\B a b/\C a b/\D a b/\E a b/\F a b/\G a b)(k:∀a b,A a b->B a b->C a b->D a b->E a b->F a b->G a b->q):q:=x.elim λa x=>V1 x (k a)
def Ra(x:∃a b,A a b/\B a b/\C a b/\D a b/\E a b/\F a b/\G a b/\H a b)(k:∀a b,A a b->B a b->C a b->D a b->E a b->F a b->G a b->H a b->q):q:=x.elim λa x=>V2 x (k a)
variable {A B C D E F G H I J:α->β->γ->Prop}
def MB(x:∃a b c,A a b c)(k:∀a b c,A a b c->q):q:=x.elim λa x=>D2 x (k a)
def kL(x:∃a b c,A a b c/\B a b c)(k:∀a b c,A a b c->B a b c->q):q:=x.elim λa x=>eC x (k a)
def cn(x:∃a b c,A a b c/\B a b c/\C a b c)(k:∀a b c,A a b c->B a b c->C a b c->q):q:=x.elim λa x=>bu x (k a)
def Qf(x:∃a b c,A a b c/\B a b c/\C a b c/\D a b c)(k:∀a b c,A a b c->B a b c->C a b c->D a b c->q):q:=x.elim λa x=>gQ x (k a)
def uz(x:∃a b c,A a b c/\B a b c/\C a b c/\D a b c/\E a b c)(k:∀a b c,A a b c->B a b c->C a b c->D a b c->E a b c->q):q:=x.elim λa x=>jU x (k a)
def MC(x:∃a b c,A a b c/\B a b c/\C a b c/\D a b c/\E a b c/\F a b c)(k:∀a b c,A a b c->B a b c->C a b c->D a b c->E a b c->F a b c->q):q:=x.elim λa x=>Q_ x (k a)
def V3(x:∃a b c,A a b c/\B a b c/\C a b c/\D a b c/\E a b c/\F a b c/\G a b c)(k:∀a b c,A a b c->B a b c->C a b c->D a b c->E a b c->F a b c->G a b c->q):q:=x.elim λa x=>Um x (k a)
def V4(x:∃a b c,A a b c/\B a b c/\C a b c/\D a b c/\E a b c/\F a b c/\G a b c/\H a b c)(k:∀a b c,A a b c->B a b c->C a b c->D a b c->E a b c->F a b c->G a b c->H a b c->q):q:=x.elim λa x=>Ra x (k a)
variable {A B C D E F G H I J:α->β->γ->δ->Prop}
def Uo(x:∃a b c d,A a b c d)(k:∀a b c d,A a b c d->q):q:=x.elim λa x=>MB x (k a)
def lU(x:∃a b c d,A a b c d/\B a b c d)(k:∀a b c d,A a b c d->B a b c d->q):q:=x.elim λa x=>kL x (k a)
def Im(x:∃a b c d,A a b c d/\B a b c d/\C a b c d)(k:∀a b c d,A a b c d->B a b c d->C a b c d->q):q:=x.elim λa x=>cn x (k a)
def MD(x:∃a b c d,A a b c d/\B a b c d/\C a b c d/\D a b c d)(k:∀a b c d,A a b c d->B a b c d->C a b c d->D a b c d->q):q:=x.elim λa x=>Qf x (k a)
def uG(x:∃a b c d,A a b c d/\B a b c d/\C a b c d/\D a b c d/\E a b c d)(k:∀a b c d,A a b c d->B a b c d->C a b c d->D a b c d->E a b c d->q):q:=x.elim λa x=>uz x (k a)
def D3(x:∃a b c d,A a b c d/\B a b c d/\C a b c d/\D a b c d/\E a b c d/\F a b c d)(k:∀a b c d,A a b c d->B a b c d->C a b c d->D a b c d->E a b c d->F a b c d->q):q:=x.elim λa x=>MC x (k a)
def V5(x:∃a b c d,A a b c d/\B a b c d/\C a b c d/\D a b c d/\E a b c d/\F a b c d/\G a b c d)(k:∀a b c d,A a b c d->B a b c d->C a b c d->D a b c d->E a b c d->F a b c d->G a b c d->q):q:=x.elim λa x=>V3 x (k a)
def Up(x:∃a b c d,A a b c d/\B a b c d/\C a b c d/\D a b c d/\E a b c d/\F a b c d/\G a b c d/\H a b c d)(k:∀a b c d,A a b c d->B a b c d->C a b c d->D a b c d->E a b c d->F a b c d->G a b c d->H a b c d->q):q:=x.elim λa x=>V4 x (k a)
variable {A B C D E F G H I J:α->β->γ->δ->ε->Prop}
def L9(x:∃a b c d e,A a b c d e/\B a b c d e)(k:∀a b c d e,A a b c d e->B a b c d e->q):q:=x.elim λa x=>lU x (k a)
def V6(x:∃a b c d e,A a b c d e/\B a b c d e/\C a b c d e)(k:∀a b c d e,A a b c d e->B a b c d e->C a b c d e->q):q:=x.elim λa x=>Im x (k a)
def Rb(x:∃a b c d e,A a b c d e/\B a b c d e/\C a b c d e/\D a b c d e)(k:∀a b c d e,A a b c d e->B a b c d e->C a b c d e->D a b c d e->q):q:=x.elim λa x=>MD x (k a)
def Qg(x:∃a b c d e,A a b c d e/\B a b c d e/\C a b c d e/\D a b c d e/\E a b c d e)(k:∀a b c d e,A a b c d e->B a b c d e->C a b c d e->D a b c d e->E a b c d e->q):q:=x.elim λa x=>uG x (k a)
def Uq(x:∃a b c d e,A a b c d e/\B a b c d e/\C a b c d e/\D a b c d e/\E a b c d e/\F a b c d e)(k:∀a b c d e,A a b c d e->B a b c d e->C a b c d e->D a b c d e->E a b c d e->F a b c d e->q):q:=x.elim λa x=>D3 x (k a)
def V7(x:∃a b c d e,A a b c d e/\B a b c d e/\C a b c d e/\D a b c d e/\E a b c d e/\F a b c d e/\G a b c d e)(k:∀a b c d e,A a b c d e->B a b c d e->C a b c d e->D a b c d e->E a b c d e->F a b c d e->G a b c d e->q):q:=x.elim λa x=>V5 x (k a)
def V8(x:∃a b c d e,A a b c d e/\B a b c d e/\C a b c d e/\D a b c d e/\E a b c d e/\F a b c d e/\G a b c d e/\H a b c d e)(k:∀a b c d e,A a b c d e->B a b c d e->C a b c d e->D a b c d e->E a b c d e->F a b c d e->G a b c d e->H a b c d e->q):q:=x.elim λa x=>Up x (k a)
variable {A B C D E F G H I J:α->β->γ->δ->ε->ζ->Prop}
def V9(x:∃a b c d e f,A a b c d e f/\B a b c d e f/\C a b c d e f)(k:∀a b c d e f,A a b c d e f->B a b c d e f->C a b c d e f->q):q:=x.elim λa x=>V6 x (k a)
def L_(x:∃a b c d e f,A a b c d e f/\B a b c d e f/\C a b c d e f/\D a b c d e f/\E a b c d e f)(k:∀a b c d e f,A a b c d e f->B a b c d e f->C a b c d e f->D a b c d e f->E a b c d e f->q):q:=x.elim λa x=>Qg x (k a)
def V_(x:∃a b c d e f,A a b c d e f/\B a b c d e f/\C a b c d e f/\D a b c d e f/\E a b c d e f/\F a b c d e f/\G a b c d e f)(k:∀a b c d e f,A a b c d e f->B a b c d e f->C a b c d e f->D a b c d e f->E a b c d e f->F a b c d e f->G a b c d e f->q):q:=x.elim λa x=>V7 x (k a)
def V'(x:∃a b c d e f,A a b c d e f/\B a b c d e f/\C a b c d e f/\D a b c d e f/\E a b c d e f/\F a b c d e f/\G a b c d e f/\H a b c d e f)(k:∀a b c d e f,A a b c d e f->B a b c d e f->C a b c d e f->D a b c d e f->E a b c d e f->F a b c d e f->G a b c d e f->H a b c d e f->q):q:=x.elim λa x=>V8 x (k a)
variable {A B C D E F G H I J:α->β->γ->δ->ε->ζ->η->Prop}
def Wa(x:∃a b c d e f g,A a b c d e f g/\B a b c d e f g/\C a b c d e f g)(k:∀a b c d e f g,A a b c d e f g->B a b c d e f g->C a b c d e f g->q):q:=x.elim λa x=>V9 x (k a)
def Ur(x:∃a b c d e f g,A a b c d e f g/\B a b c d e f g/\C a b c d e f g/\D a b c d e f g/\E a b c d e f g/\F a b c d e f g/\G a b c d e f g)(k:∀a b c d e f g,A a b c d e f g->B a b c d e f g->C a b c d e f g->D a b c d e f g->E a b c d e f g->F a b c d e f g->G a b c d e f g->q):q:=x.elim λa x=>V_ x (k a)
def Wb(x:∃a b c d e f g,A a b c d e f g/\B a b c d e f g/\C a b c d e f g/\D a b c d e f g/\E a b c d e f g/\F a b c d e f g/\G a b c d e f g/\H a b c d e f g)(k:∀a b c d e f g,A a b c d e f g->B a b c d e f g->C a b c d e f g->D a b c d e f g->E a b c d e f g->F a b c d e f g->G a b c d e f g->H a b c d e f g->q):q:=x.elim λa x=>V' x (k a)
variable {A B C D E F G H I J:α->β->γ->δ->ε->ζ->η->θ->Prop}
def oh(x:∃a b c d e f g h,A a b c d e f g h/\B a b c d e f g h/\C a b c d e f g h)(k:∀a b c d e f g h,A a b c d e f g h->B a b c d e f g h->C a b c d e f g h->q):q:=x.elim λa x=>Wa x (k a)
variable {A B C D E F G H I J:α->β->γ->δ->ε->ζ->η->θ->ι->Prop}
def Us(x:∃a b c d e f g h i,A a b c d e f g h i/\B a b c d e f g h i/\C a b c d e f g h i)(k:∀a b c d e f g h i,A a b c d e f g h i->B a b c d e f g h i->C a b c d e f g h i->q):q:=x.elim λa x=>oh x (k a)
end
def Ut{a b c:Nat}(h:b<=c)(k:a<=b):a<=c:=Zr k h
def Uu{a b c:Nat}(h:b<c)(k:a<=b):a<c:=Z4 k h
def DL{a b c:Nat}(h:b=c)(k:a<=b):a<=c:=h▸k
def MF{a b c:Nat}(h:a=b)(k:b<=c):a<=c:=h▸k
def Uv{a b c:Nat}(h:a=b)(k:b<c):a<c:=h▸k
def Wc(h:j-1<n):j<=n:=Nat.le_of_pred_lt h
def Io{i:Int}{n:Nat}(h:0<=i)(k:i<n):i.toNat<n:=(Int.toNat_lt h).mpr k
def Uw{a b:Int}(h:0<=a)(k:0<=b)(e:a.toNat=b.toNat):a=b:=(aba h).symm.trans ((congrArg Int.ofNat e).trans (aba k))
def MG(e:l=n)(h:k<n+1):min k l+(l-k+1)=n+1:=by
 subst e;rw[acm (Z1 h),<-abA,abm (Z1 h)]
def MH{k n:Nat}(h:k<=n):(min (k:Int) n).toNat =k:=by
 rw[Int.min_eq_left (Int.ofNat_le.mpr h)];rfl
def Rc(h:b<=c)(e:c+v=b+w)(k:c<=n):2*(n-c)+w<=2*(n-b)+v:=by
 obtain⟨d,rfl⟩:=abX h;obtain⟨x,rfl⟩:=abX k;have e:w=d+v:=afb (e.symm.trans (abA _ _ _));rw[e,aaP,abA b d x,aaP,Nat.mul_add,<-abA,ado _ d];exact aeT (aeT (Nat.le_mul_of_pos_left d Nat.two_pos) _) _
def Rf(h:k<n):n=k+(n-k-1+1):=by
 rw[ach (Nat.sub_pos_of_lt h),abm (ZP h)]
def rQ{u c d z:Nat}(h:u+c<z)(k:d<=c):u+d<z:=Z4 (acG k u) h
def Ip(h:0<=x/\x<((n+1:Nat):Int))(e:x≠n):0<=x/\x<n:=⟨h.1,Int.lt_iff_le_and_ne.mpr ⟨Int.le_of_lt_add_one h.2,e⟩⟩
def D4{i:Int}{n:Nat}(h:i<=n):i.toNat<=n:=Int.toNat_le.mpr h
def Rh:o+(j+1)+m-(o+j)=m+1:=by
 show o+j+1+m-(o+j)=m+1;rw[abA (o+j),aaP,ado]
set_option bootstrap.genMatcherCode false
set_option genSizeOf false
set_option compiler.extract_closed false
set_option Elab.async false
set_option maxRecDepth 100000
abbrev aH:=PySem.W.Frag
namespace L2
open PySem PySem.Spec PyProof.Rows
abbrev cS:=Sum Int Str
noncomputable def lV:cS->Value->Bool
 | .inl k,v=>Value.isInt k v
 | .inr x,v=>Value.isStrOf x v
noncomputable def Ri(w:World):cS->Int
 | .inl k=>hashInt k
 | .inr x=>hashStr w x
def bh:∀{k:cS}{v:Value},lV k v=true->(∃i t,k=Sum.inl i/\v=Value.int i t)\/(∃x t,k=Sum.inr x/\v=Value.str x t)
 | .inl i,v,h=>by
  obtain⟨t,e⟩:=Value.isInt_shape (k:=i) (v:=v) h;exact .inl ⟨i,t,rfl,e⟩
 | .inr x,v,h=>by
  obtain⟨t,e⟩:=Value.isStrOf_shape (x:=x) (v:=v) h;exact .inr ⟨x,t,rfl,e⟩
def yt(i:Int)(t:Tok):lV (.inl i) (.int i t)=true:=by simp[lV,Value.isInt]
def yu(x:Str)(t:Tok):lV (.inr x) (.str x t)=true:=by simp[lV,Value.isStrOf]
def Iq(a b:Int):decide ((Sum.inl a:cS)=Sum.inl b)=(a==b):=by
 by_cases e:a=b
 .subst e;simp
 .have h:¬(Sum.inl a:cS)=Sum.inl b:=λq=>e (aep q);rw[decide_eq_false h];exact(beq_eq_false_iff_ne.mpr e).symm
def Ir(a b:Str):decide ((Sum.inr a:cS)=Sum.inr b)=decide (a=b):=by
 by_cases e:a=b
 .subst e;simp
 .have h:¬(Sum.inr a:cS)=Sum.inr b:=λq=>e (Sum.inr.inj q);rw[decide_eq_false h,decide_eq_false e]
def Iu(a:Int)(b:Str):decide ((Sum.inl a:cS)=Sum.inr b)=false:=decide_eq_false (λq=>nomatch q)
def Iv(a:Str)(b:Int):decide ((Sum.inr a:cS)=Sum.inl b)=false:=decide_eq_false (λq=>nomatch q)
noncomputable def bc(prog:Program)(w:World):PySem.KeyKind prog w cS where
 is:=lV
 hash:=Ri w
 inj:=λv a b ha hb=>by
  rcases bh ha with⟨i,t,rfl,rfl⟩|⟨x,t,rfl,rfl⟩
  .rcases bh hb with⟨j,u,rfl,e⟩|⟨y,u,rfl,e⟩
   .injection e with e1 _;rw[e1]
   .exact nomatch e
  .rcases bh hb with⟨j,u,rfl,e⟩|⟨y,u,rfl,e⟩
   .exact nomatch e
   .injection e with e1 _;rw[e1]
 byValue:=λk v h=>by
  rcases bh h with⟨i,t,rfl,rfl⟩|⟨x,t,rfl,rfl⟩<;>rfl
 pyHash:=λhv h=>by
  rcases bh hv with⟨i,t,rfl,rfl⟩|⟨x,t,rfl,rfl⟩
  .exact wpAny_pyHash_int h
  .exact wpAny_pyHash_str h
 eqBool:=λhu hv h=>by
  rcases bh hu with⟨i,t,rfl,rfl⟩|⟨x,t,rfl,rfl⟩
  .rcases bh hv with⟨j,u,rfl,rfl⟩|⟨y,u,rfl,rfl⟩
   .rw[Iq]at h;exact ady h
   .rw[Iu]at h;exact SeqAt.EqAt.int_str i t y u _ _ _ _ h
  .rcases bh hv with⟨j,u,rfl,rfl⟩|⟨y,u,rfl,rfl⟩
   .rw[Iv]at h;exact SeqAt.EqAt.str_int x t j u _ _ _ _ h
   .rw[Ir]at h;exact wpAny_eqBool_str h
 «strs»:=λk x t v h=>by
  rcases bh h with⟨i,u,rfl,e⟩|⟨y,u,rfl,e⟩
  .exact nomatch e
  .injection e with e1 _;subst e1;cases v<;>rfl
def rR(prog:Program)(w:World)(i:Int)(t:Tok):(bc prog w).is (.inl i) (.int i t)=true:=yt i t
def rS(prog:Program)(w:World)(x:Str)(t:Tok):(bc prog w).is (.inr x) (.str x t)=true:=yu x t
inductive V where
 |cx|bl (b:Bool)|int (i:Int)|str (x:Str)|MI (b:Array UInt8)|Rj (b:UInt64)|ref (a:Addr)|ty (n:String)
 deriving DecidableEq
def RelV:V->Value->Prop
 | .cx,u=>u=Value.none
 | .bl b,u=>u=Value.bool b
 | .int i,u=>∃t,u=Value.int i t
 | .str x,u=>∃t,u=Value.str x t
 | .MI b,u=>∃t,u=Value.bytes b t
 | .Rj b,u=>∃t,u=Value.float b t
 | .ref a,u=>u=Value.ref a
 | .ty n,u=>u=Value.type n
abbrev aF:List V->List Value->Prop:=Paired RelV
theorem aF.length(r:aF xs us):xs.length=us.length:=acw r
theorem aF.get:∀{xs:List V}{us:List Value}{i:Nat}{x:V},aF xs us->xs[i]?=some x->∃u,us[i]?=some u/\RelV x u
 |_,_,_,_,.nil,e=>by simp at e
 |_,_,0,_,.cons r _,e=>by simp at e;subst e;exact⟨_,rfl,r⟩
 |_,_,i+1,x,.cons _ t,e=>by
  exact aa (aF.get (i:=i) (x:=x) t (by simpa using e)) λu h1 h2=>⟨u,by simpa using h1,h2⟩
theorem aF.set(r:RelV x u):∀{xs:List V}{us:List Value} (i:Nat),aF xs us->aF (xs.set i x) (us.set i u)
 |_,_,_,.nil => .nil
 |_,_,0,.cons _ t=> .cons r t
 |_,_,i+1,.cons q t=> .cons q (aF.set r i t)
def aF.append:∀{xs ys:List V}{us ws:List Value},aF xs us->aF ys ws->aF (xs++ys) (us++ws):=λ{xs ys us ws} h s=>by
 induction h with
 |nil=>exact s
 |cons r t ih=>exact .cons r ih
theorem aF.take:∀{xs:List V}{us:List Value} (n:Nat),aF xs us->aF (xs.take n) (us.take n)
 |_,_,0,_=> .nil
 |_,_,_+1,.nil => .nil
 |_,_,n+1,.cons r t=> .cons r (aF.take n t)
theorem aF.drop:∀{xs:List V}{us:List Value} (n:Nat),aF xs us->aF (xs.drop n) (us.drop n)
 |_,_,0,r=>r
 |_,_,_+1,.nil => .nil
 |_,_,n+1,.cons _ t=>aF.drop n t
def oj:Option V->Option Value->Prop
 |some v,some u=>RelV v u
 |none,none=>True
 |_,_=>False
def KV{κ:Type}:List (κ×V)->List (κ×Value)->Prop:=Paired λ(p:κ×V) (q:κ×Value)=>p.1=q.1/\RelV p.2 q.2
noncomputable def kV:cS->V
 | .inl i=> .int i
 | .inr x=> .str x
inductive HO where
  |lst (xs:List V)
  |tup (xs:List V)
  |dK (ax:List (cS×V))|dT (ax:List (List cS×V))
  |set (S:Int->Bool) (n:Nat)
  |ins (C dx:Addr) (fs:List (Str×V))
  |own (x:Addr)
  |xd (fs:List (Str×V))
  |met (f x:Addr)
  |gi (lo hi:Int)
  |dC (o:Obj) (u:HO)
  |Iw (ps:Array Value)
  |ext (φ:Heap->Prop)
abbrev Hp:=Addr->Option HO
noncomputable def upd(H:Hp)(a:Addr)(o:HO):Hp:=λb=>if b=a then some o else H b
def ag:upd H a o a=some o:=by unfold upd;rw[ZD rfl]
def ai(h:b≠a):upd H a o b=H b:=by unfold upd;rw[ZL h]
def fX{H:Hp}{a b:Addr}{o u:HO}(h:H a=some o)(h':H b=some u)(d:o≠u):a≠b:=by
 intro e;subst e;rw[h]at h';exact d (ZU h')
def b6{H:Hp}{a b:Addr}{o:HO}(h:H a=some o)(h':H b=none):a≠b:=by
 intro e;subst e;rw[h]at h';cases h'
def i7(h:Heap)(a:Addr)(items:Array Value):Prop:=∃o,h.get? a=some o/\o.cls= .type "tuple"/\(∃n,o.data= .seq items n)/\o.dict=none
def i7.tup{h:Heap}{a:Addr}{items:Array Value}(x:i7 h a items):IsTup h a items:=let ⟨o,e,c,d,_⟩:=x;⟨o,e,c,d⟩
def i7.lt{h:Heap}{a:Addr}{items:Array Value}(x:i7 h a items):a<h.objs.size:=let ⟨_,ho,_⟩:=x;ZG ho
def i7.new(h:Heap)(items:Array Value):i7 (h.push {cls:= .type "tuple",data:= .seq items}) h.objs.size items:=⟨_,ZF _ rfl,rfl,⟨_,rfl⟩,rfl⟩
section
variable (P:Program)(w:World)
def aT(H:Hp)(h:Heap)(a:Addr):HO->Prop
 | .lst xs=>xs.length<=sizeLine/\∃(its:List Value) (n:Nat),aF xs its/\h.get? a=some {cls:= .type "list",data:= .seq its.toArray n}
 | .tup xs=>xs.length<=sizeLine/\∃its:List Value,aF xs its/\i7 h a its.toArray
 | .dK ax=>ax.length<=sizeLine/\(a==sysModules)=false/\∃vs,KV ax vs/\h.DictOf (bc P w) a vs
 | .dT ax=>ax.length<=sizeLine/\(a==sysModules)=false/\∃xs:List (List cS×Addr×Value),
   Paired (λ(p:List cS×V) (q:List cS×Addr×Value)=>p.1=q.1/\H q.2.1=some (.tup (p.1.map kV))/\RelV p.2 q.2.2) ax xs/\
   ∃o es ep,h.get? a=some o/\o.ExactDict/\o.data= .dict es ep/\es.toList=xs.map (entryOfKey (tupleKind (bc P w)))/\(xs.map (·.1)).Nodup
 | .set S n=>h.SetOf (intKind P w) a S n
 | .ins C dx fs=>H dx=some (.own a)/\fs.length<=1000/\dx≠a/\h.get? a=some (PySem.W.instObj C dx)/\
   ∃mA,h.Ns1 dx mA/\(∀f,oj (fs.lookup f) (mA f))/\PySem.Within mA (fs.map (·.1))
 | .own _=>∃o,h.get? a=some o
 | .xd fs=>∃mA,h.Ns1 a mA/\∀f,oj (fs.lookup f) (mA f)
 | .gi lo hi=>∃t u v,h.get? a=some {cls:= .type "range",data:= .fields #[.int lo t,.int hi u,.int 1 v]}
 | .dC o u=>h.get? a=some o/\aT H h a u
 | .Iw ps=>h.get? a=some {cls:= .none,data:= .fields ps}
 | .met f x=>h.get? a=some (PySem.W.methodObj (.ref f) (.ref x))
 | .ext φ=>φ h/\(∃o,h.get? a=some o)/\∀h1 h2:Heap,φ h1->(∀o,h1.get? a=some o->h2.get? a=some o)->φ h2
def iM(H:Hp)(h:Heap):Prop:=∀a o,H a=some o->aT P w H h a o
end
section
variable {P:Program}{w:World}{H H':Hp}{h h':Heap}{a:Addr}{o:HO}
theorem aT.lt(x:aT P w H h a o):a<h.objs.size:=by
 cases o with
 |lst xs=>obtain⟨_,_,_,_,e⟩:=x;exact ZG e
 |tup xs=>obtain⟨_,_,_,p⟩:=x;exact p.lt
 |dK ax=>obtain⟨_,_,_,_,o,_,_,e,_⟩:=x;exact ZG e
 |dT ax=>obtain⟨_,_,_,_,o,_,_,e,_⟩:=x;exact ZG e
 |set S n=>obtain⟨o,_,_,_,e,_⟩:=x;exact ZG e
 |ins C dx fs=>obtain⟨_,_,_,e,_⟩:=x;exact ZG e
 |own y=>obtain⟨_,e⟩:=x;exact ZG e
 |xd fs=>obtain⟨_,⟨_,_,_,e,_⟩,_⟩:=x;exact ZG e
 |gi lo hi=>obtain⟨_,_,_,e⟩:=x;exact ZG e
 |dC ob u=>obtain⟨e,_⟩:=x;exact ZG e
 |Iw ps=>exact ZG (show h.get? a=some _ from x)
 |met f y=>exact ZG (show h.get? a=some _ from x)
 |ext φ=>obtain⟨_,⟨_,e⟩,_⟩:=x;exact ZG e
def Paired.MJ:∀{l₁:List α}{l₂:List β},Paired F l₁ l₂->(∀a b,F a b->G a b)->Paired G l₁ l₂:=λ{l₁ l₂} h f=>by
 induction h with
 |nil=>exact .nil
 |cons r t ih=>exact .cons (f _ _ r) ih
def aT.om(x:aT P w H h a o)(k:∀b u,(b=a\/H b=some (.own a))->h.get? b=some u->h'.get? b=some u)
  (ho:∀b,H b=some (.own a)->H' b=some (.own a)) (ht:∀b xs,H b=some (.tup xs)->H' b=some (.tup xs)):aT P w H' h' a o:=by
 induction o with
 |lst xs=>obtain⟨z,its,n,r,e⟩:=x;exact⟨z,its,n,r,k _ _ (.inl rfl) e⟩
 |tup xs=>obtain⟨z,its,r,ob,e,c⟩:=x;exact⟨z,its,r,ob,k _ _ (.inl rfl) e,c⟩
 |dK ax=>obtain⟨z,y,vs,r,ob,es,ep,e,c⟩:=x;exact⟨z,y,vs,r,ob,es,ep,k _ _ (.inl rfl) e,c⟩
 |dT ax=>
  obtain⟨z,y,xs,r,ob,es,ep,e,c⟩:=x;exact⟨z,y,xs,Paired.MJ r λp q z=>⟨z.1,ht _ _ z.2.1,z.2.2⟩,ob,es,ep,k _ _ (.inl rfl) e,c⟩
 |set S n=>obtain⟨ob,es,ep,t,e,c⟩:=x;exact⟨ob,es,ep,t,k _ _ (.inl rfl) e,c⟩
 |ins C dx fs=>
  obtain⟨d,z,ne,e,mA,⟨od,es,ep,e2,c⟩,r⟩:=x;exact⟨ho _ d,z,ne,k _ _ (.inl rfl) e,mA,⟨od,es,ep,k _ _ (.inr d) e2,c⟩,r⟩
 |own y=>obtain⟨ob,e⟩:=x;exact⟨ob,k _ _ (.inl rfl) e⟩
 |xd fs=>obtain⟨mA,⟨od,es,ep,e,c⟩,r⟩:=x;exact⟨mA,⟨od,es,ep,k _ _ (.inl rfl) e,c⟩,r⟩
 |gi lo hi=>obtain⟨t,u,v,e⟩:=x;exact⟨t,u,v,k _ _ (.inl rfl) e⟩
 |dC ob u ih=>obtain⟨e,q⟩:=x;exact⟨k _ _ (.inl rfl) e,ih q⟩
 |Iw ps=>
  have e:h.get? a=some {cls:= .none,data:= .fields ps}:=x;show h'.get? a=some {cls:= .none,data:= .fields ps};exact k a _ (.inl rfl) e
 |met f y=>
  have e:h.get? a=some (PySem.W.methodObj (.ref f) (.ref y)):=x;show h'.get? a=some (PySem.W.methodObj (.ref f) (.ref y));exact k a _ (.inl rfl) e
 |ext φ=>obtain⟨p,⟨o,e⟩,st⟩:=x;exact⟨st _ _ p λo q=>k _ _ (.inl rfl) q,⟨o,k _ _ (.inl rfl) e⟩,st⟩
theorem iM.lt(x:iM P w H h)(e:H a=some o):a<h.objs.size:=(x a o e).lt
def iM.fresh(x:iM P w H h)(e:h.objs.size<=a):H a=none:=by
 cases q:H a with
 |none=>rfl
 |some u=>exact absurd (Zn (x.lt q) e) (aam _)
def iM.kept(x:iM P w H h)(k:∀b u,h.get? b=some u->h'.get? b=some u):iM P w H h':=λa o e=>
 (x a o e).om (λb u _ q=>k b u q) (λ_ q=>q) λ_ _ q=>q
def iM.laid(x:iM P w H h)(k:∀b u,h.get? b=some u->h'.get? b=some u)(hp:h.objs.size<=a)(new:aT P w (upd H a o) h' a o):iM P w (upd H a o) h':=λb u e=>by
 have hn:=x.fresh hp;by_cases hb:b=a
 .subst hb;rw[ag]at e;cases e;exact new
 .rw[ai hb]at e;exact(x b u e).om (λc v _ q=>k c v q) (λc q=>by rw[ai (b6 q hn)];exact q) λc xs q=>by rw[ai (b6 q hn)];exact q
end
def Rd(H:Hp)(a:Addr)(u:HO):Prop:=H a=some u\/∃o,H a=some (.dC o u)
def Rd.ok(r:Rd H a u)(x:iM P w H h):aT P w H h a u:=by
 rcases r with r|⟨o,r⟩
 .exact x a u r
 .obtain⟨_,q⟩:=x a _ r;exact q
def An:Option HO->Prop
 |some (.lst _)=>True
 |some (.dK _)=>True
 |some (.dT _)=>True
 |some (.set _ _)=>True
 |some (.ins _ _ _)=>True
 |some (.ext _)=>True
 |_=>False
section
variable {P:Program}{w:World}{H:Hp}{h h':Heap}{x e:Addr}{o':HO}
def iM.write(ok:iM P w H h)(mu:An (H x))(he:e=x\/H e=some (.own x))(k:∀b u,b≠e->h.get? b=some u->h'.get? b=some u)(G0:∃u,h'.get? e=some u)
  (new:aT P w (upd H x o') h' x o'):iM P w (upd H x o') h':=λb u q=>by
 have MK:∀c y,H c=some (.own y)->c≠x:=λc y r z=>by subst z;rw[r]at mu;exact mu
 have Rk:∀c xs,H c=some (.tup xs)->c≠x:=λc xs r z=>by subst z;rw[r]at mu;exact mu
 by_cases hb:b=x
 .subst hb;rw[ag]at q;cases q;exact new
 .rw[ai hb]at q;by_cases DM:b=e
  .have q':H b=some (.own x):=by
    rcases he with z|z
    .exact absurd (DM.trans z) hb
    .rw[DM];exact z
   rw[q]at q';cases q';obtain⟨v,hv⟩:=G0;exact⟨v,by rw[DM];exact hv⟩
  .refine(ok b u q).om (λc v hc r=>k c v ?_ r) (λc r=>by rw[ai (MK c b r)];exact r) λc xs r=>by rw[ai (Rk c xs r)];exact r
   rcases hc with rfl|hc
   .exact DM
   .rintro rfl;rcases he with z|z
    .exact MK c b hc z
    .rw[hc]at z;cases z;exact hb rfl
end
structure Un(fs ex:List Addr)(H H':Hp)(h h':Heap):Prop where
 keep:∀b o,h.get? b=some o->H b=none->b∉fs->b∉ex->h'.get? b=some o
 slot:∀b o,h.get? b=some o->H b=none->b∈fs->b∉ex->∃sl,h'.get? b=some {o with slots:=sl}
 free:∀b o,h.get? b=some o->H b=none->b∉ex->H' b=none
 there:∀b o,h.get? b=some o->b∉ex->∃o',h'.get? b=some o'
 qa:∀b xs,H b=some (.tup xs)->H' b=some (.tup xs)
 iN:∀b o u,H b=some (.dC o u)->H' b=some (.dC o u)
 qb:∀b ps,H b=some (.Iw ps)->∃more,H' b=some (.Iw (ps++more))
section
variable {fs Wd ex YX:List Addr}{H H1 H2:Hp}{h h1 h2 h':Heap}{a x e:Addr}{o:HO}
def Un.any(u:Un fs ex H H1 h h1)(q:h.get? b=some ob)(n:H b=none)(hx:b∉ex):∃sl,h1.get? b=some {ob with slots:=sl}:=by
 by_cases hb:b∈fs
 .exact u.slot b ob q n hb hx
 .exact⟨ob.slots,u.keep b ob q n hb hx⟩
def Un.kept(k:∀b u,h.get? b=some u->h'.get? b=some u):Un fs ex H H h h':=
 ⟨λb ob q _ _ _=>k b ob q,λb ob q _ _ _=>⟨ob.slots,k b ob q⟩,λ_ _ _ n _=>n,λb ob q _=>⟨ob,k b ob q⟩,λ_ _ q=>q,λ_ _ _ q=>q,λ_ ps q=>⟨#[],by rw[q];simp⟩⟩
def Un.refl:Un fs ex H H h h:=Un.kept λ_ _ q=>q
def Un.laid(k:∀b u,h.get? b=some u->h'.get? b=some u)(hp:h.objs.size<=a)(hn:H a=none):Un fs ex H (upd H a o) h h' where
 keep:=λb u q _ _ _=>k b u q
 slot:=λb u q _ _ _=>⟨u.slots,k b u q⟩
 free:=λb u q n _=>by rw[ai (ZT (Zn (ZG q) hp))];exact n
 there:=λb u q _=>⟨u,k b u q⟩
 qa:=λb xs q=>by rw[ai (b6 q hn)];exact q
 iN:=λb u xs q=>by rw[ai (b6 q hn)];exact q
 qb:=λb ps q=>⟨#[],by rw[ai (b6 q hn),q];simp⟩
def Un.write(mu:An (H x))(he:e=x\/H e=some (.own x))(k:∀b u,b≠e->h.get? b=some u->h'.get? b=some u)(G0:∃u,h'.get? e=some u):Un fs ex H (upd H x o) h h':=by
 have hx:∀b,H b=none->b≠x:=λb n z=>by subst z;rw[n]at mu;exact mu
 have hb:∀b,H b=none->b≠e:=λb n z=>by
  subst z;rcases he with r|r
  .exact hx b n r
  .rw[n]at r;cases r
 have hm:∀b u,H b=some u->¬An (some u)->b≠x:=λb u q nm z=>by subst z;rw[q]at mu;exact nm mu
 refine⟨λb u q n _ _=>k b u (hb b n) q,λb u q n _ _=>⟨u.slots,k b u (hb b n) q⟩,λb u q n _=>by rw[ai (hx b n)];exact n,λb u q _=>?_,
  λb xs q=>by rw[ai (hm b _ q λz=>z)];exact q,λb u xs q=>by rw[ai (hm b _ q λz=>z)];exact q,λb ps q=>⟨#[],by rw[ai (hm b _ q λz=>z),q];simp⟩⟩
 by_cases DM:b=e
 .subst DM;exact G0
 .exact⟨u,k b u DM q⟩
end
noncomputable def Qh(h:Heap)(H:Hp):List Addr:=(List.range h.objs.size).filter λa=>(H a).isSome
noncomputable def qc(h:Heap)(H:Hp):Heap:=PySem.W.hideAll h (Qh h H)
def yv(h:Heap)(H:Hp):(qc h H).objs.size =h.objs.size:=PySem.W.hideAll_size _ _
def Aq(e:h.get? b=some o)(n:H b=none):(qc h H).get? b=some o:=
 PySem.W.hideAll_get _ e λhm=>by
  have q:(H b).isSome =true:=(abD.mp hm).2;rw[n]at q;simp at q
def D5(e:(qc h H).get? b=some o):h.get? b=some o/\H b=none:=by
 have e':h.get? b=some o:=PySem.W.of_hideAll (Qh h H) e;refine⟨e',?_⟩;cases q:H b with
 |none=>rfl
 |some x=>
  have hm:b∈Qh h H:=abD.mpr ⟨Z9.mpr (ZG e'),by simp[q]⟩;have z:(qc h H).get? b=none:=PySem.W.hideAll_none (Qh h H) hm;rw[z]at e;cases e
structure Mod(K:aH)(mg:Str->Option Value)(base:Heap):Prop where
 Qi:K.In base
 glob:base.Ns mainGlobals mg
 blt:∃mb,base.Ns builtinsNs mb/\∀x:Str,x≠"__name__"->mb x=bootBuiltins x
 nolimit:base.NoLimit
structure Cx where
 prog:Program
 w:World
 K:aH
 mg:Str->Option Value
 base:Heap
 A:Around
 N:List Str
 s₀:Shared
 H₀:Hp
 env:Env
 outer:List Env
 stack:List Env
 ex:List Addr
 fn:Str->Bool
 calm:Bool
 pn:List ab0
 xe:Value->Shared->Prop
noncomputable def As(l:List Env):List Addr:=l.filterMap (·.frame)
noncomputable abbrev Cx.fs(X:Cx):List Addr:=As X.outer
def yw(sc:Scope)(x:Str):Prop:=sc.names.lookup x=some .local \/sc.names.lookup x=some .cell \/sc.names.lookup x=some .free
def Loc(sc:Scope)(x:Str):Prop:=sc.names.lookup x=some .local \/sc.names.lookup x=some .cell
def Look(env:Env)(h:Heap)(m:Str->Option Value)(x:Str)(u:Value):Prop:=
 (env.kindOf x=some .local /\m x=some u)\/((env.kindOf x=some .cell \/env.kindOf x=some .free)/\∃c,env.cells.lookup x=some c/\h.IsCell c (some u))
structure Cx.Ok(X:Cx):Prop where
 mod:Mod X.K X.mg X.base
 kind:X.env.scope.kind= .function
 glob:X.env.globals=mainGlobals
 blt:X.env.builtins=builtinsNs
 above:X.s₀.heap.objs.size<=X.env.locals
 inj:∀x y c,X.env.cells.lookup x=some c->X.env.cells.lookup y=some c->x=y
 has:∀x,(X.env.kindOf x=some .cell \/X.env.kindOf x=some .free)->∃c,X.env.cells.lookup x=some c
 ML:∀x c,X.fn x=true->X.env.cells.lookup x=some c->X.s₀.heap.objs.size<=c
 hd:X.calm=true->X.A.handled=none
 frames:X.A.frames=some X.stack
 Qj:X.stack=X.outer\/(X.stack=X.env::X.outer/\X.env.frame=some X.env.locals)
 Ux:∀b∈X.ex,b≠X.env.locals/\∀x c,X.env.cells.lookup x=some c->c≠b
 bs:∀b o,X.base.get? b=some o->X.s₀.heap.get? b=some o/\X.H₀ b=none
 Au:X.base.objs.size<=X.s₀.heap.objs.size
 Av:∀b o,X.base.get? b=some o->b∉X.ex
 D6:∀b∈X.ex,b∉X.fs
 lW:X.s₀.heap.FunFrames X.base X.outer
 L':∀b∈X.fs,X.H₀ b=none
structure Inv(X:Cx)(U:List ab0)(σ:List (Option V))(H:Hp)(s:Shared):Prop where
 ok:X.Ok
 os:s.os=X.s₀.os
 bare:AllBare s.gens
 base:Un X.fs X.ex X.H₀ H X.s₀.heap s.heap
 loc:∃m,s.heap.Ns X.env.locals m/\∀(i:Nat) (x:Str) (v:V),X.N[i]?=some x->σ[i]?=some (some v)->yw X.env.scope x->∃u,RelV v u/\Look X.env s.heap m x u
 cell:∀x c,X.env.cells.lookup x=some c->∃v,s.heap.IsCell c v
 free:H X.env.locals=none
 fY:∀x c,X.env.cells.lookup x=some c->H c=none
 pin:∀p∈X.pn++U,s.heap.get? p.1=some p.2/\H p.1=none/\p.1≠X.env.locals/\p.1∉X.fs/\∀v,p.2.data≠ .cell v
 aX:iM X.prog X.w H s.heap
 len:σ.length=X.N.length
section
variable {X:Cx}{U:List ab0}{σ:List (Option V)}{H H':Hp}{s:Shared}{h':Heap}
def Cx.Ok.Rl(ok:X.Ok)(e:X.base.get? b=some o):b∉X.fs:=λhb=>by
 have:=(ok.lW.mem hb).1;rw[e]at this;cases this
theorem Inv.bs(I:aa5):∀b o,X.base.get? b=some o->s.heap.get? b=some o/\H b=none:=λb o e=>
 ⟨I.base.keep b o (I.ok.bs b o e).1 (I.ok.bs b o e).2 (I.ok.Rl e) (I.ok.Av b o e),I.base.free b o (I.ok.bs b o e).1 (I.ok.bs b o e).2 (I.ok.Av b o e)⟩
def Inv.bk(I:aa5):∀b o,X.base.get? b=some o->s.heap.get? b=some o:=λb o e=>(I.bs b o e).1
theorem Inv.mod(I:aa5):Mod X.K X.mg X.base:=I.ok.mod
def Inv.G6(I:aa5):X.K.In s.heap:=I.ok.mod.Qi.keeps I.bk
theorem Inv.lt(I:aa5):X.env.locals<s.heap.objs.size:=let ⟨_,hn,_⟩:=I.loc;hn.lt
def Inv.sz(I:aa5):X.s₀.heap.objs.size<=s.heap.objs.size:=Zr I.ok.above (ZP I.lt)
def Inv.Rm(I:aa5)(h:s.heap.objs.size<=a):a∉X.fs:=λhb=>by
 obtain⟨_,o,ho,_⟩:=I.ok.lW.mem hb;exact absurd (Zn (ZG ho) (Zr I.sz h)) (aam _)
def Inv.Iy(I:aa5):∀x c,X.env.cells.lookup x=some c->c≠X.env.locals:=λx c e z=>by
 refine eC (I.cell x c e) λv o ho hd=>?_;obtain⟨m,⟨o',es,ep,Iz,lu,_⟩,_⟩:=I.loc;rw[z,Iz]at ho;cases ho;rw[lu]at hd;cases hd
theorem Inv.lW(I:aa5):s.heap.FunFrames X.base X.outer:=by
 have all:∀(l:List Env),(∀b∈As l,b∈X.fs)->X.s₀.heap.FunFrames X.base l->s.heap.FunFrames X.base l:=by
  intro l;induction l with
  |nil=>intro _ _;trivial
  |cons env r ih=>
   intro hs hl;obtain⟨hk,⟨L,o,hf,hn,ho,hd⟩,hr⟩:=hl;have hL:L∈X.fs:=hs L (by unfold As;rw[acH,hf];exact Zt);obtain⟨sl,e⟩:=I.base.slot L o ho (I.ok.L' L hL) hL λz=>I.ok.D6 L z hL;exact⟨hk,⟨L,_,hf,hn,e,hd⟩,ih (λb hb=>hs b (by unfold As;rw[acH,hf];exact Zm _ hb)) hr⟩
 exact all X.outer (λ_ hb=>hb) I.ok.lW
theorem Inv.stack(I:aa5):s.heap.FunFrames X.base X.stack:=by
 rcases I.ok.Qj with e|⟨e,hf⟩
 .rw[e];exact I.lW
 .rw[e];refine aa I.loc λm hn _=> .cons (by rw[I.ok.kind];decide) hf hn ?_ I.lW;exact Heap.get?_none_of_le (Zr I.ok.Au I.ok.above)
def Inv.lX(I:aa5):∀b∈As X.stack,b∈X.env.locals::X.fs:=λb hb=>by
 rcases I.ok.Qj with e|⟨e,hf⟩
 .rw[e]at hb;exact Zm _ hb
 .rw[e]at hb;unfold As at hb;rw[acH,hf]at hb;exact hb
def Inv.vT(I:aa5):∀b∈As X.stack,H b=none:=λb hb=>by
 rcases ZC.mp (I.lX b hb)with e|hb
 .rw[e];exact I.free
 .obtain⟨_,o,ho,_⟩:=I.ok.lW.mem hb;exact I.base.free b o ho (I.ok.L' b hb) λz=>I.ok.D6 b z hb
def Inv.step{g':Array GenState}{t':Nat}{d':Drawn}{ch:List Addr}(I:aa5)
  (DN:∀b∈ch,(b∈X.ex\/X.s₀.heap.objs.size<=b)/\b≠X.env.locals/\(∀x c,X.env.cells.lookup x=some c->c≠b)/\∀p∈X.pn++U,p.1≠b)
  (keep:∀b o,b≠X.env.locals->b∉X.fs->b∉ch->s.heap.get? b=some o->H b=none->h'.get? b=some o)
  (slot:∀b o,b≠X.env.locals->b∈X.fs->b∉ch->s.heap.get? b=some o->H b=none->∃sl,h'.get? b=some {o with slots:=sl}) (free:∀b o,b∉ch->s.heap.get? b=some o->H b=none->H' b=none)
  (there:∀b o,b∉ch->s.heap.get? b=some o->∃o',h'.get? b=some o')
  (qa:∀b xs,H b=some (.tup xs)->H' b=some (.tup xs)) (iN:∀b o u,H b=some (.dC o u)->H' b=some (.dC o u)) (qb:∀b ps,H b=some (.Iw ps)->∃more,H' b=some (.Iw (ps++more)))
  (ns:∀m,s.heap.Ns X.env.locals m->h'.Ns X.env.locals m) (aX:iM X.prog X.w H' h') (hg:AllBare g'):
  Inv X U σ H' {s with heap:=h',gens:=g',drawn:=d',toks:=t'}:=by
 have Uy:∀b o,X.s₀.heap.get? b=some o->b≠X.env.locals:=λb o e=>ZT (Zn (ZG e) I.ok.above);have Qk:∀b o,X.s₀.heap.get? b=some o->b∉X.ex->b∉ch:=λb o e hx hb=>by
  rcases (DN b hb).1 with z|z
  .exact hx z
  .exact absurd (Zn (ZG e) z) (aam _)
 have cellK:∀x c,X.env.cells.lookup x=some c->∀v,s.heap.IsCell c v->h'.IsCell c v:=λx c e v zz=>by
  refine aa zz λo ho hd=>?_;have MM:c∉ch:=λz=>(DN c z).2.2.1 x c e rfl;by_cases hc:c∈X.fs
  .obtain⟨sl,q⟩:=slot c o (I.Iy x c e) hc MM ho (I.fY x c e);exact⟨_,q,hd⟩
  .exact⟨o,keep c o (I.Iy x c e) hc MM ho (I.fY x c e),hd⟩
 refine⟨I.ok,I.os,hg,⟨λb o e n hb hx=>?_,λb o e n hb hx=>?_,λb o e n hx=>?_,λb o e hx=>?_,λb xs e=>qa b xs (I.base.qa b xs e),λb o xs e=>iN b o xs (I.base.iN b o xs e),λb ps e=>?_⟩,?_,λx c e=>?_,?_,λx c e=>?_,λp hp=>?_,aX,I.len⟩
 .exact keep b o (Uy b o e) hb (Qk b o e hx) (I.base.keep b o e n hb hx) (I.base.free b o e n hx)
 .obtain⟨sl,e1⟩:=I.base.slot b o e n hb hx;obtain⟨We,e2⟩:=slot b _ (Uy b o e) hb (Qk b o e hx) e1 (I.base.free b o e n hx);exact⟨We,e2⟩
 .obtain⟨o',e1⟩:=I.base.there b o e hx;exact free b o' (Qk b o e hx) e1 (I.base.free b o e n hx)
 .obtain⟨o',e1⟩:=I.base.there b o e hx;exact there b o' (Qk b o e hx) e1
 .obtain⟨m1,e1⟩:=I.base.qb b ps e;obtain⟨m2,e2⟩:=qb b _ e1;exact⟨m1++m2,by rw[e2,Array.append_assoc]⟩
 .refine aa I.loc λm hn hl=>⟨m,ns m hn,λi x v e1 e2 e3=>?_⟩;refine aa (hl i x v e1 e2 e3) λu r l=>⟨u,r,?_⟩;rcases l with l|⟨k,c,e,z⟩
  .exact .inl l
  .exact .inr ⟨k,c,e,cellK x c e _ z⟩
 .obtain⟨v,z⟩:=I.cell x c e;exact⟨v,cellK x c e v z⟩
 .obtain⟨m,⟨o,_,_,ho,_⟩,_⟩:=I.loc;exact free _ o (λz=>(DN _ z).2.1 rfl) ho I.free
 .exact eC (I.cell x c e) λv o ho hd=>free c o (λz=>(DN c z).2.2.1 x c e rfl) ho (I.fY x c e)
 .refine MA (I.pin p hp) λe n ne nf d=>?_;have MM:p.1∉ch:=λz=>(DN p.1 z).2.2.2 p hp rfl;exact⟨keep p.1 p.2 ne nf MM e n,free p.1 p.2 MM e n,ne,nf,d⟩
def Inv.un{t':Nat}(I:aa5)(u:Un X.fs [] H H' s.heap h')(aX:iM X.prog X.w H' h'):Inv X U σ H' {s with heap:=h',toks:=t'}:=by
 obtain⟨m,⟨o,es,ep,ho,r⟩,_⟩:=id I.loc;obtain⟨sl,hL⟩:=u.any ho I.free aa9;exact I.step (g':=s.gens) (d':=s.drawn) (ch:=[]) (λ_ z=>nomatch z) (λb o _ hb _ e n=>u.keep b o e n hb aa9) (λb o _ hb _ e n=>u.slot b o e n hb aa9) (λb o _ e n=>u.free b o e n aa9) (λb o _ e=>u.there b o e aa9) u.qa u.iN u.qb (λm' hm=>by
  refine kL hm λo' vU IA Iz r'=>?_;rw[ho]at Iz;cases Iz;exact⟨_,vU,IA,hL,r'⟩) aX I.bare
def Inv.call{g':Array GenState}{t':Nat}{d':Drawn}{ch:List Addr}(I:aa5)(u:Un (As X.stack) ch H H' s.heap h')(aX:iM X.prog X.w H' h')(hg:AllBare g')
  (DN:∀b∈ch,(b∈X.ex\/X.s₀.heap.objs.size<=b)/\b≠X.env.locals/\(∀x c,X.env.cells.lookup x=some c->c≠b)/\∀p∈X.pn++U,p.1≠b):
  Inv X U σ H' {s with heap:=h',gens:=g',drawn:=d',toks:=t'}:=by
 obtain⟨m,⟨o,es,ep,ho,r⟩,_⟩:=id I.loc;obtain⟨sl,hL⟩:=u.any ho I.free λz=>(DN _ z).2.1 rfl;exact I.step (ch:=ch) DN (λb o hL hb hc e n=>u.keep b o e n (λz=>(ZC.mp (I.lX b z)).elim hL hb) hc) (λb o _ _ hc e n=>u.any e n hc) (λb o hc e n=>u.free b o e n hc) (λb o hc e=>u.there b o e hc) u.qa u.iN u.qb (λm' hm=>by
  refine kL hm λo' vU IA Iz r'=>?_;rw[ho]at Iz;cases Iz;exact⟨_,vU,IA,hL,r'⟩) aX hg
def Inv.turned{t':Nat}{it:Addr}(I:aa5)(k:∀b o,b≠it->s.heap.get? b=some o->h'.get? b=some o)(hn:H it=none)(hL:it≠X.env.locals)
  (h1:it∈X.ex\/X.s₀.heap.objs.size<=it) (h2:∀x c,X.env.cells.lookup x=some c->c≠it) (h3:∀p∈X.pn++U,p.1≠it):Inv X U σ H {s with heap:=h',toks:=t'}:=by
 have MN:∀b u,H b=some u->b≠it:=λb u e z=>by rw[z,hn]at e;cases e
 refine I.step (g':=s.gens) (d':=s.drawn) (ch:=[it]) (λb hb=>?_) (λb o _ _ hc e _=>k b o (λz=>hc (by simp[z])) e) (λb o _ _ hc e _=>⟨o.slots,k b o (λz=>hc (by simp[z])) e⟩) (λ_ _ _ _ n=>n)
  (λb o hc e=>⟨o,k b o (λz=>hc (by simp[z])) e⟩) (λ_ _ e=>e) (λ_ _ _ e=>e) (λb ps e=>⟨#[],by rw[e];simp⟩) (λm hm=>?_) (λb u e=>?_) I.bare
 .have e:b=it:=by simpa using hb
  subst e;exact⟨h1,hL,h2,h3⟩
 .exact kL hm λo es ep ho r=>⟨o,es,ep,k _ o (aay hL) ho,r⟩
 .refine(I.aX b u e).om (λc v hc q=>k c v ?_ q) (λ_ q=>q) λ_ _ q=>q;rcases hc with z|z
  .rw[z];exact MN b u e
  .exact MN c _ z
def Inv.tok(I:aa5)(t:Nat):Inv X U σ H {s with toks:=t}:=I.un (h':=s.heap) (t':=t) Un.refl I.aX
theorem Inv.kept(I:aa5)(k:∀b u,s.heap.get? b=some u->h'.get? b=some u):Inv X U σ H {s with heap:=h',toks:=t'}:=I.un (Un.kept k) (I.aX.kept k)
theorem Inv.laid(I:aa5)(k:∀b u,s.heap.get? b=some u->h'.get? b=some u)(hp:s.heap.objs.size<=a)(new:aT X.prog X.w (upd H a o) h' a o):
  Inv X U σ (upd H a o) {s with heap:=h',toks:=t'}:=I.un (Un.laid k hp (I.aX.fresh hp)) (I.aX.laid k hp new)
theorem Inv.write(I:aa5)(mu:An (H x))(he:e=x\/H e=some (.own x))(k:∀b u,b≠e->s.heap.get? b=some u->h'.get? b=some u)(G0:∃u,h'.get? e=some u)
  (new:aT X.prog X.w (upd H x o) h' x o):Inv X U σ (upd H x o) {s with heap:=h',toks:=t'}:=I.un (Un.write mu he k G0) (I.aX.write mu he k G0 new)
def Inv.weak(I:aa5)(hl:bU.length=σ.length)(w:∀(i:Nat) v,bU[i]?=some (some v)->σ[i]?=some (some v)):Inv X U bU H s:=
 ⟨I.ok,I.os,I.bare,I.base,let ⟨m,hn,qd⟩:=I.loc;⟨m,hn,λi x v e1 e2 e3=>qd i x v e1 (w i v e2) e3⟩,I.cell,I.free,I.fY,I.pin,I.aX,hl.trans I.len⟩
def Inv.vV(I:aa5)(h:∀p∈MO,s.heap.get? p.1=some p.2/\H p.1=none/\p.1≠X.env.locals/\p.1∉X.fs/\∀v,p.2.data≠ .cell v):Inv X MO σ H s:=
 ⟨I.ok,I.os,I.bare,I.base,I.loc,I.cell,I.free,I.fY,λp hp=>(ZI.mp hp).elim (λz=>I.pin p (ZO _ z)) (h p),I.aX,I.len⟩
def rV{N:List Str}(hN:N.Nodup){i j:Nat}{x:Str}(a:N[i]?=some x)(b:N[j]?=some x):i=j:=by
 obtain⟨h1,e1⟩:=ZJ.mp a;obtain⟨h2,e2⟩:=ZJ.mp b;exact(List.getElem_inj hN).mp (e1.trans e2.symm)
def oQ{M:Model}{A:Around}{E:Value->Shared->Prop}{i:Nat}{x:Str}{v:V}{u:Value}{Q:Unit->Shared->Prop}(I:aa5)(hN:X.N.Nodup)(hi:X.N[i]?=some x)(hx:Loc X.env.scope x)(r:RelV v u)
  (h:∀s',Inv X U (σ.set i (some v)) H s'->(∃a,Heap.SameBut a s.heap s'.heap/\(a=X.env.locals\/X.env.cells.lookup x=some a))->Q () s') (hf:X.fn x=true\/X.env.scope.names.lookup x=some .local :=by first|exact .inl rfl|exact .inr rfl|assumption):wpAny M A (storeName X.env x u) Q E s:=by
 obtain⟨m,hn,hl⟩:=id I.loc;have Rn:(X.env.scope.kind == .class||(X.env.scope.kind == .module&&X.env.locals !=X.env.globals))=false:=by rw[I.ok.kind];rfl
 have MP:i<σ.length:=by rw[I.len];exact(ZJ.mp hi).1
 have Iy:=I.Iy;have tracked:∀{a:Addr}{h':Heap},(∃o,s.heap.get? a=some o/\H a=none)->Heap.SameBut a s.heap h'->iM X.prog X.w H h':=λ{a h'} ha hs b ob e=>by
  obtain⟨_,_,G7⟩:=ha;refine(I.aX b ob e).om (λc w' hc q=>(hs.2 c ?_).trans q) (λ_ q=>q) λ_ _ q=>q;rintro rfl;rcases hc with rfl|hc
  .rw[G7]at e;cases e
  .rw[G7]at hc;cases hc
 rcases hx with hk|hk
 .refine wpAny_storeName_local hk hn (λh' MQ hs=>?_) Rn;obtain⟨oL,_,_,yx,_⟩:=id hn;refine h _ ⟨I.ok,I.os,I.bare,⟨λb o e n hb hx=>?_,λb o e n hb hx=>?_,I.base.free,λb o e hx=>?_,I.base.qa,I.base.iN,I.base.qb⟩,⟨_,MQ,λj y v' e1 e2 e3=>?_⟩,λy c e=>?_,I.free,I.fY,λp hp=>?_,tracked ⟨oL,yx,I.free⟩ hs,by simpa using I.len⟩ ⟨_,hs,.inl rfl⟩
  .exact(hs.2 b (ZT (Zn (ZG e) I.ok.above))).trans (I.base.keep b o e n hb hx)
  .obtain⟨sl,e1⟩:=I.base.slot b o e n hb hx;exact⟨sl,(hs.2 b (ZT (Zn (ZG e) I.ok.above))).trans e1⟩
  .obtain⟨o',e1⟩:=I.base.there b o e hx;exact⟨o',(hs.2 b (ZT (Zn (ZG e) I.ok.above))).trans e1⟩
  .by_cases hj:j=i
   .subst hj;rw[hi]at e1;cases e1;rw[ZX MP]at e2;cases e2;exact⟨u,r,.inl ⟨hk,by simp⟩⟩
   .rw[ZV (aay hj)]at e2;obtain⟨u',r',q⟩:=hl j y v' e1 e2 e3;refine⟨u',r',?_⟩;rcases q with⟨k,e⟩|⟨k,c,e,z⟩
    .refine .inl ⟨k,?_⟩;have:y≠x:=λe=>hj (rV hN e1 (e▸hi));simp[this,e]
    .exact .inr ⟨k,c,e,z.sameBut hs (Iy y c e)⟩
  .obtain⟨w',z⟩:=I.cell y c e;exact⟨w',z.sameBut hs (Iy y c e)⟩
  .obtain⟨e,n,ne,nf,d⟩:=I.pin p hp;exact⟨(hs.2 p.1 ne).trans e,n,ne,nf,d⟩
 .have Ro:X.fn x=true:=by
   rcases hf with z|z
   .exact z
   .rw[z]at hk;cases hk
  obtain⟨c,hc⟩:=I.ok.has x (.inl hk);obtain⟨w',z⟩:=I.cell x c hc;refine wpAny_storeName_cell I.ok.kind hk hc z (λh' kM hs=>?_);obtain⟨oc,Uz,Rp⟩:=id z;refine h {s with heap:=h'} ⟨I.ok,I.os,I.bare,⟨λb o e n hb hx=>?_,λb o e n hb hx=>?_,I.base.free,λb o e hx=>?_,I.base.qa,I.base.iN,I.base.qb⟩,⟨m,hn.sameBut hs (aay (Iy x c hc)),λj y v' e1 e2 e3=>?_⟩,λy c' e=>?_,I.free,I.fY,λp hp=>?_,tracked ⟨oc,Uz,I.fY x c hc⟩ hs,by simpa using I.len⟩ ⟨c,hs,.inr hc⟩
  .exact(hs.2 b (ZT (Zn (ZG e) (I.ok.ML x c Ro hc)))).trans (I.base.keep b o e n hb hx)
  .obtain⟨sl,e1⟩:=I.base.slot b o e n hb hx;exact⟨sl,(hs.2 b (ZT (Zn (ZG e) (I.ok.ML x c Ro hc)))).trans e1⟩
  .obtain⟨o',e1⟩:=I.base.there b o e hx;exact⟨o',(hs.2 b (ZT (Zn (ZG e) (I.ok.ML x c Ro hc)))).trans e1⟩
  .by_cases hj:j=i
   .subst hj;rw[hi]at e1;cases e1;rw[ZX MP]at e2;cases e2;exact⟨u,r,.inr ⟨.inl hk,c,hc,kM⟩⟩
   .rw[ZV (aay hj)]at e2;obtain⟨u',r',q⟩:=hl j y v' e1 e2 e3;refine⟨u',r',?_⟩;rcases q with q|⟨k,c',e,z'⟩
    .exact .inl q
    .refine .inr ⟨k,c',e,z'.sameBut hs ?_⟩;rintro rfl;exact hj (rV hN e1 (I.ok.inj _ _ _ e hc▸hi))
  .by_cases UA:c'=c
   .subst UA;exact⟨_,kM⟩
   .obtain⟨w2,z2⟩:=I.cell y c' e;exact⟨w2,z2.sameBut hs UA⟩
  .obtain⟨e,n,ne,nf,d⟩:=I.pin p hp;refine⟨(hs.2 p.1 ?_).trans e,n,ne,nf,d⟩;intro q;rw[q,Uz]at e;have q':oc=p.2:=ZU e;exact d w' (by rw[<-q'];exact Rp)
def rW(I:aa5)(hN:X.N.Nodup)(hi:X.N[i]?=some x)(hx:Loc X.env.scope x)(r:RelV v u)
  (h:∀s',Inv X U (σ.set i (some v)) H s'->Q () s') (hf:X.fn x=true\/X.env.scope.names.lookup x=some .local :=by first|exact .inl rfl|exact .inr rfl|assumption):wpAny M A (storeName X.env x u) Q E s:=
 oQ I hN hi hx r (λs' I' _=>h s' I') hf
def Inv.MR(I:aa5)(ho:s'.os=s.os)(u:Un (As X.stack) ch H H' s.heap s'.heap)(aX:iM X.prog X.w H' s'.heap)(hg:AllBare s'.gens)
  (DN:∀b∈ch,(b∈X.ex\/X.s₀.heap.objs.size<=b)/\b≠X.env.locals/\(∀x c,X.env.cells.lookup x=some c->c≠b)/\∀p∈X.pn++U,p.1≠b):Inv X U σ H' s':=by
 obtain⟨h',g',d',t',o'⟩:=s';have e:o'=s.os:=ho;subst e;exact I.call (g':=g') (t':=t') (d':=d') u aX hg DN
end
abbrev XK:=Value->Option Addr->Hp->Prop
abbrev St:=List (Option V)
abbrev VK:=V->Hp->Prop
abbrev TE:=St->Hp->VK->Prop
abbrev TT:=St->Hp->(Bool->Hp->Prop)->Prop
abbrev TA:=St->Hp->(List V->Hp->Prop)->Prop
structure Aw where
 nx:St->Hp->Prop
 rt:VK
 bk:St->Hp->Prop:=λ_ _=>False
 ct:St->Hp->Prop:=λ_ _=>False
abbrev TS:=Aw->St->Hp->Prop
def EP(X:Cx)(U:List ab0)(σ:St)(Q:VK)(u:Value)(s':Shared):Prop:=∃v H',Inv X U σ H' s'/\RelV v u/\Q v H'
def TP(X:Cx)(U:List ab0)(σ:St)(Q:Bool->Hp->Prop)(b:Bool)(s':Shared):Prop:=∃H',Inv X U σ H' s'/\Q b H'
def AP(X:Cx)(U:List ab0)(σ:St)(Q:List V->Hp->Prop)(us:List Value)(s':Shared):Prop:=∃vs H',Inv X U σ H' s'/\aF vs us/\Q vs H'
def SP(X:Cx)(U:List ab0)(D:Aw)(f:Flow)(s':Shared):Prop:=
 match f with
 | .next =>∃bU H',Inv X U bU H' s'/\D.nx bU H'
 | .brk =>∃bU H',Inv X U bU H' s'/\D.bk bU H'
 | .cont =>∃bU H',Inv X U bU H' s'/\D.ct bU H'
 | .ret u=>∃v bU H',Inv X U bU H' s'/\RelV v u/\D.rt v H'
def PE(X:Cx)(e:Expr)(t:TE):Prop:=
 ∀(U:List ab0) (s:Shared) (σ:St) (H:Hp) (Q:VK),Inv X U σ H s->t σ H Q->wpAny aa6 X.A (eval e X.env) (EP X U σ Q) X.xe s
def PT(X:Cx)(e:Expr)(t:TT):Prop:=
 ∀(U:List ab0) (s:Shared) (σ:St) (H:Hp) (Q:Bool->Hp->Prop),Inv X U σ H s->t σ H Q->wpAny aa6 X.A (isTrue e X.env (eval e X.env)) (TP X U σ Q) X.xe s
def PW(X:Cx)(e:Expr)(t:TT):Prop:=
 ∀(whole:Sem Value) (U:List ab0) (s:Shared) (σ:St) (H:Hp) (Q:Bool->Hp->Prop),Inv X U σ H s->t σ H Q->wpAny aa6 X.A (isTrue e X.env whole) (TP X U σ Q) X.xe s
def PW.pt(h:PW X e t):PT X e t:=h _
def PA(X:Cx)(es:List Expr)(t:TA):Prop:=
 ∀(pos:Pos) (U:List ab0) (s:Shared) (σ:St) (H:Hp) (Q:List V->Hp->Prop),Inv X U σ H s->t σ H Q->wpAny aa6 X.A (spliced (backTo pos (starEach es X.env))) (AP X U σ Q) X.xe s
def PS(X:Cx)(st:Stmt)(t:TS):Prop:=
 ∀(U:List ab0) (s:Shared) (σ:St) (H:Hp) (D:Aw),Inv X U σ H s->t D σ H->wpAny aa6 X.A (exec st X.env) (SP X U D) X.xe s
def lz(X:Cx)(st:List Stmt)(t:TS):Prop:=
 ∀(U:List ab0) (s:Shared) (σ:St) (H:Hp) (D:Aw),Inv X U σ H s->t D σ H->wpAny aa6 X.A (execs st X.env) (SP X U D) X.xe s
def bH(h:wpAny M A t Q E s)(hQ:∀a s,Q a s->Q' a s):wpAny M A t Q' E s:=abn h hQ λ_ _ x=>x
section
variable {X:Cx}
def de(i:Nat):TE:=λσ H Q=>∃v,σ[i]?=some (some v)/\Q v H
def tC(v:V):TE:=λ_ H Q=>Q v H
def bM(hN:X.N[i]?=some x)(hv:yw X.env.scope x)(hd:ab4=false:=by decide)(Ax:(x==("__classdict__":Str))=false:=by decide):PE X (.Name x pos) (de i):=by
 intro U s σ H Q I h;refine aa h λv e h=>aa I.loc λm hn hl=>aa (hl i x v hN e hv) λu r l=>?_;have fin:EP X U σ Q u s:=⟨v,H,I,r,h⟩;rcases l with⟨hk,hm⟩|⟨hk,c,hc,vW⟩
 .exact wpAny_Name (wpAny_loadName_local I.ok.kind hk hn hm fin) hd
 .rcases hk with hk|hk
  .exact wpAny_Name (wpAny_loadName_cell I.ok.kind hk hc vW fin) hd
  .exact wpAny_Name (wpAny_loadName_free I.ok.kind hk hc vW fin Ax) hd
def IB:PE X (.Constant (.int i) j pos) (tC (.int i)):=λ_ _ _ H _ I h=>wpAny_Constant_int ⟨.int i,H,I.tok _,⟨_,rfl⟩,h⟩
def MS:PE X (.Constant (.bool b) j pos) (tC (.bl b)):=λ_ _ _ H _ I h=>Constant_bool ⟨.bl b,H,I,rfl,h⟩
def IC:PE X (.Constant .none j pos) (tC .cx):=λ_ _ _ H _ I h=>Constant_none ⟨.cx,H,I,rfl,h⟩
def Gl(X:Cx)(x:Str):Prop:=X.env.kindOf x=some .globalImplicit
def qf(I:aa5)(hg:Gl X x)(hm:X.mg x=some u)(h:Q u s)
  (hd:ab4=false:=by decide):wpAny aa6 X.A (eval (.Name x pos) X.env) Q E s:=
 adO I.ok.kind hg (Calls.loadGlobal_global (by rw[I.ok.glob];exact I.mod.glob.keeps I.bk) hm h) hd
def jX(I:aa5)(hg:Gl X x)(hm:X.mg x=none)(hv:bootBuiltins x=some u)(h:Q u s)
  (hn:x≠"__name__":=by decide) (hd:ab4=false:=by decide):wpAny aa6 X.A (eval (.Name x pos) X.env) Q E s:=by
 exact aa I.mod.blt λmb h1 h2=>adO I.ok.kind hg (Calls.loadGlobal_builtin (by rw[I.ok.glob];exact I.mod.glob.keeps I.bk) hm (by rw[I.ok.blt];exact h1.keeps I.bk) ((h2 x hn).trans hv) h) hd
def D7(hg:Gl X x)(hm:X.mg x=some u)(r:RelV v u)(hd:ab4=false:=by decide):PE X (.Name x pos) (tC v):=
 λ_ _ _ H _ I h=>qf I hg hm ⟨v,H,I,r,h⟩ hd
def D8(hg:Gl X x)(hm:X.mg x=none)(hv:bootBuiltins x=some u)(r:RelV v u)(hn:x≠"__name__":=by decide)(hd:ab4=false:=by decide):PE X (.Name x pos) (tC v):=
 λ_ _ _ H _ I h=>jX I hg hm hv ⟨v,H,I,r,h⟩ hn hd
variable {a b:Expr}{ta tb:TE}{pos:Pos}
def PC(X:Cx)(op:CmpOp)(a b:Expr)(t:TE):Prop:=
 ∀(U:List ab0) (s:Shared) (σ:St) (H:Hp) (Q:VK),Inv X U σ H s->t σ H Q->
  wpAny aa6 X.A (eval a X.env) (λv ba=>wpAny aa6 X.A (eval b X.env) (λu lY=>wpAny aa6 X.A (compareOp op v u) (EP X U σ Q) X.xe lY) X.xe ba) X.xe s
def tB(t:TE):TT:=λσ H Q=>t σ H λx H1=>∃c,x= .bl c/\Q c H1
def ID(h:PC X op a b t)(h1:behindInMarks op b=false:=by first|exact Ay _ aa1 aa1|rfl):PE X (.Compare a [op] [b] pos) t:=λU s σ H Q I hw=>wpAny_Compare1 (h U s σ H Q I hw) h1
def IE(h:PC X op a b t)(h1:behindInMarks op b=false:=by first|exact Ay _ aa1 aa1|rfl):PT X (.Compare a [op] [b] pos) (tB t):=by
 intro U s σ H Q I hw;refine wpAny_isTrue_Compare1 (bH (h U s σ H _ I hw) λv s1 h1=>bH h1 λu s2 h2=>bH h2 λc s3 zz=>bu zz λx H1 I1 r1 q1=>?_) h1;refine aa q1 λd af q=>?_
 try clear q1
 subst af;cases r1;exact abb ⟨H1,I1,q⟩
def IF(h:PE X e t)(he:∀whole,isTrue e X.env whole=(do let v<-whole;standAt e.pos;holding [v] (truthy v)):=by intro _;rfl):PT X e (tB t):=by
 intro U s σ H Q I hw;refine isTrue_plain (bH (h U s σ H _ I hw) λv s1 ⟨x,H1,I1,r1,q1⟩=>?_) (he _);refine aa q1 λd af q=>?_
 try clear q1
 subst af;cases r1;exact abb ⟨H1,I1,q⟩
variable {tA Ql:TT}{bg:List Expr}
def MT(t u:TT):TT:=λσ H Q=>t σ H λc H1=>if c=true then u σ H1 Q else Q false H1
def Wf(t u:TT):TT:=λσ H Q=>t σ H λc H1=>if c=true then Q true H1 else u σ H1 Q
def Rq(t:TT):TT:=λσ H Q=>t σ H λc H1=>Q (!c) H1
def D9(ha:PT X a tA):PW X (.BoolOp .And [a] pos) tA:=by
 intro wh U s σ H Q I h;refine isTrue_and (bH (ha U s σ H Q I h) λc s1 e=>?_);cases c with
 |true=>exact isTrue_and_nil e
 |false=>exact e
def IG(ha:PT X a tA):PW X (.BoolOp .Or [a] pos) tA:=by
 intro wh U s σ H Q I h;refine isTrue_or (bH (ha U s σ H Q I h) λc s1 e=>?_);cases c with
 |false=>exact isTrue_or_nil e
 |true=>exact e
def IH(ha:PT X a tA)(hb:PW X (.BoolOp .And (b::bg) pos) Ql):PW X (.BoolOp .And (a::b::bg) pos) (MT tA Ql):=by
 intro wh U s σ H Q I h;refine isTrue_and (bH (ha U s σ H _ I h) λc s1 zz=>?_);refine aa zz λH1 I1 q1=>?_;cases c with
 |true=>exact hb wh U s1 σ H1 Q I1 q1
 |false=>exact⟨H1,I1,q1⟩
def MU(ha:PT X a tA)(hb:PW X (.BoolOp .Or (b::bg) pos) Ql):PW X (.BoolOp .Or (a::b::bg) pos) (Wf tA Ql):=by
 intro wh U s σ H Q I h;refine isTrue_or (bH (ha U s σ H _ I h) λc s1 zz=>?_);refine aa zz λH1 I1 q1=>?_;cases c with
 |true=>exact⟨H1,I1,q1⟩
 |false=>exact hb wh U s1 σ H1 Q I1 q1
def II(ha:PT X a tA):PT X (.UnaryOp .Not a pos) (Rq tA):=by
 intro U s σ H Q I h;exact isTrue_not (ha U s σ H (λc H1=>Q (!c) H1) I h)
def MW(ta tb:TE):TE:=λσ H Q=>ta σ H λx H1=>∃c,x= .bl c/\if c=true then tb σ H1 Q else Q (.bl false) H1
def Rr(ta tb:TE):TE:=λσ H Q=>ta σ H λx H1=>∃c,x= .bl c/\if c=true then Q (.bl true) H1 else tb σ H1 Q
def MX(ta:TE):TE:=λσ H Q=>ta σ H λx H1=>∃c,x= .bl c/\Q (.bl (!c)) H1
def IJ(h:PE X a t):PE X (.BoolOp op [a] pos) t:=λU s σ H Q I hw=>BoolOp_one (h U s σ H Q I hw)
def IK(ha:PE X a ta)(hb:PE X (.BoolOp .And (b::bg) pos) tb):PE X (.BoolOp .And (a::b::bg) pos) (MW ta tb):=by
 intro U s σ H Q I h;refine BoolOp_and (bH (ha U s σ H _ I h) λv s1 zz=>?_);obtain⟨x,H1,I1,r1,q1⟩:=zz;obtain⟨c,rfl,q1⟩:=q1;cases r1;refine abb ?_;cases c with
 |true=>exact hb U s1 σ H1 Q I1 q1
 |false=>exact⟨.bl false,H1,I1,rfl,q1⟩
def MY(ha:PE X a ta)(hb:PE X (.BoolOp .Or (b::bg) pos) tb):PE X (.BoolOp .Or (a::b::bg) pos) (Rr ta tb):=by
 intro U s σ H Q I h;refine BoolOp_or (bH (ha U s σ H _ I h) λv s1 zz=>?_);obtain⟨x,H1,I1,r1,q1⟩:=zz;obtain⟨c,rfl,q1⟩:=q1;cases r1;refine abb ?_;cases c with
 |false=>exact hb U s1 σ H1 Q I1 q1
 |true=>exact⟨.bl true,H1,I1,rfl,q1⟩
def IL(ha:PE X a ta):PE X (.UnaryOp .Not a pos) (MX ta):=by
 intro U s σ H Q I h;refine UnaryOp_ (bH (ha U s σ H _ I h) λv s1 zz=>?_);obtain⟨x,H1,I1,r1,q1⟩:=zz;obtain⟨c,rfl,q1⟩:=q1;cases r1;exact not_of (abb ⟨.bl (!c),H1,I1,rfl,q1⟩)
end
def cZ(K:aH)(H:Hp)(a:Addr)(xs:List V):Prop:=
 Rd H a (.lst xs)\/
  ∃(o:Obj) (its:Array Value) (n:Nat),K.lookup a=some o/\o.cls= .type "list"/\o.dict=none/\o.data= .seq its n/\its.size<=sizeLine/\aF xs its.toList/\o.slots=#[]
def cT(K:aH)(H:Hp)(a:Addr)(xs:List V):Prop:=H a=some (.tup xs)
noncomputable def Rt:Value->Option V
 | .none =>some .cx
 | .bool b=>some (.bl b)
 | .int i _=>some (.int i)
 | .str x _=>some (.str x)
 | .bytes b _=>some (.MI b)
 | .float b _=>some (.Rj b)
 | .ref a=>some (.ref a)
 | .type n=>some (.ty n)
 |_=>none
def RelV.abs(r:RelV x u):Rt u=some x:=by
 cases x with
 |cx=>cases r;rfl
 |bl _=>cases r;rfl
 |int _=>obtain⟨t,rfl⟩:=r;rfl
 |str _=>obtain⟨t,rfl⟩:=r;rfl
 |MI _=>obtain⟨t,rfl⟩:=r;rfl
 |Rj _=>obtain⟨t,rfl⟩:=r;rfl
 |ref _=>cases r;rfl
 |ty _=>cases r;rfl
theorem RelV.inj(r:RelV x u)(q:RelV y u):x=y:=ZU (r.abs.symm.trans q.abs)
theorem aF.inj:∀{xs ys:List V}{us:List Value},aF xs us->aF ys us->xs=ys:=λ{xs ys us} h=>by
 induction h generalizing ys with
 |nil=>intro h;cases h;rfl
 |cons r t ih=>intro h;cases h with|cons r' t'=>rw[r.inj r',ih t']
section
variable {X:Cx}{U:List ab0}{σ:St}{H:Hp}{s:Shared}{a:Addr}{xs ys:List V}
def cZ.of{K:aH}(h:H a=some (.lst xs)):cZ K H a xs:= .inl (.inl h)
def cT.of{K:aH}(h:H a=some (.tup xs)):cT K H a xs:=h
def Inv.list(I:aa5)(h:cZ X.K H a xs):∃its:List Value,aF xs its/\PlainL s.heap a its.toArray/\xs.length<=sizeLine:=by
 rcases h with h|⟨o,its,n,hk,hc,hd,hs,hz,r,_⟩
 .obtain⟨z,its,n,r,e⟩:=h.ok I.aX;exact⟨its,r,⟨_,n,e,rfl,rfl,rfl⟩,z⟩
 .refine⟨its.toList,r,⟨o,n,I.G6 a o hk,hc,hd,by simpa using hs⟩,?_⟩;have e:=r.length;simp only[ZQ]at e;exact Zr (Zy e) hz
def Inv.tuple(I:aa5)(h:cT X.K H a xs):∃its:List Value,aF xs its/\IsTup s.heap a its.toArray/\xs.length<=sizeLine:=by
 obtain⟨z,its,r,p⟩:=I.aX a _ h;exact⟨its,r,p.tup,z⟩
def Inv.IM(I:aa5)(h:cT X.K H a xs):∃its:List Value,aF xs its/\i7 s.heap a its.toArray/\xs.length<=sizeLine:=by
 obtain⟨z,its,r,p⟩:=I.aX a _ h;exact⟨its,r,p,z⟩
def Inv.rX(I:aa5)(h:cZ X.K H a xs)(h':cZ X.K H a ys):xs=ys:=by
 obtain⟨its,r,⟨o,n,e,_,_,d⟩,_⟩:=I.list h;obtain⟨its',r',⟨o',n',e',_,_,d'⟩,_⟩:=I.list h';rw[e]at e';cases e';rw[d]at d';injection d' with d1 _;have:its=its':=by simpa using congrArg Array.toList d1
 subst this;exact r.inj r'
def Inv.oU(I:aa5)(h:cT X.K H a xs)(h':cT X.K H a ys):xs=ys:=by
 obtain⟨its,r,⟨o,e,_,n,d⟩,_⟩:=I.tuple h;obtain⟨its',r',⟨o',e',_,n',d'⟩,_⟩:=I.tuple h';rw[e]at e';cases e';rw[d]at d';injection d' with d1 _;have:its=its':=by simpa using congrArg Array.toList d1
 subst this;exact r.inj r'
end
noncomputable abbrev Cx.oq(X:Cx)(E:Value->Shared->Prop):Cx:={X with xe:=E}
noncomputable abbrev Cx.MZ(X:Cx):Cx:=X.oq λ_ _=>False
theorem Cx.Ok.oq{X:Cx}(ok:X.Ok)(E:Value->Shared->Prop):(X.oq E).Ok :=
 ⟨ok.mod,ok.kind,ok.glob,ok.blt,ok.above,ok.inj,ok.has,ok.ML,ok.hd,ok.frames,ok.Qj,ok.Ux,ok.bs,ok.Au,ok.Av,ok.D6,ok.lW,ok.L'⟩
def Cx.Ok.gm{X:Cx}{E:Value->Shared->Prop}(ok:(X.oq E).Ok):X.Ok:=
 ⟨ok.mod,ok.kind,ok.glob,ok.blt,ok.above,ok.inj,ok.has,ok.ML,ok.hd,ok.frames,ok.Qj,ok.Ux,ok.bs,ok.Au,ok.Av,ok.D6,ok.lW,ok.L'⟩
section
variable {X:Cx}{U:List ab0}{σ:St}{H:Hp}{s:Shared}{E:Value->Shared->Prop}
theorem Inv.oq(I:aa5)(E:Value->Shared->Prop):Inv (X.oq E) U σ H s:=⟨I.ok.oq E,I.os,I.bare,I.base,I.loc,I.cell,I.free,I.fY,I.pin,I.aX,I.len⟩
theorem Inv.gm(I:Inv (X.oq E) U σ H s):Inv X U σ H s:=⟨I.ok.gm,I.os,I.bare,I.base,I.loc,I.cell,I.free,I.fY,I.pin,I.aX,I.len⟩
theorem SP.gm(h:SP (X.oq E) U D f s'):SP X U D f s':=by
 cases f with
 |next=>obtain⟨bU,H',I,q⟩:=h;exact⟨bU,H',I.gm,q⟩
 |brk=>obtain⟨bU,H',I,q⟩:=h;exact⟨bU,H',I.gm,q⟩
 |cont=>obtain⟨bU,H',I,q⟩:=h;exact⟨bU,H',I.gm,q⟩
 |ret u=>obtain⟨v,bU,H',I,r,q⟩:=h;exact⟨v,bU,H',I.gm,r,q⟩
theorem lz.MZ{st:List Stmt}{t:TS}(h:lz X.MZ st t):lz X st t:=λU s σ H D I hw=>
 abn (h U s σ H D (I.oq _) hw) (λ_ _ q=>q.gm) λ_ _ z=>False.elim z
end
section
variable {X:Cx}{st:Stmt}{bg:List Stmt}{t u:TS}{e:Expr}{te:TE}{pos:Pos}
def vX:TS:=λD σ H=>D.nx σ H
def qg(t u:TS):TS:=λD σ H=>t {D with nx:=u D} σ H
def i8:lz X [] vX:=λ_ _ σ H _ I h=>aeM ⟨σ,H,I,h⟩
def b7(h1:PS X st t)(h2:lz X bg u):lz X (st::bg) (qg t u):=by
 intro U s σ H D I h;refine wpAny_execs_cons (bH (h1 U s σ H {D with nx:=u D} I h) λf s1 q=>?_);cases f with
 |next=>
  exact eC q λbU H' I' q=>h2 U s1 bU H' D I' q
 |ret v=>exact q
 |brk=>exact q
 |cont=>exact q
def Inv.quiet(I:aa5):interactive X.env=false:=by simp[interactive,I.ok.kind]
def vY(te:TE):TS:=λD σ H=>te σ H λ_ H1=>D.nx σ H1
def lA(he:PE X e te)(hs:swapsWith e none pos.line X.env=pure false:=by rfl):PS X (.Expr e pos) (vY te):=by
 intro U s σ H D I h;exact wpAny_Expr_any (bH (he U s σ H _ I h) λv s1 zz=>bu zz λx H1 I1 r1 q1=>⟨σ,H1,I1,q1⟩) I.quiet hs
def Ru(te:TE):TS:=λD σ H=>te σ H D.rt
def uH(he:PE X e te):PS X (.Return (some e) pos) (Ru te):=by
 intro U s σ H D I h;exact wpAny_Return_some (bH (he U s σ H _ I h) λv s1 zz=>bu zz λx H1 I1 r1 q1=>⟨x,σ,H1,I1,r1,q1⟩)
def D_(c:TT)(t u:TS):TS:=λD σ H=>c σ H λb H1=>if b=true then t D σ H1 else u D σ H1
def G8(hc:PT X c tc)(ha:lz X a t)(hb:lz X b u):PS X (.If c a b pos) (D_ tc t u):=by
 intro U s σ H D I h;refine wpAny_If (bH (hc U s σ H _ I h) λd s1 zz=>?_);refine aa zz λH1 I1 q1=>?_;cases d with
 |true=>exact ha U s1 σ H1 D I1 q1
 |false=>exact hb U s1 σ H1 D I1 q1
end
abbrev TG:=V->St->Hp->(St->Hp->Prop)->Prop
abbrev IP:=List V->St->Hp->(St->Hp->Prop)->Prop
def PG(X:Cx)(target:Expr)(t:TG):Prop:=
 ∀(U:List ab0) (s:Shared) (σ:St) (H:Hp) (v:V) (u:Value) (Q:St->Hp->Prop),Inv X U σ H s->RelV v u->t v σ H Q->
  wpAny aa6 X.A (assign target X.env u) (λ_ s'=>∃bU H',Inv X U bU H' s'/\Q bU H') X.xe s
def Ma(X:Cx)(ts:List Expr)(t:IP):Prop:=
 ∀(U:List ab0) (s:Shared) (σ:St) (H:Hp) (vs:List V) (us:List Value) (Q:St->Hp->Prop),Inv X U σ H s->aF vs us->t vs σ H Q->
  wpAny aa6 X.A (assignInOrder ((assignEach ts X.env).map (·.2)) us) (λ_ s'=>∃bU H',Inv X U bU H' s'/\Q bU H') X.xe s
abbrev M0:=V->V->V->Hp->(Hp->Prop)->Prop
def M1(X:Cx)(t:M0):Prop:=
 ∀(U:List ab0) (s:Shared) (σ:St) (H:Hp) (o i v:V) (ov iv u:Value) (Q:Hp->Prop),Inv X U σ H s->RelV o ov->RelV i iv->RelV v u->t o i v H Q->
  wpAny aa6 X.A (setItem ov iv u) (λ_ s'=>∃H',Inv X U σ H' s'/\Q H') X.xe s
section
variable {X:Cx}{pos:Pos}
def cJ(i:Nat):TG:=λv σ H Q=>Q (σ.set i (some v)) H
def lB(hN:X.N.Nodup)(hi:X.N[i]?=some x)(hx:Loc X.env.scope x)(hf:X.fn x=true\/X.env.scope.names.lookup x=some .local :=by first|exact .inl rfl|exact .inr rfl|assumption):PG X (.Name x pos) (cJ i):=by
 intro U s σ H v u Q I r h;exact wpAny_assign_Name (rW I hN hi hx r (λs' I'=>⟨_,H,I',h⟩) hf)
def M3:IP:=λvs σ H Q=>vs=[]/\Q σ H
def G9(t:TG)(u:IP):IP:=λvs σ H Q=>∃v r,vs=v::r/\t v σ H λbU H'=>u r bU H' Q
def Ea:Ma X [] M3:=by
 intro U s σ H vs us Q I r h;obtain⟨e,h⟩:=h;subst e;cases r;exact assignInOrder_nil ⟨σ,H,I,h⟩
def Az(h1:PG X e t)(h2:Ma X es u)
  (hs:(assignEach (e::es) X.env).map (·.2)=assign e X.env::(assignEach es X.env).map (·.2):=by rfl):Ma X (e::es) (G9 t u):=by
 intro U s σ H vs us Q I r h;obtain⟨v,vr,e1,h⟩:=h;subst e1;cases r with
 |cons r rr=>
  rw[hs];refine assignInOrder_cons (bH (h1 U s σ H _ _ _ I r h) λ_ s1 zz=>?_);obtain⟨IQ,H1,I1,q1⟩:=zz;exact h2 U s1 IQ H1 _ _ Q I1 rr q1
def Rv(K:aH)(n:Nat)(t:IP):TG:=λv σ H Q=>∃a xs,v= .ref a/\cT K H a xs/\xs.length=n/\t xs σ H Q
def IS(hc:X.calm=true)(h:Ma X es t)
  (hn:(assignEach es X.env).length =n:=by rfl) (ot:(assignEach es X.env).findIdx? (·.1)=none:=by rfl):PG X (.Tuple es k pos) (Rv X.K n t):=by
 intro U s σ H v u Q I r hw;obtain⟨a,xs,e1,hq,hl,hw⟩:=hw;subst e1;cases r;obtain⟨its,rv,ht,hz⟩:=I.tuple hq;refine assign_Tuple_tuple (I.ok.hd hc) ht (by simp[hn,<-hl,rv.length]) ot λh' hx=>?_;have I1:Inv X U σ H {s with heap:=h'}:=I.kept (t':=s.toks) λb o e=>hx b o (ZT (ZG e)) e;exact h U _ σ H xs _ Q I1 (by simpa using rv) hw
def Rw(to ti:TE)(t:M0):TG:=λv σ H Q=>to σ H λo H1=>ti σ H1 λi H2=>t o i v H2 λH3=>Q σ H3
def IT(ho:PE X o to)(hi:PE X i ti)(hs:M1 X t)
  (ha:∀v,assign (.Subscript o i pos) X.env v=(do
   let ov<-holding [v] (eval o X.env)
   let iv<-holding [v,ov] (eval i X.env)
   standAt pos
   holding [v,ov,iv] (setItem ov iv v)
   release [v,ov,iv] []):=by intro _;rfl):PG X (.Subscript o i pos) (Rw to ti t):=by
 intro U s σ H v u Q I r h;rw[ha];refine Zh (aan (bH (ho U s σ H _ I h) λov s1 zz=>?_));refine bu zz λx H1 I1 r1 q1=>Zh (aan (bH (hi U s1 σ H1 _ I1 q1) λiv s2 zz=>?_));refine bu zz λy H2 I2 r2 q2=>Zh (aeq (Zh (aan (bH (hs U s2 σ H2 x y v ov iv u _ I2 r1 r2 r q2) λ_ s3 zz=>?_))));exact aa zz λH3 I3 q3=>wpAny_release ⟨σ,H3,I3,q3⟩
def ou(te:TE)(g:TG):TS:=λD σ H=>te σ H λx H1=>g x σ H1 D.nx
def AA(he:PE X e te)(hg:PG X tg g)(hs:swapsWithSole [tg] e pos.line X.env=pure false:=by rfl)(hw:swappedStores [tg] e X.env=pure none:=by rfl)
  (h1:(assignEach [tg] X.env).map (·.2)=[assign tg X.env]:=by rfl):PS X (.Assign [tg] e pos) (ou te g):=by
 intro U s σ H D I h;refine wpAny_Assign_stores (bH (he U s σ H _ I h) λv s1 zz=>bu zz λx H1 I1 r1 q1=>?_) hs hw;rw[h1];exact bH (hg U s1 σ H1 x v _ I1 r1 q1) λ_ s2 q=>q
def jY(hN:X.N.Nodup)(hi:X.N[i]?=some x)(hx:Loc X.env.scope x)(he:PE X e te)(hs:swapsWith e (some (.Name x rY)) pos.line X.env=pure false:=by rfl)(hf:X.fn x=true\/X.env.scope.names.lookup x=some .local :=by first|exact .inl rfl|exact .inr rfl|assumption):
  PS X (.Assign [.Name x rY] e pos) (ou te (cJ i)):=by
 intro U s σ H D I h;refine wpAny_Assign_Name (bH (he U s σ H _ I h) λv s1 zz=>bu zz λy H1 I1 r1 q1=>?_) hs;exact rW I1 hN hi hx r1 (λs2 I2=>⟨_,H1,I2,q1⟩) hf
def IU(c:TT)(tb:TS):TS:=λD σ H=>∃W:Nat->St->Hp->Prop,(∃m,W m σ H)/\∀m σ H,W m σ H->
 c σ H λb H1=>if b=true then∃N:St->Hp->Prop,(∀bU H',N bU H'->∃m',m'<m/\W m' bU H')/\tb {D with nx:=N,ct:=N,bk:=D.nx} σ H1 else D.nx σ H1
def rZ(hp:PassesOwn aa6 X.A X.env X.xe)(hc:PT X c tc)(hb:lz X body tb):PS X (.While c body [] pos) (IU tc tb):=by
 intro U s σ H D I h;obtain⟨W,⟨m0,w0⟩,turn⟩:=h;refine wpAny_While (codeAny_whileLoop (λn s'=>∃bU H',Inv X U bU H' s'/\W n bU H') ?_ m0 ⟨σ,H,I,w0⟩);rintro n s1 ⟨IQ,H1,I1,w1⟩;refine abQ hp (bH (hc U s1 IQ H1 _ I1 (turn n IQ H1 w1)) λb s2 zz=>?_);refine aa zz λH2 I2 q2=>?_;cases b with
 |true=>
  refine aa q2 λN hN q2=>?_;rw[ZD rfl];refine abQ hp (bH (hb U s2 IQ H2 _ I2 q2) λf s3 q3=>?_);cases f with
  |next=>
   exact eC q3 λyz H3 I3 n3=>aa (hN yz H3 n3) λm' hm w3=>⟨m',hm,yz,H3,I3,w3⟩
  |cont=>
   exact eC q3 λyz H3 I3 n3=>aa (hN yz H3 n3) λm' hm w3=>⟨m',hm,yz,H3,I3,w3⟩
  |brk=>exact q3
  |ret v=>exact q3
 |false=>
  rw[ZL Zl];exact aeM ⟨IQ,H2,I2,q2⟩
end
structure It where
 go:Nat->Hp->Prop
 AB:Nat->Hp->V->Hp->Prop
 stop:Nat->Hp->Prop
def k9(X:Cx)(U:List ab0)(H:Hp)(b:Addr):Prop:=
 H b=none/\b≠X.env.locals/\b∉X.fs/\(b∈X.ex\/X.s₀.heap.objs.size<=b)/\(∀x c,X.env.cells.lookup x=some c->c≠b)/\∀p∈X.pn++U,p.1≠b
def Inv.yA(I:aa5)(hb:s.heap.objs.size<=b)(hn:H' b=none):k9 X U H' b:=by
 refine⟨hn,aeN (Zn I.lt hb),I.Rm hb,.inr (Zr I.sz hb),λx c e z=>?_,λp hp z=>?_⟩
 .obtain⟨v,q⟩:=I.cell x c e;exact absurd (Zn q.lt (by rw[z];exact hb)) (aam _)
 .exact absurd (Zn (ZG (I.pin p hp).1) (by rw[z];exact hb)) (aam _)
structure r0(P:Program)(w:World)(K:aH)(tg:Expr)(J:It)(fp:List Addr)(it:Addr)(tn:Nat->Heap->Prop):Prop where
 mem:it∈fp
 obj:∀i h,tn i h->∀b∈fp,∃o,h.get? b=some o/\∀v,o.data≠ .cell v
 keep:∀i h h',tn i h->(∀b∈fp,∀o,h.get? b=some o->h'.get? b=some o)->tn i h'
 item:∀(X:Cx),X.prog=P->X.w=w->X.K=K->X.calm=true->∀(i:Nat) (U:List ab0) (s:Shared) (σ:St) (H:Hp) (E:Value->Shared->Prop),Inv X U σ H s->(∀b∈fp,k9 X U H b)->tn i s.heap->J.go i H->
  wpAny (model P w) X.A (pyNext (.ref it)) (λr s1=>∃u,r=some u/\
   wpAny (model P w) X.A (letOwnedTupleGo tg (.ref it) u) (λ_ s2=>∃x H',Inv X U σ H' s2/\RelV x u/\J.AB i H x H'/\tn (i+1) s2.heap/\∀b∈fp,H' b=none) E s1) E s
 done:∀(X:Cx),X.prog=P->X.w=w->X.K=K->X.calm=true->∀(i:Nat) (U:List ab0) (s:Shared) (σ:St) (H:Hp) (E:Value->Shared->Prop),Inv X U σ H s->(∀b∈fp,k9 X U H b)->tn i s.heap->J.stop i H->
  wpAny (model P w) X.A (pyNext (.ref it)) (λr s1=>r=none/\Inv X U σ H s1) E s
 self:∀(A:Around) (i:Nat) (s:Shared) (Q:Value->Shared->Prop) (E:Value->Shared->Prop),tn i s.heap->Q (.ref it) s->wpAny (model P w) A (pyIter (.ref it)) Q E s
abbrev TI:=St->Hp->(It->Hp->Prop)->Prop
def UB(X:Cx)(U:List ab0)(σ:St)(tg:Expr)(R:It->Hp->Prop)(Qm:Value)(s2:Shared):Prop:=
 ∃(it:Addr) (fp:List Addr) (tn:Nat->Heap->Prop) (J:It) (H':Hp),Qm= .ref it/\Inv X U σ H' s2/\r0 X.prog X.w X.K tg J fp it tn/\tn 0 s2.heap/\(∀b∈fp,k9 X U H' b)/\R J H'
def PI(X:Cx)(tg iter:Expr)(wi:TI):Prop:=
 ∀(U:List ab0) (s:Shared) (σ:St) (H:Hp) (R:It->Hp->Prop),Inv X U σ H s->wi σ H R->
  wpAny aa6 X.A (eval iter X.env) (λv s1=>wpAny aa6 X.A (pyIter v) (UB X U σ tg R) X.xe s1) X.xe s
def r8(ho:s.heap.get? it=some o)(hc:o.cls= .type n)(hd:o.data= .fields vs)
  (hn:["enumerate","zip","dict_itemiterator","dict_reverseitemiterator","odict_iterator","itertools.zip_longest","itertools.pairwise"].contains n=false) (hQ:Q () s):wpAny M A (letOwnedTupleGo tg (.ref it) u) Q E s:=by
 unfold letOwnedTupleGo;cases tg<;>first
  |exact Zq hQ
  |(cases u<;>first
    |exact Zq hQ
    |(refine Zh (wpAny_load ho ?_);rw[hc,hd];show wpAny M A (if(["enumerate","zip","dict_itemiterator","dict_reverseitemiterator","odict_iterator","itertools.zip_longest","itertools.pairwise"].contains n&&vs[0]? == some (rawInt _))=true then _ else _) Q E s;rw[ZL (by intro h;rw[hn,Bool.false_and]at h;cases h)];exact Zq hQ))
noncomputable def Rx(K:aH)(a:Addr):It:=
 ⟨λi H=>∃xs x,cZ K H a xs/\xs[i]?=some x,λi H x H'=>H'=H/\∀xs,cZ K H a xs->xs[i]?=some x,λi H=>∃xs,cZ K H a xs/\xs.length<=i⟩
noncomputable def Ry(K:aH)(a:Addr):It:=
 ⟨λi H=>∃xs x,cT K H a xs/\xs[i]?=some x,λi H x H'=>H'=H/\∀xs,cT K H a xs->xs[i]?=some x,λi H=>∃xs,cT K H a xs/\xs.length<=i⟩
noncomputable def Qn(lo:Int)(n:Nat):It:=⟨λi _=>i<n,λi H x H'=>H'=H/\x= .int (lo+i),λi _=>n<=i⟩
def yB{P:Program}{w:World}{K:aH}{tg:Expr}(a it:Addr):r0 P w K tg (Rx K a) [it] it (λi h=>h.IsListIter it a i) where
 mem:=by simp
 obj:=λi h st b hb=>by
  have e:b=it:=by simpa using hb
  subst e;exact bO st λo e c d=>⟨o,e,λv z=>by rw[d]at z;cases z⟩
 keep:=λi h h' st k=>st.at λo e=>k it aa9 o e
 item:=by
  intro X hP hw hK hc i U s σ H E I hf st hg;subst hP hw hK;refine eC hg λxs x hq hx=>bO (I.list hq) λits rv p hz=>aa (rv.get hx) λu hu ru=>vS (hf it aa9) λf0 f1 f2 f3 f4 f5=>wpAny_pyNext_list_item st p.isList (x:=u) (by simpa using hu) λh' au sb=>?_;have I1:Inv X U σ H {s with heap:=h'}:=I.turned (t':=s.toks) (λb o hb e=>(sb.2 b hb).trans e) f0 f1 f3 f4 f5;exact bO (id au) λo e c d=>⟨u,rfl,r8 (s:={s with heap:=h'}) e c d aa1 ⟨x,H,I1,ru,⟨rfl,λys hy=>by rw[I.rX hy hq];exact hx⟩,au,λb hb=>(hf b hb).1⟩⟩
 done:=by
  intro X hP hw hK hc i U s σ H E I hf st hg;subst hP hw hK;refine aa hg λxs hq hx=>bO (I.list hq) λits rv p hz=>vS (hf it aa9) λf0 f1 f2 f3 f4 f5=>?_;have hl:=rv.length;exact wpAny_pyNext_list_end (I.ok.hd hc) st p.isList (by simp;exact Zr (Zy (aad hl)) hx) λh' eb=>⟨rfl,I.turned (t':=s.toks) (λb o hb e=>eb b o hb e) f0 f1 f3 f4 f5⟩
 self:=λ_ _ _ _ _ st h=>wpAny_pyIter_listiter st h
def uI{P:Program}{w:World}{K:aH}{tg:Expr}(a it:Addr):r0 P w K tg (Ry K a) [it] it (λi h=>h.IsTupleIter it a i) where
 mem:=by simp
 obj:=λi h st b hb=>by
  have e:b=it:=by simpa using hb
  subst e;exact bO st λo e c d=>⟨o,e,λv z=>by rw[d]at z;cases z⟩
 keep:=λi h h' st k=>st.at λo e=>k it aa9 o e
 item:=by
  intro X hP hw hK hc i U s σ H E I hf st hg;subst hP hw hK;refine eC hg λxs x hq hx=>bO (I.tuple hq) λits rv p hz=>aa (rv.get hx) λu hu ru=>vS (hf it aa9) λf0 f1 f2 f3 f4 f5=>wpAny_pyNext_tuple_item st (show s.heap.IsTuple a its.toArray from p) (x:=u) (by simpa using hu) λh' au sb=>?_;have I1:Inv X U σ H {s with heap:=h'}:=I.turned (t':=s.toks) (λb o hb e=>(sb.2 b hb).trans e) f0 f1 f3 f4 f5;exact bO (id au) λo e c d=>⟨u,rfl,r8 (s:={s with heap:=h'}) e c d aa1 ⟨x,H,I1,ru,⟨rfl,λys hy=>by rw[I.oU hy hq];exact hx⟩,au,λb hb=>(hf b hb).1⟩⟩
 done:=by
  intro X hP hw hK hc i U s σ H E I hf st hg;subst hP hw hK;refine aa hg λxs hq hx=>bO (I.tuple hq) λits rv p hz=>vS (hf it aa9) λf0 f1 f2 f3 f4 f5=>?_;have hl:=rv.length;exact wpAny_pyNext_tuple_end (I.ok.hd hc) st (show s.heap.IsTuple a its.toArray from p) (by simp;exact Zr (Zy (aad hl)) hx) λh' eb=>⟨rfl,I.turned (t':=s.toks) (λb o hb e=>eb b o hb e) f0 f1 f3 f4 f5⟩
 self:=λ_ _ _ _ _ st h=>wpAny_pyIter_tupleiter st h
def uJ{P:Program}{w:World}{K:aH}{tg:Expr}(it:Addr)(lo:Int)(n:Nat):r0 P w K tg (Qn lo n) [it] it (λi h=>IsRangeIter h it (lo+(i:Nat)*1) ((n:Int)-(i:Nat)) 1) where
 mem:=by simp
 obj:=λi h st b hb=>by
  have e:b=it:=by simpa using hb
  subst e;exact⟨_,st,λv z=>by
   have z':Data.fields _=Data.cell v:=z;cases z'⟩
 keep:=λi h h' st k=>k it aa9 _ st
 item:=by
  intro X hP hw hK hc i U s σ H E I hf st hg;subst hP hw hK;refine vS (hf it aa9) λf0 f1 f2 f3 f4 f5=>?_;have W:=Walks.range (prog:=X.prog) (w:=X.w) (I.ok.hd hc) it lo 1 n;refine W.item i s _ _ hg st λv h' tk hv au kk=>?_;obtain⟨t,rfl⟩:=hv;have I1:Inv X U σ H {s with heap:=h',toks:=tk}:=I.turned (λb o hb e=>kk b o (by simpa using hb) e) f0 f1 f3 f4 f5;refine⟨_,rfl,r8 (s:={s with heap:=h',toks:=tk}) (n:="range_iterator") au rfl rfl aa1 ⟨.int (lo+i),H,I1,⟨t,?_⟩,⟨rfl,rfl⟩,au,λb hb=>(hf b hb).1⟩⟩;rw[Int.mul_one]
 done:=by
  intro X hP hw hK hc i U s σ H E I hf st hg;subst hP hw hK;exact vS (hf it aa9) λf0 f1 f2 f3 f4 f5=>wpAny_pyNext_range_end (I.ok.hd hc) st (by have:n<=i:=hg;lia) λh' eb=>⟨rfl,I.turned (t':=s.toks) (λb o hb e=>eb b o hb e) f0 f1 f3 f4 f5⟩
 self:=λ_ _ _ _ _ st h=>wpAny_pyIter_rangeiter st h
section
variable {X:Cx}{tg:Expr}
def AD{U:List ab0}{σ:St}{H:Hp}{s:Shared}{R:It->Hp->Prop}{E:Value->Shared->Prop}{lo hi:Int}{t u v:Tok}{tk:Nat}(I:aa5)(h1: -(2 ^ 62)<=lo)(h2:lo<2 ^ 62)(h3: -(2 ^ 62)<=hi)(h4:hi<2 ^ 62)
  (q:R (Qn lo (hi-lo).toNat) H):wpAny aa6 X.A (pyIter (.ref s.heap.objs.size)) (UB X U σ tg R) E {s with heap:=s.heap.push {cls:= .type "range",data:= .fields #[.int lo t,.int hi u,.int 1 v]},toks:=tk}:=by
 refine wpAny_pyIter_range (IsRange.new ..) (small_one h1 h2 h3 h4) ?_;have I1:Inv X U σ H {s with heap:=s.heap.push {cls:= .type "range",data:= .fields #[.int lo t,.int hi u,.int 1 v]},toks:=tk}:=I.kept λb o e=>Zi _ e;refine⟨(s.heap.push {cls:= .type "range",data:= .fields #[.int lo t,.int hi u,.int 1 v]}).objs.size,[(s.heap.push {cls:= .type "range",data:= .fields #[.int lo t,.int hi u,.int 1 v]}).objs.size],_,_,H,rfl,
  I1.kept (t':=tk) λb o e=>Zi _ e,uJ _ lo (hi-lo).toNat,?_,λb hb=>?_,q⟩
 .have e1:lo+((0:Nat):Int)*1=lo:=by simp
  have e2:(((hi-lo).toNat :Nat):Int)-((0:Nat):Int)=Builtin.Range.rangeSize lo hi 1:=by rw[rangeSize_one];split<;>lia
  show IsRangeIter _ _ (lo+((0:Nat):Int)*1) ((((hi-lo).toNat :Nat):Int)-((0:Nat):Int)) 1;rw[e1,e2];exact ZF _ rfl
 .have e:b=(s.heap.push {cls:= .type "range",data:= .fields #[.int lo t,.int hi u,.int 1 v]}).objs.size :=by simpa using hb
  subst e;exact I1.yA (Zu _) (I1.aX.fresh (Zu _))
def M4(ta:TA):TI:=λσ H R=>ta σ H λvs H1=>∃j:Int,vs=[.int j]/\ -(2 ^ 62)<=j/\j<2 ^ 62/\R (Qn 0 j.toNat) H1
def yC{a:Expr}{ta:TA}{p pos:Pos}(hg:Gl X "range")(hm:X.mg "range"=none)(ha:PA X [a] ta)(hs:starEach [a] X.env=[(false,eval a X.env)]:=by rfl):PI X tg (.Call (.Name "range" p) [a] [] pos) (M4 ta):=by
 intro U s σ H R I h;refine Call_ (jX I hg hm boot_range (abE (bH (ha pos U s σ H _ I h) λus s1 zz=>bu zz λvs H1 I1 r1 q1=>?_) hs rfl));obtain⟨j,e,q1,q2,q⟩:=q1;subst e;cases r1 with
 |cons r rr=>
  cases rr;obtain⟨t,rfl⟩:=r;exact call_range_1 (AD I1 aa1 aa1 q1 q2 (by simpa using q))
def Rz(wi:TI)(g:TG)(tb:TS):TS:=λD σ H=>wi σ H λJ H1=>∃W:Nat->Nat->St->Hp->Prop,(∃m,W 0 m σ H1)/\∀i m σ H,W i m σ H->
 (J.stop i H/\D.nx σ H)\/(J.go i H/\∃N:St->Hp->Prop,(∀bU H',N bU H'->∃m',m'<m/\W (i+1) m' bU H')/\∀x H',J.AB i H x H'->g x σ H' λAc H2=>tb {D with nx:=N,ct:=N,bk:=D.nx} Ac H2)
noncomputable def lZ(fp:List Addr)(h:Heap):List ab0:=fp.filterMap λb=>(h.get? b).map λo=>(b,o)
def fL(hb:b∈fp)(e:h.get? b=some o):(b,o)∈lZ fp h:=adR.mpr ⟨b,hb,by rw[e];rfl⟩
def yE(hp:p∈lZ fp h):p.1∈fp/\h.get? p.1=some p.2:=by
 refine aa (adR.mp hp) λb hb e=>?_;cases q:h.get? b with
 |none=>rw[q]at e;cases e
 |some o=>
  rw[q]at e;have e':(b,o)=p:=ZU e;subst e';exact⟨hb,q⟩
def Inv.pinned(I:aa5)(hf:∀b∈fp,k9 X U H b)(ho:∀b∈fp,∃o,s.heap.get? b=some o/\∀v,o.data≠ .cell v):Inv X (U++lZ fp s.heap) σ H s:=
 I.vV λp hp=>(ZI.mp hp).elim (λz=>I.pin p (ZH _ z)) λz=>by
  obtain⟨hb,e⟩:=yE z;refine Ak (hf p.1 hb) λf0 f1 f2 _=>aa (ho p.1 hb) λo e' d=>?_;rw[e]at e';cases e';exact⟨e,f0,f1,f2,d⟩
def Inv.i9(I:Inv X (U++pl) σ H s):Inv X U σ H s:=I.vV λp hp=>I.pin p (ZH _ (ZO _ hp))
def IV(hp:PassesOwn aa6 X.A X.env X.xe)(hc:X.calm=true)(hi:PI X tg iter wi)(hg:PG X tg g)(hb:lz X body tb)
  (hs:∀x,foldedSetIterable iter X.env x=pure x:=by intro _;rfl):PS X (.For tg iter body [] pos) (Rz wi g tb):=by
 intro U s σ H D I h;refine wpAny_For (bH (hi U s σ H _ I h) λv s1 h1=>bH h1 λQm s2 h2=>?_) hs;obtain⟨it,fp,tn,J,H2,e,I2,T,cN,f2,W,⟨m0,w0⟩,turn⟩:=h2;subst e;have uK:∀{H':Hp},(∀b∈fp,H' b=none)->∀b∈fp,k9 X U H' b:=λhn b hb=>⟨hn b hb,(f2 b hb).2⟩;refine codeAny_forLoop_any (λn s'=>∃i bU H',Inv X U bU H' s'/\tn i s'.heap/\(∀b∈fp,H' b=none)/\W i n bU H') ?_ m0 ⟨0,σ,H2,I2,cN,λb hb=>(f2 b hb).1,w0⟩;rintro n s3 ⟨i,yz,H3,I3,jZ,UC,w3⟩;rcases turn i n yz H3 w3 with⟨stop,qn⟩|⟨go,N,hN,step⟩
 .refine abQ hp (bH (T.done X rfl rfl rfl hc i U s3 yz H3 X.xe I3 (uK UC) jZ stop) λr s4 zz=>?_);obtain⟨hr,I4⟩:=zz;subst hr;exact aeM ⟨yz,H3,I4,qn⟩
 .refine abQ hp (bH (T.item X rfl rfl rfl hc i U s3 yz H3 X.xe I3 (uK UC) jZ go) λr s4 zz=>?_);refine aa zz λu hr h4=>?_;subst hr;refine abQ hp (bH h4 λ_ s5 zz=>?_);refine jU zz λx H5 I5 r5 y5 AF Qo=>?_;have Wg:=I5.pinned (uK Qo) (T.obj _ _ AF);refine abQ hp (bH (hg _ s5 yz H5 x u _ Wg r5 (step x H5 y5)) λ_ s6 zz=>?_);refine eC zz λWh H6 I6 q6=>?_;refine abQ hp (bH (hb _ s6 Wh H6 _ I6 q6) λf s7 q7=>?_);have again:∀{AG:St}{H7:Hp},Inv X (U++lZ fp s5.heap) AG H7 s7->N AG H7->∃m,m<n/\∃i bU H',Inv X U bU H' s7/\tn i s7.heap/\(∀b∈fp,H' b=none)/\W i m bU H':=λ{AG H7} I7 n7=>by
   refine aa (hN AG H7 n7) λm' hm w7=>⟨m',hm,i+1,AG,H7,I7.i9,T.keep _ _ _ AF λb hb o e=>(I7.pin (b,o) (ZH _ (ZH _ (fL hb e)))).1,λb hb=>?_,w7⟩;exact aa (T.obj _ _ AF b hb) λo e d=>(I7.pin (b,o) (ZH _ (ZH _ (fL hb e)))).2.1
  cases f with
  |next=>obtain⟨AG,H7,I7,n7⟩:=q7;exact again I7 n7
  |cont=>obtain⟨AG,H7,I7,n7⟩:=q7;exact again I7 n7
  |brk=>obtain⟨AG,H7,I7,q7⟩:=q7;exact⟨AG,H7,I7.i9,q7⟩
  |ret v=>obtain⟨x7,AG,H7,I7,r7,q7⟩:=q7;exact⟨x7,AG,H7,I7.i9,r7,q7⟩
end
abbrev R2:=V->V->Hp->VK->Prop
def kN(X:Cx)(f:Value->Value->Sem Value)(r:R2):Prop:=
 ∀(U:List ab0) (s:Shared) (σ:St) (H:Hp) (x y:V) (v u:Value) (Q:VK),Inv X U σ H s->RelV x v->RelV y u->r x y H Q->
  wpAny aa6 X.A (f v u) (EP X U σ Q) X.xe s
def RA(X:Cx)(f:Value->Sem Value)(r:V->Hp->VK->Prop):Prop:=
 ∀(U:List ab0) (s:Shared) (σ:St) (H:Hp) (x:V) (v:Value) (Q:VK),Inv X U σ H s->RelV x v->r x H Q->
  wpAny aa6 X.A (f v) (EP X U σ Q) X.xe s
def cC(X:Cx)(f:Value)(r:List V->Hp->VK->Prop):Prop:=
 ∀(U:List ab0) (s:Shared) (σ:St) (H:Hp) (xs:List V) (us:List Value) (Q:VK),Inv X U σ H s->aF xs us->r xs H Q->
  wpAny aa6 X.A (call f us) (EP X U σ Q) X.xe s
def RB(X:Cx)(r:V->Hp->(Bool->Hp->Prop)->Prop):Prop:=
 ∀(U:List ab0) (s:Shared) (σ:St) (H:Hp) (x:V) (v:Value) (Q:Bool->Hp->Prop),Inv X U σ H s->RelV x v->r x H Q->
  wpAny aa6 X.A (truthy v) (TP X U σ Q) X.xe s
def G_(r:R2)(ta tb:TE):TE:=λσ H Q=>ta σ H λx H1=>tb σ H1 λy H2=>r x y H2 Q
def Wi(r:V->Hp->VK->Prop)(ta:TE):TE:=λσ H Q=>ta σ H λx H1=>r x H1 Q
def rI(C:Int->Int->Prop)(g:Int->Int->V):R2:=λx y H Q=>∃i j,x= .int i/\y= .int j/\C i j/\Q (g i j) H
def M5(g:Int->Int->V):R2:=λx y H Q=>∃i j,x= .int i/\y= .int j/\Q (g i j) H
def rU(g:Int->V):V->Hp->VK->Prop:=λx H Q=>∃i,x= .int i/\Q (g i) H
section
variable {X:Cx}{a b c:Expr}{ta tb tc:TE}{pos:Pos}
def IW(ha:PE X a ta)(hb:PE X b tb){U:List ab0}{s:Shared}{σ:St}{H:Hp}{R:V->V->Hp->Prop}(I:aa5)
  (h:ta σ H λx H1=>tb σ H1 λy H2=>R x y H2) {Q:Value->Shared->Prop}{f:Value->Value->Sem Value}
  (hf:∀v u s2 x y H2,Inv X U σ H2 s2->RelV x v->RelV y u->R x y H2->wpAny aa6 X.A (f v u) Q X.xe s2):
  wpAny aa6 X.A (eval a X.env) (λv ba=>wpAny aa6 X.A (eval b X.env) (λu lY=>wpAny aa6 X.A (f v u) Q X.xe lY) X.xe ba) X.xe s:=by
 exact bH (ha U s σ H _ I h) λv s1 zz=>bu zz λx H1 I1 r1 q1=>bH (hb U s1 σ H1 _ I1 q1) λu s2 zz=>bu zz λy H2 I2 r2 q2=>hf v u s2 x y H2 I2 r1 r2 q2
def r_{op:Operator}{r:R2}(ho:kN X (binaryOp op) r)(ha:PE X a ta)(hb:PE X b tb):PE X (.BinOp a op b pos) (G_ r ta tb):=by
 intro U s σ H Q I h;exact wpAny_BinOp (IW ha hb I h λv u s2 x y H2 I2 rx ry q=>ho U s2 σ H2 x y v u Q I2 rx ry q)
def M6(ho:RA X (unaryOp op) r)(ha:PE X a ta):PE X (.UnaryOp op a pos) (Wi r ta):=by
 intro U s σ H Q I h;exact UnaryOp_ (bH (ha U s σ H _ I h) λv s1 zz=>bu zz λx H1 I1 r1 q1=>ho U s1 σ H1 x v Q I1 r1 q1)
def RC{f:Value->Value->Sem Value}{C:Int->Int->Prop}{g:Int->Int->Int}
  (rule:∀(i j:Int) (t u:Tok) (s:Shared) (Q:Value->Shared->Prop) (E:Value->Shared->Prop),C i j->Q (.int (g i j) s.toks) {s with toks:=s.toks+1}->wpAny aa6 X.A (f (.int i t) (.int j u)) Q E s):
  kN X f (rI C λi j=> .int (g i j)):=by
 intro U s σ H x y v u Q I rx ry h;refine gQ h λi j af aK hc q=>?_
 try clear h
 subst af;subst aK;obtain⟨t,rfl⟩:=rx;obtain⟨t',rfl⟩:=ry;exact rule i j t t' s _ _ hc ⟨.int (g i j),H,I.tok _,⟨_,rfl⟩,q⟩
def RD{f:Value->Value->Sem Value}{g:Int->Int->Int}
  (rule:∀(i j:Int) (t u:Tok) (s:Shared) (Q:Value->Shared->Prop) (E:Value->Shared->Prop),Q (.int (g i j) s.toks) {s with toks:=s.toks+1}->wpAny aa6 X.A (f (.int i t) (.int j u)) Q E s):
  kN X f (M5 λi j=> .int (g i j)):=by
 intro U s σ H x y v u Q I rx ry h;refine bu h λi j af aK q=>?_
 try clear h
 subst af;subst aK;obtain⟨t,rfl⟩:=rx;obtain⟨t',rfl⟩:=ry;exact rule i j t t' s _ _ ⟨.int (g i j),H,I.tok _,⟨_,rfl⟩,q⟩
def RF{f:Value->Value->Sem Value}{g:Int->Int->Bool}
  (rule:∀(i j:Int) (t u:Tok) (s:Shared) (Q:Value->Shared->Prop) (E:Value->Shared->Prop),Q (.bool (g i j)) s->wpAny aa6 X.A (f (.int i t) (.int j u)) Q E s):
  kN X f (M5 λi j=> .bl (g i j)):=by
 intro U s σ H x y v u Q I rx ry h;refine bu h λi j af aK q=>?_
 try clear h
 subst af;subst aK;obtain⟨t,rfl⟩:=rx;obtain⟨t',rfl⟩:=ry;exact rule i j t t' s _ _ ⟨.bl (g i j),H,I,rfl,q⟩
def RG(i j:Int):Prop:=0<j/\j<1073741824
def Eb(i j:Int):Prop:=(-(2 ^ 64)<i/\i<2 ^ 64)\/(-(2 ^ 64)<j/\j<2 ^ 64)
def Eb.ok(h:Eb i j):IntMulOk i j:=by
 rcases h with⟨h1,h2⟩|⟨h1,h2⟩
 .exact .of_left (intBits_le_64 h1 h2)
 .exact .of_right (intBits_le_64 h1 h2)
def IX:kN X (binaryOp .Add) (M5 λi j=> .int (i+j)):=RD λ_ _ _ _ _ _ _ q=>add_int q
def IY:kN X (binaryOp .Mult) (rI Eb λi j=> .int (i*j)):=RC λ_ _ _ _ _ _ _ hc q=>mul_int q hc.ok
def Ec:kN X (binaryOp .FloorDiv) (rI RG λi j=> .int (i/j)):=RC λi j _ _ _ _ _ hc q=>by
 have h1:(0:Int)<j:=hc.1;have h2:j<1073741824:=hc.2;exact floordiv_int (adp h1) (by rw[Int.fdiv_eq_ediv_of_nonneg i (acI h1)];exact q) (.inl (PyProof.noPylong_small (by lia)))
def IZ:kN X (binaryOp .Mod) (rI (λ_ j=>0<j) λi j=> .int (i%j)):=RC λi j _ _ _ _ _ hc q=>by
 have h1:(0:Int)<j:=hc;exact mod_int' (adp hc) (by rw[Int.fmod_eq_emod_of_nonneg i (acI hc)];exact q)
def Wj{f:Value->Sem Value}{g:Int->Int}
  (rule:∀(i:Int) (t:Tok) (s:Shared) (Q:Value->Shared->Prop) (E:Value->Shared->Prop),Q (.int (g i) s.toks) {s with toks:=s.toks+1}->wpAny aa6 X.A (f (.int i t)) Q E s):
  RA X f (rU λi=> .int (g i)):=by
 intro U s σ H x v Q I rx h;refine aa h λi af q=>?_
 try clear h
 subst af;obtain⟨t,rfl⟩:=rx;exact rule i t s _ _ ⟨.int (g i),H,I.tok _,⟨_,rfl⟩,q⟩
def I8:RA X (unaryOp .USub) (rU λi=> .int (-i)):=Wj λ_ _ _ _ _ q=>neg_int q
def I9(I:aa5)(q:Q (.bl k) H)(e:k=k'):EP X U σ Q (.bool k') s:=by
 subst e;exact⟨.bl k,H,I,rfl,q⟩
def M7:kN X (compareOp .Lt) (M5 λi j=> .bl (decide (i<j))):=RF λ_ _ _ _ _ _ _ q=>lt_int q
def Ed:kN X (compareOp .IsNot) (λx y H Q=>y= .cx /\Q (.bl (!decide (x= .cx))) H):=by
 intro U s σ H x y v u Q I rx ry h;obtain⟨rfl,q⟩:=h;cases ry;refine isnot_none_gen (I9 I q ?_);cases x<;>first
  |(cases rx;rfl)
  |(obtain⟨t,rfl⟩:=rx;rfl)
def kN.or(h:kN X f r)(h':kN X f r'):kN X f (λx y H Q=>r x y H Q\/r' x y H Q):=by
 intro U s σ H x y v u Q I rx ry q;rcases q with q|q
 .exact h U s σ H x y v u Q I rx ry q
 .exact h' U s σ H x y v u Q I rx ry q
def Ee{op:CmpOp}{r:R2}(ho:kN X (compareOp op) r)(ha:PE X a ta)(hb:PE X b tb)(hm:behindInMarks op b=false):PE X (.Compare a [op] [b] pos) (G_ r ta tb):=by
 intro U s σ H Q I h;exact wpAny_Compare1 (IW ha hb I h λv u s2 x y H2 I2 rx ry q=>ho U s2 σ H2 x y v u Q I2 rx ry q) hm
def M8(t:TE):TT:=λσ H Q=>t σ H λx H'=>∃k,x= .bl k/\Q k H'
def Ef(ho:kN X (compareOp op) r)(ha:PE X a ta)(hb:PE X b tb)(hm:behindInMarks op b=false):PT X (.Compare a [op] [b] pos) (M8 (G_ r ta tb)):=by
 intro U s σ H Q I h;refine wpAny_isTrue_Compare1 (bH (ha U s σ H _ I h) λv s1 ⟨x,H1,I1,r1,q1⟩=>bH (hb U s1 σ H1 _ I1 q1) λu s2 ⟨y,H2,I2,r2,q2⟩=>
  bH (ho U s2 σ H2 x y v u _ I2 r1 r2 q2) λc s3 ⟨z,H3,I3,r3,k,e,q3⟩=>?_) hm
 subst e;cases r3;exact abb ⟨H3,I3,q3⟩
def I_(K:aH)(x:V)(H:Hp)(k:Bool):Prop:=
 match x with
 | .cx =>k=false
 | .bl b=>k=b
 | .int i=>k=(i !=0)
 | .str y=>y.length<=sizeLine/\k=((y.length:Int) !=0)
 | .MI y=>y.size<=sizeLine/\k=((y.size:Int) !=0)
 | .ref p=>(∃xs,cZ K H p xs/\k=!xs.isEmpty)\/(∃xs,cT K H p xs/\k=!xs.isEmpty)\/∃ax,H p=some (.dK ax)/\k=!ax.isEmpty
 |_=>False
def uL(r:KV ax vs):(!vs.isEmpty)=!ax.isEmpty:=by
 cases r<;>rfl
def l5(r:aF xs its):(!its.toArray.isEmpty)=!xs.isEmpty:=by
 cases r<;>simp
def l6:(sizeLine:Nat)<2 ^ 63:=by rw[sizeLine_eq];decide
def Ja:RB X (λx H Q=>∃k,I_ X.K x H k/\Q k H):=by
 intro U s σ H x v Q I rx h;obtain⟨k,e,q⟩:=h;have hl:=l6;have hs:sizeLine=16777216:=sizeLine_eq;cases x with
 |cx=>
  cases rx;have e':k=false:=e;subst e';exact truthy_none ⟨H,I,q⟩
 |bl b=>
  cases rx;have e':k=b:=e;subst e';exact abb ⟨H,I,q⟩
 |int i=>
  obtain⟨t,rfl⟩:=rx;have e':k=(i !=0):=e;subst e';exact PySem.P.truthy_int ⟨H,I,q⟩
 |str y=>
  obtain⟨t,rfl⟩:=rx;obtain⟨hy,e'⟩:y.length<=sizeLine/\k=((y.length:Int) !=0):=e;subst e';exact PySem.P.truthy_str (by lia) ⟨H,I.tok _,q⟩
 |MI y=>
  obtain⟨t,rfl⟩:=rx;obtain⟨hy,e'⟩:y.size<=sizeLine/\k=((y.size:Int) !=0):=e;subst e';exact PySem.W.truthy_bytes (Zr hy aa1) ⟨H,I.tok _,q⟩
 |ref p=>
  cases rx;have e':(∃xs,cZ X.K H p xs/\k=!xs.isEmpty)\/(∃xs,cT X.K H p xs/\k=!xs.isEmpty)\/∃ax,H p=some (.dK ax)/\k=!ax.isEmpty:=e;rcases e' with⟨xs,hx,e'⟩|⟨xs,hx,e'⟩|⟨ax,hx,e'⟩
  .subst e';obtain⟨its,r,pl,hz⟩:=I.list hx;have aL:=r.length;exact wpAny_truthy_list pl.isList (by simp only[ZA];lia) ⟨H,I.tok _,by rw[l5 r];exact q⟩
  .subst e';obtain⟨its,r,pl,hz⟩:=I.tuple hx;have aL:=r.length;exact truthy_tuple pl (by simp only[ZA];lia) ⟨H,I.tok _,by rw[l5 r];exact q⟩
  .subst e';obtain⟨hz,hS,vs,r,m⟩:ax.length<=sizeLine/\(p==sysModules)=false/\∃vs,KV ax vs/\s.heap.DictOf (bc X.prog X.w) p vs:=I.aX p _ hx;have aL:ax.length=vs.length:=acw r;exact wpAny_truthy_dict hS m (by lia) ⟨H,I.tok _,by rw[uL r];exact q⟩
 |_=>exact(show False from e).elim
def l7(ha:PE X a ta)(he:∀whole,isTrue a X.env whole=(do let v<-whole;standAt a.pos;holding [v] (truthy v))):
  PT X a (λσ H Q=>ta σ H λx H'=>∃k,I_ X.K x H' k/\Q k H'):=by
 intro U s σ H Q I h;exact isTrue_plain (bH (ha U s σ H _ I h) λv s1 zz=>bu zz λx H1 I1 r1 q1=>Ja U s1 σ H1 x v Q I1 r1 q1) (he _)
def vals1(r:aF [x] us):∃u,us=[u]/\RelV x u:=by
 cases r with
 |cons r1 r2=>cases r2;exact⟨_,rfl,r1⟩
def vals2(r:aF [x,y] us):∃u w',us=[u,w']/\RelV x u/\RelV y w':=by
 cases r with
 |cons r1 r2=>
  cases r2 with
  |cons r3 r4=>cases r4;exact⟨_,_,rfl,r1,r3⟩
end
section
variable {prog:Program}{w:World}{A:Around}{E:Value->Shared->Prop}{s:Shared}{K:aH}{x dx C f:Addr}{mA:Str->Option Value}{name:Str}{v:Value}
end
noncomputable def Jb(f:Str)(v:V):List (Str×V)->List (Str×V)
 |[]=>[(f,v)]
 |(g,x)::r=>if g=f then(g,v)::r else(g,x)::Jb f v r
def oj.some_of(r:oj (some v) o):∃u,o=some u/\RelV v u:=by
 cases o with
 |none=>exact(show False from r).elim
 |some u=>exact⟨u,rfl,r⟩
section
variable {P:Program}{w:World}{H H':Hp}{h h':Heap}{a C dx:Addr}{fs Wd:List (Str×V)}{X:Cx}{U:List ab0}{σ:St}{s:Shared}{f:Str}{v:V}{A:Around}{E:Value->Shared->Prop}
end
section
variable {X:Cx}{o e value:Expr}{f:Str}{pos rY tpos:Pos}{ta tv:TE}
def Jc:V->V->Hp->VK->Prop:=λx y H Q=>∃i j,x= .int i/\y= .int j/\Q (.int (i+j)) H
end
section
variable {X:Cx}{U:List ab0}{σ:St}{H:Hp}{s:Shared}{A:Around}{E:Value->Shared->Prop}{Q:Value->Shared->Prop}{c:Value}{b:Bool}
end
structure eK(k:Nat)(A:Around):Prop where
 hd:A.handled=none
 dp:A.depth+3*k+5<recursionLimit
 un:A.units+16*k+200<cLine
def eK.mono(r:eK k A)(h:j<=k):eK j A:=⟨r.hd,by have:=r.dp;lia,by have:=r.un;lia⟩
theorem eK.deeper(r:eK (k+1) A)(env:Env):eK k (A.deeper env):=
 ⟨r.hd,by have:=r.dp;show A.depth+1+3*k+5<_;lia,by have:=r.un;show A.units+3+16*k+200<_;lia⟩
theorem eK.depth(r:eK k A):A.depth<recursionLimit:=by have:=r.dp;lia
theorem eK.units(r:eK k A):A.units+64<cLine:=by have:=r.un;lia
def l9:TA:=λ_ H Q=>Q [] H
def cQ(ta:TE)(tr:TA):TA:=λσ H Q=>ta σ H λx H1=>tr σ H1 λxs H2=>Q (x::xs) H2
section
variable {X:Cx}{e:Expr}{es:List Expr}{te:TE}{t:TA}{pos:Pos}
def df:PA X [] l9:=λ_ _ _ _ H Q I h=>Calls.spliced_nil ⟨[],H,I,.nil,h⟩
def bX(ha:PE X e te)(hr:PA X es t)(hs:starEach (e::es) X.env=(false,eval e X.env)::starEach es X.env:=by rfl):PA X (e::es) (cQ te t):=by
 intro pos U s σ H Q I h;rw[hs];show wpAny _ _ (spliced ((false,eval e X.env)::backTo pos (starEach es X.env))) _ _ s;refine Calls.spliced_cons (bH (ha U s σ H _ I h) λu s1 zz=>?_);exact bu zz λx H1 I1 r1 q1=>bH (hr pos U s1 σ H1 _ I1 q1) λus s2 zz=>bu zz λxs H2 I2 r2 q2=>⟨x::xs,H2,I2,.cons r1 r2,q2⟩
def RH(t:TA):TE:=λσ H Q=>t σ H λxs H1=>xs.length<=sizeLine/\∀p,H1 p=none->Q (.ref p) (upd H1 p (.tup xs))
def RI(t:TA):TE:=λσ H Q=>t σ H λxs H1=>xs.length<=sizeLine/\∀p,H1 p=none->Q (.ref p) (upd H1 p (.lst xs))
def Jd(h:PA X es t):PE X (.Tuple es x1 pos) (RH t):=by
 intro U s σ H Q I hq;refine wpAny_Tuple_spliced (bH (h pos U s σ H _ I hq) λus s1 ⟨xs,H1,I1,r,z,q⟩=>⟨by rw[<-r.length];exact z,?_⟩);have hf:H1 s1.heap.objs.size=none:=I1.aX.fresh (Zu _);refine⟨.ref s1.heap.objs.size,upd H1 s1.heap.objs.size (.tup xs),I1.laid (t':=s1.toks) (λb u e=>Zi _ e) (Zu _) ?_,rfl,q _ hf⟩;exact⟨z,us,r,i7.new _ _⟩
def Je(h:PA X es t):PE X (.List es pos) (RI t):=by
 intro U s σ H Q I hq;refine wpAny_List_spliced (bH (h pos U s σ H _ I hq) λus s1 ⟨xs,H1,I1,r,z,q⟩=>⟨by rw[<-r.length];exact z,?_⟩);have hf:H1 s1.heap.objs.size=none:=I1.aX.fresh (Zu _);refine⟨.ref s1.heap.objs.size,upd H1 s1.heap.objs.size (.lst xs),I1.laid (t':=s1.toks) (λb u e=>Zi _ e) (Zu _) ?_,rfl,q _ hf⟩;exact⟨z,us,0,r,ZF _ rfl⟩
end
abbrev Sp:=List V->Hp->VK->XK->Prop
abbrev AH:=List Env->Hp->Shared->XK->Value->Shared->Prop
structure Eg(P:Program)(w:World)(K:aH)(mg:Str->Option Value)(base:Heap)(A:Around)(outer:List Env)(s:Shared)(H:Hp):Prop where
 frames:A.frames=some outer
 mod:Mod K mg base
 bs:∀b o,base.get? b=some o->s.heap.get? b=some o/\H b=none
 Au:base.objs.size<=s.heap.objs.size
 lW:s.heap.FunFrames base outer
 L':∀b∈As outer,H b=none
 aX:iM P w H s.heap
 bare:AllBare s.gens
def CE(outer:List Env)(P:Program)(w:World)(H:Hp)(s:Shared)(Q:VK)(u:Value)(s':Shared):Prop:=
 ∃v H',s'.os=s.os/\AllBare s'.gens/\Un (As outer) [] H H' s.heap s'.heap/\iM P w H' s'.heap/\RelV v u/\Q v H'
def CR(CX:AH)(outer:List Env)(P:Program)(w:World)(H:Hp)(s:Shared)(Q:VK)(E:XK)(r:Result)(s':Shared):Prop:=
 match r with
 | .ok (.ret u)=>CE outer P w H s Q u s'
 | .ok _=>False
 | .error e=>CX outer H s E e s'
structure i_(P:Program)(w:World)(K:aH)(mg:Str->Option Value)(base:Heap)(CX:AH)(k:Nat)(f:Addr)(fd:FuncData)(ps:List Str)(sp:Sp):Prop where
 len:∀vs H Q E,sp vs H Q E->vs.length=ps.length
 run:∀(A:Around) (outer:List Env) (s:Shared) (H:Hp) (args:Args) (us:List Value) (vs:List V) (Q:VK) (E:XK),eK k A->Eg P w K mg base A outer s H->BindsTo s fd args (ps.zip us)->aF vs us->sp vs H Q E->
  codeAny (model P w) A (.call (.ref f) args) (CR CX outer P w H s Q E) s
section
variable {X:Cx}{U:List ab0}{σ:St}{H:Hp}{s s':Shared}
def Inv.RJ(I:aa5):Eg X.prog X.w X.K X.mg X.base X.A X.stack s H:=
 ⟨I.ok.frames,I.ok.mod,I.bs,Zr I.ok.Au I.sz,I.stack,I.vT,I.aX,I.bare⟩
def Inv.after(I:aa5)(h:CE X.stack X.prog X.w H s Q u s'):EP X U σ Q u s':=by
 refine Q_ h λv H' os bare un aX r q=>?_;obtain⟨hh,g,d,t,Wl⟩:=s';obtain rfl:Wl=s.os:=os;exact⟨v,H',I.call (h':=hh) (g':=g) (d':=d) (t':=t) (ch:=[]) un aX bare (λb z=>absurd z aa9),r,q⟩
end
def M9(sp:Sp)(Ha:List V)(E:XK)(t:TA):TE:=λσ H Q=>t σ H λvs H1=>sp (vs++Ha) H1 Q E
def Binds(K:aH)(fd:FuncData)(ps:List Str)(ds:List Value):Prop:=
 ∀(s:Shared) (us:List Value),K.In s.heap->(us++ds).length =ps.length->BindsTo s fd ⟨us,[]⟩ (ps.zip (us++ds))
def Binds.all{K:aH}{fd:FuncData}{ps:List Str}(h:∀us:List Value,us.length=ps.length->bindArgs fd ⟨us,[]⟩=pure (ps.zip us)):Binds K fd ps []:=λs us _ hl=>by
 rw[aaf]at hl⊢;exact .of_eq (h us hl)
def uM(CX:AH)(X:Cx)(E:XK):Prop:=∀(U:List ab0) (σ:St) (H:Hp) (s:Shared) (e:Value) (s':Shared),Inv X U σ H s->CX X.stack H s E e s'->X.xe e s'
section
variable {X:Cx}{CX:AH}{k:Nat}{f C:Addr}{fd:FuncData}{ps:List Str}{sp:Sp}{Ha:List V}{ds:List Value}{E:XK}{x m:Str}{p pos qh:Pos}{e o:Expr}{es:List Expr}{ta:TE}{t:TA}{ks:List Str}{Wm:Pos}{rL:List Keyword}{te:TE}{tk:TA}{nm:Option Str}{g:List Value->List Value->List Value}{gV:List V->List V->List V}
def AI(F:i_ X.prog X.w X.K X.mg X.base CX k f fd ps sp)(hr:eK k X.A)(hb:Binds X.K fd ps ds)(hd:aF Ha ds)(hx:uM CX X E)
  (I:aa5) (r:aF vs us) (h:sp (vs++Ha) H Q E):wpAny aa6 X.A (call (.ref f) us) (EP X U σ Q) X.xe s:=by
 have r2:aF (vs++Ha) (us++ds):=r.append hd;have hl:(us++ds).length =ps.length:=by rw[<-r2.length];exact F.len _ _ _ _ h
 refine wpAny_call (adq (F.run X.A X.stack s H ⟨us,[]⟩ (us++ds) (vs++Ha) Q E hr I.RJ (hb s us I.G6 hl) r2 h) λr s' hq=>?_);cases r with
 |error e=>exact hx U σ H s e s' I hq
 |ok fl=>
  cases fl with
  |ret u=>exact I.after hq
  |next=>exact False.elim hq
  |brk=>exact False.elim hq
  |cont=>exact False.elim hq
def vZ(F:i_ X.prog X.w X.K X.mg X.base CX k f fd ps sp)(hr:eK k X.A)(hg:Gl X x)(hm:X.mg x=some (.ref f))(hk:PySem.W.keepIn X.K (.ref f)=true)(hb:Binds X.K fd ps ds)(hd:aF Ha ds)(hx:uM CX X E)
  (ha:PA X (e::es) t) (DO:ab4=false:=by decide) (he:starEach (e::es) X.env=(false,eval e X.env)::starEach es X.env:=by rfl) (dw:(backTo pos (starEach es X.env)).any (·.1)=false:=by rfl):
  PE X (.Call (.Name x p) (e::es) [] pos) (M9 sp Ha E t):=by
 intro U s σ H Q I h;refine acN (qf I hg hm ?_ DO);refine afj (h₀:=X.base) I.ok.mod.Qi hk (bH (ha pos U s σ H _ I h) λus s1 zz=>bu zz λvs H1 I1 r q=>⟨I1.G6,?_⟩) he dw;exact AI F hr hb hd hx I1 r q
end
structure gR(N P:List Str)(sc:Scope):Prop where
 kind:sc.kind= .function
 co:sc.isCoroutine=false
 gen:sc.isGenerator=false
 nd:N.Nodup
 pre:N.take P.length=P
 par:∀x∈P,sc.names.lookup x=some .local \/sc.names.lookup x=some .cell
 Jf:∀y∈sc.names,y.2≠ .free
theorem oV{kindOf:Str->Option NameKind}{x:Str}:∀{binds:List (Str×Value)}{m:Str->Option Value},(∀v,(x,v)∉binds)->bindL kindOf binds m x=m x
 |[],_,_=>rfl
 |(n,v)::r,m,h=>by
  unfold bindL;rw[oV λw hw=>h w (Zm _ hw)];split
  .have:x≠n:=by rintro rfl;exact h v Zt
   simp[this]
  .rfl
theorem oX{kindOf:Str->Option NameKind}{x:Str}:∀{binds:List (Str×Value)}{m:Str->Option Value},(∀v,(x,v)∉binds)->bindC kindOf binds m x=m x
 |[],_,_=>rfl
 |(n,v)::r,m,h=>by
  unfold bindC;rw[oX λw hw=>h w (Zm _ hw)];split
  .rfl
  .have:x≠n:=by rintro rfl;exact h v Zt
   simp[this]
theorem oY{kindOf:Str->Option NameKind}{x:Str}{v:Value}:∀{P:List Str}{vs:List Value}{i:Nat}{m:Str->Option Value},P.Nodup->P[i]?=some x->vs[i]?=some v->kindOf x=some .local ->
  bindL kindOf (P.zip vs) m x=some v
 |[],_,_,_,_,h,_,_=>by simp at h
 |_::_,[],_,_,_,_,h,_=>by simp at h
 |p::P,w::vs,0,m,nd,h1,h2,hk=>by
  simp at h1 h2;subst h1;subst h2;show bindL kindOf ((p,w)::P.zip vs) m p=_;unfold bindL;rw[oV λv hv=>(Z8.mp nd).1 (adH hv).1,ZD hk];simp
 |p::P,w::vs,i+1,m,nd,h1,h2,hk=>by
  show bindL kindOf ((p,w)::P.zip vs) m x=_;unfold bindL;exact oY (i:=i) (Z8.mp nd).2 (by simpa using h1) (by simpa using h2) hk
theorem oZ{kindOf:Str->Option NameKind}{x:Str}{v:Value}:∀{P:List Str}{vs:List Value}{i:Nat}{m:Str->Option Value},P.Nodup->P[i]?=some x->vs[i]?=some v->kindOf x≠some .local ->
  bindC kindOf (P.zip vs) m x=some v
 |[],_,_,_,_,h,_,_=>by simp at h
 |_::_,[],_,_,_,_,h,_=>by simp at h
 |p::P,w::vs,0,m,nd,h1,h2,hk=>by
  simp at h1 h2;subst h1;subst h2;show bindC kindOf ((p,w)::P.zip vs) m p=_;unfold bindC;rw[oX λv hv=>(Z8.mp nd).1 (adH hv).1,ZL hk];simp
 |p::P,w::vs,i+1,m,nd,h1,h2,hk=>by
  show bindC kindOf ((p,w)::P.zip vs) m x=_;unfold bindC;exact oZ (i:=i) (Z8.mp nd).2 (by simpa using h1) (by simpa using h2) hk
noncomputable def start(N:List Str)(vs:List V):St:=vs.map some++List.replicate (N.length-vs.length) none
noncomputable def uN(CX:AH)(P:Program)(w:World)(K:aH)(mg:Str->Option Value)(base:Heap)(N:List Str)(qual:Str)(scope:Scope)(f:Addr)(cd:Value)(A:Around)(outer:List Env)(s:Shared)(H:Hp)(E:XK):Cx where
 prog:=P
 w:=w
 K:=K
 mg:=mg
 base:=base
 A:=A.deeper (envOfC qual scope s.heap.objs.size f cd)
 N:=N
 s₀:=s
 H₀:=H
 env:=envOfC qual scope s.heap.objs.size f cd
 outer:=outer
 stack:=envOfC qual scope s.heap.objs.size f cd::outer
 ex:=[]
 calm:=true
 fn:=λ_=>true
 pn:=[]
 xe:=λe s'=>wpAny (model P w) (A.deeper (envOfC qual scope s.heap.objs.size f cd)) (leaving (envOfC qual scope s.heap.objs.size f cd) e) (λ_ M_=>CX outer H s E e M_) (λe' M_=>CX outer H s E e' M_) s'
def sf{sc:Scope}{n:Nat}{x:Str}(h:sc.names.lookup x=some .cell):∃c,(cellsFrom n sc.names []).lookup x=some c:=by
 have q:=aeG sc.names n [] (.inl h);exact Option.isSome_iff_exists.mp q
def yF{CX:AH}{P:Program}{w:World}{K:aH}{mg:Str->Option Value}{base:Heap}{N ps:List Str}{qual:Str}{scope:Scope}{f:Addr}{cd:Value}{A:Around}{outer:List Env}{s s1:Shared}{H:Hp}{E:XK}{us:List Value}{vs:List V}
  (S:gR N ps scope) (hd:A.handled=none) (e0:Eg P w K mg base A outer s H) (hl:vs.length=ps.length) (r:aF vs us)
  (x:InCallC s s.heap.objs.size (bindL (envOfC qual scope s.heap.objs.size f cd).kindOf (ps.zip us) λ_=>none) (cellsFrom (s.heap.objs.size+1) scope.names []) (bindC (envOfC qual scope s.heap.objs.size f cd).kindOf (ps.zip us) λ_=>none) s1):
  Inv (uN CX P w K mg base N qual scope f cd A outer s H E) [] (start N vs) H s1:=by
 have dw:ps.length<=N.length:=by have:=congrArg List.length S.pre;rw[aaM]at this;lia
 refine eC x.done λh1 tk af hk=>?_;subst af;have M':∀b:Addr,b∉(uN CX P w K mg base N qual scope f cd A outer s H E).ex :=λb z=>absurd (show b∈([]:List Addr) from z) aa9;refine⟨⟨e0.mod,S.kind,rfl,rfl,Zu _,λy z c h1 h2=>?_,λy hy=>?_,λy c _ h=>?_,λ_=>hd,Around.frames_deeper e0.frames,.inr ⟨rfl,rfl⟩,λb z=>absurd z (M' b),e0.bs,e0.Au,λb _ _=>M' b,λb z=>absurd z (M' b),e0.lW,e0.L'⟩,
  rfl,e0.bare,Un.kept hk,⟨_,x.toInCall.ns,λi y v h1 h2 h3=>?_⟩,λy c h=>⟨_,x.cell y c h⟩,e0.aX.fresh (Zu _),λy c h=>?_,λp hp=>absurd (show p∈([]:List ab0) from hp) aa9,e0.aX.kept hk,?_⟩
 .exact name_of_addr x.apart (aat h1) (aat h2)
 .have hy:scope.names.lookup y=some .cell \/scope.names.lookup y=some .free :=hy;rcases hy with hy|hy
  .exact sf hy
  .exact absurd rfl (S.Jf _ (aat hy))
 .exact ZP (x.above y c (aat h))
 .have hi:i<vs.length:=by
   unfold start at h2;by_cases hi:i<vs.length
   .exact hi
   .rw[aar (by simpa using hi),aer]at h2;split at h2<;>cases h2
  have ha:vs[i]?=some v:=by
   unfold start at h2;rw[aao (by simpa using hi),Zz]at h2;cases e:vs[i]? with
   |none=>rw[e]at h2;cases h2
   |some a=>rw[e]at h2;cases h2;rfl
  refine aa (r.get ha) λu hu rv=>?_;have hp:ps[i]?=some y:=by
   rw[<-S.pre,List.getElem?_take_of_lt (Zn hi (Zy hl))];exact h1
  have UD:ps.Nodup:=by rw[<-S.pre];exact S.nd.sublist (aaQ _ _)
  refine⟨u,rv,?_⟩;rcases S.par y (aac hp)with k|k
  .exact .inl ⟨k,oY UD hp hu k⟩
  .obtain⟨c,e⟩:=sf (n:=s.heap.objs.size+1) k;refine .inr ⟨.inl k,c,e,?_⟩;have q:=x.cell y c e;rw[oZ UD hp hu (by show scope.names.lookup y≠_;rw[k];decide)]at q;exact q
 .exact e0.aX.fresh (ZP (x.above y c (aat h)))
 .unfold start;show _=N.length;rw[Zw,Zo,acn];exact abm (Zr (Zy hl) dw)
def Na{CX:AH}{P:Program}{w:World}{K:aH}{mg:Str->Option Value}{base:Heap}{k:Nat}{f:Addr}{name qual:Str}{params:Arguments}{body:List Stmt}{scope:Scope}{dV kV il pm eQ ct oc:Value}{an od:Option Addr}
  {Eh:Array (Option Value)}{N ps:List Str}{sp:Sp} (lk:K.lookup f=some ⟨oc,od,.func (PySem.W.fnOf name qual params body scope dV kV il pm an eQ ct),Eh⟩) (Ax:PySem.W.codeIn K eQ qual=true) (S:gR N ps scope)
  (len:∀vs H Q E,sp vs H Q E->vs.length=ps.length)
  (AJ:∀(A:Around) (outer:List Env) (s:Shared) (H:Hp) (vs:List V) (Q:VK) (E:XK),eK k (A.deeper (envOfC qual scope s.heap.objs.size f eQ))->sp vs H Q E->
   ∃t,lz (uN CX P w K mg base N qual scope f eQ A outer s H E) body t/\t {nx:=λ_ H'=>Q .cx H',rt:=Q} (start N vs) H):
  i_ P w K mg base CX (k+1) f (PySem.W.fnOf name qual params body scope dV kV il pm an eQ ct) ps sp:=by
 refine⟨len,λA outer s H args us vs Q E hr e0 hb r Hb=>?_⟩;have hl:=len _ _ _ _ Hb;have KX:K.In s.heap:=e0.mod.Qi.keeps λb o e=>(e0.bs b o e).1;have lim:s.heap.NoLimit:=e0.mod.nolimit.keeps λb o e=>(e0.bs b o e).1;have Nb:∀y∈ps.zip us,scope.names.lookup y.1=some .local \/(scope.names.lookup y.1=some .cell /\((cellsFrom (s.heap.objs.size+1) scope.names []).lookup y.1).isSome =true):=λ⟨n,v⟩ hy=>by
  rcases S.par n (adH hy).1 with q|q
  .exact .inl q
  .exact .inr ⟨q,aeG _ _ _ (.inl q)⟩
 refine codeAny_call_function hr.depth (KX _ _ lk) rfl S.co S.gen rfl (PySem.W.codeRec_of KX Ax) (hb _ _ _ _ ?_);refine wpAny_newFunctionEnv_cells S.kind Nb λenv he s1 x=>?_;subst he;refine⟨lim.keeps x.toInCall.keep,codeAny_func ?_⟩;refine aa (AJ A outer s H vs Q E (hr.deeper _) Hb) λt ht hq=>?_;have I:Inv (uN CX P w K mg base N qual scope f eQ A outer s H E) [] (start N vs) H s1:=yF S hr.hd e0 hl r x;refine abn (ht [] s1 (start N vs) H _ I hq) (λfl s' hs=>?_) λe s' hs=>hs;have fin:∀{bU:St}{H':Hp}{v:V}{u:Value},Inv (uN CX P w K mg base N qual scope f eQ A outer s H E) [] bU H' s'->RelV v u->Q v H'->CE outer P w H s Q u s':=
  λ{bU H' v u} J rv q=>⟨v,H',J.os,J.bare,J.base,J.aX,rv,q⟩
 cases fl with
 |ret u=>
  exact cn hs λv bU H' J rv q=>fin J rv q
 |next=>
  exact eC hs λbU H' J q=>fin (v:=V.cx) (u:=Value.none) J rfl q
 |brk=>
  exact eC hs λ_ _ _ q=>False.elim q
 |cont=>
  exact eC hs λ_ _ _ q=>False.elim q
section
variable {X:Cx}{x:Str}{p pos:Pos}{e:Expr}{es:List Expr}{t:TA}{id T:String}{r:List V->Hp->VK->Prop}
def RK(r:List V->Hp->VK->Prop)(t:TA):TE:=λσ H Q=>t σ H λvs H1=>r vs H1 Q
def dH(hc:cC X (.builtin id) r)(hg:Gl X x)(hm:X.mg x=none)(hv:bootBuiltins x=some (.builtin id))(ha:PA X (e::es) t)(hn:x≠"__name__":=by decide)(DO:ab4=false:=by decide)
  (he:starEach (e::es) X.env=(false,eval e X.env)::starEach es X.env:=by rfl) (dw:(backTo pos (starEach es X.env)).any (·.1)=false:=by rfl):PE X (.Call (.Name x p) (e::es) [] pos) (RK r t):=by
 intro U s σ H Q I h;refine acN (jX I hg hm hv ?_ hn DO);exact PyProof.Rows.callWith_builtin1 (bH (ha pos U s σ H _ I h) λus s1 zz=>bu zz λvs H1 I1 r1 q1=>hc U s1 σ H1 vs us Q I1 r1 q1) he dw
def dD(hc:cC X (.type T) r)(hg:Gl X x)(hm:X.mg x=none)(hv:bootBuiltins x=some (.type T))(ha:PA X (e::es) t)(hn:x≠"__name__":=by decide)(DO:ab4=false:=by decide)
  (he:starEach (e::es) X.env=(false,eval e X.env)::starEach es X.env:=by rfl) (dw:(backTo pos (starEach es X.env)).any (·.1)=false:=by rfl):PE X (.Call (.Name x p) (e::es) [] pos) (RK r t):=by
 intro U s σ H Q I h;refine acN (jX I hg hm hv ?_ hn DO);exact abE (bH (ha pos U s σ H _ I h) λus s1 zz=>bu zz λvs H1 I1 r1 q1=>hc U s1 σ H1 vs us Q I1 r1 q1) he dw
end
end L2
namespace HT
open PySem PyProof.Rows
noncomputable def lexLt:List Int->List Int->Bool
 |[],[]=>false
 |[],_::_=>true
 |_::_,[]=>false
 |x::xs,y::ys=>if x=y then lexLt xs ys else decide (x<y)
def uO(x y:Int)(xs ys:List Int):lexLt (x::xs) (y::ys)=if x=y then lexLt xs ys else decide (x<y):=rfl
def ox:lexLt [] []=false:=rfl
def l_(y:Int)(ys:List Int):lexLt [] (y::ys)=true:=rfl
def ma(x:Int)(xs:List Int):lexLt (x::xs) []=false:=rfl
def AK(A:Around)(s:Shared)(a:Int)(t:Tok)(c:Int)(u:Tok):∃e,SeqAt.EqAt A s (.int a t) (.int c u) e/\(e=true↔a=c):=
 ⟨(a==c),SeqAt.EqAt.int_int a t c u,by simp⟩
def AL(A:Around)(s:Shared)(a:Int)(t:Tok)(c:Int)(u:Tok)(prog:Program)(w:World)(E:Value->Shared->Prop)(Q:Value->Shared->Prop)(h:Q (.bool (decide (a<c))) s):
  wpAny aa3 A (richCompare .Lt (.int a t) (.int c u)) Q E s:=
 (afc h:wpAny aa3 A (compareOp .Lt (.int a t) (.int c u)) Q E s)
section
open PySem.SeqAt
open PySem.AutoSeq1 (wpAny_loadPart')
open PySem.MeetsSeq PySem.MeetsSeq2 PySem.MeetsSeq3
def oy(l b:Addr)(items items2:Array Value)(n n2:Nat)(dd Hc:Option Addr)(sl Hd:Array (Option Value))(ns ms:List Int)(hi:IntsAre items.toList ns)(hj:IntsAre items2.toList ms):
  Meets (Builtin.«tuple.__lt__» ⟨[.ref l,.ref b],[]⟩)
   (λ_ R s=>s.heap.get? l=some {cls:= .type "tuple",dict:=dd,data:= .seq items n,slots:=sl}/\s.heap.get? b=some {cls:= .type "tuple",dict:=Hc,data:= .seq items2 n2,slots:=Hd}/\
    R (.ok (.ret (.bool (lexLt ns ms)))) s):=
 .of_wp λprog w A R s h=>by
  obtain⟨hp,g,d,tk,os⟩:=s;obtain⟨hl,hb,h⟩:=h;have f2:=AutoSeq1.sub_tuple_tuple;have z1:items.size=ns.length:=by rw[<-hi.length];simp
  have z2:items2.size=ms.length:=by rw[<-hj.length];simp
  wp_walk using abF hl,abF hb,aex _ (λbg b s'=>b.1=none/\s'=⟨hp,g,d,tk,os⟩/\∃(vs ws:List Value) (md Mb:List Int),bg=vs.zip ws/\
   IntsAre vs md/\IntsAre ws Mb/\md.length+items2.size=Mb.length+items.size/\R (.ok (.ret (.bool (lexLt md Mb)))) ⟨hp,g,d,tk,os⟩) _
  case turn=>
   rintro⟨y,x⟩ bg b s' ⟨ja,rfl,vs,ws,md,Mb,hz,RL,Qp,aL,hR⟩;cases RL with
   |nil=>rw[List.zip_nil_left]at hz;cases hz
   |cons a t RM=>
    cases Qp with
    |nil=>rw[afk]at hz;cases hz
    |cons c u RN=>
     rw[acO]at hz;injection hz with Nc Nd;injection Nc with hy hx;subst hy hx;rw[uO]at hR;simp only[ZM]at aL;obtain⟨e,he,Nf⟩:=AK A.in1 ⟨hp,g,d,tk,os⟩ a t c u;refine Zh (he prog w _ _ ?_);cases e with
     |true=>
      rw[ZD (Nf.mp rfl)]at hR;wp_walk;exact⟨rfl,rfl,_,_,_,_,Nd,RM,RN,by lia,hR⟩
     |false=>
      rw[ZL (λq=>absurd (Nf.mpr q) Zl)]at hR;have Wn:=AL A.in1 ⟨hp,g,d,tk,os⟩ a t c u prog w;wp_walk using Wn;exact⟨_,rfl,by simpa using hR⟩
  case fin=>
   rintro⟨b1,b2⟩ s' ⟨ja,rfl,vs,ws,md,Mb,hz,RL,Qp,aL,hR⟩;simp only at ja;subst ja;have hv:lexLt md Mb=decide (items.size<items2.size):=by
    cases RL with
    |nil=>
     cases Qp with
     |nil=>
      simp only[abr]at aL;rw[ox];exact(decide_eq_false (abJ (Zy (afb aL)))).symm
     |cons c u hw=>
      simp only[abr,ZM]at aL;rw[l_];exact(decide_eq_true (by lia)).symm
    |cons a t hv=>
     cases Qp with
     |nil=>
      simp only[abr,ZM]at aL;rw[ma];exact(decide_eq_false (by lia)).symm
     |cons c u hw=>
      rw[acO]at hz;cases hz
   rw[hv]at hR;wp_walk;exact⟨_,rfl,by simpa[Builtin.Tuple.tupleCompareSizes]using hR⟩
  case h=>
   exact⟨rfl,rfl,items.toList,items2.toList,ns,ms,rfl,hi,hj,by lia,h⟩
end
section
variable {prog:Program}{w:World}{A:Around}{E:Value->Shared->Prop}{s:Shared}
def uP(hl:IsTup s.heap l items)(hb:IsTup s.heap b items2)(hi:IntsAre items.toList ns)(hj:IntsAre items2.toList ms)
  (hu:A.units<cLine) (h:Q (.bool (lexLt ns ms)) s):wpAny aa3 A (compareOp .Lt (.ref l) (.ref b)) Q E s:=by
 obtain⟨⟨cls,dd,data,sl⟩,ho,hc,n,hd⟩:=id hl;obtain⟨⟨RO,Hc,data2,Hd⟩,DP,He,n2,oz⟩:=id hb;simp only at hc hd He oz;subst hc hd He oz;exact richCompare_meets_room (op:= .Lt) ⟨_,ho,rfl⟩ ⟨_,DP,rfl⟩ PySem.F.slot_tuple_lt PySem.F.entry_tuple_lt (PySem.F.args_tuple_lt_2 _ _) (oy l b items items2 n n2 dd Hc sl Hd ns ms hi hj)
  ⟨ho,DP,show Value.bool (lexLt ns ms)≠Value.notImplemented/\Q (.bool (lexLt ns ms)) s from⟨(λx=>nomatch x),h⟩⟩ hu
def Ei(ht:IsTup s.heap t vs.toArray)(hb:IsTup s.heap b ws.toArray)(hv:vs≠[])
  (h1:ws=[]->Q (.ref t) s) (h2:ws≠[]->Q (.ref s.heap.objs.size) {s with heap:=s.heap.push {cls:= .type "tuple",data:= .seq (vs++ws).toArray}})
  (hsz:vs.length+ws.length<=sizeLine):wpAny aa3 A (binaryOp .Add (.ref t) (.ref b)) Q E s:=by
 obtain⟨⟨cls,dd,data,sl⟩,ho,hc,n,hd⟩:=id ht;obtain⟨⟨RO,Hc,data2,Hd⟩,DP,He,n2,oz⟩:=id hb;simp only at hc hd He oz;subst hc hd He oz;have e:vs.toArray++ws.toArray=(vs++ws).toArray :=by simp
 by_cases hw:ws=[]
 .exact concat_meets ⟨_,ho,rfl⟩ ⟨_,DP,rfl⟩ noFill_tuple_add seq_tuple_add ada acP (acJ _ _)
   (tuple_addW1 t b vs.toArray ws.toArray n n2 dd Hc sl Hd (by simpa using hv) (by simp[hw])) ⟨ho,DP,h1 hw⟩
 .refine concat_meets ⟨_,ho,rfl⟩ ⟨_,DP,rfl⟩ noFill_tuple_add seq_tuple_add ada acP (acJ _ _)
   (tuple_addW2 t b vs.toArray ws.toArray n n2 dd Hc sl Hd (by simpa using hv) (by simpa using hw) (by rw[ZA,ZA];exact hsz)) ⟨ho,DP,?_⟩
  rw[e];exact h2 hw
noncomputable def cD(n d:Nat):Option Int->Nat
 |none=>d
 |some v=>if v<0 then(v+(n:Int)).toNat else min v.toNat n
def Jg(n d:Nat)(hd:d<=n)(o:Option Int):cD n d o<=n:=by
 cases o with
 |none=>exact hd
 |some v=>
  show(if v<0 then(v+(n:Int)).toNat else min v.toNat n)<=n;by_cases hv:v<0
  .rw[ZD hv];lia
  .rw[ZL hv];exact Nat.min_le_right _ _
def qi(v:Int)(n d:Nat):(if v<0 then max (v+(n:Int)) 0 else min v (n:Int))=((cD n d (some v):Nat):Int):=by
 show(if v<0 then max (v+(n:Int)) 0 else min v (n:Int))=(((if v<0 then(v+(n:Int)).toNat else min v.toNat n):Nat):Int);by_cases hv:v<0
 .simp only[ZD hv];lia
 .simp only[ZL hv];lia
def uQ(lo hi:Option Int)(n:Nat):Builtin.Slice.sliceAdjust lo hi 1 (n:Int)=(((cD n 0 lo:Nat):Int),((cD n n hi:Nat):Int)):=by
 have h1:¬((1:Int)<0):=aa1;unfold Builtin.Slice.sliceAdjust;simp only[h1,if_false];refine Prod.ext ?_ ?_
 .cases lo with
  |none=>rfl
  |some v=>exact qi v n 0
 .cases hi with
  |none=>rfl
  |some v=>exact qi v n n
def uR(i j:Nat):Builtin.Slice.slicePlaces (i:Int) (j:Int) 1=j-i:=by
 unfold Builtin.Slice.slicePlaces;have h1:(1:Int)>0:=aa1;simp only[h1,if_true,Int.ediv_one];split<;>lia
def me(p:IsPart v o)(h:Q o s):wpAny aa3 A (Builtin.Slice.slicePartIndex v) Q E s:=by
 cases p with
 |none=>exact slicePart_none h
 |int i t=>exact slicePart_int h
def eU{sl:Addr}{vl vu:Value}{lo hi:Option Int}{n:Nat}{Q:Int×Int×Nat->Shared->Prop}(hs:s.heap.IsSliceOf sl vl vu .none)(pl:IsPart vl lo)(pu:IsPart vu hi)
  (h:Q (((cD n 0 lo:Nat):Int),1,cD n n hi-cD n 0 lo) s):wpAny aa3 A (Builtin.Slice.sliceApplied (.ref sl) (pure (n:Int))) Q E s:=by
 refine bO (id hs) λos Jh sh Ng=>?_;unfold Builtin.Slice.sliceApplied Builtin.Slice.sliceFields;refine Zh (Zh (adh Jh Ng (x:=vl) rfl (Zh (adh Jh Ng (x:=vu) rfl (Zh (adh Jh Ng (x:= .none) rfl (Zq ?_)))))));refine Zh (slicePart_none ?_);show wpAny _ _ (if((1:Int)==0)=true then _ else _) _ _ s;rw[ZL aa1];refine Zh (me pl (Zh (me pu (Zh (Zq ?_)))));show wpAny _ _ (match Builtin.Slice.sliceAdjust lo hi 1 (n:Int)with|(lo,hi)=>pure (lo,(1:Int),Builtin.Slice.slicePlaces lo hi 1)) _ _ s;rw[uQ lo hi n];show wpAny _ _ (pure (((cD n 0 lo:Nat):Int),(1:Int),Builtin.Slice.slicePlaces ((cD n 0 lo:Nat):Int) ((cD n n hi:Nat):Int) 1)) _ _ s;rw[uR];exact Zq h
def AM(xs:Array Value)(i k:Nat):((List.range k).filterMap λ(m:Nat)=>xs[((i:Int)+(m:Int)*1).toNat]?).toArray =((xs.toList.drop i).take k).toArray :=by
 have e:(λ(m:Nat)=>xs[((i:Int)+(m:Int)*1).toNat]?)=λm=>xs[i+m]?:=by
  funext m;have:((i:Int)+(m:Int)*1).toNat =i+m:=by lia
  rw[this]
 rw[e];have:=pick_run xs i k;rw[List.filterMap_map]at this;have e2:((λx=>xs[x]?) ∘ λx=>i+x)=λm=>xs[i+m]?:=rfl;rw[e2]at this;rw[this]
def jc{t sl:Addr}{items:Array Value}{vl vu:Value}{lo hi:Option Int}{Q:Value->Shared->Prop}(ht:IsTup s.heap t items)(hs:s.heap.IsSliceOf sl vl vu .none)(pl:IsPart vl lo)(pu:IsPart vu hi)
  (hw:¬(cD items.size 0 lo=0/\cD items.size items.size hi=items.size))
  (h:Q (.ref s.heap.objs.size) {s with heap:=s.heap.push {cls:= .type "tuple",data:= .seq ((items.toList.drop (cD items.size 0 lo)).take (cD items.size items.size hi-cD items.size 0 lo)).toArray}})
  (hsz:items.size<=sizeLine):wpAny aa3 A (getItem (.ref t) (.ref sl)) Q E s:=by
 have v5:sizeOk (.seq ((items.toList.drop (cD items.size 0 lo)).take (cD items.size items.size hi-cD items.size 0 lo)).toArray):=by
  show((items.toList.drop (cD items.size 0 lo)).take (cD items.size items.size hi-cD items.size 0 lo)).toArray.size <=sizeLine;rw[ZA,aaM,acb,ZQ];lia
 have hj:cD items.size items.size hi<=items.size:=Jg _ _ (Zu _) hi;refine bO (id hs) λos Jh sh Ng=>?_;have Ej:s.TypeIs (.ref sl) "slice":=⟨os,Jh,sh⟩;unfold getItem
 try with_reducible refine aan ?_
 first|refine Zh (Zq ?_)|skip
 refine Zh (wpAny_sequenceKey ht.typeIs aa1 ?_);refine Zh (aaR (name:=Str.ofString "__getitem__") ht.typeIs aaC
  (aaw aaC ht.typeIs entry_tuple_getitem ?_ (args_tuple_getitem _ _)))
 show wpAny _ _ (Builtin.Tuple.tupleItemsOf (.ref t) >>= _) _ _ s;refine Zh (tupleItemsOf_ ht ?_);refine Zh (ads Ej ?_);rw[ZD aa1];refine Zh (eU hs pl pu ?_);have uA:¬((((cD items.size 0 lo:Nat):Int)==0&&(1:Int)==1&&(cD items.size items.size hi-cD items.size 0 lo)==items.size)=true):=by
  intro q;rw[Zk,Zk]at q;have q1:((cD items.size 0 lo:Nat):Int)=0:=eq_of_beq q.1.1;have q2:cD items.size items.size hi-cD items.size 0 lo=items.size:=eq_of_beq q.2;exact hw ⟨by lia,by lia⟩
 show wpAny _ _ (if(((cD items.size 0 lo:Nat):Int)==0&&(1:Int)==1&&(cD items.size items.size hi-cD items.size 0 lo)==items.size)=true then _ else _) _ _ s;rw[ZL uA,AM]
 first
  |exact Zh (m:=Builtin.Tuple.tupleExact _) (aaj (Zq ⟨_,rfl,Zq h⟩) v5)
  |exact Zh (m:=Builtin.Tuple.tupleExact _) (aaj (Zh (Zq (Zq ⟨_,rfl,Zq h⟩))) v5)
  |exact Zh (Zh (m:=Builtin.Tuple.tupleExact _) (aaj (Zq (Zq ⟨_,rfl,Zq h⟩)) v5))
  |exact Zh (Zh (m:=Builtin.Tuple.tupleExact _) (aaj (Zq ⟨_,rfl,Zq h⟩) v5))
end
end HT
namespace L2
open PySem PySem.Spec PyProof.Rows
abbrev TO:=St->Hp->(Option Int->Hp->Prop)->Prop
def PO(X:Cx)(e:Option Expr)(t:TO):Prop:=
 ∀(U:List ab0) (s:Shared) (σ:St) (H:Hp) (Q:Option Int->Hp->Prop),Inv X U σ H s->t σ H Q->
  wpAny aa6 X.A (evalPart e X.env) (λu s'=>∃o H',Inv X U σ H' s'/\IsPart u o/\Q o H') X.xe s
def Ek:TO:=λ_ H Q=>Q none H
def Nh(t:TE):TO:=λσ H Q=>t σ H λx H1=>∃i,x= .int i/\Q (some i) H1
def intsAre_of:∀{us:List Value},aF (ns.map V.int) us->IntsAre us ns:=by
 induction ns with
 |nil=>intro us r;rw[adS]at r;cases r;exact .nil
 |cons n ns ih=>
  intro us r;rw[ZS]at r;cases r with
  |cons r1 r2=>
   obtain⟨t,e⟩:=r1;subst e;exact .cons n t (ih r2)
section
variable {X:Cx}{e:Expr}{te:TE}{lo hi:Option Expr}{tl th:TO}{pos p2:Pos}
def El:PO X none Ek:=by
 intro U s σ H Q I h;rw[evalPart_none];exact Zq ⟨none,H,I,.none,h⟩
def Em(h:PE X e te):PO X (some e) (Nh te):=by
 intro U s σ H Q I hw;rw[evalPart_some];refine bH (h U s σ H _ I hw) λu s1 zz=>bu zz λx H1 I1 r1 q1=>aa q1 λi af q=>?_
 try clear q1
 subst af;obtain⟨t,rfl⟩:=r1;exact⟨some i,H1,I1,.int i t,q⟩
def DQ(X:Cx)(r:V->Option Int->Option Int->Hp->VK->Prop):Prop:=
 ∀(U:List ab0) (s:Shared) (σ:St) (H:Hp) (x:V) (v vl vu:Value) (lo hi:Option Int) (sl:Addr) (Q:VK),Inv X U σ H s->RelV x v->s.heap.IsSliceOf sl vl vu .none ->IsPart vl lo->IsPart vu hi->r x lo hi H Q->
  ∃T id,typeLookup (.type T) "__getitem__"=pure (some (.builtin id))/\s.TypeIs v T/\wpAny aa6 X.A (getItem v (.ref sl)) (EP X U σ Q) X.xe s
def DQ.or(h:DQ X r)(h':DQ X r'):DQ X (λx lo hi H Q=>r x lo hi H Q\/r' x lo hi H Q):=by
 intro U s σ H x v vl vu lo hi sl Q I rx hs pl pu q;rcases q with q|q
 .exact h U s σ H x v vl vu lo hi sl Q I rx hs pl pu q
 .exact h' U s σ H x v vl vu lo hi sl Q I rx hs pl pu q
def Wo(r:V->Option Int->Option Int->Hp->VK->Prop)(te:TE)(tl th:TO):TE:=λσ H Q=>te σ H λx H1=>tl σ H1 λl H2=>th σ H2 λu H3=>r x l u H3 Q
def sj(hr:DQ X r)(he:PE X e te)(hl:PO X lo tl)(hu:PO X hi th):PE X (.Subscript e (.Slice lo hi none p2) pos) (Wo r te tl th):=by
 intro U s σ H Q I h;refine Subscript_ (bH (he U s σ H _ I h) λv s1 zz=>?_);refine bu zz λx H1 I1 r1 q1=>wpAny_Slice (bH (hl U s1 σ H1 _ I1 q1) λvl s2 zz=>bu zz λl H2 I2 pl q2=>bH (hu U s2 σ H2 _ I2 q2) λvu s3 zz=>?_);refine bu zz λu H3 I3 pu q3=>?_;rw[evalPart_none];refine Zq ?_;have I4:Inv X U σ H3 {s3 with heap:=s3.heap.push {cls:= .type "slice",data:= .fields #[vl,vu,.none]}}:=I3.kept (t':=s3.toks) λb ob q=>Zi _ q;refine bu (hr U {s3 with heap:=s3.heap.push {cls:= .type "slice",data:= .fields #[vl,vu,.none]}} σ H3 x v vl vu l u s3.heap.objs.size Q I4 r1 (Heap.IsSliceOf.new ..) pl pu q3) λT id hT ht hg=>?_;show wpAny aa6 X.A (subscriptTail e (.Slice lo hi none p2) v (.ref s3.heap.objs.size)) (EP X U σ Q) X.xe {s3 with heap:=s3.heap.push {cls:= .type "slice",data:= .fields #[vl,vu,.none]}};exact tail_any (ops:=[.ref s3.heap.objs.size,v]) ht hT hg (by with_unfolding_all rfl)
noncomputable def sk(xs:List V)(lo hi:Option Int):List V:=(xs.drop (HT.cD xs.length 0 lo)).take (HT.cD xs.length xs.length hi-HT.cD xs.length 0 lo)
def kO(xs:List V)(lo hi:Option Int):(sk xs lo hi).length <=xs.length:=by
 unfold sk;rw[aaM,acb];exact Zr (Nat.min_le_right _ _) (afp _ _)
def Ni(K:aH):V->Option Int->Option Int->Hp->VK->Prop:=λx lo hi H Q=>∃a xs,x= .ref a/\cT K H a xs/\
 ¬(HT.cD xs.length 0 lo=0/\HT.cD xs.length xs.length hi=xs.length)/\∀p,H p=none->Q (.ref p) (upd H p (.tup (sk xs lo hi)))
def Ji:DQ X (Ni X.K):=by
 intro U s σ H x v vl vu lo hi sl Q I rx hs pl pu h;refine gQ h λa xs af hx hw q=>?_
 try clear h
 subst af;cases rx;refine bO (I.tuple hx) λits r ht hz=>?_;have aL:its.toArray.size=xs.length:=by rw[ZA];exact r.length.symm
 refine⟨"tuple",_,aaC.lookup,ht.typeIs,?_⟩;refine HT.jc ht hs pl pu (by rw[aL];exact hw) ?_ (by rw[aL];exact hz);rw[aL];refine⟨.ref s.heap.objs.size,_,I.laid (t':=s.toks) (o:= .tup (sk xs lo hi)) (λb ob q=>Zi _ q) (Zu _) ?_,rfl,q _ (I.aX.fresh (Zu _))⟩;exact⟨Zr (kO xs lo hi) hz,_,(r.drop (HT.cD xs.length 0 lo)).take (HT.cD xs.length xs.length hi-HT.cD xs.length 0 lo),i7.new _ _⟩
def Hf(K:aH):R2:=λx y H Q=>∃a b xs ys,x= .ref a/\y= .ref b/\cT K H a xs/\cT K H b ys/\xs≠[]/\xs.length+ys.length<=sizeLine/\
 (ys=[]->Q (.ref a) H)/\(ys≠[]->∀p,H p=none->Q (.ref p) (upd H p (.tup (xs++ys))))
def aF.qk(r:aF xs us):us=[]↔xs=[]:=by
 cases r with
 |nil=>simp
 |cons _ _=>simp
def En:kN X (binaryOp .Add) (Hf X.K):=by
 intro U s σ H x y v u Q I rx ry h;refine Up h λa b xs ys af aK ha hb hx hz q1 q2=>?_
 try clear h
 subst af;subst aK;cases rx;cases ry;refine bO (I.tuple ha) λits r1 p1 _=>bO (I.tuple hb) λiO r2 p2 _=>HT.Ei p1 p2 (λz=>hx (r1.qk.mp z)) (λz=>⟨.ref a,H,I,rfl,q1 (r2.qk.mp z)⟩) (λz=>?_) (by rw[<-r1.length,<-r2.length];exact hz);refine⟨.ref s.heap.objs.size,_,I.laid (t':=s.toks) (o:= .tup (xs++ys)) (λb ob q=>Zi _ q) (Zu _) ?_,rfl,q2 (λw=>z (r2.qk.mpr w)) _ (I.aX.fresh (Zu _))⟩;exact⟨by rw[Zw];exact hz,_,r1.append r2,i7.new _ _⟩
end
noncomputable def Mc(n:Nat)(i:Int):Option Nat:=if 0<=i then(if i<n then some i.toNat else none) else if -(n:Int)<=i then some (i+n).toNat else none
noncomputable def Hg{α:Type}(xs:List α)(i:Int):Option α:=(Mc xs.length i).bind λj=>xs[j]?
def v8(h:Mc n i=some j):seqIndex? i n=some j/\j<n/\ -(n:Int)<=i/\i<n:=by
 unfold Mc at h;by_cases h0:0<=i
 .rw[ZD h0]at h;by_cases h1:i<n
  .rw[ZD h1]at h;have e:i.toNat=j:=ZU h;exact⟨by rw[seqIndex_of h0 h1,e],by lia,by lia,h1⟩
  .rw[ZL h1]at h;cases h
 .rw[ZL h0]at h;by_cases h1: -(n:Int)<=i
  .rw[ZD h1]at h;have e:(i+n).toNat =j:=ZU h;exact⟨by rw[seqIndex_neg (abK h0) h1,e],by lia,h1,(acK (abK h0) (Z6 _))⟩
  .rw[ZL h1]at h;cases h
def v_(h:Hg xs i=some v):∃j,seqIndex? i xs.length=some j/\xs[j]?=some v/\j<xs.length/\ -(xs.length:Int)<=i/\i<xs.length:=by
 unfold Hg at h;cases e:Mc xs.length i with
 |none=>rw[e]at h;cases h
 |some j=>
  rw[e]at h;exact Ak (v8 e) λh1 h2 h3 h4=>⟨j,h1,h,h2,h3,h4⟩
def ql(b:Expr):Prop:=∀o i,subscripted b false o i=operate [o,i] (getItem o i)
def Jj(X:Cx)(r:R2):Prop:=
 ∀(value slice:Expr) (U:List ab0) (s:Shared) (σ:St) (H:Hp) (x y:V) (v u:Value) (Q:VK),Inv X U σ H s->RelV x v->RelV y u->r x y H Q->
  subscripted slice false v u=operate [v,u] (getItem v u)->wpAny aa6 X.A (subscriptTail value slice v u) (EP X U σ Q) X.xe s
def Nj(X:Cx)(id:String)(r:V->List V->Hp->VK->Prop):Prop:=
 ∀(U:List ab0) (s:Shared) (σ:St) (H:Hp) (x:V) (xs:List V) (v:Value) (us:List Value) (Q:VK),Inv X U σ H s->RelV x v->aF xs us->r x xs H Q->
  wpAny aa6 X.A (call (.builtin id) (v::us)) (EP X U σ Q) X.xe s
section
variable {X:Cx}{a b:Expr}{ta tb:TE}{pos:Pos}
def Jj.or(h:Jj X r)(h':Jj X r'):Jj X (λx y H Q=>r x y H Q\/r' x y H Q):=by
 intro value slice U s σ H x y v u Q I rx ry q hs;rcases q with q|q
 .exact h value slice U s σ H x y v u Q I rx ry q hs
 .exact h' value slice U s σ H x y v u Q I rx ry q hs
def Hh(hr:Jj X r)(ha:PE X a ta)(hb:PE X b tb)(hs:ql b):PE X (.Subscript a b pos) (G_ r ta tb):=by
 intro U s σ H Q I h;exact Subscript_ (IW ha hb I h λv u s2 x y H2 I2 rx ry q=>hr a b U s2 σ H2 x y v u Q I2 rx ry q (hs _ _))
def Eo(K:aH):R2:=λx y H Q=>∃p xs i v,x= .ref p/\y= .int i/\cZ K H p xs/\Hg xs i=some v/\Q v H
def RP(K:aH):R2:=λx y H Q=>∃p xs i v,x= .ref p/\y= .int i/\cT K H p xs/\Hg xs i=some v/\Q v H
def wa:Jj X (Eo X.K):=by
 intro value slice U s σ H x y v u Q I rx ry h hs;refine uG h λp xs i z af aK hq he q=>?_
 try clear h
 subst af;subst aK;cases rx;obtain⟨t,rfl⟩:=ry;refine bO (I.list hq) λits r pl hz=>L8 (v_ he) λj h1 h2 h3 h4 h5=>aa (r.get h2) λw ew AN=>?_;have hl:=r.length;have hn:=l6;have fin:EP X U σ Q w s:=⟨z,H,I,AN,q⟩;by_cases h0:0<=i
 .have hj:i.toNat=j:=by
   rw[seqIndex_of h0 h5]at h1;exact ZU h1
  exact item_listR pl.isList h0 (by lia) (by rw[hj];simpa using ew) fin hs
 .have hj:(i+(its.toArray.size:Int)).toNat =j:=by
   rw[seqIndex_neg (abK h0) h4]at h1;rw[ZA,<-hl];exact ZU h1
  exact subscriptTail_builtinR (x:=w) pl.isList.typeIs slot_list_getitem.lookup
   (wpAny_getItem_list_neg (Q:=λr s'=>r=w/\EP X U σ Q r s') pl.isList (abK h0) (by rw[ZA]<;>lia) (by lia) (by rw[hj];simpa using ew) ⟨rfl,fin⟩) hs
def Jk:Jj X (RP X.K):=by
 intro value slice U s σ H x y v u Q I rx ry h hs;refine uG h λp xs i z af aK hq he q=>?_
 try clear h
 subst af;subst aK;cases rx;obtain⟨t,rfl⟩:=ry;refine bO (I.tuple hq) λits r pl hz=>L8 (v_ he) λj h1 h2 h3 h4 h5=>aa (r.get h2) λw ew AN=>?_;have hl:=r.length;have hn:=l6;have fin:EP X U σ Q w s:=⟨z,H,I,AN,q⟩;exact subscriptTail_builtinR (x:=w) pl.typeIs slot_tuple_getitem.lookup
  (getItem_tuple (j:=j) (Q:=λr s'=>r=w/\EP X U σ Q r s') pl (by lia) (by lia) (by rw[ZA,<-hl];exact h1) (by simpa using ew) ⟨rfl,fin⟩) hs
def uS(its:List Value)(n j:Nat)(u:Value):Obj.mapSeq (·.setIfInBounds j u) {cls:= .type "list",data:= .seq its.toArray n}={cls:= .type "list",data:= .seq (its.set j u).toArray n}:=by
 simp[Obj.mapSeq]
theorem Inv.lst{U:List ab0}{σ:St}{H:Hp}{s:Shared}{p:Addr}{xs:List V}(I:aa5)(h:H p=some (.lst xs)):
  ∃(its:List Value) (n:Nat),aF xs its/\s.heap.get? p=some {cls:= .type "list",data:= .seq its.toArray n}/\xs.length<=sizeLine:=by
 obtain⟨z,its,n,r,e⟩:=I.aX p _ h;exact⟨its,n,r,e,z⟩
def Inv.Jl{U:List ab0}{σ:St}{H:Hp}{s:Shared}{p:Addr}{xs ys:List V}{its its':List Value}{n n':Nat}{f:Obj->Obj}(I:aa5)(h:H p=some (.lst xs))
  (ho:s.heap.get? p=some {cls:= .type "list",data:= .seq its.toArray n}) (hf:f {cls:= .type "list",data:= .seq its.toArray n}={cls:= .type "list",data:= .seq its'.toArray n'}) (r:aF ys its') (hz:ys.length<=sizeLine) (t:Nat):
  Inv X U σ (upd H p (.lst ys)) {s with heap:=s.heap.update p f,toks:=t}:=by
 have e:(s.heap.update p f).get? p=some {cls:= .type "list",data:= .seq its'.toArray n'}:=by
  rw[aaJ f ho (by rw[hf]<;>rfl),hf]
 exact I.write (x:=p) (e:=p) (by rw[h];trivial) (.inl rfl) (λb u hb q=>(Z0 _ _ (aay hb)).trans q) ⟨_,e⟩<|⟨hz,its',n',r,e⟩
def Nk:V->V->V->Hp->(Hp->Prop)->Prop:=λo i v H Q=>∃p xs k j,o= .ref p/\i= .int k/\H p=some (.lst xs)/\Mc xs.length k=some j/\Q (upd H p (.lst (xs.set j v)))
def AO:M1 X Nk:=by
 intro U s σ H o i v ov iv u Q I ro ri rv h;refine uG h λp xs k j af aK hp hj q=>?_
 try clear h
 subst af;subst aK;cases ro;obtain⟨t,rfl⟩:=ri;refine bu (I.lst hp) λits n r ho hz=>Ak (v8 hj) λh1 h2 h3 h4=>?_;have hl:=r.length;have hn:=l6;have I':Inv X U σ (upd H p (.lst (xs.set j v))) {s with heap:=s.heap.update p (Obj.mapSeq (·.setIfInBounds j u))}:=
  I.Jl hp ho (uS its n j u) (r.set rv j) (by rw[aag];exact hz) s.toks
 by_cases h0:0<=k
 .have hk:k.toNat=j:=by
   rw[seqIndex_of h0 h4]at h1;exact ZU h1
  exact PySem.W.ki_setAt ho h0 (by lia) (by rw[ZA,<-hl];exact h4) (by rw[hk];exact⟨_,I',q⟩)
 .have hk:(k+(its.toArray.size:Int)).toNat =j:=by
   rw[seqIndex_neg (abK h0) h3]at h1;rw[ZA,<-hl];exact ZU h1
  exact PySem.W.ki_setBack ho (abK h0) (by rw[ZA,<-hl];exact h3) (by lia) (by rw[hk];exact⟨_,I',q⟩)
def qm(lo hi:Option Int)(n:Nat):(sliceBounds lo hi none n).1 =((HT.cD n 0 lo:Nat):Int)/\(sliceBounds lo hi none n).2.1 =((HT.cD n n hi:Nat):Int)/\(sliceBounds lo hi none n).2.2 =1:=by
 refine⟨?_,?_,rfl⟩
 .cases lo with
  |none=>simp[sliceBounds,HT.cD]
  |some i=>
   simp only[sliceBounds,HT.cD,Option.getD_none,show(1:Int)>0 by decide,if_true];by_cases h:i<0
   .simp only[h,if_true]<;>lia
   .simp only[h,if_false]<;>lia
 .cases hi with
  |none=>simp[sliceBounds,HT.cD]
  |some i=>
   simp only[sliceBounds,HT.cD,Option.getD_none,show(1:Int)>0 by decide,if_true];by_cases h:i<0
   .simp only[h,if_true]<;>lia
   .simp only[h,if_false]<;>lia
def oA(its:List Value)(lo hi:Option Int):slicePick its.toArray lo hi none=((its.drop (HT.cD its.length 0 lo)).take (HT.cD its.length its.length hi-HT.cD its.length 0 lo)).toArray :=by
 refine cP (qm lo hi its.toArray.size) λh1 h2 h3=>?_;unfold slicePick;rw[h1,h2,h3];simp only[sliceRange_one,pick_run,ZA]<;>rfl
def RQ(K:aH):V->Option Int->Option Int->Hp->VK->Prop:=λx lo hi H Q=>∃a xs,x= .ref a/\cZ K H a xs/\∀p,H p=none->Q (.ref p) (upd H p (.lst (sk xs lo hi)))
def wc:DQ X (RQ X.K):=by
 intro U s σ H x v vl vu lo hi sl Q I rx hs pl pu h;refine bu h λa xs af hx q=>?_
 try clear h
 subst af;cases rx;refine bO (I.list hx) λits r ht hz=>?_;have aL:=r.length;refine⟨"list",_,slot_list_getitem.lookup,ht.isList.typeIs,?_⟩;refine wpAny_getItem_list_slice ht.isList hs pl pu .none aa9 ?_ (by rw[ZA]<;>exact Zr (Zy (aad aL)) hz);rw[oA,<-aL];refine⟨.ref s.heap.objs.size,_,I.laid (t':=s.toks) (o:= .lst (sk xs lo hi)) (λb ob q=>Zi _ q) (Zu _) ?_,rfl,q _ (I.aX.fresh (Zu _))⟩;exact⟨Zr (kO xs lo hi) hz,_,0,(r.drop (HT.cD xs.length 0 lo)).take (HT.cD xs.length xs.length hi-HT.cD xs.length 0 lo),ZF _ rfl⟩
def qp:cC X (.builtin "len") (λxs H Q=>∃p ys,xs=[.ref p]/\(cZ X.K H p ys\/cT X.K H p ys)/\Q (.int ys.length) H):=by
 intro U s σ H xs us Q I r h;refine bu h λp ys af hq q=>?_
 try clear h
 subst af;refine aa (vals1 r) λu aK rx=>?_;subst aK;cases rx;have hn:=l6;rcases hq with hq|hq
 .refine bO (I.list hq) λits r' pl hz=>?_;have aL:=r'.length;exact Calls.call_len_list pl.isList (by simp only[ZA]<;>lia) ⟨.int ys.length,H,I.tok _,⟨s.toks+1,by rw[ZA,aL]⟩,q⟩
 .refine bO (I.tuple hq) λits r' pl hz=>?_;have aL:=r'.length;exact len_tuple pl (by simp only[ZA]<;>lia) ⟨.int ys.length,H,I.tok _,⟨s.toks+1,by rw[ZA,aL]⟩,q⟩
def cC.or(h:cC X f r)(h':cC X f r'):cC X f (λxs H Q=>r xs H Q\/r' xs H Q):=by
 intro U s σ H xs us Q I rs q;rcases q with q|q
 .exact h U s σ H xs us Q I rs q
 .exact h' U s σ H xs us Q I rs q
def jd:cC X (.type "list") (λxs H Q=>∃p ys,xs=[.ref p]/\(cZ X.K H p ys\/cT X.K H p ys)/\∀l,H l=none->Q (.ref l) (upd H l (.lst ys))):=by
 intro U s σ H xs us Q I r h;refine bu h λp ys af hq q=>?_
 try clear h
 subst af;refine aa (vals1 r) λu aK rx=>?_;subst aK;cases rx
 have fin:∀(its:List Value),aF ys its->ys.length<=sizeLine->∀(h':Heap) (c':Nat),(∀b o',s.heap.get? b=some o'->h'.get? b=some o')->
   h'.get? s.heap.objs.size=some {cls:= .type "list",dict:=none,data:= .seq its.toArray c',slots:=#[]}->EP X U σ Q (.ref s.heap.objs.size) {s with heap:=h'}:=λits r' hz h' c' kp e=>
  ⟨.ref s.heap.objs.size,_,I.laid (t':=s.toks) kp (Zu _) (show aT X.prog X.w _ h' _ (.lst ys) from⟨hz,its,c',r',e⟩),rfl,q _ (I.aX.fresh (Zu _))⟩
 rcases hq with hq|hq
 .refine bO (I.list hq) λits r' pl hz=>?_;have aL:=r'.length;obtain⟨o,ho,hc,n,hd⟩:=pl.isList;exact call_list_seq p (.inl rfl) ho hc hd (λh' c' kp e=>fin its r' hz h' c' kp e) (by simp only[ZA]<;>exact Zr (Zy (aad aL)) hz)
 .refine bO (I.tuple hq) λits r' pl hz=>?_;have aL:=r'.length;obtain⟨o,ho,hc,n,hd⟩:=pl;exact call_list_seq p (.inr rfl) ho hc hd (λh' c' kp e=>fin its r' hz h' c' kp e) (by simp only[ZA]<;>exact Zr (Zy (aad aL)) hz)
def oB:cC X (.type "tuple") (λxs H Q=>∃p ys,xs=[.ref p]/\((cZ X.K H p ys/\∀l,H l=none->Q (.ref l) (upd H l (.tup ys)))\/(cT X.K H p ys/\Q (.ref p) H))):=by
 intro U s σ H xs us Q I r h;obtain⟨p,ys,rfl,h⟩:=h;obtain⟨u,rfl,rx⟩:=vals1 r;cases rx;rcases h with⟨hq,q⟩|⟨hq,q⟩
 .obtain⟨its,r',pl,hz⟩:=I.list hq;have aL:=r'.length;refine call_tuple_list pl.isList (λh' kp=>?_) (by simp only[ZA]<;>exact Zr (Zy (aad aL)) hz);have I1:Inv X U σ H {s with heap:=h'}:=I.kept (t':=s.toks) kp;have I2:Inv X U σ (upd H h'.objs.size (.tup ys)) {s with heap:=h'.push {cls:= .type "tuple",data:= .seq its.toArray}}:=
   I1.laid (t':=s.toks) (λb o e=>Zi _ e) (Zu _) (show aT X.prog X.w _ _ _ (.tup ys) from⟨hz,its,r',i7.new _ _⟩)
  exact⟨.ref h'.objs.size,_,I2,rfl,q _ (I1.aX.fresh (Zu _))⟩
 .obtain⟨its,r',pl,hz⟩:=I.tuple hq;exact call_tuple_same pl ⟨.ref p,H,I,rfl,q⟩
def RS(K:aH)(T:String)(x:V)(H:Hp):Prop:=match x with
 | .str _=>T="str"
 | .int _=>T="int"
 | .ref p=>(T="list"/\∃xs,cZ K H p xs)\/(T="tuple"/\∃o,K.lookup p=some o/\o.cls= .type "tuple"/\o.dict=none)\/
   (T="dict"/\((∃ax,H p=some (.dK ax))\/∃ax,H p=some (.dT ax)))\/(T="set"/\∃S n,H p=some (.set S n))
 |_=>False
def AQ(I:aa5)(r:RelV x v)(ty:RS X.K T x H):
  s.TypeIs v T/\∀a,v= .ref a->∃ob,s.heap.get? a=some ob/\ob.dict=none:=by
 cases x with
 |str z=>
  obtain⟨t,rfl⟩:=r;cases (show T="str" from ty);exact⟨typeIs_str s z t,λ_ e=>nomatch e⟩
 |int i=>
  obtain⟨t,rfl⟩:=r;cases (show T="int" from ty);exact⟨typeIs_int s i t,λ_ e=>nomatch e⟩
 |ref p=>
  cases r;rcases ty with⟨rfl,xs,hq⟩|⟨rfl,o,hk,hc,hd⟩|⟨rfl,hk⟩|⟨rfl,S,n,hk⟩
  .refine bO (I.list hq) λits _ pl _=>⟨pl.isList.typeIs,λa e=>?_⟩;cases e;exact gQ pl λo n e c hd _=>⟨o,e,hd⟩
  .refine⟨⟨o,I.G6 p o hk,hc⟩,λa e=>?_⟩;cases e;exact⟨o,I.G6 _ o hk,hd⟩
  .have z:∃o,s.heap.get? p=some o/\o.ExactDict:=by
    rcases hk with⟨ax,hk⟩|⟨ax,hk⟩
    .obtain⟨_,_,_,_,o,_,_,e,ex,_⟩:=I.aX p _ hk;exact⟨o,e,ex⟩
    .obtain⟨_,_,_,_,o,_,_,e,ex,_⟩:=I.aX p _ hk;exact⟨o,e,ex⟩
   refine aa z λo e ex=>⟨⟨o,e,ex.1⟩,λa e2=>?_⟩;cases e2;exact⟨o,e,ex.2.1⟩
  .refine Im (I.aX p _ hk) λo _ _ _ e ex _=>⟨⟨o,e,ex.1⟩,λa e2=>?_⟩;cases e2;exact⟨o,e,ex.2.1⟩
 |_=>exact False.elim ty
def RT(K:aH)(T:String)(r:V->List V->Hp->VK->Prop)(to:TE):TE:=λσ H Q=>to σ H λx H1=>RS K T x H1/\r x [] H1 Q
def Qq(K:aH)(T:String)(r:V->List V->Hp->VK->Prop)(to:TE)(t:TA):TE:=λσ H Q=>to σ H λx H1=>RS K T x H1/\t σ H1 λxs H2=>r x xs H2 Q
variable {o e:Expr}{es:List Expr}{to:TE}{t:TA}{name:Str}{qh gn:Pos}{T id:String}{r:V->List V->Hp->VK->Prop}
def Jm(pa:PlainAttrs T)(slot:Slot T name id)(Nl:typeOf (.builtin id)=pure (.type "method_descriptor"))(hm:Nj X id r)(ho:PE X o to)
  (je:attributeBase o name X.env (eval o X.env)=eval o X.env:=by rfl) (jf:(qh.endLine==gn.line)=true:=by rfl):PE X (.Call (.Attribute o name qh) [] [] gn) (RT X.K T r to):=by
 intro U s σ H Q I h;refine wpAny_Call_method0_late je jf (bH (ho U s σ H _ I h) λv s1 zz=>?_);refine gQ zz λx H1 I1 r1 ty q1=>?_;obtain⟨h1,h2⟩:=AQ I1 r1 ty;exact⟨T,id,pa,slot,Nl,h1,h2,acf rfl (afd (hm U s1 σ H1 x [] v [] Q I1 r1 .nil q1))⟩
def wd(pa:PlainAttrs T)(slot:Slot T name id)(Nl:typeOf (.builtin id)=pure (.type "method_descriptor"))(hm:Nj X id r)(ho:PE X o to)(ha:PA X (e::es) t)
  (je:attributeBase o name X.env (eval o X.env)=eval o X.env:=by rfl)
  (Jn:((backTo gn (starEach (e::es) X.env)).all (λx=>!x.1)&&(backToKw gn (keywordEach [] X.env)).all (λx=>x.1.isSome)
   && decide ((e::es).length+([]:List Keyword).length+(if([]:List Keyword).isEmpty then 0 else 1)<30))=true:=by rfl)
  (jf:(qh.endLine==gn.line)=true:=by rfl) (hs:starEach (e::es) X.env=(false,eval e X.env)::starEach es X.env:=by rfl) (uT:(backTo gn (starEach es X.env)).any (·.1)=false:=by rfl):
  PE X (.Call (.Attribute o name qh) (e::es) [] gn) (Qq X.K T r to t):=by
 intro U s σ H Q I h;refine wpAny_Call_method_late je Jn jf rfl (bH (ho U s σ H _ I h) λv s1 zz=>?_);refine gQ zz λx H1 I1 r1 ty q1=>?_;obtain⟨h1,h2⟩:=AQ I1 r1 ty;refine⟨T,id,pa,slot,Nl,h1,h2,?_⟩;have hA:=ha gn U s1 σ H1 _ I1 q1;rw[hs]at hA⊢;refine acf (by show(false||(backTo gn (starEach es X.env)).any (·.1))=false;rw[uT]<;>rfl) (Calls.evalArgs_plain ?_);exact bH hA λus s2 zz=>bu zz λvs H2 I2 r2 q2=>hm U s2 σ H2 x vs v us Q I2 r1 r2 q2
end
def RU(X:Cx)(id:String)(r:V->List V->Hp->VK->Prop):Prop:=
 ∀(U:List ab0) (s:Shared) (σ:St) (H:Hp) (x:V) (xs:List V) (v:Value) (us:List Value) (Q:VK),Inv X U σ H s->RelV x v->aF xs us->r x xs H Q->
  wpAny aa6 X.A (call (.builtin id) (v::us)) (EP X U σ Q) X.xe s
def aF.one(h:aF [x] us):∃u,us=[u]/\RelV x u:=by
 cases h with
 |cons r t=>cases t;exact⟨_,rfl,r⟩
def aF.zero:∀{us:List Value},aF [] us->us=[]
 |_,.nil =>rfl
theorem aF.dropLast(h:aF xs us):aF xs.dropLast us.dropLast:=by
 induction h with
 |nil=>exact .nil
 |cons r t ih=>
  cases t with
  |nil=>exact .nil
  |cons q t'=>exact .cons r ih
def uU(l:List α):l.eraseIdx (l.length-1)=l.dropLast:=by
 induction l with
 |nil=>rfl
 |cons a r ih=>
  cases r with
  |nil=>rfl
  |cons b r=>
   have e:(a::b::r).length-1=((b::r).length-1)+1:=by
    have h1:(a::b::r).length =r.length+2:=rfl;have h2:(b::r).length =r.length+1:=rfl;exact h2
   rw[e,List.eraseIdx_cons_succ,ih]
   all_goals rfl
section
variable {X:Cx}{U:List ab0}{σ:St}{H:Hp}{s:Shared}{l b:Addr}{xs ys zs:List V}
def Inv.Jo{its its':List Value}{n:Nat}{f:Array Value->Array Value}{t':Nat}(I:aa5)(hH:H l=some (.lst xs))
  (e:s.heap.get? l=some {cls:= .type "list",data:= .seq its.toArray n}) (hf:f its.toArray=its'.toArray) (hv:aF ys its') (hz:ys.length<=sizeLine):
  Inv X U σ (upd H l (.lst ys)) {s with heap:=s.heap.update l (Obj.mapSeq f),toks:=t'}:=by
 have q:=PySem.IsL.update e f;rw[hf]at q;exact I.write (x:=l) (e:=l) (by rw[hH];exact trivial) (.inl rfl) (λb' u hb hu=>(Z0 s.heap (Obj.mapSeq f) (aay hb)).trans hu) ⟨_,q⟩<|⟨hz,its',_,hv,q⟩
def Inv.Nm(I:aa5)(hv:aF ys its)(hz:ys.length<=sizeLine):
  Inv X U σ (upd H s.heap.objs.size (.lst ys)) {s with heap:=s.heap.push {cls:= .type "list",data:= .seq its.toArray},toks:=t'}:=
 I.laid (λ_ _ q=>Zi _ q) (Zu _) ⟨hz,its,0,hv,ZF _ rfl⟩
theorem Inv.fresh(I:aa5):H s.heap.objs.size=none:=I.aX.fresh (Zu _)
def Inv.Jp(I:aa5)(hH:H l=some (.lst xs)):xs.length<=sizeLine/\∃(its:List Value) (n:Nat),aF xs its/\xs.length=its.length/\s.heap.get? l=some {cls:= .type "list",data:= .seq its.toArray n}:=by
 obtain⟨z,its,n,r,e⟩:=I.aX l _ hH;exact⟨z,its,n,r,r.length,e⟩
def AR(h:n<=sizeLine):Builtin.List.listTooLong n=false:=by
 unfold Builtin.List.listTooLong;exact decide_eq_false (abJ h)
end
section
variable {X:Cx}
def Ep:V->List V->Hp->VK->Prop:=λx vs H Q=>∃l xs y,x= .ref l/\vs=[y]/\H l=some (.lst xs)/\xs.length<sizeLine/\Q .cx (upd H l (.lst (xs++[y])))
def o_:RU X "list.append" Ep:=by
 intro U s σ H x vs v us Q I rx rv h;refine uz h λl xs y af aK hH hz q=>?_
 try clear h
 subst af;subst aK;cases rx;refine aa rv.one λu c5 ru=>?_;subst c5;obtain⟨z,its,n,r,hl,e⟩:=I.Jp hH;refine call_meets F.slot_list_append ⟨_,e,rfl⟩ F.entry_list_append (F.args_list_append_2 _ _) (PySem.list_append l its.toArray n u (by rw[ZA];exact Zr (Zy (aad hl)) (ZP hz))) ⟨e,?_⟩;refine⟨.cx,_,I.Jo (its':=its++[u]) hH e aa9 (r.append (.cons ru .nil)) ?_,rfl,q⟩;rw[Zw,aab];exact hz
def RV:V->List V->Hp->VK->Prop:=λx vs H Q=>∃l xs y,x= .ref l/\vs=[]/\H l=some (.lst xs)/\xs[xs.length-1]?=some y/\Q y (upd H l (.lst xs.dropLast))
def Jq:RU X "list.pop" RV:=by
 intro U s σ H x vs v us Q I rx rv h;refine uz h λl xs y af aK hH hy q=>?_
 try clear h
 subst af;subst aK;cases rx;have Wq:=rv.zero;subst Wq;obtain⟨z,its,n,r,hl,e⟩:=I.Jp hH;refine aa (r.get hy) λu hu ru=>?_;have DR:its.toArray[its.toArray.size-1]?=some u:=by
  show its.toArray[its.length-1]?=some u;rw[<-ZY,<-hl];exact hu
 refine call_meets F.slot_list_pop ⟨_,e,rfl⟩ F.entry_list_pop (F.args_list_pop_1 _) (MeetsSeq.list_pop_last l its.toArray n u DR (by rw[ZA];exact Zr (Zy (aad hl)) z)) ⟨e,?_⟩;refine⟨y,_,I.Jo (its':=its.dropLast) hH e ?_ r.dropLast ?_,ru,q⟩
 .show its.toArray.eraseIdxIfInBounds (its.toArray.size-1)=its.dropLast.toArray;rw[ZA,List.eraseIdxIfInBounds_toArray,uU]
 .rw[List.length_dropLast];exact Zr (afp _ _) z
end
section
variable {prog:Program}{w:World}{A:Around}{E:Value->Shared->Prop}{s:Shared}{X:Cx}
end
end L2
namespace UE
open PySem PySem.W PySem.Calls PyProof.Rows
def k_:∀(ns:List Int) (vs:List Value),WellAll P h vs (ns.map WData.int)->IntsAre vs ns:=by
 intro ns;induction ns with
 |nil=>
  intro vs w;rw[adS]at w;cases w;exact .nil
 |cons n ns ih=>
  intro vs w;rw[ZS]at w;cases w with
  |cons a b=>
   cases a;exact .cons _ _ (ih _ b)
def yG{l:OpenLaw}{n:Nat}(hn:l.most=some n){P:Params}{h:Heap}{args:List WData}{vals:List Value}
  (Er:l.row.toRowW.claim.pre args=true) (RW:WellAll P h vals args):
  ∃a vs ns,vals=[Value.ref a]/\args=[WData.list (ns.map WData.int)]/\h.get? a=some {cls:= .type "list",data:= .seq vs.toArray}/\IntsAre vs ns/\ns.length<=n:=by
 have iP:WShape.hasAll [] args [.list .int]=true:=(pre_splitW Er).1;have hc:l.pre.holds [] {args:=args}=true:=(pre_splitW Er).2;refine bu (hasAllW_cons iP) λd r af h1 h2=>?_;subst af;obtain rfl:=hasAllW_nil h2;refine aa (hasW_list h1) λxs aK h3=>?_;subst aK;obtain⟨ns,rfl⟩:=items_int h3;have aL:ns.length<=n:=by
  unfold OpenLaw.pre at hc;have h4:(WTm.not (.lt (.lit (.int (n:Int))) (.len (.arg 0)))).holds [] {args:=[.list (ns.map .int)]}=true:=by
   have h4:=(holds_andW hc).1;rw[hn]at h4;exact h4
  have h5:=condW_of h4 (w_not (w_lt w_lit (w_len_list (w_arg rfl))));rw[Zo]at h5;refine ZZ λq=>?_;have q':(n:Int)<((ns.length:Nat):Int):=by lia
  first
   |(rw[decide_eq_true q']at h5;exact absurd h5 aa1)
   |(simp at h5;lia)
 cases RW with
 |cons w1 w2=>
  cases w2;cases w1 with
  |list ho j4=>exact⟨_,_,ns,rfl,rfl,ho,k_ ns _ j4,aL⟩
def yH(l:OpenLaw)(args:List WData):l.row.toRowW.claim.post args (.bool true) args=true:=
 postW_of (r:=l.row.toRowW) (X:=(true==true))
  (show WShape.has [] (.bool true) .bool =true by first|rfl|decide|simp[WShape.has,WShape.arms,WShape.armsAll])
  (show(WTm.eq .res (.lit (.bool true))).value [] {args:=args,res:=some (.bool true),after:=args}=some (.bool (true==true)) from w_eq_bool (w_res rfl) w_lit) rfl
def sq{l:OpenLaw}{n:Nat}{q:Program}{loose:List Str}{XP:(Str->Option Value)->Heap->Prop}{YP:World->Heap->Prop}{d:DefRec}
  (hn:l.most=some n) (Nn:d.params.defaults=[])
  (call:∀(w:World) (s₀ ba:Shared) (mg mb:Str->Option Value) (fa:Addr) (o:Obj) (pm cd il:Value) (a:Addr) (vs:List Value) (ns:List Int),
   Ground q loose [] XP w s₀ mg mb ba.heap->YP w ba.heap->
   ba.heap.get? fa=some o->o.data= .func (docDef d.name d.params d.body d.scope pm cd il)->ba.heap.CodeRec cd d.name->mg d.name=some (.ref fa)->
   ba.heap.get? a=some {cls:= .type "list",data:= .seq vs.toArray}->IntsAre vs ns->ns.length<=n->ba.gens=#[]->
   codeAny (model l.prog w) callerA (.call (.ref fa) ⟨[.ref a],[]⟩) (λr s'=>r= .ok (.ret (.bool true))/\OldK ba.heap s'.heap/\s'.os=ba.os/\AllBare s'.gens) ba):
  WalkO q loose XP YP l.row.toRowW d [] (λf vs=>PySem.call f vs):=by
 intro w s₀ ba mg mb G Y fa o pm cd il dV kV ho hd Ax hD Np hg args vals as Er Wr YY RW Jr;obtain rfl:dV= .none :=Dflts.none hD Nn;obtain rfl:kV= .none :=Dflts.noKw hD;refine uz (yG hn Er RW) λa vs ns af aK Js hints aL=>?_;subst af;subst aK;refine enter_call (adq (call w s₀ ba mg mb fa o pm cd il a vs ns G Y ho (fd_plain hd) Ax Np Js hints aL hg) λr s' hq=>?_);refine Ak hq λc5 h2 h3 h4=>?_
 try clear hq
 subst c5;exact⟨.inl ⟨.bool true,.bool true,[],rfl,λ_=>rfl,.bool true,yH l _,λ_=>⟨List.Pairwise.nil,λ_ hm=>(nomatch hm)⟩⟩,h2,h3,h4⟩
section
variable {prog:Program}{w:World}{A:Around}{E:Value->Shared->Prop}{s:Shared}{K:Frag}
end
end UE
namespace L2
open PySem PySem.Spec PyProof.Rows
def yI:∀{vs:List Value}{ns:List Int},IntsAre vs ns->aF (ns.map V.int) vs:=λ{vs ns} h=>by
 induction h with
 |nil=>exact .nil
 |cons n t h ih=>exact .cons ⟨t,rfl⟩ ih
def Jt(H:Hp):Prop:=∀b,H b=none\/∃o xs,H b=some (.dC o (.lst xs))
def AS{P:Program}{w:World}{K:aH}{mg mb:Str->Option Value}{CX:AH}{k:Nat}{fa a:Addr}{fd:FuncData}{x:Str}{sp:Sp}{ba:Shared}{vs:List Value}{ns:List Int}
  (KX:K.In ba.heap) (UG:ba.heap.Ns mainGlobals mg) (hb:ba.heap.Ns builtinsNs mb) (Ws:∀x:Str,x≠"__name__"->mb x=bootBuiltins x) (RX:ba.heap.NoLimit) (hg:ba.gens=#[])
  (ha:ba.heap.get? a=some {cls:= .type "list",data:= .seq vs.toArray}) (hi:IntsAre vs ns) (hl:ns.length<=sizeLine) (hr:eK k callerA)
  (F:∀base:Heap,K.In base->base.Ns mainGlobals mg->i_ P w K mg base CX k fa fd [x] sp) (Nq:∀(s:Shared) (u:Value),BindsTo s fd ⟨[u],[]⟩ [(x,u)])
  (Hb:∀H:Hp,Jt H->cZ K H a (ns.map V.int)->sp [.ref a] H (λv _=>v= .bl true) λ_ _ _=>False)
  (RY:∀H e s',CX [] H ba (λ_ _ _=>False) e s'->False):
  codeAny (model P w) callerA (.call (.ref fa) ⟨[.ref a],[]⟩) (λr s'=>r= .ok (.ret (.bool true))/\OldK ba.heap s'.heap/\s'.os=ba.os/\AllBare s'.gens) ba:=by
 have rv:=yI hi;have RZ:=hi.length
 have aP:∀H:Hp,Jt H->cZ K H a (ns.map V.int)->iM P w H ba.heap->(∀b,H b≠none->b=a)->(H a≠none->K.lookup a=none)->
   codeAny (model P w) callerA (.call (.ref fa) ⟨[.ref a],[]⟩) (λr s'=>r= .ok (.ret (.bool true))/\OldK ba.heap s'.heap/\s'.os=ba.os/\AllBare s'.gens) ba:=by
  intro H hO hS aX hA hK;have jg:∀{b:Addr}{o:Obj},ba.heap.get? b=some o->H b=none->(qc ba.heap H).get? b=some o:=λe n=>Aq e n;have M':∀{b:Addr}{o:Obj}{es:Array DictEntry}{ep:Nat},ba.heap.get? b=some o->o.data= .dict es ep->H b=none:=λ{b o es ep} e d=>by
   cases q:H b with
   |none=>rfl
   |some u=>
    have e':b=a:=hA b (by rw[q];simp);subst e';rw[ha]at e;cases e;have d':Data.seq vs.toArray _=Data.dict es ep:=d;cases d'
  have Qr:∀{b:Addr}{m:Str->Option Value},ba.heap.Ns b m->(qc ba.heap H).Ns b m:=λ{b m} zz=>cn zz λo es ep e d r=>⟨o,es,ep,jg e (M' e d),d,r⟩;have UH:K.In (qc ba.heap H):=λb o e=>jg (KX b o e) (by
   cases q:H b with
   |none=>rfl
   |some u=>
    have e':b=a:=hA b (by rw[q];simp);subst e';rw[hK (by rw[q];simp)]at e;cases e)
  have hM:Mod K mg (qc ba.heap H):=⟨UH,Qr UG,⟨mb,Qr hb,Ws⟩,let ⟨mc,h1,h2⟩:=RX;⟨mc,Qr h1,h2⟩⟩;have e0:Eg P w K mg (qc ba.heap H) callerA [] ba H:=⟨rfl,hM,λb o e=>D5 e,Zy (yv _ _),trivial,λb hb=>absurd (show b∈([]:List Addr) from hb) aa9,aX,.of_eq hg⟩;refine adq ((F _ UH (Qr UG)).run callerA [] ba H ⟨[.ref a],[]⟩ [.ref a] [.ref a] _ _ hr e0 (Nq ba (.ref a)) (.cons rfl .nil) (Hb H hO hS)) λr s' h=>?_;cases r with
  |error e=>exact(RY H e s' h).elim
  |ok fl=>
   cases fl with
   |next=>exact False.elim h
   |brk=>exact False.elim h
   |cont=>exact False.elim h
   |ret u=>
    refine Q_ h λv H' os bare un R1 r' q=>?_;have q':v= .bl true:=q;subst q';obtain rfl:u=Value.bool true:=r';refine⟨rfl,OldK.of_keep λb o e=>?_,os,bare⟩;cases q:H b with
    |none=>exact un.keep b o e q (by intro z;exact absurd (show b∈([]:List Addr) from z) aa9) aa9
    |some u=>
     rcases hO b with z|⟨ob,xs,z⟩
     .rw[q]at z;cases z
     .have z2:=un.iN b ob _ z;obtain⟨e1,_⟩:=aX b _ z;obtain⟨e2,_⟩:=R1 b _ z2;rw[e]at e1;cases e1;exact e2
 cases hk:K.lookup a with
 |some o=>
  have e:=KX a o hk;rw[ha]at e;cases e;refine aP (λ_=>none) (λ_=> .inl rfl) (.inr ⟨_,vs.toArray,_,hk,rfl,rfl,rfl,by rw[ZA,RZ];exact hl,by simpa using rv⟩) (λb u z=>by have z':(none:Option HO)=some u:=z;cases z') (λb z=>absurd rfl z) λz=>absurd rfl z
 |none=>
  refine aP (λb=>if b=a then some (.dC {cls:= .type "list",data:= .seq vs.toArray} (.lst (ns.map V.int))) else none) (λb=>?_) (.inl (.inr ⟨{cls:= .type "list",data:= .seq vs.toArray},ZD rfl⟩)) (λb u z=>?_) (λb z=>?_) λ_=>hk
  .by_cases hb:b=a
   .exact .inr ⟨_,_,ZD hb⟩
   .exact .inl (ZL hb)
  .by_cases hb:b=a
   .have z':=(ZD hb).symm.trans z;cases z';subst hb;exact⟨ha,by rw[Zo];exact hl,vs,_,rv,ha⟩
   .have z':=(ZL hb).symm.trans z;cases z'
  .by_cases hb:b=a
   .exact hb
   .exact absurd (ZL hb) z
def Es{l:PySem.W.OpenLaw}{n k:Nat}{q:Program}{loose:List Str}{XP:(Str->Option Value)->Heap->Prop}{YP:World->Heap->Prop}{d:DefRec}{K:Params->aH}{CX:World->AH}{sp:World->Sp}{x:Str}
  (hn:l.most=some n) (Qs:n<=sizeLine) (Nn:d.params.defaults=[]) (hr:eK k callerA)
  (hY:∀(w:World) (h:Heap),YP w h->(K w.params).In h)
  (F:∀(w:World) (mg:Str->Option Value) (fa:Addr) (h:Heap),(K w.params).In h->h.Ns mainGlobals mg->mg d.name=some (.ref fa)->
   ∃fd:FuncData,(∀(s:Shared) (u:Value),BindsTo s fd ⟨[u],[]⟩ [(x,u)])/\
    ∀base:Heap,(K w.params).In base->base.Ns mainGlobals mg->i_ l.prog w (K w.params) mg base (CX w) k fa fd [x] (sp w))
  (Hb:∀(w:World) (H:Hp) (a:Addr) (ns:List Int),ns.length<=n->Jt H->cZ (K w.params) H a (ns.map V.int)->sp w [.ref a] H (λv _=>v= .bl true) λ_ _ _=>False)
  (RY:∀(w:World) (H:Hp) (s:Shared) (e:Value) (s':Shared),CX w [] H s (λ_ _ _=>False) e s'->False):
  PySem.W.WalkO q loose XP YP l.row.toRowW d [] (λf vs=>PySem.call f vs):=by
 refine UE.sq hn Nn λw s₀ ba mg mb fa o pm cd il a vs ns G Y ho hd Ax Np Js hints aL hg=>?_;have KX:=hY w _ Y;exact aa (F w mg fa _ KX G.T.g Np) λfd hb hF=>AS KX G.T.g G.T.b G.T.builtins G.T.nolimit hg Js hints (Zr aL Qs) hr hF hb (λH hO hS=>Hb w H a ns aL hO hS) λH e s'=>RY w H ba e s'
noncomputable def dz(s:Stmt):Arguments:=match s with
 | .FunctionDef _ a _ _ _ _ _ _ _ _=>a
 |_=>{posonlyargs:=[],args:=[],vararg:=none,kwonlyargs:=[],kw_defaults:=[],kwarg:=none,defaults:=[]}
noncomputable def bY(s:Stmt):List Stmt:=match s with
 | .FunctionDef _ _ b _ _ _ _ _ _ _=>b
 |_=>[]
noncomputable def aC(s:Stmt):Scope:=match s with
 | .FunctionDef _ _ _ _ _ _ sc _ _ _=>sc
 |_=>{kind:= .function,names:=[],isGenerator:=false,isCoroutine:=false}
abbrev yJ:AH:=λ_ _ _ _ _ _=>False
abbrev E0:XK:=λ_ _ _=>False
def AU:uM yJ X E0:=λ_ _ _ _ _ _ _ h=>h.elim
structure Hi(K:aH)(x qual:Str)(st:Stmt)(f:Addr)(fd:FuncData):Prop where
 ex:∃(oc:Value) (od:Option Addr) (kV il pm:Value) (an:Option Addr) (eQ ct:Value) (Eh:Array (Option Value)),
  fd=PySem.W.fnOf x qual (dz st) (bY st) (aC st) .none kV il pm an eQ ct/\K.lookup f=some ⟨oc,od,.func fd,Eh⟩/\PySem.W.codeIn K eQ qual=true
 kp:PySem.W.keepIn K (.ref f)=true
section
variable {P:Program}{w:World}{K:aH}{mg:Str->Option Value}{base:Heap}{X:Cx}
def Hi.ok{x qual:Str}{st:Stmt}{f:Addr}{fd:FuncData}{N ps:List Str}{k:Nat}{sp:Sp}(F:Hi K x qual st f fd)(S:gR N ps (aC st))(len:∀vs H Q E,sp vs H Q E->vs.length=ps.length)
  (AJ:∀(eQ:Value) (A:Around) (outer:List Env) (s:Shared) (H:Hp) (vs:List V) (Q:VK) (E:XK),eK k (A.deeper (envOfC qual (aC st) s.heap.objs.size f eQ))->sp vs H Q E->
   ∃t,lz (uN yJ P w K mg base N qual (aC st) f eQ A outer s H E).MZ (bY st) t/\t {nx:=λ_ H'=>Q .cx H',rt:=Q} (start N vs) H):i_ P w K mg base yJ (k+1) f fd ps sp:=by
 refine Us F.ex λoc od kV il pm an eQ ct Eh af lk Ax=>?_;subst af;exact Na lk Ax S len λA outer s H vs Q E hr Hb=>aa (AJ eQ A outer s H vs Q E hr Hb) λt h q=>⟨t,h.MZ,q⟩
def Hi.binds{x qual:Str}{st:Stmt}{f:Addr}{fd:FuncData}{ps:List Str}(F:Hi K x qual st f fd)
  (h:∀(kV il pm:Value) (an:Option Addr) (eQ ct:Value) (us:List Value),us.length=ps.length->bindArgs (PySem.W.fnOf x qual (dz st) (bY st) (aC st) .none kV il pm an eQ ct) ⟨us,[]⟩=pure (ps.zip us)):Binds K fd ps []:=by
 refine Us F.ex λoc od kV il pm an eQ ct Eh af lk Ax=>?_;subst af;exact .all (h kV il pm an eQ ct)
def Ju{x qual:Str}{st:Stmt}{f:Addr}{oc:Value}{od an:Option Addr}{Eh:Array (Option Value)}{kV il pm eQ ct:Value}(l:K.lookup f=some ⟨oc,od,.func (PySem.W.fnOf x qual (dz st) (bY st) (aC st) .none kV il pm an eQ ct),Eh⟩)
  (c:PySem.W.codeIn K eQ qual=true) (k:PySem.W.keepIn K (.ref f)=true):Hi K x qual st f (PySem.W.fnOf x qual (dz st) (bY st) (aC st) .none kV il pm an eQ ct):=⟨⟨oc,od,kV,il,pm,an,eQ,ct,Eh,rfl,l,c⟩,k⟩
end
def oC{A B:Prop}(h:B):if false=true then A else B:=by
 rw[ZL Zl];exact h
def mf{A B:Prop}(h:A):if true=true then A else B:=by
 rw[ZD rfl];exact h
def ae(H H':Hp):Prop:=∀b o,H b=some o->H' b=some o
def ae.refl(H:Hp):ae H H:=λ_ _ h=>h
def ae.trans(a:ae H H1)(b:ae H1 H2):ae H H2:=λc o h=>b c o (a c o h)
def ae.seq{K:aH}{H H':Hp}{a:Addr}{xs:List V}(e:ae H H')(h:cZ K H a xs):cZ K H' a xs:=by
 rcases h with (h|⟨o,h⟩)|h
 .exact .inl (.inl (e _ _ h))
 .exact .inl (.inr ⟨o,e _ _ h⟩)
 .exact .inr h
end L2
namespace L2
open PySem
theorem iQ(env:Env):∀(l:List (Str×NameKind)) (cs:List (Str×Addr)),(∀y∈l,y.2= .free ->∃c,env.cells.lookup y.1=some c)->
  ∃cl,(forIn l cs λ(x:Str×NameKind) (r:List (Str×Addr))=>if(x.2==NameKind.free)=true then(do let a<-cellOf env x.1;pure (ForInStep.yield ((x.1,a)::r))) else pure (ForInStep.yield r):Sem (List (Str×Addr)))=pure cl/\
   (∀x c,cl.lookup x=some c->cs.lookup x=some c\/(env.cells.lookup x=some c/\(x,NameKind.free)∈l))/\
   (∀x,(x,NameKind.free)∈l\/(∃c,cs.lookup x=some c)->∃c,cl.lookup x=some c)
 |[],cs,_=>⟨cs,rfl,λx c h=> .inl h,λx h=>h.elim (λz=>nomatch z) id⟩
 |(n,k)::l,cs,h=>by
  have hl:∀y∈l,y.2= .free ->∃c,env.cells.lookup y.1=some c:=λy hy=>h y (Zm _ hy);by_cases hk:k= .free
  .subst hk;obtain⟨c,hc⟩:=h (n,.free) Zt rfl;refine bO (iQ env l ((n,c)::cs) hl) λcl e h1 h2=>⟨cl,?_,λx d hx=>?_,λx hx=>?_⟩
   .rw[abR];simp only[beq_self_eq_true,if_true,cellOf,hc];exact e
   .rcases h1 x d hx with z|⟨z,m⟩
    .rw[acE]at z;by_cases Md:(x==n)=true
     .rw[Md]at z;have:x=n:=eq_of_beq Md;subst this;cases z;exact .inr ⟨hc,Zt⟩
     .have e0:(x==n)=false:=by simpa using Md
      rw[e0]at z;exact .inl z
    .exact .inr ⟨z,Zm _ m⟩
   .refine h2 x ?_;rcases hx with hx|⟨d,hd⟩
    .rcases ZC.mp hx with e1|hx
     .cases e1;exact .inr ⟨c,by rw[acE,beq_self_eq_true]⟩
     .exact .inl hx
    .by_cases Md:(x==n)=true
     .exact .inr ⟨c,by rw[acE,Md]⟩
     .have e0:(x==n)=false:=by simpa using Md
      exact .inr ⟨d,by rw[acE,e0];exact hd⟩
  .refine bO (iQ env l cs hl) λcl e h1 h2=>?_;have hb:(k==NameKind.free)=false:=by simpa using hk
   refine⟨cl,?_,λx d hx=>?_,λx hx=>h2 x ?_⟩
   .rw[abR];simp only[hb,aaV,if_false];exact e
   .rcases h1 x d hx with z|⟨z,m⟩
    .exact .inl z
    .exact .inr ⟨z,Zm _ m⟩
   .rcases hx with hx|hx
    .rcases ZC.mp hx with e1|hx
     .cases e1;exact absurd rfl hk
     .exact .inl hx
    .exact .inr hx
def uV(h:∀y∈sc.names,y.2= .free ->∃c,env.cells.lookup y.1=some c):
  ∃cl,closureFor sc env=pure cl/\(∀x c,cl.lookup x=some c->env.cells.lookup x=some c/\(x,NameKind.free)∈sc.names)/\(∀x,(x,NameKind.free)∈sc.names->∃c,cl.lookup x=some c):=by
 refine bO (iQ env sc.names [] h) λcl e h1 h2=>⟨cl,?_,λx c hx=>(h1 x c hx).resolve_left (λz=>by simp at z),λx hx=>h2 x (.inl hx)⟩;have e':closureFor sc env=(forIn sc.names ([]:List (Str×Addr)) λ(x:Str×NameKind) (r:List (Str×Addr))=>if(x.2==NameKind.free)=true then(do let a<-cellOf env x.1;pure (ForInStep.yield ((x.1,a)::r))) else pure (ForInStep.yield r):Sem (List (Str×Addr))) >>= λr=>pure r:=by
  rfl
 rw[e',e];rfl
section
variable {prog:Program}{w:World}{A:Around}{E:Value->Shared->Prop}{R:Result->Shared->Prop}{s:Shared}
def uW(I:Nat->Shared->Prop)
  (turn:∀n s,I n s->wpAny aa3 A (pyNext it) (λr ba=>match r with
   |none=>R (.ok .next) ba
   |some v=>wpAny aa3 A (letOwnedTupleGo target it v) (λ_ Hj=>wpAny aa3 A (assign target env v) (λ_ lY=>
     wpAny aa3 A (forIn ifs true λc r=>if r=true then do let ok<-isTrue c env (eval c env);pure (ForInStep.yield ok) else pure (ForInStep.yield r)) (λok yK=>
      if ok=true then wpAny aa3 A (eval eE env) (λx Nr=>
       wpAny aa3 A (call (.builtin "list.append") [acc,x]) (λ_ Nt=>∃m,m<n/\I m Nt) (λ_ _=>False) Nr) (λ_ _=>False) yK
      else∃m,m<n/\I m yK) (λ_ _=>False) lY) (λ_ _=>False) Hj) (λ_ _=>False) ba) (λ_ _=>False) s)
  (n:Nat) (h:I n s):
  codeAny aa3 A (.compLoop (.ListComp eE [⟨target,iter,ifs,0⟩] scope pos) 0 it acc env) R s:=by
 refine codeAny_loop rfl I (λn s hI=>?_) n h;show wpAny _ A ((compTurn (.ListComp eE [⟨target,iter,ifs,0⟩] scope pos) 0 it acc env).onRaise (λx=>do noteFrame x env;theTreesLotGoes x)) _ _ s;refine wpAny_noted ?_;rw[compTurn_list];refine Zh (aeq (Zh (abn (turn n s hI) (λr ba Et=>?_) λ_ _ h'=>h'.elim)));cases r with
 |none=>exact Zq Et
 |some v=>
  refine Zh (abn Et (λ_ Hj Nu=>?_) λ_ _ h'=>h'.elim);refine Zh (abn Nu (λ_ lY AV=>Zh (abn AV (λok yK Eu=>?_) λ_ _ h'=>h'.elim)) λ_ _ h'=>h'.elim);cases ok with
  |false=>exact Zq ⟨rfl,Eu⟩
  |true=>
   exact Zh (Zh (abn Eu (λx Nr R3=>Zh (abn R3 (λ_ Nt R4=>Zq (Zq ⟨rfl,R4⟩)) λ_ _ h'=>h'.elim)) λ_ _ h'=>h'.elim))
end
end L2
set_option maxHeartbeats 4000000
namespace L2
open PySem PySem.Spec PyProof.Rows
def Inv.Hk(I:aa5)(h:cZ X.K H a xs):∃(its:List Value) (n:Nat),aF xs its/\xs.length=its.length/\s.heap.get? a=some {cls:= .type "list",data:= .seq its.toArray n}/\xs.length<=sizeLine:=by
 rcases h with h|⟨o,its,n,hk,hc,hd,hs,hz,r,Qt⟩
 .obtain⟨z,its,n,r,e⟩:=h.ok I.aX;exact⟨its,n,r,r.length,e,z⟩
 .refine⟨its.toList,n,r,r.length,?_,?_⟩
  .rw[I.G6 a o hk];obtain⟨c,d,dt,sl⟩:=o;simp only at hc hd hs Qt;subst hc hd hs Qt;simp
  .have e:=r.length;simp only[ZQ]at e;exact Zr (Zy e) hz
theorem Qu{env:Env}:∀{names:List (Str×NameKind)}{x:Str},(names.map λ(n,k)=>if(k==NameKind.free&&env.scope.kind == .function&&env.kindOf n==some .cell) then(n,NameKind.cell) else(n,k)).lookup x=
  (names.lookup x).map λk=>if(k==NameKind.free&&env.scope.kind == .function&&env.kindOf x==some .cell)=true then NameKind.cell else k
 |[],_=>rfl
 |(n,k)::r,x=>by
  rw[ZS];show List.lookup x ((if(k==NameKind.free&&env.scope.kind == .function&&env.kindOf n==some .cell)=true then(n,NameKind.cell) else(n,k))::_)=_;cases hx:x==n with
  |true=>
   cases eq_of_beq hx;rw[aeO,aco];split<;>exact aeO
  |false=>split<;>simp only[acE,hx]<;>exact Qu
def iq{sc:Scope}(h:sc.names.lookup x=some .free):(relabel sc env).names.lookup x=some .cell \/(relabel sc env).names.lookup x=some .free :=by
 refine(show _=_ from Qu)▸?_;rw[h,aco];split
 .exact .inl rfl
 .exact .inr rfl
def kP(hk:kd= .cell \/kd= .free)(h:(relabel sc env).names.lookup x=some kd):(x,NameKind.free)∈sc.names\/(x,NameKind.cell)∈sc.names:=by
 rw[show(relabel sc env).names.lookup x=_ from Qu]at h;obtain⟨k,h1,h2⟩:=aaW.mp h;have:=aat h1;cases k with
 |free=>exact .inl this
 |cell=>exact .inr this
 |_=>simp at h2;subst h2;rcases hk with z|z<;>cases z
theorem mh:∀{names:List (Str×NameKind)}{n:Nat}{acc:List (Str×Addr)},cellsFrom n names acc=cellsFrom n names []++acc
 |[],_,_=>rfl
 |(x,k)::r,n,acc=>by
  unfold cellsFrom;split
  .rw[mh,mh (acc:=[(x,n)]),ZW];rfl
  .exact mh
theorem qq:∀{names:List (Str×NameKind)}{n:Nat},(∀x c,(x,c)∈cellsFrom n names []->(x,NameKind.cell)∈names)/\∀x,(x,NameKind.cell)∈names->∃c,(cellsFrom n names []).lookup x=some c
 |[],_=>⟨λ_ _ h=>(nomatch h),λ_ h=>nomatch h⟩
 |(y,k)::r,n=>by
  unfold cellsFrom;split
  .rename_i hk;cases eq_of_beq hk;rw[mh];obtain⟨a,b⟩:=@qq r (n+1);refine⟨λx c h=>?_,λx h=>?_⟩
   .rcases ZI.mp h with z|z
    .exact Zm _ (a x c z)
    .cases Zp.mp z;exact Zt
   .rw[adT];cases q:(cellsFrom (n+1) r []).lookup x with
    |some c=>exact⟨c,rfl⟩
    |none=>
     rcases ZC.mp h with z|z
     .cases z;exact⟨n,by simp⟩
     .obtain⟨c,hc⟩:=b x z;rw[q]at hc;cases hc
  .rename_i hk;obtain⟨a,b⟩:=@qq r n;refine⟨λx c h=>Zm _ (a x c h),λx h=>?_⟩;rcases ZC.mp h with z|z
   .cases z;exact absurd rfl hk
   .exact b x z
def yL(X:Cx)(ifs:List Expr)(t:TT):Prop:=
 ∀(U:List ab0) (s:Shared) (σ:St) (H:Hp) (Q:Bool->Hp->Prop),Inv X U σ H s->t σ H Q->
  wpAny aa6 X.A (forIn ifs true λc r=>if r=true then do let ok<-isTrue c X.env (eval c X.env);pure (ForInStep.yield ok) else pure (ForInStep.yield r)) (TP X U σ Q) X.xe s
theorem pb:∀(cs:List Expr),(forIn cs false λc r=>if r=true then do let ok<-isTrue c env (eval c env);pure (ForInStep.yield ok) else pure (ForInStep.yield r):Sem Bool)=pure false
 |[]=>rfl
 |c::cs=>by
  rw[abR,ZL Zl];exact pb cs
section
variable {X:Cx}
def Ew:yL X [] (λσ H Q=>Q true H):=λ_ _ _ H _ I h=>Zq ⟨H,I,h⟩
def AW(h:PT X c t)(hr:yL X cs u):yL X (c::cs) (MT t u):=by
 intro U s σ H Q I hw;rw[abR,ZD rfl];refine Zh (Zh (bH (h U s σ H _ I hw) λb s1 zz=>aa zz λH1 I1 q1=>Zq ?_));cases b with
 |true=>exact hr U s1 σ H1 Q I1 q1
 |false=>
  show wpAny _ _ (forIn cs false _) _ _ _;rw[pb];exact Zq ⟨H1,I1,q1⟩
noncomputable def jh(fr:List Nat)(σ:St):St:=fr.map λi=>(σ[i]?).join
noncomputable def ir(X:Cx)(sc:Scope)(cl:List (Str×Addr))(C:Addr)(N:List Str)(U:List ab0)(s:Shared)(H:Hp)(ex:List Addr):Cx:=
 {X with N:=N,s₀:=s,H₀:=H,env:=compEnvC sc cl C X.env,outer:=X.stack,ex:=ex,fn:=λx=>decide ((x,NameKind.cell)∈sc.names),pn:=X.pn++U,xe:=λ_ _=>False}
structure Jv(N:List Str)(DS:Scope)(sc:Scope)(N':List Str)(k:Nat)(fr:List Nat):Prop where
 kind:sc.kind= .function
 apart:∀y∈sc.names,y.2= .free ->(y.1,NameKind.cell)∉sc.names
 loc:∀y∈sc.names,y.2= .local ->sc.names.lookup y.1=some .local
 free:∀y∈sc.names,y.2= .free ->DS.names.lookup y.1=some .cell \/DS.names.lookup y.1=some .free
 len:N'.length=k+fr.length
 Wt:∀j x,N'[k+j]?=some x->∃i,fr[j]?=some i/\N[i]?=some x/\sc.names.lookup x=some .free
def ph(k:Nat)(fr:List Nat)(wi:TI)(g:TG)(tt:TT)(te:TE):TE:=λσ H Q=>wi σ H λJ H1=>
 ∀p,H1 p=none->∃W:Nat->Nat->Hp->Prop,(∃m,W 0 m (upd H1 p (.lst [])))/\∀i m H,W i m H->
  (J.stop i H/\Q (.ref p) H)\/
  (J.go i H/\∀x H',J.AB i H x H'->g x (List.replicate k none++jh fr σ) H' λAc H2=>tt Ac H2 λb H3=>
   if b=true then te Ac H3 λv H4=>∃xs m',H4 p=some (.lst xs)/\xs.length<sizeLine/\m'<m/\W (i+1) m' (upd H4 p (.lst (xs++[v])))
   else∃m',m'<m/\W (i+1) m' H3)
def qr(k:Nat)(g:TG):Prop:=∀x σ H Q,g x σ H Q->g x σ H λAc H2=>Q Ac H2/\Ac.length=σ.length/\∀i,k<=i->Ac[i]?=σ[i]?
def AX(I:aa5)(S:Jv X.N X.env.scope sc N' k fr)
  (h1:∀x c,cl.lookup x=some c->X.env.cells.lookup x=some c/\(x,NameKind.free)∈sc.names\/(x,NameKind.cell)∈sc.names/\s.heap.objs.size<c/\s4.heap.IsCell c none) (h2:∀x,(x,NameKind.free)∈sc.names\/(x,NameKind.cell)∈sc.names->∃c,cl.lookup x=some c)
  (inj:∀x y c,cl.lookup x=some c->cl.lookup y=some c->x=y) (Qv:∀b∈fp,k9 X U H b) (aU:∀b∈fp,b<s.heap.objs.size) (os:s4.os=s.os) (gens:s4.gens=s.gens) (keep:∀b o,s.heap.get? b=some o->s4.heap.get? b=some o)
  (ns:s4.heap.Ns s.heap.objs.size m):
  Inv (ir X sc cl s.heap.objs.size N' U s H fp) [] (List.replicate k none++jh fr σ) H s4:=by
 have kx:∀x,(x,NameKind.free)∈sc.names->X.env.kindOf x=some .cell \/X.env.kindOf x=some .free :=λx hx=>S.free (x,.free) hx rfl;have Hl:∀x c v,X.env.cells.lookup x=some c->s.heap.IsCell c v->s4.heap.IsCell c v:=λx c v _ ⟨o,ho,hd⟩=>⟨o,keep c o ho,hd⟩;refine⟨⟨I.ok.mod,S.kind,I.ok.glob,I.ok.blt,Zu _,inj,λx hx=>?_,λx c hf hx=>?_,I.ok.hd,I.ok.frames,.inl rfl,λb hb=>⟨?_,λx c hx=>?_⟩,I.bs,Zr I.ok.Au I.sz,λb o e hb=>?_,λb hb=>?_,I.stack,I.vT⟩,
  os,by rw[gens];exact I.bare,Un.kept keep,⟨m,ns,λi x v e1 e2 e3=>?_⟩,λx c hx=>?_,I.fresh,λx c hx=>?_,λp hp=>?_,I.aX.kept keep,?_⟩
 .rcases hx with hx|hx
  .exact h2 x (kP (.inl rfl) hx)
  .exact h2 x (kP (.inr rfl) hx)
 .rcases h1 x c hx with z|z
  .exact absurd (of_decide_eq_true hf) (S.apart _ z.2 rfl)
  .exact ZP z.2.1
 .exact ZT (aU b hb)
 .rcases h1 x c hx with z|z
  .exact(Qv b hb).2.2.2.2.1 x c z.1
  .exact aeN (abW (aU b hb) z.2.1)
 .rcases (Qv b hb).2.2.2.1 with z|z
  .exact I.ok.Av b o e z
  .exact absurd (Zn (Zn (ZG e) I.ok.Au) z) (aam _)
 .intro ja;rcases ZC.mp (I.lX b ja)with z|z
  .exact(Qv b hb).2.1 z
  .exact(Qv b hb).2.2.1 z
 .by_cases hi:i<k
  .rw[aao (by simpa using hi),adz hi]at e2;cases e2
  .have gr:k<=i:=ZZ hi;rw[aar (by simpa using gr),acn]at e2;have n_:N'[k+(i-k)]?=some x:=by rw[Nat.add_sub_cancel' gr];exact e1
   refine bO (S.Wt (i-k) x n_) λj f1 f2 f3=>?_;unfold jh at e2;rw[Zz,f1]at e2;have Ex:(σ[j]?).join =some v:=by simpa using e2
   have R5:σ[j]?=some (some v):=by
    cases q:σ[j]? with
    |none=>rw[q]at Ex;cases Ex
    |some y=>rw[q]at Ex;simp at Ex;rw[Ex]
   refine aa I.loc λmo uA Jr=>?_;have Wu:yw X.env.scope x:=by
    rcases kx x (aat f3)with z|z
    .exact .inr (.inl z)
    .exact .inr (.inr z)
   refine aa (Jr j x v f2 R5 Wu) λu r l=>⟨u,r,?_⟩;rcases l with⟨z,_⟩|⟨_,c,hc,vW⟩
   .rcases kx x (aat f3)with y|y
    .rw[y]at z;cases z
    .rw[y]at z;cases z
   .obtain⟨c',kM⟩:=h2 x (.inl (aat f3));have ec:=(h1 x c' kM).resolve_right λz=>S.apart _ (aat f3) rfl z.1;cases hc.symm.trans ec.1;refine .inr ⟨?_,c,kM,Hl x c _ hc vW⟩;have vz:yw (relabel sc X.env) x:=e3;rcases vz with z|z|z
    .rcases iq (env:=X.env) f3 with y|y<;>cases y.symm.trans z
    .exact .inl z
    .exact .inr z
 .rcases h1 x c hx with y|y
  .obtain⟨v,z⟩:=I.cell x c y.1;exact⟨v,Hl x c v y.1 z⟩
  .exact⟨_,y.2.2⟩
 .rcases h1 x c hx with y|y
  .exact I.fY x c y.1
  .exact I.aX.fresh (ZP y.2.1)
 .have Hn:p∈X.pn++U:=by simpa[ir]using hp
  refine MA (I.pin p Hn) λe n ne nf d=>⟨keep _ _ e,n,ZT (ZG e),λz=>?_,d⟩;rcases ZC.mp (I.lX p.1 z)with y|y
  .exact ne y
  .exact nf y
 .show _=N'.length;rw[S.len,Zw,acn];unfold jh;rw[Zo]
def Nv(X:Cx)(U:List ab0)(H:Hp)(C:Addr):Prop:=
 H C=none/\C≠X.env.locals/\X.s₀.heap.objs.size<=C/\(∀x c,X.env.cells.lookup x=some c->c≠C)/\∀p∈X.pn++U,p.1≠C
def Inv.Nw(I:aa5)(h:Nv X U H C)(hs:Heap.SameBut C s.heap h'):Inv X U σ H {s with heap:=h'}:=by
 exact MA h λa b c d e=>I.turned (t':=s.toks) (it:=C) (λb o hb q=>(hs.2 b hb).trans q) a b (.inr c) d e
theorem pj
  {g:TG}{tt:TT}{te:TE}{E:Value->Shared->Prop}{Qe:Addr->Hp->Prop}{RR:Value->Addr->Result->Shared->Prop}
  (I2:Inv X U σ H1 s2) (T:r0 X.prog X.w X.K tg J fp it tn) (cN:tn 0 s2.heap) (f2:∀b∈fp,k9 X U H1 b) (S:Jv X.N X.env.scope sc N' k fr) (hc:X.calm=true)
  (h1:∀x c,cl.lookup x=some c->X.env.cells.lookup x=some c/\(x,NameKind.free)∈sc.names) (h2:∀x,(x,NameKind.free)∈sc.names->∃c,cl.lookup x=some c) (gk:qr k g)
  (AY:∀cl C s H ex,PG (ir X sc cl C N' U s H ex) tg g/\yL (ir X sc cl C N' U s H ex) ifs tt/\PE (ir X sc cl C N' U s H ex) eE te)
  (hW:∀p,H1 p=none->∃W:Nat->Nat->Hp->Prop,(∃m,W 0 m (upd H1 p (.lst [])))/\∀i m H,W i m H->
   (J.stop i H/\Qe p H)\/
   (J.go i H/\∀x H',J.AB i H x H'->g x (List.replicate k none++jh fr σ) H' λAc H2=>tt Ac H2 λb H3=>
    if b=true then te Ac H3 λv H4=>∃xs m',H4 p=some (.lst xs)/\xs.length<sizeLine/\m'<m/\W (i+1) m' (upd H4 p (.lst (xs++[v])))
    else∃m',m'<m/\W (i+1) m' H3))
  (Wv:∀a C s' H',Inv X U σ H' s'->Nv X U H' C->(∃m,s'.heap.Ns C m)->Qe a H'->RR (.ref a) C (.ok .next) s'):
  wpAny aa6 X.A (newList []) (λacc s3=>wpAny aa6 X.A (newFunctionEnv sc X.env.globals cl [] X.env.qual none .none (some X.env)) (λNx s4=>
   codeAny aa6 X.A (.compStart (.ListComp eE [⟨tg,iter,ifs,0⟩] sc pos) 0 (.ref it) acc {Nx with scope:=relabel sc X.env}) (RR acc Nx.locals) s4) E s3) E s2:=by
 have hD:H1 s2.heap.objs.size=none:=I2.fresh;obtain⟨W,⟨m0,w0⟩,turn⟩:=hW _ hD;have Ho:∀b∈fp,b<s2.heap.objs.size:=λb hb=>by
  exact aa (T.obj _ _ cN b hb) λo e _=>ZG e
 refine aaj ?_ (aak _);have I3:Inv X U σ (upd H1 s2.heap.objs.size (.lst [])) {s2 with heap:=s2.heap.push {cls:= .type "list",data:= .seq ([]:List Value).toArray}}:=I2.Nm (ys:=[]) (its:=[]) (t':=s2.toks) .nil (aak _);have Hq:∀b o,s2.heap.get? b=some o->(s2.heap.push {cls:= .type "list",data:= .seq ([]:List Value).toArray}).get? b=some o:=λb o e=>Zi _ e;have ne:∀b∈fp,b≠s2.heap.objs.size:=λb hb=>ZT (Ho b hb);have f3:∀b∈fp,k9 X U (upd H1 s2.heap.objs.size (.lst [])) b:=λb hb=>⟨by rw[ai (ne b hb)];exact(f2 b hb).1,(f2 b hb).2⟩;have Ey:∀b∈fp,b<(s2.heap.push {cls:= .type "list",data:= .seq ([]:List Value).toArray}).objs.size :=λb hb=>by
  rw[abf];exact abc (Ho b hb)
 have jZ:tn 0 (s2.heap.push {cls:= .type "list",data:= .seq ([]:List Value).toArray}):=T.keep _ _ _ cN λb _ o e=>Hq b o e;generalize Ww:({s2 with heap:=s2.heap.push {cls:= .type "list",data:= .seq ([]:List Value).toArray}}:Shared)=s3 at *;have Wx:s3.heap=s2.heap.push {cls:= .type "list",data:= .seq ([]:List Value).toArray}:=by rw[<-Ww]
 rw[<-Wx]at Hq Ey jZ;simp only[newFunctionEnv,afl,if_true];refine Zh (wpAny_alloc (Zh (wpAny_layCells _ (λname kind cells=>by cases Wy:kind==NameKind.cell<;>simp[Wy]) _ _ _ _ ?_)));have ok:=cellsFrom_ok sc.names (s3.heap.push {cls:= .type "dict",data:= .dict #[]}) (s3.heap.objs.size+1) [] ⟨λ_ _ hm=>(nomatch hm),List.Pairwise.nil⟩ (by rw[abf];exact Zu _);rw[abf]at ok;rw[show({s3 with heap:=s3.heap.push {cls:= .type "dict",data:= .dict #[]}}:Shared).heap.objs.size =s3.heap.objs.size+1 from abf ..,mh];refine Zh (Zq (Zq ?_));have Hr:∀b o,s3.heap.get? b=some o->(pushCells (s3.heap.push {cls:= .type "dict",data:= .dict #[]}) sc.names).get? b=some o:=λb o e=>pushCells_keeps _ _ b o (Zi _ e);have Wz:=(Heap.Ns.new s3.heap (.type "dict")).keeps (pushCells_keeps sc.names _);have g1:∀x c,(cellsFrom (s3.heap.objs.size+1) sc.names []++cl).lookup x=some c->X.env.cells.lookup x=some c/\(x,NameKind.free)∈sc.names\/(x,c)∈cellsFrom (s3.heap.objs.size+1) sc.names []:=λx c e=>by
  rw[adT]at e;cases q:(cellsFrom (s3.heap.objs.size+1) sc.names []).lookup x with
  |some c'=>rw[q]at e;cases e;exact .inr (aat q)
  |none=>rw[q]at e;exact .inl (h1 x c e)
 have g2:∀x,(x,NameKind.free)∈sc.names\/(x,NameKind.cell)∈sc.names->∃c,(cellsFrom (s3.heap.objs.size+1) sc.names []++cl).lookup x=some c:=λx e=>by
  rw[adT];cases q:(cellsFrom (s3.heap.objs.size+1) sc.names []).lookup x with
  |some c=>exact⟨c,rfl⟩
  |none=>
   rcases e with z|z
   .exact h2 x z
   .obtain⟨c,hc⟩:=qq.2 x z;cases q.symm.trans hc
 have UI:∀x c,X.env.cells.lookup x=some c->c<s3.heap.objs.size:=λx c e=>by
  obtain⟨v,z⟩:=I3.cell x c e;exact z.lt
 have gj:∀x y c,(cellsFrom (s3.heap.objs.size+1) sc.names []++cl).lookup x=some c->(cellsFrom (s3.heap.objs.size+1) sc.names []++cl).lookup y=some c->x=y:=λx y c e1 e2=>by
  rcases g1 x c e1 with a|a<;>rcases g1 y c e2 with b|b
  .exact I3.ok.inj x y c a.1 b.1
  .exact absurd (abW (UI x c a.1) (ok.empty y c b).2) (aam _)
  .exact absurd (abW (UI y c b.1) (ok.empty x c a).2) (aam _)
  .exact name_of_addr ok.apart a b
 have g3:∀x c,(cellsFrom (s3.heap.objs.size+1) sc.names []++cl).lookup x=some c->X.env.cells.lookup x=some c/\(x,NameKind.free)∈sc.names\/(x,NameKind.cell)∈sc.names/\s3.heap.objs.size<c/\(pushCells (s3.heap.push {cls:= .type "dict",data:= .dict #[]}) sc.names).IsCell c none:=λx c e=>(g1 x c e).imp_right λz=>⟨qq.1 x c z,(ok.empty x c z).2,(ok.empty x c z).1⟩;clear ok g1 h1 h2;generalize cellsFrom (s3.heap.objs.size+1) sc.names []++cl=cl at *;generalize pushCells (s3.heap.push {cls:= .type "dict",data:= .dict #[]}) sc.names=h4 at *;generalize eH:upd H1 s2.heap.objs.size (.lst [])=H3 at *;generalize eD:s2.heap.objs.size=D at *;have J4:Inv (ir X sc cl s3.heap.objs.size N' U s3 H3 fp) [] (List.replicate k none++jh fr σ) H3 {s3 with heap:=h4,toks:=s3.toks}:=
  AX (s4:={s3 with heap:=h4,toks:=s3.toks}) I3 S g3 g2 gj f3 Ey rfl rfl Hr Wz
 have Qw:tn 0 h4:=T.keep _ _ _ jZ λb _ o e=>Hr b o e;refine cP (AY cl s3.heap.objs.size s3 H3 fp) λpg pt pe=>?_;have uK:∀{H':Hp},(∀b∈fp,H' b=none)->∀b∈fp,k9 (ir X sc cl s3.heap.objs.size N' U s3 H3 fp) [] H' b:=λ{H'} hn b hb=>by
  refine vS (f3 b hb) λ_ a1 a2 a3 a4 a5=>?_;refine⟨hn b hb,ZT (Ey b hb),λz=>?_,.inl hb,λx c hx=>(g3 x c hx).elim (λz=>a4 x c z.1) λz=>aeN (abW (Ey b hb) z.2.1),λp hp=>a5 p (by simpa[ir]using hp)⟩;rcases ZC.mp (I3.lX b z)with y|y
  .exact a1 y
  .exact a2 y
 have fin:∀{s':Shared}{H':Hp},Inv (ir X sc cl s3.heap.objs.size N' U s3 H3 fp) [] (List.replicate k none++jh fr σ) H' s'->Qe D H'->RR (.ref D) s3.heap.objs.size (.ok .next) s':=λ{s' H'} J5 q=>by
  refine Wv D s3.heap.objs.size s' H' ?_ ⟨J5.free,(ZT I3.lt).symm,I3.sz,λx c hx z=>?_,λp hp z=>?_⟩ (let ⟨m,hn,_⟩:=J5.loc;⟨m,hn⟩) q
  .exact I3.MR (ch:=fp) J5.os J5.base J5.aX J5.bare λb hb=>let ⟨_,a1,a2,a3,a4,a5⟩:=f3 b hb;⟨a3,a1,a4,a5⟩
  .exact eC (I3.cell x c hx) λv o ho _=>absurd (ZG ho) (by rw[z];exact aam _)
  .exact absurd (ZG (I3.pin p hp).1) (by rw[z];exact aam _)
 have loop:∀s5:Shared,s5={s3 with heap:=h4,toks:=s3.toks}->codeAny aa6 X.A (.compLoop (.ListComp eE [⟨tg,iter,ifs,0⟩] sc pos) 0 (.ref it) (.ref D) (compEnvC sc cl s3.heap.objs.size X.env)) (RR (.ref D) s3.heap.objs.size) s5:=by
  rintro s5 rfl;refine uW (λn s'=>∃i H',Inv (ir X sc cl s3.heap.objs.size N' U s3 H3 fp) [] (List.replicate k none++jh fr σ) H' s'/\tn i s'.heap/\(∀b∈fp,H' b=none)/\W i n H') ?_ m0 ⟨0,H3,J4,Qw,λb hb=>(f3 b hb).1,w0⟩;rintro n s5 ⟨i,H5,J5,AF,Qo,w5⟩;rcases turn i n H5 w5 with⟨stop,qn⟩|⟨go,step⟩
  .refine bH (T.done (ir X sc cl s3.heap.objs.size N' U s3 H3 fp) rfl rfl rfl hc i [] s5 _ H5 (λ_ _=>False) J5 (uK Qo) AF stop) λr s6 zz=>?_;obtain⟨hr,J6⟩:=zz;subst hr;exact fin J6 qn
  .refine bH (T.item (ir X sc cl s3.heap.objs.size N' U s3 H3 fp) rfl rfl rfl hc i [] s5 _ H5 (λ_ _=>False) J5 (uK Qo) AF go) λr s6 zz=>aa zz λu hr h6=>?_;subst hr;refine bH h6 λ_ s7 zz=>jU zz λx H7 J7 r7 y7 R6 WA=>?_;have WB:=J7.pinned (uK WA) (T.obj _ _ R6);refine bH (pg _ s7 _ H7 x u _ WB r7 (gk _ _ _ _ (step x H7 y7))) λ_ s8 zz=>gQ zz λQx H8 J8 q8 l8 k8=>?_
   have back:∀{s9:Shared}{H9:Hp}{m:Nat},Inv (ir X sc cl s3.heap.objs.size N' U s3 H3 fp) ([]++lZ fp s7.heap) Qx H9 s9->m<n->W (i+1) m H9->
     ∃m,m<n/\∃i H',Inv (ir X sc cl s3.heap.objs.size N' U s3 H3 fp) [] (List.replicate k none++jh fr σ) H' s9/\tn i s9.heap/\(∀b∈fp,H' b=none)/\W i m H':=λ{s9 H9 m} J9 hm w9=>by
    refine⟨m,hm,i+1,H9,(J9.i9).weak l8.symm λj v e=>?_,T.keep _ _ _ R6 λb hb o e=>(J9.pin (b,o) (ZH _ (ZH _ (fL hb e)))).1,λb hb=>?_,w9⟩
    .by_cases hj:j<k
     .rw[aao (by simpa using hj),adz hj]at e;cases e
     .rw[k8 j (ZZ hj)];exact e
    .exact aa (T.obj _ _ R6 b hb) λo e _=>(J9.pin (b,o) (ZH _ (ZH _ (fL hb e)))).2.1
   refine bH (pt _ s8 Qx H8 _ J8 q8) λb s9 zz=>aa zz λH9 J9 q9=>?_;cases b with
   |false=>
    rw[ZL Zl]at q9⊢;exact aa q9 λm' hm w'=>back J9 hm w'
   |true=>
    rw[ZD rfl]at q9⊢;refine bH (pe _ s9 Qx H9 _ J9 q9) λy WC zz=>?_;obtain⟨v,R7,WD,WE,xs,m',hx,hl,hm,w'⟩:=zz;refine bH (o_ _ WC Qx R7 (.ref D) [v] (.ref D) [y] (λ_ R8=>∃m',m'<n/\W (i+1) m' R8) WD rfl (.cons WE .nil) ⟨D,xs,v,rfl,rfl,hx,hl,m',hm,w'⟩) λ_ Qy zz=>?_;obtain⟨_,R8,WG,_,YZ,yM,WH⟩:=zz;exact back WG yM WH
 exact codeAny_compStart_list (loop _ rfl) (T.self X.A 0 _ _ _ Qw (loop _ rfl))
def sv(I:aa5)(S:Jv X.N X.env.scope sc N' k fr):
  ∃cl,closureFor sc X.env=pure cl/\(∀x c,cl.lookup x=some c->X.env.cells.lookup x=some c/\(x,NameKind.free)∈sc.names)/\(∀x,(x,NameKind.free)∈sc.names->∃c,cl.lookup x=some c):=
 uV λy hy hf=>I.ok.has y.1 (S.free y hy hf)
def wj(hi:PI X tg iter wi)(S:Jv X.N X.env.scope sc N' k fr)(hc:X.calm=true)(gk:qr k g)
  (AY:∀cl C U s H ex,PG (ir X sc cl C N' U s H ex) tg g/\yL (ir X sc cl C N' U s H ex) ifs tt/\PE (ir X sc cl C N' U s H ex) eE te)
  (hs:∀x,foldedSetIterable iter X.env x=pure x):PE X (.ListComp eE [⟨tg,iter,ifs,0⟩] sc pos) (ph k fr wi g tt te):=by
 intro U s σ H Q I h;refine bO (sv I S) λcl R9 h1 h2=>?_;rw[eval_ListComp];refine aec (use:=none) (g:=⟨tg,iter,ifs,0⟩) (gs:=[]) rfl hs R9 S.kind S.loc<|bH (hi U s σ H _ I h) λv s1 q1=>bH q1 λQm s2 q2=>Uq q2 λit fp tn J H2 e I2 T cN f2 hW=>?_;subst e;refine pj (Qe:=λp H=>Q (.ref p) H) (RR:=λacc C=>compPost aa6 X.A X.xe none (EP X U σ Q) acc C) I2 T cN f2 S hc h1 h2 gk (λcl C s H ex=>AY cl C U s H ex) hW ?_;intro a C s' H' I' off ⟨m,hn⟩ q;exact⟨m,hn,λh' uB=>⟨.ref a,H',I'.Nw off uB,rfl,q⟩⟩
def mi(hi:PI X tg iter wi)(S:Jv X.N X.env.scope sc N' k fr)(hc:X.calm=true)(gk:qr k g)
  (AY:∀cl C U s H ex,PG (ir X sc cl C N' U s H ex) tg g/\yL (ir X sc cl C N' U s H ex) ifs tt/\PE (ir X sc cl C N' U s H ex) eE te)
  (hs:∀x,foldedSetIterable iter X.env x=pure x) (hN:X.N.Nodup) (hj:X.N[j]?=some y) (hy:X.env.scope.names.lookup y=some .local)
  (WI:swapsWith (.ListComp eE [⟨tg,iter,ifs,0⟩] sc pos) (some (.Name y py)) R_.line X.env=pure true):
  PS X (.Assign [.Name y py] (.ListComp eE [⟨tg,iter,ifs,0⟩] sc pos) R_) (ou (ph k fr wi g tt te) (cJ j)):=by
 intro U s σ H D I h;refine bO (sv I S) λcl R9 h1 h2=>?_;rw[exec_Assign_Name_used _ _ _ _ WI];refine Zh (aeq (Zh ?_));show wpAny _ _ (do let _<-comprehension (.ListComp eE [⟨tg,iter,ifs,0⟩] sc pos) sc X.env _ (newList []) false (eval iter X.env) (some (assign (.Name y py) X.env))) _ _ s;refine Zh (abn (aec (g:=⟨tg,iter,ifs,0⟩) (gs:=[]) (use:=some (assign (.Name y py) X.env)) (Q:=λ_ s'=>SP X U D .next s') rfl hs R9 S.kind S.loc ?_) (λ_ s' hq=>Zq (Zq hq)) λ_ _ e=>e);refine bH (hi U s σ H _ I h) λv s1 q1=>bH q1 λQm s2 q2=>Uq q2 λit fp tn J H2 e I2 T cN f2 hW=>?_;subst e;refine pj (Qe:=λp H=>D.nx (σ.set j (some (.ref p))) H) (RR:=λacc C=>compPost aa6 X.A X.xe (some (assign (.Name y py) X.env)) (λ_ s'=>SP X U D .next s') acc C) I2 T cN f2 S hc h1 h2 gk (λcl C s H ex=>AY cl C U s H ex) hW ?_;intro a C s' H' I' off ⟨m,hn⟩ q;show wpAny _ _ (assign (.Name y py) X.env (.ref a)) _ _ _;refine wpAny_assign_Name (oQ I' hN hj (.inl hy) (v:= .ref a) rfl (λM_ WJ sb=>?_) (.inr hy));refine aa sb λb hb ja=>?_;have WK:C≠b:=by
  rintro rfl;rcases ja with z|z
  .exact off.2.1 z
  .exact off.2.2.2.1 _ _ z rfl
 exact⟨m,hn.sameBut hb WK,λh' uB=>⟨_,H',WJ.Nw off uB,q⟩⟩
end
end L2
namespace bJ
noncomputable def bC:List Int->List Int->Bool
 |[],[]=>false
 |[],_::_=>true
 |_::_,[]=>false
 |n::u,m::v=>if n=m then bC u v else decide (n<m)
noncomputable def yN(x:List Int):List aa2->List aa2
 |[]=>[x]
 |y::r=>if bC y x then y::yN x r else x::y::r
noncomputable def aV:List aa2->List aa2
 |[]=>[]
 |x::r=>yN x (aV r)
noncomputable def iu:List Int->List aa2->List Int
 |a,[]=>a
 |a,b::r=>iu (if bC b a then b else a) r
end bJ
namespace S2
noncomputable def gu(L:List aa2)(x:List Int):List aa2:=if x∈L then L else L++[x]
noncomputable def ji(l:List aa2):List aa2:=l.foldl gu []
end S2
namespace Py
open PySem
set_option genInjectivity false
inductive D where
 |cx|bl (b:Bool)|int (i:Int)|tup (xs:List D)|lst (xs:List D)
  |bI (t:Nat) (ks:List aa2) (vs:List D)
 deriving Inhabited
noncomputable def bV:Nat:=16777216
mutual
noncomputable def mj:D->D->Bool
 | .cx,b=>match b with| .cx =>true| .bI _ _ _=>true|_=>false
 | .bl x,b=>match b with| .bl y=>x==y| .int j=>(if x then 1 else 0)==j|_=>false
 | .int i,b=>match b with| .bl y=>i==(if y then 1 else 0)| .int j=>i==j|_=>false
 | .tup xs,b=>match b with| .tup ys=>Ad xs ys|_=>false
 | .lst xs,b=>match b with| .lst ys=>Ad xs ys|_=>false
 | .bI _ _ _,b=>match b with| .cx =>true| .bI _ _ _=>true|_=>false
noncomputable def Ad:List D->List D->Bool
 |[],ys=>match ys with|[]=>true|_=>false
 |x::xs,ys=>match ys with|[]=>false|y::ys=>mj x y&&Ad xs ys
end
mutual
noncomputable def aI:D->Bool
 | .tup xs=>a_ xs
 | .lst _=>false
 | .bI _ _ _=>false
 |_=>true
noncomputable def a_:List D->Bool
 |[]=>true
 |x::xs=>aI x&&a_ xs
end
mutual
noncomputable def fK:D->Nat->Bool
 | .tup xs,n=>match n with|0=>false|n+1=>f_ xs n
 | .lst xs,n=>match n with|0=>false|n+1=>f_ xs n
 | .bI _ _ _,_=>false
 |_,_=>true
noncomputable def f_:List D->Nat->Bool
 |[],_=>true
 |x::xs,n=>fK x n&&f_ xs n
end
theorem j5(n:Nat):∀ns:List Int,f_ (ns.map .int) n=true
 |[]=>by simp[f_]
 |i::ns=>by simp[f_,fK,j5 n ns]
noncomputable def ml:D->Bool
 | .bI t _ _=>t==2
 |_=>false
@[simp] def Jw:D->Bool
 | .bI _ _ _=>false
 |_=>true
inductive uX where
 |len|tuple|list|min|sorted|all
 deriving DecidableEq,Inhabited
inductive UJ where
 |index|qt
 deriving DecidableEq,Inhabited
inductive E where
 |nil|cons (a r:E)
 |var (i:Nat)
 |c (d:D)
 |bin (o:Operator) (a b:E)
 |cmp (o:CmpOp) (a b:E)
 |uY (k:Bool) (es:E)|not (a:E)|neg (a:E)
  |Jx (a:E)
 |tup (es:E)|lst (es:E)
 |idx (a i:E)
 |sl (a lo hi:E)
 |call (f:Nat) (es:E)
 |prim (p:uX) (es:E)
 |eL (m:UJ) (o:E) (es:E)
 |comp (fr:List Nat) (tg:Nat) (it ifs eE:E)
 |gi (es:E)|Ae (a:E)|it (a:E)
 |rM (p:uX) (es:E)
  |mr (i:Nat) (k:E)
 |AZ (neg:Bool) (k:E) (i:Nat)
  |iF (i:Nat)
 |dk (i:Nat)|dv (i:Nat)
  |sset (a:E)
 deriving Inhabited
noncomputable abbrev E.u(i:Nat):E:= .cons (.var i) .nil
noncomputable abbrev E.w(i:Nat)(r:E):E:= .cons (.var i) r
abbrev Env:=List (Option (Bool×D))
abbrev FT:=Nat->List D->Option D
noncomputable def rd(b:Bool)(ρ:Env)(i:Nat):Option D:=
 match ρ[i]? with
 |some (some (o,d))=>if o&&!(b&&Jw d) then none else some d
 |_=>none
noncomputable def qu(ρ:Env)(i:Nat):Bool:=
 match ρ[i]? with
 |some (some (o,_))=>o
 |_=>false
noncomputable def qv(ρ:Env):E->Bool
 | .cons (.var i) r=>qu ρ i||qv ρ r
 | .cons _ r=>qv ρ r
 |_=>false
noncomputable def mz(i j:Int):Bool:=(decide (-(2 ^ 64)<i)&&decide (i<2 ^ 64))||(decide (-(2 ^ 64)<j)&&decide (j<2 ^ 64))
noncomputable def bin(o:Operator)(x y:D):Option D:=
 match o with
 | .Add =>match x,y with
  | .int i,.int j=>some (.int (i+j))
  | .lst a,.lst b=>if a.length+b.length<=bV then some (.lst (a++b)) else none
  | .tup a,.tup b=>if a.length+b.length<=bV then some (.tup (a++b)) else none
  |_,_=>none
 | .Mult =>match x,y with
  | .int i,.int j=>if mz i j then some (.int (i*j)) else none
  |_,_=>none
 | .FloorDiv =>match x,y with
  | .int i,.int j=>if 0<j/\j<1073741824 then some (.int (i/j)) else none
  |_,_=>none
 | .Mod =>match x,y with
  | .int i,.int j=>if 0<j then some (.int (i%j)) else none
  |_,_=>none
 |_=>none
noncomputable def aO:List D->Option aa2
 |[]=>some []
 | .int i::r=>(aO r).map (i:: ·)
 |_::_=>none
noncomputable def eF:List D->Option (List Bool)
 |[]=>some []
 | .bl b::r=>(eF r).map (b:: ·)
 |_::_=>none
noncomputable def dg(t:Nat)(x:D):Option aa2:=
 match x with
 | .int i=>if t=0 then some [i] else none
 | .tup xs=>if t=0 then none else aO xs
 |_=>none
noncomputable def iw:List aa2->List D->List Int->Option D
 |k::ks,v::vs,x=>if k=x then some v else iw ks vs x
 |_,_,_=>none
abbrev UK:=Nat×List aa2×List D
noncomputable def fZ(ρ:List (Option (Bool×D)))(i:Nat):Option UK:=
 match ρ[i]? with
 |some (some (_,.bI t ks vs))=>if t=2 then none else some (t,ks,vs)
 |_=>none
noncomputable def keysAt(ρ:List (Option (Bool×D)))(i:Nat):Option (List D):=
 match ρ[i]? with
 |some (some (false,.bI 0 ks _))=>some (ks.map λk=> .int (k.headD 0))
 |_=>none
noncomputable def qw(ρ:List (Option (Bool×D)))(i:Nat):Option (List D):=
 match ρ[i]? with
 |some (some (false,.bI 0 _ vs))=>some vs
 |_=>none
noncomputable def f6(ρ:List (Option (Bool×D)))(i:Nat):Option (List D):=
 match ρ[i]? with
 |some (some (_,.lst xs))=>some xs
 |_=>none
noncomputable def A0(t:Nat):List D->Option D
 |[k,v]=>(dg t k).map λx=> .bI t [x] [v]
 |_=>none
noncomputable def cmp(o:CmpOp)(x y:D):Option Bool:=
 match o with
 | .Eq =>if fK x 60&&fK y 60 then some (mj x y) else none
 | .NotEq =>if fK x 60&&fK y 60 then some (!mj x y) else none
 | .IsNot =>match y with| .cx =>some (match x with| .cx =>false|_=>true)|_=>none
 | .NotIn =>match y with
  | .lst ys=>if fK x 60&&fK y 60 then some (!ys.any λz=>mj z x) else none
  |_=>none
 | .Lt =>match x,y with
  | .int i,.int j=>some (decide (i<j))
  |_,_=>none
 |_=>none
noncomputable def place(n:Nat)(i:Int):Option Nat:=if 0<=i then(if i<n then some i.toNat else none) else if -(n:Int)<=i then some (i+n).toNat else none
noncomputable def item(x i:D):Option D:=
 match x,i with
 | .lst xs,.int k=>(place xs.length k).bind λj=>xs[j]?
 | .tup xs,.int k=>(place xs.length k).bind λj=>xs[j]?
 |_,_=>none
noncomputable def bound(n d:Nat):Option Int->Nat
 |none=>d
 |some v=>(if v<0 then max (v+(n:Int)) 0 else min v (n:Int)).toNat
noncomputable def sA(xs:List D)(lo hi:Option Int):List D:=(xs.drop (bound xs.length 0 lo)).take (bound xs.length xs.length hi-bound xs.length 0 lo)
noncomputable def insI(x:Int):List Int->List Int
 |[]=>[x]
 |y::r=>if x<=y then x::y::r else y::insI x r
noncomputable def sortI:List Int->List Int
 |[]=>[]
 |x::r=>insI x (sortI r)
noncomputable def lg(k:List Int):D:= .tup (k.map .int)
noncomputable def dh:List D->Option (List aa2)
 |[]=>some []
 | .tup xs::r=>(aO xs).bind λk=>if k=[] then none else(dh r).map (k:: ·)
 |_::_=>none
noncomputable def iy:Int->List Int->Int
 |a,[]=>a
 |a,b::r=>iy (if b<a then b else a) r
noncomputable def seq:D->Option (List D)
 | .lst xs=>some xs
 | .tup xs=>some xs
 |_=>none
noncomputable def prim(p:uX)(xs:List D):Option D:=
 match p with
 | .len =>match xs with
  |[x]=>(seq x).map λys=> .int ys.length
  |_=>none
 | .tuple =>match xs with
  |[x]=>(seq x).map .tup
  |_=>none
 | .list =>match xs with
  |[x]=>(seq x).map .lst
  |_=>none
 | .min =>match xs with
  |[x]=>(seq x).bind λys=>match aO ys with
   |some ns=>match ns with|[]=>none|a::r=>some (.int (iy a r))
   |none=>match x with
    | .lst zs=>(dh zs).bind λks=>match ks with|[]=>none|a::r=>some (lg (bJ.iu a r))
    |_=>none
  |_=>none
 | .sorted =>match xs with
  |[x]=>(seq x).bind λys=>(dh ys).map λks=> .lst ((bJ.aV ks).map lg)
  |_=>none
 | .all =>match xs with
  |[x]=>match x with
   | .lst ys=>(eF ys).map λbs=> .bl (bs.all id)
   |_=>none
  |_=>none
noncomputable def sC:D->Option (List D)
 | .lst ys=>(dh ys).bind λks=>if(S2.ji ks).length <=720 then some ((bJ.aV (S2.ji ks)).map lg) else none
 |_=>none
noncomputable def cz(k:Int):List Int->Option Nat
 |[]=>none
 |n::r=>if n=k then some 0 else(cz k r).map (· + 1)
noncomputable def eL(m:UJ)(o:D)(xs:List D):Option D:=
 match m,o,xs with
 | .index,.tup ys,[.int k]=>(aO ys).bind λns=>(cz k ns).map λ(i:Nat)=> .int (i:Int)
 | .qt,.lst ys,[.int k]=>(aO ys).bind λns=>(cz k ns).map λ(i:Nat)=> .int (i:Int)
 |_,_,_=>none
noncomputable def bS(lo:Int):Nat->List D
 |0=>[]
 |n+1=> .int lo::bS (lo+1) n
noncomputable def dj(xs:List D):Option (List D):=
 match xs with
 |[.int n]=>if -(2 ^ 62)<=n/\n<=bV then some (bS 0 n.toNat) else none
 |_=>none
noncomputable def aQ(k:Int):List D->List D
 |[]=>[]
 |x::r=> .tup [.int k,x]::aQ (k+1) r
noncomputable def ay(tg:Nat)(x:D):Option (List D):=
 match tg with
 |0=>some [x]
 |n+1=>match x with
  | .tup xs=>if xs.length=n+1 then some xs else none
  |_=>none
noncomputable def Ny(ρ:Env)(fr:List Nat):Env:=fr.map λi=>(ρ[i]?).join
noncomputable def UL:D->Option Bool
 | .bl b=>some b
 |_=>none
noncomputable def walk(f:D->Option (Option D)):List D->Option (List D)
 |[]=>some []
 |x::r=>match f x with
  |none=>none
  |some none=>walk f r
  |some (some y)=>(walk f r).map (y:: ·)
noncomputable def eM:D->Option Bool
 | .bl b=>some b
 |_=>none
noncomputable def DT:D->Option Int
 | .int i=>some i
 |_=>none
noncomputable def cutD(x:D)(l h:Option Int):Option D:=
 match x with
 | .lst xs=>some (.lst (sA xs l h))
 | .tup xs=>some (.tup (sA xs l h))
 |_=>none
noncomputable def qx(p:uX)(xs:List D):Option D:=
 match p with
 | .list =>some (.lst xs)
 | .tuple =>some (.tup xs)
 |_=>none
noncomputable def inner(ys:List D)(ρ:Env)(fr:List Nat):Env:=ys.map (λy=>some (false,y))++Ny ρ fr
mutual
noncomputable def ev(F:FT):Bool->E->Env->Option D
 |b,.var i,ρ=>rd b ρ i
 |_,.c d,_=>some d
 |_,.bin o a b,ρ=>(ev F true a ρ).bind λx=>(ev F true b ρ).bind λy=>bin o x y
 |_,.cmp o a b,ρ=>(ev F true a ρ).bind λx=>(ev F true b ρ).bind λy=>(cmp o x y).map .bl
 |_,.uY k es,ρ=>(j6 F k es ρ).map .bl
 |_,.not a,ρ=>((ev F false a ρ).bind eM).map λk=> .bl !k
 |_,.neg a,ρ=>((ev F false a ρ).bind DT).map λi=> .int (-i)
 |_,.Jx a,ρ=>((ev F false a ρ).bind eM).map λ_=> .bl true
 |_,.tup es,ρ=>(dI F false es ρ).bind λxs=>if xs.length<=bV then some (.tup xs) else none
 |_,.lst es,ρ=>(dI F false es ρ).bind λxs=>if xs.length<=bV then some (.lst xs) else none
 |_,.idx a i,ρ=>(ev F true a ρ).bind λx=>(ev F false i ρ).bind λk=>item x k
 |_,.sl a lo hi,ρ=>(ev F true a ρ).bind λx=>(Jy F lo ρ).bind λl=>(Jy F hi ρ).bind λh=>cutD x l h
 |_,.call f es,ρ=>(dI F true es ρ).bind λxs=>(F f xs).bind λd=>if qv ρ es&&!aI d then none else some d
 |_,.prim p es,ρ=>(dI F true es ρ).bind λxs=>prim p xs
 |_,.rM p es,ρ=>((dI F false es ρ).bind dj).bind (qx p)
 |_,.eL m o es,ρ=>(ev F true o ρ).bind λx=>(dI F true es ρ).bind λxs=>eL m x xs
 |_,.comp fr tg it ifs eE,ρ=>(mB F true it ρ).bind λxs=>if xs.length<=bV then(walk (λx=>(ay tg x).bind λys=>
   (j6 F true ifs (inner ys ρ fr)).bind λk=>if k then(ev F false eE (inner ys ρ fr)).map some else some none) xs).map .lst else none
 |_,.mr i k,ρ=>(fZ ρ i).bind λd=>((ev F false k ρ).bind (dg d.1)).bind λx=>iw d.2.1 d.2.2 x
 |_,.AZ neg k i,ρ=>((ev F false k ρ).bind λy=>(fZ ρ i).bind λd=>(dg d.1 y).map λx=> .bl (if neg then !decide (x∈d.2.1) else decide (x∈d.2.1)))
 |_,.iF i,ρ=>(fZ ρ i).bind λd=>if d.1=0 then(if d.2.1.length<64 then some (.lst ((sortI (d.2.1.map λk=>k.headD 0)).map .int)) else none)
   else if []∈d.2.1 then none else some (.lst ((bJ.aV d.2.1).map lg))
 |_,.sset a,ρ=>((ev F true a ρ).bind sC).map .lst
 |_,.nil,_=>none
 |_,.cons _ _,_=>none
 |_,.gi _,_=>none
 |_,.Ae _,_=>none
 |_,.it _,_=>none
 |_,.dk _,_=>none
 |_,.dv _,_=>none
noncomputable def dI(F:FT):Bool->E->Env->Option (List D)
 |_,.nil,_=>some []
 |b,.cons a r,ρ=>(ev F b a ρ).bind λx=>(dI F b r ρ).bind λxs=>some (x::xs)
 |_,_,_=>none
noncomputable def Jy(F:FT):E->Env->Option (Option Int)
 | .nil,_=>some none
 | .cons a _,ρ=>((ev F false a ρ).bind DT).map some
 |_,_=>none
noncomputable def j6(F:FT):Bool->E->Env->Option Bool
 |k,.nil,_=>some k
 |k,.cons a r,ρ=>((ev F false a ρ).bind eM).bind λx=>if x=k then j6 F k r ρ else some x
 |_,_,_=>none
noncomputable def mB(F:FT):Bool->E->Env->Option (List D)
 |_,.gi es,ρ=>(dI F false es ρ).bind dj
 |b,.Ae a,ρ=>(ev F b a ρ).bind λx=>(seq x).map (aQ 0)
 |b,.it a,ρ=>(ev F b a ρ).bind seq
 |_,.dk i,ρ=>keysAt ρ i
 |_,.dv i,ρ=>qw ρ i
 |_,_,_=>none
end
inductive C where
 |skip|seq (a b:C)
 |asg (i:Nat) (e:E)
  |cU (i:Nat) (e:E)
  |uZ (is:List Nat) (e:E)
 |jj (i:Nat) (ix e:E)
 |app (i:Nat) (e:E)
 |ret (e:E)
 |ifs (c:E) (t u:C)
 |while (c:E) (b:C)
  |mC (i:Nat) (b:C)
 |for (is:List Nat) (tg:Nat) (it:E) (b:C)
  |u0 (i:Nat) (t:Nat) (es:E)
  |yO (i:Nat) (k e:E)
  |pop (i j:Nat)
  |ext (i:Nat) (e:E)
  |expr (e:E)
  |raise (k:Nat)
  |fst (x:Nat) (fr:List Nat) (it k v:E) (c1:C) (y r f:Nat) (c2:C) (m:Nat) (c3:C) (p q u:E) (g:Nat) (w:E)
 deriving Inhabited
inductive kQ where
 |next (ρ:Env)|brk (ρ:Env)|cont (ρ:Env)|ret (d:D)
 deriving Inhabited
noncomputable def put(ρ:Env)(i:Nat)(o:Bool)(d:D):Env:=ρ.set i (some (o,d))
noncomputable def cc(ρ:Env):List Nat->List D->Option Env
 |[],[]=>some ρ
 |i::is,d::ds=>cc (put ρ i false d) is ds
 |_,_=>none
noncomputable def eV:Nat:=1000000
noncomputable def f7(c:Env->Option Bool)(b:Env->Option kQ):Nat->Env->Option kQ
 |0,_=>none
 |n+1,ρ=>(c ρ).bind λk=>if k then(b ρ).bind λo=>match o with
   | .next ρ'=>f7 c b n ρ'
   | .cont ρ'=>f7 c b n ρ'
   | .brk ρ'=>some (.next ρ')
   | .ret d=>some (.ret d)
  else some (.next ρ)
noncomputable def aN(b:D->Env->Option kQ):List D->Env->Option kQ
 |[],ρ=>some (.next ρ)
 |x::r,ρ=>(b x ρ).bind λo=>match o with
   | .next ρ'=>aN b r ρ'
   | .cont ρ'=>aN b r ρ'
   | .brk ρ'=>some (.next ρ')
   | .ret d=>some (.ret d)
noncomputable def fM(it:E)(ρ:Env):Env:=
 match it with
 | .it (.var i)=>match ρ[i]? with
  |some (some (true,.lst xs))=>ρ.set i (some (false,.lst xs))
  |_=>ρ
 | .Ae (.var i)=>match ρ[i]? with
  |some (some (true,.lst xs))=>ρ.set i (some (false,.lst xs))
  |_=>ρ
 |_=>ρ
noncomputable def jk(ρ:Env)(i:Nat):Option (List D):=
 match ρ[i]? with
 |some (some (true,.lst xs))=>some xs
 |_=>none
noncomputable def A1(ρ:Env)(i:Nat):Option UK:=
 match ρ[i]? with
 |some (some (true,.bI t ks vs))=>if t=2 then none else some (t,ks,vs)
 |_=>none
noncomputable def A2(T:List D)(q:Nat)(k:List Int)(v:D):Option (List D):=
 match T[q]? with
 |some (.bI 0 ks vs)=>if ks.length<bV/\k∉ks then some (T.set q (.bI 0 (ks++[k]) (vs++[v]))) else none
 |_=>none
noncomputable def u5:D:= .bI 2 [] []
noncomputable def jl(ρ:Env)(x:Nat):Bool:=
 match ρ[x]? with
 |some (some (true,.bI t [] []))=>t==2
 |_=>false
noncomputable def sD(ρ:Env):Bool:=ρ.all λo=>match o with
 |some (_,d)=>!ml d
 |none=>true
noncomputable def jm(F:FT)(x y r f:Nat)(c2:Env->Option kQ)(m:Nat)(c3:Env->Option kQ)(p q u:Env->Option D)(g:Nat)(w:Env->Option D)(T:List D)(ρ:Env)(l:List D):Option (List D×Env):=
 (l.getLast?).bind λz=>(F f [.lst T,z]).bind λd=>if aI z&&aI d then
  (c2 (put (put ρ y true (.lst l.dropLast)) r false d)).bind λo=>match o with
  | .next Nz=>if jl Nz x then(f6 Nz m).bind λms=>if ms.isEmpty then some (T,Nz) else(c3 Nz).bind λo=>match o with
   | .next Af=>if jl Af x then(u Af).bind λuv=>if aI uv then((p Af).bind DT).bind λpi=>(place T.length pi).bind λpq=>((q Af).bind (dg 0)).bind λkk=>(A2 T pq kk uv).bind λT'=>
     (w Af).bind λwv=>if aI wv then(F g [.lst T',wv]).bind λzd=>match zd with
     | .lst zs=>if a_ zs then(jk Af y).bind λws=>if ws.length+zs.length<=bV then some (T',put Af y true (.lst (ws++zs))) else none else none
     |_=>none
     else none
    else none
    else none
   |_=>none
   else none
  |_=>none
 else none
noncomputable def gv(tn:List D->Env->List D->Option (List D×Env))(y:Nat):Nat->List D->Env->Option (List D)
 |0,_,_=>none
 |n+1,T,ρ=>(jk ρ y).bind λl=>if l.isEmpty then some T else(tn T ρ l).bind λs=>gv tn y n s.1 s.2
noncomputable def sE(k v:Env->Option D)(fr:List Nat)(ρ:Env)(x:D):Option (Option D):=
 ((k (inner [x] ρ fr)).bind (dg 0)).bind λkk=>(v (inner [x] ρ fr)).bind λd=>if aI d then some (some (.bI 0 [kk] [d])) else none
noncomputable def ex(F:FT):C->Env->Option kQ
 | .skip,ρ=>some (.next ρ)
 | .seq a b,ρ=>(ex F a ρ).bind λo=>match o with
  | .next ρ'=>ex F b ρ'
  |o=>some o
 | .asg i e,ρ=>(ev F false e ρ).map λd=> .next (put ρ i false d)
 | .cU i e,ρ=>(ev F false e ρ).bind λd=>match d with
  | .lst xs=>some (.next (put ρ i true (.lst xs)))
  |_=>none
 | .uZ is e,ρ=>(ev F false e ρ).bind λd=>((ay is.length d).bind (cc ρ is)).map .next
 | .jj i ix e,ρ=>(ev F false e ρ).bind λd=>((ev F false ix ρ).bind DT).bind λk=>match ρ[i]? with
  |some (some (true,.lst xs))=>(place xs.length k).map λj=> .next (put ρ i true (.lst (xs.set j d)))
  |_=>none
 | .app i e,ρ=>(ev F false e ρ).bind λd=>match ρ[i]? with
  |some (some (true,.lst xs))=>if xs.length<bV then some (.next (put ρ i true (.lst (xs++[d])))) else none
  |_=>none
 | .ret e,ρ=>(ev F true e ρ).map .ret
 | .ifs c t u,ρ=>((ev F false c ρ).bind eM).bind λk=>if k then ex F t ρ else ex F u ρ
 | .while c b,ρ=>f7 (λρ=>(ev F false c ρ).bind eM) (ex F b) eV ρ
 | .mC i b,ρ=>f7 (λρ=>((f6 ρ i).map λxs=>D.bl !xs.isEmpty).bind eM) (ex F b) eV ρ
 | .for is tg it b,ρ=>(mB F false it (fM it ρ)).bind λxs=>aN (λx ρ=>(ay tg x).bind λys=>(cc ρ is ys).bind λρ'=>ex F b ρ') xs (fM it ρ)
 | .u0 i t es,ρ=>if t=2 then none else((dI F false es ρ).bind (A0 t)).map λd=> .next (put ρ i true d)
 | .yO i k e,ρ=>(ev F false e ρ).bind λy=>(A1 ρ i).bind λd=>((ev F false k ρ).bind (dg d.1)).bind λx=>
   if d.2.1.length<bV/\x∉d.2.1 then some (.next (put ρ i true (.bI d.1 (d.2.1++[x]) (d.2.2++[y])))) else none
 | .pop i j,ρ=>(jk ρ j).bind λl=>(l.getLast?).map λz=> .next (put (put ρ j true (.lst l.dropLast)) i false z)
 | .ext i e,ρ=>(ev F false e ρ).bind λd=>match d with
  | .lst zs=>(jk ρ i).bind λws=>if ws.length+zs.length<=bV then some (.next (put ρ i true (.lst (ws++zs)))) else none
  |_=>none
 | .expr e,ρ=>(ev F true e ρ).map λ_=> .next ρ
 | .raise _,_=>none
 | .fst x fr it k v c1 y r f c2 m c3 p q u g w,ρ=>(mB F true it ρ).bind λxs=>if xs.length<=bV/\x≠y/\x<ρ.length/\sD ρ=true then(walk (sE (ev F false k) (ev F false v) fr ρ) xs).bind λT=>
   (ex F c1 (put ρ x true u5)).bind λo=>match o with
   | .next Jz=>if jl Jz x then(gv (jm F x y r f (ex F c2) m (ex F c3) (ev F false p) (ev F false q) (ev F false u) g (ev F false w)) y eV T Jz).map λT=> .ret (.lst T) else none
   |_=>none
  else none
def WL:ev F b (.var i) ρ=rd b ρ i:=rfl
def vC:ev F m (.c d) ρ=some d:=rfl
def Sa:ev F m (.bin o a b) ρ=(ev F true a ρ).bind λx=>(ev F true b ρ).bind λy=>bin o x y:=rfl
def JA:ev F m (.cmp o a b) ρ=(ev F true a ρ).bind λx=>(ev F true b ρ).bind λy=>(cmp o x y).map .bl :=rfl
def JB:ev F m (.uY k es) ρ=(j6 F k es ρ).map .bl :=rfl
def NA:ev F m (.not a) ρ=((ev F false a ρ).bind eM).map λk=> .bl !k:=rfl
def Sb:ev F m (.eL o a es) ρ=(ev F true a ρ).bind λx=>(dI F true es ρ).bind λxs=>eL o x xs:=rfl
def JC:ev F m (.tup es) ρ=(dI F false es ρ).bind λxs=>if xs.length<=bV then some (.tup xs) else none:=rfl
def WM:ev F m (.lst es) ρ=(dI F false es ρ).bind λxs=>if xs.length<=bV then some (.lst xs) else none:=rfl
def JD:ev F m (.idx a i) ρ=(ev F true a ρ).bind λx=>(ev F false i ρ).bind λk=>item x k:=rfl
def UM:ev F m (.sl a l h) ρ=(ev F true a ρ).bind λx=>(Jy F l ρ).bind λl=>(Jy F h ρ).bind λh=>cutD x l h:=rfl
def NB:ev F m (.call f es) ρ=(dI F true es ρ).bind λxs=>(F f xs).bind λd=>if qv ρ es&&!aI d then none else some d:=rfl
def Ez:ev F m (.prim p es) ρ=(dI F true es ρ).bind λxs=>prim p xs:=rfl
def lh:dI F b (.cons a r) ρ=(ev F b a ρ).bind λx=>(dI F b r ρ).bind λxs=>some (x::xs):=rfl
def EA:j6 F k (.cons a r) ρ=((ev F false a ρ).bind eM).bind λx=>if x=k then j6 F k r ρ else some x:=rfl
def WN:mB F b (.it a) ρ=(ev F b a ρ).bind seq:=rfl
def Sd:mB F b (.gi es) ρ=(dI F false es ρ).bind dj:=rfl
def ND:ev F m (.rM p es) ρ=((dI F false es ρ).bind dj).bind (qx p):=rfl
def JE:ev F m (.comp fr tg it ifs eE) ρ=(mB F true it ρ).bind λxs=>if xs.length<=bV then(walk (λx=>(ay tg x).bind λys=>
   (j6 F true ifs (inner ys ρ fr)).bind λk=>if k then(ev F false eE (inner ys ρ fr)).map some else some none) xs).map .lst else none:=rfl
def Se:ev F m (.mr i k) ρ=(fZ ρ i).bind λd=>((ev F false k ρ).bind (dg d.1)).bind λx=>iw d.2.1 d.2.2 x:=rfl
def Sf:ev F m (.AZ n k i) ρ=((ev F false k ρ).bind λy=>(fZ ρ i).bind λd=>(dg d.1 y).map λx=> .bl (if n then !decide (x∈d.2.1) else decide (x∈d.2.1))):=rfl
def WO:ex F .skip ρ=some (.next ρ):=rfl
def u6:ex F (.seq a b) ρ=(ex F a ρ).bind λo=>match o with
  | .next ρ'=>ex F b ρ'
  |o=>some o:=rfl
def Sg:ex F (.asg i e) ρ=(ev F false e ρ).map λd=> .next (put ρ i false d):=rfl
def JF:ex F (.cU i e) ρ=(ev F false e ρ).bind λd=>match d with
  | .lst xs=>some (.next (put ρ i true (.lst xs)))
  |_=>none:=rfl
def WQ:ex F (.jj i x e) ρ=(ev F false e ρ).bind λd=>((ev F false x ρ).bind DT).bind λk=>match ρ[i]? with
  |some (some (true,.lst xs))=>(place xs.length k).map λj=> .next (put ρ i true (.lst (xs.set j d)))
  |_=>none:=rfl
def Sh:ex F (.app i e) ρ=(ev F false e ρ).bind λd=>match ρ[i]? with
  |some (some (true,.lst xs))=>if xs.length<bV then some (.next (put ρ i true (.lst (xs++[d])))) else none
  |_=>none:=rfl
def Si:ex F (.uZ is e) ρ=(ev F false e ρ).bind λd=>((ay is.length d).bind (cc ρ is)).map .next :=rfl
def Sj:ex F (.ext i e) ρ=(ev F false e ρ).bind λd=>match d with
  | .lst zs=>(jk ρ i).bind λws=>if ws.length+zs.length<=bV then some (.next (put ρ i true (.lst (ws++zs)))) else none
  |_=>none:=rfl
def JG:ex F (.ret e) ρ=(ev F true e ρ).map .ret :=rfl
def qy:ex F (.ifs c t u) ρ=((ev F false c ρ).bind eM).bind λk=>if k then ex F t ρ else ex F u ρ:=rfl
def NG:ex F (.for l g t b) ρ=(mB F false t (fM t ρ)).bind λxs=>aN (λx ρ=>(ay g x).bind λys=>(cc ρ l ys).bind λρ'=>ex F b ρ') xs (fM t ρ):=rfl
structure Fd where
 par:Nat
 j7:Nat
 body:C
 deriving Inhabited
noncomputable def av(d:Fd)(xs:List D):Env:=xs.map (λx=>some (false,x))++List.replicate (d.j7-d.par) none
noncomputable def out:Option kQ->Option D
 |some (.ret d)=>some d
 |some (.next _)=>some .cx
 |_=>none
noncomputable def run(P:List Fd):Nat->FT
 |0,_,_=>none
 |n+1,f,xs=>match P[f]? with
  |some d=>if xs.length=d.par then out (ex (run P n) d.body (av d xs)) else none
  |none=>none
end Py
namespace L2
open PySem PyProof.Rows
def sF(val:Nat->Int):∀(k:Nat),∀(ns:List Int),(∀i,i<k->ns[i]?=some (val (i+1)))->val (argBest (λi j=>decide (val i<val j)) k)=Py.iy (val 0) (ns.take k):=by
 have snoc:∀(ns:List Int) (a b:Int),Py.iy a (ns++[b])=if b<Py.iy a ns then b else Py.iy a ns:=by
  intro ns;induction ns with
  |nil=>intro a b;rfl
  |cons x ns ih=>intro a b;exact ih _ b
 intro k;induction k with
 |zero=>intro ns _;rfl
 |succ k ih=>
  intro ns h;have hk:=h k (aaN k);have NH:=ih ns λi hi=>h i (abc hi);have e:ns.take (k+1)=ns.take k++[val (k+1)]:=by
   rw[List.take_add_one,hk];rfl
  rw[e,snoc,<-NH];show val (if(decide (val (k+1)<val (argBest _ k)))=true then k+1 else argBest _ k)=_;by_cases c:val (k+1)<val (argBest (λi j=>decide (val i<val j)) k)
  .rw[ZD (decide_eq_true c),ZD c]
  .rw[ZL (by simpa using c),ZL c]
def ints_get:∀{vs:List Value}{ns:List Int},IntsAre vs ns->∀(i:Nat) (v:Value),vs[i]?=some v->∃t,v= .int (ns.getD i 0) t:=λ{vs ns} h=>by
 induction h with
 |nil=>intro i v h;simp at h
 |cons n t r ih=>
  intro i v h;cases i with
  |zero=>simp at h;subst h;exact⟨t,rfl⟩
  |succ i=>
   obtain⟨t',e⟩:=ih i v (by simpa using h);exact⟨t',by simpa using e⟩
section
variable {prog:Program}{w:World}{A:Around}{E:Value->Shared->Prop}{s:Shared}{l:Addr}
def kS(hh:A.handled=none)(hl:s.heap.IsList l vs.toArray\/IsTup s.heap l vs.toArray)(hi:IntsAre vs (n::ns))
  (h:∀h' tk t,ab2->Q (.int (Py.iy n ns) t) {s with heap:=h',toks:=tk}):wpAny aa3 A (call (.builtin "min") [.ref l]) Q E s:=by
 have len:=hi.length;have u7:∀(i:Nat) (v:Value),vs.toArray[i]?=some v->∃t,v=Value.int ((n::ns).getD i 0) t:=λi v e=>ints_get hi i v (by simpa using e);have best:(n::ns).getD (argBest (λi j=>decide ((n::ns).getD i 0<(n::ns).getD j 0)) ns.length) 0=Py.iy n ns:=by
  have:=sF (λi=>(n::ns).getD i 0) ns.length ns (λi hi=>by simp[hi]);simpa using this
 have fin:∀(v:Value) (h':Heap) (tk:Nat),vs.toArray[argBest (λi j=>decide ((n::ns).getD i 0<(n::ns).getD j 0)) (vs.toArray.size-1)]?=some v->ab2->Q v {s with heap:=h',toks:=tk}:=λv h' tk hP hk=>by
  have e:vs.toArray.size-1=ns.length:=by rw[ZA,len];simp
  rw[e]at hP;obtain⟨t,rfl⟩:=u7 _ v hP;rw[best];exact h h' tk t hk
 have pos:0<vs.toArray.size:=by rw[ZA,len];simp
 rcases hl with hl|hl
 .have aU:l<s.heap.objs.size:=by obtain⟨_,e,_⟩:=hl;exact ZG e
  refine call_min_walk (abS hl ?_);refine⟨_,[_,l],[_],_,_,_,_,rfl,afq (A:=A.in1) hh s.heap.objs.size l (ZT aU) vs.toArray,⟨⟨_,ZF _ rfl,rfl,rfl⟩,hl.push _⟩,λb hb=>?_,pos,CmpOf.ints_lt (λi=>(n::ns).getD i 0) u7,λv h' tk hP hk=>fin v h' tk hP λb o e=>hk b o ?_ (Zi _ e)⟩
  .show b<(s.heap.push _).objs.size;rw[abf];rcases ZC.mp hb with rfl|hb
   .exact aaN _
   .rw[Zp.mp hb];exact abc aU
  .intro hm;rw[Zp.mp hm]at e;exact absurd (ZG e) (aam _)
 .have qd:s.heap.IsTuple l vs.toArray:=hl;have aU:l<s.heap.objs.size:=by obtain⟨_,e,_⟩:=hl;exact ZG e
  refine call_min_walk (aci qd ?_);refine⟨_,[_,l],[_],_,_,_,_,rfl,Walks.tuple (A:=A.in1) hh s.heap.objs.size l (ZT aU) vs.toArray,⟨⟨_,ZF _ rfl,rfl,rfl⟩,qd.push _⟩,λb hb=>?_,pos,CmpOf.ints_lt (λi=>(n::ns).getD i 0) u7,λv h' tk hP hk=>fin v h' tk hP λb o e=>hk b o ?_ (Zi _ e)⟩
  .show b<(s.heap.push _).objs.size;rw[abf];rcases ZC.mp hb with rfl|hb
   .exact aaN _
   .rw[Zp.mp hb];exact abc aU
  .intro hm;rw[Zp.mp hm]at e;exact absurd (ZG e) (aam _)
end
open PySem.Spec
open AutoSeq1 (wpAny_loadPart')
noncomputable abbrev sG(l:Addr):Obj:={cls:= .type "tuple_iterator",data:= .fields #[.ref l,.int 0 0]}
noncomputable abbrev JH(it:Addr):Obj:={cls:= .type "enumerate",data:= .fields #[.none,.bool false,.ref it,rawInt 0,.none,.none]}
def sH(l:Addr)(items:Array Value)(n:Nat)(NI:Option Addr)(sl:Array (Option Value)):
  Meets (Builtin.«enumerate.__new__» ⟨[.type "enumerate",.ref l],[]⟩) (λ_ R s=>s.heap.get? l=some {cls:= .type "tuple",dict:=NI,data:= .seq items n,slots:=sl}/\
   R (.ok (.ret (.ref (s.heap.push (sG l)).objs.size))) {s with heap:=(s.heap.push (sG l)).push (JH s.heap.objs.size)}):=
 .of_wp λprog w A R s h=>by
  obtain⟨hp,g,d,tk,os⟩:=s;obtain⟨hl,h⟩:=h;have sb:=sub_enumerate;have hL:Heap.IsTuple (Shared.heap ⟨hp,g,d,tk,os⟩) l items:=⟨_,hl,rfl,n,rfl⟩;wp_walk using abF hl;refine wpAny_stack_any λst=>Zq ?_;split
  .rename_i c _ _ _ _ _;cases (c==Value.type "enumerate")
   .wp_walk using abF hl,aci hL;exact⟨_,rfl,h⟩
   .wp_walk using abF hl,aci hL;exact⟨_,rfl,h⟩
  .wp_walk using abF hl,aci hL;exact⟨_,rfl,h⟩
section
variable {prog:Program}{w:World}{A:Around}{E:Value->Shared->Prop}{s:Shared}
def u9(hL:s.heap.IsTuple l items)
  (h:∀h',IsEnum h' (s.heap.objs.size+1) s.heap.objs.size 0 .none ->h'.IsTupleIter s.heap.objs.size l 0->h'.objs.size=s.heap.objs.size+2->
   ab2->Q (.ref (s.heap.objs.size+1)) {s with heap:=h'}):
  wpAny aa3 A (call (.type "enumerate") [.ref l]) Q E s:=by
 obtain⟨⟨c,NI,dt,sl⟩,hl,hc,n,hd⟩:=hL;have kM:c= .type "tuple":=hc;have lu:dt= .seq items n:=hd;subst kM lu;refine callType_new F.called_enumerate aa1 (F.typeCall_enumerate_1 _) (F.newCall_enumerate_1 _) (λobj=>F.args_object_init_2 obj _) F.entry_enumerate_new (sH l items n NI sl) ⟨hl,?_⟩;have hz:(s.heap.push (sG l)).objs.size =s.heap.objs.size+1:=abf ..;have he:IsEnum ((s.heap.push (sG l)).push (JH s.heap.objs.size)) (s.heap.objs.size+1) s.heap.objs.size 0 .none :=by
  have q:=ZF (s.heap.push (sG l)) (o:=JH s.heap.objs.size) rfl;rw[hz]at q;exact q
 show _/\_;rw[hz];exact⟨⟨_,he,rfl⟩,h _ he ⟨_,Zi _ (ZF _ rfl),rfl,rfl⟩ (by rw[abf,hz]) λb o x=>Zi _ (Zi _ x)⟩
def sJ(sL:s.heap.IsTupleIter it l i)(hl:s.heap.IsTuple l items)(hx:items[i]?=some x)
  (hQ:∀h',h'.IsTupleIter it l (i+1)->Heap.SameBut it s.heap h'->Q x {s with heap:=h'}):wpAny aa3 A (Builtin.SmallTypes.nextOf (.ref it)) Q E s:=by
 refine bO (id sL) λo ho hc hd=>?_;obtain⟨ol,Me,_,nl,Mf⟩:=hl;unfold Builtin.SmallTypes.nextOf;refine Zh (aaR (name:=Str.ofString "__next__") sL.typeIs abI (aaw abI sL.typeIs adI ?_ (adF _)));show wpAny _ _ (field (.ref it) 0 >>= _) _ _ s;refine Zh (adh ho hd (x:= .ref l) rfl ?_)
 first
  |(show wpAny _ _ (if(Value.ref l==Value.none)=true then _ else _) _ _ s;rw[ZL (show¬((Value.ref l==Value.none)=true) from Zl)])
  |skip
 show wpAny _ _ (field (.ref it) 1 >>= _) _ _ s;refine Zh (adh ho hd (x:= .int i 0) rfl ?_);show wpAny _ _ (seqItems? (.ref l) >>= _) _ _ s;refine Zh (acd Me Mf ?_);simp only[aaE,hx];refine Zh (abN ho hd aa9 (Zq ⟨x,rfl,Zq (hQ _ ⟨_,aaJ _ ho (acp (abg hd _)),(adi ..).trans hc,?_⟩ (aaK ..))⟩));rw[abg hd];simp[rawInt]
def sM(hh:A.handled=none)(sL:s.heap.IsTupleIter it l i)(hl:s.heap.IsTuple l items)(hx:items[i]?=none)
  (hE:∀h' e,Heap.ExtBut it s.heap h'->(∃o,h'.get? e=some o/\o.cls= .type "StopIteration")->E (.ref e) {s with heap:=h'}):wpAny aa3 A (Builtin.SmallTypes.nextOf (.ref it)) Q E s:=by
 refine bO (id sL) λo ho hc hd=>?_;obtain⟨ol,Me,_,nl,Mf⟩:=hl;unfold Builtin.SmallTypes.nextOf;refine Zh (aaR (name:=Str.ofString "__next__") sL.typeIs abI (aaw abI sL.typeIs adI ?_ (adF _)));show wpAny _ _ (field (.ref it) 0 >>= _) _ _ s;refine Zh (adh ho hd (x:= .ref l) rfl ?_)
 first
  |(show wpAny _ _ (if(Value.ref l==Value.none)=true then _ else _) _ _ s;rw[ZL (show¬((Value.ref l==Value.none)=true) from Zl)])
  |skip
 show wpAny _ _ (field (.ref it) 1 >>= _) _ _ s;refine Zh (adh ho hd (x:= .int i 0) rfl ?_);show wpAny _ _ (seqItems? (.ref l) >>= _) _ _ s;refine Zh (acd Me Mf ?_);simp only[aaE,hx]
 first
  |refine Zh (acL (Zh (abN ho hd aa9 ?_)))
  |refine Zh (acL (Zh (abN ho hd aa9 (Zh (aes ?_)))))
 show wpAny _ _ (newExc (.type "StopIteration") [] >>= _) _ _ _;refine Zh ?_;simp only[newExc,newTuple];refine Zh (aaj ?_ (by size_fits));refine Zh (m:=firstArgMember _ _) (aet (a:=Value.none) (by first|rfl|(simp only[firstArgMember];rfl)) ?_);refine aaj ?_ (by size_fits);simp only[raiseNew];refine Zh (wpAny_handled ?_)
 first|rw[show A.in1.handled=none from hh]|rw[hh]
 exact Zh (Zq (wpAny_throw (hE _ _ (((aaK ..).extBut.push _).push _) ⟨_,ZF _ rfl,rfl⟩)))
end
def yP(hh:A.handled=none)(it l:Addr)(d_:l≠it)(items:Array Value):
  Draws prog w A it [it,l] items.size (λi v=>items[i]?=some v) (λi h=>h.IsTupleIter it l i/\h.IsTuple l items) where
 live:=λ_ _ st=>let ⟨o,ho,_⟩:=st.1;⟨o,ho⟩
 frame:=λ_ _ _ st hk=>⟨st.1.at λo e=>hk it aa9 o e,st.2.at λo e=>hk l aa9 o e⟩
 item:=λi s Q E hi st hQ=>sJ st.1 st.2 (x:=items[i]) (by simp[hi]) λh' Sl uB=>hQ _ h' s.toks (by simp[hi]) ⟨Sl,st.2.extBut uB.extBut d_⟩ uB
 done:=λs Q E st hE=>sM hh st.1 st.2 aa9 hE
section
variable {X:Cx}{U:List ab0}{σ:List (Option V)}{H H':Hp}{s:Shared}{h':Heap}
def Inv.wk{ch:List Addr}(I:aa5)(k:∀b o,b∉ch->s.heap.get? b=some o->h'.get? b=some o)(hf:∀b∈ch,k9 X U H b):Inv X U σ H {s with heap:=h',toks:=t'}:=by
 have MN:∀b u,H b=some u->b∉ch:=λb u e z=>by rw[(hf b z).1]at e;cases e
 refine I.step (g':=s.gens) (d':=s.drawn) (ch:=ch) (λb hb=>?_) (λb o _ _ hc e _=>k b o hc e) (λb o _ _ hc e _=>⟨o.slots,k b o hc e⟩) (λ_ _ _ _ n=>n)
  (λb o hc e=>⟨o,k b o hc e⟩) (λ_ _ e=>e) (λ_ _ _ e=>e) (λb ps e=>⟨#[],by rw[e];simp⟩) (λm hm=>?_) (λb u e=>?_) I.bare
 .exact vS (hf b hb) λ_ f1 _ f3 f4 f5=>⟨f3,f1,f4,f5⟩
 .exact kL hm λo es ep ho r=>⟨o,es,ep,k _ o (λz=>(hf _ z).2.1 rfl) ho,r⟩
 .refine(I.aX b u e).om (λc v hc q=>k c v ?_ q) (λ_ q=>q) λ_ _ q=>q;rcases hc with z|z
  .rw[z];exact MN b u e
  .exact MN c _ z
end
structure JI(K:aH)(a it:Addr)(Sq:Hp->List V->Prop)(Qz:Heap->Array Value->Prop)(Mg:Nat->Heap->Prop):Prop where
 get:∀{X:Cx}{U:List ab0}{σ:St}{H:Hp}{s:Shared}{xs:List V},X.K=K->Inv X U σ H s->Sq H xs->∃its:List Value,aF xs its/\Qz s.heap its.toArray
 inj:∀{X:Cx}{U:List ab0}{σ:St}{H:Hp}{s:Shared}{xs ys:List V},X.K=K->Inv X U σ H s->Sq H xs->Sq H ys->xs=ys
 dr:∀(prog:Program) (w:World) (A:Around) (items:Array Value),A.handled=none->Draws prog w A it [it,a] items.size (λi v=>items[i]?=some v) (λi h=>Mg i h/\Qz h items)
 obj:∀{i:Nat}{h:Heap},Mg i h->∃o,h.get? it=some o/\∀v,o.data≠ .cell v
 at':∀{i:Nat}{h h':Heap},Mg i h->(∀o,h.get? it=some o->h'.get? it=some o)->Mg i h'
 ne:∀{h:Heap}{e:Addr}{i:Int}{old:Value}{items:Array Value},IsEnum h e it i old->Qz h items->e≠a
noncomputable def QA(Sq:Hp->List V->Prop):It:=
 ⟨λi H=>∃xs x,Sq H xs/\xs[i]?=some x,λi H x H'=>∃(t:Addr) (y:V),H t=none/\x= .ref t/\H'=upd H t (.tup [.int i,y])/\∀xs,Sq H xs->xs[i]?=some y,λi H=>∃xs,Sq H xs/\xs.length=i⟩
def pv{w:World}{K:aH}(S:JI K a it Sq Qz Mg)(d_:e≠it):
  r0 P w K (.Tuple elts k0 tpos) (QA Sq) [e,it] e (λi h=>(∃old,IsEnum h e it i old)/\Mg i h) where
 mem:=by simp
 obj:=λi h st b hb=>by
  obtain⟨⟨old,he⟩,hi⟩:=st;rcases ZC.mp hb with rfl|hb
  .exact⟨_,he,λv z=>by cases z⟩
  .rw[Zp.mp hb];exact S.obj hi
 keep:=λi h h' st k=>⟨let ⟨old,he⟩:=st.1;⟨old,k e aa9 _ he⟩,S.at' st.2 λo z=>k it aa9 o z⟩
 item:=by
  intro X hP hw hK hc i U s σ H E I hf st hg;subst hP hw hK;obtain⟨⟨old,he⟩,hi⟩:=st;refine eC hg λxs x hq hx=>aa (S.get rfl I hq) λits rv hX=>aa (rv.get hx) λu hu ru=>?_;have aU:i<its.toArray.size:=by
   have:=(ZJ.mp hu).1;simpa using this
  have WR:e∉[it,a]:=λz=>by
   rcases ZC.mp z with z|z
   .exact d_ z
   .exact S.ne he hX (Zp.mp z)
  refine wpAny_pyNext_enum_itemD (S.dr X.prog X.w X.A.in1 its.toArray (I.ok.hd hc)) he ⟨hi,hX⟩ aU d_ WR λv h' tk hP G0 ot hT hsz hk=>?_;have hP:its.toArray[i]?=some v:=hP;have ev:v=u:=by
   have q:its[i]?=some v:=by simpa using hP
   rw[hu]at q;exact(ZU q).symm
  subst ev;refine⟨_,rfl,wpAny_letOwnedTupleGo_enum G0 λQB Sn EB=>?_⟩;have EB:Heap.SameBut e h' QB:=EB;have WS:e<s.heap.objs.size:=ZG he;have ltI:it<s.heap.objs.size:=by obtain⟨o,ho,_⟩:=S.obj hi;exact ZG ho
  have I1:Inv X U σ (upd H s.heap.objs.size (.tup [.int i,x])) {s with heap:=s.heap.push {cls:= .type "tuple",data:= .seq #[.int i tk,v]}}:=
   I.laid (t':=s.toks) (λb o z=>Zi _ z) (Zu _) ⟨by show 2<=sizeLine;decide,[.int i tk,v],.cons ⟨_,rfl⟩ (.cons ru .nil),i7.new s.heap _⟩
  have WT:H s.heap.objs.size=none:=I.aX.fresh (Zu _);have NJ:∀b∈[e,it],(upd H s.heap.objs.size (.tup [.int i,x])) b=none:=λb hb=>by
   have ja:b≠s.heap.objs.size:=by
    rcases ZC.mp hb with rfl|hb
    .exact ZT WS
    .rw[Zp.mp hb];exact ZT ltI
   rw[ai ja];exact(hf b hb).1
  have I2:Inv X U σ (upd H s.heap.objs.size (.tup [.int i,x])) {s with heap:=QB,toks:=tk+1}:=by
   have key:∀b o,b∉[e,it]->(s.heap.push {cls:= .type "tuple",data:= .seq #[.int i tk,v]}).get? b=some o->QB.get? b=some o:=λb o hb z=>by
    have DM:b≠e:=λq=>hb (by simp[q]);have UN:b≠it:=λq=>hb (by simp[q]);refine(EB.2 b DM).trans ?_;rcases Heap.get?_push_cases z with⟨rfl,rfl⟩|z
    .exact hT
    .exact hk b o DM UN z
   have J:=I1.wk (h':=QB) (t':=tk+1) (ch:=[e,it]) key λb hb=>⟨NJ b hb,(hf b hb).2⟩;exact J
  refine⟨.ref s.heap.objs.size,_,I2,rfl,⟨s.heap.objs.size,x,WT,rfl,rfl,λys hy=>by rw[S.inj rfl I hy hq];exact hx⟩,⟨⟨v,?_⟩,S.at' ot.1 λo z=>(EB.2 it (aay d_)).trans z⟩,NJ⟩;have:((i+1:Nat):Int)=(i:Int)+1:=by push_cast;rfl
  rw[this];exact Sn
 done:=by
  intro X hP hw hK hc i U s σ H E I hf st hg;subst hP hw hK;obtain⟨⟨old,he⟩,hi⟩:=st;refine aa hg λxs hq af=>?_
  try clear hg
  subst af;refine aa (S.get rfl I hq) λits rv hX=>?_;have hl:xs.length=its.toArray.size:=by rw[ZA];exact rv.length
  rw[hl]at hi he;refine wpAny_pyNext_enum_endD (S.dr X.prog X.w X.A.in1 its.toArray (I.ok.hd hc)) he ⟨hi,hX⟩ λh' hx=>⟨rfl,?_⟩;exact I.wk (t':=s.toks) (ch:=[e,it]) (λb o hb z=>hx b o (λq=>hb (by simp[q])) z) hf
 self:=λ_ _ _ _ _ st h=>let ⟨⟨_,he⟩,_⟩:=st;aed he h
def A3{K:aH}(h:a≠it):JI K a it (λH xs=>cT K H a xs) (λh xs=>h.IsTuple a xs) (λi h=>h.IsTupleIter it a i) where
 get:=λhK I q=>by subst hK;obtain⟨its,r,t,_⟩:=I.tuple q;exact⟨its,r,t⟩
 inj:=λhK I q q'=>by subst hK;exact I.oU q q'
 dr:=λprog w A items hh=>yP hh it a h items
 obj:=λzz=>bO zz λo e c d=>⟨o,e,λv z=>by rw[d]at z;cases z⟩
 at':=λst k=>st.at k
 ne:=λhe ⟨o,e,c,_⟩ z=>by subst z;rw[he]at e;cases e;injection c with c;exact absurd c aa1
def A4{K:aH}(h:a≠it):JI K a it (λH xs=>cZ K H a xs) (λh xs=>h.IsList a xs) (λi h=>h.IsListIter it a i) where
 get:=λhK I q=>by subst hK;obtain⟨its,r,t,_⟩:=I.list q;exact⟨its,r,t.isList⟩
 inj:=λhK I q q'=>by subst hK;exact I.rX q q'
 dr:=λprog w A items hh=>Draws.list hh it a h items
 obj:=λzz=>bO zz λo e c d=>⟨o,e,λv z=>by rw[d]at z;cases z⟩
 at':=λst k=>st.at k
 ne:=λhe ⟨o,e,c,_⟩ z=>by subst z;rw[he]at e;cases e;injection c with c;exact absurd c aa1
def Sr(K:aH)(ta:TA):TI:=λσ H R=>ta σ H λvs H1=>∃a xs,vs=[.ref a]/\((cT K H1 a xs/\R (QA λH ys=>cT K H a ys) H1)\/(cZ K H1 a xs/\R (QA λH ys=>cZ K H a ys) H1))
def EC{X:Cx}{ta:TA}(hg:Gl X "enumerate")(hm:X.mg "enumerate"=none)(ha:PA X [a] ta)(hs:starEach [a] X.env=[(false,eval a X.env)]:=by rfl):
  PI X (.Tuple elts k0 tpos) (.Call (.Name "enumerate" p) [a] [] pos) (Sr X.K ta):=by
 intro U s σ H R I h;refine Call_ (jX I hg hm PyProof.Rows.boot_enumerate (abE (bH (ha pos U s σ H _ I h) λus s1 zz=>bu zz λvs H1 I1 r1 q1=>?_) hs rfl));refine eC q1 λb xs af q=>?_
 try clear q1
 subst af;cases r1 with
 |cons r rr=>
  cases rr;cases r;have fin:∀(h':Heap),h'.objs.size=s1.heap.objs.size+2->(∀b o,s1.heap.get? b=some o->h'.get? b=some o)->Inv X U σ H1 {s1 with heap:=h'}/\∀c∈[s1.heap.objs.size+1,s1.heap.objs.size],k9 X U H1 c:=λh' _ hk=>by
   refine⟨I1.kept (t':=s1.toks) hk,λc hc=>?_⟩;have u_:s1.heap.objs.size<=c:=by
    rcases ZC.mp hc with rfl|hc
    .exact Nat.le_succ _
    .rw[Zp.mp hc];exact Zu _
   exact I1.yA u_ (I1.aX.fresh u_)
  rcases q with⟨hq,hR⟩|⟨hq,hR⟩
  .refine bO (I1.tuple hq) λits rv t _=>?_;have ht:s1.heap.IsTuple b its.toArray:=t;have hb:b≠s1.heap.objs.size:=by obtain⟨o,e,_⟩:=ht;exact ZT (ZG e)
   refine u9 ht λh' he sL hsz hk=>?_;obtain⟨J1,J2⟩:=fin h' hsz hk;exact aed he ⟨s1.heap.objs.size+1,[s1.heap.objs.size+1,s1.heap.objs.size],_,_,H1,rfl,J1,pv (A3 hb) (Nat.succ_ne_self _),⟨⟨_,he⟩,sL⟩,J2,hR⟩
  .refine bO (I1.list hq) λits rv t _=>?_;have ht:s1.heap.IsList b its.toArray:=t.isList;have hb:b≠s1.heap.objs.size:=by obtain⟨o,e,_⟩:=ht;exact ZT (ZG e)
   refine call_enumerate_list ht λh' he sL hsz hk=>?_;obtain⟨J1,J2⟩:=fin h' hsz hk;exact aed he ⟨s1.heap.objs.size+1,[s1.heap.objs.size+1,s1.heap.objs.size],_,_,H1,rfl,J1,pv (A4 hb) (Nat.succ_ne_self _),⟨⟨_,he⟩,sL⟩,J2,hR⟩
section
variable {prog:Program}{w:World}{A:Around}{E:Value->Shared->Prop}{s:Shared}
theorem sN(d_:t≠it):∀(n i:Nat) (s:Shared) (Q:List Value->Shared->Prop),s.heap.IsListIter it t i->s.heap.IsList t items->i+n<=items.size->
  (∀h',h'.IsListIter it t (i+n)->Heap.SameBut it s.heap h'->Q ((items.toList.drop i).take n) {s with heap:=h'})->wpAny aa3 A (draw (.ref it) n) Q E s
 |0,i,s,Q,sL,_,_,hQ=>Zq (by simpa using hQ s.heap sL (Heap.SameBut.refl ..))
 |n+1,i,s,Q,sL,ht,u_,hQ=>by
  have aU:i<items.size:=(Z4 (aai _ _) u_);show wpAny _ _ (pyNext (.ref it) >>= _) Q E s;refine Zh (wpAny_pyNext_list_item sL ht (x:=items[i]) (by simp[aU]) λh1 JJ Mi=>?_);refine Zh (aan (sN d_ n (i+1) _ _ JJ (ht.extBut Mi.extBut d_) (MF (Z_ _ _ _) u_) λh2 Ss Su=>Zq ?_));have hd:items.toList.drop i=items[i]::items.toList.drop (i+1):=by simp[aaz,aU]
  have q:=hQ h2 (by rw[show i+(n+1)=i+1+n by exact aad (Z_ _ _ _)];exact Ss) (Mi.trans Su);rw[hd,List.take_succ_cons]at q;exact q
def lj(hh:A.handled=none)(ht:s.heap.IsList t items)
  (hQ:∀h',Heap.ExtBut s.heap.objs.size s.heap h'->Q items.toList {s with heap:=h'}):wpAny aa3 A (unpackItems (.ref t) items.size none) Q E s:=by
 have aU:t≠s.heap.objs.size:=by obtain⟨o,ho,_⟩:=ht;exact ZT (ZG ho)
 have push:∀o,(s.heap.push o).IsList t items:=λo=>by obtain⟨ol,e,r⟩:=ht;exact⟨ol,Zi _ e,r⟩
 unfold unpackItems;refine Zh ?_;unfold notIterableAtAll;refine Zh (adJ ht.typeIs F.slot_list_iter.lookup (Zq ?_));simp only[aaV,if_false];refine Zh (aan (abS ht ?_));refine Zh (aan (sN aU items.size 0 _ _ ⟨_,ZF _ rfl,rfl,rfl⟩ (push _) (Zy (aav _)) λh1 JJ Mi=>?_));have j4:List.take items.size (List.drop 0 items.toList)=items.toList:=by
  rw[ace];exact aau aa9
 rw[j4,ZL aa9];have Sv:h1.IsList t items:=(push _).extBut Mi.extBut aU;refine Zh (aan (wpAny_pyNext_list_end hh JJ Sv aa9 λh2 UO=>?_));simp only[Option.isSome_none,aaV,if_false];exact Zq (hQ h2 λb o hb e=>UO b o hb (Mi.extBut b o hb (Zi _ e)))
def va(hh:A.handled=none)(ht:s.heap.IsList t items)
  (hn:(assignEach elts env).length =items.size) (NK:(assignEach elts env).findIdx? (·.1)=none)
  (h:∀h',Heap.ExtBut s.heap.objs.size s.heap h'->wpAny aa3 A (assignInOrder ((assignEach elts env).map (·.2)) items.toList) Q E {s with heap:=h'}):
  wpAny aa3 A (assign (.Tuple elts x1 pos) env (.ref t)) Q E s:=by
 rw[PyProof.Rows.assign_Tuple];refine Zh (aeq ?_);unfold unpack;rw[hn,NK];exact Zh (aan (lj hh ht h))
end
def NL(K:aH)(n:Nat)(t:IP):TG:=λv σ H Q=>∃a xs,v= .ref a/\(cZ K H a xs\/cT K H a xs)/\xs.length=n/\t xs σ H Q
def A5(hc:X.calm=true)(h:Ma X es t)
  (hn:(assignEach es X.env).length =n:=by rfl) (ot:(assignEach es X.env).findIdx? (·.1)=none:=by rfl):PG X (.Tuple es k pos) (NL X.K n t):=by
 intro U s σ H v u Q I r hw;obtain⟨a,xs,e1,hq,hl,hw⟩:=hw;subst e1;cases r;rcases hq with hq|hq
 .obtain⟨its,rv,ht,hz⟩:=I.list hq;refine va (I.ok.hd hc) ht.isList (by simp[hn,<-hl,rv.length]) ot λh' hx=>?_;have I1:Inv X U σ H {s with heap:=h'}:=I.kept (t':=s.toks) λb o e=>hx b o (ZT (ZG e)) e;exact h U _ σ H xs _ Q I1 (by simpa using rv) hw
 .exact IS hc h hn ot U s σ H (.ref a) (.ref a) Q I rfl ⟨a,xs,rfl,hq,hl,hw⟩
open AutoSeq1 (wpAny_loadPart')
noncomputable abbrev qz(items:Array Value)(x:Value)(i:Nat)(_:Option PySem.Fin×Unit):Sem (ForInStep (Option PySem.Fin×Unit)):=
 match items[i]? with
 |some y=>do
  let c<-eqBool y x
  if c=true then do
   let r<-retInt (i:Int)
   pure (ForInStep.done (some r,()))
  else pure (ForInStep.yield (none,()))
 |_=>pure (ForInStep.yield (none,()))
section
variable {prog:Program}{w:World}{A:Around}{E:Value->Shared->Prop}
theorem sO(hi:IntsAre items.toList ns)(hj:ns[j]?=some k)(uA:∀m,m<j->ns[m]?≠some k):
  ∀(m i:Nat) (s:Shared) (Q:Option PySem.Fin×Unit->Shared->Prop),i<=j->j<i+m->i+m<=items.size->Q (some (.done (.ret (.int j s.toks))),()) {s with toks:=s.toks+1}->
   wpAny aa3 A (forIn (List.range' i m) ((none,()):Option PySem.Fin×Unit) (qz items (.int k t))) Q E s
 |0,i,s,Q,h1,h2,_,_=>absurd h2 (abJ h1)
 |m+1,i,s,Q,h1,h2,h3,h=>by
  have aU:i<items.size:=(Z4 (aai _ _) h3);have hl:ns.length=items.toList.length:=hi.length.symm;obtain⟨ti,ei⟩:=ints_get hi i items[i] (by simp[aU]);have hn:ns[i]?=some (ns.getD i 0):=by
   rw[Zx,Zj (by rw[hl];simpa using aU)];rfl
  rw[adA,abR];unfold qz;rw[ZK aU];show wpAny _ _ ((eqBool items[i] (.int k t) >>= _) >>= _) _ _ s;rw[ei];refine Zh (Zh (ady ?_));by_cases A6:i=j
  .subst A6;rw[hj]at hn;have e:ns.getD i 0=k:=(ZU hn).symm;rw[e,beq_self_eq_true,ZD rfl];refine Zh ?_;unfold retInt ret;refine Zh (wpAny_mkInt (Zq (Zq (Zq h))))
  .have e:(ns.getD i 0==k)=false:=by
    rw[beq_eq_false_iff_ne];exact λz=>uA i (abu h1 A6) (by rw[hn,z])
   rw[e,ZL Zl];exact Zq (sO hi hj uA m (i+1) s Q (abu h1 A6) (DL (Z_ _ _ _) h2) (MF (Z_ _ _ _) h3) h)
end
def yQ(l:Addr)(items:Array Value)(n:Nat)(dd:Option Addr)(sl:Array (Option Value))(hi:IntsAre items.toList ns){j:Nat}(hj:ns[j]?=some k)(uA:∀m,m<j->ns[m]?≠some k):
  Meets (Builtin.«tuple.index» ⟨[.ref l,.int k t],[]⟩)
   (λA R s=>s.heap.get? l=some {cls:= .type "tuple",dict:=dd,data:= .seq items n,slots:=sl}/\R (.ok (.ret (.int j s.toks))) {s with toks:=s.toks+1}):=by
 intro prog w A R s h;obtain⟨hp,g,d,tk,os⟩:=s;obtain⟨hl,h⟩:=h;unfold Builtin.«tuple.index»;simp only[Std.Legacy.Range.forIn_eq_forIn_range'];wp_walk using abF hl;have QC:j<items.size:=by
  have q:=(ZJ.mp hj).1;have:=hi.length;simp at this;exact Zn q (Zy (aad this))
 have WU:(([:min items.size items.size]:Std.Legacy.Range)).size =items.size:=by simp[Std.Legacy.Range.size]
 rw[WU];show wpAny _ _ (forIn (List.range' 0 items.size) ((none,()):Option PySem.Fin×Unit) (qz items (.int k t))) _ _ _;exact sO hi hj uA items.size 0 _ _ (aak _) (Nat.lt_add_left _ QC) (Zy (aav _))<|Zq h
def JK(K:aH):V->List V->Hp->VK->Prop:=λx vs H Q=>∃(l:Addr) (ns:List Int) (k:Int) (j:Nat),x= .ref l/\vs=[.int k]/\cT K H l (ns.map V.int)/\ns[j]?=some k/\(∀m,m<j->ns[m]?≠some k)/\Q (.int (j:Nat)) H
def A7:Nj X "tuple.index" (JK X.K):=by
 intro U s σ H x vs v us Q I rx rv h;refine D3 h λl ns k j af aK hq hj uA q=>?_
 try clear h
 subst af;subst aK;cases rx;obtain⟨u,rfl,t,rfl⟩:=vals1 rv;obtain⟨its,r,⟨⟨c,dd,dt,sl⟩,ho,hc,n,hd⟩,hz⟩:=I.tuple hq;have kM:c= .type "tuple":=hc;have lu:dt= .seq its.toArray n:=hd;subst kM lu;have hi:IntsAre its.toArray.toList ns:=by simpa using intsAre_of r
 exact call_meets aee ⟨_,ho,rfl⟩ PySem.F.entry_tuple_index (PySem.F.args_tuple_index_2 _ _) (yQ l its.toArray n dd sl hi hj uA) ⟨ho,.int j,H,I.tok _,⟨_,rfl⟩,q⟩
def WV(K:aH)(r:V->List V->Hp->VK->Prop)(to:TE)(t:TA):TE:=λσ H Q=>to σ H λx H1=>(∃a xs,x= .ref a/\cT K H1 a xs)/\t σ H1 λxs H2=>r x xs H2 Q
def NM{id:String}(pa:PlainAttrs "tuple")(slot:Slot "tuple" name id)(Nl:typeOf (.builtin id)=pure (.type "method_descriptor"))(hm:Nj X id r)(ho:PE X o to)(ha:PA X (e::es) t)
  (je:attributeBase o name X.env (eval o X.env)=eval o X.env)
  (Jn:((backTo gn (starEach (e::es) X.env)).all (λx=>!x.1)&&(backToKw gn (keywordEach [] X.env)).all (λx=>x.1.isSome)
   && decide ((e::es).length+([]:List Keyword).length+(if([]:List Keyword).isEmpty then 0 else 1)<30))=true)
  (jf:(qh.endLine==gn.line)=true) (hs:starEach (e::es) X.env=(false,eval e X.env)::starEach es X.env) (uT:(backTo gn (starEach es X.env)).any (·.1)=false):
  PE X (.Call (.Attribute o name qh) (e::es) [] gn) (WV X.K r to t):=by
 intro U s σ H Q I h;refine wpAny_Call_method_late je Jn jf rfl (bH (ho U s σ H _ I h) λv s1 zz=>?_);refine gQ zz λx H1 I1 r1 ty q1=>eC ty λa xs af hq=>?_
 try clear ty
 subst af;cases r1;obtain⟨its,rv,⟨ob,e1,e2,_,e4⟩,_⟩:=I1.IM hq;refine⟨"tuple",id,pa,slot,Nl,⟨ob,e1,e2⟩,λb z=>by cases z;exact⟨ob,e1,e4⟩,?_⟩;have hA:=ha gn U s1 σ H1 _ I1 q1;rw[hs]at hA⊢;refine acf (by show(false||(backTo gn (starEach es X.env)).any (·.1))=false;rw[uT]<;>rfl) (Calls.evalArgs_plain ?_);exact bH hA λus s2 zz=>bu zz λvs H2 I2 WW q2=>hm U s2 σ H2 (.ref a) vs (.ref a) us Q I2 rfl WW q2
def ED(a b:Int)(t u:Tok):MeetsSeq.EqGives (.int a t) (.int b u) (a==b):=λ_ _ _ _ _ _ h=>ady h
noncomputable def NN(K:aH):V->List V->Hp->VK->Prop:=λx vs H Q=>∃(l:Addr) (ns:List Int) (k:Int) (j:Nat),x= .ref l/\vs=[.int k]/\cZ K H l (ns.map V.int)/\ns[j]?=some k/\(∀m,m<j->ns[m]?≠some k)/\Q (.int (j:Nat)) H
def yR:Nj X "list.index" (NN X.K):=by
 intro U s σ H x vs v us Q I rx rv h;refine D3 h λl ns k j af aK hq h1 h2 q=>?_
 try clear h
 subst af;subst aK;cases rx;obtain⟨wv,rfl,WX⟩:=vals1 rv;obtain⟨u,rfl⟩:=WX;obtain⟨its,r,pl,hz⟩:=I.list hq;have len:=r.length;rw[Zo]at len;have at':∀(m:Nat) (hm:m<its.toArray.size),∃a t,its.toArray[m]= .int a t/\ns[m]?=some a:=λm hm=>by
  have yM:m<its.length:=by simpa using hm
  have QD:(ns.map V.int)[m]?=some (V.int (ns[m]'(Zn yM (Zy (aad len))))):=by rw[Zz,Zj (Zn yM (Zy (aad len)))];rfl
  refine aa (r.get QD) λw' e1 e2=>?_;obtain⟨t,e3⟩:=e2;refine⟨_,t,?_,Zj (Zn yM (Zy (aad len)))⟩;rw[<-e3];have:its[m]?=some its[m]:=Zj yM;rw[this]at e1;simpa using e1
 have WY:j<ns.length:=(ZJ.mp h1).1;have QC:j<its.toArray.size:=by simpa using ((Zn WY (Zy len)):j<its.length)
 let e:Value->Bool:=λy=>match y with| .int a _=>a==k|_=>false
 have ee:∀y,y∈its.toArray->MeetsSeq.EqGives y (.int k u) (e y):=λy hy=>by
  obtain⟨m,hm,rfl⟩:=aeP.mp hy;refine eC (at' m hm) λa t q1 _=>?_;rw[q1];exact ED a k t u
 obtain⟨⟨c0,d0,Y0,WZ⟩,n,hl,Sw,QE,NO⟩:=pl;dsimp only at Sw QE NO;subst Sw QE NO;refine eC (at' j QC) λaj tj qj zj=>?_;have sL:e its.toArray[j]=true:=by
  rw[h1]at zj;cases zj;show(match its.toArray[j]with| .int a _=>a==k|_=>false)=true;rw[qj];exact beq_self_eq_true _
 have uA:∀m (hm:m<its.toArray.size),m<j->e its.toArray[m]=false:=λm hm W2=>by
  refine eC (at' m hm) λa t q1 q2=>?_;show(match its.toArray[m]with| .int a _=>a==k|_=>false)=false;rw[q1];exact beq_eq_false_iff_ne.mpr λy=>h2 m W2 (by rw[q2,y])
 have iR:(j:Int)<2 ^ 63-1:=by
  have QD:ns.length<=16777216:=by
   have:=hz;rw[Zo,sizeLine_eq]at this;exact this
  lia
 exact call_meets F.slot_list_index (show s.TypeIs (.ref l) "list" from⟨_,hl,rfl⟩) F.entry_list_index (F.args_list_index_2 _ _) (SeqAt.list_indexAt l its.toArray n none WZ (.int k u) e j QC iR sL uA) ⟨hl,λy hy=>(ee y hy).at _ _,.int j,H,I.kept (t':=s.toks+1) λ_ _ q=>q,⟨_,rfl⟩,q⟩
open AutoSeq1 (wpAny_loadPart')
abbrev NP(a c:Int):Nat->Value->Prop:=λi v=>∃t,v= .int (a+i*c) t
section
variable {prog:Program}{w:World}{A:Around}{E:Value->Shared->Prop}{s:Shared}
def oD{n:Nat}(hh:A.handled=none)(hr:IsRange s.heap r a b c t u v)(iR:Builtin.Range.small a b c=true)
  (hn:Builtin.Range.rangeSize a b c=n) (aL:n<=2 ^ 24)
  (hQ:∀h' tk acc,ab2->ItemsOf (NP a c) acc n->Q acc.toList {s with heap:=h',toks:=tk}):wpAny aa3 A (collect (.ref r)) Q E s:=by
 unfold collect;refine Zh (wpAny_runValue (abt F.entry_proto_collect ?_));rw[abP F.plain_proto_collect _];show wpAny _ A.in1 (newList [] >>= λl=>again (.builtin "list.__iadd__" ⟨[l,.ref r],[]⟩)) _ _ s;refine Zh (aaj ?_);refine Zq ⟨plainId_quiet F.plain_list_iadd _,abt F.entry_list_iadd ?_⟩;rw[abP F.plain_list_iadd _];show wpAny _ A.in1 (Builtin.List.listExtendWith (.ref s.heap.objs.size) (.ref r) (.ref s.heap.objs.size)) _ _ _;have hS:(s.heap.push {cls:= .type "list",data:= .seq ([]:List Value).toArray}).get? s.heap.objs.size=some {cls:= .type "list",data:= .seq #[] 0}:=ZF _ rfl
 let RR:Result->Shared->Prop:=λr s'=>∃(h':Heap) (tk:Nat) (acc:Array Value) (c':Nat),r= .ok (.ret (.ref s.heap.objs.size))/\s'={s with heap:=h',toks:=tk}/\
  ab2/\h'.get? s.heap.objs.size=some {cls:= .type "list",dict:=none,data:= .seq acc c',slots:=#[]}/\ItemsOf (NP a c) acc n
 have vb:∀(h':Heap) (tk:Nat) (acc:Array Value) (c':Nat),ab2->h'.get? s.heap.objs.size=some {cls:= .type "list",dict:=none,data:= .seq acc c',slots:=#[]}->ItemsOf (NP a c) acc n->
   wpAny aa3 A (match Value.ref s.heap.objs.size with
    |Value.ref a=>do
     match (<-load a).data with
      |Data.seq xs _=>pure xs.toList
      |_=>unsupported "internal:collect"
    |_=>unsupported "internal:collect") Q E {s with heap:=h',toks:=tk}:=λh' tk acc c' hk A8 lr=>by
  show wpAny _ A (load s.heap.objs.size >>= _) _ _ _;exact Zh (wpAny_load A8 (Zq (hQ h' tk acc hk lr)))
 refine abn (wpAny_extend_range (A:=A) (R:=RR) (s:={s with heap:=s.heap.push {cls:= .type "list",data:= .seq ([]:List Value).toArray}}) hh (Zi _ hr) iR hn aL _ (.ref s.heap.objs.size) _ hS λh' tk JL c' hk A8 lr=>⟨h',tk,JL,c',rfl,rfl,λb o e=>hk b o (ZT (ZG e)) (Zi _ e),A8,lr⟩) (λfin s' h=>?_) (λe s' h=>?_)
 .cases fin with
  |done f=>
   refine uG h λh' tk acc c' e af hk A8 lr=>?_
   try clear h
   subst af;cases e;exact vb h' tk acc c' hk A8 lr
  |again c'=>
   refine⟨h.1,adq h.2 λr M_ hr=>?_⟩;refine uG hr λh' tk acc c' e aK hk A8 lr=>?_
   try clear hr
   subst aK;subst e;exact vb h' tk acc c' hk A8 lr
 .refine lU h λh' tk acc c' e _=>?_;cases e
end
def vc{n:Nat}(iR:Builtin.Range.small a b c=true)(hn:Builtin.Range.rangeSize a b c=n)(aL:n<=2 ^ 24):
  Meets (Builtin.«tuple.__new__» ⟨[.type "tuple",.ref r],[]⟩)
   (λA R s=>A.handled=none/\IsRange s.heap r a b c t u v/\∀(h':Heap) (tk:Nat) (acc:Array Value),ab2->ItemsOf (NP a c) acc n->
    R (.ok (.ret (.ref h'.objs.size))) {s with heap:=h'.push {cls:= .type "tuple",data:= .seq acc},toks:=tk}):=
 .of_wp λprog w A R s h=>by
  obtain⟨hp,g,d,W3,os⟩:=s;refine cP h λhh hr h=>?_;have NQ:=sub_tuple_self;have UP:=init_tuple_lookup;have Y1:=madeHere_tuple;have hT:Shared.TypeIs ⟨hp,g,d,W3,os⟩ (.ref r) "range":=⟨_,hr,rfl⟩;have W4:A.in1.handled=none:=hh;wp_walk using abF hr,ads hT,oD W4 hr iR hn aL;intro h' tk acc hk lr;show wpAny _ _ (Builtin.Tuple.tupleExact acc.toList.toArray >>= λv=>ret v) _ _ _;unfold Builtin.Tuple.tupleExact;refine Zh (aaj ?_ (show acc.toList.toArray.size<=sizeLine by simp only[aeU];rw[lr.1,sizeLine_eq];exact aL));refine Zq ⟨_,rfl,?_⟩;have e:acc.toList.toArray=acc:=by simp
  rw[e];exact h h' tk acc hk lr
section
variable {prog:Program}{w:World}{A:Around}{E:Value->Shared->Prop}{s:Shared}
def yS{n:Nat}(hh:A.handled=none)(hr:IsRange s.heap r a b c t u v)(iR:Builtin.Range.small a b c=true)(hn:Builtin.Range.rangeSize a b c=n)(aL:n<=2 ^ 24)
  (h:∀(h':Heap) (tk:Nat) (acc:Array Value),ab2->ItemsOf (NP a c) acc n->Q (.ref h'.objs.size) {s with heap:=h'.push {cls:= .type "tuple",data:= .seq acc},toks:=tk}):
  wpAny aa3 A (call (.type "tuple") [.ref r]) Q E s:=
 callType_new F.called_tuple aa1 (F.typeCall_tuple_1 _) (F.newCall_tuple_1 _) (λobj=>F.args_object_init_2 obj _) F.entry_tuple_new (vc iR hn aL)
  ⟨hh,hr,λh' tk acc hk lr=>⟨⟨_,ZF _ rfl,rfl⟩,h h' tk acc hk lr⟩⟩
end
open AutoSeq1 (wpAny_loadPart')
theorem wm:∀{bs:List Bool}{us:List Value},aF (bs.map V.bl) us->us=bs.map Value.bool
 |[],_,.nil =>rfl
 |b::bs,_,.cons r t=>by
  have e:_=Value.bool b:=r;rw[e,wm t];rfl
section
variable {prog:Program}{w:World}{A:Around}{E:Value->Shared->Prop}{s:Shared}{l:Addr}
def sP(A:Around)(bs:List Bool):TruthOf prog w A (λi v=>(bs.map Value.bool).toArray[i]?=some v) (λi=>bs.getD i false):=λi v s Q E hP hQ=>by
 have q:(bs.map Value.bool)[i]?=some v:=by simpa using hP
 rw[Zz]at q;cases e:bs[i]? with
 |none=>rw[e]at q;cases q
 |some b=>
  rw[e]at q;cases q;have:bs.getD i false=b:=by rw[Zx,e];rfl
  have UQ:Q (bs.getD i false) s:=hQ;rw[this]at UQ;exact abb UQ
def all_range{bs:List Bool}:(List.range bs.length).all (λi=>bs.getD i false)=bs.all id:=by
 rw[adK,aas,aas];constructor
 .intro h b hb;obtain⟨i,hi,rfl⟩:=List.mem_iff_getElem.mp hb;have:=h i (Z9.mpr hi);rw[Zx,Zj hi]at this;exact this
 .intro h i hi;have gr:=Z9.mp hi;rw[Zx,Zj gr];exact h _ (abv gr)
def A9{bs:List Bool}(hh:A.handled=none)(hl:s.heap.IsList l (bs.map Value.bool).toArray)
  (h:∀h' tk,ab2->Q (.bool (bs.all id)) {s with heap:=h',toks:=tk}):wpAny aa3 A (call (.builtin "all") [.ref l]) Q E s:=by
 have aU:l<s.heap.objs.size:=by obtain⟨_,e,_⟩:=hl;exact ZG e
 refine call_all_walk (abS hl ?_);refine⟨_,[_,l],[_],_,_,_,_,rfl,afq (A:=A.in1) hh s.heap.objs.size l (ZT aU) _,⟨⟨_,ZF _ rfl,rfl,rfl⟩,hl.push _⟩,sP _ bs,λh' tk hk=>?_⟩;have e:(bs.map Value.bool).toArray.size =bs.length:=by simp
 rw[e,all_range];refine h h' tk λb o z=>hk b o (λhm=>?_) (Zi _ z);rw[Zp.mp hm]at z;exact absurd (ZG z) (aam _)
end
section
variable {X:Cx}
def yT(hc:X.calm=true):cC X (.builtin "all") (λxs H Q=>∃(p:Addr) (bs:List Bool),xs=[.ref p]/\cZ X.K H p (bs.map V.bl)/\Q (.bl (bs.all id)) H):=by
 intro U s σ H xs us Q I r zz;refine bu zz λp bs e hq q=>?_;subst e;refine aa (vals1 r) λu af rx=>?_;subst af;cases rx;refine bO (I.list hq) λits rv pl hz=>?_;rw[wm rv]at pl;exact A9 (I.ok.hd hc) pl.isList λh' tk hk=>⟨.bl _,H,I.kept (t':=tk) hk,rfl,q⟩
end
section
variable {prog:Program}{w:World}{A:Around}{E:Value->Shared->Prop}{s:Shared}
end
section
variable {X:Cx}
theorem jn:∀{us:List Value}{ns:List Int},IntsAre us ns->aF (ns.map V.int) us
 |_,_,.nil => .nil
 |_,_,.cons n t r=> .cons ⟨t,rfl⟩ (jn r)
def EE:kN X (binaryOp .Add) (λx y H Q=>∃a b ys,x= .ref a/\y= .ref b/\cT X.K H a []/\cT X.K H b ys/\Q (.ref b) H):=by
 intro U s σ H x y v u Q I rx ry zz;refine uz zz λa b ys e1 e2 h1 h2 q=>?_;subst e1 e2;cases rx;cases ry;obtain⟨its,r1,⟨⟨c,dd,dt,sl⟩,ho,hc,n,hd⟩,_⟩:=I.tuple h1;obtain⟨iO,r2,⟨⟨c2,Hc,Y2,Hd⟩,DP,He,n2,oz⟩,_⟩:=I.tuple h2;cases r1;simp only at hc hd He oz;subst hc hd He oz;exact concat_meets ⟨_,ho,rfl⟩ ⟨_,DP,rfl⟩ noFill_tuple_add seq_tuple_add ada acP (acJ _ _)
  (tuple_addW0 a b _ iO.toArray n n2 dd Hc sl Hd aa9) ⟨ho,DP,.ref b,H,I,rfl,q⟩
end
open HT
open AutoSeq1 (wpAny_loadPart')
section
variable {prog:Program}{w:World}{A:Around}{E:Value->Shared->Prop}{s:Shared}
def oE(ht:IsTup s.heap t items)(h:Q true s):wpAny aa3 A (Builtin.Tuple.tupleIsExact (.ref t)) Q E s:=by
 unfold Builtin.Tuple.tupleIsExact;exact Zh (ads ht.typeIs (Zq (by simpa using h)))
def iz{lo hi:Option Int}(ht:IsTup s.heap t items)(hs:s.heap.IsSliceOf sl vl vu .none)(pl:IsPart vl lo)(pu:IsPart vu hi)
  (hw:cD items.size 0 lo=0/\cD items.size items.size hi=items.size) (h:Q (.ref t) s):wpAny aa3 A (getItem (.ref t) (.ref sl)) Q E s:=by
 refine bO (id hs) λos Jh sh Ng=>?_;have Ej:s.TypeIs (.ref sl) "slice":=⟨os,Jh,sh⟩;unfold getItem
 try with_reducible refine aan ?_
 first|refine Zh (Zq ?_)|skip
 refine Zh (wpAny_sequenceKey ht.typeIs aa1 ?_);refine Zh (aaR (name:=Str.ofString "__getitem__") ht.typeIs aaC (aaw aaC ht.typeIs entry_tuple_getitem ?_ (args_tuple_getitem _ _)));show wpAny _ _ (Builtin.Tuple.tupleItemsOf (.ref t) >>= _) _ _ s;refine Zh (tupleItemsOf_ ht ?_);refine Zh (ads Ej ?_);rw[ZD aa1];refine Zh (eU hs pl pu ?_);have Sx:(((cD items.size 0 lo:Nat):Int)==0&&(1:Int)==1&&(cD items.size items.size hi-cD items.size 0 lo)==items.size)=true:=by
  rw[hw.1,hw.2];simp
 show wpAny _ _ (if(((cD items.size 0 lo:Nat):Int)==0&&(1:Int)==1&&(cD items.size items.size hi-cD items.size 0 lo)==items.size)=true then _ else _) _ _ s;rw[ZD Sx];refine Zh (oE ht ?_);rw[ZD rfl];exact Zh (acL (Zq ⟨_,rfl,Zq h⟩))
end
section
variable {X:Cx}
def NR(K:aH):V->Option Int->Option Int->Hp->VK->Prop:=λx lo hi H Q=>∃a xs,x= .ref a/\cT K H a xs/\(cD xs.length 0 lo=0/\cD xs.length xs.length hi=xs.length)/\Q x H
def A_:DQ X (NR X.K):=by
 intro U s σ H x v vl vu lo hi sl Q I rx hs pl pu h;refine gQ h λa xs af hx hw q=>?_
 try clear h
 subst af;cases rx;refine bO (I.tuple hx) λits r ht hz=>?_;have aL:its.toArray.size=xs.length:=by rw[ZA];exact r.length.symm
 exact⟨"tuple",_,aaC.lookup,ht.typeIs,iz ht hs pl pu (by rw[aL];exact hw) ⟨.ref a,H,I,rfl,q⟩⟩
def EF:DQ X (λx lo hi H Q=>Ni X.K x lo hi H Q\/NR X.K x lo hi H Q):=Ji.or A_
end
end L2
namespace L2
open PySem PyProof.Rows
open PySem.Spec
section
variable {κ:Type}[DecidableEq κ]
noncomputable def j8(ax:List (κ×V))(k:κ):Option V:=(ax.find? λkv=>decide (kv.1=k)).map (·.2)
noncomputable def j9(ax:List (κ×V))(k:κ)(v:V):List (κ×V):=
 if(ax.any λkv=>decide (kv.1=k))=true then ax.map (λkv=>if kv.1=k then(kv.1,v) else kv) else ax++[(k,v)]
def jo{r:List (κ×V)}(e:p.1=k):j8 (p::r) k=some p.2:=by simp[j8,abG,e]
def jq{r:List (κ×V)}(e:¬p.1=k):j8 (p::r) k=j8 r k:=by simp[j8,abG,e]
theorem sQ(k:κ):∀ax:List (κ×V),(ax.any λkv=>decide (kv.1=k))=(j8 ax k).isSome
 |[]=>rfl
 |p::r=>by
  rw[acx];by_cases e:p.1=k
  .simp only[jo e,decide_eq_true e,Bool.true_or,afl]
  .rw[jq e,decide_eq_false e,Bool.false_or];exact sQ k r
def kT(ax:List (κ×V))(k:κ)(v:V):(j9 ax k v).length <=ax.length+1:=by
 unfold j9;split
 .rw[Zo];exact aai _ _
 .rw[Zw,ZM,abr];exact Zu _
def oj.eX(r:oj o u):o.isSome=u.isSome:=by
 cases o with
 |none=>cases u with
  |none=>rfl
  |some _=>exact(show False from r).elim
 |some _=>cases u with
  |none=>exact(show False from r).elim
  |some _=>rfl
def KV.val{ax:List (κ×V)}(r:KV ax vs)(k:κ):oj (j8 ax k) (valueAt vs k):=by
 unfold KV at r;induction r with
 |nil=>exact True.intro
 |@cons p q ps qs h t ih=>
  obtain⟨h1,h2⟩:=h;by_cases e:p.1=k
  .have e':q.1=k:=h1.symm.trans e;have b:valueAt (q::qs) k=some q.2:=by simp[valueAt,abG,e']
   rw[jo e,b];exact h2
  .have e':¬q.1=k:=λz=>e (h1.trans z);have b:valueAt (q::qs) k=valueAt qs k:=by simp[valueAt,abG,e']
   rw[jq e,b];exact ih
theorem KV.any(r:KV ax vs)(k:κ):(ax.any λkv=>decide (kv.1=k))=vs.any λkv=>decide (kv.1=k):=by
 unfold KV at r;induction r with
 |nil=>rfl
 |cons h t ih=>rw[acx,acx,ih,h.1]
def KV.JM(r:KV ax vs)(k:κ)(ry:RelV y u):
  KV (ax.map λkv=>if kv.1=k then(kv.1,y) else kv) (vs.map λkv=>if kv.1=k then(kv.1,u) else kv):=by
 unfold KV at r⊢;induction r with
 |nil=>exact .nil
 |@cons p q ps qs h t ih=>
  rw[ZS,ZS];refine .cons ?_ ih;obtain⟨h1,h2⟩:=h;by_cases e:p.1=k
  .rw[ZD e,ZD (h1.symm.trans e)];exact⟨h1,ry⟩
  .rw[ZL e,ZL (λz=>e (h1.trans z))];exact⟨h1,h2⟩
def KV.put(r:KV ax vs)(k:κ)(ry:RelV y u):KV (j9 ax k y) (stored vs k u):=by
 unfold j9 stored;rw[r.any k];by_cases e:(vs.any λkv=>decide (kv.1=k))=true
 .rw[ZD e,ZD e];exact r.JM k ry
 .rw[ZL e,ZL e];exact Paired.snoc r ⟨rfl,ry⟩
def KV.keys{vs:List (κ×Value)}(r:KV ax vs):ax.map (·.1)=vs.map (·.1):=by
 unfold KV at r;induction r with
 |nil=>rfl
 |cons h t ih=>rw[ZS,ZS,ih,h.1]
theorem KV.length(r:KV ax vs):ax.length=vs.length:=acw r
end
def pz(r:RelV (kV k) u):(bc P w).is k u=true:=by
 cases k with
 |inl i=>obtain⟨t,e⟩:=(show∃t,u=Value.int i t from r);subst e;exact rR P w i t
 |inr x=>obtain⟨t,e⟩:=(show∃t,u=Value.str x t from r);subst e;exact rS P w x t
theorem pA:∀{ks:List cS}{us:List Value},aF (ks.map kV) us->ItemsAre (bc P w) ks us
 |[],_,r=>by rw[adS]at r;cases r;exact .nil
 |k::ks,_,r=>by
  rw[ZS]at r;cases r with
  |cons h t=>exact .cons (pz h) (pA t)
abbrev KT(H:Hp):List (List cS×V)->List (List cS×Addr×Value)->Prop:=Paired λp q=>p.1=q.1/\H q.2.1=some (.tup (p.1.map kV))/\RelV p.2 q.2.2
def KT.val{ax:List (List cS×V)}(r:KT H ax xs)(k:List cS):oj (j8 ax k) ((atKey xs k).map (·.2)):=by
 induction r with
 |nil=>exact True.intro
 |@cons p q ps qs h t ih=>
  refine cP h λh1 _ h2=>?_;by_cases e:p.1=k
  .have e':q.1=k:=h1.symm.trans e;have b:atKey (q::qs) k=some q.2:=by simp[atKey,abG,e']
   rw[jo e,b];exact h2
  .have e':¬q.1=k:=λz=>e (h1.trans z);have b:atKey (q::qs) k=atKey qs k:=by simp[atKey,abG,e']
   rw[jq e,b];exact ih
def KT.JM(r:KT H ax xs)(k:List cS)(ry:RelV y u):
  KT H (ax.map λkv=>if kv.1=k then(kv.1,y) else kv) (xs.map (putAt k u)):=by
 induction r with
 |nil=>exact .nil
 |@cons p q ps qs h t ih=>
  rw[ZS,ZS];refine .cons ?_ ih;refine cP h λh1 h2 h3=>?_;unfold putAt;by_cases e:p.1=k
  .rw[ZD e,ZD (h1.symm.trans e)];exact⟨h1,h2,ry⟩
  .rw[ZL e,ZL (λz=>e (h1.trans z))];exact⟨h1,h2,h3⟩
def KT.put(r:KT H ax xs)(k:List cS)(hb:H b=some (.tup (k.map kV)))(ry:RelV y u):
  KT H (j9 ax k y) (storedH xs k b u):=by
 have e:(ax.any λkv=>decide (kv.1=k))=(atKey xs k).isSome :=by
  rw[sQ,(r.val k).eX,aef]
 unfold j9 storedH;rw[e];by_cases q:(atKey xs k).isSome =true
 .rw[ZD q,ZD q];exact r.JM k ry
 .rw[ZL q,ZL q];exact Paired.snoc r ⟨rfl,hb,ry⟩
def KT.keeps(r:KT H ax xs)(ht:∀b ys,H b=some (.tup ys)->H' b=some (.tup ys)):KT H' ax xs:=
 Paired.MJ r λ_ _ z=>⟨z.1,ht _ _ z.2.1,z.2.2⟩
section
variable {P:Program}{w:World}{H:Hp}{h:Heap}{a:Addr}
def Hs(ok:iM P w H h)(e:Rd H a u):aT P w H h a u:=e.ok ok
def jr(ok:iM P w H h)(e:Rd H a (.dK ax)):ax.length<=sizeLine/\(a==sysModules)=false/\∃vs,KV ax vs/\h.DictOf (bc P w) a vs:=
 show aT P w H h a (.dK ax) from Hs ok e
def Ht(ok:iM P w H h)(e:H a=some (.dK ax)):ax.length<=sizeLine/\(a==sysModules)=false/\∃vs,KV ax vs/\h.DictOf (bc P w) a vs:=jr ok (.inl e)
def j_(ok:iM P w H h)(e:H a=some (.tup (ks.map kV))):(tupleKind (bc P w)).is h ks a:=by
 obtain⟨_,its,r,o,h1,h2,⟨n,h3⟩,_⟩:=(show aT P w H h a (.tup (ks.map kV)) from ok a _ e);exact⟨o,its.toArray,n,h1,h2,h3,by simpa using pA r⟩
def mD(ok:iM P w H h)(e:Rd H a (.dT ax)):ax.length<=sizeLine/\(a==sysModules)=false/\
  ∃xs,KT H ax xs/\h.DictOfH (tupleKind (bc P w)) a xs:=by
 obtain⟨z,y,xs,r,o,es,ep,h1,h2,h3,h4,h5⟩:=(show aT P w H h a (.dT ax) from Hs ok e);refine⟨z,y,xs,r,o,es,ep,h1,h2,h3,h4,λx hx=>?_,h5⟩;have all:∀{l:List (List cS×V)}{m:List (List cS×Addr×Value)},KT H l m->∀x∈m,(tupleKind (bc P w)).is h x.1 x.2.1:=by
  intro l m q;induction q with
  |nil=>intro x hx;exact nomatch hx
  |@cons p q ps qs hq t ih=>
   intro x hx;rcases ZC.mp hx with e|hx
   .subst e;exact j_ ok (by rw[<-hq.1];exact hq.2.1)
   .exact ih x hx
 exact all r x hx
def Hu(ok:iM P w H h)(e:H a=some (.dT ax)):ax.length<=sizeLine/\(a==sysModules)=false/\
  ∃xs,KT H ax xs/\h.DictOfH (tupleKind (bc P w)) a xs:=mD ok (.inl e)
end
def qA(H:Hp)(a:Addr)(y:V)(r:Option V):Prop:=
 (∃ax k,Rd H a (.dK ax)/\y=kV k/\r=j8 ax k)\/∃ax k b,Rd H a (.dT ax)/\y= .ref b/\H b=some (.tup (k.map kV))/\r=j8 ax k
def JN(H:Hp)(a:Addr)(y v:V)(H':Hp):Prop:=
 (∃ax k,H a=some (.dK ax)/\y=kV k/\ax.length<sizeLine/\H'=upd H a (.dK (j9 ax k v)))\/
 ∃ax k b,H a=some (.dT ax)/\y= .ref b/\H b=some (.tup (k.map kV))/\ax.length<sizeLine/\H'=upd H a (.dT (j9 ax k v))
section
variable {X:Cx}{U:List ab0}{σ:St}{H:Hp}{s:Shared}{a:Addr}{y v:V}{u r:Value}{o:Option V}{A:Around}{E:Value->Shared->Prop}
def Inv.big(I:aa5):sysModules<s.heap.objs.size:=by
 have h:mainGlobals<s.heap.objs.size:=(I.mod.glob.keeps I.bk).lt;exact abW aa1 h
def yU(hu:A.units+1<cLine)(I:aa5)(g:qA H a y (some v))(ry:RelV y u)(h:∀w' s',Inv X U σ H s'->RelV v w'->Q w' s'):
  wpAny aa6 A (getItem (.ref a) u) Q E s:=by
 rcases g with⟨ax,k,e,ey,l⟩|⟨ax,k,b,e,ey,eb,l⟩
 .subst ey;obtain⟨z,hd,vs,eY,dd⟩:=jr I.aX e;exact aa (oj.some_of (v:=v) (o:=valueAt vs k) (by rw[l];exact eY.val k)) λw' hw AN=>wpAny_getItem_of (pz ry) dd.mapOf hw (h w' _ (I.tok _) AN)
 .subst ey;cases (show u=Value.ref b from ry);obtain⟨z,hd,xs,eY,dd⟩:=mD I.aX e;refine aa (oj.some_of (v:=v) (o:=(atKey xs k).map (·.2)) (by rw[l];exact eY.val k)) λw' hw AN=>aa (aaW.mp hw) λp hp A'=>wpAny_getItem_heap (tupleKind_room_in1 hu) (j_ I.aX eb) dd hp ?_;rw[A'];exact h w' _ (I.tok _) AN
def Sy(hu:A.units+1<cLine)(I:aa5)(g:qA H a y o)(ry:RelV y u)(h:∀s',Inv X U σ H s'->Q (.bool o.isSome) s'):
  wpAny aa6 A (compareOp .In u (.ref a)) Q E s:=by
 rcases g with⟨ax,k,e,ey,l⟩|⟨ax,k,b,e,ey,eb,l⟩
 .subst ey;obtain⟨z,hd,vs,eY,dd⟩:=jr I.aX e;refine wpAny_in_of (pz ry) hd dd.mapOf ?_;rw[<-(eY.val k).eX,<-l];exact h _ (I.tok _)
 .subst ey;cases (show u=Value.ref b from ry);obtain⟨z,hd,xs,eY,dd⟩:=mD I.aX e;refine wpAny_in_heap (tupleKind_room_in1 hu) (j_ I.aX eb) hd dd ?_;have q:=(eY.val k).eX;rw[aef]at q;rw[<-q,<-l];exact h _ (I.tok _)
def EG(hu:A.units+1<cLine)(I:aa5)(g:qA H a y o)(ry:RelV y u)(h:∀s',Inv X U σ H s'->Q (.bool (!o.isSome)) s'):
  wpAny aa6 A (compareOp .NotIn u (.ref a)) Q E s:=by
 rcases g with⟨ax,k,e,ey,l⟩|⟨ax,k,b,e,ey,eb,l⟩
 .subst ey;obtain⟨z,hd,vs,eY,dd⟩:=jr I.aX e;refine wpAny_notIn_of (pz ry) hd dd.mapOf ?_;rw[<-(eY.val k).eX,<-l];exact h _ (I.tok _)
 .subst ey;cases (show u=Value.ref b from ry);obtain⟨z,hd,xs,eY,dd⟩:=mD I.aX e;refine wpAny_notIn_heap (tupleKind_room_in1 hu) (j_ I.aX eb) hd dd ?_;have q:=(eY.val k).eX;rw[aef]at q;rw[<-q,<-l];exact h _ (I.tok _)
def lC(I:aa5)(mu:An (H a))(hs:Heap.SameBut a s.heap h')(he:∃q,h'.get? a=some q)(new:aT X.prog X.w (upd H a ob) h' a ob):
  Inv X U σ (upd H a ob) {s with heap:=h',toks:=t'}:=
 I.write (x:=a) (e:=a) mu (.inl rfl) (λb q hb z=>(hs.2 b hb).trans z) he new
def Ba(z:ax.length<=sizeLine)(hd:(a==sysModules)=false)(eY:KV ax vs)(dd:h'.DictOf (bc P w) a vs):
  aT P w H' h' a (.dK ax):=⟨z,hd,vs,eY,dd⟩
def yV(hu:A.units+1<cLine)(I:aa5)(g:JN H a y v H')(ry:RelV y u)(rv:RelV v r)(h:∀s',Inv X U σ H' s'->Q () s'):
  wpAny aa6 A (setItem (.ref a) u r) Q E s:=by
 rcases g with⟨ax,k,e,ey,l,eH⟩|⟨ax,k,b,e,ey,eb,l,eH⟩
 .subst ey eH;obtain⟨z,hd,vs,eY,dd⟩:=Ht I.aX e;have hz:vs.length<=sizeLine:=by rw[<-eY.length];exact z
  have hl:(j9 ax k v).length <=sizeLine:=by have:=kT ax k v;exact Zr this l
  refine wpAny_setItem_pairs (hsz:=hz) (pz ry) dd λh' EH hs=>h _ ?_;have he:∃q,h'.get? a=some q:=let ⟨q,_,_,hq,_⟩:=EH;⟨q,hq⟩;exact lC I (by rw[e];exact True.intro) hs he (Ba hl hd (eY.put k rv) EH)
 .subst ey eH;cases (show u=Value.ref b from ry);obtain⟨z,hd,xs,eY,dd⟩:=Hu I.aX e;have hz:xs.length<=sizeLine:=by rw[<-acw eY];exact z
  have hl:(j9 ax k v).length <=sizeLine:=by have:=kT ax k v;exact Zr this l
  refine wpAny_setItem_heap (hsz:=hz) (tupleKind_room_in1 hu) (j_ I.aX eb) dd λh' EH hs=>h _<|MC EH λq es ep hq h2 h3 h4 _ h5=>?_;refine lC I (by rw[e];exact True.intro) hs ⟨q,hq⟩ ⟨hl,hd,_,(eY.put k eb rv).keeps λc ys ec=>?_,q,es,ep,hq,h2,h3,h4,h5⟩;rw[ai (fX ec e (λz=>nomatch z))];exact ec
end
def EI(i:Expr):Prop:=∀ov iv,subscripted i false ov iv=operate [ov,iv] (getItem ov iv)
def EJ{T id:String}
  (hl:typeLookup (.type T) "__getitem__"=pure (some (.builtin id))) (hs:EI slice)
  (h:wpAny aa3 A (eval value env) (λo ba=>wpAny aa3 A (eval slice env) (λi lY=>lY.TypeIs o T/\wpAny aa3 A (getItem o i) Q E lY) E ba) E s):
  wpAny aa3 A (eval (.Subscript value slice pos) env) Q E s:=by
 refine Subscript_ (abn h (λo ba Et=>abn Et (λi lY AV=>?_) λ_ _ x=>x) λ_ _ x=>x);obtain⟨hT,AV⟩:=AV;unfold subscriptTail;refine Zh ?_;rw[getitemInPython_of_ne hT.not_modules];refine Zh (adJ hT hl ?_);have fin:wpAny aa3 A (subscripted slice false o i) (λr yK=>wpAny aa3 A (letTemporaryGo value o r >>= λ_=>pure r) Q E yK) E lY:=by
  rw[hs o i];exact wpAny_operating (abn AV (λr yK Eu=>Zh (wpAny_letTemporaryGo (Zq Eu))) λ_ _ x=>x)
 first
  |exact Zq (Zh fin)
  |exact Zh (Zq (Zh fin))
  |exact Zh fin
def sR(I:aa5)(g:qA H a y o):s.TypeIs (.ref a) "dict":=by
 rcases g with⟨ax,k,e,_,_⟩|⟨ax,k,b,e,_,_,_⟩
 .obtain⟨_,_,vs,_,dd⟩:=jr I.aX e;exact dd.typeIs
 .obtain⟨_,_,xs,_,dd⟩:=mD I.aX e;exact dd.typeIs
def NS(td ty:TE):TE:=λσ H Q=>td σ H λx H1=>ty σ H1 λy H2=>∃a v,x= .ref a/\qA H2 a y (some v)/\Q v H2
def Sz(ty td:TE):TE:=λσ H Q=>ty σ H λy H1=>td σ H1 λx H2=>∃a o,x= .ref a/\qA H2 a y o/\Q (.bl o.isSome) H2
def EK(ty td:TE):TE:=λσ H Q=>ty σ H λy H1=>td σ H1 λx H2=>∃a o,x= .ref a/\qA H2 a y o/\Q (.bl (!o.isSome)) H2
def wo(td ty tv:TE):TS:=λD σ H=>tv σ H λv H1=>td σ H1 λx H2=>ty σ H2 λy H3=>∃a H4,x= .ref a/\JN H3 a y v H4/\D.nx σ H4
section
variable {X:Cx}{o i e value:Expr}{pos rY tpos:Pos}{td ty tv:TE}
def EL(hu:X.A.units+1<cLine)(ho:PE X o td)(hi:PE X i ty)(hs:EI i):PE X (.Subscript o i pos) (NS td ty):=by
 intro U s σ H Q I h;refine EJ PySem.F.slot_dict_getitem.lookup hs (bH (ho U s σ H _ I h) λu s1 zz=>bu zz λx H1 I1 rx q1=>bH (hi U s1 σ H1 _ I1 q1) λiv s2 zz=>?_);obtain⟨y,H2,I2,ry,a,v,ex,g,q2⟩:=zz;subst ex;obtain rfl:u=Value.ref a:=rx;exact⟨sR I2 g,yU hu I2 g ry λw' s3 I3 AN=>⟨v,H2,I3,AN,q2⟩⟩
def JO(hu:X.A.units+1<cLine)(hi:PE X i ty)(ho:PE X o td):PC X .In i o (Sz ty td):=by
 intro U s σ H Q I h;refine bH (hi U s σ H _ I h) λiv s1 zz=>bu zz λy H1 I1 ry q1=>bH (ho U s1 σ H1 _ I1 q1) λu s2 zz=>?_;obtain⟨x,H2,I2,rx,a,ov,ex,g,q2⟩:=zz;subst ex;obtain rfl:u=Value.ref a:=rx;exact Sy hu I2 g ry λs3 I3=>⟨.bl ov.isSome,H2,I3,rfl,q2⟩
def yW(hu:X.A.units+1<cLine)(hi:PE X i ty)(ho:PE X o td):PC X .NotIn i o (EK ty td):=by
 intro U s σ H Q I h;refine bH (hi U s σ H _ I h) λiv s1 zz=>bu zz λy H1 I1 ry q1=>bH (ho U s1 σ H1 _ I1 q1) λu s2 zz=>?_;obtain⟨x,H2,I2,rx,a,ov,ex,g,q2⟩:=zz;subst ex;obtain rfl:u=Value.ref a:=rx;exact EG hu I2 g ry λs3 I3=>⟨.bl (!ov.isSome),H2,I3,rfl,q2⟩
def wq(hu:X.A.units+1<cLine)(ho:PE X o td)(hi:PE X i ty)(hv:PE X value tv)(hs:swapsWith value (some (.Subscript o i rY)) pos.line X.env=pure false):
  PS X (.Assign [.Subscript o i rY] value pos) (wo td ty tv):=by
 intro U s σ H D I h;refine wpAny_Assign_Subscript (bH (hv U s σ H _ I h) λr s1 ⟨v,H1,I1,rv,q1⟩=>bH (ho U s1 σ H1 _ I1 q1) λu s2 ⟨x,H2,I2,rx,q2⟩=>bH (hi U s2 σ H2 _ I2 q2) λiv s3 ⟨y,H3,I3,ry,a,H4,ex,g,q3⟩=>?_) hs;subst ex;obtain rfl:u=Value.ref a:=rx;exact yV hu I3 g ry rv λs4 I4=>⟨σ,H4,I4,q3⟩
end
def Bb(h:Heap)(hb:sysModules<h.objs.size):aT P w H (h.push {cls:= .type "dict",data:= .dict #[]}) h.objs.size (.dK []):=
 ⟨aak _,beq_eq_false_iff_ne.mpr (aay (ZT hb)),[],.nil,Heap.DictOf.new h⟩
def Bc(h:Heap)(hb:sysModules<h.objs.size):aT P w H (h.push {cls:= .type "dict",data:= .dict #[]}) h.objs.size (.dT []):=
 ⟨aak _,beq_eq_false_iff_ne.mpr (aay (ZT hb)),[],.nil,_,#[],0,ZF _ rfl,⟨rfl,rfl,rfl⟩,rfl,rfl,adl⟩
section
variable {X:Cx}{pos:Pos}
end
def W5(H:Hp)(a:Addr):Prop:=(∃ax,Rd H a (.dK ax))\/∃ax,Rd H a (.dT ax)
def JP(I:aa5)(d:W5 H a):
  s.TypeIs (.ref a) "dict"/\(∀b,Value.ref a= .ref b->∃ob,s.heap.get? b=some ob/\ob.dict=none)/\(a==sysModules)=false:=by
 rcases d with⟨ax,e⟩|⟨ax,e⟩
 .obtain⟨_,hd,vs,_,dd⟩:=jr I.aX e;refine⟨dd.typeIs,λb q=>?_,hd⟩;cases q;exact cn dd λob _ _ h1 h2 _=>⟨ob,h1,h2.2.1⟩
 .obtain⟨_,hd,xs,_,dd⟩:=mD I.aX e;refine⟨dd.typeIs,λb q=>?_,hd⟩;cases q;exact cn dd λob _ _ h1 h2 _=>⟨ob,h1,h2.2.1⟩
section
variable {X:Cx}{U:List ab0}{σ:St}{H:Hp}{s:Shared}{a:Addr}{y d:V}{u r:Value}{o:Option V}{A:Around}{E:Value->Shared->Prop}
end
section
variable {X:Cx}{o e f:Expr}{qh gn:Pos}{td ty tx:TE}
end
end L2
namespace bJ
open PySem PyProof.Rows
abbrev SM:=StateT SortSt Sem
noncomputable def b_:Bool->Keyed->Array Keyed->Nat->Nat->Nat->SM (Option Nat):=sortPriv% PySem.Builtin.gallop
noncomputable def mE:Array Keyed->Array Keyed->SM (Array Keyed):=sortPriv% PySem.Builtin.mergeLo
noncomputable def mF:Array Keyed->Array Keyed->SM (Array Keyed):=sortPriv% PySem.Builtin.mergeHi
noncomputable abbrev setG(zt:SortSt)(g:Nat):SortSt:=SortSt.mk' (kindOf zt) (arrOf zt) (pendingOf zt) g (failedOf zt)
noncomputable def bj(g:Nat):SM Unit:=modify λs=>setG s g
noncomputable def fN(left:Bool)(key:Keyed)(arr:Array Keyed)(base i:Nat):SM (Option Bool):=do {let x<-elem' arr (base+i);if left then lt' x key else return (<-lt' key x).map (!·)}
def vd(left:Bool)(key:Keyed)(arr:Array Keyed)(base n hint:Nat):b_ left key arr base n hint=(do
  let mut lD:=0;let mut Ag:=1;let mut lo:=0;let mut hi:=0
  let some right<-fN left key arr base hint|return none
  if right then
   let mG:=n-hint
   for _ in [0:n] do
    if Ag ≥ mG then break
    let some more<-fN left key arr base (hint+Ag)|return none
    if !more then break
    lD:=Ag;Ag:=2*Ag+1
   lo:=hint+lD+1;hi:=hint+min Ag mG
  else
   let mG:=hint+1
   for _ in [0:n] do
    if Ag ≥ mG then break
    let some found<-fN left key arr base (hint-Ag)|return none
    if found then break
    lD:=Ag;Ag:=2*Ag+1
   lo:=hint+1-min Ag mG;hi:=hint-lD
  for _ in [0:n] do
   if lo ≥ hi then break
   let m:=lo+(hi-lo)/2
   let some more<-fN left key arr base m|return none
   if more then lo:=m+1 else hi:=m
  return some hi):=rfl
section
variable {prog:Program}{w:World}{A:Around}{E:Value->Shared->Prop}{s:Shared}{κ:SortKind}{P:Keyed->Prop}
def bz(hi:i<arr.size)(q:Q arr[i] zt):wpS aa3 A E s (elem' arr i) Q zt:=by
 rw[elem'_eq,ZK hi];exact wpS_pure q
def sS(a b:Array Keyed):mE a b=(do
  rule "list.sort.merge-lo"
  let total:=a.size+b.size
  let done (out:Array Keyed) (ia ib:Nat):=(out++a.extract ia a.size)++b.extract ib b.size;let lE (out:Array Keyed) (ia ib:Nat):=(out++b.extract ib b.size)++a.extract ia a.size
  let mut out:Array Keyed:=#[<-elem' b 0];let mut ia:=0;let mut ib:=1
  if ib==b.size then return (done out ia ib)
  if ia+1==a.size then return (lE out ia ib)
  let mut minGallop:=gallopOf (<-get)
  for _ in [0:total] do
   let mut cV:=0;let mut cW:=0
   for _ in [0:total] do
    let some NT<-lt' (<-elem' b ib) (<-elem' a ia)|return (done out ia ib)
    if NT then
     out:=out.push (<-elem' b ib);ib:=ib+1;cW:=cW+1;cV:=0
     if ib==b.size then return (done out ia ib)
     if cW ≥ minGallop then break
    else
     out:=out.push (<-elem' a ia);ia:=ia+1;cV:=cV+1;cW:=0
     if ia+1==a.size then return (lE out ia ib)
     if cV ≥ minGallop then break
   rule "list.sort.gallop"
   minGallop:=minGallop+1
   for _ in [0:total] do
    if minGallop>1 then minGallop:=minGallop-1
    bj minGallop
    let some k<-b_ false (<-elem' b ib) a ia (a.size-ia) 0|return (done out ia ib)
    cV:=k
    if k>0 then
     out:=out++a.extract ia (ia+k);ia:=ia+k
     if ia+1==a.size then return (lE out ia ib)
     if ia==a.size then return (done out ia ib)
    out:=out.push (<-elem' b ib);ib:=ib+1
    if ib==b.size then return (done out ia ib)
    let some k<-b_ true (<-elem' a ia) b ib (b.size-ib) 0|return (done out ia ib)
    cW:=k
    if k>0 then
     out:=out++b.extract ib (ib+k);ib:=ib+k
     if ib==b.size then return (done out ia ib)
    out:=out.push (<-elem' a ia);ia:=ia+1
    if ia+1==a.size then return (lE out ia ib)
    if cV<7&&cW<7 then break
   minGallop:=minGallop+1
   bj minGallop
  unsupported "internal:list.sort.merge-bound"):=rfl
structure Sm(zt au:SortSt):Prop where
 k:kindOf au=kindOf zt
 a:arrOf au=arrOf zt
 p:pendingOf au=pendingOf zt
 f:failedOf au=failedOf zt
def Sm.rfl':Sm zt zt:=⟨rfl,rfl,rfl,rfl⟩
theorem Sm.setG(h:Sm zt au):Sm zt (setG au g):=⟨h.k,h.a,h.p,h.f⟩
def Pt(a b out:Array Keyed)(i j:Nat):Prop:=out.toList.Perm (a.toList.take i++b.toList.take j)
def dE(X Y Z:List α):((X++Y)++Z).Perm ((X++Z)++Y):=by
 rw[ZW,ZW];exact abL X adt
section
variable {a b out:Array Keyed}{i j k:Nat}
def e_(a:Array Keyed):a.toList.take i++(a.extract i (i+k)).toList =a.toList.take (i+k):=by
 rw[aby];unfold List.extract;rw[show i+k-i=k by exact aaP _ _,List.take_add]
def Pt.qB(h:Pt a b out i j):Pt a b (out++b.extract j (j+k)) i (j+k):=by
 unfold Pt at h⊢;rw[ZN,<-e_ b,<-ZW];exact h.append_right _
def Pt.qC(h:Pt a b out i j):Pt a b (out++a.extract i (i+k)) (i+k) j:=by
 unfold Pt at h⊢;rw[ZN,<-e_ a];exact(h.append_right _).trans (dE _ _ _)
def gS(hi:i<a.size):(a.extract i (i+1)).toList =[a[i]]:=by
 rw[aby];unfold List.extract;have gr:i<a.toList.length:=by simpa using hi
 rw[show i+1-i=1 by exact aaP _ _,aaz gr];simp
def wt(a:Array Keyed)(hi:i<=a.size):a.toList.take i++(a.extract i a.size).toList =a.toList:=by
 have:=e_ a (i:=i) (k:=a.size-i);rw[show i+(a.size-i)=a.size by exact abm hi]at this;rw[this];exact aau aa9
def Pt.done(h:Pt a b out i j)(hi:i<=a.size)(hj:j<=b.size):((out++a.extract i a.size)++b.extract j b.size).toList.Perm (a.toList++b.toList):=by
 unfold Pt at h;rw[ZN,ZN];refine((h.append_right _).append_right _).trans<|((dE _ _ _).append_right _).trans ?_;rw[wt a hi,ZW,wt b hj]
def Pt.last(h:Pt a b out i j)(hi:i<=a.size)(hj:j<=b.size):((out++b.extract j b.size)++a.extract i a.size).toList.Perm (a.toList++b.toList):=by
 refine List.Perm.trans ?_ (h.done hi hj);simp only[ZN];exact dE _ _ _
end
def wu{α:Type}{x:SM α}{zt:SortSt}{Q:α->SortSt->Prop}{T:Nat->Prop}(main:(∀g',T g')->wpS aa3 A E s x Q zt)(h:∀g',T g'):wpS aa3 A E s x Q zt:=main h
def qD{α:Type}{x:SM α}{zt:SortSt}{Q:α->SortSt->Prop}{T:Array Keyed->Nat->Prop}(C:Array Keyed->Nat->Prop)(main:(∀o i,C o i->T o i)->wpS aa3 A E s x Q zt)(h:∀o i,C o i->T o i):wpS aa3 A E s x Q zt:=main h
def sT(a b:Array Keyed):mF a b=(do
  rule "list.sort.merge-hi"
  let total:=a.size+b.size
  let done (out:Array Keyed) (na nb:Nat):=(a.extract 0 na++b.extract 0 nb)++out.reverse;let js (out:Array Keyed) (na nb:Nat):=(b.extract 0 nb++a.extract 0 na)++out.reverse
  let mut na:=a.size-1;let mut nb:=b.size;let mut out:Array Keyed:=#[<-elem' a na]
  if na==0 then return (done out na nb)
  if nb==1 then return (js out na nb)
  let mut minGallop:=gallopOf (<-get)
  for _ in [0:total] do
   let mut cV:=0;let mut cW:=0
   for _ in [0:total] do
    let some NU<-lt' (<-elem' b (nb-1)) (<-elem' a (na-1))|return (done out na nb)
    if NU then
     na:=na-1;out:=out.push (<-elem' a na);cV:=cV+1;cW:=0
     if na==0 then return (done out na nb)
     if cV ≥ minGallop then break
    else
     nb:=nb-1;out:=out.push (<-elem' b nb);cW:=cW+1;cV:=0
     if nb==1 then return (js out na nb)
     if cW ≥ minGallop then break
   rule "list.sort.gallop"
   minGallop:=minGallop+1
   for _ in [0:total] do
    if minGallop>1 then minGallop:=minGallop-1
    bj minGallop
    let some at_<-b_ false (<-elem' b (nb-1)) a 0 na (na-1)|return (done out na nb)
    let k:=na-at_
    cV:=k
    if k>0 then
     out:=out++(a.extract at_ na).reverse;na:=at_
     if na==0 then return (done out na nb)
    nb:=nb-1;out:=out.push (<-elem' b nb)
    if nb==1 then return (js out na nb)
    let some at_<-b_ true (<-elem' a (na-1)) b 0 nb (nb-1)|return (done out na nb)
    let k:=nb-at_
    cW:=k
    if k>0 then
     out:=out++(b.extract at_ nb).reverse;nb:=at_
     if nb==1 then return (js out na nb)
     if nb==0 then return (done out na nb)
    na:=na-1;out:=out.push (<-elem' a na)
    if na==0 then return (done out na nb)
    if cV<7&&cW<7 then break
   minGallop:=minGallop+1
   bj minGallop
  unsupported "internal:list.sort.merge-bound"):=rfl
def Ph(a b out:Array Keyed)(i j:Nat):Prop:=((a.toList.take i++b.toList.take j)++out.toList).Perm (a.toList++b.toList)
section
variable {a b out:Array Keyed}{i j k:Nat}
def sU(a:Array Keyed)(h:k<=i):a.toList.take k++(a.extract k i).toList =a.toList.take i:=by
 have:=e_ a (i:=k) (k:=i-k);rwa [show k+(i-k)=i by exact abm h]at this
def dJ(a:Array Keyed):(a.extract 0 i).toList =a.toList.take i:=by
 rw[aby];unfold List.extract;simp
def Ph.qC(h:Ph a b out i j)(hk:k<=i)(_:i<=a.size):Ph a b (out++(a.extract k i).reverse) k j:=by
 unfold Ph at h⊢;refine List.Perm.trans ?_ h;rw[ZN,aaH,<-sU a hk,<-ZW];exact(abL _ (aeg _)).trans<|(dE _ _ _).trans<|(dE _ _ _).append_right _
def Ph.qB(h:Ph a b out i j)(hk:k<=j)(_:j<=b.size):Ph a b (out++(b.extract k j).reverse) i k:=by
 unfold Ph at h⊢;refine List.Perm.trans ?_ h;rw[ZN,aaH,<-sU b hk,<-ZW,<-ZW];exact(abL _ (aeg _)).trans<|dE _ _ _
def jt(h1:1<=i)(hi:i-1<a.size):(a.extract (i-1) i).toList =[a[i-1]]:=by
 have:=gS (a:=a) (i:=i-1) hi;rwa [show i-1+1=i by exact ach h1]at this
def Ph.done(h:Ph a b out i j):((a.extract 0 i++b.extract 0 j)++out.reverse).toList.Perm (a.toList++b.toList):=by
 unfold Ph at h;refine List.Perm.trans ?_ h;rw[ZN,ZN,dJ,dJ,aaH];exact abL _ (aeg _)
def Ph.first(h:Ph a b out i j):((b.extract 0 j++a.extract 0 i)++out.reverse).toList.Perm (a.toList++b.toList):=by
 refine List.Perm.trans ?_ h.done;simp only[ZN];exact adt.append_right _
end
end
section
variable {prog:Program}{w:World}{A:Around}{E:Value->Shared->Prop}{s:Shared}{κ:SortKind}{P:Keyed->Prop}
structure Ar(zt au:SortSt):Prop where
 k:kindOf au=kindOf zt
 a:(arrOf au).Perm (arrOf zt)
 p:pendingOf au=pendingOf zt
 f:failedOf au=failedOf zt
def Ar.rfl':Ar zt zt:=⟨rfl,adL _,rfl,rfl⟩
def Ar.set(h:Ar zt au)(hx:x.Perm (arrOf au)):Ar zt (setArr au x):=⟨h.k,hx.trans h.a,h.p,h.f⟩
theorem Ar.size(h:Ar zt au):(arrOf au).size =(arrOf zt).size :=h.a.size_eq
def Ar.all(h:Ar zt au)(hp:∀x∈arrOf zt,P x):∀x∈arrOf au,P x:=λx hx=>hp x (h.a.mem_iff.mp hx)
def wx(q:Q () (setArr zt (mirror (arrOf zt) i j ((j-i)/2)))):wpS aa3 A E s (reverseSlice' i j) Q zt:=by
 rw[reverseSlice'_eq];exact wpS_modify q
def sV(i:Nat):mergeAt' i=(do
  let s<-get
  let (some (sa,na,power),some (sb,nb,_)):=((pendingOf s)[i]?,(pendingOf s)[i+1]?)|unsupported "internal:list.sort.pending"
  set (setPending s (((pendingOf s).setIfInBounds i (sa,na+nb,power)).eraseIdxIfInBounds (i+1)))
  let some k<-b_ false (<-elem' (arrOf s) sb) (arrOf s) sa na 0|return false
  let (sa,na):=(sa+k,na-k)
  if na==0 then return true
  let some nb<-b_ true (<-elem' (arrOf s) (sa+na-1)) (arrOf s) sb nb (nb-1)|return false
  if nb==0 then return true
  let x:=(arrOf s).extract sa sb
  let y:=(arrOf s).extract sb (sb+nb)
  let merged<-if na<=nb then mE x y else mF x y
  modify λs=>setArr s (merged.toList.zipIdx.foldl (λa (p,j)=>a.setIfInBounds (sa+j) p) (arrOf s))
  return (failedOf (<-get)).isNone):=rfl
def EM{σ:Type}{M:Model}{zt au:σ}{Q:PUnit->σ->Prop}(h:Q ⟨⟩ au):wpS M A E s (set au:StateT σ Sem PUnit) Q zt:=by
 unfold wpS;rw[StateT.run_set];exact Zq ⟨rfl,h⟩
theorem qE:∀(ms:List Keyed) (o j:Nat) (a:Array Keyed),o+j+ms.length<=a.size->
  ((ms.zipIdx j).foldl (λa (p:Keyed×Nat)=>a.setIfInBounds (o+p.2) p.1) a).toList =a.toList.take (o+j)++ms++a.toList.drop (o+j+ms.length)
 |[],o,j,a,h=>by simp
 |m::ms,o,j,a,h=>by
  rw[ZM]at h;rw[List.zipIdx_cons,adM,qE ms o (j+1) _ (by rw[aeh];lia)];have e:(a.setIfInBounds (o+j) m).toList =a.toList.set (o+j) m:=acA ..;have hl:o+j<a.toList.length:=by rw[ZQ];exact Z4 (aai _ _) h
  rw[e,List.set_eq_take_append_cons_drop,ZD hl,ZM];have ht:(List.take (o+j) a.toList).length =o+j:=by rw[aaM];exact acm (ZP hl)
  have e5:(a.toList.take (o+j)++m::a.toList.drop (o+j+1)).take (o+(j+1))=a.toList.take (o+j)++[m]:=by
   rw[List.take_append,ht,show o+(j+1)-(o+j)=1 by exact aeV (aad (ado _ _)),aau (by rw[ht];exact Nat.le_succ _)];rfl
  have e6:(a.toList.take (o+j)++m::a.toList.drop (o+j+1)).drop (o+(j+1)+ms.length)=a.toList.drop (o+j+(ms.length+1)):=by
   rw[List.drop_append,ht,show o+(j+1)+ms.length-(o+j)=ms.length+1 by exact Rh,List.drop_of_length_le (by rw[ht];exact ZP (aai _ _)),acQ,List.drop_succ_cons,adW];congr 1;exact Z_ _ _ _
  rw[e5,e6];simp
def wy{a:Array Keyed}(h:x∈a.extract i j):x∈a:=by
 rw[<-abj,aby]at h;unfold List.extract at h;exact abj.mp (abz (aaA h))
def NV[Decidable c](h1:x+1<n)(h2:y+1<n):(if c then x else y)+1<n:=by split<;>assumption
end
open PySem.W
def iS(h:Heap)(v:Value):Prop:=∃(x:Addr) (o:Obj) (xs:List Value) (n:Nat) (i:Int) (r:List Int),v= .ref x/\h.get? x=some o/\o.cls= .type "tuple"/\o.data= .seq xs.toArray n/\IntsAre xs (i::r)
section
variable {prog:Program}{w:World}{A:Around}{E:Value->Shared->Prop}{s:Shared}
theorem kU:∀{vs:List Value},(∀v∈vs,iS h v)->∃fs,KatTups h vs fs/\(∀f∈fs,∃i t,f=Value.int i t)/\fs.length=vs.length
 |[],_=>⟨[],.nil,λ_ z=>(nomatch z),rfl⟩
 |v::vs,hv=>by
  refine bO (kU (vs:=vs) λz hz=>hv z (Zm _ hz)) λfs h1 h2 h3=>L_ (hv v Zt) λx o xs n i r af g1 g2 g3 g4=>?_;subst af;cases g4 with
  |cons _ t g5=>exact⟨_,.cons g1 g2 g3 rfl h1,λf hf=>(ZC.mp hf).elim (λz=>⟨i,t,z⟩) (h2 f),by rw[ZM,ZM,h3]⟩
def sW(vs:List Value):(vs.toArray.zip vs.toArray).map (λp:Keyed=>p.2)=vs.toArray:=by
 apply aey.mp;rw[adB,Array.toList_zip];exact aez (Zu _)
end
end bJ
namespace L2
open PySem PySem.Spec PyProof.Rows
def gb(h:Heap)(d:Addr)(es:Array DictEntry)(ep:Nat):Prop:=∃o,h.get? d=some o/\o.ExactDict/\o.data= .dict es ep
def gb.ty{s:Shared}(r:gb s.heap d es ep):s.TypeIs (.ref d) "dict":=let ⟨o,e,c,_⟩:=r;⟨o,e,c.1⟩
def gb.on(r:gb h d es ep)(k:∀o,h.get? d=some o->h'.get? d=some o):gb h' d es ep:=let ⟨o,e,c⟩:=r;⟨o,k o e,c⟩
def gb.lt(r:gb h d es ep):d<h.objs.size:=let ⟨_,e,_⟩:=r;ZG e
section
variable {prog:Program}{w:World}{A:Around}{E:Value->Shared->Prop}{s:Shared}{d:Addr}{es:Array DictEntry}{ep:Nat}
end
open PySem.W
section
variable {prog:Program}{w:World}{A:Around}{E:Value->Shared->Prop}{s:Shared}{d it:Addr}{es:Array DictEntry}{ep i:Nat}
def sX(hm:(d==sysModules)=false)(r:gb s.heap d es ep)(h:Q (.ref s.heap.objs.size) {s with heap:=s.heap.push {cls:= .type "dict_keyiterator",data:= .fields #[.ref d,.int 0 0,.int es.size 0,.int ep 0]}}):
  wpAny aa3 A (pyIter (.ref d)) Q E s:=by
 have T:=r.ty;refine bO r λo e c dt=>aei T F.slot_dict_iter (aaw F.slot_dict_iter T F.entry_dict_iter ?_ (F.args_dict_iter_1 _));unfold Builtin.«dict.__iter__» Builtin.Dict.dictSlotNone;refine Zh (Zh (wpAny_notOrdered_dict T ?_));show wpAny _ _ (pure (Value.ref d)) _ _ s;refine Zq ?_;show wpAny _ _ (Builtin.Dict.showsAll d >>= λ_=>_) _ _ s;unfold Builtin.Dict.showsAll;rw[ZL (by rw[hm];exact Zl)];refine Zh (Zq (Zh (aej e dt (Zh (aeQ e dt ?_)))));refine Zh (aaj (Zq ⟨_,rfl,"dict_keyiterator",_,⟨_,ZF _ rfl,rfl⟩,abe.lookup,?_⟩));simpa[rawInt]using h
def sY(k:s.heap.IsKeyIter it d i es.size ep)(r:gb s.heap d es ep)(hi:i<es.size)
  (h:∀h',h'.IsKeyIter it d (i+1) es.size ep->Heap.SameBut it s.heap h'->Q (some es[i].key) {s with heap:=h'}):wpAny aa3 A (pyNext (.ref it)) Q E s:=by
 have T:=k.typeIs;refine bO (id k) λoi ei ci di=>bO r λo e c dt=>?_;unfold pyNext;refine Zh (aeu (aaR (name:=Str.ofString "__next__") T abe (aaw abe T adC ?_ (adu _))));refine Zh (Zq (Zh (Zh ?_)))
 first|refine Zh (abw T (Zq (Zh (adm ei di ?_))))|refine Zh (abT T (Zq (Zh (adm ei di ?_))))
 have own:Builtin.Dict_items.ownsTuple "dict_keyiterator"=false:=by decide
 simp only[own,aaV,if_false];show wpAny _ _ (if(Value.ref d==Value.none)=true then _ else _) _ _ s;rw[ZL (show¬((Value.ref d==Value.none)=true) from Zl)];refine Zh (Zq (Zh (aej e dt ?_)));rw[ZL aa9];refine Zh (Zq (Zh (aeQ e dt ?_)));rw[ZL aa9];refine Zq ?_;simp only[show¬((i:Int)<0) from(abk (Z6 _)),if_false,aaE,ZK hi];refine Zh ?_
 first|refine Zh (abw T (Zq (Zh (adv T ?_))))|refine Zh (abT T (Zq (Zh (adv T ?_))))
 show wpAny _ _ (setField (.ref it) 1 (rawInt ((i:Int)+1)) >>= λ_=>_) _ _ s;refine Zh (abN ei di aa9 ?_);have k':(s.heap.update it (Obj.mapFields (·.setIfInBounds 1 (rawInt ((i:Int)+1))))).IsKeyIter it d (i+1) es.size ep:=
  ⟨_,aaJ _ ei (acp (abg di _)),(adi ..).trans ci,by rw[abg di];simp[rawInt]⟩
 refine Zh (aan (Zh (adv (s:={s with heap:=s.heap.update it (Obj.mapFields (·.setIfInBounds 1 (rawInt ((i:Int)+1))))}) k'.typeIs ?_)));show wpAny _ _ (pure es[i].key) _ _ _;exact Zq (Zq ⟨_,rfl,Zq (h _ k' (aaK ..))⟩)
def wz(hh:A.handled=none)(k:s.heap.IsKeyIter it d es.size es.size ep)(r:gb s.heap d es ep)(h:∀h',Heap.ExtBut it s.heap h'->Q none {s with heap:=h'}):wpAny aa3 A (pyNext (.ref it)) Q E s:=by
 have T:=k.typeIs;refine bO (id k) λoi ei ci di=>bO r λo e c dt=>?_;unfold pyNext;refine Zh (aeu (aaR (name:=Str.ofString "__next__") T abe (aaw abe T adC ?_ (adu _))));refine Zh (Zq (Zh (Zh ?_)))
 first|refine Zh (abw T (Zq (Zh (adm ei di ?_))))|refine Zh (abT T (Zq (Zh (adm ei di ?_))))
 have own:Builtin.Dict_items.ownsTuple "dict_keyiterator"=false:=by decide
 simp only[own,aaV,if_false];show wpAny _ _ (if(Value.ref d==Value.none)=true then _ else _) _ _ s;rw[ZL (show¬((Value.ref d==Value.none)=true) from Zl)];refine Zh (Zq (Zh (aej e dt ?_)));rw[ZL aa9];refine Zh (Zq (Zh (aeQ e dt ?_)));rw[ZL aa9];refine Zq ?_;simp only[show¬((es.size:Int)<0) from(abk (Z6 _)),if_false,aaE,acg (Zu es.size)];refine Zh ?_
 first|refine Zh (abw T (Zq ?c))|refine Zh (abT T (Zq ?c))
 case c=>
  show wpAny _ _ (setField (.ref it) 0 .none >>= λ_=>_) _ _ s;refine Zh (abN ei di aa9 ?_);show wpAny _ _ (newExc (.type "StopIteration") [] >>= λ_=>_) _ _ _;refine Zh ?_;simp only[newExc,newTuple];refine Zh (aaj (Zh (m:=firstArgMember _ _) (aet (a:=Value.none) (by first|rfl|(simp only[firstArgMember];rfl)) (aaj ?_ (by size_fits)))) (by size_fits));simp only[raiseNew];refine Zh (wpAny_handled ?_);rw[show A.in1.handled=none from hh];refine(Zh (Zq (wpAny_throw ?_)));refine(Zh (aeA (T:="StopIteration") (b:=true) ⟨_,ZF _ rfl,rfl⟩ isSubtype_stop ?_));exact Zq (h _ (((aaK ..).extBut.push _).push _))
def sZ(k:s.heap.IsKeyIter it d i n ep)(h:Q (.ref it) s):wpAny aa3 A (pyIter (.ref it)) Q E s:=wpAny_pyIter_keyiter k h
def yX(hh:A.handled=none)(it d:Addr)(d_:d≠it)(es:Array DictEntry)(ep:Nat):Walks prog w A it [it,d] [it] es.size (λi v=>∃e,es[i]?=some e/\v=e.key) (λi h=>h.IsKeyIter it d i es.size ep/\gb h d es ep) where
 sub:=λb hb=>by simp at hb;simp[hb]
 frame:=λ_ _ _ st hk=>⟨st.1.at λo e=>hk it aa9 o e,st.2.on λo e=>hk d aa9 o e⟩
 item:=λi s Q E hi st hQ=>sY st.1 st.2 hi λh' k' hs=>hQ _ h' s.toks ⟨_,ZK hi,rfl⟩ ⟨k',st.2.on λo e=>hs.extBut d o d_ e⟩ λb o hb e=>hs.extBut b o (λz=>hb (by simp[z])) e
 done:=λs Q E st hQ=>wz hh st.1 st.2 λh' he=>hQ h' s.toks λb o hb e=>he b o (λz=>hb (by simp[z])) e
 self:=λ_ _ _ _ st hQ=>sZ st.1 hQ
def wA(lo:(d==sysModules)=false):KdlSrc prog w "dict" d d es.size (λi v=>∃e,es[i]?=some e/\v=e.key) (λh=>gb h d es ep) where
 type:=λ_ r=>r.ty
 there:=λ_ r=>⟨r.lt,r.lt⟩
 keep:=λ_ _ r hk=>r.on λo e=>hk d (.inl rfl) o e
 notList:=by decide
 notTuple:=by decide
 hint:=λ_ _ _ _ r hq=>kdl_hint_dict r.ty hq
 iter:=λA s hh r=>⟨_,λi h=>h.IsKeyIter s.heap.objs.size d i es.size ep/\gb h d es ep,(λ_ _ hq=>sX lo r hq),yX hh _ d (ZT r.lt) es ep,⟨⟨_,ZF _ rfl,rfl,rfl⟩,r.on λo e=>Zi _ e⟩⟩
end
def vg(I:aa5)(e:Rd H a (.dK ax)):∃es ep,gb s.heap a es ep/\es.size=ax.length/\(a==sysModules)=false/\ax.length<=sizeLine/\∀(i:Nat) (kv:cS×V),ax[i]?=some kv->∃en,es[i]?=some en/\RelV (kV kv.1) en.key:=by
 obtain⟨z,lo,vs,eY,o,es,ep,h1,h2,h3,h4,h5,h6⟩:=jr I.aX e;have hl:es.size=ax.length:=by rw[eY.length,<-h5.length];simp
 refine⟨es,ep,⟨o,h1,h2,h3⟩,hl,lo,z,λi kv hi=>?_⟩;have aU:i<ax.length:=(ZJ.mp hi).1;have u_:i<es.size:=(Zn aU (Zy (aad hl)));have UR:i<vs.length:=by rw[<-eY.length];exact aU
 refine⟨es[i],ZK u_,?_⟩;have hk:=(h5.get? (e:=es[i]) (k:=vs[i].1) (v:=vs[i].2) (i:=i) (by rw[ZY];exact ZK u_) (Zj UR)).1;have he:vs[i].1 =kv.1:=by
  have:=congrArg (λl:List cS=>l[i]?) eY.keys;simp only[Zz,hi,Zj UR,aco]at this;exact(ZU this).symm
 rw[he]at hk;rcases bh (show lV kv.1 es[i].key =true from hk)with⟨n,t,e1,e2⟩|⟨x,t,e1,e2⟩
 .rw[e1,e2];exact⟨t,rfl⟩
 .rw[e1,e2];exact⟨t,rfl⟩
section
variable {X:Cx}
end
noncomputable def SA(a:Addr)(o:Obj)(ax:List (cS×V)):It:=
 ⟨λi H=>H a=some (.dC o (.dK ax))/\i<ax.length,λi H x H'=>H'=H/\(ax[i]?).map (λkv=>kV kv.1)=some x,λi H=>H a=some (.dC o (.dK ax))/\i=ax.length⟩
def wB(I:aa5)(e:H a=some (.dC o (.dK ax)))(hd:o.data= .dict es ep):
  gb s.heap a es ep/\es.size=ax.length/\∀(i:Nat) (kv:cS×V),ax[i]?=some kv->∃en,es[i]?=some en/\RelV (kV kv.1) en.key:=by
 refine jU (vg I (.inr ⟨o,e⟩)) λvU IA r1 r2 _ _ r5=>?_;have ho:s.heap.get? a=some o:=(show aT X.prog X.w H s.heap a (.dC o (.dK ax)) from I.aX a _ e).1;refine bO (id r1) λo' g1 g2 g3=>?_;rw[ho]at g1;cases g1;rw[hd]at g3;cases g3;exact⟨r1,r2,r5⟩
def EN{K:aH}(a it:Addr)(d_:a≠it)(o:Obj)(ax:List (cS×V))(es:Array DictEntry)(ep:Nat)(hd:o.data= .dict es ep):r0 P w K tg (SA a o ax) [it] it (λi h=>h.IsKeyIter it a i es.size ep) where
 mem:=by simp
 obj:=λi h st b hb=>by
  have e:b=it:=by simpa using hb
  subst e;exact bO st λo e c d=>⟨o,e,λv z=>by rw[d]at z;cases z⟩
 keep:=λi h h' st k=>st.at λo e=>k it aa9 o e
 item:=by
  intro X hP hw hK hc i U s σ H E I hf st hg;subst hP hw hK;obtain⟨e1,e2⟩:=hg;refine cP (wB I e1 hd) λr1 r2 r3=>vS (hf it aa9) λf0 f1 f2 f3 f4 f5=>?_;have hi:i<es.size:=(Zn e2 (Zy (aad r2)));refine aa (r3 i ax[i] (Zj e2)) λen n1 n2=>?_;rw[ZK hi]at n1;cases n1;refine sY st r1 hi λh' k' hs=>?_;have I1:Inv X U σ H {s with heap:=h'}:=I.turned (t':=s.toks) (λb o hb e=>(hs.2 b hb).trans e) f0 f1 f3 f4 f5;exact bO (id k') λoi g1 g2 g3=>⟨_,rfl,r8 (s:={s with heap:=h'}) g1 g2 g3 aa1 ⟨_,H,I1,n2,⟨rfl,by rw[Zj e2];rfl⟩,k',λb hb=>(hf b hb).1⟩⟩
 done:=by
  intro X hP hw hK hc i U s σ H E I hf st hg;subst hP hw hK;obtain⟨e1,e2⟩:=hg;refine cP (wB I e1 hd) λr1 r2 r3=>vS (hf it aa9) λf0 f1 f2 f3 f4 f5=>?_;have e:i=es.size:=(aeS e2 (aad r2));subst e;exact wz (I.ok.hd hc) st r1 λh' eb=>⟨rfl,I.turned (t':=s.toks) (λb o hb e=>eb b o hb e) f0 f1 f3 f4 f5⟩
 self:=λ_ _ _ _ _ st h=>sZ st h
section
variable {X:Cx}{tg:Expr}
def W6(tl:TE):TI:=λσ H R=>tl σ H λx H1=>∃a o ax,x= .ref a/\H1 a=some (.dC o (.dK ax))/\R (SA a o ax) H1
def NW(hl:PE X l tl):PI X tg l (W6 tl):=by
 intro U s σ H R I h;refine bH (hl U s σ H _ I h) λv s1 zz=>bu zz λx H1 I1 r1 q1=>cn q1 λa o ax e hq q=>?_;subst e;cases r1;refine jU (vg I1 (.inr ⟨o,hq⟩)) λes ep g1 g2 g3 g4 g5=>?_;have ho:s1.heap.get? a=some o:=(show aT X.prog X.w H1 s1.heap a (.dC o (.dK ax)) from I1.aX a _ hq).1;have hd:o.data= .dict es ep:=by
  refine bO (id g1) λo' z1 z2 z3=>?_;rw[ho]at z1;cases z1;exact z3
 refine sX g3 g1 ?_;refine⟨s1.heap.objs.size,[s1.heap.objs.size],_,_,H1,rfl,I1.kept (t':=s1.toks) λb o e=>Zi _ e,EN a _ (ZT (ZG ho)) o ax es ep hd,⟨_,ZF _ rfl,rfl,rfl⟩,λb hb=>?_,q⟩;have e:b=s1.heap.objs.size:=by simpa using hb
 subst e;exact I1.yA (Zu _) (I1.aX.fresh (Zu _))
def NX(tk tv:TE):TE:=λσ H Q=>∀p,H p=none->tk σ (upd H p (.dT [])) λx H1=>tv σ H1 λy H2=>∃b ks,x= .ref b/\H2 b=some (.tup (ks.map kV))/\H2 p=some (.dT [])/\Q (.ref p) (upd H2 p (.dT [(ks,y)]))
def EO(hu:X.A.units+1<cLine)(hk:PE X k tk)(hv:PE X v tv):PE X (.Dict [some k] [v] pos) (NX tk tv):=by
 intro U s σ H Q I h;have hn:H s.heap.objs.size=none:=I.aX.fresh (Zu _);refine wpAny_Dict_any rfl rfl aa9 (show 1<=15 by decide) ?_;have I0:Inv X U σ (upd H s.heap.objs.size (.dT [])) {s with heap:=s.heap.push {cls:= .type "dict",data:= .dict #[]}}:=I.laid (a:=s.heap.objs.size) (o:= .dT []) (t':=s.toks) (λ_ _ q=>Zi _ q) (Zu _) (Bc s.heap I.big);refine pairTrees_cons_walk (bH (hk U _ σ _ _ I0 (h _ hn)) λkv s1 ⟨x,H1,I1,r1,q1⟩=>bH (hv U s1 σ H1 _ I1 q1) λvv s2 ⟨y,H2,I2,r2,q2⟩=>pairTrees_nil_walk ?_);refine gQ q2 λb ks ex eb ep q3=>?_;subst ex;cases r1;unfold storeAll;rw[abR];obtain⟨z,hd,xs,eY,dd⟩:=Hu I2.aX ep;cases eY;refine Zh (Zh (wpAny_dictSet_heap (hsz:=aak _) (knd:=tupleKind (bc X.prog X.w)) (show X.A.units<cLine by exact ZP hu) (j_ I2.aX eb) dd λh' EH hs=>Zq ?_));dsimp only;rw[List.forIn_nil];refine Zq ⟨.ref s.heap.objs.size,_,?_,rfl,q3⟩;refine MC EH λo es e2 g1 g2 g3 g4 _ g5=>?_;refine lC I2 (by rw[ep];exact True.intro) hs ⟨o,g1⟩ ⟨by rw[sizeLine_eq];exact(by decide:(1:Nat)<=16777216),hd,_,?_,o,es,e2,g1,g2,g3,g4,g5⟩;refine .cons ⟨rfl,?_,r2⟩ .nil;rw[ai (fX eb ep (λz=>nomatch z))];exact eb
end
end L2
namespace bJ
open PySem PyProof.Rows
structure Ord(r:Keyed->Keyed->Bool):Prop where
 QF:∀x y,r x y=true->r y x=false
 tr:∀x y z,r y x=false->r z y=false->r z x=false
def le(r:Keyed->Keyed->Bool)(x y:Keyed):Prop:=r y x=false
section
variable {r:Keyed->Keyed->Bool}{prog:Program}{w:World}{A:Around}{E:Value->Shared->Prop}{s:Shared}{κ:SortKind}{P:Keyed->Prop}
def Ord.refl(O:Ord r)(x:Keyed):le r x x:=by
 show r x x=false;cases h:r x x with
 |false=>rfl
 |true=>exact(O.QF x x h).symm.trans h |>.symm ▸rfl
def Ord.of_lt(O:Ord r)(h:r x y=true):le r x y:=O.QF x y h
def Ord.trans(O:Ord r)(h1:le r x y)(h2:le r y z):le r x z:=O.tr x y z h1 h2
def mH(prog:Program)(w:World)(A:Around)(E:Value->Shared->Prop)(s:Shared)(κ:SortKind)(P:Keyed->Prop)(r:Keyed->Keyed->Bool):Prop:=
 ∀(x y:Keyed) (st:SortSt) (Q:Option Bool->SortSt->Prop),P x->P y->kindOf st=κ->Q (some (r x y)) st->wpS aa3 A E s (lt' x y) Q st
noncomputable def vh(r:Keyed->Keyed->Bool)(left:Bool)(key x:Keyed):Bool:=if left then r x key else !r key x
def Be{left:Bool}{key:Keyed}{arr:Array Keyed}{base i:Nat}{st:SortSt}{Q:Option Bool->SortSt->Prop}(L:mH prog w A E s κ P r)(hk:kindOf st=κ)(hp:P key)(ha:∀x∈arr,P x)(hi:base+i<arr.size)(q:Q (some (vh r left key arr[base+i])) st):
  wpS aa3 A E s (fN left key arr base i) Q st:=by
 unfold fN;refine wpS_bind (bz hi ?_);have hx:=ha _ (aax hi);cases left with
 |true=>exact L _ _ st _ hx hp hk q
 |false=>exact wpS_bind (L _ _ st _ hp hx hk (wpS_pure q))
def Bf(O:Ord r)(h:le r x y)(hy:vh r left key y=true):vh r left key x=true:=by
 unfold vh at hy⊢;cases left with
 |true=>
  have DR:r y key=true:=hy;show r x key=true;cases e:r x key with
  |true=>rfl
  |false=>
   have:=O.tr key x y e h;rw[this]at DR;cases DR
 |false=>
  have DR:(!r key y)=true:=hy;show(!r key x)=true;have h1:r key y=false:=by simpa using DR
  have:=O.tr x y key h h1;simp[this]
def Bg{left:Bool}{key:Keyed}{arr:Array Keyed}{base n hint:Nat}{st:SortSt}{Q:Option Nat->SortSt->Prop}{f:Nat->Bool}(hn:hint<n)(hB:∀(i:Nat) (Q:Option Bool->SortSt->Prop),i<n->Q (some (f i)) st->wpS aa3 A E s (fN left key arr base i) Q st)
  (mono:∀i j,i<=j->j<n->f j=true->f i=true)
  (q:∀k,k<=n->(∀i,i<k->f i=true)->(∀i,k<=i->i<n->f i=false)->Q (some k) st):wpS aa3 A E s (b_ left key arr base n hint) Q st:=by
 have up:∀i j,i<=j->j<n->f i=false->f j=false:=λi j h1 h2 h3=>by
  cases e:f j with
  |false=>rfl
  |true=>rw[mono i j h1 h2 e]at h3;cases h3
 rw[vd];refine wpS_bind (hB hint _ hn ?_);dsimp only;cases e0:f hint with
 |true=>
  rw[ZD rfl];refine wpS_bind (wpS_mono (wpS_forRange (I:=λi c au=>au=st/\∃l o,c=(none,l,o)/\l<o/\i+1<=o/\hint+l<n/\f (hint+l)=true)
   (Q:=λc au=>au=st/\∃l o,c=(none,l,o)/\l<o/\hint+l<n/\f (hint+l)=true/\(n-hint<=o\/(hint+o<n/\f (hint+o)=false))) ?_ ?_ ⟨rfl,0,1,rfl,by omega,by omega,by omega,e0⟩) ?_)
  .rintro i c au _ _ ⟨rfl,l,o,rfl,g1,g2,g3,g4⟩;dsimp only;by_cases hg:o ≥ n-hint
   .rw[ZD hg];exact wpS_pure ⟨rfl,l,o,rfl,g1,g3,g4,.inl hg⟩
   .rw[ZL hg];refine wpS_bind (hB (hint+o) _ aa0 ?_);cases e1:f (hint+o)with
    |true=>exact wpS_pure ⟨rfl,_,_,rfl,by omega,by omega,by omega,e1⟩
    |false=>exact wpS_pure ⟨rfl,_,_,rfl,g1,g3,g4,.inr ⟨by omega,e1⟩⟩
  .rintro c au ⟨rfl,l,o,rfl,g1,g2,g3,g4⟩;exact⟨rfl,l,o,rfl,g1,g3,g4,.inl aa0⟩
  rintro c au ⟨rfl,l,o,rfl,g1,g3,g4,g5⟩;dsimp only;have a1:∀i,i<hint+l+1->f i=true:=λi hi=>mono i (hint+l) aa0 g3 g4;have a2:∀i,hint+min o (n-hint)<=i->i<n->f i=false:=λi h1 h2=>by
   rcases g5 with g5|⟨g5,g6⟩
   .omega
   .exact up (hint+o) i aa0 h2 g6
  refine wpS_bind (wpS_mono (wpS_forRange (I:=λi c cN=>cN=au/\∃lo hi,c=(none,lo,hi)/\lo<=hi/\hi<=n/\hi-lo+i<=n/\(∀i,i<lo->f i=true)/\(∀i,hi<=i->i<n->f i=false)) (Q:=λc cN=>cN=au/\∃lo hi,c=(none,lo,hi)/\hi<=n/\(∀i,i<hi->f i=true)/\(∀i,hi<=i->i<n->f i=false)) ?_ ?_ ⟨rfl,_,_,rfl,by omega,by omega,by omega,a1,a2⟩) ?_)
  .rintro i c cN _ _ ⟨rfl,lo,hi,rfl,z1,z2,z3,z4,z5⟩;dsimp only;by_cases hg:lo ≥ hi
   .rw[ZD hg];exact wpS_pure ⟨rfl,lo,hi,rfl,z2,λi h=>z4 i aa0,z5⟩
   .rw[ZL hg];refine wpS_bind (hB _ _ aa0 ?_);cases e2:f (lo+(hi-lo)/2)with
    |true=>exact wpS_pure ⟨rfl,_,hi,rfl,by omega,z2,by omega,λi h=>mono i _ aa0 aa0 e2,z5⟩
    |false=>exact wpS_pure ⟨rfl,lo,_,rfl,by omega,by omega,by omega,z4,λi h1 h2=>up _ i h1 h2 e2⟩
  .rintro c cN ⟨rfl,lo,hi,rfl,z1,z2,z3,z4,z5⟩;exact⟨rfl,lo,hi,rfl,z2,λi h=>z4 i aa0,z5⟩
  .rintro c cN ⟨rfl,lo,hi,rfl,z2,z4,z5⟩;exact wpS_pure (q hi z2 z4 z5)
 |false=>
  rw[ZL Zl];refine wpS_bind (wpS_mono (wpS_forRange (I:=λi c au=>au=st/\∃l o,c=(none,l,o)/\l<o/\i+1<=o/\l<=hint/\f (hint-l)=false)
   (Q:=λc au=>au=st/\∃l o,c=(none,l,o)/\l<o/\l<=hint/\f (hint-l)=false/\(hint+1<=o\/(o<=hint/\f (hint-o)=true))) ?_ ?_ ⟨rfl,0,1,rfl,by omega,by omega,by omega,e0⟩) ?_)
  .rintro i c au _ _ ⟨rfl,l,o,rfl,g1,g2,g3,g4⟩;dsimp only;by_cases hg:o ≥ hint+1
   .rw[ZD hg];exact wpS_pure ⟨rfl,l,o,rfl,g1,g3,g4,.inl hg⟩
   .rw[ZL hg];refine wpS_bind (hB (hint-o) _ aa0 ?_);cases e1:f (hint-o)with
    |true=>exact wpS_pure ⟨rfl,_,_,rfl,g1,g3,g4,.inr ⟨by omega,e1⟩⟩
    |false=>exact wpS_pure ⟨rfl,_,_,rfl,by omega,by omega,by omega,e1⟩
  .rintro c au ⟨rfl,l,o,rfl,g1,g2,g3,g4⟩;exact⟨rfl,l,o,rfl,g1,g3,g4,.inl aa0⟩
  rintro c au ⟨rfl,l,o,rfl,g1,g3,g4,g5⟩;dsimp only;have a1:∀i,i<hint+1-min o (hint+1)->f i=true:=λi hi=>by
   rcases g5 with g5|⟨g5,g6⟩
   .omega
   .exact mono i (hint-o) aa0 aa0 g6
  have a2:∀i,hint-l<=i->i<n->f i=false:=λi h1 h2=>up (hint-l) i h1 h2 g4;refine wpS_bind (wpS_mono (wpS_forRange (I:=λi c cN=>cN=au/\∃lo hi,c=(none,lo,hi)/\lo<=hi/\hi<=n/\hi-lo+i<=n/\(∀i,i<lo->f i=true)/\(∀i,hi<=i->i<n->f i=false)) (Q:=λc cN=>cN=au/\∃lo hi,c=(none,lo,hi)/\hi<=n/\(∀i,i<hi->f i=true)/\(∀i,hi<=i->i<n->f i=false)) ?_ ?_ ⟨rfl,_,_,rfl,by omega,by omega,by omega,a1,a2⟩) ?_)
  .rintro i c cN _ _ ⟨rfl,lo,hi,rfl,z1,z2,z3,z4,z5⟩;dsimp only;by_cases hg:lo ≥ hi
   .rw[ZD hg];exact wpS_pure ⟨rfl,lo,hi,rfl,z2,λi h=>z4 i aa0,z5⟩
   .rw[ZL hg];refine wpS_bind (hB _ _ aa0 ?_);cases e2:f (lo+(hi-lo)/2)with
    |true=>exact wpS_pure ⟨rfl,_,hi,rfl,by omega,z2,by omega,λi h=>mono i _ aa0 aa0 e2,z5⟩
    |false=>exact wpS_pure ⟨rfl,lo,_,rfl,by omega,by omega,by omega,z4,λi h1 h2=>up _ i h1 h2 e2⟩
  .rintro c cN ⟨rfl,lo,hi,rfl,z1,z2,z3,z4,z5⟩;exact⟨rfl,lo,hi,rfl,z2,λi h=>z4 i aa0,z5⟩
  .rintro c cN ⟨rfl,lo,hi,rfl,z2,z4,z5⟩;exact wpS_pure (q hi z2 z4 z5)
noncomputable abbrev sg(arr:Array Keyed)(base n:Nat):List Keyed:=(arr.toList.drop base).take n
def fO(hi:i<n)(hz:base+n<=arr.size):(sg arr base n)[i]?=some (arr[base+i]' aa0):=by
 rw[acj,ZD hi,acR,ZY,ZK]
def dM(hz:base+n<=arr.size):(sg arr base n).length =n:=by
 rw[aaM,acb,ZQ];omega
def cX{left:Bool}{key:Keyed}{arr:Array Keyed}{base n hint:Nat}{st:SortSt}{Q:Option Nat->SortSt->Prop}(L:mH prog w A E s κ P r)(O:Ord r)(hk:kindOf st=κ)(hp:P key)(ha:∀x∈arr,P x)(hz:base+n<=arr.size)(hn:hint<n)
  (hS:(sg arr base n).Pairwise (le r))
  (q:∀k,k<=n->(∀x∈(sg arr base n).take k,vh r left key x=true)->(∀x∈(sg arr base n).drop k,vh r left key x=false)->Q (some k) st):wpS aa3 A E s (b_ left key arr base n hint) Q st:=by
 have hl:=dM hz;have fe:∀i (h:i<n),(((sg arr base n)[i]?).elim false (vh r left key))=vh r left key (arr[base+i]' aa0):=λi h=>by rw[fO h hz];rfl
 refine Bg (f:=λi=>((sg arr base n)[i]?).elim false (vh r left key)) hn (λi Q hi hq=>Be L hk hp ha aa0 (by rw[<-fe i hi];exact hq)) (λi j A6 hj hf=>?_) (λk JQ h1 h2=>q k JQ (λx hx=>?_) (λx hx=>?_))
 .rcases aap i j with z|z
  .rw[fe j hj]at hf;rw[fe i aa0];refine Bf O ?_ hf;have:=(aaY.mp hS) i j aa0 aa0 z;have e1:=fO (arr:=arr) (show i<n by omega) hz;have e2:=fO (arr:=arr) hj hz;rw[Zj aa0]at e1 e2;rw[ZU e1,ZU e2]at this;exact this
  .rw[show i=j by omega];exact hf
 .obtain⟨i,hi,rfl⟩:=abY hx;rw[aaM]at hi;have:=h1 i aa0;rw[Zj aa0]at this;rw[List.getElem_take];exact this
 .obtain⟨i,hi,rfl⟩:=abY hx;rw[acb]at hi;have:=h2 (k+i) aa0 aa0;rw[Zj aa0]at this;rw[List.getElem_drop];exact this
structure Ms(r:Keyed->Keyed->Bool)(a b out:Array Keyed)(i j:Nat):Prop where
 p:Pt a b out i j
 s:out.toList.Pairwise (le r)
 ta:∀x∈out.toList,∀y∈a.toList.drop i,le r x y
 tb:∀x∈out.toList,∀y∈b.toList.drop j,le r x y
end
section
variable {r:Keyed->Keyed->Bool}{a b out:Array Keyed}{i j k:Nat}
def dN(a:Array Keyed)(i k:Nat):(a.extract i (i+k)).toList =sg a i k:=by
 rw[aby];unfold List.extract;rw[show i+k-i=k by omega]
def Bh(a:Array Keyed)(i k:Nat):a.toList.drop i=sg a i k++a.toList.drop (i+k):=by
 have:=(aaL k (a.toList.drop i)).symm;rwa [adW]at this
theorem Ms.qC(h:Ms r a b out i j)(sa:a.toList.Pairwise (le r))(hb:∀x∈sg a i k,∀y∈b.toList.drop j,le r x y):Ms r a b (out++a.extract i (i+k)) (i+k) j:=by
 have sd:(a.toList.drop i).Pairwise (le r):=sa.sublist (aaF _ _);have e:=Bh a i k;rw[e,aaa]at sd;obtain⟨p1,p2,p3⟩:=sd;have NY:∀x∈out.toList,∀y∈sg a i k++a.toList.drop (i+k),le r x y:=λx hx y hy=>h.ta x hx y (by rw[e];exact hy);refine⟨h.p.qC,?_,λx hx y hy=>?_,λx hx y hy=>?_⟩
 .rw[ZN,dN,aaa];exact⟨h.s,p1,λx hx y hy=>NY x hx y (ZO _ hy)⟩
 .rw[ZN,dN]at hx;rcases ZI.mp hx with z|z
  .exact NY x z y (ZH _ hy)
  .exact p3 x z y hy
 .rw[ZN,dN]at hx;rcases ZI.mp hx with z|z
  .exact h.tb x z y hy
  .exact hb x z y hy
theorem Ms.qB(h:Ms r a b out i j)(sb:b.toList.Pairwise (le r))(ha:∀x∈sg b j k,∀y∈a.toList.drop i,le r x y):Ms r a b (out++b.extract j (j+k)) i (j+k):=by
 have sd:(b.toList.drop j).Pairwise (le r):=sb.sublist (aaF _ _);have e:=Bh b j k;rw[e,aaa]at sd;obtain⟨p1,p2,p3⟩:=sd;have NZ:∀x∈out.toList,∀y∈sg b j k++b.toList.drop (j+k),le r x y:=λx hx y hy=>h.tb x hx y (by rw[e];exact hy);refine⟨h.p.qB,?_,λx hx y hy=>?_,λx hx y hy=>?_⟩
 .rw[ZN,dN,aaa];exact⟨h.s,p1,λx hx y hy=>NZ x hx y (ZO _ hy)⟩
 .rw[ZN,dN]at hx;rcases ZI.mp hx with z|z
  .exact h.ta x z y hy
  .exact ha x z y hy
 .rw[ZN,dN]at hx;rcases ZI.mp hx with z|z
  .exact NZ x z y (ZH _ hy)
  .exact p3 x z y hy
def Ms.cg(h:Ms r a b out i j)(e:o.toList=out.toList):Ms r a b o i j:=⟨by unfold Pt;rw[e];exact h.p,by rw[e];exact h.s,λx hx=>h.ta x (by rw[<-e];exact hx),λx hx=>h.tb x (by rw[<-e];exact hx)⟩
def Ms.pB(h:Ms r a b out i j)(sa:a.toList.Pairwise (le r))(hi:i<a.size)(hb:∀y∈b.toList.drop j,le r a[i] y):Ms r a b (out.push a[i]) (i+1) j:=by
 refine(h.qC (k:=1) sa λx hx=>?_).cg (by rw[ZN,gS hi,<-abC]);rw[<-dN,gS hi,Zp]at hx;rw[hx];exact hb
def Ms.pC(h:Ms r a b out i j)(sb:b.toList.Pairwise (le r))(hj:j<b.size)(ha:∀y∈a.toList.drop i,le r b[j] y):Ms r a b (out.push b[j]) i (j+1):=by
 refine(h.qB (k:=1) sb λx hx=>?_).cg (by rw[ZN,gS hj,<-abC]);rw[<-dN,gS hj,Zp]at hx;rw[hx];exact ha
def N0(O:Ord r)(sa:a.toList.Pairwise (le r))(hi:i<a.size):∀y∈a.toList.drop i,le r a[i] y:=λy hy=>by
 have gr:i<a.toList.length:=by simpa using hi
 have sd:(a.toList.drop i).Pairwise (le r):=sa.sublist (aaF _ _);rw[aaz gr]at sd hy;rcases ZC.mp hy with z|z
 .rw[z];exact O.refl _
 .exact(aaI.mp sd).1 y z
def qF(O:Ord r)(sa:a.toList.Pairwise (le r))(hi:i<a.size)(h:le r x a[i]):∀y∈a.toList.drop i,le r x y:=λy hy=>O.trans h (N0 O sa hi y hy)
def lF(a:Array Keyed)(hi:i<=a.size):(a.extract i a.size).toList =a.toList.drop i:=by
 have:=dN a i (a.size-i);rw[show i+(a.size-i)=a.size by omega]at this;rw[this];exact aau aa9
def Ms.done(h:Ms r a b out i j)(sa:a.toList.Pairwise (le r))(sb:b.toList.Pairwise (le r))(hi:i<=a.size)(hj:j<=b.size)(c:i=a.size\/j=b.size):((out++a.extract i a.size)++b.extract j b.size).toList.Pairwise (le r):=by
 rw[ZN,ZN,lF a hi,lF b hj];have na:i=a.size->a.toList.drop i=[]:=λe=>aeH (by simp[e]);have nb:j=b.size->b.toList.drop j=[]:=λe=>aeH (by simp[e]);rcases c with c|c
 .rw[na c,aaf,aaa];exact⟨h.s,sb.sublist (aaF _ _),h.tb⟩
 .rw[nb c,aaf,aaa];exact⟨h.s,sa.sublist (aaF _ _),h.ta⟩
def Ms.last(h:Ms r a b out i j)(sa:a.toList.Pairwise (le r))(sb:b.toList.Pairwise (le r))(hi:i<=a.size)(hj:j<=b.size)(c:∀y∈b.toList,∀x∈a.toList.drop i,le r y x):((out++b.extract j b.size)++a.extract i a.size).toList.Pairwise (le r):=by
 rw[ZN,ZN,lF a hi,lF b hj,ZW,aaa];refine⟨h.s,?_,λx hx y hy=>?_⟩
 .rw[aaa];exact⟨sb.sublist (aaF _ _),sa.sublist (aaF _ _),λy hy x hx=>c y (abz hy) x hx⟩
 .rcases ZI.mp hy with z|z
  .exact h.tb x hx y z
  .exact h.ta x hx y z
end
section
variable {prog:Program}{w:World}{A:Around}{E:Value->Shared->Prop}{s:Shared}{κ:SortKind}{P:Keyed->Prop}{r:Keyed->Keyed->Bool}
def bne{n m:Nat}(h:¬(n==m)=true):n≠m:=λe=>h (by rw[e];simp)
def yY{a b:Array Keyed}{st:SortSt}{Q:Array Keyed->SortSt->Prop}(L:mH prog w A E s κ P r)(O:Ord r)(hk:kindOf st=κ)(ha:∀x∈a,P x)(hb:∀x∈b,P x)(h1:1<=a.size)(h2:1<=b.size)
  (sa:a.toList.Pairwise (le r)) (sb:b.toList.Pairwise (le r)) (first:∀y∈a.toList,le r b[0] y) (final:∀y∈b.toList,∀x∈a.toList.drop (a.size-1),le r y x)
  (q:∀out au,out.toList.Perm (a.toList++b.toList)->out.toList.Pairwise (le r)->Sm st au->Q out au):wpS aa3 A E s (mE a b) Q st:=by
 have vb:∀i,i+1=a.size->∀y∈b.toList,∀x∈a.toList.drop i,le r y x:=λi hi=>by rw[show i=a.size-1 by omega];exact final
 have gA:∀(ia ib:Nat) (wC:ib<b.size) (au:SortSt) (Q':Option Nat->SortSt->Prop),Sm st au->ia<a.size->(∀k,k<=a.size-ia->(∀x∈sg a ia k,∀y∈b.toList.drop ib,le r x y)->(∀x∈a.toList.drop (ia+k),le r b[ib] x)->Q' (some k) au)->
   wpS aa3 A E s (b_ false b[ib] a ia (a.size-ia) 0) Q' au:=λia ib wC au Q' hS s_ hq=>by
  have e:sg a ia (a.size-ia)=a.toList.drop ia:=aau aa9;refine cX L O (hS.k.trans hk) (hb _ (aax _)) ha aa0 aa0 (by rw[e];exact sa.sublist (aaF _ _)) λk hk g1 g2=>hq k hk (λx hx=>?_) (λx hx=>?_)
  .have:=g1 x (by rw[e];exact hx);have h':le r x b[ib]:=by unfold vh at this;simpa[le]using this
   exact qF O sb wC h'
  .have:=g2 x (by rw[e,adW];exact hx);unfold vh at this;have h':r b[ib] x=true:=by simpa using this
   exact O.of_lt h'
 have gB:∀(ia ib:Nat) (s_:ia<a.size) (au:SortSt) (Q':Option Nat->SortSt->Prop),Sm st au->ib<b.size->(∀k,k<=b.size-ib->(∀x∈sg b ib k,∀y∈a.toList.drop ia,le r x y)->(∀x∈b.toList.drop (ib+k),le r a[ia] x)->Q' (some k) au)->
   wpS aa3 A E s (b_ true a[ia] b ib (b.size-ib) 0) Q' au:=λia ib s_ au Q' hS wC hq=>by
  have e:sg b ib (b.size-ib)=b.toList.drop ib:=aau aa9;refine cX L O (hS.k.trans hk) (ha _ (aax _)) hb aa0 aa0 (by rw[e];exact sb.sublist (aaF _ _)) λk hk g1 g2=>hq k hk (λx hx=>?_) (λx hx=>?_)
  .have:=g1 x (by rw[e];exact hx);exact qF O sa s_ (O.of_lt this)
  .exact g2 x (by rw[e,adW];exact hx)
 rw[sS];refine wpS_bind (wpS_lift (acL ⟨rfl,?_⟩));refine wpS_bind (bz aa0 ?_);dsimp only;have p0:Ms r a b #[b[0]] 0 1:=by
  have:Ms r a b #[] 0 0:=⟨by unfold Pt;simp,by simp,by simp,by simp⟩;exact this.pC sb aa0 first
 by_cases c1:(1==b.size)=true
 .rw[ZD c1];exact wpS_pure (q _ _ (p0.p.done aa0 h2) (p0.done sa sb aa0 h2 (.inr (by simpa using c1))) .rfl')
 rw[ZL c1];have DU:1<b.size:=by have:=bne c1;omega
 by_cases c2:(0+1==a.size)=true
 .rw[ZD c2];exact wpS_pure (q _ _ (p0.p.last aa0 h2) (p0.last sa sb aa0 h2 (vb 0 (by simpa using c2))) .rfl')
 rw[ZL c2];have Hv:0+1<a.size:=by have:=bne c2;omega
 refine wpS_bind (wpS_get ?_);refine wpS_bind (wpS_mono (wpS_forRange
  (I:=λi c au=>Sm st au/\∃out ia ib g,c=(none,out,ia,ib,g)/\Ms r a b out ia ib/\ia+1<a.size/\ib<b.size/\i+1<=ia+ib)
  (Q:=λc au=>Sm st au/\∃o,c.1=some o/\o.toList.Perm (a.toList++b.toList)/\o.toList.Pairwise (le r)) ?step ?fin ⟨.rfl',_,_,_,_,rfl,p0,Hv,DU,Zu _⟩) ?post)
 case post=>
  rintro⟨c,d⟩ au ⟨hS,o,hc,hr,JR⟩;have kM:c=some o:=hc;subst kM;exact wpS_pure (q o au hr JR hS)
 case fin=>
  rintro c au ⟨_,out,ia,ib,g,_,_,x1,x2,x3⟩;omega
 case step=>
  rintro i c f9 _ _ ⟨SD,out,ia,ib,g,rfl,hP,x1,x2,x3⟩;dsimp only;refine wpS_bind (wpS_mono (wpS_forRange
   (I:=λ_ c au=>Sm st au/\∃out ia ib n m,c=(none,out,ia,ib,n,m)/\Ms r a b out ia ib/\ia+1<a.size/\ib<b.size/\i+1<=ia+ib)
   (Q:=λc au=>Sm st au/\((∃o,c.1=some o/\o.toList.Perm (a.toList++b.toList)/\o.toList.Pairwise (le r))\/∃out ia ib n m,c=(none,out,ia,ib,n,m)/\Ms r a b out ia ib/\ia+1<a.size/\ib<b.size/\i+1<=ia+ib)) ?Bi ?JS ⟨SD,_,_,_,_,_,rfl,hP,x1,x2,x3⟩) ?Bj)
  case JS=>exact λc au ⟨z1,z2⟩=>⟨z1,.inr z2⟩
  case Bi=>
   rintro _ c cN _ _ ⟨mI,out,ia,ib,n,m,rfl,hP,x1,x2,x3⟩;dsimp only;have s_:ia<a.size:=by omega
   refine wpS_bind (bz x2 (wpS_bind (bz s_ (wpS_bind (L _ _ _ _ (hb _ (aax _)) (ha _ (aax _)) (mI.k.trans hk) ?_)))));cases bw:r b[ib] a[ia]with
   |true=>
    dsimp only;rw[ZD rfl];refine wpS_bind (bz x2 ?_);have oF:=hP.pC sb x2 (qF O sa s_ (O.of_lt bw));by_cases e1:(ib+1==b.size)=true
    .rw[ZD e1];exact wpS_pure ⟨mI,.inl ⟨_,rfl,oF.p.done aa0 aa0,oF.done sa sb aa0 aa0 (.inr (by simpa using e1))⟩⟩
    .rw[ZL e1];have n_:ib+1<b.size:=by have:=bne e1;omega
     split
     .exact wpS_pure ⟨mI,.inr ⟨_,_,_,_,_,rfl,oF,x1,n_,by omega⟩⟩
     .exact wpS_pure ⟨mI,_,_,_,_,_,rfl,oF,x1,n_,by omega⟩
   |false=>
    dsimp only;rw[ZL Zl];refine wpS_bind (bz s_ ?_);have oF:=hP.pB sa s_ (qF O sb x2 bw);by_cases e1:(ia+1+1==a.size)=true
    .rw[ZD e1];exact wpS_pure ⟨mI,.inl ⟨_,rfl,oF.p.last aa0 aa0,oF.last sa sb aa0 aa0 (vb _ (by simpa using e1))⟩⟩
    .rw[ZL e1];have n_:ia+1+1<a.size:=by have:=bne e1;omega
     split
     .exact wpS_pure ⟨mI,.inr ⟨_,_,_,_,_,rfl,oF,n_,x2,by omega⟩⟩
     .exact wpS_pure ⟨mI,_,_,_,_,_,rfl,oF,n_,x2,by omega⟩
  case Bj=>
   rintro⟨c,d⟩ cN ⟨mI,⟨o,hc,hr⟩|⟨out,ia,ib,n,m,hc,hP,x1,x2,x3⟩⟩
   .have kM:c=some o:=hc;subst kM;exact wpS_pure ⟨mI,o,rfl,hr⟩
   .cases hc;dsimp only;refine wpS_bind (wpS_lift (acL ⟨rfl,?_⟩));refine wpS_bind (wpS_mono (wpS_forRange
     (I:=λj c au=>Sm st au/\∃out ia ib g n m,c=(none,out,ia,ib,g,n,m)/\Ms r a b out ia ib/\ia+1<a.size/\ib<b.size/\i+1+(min j 1)<=ia+ib)
     (Q:=λc au=>Sm st au/\((∃o,c.1=some o/\o.toList.Perm (a.toList++b.toList)/\o.toList.Pairwise (le r))\/∃out ia ib g n m,c=(none,out,ia,ib,g,n,m)/\Ms r a b out ia ib/\ia+1<a.size/\ib<b.size/\i+1+1<=ia+ib)) ?Bk ?JT ⟨mI,_,_,_,_,_,_,rfl,hP,x1,x2,by omega⟩) ?Bl)
    case JT=>
     rintro c au ⟨z1,out,ia,ib,g,n,m,z2,z3,z4,z5,z6⟩;exact⟨z1,.inr ⟨out,ia,ib,g,n,m,z2,z3,z4,z5,by omega⟩⟩
    case Bl=>
     rintro⟨c,d⟩ jZ ⟨i6,⟨o,hc,hr⟩|⟨out,ia,ib,g,n,m,hc,hP,x1,x2,x3⟩⟩
     .have kM:c=some o:=hc;subst kM;exact wpS_pure ⟨i6,o,rfl,hr⟩
     .cases hc;dsimp only;unfold bj;exact wpS_bind (wpS_modify (wpS_pure ⟨i6.setG,_,_,_,_,rfl,hP,x1,x2,by omega⟩))
    case Bk=>
     rintro j c jZ _ _ ⟨i6,out,ia,ib,g,n,m,rfl,hP,x1,x2,x3⟩;dsimp only;apply wu
     .intro shared;by_cases hg:g>1
      rotate_left
      .rw[ZL hg];apply shared g
      .rw[ZD hg];exact shared (g-1)
     intro g';unfold bj;refine wpS_bind (wpS_modify ?_);refine wpS_bind (bz x2 (wpS_bind (gA ia ib x2 _ _ i6.setG aa0 λk JQ k1 k2=>?_)));dsimp only;apply qD (λo i'=>Ms r a b o i' ib/\i'+1<a.size/\i+1+min j 1<=i'+ib/\∀x∈a.toList.drop i',le r b[ib] x)
     .intro shared;by_cases N1:k>0
      rotate_left
      .rw[ZL N1];apply shared out ia ⟨hP,x1,x3,by rw[show ia=ia+k by omega];exact k2⟩
      .rw[ZD N1];have yZ:=hP.qC sa k1;by_cases e1:(ia+k+1==a.size)=true
       .rw[ZD e1];exact wpS_pure ⟨i6.setG,.inl ⟨_,rfl,yZ.p.last aa0 aa0,yZ.last sa sb aa0 aa0 (vb _ (by simpa using e1))⟩⟩
       rw[ZL e1];by_cases e2:(ia+k==a.size)=true
       .rw[ZD e2];exact wpS_pure ⟨i6.setG,.inl ⟨_,rfl,yZ.p.done aa0 aa0,yZ.done sa sb aa0 aa0 (.inl (by simpa using e2))⟩⟩
       rw[ZL e2];have n_:ia+k+1<a.size:=by have:=bne e1;have:=bne e2;omega
       exact shared _ _ ⟨yZ,n_,by omega,k2⟩
     intro o i' hT;obtain⟨yZ,y1,y2,y3⟩:=hT;refine wpS_bind (bz x2 ?_);have y0:=yZ.pC sb x2 y3;by_cases e3:(ib+1==b.size)=true
     .rw[ZD e3];exact wpS_pure ⟨i6.setG,.inl ⟨_,rfl,y0.p.done aa0 aa0,y0.done sa sb aa0 aa0 (.inr (by simpa using e3))⟩⟩
     rw[ZL e3];have Mj:ib+1<b.size:=by have:=bne e3;omega
     have gr:i'<a.size:=by omega
     refine wpS_bind (bz gr (wpS_bind (gB i' (ib+1) gr _ _ i6.setG Mj λkk QG g1 g2=>?_)));dsimp only;generalize o.push (b[ib]'x2)=o2 at y0⊢;generalize wC:ib+1=ER at y0 Mj QG g1 g2⊢;apply qD (λo3 i3=>Ms r a b o3 i' i3/\i3<b.size/\i+1+1<=i'+i3/\∀x∈b.toList.drop i3,le r a[i'] x)
     .intro shared;by_cases N2:kk>0
      rotate_left
      .rw[ZL N2];apply shared o2 ER ⟨y0,Mj,by omega,by rw[show ER=ER+kk by omega];exact g2⟩
      .rw[ZD N2];have y8:=y0.qB sb g1;by_cases e4:(ER+kk==b.size)=true
       .rw[ZD e4];exact wpS_pure ⟨i6.setG,.inl ⟨_,rfl,y8.p.done aa0 aa0,y8.done sa sb aa0 aa0 (.inr (by simpa using e4))⟩⟩
       rw[ZL e4];have JU:ER+kk<b.size:=by have:=bne e4;omega
       exact shared _ _ ⟨y8,JU,by omega,g2⟩
     intro o3 i3 hT;obtain⟨y8,JU,y4,y5⟩:=hT;refine wpS_bind (bz gr ?_);have ES:=y8.pB sa gr y5;by_cases e5:(i'+1+1==a.size)=true
     .rw[ZD e5];exact wpS_pure ⟨i6.setG,.inl ⟨_,rfl,ES.p.last aa0 aa0,ES.last sa sb aa0 aa0 (vb _ (by simpa using e5))⟩⟩
     rw[ZL e5];have N3:i'+1+1<a.size:=by have:=bne e5;omega
     split
     .exact wpS_pure ⟨i6.setG,.inr ⟨_,_,_,_,_,_,rfl,ES,N3,by omega,by omega⟩⟩
     .exact wpS_pure ⟨i6.setG,_,_,_,_,_,_,rfl,ES,N3,by omega,by omega⟩
end
structure Mh(r:Keyed->Keyed->Bool)(a b out:Array Keyed)(i j:Nat):Prop where
 p:Ph a b out i j
 s:out.toList.Pairwise λx y=>le r y x
 ta:∀x∈out.toList,∀y∈a.toList.take i,le r y x
 tb:∀x∈out.toList,∀y∈b.toList.take j,le r y x
section
variable {r:Keyed->Keyed->Bool}{a b out:Array Keyed}{i j k:Nat}
def ju(a:Array Keyed)(k i:Nat):(a.extract k i).toList =(a.toList.take i).drop k:=by
 rw[aby];unfold List.extract;rw[List.drop_take]
def tf(a:Array Keyed)(h:k<=i):a.toList.take i=a.toList.take k++(a.toList.take i).drop k:=by
 have:=(aaL k (a.toList.take i)).symm;rwa [aeZ,acm h]at this
theorem Mh.qC(h:Mh r a b out i j)(sa:a.toList.Pairwise (le r))(hk:k<=i)(hi:i<=a.size)(hb:∀x∈(a.toList.take i).drop k,∀y∈b.toList.take j,le r y x):Mh r a b (out++(a.extract k i).reverse) k j:=by
 have sd:(a.toList.take i).Pairwise (le r):=sa.sublist (aaQ _ _);have e:=tf a hk;rw[e,aaa]at sd;obtain⟨p1,p2,p3⟩:=sd;have NY:∀x∈out.toList,∀y∈a.toList.take k++(a.toList.take i).drop k,le r y x:=λx hx y hy=>h.ta x hx y (by rw[e];exact hy);have el:(out++(a.extract k i).reverse).toList =out.toList++((a.toList.take i).drop k).reverse :=by rw[ZN,aaH,ju]
 refine⟨h.p.qC hk hi,?_,λx hx y hy=>?_,λx hx y hy=>?_⟩
 .rw[el,aaa];exact⟨h.s,acq.mpr p2,λx hx y hy=>NY x hx y (ZH _ (aaZ.mp hy))⟩
 .rw[el]at hx;rcases ZI.mp hx with z|z
  .exact NY x z y (ZO _ hy)
  .exact p3 y hy x (aaZ.mp z)
 .rw[el]at hx;rcases ZI.mp hx with z|z
  .exact h.tb x z y hy
  .exact hb x (aaZ.mp z) y hy
theorem Mh.qB(h:Mh r a b out i j)(sb:b.toList.Pairwise (le r))(hk:k<=j)(hj:j<=b.size)(ha:∀x∈(b.toList.take j).drop k,∀y∈a.toList.take i,le r y x):Mh r a b (out++(b.extract k j).reverse) i k:=by
 have sd:(b.toList.take j).Pairwise (le r):=sb.sublist (aaQ _ _);have e:=tf b hk;rw[e,aaa]at sd;obtain⟨p1,p2,p3⟩:=sd;have NZ:∀x∈out.toList,∀y∈b.toList.take k++(b.toList.take j).drop k,le r y x:=λx hx y hy=>h.tb x hx y (by rw[e];exact hy);have el:(out++(b.extract k j).reverse).toList =out.toList++((b.toList.take j).drop k).reverse :=by rw[ZN,aaH,ju]
 refine⟨h.p.qB hk hj,?_,λx hx y hy=>?_,λx hx y hy=>?_⟩
 .rw[el,aaa];exact⟨h.s,acq.mpr p2,λx hx y hy=>NZ x hx y (ZH _ (aaZ.mp hy))⟩
 .rw[el]at hx;rcases ZI.mp hx with z|z
  .exact h.ta x z y hy
  .exact ha x (aaZ.mp z) y hy
 .rw[el]at hx;rcases ZI.mp hx with z|z
  .exact NZ x z y (ZO _ hy)
  .exact p3 y hy x (aaZ.mp z)
def Mh.cg(h:Mh r a b out i j)(e:o.toList=out.toList):Mh r a b o i j:=⟨by unfold Ph;rw[e];exact h.p,by rw[e];exact h.s,λx hx=>h.ta x (by rw[<-e];exact hx),λx hx=>h.tb x (by rw[<-e];exact hx)⟩
def Mh.pB(h:Mh r a b out i j)(sa:a.toList.Pairwise (le r))(h1:1<=i)(hi:i-1<a.size)(hb:∀y∈b.toList.take j,le r y a[i-1]):Mh r a b (out.push a[i-1]) (i-1) j:=by
 refine(h.qC (k:=i-1) sa aa0 aa0 λx hx=>?_).cg (by rw[ZN,aaH,jt h1 hi,aeI,<-abC]);rw[<-ju,jt h1 hi,Zp]at hx;rw[hx];exact hb
def Mh.pC(h:Mh r a b out i j)(sb:b.toList.Pairwise (le r))(h1:1<=j)(hj:j-1<b.size)(ha:∀y∈a.toList.take i,le r y b[j-1]):Mh r a b (out.push b[j-1]) i (j-1):=by
 refine(h.qB (k:=j-1) sb aa0 aa0 λx hx=>?_).cg (by rw[ZN,aaH,jt h1 hj,aeI,<-abC]);rw[<-ju,jt h1 hj,Zp]at hx;rw[hx];exact ha
def wD(O:Ord r)(sa:a.toList.Pairwise (le r))(hi:i-1<a.size)(hx:le r a[i-1] x):∀y∈a.toList.take i,le r y x:=λy hy=>by
 obtain⟨m,hm,rfl⟩:=abY hy;rw[aaM,ZQ]at hm;rw[List.getElem_take];rcases aap m (i-1)with z|z
 .refine O.trans ?_ hx;have:=(aaY.mp sa) m (i-1) (by simp;omega) (by simp;omega) z;simpa using this
 .have e:m=i-1:=by omega
  subst e;simpa using hx
def Mh.done(h:Mh r a b out i j)(sa:a.toList.Pairwise (le r))(sb:b.toList.Pairwise (le r))(c:i=0\/j=0):((a.extract 0 i++b.extract 0 j)++out.reverse).toList.Pairwise (le r):=by
 rw[ZN,ZN,dJ,dJ,aaH,aaa];refine⟨?_,acq.mpr h.s,λx hx y hy=>?_⟩
 .rcases c with rfl|rfl
  .rw[List.take_zero,acQ];exact sb.sublist (aaQ _ _)
  .rw[List.take_zero,aaf];exact sa.sublist (aaQ _ _)
 .rcases ZI.mp hx with z|z
  .exact h.ta y (aaZ.mp hy) x z
  .exact h.tb y (aaZ.mp hy) x z
def Mh.first(h:Mh r a b out i j)(sa:a.toList.Pairwise (le r))(sb:b.toList.Pairwise (le r))(c:∀x∈b.toList.take j,∀y∈a.toList,le r x y):((b.extract 0 j++a.extract 0 i)++out.reverse).toList.Pairwise (le r):=by
 rw[ZN,ZN,dJ,dJ,aaH,aaa];refine⟨?_,acq.mpr h.s,λx hx y hy=>?_⟩
 .rw[aaa];exact⟨sb.sublist (aaQ _ _),sa.sublist (aaQ _ _),λx hx y hy=>c x hx y (aaA hy)⟩
 .rcases ZI.mp hx with z|z
  .exact h.tb y (aaZ.mp hy) x z
  .exact h.ta y (aaZ.mp hy) x z
end
section
variable {prog:Program}{w:World}{A:Around}{E:Value->Shared->Prop}{s:Shared}{κ:SortKind}{P:Keyed->Prop}{r:Keyed->Keyed->Bool}
def y9{a b:Array Keyed}{st:SortSt}{Q:Array Keyed->SortSt->Prop}(L:mH prog w A E s κ P r)(O:Ord r)(hk:kindOf st=κ)(ha:∀x∈a,P x)(hb:∀x∈b,P x)(h1:1<=a.size)(h2:1<=b.size)
  (sa:a.toList.Pairwise (le r)) (sb:b.toList.Pairwise (le r)) (first:∀y∈a.toList,le r b[0] y) (final:∀y∈b.toList,∀x∈a.toList.drop (a.size-1),le r y x)
  (q:∀out au,out.toList.Perm (a.toList++b.toList)->out.toList.Pairwise (le r)->Sm st au->Q out au):wpS aa3 A E s (mF a b) Q st:=by
 have ET:∀j,j=1->∀x∈b.toList.take j,∀y∈a.toList,le r x y:=λj hj x hx=>by
  subst hj;have:=dJ b (i:=1);rw[<-this,gS aa0,Zp]at hx;rw[hx];exact first
 have gA:∀(ia ib:Nat) (wC:ib-1<b.size) (au:SortSt) (Q':Option Nat->SortSt->Prop),Sm st au->1<=ia->ia<=a.size->(∀k,k<=ia->(∀x∈(a.toList.take ia).drop k,∀y∈b.toList.take ib,le r y x)->(∀y∈a.toList.take k,le r y b[ib-1])->Q' (some k) au)->
   wpS aa3 A E s (b_ false b[ib-1] a 0 ia (ia-1)) Q' au:=λia ib wC au Q' hS s_ W7 hq=>by
  have e:sg a 0 ia=a.toList.take ia:=by unfold sg;rw[ace]
  refine cX L O (hS.k.trans hk) (hb _ (aax _)) ha aa0 aa0 (by rw[e];exact sa.sublist (aaQ _ _)) λk hk g1 g2=>hq k hk (λx hx=>?_) (λx hx=>?_)
  .have:=g2 x (by rw[e];exact hx);unfold vh at this;have h':r b[ib-1] x=true:=by simpa using this
   exact wD O sb wC (O.of_lt h')
  .have:=g1 x (by rw[e,aeZ,acm hk];exact hx);unfold vh at this;simpa[le]using this
 have gB:∀(ia ib:Nat) (s_:ia-1<a.size) (au:SortSt) (Q':Option Nat->SortSt->Prop),Sm st au->1<=ib->ib<=b.size->(∀k,k<=ib->(∀x∈(b.toList.take ib).drop k,∀y∈a.toList.take ia,le r y x)->(∀y∈b.toList.take k,le r y a[ia-1])->Q' (some k) au)->
   wpS aa3 A E s (b_ true a[ia-1] b 0 ib (ib-1)) Q' au:=λia ib s_ au Q' hS wC W8 hq=>by
  have e:sg b 0 ib=b.toList.take ib:=by unfold sg;rw[ace]
  refine cX L O (hS.k.trans hk) (ha _ (aax _)) hb aa0 aa0 (by rw[e];exact sb.sublist (aaQ _ _)) λk hk g1 g2=>hq k hk (λx hx=>?_) (λx hx=>?_)
  .exact wD O sa s_ (g2 x (by rw[e];exact hx))
  .exact O.of_lt (g1 x (by rw[e,aeZ,acm hk];exact hx))
 rw[sT];refine wpS_bind (wpS_lift (acL ⟨rfl,?_⟩));refine wpS_bind (bz (show a.size-1<a.size by omega) ?_);dsimp only;have p0:Mh r a b #[a[a.size-1]] (a.size-1) b.size:=by
  have:Mh r a b #[] a.size b.size:=⟨by
   unfold Ph;rw[aau aa9,aau aa9];simp,by simp,by simp,by simp⟩
  refine this.pB sa h1 aa0 λy hy=>?_;have gr:a.size-1<a.toList.length:=by simp;omega
  refine final y (aaA hy) _ ?_;rw[aaz gr];simp
 by_cases c1:(a.size-1==0)=true
 .rw[ZD c1];exact wpS_pure (q _ _ p0.p.done (p0.done sa sb (.inl (by simpa using c1))) .rfl')
 rw[ZL c1];have DU:1<=a.size-1:=by have:=bne c1;omega
 by_cases c2:(b.size==1)=true
 .rw[ZD c2];exact wpS_pure (q _ _ p0.p.first (p0.first sa sb (ET _ (by simpa using c2))) .rfl')
 rw[ZL c2];have Hv:2<=b.size:=by have:=bne c2;omega
 refine wpS_bind (wpS_get ?_);refine wpS_bind (wpS_mono (wpS_forRange
  (I:=λi c au=>Sm st au/\∃ia ib out g,c=(none,ia,ib,out,g)/\Mh r a b out ia ib/\1<=ia/\ia<=a.size/\2<=ib/\ib<=b.size/\i+1+ia+ib<=a.size+b.size)
  (Q:=λc au=>Sm st au/\∃o,c.1=some o/\o.toList.Perm (a.toList++b.toList)/\o.toList.Pairwise (le r)) ?step ?fin ⟨.rfl',_,_,_,_,rfl,p0,DU,by omega,Hv,Zu _,by omega⟩) ?post)
 case post=>
  rintro⟨c,d⟩ au ⟨hS,o,hc,hr,JR⟩;have kM:c=some o:=hc;subst kM;exact wpS_pure (q o au hr JR hS)
 case fin=>
  rintro c au ⟨_,ia,ib,out,g,_,_,x1,x2,x3,x4,x5⟩;omega
 case step=>
  rintro i c f9 _ _ ⟨SD,ia,ib,out,g,rfl,hP,x1,x2,x3,x4,x5⟩;dsimp only;refine wpS_bind (wpS_mono (wpS_forRange
   (I:=λ_ c au=>Sm st au/\∃ia ib out n m,c=(none,ia,ib,out,n,m)/\Mh r a b out ia ib/\1<=ia/\ia<=a.size/\2<=ib/\ib<=b.size/\i+1+ia+ib<=a.size+b.size)
   (Q:=λc au=>Sm st au/\((∃o,c.1=some o/\o.toList.Perm (a.toList++b.toList)/\o.toList.Pairwise (le r))\/∃ia ib out n m,c=(none,ia,ib,out,n,m)/\Mh r a b out ia ib/\1<=ia/\ia<=a.size/\2<=ib/\ib<=b.size/\i+1+ia+ib<=a.size+b.size)) ?Bi ?JS ⟨SD,_,_,_,_,_,rfl,hP,x1,x2,x3,x4,x5⟩) ?Bj)
  case JS=>exact λc au ⟨z1,z2⟩=>⟨z1,.inr z2⟩
  case Bi=>
   rintro _ c cN _ _ ⟨mI,ia,ib,out,n,m,rfl,hP,x1,x2,x3,x4,x5⟩;dsimp only;have wC:ib-1<b.size:=by omega
   have s_:ia-1<a.size:=by omega
   refine wpS_bind (bz wC (wpS_bind (bz s_ (wpS_bind (L _ _ _ _ (hb _ (aax _)) (ha _ (aax _)) (mI.k.trans hk) ?_)))));cases bw:r b[ib-1] a[ia-1]with
   |true=>
    dsimp only;rw[ZD rfl];refine wpS_bind (bz s_ ?_);have oF:=hP.pB sa x1 s_ (wD O sb wC (O.of_lt bw));by_cases e1:(ia-1==0)=true
    .rw[ZD e1];exact wpS_pure ⟨mI,.inl ⟨_,rfl,oF.p.done,oF.done sa sb (.inl (by simpa using e1))⟩⟩
    .rw[ZL e1];have n_:1<=ia-1:=by have:=bne e1;omega
     split
     .exact wpS_pure ⟨mI,.inr ⟨_,_,_,_,_,rfl,oF,n_,by omega,by omega,by omega,by omega⟩⟩
     .exact wpS_pure ⟨mI,_,_,_,_,_,rfl,oF,n_,by omega,by omega,by omega,by omega⟩
   |false=>
    dsimp only;rw[ZL Zl];refine wpS_bind (bz wC ?_);have oF:=hP.pC sb (show 1<=ib by omega) wC (wD O sa s_ bw);by_cases e1:(ib-1==1)=true
    .rw[ZD e1];exact wpS_pure ⟨mI,.inl ⟨_,rfl,oF.p.first,oF.first sa sb (ET _ (by simpa using e1))⟩⟩
    .rw[ZL e1];have n_:2<=ib-1:=by have:=bne e1;omega
     split
     .exact wpS_pure ⟨mI,.inr ⟨_,_,_,_,_,rfl,oF,x1,by omega,n_,by omega,by omega⟩⟩
     .exact wpS_pure ⟨mI,_,_,_,_,_,rfl,oF,x1,by omega,n_,by omega,by omega⟩
  case Bj=>
   rintro⟨c,d⟩ cN ⟨mI,⟨o,hc,hr⟩|⟨ia,ib,out,n,m,hc,hP,x1,x2,x3,x4,x5⟩⟩
   .have kM:c=some o:=hc;subst kM;exact wpS_pure ⟨mI,o,rfl,hr⟩
   .cases hc;dsimp only;refine wpS_bind (wpS_lift (acL ⟨rfl,?_⟩));refine wpS_bind (wpS_mono (wpS_forRange
     (I:=λj c au=>Sm st au/\∃ia ib out g n m,c=(none,ia,ib,out,g,n,m)/\Mh r a b out ia ib/\1<=ia/\ia<=a.size/\2<=ib/\ib<=b.size/\i+1+(min j 1)+ia+ib<=a.size+b.size)
     (Q:=λc au=>Sm st au/\((∃o,c.1=some o/\o.toList.Perm (a.toList++b.toList)/\o.toList.Pairwise (le r))\/∃ia ib out g n m,c=(none,ia,ib,out,g,n,m)/\Mh r a b out ia ib/\1<=ia/\ia<=a.size/\2<=ib/\ib<=b.size/\i+1+1+ia+ib<=a.size+b.size)) ?Bk ?JT ⟨mI,_,_,_,_,_,_,rfl,hP,x1,x2,x3,x4,by omega⟩) ?Bl)
    case JT=>
     rintro c au ⟨z1,ia,ib,out,g,n,m,z2,z3,z4,z5,z6,z7,z8⟩;exact⟨z1,.inr ⟨ia,ib,out,g,n,m,z2,z3,z4,z5,z6,z7,by omega⟩⟩
    case Bl=>
     rintro⟨c,d⟩ jZ ⟨i6,⟨o,hc,hr⟩|⟨ia,ib,out,g,n,m,hc,hP,x1,x2,x3,x4,x5⟩⟩
     .have kM:c=some o:=hc;subst kM;exact wpS_pure ⟨i6,o,rfl,hr⟩
     .cases hc;dsimp only;unfold bj;exact wpS_bind (wpS_modify (wpS_pure ⟨i6.setG,_,_,_,_,rfl,hP,x1,x2,x3,x4,by omega⟩))
    case Bk=>
     rintro j c jZ _ _ ⟨i6,ia,ib,out,g,n,m,rfl,hP,x1,x2,x3,x4,x5⟩;dsimp only;apply wu
     .intro shared;by_cases hg:g>1
      rotate_left
      .rw[ZL hg];apply shared g
      .rw[ZD hg];exact shared (g-1)
     intro g';unfold bj;refine wpS_bind (wpS_modify ?_);have N4:ib-1<b.size:=by omega
     refine wpS_bind (bz N4 (wpS_bind (gA ia ib N4 _ _ i6.setG x1 x2 λN5 JQ k1 k2=>?_)));dsimp only;generalize Sw:ia-N5=cnt;apply qD (λo i'=>Mh r a b o i' ib/\1<=i'/\i'<=a.size/\i+1+min j 1+i'+ib<=a.size+b.size/\∀y∈a.toList.take i',le r y b[ib-1])
     .intro shared;by_cases N1:cnt>0
      rotate_left
      .rw[ZL N1];apply shared out ia ⟨hP,x1,x2,x5,by rw[show ia=N5 by omega];exact k2⟩
      .rw[ZD N1];have yZ:=hP.qC (k:=N5) sa JQ x2 k1;by_cases e1:(N5==0)=true
       .rw[ZD e1];exact wpS_pure ⟨i6.setG,.inl ⟨_,rfl,yZ.p.done,yZ.done sa sb (.inl (by simpa using e1))⟩⟩
       rw[ZL e1];have n_:1<=N5:=by have:=bne e1;omega
       exact shared _ _ ⟨yZ,n_,by omega,by omega,k2⟩
     intro o i' hT;obtain⟨yZ,y1,y2,y4,y6⟩:=hT;refine wpS_bind (bz N4 ?_);have y0:=yZ.pC sb (show 1<=ib by omega) N4 y6;by_cases e3:(ib-1==1)=true
     .rw[ZD e3];exact wpS_pure ⟨i6.setG,.inl ⟨_,rfl,y0.p.first,y0.first sa sb (ET _ (by simpa using e3))⟩⟩
     rw[ZL e3];have Mj:2<=ib-1:=by have:=bne e3;omega
     have QH:i'-1<a.size:=by omega
     refine wpS_bind (bz QH (wpS_bind (gB i' (ib-1) QH _ _ i6.setG aa0 aa0 λMk QG g1 g2=>?_)));dsimp only;generalize o.push (b[ib-1]'N4)=o2 at y0⊢;generalize wC:ib-1=ER at y0 Mj QG g1⊢;generalize Y3:ER-Mk=SE;apply qD (λo3 i3=>Mh r a b o3 i' i3/\2<=i3/\i3<=b.size/\i+1+1+(i'-1)+i3<=a.size+b.size/\∀y∈b.toList.take i3,le r y a[i'-1])
     .intro shared;by_cases N2:SE>0
      rotate_left
      .rw[ZL N2];apply shared o2 ER ⟨y0,Mj,by omega,by omega,by rw[show ER=Mk by omega];exact g2⟩
      .rw[ZD N2];have y8:=y0.qB (k:=Mk) sb QG aa0 g1;by_cases e4:(Mk==1)=true
       .rw[ZD e4];exact wpS_pure ⟨i6.setG,.inl ⟨_,rfl,y8.p.first,y8.first sa sb (ET _ (by simpa using e4))⟩⟩
       rw[ZL e4];by_cases e6:(Mk==0)=true
       .rw[ZD e6];exact wpS_pure ⟨i6.setG,.inl ⟨_,rfl,y8.p.done,y8.done sa sb (.inr (by simpa using e6))⟩⟩
       rw[ZL e6];have JU:2<=Mk:=by have:=bne e4;have:=bne e6;omega
       exact shared _ _ ⟨y8,JU,by omega,by omega,g2⟩
     intro o3 i3 hT;obtain⟨y8,JU,y3,y5,y7⟩:=hT;refine wpS_bind (bz QH ?_);have ES:=y8.pB sa (show 1<=i' by omega) QH y7;by_cases e5:(i'-1==0)=true
     .rw[ZD e5];exact wpS_pure ⟨i6.setG,.inl ⟨_,rfl,ES.p.done,ES.done sa sb (.inl (by simpa using e5))⟩⟩
     rw[ZL e5];have N3:1<=i'-1:=by have:=bne e5;omega
     split
     .exact wpS_pure ⟨i6.setG,.inr ⟨_,_,_,_,_,_,rfl,ES,N3,by omega,by omega,by omega,by omega⟩⟩
     .exact wpS_pure ⟨i6.setG,_,_,_,_,_,_,rfl,ES,N3,by omega,by omega,by omega,by omega⟩
end
noncomputable def gt(xs:Array Keyed)(i:Nat):Keyed:=xs[i]?.getD (.none,.none)
def iG(h:i<xs.size):gt xs i=xs[i]:=by unfold gt;rw[ZK h];rfl
def So(r:Keyed->Keyed->Bool)(xs:Array Keyed)(lo hi:Nat):Prop:=∀i j,lo<=i->i<=j->j<hi->le r (gt xs i) (gt xs j)
def De(r:Keyed->Keyed->Bool)(xs:Array Keyed)(lo hi:Nat):Prop:=∀i j,lo<=i->i<=j->j<hi->le r (gt xs j) (gt xs i)
def gT(hj:j<=xs.size)(k:Nat):gt (mirror xs i j ((j-i)/2)) k=if i<=k/\k<j then gt xs (i+j-1-k) else gt xs k:=by
 unfold gt;rw[getElem?_mirror_all hj k];split<;>rfl
def ka(hs:gU<xs.size)(hd:d<=gU)(k:Nat):gt (bubble xs gU d) k=if k=gU-d then gt xs gU else if gU-d<k/\k<=gU then gt xs (k-1) else gt xs k:=by
 unfold gt;rw[getElem?_bubble hs d hd k];split
 .rfl
 .split<;>rfl
structure At(st au:SortSt)(lo hi:Nat):Prop where
 a:Ar st au
 o:∀i,i<lo\/hi<=i->gt (arrOf au) i=gt ab1 i
theorem At.rfl'{st:SortSt}{lo hi:Nat}:At st st lo hi:=⟨.rfl',λ_ _=>rfl⟩
theorem At.trans{st au N6:SortSt}{lo hi:Nat}(h:At st au lo hi)(h':At au N6 lo hi):At st N6 lo hi:=
 ⟨⟨h'.a.k.trans h.a.k,h'.a.a.trans h.a.a,h'.a.p.trans h.a.p,h'.a.f.trans h.a.f⟩,λi hi=>(h'.o i hi).trans (h.o i hi)⟩
theorem At.mirror{st:SortSt}{lo hi i j:Nat}(hj:j<=(arrOf st).size)(h1:lo<=i)(h2:j<=hi):At st (setArr st (mirror ab1 i j ((j-i)/2))) lo hi:=
 ⟨(Ar.rfl').set (mirror_perm _ _ _ _),λk hk=>by
  show gt (PyProof.Rows.mirror ab1 i j ((j-i)/2)) k=_;rw[gT hj,ZL aa0]⟩
theorem At.bubble{st:SortSt}{lo hi gU d:Nat}(hs:gU<(arrOf st).size)(hd:d<=gU)(h1:lo<=gU-d)(h2:gU<hi):At st (setArr st (bubble ab1 gU d)) lo hi:=
 ⟨(Ar.rfl').set (bubble_perm _ _ _),λk hk=>by
  show gt (PyProof.Rows.bubble ab1 gU d) k=_;rw[ka hs hd,ZL aa0,ZL aa0]⟩
section
variable {prog:Program}{w:World}{A:Around}{E:Value->Shared->Prop}{s:Shared}{κ:SortKind}{P:Keyed->Prop}{r:Keyed->Keyed->Bool}
def kc{i j:Nat}{st:SortSt}{Q:Option Bool->SortSt->Prop}(L:mH prog w A E s κ P r)(hk:kindOf st=κ)(hp:∀x∈arrOf st,P x)(hi:i<(arrOf st).size)(hj:j<(arrOf st).size)(q:Q (some (r (gt ab1 i) (gt ab1 j))) st):wpS aa3 A E s (ltAt' i j) Q st:=by
 rw[iG hi,iG hj]at q;rw[ltAt'_eq];exact wpS_bind (wpS_get (wpS_bind (bz hi (wpS_bind (bz hj (L _ _ _ _ (hp _ (aax _)) (hp _ (aax _)) hk q))))))
def qG{lo n ok:Nat}{st:SortSt}{Q:Bool->SortSt->Prop}(L:mH prog w A E s κ P r)(O:Ord r)(hk:kindOf st=κ)(hp:∀x∈arrOf st,P x)(hz:lo+n<=(arrOf st).size)(aX:ok<=n)(hs:So r ab1 lo (lo+ok))(q:∀au,At st au lo (lo+n)->So r (arrOf au) lo (lo+n)->Q true au):wpS aa3 A E s (binarySort' lo n ok) Q st:=by
 rw[binarySort'_eq];refine wpS_bind (wpS_mono (wpS_forRange (I:=λk c au=>c=(none,())/\At st au lo (lo+n)/\So r (arrOf au) lo (lo+min k n)) (Q:=λc au=>c=(none,())/\At st au lo (lo+n)/\So r (arrOf au) lo (lo+n)) ?_ ?_ ⟨rfl,.rfl',λi j h1 h2 h3=>?_⟩) ?_)
 .rintro k c f9 k1 k2 ⟨rfl,a1,s1⟩;rw[show min k n=k by omega]at s1;have hsz:=a1.a.size;refine wpS_bind (wpS_mono (wpS_forRange (I:=λx c au=>au=f9/\∃l u,c=(none,l,u)/\l<=u/\u<=k/\u-l<=k-x/\(∀i,i<l->le r (gt (arrOf f9) (lo+i)) (gt (arrOf f9) (lo+k)))/\(∀i,u<=i->i<k->le r (gt (arrOf f9) (lo+k)) (gt (arrOf f9) (lo+i))))
   (Q:=λc au=>au=f9/\∃l u,c=(none,l,u)/\l<=k/\(∀i,i<l->le r (gt (arrOf f9) (lo+i)) (gt (arrOf f9) (lo+k)))/\(∀i,l<=i->i<k->le r (gt (arrOf f9) (lo+k)) (gt (arrOf f9) (lo+i)))) ?_ ?_ ⟨rfl,0,k,rfl,by omega,by omega,by omega,λi h=>by omega,λi h1 h2=>by omega⟩) ?_)
  .rintro x c cN _ hx ⟨rfl,l,u,rfl,z1,z2,z3,z4,z5⟩;dsimp only;by_cases hl:l ≥ u
   .rw[ZD hl];exact wpS_pure ⟨rfl,l,u,rfl,by omega,z4,λi h1 h2=>z5 i aa0 h2⟩
   .rw[ZL hl];refine wpS_bind (kc L (a1.a.k.trans hk) (a1.a.all hp) aa0 aa0 ?_);cases e:r (gt (arrOf cN) (lo+k)) (gt (arrOf cN) (lo+(l+u)/2))with
    |true=>exact wpS_pure ⟨rfl,l,_,rfl,by omega,by omega,by omega,z4,λi h1 h2=>O.trans (O.of_lt e) (s1 _ _ aa0 aa0 aa0)⟩
    |false=>exact wpS_pure ⟨rfl,_,u,rfl,by omega,z2,by omega,λi h=>O.trans (s1 (lo+i) (lo+(l+u)/2) aa0 aa0 aa0) e,z5⟩
  .rintro c cN ⟨rfl,l,u,rfl,z1,z2,z3,z4,z5⟩;exact⟨rfl,l,u,rfl,by omega,z4,λi h1 h2=>z5 i aa0 h2⟩
  .rintro c cN ⟨rfl,l,u,rfl,z1,z4,z5⟩;dsimp only;rw[moveDown'_eq];refine wpS_bind (wpS_modify (wpS_pure ⟨rfl,a1.trans (At.bubble aa0 aa0 aa0 aa0),?_⟩));rw[show min (k+1) n=k+1 by omega];have JV:lo+k<(arrOf cN).size :=by omega
   intro i j h1 h2 h3;show le r (gt (bubble (arrOf cN) (lo+k) (lo+k-(lo+l))) i) (gt (bubble (arrOf cN) (lo+k) (lo+k-(lo+l))) j);have a4:∀i,lo<=i->i<lo+l->le r (gt (arrOf cN) i) (gt (arrOf cN) (lo+k)):=λi h h'=>by
    have:=z4 (i-lo) aa0;rwa [show lo+(i-lo)=i by omega]at this
   have a5:∀i,lo+l<=i->i<lo+k->le r (gt (arrOf cN) (lo+k)) (gt (arrOf cN) i):=λi h h'=>by
    have:=z5 (i-lo) aa0 aa0;rwa [show lo+(i-lo)=i by omega]at this
   rw[ka JV aa0,ka JV aa0,show lo+k-(lo+k-(lo+l))=lo+l by omega]
   repeat' split
   all_goals first
    |(exfalso;omega)
    |exact O.refl _
    |exact a4 _ aa0 aa0
    |exact a5 _ aa0 aa0
    |exact s1 _ _ aa0 aa0 aa0
 .rintro c au ⟨hc,a1,s1⟩;rw[show min (max (max ok 1) n) n=n by omega]at s1;exact⟨hc,a1,s1⟩
 .by_cases e:ok=0
  .rw[show i=j by omega];exact O.refl _
  .exact hs i j h1 h2 aa0
 .rintro c f9 ⟨rfl,a1,s1⟩;exact wpS_pure (q f9 a1 s1)
def So.one(O:Ord r)(xs:Array Keyed)(lo:Nat):So r xs lo (lo+1):=λi j h1 h2 h3=>by rw[show i=j by omega];exact O.refl _
def De.one(O:Ord r)(xs:Array Keyed)(lo:Nat):De r xs lo (lo+1):=λi j h1 h2 h3=>by rw[show i=j by omega];exact O.refl _
def So.more(O:Ord r){xs:Array Keyed}{lo n:Nat}(h:So r xs lo (lo+n))(h1:1<=n)(hl:le r (gt xs (lo+n-1)) (gt xs (lo+n))):So r xs lo (lo+(n+1)):=λi j g1 g2 g3=>by
 rcases aap j (lo+n)with z|z
 .exact h i j g1 g2 z
 .have e:j=lo+n:=by omega
  subst e;rcases aap i (lo+n)with y|y
  .exact O.trans (h i (lo+n-1) g1 aa0 aa0) hl
  .rw[show i=lo+n by omega];exact O.refl _
def De.more(O:Ord r){xs:Array Keyed}{lo n:Nat}(h:De r xs lo (lo+n))(h1:1<=n)(hl:le r (gt xs (lo+n)) (gt xs (lo+n-1))):De r xs lo (lo+(n+1)):=λi j g1 g2 g3=>by
 rcases aap j (lo+n)with z|z
 .exact h i j g1 g2 z
 .have e:j=lo+n:=by omega
  subst e;rcases aap i (lo+n)with y|y
  .exact O.trans hl (h i (lo+n-1) g1 aa0 aa0)
  .rw[show i=lo+n by omega];exact O.refl _
def Eqv(r:Keyed->Keyed->Bool)(xs ys:Array Keyed):Prop:=∀k,le r (gt xs k) (gt ys k)/\le r (gt ys k) (gt xs k)
def iT(O:Ord r)(hj:j<=xs.size)(h:∀k,i<=k->k<j->le r (gt xs k) (gt xs (j-1))/\le r (gt xs (j-1)) (gt xs k)):Eqv r (mirror xs i j ((j-i)/2)) xs:=λk=>by
 rw[gT hj];split
 .rename_i z;have h1:=h (i+j-1-k) aa0 aa0;have h2:=h k z.1 z.2;exact⟨O.trans h1.1 h2.2,O.trans h2.1 h1.2⟩
 .exact⟨O.refl _,O.refl _⟩
def De.eqv(O:Ord r){xs ys:Array Keyed}{lo hi:Nat}(h:De r xs lo hi)(e:Eqv r ys xs):De r ys lo hi:=λi j h1 h2 h3=>O.trans (e j).1 (O.trans (h i j h1 h2 h3) (e i).2)
def De.turn{xs:Array Keyed}{lo n:Nat}(h:De r xs lo (lo+n))(hz:lo+n<=xs.size):So r (mirror xs lo (lo+n) ((lo+n-lo)/2)) lo (lo+n):=λi j h1 h2 h3=>by
 rw[gT hz,gT hz,ZD aa0,ZD aa0];exact h _ _ aa0 aa0 aa0
def Bm{α:Type}{x:SM α}{st:SortSt}{Q:α->SortSt->Prop}{T:SortSt->Prop}(C:SortSt->Prop)(main:(∀s',C s'->T s')->wpS aa3 A E s x Q st)(h:∀s',C s'->T s'):wpS aa3 A E s x Q st:=main h
def vj{lo eN:Nat}{st:SortSt}{Q:Option Nat->SortSt->Prop}(L:mH prog w A E s κ P r)(O:Ord r)(hk:kindOf st=κ)(hp:∀x∈arrOf st,P x)(hz:lo+eN<=(arrOf st).size)(h1:1<=eN)(q:∀n au,1<=n->n<=eN->At st au lo (lo+eN)->So r (arrOf au) lo (lo+n)->Q (some n) au):wpS aa3 A E s (countRun' lo eN) Q st:=by
 rw[countRun'_eq];refine wpS_bind (wpS_mono (wpS_forRange (I:=λi c au=>au=st/\∃n,c=(none,n)/\1<=n/\n=i/\n<=eN/\So r ab1 lo (lo+n))
  (Q:=λc au=>au=st/\∃n,c=(none,n)/\1<=n/\n<=eN/\So r ab1 lo (lo+n)/\(n=eN\/r (gt ab1 (lo+n)) (gt ab1 (lo+n-1))=true)) ?_ ?_ ⟨rfl,1,rfl,by omega,by omega,h1,.one O _ _⟩) ?_)
 .rintro i c f9 i1 i2 ⟨rfl,n,rfl,n1,n2,n3,s1⟩;dsimp only;refine wpS_bind (kc L hk hp aa0 aa0 ?_);cases e:r (gt (arrOf f9) (lo+n)) (gt (arrOf f9) (lo+n-1))with
  |true=>exact wpS_pure ⟨rfl,n,rfl,n1,n3,s1,.inr e⟩
  |false=>exact wpS_pure ⟨rfl,n+1,rfl,by omega,by omega,by omega,s1.more O n1 e⟩
 .rintro c f9 ⟨rfl,n,rfl,n1,n2,n3,s1⟩;exact⟨rfl,n,rfl,n1,n3,s1,.inl aa0⟩
 rintro c f9 ⟨rfl,n,rfl,n1,n2,s1,SF⟩;dsimp only;by_cases e1:(n==eN)=true
 .rw[ZD e1];exact wpS_pure (q n _ n1 n2 .rfl' s1)
 rw[ZL e1];have n_:n<eN:=by have:=bne e1;omega
 have aU:=SF.resolve_left aa0;apply Bm (λs'=>At f9 s' lo (lo+eN)/\De r (arrOf s') lo (lo+(n+1)))
 .intro shared;by_cases Hw:n>1
  rotate_left
  .rw[ZL Hw];have e:n=1:=by omega
   have d:De r (arrOf f9) lo (lo+(n+1)):=by
    subst e;exact(De.one O _ _).more O aa0 (O.of_lt aU)
   apply shared f9 ⟨.rfl',d⟩
  .rw[ZD Hw];refine wpS_bind (kc L hk hp aa0 aa0 ?_);cases e:r (gt (arrOf f9) lo) (gt (arrOf f9) (lo+n-1))with
   |true=>exact wpS_pure (q n _ n1 n2 .rfl' s1)
   |false=>
    dsimp only;rw[ZL Zl];refine wpS_bind (wx ?_);have all:∀k,lo<=k->k<lo+n->le r (gt (arrOf f9) k) (gt (arrOf f9) (lo+n-1))/\le r (gt (arrOf f9) (lo+n-1)) (gt (arrOf f9) k):=λk k1 k2=>⟨s1 k _ k1 aa0 aa0,O.trans e (s1 lo k (Zu _) k1 k2)⟩;have d0:De r (arrOf f9) lo (lo+n):=λi j g1 g2 g3=>O.trans (all j aa0 g3).1 (all i g1 aa0).2;exact shared _ ⟨At.mirror aa0 (Zu _) aa0,(d0.more O n1 (O.of_lt aU)).eqv O (iT O aa0 all)⟩
 rintro s' ⟨a0,d0⟩;have z0:=a0.a.size;refine wpS_bind (wpS_lift (acL ⟨rfl,?_⟩));refine wpS_bind (wpS_mono (wpS_forRange (I:=λi c au=>At f9 au lo (lo+eN)/\∃n' z,c=(none,n',z)/\2<=n'/\n'=i/\n'<=eN/\z+1<=n'/\De r (arrOf au) lo (lo+n')/\∀k,lo+n'-(z+1)<=k->k<lo+n'->le r (gt (arrOf au) k) (gt (arrOf au) (lo+n'-1))/\le r (gt (arrOf au) (lo+n'-1)) (gt (arrOf au) k))
  (Q:=λc au=>At f9 au lo (lo+eN)/\∃n' z,c=(none,n',z)/\2<=n'/\n'<=eN/\z+1<=n'/\De r (arrOf au) lo (lo+n')/\∀k,lo+n'-(z+1)<=k->k<lo+n'->le r (gt (arrOf au) k) (gt (arrOf au) (lo+n'-1))/\le r (gt (arrOf au) (lo+n'-1)) (gt (arrOf au) k)) ?_ ?_ ⟨a0,n+1,0,rfl,by omega,by omega,by omega,by omega,d0,λk k1 k2=>?_⟩) ?_)
 .rintro i c cN i1 i2 ⟨a2,n',z,rfl,m1,m2,m3,m4,d2,eq2⟩;have Su:=a2.a.size;dsimp only;refine wpS_bind (kc L (a2.a.k.trans hk) (a2.a.all hp) aa0 aa0 ?_);cases e:r (gt (arrOf cN) (lo+n')) (gt (arrOf cN) (lo+n'-1))with
  |true=>
   dsimp only;rw[ZD rfl];have d3:=d2.more O aa0 (O.of_lt e);split
   .refine wpS_bind (wx (wpS_pure ⟨a2.trans (At.mirror aa0 aa0 aa0),n'+1,0,rfl,by omega,by omega,by omega,by omega,d3.eqv O (iT O aa0 eq2),λk k1 k2=>?_⟩));rw[show k=lo+(n'+1)-1 by omega];exact⟨O.refl _,O.refl _⟩
   .refine wpS_pure ⟨a2,n'+1,0,rfl,by omega,by omega,by omega,by omega,d3,λk k1 k2=>?_⟩;rw[show k=lo+(n'+1)-1 by omega];exact⟨O.refl _,O.refl _⟩
  |false=>
   dsimp only;rw[ZL Zl];refine wpS_bind (kc L (a2.a.k.trans hk) (a2.a.all hp) aa0 aa0 ?_);cases e':r (gt (arrOf cN) (lo+n'-1)) (gt (arrOf cN) (lo+n'))with
   |true=>exact wpS_pure ⟨a2,n',z,rfl,m1,m3,m4,d2,eq2⟩
   |false=>
    refine wpS_pure ⟨a2,n'+1,z+1,rfl,by omega,by omega,by omega,by omega,d2.more O aa0 e',λk k1 k2=>?_⟩;rw[show lo+(n'+1)-1=lo+n' by omega];rcases aap k (lo+n')with y|y
    .have:=eq2 k aa0 y;exact⟨O.trans this.1 e,O.trans e' this.2⟩
    .rw[show k=lo+n' by omega];exact⟨O.refl _,O.refl _⟩
 .rintro c cN ⟨a2,n',z,rfl,m1,m2,m3,m4,d2,eq2⟩;exact⟨a2,n',z,rfl,m1,m3,m4,d2,eq2⟩
 .rw[show k=lo+(n+1)-1 by omega];exact⟨O.refl _,O.refl _⟩
 rintro c jZ ⟨a3,n',z,rfl,m1,m2,m4,d3,eq3⟩;have Y4:=a3.a.size;dsimp only;apply Bm (λs'=>At f9 s' lo (lo+eN)/\De r (arrOf s') lo (lo+n'))
 .intro shared;by_cases Ml:z>0
  rotate_left
  .rw[ZL Ml];apply shared jZ ⟨a3,d3⟩
  .rw[ZD Ml];refine wpS_bind (wx ?_);exact shared _ ⟨a3.trans (At.mirror aa0 aa0 aa0),d3.eqv O (iT O aa0 eq3)⟩
 rintro s4 ⟨a4,d4⟩;have Y5:=a4.a.size;refine wpS_bind (wx ?_);have a5:=a4.trans (At.mirror (i:=lo) (j:=lo+n') aa0 (Zu _) (show lo+n'<=lo+eN by omega));have s5:=d4.turn aa0;refine wpS_bind (wpS_mono (wpS_forRange (I:=λi c au=>At f9 au lo (lo+eN)/\∃m,c=(none,m)/\1<=m/\m=i/\m<=eN/\So r (arrOf au) lo (lo+m))
  (Q:=λc au=>At f9 au lo (lo+eN)/\∃m,c=(none,m)/\1<=m/\m<=eN/\So r (arrOf au) lo (lo+m)) ?_ (λc au ⟨y,m,y1,y2,_,y3,y4⟩=>⟨y,m,y1,y2,y3,y4⟩) ⟨a5,n',rfl,by omega,rfl,m2,s5⟩) ?_)
 .rintro i c AF i1 i2 ⟨a5,m,rfl,y1,y2,y3,y4⟩;have Y6:=a5.a.size;dsimp only;refine wpS_bind (kc L (a5.a.k.trans hk) (a5.a.all hp) aa0 aa0 ?_);cases e:r (gt (arrOf AF) (lo+m)) (gt (arrOf AF) (lo+m-1))with
  |true=>exact wpS_pure ⟨a5,m,rfl,y1,y3,y4⟩
  |false=>exact wpS_pure ⟨a5,m+1,rfl,by omega,by omega,by omega,y4.more O y1 e⟩
 .rintro c AF ⟨a5,m,rfl,y1,y3,y4⟩;exact wpS_pure (q m AF y1 y3 a5 y4)
end
def qH(xs:Array Keyed)(i:Nat):gt xs i=xs.toList[i]?.getD (.none,.none):=by unfold gt;rw[ZY]
section
variable {r:Keyed->Keyed->Bool}{prog:Program}{w:World}{A:Around}{E:Value->Shared->Prop}{s:Shared}{κ:SortKind}{P:Keyed->Prop}
def tm{xs:Array Keyed}{lo n:Nat}(h:So r xs lo (lo+n))(hz:lo+n<=xs.size):(sg xs lo n).Pairwise (le r):=by
 rw[aaY];intro i j hi hj A6;rw[dM hz]at hi hj;have e1:=fO (arr:=xs) hi hz;have e2:=fO (arr:=xs) hj hz;rw[Zj (by rw[dM hz];omega)]at e1 e2;rw[ZU e1,ZU e2,<-iG,<-iG];exact h _ _ aa0 aa0 aa0
def JW{ms:List Keyed}{o:Nat}{a:Array Keyed}(h:o+ms.length<=a.size)(i:Nat):gt (ms.zipIdx.foldl (λa (p:Keyed×Nat)=>a.setIfInBounds (o+p.2) p.1) a) i=if i<o then gt a i else if h:i-o<ms.length then ms[i-o] else gt a i:=by
 rw[qH,qE ms o 0 a aa0,adU];have ht:(a.toList.take o).length =o:=by rw[aaM,ZQ];omega
 by_cases h1:i<o
 .rw[ZD h1,ZW,aao aa0,acj,ZD h1,qH]
 .rw[ZL h1,ZW,aar aa0,ht];by_cases h2:i-o<ms.length
  .rw[dif_pos h2,aao h2,Zj h2];rfl
  .rw[dif_neg h2,aar aa0,acR,qH];congr 2;omega
def y_{i sa na pw sb nb Mm:Nat}{st:SortSt}{Q:Bool->SortSt->Prop}(L:mH prog w A E s κ P r)(O:Ord r)(hk:kindOf st=κ)(hp:∀x∈arrOf st,P x)(hf:failedOf st=none)(e1:(pendingOf st)[i]?=some (sa,na,pw))(e2:(pendingOf st)[i+1]?=some (sb,nb,Mm))(W9:sb=sa+na)(h1:1<=na)(h2:1<=nb)(hz:sb+nb<=(arrOf st).size)
  (N7:So r ab1 sa sb) (N8:So r ab1 sb (sb+nb))
  (q:∀au,kindOf au=κ->(arrOf au).Perm ab1->failedOf au=none->pendingOf au=((pendingOf st).setIfInBounds i (sa,na+nb,pw)).eraseIdxIfInBounds (i+1)->(∀i,i<sa\/sb+nb<=i->gt (arrOf au) i=gt ab1 i)->So r (arrOf au) sa (sb+nb)->Q true au):wpS aa3 A E s (mergeAt' i) Q st:=by
 have SG:So r ab1 sa (sa+na):=by rw[<-W9];exact N7
 have W_:=tm SG aa0;have Xa:=tm N8 hz;have N9:sb<(arrOf st).size :=by omega
 have b0:∀j,sb<=j->j<sb+nb->le r ab1[sb] (gt ab1 j):=λj j1 j2=>by
  rw[<-iG N9];exact N8 sb j (Zu _) j1 j2
 have whole:(∀x,sa<=x->x<sb->∀y,sb<=y->y<sb+nb->le r (gt ab1 x) (gt ab1 y))->So r ab1 sa (sb+nb):=λh x y x1 x2 x3=>by
  rcases aap y sb with z|z
  .exact N7 x y x1 x2 z
  .rcases aap x sb with z'|z'
   .exact h x x1 z' y z x3
   .exact N8 x y z' x2 x3
 have US:∀{c:Nat},c<na->∃h,(sg ab1 sa na)[c]'h=gt ab1 (sa+c):=λ{c} hc=>by
  have hl:c<(sg ab1 sa na).length :=by rw[dM aa0];exact hc
  refine⟨hl,?_⟩;have e:=fO (arr:=arrOf st) hc (show sa+na<=(arrOf st).size by omega);rw[Zj hl]at e;rw[ZU e,<-iG]
 have UT:∀{c:Nat},c<nb->∃h,(sg ab1 sb nb)[c]'h=gt ab1 (sb+c):=λ{c} hc=>by
  have hl:c<(sg ab1 sb nb).length :=by rw[dM hz];exact hc
  refine⟨hl,?_⟩;have e:=fO (arr:=arrOf st) hc hz;rw[Zj hl]at e;rw[ZU e,<-iG]
 rw[sV];refine wpS_bind (wpS_get ?_);rw[e1,e2];dsimp only;refine wpS_bind (EM (wpS_bind (bz N9 (wpS_bind (cX L O hk (hp _ (aax _)) hp aa0 aa0 W_ λk JQ g1 g2=>?_)))));dsimp only;have JX:∀j,sa<=j->j<sa+k->le r (gt ab1 j) ab1[sb]:=λj j1 j2=>by
  obtain⟨hl,e⟩:=US (show j-sa<na by omega);have:=g1 ((sg ab1 sa na)[j-sa]) (by rw[adX];exact⟨j-sa,by rw[dM aa0];omega,rfl⟩);rw[e,show sa+(j-sa)=j by omega]at this;unfold vh at this;simpa[le]using this
 have UU:∀j,sa+k<=j->j<sb->le r ab1[sb] (gt ab1 j):=λj j1 j2=>by
  obtain⟨hl,e⟩:=US (show j-sa<na by omega);have:=g2 ((sg ab1 sa na)[j-sa]) (by rw[adY];exact⟨j-sa-k,by omega,by congr 1;omega⟩);rw[e,show sa+(j-sa)=j by omega]at this;unfold vh at this;have h':r ab1[sb] (gt ab1 j)=true:=by simpa using this
  exact O.of_lt h'
 by_cases c1:(na-k==0)=true
 .rw[ZD c1];have DU:k=na:=by
   have:na-k=0:=by simpa using c1
   omega
  exact wpS_pure (q _ hk (adL _) hf rfl (λ_ _=>rfl) (whole λx x1 x2 y y1 y2=>O.trans (JX x x1 aa0) (b0 y y1 y2)))
 rw[ZL c1];have DU:k<na:=by have:=bne c1;omega
 have UW:sa+k+(na-k)-1<(arrOf st).size :=by omega
 refine wpS_bind (bz UW (wpS_bind (cX L O hk (hp _ (aax _)) hp aa0 aa0 Xa λog Xb g3 g4=>?_)));dsimp only;have ze:ab1[sa+k+(na-k)-1]=gt ab1 (sb-1):=by rw[<-iG UW];congr 1;omega
 rw[ze]at g3 g4;have N_:∀j,sa<=j->j<sb->le r (gt ab1 j) (gt ab1 (sb-1)):=λj j1 j2=>N7 j (sb-1) j1 aa0 aa0;have Oa:∀j,sb<=j->j<sb+og->le r (gt ab1 j) (gt ab1 (sb-1)):=λj j1 j2=>by
  obtain⟨hl,e⟩:=UT (show j-sb<nb by omega);have:=g3 ((sg ab1 sb nb)[j-sb]) (by rw[adX];exact⟨j-sb,by rw[dM hz];omega,rfl⟩);rw[e,show sb+(j-sb)=j by omega]at this;exact O.of_lt this
 have UX:∀j,sb+og<=j->j<sb+nb->le r (gt ab1 (sb-1)) (gt ab1 j):=λj j1 j2=>by
  obtain⟨hl,e⟩:=UT (show j-sb<nb by omega);have:=g4 ((sg ab1 sb nb)[j-sb]) (by rw[adY];exact⟨j-sb-og,by omega,by congr 1;omega⟩);rw[e,show sb+(j-sb)=j by omega]at this;exact this
 by_cases c2:(og==0)=true
 .rw[ZD c2];have Hv:og=0:=by simpa using c2
  exact wpS_pure (q _ hk (adL _) hf rfl (λ_ _=>rfl) (whole λx x1 x2 y y1 y2=>O.trans (N_ x x1 x2) (UX y aa0 y2)))
 rw[ZL c2];have Hv:1<=og:=by have:=bne c2;omega
 have hx:∀x∈(arrOf st).extract (sa+k) sb,P x:=λx hx=>hp x (wy hx);have hy:∀x∈(arrOf st).extract sb (sb+og),P x:=λx hx=>hp x (wy hx);have sx:((arrOf st).extract (sa+k) sb).size =na-k:=by rw[afm];omega
 have sy:((arrOf st).extract sb (sb+og)).size =og:=by rw[afm];omega
 have lx:((arrOf st).extract (sa+k) sb).toList =sg ab1 (sa+k) (na-k):=by
  have:=dN ab1 (sa+k) (na-k);rwa [show sa+k+(na-k)=sb by omega]at this
 have ly:((arrOf st).extract sb (sb+og)).toList =sg ab1 sb og:=dN _ _ _;have px:((arrOf st).extract (sa+k) sb).toList.Pairwise (le r):=by
  rw[lx];exact tm (λx y x1 x2 x3=>N7 x y aa0 x2 aa0) aa0
 have py:((arrOf st).extract sb (sb+og)).toList.Pairwise (le r):=by
  rw[ly];exact tm (λx y x1 x2 x3=>N8 x y x1 x2 aa0) aa0
 have mem:∀{x:Keyed}{o m:Nat},o+m<=(arrOf st).size ->x∈sg ab1 o m->∃j,o<=j/\j<o+m/\x=gt ab1 j:=λ{x o m} SH hx=>by
  obtain⟨t,ht,rfl⟩:=abY hx;rw[dM SH]at ht;refine⟨o+t,by omega,by omega,?_⟩;have e:=fO (arr:=arrOf st) ht SH;rw[Zj (by rw[dM SH];omega)]at e;rw[ZU e,<-iG]
 have first:∀y∈((arrOf st).extract (sa+k) sb).toList,le r (((arrOf st).extract sb (sb+og))[0]' aa0) y:=λy hy=>by
  rw[lx]at hy;obtain⟨j,j1,j2,rfl⟩:=mem aa0 hy;have e:((arrOf st).extract sb (sb+og))[0]' aa0=ab1[sb]:=by rw[Array.getElem_extract];rfl
  rw[e];exact UU j j1 aa0
 have final:∀y∈((arrOf st).extract sb (sb+og)).toList,∀x∈((arrOf st).extract (sa+k) sb).toList.drop (((arrOf st).extract (sa+k) sb).size-1),le r y x:=λy hy x hx=>by
  rw[ly]at hy;obtain⟨j,j1,j2,rfl⟩:=mem aa0 hy;rw[sx,lx]at hx;obtain⟨m,hm,rfl⟩:=abY hx;rw[acb,dM aa0]at hm;rw[List.getElem_drop];have e:=fO (arr:=arrOf st) (show na-k-1+m<na-k by omega) (show sa+k+(na-k)<=(arrOf st).size by omega);rw[Zj (by rw[dM aa0];omega)]at e;rw[ZU e,<-iG,show sa+k+(na-k-1+m)=sb-1 by omega];exact Oa j j1 j2
 have Ob:∀(out:Array Keyed) (au:SortSt),out.toList.Perm (((arrOf st).extract (sa+k) sb).toList ++((arrOf st).extract sb (sb+og)).toList)->out.toList.Pairwise (le r)->Sm (setPending st (((pendingOf st).setIfInBounds i (sa,na+nb,pw)).eraseIdxIfInBounds (i+1))) au->
   Q (failedOf (setArr au (out.toList.zipIdx.foldl (λa (p,j)=>a.setIfInBounds (sa+k+j) p) (arrOf au)))).isNone (setArr au (out.toList.zipIdx.foldl (λa (p,j)=>a.setIfInBounds (sa+k+j) p) (arrOf au))):=λout au qI vk hS=>by
  have QI:failedOf au=none:=hS.f.trans hf;have e4:(failedOf (setArr au (out.toList.zipIdx.foldl (λa (p,j)=>a.setIfInBounds (sa+k+j) p) (arrOf au)))).isNone =true:=by show(failedOf au).isNone =true;rw[QI];rfl
  rw[e4];have ha:arrOf au=arrOf st:=hS.a;have hl:=qI.length_eq;rw[Zw,ZQ (xs:=(arrOf st).extract (sa+k) sb),ZQ (xs:=(arrOf st).extract sb (sb+og)),sx,sy]at hl;have UY:∀x∈out.toList,le r ab1[sb] x/\le r x (gt ab1 (sb-1)):=λx hx=>by
   rcases ZI.mp (qI.mem_iff.mp hx)with z|z
   .rw[lx]at z;obtain⟨j,j1,j2,rfl⟩:=mem aa0 z;exact⟨UU j j1 aa0,N_ j aa0 aa0⟩
   .rw[ly]at z;obtain⟨j,j1,j2,rfl⟩:=mem aa0 z;exact⟨b0 j j1 aa0,Oa j j1 j2⟩
  have hg:∀j,gt (arrOf (setArr au (out.toList.zipIdx.foldl (λa (p,j)=>a.setIfInBounds (sa+k+j) p) (arrOf au)))) j=if j<sa+k then gt ab1 j else if h:j-(sa+k)<out.toList.length then out.toList[j-(sa+k)] else gt ab1 j:=λj=>by
   show gt (out.toList.zipIdx.foldl (λa (p:Keyed×Nat)=>a.setIfInBounds (sa+k+p.2) p.1) (arrOf au)) j=_;rw[JW (by rw[ha];omega),ha]
  refine q _ (hS.k.trans hk) ?_ QI hS.p (λj hj=>?_) (λx y x1 x2 x3=>?_)
  .show(out.toList.zipIdx.foldl (λa (p:Keyed×Nat)=>a.setIfInBounds (sa+k+p.2) p.1) (arrOf au)).Perm ab1;rw[adP,ha,qE _ (sa+k) 0 _ aa0];have e3:(arrOf st).toList =(arrOf st).toList.take (sa+k+0)++(((arrOf st).extract (sa+k) sb).toList ++((arrOf st).extract sb (sb+og)).toList)++(arrOf st).toList.drop (sa+k+0+out.toList.length):=by
    have t1:=e_ ab1 (i:=sa+k) (k:=na-k);have t2:=e_ ab1 (i:=sb) (k:=og);rw[show sa+k+(na-k)=sb by omega]at t1;rw[adU,<-ZW,t1,t2,hl,show sa+k+(na-k+og)=sb+og by omega,aaL]
   refine List.Perm.trans ?_ (List.Perm.of_eq e3.symm);exact(qI.append_left _).append_right _
  .rw[hg];split
   .rfl
   .rw[dif_neg aa0]
  .rw[hg,hg];by_cases a1:x<sa+k
   .rw[ZD a1];by_cases a2:y<sa+k
    .rw[ZD a2];exact N7 x y x1 x2 aa0
    .rw[ZL a2];by_cases a3:y-(sa+k)<out.toList.length
     .rw[dif_pos a3];exact O.trans (JX x x1 a1) (UY _ (abv a3)).1
     .rw[dif_neg a3];exact O.trans (JX x x1 a1) (b0 y aa0 x3)
   .rw[ZL a1,ZL (show¬y<sa+k by omega)];by_cases a2:x-(sa+k)<out.toList.length
    .rw[dif_pos a2];by_cases a3:y-(sa+k)<out.toList.length
     .rw[dif_pos a3];rcases aap x y with z|z
      .exact(aaY.mp vk) _ _ a2 a3 aa0
      .have:x=y:=by omega
       subst this;exact O.refl _
     .rw[dif_neg a3];exact O.trans (UY _ (abv a2)).2 (UX y aa0 x3)
    .rw[dif_neg a2,dif_neg aa0];exact N8 x y aa0 x2 x3
 by_cases c3:na-k<=og
 .rw[ZD c3];exact wpS_bind (yY L O hk hx hy aa0 aa0 px py first final λout au qI vk hS=>wpS_bind (wpS_modify (wpS_bind (wpS_get (wpS_pure (Ob out au qI vk hS))))))
 .rw[ZL c3];exact wpS_bind (y9 L O hk hx hy aa0 aa0 px py first final λout au qI vk hS=>wpS_bind (wpS_modify (wpS_bind (wpS_get (wpS_pure (Ob out au qI vk hS))))))
end
def qJ(r:Keyed->Keyed->Bool)(xs:Array Keyed):Nat->List (Nat×Nat×Nat)->Nat->Prop
 |s,[],e=>s=e
 |s,(a,n,_)::l,e=>a=s/\1<=n/\So r xs s (s+n)/\qJ r xs (s+n) l e
section
variable {r:Keyed->Keyed->Bool}{xs ys:Array Keyed}
def So.keep{lo hi:Nat}(h:So r xs lo hi)(e:∀i,lo<=i->i<hi->gt ys i=gt xs i):So r ys lo hi:=λi j h1 h2 h3=>by
 rw[e i h1 aa0,e j aa0 h3];exact h i j h1 h2 h3
theorem qJ.snoc:∀{s:Nat}{l:List (Nat×Nat×Nat)}{e n:Nat},qJ r xs s l e->1<=n->So r xs e (e+n)->qJ r xs s (l++[(e,n,p)]) (e+n)
 |s,[],e,n,h,hn,hs=>by
  have h':s=e:=h;subst h';exact⟨rfl,hn,hs,rfl⟩
 |s,(a,m,q)::l,e,n,⟨h1,h2,h3,h4⟩,hn,hs=>⟨h1,h2,h3,h4.snoc hn hs⟩
theorem qJ.le:∀{s:Nat}{l:List (Nat×Nat×Nat)}{e:Nat},qJ r xs s l e->s+l.length<=e
 |s,[],e,h=>Zy h
 |s,(a,m,q)::l,e,⟨h1,h2,h3,h4⟩=>by have:=h4.le;rw[ZM];omega
theorem qJ.keep:∀{s:Nat}{l:List (Nat×Nat×Nat)}{e:Nat},qJ r xs s l e->(∀i,s<=i->i<e->gt ys i=gt xs i)->qJ r ys s l e
 |s,[],e,h,_=>h
 |s,(a,m,q)::l,e,⟨h1,h2,h3,h4⟩,k=>⟨h1,h2,h3.keep λi i1 i2=>k i i1 (by have:=h4.le;omega),h4.keep λi i1 i2=>k i aa0 i2⟩
theorem qJ.at:∀{s:Nat}{l:List (Nat×Nat×Nat)}{e i:Nat},qJ r xs s l e->i+1<l.length->∃sa na pw sb nb Mm,l[i]?=some (sa,na,pw)/\l[i+1]?=some (sb,nb,Mm)/\sb=sa+na/\1<=na/\1<=nb/\sb+nb<=e/\s<=sa/\So r xs sa sb/\So r xs sb (sb+nb)/\
   ∀ys:Array Keyed,(∀i,i<sa\/sb+nb<=i->gt ys i=gt xs i)->So r ys sa (sb+nb)->qJ r ys s ((l.set i (sa,na+nb,pw)).eraseIdx (i+1)) e
 |s,[],e,i,h,hi=>by simp at hi
 |s,[x],e,i,h,hi=>by simp at hi
 |s,(a,n,p)::(b,m,q)::l,e,0,⟨h1,h2,h3,h4,h5,h6,h7⟩,_=>by
  subst h1;subst h4;refine⟨a,n,p,a+n,m,q,rfl,rfl,rfl,h2,h5,by have:=h7.le;omega,Zu _,h3,h6,λys k ks=>?_⟩;refine⟨rfl,by omega,by rw[<-abA];exact ks,?_⟩;rw[<-abA];exact h7.keep λi i1 i2=>k i (.inr i1)
 |s,(a,n,p)::y::l,e,i+1,⟨h1,h2,h3,h4⟩,hi=>by
  obtain⟨sa,na,pw,sb,nb,Mm,g1,g2,g3,g4,g5,g6,g7,g8,g9,Oc⟩:=qJ.at (i:=i) h4 (by simpa using hi);refine⟨sa,na,pw,sb,nb,Mm,g1,g2,g3,g4,g5,g6,by omega,g8,g9,λys k ks=>?_⟩;exact⟨h1,h2,h3.keep λi i1 i2=>k i (.inl aa0),Oc ys k ks⟩
theorem qJ.power:∀{s:Nat}{l:List (Nat×Nat×Nat)}{e i:Nat},qJ r xs s l e->qJ r xs s (l.modify i λx=>(x.1,x.2.1,f)) e
 |s,[],e,i,h=>by cases i<;>exact h
 |s,(a,n,p)::l,e,0,⟨h1,h2,h3,h4⟩=>⟨h1,h2,h3,h4⟩
 |s,(a,n,p)::l,e,i+1,⟨h1,h2,h3,h4⟩=>⟨h1,h2,h3,h4.power⟩
end
section
variable {prog:Program}{w:World}{A:Around}{E:Value->Shared->Prop}{s:Shared}{κ:SortKind}{P:Keyed->Prop}{r:Keyed->Keyed->Bool}
structure Ah(r:Keyed->Keyed->Bool)(κ:SortKind)(a₀:Array Keyed)(st:SortSt)(lo:Nat):Prop where
 k:kindOf st=κ
 a:(arrOf st).Perm a₀
 f:failedOf st=none
 c:qJ r ab1 0 (pendingOf st).toList lo
def Ah.merge{a₀:Array Keyed}{st:SortSt}{lo i:Nat}{Q:Bool->SortSt->Prop}(L:mH prog w A E s κ P r)(O:Ord r)(hp:∀x∈a₀,P x)(h:Ah r κ a₀ st lo)(Jr:lo<=a₀.size)(hi:i+1<(pendingOf st).size)(q:∀au,Ah r κ a₀ au lo->(pendingOf au).size+1=(pendingOf st).size ->(∀j,lo<=j->gt (arrOf au) j=gt ab1 j)->Q true au):wpS aa3 A E s (mergeAt' i) Q st:=by
 obtain⟨sa,na,pw,sb,nb,Mm,g1,g2,g3,g4,g5,g6,g7,g8,g9,Oc⟩:=h.c.at (i:=i) (by rw[ZQ];exact hi);rw[ZY]at g1 g2;refine y_ L O h.k (λx hx=>hp x (h.a.mem_iff.mp hx)) h.f g1 g2 g3 g4 g5 (by rw[h.a.size_eq];omega) g8 g9 λau k1 k2 k3 k4 k5 k6=>q au ⟨k1,k2.trans h.a,k3,?_⟩ ?_ (λj hj=>k5 j (.inr aa0))
 .rw[k4,adj,acA];exact Oc _ k5 k6
 .rw[k4,<-ZQ,adj,acA,adQ (by rw[aag,ZQ];exact hi),aag,ZQ];omega
def JY{α:Type}{x:SM α}{st:SortSt}{Q:α->SortSt->Prop}{T:Nat->SortSt->Prop}(C:Nat->SortSt->Prop)(main:(∀n s',C n s'->T n s')->wpS aa3 A E s x Q st)(h:∀n s',C n s'->T n s'):wpS aa3 A E s x Q st:=main h
def vm{a₀:Array Keyed}{st:SortSt}{Q:Unit->SortSt->Prop}(L:mH prog w A E s κ P r)(O:Ord r)(hp:∀x∈a₀,P x)(h:Ah r κ a₀ st 0)(q:∀au,(arrOf au).Perm a₀->failedOf au=none->So r (arrOf au) 0 a₀.size->Q () au):wpS aa3 A E s sortRuns' Q st:=by
 rw[sortRuns'_eq];refine wpS_bind (wpS_get ?_);dsimp only;have hz:(arrOf st).size =a₀.size:=h.a.size_eq;rw[hz];refine wpS_bind (wpS_mono (wpS_forRange (I:=λi c au=>∃lo,c=(none,lo)/\Ah r κ a₀ au lo/\lo<=a₀.size/\i<=lo) (Q:=λc au=>∃lo,c=(none,lo)/\Ah r κ a₀ au lo/\lo=a₀.size) ?step ?fin ⟨0,rfl,h,aak _,Zu _⟩) ?post)
 case fin=>
  rintro c f9 ⟨lo,rfl,g0,Jr,Xc⟩;exact⟨lo,rfl,g0,by omega⟩
 case step=>
  rintro i c f9 _ _ ⟨lo,rfl,g0,Jr,Xc⟩;dsimp only;by_cases UZ:lo ≥ a₀.size
  .rw[ZD UZ];exact wpS_pure ⟨lo,rfl,g0,by omega⟩
  rw[ZL UZ];have Mi:(arrOf f9).size =a₀.size:=g0.a.size_eq;refine wpS_bind (vj L O g0.k (λx hx=>hp x (g0.a.mem_iff.mp hx)) aa0 aa0 λn cN Hw Qs a1 Mn=>?_);have g1:Ah r κ a₀ cN lo:=⟨a1.a.k.trans g0.k,a1.a.a.trans g0.a,a1.a.f.trans g0.f,by rw[a1.a.p];exact g0.c.keep λj _ hj=>a1.o j (.inl hj)⟩;dsimp only;apply JY (λn s'=>Ah r κ a₀ s' lo/\1<=n/\lo+n<=a₀.size/\So r (arrOf s') lo (lo+n))
  .intro shared;by_cases U0:n<minRun' a₀.size a₀.size 0
   rotate_left
   .rw[ZL U0];apply shared n cN ⟨g1,Hw,by omega,Mn⟩
   .rw[ZD U0];refine wpS_bind (wpS_lift (acL ⟨rfl,?_⟩));have Su:(arrOf cN).size =a₀.size:=g1.a.size_eq;refine wpS_bind (qG L O g1.k (λx hx=>hp x (g1.a.mem_iff.mp hx)) aa0 aa0 Mn λjZ a3 JZ=>?_);rw[ZL aa1];exact shared _ jZ ⟨⟨a3.a.k.trans g1.k,a3.a.a.trans g1.a,a3.a.f.trans g1.f,by rw[a3.a.p];exact g1.c.keep λj _ hj=>a3.o j (.inl hj)⟩,by omega,by omega,JZ⟩
  clear Hw Qs a1 Mn g1;rintro n cN ⟨g1,Hw,Qs,Mn⟩;refine wpS_bind (wpS_get ?_);cases hb:(pendingOf cN).back? with
  |none=>exact wpS_bind (wpS_modify (wpS_pure ⟨_,rfl,⟨g1.k,g1.a,g1.f,by
    show qJ r (arrOf cN) 0 ((pendingOf cN).push _).toList _;rw[abC];exact g1.c.snoc Hw Mn⟩,by omega,by omega⟩))
  |some x=>
   obtain⟨s1,n1,p1⟩:=x;dsimp only;refine wpS_bind (wpS_mono (wpS_forRange (I:=λ_ c au=>c=(none,())/\Ah r κ a₀ au lo/\So r (arrOf au) lo (lo+n)) (Q:=λc au=>c=(none,())/\Ah r κ a₀ au lo/\So r (arrOf au) lo (lo+n)) ?_ (λ_ _ z=>z) ⟨rfl,g1,Mn⟩) ?_)
   .rintro _ c jZ _ _ ⟨rfl,g3,JZ⟩;refine wpS_bind (wpS_get ?_);by_cases hs:(pendingOf jZ).size>1
    .rw[ZD hs];have aU:(pendingOf jZ).size-2<(pendingOf jZ).size :=by omega
     rw[ZK aU];dsimp only;split
     .exact wpS_pure ⟨rfl,g3,JZ⟩
     .refine wpS_bind (g3.merge L O hp aa0 aa0 λQw g4 _ k4=>?_);exact wpS_pure ⟨rfl,g4,JZ.keep λj j1 _=>k4 j j1⟩
    .rw[ZL hs];exact wpS_pure ⟨rfl,g3,JZ⟩
   .rintro c jZ ⟨rfl,g3,JZ⟩;exact wpS_bind (wpS_modify (wpS_bind (wpS_modify (wpS_pure ⟨_,rfl,⟨g3.k,g3.a,g3.f,by
     show qJ r (arrOf jZ) 0 (((pendingOf jZ).modify _ _).push _).toList _;rw[abC,Array.toList_modify];exact(g3.c.power).snoc Hw JZ⟩,by omega,by omega⟩))))
 case post=>
  rintro c f9 ⟨lo,rfl,g0,Jr⟩;dsimp only;refine wpS_bind (wpS_mono (wpS_forRange (I:=λi c au=>c=(none,())/\Ah r κ a₀ au lo/\((pendingOf au).size <=1\/(pendingOf au).size+i<=lo)) (Q:=λc au=>c=(none,())/\Ah r κ a₀ au lo/\(pendingOf au).size <=1) ?_ ?_ ⟨rfl,g0,.inr ?_⟩) ?_)
  .rintro j c jZ _ _ ⟨rfl,g3,SF⟩;refine wpS_bind (wpS_get ?_);by_cases hs:(pendingOf jZ).size <=1
   .rw[ZD hs];exact wpS_pure ⟨rfl,g3,hs⟩
   .rw[ZL hs];refine wpS_bind (g3.merge L O hp aa0 (NV aa0 aa0) λQw g4 k4 _=>?_);exact wpS_pure ⟨rfl,g4,.inr aa0⟩
  .rintro c jZ ⟨hc,g3,SF⟩;exact⟨hc,g3,by omega⟩
  .have:=g0.c.le;rw[ZQ]at this;omega
  .rintro c jZ ⟨rfl,g3,hs⟩;refine wpS_pure (q jZ g3.a g3.f ?_);have hc:=g3.c;have hl:(pendingOf jZ).toList.length <=1:=by rw[ZQ];exact hs
   cases Hn:(pendingOf jZ).toList with
   |nil=>
    rw[Hn]at hc;have:0=lo:=hc;intro x y _ _ h3;omega
   |cons x l=>
    rw[Hn]at hc hl;cases l with
    |cons _ _=>simp at hl
    |nil=>
     obtain⟨a,n,p⟩:=x;obtain⟨c1,c2,c3,c4⟩:=hc;have Xd:0+n=lo:=c4;rw[<-Jr,<-Xd];exact c3
end
open PySem.W
theorem gw:∀u v:List Int,bC u v=true->bC v u=false
 |[],[],h=>by cases h
 |[],_::_,_=>rfl
 |_::_,[],h=>by cases h
 |n::u,m::v,h=>by
  unfold bC at h⊢;by_cases e:n=m
  .rw[ZD e]at h;rw[ZD e.symm];exact gw u v h
  .rw[ZL e]at h;rw[ZL λz=>e z.symm];have:=of_decide_eq_true h;exact decide_eq_false (abk (acI this))
theorem jv:∀u v w:List Int,bC v u=false->bC w v=false->bC w u=false
 |[],_,[],_,_=>rfl
 |[],_,_::_,_,_=>rfl
 |_::_,[],_,h,_=>by cases h
 |_::_,_::_,[],_,h=>by cases h
 |n::u,m::v,k::w,h1,h2=>by
  unfold bC at h1 h2⊢;by_cases e1:m=n
  .rw[ZD e1]at h1;by_cases e2:k=m
   .rw[ZD e2]at h2;rw[ZD (e2.trans e1)];exact jv u v w h1 h2
   .rw[ZL e2]at h2;rw[ZL (λz=>e2 (z.trans e1.symm)),<-e1];exact h2
  .rw[ZL e1]at h1;have g1:=of_decide_eq_false h1;by_cases e2:k=m
   .rw[ZL (λz=>e1 (e2.symm.trans z))];exact decide_eq_false (abk (acK (aeB g1) (Int.le_of_eq (aad e2))))
   .rw[ZL e2]at h2;have g2:=of_decide_eq_false h2;rw[ZL aa0];exact decide_eq_false (abk (acK (aeB g1) (aeB g2)))
theorem kf:∀u v:List Int,bC u v=false->bC v u=false->u=v
 |[],[],_,_=>rfl
 |[],_::_,h,_=>by cases h
 |_::_,[],_,h=>by cases h
 |n::u,m::v,h1,h2=>by
  unfold bC at h1 h2;by_cases e:n=m
  .rw[ZD e]at h1;rw[ZD e.symm]at h2;rw[e,kf u v h1 h2]
  .rw[ZL e]at h1;rw[ZL λz=>e z.symm]at h2;have:=of_decide_eq_false h1;have:=of_decide_eq_false h2;omega
def Bn:∀{l:List α},l.length<=1->l.Pairwise R
 |[],_=> .nil
 |[_],_=>acS _ _
 |_::_::_,h=>absurd h aa9
def TupIs(h:Heap)(v:Value)(ns:List Int):Prop:=∃(x:Addr) (o:Obj) (xs:List Value) (n:Nat),v= .ref x/\h.get? x=some o/\o.cls= .type "tuple"/\o.data= .seq xs.toArray n/\IntsAre xs ns
def Bo:∀{xs:List Value}{ns ms:List Int},IntsAre xs ns->IntsAre xs ms->ns=ms:=λ{xs ns ms} h=>by
 induction h generalizing ms with
 |nil=>intro h;cases h;rfl
 |cons n t r ih=>intro h;cases h with|cons m u r'=>rw[ih r']
def TupIs.one(h1:TupIs h v ns)(h2:TupIs h v ms):ns=ms:=by
 refine uG h1 λx o xs n af a1 _ a3 a4=>?_
 try clear h1
 subst af;refine uG h2 λy o' ys n' e b1 _ b3 b4=>?_;cases e;rw[a1]at b1;cases b1;rw[a3]at b3;injection b3 with b5 _;have:xs=ys:=by simpa using b5
 subst this;exact Bo a4 b4
noncomputable def br(h:Heap)(v:Value):List Int:=Classical.epsilon λns=>TupIs h v ns
def cq(e:TupIs h v ns):br h v=ns:=(aeJ (p:=λns=>TupIs h v ns) ⟨ns,e⟩).one e
def iS.is(e:iS h v):∃ns,TupIs h v ns:=by
 exact L_ e λx o xs n i r h1 h2 h3 h4 h5=>⟨i::r,x,o,xs,n,h1,h2,h3,h4,h5⟩
noncomputable def rT(h:Heap)(x y:Keyed):Bool:=bC (br h x.1) (br h y.1)
def J0(h:Heap):Ord (rT h):=⟨λx y=>gw _ _,λx y z=>jv _ _ _⟩
section
variable {prog:Program}{w:World}{A:Around}{E:Value->Shared->Prop}{s:Shared}
def Od:∀{xs ys:List Value}{ns ms:List Int},IntsAre xs ns->IntsAre ys ms->fin=decide (xs.length<ys.length)->Q (bC ns ms) s->∀i:Nat,(b=true\/0<i)->KatLex prog w A b fin Q (xs.zip ys) i s:=λ{xs ys ns ms} h=>by
 induction h generalizing ys ms with
 |nil=>
  intro h' hf q i _;refine kat_nil ?_;subst hf;cases h' with
  |nil=>exact q
  |cons _ _ _=>simpa[bC]using q
 |cons n t r ih=>
  intro h' hf q i hi;cases h' with
  |nil=>exact kat_nil (by rw[hf];simpa[bC]using q)
  |cons m u r'=>
   refine kat_cons (ady ?_);cases e:(n==m)with
   |true=>
    have e':n=m:=by simpa using e
    unfold bC at q;rw[ZD e']at q;exact kat_yes (ih r' (by rw[hf];simp) q (i+1) (.inr (abl _)))
   |false=>
    have e':¬n=m:=by simpa using e
    unfold bC at q;rw[ZL e']at q;refine kat_no ?_;by_cases h0:i=0
    .subst h0;have hb:b=true:=hi.elim id λz=>absurd z (aam _);subst hb;exact oneLt_int q
    .have e:(b&&i==0)=false:=by cases b<;>simp[h0]
     rw[e];exact kat_one _ _ (afc q)
def EU:mH prog w A E s (tuples' true) (λp=>iS s.heap p.1) (rT s.heap):=λx y zt Q hx hy hk q=>by
 obtain⟨x1,x2⟩:=x;obtain⟨y1,y2⟩:=y;refine L_ hx λa o xs n i r af h1 h2 h3 h4=>?_
 try clear hx
 subst af;refine L_ hy λb o' ys n' j r' aK g1 g2 g3 g4=>?_
 try clear hy
 subst aK;have q':Q (some (bC (i::r) (j::r'))) zt:=by
  have e1:br s.heap (.ref a)=i::r:=cq ⟨a,o,xs,n,rfl,h1,h2,h3,h4⟩;have e2:br s.heap (.ref b)=j::r':=cq ⟨b,o',ys,n',rfl,g1,g2,g3,g4⟩;have:=q;unfold rT at this;dsimp only at this;rwa [e1,e2]at this
 rw[lt'_eq];refine wpS_bind (wpS_get ?_);rw[hk];refine wpS_bind (wpS_lift (aeu (kat_lt (b:=true) h1 h3 g1 g3 ?_)));have e1:xs.toArray.toList=xs:=by simp
 have e2:ys.toArray.toList=ys:=by simp
 rw[e1,e2];exact Od h4 g4 aa9 ⟨rfl,wpS_pure q'⟩ 0 (.inl rfl)
def qK(ho:s.heap.get? a=some (seqObj "list" vs.toArray n))(hv:∀v∈vs,iS s.heap v)(hz:vs.length<=sizeLine)
  (h:∀out:List Value,out.Perm vs->out.Pairwise (λx y=>bC (br s.heap y) (br s.heap x)=false)->R (.done (.ret .none)) {s with heap:=sortedHeap s.heap a vs out.toArray}):wpAny aa3 A (Builtin.«list.sort» ⟨[.ref a],[]⟩) R E s:=by
 rw[list_sort_plain];have aU:a<s.heap.objs.size:=ZG ho;have d_:∀v∈vs,∀x,v= .ref x->x≠a:=λv m x e z=>by
  obtain⟨x',o,xs,k,i,r,e',g1,g2,_⟩:=hv v m;rw[e]at e';cases e';rw[z,ho]at g1;cases g1;have Xe:Value.type "list"=Value.type "tuple":=g2;injection Xe with g3;exact absurd g3 aa1
 refine Zh (listItems_at ho rfl (Zh (listUpdate_at ho rfl ?_ (by rw[ZA];exact hz) (aak _))));obtain⟨e1,U1⟩:∃e1,(s.heap.update a (Obj.mapSeq λ_=>#[])).get? a=some (seqObj "list" #[] e1):=⟨_,get?_update_seq ho (λ_=>#[])⟩;refine Zh (seqEpoch_at U1 rfl (Zh (wpAny_newTuple (Zh (adG (aan ?_) (aak _))) (by show vs.length<=_;exact hz))));have up:∀b o,b≠a->s.heap.get? b=some o->(((s.heap.update a (Obj.mapSeq λ_=>#[])).push (seqObj "tuple" vs.toArray 0)).push (seqObj "list" #[] 0)).get? b=some o:=λb o hb e=>
  Zi _ (Zi _ (by rw[Z0 _ _ (aay hb)];exact e))
 have SI:(((s.heap.update a (Obj.mapSeq λ_=>#[])).push (seqObj "tuple" vs.toArray 0)).push (seqObj "list" #[] 0)).get? a=some (seqObj "list" #[] e1):=Zi _ (Zi _ U1);show wpAny aa3 A _ R E {s with heap:=((s.heap.update a (Obj.mapSeq λ_=>#[])).push (seqObj "tuple" vs.toArray 0)).push (seqObj "list" #[] 0)};generalize hh:((s.heap.update a (Obj.mapSeq λ_=>#[])).push (seqObj "tuple" vs.toArray 0)).push (seqObj "list" #[] 0)=h6 at up SI⊢;have U2:∀v∈vs,iS h6 v:=λv m=>by
  obtain⟨x,o,xs,k,i,r,e',g1,g2,g3,g4⟩:=hv v m;exact⟨x,o,xs,k,i,r,e',up x o (d_ v m x e') g1,g2,g3,g4⟩
 have same:∀v∈vs,br h6 v=br s.heap v:=λv m=>by
  obtain⟨ns,x,o,xs,k,e',g1,g2,g3,g4⟩:=(hv v m).is;rw[cq (h:=s.heap) ⟨x,o,xs,k,e',g1,g2,g3,g4⟩];exact cq ⟨x,o,xs,k,e',up x o (d_ v m x e') g1,g2,g3,g4⟩
 dsimp only;have ends:∀(zt:SortSt) (out:List Value),(arrOf zt).map (·.2)=out.toArray->out.Perm vs->out.Pairwise (λx y=>bC (br s.heap y) (br s.heap x)=false)->failedOf zt=none->wpAny aa3 A (do
   let touched:=(<-seqEpoch a) !=e1
   Builtin.List.listUpdate (.ref a) λ_=>(arrOf zt).map (·.2)
   if let some e:=failedOf zt then rule "list.sort.comparison-raised";throw e
   if touched then rule "list.sort.modified";raiseError "ValueError" "list modified during sort"
   ret .none) R E {s with heap:=h6}:=λzt out e hp vk hf=>by
  rw[e,hf];refine Zh (seqEpoch_at SI rfl (Zh (listUpdate_at SI rfl ?_ (aak _) (by rw[ZA,hp.length_eq];exact Zr hz aa1))));simp only[bne_self_eq_false,aaV,if_false];have:=h out hp vk;unfold sortedHeap at this;rw[hh]at this;exact Zq this
 by_cases h2:vs.toArray.size<2
 .rw[ZD h2,ZD h2];refine Zh (Zq ?_);rw[StateT.run_pure];refine Zh (Zq ?_);exact ends (SortSt.mk' general' (vs.toArray.zip vs.toArray) #[] 7 none) vs (sW vs) (List.Perm.refl _) (Bn (by rw[ZA]at h2;exact Z1 h2)) rfl
 .rw[ZL h2,ZL h2];obtain⟨fs,k1,k2,k3⟩:=kU U2;have QJ:2<=vs.length:=by rw[ZA]at h2;exact ZZ h2
  refine Zh (kat_kind (s:={s with heap:=h6}) (T:= .type "int") k1 (Zn (ZP QJ) (Zy (aad k3))) (λv m=>?_) rfl ?_)
  .obtain⟨i,t,rfl⟩:=k2 v m;exact Looks.now
  have zm:∀p∈vs.toArray.zip vs.toArray,p.1=p.2/\p.2∈vs:=λp m=>by
   obtain⟨i,hi,e⟩:=aeP.mp m;rw[Array.getElem_zip]at e;rw[<-e];exact⟨rfl,by simp⟩
  refine Zh (abn (vm (s:={s with heap:=h6}) (κ:=tuples' true) (P:=λp=>iS h6 p.1) (r:=rT h6) (a₀:=vs.toArray.zip vs.toArray) (Q:=λ_ zt=>(arrOf zt).Perm (vs.toArray.zip vs.toArray)/\failedOf zt=none/\So (rT h6) (arrOf zt) 0 (vs.toArray.zip vs.toArray).size) EU (J0 h6) (λp m=>by rw[(zm p m).1];exact U2 _ (zm p m).2) ⟨rfl,adL _,rfl,rfl⟩ λzt g1 g2 g3=>⟨g1,g2,g3⟩) ?_ λ_ _ e=>e);rintro⟨⟨⟩,zt⟩ s' ⟨rfl,g1,g2,g3⟩;dsimp only at g1 g2 g3⊢;refine ends zt ((arrOf zt).map (·.2)).toList aeU.symm ?_ ?_ g2
  .have:=(adP.mp g1).map (λp:Keyed=>p.2);rw[adB];refine this.trans (List.Perm.of_eq ?_);have e:=congrArg Array.toList (sW vs);rw[adB]at e;exact e
  .have hsz:(arrOf zt).size =(vs.toArray.zip vs.toArray).size :=g1.size_eq;have pw:=tm (xs:=arrOf zt) (lo:=0) (n:=(vs.toArray.zip vs.toArray).size) (by rw[aav];exact g3) (DL (aad hsz) (Zy (aav _)));have e0:sg (arrOf zt) 0 (vs.toArray.zip vs.toArray).size =(arrOf zt).toList :=by
    unfold sg;rw[ace];exact aau (by rw[ZQ,hsz];exact Zu _)
   rw[e0]at pw;rw[adB,aal];refine pw.imp_of_mem λ{x y} mx my uC=>?_;obtain⟨x1,x2⟩:=zm x (g1.mem_iff.mp (abj.mp mx));obtain⟨y1,y2⟩:=zm y (g1.mem_iff.mp (abj.mp my));have:=uC;unfold le rT at this;rw[x1,y1,same _ x2,same _ y2]at this;exact this
end
abbrev Mo(x y:List Int):Prop:=bC y x=false
theorem kg(x:List Int):∀l,(yN x l).Perm (x::l)
 |[]=> .refl _
 |y::r=>by
  unfold yN;split
  .exact((kg x r).cons y).trans (.swap x y r)
  .exact .refl _
theorem bA:∀l,(aV l).Perm l
 |[]=> .refl _
 |x::r=>(kg x (aV r)).trans ((bA r).cons x)
theorem wF(x:List Int):∀l:List aa2,l.Pairwise Mo->(yN x l).Pairwise Mo
 |[],_=>acS _ _
 |y::r,h=>by
  unfold yN;rw[aaI]at h;split
  .rename_i Nc;refine aaI.mpr ⟨λz hz=>?_,wF x r h.2⟩;rcases ZC.mp ((kg x r).mem_iff.mp hz)with e|hz
   .rw[e];exact gw _ _ Nc
   .exact h.1 z hz
  .rename_i Nc;have Oe:bC y x=false:=by simpa using Nc
   refine aaI.mpr ⟨λz hz=>?_,aaI.mpr h⟩;rcases ZC.mp hz with e|hz
   .rw[e];exact Oe
   .exact jv x y z Oe (h.1 z hz)
theorem jw:∀l,(aV l).Pairwise Mo
 |[]=> .nil
 |x::r=>wF x _ (jw r)
def jx(hp:l.Perm m)(hs:l.Pairwise Mo):l=aV m:=
 (hp.trans (bA m).symm).eq_of_pairwise (λa b _ _ h1 h2=>kf a b h2 h1) hs (jw m)
def mJ(hp:l.Perm m):aV l=aV m:=jx ((bA l).trans hp) (jw l)
end bJ
namespace L2
open PySem PySem.Spec PyProof.Rows PySem.W bJ
section
variable {prog:Program}{w:World}{A:Around}{E:Value->Shared->Prop}{s:Shared}{d it:Addr}{es:Array DictEntry}{ep i:Nat}
def fc(hv:iS h v)(k:∀b o,h.get? b=some o->h'.get? b=some o):br h' v=br h v:=by
 refine Qg hv.is λns x o xs n e g1 g2 g3 g4=>?_;rw[cq (h:=h) ⟨x,o,xs,n,e,g1,g2,g3,g4⟩];exact cq ⟨x,o,xs,n,e,k x o g1,g2,g3,g4⟩
def qL(hh:A.handled=none)(lo:(d==sysModules)=false)(r:gb s.heap d es ep)(hz:es.size<=sizeLine)(hk:∀e∈es,bJ.iS s.heap e.key)
  (h:∀(h1 h':Heap) (tk c:Nat) (vs:List Value),(∀b o,s.heap.get? b=some o->h1.get? b=some o)->(∀b o,h1.get? b=some o->h'.get? b=some o)->h'.get? h1.objs.size=some {cls:= .type "list",data:= .seq vs.toArray c}->vs.Perm (es.toList.map (·.key))->vs.Pairwise (λx y=>bC (br s.heap y) (br s.heap x)=false)->Q (.ref h1.objs.size) {s with heap:=h',toks:=tk}):
  wpAny aa3 A (call (.builtin "sorted") [.ref d]) Q E s:=by
 refine abO kind_sorted plain_sorted entry_sorted (args_sorted1 _) ?_;unfold Builtin.«sorted»;refine Zh (m:=checkCount "sorted" 1 1 _) (Zq (Zh (kdu_collect (A:=A.in1) (wA lo) hh r hz λh1 tk acc k1 it=>?_)));have hl:acc.toList.length=es.size:=by rw[ZQ];exact it.1
 have eq:acc.toList=es.toList.map (·.key):=by
  apply aaG;intro j;rcases aap j es.size with z|z
  .have hj:j<acc.toList.length:=(Zn z (Zy (aad hl)));refine aa (it.2 j acc.toList[j] (by rw[<-ZY];exact Zj hj)) λe e1 e2=>?_;rw[Zj hj,Zz,ZY,e1,e2];rfl
  .rw[ZR (Zr (Zy hl) z),ZR (by simpa using z)]
 have hm:∀v∈acc.toList,∃e∈es,v=e.key:=λv m=>by
  rw[eq]at m;exact aa (Zv.mp m) λe e1 e2=>⟨e,abj.mp e1,e2.symm⟩
 have ht:∀v∈acc.toList,iS s.heap v:=λv m=>by
  refine aa (hm v m) λe e1 af=>?_;subst af;exact hk e e1
 have kp:∀b o,s.heap.get? b=some o->(h1.push (seqObj "list" acc.toList.toArray 0)).get? b=some o:=λb o e=>Zi _ (k1 b o e);refine Zh (adG ?_ (by rw[hl];exact hz));have ho:(h1.push (seqObj "list" acc.toList.toArray 0)).get? h1.objs.size=some (seqObj "list" acc.toList.toArray 0):=ZF _ rfl;refine Zh (aan (aaw slot_list_sort ⟨_,ho,rfl⟩ entry_list_sort (bJ.qK (s:={s with heap:=h1.push (seqObj "list" acc.toList.toArray 0),toks:=tk}) ho (λv m=>?_) (by rw[hl];exact hz) λout hp vk=>⟨_,rfl,Zq ⟨_,rfl,?_⟩⟩) (args_list_sort _)))
 .exact L_ (ht v m) λx o xs n i rr g0 g1 g2 g3 g4=>⟨x,o,xs,n,i,rr,g0,kp x o g1,g2,g3,g4⟩
 .have u1:=get?_update_seq ho (λ_=>#[]);have u2:=Zi (seqObj "tuple" acc.toList.toArray 0) u1;have u3:=Zi (seqObj "list" #[] 0) u2;have u4:=get?_update_seq u3 (λ_=>out.toArray);refine h h1 _ tk _ out k1 (λb o e=>?_) u4 (by rw[<-eq];exact hp) (vk.imp_of_mem λ{x y} mx my uC=>?_)
  .have hb:b≠h1.objs.size:=ZT (ZG e);unfold sortedHeap;rw[Z0 _ _ (aay hb)];refine Zi _ (Zi _ ?_);rw[Z0 _ _ (aay hb)];exact Zi _ e
  .have e1:=fc (ht x (hp.mem_iff.mp mx)) kp;have e2:=fc (ht y (hp.mem_iff.mp my)) kp;rw[<-e1,<-e2];exact uC
end
def EV(I:aa5)(e:Rd H a (.dT ax)):∃es ep,gb s.heap a es ep/\es.size=ax.length/\(a==sysModules)=false/\ax.length<=sizeLine/\
  Paired (λ(kv:List cS×V) (v:Value)=>∃b,v= .ref b/\H b=some (.tup (kv.1.map kV))) ax (es.toList.map (·.key)):=by
 obtain⟨z,lo,xs,eY,o,es,ep,h1,h2,h3,h4,h5,h6⟩:=mD I.aX e;have hl:es.size=ax.length:=by
  have e1:=acw eY;have e2:=congrArg List.length h4;rw[ZQ,Zo]at e2;exact aeS e2 (aad e1)
 refine⟨es,ep,⟨o,h1,h2,h3⟩,hl,lo,z,?_⟩;rw[h4,Z5];have all:∀{l:List (List cS×V)}{m:List (List cS×Addr×Value)},KT H l m->Paired (λ(kv:List cS×V) (v:Value)=>∃b,v= .ref b/\H b=some (.tup (kv.1.map kV))) l (m.map ((λx:DictEntry=>x.key)∘entryOfKey (tupleKind (bc X.prog X.w)))):=by
  intro l m q;induction q with
  |nil=>exact .nil
  |@cons p q ps qs hq t ih=>exact .cons ⟨q.2.1,rfl,hq.2.1⟩ ih
 exact all eY
section
variable {X:Cx}
def c7(I:aa5)(h:H b=some (.tup (k.map V.int))):TupIs s.heap (.ref b) k:=by
 obtain⟨_,its,rv,o,g1,g2,⟨n,g3⟩,_⟩:=(show aT X.prog X.w H s.heap b (.tup (k.map V.int)) from I.aX b _ h);exact⟨b,o,its,n,rfl,g1,g2,g3,intsAre_of rv⟩
def wG(e:TupIs h v k)(hk:k≠[]):iS h v:=by
 refine uG e λx o xs n h1 h2 h3 h4 h5=>?_;cases k with
 |nil=>exact absurd rfl hk
 |cons i r=>exact⟨x,o,xs,n,i,r,h1,h2,h3,h4,h5⟩
def TupAt(H:Hp)(u:V)(k:List Int):Prop:=∃b,u= .ref b/\H b=some (.tup (k.map V.int))
theorem lG(I:aa5):∀{vs:List Value},(∀v∈vs,∃b k,v= .ref b/\H b=some (.tup (List.map V.int k)))->∃us:List V,aF us vs/\us.length=vs.length/\Paired (TupAt H) us (vs.map (br s.heap))
 |[],_=>⟨[],.nil,rfl,.nil⟩
 |v::vs,h=>by
  refine bO (lG I (vs:=vs) λz hz=>h z (Zm _ hz)) λus u1 u2 u3=>eC (h v Zt) λb k af hb=>?_;subst af;refine⟨.ref b::us,.cons rfl u1,by rw[ZM,ZM,u2],?_⟩;rw[ZS,cq (c7 I hb)];exact .cons ⟨b,rfl,hb⟩ u3
def qM(hc:X.calm=true):cC X (.builtin "sorted") (λxs H Q=>∃a ax ks,xs=[V.ref a]/\Rd H a (.dT ax)/\ax.map (·.1)=ks.map (λk:List Int=>k.map (Sum.inl:Int->cS))/\(∀k∈ks,k≠[])/\
  ∀(l:Addr) (us:List V),H l=none->Paired (TupAt H) us (aV ks)->Q (.ref l) (upd H l (.lst us))):=by
 intro U s σ H xs us Q I r zz;refine uz zz λa ax ks e hd JV d_ q=>?_;subst e;refine aa (vals1 r) λu af ru=>?_;subst af;cases ru;refine jU (EV I hd) λes ep r1 r2 r3 r4 r5=>?_;have pk:∀{ax:List (List cS×V)}{ks:List aa2}{vs:List Value},ax.map (·.1)=ks.map (λk:List Int=>k.map (Sum.inl:Int->cS))->Paired (λ(kv:List cS×V) (v:Value)=>∃b,v= .ref b/\H b=some (.tup (kv.1.map kV))) ax vs->vs.map (br s.heap)=ks/\∀v∈vs,∃b,∃k∈ks,v= .ref b/\H b=some (.tup (List.map V.int k)):=by
  intro ax ks vs hk p;induction p generalizing ks with
  |nil=>
   cases ks with
   |nil=>exact⟨rfl,λ_ z=>nomatch z⟩
   |cons _ _=>cases hk
  |@cons kv v ax vs hq _ ih=>
   cases ks with
   |nil=>cases hk
   |cons k ks=>
    rw[ZS,ZS]at hk;injection hk with h1 h2;obtain⟨i1,i2⟩:=ih h2;refine aa hq λb aK hb=>?_
    try clear hq
    subst aK;rw[h1,Z5]at hb;have ja:H b=some (.tup (List.map V.int k)):=hb;refine⟨by rw[ZS,i1,cq (c7 I ja)],λw hw=>?_⟩;rcases ZC.mp hw with e|hw
    .exact⟨b,k,Zt,e,ja⟩
    .exact bu (i2 w hw) λb2 k2 m2 e2 g2=>⟨b2,k2,Zm _ m2,e2,g2⟩
 obtain⟨p1,p2⟩:=pk JV r5;have hI:∀v∈es.toList.map (·.key),iS s.heap v:=λv m=>by
  refine bu (p2 v m) λb k mk c5 hb=>?_;subst c5;exact wG (c7 I hb) (d_ k mk)
 refine qL (I.ok.hd hc) r3 r1 (by rw[r2];exact r4) (λen Xf=>hI _ (Zv.mpr ⟨en,abj.mpr Xf,rfl⟩)) λh1 h' tk c vs k1 k2 e1 e2 e3=>?_;have Bp:(vs.map (br s.heap)).Perm ks:=by
  have:=e2.map (br s.heap);rwa [p1]at this
 have J3:vs.map (br s.heap)=aV ks:=jx Bp (aal.mpr e3);have I1:Inv X U σ H {s with heap:=h1,toks:=tk}:=I.kept (t':=tk) k1;obtain⟨us,u1,u2,u3⟩:=lG I (vs:=vs) λv m=>by
  exact bu (p2 v (e2.mem_iff.mp m)) λb k _ e hb=>⟨b,k,e,hb⟩
 rw[J3]at u3;have aL:vs.length=es.size:=by rw[e2.length_eq];simp
 have I2:Inv X U σ (upd H h1.objs.size (.lst us)) {s with heap:=h',toks:=tk}:=by
  have:=I1.laid (a:=h1.objs.size) (o:= .lst us) (t':=tk) k2 (Zu _) (show aT X.prog X.w _ h' _ (.lst us) from⟨by rw[u2,aL,r2];exact r4,vs,c,u1,e1⟩);exact this
 exact⟨.ref h1.objs.size,_,I2,rfl,q _ us (I1.aX.fresh (Zu _)) u3⟩
end
section
variable {prog:Program}{w:World}{A:Around}{E:Value->Shared->Prop}{s:Shared}
def qN(hT:T="list"\/T="tuple")(ho:s.heap.get? l=some o)(hc:o.cls= .type T)(hd:o.data= .seq vs.toArray n)(hz:vs.length<=sizeLine)(hk:∀v∈vs,iS s.heap v)
  (h:∀(h1 h':Heap) (c:Nat) (out:List Value),(∀b o,s.heap.get? b=some o->h1.get? b=some o)->(∀b o,h1.get? b=some o->h'.get? b=some o)->h'.get? h1.objs.size=some {cls:= .type "list",data:= .seq out.toArray c}->out.Perm vs->out.Pairwise (λx y=>bC (br s.heap y) (br s.heap x)=false)->Q (.ref h1.objs.size) {s with heap:=h'}):
  wpAny aa3 A (call (.builtin "sorted") [.ref l]) Q E s:=by
 refine abO kind_sorted plain_sorted entry_sorted (args_sorted1 _) ?_;unfold Builtin.«sorted»;refine Zh (m:=checkCount "sorted" 1 1 _) (Zq ?_);refine Zh (wpAny_collect_seq l hT ho hc hd (λh1 k1=>?_) (by rw[ZA];exact hz));refine Zh (adG ?_ (by simpa using hz));have e0:vs.toArray.toList=vs:=by simp
 rw[e0];have yx:(h1.push (seqObj "list" vs.toArray 0)).get? h1.objs.size=some (seqObj "list" vs.toArray 0):=ZF _ rfl;have kp:∀b o,s.heap.get? b=some o->(h1.push (seqObj "list" vs.toArray 0)).get? b=some o:=λb o e=>Zi _ (k1 b o e);refine Zh (aan (aaw slot_list_sort ⟨_,yx,rfl⟩ entry_list_sort (bJ.qK (s:={s with heap:=h1.push (seqObj "list" vs.toArray 0)}) yx (λv m=>?_) hz λout hp vk=>⟨_,rfl,Zq ⟨_,rfl,?_⟩⟩) (args_list_sort _)))
 .exact L_ (hk v m) λx o xs n i rr g0 g1 g2 g3 g4=>⟨x,o,xs,n,i,rr,g0,kp x o g1,g2,g3,g4⟩
 .have u1:=get?_update_seq yx (λ_=>#[]);have u2:=Zi (seqObj "tuple" vs.toArray 0) u1;have u3:=Zi (seqObj "list" #[] 0) u2;have u4:=get?_update_seq u3 (λ_=>out.toArray);refine h h1 _ _ out k1 (λb o e=>?_) u4 hp (vk.imp_of_mem λ{x y} mx my uC=>?_)
  .have hb:b≠h1.objs.size:=ZT (ZG e);unfold sortedHeap;rw[Z0 _ _ (aay hb)];refine Zi _ (Zi _ ?_);rw[Z0 _ _ (aay hb)];exact Zi _ e
  .have e1:=fc (hk x (hp.mem_iff.mp mx)) kp;have e2:=fc (hk y (hp.mem_iff.mp my)) kp;rw[<-e1,<-e2];exact uC
end
section
variable {X:Cx}
def za(I:aa5):∀{ks:List aa2}{us:List V}{vs:List Value},Paired (TupAt H) us ks->aF us vs->vs.map (br s.heap)=ks/\∀v∈vs,∃b,∃k∈ks,v= .ref b/\H b=some (.tup (List.map V.int k)):=λ{ks us vs} h=>by
 induction h generalizing vs with
 |nil=>intro r;cases r;exact⟨rfl,λ_ z=>nomatch z⟩
 |cons hq p ih=>
  intro r;cases r with
  |cons r rs=>
   obtain⟨i1,i2⟩:=ih rs;refine aa hq λb af hb=>?_
   try clear hq
   subst af;cases r;refine⟨by rw[ZS,i1,cq (c7 I hb)],λw hw=>?_⟩;rcases ZC.mp hw with e|hw
   .exact⟨b,_,Zt,e,hb⟩
   .exact bu (i2 w hw) λb2 k2 m2 e2 g2=>⟨b2,k2,Zm _ m2,e2,g2⟩
def qO:cC X (.builtin "sorted") (λxs H Q=>∃(p:Addr) (ws:List V) (ks:List aa2),xs=[.ref p]/\(cZ X.K H p ws\/cT X.K H p ws)/\Paired (TupAt H) ws ks/\(∀k∈ks,k≠[])/\
  ∀(l:Addr) (us:List V),H l=none->Paired (TupAt H) us (aV ks)->Q (.ref l) (upd H l (.lst us))):=by
 intro U s σ H xs us Q I r zz;refine uz zz λp ws ks e hq hp d_ q=>?_;subst e;refine aa (vals1 r) λu af rx=>?_;subst af;cases rx;have go:∀(T:String) (o:Obj) (its:List Value) (n:Nat),T="list"\/T="tuple"->s.heap.get? p=some o->o.cls= .type T->o.data= .seq its.toArray n->aF ws its->its.length<=sizeLine->wpAny aa6 X.A (call (.builtin "sorted") [.ref p]) (EP X U σ Q) X.xe s:=λT o its n hT ho hc hd rv hz=>by
  obtain⟨p1,p2⟩:=za I hp rv;refine qN hT ho hc hd hz (λv m=>?_) λh1 h' c out k1 k2 e1 e2 e3=>?_
  .refine bu (p2 v m) λb k mk aK hb=>?_;subst aK;exact wG (c7 I hb) (d_ k mk)
  .have Bp:(out.map (br s.heap)).Perm ks:=by
    have:=e2.map (br s.heap);rwa [p1]at this
   have J3:out.map (br s.heap)=aV ks:=jx Bp (aal.mpr e3);have I1:Inv X U σ H {s with heap:=h1}:=I.kept (t':=s.toks) k1;obtain⟨us,u1,u2,u3⟩:=lG I (vs:=out) λv m=>by
    exact bu (p2 v (e2.mem_iff.mp m)) λb k _ e hb=>⟨b,k,e,hb⟩
   rw[J3]at u3;have I2:Inv X U σ (upd H h1.objs.size (.lst us)) {s with heap:=h'}:=by
    have:=I1.laid (a:=h1.objs.size) (o:= .lst us) (t':=s.toks) k2 (Zu _) (show aT X.prog X.w _ h' _ (.lst us) from⟨by rw[u2,e2.length_eq];exact hz,out,c,u1,e1⟩);exact this
   exact⟨.ref h1.objs.size,_,I2,rfl,q _ us (I1.aX.fresh (Zu _)) u3⟩
 rcases hq with hq|hq
 .obtain⟨its,rv,⟨o,n,e1,e2,_,e3⟩,hz⟩:=I.list hq;exact go _ o its n (.inl rfl) e1 e2 e3 rv (by first|exact hz|(have:=rv.length;exact Zr (Zy (aad this)) hz))
 .obtain⟨its,rv,⟨o,e1,e2,n,e3⟩,hz⟩:=I.tuple hq;exact go _ o its n (.inr rfl) e1 e2 e3 rv (by first|exact hz|(have:=rv.length;exact Zr (Zy (aad this)) hz))
end
section
variable {prog:Program}{w:World}{A:Around}{R:Result->Shared->Prop}{I:Addr}{fp wr:List Addr}{n:Nat}{P:Nat->Value->Prop}{St:Nat->Heap->Prop}
def Bq(T:Addr->Prop)(g g':Heap):Prop:=∀b o,T b->g.get? b=some o->g'.get? b=some o
def EW(prog:Program)(w:World)(A:Around)(T:Addr->Prop)(g:Heap)(P:Nat->Value->Prop)(bt:Nat->Nat->Bool):Prop:=
 ∀i j x y (s:Shared) (Q:Value->Shared->Prop) (E:Value->Shared->Prop),Bq T g s.heap->P i x->P j y->Q (.bool (bt i j)) s->wpAny aa3 A (richCompare .Lt x y) Q E s
def J_(W:Walks prog w A.in1 I fp wr n P St)(cm:EW prog w A.in1 T g P bt)(nS:S∉fp)(hT:∀b,T b->b∉wr/\b≠S):
  ∀(m j:Nat) (s:Shared) (best:Value) (c:Nat),n-(j+1)=m->j+1<=n->St (j+1) s.heap->P (argBest bt j) best->Bq T g s.heap->s.heap.get? S=some {cls:= .type "list",dict:=none,data:= .seq #[best,best] c,slots:=#[]}->
   (∀v h' tk,P (argBest bt (n-1)) v->(∀b o,b∉wr->b≠S->s.heap.get? b=some o->h'.get? b=some o)->R (.ok (.ret v)) {s with heap:=h',toks:=tk})->codeAny aa3 A (.builtin "min.loop" ⟨[.ref I,.none,.ref S],[]⟩) R s:=by
 have wS:S∉wr:=λz=>nS (W.sub _ z);have nm:(toString "min"++toString ".loop":String)="min.loop":=by decide
 intro m;induction m with
 |zero=>
  intro j s best c em ej J' eP eT eS eR;have Mp:j+1=n:=by omega
  refine abt adb ?_;rw[acB aaX _];show wpAny _ A.in1 (seqItems? (.ref S) >>= _) _ _ _;refine Zh (acd eS rfl ?_);show wpAny _ A.in1 (tryCatch (pyNext (.ref I)) _ >>= _) _ _ _;refine Zh (adZ (W.done s _ _ (Mp▸J') λg2 t2 k2=>?_));have Hx:=k2 S _ wS eS;show wpAny _ A.in1 (updateSeq S (λ_=>(#[]:Array Value)) >>= _) _ _ _;refine Zh (aeR Hx rfl (Zh (aes (Zq ?_))));exact eR best _ t2 (by rw[<-Mp];exact eP) λb o b1 b2 e=>(Z0 _ _ (aay b2)).trans (k2 b o b1 e)
 |succ m ih=>
  intro j s best c em ej J' eP eT eS eR;have Mp:j+1<n:=by omega
  refine abt adb ?_;rw[acB aaX _];show wpAny _ A.in1 (seqItems? (.ref S) >>= _) _ _ _;refine Zh (acd eS rfl ?_);show wpAny _ A.in1 (tryCatch (pyNext (.ref I)) _ >>= _) _ _ _;refine Zh (adZ (W.item (j+1) s _ _ Mp J' λv g2 t2 p2 cN k2=>?_));have Hx:=k2 S _ wS eS;have Of:Bq T g g2:=λb o tb e=>k2 b o (hT b tb).1 (eT b o tb e);show wpAny _ A.in1 (tryCatch (holding [v,v] (richCompare .Lt v best >>= _)) _ >>= _) _ _ _;refine Zh (adZ (aan (Zh (cm (j+1) (argBest bt j) v best _ _ _ Of p2 eP ?_))));refine Zh (aan (abb (Zh (aes (Zq ?_)))));cases eb:bt (j+1) (argBest bt j)with
  |true=>
   rw[ZD rfl];refine Zh (aeR Hx rfl (Zh (aes ?_)));rw[nm];refine Zq ⟨plainId_quiet aaX _,ih (j+1) _ v _ aa0 Mp (W.frame _ _ _ cN λb bf o e=>?_) (by simp only[argBest,eb,if_true];exact p2) (λb o tb e=>?_) (aaJ _ Hx rfl) λv3 g3 t3 p3 k3=>?_⟩
   .exact(Z0 _ _ (λz:S=b=>nS (by rw[z];exact bf))).trans e
   .exact(Z0 _ _ (aay (hT b tb).2)).trans (Of b o tb e)
   .exact eR v3 g3 t3 p3 λb o b1 b2 e=>k3 b o b1 b2 ((Z0 _ _ (aay b2)).trans (k2 b o b1 e))
  |false=>
   rw[ZL Zl];refine Zh (aes ?_);rw[nm];refine Zq ⟨plainId_quiet aaX _,ih (j+1) _ best c aa0 Mp cN (by simp only[argBest,eb,aaV,if_false];exact eP) Of Hx λv3 g3 t3 p3 k3=>?_⟩;exact eR v3 g3 t3 p3 λb o b1 b2 e=>k3 b o b1 b2 (k2 b o b1 e)
def EY(W:Walks prog w A.in1 I fp wr n P St)(cm:EW prog w A.in1 T g P bt)(nS:S∉fp)(hT:∀b,T b->b∉wr/\b≠S)(n0:0<n)(J':St 0 s.heap)(eT:Bq T g s.heap)(eS:s.heap.get? S=some {cls:= .type "list",dict:=none,data:= .seq #[] c,slots:=#[]})
  (eR:∀v h' tk,P (argBest bt (n-1)) v->(∀b o,b∉wr->b≠S->s.heap.get? b=some o->h'.get? b=some o)->R (.ok (.ret v)) {s with heap:=h',toks:=tk}):codeAny aa3 A (.builtin "min.loop" ⟨[.ref I,.none,.ref S],[]⟩) R s:=by
 have wS:S∉wr:=λz=>nS (W.sub _ z);have nm:(toString "min"++toString ".loop":String)="min.loop":=by decide
 refine abt adb ?_;rw[acB aaX _];show wpAny _ A.in1 (seqItems? (.ref S) >>= _) _ _ _;refine Zh (acd eS rfl ?_);show wpAny _ A.in1 (tryCatch (pyNext (.ref I)) _ >>= _) _ _ _;refine Zh (adZ (W.item 0 s _ _ n0 J' λv g2 t2 p2 cN k2=>?_));have Hx:=k2 S _ wS eS;have Of:Bq T g g2:=λb o tb e=>k2 b o (hT b tb).1 (eT b o tb e);show wpAny _ A.in1 (updateSeq S (λ_=>(#[v,v]:Array Value)) >>= _) _ _ _;refine Zh (aeR Hx rfl ?_);rw[nm];refine Zq ⟨plainId_quiet aaX _,J_ W cm nS hT _ 0 _ v _ rfl n0 (W.frame _ _ _ cN λb bf o e=>?_) p2 (λb o tb e=>?_) (aaJ _ Hx rfl) λv3 g3 t3 p3 k3=>?_⟩
 .exact(Z0 _ _ (λz:S=b=>nS (by rw[z];exact bf))).trans e
 .exact(Z0 _ _ (aay (hT b tb).2)).trans (Of b o tb e)
 .exact eR v3 g3 t3 p3 λb o b1 b2 e=>k3 b o b1 b2 ((Z0 _ _ (aay b2)).trans (k2 b o b1 e))
end
section
variable {prog:Program}{w:World}{A:Around}{E:Value->Shared->Prop}{s:Shared}
theorem zb
  (h:wpAny aa3 A.in1 (pyIter x) (λit s2=>∃I fp wr n P St bt,it= .ref I/\Walks prog w A.in1 I fp wr n P St/\St 0 s2.heap/\(∀b∈fp,b<s2.heap.objs.size)/\0<n/\EW prog w A.in1 T s2.heap P bt/\(∀b,T b->b∉wr/\b<s2.heap.objs.size)/\
   ∀v h' tk,P (argBest bt (n-1)) v->(∀b o,b∉wr->s2.heap.get? b=some o->h'.get? b=some o)->Q v {s2 with heap:=h',toks:=tk}) E s):wpAny aa3 A (call (.builtin "min") [x]) Q E s:=by
 have nm:(toString "min"++toString ".loop":String)="min.loop":=by decide
 refine call_function_tree PySem.F.kind_min PySem.F.plain_min PySem.F.entry_min (PySem.F.args_min1 _) ?_;show wpAny _ A.in1 (Builtin.Builtins.bindParams "min" ["key","default"] 0 ⟨[],[]⟩ >>= _) _ _ _;refine Zh (aet (show Builtin.Builtins.bindParams "min" ["key","default"] 0 ⟨[],[]⟩=pure [none,none] from rfl) (Zh (Zq (Zh (abn h (λit s2 z=>?_) λ_ _ e=>e)))));refine Wb z λI fp wr n P St bt af W J' Xg n0 cm eT q=>?_
 try clear z
 subst af;refine Zh (aaj ?_);have nS:s2.heap.objs.size∉fp:=λhm=>aam _ (Xg _ hm);rw[nm];refine Zq ⟨plainId_quiet aaX _,EY W cm nS (λb tb=>⟨(eT b tb).1,ZT (eT b tb).2⟩) n0 (W.frame _ _ _ J' λb _ o e=>Zi _ e) (λb o _ e=>Zi _ e) (ZF _ rfl) λv h' tk p k=>?_⟩;exact q v h' tk p λb o b1 e=>k b o b1 (ZT (ZG e)) (Zi _ e)
end
end L2
namespace bJ
theorem pD:∀(l:List aa2) (a b:List Int),iu a (l++[b])=if bC b (iu a l) then b else iu a l
 |[],a,b=>rfl
 |x::l,a,b=>pD l _ b
theorem tq:∀(l:List aa2) (a:List Int),iu a l∈a::l
 |[],a=>Zp.mpr rfl
 |b::l,a=>by
  rw[iu];rcases ZC.mp (tq l (if bC b a then b else a))with h|h
  .rw[h];split
   .exact Zm _ Zt
   .exact Zt
  .exact Zm _ (Zm _ h)
theorem wH:∀(l:List aa2) (a:List Int),∀x∈a::l,Mo (iu a l) x
 |[],a,x,h=>by
  rw[Zp.mp h];show bC a a=false;cases e:bC a a with
  |false=>rfl
  |true=>have:=gw a a e;rw[e]at this;cases this
 |b::l,a,x,h=>by
  rw[iu];have ih:=wH l (if bC b a then b else a);have h0:=ih _ Zt;rcases ZC.mp h with h|h
  .rw[h];cases e:bC b a with
   |true=>
    rw[e]at h0;exact jv _ _ _ h0 (gw _ _ e)
   |false=>rw[e]at h0;exact h0
  .rcases ZC.mp h with h|h
   .rw[h];cases e:bC b a with
    |true=>rw[e]at h0;exact h0
    |false=>
     rw[e]at h0;exact jv _ _ _ h0 e
   .exact ih x (Zm _ h)
theorem jy(val:Nat->List Int):∀(k:Nat) (l:List aa2),(∀i,i<k->l[i]?=some (val (i+1)))->val (PySem.argBest (λi j=>bC (val i) (val j)) k)=iu (val 0) (l.take k)
 |0,l,_=>rfl
 |k+1,l,h=>by
  have hk:=h k (aaN k);have ih:=jy val k l λi hi=>h i (abc hi);have e:l.take (k+1)=l.take k++[val (k+1)]:=by rw[List.take_add_one,hk];rfl
  rw[e,pD,<-ih];show val (if bC (val (k+1)) (val (PySem.argBest _ k))=true then k+1 else PySem.argBest _ k)=_;split<;>rfl
end bJ
namespace L2
open PySem PySem.Spec PyProof.Rows PySem.W bJ
theorem wI:∀u v:List Int,HT.lexLt u v=bC u v
 |[],[]=>rfl
 |[],_::_=>rfl
 |_::_,[]=>rfl
 |x::u,y::v=>by
  show(if x=y then HT.lexLt u v else decide (x<y))=if x=y then bC u v else decide (x<y)
  rw[wI u v]
section
variable {X:Cx}
def dO:∀{us:List V}{ks:List aa2}{vs:List Value},Paired (TupAt H) us ks->aF us vs->∀(i:Nat) (v:Value),vs[i]?=some v->∃b u,v= .ref b/\us[i]?=some u/\u= .ref b/\H b=some (.tup ((ks.getD i []).map V.int)):=λ{us ks vs} h=>by
 induction h generalizing vs with
 |nil=>intro r i v h;cases r;simp at h
 |cons hq p ih=>
  intro r i v h;cases r with
  |cons r rs=>
   cases i with
   |zero=>
    refine aa hq λb af hb=>?_
    try clear hq
    subst af;cases r;have h':Value.ref b=v:=by simpa using h
    exact⟨b,.ref b,h'.symm,rfl,rfl,hb⟩
   |succ i=>exact gQ (ih rs i v (by simpa using h)) λb u e1 e2 e3 e4=>⟨b,u,e1,by simpa using e2,e3,by simpa using e4⟩
def zc(hc:X.calm=true)(hu:X.A.units+64<cLine):cC X (.builtin "min") (λxs H Q=>∃(p:Addr) (ws:List V) (k:List Int) (ks:List aa2),xs=[.ref p]/\cZ X.K H p ws/\Paired (TupAt H) ws (k::ks)/\∀u,TupAt H u (iu k ks)->Q u H):=by
 intro U s σ H xs us Q I r zz;refine MD zz λp ws k ks e hq hp q=>?_;subst e;refine aa (vals1 r) λu af rx=>?_;subst af;cases rx;refine bO (I.list hq) λits rv pl hz=>?_;have hl:s.heap.IsList p its.toArray:=pl.isList;have aU:p<s.heap.objs.size:=by obtain⟨_,e,_⟩:=hl;exact ZG e
 have len:its.length=ks.length+1:=by
  have h1:=rv.length;have h2:=acw hp;rw[ZM]at h2;exact aeS (aad h1) h2
 have best:(k::ks).getD (argBest (λi j=>bC ((k::ks).getD i []) ((k::ks).getD j [])) ks.length) []=iu k ks:=by
  have:=jy (λi=>(k::ks).getD i []) ks.length ks (λi hi=>by simp[hi]);simpa using this
 refine zb (T:=λb=>∃i,i<its.length/\its[i]?=some (.ref b)) (abS hl ?_);have Au:∀b,(∃i,i<its.length/\its[i]?=some (Value.ref b))->b<s.heap.objs.size:=λb zz=>by
  refine aa zz λi _ hi=>gQ (dO hp rv i _ hi) λb' _ e1 _ _ e4=>?_;cases e1;refine Im (c7 I e4) λx o xs n e g1 _=>?_;cases e;exact ZG g1
 refine⟨_,[_,p],[_],_,_,_,_,rfl,afq (A:=X.A.in1) (I.ok.hd hc) s.heap.objs.size p (ZT aU) its.toArray,⟨⟨_,ZF _ rfl,rfl,rfl⟩,hl.push _⟩,λb hb=>?_,by rw[ZA];lia,(λi j x y s' Q' E' st hx hy hQ=>?_:EW X.prog X.w X.A.in1 _ _ _ (λi j=>bC ((k::ks).getD i []) ((k::ks).getD j []))),λb hb=>⟨λz=>?_,?_⟩,λv h' tk hP hk=>?_⟩
 .show b<(s.heap.push _).objs.size;rw[abf];rcases ZC.mp hb with rfl|hb
  .exact aaN _
  .rw[Zp.mp hb];exact abc aU
 .have Br:its[i]?=some x:=by simpa using hx
  have DR:its[j]?=some y:=by simpa using hy
  refine gQ (dO hp rv i x Br) λb _ aK _ _ eb=>?_;subst aK;refine gQ (dO hp rv j y DR) λc _ c5 _ _ ec=>?_;subst c5;have ib:i<its.length:=(ZJ.mp Br).1;have jb:j<its.length:=(ZJ.mp DR).1;refine uG (c7 I eb) λb' o xs n e g1 g2 g3 g4=>?_;cases e;refine uG (c7 I ec) λc' o2 ys m e f1 f2 f3 f4=>?_;cases e;have s1:=st b o ⟨i,ib,Br⟩ (Zi _ g1);have s2:=st c o2 ⟨j,jb,DR⟩ (Zi _ f1);refine HT.uP (items:=xs.toArray) (items2:=ys.toArray) ⟨o,s1,g2,n,g3⟩ ⟨o2,s2,f2,m,f3⟩ (by simpa using g4) (by simpa using f4) ?_ (by rw[wI];exact hQ);show X.A.units+1<cLine;lia
 .rw[Zp.mp z]at hb;exact absurd (Au _ hb) (aam _)
 .show b<(s.heap.push _).objs.size;rw[abf];exact abc (Au b hb)
 .rw[ZA,len,Nat.add_sub_cancel]at hP;have oF:its[argBest (λi j=>bC ((k::ks).getD i []) ((k::ks).getD j [])) ks.length]?=some v:=by simpa using hP
  refine gQ (dO hp rv _ v oF) λb u oG _ _ eb=>?_;subst oG;rw[best]at eb;refine⟨.ref b,H,I.kept λb2 o e=>hk b2 o (λz=>?_) (Zi _ e),rfl,q _ ⟨b,rfl,eb⟩⟩;rw[Zp.mp z]at e;exact absurd (ZG e) (aam _)
end
end L2
namespace L2
open PySem PySem.Spec PyProof.Rows PySem.W
noncomputable def SJ(a:Addr)(o:Obj)(ax:List (cS×V)):It:=
 ⟨λi H=>H a=some (.dC o (.dK ax))/\i<ax.length,λi H x H'=>H'=H/\(ax[i]?).map (λkv=>kv.2)=some x,λi H=>H a=some (.dC o (.dK ax))/\i=ax.length⟩
def qP{σ:St}(I:aa5)(e:H a=some (.dC o (.dK ax)))(hd:o.data= .dict es ep):
  (a==sysModules)=false/\∃vs,KV ax vs/\s.heap.DictAt (bc X.prog X.w) a vs ep:=by
 obtain⟨z,lo,vs,eY,o',vU,IA,h1,h2,h3,h4,h5,h6⟩:=jr I.aX (.inr ⟨o,e⟩);have ho:s.heap.get? a=some o:=(show aT X.prog X.w H s.heap a (.dC o (.dK ax)) from I.aX a _ e).1;rw[ho]at h1;cases h1;rw[hd]at h3;cases h3;exact⟨lo,vs,eY,o,es,ho,h2,hd,h4,h5,h6⟩
def Og{κ:Type}[DecidableEq κ]{ax:List (κ×V)}{vs:List (κ×Value)}(r:KV ax vs){i:Nat}(hi:i<ax.length):∃k v,vs[i]?=some (k,v)/\RelV ax[i].2 v:=by
 unfold KV at r;induction r generalizing i with
 |nil=>exact absurd hi (aah _)
 |@cons p q ps qs hq t ih=>
  cases i with
  |zero=>exact⟨q.1,q.2,rfl,hq.2⟩
  |succ i=>
   exact eC (ih (i:=i) (by simpa using hi)) λk v h1 h2=>⟨k,v,by simpa using h1,by simpa using h2⟩
def EZ{K:aH}{tg:Expr}(a it:Addr)(d_:a≠it)(o:Obj)(ax:List (cS×V))(es:Array DictEntry)(ep:Nat)(hd:o.data= .dict es ep):r0 P w K tg (SJ a o ax) [it] it (λi h=>h.IsValIter it a i ax.length ep) where
 mem:=by simp
 obj:=λi h st b hb=>by
  have e:b=it:=by simpa using hb
  subst e;exact bO st λo e c d=>⟨o,e,λv z=>by rw[d]at z;cases z⟩
 keep:=λi h h' st k=>let ⟨o,e,r⟩:=st;⟨o,k it aa9 o e,r⟩
 item:=by
  intro X hP hw hK hc i U s σ H E I hf st hg;subst hP hw hK;obtain⟨e1,e2⟩:=hg;obtain⟨_,vs,eY,hm⟩:=qP I e1 hd;refine vS (hf it aa9) λf0 f1 f2 f3 f4 f5=>eC (Og eY e2) λk v n1 n2=>?_;rw[eY.length]at st;refine wpAny_pyNext_values_item st hm n1 λh' k' hs=>?_;have I1:Inv X U σ H {s with heap:=h'}:=I.turned (t':=s.toks) (λb o hb e=>(hs.2 b hb).trans e) f0 f1 f3 f4 f5;exact bO (id k') λoi g1 g2 g3=>⟨_,rfl,r8 (s:={s with heap:=h'}) g1 g2 g3 aa1 ⟨_,H,I1,n2,⟨rfl,by rw[Zj e2];rfl⟩,by rw[eY.length];exact k',λb hb=>(hf b hb).1⟩⟩
 done:=by
  intro X hP hw hK hc i U s σ H E I hf st hg;subst hP hw hK;obtain⟨e1,e2⟩:=hg;obtain⟨_,vs,eY,hm⟩:=qP I e1 hd;refine vS (hf it aa9) λf0 f1 f2 f3 f4 f5=>?_;rw[eY.length]at st;exact wpAny_pyNext_values_end (I.ok.hd hc) st hm (by rw[ZR];rw[<-eY.length,e2];exact Zu _) λh' eb=>⟨rfl,I.turned (t':=s.toks) (λb o hb e=>eb b o hb e) f0 f1 f3 f4 f5⟩
 self:=λ_ _ _ _ _ st h=>wpAny_pyIter_valiter st h
section
variable {X:Cx}{tg:Expr}
def Xh(tl:TE):TI:=λσ H R=>tl σ H λx H1=>∃a o ax,x= .ref a/\H1 a=some (.dC o (.dK ax))/\R (SJ a o ax) H1
def Oh{ap cp:Pos}(hl:PE X l tl)(je:attributeBase l "values" X.env (eval l X.env)=eval l X.env)(jf:(ap.endLine==cp.line)=true):PI X tg (.Call (.Attribute l "values" ap) [] [] cp) (Xh tl):=by
 intro U s σ H R I h;refine wpAny_Call_method0_late je jf (bH (hl U s σ H _ I h) λv s1 zz=>?_);refine bu zz λx H1 I1 r1 q1=>cn q1 λa o ax e hq q=>?_;subst e;cases r1;refine cP (JP I1 (.inl ⟨ax,.inr ⟨o,hq⟩⟩)) λt1 t2 t3=>?_;have ho:s1.heap.get? a=some o:=(show aT X.prog X.w H1 s1.heap a (.dC o (.dK ax)) from I1.aX a _ hq).1;obtain⟨es,ep,hd⟩:∃es ep,o.data= .dict es ep:=by
  obtain⟨_,_,_,_,o',vU,IA,h1,h2,h3,_⟩:=jr I1.aX (.inr ⟨o,hq⟩);rw[ho]at h1;cases h1;exact⟨vU,IA,h3⟩
 obtain⟨_,vs,eY,hm⟩:=qP I1 hq hd;refine⟨"dict",_,PySem.F.plainAttrs_dict,aek,PySem.F.type_dict_values,t1,t2,acf rfl (afd ?_)⟩;refine call_meetsIn aek t1 PySem.F.entry_dict_values (PySem.F.args_dict_values_1 _) (meets_dict_values (bc X.prog X.w) a t3) ⟨⟨vs,?_⟩,?_⟩
 .exact gQ (id hm) λo' vU h1 h2 h3 r=>⟨o',vU,ep,h1,h2,h3,r⟩
 .show wpAny _ _ (pyIter (.ref s1.heap.objs.size)) _ _ _;have I2:Inv X U σ H1 {s1 with heap:=s1.heap.push {cls:= .type "dict_values",data:= .fields #[.ref a]}}:=I1.kept (t':=s1.toks) λb o e=>Zi _ e;obtain⟨_,Y7,SK,SN⟩:=qP I2 hq hd;refine wpAny_pyIter_values (s:={s1 with heap:=s1.heap.push {cls:= .type "dict_values",data:= .fields #[.ref a]}}) ⟨_,ZF _ rfl,rfl,rfl⟩ SN ?_;have alt:a<(s1.heap.push {cls:= .type "dict_values",data:= .fields #[.ref a]}).objs.size :=ZG (Zi _ ho);refine⟨_,[(s1.heap.push {cls:= .type "dict_values",data:= .fields #[.ref a]}).objs.size],_,_,H1,rfl,I2.kept (t':=s1.toks) λb o e=>Zi _ e,EZ a _ (ZT alt) o ax es ep hd,⟨_,ZF _ rfl,rfl,by rw[SK.length];rfl⟩,λb hb=>?_,q⟩;have e:b=(s1.heap.push {cls:= .type "dict_values",data:= .fields #[.ref a]}).objs.size :=by simpa using hb
  subst e;exact I2.yA (Zu _) (I2.aX.fresh (Zu _))
end
section
variable {X:Cx}{U:List ab0}{σ:St}{H H1 H2:Hp}{s:Shared}
def mK(H:Hp)(b:Addr):Prop:=∃u,H b=some u/\An (some u)
def NF(X:Cx)(b:Addr):Prop:=∀o u,X.H₀ b≠some (.dC o u)
def Inv.SO(I:Inv X U σ H1 s)(ea:H1 a=some u)(mu:An (some u)):∃o,Inv X U σ (upd H1 a (.dC o u)) s:=by
 obtain⟨o,ho⟩:∃o,s.heap.get? a=some o:=by
  have ok:=I.aX a u ea;cases u with
  |lst xs=>obtain⟨_,_,_,_,e⟩:=ok;exact⟨_,e⟩
  |dK ax=>obtain⟨_,_,_,_,o,_,_,e,_⟩:=ok;exact⟨_,e⟩
  |dT ax=>obtain⟨_,_,_,_,o,_,_,e,_⟩:=ok;exact⟨_,e⟩
  |set S n=>obtain⟨o,_,_,_,e,_⟩:=ok;exact⟨_,e⟩
  |ins C dx fs=>obtain⟨_,_,_,e,_⟩:=ok;exact⟨_,e⟩
  |ext φ=>obtain⟨_,⟨o,e⟩,_⟩:=ok;exact⟨_,e⟩
  |_=>exact mu.elim
 have nt:∀b w,H1 b=some w->¬An (some w)->upd H1 a (.dC o u) b=some w:=λb w e nm=>by
  rw[ai (λz=>?_)]
  .exact e
  .rw[z,ea]at e;cases e;exact nm mu
 have aX:iM X.prog X.w (upd H1 a (.dC o u)) s.heap:=λb w' e=>by
  by_cases hb:b=a
  .subst hb;rw[ag]at e;cases e;exact⟨ho,(I.aX b u ea).om (λ_ _ _ z=>z) (λc z=>nt c _ z id) λc ys z=>nt c _ z id⟩
  .rw[ai hb]at e;exact(I.aX b w' e).om (λ_ _ _ z=>z) (λc z=>nt c _ z id) λc ys z=>nt c _ z id
 have un:Un X.fs [] H1 (upd H1 a (.dC o u)) s.heap s.heap:=Un.write (x:=a) (e:=a) (by rw[ea];exact mu) (.inl rfl) (λ_ _ _ z=>z) ⟨o,ho⟩;have:=I.un (t':=s.toks) un aX;exact⟨o,this⟩
structure E1(as:List Addr)(H1 H2:Hp):Prop where
 out:∀b,b∉as->H2 b=H1 b
 at_:∀b,b∈as->∃o u,H1 b=some u/\An (some u)/\H2 b=some (.dC o u)
theorem Inv.iN:∀(as:List Addr) {H1:Hp},Inv X U σ H1 s->as.Nodup->(∀b∈as,mK H1 b)->∃H2,Inv X U σ H2 s/\E1 as H1 H2
 |[],H1,I,_,_=>⟨H1,I,λ_ _=>rfl,λ_ z=>nomatch z⟩
 |a::as,H1,I,nd,hm=>by
  rw[Z8]at nd;refine aa (hm a Zt) λu ea mu=>aa (Inv.iN as I nd.2 λb hb=>hm b (Zm _ hb)) λH2 I2 f2=>?_;have Xi:H2 a=some u:=by rw[f2.out a nd.1];exact ea
  obtain⟨o,I3⟩:=I2.SO Xi mu;refine⟨_,I3,λb hb=>?_,λb hb=>?_⟩
  .rw[ZC,not_or]at hb;rw[ai hb.1];exact f2.out b hb.2
  .by_cases pE:b=a
   .subst pE;exact⟨o,u,ea,mu,ag⟩
   .rw[ai pE];exact f2.at_ b ((ZC.mp hb).resolve_left pE)
def Inv.nf(I:aa5)(h:mK H b):NF X b:=λo u e=>by
 refine aa h λw e1 mu=>?_;have:=I.base.iN b o u e;rw[e1]at this;cases this;exact mu
open Classical in
noncomputable def gc(as:List Addr)(H1 H2:Hp):Hp:=λb=>if b∈as then H1 b else H2 b
def jz(h:b∈as):gc as H1 H2 b=H1 b:=ZD h
def bT(h:b∉as):gc as H1 H2 b=H2 b:=ZL h
def tu(as:List Addr)(H1 H2:Hp):Prop:=∀b,b∈as->∃o u,H1 b=some u/\An (some u)/\H2 b=some (.dC o u)
theorem Inv.gc(I:Inv X U σ H2 s)(nf:∀b∈as,NF X b)(h:tu as H1 H2):Inv X U σ (gc as H1 H2) s:=by
 have same:∀b w,H2 b=some w->(∀o u,w≠ .dC o u)->L2.gc as H1 H2 b=some w:=λb w e n=>by
  rw[bT λhb=>?_]
  .exact e
  .refine bu (h b hb) λo u _ _ e2=>?_;rw[e]at e2;cases e2;exact n o u rfl
 have wJ:∀b,H2 b=none->L2.gc as H1 H2 b=none:=λb e=>by
  rw[bT λhb=>?_]
  .exact e
  .refine bu (h b hb) λo u _ _ e2=>?_;rw[e]at e2;cases e2
 have aX:iM X.prog X.w (L2.gc as H1 H2) s.heap:=λb w' e=>by
  by_cases hb:b∈as
  .refine bu (h b hb) λo u e1 mu e2=>?_;rw[jz hb,e1]at e;have ew:u=w':=ZU e;subst ew;obtain⟨_,q⟩:=(show aT X.prog X.w H2 s.heap b (.dC o u) from I.aX b _ e2);exact q.om (λ_ _ _ z=>z) (λc z=>same c _ z λ_ _ y=>(nomatch y)) λc ys z=>same c _ z λ_ _ y=>(nomatch y)
  .rw[bT hb]at e;exact(I.aX b w' e).om (λ_ _ _ z=>z) (λc z=>same c _ z λ_ _ y=>(nomatch y)) λc ys z=>same c _ z λ_ _ y=>(nomatch y)
 refine⟨I.ok,I.os,I.bare,⟨I.base.keep,I.base.slot,λb o e n hx=>wJ b (I.base.free b o e n hx),I.base.there,λb xs e=>same b _ (I.base.qa b xs e) λ_ _ y=>(nomatch y),λb o u e=>?_,λb ps e=>?_⟩,I.loc,I.cell,wJ _ I.free,λx c e=>wJ _ (I.fY x c e),λp hp=>?_,aX,I.len⟩
 .have e2:=I.base.iN b o u e;rw[bT λhb=>nf b hb o u e];exact e2
 .obtain⟨more,e2⟩:=I.base.qb b ps e;exact⟨more,same b _ e2 λ_ _ y=>(nomatch y)⟩
 .exact cP (I.pin p hp) λe n r=>⟨e,wJ _ n,r⟩
end
section
variable {X:Cx}{k:Nat}{f:Addr}{fd:FuncData}{ps:List Str}{sp:Sp}{x:Str}{p pos:Pos}{e:Expr}{es:List Expr}{t:TA}
def Bs(F:i_ X.prog X.w X.K X.mg X.base yJ k f fd ps sp)(hr:eK k X.A)(hg:Gl X x)(hm:X.mg x=some (.ref f))(hk:PySem.W.keepIn X.K (.ref f)=true)(hb:Binds X.K fd ps [])
  (ha:PA X (e::es) t) (DO:ab4=false) (he:starEach (e::es) X.env=(false,eval e X.env)::starEach es X.env) (dw:(backTo pos (starEach es X.env)).any (·.1)=false):
  PE X (.Call (.Name x p) (e::es) [] pos) (λσ H Q=>t σ H λvs H1=>∃as:List Addr,as.Nodup/\(∀b∈as,mK H1 b)/\∀H2,E1 as H1 H2->sp (vs++[]) H2 (λv H3=>tu as H1 H3/\Q v (gc as H1 H3)) E0):=by
 intro U s σ H Q I h;refine acN (qf I hg hm ?_ DO);refine afj (h₀:=X.base) I.ok.mod.Qi hk (bH (ha pos U s σ H _ I h) λus s1 ⟨vs,H1,I1,r,as,nd,QK,q⟩=>⟨I1.G6,?_⟩) he dw;exact aa (Inv.iN as I1 nd QK) λH2 I2 fz=>bH (AI F hr hb .nil AU I2 r (q H2 fz)) λv s2 zz=>gQ zz λy H3 I3 ry hc q3=>⟨y,_,I3.gc (λb ja=>I1.nf (QK b ja)) hc,ry,q3⟩
def E2{t:TE}(h:PE X e t):PE X e (λσ H Q=>t σ H λv H1=>∃as:List Addr,as.Nodup/\(∀b∈as,mK H1 b)/\∀H2,E1 as H1 H2->Q v H2):=by
 intro U s σ H Q I q;refine bH (h U s σ H _ I q) λv s1 zz=>?_;obtain⟨y,H1,I1,r1,as,nd,QK,q1⟩:=zz;exact aa (Inv.iN as I1 nd QK) λH2 I2 fz=>⟨y,H2,I2,r1,q1 H2 fz⟩
end
section
variable {X:Cx}
def Bt(K:aH):V->List V->Hp->VK->Prop:=λx vs H Q=>∃l b xs zs,x= .ref l/\vs=[.ref b]/\H l=some (.lst xs)/\cZ K H b zs/\xs.length+zs.length<=sizeLine/\Q .cx (upd H l (.lst (xs++zs)))
def Bu:RU X "list.extend" (Bt X.K):=by
 intro U s σ H x vs v us Q I rx rv h;refine D3 h λl b xs zs af aK hH hB hz q=>?_
 try clear h
 subst af;subst aK;cases rx;refine aa rv.one λu c5 ru=>?_;subst c5;cases ru;obtain⟨z,its,n,r,hl,e⟩:=I.Jp hH;have key:∃(iO:List Value) (n2:Nat),aF zs iO/\s.heap.get? b=some {cls:= .type "list",data:= .seq iO.toArray n2}:=by
  rcases hB with hB|⟨o,its,m,h1,h2,h3,h4,h5,h6,h7⟩
  .obtain⟨_,iO,n2,r2,e2⟩:=hB.ok I.aX;exact⟨iO,n2,r2,e2⟩
  .have hg:=I.G6 b o h1;obtain⟨c,NI,dt,sl⟩:=o;have h2:c= .type "list":=h2;have h3:NI=none:=h3;have h4:dt= .seq its m:=h4;have h7:sl=#[]:=h7;subst h2 h3 h4 h7;exact⟨its.toList,m,h6,by simpa using hg⟩
 refine eC key λiO n2 r2 e2=>?_;have QJ:=r2.length;have hsz:its.toArray.size+iO.toArray.size<=sizeLine:=by rw[ZA,ZA];lia
 have Oi:¬(!its.toArray.isEmpty&&Builtin.List.listTooLong (its.toArray.size+iO.toArray.size))=true:=by
  rw[AR hsz,Bool.and_false];exact Zl
 refine call_meets F.slot_list_extend ⟨_,e,rfl⟩ F.entry_list_extend (F.args_list_extend_2 _ _) (AutoSeq1.list_extend_list_list_0 l its.toArray n b iO.toArray n2 Oi (by rw[ZA];lia) (Zr hsz aa1)) ⟨e,e2,?_⟩;refine⟨.cx,_,I.Jo (its':=its++iO) hH e aa9 (r.append r2) ?_,rfl,q⟩;rw[Zw];exact hz
def tD(tk tv:TE):TE:=λσ H Q=>∀p,H p=none->tk σ (upd H p (.dK [])) λx H1=>tv σ H1 λy H2=>∃i:Int,x= .int i/\H2 p=some (.dK [])/\Q (.ref p) (upd H2 p (.dK [(Sum.inl i,y)]))
def E3(hu:X.A.units+1<cLine)(hk:PE X k tk)(hv:PE X v tv):PE X (.Dict [some k] [v] pos) (tD tk tv):=by
 intro U s σ H Q I h;have hn:H s.heap.objs.size=none:=I.aX.fresh (Zu _);refine wpAny_Dict_any rfl rfl aa9 (show 1<=15 by decide) ?_;have I0:Inv X U σ (upd H s.heap.objs.size (.dK [])) {s with heap:=s.heap.push {cls:= .type "dict",data:= .dict #[]}}:=I.laid (a:=s.heap.objs.size) (o:= .dK []) (t':=s.toks) (λ_ _ q=>Zi _ q) (Zu _) (Bb s.heap I.big);refine pairTrees_cons_walk (bH (hk U _ σ _ _ I0 (h _ hn)) λkv s1 zz=>bu zz λx H1 I1 r1 q1=>bH (hv U s1 σ H1 _ I1 q1) λvv s2 zz=>bu zz λy H2 I2 r2 q2=>pairTrees_nil_walk ?_);refine bO q2 λi ex ep q3=>?_;subst ex;obtain⟨t,rfl⟩:=r1;unfold storeAll;rw[abR];obtain⟨z,hd,xs,eY,dd⟩:=Ht I2.aX ep;have ry:RelV (kV (Sum.inl i)) (Value.int i t):=⟨t,rfl⟩;have hz:xs.length<=sizeLine:=by rw[<-eY.length];exact z
 refine Zh (Zh (wpAny_dictSet_pairs (hsz:=hz) (knd:=bc X.prog X.w) (pz ry) dd λh' EH hs=>Zq ?_));dsimp only;rw[List.forIn_nil];refine Zq ⟨.ref s.heap.objs.size,_,?_,rfl,q3⟩;have he:∃q,h'.get? s.heap.objs.size=some q:=let ⟨q,_,_,hq,_⟩:=EH;⟨q,hq⟩;exact lC (t':=s2.toks+1) I2 (by rw[ep];exact True.intro) hs he (Ba (by rw[sizeLine_eq];exact(by decide:(1:Nat)<=16777216)) hd (eY.put (Sum.inl i) r2) EH)
end
section
variable {prog:Program}{w:World}{A:Around}{E:Value->Shared->Prop}{s:Shared}{d:Addr}{es:Array DictEntry}{ep:Nat}
def tE(hh:A.handled=none)(lo:(d==sysModules)=false)(r:gb s.heap d es ep)(Hy:es.size<64)(hI:IntsAre (es.toList.map (·.key)) ns)
  (h:∀(h1 h':Heap) (tk:Nat) (out:Array Value) (c:Nat) (md:List Int),(∀b o',s.heap.get? b=some o'->h1.get? b=some o')->(∀b o',h1.get? b=some o'->h'.get? b=some o')->h'.get? h1.objs.size=some {cls:= .type "list",data:= .seq out c}->IntsAre out.toList md->md.Perm ns->md.Pairwise (· <= ·)->Q (.ref h1.objs.size) {s with heap:=h',toks:=tk}):
  wpAny aa3 A (call (.builtin "sorted") [.ref d]) Q E s:=by
 refine abO kind_sorted plain_sorted entry_sorted (args_sorted1 _) ?_;unfold Builtin.«sorted»;refine Zh (m:=checkCount "sorted" 1 1 _) (Zq (Zh (kdu_collect (A:=A.in1) (wA lo) hh r (by rw[sizeLine_eq];exact Zr (ZP Hy) aa1) λh1 tk acc k1 it=>?_)));have hl:acc.toList.length=es.size:=by rw[ZQ];exact it.1
 have eq:acc.toList=es.toList.map (·.key):=by
  apply aaG;intro j;rcases aap j es.size with z|z
  .have hj:j<acc.toList.length:=(Zn z (Zy (aad hl)));refine aa (it.2 j acc.toList[j] (by rw[<-ZY];exact Zj hj)) λe e1 e2=>?_;rw[Zj hj,Zz,ZY,e1,e2];rfl
  .rw[ZR (Zr (Zy hl) z),ZR (by simpa using z)]
 rw[eq];refine Zh (adG ?_ (by rw[<-eq,hl,sizeLine_eq];exact Zr (ZP Hy) aa1));have yx:(h1.push (seqObj "list" (es.toList.map (·.key)).toArray 0)).get? h1.objs.size=some (seqObj "list" (es.toList.map (·.key)).toArray 0):=ZF _ rfl;refine Zh (aan (aaw slot_list_sort ⟨_,yx,rfl⟩ entry_list_sort (list_sort_tree (s:={s with heap:=h1.push (seqObj "list" (es.toList.map (·.key)).toArray 0),toks:=tk}) yx hI (by rw[<-eq,hl];exact Hy) λout md a1 a2 a3=>⟨_,rfl,?_⟩) (args_list_sort _)));refine Zq ⟨_,rfl,?_⟩;have u1:=get?_update_seq yx (λ_=>#[]);have u2:=Zi (seqObj "tuple" (es.toList.map (·.key)).toArray 0) u1;have u3:=Zi (seqObj "list" #[] 0) u2;have u4:=get?_update_seq u3 (λ_=>out);refine h h1 _ tk out _ md k1 (λb o' e=>?_) u4 a1 a2 a3;have hb:b≠h1.objs.size:=ZT (ZG e);unfold sortedHeap;rw[Z0 _ _ (aay hb)];refine Zi _ (Zi _ ?_);rw[Z0 _ _ (aay hb)];exact Zi _ e
end
section
variable {X:Cx}
theorem wK:∀{ns:List Int}{vs:List Value},vs.length=ns.length->(∀(i:Nat) (n:Int),ns[i]?=some n->∃t,vs[i]?=some (.int n t))->IntsAre vs ns
 |[],[],_,_=> .nil
 |[],_::_,h,_=>nomatch h
 |_::_,[],h,_=>nomatch h
 |n::ns,v::vs,h,k=>by
  obtain⟨t,e⟩:=k 0 n rfl;have e:v= .int n t:=by simpa using e
  subst e;exact .cons n t (wK (by simpa using h) λi m hi=>by
   obtain⟨t',e'⟩:=k (i+1) m (by simpa using hi);exact⟨t',by simpa using e'⟩)
def qQ(hc:X.calm=true):cC X (.builtin "sorted") (λxs H Q=>∃(p:Addr) (ax:List (cS×V)) (ns:List Int),xs=[.ref p]/\Rd H p (.dK ax)/\ax.map (·.1)=ns.map Sum.inl/\ns.length<64/\
  ∀md:List Int,md.Perm ns->md.Pairwise (· <= ·)->∀l,H l=none->Q (.ref l) (upd H l (.lst (md.map V.int)))):=by
 intro U s σ H xs us Q I r zz;refine uz zz λp ax ns e hq hk Hy q=>?_;subst e;refine aa (vals1 r) λu af rx=>?_;subst af;cases rx;refine jU (vg I hq) λes ep g1 g2 g3 g4 g5=>?_;have aL:ax.length=ns.length:=by
  have:=congrArg List.length hk;rwa [Zo,Zo]at this
 have hI:IntsAre (es.toList.map (·.key)) ns:=by
  refine wK (by rw[Zo,ZQ,g2,aL]) λi n hi=>?_;have gr:i<ax.length:=by rw[aL];exact(ZJ.mp hi).1
  refine aa (g5 i ax[i] (Zj gr)) λen e1 e2=>?_;have vn:ax[i].1 =Sum.inl n:=by
   have:=congrArg (λl:List cS=>l[i]?) hk;simp only[Zz,hi,Zj gr,aco]at this;exact ZU this
  rw[vn]at e2;obtain⟨t,e3⟩:=e2;exact⟨t,by rw[Zz,ZY,e1,<-e3];rfl⟩
 refine tE (I.ok.hd hc) g3 g1 (Uv g2 (Uv aL Hy)) hI λh1 h' tk out c md k1 k2 e a1 a2 a3=>?_;have I1:Inv X U σ H {s with heap:=h1,toks:=tk}:=I.kept (t':=tk) k1;have I2:Inv X U σ (upd H h1.objs.size (.lst (md.map V.int))) {s with heap:=h',toks:=tk}:=
  I1.laid (t':=tk) k2 (Zu _) (show aT X.prog X.w _ h' _ (.lst (md.map V.int)) from⟨by rw[Zo,a2.length_eq,sizeLine_eq];exact Zr (ZP Hy) aa1,out.toList,c,jn a1,by simpa using e⟩)
 exact⟨.ref h1.objs.size,_,I2,rfl,q md a2 a3 _ (I1.aX.fresh (Zu _))⟩
end
end L2
namespace S2
open PySem PySem.SetTable
noncomputable def it(t:SetTable):Nat->Probe->Probe
 |0,p=>p
 |k+1,p=>it t k (t.advance p)
theorem qR(t:SetTable):∀(k:Nat) (p:Probe),it t (k+1) p=t.advance (it t k p)
 |0,_=>rfl
 |k+1,p=>qR t k (t.advance p)
theorem gx(t:SetTable):∀(k l:Nat) (p:Probe),it t (k+l) p=it t l (it t k p)
 |0,l,p=>by rw[aav];rfl
 |k+1,l,p=>by rw[Z_];exact gx t k l (t.advance p)
def pF(t:SetTable)(p:Probe):(t.advance p).dummy =p.dummy:=by
 unfold advance;split<;>rfl
theorem tG(t:SetTable):∀(k:Nat) (p:Probe),(it t k p).dummy =p.dummy
 |0,_=>rfl
 |k+1,p=>(tG t k _).trans (pF t p)
def qS{t:SetTable}(hd:t.dummies=#[])(j:Nat):t.slot j≠ .dummy :=by
 unfold SetTable.slot;rw[hd];dsimp only;split
 .exact λz=>nomatch z
 .split
  .rename_i z;unfold SetTable.has at z;simp at z
  .exact λz=>nomatch z
noncomputable def Meets(t:SetTable)(H:Nat->Int)(h:Int)(p:Probe)(met:Met):Prop:=
 ∃k,(∀l,l<k->∃i,t.slot (it t l p).j = .live i/\H i≠h)/\
  (t.slot (it t k p).j = .empty /\met= .empty (it t k p).j p.dummy\/∃i,t.slot (it t k p).j = .live i/\H i=h/\met= .candidate (it t k p).j i (it t (k+1) p))
theorem tH{t:SetTable}{H:Nat->Int}{h:Int}(hd:t.dummies=#[]):∀{fuel:Nat}{p:Probe}{k:Nat},k<fuel->t.slot (it t k p).j = .empty ->∃met,probe.go t H h fuel p=some met/\Meets t H h p met
 |0,p,k,hk,_=>absurd hk (aah _)
 |fuel+1,p,k,hk,he=>by
  unfold probe.go;cases hs:t.slot p.j with
  |empty=>exact⟨_,rfl,0,λl hl=>absurd hl (aah _),.inl ⟨hs,rfl⟩⟩
  |dummy=>exact absurd hs (qS hd _)
  |live i=>
   dsimp only;by_cases hh:H i=h
   .rw[ZD (beq_iff_eq.mpr hh)];exact⟨_,rfl,0,λl hl=>absurd hl (aah _),.inr ⟨i,hs,hh,rfl⟩⟩
   .rw[ZL λz=>hh (beq_iff_eq.mp z)];cases k with
    |zero=>
     have he:t.slot p.j= .empty :=he;rw[hs]at he;cases he
    |succ k=>
     obtain⟨met,g1,k',g2,g3⟩:=tH (H:=H) (h:=h) hd (ade hk) (show t.slot (it t k (t.advance p)).j = .empty from he);refine⟨met,g1,k'+1,λl hl=>?_,?_⟩
     .cases l with
      |zero=>exact⟨i,hs,hh⟩
      |succ l=>exact g2 l (ade hl)
     .rw[pF]at g3;exact g3
noncomputable def Ai(M:Nat)(x:Nat×Nat):Probe:={j:=x.1,more:=runEnd M x.1-x.1,i:=x.1,perturb:=x.2,dummy:=none}
noncomputable def lp(M:Nat)(x:Nat×Nat):Nat×Nat:=leap M x.1 x.2
noncomputable def pG(M:Nat):Nat->Nat×Nat->Nat×Nat
 |0,x=>x
 |n+1,x=>pG M n (lp M x)
def Ka(M i:Nat):runEnd M i-i<=9:=by
 unfold runEnd;split
 .exact Zy (aaP ..)
 .rw[afr];exact aak _
theorem vp(t:SetTable):∀(l:Nat) (p:Probe),l<=p.more->it t l p={p with j:=p.j+l,more:=p.more-l}
 |0,p,_=>rfl
 |l+1,p,h=>by
  rw[qR,vp t l p (Nat.le_of_succ_le h)];unfold advance;rw[ZD (Nat.sub_pos_of_lt h)];rfl
def lH(t:SetTable)(x:Nat×Nat):it t (runEnd t.mask x.1-x.1+1) (Ai t.mask x)=Ai t.mask (lp t.mask x):=by
 rw[qR,vp t (runEnd t.mask x.1-x.1) (Ai t.mask x) (Zu _)];unfold advance;rw[ZL (by show¬(runEnd t.mask x.1-x.1-(runEnd t.mask x.1-x.1)>0);rw[afr];exact aam 0)];rfl
theorem Bv(t:SetTable):∀(n:Nat) (x:Nat×Nat),∃s≤10*n,it t s (Ai t.mask x)=Ai t.mask (pG t.mask n x)
 |0,x=>⟨0,Zu _,rfl⟩
 |n+1,x=>by
  obtain⟨s,h1,h2⟩:=Bv t n (lp t.mask x);refine⟨(runEnd t.mask x.1-x.1+1)+s,?_,?_⟩
  .rw[Nat.mul_succ,ado];exact adn h1 (abx (Ka _ _))
  .rw[gx,lH,h2];rfl
theorem wL(M:Nat):∀(a b:Nat) (x:Nat×Nat),pG M (a+b) x=pG M b (pG M a x)
 |0,b,x=>by rw[aav];rfl
 |a+1,b,x=>by rw[Z_];exact wL M a b (lp M x)
theorem qT(M:Nat):∀(n:Nat) (x:Nat×Nat),(pG M n x).2 =x.2/32 ^ n
 |0,x=>(Nat.div_one _).symm
 |n+1,x=>by
  show(pG M n (lp M x)).2 =_;rw[qT M n];show x.2/32/32 ^ n=_;rw[Nat.div_div_eq_div_mul,Nat.pow_succ,Nat.mul_comm]
noncomputable def fw(M:Nat):Nat->Nat->Nat
 |0,i=>i
 |n+1,i=>fw M n ((i*5+1)%(M+1))
theorem qU(M:Nat):∀(a b i:Nat),fw M (a+b) i=fw M b (fw M a i)
 |0,b,i=>by rw[aav];rfl
 |a+1,b,i=>by rw[Z_];exact qU M a b _
theorem vq(M:Nat):∀(n i:Nat),pG M n (i,0)=(fw M n i,0)
 |0,i=>rfl
 |n+1,i=>by
  show pG M n ((i*5+1+0/32)%(M+1),0/32)=_;rw[Nat.zero_div];exact vq M n _
noncomputable def QL(M:Nat):Nat->Nat->Nat->Nat
 |0,_,b=>b
 |n+1,i,b=>QL M n ((i*5+1)%(M+1)) (b |||2 ^ i)
theorem wM(M j:Nat):∀(n i b:Nat),(QL M n i b).testBit j=true->b.testBit j=true\/∃k<n,fw M k i=j
 |0,i,b,h=> .inl h
 |n+1,i,b,h=>by
  rcases wM M j n _ _ h with h|⟨k,hk,e⟩
  .rw[Nat.testBit_or,acT]at h;rcases h with h|h
   .exact .inl h
   .refine .inr ⟨0,abl _,?_⟩;rw[Nat.testBit_two_pow]at h;exact of_decide_eq_true h
  .exact .inr ⟨k+1,Nat.succ_lt_succ hk,e⟩
noncomputable def zf(M:Nat):Prop:=M=7\/M=31\/M=127\/M=511\/M=2047
def wN(h:zf M):QL M (M+1) 0 0=2 ^ (M+1)-1/\fw M (M+1) 0=0:=by
 rcases h with rfl|rfl|rfl|rfl|rfl<;>decide +kernel
def Hz(h:zf M)(hj:j<=M):∃k≤M,fw M k 0=j:=by
 have h1:(QL M (M+1) 0 0).testBit j=true:=by
  rw[(wN h).1,Nat.testBit_two_pow_sub_one];exact decide_eq_true (aaq hj)
 rcases wM M j _ _ _ h1 with z|⟨k,hk,e⟩
 .rw[Nat.zero_testBit]at z;cases z
 .exact⟨k,Z1 hk,e⟩
def wO(h:zf M)(hi:i<=M)(hj:j<=M):∃k≤M,fw M k i=j:=by
 obtain⟨a,ha,ea⟩:=Hz h hi;obtain⟨b,hb,eb⟩:=Hz h hj;rcases Nat.le_total a b with z|z
 .obtain⟨d,rfl⟩:=abX z;refine⟨d,Zr (acU ..) hb,?_⟩;rw[<-ea,<-qU];exact eb
 .by_cases e:a=b
  .exact⟨0,aak _,by rw[<-ea,<-eb,e];rfl⟩
  .refine⟨M+1-a+b,?_,?_⟩
   .have:=abu z (aay e);omega
   .rw[<-ea,<-qU,<-abA,abm (ael ha),qU,(wN h).2];exact eb
def wQ(h:Int):bits h<2 ^ 64:=by
 unfold bits;have h1:0<=h%(2 ^ 64:Int):=abh _ aa1;have h2:h%(2 ^ 64:Int)<2 ^ 64:=abi _ aa1;omega
def Oj(hM:zf t.mask)(h:Int)(hj:j<=t.mask):∃k<10*turns t.mask,(it t k (t.probeStart h)).j =j:=by
 have e0:t.probeStart h=Ai t.mask (bits h%(t.mask+1),bits h):=rfl;obtain⟨s1,a1,a2⟩:=Bv t 13 (bits h%(t.mask+1),bits h);have q0:(pG t.mask 13 (bits h%(t.mask+1),bits h)).2 =0:=by
  rw[qT];exact Nat.div_eq_of_lt (Zn (wQ h) aa1)
 have i0:∀n (x:Nat×Nat),x.1<=t.mask->(pG t.mask n x).1 <=t.mask:=by
  intro n;induction n with
  |zero=>exact λx h=>h
  |succ n ih=>exact λx h=>ih _ (Z1 (acy _ (abl _)))
 have i1:=i0 13 (bits h%(t.mask+1),bits h) (Z1 (acy _ (abl _)));obtain⟨k,hk,ek⟩:=wO hM i1 hj;obtain⟨s2,b1,b2⟩:=Bv t k (pG t.mask 13 (bits h%(t.mask+1),bits h));refine⟨s1+s2,?_,?_⟩
 .unfold turns;omega
 .rw[gx,e0,a2,b2];have:pG t.mask 13 (bits h%(t.mask+1),bits h)=((pG t.mask 13 (bits h%(t.mask+1),bits h)).1,0):=by rw[<-q0]
  rw[this,vq];exact ek
noncomputable def QM(xs:Array Nat)(j i:Nat):Prop:=i<=xs.size/\(∀k x:Nat,k<i->xs[k]?=some x->x<j)/\∀k x:Nat,i<=k->xs[k]?=some x->j<=x
noncomputable def E4(xs:Array Nat):Prop:=∀a b x y:Nat,a<b->xs[a]?=some x->xs[b]?=some y->x<y
theorem mL(hr:E4 xs):∀(fuel lo hi:Nat),hi-lo<=fuel->lo<=hi->hi<=xs.size->(∀k x,k<lo->xs[k]?=some x->x<j)->(∀k x,hi<=k->xs[k]?=some x->j<=x)->QM xs j (below.go xs j fuel lo hi)
 |0,lo,hi,h0,h1,h2,a,b=>by
  have e:lo=hi:=by omega
  subst e;exact⟨h2,a,b⟩
 |fuel+1,lo,hi,h0,h1,h2,a,b=>by
  unfold below.go;by_cases hl:lo<hi
  .rw[ZD hl];dsimp only;have hm:(lo+hi)/2<xs.size:=by omega
   have hg:xs.getD ((lo+hi)/2) j=xs[(lo+hi)/2]:=by
    unfold Array.getD;rw[dif_pos hm];rfl
   have DV:xs[(lo+hi)/2]?=some xs[(lo+hi)/2]:=ZK hm;rw[hg];by_cases hx:xs[(lo+hi)/2]<j
   .rw[ZD hx];refine mL hr fuel _ _ aa0 aa0 h2 (λk x hk e=>?_) b;rcases ack (Z1 hk)with z|z
    .exact abW (hr _ _ _ _ z e DV) hx
    .subst z;rw[DV]at e;cases e;exact hx
   .rw[ZL hx];refine mL hr fuel _ _ aa0 aa0 (ZP hm) a (λk x hk e=>?_);rcases ack hk with z|z
    .exact Zr (ZZ hx) (ZP (hr _ _ _ _ z DV e))
    .subst z;rw[DV]at e;cases e;exact ZZ hx
  .rw[ZL hl];have e:lo=hi:=by omega
   subst e;exact⟨h2,a,b⟩
def kh(hr:E4 xs)(j:Nat):QM xs j (below xs j):=
 mL hr _ _ _ aa0 (aak _) (Zu _) (λk _ hk=>absurd hk (aah _)) λk x hk e=>by
  rw[acg hk]at e;cases e
def Bw(hr:E4 xs)(h:xs[i]?=some j):below xs j=i:=by
 obtain⟨c1,c2,c3⟩:=kh hr j;rcases abo (below xs j) i with z|z|z
 .have hb:below xs j<xs.size:=abW z (aaT.mp h).1;have e:=ZK hb;exact absurd (hr _ _ _ _ z e h) (abJ (c3 _ _ (Zu _) e))
 .exact z
 .exact absurd (c2 _ _ z h) (aam _)
structure Pl(t:SetTable):Prop where
 nd:t.dummies=#[]
 ri:E4 t.place
 le:∀(i j:Nat),t.place[i]?=some j->j<=t.mask
 ms:zf t.mask
theorem Pl.live(h:Pl t):t.slot j= .live i↔t.place[i]?=some j:=by
 unfold SetTable.slot;dsimp only;constructor
 .intro z;by_cases e:(t.place[below t.place j]? == some j)=true
  .rw[ZD e]at z;cases z;exact eq_of_beq e
  .rw[ZL e]at z;split at z<;>cases z
 .intro z;rw[Bw h.ri z,ZD (by rw[z];exact beq_self_eq_true _)]
theorem Pl.empty(h:Pl t):t.slot j= .empty ↔ ∀i:Nat,t.place[i]?≠some j:=by
 constructor
 .intro z i e;rw[h.live.mpr e]at z;cases z
 .intro z;cases e:t.slot j with
  |empty=>rfl
  |dummy=>exact absurd e (qS h.nd j)
  |live i=>exact absurd (h.live.mp e) (z i)
def Pl.U3(h:Pl t):t.slot j≠ .empty ↔ ∃i:Nat,t.place[i]?=some j:=by
 constructor
 .intro z;cases e:t.slot j with
  |empty=>exact absurd e z
  |dummy=>exact absurd e (qS h.nd j)
  |live i=>exact⟨i,h.live.mp e⟩
 .rintro⟨i,e⟩ z;exact h.empty.mp z i e
def Pl.free(h:Pl t)(hs:t.place.size<=t.mask):∃j≤t.mask,t.slot j= .empty :=by
 refine Uk λnO=>?_;have al:∀j≤t.mask,∃i:Nat,t.place[i]?=some j:=λj hj=>h.U3.mp λz=>nO ⟨j,hj,z⟩;have mono:∀k,k<=t.mask->∃i:Nat,k<=i/\t.place[i]?=some k:=by
  intro k;induction k with
  |zero=>intro hk;obtain⟨i,e⟩:=al 0 hk;exact⟨i,aak _,e⟩
  |succ k ih=>
   intro hk;obtain⟨i,h1,h2⟩:=ih (Nat.le_of_succ_le hk);obtain⟨i',e⟩:=al (k+1) hk;refine⟨i',?_,e⟩;rcases abo i i' with z|z|z
   .omega
   .subst z;rw[h2]at e;cases e
   .have:=h.ri _ _ _ _ z e h2;omega
 obtain⟨i,h1,h2⟩:=mono t.mask (Zu _);have:=(aaT.mp h2).1;omega
noncomputable def At(t:SetTable)(h:Int)(k:Nat):Nat:=(it t k (t.probeStart h)).j
theorem wR(e:t.mask=t'.mask):∀(k:Nat) (p:Probe),it t k p=it t' k p
 |0,_=>rfl
 |k+1,p=>by
  have:t.advance p=t'.advance p:=by unfold advance;rw[e]
  show it t k (t.advance p)=it t' k (t'.advance p);rw[this];exact wR e k _
def qV(e:t.mask=t'.mask)(h:Int)(k:Nat):At t h k=At t' h k:=by
 have:t.probeStart h=t'.probeStart h:=by unfold probeStart;rw[e]
 unfold At;rw[wR e,this]
noncomputable def DW(t:SetTable)(P:List Nat)(j:Nat)(h:Int):Prop:=∃k,At t h k=j/\∀l,l<k->At t h l∈P
structure Tb(t:SetTable)(hs:List Int):Prop where
 pl:Pl t
 sz:t.place.size=hs.length
 rc:∀x∈t.place.toList.zip hs,DW t t.place.toList x.1 x.2
def fg{t:SetTable}{j:Nat}:j∈t.place.toList↔ ∃i:Nat,t.place[i]?=some j:=by
 rw[abd];simp only[ZY]
def Pl.E5{t:SetTable}(h:Pl t){j:Nat}:t.slot j≠ .empty ↔j∈t.place.toList:=h.U3.trans fg.symm
def Pl.first(h:Pl t)(hs:t.place.size<=t.mask)(x:Int):∃K<10*turns t.mask,At t x K∉t.place.toList/\∀l,l<K->At t x l∈t.place.toList:=by
 obtain⟨j,hj,hf⟩:=h.free hs;obtain⟨k,hk,e⟩:=Oj h.ms x hj;have ex:∃n,At t x n∉t.place.toList:=⟨k,λz=>h.E5.mpr z (by rw[show At t x k=j from e];exact hf)⟩;have least:∀n,At t x n∉t.place.toList->∃K≤n,At t x K∉t.place.toList/\∀l,l<K->At t x l∈t.place.toList:=by
  intro n;induction n using Nat.strongRecOn with
  |ind n ih=>
   intro hn;by_cases z:∃l,l<n/\At t x l∉t.place.toList
   .obtain⟨l,h1,h2⟩:=z;obtain⟨K,k1,k2⟩:=ih l h1 h2;exact⟨K,Zr k1 (ZP h1),k2⟩
   .exact⟨n,Zu _,hn,λl hl=>aaD λnz=>z ⟨l,hl,nz⟩⟩
 obtain⟨K,k1,k2⟩:=least k (λz=>h.E5.mpr z (by rw[show At t x k=j from e];exact hf));exact⟨K,Z4 k1 hk,k2⟩
def Pl.step{t:SetTable}(hp:Pl t){H:Nat->Int}{x:Int}{K k0:Nat}(hK:K<10*turns t.mask)(k1:At t x K∉t.place.toList)(k2:∀l,l<K->At t x l∈t.place.toList)(hk:k0<=K):
  ∃met,t.probe H x (it t k0 (t.probeStart x))=some met/\
   ((∀l,k0<=l->l<K->∀i:Nat,t.place[i]?=some (At t x l)->H i≠x)/\met= .empty (At t x K) none\/
    ∃k i,k0<=k/\k<K/\(∀l,k0<=l->l<k->∀i:Nat,t.place[i]?=some (At t x l)->H i≠x)/\t.place[i]?=some (At t x k)/\H i=x/\met= .candidate (At t x k) i (it t (k+1) (t.probeStart x))):=by
 have e:∀l,(it t l (it t k0 (t.probeStart x))).j =At t x (k0+l):=λl=>by unfold At;rw[gx]
 have em:t.slot (it t (K-k0) (it t k0 (t.probeStart x))).j = .empty :=by
  rw[e,abm hk];exact aaD λz=>k1 (hp.E5.mp z)
 obtain⟨met,g1,k,g2,g3⟩:=tH (H:=H) (h:=x) hp.nd (fuel:=10*turns t.mask) (p:=it t k0 (t.probeStart x)) (k:=K-k0) (Z4 (afp ..) hK) em;refine⟨met,g1,?_⟩;have SQ:∀l,k0<=l->l<k0+k->∀i:Nat,t.place[i]?=some (At t x l)->H i≠x:=λl h1 h2 i hi=>by
  obtain⟨i',a1,a2⟩:=g2 (l-k0) aa0;rw[e,abm h1]at a1;have:=hp.live.mp a1;have h1:=hp.live.mpr hi;rw[a1]at h1;cases h1;exact a2
 rcases g3 with⟨a1,a2⟩|⟨i,a1,a2,a3⟩
 .rw[e]at a1 a2;have vn:k0+k=K:=by
   rcases abo (k0+k) K with z|z|z
   .exact absurd a1 (hp.E5.mpr (k2 _ z))
   .exact z
   .obtain⟨i',b1,_⟩:=g2 (K-k0) aa0;rw[em]at b1;cases b1
  rw[vn]at SQ a2;refine .inl ⟨SQ,?_⟩;rw[a2,tG];rfl
 .rw[e]at a1 a3;rw[<-gx]at a3;refine .inr ⟨k0+k,i,aai ..,?_,SQ,hp.live.mp a1,a2,a3⟩;rcases abo (k0+k) K with z|z|z
  .exact z
  .rw[z]at a1;exact absurd (fg.mpr ⟨i,hp.live.mp a1⟩) k1
  .obtain⟨i',b1,_⟩:=g2 (K-k0) aa0;rw[em]at b1;cases b1
def Tb.met{t:SetTable}{hs:List Int}(h:Tb t hs){x:Int}{K:Nat}(k1:At t x K∉t.place.toList){i:Nat}(hi:hs[i]?=some x):∃k<K,t.place[i]?=some (At t x k):=by
 have hl:=(ZJ.mp hi).1;have hp:t.place[i]?=some (t.place[i]'(by rw[h.sz];exact hl)):=ZK _;have hz:(t.place.toList.zip hs)[i]?=some (t.place[i]'(by rw[h.sz];exact hl),x):=by
  rw[aea];exact⟨by rw[ZY];exact hp,hi⟩
 obtain⟨k,e,b⟩:=h.rc _ (aac hz);have e:At t x k=t.place[i]'(by rw[h.sz];exact hl):=e;refine⟨k,?_,by rw[e];exact hp⟩;rcases abo k K with z|z|z
 .exact z
 .subst z;exact absurd (by rw[e];exact fg.mpr ⟨i,hp⟩) k1
 .exact absurd (b K z) k1
noncomputable def dm(l:List α)(p:Nat)(x:α):List α:=l.take p++x::l.drop p
def jA:y∈dm l p x↔y=x\/y∈l:=by
 unfold dm;rw[ZI,ZC];constructor
 .rintro (z|z|z)
  .exact .inr (aaA z)
  .exact .inl z
  .exact .inr (abz z)
 .rintro (z|z)
  .exact .inr (.inl z)
  .rw[<-aaL p l,ZI]at z;exact z.elim .inl λz=> .inr (.inr z)
def gy:(dm l p x).length =l.length+1:=by
 unfold dm;rw[Zw,ZM,<-abA,<-Zw,aaL]
def Bx:∀{l:List α}{m:List β}{p:Nat}{x:α}{y:β},l.length=m.length->(dm l p x).zip (dm m p y)=dm (l.zip m) p (x,y):=by
 intro l m p x y h;unfold dm;rw[List.zip_append (by rw[aaM,aaM,h]),acO];have e1:∀(p:Nat) (l:List α) (m:List β),(l.take p).zip (m.take p)=(l.zip m).take p:=by
  intro p;induction p with
  |zero=>intro l m;rfl
  |succ p ih=>
   intro l m;cases l with
   |nil=>rfl
   |cons a l=>cases m with
    |nil=>rfl
    |cons b m=>exact congrArg ((a,b):: ·) (ih l m)
 have e2:∀(p:Nat) (l:List α) (m:List β),(l.drop p).zip (m.drop p)=(l.zip m).drop p:=by
  intro p;induction p with
  |zero=>intro l m;rfl
  |succ p ih=>
   intro l m;cases l with
   |nil=>rfl
   |cons a l=>cases m with
    |nil=>exact afk
    |cons b m=>exact ih l m
 rw[e1,e2]
def cE(xs:Array α)(p:Nat)(x:α):(insertAt xs p x).toList =dm xs.toList p x:=by
 rw[SetTable.toList_insertAt];rfl
def qW:E4 xs↔xs.toList.Pairwise (· < ·):=by
 rw[aaY];constructor
 .intro h i j hi hj A6;exact h i j _ _ A6 (by rw[<-ZY];exact Zj hi) (by rw[<-ZY];exact Zj hj)
 .intro h a b x y lI ha hb;rw[<-ZY]at ha hb;obtain⟨h1,e1⟩:=ZJ.mp ha;obtain⟨h2,e2⟩:=ZJ.mp hb;rw[<-e1,<-e2];exact h a b h1 h2 lI
def E6(h:E4 xs)(hn:j∉xs.toList):E4 (insertAt xs (below xs j) j):=by
 obtain⟨c1,c2,c3⟩:=kh h j;rw[qW,cE];have hp:=qW.mp h;unfold dm;rw[aaa];refine⟨hp.sublist (aaQ ..),?_,λa ha b hb=>?_⟩
 .rw[aaI];refine⟨λb hb=>?_,hp.sublist (aaF ..)⟩;obtain⟨k,hk⟩:=abd.mp hb;rw[acR,ZY]at hk;refine abu (c3 _ _ (aai ..) hk) λz=>hn ?_;rw[z];exact abz hb
 .have la:a<j:=by
   obtain⟨k,hk⟩:=abd.mp ha;rw[acj]at hk;split at hk
   .rename_i vn;rw[ZY]at hk;exact c2 _ _ vn hk
   .cases hk
  rcases ZC.mp hb with z|z
  .rw[z];exact la
  .obtain⟨k,hk⟩:=abd.mp z;rw[acR,ZY]at hk;exact Zn la (c3 _ _ (aai ..) hk)
def Kb{t:SetTable}(hd:t.dummies=#[])(j:Nat):t.put j=({t with place:=insertAt t.place (below t.place j) j},below t.place j):=by
 unfold SetTable.put;have:SetTable.has t.dummies j=false:=by
  rw[hd];unfold SetTable.has;simp
 dsimp only;rw[this,ZL Zl]
def Tb.put(h:Tb t hs)(k1:At t x K∉t.place.toList)(k2:∀l,l<K->At t x l∈t.place.toList)(hj:At t x K<=t.mask):
  Tb {t with place:=insertAt t.place (below t.place (At t x K)) (At t x K)} (dm hs (below t.place (At t x K)) x):=by
 generalize hb:below t.place (At t x K)=p;have e:∀(y:Int) (k:Nat),At {t with place:=insertAt t.place p (At t x K)} y k=At t y k:=λy k=>qV (t:={t with place:=insertAt t.place p (At t x K)}) (t':=t) rfl y k;refine⟨⟨h.pl.nd,by rw[<-hb];exact E6 h.pl.ri k1,λi j z=>?_,h.pl.ms⟩,?_,λy hy=>?_⟩
 .have:j∈(insertAt t.place p (At t x K)).toList :=fg (t:={t with place:=insertAt t.place p (At t x K)}) |>.mpr ⟨i,z⟩;rw[cE,jA]at this;rcases this with z|z
  .rw[z];exact hj
  .obtain⟨i',q⟩:=fg.mp z;exact h.pl.le _ _ q
 .show(insertAt t.place p (At t x K)).size =_;rw[<-ZQ,cE,gy,gy,ZQ,h.sz]
 .have hy:y∈(insertAt t.place p (At t x K)).toList.zip (dm hs p x):=hy;rw[cE,Bx (by rw[ZQ];exact h.sz),jA]at hy;have sub:∀j∈t.place.toList,j∈(insertAt t.place p (At t x K)).toList :=λj z=>by rw[cE,jA];exact .inr z
  rcases hy with rfl|hy
  .exact⟨K,e x K,λl hl=>by rw[e];exact sub _ (k2 l hl)⟩
  .obtain⟨k,a,b⟩:=h.rc y hy;exact⟨k,(e _ _).trans a,λl hl=>by rw[e];exact sub _ (b l hl)⟩
def HA(hM:zf t.mask)(x:Int)(k:Nat):At t x k<=t.mask:=by
 have key:∀(k:Nat) (p:Probe),p.i<=t.mask->p.j+p.more<=t.mask->(it t k p).j <=t.mask:=by
  intro k;induction k with
  |zero=>intro p _ h;exact Zr (aai ..) h
  |succ k ih=>
   intro p hi h;refine ih (t.advance p) ?_ ?_
   .unfold advance;split
    .exact hi
    .exact Z1 (acy _ (abl _))
   .unfold advance;split
    .show p.j+1+(p.more-1)<=t.mask;omega
    .show((p.i*5+1+p.perturb/32)%(t.mask+1))+(runEnd t.mask ((p.i*5+1+p.perturb/32)%(t.mask+1))-((p.i*5+1+p.perturb/32)%(t.mask+1)))<=t.mask;have:=acy (p.i*5+1+p.perturb/32) (show 0<t.mask+1 from abl t.mask);unfold runEnd;split<;>omega
 refine key k _ (Z1 (acy _ (abl _))) ?_;show bits x%(t.mask+1)+(runEnd t.mask (bits x%(t.mask+1))-bits x%(t.mask+1))<=t.mask;have:=acy (bits x) (show 0<t.mask+1 from abl t.mask);unfold runEnd;split<;>omega
noncomputable def Aj(ow:Array (Option Nat))(j:Nat):Prop:=∃i:Nat,ow[j]?=some (some i)
def jB(h:j<ow.size):(ow.getD j (some 0)).isNone =true↔ ¬Aj ow j:=by
 have e:ow.getD j (some 0)=ow[j]:=by
  unfold Array.getD;rw[dif_pos h];rfl
 rw[e];unfold Aj;rw[ZK h];cases ow[j]with
 |none=>exact Iff.intro (λ_ w=>w.elim λi z=>nomatch z) λ_=>rfl
 |some i=>exact Iff.intro (λz=>nomatch z) λz=>absurd ⟨i,rfl⟩ z
def wU(h:i<=M):i<=runEnd M i/\runEnd M i<=M:=by
 unfold runEnd;split<;>omega
def E7(t:SetTable)(hsz:ow.size=t.mask+1):∀(n fuel:Nat) (x:Nat×Nat),n<fuel->x.1<=t.mask->¬Aj ow (pG t.mask n x).1 ->
  ∃k,layClean.free t.mask ow fuel x.1 x.2=some (it t k (Ai t.mask x)).j /\¬Aj ow (it t k (Ai t.mask x)).j /\∀l,l<k->Aj ow (it t l (Ai t.mask x)).j :=by
 intro n;induction n with
 |zero=>
  intro fuel x hf hx hn;obtain⟨fuel,rfl⟩:∃f,fuel=f+1:=⟨fuel-1,by omega⟩;have hr:=wU hx;unfold layClean.free;have:(List.range (runEnd t.mask x.1+1-x.1)).find? (λk=>(ow.getD (x.1+k) (some 0)).isNone)=some 0:=by
   rw[show runEnd t.mask x.1+1-x.1=(runEnd t.mask x.1-x.1)+1 by omega,aeK,List.find?_cons_of_pos];exact(jB aa0).mpr hn
  rw[this];exact⟨0,rfl,hn,λl hl=>absurd hl (aah _)⟩
 |succ n ih=>
  intro fuel x hf hx hn;obtain⟨fuel,rfl⟩:∃f,fuel=f+1:=⟨fuel-1,by omega⟩;have hr:=wU hx;have hj:∀l,l<=runEnd t.mask x.1-x.1->(it t l (Ai t.mask x)).j =x.1+l:=λl hl=>by rw[vp t l (Ai t.mask x) hl];rfl
  unfold layClean.free;cases hq:(List.range (runEnd t.mask x.1+1-x.1)).find? (λk=>(ow.getD (x.1+k) (some 0)).isNone)with
  |some k=>
   obtain⟨h1,h2,h3⟩:=List.find?_range_eq_some.mp hq;have hk:=Z9.mp h2;refine⟨k,by rw[hj k aa0],?_,λl hl=>?_⟩
   .rw[hj k aa0];exact(jB aa0).mp h1
   .rw[hj l aa0];refine aaD λz=>?_;have:=(jB (ow:=ow) (j:=x.1+l) aa0).mpr z;have h:=h3 l hl;rw[this]at h;cases h
  |none=>
   have h0:=afn.mp hq;obtain⟨k,a1,a2,a3⟩:=ih fuel (lp t.mask x) aa0 (Z1 (acy _ (abl _))) hn;refine⟨(runEnd t.mask x.1-x.1+1)+k,?_,?_,λl hl=>?_⟩
   .rw[gx,lH];exact a1
   .rw[gx,lH];exact a2
   .rcases aap l (runEnd t.mask x.1-x.1+1)with z|z
    .rw[hj l aa0];exact aaD λnz=>h0 l (Z9.mpr aa0) ((jB aa0).mpr nz)
    .obtain⟨d,rfl⟩:=abX z;rw[gx,lH];exact a3 d aa0
def Kc(hM:zf M)(q:Nat)(hq:q<2 ^ 64)(hi:i<=M)(hj:j<=M):∃n<turns M,(pG M n (i,q)).1 =j:=by
 have q0:(pG M 13 (i,q)).2 =0:=by
  rw[qT];exact Nat.div_eq_of_lt (Zn hq aa1)
 have i0:∀n (x:Nat×Nat),x.1<=M->(pG M n x).1 <=M:=by
  intro n;induction n with
  |zero=>exact λx h=>h
  |succ n ih=>exact λx h=>ih _ (Z1 (acy _ (abl _)))
 obtain⟨k,hk,ek⟩:=wO hM (i0 13 (i,q) hi) hj;refine⟨13+k,by unfold turns;omega,?_⟩;rw[wL];have:pG M 13 (i,q)=((pG M 13 (i,q)).1,0):=by rw[<-q0]
 rw[this,vq];exact ek
structure Ow(t:SetTable)(ow:Array (Option Nat))(hs:List Int):Prop where
 sz:ow.size=t.mask+1
 lt:∀i j:Nat,ow[j]?=some (some i)->i<hs.length
 ex:∀i,i<hs.length->∃j:Nat,ow[j]?=some (some i)
 un:∀i j j':Nat,ow[j]?=some (some i)->ow[j']?=some (some i)->j=j'
 rc:∀(i j:Nat) (h:Int),ow[j]?=some (some i)->hs[i]?=some h->∃k,At t h k=j/\∀l,l<k->Aj ow (At t h l)
def Ow.more(o:Ow t ow hs)(hM:zf t.mask)(hf:∃j≤t.mask,¬Aj ow j)(x:Int):
  ∃j,layClean.free t.mask ow (turns t.mask) (bits x%(t.mask+1)) (bits x)=some j/\Ow t (ow.setIfInBounds j (some hs.length)) (hs++[x]):=by
 obtain⟨j0,Xj,hn⟩:=hf;have hi:bits x%(t.mask+1)<=t.mask:=Z1 (acy _ (abl _));obtain⟨n,h1,h2⟩:=Kc hM (bits x) (wQ x) hi Xj;obtain⟨k,a1,a2,a3⟩:=E7 t o.sz n (turns t.mask) (bits x%(t.mask+1),bits x) h1 hi (by rw[h2];exact hn);have e:∀l,(it t l (Ai t.mask (bits x%(t.mask+1),bits x))).j =At t x l:=λ_=>rfl;rw[e]at a1 a2;refine⟨_,a1,?_⟩;have aU:At t x k<ow.size:=by rw[o.sz];exact aaq (HA hM x k)
 have self:(ow.setIfInBounds (At t x k) (some hs.length))[At t x k]?=some (some hs.length):=by
  rw[Array.getElem?_setIfInBounds_self,ZD aU]
 have SR:∀j,j≠At t x k->(ow.setIfInBounds (At t x k) (some hs.length))[j]?=ow[j]?:=λj z=>Array.getElem?_setIfInBounds_ne (aay z);have inv:∀(i j:Nat),(ow.setIfInBounds (At t x k) (some hs.length))[j]?=some (some i)->j=At t x k/\i=hs.length\/j≠At t x k/\ow[j]?=some (some i):=λi j z=>by
  by_cases q:j=At t x k
  .subst q;rw[self]at z;cases z;exact .inl ⟨rfl,rfl⟩
  .rw[SR j q]at z;exact .inr ⟨q,z⟩
 have mono:∀j,Aj ow j->Aj (ow.setIfInBounds (At t x k) (some hs.length)) j:=λj ⟨i,z⟩=>by
  by_cases q:j=At t x k
  .subst q;exact absurd ⟨i,z⟩ a2
  .exact⟨i,by rw[SR j q];exact z⟩
 refine⟨by rw[aeh];exact o.sz,λi j z=>?_,λi hi=>?_,λi j j' z z'=>?_,λi j h z hh=>?_⟩
 .rw[Zw];rcases inv i j z with⟨_,rfl⟩|⟨_,z⟩
  .exact aaN _
  .exact abc (o.lt i j z)
 .rw[Zw]at hi;rcases ack (Z1 hi)with z|z
  .obtain⟨j,e⟩:=o.ex i z;refine⟨j,?_⟩;rw[SR j λq=>a2 ⟨i,q▸e⟩];exact e
  .exact⟨At t x k,by rw[self,z]⟩
 .rcases inv i j z with⟨p,q⟩|⟨p,q⟩
  .rcases inv i j' z' with⟨p',_⟩|⟨_,q'⟩
   .rw[p,p']
   .exact absurd (o.lt _ _ q') (by rw[q];exact aam _)
  .rcases inv i j' z' with⟨_,q'⟩|⟨_,q'⟩
   .exact absurd (o.lt _ _ q) (by rw[q'];exact aam _)
   .exact o.un i j j' q q'
 .rcases inv i j z with⟨rfl,rfl⟩|⟨p,q⟩
  .rw[aar (Zu _),afr]at hh;cases hh;exact⟨k,rfl,λl hl=>mono _ (by rw[<-e];exact a3 l hl)⟩
  .rw[aao (o.lt i j q)]at hh;obtain⟨k',b1,b2⟩:=o.rc i j h q hh;exact⟨k',b1,λl hl=>mono _ (b2 l hl)⟩
theorem U4:∀(n:Nat) (l:List Nat),l.Nodup->(∀x∈l,x<n)->l.length<=n
 |0,l,_,h=>by
  cases l with
  |nil=>exact Zu _
  |cons x l=>exact absurd (h x Zt) (aah _)
 |n+1,l,hn,h=>by
  have:=U4 n (l.erase n) (hn.erase n) λx hx=>by
   have:=(hn.mem_erase_iff).mp hx;exact abu (Z1 (h x this.2)) this.1
  rw[List.length_erase]at this;split at this<;>omega
noncomputable def SS:Option (Option Nat)->Nat
 |some (some i)=>i
 |_=>0
def Ow.room(o:Ow t ow hs)(hl:hs.length<=t.mask):∃j≤t.mask,¬Aj ow j:=by
 refine Uk λnO=>?_;have al:∀j,j<=t.mask->Aj ow j:=λj hj=>aaD λz=>nO ⟨j,hj,z⟩;have:=U4 hs.length ((List.range (t.mask+1)).map λj=>SS ow[j]?) (by
  rw[Z7,aal];refine aeC.imp_of_mem λ{a b} ha hb lI z=>?_;obtain⟨i,e⟩:=al a (Z1 (Z9.mp ha));obtain⟨i',e'⟩:=al b (Z1 (Z9.mp hb));rw[e,e']at z;have z:i=i':=z;subst z;exact lI (o.un _ _ _ e e')) (λx hx=>by
  obtain⟨j,hj,rfl⟩:=Zv.mp hx;obtain⟨i,e⟩:=al j (Z1 (Z9.mp hj));rw[e];exact o.lt _ _ e)
 rw[Zo,abU]at this;omega
noncomputable def E8(M:Nat)(acc:Option (Array (Option Nat)×Nat))(h:Int):Option (Array (Option Nat)×Nat):=do
 let (owner,k)<-acc
 let j<-layClean.free M owner (turns M) (bits h%(M+1)) (bits h)
 pure (owner.setIfInBounds j (some k),k+1)
theorem tJ(hM:zf t.mask):∀(uB hs:List Int) (ow:Array (Option Nat)),Ow t ow hs->hs.length+uB.length<=t.mask->∃jV,List.foldl (E8 t.mask) (some (ow,hs.length)) uB=some (jV,(hs++uB).length)/\Ow t jV (hs++uB)
 |[],hs,ow,o,_=>⟨ow,by rw[aaf];rfl,by rw[aaf];exact o⟩
 |x::uB,hs,ow,o,hl=>by
  rw[ZM]at hl;obtain⟨j,h1,h2⟩:=o.more hM (o.room aa0) x;obtain⟨jV,h3,h4⟩:=tJ hM uB (hs++[x]) _ h2 (by rw[Zw];show hs.length+1+uB.length<=_;omega);rw[ZW]at h3 h4;refine⟨jV,?_,h4⟩;rw[adM];have:E8 t.mask (some (ow,hs.length)) x=some (ow.setIfInBounds j (some hs.length),(hs++[x]).length):=by
   show(layClean.free t.mask ow (turns t.mask) (bits x%(t.mask+1)) (bits x)).bind _=_;rw[h1,Zw];rfl
  rw[this];exact h3
def By(hM:zf t.mask)(hs:List Int)(hl:hs.length<=t.mask):∃ow,layClean t.mask hs.toArray=some ow/\Ow t ow hs:=by
 have o0:Ow t (Array.replicate (t.mask+1) none) []:=by
  have no:∀i j:Nat,(Array.replicate (t.mask+1) (none:Option Nat))[j]?≠some (some i):=λi j z=>by
   rw[Array.getElem?_replicate]at z;split at z<;>cases z
  exact⟨Array.size_replicate,λi j z=>absurd z (no i j),λi hi=>absurd hi (aah _),λi j _ z=>absurd z (no i j),λi j _ z=>absurd z (no i j)⟩
 obtain⟨ow,h1,h2⟩:=tJ hM hs [] _ o0 (by rw[abr,aav];exact hl);refine⟨ow,?_,h2⟩;show(Array.foldl (E8 t.mask) (some (Array.replicate (t.mask+1) none,0)) hs.toArray).map _=_;rw[List.foldl_toArray];have h1:List.foldl (E8 t.mask) (some (Array.replicate (t.mask+1) none,0)) hs=_:=h1;rw[h1];rfl
noncomputable def cA(M:Nat)(ow:Array (Option Nat)):List (Nat×Nat):=(List.range (M+1)).filterMap λj=>(ow.getD j none).map (j,·)
def getD_none{ow:Array (Option Nat)}{j i:Nat}:ow.getD j none=some i↔ow[j]?=some (some i):=by
 unfold Array.getD;split
 .rename_i h;rw[ZK h];exact⟨λz=>congrArg some z,λz=>ZU z⟩
 .rename_i h;rw[acg (ZZ h)];exact Iff.intro (λz=>nomatch z) (λz=>nomatch z)
def dP{M:Nat}{ow:Array (Option Nat)}(hs:ow.size=M+1){x:Nat×Nat}:x∈cA M ow↔ow[x.1]?=some (some x.2):=by
 unfold cA;rw[adR];constructor
 .rintro⟨j,hj,e⟩;obtain⟨i,e1,e2⟩:=aaW.mp e;subst e2;exact getD_none.mp e1
 .intro h;have hl:=(aaT.mp h).1;exact⟨x.1,Z9.mpr (by rw[<-hs];exact hl),by rw[getD_none.mpr h];rfl⟩
def pH(M:Nat)(ow:Array (Option Nat)):(cA M ow).Pairwise λx y=>x.1<y.1:=by
 unfold cA;refine List.Pairwise.filterMap _ (R:=(· < ·)) (λa a' h b hb b' ja=>?_) adf;obtain⟨i,_,e⟩:=aaW.mp hb;obtain⟨i',_,e'⟩:=aaW.mp ja;rw[<-e,<-e'];exact h
def E9(t:SetTable)(hs:List Int)(h:layClean t.mask hs.toArray=some ow)(finger moves:Nat)(led plain:Bool):
  laid t.mask finger moves led plain hs.toArray=some ({mask:=t.mask,place:=((cA t.mask ow).map (·.1)).toArray,dummies:=#[],finger,led,moves,plain},((cA t.mask ow).map (·.2)).toArray):=by
 unfold laid;rw[h];rfl
def E_{t:SetTable}(hM:zf t.mask)(hs:List Int)(hl:hs.length<=t.mask)(finger moves:Nat)(led plain:Bool):
  ∃(pl:Array Nat) (order:List Nat),laid t.mask finger moves led plain hs.toArray=some ({mask:=t.mask,place:=pl,dummies:=#[],finger,led,moves,plain},order.toArray)/\
   order.Perm (List.range hs.length)/\Tb {mask:=t.mask,place:=pl,dummies:=#[],finger,led,moves,plain} (order.map λi=>hs.getD i 0):=by
 obtain⟨ow,h1,o⟩:=By hM hs hl;refine⟨_,_,E9 t hs h1 finger moves led plain,?_,?_⟩
 .have nd:((cA t.mask ow).map (·.2)).Nodup :=by
   rw[Z7,aal];refine(pH t.mask ow).imp_of_mem λ{a b} ha hb lI z=>?_;have e1:=(dP o.sz).mp ha;have e2:=(dP o.sz).mp hb;rw[<-z]at e2;exact absurd (o.un _ _ _ e1 e2) (ZT lI)
  rw[acC nd aeC];intro i;rw[Z9,Zv];constructor
  .rintro⟨x,hx,rfl⟩;exact o.lt _ _ ((dP o.sz).mp hx)
  .intro hi;obtain⟨j,e⟩:=o.ex i hi;exact⟨(j,i),(dP o.sz).mpr e,rfl⟩
 .have SU:∀j,Aj ow j->j∈(cA t.mask ow).map (·.1):=λj ⟨i,e⟩=>Zv.mpr ⟨(j,i),(dP o.sz).mpr e,rfl⟩;refine⟨⟨rfl,?_,λi j z=>?_,hM⟩,?_,λy hy=>?_⟩
  .rw[qW];show(((cA t.mask ow).map (·.1)).toArray.toList).Pairwise _;rw[aal];exact pH t.mask ow
  .have z:((cA t.mask ow).map (·.1)).toArray[i]?=some j:=z;rw[List.getElem?_toArray]at z;obtain⟨x,hx,rfl⟩:=Zv.mp (aac z);have:=(aaT.mp ((dP o.sz).mp hx)).1;rw[o.sz]at this;exact Z1 this
  .show((cA t.mask ow).map (·.1)).toArray.size =_;rw[ZA,Zo,Zo,Zo]
  .have hy:y∈((cA t.mask ow).map (·.1)).zip (((cA t.mask ow).map (·.2)).map λi=>hs.getD i 0):=hy;rw[Z5,List.zip_map']at hy;obtain⟨x,hx,rfl⟩:=Zv.mp hy;have e:=(dP o.sz).mp hx;have aU:=o.lt _ _ e;obtain⟨k,a,b⟩:=o.rc x.2 x.1 (hs.getD x.2 0) e (by rw[Zx,Zj aU];rfl);refine⟨k,?_,λl hl=>?_⟩
   .exact(qV (t:={mask:=t.mask,place:=((cA t.mask ow).map (·.1)).toArray,dummies:=#[],finger,led,moves,plain}) (t':=t) rfl _ _).trans a
   .have:=SU _ (b l hl);rw[<-qV (t:={mask:=t.mask,place:=((cA t.mask ow).map (·.1)).toArray,dummies:=#[],finger,led,moves,plain}) (t':=t) rfl]at this;exact this
def SV(hM:zf M)(h1:M*3<=n*5)(h2:(n-1)*5<M*3)(hn:n<=720):zf (sizeAbove (grown n)-1)/\n*5<(sizeAbove (grown n)-1)*3/\n<=sizeAbove (grown n)-1/\sizeAbove (grown n)<=16777216:=by
 rcases hM with rfl|rfl|rfl|rfl|rfl
 .have:n=5:=by omega
  subst this;exact⟨.inr (.inl (by decide +kernel)),by decide +kernel,by decide +kernel,by decide +kernel⟩
 .have:n=19:=by omega
  subst this;exact⟨.inr (.inr (.inl (by decide +kernel))),by decide +kernel,by decide +kernel,by decide +kernel⟩
 .have:n=77:=by omega
  subst this;exact⟨.inr (.inr (.inr (.inl (by decide +kernel)))),by decide +kernel,by decide +kernel,by decide +kernel⟩
 .have:n=307:=by omega
  subst this;exact⟨.inr (.inr (.inr (.inr (by decide +kernel)))),by decide +kernel,by decide +kernel,by decide +kernel⟩
 .omega
end S2
namespace S2
open PySem PySem.Spec PyProof.Rows
section
variable {prog:Program}{w:World}{A:Around}{E:Value->Shared->Prop}{s:Shared}{c:Addr}{ks:List Int}
noncomputable abbrev IsT(prog:Program)(w:World)(h:Heap)(ks:List Int)(c:Addr):Prop:=IsTupleKey (intKind prog w) h ks c
def ItemsAre.ints(h:ItemsAre (intKind prog w) ks vs):∀v∈vs,∃k t,v= .int k t:=by
 induction h with
 |nil=>intro v hv;cases hv
 |@cons k v' ks vs h1 _ ih=>
  intro v hv;rcases ZC.mp hv with rfl|hv
  .have:(intKind prog w).is k v=true:=h1;cases v with
   |int j t=>exact⟨j,t,rfl⟩
   |_=>cases this
  .exact ih v hv
def all_ints{α:Type}{items:Array Value}{f:Value->Option α×Unit->Sem (ForInStep (Option α×Unit))}{Q:Option α×Unit->Shared->Prop}(hi:ItemsAre (intKind prog w) ks items.toList)(hf:∀k t r,f (.int k t) r=pure (.yield (none,())))(h:Q (none,()) s):wpAny aa3 A (forIn items (none,()) f) Q E s:=by
 rw[<-Array.forIn_toList];refine aex _ (λbg r s'=>r.1=none/\s'=s/\∀v∈bg,∃k t,v=Value.int k t) _ ?_ ?_ _ _ ⟨rfl,rfl,ItemsAre.ints hi⟩
 .rintro v bg r s' ⟨hr,rfl,j4⟩;obtain⟨k,t,rfl⟩:=j4 v Zt;rw[hf];exact Zq ⟨rfl,rfl,λu rN=>j4 u (Zm _ rN)⟩
 .rintro⟨r1,r2⟩ s' ⟨hr,rfl,_⟩;simp only at hr;subst hr;exact h
def zg{Q:Bool->Shared->Prop}(hk:IsT prog w s.heap ks c)(h:Q true s):wpAny aa3 A (hashByValue 8 (.ref c)) Q E s:=by
 have hT:=hk.typeIs;obtain⟨o,items,n,ho,_,hd,hi⟩:=hk;unfold hashByValue;refine Zh (adJ hT F.slot_tuple_hash.lookup ?_);exact Zh (acd ho hd (Zh (all_ints hi (λ_ _ _=>rfl) (Zq h))))
def pI{Q:Bool->Shared->Prop}(hk:IsT prog w s.heap ks c)(h:Q false s):wpAny aa3 A (ofAClassStatement 8 (.ref c)) Q E s:=by
 have hT:=hk.typeIs;obtain⟨o,items,n,ho,_,hd,hi⟩:=hk;unfold ofAClassStatement;refine Zh (ads hT (Zh (Zq ?_)));exact Zh (acd ho hd (Zh (all_ints hi (λ_ _ _=>rfl) (Zq h))))
end
section
variable {prog:Program}{w:World}{B:Addr->Prop}{A:Around}{E:Value->Shared->Prop}{s:Shared}{a c:Addr}{x:List Int}{xs:List (Addr×List Int)}{t:SetTable}{o:Obj}{ep:Nat}
noncomputable abbrev iP(prog:Program)(w:World)(k:List Int):Int:=(tupleKind (intKind prog w)).hash k
noncomputable def QN(prog:Program)(w:World)(x:Addr×List Int):Int×Value:=(iP prog w x.2,.ref x.1)
noncomputable abbrev arr(prog:Program)(w:World)(xs:List (Addr×List Int)):Array (Int×Value):=(xs.map (QN prog w)).toArray
structure oH(prog:Program)(w:World)(t:SetTable)(xs:List (Addr×List Int)):Prop where
 tb:Tb t (xs.map λx=>iP prog w x.2)
 fl:xs.length*5<t.mask*3
 nd:(xs.map (·.2)).Nodup
def c8:(arr prog w xs).size =xs.length:=by simp
def lJ{i:Nat}:(arr prog w xs)[i]?=(xs[i]?).map (QN prog w):=by simp
def wV(nd:t.dummies=#[])(hs:t.place.size=xs.length)(hl:xs.length<=t.mask):t.fits (arr prog w xs).size =true:=by
 unfold SetTable.fits SetTable.fill;rw[nd,c8,Zk];exact⟨beq_iff_eq.mpr hs,decide_eq_true (by rw[hs];exact hl)⟩
theorem oH.sz(h:oH prog w t xs):t.place.size=xs.length:=by rw[h.tb.sz,Zo]
def oH.le(h:oH prog w t xs):xs.length<=t.mask:=by
 have:=h.fl;omega
theorem oH.fits(h:oH prog w t xs):t.fits (arr prog w xs).size =true:=wV h.tb.pl.nd h.sz h.le
def oH.odd(h:oH prog w t xs):t.gaveWay=false:=by
 unfold SetTable.gaveWay;rcases h.tb.pl.ms with e|e|e|e|e<;>rw[e]<;>rfl
def Fb(hx:IsT prog w s.heap x c)(hv:∀v∈vs,∃b k,v= .ref b/\IsT prog w s.heap k b)(h:Q false s):wpAny aa3 A (searchCouldBeSeen (.ref c) vs) Q E s:=by
 unfold searchCouldBeSeen;refine Zh ?_;refine aex _ (λbg r s'=>r.1=none/\s'=s/\∀v∈bg,∃b k,v= .ref b/\IsT prog w s.heap k b) _ ?_ ?_ _ _ ⟨rfl,rfl,hv⟩
 .rintro v bg r s' ⟨hr,rfl,j4⟩;obtain⟨b,k,rfl,hb⟩:=j4 v Zt;have tl:∀u∈bg,∃b k,u=Value.ref b/\IsT prog w s'.heap k b:=λu rN=>j4 u (Zm _ rN);dsimp only;refine aae (λ_=>Zq ⟨rfl,rfl,tl⟩) λ_=>?_;refine Zh ((tupleKind (intKind prog w)).quiet hx ?_);refine aae (λz=>absurd z aa1) λ_=>?_;refine Zh ((tupleKind (intKind prog w)).quiet hb ?_);refine aae (λz=>absurd z aa1) λ_=>?_;refine Zh (pI hx ?_);refine aae (λz=>absurd z aa1) λ_=>?_;refine Zh (pI hb ?_);refine aae (λz=>absurd z aa1) λ_=>?_;exact Zq ⟨rfl,rfl,tl⟩
 .rintro⟨r1,r2⟩ s' ⟨hr,rfl,_⟩;simp only at hr;subst hr;exact Zq h
def tK(hu:A.units<cLine)(ho:s.heap.get? a=some o)(hd:o.data= .set (arr prog w xs) ep t)(D:oH prog w t xs)(T:∀y∈xs,IsT prog w s.heap y.2 y.1)(hx:IsT prog w s.heap x c)
  {K:Nat} (hK:K<10*SetTable.turns t.mask) (k1:At t (iP prog w x) K∉t.place.toList) (k2:∀l,l<K->At t (iP prog w x) l∈t.place.toList)
  (hf:x∈xs.map (·.2)->Q (.there none) s) (hn:x∉xs.map (·.2)->Q (.free (At t (iP prog w x) K) false) s):
  ∀(fuel k0:Nat) (wW:Option SetTable.Probe),K<fuel+k0->k0<=K->wW.getD (t.probeStart (iP prog w x))=it t k0 (t.probeStart (iP prog w x))->
   (∀l,l<k0->∀(i:Nat) y,t.place[i]?=some (At t (iP prog w x) l)->xs[i]?=some y->y.2≠x)->wpAny aa3 A (setSearchFrom a (.ref c) (iP prog w x) true fuel wW) Q E s:=by
 have hH:∀{i:Nat}{y},xs[i]?=some y->((arr prog w xs)[i]?.map (·.1)).getD 0=iP prog w y.2:=λ{i y} e=>by rw[lJ,e];rfl
 intro fuel;induction fuel with
 |zero=>intro k0 wW h1 h2;omega
 |succ fuel ih=>
  intro k0 wW h1 h2 ot hb;unfold setSearchFrom;refine Zh (abp ho hd D.fits ?_);dsimp only;rw[D.odd,ZL Zl,ot];obtain⟨met,m1,m2⟩:=D.tb.pl.step (H:=λi=>((arr prog w xs)[i]?.map (·.1)).getD 0) hK k1 k2 h2;erw[m1];rcases m2 with⟨b1,rfl⟩|⟨k,i,c1,c2,b1,c3,c4,rfl⟩
  .refine Zq (hn λSW=>?_);obtain⟨y,hy,rfl⟩:=Zv.mp SW;obtain⟨i,hi⟩:=abd.mp hy;obtain⟨k,hk,hp⟩:=D.tb.met k1 (i:=i) (by rw[Zz,hi];rfl);rcases aap k k0 with z|z
   .exact hb k z i y hp hi rfl
   .exact b1 k z hk i hp (hH hi)
  .obtain⟨y,hi⟩:∃y,xs[i]?=some y:=⟨_,Zj (by rw[<-D.sz];exact(aaT.mp c3).1)⟩;have hv:∀v∈(((arr prog w xs).filter (·.1==iP prog w x)).toList.map (·.2)),∃b k,v=Value.ref b/\IsT prog w s.heap k b:=λv hv=>by
    obtain⟨e',zh,rfl⟩:=Zv.mp hv;obtain⟨z,hz,rfl⟩:=Zv.mp (List.mem_toArray.mp (Array.mem_filter.mp (abj.mp zh)).1);exact⟨z.1,z.2,rfl,T z hz⟩
   refine(λkey=>aae (λ_=>Zh (Fb hx hv (aae (λz=>absurd z Zl) λ_=>key))) λ_=>key) ?_;rw[lJ,hi];show wpAny _ _ (holding [Value.ref y.1] (eqBool (.ref y.1) (.ref c)) >>= _) _ _ s;refine Zh (aan ((tupleKind (intKind prog w)).eqBool hu (T y (aac hi)) hx ?_));refine Zh (abp ho hd D.fits ?_);by_cases q:y.2=x
   .exact aae (λ_=>Zq (hf (Zv.mpr ⟨y,aac hi,q⟩))) λz=>absurd (by rw[decide_eq_true q];rfl) z
   .refine aae (λz=>absurd z (by rw[decide_eq_false q];decide)) λ_=>?_;have sm:t.sameMemory t.moves t.mask=some true:=by unfold SetTable.sameMemory;rw[ZD (beq_self_eq_true _)]
    dsimp only;rw[sm];dsimp only;rw[ZD rfl,D.tb.pl.live.mpr c3];dsimp only;rw[lJ,hi];refine Zh (wpAny_isSame_ref_self (Zh (Zq ?_)));rw[ZD rfl];refine aae (λz=>absurd z (by rw[decide_eq_false q];decide)) λ_=>?_;refine ih (k+1) _ aa0 aa0 rfl λl hl i' y' gr e'=>?_;rcases aap l k0 with z|z
    .exact hb l z i' y' gr e'
    .rcases ack (Z1 hl)with z'|z'
     .intro q';exact b1 l z z' i' gr (by rw[<-q'];exact hH e')
     .subst z';have a1:=D.tb.pl.live.mpr gr;rw[D.tb.pl.live.mpr c3]at a1;cases a1;rw[hi]at e';cases e';exact q
end
section
variable {prog:Program}{w:World}{B:Addr->Prop}{A:Around}{E:Value->Shared->Prop}{s:Shared}{a c:Addr}{x:List Int}{L:List aa2}{xs:List (Addr×List Int)}{es:Array (Int×Value)}{t:SetTable}{o:Obj}{ep:Nat}{h h':Heap}
noncomputable def Bz(prog:Program)(w:World)(b:Bool)(a:Addr)(xs:List (Addr×List Int))(h:Heap):Prop:=
 ∃o ep t,h.get? a=some o/\o.ExactSet/\o.data= .set (arr prog w xs) ep t/\t.led=b/\t.plain=true/\oH prog w t xs
noncomputable def jC(prog:Program)(w:World)(b:Bool)(a:Addr)(B:Addr->Prop)(L:List aa2)(h:Heap):Prop:=∃xs,(xs.map (·.2)).Perm L/\(∀x∈xs,B x.1/\IsT prog w h x.2 x.1)/\Bz prog w b a xs h
def tL(hk:IsT prog w h k b)(ho:h.get? a=some o)(hd:o.data= .set es ep t)(hs:Heap.SameBut a h h'):IsT prog w h' k b:=by
 obtain⟨o',items,n,h1,h2,h3,h4⟩:=hk;refine⟨o',items,n,?_,h2,h3,h4⟩;have:b≠a:=λz=>by
  subst z;rw[ho]at h1;cases h1;rw[hd]at h3;cases h3
 rw[hs.2 b this];exact h1
def qX(ho:h.get? a=some o)(hd:o.data= .set es ep t):(h.update a (Obj.putSet vU t')).get? a=some {o with data:= .set vU (ep+1) t'}:=by
 have:=aaJ (Obj.putSet vU t') ho (by rw[putSet_of vU t' hd];rfl);rw[putSet_of vU t' hd]at this;exact this
def zi(l:List α)(p:Nat)(x:α):(dm l p x).Perm (l++[x]):=by
 unfold dm;refine(List.perm_middle).trans ?_;rw[aaL];exact adt (l₁:=[x]) (l₂:=l)
theorem BA{α β:Type}{f:α->Option β}{g:α->β}:∀{l:List α},(∀i∈l,f i=some (g i))->l.filterMap f=l.map g
 |[],_=>rfl
 |i::l,h=>by
  rw[acH,h i Zt,ZS,BA λj hj=>h j (Zm _ hj)]
def range_getD(l:List α)(d:α):(List.range l.length).map (λi=>l.getD i d)=l:=by
 apply aaG;intro i;rw[Zz];rcases aap i l.length with z|z
 .rw[abq z,aco,Zx,Zj z];rfl
 .rw[ZR (by rw[abU];exact z),ZR z];rfl
def Ol{Q:Unit->Shared->Prop}(ho:s.heap.get? a=some o)(hex:o.ExactSet)(hd:o.data= .set (arr prog w xs) ep t)(dw:t.plain=true)(tb:Tb t (xs.map λx=>iP prog w x.2))(u_:xs.length<=t.mask)
  (nd:(xs.map (·.2)).Nodup) (h1:t.mask*3<=xs.length*5) (h2:(xs.length-1)*5<t.mask*3) (hn:xs.length<=720)
  (hq:∀h' Om,Heap.SameBut a s.heap h'->Om.Perm xs->Bz prog w t.led a Om h'->Q () {s with heap:=h'}):wpAny aa3 A (setRelay a (SetTable.grown xs.length)) Q E s:=by
 obtain⟨g1,g2,g3,g4⟩:=SV tb.pl.ms h1 h2 hn;generalize SetTable.grown xs.length=G at g1 g2 g3 g4⊢;have aL:=Zo (as:=xs) (λx=>iP prog w x.2);obtain⟨pl,order,l1,l2,l3⟩:=E_ (t:={t with mask:=SetTable.sizeAbove G-1}) g1 (xs.map λx=>iP prog w x.2) (by rw[aL];exact g3) t.finger (t.movedTo (SetTable.sizeAbove G-1)) t.led t.plain;rw[aL]at l2;unfold setRelay;refine Zh (abp ho hd (wV tb.pl.nd (by rw[tb.sz,aL]) u_) ?_);dsimp only;rw[ZL (by rw[sizeLine_eq];exact Nat.not_lt.mpr g4)];have Oo:∀i∈order,xs[i]?=some (xs.getD i (0,[])):=λi hi=>by
  rw[Zx,Zj (Z9.mp (l2.mem_iff.mp hi))];rfl
 have e1:order.toArray.filterMap ((arr prog w xs)[·]?)=arr prog w (order.map λi=>xs.getD i (0,[])):=by
  apply aey.mp;rw[Array.toList_filterMap];show order.filterMap _=List.map _ _;rw[Z5];exact BA λi hi=>by rw[lJ,Oo i hi];rfl
 have pm:(order.map λi=>xs.getD i (0,[])).Perm xs:=(l2.map _).trans (.of_eq (range_getD xs _));have rl:t.relaid ((arr prog w xs).map (·.1)) G=SetTable.laid (SetTable.sizeAbove G-1) t.finger (t.movedTo (SetTable.sizeAbove G-1)) t.led t.plain (xs.map λx=>iP prog w x.2).toArray :=by
  unfold SetTable.relaid;rw[show(arr prog w xs).map (·.1)=(xs.map λx=>iP prog w x.2).toArray by rw[List.map_toArray,Z5];rfl]
 rw[rl.trans l1];refine Zh ?_;show wpAny _ _ (if(order.toArray.filterMap ((arr prog w xs)[·]?)).size !=(arr prog w xs).size then _ else pure (order.toArray.filterMap ((arr prog w xs)[·]?),_)) _ _ s;rw[e1,c8,c8,pm.length_eq,ZL aa9];refine Zq (wpAny_storeSet_of ho hd ?_ (by rw[c8,pm.length_eq,sizeLine_eq];omega));refine hq _ _ (aaK ..) pm ⟨_,_,_,qX ho hd,hex,rfl,rfl,dw,?_,by rw[pm.length_eq];exact g2,(pm.map _).nodup_iff.mpr nd⟩;rw[show(order.map λi=>xs.getD i (0,[])).map (λx=>iP prog w x.2)=order.map λi=>(xs.map λx=>iP prog w x.2).getD i 0 by
  rw[Z5];exact abH λi hi=>by
   rw[Zx,Zz,Oo i hi];rfl]
 exact l3
end
section
variable {prog:Program}{w:World}{B:Addr->Prop}{A:Around}{E:Value->Shared->Prop}{s:Shared}{a c:Addr}{x:List Int}{L:List aa2}{b:Bool}
def tM(f:α->β)(l:List α)(p:Nat)(x:α):(dm l p x).map f=dm (l.map f) p (f x):=by
 unfold dm;rw[Z3,ZS,acz,afo]
def mM(h:L.Nodup):(gu L x).Nodup :=by
 unfold gu;split
 .exact h
 .rename_i q;rw[aaS];exact⟨h,Z8.mpr ⟨adD,adl⟩,λy hy z hz e=>q (by rw[<-Zp.mp hz,<-e];exact hy)⟩
def BB(hu:A.units<cLine)(hS:jC prog w b a B L s.heap)(hx:IsT prog w s.heap x c)(hc:B c)(hn:x∉L->L.length<720)
  (h:∀h' r,Heap.SameBut a s.heap h'->jC prog w b a B (gu L x) h'->Q r {s with heap:=h'}):wpAny aa3 A (setAddHashed a (.ref c) (iP prog w x)) Q E s:=by
 obtain⟨xs,pm,T,o,ep,t,ho,hex,hd,hl,dw,D⟩:=hS;obtain⟨K,hK,k1,k2⟩:=D.tb.pl.first (by rw[D.sz];exact D.le) (iP prog w x);unfold setAddHashed setAddHashedIn;refine aan (Zh (abp ho hd D.fits ?_));dsimp only;rw[ZL (show¬(byScan (.ref c) (arr prog w xs)=true) from Zl)];have hM:t.mask<=2047:=by rcases D.tb.pl.ms with e|e|e|e|e<;>rw[e]<;>decide
 refine Zh (tK hu ho hd D (λy hy=>(T y hy).2) hx hK k1 k2 (λhm=>?_) (λhm=>?_) 100000 0 none (by unfold SetTable.turns at hK;omega) (aak _) rfl λl hl=>absurd hl (aah _))
 .refine Zq (h s.heap false (Heap.SameBut.refl a s.heap) ?_);unfold gu;rw[ZD (pm.mem_iff.mp hm)];exact⟨xs,pm,T,o,ep,t,ho,hex,hd,hl,dw,D⟩
 .have yM:x∉L:=λz=>hm (pm.mem_iff.mpr z);have hn:=hn yM;have ln:xs.length=L.length:=by rw[<-pm.length_eq,Zo]
  refine Zh (abp ho hd D.fits ?_);dsimp only;rw[Kb D.tb.pl.nd];dsimp only;rw[dw,ZD rfl];refine Zh (zg hx ?_);rw[ZD rfl];have Mq:=D.tb.put k1 k2 (HA D.tb.pl.ms _ _);generalize SetTable.below t.place (At t (iP prog w x) K)=p at Mq;have ea:SetTable.insertAt (arr prog w xs) p (iP prog w x,Value.ref c)=arr prog w (dm xs p (c,x)):=by
   apply aey.mp;rw[cE];exact(tM (QN prog w) xs p (c,x)).symm
  have eh:dm (xs.map λy=>iP prog w y.2) p (iP prog w x)=(dm xs p (c,x)).map λy=>iP prog w y.2:=(tM _ xs p (c,x)).symm;rw[eh]at Mq;have Xk:=zi xs p (c,x);have SY:((dm xs p (c,x)).map (·.2)).Perm (gu L x):=by
   unfold gu;rw[ZL yM];exact(Xk.map _).trans (by rw[Z3];exact pm.append_right _)
  have U5:((dm xs p (c,x)).map (·.2)).Nodup :=SY.nodup_iff.mpr (mM (pm.nodup_iff.mp D.nd));have l1:(dm xs p (c,x)).length =xs.length+1:=gy;rw[ea,c8];refine Zh (wpAny_storeSet_of ho hd ?_ (by rw[c8,l1,sizeLine_eq];omega));have sb:=aaK s.heap a (Obj.putSet (arr prog w (dm xs p (c,x))) {t with place:=SetTable.insertAt t.place p (At t (iP prog w x) K),plain:=true});have T1:∀{h':Heap},Heap.SameBut a s.heap h'->∀y∈dm xs p (c,x),B y.1/\IsT prog w h' y.2 y.1:=λ{h'} sb y hy=>by
   rcases jA.mp hy with rfl|hy
   .exact⟨hc,tL hx ho hd sb⟩
   .exact⟨(T y hy).1,tL (T y hy).2 ho hd sb⟩
  rw[dw]at Mq;have fill:({t with place:=SetTable.insertAt t.place p (At t (iP prog w x) K),plain:=true}:SetTable).fill =xs.length+1:=by
   have:=Mq.sz;unfold SetTable.fill;show _+t.dummies.size=_;rw[this,D.tb.pl.nd,Zo,l1];rfl
  have fl:=D.fl;refine aae (λz=>?_) (λz=>?_)
  .have HB:t.mask*3<=(xs.length+1)*5:=by
    have z:({t with place:=SetTable.insertAt t.place p (At t (iP prog w x) K),plain:=true}:SetTable).tooFull =true:=z;unfold SetTable.tooFull at z;rw[fill]at z;exact of_decide_eq_true z
   rw[<-l1]at HB⊢;refine Zh (Ol (qX ho hd) hex rfl rfl Mq ?_ U5 HB ?_ ?_ λh' Om U6 U7 S'=>Zq (h h' true (sb.trans U6) ⟨Om,(U7.map _).trans SY,λy hy=>T1 (sb.trans U6) y (U7.mem_iff.mp hy),hl▸S'⟩))
   .rw[l1];show xs.length+1<=t.mask;rcases D.tb.pl.ms with e|e|e|e|e<;>rw[e]at fl⊢ <;> omega
   .rw[l1];exact fl
   .rw[l1];omega
  .refine Zq (h _ true sb ⟨_,SY,T1 sb,_,_,_,qX ho hd,hex,rfl,hl,rfl,Mq,?_,U5⟩);rw[l1];show(xs.length+1)*5<t.mask*3;refine Nat.lt_of_not_le λq=>z ?_;show({t with place:=SetTable.insertAt t.place p (At t (iP prog w x) K),plain:=true}:SetTable).tooFull =true;unfold SetTable.tooFull;rw[fill];exact decide_eq_true q
end
def BC(l:List aa2)(x:List Int):ji (l++[x])=gu (ji l) x:=by
 unfold ji;rw[aem];rfl
def BD:y∈gu L x↔y∈L\/y=x:=by
 unfold gu;split
 .rename_i h;exact⟨.inl,λz=>z.elim id λe=>e▸h⟩
 .rw[ZI,Zp]
theorem tN:∀{l L:List aa2}{y:List Int},y∈l.foldl gu L↔y∈L\/y∈l
 |[],L,y=>⟨.inl,λz=>z.elim id λz=>nomatch z⟩
 |x::l,L,y=>by
  rw[adM,tN,BD,ZC,or_assoc]
def qY:y∈ji l↔y∈l:=tN.trans ⟨λz=>z.elim (λz=>nomatch z) id,.inr⟩
def Fc(L:List aa2)(x:List Int):L.length<=(gu L x).length :=by
 unfold gu;split
 .exact Zu _
 .rw[Zw];exact aai _ _
theorem wX:∀(l L:List aa2),L.length<=(l.foldl gu L).length
 |[],L=>Zu _
 |x::l,L=>by
  rw[adM];exact Zr (Fc L x) (wX l _)
def BE(h:i<n)(hv:v i∉ji ((List.range i).map v)):(ji ((List.range i).map v)).length<(ji ((List.range n).map v)).length :=by
 have e:(List.range n).map v=((List.range i).map v++[v i])++((List.range n).map v).drop (i+1):=by
  conv=>lhs;rw[<-aaL (i+1) ((List.range n).map v)]
  rw[<-acz,List.take_range,acm h,List.range_succ,Z3];rfl
 rw[e];unfold ji at hv⊢;rw[aem];refine Zn ?_ (wX _ _);rw[aem];show _<(gu _ (v i)).length;unfold gu at hv⊢;rw[ZL hv,Zw];exact aaN _
theorem mN:∀{l L:List aa2},L.Nodup->(l.foldl gu L).Nodup
 |[],_,h=>h
 |_::l,_,h=>mN (l:=l) (mM h)
def zk(l:List aa2):(ji l).Nodup :=mN adl
section
variable {prog:Program}{w:World}{B:Addr->Prop}{A:Around}{E:Value->Shared->Prop}{s:Shared}{a c:Addr}{x:List Int}{L:List aa2}{b:Bool}{h h':Heap}
def mO(hk:IsT prog w h k c)(hs:∀o,h.get? c=some o->h'.get? c=some o):IsT prog w h' k c:=by
 obtain⟨o',items,n,h1,h2⟩:=hk;exact⟨o',items,n,hs _ h1,h2⟩
def jC.keep(hB:∀c,B c->c<a)(hS:jC prog w b a B L h)(k:∀c o,c<=a->h.get? c=some o->h'.get? c=some o):jC prog w b a B L h':=by
 obtain⟨xs,pm,T,o,ep,t,ho,q⟩:=hS;exact⟨xs,pm,λx hx=>⟨(T x hx).1,mO (T x hx).2 λo z=>k x.1 o (ZP (hB _ (T x hx).1)) z⟩,o,ep,t,k a o (Zu _) ho,q⟩
section
variable {R:Result->Shared->Prop}{I S:Addr}{fp wr:List Addr}{G:Array GenState->Array GenState->Prop}{n:Nat}{P:Nat->Value->Prop}{St:Nat->Shared->Prop}{val:Nat->List Int}
def zl(W:WalksS prog w A.in1 I fp wr G n P St)(U8:S∉fp)(hw:∀b∈wr,S<b)(hu:A.in1.units<cLine)(hn:(ji ((List.range n).map val)).length <=720)(hB:∀c,B c->c<S)(u7:∀i v,i<n->P i v->∃c,v= .ref c/\B c):∀(m i:Nat) (s:Shared),n-i=m->i<=n->St i s->
  (∀i c,i<n->P i (.ref c)->IsT prog w s.heap (val i) c)->jC prog w b S B (ji ((List.range i).map val)) s.heap->(∀s',Moved (S::wr) G s s'->jC prog w b S B (ji ((List.range n).map val)) s'.heap->R (.ok (.ret .none)) s')->
  codeAny aa3 A (.builtin "set.update.loop" ⟨[.ref S,.ref I],[]⟩) R s:=by
 have nw:S∉wr:=λz=>U8 (W.sub _ z);have lw:∀c,c<=S->c∉wr:=λc hc z=>abJ hc (hw c z);have sub:∀b∈wr,b∈S::wr:=λb z=>Zm _ z;intro m;induction m with
 |zero=>
  intro i s hm hi st T hS hR;have e:i=n:=by omega
  subst e;refine abt F.entry_set_update_loop ?_;rw[abP acV _];refine Zh (m:=pyNext (.ref I)) (W.done s _ _ st λs' mv=>Zq (hR s' (mv.mono sub) (hS.keep hB λc o hc z=>mv.heap c o (lw c hc) z)))
 |succ m ih=>
  intro i s hm hi st T hS hR;have lt:i<n:=by omega
  refine abt F.entry_set_update_loop ?_;rw[abP acV _];refine Zh (m:=pyNext (.ref I)) (W.item i s _ _ lt st λv s' hP au mv=>?_);obtain⟨c,rfl,hc⟩:=u7 i v lt hP;have T':∀i c,i<n->P i (.ref c)->IsT prog w s'.heap (val i) c:=λi c hi hp=>by
   obtain⟨c',e,kM⟩:=u7 i _ hi hp;cases e;exact mO (T i c hi hp) λo z=>mv.heap c o (lw c (ZP (hB c kM))) z
  show wpAny _ A.in1 (holding [Value.ref c] (setAdd S (.ref c)) >>= _) _ _ s';refine Zh (aan ?_);unfold setAdd;refine aan (Zh ((tupleKind (intKind prog w)).pyHash (k:=val i) hu (T' i c lt hP) ?_));have A8:jC prog w b S B (ji ((List.range i).map val)) s'.heap:=hS.keep hB λc o hc z=>mv.heap c o (lw c hc) z;refine BB (s:={s' with toks:=s'.toks+(tupleKind (intKind prog w)).draws (val i)}) hu A8 (T' i c lt hP) hc (λz=>Zn (BE lt z) hn) λh' r sb mI=>?_;refine Zq ⟨plainId_quiet acV _,ih (i+1) _ aa0 lt (W.frame _ s' _ _ au (aai _ _) λb hb o e=>?_) (λi c hi hp=>?_) ?_ λs2 Xl i6=>?_⟩
  .rw[sb.2 b λz=>U8 (z▸hb)];exact e
  .obtain⟨c',e,kM⟩:=u7 i _ hi hp;cases e;exact mO (T' i c hi hp) λo z=>by rw[sb.2 c (ZT (hB c kM))];exact z
  .rw[List.range_succ,Z3];show jC prog w b S B (ji (_++[val i])) h';rw[BC];exact mI
  .refine hR s2 (Moved.trans W.gtrans ((mv.mono sub).then_heap (aai _ _) λb o hb e=>?_) Xl) i6;rw[sb.2 b λz=>hb (z▸Zt)];exact e
end
end
open PySem.W
section
variable {prog:Program}{w:World}{B:Addr->Prop}{A:Around}{E:Value->Shared->Prop}{s:Shared}{a c:Addr}
noncomputable abbrev qZ(w:World):Obj:={cls:= .type "set",dict:=none,data:= .set #[] 0 (.fresh 0 0 (!w.params.followText "set-order"))}
def Fe{u:Value}{Q:Value->Shared->Prop}(h:Q (.ref s.heap.objs.size) {s with heap:=s.heap.push (qZ w)}):codeAny aa3 A (.call (.builtin "set.__new__") ⟨[.type "set",u],[]⟩) (wants Q E) s:=by
 refine codeAny_of_tree ?_;show wpAny _ A.in1 (do checkBuiltinCall "set.__new__" ⟨[.type "set",u],[]⟩;again (.builtin "set.__new__" ⟨[.type "set",u],[]⟩)) _ _ s;refine Zh (aet (F.newCall_set_1 u) (Zq ⟨plainId_quiet F.plain_set_new _,abt F.entry_set_new ?_⟩));rw[abP F.plain_set_new _];unfold Builtin.«set.__new__» Builtin.Frozenset.newClass;have NQ:=sub_set_self;obtain⟨hp,g,d,tk,os⟩:=s;dsimp only;wp_walk;refine acF (Zq ?_);dsimp only;simp only[newObj];exact Zh (wpAny_alloc (Zq (Zq h)))
def zo{hp:Heap}(h:hp.get? a=some (qZ w)):jC prog w (!w.params.followText "set-order") a B [] hp:=by
 refine⟨[],.nil,(λx hx=>nomatch hx),_,0,_,h,⟨rfl,rfl,rfl⟩,rfl,rfl,rfl,⟨⟨rfl,λa b x y _ z=>?_,λi j z=>?_,.inl rfl⟩,rfl,(λx hx=>nomatch hx)⟩,show 0*5<7*3 by decide,adl⟩
 .have z:(#[]:Array Nat)[a]?=some x:=z;simp at z
 .have z:(#[]:Array Nat)[i]?=some j:=z;simp at z
def zp{l:Addr}{vs:List Value}{ks:List aa2}{Q:Value->Shared->Prop}(hh:A.handled=none)(hu:A.units+64<cLine)(hl:s.heap.IsList l vs.toArray)(hn:vs.length=ks.length)(h7:(ji ks).length <=720)
  (hi:∀(i:Nat) v,vs[i]?=some v->∃c,v= .ref c/\IsT prog w s.heap (ks.getD i []) c)
  (h:∀(h':Heap) (tk:Nat),jC prog w (!w.params.followText "set-order") s.heap.objs.size (λc=>Value.ref c∈vs) (ji ks) h'->ab2->Q (.ref s.heap.objs.size) {s with heap:=h',toks:=tk}):
  wpAny aa3 A (call (.type "set") [.ref l]) Q E s:=by
 obtain⟨c,tl,Xm⟩:=acr.mro;have U9:=acr.made;have NQ:=acr.sub;refine wpAny_call (codeAny_of_tree ?_);show wpAny _ _ (callAny (.type "set") _) _ _ _;refine Zq ⟨Code.quiet_builtin _ (by decide +kernel),abt F.entry_type_call ?_⟩;rw[Around.under_plain (weight_type_call_type "set" [.ref l] []) rfl];have h1:=acr.notType;have h2:=acr.canCreate;have Y8:=F.typeCall_set_1 (.ref l)
 repeat (any_goals (first|assumption|wp_step))
 refine adq (Fe (E:=E) (Q:=λobj s1=>obj= .ref s.heap.objs.size/\s1={s with heap:=s.heap.push (qZ w)}) ⟨rfl,rfl⟩) λr s1 hr=>?_;cases r with
 |error e=>exact hr
 |ok fl=>
  cases fl with
  |ret obj=>
   obtain⟨rfl,rfl⟩:=hr;have hS:(s.heap.push (qZ w)).get? s.heap.objs.size=some (qZ w):=ZF _ rfl;have hT:Shared.TypeIs {s with heap:=s.heap.push (qZ w)} (.ref s.heap.objs.size) "set":=⟨_,hS,rfl⟩;have Y9:=acr.init.lookup;have UN:=acr.init.bind (.ref s.heap.objs.size)
   repeat (any_goals (first|assumption|wp_step))
   refine adq (codeAny_call_builtin (R:=wants (λr s2=>r= .none /\∃h' tk,s2={s with heap:=h',toks:=tk}/\jC prog w (!w.params.followText "set-order") s.heap.objs.size (λc=>Value.ref c∈vs) (ji ks) h'/\∀b o,s.heap.get? b=some o->h'.get? b=some o) E) acr.init.plain F.entry_set_init (check_set_init_1 hT ?_)) λr2 s2 JR=>?_
   .obtain⟨ol,Me,U_,nl,Mf⟩:=hl;obtain⟨Xn,Oq,U',Kd⟩:=ol;simp only at U_ Mf;subst U_;subst Mf;have S0:(s.heap.push (qZ w)).get? l=some {cls:= .type "list",dict:=Oq,data:= .seq vs.toArray nl,slots:=Kd}:=Zi _ Me;have Xo:=F.sub_list_set;have Xp:=F.sub_list_frozenset;have d_:(Value.type "list" == Value.type "dict")=false:=by decide
    have Va:(s.heap.push (qZ w)).IsList l vs.toArray:=⟨_,S0,rfl,nl,rfl⟩;unfold Builtin.«set.__init__» noKeywords Builtin.Frozenset.updateFrom;generalize Xq:pyIter=PI;wp_walk;subst Xq;refine abS Va (Zh (wpAny_runValue ?_));have Y_:l<s.heap.objs.size:=ZG Me;have Xr:A.in1.in1.in1.handled=none:=by simp[hh]
    have z1:(s.heap.push (qZ w)).objs.size =s.heap.objs.size+1:=abf ..;have MQ:vs.toArray.size=ks.length:=by rw[ZA];exact hn
    have e0:(List.range vs.toArray.size).map (λi=>ks.getD i [])=ks:=by rw[MQ];exact range_getD ks []
    have BF:∀(i:Nat) v,vs.toArray[i]?=some v->∃c,v= .ref c/\(Value.ref c∈vs/\c<s.heap.objs.size)/\IsT prog w s.heap (ks.getD i []) c:=λi v hv=>by
     have hv:vs[i]?=some v:=by simpa using hv
     obtain⟨c,rfl,q⟩:=hi i v hv;exact⟨c,rfl,⟨aac hv,q.elim λo ⟨_,_,e,_⟩=>ZG e⟩,q⟩
    refine zl ((afq Xr _ l (by rw[z1];lia) vs.toArray).toS) (val:=λi=>ks.getD i []) (by
     rw[z1];simp only[ZC,adD,or_false,not_or];exact⟨by lia,by lia⟩) (λb hb=>by
     rw[z1]at hb;cases Zp.mp hb;exact aaN _) ?_ (by rw[e0];exact h7) (B:=λc=>Value.ref c∈vs) (λc hc=>?_) (λi v _ hv=>(BF i v hv).elim λc q=>⟨c,q.1,q.2.1.1⟩) _ 0 _ rfl (aak _) ⟨⟨_,ZF _ rfl,rfl,rfl⟩,Va.push _⟩ (λi c _ hp=>?_) (zo (Zi _ hS)) λs3 mv i6=>?_
    .show A.units+1+1+1<cLine;omega
    .obtain⟨i,gr⟩:=abd.mp hc;obtain⟨c',e,q,_⟩:=BF i _ (by simpa using gr);cases e;exact q.2
    .obtain⟨c',e,_,q⟩:=BF i _ hp;cases e;exact mO q λo z=>Zi _ (Zi _ z)
    .rw[e0]at i6;rw[Moved.eq_with mv];refine Zq (Zq ⟨rfl,_,_,rfl,i6,λb o e=>?_⟩);have lb:=ZG e;exact mv.heap b o (by rw[z1];simp only[ZC,adD,or_false,not_or];exact⟨by lia,by lia⟩) (Zi _ (Zi _ e))
   .cases r2 with
    |error e=>exact JR
    |ok Xs=>
     cases Xs with
     |ret r=>
      obtain⟨rfl,h',tk,rfl,A8,vn⟩:=JR
      repeat (any_goals (first|assumption|wp_step))
      exact h _ _ A8 vn
     |_=>exact JR.elim
  |_=>exact hr.elim
end
open L2
def lK:Slot "set_iterator" "__next__" "set_iterator.__next__":= .of (owner:="set_iterator") (n:="__next__") (by rw[typeLookup_type,builtinLookup_eq_fast];kernel_rfl) (by decide +kernel) (by decide +kernel) (by decide +kernel) (by first|exact .inl (by decide +kernel)|exact .inr (by decide +kernel)) (by rw[isSubtype_type];kernel_rfl)
def wY:Slot "set_iterator" "__iter__" "set_iterator.__iter__":= .of (owner:="set_iterator") (n:="__iter__") (by rw[typeLookup_type,builtinLookup_eq_fast];kernel_rfl) (by decide +kernel) (by decide +kernel) (by decide +kernel) (by first|exact .inl (by decide +kernel)|exact .inr (by decide +kernel)) (by rw[isSubtype_type];kernel_rfl)
def BG:entryFor table "set_iterator.__next__"=some Builtin.«set_iterator.__next__»:=entryFor_of_tree (by kernel_rfl)
def BH:entryFor table "set_iterator.__iter__"=some Builtin.«dict_keyiterator.__iter__»:=entryFor_alias (id':="dict_keyiterator.__iter__") (by kernel_rfl) rfl (by decide +kernel) (by kernel_rfl)
def zq:entryFor table "set.__iter__"=some Builtin.«frozenset.__iter__»:=entryFor_alias (id':="frozenset.__iter__") (by kernel_rfl) rfl (by decide +kernel) (by kernel_rfl)
def BI(v:Value):argsOk "set_iterator.__next__" ⟨[v],[]⟩:=by unfold argsOk;kernel_rfl
def BJ(v:Value):argsOk "set_iterator.__iter__" ⟨[v],[]⟩:=by unfold argsOk;kernel_rfl
noncomputable def mP(w:World)(d:Addr)(ep:Nat)(es:Array (Int×Value)):Array (Int×Value):=if w.params.followText "set-order" then pickOrder (w.params.setOrder d ep) es else es
theorem mQ:∀(l:List α) (i:Nat) (h:i<l.length),(l[i]::l.eraseIdx i).Perm l
 |x::l,0,_=> .refl _
 |x::l,i+1,h=>(List.Perm.swap x _ _).trans ((mQ l i (by simpa using h)).cons x)
theorem wZ(f:Nat->Nat):∀(n k:Nat) (l:List α) (out:Array α),l.length=n->(pickOrder.go f n k l out).toList.Perm (out.toList++l)
 |0,k,l,out,h=>by
  rw[aev.mp h,aaf];exact .refl _
 |n+1,k,l,out,h=>by
  have aU:f k%l.length<l.length:=acy _ (by lia);rw[pickOrder.go,Zj aU];refine(wZ f n (k+1) _ _ (by rw[adQ aU];lia)).trans ?_;rw[abC,ZW];exact abL _ (mQ l _ aU)
def mR(w:World)(d:Addr)(ep:Nat)(es:Array (Int×Value)):(mP w d ep es).toList.Perm es.toList:=by
 unfold mP;split
 .exact wZ _ _ _ _ _ (ZQ ..)
 .exact .refl _
noncomputable def w4(b:Bool)(pl:Array Nat)(i:Nat):Nat:=if b then 0 else if i=0 then 0 else pl.getD (i-1) 0+1
def Ff{xs:Array Nat}{j i i':Nat}(h:QM xs j i)(h':QM xs j i'):i=i':=by
 rcases abo i i' with z|z|z
 .have hi:i<xs.size:=Zn z h'.1;have e:=ZK hi;exact absurd (h'.2.1 i _ z e) (abJ (h.2.2 i _ (Zu _) e))
 .exact z
 .have hi:i'<xs.size:=Zn z h.1;have e:=ZK hi;exact absurd (h.2.1 i' _ z e) (abJ (h'.2.2 i' _ (Zu _) e))
def BK{xs:Array Nat}(hr:E4 xs){i:Nat}(hi:i<=xs.size):SetTable.below xs (w4 false xs i)=i:=by
 refine Ff (kh hr _) ⟨hi,λk x hk e=>?_,λk x hk e=>?_⟩
 .have h0:i≠0:=by omega
  have hl:i-1<xs.size:=by omega
  have e1:=ZK hl;show x<(if i=0 then 0 else xs.getD (i-1) 0+1);rw[ZL h0,show xs.getD (i-1) 0=xs[i-1] from by unfold Array.getD;rw[dif_pos hl];rfl];rcases ack (show k<=i-1 by omega)with z|z
  .exact abc (hr _ _ _ _ z e e1)
  .subst z;rw[e1]at e;cases e;exact aaN _
 .show(if i=0 then 0 else xs.getD (i-1) 0+1)<=x;split
  .exact aak _
  .have hl:i-1<xs.size:=by omega
   rw[show xs.getD (i-1) 0=xs[i-1] from by unfold Array.getD;rw[dif_pos hl];rfl];exact hr (i-1) k _ _ aa0 (ZK hl) e
structure Wk(w:World)(t:SetTable)(es:Array (Int×Value)):Prop where
 led:t.led=!w.params.followText "set-order"
 Xt:t.plain=true
 Y':E4 t.place
 sz:t.place.size=es.size
 fit:t.fits es.size=true
section
variable {prog:Program}{w:World}{A:Around}{E:Value->Shared->Prop}{s:Shared}{d it:Addr}{t:SetTable}{o:Obj}{es:Array (Int×Value)}{ep i:Nat}
def Ke{Q:Option (Value×Nat)->Shared->Prop}(ho:s.heap.get? d=some o)(hd:o.data= .set es ep t)(W:Wk w t es)(hi:i<=es.size)
  (h:Q (((mP w d ep es)[i]?).map λe=>(e.2,w4 (w.params.followText "set-order") t.place (i+1))) s):wpAny aa3 A (setNext d (w4 (w.params.followText "set-order") t.place i) i ep) Q E s:=by
 obtain⟨l1,l2,l3,l4,hf⟩:=W;unfold setNext;refine Zh (abp ho hd hf ?_);dsimp only;unfold setsByText;refine Zh (Zh (acF (Zq ?_)));unfold mP at h;cases hb:w.params.followText "set-order" with
 |true=>
  rw[hb,ZD rfl]at h;refine aae (λ_=>?_) (λz=>absurd hb z);refine aae (λz=>absurd z aa9) (λ_=>?_);unfold setWalk setsByText;refine Zh (Zh (abp ho hd hf (Zh (Zh (acF (Zq ?_))))));refine aae (λ_=>Zh (acF (Zq (Zq ?_)))) (λz=>absurd hb z);exact h
 |false=>
  rw[hb,ZL Zl]at h;rw[hb]at l1;have Xu:SetTable.below t.place (w4 false t.place i)=i:=BK l3 (by rw[l4];exact hi);obtain⟨mask,place,dummies,finger,led,moves,plain⟩:=t;have l1:led=true:=l1;have l2:plain=true:=l2;subst l1 l2;refine aae (λz=>absurd (hb.symm.trans z) Zl) (λ_=>?_);refine aae (λz=>absurd z Zl) (λ_=>?_);refine Zh (aae (λz=>absurd z Zl) (λ_=>Zq ?_));rw[Xu];rcases aap i es.size with z|z
  .have h1:es[i]?=some es[i]:=ZK _;have hp:i<place.size:=by rw[show place.size=es.size from l4];exact z
   have h2:place[i]?=some place[i]:=ZK _;rw[h1]at h⊢;rw[h2];have e:w4 false place (i+1)=place[i]+1:=by
    show(if i+1=0 then 0 else place.getD i 0+1)=_;rw[ZL (Nat.succ_ne_zero _)];unfold Array.getD;rw[dif_pos hp];rfl
   have h:Q (some (es[i].2,w4 false place (i+1))) s:=h;rw[e]at h;exact Zq h
  .have h1:es[i]?=none:=acg z;rw[h1]at h⊢;exact Zq h
noncomputable def BL(h:Heap)(it d:Addr)(sl i n ep:Nat):Prop:=∃o,h.get? it=some o/\o.cls= .type "set_iterator"/\o.data= .fields #[.int sl 0,.int i 0,.ref d,.int n 0,.int ep 0]
noncomputable abbrev Vb(d:Addr)(n ep:Nat):Obj:={cls:= .type "set_iterator",data:= .fields #[.int 0 0,.int 0 0,.ref d,.int n 0,.int ep 0]}
noncomputable def q4(d:Addr)(t:SetTable)(es:Array (Int×Value))(ep:Nat)(h:Heap):Prop:=∃o,h.get? d=some o/\o.ExactSet/\o.data= .set es ep t
def q4.keep(h:q4 d t es ep hp)(k:∀o,hp.get? d=some o->Hn.get? d=some o):q4 d t es ep Hn:=let ⟨o,a,b⟩:=h;⟨o,k o a,b⟩
def q4.ty(h:q4 d t es ep s.heap):s.TypeIs (.ref d) "set":=let ⟨o,a,b,_⟩:=h;⟨o,a,b.1⟩
def Kf(r:q4 d t es ep s.heap)(w6:Wk w t es)(h:Q (.ref s.heap.objs.size) {s with heap:=s.heap.push (Vb d es.size ep)}):wpAny aa3 A (pyIter (.ref d)) Q E s:=by
 have T:=r.ty;obtain⟨o,ho,hex,hd⟩:=r;have hf:=w6.fit;refine aei T F.slot_set_iter (aaw F.slot_set_iter T zq ?_ (F.args_set_iter_1 _));unfold Builtin.«frozenset.__iter__»;refine Zh (m:=Builtin.Frozenset.slot0 "__iter__" _) (Zq (a:=d) ?_);refine Zh (Zh (wpAny_setEntries_of ho hd hf (Zq ?_)));unfold setDrawn setsByText;refine Zh (Zh (abp ho hd hf (Zh (Zh (acF (Zq (Zq ?_)))))));extract_lets jp;refine aae (λz=>?_) (λ_=>?_)
 .have l1:=w6.led;have l2:=w6.Xt;cases hb:w.params.followText "set-order" with
  |true=>
   have z1:(!w.params.followText "set-order")=true:=(aaU.mp z).1;rw[hb]at z1;cases z1
  |false=>
   rw[hb]at l1;obtain⟨mask,place,dummies,finger,led,moves,plain⟩:=t;have l1:led=true:=l1;have l2:plain=true:=l2;subst l1 l2;exact absurd (aaU.mp z).2 Zl
 .refine Zh (Zq ?_);refine Zh (m:=setEpoch d) (wpAny_setEpoch_of ho hd hf (Zh (aaj (Zq ⟨_,rfl,"set_iterator",_,⟨_,ZF _ rfl,rfl⟩,lK.lookup,?_⟩))));simpa[rawInt]using h
def mT:(mP w d ep es).size =es.size:=by rw[<-ZQ,(mR w d ep es).length_eq,ZQ]
def Ot(hh:A.handled=none)(k:BL s.heap it d (w4 (w.params.followText "set-order") t.place i) i es.size ep)(r:q4 d t es ep s.heap)(w6:Wk w t es)(hi:i<=es.size)
  (h:∀e,(mP w d ep es)[i]?=some e->∀h',BL h' it d (w4 (w.params.followText "set-order") t.place (i+1)) (i+1) es.size ep->Heap.SameBut it s.heap h'->Q (some e.2) {s with heap:=h'})
  (h2:(mP w d ep es)[i]?=none->∀h',Heap.ExtBut it s.heap h'->Q none {s with heap:=h'}):wpAny aa3 A (pyNext (.ref it)) Q E s:=by
 obtain⟨oi,ei,ci,di⟩:=k;have T:s.TypeIs (.ref it) "set_iterator":=⟨oi,ei,ci⟩;obtain⟨o,ho,hex,hd⟩:=r;have hf:=w6.fit;unfold pyNext;refine Zh (aeu (aaR (name:=Str.ofString "__next__") T lK (aaw lK T BG ?_ (BI _))));unfold Builtin.«set_iterator.__next__»;refine Zh (m:=slotArgs "__next__" 0 _) (Zq (a:=(Value.ref it,[])) ?_);refine Zh (adm ei di ?_);show wpAny _ _ (setEntries d >>= λ_=>_) _ _ s;refine Zh (wpAny_setEntries_of ho hd hf ?_);extract_lets jp;refine aae (λz=>absurd z aa9) (λ_=>?_);show wpAny _ _ (setNext d ((w4 (w.params.followText "set-order") t.place i:Nat):Int).toNat ((i:Nat):Int).toNat ((ep:Nat):Int).toNat >>= λ_=>_) _ _ s;simp only[aaE];refine Zh (Ke ho hd w6 hi ?_);cases he:(mP w d ep es)[i]? with
 |some e=>
  show wpAny _ _ (setField (.ref it) 0 (rawInt (w4 (w.params.followText "set-order") t.place (i+1):Nat)) >>= λ_=>_) _ _ s;refine Zh (abN ei di aa9 ?_);have e1:=aaJ (Obj.mapFields (·.setIfInBounds 0 (rawInt (w4 (w.params.followText "set-order") t.place (i+1):Nat)))) ei (acp (abg di _));have d1:=abg di (·.setIfInBounds 0 (rawInt (w4 (w.params.followText "set-order") t.place (i+1):Nat)));refine Zh (abN e1 d1 aa9 (Zq ⟨_,rfl,Zq (h e he _ ⟨_,aaJ _ e1 (acp (abg d1 _)),?_,?_⟩ ((aaK ..).trans (aaK ..)))⟩))
  .exact(adi ..).trans ((adi ..).trans ci)
  .rw[abg d1];simp[rawInt]
 |none=>
  show wpAny _ _ (setField (.ref it) 2 .none >>= λ_=>_) _ _ s;refine Zh (abN ei di aa9 ?_);show wpAny _ _ (newExc (.type "StopIteration") [] >>= λ_=>_) _ _ _;refine Zh ?_;simp only[newExc,newTuple];refine Zh (aaj (Zh (m:=firstArgMember _ _) (aet (a:=Value.none) (by first|rfl|(simp only[firstArgMember];rfl)) (aaj ?_ (by size_fits)))) (by size_fits));simp only[raiseNew];refine Zh (wpAny_handled ?_);rw[show A.in1.handled=none from hh];refine Zh (Zq (wpAny_throw ?_));refine Zh (aeA (T:="StopIteration") (b:=true) ⟨_,ZF _ rfl,rfl⟩ isSubtype_stop ?_);exact Zq (h2 he _ (((aaK ..).extBut.push _).push _))
def Fg(hh:A.handled=none)(it d:Addr)(d_:d≠it)(w6:Wk w t es)(ep:Nat):Walks prog w A it [it,d] [it] es.size (λi v=>∃e,(mP w d ep es)[i]?=some e/\v=e.2) (λi h=>BL h it d (w4 (w.params.followText "set-order") t.place i) i es.size ep/\q4 d t es ep h) where
 sub:=λb hb=>by simp at hb;simp[hb]
 frame:=λi h h' ⟨⟨o,a,b⟩,r⟩ k=>⟨⟨o,k it aa9 o a,b⟩,r.keep λo e=>k d aa9 o e⟩
 item:=λi s Q E hi ⟨k,r⟩ h=>Ot hh k r w6 (ZP hi) (λe he h' k' sb=>h _ h' s.toks ⟨_,he,rfl⟩ ⟨k',r.keep λo e=>(sb.2 d d_).trans e⟩ λb o nb e=>(sb.2 b (by simpa using nb)).trans e) λhe=>absurd hi (Nat.not_lt.mpr (by rw[<-mT (w:=w) (d:=d) (ep:=ep)];exact Array.getElem?_eq_none_iff.mp he))
 done:=λs Q E ⟨k,r⟩ h=>Ot hh k r w6 (Zu _) (λe he=>absurd (aaT.mp he).1 (by rw[mT];exact aam _)) λ_ h' ex=>h h' s.toks λb o nb e=>ex b o (by simpa using nb) e
 self:=λi s Q E ⟨⟨o,a,b,c⟩,r⟩ h=>by
  have T:s.TypeIs (.ref it) "set_iterator":=⟨o,a,b⟩;refine aei T wY (aaw wY T BH ?_ (BJ _));show wpAny _ _ (ret (.ref it)) _ _ s;exact Zq ⟨_,rfl,"set_iterator",_,T,lK.lookup,h⟩
def Kg(hT:s.TypeIs (.ref d) "set")(h:Q false s):wpAny aa3 A (Builtin.List.listLengthHint (.ref d)) Q E s:=by
 unfold Builtin.List.listLengthHint;refine Zh (adJ hT PySem.F.slot_set_len.lookup ?_);generalize Vc:("set.__len__":String)=Xv;wp_delta;rw[show splitId Xv=some ("set","__len__") from by subst Vc;decide +kernel];subst Vc;refine Zh (aeA (T:="set") (b:=true) hT sub_set_self ?_);refine aae (λz=>absurd z aa1) (λ_=>?_);refine aae (λ_=>?_) (λz=>absurd (by decide +kernel) z);exact Zh (ads hT (Zq h))
def Ou(w6:Wk w t es):KdlSrc prog w "set" d d es.size (λi v=>∃e,(mP w d ep es)[i]?=some e/\v=e.2) (q4 d t es ep) where
 type:=λ_ r=>r.ty
 there:=λ_ r=>let ⟨o,a,_⟩:=r;⟨ZG a,ZG a⟩
 keep:=λ_ _ r k=>r.keep λo e=>k d (.inl rfl) o e
 notList:=by decide
 notTuple:=by decide
 hint:=λ_ _ _ _ r hq=>Kg r.ty hq
 iter:=λA s hh r=>⟨Vb d es.size ep,_,λ_ _ hq=>Kf r w6 hq,Fg hh _ d (let ⟨o,a,_⟩:=r;ZT (ZG a)) w6 ep,
  ⟨⟨_,ZF _ rfl,rfl,by unfold w4;cases w.params.followText "set-order" <;> rfl⟩,r.keep λo e=>Zi _ e⟩⟩
end
open bJ
section
variable {prog:Program}{w:World}{B:Addr->Prop}{A:Around}{E:Value->Shared->Prop}{s:Shared}{d it:Addr}{t:SetTable}{o:Obj}{es:Array (Int×Value)}{ep i:Nat}{L:List aa2}{h:Heap}{k:List Int}{c:Addr}
def mU(h:ItemsAre (intKind prog w) ks vs):IntsAre vs ks:=by
 induction h with
 |nil=>exact .nil
 |@cons k v ks vs h1 _ ih=>
  have h1:(intKind prog w).is k v=true:=h1;cases v with
  |int j t=>
   cases (intKind prog w).inj _ _ _ h1 (intKind_is _ _ _ _);exact .cons _ _ ih
  |_=>cases h1
def zu(hk:IsT prog w h k c):TupIs h (.ref c) k:=by
 obtain⟨o,items,n,h1,h2,h3,h4⟩:=hk;exact⟨c,o,items.toList,n,rfl,h1,h2,by simpa using h3,mU h4⟩
def BM(hk:IsT prog w h k c)(hn:k≠[]):iS h (.ref c):=by
 obtain⟨o,items,n,h1,h2,h3,h4⟩:=hk;cases k with
 |nil=>exact absurd rfl hn
 |cons i r=>exact⟨c,o,items.toList,n,i,r,rfl,h1,h2,by simpa using h3,mU h4⟩
def zw(hh:A.handled=none)(hS:jC prog w (!w.params.followText "set-order") d B L s.heap)(Xw:L.length<=720)(d_:∀k∈L,k≠[])
  (h:∀(h1 h':Heap) (tk c:Nat) (vs:List Value),(∀b o',s.heap.get? b=some o'->h1.get? b=some o')->(∀b o',h1.get? b=some o'->h'.get? b=some o')->h'.get? h1.objs.size=some {cls:= .type "list",data:= .seq vs.toArray c}->
   vs.map (br s.heap)=aV L->(∀v∈vs,∃c k,v= .ref c/\B c/\IsT prog w s.heap k c)->Q (.ref h1.objs.size) {s with heap:=h',toks:=tk}):
  wpAny aa3 A (call (.builtin "sorted") [.ref d]) Q E s:=by
 obtain⟨xs,pm,T,o,ep,t,ho,hex,hd,hl,dw,D⟩:=hS;have Xx:xs.length=L.length:=by rw[<-pm.length_eq,Zo]
 have hsz:(arr prog w xs).size <=720:=by rw[c8,Xx];exact Xw
 have w6:Wk w t (arr prog w xs):=⟨hl,dw,D.tb.pl.ri,by rw[c8];exact D.sz,D.fits⟩;refine abO kind_sorted plain_sorted entry_sorted (args_sorted1 _) ?_;unfold Builtin.«sorted»;refine Zh (m:=checkCount "sorted" 1 1 _) (Zq (Zh (kdu_collect (A:=A.in1) (Ou w6) hh ⟨o,ho,hex,hd⟩ (by rw[sizeLine_eq];omega) λh1 tk acc k1 ia=>?_)));have aL:acc.toList.length=(arr prog w xs).size :=by rw[ZQ];exact ia.1
 have eq:acc.toList=(mP w d ep (arr prog w xs)).toList.map (·.2):=by
  apply aaG;intro j;rcases aap j (arr prog w xs).size with z|z
  .have hj:j<acc.size:=by rw[ia.1];exact z
   obtain⟨e,e1,e2⟩:=ia.2 j acc[j] (ZK hj);rw[ZY,ZK hj,Zz,ZY,e1,e2];rfl
  .rw[ZR (by rw[ZQ,ia.1];exact z),ZR (by rw[Zo,ZQ,mT];exact z)]
 have hm:∀v∈acc.toList,∃x∈xs,v= .ref x.1:=λv m=>by
  rw[eq]at m;obtain⟨e,e1,rfl⟩:=Zv.mp m;obtain⟨x,hx,rfl⟩:=Zv.mp ((mR w d ep (arr prog w xs)).mem_iff.mp e1);exact⟨x,hx,rfl⟩
 have ht:∀v∈acc.toList,iS s.heap v:=λv m=>by
  obtain⟨x,hx,rfl⟩:=hm v m;exact BM (T x hx).2 (d_ _ (pm.mem_iff.mp (Zv.mpr ⟨x,hx,rfl⟩)))
 have kp:∀b o,s.heap.get? b=some o->(h1.push (seqObj "list" acc.toList.toArray 0)).get? b=some o:=λb o e=>Zi _ (k1 b o e);refine Zh (adG ?_ (by rw[aL,sizeLine_eq];omega));have yx:(h1.push (seqObj "list" acc.toList.toArray 0)).get? h1.objs.size=some (seqObj "list" acc.toList.toArray 0):=ZF _ rfl;refine Zh (aan (aaw slot_list_sort ⟨_,yx,rfl⟩ entry_list_sort (bJ.qK (s:={s with heap:=h1.push (seqObj "list" acc.toList.toArray 0),toks:=tk}) yx (λv m=>?_) (by rw[aL,sizeLine_eq];omega) λout hp vk=>⟨_,rfl,Zq ⟨_,rfl,?_⟩⟩) (args_list_sort _)))
 .obtain⟨x,o,xs,n,i,rr,g0,g1,g2⟩:=ht v m;exact⟨x,o,xs,n,i,rr,g0,kp x o g1,g2⟩
 .have u1:=get?_update_seq yx (λ_=>#[]);have u2:=Zi (seqObj "tuple" acc.toList.toArray 0) u1;have u3:=Zi (seqObj "list" #[] 0) u2;have u4:=get?_update_seq u3 (λ_=>out.toArray);have so:out.Pairwise (λx y=>bC (br s.heap y) (br s.heap x)=false):=vk.imp_of_mem λ{x y} mx my uC=>by
   have e1:=fc (ht x (hp.mem_iff.mp mx)) kp;have e2:=fc (ht y (hp.mem_iff.mp my)) kp;rw[<-e1,<-e2];exact uC
  have Xy:((arr prog w xs).toList.map (·.2)).map (br s.heap)=xs.map (·.2):=by
   show(((xs.map (QN prog w))).map (·.2)).map _=_;rw[Z5,Z5];exact abH λx hx=>cq (zu (T x hx).2)
  have pr:(out.map (br s.heap)).Perm L:=by
   refine(hp.map _).trans ?_;rw[eq];refine(((mR w d ep (arr prog w xs)).map (·.2)).map (br s.heap)).trans ?_;rw[Xy];exact pm
  refine h h1 _ tk _ out k1 (λb o e=>?_) u4 (jx pr (aal.mpr so)) λv hv=>?_
  .have hb:b≠h1.objs.size:=ZT (ZG e);unfold sortedHeap;rw[Z0 _ _ (aay hb)];refine Zi _ (Zi _ ?_);rw[Z0 _ _ (aay hb)];exact Zi _ e
  .obtain⟨x,hx,e⟩:=hm v (hp.mem_iff.mp hv);exact⟨x.1,x.2,e,T x hx⟩
end
noncomputable abbrev Kh(prog:Program)(w:World)(a:Addr)(xs:List (Addr×List Int)):HO:= .ext (Bz prog w (!w.params.followText "set-order") a xs)
def BN{prog:Program}{w:World}{vs:List Value}{k:List Int}(h:IntsAre vs k):ItemsAre (intKind prog w) k vs:=by
 induction h with
 |nil=>exact .nil
 |cons n t _ ih=>exact .cons (intKind_is _ _ _ _) ih
section
variable {X:Cx}{U:List ab0}{σ:L2.St}{H:Hp}{s:Shared}{c:Addr}{k:List Int}
def vt(I:aa5)(h:cT X.K H c (k.map V.int)):IsT X.prog X.w s.heap k c:=by
 obtain⟨its,rv,⟨o,ho,hc,n,hd⟩,_⟩:=I.tuple h;exact⟨o,its.toArray,n,ho,hc,hd,by simpa using BN (intsAre_of rv)⟩
def vw(hc:X.calm=true)(hu:X.A.units+64<cLine):cC X (.type "set") (λxs H Q=>∃(p:Addr) (us:List V) (ks:List aa2),xs=[.ref p]/\cZ X.K H p us/\Paired (TupAt H) us ks/\(ji ks).length <=720/\
  ∀(l:Addr) (ys:List (Addr×List Int)),H l=none->(ys.map (·.2)).Perm (ji ks)->(∀y∈ys,H y.1=some (.tup (y.2.map V.int)))->Q (.ref l) (upd H l (Kh X.prog X.w l ys))):=by
 intro U s σ H xs us Q I r zz;obtain⟨p,us,ks,rfl,hq,pd,h7,q⟩:=zz;obtain⟨u,rfl,ru⟩:=vals1 r;cases ru;obtain⟨its,rv,pl,hz⟩:=I.list hq;have at':=dO pd rv;refine zp (vs:=its) (ks:=ks) (I.ok.hd hc) hu pl.isList (by rw[<-rv.length,pd.length]) h7 (λi v hv=>?_) λh' tk hS k=>?_
 .obtain⟨b,_,e,_,_,e4⟩:=at' i v hv;exact⟨b,e,vt I (cT.of e4)⟩
 .obtain⟨ys,pm,T,S⟩:=hS;refine⟨.ref s.heap.objs.size,_,I.laid (t':=tk) (a:=s.heap.objs.size) k (Zu _) (show aT X.prog X.w _ h' _ (Kh X.prog X.w _ ys) from⟨S,let ⟨o,_,_,ho,_⟩:=S;⟨o,ho⟩,λh1 h2 z kk=>let ⟨o,ep,t,ho,r⟩:=z;⟨o,ep,t,kk o ho,r⟩⟩),rfl,q _ ys I.fresh pm λy hy=>?_⟩;obtain⟨b1,b2⟩:=T y hy;obtain⟨i,hi⟩:=abd.mp b1;obtain⟨b,_,e,_,_,e4⟩:=at' i _ hi;cases e;rw[b2.inj (mO (vt I (cT.of e4)) λo z=>k _ o z)];exact e4
def tP(hc:X.calm=true):cC X (.builtin "sorted") (λxs H Q=>∃(p:Addr) (ys:List (Addr×List Int)),xs=[.ref p]/\H p=some (Kh X.prog X.w p ys)/\ys.length<=720/\(∀y∈ys,y.2≠[]/\H y.1=some (.tup (y.2.map V.int)))/\
  ∀(l:Addr) (us:List V),H l=none->Paired (TupAt H) us (aV (ys.map (·.2)))->Q (.ref l) (upd H l (.lst us))):=by
 intro U s σ H xs us Q I r zz;obtain⟨p,ys,rfl,hp,h7,hy,q⟩:=zz;obtain⟨u,rfl,ru⟩:=vals1 r;cases ru;have hS:jC X.prog X.w _ p (λc=>∃k:List Int,H c=some (.tup (k.map V.int))) (ys.map (·.2)) s.heap:=⟨ys,.refl _,λy m=>⟨⟨y.2,(hy y m).2⟩,vt I (cT.of (hy y m).2)⟩,(I.aX p _ hp).1⟩;refine zw (I.ok.hd hc) hS (by rw[Zo];exact h7) (λk m=>let ⟨y,m,e⟩:=Zv.mp m;e▸(hy y m).1) λh1 h' tk c vs k1 k2 e a1 a2=>?_;obtain⟨us,hv,aL,pd⟩:=lG I (vs:=vs) λv m=>let ⟨c,_,e,⟨k,hk⟩,_⟩:=a2 v m;⟨c,k,e,hk⟩;rw[a1]at pd;have I1:Inv X U σ H {s with heap:=h1,toks:=tk}:=I.kept (t':=tk) k1;exact⟨.ref h1.objs.size,_,I1.laid (t':=tk) k2 (Zu _) (show aT X.prog X.w _ h' _ (.lst us) from⟨by rw[pd.length,(bA _).length_eq,Zo,sizeLine_eq];omega,vs,c,hv,by simpa using e⟩),rfl,q _ us (I1.aX.fresh (Zu _)) pd⟩
end
end S2
namespace Py
open PySem PySem.Spec PyProof.Rows L2
abbrev St:=L2.St
def S1(K:aH)(a:Addr)(xs:List V):Prop:=
 ∃(o:Obj) (its:Array Value) (n:Nat),K.lookup a=some o/\o.cls= .type "list"/\o.dict=none/\o.data= .seq its n/\its.size<=sizeLine/\aF xs its.toList/\o.slots=#[]
noncomputable def gh(t:Nat)(ks:List aa2)(vs:List V):HO:=if t=0 then .dK ((ks.map λk=>Sum.inl (k.headD 0)).zip vs) else .dT ((ks.map λk=>k.map Sum.inl).zip vs)
def tQ:HO->Prop
 | .lst _=>True
 | .dK _=>True
 | .dT _=>True
 |_=>False
def nS{α:Type}{x:α}{P:Prop}(h:none=some x):P:=nomatch h
def slot{ρ:Env}{i:Nat}{P:Prop}(n:ρ[i]?=none->P)(m:ρ[i]?=some none->P)(k:∀o d,ρ[i]?=some (some (o,d))->P):P:=by
 cases e:ρ[i]? with
 |none=>exact n e
 |some o=>cases o with
  |none=>exact m e
  |some t=>exact k t.1 t.2 e
def kW:tQ (gh t ks vs):=by unfold gh;split<;>exact trivial
def mV(t:Nat)(ks:List aa2):Prop:=ks.Nodup/\(t=0->∀k∈ks,∃i,k=[i])
mutual
inductive bx(K:aH)(O:Addr->Prop)(H:Hp):V->D->Prop
 |cx:bx K O H .cx .cx
 |bl (b:Bool):bx K O H (.bl b) (.bl b)
 |int (i:Int):bx K O H (.int i) (.int i)
 |tup {a vs ds}:cT K H a vs->aq K O H vs ds->bx K O H (.ref a) (.tup ds)
 |lst {a vs ds}:Rd H a (.lst vs)->¬O a->aq K O H vs ds->bx K O H (.ref a) (.lst ds)
 |mod {a vs ds}:S1 K a vs->aq K O H vs ds->bx K O H (.ref a) (.lst ds)
 |bI {a o t ks vs ds}:H a=some (.dC o (gh t ks vs))->ks.length=vs.length->mV t ks->aq K O H vs ds->bx K O H (.ref a) (.bI t ks ds)
inductive aq(K:aH)(O:Addr->Prop)(H:Hp):List V->List D->Prop
 |nil:aq K O H [] []
 |cons {v d vs ds}:bx K O H v d->aq K O H vs ds->aq K O H (v::vs) (d::ds)
end
section
variable {K:aH}{O O':Addr->Prop}{H H':Hp}
def gW(ht:∀a vs,cT K H a vs->cT K H' a vs)(hl:∀a vs,Rd H a (.lst vs)->¬O a->Rd H' a (.lst vs)/\¬O' a)(hz:∀a o u,H a=some (.dC o u)->H' a=some (.dC o u)):∀{v d},bx K O H v d->bx K O' H' v d:=λ{v d} h=>
 bx.rec (motive_1:=λv d _=>bx K O' H' v d) (motive_2:=λvs ds _=>aq K O' H' vs ds) .cx .bl .int (λh _ ih=> .tup (ht _ _ h) ih) (λh n _ ih=> .lst (hl _ _ h n).1 (hl _ _ h n).2 ih) (λh _ ih=> .mod h ih) (λh l z _ ih=> .bI (hz _ _ _ h) l z ih) .nil (λ_ _ i1 i2=> .cons i1 i2) h
def fj(ht:∀a vs,cT K H a vs->cT K H' a vs)(hl:∀a vs,Rd H a (.lst vs)->¬O a->Rd H' a (.lst vs)/\¬O' a)(hz:∀a o u,H a=some (.dC o u)->H' a=some (.dC o u)):∀{vs ds},aq K O H vs ds->aq K O' H' vs ds:=λ{vs ds} h=>
 aq.rec (motive_1:=λv d _=>bx K O' H' v d) (motive_2:=λvs ds _=>aq K O' H' vs ds) .cx .bl .int (λh _ ih=> .tup (ht _ _ h) ih) (λh n _ ih=> .lst (hl _ _ h n).1 (hl _ _ h n).2 ih) (λh _ ih=> .mod h ih) (λh l z _ ih=> .bI (hz _ _ _ h) l z ih) .nil (λ_ _ i1 i2=> .cons i1 i2) h
def jD(s:ae H H')(h:cT K H a vs):cT K H' a vs:=by
 exact s _ _ h
def lL(s:ae H H')(h:Rd H a u):Rd H' a u:=h.elim (λh=> .inl (s _ _ h)) λ⟨o,h⟩=> .inr ⟨o,s _ _ h⟩
def bx.mono(h:bx K O H v d)(s:ae H H'):bx K O H' v d:=gW (λ_ _=>jD s) (λ_ _ h n=>⟨lL s h,n⟩) (λ_ _ _ h=>s _ _ h) h
def aq.mono(h:aq K O H vs ds)(s:ae H H'):aq K O H' vs ds:=fj (λ_ _=>jD s) (λ_ _ h n=>⟨lL s h,n⟩) (λ_ _ _ h=>s _ _ h) h
def bx.weak(h:bx K O H v d)(s:∀a,O' a->O a):bx K O' H v d:=gW (λ_ _ h=>h) (λ_ _ h n=>⟨h,λz=>n (s _ z)⟩) (λ_ _ _ h=>h) h
def aq.weak(h:aq K O H vs ds)(s:∀a,O' a->O a):aq K O' H vs ds:=fj (λ_ _ h=>h) (λ_ _ h n=>⟨h,λz=>n (s _ z)⟩) (λ_ _ _ h=>h) h
def w8(ha:H a=some u)(hu:tQ u)(h:cT K H b vs):cT K (L2.upd H a o) b vs:=by
 have h':H b=some (.tup vs):=h;show L2.upd H a o b=some (.tup vs);rw[ai (fX h' ha (by intro z;rw[<-z]at hu;exact hu))];exact h'
def w_(ha:H a=some u)(hu:tQ u)(h:H b=some (.dC q w)):L2.upd H a o b=some (.dC q w):=by
 rw[ai (fX h ha (by intro z;rw[<-z]at hu;exact hu))];exact h
def xa(lI:b≠a)(h:Rd H b (.lst vs)):Rd (L2.upd H a o) b (.lst vs):=by
 rcases h with h|⟨u,h⟩
 .exact .inl (by rw[ai lI];exact h)
 .exact .inr ⟨u,by rw[ai lI];exact h⟩
theorem bx.upd(h:bx K O H v d)(ho:O a)(ha:H a=some u)(hu:tQ u):bx K O (L2.upd H a o) v d:=
 gW (λ_ _ h=>w8 ha hu h) (λb _ h n=>⟨xa (λz=>n (z▸ho)) h,n⟩) (λ_ _ _ h=>w_ ha hu h) h
theorem aq.upd(h:aq K O H vs ds)(ho:O a)(ha:H a=some u)(hu:tQ u):aq K O (L2.upd H a o) vs ds:=
 fj (λ_ _ h=>w8 ha hu h) (λb _ h n=>⟨xa (λz=>n (z▸ho)) h,n⟩) (λ_ _ _ h=>w_ ha hu h) h
def lM(hp:H p=none):¬Rd H p u:=λh=>by
 rcases h with h|⟨o,h⟩
 .rw[hp]at h;cases h
 .rw[hp]at h;cases h
def aq.own(h:aq K O H vs ds)(hp:H p=none):aq K (λa=>O a\/a=p) H vs ds:=
 fj (λ_ _ h=>h) (λb us h n=>⟨h,λz=>z.elim n λe=>lM hp (e▸h)⟩) (λ_ _ _ h=>h) h
def bx.own(h:bx K O H v d)(hp:H p=none):bx K (λa=>O a\/a=p) H v d:=
 gW (λ_ _ h=>h) (λb us h n=>⟨h,λz=>z.elim n λe=>lM hp (e▸h)⟩) (λ_ _ _ h=>h) h
def zx(h:bx K O H v d):aI d=true->bx K O' H v d:=
 bx.rec (motive_1:=λv d _=>aI d=true->bx K O' H v d) (motive_2:=λvs ds _=>a_ ds=true->aq K O' H vs ds) (λ_=> .cx) (λb _=> .bl b) (λi _=> .int i)
  (λh _ ih n=> .tup h (ih (by simpa[aI]using n))) (λ_ _ _ _ n=>absurd n (by simp[aI])) (λ_ _ _ n=>absurd n (by simp[aI])) (λ_ _ _ _ _ n=>absurd n (by simp[aI])) (λ_=> .nil)
  (λ_ _ i1 i2 n=>by
   simp only[a_,Zk]at n;exact .cons (i1 n.1) (i2 n.2)) h
theorem aq.length:∀{vs:List V}{ds:List D},aq K O H vs ds->vs.length=ds.length
 |_,_,.nil =>rfl
 |_,_,.cons _ t=>by rw[ZM,ZM,aq.length t]
theorem aq.get:∀{vs:List V}{ds:List D}{i:Nat}{d:D},aq K O H vs ds->ds[i]?=some d->∃v,vs[i]?=some v/\bx K O H v d
 |_,_,_,_,.nil,e=>by simp at e
 |_,_,0,_,.cons r _,e=>by simp at e;subst e;exact⟨_,rfl,r⟩
 |_,_,i+1,d,.cons _ t,e=>by
  exact aa (aq.get (i:=i) (d:=d) t (by simpa using e)) λv h1 h2=>⟨v,by simpa using h1,h2⟩
theorem aq.append:∀{xs ys:List V}{us ws:List D},aq K O H xs us->aq K O H ys ws->aq K O H (xs++ys) (us++ws)
 |_,_,_,_,.nil,s=>s
 |_,_,_,_,.cons r t,s=> .cons r (aq.append t s)
theorem aq.take:∀{xs:List V}{us:List D} (n:Nat),aq K O H xs us->aq K O H (xs.take n) (us.take n)
 |_,_,0,_=> .nil
 |_,_,_+1,.nil => .nil
 |_,_,n+1,.cons r t=> .cons r (aq.take n t)
theorem aq.drop:∀{xs:List V}{us:List D} (n:Nat),aq K O H xs us->aq K O H (xs.drop n) (us.drop n)
 |_,_,0,r=>r
 |_,_,_+1,.nil => .nil
 |_,_,n+1,.cons _ t=>aq.drop n t
theorem aq.set(r:bx K O H x u):∀{xs:List V}{us:List D} (i:Nat),aq K O H xs us->aq K O H (xs.set i x) (us.set i u)
 |_,_,_,.nil => .nil
 |_,_,0,.cons _ t=> .cons r t
 |_,_,i+1,.cons q t=> .cons q (aq.set r i t)
def bx.int_inv(h:bx K O H v (.int i)):v= .int i:=by cases h;rfl
def bx.vx(h:bx K O H v (.bl i)):v= .bl i:=by cases h;rfl
def bx.Fh(h:bx K O H v .cx):v= .cx :=by cases h;rfl
def bx.jE(h:bx K O H v (.tup ds)):∃a vs,v= .ref a/\cT K H a vs/\aq K O H vs ds:=by
 cases h with
 |tup h1 h2=>exact⟨_,_,rfl,h1,h2⟩
def bx.lst_inv(h:bx K O H v (.lst ds)):∃a vs,v= .ref a/\cZ K H a vs/\aq K O H vs ds:=by
 cases h with
 |lst h1 _ h2=>exact⟨_,_,rfl,.inl h1,h2⟩
 |mod h1 h2=>exact⟨_,_,rfl,.inr h1,h2⟩
theorem fm:∀(ns:List Int),aq K O H (ns.map V.int) (ns.map D.int)
 |[]=> .nil
 |n::ns=> .cons (.int n) (fm ns)
def bN(K:aH)(O:Addr->Prop)(b:Bool)(H:Hp)(v:V)(d:D):Prop:=
 bx K O H v d\/(b=true/\∃a vs ds,v= .ref a/\d= .lst ds/\H a=some (.lst vs)/\aq K O H vs ds)
variable {b:Bool}{v:V}{d:D}
theorem bN.mono(h:bN K O b H v d)(s:ae H H'):bN K O b H' v d:=by
 rcases h with h|⟨e,a,vs,ds,h1,h2,h3,h4⟩
 .exact .inl (h.mono s)
 .exact .inr ⟨e,a,vs,ds,h1,h2,s _ _ h3,h4.mono s⟩
def bN.own(h:bN K O false H v d):bx K O H v d:=h.elim id λz=>absurd z.1 Zl
theorem bN.int(h:bN K O b H v (.int i)):v= .int i:=by
 rcases h with h|⟨_,_,_,_,_,h,_⟩
 .exact h.int_inv
 .cases h
theorem bN.bl(h:bN K O b H v (.bl i)):v= .bl i:=by
 rcases h with h|⟨_,_,_,_,_,h,_⟩
 .exact h.vx
 .cases h
theorem bN.cx(h:bN K O b H v .cx):v= .cx :=by
 rcases h with h|⟨_,_,_,_,_,h,_⟩
 .exact h.Fh
 .cases h
theorem bN.tup(h:bN K O b H v (.tup ds)):∃a vs,v= .ref a/\cT K H a vs/\aq K O H vs ds:=by
 rcases h with h|⟨_,_,_,_,_,h,_⟩
 .exact h.jE
 .cases h
theorem bN.lst(h:bN K O b H v (.lst ds)):∃a vs,v= .ref a/\cZ K H a vs/\aq K O H vs ds:=by
 rcases h with h|⟨_,a,vs,Ov,h1,h2,h3,h4⟩
 .exact h.lst_inv
 .cases h2;exact⟨a,vs,h1,cZ.of h3,h4⟩
theorem bN.seq(h:bN K O b H v d)(e:Py.seq d=some xs):∃a vs,v= .ref a/\(cZ K H a vs\/cT K H a vs)/\aq K O H vs xs:=by
 cases d with
 |lst ds=>
  cases e;obtain⟨a,vs,h1,h2,h3⟩:=h.lst;exact⟨a,vs,h1,.inl h2,h3⟩
 |tup ds=>
  cases e;obtain⟨a,vs,h1,h2,h3⟩:=h.tup;exact⟨a,vs,h1,.inr h2,h3⟩
 |_=>cases e
def bN.Ki(h:bN K O b H v (.bI t ks ds)):∃a,v= .ref a:=by
 rcases h with h|⟨_,_,_,_,_,h,_⟩
 .cases h;exact⟨_,rfl⟩
 .cases h
def bN.any(h:bN K O b H v d):bx K (λ_=>False) H v d:=by
 rcases h with h|⟨_,a,vs,Ov,h1,h2,h3,h4⟩
 .exact h.weak λ_ z=>z.elim
 .subst h1 h2;exact .lst (.inl h3) id (h4.weak λ_ z=>z.elim)
end
def ed(K:aH)(O:Addr->Prop)(H:Hp)(a:Addr)(d:D):Prop:=
 (∃vs ds,d= .lst ds/\H a=some (.lst vs)/\aq K O H vs ds)\/
 (∃t ks vs ds,d= .bI t ks ds/\H a=some (gh t ks vs)/\ks.length=vs.length/\mV t ks/\aq K O H vs ds)\/
 d=u5/\∃u,H a=some u/\tQ u
section
variable {K:aH}{O O':Addr->Prop}{H H':Hp}{a:Addr}{d:D}
theorem ed.mono(h:ed K O H a d)(s:ae H H'):ed K O H' a d:=by
 rcases h with⟨vs,ds,e1,e2,e3⟩|⟨t,ks,vs,ds,e1,e2,e3,e4,e5⟩|⟨e1,u',e2,e3⟩
 .exact .inl ⟨vs,ds,e1,s _ _ e2,e3.mono s⟩
 .exact .inr (.inl ⟨t,ks,vs,ds,e1,s _ _ e2,e3,e4,e5.mono s⟩)
 .exact .inr (.inr ⟨e1,u',s _ _ e2,e3⟩)
theorem ed.weak(h:ed K O H a d)(s:∀a,O' a->O a):ed K O' H a d:=by
 rcases h with⟨vs,ds,e1,e2,e3⟩|⟨t,ks,vs,ds,e1,e2,e3,e4,e5⟩|⟨e1,u',e2,e3⟩
 .exact .inl ⟨vs,ds,e1,e2,e3.weak s⟩
 .exact .inr (.inl ⟨t,ks,vs,ds,e1,e2,e3,e4,e5.weak s⟩)
 .exact .inr (.inr ⟨e1,u',e2,e3⟩)
theorem ed.own(h:ed K O H a d)(hp:H p=none):ed K (λa=>O a\/a=p) H a d:=by
 rcases h with⟨vs,ds,e1,e2,e3⟩|⟨t,ks,vs,ds,e1,e2,e3,e4,e5⟩|⟨e1,u',e2,e3⟩
 .exact .inl ⟨vs,ds,e1,e2,e3.own hp⟩
 .exact .inr (.inl ⟨t,ks,vs,ds,e1,e2,e3,e4,e5.own hp⟩)
 .exact .inr (.inr ⟨e1,u',e2,e3⟩)
theorem ed.upd(h:ed K O H a d)(hb:a≠b)(ho:O b)(Vd:H b=some u)(hu:tQ u):ed K O (L2.upd H b o) a d:=by
 rcases h with⟨vs,ds,e1,e2,e3⟩|⟨t,ks,vs,ds,e1,e2,e3,e4,e5⟩|⟨e1,u',e2,e3⟩
 .exact .inl ⟨vs,ds,e1,by rw[ai hb];exact e2,e3.upd ho Vd hu⟩
 .exact .inr (.inl ⟨t,ks,vs,ds,e1,by rw[ai hb];exact e2,e3,e4,e5.upd ho Vd hu⟩)
 .exact .inr (.inr ⟨e1,u',by rw[ai hb];exact e2,e3⟩)
theorem ed.lst(h:ed K O H a (.lst ds)):∃vs,H a=some (.lst vs)/\aq K O H vs ds:=by
 rcases h with⟨vs,ds,e1,e2,e3⟩|⟨t,ks,vs,ds,e1,_⟩|⟨e1,_⟩
 .cases e1;exact⟨vs,e2,e3⟩
 .cases e1
 .cases e1
theorem ed.bI(h:ed K O H a (.bI t ks ds))(h2:t≠2):∃vs,H a=some (gh t ks vs)/\ks.length=vs.length/\mV t ks/\aq K O H vs ds:=by
 rcases h with⟨vs,ds,e1,e2,e3⟩|⟨t,ks,vs,ds,e1,e2,e3,e4,e5⟩|⟨e1,u',e2,e3⟩
 .cases e1
 .cases e1;exact⟨vs,e2,e3,e4,e5⟩
 .cases e1;exact absurd rfl h2
end
structure EX(K:aH)(O:Addr->Prop)(σ:St)(H:Hp)(ρ:Env):Prop where
 live:∀a,O a->∃u,H a=some u/\tQ u
 j7:∀(i:Nat) (o:Bool) (d:D),ρ[i]?=some (some (o,d))->∃v,σ[i]?=some (some v)/\
  if o=true then∃a,v= .ref a/\O a/\ed K O H a d else bx K O H v d
theorem EX.mono{K:aH}(h:EX K O σ H ρ)(s:ae H H'):EX K O σ H' ρ:=by
 refine⟨λa ha=>let ⟨u,e,q⟩:=h.live a ha;⟨u,s _ _ e,q⟩,λi o d e=>?_⟩;refine aa (h.j7 i o d e) λv h1 h2=>⟨v,h1,?_⟩;cases o with
 |true=>
  exact bO h2 λa e1 e2 c=>⟨a,e1,e2,c.mono s⟩
 |false=>exact bx.mono h2 s
def EX.free{K:aH}(h:EX K O σ H ρ)(s:ae H H1)(hp:H1 p=none):¬O p:=λz=>by
 refine aa (h.live p z) λvs e _=>?_;rw[s _ _ e]at hp;cases hp
def bind_some{α β:Type}{o:Option α}{f:α->Option β}{y:β}(h:o.bind f=some y):∃x,o=some x/\f x=some y:=by
 cases o with
 |none=>cases h
 |some x=>exact⟨x,rfl,h⟩
def map_some{α β:Type}{o:Option α}{f:α->β}{y:β}(h:o.map f=some y):∃x,o=some x/\f x=y:=by
 cases o with
 |none=>cases h
 |some x=>exact⟨x,rfl,ZU h⟩
def tV(K:aH)(b:Bool)(f:Env->Option D):TE:=λσ H Q=>∃O ρ d,EX K O σ H ρ/\f ρ=some d/\∀v H',ae H H'->bN K O b H' v d->Q v H'
def tF(K:aH)(f:Env->Option (List D)):TE:=λσ H Q=>∃O ρ ds,EX K O σ H ρ/\f ρ=some ds/\∀p vs H1,ae H H1->H1 p=none->aq K O H1 vs ds->Q (.ref p) (L2.upd H1 p (.lst vs))
def tB(K:aH)(f:Env->Option Bool):TT:=λσ H Q=>∃O ρ k,EX K O σ H ρ/\f ρ=some k/\∀H',ae H H'->Q k H'
def uD(K:aH)(b:Bool)(f:Env->Option (List D)):TA:=λσ H Q=>∃O ρ ds,EX K O σ H ρ/\f ρ=some ds/\∀vs H',ae H H'->Paired (bN K O b H') vs ds->Q vs H'
theorem ae.upd(h:H p=none):ae H (L2.upd H p o):=λb u e=>by rw[ai (b6 e h)];exact e
section
variable {X:Cx}{a b c e:Expr}{pos:Pos}{m:Bool}{es:List Expr}
def _root_.L2.PE.weak(h:PE X e t)(w:∀σ H Q,t' σ H Q->t σ H Q):PE X e t':=λU s σ H Q I q=>h U s σ H Q I (w σ H Q q)
def _root_.L2.PT.weak(h:PT X e t)(w:∀σ H Q,t' σ H Q->t σ H Q):PT X e t':=λU s σ H Q I q=>h U s σ H Q I (w σ H Q q)
def Fi{f:Env->Option D}(h:PE X e (tF X.K f'))(hf:∀ρ d,f ρ=some d->∃ds,f' ρ=some ds/\d= .lst ds):PE X e (tV X.K m f):=h.weak λσ H Q zz=>by
 refine cn zz λO ρ d hx hd k=>aa (hf ρ d hd) λds e1 af=>?_;subst af;refine⟨O,ρ,ds,hx,e1,λp vs H1 s1 hp r=>k _ _ (s1.trans (ae.upd hp)) (.inl (.lst (.inl ag) (hx.free s1 hp) (r.mono (ae.upd hp))))⟩
def v_var(hN:X.N[i]?=some x)(hv:yw X.env.scope x)(hd:ab4=false)(Ax:(x==("__classdict__":Str))=false):PE X (.Name x pos) (tV X.K m λρ=>rd m ρ i):=
 (bM hN hv hd Ax).weak λσ H Q zz=>by
  refine cn zz λO ρ d hx hd k=>?_;have hd:rd m ρ i=some d:=hd;unfold rd at hd;split at hd
  .rename_i o d' e;refine aa (hx.j7 i o d' e) λv h1 h2=>⟨v,h1,k v H (ae.refl _) ?_⟩;cases o with
   |true=>
    cases m with
    |true=>
     refine bO h2 λa e1 e2 c=>?_;rcases c with⟨vs,ds,f1,f2,f3⟩|⟨t,ks,vs,ds,f1,_⟩|⟨f1,_⟩
     .subst f1;cases hd;exact .inr ⟨rfl,a,vs,ds,e1,rfl,f2,f3⟩
     .subst f1;cases hd
     .subst f1;cases hd
    |false=>cases hd
   |false=>
    cases hd;exact .inl h2
  .cases hd
def QO(h:PE X e (tC v))(r:∀K O H,bx K O H v d):PE X e (tV X.K m λ_=>some d):=h.weak λσ H Q zz=>by
 refine cn zz λO ρ d' hx hd k=>?_;cases hd;exact k v H (ae.refl _) (.inl (r _ _ _))
def xb{g:D->D->Option D}(ha:PE X a (tV X.K true fa))(hb:PE X b (tV X.K true fb))(mk:∀ta tb,PE X a ta->PE X b tb->PE X e (G_ r ta tb))
  (hr:∀O σ (ρ:Env) H x y d v w Q,EX X.K O σ H ρ->bN X.K O true H v x->bN X.K O true H w y->g x y=some d->(∀u H',ae H H'->bN X.K O m H' u d->Q u H')->r v w H Q):
  PE X e (tV X.K m λρ=>(fa ρ).bind λx=>(fb ρ).bind λy=>g x y):=(mk _ _ ha hb).weak λσ H Q zz=>by
 exact cn zz λO ρ d hx hd k=>aa aa4 λx e1 hd=>aa aa4 λy e2 hd=>⟨O,ρ,x,hx,e1,λv H1 s1 r1=>⟨O,ρ,y,hx.mono s1,e2,λw H2 s2 r2=>hr O σ ρ H2 x y d v w Q (hx.mono (s1.trans s2)) (r1.mono s2) r2 hd λu H' s' r'=>k u H' ((s1.trans s2).trans s') r'⟩⟩
def _root_.L2.PE.Xz(h:∀ρ,f ρ=none):PE X e (tV X.K m f):=λU s σ H Q I ⟨O,ρ,d,hx,hd,k⟩=>by rw[h]at hd;cases hd
def HC(K:aH):R2:=λx y H Q=>∃l b xs zs,x= .ref l/\y= .ref b/\cZ K H l xs/\cZ K H b zs/\xs.length+zs.length<=sizeLine/\∀p,H p=none->Q (.ref p) (L2.upd H p (.lst (xs++zs)))
def Fj:kN X (binaryOp .Add) (HC X.K):=by
 intro U s σ H x y v u Q I rx ry h;refine D3 h λl b xs zs af aK hl hb hz q=>?_
 try clear h
 subst af;subst aK;cases rx;cases ry;refine gQ (I.Hk hl) λits n r e1 e z=>gQ (I.Hk hb) λiO n2 r2 aa e2 z2=>PySem.P.add_list e e2 ?_ (by rw[ZA,ZA];lia);have ea:its.toArray++iO.toArray=(its++iO).toArray :=by simp
 rw[ea];exact⟨.ref _,_,I.Nm (t':=s.toks) (r.append r2) (by rw[Zw];exact hz),rfl,q _ I.fresh⟩
noncomputable def HD(K:aH):R2:=λx y H Q=>∃a b ys,x= .ref a/\y= .ref b/\cT K H a []/\cT K H b ys/\Q (.ref b) H
def Jc(K:aH):R2:=λx y H Q=>M5 (λi j=> .int (i+j)) x y H Q\/Hf K x y H Q\/HC K x y H Q\/HD K x y H Q
def pJ:kN X (binaryOp .Add) (Jc X.K):=IX.or (kN.or En (kN.or Fj (r':=HD X.K) EE))
def cK:(sizeLine:Nat)=bV:=by rw[sizeLine_eq];rfl
def v_add(ha:PE X a (tV X.K true fa))(hb:PE X b (tV X.K true fb)):PE X (.BinOp a .Add b pos) (tV X.K m λρ=>(fa ρ).bind λx=>(fb ρ).bind λy=>bin .Add x y):=
 xb (r:=Jc X.K) ha hb (λ_ _ h1 h2=>r_ pJ h1 h2) λO σ ρ H x y d v w Q hx r1 r2 hd k=>by
  cases x with
  |int i=>
   cases y with
   |int j=>cases hd;exact .inl ⟨i,j,r1.int,r2.int,k _ _ (ae.refl _) (.inl (.int _))⟩
   |_=>cases hd
  |tup us=>
   cases y with
   |tup ws=>
    simp only[bin]at hd;split at hd
    .rename_i hz;cases hd;refine bu r1.tup λa1 vs af q1 p1=>?_;subst af;refine bu r2.tup λa2 zs aK q2 p2=>?_;subst aK;have l1:=p1.length;have l2:=p2.length;by_cases d_:vs=[]
     .subst d_;cases p1;exact .inr (.inr (.inr ⟨a1,a2,zs,rfl,rfl,q1,q2,k _ _ (ae.refl _) (.inl (.tup q2 p2))⟩))
     .refine .inr (.inl ⟨a1,a2,vs,zs,rfl,rfl,q1,q2,d_,by rw[cK,l1,l2];exact hz,λez=>?_,λ_ p hp=>?_⟩)
      .subst ez;cases p2;rw[aaf]at k;exact k _ _ (ae.refl _) (.inl (.tup q1 p1))
      .exact k _ _ (ae.upd hp) (.inl (.tup (cT.of ag) ((p1.append p2).mono (ae.upd hp))))
    .cases hd
   |_=>cases hd
  |lst us=>
   cases y with
   |lst ws=>
    simp only[bin]at hd;split at hd
    .rename_i hz;cases hd;refine bu r1.lst λa1 vs c5 q1 p1=>?_;subst c5;refine bu r2.lst λa2 zs oG q2 p2=>?_;subst oG;have l1:=p1.length;have l2:=p2.length;refine .inr (.inr (.inl ⟨a1,a2,vs,zs,rfl,rfl,q1,q2,by rw[cK,l1,l2];exact hz,λp hp=>?_⟩));exact k _ _ (ae.upd hp) (.inl (.lst (.inl ag) (hx.free (ae.refl _) hp) ((p1.append p2).mono (ae.upd hp))))
    .cases hd
   |_=>cases hd
  |_=>cases hd
def Ox(ha:PE X a (tV X.K true fa))(hb:PE X b (tV X.K true fb)):PE X (.BinOp a .Add b pos) (tF X.K λρ=>((fa ρ).bind λx=>(fb ρ).bind λy=>bin .Add x y).bind λd=>match d with| .lst ds=>some ds|_=>none):=
 (r_ pJ ha hb).weak λσ H Q zz=>by
  refine cn zz λO ρ ds hx hd k=>aa aa4 λz hd Ml=>aa aa4 λx e1 hd=>aa aa4 λy e2 hd=>⟨O,ρ,x,hx,e1,λv H1 s1 r1=>⟨O,ρ,y,hx.mono s1,e2,λw H2 s2 r2=>?_⟩⟩;have oJ:=r1.mono s2;cases x with
  |lst us=>
   cases y with
   |lst ws=>
    simp only[bin]at hd;split at hd
    .rename_i hz;cases hd;cases Ml;refine bu oJ.lst λa1 vs af q1 p1=>?_;subst af;refine bu r2.lst λa2 zs aK q2 p2=>?_;subst aK;have l1:=p1.length;have l2:=p2.length;exact .inr (.inr (.inl ⟨a1,a2,vs,zs,rfl,rfl,q1,q2,by rw[cK,l1,l2];exact hz,λp hp=>k p _ H2 (s1.trans s2) hp (p1.append p2)⟩))
    .cases hd
   |_=>cases hd
  |int i=>
   cases y with
   |int j=>cases hd;cases Ml
   |_=>cases hd
  |tup i=>
   cases y with
   |tup j=>
    simp only[bin]at hd;split at hd<;>cases hd<;>cases Ml
   |_=>cases hd
  |_=>cases hd
def Fl(h:mz i j=true):Eb i j:=by
 unfold mz at h;simp only[acT,Zk,decide_eq_true_eq]at h;exact h
def HE(ha:PE X a (tV X.K true fa))(hb:PE X b (tV X.K true fb)):PE X (.BinOp a o b pos) (tV X.K m λρ=>(fa ρ).bind λx=>(fb ρ).bind λy=>bin o x y):=by
 have no:∀(f:Env->Option D) (g:Env->Option D),(∀ρ,((f ρ).bind λ_=>(g ρ).bind λ_=>(none:Option D))=none):=λf g ρ=>by
  cases f ρ<;>simp
 cases o with
 |Add=>exact v_add ha hb
 |Mult=>
  exact xb ha hb (λ_ _ h1 h2=>r_ IY h1 h2) λO σ ρ H x y d v w Q hx r1 r2 hd k=>by
   cases x with
   |int i=>
    cases y with
    |int j=>
     simp only[bin]at hd;split at hd
     .rename_i hz;cases hd;exact⟨i,j,r1.int,r2.int,Fl hz,k _ _ (ae.refl _) (.inl (.int _))⟩
     .cases hd
    |_=>cases hd
   |_=>cases hd
 |FloorDiv=>
  exact xb ha hb (λ_ _ h1 h2=>r_ Ec h1 h2) λO σ ρ H x y d v w Q hx r1 r2 hd k=>by
   cases x with
   |int i=>
    cases y with
    |int j=>
     simp only[bin]at hd;split at hd
     .rename_i hz;cases hd;exact⟨i,j,r1.int,r2.int,hz,k _ _ (ae.refl _) (.inl (.int _))⟩
     .cases hd
    |_=>cases hd
   |_=>cases hd
 |Mod=>
  exact xb ha hb (λ_ _ h1 h2=>r_ IZ h1 h2) λO σ ρ H x y d v w Q hx r1 r2 hd k=>by
   cases x with
   |int i=>
    cases y with
    |int j=>
     simp only[bin]at hd;split at hd
     .rename_i hz;cases hd;exact⟨i,j,r1.int,r2.int,hz,k _ _ (ae.refl _) (.inl (.int _))⟩
     .cases hd
    |_=>cases hd
   |_=>cases hd
 |_=>exact PE.Xz λρ=>no fa fb ρ
def tR(h:DT d=some i):d= .int i:=by cases d<;>first|(cases h;rfl)|cases h
def dQ(h:eM d=some i):d= .bl i:=by cases d<;>first|(cases h;rfl)|cases h
mutual
noncomputable def iA:D->PyData
 | .cx => .none
 | .bl b=> .bool b
 | .int i=> .int i
 | .tup xs=> .tuple (dR xs)
 | .lst xs=> .list (dR xs)
 | .bI _ _ _=> .none
noncomputable def dR:List D->List PyData
 |[]=>[]
 |x::xs=>iA x::dR xs
end
mutual
theorem jF:∀x y:D,PyData.eqv (iA x) (iA y)=mj x y
 | .cx,y=>by cases y<;>rfl
 | .bl b,y=>by cases y<;>rfl
 | .int b,y=>by cases y<;>rfl
 | .tup xs,y=>by
  cases y with
  |tup ys=>exact kj xs ys
  |_=>rfl
 | .lst xs,y=>by
  cases y with
  |lst ys=>exact kj xs ys
  |_=>rfl
 | .bI _ _ _,y=>by cases y<;>rfl
theorem kj:∀xs ys:List D,PyData.eqvAll (dR xs) (dR ys)=Ad xs ys
 |[],ys=>by cases ys<;>rfl
 |x::xs,ys=>by
  cases ys with
  |nil=>rfl
  |cons y ys=>show(PyData.eqv (iA x) (iA y)&&PyData.eqvAll (dR xs) (dR ys))=(mj x y&&Ad xs ys);rw[jF x y,kj xs ys]
end
mutual
theorem kl:∀(x:D) (n:Nat),fK x n=true->(iA x).canLay0 =true/\(iA x).depth <=n
 | .cx,n,h=>⟨rfl,aak _⟩
 | .bl b,n,h=>⟨rfl,aak _⟩
 | .int i,n,h=>⟨rfl,aak _⟩
 | .tup xs,0,h=>nomatch (show false=true from h)
 | .lst xs,0,h=>nomatch (show false=true from h)
 | .bI _ _ _,n,h=>nomatch (show false=true from h)
 | .tup xs,n+1,h=>by
  have:=jG xs n h;exact⟨this.1,abx this.2⟩
 | .lst xs,n+1,h=>by
  have:=jG xs n h;exact⟨this.1,abx this.2⟩
theorem jG:∀(xs:List D) (n:Nat),f_ xs n=true->PyData.canLayAll0 (dR xs)=true/\PyData.depthAll (dR xs)<=n
 |[],n,h=>⟨rfl,aak _⟩
 |x::xs,n,h=>by
  have h:=aaU.mp (show(fK x n&&f_ xs n)=true from h);have a:=kl x n h.1;have b:=jG xs n h.2;exact⟨aaU.mpr ⟨a.1,b.1⟩,Nat.max_le.mpr ⟨a.2,b.2⟩⟩
end
def fq(I:aa5)(h:bx X.K O H v d):∀n,fK d n=true->∀u,RelV v u->∃as,Reads s.heap u (iA d) as:=
 bx.rec (motive_1:=λv d _=>∀n,fK d n=true->∀u,RelV v u->∃as,Reads s.heap u (iA d) as) (motive_2:=λvs ds _=>∀n,f_ ds n=true->∀us,aF vs us->∃as,ReadsAll s.heap us (dR ds) as)
  (λ_ _ u r=>by cases r;exact⟨_,by rw[iA];exact .none⟩) (λb _ _ u r=>by cases r;exact⟨_,by rw[iA];exact .bool b⟩) (λi _ _ u r=>by obtain⟨t,rfl⟩:=r;exact⟨_,by rw[iA];exact .int i t⟩)
  (λ{a vs ds} h _ ih n hl u r=>by
   cases r;cases n with
   |zero=>exact nomatch (show false=true from hl)
   |succ n=>
    obtain⟨its,rv,⟨o,ho,hc,n',hd⟩,hz⟩:=I.tuple h;obtain⟨as,ra⟩:=ih n hl its rv;exact⟨as,by rw[iA];exact .tuple ho hc hd (by simpa using ra)⟩)
  (λ{a vs ds} h _ _ ih n hl u r=>by
   cases r;cases n with
   |zero=>exact nomatch (show false=true from hl)
   |succ n=>
    obtain⟨its,rv,⟨o,n',ho,hc,_,hd⟩,hz⟩:=I.list (.inl h);obtain⟨as,ra⟩:=ih n hl its rv;exact⟨_,by rw[iA];exact .list ho hc hd (by simpa using ra)⟩)
  (λ{a vs ds} h _ ih n hl u r=>by
   cases r;cases n with
   |zero=>exact nomatch (show false=true from hl)
   |succ n=>
    obtain⟨its,rv,⟨o,n',ho,hc,_,hd⟩,hz⟩:=I.list (.inr h);obtain⟨as,ra⟩:=ih n hl its rv;exact⟨_,by rw[iA];exact .list ho hc hd (by simpa using ra)⟩)
  (λ_ _ _ _ _ n hl _ _=>absurd hl (by simp[fK]))
  (λ_ _ us r=>by cases r;exact⟨[],by rw[dR];exact .nil⟩)
  (λ{v d vs ds} _ _ i1 i2 n hl us r=>by
   simp only[f_,Zk]at hl;cases r with
   |cons r1 r2=>
    obtain⟨a1,q1⟩:=i1 n hl.1 _ r1;obtain⟨a2,q2⟩:=i2 n hl.2 _ r2;exact⟨a1++a2,by rw[dR];exact .cons q1 q2⟩) h
def Oy(K:aH)(neg:Bool):R2:=λx y H Q=>∃dx dy,bx K (λ_=>False) H x dx/\bx K (λ_=>False) H y dy/\fK dx 60=true/\fK dy 60=true/\Q (.bl (if neg then !mj dx dy else mj dx dy)) H
def Kj(hu:X.A.units+64<cLine):kN X (compareOp .Eq) (Oy X.K false):=by
 intro U s σ H x y v u Q I rx ry zz;refine jU zz λdx dy r1 r2 l1 l2 q=>?_;obtain⟨a1,q1⟩:=fq I r1 60 l1 v rx;obtain⟨a2,q2⟩:=fq I r2 60 l2 u ry;have b1:=kl dx 60 l1;have b2:=kl dy 60 l2;exact SeqAt.compareEq_reads q1 q2 b1.1 b2.1 (by lia) ⟨.bl _,H,I,rfl,by rw[jF];exact q⟩
def Kk(hu:X.A.units+64<cLine):kN X (compareOp .NotEq) (Oy X.K true):=by
 intro U s σ H x y v u Q I rx ry zz;refine jU zz λdx dy r1 r2 l1 l2 q=>?_;obtain⟨a1,q1⟩:=fq I r1 60 l1 v rx;obtain⟨a2,q2⟩:=fq I r2 60 l2 u ry;have b1:=kl dx 60 l1;have b2:=kl dy 60 l2;exact SeqAt.compareNe_reads q1 q2 b1.1 b2.1 (by lia) ⟨.bl _,H,I,rfl,by rw[jF];exact q⟩
theorem tS(x:D):∀ys:List D,((dR ys).any λy=>y.eqv (iA x))=ys.any λy=>mj y x
 |[]=>by rw[dR];rfl
 |y::ys=>by rw[dR,acx,acx,jF,tS x ys]
noncomputable def S3(K:aH):R2:=λx y H Q=>∃dx ys,bx K (λ_=>False) H x dx/\bx K (λ_=>False) H y (.lst ys)/\fK dx 60=true/\fK (.lst ys) 60=true/\Q (.bl (!ys.any λz=>mj z dx)) H
def Kl(hu:X.A.units+64<cLine):kN X (compareOp .NotIn) (S3 X.K):=by
 intro U s σ H x y v u Q I rx ry zz;refine jU zz λdx ys r1 r2 l1 l2 q=>?_;obtain⟨a1,q1⟩:=fq I r1 60 l1 v rx;obtain⟨a2,q2⟩:=fq I r2 60 l2 u ry;exact SeqAt.notIn_list_reads q2 q1 (jG ys 59 l2).1 (kl dx 60 l1).1 (Z4 (acG (Zr (Nat.min_le_left _ _) (jG ys 59 l2).2) _) (Z4 (acG (show 60<=64 by decide) _) hu)) ⟨.bl _,H,I,rfl,by rw[tS];exact q⟩
def BO(hu:X.A.units+64<cLine):∃r,kN X (compareOp op) r/\∀O σ (ρ:Env) H x y k v w Q,EX X.K O σ H ρ->bN X.K O true H v x->bN X.K O true H w y->cmp op x y=some k->(∀H',ae H H'->Q (.bl k) H')->r v w H Q:=by
 cases op with
 |Eq=>
  refine⟨_,Kj hu,λO σ ρ H x y k v w Q hx r1 r2 hd q=>?_⟩;simp only[cmp]at hd;split at hd
  .rename_i hl;rw[Zk]at hl;cases hd;exact⟨x,y,r1.any,r2.any,hl.1,hl.2,q _ (ae.refl _)⟩
  .cases hd
 |NotEq=>
  refine⟨_,Kk hu,λO σ ρ H x y k v w Q hx r1 r2 hd q=>?_⟩;simp only[cmp]at hd;split at hd
  .rename_i hl;rw[Zk]at hl;cases hd;exact⟨x,y,r1.any,r2.any,hl.1,hl.2,q _ (ae.refl _)⟩
  .cases hd
 |IsNot=>
  refine⟨_,Ed,λO σ ρ H x y k v w Q hx r1 r2 hd q=>?_⟩;cases y with
  |cx=>
   simp only[cmp]at hd;cases r2.cx;refine⟨rfl,?_⟩;have:(!decide (v= .cx))=k:=by
    cases hd;cases x with
    |cx=>cases r1.cx;rfl
    |bl i=>cases r1.bl;rfl
    |int i=>cases r1.int;rfl
    |tup i=>obtain⟨_,_,rfl,_⟩:=r1.tup;rfl
    |lst i=>obtain⟨_,_,rfl,_⟩:=r1.lst;rfl
    |bI t ks i=>obtain⟨_,rfl⟩:=r1.Ki;rfl
   rw[this];exact q _ (ae.refl _)
  |_=>cases hd
 |NotIn=>
  refine⟨_,Kl hu,λO σ ρ H x y k v w Q hx r1 r2 hd q=>?_⟩;cases y with
  |lst ys=>
   simp only[cmp]at hd;split at hd
   .rename_i hl;rw[Zk]at hl;cases hd;exact⟨x,ys,r1.any,r2.any,hl.1,hl.2,q _ (ae.refl _)⟩
   .cases hd
  |_=>cases hd
 |Lt=>
  refine⟨_,M7,λO σ ρ H x y k v w Q hx r1 r2 hd q=>?_⟩;cases x with
  |int i=>
   cases y with
   |int j=>cases hd;exact⟨i,j,r1.int,r2.int,q _ (ae.refl _)⟩
   |_=>cases hd
  |_=>cases hd
 |_=>exact⟨λ_ _ _ _=>False,λ_ _ _ _ _ _ _ _ _ _ _ _ h=>h.elim,λ_ _ _ _ _ _ _ _ _ _ _ _ _ hd _=>by cases hd⟩
def Oz(hu:X.A.units+64<cLine)(ha:PE X a (tV X.K true fa))(hb:PE X b (tV X.K true fb))(hm:behindInMarks op b=false):
  PE X (.Compare a [op] [b] pos) (tV X.K m λρ=>(fa ρ).bind λx=>(fb ρ).bind λy=>(cmp op x y).map .bl):=by
 refine aa (BO (op:=op) hu) λr ho hr=>(Ee ho ha hb hm).weak λσ H Q zz=>cn zz λO ρ d hx hd k=>aa aa4 λx e1 hd=>aa aa4 λy e2 hd=>aa (map_some hd) λq e3 af=>?_;subst af;exact⟨O,ρ,x,hx,e1,λv H1 s1 r1=>⟨O,ρ,y,hx.mono s1,e2,λw H2 s2 r2=>hr O σ ρ H2 x y q v w Q (hx.mono (s1.trans s2)) (r1.mono s2) r2 e3 λH' s'=>k _ H' ((s1.trans s2).trans s') (.inl (.bl _))⟩⟩
def OA(hu:X.A.units+64<cLine)(ha:PE X a (tV X.K true fa))(hb:PE X b (tV X.K true fb))(hm:behindInMarks op b=false):
  PT X (.Compare a [op] [b] pos) (tB X.K λρ=>((fa ρ).bind λx=>(fb ρ).bind λy=>(cmp op x y).map .bl).bind eM):=by
 refine aa (BO (op:=op) hu) λr ho hr=>(Ef ho ha hb hm).weak λσ H Q zz=>cn zz λO ρ d hx hd k=>aa aa4 λz hd hz=>aa aa4 λx e1 hd=>aa aa4 λy e2 hd=>aa (map_some hd) λq e3 af=>?_;subst af;have QD:q=d:=ZU hz;subst QD;exact⟨O,ρ,x,hx,e1,λv H1 s1 r1=>⟨O,ρ,y,hx.mono s1,e2,λw H2 s2 r2=>hr O σ ρ H2 x y q v w _ (hx.mono (s1.trans s2)) (r1.mono s2) r2 e3 λH' s'=>⟨q,rfl,k H' ((s1.trans s2).trans s')⟩⟩⟩
def cR(h:PE X e (tV X.K false f))(he:∀whole,isTrue e X.env whole=(do let v<-whole;standAt e.pos;holding [v] (truthy v))):PT X e (tB X.K λρ=>(f ρ).bind eM):=
 (IF h he).weak λσ H Q zz=>by
  refine cn zz λO ρ k hx hd q=>aa aa4 λx e1 hd=>?_;cases dQ hd;exact⟨O,ρ,_,hx,e1,λv H1 s1 r1=>⟨k,r1.bl,q H1 s1⟩⟩
def HF(ha:PE X a (tV X.K false fa)):PE X (.UnaryOp .USub a pos) (tV X.K m λρ=>((fa ρ).bind DT).map λi=> .int (-i)):=
 (M6 I8 ha).weak λσ H Q zz=>by
  refine cn zz λO ρ d hx hd k=>aa (map_some hd) λi lu af=>?_;subst af;refine aa (bind_some lu) λx e1 km=>?_;cases tR km;exact⟨O,ρ,_,hx,e1,λv H1 s1 r1=>⟨i,r1.int,k _ _ s1 (.inl (.int _))⟩⟩
def v_not(ha:PE X a (tV X.K false fa)):PE X (.UnaryOp .Not a pos) (tV X.K m λρ=>((fa ρ).bind eM).map λk=> .bl !k):=
 (IL ha).weak λσ H Q zz=>by
  refine cn zz λO ρ d hx hd k=>aa (map_some hd) λx lu af=>?_;subst af;refine aa (bind_some lu) λy e1 km=>?_;cases dQ km;exact⟨O,ρ,_,hx,e1,λv H1 s1 r1=>⟨x,r1.bl,k _ H1 s1 (.inl (.bl _))⟩⟩
def OB{fa:Env->Option D}(ha:PT X a (tB X.K λρ=>(fa ρ).bind eM)):PT X (.UnaryOp .Not a pos) (tB X.K λρ=>(((fa ρ).bind eM).map λk=>D.bl !k).bind eM):=
 (II ha).weak λσ H Q zz=>by
  refine cn zz λO ρ d hx hd k=>aa aa4 λx lu h2=>aa (map_some lu) λy km af=>?_;subst af;cases h2;exact⟨O,ρ,y,hx,km,λH1 s1=>k H1 s1⟩
noncomputable def bo(k:Bool):BoolOp:=if k then .And else .Or
def Km(ha:PE X a (tV X.K false fa)):PE X (.BoolOp (bo k) [a] pos) (tV X.K m λρ=>(((fa ρ).bind eM).bind λx=>if x=k then some k else some x).map .bl):=
 (IJ (op:=bo k) ha).weak λσ H Q zz=>by
  refine cn zz λO ρ d hx hd q=>aa (map_some hd) λy lu af=>?_;subst af;refine aa (bind_some lu) λx km hy=>aa (bind_some km) λz e1 OC=>?_;cases dQ OC;have:x=y:=by
   split at hy
   .rename_i e;cases hy;exact e
   .cases hy;rfl
  subst this;exact⟨O,ρ,_,hx,e1,λv H1 s1 r1=>q v H1 s1 (.inl r1.own)⟩
def OD{fr:Env->Option Bool}(ha:PE X a (tV X.K false fa))(hr:PE X (.BoolOp (bo k) (b::es) pos) (tV X.K false λρ=>(fr ρ).map .bl)):
  PE X (.BoolOp (bo k) (a::b::es) pos) (tV X.K m λρ=>(((fa ρ).bind eM).bind λx=>if x=k then fr ρ else some x).map .bl):=by
 cases k with
 |true=>
  refine PE.weak (IK ha hr) λσ H Q zz=>cn zz λO ρ d hx hd q=>aa (map_some hd) λy lu af=>?_;subst af;refine aa (bind_some lu) λx km hy=>aa (bind_some km) λz e1 OC=>?_;cases dQ OC;refine⟨O,ρ,_,hx,e1,λv H1 s1 r1=>⟨x,r1.bl,?_⟩⟩;cases x with
  |true=>exact mf ⟨O,ρ,.bl y,hx.mono s1,by rw[ZD rfl]at hy;show(fr ρ).map D.bl=_;rw[hy];rfl,λv H2 s2 r2=>q v H2 (s1.trans s2) (.inl r2.own)⟩
  |false=>rw[ZL Zl]at hy;cases hy;exact oC (q _ H1 s1 (.inl (.bl _)))
 |false=>
  refine PE.weak (MY ha hr) λσ H Q zz=>cn zz λO ρ d hx hd q=>aa (map_some hd) λy lu aK=>?_;subst aK;refine aa (bind_some lu) λx km hy=>aa (bind_some km) λz e1 OC=>?_;cases dQ OC;refine⟨O,ρ,_,hx,e1,λv H1 s1 r1=>⟨x,r1.bl,?_⟩⟩;cases x with
  |false=>exact oC ⟨O,ρ,.bl y,hx.mono s1,by rw[ZD rfl]at hy;show(fr ρ).map D.bl=_;rw[hy];rfl,λv H2 s2 r2=>q v H2 (s1.trans s2) (.inl r2.own)⟩
  |true=>rw[ZL aa1]at hy;cases hy;exact mf (q _ H1 s1 (.inl (.bl _)))
def Ko{fa:Env->Option D}(ha:PT X a (tB X.K λρ=>(fa ρ).bind eM)):PW X (.BoolOp (bo k) [a] pos) (tB X.K λρ=>((fa ρ).bind eM).bind λx=>if x=k then some k else some x):=by
 have w:∀σ H Q,tB X.K (λρ=>((fa ρ).bind eM).bind λx=>if x=k then some k else some x) σ H Q->tB X.K (λρ=>(fa ρ).bind eM) σ H Q:=λσ H Q zz=>by
  refine cn zz λO ρ y hx hd q=>aa aa4 λx lu hy=>?_;have:x=y:=by
   split at hy
   .rename_i e;cases hy;exact e
   .cases hy;rfl
  subst this;exact⟨O,ρ,x,hx,lu,q⟩
 cases k with
 |true=>exact λwh U s σ H Q I h=>D9 ha wh U s σ H Q I (w σ H Q h)
 |false=>exact λwh U s σ H Q I h=>IG ha wh U s σ H Q I (w σ H Q h)
def OE{fa:Env->Option D}(ha:PT X a (tB X.K λρ=>(fa ρ).bind eM))(hr:PW X (.BoolOp (bo k) (b::es) pos) (tB X.K fr)):
  PW X (.BoolOp (bo k) (a::b::es) pos) (tB X.K λρ=>((fa ρ).bind eM).bind λx=>if x=k then fr ρ else some x):=by
 cases k with
 |true=>
  refine λwh U s σ H Q I h=>IH ha hr wh U s σ H Q I ?_;refine cn h λO ρ y hx hd q=>aa aa4 λx hd hy=>⟨O,ρ,x,hx,hd,λH1 s1=>?_⟩;cases x with
  |true=>exact mf ⟨O,ρ,y,hx.mono s1,by rw[ZD rfl]at hy;exact hy,λH2 s2=>q H2 (s1.trans s2)⟩
  |false=>rw[ZL Zl]at hy;cases hy;exact oC (q H1 s1)
 |false=>
  refine λwh U s σ H Q I h=>MU ha hr wh U s σ H Q I ?_;refine cn h λO ρ y hx hd q=>aa aa4 λx hd hy=>⟨O,ρ,x,hx,hd,λH1 s1=>?_⟩;cases x with
  |false=>exact oC ⟨O,ρ,y,hx.mono s1,by rw[ZD rfl]at hy;exact hy,λH2 s2=>q H2 (s1.trans s2)⟩
  |true=>rw[ZL aa1]at hy;cases hy;exact mf (q H1 s1)
def OF:PA X [] (uD X.K m λ_=>some []):=λp U s σ H Q I zz=>by
 refine cn zz λO ρ ds hx hd k=>?_;cases hd;exact df p U s σ H Q I (k [] H (ae.refl _) .nil)
def iU{K:aH}:∀{vs:List V}{ds:List D},Paired (bN K O false H) vs ds->aq K O H vs ds:=λ{vs ds} h=>by
 induction h with
 |nil=>exact .nil
 |cons r t ih=>exact .cons r.own ih
def vy{K:aH}{b:Bool}:∀{vs:List V}{ds:List D},Paired (bN K O b H) vs ds->aq K (λ_=>False) H vs ds:=λ{vs ds} h=>by
 induction h with
 |nil=>exact .nil
 |cons r t ih=>exact .cons r.any ih
def Kp(h:PE X e (tV X.K m f))(hr:PA X es (uD X.K m g))(hs:starEach (e::es) X.env=(false,eval e X.env)::starEach es X.env):
  PA X (e::es) (uD X.K m λρ=>(f ρ).bind λx=>(g ρ).bind λxs=>some (x::xs)):=λp U s σ H Q I zz=>by
 refine cn zz λO ρ ds hx hd k=>aa aa4 λx e1 hd=>aa aa4 λxs e2 hd=>?_;cases hd;exact bX h hr hs p U s σ H Q I ⟨O,ρ,x,hx,e1,λv H1 s1 r1=>⟨O,ρ,xs,hx.mono s1,e2,λvs H2 s2 r2=>k (v::vs) H2 (s1.trans s2) (.cons (r1.mono s2) r2)⟩⟩
def HG{k:Nat}(h:PA X es (uD X.K false g)):PE X (.Tuple es k pos) (tV X.K m λρ=>(g ρ).bind λxs=>if xs.length<=bV then some (.tup xs) else none):=
 PE.weak (Jd h) λσ H Q zz=>by
  refine cn zz λO ρ d hx hd q=>aa aa4 λxs e1 hd=>?_;split at hd
  .rename_i hz;cases hd;refine⟨O,ρ,xs,hx,e1,λvs H1 s1 r1=>?_⟩;have oJ:=iU r1;exact⟨by rw[oJ.length,cK];exact hz,λp hp=>q _ _ (s1.trans (ae.upd hp)) (.inl (.tup (cT.of ag) (oJ.mono (ae.upd hp))))⟩
  .cases hd
def OG{g:Env->Option (List D)}(h:PA X es (uD X.K false g)):PE X (.List es pos) (tF X.K λρ=>(g ρ).bind λxs=>if xs.length<=bV then some xs else none):=
 PE.weak (Je h) λσ H Q zz=>by
  refine cn zz λO ρ d hx hd q=>aa aa4 λxs e1 hd=>?_;split at hd
  .rename_i hz;cases hd;refine⟨O,ρ,_,hx,e1,λvs H1 s1 r1=>?_⟩;have oJ:=iU r1;exact⟨by rw[oJ.length,cK];exact hz,λp hp=>q p vs H1 s1 hp oJ⟩
  .cases hd
def mW(n:Nat)(i:Int):place n i=Mc n i:=rfl
def item_at{K:aH}(h:aq K O H vs ds)(e:((place ds.length k).bind λj=>ds[j]?)=some d):∃v,Hg vs k=some v/\bx K O H v d:=by
 exact aa (bind_some e) λj e1 e2=>aa (h.get e2) λv h1 h2=>⟨v,by unfold Hg;rw[h.length,<-mW,e1];exact h1,h2⟩
def OH{fa fb:Env->Option D}(ha:PE X a (tV X.K true fa))(hb:PE X b (tV X.K false fb))(hs:ql b):PE X (.Subscript a b pos) (tV X.K m λρ=>(fa ρ).bind λx=>(fb ρ).bind λk=>item x k):=
 PE.weak (Hh (wa.or Jk) ha hb hs) λσ H Q zz=>by
  refine cn zz λO ρ d hx hd q=>aa aa4 λx e1 hd=>aa aa4 λy e2 hd=>?_;refine⟨O,ρ,x,hx,e1,λv H1 s1 r1=>⟨O,ρ,y,hx.mono s1,e2,λw H2 s2 r2=>?_⟩⟩;have oJ:=r1.mono s2;cases y with
  |int k=>
   cases x with
   |lst xs=>
    refine bu oJ.lst λp vs af h1 h2=>?_;subst af;exact aa (item_at h2 hd) λu h3 h4=> .inl ⟨p,vs,k,u,rfl,r2.int,h1,h3,q u H2 (s1.trans s2) (.inl h4)⟩
   |tup xs=>
    refine bu oJ.tup λp vs aK h1 h2=>?_;subst aK;exact aa (item_at h2 hd) λu h3 h4=> .inr ⟨p,vs,k,u,rfl,r2.int,h1,h3,q u H2 (s1.trans s2) (.inl h4)⟩
   |_=>cases hd
  |_=>cases x<;>cases hd
def tO(K:aH)(f:Env->Option (Option Int)):TO:=λσ H Q=>∃O ρ o,EX K O σ H ρ/\f ρ=some o/\∀H',ae H H'->Q o H'
def Kq:PO X none (tO X.K λ_=>some none):=λU s σ H Q I zz=>by
 refine cn zz λO ρ o hx hd k=>?_;cases hd;exact El U s σ H Q I (k H (ae.refl _))
def Kr(h:PE X e (tV X.K false f)):PO X (some e) (tO X.K λρ=>((f ρ).bind DT).map some):=λU s σ H Q I zz=>by
 refine cn zz λO ρ o hx hd k=>aa (map_some hd) λi lu af=>?_;subst af;refine aa (bind_some lu) λd e1 km=>?_;cases tR km;exact Em h U s σ H Q I ⟨O,ρ,_,hx,e1,λv H1 s1 r1=>⟨i,r1.int,k H1 s1⟩⟩
def dF(n d:Nat)(o:Option Int):bound n d o=HT.cD n d o:=by
 cases o with
 |none=>rfl
 |some v=>
  have:=HT.qi v n d;show(if v<0 then max (v+(n:Int)) 0 else min v (n:Int)).toNat =_;rw[this];exact aaE _
def mX{K:aH}(h:aq K O H vs ds)(lo hi:Option Int):aq K O H (sk vs lo hi) (sA ds lo hi):=by
 unfold sk sA;rw[dF,dF,h.length];exact(h.drop _).take _
def OI{lo hi:Option Expr}(ha:PE X a (tV X.K true fa))(hl:PO X lo (tO X.K fl))(hh:PO X hi (tO X.K fh)):
  PE X (.Subscript a (.Slice lo hi none p2) pos) (tV X.K m λρ=>(fa ρ).bind λx=>(fl ρ).bind λl=>(fh ρ).bind λh=>cutD x l h):=
 PE.weak (sj (DQ.or wc EF) ha hl hh) λσ H Q zz=>by
  refine cn zz λO ρ d hx hd q=>aa aa4 λx e1 hd=>aa aa4 λl e2 hd=>aa aa4 λh e3 hd=>?_;refine⟨O,ρ,x,hx,e1,λv H1 s1 r1=>⟨O,ρ,l,hx.mono s1,e2,λH2 s2=>⟨O,ρ,h,hx.mono (s1.trans s2),e3,λH3 s3=>?_⟩⟩⟩;have oJ:=r1.mono (s2.trans s3);have zy:=(s1.trans s2).trans s3;cases x with
  |lst xs=>
   cases hd;refine bu oJ.lst λp vs af h1 h2=>?_;subst af;exact .inl ⟨p,vs,rfl,h1,λp' hp=>q _ _ (zy.trans (ae.upd hp)) (.inl (.lst (.inl ag) ((hx.mono zy).free (ae.refl _) hp) ((mX h2 l h).mono (ae.upd hp))))⟩
  |tup xs=>
   refine bu oJ.tup λp vs aK h1 h2=>?_;subst aK;cases hd;by_cases hw:bound xs.length 0 l=0/\bound xs.length xs.length h=xs.length
   .refine .inr (.inr ⟨p,vs,rfl,h1,by rw[<-dF,<-dF,h2.length];exact hw,q _ _ zy (.inl (.tup h1 ?_))⟩);have e:sA xs l h=xs:=by
     unfold sA;rw[hw.1,hw.2,ace,afs,List.take_length]
    rw[e];exact h2
   .refine .inr (.inl ⟨p,vs,rfl,h1,?_,λp' hp=>q _ _ (zy.trans (ae.upd hp)) (.inl (.tup (cT.of ag) ((mX h2 l h).mono (ae.upd hp))))⟩);rw[<-dF,<-dF,h2.length];exact hw
  |_=>cases hd
def S4{lo hi:Option Expr}(ha:PE X a (tV X.K true fa))(hl:PO X lo (tO X.K fl))(hh:PO X hi (tO X.K fh)):
  PE X (.Subscript a (.Slice lo hi none p2) pos) (tF X.K λρ=>((fa ρ).bind λx=>(fl ρ).bind λl=>(fh ρ).bind λh=>cutD x l h).bind λd=>match d with| .lst ds=>some ds|_=>none):=
 PE.weak (sj wc ha hl hh) λσ H Q zz=>by
  refine cn zz λO ρ ds hx hd q=>aa aa4 λd hd hz=>aa aa4 λx e1 hd=>aa aa4 λl e2 hd=>aa aa4 λh e3 hd=>?_;refine⟨O,ρ,x,hx,e1,λv H1 s1 r1=>⟨O,ρ,l,hx.mono s1,e2,λH2 s2=>⟨O,ρ,h,hx.mono (s1.trans s2),e3,λH3 s3=>?_⟩⟩⟩;have oJ:=r1.mono (s2.trans s3);have zy:=(s1.trans s2).trans s3;cases x with
  |lst xs=>
   cases hd;cases hz;refine bu oJ.lst λp vs af h1 h2=>?_;subst af;exact⟨p,vs,rfl,h1,λp' hp=>q p' _ H3 zy hp (mX h2 l h)⟩
  |tup xs=>cases hd;cases hz
  |_=>cases hd
end
section
variable {X:Cx}{a b c e e0:Expr}{es:List Expr}{pos p:Pos}{m:Bool}
def xc(K:aH)(n:Nat)(f:List D->Option D):Sp:=λvs H Q _=>∃O ds d,(∀a,O a->∃u,H a=some u/\tQ u)/\aq K O H vs ds/\f ds=some d/\vs.length=n/\∀v H',ae H H'->bx K O H' v d->Q v H'
def Ks{g:Bool->Env->Option (List D)}{ln:Env->Bool}(F:i_ X.prog X.w X.K X.mg X.base yJ k fa fd ps (xc X.K ps.length f))(hr:eK k X.A)(hg:Gl X x)(hm:X.mg x=some (.ref fa))
  (hk:PySem.W.keepIn X.K (.ref fa)=true) (hb:Binds X.K fd ps []) (hf:∀ds d,f ds=some d->ds.length=ps.length) (ha:∀b,PA X (e::es) (uD X.K b (g b))) (hl:∀ρ,ln ρ=false->g true ρ=g false ρ)
  (DO:ab4=false) (he:starEach (e::es) X.env=(false,eval e X.env)::starEach es X.env) (dw:(backTo pos (starEach es X.env)).any (·.1)=false):
  PE X (.Call (.Name x p) (e::es) [] pos) (tV X.K m λρ=>(g true ρ).bind λxs=>(f xs).bind λd=>if ln ρ&&!aI d then none else some d):=by
 intro U s σ H Q I zz;refine cn zz λO ρ d hx hd q=>?_;refine aa aa4 λxs e1 hd=>aa aa4 λd' e2 hd=>?_;cases S5:ln ρ with
 |false=>
  rw[S5]at hd;simp only[Bool.false_and,aaV,if_false]at hd;cases hd;rw[hl ρ S5]at e1;refine vZ F hr hg hm hk hb .nil AU (ha false) DO he dw U s σ H Q I ⟨O,ρ,xs,hx,e1,λvs H1 s1 r1=>?_⟩;have oJ:=iU r1;show xc X.K ps.length f (vs++[]) H1 Q E0;rw[aaf];exact⟨O,xs,d,(hx.mono s1).live,oJ,e2,by rw[oJ.length];exact hf _ _ e2,λv H2 s2 r2=>q v H2 (s1.trans s2) (.inl r2)⟩
 |true=>
  rw[S5]at hd;cases hn:aI d' with
  |false=>rw[hn]at hd;cases hd
  |true=>
   rw[hn]at hd;simp only[Bool.not_true,Bool.and_false,aaV,if_false]at hd;cases hd;refine vZ F hr hg hm hk hb .nil AU (ha true) DO he dw U s σ H Q I ⟨O,ρ,xs,hx,e1,λvs H1 s1 r1=>?_⟩;have oJ:=vy r1;show xc X.K ps.length f (vs++[]) H1 Q E0;rw[aaf];exact⟨λ_=>False,xs,d,λ_ z=>z.elim,oJ,e2,by rw[oJ.length];exact hf _ _ e2,λv H2 s2 r2=>q v H2 (s1.trans s2) (.inl (zx r2 hn))⟩
def kn(mk:∀t,PA X (e::es) t->PE X e0 (RK r t))(ha:PA X (e::es) (uD X.K true g))
  (hr:∀O σ (ρ:Env) H ds vs d Q,EX X.K O σ H ρ->Paired (bN X.K O true H) vs ds->pf ds=some d->(∀v H',ae H H'->bN X.K O m H' v d->Q v H')->r vs H Q):PE X e0 (tV X.K m λρ=>(g ρ).bind pf):=
 (mk _ ha).weak λσ H Q zz=>by
  exact cn zz λO ρ d hx hd q=>aa aa4 λxs e1 hd=>⟨O,ρ,xs,hx,e1,λvs H1 s1 r1=>hr O σ ρ H1 xs vs d Q (hx.mono s1) r1 hd λv H' s' r'=>q v H' (s1.trans s') r'⟩
def cy{K:aH}{b:Bool}(h:Paired (bN K O b H) vs [d]):∃v,vs=[v]/\bN K O b H v d:=by
 cases h with
 |cons r t=>cases t;exact⟨_,rfl,r⟩
theorem cu{K:aH}:∀{vs:List V}{ds:List D}{ns:List Int},aq K O H vs ds->aO ds=some ns->vs=ns.map V.int
 |_,_,_,.nil,h=>by cases h;rfl
 |_,_,ns,.cons (d:=d) r t,h=>by
  cases d with
  |int i=>
   simp only[aO]at h;refine aa (map_some h) λmd h1 af=>?_;subst af;rw[ZS,<-cu t h1,r.int_inv]
  |_=>cases h
def S6(K:aH):List V->Hp->VK->Prop:=λxs H Q=>∃p n ns,xs=[.ref p]/\(cZ K H p ((n::ns).map V.int)\/cT K H p ((n::ns).map V.int))/\Q (.int (iy n ns)) H
def zA(hc:X.calm=true):cC X (.builtin "min") (S6 X.K):=by
 intro U s σ H xs us Q I r zz;refine cn zz λp n ns e hq q=>?_;subst e;refine aa (vals1 r) λu af rx=>?_;subst af;cases rx;have fin:∀(h':Heap) (tk:Nat) (t:Tok),ab2->EP X U σ Q (.int (iy n ns) t) {s with heap:=h',toks:=tk}:=λh' tk t k=>⟨.int _,H,I.kept k,⟨_,rfl⟩,q⟩;rcases hq with hq|hq
 .exact bO (I.list hq) λits rv pl hz=>kS (I.ok.hd hc) (.inl pl.isList) (intsAre_of rv) fin
 .exact bO (I.tuple hq) λits rv pl hz=>kS (I.ok.hd hc) (.inr pl) (intsAre_of rv) fin
noncomputable def iH:uX->Str
 | .len =>"len"| .tuple =>"tuple"| .list =>"list"| .min =>"min"| .sorted =>"sorted"| .all =>"all"
theorem gz{K:aH}:∀{vs:List V}{ds:List D}{bs:List Bool},aq K O H vs ds->eF ds=some bs->vs=bs.map V.bl
 |_,_,_,.nil,h=>by cases h;rfl
 |_,_,bs,.cons (d:=d) r t,h=>by
  cases d with
  |bl i=>
   obtain⟨md,h1,rfl⟩:=map_some (show(eF _).map _=_ from h);rw[ZS,<-gz t h1,r.vx]
  |_=>exact nS h
theorem lN{K:aH}:∀{vs:List V}{ds:List D}{ks:List aa2},aq K O H vs ds->dh ds=some ks->Paired (TupAt H) vs ks/\∀k∈ks,k≠[]
 |_,_,_,.nil,h=>by cases h;exact⟨.nil,λ_ z=>nomatch z⟩
 |_,_,ks,.cons (d:=d) r t,h=>by
  cases d with
  |tup xs=>
   refine aa (bind_some (show(aO xs).bind _=_ from h)) λk h1 h=>?_;by_cases hk:k=[]
   .exact nS ((ZD hk).symm.trans h)
   .refine aa (map_some ((ZL hk).symm.trans h)) λXA h2 af=>?_;subst af;refine bu r.jE λa us aK q1 q2=>?_;subst aK;have e:=cu q2 h1;subst e;have p:=lN t h2;exact⟨.cons ⟨a,rfl,q1⟩ p.1,λz hz=>(ZC.mp hz).elim (λe=>by rw[e];exact hk) (p.2 z)⟩
  |_=>exact nS h
def xf{K:aH}(h:TupAt H u k):bx K O H u (lg k):=by
 refine aa h λb af hb=>?_
 try clear h
 subst af;exact .tup hb (fm k)
def mY{K:aH}:∀{us:List V}{ks:List aa2},Paired (TupAt H) us ks->aq K O H us (ks.map lg):=λ{us ks} h=>by
 induction h with
 |nil=>exact .nil
 |cons h t ih=>exact .cons (xf h) ih
def pK{q:uX}(hu:X.A.units+64<cLine)(hc:X.calm=true)(hg:Gl X (iH q))(hm:X.mg (iH q)=none)(ha:PA X (e::es) (uD X.K true g))
  (he:starEach (e::es) X.env=(false,eval e X.env)::starEach es X.env) (dw:(backTo pos (starEach es X.env)).any (·.1)=false):
  PE X (.Call (.Name (iH q) p) (e::es) [] pos) (tV X.K m λρ=>(g ρ).bind (prim q)):=by
 cases q with
 |len=>
  refine kn (λt ht=>dH qp hg hm PySem.boot_len ht aa1 aa1 he dw) ha λO σ ρ H ds vs d Q hx r hd q=>?_;cases ds with
  |nil=>cases hd
  |cons x t=>
   cases t with
   |cons _ _=>cases hd
   |nil=>
    refine aa (cy r) λv af rv=>?_;subst af;refine aa (map_some (show(seq x).map (λys=>D.int ys.length)=some d from hd)) λys h1 aK=>?_;subst aK;refine bu (rv.seq h1) λp us c5 h2 h3=>?_;subst c5;exact⟨p,us,rfl,h2,by rw[h3.length];exact q _ _ (ae.refl _) (.inl (.int _))⟩
 |tuple=>
  refine kn (λt ht=>dD oB hg hm boot_tuple ht aa1 aa1 he dw) ha λO σ ρ H ds vs d Q hx r hd q=>?_;cases ds with
  |nil=>cases hd
  |cons x t=>
   cases t with
   |cons _ _=>cases hd
   |nil=>
    refine aa (cy r) λv oG rv=>?_;subst oG;refine aa (map_some hd) λys h1 OJ=>?_;subst OJ;refine bu (rv.seq h1) λp us OK h2 h3=>?_;subst OK;refine⟨p,us,rfl,?_⟩;rcases h2 with h2|h2
    .exact .inl ⟨h2,λl hl=>q _ _ (ae.upd hl) (.inl (.tup (cT.of ag) (h3.mono (ae.upd hl))))⟩
    .exact .inr ⟨h2,q _ _ (ae.refl _) (.inl (.tup h2 h3))⟩
 |list=>
  refine kn (λt ht=>dD jd hg hm boot_list ht aa1 aa1 he dw) ha λO σ ρ H ds vs d Q hx r hd q=>?_;cases ds with
  |nil=>cases hd
  |cons x t=>
   cases t with
   |cons _ _=>cases hd
   |nil=>
    refine aa (cy r) λv Mr rv=>?_;subst Mr;refine aa (map_some hd) λys h1 S7=>?_;subst S7;refine bu (rv.seq h1) λp us XB h2 h3=>?_;subst XB;exact⟨p,us,rfl,h2,λl hl=>q _ _ (ae.upd hl) (.inl (.lst (.inl ag) (hx.free (ae.refl _) hl) (h3.mono (ae.upd hl))))⟩
 |min=>
  refine kn (λt ht=>dH ((zA hc).or (zc hc hu)) hg hm boot_min ht aa1 aa1 he dw) ha λO σ ρ H ds vs d Q hx r hd q=>?_;cases ds with
  |nil=>cases hd
  |cons x t=>
   cases t with
   |nil=>
    refine aa (cy r) λv Kt rv=>?_;subst Kt;refine aa (bind_some (o:=seq x) hd) λys h1 hd=>bu (rv.seq h1) λp us Ku h3 h4=>?_;subst Ku;cases h2:aO ys with
    |some ns=>
     rw[h2]at hd;cases ns with
     |nil=>cases hd
     |cons n ns=>
      cases hd;have:=cu h4 h2;subst this;exact .inl ⟨p,n,ns,rfl,h3,q _ _ (ae.refl _) (.inl (.int _))⟩
    |none=>
     rw[h2]at hd;cases x with
     |lst zs=>
      cases h1;refine bu rv.lst λp' XC e' S8 QP=>?_;cases e';refine aa aa4 λks h5 hd=>?_;cases ks with
      |nil=>cases hd
      |cons k ks=>
       cases hd;exact .inr ⟨p,XC,k,ks,rfl,S8,(lN QP h5).1,λu hu=>q _ _ (ae.refl _) (.inl (xf hu))⟩
     |_=>cases hd
   |cons y t=>cases hd
 |sorted=>
  refine kn (λt ht=>dH qO hg hm boot_sorted ht aa1 aa1 he dw) ha λO σ ρ H ds vs d Q hx r hd q=>?_;cases ds with
  |nil=>cases hd
  |cons x t=>
   cases t with
   |nil=>
    refine aa (cy r) λv Kv rv=>?_;subst Kv;refine aa (bind_some (show(seq x).bind (λys=>(dh ys).map λks=>D.lst ((bJ.aV ks).map lg))=some d from hd)) λys h1 hd=>aa (map_some hd) λks h5 S9=>?_;subst S9;refine bu (rv.seq h1) λp us S_ h3 h4=>?_;subst S_;obtain⟨p1,p2⟩:=lN h4 h5;exact⟨p,us,ks,rfl,h3,p1,p2,λl ws hl pw=>q _ _ (ae.upd hl) (.inl (.lst (.inl ag) (hx.free (ae.refl _) hl) ((mY pw).mono (ae.upd hl))))⟩
   |cons y t=>cases hd
 |all=>
  refine kn (λt ht=>dH (yT hc) hg hm boot_all ht aa1 aa1 he dw) ha λO σ ρ H ds vs d Q hx r hd q=>?_;cases ds with
  |nil=>cases hd
  |cons x t=>
   cases t with
   |cons _ _=>cases hd
   |nil=>
    cases x with
    |lst ys=>
     obtain⟨bs,hb,rfl⟩:=map_some (show(eF ys).map (λbs=>D.bl (bs.all id))=some d from hd);obtain⟨v,rfl,rv⟩:=cy r;obtain⟨p,us,rfl,h2,h3⟩:=rv.lst;have:=gz h3 hb;subst this;exact⟨p,bs,rfl,h2,q _ _ (ae.refl _) (.inl (.bl _))⟩
    |_=>cases hd
def f_list{g:Env->Option (List D)}(hg:Gl X "list")(hm:X.mg "list"=none)(ha:PA X (e::es) (uD X.K true g))
  (he:starEach (e::es) X.env=(false,eval e X.env)::starEach es X.env) (dw:(backTo pos (starEach es X.env)).any (·.1)=false):
  PE X (.Call (.Name "list" p) (e::es) [] pos) (tF X.K λρ=>(g ρ).bind λxs=>match xs with|[x]=>seq x|_=>none):=
 PE.weak (dD jd hg hm boot_list ha aa1 aa1 he dw) λσ H Q zz=>by
  refine cn zz λO ρ ds hx hd q=>aa aa4 λxs e1 hd=>⟨O,ρ,xs,hx,e1,λvs H1 s1 r=>?_⟩;cases xs with
  |nil=>cases hd
  |cons x t=>
   cases t with
   |cons _ _=>cases hd
   |nil=>
    refine aa (cy r) λv af rv=>?_;subst af;refine bu (rv.seq hd) λp us aK h2 h3=>?_;subst aK;exact⟨p,us,rfl,h2,λl hl=>q l us H1 s1 hl h3⟩
def Ta:List V->Hp->VK->Prop:=λxs H Q=>∃i:Bool,xs=[.bl i,.ty "bool"]/\Q (.bl true) H
def BP:cC X (.builtin "isinstance") Ta:=by
 intro U s σ H xs us Q I r zz;refine aa zz λi e q=>?_;subst e;obtain⟨u,u',rfl,ru,rt⟩:=vals2 r;cases ru;cases rt;exact IsiPair.bool_bool ⟨.bl _,H,I,rfl,q⟩
def OL{f:Env->Option D}{p':Pos}(ha:PE X a (tV X.K false f))(hg:Gl X "isinstance")(hm:X.mg "isinstance"=none)(XD:Gl X "bool")(XE:X.mg "bool"=none)
  (hs:starEach [a,.Name "bool" p'] X.env=(false,eval a X.env)::starEach [.Name "bool" p'] X.env):
  PE X (.Call (.Name "isinstance" p) [a,.Name "bool" p'] [] pos) (tV X.K m λρ=>((f ρ).bind eM).map λ_=> .bl true):=by
 have pt:PE X (.Name "bool" p') (tC (.ty "bool")):=D8 XD XE boot_bool rfl aa1 aa1;refine PE.weak (dH BP hg hm boot_isinstance (bX ha (bX pt df rfl) hs) aa1 aa1 hs (by rfl)) λσ H Q zz=>cn zz λO ρ d hx hd q=>aa (map_some hd) λi e1 af=>?_;subst af;refine aa (bind_some e1) λx e1 e2=>?_;cases dQ e2;exact⟨O,ρ,_,hx,e1,λv H1 s1 r1=>⟨i,by rw[r1.bl],q _ H1 s1 (.inl (.bl _))⟩⟩
noncomputable def oK(lo:Int):Nat->List V
 |0=>[]
 |n+1=> .int lo::oK (lo+1) n
theorem kq{K:aH}:∀(n:Nat) (lo:Int),aq K O H (oK lo n) (bS lo n)
 |0,_=> .nil
 |n+1,lo=> .cons (.int lo) (kq n (lo+1))
theorem gC:∀(n:Nat) (lo:Int),(oK lo n).length =n
 |0,_=>rfl
 |n+1,lo=>by rw[oK,ZM,gC n]
theorem kr:∀(n:Nat) (lo:Int) (us:List Value),us.length=n->(∀(j:Nat) (v:Value),us[j]?=some v->∃t,v=Value.int (lo+j) t)->aF (oK lo n) us
 |0,lo,us,hl,_=>by
  cases us with
  |nil=>exact .nil
  |cons _ _=>cases hl
 |n+1,lo,us,hl,h=>by
  cases us with
  |nil=>cases hl
  |cons u us=>
   obtain⟨t,e⟩:=h 0 u rfl;refine .cons ⟨t,by simpa using e⟩ (kr n (lo+1) us (by simpa using hl) λj v hj=>?_);obtain⟨t',e'⟩:=h (j+1) v (by simpa using hj);refine⟨t',?_⟩;rw[e'];congr 1
   push_cast
   lia
def xg(hg:Gl X "range")(hm:X.mg "range"=none)(ha:PA X [a] t)(hs:starEach [a] X.env=[(false,eval a X.env)]):PE X (.Call (.Name "range" p) [a] [] pos) (λσ H Q=>t σ H λvs H1=>∃hi:Int,vs=[.int hi]/\∀p,H1 p=none->Q (.ref p) (L2.upd H1 p (.gi 0 hi))):=by
 intro U s σ H Q I h;refine Call_ (jX I hg hm boot_range (abE (bH (ha pos U s σ H _ I h) λus s1 zz=>bu zz λvs H1 I1 r1 q1=>?_) hs rfl));refine aa q1 λhi e q=>?_;subst e;obtain⟨u,rfl,t',rfl⟩:=vals1 r1;refine call_range_1 ⟨.ref s1.heap.objs.size,_,I1.laid (o:= .gi 0 hi) (λb o e=>Zi _ e) (Zu _) ⟨_,_,_,ZF _ rfl⟩,rfl,q _ I1.fresh⟩
def vA(hc:X.calm=true):cC X (.type "list") (λxs H Q=>∃(p:Addr) (hi:Int),xs=[.ref p]/\H p=some (.gi 0 hi)/\(-(2 ^ 62)<=hi/\hi<=bV)/\∀l,H l=none->Q (.ref l) (L2.upd H l (.lst (oK 0 hi.toNat)))):=by
 intro U s σ H xs us Q I r ⟨p,hi,e,hp,⟨Kw,hl⟩,q⟩;subst e;refine aa (vals1 r) λu af rx=>?_;subst af;cases rx;refine MB ((show aT X.prog X.w H s.heap p (.gi 0 hi) from I.aX p _ hp)) λt u v ho=>?_;have zB:bV=16777216:=rfl;have BQ:Builtin.Range.rangeSize 0 hi 1=((hi.toNat:Nat):Int):=by rw[rangeSize_one];split<;>lia
 refine call_list_range (n:=hi.toNat) (I.ok.hd hc) ho (small_one aa1 aa1 Kw (abM hl aa1)) BQ (D4 hl) λh' tk JL c' kp hg gr=>⟨.ref s.heap.objs.size,_,I.laid (o:= .lst (oK 0 hi.toNat)) kp (Zu _) ⟨by rw[gC,cK];exact D4 hl,JL.toList,c',kr _ _ _ (by simpa using gr.1) (λj v hj=>?_),by simpa using hg⟩,rfl,q _ I.fresh⟩;obtain⟨t',e'⟩:=gr.2 j v (by simpa using hj);exact⟨t',by rw[e'];simp⟩
def tT(hc:X.calm=true):cC X (.type "tuple") (λxs H Q=>∃(p:Addr) (hi:Int),xs=[.ref p]/\H p=some (.gi 0 hi)/\(-(2 ^ 62)<=hi/\hi<=bV)/\∀l,H l=none->Q (.ref l) (L2.upd H l (.tup (oK 0 hi.toNat)))):=by
 intro U s σ H xs us Q I r ⟨p,hi,e,hp,⟨Kw,hl⟩,q⟩;subst e;refine aa (vals1 r) λu af rx=>?_;subst af;cases rx;refine MB ((show aT X.prog X.w H s.heap p (.gi 0 hi) from I.aX p _ hp)) λt u v ho=>?_;have zB:bV=16777216:=rfl;have BQ:Builtin.Range.rangeSize 0 hi 1=((hi.toNat:Nat):Int):=by rw[rangeSize_one];split<;>lia
 refine yS (n:=hi.toNat) (I.ok.hd hc) ho (small_one aa1 aa1 Kw (abM hl aa1)) BQ (D4 hl) λh' tk acc kp gr=>?_;have I1:Inv X U σ H {s with heap:=h'}:=I.kept (t':=s.toks) kp;have I2:Inv X U σ (L2.upd H h'.objs.size (.tup (oK 0 hi.toNat))) {s with heap:=h'.push {cls:= .type "tuple",data:= .seq acc},toks:=tk}:=
  I1.laid (t':=tk) (λb o e=>Zi _ e) (Zu _) (show aT X.prog X.w _ _ _ (.tup (oK 0 hi.toNat)) from⟨by rw[gC,cK];exact D4 hl,acc.toList,kr _ _ _ (by simpa using gr.1) (λj v hj=>by
   obtain⟨t',e'⟩:=gr.2 j v (by simpa using hj);exact⟨t',by rw[e'];simp⟩),by simpa using i7.new h' acc⟩)
 exact⟨.ref h'.objs.size,_,I2,rfl,q _ (I1.aX.fresh (Zu _))⟩
def BR{q1 rY:Pos}(hc:X.calm=true)(hg:Gl X "range")(hm:X.mg "range"=none)(DV:Gl X "tuple")(yM:X.mg "tuple"=none)(ha:PA X [a] (uD X.K false g))(hl:∀ρ ds,g ρ=some ds->ds.length=1)(hs:starEach [a] X.env=[(false,eval a X.env)]):
  PE X (.Call (.Name "tuple" q1) [.Call (.Name "range" p) [a] [] pos] [] rY) (tV X.K m λρ=>((g ρ).bind dj).map .tup):=by
 have h1:=xg (p:=p) (pos:=pos) hg hm ha hs;refine PE.weak (dD (tT hc) DV yM PyProof.Rows.boot_tuple (bX h1 df rfl) aa1 aa1 rfl rfl) λσ H Q zz=>cn zz λO ρ d hx hd q=>aa (map_some hd) λds oz af=>?_;subst af;clear hd;refine aa (bind_some oz) λxs e1 hd=>?_;clear oz;have qd:=hl ρ xs e1;refine⟨O,ρ,xs,hx,e1,λvs H1 s1 r=>?_⟩;cases xs with
 |nil=>cases qd
 |cons x t=>
  cases t with
  |cons _ _=>cases qd
  |nil=>
   refine aa (cy r) λv aK rv=>?_;subst aK;cases x with
   |int n=>
    simp only[dj]at hd;split at hd
    .rename_i hz;cases hd;cases rv.int;exact⟨n,rfl,λp hp=>⟨p,n,rfl,ag,hz,λl hl=>q _ _ ((s1.trans (ae.upd hp)).trans (ae.upd hl)) (.inl (.tup (cT.of ag) (kq _ _)))⟩⟩
    .cases hd
   |_=>cases hd
theorem ku:∀{ns:List Int}{j:Nat},cz k ns=some j->ns[j]?=some k/\∀m,m<j->ns[m]?≠some k
 |[],_,h=>by cases h
 |n::r,j,h=>by
  unfold cz at h;split at h
  .rename_i e;cases h;subst e;exact⟨rfl,λm hm=>absurd hm (aah _)⟩
  .rename_i ne;refine aa (map_some h) λi h1 af=>?_;subst af;obtain⟨h2,h3⟩:=ku h1;refine⟨h2,λm hm=>?_⟩;cases m with
   |zero=>exact λz=>ne (by simpa using z)
   |succ m=>exact h3 m (Z1 hm)
def BS{K:aH}(s:ae H H'){a:Addr}(h:cZ K H a vs):cZ K H' a vs:=h.elim (λh=> .inl (lL s h)) .inr
def Fm{oe a0:Expr}(ho:PE X oe (tV X.K true fo))(ha:PA X [a0] (uD X.K true g))(hb:attributeBase oe "index" X.env (eval oe X.env)=eval oe X.env)(hl:(ap.endLine==cp.line)=true)(hs:starEach [a0] X.env=[(false,eval a0 X.env)]):
  PE X (.Call (.Attribute oe "index" ap) [a0] [] cp) (tV X.K m λρ=>(fo ρ).bind λx=>(g ρ).bind λxs=>eL .index x xs):=
 (NM PySem.F.plainAttrs_tuple aee PySem.F.type_tuple_index A7 ho ha hb (by rw[hs];rfl) hl hs rfl).weak λσ H Q zz=>by
  refine cn zz λO ρ d hx hd k=>aa aa4 λx e1 hd=>aa aa4 λxs e2 hd=>?_;have key:∃ys kk,x= .tup ys/\xs=[.int kk]/\∃ns,aO ys=some ns/\∃j:Nat,cz kk ns=some j/\d= .int (j:Int):=by
   cases x with
   |tup ys=>
    cases xs with
    |nil=>cases hd
    |cons y t=>
     cases t with
     |cons _ _=>cases y<;>cases hd
     |nil=>
      cases y with
      |int kk=>
       exact aa (bind_some (show(aO ys).bind (λns=>(cz kk ns).map λ(i:Nat)=>D.int (i:Int))=some d from hd)) λns e3 h4=>aa (map_some h4) λj e4 e5=>⟨ys,kk,rfl,rfl,ns,e3,j,e4,e5.symm⟩
      |_=>cases hd
   |_=>cases hd
  obtain⟨ys,kk,rfl,rfl,ns,e3,j,e4,rfl⟩:=key;refine⟨O,ρ,.tup ys,hx,e1,λv H1 s1 r1=>?_⟩;refine bu r1.tup λa vs af q1 p1=>?_;subst af;refine⟨⟨a,vs,rfl,q1⟩,O,ρ,[.int kk],hx.mono s1,e2,λus H2 s2 r2=>?_⟩;refine aa (cy r2) λu aK ru=>?_;subst aK;have hv:vs=ns.map V.int:=cu p1 e3;subst hv;obtain⟨h1,h2⟩:=ku e4;exact⟨a,ns,kk,j,rfl,by rw[ru.int],jD s2 q1,h1,h2,k _ _ (s1.trans s2) (.inl (.int _))⟩
def BU{oe a0:Expr}(ho:PE X oe (tV X.K true fo))(ha:PA X [a0] (uD X.K true g))(hb:attributeBase oe "index" X.env (eval oe X.env)=eval oe X.env)(hl:(ap.endLine==cp.line)=true)(hs:starEach [a0] X.env=[(false,eval a0 X.env)]):
  PE X (.Call (.Attribute oe "index" ap) [a0] [] cp) (tV X.K m λρ=>(fo ρ).bind λx=>(g ρ).bind λxs=>eL .qt x xs):=
 (wd abB PySem.F.slot_list_index PySem.F.type_list_index yR ho ha hb (by rw[hs];rfl) hl hs rfl).weak λσ H Q zz=>by
  refine cn zz λO ρ d hx hd k=>aa aa4 λx e1 hd=>aa aa4 λxs e2 hd=>?_;have key:∃ys kk,x= .lst ys/\xs=[.int kk]/\∃ns,aO ys=some ns/\∃j:Nat,cz kk ns=some j/\d= .int (j:Int):=by
   cases x with
   |lst ys=>
    cases xs with
    |nil=>cases hd
    |cons y t=>
     cases t with
     |cons _ _=>cases y<;>cases hd
     |nil=>
      cases y with
      |int kk=>
       exact aa (bind_some (show(aO ys).bind (λns=>(cz kk ns).map λ(i:Nat)=>D.int (i:Int))=some d from hd)) λns e3 h4=>aa (map_some h4) λj e4 e5=>⟨ys,kk,rfl,rfl,ns,e3,j,e4,e5.symm⟩
      |_=>cases hd
   |_=>cases hd
  obtain⟨ys,kk,rfl,rfl,ns,e3,j,e4,rfl⟩:=key;refine⟨O,ρ,.lst ys,hx,e1,λv H1 s1 r1=>?_⟩;refine bu r1.lst λa vs af q1 p1=>?_;subst af;refine⟨.inl ⟨rfl,vs,q1⟩,O,ρ,[.int kk],hx.mono s1,e2,λus H2 s2 r2=>?_⟩;refine aa (cy r2) λu aK ru=>?_;subst aK;have hv:vs=ns.map V.int:=cu p1 e3;subst hv;obtain⟨h1,h2⟩:=ku e4;exact⟨a,ns,kk,j,rfl,by rw[ru.int],BS s2 q1,h1,h2,k _ _ (s1.trans s2) (.inl (.int _))⟩
inductive Sk where
 |tup|lst|bI (o:Obj) (ks:List aa2) (vs:List V)
abbrev Tc:=Option (Sk×V×List D)
def fu(K:aH)(O:Addr->Prop)(H:Hp):Tc->Prop
 |none=>True
 |some (.lst,v,ds)=>∃a vs,v= .ref a/\cZ K H a vs/\aq K O H vs ds
 |some (.tup,v,ds)=>∃a vs,v= .ref a/\cT K H a vs/\aq K O H vs ds
 |some (.bI o ks vs,v,ds)=>∃a,v= .ref a/\H a=some (.dC o (gh 0 ks vs))/\ks.length=vs.length/\mV 0 ks/\aq K O H vs ds
theorem fu.mono{K:aH}(h:fu K O H gU)(s:ae H H'):fu K O H' gU:=by
 rcases gU with _|⟨_|_|⟨o,ks,vs⟩,v,ds⟩
 .trivial
 .obtain⟨a,vs,e,h1,h2⟩:=h;exact⟨a,vs,e,jD (K:=K) s h1,h2.mono s⟩
 .obtain⟨a,vs,e,h1,h2⟩:=h;exact⟨a,vs,e,s.seq h1,h2.mono s⟩
 .obtain⟨a,e,h1,h2,h3,h4⟩:=h;exact⟨a,e,s _ _ h1,h2,h3,h4.mono s⟩
theorem fu.own{K:aH}{p:Addr}(h:fu K O H gU)(hp:H p=none):fu K (λa=>O a\/a=p) H gU:=by
 rcases gU with _|⟨_|_|⟨o,ks,vs⟩,v,ds⟩
 .trivial
 .obtain⟨a,vs,e,h1,h2⟩:=h;exact⟨a,vs,e,h1,h2.own hp⟩
 .obtain⟨a,vs,e,h1,h2⟩:=h;exact⟨a,vs,e,h1,h2.own hp⟩
 .obtain⟨a,e,h1,h2,h3,h4⟩:=h;exact⟨a,e,h1,h2,h3,h4.own hp⟩
def Kx(K:aH)(O:Addr->Prop)(b:Bool)(H:Hp):Tc->Prop
 |none=>True
 |some (.lst,v,ds)=>bN K O b H v (.lst ds)
 |some (.tup,v,ds)=>bN K O b H v (.tup ds)
 |some (.bI o ks vs,v,ds)=>fu K O H (some (.bI o ks vs,v,ds))
def Kx.ok{K:aH}{b:Bool}(h:Kx K O b H gU):fu K O H gU:=by
 rcases gU with _|⟨_|_|⟨o,ks,vs⟩,v,ds⟩
 .trivial
 .exact bN.tup h
 .exact bN.lst h
 .exact h
def vB(K:aH)(J:It)(gU:Tc)(ds:List D):Prop:=
 ∀O H,fu K O H gU->(∀i,i<ds.length->J.go i H)/\(∀i x H' d,J.AB i H x H'->ds[i]?=some d->ae H H'/\bx K O H' x d)/\J.stop ds.length H
def tI(K:aH)(b:Bool)(f:Env->Option (List D)):TI:=λσ H R=>∃O ρ ds,EX K O σ H ρ/\f ρ=some ds/\
 ∀J gU H',ae H H'->vB K J gU ds->Kx K O b H' gU->R J H'
def Ky{K:aH}{a:Addr}:vB K (Rx K a) (some (.lst,.ref a,ds)) ds:=λO H zz=>by
 refine bu zz λb vs e h1 h2=>?_;cases e;have l:=h2.length;refine⟨λi hi=>?_,λi x H' d ⟨e,y⟩ hd=>?_,vs,h1,Zy l⟩
 .have gr:i<vs.length:=(Zn hi (Zy (aad l)));exact⟨vs,vs[i],h1,by simp[gr]⟩
 .subst e;refine aa (h2.get hd) λv e1 e2=>?_;have:=y vs h1;rw[e1]at this;cases this;exact⟨ae.refl _,e2⟩
def Kz{K:aH}{a:Addr}:vB K (Ry K a) (some (.tup,.ref a,ds)) ds:=λO H zz=>by
 refine bu zz λb vs e h1 h2=>?_;cases e;have l:=h2.length;refine⟨λi hi=>?_,λi x H' d ⟨e,y⟩ hd=>?_,vs,h1,Zy l⟩
 .have gr:i<vs.length:=(Zn hi (Zy (aad l)));exact⟨vs,vs[i],h1,by simp[gr]⟩
 .subst e;refine aa (h2.get hd) λv e1 e2=>?_;have:=y vs h1;rw[e1]at this;cases this;exact⟨ae.refl _,e2⟩
theorem gD:∀(n:Nat) (lo:Int),(bS lo n).length =n
 |0,_=>rfl
 |n+1,lo=>by rw[bS,ZM,gD n]
theorem tU:∀(n:Nat) (lo:Int) (i:Nat) (d:D),(bS lo n)[i]?=some d->d= .int (lo+i)
 |0,lo,i,d,h=>by simp[bS]at h
 |n+1,lo,0,d,h=>by simp[bS]at h;subst h;simp
 |n+1,lo,i+1,d,h=>by
  simp[bS]at h;rw[tU n (lo+1) i d h];congr 1
  push_cast
  lia
def KA{K:aH}{lo:Int}:vB K (Qn lo n) none (bS lo n):=λO H _=>by
 refine⟨λi hi=>?_,λi x H' d ⟨e,y⟩ hd=>?_,?_⟩
 .rw[gD]at hi;exact hi
 .subst e y;rw[tU n lo i d hd];exact⟨ae.refl _,.int _⟩
 .show n<=(bS lo n).length;rw[gD];exact Zu _
def Td(h:PE X a (tV X.K m f)):PI X tg a (tI X.K m λρ=>(f ρ).bind seq):=by
 intro U s σ H R I zz;refine cn zz λO ρ ds hx hd q=>?_;refine aa aa4 λd e1 hd=>bH (h U s σ H (λv H1=>ae H H1/\bN X.K O m H1 v d) I ⟨O,ρ,d,hx,e1,λv H' s' r'=>⟨s',r'⟩⟩) λv s1 zz=>gQ zz λx H1 I1 r1 s' rb=>?_;cases d with
 |lst xs=>
  cases hd;refine bu rb.lst λp vs af h1 h2=>?_;subst af;cases r1;refine bO (I1.list h1) λits rv pl hz=>abS pl.isList ?_;refine⟨s1.heap.objs.size,[s1.heap.objs.size],_,Rx X.K p,H1,rfl,I1.kept (t':=s1.toks) λb o e=>Zi _ e,yB p _,⟨_,ZF _ rfl,rfl,rfl⟩,λb hb=>?_,q _ (some (.lst,.ref p,ds)) H1 s' Ky rb⟩;have e:b=s1.heap.objs.size:=by simpa using hb
  subst e;exact I1.yA (Zu _) (I1.aX.fresh (Zu _))
 |tup xs=>
  cases hd;refine bu rb.tup λp vs aK h1 h2=>?_;subst aK;cases r1;refine bO (I1.tuple h1) λits rv pl hz=>aci (show s1.heap.IsTuple p its.toArray from pl) ?_;refine⟨s1.heap.objs.size,[s1.heap.objs.size],_,Ry X.K p,H1,rfl,I1.kept (t':=s1.toks) λb o e=>Zi _ e,uI p _,⟨_,ZF _ rfl,rfl,rfl⟩,λb hb=>?_,q _ (some (.tup,.ref p,ds)) H1 s' Kz rb⟩;have e:b=s1.heap.objs.size:=by simpa using hb
  subst e;exact I1.yA (Zu _) (I1.aX.fresh (Zu _))
 |_=>cases hd
theorem dq:∀(xs:List D) (k:Int),(aQ k xs).length =xs.length
 |[],_=>rfl
 |_::r,k=>by rw[aQ,ZM,ZM,dq r]
theorem jH:∀(xs:List D) (k:Int) (i:Nat) (d:D),(aQ k xs)[i]?=some d->∃y,xs[i]?=some y/\d= .tup [.int (k+i),y]
 |[],_,_,_,h=>by simp[aQ]at h
 |x::r,k,0,d,h=>by
  simp[aQ]at h;exact⟨x,rfl,by rw[<-h];simp⟩
 |x::r,k,i+1,d,h=>by
  refine aa (jH r (k+1) i d (by simpa[aQ]using h)) λy h1 h2=>⟨y,by simpa using h1,?_⟩;rw[h2,show k+1+(i:Int)=k+((i+1:Nat):Int) by push_cast;lia]
def BV{K:aH}{a:Addr}(hS:∀O H,fu K O H (some (k,.ref a,ds))->∃vs,Sq H vs/\aq K O H vs ds):vB K (QA Sq) (some (k,.ref a,ds)) (aQ 0 ds):=λO H h=>by
 obtain⟨vs,hq,hr⟩:=hS O H h;have hl:=hr.length;refine⟨λi hi=>?_,λi x H' d hy hd=>?_,?_⟩
 .rw[dq,<-hl]at hi;exact⟨vs,vs[i],hq,by simp[hi]⟩
 .obtain⟨t,y,ht,rfl,rfl,hy⟩:=hy;obtain⟨z,h1,rfl⟩:=jH ds 0 i d hd;obtain⟨v,e1,e2⟩:=hr.get h1;have:y=v:=by
   have q:=hy vs hq;rw[e1]at q;exact(ZU q).symm
  subst this;refine⟨ae.upd ht,.tup (cT.of ag) (.cons ?_ (.cons (e2.mono (ae.upd ht)) .nil))⟩;have e0:(0:Int)+(i:Int)=i:=(Uw (Z6 _) (Z6 _) (aav _));rw[e0];exact .int _
 .exact⟨vs,hq,by rw[dq];exact hl⟩
def OM{elts:List Expr}(hg:Gl X "enumerate")(hm:X.mg "enumerate"=none)(ha:PE X a (tV X.K m f))(hs:starEach [a] X.env=[(false,eval a X.env)]):
  PI X (.Tuple elts k0 tpos) (.Call (.Name "enumerate" p) [a] [] pos) (tI X.K m λρ=>(f ρ).bind λx=>(seq x).map (aQ 0)):=by
 have h1:=EC (X:=X) (a:=a) (p:=p) (pos:=pos) (elts:=elts) (k0:=k0) (tpos:=tpos) hg hm (bX ha df hs) hs;intro U s σ H R I zz;refine cn zz λO ρ ds hx hd q=>?_;refine aa aa4 λx e1 hd=>aa (map_some hd) λxs e2 af=>?_;subst af;refine h1 U s σ H R I ⟨O,ρ,x,hx,e1,λv H1 s1 r1=>?_⟩;cases x with
 |tup ys=>
  cases e2;refine bu r1.tup λb vs aK q1 p1=>?_;subst aK;refine⟨b,vs,rfl,.inl ⟨q1,q _ (some (.tup,.ref b,xs)) H1 s1 (BV λO' H' h=>?_) r1⟩⟩;refine bu h λc us e h2 h3=>?_;cases e;exact⟨us,h2,h3⟩
 |lst ys=>
  cases e2;refine bu r1.lst λb vs c5 q1 p1=>?_;subst c5;refine⟨b,vs,rfl,.inr ⟨q1,q _ (some (.lst,.ref b,xs)) H1 s1 (BV λO' H' h=>?_) r1⟩⟩;refine bu h λc us e h2 h3=>?_;cases e;exact⟨us,h2,h3⟩
 |_=>cases e2
def BW{κ:Type}{f:List Int->κ}{ks:List aa2}{vs:List V}(hl:ks.length=vs.length){i:Nat}(hi:i<ks.length):((ks.map f).zip vs)[i]?=some (f ks[i],vs[i]'(hl▸hi)):=
 aea.mpr ⟨by rw[Zz,Zj hi];rfl,Zj (hl▸hi)⟩
def jI:gh 0 ks vs= .dK ((ks.map λk=>(Sum.inl (k.headD 0):cS)).zip vs):=by unfold gh;rw[ZD rfl]
def Fn{K:aH}{a:Addr}{ks:List aa2}(hl:ks.length=vs.length):vB K (SA a o ((ks.map λk=>(Sum.inl (k.headD 0):cS)).zip vs)) (some (.bI o ks vs,.ref a,ds)) (ks.map λk=> .int (k.headD 0)):=λO H zz=>by
 refine L8 zz λb e h1 h2 h3 h4=>?_;cases e;rw[jI]at h1;have len:((ks.map λk=>(Sum.inl (k.headD 0):cS)).zip vs).length =ks.length:=by rw[acW,Zo,hl,adV]
 refine⟨λi hi=>⟨h1,by rw[len];simpa using hi⟩,λi x H' d ⟨e,y⟩ hd=>?_,h1,by rw[len,Zo]⟩;subst e;have hi:i<ks.length:=by
  have:=(ZJ.mp hd).1;simpa using this
 rw[BW hl hi]at y;rw[Zz,Zj hi]at hd;cases hd;cases y;exact⟨ae.refl _,.int _⟩
def Fo{K:aH}{a:Addr}{ks:List aa2}(hl:ks.length=vs.length)(lu:vs.length=ds.length):vB K (SJ a o ((ks.map λk=>(Sum.inl (k.headD 0):cS)).zip vs)) (some (.bI o ks vs,.ref a,ds)) ds:=λO H zz=>by
 refine L8 zz λb e h1 h2 h3 h4=>?_;cases e;rw[jI]at h1;have len:((ks.map λk=>(Sum.inl (k.headD 0):cS)).zip vs).length =ks.length:=by rw[acW,Zo,hl,adV]
 refine⟨λi hi=>⟨h1,by rw[len];exact DL (aad hl) (DL (aad lu) hi)⟩,λi x H' d ⟨e,y⟩ hd=>?_,h1,by rw[len];exact aeS (aad lu) (aad hl)⟩;subst e;refine aa (h4.get hd) λv e1 e2=>?_;have hi:i<ks.length:=by
  have:=(ZJ.mp e1).1;exact Zn this (Zy (aad hl))
 rw[BW hl hi]at y;cases y;rw[Zj (Zn hi (Zy hl))]at e1;cases e1;exact⟨ae.refl _,e2⟩
def EX.ON{K:aH}(hx:EX K O σ H ρ){i:Nat}(h:ρ[i]?=some (some (false,.bI 0 ks ds))):∃a o vs,σ[i]?=some (some (.ref a))/\H a=some (.dC o (gh 0 ks vs))/\ks.length=vs.length/\mV 0 ks/\aq K O H vs ds:=by
 refine aa (hx.j7 i false _ h) λv q1 q2=>?_;have XF:bx K O H v (.bI 0 ks ds):=q2;cases XF with
 |bI g1 g2 g3 g4=>exact⟨_,_,_,q1,g1,g2,g3,g4⟩
def Te{tg:Expr}(hj:PE X a (de j)):PI X tg a (tI X.K m λρ=>keysAt ρ j):=by
 intro U s σ H R I zz;refine cn zz λO ρ ds hx hd q=>?_;have hd:keysAt ρ j=some ds:=hd;unfold keysAt at hd;refine slot (λe=>nS (by rw[e]at hd;exact hd)) (λe=>nS (by rw[e]at hd;exact hd)) λo d e=>?_;rw[e]at hd;cases o with
 |true=>exact nS hd
 |false=>cases d with
  |bI t ks xs=>cases t with
   |zero=>
    cases (show some _=some ds from hd);refine uz (hx.ON e) λb o vs e1 e2 e3 e4 e5=>?_;refine NW hj U s σ H R I ⟨.ref b,e1,b,o,_,rfl,by rw[e2,jI],q _ (some (.bI o ks vs,.ref b,xs)) H (ae.refl _) (Fn e3) ⟨b,rfl,e2,e3,e4,e5⟩⟩
   |succ=>exact nS hd
  |_=>exact nS hd
def Tf{tg:Expr}(hj:PE X a (de j))(je:attributeBase a "values" X.env (eval a X.env)=eval a X.env)(jf:(ap.endLine==cp.line)=true):PI X tg (.Call (.Attribute a "values" ap) [] [] cp) (tI X.K m λρ=>qw ρ j):=by
 intro U s σ H R I zz;refine cn zz λO ρ ds hx hd q=>?_;have hd:qw ρ j=some ds:=hd;unfold qw at hd;refine slot (λe=>nS (by rw[e]at hd;exact hd)) (λe=>nS (by rw[e]at hd;exact hd)) λo d e=>?_;rw[e]at hd;cases o with
 |true=>exact nS hd
 |false=>cases d with
  |bI t ks xs=>cases t with
   |zero=>
    cases (show some _=some ds from hd);refine uz (hx.ON e) λb o vs e1 e2 e3 e4 e5=>?_;refine Oh hj je jf U s σ H R I ⟨.ref b,e1,b,o,_,rfl,by rw[e2,jI],q _ (some (.bI o ks vs,.ref b,ds)) H (ae.refl _) (Fo e3 e5.length) ⟨b,rfl,e2,e3,e4,e5⟩⟩
   |succ=>exact nS hd
  |_=>exact nS hd
end
section
variable {X:Cx}{a b c e:Expr}{es:List Expr}{pos p:Pos}{m:Bool}
def EX.ext{K:aH}{p:Addr}(h:EX K O σ H1 ρ)(hp:H1 p=none)(s:ae H1 H)(e:H p=some (.lst vs)):EX K (λa=>O a\/a=p) σ H ρ:=by
 refine⟨λa ha=>?_,λi o d hi=>?_⟩
 .rcases ha with ha|ha
  .exact aa (h.live a ha) λus q qo=>⟨us,s _ _ q,qo⟩
  .subst ha;exact⟨_,e,trivial⟩
 .refine aa (h.j7 i o d hi) λv h1 h2=>⟨v,h1,?_⟩;cases o with
  |true=>
   exact bO h2 λa e1 e2 c=>⟨a,e1,.inl e2,(c.own hp).mono s⟩
  |false=>exact(bx.own h2 hp).mono s
def zC(h:o.join=some x):o=some (some x):=by
 cases o with
 |none=>cases h
 |some y=>cases y with
  |none=>cases h
  |some z=>cases h;rfl
theorem EX.inner{K:aH}(h:EX K O σ H ρ)(r:aq K O H us ys)(fr:List Nat):EX K O (us.map some++jh fr σ) H (inner ys ρ fr):=by
 refine⟨h.live,λi o d' hi=>?_⟩;unfold Py.inner at hi;have hl:=r.length;by_cases aU:i<ys.length
 .rw[aao (by simpa using aU),Zz]at hi;obtain⟨y,e1,e2⟩:=map_some hi;cases e2;obtain⟨v,f1,f2⟩:=r.get e1;exact⟨v,by rw[aao (by simpa[hl]using aU),Zz,f1];rfl,f2⟩
 .rw[aar (by simpa using aU),Zo]at hi;unfold Ny at hi;rw[Zz]at hi;refine aa (map_some hi) λi0 e0 hj=>aa (h.j7 i0 o d' (zC hj)) λw h1 h2=>⟨w,?_,h2⟩;rw[aar (by simpa[hl]using aU),Zo,hl];unfold jh;rw[Zz,e0];show some (σ[i0]?).join =_;rw[h1];rfl
noncomputable def pL(tg:Nat)(fs:Env->Option Bool)(fe:Env->Option D)(fr:List Nat)(ρ:Env)(y:D):Option (Option D):=(ay tg y).bind λys=>(fs (inner ys ρ fr)).bind λk=>if k then(fe (inner ys ρ fr)).map some else some none
def Ve(K:aH)(k tg:Nat)(g:TG):Prop:=∀O x H d ys bg Q,bx K O H x d->ay tg d=some ys->(∀us,aq K O H us ys->Q (us.map some++bg) H)->g x (List.replicate k none++bg) H Q
def OO{K:aH}:Ve K 1 0 (cJ 0):=λO x H d ys bg Q r e q=>by
 cases e;exact q [x] (.cons r .nil)
def pM{K:aH}(hg:Ve K k tg g)(σ:St)(H:Hp)(Q:VK)
  (h:tF K (λρ=>(fi ρ).bind λxs=>if xs.length<=bV then walk (pL tg fs fe fr ρ) xs else none) σ H Q):ph k fr (tI K true fi) g (tB K fs) (tV K false fe) σ H Q:=by
 refine cn h λO ρ out hx hd q=>aa aa4 λxs e1 hd=>?_;split at hd
 .rename_i hz;refine⟨O,ρ,xs,hx,e1,λJ gU H1 s1 BX tW p hp=>?_⟩;have tX:=hx.mono s1;have KC:fu K (λa=>O a\/a=p) H1 gU:=tW.ok.own hp;refine⟨λi m H'=>m=xs.length-i/\i<=xs.length/\ae H1 H'/\∃vs ys bg,H' p=some (.lst vs)/\aq K (λa=>O a\/a=p) H' vs ys/\ys.length<=i/\walk (pL tg fs fe fr ρ) (xs.drop i)=some bg/\out=ys++bg,
   ⟨xs.length,rfl,aak _,ae.upd hp,[],[],out,ag,.nil,Zu _,hd,rfl⟩,?_⟩
  rintro i mm H2 ⟨rfl,hi,s2,vs,ys,bg,ep,rp,hl,hw,ho⟩;refine cP (BX _ H2 (KC.mono s2)) λgo AB stop=>?_;by_cases aU:i<xs.length
  .refine .inr ⟨go i aU,λx H3 hy=>?_⟩;have Tg:xs[i]?=some xs[i]:=by simp[aU]
   obtain⟨s3,rx⟩:=AB i x H3 _ hy Tg;have OP:H3 p=some (.lst vs):=s3 _ _ ep;have Th:EX K (λa=>O a\/a=p) σ H3 ρ:=tX.ext hp (s2.trans s3) OP;have dr:xs.drop i=xs[i]::xs.drop (i+1):=(aaz aU);rw[dr,walk]at hw;have ht:pL tg fs fe fr ρ xs[i]=(ay tg xs[i]).bind λys=>(fs (Py.inner ys ρ fr)).bind λk=>if k then(fe (Py.inner ys ρ fr)).map some else some none:=rfl
   rw[ht]at hw;cases Ti:ay tg xs[i]with
   |none=>rw[Ti]at hw;cases hw
   |some zs=>
   rw[Ti,aaB]at hw;refine hg _ x H3 _ zs _ _ rx Ti λus XG=>?_;have OQ:=Th.inner XG fr;cases ek:fs (Py.inner zs ρ fr)with
   |none=>rw[ek]at hw;cases hw
   |some k=>
    rw[ek]at hw;refine⟨_,_,k,OQ,ek,λH4 s4=>?_⟩;have Vf:H4 p=some (.lst vs):=s4 _ _ OP;cases k with
    |false=>
     refine oC ⟨xs.length-(i+1),(afe (acs aU)),rfl,aU,(s2.trans s3).trans s4,vs,ys,bg,Vf,rp.mono (s3.trans s4),ael hl,?_,ho⟩;simpa using hw
    |true=>
     cases ee:fe (Py.inner zs ρ fr)with
     |none=>rw[aaB,ZD rfl,ee]at hw;cases hw
     |some d=>
      rw[aaB,ZD rfl,ee]at hw;simp only[aco]at hw;refine aa (map_some hw) λBY xh OR=>mf ⟨_,_,d,OQ.mono s4,ee,λv H5 s5 r5=>?_⟩;have Vg:H5 p=some (.lst vs):=s5 _ _ Vf;have XH:ae H1 H5:=((s2.trans s3).trans s4).trans s5;refine⟨vs,xs.length-(i+1),Vg,by rw[rp.length,cK];exact Z4 hl (Zn aU hz),(afe (acs aU)),rfl,aU,λbb oo eb=>?_,vs++[v],ys++[d],BY,ag,?_,?_,xh,?_⟩
      .rw[ai (b6 eb hp)];exact XH _ _ eb
      .exact((rp.mono ((s3.trans s4).trans s5)).append (.cons r5.own .nil)).upd (.inr rfl) Vg trivial
      .rw[Zw,aab];exact aaq hl
      .rw[ho,<-OR,ZW];rfl
  .have ei:i=xs.length:=(acX hi (ZZ aU));subst ei;refine .inl ⟨stop,?_⟩;rw[aeD,walk]at hw;cases hw;rw[aaf]at ho;subst ho;have XI:H p=none:=by
    cases z:H p with
    |none=>rfl
    |some o=>rw[s1 _ _ z]at hp;cases hp
   let H0:Hp:=λb=>if b=p then none else H2 b
   have e0:L2.upd H0 p (.lst vs)=H2:=by
    funext b;unfold L2.upd;by_cases hb:b=p
    .rw[ZD hb,hb,ep]
    .rw[ZL hb];exact ZL hb
   have k0:∀b,b≠p->H0 b=H2 b:=λb hb=>ZL hb;rw[<-e0];refine q p vs H0 (λb o eb=>?_) (ZD rfl) ?_
   .rw[k0 b (λz=>by rw[z,XI]at eb;cases eb)];exact s2 _ _ (s1 _ _ eb)
   .refine fj (λb us hb=>?_) (λb us hb nb=>⟨?_,λz=>nb (Or.inl z)⟩) (λb o u hb=>by rw[k0 b (fX hb ep (by intro z;cases z))];exact hb) rp
    .have ja:H2 b=some (.tup us):=hb;show H0 b=some (.tup us);rw[k0 b (fX ja ep (by intro z;cases z))];exact ja
    .rcases hb with hb|⟨u,hb⟩
     .exact .inl (by rw[k0 b (λz=>nb (.inr z))];exact hb)
     .exact .inr ⟨u,by rw[k0 b (λz=>nb (.inr z))];exact hb⟩
 .cases hd
def QQ:qr 1 (cJ 0):=λx σ H Q h=>⟨h,aag ..,λi hi=>by rw[ZV (ZT hi)]⟩
def KD(hi:PI X (.Name x q) iter (tI X.K true fi))(S:Jv X.N X.env.scope sc N' 1 fr)(hc:X.calm=true)
  (AY:∀cl C U s H ex,PG (ir X sc cl C N' U s H ex) (.Name x q) (cJ 0)/\yL (ir X sc cl C N' U s H ex) ifs (tB X.K fs)/\PE (ir X sc cl C N' U s H ex) eE (tV X.K false fe))
  (hs:∀x,foldedSetIterable iter X.env x=pure x):PE X (.ListComp eE [⟨.Name x q,iter,ifs,0⟩] sc pos) (tF X.K λρ=>(fi ρ).bind λxs=>if xs.length<=bV then walk (pL 0 fs fe fr ρ) xs else none):=
 (wj hi S hc QQ AY hs).weak λσ H Q h=>pM OO σ H Q h
def BZ:yL X [] (tB X.K λ_=>some true):=λU s σ H Q I zz=>by
 refine cn zz λO ρ k hx hd q=>?_;cases hd;exact Ew U s σ H Q I (q H (ae.refl _))
def Fp{f:Env->Option D}(h:PT X c (tB X.K λρ=>(f ρ).bind eM))(hr:yL X es (tB X.K g)):yL X (c::es) (tB X.K λρ=>((f ρ).bind eM).bind λx=>if x=true then g ρ else some x):=λU s σ H Q I zz=>by
 refine cn zz λO ρ k hx hd q=>aa aa4 λx e1 hd=>AW h hr U s σ H Q I ⟨O,ρ,x,hx,e1,λH1 s1=>?_⟩;cases x with
 |true=>exact mf ⟨O,ρ,k,hx.mono s1,by rw[ZD rfl]at hd;exact hd,λH2 s2=>q H2 (s1.trans s2)⟩
 |false=>rw[ZL Zl]at hd;cases hd;exact oC (q H1 s1)
end
abbrev GT:=List Str×List (Str×Int)
noncomputable def q5(sc:Scope)(x:Str):Bool:=match sc.names.lookup x with|some .local =>true|some .cell =>true|some .free =>true|_=>false
noncomputable def gf(sc:Scope)(x:Str):Bool:=match sc.names.lookup x with|some .globalImplicit =>true|_=>false
noncomputable def zD(x:Str):Bool:=!ab4&&!(x==("__classdict__":Str))
noncomputable def bD:Expr->Bool| .Starred _ _=>false|_=>true
noncomputable def cb:Expr->Bool| .Slice _ _ _ _=>false|_=>true
noncomputable def gE:Expr->Bool| .Set _ _ _=>false|_=>true
noncomputable def B0:Expr->Bool| .Name _ _=>true| .Subscript _ _ _=>true| .Constant _ _ _=>true|_=>false
noncomputable def Vh:Const->Bool| .int i=>decide (i=1)|_=>false
noncomputable def Vi:D->Const->Bool
 | .cx,.none =>true
 | .bl b,.bool c=>b==c
 | .int i,.int j=>decide (i=j)
 |_,_=>false
noncomputable def OS(G:GT)(x:Str):D->Bool| .int i=>decide ((x,i)∈G.2)|_=>false
noncomputable def kX(sc DS:Scope):Scope:={sc with names:=sc.names.map λ(n,k)=>if(k == .free&&DS.kind == .function&&DS.names.lookup n==some .cell) then(n,.cell) else(n,k)}
noncomputable def oM(N:List Str)(xs:List Str)(fr:List Nat):List Str:=xs++fr.map λi=>N.getD i ""
noncomputable def zE(N:List Str)(DS sc:Scope)(xs:List Str)(fr:List Nat):Bool:=
 decide (sc.kind= .function)&&sc.names.all (λy=>decide (y.2= .free ->(y.1,NameKind.cell)∉sc.names))&&sc.names.all (λy=>decide (y.2= .local ->sc.names.lookup y.1=some .local)) &&
 sc.names.all (λy=>decide (y.2= .free ->DS.names.lookup y.1=some .cell \/DS.names.lookup y.1=some .free)) &&
 fr.all (λi=>match N[i]? with|some y=>decide (sc.names.lookup y=some .free)|none=>false)&&xs.all (λx=>decide (sc.names.lookup x=some .local \/sc.names.lookup x=some .cell))&&decide (oM N xs fr).Nodup
noncomputable def Fq(_:E):Bool:=true
noncomputable def fresh:E->Bool
 | .lst _=>true
 | .comp _ _ _ _ _=>true
 | .bin .Add _ _=>true
 | .prim .list _=>true
 | .rM .list _=>true
 | .sl _ _ _=>true
 |_=>false
noncomputable def c9(N:List Str)(sc:Scope)(i:Nat)(e:Expr):Bool:=match e with| .Name x _=>decide (N[i]?=some x)&&q5 sc x&&zD x|_=>false
noncomputable def fP(e:Expr)(k:Str->Bool):Bool:=match e with| .Name x _=>k x|_=>false
noncomputable def q_(e:Expr)(k:Expr->List Expr->Pos->Bool):Bool:=match e with| .Call f a s p=>s.isEmpty&&k f a p|_=>false
noncomputable def B1(e:Expr)(k:Expr->Str->Pos->Bool):Bool:=match e with| .Attribute o n p=>k o n p|_=>false
noncomputable def tY(e:Expr)(k:Expr->Expr->Bool):Bool:=match e with| .Subscript v s _=>k v s|_=>false
noncomputable def vD(e:Expr)(k:List (Option Expr)->List Expr->Bool):Bool:=match e with| .Dict a b _=>k a b|_=>false
noncomputable def KG(e:Expr)(k:Expr->List Comprehension->Scope->Bool):Bool:=match e with| .ListComp a b c _=>k a b c|_=>false
noncomputable def HH(e:Expr)(k:Expr->List CmpOp->List Expr->Bool):Bool:=match e with| .Compare l a b _=>k l a b|_=>false
noncomputable def pN(st:Stmt)(k:List Expr->Expr->Bool):Bool:=match st with| .Assign t v _=>k t v|_=>false
noncomputable def mZ(st:Stmt)(k:Expr->Bool):Bool:=match st with| .Expr e _=>k e|_=>false
noncomputable def oN(l:List α)(k:α->Bool):Bool:=match l with|[]=>false|a::r=>r.isEmpty&&k a
noncomputable def Tj(l:List α)(k:α->α->Bool):Bool:=match l with|[]=>false|a::r=>oN r (k a)
noncomputable def vE(o:Option α)(k:α->Bool):Bool:=match o with|none=>false|some a=>k a
noncomputable def m6(e:Expr)(k:Str->List Expr->Bool):Bool:=q_ e λf a _=>fP f λx=>k x a
noncomputable def m7(e:Expr)(k:Expr->Str->List Expr->Bool->Bool):Bool:=q_ e λf a cp=>B1 f λo n ap=>k o n a (ap.endLine==cp.line)
noncomputable def vF(st:Stmt)(k:Str->Expr->Bool):Bool:=pN st λt v=>oN t λe=>fP e λx=>k x v
noncomputable def KH(e:Expr)(k:Expr->CmpOp->Expr->Bool):Bool:=HH e λl a b=>oN a λo=>oN b λr=>k l o r
noncomputable def m8(e:Expr)(k:Str->Expr->Bool):Bool:=m6 e λx a=>oN a (k x)
section
variable {e:Expr}{st:Stmt}
def cF(h:fP e k=true):∃x p,e= .Name x p/\k x=true:=by
 cases e with
 |Name x p=>exact⟨x,p,rfl,h⟩
 |_=>cases h
def ky(h:q_ e k=true):∃f a p,e= .Call f a [] p/\k f a p=true:=by
 cases e with
 |Call f a s p=>
  have h':(s.isEmpty&&k f a p)=true:=h;rw[Zk]at h';cases s with
  |nil=>exact⟨f,a,p,rfl,h'.2⟩
  |cons _ _=>cases h'.1
 |_=>cases h
def zF(h:B1 e k=true):∃o n p,e= .Attribute o n p/\k o n p=true:=by
 cases e with
 |Attribute o n p=>exact⟨o,n,p,rfl,h⟩
 |_=>cases h
def jJ(h:tY e k=true):∃v s p,e= .Subscript v s p/\k v s=true:=by
 cases e with
 |Subscript v s p=>exact⟨v,s,p,rfl,h⟩
 |_=>cases h
def pO(h:vD e k=true):∃a b p,e= .Dict a b p/\k a b=true:=by
 cases e with
 |Dict a b p=>exact⟨a,b,p,rfl,h⟩
 |_=>cases h
def xi(h:KG e k=true):∃a b c p,e= .ListComp a b c p/\k a b c=true:=by
 cases e with
 |ListComp a b c p=>exact⟨a,b,c,p,rfl,h⟩
 |_=>cases h
def B3(h:HH e k=true):∃l a b p,e= .Compare l a b p/\k l a b=true:=by
 cases e with
 |Compare l a b p=>exact⟨l,a,b,p,rfl,h⟩
 |_=>cases h
def gF(h:pN st k=true):∃t v p,st= .Assign t v p/\k t v=true:=by
 cases st with
 |Assign t v p=>exact⟨t,v,p,rfl,h⟩
 |_=>cases h
def gX(h:mZ st k=true):∃e p,st= .Expr e p/\k e=true:=by
 cases st with
 |Expr e p=>exact⟨e,p,rfl,h⟩
 |_=>cases h
def bQ(h:oN l k=true):∃a,l=[a]/\k a=true:=by
 cases l with
 |nil=>cases h
 |cons a r=>
  have h':(r.isEmpty&&k a)=true:=h;rw[Zk]at h';cases r with
  |nil=>exact⟨a,rfl,h'.2⟩
  |cons _ _=>cases h'.1
def B4(h:Tj l k=true):∃a b,l=[a,b]/\k a b=true:=by
 cases l with
 |nil=>cases h
 |cons a r=>exact aa (bQ (show oN r (k a)=true from h)) λb e q=>⟨a,b,by rw[e],q⟩
def pP(h:vE o k=true):∃a,o=some a/\k a=true:=by
 cases o with
 |none=>cases h
 |some a=>exact⟨a,rfl,h⟩
def fx(h:m6 e k=true):∃x q a p,e= .Call (.Name x q) a [] p/\k x a=true:=
 kL (ky h) λf a p e1 h=>eC (cF h) λx q e2 h=>⟨x,q,a,p,by rw[e1,e2],h⟩
def fy(h:m7 e k=true):∃o n ap a cp,e= .Call (.Attribute o n ap) a [] cp/\k o n a (ap.endLine==cp.line)=true:=
 kL (ky h) λf a p e1 h=>kL (zF h) λo n ap e2 h=>⟨o,n,ap,a,p,by rw[e1,e2],h⟩
def gY(h:vF st k=true):∃x px v p,st= .Assign [.Name x px] v p/\k x v=true:=
 kL (gF h) λt v p e1 h=>aa (bQ h) λa e2 h=>eC (cF h) λx q e3 h=>⟨x,q,v,p,by rw[e1,e2,e3],h⟩
def xj(h:KH e k=true):∃l o r p,e= .Compare l [o] [r] p/\k l o r=true:=
 lU (B3 h) λl a b p e1 h=>aa (bQ h) λo e2 h=>aa (bQ h) λr e3 h=>⟨l,o,r,p,by rw[e1,e2,e3],h⟩
def fA(h:m8 e k=true):∃x q a p,e= .Call (.Name x q) [a] [] p/\k x a=true:=
 lU (fx h) λx q a p e1 h=>aa (bQ h) λb e2 h=>⟨x,q,b,p,by rw[e1,e2],h⟩
end
mutual
noncomputable def bF(G:GT):E->List Str->Scope->Expr->Bool
 | .var i,N,sc,e=>match e with| .Name x _=>decide (N[i]?=some x)&&q5 sc x&&zD x|_=>false
 | .c d,_,sc,e=>match e with| .Constant c _ _=>Vi d c| .Name x _=>gf sc x&&zD x&&OS G x d|_=>false
 | .bin o a b,N,sc,e=>match e with| .BinOp l op r _=>decide (o=op)&&bF G a N sc l&&bF G b N sc r|_=>false
 | .cmp o a b,N,sc,e=>KH e λl op r=>decide (o=op)&&bF G a N sc l&&bF G b N sc r&&gE r
 | .uY k es,N,sc,e=>match e with| .BoolOp op vs _=>decide (op=bo k)&&!vs.isEmpty&&m9 G es N sc vs|_=>false
 | .not a,N,sc,e=>match e with| .UnaryOp op x _=>decide (op= .Not)&&bF G a N sc x&&Fq a|_=>false
 | .neg a,N,sc,e=>match e with| .UnaryOp op x _=>decide (op= .USub)&&bF G a N sc x|_=>false
 | .Jx a,N,sc,e=>m6 e λx as=>Tj as λa0 t=>fP t λy=>decide (x="isinstance")&&decide (y="bool")&&gf sc x&&gf sc y&&bF G a N sc a0&&bD a0
 | .tup es,N,sc,e=>match e with| .Tuple xs _ _=>dS G es N sc xs|_=>false
 | .lst es,N,sc,e=>match e with| .List xs _=>dS G es N sc xs|_=>false
 | .idx a i,N,sc,e=>match e with| .Subscript v s _=>bF G a N sc v&&bF G i N sc s&&cb s|_=>false
 | .sl a lo hi,N,sc,e=>match e with
  | .Subscript v s _=>match s with
   | .Slice l h st _=>st.isNone&&bF G a N sc v&&HI G lo N sc l&&HI G hi N sc h
   |_=>false
  |_=>false
 | .call f es,N,sc,e=>m6 e λx as=>decide (G.1[f]?=some x)&&gf sc x&&zD x&&!as.isEmpty&&dS G es N sc as
 | .prim q es,N,sc,e=>m6 e λx as=>decide (x=iH q)&&gf sc x&&!as.isEmpty&&dS G es N sc as
 | .rM q es,N,sc,e=>m8 e λx ar=>m8 ar λy a0=>(decide (q= .list)||decide (q= .tuple))&&decide (x=iH q)&&decide (y="range")&&gf sc x&&gf sc y&&dS G es N sc [a0]
 | .eL mm o es,N,sc,e=>m7 e λoe nm as b=>oN as λa0=>decide (nm="index")&&B0 oe&&b&&bF G o N sc oe&&dS G es N sc [a0]
 | .comp fr tg it ifs eE,N,sc,e=>KG e λel gs gZ=>oN gs λg=>fP g.target λx=>decide (tg=0)&&decide (g.is_async=0)&&gE g.iter&&zE N sc gZ [x] fr&&Fs G it N sc g.iter&&m9 G ifs (oM N [x] fr) (kX gZ sc) g.ifs&&bF G eE (oM N [x] fr) (kX gZ sc) el
 | .mr i k,N,sc,e=>match e with| .Subscript v s _=>c9 N sc i v&&bF G k N sc s&&cb s|_=>false
 | .AZ neg k i,N,sc,e=>KH e λl op r=>decide (op=if neg then .NotIn else .In)&&bF G k N sc l&&c9 N sc i r
 | .sset a,N,sc,e=>m8 e λx ar=>m8 ar λy a0=>decide (x="sorted")&&decide (y="set")&&gf sc x&&gf sc y&&bF G a N sc a0&&bD a0
 | .iF i,N,sc,e=>m8 e λx a0=>decide (x="sorted")&&gf sc x&&c9 N sc i a0
 |_,_,_,_=>false
noncomputable def dS(G:GT):E->List Str->Scope->List Expr->Bool
 | .nil,_,_,es=>es.isEmpty
 | .cons a r,N,sc,es=>match es with|e::es=>bF G a N sc e&&bD e&&dS G r N sc es|[]=>false
 |_,_,_,_=>false
noncomputable def m9(G:GT):E->List Str->Scope->List Expr->Bool
 | .nil,_,_,es=>es.isEmpty
 | .cons a r,N,sc,es=>match es with|e::es=>bF G a N sc e&&Fq a&&m9 G r N sc es|[]=>false
 |_,_,_,_=>false
noncomputable def HI(G:GT):E->List Str->Scope->Option Expr->Bool
 | .nil,_,_,o=>o.isNone
 | .cons a _,N,sc,o=>match o with|some e=>bF G a N sc e|none=>false
 |_,_,_,_=>false
noncomputable def Fs(G:GT):E->List Str->Scope->Expr->Bool
 | .gi es,N,sc,e=>m6 e λx as=>decide (x="range")&&gf sc x&&decide (as.length=1)&&dS G es N sc as
 | .it a,N,sc,e=>bF G a N sc e
 | .dk i,N,sc,e=>c9 N sc i e
 | .dv i,N,sc,e=>m7 e λoe nm as b=>as.isEmpty&&decide (nm="values")&&c9 N sc i oe&&b
 |_,_,_,_=>false
end
def bP(h:bD e=true):starEach (e::es) env=(false,eval e env)::starEach es env:=by
 cases e<;>first|rfl|exact absurd h Zl
theorem gG:∀{es:List Expr},es.all bD=true->(backTo pos (starEach es env)).any (·.1)=false
 |[],_=>rfl
 |e::es,h=>by
  rw[abZ,Zk]at h;rw[bP h.1];show(false||(backTo pos (starEach es env)).any (·.1))=false;rw[gG h.2];rfl
def jK:∀{e':E}{N:List Str}{sc:Scope}{es:List Expr},dS G e' N sc es=true->es.all bD=true:=λ{e'}=>by
 induction e' with
 |nil=>
  intro N sc es h;rw[dS]at h;cases es with
  |nil=>rfl
  |cons _ _=>cases h
 |cons a r _ ih=>
  intro N sc es h;cases es with
  |nil=>rfl
  |cons e es=>
   rw[dS]at h;simp only[Zk]at h;rw[abZ,Zk];exact⟨h.1.2,ih h.2⟩
 |_=>intro N sc es h;exact absurd (show false=true from h) Zl
def B5:∀{e':E},qv ρ e'=false->dI F true e' ρ=dI F false e' ρ:=λ{e'}=>by
 induction e' with
 |nil=>intro _;rfl
 |cons a r _ ih=>
  intro h;have hr:qv ρ r=false:=by
   cases a with
   |var i=>exact(aeW.mp h).2
   |_=>exact h
  have ha:ev F true a ρ=ev F false a ρ:=by
   cases a with
   |var i=>
    show rd true ρ i=rd false ρ i;have h1:qu ρ i=false:=(aeW.mp h).1;unfold rd;unfold qu at h1;cases e:ρ[i]? with
    |none=>rfl
    |some o=>
     cases o with
     |none=>rfl
     |some t=>
      obtain⟨o,d⟩:=t;rw[e]at h1;have Tn:o=false:=h1;subst Tn;rfl
   |_=>rfl
  show(ev F true a ρ).bind _=(ev F false a ρ).bind _;rw[ha,ih hr]
 |_=>intro _;rfl
noncomputable def iC:List Str:=["len","tuple","list","min","sorted","isinstance","bool","range","enumerate","all","set"]
structure Ct(X:Cx)(G:GT)(F:FT):Prop where
 calm:X.calm=true
 units:X.A.units+64<cLine
 mg:∀x∈iC,X.mg x=none
 cst:∀(x:Str) (i:Int),(x,i)∈G.2->∃t,X.mg x=some (.int i t)
 call:∀(f:Nat) (x:Str),G.1[f]?=some x->∃(k:Nat) (fa:Addr) (fd:FuncData) (ps:List Str),i_ X.prog X.w X.K X.mg X.base yJ k fa fd ps (xc X.K ps.length (F f))/\eK k X.A/\X.mg x=some (.ref fa)/\PySem.W.keepIn X.K (.ref fa)=true/\Binds X.K fd ps []/\∀ds d,F f ds=some d->ds.length=ps.length
def Ct.inner(h:Ct X G F)(sc:Scope)(cl:List (Str×Addr))(C:Addr)(N:List Str)(U:List ab0)(s:Shared)(H:Hp)(ex:List Addr):Ct (ir X sc cl C N U s H ex) G F:=⟨h.calm,h.units,h.mg,h.cst,h.call⟩
noncomputable def gH:D->Option (List D)
 | .lst ds=>some ds
 |_=>none
structure cf(G:GT)(F:FT)(e':E):Prop where
 e:∀X,Ct X G F->∀x,bF G e' X.N X.env.scope x=true->∀m,PE X x (tV X.K m (ev F m e'))
 t:∀X,Ct X G F->∀x,bF G e' X.N X.env.scope x=true->Fq e'=true->PT X x (tB X.K λρ=>(ev F false e' ρ).bind eM)
 f:∀X,Ct X G F->∀x,bF G e' X.N X.env.scope x=true->fresh e'=true->PE X x (tF X.K λρ=>(ev F false e' ρ).bind gH)
 es:∀X,Ct X G F->∀xs,dS G e' X.N X.env.scope xs=true->∀m,PA X xs (uD X.K m (dI F m e'))
 ts:∀X,Ct X G F->∀xs,m9 G e' X.N X.env.scope xs=true->yL X xs (tB X.K (j6 F true e'))/\
  (xs≠[]->∀k pos,(∀m,PE X (.BoolOp (bo k) xs pos) (tV X.K m λρ=>(j6 F k e' ρ).map .bl))/\PW X (.BoolOp (bo k) xs pos) (tB X.K (j6 F k e')))
 o:∀X,Ct X G F->∀x,HI G e' X.N X.env.scope x=true->PO X x (tO X.K (Jy F e'))
 i:∀X,Ct X G F->∀tg x,Fs G e' X.N X.env.scope x=true->∀m,PI X tg x (tI X.K m (mB F m e'))
def kz(h:q5 sc x=true):yw sc x:=by
 unfold q5 at h;split at h
 .rename_i e;exact .inl e
 .rename_i e;exact .inr (.inl e)
 .rename_i e;exact .inr (.inr e)
 .cases h
def dU(h:gf X.env.scope x=true):Gl X x:=by
 unfold gf at h;split at h
 .rename_i e;exact e
 .cases h
def rf{X:Cx}{C:Addr}{ex:List Addr}(h:L2.Loc sc x):L2.Loc (ir X sc cl C N U s H ex).env.scope x/\((ir X sc cl C N U s H ex).fn x=true\/(ir X sc cl C N U s H ex).env.scope.names.lookup x=some .local):=by
 show L2.Loc (relabel sc X.env) x/\(_\/(relabel sc X.env).names.lookup x=some .local);unfold L2.Loc;rw[show(relabel sc X.env).names.lookup x=_ from Qu];rcases h with h|h<;>rw[h]
 .exact⟨.inl rfl,.inr rfl⟩
 .exact⟨.inr rfl,.inl (decide_eq_true (aat h))⟩
def cB(h:zD x=true):ab4=false/\(x==("__classdict__":Str))=false:=by
 unfold zD at h;simpa using h
def dG(h:gE e=true):∀x,foldedSetIterable e env x=pure x:=by
 intro x;cases e<;>first|rfl|exact absurd h Zl
def pQ(h:gE e=true):behindInMarks op e=false:=by
 cases e<;>first|rfl|exact absurd h Zl
def m_(h:cb e=true):ql e:=by
 intro o i;cases e<;>first|rfl|exact absurd h Zl
def rg(h:zE N DS sc xs fr=true):Jv N DS sc (oM N xs fr) xs.length fr/\(∀x∈xs,L2.Loc sc x)/\(oM N xs fr).Nodup :=by
 unfold zE at h;simp only[Zk,decide_eq_true_eq,aas]at h;obtain⟨⟨⟨⟨⟨⟨h1,h2⟩,h3⟩,h4⟩,h5⟩,h6⟩,h7⟩:=h;refine⟨⟨h1,h2,h3,h4,?_,λj y e=>?_⟩,h6,h7⟩
 .unfold oM;rw[Zw,Zo]
 .have e':(fr.map λi=>N.getD i "")[j]?=some y:=by
   unfold oM at e;rwa [aar (aai _ _),aaP]at e
  rw[Zz]at e';refine aa (map_some e') λi f1 f2=>?_;have QR:=h5 i (aac f1);cases q:N[i]? with
  |none=>rw[q]at QR;cases QR
  |some z=>
   rw[q]at QR;have ez:N.getD i ""=z:=by rw[Zx,q];rfl
   rw[ez]at f2;subst f2;exact⟨i,f1,q,by simpa using QR⟩
def tZ(h:Vi d c=true)(m:Bool):PE X (.Constant c j pos) (tV X.K m λ_=>some d):=by
 cases d with
 |cx=>
  cases c with
  |none=>exact QO IC λ_ _ _=> .cx
  |_=>exact absurd h Zl
 |bl b=>
  cases c with
  |bool b'=>
   have e:b=b':=eq_of_beq h;subst e;exact QO MS λ_ _ _=> .bl _
  |_=>exact absurd h Zl
 |int i=>
  cases c with
  |int i'=>
   have e:i=i':=of_decide_eq_true h;subst e;exact QO IB λ_ _ _=> .int _
  |_=>exact absurd h Zl
 |tup _=>exact absurd h (by cases c<;>exact Zl)
 |lst _=>exact absurd h (by cases c<;>exact Zl)
 |bI _ _ _=>exact absurd h (by cases c<;>exact Zl)
def B6{K:aH}{m:Bool}(h:∀ρ,f ρ=g ρ):tV K m f=tV K m g:=by rw[show f=g from funext h]
def B7{K:aH}{f g:Env->Option (List D)}(h:∀ρ,f ρ=g ρ):tF K f=tF K g:=by rw[show f=g from funext h]
def iV(m:Bool)(h:PE X e (tF X.K λρ=>(f ρ).bind gH))(hf:∀ρ d,f ρ=some d->∃ds,d= .lst ds):PE X e (tV X.K m f):=
 Fi h λρ d hd=>by
  obtain⟨ds,rfl⟩:=hf ρ d hd;exact⟨ds,by rw[hd];rfl,rfl⟩
def Ft{F:FT}(h:dS G es N sc [a0]=true):∃a,es= .cons a .nil /\bF G a N sc a0=true/\bD a0=true:=by
 cases es with
 |cons a r=>
  rw[dS]at h;simp only[Zk]at h;cases r with
  |nil=>exact⟨a,rfl,h.1.1,h.1.2⟩
  |cons b r=>exact absurd h.2 Zl
  |_=>exact absurd h.2 Zl
 |nil=>exact absurd h Zl
 |_=>exact absurd h Zl
def B8{F:FT}{es:E}{N:List Str}{sc:Scope}{G:GT}{a0 b0:Expr}(h:dS G es N sc [a0,b0]=true):∃a b,es= .cons a (.cons b .nil)/\bF G a N sc a0=true/\bD a0=true/\bF G b N sc b0=true/\bD b0=true:=by
 cases es with
 |cons a r=>
  rw[dS]at h;simp only[Zk]at h;refine bO (Ft (F:=F) h.2) λb af h1 h2=>?_;subst af;exact⟨a,b,rfl,h.1.1,h.1.2,h1,h2⟩
 |nil=>exact absurd h Zl
 |_=>exact absurd h Zl
def rh:∀{es:E}{N:List Str}{sc:Scope}{xs:List Expr}{ds:List D},dS G es N sc xs=true->dI F m es ρ=some ds->ds.length=xs.length:=λ{es}=>by
 induction es with
 |nil=>
  intro N sc xs ds h hd;cases xs with
  |nil=>cases hd;rfl
  |cons _ _=>exact absurd h Zl
 |cons a r _ ih=>
  intro N sc xs ds h hd;cases xs with
  |nil=>exact absurd h Zl
  |cons x xs=>
   rw[dS]at h;simp only[Zk]at h;refine aa (bind_some (show(ev F m a ρ).bind _=_ from hd)) λd _ hd=>aa aa4 λOv h2 hd=>?_;cases hd;rw[ZM,ZM,ih h.2 h2]
 |_=>intro N sc xs ds h hd;exact absurd (show false=true from h) Zl
section
variable {X:Cx}{a b c e:Expr}{es:List Expr}{pos p:Pos}{m:Bool}
def B9(hc:X.calm=true)(hg:Gl X "range")(hm:X.mg "range"=none)(DV:Gl X "list")(yM:X.mg "list"=none)(ha:PA X [a] (uD X.K false g))(hl:∀ρ ds,g ρ=some ds->ds.length=1)(hs:starEach [a] X.env=[(false,eval a X.env)]):
  PE X (.Call (.Name "list" q1) [.Call (.Name "range" p) [a] [] pos] [] rY) (tF X.K λρ=>(g ρ).bind dj):=by
 have h1:=xg (p:=p) (pos:=pos) hg hm ha hs;refine PE.weak (dD (vA hc) DV yM boot_list (bX h1 df rfl) aa1 aa1 rfl rfl) λσ H Q zz=>cn zz λO ρ ds hx hd q=>aa aa4 λxs e1 hd=>?_;have qd:=hl ρ xs e1;refine⟨O,ρ,xs,hx,e1,λvs H1 s1 r=>?_⟩;cases xs with
 |nil=>cases qd
 |cons x t=>
  cases t with
  |cons _ _=>cases qd
  |nil=>
   refine aa (cy r) λv af rv=>?_;subst af;cases x with
   |int n=>
    change (if -(2 ^ 62)<=n/\n<=bV then some (bS 0 (n).toNat) else none)=some _ at hd;split at hd
    .rename_i hz;cases hd;cases rv.int;exact⟨n,rfl,λp hp=>⟨p,n,rfl,ag,hz,λl hl=>q l _ _ (s1.trans (ae.upd hp)) hl (kq _ _)⟩⟩
    .cases hd
   |_=>cases hd
def OU(hg:Gl X "range")(hm:X.mg "range"=none)(ha:PA X es (uD X.K false g))(hl:∀ρ ds,g ρ=some ds->ds.length=es.length)(QS:es.length=1)(hs:es.all bD=true):
  PI X tg (.Call (.Name "range" p) es [] pos) (tI X.K m λρ=>(g ρ).bind dj):=by
 intro U s σ H R I ⟨O,ρ,ds,hx,hd,q⟩;refine aa aa4 λxs e1 hd=>?_;have qd:=hl ρ xs e1;have zB:bV=16777216:=rfl;cases es with
 |nil=>simp at QS
 |cons a t=>
  rw[abZ,Zk]at hs;cases t with
  |nil=>
   refine yC hg hm ha (bP hs.1) U s σ H R I ⟨O,ρ,xs,hx,e1,λvs H1 s1 r=>?_⟩;cases xs with
   |nil=>cases qd
   |cons x t=>
    cases t with
    |cons _ _=>cases qd
    |nil=>
     refine aa (cy r) λv af rv=>?_;subst af;cases x with
     |int n=>
      change (if -(2 ^ 62)<=n/\n<=bV then some (bS 0 (n).toNat) else none)=some _ at hd;split at hd
      .rename_i hz;cases hd;cases rv.int;exact⟨n,rfl,hz.1,(abM hz.2 aa1),q _ none H1 s1 KA trivial⟩
      .cases hd
     |_=>cases hd
  |cons b t=>simp at QS
end
section
variable {G:GT}{F:FT}
def cf.fQ(e:∀X,Ct X G F->∀x,bF G e' X.N X.env.scope x=true->∀m,PE X x (tV X.K m (ev F m e')))
  (t:∀X,Ct X G F->∀x,bF G e' X.N X.env.scope x=true->Fq e'=true->PT X x (tB X.K λρ=>(ev F false e' ρ).bind eM))
  (f:∀X,Ct X G F->∀x,bF G e' X.N X.env.scope x=true->fresh e'=true->PE X x (tF X.K λρ=>(ev F false e' ρ).bind gH))
  (n1:∀N sc xs,dS G e' N sc xs=false:=by intro _ _ _;rfl) (n2:∀N sc xs,m9 G e' N sc xs=false:=by intro _ _ _;rfl) (n3:∀N sc xs,HI G e' N sc xs=false:=by intro _ _ _;rfl) (n4:∀N sc xs,Fs G e' N sc xs=false:=by intro _ _ _;rfl):cf G F e':=
 ⟨e,t,f,λX _ xs h=>absurd h (by rw[n1];exact Zl),λX _ xs h=>absurd h (by rw[n2];exact Zl),λX _ xs h=>absurd h (by rw[n3];exact Zl),λX _ tg xs h=>absurd h (by rw[n4];exact Zl)⟩
def ff{P:Prop}(h:false=true):P:=absurd h Zl
def Fu:cf G F .nil where
 e:=λX hC x h=>ff h
 t:=λX hC x h=>ff h
 f:=λX hC x h=>ff h
 es:=λX hC xs h m=>by
  cases xs with
  |nil=>exact OF
  |cons _ _=>exact ff h
 ts:=λX hC xs h=>by
  cases xs with
  |nil=>exact⟨BZ,λz=>absurd rfl z⟩
  |cons _ _=>exact ff h
 o:=λX hC x h=>by
  cases x with
  |none=>exact Kq
  |some _=>exact ff h
 i:=λX hC tg x h=>ff h
def B_{a r:E}(ha:cf G F a)(hr:cf G F r):cf G F (.cons a r) where
 e:=λX hC x h=>ff h
 t:=λX hC x h=>ff h
 f:=λX hC x h=>ff h
 es:=λX hC xs h m=>by
  cases xs with
  |nil=>exact ff h
  |cons x xs=>
   rw[dS]at h;simp only[Zk]at h;exact Kp (ha.e X hC x h.1.1 m) (hr.es X hC xs h.2 m) (bP h.1.2)
 ts:=λX hC xs h=>by
  cases xs with
  |nil=>exact ff h
  |cons x xs=>
   rw[m9]at h;simp only[Zk]at h;have t1:=ha.t X hC x h.1.1 h.1.2;have e1:=ha.e X hC x h.1.1 false;have t2:=hr.ts X hC xs h.2;refine⟨Fp t1 t2.1,λ_ k pos=>?_⟩;cases xs with
   |nil=>
    have er:∀ρ,j6 F k r ρ=some k:=by
     cases r with
     |nil=>intro ρ;rfl
     |cons _ _=>exact ff h.2
     |_=>exact ff h.2
    have eq:∀ρ,j6 F k (.cons a r) ρ=((ev F false a ρ).bind eM).bind λx=>if x=k then some k else some x:=λρ=>by
     show((ev F false a ρ).bind eM).bind _=_;congr 1;funext x;rw[er ρ]
    refine⟨λm=>?_,?_⟩
    .rw[B6 λρ=>congrArg (Option.map D.bl) (eq ρ)];exact Km e1
    .rw[show(j6 F k (.cons a r))=λρ=>((ev F false a ρ).bind eM).bind λx=>if x=k then some k else some x from funext eq];exact Ko t1
   |cons y ys=>
    have t3:=t2.2 aa9 k pos;exact⟨λm=>OD e1 (t3.1 false),OE t1 t3.2⟩
 o:=λX hC x h=>by
  cases x with
  |none=>exact ff h
  |some x=>exact Kr (ha.e X hC x h false)
 i:=λX hC tg x h=>ff h
def Fv{i:Nat}:cf G F (.var i):=by
 have e:∀X,Ct X G F->∀x,bF G (.var i) X.N X.env.scope x=true->∃n p,x= .Name n p/\∀m,PE X x (tV X.K m (ev F m (.var i))):=λX hC x h=>by
  cases x with
  |Name n p=>
   change (decide (X.N[i]?=some n)&&q5 X.env.scope n&&zD n)=true at h;simp only[Zk,decide_eq_true_eq]at h;exact⟨n,p,rfl,λm=>v_var h.1.1 (kz h.1.2) (cB h.2).1 (cB h.2).2⟩
  |_=>exact ff h
 refine .fQ (λX hC x h m=>?_) (λX hC x h _=>?_) (λX hC x h z=>ff z)
 .refine eC (e X hC x h) λn p af k=>?_;subst af;exact k m
 .refine eC (e X hC x h) λn p aK k=>?_;subst aK;exact cR (k false) λ_=>rfl
def xk{X:Cx}(hC:Ct X G F)(h:(gf X.env.scope x&&zD x&&OS G x d)=true)(m:Bool):PE X (.Name x p) (tV X.K m λ_=>some d):=by
 simp only[Zk]at h;obtain⟨⟨h1,h2⟩,h3⟩:=h;cases d with
 |int i=>
  obtain⟨t,e⟩:=hC.cst x i (of_decide_eq_true h3);exact QO (D7 (v:= .int i) (dU h1) e ⟨t,rfl⟩ (cB h2).1) λ_ _ _=> .int _
 |_=>exact ff h3
def OV{d:D}:cf G F (.c d):=by
 refine .fQ (λX hC x h m=>?_) (λX hC x h _=>?_) (λX hC x h z=>ff z)
 .cases x with
  |Constant c j p=>exact tZ h m
  |Name n p=>exact xk hC h m
  |_=>exact ff h
 .cases x with
  |Constant c j p=>exact cR (tZ h false) λ_=>rfl
  |Name n p=>exact cR (xk hC h false) λ_=>rfl
  |_=>exact ff h
def Fw(ha:cf G F a)(hb:cf G F b):cf G F (.bin o a b):=by
 have aP:∀X,Ct X G F->∀x,bF G (.bin o a b) X.N X.env.scope x=true->∃l r p,x= .BinOp l o r p/\PE X l (tV X.K true (ev F true a))/\PE X r (tV X.K true (ev F true b)):=λX hC x h=>by
  cases x with
  |BinOp l op r p=>
   change (decide (o=op)&&bF G a X.N X.env.scope l&&bF G b X.N X.env.scope r)=true at h;simp only[Zk,decide_eq_true_eq]at h;obtain⟨⟨rfl,h1⟩,h2⟩:=h;exact⟨l,r,p,rfl,ha.e X hC l h1 true,hb.e X hC r h2 true⟩
  |_=>exact ff h
 refine .fQ (λX hC x h m=>?_) (λX hC x h _=>?_) (λX hC x h z=>?_)
 .refine cn (aP X hC x h) λl r p af h1 h2=>?_;subst af;exact HE h1 h2
 .refine cn (aP X hC x h) λl r p aK h1 h2=>?_;subst aK;exact cR (HE h1 h2) λ_=>rfl
 .refine cn (aP X hC x h) λl r p c5 h1 h2=>?_;subst c5;cases o with
  |Add=>exact(Ox h1 h2).weak λσ H Q q=>q
  |_=>exact ff z
def Fx(ha:cf G F a)(hb:cf G F b):cf G F (.cmp o a b):=by
 have aP:∀X,Ct X G F->∀x,bF G (.cmp o a b) X.N X.env.scope x=true->∃l r p,x= .Compare l [o] [r] p/\PE X l (tV X.K true (ev F true a))/\PE X r (tV X.K true (ev F true b))/\behindInMarks o r=false:=λX hC x h=>by
  refine lU (xj (e:=x) h) λl op r p zr cO=>?_;subst zr;simp only[Zk,decide_eq_true_eq]at cO;obtain⟨⟨⟨rfl,h1⟩,h2⟩,h3⟩:=cO;exact⟨l,r,p,rfl,ha.e X hC l h1 true,hb.e X hC r h2 true,pQ h3⟩
 refine .fQ (λX hC x h m=>?_) (λX hC x h _=>?_) (λX hC x h z=>ff z)
 .refine Qf (aP X hC x h) λl r p af h1 h2 h3=>?_;subst af;exact Oz hC.units h1 h2 h3
 .refine Qf (aP X hC x h) λl r p aK h1 h2 h3=>?_;subst aK;exact OA hC.units h1 h2 h3
def Fy(ha:cf G F a):cf G F (.neg a):=by
 have aP:∀X,Ct X G F->∀x,bF G (.neg a) X.N X.env.scope x=true->∃l p,x= .UnaryOp .USub l p/\PE X l (tV X.K false (ev F false a)):=λX hC x h=>by
  cases x with
  |UnaryOp op l p=>
   change (decide (op= .USub)&&bF G a X.N X.env.scope l)=true at h;simp only[Zk,decide_eq_true_eq]at h;obtain⟨rfl,h1⟩:=h;exact⟨l,p,rfl,ha.e X hC l h1 false⟩
  |_=>exact ff h
 refine .fQ (λX hC x h m=>?_) (λX hC x h _=>?_) (λX hC x h z=>ff z)
 .obtain⟨l,p,rfl,h1⟩:=aP X hC x h;exact HF h1
 .obtain⟨l,p,rfl,h1⟩:=aP X hC x h;exact cR (HF h1) λ_=>rfl
def Fz(ha:cf G F a):cf G F (.not a):=by
 have aP:∀X,Ct X G F->∀x,bF G (.not a) X.N X.env.scope x=true->∃l p,x= .UnaryOp .Not l p/\PE X l (tV X.K false (ev F false a))/\PT X l (tB X.K λρ=>(ev F false a ρ).bind eM):=λX hC x h=>by
  cases x with
  |UnaryOp op l p=>
   change (decide (op= .Not)&&bF G a X.N X.env.scope l&&Fq a)=true at h;simp only[Zk,decide_eq_true_eq]at h;obtain⟨⟨rfl,h1⟩,h2⟩:=h;exact⟨l,p,rfl,ha.e X hC l h1 false,ha.t X hC l h1 h2⟩
  |_=>exact ff h
 refine .fQ (λX hC x h m=>?_) (λX hC x h _=>?_) (λX hC x h z=>ff z)
 .refine bu (aP X hC x h) λl p af h1 h2=>?_;subst af;exact v_not h1
 .refine bu (aP X hC x h) λl p aK h1 h2=>?_;subst aK;exact OB h2
def FA(he:cf G F es):cf G F (.uY k es):=by
 have aP:∀X,Ct X G F->∀x,bF G (.uY k es) X.N X.env.scope x=true->∃vs p,x= .BoolOp (bo k) vs p/\(∀m,PE X (.BoolOp (bo k) vs p) (tV X.K m λρ=>(j6 F k es ρ).map .bl))/\PW X (.BoolOp (bo k) vs p) (tB X.K (j6 F k es)):=λX hC x h=>by
  cases x with
  |BoolOp op vs p=>
   change (decide (op=bo k)&&!vs.isEmpty&&m9 G es X.N X.env.scope vs)=true at h;simp only[Zk,decide_eq_true_eq]at h;obtain⟨⟨rfl,h1⟩,h2⟩:=h;have hv:vs≠[]:=by rintro rfl;exact ff (by simpa using h1)
   exact⟨vs,p,rfl,(he.ts X hC vs h2).2 hv k p⟩
  |_=>exact ff h
 refine .fQ (λX hC x h m=>?_) (λX hC x h _=>?_) (λX hC x h z=>ff z)
 .refine bu (aP X hC x h) λvs p af h1 h2=>?_;subst af;exact h1 m
 .refine bu (aP X hC x h) λvs p aK h1 h2=>?_;subst aK;refine h2.pt.weak λσ H Q ⟨O,ρ,q,hx,hd,kk⟩=>⟨O,ρ,q,hx,?_,kk⟩;refine aa aa4 λd hd hq=>aa (map_some (show(j6 F k es ρ).map D.bl=some d from hd)) λb hb c5=>?_;subst c5;cases hq;exact hb
def FC(he:cf G F es):cf G F (.tup es):=by
 refine .fQ (λX hC x h m=>?_) (λX hC x h _=>?_) (λX hC x h z=>ff z)
 .cases x with
  |Tuple xs k p=>exact HG (he.es X hC xs h false)
  |_=>exact ff h
 .cases x with
  |Tuple xs k p=>exact cR (HG (he.es X hC xs h false)) λ_=>rfl
  |_=>exact ff h
def FD(he:cf G F es):cf G F (.lst es):=by
 have aP:∀X,Ct X G F->∀x,bF G (.lst es) X.N X.env.scope x=true->∃xs p,x= .List xs p/\PE X x (tF X.K λρ=>(ev F false (.lst es) ρ).bind gH):=λX hC x h=>by
  cases x with
  |List xs p=>
   refine⟨xs,p,rfl,(OG (he.es X hC xs h false)).weak λσ H Q ⟨O,ρ,ds,hx,hd,q⟩=>⟨O,ρ,ds,hx,?_,q⟩⟩;refine aa aa4 λd hd hl=>aa (bind_some (show(dI F false es ρ).bind _=_ from hd)) λys h1 hd=>?_;show(dI F false es ρ).bind _=_;rw[h1];split at hd
   .rename_i hz;cases hd;cases hl;exact ZD hz
   .cases hd
  |_=>exact ff h
 have DX:∀ρ d,ev F false (.lst es) ρ=some d->∃ds,d= .lst ds:=λρ d hd=>by
  refine aa (bind_some (show(dI F false es ρ).bind _=_ from hd)) λys h1 hd=>?_;split at hd
  .cases hd;exact⟨_,rfl⟩
  .cases hd
 refine .fQ (λX hC x h m=>?_) (λX hC x h _=>?_) (λX hC x h z=>?_)
 .refine eC (aP X hC x h) λxs p af k=>?_;subst af;exact iV m k DX
 .refine eC (aP X hC x h) λxs p aK k=>?_;subst aK;exact cR (iV false k DX) λ_=>rfl
 .refine eC (aP X hC x h) λxs p c5 k=>?_;subst c5;exact k
def FF(ha:cf G F a)(hi:cf G F i):cf G F (.idx a i):=by
 have aP:∀X,Ct X G F->∀x,bF G (.idx a i) X.N X.env.scope x=true->∃v s p,x= .Subscript v s p/\∀m,PE X x (tV X.K m (ev F m (.idx a i))):=λX hC x h=>by
  cases x with
  |Subscript v s p=>
   change (bF G a X.N X.env.scope v&&bF G i X.N X.env.scope s&&cb s)=true at h;simp only[Zk]at h;exact⟨v,s,p,rfl,λm=>OH (ha.e X hC v h.1.1 true) (hi.e X hC s h.1.2 false) (m_ h.2)⟩
  |_=>exact ff h
 refine .fQ (λX hC x h m=>?_) (λX hC x h _=>?_) (λX hC x h z=>ff z)
 .refine kL (aP X hC x h) λv s p af k=>?_;subst af;exact k m
 .refine kL (aP X hC x h) λv s p aK k=>?_;subst aK;exact cR (k false) λ_=>rfl
def KI{a lo hi:E}(ha:cf G F a)(hl:cf G F lo)(hh:cf G F hi):cf G F (.sl a lo hi):=by
 have aP:∀X,Ct X G F->∀x,bF G (.sl a lo hi) X.N X.env.scope x=true->∃v l u p2 p,x= .Subscript v (.Slice l u none p2) p/\PE X v (tV X.K true (ev F true a))/\PO X l (tO X.K (Jy F lo))/\PO X u (tO X.K (Jy F hi)):=λX hC x h=>by
  cases x with
  |Subscript v s p=>
   cases s with
   |Slice l u st p2=>
    cases st with
    |some _=>exact ff h
    |none=>
     change (true&&bF G a X.N X.env.scope v&&HI G lo X.N X.env.scope l&&HI G hi X.N X.env.scope u)=true at h;simp only[Zk]at h;exact⟨v,l,u,p2,p,rfl,ha.e X hC v h.1.1.2 true,hl.o X hC l h.1.2,hh.o X hC u h.2⟩
   |_=>exact ff h
  |_=>exact ff h
 refine .fQ (λX hC x h m=>?_) (λX hC x h _=>?_) (λX hC x h z=>?_)
 .refine Rb (aP X hC x h) λv l u p2 p af k1 k2 k3=>?_;subst af;exact OI k1 k2 k3
 .refine Rb (aP X hC x h) λv l u p2 p aK k1 k2 k3=>?_;subst aK;exact cR (OI k1 k2 k3) λ_=>rfl
 .refine Rb (aP X hC x h) λv l u p2 p c5 k1 k2 k3=>?_;subst c5;exact(S4 k1 k2 k3).weak λσ H Q q=>q
def Ca(he:cf G F es):cf G F (.call f es):=by
 have aP:∀X,Ct X G F->∀x,bF G (.call f es) X.N X.env.scope x=true->(∃fn args rL p,x= .Call fn args rL p)/\∀m,PE X x (tV X.K m (ev F m (.call f es))):=λX hC x h=>by
  refine lU (fx (e:=x) h) λn q as p zr cO=>?_;subst zr;refine⟨⟨_,_,_,_,rfl⟩,?_⟩;simp only[Zk,decide_eq_true_eq]at cO;obtain⟨⟨⟨⟨h1,h2⟩,h3⟩,h0⟩,h4⟩:=cO;cases as with
  |nil=>cases h0
  |cons a0 ar=>
   refine D3 (hC.call f n h1) λk fa fd ps h5 h6 h7 h8 h9 HJ=>?_;have ns:=jK h4;rw[abZ,Zk]at ns;exact λm=>Ks (g:=λb=>dI F b es) (ln:=λρ=>qv ρ es) h5 h6 (dU h2) h7 h8 h9 HJ (λb=>he.es X hC _ h4 b) (λρ hl=>B5 hl) (cB h3).1 (bP ns.1) (gG ns.2)
 refine .fQ (λX hC x h m=>(aP X hC x h).2 m) (λX hC x h _=>?_) (λX hC x h z=>ff z);obtain⟨⟨fn,args,rL,p,rfl⟩,k⟩:=aP X hC x h;exact cR (k false) λ_=>rfl
def rj(q:uX):iH q∈iC:=by cases q<;>decide +kernel
def Cb(he:cf G F es):cf G F (.prim q es):=by
 have aP:∀X,Ct X G F->∀x,bF G (.prim q es) X.N X.env.scope x=true->∃a0 ar n p,x= .Call (.Name (iH q) n) (a0::ar) [] p/\Gl X (iH q)/\(∀m,PA X (a0::ar) (uD X.K m (dI F m es)))/\bD a0=true/\ar.all bD=true:=λX hC x h=>by
  refine lU (fx (e:=x) h) λn pn as p zr cO=>?_;subst zr;simp only[Zk,decide_eq_true_eq]at cO;obtain⟨⟨⟨rfl,h2⟩,h0⟩,h4⟩:=cO;cases as with
  |nil=>cases h0
  |cons a0 ar=>
   have ns:=jK h4;rw[abZ,Zk]at ns;exact⟨a0,ar,pn,p,rfl,dU h2,λm=>he.es X hC _ h4 m,ns.1,ns.2⟩
 refine .fQ (λX hC x h m=>?_) (λX hC x h _=>?_) (λX hC x h z=>?_)
 .refine uG (aP X hC x h) λa0 ar n p af h1 h2 h3 h4=>?_;subst af;exact pK hC.units hC.calm h1 (hC.mg _ (rj q)) (h2 true) (bP h3) (gG h4)
 .refine uG (aP X hC x h) λa0 ar n p aK h1 h2 h3 h4=>?_;subst aK;exact cR (pK hC.units hC.calm h1 (hC.mg _ (rj q)) (h2 true) (bP h3) (gG h4)) λ_=>rfl
 .refine uG (aP X hC x h) λa0 ar n p c5 h1 h2 h3 h4=>?_;subst c5;cases q with
  |list=>
   refine(f_list h1 (hC.mg _ (rj .list)) (h2 true) (bP h3) (gG h4)).weak λσ H Q ⟨O,ρ,ds,hx,hd,k⟩=>⟨O,ρ,ds,hx,?_,k⟩;refine aa aa4 λd hd hl=>aa (bind_some (show(dI F true es ρ).bind _=_ from hd)) λxs e1 hd=>?_;show(dI F true es ρ).bind _=_;rw[e1];cases xs with
   |nil=>cases hd
   |cons y t=>
    cases t with
    |cons _ _=>cases hd
    |nil=>
     refine aa (map_some hd) λys h5 oG=>?_;subst oG;cases hl;exact h5
  |_=>exact ff z
def FG(he:cf G F es):cf G F (.rM q es):=by
 have aP:∀X,Ct X G F->∀x,bF G (.rM q es) X.N X.env.scope x=true->(∃fn args rL p,x= .Call fn args rL p)/\((q= .list /\PE X x (tF X.K λρ=>(ev F false (.rM q es) ρ).bind gH))\/(q= .tuple /\∀m,PE X x (tV X.K m (ev F m (.rM q es))))):=λX hC x h=>by
  obtain⟨n,pn,ar,p,rfl,g⟩:=fA (e:=x) h;obtain⟨y,py,a0,p2,rfl,g2⟩:=fA g;replace h:=g2;refine⟨⟨_,_,_,_,rfl⟩,?_⟩;simp only[Zk,acT,decide_eq_true_eq]at h;obtain⟨⟨⟨⟨⟨hq,rfl⟩,rfl⟩,h3⟩,h4⟩,h5⟩:=h;have ns:=jK h5;rw[abZ,Zk]at ns;rcases hq with rfl|rfl
  .refine .inl ⟨rfl,?_⟩;refine(B9 hC.calm (dU h4) (hC.mg _ (by simp[iC])) (dU h3) (hC.mg _ (by simp[iC,iH])) (he.es X hC _ h5 false) (λρ ds hd=>rh h5 hd) (bP ns.1)).weak λσ H Q ⟨O,ρ,ds,hx,hd,k⟩=>⟨O,ρ,ds,hx,?_,k⟩;refine aa aa4 λd hd hl=>aa (bind_some (show((dI F false es ρ).bind dj).bind (qx .list)=_ from hd)) λxs e1 hd=>?_;cases hd;cases hl;exact e1
  .refine .inr ⟨rfl,λm=>?_⟩;refine(BR (m:=m) hC.calm (dU h4) (hC.mg _ (by simp[iC])) (dU h3) (hC.mg _ (by simp[iC,iH])) (he.es X hC _ h5 false) (λρ ds hd=>rh h5 hd) (bP ns.1)).weak λσ H Q ⟨O,ρ,d,hx,hd,k⟩=>⟨O,ρ,d,hx,?_,k⟩;refine aa (bind_some (show((dI F false es ρ).bind dj).bind (qx .tuple)=_ from hd)) λxs e1 hd=>?_;cases hd;show((dI F false es ρ).bind dj).map D.tup=_;rw[e1];rfl
 have DX:q= .list ->∀ρ d,ev F false (.rM q es) ρ=some d->∃ds,d= .lst ds:=λhq ρ d hd=>by
  subst hq;refine aa (bind_some (show((dI F false es ρ).bind dj).bind (qx .list)=_ from hd)) λxs e1 hd=>?_;cases hd;exact⟨_,rfl⟩
 have val:∀X,Ct X G F->∀x,bF G (.rM q es) X.N X.env.scope x=true->∀m,PE X x (tV X.K m (ev F m (.rM q es))):=λX hC x h m=>by
  obtain⟨_,k⟩:=aP X hC x h;rcases k with⟨hq,k⟩|⟨hq,k⟩
  .exact iV m k (DX hq)
  .exact k m
 refine .fQ val (λX hC x h _=>?_) (λX hC x h z=>?_)
 .obtain⟨⟨fn,args,rL,p,rfl⟩,_⟩:=aP X hC x h;exact cR (val X hC _ h false) λ_=>rfl
 .obtain⟨_,k⟩:=aP X hC x h;rcases k with⟨hq,k⟩|⟨rfl,_⟩
  .exact k
  .exact ff z
def jg(h:B0 oe=true):attributeBase oe nm env (eval oe env)=eval oe env:=by
 cases oe<;>first|rfl|exact ff h
def Cc(ho:cf G F o)(he:cf G F es):cf G F (.eL mm o es):=by
 have aP:∀X,Ct X G F->∀x,bF G (.eL mm o es) X.N X.env.scope x=true->(∃fn args rL p,x= .Call fn args rL p)/\∀m,PE X x (tV X.K m (ev F m (.eL mm o es))):=λX hC x h=>by
  refine L9 (fy (e:=x) h) λoe nm ap as p zr h=>aa (bQ h) λa0 aK cO=>?_;subst zr aK;refine⟨⟨_,_,_,_,rfl⟩,?_⟩;simp only[Zk,decide_eq_true_eq]at cO;obtain⟨⟨⟨⟨QS,h3⟩,h4⟩,h5⟩,h6⟩:=cO;have ns:=jK h6;rw[abZ,Zk]at ns;subst QS;cases mm with
  |index=>exact λm=>Fm (ho.e X hC oe h5 true) (he.es X hC _ h6 true) (jg h3) h4 (bP ns.1)
  |qt=>exact λm=>BU (ho.e X hC oe h5 true) (he.es X hC _ h6 true) (jg h3) h4 (bP ns.1)
 refine .fQ (λX hC x h m=>(aP X hC x h).2 m) (λX hC x h _=>?_) (λX hC x h z=>ff z);obtain⟨⟨fn,args,rL,p,rfl⟩,k⟩:=aP X hC x h;exact cR (k false) λ_=>rfl
def FH(ha:cf G F a):cf G F (.Jx a):=by
 have aP:∀X,Ct X G F->∀x,bF G (.Jx a) X.N X.env.scope x=true->(∃fn args rL p,x= .Call fn args rL p)/\∀m,PE X x (tV X.K m (ev F m (.Jx a))):=λX hC x h=>by
  refine lU (fx (e:=x) h) λn pn as p zr h=>eC (B4 h) λa0 t aK h=>eC (cF h) λy py c5 cO=>?_;subst zr aK c5;refine⟨⟨_,_,_,_,rfl⟩,?_⟩;simp only[Zk,decide_eq_true_eq]at cO;obtain⟨⟨⟨⟨⟨rfl,rfl⟩,h3⟩,h4⟩,h5⟩,h6⟩:=cO;exact λm=>OL (ha.e X hC a0 h5 false) (dU h3) (hC.mg _ (by simp[iC])) (dU h4) (hC.mg _ (by simp[iC])) (bP h6)
 refine .fQ (λX hC x h m=>(aP X hC x h).2 m) (λX hC x h _=>?_) (λX hC x h z=>ff z);obtain⟨⟨fn,args,rL,p,rfl⟩,k⟩:=aP X hC x h;exact cR (k false) λ_=>rfl
end
noncomputable def fB:List aa2->List V->List Int->Option V
 |k::ks,v::vs,x=>if k=x then some v else fB ks vs x
 |_,_,_=>none
theorem kA[DecidableEq κ](f:List Int->κ):∀(ks:List aa2) (vs:List V) (x:List Int),(∀k∈ks,f k=f x->k=x)->j8 ((ks.map f).zip vs) (f x)=fB ks vs x
 |[],vs,x,_=>by simp[fB,j8]
 |k::ks,[],x,_=>by simp[fB,j8]
 |k::ks,v::vs,x,h=>by
  rw[ZS,acO,fB];by_cases e:k=x
  .rw[ZD e,jo (by rw[e])]
  .rw[ZL e,jq (λz=>e (h k Zt z))];exact kA f ks vs x λk hk=>h k (Zm _ hk)
theorem rk:∀{a b:List Int},a.map (Sum.inl:Int->cS)=b.map Sum.inl->a=b
 |[],[],_=>rfl
 |[],_::_,h=>by simp at h
 |_::_,[],h=>by simp at h
 |x::a,y::b,h=>by
  rw[ZS,ZS]at h;injection h with h1 h2;rw[aep h1,rk h2]
theorem pR{K:aH}:∀{x:List Int}{vs:List V},aq K O H vs (x.map .int)->vs=x.map V.int
 |[],_,.nil =>rfl
 |i::x,_,.cons r t=>by rw[r.int_inv,pR t];rfl
theorem kY:∀{xs:List D}{p:List Int},aO xs=some p->xs=p.map .int
 |[],p,h=>by cases h;rfl
 |x::xs,p,h=>by
  cases x with
  |int i=>
   refine aa (map_some (show(aO xs).map (i:: ·)=some p from h)) λq h1 af=>?_;subst af;rw[kY h1];rfl
  |_=>cases h
section
variable {K:aH}{O:Addr->Prop}{H:Hp}{a:Addr}{t:Nat}{ks:List aa2}{vs:List V}{ds:List D}
def g_{y:V}(r:bx K O H y dy)(hx:dg t dy=some x):(t=0/\(∃i,x=[i]/\y= .int i))\/(t≠0/\∃b,y= .ref b/\H b=some (.tup ((x.map Sum.inl).map kV))):=by
 cases dy with
 |int i=>
  simp only[dg]at hx;split at hx
  .rename_i h0;cases hx;exact .inl ⟨h0,i,rfl,r.int_inv⟩
  .cases hx
 |tup xs=>
  simp only[dg]at hx;split at hx
  .cases hx
  .rename_i h0;have e:=kY hx;subst e;refine bu r.jE λb us af h1 h2=>?_;subst af;refine .inr ⟨h0,b,rfl,?_⟩;rw[Z5];have:=pR h2;rw[this]at h1;exact h1
 |_=>cases hx
def xl(hd:Rd H a (gh t ks vs))(hk:mV t ks)(r:bx K O H y dy)(hx:dg t dy=some x):qA H a y (fB ks vs x):=by
 rcases g_ r hx with⟨h0,i,rfl,rfl⟩|⟨h0,b,rfl,hb⟩
 .unfold gh at hd;rw[ZD h0]at hd;refine .inl ⟨_,Sum.inl i,hd,rfl,?_⟩;have:=kA (λk:List Int=>(Sum.inl (k.headD 0):cS)) ks vs [i] (λk hm e=>by
   obtain⟨j,rfl⟩:=hk.2 h0 k hm;have:j=i:=aep e;rw[this])
  exact this.symm
 .unfold gh at hd;rw[ZL h0]at hd;exact .inr ⟨_,x.map Sum.inl,b,hd,rfl,hb,(kA (λk:List Int=>k.map (Sum.inl:Int->cS)) ks vs x λk _ e=>rk e).symm⟩
theorem ng:∀{ks:List aa2}{vs:List V}{ds:List D}{x:List Int},ks.length=vs.length->aq K O H vs ds->(∀d,iw ks ds x=some d->∃v,fB ks vs x=some v/\bx K O H v d)/\(iw ks ds x=none->fB ks vs x=none)/\((fB ks vs x).isSome =decide (x∈ks))
 |[],_,_,x,_,_=>⟨λ_ h=>by simp[iw]at h,λ_=>by simp[fB],by simp[fB]⟩
 |k::ks,[],_,x,h,_=>by simp at h
 |k::ks,v::vs,_,x,h,.cons (d:=d) (ds:=ds) r rs=>by
  have ih:=ng (ks:=ks) (x:=x) (by simpa using h) rs;by_cases e:k=x
  .simp only[iw,fB,ZD e];exact⟨λd' hd=>(by cases hd;exact⟨v,rfl,r⟩),λz=>(by cases z),by simp[e]⟩
  .simp only[iw,fB,ZL e];exact⟨ih.1,ih.2.1,by rw[ih.2.2];simp[aay e]⟩
def FI:An (some (gh t ks vs)):=by unfold gh;split<;>exact True.intro
theorem EX.bI(hx:EX K O σ H ρ)(h:fZ ρ i=some d):∃a vs,σ[i]?=some (some (.ref a))/\Rd H a (gh d.1 d.2.1 vs)/\d.2.1.length=vs.length/\mV d.1 d.2.1/\aq K O H vs d.2.2:=by
 unfold fZ at h;split at h
 .rename_i o t ks ds e;split at h
  .cases h
  rename_i ht;cases h;refine aa (hx.j7 i o _ e) λv h1 h2=>?_;cases o with
  |true=>
   refine bO h2 λa e1 _ c=>DK (c.bI ht) λvs c1 c2 c3 c4=>?_;subst e1;exact⟨a,vs,h1,.inl c1,c2,c3,c4⟩
  |false=>
   have OW:bx K O H v (.bI t ks ds):=h2;cases OW with
   |bI g1 g2 g3 g4=>exact⟨_,_,h1,.inr ⟨_,g1⟩,g2,g3,g4⟩
 .cases h
end
def bZ(h:c9 N sc i e=true):∃x p,e= .Name x p/\N[i]?=some x/\yw sc x/\ab4=false/\(x==("__classdict__":Str))=false:=by
 cases e with
 |Name x p=>
  unfold c9 at h;simp only[Zk,decide_eq_true_eq]at h;exact⟨x,p,rfl,h.1.1,kz h.1.2,(cB h.2).1,(cB h.2).2⟩
 |_=>cases h
section
variable {X:Cx}{a b c e k:Expr}{pos p px:Pos}{m:Bool}{i:Nat}{x:Str}{f:Env->Option D}
def KJ(hu:X.A.units+64<cLine)(ho:PE X a (de i))(hk:PE X k (tV X.K false f))(hs:EI k):PE X (.Subscript a k pos) (tV X.K m λρ=>(fZ ρ i).bind λd=>((f ρ).bind (dg d.1)).bind λx=>iw d.2.1 d.2.2 x):=
 (EL (rQ hu aa1) ho hk hs).weak λσ H Q zz=>by
  refine cn zz λO ρ d hx hd q=>aa aa4 λdd e1 hd=>aa aa4 λxx e2 hd=>aa (bind_some e2) λdy e3 e4=>jU (hx.bI e1) λa vs g1 g2 g3 g4 g5=>⟨.ref a,g1,O,ρ,dy,hx,e3,λv H1 s1 r1=>?_⟩;refine aa ((ng (x:=xx) g3 (g5.mono s1)).1 d hd) λv' h1 h2=>?_;have hg:=xl (lL s1 g2) g4 r1.own e4;rw[h1]at hg;exact⟨a,v',rfl,hg,q v' H1 s1 (.inl h2)⟩
def OX{neg:Bool}(hu:X.A.units+64<cLine)(hk:PE X k (tV X.K false f))(ho:PE X a (de i)):PC X (if neg then .NotIn else .In) k a (tV X.K m λρ=>((f ρ).bind λy=>(fZ ρ i).bind λd=>(dg d.1 y).map λx=> .bl (if neg then !decide (x∈d.2.1) else decide (x∈d.2.1)))):=by
 have key:∀σ H (Q:VK),tV X.K m (λρ=>((f ρ).bind λy=>(fZ ρ i).bind λd=>(dg d.1 y).map λx=>D.bl (if neg then !decide (x∈d.2.1) else decide (x∈d.2.1)))) σ H Q->
   tV X.K false f σ H λy H1=>de i σ H1 λx H2=>∃a o,x= .ref a/\qA H2 a y o/\Q (.bl (if neg then !o.isSome else o.isSome)) H2:=λσ H Q zz=>by
  refine cn zz λO ρ d hx hd q=>aa aa4 λdy e1 hd=>aa aa4 λdd e2 hd=>aa (map_some hd) λxx e3 af=>?_;subst af;refine⟨O,ρ,dy,hx,e1,λv H1 s1 r1=>?_⟩;refine jU ((hx.mono s1).bI e2) λa vs g1 g2 g3 g4 g5=>?_;refine⟨.ref a,g1,a,_,rfl,xl g2 g4 r1.own e3,?_⟩;rw[(ng (x:=xx) g3 g5).2.2];exact q _ H1 s1 (.inl (.bl _))
 cases neg with
 |true=>exact λU s σ H Q I q=>yW (rQ hu aa1) hk ho U s σ H Q I (key σ H Q q)
 |false=>exact λU s σ H Q I q=>JO (rQ hu aa1) hk ho U s σ H Q I (key σ H Q q)
theorem insI_perm(x:Int):∀l,(insI x l).Perm (x::l)
 |[]=> .refl _
 |y::r=>by
  unfold insI;split
  .exact .refl _
  .exact((insI_perm x r).cons y).trans (.swap x y r)
theorem sortI_perm:∀l,(sortI l).Perm l
 |[]=> .refl _
 |x::r=>(insI_perm x (sortI r)).trans ((sortI_perm r).cons x)
theorem xm(x:Int):∀l:List Int,l.Pairwise (· <= ·)->(insI x l).Pairwise (· <= ·)
 |[],_=>acS _ _
 |y::r,h=>by
  unfold insI;rw[aaI]at h;split
  .rename_i uC;refine aaI.mpr ⟨λz hz=>?_,aaI.mpr h⟩;rcases ZC.mp hz with e|hz
   .rw[e];exact uC
   .exact acK uC (h.1 z hz)
  .rename_i uC;refine aaI.mpr ⟨λz hz=>?_,xm x r h.2⟩;rcases ZC.mp ((insI_perm x r).mem_iff.mp hz)with e|hz
   .rw[e];exact acI (abK uC)
   .exact h.1 z hz
theorem nh:∀l:List Int,(sortI l).Pairwise (· <= ·)
 |[]=> .nil
 |x::r=>xm x _ (nh r)
def Cd{l m:List Int}(hp:l.Perm m)(hs:l.Pairwise (· <= ·)):l=sortI m:=
 (hp.trans (sortI_perm m).symm).eq_of_pairwise (λa b _ _ h1 h2=>Int.le_antisymm h1 h2) hs (nh m)
def FJ(hc:X.calm=true)(ho:PE X a (de i))(hg:Gl X "sorted")(hm:X.mg "sorted"=none)(hs:starEach [a] X.env=(false,eval a X.env)::starEach [] X.env):PE X (.Call (.Name "sorted" p) [a] [] pos) (tV X.K m λρ=>(fZ ρ i).bind λd=>if d.1=0 then(if d.2.1.length<64 then some (.lst ((sortI (d.2.1.map λk=>k.headD 0)).map .int)) else none)
   else if []∈d.2.1 then none else some (.lst ((bJ.aV d.2.1).map lg))):=
 (dH ((qQ hc).or (qM hc)) hg hm boot_sorted (bX ho df hs) aa1 aa1 hs rfl).weak λσ H Q zz=>by
  refine cn zz λO ρ d hx hd q=>aa aa4 λdd e1 hd=>jU (hx.bI e1) λb vs g1 g2 g3 g4 g5=>⟨.ref b,g1,?_⟩;unfold gh at g2;by_cases h0:dd.1=0
  .rw[ZD h0]at hd g2;split at hd
   .rename_i Hy;cases hd;refine .inl ⟨b,_,dd.2.1.map λk=>k.headD 0,rfl,g2,?_,by rw[Zo];exact Hy,λmd p1 p2 l hl=>?_⟩
    .rw[List.map_fst_zip (by rw[Zo];exact Zy g3),Z5];rfl
    .rw[Cd p1 p2];exact q _ _ (ae.upd hl) (.inl (.lst (.inl ag) (hx.free (ae.refl _) hl) (fm _)))
   .cases hd
  .rw[ZL h0]at hd g2;split at hd
   .cases hd
   .rename_i d_;cases hd;refine .inr ⟨b,_,dd.2.1,rfl,g2,?_,λk hk e=>d_ (e▸hk),λl us hl pw=>q _ _ (ae.upd hl) (.inl (.lst (.inl ag) (hx.free (ae.refl _) hl) ((mY pw).mono (ae.upd hl))))⟩;rw[List.map_fst_zip (by rw[Zo];exact Zy g3)]
end
section
variable {G:GT}{F:FT}
def FK(h:cb e=true):EI e:=by
 intro o i;cases e<;>first|rfl|exact absurd h Zl
def Ce(hk:cf G F k):cf G F (.mr i k):=by
 have aP:∀X,Ct X G F->∀x,bF G (.mr i k) X.N X.env.scope x=true->(∃v s p,x= .Subscript v s p)/\∀m,PE X x (tV X.K m (ev F m (.mr i k))):=λX hC x h=>by
  cases x with
  |Subscript v s p=>
   change (c9 X.N X.env.scope i v&&bF G k X.N X.env.scope s&&cb s)=true at h;simp only[Zk]at h;refine jU (bZ h.1.1) λx q af n1 n2 n3 n4=>?_;subst af;exact⟨⟨_,_,_,rfl⟩,λm=>KJ hC.units (bM n1 n2 n3 n4) (hk.e X hC s h.1.2 false) (FK h.2)⟩
  |_=>exact ff h
 refine .fQ (λX hC x h m=>(aP X hC x h).2 m) (λX hC x h _=>?_) (λX hC x h z=>ff z);obtain⟨⟨v,s,p,rfl⟩,q⟩:=aP X hC x h;exact cR (q false) λ_=>rfl
def FL(hk:cf G F k):cf G F (.AZ neg k i):=by
 have aP:∀X,Ct X G F->∀x,bF G (.AZ neg k i) X.N X.env.scope x=true->∃l r p,x= .Compare l [if neg then .NotIn else .In] [r] p/\(∀m,PC X (if neg then .NotIn else .In) l r (tV X.K m (ev F m (.AZ neg k i))))/\behindInMarks (if neg then .NotIn else .In) r=false:=λX hC x h=>by
  refine lU (xj (e:=x) h) λl op r p zr cO=>?_;subst zr;simp only[Zk,decide_eq_true_eq]at cO;obtain⟨⟨rfl,h1⟩,h2⟩:=cO;refine jU (bZ h2) λx q af n1 n2 n3 n4=>?_;subst af;exact⟨l,_,p,rfl,λm=>OX hC.units (hk.e X hC l h1 false) (bM n1 n2 n3 n4),pQ rfl⟩
 refine .fQ (λX hC x h m=>?_) (λX hC x h _=>?_) (λX hC x h z=>ff z)
 .refine cn (aP X hC x h) λl r p aK q1 q2=>?_;subst aK;exact ID (q1 m) q2
 .refine cn (aP X hC x h) λl r p c5 q1 q2=>?_;subst c5;refine(IE (q1 false) q2).weak λσ H Q zz=>cn zz λO ρ kk hx hd q=>aa aa4 λd e1 e2=>?_;cases dQ e2;exact⟨O,ρ,_,hx,e1,λv H1 s1 r1=>⟨kk,r1.bl,q H1 s1⟩⟩
def zG:cf G F (.iF i):=by
 have aP:∀X,Ct X G F->∀x,bF G (.iF i) X.N X.env.scope x=true->(∃fn args rL p,x= .Call fn args rL p)/\∀m,PE X x (tV X.K m (ev F m (.iF i))):=λX hC x h=>by
  obtain⟨y,py,a0,p,rfl,g⟩:=fA (e:=x) h;replace h:=g;refine⟨⟨_,_,_,_,rfl⟩,?_⟩;simp only[Zk,decide_eq_true_eq]at h;obtain⟨⟨rfl,h1⟩,h2⟩:=h;refine jU (bZ h2) λx q af n1 n2 n3 n4=>?_;subst af;exact λm=>FJ hC.calm (bM n1 n2 n3 n4) (dU h1) (hC.mg _ (by simp[iC])) (bP rfl)
 refine .fQ (λX hC x h m=>(aP X hC x h).2 m) (λX hC x h _=>?_) (λX hC x h z=>ff z);obtain⟨⟨fn,args,rL,p,rfl⟩,q⟩:=aP X hC x h;exact cR (q false) λ_=>rfl
def cf.Vj(i:∀X,Ct X G F->∀tg x,Fs G e' X.N X.env.scope x=true->∀m,PI X tg x (tI X.K m (mB F m e')))
  (n0:∀N sc x,bF G e' N sc x=false:=by intro _ _ _;rfl) (n1:∀N sc xs,dS G e' N sc xs=false:=by intro _ _ _;rfl) (n2:∀N sc xs,m9 G e' N sc xs=false:=by intro _ _ _;rfl) (n3:∀N sc xs,HI G e' N sc xs=false:=by intro _ _ _;rfl):cf G F e':=
 ⟨λX _ x h=>absurd h (by rw[n0];exact Zl),λX _ x h=>absurd h (by rw[n0];exact Zl),λX _ x h=>absurd h (by rw[n0];exact Zl),λX _ xs h=>absurd h (by rw[n1];exact Zl),λX _ xs h=>absurd h (by rw[n2];exact Zl),λX _ xs h=>absurd h (by rw[n3];exact Zl),i⟩
def KL:cf G F (.dk i):= .Vj λX hC tg x h m=>by
 refine jU (bZ (show c9 X.N X.env.scope i x=true from h)) λy q af n1 n2 n3 n4=>?_;subst af;exact Te (bM n1 n2 n3 n4)
def KN:cf G F (.dv i):= .Vj λX hC tg x h m=>by
 refine L9 (fy (e:=x) h) λoe nm ap as p zr cO=>?_;subst zr;simp only[Zk,decide_eq_true_eq,aeE]at cO;obtain⟨⟨⟨rfl,rfl⟩,h1⟩,h2⟩:=cO;refine jU (bZ h1) λy q af n1 n2 n3 n4=>?_;subst af;exact Tf (bM n1 n2 n3 n4) rfl h2
end
def FN(hc:X.calm=true)(hu:X.A.units+64<cLine)(hg:Gl X "sorted")(hm:X.mg "sorted"=none)(XJ:Gl X "set")(SN:X.mg "set"=none)(ha:PE X a (tV X.K true f))(hn:starEach [a] X.env=[(false,eval a X.env)]):
  PE X (.Call (.Name "sorted" p1) [.Call (.Name "set" p2) [a] [] q2] [] q1) (tF X.K λρ=>(f ρ).bind sC):=by
 refine PE.weak (dH (S2.tP hc) hg hm boot_sorted (bX (dD (S2.vw hc hu) XJ SN boot_set (bX ha df hn) aa1 aa1 hn rfl) df rfl) aa1 aa1 rfl rfl) λσ H Q zz=>?_;obtain⟨O,ρ,ds,hx,hd,q⟩:=zz;obtain⟨y,e3,e4⟩:=bind_some hd;cases y with
 |lst ys=>
  obtain⟨ks,e5,e6⟩:=bind_some (show(dh ys).bind _=_ from e4);by_cases h7:(S2.ji ks).length <=720
  .have e6:=ZU ((ZD h7).symm.trans e6);refine⟨O,ρ,.lst ys,hx,e3,λv H1 s1 r1=>?_⟩;obtain⟨p,us,rfl,h8,h9⟩:=r1.lst;obtain⟨pt,d_⟩:=lN h9 e5;refine⟨p,us,ks,rfl,h8,pt,h7,λl ys hl pm HK=>⟨l,ys,rfl,ag,by rw[<-Zo (f:=(·.2)),pm.length_eq];exact h7,λy hy=>⟨d_ _ (S2.qY.mp (pm.mem_iff.mp (Zv.mpr ⟨y,hy,rfl⟩))),ae.upd hl _ _ (HK y hy)⟩,λl2 us QJ pd=>?_⟩⟩;rw[<-e6,<-bJ.mJ pm]at q;exact q l2 _ _ (s1.trans (ae.upd hl)) QJ (mY pd)
  .exact nS ((ZL h7).symm.trans e6)
 |_=>exact nS e4
section
variable {G:GT}{F:FT}
def KO(n0:∀N sc x,bF G e' N sc x=false:=by intro _ _ _;rfl)(n1:∀N sc xs,dS G e' N sc xs=false:=by intro _ _ _;rfl)(n2:∀N sc xs,m9 G e' N sc xs=false:=by intro _ _ _;rfl)(n3:∀N sc xs,HI G e' N sc xs=false:=by intro _ _ _;rfl)(n4:∀N sc xs,Fs G e' N sc xs=false:=by intro _ _ _;rfl):cf G F e':=
 .fQ (λX hC x h=>absurd h (by rw[n0];exact Zl)) (λX hC x h=>absurd h (by rw[n0];exact Zl)) (λX hC x h=>absurd h (by rw[n0];exact Zl)) n1 n2 n3 n4
def FO(he:cf G F es):cf G F (.gi es) where
 e:=λX hC x h=>ff h
 t:=λX hC x h=>ff h
 f:=λX hC x h=>ff h
 es:=λX hC x h=>ff h
 ts:=λX hC x h=>ff h
 o:=λX hC x h=>ff h
 i:=λX hC tg x h m=>by
  refine lU (fx (e:=x) h) λn pn as p zr cO=>?_;subst zr;simp only[Zk,decide_eq_true_eq]at cO;obtain⟨⟨⟨rfl,h1⟩,h2⟩,h3⟩:=cO;exact OU (dU h1) (hC.mg _ (by simp[iC])) (he.es X hC _ h3 false) (λρ ds hd=>rh h3 hd) h2 (jK h3)
def KP(ha:cf G F a):cf G F (.it a) where
 e:=λX hC x h=>ff h
 t:=λX hC x h=>ff h
 f:=λX hC x h=>ff h
 es:=λX hC x h=>ff h
 ts:=λX hC x h=>ff h
 o:=λX hC x h=>ff h
 i:=λX hC tg x h m=>Td (ha.e X hC x h m)
def ni(hC:Ct X G F)(hi:cf G F it)(hf:cf G F ifs)(he:cf G F eE)(h4:zE X.N X.env.scope gZ [n] fr=true)(h5:Fs G it X.N X.env.scope iter=true)
  (h6:m9 G ifs (oM X.N [n] fr) (kX gZ X.env.scope) fs=true) (h7:bF G eE (oM X.N [n] fr) (kX gZ X.env.scope) el=true):
  ∀cl C U s H ex,PG (ir X gZ cl C (oM X.N [n] fr) U s H ex) (.Name n q) (cJ 0)/\yL (ir X gZ cl C (oM X.N [n] fr) U s H ex) fs (tB X.K (j6 F true ifs))/\PE (ir X gZ cl C (oM X.N [n] fr) U s H ex) el (tV X.K false (ev F false eE)):=λcl C U s H ex=>by
 refine cP (rg h4) λS To nd=>have hl:=To _ Zt;?_;have Mt:=hC.inner gZ cl C (oM X.N [n] fr) U s H ex;exact⟨lB nd rfl (rf hl).1 (rf hl).2,(hf.ts _ Mt fs h6).1,he.e _ Mt el h7 false⟩
def pS(h:bF G (.comp fr tg it ifs eE) N sc x=true):∃el n q iter fs gZ p,x= .ListComp el [⟨.Name n q,iter,fs,0⟩] gZ p/\tg=0/\gE iter=true/\zE N sc gZ [n] fr=true/\Fs G it N sc iter=true/\m9 G ifs (oM N [n] fr) (kX gZ sc) fs=true/\bF G eE (oM N [n] fr) (kX gZ sc) el=true:=by
 refine lU (xi (e:=x) h) λel gs gZ p zr h=>aa (bQ h) λg aK cO=>?_;obtain⟨rO,iter,fs,kk⟩:=g;refine eC (cF cO) λn q c5 Mu=>?_;change rO=_ at c5;subst zr aK c5;simp only[Zk,decide_eq_true_eq]at Mu;obtain⟨⟨⟨⟨⟨⟨rfl,rfl⟩,h3⟩,h4⟩,h5⟩,h6⟩,h7⟩:=Mu;exact⟨el,n,q,iter,fs,gZ,p,rfl,rfl,h3,h4,h5,h6,h7⟩
def xo(ρ:Env):ev F false (.comp fr 0 it ifs eE) ρ=((mB F true it ρ).bind λxs=>if xs.length<=bV then walk (pL 0 (j6 F true ifs) (ev F false eE) fr ρ) xs else none).map .lst :=by
 show(mB F true it ρ).bind _=_;cases mB F true it ρ with
 |none=>rfl
 |some xs=>
  show(if xs.length<=bV then _ else _)=Option.map _ (if xs.length<=bV then _ else _);by_cases h:xs.length<=bV
  .rw[ZD h,ZD h];rfl
  .rw[ZL h,ZL h];rfl
def Cf{g:Option (List D)}(h:e=g.map D.lst):e.bind gH=g:=by rw[h];cases g<;>rfl
def xp{K:aH}{it ifs eE:E}(σ:St)(H:Hp)(Q:VK)(h:tF K (λρ=>(ev F false (.comp fr 0 it ifs eE) ρ).bind gH) σ H Q):
  tF K (λρ=>(mB F true it ρ).bind λxs=>if xs.length<=bV then walk (pL 0 (j6 F true ifs) (ev F false eE) fr ρ) xs else none) σ H Q:=by
 rwa [B7 λρ=>Cf (xo ρ)]at h
def Cg(hi:cf G F it)(hf:cf G F ifs)(he:cf G F eE):cf G F (.comp fr tg it ifs eE):=by
 have aP:∀X,Ct X G F->∀x,bF G (.comp fr tg it ifs eE) X.N X.env.scope x=true->(∃el gs s p,x= .ListComp el gs s p)/\tg=0/\PE X x (tF X.K λρ=>(ev F false (.comp fr tg it ifs eE) ρ).bind gH):=λX hC x h=>by
  refine Ur (pS h) λel n q iter fs gZ p af aK h3 h4 h5 h6 h7=>?_;subst af;subst aK;exact⟨⟨_,_,_,_,rfl⟩,rfl,(KD (hi.i X hC _ iter h5 true) (rg h4).1 hC.calm (ni hC hi hf he h4 h5 h6 h7) (dG h3)).weak λσ H Q z=>xp σ H Q z⟩
 have DX:tg=0->∀ρ d,ev F false (.comp fr tg it ifs eE) ρ=some d->∃ds,d= .lst ds:=λht ρ d hd=>by
  subst ht;rw[xo]at hd;refine aa (map_some hd) λxs h1 c5=>?_;subst c5;exact⟨_,rfl⟩
 refine .fQ (λX hC x h m=>?_) (λX hC x h _=>?_) (λX hC x h z=>?_)
 .exact cP (aP X hC x h) λ_ hq k=>iV m k (DX hq)
 .obtain⟨⟨el,gs,s,p,rfl⟩,hq,k⟩:=aP X hC x h;exact cR (iV false k (DX hq)) λ_=>rfl
 .exact(aP X hC x h).2.2
def Ci(ha:cf G F a):cf G F (.sset a):=by
 have aP:∀X,Ct X G F->∀x,bF G (.sset a) X.N X.env.scope x=true->(∃fn args rL p,x= .Call fn args rL p)/\PE X x (tF X.K λρ=>(ev F false (.sset a) ρ).bind gH):=λX hC x h=>by
  refine lU (fA (e:=x) h) λn1 p1 a1 q1 zr h=>lU (fA h) λn2 p2 a2 q2 aK h=>?_;subst zr aK;refine⟨⟨_,_,_,_,rfl⟩,?_⟩;change (decide (n1="sorted")&&decide (n2="set")&&gf X.env.scope n1&&gf X.env.scope n2&&bF G a X.N X.env.scope a2&&bD a2)=true at h;simp only[Zk,decide_eq_true_eq]at h;obtain⟨⟨⟨⟨⟨rfl,rfl⟩,h3⟩,h4⟩,h5⟩,h6⟩:=h;refine(FN hC.calm hC.units (dU h3) (hC.mg _ (by simp[iC])) (dU h4) (hC.mg _ (by simp[iC])) (ha.e X hC _ h5 true) (bP h6)).weak λσ H Q zz=>?_;refine cn zz λO ρ ds hx hd q=>aa aa4 λd e1 e2=>aa (map_some (show((ev F true a ρ).bind sC).map D.lst=some d from e1)) λxs e3 e4=>?_;subst e4;cases (show some xs=some ds from e2);exact⟨O,ρ,ds,hx,e3,q⟩
 have DX:∀ρ d,ev F false (.sset a) ρ=some d->∃ds,d= .lst ds:=λρ d hd=>aa (map_some (show((ev F true a ρ).bind sC).map D.lst=some d from hd)) λxs _ e=>⟨xs,e.symm⟩;refine .fQ (λX hC x h m=>iV m (aP X hC x h).2 DX) (λX hC x h _=>?_) (λX hC x h z=>ff z);obtain⟨⟨fn,args,rL,p,rfl⟩,k⟩:=aP X hC x h;exact cR (iV false k DX) λ_=>rfl
def snd(e':E):cf G F e':=by
 induction e' with
 |nil=>exact Fu
 |cons a r ha hr=>exact B_ ha hr
 |var i=>exact Fv
 |c d=>exact OV
 |bin o a b ha hb=>exact Fw ha hb
 |cmp o a b ha hb=>exact Fx ha hb
 |tup es he=>exact FC he
 |lst es he=>exact FD he
 |idx a i ha hi=>exact FF ha hi
 |sl a lo hi ha hl hh=>exact KI ha hl hh
 |call f es he=>exact Ca he
 |prim q es he=>exact Cb he
 |rM q es he=>exact FG he
 |comp fr tg it ifs eE hi hf he=>exact Cg hi hf he
 |gi es he=>exact FO he
 |it a ha=>exact KP ha
 |eL mm o es ho he=>exact Cc ho he
 |Ae a _=>exact KO
 |mr i k hk=>exact Ce hk
 |AZ neg k i hk=>exact FL hk
 |iF i=>exact zG
 |dk i=>exact KL
 |dv i=>exact KN
 |uY k es he=>exact FA he
 |not a ha=>exact Fz ha
 |Jx a ha=>exact FH ha
 |sset a ha=>exact Ci ha
 |neg a ha=>exact Fy ha
end
def Os(ab:Addr->Prop)(ow:Nat->Option Addr):Addr->Prop:=λa=>ab a\/∃i,ow i=some a
noncomputable def pT(ow:Nat->Option Addr)(i:Nat)(o:Option Addr):Nat->Option Addr:=λj=>if j=i then o else ow j
def aM:pT ow i o i=o:=ZD rfl
def aR(h:¬j=i):pT ow i o j=ow j:=ZL h
structure SX(K:aH)(H₀:Hp)(ab Z:Addr->Prop)(kv:List V)(kd:List D)(ow:Nat->Option Addr)(σ:St)(H:Hp)(ρ:Env):Prop where
 ex:EX K (Os ab ow) σ H ρ
 own:∀(i:Nat) (d:D),ρ[i]?=some (some (true,d))->∃a,σ[i]?=some (some (.ref a))/\((ml d=false/\ow i=some a)\/(ml d=true/\Z a/\ab a))
 inj:∀i j a,ow i=some a->ow j=some a->i=j
 new:∀i a,ow i=some a->H₀ a=none
 same:ae H₀ H
 kp:aq K (Os ab ow) H kv kd
 o0:∀a,ab a->∃o,H₀ a=some o
 len:ρ.length=σ.length
section
variable {K:aH}{H₀:Hp}{ab Z:Addr->Prop}{kv:List V}{kd:List D}{ow:Nat->Option Addr}{σ:St}{H H1:Hp}{ρ:Env}
theorem SX.mono(h:ab3)(s:ae H H1):SX K H₀ ab Z kv kd ow σ H1 ρ:=⟨h.ex.mono s,h.own,h.inj,h.new,h.same.trans s,h.kp.mono s,h.o0,h.len⟩
theorem SX.put(h:ab3)(r:bx K (Os ab ow) H v d)(i:Nat):SX K H₀ ab Z kv kd (pT ow i none) (σ.set i (some v)) H (Py.put ρ i false d):=by
 have sub:∀a,Os ab (pT ow i none) a->Os ab ow a:=λa z=>by
  rcases z with z|⟨j,z⟩
  .exact .inl z
  .by_cases hj:j=i
   .rw[hj,aM]at z;cases z
   .rw[aR hj]at z;exact .inr ⟨j,z⟩
 refine⟨⟨λa ha=>h.ex.live a (sub a ha),λj o d' hj=>?_⟩,λj d' hj=>?_,λj k a hj hk=>?_,λj a hj=>?_,h.same,h.kp.weak sub,h.o0,by unfold Py.put;rw[aag,aag];exact h.len⟩
 .by_cases eG:j=i
  .subst eG;unfold Py.put at hj;by_cases hl:j<ρ.length
   .rw[ZX hl]at hj;cases hj;exact⟨v,ZX (by rw[<-h.len];exact hl),r.weak sub⟩
   .rw[ZR (by rw[aag];exact ZZ hl)]at hj;cases hj
  .unfold Py.put at hj;rw[ZV (aay eG)]at hj;refine aa (h.ex.j7 j o d' hj) λw h1 h2=>⟨w,by rw[ZV (aay eG)];exact h1,?_⟩;cases o with
   |true=>
    refine bO h2 λa e1 e2 c=>aa (h.own j d' hj) λa' o2 o1=>?_;rw[h1]at o2;cases o2;cases e1;exact⟨a,rfl,o1.elim (λo1=> .inr ⟨j,by rw[aR eG];exact o1.2⟩) (λo1=> .inl o1.2.2),c.weak sub⟩
   |false=>exact bx.weak h2 sub
 .by_cases eG:j=i
  .subst eG;unfold Py.put at hj;by_cases hl:j<ρ.length
   .rw[ZX hl]at hj;cases hj
   .rw[ZR (by rw[aag];exact ZZ hl)]at hj;cases hj
  .unfold Py.put at hj;rw[ZV (aay eG)]at hj;exact aa (h.own j d' hj) λa o2 o1=>⟨a,by rw[ZV (aay eG)];exact o2,o1.imp (λo1=>⟨o1.1,by rw[aR eG];exact o1.2⟩) id⟩
 .by_cases h1:j=i
  .rw[h1,aM]at hj;cases hj
  .by_cases h2:k=i
   .rw[h2,aM]at hk;cases hk
   .rw[aR h1]at hj;rw[aR h2]at hk;exact h.inj j k a hj hk
 .by_cases h1:j=i
  .rw[h1,aM]at hj;cases hj
  .rw[aR h1]at hj;exact h.new j a hj
def Cj:∀a,Os ab (pT ow i (some p)) a->Os ab ow a\/a=p:=λa z=>by
 rcases z with z|⟨j,z⟩
 .exact .inl (.inl z)
 .by_cases hj:j=i
  .rw[hj,aM]at z;cases z;exact .inr rfl
  .rw[aR hj]at z;exact .inl (.inr ⟨j,z⟩)
def nj(hp:H1 p=none)(r:aq K (Os ab ow) H1 vs ds):aq K (Os ab (pT ow i (some p))) (L2.upd H1 p u) vs ds:=((r.own hp).mono (ae.upd hp)).weak Cj
def SX.OY(h:ab3)(s:ae H H1)(hp:H1 p=none)(hu:tQ u)(i:Nat)(hi:i<ρ.length)(QT:ml d0=false)(c:ed K (Os ab (pT ow i (some p))) (L2.upd H1 p u) p d0):
  SX K H₀ ab Z kv kd (pT ow i (some p)) (σ.set i (some (.ref p))) (L2.upd H1 p u) (Py.put ρ i true d0):=by
 have h1:=h.mono s;have KQ:H₀ p=none:=by
  cases z:H₀ p with
  |none=>rfl
  |some o=>rw[h1.same _ _ z]at hp;cases hp
 have sub:∀a,Os ab (pT ow i (some p)) a->(λa=>Os ab ow a\/a=p) a:=λa z=>by
  rcases z with z|⟨j,z⟩
  .exact .inl (.inl z)
  .by_cases hj:j=i
   .rw[hj,aM]at z;cases z;exact .inr rfl
   .rw[aR hj]at z;exact .inl (.inr ⟨j,z⟩)
 have up:ae H1 (L2.upd H1 p u):=ae.upd hp;have mv:∀{v d},bx K (Os ab ow) H1 v d->bx K (Os ab (pT ow i (some p))) (L2.upd H1 p u) v d:=λq=>((q.own hp).mono up).weak sub;have XM:∀{v d},aq K (Os ab ow) H1 v d->aq K (Os ab (pT ow i (some p))) (L2.upd H1 p u) v d:=λq=>((q.own hp).mono up).weak sub;have Vk:∀j,ow j≠some p:=λj z=>by
  refine aa (h1.ex.live p (.inr ⟨j,z⟩)) λus q _=>?_;rw[q]at hp;cases hp
 refine⟨⟨λa ha=>?_,λj o d' hj=>?_⟩,λj d' hj=>?_,λj k a hj hk=>?_,λj a hj=>?_,h1.same.trans up,XM h1.kp,h.o0,by unfold Py.put;rw[aag,aag];exact h.len⟩
 .rcases sub a ha with z|z
  .exact aa (h1.ex.live a z) λus q qo=>⟨us,up _ _ q,qo⟩
  .subst z;exact⟨u,ag,hu⟩
 .by_cases eG:j=i
  .subst eG;unfold Py.put at hj;rw[ZX hi]at hj;cases hj;exact⟨.ref p,ZX (by rw[<-h.len];exact hi),p,rfl,.inr ⟨j,aM⟩,c⟩
  .unfold Py.put at hj;rw[ZV (aay eG)]at hj;refine aa (h1.ex.j7 j o d' hj) λw q1 q2=>⟨w,by rw[ZV (aay eG)];exact q1,?_⟩;cases o with
   |true=>
    refine bO q2 λa e1 e2 c'=>aa (h.own j d' hj) λa' o2 o1=>?_;rw[q1]at o2;cases o2;cases e1;exact⟨a,rfl,o1.elim (λo1=> .inr ⟨j,by rw[aR eG];exact o1.2⟩) (λo1=> .inl o1.2.2),((c'.own hp).mono up).weak sub⟩
   |false=>exact mv q2
 .by_cases eG:j=i
  .subst eG;unfold Py.put at hj;rw[ZX hi]at hj;cases hj;exact⟨p,ZX (by rw[<-h.len];exact hi),.inl ⟨QT,aM⟩⟩
  .unfold Py.put at hj;rw[ZV (aay eG)]at hj;exact aa (h.own j d' hj) λa o2 o1=>⟨a,by rw[ZV (aay eG)];exact o2,o1.imp (λo1=>⟨o1.1,by rw[aR eG];exact o1.2⟩) id⟩
 .by_cases q1:j=i
  .rw[q1,aM]at hj;cases hj;by_cases q2:k=i
   .rw[q1,q2]
   .rw[aR q2]at hk;exact absurd hk (Vk k)
  .rw[aR q1]at hj;by_cases q2:k=i
   .rw[q2,aM]at hk;cases hk;exact absurd hj (Vk j)
   .rw[aR q2]at hk;exact h.inj j k a hj hk
 .by_cases q1:j=i
  .rw[q1,aM]at hj;cases hj;exact KQ
  .rw[aR q1]at hj;exact h.new j a hj
def SX.Jb(h:ab3)(s:ae H H1)(hp:H1 p=none)(r:aq K (Os ab ow) H1 vs ds)(i:Nat)(hi:i<ρ.length):
  SX K H₀ ab Z kv kd (pT ow i (some p)) (σ.set i (some (.ref p))) (L2.upd H1 p (.lst vs)) (Py.put ρ i true (.lst ds)):=h.OY (u:= .lst vs) s hp trivial i hi rfl (.inl ⟨vs,ds,rfl,ag,nj hp r⟩)
def SX.Vl(h:ab3)(ha:ow i=some a)(hs:σ[i]?=some (some (.ref a)))(hH:H a=some u)(hu:tQ u)(rN:tQ u')(hz:ml d0=false)(c:ed K (Os ab ow) (L2.upd H a u') a d0):
  SX K H₀ ab Z kv kd ow σ (L2.upd H a u') (Py.put ρ i true d0):=by
 have oa:Os ab ow a:= .inr ⟨i,ha⟩;have sm:ae H₀ (L2.upd H a u'):=λb o e=>by
  have hb:b≠a:=λz=>by rw[z,h.new i a ha]at e;cases e
  rw[ai hb];exact h.same _ _ e
 refine⟨⟨λb hb=>?_,λj o d' hj=>?_⟩,λj d' hj=>?_,h.inj,h.new,sm,h.kp.upd oa hH hu,h.o0,by unfold Py.put;rw[aag];exact h.len⟩
 .by_cases pE:b=a
  .subst pE;exact⟨u',ag,rN⟩
  .exact aa (h.ex.live b hb) λus q qo=>⟨us,by rw[ai pE];exact q,qo⟩
 .by_cases eG:j=i
  .subst eG;unfold Py.put at hj;by_cases hl:j<ρ.length
   .rw[ZX hl]at hj;cases hj;exact⟨.ref a,hs,a,rfl,oa,c⟩
   .rw[ZR (by rw[aag];exact ZZ hl)]at hj;cases hj
  .unfold Py.put at hj;rw[ZV (aay eG)]at hj;refine aa (h.ex.j7 j o d' hj) λw q1 q2=>⟨w,q1,?_⟩;cases o with
   |true=>
    refine bO q2 λb e1 e2 c'=>aa (h.own j d' hj) λb' o2 o1=>?_;rw[q1]at o2;cases o2;cases e1;have pE:b≠a:=λz=>by
     rcases o1 with o1|o1
     .exact eG (h.inj j i b o1.2 (by rw[z];exact ha))
     .obtain⟨w,hw⟩:=h.o0 b o1.2.2;rw[z,h.new i a ha]at hw;cases hw
    exact⟨b,rfl,e2,c'.upd pE oa hH hu⟩
   |false=>exact bx.upd q2 oa hH hu
 .by_cases eG:j=i
  .subst eG;unfold Py.put at hj;by_cases hl:j<ρ.length
   .rw[ZX hl]at hj;cases hj;exact⟨a,hs,.inl ⟨hz,ha⟩⟩
   .rw[ZR (by rw[aag];exact ZZ hl)]at hj;cases hj
  .unfold Py.put at hj;rw[ZV (aay eG)]at hj;exact h.own j d' hj
def SX.wr(h:ab3)(ha:ow i=some a)(hs:σ[i]?=some (some (.ref a)))(hH:H a=some (.lst vs))(r:aq K (Os ab ow) H KR Ov):
  SX K H₀ ab Z kv kd ow σ (L2.upd H a (.lst KR)) (Py.put ρ i true (.lst Ov)):=h.Vl (u':= .lst KR) ha hs hH trivial trivial rfl (.inl ⟨KR,Ov,rfl,ag,r.upd (.inr ⟨i,ha⟩) hH trivial⟩)
def SX.freeze(h:ab3)(hd:ρ[i]?=some (some (true,.lst ds))):SX K H₀ ab Z kv kd (pT ow i none) σ H (ρ.set i (some (false,.lst ds))):=by
 refine aa (h.own i _ hd) λa o2 o1=>?_;have o1:ow i=some a:=o1.elim (λz=>z.2) λz=>nomatch z.1;refine aa (h.ex.j7 i true _ hd) λw q1 q2=>bO q2 λa' e1 e3 c=>aa c.lst λvs e4 e5=>?_;rw[q1]at o2;cases o2;cases e1;have e6:¬Os ab (pT ow i none) a:=λz=>by
  rcases z with z|⟨j,z⟩
  .obtain⟨o,q⟩:=h.o0 a z;rw[h.new i a o1]at q;cases q
  .by_cases hj:j=i
   .rw[hj,aM]at z;cases z
   .rw[aR hj]at z;exact hj (h.inj j i a z o1)
 have Za:σ=σ.set i (some (.ref a)):=by
  apply aaG;intro j;by_cases hj:i=j
  .subst hj;have hl:i<σ.length:=(ZJ.mp q1).1;rw[ZX hl,q1]
  .rw[ZV hj]
 have sub:∀b,Os ab (pT ow i none) b->Os ab ow b:=λb z=>by
  rcases z with z|⟨j,z⟩
  .exact .inl z
  .by_cases hj:j=i
   .rw[hj,aM]at z;cases z
   .rw[aR hj]at z;exact .inr ⟨j,z⟩
 have r:bx K (Os ab (pT ow i none)) H (.ref a) (.lst ds):= .lst (.inl e4) e6 (e5.weak sub);refine⟨⟨λb hb=>h.ex.live b (sub b hb),λj o d' hj=>?_⟩,λj d' hj=>?_,λj k b hj hk=>?_,λj b hj=>?_,h.same,h.kp.weak sub,h.o0,by rw[aag];exact h.len⟩
 .by_cases eG:j=i
  .subst eG;have hl:j<ρ.length:=(ZJ.mp hd).1;rw[ZX hl]at hj;cases hj;exact⟨.ref a,q1,r⟩
  .rw[ZV (aay eG)]at hj;refine aa (h.ex.j7 j o d' hj) λw p1 p2=>⟨w,p1,?_⟩;cases o with
   |true=>
    refine bO p2 λb f1 f2 c'=>aa (h.own j d' hj) λb' g2 g1=>?_;rw[p1]at g2;cases g2;cases f1;exact⟨b,rfl,g1.elim (λg1=> .inr ⟨j,by rw[aR eG];exact g1.2⟩) (λg1=> .inl g1.2.2),c'.weak sub⟩
   |false=>exact bx.weak p2 sub
 .by_cases eG:j=i
  .subst eG;have hl:j<ρ.length:=(ZJ.mp hd).1;rw[ZX hl]at hj;cases hj
  .rw[ZV (aay eG)]at hj;exact aa (h.own j d' hj) λb g2 g1=>⟨b,g2,g1.imp (λg1=>⟨g1.1,by rw[aR eG];exact g1.2⟩) id⟩
 .by_cases h1:j=i
  .rw[h1,aM]at hj;cases hj
  .by_cases h2:k=i
   .rw[h2,aM]at hk;cases hk
   .rw[aR h1]at hj;rw[aR h2]at hk;exact h.inj j k b hj hk
 .by_cases h1:j=i
  .rw[h1,aM]at hj;cases hj
  .rw[aR h1]at hj;exact h.new j b hj
def SX.keep(h:ab3)(r:bx K (Os ab ow) H v d):SX K H₀ ab Z (v::kv) (d::kd) ow σ H ρ:=⟨h.ex,h.own,h.inj,h.new,h.same,.cons r h.kp,h.o0,h.len⟩
def SX.drop(h:SX K H₀ ab Z (v::kv) (d::kd) ow σ H ρ):SX K H₀ ab Z kv kd ow σ H ρ:=⟨h.ex,h.own,h.inj,h.new,h.same,by cases h.kp with|cons _ t=>exact t,h.o0,h.len⟩
def SX.kept(h:SX K H₀ ab Z (v::kv) (d::kd) ow σ H ρ):bx K (Os ab ow) H v d:=by cases h.kp with|cons r _=>exact r
end
def post(K:aH)(H₀:Hp)(ab Z:Addr->Prop)(kv:List V)(kd:List D)(D':Aw):kQ->Prop
 | .next ρ=>∀ow σ H,SX K H₀ ab Z kv kd ow σ H ρ->D'.nx σ H
 | .brk ρ=>∀ow σ H,SX K H₀ ab Z kv kd ow σ H ρ->D'.bk σ H
 | .cont ρ=>∀ow σ H,SX K H₀ ab Z kv kd ow σ H ρ->D'.ct σ H
 | .ret d=>∀v H,ae H₀ H->bx K ab H v d->D'.rt v H
def tC(K:aH)(f:Env->Option kQ):TS:=λD' σ H=>∃H₀ ab Z kv kd ow ρ out,SX K H₀ ab Z kv kd ow σ H ρ/\f ρ=some out/\post K H₀ ab Z kv kd D' out
def _root_.L2.PS.weak{st:Stmt}(h:PS X st t)(w:∀D' σ H,t' D' σ H->t D' σ H):PS X st t':=λU s σ H D' I q=>h U s σ H D' I (w D' σ H q)
def _root_.L2.lz.weak{st:List Stmt}(h:lz X st t)(w:∀D' σ H,t' D' σ H->t D' σ H):lz X st t':=λU s σ H D' I q=>h U s σ H D' I (w D' σ H q)
noncomputable def fR:Expr->Bool
 | .ListComp _ _ _ _=>true
 | .SetComp _ _ _ _=>true
 | .DictComp _ _ _ _ _=>true
 |_=>false
noncomputable def XN:E->Bool
 | .comp _ _ _ _ _=>true
 |_=>false
noncomputable def oO(sc:Scope)(x:Str):Bool:=match sc.names.lookup x with|some .local =>true|some .cell =>true|_=>false
noncomputable def Ck:Expr->Bool
 | .Tuple _ _ _=>false
 |_=>true
noncomputable def c6(N:List Str)(sc:Scope):List Nat->List Expr->Bool
 |[],es=>es.isEmpty
 |i::is,es=>match es with
  |e::es=>(match e with| .Name x _=>decide (N[i]?=some x)&&oO sc x|_=>false)&&c6 N sc is es
  |[]=>false
noncomputable def KS(N:List Str)(sc:Scope)(is:List Nat)(tg:Nat)(e:Expr):Bool:=
 match e with
 | .Name _ _=>decide (tg=0)&&c6 N sc is [e]&&decide (is.length=1)
 | .Tuple es _ _=>decide (tg=is.length)&&!es.isEmpty&&c6 N sc is es
 |_=>false
noncomputable def KU(G:GT)(it:E)(N:List Str)(sc:Scope)(rO iter:Expr):Bool:=
 match it with
 | .Ae a=>match rO with
  | .Tuple _ _ _=>m8 iter λx a0=>decide (x="enumerate")&&gf sc x&&bF G a N sc a0&&bD a0
  |_=>false
 |it=>Fs G it N sc iter
noncomputable def Cm(N:List Str)(sc:Scope)(y:Nat)(e:Expr):Bool:=m7 e λe2 nm as b=>as.isEmpty&&decide (nm="pop")&&c9 N sc y e2&&b
noncomputable def FP(G:GT)(x f:Nat)(N:List Str)(sc:Scope)(e:Expr)(ok:Expr->Bool):Bool:=
 m6 e λn as=>Tj as λe1 w=>decide (G.1[f]?=some n)&&gf sc n&&zD n&&c9 N sc x e1&&ok w&&bD w
noncomputable def OZ(G:GT)(x:Nat)(fr:List Nat)(it k v:E)(N:List Str)(sc:Scope)(st:Stmt):Bool:=
 vF st λa e=>decide (N[x]?=some a)&&oO sc a&&KG e λel gs gZ=>vD el λks vs=>oN ks λko=>vE ko λke=>oN vs λve=>oN gs λg=>fP g.target λn=>g.ifs.isEmpty&&decide (g.is_async=0)&&gE g.iter&&zE N sc gZ [n] fr&&Fs G it N sc g.iter&&bF G k (oM N [n] fr) (kX gZ sc) ke&&bF G v (oM N [n] fr) (kX gZ sc) ve
noncomputable def Tp(G:GT)(x y r f:Nat)(N:List Str)(sc:Scope)(st:Stmt):Bool:=vF st λa e=>decide (N[r]?=some a)&&oO sc a&&FP G x f N sc e (Cm N sc y)
noncomputable def HL(G:GT)(x:Nat)(p q u:E)(N:List Str)(sc:Scope)(st:Stmt):Bool:=
 pN st λCn e=>oN Cn λo=>tY o λo2 qe=>tY o2 λe1 pe=>c9 N sc x e1&&bF G p N sc pe&&cb pe&&bF G q N sc qe&&cb qe&&bF G u N sc e&&!fR e
noncomputable def O0(G:GT)(x y g:Nat)(w:E)(N:List Str)(sc:Scope)(st:Stmt):Bool:=
 mZ st λe=>m7 e λe2 m as b=>oN as λv=>c9 N sc y e2&&decide (m="extend")&&b&&bD v&&FP G x g N sc v (bF G w N sc)
noncomputable def Vm(f g h k:Stmt->Bool)(l:List Stmt):Bool:=
 match l with
 |[]=>false
 |s1::l=>match l with
  |[]=>false
  |s2::l=>match l with
   |[]=>false
   |s3::l=>match l with
    |[]=>false
    |s4::l=>match l with
     |[]=>f s1&&g s2&&h s3&&k s4
     |_::_=>false
def KW(e:Vm f g h k l=true):∃s1 s2 s3 s4,l=[s1,s2,s3,s4]/\f s1=true/\g s2=true/\h s3=true/\k s4=true:=by
 cases l with
 |nil=>cases e
 |cons s1 l=>cases l with
  |nil=>cases e
  |cons s2 l=>cases l with
   |nil=>cases e
   |cons s3 l=>cases l with
    |nil=>cases e
    |cons s4 l=>cases l with
     |cons _ _=>cases e
     |nil=>
      change (f s1&&g s2&&h s3&&k s4)=true at e;simp only[Zk]at e;exact⟨s1,s2,s3,s4,rfl,e.1.1.1,e.1.1.2,e.1.2,e.2⟩
noncomputable def O1(f g h:Stmt->Bool)(l:List Stmt):Bool:=
 match l with
 |[]=>false
 |s1::l=>match l with
  |[]=>false
  |s2::l=>match l with
   |[]=>false
   |s3::l=>match l with
    |[]=>f s1&&g s2&&h s3
    |_::_=>false
def Co(e:O1 f g h l=true):∃s1 s2 s3,l=[s1,s2,s3]/\f s1=true/\g s2=true/\h s3=true:=by
 cases l with
 |nil=>cases e
 |cons s1 l=>cases l with
  |nil=>cases e
  |cons s2 l=>cases l with
   |nil=>cases e
   |cons s3 l=>cases l with
    |cons _ _=>cases e
    |nil=>
     change (f s1&&g s2&&h s3)=true at e;simp only[Zk]at e;exact⟨s1,s2,s3,rfl,e.1.1,e.1.2,e.2⟩
noncomputable def O3(N:List Str)(sc:Scope)(m:Nat)(f g h:Stmt->Bool)(st:Stmt):Bool:=
 match st with
 | .If em a b _=>c9 N sc m em&&b.isEmpty&&O1 f g h a
 |_=>false
noncomputable def O4(N:List Str)(sc:Scope)(y:Nat)(f g h:Stmt->Bool)(st:Stmt):Bool:=
 match st with
 | .While e2 a b _=>c9 N sc y e2&&b.isEmpty&&O1 f g h a
 |_=>false
noncomputable def O5(N:List Str)(sc:Scope)(x:Nat)(st:Stmt):Bool:=
 match st with
 | .Return o _=>match o with
  |some e=>c9 N sc x e
  |none=>false
 |_=>false
def FQ{st:Stmt}(e:O3 N sc m f g h st=true):∃em s1 s2 s3 p,st= .If em [s1,s2,s3] [] p/\c9 N sc m em=true/\f s1=true/\g s2=true/\h s3=true:=by
 cases st with
 |If em a b p=>
  change (c9 N sc m em&&b.isEmpty&&O1 f g h a)=true at e;simp only[Zk]at e;refine kL (Co e.2) λs1 s2 s3 af q=>?_;subst af;cases b with
  |nil=>exact⟨em,s1,s2,s3,p,rfl,e.1.1,q⟩
  |cons _ _=>cases e.1.2
 |_=>cases e
def FR{st:Stmt}(e:O4 N sc m f g h st=true):∃em s1 s2 s3 p,st= .While em [s1,s2,s3] [] p/\c9 N sc m em=true/\f s1=true/\g s2=true/\h s3=true:=by
 cases st with
 |While em a b p=>
  change (c9 N sc m em&&b.isEmpty&&O1 f g h a)=true at e;simp only[Zk]at e;refine kL (Co e.2) λs1 s2 s3 af q=>?_;subst af;cases b with
  |nil=>exact⟨em,s1,s2,s3,p,rfl,e.1.1,q⟩
  |cons _ _=>cases e.1.2
 |_=>cases e
def FU{st:Stmt}(e:O5 N sc x st=true):∃e1 p,st= .Return (some e1) p/\c9 N sc x e1=true:=by
 cases st with
 |Return o p=>
  cases o with
  |none=>cases e
  |some e1=>
   exact⟨e1,p,rfl,e⟩
 |_=>cases e
mutual
noncomputable def KY(G:GT):C->List Str->Scope->Stmt->Bool
 | .asg i e,N,sc,st=>vF st λx v=>decide (N[i]?=some x)&&oO sc x&&bF G e N sc v&&!fR v
 | .cU i e,N,sc,st=>vF st λx v=>decide (N[i]?=some x)&&oO sc x&&bF G e N sc v&&fresh e&&(!fR v||XN e)
 | .uZ is e,N,sc,st=>pN st λCn v=>oN Cn λtg=>match tg with
  | .Tuple es _ _=>!is.isEmpty&&c6 N sc is es&&bF G e N sc v&&Ck v
  |_=>false
 | .jj i ix e,N,sc,st=>pN st λCn v=>oN Cn λo=>tY o λn k=>fP n λx=>decide (N[i]?=some x)&&q5 sc x&&zD x&&bF G ix N sc k&&cb k&&bF G e N sc v
 | .app i e,N,sc,st=>mZ st λex=>m7 ex λo m as b=>oN as λv=>fP o λx=>decide (N[i]?=some x)&&q5 sc x&&zD x&&decide (m="append")&&b&&bF G e N sc v&&bD v
 | .ret e,N,sc,st=>match st with
  | .Return o _=>match o with
   |some v=>bF G e N sc v
   |none=>false
  |_=>false
 | .ifs c t u,N,sc,st=>match st with
  | .If x a b _=>bF G c N sc x&&Fq c&&gg G t N sc a&&gg G u N sc b
  |_=>false
 | .while c b,N,sc,st=>match st with
  | .While x a o _=>o.isEmpty&&bF G c N sc x&&Fq c&&gg G b N sc a
  |_=>false
 | .mC i b,N,sc,st=>match st with
  | .While x a o _=>o.isEmpty&&c9 N sc i x&&gg G b N sc a
  |_=>false
 | .for is tg it b,N,sc,st=>match st with
  | .For rO iter a o _=>o.isEmpty&&gE iter&&gg G b N sc a&&KS N sc is tg rO&&KU G it N sc rO iter
  |_=>false
 | .u0 i t es,N,sc,st=>vF st λx v=>decide (N[i]?=some x)&&oO sc x&&vD v λks vs=>oN ks λko=>vE ko λk=>oN vs λw=>decide (t≠0)&&dS G es N sc [k,w]
 | .yO i k e,N,sc,st=>pN st λCn v=>oN Cn λt=>tY t λo ix=>c9 N sc i o&&bF G k N sc ix&&cb ix&&bF G e N sc v&&!fR v
 | .pop i j,N,sc,st=>vF st λx v=>decide (N[i]?=some x)&&oO sc x&&Cm N sc j v
 | .ext i e,N,sc,st=>mZ st λex=>m7 ex λo m as b=>oN as λv=>fP o λx=>decide (N[i]?=some x)&&q5 sc x&&zD x&&decide (m="extend")&&b&&bF G e N sc v&&bD v
 | .expr e,N,sc,st=>mZ st λx=>q_ x λ_ _ _=>bF G e N sc x
 | .raise _,_,_,st=>match st with| .Raise _ _ _=>true|_=>false
 |_,_,_,_=>false
noncomputable def gg(G:GT):C->List Str->Scope->List Stmt->Bool
 | .skip,_,_,uE=>uE.isEmpty
 | .seq a b,N,sc,uE=>match uE with
  |s::r=>KY G a N sc s&&gg G b N sc r
  |[]=>false
 | .fst x fr it k v c1 y r f c2 m c3 p q u g w,N,sc,uE=>Vm (OZ G x fr it k v N sc) (KY G c1 N sc) (O4 N sc y (Tp G x y r f N sc) (KY G c2 N sc) (O3 N sc m (KY G c3 N sc) (HL G x p q u N sc) (O0 G x y g w N sc))) (O5 N sc x) uE
 |_,_,_,_=>false
end
def gI(h:oO sc x=true):Loc sc x:=by
 unfold oO at h;split at h
 .rename_i e;exact .inl e
 .rename_i e;exact .inr e
 .cases h
def nk(h:fR v=false):swapsWith v (some t) l env=pure false:=by
 cases v<;>first|rfl|exact absurd h Bool.noConfusion
section
variable {K:aH}{H₀:Hp}{ab Z:Addr->Prop}{kv:List V}{kd:List D}{ow:Nat->Option Addr}{σ:St}{H H1:Hp}{ρ:Env}{a:Addr}{o:Obj}{u:HO}
def SX.base(h:ab3)(e:H a=some (.dC o u)):SX K (L2.upd H₀ a (.dC o u)) ab Z kv kd ow σ H ρ:=by
 refine⟨h.ex,h.own,h.inj,λi b hb=>?_,λb w hb=>?_,h.kp,λb hb=>?_,h.len⟩
 .have d_:b≠a:=λz=>by
   refine aa (h.ex.live b (.inr ⟨i,hb⟩)) λw q1 q2=>?_;rw[z,e]at q1;cases q1;exact q2
  rw[ai d_];exact h.new i b hb
 .by_cases pE:b=a
  .subst pE;rw[ag]at hb;cases hb;exact e
  .rw[ai pE]at hb;exact h.same _ _ hb
 .by_cases pE:b=a
  .subst pE;exact⟨_,ag⟩
  .obtain⟨w,q⟩:=h.o0 b hb;exact⟨w,by rw[ai pE];exact q⟩
def pU(s0:H₀ a=none\/H₀ a=some (.dC o u)):ae H₀ (L2.upd H₀ a (.dC o u)):=λb w hb=>by
 by_cases pE:b=a
 .subst pE;rcases s0 with z|z
  .rw[z]at hb;cases hb
  .rw[z]at hb;cases hb;exact ag
 .rw[ai pE];exact hb
def SX.KZ(h:SX K (L2.upd H₀ a (.dC o u)) ab Z kv kd ow σ H ρ)(s0:H₀ a=none\/H₀ a=some (.dC o u))(o0:∀b,ab b->∃w,H₀ b=some w):SX K H₀ ab Z kv kd ow σ H ρ:=by
 refine⟨h.ex,h.own,h.inj,λi b hb=>?_,(pU s0).trans h.same,h.kp,o0,h.len⟩;have:=h.new i b hb;by_cases pE:b=a
 .subst pE;rw[ag]at this;cases this
 .rw[ai pE]at this;exact this
end
def FV(h1:ks.length=vs.length)(h2:ks.length=us.length)(e:gh 0 ks vs=gh 0 ks us):vs=us:=by
 rw[jI,jI]at e;have e:=HO.dK.inj e;have:=congrArg (List.map Prod.snd) e;rwa [aez (by rw[Zo];exact Zy (aad h1)),aez (by rw[Zo];exact Zy (aad h2))]at this
section
variable {X:Cx}{c e:Expr}{st:Stmt}{bg:List Stmt}{pos px:Pos}{x:Str}{i:Nat}
def K0:lz X [] (tC X.K λρ=>some (.next ρ)):=i8.weak λD' σ H zz=>by
 refine oh zz λH₀ ab Z kv kd ow ρ out hx hd k=>?_;cases hd;exact k ow σ H hx
def O6(h1:PS X st (tC X.K f))(h2:lz X bg (tC X.K g)):lz X (st::bg) (tC X.K λρ=>(f ρ).bind λo=>match o with
  | .next ρ'=>g ρ'
  |o=>some o):=
 (b7 h1 h2).weak λD' σ H zz=>by
  refine oh zz λH₀ ab Z kv kd ow ρ out hx hd k=>aa aa4 λo e1 hd=>⟨H₀,ab,Z,kv,kd,ow,ρ,o,hx,e1,?_⟩;cases o with
  |next ρ'=>exact λow σ H h=>⟨H₀,ab,Z,kv,kd,ow,ρ',out,h,hd,k⟩
  |brk ρ'=>cases hd;exact k
  |cont ρ'=>cases hd;exact k
  |ret d=>cases hd;exact k
def O7(hN:X.N.Nodup)(hi:X.N[i]?=some x)(hx:Loc X.env.scope x)(hf:X.fn x=true)(he:PE X e (tV X.K false f))(hs:swapsWith e (some (.Name x px)) pos.line X.env=pure false):
  PS X (.Assign [.Name x px] e pos) (tC X.K λρ=>(f ρ).map λd=> .next (put ρ i false d)):=
 (jY hN hi hx he hs (.inl hf)).weak λD' σ H zz=>by
  refine oh zz λH₀ ab Z kv kd ow ρ out hx hd k=>aa (map_some hd) λd e1 af=>?_;subst af;refine⟨Os ab ow,ρ,d,hx.ex,e1,λv H1 s1 r1=>?_⟩;exact k (pT ow i none) _ _ ((hx.mono s1).put r1.own i)
def Cp{K:aH}(h:ab3)(s:ae H H1)(hp:H1 p=none)(r:aq K (Os ab ow) H1 vs ds)(i:Nat):
  ∃jV,SX K H₀ ab Z kv kd jV (σ.set i (some (.ref p))) (L2.upd H1 p (.lst vs)) (Py.put ρ i true (.lst ds)):=by
 by_cases hi:i<ρ.length
 .exact⟨_,h.Jb s hp r i hi⟩
 .have e1:σ.set i (some (.ref p))=σ:=abV (by rw[<-h.len];exact ZZ hi);have e2:Py.put ρ i true (.lst ds)=ρ:=abV (ZZ hi);rw[e1,e2];exact⟨ow,h.mono (s.trans (ae.upd hp))⟩
def pV{f:Env->Option D}(hP:PS X st (ou te (cJ i)))(ht:∀σ H Q,tF X.K (λρ=>(f ρ).bind gH) σ H Q->te σ H Q):
  PS X st (tC X.K λρ=>(f ρ).bind λd=>match d with
   | .lst xs=>some (.next (put ρ i true (.lst xs)))
   |_=>none):=
 hP.weak λD' σ H zz=>by
  refine oh zz λH₀ ab Z kv kd ow ρ out hx hd k=>aa aa4 λd e1 hd=>?_;cases d with
  |lst ds=>
   cases hd;refine ht σ H _ ⟨Os ab ow,ρ,ds,hx.ex,by show(f ρ).bind gH=_;rw[e1];rfl,λp vs H1 s1 hp r=>?_⟩;obtain⟨jV,h'⟩:=Cp hx s1 hp r i;exact k jV _ _ h'
  |_=>cases hd
def K1(hi:X.N[i]?=some x)(hv:yw X.env.scope x)(FW:ab4=false)(oz:(x==("__classdict__":Str))=false)(hk:PE X ke (tV X.K false fi))(dw:cb ke=true)(he:PE X e (tV X.K false f)):
  PS X (.Assign [.Subscript (.Name x px) ke o] e pos) (tC X.K λρ=>(f ρ).bind λd=>((fi ρ).bind DT).bind λk=>match ρ[i]? with
   |some (some (true,.lst xs))=>(place xs.length k).map λj=> .next (put ρ i true (.lst (xs.set j d)))
   |_=>none):=
 (AA he (IT (bM hi hv FW oz) hk AO (by intro v;cases ke<;>first|rfl|exact absurd dw Zl)) (by cases e<;>rfl) (by cases e<;>rfl) rfl).weak λD' σ H zz=>by
  refine oh zz λH₀ ab Z kv kd ow ρ out hx hd k=>aa aa4 λd e1 hd=>aa aa4 λkk e2 hd=>aa (bind_some e2) λdk e3 e4=>?_;have JU:dk= .int kk:=by cases dk<;>first|(cases e4;rfl)|cases e4
  subst JU;split at hd
  .rename_i xs HM;refine aa (map_some hd) λj e5 af=>?_;subst af;refine⟨Os ab ow,ρ,d,hx.ex,e1,λv H1 s1 r1=>?_⟩;refine aa (hx.own i _ HM) λa o2 o1=>?_;have o1:ow i=some a:=o1.elim (λz=>z.2) λz=>nomatch z.1;refine⟨.ref a,o2,Os ab ow,ρ,.int kk,(hx.mono s1).ex,e3,λw H2 s2 r2=>?_⟩;have HK:=(hx.mono s1).mono s2;refine aa (HK.ex.j7 i true _ HM) λw' q1 q2=>bO q2 λa' e6 e8 c0=>aa c0.lst λvs e9 xt=>?_;rw[o2]at q1;cases q1;cases e6;refine⟨a,vs,kk,j,rfl,r2.int,e9,?_,?_⟩
   .rw[<-mW,xt.length];exact e5
   .exact k ow _ _ (HK.wr o1 o2 e9 (xt.set (r1.own.mono s2) j))
  .cases hd
def O8(he:PE X e (tV X.K false f)):PS X (.Return (some e) pos) (tC X.K λρ=>(f ρ).map .ret):=
 (uH he).weak λD' σ H zz=>by
  refine oh zz λH₀ ab Z kv kd ow ρ out hx hd k=>aa (map_some hd) λd e1 af=>?_;subst af;refine⟨Os ab ow,ρ,d,hx.ex,e1,λv H1 s1 r1=>?_⟩;exact k v H1 (hx.same.trans s1) (r1.own.weak λa z=> .inl z)
def K2(hi:X.N[i]?=some x)(hv:yw X.env.scope x)(FW:ab4=false)(oz:(x==("__classdict__":Str))=false):PS X (.Return (some (.Name x px)) pos) (tC X.K λρ=>(rd true ρ i).map .ret):=
 (uH (bM hi hv FW oz)).weak λD' σ H zz=>by
  refine oh zz λH₀ ab Z kv kd ow ρ out hx hd k=>aa (map_some hd) λd e1 af=>?_;subst af;have e1:rd true ρ i=some d:=e1;unfold rd at e1;split at e1
  .rename_i o d' HM;refine aa (hx.ex.j7 i o d' HM) λw q1 q2=>?_;cases o with
   |true=>
    refine bO q2 λa e6 e8 c0=>aa (hx.own i _ HM) λa' o2 o1=>?_;rw[o2]at q1;cases q1;cases e6;rcases c0 with⟨vs,ds,rfl,e9,xt⟩|⟨t,ks,vs,ds,rfl,_⟩|⟨rfl,_⟩
    .cases e1;have o1:ow i=some a:=o1.elim (λz=>z.2) λz=>nomatch z.1;refine⟨_,o2,k _ H hx.same (.lst (.inl e9) (λz=>?_) (xt.weak λa z=> .inl z))⟩;obtain⟨u,hu⟩:=hx.o0 a z;rw[hx.new i a o1]at hu;cases hu
    .cases e1
    .cases e1
   |false=>
    cases e1;exact⟨w,q1,k _ H hx.same (bx.weak q2 λa z=> .inl z)⟩
  .cases e1
def Tq{f:Env->Option D}(hc:PT X c (tB X.K λρ=>(f ρ).bind eM))(ha:lz X a (tC X.K g))(hb:lz X b (tC X.K h)):
  PS X (.If c a b pos) (tC X.K λρ=>((f ρ).bind eM).bind λk=>if k then g ρ else h ρ):=
 (G8 hc ha hb).weak λD' σ H zz=>by
  refine oh zz λH₀ ab Z kv kd ow ρ out hx hd k=>aa aa4 λkk e1 hd=>⟨Os ab ow,ρ,kk,hx.ex,e1,λH1 s1=>?_⟩;cases kk with
  |true=>exact mf ⟨H₀,ab,Z,kv,kd,ow,ρ,out,hx.mono s1,hd,k⟩
  |false=>exact oC ⟨H₀,ab,Z,kv,kd,ow,ρ,out,hx.mono s1,hd,k⟩
def xu{f:Env->Option D}(hp:PassesOwn aa6 X.A X.env X.xe)(hc:PT X c (tB X.K λρ=>(f ρ).bind eM))(hb:lz X body (tC X.K b))(n:Nat):
  PS X (.While c body [] pos) (tC X.K λρ=>f7 (λρ=>(f ρ).bind eM) b n ρ):=
 (rZ hp hc hb).weak λD' σ H zz=>by
  refine oh zz λH₀ ab Z kv kd ow ρ out hx hd k=>⟨λm σ H=>∃ow ρ,SX X.K H₀ ab Z kv kd ow σ H ρ/\f7 (λρ=>(f ρ).bind eM) b m ρ=some out,⟨n,ow,ρ,hx,hd⟩,?_⟩;rintro m σ H ⟨ow,ρ,hx,hd⟩;cases m with
  |zero=>cases hd
  |succ m=>
   rw[f7]at hd;refine aa aa4 λkk e1 hd=>⟨Os ab ow,ρ,kk,hx.ex,e1,λH1 s1=>?_⟩;cases kk with
   |false=>
    rw[ZL Zl]at hd;cases hd;exact oC (k ow σ H1 (hx.mono s1))
   |true=>
    rw[ZD rfl]at hd;refine aa aa4 λo e2 hd=>mf ⟨λbU H'=>∃ow ρ,SX X.K H₀ ab Z kv kd ow bU H' ρ/\f7 (λρ=>(f ρ).bind eM) b m ρ=some out,λbU H' h=>⟨m,aaN m,h⟩,H₀,ab,Z,kv,kd,ow,ρ,o,hx.mono s1,e2,?_⟩;cases o with
    |next ρ'=>exact λow σ H h=>⟨ow,ρ',h,hd⟩
    |cont ρ'=>exact λow σ H h=>⟨ow,ρ',h,hd⟩
    |brk ρ'=>cases hd;exact λow σ H h=>k ow σ H h
    |ret d=>cases hd;exact λv H s r=>k v H s r
def K3(K:aH)(g:TG)(setT:Env->D->Option Env):Prop:=
 ∀(H₀:Hp) (ab Z:Addr->Prop) (kv:List V) (kd:List D) (ow:Nat->Option Addr) (σ:St) (H:Hp) (ρ ρ':Env) (v:V) (d:D) (Q:St->Hp->Prop),SX K H₀ ab Z kv kd ow σ H ρ->bx K (Os ab ow) H v d->setT ρ d=some ρ'->
  (∀jV bU,SX K H₀ ab Z kv kd jV bU H ρ'->Q bU H)->g v σ H Q
def FX{K:aH}:K3 K (cJ j) (λρ d=>some (put ρ j false d)):=λH₀ ab Z kv kd ow σ H ρ ρ' v d Q hx r e q=>by
 cases e;exact q _ _ (hx.put r j)
def rm:List Nat->IP
 |[]=>M3
 |i::is=>G9 (cJ i) (rm is)
theorem kB(hN:X.N.Nodup)(hf:∀x,X.fn x=true):∀{is:List Nat}{es:List Expr},c6 X.N X.env.scope is es=true->Ma X es (rm is)/\(assignEach es X.env).length =is.length/\(assignEach es X.env).findIdx? (·.1)=none
 |[],es,h=>by
  cases es with
  |nil=>exact⟨Ea,rfl,rfl⟩
  |cons _ _=>cases h
 |i::is,es,h=>by
  cases es with
  |nil=>cases h
  |cons e es=>
   cases e with
   |Name x p=>
    have h:=aaU.mp (show(decide (X.N[i]?=some x)&&oO X.env.scope x&&c6 X.N X.env.scope is es)=true from h);have h1:=aaU.mp h.1;refine cP (kB hN hf h.2) λq1 q2 q3=>?_;refine⟨Az (lB hN (of_decide_eq_true h1.1) (gI h1.2) (.inl (hf _))) q1 rfl,congrArg (· + 1) q2,?_⟩;show List.findIdx? _ ((false,_)::assignEach es X.env)=none;rw[List.findIdx?_cons];simp[q3]
   |_=>exact nomatch (show false=true from h)
theorem t8{K:aH}:∀{is:List Nat}{xs:List V}{ys:List D}{ow:Nat->Option Addr}{σ:St}{H:Hp}{ρ ρ':Env}{Q:St->Hp->Prop},aq K (Os ab ow) H xs ys->SX K H₀ ab Z kv kd ow σ H ρ->cc ρ is ys=some ρ'->
  (∀jV bU,SX K H₀ ab Z kv kd jV bU H ρ'->Q bU H)->rm is xs σ H Q
 |[],xs,ys,ow,σ,H,ρ,ρ',Q,r,hx,e,q=>by
  cases ys with
  |nil=>cases e;cases r;exact⟨rfl,q _ _ hx⟩
  |cons _ _=>cases e
 |i::is,xs,ys,ow,σ,H,ρ,ρ',Q,r,hx,e,q=>by
  cases ys with
  |nil=>cases e
  |cons d ds=>
   cases r with
   |cons r1 r2=>
    have sub:∀a,Os ab (pT ow i none) a->Os ab ow a:=λa z=>by
     rcases z with z|⟨j,z⟩
     .exact .inl z
     .by_cases hj:j=i
      .rw[hj,aM]at z;cases z
      .rw[aR hj]at z;exact .inr ⟨j,z⟩
    exact⟨_,_,rfl,t8 (r2.weak sub) (hx.put r1 i) e q⟩
def Cq{K:aH}(h:0<is.length):K3 K (NL K is.length (rm is)) (λρ d=>(ay is.length d).bind (cc ρ is)):=λH₀ ab Z kv kd ow σ H ρ ρ' v d Q hx r e q=>by
 refine aa (bind_some e) λys e1 e2=>?_;obtain⟨n,hn⟩:∃n,is.length=n+1:=⟨is.length-1,(aad (ach h))⟩;rw[hn]at e1⊢;cases d with
 |tup zs=>
  simp only[ay]at e1;split at e1
  .rename_i hz;cases e1;refine bu r.jE λa xs af q1 p1=>?_;subst af;exact⟨a,xs,rfl,.inr q1,by rw[p1.length];exact hz,t8 p1 hx e2 q⟩
  .cases e1
 |_=>cases e1
def K4{es:List Expr}{k0:Nat}{tp:Pos}{is:List Nat}{f:Env->Option D}(hc:X.calm=true)(hN:X.N.Nodup)(hf:∀x,X.fn x=true)(hn:c6 X.N X.env.scope is es=true)(he:PE X e (tV X.K false f))(ht:Ck e=true)(hp:0<is.length):
  PS X (.Assign [.Tuple es k0 tp] e pos) (tC X.K λρ=>(f ρ).bind λd=>((ay is.length d).bind (cc ρ is)).map .next):=by
 refine cP (kB hN hf hn) λq1 q2 q3=>?_;refine(AA he (A5 hc q1 q2 q3) (by cases e<;>rfl) (by cases e<;>first|rfl|exact absurd ht Zl) rfl).weak λD' σ H zz=>oh zz λH₀ ab Z kv kd ow ρ out hx hd k=>?_;refine aa aa4 λd e1 hd=>aa (map_some hd) λρ' e2 zr=>?_;subst zr;exact⟨Os ab ow,ρ,d,hx.ex,e1,λv H1 s1 r1=>Cq hp H₀ ab Z kv kd ow σ H1 ρ ρ' v d _ (hx.mono s1) r1.own e2 λjV bU h=>k jV bU H1 h⟩
def HN(hp:PassesOwn aa6 X.A X.env X.xe)(hc:X.calm=true)(hg:PG X rO g)(hS:K3 X.K g setT)
  (hI:PI X rO iter (tI X.K false fi)) (hb:lz X body (tC X.K b)) (hs:∀x,foldedSetIterable iter X.env x=pure x):
  PS X (.For rO iter body [] pos) (tC X.K λρ=>(fi ρ).bind λxs=>aN (λy ρ=>(setT ρ y).bind b) xs ρ):=
 (IV hp hc hI hg hb hs).weak λD' σ H zz=>by
  refine oh zz λH₀ ab Z kv kd ow ρ out hx hd k=>aa aa4 λxs e1 hd=>⟨Os ab ow,ρ,xs,hx.ex,e1,λJ gU H1 s1 BX tW=>?_⟩;have tX:=hx.mono s1;obtain⟨bG,HP,HQ,sm,Br,hk,uB⟩:∃bG HP HQ,ae H₀ bG/\SX X.K bG ab Z HP HQ ow σ H1 ρ/\(∀ow σ H ρ,SX X.K bG ab Z HP HQ ow σ H ρ->SX X.K H₀ ab Z kv kd ow σ H ρ)/\(∀ow σ H ρ,SX X.K bG ab Z HP HQ ow σ H ρ->fu X.K (Os ab ow) H gU):=by
   rcases gU with _|⟨_|_|⟨o,ks,vs⟩,v,ds⟩
   .exact⟨H₀,kv,kd,ae.refl _,tX,λ_ _ _ _ h=>h,λ_ _ _ _ _=>trivial⟩
   .exact⟨H₀,v::kv,.tup ds::kd,ae.refl _,tX.keep (bN.own tW),λ_ _ _ _ h=>h.drop,λ_ _ _ _ h=>h.kept.jE⟩
   .exact⟨H₀,v::kv,.lst ds::kd,ae.refl _,tX.keep (bN.own tW),λ_ _ _ _ h=>h.drop,λ_ _ _ _ h=>h.kept.lst_inv⟩
   .refine L8 tW λa af g1 g2 g3 g4=>?_
    try clear tW
    subst af;have s0:H₀ a=none\/H₀ a=some (.dC o (gh 0 ks vs)):=by
     cases z:H₀ a with
     |none=>exact .inl rfl
     |some w=>have:=tX.same _ _ z;rw[g1]at this;cases this;exact .inr rfl
    have o0:=hx.o0;refine⟨_,.ref a::kv,.bI 0 ks ds::kd,pU s0,(tX.base g1).keep (.bI g1 g2 g3 g4),λ_ _ _ _ h=>h.drop.KZ s0 o0,λ_ _ H' _ h=>?_⟩;have e:=h.same _ _ (ag (H:=H₀) (a:=a));have r:=h.kept;cases r with
    |bI f1 f2 f3 f4=>
     rw[e]at f1;have XO:=HO.dC.inj (ZU f1);rw[<-FV g2 f2 XO.2]at f4;exact⟨a,rfl,e,g2,g3,f4⟩
  refine⟨λi m σ H=>m=xs.length-i/\i<=xs.length/\∃ow ρ,SX X.K bG ab Z HP HQ ow σ H ρ/\aN (λy ρ=>(setT ρ y).bind b) (xs.drop i) ρ=some out,⟨xs.length,rfl,aak _,ow,ρ,Br,hd⟩,?_⟩;rintro t m σ H ⟨rfl,hi,ow,ρ,hx,hd⟩;refine cP (BX _ H (uB _ _ _ _ hx)) λgo AB stop=>?_;by_cases aU:t<xs.length
  .refine .inr ⟨go t aU,λσ H=>∃ow ρ,SX X.K bG ab Z HP HQ ow σ H ρ/\aN (λy ρ=>(setT ρ y).bind b) (xs.drop (t+1)) ρ=some out,λbU H' h=>⟨xs.length-(t+1),(afe (acs aU)),rfl,aU,h⟩,λx H3 hy=>?_⟩;obtain⟨s3,rx⟩:=AB t x H3 xs[t] hy (by simp[aU]);rw[aaz aU,aN]at hd;refine aa aa4 λo e2 hd=>aa (bind_some e2) λDY e2 e3=>hS bG ab Z HP HQ ow σ H3 ρ DY x xs[t] _ (hx.mono s3) rx e2 λjV bU Br=>⟨bG,ab,Z,HP,HQ,jV,DY,o,Br,e3,?_⟩;cases o with
   |next ρ'=>exact λow σ H h=>⟨ow,ρ',h,hd⟩
   |cont ρ'=>exact λow σ H h=>⟨ow,ρ',h,hd⟩
   |brk ρ'=>cases hd;exact λow σ H h=>k ow σ H (hk _ _ _ _ h)
   |ret d=>cases hd;exact λv H s r=>k v H (sm.trans s) r
  .have e:t=xs.length:=(acX hi (ZZ aU));subst e;rw[aeD,aN]at hd;cases hd;exact .inl ⟨stop,k ow σ H (hk _ _ _ _ hx)⟩
def Cu(h:PS X st (tC X.K g)):PS X st (tC X.K λρ=>g (fM it ρ)):=
 h.weak λD' σ H zz=>by
  refine oh zz λH₀ ab Z kv kd ow ρ out hx hd k=>?_;have key:∃jV,SX X.K H₀ ab Z kv kd jV σ H (fM it ρ):=by
   have one:∀i:Nat,∃jV,SX X.K H₀ ab Z kv kd jV σ H (match ρ[i]? with
     |some (some (true,D.lst xs))=>ρ.set i (some (false,D.lst xs))
     |_=>ρ):=λi=>by
    cases e:ρ[i]? with
    |none=>exact⟨ow,hx⟩
    |some o=>cases o with
     |none=>exact⟨ow,hx⟩
     |some t=>
      obtain⟨b,d⟩:=t;cases b with
      |false=>exact⟨ow,hx⟩
      |true=>cases d with
       |lst=>exact⟨_,hx.freeze e⟩
       |_=>exact⟨ow,hx⟩
   cases it with
   |it a=>cases a with
    |var i=>exact one i
    |_=>exact⟨ow,hx⟩
   |Ae a=>cases a with
    |var i=>exact one i
    |_=>exact⟨ow,hx⟩
   |_=>exact⟨ow,hx⟩
  obtain⟨jV,h'⟩:=key;exact⟨H₀,ab,Z,kv,kd,jV,_,out,h',hd,k⟩
end
def FY(h:A1 ρ i=some d):ρ[i]?=some (some (true,.bI d.1 d.2.1 d.2.2))/\d.1≠2:=by
 unfold A1 at h;refine slot (ρ:=ρ) (i:=i) (λe=>?_) (λe=>?_) λo d e=>?_<;>rw[e]at h
 .cases h
 .cases h
 cases o with
 |false=>cases h
 |true=>cases d with
  |bI t ks vs=>
   by_cases ht:t=2
   .exact nS ((ZD ht).symm.trans h)
   .cases (ZL ht).symm.trans h;exact⟨e,ht⟩
  |_=>cases h
def xv(h:jk ρ i=some xs):ρ[i]?=some (some (true,.lst xs)):=by
 unfold jk at h;split at h
 .rename_i xs e;cases h;exact e
 .cases h
section
variable {K:aH}{H₀:Hp}{ab Z:Addr->Prop}{kv:List V}{kd:List D}{ow:Nat->Option Addr}{σ:St}{H H1:Hp}{ρ:Env}
def SX.Tr(hx:ab3)(h:A1 ρ i=some d):∃a vs,ow i=some a/\σ[i]?=some (some (.ref a))/\d.1≠2/\H a=some (gh d.1 d.2.1 vs)/\d.2.1.length=vs.length/\mV d.1 d.2.1/\aq K (Os ab ow) H vs d.2.2:=by
 obtain⟨e,h2⟩:=FY h;have hp:ml (.bI d.1 d.2.1 d.2.2)=false:=by show(d.1==2)=false;simp[h2]
 refine aa (hx.own i _ e) λa o2 o1=>?_;have o1:ow i=some a:=o1.elim (λz=>z.2) λz=>by rw[hp]at z;exact nomatch z.1
 refine aa (hx.ex.j7 i true _ e) λw q1 q2=>bO q2 λa' e6 e8 c=>?_;rw[o2]at q1;cases q1;cases e6;exact DK (c.bI h2) λvs c1 c2 c3 c4=>⟨a,vs,o1,o2,h2,c1,c2,c3,c4⟩
def SX.K5(hx:ab3)(h:jk ρ i=some xs):∃a vs,ow i=some a/\σ[i]?=some (some (.ref a))/\H a=some (.lst vs)/\aq K (Os ab ow) H vs xs:=by
 have e:=xv h;refine aa (hx.own i _ e) λa o2 o1=>?_;have o1:ow i=some a:=o1.elim (λz=>z.2) λz=>nomatch z.1;refine aa (hx.ex.j7 i true _ e) λw q1 q2=>bO q2 λa' e6 e8 c=>?_;rw[o2]at q1;cases q1;cases e6;exact aa c.lst λvs c1 c2=>⟨a,vs,o1,o2,c1,c2⟩
end
def rn[DecidableEq κ](f:List Int->κ)(hl:ks.length=vs.length)(hf:∀k∈ks,f k=f x->k=x)(hx:x∉ks):j9 ((ks.map f).zip vs) (f x) v=((ks++[x]).map f).zip (vs++[v]):=by
 have e:((((ks.map f).zip vs).any λkv=>decide (kv.1=f x))=true)=False:=by
  rw[eq_iff_iff,iff_false,List.any_eq_true];rintro⟨p,hp,hq⟩;have h1:=(adH (show(p.1,p.2)∈_ from hp)).1;refine aa (Zv.mp h1) λk k1 k2=>?_;have:=hf k k1 (by rw[k2];exact of_decide_eq_true hq);exact hx (this▸k1)
 unfold j9;rw[ZL (by rw[e];exact id),Z3,List.zip_append (by rw[Zo];exact hl)];rfl
section
variable {X:Cx}{c e ke:Expr}{st:Stmt}{bg:List Stmt}{pos px o:Pos}{x:Str}{i j:Nat}{f fk:Env->Option D}
def K6(hu:X.A.units+64<cLine)(hi:X.N[i]?=some x)(hv:yw X.env.scope x)(FW:ab4=false)(oz:(x==("__classdict__":Str))=false)(hk:PE X ke (tV X.K false fk))(he:PE X e (tV X.K false f))(hs:∀t,swapsWith e (some t) pos.line X.env=pure false):
  PS X (.Assign [.Subscript (.Name x px) ke o] e pos) (tC X.K λρ=>(f ρ).bind λy=>(A1 ρ i).bind λd=>((fk ρ).bind (dg d.1)).bind λx=>
   if d.2.1.length<bV/\x∉d.2.1 then some (.next (put ρ i true (.bI d.1 (d.2.1++[x]) (d.2.2++[y])))) else none):=
 (wq (rQ hu aa1) (bM hi hv FW oz) hk he (hs _)).weak λD' σ H zz=>by
  refine oh zz λH₀ ab Z kv kd ow ρ out hx hd k=>aa aa4 λy e1 hd=>aa aa4 λd e2 hd=>aa aa4 λxx e3 hd=>aa (bind_some e3) λdk e4 e5=>?_;split at hd
  .rename_i hz;cases hd;refine⟨Os ab ow,ρ,y,hx.ex,e1,λv H1 s1 r1=>?_⟩;refine Um ((hx.mono s1).Tr e2) λa vs o1 o2 o3 c1 c2 c3 c4=>?_;refine⟨.ref a,o2,Os ab ow,ρ,dk,(hx.mono s1).ex,e4,λw H2 s2 r2=>?_⟩;have HK:=(hx.mono s1).mono s2;have DU:=s2 _ _ c1;have aL:vs.length<sizeLine:=by rw[cK,<-c2];exact hz.1
   have Tt:aq X.K (Os ab ow) (L2.upd H2 a (gh d.1 (d.2.1++[xx]) (vs++[v]))) (vs++[v]) (d.2.2++[y]):=((c4.mono s2).append (.cons (r1.own.mono s2) .nil)).upd (.inr ⟨i,o1⟩) DU kW;have Tu:mV d.1 (d.2.1++[xx]):=by
    refine⟨?_,λh0 q hq=>?_⟩
    .rw[aaS];exact⟨c3.1,by simp,λa ha b hb e=>hz.2 (by rw[Zp.mp hb]at e;exact e▸ha)⟩
    .rcases ZI.mp hq with hq|hq
     .exact c3.2 h0 q hq
     .rw[Zp.mp hq];rcases g_ r2.own e5 with⟨_,n,rfl,_⟩|⟨h1,_⟩
      .exact⟨n,rfl⟩
      .exact absurd h0 h1
   refine⟨a,_,rfl,?_,k ow _ _ (HK.Vl (d0:= .bI d.1 (d.2.1++[xx]) (d.2.2++[y])) o1 o2 DU kW kW (by show(d.1==2)=false;simp[o3]) (.inr (.inl ⟨_,_,vs++[v],_,rfl,ag,by simp[c2],Tu,Tt⟩)))⟩;rcases g_ r2.own e5 with⟨h0,n,rfl,rfl⟩|⟨h0,b,rfl,hb⟩
   .refine .inl ⟨_,Sum.inl n,by rw[DU];unfold gh;rw[ZD h0],rfl,by rw[acW,Zo,c2,adV];exact aL,?_⟩;unfold gh;rw[ZD h0,<-rn (λk:List Int=>(Sum.inl (k.headD 0):cS)) c2 (λq hm e=>?_) hz.2]
    .rfl
    .obtain⟨j,rfl⟩:=c3.2 h0 q hm;have:j=n:=aep e;rw[this]
   .refine .inr ⟨_,xx.map Sum.inl,b,by rw[DU];unfold gh;rw[ZL h0],rfl,hb,by rw[acW,Zo,c2,adV];exact aL,?_⟩;unfold gh;rw[ZL h0,<-rn (λk:List Int=>k.map (Sum.inl:Int->cS)) c2 (λq _ e=>rk e) hz.2]
  .cases hd
def Cv{K:aH}(h:ab3)(s:ae H H1)(hp:H1 p=none)(r:aq K (Os ab ow) H1 vs ds)(h2:t≠2)(hl:ks.length=vs.length)(hk:mV t ks)(i:Nat):
  ∃jV,SX K H₀ ab Z kv kd jV (σ.set i (some (.ref p))) (L2.upd H1 p (gh t ks vs)) (Py.put ρ i true (.bI t ks ds)):=by
 by_cases hi:i<ρ.length
 .exact⟨_,h.OY (u:=gh t ks vs) s hp kW i hi (by show(t==2)=false;simp[h2]) (.inr (.inl ⟨t,ks,vs,ds,rfl,ag,hl,hk,nj hp r⟩))⟩
 .have e1:σ.set i (some (.ref p))=σ:=abV (by rw[<-h.len];exact ZZ hi);have e2:Py.put ρ i true (.bI t ks ds)=ρ:=abV (ZZ hi);rw[e1,e2];exact⟨ow,h.mono (s.trans (ae.upd hp))⟩
def FZ{t:Nat}(hu:X.A.units+64<cLine)(hN:X.N.Nodup)(hi:X.N[i]?=some x)(hx:Loc X.env.scope x)(hf:X.fn x=true)(h0:t≠0)(hk:PE X ke (tV X.K false fk))(he:PE X e (tV X.K false f)):
  PS X (.Assign [.Name x px] (.Dict [some ke] [e] dp) pos) (tC X.K λρ=>if t=2 then none else((fk ρ).bind λa=>(f ρ).bind λb=>(dg t a).map λx=>D.bI t [x] [b]).map λd=> .next (put ρ i true d)):=by
 refine(jY hN hi hx (EO (rQ hu aa1) hk he) rfl (.inl hf)).weak λD' σ H zz=>oh zz λH₀ ab Z kv kd ow ρ out hx hd k=>?_;split at hd
 .cases hd
 .rename_i h2;refine aa (map_some hd) λd DZ qI=>aa (bind_some DZ) λda e1 DZ=>aa (bind_some DZ) λdb e2 DZ=>aa (map_some DZ) λxx e3 DZ=>?_;subst DZ;subst qI;intro p hp;have Vn:=hx.ex.mono (ae.upd (o:= .dT []) hp);refine⟨Os ab ow,ρ,da,Vn,e1,λv H1 s1 r1=>⟨Os ab ow,ρ,db,Vn.mono s1,e2,λw H2 s2 r2=>?_⟩⟩;have A':H2 p=some (.dT []):=s2 _ _ (s1 _ _ ag);rcases g_ (r1.own.mono s2) e3 with⟨z,_⟩|⟨_,b,rfl,hb⟩
  .exact absurd z h0
  .refine⟨b,xx.map Sum.inl,rfl,hb,A',?_⟩
   let H3:Hp:=λq=>if q=p then none else H2 q
   have k3:∀q,q≠p->H3 q=H2 q:=λq hq=>ZL hq;have e4:L2.upd H2 p (.dT [(xx.map Sum.inl,w)])=L2.upd H3 p (gh t [xx] [w]):=by
    funext q;unfold L2.upd;by_cases hq:q=p
    .rw[ZD hq,ZD hq];unfold gh;rw[ZL h0];rfl
    .rw[ZL hq,ZL hq,k3 q hq]
   have s3:ae H H3:=λq u hq=>by
    have Vo:q≠p:=λz=>by rw[z,hp]at hq;cases hq
    rw[k3 q Vo];exact s2 _ _ (s1 _ _ (by rw[ai Vo];exact hq))
   have rep3:bx X.K (Os ab ow) H3 w db:=gW (λq us hq=>by
     have Vp:H2 q=some (.tup us):=hq;show H3 q=some (.tup us);rw[k3 q (fX Vp A' (by intro z;cases z))];exact Vp) (λq us hq nq=>⟨by
     rcases hq with hq|⟨ob,hq⟩
     .exact .inl (by rw[k3 q (fX hq A' (by intro z;cases z))];exact hq)
     .exact .inr ⟨ob,by rw[k3 q (fX hq A' (by intro z;cases z))];exact hq⟩,nq⟩) (λq ob u hq=>by rw[k3 q (fX hq A' (by intro z;cases z))];exact hq) r2.own
   obtain⟨jV,h'⟩:=Cv (t:=t) (ks:=[xx]) (ds:=[db]) hx s3 (ZD rfl) (.cons rep3 .nil) h2 rfl ⟨by simp,λz=>absurd z h0⟩ i;rw[e4];exact k jV _ _ h'
def t9(h:f6 ρ j=some xs):∃o,ρ[j]?=some (some (o,.lst xs)):=by
 unfold f6 at h;refine slot (ρ:=ρ) (i:=j) (λe=>?_) (λe=>?_) λo d e=>?_<;>rw[e]at h
 .cases h
 .cases h
 cases d with
 |lst=>cases h;exact⟨_,e⟩
 |_=>cases h
def popped{K:aH}(hx:ab3)(e1:jk ρ j=some l)(e2:l.getLast?=some z):
  ∃a vs v,σ[j]?=some (some (.ref a))/\H a=some (.lst vs)/\vs[vs.length-1]?=some v/\SX K H₀ ab Z kv kd ow σ (L2.upd H a (.lst vs.dropLast)) (put ρ j true (.lst l.dropLast))/\bx K (Os ab ow) (L2.upd H a (.lst vs.dropLast)) v z:=by
 refine gQ (hx.K5 e1) λa vs o1 o2 o3 o4=>?_;have ll:=o4.length;have Ex:l[vs.length-1]?=some z:=by rw[ll,<-aeb];exact e2
 refine aa (o4.get Ex) λv g1 g2=>?_;have rd:aq K (Os ab ow) H vs.dropLast l.dropLast:=by
  rw[acu,acu,ll];exact o4.take _
 exact⟨a,vs,v,o2,o3,g1,hx.wr o1 o2 o3 rd,g2.upd (.inr ⟨j,o1⟩) o3 trivial⟩
def Cw(hv:PE X y (de j))(hb:attributeBase y "pop" X.env (eval y X.env)=eval y X.env)(hl:(ap.endLine==cp.line)=true):
  PE X (.Call (.Attribute y "pop" ap) [] [] cp) (λσ H Q=>∃a vs v,σ[j]?=some (some (.ref a))/\H a=some (.lst vs)/\vs[vs.length-1]?=some v/\Q v (L2.upd H a (.lst vs.dropLast))):=
 (Jm abB PySem.F.slot_list_pop PySem.F.type_list_pop Jq hv hb hl).weak λσ H Q ⟨a,vs,v,h1,h2,h3,q⟩=>⟨.ref a,h1,.inl ⟨rfl,vs,cZ.of h2⟩,a,vs,v,rfl,rfl,h2,h3,q⟩
def O9(hN:X.N.Nodup)(hi:X.N[i]?=some x)(hx:Loc X.env.scope x)(hf:X.fn x=true){y:Expr}(hv:PE X y (de j))(hb:attributeBase y "pop" X.env (eval y X.env)=eval y X.env)(hl:(ap.endLine==cp.line)=true):
  PS X (.Assign [.Name x px] (.Call (.Attribute y "pop" ap) [] [] cp) pos) (tC X.K λρ=>(jk ρ j).bind λl=>(l.getLast?).map λz=> .next (put (put ρ j true (.lst l.dropLast)) i false z)):=
 (jY hN hi hx (Cw hv hb hl) rfl (.inl hf)).weak λD' σ H zz=>by
  refine oh zz λH₀ ab Z kv kd ow ρ out hx hd k=>aa aa4 λl e1 hd=>aa (map_some hd) λz e2 af=>?_;subst af;exact uz (popped hx e1 e2) λa vs v h1 h2 h3 h4 h5=>⟨a,vs,v,h1,h2,h3,k _ _ _ (h4.put h5 i)⟩
def O_(hi:X.N[i]?=some x)(hv:yw X.env.scope x)(FW:ab4=false)(oz:(x==("__classdict__":Str))=false)(hl:(ap.endLine==cp.line)=true)(he:PE X e (tV X.K false f))(hn:bD e=true):
  PS X (.Expr (.Call (.Attribute (.Name x px) "extend" ap) [e] [] cp) pos) (tC X.K λρ=>(f ρ).bind λd=>match d with
   | .lst zs=>(jk ρ i).bind λws=>if ws.length+zs.length<=bV then some (.next (put ρ i true (.lst (ws++zs)))) else none
   |_=>none):=
 (lA (wd abB aen aeo Bu (bM hi hv FW oz) (bX he df (bP hn)) rfl (by rw[bP hn];rfl) hl (bP hn) rfl) rfl).weak λD' σ H zz=>by
  refine oh zz λH₀ ab Z kv kd ow ρ out hx hd k=>aa aa4 λd e1 hd=>?_;cases d with
  |lst zs=>
   refine aa aa4 λws e2 hd=>?_;split at hd
   .rename_i hz;cases hd;refine gQ (hx.K5 e2) λa vs o1 o2 o3 o4=>⟨.ref a,o2,.inl ⟨rfl,vs,cZ.of o3⟩,Os ab ow,ρ,.lst zs,hx.ex,e1,λv H1 s1 r1=>?_⟩;have tX:=hx.mono s1;have Pa:=s1 _ _ o3;refine bu r1.lst λb us af h1 h2=>?_;subst af;refine⟨a,b,vs,us,rfl,rfl,Pa,h1,?_,?_⟩
    .rw[cK,o4.length,h2.length];exact hz
    .exact k ow _ _ (tX.wr o1 o2 Pa ((o4.mono s1).append h2))
   .cases hd
  |_=>cases hd
end
section
variable {K:aH}{O O':Addr->Prop}{H H' H1 H2 H3:Hp}{a b:Addr}{as:List Addr}{T:List D}
def iW(H H':Hp):Prop:=∀b us,H b=some (.tup us)->H' b=some (.tup us)
def iW.trans(h1:iW H H1)(h2:iW H1 H2):iW H H2:=λb us e=>h2 b us (h1 b us e)
def pW(s:ae H H'):iW H H':=λb us e=>s _ _ e
def gJ(e:H a=some u)(hu:tQ u):iW H (L2.upd H a o):=λb us h=>by
 rw[ai (fX h e (by intro z;rw[<-z]at hu;exact hu))];exact h
def dW(ht:iW H H')(h:bx K O H v d):aI d=true->bx K O' H' v d:=
 bx.rec (motive_1:=λv d _=>aI d=true->bx K O' H' v d) (motive_2:=λvs ds _=>a_ ds=true->aq K O' H' vs ds) (λ_=> .cx) (λb _=> .bl b) (λi _=> .int i)
  (λh _ ih n=> .tup (ht _ _ h) (ih (by simpa[aI]using n))) (λ_ _ _ _ n=>absurd n (by simp[aI])) (λ_ _ _ n=>absurd n (by simp[aI])) (λ_ _ _ _ _ n=>absurd n (by simp[aI])) (λ_=> .nil)
  (λ_ _ i1 i2 n=>by
   simp only[a_,Zk]at n;exact .cons (i1 n.1) (i2 n.2)) h
theorem fC(ht:iW H H'):∀{vs:List V}{ds:List D},aq K O H vs ds->a_ ds=true->aq K O' H' vs ds
 |_,_,.nil,_=> .nil
 |_,_,.cons r t,n=>by
  simp only[a_,Zk]at n;exact .cons (dW ht r n.1) (fC ht t n.2)
theorem iI:∀{xs ys:List D},a_ (xs++ys)=(a_ xs&&a_ ys)
 |[],ys=>by simp[a_]
 |x::xs,ys=>by simp[a_,iI (xs:=xs),Bool.and_assoc]
def nr(K:aH)(H:Hp)(b:Addr)(d:D):Prop:=∃ks vs xs,d= .bI 0 ks xs/\H b=some (gh 0 ks vs)/\ks.length=vs.length/\mV 0 ks/\a_ xs=true/\aq K (λ_=>False) H vs xs
def nr.keep(h:nr K H b d)(ht:iW H H')(e:H' b=H b):nr K H' b d:=by
 exact MC h λks vs xs h1 h2 h3 h4 h5 h6=>⟨ks,vs,xs,h1,by rw[e];exact h2,h3,h4,h5,fC ht h6 h5⟩
def kC:∀{l:List α}{m:List β},Paired R l m->(∀x y,x∈l->R x y->R' x y)->Paired R' l m:=λ{l m} h=>by
 induction h with
 |nil=>exact λ_=> .nil
 |cons r t ih=>exact λk=> .cons (k _ _ Zt r) (ih λx y hx=>k x y (Zm _ hx))
def F0:∀{l:List α}{m:List β}{i:Nat}{y:β},Paired R l m->m[i]?=some y->∃x,l[i]?=some x/\R x y:=λ{l m i y} h=>by
 induction h generalizing i with
 |nil=>intro e;simp at e
 |cons r t ih=>
  intro e;cases i with
  |zero=>simp at e;subst e;exact⟨_,rfl,r⟩
  |succ i=>exact aa (ih (i:=i) (by simpa using e)) λx h1 h2=>⟨x,by simpa using h1,h2⟩
def zH{α β:Type}{R:α->β->Prop}{x:α}{y:β}(h:R x y):∀{l:List α}{m:List β},Paired R l m->Paired R (l++[x]) (m++[y]):=λ{l m} p=>by
 induction p with
 |nil=>exact .cons h .nil
 |cons r t ih=>exact .cons r ih
def jL:∀{l:List α}{m:List β},Paired R l m->x∈l->∃y,R x y:=λ{l m} p=>by
 induction p with
 |nil=>exact λh=>nomatch h
 |cons r t ih=>exact λh=>(ZC.mp h).elim (λe=>by subst e;exact⟨_,r⟩) ih
structure rP(K:aH)(H:Hp)(a:Addr)(as:List Addr)(T:List D):Prop where
 lst:H a=some (.lst (as.map V.ref))
 bI:Paired (nr K H) as T
 nd:(a::as).Nodup
theorem rP.keep(h:rP K H a as T)(ht:iW H H')(e:∀b,b∈a::as->H' b=H b):rP K H' a as T:=
 ⟨by rw[e a Zt];exact h.lst,kC h.bI λb d hb hd=>hd.keep ht (e b (Zm _ hb)),h.nd⟩
def rP.there(h:rP K H a as T):∀b,b∈a::as->∃u,H b=some u/\tQ u:=λb hb=>by
 rcases ZC.mp hb with e|hb
 .subst e;exact⟨_,h.lst,trivial⟩
 .exact Im (jL h.bI hb) λd ks vs xs _ h2 _=>⟨_,h2,kW⟩
def rP.mut(h:rP K H a as T):∀b,b∈as->mK H b:=λb hb=>by
 exact Im (jL h.bI hb) λd ks vs xs _ h2 _=>⟨_,h2,FI⟩
def rP.xw(h:rP K H a as T)(s:ae H H'):rP K H' a as T:=
 h.keep (pW s) λb hb=>by
  refine aa (h.there b hb) λu e _=>?_;rw[e];exact s _ _ e
def t_(f:E1 as H1 H2):iW H1 H2:=λb us e=>by
 rw[f.out b λhb=>?_]
 .exact e
 .refine bu (f.at_ b hb) λo u e1 mu _=>?_;rw[e]at e1;cases e1;exact mu
def rP.rep(h:rP K H1 a as T)(f:E1 as H1 H2):bx K O H2 (.ref a) (.lst T)\/O a:=by
 by_cases ho:O a
 .exact .inr ho
 .refine .inl (.lst (.inl (by rw[f.out a (Z8.mp h.nd).1];exact h.lst)) ho ?_);have all:∀{bs:List Addr}{S:List D},(∀b∈bs,b∈as)->Paired (nr K H1) bs S->aq K O H2 (bs.map V.ref) S:=by
   intro bs S hs p;induction p with
   |nil=>exact .nil
   |@cons b d bs S hd _ ih=>
    refine MC hd λks vs xs af h2 h3 h4 h5 h6=>?_
    try clear hd
    subst af;refine bu (f.at_ b (hs b Zt)) λo u e1 mu e2=>?_;rw[h2]at e1;cases e1;exact .cons (.bI e2 h3 h4 (fC (t_ f) h6 h5)) (ih λc hc=>hs c (Zm _ hc))
  exact all (λb hb=>hb) h.bI
def zI(f:E1 as H1 H2)(s:ae H2 H3):tu as H1 H3/\ae H1 (gc as H1 H3)/\iW H3 (gc as H1 H3):=by
 have c:tu as H1 H3:=λb hb=>by
  exact bu (f.at_ b hb) λo u e1 mu e2=>⟨o,u,e1,mu,s _ _ e2⟩
 refine⟨c,λb u e=>?_,λb us e=>?_⟩
 .by_cases hb:b∈as
  .rw[jz hb];exact e
  .rw[bT hb];exact s _ _ (by rw[f.out b hb];exact e)
 .rw[bT λhb=>?_]
  .exact e
  .refine bu (c b hb) λo u _ _ e2=>?_;rw[e]at e2;cases e2
def Cy(c:tu as H1 H3)(hd:∀b∈as,∀zs,H1 b≠some (.lst zs))(h:cZ K H3 p us):cZ K (gc as H1 H3) p us:=by
 rcases h with h|h
 .refine .inl ?_;have hp:p∉as:=λhb=>by
   refine bu (c p hb) λo u e1 mu e2=>?_;rcases h with h|⟨o',h⟩
   .rw[h]at e2;cases e2
   .rw[h]at e2;cases e2;exact hd p hb us e1
  rcases h with h|⟨o',h⟩
  .exact .inl (by rw[bT hp];exact h)
  .exact .inr ⟨o',by rw[bT hp];exact h⟩
 .exact .inr h
def K7:∀us,gh t ks vs≠ .lst us:=by
 intro us h;unfold gh at h;split at h<;>cases h
def rP.Pb(h:rP K H a as T):∀b∈as,∀zs,H b≠some (.lst zs):=λb hb zs e=>by
 refine Im (jL h.bI hb) λd ks vs xs _ h2 _=>?_;rw[h2]at e;exact K7 _ (ZU e)
end
section
variable {K:aH}{H₀ bG:Hp}{ab Z:Addr->Prop}{kv:List V}{kd:List D}{ow:Nat->Option Addr}{σ:St}{H H1 H':Hp}{ρ:Env}{a b:Addr}{as:List Addr}{T:List D}{x y:Nat}
def OT(ab:Addr->Prop)(a:Addr)(as:List Addr):Addr->Prop:=λb=>ab b\/b∈a::as
def bx.zJ{l:List Addr}(h:bx K (Os ab ow) H v d)(hp:∀p∈l,H p=none):bx K (λb=>Os ab ow b\/b∈l) H v d:=
 gW (λ_ _ h=>h) (λb us h n=>⟨h,λz=>z.elim n λe=>lM (hp b e) h⟩) (λ_ _ _ h=>h) h
def aq.zJ{l:List Addr}(h:aq K (Os ab ow) H v d)(hp:∀p∈l,H p=none):aq K (λb=>Os ab ow b\/b∈l) H v d:=
 fj (λ_ _ h=>h) (λb us h n=>⟨h,λz=>z.elim n λe=>lM (hp b e) h⟩) (λ_ _ _ h=>h) h
theorem ed.zJ{l:List Addr}(h:ed K (Os ab ow) H b d)(hp:∀p∈l,H p=none):ed K (λb=>Os ab ow b\/b∈l) H b d:=by
 rcases h with⟨vs,ds,e1,e2,e3⟩|⟨t,ks,vs,ds,e1,e2,e3,e4,e5⟩|⟨e1,u',e2,e3⟩
 .exact .inl ⟨vs,ds,e1,e2,e3.zJ hp⟩
 .exact .inr (.inl ⟨t,ks,vs,ds,e1,e2,e3,e4,e5.zJ hp⟩)
 .exact .inr (.inr ⟨e1,u',e2,e3⟩)
noncomputable def nu(a:Addr)(as:List Addr)(H₀ H:Hp):Hp:=gc (a::as) H H₀
def Tv:∀b,Os (OT ab a as) (pT ow x none) b->Os ab ow b\/b∈a::as:=λb z=>by
 rcases z with (z|z)|⟨j,z⟩
 .exact .inl (.inl z)
 .exact .inr z
 .by_cases hj:j=x
  .rw[hj,aM]at z;cases z
  .rw[aR hj]at z;exact .inl (.inr ⟨j,z⟩)
def SX.tab(h:ab3)(s:ae H H')(t:rP K H' a as T)(hn:∀b∈a::as,H b=none)(nt:sD ρ=true)(hx:x<ρ.length):
  ae H₀ (nu a as H₀ H')/\SX K (nu a as H₀ H') (OT ab a as) (λb=>b=a) [] [] (pT ow x none) (σ.set x (some (.ref a))) H' (Py.put ρ x true u5):=by
 have XQ:∀b∈a::as,H₀ b=none:=λb hb=>by
  cases z:H₀ b with
  |none=>rfl
  |some w=>have:=h.same _ _ z;rw[hn b hb]at this;cases this
 have sb:ae H₀ (nu a as H₀ H'):=λb u e=>by
  unfold nu;rw[bT λhb=>by rw[XQ b hb]at e;cases e];exact e
 have HR:∀(j:Nat) (o:Bool) (d:D),ρ[j]?=some (some (o,d))->ml d=false:=λj o d e=>by
  unfold sD at nt;have:=aas.mp nt _ (aac e);simpa using this
 refine⟨sb,⟨⟨λb hb=>?_,λj o d' hj=>?_⟩,λj d' hj=>?_,λj k b hj hk=>?_,λj b hj=>?_,λb u e=>?_,.nil,λb hb=>?_,by unfold Py.put;rw[aag,aag];exact h.len⟩⟩
 .rcases Tv b hb with z|z
  .exact aa (h.ex.live b z) λu e q=>⟨u,s _ _ e,q⟩
  .exact t.there b z
 .by_cases eG:j=x
  .subst eG;unfold Py.put at hj;rw[ZX hx]at hj;cases hj;exact aa (t.there a Zt) λu e q=>⟨.ref a,ZX (by rw[<-h.len];exact hx),a,rfl,.inl (.inr Zt),.inr (.inr ⟨rfl,u,e,q⟩)⟩
  .unfold Py.put at hj;rw[ZV (aay eG)]at hj;refine aa (h.ex.j7 j o d' hj) λw h1 h2=>⟨w,by rw[ZV (aay eG)];exact h1,?_⟩;cases o with
   |true=>
    refine bO h2 λb e1 e2 c=>aa (h.own j d' hj) λb' o2 o1=>?_;rw[h1]at o2;cases o2;cases e1;refine⟨b,rfl,o1.elim (λo1=> .inr ⟨j,by rw[aR eG];exact o1.2⟩) (λo1=> .inl (.inl o1.2.2)),((c.zJ hn).mono s).weak Tv⟩
   |false=>exact((bx.zJ h2 hn).mono s).weak Tv
 .by_cases eG:j=x
  .subst eG;unfold Py.put at hj;rw[ZX hx]at hj;cases hj;exact⟨a,ZX (by rw[<-h.len];exact hx),.inr ⟨rfl,rfl,.inr Zt⟩⟩
  .unfold Py.put at hj;rw[ZV (aay eG)]at hj;refine aa (h.own j d' hj) λb o2 o1=>⟨b,by rw[ZV (aay eG)];exact o2,.inl ⟨HR j true d' hj,?_⟩⟩;rw[aR eG];exact o1.elim (λo1=>o1.2) λo1=>by rw[HR j true d' hj]at o1;exact nomatch o1.1
 .by_cases h1:j=x
  .rw[h1,aM]at hj;cases hj
  .by_cases h2:k=x
   .rw[h2,aM]at hk;cases hk
   .rw[aR h1]at hj;rw[aR h2]at hk;exact h.inj j k b hj hk
 .by_cases h1:j=x
  .rw[h1,aM]at hj;cases hj
  .rw[aR h1]at hj;refine aa (h.ex.live b (.inr ⟨j,hj⟩)) λu e _=>?_;unfold nu;rw[bT λhb=>by rw[hn b hb]at e;cases e];exact h.new j b hj
 .unfold nu at e;by_cases hb:b∈a::as
  .rw[jz hb]at e;exact e
  .rw[bT hb]at e;exact s _ _ (h.same _ _ e)
 .unfold nu;by_cases ja:b∈a::as
  .exact aa (t.there b ja) λu e _=>⟨u,by rw[jz ja];exact e⟩
  .rw[bT ja];exact h.o0 b (hb.resolve_right ja)
noncomputable def iJ(bG H:Hp):Hp:=λb=>match H b with
 |some (.tup us)=>some (.tup us)
 |_=>bG b
def hJ(e:H b=some (.tup us)):iJ bG H b=some (.tup us):=by unfold iJ;rw[e]
def fD(e:∀us,H b≠some (.tup us)):iJ bG H b=bG b:=by
 unfold iJ;split
 .rename_i us z;exact absurd z (e us)
 .rfl
theorem SX.iJ(h:SX K bG ab Z kv kd ow σ H ρ):SX K (iJ bG H) ab Z kv kd ow σ H ρ:=by
 refine⟨h.ex,h.own,h.inj,λi b hb=>?_,λb u e=>?_,h.kp,λb hb=>?_,h.len⟩
 .refine aa (h.ex.live b (.inr ⟨i,hb⟩)) λu e q=>?_;rw[fD λus z=>by rw[e]at z;cases z;exact q];exact h.new i b hb
 .by_cases hb:∃us,H b=some (.tup us)
  .obtain⟨us,z⟩:=hb;rw[hJ z]at e;cases e;exact z
  .rw[fD λus z=>hb ⟨us,z⟩]at e;exact h.same _ _ e
 .by_cases ja:∃us,H b=some (.tup us)
  .obtain⟨us,z⟩:=ja;exact⟨_,hJ z⟩
  .rw[fD λus z=>ja ⟨us,z⟩];exact h.o0 b hb
def LS(K:aH)(H₀:Hp)(ab:Addr->Prop)(a:Addr)(as:List Addr)(T:List D)(σ:St)(H:Hp)(ρ:Env):Prop:=
 ∃bG ow,ae H₀ bG/\SX K bG (OT ab a as) (λb=>b=a) [] [] ow σ H ρ/\(∀b,b∈a::as->bG b=H b)/\rP K H a as T
def SX.ua(hx:SX K bG (OT ab a as) (λb=>b=a) [] [] ow σ H ρ)(t:rP K H a as T)(s:ae H H')(e:∀b,b∈a::as->bG b=H b):∀b,b∈a::as->bG b=H' b:=λb hb=>by
 refine aa (t.there b hb) λu eu _=>?_;rw[e b hb,eu];exact(s _ _ eu).symm
theorem LS.mono(h:LS K H₀ ab a as T σ H ρ)(s:ae H H'):LS K H₀ ab a as T σ H' ρ:=by
 exact gQ h λbG ow h1 h2 h3 h4=>⟨bG,ow,h1,h2.mono s,h2.ua h4 s h3,h4.xw s⟩
def LS.run(h:LS K H₀ ab a as T σ H ρ)(e:f ρ=some (.next ρ'))(k:∀bU H',LS K H₀ ab a as T bU H' ρ'->D'.nx bU H'):tC K f D' σ H:=by
 refine gQ h λbG ow h1 h2 h3 h4=>⟨iJ bG H,_,_,[],[],ow,ρ,.next ρ',h2.iJ,e,λjV bU H' hx=>k bU H' ⟨_,jV,λb u eb=>?_,hx,λb hb=>?_,?_⟩⟩
 .have:=h1 _ _ eb;by_cases hb:∃us,H b=some (.tup us)
  .obtain⟨us,z⟩:=hb;rw[hJ z,<-z];exact h2.same _ _ this
  .rw[fD λus z=>hb ⟨us,z⟩];exact this
 .refine aa (h4.there b hb) λu eu q=>?_;have e1:iJ bG H b=some u:=by
   rw[fD λus z=>by rw[eu]at z;cases z;exact q,h3 b hb];exact eu
  rw[e1];exact(hx.same _ _ e1).symm
 .refine h4.keep (λb us z=>hx.same _ _ (hJ z)) λb hb=>aa (h4.there b hb) λu eu q=>?_;have e1:iJ bG H b=some u:=by
   rw[fD λus z=>by rw[eu]at z;cases z;exact q,h3 b hb];exact eu
  rw[eu];exact hx.same _ _ e1
def F1(h:jl ρ x=true):ρ[x]?=some (some (true,u5)):=by
 unfold jl at h;refine slot (ρ:=ρ) (i:=x) (λe=>?_) (λe=>?_) λo d e=>?_<;>rw[e]at h
 .cases h
 .cases h
 cases o with
 |false=>cases h
 |true=>cases d with
  |bI t ks vs=>cases ks with
   |nil=>cases vs with
    |nil=>cases eq_of_beq h;exact e
    |cons=>cases h
   |cons=>cases h
  |_=>cases h
def LS.at(h:LS K H₀ ab a as T σ H ρ)(ht:jl ρ x=true):σ[x]?=some (some (.ref a)):=by
 refine gQ h λbG ow _ h2 _ _=>aa (h2.own x _ (F1 ht)) λb o2 o1=>?_;rcases o1 with o1|o1
 .exact nomatch o1.1
 .rw[o2,o1.2.1]
theorem LS.lst(h:LS K H₀ ab a as T σ H ρ)(e:f6 ρ y=some l):∃b vs,σ[y]?=some (some (.ref b))/\cZ K H b vs/\vs.length=l.length:=by
 refine gQ h λbG ow _ h2 _ _=>?_;obtain⟨o,e2⟩:=t9 e;refine aa (h2.ex.j7 y o _ e2) λu q1 q2=>?_;cases o with
 |true=>
  refine bO q2 λb f1 f2 c=>aa c.lst λvs c1 c2=>?_;subst f1;exact⟨b,vs,q1,cZ.of c1,c2.length⟩
 |false=>
  refine bu (bx.lst_inv q2) λb vs f1 f2 f3=>?_;subst f1;exact⟨b,vs,q1,f2,f3.length⟩
def zK(e:jk ρ y=some l):f6 ρ y=some l:=by
 have:=xv e;unfold f6;rw[this]
end
def Pc(h:dg 0 d=some k):∃i,d= .int i/\k=[i]:=by
 cases d with
 |int i=>cases h;exact⟨i,rfl,rfl⟩
 |tup xs=>cases h
 |_=>cases h
def zL{K:aH}(hx:EX K O σ H ρ)(e1:fi ρ=some xs)(hz:xs.length<=bV)(hd:walk (sE fk fv fr ρ) xs=some T)
  (q:∀p as H',ae H H'->rP K H' p as T->(∀b∈p::as,H b=none)->Q (.ref p) H'):ph 1 fr (tI K true fi) (cJ 0) (tB K λ_=>some true) (tD (tV K false fk) (tV K false fv)) σ H Q:=by
 refine⟨O,ρ,xs,hx,e1,λJ gU H1 s1 BX tW p hp=>?_⟩;have tX:=hx.mono s1;have KC:fu K (λa=>O a\/a=p) H1 gU:=tW.ok.own hp;refine⟨λi m H'=>m=xs.length-i/\i<=xs.length/\ae H1 H'/\∃as S bg,H' p=some (.lst (as.map V.ref))/\Paired (nr K H') as S/\(p::as).Nodup /\(∀b∈as,H1 b=none)/\as.length=i/\walk (sE fk fv fr ρ) (xs.drop i)=some bg/\T=S++bg,
  ⟨xs.length,rfl,aak _,ae.upd hp,[],[],T,ag,.nil,by simp,λ_ z=>(nomatch z),rfl,hd,rfl⟩,?_⟩
 rintro i mm H2 ⟨rfl,hi,s2,as,S,bg,ep,pd,nd,hn,hl,hw,ho⟩;refine cP (BX _ H2 (KC.mono s2)) λgo AB stop=>?_;by_cases aU:i<xs.length
 .refine .inr ⟨go i aU,λx H3 hy=>?_⟩;have Tg:xs[i]?=some xs[i]:=by simp[aU]
  obtain⟨s3,rx⟩:=AB i x H3 _ hy Tg;have OP:H3 p=some (.lst (as.map V.ref)):=s3 _ _ ep;have Th:EX K (λa=>O a\/a=p) σ H3 ρ:=tX.ext hp (s2.trans s3) OP;have dr:xs.drop i=xs[i]::xs.drop (i+1):=(aaz aU);rw[dr,walk]at hw;show tB K (λ_=>some true) ((List.replicate 1 none++jh fr σ).set 0 (some x)) H3 _;have XR:(List.replicate 1 none++jh fr σ).set 0 (some x)=some x::jh fr σ:=rfl;rw[XR];have OQ:=Th.inner (.cons rx .nil) fr;refine⟨_,_,true,OQ,rfl,λH4 s4=>mf λHS QU=>?_⟩;cases en:sE fk fv fr ρ xs[i]with
  |none=>rw[en]at hw;cases hw
  |some o=>
  have HU:=en;unfold sE at HU;refine aa (bind_some HU) λkk g0 HU=>aa (bind_some g0) λdk g1 g2=>aa (bind_some HU) λd g3 HU=>?_;split at HU
  .rename_i uA;cases HU;rw[en]at hw;refine aa (map_some hw) λBY xh OR=>aa (Pc g2) λki af aK=>?_;subst af;subst aK;have Vq:=(OQ.mono s4).mono (ae.upd (o:= .dK []) QU);refine⟨_,_,_,Vq,g1,λkv H5 s5 r5=>⟨_,_,d,Vq.mono s5,g3,λv H6 s6 r6=>?_⟩⟩;have K8:H6 HS=some (.dK []):=s6 _ _ (s5 _ _ ag);have QV:ae H4 H6:=((ae.upd (o:= .dK []) QU).trans s5).trans s6;have Tw:H6 p=some (.lst (as.map V.ref)):=QV _ _ (s4 _ _ OP);have QW:p≠HS:=fX Tw K8 (by intro z;cases z);have XS:ae H2 H6:=(s3.trans s4).trans QV;have K9:∀b u,H4 b=some u->b≠HS:=λb u e z=>by rw[z,QU]at e;cases e
   refine⟨ki,r5.int,K8,as.map V.ref,xs.length-(i+1),by rw[ai QW];exact Tw,by rw[Zo,hl,cK];exact Zn aU hz,(afe (acs aU)),rfl,aU,λbb oo eb=>?_,as++[HS],S++[.bI 0 [[ki]] [d]],BY,?_,?_,?_,?_,?_,xh,?_⟩
   .have e4:H4 bb=some oo:=s4 _ _ (s3 _ _ (s2 _ _ eb));rw[ai (b6 eb hp),ai (K9 _ _ e4)];exact QV _ _ e4
   .rw[Z3];exact ag
   .have t6:iW H6 (L2.upd (L2.upd H6 HS (.dK [(Sum.inl ki,v)])) p (.lst (as.map V.ref++[.ref HS]))):=(gJ (o:= .dK [(Sum.inl ki,v)]) K8 trivial).trans (gJ (u:= .lst (as.map V.ref)) (by rw[ai QW];exact Tw) trivial);have old:Paired (nr K (L2.upd (L2.upd H6 HS (.dK [(Sum.inl ki,v)])) p (.lst (as.map V.ref++[.ref HS])))) as S:=kC pd λb dd hb DZ=>DZ.keep ((pW XS).trans t6) (by
     refine cn DZ λks vs ys _ h2 _=>?_;have e4:H4 b=some (gh 0 ks vs):=s4 _ _ (s3 _ _ h2);have XT:b≠p:=λz=>by rw[Z8]at nd;exact nd.1 (z▸hb)
     rw[ai XT,ai (K9 _ _ e4),h2];exact QV _ _ e4)
    refine zH ⟨[[ki]],[v],[d],rfl,?_,rfl,⟨by simp,λ_ k hk=>⟨ki,by simpa using hk⟩⟩,by simp[a_,uA],.cons (dW t6 r6.own uA) .nil⟩ old;rw[ai (aay QW),ag,jI];rfl
   .rw[<-List.cons_append,aaS];refine⟨nd,by simp,λb hb c hc e=>?_⟩;rw[Zp]at hc;rw[e,hc]at hb;rcases ZC.mp hb with z|z
    .exact QW z.symm
    .exact Im (jL pd z) λdd ks vs ys _ h2 _=>K9 _ _ (s4 _ _ (s3 _ _ h2)) rfl
   .intro b hb;rcases ZI.mp hb with hb|hb
    .exact hn b hb
    .rw[Zp]at hb;subst hb;cases z:H1 b with
     |none=>rfl
     |some w=>have:=s4 _ _ (s3 _ _ (s2 _ _ z));rw[QU]at this;cases this
   .rw[Zw,aab,hl]
   .rw[ho,<-OR,ZW];rfl
  .cases HU
 .have ei:i=xs.length:=(acX hi (ZZ aU));subst ei;refine .inl ⟨stop,?_⟩;rw[aeD,walk]at hw;cases hw;rw[aaf]at ho;subst ho;refine q p as H2 (s1.trans s2) ⟨ep,pd,nd⟩ λb hb=>?_;have h1:H1 b=none:=(ZC.mp hb).elim (λz=>z▸hp) (hn b);cases z:H b with
  |none=>rfl
  |some w=>have:=s1 _ _ z;rw[h1]at this;cases this
section
variable {K:aH}{H₀ bG:Hp}{ab F2 Z:Addr->Prop}{kv:List V}{kd:List D}{ow:Nat->Option Addr}{σ:St}{H H1 H':Hp}{ρ:Env}{a b:Addr}{as:List Addr}{T:List D}{x y r:Nat}{u u':HO}
def Cz{α β:Type}{R R':α->β->Prop}{x:α}{y':β}(hy:R' x y'):∀{l:List α}{m:List β}{q:Nat},Paired R l m->l.Nodup->l[q]?=some x->(∀z y,z∈l->z≠x->R z y->R' z y)->Paired R' l (m.set q y'):=λ{l m q} p=>by
 induction p generalizing q with
 |nil=>intro _ e;simp at e
 |cons r t ih=>
  intro nd e k;rw[Z8]at nd;cases q with
  |zero=>
   simp at e;subst e;exact .cons hy (kC t λz y hz=>k z y (Zm _ hz) λe=>nd.1 (e▸hz))
  |succ q=>
   have e':=by simpa using e
   exact .cons (k _ _ Zt (λe2=>nd.1 (e2▸aac e')) r) (ih nd.2 e' λz y hz=>k z y (Zm _ hz))
def SX.XU(h:SX K bG F2 Z kv kd ow σ H ρ)(ob:F2 b)(e:H b=some u)(hu:tQ u)(rN:tQ u')(hz:∀c,Z c->c≠b):SX K (L2.upd bG b u') F2 Z kv kd ow σ (L2.upd H b u') ρ:=by
 have oa:Os F2 ow b:= .inl ob;obtain⟨w,hw⟩:=h.o0 b ob;have d_:∀i c,ow i=some c->c≠b:=λi c hc z=>by
  have:=h.new i c hc;rw[z,hw]at this;cases this
 refine⟨⟨λc hc=>?_,λj o d' hj=>?_⟩,h.own,h.inj,λi c hc=>by rw[ai (d_ i c hc)];exact h.new i c hc,λc v hc=>?_,h.kp.upd oa e hu,λc hc=>?_,h.len⟩
 .by_cases xy:c=b
  .subst xy;exact⟨u',ag,rN⟩
  .exact aa (h.ex.live c hc) λus q qo=>⟨us,by rw[ai xy];exact q,qo⟩
 .refine aa (h.ex.j7 j o d' hj) λw q1 q2=>⟨w,q1,?_⟩;cases o with
  |true=>
   refine bO q2 λc e1 e2 c'=>aa (h.own j d' hj) λb' o2 o1=>?_;rw[q1]at o2;cases o2;cases e1;exact⟨c,rfl,e2,c'.upd (o1.elim (λo1=>d_ j c o1.2) λo1=>hz c o1.2.1) oa e hu⟩
  |false=>exact bx.upd q2 oa e hu
 .by_cases xy:c=b
  .subst xy;rw[ag]at hc⊢;exact hc
  .rw[ai xy]at hc⊢;exact h.same _ _ hc
 .by_cases xy:c=b
  .subst xy;exact⟨u',ag⟩
  .obtain⟨v,hv⟩:=h.o0 c hc;exact⟨v,by rw[ai xy];exact hv⟩
theorem LS.put(h:LS K H₀ ab a as T σ H ρ)(rp:bx K O' H v d)(n:aI d=true):LS K H₀ ab a as T (σ.set r (some v)) H (Py.put ρ r false d):=by
 exact gQ h λbG ow h1 h2 h3 h4=>⟨bG,_,h1,h2.put (dW (λ_ _ e=>e) rp n) r,h3,h4⟩
def LS.own(h:LS K H₀ ab a as T σ H ρ)(e:jk ρ y=some l):∃b vs O',σ[y]?=some (some (.ref b))/\H b=some (.lst vs)/\aq K O' H vs l/\
  ∀KR l' H',ae H H'->aq K O' H' KR l'->LS K H₀ ab a as T σ (L2.upd H' b (.lst KR)) (Py.put ρ y true (.lst l')):=by
 refine gQ h λbG ow h1 h2 h3 h4=>gQ (h2.K5 e) λb vs o1 o2 o3 o4=>?_;refine⟨b,vs,_,o2,o3,o4,λKR l' H' s rr=>?_⟩;have hb:∀c,c∈a::as->c≠b:=λc hc z=>by
  have n:=h2.new y b o1;refine aa (h4.there c hc) λu eu _=>?_;rw[<-z,h3 c hc,eu]at n;cases n
 have Pa:=s _ _ o3;refine⟨bG,ow,h1,(h2.mono s).wr o1 o2 Pa rr,λc hc=>?_,(h4.xw s).keep (gJ Pa trivial) λc hc=>ai (hb c hc)⟩;rw[ai (hb c hc)];exact h2.ua h4 s h3 c hc
def LS.dput(h:LS K H₀ ab a as T σ H ρ){xs:List D}{ki:Int}(e:T[q]?=some (.bI 0 ks xs))(hk:[ki]∉ks)(hl:ks.length<bV)(rp:bx K O' H v d)(n:aI d=true)(hn:∀b∈a::as,H₀ b=none):
  ∃b H',as[q]?=some b/\JN H b (.int ki) v H'/\LS K H₀ ab a as (T.set q (.bI 0 (ks++[[ki]]) (xs++[d]))) σ H' ρ:=by
 refine gQ h λbG ow h1 h2 h3 h4=>?_;obtain⟨b,e1,XA,vs,Om,e2,g1,g2,g3,g4,g5⟩:=F0 h4.bI e;cases e2;have hb:b∈as:=aac e1;have nd:=Z8.mp h4.nd;have lI:a≠b:=λz=>nd.1 (z▸hb);have K_:j9 ((ks.map λk=>(Sum.inl (k.headD 0):cS)).zip vs) (Sum.inl ki) v=((ks++[[ki]]).map λk=>(Sum.inl (k.headD 0):cS)).zip (vs++[v]):=by
  have:=rn (λk:List Int=>(Sum.inl (k.headD 0):cS)) (x:=[ki]) (v:=v) g2 (λk hm he=>by
   obtain⟨j,rfl⟩:=g3.2 rfl k hm;have:j=ki:=aep he;rw[this]) hk
  exact this
 refine⟨b,L2.upd H b (gh 0 (ks++[[ki]]) (vs++[v])),e1,.inl ⟨_,Sum.inl ki,by rw[g1,jI],rfl,by rw[acW,Zo,g2,adV,cK,<-g2];exact hl,by rw[K_,jI]⟩,?_⟩;have ts:iW H (L2.upd H b (gh 0 (ks++[[ki]]) (vs++[v]))):=gJ g1 kW;refine⟨L2.upd bG b (gh 0 (ks++[[ki]]) (vs++[v])),ow,λc w ec=>?_,h2.XU (.inr (Zm _ hb)) g1 kW kW (λc hc=>by rw[hc];exact lI),λc hc=>?_,⟨by rw[ai lI];exact h4.lst,?_,h4.nd⟩⟩
 .have xy:c≠b:=λz=>by rw[z,hn b (Zm _ hb)]at ec;cases ec
  rw[ai xy];exact h1 _ _ ec
 .by_cases xy:c=b
  .subst xy;rw[ag,ag]
  .rw[ai xy,ai xy];exact h3 c hc
 .refine Cz ⟨ks++[[ki]],vs++[v],xs++[d],rfl,ag,by simp[g2],⟨?_,λ_ k hm=>?_⟩,by rw[iI,g4];simp[a_,n],(fC ts g5 g4).append (.cons (dW ts rp n) .nil)⟩ h4.bI nd.2 e1 λz y hz XW hd=>hd.keep ts (ai XW)
  .rw[aaS];exact⟨g3.1,by simp,λa ha b hb e=>hk (by rw[Zp.mp hb]at e;exact e▸ha)⟩
  .rcases ZI.mp hm with hm|hm
   .exact g3.2 rfl k hm
   .exact⟨ki,Zp.mp hm⟩
def LS.call(h:LS K H₀ ab a as T σ H1 ρ){Q:VK}(rz:bx K O' H1 v z)(nz:aI z=true)(fe:f [.lst T,z]=some d)(hn:∀ds d,f ds=some d->ds.length=n)
  (k:∀w H3,ae H1 (gc as H1 H3)->bx K (λ_=>False) H3 w d->iW H3 (gc as H1 H3)->tu as H1 H3->Q w (gc as H1 H3)):
  ∃Pd:List Addr,Pd.Nodup/\(∀b∈Pd,mK H1 b)/\∀H2,E1 Pd H1 H2->xc K n f ([.ref a,v]++[]) H2 (λw H3=>tu Pd H1 H3/\Q w (gc Pd H1 H3)) E0:=by
 refine gQ h λbG ow h1 h2 h3 h4=>⟨as,(Z8.mp h4.nd).2,h4.mut,λH2 fz=>⟨λ_=>False,[.lst T,z],d,λ_ z=>z.elim,.cons ((h4.rep fz).resolve_right id) (.cons (dW (t_ fz) rz nz) .nil),fe,hn _ _ fe,λw H3 s AN=>?_⟩⟩;exact cP (zI fz s) λc s' t=>⟨c,k w H3 s' AN t c⟩
def LS.ret(h:LS K H₀ ab a as T σ H ρ)(hn:∀b∈a::as,H₀ b=none)(o0:∀b,ab b->∃w,H₀ b=some w)(fz:E1 as H H2):ae H₀ H2/\bx K ab H2 (.ref a) (.lst T):=by
 refine gQ h λbG ow h1 h2 h3 h4=>⟨λb u e=>?_,(h4.rep fz).resolve_right λz=>?_⟩
 .rw[fz.out b λhb=>by rw[hn b (Zm _ hb)]at e;cases e];exact h2.same _ _ (h1 _ _ e)
 .obtain⟨w,hw⟩:=o0 a z;rw[hn a Zt]at hw;cases hw
end
abbrev K'(K:aH)(n:Nat)(f:List D->Option D)(t:TA):TE:=λσ H Q=>t σ H λvs H1=>∃as:List Addr,as.Nodup/\(∀b∈as,mK H1 b)/\∀H2,E1 as H1 H2->xc K n f (vs++[]) H2 (λv H3=>tu as H1 H3/\Q v (gc as H1 H3)) E0
abbrev F3(y:Nat):TE:=λσ H Q=>∃a vs v,σ[y]?=some (some (.ref a))/\H a=some (.lst vs)/\vs[vs.length-1]?=some v/\Q v (L2.upd H a (.lst vs.dropLast))
abbrev CA(K:aH)(y:Nat):TT:=λσ H Q=>de y σ H λx H'=>∃k,I_ K x H' k/\Q k H'
section
variable {K:aH}{H₀:Hp}{ab:Addr->Prop}{σ:St}{H:Hp}{ρ:Env}{a:Addr}{as:List Addr}{T:List D}{x y:Nat}
def CB(h:jl ρ x=true)(ne:x≠y):jl (Py.put ρ y o d) x=true:=by
 unfold jl Py.put at *;rw[ZV (aay ne)];exact h
def LS.Vr(h:LS K H₀ ab a as T σ H ρ)(e:f6 ρ y=some l)(q:Q (!l.isEmpty) H):CA K y σ H Q:=by
 refine bu (h.lst e) λb vs h1 h2 h3=>?_;have he:(!vs.isEmpty)=!l.isEmpty:=by cases vs<;>cases l<;>simp at h3⊢
 exact⟨.ref b,h1,!vs.isEmpty,.inl ⟨vs,h2,rfl⟩,by rw[he];exact q⟩
def CC(h:t {D' with nx:=u D'} σ H):qg t u D' σ H:=h
def LS.ifs(h:LS K H₀ ab a as T σ H ρ)(e:f6 ρ y=some l)(q:if(!l.isEmpty)=true then t D' σ H else u D' σ H):D_ (CA K y) t u D' σ H:=by
 unfold D_;exact h.Vr e q
def LS.turn(h:LS K H₀ ab a as T σ H ρ)(hn:∀b∈a::as,H₀ b=none)(ht:jl ρ x=true)(uC:x≠y)(el:jk ρ y=some l)(Pf:∀ds d,F f ds=some d->ds.length=n1)(Pj:∀ds d,F g ds=some d->ds.length=n2)
  (e:jm F x y r f c2 m c3 p q u g w T ρ l=some (T',ρ')) (k:∀bU H',LS K H₀ ab a as T' bU H' ρ'->jl ρ' x=true->D'.nx bU H'):
  qg (ou (K' K n1 (F f) (cQ (de x) (cQ (F3 y) l9))) (cJ r)) (qg (tC K c2) (qg (D_ (CA K m) (qg (tC K c3) (qg (wo (G_ (Eo K) (de x) (tV K false p)) (tV K false q) (tV K false u)) (qg (vY (Qq K "list" (Bt K) (de y) (cQ (K' K n2 (F g) (cQ (de x) (cQ (tV K false w) l9))) l9))) vX))) vX) vX)) D' σ H:=by
 unfold jm at e;obtain⟨z,e1,e⟩:=bind_some e;obtain⟨d,e2,e⟩:=bind_some e;split at e
 .rename_i Pk;rw[Zk]at Pk;obtain⟨o,e3,e⟩:=bind_some e;cases o with
  |next Nz=>
   dsimp only at e;split at e
   .rename_i Tx;obtain⟨ms,e4,e⟩:=bind_some e;obtain⟨b,vs,O',y1,y2,y3,y4⟩:=h.own el;have n_:l[vs.length-1]?=some z:=by rw[y3.length,<-aeb];exact e1
    obtain⟨v,z1,z2⟩:=y3.get n_;have yd:aq K O' H vs.dropLast l.dropLast:=by
     rw[acu,acu,y3.length];exact y3.take _
    have h1:=y4 vs.dropLast l.dropLast H (ae.refl _) yd;have XX:bx K (λ_=>False) (L2.upd H b (.lst vs.dropLast)) v z:=dW (gJ y2 trivial) z2 Pk.1;refine⟨.ref a,h.at ht,b,vs,v,y1,y2,z1,h1.call (Q:=λw H'=>qg (tC K c2) _ D' (σ.set r (some w)) H') XX Pk.1 e2 Pf λw H3 s3 r3 t3 Tz=>?_⟩;have h2:=(h1.mono s3).put (r:=r) (dW (O':=λ_=>False) t3 r3 Pk.2) Pk.2;refine h2.run e3 λyz H4 h3=>CC (h3.ifs e4 ?_);generalize ms.isEmpty=bm at e⊢;cases bm with
    |true=>
     cases e;exact oC (k yz H4 h3 Tx)
    |false=>
     rw[ZL Zl]at e;obtain⟨o,e5,e⟩:=bind_some e;cases o with
     |next Af=>
      dsimp only at e;split at e
      .rename_i TB;obtain⟨uv,e6,e⟩:=bind_some e;split at e
       .rename_i hu;obtain⟨pi,XY,e⟩:=bind_some e;obtain⟨dp,e7,Vs⟩:=bind_some XY;have XZ:dp= .int pi:=by cases dp<;>first|(cases Vs;rfl)|cases Vs
        subst XZ;obtain⟨pq,e8,e⟩:=bind_some e;obtain⟨kk,X0,e⟩:=bind_some e;obtain⟨dk,e9,QX⟩:=bind_some X0;obtain⟨ki,rfl,rfl⟩:=Pc QX;obtain⟨T2,xt,e⟩:=bind_some e;obtain⟨wv,X1,e⟩:=bind_some e;split at e
        .rename_i hw;obtain⟨zd,aa,e⟩:=bind_some e;cases zd with
         |lst zs=>
          dsimp only at e;split at e
          .rename_i X2;obtain⟨ws,bO,e⟩:=bind_some e;split at e
           .rename_i aL;cases e;refine mf (h3.run e5 λX3 H5 h5=>?_);obtain⟨bG,ow,b1,b2,b3,b4⟩:=id h5;refine⟨_,Af,uv,b2.ex,e6,λv6 H6 s6 r6=>⟨.ref a,(h5.mono s6).at TB,_,Af,.int pi,(b2.mono s6).ex,e7,λv7 H7 s7 r7=>?_⟩⟩;have h7:=(h5.mono s6).mono s7;have t7:=b4.xw (s6.trans s7);unfold A2 at xt;split at xt
            .rename_i ks xs eT;split at xt
             .rename_i JV;cases xt;have lT:as.length=T.length:=acw t7.bI;obtain⟨b8,X4,TC⟩:∃c,Hg (as.map V.ref) pi=some (V.ref c)/\as[pq]?=some c:=by
               have aU:pq<as.length:=by rw[lT];exact(ZJ.mp eT).1
               refine⟨as[pq],?_,Zj aU⟩;unfold Hg;rw[Zo,lT,<-mW,e8];show(as.map V.ref)[pq]?=_;rw[Zz,Zj aU];rfl
              refine⟨a,_,pi,.ref b8,rfl,r7.int,cZ.of t7.lst,X4,_,Af,.int ki,((b2.mono s6).mono s7).ex,e9,λv9 H9 s9 r9=>?_⟩;have h9:=h7.mono s9;obtain⟨b',R7,f1,f2,f3⟩:=h9.dput eT JV.2 JV.1 (r6.own.mono (s7.trans s9)) hu hn;rw[TC]at f1;cases f1;refine⟨_,R7,rfl,by rw[r9.int];exact f2,?_⟩;obtain⟨c,us,O2,c1,Hv,Tz,c4⟩:=f3.own bO;obtain⟨X5,Zb,d1,d2,d3,d4⟩:=id f3;refine⟨.ref c,c1,.inl ⟨rfl,us,cZ.of Hv⟩,.ref a,f3.at TB,_,Af,wv,d2.ex,X1,λv11 R8 Qy X6=>?_⟩;refine(f3.mono Qy).call (Q:=λw2 H'=>Bt K (.ref c) [w2] H' λ_ X7=>D'.nx X3 X7) X6.own hw aa Pj λw2 Zc X8 X9 X_ X'=>?_;obtain⟨bb,zv,rfl,g1,g2⟩:=X9.lst_inv;have zy:=Qy.trans X8;refine⟨c,bb,us,zv,rfl,rfl,zy _ _ Hv,Cy X' (d4.xw Qy).Pb g1,by rw[cK,Tz.length,g2.length];exact aL,?_⟩;exact k _ _ (c4 _ _ _ zy ((Tz.mono zy).append (fC X_ g2 X2))) (CB TB uC)
             .cases xt
            .cases xt
           .cases e
          .cases e
         |_=>cases e
        .cases e
       .cases e
      .cases e
     |_=>cases e
   .cases e
  |_=>cases e
 .cases e
end
def La(h:te σ H λv H1=>g v σ H1 D'.nx):ou te g D' σ H:=h
section
variable {X:Cx}{s1 s2 sr s5 s6 ss se:Stmt}{e1 e2 em:Expr}{wp ip rp:Pos}{x y r f m g n1 n2:Nat}{fr:List Nat}{F:FT}{fi:Env->Option (List D)}{fk fv p q u w:Env->Option D}{c1 c2 c3:Env->Option kQ}
def Pn(hp:PassesOwn aa6 X.A X.env X.xe)(Pf:∀ds d,F f ds=some d->ds.length=n1)(Pj:∀ds d,F g ds=some d->ds.length=n2)
  (P1:PS X s1 (ou (ph 1 fr (tI X.K true fi) (cJ 0) (tB X.K λ_=>some true) (tD (tV X.K false fk) (tV X.K false fv))) (cJ x)))
  (P2:PS X s2 (tC X.K c1)) (Py:PT X e2 (CA X.K y)) (Pr:PS X sr (ou (K' X.K n1 (F f) (cQ (de x) (cQ (F3 y) l9))) (cJ r))) (P5:PS X s5 (tC X.K c2)) (Pm:PT X em (CA X.K m)) (P6:PS X s6 (tC X.K c3))
  (Ps:PS X ss (wo (G_ (Eo X.K) (de x) (tV X.K false p)) (tV X.K false q) (tV X.K false u))) (Pe:PS X se (vY (Qq X.K "list" (Bt X.K) (de y) (cQ (K' X.K n2 (F g) (cQ (de x) (cQ (tV X.K false w) l9))) l9)))) (Pt:PE X e1 (de x)) (n:Nat):
  lz X [s1,s2,.While e2 [sr,s5,.If em [s6,ss,se] [] ip] [] wp,.Return (some e1) rp] (tC X.K λρ=>(fi ρ).bind λxs=>if xs.length<=bV/\x≠y/\x<ρ.length/\sD ρ=true then(walk (sE fk fv fr ρ) xs).bind λT=>
   (c1 (put ρ x true u5)).bind λo=>match o with
   | .next Jz=>if jl Jz x then(gv (jm F x y r f c2 m c3 p q u g w) y n T Jz).map λT=> .ret (.lst T) else none
   |_=>none
  else none):=
 (b7 P1 (b7 P2 (b7 (rZ hp Py (b7 Pr (b7 P5 (b7 (G8 Pm (b7 P6 (b7 Ps (b7 Pe i8))) i8) i8)))) (b7 (uH (E2 Pt)) i8)))).weak λD' σ H zz=>by
  refine oh zz λH₀ ab Z kv kd ow ρ out hx hd k=>aa aa4 λxs n_ hd=>?_;split at hd
  .rename_i hc;refine Ak hc λhz uC Ya Yb=>aa aa4 λT Ex hd=>aa aa4 λo e3 hd=>?_;cases o with
   |next Jz=>
    dsimp only at hd;split at hd
    .rename_i Sv;refine aa (map_some hd) λT' e4 af=>?_;subst af;refine CC (La (zL hx.ex n_ hz Ex λa as H' s t hn=>?_));have QT:∀b∈a::as,H₀ b=none:=λb hb=>by
      cases z:H₀ b with
      |none=>rfl
      |some w'=>have:=hx.same _ _ z;rw[hn b hb]at this;cases this
     obtain⟨sb,tX⟩:=hx.tab s t hn Yb Ya;have L0:LS X.K H₀ ab a as T (σ.set x (some (.ref a))) H' (put ρ x true u5):=⟨_,_,sb,tX,λb hb=>jz hb,t⟩;refine L0.run e3 λIQ H1 L1=>⟨λi σ H=>∃S ρ,LS X.K H₀ ab a as S σ H ρ/\jl ρ x=true/\gv (jm F x y r f c2 m c3 p q u g w) y i S ρ=some T',⟨n,T,Jz,L1,Sv,e4⟩,?_⟩;rintro i Ac H2 ⟨S,DY,Mv,Vt,e5⟩;cases i with
     |zero=>cases e5
     |succ i=>
      rw[gv]at e5;refine aa (bind_some e5) λl e6 e5=>Mv.Vr (zK e6) ?_;cases hl:l.isEmpty with
      |true=>
       rw[hl,ZD rfl]at e5;cases e5;refine oC ?_;refine⟨.ref a,Mv.at Vt,as,?_,?_,λH3 fz=>?_⟩
       .exact gQ Mv λ_ _ _ _ _ t4=>(Z8.mp t4.nd).2
       .exact gQ Mv λ_ _ _ _ _ t4=>t4.mut
       .obtain⟨q1,q2⟩:=Mv.ret QT hx.o0 fz;exact k _ _ q1 q2
      |false=>
       rw[hl,ZL Zl]at e5;obtain⟨⟨S',ρ'⟩,e7,e5⟩:=bind_some e5;refine mf ⟨λbU H'=>∃S ρ,LS X.K H₀ ab a as S bU H' ρ/\jl ρ x=true/\gv (jm F x y r f c2 m c3 p q u g w) y i S ρ=some T',λbU H' h=>⟨i,aaN i,h⟩,?_⟩;exact Mv.turn QT Vt uC e6 Pf Pj e7 λbU H' L3 Tx=>⟨S',ρ',L3,Tx,e5⟩
    .cases hd
   |_=>cases hd
  .cases hd
end
section
variable {X:Cx}{c e:Expr}{st:Stmt}{pos px:Pos}{x:Str}{i:Nat}
def Po(hi:X.N[i]?=some x)(hv:yw X.env.scope x)(FW:ab4=false)(oz:(x==("__classdict__":Str))=false)(hl:(ap.endLine==cp.line)=true)(he:PE X e (tV X.K false f))(hn:bD e=true):
  PS X (.Expr (.Call (.Attribute (.Name x px) "append" ap) [e] [] cp) pos) (tC X.K λρ=>(f ρ).bind λd=>match ρ[i]? with
   |some (some (true,.lst xs))=>if xs.length<bV then some (.next (put ρ i true (.lst (xs++[d])))) else none
   |_=>none):=
 (lA (wd abB PySem.F.slot_list_append PySem.F.type_list_append o_ (bM hi hv FW oz) (bX he df (bP hn)) rfl (by rw[bP hn];rfl) hl (bP hn) rfl) rfl).weak λD' σ H zz=>by
  refine oh zz λH₀ ab Z kv kd ow ρ out hx hd k=>aa aa4 λd e1 hd=>?_;split at hd
  .rename_i xs HM;split at hd
   .rename_i hz;cases hd;refine aa (hx.own i _ HM) λa o2 o1=>?_;have o1:ow i=some a:=o1.elim (λz=>z.2) λz=>nomatch z.1;refine aa (hx.ex.j7 i true _ HM) λw' q1 q2=>bO q2 λa' e6 e8 c0=>aa c0.lst λvs e9 xt=>?_;rw[o2]at q1;cases q1;cases e6;refine⟨.ref a,o2,.inl ⟨rfl,vs,cZ.of e9⟩,Os ab ow,ρ,d,hx.ex,e1,λv H1 s1 r1=>?_⟩;have tX:=hx.mono s1;have QX:=s1 _ _ e9;refine⟨a,vs,v,rfl,rfl,QX,?_,?_⟩
    .rw[cK,xt.length];exact hz
    .exact k ow _ _ (tX.wr o1 o2 QX ((xt.mono s1).append (.cons r1.own .nil)))
   .cases hd
  .cases hd
end
structure Cs(X:Cx)(G:GT)(F:FT):Prop where
 ct:Ct X G F
 fn:∀x,X.fn x=true
 nd:X.N.Nodup
 pass:PassesOwn aa6 X.A X.env X.xe
structure cv(G:GT)(F:FT)(c:C):Prop where
 s:∀X,Cs X G F->∀st,KY G c X.N X.env.scope st=true->PS X st (tC X.K (ex F c))
 ss:∀X,Cs X G F->∀uE,gg G c X.N X.env.scope uE=true->lz X uE (tC X.K (ex F c))
section
variable {G:GT}{F:FT}
def cv.fQ(s:∀X,Cs X G F->∀st,KY G c X.N X.env.scope st=true->PS X st (tC X.K (ex F c)))(n:∀N sc uE,gg G c N sc uE=false:=by intro _ _ _;rfl):cv G F c:=⟨s,λX hC uE h=>absurd h (by rw[n];exact Zl)⟩
def F4:cv G F .skip where
 s:=λX hC st h=>ff h
 ss:=λX hC uE h=>by
  cases uE with
  |nil=>exact K0
  |cons _ _=>exact ff h
def Lb(ha:cv G F a)(hb:cv G F b):cv G F (.seq a b) where
 s:=λX hC st h=>ff h
 ss:=λX hC uE h=>by
  cases uE with
  |nil=>exact ff h
  |cons s r=>
   change (KY G a X.N X.env.scope s&&gg G b X.N X.env.scope r)=true at h;simp only[Zk]at h;exact O6 (ha.s X hC s h.1) (hb.ss X hC r h.2)
def xC{p px pos:Pos}(hs:¬swapsWith (.ListComp el gs gZ p) (some (.Name x px)) pos.line env=pure false):env.scope.names.lookup x=some .local /\swapsWith (.ListComp el gs gZ p) (some (.Name x px)) pos.line env=pure true:=by
 have e0:swapsWith (.ListComp el gs gZ p) (some (.Name x px)) pos.line env=pure (env.blockKind == .function&&env.kindOf x==some .local&&px.line==p.line
   && !(gZ.names.any λ(n,k)=>n==x&&(k == .local||k == .cell))):=rfl
 cases eb:(env.blockKind == .function&&env.kindOf x==some .local&&px.line==p.line&&!(gZ.names.any λ(n,k)=>n==x&&(k == .local||k == .cell)))with
 |false=>rw[eb]at e0;exact absurd e0 hs
 |true=>
  rw[eb]at e0;simp only[Zk]at eb;exact⟨eq_of_beq eb.1.1.2,e0⟩
def Lc:cv G F (.asg i e):= .fQ λX hC st h=>by
 refine lU (gY (st:=st) h) λx px v pos af hb=>?_;subst af;replace h:=hb;simp only[Zk,decide_eq_true_eq,adk]at h;obtain⟨⟨⟨h1,h2⟩,h3⟩,h4⟩:=h;exact O7 hC.nd h1 (gI h2) (hC.fn _) ((snd e).e X hC.ct v h3 false) (nk h4)
def F5:cv G F (.cU i e):= .fQ λX hC st h=>by
 refine lU (gY (st:=st) h) λx px v pos af hb=>?_;subst af;replace h:=hb;simp only[Zk,decide_eq_true_eq]at h;obtain⟨⟨⟨⟨h1,h2⟩,h3⟩,h4⟩,h0⟩:=h;by_cases hs:swapsWith v (some (.Name x px)) pos.line X.env=pure false
 .exact pV (jY hC.nd h1 (gI h2) ((snd e).f X hC.ct v h3 h4) hs (.inl (hC.fn _))) (λσ H Q z=>z)
 .have hv:fR v=true:=by
   cases z:fR v with
   |true=>rfl
   |false=>exact absurd (nk z) hs
  rw[hv]at h0;cases e with
  |comp fr tg it ifs eE=>
   refine Ur (pS h3) λel n q iter fs gZ p c5 oG S8 QP h5 h6 h7=>?_;subst c5;subst oG;have e0:=xC hs;refine pV (mi ((snd it).i X hC.ct _ iter h5 true) (rg QP).1 hC.ct.calm QQ (ni hC.ct (snd it) (snd ifs) (snd eE) QP h5 h6 h7) (dG S8) hC.nd h1 e0.1 e0.2) (λσ H Q z=>?_);exact pM OO σ H Q (xp σ H Q z)
  |_=>exact ff h0
def F6:cv G F (.jj i ix e):= .fQ λX hC st h=>by
 refine kL (gF (st:=st) h) λCn v pos zr h=>aa (bQ h) λo aK h=>kL (jJ h) λn k p2 c5 h=>eC (cF h) λx px oG cO=>?_;subst zr aK c5 oG;simp only[Zk,decide_eq_true_eq]at cO;obtain⟨⟨⟨⟨⟨h1,h2⟩,h3⟩,h4⟩,h5⟩,h6⟩:=cO;exact K1 h1 (kz h2) (cB h3).1 (cB h3).2 ((snd ix).e X hC.ct _ h4 false) h5 ((snd e).e X hC.ct v h6 false)
def Ld:cv G F (.app i e):= .fQ λX hC st h=>by
 refine eC (gX (st:=st) h) λex pos zr h=>L9 (fy h) λo m ap as cp aK h=>aa (bQ h) λv c5 h=>eC (cF h) λx px oG cO=>?_;subst zr aK c5 oG;simp only[Zk,decide_eq_true_eq]at cO;obtain⟨⟨⟨⟨⟨⟨h1,h2⟩,h3⟩,rfl⟩,h4⟩,h5⟩,h6⟩:=cO;exact Po h1 (kz h2) (cB h3).1 (cB h3).2 h4 ((snd e).e X hC.ct _ h5 false) h6
def Le:cv G F (.ret e):= .fQ λX hC st h=>by
 cases st with
 |Return o pos=>
  cases o with
  |none=>exact ff h
  |some v=>
   have h:bF G e X.N X.env.scope v=true:=h;cases e with
   |var i=>
    cases v with
    |Name x px=>
     change (decide (X.N[i]?=some x)&&q5 X.env.scope x&&zD x)=true at h;simp only[Zk,decide_eq_true_eq]at h;obtain⟨⟨h1,h2⟩,h3⟩:=h;exact K2 h1 (kz h2) (cB h3).1 (cB h3).2
    |_=>exact ff h
   |_=>exact O8 ((snd _).e X hC.ct v h false)
 |_=>exact ff h
def Lf(ht:cv G F t)(hu:cv G F u):cv G F (.ifs c t u):= .fQ λX hC st h=>by
 cases st with
 |If x a b pos=>
  change (bF G c X.N X.env.scope x&&Fq c&&gg G t X.N X.env.scope a&&gg G u X.N X.env.scope b)=true at h;simp only[Zk]at h;obtain⟨⟨⟨h1,h2⟩,h3⟩,h4⟩:=h;exact Tq ((snd c).t X hC.ct x h1 h2) (ht.ss X hC a h3) (hu.ss X hC b h4)
 |_=>exact ff h
def CD(hb:cv G F b):cv G F (.while c b):= .fQ λX hC st h=>by
 cases st with
 |While x a o pos=>
  change (o.isEmpty&&bF G c X.N X.env.scope x&&Fq c&&gg G b X.N X.env.scope a)=true at h;simp only[Zk]at h;obtain⟨⟨⟨h0,h1⟩,h2⟩,h3⟩:=h;cases o with
  |cons _ _=>exact ff h0
  |nil=>exact xu hC.pass ((snd c).t X hC.ct x h1 h2) (hb.ss X hC a h3) eV
 |_=>exact ff h
def Vu(hC:Ct X G F)(h:KU G it X.N X.env.scope rO iter=true):PI X rO iter (tI X.K false (mB F false it)):=by
 cases it with
 |Ae a=>
  cases rO with
  |Tuple es k p=>
   refine lU (fA (e:=iter) h) λx q a0 cp zr cO=>?_;subst zr;simp only[Zk,decide_eq_true_eq]at cO;obtain⟨⟨⟨rfl,h1⟩,h2⟩,h3⟩:=cO;exact OM (dU h1) (hC.mg _ (by simp[iC])) ((snd a).e X hC _ h2 false) (bP h3)
  |_=>exact ff h
 |_=>exact(snd _).i X hC _ iter h false
def Lg:ex F (.for is tg it b)=λρ=>(λρ=>(mB F false it ρ).bind λxs=>aN (λy ρ=>((ay tg y).bind (cc ρ is)).bind (ex F b)) xs ρ) (fM it ρ):=by
 funext ρ;have e:(λ(x:D) (ρ:Env)=>(ay tg x).bind λys=>(cc ρ is ys).bind λρ'=>ex F b ρ')=λy ρ=>((ay tg y).bind (cc ρ is)).bind (ex F b):=by
  funext y ρ;cases ay tg y<;>rfl
 show(mB F false it (fM it ρ)).bind (λxs=>aN (λx ρ=>(ay tg x).bind λys=>(cc ρ is ys).bind λρ'=>ex F b ρ') xs (fM it ρ))=_;rw[e]
def Lh(hb:cv G F b):cv G F (.for is tg it b):= .fQ λX hC st h=>by
 cases st with
 |For rO iter a o pos=>
  change (o.isEmpty&&gE iter&&gg G b X.N X.env.scope a&&KS X.N X.env.scope is tg rO&&KU G it X.N X.env.scope rO iter)=true at h;simp only[Zk]at h;obtain⟨⟨⟨⟨h0,h1⟩,h2⟩,h3⟩,h4⟩:=h;cases o with
  |cons _ _=>exact ff h0
  |nil=>
   rw[Lg];refine Cu (it:=it) (g:=λρ=>(mB F false it ρ).bind λxs=>aN (λy ρ=>((ay tg y).bind (cc ρ is)).bind (ex F b)) xs ρ) ?_;unfold KS at h3;cases rO with
   |Name x p=>
    simp only[Zk,decide_eq_true_eq]at h3;obtain⟨⟨rfl,h5⟩,h6⟩:=h3;obtain⟨i,rfl⟩:∃i,is=[i]:=by
     cases is with
     |nil=>cases h6
     |cons i t=>cases t with|nil=>exact⟨i,rfl⟩|cons _ _=>cases h6
    unfold c6 at h5;simp only[Zk,decide_eq_true_eq]at h5;exact HN (setT:=λρ d=>some (put ρ i false d)) hC.pass hC.ct.calm (lB hC.nd h5.1.1 (gI h5.1.2) (.inl (hC.fn _))) FX (Vu hC.ct h4) (hb.ss X hC a h2) (dG h1)
   |Tuple es k p=>
    simp only[Zk,decide_eq_true_eq]at h3;obtain⟨⟨rfl,h5⟩,h6⟩:=h3;refine cP (kB hC.nd hC.fn h6) λq1 q2 q3=>?_;have CF:0<is.length:=by
     cases is with
     |nil=>
      unfold c6 at h6;rw[h6]at h5;cases h5
     |cons _ _=>exact abl _
    exact HN hC.pass hC.ct.calm (A5 hC.ct.calm q1 q2 q3) (Cq CF) (Vu hC.ct h4) (hb.ss X hC a h2) (dG h1)
   |_=>exact ff h3
 |_=>exact ff h
def F7:cv G F (.u0 i t es):= .fQ λX hC st h=>by
 refine lU (gY (st:=st) h) λx px v pos zr cO=>?_;subst zr;rw[Zk,Zk,decide_eq_true_eq]at cO;obtain⟨⟨h1,h2⟩,Mu⟩:=cO;refine kL (pO Mu) λks vs dp zr h=>aa (bQ h) λko aK h=>aa (pP h) λke c5 h=>aa (bQ h) λwe oG h3=>?_;subst zr aK c5 oG;simp only[Zk,decide_eq_true_eq]at h3;refine jU (B8 (F:=F) h3.2) λa b af k1 _ k2 _=>?_;subst af;have e0:ex F (.u0 i t (.cons a (.cons b .nil)))=λρ=>if t=2 then none else((ev F false a ρ).bind λx=>(ev F false b ρ).bind λy=>(dg t x).map λz=>D.bI t [z] [y]).map λd=> .next (put ρ i true d):=by
  funext ρ;show(if t=2 then none else((dI F false (.cons a (.cons b .nil)) ρ).bind (A0 t)).map λd=>kQ.next (put ρ i true d))=_;rw[lh];cases ev F false a ρ with
  |none=>rfl
  |some x=>
   show(if t=2 then none else(((dI F false (.cons b .nil) ρ).bind λxs=>some (x::xs)).bind (A0 t)).map λd=>kQ.next (put ρ i true d))=_;rw[lh];cases ev F false b ρ with
   |none=>rfl
   |some y=>rfl
 rw[e0];exact FZ hC.ct.units hC.nd h1 (gI h2) (hC.fn _) h3.1 ((snd a).e X hC.ct ke k1 false) ((snd b).e X hC.ct we k2 false)
def CG:cv G F (.raise k):= .fQ λX hC st h=>λU s σ H D' I zz=>aaD λ_=>oh zz λ_ _ _ _ _ _ _ _ _ hd _=>nomatch hd
def F8:cv G F (.uZ is e):= .fQ λX hC st h=>by
 refine kL (gF (st:=st) h) λCn v pos zr h=>aa (bQ h) λtg aK cO=>?_;subst zr aK;cases tg with
 |Tuple es k0 p=>
  change (!is.isEmpty&&c6 X.N X.env.scope is es&&bF G e X.N X.env.scope v&&Ck v)=true at cO;simp only[Zk]at cO;obtain⟨⟨⟨h0,h1⟩,h2⟩,h3⟩:=cO;exact K4 hC.ct.calm hC.nd hC.fn h1 ((snd e).e X hC.ct v h2 false) h3 (by cases is with|nil=>cases h0|cons _ _=>exact abl _)
 |_=>exact ff cO
def Li:cv G F (.ext i e):= .fQ λX hC st h=>by
 refine eC (gX (st:=st) h) λex pos zr h=>L9 (fy h) λo m ap as cp aK h=>aa (bQ h) λv c5 h=>eC (cF h) λx px oG cO=>?_;subst zr aK c5 oG;simp only[Zk,decide_eq_true_eq]at cO;obtain⟨⟨⟨⟨⟨⟨h1,h2⟩,h3⟩,rfl⟩,h4⟩,h5⟩,h6⟩:=cO;exact O_ h1 (kz h2) (cB h3).1 (cB h3).2 h4 ((snd e).e X hC.ct _ h5 false) h6
def Pp{X:Cx}{e:Expr}{i:Nat}(hv:PE X e (de i))(he:∀whole,isTrue e X.env whole=(do let v<-whole;standAt e.pos;holding [v] (truthy v))):PT X e (tB X.K λρ=>((f6 ρ i).map λxs=>D.bl !xs.isEmpty).bind eM):=
 (l7 hv he).weak λσ H Q ⟨O,ρ,k,hx,hd,q⟩=>by
  obtain⟨d,h1,h2⟩:=bind_some hd;obtain⟨xs,h3,rfl⟩:=map_some h1;cases h2;obtain⟨o,h4⟩:=t9 h3;obtain⟨v,h5,h6⟩:=hx.j7 i o _ h4;have h7:∃a vs,v= .ref a/\cZ X.K H a vs/\aq X.K O H vs xs:=by
   cases o with
   |true=>
    obtain⟨a,rfl,_,c⟩:=h6;obtain⟨vs,e1,e2⟩:=c.lst;exact⟨a,vs,rfl,cZ.of e1,e2⟩
   |false=>exact bx.lst_inv h6
  obtain⟨a,vs,rfl,e1,e2⟩:=h7;refine⟨.ref a,h5,!vs.isEmpty,.inl ⟨vs,e1,rfl⟩,?_⟩;have:(!vs.isEmpty)=!xs.isEmpty:=by cases e2<;>rfl
  rw[this];exact q H (ae.refl _)
def zM(hb:cv G F b):cv G F (.mC i b):= .fQ λX hC st h=>by
 cases st with
 |While x a o pos=>
  change (o.isEmpty&&c9 X.N X.env.scope i x&&gg G b X.N X.env.scope a)=true at h;simp only[Zk]at h;obtain⟨⟨h0,h1⟩,h3⟩:=h;cases o with
  |cons _ _=>exact ff h0
  |nil=>
   refine jU (bZ h1) λy q af n1 n2 n3 n4=>?_;subst af;exact xu hC.pass (Pp (bM n1 n2 n3 n4) λ_=>rfl) (hb.ss X hC a h3) eV
 |_=>exact ff h
def F9:cv G F (.expr e):= .fQ λX hC st h=>by
 refine eC (gX (st:=st) h) λx pos zr h=>kL (ky h) λf a p aK h=>?_;subst zr aK;refine(lA ((snd e).e X hC.ct _ h true) rfl).weak λD' σ H zz=>oh zz λH₀ ab Z kv kd ow ρ out hx hd k=>aa (map_some hd) λd e1 zr=>?_;subst zr;exact⟨Os ab ow,ρ,d,hx.ex,e1,λv H1 s1 r1=>k ow σ H1 (hx.mono s1)⟩
def F_:cv G F (.yO i k e):= .fQ λX hC st h=>by
 refine kL (gF (st:=st) h) λCn v pos zr h=>aa (bQ h) λt aK h=>kL (jJ h) λo ix sp c5 cO=>?_;subst zr aK c5;simp only[Zk,adk]at cO;obtain⟨⟨⟨⟨h1,h2⟩,h3⟩,h4⟩,h5⟩:=cO;refine jU (bZ h1) λx q af n1 n2 n3 n4=>?_;subst af;exact K6 hC.ct.units n1 n2 n3 n4 ((snd k).e X hC.ct _ h2 false) ((snd e).e X hC.ct v h4 false) (λt=>nk h5)
def CH(h:Cm N sc y e=true):∃x px ap cp,e= .Call (.Attribute (.Name x px) "pop" ap) [] [] cp/\N[y]?=some x/\yw sc x/\ab4=false/\(x==("__classdict__":Str))=false/\(ap.endLine==cp.line)=true:=by
 refine L9 (fy h) λe2 nm ap as cp zr cO=>?_;subst zr;simp only[Zk,decide_eq_true_eq,aeE]at cO;obtain⟨⟨⟨rfl,rfl⟩,h1⟩,h2⟩:=cO;refine jU (bZ h1) λx q af n1 n2 n3 n4=>?_;subst af;exact⟨x,q,_,cp,rfl,n1,n2,n3,n4,h2⟩
def Lj:cv G F (.pop i j):= .fQ λX hC st h=>by
 refine lU (gY (st:=st) h) λx px v pos af hb=>?_;subst af;replace h:=hb;simp only[Zk,decide_eq_true_eq]at h;refine D3 (CH h.2) λy q ap cp c5 n1 n2 n3 n4 n5=>?_;subst c5;exact O9 hC.nd h.1.1 (gI h.1.2) (hC.fn _) (bM n1 n2 n3 n4) rfl n5
def HV(hC:Ct X G F)(h:FP G x f X.N X.env.scope e ok=true)(hw:∀w,ok w=true->PE X w tw):∃n:Nat,(∀ds d,F f ds=some d->ds.length=n)/\PE X e (K' X.K n (F f) (cQ (de x) (cQ tw l9)))/\fR e=false/\bD e=true:=by
 refine lU (fx h) λn pn as cp zr h=>eC (B4 h) λe1 w aK cO=>?_;subst zr aK;simp only[Zk,decide_eq_true_eq]at cO;obtain⟨⟨⟨⟨⟨h1,h2⟩,h3⟩,h4⟩,h5⟩,h6⟩:=cO;refine jU (bZ h4) λy q af n1 n2 n3 n4=>?_;subst af;exact D3 (hC.call f n h1) λk fa fd ps g5 g6 g7 g8 g9 Oc=>⟨ps.length,Oc,Bs g5 g6 (dU h2) g7 g8 g9 (bX (bM n1 n2 n3 n4) (bX (hw w h5) df (bP h6)) rfl) (cB h3).1 rfl (by rw[bP h6];rfl),rfl,rfl⟩
def Lk{st:Stmt}(h:HL G x p q u N sc st=true):∃e1 pe qe e p1 p2 p3,st= .Assign [.Subscript (.Subscript e1 pe p1) qe p2] e p3/\(c9 N sc x e1&&bF G p N sc pe&&cb pe&&bF G q N sc qe&&cb qe&&bF G u N sc e&&!fR e)=true:=by
 exact kL (gF h) λCn e p3 z h=>aa (bQ h) λo z2 h=>kL (jJ h) λo2 qe p2 z3 h=>kL (jJ h) λe1 pe p1 z4 h=>⟨e1,pe,qe,e,p1,p2,p3,by rw[z,z2,z3,z4],h⟩
def Ll{st:Stmt}(h:O0 G x y g w N sc st=true):∃e2 m ap v cp pos,st= .Expr (.Call (.Attribute e2 m ap) [v] [] cp) pos/\(c9 N sc y e2&&decide (m="extend")&&(ap.endLine==cp.line)&&bD v&&FP G x g N sc v (bF G w N sc))=true:=by
 exact eC (gX h) λe p z h=>L9 (fy h) λo m ap as cp z2 h=>aa (bQ h) λv z3 h=>⟨o,m,ap,v,cp,p,by rw[z,z2,z3],h⟩
def Pq(hC:Cs X G F){st:Stmt}(h:OZ G x fr it k v X.N X.env.scope st=true):PS X st (ou (ph 1 fr (tI X.K true (mB F true it)) (cJ 0) (tB X.K λ_=>some true) (tD (tV X.K false (ev F false k)) (tV X.K false (ev F false v)))) (cJ x)):=by
 refine lU (gY h) λa pa e pos zr cO=>?_;subst zr;rw[Zk,Zk,decide_eq_true_eq]at cO;obtain⟨⟨h1,h2⟩,Mu⟩:=cO;refine lU (xi Mu) λel gs gZ lp zr h=>kL (pO h) λks vs dp aK h=>aa (bQ h) λko c5 h=>aa (pP h) λke oG h=>aa (bQ h) λve OJ h=>aa (bQ h) λg OK Yc=>?_;obtain⟨rO,iter,fs,kk⟩:=g;refine eC (cF Yc) λn q Mr Vv=>?_;change rO=_ at Mr;subst zr aK c5 oG OJ OK Mr;simp only[Zk,decide_eq_true_eq,aeE]at Vv;obtain⟨⟨⟨⟨⟨⟨rfl,rfl⟩,h3⟩,h4⟩,h5⟩,h6⟩,h7⟩:=Vv;refine cP (rg h4) λS To nd=>have hl:=To _ Zt;?_;have parts:∀cl C U s H ex,PG (ir X gZ cl C (oM X.N [n] fr) U s H ex) (.Name n q) (cJ 0)/\yL (ir X gZ cl C (oM X.N [n] fr) U s H ex) [] (tB X.K λ_=>some true)/\PE (ir X gZ cl C (oM X.N [n] fr) U s H ex) (.Dict [some ke] [ve] dp) (tD (tV X.K false (ev F false k)) (tV X.K false (ev F false v))):=λcl C U s H ex=>by
  have Mt:=hC.ct.inner gZ cl C (oM X.N [n] fr) U s H ex;refine⟨lB nd rfl (rf hl).1 (rf hl).2,BZ,E3 ?_ ((snd k).e _ Mt ke h6 false) ((snd v).e _ Mt ve h7 false)⟩;have:=Mt.units;exact rQ this aa1
 by_cases hs:swapsWith (.ListComp (.Dict [some ke] [ve] dp) [⟨.Name n q,iter,[],0⟩] gZ lp) (some (.Name a pa)) pos.line X.env=pure false
 .exact jY hC.nd h1 (gI h2) (wj ((snd it).i X hC.ct _ iter h5 true) S hC.ct.calm QQ parts (dG h3)) hs (.inl (hC.fn _))
 .have e0:=xC hs;exact mi ((snd it).i X hC.ct _ iter h5 true) S hC.ct.calm QQ parts (dG h3) hC.nd h1 e0.1 e0.2
def Lm(h1:cv G F c1)(h2:cv G F c2)(h3:cv G F c3):cv G F (.fst x fr it k v c1 y r f c2 m c3 p q u g w) where
 s:=λX hC st h=>ff h
 ss:=λX hC uE h=>by
  refine uG (KW h) λs1 s2 s3 s4 af o1 o2 oW oR=>?_;subst af;refine Qg (FR oW) λe2 sr s5 sI wp aK o3 o4 o5 oI=>?_;subst aK;refine Qg (FQ oI) λem s6 ss se ip c5 o6 o7 o8 o9=>?_;subst c5;refine eC (FU oR) λe1 rp oG Yd=>?_;subst oG;refine jU (bZ o3) λyn yq OJ y1 y2 y3 y4=>?_;subst OJ;refine jU (bZ o6) λmn mq OK m1 m2 m3 m4=>?_;subst OK;refine jU (bZ Yd) λxn xq Mr x1 x2 x3 x4=>?_;subst Mr;have Pr:∃n1,(∀ds d,F f ds=some d->ds.length=n1)/\PS X sr (ou (K' X.K n1 (F f) (cQ (de x) (cQ (F3 y) l9))) (cJ r)):=by
   refine lU (gY (st:=sr) o4) λxr pr e pos S7 hb=>?_;subst S7;replace o4:=hb;simp only[Zk,decide_eq_true_eq]at o4;obtain⟨n,g1,g2,g3,_⟩:=HV hC.ct o4.2 (tw:=F3 y) λw hw=>by
    refine D3 (CH hw) λyy q ap cp Kt n1 n2 n3 n4 n5=>?_;subst Kt;exact Cw (bM n1 n2 n3 n4) rfl n5
   exact⟨n,g1,jY hC.nd o4.1.1 (gI o4.1.2) g2 (nk g3) (.inl (hC.fn _))⟩
  refine aa Pr λn1 Pf Pr=>?_;have Ps:PS X ss (wo (G_ (Eo X.K) (de x) (tV X.K false (ev F false p))) (tV X.K false (ev F false q)) (tV X.K false (ev F false u))):=by
   obtain⟨e1,pe,qe,e,p1,p2,p3,rfl,Vw⟩:=Lk o8;simp only[Zk,adk]at Vw;obtain⟨⟨⟨⟨⟨⟨t1,t2⟩,t3⟩,t4⟩,t5⟩,t6⟩,t7⟩:=Vw;refine jU (bZ t1) λxx q' Ku n1 n2 n3 n4=>?_;subst Ku;exact wq (by have:=hC.ct.units;exact rQ this aa1) (Hh wa (bM n1 n2 n3 n4) ((snd p).e X hC.ct _ t2 false) (m_ t3)) ((snd q).e X hC.ct _ t4 false) ((snd u).e X hC.ct _ t6 false) (nk t7)
  have Pe:∃n2,(∀ds d,F g ds=some d->ds.length=n2)/\PS X se (vY (Qq X.K "list" (Bt X.K) (de y) (cQ (K' X.K n2 (F g) (cQ (de x) (cQ (tV X.K false (ev F false w)) l9))) l9))):=by
   obtain⟨e2,m,ap,v,cp,pos,rfl,Vx⟩:=Ll o9;simp only[Zk,decide_eq_true_eq]at Vx;obtain⟨⟨⟨⟨t1,rfl⟩,t3⟩,t4⟩,t5⟩:=Vx;refine jU (bZ t1) λyy q' Kv n1 n2 n3 n4=>?_;subst Kv;exact DK (HV hC.ct t5 (tw:=tV X.K false (ev F false w)) λwe hw=>(snd w).e X hC.ct we hw false) λn g1 g2 _ _=>⟨n,g1,lA (wd abB aen aeo Bu (bM n1 n2 n3 n4) (bX g2 df (bP t4)) rfl (by rw[bP t4];rfl) t3 (bP t4) rfl) rfl⟩
  exact aa Pe λn2 Pj Pe=>Pn hC.pass Pf Pj (Pq hC o1) (h1.s X hC s2 o2) (l7 (bM y1 y2 y3 y4) λ_=>rfl) Pr (h2.s X hC s5 o5) (l7 (bM m1 m2 m3 m4) λ_=>rfl) (h3.s X hC s6 o7) Ps Pe (bM x1 x2 x3 x4) eV
def TF(c:C):cv G F c:=by
 induction c with
 |skip=>exact F4
 |seq a b ha hb=>exact Lb ha hb
 |asg i e=>exact Lc
 |cU i e=>exact F5
 |jj i ix e=>exact F6
 |app i e=>exact Ld
 |ret e=>exact Le
 |ifs c t u ht hu=>exact Lf ht hu
 |«while» c b hb=>exact CD hb
 |«for» is tg it b hb=>exact Lh hb
 |u0 i t es=>exact F7
 |yO i k e=>exact F_
 |pop i j=>exact Lj
 |raise k=>exact CG
 |uZ is e=>exact F8
 |ext i e=>exact Li
 |expr e=>exact F9
 |mC i b hb=>exact zM hb
 |fst x fr it k v c1 y r f c2 m c3 p q u g w h1 h2 h3=>exact Lm h1 h2 h3
end
structure CI(K:aH)(mg:Str->Option Value)(G:GT)(x:Str)(d:Fd):Prop where
 ex:∃(st:Stmt) (fa:Addr) (fd:FuncData) (N ps:List Str),Hi K x x st fa fd/\gR N ps (aC st)/\Binds K fd ps []/\mg x=some (.ref fa)/\gg G d.body N (aC st) (bY st)=true/\ps.length=d.par/\N.length=d.j7
def CJ{K:aH}(hO:∀a,O a->∃u,H a=some u/\tQ u)(r:aq K O H vs ds)(h1:ds.length=d.par)(h2:N.length=d.j7):SX K H O (λ_=>False) [] [] (λ_=>none) (start N vs) H (av d ds):=by
 have hl:=r.length;have sub:∀a,Os O (λ_=>none) a->O a:=λa z=>z.elim id λ⟨_,z⟩=>nomatch z;have nm:∀(i:Nat) (o:Bool) (dd:D),(av d ds)[i]?=some (some (o,dd))->o=false/\ds[i]?=some dd:=λi o dd hi=>by
  unfold av at hi;by_cases aU:i<ds.length
  .rw[aao (by simpa using aU),Zz]at hi;refine aa (map_some hi) λy e1 e2=>?_;cases e2;exact⟨rfl,e1⟩
  .rw[aar (by simpa using aU),aer]at hi;split at hi<;>cases hi
 refine⟨⟨λa ha=>hO a (sub a ha),λi o dd hi=>?_⟩,λi dd hi=>?_,λi j a h _=>(nomatch h),λi a h=>(nomatch h),ae.refl _,.nil,λa ha=>let ⟨us,e,_⟩:=hO a ha;⟨_,e⟩,?_⟩
 .obtain⟨rfl,e⟩:=nm i o dd hi;refine aa (r.get e) λv e1 e2=>⟨v,?_,bx.weak e2 sub⟩;unfold L2.start;have aU:i<vs.length:=(ZJ.mp e1).1;rw[aao (by simpa using aU),Zz,e1];rfl
 .exact absurd (nm i true dd hi).1 aa1
 .unfold av L2.start;simp only[Zw,Zo,acn];lia
def xD(P:Program)(w:World)(K:aH)(mg:Str->Option Value)(base:Heap)(G:GT)(T:List Fd)(n:Nat):Prop:=
 ∀(f:Nat) (x:Str),G.1[f]?=some x->∃(fa:Addr) (fd:FuncData) (ps:List Str),i_ P w K mg base yJ n fa fd ps (xc K ps.length (run T n f))/\mg x=some (.ref fa)/\PySem.W.keepIn K (.ref fa)=true/\Binds K fd ps []/\∀ds d,run T n f ds=some d->ds.length=ps.length
section
variable {P:Program}{w:World}{K:aH}{mg:Str->Option Value}{base:Heap}{G:GT}{T:List Fd}
def ub(hT:T[f]?=some d)(z:run T (n+1) f ds=some r):ds.length=d.par/\out (ex (run T n) d.body (av d ds))=some r:=by
 unfold run at z;rw[hT]at z;dsimp only at z;split at z
 .rename_i q;exact⟨q,z⟩
 .cases z
def CK{st:Stmt}(hb:∀x∈iC,mg x=none)(sh:∀(x:Str) (i:Int),(x,i)∈G.2->∃t,mg x=some (.int i t))(ih:xD P w K mg base G T n)(F:Hi K x x st fa fd)(S:gR N ps (aC st))(hT:T[f]?=some d)
  (ok:gg G d.body N (aC st) (bY st)=true) (l1:ps.length=d.par) (l2:N.length=d.j7):i_ P w K mg base yJ (n+1) fa fd ps (xc K ps.length (run T (n+1) f)):=by
 refine F.ok S (λvs H Q E z=>?_) (λeQ A outer s H vs Q E hr z=>?_)
 .exact uz z λ_ _ _ _ _ _ q _=>q
 .refine uz z λO ds r hO hR OR hl k=>?_;obtain⟨q1,q2⟩:=ub hT OR;have TH:Cs (uN yJ P w K mg base N x (aC st) fa eQ A outer s H E).MZ G (run T n):=by
   refine⟨⟨rfl,hr.units,hb,sh,λg y hy=>?_⟩,λ_=>rfl,S.nd,PassesOwn.never⟩;exact uz (ih g y hy) λga gd Ye G1 G2 G3 G4 G5=>⟨n,ga,gd,Ye,G1,hr,G2,G3,G4,G5⟩
  cases eo:ex (run T n) d.body (av d ds)with
  |none=>rw[eo]at q2;cases q2
  |some o=>
   rw[eo]at q2;refine⟨tC K (ex (run T n) d.body),(TF d.body).ss _ TH _ ok,H,O,λ_=>False,[],[],λ_=>none,av d ds,o,CJ hO hR q1 l2,eo,?_⟩;cases o with
   |ret dd=>cases q2;exact k
   |next ρ'=>cases q2;exact λow σ H' Br=>k .cx H' Br.same .cx
   |brk _=>cases q2
   |cont _=>cases q2
def vG(P:Program)(w:World)(K:aH)(mg:Str->Option Value)(base:Heap)(G:GT)(T:List Fd)(f:Nat)(x:Str):Prop:=
 ∃(fa:Addr) (fd:FuncData) (ps:List Str),mg x=some (.ref fa)/\PySem.W.keepIn K (.ref fa)=true/\Binds K fd ps []/\(∀n ds d,run T n f ds=some d->ds.length=ps.length)/\
  ∀n,(∀m,m<=n->xD P w K mg base G T m)->i_ P w K mg base yJ (n+1) fa fd ps (xc K ps.length (run T (n+1) f))
def CI.step(hb:∀x∈iC,mg x=none)(sh:∀(x:Str) (i:Int),(x,i)∈G.2->∃t,mg x=some (.int i t))(hT:T[f]?=some d)(h:CI K mg G x d):vG P w K mg base G T f x:=by
 obtain⟨st,fa,fd,N,ps,F,S,B,m,ok,l1,l2⟩:=h;refine⟨fa,fd,ps,m,F.kp,B,λn ds r z=>?_,λn ih=>?_⟩
 .cases n with
  |zero=>exact nomatch z
  |succ n=>exact(ub hT z).1.trans l1.symm
 .exact CK hb sh (ih n (Zu _)) F S hT ok l1 l2
def F'(h:∀(f:Nat) (x:Str),G.1[f]?=some x->vG P w K mg base G T f x)(n:Nat):xD P w K mg base G T n:=by
 have all:∀n m:Nat,m<=n->xD P w K mg base G T m:=by
  intro n;induction n with
  |zero=>
   intro m hm f x hx;obtain rfl:m=0:=(Nat.eq_zero_of_le_zero hm);refine uz (h f x hx) λfa fd ps mm kp B l _=>?_;have no:∀vs H Q E,¬xc K ps.length (run T 0 f) vs H Q E:=λvs H Q E z=>by
    refine Qf z λ_ _ _ _ _ z _=>?_;cases z
   exact⟨fa,fd,ps,⟨λvs H Q E z=>absurd z (no vs H Q E),λA outer s H args us vs Q E _ _ _ _ z=>absurd z (no vs H Q E)⟩,mm,kp,B,λds d z=>nomatch z⟩
  |succ n ih=>
   intro m hm;by_cases he:m=n+1
   .subst he;intro f x hx;exact uz (h f x hx) λfa fd ps mm kp B l st=>⟨fa,fd,ps,st n ih,mm,kp,B,l (n+1)⟩
   .exact ih m (Z1 (abu hm he))
 exact all n n (Zu _)
end
def Ln{K:aH}(h:∀ns:List Int,ns.length<=m->run T n f [.lst (ns.map .int)]=some (.bl true))(H:Hp)(a:Addr)(ns:List Int)(hl:ns.length<=m)(hS:cZ K H a (ns.map V.int)):
  xc K 1 (run T n f) [.ref a] H (λv _=>v= .bl true) λ_ _ _=>False:=by
 refine⟨λ_=>False,[.lst (ns.map .int)],.bl true,λ_ z=>z.elim,.cons ?_ .nil,h ns hl,rfl,λv H' _ r=>r.vx⟩;rcases hS with hS|hS
 .exact .lst hS id (fm ns)
 .exact .mod hS (fm ns)
def Pu{l:PySem.W.OpenLaw}{K:Params->aH}(hn:l.most=some 63)(Nn:d.params.defaults=[])(Yf:n<=65)
  (hY:∀(w:World) (h:Heap),YP w h->(K w.params).In h)
  (F:∀(w:World) (mg:Str->Option Value) (fa:Addr) (h:Heap),(K w.params).In h->h.Ns mainGlobals mg->mg d.name=some (.ref fa)->
   ∃fd:FuncData,(∀(s:Shared) (u:Value),BindsTo s fd ⟨[u],[]⟩ [(x,u)])/\∀base:Heap,(K w.params).In base->base.Ns mainGlobals mg->i_ l.prog w (K w.params) mg base yJ n fa fd [x] (xc (K w.params) 1 (run T n f)))
  (hT:∀ns:List Int,ns.length<=63->run T n f [.lst (ns.map .int)]=some (.bl true)):
  PySem.W.WalkO q loose XP YP l.row.toRowW d [] (λf vs=>PySem.call f vs):=
 L2.Es (n:=63) (k:=n) (x:=x) (CX:=λ_=>yJ) (sp:=λw=>xc (K w.params) 1 (run T n f)) hn aa1 Nn (eK.mono (k:=65) ⟨rfl,by decide,by decide⟩ Yf) hY F (λw H a ns hl _ hS=>Ln hT H a ns hl hS) λ_ _ _ _ _ z=>z
def Pw(h:l.length=1):∃a,l=[a]:=by
 cases l with
 |nil=>cases h
 |cons a l=>cases l with
  |nil=>exact⟨a,rfl⟩
  |cons _ _=>cases h
def Px(h:l.length=2):∃a b,l=[a,b]:=by
 cases l with
 |nil=>cases h
 |cons a l=>
  obtain⟨b,rfl⟩:=Pw (aft h);exact⟨a,b,rfl⟩
def TJ(h:l.length=3):∃a b c,l=[a,b,c]:=by
 cases l with
 |nil=>cases h
 |cons a l=>
  refine D2 (Px (aft h)) λb c af=>?_;subst af;exact⟨a,b,c,rfl⟩
end Py
namespace Py
noncomputable abbrev vf(d:D):Option (Bool×D):=some (false,d)
noncomputable abbrev E.ci(i:Int):E:=.c (.int i)
noncomputable abbrev E.o(a:E):E:=.cons a .nil
noncomputable def gK:Fd:=⟨2,2,(.seq (.ifs (.cmp .Lt (.var 1) (.prim .len (.u 0))) (.seq (.ret (.idx aa_ (.var 1))) .skip) .skip) (.seq (.ret (.ci 0)) .skip))⟩
noncomputable def nv(g:Nat):Fd:=⟨2,3,(.seq (.asg 2 (.bin .Mod (.bin .Mult (.bin .Add (.bin .Add (.call g (.w 0 (.u 1))) (.bin .Mult (.ci 7919) (.var 1))) (.ci 1)) (.ci 48271)) (.ci 2147483647))) (.seq (.ret (.bin .Mod (.bin .Add (.bin .Add (.bin .Mult (.var 2) (.var 2)) (.bin .Mult (.ci 7) (.var 2))) (.var 1)) (.ci 2147483629))) .skip))⟩
noncomputable def hU:Fd:=⟨2,3,(.seq (.asg 2 (.bin .Mod (.bin .Mult (.bin .Add (.bin .Add aa_ (.bin .Mult (.ci 104729) (.var 1))) (.ci 17)) (.ci 69621)) (.ci 2147483647))) (.seq (.ret (.bin .Mod (.bin .Add (.bin .Add (.bin .Mult (.var 2) (.var 2)) (.bin .Mult (.ci 3) (.var 2))) (.var 1)) (.ci 2147483629))) .skip))⟩
noncomputable def fS(ns:List Int):D:= .lst (ns.map .int)
noncomputable def cell(ns:List Int)(k:Nat):Int:=ns[k]?.getD 0
noncomputable def Ga(c k:Int):Int:=(c+7919*k+1)*48271%2147483647
noncomputable def uF(ns:List Int)(k:Nat):Int:=(Ga (cell ns k) k*Ga (cell ns k) k+7*Ga (cell ns k) k+k)%2147483629
noncomputable def rq(a k:Int):Int:=(a+104729*k+17)*69621%2147483647
noncomputable def drawn(a k:Int):Int:=(rq a k*rq a k+3*rq a k+k)%2147483629
def CL(a k:Int):0<=drawn a k:=abh _ aa1
def bR(h:T[f]?=some d)(hl:xs.length=d.par):run T (n+1) f xs=out (ex (run T n) d.body (av d xs)):=by
 rw[run,h];exact ZD hl
def cw(h:ev F false e ρ=some d):ex F (.asg i e) ρ=some (.next (put ρ i false d)):=by
 rw[Sg,h];rfl
def ak(h1:dI F true es ρ=some xs)(h2:F f xs=some d)(h3:aI d=true):ev F b (.call f es) ρ=some d:=by
 rw[NB,h1];show(F f xs).bind _=_;rw[h2];show(if(qv ρ es&&!aI d)=true then none else some d)=_;rw[h3];rw[Bool.and_comm];rfl
section
variable {F:FT}{ρ:Env}{b:Bool}
def ny(h:ex F a ρ=some (.next ρ')):ex F (.seq a c) ρ=ex F c ρ':=by
 rw[u6,h];rfl
def HW(h:ex F a ρ=some (.ret d)):ex F (.seq a c) ρ=some (.ret d):=by
 rw[u6,h];rfl
def zN(h1:ev F true a ρ=some x)(h2:ev F true c ρ=some y):ev F b (.bin o a c) ρ=bin o x y:=by
 rw[Sa,h1,h2];rfl
def zO(h1:ev F true a ρ=some (.int i))(h2:ev F true c ρ=some (.int j))(hj:0<j):ev F b (.bin .Mod a c) ρ=some (.int (i%j)):=(zN h1 h2).trans (ZD hj)
def QY(h0:ev F true aa_ ρ=some (.int i))(h1:ev F true (.var 1) ρ=some (.int j))(hj:0<j)(hk:0<k/\k<1073741824):ev F b (.bin .Mod (.bin .FloorDiv aa_ (.ci k)) (.var 1)) ρ=some (.int (i/k%j)):=zO ((zN h0 (y:= .int k) rfl).trans (ZD hk)) h1 hj
def CM(h1:ev F true a ρ=some (.int i))(h2:ev F true c ρ=some (.int j)):ev F b (.bin .Add a c) ρ=some (.int (i+j)):=zN h1 h2
def HX(h1:ev F true a ρ=some (.int i))(h2:ev F true c ρ=some (.int j))(m:mz i j=true):ev F b (.bin .Mult a c) ρ=some (.int (i*j)):=(zN h1 h2).trans (ZD m)
def vH(h1:ev F true a ρ=some x)(h2:ev F true c ρ=some y)(h3:cmp o x y=some k):ev F b (.cmp o a c) ρ=some (.bl k):=by
 rw[JA,h1,h2];show(cmp o x y).map D.bl=_;rw[h3];rfl
def dA(h:ev F true e ρ=some d):out (ex F (.seq (.ret e) t) ρ)=some d:=by
 rw[u6,JG,h];rfl
def kD(h:k<n):place n k=some k:=(ZD (Z6 _)).trans (ZD (acv.mpr h))
def jM(h:ev F false e ρ=some (.lst xs)):ex F (.cU i e) ρ=some (.next (put ρ i true (.lst xs))):=by
 rw[JF,h];rfl
def xA(h:ev F false e ρ=some d)(k:ex F c (put ρ i false d)=r):ex F (.seq (.asg i e) c) ρ=r:=(ny (cw h)).trans k
def xB(h:ev F false e ρ=some (.lst xs))(k:ex F c (put ρ i true (.lst xs))=r):ex F (.seq (.cU i e) c) ρ=r:=(ny (jM h)).trans k
def xG(h:ex F a ρ=some (.next ρ'))(k:ex F c ρ'=r):ex F (.seq a c) ρ=r:=(ny h).trans k
def xN(h:ev F false e ρ=some (.bl false))(k:ex F c ρ=r):ex F (.seq (.ifs e t .skip) c) ρ=r:=xG (by rw[qy,h];rfl) k
def xY(h:ev F false e ρ=some (.bl true))(k:ex F t ρ=some (.next ρ'))(k':ex F c ρ'=r):ex F (.seq (.ifs e t u) c) ρ=r:=xG (by rw[qy,h];exact k) k'
def xZ(h:ev F false e ρ=some (.bl true))(k:ex F t ρ=some (.ret d)):ex F (.seq (.ifs e t u) c) ρ=some (.ret d):=HW (by rw[qy,h];exact k)
def xR(h:ev F true e ρ=some d):ex F (.seq (.ret e) c) ρ=some (.ret d):=HW (by rw[JG,h];rfl)
def xO(h:T[f]?=some fd)(hl:xs.length=fd.par)(k:ex (run T n) fd.body (av fd xs)=some (.ret d)):run T (n+1) f xs=some d:=by
 rw[bR h hl,k];rfl
def Vy(h:ev F false a ρ=some (.bl k)):ev F b (.not a) ρ=some (.bl !k):=by
 rw[NA,h];rfl
def Vz(h1:ev F true a ρ=some (.int i))(h2:ev F true c ρ=some (.int k))(hk:0<k/\k<1073741824):ev F b (.bin .FloorDiv a c) ρ=some (.int (i/k)):=(zN h1 h2).trans (ZD hk)
def Yg(h1:ev F true o ρ=some x)(h2:dI F true es ρ=some xs)(h3:eL m x xs=v):ev F b (.eL m o es) ρ=v:=by
 rw[Sb,h1,h2];exact h3
def Yh(h1:ev F true a ρ=some x)(h2:ev F false e ρ=some y)(h3:item x y=v):ev F b (.idx a e) ρ=v:=by
 rw[JD,h1,h2];exact h3
def Pz(h1:ev F true a ρ=some x)(h3:prim p [x]=v):ev F b (.prim p (.o a)) ρ=v:=by
 rw[Ez,lh,h1];exact h3
def Yi(h:ev F false a ρ=some x)(h2:ev F false c ρ=some y):ev F b (.tup (.cons a (.o c))) ρ=some (.tup [x,y]):=by
 rw[JC,lh,h,lh,h2];rfl
def VA(h1:fZ ρ i=some q)(h2:ev F false a ρ=some x)(h3:(dg q.1 x).bind (iw q.2.1 q.2.2)=v):ev F b (.mr i a) ρ=v:=by
 rw[Se,h1,h2];exact h3
def fE(h:ex F c (put ρ i false x)=some (.next ρ')):aN (λx ρ=>(ay 0 x).bind λys=>(cc ρ [i] ys).bind λρ'=>ex F c ρ') (x::r) ρ=aN (λx ρ=>(ay 0 x).bind λys=>(cc ρ [i] ys).bind λρ'=>ex F c ρ') r ρ':=by
 rw[aN];show(ex F c (put ρ i false x)).bind _=_;rw[h];rfl
def VB(h:ev F false a ρ=some d):ev F b (.tup (.o a)) ρ=some (.tup [d]):=by
 rw[JC,lh,h];rfl
def TK(h:ev F false a ρ=some (.bl !k)):ev F b (.uY k (.cons a r)) ρ=some (.bl !k):=by
 rw[JB,EA,h];cases k<;>rfl
def D0(h:ev F false a ρ=some (.bl k))(h2:ev F b (.uY k r) ρ=v):ev F b (.uY k (.cons a r)) ρ=v:=by
 rw[JB,EA,h];exact(congrArg (Option.map D.bl) (ZD rfl)).trans h2
end
def Gb(ns:List Int)(k:Nat):out (ex F gK.body (av gK [fS ns,.int k]))=some (.int (cell ns k)):=by
 have hl:(ns.map D.int).length =ns.length:=Zo ..;have t:ev F false (.cmp .Lt (.var 1) (.prim .len (.u 0))) (av gK [fS ns,.int k])=some (.bl (decide ((k:Int)<((ns.map D.int).length :Nat)))):=vH (x:= .int k) (y:= .int ((ns.map D.int).length :Nat)) rfl rfl rfl;rw[hl]at t;by_cases h:k<ns.length
 .rw[decide_eq_true (acv.mpr h)]at t;refine congrArg out (HW (d:= .int (cell ns k)) ?_);rw[qy,t];have i:ev F true (.idx aa_ (.var 1)) (av gK [fS ns,.int k])=some (.int (cell ns k)):=by
   show(place (ns.map D.int).length k).bind (λj=>(ns.map D.int)[j]?)=_;rw[kD (hl.symm▸h)];show(ns.map D.int)[k]?=_;rw[Zz,cell,Zj h];rfl
  show ex F (.seq (.ret _) .skip) _=_;rw[u6,JG,i];rfl
 .rw[decide_eq_false λz=>h (acv.mp z)]at t;refine(congrArg out (ny (ρ':=av gK [fS ns,.int k]) ?_)).trans ?_
  .rw[qy,t];rfl
  .rw[cell,ZR (ZZ h)];rfl
def lO(i:Int)(h1: -(2 ^ 64)<j)(h2:j<2 ^ 64):mz i j=true:=aff.mpr (.inr (aaU.mpr ⟨decide_eq_true h1,decide_eq_true h2⟩))
def lP(j:Int)(h1: -(2 ^ 64)<i)(h2:i<2 ^ 64):mz i j=true:=aff.mpr (.inl (aaU.mpr ⟨decide_eq_true h1,decide_eq_true h2⟩))
def HY(hm:0<m/\m<2 ^ 64):mz (n%m) (n%m)=true:=lO _ (Int.lt_of_lt_of_le aa1 (abh _ (adp hm.1))) (Int.lt_trans (abi _ hm.1) hm.2)
def Lo(ns:List Int)(k:Nat)(hk:k<1000)(hF:F g [fS ns,.int k]=some (.int (cell ns k))):out (ex F (nv g).body (av (nv g) [fS ns,.int k]))=some (.int (uF ns k)):=by
 have c1:ev F true (.call g (.w 0 (.u 1))) (av (nv g) [fS ns,.int k])=some (.int (cell ns k)):=ak (xs:=[fS ns,.int k]) rfl hF rfl;have a2:ev F false (.bin .Mod (.bin .Mult (.bin .Add (.bin .Add (.call g (.w 0 (.u 1))) (.bin .Mult (.ci 7919) (.var 1))) (.ci 1)) (.ci 48271)) (.ci 2147483647)) (av (nv g) [fS ns,.int k])=some (.int (Ga (cell ns k) k)):=
  zO (HX (CM (CM c1 (HX rfl rfl (lP _ aa1 aa1))) rfl) rfl (lO _ aa1 aa1)) rfl aa1
 exact(congrArg out (ny (cw a2))).trans (dA (zO (CM (CM (HX rfl rfl (HY aa1)) (HX rfl rfl (lP _ aa1 aa1))) rfl) rfl aa1))
def CN(a k:Int):out (ex F hU.body (av hU [.int a,.int k]))=some (.int (drawn a k)):=by
 have a2:ev F false (.bin .Mod (.bin .Mult (.bin .Add (.bin .Add aa_ (.bin .Mult (.ci 104729) (.var 1))) (.ci 17)) (.ci 69621)) (.ci 2147483647)) (av hU [.int a,.int k])=some (.int (rq a k)):=
  zO (HX (CM (CM rfl (HX rfl rfl (lP _ aa1 aa1))) rfl) rfl (lO _ aa1 aa1)) rfl aa1
 exact(congrArg out (ny (cw a2))).trans (dA (zO (CM (CM (HX rfl rfl (HY aa1)) (HX rfl rfl (lP _ aa1 aa1))) rfl) rfl aa1))
noncomputable def perms:Nat->List aa2
 |0=>[[]]
 |n+1=>(perms n).flatMap λp=>(List.range (n+1)).map λk=>p.take k++(n:Int)::p.drop k
def pX(h:p∈perms n)(hk:k<=n):p.take k++(n:Int)::p.drop k∈perms (n+1):=
 aaO.mpr ⟨p,h,Zv.mpr ⟨k,Z9.mpr (aaq hk),rfl⟩⟩
theorem aD:∀{n:Nat}{p:List Int},p∈perms n->p.length=n
 |0,p,h=>by
  cases Zp.mp h;rfl
 |n+1,p,h=>by
  refine aa (aaO.mp h) λq hq h=>aa (Zv.mp h) λk hk af=>?_;subst af;have:=aD hq;have vn:=Z9.mp hk;rw[Zw,aaM,ZM,acb];exact MG this vn
noncomputable def tp(p:List Int):D:= .tup (p.map .int)
def vI{xs:List D}:∀{p:List Int},aO xs=some p->xs=p.map .int :=by
 induction xs with
 |nil=>intro p h;cases h;rfl
 |cons x r ih=>
  intro p h;cases x with
  |int i=>
   have h:(aO r).map (i:: ·)=some p:=h;cases e:aO r with
   |none=>rw[e]at h;cases h
   |some q=>
    rw[e]at h;cases h;rw[ih e];rfl
  |_=>cases h
noncomputable def Lp(n:Nat):Option D->Bool
 |some (.tup xs)=>match aO xs with
  |some p=>(perms n).contains p
  |none=>false
 |_=>false
def xE(h:Lp n o=true):∃p∈perms n,o=some (tp p):=by
 cases o with
 |none=>cases h
 |some d=>cases d with
  |tup xs=>
   cases e:aO xs with
   |none=>
    have h:(match aO xs with|some p=>(perms n).contains p|none=>false)=true:=h;rw[e]at h;cases h
   |some p=>
    have h:(match aO xs with|some p=>(perms n).contains p|none=>false)=true:=h;rw[e]at h;exact⟨p,List.contains_iff_mem.mp h,by rw[vI e];rfl⟩
  |_=>cases h
noncomputable def CO:C:=(.seq (.jj 2 (.var 3) (.var 4)) (.seq (.jj 2 (.var 4) (.var 3)) (.seq (.ret (.prim .tuple (.u 2))) .skip)))
noncomputable def Lq:C:=(.seq (.for [7] 0 (.gi (.u 5)) (.seq (.jj 2 (.bin .Mod (.bin .Add (.var 6) (.var 7)) (.var 1)) (.bin .Mod (.bin .Add (.var 6) (.bin .Mod (.bin .Add (.var 7) (.ci 1)) (.var 5))) (.var 1))) .skip)) (.seq (.ret (.prim .tuple (.u 2))) .skip))
noncomputable def Gd(g:Nat):C:=(.seq (.asg 9 (.bin .Mod (.call g (.w 0 (.u 7))) (.bin .Add (.prim .len (.u 8)) (.ci 1)))) (.seq (.cU 8 (.bin .Add (.bin .Add (.sl (.var 8) .nil (.u 9)) (.lst (.u 7))) (.sl (.var 8) (.u 9) .nil))) .skip))
noncomputable def kE(g:Nat):Fd:=⟨2,10,(.seq (.cU 2 (.rM .list (.u 1))) (.seq (.ifs (.cmp .Eq (.bin .Mod aa_ (.ci 3)) (.ci 0)) (.seq (.asg 3 (.bin .Mod (.bin .FloorDiv aa_ (.ci 3)) (.var 1))) (.seq (.asg 4 (.bin .Mod (.bin .FloorDiv aa_ (.ci 18)) (.var 1))) CO)) .skip)
 (.seq (.ifs (.cmp .Eq (.bin .Mod aa_ (.ci 3)) (.ci 1)) (.seq (.asg 5 (.bin .Add (.ci 1) (.bin .Mod (.bin .FloorDiv aa_ (.ci 3)) (.var 1)))) (.seq (.asg 6 (.bin .Mod (.bin .FloorDiv aa_ (.ci 18)) (.var 1))) Lq)) .skip)
 (.seq (.cU 8 (.lst .nil)) (.seq (.for [7] 0 (.gi (.u 1)) (Gd g)) (.seq (.ret (.prim .tuple (.u 8))) .skip))))))⟩
noncomputable abbrev vi(i:Int):Option (Bool×D):=vf (.int i)
noncomputable abbrev vo(xs:List D):Option (Bool×D):=some (true,.lst xs)
noncomputable def xF(a:Int)(s o1 o2:Nat):Env:=[vi a,vi s,vo (bS 0 s),vi o1,vi o2,none,none,none,none,none]
noncomputable def CP(a:Int)(s m o:Nat):Env:=[vi a,vi s,vo (bS 0 s),none,none,vi m,vi o,none,none,none]
set_option maxHeartbeats 0 in
def CQ(F:FT)(a:Int):(List.range 6).all (λs=>(List.range (s+1)).all λo1=>(List.range (s+1)).all λo2=>Lp (s+1) (out (ex F CO (xF a (s+1) o1 o2))))=true:=by kernel_rfl
set_option maxHeartbeats 0 in
def Ge(F:FT)(a:Int):(List.range 6).all (λs=>(List.range (s+1)).all λm=>(List.range (s+1)).all λo=>Lp (s+1) (out (ex F Lq (CP a (s+1) (m+1) o))))=true:=by kernel_rfl
def all_range(h:(List.range n).all f=true){k:Nat}(hk:k<n):f k=true:=aas.mp h k (Z9.mpr hk)
def Gf(F:FT)(a:Int)(h0:1<=s)(h6:s<=6)(h1:o1<s)(h2:o2<s):∃p∈perms s,out (ex F CO (xF a s o1 o2))=some (tp p):=by
 obtain⟨t,rfl⟩:∃t,s=t+1:=⟨s-1,(aad (ach h0))⟩;exact xE (all_range (all_range (all_range (CQ F a) (k:=t) (h6)) h1) h2)
def Lr(F:FT)(a:Int)(h0:1<=s)(h6:s<=6)(h1:m<s)(h2:o<s):∃p∈perms s,out (ex F Lq (CP a s (m+1) o))=some (tp p):=by
 obtain⟨t,rfl⟩:∃t,s=t+1:=⟨s-1,(aad (ach h0))⟩;exact xE (all_range (all_range (all_range (Ge F a) (k:=t) (h6)) h1) h2)
def CS(h:out o=some (tp p)):o=some (.ret (tp p)):=by
 cases o with
 |none=>cases h
 |some o=>cases o<;>cases h;rfl
noncomputable def gL(a s:Int)(x2:Option (Bool×D))(made:List Int)(x7 x9:Option (Bool×D)):Env:=[vi a,vi s,x2,none,none,none,none,x7,vo (made.map .int),x9]
def uc(xs:List D)(k:Nat)(h:k<=xs.length):sA xs none (some (k:Int))=xs.take k:=by
 unfold sA bound;simp only[ace,afs];congr 1;rw[ZL (abk (Z6 _))];exact MH h
def ud(xs:List D)(k:Nat)(h:k<=xs.length):sA xs (some (k:Int)) none=xs.drop k:=by
 unfold sA bound;simp only;have e:(if(k:Int)<0 then max ((k:Int)+(xs.length:Int)) 0 else min (k:Int) (xs.length:Int)).toNat =k:=by
  rw[ZL (abk (Z6 _))];exact MH h
 rw[e,aau aa9]
def CT(hF:F g [.int a,.int k]=some (.int y))(hm:made∈perms k)(hk:k<=1000):
  ∃at'≤k,ex F (Gd g) (put (gL a s x2 made x7 x9) 7 false (.int k))=some (.next (gL a s x2 (made.take at'++(k:Int)::made.drop at') (vi k) (vi at'))):=by
 have zB:bV=16777216:=rfl;have hl:=aD hm;have qd:(made.map D.int).length =k:=(Zo ..).trans hl;have CF:(0:Int)<(k:Int)+1:=Int.add_le_add (Z6 _) aa1;obtain⟨t,ht⟩:=acY (abh y (adp CF));have TM:t<=k:=Z1 (acv.mp (ht▸abi y CF));refine⟨t,TM,?_⟩
 let M:List D:=made.map .int
 let VC:Env:=[vi a,vi s,x2,none,none,none,none,vi k,vo M,x9]
 let Mw:Env:=[vi a,vi s,x2,none,none,none,none,vi k,vo M,vi t]
 have a9:ev F false (.bin .Mod (.call g (.w 0 (.u 7))) (.bin .Add (.prim .len (.u 8)) (.ci 1))) VC=some (.int t):=by
  have l1:ev F true (.bin .Add (.prim .len (.u 8)) (.ci 1)) VC=some (.int ((k:Int)+1)):=(zN (x:= .int M.length) (y:= .int 1) rfl rfl).trans (congrArg (λn:Nat=>some (D.int ((n:Int)+1))) qd);rw[zO (ak (xs:=[.int a,.int k]) rfl hF rfl) l1 CF,ht]
 have c1:ev F true (.sl (.var 8) .nil (.u 9)) Mw=some (.lst (M.take t)):=congrArg (λz=>some (D.lst z)) (uc M t (qd.symm▸TM));have c2:ev F true (.sl (.var 8) (.u 9) .nil) Mw=some (.lst (M.drop t)):=congrArg (λz=>some (D.lst z)) (ud M t (qd.symm▸TM));have z1:(M.take t).length+1<=k+1:=abx (Zr (aeX t M) (Zy qd));have b1:ev F true (.bin .Add (.sl (.var 8) .nil (.u 9)) (.lst (.u 7))) Mw=some (.lst (M.take t++[.int k])):=(zN c1 (y:= .lst [.int k]) rfl).trans (ZD (Zr z1 (Zr (abx hk) aa1)));have b2:ev F false (.bin .Add (.bin .Add (.sl (.var 8) .nil (.u 9)) (.lst (.u 7))) (.sl (.var 8) (.u 9) .nil)) Mw=some (.lst (M.take t++[.int k]++M.drop t)):=(zN b1 c2).trans (ZD (by
  rw[Zw];exact Zr (adn z1 (Zr (aaF t M).length_le (Zy qd))) (Zr (adn (abx hk) hk) aa1)))
 have e:gL a s x2 (made.take t++(k:Int)::made.drop t) (vi k) (vi t)=put Mw 8 true (.lst (M.take t++[.int k]++M.drop t)):=by
  show _=[vi a,vi s,x2,none,none,none,none,vi k,vo _,vi t];rw[gL,Z3,ZS,acz,afo,ZW];rfl
 rw[e];exact(ny (ρ':=Mw) (cw a9)).trans (ny (jM b2))
theorem ue(hF:∀k:Nat,∃y,F g [.int a,.int k]=some (.int y)):
  ∀(m k:Nat) (made:List Int) (x7 x9:Option (Bool×D)),made∈perms k->k+m<=1000->∃p∈perms (k+m),∃TN TQ,aN (λx ρ=>(ay 0 x).bind λys=>(cc ρ [7] ys).bind λρ'=>ex F (Gd g) ρ') (bS k m) (gL a s x2 made x7 x9)=some (.next (gL a s x2 p TN TQ))
 |0,k,made,x7,x9,hm,_=>⟨made,hm,x7,x9,rfl⟩
 |m+1,k,made,x7,x9,hm,hk=>by
  obtain⟨y,hy⟩:=hF k;refine aa (CT (s:=s) (x2:=x2) (x7:=x7) (x9:=x9) hy hm (Zr (aai _ _) hk)) λt ht e=>?_;obtain⟨p,hp,TN,TQ,e2⟩:=ue (s:=s) (x2:=x2) hF m (k+1) _ (vi k) (vi t) (pX hm ht) (by lia);refine⟨p,by rw[show k+(m+1)=k+1+m by exact aad (Z_ _ _ _)];exact hp,TN,TQ,?_⟩;rw[bS,aN];show(ex F (Gd g) (put (gL a s x2 made x7 x9) 7 false (.int k))).bind _=_;rw[e];exact e2
def Gg(ha:0<=a)(h1:1<=s)(h6:s<=6)(hF:∀k:Nat,∃y,F g [.int a,.int k]=some (.int y)):∃p∈perms s,out (ex F (kE g).body (av (kE g) [.int a,.int s]))=some (tp p):=by
 have hr:dj [.int s]=some (bS 0 s):=by
  show(if -(2 ^ 62)<=(s:Int)/\(s:Int)<=bV then some (bS 0 (s:Int).toNat) else none)=_;exact ZD ⟨Z6 _,Int.ofNat_le.mpr (Zr h6 aa1)⟩
 have HZ:(0:Int)<s:=acv.mpr h1;obtain⟨o1,e1⟩:=acY (abh (a/3) (adp HZ));obtain⟨o2,e2⟩:=acY (abh (a/18) (adp HZ));have q1:o1<s:=acv.mp (e1▸abi (a/3) HZ);have q2:o2<s:=acv.mp (e2▸abi (a/18) HZ)
 let DY:Env:=[vi a,vi s,vo (bS 0 s),none,none,none,none,none,none,none]
 have s2:ex F (.cU 2 (.rM .list (.u 1))) (av (kE g) [.int a,.int s])=some (.next DY):=by
  rw[JF,ND];show((dj [.int s]).bind (qx .list)).bind _=_;rw[hr];rfl
 have t2:∀c:Int,ev F false (.cmp .Eq (.bin .Mod aa_ (.ci 3)) (.ci c)) DY=some (.bl (a%3==c)):=λc=>by
  rw[JA,zO (i:=a) (j:=3) rfl rfl aa1];rfl
 have go:∀{p:List Int}{c:Int}{t w:C},a%3=c->ex F t DY=some (.ret (tp p))->ex F (.seq (.ifs (.cmp .Eq (.bin .Mod aa_ (.ci 3)) (.ci c)) t .skip) w) DY=some (.ret (tp p)):=λ{p c t w} e h=>by
  refine HW ?_;rw[qy,t2,beq_iff_eq.mpr e];exact h
 have no:∀{c:Int}{t w:C},¬a%3=c->ex F (.seq (.ifs (.cmp .Eq (.bin .Mod aa_ (.ci 3)) (.ci c)) t .skip) w) DY=ex F w DY:=λ{c t w} e=>by
  refine ny ?_;rw[qy,t2,beq_eq_false_iff_ne.mpr e];rfl
 by_cases c0:a%3=0
 .refine aa (Gf F a h1 h6 (o1:=o1) (o2:=o2) q1 q2) λp hp e=>⟨p,hp,congrArg out ((ny s2).trans (go c0 ?_))⟩;exact(ny (cw ((QY rfl rfl HZ aa1).trans (congrArg (λz=>some (D.int z)) e1)))).trans ((ny (cw ((QY rfl rfl HZ aa1).trans (congrArg (λz=>some (D.int z)) e2)))).trans (CS e))
 .by_cases c1:a%3=1
  .refine aa (Lr F a h1 h6 (m:=o1) (o:=o2) q1 q2) λp hp e=>⟨p,hp,congrArg out ((ny s2).trans ((no c0).trans (go c1 ?_)))⟩;refine(ny (cw (d:= .int ((o1+1:Nat):Int)) ?_)).trans ((ny (cw ((QY rfl rfl HZ aa1).trans (congrArg (λz=>some (D.int z)) e2)))).trans (CS e));exact(zN (x:= .int 1) rfl ((QY rfl rfl HZ aa1).trans (congrArg (λz=>some (D.int z)) e1))).trans (congrArg (λz=>some (D.int z)) (Int.add_comm 1 (o1:Int)))
  .obtain⟨p,hp,x7,x9,e⟩:=ue (a:=a) (s:=s) (x2:=vo (bS 0 s)) hF s 0 [] none none (Zp.mpr rfl) (Zr (Zy (aav s)) (Zr h6 aa1));rw[aav]at hp;refine⟨p,hp,congrArg out ((ny s2).trans ((no c0).trans ((no c1).trans ((ny (jM (xs:=[]) rfl)).trans ((ny (ρ':=gL a s (vo (bS 0 s)) p x7 x9) ?_).trans (HW ?_))))))⟩
   .rw[NG];show(dj [.int s]).bind _=_;rw[hr];exact e
   .rfl
theorem rA:∀(n:Nat) (p:List Int),p.Nodup->(∀x∈p,0<=x/\x<n)->p.length<=n
 |0,p,_,h=>by
  cases p with
  |nil=>exact Zu _
  |cons x r=>have:=h x Zt;exact absurd this.2 (abk this.1)
 |n+1,p,nd,h=>by
  have h1:(p.erase (n:Int)).length <=n:=rA n _ (nd.sublist List.erase_sublist) λx hx=>by
   have h2:=h x (List.mem_of_mem_erase hx);have h3:x≠n:=λe=>by
    subst e;exact(List.Nodup.mem_erase_iff nd).mp hx |>.1 rfl
   exact Ip (And.intro h2.1 h2.2) h3
  by_cases hm:(n:Int)∈p
  .rw[acM hm]at h1;exact Wc (aaq h1)
  .rw[List.erase_of_not_mem hm]at h1;exact ael h1
theorem az:∀{n:Nat}{p:List Int},p∈perms n↔p.length=n/\p.Nodup/\∀x∈p,0<=x/\x<n
 |0,p=>by
  simp only[perms,Zp];constructor
  .rintro rfl;exact⟨rfl,adl,λx h=>nomatch h⟩
  .rintro⟨h,_⟩;exact aev.mp h
 |n+1,p=>by
  constructor
  .intro h;refine aa (aaO.mp h) λq hq h=>aa (Zv.mp h) λk hk af=>?_;subst af;refine cP (az.mp hq) λl nd bd=>?_;have vn:=Z9.mp hk;have QZ:(q.take k++q.drop k).Nodup :=by rw[aaL];exact nd
   have hn:(n:Int)∉q:=λz=>by have:=bd _ z;exact abk (acI this.2) this.2
   have nt:(n:Int)∉q.take k:=λz=>hn (aaA z);have Yj:(n:Int)∉q.drop k:=λz=>hn (abz z);refine⟨by simp;exact MG l vn,?_,λx hx=>?_⟩
   .rw[aaS]at QZ⊢;refine⟨QZ.1,Z8.mpr ⟨Yj,QZ.2.1⟩,λa ha b hb=>?_⟩;rcases ZC.mp hb with rfl|hb
    .exact λe=>nt (e▸ha)
    .exact QZ.2.2 a ha b hb
   .rcases ZI.mp hx with z|z
    .have:=bd x (aaA z);exact And.intro this.1 (abM (acI this.2) (aew _))
    .rcases ZC.mp z with rfl|z
     .exact And.intro (Z6 _) (aew _)
     .have:=bd x (abz z);exact And.intro this.1 (abM (acI this.2) (aew _))
  .rintro⟨l,nd,bd⟩;have hm:(n:Int)∈p:=by
    by_cases hm:(n:Int)∈p
    .exact hm
    .have:=rA n p nd λx hx=>by
      have h2:=bd x hx;have h3:x≠n:=λe=>hm (e▸hx);exact Ip (And.intro h2.1 h2.2) h3
     exact absurd l (ZT (aaq this))
   refine D2 (List.append_of_mem hm) λu v aK=>?_;subst aK;rw[aaS,Z8]at nd;have hq:u++v∈perms n:=by
    refine az.mpr ⟨by simp at l⊢;exact aft l,?_,λx hx=>?_⟩
    .rw[aaS];exact⟨nd.1,nd.2.1.2,λa ha b hb=>nd.2.2 a ha b (Zm _ hb)⟩
    .have Br:x∈u++(n:Int)::v:=by
      rcases ZI.mp hx with z|z
      .exact ZO _ z
      .exact ZH _ (Zm _ z)
     have h2:=bd x Br;have h3:x≠n:=λe=>by
      subst e;rcases ZI.mp hx with z|z
      .exact nd.2.2 _ z _ Zt rfl
      .exact nd.2.1.1 z
     exact Ip (And.intro h2.1 h2.2) h3
   have:=pX hq (k:=u.length) (by simp at l;exact DL (aeV l) (aai _ _));rw[List.take_left,List.drop_left]at this;exact this
noncomputable def comp(p q:List Int):List Int:=p.map λi=>q.getD i.toNat 0
def getD_mem{q:List Int}(h:k<q.length):q.getD k 0∈q:=by
 rw[Zx,Zj h];exact abv h
def cG{n:Nat}(hp:p∈perms n)(hq:q∈perms n):comp p q∈perms n:=by
 refine cP (az.mp hp) λlp np bp=>cP (az.mp hq) λlq nq bq=>az.mpr ⟨by simp[comp,lp],?_,λx hx=>?_⟩
 .unfold comp;rw[Z7]at np⊢;rw[aal];refine np.imp_of_mem λ{a b} ha hb lI e=>lI ?_;have h1:=bp a ha;have h2:=bp b hb;have l1:a.toNat<q.length:=(DL (aad lq) (Io h1.1 h1.2));have l2:b.toNat<q.length:=(DL (aad lq) (Io h2.1 h2.2));rw[Zx,Zx,Zj l1,Zj l2]at e;have e':q[a.toNat]=q[b.toNat]:=e;have:=(List.getElem?_inj (j:=b.toNat) l1 nq).mp (by rw[Zj l1,Zj l2,e']);exact Uw h1.1 h2.1 this
 .refine aa (Zv.mp hx) λi hi af=>?_;subst af;have h1:=bp i hi;exact bq _ (getD_mem (DL (aad lq) (Io h1.1 h1.2)))
def iX(hp:p∈perms n)(hq:q∈perms n):comp (comp p q) r=comp p (comp q r):=by
 refine cP (az.mp hp) λlp np bp=>cP (az.mp hq) λlq nq bq=>?_;unfold comp;rw[Z5];refine abH λi hi=>?_;have h1:=bp i hi;have l1:i.toNat<q.length:=(DL (aad lq) (Io h1.1 h1.2));show r.getD (q.getD i.toNat 0).toNat 0=_;rw[Zx (l:=List.map _ q),Zz,Zx (l:=q),Zj l1];rfl
noncomputable def inv:List Int->Nat
 |[]=>0
 |x::r=>(r.filter λy=>decide (y<x)).length+inv r
noncomputable def odd(p:List Int):Bool:=inv p%2==1
noncomputable def bW(n:Nat):List Int:=(List.range n).map λ(k:Nat)=>Int.ofNat k
def jN(hp:p∈perms n):comp p (bW n)=p:=by
 refine cP (az.mp hp) λlp np bp=>?_;unfold comp;rw[abH (g:=id),afg];intro i hi;have h1:=bp i hi;have l1:i.toNat<n:=(Io h1.1 h1.2);simp[bW,Zz,abq l1];lia
theorem fF(h:α->D)(g:α->D)(f:D->Option (Option D)):∀xs:List α,(∀x∈xs,f (h x)=some (some (g x)))->walk f (xs.map h)=some (xs.map g)
 |[],_=>rfl
 |x::r,e=>by
  rw[ZS,walk,e x Zt];show(walk f (r.map h)).map _=_;rw[fF h g f r λy hy=>e y (Zm _ hy)];rfl
noncomputable def eI:Fd:=⟨2,2,(.seq (.ret (.prim .tuple (.o (.comp [1] 0 (.it aa_) .nil (.idx (.var 1) aa_))))) .skip)⟩
def xH(h0:0<=i)(h1:i<q.length):item (tp q) (.int i)=some (.int (q.getD i.toNat 0)):=by
 show(place (q.map D.int).length i).bind _=_;unfold place;rw[ZD h0,ZD (by rw[Zo];exact h1)];show(q.map D.int)[i.toNat]?=_;rw[Zz,Zx,Zj (Io h0 h1)];rfl
def uf(hn:n<=1000)(hp:p∈perms n)(hq:q∈perms n):out (ex F eI.body (av eI [tp p,tp q]))=some (tp (comp p q)):=by
 refine cP (az.mp hp) λlp np bp=>cP (az.mp hq) λlq nq bq=>?_;have w:=fF (α:=Int) D.int (λi=> .int (q.getD i.toNat 0)) (λx=>(ay 0 x).bind λys=>(j6 F true .nil (inner ys [vf (tp p),vf (tp q)] [1])).bind λk=>if k then(ev F false (.idx (.var 1) aa_) (inner ys [vf (tp p),vf (tp q)] [1])).map some else some none) p (λx hx=>by
  have h1:=bp x hx;show(item (tp q) (.int x)).map some=_;rw[xH h1.1 (acK h1.2 (Int.le_of_eq (congrArg _ (aad lq))))];rfl)
 have hl:(p.map D.int).length <=bV:=by rw[Zo,lp];unfold bV;exact Zr hn aa1
 have e:ev F true (.comp [1] 0 (.it aa_) .nil (.idx (.var 1) aa_)) [vf (tp p),vf (tp q)]=some (.lst ((comp p q).map .int)):=by
  show(if(p.map D.int).length <=bV then _ else _)=_;rw[ZD hl];show(walk _ (p.map D.int)).map D.lst=_;rw[w];simp[comp]<;>rfl
 show out ((((ev F true (.comp [1] 0 (.it aa_) .nil (.idx (.var 1) aa_)) [vf (tp p),vf (tp q)]).bind _).bind _ |>.map _).bind _)=_;rw[e];rfl
theorem ug:∀a b:List Int,Ad (a.map .int) (b.map .int)=decide (a=b)
 |[],[]=>rfl
 |[],_::_=>rfl
 |_::_,[]=>rfl
 |x::a,y::b=>by
  show(mj (.int x) (.int y)&&Ad (a.map .int) (b.map .int))=_;rw[ug a b];show((x==y)&&decide (a=b))=_;by_cases h1:x=y
  .subst h1;simp
  .simp[h1]
def vJ(a b:List Int):mj (tp a) (tp b)=decide (a=b):=ug a b
def vK(a:List Int)(n:Nat):fK (tp a) (n+1)=true:=j5 n a
def nA(a:List Int):fK (tp a) 60=true:=vK a 59
def PB(a b:List Int):cmp .Eq (tp a) (tp b)=some (decide (a=b)):=by
 show(if fK (tp a) 60&&fK (tp b) 60 then some (mj (tp a) (tp b)) else none)=_;rw[nA,nA,vJ];rfl
theorem uh:∀(n k:Nat),bS (k:Int) n=(List.range' k n).map λ(j:Nat)=>D.int (j:Int)
 |0,k=>rfl
 |n+1,k=>by
  rw[bS,adA,ZS];have e:(k:Int)+1=((k+1:Nat):Int):=by push_cast;rfl
  rw[e,uh n (k+1)]
def dX(n:Nat):bS 0 n=(bW n).map .int :=by
 have:=uh n 0;rw[show((0:Nat):Int)=0 from rfl]at this;rw[this,bW,Z5,acD];rfl
def cL{n:Nat}(h:n<=1000):dj [.int n]=some (bS 0 n):=by
 show(if -(2 ^ 62)<=(n:Int)/\(n:Int)<=bV then some (bS 0 (n:Int).toNat) else none)=_;rw[ZD ⟨(Z6 _),by unfold bV;lia⟩];rfl
noncomputable def jO:Fd:=⟨1,1,(.seq (.ret (.rM .tuple (.u 0))) .skip)⟩
def CU{n:Nat}(h:n<=1000):out (ex F jO.body (av jO [.int n]))=some (tp (bW n)):=by
 refine dA ?_;rw[ND];show(dj [.int n]).bind (qx .tuple)=_;rw[cL h];show some (D.tup (bS 0 n))=_;rw[dX];rfl
def dY(n:Nat):bW n∈perms n:=by
 refine az.mpr ⟨by simp[bW],?_,λx hx=>?_⟩
 .unfold bW;rw[Z7,aal];exact(Z7.mp aeC).imp λ{a b} h e=>h (aca e)
 .refine aa (Zv.mp hx) λk hk af=>?_;subst af;have:=Z9.mp hk;exact⟨Z6 k,by show(k:Int)<n;lia⟩
def nB(hp:p∈perms n):comp (bW n) p=p:=by
 refine cP (az.mp hp) λlp np bp=>?_;apply aaG;intro i;unfold comp bW;rw[Z5,Zz];by_cases hi:i<n
 .rw[abq hi];show some (p.getD i 0)=_;rw[Zx,Zj (Zn hi (Zy (aad lp)))];rfl
 .rw[ZR (by simp;exact ZZ hi),ZR (Zr (Zy lp) (ZZ hi))];rfl
def zP(hp:p∈perms n){k:Int}(h0:0<=k)(h1:k<n):k∈p:=by
 refine cP (az.mp hp) λlp np bp=>?_;by_cases hm:k∈p
 .exact hm
 .have:=rA n (k::p) (Z8.mpr ⟨hm,np⟩) λx hx=>by
   rcases ZC.mp hx with rfl|hx
   .exact⟨h0,h1⟩
   .exact bp x hx
  rw[ZM]at this;exact absurd lp (ZT this)
theorem nC:∀{p:List Int},k∈p->∃j,cz k p=some j
 |[],h=>nomatch h
 |n::r,h=>by
  unfold cz;by_cases e:n=k
  .exact⟨0,ZD e⟩
  .rw[ZL e];obtain⟨j,hj⟩:=nC (List.mem_of_ne_of_mem (aay e) h);exact⟨j+1,by rw[hj];rfl⟩
theorem jP:∀{p:List Int}{j:Nat},cz k p=some j->p[j]?=some k
 |[],_,h=>by cases h
 |n::r,j,h=>by
  unfold cz at h;split at h
  .rename_i e;cases h;subst e;rfl
  .cases e:cz k r with
   |none=>rw[e]at h;cases h
   |some i=>rw[e]at h;cases h;simpa using jP e
theorem rB:∀{p:List Int}{j:Nat}{k:Int},p.Nodup->p[j]?=some k->cz k p=some j
 |[],_,_,_,h=>by simp at h
 |n::r,0,k,_,h=>by
  simp at h;unfold cz;rw[ZD h]
 |n::r,j+1,k,nd,h=>by
  have h':r[j]?=some k:=by simpa using h
  have hn:n≠k:=λe=>(Z8.mp nd).1 (e▸aac h');unfold cz;rw[ZL hn,rB (Z8.mp nd).2 h'];rfl
noncomputable def ip(p:List Int):List Int:=(List.range p.length).map λ(k:Nat)=>(((cz (k:Int) p).getD 0:Nat):Int)
def iY(hp:p∈perms n){k:Nat}(hk:k<n):∃j:Nat,cz (k:Int) p=some j/\(ip p)[k]?=some (j:Int)/\j<n/\p[j]?=some (k:Int):=by
 refine cP (az.mp hp) λlp np bp=>?_;obtain⟨j,hj⟩:=nC (zP hp (k:=(k:Int)) (Z6 _) (by lia));have hg:=jP hj;refine⟨j,hj,?_,by have:=(ZJ.mp hg).1;exact Zn this (Zy lp),hg⟩;unfold ip;rw[Zz,abq (Zn hk (Zy (aad lp)))];simp[hj]
def nD:(ip p).length =p.length:=by simp[ip]
def Gh(hp:p∈perms n):comp p (ip p)=bW n:=by
 refine cP (az.mp hp) λlp np bp=>?_;apply aaG;intro i;unfold comp bW;rw[Zz,Zz];by_cases hi:i<n
 .have hb:=bp p[i] (abv (Zn hi (Zy (aad lp))));rw[abq hi,Zj (Zn hi (Zy (aad lp)))];obtain⟨k,hk⟩:∃k:Nat,p[i]=(k:Int):=⟨p[i].toNat,(aad (aba hb.1))⟩;have JQ:k<n:=by lia
  refine DK (iY hp JQ) λj h1 h2 h3 h4=>?_;have A6:cz (k:Int) p=some i:=rB np (by rw[Zj (Zn hi (Zy (aad lp))),hk]);rw[h1]at A6;have e:=ZU A6;subst e;show some ((ip p).getD (p[j].toNat) 0)=some (Int.ofNat j);rw[hk,aaE,Zx,h2];rfl
 .have l1:(List.range n)[i]?=none:=ZR (by simp;exact ZZ hi);have l2:p[i]?=none:=ZR (Zr (Zy lp) (ZZ hi));rw[l1,l2];rfl
def xI(hp:p∈perms n):comp (ip p) p=bW n:=by
 refine cP (az.mp hp) λlp np bp=>?_;apply aaG;intro i;unfold comp bW;rw[Zz,Zz];by_cases hi:i<n
 .refine DK (iY hp hi) λj h1 h2 h3 h4=>?_;rw[h2,abq hi];show some (p.getD ((j:Int).toNat) 0)=some (Int.ofNat i);rw[aaE,Zx,h4];rfl
 .have l1:(List.range n)[i]?=none:=ZR (by simp;exact ZZ hi);have l2:(ip p)[i]?=none:=ZR (by rw[nD];exact Zr (Zy lp) (ZZ hi));rw[l1,l2];rfl
def fT(hp:p∈perms n):ip p∈perms n:=by
 refine cP (az.mp hp) λlp np bp=>az.mpr ⟨by rw[nD,lp],?_,λx hx=>?_⟩
 .rw[Z7,aaY];intro i j hi hj A6 e;rw[nD,lp]at hi hj;refine DK (iY hp hi) λa a1 a2 a3 a4=>DK (iY hp hj) λb b1 b2 b3 b4=>?_;rw[Zj (by rw[nD];lia)]at a2 b2;have ea:=ZU a2;have eb:=ZU b2;rw[ea,eb]at e;have:a=b:=(aca e);subst this;rw[a4]at b4;have:=ZU b4;lia
 .refine aa (Zv.mp hx) λk hk af=>?_;subst af;have vn:=Z9.mp hk;refine DK (iY hp (k:=k) (Zn vn (Zy lp))) λj h1 _ h3 _=>?_;rw[h1];exact⟨Z6 _,by show(j:Int)<n;lia⟩
def zQ(hp:p∈perms n)(hq:q∈perms n)(h:comp p q=bW n):q=ip p:=by
 have e:comp (comp (ip p) p) q=comp (ip p) (comp p q):=iX (fT hp) hp;rw[xI hp,nB hq,h,jN (fT hp)]at e;exact e
noncomputable def nE:Fd:=⟨1,1,(.seq (.ret (.prim .tuple (.o (.comp [0] 0 (.gi (.o (.prim .len (.u 0)))) .nil (.eL .index (.var 1) (.u 0)))))) .skip)⟩
theorem cY:∀p:List Int,aO (p.map .int)=some p
 |[]=>rfl
 |x::p=>by
  show(aO (p.map .int)).map (x:: ·)=_;rw[cY p];rfl
def Gi{n:Nat}(hn:n<=1000)(hp:p∈perms n):out (ex F nE.body (av nE [tp p]))=some (tp (ip p)):=by
 refine cP (az.mp hp) λlp np bp=>?_;have w:=fF (α:=Nat) (λk=>D.int (k:Int)) (λ(k:Nat)=> .int (((cz (k:Int) p).getD 0:Nat):Int)) (λx=>(ay 0 x).bind λys=>(j6 F true .nil (inner ys [vf (tp p)] [0])).bind λk=>if k then(ev F false (.eL .index (.var 1) (.u 0)) (inner ys [vf (tp p)] [0])).map some else some none) (List.range n) (λk hk=>by
  have vn:=Z9.mp hk;refine aa (iY hp vn) λj h1 _=>?_;show(eL .index (tp p) [.int (k:Int)]).map some=_;show(((aO (p.map .int)).bind λns=>(cz (k:Int) ns).map λ(i:Nat)=>D.int (i:Int))).map some=_;rw[cY];show((cz (k:Int) p).map λ(i:Nat)=>D.int (i:Int)).map some=_;rw[h1];rfl)
 have hr:dj [.int ((p.map D.int).length :Nat)]=some ((List.range n).map λ(k:Nat)=>D.int (k:Int)):=by
  rw[Zo,lp,cL hn,dX,bW,Z5];rfl
 have hl:((List.range n).map λ(k:Nat)=>D.int (k:Int)).length <=bV:=by rw[Zo,abU];unfold bV;exact Zr hn aa1
 have e:ev F true (.comp [0] 0 (.gi (.o (.prim .len (.u 0)))) .nil (.eL .index (.var 1) (.u 0))) [vf (tp p)]=some (.lst ((ip p).map .int)):=by
  show(dj [.int ((p.map D.int).length :Nat)]).bind _=_;rw[hr];show(if((List.range n).map λ(k:Nat)=>D.int (k:Int)).length <=bV then _ else _)=_;rw[ZD hl];show(walk _ ((List.range n).map λ(k:Nat)=>D.int (k:Int))).map D.lst=_;rw[w];simp[ip,lp]<;>rfl
 show out ((((ev F true (.comp [0] 0 (.gi (.o (.prim .len (.u 0)))) .nil (.eL .index (.var 1) (.u 0))) [vf (tp p)]).bind _).bind _ |>.map _).bind _)=_;rw[e];rfl
noncomputable def sb:List Int->Nat->List Int->List Int
 |[],_,f=>f
 |g::r,i,f=>sb r (i+1) (f.set g.toNat (i:Int))
theorem CV:∀(p:List Int) (i:Nat) (f:List Int),(sb p i f).length =f.length
 |[],_,_=>rfl
 |g::r,i,f=>by rw[sb,CV,aag]
def pY(k n:Int)(r:List Int):cz k (n::r)=if n=k then some 0 else(cz k r).map (· + 1):=rfl
theorem CW:∀(p:List Int) (i:Nat) (f:List Int),p.Nodup->(∀x∈p,0<=x/\x<f.length)->∀k:Nat,k<f.length->(sb p i f)[k]?=match cz (k:Int) p with|some j=>some ((i+j:Nat):Int)|none=>f[k]?
 |[],i,f,_,_,k,_=>rfl
 |g::r,i,f,nd,bd,k,hk=>by
  have hg:=bd g Zt;rw[sb,CW r (i+1) (f.set g.toNat (i:Int)) (Z8.mp nd).2 (λx hx=>by rw[aag];exact bd x (Zm _ hx)) k (by rw[aag];exact hk)];by_cases e:g=(k:Int)
  .have uA:cz (k:Int) r=none:=by
    cases h:cz (k:Int) r with
    |none=>rfl
    |some j=>exact absurd (aac (jP h)) (e▸(Z8.mp nd).1)
   rw[uA,pY,ZD e];have eg:g.toNat=k:=by lia
   show(f.set g.toNat (i:Int))[k]?=_;rw[eg,ZX hk];rfl
  .rw[pY,ZL e];cases h:cz (k:Int) r with
   |none=>
    show(f.set g.toNat (i:Int))[k]?=_;rw[ZV (by lia)];rfl
   |some j=>
    show some ((i+1+j:Nat):Int)=some ((i+(j+1):Nat):Int);congr 2;exact Z_ _ _ _
def PD(hp:p∈perms n):sb p 0 p=ip p:=by
 refine cP (az.mp hp) λlp np bp=>?_;apply aaG;intro k;by_cases hk:k<n
 .refine DK (iY hp hk) λj h1 h2 _ _=>?_;rw[CW p 0 p np (by rw[lp];exact bp) k (Zn hk (Zy (aad lp))),h1,h2];simp
 .rw[ZR (by rw[CV];exact Zr (Zy lp) (ZZ hk)),ZR (by rw[nD];exact Zr (Zy lp) (ZZ hk))]
noncomputable def fU:Fd:=⟨1,4,(.seq (.cU 1 (.prim .list (.u 0))) (.seq (.for [2,3] 2 (.Ae aa_) (.seq (.jj 1 (.var 3) (.var 2)) .skip)) (.seq (.ret (.prim .tuple (.u 1))) .skip)))⟩
theorem nF:∀(r:List Int) (i:Nat) (f:List Int) (x2 x3:Option (Bool×D)),(∀x∈r,0<=x/\x<f.length)->∃TR TU,
  aN (λx ρ=>(ay 2 x).bind λys=>(cc ρ [2,3] ys).bind λρ'=>ex F (.seq (.jj 1 (.var 3) (.var 2)) .skip) ρ') (aQ (i:Int) (r.map .int)) [x0,vo (f.map .int),x2,x3]=some (.next [x0,vo ((sb r i f).map .int),TR,TU])
 |[],i,f,x2,x3,_=>⟨x2,x3,rfl⟩
 |g::r,i,f,x2,x3,bd=>by
  have hg:=bd g Zt;obtain⟨TR,TU,e⟩:=nF r (i+1) (f.set g.toNat (i:Int)) (vi i) (vi g) (λx hx=>by rw[aag];exact bd x (Zm _ hx));refine⟨TR,TU,?_⟩;rw[ZS,aQ,aN];have hp:place f.length g=some g.toNat:=by
   unfold place;rw[ZD hg.1,ZD hg.2]
  have step:(ay 2 (.tup [.int (i:Int),.int g])).bind (λys=>(cc [x0,vo (f.map .int),x2,x3] [2,3] ys).bind λρ'=>ex F (.seq (.jj 1 (.var 3) (.var 2)) .skip) ρ')=some (.next [x0,vo ((f.set g.toNat (i:Int)).map .int),vi i,vi g]):=by
   refine(ny (ρ':=[x0,vo ((f.set g.toNat (i:Int)).map .int),vi i,vi g]) ?_).trans rfl;show(place (f.map D.int).length g).map (λj=>kQ.next [x0,vo ((f.map .int).set j (.int i)),vi i,vi g])=_;rw[Zo,hp,List.map_set];rfl
  rw[step];have e':((i:Int)+1)=((i+1:Nat):Int):=by push_cast;rfl
  show aN _ (aQ ((i:Int)+1) (r.map .int)) _=_;rw[e',sb];exact e
def CY(hp:p∈perms n):out (ex F fU.body (av fU [tp p]))=some (tp (ip p)):=by
 refine cP (az.mp hp) λlp np bp=>D2 (nF (F:=F) (x0:=vf (tp p)) p 0 p none none (by rw[lp];exact bp)) λx2 x3 e=>?_;rw[PD hp]at e;have e':aN (λx ρ=>(ay 2 x).bind λys=>(cc ρ [2,3] ys).bind λρ'=>ex F (.seq (.jj 1 (.var 3) (.var 2)) .skip) ρ') (aQ 0 (p.map .int)) [vf (tp p),vo (p.map .int),none,none]=some (.next [vf (tp p),vo ((ip p).map .int),x2,x3]):=e;have h1:ex F (.cU 1 (.prim .list (.u 0))) (av fU [tp p])=some (.next [vf (tp p),vo (p.map .int),none,none]):=rfl;have h2:ex F (.for [2,3] 2 (.Ae aa_) (.seq (.jj 1 (.var 3) (.var 2)) .skip)) [vf (tp p),vo (p.map .int),none,none]=some (.next [vf (tp p),vo ((ip p).map .int),x2,x3]):=by
  show aN _ (aQ 0 (p.map .int)) _=_;exact e'
 show out ((ex F (.cU 1 (.prim .list (.u 0))) (av fU [tp p])).bind _)=_;rw[h1];show out ((ex F (.seq (.for [2,3] 2 (.Ae aa_) (.seq (.jj 1 (.var 3) (.var 2)) .skip)) _) _))=_;rw[u6,h2];rfl
theorem nG:∀p:List Int,a_ (p.map .int)=true
 |[]=>rfl
 |x::p=>by show(aI (.int x)&&a_ (p.map .int))=true;rw[nG p];rfl
def aw(p:List Int):aI (tp p)=true:=nG p
noncomputable def pw(p:List Int):Nat->List Int
 |0=>bW p.length
 |m+1=>comp (pw p m) p
theorem jQ(hp:p∈perms n):∀m,pw p m∈perms n
 |0=>by rw[pw,aD hp];exact dY n
 |m+1=>cG (jQ hp m) hp
theorem CZ(hp:p∈perms n)(a:Nat):∀b,pw p (a+b)=comp (pw p a) (pw p b)
 |0=>by rw[adU,pw,aD hp,jN (jQ hp a)]
 |b+1=>by
  show comp (pw p (a+b)) p=comp (pw p a) (comp (pw p b) p);rw[CZ hp a b,iX (jQ hp a) (jQ hp b)]
def Ls(hp:p∈perms n):pw p 1=p:=by
 show comp (bW p.length) p=p;rw[aD hp,nB hp]
noncomputable def zR(p:List Int):Nat:=(((List.range 6).find? λm=>pw p (m+1)==bW p.length).getD 0)+1
noncomputable def H_(n:Nat)(p:List Int):Bool:=decide (pw p (zR p)=bW n)&&decide (zR p<=6)&&(List.range (zR p)).all λk=>k==0||decide (pw p k≠bW n)
set_option maxHeartbeats 0 in
def Gj:(List.range 7).all (λn=>(perms n).all (H_ n))=true:=by decide +kernel
def C0(hn:n<=6)(hp:p∈perms n):pw p (zR p)=bW n/\1<=zR p/\zR p<=6/\∀k,1<=k->k<zR p->pw p k≠bW n:=by
 have h:=aas.mp (all_range Gj (k:=n) (Z4 hn aa1)) p hp;unfold H_ at h;simp only[Zk,decide_eq_true_eq,aas,Z9,acT,beq_iff_eq]at h;refine⟨h.1.1,by unfold zR;exact acU _ _,h.1.2,λk h1 h2=>?_⟩;rcases h.2 k h2 with z|z
 .exact absurd z (aeN h1)
 .exact z
def aZ(h1:ev F b a ρ=some x)(h2:ev F b c ρ=some y):dI F b (.cons a (.o c)) ρ=some [x,y]:=by
 rw[lh,h1,lh,h2];rfl
def fG(h1:ev F b a ρ=some x):dI F b (.o a) ρ=some [x]:=by
 rw[lh,h1];rfl
noncomputable def ui(F:FT)(fr:List Nat)(ifs eE:E)(ρ:Env)(x:D):Option (Option D):=(j6 F true ifs (inner [x] ρ fr)).bind λk=>if k then(ev F false eE (inner [x] ρ fr)).map some else some none
def Gk(h1:ev F true a ρ=some d)(h2:seq d=some xs)(h3:xs.length<=bV):ev F b (.comp fr 0 (.it a) ifs eE) ρ=(walk (ui F fr ifs eE ρ) xs).map .lst :=by
 rw[JE,WN,h1,aaB,h2,aaB,ZD h3];rfl
def nH(h1:(dI F false es ρ).bind dj=some xs)(h3:xs.length<=bV):ev F b (.comp fr 0 (.gi es) ifs eE) ρ=(walk (ui F fr ifs eE ρ) xs).map .lst :=by
 rw[JE,Sd,h1,aaB,ZD h3];rfl
theorem kZ:∀xs:List D,(∀x∈xs,f x=some (if p x then some x else none))->walk f xs=some (xs.filter p)
 |[],_=>rfl
 |x::r,h=>by
  rw[walk,h x Zt,adE];have ih:=kZ r λy hy=>h y (Zm _ hy);cases p x with
  |true=>show(walk f r).map _=_;rw[ih];rfl
  |false=>exact ih
theorem xJ(h g:α->D)(c:α->Bool)(f:D->Option (Option D)):∀xs:List α,(∀x∈xs,f (h x)=some (if c x then some (g x) else none))->walk f (xs.map h)=some ((xs.filter c).map g)
 |[],_=>rfl
 |x::xs,H=>by
  rw[ZS,walk,H x Zt,adE];have ih:=xJ h g c f xs λy hy=>H y (Zm _ hy);cases c x with
  |true=>show(walk f (xs.map h)).map (g x:: ·)=_;rw[ih];rfl
  |false=>exact ih
def nI{xs:List α}{h g:α->D}{c:α->Bool}(h1:ev F true a ρ=some d)(h2:seq d=some (xs.map h))(hl:xs.length<=bV)(hi:∀x∈xs,j6 F true ifs (inner [h x] ρ fr)=some (c x))(hc:∀x∈xs,ev F false el (inner [h x] ρ fr)=some (g x)):ev F b (.comp fr 0 (.it a) ifs el) ρ=some (.lst ((xs.filter c).map g)):=by
 rw[Gk h1 h2 (by rw[Zo];exact hl),xJ h g c _ _ λx hx=>?_]
 .rfl
 .show((j6 F true ifs (inner [h x] ρ fr)).bind λk=>if k then(ev F false el (inner [h x] ρ fr)).map some else some none)=_;rw[hi x hx,hc x hx];cases c x<;>rfl
def c_{xs:List α}{h g:α->D}(h1:ev F true a ρ=some d)(h2:seq d=some (xs.map h))(hl:xs.length<=bV)(hc:∀x∈xs,ev F false el (inner [h x] ρ fr)=some (g x)):ev F b (.comp fr 0 (.it a) .nil el) ρ=some (.lst (xs.map g)):=by
 rw[nI (c:=λ_=>true) h1 h2 hl (λ_ _=>rfl) hc,List.filter_eq_self.mpr λ_ _=>rfl]
def Lu(h:ev F false a ρ=some (.bl j)):j6 F true (.o a) ρ=some j:=by
 rw[EA,h];cases j<;>rfl
def Yk(h:ev F false a ρ=some (.bl p))(h2:ev F false c ρ=some (.bl q)):ev F b (.uY true (.cons a (.o c))) ρ=some (.bl (p&&q)):=by
 cases p with
 |true=>exact D0 h (by rw[JB,Lu h2];rfl)
 |false=>exact TK h
theorem xK{P:D->Prop}:∀xs:List D,(∀x∈xs,∃y,P y/\f x=some (some y))->∃ys,walk f xs=some ys/\ys.length=xs.length/\∀y∈ys,P y
 |[],_=>⟨[],rfl,rfl,λ_ h=>nomatch h⟩
 |x::r,h=>by
  refine aa (h x Zt) λy hy e=>bO (xK r λz hz=>h z (Zm _ hz)) λys e2 hl hP=>⟨y::ys,?_,by rw[ZM,ZM,hl],λz hz=>?_⟩
  .rw[walk,e];show(walk f r).map _=_;rw[e2];rfl
  .rcases ZC.mp hz with rfl|hz
   .exact hy
   .exact hP z hz
def uj(hx:x∈bS 0 n):∃k:Nat,k<n/\x= .int k:=by
 rw[dX]at hx;refine aa (Zv.mp hx) λi hi af=>?_;subst af;refine aa (Zv.mp hi) λj hj aK=>?_;subst aK;exact⟨j,Z9.mp hj,rfl⟩
def gM(n:Nat):(bS 0 n).length =n:=by
 rw[dX,Zo,bW,Zo,abU]
noncomputable def iK(ft fd:Nat):Fd:=⟨2,2,(.seq (.ret (.prim .tuple (.o (.comp [0,1] 0 (.gi (.o (.idx (.tup (.cons (.ci 1) (.cons (.ci 1) (.cons (.ci 2) (.cons (.ci 2) (.cons (.ci 3) (.cons (.ci 0) (.o (.ci 6))))))))) (.bin .Mod aa_ (.ci 7))))) .nil (.call ft (.cons (.call fd (.w 1 (.u 0))) (.u 2))))))) .skip)⟩
def Lv(s:Nat)(y:D):Prop:=∃p∈perms s,y=tp p
def uk{k:Nat}(h:xs[k]?=some x):item (.tup xs) (.int k)=some x:=by
 show(place xs.length k).bind _=_;have hk:k<xs.length:=(ZJ.mp h).1;unfold place;rw[ZD (Z6 _),ZD (by lia)];show xs[((k:Int)).toNat]?=_;rw[aaE];exact h
def Lw{a:Int}(hd:∀k:Nat,F fd [.int a,.int k]=some (.int (drawn a k)))(ht:∀b:Int,0<=b->∃p∈perms s,F ft [.int b,.int s]=some (tp p)):
  ∃ys,out (ex F (iK ft fd).body (av (iK ft fd) [.int a,.int s]))=some (.tup ys)/\ys.length<=6/\∀y∈ys,Lv s y:=by
 have g0:0<=a%7:=abh _ aa1;have g1:a%7<7:=abi _ aa1;obtain⟨j,hj⟩:∃j:Nat,a%7=j:=⟨(a%7).toNat,(aad (aba g0))⟩;have Yl:j<7:=acv.mp (hj▸g1);have key:∀j,j<7->∃n:Nat,n<=6/\[D.int 1,.int 1,.int 2,.int 2,.int 3,.int 0,.int 6][j]?=some (.int n):=λj hj=>
  ⟨[1,1,2,2,3,0,6][j],(show∀x∈[1,1,2,2,3,0,6],x<=6 by decide) _ (abv _),by rw[show [D.int 1,.int 1,.int 2,.int 2,.int 3,.int 0,.int 6]=[1,1,2,2,3,0,6].map λn:Nat=>D.int n from rfl,Zz,Zj hj];rfl⟩
 refine aa (key j Yl) λn hn hg=>?_;have e1:ev F false (.idx (.tup (.cons (.ci 1) (.cons (.ci 1) (.cons (.ci 2) (.cons (.ci 2) (.cons (.ci 3) (.cons (.ci 0) (.o (.ci 6))))))))) (.bin .Mod aa_ (.ci 7))) (av (iK ft fd) [.int a,.int s])=some (.int n):=by
  have q1:ev F true (.tup (.cons (.ci 1) (.cons (.ci 1) (.cons (.ci 2) (.cons (.ci 2) (.cons (.ci 3) (.cons (.ci 0) (.o (.ci 6))))))))) (av (iK ft fd) [.int a,.int s])=some (.tup [D.int 1,.int 1,.int 2,.int 2,.int 3,.int 0,.int 6]):=rfl;have q2:ev F false (.bin .Mod aa_ (.ci 7)) (av (iK ft fd) [.int a,.int s])=some (.int j):=(zO rfl rfl aa1).trans (congrArg (λz=>some (D.int z)) hj);rw[JD,q1,aaB,q2,aaB];exact uk hg
 obtain⟨ys,w,hl,hP⟩:=xK (f:=ui F [0,1] .nil (.call ft (.cons (.call fd (.w 1 (.u 0))) (.u 2))) (av (iK ft fd) [.int a,.int s])) (P:=Lv s) (bS 0 n) λx hx=>by
  refine aa (uj hx) λk hk af=>?_;subst af;refine aa (ht (drawn a k) (CL _ _)) λp hp e=>⟨tp p,⟨p,hp,rfl⟩,?_⟩;show(ev F false _ (inner [.int (k:Int)] _ [0,1])).map some=_;have i1:ev F true (.call fd (.w 1 (.u 0))) (inner [.int (k:Int)] (av (iK ft fd) [.int a,.int s]) [0,1])=some (.int (drawn a k)):=
   ak (xs:=[.int a,.int k]) (aZ rfl rfl) (hd k) rfl
  rw[ak (xs:=[.int (drawn a k),.int s]) (d:=tp p) (aZ i1 rfl) e (aw _)];rfl
 refine⟨ys,dA ?_,by rw[hl,gM];exact hn,hP⟩;rw[Ez,fG (x:= .lst ys)]
 .rfl
 .rw[nH (xs:=bS 0 n) (by rw[fG e1,aaB,cL (Zr hn aa1)]) (by rw[gM];unfold bV;exact Zr hn aa1),w];rfl
section
variable {s:Nat}{ps:List aa2}(rC:∀p∈ps,p∈perms s)
include rC
end
def aG(h1:dI F true es ρ=some xs)(h2:F f xs=some d)(h3:qv ρ es=false):ev F b (.call f es) ρ=some d:=by
 rw[NB,h1];show(F f xs).bind _=_;rw[h2];simp[h3]
def TV(h1:ev F b a ρ=some x)(h2:ev F b c ρ=some y)(h3:ev F b e ρ=some z):dI F b (.cons a (.cons c (.o e))) ρ=some [x,y,z]:=by
 rw[lh,h1,lh,h2,lh,h3];rfl
theorem C1:∀{s:Nat} (ys:List D),(∀y∈ys,Lv s y)->∃ps:List aa2,ys=ps.map tp/\∀p∈ps,p∈perms s
 |_,[],_=>⟨[],rfl,λ_ h=>nomatch h⟩
 |s,y::r,h=>by
  refine aa (h y Zt) λp hp af=>?_;subst af;refine aa (C1 r λz hz=>h z (Zm _ hz)) λps aK rC=>?_;subst aK;exact⟨p::ps,rfl,λq hq=>(ZC.mp hq).elim (λe=>e▸hp) (rC q)⟩
def Gm(h:(dI F false es ρ).bind dj=some xs):ex F (.for is tg (.gi es) b) ρ=aN (λx ρ=>(ay tg x).bind λys=>(cc ρ is ys).bind λρ'=>ex F b ρ') xs ρ:=by
 rw[NG];show((dI F false es ρ).bind dj).bind _=_;rw[h];rfl
end Py
namespace eO
structure Pg(α:Type) where
 n:Nat
 S:α->Prop
 mul:α->α->α
 inv:α->α
 one:α
 im:α->Nat->Nat
structure cI{α:Type}(Y:Pg α):Prop where
 s1:Y.S Y.one
 sm:∀{a b},Y.S a->Y.S b->Y.S (Y.mul a b)
 si:∀{a},Y.S a->Y.S (Y.inv a)
 assoc:∀{a b c},Y.S a->Y.S b->Y.S c->Y.mul (Y.mul a b) c=Y.mul a (Y.mul b c)
 mul_one:∀{a},Y.S a->Y.mul a Y.one=a
 one_mul:∀{a},Y.S a->Y.mul Y.one a=a
 bL:∀{a},Y.S a->Y.mul a (Y.inv a)=Y.one
 inv_mul:∀{a},Y.S a->Y.mul (Y.inv a) a=Y.one
 bK:∀{k},k<Y.n->Y.im Y.one k=k
 aY:∀{a b k},Y.S a->Y.S b->k<Y.n->Y.im (Y.mul a b) k=Y.im b (Y.im a k)
 jR:∀{a k},Y.S a->k<Y.n->Y.im a k<Y.n
 ext:∀{a b},Y.S a->Y.S b->(∀k,k<Y.n->Y.im a k=Y.im b k)->a=b
section
variable {α:Type}{Y:Pg α}
def cI.inj(L:cI Y)(ha:Y.S a)(hk:k<Y.n)(hl:l<Y.n)(h:Y.im a k=Y.im a l):k=l:=by
 have e:∀j,j<Y.n->Y.im (Y.inv a) (Y.im a j)=j:=λj hj=>by
  rw[<-L.aY ha (L.si ha) hj,L.bL ha,L.bK hj]
 rw[<-e k hk,<-e l hl,h]
def iD(Y:Pg α)(t:α)(i:Nat):Prop:=∀k,k<i->Y.im t k=k
abbrev Rg(α:Type):=List (Nat×α)
structure V(Y:Pg α)(i:Nat)(R:Rg α):Prop where
 st:∀p u,(p,u)∈R->Y.S u/\iD Y u i/\Y.im u i=p
 one:(i,Y.one)∈R
 nd:(R.map (·.1)).Nodup
def VL(Y:Pg α):List (Rg α)->Nat->Prop
 |[],i=>i=Y.n
 |R::l,i=>V Y i R/\i<Y.n/\VL Y l (i+1)
def H(Y:Pg α):List (Rg α)->α->Prop
 |[],t=>t=Y.one
 |R::l,t=>∃p u w,(p,u)∈R/\H Y l w/\t=Y.mul w u
def h_{R:Rg α}(h:(R.map (·.1)).Nodup)(h1:(p,u)∈R)(h2:(p,v)∈R):u=v:=by
 induction R with
 |nil=>cases h1
 |cons e R ih=>
  rw[ZS,Z8]at h;rcases ZC.mp h1 with a|a
  .rcases ZC.mp h2 with b|b
   .exact(afh (a.trans b.symm)).2
   .exact absurd (Zv.mpr ⟨_,b,by rw[<-a]⟩) h.1
  .rcases ZC.mp h2 with b|b
   .exact absurd (Zv.mpr ⟨_,a,by rw[<-b]⟩) h.1
   .exact ih h.2 a b
theorem H.good(L:cI Y):∀{l:List (Rg α)}{i:Nat}{t:α},VL Y l i->H Y l t->Y.S t/\iD Y t i
 |[],i,t,hv,h=>by
  have h':t=Y.one:=h;have Gn:i=Y.n:=hv;subst h';exact⟨L.s1,λk hk=>L.bK (Zn hk (Zy Gn))⟩
 |R::l,i,t,⟨hv,hi,hl⟩,⟨p,u,w,hu,hw,e⟩=>by
  obtain⟨s1,f1⟩:=H.good L hl hw;refine cP (hv.st p u hu) λs2 f2 _=>?_;subst e;refine⟨L.sm s1 s2,λk hk=>?_⟩;rw[L.aY s1 s2 (Zn hk (ZP hi)),f1 k (aaq (ZP hk)),f2 k hk]
theorem H.one(L:cI Y):∀{l:List (Rg α)}{i:Nat},VL Y l i->H Y l Y.one
 |[],_,_=>rfl
 |R::l,i,⟨hv,hi,hl⟩=>⟨i,Y.one,Y.one,hv.one,H.one L hl,(L.one_mul L.s1).symm⟩
def St(l:List (Rg α))(u:α):Prop:=∃R∈l,∃p,(p,u)∈R
theorem St.good(L:cI Y):∀{l:List (Rg α)}{i:Nat}{u:α},VL Y l i->St l u->Y.S u/\iD Y u i
 |[],_,_,_,⟨_,h,_⟩=>by cases h
 |R::l,i,u,⟨hv,hi,hl⟩,⟨R',hR,p,hp⟩=>by
  rcases ZC.mp hR with e|e
  .rw[e]at hp;exact⟨(hv.st p u hp).1,(hv.st p u hp).2.1⟩
  .obtain⟨a,b⟩:=St.good L hl ⟨R',e,p,hp⟩;exact⟨a,λk hk=>b k (aaq (ZP hk))⟩
def H.drop(L:cI Y){R:Rg α}(hv:VL Y (R::l) i)(h:H Y (R::l) t)(hf:Y.im t i=i):H Y l t:=by
 refine cP hv λhV hi hl=>cn h λp u w hu hw e=>?_;obtain⟨s1,f1⟩:=H.good L hl hw;refine cP (hV.st p u hu) λs2 f2 f3=>?_;have:p=i:=by
  rw[e,L.aY s1 s2 hi,f1 i (Zu _),f3]at hf;exact hf
 subst this;have:u=Y.one:=h_ hV.nd hu hV.one;rw[this,L.mul_one s1]at e;rw[e];exact hw
def H.Gp(L:cI Y)(hv:VL Y (R::l) i)(h:H Y l t):H Y (R::l) t:=⟨i,Y.one,t,hv.1.one,h,(L.mul_one (H.good L hv.2.2 h).1).symm⟩
inductive Gen(Y:Pg α)(G:α->Prop):α->Prop
 |one:Gen Y G Y.one
 |mul {t u:α}:Gen Y G t->G u->Gen Y G (Y.mul t u)
theorem Gen.S(L:cI Y)(hG:∀u,G u->Y.S u):∀{t:α},Gen Y G t->Y.S t
 |_,.one =>L.s1
 |_,.mul h hu=>L.sm (Gen.S L hG h) (hG _ hu)
theorem Gen.mono(h:∀u,G u->G' u):∀{t:α},Gen Y G t->Gen Y G' t
 |_,.one => .one
 |_,.mul a hu=> .mul (Gen.mono h a) (h _ hu)
theorem Gen.app(L:cI Y)(hG:∀u,G u->Y.S u)(ha:Gen Y G a):∀{b:α},Gen Y G b->Gen Y G (Y.mul a b)
 |_,.one =>by rw[L.mul_one (Gen.S L hG ha)];exact ha
 |_,.mul (t:=t) (u:=u) h hu=>by
  rw[<-L.assoc (Gen.S L hG ha) (Gen.S L hG h) (hG _ hu)];exact .mul (Gen.app L hG ha h) hu
def Gen.of(L:cI Y)(hs:Y.S u)(h:G u):Gen Y G u:=by
 have:=Gen.mul (Gen.one (Y:=Y) (G:=G)) h;rwa [L.one_mul hs]at this
theorem H.gen(L:cI Y):∀{l:List (Rg α)}{i:Nat}{t:α},VL Y l i->H Y l t->Gen Y (St l) t
 |[],_,t,_,h=>by
  have h':t=Y.one:=h;rw[h'];exact .one
 |R::l,i,t,⟨hV,hi,hl⟩,⟨p,u,w,hu,hw,e⟩=>by
  rw[e];exact .mul (Gen.mono (λx ⟨R',h,q⟩=>⟨R',Zm _ h,q⟩) (H.gen L hl hw)) ⟨R,Zt,p,hu⟩
theorem H.closed(L:cI Y):∀{l:List (Rg α)}{i:Nat},VL Y l i->(∀u v,St l u->St l v->H Y l (Y.mul u v))->∀t v,H Y l t->St l v->H Y l (Y.mul t v)
 |[],_,_,_,_,_,_,⟨_,h,_⟩=>by cases h
 |R::l,i,hv,hp,t,v,⟨p,u,w,hu,hw,e⟩,ot=>by
  have hl:=hv.2.2;have sub:∀x,St l x->St (R::l) x:=λx ⟨R',h,q⟩=>⟨R',Zm _ h,q⟩;have ih:=H.closed L hl λx y hx hy=>by
   obtain⟨s1,f1⟩:=St.good L hl hx;obtain⟨s2,f2⟩:=St.good L hl hy;refine(hp x y (sub x hx) (sub y hy)).drop L hv ?_;rw[L.aY s1 s2 hv.2.1,f1 i (Zu _),f2 i (Zu _)]
  have all:∀{x:α},Gen Y (St l) x->H Y l (Y.mul w x):=λ{x} hx=>by
   induction hx with
   |one=>rw[L.mul_one (H.good L hl hw).1];exact hw
   |mul h hu NH=>
    rw[<-L.assoc (H.good L hl hw).1 (Gen.S L (λu hu=>(St.good L hl hu).1) h) (St.good L hl hu).1];exact ih _ _ NH hu
  have su:St (R::l) u:=⟨R,Zt,p,hu⟩;refine cn (hp u v su ot) λp' u' w' rN xh e'=>?_;obtain⟨sw,_⟩:=H.good L hl hw;obtain⟨Lx,_⟩:=H.good L hl xh;have Ym:=(St.good L hv su).1;have Yn:=(St.good L hv ot).1;have Yo:=(hv.1.st p' u' rN).1;refine⟨p',u',Y.mul w w',rN,all (H.gen L hl xh),?_⟩;rw[e,L.assoc sw Ym Yn,e',<-L.assoc sw Lx Yo]
def H.all(L:cI Y)(hv:VL Y l i)(hp:∀u v,St l u->St l v->H Y l (Y.mul u v))(ht:H Y l t)(hx:Gen Y (St l) x):H Y l (Y.mul t x):=by
 induction hx with
 |one=>rw[L.mul_one (H.good L hv ht).1];exact ht
 |mul h hu ih=>
  rw[<-L.assoc (H.good L hv ht).1 (Gen.S L (λu hu=>(St.good L hv hu).1) h) (St.good L hv hu).1];exact H.closed L hv hp _ _ ih hu
def H.row(L:cI Y)(hv:VL Y l 0)(hG:∀u,G u->Y.S u)(hp:∀u v,St l u->St l v->H Y l (Y.mul u v))(hr:∀g,G g->H Y l g)(hs:∀u,St l u->Gen Y G u)(t:α):H Y l t↔Gen Y G t:=by
 constructor
 .intro h;have:∀{x:α},Gen Y (St l) x->Gen Y G x:=λ{x} hx=>by
   induction hx with
   |one=>exact .one
   |mul h hu ih=>exact Gen.app L hG ih (hs _ hu)
  exact this (H.gen L hv h)
 .intro h;induction h with
  |one=>exact H.one L hv
  |mul h hu ih=>exact H.all L hv hp ih (H.gen L hv (hr _ hu))
noncomputable def dB(R:Rg α)(p:Nat):Option α:=(R.find? λe=>e.1==p).map (·.2)
def b9(h:dB R p=some u):(p,u)∈R:=by
 unfold dB at h;cases e:R.find? (λe=>e.1==p)with
 |none=>rw[e]at h;cases h
 |some x=>
  rw[e]at h;cases h;have h1:=List.find?_some e;have h2:=List.mem_of_find?_eq_some e;have:x.1=p:=by simpa using h1
  rw[<-this];exact h2
def ic{R:Rg α}(h:dB R p=none):p∉R.map (·.1):=λhm=>by
 unfold dB at h;rw[Option.map_eq_none_iff,afn]at h;exact aa (Zv.mp hm) λe he hp=>h e he (by simp[hp])
def xM{R:Rg α}(nd:(R.map (·.1)).Nodup)(h:(p,u)∈R):dB R p=some u:=by
 cases e:dB R p with
 |none=>exact absurd (Zv.mpr ⟨_,h,rfl⟩) (ic e)
 |some v=>rw[h_ nd h (b9 e)]
noncomputable def du(Y:Pg α):List (Rg α)->Nat->α->α
 |[],_,t=>t
 |R::l,i,t=>match dB R (Y.im t i)with
  |some u=>du Y l (i+1) (Y.mul t (Y.inv u))
  |none=>t
noncomputable def add:List (Rg α)->Nat->Nat×α->List (Rg α)
 |[],_,_=>[]
 |R::l,0,x=>(R++[x])::l
 |R::l,k+1,x=>R::add l k x
theorem H.add:∀{l:List (Rg α)}{k:Nat}{t:α},H Y l t->H Y (eO.add l k x) t
 |[],_,_,h=>h
 |R::l,0,t,⟨p,u,w,hu,hw,e⟩=>⟨p,u,w,ZO _ hu,hw,e⟩
 |R::l,k+1,t,⟨p,u,w,hu,hw,e⟩=>⟨p,u,w,hu,H.add hw,e⟩
theorem St.add:∀{l:List (Rg α)}{k:Nat},St (eO.add l k x) v->St l v\/v=x.2
 |[],_,⟨_,h,_⟩=>by cases h
 |R::l,0,⟨R',hR,p,hp⟩=>by
  rcases ZC.mp hR with e|e
  .rw[e]at hp;rcases ZI.mp hp with z|z
   .exact .inl ⟨R,Zt,p,z⟩
   .rw[Zp]at z;exact .inr (by rw[<-z])
  .exact .inl ⟨R',Zm _ e,p,hp⟩
 |R::l,k+1,⟨R',hR,p,hp⟩=>by
  rcases ZC.mp hR with e|e
  .exact .inl ⟨R,Zt,p,by rw[<-e];exact hp⟩
  .rcases St.add (l:=l) (k:=k) ⟨R',e,p,hp⟩with⟨R2,h2,q⟩|z
   .exact .inl ⟨R2,Zm _ h2,q⟩
   .exact .inr z
theorem pZ(L:cI Y):∀{l:List (Rg α)}{i:Nat}{t:α},VL Y l i->Y.S t->iD Y t i->
  (du Y l i t=Y.one/\H Y l t)\/∃k R,l[k]?=some R/\i+k<Y.n/\Y.S (du Y l i t)/\iD Y (du Y l i t) (i+k)/\Y.im (du Y l i t) (i+k)∉R.map (·.1)/\Y.im (du Y l i t) (i+k)≠i+k/\
   H Y (add l k (Y.im (du Y l i t) (i+k),du Y l i t)) t/\VL Y (add l k (Y.im (du Y l i t) (i+k),du Y l i t)) i
 |[],i,t,hv,hs,hf=>by
  have Gn:i=Y.n:=hv;have:t=Y.one:=L.ext hs L.s1 λk hk=>by rw[hf k (Zn hk (Zy (aad Gn))),L.bK hk]
  exact .inl ⟨this,this⟩
 |R::l,i,t,hv,hs,hf=>by
  refine cP hv λhV hi hl=>?_;unfold du;cases e:dB R (Y.im t i)with
  |none=>
   have hn:=ic e;have d_:Y.im t i≠i:=λz=>hn (Zv.mpr ⟨_,hV.one,z.symm⟩);refine .inr ⟨0,R,rfl,hi,hs,hf,hn,d_,?_,?_⟩
   .exact⟨Y.im t i,t,Y.one,ZH _ (Zp.mpr rfl),H.one L hl,(L.one_mul hs).symm⟩
   .refine⟨⟨λp u hu=>?_,ZO _ hV.one,?_⟩,hi,hl⟩
    .rcases ZI.mp hu with z|z
     .exact hV.st p u z
     .rw[Zp]at z;cases z;exact⟨hs,hf,rfl⟩
    .rw[Z3,aaS];refine⟨hV.nd,by simp,λa ha b hb z=>?_⟩;have:b=Y.im t i:=by simpa using hb
     exact hn (by rw[<-this,<-z];exact ha)
  |some u=>
   have hu:=b9 e;refine cP (hV.st _ u hu) λs2 f2 f3=>?_;have sI:=L.si s2;have s3:Y.S (Y.mul t (Y.inv u)):=L.sm hs sI;have back:Y.mul (Y.mul t (Y.inv u)) u=t:=by rw[L.assoc hs sI s2,L.inv_mul s2,L.mul_one hs]
   have C2:∀k,k<Y.n->Y.im (Y.inv u) (Y.im u k)=k:=λk hk=>by rw[<-L.aY s2 sI hk,L.bL s2,L.bK hk]
   have f4:iD Y (Y.mul t (Y.inv u)) (i+1):=λk hk=>by
    rw[L.aY hs sI (Zn hk hi)];rcases aap k i with z|z
    .rw[hf k z];have:=C2 k (Zn z (ZP hi));rwa [f2 k z]at this
    .have e2:k=i:=(acZ z hk);rw[e2];have:=C2 i hi;rwa [f3]at this
   dsimp only;rcases pZ L hl s3 f4 with⟨a,b⟩|⟨k,R',a1,a2,a3,a4,a5,a6,a7,a8⟩
   .exact .inl ⟨a,_,u,_,hu,b,back.symm⟩
   .have ek:i+1+k=i+(k+1):=(Z_ _ _ _);rw[ek]at a2 a4 a5 a6 a7 a8;exact .inr ⟨k+1,R',a1,a2,a3,a4,a5,a6,⟨_,u,_,hu,a7,back.symm⟩,hV,hi,a8⟩
structure Fd(Y:Pg α)(G:α->Prop)(l:List (Rg α))(W:List α):Prop where
 v:VL Y l 0
 g:∀u,St l u->Gen Y G u
 wg:∀t∈W,Gen Y G t
 row:∀t,G t->t∈W\/H Y l t
 PF:∀u v,St l u->St l v->Y.mul u v∈W\/H Y l (Y.mul u v)
def Fd.done(L:cI Y)(hG:∀u,G u->Y.S u)(h:Fd Y G l [])(t:α):H Y l t↔Gen Y G t:=
 H.row L h.v hG (λu v hu hv=>(h.PF u v hu hv).resolve_left aa9) (λg hg=>(h.row g hg).resolve_left aa9) h.g t
def Fd.none(h:Fd Y G l (W++[t]))(ht:H Y l t):Fd Y G l W where
 v:=h.v
 g:=h.g
 wg:=λx hx=>h.wg x (ZO _ hx)
 row:=λx hx=>by
  rcases h.row x hx with z|z
  .rcases ZI.mp z with z|z
   .exact .inl z
   .rw[Zp.mp z];exact .inr ht
  .exact .inr z
 PF:=λu v hu hv=>by
  rcases h.PF u v hu hv with z|z
  .rcases ZI.mp z with z|z
   .exact .inl z
   .rw[Zp.mp z];exact .inr ht
  .exact .inr z
def Fd.more(L:cI Y)(h:Fd Y G l (W++[t]))(hv:VL Y (add l k (p,r)) 0)(ht:H Y (add l k (p,r)) t)(hr:Gen Y G r)(rC:∀x∈Ps,Gen Y G x)
  (hP:∀u,St (add l k (p,r)) u->Y.mul u r∈Ps/\Y.mul r u∈Ps):Fd Y G (add l k (p,r)) (W++Ps) where
 v:=hv
 g:=λu hu=>by
  rcases hu.add with z|z
  .exact h.g u z
  .rw[z];exact hr
 wg:=λx hx=>(ZI.mp hx).elim (λz=>h.wg x (ZO _ z)) (rC x)
 row:=λx hx=>by
  rcases h.row x hx with z|z
  .rcases ZI.mp z with z|z
   .exact .inl (ZO _ z)
   .rw[Zp.mp z];exact .inr ht
  .exact .inr z.add
 PF:=λu v hu Gn=>by
  rcases hu.add with z1|z1
  .rcases Gn.add with z2|z2
   .rcases h.PF u v z1 z2 with z|z
    .rcases ZI.mp z with z|z
     .exact .inl (ZO _ z)
     .rw[Zp.mp z];exact .inr ht
    .exact .inr z.add
   .rw[z2];exact .inl (ZH _ (hP u hu).1)
  .rw[z1];exact .inl (ZH _ (hP v Gn).2)
theorem iD.mul(L:cI Y)(ha:Y.S a)(hb:Y.S b)(hi:i<=Y.n)(h1:iD Y a i)(h2:iD Y b i):iD Y (Y.mul a b) i:=λk hk=>by rw[L.aY ha hb (Zn hk hi),h1 k hk,h2 k hk]
theorem iD.inv(L:cI Y)(ha:Y.S a)(hi:i<=Y.n)(h1:iD Y a i):iD Y (Y.inv a) i:=λk hk=>by
 have:=L.aY ha (L.si ha) (k:=k) (Zn hk hi);rw[L.bL ha,L.bK (Zn hk hi),h1 k hk]at this;exact this.symm
structure ef(Y:Pg α)(M:α->Prop):Prop where
 s:∀t,M t->Y.S t
 one:M Y.one
 mul:∀a b,M a->M b->M (Y.mul a b)
 inv:∀a,M a->M (Y.inv a)
def Hm(Y:Pg α)(M:α->Prop)(l:List (Rg α))(i:Nat):Prop:=VL Y l i/\∀t,H Y l t↔M t/\iD Y t i
def Hm.tail(L:cI Y)(h:Hm Y M (R::l) i):Hm Y M l (i+1):=by
 refine⟨h.1.2.2,λt=>⟨λht=>?_,λ⟨h1,h2⟩=>?_⟩⟩
 .exact⟨((h.2 t).mp (ht.Gp L h.1)).1,(H.good L h.1.2.2 ht).2⟩
 .exact((h.2 t).mpr ⟨h1,λk hk=>h2 k (aaq (ZP hk))⟩).drop L h.1 (h2 i (Zu _))
def Hm.step(L:cI Y)(h:Hm Y M (R::l) i)(hu:(p,u)∈R):M u/\iD Y u i/\Y.im u i=p:=by
 refine cP (h.1.1.st p u hu) λs1 f1 f2=>?_;have:H Y (R::l) u:=⟨p,u,Y.one,hu,H.one L h.1.2.2,(L.one_mul s1).symm⟩;exact⟨((h.2 u).mp this).1,f1,f2⟩
def Hm.split(L:cI Y)(h:Hm Y M (R::l) i)(hM:M t)(hf:iD Y t i):∃u w,(Y.im t i,u)∈R/\H Y l w/\t=Y.mul w u:=by
 refine cn ((h.2 t).mpr ⟨hM,hf⟩) λp u w hu hw e=>?_;obtain⟨s1,f1⟩:=H.good L h.1.2.2 hw;refine cP (h.1.1.st p u hu) λs2 f2 f3=>?_;have:Y.im t i=p:=by rw[e,L.aY s1 s2 h.1.2.1,f1 i (Zu _),f3]
 exact⟨u,w,by rw[this];exact hu,hw,e⟩
def Lt(Y:Pg α)(a b:α):Prop:=∃i,i<Y.n/\(∀k,k<i->Y.im a k=Y.im b k)/\Y.im a i<Y.im b i
def Lt.QF(h:Lt Y a b)(h':Lt Y b a):False:=by
 refine bO h λi i1 i2 i3=>bO h' λj j1 j2 j3=>?_;rcases abo i j with z|z|z
 .have:=j2 i z;exact ZT i3 (aad this)
 .subst z;exact aeF i3 (ZP j3)
 .have:=i2 j z;exact ZT j3 (aad this)
inductive LM(Y:Pg α):List (Rg α)->α->α->Prop
 |nil {u:α}:LM Y [] u u
 |cons {R:Rg α}{l:List (Rg α)}{u x:α}{p:Nat}{v:α}:(p,v)∈R->(∀q,q∈R.map (·.1)->Y.im u p<=Y.im u q)->LM Y l (Y.mul v u) x->LM Y (R::l) u x
theorem LM.least(L:cI Y):∀{l:List (Rg α)}{i:Nat}{u x:α},VL Y l i->Y.S u->LM Y l u x->(∃w,H Y l w/\x=Y.mul w u)/\∀w,H Y l w->x=Y.mul w u\/Lt Y x (Y.mul w u)
 |[],i,u,x,hv,hs,h=>by
  cases h;refine⟨⟨Y.one,rfl,(L.one_mul hs).symm⟩,λw hw=>?_⟩;have xh:w=Y.one:=hw;rw[xh,L.one_mul hs];exact .inl rfl
 |R::l,i,u,x,hv,hs,h=>by
  cases h;rename_i p v hp Ly hl;refine cP hv λhV hi TX=>cP (hV.st p v hp) λs2 f2 f3=>?_;obtain⟨⟨w',xh,ex⟩,ih⟩:=LM.least L TX (L.sm s2 hs) hl;obtain⟨Lx,VD⟩:=H.good L TX xh;have hx:x=Y.mul (Y.mul w' v) u:=by rw[ex,L.assoc Lx s2 hs]
  refine⟨⟨Y.mul w' v,⟨p,v,w',hp,xh,rfl⟩,hx⟩,?_⟩;rintro w ⟨p2,v2,w2,A',VE,ew⟩;refine cP (hV.st p2 v2 A') λs3 g2 g3=>?_;obtain⟨PH,VF⟩:=H.good L TX VE;by_cases e:p2=p
  .subst e;have:v2=v:=h_ hV.nd A' hp;subst this;rw[ew,L.assoc PH s3 hs];exact ih w2 VE
  .refine .inr ⟨i,hi,λk hk=>?_,?_⟩
   .rw[hx,ew,L.aY (L.sm Lx s2) hs (Zn hk (ZP hi)),L.aY (L.sm PH s3) hs (Zn hk (ZP hi)),L.aY Lx s2 (Zn hk (ZP hi)),L.aY PH s3 (Zn hk (ZP hi)),VD k (aaq (ZP hk)),VF k (aaq (ZP hk)),f2 k hk,g2 k hk]
   .rw[hx,ew,L.aY (L.sm Lx s2) hs hi,L.aY (L.sm PH s3) hs hi,L.aY Lx s2 hi,L.aY PH s3 hi,VD i (Zu _),VF i (Zu _),f3,g3];have h1:=Ly p2 (Zv.mpr ⟨_,A',rfl⟩);have Hn:p<Y.n:=by rw[<-f3];exact L.jR s2 hi
    have TY:p2<Y.n:=by rw[<-g3];exact L.jR s3 hi
    have h2:Y.im u p≠Y.im u p2:=λz=>e (L.inj hs Hn TY z).symm;exact abu h1 h2
def fH(Y:Pg α)(M:α->Prop)(i p:Nat)(x:α):Prop:=M x/\iD Y x i/\Y.im x i=p/\∀t,M t->iD Y t i->Y.im t i=p->x=t\/Lt Y x t
def fH.PJ(h:fH Y M i p x)(h':fH Y M i p y):x=y:=by
 rcases h.2.2.2 y h'.1 h'.2.1 h'.2.2.1 with z|z
 .exact z
 .rcases h'.2.2.2 x h.1 h.2.1 h.2.2.1 with z'|z'
  .exact z'.symm
  .exact(z.QF z').elim
def Hm.best(L:cI Y)(hM:ef Y M)(h:Hm Y M (R::l) i)(hu:(p,u)∈R)(hx:LM Y l u x):fH Y M i p x:=by
 refine cP (h.step L hu) λm1 f1 f2=>?_;have hs:=hM.s u m1;obtain⟨⟨w,hw,ex⟩,least⟩:=LM.least L h.1.2.2 hs hx;obtain⟨mw,fw⟩:=((h.tail L).2 w).mp hw;have sw:=hM.s w mw;have hi:=h.1.2.1;refine⟨by rw[ex];exact hM.mul _ _ mw m1,?_,?_,λt ht hf hp=>?_⟩
 .rw[ex];exact iD.mul L sw hs (ZP hi) (λk hk=>fw k (aaq (ZP hk))) f1
 .rw[ex,L.aY sw hs hi,fw i (Zu _),f2]
 .refine bu (h.split L ht hf) λu' w' h1 h2 e=>?_;rw[hp]at h1;have:u'=u:=h_ h.1.1.nd h1 hu;rw[e,this];exact least w' h2
def C3(L:cI Y)(hM:ef Y M)(hi:i<Y.n):fH Y M i i Y.one:=by
 refine⟨hM.one,λk hk=>L.bK (Zn hk (ZP hi)),L.bK hi,λt ht hf hp=>?_⟩;have hs:=hM.s t ht;by_cases all:∀k,k<Y.n->Y.im t k=k
 .exact .inl (L.ext L.s1 hs λk hk=>by rw[L.bK hk,all k hk])
 .
  have ex:∃j,j<Y.n/\Y.im t j≠j/\∀k,k<j->Y.im t k=k:=by
   have key:∀m,m<=Y.n->(∀k,k<m->Y.im t k=k)\/∃j,j<m/\Y.im t j≠j/\∀k,k<j->Y.im t k=k:=λm=>by
    induction m with
    |zero=>intro _;exact .inl λk hk=>(absurd hk (aah _))
    |succ m ih=>
     intro hm;rcases ih (ZP hm)with z|⟨j,z1,z2,z3⟩
     .by_cases e:Y.im t m=m
      .exact .inl λk hk=>by
        rcases aap k m with y|y
        .exact z k y
        .rw[show k=m by exact acZ y hk];exact e
      .exact .inr ⟨m,(Zu _),e,z⟩
     .exact .inr ⟨j,(aaq (ZP z1)),z2,z3⟩
   rcases key Y.n (Zu _)with z|⟨j,z1,z2,z3⟩
   .exact absurd z all
   .exact⟨j,z1,z2,z3⟩
  refine bO ex λj j1 j2 j3=> .inr ⟨j,j1,λk hk=>by rw[L.bK (Zn hk (ZP j1)),j3 k hk],?_⟩;rw[L.bK j1];rcases abo (Y.im t j) j with z|z|z
  .have:=L.inj hs (L.jR hs j1) j1 (j3 _ z);exact absurd this (ZT z)
  .exact absurd z j2
  .exact z
def Gq(Y:Pg α)(M:α->Prop):List (Rg α)->Nat->Prop
 |[],i=>i=Y.n
 |R::l,i=>i<Y.n/\(∀p x,(p,x)∈R->fH Y M i p x)/\(∀t,M t->iD Y t i->∃x,(Y.im t i,x)∈R)/\(R.map (·.1)).Nodup /\Gq Y M l (i+1)
theorem Gq.hm(L:cI Y)(hM:ef Y M):∀{l:List (Rg α)}{i:Nat},Gq Y M l i->Hm Y M l i
 |[],i,h=>by
  have h':i=Y.n:=h;refine⟨h,λt=>⟨λht=>?_,λ⟨h1,h2⟩=>?_⟩⟩
  .have e:t=Y.one:=ht;rw[e];exact⟨hM.one,λk hk=>L.bK (Zn hk (Zy h'))⟩
  .exact L.ext (hM.s t h1) L.s1 λk hk=>by rw[h2 k (Zn hk (Zy (aad h'))),L.bK hk]
 |R::l,i,⟨hi,hb,ha,nd,hl⟩=>by
  have ih:=Gq.hm L hM hl;have Lz:(i,Y.one)∈R:=by
   obtain⟨x,hx⟩:=ha Y.one hM.one λk hk=>L.bK (Zn hk (ZP hi));rw[L.bK hi]at hx;have:=(hb i x hx).PJ (C3 L hM hi);rw[this]at hx;exact hx
  have hV:VL Y (R::l) i:=⟨⟨λp u hu=>by
   exact Ak (hb p u hu) λb1 b2 b3 _=>⟨hM.s u b1,b2,b3⟩,Lz,nd⟩,hi,ih.1⟩
  refine⟨hV,λt=>⟨?_,λ⟨h1,h2⟩=>?_⟩⟩
  .rintro⟨p,u,w,hu,hw,e⟩;refine Ak (hb p u hu) λb1 b2 b3 _=>?_;obtain⟨mw,fw⟩:=(ih.2 w).mp hw;rw[e];exact⟨hM.mul _ _ mw b1,iD.mul L (hM.s w mw) (hM.s u b1) (ZP hi) (λk hk=>fw k (aaq (ZP hk))) b2⟩
  .obtain⟨x,hx⟩:=ha t h1 h2;refine Ak (hb _ x hx) λb1 b2 b3 _=>?_;have st:=hM.s t h1;have sx:=hM.s x b1;have sI:=L.si sx;refine⟨_,x,Y.mul t (Y.inv x),hx,(ih.2 _).mpr ⟨hM.mul _ _ h1 (hM.inv _ b1),λk hk=>?_⟩,by rw[L.assoc st sI sx,L.inv_mul sx,L.mul_one st]⟩;rw[L.aY st sI (Zn hk hi)];rcases aap k i with z|z
   .rw[h2 k z];exact iD.inv L sx (ZP hi) b2 k z
   .have e:k=i:=(acZ z hk);rw[e,<-b3,<-L.aY sx sI hi,L.bL sx,L.bK hi]
noncomputable def TL(Y:Pg α):List (Rg α)->List α
 |[]=>[Y.one]
 |R::l=>R.flatMap λe=>(TL Y l).map λw=>Y.mul w e.2
theorem nJ:∀{l:List (Rg α)}{t:α},t∈TL Y l↔H Y l t
 |[],t=>Zp
 |R::l,t=>by
  unfold TL;simp only[aaO,Zv];constructor
  .rintro⟨e,he,w,hw,rfl⟩;exact⟨e.1,e.2,w,he,nJ.mp hw,rfl⟩
  .rintro⟨p,u,w,hu,hw,e⟩;exact⟨(p,u),hu,w,nJ.mpr hw,e.symm⟩
theorem nK(L:cI Y):∀{l:List (Rg α)}{i:Nat},VL Y l i->(TL Y l).Nodup
 |[],_,_=>by simp[TL]
 |R::l,i,⟨hV,hi,hl⟩=>by
  have ih:=nK L hl;have good:∀w,w∈TL Y l->Y.S w/\iD Y w (i+1):=λw hw=>H.good L hl (nJ.mp hw);have key:∀{R':Rg α},(∀p u,(p,u)∈R'->Y.S u/\Y.im u i=p)->(R'.map (·.1)).Nodup ->(R'.flatMap λe=>(TL Y l).map λw=>Y.mul w e.2).Nodup :=λ{R'}=>by
   induction R' with
   |nil=>intro _ _;simp
   |cons e R' NH=>
    intro hs nd;rw[ZS,Z8]at nd;obtain⟨se,pe⟩:=hs e.1 e.2 Zt;rw[List.flatMap_cons,aaS];refine⟨?_,NH (λp u h=>hs p u (Zm _ h)) nd.2,λa ha b hb z=>?_⟩
    .refine aal.mpr (ih.imp_of_mem λ{a b} ha hb d_ lI=>d_ ?_);have sa:=(good a ha).1;have sb:=(good b hb).1;have sI:=L.si se;have:Y.mul (Y.mul a e.2) (Y.inv e.2)=Y.mul (Y.mul b e.2) (Y.inv e.2):=congrArg (λx=>Y.mul x (Y.inv e.2)) lI;rwa [L.assoc sa se sI,L.assoc sb se sI,L.bL se,L.mul_one sa,L.mul_one sb]at this
    .refine aa (Zv.mp ha) λw hw af=>?_;subst af;refine aa (aaO.mp hb) λe' zh ja=>aa (Zv.mp ja) λw' xh aK=>?_;subst aK;obtain⟨Yp,Yq⟩:=hs e'.1 e'.2 (Zm _ zh);have h1:Y.im (Y.mul w e.2) i=e.1:=by rw[L.aY (good w hw).1 se hi,(good w hw).2 i (Zu _),pe]
     have h2:Y.im (Y.mul w' e'.2) i=e'.1:=by rw[L.aY (good w' xh).1 Yp hi,(good w' xh).2 i (Zu _),Yq]
     rw[z,h2]at h1;exact nd.1 (Zv.mpr ⟨e',zh,h1⟩)
  exact key (λp u h=>⟨(hV.st p u h).1,(hV.st p u h).2.2⟩) hV.nd
end
open Py
noncomputable def pg(s:Nat):Pg aa2 where
 n:=s
 S:=λp=>p∈perms s
 mul:=comp
 inv:=ip
 one:=bW s
 im:=λp k=>(p.getD k 0).toNat
section
variable {s:Nat}
def LA(hp:p∈perms s)(hk:k<s):p.getD k 0∈p:=getD_mem (by rw[aD hp];exact hk)
def C4(hp:p∈perms s)(hk:k<s):0<=p.getD k 0/\p.getD k 0<s:=(az.mp hp).2.2 _ (LA hp hk)
def iL(hp:p∈perms s)(hk:k<s):p.getD k 0=(((pg s).im p k:Nat):Int):=by
 have:=C4 hp hk;show _=(((p.getD k 0).toNat :Nat):Int);exact aad (aba this.1)
def Gr(hp:p∈perms s)(hk:k<s):(comp p q).getD k 0=q.getD (p.getD k 0).toNat 0:=by
 have hl:k<p.length:=by rw[aD hp];exact hk
 unfold comp;rw[Zx,Zz,Zj hl,Zx (l:=p),Zj hl];rfl
def vL(hk:k<s):(bW s).getD k 0=(k:Int):=by
 unfold bW;rw[Zx,Zz,abq hk];rfl
def ah:cI (pg s) where
 s1:=dY s
 sm:=λha hb=>cG ha hb
 si:=λha=>fT ha
 assoc:=λha hb _=>iX ha hb
 mul_one:=λha=>jN ha
 one_mul:=λha=>nB ha
 bL:=λha=>Gh ha
 inv_mul:=λha=>xI ha
 bK:=λ{k} hk=>by
  show((bW s).getD k 0).toNat =k;rw[vL (s:=s) hk];exact adU _
 aY:=λ{a b k} ha hb hk=>by
  show((comp a b).getD k 0).toNat =(b.getD (a.getD k 0).toNat 0).toNat;rw[Gr ha hk]
 jR:=λ{a k} ha hk=>by
  have:=C4 ha hk;show(a.getD k 0).toNat<s;exact Io this.1 this.2
 ext:=λ{a b} ha hb h=>by
  apply aaG;intro k;rcases aap k s with z|z
  .have h1:=iL ha z;have h2:=iL hb z;have h3:=h k z;rw[h3]at h1;have e:a.getD k 0=b.getD k 0:=h1.trans h2.symm;rw[Zx,Zx]at e;have la:k<a.length:=by rw[aD ha];exact z
   have lb:k<b.length:=by rw[aD hb];exact z
   rw[Zj la,Zj lb]at e⊢;simpa using e
  .rw[ZR (by rw[aD ha];exact z),ZR (by rw[aD hb];exact z)]
theorem xP:∀{a b:List Int},a.length=b.length->(bJ.bC a b=true↔ ∃i,i<a.length/\(∀k,k<i->a.getD k 0=b.getD k 0)/\a.getD i 0<b.getD i 0)
 |[],[],_=>by simp[bJ.bC]
 |[],_::_,h=>by simp at h
 |_::_,[],h=>by simp at h
 |x::a,y::b,h=>by
  have hl:a.length=b.length:=by simpa using h
  unfold bJ.bC;by_cases e:x=y
  .rw[ZD e,xP hl];constructor
   .rintro⟨i,h1,h2,h3⟩;refine⟨i+1,by simpa using h1,λk hk=>?_,by simpa using h3⟩;cases k with
    |zero=>simpa using e
    |succ k=>simpa using h2 k (Z1 hk)
   .rintro⟨i,h1,h2,h3⟩;cases i with
    |zero=>
     have:x<y:=by simpa using h3
     exact absurd e (Int.ne_of_lt this)
    |succ i=>exact⟨i,by simpa using h1,λk hk=>by simpa using h2 (k+1) (aaq hk),by simpa using h3⟩
  .rw[ZL e];constructor
   .intro h;have:=of_decide_eq_true h;exact⟨0,by simp,λk hk=>(absurd hk (aah _)),by simpa using this⟩
   .rintro⟨i,h1,h2,h3⟩;cases i with
    |zero=>exact decide_eq_true (by simpa using h3)
    |succ i=>exact absurd (by simpa using h2 0 (acU _ _)) e
def Gs(ha:a∈perms s)(hb:b∈perms s):Lt (pg s) a b↔bJ.bC a b=true:=by
 have la:=aD ha;have lb:=aD hb;rw[xP (la.trans lb.symm),la];constructor
 .rintro⟨i,h1,h2,h3⟩;refine⟨i,h1,λk hk=>?_,?_⟩
  .rw[iL ha (abW hk h1),iL hb (abW hk h1),h2 k hk]
  .rw[iL ha h1,iL hb h1];lia
 .rintro⟨i,h1,h2,h3⟩;refine⟨i,h1,λk hk=>?_,?_⟩
  .show(a.getD k 0).toNat =(b.getD k 0).toNat;rw[h2 k hk]
  .have:=C4 ha h1;show(a.getD i 0).toNat<(b.getD i 0).toNat;lia
theorem C5(L:cI (pg s))(hG:∀u,G u->u∈perms s)(hu:Gen (pg s) G u):∀m,Gen (pg s) G (pw u m)
 |0=>by
  have hp:u∈perms s:=Gen.S L hG hu;have:pw u 0=bW s:=by show bW u.length=bW s;rw[aD hp]
  rw[this];exact .one
 |m+1=>by
  have:=Gen.app L hG (C5 L hG hu m) hu;exact this
def dZ(h6:s<=6)(hG:∀u,G u->u∈perms s):ef (pg s) (Gen (pg s) G) where
 s:=λt ht=>Gen.S ah hG ht
 one:= .one
 mul:=λa b ha hb=>Gen.app ah hG ha hb
 inv:=λa ha=>by
  have hp:a∈perms s:=Gen.S ah hG ha;refine Ak (C0 h6 hp) λo1 o2 o3 _=>?_;have e:comp a (pw a (zR a-1))=bW s:=by
   have:=CZ hp 1 (zR a-1);rw[Ls hp,show 1+(zR a-1)=zR a by exact ado _ _,o1]at this;exact this.symm
  have:ip a=pw a (zR a-1):=(zQ hp (jQ hp _) e).symm;show Gen (pg s) G (ip a);rw[this];exact C5 ah hG ha _
end
end eO
namespace eO
section
variable {α:Type}{Y:Pg α}
open Classical in
noncomputable def cM(Y:Pg α)(M:α->Prop)(i p:Nat):α:=@Classical.epsilon α ⟨Y.one⟩ (fH Y M i p)
def fI(h:fH Y M i p x):cM Y M i p=x:=(@aeJ α (fH Y M i p) ⟨x,h⟩).PJ h
open Classical in
noncomputable def cH(Y:Pg α)(M:α->Prop)(i:Nat):Rg α:=((List.range Y.n).filter λp=>decide (∃x,fH Y M i p x)).map λp=>(p,cM Y M i p)
def nL{l:List Nat}(h:l.Pairwise (· < ·)):l.Nodup:=h.imp λz e=>(aeF z (Zy (aad e)))
def PK{l m:List Nat}(h1:l.Pairwise (· < ·))(h2:m.Pairwise (· < ·))(h:∀a,a∈l↔a∈m):l=m:=
 ((acC (nL h1) (nL h2)).mpr h).eq_of_pairwise (λa b _ _ x y=>(acX (ZP x) (ZP y))) h1 h2
def C6(L:cI Y){i:Nat}(hi:i<Y.n)(hM:∀t,M t->Y.S t)(hb:∀p x,(p,x)∈R->fH Y M i p x)(ha:∀t,M t->iD Y t i->∃x,(Y.im t i,x)∈R)(hs:(R.map (·.1)).Pairwise (· < ·)):R=cH Y M i:=by
 have keys:R.map (·.1)=(List.range Y.n).filter λp=>@decide (∃x,fH Y M i p x) (Classical.propDecidable _):=by
  refine PK hs (adf.sublist (afi)) λp=>?_;rw[abD,Z9,Zv];constructor
  .rintro⟨⟨q,x⟩,h1,h2⟩;have OW:q=p:=h2;subst OW;have b:=hb q x h1;exact⟨by rw[<-b.2.2.1];exact L.jR (hM x b.1) hi,@decide_eq_true _ (Classical.propDecidable _) ⟨x,b⟩⟩
  .rintro⟨h1,h2⟩;obtain⟨x,b⟩:=@of_decide_eq_true _ (Classical.propDecidable _) h2;obtain⟨y,hy⟩:=ha x b.1 b.2.1;rw[b.2.2.1]at hy;exact⟨(p,y),hy,rfl⟩
 unfold cH;rw[<-keys,Z5];have:R=R.map id:=(afg R).symm
 conv=>lhs;rw[this]
 refine abH λe he=>?_;show e=(e.1,cM Y M i e.1);rw[fI (hb e.1 e.2 he)]
def C7:((cH Y M i).map (·.1)).Pairwise (· < ·):=by
 unfold cH;rw[Z5];have:((λx:Nat×α=>x.1) ∘ λp=>(p,cM Y M i p))=id:=rfl;rw[this,afg];exact adf.sublist afi
def nM:∀p x,(p,x)∈cH Y M i->fH Y M i p x:=λp x h=>by
 refine aa (Zv.mp h) λq hq e=>?_;cases e;obtain⟨y,hy⟩:=@of_decide_eq_true _ (Classical.propDecidable _) (abD.mp hq).2;rw[fI hy];exact hy
noncomputable def aJ(Y:Pg α)(M:α->Prop)(i:Nat):List (Rg α):=(List.range' i (Y.n-i)).map (cH Y M)
theorem um(L:cI Y)(hM:ef Y M)(uo:∀i t,i<Y.n->M t->iD Y t i->∃x,fH Y M i (Y.im t i) x):∀(m i:Nat),i+m=Y.n->Gq Y M ((List.range' i m).map (cH Y M)) i
 |0,i,h=>by
  show i=Y.n;exact h
 |m+1,i,h=>by
  rw[adA,ZS];have hi:i<Y.n:=(Uu (Zy h) (aai _ _));refine⟨hi,nM,λt ht hf=>?_,nL C7,um L hM uo m (i+1) (aeS (Z_ _ _ _) h)⟩;obtain⟨x,hx⟩:=uo i t hi ht hf;have hp:Y.im t i<Y.n:=L.jR (hM.s t ht) hi;exact⟨cM Y M i (Y.im t i),Zv.mpr ⟨Y.im t i,abD.mpr ⟨Z9.mpr hp,@decide_eq_true _ (Classical.propDecidable _) ⟨x,hx⟩⟩,rfl⟩⟩
theorem C8(f:β->Nat):∀{l:List β},l≠[]->∃e∈l,∀e'∈l,f e<=f e'
 |[],h=>absurd rfl h
 |[x],_=>⟨x,Zp.mpr rfl,λy hy=>by rw[Zp.mp hy];exact Zu _⟩
 |x::y::l,_=>by
  refine aa (C8 f (l:=y::l) aa9) λe h1 h2=>?_;by_cases c:f x<=f e
  .refine⟨x,Zt,λz hz=>?_⟩;rcases ZC.mp hz with rfl|hz
   .exact Zu _
   .exact Zr c (h2 z hz)
  .refine⟨e,Zm _ h1,λz hz=>?_⟩;rcases ZC.mp hz with rfl|hz
   .exact ZP (Nat.lt_of_not_le c)
   .exact h2 z hz
theorem LM.ex:∀{l:List (Rg α)}{i:Nat},VL Y l i->∀u,∃x,LM Y l u x
 |[],_,_,u=>⟨u,.nil⟩
 |R::l,i,⟨hV,_,hl⟩,u=>by
  refine aa (C8 (λe:Nat×α=>Y.im u e.1) (l:=R) (λz=>by have:=hV.one;rw[z]at this;cases this)) λe h1 h2=>?_;obtain⟨x,hx⟩:=LM.ex hl (Y.mul e.2 u);refine⟨x,.cons (p:=e.1) (v:=e.2) h1 (λq hq=>?_) hx⟩;refine aa (Zv.mp hq) λe' zh af=>?_;subst af;exact h2 e' zh
theorem Hm.xQ(L:cI Y)(hM:ef Y M):∀{l:List (Rg α)}{i:Nat},Hm Y M l i->∀j t,i<=j->j<Y.n->M t->iD Y t j->∃x,fH Y M j (Y.im t j) x
 |[],i,h,j,t,h1,h2,_,_=>by
  have:i=Y.n:=h.1;exact absurd h1 (aeF (Zn h2 (Zy (aad this))))
 |R::l,i,h,j,t,h1,h2,ht,hf=>by
  rcases aap i j with z|z
  .exact Hm.xQ L hM (h.tail L) j t (z) h2 ht hf
  .have e:j=i:=(acX z h1);subst e;refine bu (h.split L ht hf) λu w hu _ _=>?_;obtain⟨x,hx⟩:=LM.ex h.1.2.2 u;exact⟨x,h.best L hM hu hx⟩
def C9(L:cI Y)(hM:ef Y M)(h:Hm Y M l 0):Gq Y M (aJ Y M 0) 0/\(∀t,t∈TL Y (aJ Y M 0)↔M t)/\(TL Y (aJ Y M 0)).Nodup :=by
 have hl:Gq Y M (aJ Y M 0) 0:=um L hM (λi t hi ht hf=>h.xQ L hM i t (aak _) hi ht hf) _ 0 (aav _);have hm:=hl.hm L hM;refine⟨hl,λt=>?_,nK L hm.1⟩;rw[nJ,hm.2 t];exact⟨λz=>z.1,λz=>⟨z,λk hk=>(absurd hk (aah _))⟩⟩
def Fd.hm(L:cI Y)(hG:∀u,G u->Y.S u)(h:Fd Y G l []):Hm Y (Gen Y G) l 0:=
 ⟨h.v,λt=>⟨λz=>⟨(h.done L hG t).mp z,λk hk=>(absurd hk (aah _))⟩,λz=>(h.done L hG t).mpr z.1⟩⟩
end
section
variable {α β:Type}{act:β->α->β}{b t:β}{G D:List α}{B W:List β}
inductive DW(act:β->α->β)(b:β)(G:List α):β->Prop
 |one:DW act b G b
 |mul:DW act b G x->g∈G->DW act b G (act x g)
structure Al(act:β->α->β)(b:β)(G:List α)(B W:List β):Prop where
 one:b∈B
 nd:B.Nodup
 wb:∀x∈W,x∈B
 gen:∀x∈B,DW act b G x
 out:∀x∈B,x∉W->∀g∈G,act x g∈B
def Yr:Al act b G [b] [b] where
 one:=Zp.mpr rfl
 nd:=by simp
 wb:=λ_ h=>h
 gen:=λx hx=>by rw[Zp.mp hx];exact .one
 out:=λx hx h=>absurd hx h
structure Am(act:β->α->β)(b:β)(G:List α)(t:β)(D:List α)(B W:List β):Prop where
 one:b∈B
 nd:B.Nodup
 wb:∀x∈W,x∈B
 gen:∀x∈B,DW act b G x
 tb:t∈B
 out:∀x∈B,x∉W->x≠t->∀g∈G,act x g∈B
 now:∀g∈D,act t g∈B
def Al.start(h:Al act b G B (W++[t])):Am act b G t [] B W where
 one:=h.one
 nd:=h.nd
 wb:=λx hx=>h.wb x (ZO _ hx)
 gen:=h.gen
 tb:=h.wb t (ZH _ (Zp.mpr rfl))
 out:=λx hx h1 h2=>h.out x hx λz=>(ZI.mp z).elim h1 λz=>h2 (Zp.mp z)
 now:=λ_ h=>nomatch h
def Am.old(h:Am act b G t D B W)(hg:act t g∈B):Am act b G t (D++[g]) B W:=
 ⟨h.one,h.nd,h.wb,h.gen,h.tb,h.out,λx hx=>(ZI.mp hx).elim (h.now x) λz=>by rw[Zp.mp z];exact hg⟩
def Am.new(h:Am act b G t D B W)(hG:g∈G)(hg:act t g∉B):Am act b G t (D++[g]) (B++[act t g]) (W++[act t g]) where
 one:=ZO _ h.one
 nd:=by
  rw[aaS];exact⟨h.nd,by simp,λa ha b hb e=>hg (by rw[<-Zp.mp hb,<-e];exact ha)⟩
 wb:=λx hx=>(ZI.mp hx).elim (λz=>ZO _ (h.wb x z)) λz=>ZH _ z
 gen:=λx hx=>(ZI.mp hx).elim (h.gen x) λz=>by
  rw[Zp.mp z];exact .mul (h.gen t h.tb) hG
 tb:=ZO _ h.tb
 out:=λx hx h1 h2 g' DV=>by
  rcases ZI.mp hx with z|z
  .exact ZO _ (h.out x z (λy=>h1 (ZO _ y)) h2 g' DV)
  .exact absurd (ZH _ z) h1
 now:=λx hx=>(ZI.mp hx).elim (λz=>ZO _ (h.now x z)) λz=>by
  rw[Zp.mp z];exact ZH _ (Zp.mpr rfl)
def Am.fin[DecidableEq β](h:Am act b G t D B W)(hD:∀g∈G,g∈D):Al act b G B W where
 one:=h.one
 nd:=h.nd
 wb:=h.wb
 gen:=h.gen
 out:=λx hx hw g hg=>by
  by_cases e:x=t
  .rw[e];exact h.now g (hD g hg)
  .exact h.out x hx hw e g hg
def Al.done(h:Al act b G B [])(t:β):t∈B↔DW act b G t:=by
 refine⟨h.gen t,λz=>?_⟩;induction z with
 |one=>exact h.one
 |mul _ hu ih=>exact h.out _ ih aa9 _ hu
end
def xS:DW Py.comp (Py.bW s) G t↔Gen (pg s) (· ∈G) t:=by
 constructor
 .intro h;induction h with
  |one=>exact .one
  |mul _ hu ih=>exact .mul ih hu
 .intro h;induction h with
  |one=>exact .one
  |mul _ hu ih=>exact .mul ih hu
def C_(hG:∀u∈G,u∈Py.perms s)(h:DW Py.comp (Py.bW s) G t):t∈Py.perms s:=Gen.S ah hG (xS.mp h)
end eO
namespace et
open Py
noncomputable abbrev lo1:C:=(.seq (.ifs (.AZ true (.idx (.var 2) (.var 3)) 4) (.seq (.ret (.var 2)) .skip) .skip) (.seq (.asg 2 (.call 1 (.w 2 (.o (.call 2 (.o (.mr 4 (.idx (.var 2) (.var 3))))))))) .skip))
noncomputable abbrev TZ:C:=(.seq (.app 2 (.call 1 (.w 1 (.u 4)))) (.seq (.app 2 (.call 1 (.w 4 (.u 1)))) .skip))
noncomputable abbrev T3:C:=(.seq (.for [4] 0 (.dv 3) TZ) .skip)
noncomputable abbrev T4:C:=(.seq (.asg 5 (.prim .min (.o (.comp [3] 0 (.dk 4) .nil (.idx (.var 1) aa_))))) (.seq (.asg 3 (.call 1 (.cons (.mr 4 (.eL .index (.var 3) (.u 5))) (.u 3)))) .skip))
noncomputable abbrev oT:E:= .it (.sl aa_ (.o (.bin .Add (.var 1) (.ci 1))) .nil)
noncomputable abbrev oR:E:= .call 6 (.w 1 (.w 2 (.o (.mr 3 aa_))))
noncomputable abbrev oS:E:= .tup (.w 0 (.o oR))
noncomputable abbrev Q0:C:=(.seq (.asg 7 (.call 24 (.w 5 (.u 6)))) (.seq (.ifs (.AZ true (.var 7) 3) (.seq (.yO 3 (.var 7) (.c (.bl true))) (.seq (.app 4 (.var 7)) .skip)) .skip) .skip))
noncomputable abbrev PL:C:=(.seq (.pop 5 4) (.seq (.for [6] 0 (.it aa_) Q0) .skip))
noncomputable abbrev Ia:E:=(.comp [3,5] 0 (.it aa_) (.o (.uY true (.cons (.cmp .Eq (.sl aa_ .nil (.u 1)) (.rM .tuple (.u 1))) (.o (.cmp .Eq (.idx aa_ (.var 1)) (.var 2)))))) aa_)
noncomputable abbrev VG:C:=(.seq (.cU 6 Ia) (.seq (.ifs (.cmp .NotEq (.var 6) (.lst .nil)) (.seq (.app 4 (.tup (.w 5 (.o (.prim .min (.u 6)))))) .skip) .skip) .skip))
noncomputable abbrev VH:C:=(.seq (.cU 4 (.lst .nil)) (.seq (.for [5] 0 (.gi (.u 1)) VG) (.seq (.app 2 (.prim .tuple (.u 4))) .skip)))
noncomputable abbrev Q1:E:= .comp [] 0 (.it (.var 2)) .nil (.idx aa_ (.ci 1))
noncomputable abbrev PM:C:=(.seq (.cU 6 (.comp [] 0 (.it (.var 5)) .nil (.idx aa_ (.ci 0)))) (.seq (.ifs (.cmp .NotIn (.idx (.var 3) (.var 4)) (.var 6)) (.seq (.ret (.c .cx)) .skip) .skip) (.seq (.asg 7 (.eL .qt (.var 6) (.o (.idx (.var 3) (.var 4))))) (.seq (.asg 2 (.bin .Add (.bin .Mult (.var 2) (.prim .len (.u 5))) (.var 7))) (.seq (.asg 3 (.call 1 (.w 3 (.o (.call 2 (.o (.idx (.idx (.var 5) (.var 7)) (.ci 1)))))))) .skip)))))
noncomputable abbrev PN:C:=(.seq (.asg 3 (.prim .sorted (.o (.comp [2] 0 (.it aa_) .nil (.call 24 (.w 1 (.u 0))))))) (.seq (.ifs (.cmp .NotEq (.var 3) (.prim .sorted (.o (.comp [2] 0 (.it aa_) .nil (.call 24 (.w 0 (.u 1))))))) (.seq (.ret (.c (.bl false))) .skip) .skip) .skip))
noncomputable abbrev Ys:C:=(.seq (.asg 3 (.call 8 (.cons (.bin .Add (.call 9 (.u 3)) (.tup (.u 7))) (.o (.prim .len (.u 3)))))) (.seq (.app 4 (.var 7)) .skip))
noncomputable abbrev Q2:C:=(.seq (.asg 7 (.call 13 (.w 5 (.u 6)))) (.seq (.ifs (.not (.call 10 (.w 3 (.u 7)))) Ys .skip) .skip))
noncomputable abbrev Q3:C:=(.seq (.pop 5 4) (.seq (.for [6] 0 (.it (.var 2)) Q2) .skip))
noncomputable abbrev VI:C:=(.seq (.ifs (.uY true (.cons (.cmp .Eq (.var 5) (.ci 2)) (.o (.cmp .NotEq (.var 3) (.tup .nil))))) (.seq (.asg 4 (.tup (.o (.call 24 (.cons (.idx (.var 3) (.ci 0)) (.o (.idx (.var 3) (.neg (.ci 1))))))))) .skip) .skip) (.seq (.ret (.tup (.w 2 (.w 3 (.u 4))))) .skip))
noncomputable abbrev T5:E:=(.comp [11] 0 (.it (.var 4)) .nil (.call 24 (.cons (.call 24 (.cons (.call 25 (.u 1)) (.u 0))) (.u 1))))
noncomputable abbrev Q4:C:=(.seq (.cU 10 (.bin .Add (.var 10) T5)) .skip)
noncomputable abbrev Yt:C:=(.seq (.asg 12 (.call 26 (.cons (.sset (.var 10)) (.u 2)))) (.seq (.ifs (.uY false (.cons (.not (.call 29 (.w 12 (.u 7)))) (.o (.cmp .NotEq (.comp [12] 0 (.it (.var 8)) (.o (.cmp .NotIn aa_ (.var 1))) aa_) (.lst .nil))))) (.seq (.ret (.c (.bl false))) .skip) .skip) (.seq (.ret (.uY true (.cons (.cmp .Eq (.call 18 (.w 6 (.u 5))) (.call 27 (.w 12 (.u 2)))) (.o (.call 17 (.cons (.call 18 (.w 6 (.u 5))) (.u 5))))))) .skip)))
noncomputable abbrev T6:C:=(.seq (.asg 5 (.call 8 (.w 3 (.u 2)))) (.seq (.asg 6 (.call 8 (.w 4 (.u 2)))) (.seq (.asg 7 (.call 26 (.w 3 (.u 2)))) (.seq (.asg 8 (.call 26 (.w 4 (.u 2)))) (.seq (.ifs (.cmp .NotEq (.comp [7] 0 (.it (.var 8)) (.o (.cmp .NotIn aa_ (.var 1))) aa_) (.lst .nil)) (.seq (.ret (.c (.bl true))) .skip) .skip) (.seq (.asg 9 (.call 17 (.w 6 (.u 5)))) (.seq (.ifs (.uY false (.cons (.not (.Jx (.var 9))) (.o (.cmp .NotEq (.var 9) (.call 29 (.w 8 (.u 7))))))) (.seq (.ret (.c (.bl false))) .skip) .skip) (.seq (.cU 10 (.lst .nil)) (.seq (.for [11] 0 (.it (.var 7)) Q4) Yt)))))))))
noncomputable def d3:Fd:=⟨2,5,(.seq (.asg 2 (.var 1)) (.seq (.for [3,4] 2 (.Ae aa_) lo1) (.seq (.ret (.var 2)) .skip)))⟩
noncomputable def d4:Fd:=⟨2,5,(.seq (.cU 2 (.lst .nil)) (.seq (.for [3] 0 (.it aa_) T3) (.seq (.ret (.var 2)) .skip)))⟩
noncomputable def d5:Fd:=⟨2,7,(.fst 2 [1] (.gi (.u 1)) aa_ (.call 0 (.u 1)) (.cU 3 (.prim .list (.u 0))) 3 4 3 (.cU 5 (.comp [4] 0 (.gi (.u 1)) (.o (.cmp .NotEq (.idx (.var 1) aa_) aa_)) aa_)) 5 (.asg 6 (.idx (.var 5) (.ci 0))) (.var 6) (.idx (.var 4) (.var 6)) (.var 4) 4 (.var 4))⟩
noncomputable def d6:Fd:=⟨3,6,(.seq (.asg 3 (.var 2)) (.seq (.for [4] 0 oT T4) (.seq (.ret (.var 3)) .skip)))⟩
noncomputable def d7:Fd:=⟨2,3,(.seq (.asg 2 (.idx aa_ (.var 1))) (.seq (.ret (.prim .tuple (.o (.comp [0,1,2] 0 (.it (.iF 2)) .nil oS)))) .skip))⟩
noncomputable def d8:Fd:=⟨2,3,(.seq (.asg 2 (.call 5 (.w 0 (.u 1)))) (.seq (.ret (.prim .tuple (.o (.comp [2] 0 (.gi (.u 1)) .nil (.call 7 (.w 1 (.u 0))))))) .skip))⟩
noncomputable def d9:Fd:=⟨1,3,(.seq (.cU 1 (.lst .nil)) (.seq (.for [2] 0 (.it aa_) (.seq (.ext 1 Q1) .skip)) (.seq (.ret (.prim .tuple (.u 1))) .skip)))⟩
noncomputable def PQ:Fd:=⟨2,2,(.seq (.ret (.cmp .IsNot (.call 11 (.w 0 (.u 1))) (.c .cx))) .skip)⟩
noncomputable def PR:Fd:=⟨2,8,(.seq (.asg 2 (.ci 0)) (.seq (.asg 3 (.var 1)) (.seq (.for [4,5] 2 (.Ae aa_) PM) (.seq (.ret (.var 2)) .skip))))⟩
noncomputable def PU:Fd:=⟨2,2,(.seq (.ret (.prim .all (.o (.comp [1] 0 (.it (.call 9 (.u 0))) .nil (.call 10 (.w 1 (.u 0))))))) .skip)⟩
noncomputable def LB:Fd:=⟨2,2,(.seq (.ret (.call 1 (.cons (.call 1 (.cons (.call 2 (.u 1)) (.u 0))) (.u 1)))) .skip)⟩
noncomputable def PV:Fd:=⟨2,2,(.seq (.ret (.prim .tuple (.o (.comp [1] 0 (.it (.call 9 (.u 0))) .nil (.call 13 (.w 0 (.u 1))))))) .skip)⟩
noncomputable def LC:Fd:=⟨2,2,(.seq (.ifs (.not (.call 12 (.w 0 (.u 1)))) (.seq (.raise 3) .skip) .skip) .skip)⟩
noncomputable def PX:Fd:=⟨2,2,(.seq (.ret (.prim .all (.o (.comp [0] 0 (.it (.call 14 (.w 0 (.u 1)))) .nil (.call 10 (.w 1 (.u 0))))))) .skip)⟩
noncomputable def PY:Fd:=⟨2,2,(.seq (.expr (.call 15 (.w 0 (.u 1)))) (.seq (.ret (.prim .all (.o (.comp [0] 0 (.it (.call 9 (.u 1))) .nil (.call 16 (.w 1 (.u 0))))))) .skip))⟩
noncomputable def T7:Fd:=⟨2,8,(.seq (.expr (.call 15 (.w 0 (.u 1)))) (.seq (.asg 2 (.call 9 (.u 1))) (.seq (.asg 3 aa_) (.seq (.cU 4 (.prim .list (.o (.call 9 (.u 0))))) (.seq (.mC 4 Q3) (.seq (.ret (.var 3)) .skip))))))⟩
noncomputable def Mx:Fd:=⟨2,8,(.seq (.asg 2 (.rM .tuple (.u 1))) (.seq (.u0 3 1 (.w 2 (.o (.c (.bl true))))) (.seq (.cU 4 (.lst (.u 2))) (.seq (.while (.cmp .NotEq (.var 4) (.lst .nil)) PL) (.seq (.ret (.iF 3)) .skip)))))⟩
noncomputable def PZ:Fd:=⟨2,7,(.seq (.cU 2 (.lst .nil)) (.seq (.for [3] 0 (.gi (.u 1)) VH) (.seq (.ret (.prim .tuple (.u 2))) .skip)))⟩
noncomputable def My:Fd:=⟨2,6,(.seq (.asg 2 (.bin .Add (.ci 1) (.bin .Mod (.call 20 (.w 0 (.o (.ci 0)))) (.var 1)))) (.seq (.asg 3 (.call 23 (.cons (.call 20 (.w 0 (.o (.ci 1)))) (.u 2)))) (.seq (.asg 4 (.call 23 (.cons (.call 20 (.w 0 (.o (.ci 2)))) (.u 2)))) (.seq (.asg 5 (.bin .Mod (.call 20 (.w 0 (.o (.ci 3)))) (.ci 3))) (.seq (.ifs (.cmp .Eq (.var 5) (.ci 1)) (.seq (.asg 4 (.sl (.var 4) .nil (.o (.ci 1)))) (.seq (.asg 3 (.sl (.bin .Add (.var 3) (.var 4)) .nil (.o (.ci 6)))) .skip)) .skip) VI)))))⟩
noncomputable def Mz:Fd:=⟨2,4,(.seq (.for [2] 0 (.it (.var 1)) PN) (.seq (.ret (.c (.bl true))) .skip))⟩
noncomputable def LD:Fd:=⟨1,2,(.seq (.asg 1 (.tup (.cons (.tup (.cons (.tup (.cons (.ci 1) (.cons (.ci 0) (.cons (.ci 2) (.cons (.ci 3) (.cons (.ci 4) (.o (.ci 5)))))))) (.o (.tup (.cons (.ci 0) (.cons (.ci 1) (.cons (.ci 3) (.cons (.ci 2) (.cons (.ci 5) (.o (.ci 4))))))))))) (.cons (.tup (.cons (.tup (.cons (.ci 1) (.cons (.ci 2) (.cons (.ci 0) (.cons (.ci 4) (.cons (.ci 5) (.o (.ci 3)))))))) (.o (.tup (.cons (.ci 3) (.cons (.ci 4) (.cons (.ci 5) (.cons (.ci 0) (.cons (.ci 1) (.o (.ci 2))))))))))) (.o (.tup (.o (.tup (.cons (.ci 1) (.cons (.ci 2) (.cons (.ci 3) (.cons (.ci 4) (.cons (.ci 5) (.o (.ci 0))))))))))))))) (.seq (.asg 1 (.bin .Add (.var 1) (.tup (.o (.tup (.cons (.tup (.cons (.ci 1) (.cons (.ci 2) (.cons (.ci 3) (.cons (.ci 4) (.cons (.ci 5) (.o (.ci 0)))))))) (.o (.tup (.cons (.ci 5) (.cons (.ci 4) (.cons (.ci 3) (.cons (.ci 2) (.cons (.ci 1) (.o (.ci 0))))))))))))))) (.seq (.asg 1 (.bin .Add (.var 1) (.tup (.o (.tup (.cons (.tup (.cons (.ci 1) (.cons (.ci 2) (.cons (.ci 0) (.cons (.ci 3) (.cons (.ci 4) (.o (.ci 5)))))))) (.cons (.tup (.cons (.ci 0) (.cons (.ci 1) (.cons (.ci 2) (.cons (.ci 4) (.cons (.ci 5) (.o (.ci 3)))))))) (.o (.tup (.cons (.ci 1) (.cons (.ci 0) (.cons (.ci 2) (.cons (.ci 3) (.cons (.ci 4) (.o (.ci 5)))))))))))))))) (.seq (.ret (.idx (.var 1) (.bin .Mod aa_ (.ci 5)))) .skip))))⟩
noncomputable def P0:Fd:=⟨1,13,(.seq (.asg 1 (.ci 4)) (.seq (.ifs (.cmp .Eq (.bin .Mod (.call 20 (.w 0 (.o (.ci 5)))) (.ci 5)) (.ci 1)) (.seq (.asg 1 (.ci 5)) .skip) .skip) (.seq (.uZ [2,3,4] (.call 28 (.w 0 (.u 1)))) (.seq (.ifs (.cmp .Eq (.bin .Mod (.call 20 (.w 0 (.o (.ci 5)))) (.ci 5)) (.ci 2)) (.seq (.asg 2 (.ci 6)) (.seq (.asg 3 (.call 30 (.o (.bin .FloorDiv (.call 20 (.w 0 (.o (.ci 5)))) (.ci 5))))) (.seq (.asg 4 (.sl (.var 3) .nil (.o (.bin .Mod (.bin .FloorDiv (.call 20 (.w 0 (.o (.ci 5)))) (.ci 25)) (.bin .Add (.prim .len (.u 3)) (.ci 1)))))) .skip))) .skip) T6))))⟩
noncomputable def T:List Fd:=[jO,eI,nE,d3,d4,d5,d6,d7,d8,d9,PQ,PR,PU,LB,PV,LC,PX,PY,T7,gK,nv 19,hU,kE 21,iK 22 21,eI,fU,Mx,PZ,My,Mz,LD,P0]
open eO
noncomputable abbrev kR(R:Rg aa2):List aa2:=R.map λe=>[(e.1:Int)]
noncomputable abbrev vR(R:Rg aa2):List D:=R.map λe=>tp e.2
noncomputable def aE(R:Rg aa2):D:= .bI 0 (kR R) (vR R)
theorem ie:∀(R:Rg aa2) (k:Nat),iw (kR R) (vR R) [(k:Int)]=(dB R k).map tp
 |[],k=>rfl
 |e::R,k=>by
  show iw ([(e.1:Int)]::kR R) (tp e.2::vR R) [(k:Int)]=_;rw[iw];unfold dB;rw[abG];by_cases h:e.1=k
  .subst h;rw[ZD rfl];simp
  .have h':¬([(e.1:Int)]=[(k:Int)]):=λz=>h (by injection z with z _;exact aca z);rw[ZL h',ie R k];have:(e.1==k)=false:=by simp[h]
   rw[this];rfl
def C'{k:Nat}:[(k:Int)]∈kR R↔dB R k≠none:=by
 constructor
 .intro h z;refine aa (Zv.mp h) λe he hk=>?_;have:e.1=k:=by injection hk with hk _;exact aca hk
  exact ic z (Zv.mpr ⟨e,he,this⟩)
 .intro h;cases z:dB R k with
  |none=>exact absurd z h
  |some u=>exact Zv.mpr ⟨_,b9 z,rfl⟩
section
variable {s:Nat}{F:FT}
def gN(ht:t∈perms s)(hk:k<s):item (tp t) (.int k)=some (.int ((pg s).im t k:Nat)):=by
 rw[xH (Z6 _) (by rw[aD ht];lia)];show some (D.int (t.getD (k:Int).toNat 0))=_;rw[aaE,iL ht hk]
def rD(a b:Nat):((a:Int)==(b:Int))=decide (a=b):=by
 by_cases h:a=b
 .rw[h,decide_eq_true rfl];exact beq_self_eq_true _
 .rw[decide_eq_false h];exact beq_eq_false_iff_ne.mpr λz=>h (aca z)
theorem VL.len:∀{l:List (Rg aa2)}{i:Nat},VL Y l i->i+l.length=Y.n
 |[],i,h=>h
 |R::l,i,h=>by
  have:=VL.len h.2.2;rw[ZM];lia
noncomputable abbrev LE(x0 x1:Option (Bool×D))(t:List Int)(x3 x4:Option (Bool×D)):Env:=[x0,x1,vf (tp t),x3,x4]
def Gu(ht:aa7)(hb:∀p∈perms s,F 2 [tp p]=some (tp (ip p))){x0 x1 x3 x4:Option (Bool×D)}(hi:i<s)(hv:V (pg s) i R)(hp:t∈perms s):
  ex F lo1 (LE x0 x1 t (vf (.int i)) (vf (aE R)))=match dB R ((pg s).im t i)with
   |some u=>some (.next (LE x0 x1 (comp t (ip u)) (vf (.int i)) (vf (aE R))))
   |none=>some (.ret (tp t)):=by
 have Gv:ev F false (.AZ true (.idx (.var 2) (.var 3)) 4) (LE x0 x1 t (vf (.int i)) (vf (aE R)))=some (.bl (!decide ([((pg s).im t i:Int)]∈kR R))):=by
  rw[Sf,show ev F false (.idx (.var 2) (.var 3)) (LE x0 x1 t (vf (.int i)) (vf (aE R)))=_ from gN hp hi];rfl
 cases e:dB R ((pg s).im t i)with
 |none=>
  rw[decide_eq_false λz=>C'.mp z e]at Gv;exact xZ Gv rfl
 |some u=>
  rw[decide_eq_true (C'.mpr (by rw[e];simp))]at Gv;have hu:u∈perms s:=(hv.st _ _ (b9 e)).1;refine xN Gv (xA (ak (aZ rfl (ak (fG (VA (q:=(0,kR R,vR R)) rfl (gN hp hi) ?_)) (hb u hu) (aw _))) (ht t hp _ (fT hu)) (aw _)) rfl);show iw (kR R) (vR R) [((pg s).im t i:Int)]=_;rw[ie,e];rfl
theorem xT(ht:aa7)(hb:∀p∈perms s,F 2 [tp p]=some (tp (ip p))){x0 x1:Option (Bool×D)}:∀{l:List (Rg aa2)}{i:Nat}{t:List Int}{x3 x4:Option (Bool×D)},VL (pg s) l i->t∈perms s->
  ∃o,aN (λx ρ=>(ay 2 x).bind λys=>(cc ρ [3,4] ys).bind λρ'=>ex F lo1 ρ') (aQ i (l.map aE)) (LE x0 x1 t x3 x4)=some o/\(o= .ret (tp (du (pg s) l i t))\/∃y3 y4,o= .next (LE x0 x1 (du (pg s) l i t) y3 y4))
 |[],i,t,x3,x4,_,_=>⟨_,rfl,.inr ⟨x3,x4,rfl⟩⟩
 |R::l,i,t,x3,x4,hv,hp=>by
  have hi:i<s:=hv.2.1;have h1:=Gu (x0:=x0) (x1:=x1) (x3:=x3) (x4:=x4) ht hb hi hv.1 hp;show∃o,aN _ (.tup [.int i,aE R]::aQ ((i:Int)+1) (l.map aE)) _=some o/\_;rw[aN];show∃o,(ex F lo1 (LE x0 x1 t (vf (.int i)) (vf (aE R)))).bind _=some o/\_;rw[h1];unfold du;cases e:dB R ((pg s).im t i)with
  |none=>exact⟨_,rfl,.inl rfl⟩
  |some u=>
   have hu:u∈perms s:=(hv.1.st _ _ (b9 e)).1;have:=xT ht hb (x0:=x0) (x1:=x1) (l:=l) (i:=i+1) (t:=comp t (ip u)) (x3:=vf (.int i)) (x4:=vf (aE R)) hv.2.2 (cG hp (fT hu));rw[show(((i+1:Nat):Int))=(i:Int)+1 by exact Int.natCast_add _ _]at this;exact this
def Gw(ht:aa7)(hb:∀p∈perms s,F 2 [tp p]=some (tp (ip p)))(hv:VL (pg s) l 0)(hp:t∈perms s):
  ex F d3.body (av d3 [.lst (l.map aE),tp t])=some (.ret (tp (du (pg s) l 0 t))):=by
 refine aa (xT ht hb (x0:=vf (.lst (l.map aE))) (x1:=vf (tp t)) (x3:=none) (x4:=none) hv hp) λo h1 h2=>?_;rcases h2 with rfl|⟨y3,y4,rfl⟩
 .exact xA rfl (HW h1)
 .exact xA rfl (xG h1 (xR rfl))
noncomputable def uq(r:List Int)(R:Rg aa2):List aa2:=R.flatMap λe=>[comp r e.2,comp e.2 r]
noncomputable def bE(r:List Int)(l:List (Rg aa2)):List aa2:=l.flatMap (uq r)
theorem jS(r:List Int):∀R:Rg aa2,(uq r R).length =2*R.length
 |[]=>rfl
 |e::R=>by
  show([comp r e.2,comp e.2 r]++uq r R).length =_;rw[Zw,jS r R,ZM];simp;exact ado _ _
noncomputable abbrev PE(x0:Option (Bool×D))(r:List Int)(acc:List aa2)(x3 x4:Option (Bool×D)):Env:=[x0,vf (tp r),some (true,.lst (acc.map tp)),x3,x4]
def fJ(h:ev F false e ρ=some d)(hi:ρ[i]?=some (some (true,.lst xs)))(hl:xs.length<bV):ex F (.app i e) ρ=some (.next (put ρ i true (.lst (xs++[d])))):=by
 rw[Sh,h];show(match ρ[i]? with
  |some (some (true,.lst xs))=>if xs.length<bV then some (kQ.next (put ρ i true (.lst (xs++[d])))) else none
  |_=>none)=_
 rw[hi];exact ZD hl
def Gx(ht:aa7)(hr:r∈perms s)(hu:u∈perms s)(hl:acc.length+2<=10000):
  ex F TZ (PE x0 r acc x3 (vf (tp u)))=some (.next (PE x0 r (acc++[comp r u,comp u r]) x3 (vf (tp u)))):=by
 have e2:acc.map tp++[tp (comp r u)]++[tp (comp u r)]=(acc++[comp r u,comp u r]).map tp:=by rw[Z3,ZW];rfl
 refine xG (fJ (ak (aZ rfl rfl) (ht r hr u hu) (aw _)) (xs:=acc.map tp) rfl ?_) (xG (fJ (ak (aZ rfl rfl) (ht u hu r hr) (aw _)) (xs:=acc.map tp++[tp (comp r u)]) rfl ?_) (by rw[e2];rfl))
 .rw[Zo];exact Zn (ZP hl) aa1
 .rw[Zw,Zo];exact Zn hl aa1
theorem Ib(ht:aa7)(hr:r∈perms s):∀{R:Rg aa2}{acc:List aa2}{x4:Option (Bool×D)},(∀e∈R,e.2∈perms s)->acc.length+2*R.length<=10000->
  ∃y4,aN (λx ρ=>(ay 0 x).bind λys=>(cc ρ [4] ys).bind λρ'=>ex F TZ ρ') (vR R) (PE x0 r acc x3 x4)=some (.next (PE x0 r (acc++uq r R) x3 y4))
 |[],acc,x4,_,_=>⟨x4,by show some (kQ.next _)=_;rw[show uq r []=[] from rfl,aaf]⟩
 |e::R,acc,x4,h,hl=>by
  rw[ZM]at hl;have hu:=h e Zt;obtain⟨y4,ih⟩:=Ib ht (x0:=x0) (x3:=x3) hr (R:=R) (acc:=acc++[comp r e.2,comp e.2 r]) (x4:=vf (tp e.2)) (λe' zh=>h e' (Zm _ zh)) (by rw[Zw];simp;exact MF (Z_ _ _ _) hl);refine⟨y4,?_⟩;exact(fE (Gx ht hr hu (rQ hl (acU _ _)))).trans (by rw[ih,ZW];rfl)
theorem Dc(ht:aa7)(hr:r∈perms s):∀{l:List (Rg aa2)}{acc:List aa2}{x3 x4:Option (Bool×D)},(∀R∈l,∀e∈R,e.2∈perms s)->acc.length+(bE r l).length <=10000->
  ∃y3 y4,aN (λx ρ=>(ay 0 x).bind λys=>(cc ρ [3] ys).bind λρ'=>ex F T3 ρ') (l.map aE) (PE x0 r acc x3 x4)=some (.next (PE x0 r (acc++bE r l) y3 y4))
 |[],acc,x3,x4,_,_=>⟨x3,x4,by show some (kQ.next _)=_;rw[show bE r []=[] from rfl,aaf]⟩
 |R::l,acc,x3,x4,h,hl=>by
  have e0:bE r (R::l)=uq r R++bE r l:=rfl;rw[e0,Zw,jS]at hl;obtain⟨z4,i1⟩:=Ib ht (x0:=x0) (x3:=vf (aE R)) hr (R:=R) (acc:=acc) (x4:=x4) (h R Zt) (Ut hl (acG (aai _ _) _));refine D2 (Dc ht (x0:=x0) hr (l:=l) (acc:=acc++uq r R) (x3:=vf (aE R)) (x4:=z4) (λR' Yu=>h R' (Zm _ Yu)) (by rw[Zw,jS];exact MF (abA _ _ _) hl)) λy3 y4 ih=>⟨y3,y4,?_⟩;refine aeS (fE (c:=T3) (xG i1 rfl)) ?_;rw[ih,e0,ZW]
def Gy(ht:aa7)(hr:r∈perms s)(h:∀R∈l,∀e∈R,e.2∈perms s)(hl:(bE r l).length <=10000):
  ex F d4.body (av d4 [.lst (l.map aE),tp r])=some (.ret (.lst ((bE r l).map tp))):=
 D2 (Dc ht (x0:=vf (.lst (l.map aE))) hr (l:=l) (acc:=[]) (x3:=none) (x4:=none) h (by simpa using hl)) λy3 y4 h1=>xB (xs:=[]) rfl (xG h1 (xR rfl))
end
end et
namespace eO
section
variable {α:Type}{Y:Pg α}
theorem lQ(hM:ef Y M):∀{l:List (Rg α)}{i:Nat}{t:α},(∀u,St l u->M u)->M t->M (du Y l i t)
 |[],_,_,_,h=>h
 |R::l,i,t,hs,h=>by
  unfold du;cases e:dB R (Y.im t i)with
  |none=>exact h
  |some u=>exact lQ hM (λv ⟨R',hR,q⟩=>hs v ⟨R',Zm _ hR,q⟩) (hM.mul _ _ h (hM.inv _ (hs u ⟨R,Zt,_,b9 e⟩)))
theorem xU:∀{l:List (Rg α)}{k:Nat}{R:Rg α},l[k]?=some R->add l k x=l.set k (R++[x])
 |[],_,_,h=>by simp at h
 |R::l,0,_,h=>by simp at h;subst h;rfl
 |R::l,k+1,R',h=>by
  show R::add l k x=R::l.set k (R'++[x]);rw[xU (by simpa using h)]
noncomputable def cnt:List (Rg α)->Nat
 |[]=>0
 |R::l=>R.length+cnt l
theorem xV:∀{l:List (Rg α)}{k:Nat}{R:Rg α},l[k]?=some R->cnt (add l k x)=cnt l+1
 |[],_,_,h=>by simp at h
 |R::l,0,_,h=>by
  show(R++[x]).length+cnt l=R.length+cnt l+1;rw[Zw,aab];exact Z_ _ _ _
 |R::l,k+1,R',h=>by
  show R.length+cnt (add l k x)=R.length+cnt l+1;rw[xV (by simpa using h)];exact adU _
def Dd{l:List Nat}(nd:l.Nodup)(h:∀k∈l,k<n):l.length<=n:=by
 have:(l.map λk:Nat=>(k:Int)).length <=n:=Py.rA n _ (by
  rw[Z7,aal];exact nd.imp λh e=>h (aca e)) λx hx=>by
   refine aa (Zv.mp hx) λk hk af=>?_;subst af;have:=h k hk;lia
 rwa [Zo]at this
theorem rE(L:cI Y):∀{l:List (Rg α)}{i:Nat},VL Y l i->cnt l<=l.length*Y.n
 |[],_,_=>by simp[cnt]
 |R::l,i,⟨hv,hi,hl⟩=>by
  have h1:R.length<=Y.n:=by
   have:=Dd hv.nd (n:=Y.n) λp hp=>by
    refine aa (Zv.mp hp) λe he af=>?_;subst af;refine cP (hv.st e.1 e.2 he) λs1 _ s3=>?_;rw[<-s3];exact L.jR s1 hi
   rwa [Zo]at this
  have:=rE L hl;show R.length+cnt l<=(l.length+1)*Y.n;rw[Nat.add_mul];lia
end
end eO
namespace et
open Py eO
section
variable {s:Nat}{F:FT}
theorem kF(r:List Int):∀l:List (Rg aa2),(bE r l).length =2*cnt l
 |[]=>rfl
 |R::l=>by
  show(uq r R++bE r l).length =2*(R.length+cnt l);rw[Zw,jS,kF r l];lia
def zS(h:St l u):comp u r∈bE r l/\comp r u∈bE r l:=by
 obtain⟨R,hR,p,hp⟩:=h;have h1:∀x,x∈[comp r u,comp u r]->x∈bE r l:=λx hx=>aaO.mpr ⟨R,hR,aaO.mpr ⟨(p,u),hp,hx⟩⟩;exact⟨h1 _ aa9,h1 _ aa9⟩
def Df(hM:ef (pg s) M)(hr:M r)(hs:∀u,St l u->M u):∀x∈bE r l,M x:=λx hx=>by
 refine aa (aaO.mp hx) λR hR hx=>aa (aaO.mp hx) λe he hx=>?_;have hu:=hs e.2 ⟨R,hR,e.1,he⟩;rcases ZC.mp hx with z|z
 .rw[z];exact hM.mul _ _ hr hu
 .rw[Zp.mp z];exact hM.mul _ _ hu hr
noncomputable def kG(s:Nat)(r:List Int):List Nat:=(List.range s).filter λk=>decide ((pg s).im r k≠k)
noncomputable abbrev FE(x0:Option (Bool×D))(s:Nat)(W:List aa2)(x4 x5 x6:Option (Bool×D)):Env:=[x0,vf (.int s),some (true,u5),some (true,.lst (W.map tp)),x4,x5,x6]
noncomputable abbrev Q5:C:=(.cU 5 (.comp [4] 0 (.gi (.u 1)) (.o (.cmp .NotEq (.idx (.var 1) aa_) aa_)) aa_))
def fV(n:Nat):bS 0 n=(List.range n).map λ(k:Nat)=>D.int (k:Int):=by
 rw[dX];unfold bW;rw[Z5];rfl
def Gz{n:Nat}{g:Nat->D}(h1:dI F false es ρ=some [.int n])(hn:n<=1000)(hc:∀k<n,ev F false el (inner [.int (k:Nat)] ρ fr)=some (g k)):ev F b (.comp fr 0 (.gi es) .nil el) ρ=some (.lst ((List.range n).map g)):=by
 rw[nH (by rw[h1];exact cL hn) (by rw[gM];exact Zr hn aa1),fV,fF (λk:Nat=>D.int (k:Int)) g _ _ λk hk=>congrArg (Option.map some) (hc k (Z9.mp hk))];rfl
def Ic(h6:s<=6)(hr:r∈perms s):ex F Q5 (FE x0 s W (vf (tp r)) x5 x6)=some (.next (FE x0 s W (vf (tp r)) (some (true,.lst ((kG s r).map λ(k:Nat)=>D.int (k:Int)))) x6)):=by
 have hc:ev F false (.comp [4] 0 (.gi (.u 1)) (.o (.cmp .NotEq (.idx (.var 1) aa_) aa_)) aa_) (FE x0 s W (vf (tp r)) x5 x6)=some (.lst ((kG s r).map λ(k:Nat)=>D.int (k:Int))):=by
  have zB:bV=16777216:=rfl;have Yv:(dI F false (.u 1) (FE x0 s W (vf (tp r)) x5 x6)).bind dj=some (bS 0 s):=cL (Zr h6 aa1);rw[nH Yv (by rw[gM];exact Zr h6 aa1)];have hw:walk (ui F [4] (.o (.cmp .NotEq (.idx (.var 1) aa_) aa_)) aa_ (FE x0 s W (vf (tp r)) x5 x6)) (bS 0 s)=some ((bS 0 s).filter λd=>match d with
    | .int k=>decide ((pg s).im r k.toNat≠k.toNat)
    |_=>false):=by
   refine kZ _ λx hx=>aa (uj hx) λk hk af=>?_;subst af;have hi:ev F true (.idx (.var 1) aa_) [vf (.int k),vf (tp r)]=some (.int ((pg s).im r k:Nat)):=gN hr hk;have Yw:ev F false (.cmp .NotEq (.idx (.var 1) aa_) aa_) [vf (.int k),vf (tp r)]=some (.bl (decide ((pg s).im r k≠k))):=by
    rw[JA,hi];show some (D.bl (!(((pg s).im r k:Nat):Int)==(k:Int)))=_;rw[rD,<-decide_not]
   show((j6 F true (.o (.cmp .NotEq (.idx (.var 1) aa_) aa_)) [vf (.int k),vf (tp r)]).bind λk'=>if k' then some (some (D.int k)) else some none)=_;rw[EA,Yw];show((if decide ((pg s).im r k≠k)=true then j6 F true .nil _ else some (decide ((pg s).im r k≠k))).bind _)=some (if decide ((pg s).im r (k:Int).toNat ≠(k:Int).toNat)=true then some (D.int k) else none);rw[aaE];cases decide ((pg s).im r k≠k)<;>rfl
  rw[hw,fV,List.filter_map];rfl
 rw[JF,hc];rfl
def ur(hk:k<s)(hf:iD (pg s) r k)(hm:(pg s).im r k≠k):∃bg,kG s r=k::bg:=by
 unfold kG;obtain⟨m,hs⟩:∃m,s=k+(m+1):=⟨s-k-1,(Rf hk)⟩;have e:List.range s=List.range k++k::(List.range m).map λj=>k+(j+1):=by
  rw[hs,List.range_add,aeK,ZS,Z5];rfl
 have e1:(List.range k).filter (λj=>decide ((pg s).im r j≠j))=[]:=by
  rw[adg];intro j hj;have:=hf j (Z9.mp hj);simp[this]
 rw[e,List.filter_append,e1,acQ,adE,ZD (by simp[hm])];exact⟨_,rfl⟩
def vM(hs:0<=s):kG s (bW s)=[]:=by
 unfold kG;rw[adg];intro j hj;have:(pg s).im (bW s) j=j:=ah.bK (Y:=pg s) (Z9.mp hj);simp[this]
end
noncomputable abbrev T8:C:=(.asg 6 (.idx (.var 5) (.ci 0)))
section
variable {s:Nat}{F:FT}
noncomputable abbrev GA(F:FT):List D->Env->List D->Option (List D×Env):=jm F 2 3 4 3 (ex F Q5) 5 (ex F T8) (ev F false (.var 6)) (ev F false (.idx (.var 4) (.var 6))) (ev F false (.var 4)) 4 (ev F false (.var 4))
def GB(h:l[k]?=some R):(l.map aE).set k (.bI 0 (kR R++[[(x.1:Int)]]) (vR R++[tp x.2]))=(add l k x).map aE:=by
 rw[xU h,List.map_set];congr 1;unfold aE kR vR;rw[Z3,Z3];rfl
def zT(h6:s<=6){l:List (Rg aa2)}(hl:F 3 [.lst (l.map aE),tp t]=some (tp (bW s))):
  GA F (l.map aE) (FE x0 s (W++[t]) x4 x5 x6) ((W++[t]).map tp)=some (l.map aE,FE x0 s W (vf (tp (bW s))) (some (true,.lst [])) x6):=by
 have e1:((W++[t]).map tp).getLast? =some (tp t):=by rw[Z3];simp
 have e2:((W++[t]).map tp).dropLast =W.map tp:=by rw[Z3];simp
 have hc:=Ic (F:=F) h6 (x0:=x0) (x5:=x5) (x6:=x6) (W:=W) (dY s);rw[vM (aak _)]at hc;unfold GA jm;rw[e1,e2];show((F 3 [.lst (l.map aE),tp t]).bind _)=_;rw[hl];show(if(aI (tp t)&&aI (tp (bW s)))=true then(ex F Q5 (FE x0 s W (vf (tp (bW s))) x5 x6)).bind _ else none)=_;rw[aw,aw,Bool.and_self,ZD rfl,hc];rfl
def zU(h6:s<=6)(hl:F 3 [.lst (l.map aE),tp t]=some (tp r))(hr:r∈perms s)(hk:k<s)(hR:l[k]?=some R)(hf:iD (pg s) r k)(hm:(pg s).im r k≠k)(hn:(pg s).im r k∉R.map (·.1))(Yx:R.length<=6)
  (hg:F 4 [.lst ((add l k ((pg s).im r k,r)).map aE),tp r]=some (.lst ((bE r (add l k ((pg s).im r k,r))).map tp))) (hW:W.length+(bE r (add l k ((pg s).im r k,r))).length <=10000):
  ∃y4 y5 y6,GA F (l.map aE) (FE x0 s (W++[t]) x4 x5 x6) ((W++[t]).map tp)=some ((add l k ((pg s).im r k,r)).map aE,FE x0 s (W++bE r (add l k ((pg s).im r k,r))) y4 y5 y6):=by
 have e1:((W++[t]).map tp).getLast? =some (tp t):=by rw[Z3];simp
 have e2:((W++[t]).map tp).dropLast =W.map tp:=by rw[Z3];simp
 have hc:=Ic (F:=F) h6 (x0:=x0) (x5:=x5) (x6:=x6) (W:=W) hr;obtain⟨bg,Yy⟩:=ur hk hf hm;rw[Yy]at hc;have zB:bV=16777216:=rfl;have Q6:k<l.length:=(ZJ.mp hR).1;have K_:A2 (l.map aE) k [((pg s).im r k:Int)] (tp r)=some ((add l k ((pg s).im r k,r)).map aE):=by
  unfold A2;rw[Zz,hR];show(if(kR R).length<bV/\[((pg s).im r k:Int)]∉kR R then some ((l.map aE).set k (.bI 0 (kR R++[[((pg s).im r k:Int)]]) (vR R++[tp r]))) else none)=_;have Yz:[((pg s).im r k:Int)]∉kR R:=λz=>by
   refine aa (Zv.mp z) λe he hq=>?_;have:e.1=(pg s).im r k:=by injection hq with hq _;exact aca hq
   exact hn (Zv.mpr ⟨e,he,this⟩)
  rw[ZD ⟨by rw[Zo];exact Z4 Yx aa1,Yz⟩];exact congrArg some (GB (x:=((pg s).im r k,r)) hR)
 have dw:place (l.map aE).length (k:Int)=some k:=by
  unfold place;rw[Zo,ZD (Z6 _),ZD (by lia)];rfl
 have YA:∀VJ,ev F false (.idx (.var 4) (.var 6)) (FE x0 s W (vf (tp r)) VJ (vf (.int k)))=some (.int ((pg s).im r k:Nat)):=λVJ=>gN hr hk;have YB:ex F T8 (FE x0 s W (vf (tp r)) (some (true,.lst ((k::bg).map λ(k:Nat)=>D.int (k:Int)))) x6)=some (.next (FE x0 s W (vf (tp r)) (some (true,.lst ((k::bg).map λ(k:Nat)=>D.int (k:Int)))) (vf (.int k)))):=by
  have hi:ev F false (.idx (.var 5) (.ci 0)) (FE x0 s W (vf (tp r)) (some (true,.lst ((k::bg).map λ(k:Nat)=>D.int (k:Int)))) x6)=some (.int k):=by
   show((place ((k::bg).map λ(k:Nat)=>D.int (k:Int)).length 0).bind λj=>((k::bg).map λ(k:Nat)=>D.int (k:Int))[j]?)=_;unfold place;rw[ZD aa1,ZD (by rw[Zo,ZM];exact abM (Z6 _) (aew _))];rfl
  rw[cw hi];rfl
 refine⟨some (false,tp r),some (true,.lst ((k::bg).map λ(k:Nat)=>D.int (k:Int))),vf (.int k),?_⟩;unfold GA jm;rw[e1,e2];show((F 3 [.lst (l.map aE),tp t]).bind _)=_;rw[hl];show(if(aI (tp t)&&aI (tp r))=true then(ex F Q5 (FE x0 s W (vf (tp r)) x5 x6)).bind _ else none)=_;rw[aw,aw,Bool.and_self,ZD rfl,hc];show((ex F T8 (FE x0 s W (vf (tp r)) (some (true,.lst ((k::bg).map λ(k:Nat)=>D.int (k:Int)))) x6)).bind _)=_;rw[YB];show(if aI (tp r)=true then _ else none)=_;rw[aw,ZD rfl];show((place (l.map aE).length (k:Int)).bind _)=_;rw[dw];show(((ev F false (.idx (.var 4) (.var 6)) (FE x0 s W (vf (tp r)) (some (true,.lst ((k::bg).map λ(k:Nat)=>D.int (k:Int)))) (vf (.int k)))).bind (dg 0)).bind _)=_;rw[YA];show((A2 (l.map aE) k [((pg s).im r k:Int)] (tp r)).bind _)=_;rw[K_];show(if aI (tp r)=true then(F 4 [.lst ((add l k ((pg s).im r k,r)).map aE),tp r]).bind _ else none)=_;rw[aw,ZD rfl,hg];have nl:a_ ((bE r (add l k ((pg s).im r k,r))).map tp)=true:=by
  have:∀ps:List aa2,a_ (ps.map tp)=true:=λps=>by
   induction ps with
   |nil=>rfl
   |cons p ps ih=>show(aI (tp p)&&a_ (ps.map tp))=true;rw[aw,ih];rfl
  exact this _
 show(if a_ ((bE r (add l k ((pg s).im r k,r))).map tp)=true then(if(W.map tp).length+((bE r (add l k ((pg s).im r k,r))).map tp).length <=bV then _ else none) else none)=_;rw[nl,ZD rfl,ZD (by rw[Zo,Zo];exact Zr hW aa1),<-Z3];rfl
theorem VL.at:∀{l:List (Rg aa2)}{i k:Nat}{R:Rg aa2},VL Y l i->l[k]?=some R->V Y (i+k) R
 |[],_,_,_,_,h=>by simp at h
 |R::l,i,0,_,hv,h=>by simp at h;subst h;exact hv.1
 |R::l,i,k+1,R',hv,h=>by
  have:=VL.at hv.2.2 (k:=k) (R:=R') (by simpa using h);rwa [show i+1+k=i+(k+1) by exact Z_ _ _ _]at this
def nN(hi:i<s)(hv:V (pg s) i R):R.length<=s:=by
 have:=Dd hv.nd (n:=s) λp hp=>by
  refine aa (Zv.mp hp) λe he af=>?_;subst af;refine cP (hv.st e.1 e.2 he) λs1 _ s3=>?_;rw[<-s3];exact ah.jR (Y:=pg s) s1 hi
 rwa [Zo]at this
def GC(hv:VL (pg s) l i):∀R∈l,∀e∈R,e.2∈perms s:=λR hR e he=>(St.good ah hv ⟨R,hR,e.1,he⟩).1
theorem iZ(h6:s<=6)(hG:∀u,G u->u∈perms s)(nP:∀l t,VL (pg s) l 0->t∈perms s->F 3 [.lst (l.map aE),tp t]=some (tp (du (pg s) l 0 t)))
  (nQ:∀l r,VL (pg s) l 0->r∈perms s->F 4 [.lst (l.map aE),tp r]=some (.lst ((bE r l).map tp))):∀(n:Nat) (l:List (Rg aa2)) (W:List aa2) (x4 x5 x6:Option (Bool×D)),Fd (pg s) G l W->(36-cnt l)*100+W.length<n->(36-cnt l)*100+W.length<=5000->
  ∃l',gv (GA F) 3 n (l.map aE) (FE x0 s W x4 x5 x6)=some (l'.map aE)/\Fd (pg s) G l' []
 |0,_,_,_,_,_,_,h,_=>absurd h (aah _)
 |n+1,l,W,x4,x5,x6,hd,hn,hm=>by
  have hY:=dZ h6 hG;have ss:s*s<=36:=afa h6 h6;have cl:∀{l':List (Rg aa2)},VL (pg s) l' 0->cnt l'<=36:=λ{l'} hv=>by
   have h1:=rE ah hv;have h2:=VL.len hv;have h3:l'.length=s:=by rw[aav]at h2;exact h2
   rw[h3]at h1;exact Zr h1 ss
  rw[gv];show∃l':List (Rg aa2),(if(W.map tp).isEmpty =true then some (l.map aE) else(GA F (l.map aE) (FE x0 s W x4 x5 x6) (W.map tp)).bind λz=>gv (GA F) 3 n z.1 z.2)=some (l'.map aE)/\_;rcases adw W with rfl|⟨W0,t,rfl⟩
  .exact⟨l,rfl,hd⟩
  .rw[adx]at hd hn hm⊢;have d_:((W0++[t]).map tp).isEmpty =false:=by rw[Z3];simp
   rw[d_,ZL Zl];rw[Zw,aab]at hn hm;have ht:Gen (pg s) G t:=hd.wg t (ZH _ (Zp.mpr rfl));have VM:t∈perms s:=Gen.S ah hG ht;have hl:=nP l t hd.v VM;rcases pZ ah hd.v VM (λk hk=>absurd hk (aah _))with⟨e1,e2⟩|⟨k,R,a1,a2,a3,a4,a5,a6,a7,a8⟩
   .rw[e1]at hl;rw[zT h6 hl];exact iZ h6 hG nP nQ n l W0 _ _ _ (hd.none e2) (Z1 hn) (ZP hm)
   .rw[aav]at a2 a4 a5 a6 a7 a8;have hk:k<s:=a2;have hV:=VL.at hd.v a1;rw[aav]at hV;have Ie:=nN hk hV;have hg:=nQ _ _ a8 a3;have kM:=cl a8;have Zd:=xV (x:=((pg s).im (du (pg s) l 0 t) k,du (pg s) l 0 t)) a1;have dw:=kF (du (pg s) l 0 t) (add l k ((pg s).im (du (pg s) l 0 t) k,du (pg s) l 0 t));refine MB (zU h6 hl a3 hk a1 a4 a6 a5 (Zr Ie h6) hg (x0:=x0) (x4:=x4) (x5:=x5) (x6:=x6) (W:=W0) (by lia)) λy4 y5 y6 hT=>?_;rw[hT];refine iZ h6 hG nP nQ n _ _ _ _ _ (hd.more ah a8 a7 (lQ hY hd.g ht) (Df hY (lQ hY hd.g ht) λu hu=>?_) λu hu=>zS hu) ?_ ?_
    .rcases hu.add with z|z
     .exact hd.g u z
     .rw[z];exact lQ hY hd.g ht
    .rw[Zw];lia
    .rw[Zw];lia
noncomputable def xW(s:Nat):List (Rg aa2):=(List.range s).map λi=>[(i,bW s)]
theorem VL.xW:∀(m i:Nat),i+m=s->VL (pg s) ((List.range' i m).map λi=>[(i,bW s)]) i
 |0,i,h=>by show i=s;exact h
 |m+1,i,h=>by
  rw[adA,ZS];have hi:i<s:=(Uu (Zy h) (aai _ _));refine⟨⟨λp u hu=>?_,Zp.mpr rfl,by simp⟩,hi,VL.xW m (i+1) (aeS (Z_ _ _ _) h)⟩;rw[Zp]at hu;cases hu;exact⟨dY s,λk hk=>ah.bK (Y:=pg s) (show k<s by exact DL h (Nat.lt_add_right _ hk)),ah.bK (Y:=pg s) hi⟩
def Dg(rC:∀p∈ps,p∈perms s):Fd (pg s) (· ∈ps) (xW s) ps:=by
 have ot:∀u,St (xW s) u->u=bW s:=λu zz=>by
  obtain⟨R,hR,p,hp⟩:=zz;refine aa (Zv.mp hR) λi _ af=>?_;subst af;rw[Zp]at hp;exact(afh hp).2
 have hv:VL (pg s) (xW s) 0:=by
  have:=VL.xW (s:=s) s 0 (aav _);unfold et.xW;rw[acD];exact this
 refine⟨hv,λu hu=>by rw[ot u hu];exact .one,λt ht=>Gen.of ah (rC t ht) ht,λt ht=> .inl ht,λu v hu Gn=> .inr ?_⟩;rw[ot u hu,ot v Gn];show H (pg s) (xW s) (comp (bW s) (bW s));rw[jN (dY s)];exact H.one ah hv
def Di(h6:s<=6){ps:List aa2}(rC:∀p∈ps,p∈perms s)(aL:ps.length<=720)(ot:F 0 [.int s]=some (tp (bW s)))(nP:∀l t,VL (pg s) l 0->t∈perms s->F 3 [.lst (l.map aE),tp t]=some (tp (du (pg s) l 0 t)))
  (nQ:∀l r,VL (pg s) l 0->r∈perms s->F 4 [.lst (l.map aE),tp r]=some (.lst ((bE r l).map tp))):
  ∃l,out (ex F d5.body (av d5 [.tup (ps.map tp),.int s]))=some (.lst (l.map aE))/\Fd (pg s) (· ∈ps) l []:=by
 have zB:bV=16777216:=rfl;obtain⟨l,h1,h2⟩:=iZ h6 rC nP nQ (x0:=vf (.tup (ps.map tp))) eV (xW s) ps none none none (Dg rC) (by
  have:eV=1000000:=rfl;rw[this];have:(36-cnt (xW s))*100<=3600:=by lia
  lia) (by
  have:(36-cnt (xW s))*100<=3600:=by lia
  lia)
 refine⟨l,?_,h2⟩;have hr:mB F true (.gi (.u 1)) (av d5 [.tup (ps.map tp),.int s])=some (bS 0 s):=cL (by lia);have hw:walk (sE (ev F false aa_) (ev F false (.call 0 (.u 1))) [1] (av d5 [.tup (ps.map tp),.int s])) (bS 0 s)=some ((xW s).map aE):=by
  rw[fV];unfold xW;rw[Z5];refine fF (λk:Nat=>D.int (k:Int)) _ _ _ λk hk=>?_;have hc:ev F false (.call 0 (.u 1)) [vf (.int k),vf (.int s)]=some (tp (bW s)):=ak (fG rfl) ot (aw _);show((ev F false (.call 0 (.u 1)) [vf (.int k),vf (.int s)]).bind λd=>if aI d then some (some (D.bI 0 [[(k:Int)]] [d])) else none)=_;rw[hc];show(if aI (tp (bW s))=true then _ else none)=_;rw[aw,ZD rfl];rfl
 have hx:ex F d5.body (av d5 [.tup (ps.map tp),.int s])=(mB F true (.gi (.u 1)) (av d5 [.tup (ps.map tp),.int s])).bind λxs=>if xs.length<=bV/\2≠3/\2<(av d5 [.tup (ps.map tp),.int s]).length /\sD (av d5 [.tup (ps.map tp),.int s])=true then
   (walk (sE (ev F false aa_) (ev F false (.call 0 (.u 1))) [1] (av d5 [.tup (ps.map tp),.int s])) xs).bind λS=>(gv (GA F) 3 eV S (FE (vf (.tup (ps.map tp))) s ps none none none)).map λS=> .ret (.lst S) else none:=rfl
 rw[hx,hr];show out (if _ then _ else none)=_;rw[ZD ⟨by rw[gM];lia,by decide,(by decide:2<7),rfl⟩,hw];show out ((gv (GA F) 3 eV ((xW s).map aE) (FE (vf (.tup (ps.map tp))) s ps none none none)).map λS=> .ret (.lst S))=_;rw[h1];rfl
end
end et
namespace Py
theorem p4:∀(r:List Int) (a:Int),iy a r∈a::r/\∀x∈a::r,iy a r<=x
 |[],a=>⟨Zp.mpr rfl,λx hx=>by rw[Zp.mp hx];exact aew _⟩
 |b::r,a=>by
  rw[iy];obtain⟨h1,h2⟩:=p4 r (if b<a then b else a);have h0:=h2 _ Zt;have u_:(if b<a then b else a)<=a/\(if b<a then b else a)<=b:=by split<;>lia
  refine⟨?_,λx hx=>?_⟩
  .rcases ZC.mp h1 with z|z
   .rw[z];split
    .exact Zm _ Zt
    .exact Zt
   .exact Zm _ (Zm _ z)
  .rcases ZC.mp hx with z|hx
   .rw[z];exact acK h0 u_.1
   .rcases ZC.mp hx with z|hx
    .rw[z];exact acK h0 u_.2
    .exact h2 x (Zm _ hx)
end Py
namespace et
open Py eO
section
variable {s:Nat}{F:FT}
noncomputable abbrev TE(x0 x1 x2:Option (Bool×D))(u:List Int)(x4 x5:Option (Bool×D)):Env:=[x0,x1,x2,vf (tp u),x4,x5]
def GD(h6:s<=6)(ht:aa7)(hi:i<s)(hv:V (pg s) i R)(hu:u∈perms s):
  ∃e∈R,(∀q,q∈R.map (·.1)->(pg s).im u e.1<=(pg s).im u q)/\∃y5,ex F T4 (TE x0 x1 x2 u (vf (aE R)) x5)=some (.next (TE x0 x1 x2 (comp e.2 u) (vf (aE R)) y5)):=by
 have kb:∀e∈R,e.1<s:=λe he=>by
  refine cP (hv.st e.1 e.2 he) λs1 _ s3=>?_;rw[<-s3];exact ah.jR (Y:=pg s) s1 hi
 have Ie:=nN hi hv;have hc:ev F true (.comp [3] 0 (.dk 4) .nil (.idx (.var 1) aa_)) (TE x0 x1 x2 u (vf (aE R)) x5)=some (.lst ((R.map λe=>(((pg s).im u e.1:Nat):Int)).map .int)):=by
  have hk:mB F true (.dk 4) (TE x0 x1 x2 u (vf (aE R)) x5)=some (R.map λe=>D.int (e.1:Int)):=by
   show some ((kR R).map λk=>D.int (k.headD 0))=_;rw[Z5];rfl
  have hw:walk (ui F [3] .nil (.idx (.var 1) aa_) (TE x0 x1 x2 u (vf (aE R)) x5)) (R.map λe=>D.int (e.1:Int))=some (R.map λe=>D.int (((pg s).im u e.1:Nat):Int)):=
   fF (λe:Nat×List Int=>D.int (e.1:Int)) _ _ _ λe he=>congrArg (Option.map some) (gN hu (kb e he))
  rw[JE,hk,aaB,ZD (by rw[Zo];exact Zr Ie (Zr h6 aa1))];exact(congrArg (Option.map D.lst) hw).trans (by rw[Z5];rfl)
 obtain⟨e0,R0,hR⟩:∃e0 R0,R=e0::R0:=by
  cases R with
  |nil=>exact absurd hv.one aa9
  |cons e R=>exact⟨e,R,rfl⟩
 obtain⟨m1,m2⟩:=p4 (R0.map λe=>(((pg s).im u e.1:Nat):Int)) (((pg s).im u e0.1:Nat):Int);have P4:R.map (λe=>(((pg s).im u e.1:Nat):Int))=(((pg s).im u e0.1:Nat):Int)::R0.map λe=>(((pg s).im u e.1:Nat):Int):=by rw[hR];rfl
 generalize YC:iy (((pg s).im u e0.1:Nat):Int) (R0.map λe=>(((pg s).im u e.1:Nat):Int))=mn at m1 m2;rw[<-P4]at m1 m2;refine aa (Zv.mp m1) λe he YD=>⟨e,he,λq hq=>?_,vf (.int mn),?_⟩
 .refine aa (Zv.mp hq) λe' zh af=>?_;subst af;have:=m2 _ (Zv.mpr ⟨e',zh,rfl⟩);lia
 .refine xA (d:= .int mn) (Pz hc ?_) (xA (ak (aZ (VA (q:=(0,kR R,vR R)) rfl (x:= .int (e.1:Nat)) ?_ ?_) rfl) (ht _ (hv.st _ _ (show(e.1,e.2)∈R from he)).1 u hu) (aw _)) rfl)
  .show(match aO ((R.map λe=>(((pg s).im u e.1:Nat):Int)).map .int)with
    |some ns=>match ns with|[]=>none|a::r=>some (D.int (iy a r))
    |none=>_)=_
   rw[cY,P4];show some (D.int (iy _ _))=_;rw[YC]
  .have YE:u[e.1]?=some mn:=by
    have aU:e.1<u.length:=by rw[aD hu];exact kb e he
    rw[Zj aU];have h1:=iL hu (kb e he);rw[Zx,Zj aU]at h1;have h2:u[e.1]=(((pg s).im u e.1:Nat):Int):=h1;rw[h2,YD]
   show(aO (u.map .int)).bind (λns=>(cz mn ns).map λ(i:Nat)=>D.int (i:Int))=_;rw[cY,aaB,rB (az.mp hu).2.1 YE];rfl
  .show iw (kR R) (vR R) [(e.1:Int)]=_;rw[ie,xM hv.nd (show(e.1,e.2)∈R from he)];rfl
theorem xX(h6:s<=6)(ht:aa7):∀{l:List (Rg aa2)}{i:Nat}{u:List Int}{x4 x5:Option (Bool×D)},VL (pg s) l i->u∈perms s->
  ∃x y4 y5,aN (λx ρ=>(ay 0 x).bind λys=>(cc ρ [4] ys).bind λρ'=>ex F T4 ρ') (l.map aE) (TE x0 x1 x2 u x4 x5)=some (.next (TE x0 x1 x2 x y4 y5))/\LM (pg s) l u x
 |[],_,u,x4,x5,_,_=>⟨u,x4,x5,rfl,.nil⟩
 |R::l,i,u,x4,x5,hv,hu=>by
  obtain⟨e,he,hm,z5,h1⟩:=GD (x0:=x0) (x1:=x1) (x2:=x2) (x5:=x5) h6 ht hv.2.1 hv.1 hu;have hs:=(hv.1.st e.1 e.2 he).1;refine kL (xX h6 ht (x0:=x0) (x1:=x1) (x2:=x2) (l:=l) (i:=i+1) (u:=comp e.2 u) (x4:=vf (aE R)) (x5:=z5) hv.2.2 (cG hs hu)) λx y4 y5 h2 h3=>?_;refine⟨x,y4,y5,?_,.cons (p:=e.1) (v:=e.2) he hm h3⟩;rw[ZS,fE h1];exact h2
theorem VL.drop:∀{l:List (Rg aa2)}{i:Nat} (k:Nat),VL Y l i->k<=l.length->VL Y (l.drop k) (i+k)
 |l,i,0,h,_=>h
 |[],i,k+1,h,hk=>absurd hk aa9
 |R::l,i,k+1,h,hk=>by
  have:=VL.drop k h.2.2 (by simpa using hk);rwa [show i+1+k=i+(k+1) by exact Z_ _ _ _]at this
def Dj(h6:s<=6)(ht:aa7)(hv:VL (pg s) l 0)(hk:k<s)(hu:u∈perms s):
  ∃x,ex F d6.body (av d6 [.lst (l.map aE),.int k,tp u])=some (.ret (tp x))/\LM (pg s) (l.drop (k+1)) u x:=by
 have hl:l.length=s:=by have:=VL.len hv;rw[aav]at this;exact this
 refine kL (xX h6 ht (x0:=vf (.lst (l.map aE))) (x1:=vf (.int k)) (x2:=vf (tp u)) (l:=l.drop (k+1)) (u:=u) (x4:=none) (x5:=none) (VL.drop (k+1) hv (Zn hk (Zy (aad hl)))) hu) λx y4 y5 h1 h2=>⟨x,?_,h2⟩;have Qt:mB F false oT (TE (vf (.lst (l.map aE))) (vf (.int k)) (vf (tp u)) u none none)=some ((l.drop (k+1)).map aE):=by
  show seq (.lst (sA (l.map aE) (some ((k:Int)+1)) none))=_;rw[show(k:Int)+1=((k+1:Nat):Int) by exact Int.natCast_add _ _,ud _ _ (by rw[Zo];exact Zn hk (Zy (aad hl))),<-afo];rfl
 refine xA rfl (xG (ρ':=TE (vf (.lst (l.map aE))) (vf (.int k)) (vf (tp u)) x y4 y5) ?_ (xR rfl));show(mB F false oT (TE (vf (.lst (l.map aE))) (vf (.int k)) (vf (tp u)) u none none)).bind _=_;rw[Qt];exact h1
end
noncomputable def pairD(e:Nat×List Int):D:= .tup [.int (e.1:Int),tp e.2]
noncomputable def bB(R:Rg aa2):D:= .tup (R.map pairD)
noncomputable def aS(l:List (Rg aa2)):D:= .tup (l.map bB)
section
variable {s:Nat}{F:FT}
noncomputable def oP(R:Rg aa2):List Nat:=(sortI (R.map λe=>(e.1:Int))).map Int.toNat
def nR(R:Rg aa2):sortI (R.map λe=>(e.1:Int))=(oP R).map λ(k:Nat)=>(k:Int):=by
 unfold oP;rw[Z5];have:∀x∈sortI (R.map λe=>(e.1:Int)),((λ(k:Nat)=>(k:Int))∘Int.toNat) x=x:=λx hx=>by
  refine aa (Zv.mp ((sortI_perm _).mem_iff.mp hx)) λe _ af=>?_;subst af;show((e.1:Int).toNat :Int)=_;exact aba (Z6 _)
 rw[abH this,List.map_id']
def rF:k∈oP R↔k∈R.map (·.1):=by
 unfold oP;constructor
 .intro h;refine aa (Zv.mp h) λx hx af=>?_;subst af;refine aa (Zv.mp ((sortI_perm _).mem_iff.mp hx)) λe he aK=>?_;subst aK;exact Zv.mpr ⟨e,he,by simp⟩
 .intro h;refine aa (Zv.mp h) λe he c5=>?_;subst c5;exact Zv.mpr ⟨(e.1:Int),(sortI_perm _).mem_iff.mpr (Zv.mpr ⟨e,he,rfl⟩),by simp⟩
def LF(nd:(R.map (·.1)).Nodup):(oP R).Pairwise (· < ·):=by
 have h1:=nh (R.map λe=>(e.1:Int));have h2:(sortI (R.map λe=>(e.1:Int))).Nodup :=by
  rw[(sortI_perm _).nodup_iff];rw[Z7,aal]at nd⊢;exact nd.imp λh e=>h (aca e)
 rw[nR,aal]at h1;rw[nR,Z7,aal]at h2;exact(h1.and h2).imp λh=>by lia
theorem Hm.drop:∀{l:List (Rg aa2)}{i:Nat} (k:Nat),Hm (pg s) M l i->k<=l.length->Hm (pg s) M (l.drop k) (i+k)
 |l,i,0,h,_=>h
 |[],i,k+1,h,hk=>absurd hk aa9
 |R::l,i,k+1,h,hk=>by
  have:=Hm.drop k (h.tail ah) (by simpa using hk);rwa [show i+1+k=i+(k+1) by exact Z_ _ _ _]at this
def GF(h6:s<=6)(hM:ef (pg s) M)(hl:Hm (pg s) M l 0)(hk:k<s)
  (LG:∀u∈perms s,∃x,F 6 [.lst (l.map aE),.int k,tp u]=some (tp x)/\LM (pg s) (l.drop (k+1)) u x):
  ex F d7.body (av d7 [.lst (l.map aE),.int k])=some (.ret (bB (cH (pg s) M k))):=by
 have aL:l.length=s:=by have:=VL.len hl.1;rw[aav]at this;exact this
 have Q6:k<l.length:=(Zn hk (Zy (aad aL)));obtain⟨R,hR⟩:∃R,l[k]?=some R:=⟨l[k],Zj Q6⟩;have YF:l.drop k=R::l.drop (k+1):=by
  rw[aaz Q6];rw[Zj Q6]at hR;cases hR;rfl
 have hm:=Hm.drop k hl (Zr (ZP hk) (Zy (aad aL)));rw[aav,YF]at hm;have hV:=hm.1.1;have Ie:=nN hk hV;have best:∀p u,(p,u)∈R->∃x,F 6 [.lst (l.map aE),.int k,tp u]=some (tp x)/\fH (pg s) M k p x:=λp u hu=>by
  exact aa (LG u (hV.st p u hu).1) λx h1 h2=>⟨x,h1,hm.best ah hM hu h2⟩
 have ot:item (.lst (l.map aE)) (.int k)=some (aE R):=by
  show((place (l.map aE).length (k:Int)).bind λj=>(l.map aE)[j]?)=_;unfold place;rw[Zo,ZD (Z6 _),ZD (by lia)];show(l.map aE)[k]?=_;rw[Zz,hR];rfl
 have vk:ev F true (.iF 2) [vf (.lst (l.map aE)),vf (.int k),vf (aE R)]=some (.lst ((oP R).map λ(k:Nat)=>D.int (k:Int))):=by
  show(if(kR R).length<64 then some (D.lst ((sortI ((kR R).map λk=>k.headD 0)).map .int)) else none)=_;rw[ZD (by rw[Zo];exact Z4 Ie (Z4 h6 aa1)),Z5];show some (D.lst ((sortI (R.map λe=>(e.1:Int))).map .int))=_;rw[nR,Z5];rfl
 have Lz:(oP R).map (λp=>(p,cM (pg s) M k p))=cH (pg s) M k:=by
  refine C6 ah hk hM.s (λp x hx=>?_) (λt ht hf=>?_) ?_
  .refine aa (Zv.mp hx) λq hq e=>?_;rw[<-(afh e).1,<-(afh e).2];refine aa (Zv.mp (rF.mp hq)) λe he T9=>aa (best q e.2 (by rw[<-T9];exact he)) λy _ hy=>?_;rw[fI hy];exact hy
  .exact bu (hm.split ah ht hf) λu w hu _ _=>⟨_,Zv.mpr ⟨_,rF.mpr (Zv.mpr ⟨_,hu,rfl⟩),rfl⟩⟩
  .rw[Z5];have:((λx:Nat×List Int=>x.1) ∘ λp=>(p,cM (pg s) M k p))=id:=rfl;rw[this,afg];exact LF hV.nd
 refine xA ot (xR (Pz (x:= .lst ((oP R).map λp=>pairD (p,cM (pg s) M k p))) (c_ vk rfl ?_ λp hp=>?_) ?_))
 .unfold oP;rw[Zo,(sortI_perm _).length_eq,Zo];exact Zr (Zr Ie h6) aa1
 .refine aa (Zv.mp (rF.mp hp)) λe he T9=>?_;have zh:(p,e.2)∈R:=by rw[<-T9];exact he
  refine aa (best p e.2 zh) λx tX HK=>?_;rw[fI HK];refine Yi (x:= .int p) rfl (ak (TV rfl rfl ?_) tX (aw _));show iw (kR R) (vR R) [(p:Int)]=_;rw[ie,xM hV.nd zh];rfl
 .show some (D.tup ((oP R).map λp=>pairD (p,cM (pg s) M k p)))=_;rw[<-Lz];unfold bB;rw[Z5];rfl
def GG(R:Rg aa2):aI (bB R)=true:=by
 show a_ (R.map pairD)=true;induction R with
 |nil=>rfl
 |cons e R ih=>
  show(aI (pairD e)&&a_ (R.map pairD))=true;rw[ih];show((aI (.int (e.1:Int))&&(aI (tp e.2)&&true))&&true)=true;rw[aw];rfl
def zV(h6:s<=6){l:List (Rg aa2)}(hf:F 5 [row,.int s]=some (.lst (l.map aE)))(LH:aI row=true)(hr:∀k,k<s->F 7 [.lst (l.map aE),.int k]=some (bB (cH (pg s) M k))):
  ex F d8.body (av d8 [row,.int s])=some (.ret (aS (aJ (pg s) M 0))):=by
 refine xA (aG (aZ rfl rfl) hf rfl) (xR (Pz (Gz (fG rfl) (Zr h6 aa1) λk hk=>ak (aZ rfl rfl) (hr k hk) (GG _)) ?_));show some (D.tup ((List.range s).map λk=>bB (cH (pg s) M k)))=_;unfold aS aJ;rw[Z5,acD];rfl
end
def zW:(List.range 7).all (λn=>decide ((perms n).length <=720))=true:=by decide +kernel
section
variable {s:Nat}{F:FT}
def gO(h6:s<=6):(perms s).length <=720:=of_decide_eq_true (all_range zW (show s<7 by exact Z4 h6 aa1))
theorem eJ[DecidableEq α]:∀(l m:List α),l.Nodup->(∀x∈l,x∈m)->l.length<=m.length
 |[],_,_,_=>aak _
 |x::l,m,nd,h=>by
  rw[Z8]at nd;have hx:=h x Zt;have:=eJ l (m.erase x) nd.2 λy hy=>(aeY (λe:y=x=>nd.1 (e▸hy))).mpr (h y (Zm _ hy));rw[acM hx]at this;have:0<m.length:=aeL hx;rw[ZM];lia
def P7(h6:s<=6)(hv:VL (pg s) l i):(TL (pg s) l).length <=720:=
 Zr (eJ _ _ (nK ah hv) λx hx=>(H.good ah hv (nJ.mp hx)).1) (gO h6)
theorem ig:∀{ks:List aa2},(∀k∈ks,k≠[])->dh (ks.map tp)=some ks
 |[],_=>rfl
 |k::ks,h=>by
  show(aO (k.map .int)).bind _=_;rw[cY];show(if k=[] then none else(dh (ks.map tp)).map (k:: ·))=_;rw[ZL (h k Zt),ig λx hx=>h x (Zm _ hx)];rfl
def rG(h1:1<=s)(h:t∈perms s):t≠[]:=λz=>by
 have:=aD h;rw[z]at this;simp at this;exact ZT h1 this
noncomputable abbrev mv(B:List aa2):List D:=B.map λ_=>D.bl true
noncomputable abbrev AE(x0 x1 x2:Option (Bool×D))(B W:List aa2)(x5 x6 x7:Option (Bool×D)):Env:=[x0,x1,x2,some (true,.bI 1 B (mv B)),some (true,.lst (W.map tp)),x5,x6,x7]
def rH(h:t≠0)(p:List Int):dg t (tp p)=some p:=by
 show(if t=0 then none else aO (p.map .int))=some p;rw[ZL h];exact cY p
def GH(aU:aa8)(ht:t∈perms s)(hg:g∈perms s)(hB:B.length<=1000)(hW:W.length<=10000):
  ex F Q0 (AE x0 x1 x2 B W (vf (tp t)) (vf (tp g)) x7)=some (.next (if comp t g∈B then AE x0 x1 x2 B W (vf (tp t)) (vf (tp g)) (vf (tp (comp t g))) else AE x0 x1 x2 (B++[comp t g]) (W++[comp t g]) (vf (tp t)) (vf (tp g)) (vf (tp (comp t g))))):=by
 have h2:ev F false (.AZ true (.var 7) 3) (AE x0 x1 x2 B W (vf (tp t)) (vf (tp g)) (vf (tp (comp t g))))=some (.bl (!decide (comp t g∈B))):=by
  show((dg 1 (tp (comp t g))).map λx=>D.bl (!decide (x∈B)))=_;rw[rH aa1];rfl
 refine xA (ak (aZ rfl rfl) (aU t ht g hg) (aw _)) ?_;by_cases hm:comp t g∈B
 .rw[decide_eq_true hm]at h2;rw[ZD hm];exact xN h2 rfl
 rw[decide_eq_false hm]at h2;rw[ZL hm];have s1:ex F (.yO 3 (.var 7) (.c (.bl true))) (AE x0 x1 x2 B W (vf (tp t)) (vf (tp g)) (vf (tp (comp t g))))=some (.next (AE x0 x1 x2 (B++[comp t g]) W (vf (tp t)) (vf (tp g)) (vf (tp (comp t g))))):=by
  show((dg 1 (tp (comp t g))).bind λx=>if B.length<bV/\x∉B then some (kQ.next (put (AE x0 x1 x2 B W (vf (tp t)) (vf (tp g)) (vf (tp (comp t g)))) 3 true (.bI 1 (B++[x]) (mv B++[.bl true])))) else none)=_;rw[rH aa1];show(if B.length<bV/\comp t g∉B then _ else none)=_;have:mv B++[D.bl true]=mv (B++[comp t g]):=by unfold mv;rw[Z3];rfl
  rw[ZD ⟨Z4 hB aa1,hm⟩,this];rfl
 have s2:ex F (.app 4 (.var 7)) (AE x0 x1 x2 (B++[comp t g]) W (vf (tp t)) (vf (tp g)) (vf (tp (comp t g))))=some (.next (AE x0 x1 x2 (B++[comp t g]) (W++[comp t g]) (vf (tp t)) (vf (tp g)) (vf (tp (comp t g))))):=by
  rw[fJ (d:=tp (comp t g)) (xs:=W.map tp) rfl rfl (by rw[Zo];exact Z4 hW aa1)];have:W.map tp++[tp (comp t g)]=(W++[comp t g]).map tp:=by rw[Z3];rfl
  rw[this];rfl
 exact xY h2 (xG s1 (xG s2 rfl)) rfl
theorem Dk(h6:s<=6)(aU:aa8)(hG:∀g∈G,g∈perms s)(ht:t∈perms s):∀{gs done B W:List aa2}{x6 x7:Option (Bool×D)},(∀g∈gs,g∈G)->Am comp (bW s) G t done B W->W.length+gs.length<=5000->
  ∃B' W' y6 y7,aN (λx ρ=>(ay 0 x).bind λys=>(cc ρ [6] ys).bind λρ'=>ex F Q0 ρ') (gs.map tp) (AE x0 x1 x2 B W (vf (tp t)) x6 x7)=some (.next (AE x0 x1 x2 B' W' (vf (tp t)) y6 y7))/\Am comp (bW s) G t (done++gs) B' W'/\B.length<=B'.length/\B'.length+W.length=B.length+W'.length
 |[],done,B,W,x6,x7,_,h,_=>⟨B,W,x6,x7,rfl,by rw[aaf];exact h,Zu _,rfl⟩
 |g::gs,done,B,W,x6,x7,LI,h,hn=>by
  rw[ZM]at hn;have VN:=LI g Zt;have hg:=hG g VN;have hB:B.length<=720:=Zr (eJ _ _ h.nd λx hx=>C_ hG (h.gen x hx)) (gO h6);have h1:=GH aU (x0:=x0) (x1:=x1) (x2:=x2) (x7:=x7) (B:=B) (W:=W) ht hg (Zr hB aa1) (by lia);have e0:done++g::gs=(done++[g])++gs:=by rw[ZW];rfl
  by_cases hm:comp t g∈B
  .rw[ZD hm]at h1;refine MD (Dk h6 aU hG (x0:=x0) (x1:=x1) (x2:=x2) ht (gs:=gs) (done:=done++[g]) (B:=B) (W:=W) (x6:=vf (tp g)) (x7:=vf (tp (comp t g))) (λq hq=>LI q (Zm _ hq)) (h.old hm) (ZP hn)) λB' W' y6 y7 i1 i2 i3 i4=>⟨B',W',y6,y7,?_,by rw[e0];exact i2,i3,i4⟩;rw[ZS,fE (ρ':=AE x0 x1 x2 B W (vf (tp t)) (vf (tp g)) (vf (tp (comp t g)))) h1];exact i1
  .rw[ZL hm]at h1;refine MD (Dk h6 aU hG (x0:=x0) (x1:=x1) (x2:=x2) ht (gs:=gs) (done:=done++[g]) (B:=B++[comp t g]) (W:=W++[comp t g]) (x6:=vf (tp g)) (x7:=vf (tp (comp t g))) (λq hq=>LI q (Zm _ hq)) (h.new VN hm) (by rw[Zw,aab];exact MF (Z_ _ _ _) hn)) λB' W' y6 y7 i1 i2 i3 i4=>?_;rw[Zw,aab]at i3;rw[Zw,aab,Zw,aab]at i4;refine⟨B',W',y6,y7,?_,by rw[e0];exact i2,(ZP i3),by lia⟩;rw[ZS,fE (ρ':=AE x0 x1 x2 (B++[comp t g]) (W++[comp t g]) (vf (tp t)) (vf (tp g)) (vf (tp (comp t g)))) h1];exact i1
theorem gP(n:Nat):∀W:List aa2,f_ (W.map tp) (n+1)=true
 |[]=>rfl
 |t::W=>by
  show(fK (tp t) (n+1)&&f_ (W.map tp) (n+1))=true;rw[vK,gP n W];rfl
theorem x_:∀xs ys:List aa2,Ad (xs.map tp) (ys.map tp)=decide (xs=ys)
 |[],[]=>rfl
 |[],_::_=>rfl
 |_::_,[]=>rfl
 |x::xs,y::ys=>by
  show(mj (tp x) (tp y)&&Ad (xs.map tp) (ys.map tp))=_;rw[vJ,x_ xs ys,adK,Zk,decide_eq_true_eq,decide_eq_true_eq,decide_eq_true_eq,List.cons.injEq]
def rJ{A B:List aa2}:cmp .NotEq (.lst (A.map tp)) (.lst (B.map tp))=some (!decide (A=B)):=by
 show(if(fK (.lst (A.map tp)) 60&&fK (.lst (B.map tp)) 60)=true then some (!Ad (A.map tp) (B.map tp)) else none)=_;rw[show fK (.lst (A.map tp)) 60=true from gP 58 A,show fK (.lst (B.map tp)) 60=true from gP 58 B,x_];rfl
def GI:ev F false (.cmp .NotEq (.var 4) (.lst .nil)) (AE x0 x1 x2 B W x5 x6 x7)=some (.bl (!decide (W=[]))):=vH (a:= .var 4) (c:= .lst .nil) (y:= .lst (([]:List aa2).map tp)) rfl rfl rJ
theorem ya(h6:s<=6)(aU:aa8)(hG:∀g∈G,g∈perms s)(T_:G.length<=1000)(he:seq e=some (G.map tp)):∀(n:Nat) {B W:List aa2}{x5 x6 x7:Option (Bool×D)},Al comp (bW s) G B W->2*(720-B.length)+W.length<n->2*(720-B.length)+W.length<=2000->
  ∃B' y5 y6 y7,f7 (λρ=>(ev F false (.cmp .NotEq (.var 4) (.lst .nil)) ρ).bind eM) (ex F PL) n (AE (vf e) x1 x2 B W x5 x6 x7)=some (.next (AE (vf e) x1 x2 B' [] y5 y6 y7))/\Al comp (bW s) G B' []
 |0,_,_,_,_,_,_,h,_=>absurd h (aah _)
 |n+1,B,W,x5,x6,x7,h,hn,hb=>by
  rw[f7,GI];rcases adw W with rfl|⟨W0,t,rfl⟩
  .exact⟨B,x5,x6,x7,rfl,h⟩
  .rw[adx]at h hn hb⊢;rw[Zw,aab]at hn hb;rw[decide_eq_false (by simp:W0++[t]≠[])];have YG:t∈B:=h.wb t (ZH _ (Zp.mpr rfl));have ht:t∈perms s:=C_ hG (h.gen t YG);refine MD (Dk h6 aU hG (x0:=vf e) (x1:=x1) (x2:=x2) ht (gs:=G) (done:=[]) (B:=B) (W:=W0) (x6:=x6) (x7:=x7) (λ_ z=>z) h.start (by lia)) λB' W' y6 y7 i1 i2 i3 i4=>?_;rw[acQ]at i2;have hA:=i2.fin λg hg=>hg;have YH:B'.length<=720:=Zr (eJ _ _ hA.nd λx hx=>C_ hG (hA.gen x hx)) (gO h6);refine lU (ya h6 aU hG T_ he (x1:=x1) (x2:=x2) n (B:=B') (W:=W') (x5:=vf (tp t)) (x6:=y6) (x7:=y7) hA (by lia) (Ut (ZP hb) (Rc i3 i4 YH))) λB2 z5 z6 z7 j1 j2=>?_;refine⟨B2,z5,z6,z7,?_,j2⟩;have p1:ex F (.pop 5 4) (AE (vf e) x1 x2 B (W0++[t]) x5 x6 x7)=some (.next (AE (vf e) x1 x2 B W0 (vf (tp t)) x6 x7)):=by
    have e1:((W0++[t]).map tp).getLast? =some (tp t):=by rw[Z3];simp
    have e2:((W0++[t]).map tp).dropLast =W0.map tp:=by rw[Z3];simp
    show(((W0++[t]).map tp).getLast?.map λz=>kQ.next (put (put (AE (vf e) x1 x2 B (W0++[t]) x5 x6 x7) 4 true (.lst ((W0++[t]).map tp).dropLast)) 5 false z))=_;rw[e1,e2];rfl
   have p2:ex F (.for [6] 0 (.it aa_) Q0) (AE (vf e) x1 x2 B W0 (vf (tp t)) x6 x7)=some (.next (AE (vf e) x1 x2 B' W' (vf (tp t)) y6 y7)):=by
    show(seq e).bind (λxs=>aN _ xs _)=_;rw[he];exact i1
   have p3:ex F PL (AE (vf e) x1 x2 B (W0++[t]) x5 x6 x7)=some (.next (AE (vf e) x1 x2 B' W' (vf (tp t)) y6 y7)):=xG p1 (xG p2 rfl);show((ex F PL (AE (vf e) x1 x2 B (W0++[t]) x5 x6 x7)).bind _)=_;rw[p3];exact j1
def LJ(h1:1<=s)(h6:s<=6)(aU:aa8)(hG:∀g∈G,g∈perms s)(T_:G.length<=1000)(he:seq e=some (G.map tp)):
  ∃B,ex F Mx.body (av Mx [e,.int s])=some (.ret (.lst ((bJ.aV B).map tp)))/\Al comp (bW s) G B []:=by
 obtain⟨B,y5,y6,y7,i1,i2⟩:=ya h6 aU hG T_ he (x1:=vf (.int s)) (x2:=vf (tp (bW s))) eV (B:=[bW s]) (W:=[bW s]) (x5:=none) (x6:=none) (x7:=none) Yr (by
  have:eV=1000000:=rfl;rw[this,aab];exact by decide) (by rw[aab];exact by decide)
 refine⟨B,?_,i2⟩;have a1:ev F false (.rM .tuple (.u 1)) (av Mx [e,.int s])=some (tp (bW s)):=by
  show(dj [.int s]).bind (qx .tuple)=_;rw[cL (Zr h6 aa1),dX];rfl
 have a2:ex F (.u0 3 1 (.w 2 (.o (.c (.bl true))))) [vf e,vf (.int s),vf (tp (bW s)),none,none,none,none,none]=some (.next [vf e,vf (.int s),vf (tp (bW s)),some (true,.bI 1 [bW s] [.bl true]),none,none,none,none]):=by
  show(((dg 1 (tp (bW s))).map λx=>D.bI 1 [x] [.bl true]).map λd=>kQ.next (put [vf e,vf (.int s),vf (tp (bW s)),none,none,none,none,none] 3 true d))=_;rw[rH aa1];rfl
 have a3:ex F (.while (.cmp .NotEq (.var 4) (.lst .nil)) PL) (AE (vf e) (vf (.int s)) (vf (tp (bW s))) [bW s] [bW s] none none none)=some (.next (AE (vf e) (vf (.int s)) (vf (tp (bW s))) B [] y5 y6 y7)):=i1;have a4:ev F true (.iF 3) (AE (vf e) (vf (.int s)) (vf (tp (bW s))) B [] y5 y6 y7)=some (.lst ((bJ.aV B).map tp)):=by
  show(if []∈B then none else some (D.lst ((bJ.aV B).map lg)))=_;rw[ZL λz=>rG h1 (C_ hG (i2.gen _ z)) rfl];rfl
 exact xA a1 (xG a2 (xB (xs:=[tp (bW s)]) rfl (xG a3 (xR a4))))
end
section
variable {s:Nat}{F:FT}
def Dl(ht:t∈perms s)(hi:i<=s):t.take i=bW i↔iD (pg s) t i:=by
 have hl:=aD ht;constructor
 .intro h k hk;have h1:=iL ht (show k<s by lia);have e:(t.take i).getD k 0=(bW i).getD k 0:=by rw[h]
  rw[vL hk,Zx,acj,ZD hk,<-Zx,h1]at e;lia
 .intro h;apply aaG;intro k;rw[acj];by_cases hk:k<i
  .rw[ZD hk];have h1:=iL ht (show k<s by lia);have h2:=vL hk;rw[h k hk]at h1;have la:k<t.length:=by lia
   have lb:k<(bW i).length :=by rw[aD (dY i)];exact hk
   rw[Zx,Zj la]at h1;rw[Zx,Zj lb]at h2;rw[Zj la,Zj lb];have Tn:t[k]=(k:Int):=h1;have OW:(bW i)[k]=(k:Int):=h2;rw[Tn,OW]
  .rw[ZL hk,ZR (by rw[aD (dY i)];lia)]
noncomputable def k7(s i p:Nat)(t:List Int):Bool:=decide (t.take i=bW i)&&decide ((pg s).im t i=p)
def kH(ht:t∈perms s)(hi:i<=s):k7 s i p t=true↔iD (pg s) t i/\(pg s).im t i=p:=by
 unfold k7;rw[Zk,decide_eq_true_eq,decide_eq_true_eq,Dl ht hi]
def Dm{M:List Int->Prop}(hM:ef (pg s) M){Ts:List aa2}(hT:∀t,t∈Ts↔M t){i p:Nat}(hi:i<s){a:List Int}{r:List aa2}(h:Ts.filter (k7 s i p)=a::r):fH (pg s) M i p (bJ.iu a r):=by
 have mem:∀x,x∈a::r↔M x/\iD (pg s) x i/\(pg s).im x i=p:=λx=>by
  rw[<-h,abD,hT];constructor
  .rintro⟨h1,h2⟩;exact⟨h1,(kH (hM.s x h1) (by lia)).mp h2⟩
  .rintro⟨h1,h2⟩;exact⟨h1,(kH (hM.s x h1) (by lia)).mpr h2⟩
 refine cP ((mem _).mp (bJ.tq r a)) λm1 m2 m3=>⟨m1,m2,m3,λt h1 h2 h3=>?_⟩;have u_:=bJ.wH r a t ((mem t).mpr ⟨h1,h2,h3⟩);cases e:bJ.bC (bJ.iu a r) t with
 |true=>exact .inr ((Gs (hM.s _ m1) (hM.s t h1)).mpr e)
 |false=>exact .inl (bJ.kf _ _ e u_)
def GJ{M:List Int->Prop}(hM:ef (pg s) M){Ts:List aa2}(hT:∀t,t∈Ts↔M t){i p:Nat}(hi:i<s)(h:Ts.filter (k7 s i p)=[]):¬ ∃x,fH (pg s) M i p x:=λzz=>by
 obtain⟨x,b⟩:=zz;have:x∈Ts.filter (k7 s i p):=abD.mpr ⟨(hT x).mpr b.1,(kH (hM.s x b.1) (by lia)).mpr ⟨b.2.1,b.2.2.1⟩⟩;rw[h]at this;cases this
noncomputable abbrev ZE(Ts:List aa2)(s:Nat)(x2 x3:Option (Bool×D))(acc:List D)(x5 x6:Option (Bool×D)):Env:=[vf (.lst (Ts.map tp)),vf (.int s),x2,x3,some (true,.lst acc),x5,x6]
def P8{n:Nat}(h:dI F false es ρ=some [.int n])(hn:n<=1000)(k:aN (λx ρ=>(ay tg x).bind λys=>(cc ρ is ys).bind λρ'=>ex F b ρ') ((List.range n).map λ(k:Nat)=>D.int (k:Int)) ρ=o):ex F (.for is tg (.gi es) b) ρ=o:=by
 rw[Gm (by rw[h];exact cL hn),fV];exact k
def GK(h6:s<=6){Ts:List aa2}(Ej:∀t∈Ts,t∈perms s)(D1:Ts.length<=1000){i p:Nat}(hi:i<s){x2 x6:Option (Bool×D)}{acc:List D}:
  ev F false Ia (ZE Ts s x2 (vf (.int i)) acc (vf (.int p)) x6)=some (.lst ((Ts.filter (k7 s i p)).map tp)):=by
 refine nI (d:= .lst (Ts.map tp)) rfl rfl (Zr D1 aa1) (λt h=>Lu (Yk (vH (x:=tp (t.take i)) (y:=tp (bW i)) ?_ ?_ (PB _ _)) (vH (gN (Ej t h) hi) (c:= .var 2) (y:= .int p) rfl (congrArg some (rD _ _))))) λ_ _=>rfl
 .show some (D.tup (sA (t.map .int) none (some (i:Int))))=_;rw[uc _ _ (by rw[Zo,aD (Ej t h)];omega),<-acz];rfl
 .show(dj [.int i]).bind (qx .tuple)=_;rw[cL aa0,dX];rfl
open Classical in
theorem Dn(h6:s<=6)(h1:1<=s)(hM:ef (pg s) M)(hT:∀t,t∈Ts↔M t)(D1:Ts.length<=1000)(hi:i<s):∀{qs:List Nat}{acc:List D}{x5 x6:Option (Bool×D)},acc.length+qs.length<=10000->
  ∃y5 y6,aN (λx ρ=>(ay 0 x).bind λys=>(cc ρ [5] ys).bind λρ'=>ex F VG ρ') (qs.map λ(k:Nat)=>D.int (k:Int)) (ZE Ts s x2 (vf (.int i)) acc x5 x6)=some (.next (ZE Ts s x2 (vf (.int i)) (acc++((qs.filter λp=>decide (∃x,fH (pg s) M i p x)).map λp=>pairD (p,cM (pg s) M i p))) y5 y6))
 |[],acc,x5,x6,_=>⟨x5,x6,by show some (kQ.next _)=_;rw[List.filter_nil,adS,aaf]⟩
 |p::qs,acc,x5,x6,hn=>by
  rw[ZM]at hn;have Ej:∀t∈Ts,t∈perms s:=λt h=>hM.s t ((hT t).mp h);have hg:=GK (F:=F) h6 Ej D1 (p:=p) hi (x2:=x2) (x6:=x6) (acc:=acc);have a2:∀{W:List aa2},ev F false (.cmp .NotEq (.var 6) (.lst .nil)) (ZE Ts s x2 (vf (.int i)) acc (vf (.int p)) (some (true,.lst (W.map tp))))=some (.bl (!decide (W=[]))):=vH (a:= .var 6) (c:= .lst .nil) (y:= .lst (([]:List aa2).map tp)) rfl rfl rJ;rw[ZS,adE];cases hf:Ts.filter (k7 s i p)with
  |nil=>
   rw[hf]at hg;refine D2 (Dn h6 h1 hM hT D1 hi (x2:=x2) (qs:=qs) (acc:=acc) (x5:=vf (.int p)) (x6:=some (true,.lst [])) aa0) λy5 y6 ih=>⟨y5,y6,?_⟩;rw[fE (ρ':=ZE Ts s x2 (vf (.int i)) acc (vf (.int p)) (some (true,.lst []))) (xB hg (xN (a2 (W:=[])) rfl)),ih,ZL (by rw[decide_eq_true_eq];exact GJ hM hT hi hf)]
  |cons a r=>
   rw[hf]at hg;have uo:=Dm hM hT hi hf;refine D2 (Dn h6 h1 hM hT D1 hi (x2:=x2) (qs:=qs) (acc:=acc++[pairD (p,cM (pg s) M i p)]) (x5:=vf (.int p)) (x6:=some (true,.lst ((a::r).map tp))) (by rw[Zw,aab];omega)) λy5 y6 ih=>⟨y5,y6,?_⟩;have Ly:ev F false (.prim .min (.u 6)) (ZE Ts s x2 (vf (.int i)) acc (vf (.int p)) (some (true,.lst ((a::r).map tp))))=some (tp (bJ.iu a r)):=by
    show((dh ((a::r).map tp)).bind λks=>match ks with|[]=>none|a::r=>some (lg (bJ.iu a r)))=_;rw[ig λt ht=>rG h1 (Ej t (abD.mp (show t∈Ts.filter (k7 s i p) by rw[hf];exact ht)).1)];rfl
   have Ua:ev F false (.tup (.w 5 (.o (.prim .min (.u 6))))) (ZE Ts s x2 (vf (.int i)) acc (vf (.int p)) (some (true,.lst ((a::r).map tp))))=some (pairD (p,cM (pg s) M i p)):=by
    rw[JC,aZ (a:= .var 5) (x:= .int p) rfl Ly,fI uo];rfl
   rw[fE (ρ':=ZE Ts s x2 (vf (.int i)) (acc++[pairD (p,cM (pg s) M i p)]) (vf (.int p)) (some (true,.lst ((a::r).map tp)))) (xB hg (xY (a2 (W:=a::r)) (xG (fJ Ua (xs:=acc) rfl (Z4 (show acc.length<=10000 by omega) aa1)) rfl) rfl)),ih,ZD (by rw[decide_eq_true_eq];exact⟨_,uo⟩),ZS,ZW];rfl
theorem Dp(h6:s<=6)(h1:1<=s){M:List Int->Prop}(hM:ef (pg s) M){Ts:List aa2}(hT:∀t,t∈Ts↔M t)(D1:Ts.length<=1000):∀{is:List Nat}{acc:List D}{x3 x4 x5 x6:Option (Bool×D)},(∀i∈is,i<s)->acc.length+is.length<=1000->
  ∃y3 y4 y5 y6,aN (λx ρ=>(ay 0 x).bind λys=>(cc ρ [3] ys).bind λρ'=>ex F VH ρ') (is.map λ(k:Nat)=>D.int (k:Int)) [vf (.lst (Ts.map tp)),vf (.int s),some (true,.lst acc),x3,x4,x5,x6]=
   some (.next [vf (.lst (Ts.map tp)),vf (.int s),some (true,.lst (acc++is.map λi=>bB (cH (pg s) M i))),y3,y4,y5,y6])
 |[],acc,x3,x4,x5,x6,_,_=>⟨x3,x4,x5,x6,by show some (kQ.next _)=_;rw[adS,aaf]⟩
 |i::is,acc,x3,x4,x5,x6,VO,hn=>by
  rw[ZM]at hn;have hi:=VO i Zt;refine D2 (Dn h6 h1 hM hT D1 hi (F:=F) (x2:=some (true,.lst acc)) (qs:=List.range s) (acc:=[]) (x5:=x5) (x6:=x6) (by rw[abr,abU];omega)) λz5 z6 i1=>?_;rw[acQ,show((List.range s).filter λp=>@decide (∃x,fH (pg s) M i p x) (Classical.propDecidable _)).map (λp=>pairD (p,cM (pg s) M i p))=(cH (pg s) M i).map pairD by unfold cH;rw[Z5];rfl]at i1;refine Uo (Dp h6 h1 hM hT D1 (is:=is) (acc:=acc++[bB (cH (pg s) M i)]) (x3:=vf (.int i)) (x4:=some (true,.lst ((cH (pg s) M i).map pairD))) (x5:=z5) (x6:=z6) (λj hj=>VO j (Zm _ hj)) (by rw[Zw,aab];omega)) λy3 y4 y5 y6 ih=>⟨y3,y4,y5,y6,?_⟩;rw[ZS,fE (ρ':=[vf (.lst (Ts.map tp)),vf (.int s),some (true,.lst (acc++[bB (cH (pg s) M i)])),vf (.int i),some (true,.lst ((cH (pg s) M i).map pairD)),z5,z6]) (xB (xs:=[]) rfl (xG (P8 (fG rfl) aa0 i1) (xG (fJ (d:=bB (cH (pg s) M i)) (xs:=acc) rfl rfl (Z4 (show acc.length<=1000 by omega) aa1)) rfl))),ih,ZW];rfl
def vN(h6:s<=6)(h1:1<=s){M:List Int->Prop}(hM:ef (pg s) M){Ts:List aa2}(hT:∀t,t∈Ts↔M t)(D1:Ts.length<=1000):
  ex F PZ.body (av PZ [.lst (Ts.map tp),.int s])=some (.ret (aS (aJ (pg s) M 0))):=by
 refine Uo (Dp h6 h1 hM hT D1 (F:=F) (is:=List.range s) (acc:=[]) (x3:=none) (x4:=none) (x5:=none) (x6:=none) (λi h=>Z9.mp h) (by rw[abr,abU];omega)) λy3 y4 y5 y6 i1=>?_;refine xB (xs:=[]) rfl (xG (P8 (fG rfl) aa0 i1) (xR ?_));show some (D.tup ([]++(List.range s).map λi=>bB (cH (pg s) M i)))=_;unfold aS aJ;rw[Z5,acD];rfl
end
end et
namespace eO
variable {α:Type}{Y:Pg α}{G N P Q Z:α->Prop}{a b c t u g:α}
noncomputable def cj(Y:Pg α)(t c:α):α:=Y.mul (Y.mul (Y.inv c) t) c
def nU(L:cI Y)(ht:Y.S t)(hc:Y.S c):Y.S (cj Y t c):=L.sm (L.sm (L.si hc) ht) hc
def LK(L:cI Y)(hc:Y.S c):cj Y Y.one c=Y.one:=by
 unfold cj;rw[L.mul_one (L.si hc),L.inv_mul hc]
def GL(L:cI Y):Y.inv Y.one=Y.one:=by
 have:=L.bL L.s1;rw[L.one_mul (L.si L.s1)]at this;exact this
def p5(L:cI Y)(ht:Y.S t):cj Y t Y.one=t:=by
 unfold cj;rw[GL L,L.one_mul ht,L.mul_one ht]
def LL(L:cI Y)(ht:Y.S t)(hu:Y.S u)(hc:Y.S c):cj Y (Y.mul t u) c=Y.mul (cj Y t c) (cj Y u c):=by
 unfold cj;have hi:=L.si hc;rw[L.assoc (L.sm hi ht) hc (L.sm (L.sm hi hu) hc),<-L.assoc hc (L.sm hi hu) hc,<-L.assoc hc hi hu,L.bL hc,L.one_mul hu,<-L.assoc (L.sm hi ht) hu hc,L.assoc hi ht hu]
def Dq(L:cI Y)(ha:Y.S a)(hb:Y.S b):Y.inv (Y.mul a b)=Y.mul (Y.inv b) (Y.inv a):=by
 have lI:=L.sm ha hb;have e:Y.mul (Y.mul a b) (Y.mul (Y.inv b) (Y.inv a))=Y.one:=by
  rw[L.assoc ha hb (L.sm (L.si hb) (L.si ha)),<-L.assoc hb (L.si hb) (L.si ha),L.bL hb,L.one_mul (L.si ha),L.bL ha]
 have h:=congrArg (Y.mul (Y.inv (Y.mul a b))) e;rw[L.mul_one (L.si lI),<-L.assoc (L.si lI) lI (L.sm (L.si hb) (L.si ha)),L.inv_mul lI,L.one_mul (L.sm (L.si hb) (L.si ha))]at h;exact h.symm
def Ig(L:cI Y)(ht:Y.S t)(hc:Y.S c)(hg:Y.S g):cj Y (cj Y t c) g=cj Y t (Y.mul c g):=by
 unfold cj;rw[Dq L hc hg,<-L.assoc (L.si hg) (L.sm (L.si hc) ht) hc,<-L.assoc (L.si hg) (L.si hc) ht,L.assoc (L.sm (L.sm (L.si hg) (L.si hc)) ht) hc hg]
def p6(L:cI Y)(hP:∀t,P t->Y.S t)(hZ:∀t,Z t->Y.S t)(hc:Y.S c)(h:∀t,P t->Gen Y Z (cj Y t c)):∀{t:α},Gen Y P t->Gen Y Z (cj Y t c):=λ{t} ht=>by
 induction ht with
 |one=>rw[LK L hc];exact .one
 |mul ht hu ih=>
  rw[LL L (Gen.S L hP ht) (hP _ hu) hc];exact Gen.app L hZ ih (h _ hu)
def nV(L:cI Y)(hZ:∀t,Z t->Y.S t)(hQ:∀t,Q t->Y.S t)(h:∀c,Q c->∀t,Z t->Gen Y Z (cj Y t c)):∀{c:α},Gen Y Q c->∀{t:α},Gen Y Z t->Gen Y Z (cj Y t c):=λ{c} hc=>by
 induction hc with
 |one=>intro t ht;rw[p5 L (Gen.S L hZ ht)];exact ht
 |mul hc hu ih=>
  intro t ht;rw[<-Ig L (Gen.S L hZ ht) (Gen.S L hQ hc) (hQ _ hu)];exact p6 L hZ hZ (hQ _ hu) (h _ hu) (ih ht)
noncomputable def LN(Y:Pg α)(P G:α->Prop)(x:α):Prop:=∃t g,P t/\G g/\x=cj Y t g
def yb(L:cI Y)(hP:∀t,P t->Y.S t)(hG:∀t,G t->Y.S t):∀x,LN Y P G x->Y.S x:=λx ⟨t,g,h1,h2,e⟩=>e▸nU L (hP t h1) (hG g h2)
def Dr(L:cI Y)(hP:∀t,P t->Y.S t)(hQ:∀t,Q t->Y.S t)(h:P t):Gen Y (LN Y P (Gen Y Q)) t:=
 Gen.of L (hP t h) ⟨t,Y.one,h,.one,(p5 L (hP t h)).symm⟩
def rK(L:cI Y)(hP:∀t,P t->Y.S t)(hQ:∀t,Q t->Y.S t):∀{c:α},Gen Y Q c->∀{t:α},Gen Y (LN Y P (Gen Y Q)) t->Gen Y (LN Y P (Gen Y Q)) (cj Y t c):=λ{c} hc=>by
 have hG:∀t,Gen Y Q t->Y.S t:=λt h=>Gen.S L hQ h;have hZ:=yb L hP hG;refine λ{t}=>p6 L hZ hZ (hG c hc) λx hx=>?_;obtain⟨t,g,h1,h2,rfl⟩:=hx;rw[Ig L (hP t h1) (hG g h2) (hG c hc)];exact Gen.of L (nU L (hP t h1) (L.sm (hG g h2) (hG c hc))) ⟨t,_,h1,Gen.app L hQ h2 hc,rfl⟩
def yc(L:cI Y)(ht:Y.S t)(hg:Y.S g):Y.mul g (cj Y t g)=Y.mul t g:=by
 unfold cj;rw[<-L.assoc hg (L.sm (L.si hg) ht) hg,<-L.assoc hg (L.si hg) ht,L.bL hg,L.one_mul ht]
def Ds(L:cI Y)(hg:Y.S g)(ha:Y.S a)(hb:Y.S b)(h:Y.mul g a=Y.mul g b):a=b:=by
 have h:=congrArg (Y.mul (Y.inv g)) h;rw[<-L.assoc (L.si hg) hg ha,<-L.assoc (L.si hg) hg hb,L.inv_mul hg,L.one_mul ha,L.one_mul hb]at h;exact h
def GN(L:cI Y)(hg:Y.S g):Y.inv (Y.inv g)=g:=by
 have h:=L.bL (L.si hg);have h:=congrArg (Y.mul g) h;rw[<-L.assoc hg (L.si hg) (L.si (L.si hg)),L.bL hg,L.one_mul (L.si (L.si hg)),L.mul_one hg]at h;exact h
def uu(L:cI Y)(ht:Y.S t)(hg:Y.S g):Y.mul (cj Y t (Y.inv g)) g=Y.mul g t:=by
 unfold cj;rw[GN L hg,L.assoc (L.sm hg ht) (L.si hg) hg,L.inv_mul hg,L.mul_one (L.sm hg ht)]
def ye(L:cI Y)(hg:Y.S g)(ha:Y.S a)(hb:Y.S b)(h:Y.mul a g=Y.mul b g):a=b:=by
 have h:=congrArg (Y.mul · (Y.inv g)) h;have h:Y.mul (Y.mul a g) (Y.inv g)=Y.mul (Y.mul b g) (Y.inv g):=h;rw[L.assoc ha hg (L.si hg),L.assoc hb hg (L.si hg),L.bL hg,L.mul_one ha,L.mul_one hb]at h;exact h
def p7(L:cI Y){l:List α}(hl:l.Nodup)(hm:∀t,t∈l↔N t)(hN:∀t,N t->Y.S t)(hg:Y.S g):
  (l.map λt=>Y.mul g t).Perm (l.map λt=>Y.mul t g)↔(∀t,N t->N (cj Y t g))/\∀t,N t->N (cj Y t (Y.inv g)):=by
 constructor
 .intro h;refine⟨λt ht=>?_,λt ht=>?_⟩
  .obtain⟨u,hu,e⟩:=Zv.mp (h.mem_iff.mpr (Zv.mpr ⟨t,(hm t).mpr ht,rfl⟩));have hu:=(hm u).mp hu;rw[<-yc L (hN t ht) hg]at e;rw[<-Ds L hg (hN u hu) (nU L (hN t ht) hg) e];exact hu
  .obtain⟨u,hu,e⟩:=Zv.mp (h.mem_iff.mp (Zv.mpr ⟨t,(hm t).mpr ht,rfl⟩));have hu:=(hm u).mp hu;rw[<-uu L (hN t ht) hg]at e;rw[<-ye L hg (hN u hu) (nU L (hN t ht) (L.si hg)) e];exact hu
 .intro ⟨h1,h2⟩;have n1:(l.map λt=>Y.mul g t).Nodup :=by
   rw[Z7,aal];exact(Z7.mp hl).imp_of_mem λ{a b} ha hb lI e=>lI (Ds L hg (hN a ((hm a).mp ha)) (hN b ((hm b).mp hb)) e)
  have n2:(l.map λt=>Y.mul t g).Nodup :=by
   rw[Z7,aal];exact(Z7.mp hl).imp_of_mem λ{a b} ha hb lI e=>lI (ye L hg (hN a ((hm a).mp ha)) (hN b ((hm b).mp hb)) e)
  rw[acC n1 n2];intro x;rw[Zv,Zv];constructor
  .rintro⟨t,ht,rfl⟩;have ht:=(hm t).mp ht;exact⟨_,(hm _).mpr (h2 t ht),uu L (hN t ht) hg⟩
  .rintro⟨t,ht,rfl⟩;have ht:=(hm t).mp ht;exact⟨_,(hm _).mpr (h1 t ht),yc L (hN t ht) hg⟩
variable {α:Type}{Y:Pg α}{P Q:α->Prop}{C Z W D:List α}{t c u:α}
noncomputable abbrev NC(Y:Pg α)(P Q:α->Prop):α->Prop:=Gen Y (LN Y P (Gen Y Q))
structure Ar(Y:Pg α)(P Q:α->Prop)(C Z W:List α):Prop where
 zs:∀t∈Z,Y.S t
 nc:∀t∈Z,NC Y P Q t
 has:∀t,P t->Gen Y (· ∈Z) t
 dn:∀t∈Z,t∉W->∀c∈C,Gen Y (· ∈Z) (cj Y t c)
structure Ap(Y:Pg α)(P Q:α->Prop)(C Z W:List α)(t:α)(D:List α):Prop where
 zs:∀t∈Z,Y.S t
 nc:∀t∈Z,NC Y P Q t
 has:∀t,P t->Gen Y (· ∈Z) t
 mem:t∈Z
 cur:∀c∈D,Gen Y (· ∈Z) (cj Y t c)
 dn:∀u∈Z,u∉W->u≠t->∀c∈C,Gen Y (· ∈Z) (cj Y u c)
def Ar.start(L:cI Y)(hP:∀t,P t->Y.S t)(hQ:∀t,Q t->Y.S t)(zs:∀t∈Z,Y.S t)(h1:∀t,P t->Gen Y (· ∈Z) t)(h2:∀t∈Z,Gen Y P t):Ar Y P Q C Z Z:=by
 refine⟨zs,λt ht=>?_,h1,λt ht h=>absurd ht h⟩;have h:=h2 t ht;clear ht;induction h with
 |one=>exact .one
 |mul ht hu ih=>exact Gen.app L (yb L hP λt h=>Gen.S L hQ h) ih (Dr L hP hQ hu)
def Ar.pop(h:Ar Y P Q C Z (W++[t]))(hw:t∈Z):Ap Y P Q C Z W t []:=
 ⟨h.zs,h.nc,h.has,hw,λc hc=>(nomatch hc),λu hu hn d_=>h.dn u hu λz=>(ZI.mp z).elim hn λz=>d_ (Zp.mp z)⟩
def Ap.old(h:Ap Y P Q C Z W t D)(hc:Gen Y (· ∈Z) (cj Y t c)):Ap Y P Q C Z W t (D++[c]):=
 ⟨h.zs,h.nc,h.has,h.mem,λd hd=>(ZI.mp hd).elim (h.cur d) λz=>Zp.mp z▸hc,h.dn⟩
def Ap.new(L:cI Y)(hP:∀t,P t->Y.S t)(hQ:∀t,Q t->Y.S t)(h:Ap Y P Q C Z W t D)(hc:Gen Y Q c):Ap Y P Q C (Z++[cj Y t c]) (W++[cj Y t c]) t (D++[c]):=by
 have sh:=Gen.S L hQ hc;have up:∀{x},Gen Y (· ∈Z) x->Gen Y (· ∈Z++[cj Y t c]) x:=λ{x} hx=>Gen.mono (λu hu=>ZO _ hu) hx;have sm:Y.S (cj Y t c):=nU L (h.zs t h.mem) sh;refine⟨λu hu=>?_,λu hu=>?_,λu hu=>up (h.has u hu),ZO _ h.mem,λd hd=>?_,λu hu hn d_ d hd=>?_⟩
 .rcases ZI.mp hu with z|z
  .exact h.zs u z
  .rw[Zp.mp z];exact sm
 .rcases ZI.mp hu with z|z
  .exact h.nc u z
  .rw[Zp.mp z];exact rK L hP hQ hc (h.nc t h.mem)
 .rcases ZI.mp hd with z|z
  .exact up (h.cur d z)
  .rw[Zp.mp z];exact Gen.of L sm (ZH _ Zt)
 .rcases ZI.mp hu with z|z
  .exact up (h.dn u z (λq=>hn (ZO _ q)) d_ d hd)
  .exact absurd (ZH W z) hn
def Ap.fin(h:Ap Y P Q C Z W t C):Ar Y P Q C Z W:=
 ⟨h.zs,h.nc,h.has,λu hu hn c hc=>Classical.byCases (λe:u=t=>e▸h.cur c hc) λe=>h.dn u hu hn e c hc⟩
def Ar.done(L:cI Y)(hP:∀t,P t->Y.S t)(hQ:∀t,Q t->Y.S t)(hC:∀t,Gen Y Q t↔Gen Y (· ∈C) t)(TH:∀t∈C,Y.S t)(h:Ar Y P Q C Z []):∀t,Gen Y (· ∈Z) t↔NC Y P Q t:=by
 have hG:∀t,Gen Y Q t->Y.S t:=λt h=>Gen.S L hQ h;intro t;constructor
 .intro hx;induction hx with
  |one=>exact .one
  |mul ht hu ih=>exact Gen.app L (yb L hP hG) ih (h.nc _ hu)
 .intro hx;induction hx with
  |one=>exact .one
  |mul ht hu ih=>
   obtain⟨p,g,a1,a2,rfl⟩:=hu;exact Gen.app L h.zs ih (nV L h.zs TH (λc hc t ht=>h.dn t ht adD c hc) ((hC g).mp a2) (h.has p a1))
def eJ{α:Type}:∀{l m:List α},l.Nodup->(∀x∈l,x∈m)->l.length<=m.length:=by
 classical
 intro l;induction l with
 |nil=>intro m _ _;exact aak _
 |cons x l ih=>
  intro m hn h;obtain⟨h1,h2⟩:=Z8.mp hn;have:=ih (m:=m.erase x) h2 λy hy=>(aeY (a:=y) (b:=x) λe:y=x=>h1 (e▸hy)).mpr (h y (Zm _ hy));rw[acM (h x Zt)]at this;have:=aeL (h x Zt);rw[ZM];omega
def LO{α:Type}{l m:List α}{y:α}(hn:l.Nodup)(h:∀x∈l,x∈m)(hy:y∈m)(MQ:y∉l):l.length<m.length:=
 eJ (l:=y::l) (Z8.mpr ⟨MQ,hn⟩) λx hx=>(ZC.mp hx).elim (λe=>e▸hy) (h x)
variable {α:Type}{Y:Pg α}{P Q:α->Prop}{G G':α->Prop}{M l l':List α}{t:α}
def Dt(L:cI Y)(hl:l.Nodup)(h1:∀x,x∈l↔Gen Y G x)(h2:∀x,x∈l'↔Gen Y G' x)(hs:∀u,G u->G' u)(ht:Y.S t)(hG:G' t)(hn:¬Gen Y G t):l.length<l'.length:=
 LO (y:=t) hl (λx hx=>(h2 x).mpr (Gen.mono hs ((h1 x).mp hx))) ((h2 t).mpr (Gen.of L ht hG)) λz=>hn ((h1 t).mp z)
def Du(L:cI Y){ones other M:List α}(hQ:∀x,x∈ones↔Gen Y Q x)(hM:∀x,x∈M↔ ∃t∈ones,∃e∈other,x=cj Y e t):∀x,Gen Y (· ∈M) x↔NC Y (· ∈other) Q x:=by
 have e1:∀x,x∈M↔LN Y (· ∈other) (Gen Y Q) x:=λx=>(hM x).trans
  ⟨λ⟨t,ht,e,he,q⟩=>⟨e,t,he,(hQ t).mp ht,q⟩,λ⟨e,t,he,ht,q⟩=>⟨t,(hQ t).mpr ht,e,he,q⟩⟩
 exact λx=>⟨Gen.mono λu hu=>(e1 u).mp hu,Gen.mono λu hu=>(e1 u).mpr hu⟩
variable {α:Type}{Y:Pg α}{Q Z:α->Prop}{ones others:List α}
def Dv(L:cI Y)(hZ:∀t,Z t->Y.S t)(hQ:∀t,Q t->Y.S t)(hN:∀t,t∈others↔Gen Y Z t)(hG:∀g,g∈ones↔Gen Y Q g)(nd:others.Nodup)(hinv:∀g,Gen Y Q g->Gen Y Q (Y.inv g)):
  (∀g∈ones,(others.map λt=>Y.mul g t).Perm (others.map λt=>Y.mul t g))↔ ∀c,Q c->∀t,Z t->Gen Y Z (cj Y t c):=by
 have hS:∀t,Gen Y Z t->Y.S t:=λt h=>Gen.S L hZ h;constructor
 .intro h c hc t ht;have g:=Gen.of L (hQ c hc) hc;exact((p7 L nd hN hS (hQ c hc)).mp (h c ((hG c).mpr g))).1 t (Gen.of L (hZ t ht) ht)
 .intro h g hg;have g1:=(hG g).mp hg;exact(p7 L nd hN hS (Gen.S L hQ g1)).mpr ⟨λt ht=>nV L hZ hQ h g1 ht,λt ht=>nV L hZ hQ h (hinv g g1) ht⟩
section
variable {α:Type}{Y:Pg α}
noncomputable def nW(Y:Pg α):List (Rg α)->Nat->α->Bool
 |[],_,_=>true
 |R::l,i,t=>match dB R (Y.im t i)with
  |some u=>nW Y l (i+1) (Y.mul t (Y.inv u))
  |none=>false
theorem uw(L:cI Y):∀{l:List (Rg α)}{i:Nat}{t:α},VL Y l i->Y.S t->iD Y t i->(nW Y l i t=true↔H Y l t)
 |[],i,t,hv,hs,hf=>by
  have Gn:i=Y.n:=hv;exact⟨λ_=>L.ext hs L.s1 λk hk=>by rw[hf k (by lia),L.bK hk],λ_=>rfl⟩
 |R::l,i,t,hv,hs,hf=>by
  refine cP hv λhV hi hl=>?_;have at':∀p u w,(p,u)∈R->H Y l w->t=Y.mul w u->p=Y.im t i:=λp u w hu hw e=>by
   obtain⟨s1,f1⟩:=H.good L hl hw;refine cP (hV.st p u hu) λs2 f2 f3=>?_;rw[e,L.aY s1 s2 hi,f1 i (by lia),f3]
  unfold nW;cases e:dB R (Y.im t i)with
  |none=>
   refine⟨λz=>absurd z Zl,λh=>cn h λp u w hu hw ew=>?_⟩;exact absurd (Zv.mpr ⟨_,hu,at' p u w hu hw ew⟩) (ic e)
  |some u=>
   have hu:=b9 e;refine cP (hV.st _ u hu) λs2 f2 f3=>?_;have back:∀k,k<Y.n->Y.im (Y.inv u) (Y.im u k)=k:=λk hk=>by rw[<-L.aY s2 (L.si s2) hk,L.bL s2,L.bK hk]
   have QI:iD Y (Y.mul t (Y.inv u)) (i+1):=λk hk=>by
    rw[L.aY hs (L.si s2) (by lia)];rcases aap k i with z|z
    .rw[hf k z];have:=back k (by lia);rwa [f2 k z]at this
    .have:k=i:=by lia
     subst this;rw[<-f3];exact back k hi
   have ih:=uw L hl (L.sm hs (L.si s2)) QI;refine Iff.trans ih ⟨λh=>⟨_,u,_,hu,h,?_⟩,λh=>cn h λp u' w rN hw ew=>?_⟩
   .rw[L.assoc hs (L.si s2) s2,L.inv_mul s2,L.mul_one hs]
   .have hp:=at' p u' w rN hw ew;subst hp;have YI:u'=u:=h_ hV.nd rN hu;subst YI;rw[ew,L.assoc (H.good L hl hw).1 s2 (L.si s2),L.bL s2,L.mul_one (H.good L hl hw).1];exact hw
end
end eO
namespace et
open Py eO
section
variable {s:Nat}{F:FT}{M:List Int->Prop}{G:List aa2}
noncomputable def fW(l:List (Rg aa2)):List aa2:=l.flatMap λR=>R.map (·.2)
theorem yf:∀{l:List (Rg aa2)}{acc:List aa2}{x2:Option (Bool×D)},acc.length+(fW l).length <=10000->
  ∃y2,aN (λx ρ=>(ay 0 x).bind λys=>(cc ρ [2] ys).bind λρ'=>ex F (.seq (.ext 1 Q1) .skip) ρ') (l.map bB) [x0,some (true,.lst (acc.map tp)),x2]=some (.next [x0,some (true,.lst ((acc++fW l).map tp)),y2])
 |[],acc,x2,_=>⟨x2,by show some (kQ.next _)=_;rw[show fW []=[] from rfl,aaf]⟩
 |R::l,acc,x2,h=>by
  have e0:fW (R::l)=R.map (·.2)++fW l:=rfl;rw[e0,Zw,Zo]at h;obtain⟨y2,ih⟩:=yf (l:=l) (acc:=acc++R.map (·.2)) (x0:=x0) (x2:=vf (bB R)) (by rw[Zw,Zo];lia);refine⟨y2,?_⟩;have hc:ev F false Q1 [x0,some (true,.lst (acc.map tp)),vf (bB R)]=some (.lst ((R.map (·.2)).map tp)):=by
   rw[Z5];exact c_ (d:=bB R) (xs:=R) (h:=pairD) rfl rfl (Zr (show R.length<=10000 by omega) aa1) λe _=>rfl
  have hb:ex F (.ext 1 Q1) [x0,some (true,.lst (acc.map tp)),vf (bB R)]=some (.next [x0,some (true,.lst ((acc++R.map (·.2)).map tp)),vf (bB R)]):=by
   rw[Sj,hc];show(if(acc.map tp).length+((R.map (·.2)).map tp).length <=bV then _ else none)=_;rw[ZD (by simp only[Zo];exact Zr (show acc.length+R.length<=10000 by omega) aa1),<-Z3];rfl
  rw[ZS,fE (xG hb rfl),ih,e0,ZW]
def zX(h:(fW l).length <=10000):ex F d9.body (av d9 [aS l])=some (.ret (.tup ((fW l).map tp))):=by
 obtain⟨y2,h1⟩:=yf (F:=F) (x0:=vf (aS l)) (l:=l) (acc:=[]) (x2:=none) (by rw[abr];omega);exact xB (xs:=[]) rfl (xG h1 (xR rfl))
theorem yg(k:Nat):∀R:Rg aa2,((R.map λe=>D.int (e.1:Int)).any λz=>mj z (.int k))=(dB R k).isSome
 |[]=>rfl
 |e::R=>by
  rw[ZS,acx,yg k R];show(((e.1:Int)==(k:Int))||_)=_;rw[rD];unfold dB;rw[abG];by_cases h:e.1=k
  .rw[decide_eq_true h,show(e.1==k)=true by simp[h]];rfl
  .rw[decide_eq_false h,show(e.1==k)=false by simp[h]];rfl
noncomputable abbrev NE(x0 x1:Option (Bool×D))(c:Int)(t:List Int)(x4 x5 x6 x7:Option (Bool×D)):Env:=[x0,x1,vf (.int c),vf (tp t),x4,x5,x6,x7]
def GO(h6:s<=6)(ht:aa7)(hb:∀p∈perms s,F 2 [tp p]=some (tp (ip p)))(hi:i<s)(hv:V (pg s) i R)(hp:t∈perms s):
  (dB R ((pg s).im t i)=none->ex F PM (NE x0 x1 c t (vf (.int i)) (vf (bB R)) x6 x7)=some (.ret .cx))/\
  ∀u,dB R ((pg s).im t i)=some u->∃c' y6 y7,ex F PM (NE x0 x1 c t (vf (.int i)) (vf (bB R)) x6 x7)=some (.next (NE x0 x1 c' (comp t (ip u)) (vf (.int i)) (vf (bB R)) y6 y7)):=by
 have Ie:R.length<=s:=nN hi hv
 let P:List D:=R.map λe=>D.int (e.1:Int)
 have hP:P=(R.map λe=>(e.1:Int)).map D.int:=by rw[Z5];rfl
 have a6:ev F false (.comp [] 0 (.it (.var 5)) .nil (.idx aa_ (.ci 0))) (NE x0 x1 c t (vf (.int i)) (vf (bB R)) x6 x7)=some (.lst P):=c_ (d:=bB R) (xs:=R) (h:=pairD) rfl rfl (Zr (Zr Ie h6) aa1) λe _=>rfl;have GP:ev F false (.cmp .NotIn (.idx (.var 3) (.var 4)) (.var 6)) (NE x0 x1 c t (vf (.int i)) (vf (bB R)) (some (true,.lst P)) x7)=some (.bl (!(dB R ((pg s).im t i)).isSome)):=by
  refine vH (gN hp hi) (c:= .var 6) (y:= .lst P) rfl ?_;show(if(true&&f_ P 59)=true then some (!P.any λz=>mj z (.int ((pg s).im t i:Nat))) else none)=_;rw[yg,hP,j5];rfl
 constructor
 .intro e;rw[e]at GP;exact xB a6 (xZ GP rfl)
 .intro u e;rw[e]at GP;have hk:((pg s).im t i:Int)∈R.map λe=>(e.1:Int):=Zv.mpr ⟨_,b9 e,rfl⟩;obtain⟨j,hj⟩:=nC hk;have hg:=jP hj;rw[Zz]at hg;refine aa (aaW.mp hg) λe' VP UO=>?_;have hu:e'.2=u:=h_ hv.nd (p:=(pg s).im t i) (by
   have:e'.1=(pg s).im t i:=by omega
   rw[<-this];exact aac VP) (b9 e)
  subst hu;have VQ:e'.2∈perms s:=(hv.st _ _ (b9 e)).1;refine⟨c*R.length+j,some (true,.lst P),vf (.int (j:Nat)),xB a6 (xN GP (xA (d:= .int (j:Nat)) ?_ (xA (d:= .int (c*R.length+j)) ?_ (xA (d:=tp (comp t (ip e'.2))) (ak (aZ (x:=tp t) rfl (ak (fG ?_) (hb e'.2 VQ) (aw _))) (ht t hp _ (fT VQ)) (aw _)) rfl))))⟩
  .refine Yg (x:= .lst P) rfl (fG (gN hp hi)) ?_;show(aO P).bind (λns=>(cz ((pg s).im t i:Nat) ns).map λ(i:Nat)=>D.int (i:Int))=_;rw[hP,cY,aaB,hj];rfl
  .refine CM (i:=c*R.length) (j:=(j:Nat)) ?_ rfl;rw[zN (a:= .var 2) (x:= .int c) (c:= .prim .len (.u 5)) (y:= .int ((R.map pairD).length :Nat)) rfl rfl,Zo];exact ZD (lO c aa0 aa0)
  .exact Yh (x:=pairD e') (uk (by rw[Zz,VP];rfl)) rfl rfl
theorem yh(h6:s<=6)(ht:aa7)(hb:∀p∈perms s,F 2 [tp p]=some (tp (ip p))):∀{l:List (Rg aa2)}{i:Nat}{c:Int}{t:List Int}{x4 x5 x6 x7:Option (Bool×D)},VL (pg s) l i->t∈perms s->
  ∃o,aN (λx ρ=>(ay 2 x).bind λys=>(cc ρ [4,5] ys).bind λρ'=>ex F PM ρ') (aQ i (l.map bB)) (NE x0 x1 c t x4 x5 x6 x7)=some o/\if nW (pg s) l i t then∃c' t' y4 y5 y6 y7,o= .next (NE x0 x1 c' t' y4 y5 y6 y7) else o= .ret .cx
 |[],i,c,t,x4,x5,x6,x7,_,_=>⟨_,rfl,c,t,x4,x5,x6,x7,rfl⟩
 |R::l,i,c,t,x4,x5,x6,x7,hv,hp=>by
  have hi:i<s:=hv.2.1;obtain⟨t1,t2⟩:=GO (x0:=x0) (x1:=x1) (x6:=x6) (x7:=x7) (c:=c) h6 ht hb hi hv.1 hp;show∃o,aN _ (.tup [.int i,bB R]::aQ ((i:Int)+1) (l.map bB)) _=some o/\_;rw[aN];show∃o,(ex F PM (NE x0 x1 c t (vf (.int i)) (vf (bB R)) x6 x7)).bind _=some o/\_;unfold nW;cases e:dB R ((pg s).im t i)with
  |none=>rw[t1 e];exact⟨_,rfl,rfl⟩
  |some u=>
   have hu:u∈perms s:=(hv.1.st _ _ (b9 e)).1;refine MB (t2 u e) λc' y6 y7 e2=>?_;rw[e2];have:=yh h6 ht hb (x0:=x0) (x1:=x1) (l:=l) (i:=i+1) (c:=c') (t:=comp t (ip u)) (x4:=vf (.int i)) (x5:=vf (bB R)) (x6:=y6) (x7:=y7) hv.2.2 (cG hp (fT hu));rw[show(((i+1:Nat):Int))=(i:Int)+1 by lia]at this;exact this
def zY(h6:s<=6)(ht:aa7)(hb:∀p∈perms s,F 2 [tp p]=some (tp (ip p)))(hv:VL (pg s) l 0)(hp:t∈perms s):
  ∃d,ex F PR.body (av PR [aS l,tp t])=some (.ret d)/\if nW (pg s) l 0 t then∃c,d= .int c else d= .cx :=by
 refine aa (yh h6 ht hb (x0:=vf (aS l)) (x1:=vf (tp t)) (c:=0) (x4:=none) (x5:=none) (x6:=none) (x7:=none) hv hp) λo h1 h2=>?_;cases hh:nW (pg s) l 0 t with
 |true=>
  rw[hh]at h2;obtain⟨c',t',y4,y5,y6,y7,rfl⟩:=h2;exact⟨_,xA rfl (xA rfl (xG h1 (xR rfl))),c',rfl⟩
 |false=>
  rw[hh]at h2;have h2:o= .ret .cx :=h2;subst h2;exact⟨_,xA rfl (xA rfl (HW h1)),rfl⟩
def LP(hn:F 11 [aS l,tp t]=some d)(h:if nW (pg s) l 0 t then∃c,d= .int c else d= .cx):
  ex F PQ.body (av PQ [aS l,tp t])=some (.ret (.bl (nW (pg s) l 0 t))):=by
 cases hh:nW (pg s) l 0 t with
 |true=>
  rw[hh]at h;obtain⟨c,rfl⟩:=h;exact xR (vH (c:= .c .cx) (y:= .cx) (ak (aZ rfl rfl) hn rfl) rfl rfl)
 |false=>
  rw[hh]at h;have h:d= .cx :=h;subst h;exact xR (vH (c:= .c .cx) (y:= .cx) (ak (aZ rfl rfl) hn rfl) rfl rfl)
def yi:u∈fW l↔St l u:=by
 unfold fW;rw[aaO];constructor
 .rintro⟨R,hR,h⟩;obtain⟨e,he,rfl⟩:=Zv.mp h;exact⟨R,hR,e.1,he⟩
 .rintro⟨R,hR,p,h⟩;exact⟨R,hR,Zv.mpr ⟨_,h,rfl⟩⟩
def nX(h:u∈fW (aJ (pg s) M 0)):M u:=by
 obtain⟨R,hR,p,hp⟩:=yi.mp h;obtain⟨i,_,rfl⟩:=Zv.mp hR;exact(nM p u hp).1
def kI(hM:ef (pg s) M)(hG:∀u∈G,M u)(h:Gen (pg s) (· ∈G) t):M t:=by
 induction h with
 |one=>exact hM.one
 |mul _ hu ih=>exact hM.mul _ _ ih (hG _ hu)
def i5(hM:ef (pg s) M)(hl:Gq (pg s) M (aJ (pg s) M 0) 0):Gen (pg s) (· ∈fW (aJ (pg s) M 0)) t↔M t:=by
 refine⟨kI hM λu=>nX,λh=>?_⟩;have hm:=hl.hm ah hM;exact(H.gen ah hm.1 ((hm.2 t).mpr ⟨h,λk hk=>by lia⟩)).mono λu hu=>yi.mpr hu
def ij{P:α->Prop}{a b:List α}(ha:∀u∈a,P u)(hb:∀u∈b,P u):∀u∈a++b,P u:=λu h=>(ZI.mp h).elim (ha u) (hb u)
def GQ(h6:s<=6){a Z:List aa2}{u:List Int}(hZ:∀t∈Z,t∈perms s)(ha:∀t,Gen (pg s) (· ∈a) t↔Gen (pg s) (· ∈Z) t)(hA:∀t∈a,t∈perms s)(hu:u∈perms s):Gen (pg s) (· ∈a++[u])=Gen (pg s) (· ∈Z++[u]):=by
 have rN:∀v∈[u],v∈perms s:=λv hv=>by rw[Zp.mp hv];exact hu
 funext t;refine propext ⟨kI (dZ h6 (ij hZ rN)) (ij (λv h=>((ha v).mp (Gen.of ah (hA v h) h)).mono λw hw=>ZO _ hw) λv h=>Gen.of ah (rN v h) (ZH _ h)),kI (dZ h6 (ij hA rN)) (ij (λv h=>((ha v).mpr (Gen.of ah (hZ v h) h)).mono λw hw=>ZO _ hw) λv h=>Gen.of ah (rN v h) (ZH _ h))⟩
end
section
variable {s:Nat}{F:FT}{l m:List (Rg aa2)}
def Dw{xs:List α}{h g:α->D}(h1:ev F true a ρ=some d)(h2:seq d=some (xs.map h))(hl:xs.length<=bV)(hc:∀x∈xs,ev F false el (inner [h x] ρ fr)=some (g x)):ev F b (.prim .tuple (.o (.comp fr 0 (.it a) .nil el))) ρ=some (.tup (xs.map g)):=Pz (c_ h1 h2 hl hc) rfl
theorem Ih:∀bs:List Bool,eF (bs.map .bl)=some bs
 |[]=>rfl
 |b::bs=>by show(eF (bs.map .bl)).map (b:: ·)=_;rw[Ih bs];rfl
def nY{xs:List α}{h:α->D}{c:α->Bool}(h1:ev F true a ρ=some d)(h2:seq d=some (xs.map h))(hl:xs.length<=bV)(hc:∀x∈xs,ev F false el (inner [h x] ρ fr)=some (.bl (c x))):ev F b (.prim .all (.o (.comp fr 0 (.it a) .nil el))) ρ=some (.bl (xs.all c)):=by
 rw[Ez,fG (c_ (g:=λx=> .bl (c x)) h1 h2 hl hc),show xs.map (λx=>D.bl (c x))=(xs.map c).map .bl by rw[Z5];rfl];show(eF ((xs.map c).map .bl)).map (λbs=>D.bl (bs.all id))=_;rw[Ih];show some (D.bl ((xs.map c).all id))=_;rw[List.all_map];rfl
def zZ{a:List aa2}{c:List Int->Bool}(LQ:a.length<=bV)(h9:F 9 [aS l]=some (.tup (a.map tp)))(HJ:∀t∈a,F 10 [aS m,tp t]=some (.bl (c t))):
  out (ex F PU.body (av PU [aS l,aS m]))=some (.bl (a.all c)):=
 dA (nY (aG (fG rfl) h9 rfl) rfl LQ λt ht=>ak (aZ rfl rfl) (HJ t ht) rfl)
def Dx(ht:aa7)(hb:∀p∈perms s,F 2 [tp p]=some (tp (ip p)))(hg:g∈perms s)(hp:t∈perms s):out (ex F LB.body (av LB [tp t,tp g]))=some (tp (cj (pg s) t g)):=by
 have hi:ip g∈perms s:=ah.si (Y:=pg s) hg;have c1:ev F true (.call 2 (.u 1)) (av LB [tp t,tp g])=some (tp (ip g)):=ak (fG rfl) (hb g hg) (aw _);have c2:ev F true (.call 1 (.cons (.call 2 (.u 1)) (.u 0))) (av LB [tp t,tp g])=some (tp (comp (ip g) t)):=ak (aZ c1 rfl) (ht _ hi t hp) (aw _);exact dA (ak (aZ c2 rfl) (ht _ (ah.sm (Y:=pg s) hi hp) g hg) (aw _))
def Dy{g:List Int}{a:List aa2}(LQ:a.length<=bV)(h9:F 9 [aS l]=some (.tup (a.map tp)))(P9:∀t∈a,F 13 [tp t,tp g]=some (tp (cj (pg s) t g))):out (ex F PV.body (av PV [aS l,tp g]))=some (.tup ((a.map λt=>cj (pg s) t g).map tp)):=by
 rw[Z5];exact dA (Dw (aG (fG rfl) h9 rfl) rfl LQ λt ht=>ak (aZ rfl rfl) (P9 t ht) (aw _))
def z9(h:F 12 [aS l,aS m]=some (.bl true)):out (ex F LC.body (av LC [aS l,aS m]))=some .cx :=by
 have c:ev F false (.not (.call 12 (.w 0 (.u 1)))) (av LC [aS l,aS m])=some (.bl false):=by
  rw[NA,ak (b:=false) (aZ rfl rfl) h rfl];rfl
 show out (ex F (.seq (.ifs _ _ _) .skip) (av LC [aS l,aS m]))=_;rw[u6,qy,c];rfl
def LR{g:List Int}{a:List aa2}{c:List Int->Bool}(LQ:a.length<=bV)(YJ:F 14 [aS l,tp g]=some (.tup (a.map tp)))(HJ:∀t∈a,F 10 [aS l,tp t]=some (.bl (c t))):out (ex F PX.body (av PX [aS l,tp g]))=some (.bl (a.all c)):=
 dA (nY (aG (aZ rfl rfl) YJ rfl) rfl LQ λt ht=>ak (aZ rfl rfl) (HJ t ht) rfl)
def p8(h:ev F true e ρ=some d):ex F (.expr e) ρ=some (.next ρ):=by
 show(ev F true e ρ).map _=_;rw[h];rfl
def GR{a:List aa2}{c:List Int->Bool}(LQ:a.length<=bV)(YK:F 15 [aS l,aS m]=some .cx)(h9:F 9 [aS m]=some (.tup (a.map tp)))(YL:∀t∈a,F 16 [aS l,tp t]=some (.bl (c t))):out (ex F PY.body (av PY [aS l,aS m]))=some (.bl (a.all c)):=by
 show out (ex F (.seq (.expr _) _) _)=_;rw[ny (p8 (ak (aZ rfl rfl) YK rfl))];exact dA (nY (aG (fG rfl) h9 rfl) rfl LQ λt ht=>ak (aZ rfl rfl) (YL t ht) rfl)
def yj(h:∀t∈xs,t≠[])(h1:ev F true a ρ=some (.lst (xs.map tp))):ev F b (.prim .sorted (.o a)) ρ=some (.lst ((bJ.aV xs).map tp)):=by
 rw[Ez,fG h1];show(dh (xs.map tp)).map (λks=>D.lst ((bJ.aV ks).map lg))=_;rw[ig h];rfl
noncomputable abbrev z_(G:List aa2)(g:List Int):Bool:=decide (bJ.aV (G.map λt=>comp g t)=bJ.aV (G.map λt=>comp t g))
def GS(h1:1<=s)(aU:aa8)(hG:∀t∈G,t∈perms s)(hl:G.length<=bV)(hg:g∈perms s):
  ex F PN [vf (.lst (G.map tp)),x1,vf (tp g),x3]=some (if z_ G g then .next [vf (.lst (G.map tp)),x1,vf (tp g),vf (.lst ((bJ.aV (G.map λt=>comp g t)).map tp))] else .ret (.bl false)):=by
 have ne:∀f:List Int->List Int,(∀t∈G,f t∈perms s)->∀t∈G.map f,t≠[]:=λf hf t ht=>by
  obtain⟨u,hu,rfl⟩:=Zv.mp ht;exact rG h1 (hf u hu)
 have c1:∀{b x3},ev F b (.prim .sorted (.o (.comp [2] 0 (.it aa_) .nil (.call 24 (.w 1 (.u 0)))))) [vf (.lst (G.map tp)),x1,vf (tp g),x3]=some (.lst ((bJ.aV (G.map λt=>comp g t)).map tp)):=λ{b x3}=>
  yj (ne _ λt ht=>cG hg (hG t ht)) (by
   rw[Z5];exact c_ (d:= .lst (G.map tp)) rfl rfl hl λt ht=>ak (aZ rfl rfl) (aU g hg t (hG t ht)) (aw _))
 have c2:∀{b x3},ev F b (.prim .sorted (.o (.comp [2] 0 (.it aa_) .nil (.call 24 (.w 0 (.u 1)))))) [vf (.lst (G.map tp)),x1,vf (tp g),x3]=some (.lst ((bJ.aV (G.map λt=>comp t g)).map tp)):=λ{b x3}=>
  yj (ne _ λt ht=>cG (hG t ht) hg) (by
   rw[Z5];exact c_ (d:= .lst (G.map tp)) rfl rfl hl λt ht=>ak (aZ rfl rfl) (aU t (hG t ht) g hg) (aw _))
 rw[ny (cw c1)];show ex F (.seq (.ifs _ _ _) .skip) [vf (.lst (G.map tp)),x1,vf (tp g),vf (.lst ((bJ.aV (G.map λt=>comp g t)).map tp))]=_;rw[u6,qy,vH (a:= .var 3) (k:=!z_ G g) rfl c2 rJ];cases z_ G g<;>rfl
theorem yk(h1:1<=s)(aU:aa8)(hG:∀t∈G,t∈perms s)(hl:G.length<=bV):∀{gs:List aa2}{x2 x3:Option (Bool×D)},(∀g∈gs,g∈perms s)->
  ∃ρ,aN (λx ρ=>(ay 0 x).bind λys=>(cc ρ [2] ys).bind λρ'=>ex F PN ρ') (gs.map tp) [vf (.lst (G.map tp)),x1,x2,x3]=some (if gs.all (z_ G) then .next ρ else .ret (.bl false))
 |[],x2,x3,_=>⟨_,rfl⟩
 |g::gs,x2,x3,h=>by
  have t1:=GS (x1:=x1) (x3:=x3) h1 aU hG hl (h g Zt);rw[ZS,abZ];cases hb:z_ G g with
  |false=>
   rw[hb]at t1;refine⟨[],?_⟩;rw[aN];show(ex F PN [vf (.lst (G.map tp)),x1,vf (tp g),x3]).bind _=_;rw[t1];rfl
  |true=>
   rw[hb]at t1;obtain⟨ρ,ih⟩:=yk h1 aU hG hl (x1:=x1) (gs:=gs) (x2:=vf (tp g)) (x3:=vf (.lst ((bJ.aV (G.map λt=>comp g t)).map tp))) λg hg=>h g (Zm _ hg);exact⟨ρ,by rw[fE (ρ':=[vf (.lst (G.map tp)),x1,vf (tp g),vf (.lst ((bJ.aV (G.map λt=>comp g t)).map tp))]) t1];exact ih⟩
def Dz{G gs:List aa2}(h1:1<=s)(aU:aa8)(hG:∀t∈G,t∈perms s)(hl:G.length<=bV)(LI:∀g∈gs,g∈perms s):
  out (ex F Mz.body (av Mz [.lst (G.map tp),.lst (gs.map tp)]))=some (.bl (gs.all (z_ G))):=by
 obtain⟨ρ,i⟩:=yk h1 aU hG hl (x1:=vf (.lst (gs.map tp))) (gs:=gs) (x2:=none) (x3:=none) LI;have hf:ex F (.for [2] 0 (.it (.var 1)) PN) (av Mz [.lst (G.map tp),.lst (gs.map tp)])=some (if gs.all (z_ G) then .next ρ else .ret (.bl false)):=i;show out (ex F (.seq (.for _ _ _ _) _) _)=_;cases hb:gs.all (z_ G)with
 |true=>
  rw[hb]at hf;rw[ny hf];rfl
 |false=>
  rw[hb]at hf;rw[HW hf];rfl
end
end et
namespace Py
mutual
theorem nZ:∀d:D,mj d d=true
 | .cx =>rfl
 | .bl b=>by show(b==b)=true;simp
 | .int i=>by show(i==i)=true;simp
 | .tup xs=>n6 xs
 | .lst xs=>n6 xs
 | .bI _ _ _=>rfl
theorem n6:∀l:List D,Ad l l=true
 |[]=>rfl
 |x::l=>by show(mj x x&&Ad l l)=true;rw[nZ x,n6 l];rfl
end
end Py
namespace et
open Py eO
section
variable {n s:Nat}
def LU(h:s<=6):run T (n+1) 0 [.int s]=some (tp (bW s)):=by
 rw[bR (d:=jO) rfl rfl];exact CU (by lia)
def n8(h:s<=6):∀p∈perms s,∀q∈perms s,run T (n+1) 1 [tp p,tp q]=some (tp (comp p q)):=λp hp q hq=>by
 rw[bR (d:=eI) rfl rfl];exact uf (by lia) hp hq
def lR(h:s<=6):∀p∈perms s,∀q∈perms s,run T (n+1) 24 [tp p,tp q]=some (tp (comp p q)):=λp hp q hq=>by
 rw[bR (d:=eI) rfl rfl];exact uf (by lia) hp hq
def DA(h:s<=6):∀p∈perms s,run T (n+1) 2 [tp p]=some (tp (ip p)):=λp hp=>by
 rw[bR (d:=nE) rfl rfl];exact Gi (by lia) hp
def LV:∀p∈perms s,run T (n+1) 25 [tp p]=some (tp (ip p)):=λp hp=>by
 rw[bR (d:=fU) rfl rfl];exact CY hp
def P_(ns:List Int){k:Nat}(hk:k<1000):run T (n+2) 20 [.lst (ns.map .int),.int k]=some (.int (uF ns k)):=by
 rw[bR (d:=nv 19) rfl rfl];refine Lo ns k hk ?_;rw[bR (d:=gK) rfl rfl];exact Gb ns k
def DB(a k:Int):run T (n+1) 21 [.int a,.int k]=some (.int (drawn a k)):=by
 rw[bR (d:=hU) rfl rfl];exact CN a k
def P'(ha:0<=a)(h1:1<=s)(h6:s<=6):∃p∈perms s,run T (n+2) 22 [.int a,.int s]=some (tp p):=by
 rw[bR (d:=kE 21) rfl rfl];exact Gg ha h1 h6 λk=>⟨drawn a k,DB a k⟩
def LH(a:Int)(h1:1<=s)(h6:s<=6):∃ps:List aa2,run T (n+3) 23 [.int a,.int s]=some (.tup (ps.map tp))/\ps.length<=6/\∀p∈ps,p∈perms s:=by
 rw[bR (d:=iK 22 21) rfl rfl];refine bO (Lw (F:=run T (n+2)) (ft:=22) (fd:=21) (s:=s) (a:=a) (λk=>DB a k) λb hb=>P' hb h1 h6) λys e hl hP=>aa (C1 ys hP) λps af rC=>?_;subst af;exact⟨ps,e,by rwa [Zo]at hl,rC⟩
theorem kJ:∀ps:List aa2,aI (.tup (ps.map tp))=true
 |[]=>rfl
 |p::ps=>by
  show(aI (tp p)&&aI (.tup (ps.map tp)))=true;rw[aw,kJ ps];rfl
def nP(h6:s<=6):∀l t,VL (pg s) l 0->t∈perms s->run T (n+2) 3 [.lst (l.map aE),tp t]=some (tp (du (pg s) l 0 t)):=λl t hv ht=>by
 exact xO (fd:=d3) rfl rfl (Gw (n8 h6) (DA h6) hv ht)
def nQ(h6:s<=6):∀l r,VL (pg s) l 0->r∈perms s->run T (n+2) 4 [.lst (l.map aE),tp r]=some (.lst ((bE r l).map tp)):=λl r hv hr=>by
 refine xO (fd:=d4) rfl rfl (Gy (n8 h6) hr (GC hv) ?_);have h1:=rE ah hv;have h2:=VL.len hv;rw[aav]at h2;have h3:l.length*(pg s).n <=6*6:=afa (by rw[h2];exact h6) h6;rw[kF];lia
def GU(h6:s<=6){ps:List aa2}(rC:∀p∈ps,p∈perms s)(hl:ps.length<=720):
  ∃l,Fd (pg s) (· ∈ps) l []/\∀n,run T (n+4) 8 [.tup (ps.map tp),.int s]=some (aS (aJ (pg s) (Gen (pg s) (· ∈ps)) 0)):=by
 have key:∀n,∃l,run T (n+3) 5 [.tup (ps.map tp),.int s]=some (.lst (l.map aE))/\Fd (pg s) (· ∈ps) l []:=λn=>by
  exact aa (Di (F:=run T (n+2)) h6 rC hl (LU h6) (nP h6) (nQ h6)) λl e hd=>⟨l,by rw[bR (d:=d5) rfl rfl];exact e,hd⟩
 refine aa (key 0) λl0 _ QE=>⟨l0,QE,λn=>?_⟩;refine aa (key n) λl e hd=>?_;have hM:=dZ h6 rC;have hm:=hd.hm ah rC;refine xO (fd:=d8) rfl rfl (zV h6 e (kJ ps) λk hk=>xO (fd:=d7) rfl rfl (GF h6 hM hm hk λu hu=>?_));exact aa (Dj (F:=run T (n+1)) h6 (n8 h6) hm.1 hk hu) λx e1 e2=>⟨x,xO (fd:=d6) rfl rfl e1,e2⟩
theorem p9(n:Nat):∀R:Rg aa2,f_ (R.map pairD) (n+2)=true
 |[]=>rfl
 |e::R=>by
  show((true&&(fK (tp e.2) (n+1)&&true))&&f_ (R.map pairD) (n+2))=true;rw[vK,p9 n R];rfl
theorem p_(n:Nat):∀l:List (Rg aa2),f_ (l.map bB) (n+3)=true
 |[]=>rfl
 |R::l=>by
  show(f_ (R.map pairD) (n+2)&&f_ (l.map bB) (n+3))=true;rw[p9,p_ n l];rfl
def DC(l:List (Rg aa2)):fK (aS l) 60=true:=p_ 56 l
def GV(h:fK d 60=true):cmp .NotEq d d=some false:=by
 show(if(fK d 60&&fK d 60)=true then some (!mj d d) else none)=_;rw[h,nZ];rfl
def GW(h:fK d 60=true):cmp .Eq d d=some true:=by
 show(if(fK d 60&&fK d 60)=true then some (mj d d) else none)=_;rw[h,nZ];rfl
end
section
variable {n s:Nat}{F:FT}{M N:List Int->Prop}
theorem DD:∀l:List (Rg aa2),(fW l).length =cnt l
 |[]=>rfl
 |R::l=>by
  show(R.map (·.2)++fW l).length =R.length+cnt l;rw[Zw,Zo,DD l]
structure Kn(s:Nat)(M:List Int->Prop):Prop where
 y:ef (pg s) M
 Ii:Gq (pg s) M (aJ (pg s) M 0) 0
 tl:∀t,t∈TL (pg s) (aJ (pg s) M 0)↔M t
 nd:(TL (pg s) (aJ (pg s) M 0)).Nodup
 v:VL (pg s) (aJ (pg s) M 0) 0
 len:(aJ (pg s) M 0).length =s
 kK:(fW (aJ (pg s) M 0)).length <=36
 rl:∀R∈aJ (pg s) M 0,R.length<=1000
def Qa(h6:s<=6)(hM:ef (pg s) M)(h:Hm (pg s) M l 0):Kn s M:=by
 obtain⟨a,b,c⟩:=C9 ah hM h;have v:=(a.hm ah hM).1;have hl:(aJ (pg s) M 0).length =s:=by have:=VL.len v;rw[aav]at this;exact this
 have h2:=rE ah v;rw[hl]at h2;refine⟨hM,a,b,c,v,hl,by rw[DD];exact Zr h2 (afa h6 h6),λR hR=>?_⟩;obtain⟨i,hi⟩:=List.getElem?_of_mem hR;have:=nN (by have:=(ZJ.mp hi).1;lia) (VL.at v hi);lia
def ik(k:Kn s M):run T (n+1) 9 [aS (aJ (pg s) M 0)]=some (.tup ((fW (aJ (pg s) M 0)).map tp)):=by
 exact xO (fd:=d9) rfl rfl (zX (by have:=k.kK;omega))
noncomputable abbrev hB(s:Nat)(M:List Int->Prop)(t:List Int):Bool:=nW (pg s) (aJ (pg s) M 0) 0 t
def jT(k:Kn s M)(ht:t∈perms s):hB s M t=true↔M t:=by
 have hm:=k.Ii.hm ah k.y;exact(uw ah k.v ht λj hj=>absurd hj (aah _)).trans ((hm.2 t).trans ⟨λh=>h.1,λh=>⟨h,λj hj=>absurd hj (aah _)⟩⟩)
def LW(h6:s<=6)(k:Kn s M)(ht:t∈perms s):run T (n+3) 10 [aS (aJ (pg s) M 0),tp t]=some (.bl (hB s M t)):=by
 obtain⟨d,e,q⟩:=zY (F:=run T (n+1)) h6 (n8 h6) (DA h6) k.v ht;exact xO (fd:=PQ) rfl rfl (LP (s:=s) (xO (fd:=PR) rfl rfl e) q)
def LX(h6:s<=6){G:List aa2}(hG:∀u∈G,u∈perms s)(hl:G.length<=720)(hM:ef (pg s) M)(e:Gen (pg s) (· ∈G)=M):Kn s M/\∀n,run T (n+4) 8 [.tup (G.map tp),.int s]=some (aS (aJ (pg s) M 0)):=by
 obtain⟨l,hd,f⟩:=GU h6 hG hl;have hm:=hd.hm ah hG;rw[e]at hm f;exact⟨Qa h6 hM hm,f⟩
def iE(k:Kn s M):∀u∈fW (aJ (pg s) M 0),u∈perms s:=λu h=>k.y.s u (nX h)
structure YM(s:Nat)(M:List Int->Prop)(Ts:List aa2):Prop where
 mem:∀t,t∈Ts↔M t
 kK:Ts.length<=1000
 nd:Ts.Nodup
 up:Ts.Pairwise bJ.Mo
def j4(h1:1<=s)(h6:s<=6){ps:List aa2}(rC:∀p∈ps,p∈perms s)(hl:ps.length<=1000)(he:seq e=some (ps.map tp)):∃Ts,run T (n+2) 26 [e,.int s]=some (.lst (Ts.map tp))/\YM s (Gen (pg s) (· ∈ps)) Ts:=by
 obtain⟨B,eB,hB⟩:=LJ (F:=run T (n+1)) h1 h6 (lR h6) rC hl he;have Ze:B.length<=720:=Zr (eJ _ _ hB.nd λx hx=>C_ rC (hB.gen x hx)) (gO h6);exact⟨_,xO (fd:=Mx) rfl rfl eB,λt=>((bJ.bA B).mem_iff).trans ((hB.done t).trans xS),by rw[(bJ.bA B).length_eq];lia,(bJ.bA B).nodup_iff.mpr hB.nd,bJ.jw B⟩
def Qb(h1:1<=s)(h6:s<=6)(hM:ef (pg s) M){Ts:List aa2}(hT:∀t,t∈Ts↔M t)(hl:Ts.length<=1000):run T (n+1) 27 [.lst (Ts.map tp),.int s]=some (aS (aJ (pg s) M 0)):=by
 exact xO (fd:=PZ) rfl rfl (vN h6 h1 hM hT hl)
def GX(h6:s<=6)(k:Kn s M)(j:Kn s N):run T (n+4) 12 [aS (aJ (pg s) M 0),aS (aJ (pg s) N 0)]=some (.bl ((fW (aJ (pg s) M 0)).all (hB s N))):=by
 rw[bR (d:=PU) rfl rfl];exact zZ (Zr k.kK aa1) (ik k) λt ht=>LW h6 j (iE k t ht)
def LY(k:Kn s M)(j:Kn s N):(fW (aJ (pg s) M 0)).all (hB s N)=true↔ ∀t,M t->N t:=by
 rw[aas];exact⟨λh t ht=>kI j.y (λu hu=>(jT j (iE k u hu)).mp (h u hu)) ((i5 k.y k.Ii).mpr ht),λh u hu=>(jT j (iE k u hu)).mpr (h u (nX hu))⟩
def yl(h6:s<=6)(k:Kn s M)(j:Kn s N)(h:∀t,M t->N t):run T (n+5) 15 [aS (aJ (pg s) M 0),aS (aJ (pg s) N 0)]=some .cx :=by
 rw[bR (d:=LC) rfl rfl];refine z9 ?_;rw[GX h6 k j,(LY k j).mpr h]
def DE(h6:s<=6)(hp:t∈perms s)(hg:g∈perms s):run T (n+2) 13 [tp t,tp g]=some (tp (cj (pg s) t g)):=by
 rw[bR (d:=LB) rfl rfl];exact Dx (F:=run T (n+1)) (n8 h6) (DA h6) hg hp
noncomputable abbrev iB(s:Nat)(M:List Int->Prop)(g:List Int):Bool:=((fW (aJ (pg s) M 0)).map λt=>cj (pg s) t g).all (hB s M)
def Ub(h6:s<=6)(k:Kn s M)(hg:g∈perms s):run T (n+4) 16 [aS (aJ (pg s) M 0),tp g]=some (.bl (iB s M g)):=by
 rw[bR (d:=PX) rfl rfl];refine LR (by rw[Zo];exact Zr k.kK aa1) ?_ λt ht=>?_
 .rw[bR (d:=PV) rfl rfl];exact Dy (Zr k.kK aa1) (ik k) λt ht=>DE h6 (iE k t ht) hg
 .obtain⟨u,hu,rfl⟩:=Zv.mp ht;exact LW h6 k (nU ah (iE k u hu) hg)
def Ij(h6:s<=6)(k:Kn s M)(j:Kn s N)(h:∀t,M t->N t):run T (n+6) 17 [aS (aJ (pg s) M 0),aS (aJ (pg s) N 0)]=some (.bl ((fW (aJ (pg s) N 0)).all (iB s M))):=by
 rw[bR (d:=PY) rfl rfl];exact GR (Zr j.kK aa1) (yl h6 k j h) (ik j) λt ht=>Ub h6 k (iE j t ht)
def ux(k:Kn s M)(j:Kn s N):(fW (aJ (pg s) N 0)).all (iB s M)=true↔ ∀c∈fW (aJ (pg s) N 0),∀t∈fW (aJ (pg s) M 0),M (cj (pg s) t c):=by
 rw[aas];refine forall_congr' λc=>forall_congr' λhc=>?_;show(List.all _ _)=true↔_;rw[aas];exact⟨λh t ht=>(jT k (nU ah (iE k t ht) (iE j c hc))).mp (h _ (Zv.mpr ⟨t,ht,rfl⟩)),λh u hu=>by
  obtain⟨t,ht,rfl⟩:=Zv.mp hu;exact(jT k (nU ah (iE k t ht) (iE j c hc))).mpr (h t ht)⟩
def DF(h1:1<=s)(h6:s<=6){G gs:List aa2}(hG:∀t∈G,t∈perms s)(hl:G.length<=1000)(LI:∀g∈gs,g∈perms s):run T (n+2) 29 [.lst (G.map tp),.lst (gs.map tp)]=some (.bl (gs.all (z_ G))):=by
 rw[bR (d:=Mz) rfl rfl];exact Dz h1 (lR h6) hG (Zr hl aa1) LI
end
section
variable {s n:Nat}{P Q:List Int->Prop}{Cr:List aa2}
noncomputable abbrev yD(s:Nat)(Z:List aa2):D:=aS (aJ (pg s) (Gen (pg s) (· ∈Z)) 0)
noncomputable abbrev RE(s:Nat)(x0 x1:Option (Bool×D))(Cr Z W:List aa2)(x5 x6 x7:Option (Bool×D)):Env:=[x0,x1,vf (.tup (Cr.map tp)),vf (yD s Z),some (true,.lst (W.map tp)),x5,x6,x7]
noncomputable abbrev nT(s:Nat)(Z:List aa2):Nat:=(TL (pg s) (aJ (pg s) (Gen (pg s) (· ∈Z)) 0)).length
def GY(h6:s<=6)(k:Kn s (Gen (pg s) (· ∈Z)))(hZ:∀t∈Z,t∈perms s)(ht:t∈perms s)(hg:g∈perms s)(hW:W.length<=2000):
  (Gen (pg s) (· ∈Z) (cj (pg s) t g)->ex (run T (n+5)) Q2 (RE s x0 x1 Cr Z W (vf (tp t)) (vf (tp g)) x7)=some (.next (RE s x0 x1 Cr Z W (vf (tp t)) (vf (tp g)) (vf (tp (cj (pg s) t g))))))/\
  (¬Gen (pg s) (· ∈Z) (cj (pg s) t g)->Kn s (Gen (pg s) (· ∈Z++[cj (pg s) t g]))/\ex (run T (n+5)) Q2 (RE s x0 x1 Cr Z W (vf (tp t)) (vf (tp g)) x7)=some (.next (RE s x0 x1 Cr (Z++[cj (pg s) t g]) (W++[cj (pg s) t g]) (vf (tp t)) (vf (tp g)) (vf (tp (cj (pg s) t g)))))):=by
 have hu:cj (pg s) t g∈perms s:=nU ah ht hg;have hi:=jT k hu;have P9:run T (n+5) 13 [tp t,tp g]=some (tp (cj (pg s) t g)):=DE h6 ht hg;have HJ:run T (n+5) 10 [yD s Z,tp (cj (pg s) t g)]=some (.bl (hB s (Gen (pg s) (· ∈Z)) (cj (pg s) t g))):=LW (n:=n+2) h6 k hu;generalize cj (pg s) t g=u at hu hi P9 HJ⊢;have b1:ev (run T (n+5)) false (.not (.call 10 (.w 3 (.u 7)))) (RE s x0 x1 Cr Z W (vf (tp t)) (vf (tp g)) (vf (tp u)))=some (.bl !(hB s (Gen (pg s) (· ∈Z)) u)):=Vy (ak (aZ rfl rfl) HJ rfl);refine⟨λh=>?_,λh=>?_⟩
 .rw[hi.mpr h]at b1;exact xA (ak (aZ rfl rfl) P9 (aw _)) (xN b1 rfl)
 .rw[Bool.eq_false_iff.mpr λz=>h (hi.mp z)]at b1;have hS:∀v∈fW (aJ (pg s) (Gen (pg s) (· ∈Z)) 0)++[u],v∈perms s:=ij (iE k) λv hv=>by rw[Zp.mp hv];exact hu
  have e:=GQ h6 hZ (λt=>i5 k.y k.Ii) (iE k) hu;obtain⟨k',f8⟩:=LX h6 hS (by rw[Zw,aab];exact Zr (abx k.kK) aa1) (M:=Gen (pg s) (· ∈Z++[u])) (by rw[<-e];exact dZ h6 hS) e;refine⟨k',xA (ak (aZ rfl rfl) P9 (aw _)) (xY b1 (xA (aG (aZ ?_ ?_) (f8 (n+1)) rfl) (xG (fJ (d:=tp u) (xs:=W.map tp) rfl rfl (by rw[Zo];exact Z4 hW aa1)) ?_)) rfl)⟩
  .rw[zN (aG (fG rfl) (ik (n:=n+4) k) rfl) (VB rfl),Z3];exact ZD (by rw[Zo];exact Zr (abx k.kK) aa1)
  .show some (D.int (((aJ (pg s) (Gen (pg s) (· ∈Z)) 0).map bB).length :Nat))=_;rw[Zo,k.len]
  .rw[show W.map tp++[tp u]=(W++[u]).map tp by rw[Z3];rfl];rfl
structure Ao(s:Nat)(Z W:List aa2):Prop where
 k:Kn s (Gen (pg s) (· ∈Z))
 w:∀t∈W,t∈Z
 kK:2*(720-nT s Z)+W.length<=2000
theorem DG(h6:s<=6)(hP:∀t,P t->t∈perms s)(hQ:∀t,Q t->t∈perms s)(hC:∀c∈Cr,Gen (pg s) Q c):∀{cs dn Z W:List aa2}{x6 x7:Option (Bool×D)},(∀c∈cs,c∈Cr)->Ap (pg s) P Q Cr Z W t dn->Ao s Z W->
  ∃Z' W' y6 y7,aN (λx ρ=>(ay 0 x).bind λys=>(cc ρ [6] ys).bind λρ'=>ex (run T (n+5)) Q2 ρ') (cs.map tp) (RE s x0 x1 Cr Z W (vf (tp t)) x6 x7)=some (.next (RE s x0 x1 Cr Z' W' (vf (tp t)) y6 y7))/\Ap (pg s) P Q Cr Z' W' t (dn++cs)/\Ao s Z' W'/\2*(720-nT s Z')+W'.length<=2*(720-nT s Z)+W.length
 |[],dn,Z,W,x6,x7,_,h,a=>⟨Z,W,x6,x7,rfl,by rw[aaf];exact h,a,Zu _⟩
 |g::cs,dn,Z,W,x6,x7,sh,h,a=>by
  have VR:=sh g Zt;have hg:g∈perms s:=Gen.S ah hQ (hC g VR);have ht:t∈perms s:=h.zs t h.mem;have e0:dn++g::cs=(dn++[g])++cs:=by rw[ZW];rfl
  obtain⟨t1,t2⟩:=GY (n:=n) (Cr:=Cr) (x0:=x0) (x1:=x1) (x7:=x7) (W:=W) h6 a.k h.zs ht hg (Zr (acU _ _) a.kK);rw[e0,ZS];by_cases hm:Gen (pg s) (· ∈Z) (cj (pg s) t g)
  .obtain⟨Z',W',y6,y7,i1,i2,i3,i4⟩:=DG h6 hP hQ hC (x0:=x0) (x1:=x1) (cs:=cs) (x6:=vf (tp g)) (x7:=vf (tp (cj (pg s) t g))) (λc hc=>sh c (Zm _ hc)) (h.old hm) a;exact⟨Z',W',y6,y7,by rw[fE (ρ':=RE s x0 x1 Cr Z W (vf (tp t)) (vf (tp g)) (vf (tp (cj (pg s) t g)))) (t1 hm)];exact i1,i2,i3,i4⟩
  .obtain⟨k',e1⟩:=t2 hm;have hn:=h.new ah hP hQ (hC g VR);have lt:nT s Z<nT s (Z++[cj (pg s) t g]):=Dt ah a.k.nd a.k.tl k'.tl (λu hu=>ZO _ hu) (nU ah ht hg) (ZH _ (Zp.mpr rfl)) hm;have le:nT s (Z++[cj (pg s) t g])<=720:=P7 h6 k'.v;have len:(W++[cj (pg s) t g]).length =W.length+1:=by rw[Zw];rfl
   have kK:=a.kK;have st:2*(720-nT s (Z++[cj (pg s) t g]))+(W++[cj (pg s) t g]).length <=2*(720-nT s Z)+W.length:=by rw[len];omega
   obtain⟨Z',W',y6,y7,i1,i2,i3,i4⟩:=DG h6 hP hQ hC (x0:=x0) (x1:=x1) (cs:=cs) (x6:=vf (tp g)) (x7:=vf (tp (cj (pg s) t g))) (λc hc=>sh c (Zm _ hc)) hn ⟨k',λw hw=>(ZI.mp hw).elim (λz=>ZO _ (a.w w z)) λz=>ZH _ z,Zr st kK⟩;exact⟨Z',W',y6,y7,by rw[fE (ρ':=RE s x0 x1 Cr (Z++[cj (pg s) t g]) (W++[cj (pg s) t g]) (vf (tp t)) (vf (tp g)) (vf (tp (cj (pg s) t g)))) e1];exact i1,i2,i3,Zr i4 st⟩
theorem ym(h6:s<=6)(hP:∀t,P t->t∈perms s)(hQ:∀t,Q t->t∈perms s)(hC:∀c∈Cr,Gen (pg s) Q c):∀(m:Nat) {Z W:List aa2}{x5 x6 x7:Option (Bool×D)},Ar (pg s) P Q Cr Z W->Ao s Z W->2*(720-nT s Z)+W.length<m->
  ∃Z' y5 y6 y7,f7 (λρ=>((f6 ρ 4).map λxs=>D.bl !xs.isEmpty).bind eM) (ex (run T (n+5)) Q3) m (RE s x0 x1 Cr Z W x5 x6 x7)=some (.next (RE s x0 x1 Cr Z' [] y5 y6 y7))/\Ar (pg s) P Q Cr Z' []/\Ao s Z' []
 |0,_,_,_,_,_,_,_,h=>absurd h (aah _)
 |m+1,Z,W,x5,x6,x7,h,a,hn=>by
  rw[f7];rcases adw W with rfl|⟨W0,t,rfl⟩
  .exact⟨Z,x5,x6,x7,rfl,h,a⟩
  .rw[adx]at h a hn⊢;have len:(W0++[t]).length =W0.length+1:=by rw[Zw];rfl
   have kK:=a.kK;rw[len]at hn kK;have a':Ao s Z W0:=⟨a.k,λw hw=>a.w w (ZO _ hw),ZP kK⟩;obtain⟨Z',W',y6,y7,i1,i2,i3,i4⟩:=DG (n:=n) h6 hP hQ hC (x0:=x0) (x1:=x1) (cs:=Cr) (x6:=x6) (x7:=x7) (λc hc=>hc) (h.pop (a.w t (ZH _ (Zp.mpr rfl)))) a';obtain⟨Z2,z5,z6,z7,j1,j2,j3⟩:=ym h6 hP hQ hC (x0:=x0) (x1:=x1) m (x5:=vf (tp t)) (x6:=y6) (x7:=y7) i2.fin i3 (Z4 i4 (ade hn));refine⟨Z2,z5,z6,z7,?_,j2,j3⟩;have e1:((W0++[t]).map tp).getLast? =some (tp t):=by rw[Z3];simp
   have e2:((W0++[t]).map tp).dropLast =W0.map tp:=by rw[Z3];simp
   have p1:ex (run T (n+5)) (.pop 5 4) (RE s x0 x1 Cr Z (W0++[t]) x5 x6 x7)=some (.next (RE s x0 x1 Cr Z W0 (vf (tp t)) x6 x7)):=by
    show(((W0++[t]).map tp).getLast?.map λz=>kQ.next (put (put (RE s x0 x1 Cr Z (W0++[t]) x5 x6 x7) 4 true (.lst ((W0++[t]).map tp).dropLast)) 5 false z))=_;rw[e1,e2];rfl
   have p0:((f6 (RE s x0 x1 Cr Z (W0++[t]) x5 x6 x7) 4).map λxs=>D.bl !xs.isEmpty).bind eM=some true:=by
    show some (!((W0++[t]).map tp).isEmpty)=some true;simp
   rw[p0];show((ex (run T (n+5)) Q3 (RE s x0 x1 Cr Z (W0++[t]) x5 x6 x7)).bind _)=_;rw[show ex (run T (n+5)) Q3 (RE s x0 x1 Cr Z (W0++[t]) x5 x6 x7)=some (.next (RE s x0 x1 Cr Z' W' (vf (tp t)) y6 y7)) from xG p1 (xG i1 rfl)];exact j1
def GZ(h6:s<=6)(hP:∀t,P t->t∈perms s)(hQ:∀t,Q t->t∈perms s)(k:Kn s (Gen (pg s) P))(j:Kn s (Gen (pg s) Q))(h:∀t,Gen (pg s) P t->Gen (pg s) Q t):
  Kn s (NC (pg s) P Q)/\run T (n+6) 18 [aS (aJ (pg s) (Gen (pg s) P) 0),aS (aJ (pg s) (Gen (pg s) Q) 0)]=some (aS (aJ (pg s) (NC (pg s) P Q) 0)):=by
 have eP:Gen (pg s) (· ∈fW (aJ (pg s) (Gen (pg s) P) 0))=Gen (pg s) P:=by
  funext t;exact propext (i5 k.y k.Ii)
 have k0:Kn s (Gen (pg s) (· ∈fW (aJ (pg s) (Gen (pg s) P) 0))):=by rw[eP];exact k
 have ao:Ao s (fW (aJ (pg s) (Gen (pg s) P) 0)) (fW (aJ (pg s) (Gen (pg s) P) 0)):=⟨k0,λ_ z=>z,Zr (adn (Nat.mul_le_mul_left 2 (afp _ _)) k.kK) aa1⟩;have hC:∀c∈fW (aJ (pg s) (Gen (pg s) Q) 0),Gen (pg s) Q c:=λc hc=>nX hc;have ar:Ar (pg s) P Q (fW (aJ (pg s) (Gen (pg s) Q) 0)) (fW (aJ (pg s) (Gen (pg s) P) 0)) (fW (aJ (pg s) (Gen (pg s) P) 0)):=
  Ar.start ah hP hQ (iE k) (λt ht=>by rw[eP];exact Gen.of ah (hP t ht) ht) λt ht=>nX ht
 obtain⟨Z,y5,y6,y7,i1,i2,i3⟩:=ym (n:=n) h6 hP hQ hC (x0:=vf (aS (aJ (pg s) (Gen (pg s) P) 0))) (x1:=vf (aS (aJ (pg s) (Gen (pg s) Q) 0))) eV (x5:=none) (x6:=none) (x7:=none) ar ao (Z4 ao.kK aa1);have eZ:Gen (pg s) (· ∈Z)=NC (pg s) P Q:=by
  funext t;exact propext (i2.done ah hP hQ (λt=>(i5 j.y j.Ii).symm) (iE j) t)
 refine⟨by rw[<-eZ];exact i3.k,?_⟩;have ey:yD s (fW (aJ (pg s) (Gen (pg s) P) 0))=aS (aJ (pg s) (Gen (pg s) P) 0):=by
  show aS (aJ (pg s) (Gen (pg s) (· ∈fW (aJ (pg s) (Gen (pg s) P) 0))) 0)=_;rw[eP]
 rw[<-eZ];refine xO (fd:=T7) rfl rfl (xG (p8 (ak (aZ rfl rfl) (yl h6 k j h) rfl)) (xA (aG (fG rfl) (ik (n:=n+4) j) rfl) (xA (d:=yD s (fW (aJ (pg s) (Gen (pg s) P) 0))) (congrArg some ey.symm) (xB (xs:=(fW (aJ (pg s) (Gen (pg s) P) 0)).map tp) ?_ (xG i1 (xR rfl))))));exact Pz (aG (fG rfl) (ik (n:=n+4) k) rfl) rfl
end
section
variable {s:Nat}{F:FT}
def vO(xs:List D)(k:Nat):sA xs none (some (k:Int))=xs.take k:=by
 unfold sA bound;simp only[ace,afs];rw[ZL (by lia),show(min (k:Int) (xs.length:Int)).toNat =min k xs.length by lia];exact List.take_eq_take_min.symm
noncomputable abbrev TW(m:Int)(sc:Option (Bool×D))(s:Nat)(ps qs:List aa2)(k:Int):Env:=[sc,vf (.int m),vf (.int s),vf (.tup (ps.map tp)),vf (.tup (qs.map tp)),vf (.int k)]
noncomputable def VS(s:Nat)(o:Option kQ):Prop:=∃ps qs:List aa2,o=some (.ret (.tup [.int s,.tup (ps.map tp),.tup (qs.map tp)]))/\ps.length<=6/\qs.length<=6/\(∀p∈ps,p∈perms s)/\∀p∈qs,p∈perms s
def yo{ps:List aa2}{i:Int}{j:Nat}(h:place (ps.map tp).length i=some j)(hj:j<ps.length):∃q∈ps,item (.tup (ps.map tp)) (.int i)=some (tp q):=by
 refine⟨ps[j],abv hj,?_⟩;show(place (ps.map tp).length i).bind (λj=>(ps.map tp)[j]?)=_;rw[h];show(ps.map tp)[j]?=_;rw[Zz,Zj hj];rfl
def DH{ps qs:List aa2}(Q7:aa8)(dw:ps.length<=6)(Aa:qs.length<=6)(hp:∀p∈ps,p∈perms s)(hq:∀p∈qs,p∈perms s):VS s (ex F VI (TW m sc s ps qs k)):=by
 have e1:ev F false (.cmp .Eq (.var 5) (.ci 2)) (TW m sc s ps qs k)=some (.bl (k==2)):=rfl;have e2:ev F false (.cmp .NotEq (.var 3) (.tup .nil)) (TW m sc s ps qs k)=some (.bl (!ps.isEmpty)):=by
  refine vH (a:= .var 3) (x:= .tup (ps.map tp)) (c:= .tup .nil) (y:= .tup []) rfl rfl ?_;show(if(fK (.tup (ps.map tp)) 60&&fK (.tup []) 60)=true then some (!mj (.tup (ps.map tp)) (.tup [])) else none)=_;rw[show fK (.tup (ps.map tp)) 60=true from gP 58 ps];cases ps<;>rfl
 cases hb:k==2 with
 |false=>rw[hb]at e1;exact⟨ps,qs,xN (TK e1) rfl,dw,Aa,hp,hq⟩
 |true=>
  rw[hb]at e1;cases ps with
  |nil=>exact⟨[],qs,xN (D0 e1 (TK e2)) rfl,dw,Aa,hp,hq⟩
  |cons p r=>
   obtain⟨p1,h1,i1⟩:=yo (ps:=p::r) (i:=0) (kD (k:=0) aa9) aa9;obtain⟨q,h2,i2⟩:=yo (ps:=p::r) (i:= -1) (j:=r.length) (by unfold place;rw[Zo,ZM,ZL aa1,ZD aa0];congr 1;omega) aa9;exact⟨p::r,[comp p1 q],xY (D0 e1 (D0 e2 rfl)) (xA (VB (ak (aZ i1 i2) (Q7 p1 (hp p1 h1) q (hp q h2)) (aw _))) rfl) rfl,dw,by simp,hp,λu hu=>by rw[Zp.mp hu];exact cG (hp p1 h1) (hp q h2)⟩
def LZ{ns:List Int}{ps qs:List aa2}(Q8:∀k:Nat,k<1000->F 20 [.lst (ns.map .int),.int k]=some (.int (uF ns k))){m:Int}(hm:0<m)(hs:1+uF ns 0%m=(s:Int))(a1:F 23 [.int (uF ns 1),.int s]=some (.tup (ps.map tp)))(a2:F 23 [.int (uF ns 2),.int s]=some (.tup (qs.map tp)))
  (nl:∀ps:List aa2,aI (.tup (ps.map tp))=true) (Q7:aa8) (dw:ps.length<=6) (Aa:qs.length<=6) (hp:∀p∈ps,p∈perms s) (hq:∀p∈qs,p∈perms s):VS s (ex F My.body (av My [.lst (ns.map .int),.int m])):=by
 have go:∀{c r},ex F c (TW m (vf (.lst (ns.map .int))) s ps qs (uF ns 3%3))=r->ex F (.seq (.asg 2 (.bin .Add (.ci 1) (.bin .Mod (.call 20 (.w 0 (.o (.ci 0)))) (.var 1)))) (.seq (.asg 3 (.call 23 (.cons (.call 20 (.w 0 (.o (.ci 1)))) (.u 2)))) (.seq (.asg 4 (.call 23 (.cons (.call 20 (.w 0 (.o (.ci 2)))) (.u 2)))) (.seq (.asg 5 (.bin .Mod (.call 20 (.w 0 (.o (.ci 3)))) (.ci 3))) c)))) (av My [.lst (ns.map .int),.int m])=r:=λ{c r} h=>
  xA (d:= .int s) (by rw[<-hs];exact CM rfl (zO (ak (aZ rfl rfl) (Q8 0 aa1) rfl) rfl hm)) (xA (ak (aZ (ak (aZ rfl rfl) (Q8 1 aa1) rfl) rfl) a1 (nl ps)) (xA (ak (aZ (ak (aZ rfl rfl) (Q8 2 aa1) rfl) rfl) a2 (nl qs)) (xA (zO (ak (aZ rfl rfl) (Q8 3 aa1) rfl) rfl aa1) h)))
 generalize uF ns 3%3=k at go;have s5:ev F false (.cmp .Eq (.var 5) (.ci 1)) (TW m (vf (.lst (ns.map .int))) s ps qs k)=some (.bl (k==1)):=rfl;cases hb:k==1 with
 |false=>
  rw[hb]at s5;obtain⟨Uc,Ud,e,q⟩:=DH (m:=m) (sc:=vf (.lst (ns.map .int))) (k:=k) Q7 dw Aa hp hq;exact⟨Uc,Ud,go (xN s5 e),q⟩
 |true=>
  rw[hb]at s5;obtain⟨Uc,Ud,e,q⟩:=DH (m:=m) (sc:=vf (.lst (ns.map .int))) (k:=k) (ps:=(ps++qs.take 1).take 6) (qs:=qs.take 1) Q7 (adN _ _) (Zr (adN _ _) aa1) (λp h=>ij hp (λu hu=>hq u (aaA hu)) p (aaA h)) λp h=>hq p (aaA h);refine⟨Uc,Ud,go (xY s5 (xA (d:= .tup ((qs.take 1).map tp)) ?_ (xA (d:= .tup (((ps++qs.take 1).take 6).map tp)) ?_ rfl)) e),q⟩
  .show some (D.tup (sA (qs.map tp) none (some ((1:Nat):Int))))=_;rw[vO,acz]
  .rw[UM,zN (x:= .tup (ps.map tp)) (y:= .tup ((qs.take 1).map tp)) rfl rfl];show(if(ps.map tp).length+((qs.take 1).map tp).length <=bV then some (D.tup (ps.map tp++(qs.take 1).map tp)) else none).bind _=_;rw[ZD (by rw[Zo,Zo];exact Zr (adn dw (adN _ _)) aa1),<-Z3];show some (D.tup (sA ((ps++qs.take 1).map tp) none (some ((6:Nat):Int))))=_;rw[vO,acz]
noncomputable def n9:List (List aa2):=[[[1,0,2,3,4,5],[0,1,3,2,5,4]],[[1,2,0,4,5,3],[3,4,5,0,1,2]],[[1,2,3,4,5,0]],[[1,2,3,4,5,0],[5,4,3,2,1,0]],[[1,2,0,3,4,5],[0,1,2,4,5,3],[1,0,2,3,4,5]]]
def L4:n9.all (λps=>decide (ps.length<=6)&&ps.all λp=>decide (p∈perms 6))=true:=by decide +kernel
noncomputable abbrev Ab(ps:List aa2):D:= .tup (ps.map tp)
def L5(a:Int):∃ps:List aa2,ex F LD.body (av LD [.int a])=some (.ret (.tup (ps.map tp)))/\ps.length<=6/\∀p∈ps,p∈perms 6:=by
 have g0:0<=a%5:=abh _ aa1;have g1:a%5<5:=abi _ aa1;obtain⟨j,hj⟩:∃j:Nat,a%5=j:=⟨(a%5).toNat,(aba g0).symm⟩;have aU:j<5:=by omega
 have hr:n9[j]?=some n9[j]:=Zj aU;have hm:=aas.mp L4 _ (abv (l:=n9) (n:=j) aU);rw[Zk,decide_eq_true_eq,aas]at hm;refine⟨n9[j],?_,hm.1,λp hp=>of_decide_eq_true (hm.2 p hp)⟩;have e:ex F LD.body (av LD [.int a])=(ex F (.seq (.ret (.idx (.var 1) (.bin .Mod aa_ (.ci 5)))) .skip) [vf (.int a),vf (.tup (n9.map Ab))]):=rfl;rw[e];have m1:ev F false (.bin .Mod aa_ (.ci 5)) [vf (.int a),vf (.tup (n9.map Ab))]=some (.int j):=by
  rw[<-hj];exact zO (i:=a) rfl rfl aa1
 refine xR ?_;rw[JD,m1];show(place (n9.map Ab).length (j:Int)).bind (λj=>(n9.map Ab)[j]?)=_;rw[kD (show j<(n9.map Ab).length from aU)];show(n9.map Ab)[j]?=_;rw[Zz,hr];rfl
end
section
variable {s n:Nat}{F:FT}
def L6{Ts:List aa2}:cmp .NotIn (tp t) (.lst (Ts.map tp))=some (!decide (t∈Ts)):=by
 have e:∀l:List aa2,((l.map tp).any λz=>mj z (tp t))=decide (t∈l):=λl=>by
  induction l with
  |nil=>rfl
  |cons a l ih=>
   rw[ZS,acx,ih,vJ,adK,acT,decide_eq_true_eq,decide_eq_true_eq,decide_eq_true_eq,ZC];exact⟨λz=>z.imp (λz=>z.symm) id,λz=>z.imp (λz=>z.symm) id⟩
 show(if(fK (tp t) 60&&fK (.lst (Ts.map tp)) 60)=true then some (!(Ts.map tp).any λz=>mj z (tp t)) else none)=_;rw[nA,show fK (.lst (Ts.map tp)) 60=true from gP 58 Ts,e];rfl
def vP{A B:List aa2}(hB:B.length<=1000)(h1:ev F true (.var i) ρ=some (.lst (B.map tp)))(h2:ρ[j]?=some (vf (.lst (A.map tp))))(h:(∀t∈B,t∈A)↔k=false):
  ev F b (.cmp .NotEq (.comp [j] 0 (.it (.var i)) (.o (.cmp .NotIn aa_ (.var 1))) aa_) (.lst .nil)) ρ=some (.bl k):=by
 have c:ev F true (.comp [j] 0 (.it (.var i)) (.o (.cmp .NotIn aa_ (.var 1))) aa_) ρ=some (.lst ((B.filter λt=>!decide (t∈A)).map tp)):=
  nI h1 rfl (Zr hB aa1) (λt _=>Lu (vH (a:= .var 0) (c:= .var 1) rfl (y:= .lst (A.map tp)) (by show rd true [vf (tp t),(ρ[j]?).join] 1=_;rw[h2];rfl) L6)) λ_ _=>rfl
 refine vH c (y:= .lst (([]:List aa2).map tp)) rfl (rJ.trans (congrArg some ?_));have:B.filter (λt=>!decide (t∈A))=[]↔ ∀t∈B,t∈A:=by
  rw[adg];exact forall_congr' λt=>forall_congr' λ_=>by simp
 cases k with
 |false=>rw[decide_eq_true (this.mpr (h.mpr rfl))];rfl
 |true=>rw[decide_eq_false λz=>nomatch h.mp (this.mp z)];rfl
noncomputable abbrev MV(s:Nat)(A qs:List aa2):List aa2:=A.flatMap λt=>qs.map λe=>cj (pg s) e t
noncomputable abbrev ME(a b:Option (Bool×D))(x2 x3:Option (Bool×D))(qs:List aa2)(x5 x6 x7 x8 x9:Option (Bool×D))(acc:List aa2)(x11:Option (Bool×D)):Env:=[a,b,x2,x3,vf (.tup (qs.map tp)),x5,x6,x7,x8,x9,some (true,.lst (acc.map tp)),x11,none]
theorem yp(hq:∀p∈qs,p∈perms s)(Aa:qs.length<=6)(aU:aa8)(VT:∀p∈perms s,F 25 [tp p]=some (tp (ip p))):∀{A acc:List aa2}{x11:Option (Bool×D)},(∀p∈A,p∈perms s)->acc.length+6*A.length<=10000->
  ∃VU,aN (λx ρ=>(ay 0 x).bind λys=>(cc ρ [11] ys).bind λρ'=>ex F Q4 ρ') (A.map tp) (ME a b x2 x3 qs x5 x6 x7 x8 x9 acc x11)=some (.next (ME a b x2 x3 qs x5 x6 x7 x8 x9 (acc++MV s A qs) VU))
 |[],acc,x11,_,_=>⟨x11,by show some (kQ.next _)=_;rw[show MV s [] qs=[] from rfl,aaf]⟩
 |g::A,acc,x11,h,hn=>by
  have hg:=h g Zt;have hi:ip g∈perms s:=ah.si (Y:=pg s) hg;rw[ZM]at hn;have e0:MV s (g::A) qs=(qs.map λe=>cj (pg s) e g)++MV s A qs:=rfl;have hl:(acc++qs.map λe=>cj (pg s) e g).length+6*A.length<=10000:=by
   rw[Zw,Zo];omega
  obtain⟨y,ih⟩:=yp hq Aa aU VT (a:=a) (b:=b) (x2:=x2) (x3:=x3) (x5:=x5) (x6:=x6) (x7:=x7) (x8:=x8) (x9:=x9) (A:=A) (acc:=acc++qs.map λe=>cj (pg s) e g) (x11:=vf (tp g)) (λp hp=>h p (Zm _ hp)) hl;refine⟨y,?_⟩;have c1:ev F true T5 (ME a b x2 x3 qs x5 x6 x7 x8 x9 acc (vf (tp g)))=some (.lst ((qs.map λe=>cj (pg s) e g).map tp)):=by
   rw[Z5];refine c_ (d:= .tup (qs.map tp)) rfl rfl (Zr Aa aa1) λt ht=>?_;have b1:ev F true (.call 25 (.u 1)) [vf (tp t),vf (tp g)]=some (tp (ip g)):=ak (fG (x:=tp g) rfl) (VT g hg) (aw _);have b2:ev F true (.call 24 (.cons (.call 25 (.u 1)) (.u 0))) [vf (tp t),vf (tp g)]=some (tp (comp (ip g) t)):=ak (aZ b1 (y:=tp t) rfl) (aU _ hi t (hq t ht)) (aw _);exact ak (aZ b2 (y:=tp g) rfl) (aU _ (ah.sm (Y:=pg s) hi (hq t ht)) g hg) (aw _)
  have c2:ev F false (.bin .Add (.var 10) T5) (ME a b x2 x3 qs x5 x6 x7 x8 x9 acc (vf (tp g)))=some (.lst ((acc++qs.map λe=>cj (pg s) e g).map tp)):=by
   rw[zN (a:= .var 10) (x:= .lst (acc.map tp)) rfl c1,Z3];refine ZD ?_;rw[Zo,Zo,Zo];exact Zr (show acc.length+qs.length<=10000 by omega) aa1
  have c3:ex F Q4 (put (ME a b x2 x3 qs x5 x6 x7 x8 x9 acc x11) 11 false (tp g))=some (.next (ME a b x2 x3 qs x5 x6 x7 x8 x9 (acc++qs.map λe=>cj (pg s) e g) (vf (tp g)))):=by
   show ex F Q4 (ME a b x2 x3 qs x5 x6 x7 x8 x9 acc (vf (tp g)))=_;rw[ny (jM c2)];rfl
  rw[ZS,fE c3,e0,<-ZW];exact ih
def vQ:x∈MV s A qs↔ ∃t∈A,∃e∈qs,x=cj (pg s) e t:=by
 rw[aaO];exact⟨λ⟨t,ht,h⟩=>let ⟨e,he,q⟩:=Zv.mp h;⟨t,ht,e,he,q.symm⟩,λ⟨t,ht,e,he,q⟩=>⟨t,ht,Zv.mpr ⟨e,he,q.symm⟩⟩⟩
def DI(h1:1<=s)(h6:s<=6)(h:∀t∈xs,t∈perms s):(∀{a ρ},ev F true a ρ=some (.lst (xs.map tp))->ev F true (.sset a) ρ=some (.lst ((bJ.aV (S2.ji xs)).map tp)))/\(bJ.aV (S2.ji xs)).length <=720/\∀t,t∈bJ.aV (S2.ji xs)↔t∈xs:=by
 have hl:(S2.ji xs).length <=720:=Zr (eJ _ _ (S2.zk xs) λt ht=>h t (S2.qY.mp ht)) (gO h6);refine⟨λ{a ρ} e=>?_,by rw[(bJ.bA _).length_eq];exact hl,λt=>(bJ.bA _).mem_iff.trans S2.qY⟩;show((ev F true a ρ).bind sC).map D.lst=_;rw[e];show((dh (xs.map tp)).bind λks=>if(S2.ji ks).length <=720 then some ((bJ.aV (S2.ji ks)).map lg) else none).map D.lst=_;rw[ig λt ht=>rG h1 (h t ht),aaB,ZD hl];rfl
def uy{M:List Int->Prop}{A B:List aa2}{Z Q:List Int->Prop}(hZ:∀t,Z t->t∈perms s)(hQ:∀t,Q t->t∈perms s)(hB:∀t,t∈B↔Gen (pg s) Z t)(hA:∀g,g∈A↔Gen (pg s) Q g)(nd:B.Nodup)(hM:ef (pg s) (Gen (pg s) Q)):
  A.all (z_ B)=true↔ ∀c,Q c->∀t,Z t->Gen (pg s) Z (cj (pg s) t c):=by
 refine Iff.trans ?_ (Dv ah hZ hQ hB hA nd λg=>hM.inv g);rw[aas];refine forall_congr' λg=>forall_congr' λ_=>?_;rw[decide_eq_true_eq];exact⟨λh=>((bJ.bA _).symm.trans (.of_eq h)).trans (bJ.bA _),λh=>bJ.mJ h⟩
end
section
variable {s:Nat}
def yr(h1:1<=s)(h6:s<=6){ps qs:List aa2}(dw:ps.length<=6)(Aa:qs.length<=6)(hp:∀p∈ps,p∈perms s)(hq:∀p∈qs,p∈perms s){sc x1:Option (Bool×D)}:
  ex (run T 6) T6 [sc,x1,vf (.int s),vf (.tup (ps.map tp)),vf (.tup (qs.map tp)),none,none,none,none,none,none,none,none]=some (.ret (.bl true)):=by
 obtain⟨k1,e1⟩:=LX h6 hp (Zr dw aa1) (dZ h6 hp) rfl;obtain⟨k2,e2⟩:=LX h6 hq (Zr Aa aa1) (dZ h6 hq) rfl;obtain⟨A,eA,aA⟩:=j4 (n:=4) h1 h6 hp (Zr dw aa1) (e:= .tup (ps.map tp)) rfl;obtain⟨B,eB,aB⟩:=j4 (n:=4) h1 h6 hq (Zr Aa aa1) (e:= .tup (qs.map tp)) rfl;refine xA (aG (aZ rfl rfl) (e1 2) rfl) (xA (aG (aZ rfl rfl) (e2 2) rfl) (xA (aG (aZ rfl rfl) eA rfl) (xA (aG (aZ rfl rfl) eB rfl) ?_)));by_cases AY:∀t∈B,t∈A
 case neg=>exact xZ (vP aB.kK rfl rfl ⟨λz=>absurd z AY,λz=>nomatch z⟩) rfl
 have sub:∀t,Gen (pg s) (· ∈qs) t->Gen (pg s) (· ∈ps) t:=λt ht=>(aA.mem t).mp (AY t ((aB.mem t).mpr ht));have hA:∀t∈A,t∈perms s:=λt ht=>k1.y.s t ((aA.mem t).mp ht);have hB:∀t∈B,t∈perms s:=λt ht=>k2.y.s t ((aB.mem t).mp ht);have eq:(fW (aJ (pg s) (Gen (pg s) (· ∈ps)) 0)).all (iB s (Gen (pg s) (· ∈qs)))=A.all (z_ B):=by
  have gq:∀t,Gen (pg s) (· ∈fW (aJ (pg s) (Gen (pg s) (· ∈qs)) 0)) t↔Gen (pg s) (· ∈qs) t:=λt=>i5 k2.y k2.Ii;have gp:Gen (pg s) (· ∈fW (aJ (pg s) (Gen (pg s) (· ∈ps)) 0))=Gen (pg s) (· ∈ps):=funext λt=>propext (i5 k1.y k1.Ii);rw[adK,ux k2 k1,uy (M:=Gen (pg s) (· ∈ps)) (iE k2) (iE k1) (λt=>(aB.mem t).trans (gq t).symm) (λt=>(aA.mem t).trans (i5 k1.y k1.Ii).symm) aB.nd (by rw[gp];exact k1.y)];exact forall_congr' λc=>forall_congr' λ_=>forall_congr' λt=>forall_congr' λ_=>(gq _).symm
 have Qc:=Ij (n:=0) h6 k2 k1 sub;rw[eq]at Qc;have kK:=aA.kK;refine xN (vP aB.kK rfl rfl ⟨λ_=>rfl,λ_=>AY⟩) (xA (ak (aZ rfl rfl) Qc rfl) (xN (D0 rfl (D0 (vH (a:= .var 9) (x:= .bl (A.all (z_ B))) rfl (ak (aZ rfl rfl) (DF (n:=4) h1 h6 hB aB.kK hA) rfl) (GV rfl)) rfl)) (xB (xs:=[]) rfl ?_)));obtain⟨VU,i1⟩:=yp (F:=run T 6) hq Aa (lR (n:=5) h6) (LV (n:=5)) (a:=sc) (b:=x1) (x2:=vf (.int s)) (x3:=vf (.tup (ps.map tp))) (x5:=vf (aS (aJ (pg s) (Gen (pg s) (· ∈ps)) 0))) (x6:=vf (aS (aJ (pg s) (Gen (pg s) (· ∈qs)) 0))) (x7:=vf (.lst (A.map tp))) (x8:=vf (.lst (B.map tp))) (x9:=vf (.bl (A.all (z_ B)))) (x11:=none) (A:=A) (acc:=[]) hA (by rw[abr];omega);refine xG i1 ?_;have VV:∀t∈[]++MV s A qs,t∈perms s:=λt ht=>by
  obtain⟨g,hg,e,he,rfl⟩:=vQ.mp ht;exact nU ah (hq e he) (hA g hg)
 obtain⟨zy,lS,mS⟩:=DI (F:=run T 6) h1 h6 VV;generalize bJ.aV (S2.ji ([]++MV s A qs))=S at zy lS mS;have hS:∀t∈S,t∈perms s:=λt ht=>VV t ((mS t).mp ht);obtain⟨W,eW,aW⟩:=j4 (n:=4) h1 h6 hS (Zr lS aa1) (e:= .lst (S.map tp)) rfl;obtain⟨k3,VW⟩:=GZ (n:=0) (P:=(· ∈qs)) (Q:=(· ∈ps)) h6 hq hp k2 k1 sub;have nc:Gen (pg s) (· ∈S)=NC (pg s) (· ∈qs) (· ∈ps):=funext λt=>propext (Du ah (Q:=(· ∈ps)) (λx=>aA.mem x) (λx=>(mS x).trans vQ) t);rw[nc]at aW;have hW:∀t∈W,t∈perms s:=λt ht=>k3.y.s t ((aW.mem t).mp ht);have hZ:∀t,LN (pg s) (· ∈qs) (Gen (pg s) (· ∈ps)) t->t∈perms s:=yb ah hq k1.y.s;have VX:=DF (n:=4) h1 h6 hW aW.kK hA;rw[(uy (M:=Gen (pg s) (· ∈ps)) hZ hp (λt=>aW.mem t) (λt=>aA.mem t) aW.nd k1.y).mpr λc hc t ht=>rK ah hq hp (Gen.of ah (hp c hc) hc) (Gen.of ah (hZ t ht) ht)]at VX;have Ue:∀t,NC (pg s) (· ∈qs) (· ∈ps) t->Gen (pg s) (· ∈ps) t:=λt ht=>by
  rw[<-nc]at ht;exact kI k1.y (λu hu=>by
   obtain⟨g,hg,e,he,rfl⟩:=vQ.mp ((mS u).mp hu);have g1:=(aA.mem g).mp hg;exact k1.y.mul _ _ (k1.y.mul _ _ (k1.y.inv _ g1) (sub e (Gen.of ah (hq e he) he))) g1) ht
 have Qc:=Ij (n:=0) h6 k3 k1 Ue;rw[(ux k3 k1).mpr λc hc t ht=>rK ah hq hp (nX hc) (nX ht)]at Qc;refine xA (aG (aZ (zy rfl) rfl) eW rfl) (xN (D0 (Vy (ak (aZ rfl rfl) VX rfl)) (D0 (vP aB.kK rfl rfl ⟨λ_=>rfl,λ_ t ht=>(aW.mem t).mpr (kI k3.y (λu hu=>Dr ah hq hp hu) ((aB.mem t).mp ht))⟩) rfl)) (xR (D0 (vH (aG (aZ rfl rfl) VW rfl) (aG (aZ rfl rfl) (Qb (n:=5) h1 h6 k3.y aW.mem aW.kK) rfl) (GW (DC _))) (D0 (aG (aZ (aG (aZ rfl rfl) VW rfl) rfl) Qc rfl) rfl))))
end
def holds(ns:List Int)(hl:ns.length<=63):run T (6+1) 31 [.lst (ns.map .int)]=some (.bl true):=by
 have mx:∀{b:Bool}{r:Env},ev (run T 6) b (.call 20 (.w 0 (.o (.ci 5)))) (vf (.lst (ns.map .int))::r)=some (.int (uF ns 5)):=ak (aZ rfl rfl) (P_ (n:=4) ns (k:=5) aa1) rfl;generalize uF ns 5=z at mx;have Q9:∀(k:Int) {r:Env},ev (run T 6) false (.cmp .Eq (.bin .Mod (.call 20 (.w 0 (.o (.ci 5)))) (.ci 5)) (.ci k)) (vf (.lst (ns.map .int))::r)=some (.bl (z%5==k)):=λk r=>vH (zO mx (j:=5) rfl aa1) (c:= .ci k) (y:= .int k) rfl rfl;refine xO (fd:=P0) rfl rfl (xA (d:= .int 4) rfl ?_);have go:∀m:Int,0<m->m<=5->ex (run T 6) (.seq (.uZ [2,3,4] (.call 28 (.w 0 (.u 1)))) (.seq (.ifs (.cmp .Eq (.bin .Mod (.call 20 (.w 0 (.o (.ci 5)))) (.ci 5)) (.ci 2)) (.seq (.asg 2 (.ci 6)) (.seq (.asg 3 (.call 30 (.o (.bin .FloorDiv (.call 20 (.w 0 (.o (.ci 5)))) (.ci 5))))) (.seq (.asg 4 (.sl (.var 3) .nil (.o (.bin .Mod (.bin .FloorDiv (.call 20 (.w 0 (.o (.ci 5)))) (.ci 25)) (.bin .Add (.prim .len (.u 3)) (.ci 1)))))) .skip))) .skip) T6)) [vf (.lst (ns.map .int)),vf (.int m),none,none,none,none,none,none,none,none,none,none,none]=some (.ret (.bl true)):=λm m0 m5=>by
  have g0:0<=uF ns 0%m:=abh _ aa0;have g1:uF ns 0%m<m:=abi _ m0;obtain⟨s,hs⟩:∃s:Nat,1+uF ns 0%m=s:=⟨(1+uF ns 0%m).toNat,by omega⟩;have h1:1<=s:=by omega
  have h6:s<=6:=by omega
  obtain⟨Zf,YN,Ug,Uh⟩:=LH (n:=2) (uF ns 1) h1 h6;obtain⟨Zg,YO,Ui,Uj⟩:=LH (n:=2) (uF ns 2) h1 h6;obtain⟨ps,qs,Ra,dw,Aa,hp,hq⟩:=LZ (F:=run T 5) (s:=s) (λk hk=>P_ (n:=3) ns hk) m0 hs YN YO kJ (lR (n:=4) h6) Ug Ui Uh Uj;refine xG (ρ':=[vf (.lst (ns.map .int)),vf (.int m),vf (.int s),vf (.tup (ps.map tp)),vf (.tup (qs.map tp)),none,none,none,none,none,none,none,none]) (by rw[Si,aG (aZ rfl rfl) (xO (n:=5) (fd:=My) rfl rfl Ra) rfl];rfl) ?_;cases hb:(z%5==2)with
  |false=>exact xN ((Q9 2).trans (by rw[hb])) (yr h1 h6 dw Aa hp hq)
  |true=>
   obtain⟨ps,YQ,dw,hp⟩:=L5 (F:=run T 5) (z/5);have g2:0<=z/25%((ps.length:Int)+1):=abh _ aa0;obtain⟨k,hk⟩:∃k:Nat,z/25%((ps.length:Int)+1)=k:=⟨_,(aba g2).symm⟩;refine xY ((Q9 2).trans (by rw[hb])) (xA (d:= .int 6) rfl (xA (aG (fG (Vz mx (k:=5) rfl aa1)) (xO (n:=5) (fd:=LD) rfl rfl YQ) rfl) (xA (d:= .tup ((ps.take k).map tp)) ?_ rfl))) (yr (s:=6) (qs:=ps.take k) aa1 aa1 dw (Zr (aeX k ps) dw) hp λp h=>hp p (aaA h));have b2:ev (run T 6) false (.bin .Mod (.bin .FloorDiv (.call 20 (.w 0 (.o (.ci 5)))) (.ci 25)) (.bin .Add (.prim .len (.u 3)) (.ci 1))) [vf (.lst (ns.map .int)),vf (.int m),vf (.int 6),vf (.tup (ps.map tp)),vf (.tup (qs.map tp)),none,none,none,none,none,none,none,none]=some (.int k):=by
    rw[<-hk];exact zO (Vz mx (k:=25) rfl aa1) (by rw[CM (i:=((ps.map tp).length :Nat)) (c:= .ci 1) (j:=1) rfl rfl,Zo]) aa0
   rw[UM];show(((ev (run T 6) false (.bin .Mod _ _) _).bind DT).map some).bind _=_;erw[b2];show some (D.tup (sA (ps.map tp) none (some (k:Int))))=_;rw[vO,acz]
 cases hb:(z%5==1)with
 |true=>exact xY ((Q9 1).trans (by rw[hb])) (xA (d:= .int 5) rfl rfl) (go 5 aa1 aa1)
 |false=>exact xN ((Q9 1).trans (by rw[hb])) (go 4 aa1 aa1)
end et
namespace et
open PySem L2 Py
def jW(i:Nat):Stmt:=PySem.Challenge.pw_turnyard_k23_whole_even.main.body.getD i (.Pass ⟨0,0,0,0⟩)
abbrev Row:=Str×Nat×Fd×List Str
noncomputable def tb:List Row:=[("still",4,jO,["size"]),
 ("times",5,eI,["one","other"]),
 ("back",6,nE,["turn"]),
 ("left_over",8,d3,["found","turn","rest","place","steps"]),
 ("products_with",9,d4,["found","turn","made","steps","step"]),
 ("found_steps",10,d5,["row","size","found","waiting","rest","moved","place"]),
 ("least_turn",11,d6,["found","place","turn","least","steps","part"]),
 ("rung_at",12,d7,["found","place","steps"]),
 ("ladder",13,d8,["row","size","found"]),
 ("makers",14,d9,["yard","turns","rung"]),
 ("has",15,PQ,["yard","turn"]),
 ("number_of",16,PR,["yard","turn","number","rest","place","rung","points","chosen"]),
 ("within",18,PU,["one","other"]),
 ("carried_turn",19,LB,["turn","carrier"]),
 ("carried_makers",20,PV,["yard","carrier"]),
 ("refuse_unless_within",21,LC,["inner","outer"]),
 ("is_carried_within",22,PX,["yard","carrier"]),
 ("is_even",23,PY,["inner","outer"]),
 ("around",24,T7,["inner","outer","carriers","yard","waiting","turn","carrier","made"]),
 ("_law_cell_at",26,gK,["_law_script","_law_k"]),
 ("_law_mixed",27,nv 19,["_law_script","_law_k","_law_drawn_here"]),
 ("_law_drawn",28,hU,["_law_number","_law_k","_law_drawn_here"]),
 ("_law_turn",29,kE 21,["_law_number","_law_size","_law_found","_law_one","_law_other","_law_many","_law_shift","_law_k","_law_made","_law_at"]),
 ("_law_row",30,iK 22 21,["_law_number","_law_size"]),
 ("_law_times",31,eI,["_law_one","_law_other"]),
 ("_law_back",32,fU,["_law_turn_here","_law_found","_law_point","_law_goal"]),
 ("_law_all",33,Mx,["_law_row_here","_law_size","_law_start","_law_met","_law_todo","_law_turn_here","_law_other","_law_goal"]),
 ("_law_ladder",34,PZ,["_law_turns","_law_size","_law_rungs","_law_level","_law_rung","_law_point","_law_good"]),
 ("_law_two",35,My,["_law_script","_law_most","_law_size","_law_one","_law_other","_law_kind"]),
 ("_law_even",36,Mz,["_law_others","_law_ones","_law_turn_here","_law_left"]),
 ("_law_six",37,LD,["_law_number","_law_rows"]),
 ("law",38,P0,["_law_script","_law_most","_law_size","_law_one","_law_other","_law_outer","_law_inner","_law_ones","_law_others","_law_found","_law_moved","_law_turn_here","_law_wide"])]
noncomputable def G:GT:=(tb.map λr=>r.1,[])
noncomputable def VY(r:Row):Bool:=
 decide ((aC (jW r.2.1)).kind = .function)&&!(aC (jW r.2.1)).isCoroutine&&!(aC (jW r.2.1)).isGenerator&&decide r.2.2.2.Nodup&&decide ((r.2.2.2.take r.2.2.1.par).length =r.2.2.1.par) &&
 (r.2.2.2.take r.2.2.1.par).all (λx=>decide ((aC (jW r.2.1)).names.lookup x=some .local \/(aC (jW r.2.1)).names.lookup x=some .cell))&&(aC (jW r.2.1)).names.all (λy=>decide (y.2≠ .free)) &&
 gg G r.2.2.1.body r.2.2.2 (aC (jW r.2.1)) (bY (jW r.2.1))&&decide (r.2.2.2.length=r.2.2.1.j7)
def ck:tb.all VY=true:=by decide +kernel
def Bd(r:Row):Prop:=∀(kV il pm:Value) (an:Option Addr) (eQ ct:Value) (us:List Value),us.length=(r.2.2.2.take r.2.2.1.par).length ->bindArgs (PySem.W.fnOf r.1 r.1 (dz (jW r.2.1)) (bY (jW r.2.1)) (aC (jW r.2.1)) .none kV il pm an eQ ct) ⟨us,[]⟩=pure ((r.2.2.2.take r.2.2.1.par).zip us)
def L7:List Row->Prop
 |[]=>True
 |r::l=>Bd r/\L7 l
section
variable {r:Row}{l:List Row}{p q o:Str}(H:L7 l)
include H
def YR(e:r.2.2.2.take r.2.2.1.par=[p])(h:∀(kV il pm:Value) (an:Option Addr) (eQ ct u:Value),bindArgs (PySem.W.fnOf r.1 r.1 (dz (jW r.2.1)) (bY (jW r.2.1)) (aC (jW r.2.1)) .none kV il pm an eQ ct) ⟨[u],[]⟩=pure [(p,u)]):L7 (r::l):=
 ⟨λkV il pm an eQ ct us hl=>by rw[e]at hl⊢;obtain⟨u,rfl⟩:=Pw hl;exact h kV il pm an eQ ct u,H⟩
def YS(e:r.2.2.2.take r.2.2.1.par=[p,q])(h:∀(kV il pm:Value) (an:Option Addr) (eQ ct u v:Value),bindArgs (PySem.W.fnOf r.1 r.1 (dz (jW r.2.1)) (bY (jW r.2.1)) (aC (jW r.2.1)) .none kV il pm an eQ ct) ⟨[u,v],[]⟩=pure [(p,u),(q,v)]):L7 (r::l):=
 ⟨λkV il pm an eQ ct us hl=>by rw[e]at hl⊢;obtain⟨u,v,rfl⟩:=Px hl;exact h kV il pm an eQ ct u v,H⟩
def YT(e:r.2.2.2.take r.2.2.1.par=[p,q,o])(h:∀(kV il pm:Value) (an:Option Addr) (eQ ct u v w:Value),bindArgs (PySem.W.fnOf r.1 r.1 (dz (jW r.2.1)) (bY (jW r.2.1)) (aC (jW r.2.1)) .none kV il pm an eQ ct) ⟨[u,v,w],[]⟩=pure [(p,u),(q,v),(o,w)]):L7 (r::l):=
 ⟨λkV il pm an eQ ct us hl=>by rw[e]at hl⊢;obtain⟨u,v,w,rfl⟩:=TJ hl;exact h kV il pm an eQ ct u v w,H⟩
end
def YU:L7 tb:=by
 repeat first
  |refine YR ?_ rfl λ_ _ _ _ _ _ _=>rfl
  |refine YS ?_ rfl λ_ _ _ _ _ _ _ _=>rfl
  |refine YT ?_ rfl λ_ _ _ _ _ _ _ _ _=>rfl
 exact trivial
theorem Ik:∀{l:List Row},L7 l->∀r∈l,Bd r
 |_::_,h,_,.head _=>h.1
 |_::_,h,r,.tail _ m=>Ik h.2 r m
def Dh(K:aH)(r:Row):Prop:=∃(f:Addr) (fd:FuncData),Hi K r.1 r.1 (jW r.2.1) f fd/\PySem.W.nsIn K mainGlobals r.1=some (some (.ref f))
def Qd(K:aH):List Row->Prop
 |[]=>True
 |r::l=>Dh K r/\Qd K l
theorem DJ{K:aH}:∀{l:List Row},Qd K l->∀r∈l,Dh K r
 |_::_,h,_,.head _=>h.1
 |_::_,h,r,.tail _ m=>DJ h.2 r m
def YV{K:aH}{r:List Row}{x:Str}{i:Nat}{d:Fd}{N:List Str}{f:Addr}{oc:Value}{od an:Option Addr}{sl:Array (Option Value)}{kV dc pm cd ct:Value}(a:PySem.W.nsIn K mainGlobals x=some (some (.ref f)))
  (l:K.lookup f=some ⟨oc,od,.func (PySem.W.fnOf x x (dz (jW i)) (bY (jW i)) (aC (jW i)) .none kV dc pm an cd ct),sl⟩) (c:PySem.W.codeIn K cd x=true) (k:PySem.W.keepIn K (.ref f)=true) (h:Qd K r):Qd K ((x,i,d,N)::r):=
 ⟨⟨f,_,Ju l c k,a⟩,h⟩
def Zs(K:aH):List Str->Prop
 |[]=>True
 |x::l=>PySem.W.nsIn K mainGlobals x=some none/\Zs K l
def zs{K:aH}(a:PySem.W.nsIn K mainGlobals x=some none)(h:Zs K l):Zs K (x::l):=⟨a,h⟩
theorem Il{K:aH}(X:K.In h)(GM:h.Ns mainGlobals mg):∀{l:List Str},Zs K l->∀x∈l,mg x=none
 |_::_,z,_,.head _=>PySem.W.mg_none_of X GM z.1
 |_::_,z,x,.tail _ m=>Il X GM z.2 x m
def all_mk{l:PySem.W.OpenLaw}{w:World}{K:aH}{h:Heap}{mg:Str->Option Value}{fa:Addr}(X:K.In h)(GM:h.Ns mainGlobals mg)(YW:mg "law"=some (.ref fa))(D:Qd K tb)(Z:Zs K iC):
  ∃fd:FuncData,(∀(s:Shared) (v:Value),BindsTo s fd ⟨[v],[]⟩ [("_law_script",v)])/\∀base:Heap,K.In base->base.Ns mainGlobals mg->i_ l.prog w K mg base yJ (6+1) fa fd ["_law_script"] (xc K 1 (run T (6+1) 31)):=by
 have hb:=Il X GM Z;have sh:∀(x:Str) (i:Int),(x,i)∈G.2->∃t,mg x=some (.int i t):=λx i hx=>nomatch hx;have cr:∀r∈tb,gR r.2.2.2 (r.2.2.2.take r.2.2.1.par) (aC (jW r.2.1))/\gg G r.2.2.1.body r.2.2.2 (aC (jW r.2.1)) (bY (jW r.2.1))=true/\(r.2.2.2.take r.2.2.1.par).length =r.2.2.1.par/\r.2.2.2.length=r.2.2.1.j7:=λr hr=>by
  have h:=aas.mp ck r hr;unfold VY at h;simp only[Zk,decide_eq_true_eq,aas,adk]at h;obtain⟨⟨⟨⟨⟨⟨⟨⟨h1,h2⟩,h3⟩,h4⟩,h5⟩,h6⟩,h7⟩,h8⟩,h9⟩:=h;exact⟨⟨h1,h2,h3,h4,by rw[h5],h6,h7⟩,h8,h5,h9⟩
 have ot:∀(base:Heap) (f:Nat) (x:Str),G.1[f]?=some x->vG l.prog w K mg base G T f x:=λbase f x hf=>by
  obtain⟨r,hr,rfl⟩:=aaW.mp ((Zz ..).symm.trans hf);have hm:=aac hr;obtain⟨fa,fd,F,a⟩:=DJ D r hm;obtain⟨S,ok,l1,l2⟩:=cr r hm;refine CI.step hb sh (d:=r.2.2.1) ?_ ⟨jW r.2.1,fa,fd,_,_,F,S,F.binds (Ik YU r hm),PySem.W.mg_of X GM a,ok,l1,l2⟩;show(tb.map λr=>r.2.2.1)[f]?=_;rw[Zz,hr];rfl
 have hl:tb[31]?=some (("law",38,P0,["_law_script","_law_most","_law_size","_law_one","_law_other","_law_outer","_law_inner","_law_ones","_law_others","_law_found","_law_moved","_law_turn_here","_law_wide"]):Row):=rfl;have hm:=aac hl;obtain⟨f,fd,F,a⟩:=DJ D _ hm;cases YW.symm.trans (PySem.W.mg_of X GM a);obtain⟨S,ok,l1,l2⟩:=cr _ hm;obtain⟨oc,od,kV,il,pm,an,eQ,ct,Eh,rfl,_⟩:=id F.ex;exact⟨_,λs v=> .of_eq rfl,λbase _ _=>CK (n:=6) (f:=31) (d:=P0) (ps:=["_law_script"]) hb sh (F' (ot base) 6) F S rfl ok l1 l2⟩
end et
namespace PySem.W.Fast
def tw3152473193339286229:=()
def tw15976116247735880071:=()
def tw8390777034553824162:=()
def tw11665481136547208644:=()
def tw10985592497443550199:=()
def tw15577770842642804060:=()
def tw17088281333091081588:=()
def tw12839330419750829461:=()
def tw14668919649767456129:=()
def tw8624241163194498717:=()
def tw12990159019192572208:=()
def tw2254059602374366476:=()
def tw1241305848236186413:=()
def tw10096847979659412680:=()
def tw2419298333812095926:=()
def tw1751039847678538140:=()
def tw11919703025674545655:=()
def tw9274441444928511683:=()
def tw10742142395015322108:=()
def tw11024115673593755280:=()
def tw14615490547080589451:=()
def tw8659450045003035764:=()
def tw13568873554105603206:=()
def tw5253885389080179331:=()
def tw2800470961041157874:=()
def tw399707732798503507:=()
def tw12069015970134845425:=()
def tw1256038977528135231:=()
def tw6253775827338641568:=()
def tw1127236122479708003:=()
def tw13722383728540173138:=()
def tw10009842085635522474:=()
def tw15326003089292583762:=()
def tw11562523546949872172:=()
def tw9703998450427135331:=()
def tw14126230862640613745:=()
end PySem.W.Fast
open PySem PySem.W PyProof.Rows
set_option maxRecDepth 100000 in
set_option maxHeartbeats 0 in
theorem PySem.Challenge.cw_turnyard_k23_whole_even_holds : PySem.Challenge.rw_turnyard_k23_whole_even.Holds := by
 w_on;o_law;k_head;(case hw=>w_witness2)
 k_fill
 refine Py.Pu (x:="_law_script") (l:=PySem.Challenge.rw_turnyard_k23_whole_even) (T:=et.T) (n:=6+1) (f:=31) rfl rfl (by decide) (λw h Y=>PySem.W.kIn_of Y) ?F et.holds
 case F=>
  intro w mg fa h KX G Np;refine' et.all_mk KX G Np ?D ?Z
  (case D=>
   iterate 32 (apply et.YV;(case a=>k_is);(case l=>k_is);(case c=>k_is);(case k=>k_is))
   exact trivial)
  (case Z=>
   iterate 11 (apply et.zs;(case a=>k_is))
   exact trivial)
