import PyProof.Rows.All
import Wide.All
import OpenK.AllK
import Wide.FinOn
import Lean
import PyProof.EqAt
import PyProof.EqKinds
import PyProof.TupleCall
import PyProof.CompFree
import PyProof.WalkInts
import PyProof.StrBlockI
import PyProof.StrBlockL
import PyProof.MeetsSeq
import PyProof.Rows.StrJoinMade
import PyProof.ZipIter
import KE.KRevSl
import PyProof.Rows.StrSplitAre
import PyProof.StrBlockH
import PyProof.Rows.SortRuns
import KE.KSortTup
import KE.KDictSum
import PyProof.DictValues
import PyProof.TableCode
import PySem.Challenge.RW_turnyard_k21_together_and_shared
set_option linter.all false
def WV:=@PySem.wpAny_bind
def WW:=@List.getElem?_eq_getElem
def WX:=@Bool.and_eq_true
def WY:=@PySem.Heap.get?_push_of_some
def WZ:=@List.length_map
def W2:=@Bool.false_ne_true
def W4:=@List.mem_cons_of_mem
def W5:=@List.mem_singleton
def W6:=@List.mem_cons_self
def W7:=@PySem.wpAny_pure
def W8:=@List.size_toArray
def W9:=@Nat.le_refl
def W_:=@List.length_append
def Xa:=@List.getD_eq_getElem?_getD
def Xb:=@List.getElem?_map
def Xc:=@List.mem_cons
def Xd:=@List.mem_map
def Xe:=@PySem.Heap.get?_push_size
def Xf:=@List.getElem?_eq_some_iff
def Xg:=@PySem.Heap.lt_size
def Xh:=@Array.toList_append
def Xi:=@List.mem_append_right
def Xj:=@List.map_cons
def Xk:=@List.mem_append
def Xl:=@if_pos
def Xm:=@List.length_cons
def Xn:=@Option.some.inj
def Xo:=@List.getElem?_set_self
def Xp:=@List.mem_append_left
def Xq:=@List.getElem?_set_ne
def Xr:=@List.getElem?_eq_none
def Xs:=@if_neg
def Xt:=@Array.length_toList
def Xu:=@Nat.ne_of_lt
def Xv:=@PySem.Heap.get?_update_other
def Xw:=@List.append_assoc
def Xx:=@List.length_singleton
def Xy:=@List.map_append
def Xz:=@List.map_map
def XA:=@List.pairwise_append
def XB:=@List.nodup_cons
def XC:=@Nat.lt_of_lt_of_le
def XD:=@List.length_set
def XE:=@Array.getElem?_eq_getElem
def XF:=@List.append_nil
def XG:=@PySem.wpAny_newObj_type
def XH:=@List.mem_range
def XI:=@List.getElem?_append_left
def XJ:=@PySem.mem_of_lookup
def XM:=@List.take_of_length_le
def XN:=@List.getElem?_append_right
def XO:=@Array.getElem_mem
def XQ:=@Array.getElem?_toList
def XR:=@List.drop_eq_getElem_cons
def XS:=@Nat.lt_irrefl
def XT:=@PySem.wpAny_holding
def XU:=@List.mem_of_getElem?
def XW:=@PySem.wpAny_call_entry
def XX:=@PyProof.Rows.slot_tuple_getitem
def XY:=@Ne.symm
def XZ:=@Nat.le_trans
def X0:=@Nat.lt_or_ge
def X1:=@List.nodup_iff_pairwise_ne
def X2:=@PySem.wpAny_callSpecial?_slot
def X3:=@List.length_take
def X4:=@Array.toList_reverse
def X5:=@List.mem_filter
def X6:=@Int.toNat_natCast
def X7:=@List.pairwise_map
def X8:=@List.mem_of_mem_take
def X9:=@Bool.false_eq_true
def X_:=@List.pairwise_cons
def X':=@PySem.F.plain_min_loop
def Ya:=@List.all_eq_true
def Yb:=@List.mem_reverse
def Yc:=@Option.bind_some
def Yd:=@List.mem_flatMap
def Ye:=@Nat.zero_le
def Yf:=@PySem.wpAny_truthy_bool
def Yg:=@List.take_sublist
def Yh:=@PySem.Heap.get?_update_self
def Yi:=@List.drop_sublist
def Yj:=@List.ext_getElem?
def Yk:=@List.nodup_append
def Yl:=@PySem.F.slot_dict_keyiterator_next
def Ym:=@PyProof.Rows.callWith_type1
def Yn:=@PySem.Obj.data_mapFields
def Yo:=@PySem.wpAny_mono
def Yp:=@PySem.Heap.SameBut.update
def Yq:=@PySem.Heap.size_push
def Yr:=@List.pairwise_iff_getElem
def Ys:=@PySem.wpAny_loadPart'
def Yt:=@List.nil_append
def Yu:=@Int.emod_nonneg
def Yv:=@Int.emod_lt_of_pos
def Yw:=@PySem.wpAny_typeNameOfWhole_keyiter
def Yx:=@Array.toList_extract
def Yy:=@Array.mem_toList_iff
def Yz:=@PySem.F.plainAttrs_list
def YA:=@Nat.zero_add
def YB:=@Nat.lt_succ_of_lt
def YC:=@List.length_nil
def YD:=@PySem.wpAny_field
def YE:=@List.find?_cons
def YF:=@List.getElem?_range
def YG:=@PySem.F.slot_tuple_iterator_next
def YH:=@Nat.lt_succ_self
def YI:=@List.getElem_mem
def YJ:=@PySem.wpAny_setField
def YK:=@PySem.wpAny_passesOwn
def YL:=@List.forIn_cons
def YM:=@PySem.wpAny_typeNameOf_keyiter
def YN:=@Array.toList_push
def YO:=@Nat.not_lt_zero
def YQ:=@List.set_eq_of_length_le
def YR:=@List.getElem_of_mem
def YS:=@List.filter_cons
def YT:=@List.drop_zero
def YU:=@PySem.Calls.callWith_builtin
def YV:=@Option.map_eq_some_iff
def YW:=@PySem.wpAny_pyIter_tuple
def YX:=@List.length_replicate
def YY:=@PySem.Obj.isFreed_of_fields
def YZ:=@List.Perm.append_left
def Y0:=@List.take_append_drop
def Y1:=@List.pairwise_reverse
def Y2:=@List.dropLast_eq_take
def Y3:=@PySem.Paired.length
def Y4:=@PySem.wpAny_pyIter_list
def Y5:=@PySem.wpAny_rule
def Y6:=@List.any_cons
def Y7:=@List.all_cons
def Y8:=@Bool.not_eq_true'
def Y9:=@Array.toList_setIfInBounds
def Y_:=@PySem.Around.under_plainId
def Y':=@List.mem_of_mem_drop
def Za:=@List.range_eq_range'
def Zb:=@Classical.byContradiction
def Zc:=@PySem.Calls.call_function_entry
def Zd:=@List.length_drop
def Ze:=@List.lookup_cons
def Zf:=@List.map_congr_left
def Zg:=@List.filter_sublist
def Zh:=@PySem.F.args_tuple_add_2
def Zi:=@Nat.lt_trans
def Zj:=@PySem.wpAny_Call_Name_kw
def Zk:=@PySem.F.entry_tuple_add
def Zl:=@Option.map_some
def Zm:=@PySem.codeAny_builtin
def Zn:=@PySem.wpAny_attempt
def Zo:=@List.getElem?_take
def Zp:=@List.pairwise_singleton
def Zq:=@List.length_zip
def Zr:=@PySem.F.slot_tuple_add
def Zt:=@PySem.F.entry_min_loop
def Zu:=@Array.toList_eraseIdxIfInBounds
def Zv:=@List.length_range
def Zw:=@PySem.wpAny_seqItems
def Zx:=@PySem.F.args_dict_keyiterator_next_1
def Zy:=@PySem.wpAny_isOneOf_keyiter
def Zz:=@PySem.wpAny_eqBool_int
def ZA:=@List.getElem?_replicate_of_lt
def ZC:=@List.range'_succ
def ZD:=@Array.toList_map
def ZF:=@PySem.F.entry_dict_keyiterator_next
def ZG:=@PySem.F.args_object_init_2
def ZH:=@PySem.F.args_tuple_iterator_next_1
def ZI:=@List.filterMap_cons
def ZJ:=@List.of_mem_zip
def ZK:=@PySem.F.entry_tuple_iterator_next
def ZL:=@Array.Perm.refl
def ZM:=@Bool.or_eq_true
def ZN:=@PySem.Calls.Name_function_global
def ZO:=@Array.perm_iff_toList_perm
def ZP:=@List.perm_ext_iff_of_nodup
def ZQ:=@Nat.le_of_lt
def ZR:=@List.zip_cons_cons
def ZS:=@List.map_nil
def ZT:=@List.lookup_append
def ZU:=@Nat.min_self
def ZV:=@List.drop_drop
def ZW:=@PySem.wpAny_fieldsOf
def ZX:=@List.mem_take_iff_getElem
def ZY:=@List.mem_drop_iff_getElem
def ZZ:=@PySem.wpAny_tryCatch
def Z0:=@List.getLast?_eq_getElem?
def Z1:=@PySem.wpAny_comprehension_free
def Z2:=@PySem.Obj.cls_mapFields
def Z3:=@PySem.wpAny_pyIter_enum
def Z4:=@PySem.F.slot_tuple_index
def Z5:=@Option.isSome_map
def Z6:=@List.reverse_perm
def Z7:=@PySem.wpAny_dictEntries
def Z8:=@PySem.F.slot_dict_values
def Z9:=@PySem.F.slot_list_extend
def Z_:=@PySem.F.type_list_extend
def Z':=@List.length_erase_of_mem
def aaa:=@List.flatMap_cons
def aab:=@Sum.inl.inj
def aac:=@PySem.wpAny_standAt
def aad:=@List.getElem?_replicate
def aae:=@PySem.wpAny_letGo
def aaf:=@PySem.wpAny_newList
def aag:=@Nat.le_of_not_lt
def aah:=@List.map_snd_zip
def aai:=@List.drop_length
def aaj:=@List.isEmpty_iff
def aak:=@List.cons_append
def aal:=@PySem.W.cellsFrom_some
def aam:=@List.drop_eq_nil_of_le
def aan:=@List.reverse_singleton
def aao:=@Classical.epsilon_spec
def aap:=@List.pairwise_lt_range
def aaq:=@List.filter_eq_nil_iff
def aar:=@PySem.wpAny_execs_nil
def aas:=@PySem.codeAny_mono
def aat:=@PySem.wpAny_typeOf
def aau:=@Nat.le_of_eq
def aav:=@List.lookup_cons_self
def aaw:=@PySem.wpAny_specialOf
def aax:=@Array.mem_iff_getElem
def aay:=@Bool.eq_iff_iff
def aaz:=@List.perm_append_comm
def aaA:=@PySem.wpAny_dictEpoch
def aaB:=@Nat.min_eq_left
def aaC:=@Nat.succ_pos
def aaD:=@PySem.wpAny_updateSeq
def aaE:=@List.eq_nil_or_concat
def aaF:=@List.concat_eq_append
def aaG:=@List.length_filter_le
def aaH:=@Array.toArray_toList
def aaI:=@Bool.or_eq_false_iff
def aaJ:=@List.reverse_reverse
def aaK:=@List.take_take
def aaL:=@Nat.mul_le_mul
def aaM:=@PyProof.Rows.lt_int
def aaN:=@PySem.evalArgs_none
def aaO:=@PySem.wpAny_of_eq
def aaP:=@List.map_id
def aaQ:=@Prod.mk.inj
def aaR:=@List.mem_filterMap
def aaS:=@PySem.W.callWith_K
def aaT:=@Option.isSome_some
def aaU:=@List.getElem?_drop
def aaV:=@Array.size_extract
def aaW:=@Bool.and_self
def aaX:=@Int.natCast_nonneg
def aaY:=@List.map_take
def aaZ:=@Nat.ne_of_gt
def aba:=@Nat.add_zero
def abb:=@Nat.sub_zero
def abc:=@Int.le_trans
def aq(h:¬p->False):p:=Zb h
section
variable {q:Prop}{α β γ δ ε ζ η θ ι κ:Sort _}
def cN(x:A/\B/\C)(k:A->B->C->q):q:=k x.1 x.2.1 x.2.2
def xE(x:A/\B/\C/\D)(k:A->B->C->D->q):q:=cN x.2 (k x.1)
def JM(x:A/\B/\C/\D/\E)(k:A->B->C->D->E->q):q:=xE x.2 (k x.1)
def sk(x:A/\B/\C/\D/\E/\F)(k:A->B->C->D->E->F->q):q:=JM x.2 (k x.1)
def RH(x:A/\B/\C/\D/\E/\F/\G)(k:A->B->C->D->E->F->G->q):q:=sk x.2 (k x.1)
def RK(x:A/\B/\C/\D/\E/\F/\G/\H)(k:A->B->C->D->E->F->G->H->q):q:=RH x.2 (k x.1)
def Tt(x:A/\B/\C/\D/\E/\F/\G/\H/\I)(k:A->B->C->D->E->F->G->H->I->q):q:=RK x.2 (k x.1)
def N7(x:A/\B/\C/\D/\E/\F/\G/\H/\I/\J)(k:A->B->C->D->E->F->G->H->I->J->q):q:=Tt x.2 (k x.1)
variable {A B C D E F G H I J:α->Prop}
def aa(x:∃a,A a/\B a)(k:∀a,A a->B a->q):q:=x.elim λa x=>k a x.1 x.2
def bJ(x:∃a,A a/\B a/\C a)(k:∀a,A a->B a->C a->q):q:=x.elim λa x=>cN x (k a)
def Bj(x:∃a,A a/\B a/\C a/\D a)(k:∀a,A a->B a->C a->D a->q):q:=x.elim λa x=>xE x (k a)
def Ji(x:∃a,A a/\B a/\C a/\D a/\E a)(k:∀a,A a->B a->C a->D a->E a->q):q:=x.elim λa x=>JM x (k a)
def Tu(x:∃a,A a/\B a/\C a/\D a/\E a/\F a)(k:∀a,A a->B a->C a->D a->E a->F a->q):q:=x.elim λa x=>sk x (k a)
def Tv(x:∃a,A a/\B a/\C a/\D a/\E a/\F a/\G a)(k:∀a,A a->B a->C a->D a->E a->F a->G a->q):q:=x.elim λa x=>RH x (k a)
def Tw(x:∃a,A a/\B a/\C a/\D a/\E a/\F a/\G a/\H a)(k:∀a,A a->B a->C a->D a->E a->F a->G a->H a->q):q:=x.elim λa x=>RK x (k a)
def N8(x:∃a,A a/\B a/\C a/\D a/\E a/\F a/\G a/\H a/\I a/\J a)(k:∀a,A a->B a->C a->D a->E a->F a->G a->H a->I a->J a->q):q:=x.elim λa x=>N7 x (k a)
variable {A B C D E F G H I J:α->β->Prop}
def Bu(x:∃a b,A a b)(k:∀a b,A a b->q):q:=x.elim λa x=>x.elim (k a)
def ef(x:∃a b,A a b/\B a b)(k:∀a b,A a b->B a b->q):q:=x.elim λa x=>aa x (k a)
def bu(x:∃a b,A a b/\B a b/\C a b)(k:∀a b,A a b->B a b->C a b->q):q:=x.elim λa x=>bJ x (k a)
def gH(x:∃a b,A a b/\B a b/\C a b/\D a b)(k:∀a b,A a b->B a b->C a b->D a b->q):q:=x.elim λa x=>Bj x (k a)
def jC(x:∃a b,A a b/\B a b/\C a b/\D a b/\E a b)(k:∀a b,A a b->B a b->C a b->D a b->E a b->q):q:=x.elim λa x=>Ji x (k a)
def N9(x:∃a b,A a b/\B a b/\C a b/\D a b/\E a b/\F a b)(k:∀a b,A a b->B a b->C a b->D a b->E a b->F a b->q):q:=x.elim λa x=>Tu x (k a)
def RL(x:∃a b,A a b/\B a b/\C a b/\D a b/\E a b/\F a b/\G a b)(k:∀a b,A a b->B a b->C a b->D a b->E a b->F a b->G a b->q):q:=x.elim λa x=>Tv x (k a)
def N_(x:∃a b,A a b/\B a b/\C a b/\D a b/\E a b/\F a b/\G a b/\H a b)(k:∀a b,A a b->B a b->C a b->D a b->E a b->F a b->G a b->H a b->q):q:=x.elim λa x=>Tw x (k a)
def Oa(x:∃a b,A a b/\B a b/\C a b/\D a b/\E a b/\F a b/\G a b/\H a b/\I a b/\J a b)(k:∀a b,A a b->B a b->C a b->D a b->E a b->F a b->G a b->H a b->I a b->J a b->q):q:=x.elim λa x=>N8 x (k a)
variable {A B C D E F G H I J:α->β->γ->Prop}
def JN(x:∃a b c,A a b c)(k:∀a b c,A a b c->q):q:=x.elim λa x=>Bu x (k a)
def kC(x:∃a b c,A a b c/\B a b c)(k:∀a b c,A a b c->B a b c->q):q:=x.elim λa x=>ef x (k a)
def cS(x:∃a b c,A a b c/\B a b c/\C a b c)(k:∀a b c,A a b c->B a b c->C a b c->q):q:=x.elim λa x=>bu x (k a)
def Ng(x:∃a b c,A a b c/\B a b c/\C a b c/\D a b c)(k:∀a b c,A a b c->B a b c->C a b c->D a b c->q):q:=x.elim λa x=>gH x (k a)
def so(x:∃a b c,A a b c/\B a b c/\C a b c/\D a b c/\E a b c)(k:∀a b c,A a b c->B a b c->C a b c->D a b c->E a b c->q):q:=x.elim λa x=>jC x (k a)
def JO(x:∃a b c,A a b c/\B a b c/\C a b c/\D a b c/\E a b c/\F a b c)(k:∀a b c,A a b c->B a b c->C a b c->D a b c->E a b c->F a b c->q):q:=x.elim λa x=>N9 x (k a)
def Tx(x:∃a b c,A a b c/\B a b c/\C a b c/\D a b c/\E a b c/\F a b c/\G a b c)(k:∀a b c,A a b c->B a b c->C a b c->D a b c->E a b c->F a b c->G a b c->q):q:=x.elim λa x=>RL x (k a)
def Tz(x:∃a b c,A a b c/\B a b c/\C a b c/\D a b c/\E a b c/\F a b c/\G a b c/\H a b c)(k:∀a b c,A a b c->B a b c->C a b c->D a b c->E a b c->F a b c->G a b c->H a b c->q):q:=x.elim λa x=>N_ x (k a)
def Ob(x:∃a b c,A a b c/\B a b c/\C a b c/\D a b c/\E a b c/\F a b c/\G a b c/\H a b c/\I a b c/\J a b c)(k:∀a b c,A a b c->B a b c->C a b c->D a b c->E a b c->F a b c->G a b c->H a b c->I a b c->J a b c->q):q:=x.elim λa x=>Oa x (k a)
variable {A B C D E F G H I J:α->β->γ->δ->Prop}
def Nh(x:∃a b c d,A a b c d)(k:∀a b c d,A a b c d->q):q:=x.elim λa x=>JN x (k a)
def mS(x:∃a b c d,A a b c d/\B a b c d)(k:∀a b c d,A a b c d->B a b c d->q):q:=x.elim λa x=>kC x (k a)
def Fu(x:∃a b c d,A a b c d/\B a b c d/\C a b c d)(k:∀a b c d,A a b c d->B a b c d->C a b c d->q):q:=x.elim λa x=>cS x (k a)
def JP(x:∃a b c d,A a b c d/\B a b c d/\C a b c d/\D a b c d)(k:∀a b c d,A a b c d->B a b c d->C a b c d->D a b c d->q):q:=x.elim λa x=>Ng x (k a)
def sF(x:∃a b c d,A a b c d/\B a b c d/\C a b c d/\D a b c d/\E a b c d)(k:∀a b c d,A a b c d->B a b c d->C a b c d->D a b c d->E a b c d->q):q:=x.elim λa x=>so x (k a)
def Bv(x:∃a b c d,A a b c d/\B a b c d/\C a b c d/\D a b c d/\E a b c d/\F a b c d)(k:∀a b c d,A a b c d->B a b c d->C a b c d->D a b c d->E a b c d->F a b c d->q):q:=x.elim λa x=>JO x (k a)
def TB(x:∃a b c d,A a b c d/\B a b c d/\C a b c d/\D a b c d/\E a b c d/\F a b c d/\G a b c d)(k:∀a b c d,A a b c d->B a b c d->C a b c d->D a b c d->E a b c d->F a b c d->G a b c d->q):q:=x.elim λa x=>Tx x (k a)
def RM(x:∃a b c d,A a b c d/\B a b c d/\C a b c d/\D a b c d/\E a b c d/\F a b c d/\G a b c d/\H a b c d)(k:∀a b c d,A a b c d->B a b c d->C a b c d->D a b c d->E a b c d->F a b c d->G a b c d->H a b c d->q):q:=x.elim λa x=>Tz x (k a)
def Oc(x:∃a b c d,A a b c d/\B a b c d/\C a b c d/\D a b c d/\E a b c d/\F a b c d/\G a b c d/\H a b c d/\I a b c d/\J a b c d)(k:∀a b c d,A a b c d->B a b c d->C a b c d->D a b c d->E a b c d->F a b c d->G a b c d->H a b c d->I a b c d->J a b c d->q):q:=x.elim λa x=>Ob x (k a)
variable {A B C D E F G H I J:α->β->γ->δ->ε->Prop}
def Jj(x:∃a b c d e,A a b c d e/\B a b c d e)(k:∀a b c d e,A a b c d e->B a b c d e->q):q:=x.elim λa x=>mS x (k a)
def TC(x:∃a b c d e,A a b c d e/\B a b c d e/\C a b c d e)(k:∀a b c d e,A a b c d e->B a b c d e->C a b c d e->q):q:=x.elim λa x=>Fu x (k a)
def Od(x:∃a b c d e,A a b c d e/\B a b c d e/\C a b c d e/\D a b c d e)(k:∀a b c d e,A a b c d e->B a b c d e->C a b c d e->D a b c d e->q):q:=x.elim λa x=>JP x (k a)
def Ni(x:∃a b c d e,A a b c d e/\B a b c d e/\C a b c d e/\D a b c d e/\E a b c d e)(k:∀a b c d e,A a b c d e->B a b c d e->C a b c d e->D a b c d e->E a b c d e->q):q:=x.elim λa x=>sF x (k a)
def RN(x:∃a b c d e,A a b c d e/\B a b c d e/\C a b c d e/\D a b c d e/\E a b c d e/\F a b c d e)(k:∀a b c d e,A a b c d e->B a b c d e->C a b c d e->D a b c d e->E a b c d e->F a b c d e->q):q:=x.elim λa x=>Bv x (k a)
def TF(x:∃a b c d e,A a b c d e/\B a b c d e/\C a b c d e/\D a b c d e/\E a b c d e/\F a b c d e/\G a b c d e)(k:∀a b c d e,A a b c d e->B a b c d e->C a b c d e->D a b c d e->E a b c d e->F a b c d e->G a b c d e->q):q:=x.elim λa x=>TB x (k a)
def TH(x:∃a b c d e,A a b c d e/\B a b c d e/\C a b c d e/\D a b c d e/\E a b c d e/\F a b c d e/\G a b c d e/\H a b c d e)(k:∀a b c d e,A a b c d e->B a b c d e->C a b c d e->D a b c d e->E a b c d e->F a b c d e->G a b c d e->H a b c d e->q):q:=x.elim λa x=>RM x (k a)
def Oe(x:∃a b c d e,A a b c d e/\B a b c d e/\C a b c d e/\D a b c d e/\E a b c d e/\F a b c d e/\G a b c d e/\H a b c d e/\I a b c d e/\J a b c d e)(k:∀a b c d e,A a b c d e->B a b c d e->C a b c d e->D a b c d e->E a b c d e->F a b c d e->G a b c d e->H a b c d e->I a b c d e->J a b c d e->q):q:=x.elim λa x=>Oc x (k a)
variable {A B C D E F G H I J:α->β->γ->δ->ε->ζ->Prop}
def TJ(x:∃a b c d e f,A a b c d e f/\B a b c d e f/\C a b c d e f)(k:∀a b c d e f,A a b c d e f->B a b c d e f->C a b c d e f->q):q:=x.elim λa x=>TC x (k a)
def Jk(x:∃a b c d e f,A a b c d e f/\B a b c d e f/\C a b c d e f/\D a b c d e f/\E a b c d e f)(k:∀a b c d e f,A a b c d e f->B a b c d e f->C a b c d e f->D a b c d e f->E a b c d e f->q):q:=x.elim λa x=>Ni x (k a)
def TK(x:∃a b c d e f,A a b c d e f/\B a b c d e f/\C a b c d e f/\D a b c d e f/\E a b c d e f/\F a b c d e f/\G a b c d e f)(k:∀a b c d e f,A a b c d e f->B a b c d e f->C a b c d e f->D a b c d e f->E a b c d e f->F a b c d e f->G a b c d e f->q):q:=x.elim λa x=>TF x (k a)
def TM(x:∃a b c d e f,A a b c d e f/\B a b c d e f/\C a b c d e f/\D a b c d e f/\E a b c d e f/\F a b c d e f/\G a b c d e f/\H a b c d e f)(k:∀a b c d e f,A a b c d e f->B a b c d e f->C a b c d e f->D a b c d e f->E a b c d e f->F a b c d e f->G a b c d e f->H a b c d e f->q):q:=x.elim λa x=>TH x (k a)
def JQ(x:∃a b c d e f,A a b c d e f/\B a b c d e f/\C a b c d e f/\D a b c d e f/\E a b c d e f/\F a b c d e f/\G a b c d e f/\H a b c d e f/\I a b c d e f/\J a b c d e f)(k:∀a b c d e f,A a b c d e f->B a b c d e f->C a b c d e f->D a b c d e f->E a b c d e f->F a b c d e f->G a b c d e f->H a b c d e f->I a b c d e f->J a b c d e f->q):q:=x.elim λa x=>Oe x (k a)
variable {A B C D E F G H I J:α->β->γ->δ->ε->ζ->η->Prop}
def TN(x:∃a b c d e f g,A a b c d e f g/\B a b c d e f g/\C a b c d e f g)(k:∀a b c d e f g,A a b c d e f g->B a b c d e f g->C a b c d e f g->q):q:=x.elim λa x=>TJ x (k a)
def RO(x:∃a b c d e f g,A a b c d e f g/\B a b c d e f g/\C a b c d e f g/\D a b c d e f g/\E a b c d e f g/\F a b c d e f g/\G a b c d e f g)(k:∀a b c d e f g,A a b c d e f g->B a b c d e f g->C a b c d e f g->D a b c d e f g->E a b c d e f g->F a b c d e f g->G a b c d e f g->q):q:=x.elim λa x=>TK x (k a)
def TQ(x:∃a b c d e f g,A a b c d e f g/\B a b c d e f g/\C a b c d e f g/\D a b c d e f g/\E a b c d e f g/\F a b c d e f g/\G a b c d e f g/\H a b c d e f g)(k:∀a b c d e f g,A a b c d e f g->B a b c d e f g->C a b c d e f g->D a b c d e f g->E a b c d e f g->F a b c d e f g->G a b c d e f g->H a b c d e f g->q):q:=x.elim λa x=>TM x (k a)
variable {A B C D E F G H I J:α->β->γ->δ->ε->ζ->η->θ->Prop}
def nI(x:∃a b c d e f g h,A a b c d e f g h/\B a b c d e f g h/\C a b c d e f g h)(k:∀a b c d e f g h,A a b c d e f g h->B a b c d e f g h->C a b c d e f g h->q):q:=x.elim λa x=>TN x (k a)
variable {A B C D E F G H I J:α->β->γ->δ->ε->ζ->η->θ->ι->Prop}
def RP(x:∃a b c d e f g h i,A a b c d e f g h i/\B a b c d e f g h i/\C a b c d e f g h i)(k:∀a b c d e f g h i,A a b c d e f g h i->B a b c d e f g h i->C a b c d e f g h i->q):q:=x.elim λa x=>nI x (k a)
end
set_option bootstrap.genMatcherCode false
set_option genSizeOf false
set_option compiler.extract_closed false
set_option Elab.async false
set_option maxRecDepth 100000
namespace L2
open PySem PySem.Spec PyProof.Rows
abbrev cU:=Sum Int Str
noncomputable def lu:cU->Value->Bool
 | .inl k,v=>Value.isInt k v
 | .inr x,v=>Value.isStrOf x v
noncomputable def Of(w:World):cU->Int
 | .inl k=>hashInt k
 | .inr x=>hashStr w x
def bx:∀{k:cU}{v:Value},lu k v=true->(∃i t,k=Sum.inl i/\v=Value.int i t)\/(∃x t,k=Sum.inr x/\v=Value.str x t)
 | .inl i,v,h=>by
  obtain⟨t,e⟩:=Value.isInt_shape (k:=i) (v:=v) h
  exact .inl ⟨i,t,rfl,e⟩
 | .inr x,v,h=>by
  obtain⟨t,e⟩:=Value.isStrOf_shape (x:=x) (v:=v) h
  exact .inr ⟨x,t,rfl,e⟩
def vY(i:Int)(t:Tok):lu (.inl i) (.int i t)=true:=by simp[lu,Value.isInt]
def vZ(x:Str)(t:Tok):lu (.inr x) (.str x t)=true:=by simp[lu,Value.isStrOf]
def Fv(a b:Int):decide ((Sum.inl a:cU)=Sum.inl b)=(a==b):=by
 by_cases e:a=b
 .subst e;simp
 .have h:¬(Sum.inl a:cU)=Sum.inl b:=λq=>e (aab q)
  rw[decide_eq_false h]
  exact(beq_eq_false_iff_ne.mpr e).symm
def Fw(a b:Str):decide ((Sum.inr a:cU)=Sum.inr b)=decide (a=b):=by
 by_cases e:a=b
 .subst e;simp
 .have h:¬(Sum.inr a:cU)=Sum.inr b:=λq=>e (Sum.inr.inj q)
  rw[decide_eq_false h,decide_eq_false e]
def Fx(a:Int)(b:Str):decide ((Sum.inl a:cU)=Sum.inr b)=false:=decide_eq_false (λq=>nomatch q)
def Fy(a:Str)(b:Int):decide ((Sum.inr a:cU)=Sum.inl b)=false:=decide_eq_false (λq=>nomatch q)
noncomputable def br(prog:Program)(w:World):PySem.KeyKind prog w cU where
 is:=lu
 hash:=Of w
 inj:=λv a b ha hb=>by
  rcases bx ha with⟨i,t,rfl,rfl⟩|⟨x,t,rfl,rfl⟩
  .rcases bx hb with⟨j,u,rfl,e⟩|⟨y,u,rfl,e⟩
   .injection e with e1 _;rw[e1]
   .exact nomatch e
  .rcases bx hb with⟨j,u,rfl,e⟩|⟨y,u,rfl,e⟩
   .exact nomatch e
   .injection e with e1 _;rw[e1]
 byValue:=λk v h=>by
  rcases bx h with⟨i,t,rfl,rfl⟩|⟨x,t,rfl,rfl⟩<;>rfl
 pyHash:=λhv h=>by
  rcases bx hv with⟨i,t,rfl,rfl⟩|⟨x,t,rfl,rfl⟩
  .exact wpAny_pyHash_int h
  .exact wpAny_pyHash_str h
 eqBool:=λhu hv h=>by
  rcases bx hu with⟨i,t,rfl,rfl⟩|⟨x,t,rfl,rfl⟩
  .rcases bx hv with⟨j,u,rfl,rfl⟩|⟨y,u,rfl,rfl⟩
   .rw[Fv]at h;exact Zz h
   .rw[Fx]at h;exact SeqAt.EqAt.int_str i t y u _ _ _ _ h
  .rcases bx hv with⟨j,u,rfl,rfl⟩|⟨y,u,rfl,rfl⟩
   .rw[Fy]at h;exact SeqAt.EqAt.str_int x t j u _ _ _ _ h
   .rw[Fw]at h;exact wpAny_eqBool_str h
 «strs»:=λk x t v h=>by
  rcases bx h with⟨i,u,rfl,e⟩|⟨y,u,rfl,e⟩
  .exact nomatch e
  .injection e with e1 _
   subst e1
   cases v<;>rfl
def qr(prog:Program)(w:World)(i:Int)(t:Tok):(br prog w).is (.inl i) (.int i t)=true:=vY i t
def qt(prog:Program)(w:World)(x:Str)(t:Tok):(br prog w).is (.inr x) (.str x t)=true:=vZ x t
inductive V where
 |cy|bl (b:Bool)|int (i:Int)|str (x:Str)|JR (b:Array UInt8)|Og (b:UInt64)|ref (a:Addr)|ty (n:String)
 deriving DecidableEq
def RelV:V->Value->Prop
 | .cy,u=>u=Value.none
 | .bl b,u=>u=Value.bool b
 | .int i,u=>∃t,u=Value.int i t
 | .str x,u=>∃t,u=Value.str x t
 | .JR b,u=>∃t,u=Value.bytes b t
 | .Og b,u=>∃t,u=Value.float b t
 | .ref a,u=>u=Value.ref a
 | .ty n,u=>u=Value.type n
abbrev aL:List V->List Value->Prop:=Paired RelV
theorem aL.length(r:aL xs us):xs.length=us.length:=Y3 r
theorem aL.get:∀{xs:List V}{us:List Value}{i:Nat}{x:V},aL xs us->xs[i]?=some x->∃u,us[i]?=some u/\RelV x u
 |_,_,_,_,.nil,e=>by simp at e
 |_,_,0,_,.cons r _,e=>by simp at e;subst e;exact⟨_,rfl,r⟩
 |_,_,i+1,x,.cons _ t,e=>by
  exact aa (aL.get (i:=i) (x:=x) t (by simpa using e)) λu h1 h2=>⟨u,by simpa using h1,h2⟩
theorem aL.set(r:RelV x u):∀{xs:List V}{us:List Value} (i:Nat),aL xs us->aL (xs.set i x) (us.set i u)
 |_,_,_,.nil => .nil
 |_,_,0,.cons _ t=> .cons r t
 |_,_,i+1,.cons q t=> .cons q (aL.set r i t)
def aL.append:∀{xs ys:List V}{us ws:List Value},aL xs us->aL ys ws->aL (xs++ys) (us++ws):=λ{xs ys us ws} h s=>by
 induction h with
 |nil=>exact s
 |cons r t ih=>exact .cons r ih
theorem aL.take:∀{xs:List V}{us:List Value} (n:Nat),aL xs us->aL (xs.take n) (us.take n)
 |_,_,0,_=> .nil
 |_,_,_+1,.nil => .nil
 |_,_,n+1,.cons r t=> .cons r (aL.take n t)
theorem aL.drop:∀{xs:List V}{us:List Value} (n:Nat),aL xs us->aL (xs.drop n) (us.drop n)
 |_,_,0,r=>r
 |_,_,_+1,.nil => .nil
 |_,_,n+1,.cons _ t=>aL.drop n t
def mU:Option V->Option Value->Prop
 |some v,some u=>RelV v u
 |none,none=>True
 |_,_=>False
def KV{κ:Type}:List (κ×V)->List (κ×Value)->Prop:=Paired λ(p:κ×V) (q:κ×Value)=>p.1=q.1/\RelV p.2 q.2
noncomputable def kV:cU->V
 | .inl i=> .int i
 | .inr x=> .str x
inductive HO where
  |lst (xs:List V)
  |tup (xs:List V)
  |dK (ay:List (cU×V))|dT (ay:List (List cU×V))
  |set (S:Int->Bool) (n:Nat)
  |ins (C dx:Addr) (fs:List (Str×V))
  |own (x:Addr)
  |xd (fs:List (Str×V))
  |met (f x:Addr)
  |eK (lo hi:Int)
  |dH (o:Obj) (u:HO)
  |Fz (ps:Array Value)
  |ext (φ:Heap->Prop)
abbrev Hp:=Addr->Option HO
noncomputable def upd(H:Hp)(a:Addr)(o:HO):Hp:=λb=>if b=a then some o else H b
def ah:upd H a o a=some o:=by unfold upd;rw[Xl rfl]
def ak(h:b≠a):upd H a o b=H b:=by unfold upd;rw[Xs h]
def fR{H:Hp}{a b:Addr}{o u:HO}(h:H a=some o)(h':H b=some u)(d:o≠u):a≠b:=by
 intro e;subst e;rw[h]at h';exact d (Xn h')
def cc{H:Hp}{a b:Addr}{o:HO}(h:H a=some o)(h':H b=none):a≠b:=by
 intro e;subst e;rw[h]at h';cases h'
def iN(h:Heap)(a:Addr)(items:Array Value):Prop:=∃o,h.get? a=some o/\o.cls= .type "tuple"/\(∃n,o.data= .seq items n)/\o.dict=none
def iN.tup{h:Heap}{a:Addr}{items:Array Value}(x:iN h a items):IsTup h a items:=let ⟨o,e,c,d,_⟩:=x;⟨o,e,c,d⟩
def iN.lt{h:Heap}{a:Addr}{items:Array Value}(x:iN h a items):a<h.objs.size:=let ⟨_,ho,_⟩:=x;Xg ho
def iN.new(h:Heap)(items:Array Value):iN (h.push {cls:= .type "tuple",data:= .seq items}) h.objs.size items:=⟨_,Xe _ rfl,rfl,⟨_,rfl⟩,rfl⟩
section
variable (P:Program)(w:World)
def aZ(H:Hp)(h:Heap)(a:Addr):HO->Prop
 | .lst xs=>xs.length<=sizeLine/\∃(its:List Value) (n:Nat),aL xs its/\h.get? a=some {cls:= .type "list",data:= .seq its.toArray n}
 | .tup xs=>xs.length<=sizeLine/\∃its:List Value,aL xs its/\iN h a its.toArray
 | .dK ay=>ay.length<=sizeLine/\(a==sysModules)=false/\∃vs,KV ay vs/\h.DictOf (br P w) a vs
 | .dT ay=>ay.length<=sizeLine/\(a==sysModules)=false/\∃xs:List (List cU×Addr×Value),
   Paired (λ(p:List cU×V) (q:List cU×Addr×Value)=>p.1=q.1/\H q.2.1=some (.tup (p.1.map kV))/\RelV p.2 q.2.2) ay xs/\
   ∃o es ep,h.get? a=some o/\o.ExactDict/\o.data= .dict es ep/\es.toList=xs.map (entryOfKey (tupleKind (br P w)))/\(xs.map (·.1)).Nodup
 | .set S n=>h.SetOf (intKind P w) a S n
 | .ins C dx fs=>H dx=some (.own a)/\fs.length<=1000/\dx≠a/\h.get? a=some (PySem.W.instObj C dx)/\
   ∃mA,h.Ns1 dx mA/\(∀f,mU (fs.lookup f) (mA f))/\PySem.Within mA (fs.map (·.1))
 | .own _=>∃o,h.get? a=some o
 | .xd fs=>∃mA,h.Ns1 a mA/\∀f,mU (fs.lookup f) (mA f)
 | .eK lo hi=>∃t u v,h.get? a=some {cls:= .type "range",data:= .fields #[.int lo t,.int hi u,.int 1 v]}
 | .dH o u=>h.get? a=some o/\aZ H h a u
 | .Fz ps=>h.get? a=some {cls:= .none,data:= .fields ps}
 | .met f x=>h.get? a=some (PySem.W.methodObj (.ref f) (.ref x))
 | .ext φ=>φ h/\(∃o,h.get? a=some o)/\∀h1 h2:Heap,φ h1->(∀o,h1.get? a=some o->h2.get? a=some o)->φ h2
def iq(H:Hp)(h:Heap):Prop:=∀a o,H a=some o->aZ P w H h a o
end
section
variable {P:Program}{w:World}{H H':Hp}{h h':Heap}{a:Addr}{o:HO}
theorem aZ.lt(x:aZ P w H h a o):a<h.objs.size:=by
 cases o with
 |lst xs=>obtain⟨_,_,_,_,e⟩:=x;exact Xg e
 |tup xs=>obtain⟨_,_,_,p⟩:=x;exact p.lt
 |dK ay=>obtain⟨_,_,_,_,o,_,_,e,_⟩:=x;exact Xg e
 |dT ay=>obtain⟨_,_,_,_,o,_,_,e,_⟩:=x;exact Xg e
 |set S n=>obtain⟨o,_,_,_,e,_⟩:=x;exact Xg e
 |ins C dx fs=>obtain⟨_,_,_,e,_⟩:=x;exact Xg e
 |own y=>obtain⟨_,e⟩:=x;exact Xg e
 |xd fs=>obtain⟨_,⟨_,_,_,e,_⟩,_⟩:=x;exact Xg e
 |eK lo hi=>obtain⟨_,_,_,e⟩:=x;exact Xg e
 |dH ob u=>obtain⟨e,_⟩:=x;exact Xg e
 |Fz ps=>exact Xg (show h.get? a=some _ from x)
 |met f y=>exact Xg (show h.get? a=some _ from x)
 |ext φ=>obtain⟨_,⟨_,e⟩,_⟩:=x;exact Xg e
def Paired.JS:∀{FA:List α}{FC:List β},Paired F FA FC->(∀a b,F a b->G a b)->Paired G FA FC:=λ{FA FC} h f=>by
 induction h with
 |nil=>exact .nil
 |cons r t ih=>exact .cons (f _ _ r) ih
def aZ.mV(x:aZ P w H h a o)(k:∀b u,(b=a\/H b=some (.own a))->h.get? b=some u->h'.get? b=some u)
  (ho:∀b,H b=some (.own a)->H' b=some (.own a)) (ht:∀b xs,H b=some (.tup xs)->H' b=some (.tup xs)):aZ P w H' h' a o:=by
 induction o with
 |lst xs=>obtain⟨z,its,n,r,e⟩:=x;exact⟨z,its,n,r,k _ _ (.inl rfl) e⟩
 |tup xs=>obtain⟨z,its,r,ob,e,c⟩:=x;exact⟨z,its,r,ob,k _ _ (.inl rfl) e,c⟩
 |dK ay=>obtain⟨z,y,vs,r,ob,es,ep,e,c⟩:=x;exact⟨z,y,vs,r,ob,es,ep,k _ _ (.inl rfl) e,c⟩
 |dT ay=>
  obtain⟨z,y,xs,r,ob,es,ep,e,c⟩:=x
  exact⟨z,y,xs,Paired.JS r λp q z=>⟨z.1,ht _ _ z.2.1,z.2.2⟩,ob,es,ep,k _ _ (.inl rfl) e,c⟩
 |set S n=>obtain⟨ob,es,ep,t,e,c⟩:=x;exact⟨ob,es,ep,t,k _ _ (.inl rfl) e,c⟩
 |ins C dx fs=>
  obtain⟨d,z,ne,e,mA,⟨od,es,ep,e2,c⟩,r⟩:=x
  exact⟨ho _ d,z,ne,k _ _ (.inl rfl) e,mA,⟨od,es,ep,k _ _ (.inr d) e2,c⟩,r⟩
 |own y=>obtain⟨ob,e⟩:=x;exact⟨ob,k _ _ (.inl rfl) e⟩
 |xd fs=>obtain⟨mA,⟨od,es,ep,e,c⟩,r⟩:=x;exact⟨mA,⟨od,es,ep,k _ _ (.inl rfl) e,c⟩,r⟩
 |eK lo hi=>obtain⟨t,u,v,e⟩:=x;exact⟨t,u,v,k _ _ (.inl rfl) e⟩
 |dH ob u ih=>obtain⟨e,q⟩:=x;exact⟨k _ _ (.inl rfl) e,ih q⟩
 |Fz ps=>
  have e:h.get? a=some {cls:= .none,data:= .fields ps}:=x
  show h'.get? a=some {cls:= .none,data:= .fields ps}
  exact k a _ (.inl rfl) e
 |met f y=>
  have e:h.get? a=some (PySem.W.methodObj (.ref f) (.ref y)):=x
  show h'.get? a=some (PySem.W.methodObj (.ref f) (.ref y))
  exact k a _ (.inl rfl) e
 |ext φ=>obtain⟨p,⟨o,e⟩,st⟩:=x;exact⟨st _ _ p λo q=>k _ _ (.inl rfl) q,⟨o,k _ _ (.inl rfl) e⟩,st⟩
theorem iq.lt(x:iq P w H h)(e:H a=some o):a<h.objs.size:=(x a o e).lt
def iq.fresh(x:iq P w H h)(e:h.objs.size<=a):H a=none:=by
 cases q:H a with
 |none=>rfl
 |some u=>exact absurd (XC (x.lt q) e) (XS _)
def iq.kept(x:iq P w H h)(k:∀b u,h.get? b=some u->h'.get? b=some u):iq P w H h':=λa o e=>
 (x a o e).mV (λb u _ q=>k b u q) (λ_ q=>q) λ_ _ q=>q
def iq.laid(x:iq P w H h)(k:∀b u,h.get? b=some u->h'.get? b=some u)(hp:h.objs.size<=a)(new:aZ P w (upd H a o) h' a o):iq P w (upd H a o) h':=λb u e=>by
 have hn:=x.fresh hp
 by_cases hb:b=a
 .subst hb;rw[ah]at e;cases e;exact new
 .rw[ak hb]at e
  exact(x b u e).mV (λc v _ q=>k c v q) (λc q=>by rw[ak (cc q hn)];exact q) λc xs q=>by rw[ak (cc q hn)];exact q
end
def Rd(H:Hp)(a:Addr)(u:HO):Prop:=H a=some u\/∃o,H a=some (.dH o u)
def Rd.ok(r:Rd H a u)(x:iq P w H h):aZ P w H h a u:=by
 rcases r with r|⟨o,r⟩
 .exact x a u r
 .obtain⟨_,q⟩:=x a _ r
  exact q
def xK:Option HO->Prop
 |some (.lst _)=>True
 |some (.dK _)=>True
 |some (.dT _)=>True
 |some (.set _ _)=>True
 |some (.ins _ _ _)=>True
 |some (.ext _)=>True
 |_=>False
section
variable {P:Program}{w:World}{H:Hp}{h h':Heap}{x e:Addr}{o':HO}
def iq.write(ok:iq P w H h)(mu:xK (H x))(he:e=x\/H e=some (.own x))(k:∀b u,b≠e->h.get? b=some u->h'.get? b=some u)(Ek:∃u,h'.get? e=some u)
  (new:aZ P w (upd H x o') h' x o'):iq P w (upd H x o') h':=λb u q=>by
 have JT:∀c y,H c=some (.own y)->c≠x:=λc y r z=>by subst z;rw[r]at mu;exact mu
 have Oh:∀c xs,H c=some (.tup xs)->c≠x:=λc xs r z=>by subst z;rw[r]at mu;exact mu
 by_cases hb:b=x
 .subst hb;rw[ah]at q;cases q;exact new
 .rw[ak hb]at q
  by_cases Bk:b=e
  .have q':H b=some (.own x):=by
    rcases he with z|z
    .exact absurd (Bk.trans z) hb
    .rw[Bk];exact z
   rw[q]at q';cases q'
   obtain⟨v,hv⟩:=Ek
   exact⟨v,by rw[Bk];exact hv⟩
  .refine(ok b u q).mV (λc v hc r=>k c v ?_ r) (λc r=>by rw[ak (JT c b r)];exact r) λc xs r=>by rw[ak (Oh c xs r)];exact r
   rcases hc with rfl|hc
   .exact Bk
   .rintro rfl
    rcases he with z|z
    .exact JT c b hc z
    .rw[hc]at z;cases z;exact hb rfl
end
structure Un(fs ex:List Addr)(H H':Hp)(h h':Heap):Prop where
 keep:∀b o,h.get? b=some o->H b=none->b∉fs->b∉ex->h'.get? b=some o
 slot:∀b o,h.get? b=some o->H b=none->b∈fs->b∉ex->∃sl,h'.get? b=some {o with slots:=sl}
 free:∀b o,h.get? b=some o->H b=none->b∉ex->H' b=none
 there:∀b o,h.get? b=some o->b∉ex->∃o',h'.get? b=some o'
 oP:∀b xs,H b=some (.tup xs)->H' b=some (.tup xs)
 ir:∀b o u,H b=some (.dH o u)->H' b=some (.dH o u)
 oQ:∀b ps,H b=some (.Fz ps)->∃more,H' b=some (.Fz (ps++more))
section
variable {fs TR ex Ww:List Addr}{H H1 H2:Hp}{h h1 h2 h':Heap}{a x e:Addr}{o:HO}
def Un.any(u:Un fs ex H H1 h h1)(q:h.get? b=some ob)(n:H b=none)(hx:b∉ex):∃sl,h1.get? b=some {ob with slots:=sl}:=by
 by_cases hb:b∈fs
 .exact u.slot b ob q n hb hx
 .exact⟨ob.slots,u.keep b ob q n hb hx⟩
def Un.kept(k:∀b u,h.get? b=some u->h'.get? b=some u):Un fs ex H H h h':=
 ⟨λb ob q _ _ _=>k b ob q,λb ob q _ _ _=>⟨ob.slots,k b ob q⟩,λ_ _ _ n _=>n,λb ob q _=>⟨ob,k b ob q⟩,λ_ _ q=>q,λ_ _ _ q=>q,λ_ ps q=>⟨#[],by rw[q];simp⟩⟩
def Un.refl:Un fs ex H H h h:=Un.kept λ_ _ q=>q
def Un.laid(k:∀b u,h.get? b=some u->h'.get? b=some u)(hp:h.objs.size<=a)(hn:H a=none):Un fs ex H (upd H a o) h h' where
 keep:=λb u q _ _ _=>k b u q
 slot:=λb u q _ _ _=>⟨u.slots,k b u q⟩
 free:=λb u q n _=>by rw[ak (Xu (XC (Xg q) hp))];exact n
 there:=λb u q _=>⟨u,k b u q⟩
 oP:=λb xs q=>by rw[ak (cc q hn)];exact q
 ir:=λb u xs q=>by rw[ak (cc q hn)];exact q
 oQ:=λb ps q=>⟨#[],by rw[ak (cc q hn),q];simp⟩
def Un.write(mu:xK (H x))(he:e=x\/H e=some (.own x))(k:∀b u,b≠e->h.get? b=some u->h'.get? b=some u)(Ek:∃u,h'.get? e=some u):Un fs ex H (upd H x o) h h':=by
 have hx:∀b,H b=none->b≠x:=λb n z=>by subst z;rw[n]at mu;exact mu
 have hb:∀b,H b=none->b≠e:=λb n z=>by
  subst z
  rcases he with r|r
  .exact hx b n r
  .rw[n]at r;cases r
 have hm:∀b u,H b=some u->¬xK (some u)->b≠x:=λb u q nm z=>by subst z;rw[q]at mu;exact nm mu
 refine⟨λb u q n _ _=>k b u (hb b n) q,λb u q n _ _=>⟨u.slots,k b u (hb b n) q⟩,λb u q n _=>by rw[ak (hx b n)];exact n,λb u q _=>?_,
  λb xs q=>by rw[ak (hm b _ q λz=>z)];exact q,λb u xs q=>by rw[ak (hm b _ q λz=>z)];exact q,λb ps q=>⟨#[],by rw[ak (hm b _ q λz=>z),q];simp⟩⟩
 by_cases Bk:b=e
 .subst Bk;exact Ek
 .exact⟨u,k b u Bk q⟩
end
noncomputable def Nj(h:Heap)(H:Hp):List Addr:=(List.range h.objs.size).filter λa=>(H a).isSome
noncomputable def oS(h:Heap)(H:Hp):Heap:=PySem.W.hideAll h (Nj h H)
def v5(h:Heap)(H:Hp):(oS h H).objs.size =h.objs.size:=PySem.W.hideAll_size _ _
def xM(e:h.get? b=some o)(n:H b=none):(oS h H).get? b=some o:=
 PySem.W.hideAll_get _ e λhm=>by
  have q:(H b).isSome =true:=(X5.mp hm).2
  rw[n]at q;simp at q
def Bw(e:(oS h H).get? b=some o):h.get? b=some o/\H b=none:=by
 have e':h.get? b=some o:=PySem.W.of_hideAll (Nj h H) e
 refine⟨e',?_⟩
 cases q:H b with
 |none=>rfl
 |some x=>
  have hm:b∈Nj h H:=X5.mpr ⟨XH.mpr (Xg e'),by simp[q]⟩
  have z:(oS h H).get? b=none:=PySem.W.hideAll_none (Nj h H) hm
  rw[z]at e;cases e
structure Mod(K:PySem.W.Frag)(mg:Str->Option Value)(base:Heap):Prop where
 Nk:K.In base
 glob:base.Ns mainGlobals mg
 blt:∃mb,base.Ns builtinsNs mb/\∀x:Str,x≠"__name__"->mb x=bootBuiltins x
 nolimit:base.NoLimit
structure Cx where
 prog:Program
 w:World
 K:PySem.W.Frag
 mg:Str->Option Value
 base:Heap
 A:Around
 N:List Str
 s₀:Shared
 H₀:Hp
 env:Env
 outer:List Env
 stack:List Env
 ex:List Addr
 fn:Str->Bool
 calm:Bool
 pn:List (Addr×Obj)
 xe:Value->Shared->Prop
noncomputable def xN(l:List Env):List Addr:=l.filterMap (·.frame)
noncomputable abbrev Cx.fs(X:Cx):List Addr:=xN X.outer
def v8(sc:Scope)(x:Str):Prop:=sc.names.lookup x=some .local \/sc.names.lookup x=some .cell \/sc.names.lookup x=some .free
def Loc(sc:Scope)(x:Str):Prop:=sc.names.lookup x=some .local \/sc.names.lookup x=some .cell
def Look(env:Env)(h:Heap)(m:Str->Option Value)(x:Str)(u:Value):Prop:=
 (env.kindOf x=some .local /\m x=some u)\/((env.kindOf x=some .cell \/env.kindOf x=some .free)/\∃c,env.cells.lookup x=some c/\h.IsCell c (some u))
structure Cx.Ok(X:Cx):Prop where
 mod:Mod X.K X.mg X.base
 kind:X.env.scope.kind= .function
 glob:X.env.globals=mainGlobals
 blt:X.env.builtins=builtinsNs
 above:X.s₀.heap.objs.size<=X.env.locals
 inj:∀x y c,X.env.cells.lookup x=some c->X.env.cells.lookup y=some c->x=y
 has:∀x,(X.env.kindOf x=some .cell \/X.env.kindOf x=some .free)->∃c,X.env.cells.lookup x=some c
 JU:∀x c,X.fn x=true->X.env.cells.lookup x=some c->X.s₀.heap.objs.size<=c
 hd:X.calm=true->X.A.handled=none
 frames:X.A.frames=some X.stack
 Nl:X.stack=X.outer\/(X.stack=X.env::X.outer/\X.env.frame=some X.env.locals)
 RQ:∀b∈X.ex,b≠X.env.locals/\∀x c,X.env.cells.lookup x=some c->c≠b
 bs:∀b o,X.base.get? b=some o->X.s₀.heap.get? b=some o/\X.H₀ b=none
 xO:X.base.objs.size<=X.s₀.heap.objs.size
 xP:∀b o,X.base.get? b=some o->b∉X.ex
 Bx:∀b∈X.ex,b∉X.fs
 lz:X.s₀.heap.FunFrames X.base X.outer
 Jl:∀b∈X.fs,X.H₀ b=none
structure Inv(X:Cx)(U:List (Addr×Obj))(σ:List (Option V))(H:Hp)(s:Shared):Prop where
 ok:X.Ok
 os:s.os=X.s₀.os
 bare:AllBare s.gens
 base:Un X.fs X.ex X.H₀ H X.s₀.heap s.heap
 loc:∃m,s.heap.Ns X.env.locals m/\∀(i:Nat) (x:Str) (v:V),X.N[i]?=some x->σ[i]?=some (some v)->v8 X.env.scope x->∃u,RelV v u/\Look X.env s.heap m x u
 cell:∀x c,X.env.cells.lookup x=some c->∃v,s.heap.IsCell c v
 free:H X.env.locals=none
 fS:∀x c,X.env.cells.lookup x=some c->H c=none
 pin:∀p∈X.pn++U,s.heap.get? p.1=some p.2/\H p.1=none/\p.1≠X.env.locals/\p.1∉X.fs/\∀v,p.2.data≠ .cell v
 aW:iq X.prog X.w H s.heap
 len:σ.length=X.N.length
section
variable {X:Cx}{U:List (Addr×Obj)}{σ:List (Option V)}{H H':Hp}{s:Shared}{h':Heap}
def Cx.Ok.Oi(ok:X.Ok)(e:X.base.get? b=some o):b∉X.fs:=λhb=>by
 have:=(ok.lz.mem hb).1
 rw[e]at this;cases this
theorem Inv.bs(I:Inv X U σ H s):∀b o,X.base.get? b=some o->s.heap.get? b=some o/\H b=none:=λb o e=>
 ⟨I.base.keep b o (I.ok.bs b o e).1 (I.ok.bs b o e).2 (I.ok.Oi e) (I.ok.xP b o e),I.base.free b o (I.ok.bs b o e).1 (I.ok.bs b o e).2 (I.ok.xP b o e)⟩
def Inv.bk(I:Inv X U σ H s):∀b o,X.base.get? b=some o->s.heap.get? b=some o:=λb o e=>(I.bs b o e).1
theorem Inv.mod(I:Inv X U σ H s):Mod X.K X.mg X.base:=I.ok.mod
def Inv.El(I:Inv X U σ H s):X.K.In s.heap:=I.ok.mod.Nk.keeps I.bk
theorem Inv.lt(I:Inv X U σ H s):X.env.locals<s.heap.objs.size:=let ⟨_,hn,_⟩:=I.loc;hn.lt
def Inv.sz(I:Inv X U σ H s):X.s₀.heap.objs.size<=s.heap.objs.size:=XZ I.ok.above (ZQ I.lt)
def Inv.Oj(I:Inv X U σ H s)(h:s.heap.objs.size<=a):a∉X.fs:=λhb=>by
 obtain⟨_,o,ho,_⟩:=I.ok.lz.mem hb
 exact absurd (XC (Xg ho) (XZ I.sz h)) (XS _)
def Inv.FD(I:Inv X U σ H s):∀x c,X.env.cells.lookup x=some c->c≠X.env.locals:=λx c e z=>by
 refine ef (I.cell x c e) λv o ho hd=>?_
 obtain⟨m,⟨o',es,ep,FF,kM,_⟩,_⟩:=I.loc
 rw[z,FF]at ho;cases ho;rw[kM]at hd;cases hd
theorem Inv.lz(I:Inv X U σ H s):s.heap.FunFrames X.base X.outer:=by
 have all:∀(l:List Env),(∀b∈xN l,b∈X.fs)->X.s₀.heap.FunFrames X.base l->s.heap.FunFrames X.base l:=by
  intro l
  induction l with
  |nil=>intro _ _;trivial
  |cons env r ih=>
   intro hs hl
   refine aq λnO=>?_
   obtain⟨hk,⟨L,o,hf,hn,ho,hd⟩,hr⟩:=hl
   have hL:L∈X.fs:=hs L (by unfold xN;rw[ZI,hf];exact W6)
   obtain⟨sl,e⟩:=I.base.slot L o ho (I.ok.Jl L hL) hL λz=>I.ok.Bx L z hL
   exact nO<|⟨hk,⟨L,_,hf,hn,e,hd⟩,ih (λb hb=>hs b (by unfold xN;rw[ZI,hf];exact W4 _ hb)) hr⟩
 exact all X.outer (λ_ hb=>hb) I.ok.lz
theorem Inv.stack(I:Inv X U σ H s):s.heap.FunFrames X.base X.stack:=by
 rcases I.ok.Nl with e|⟨e,hf⟩
 .rw[e];exact I.lz
 .rw[e]
  refine aa I.loc λm hn _=> .cons (by rw[I.ok.kind];decide) hf hn ?_ I.lz
  exact Heap.get?_none_of_le (XZ I.ok.xO I.ok.above)
def Inv.lA(I:Inv X U σ H s):∀b∈xN X.stack,b∈X.env.locals::X.fs:=λb hb=>by
 rcases I.ok.Nl with e|⟨e,hf⟩
 .rw[e]at hb;exact W4 _ hb
 .rw[e]at hb
  unfold xN at hb
  rw[ZI,hf]at hb
  exact hb
def Inv.ui(I:Inv X U σ H s):∀b∈xN X.stack,H b=none:=λb hb=>by
 rcases Xc.mp (I.lA b hb)with e|hb
 .rw[e];exact I.free
 .obtain⟨_,o,ho,_⟩:=I.ok.lz.mem hb
  exact I.base.free b o ho (I.ok.Jl b hb) λz=>I.ok.Bx b z hb
def Inv.step{g':Array GenState}{t':Nat}{d':Drawn}{ch:List Addr}(I:Inv X U σ H s)
  (Bl:∀b∈ch,(b∈X.ex\/X.s₀.heap.objs.size<=b)/\b≠X.env.locals/\(∀x c,X.env.cells.lookup x=some c->c≠b)/\∀p∈X.pn++U,p.1≠b)
  (keep:∀b o,b≠X.env.locals->b∉X.fs->b∉ch->s.heap.get? b=some o->H b=none->h'.get? b=some o)
  (slot:∀b o,b≠X.env.locals->b∈X.fs->b∉ch->s.heap.get? b=some o->H b=none->∃sl,h'.get? b=some {o with slots:=sl}) (free:∀b o,b∉ch->s.heap.get? b=some o->H b=none->H' b=none)
  (there:∀b o,b∉ch->s.heap.get? b=some o->∃o',h'.get? b=some o')
  (oP:∀b xs,H b=some (.tup xs)->H' b=some (.tup xs)) (ir:∀b o u,H b=some (.dH o u)->H' b=some (.dH o u)) (oQ:∀b ps,H b=some (.Fz ps)->∃more,H' b=some (.Fz (ps++more)))
  (ns:∀m,s.heap.Ns X.env.locals m->h'.Ns X.env.locals m) (aW:iq X.prog X.w H' h') (hg:AllBare g'):
  Inv X U σ H' {s with heap:=h',gens:=g',drawn:=d',toks:=t'}:=by
 have RS:∀b o,X.s₀.heap.get? b=some o->b≠X.env.locals:=λb o e=>Xu (XC (Xg e) I.ok.above)
 have Nm:∀b o,X.s₀.heap.get? b=some o->b∉X.ex->b∉ch:=λb o e hx hb=>by
  rcases (Bl b hb).1 with z|z
  .exact hx z
  .exact absurd (XC (Xg e) z) (XS _)
 have cellK:∀x c,X.env.cells.lookup x=some c->∀v,s.heap.IsCell c v->h'.IsCell c v:=λx c e v zz=>by
  refine aa zz λo ho hd=>?_
  have JV:c∉ch:=λz=>(Bl c z).2.2.1 x c e rfl
  by_cases hc:c∈X.fs
  .obtain⟨sl,q⟩:=slot c o (I.FD x c e) hc JV ho (I.fS x c e)
   exact⟨_,q,hd⟩
  .exact⟨o,keep c o (I.FD x c e) hc JV ho (I.fS x c e),hd⟩
 refine⟨I.ok,I.os,hg,⟨λb o e n hb hx=>?_,λb o e n hb hx=>?_,λb o e n hx=>?_,λb o e hx=>?_,λb xs e=>oP b xs (I.base.oP b xs e),λb o xs e=>ir b o xs (I.base.ir b o xs e),λb ps e=>?_⟩,?_,λx c e=>?_,?_,λx c e=>?_,λp hp=>?_,aW,I.len⟩
 .exact keep b o (RS b o e) hb (Nm b o e hx) (I.base.keep b o e n hb hx) (I.base.free b o e n hx)
 .obtain⟨sl,e1⟩:=I.base.slot b o e n hb hx
  obtain⟨TU,e2⟩:=slot b _ (RS b o e) hb (Nm b o e hx) e1 (I.base.free b o e n hx)
  exact⟨TU,e2⟩
 .obtain⟨o',e1⟩:=I.base.there b o e hx
  exact free b o' (Nm b o e hx) e1 (I.base.free b o e n hx)
 .obtain⟨o',e1⟩:=I.base.there b o e hx
  exact there b o' (Nm b o e hx) e1
 .obtain⟨m1,e1⟩:=I.base.oQ b ps e
  obtain⟨m2,e2⟩:=oQ b _ e1
  exact⟨m1++m2,by rw[e2,Array.append_assoc]⟩
 .refine aa I.loc λm hn hl=>⟨m,ns m hn,λi x v e1 e2 e3=>?_⟩
  refine aa (hl i x v e1 e2 e3) λu r l=>⟨u,r,?_⟩
  rcases l with l|⟨k,c,e,z⟩
  .exact .inl l
  .exact .inr ⟨k,c,e,cellK x c e _ z⟩
 .obtain⟨v,z⟩:=I.cell x c e
  exact⟨v,cellK x c e v z⟩
 .obtain⟨m,⟨o,_,_,ho,_⟩,_⟩:=I.loc
  exact free _ o (λz=>(Bl _ z).2.1 rfl) ho I.free
 .exact ef (I.cell x c e) λv o ho hd=>free c o (λz=>(Bl c z).2.2.1 x c e rfl) ho (I.fS x c e)
 .refine JM (I.pin p hp) λe n ne nf d=>?_
  have JV:p.1∉ch:=λz=>(Bl p.1 z).2.2.2 p hp rfl
  exact⟨keep p.1 p.2 ne nf JV e n,free p.1 p.2 JV e n,ne,nf,d⟩
def Inv.un{t':Nat}(I:Inv X U σ H s)(u:Un X.fs [] H H' s.heap h')(aW:iq X.prog X.w H' h'):Inv X U σ H' {s with heap:=h',toks:=t'}:=by
 refine aq λnO=>?_
 obtain⟨m,⟨o,es,ep,ho,r⟩,_⟩:=id I.loc
 obtain⟨sl,hL⟩:=u.any ho I.free (by simp)
 refine nO ?_
 exact I.step (g':=s.gens) (d':=s.drawn) (ch:=[]) (λ_ z=>nomatch z) (λb o _ hb _ e n=>u.keep b o e n hb (by simp)) (λb o _ hb _ e n=>u.slot b o e n hb (by simp)) (λb o _ e n=>u.free b o e n (by simp)) (λb o _ e=>u.there b o e (by simp)) u.oP u.ir u.oQ (λm' hm=>by
  refine aq λnO=>kC hm λo' By FG FF r'=>nO ?_
  rw[ho]at FF;cases FF
  exact⟨_,By,FG,hL,r'⟩) aW I.bare
def Inv.call{g':Array GenState}{t':Nat}{d':Drawn}{ch:List Addr}(I:Inv X U σ H s)(u:Un (xN X.stack) ch H H' s.heap h')(aW:iq X.prog X.w H' h')(hg:AllBare g')
  (Bl:∀b∈ch,(b∈X.ex\/X.s₀.heap.objs.size<=b)/\b≠X.env.locals/\(∀x c,X.env.cells.lookup x=some c->c≠b)/\∀p∈X.pn++U,p.1≠b):
  Inv X U σ H' {s with heap:=h',gens:=g',drawn:=d',toks:=t'}:=by
 refine aq λnO=>?_
 obtain⟨m,⟨o,es,ep,ho,r⟩,_⟩:=id I.loc
 obtain⟨sl,hL⟩:=u.any ho I.free λz=>(Bl _ z).2.1 rfl
 refine nO ?_
 exact I.step (ch:=ch) Bl (λb o hL hb hc e n=>u.keep b o e n (λz=>(Xc.mp (I.lA b z)).elim hL hb) hc) (λb o _ _ hc e n=>u.any e n hc) (λb o hc e n=>u.free b o e n hc) (λb o hc e=>u.there b o e hc) u.oP u.ir u.oQ (λm' hm=>by
  refine aq λnO=>kC hm λo' By FG FF r'=>nO ?_
  rw[ho]at FF;cases FF
  exact⟨_,By,FG,hL,r'⟩) aW hg
def Inv.turned{t':Nat}{it:Addr}(I:Inv X U σ H s)(k:∀b o,b≠it->s.heap.get? b=some o->h'.get? b=some o)(hn:H it=none)(hL:it≠X.env.locals)
  (h1:it∈X.ex\/X.s₀.heap.objs.size<=it) (h2:∀x c,X.env.cells.lookup x=some c->c≠it) (h3:∀p∈X.pn++U,p.1≠it):Inv X U σ H {s with heap:=h',toks:=t'}:=by
 have JW:∀b u,H b=some u->b≠it:=λb u e z=>by rw[z,hn]at e;cases e
 refine I.step (g':=s.gens) (d':=s.drawn) (ch:=[it]) (λb hb=>?_) (λb o _ _ hc e _=>k b o (λz=>hc (by simp[z])) e) (λb o _ _ hc e _=>⟨o.slots,k b o (λz=>hc (by simp[z])) e⟩) (λ_ _ _ _ n=>n)
  (λb o hc e=>⟨o,k b o (λz=>hc (by simp[z])) e⟩) (λ_ _ e=>e) (λ_ _ _ e=>e) (λb ps e=>⟨#[],by rw[e];simp⟩) (λm hm=>?_) (λb u e=>?_) I.bare
 .have e:b=it:=by simpa using hb
  subst e
  exact⟨h1,hL,h2,h3⟩
 .exact kC hm λo es ep ho r=>⟨o,es,ep,k _ o (XY hL) ho,r⟩
 .refine(I.aW b u e).mV (λc v hc q=>k c v ?_ q) (λ_ q=>q) λ_ _ q=>q
  rcases hc with z|z
  .rw[z];exact JW b u e
  .exact JW c _ z
def Inv.tok(I:Inv X U σ H s)(t:Nat):Inv X U σ H {s with toks:=t}:=I.un (h':=s.heap) (t':=t) Un.refl I.aW
theorem Inv.kept(I:Inv X U σ H s)(k:∀b u,s.heap.get? b=some u->h'.get? b=some u):Inv X U σ H {s with heap:=h',toks:=t'}:=I.un (Un.kept k) (I.aW.kept k)
theorem Inv.laid(I:Inv X U σ H s)(k:∀b u,s.heap.get? b=some u->h'.get? b=some u)(hp:s.heap.objs.size<=a)(new:aZ X.prog X.w (upd H a o) h' a o):
  Inv X U σ (upd H a o) {s with heap:=h',toks:=t'}:=I.un (Un.laid k hp (I.aW.fresh hp)) (I.aW.laid k hp new)
theorem Inv.write(I:Inv X U σ H s)(mu:xK (H x))(he:e=x\/H e=some (.own x))(k:∀b u,b≠e->s.heap.get? b=some u->h'.get? b=some u)(Ek:∃u,h'.get? e=some u)
  (new:aZ X.prog X.w (upd H x o) h' x o):Inv X U σ (upd H x o) {s with heap:=h',toks:=t'}:=I.un (Un.write mu he k Ek) (I.aW.write mu he k Ek new)
def Inv.weak(I:Inv X U σ H s)(hl:bY.length=σ.length)(w:∀(i:Nat) v,bY[i]?=some (some v)->σ[i]?=some (some v)):Inv X U bY H s:=
 ⟨I.ok,I.os,I.bare,I.base,let ⟨m,hn,v_⟩:=I.loc;⟨m,hn,λi x v e1 e2 e3=>v_ i x v e1 (w i v e2) e3⟩,I.cell,I.free,I.fS,I.pin,I.aW,hl.trans I.len⟩
def Inv.uj(I:Inv X U σ H s)(h:∀p∈JX,s.heap.get? p.1=some p.2/\H p.1=none/\p.1≠X.env.locals/\p.1∉X.fs/\∀v,p.2.data≠ .cell v):Inv X JX σ H s:=
 ⟨I.ok,I.os,I.bare,I.base,I.loc,I.cell,I.free,I.fS,λp hp=>(Xk.mp hp).elim (λz=>I.pin p (Xp _ z)) (h p),I.aW,I.len⟩
def qu{N:List Str}(hN:N.Nodup){i j:Nat}{x:Str}(a:N[i]?=some x)(b:N[j]?=some x):i=j:=by
 obtain⟨h1,e1⟩:=Xf.mp a
 obtain⟨h2,e2⟩:=Xf.mp b
 exact(List.getElem_inj hN).mp (e1.trans e2.symm)
def nJ{M:Model}{A:Around}{E:Value->Shared->Prop}{i:Nat}{x:Str}{v:V}{u:Value}{Q:Unit->Shared->Prop}(I:Inv X U σ H s)(hN:X.N.Nodup)(hi:X.N[i]?=some x)(hx:Loc X.env.scope x)(r:RelV v u)
  (h:∀s',Inv X U (σ.set i (some v)) H s'->(∃a,Heap.SameBut a s.heap s'.heap/\(a=X.env.locals\/X.env.cells.lookup x=some a))->Q () s') (hf:X.fn x=true\/X.env.scope.names.lookup x=some .local :=by first|exact .inl rfl|exact .inr rfl|assumption):wpAny M A (storeName X.env x u) Q E s:=by
 obtain⟨m,hn,hl⟩:=id I.loc
 have Ol:(X.env.scope.kind == .class||(X.env.scope.kind == .module&&X.env.locals !=X.env.globals))=false:=by rw[I.ok.kind];rfl
 have JY:i<σ.length:=by rw[I.len];exact(Xf.mp hi).1
 have FD:=I.FD
 have tracked:∀{a:Addr}{h':Heap},(∃o,s.heap.get? a=some o/\H a=none)->Heap.SameBut a s.heap h'->iq X.prog X.w H h':=λ{a h'} ha hs b ob e=>by
  obtain⟨_,_,Em⟩:=ha
  refine(I.aW b ob e).mV (λc w' hc q=>(hs.2 c ?_).trans q) (λ_ q=>q) λ_ _ q=>q
  rintro rfl
  rcases hc with rfl|hc
  .rw[Em]at e;cases e
  .rw[Em]at hc;cases hc
 rcases hx with hk|hk
 .refine wpAny_storeName_local hk hn (λh' TV hs=>?_) Ol
  refine aq λnO=>?_
  obtain⟨oL,_,_,Bz,_⟩:=id hn
  refine nO ?_
  refine h _ ⟨I.ok,I.os,I.bare,⟨λb o e n hb hx=>?_,λb o e n hb hx=>?_,I.base.free,λb o e hx=>?_,I.base.oP,I.base.ir,I.base.oQ⟩,⟨_,TV,λj y v' e1 e2 e3=>?_⟩,λy c e=>?_,I.free,I.fS,λp hp=>?_,tracked ⟨oL,Bz,I.free⟩ hs,by simpa using I.len⟩ ⟨_,hs,.inl rfl⟩
  .exact(hs.2 b (Xu (XC (Xg e) I.ok.above))).trans (I.base.keep b o e n hb hx)
  .obtain⟨sl,e1⟩:=I.base.slot b o e n hb hx
   exact⟨sl,(hs.2 b (Xu (XC (Xg e) I.ok.above))).trans e1⟩
  .obtain⟨o',e1⟩:=I.base.there b o e hx
   exact⟨o',(hs.2 b (Xu (XC (Xg e) I.ok.above))).trans e1⟩
  .by_cases hj:j=i
   .subst hj
    rw[hi]at e1;cases e1
    rw[Xo JY]at e2
    cases e2
    exact⟨u,r,.inl ⟨hk,by simp⟩⟩
   .rw[Xq (XY hj)]at e2
    obtain⟨u',r',q⟩:=hl j y v' e1 e2 e3
    refine⟨u',r',?_⟩
    rcases q with⟨k,e⟩|⟨k,c,e,z⟩
    .refine .inl ⟨k,?_⟩
     have:y≠x:=λe=>hj (qu hN e1 (e▸hi))
     simp[this,e]
    .exact .inr ⟨k,c,e,z.sameBut hs (FD y c e)⟩
  .obtain⟨w',z⟩:=I.cell y c e
   exact⟨w',z.sameBut hs (FD y c e)⟩
  .refine aq λnO=>?_
   obtain⟨e,n,ne,nf,d⟩:=I.pin p hp
   exact nO<|⟨(hs.2 p.1 ne).trans e,n,ne,nf,d⟩
 .have Om:X.fn x=true:=by
   rcases hf with z|z
   .exact z
   .rw[z]at hk;cases hk
  obtain⟨c,hc⟩:=I.ok.has x (.inl hk)
  obtain⟨w',z⟩:=I.cell x c hc
  refine wpAny_storeName_cell I.ok.kind hk hc z (λh' kN hs=>?_)
  obtain⟨oc,RT,Oo⟩:=id z
  refine h {s with heap:=h'} ⟨I.ok,I.os,I.bare,⟨λb o e n hb hx=>?_,λb o e n hb hx=>?_,I.base.free,λb o e hx=>?_,I.base.oP,I.base.ir,I.base.oQ⟩,⟨m,hn.sameBut hs (XY (FD x c hc)),λj y v' e1 e2 e3=>?_⟩,λy c' e=>?_,I.free,I.fS,λp hp=>?_,tracked ⟨oc,RT,I.fS x c hc⟩ hs,by simpa using I.len⟩ ⟨c,hs,.inr hc⟩
  .exact(hs.2 b (Xu (XC (Xg e) (I.ok.JU x c Om hc)))).trans (I.base.keep b o e n hb hx)
  .obtain⟨sl,e1⟩:=I.base.slot b o e n hb hx
   exact⟨sl,(hs.2 b (Xu (XC (Xg e) (I.ok.JU x c Om hc)))).trans e1⟩
  .obtain⟨o',e1⟩:=I.base.there b o e hx
   exact⟨o',(hs.2 b (Xu (XC (Xg e) (I.ok.JU x c Om hc)))).trans e1⟩
  .by_cases hj:j=i
   .subst hj
    rw[hi]at e1;cases e1
    rw[Xo JY]at e2
    cases e2
    exact⟨u,r,.inr ⟨.inl hk,c,hc,kN⟩⟩
   .rw[Xq (XY hj)]at e2
    obtain⟨u',r',q⟩:=hl j y v' e1 e2 e3
    refine⟨u',r',?_⟩
    rcases q with q|⟨k,c',e,z'⟩
    .exact .inl q
    .refine .inr ⟨k,c',e,z'.sameBut hs ?_⟩
     rintro rfl
     exact hj (qu hN e1 (I.ok.inj _ _ _ e hc▸hi))
  .by_cases RU:c'=c
   .subst RU;exact⟨_,kN⟩
   .obtain⟨w2,z2⟩:=I.cell y c' e
    exact⟨w2,z2.sameBut hs RU⟩
  .refine aq λnO=>?_
   obtain⟨e,n,ne,nf,d⟩:=I.pin p hp
   refine nO ?_
   refine⟨(hs.2 p.1 ?_).trans e,n,ne,nf,d⟩
   intro q
   rw[q,RT]at e
   have q':oc=p.2:=Xn e
   exact d w' (by rw[<-q'];exact Oo)
def qv(I:Inv X U σ H s)(hN:X.N.Nodup)(hi:X.N[i]?=some x)(hx:Loc X.env.scope x)(r:RelV v u)
  (h:∀s',Inv X U (σ.set i (some v)) H s'->Q () s') (hf:X.fn x=true\/X.env.scope.names.lookup x=some .local :=by first|exact .inl rfl|exact .inr rfl|assumption):wpAny M A (storeName X.env x u) Q E s:=
 nJ I hN hi hx r (λs' I' _=>h s' I') hf
def Inv.JZ(I:Inv X U σ H s)(ho:s'.os=s.os)(u:Un (xN X.stack) ch H H' s.heap s'.heap)(aW:iq X.prog X.w H' s'.heap)(hg:AllBare s'.gens)
  (Bl:∀b∈ch,(b∈X.ex\/X.s₀.heap.objs.size<=b)/\b≠X.env.locals/\(∀x c,X.env.cells.lookup x=some c->c≠b)/\∀p∈X.pn++U,p.1≠b):Inv X U σ H' s':=by
 obtain⟨h',g',d',t',o'⟩:=s'
 have e:o'=s.os:=ho
 subst e
 exact I.call (g':=g') (t':=t') (d':=d') u aW hg Bl
end
abbrev XK:=Value->Option Addr->Hp->Prop
abbrev St:=List (Option V)
abbrev VK:=V->Hp->Prop
abbrev TE:=St->Hp->VK->Prop
abbrev TT:=St->Hp->(Bool->Hp->Prop)->Prop
abbrev TA:=St->Hp->(List V->Hp->Prop)->Prop
structure xQ where
 nx:St->Hp->Prop
 rt:VK
 bk:St->Hp->Prop:=λ_ _=>False
 ct:St->Hp->Prop:=λ_ _=>False
abbrev TS:=xQ->St->Hp->Prop
def EP(X:Cx)(U:List (Addr×Obj))(σ:St)(Q:VK)(u:Value)(s':Shared):Prop:=∃v H',Inv X U σ H' s'/\RelV v u/\Q v H'
def TP(X:Cx)(U:List (Addr×Obj))(σ:St)(Q:Bool->Hp->Prop)(b:Bool)(s':Shared):Prop:=∃H',Inv X U σ H' s'/\Q b H'
def AP(X:Cx)(U:List (Addr×Obj))(σ:St)(Q:List V->Hp->Prop)(us:List Value)(s':Shared):Prop:=∃vs H',Inv X U σ H' s'/\aL vs us/\Q vs H'
def SP(X:Cx)(U:List (Addr×Obj))(D:xQ)(f:Flow)(s':Shared):Prop:=
 match f with
 | .next =>∃bY H',Inv X U bY H' s'/\D.nx bY H'
 | .brk =>∃bY H',Inv X U bY H' s'/\D.bk bY H'
 | .cont =>∃bY H',Inv X U bY H' s'/\D.ct bY H'
 | .ret u=>∃v bY H',Inv X U bY H' s'/\RelV v u/\D.rt v H'
def PE(X:Cx)(e:Expr)(t:TE):Prop:=
 ∀(U:List (Addr×Obj)) (s:Shared) (σ:St) (H:Hp) (Q:VK),Inv X U σ H s->t σ H Q->wpAny (model X.prog X.w) X.A (eval e X.env) (EP X U σ Q) X.xe s
def PT(X:Cx)(e:Expr)(t:TT):Prop:=
 ∀(U:List (Addr×Obj)) (s:Shared) (σ:St) (H:Hp) (Q:Bool->Hp->Prop),Inv X U σ H s->t σ H Q->wpAny (model X.prog X.w) X.A (isTrue e X.env (eval e X.env)) (TP X U σ Q) X.xe s
def PW(X:Cx)(e:Expr)(t:TT):Prop:=
 ∀(whole:Sem Value) (U:List (Addr×Obj)) (s:Shared) (σ:St) (H:Hp) (Q:Bool->Hp->Prop),Inv X U σ H s->t σ H Q->wpAny (model X.prog X.w) X.A (isTrue e X.env whole) (TP X U σ Q) X.xe s
def PW.pt(h:PW X e t):PT X e t:=h _
def PA(X:Cx)(es:List Expr)(t:TA):Prop:=
 ∀(pos:Pos) (U:List (Addr×Obj)) (s:Shared) (σ:St) (H:Hp) (Q:List V->Hp->Prop),Inv X U σ H s->t σ H Q->wpAny (model X.prog X.w) X.A (spliced (backTo pos (starEach es X.env))) (AP X U σ Q) X.xe s
def PS(X:Cx)(st:Stmt)(t:TS):Prop:=
 ∀(U:List (Addr×Obj)) (s:Shared) (σ:St) (H:Hp) (D:xQ),Inv X U σ H s->t D σ H->wpAny (model X.prog X.w) X.A (exec st X.env) (SP X U D) X.xe s
def kO(X:Cx)(st:List Stmt)(t:TS):Prop:=
 ∀(U:List (Addr×Obj)) (s:Shared) (σ:St) (H:Hp) (D:xQ),Inv X U σ H s->t D σ H->wpAny (model X.prog X.w) X.A (execs st X.env) (SP X U D) X.xe s
def bG(h:wpAny M A t Q E s)(hQ:∀a s,Q a s->Q' a s):wpAny M A t Q' E s:=Yo h hQ λ_ _ x=>x
section
variable {X:Cx}
def dn(i:Nat):TE:=λσ H Q=>∃v,σ[i]?=some (some v)/\Q v H
def tC(v:V):TE:=λ_ H Q=>Q v H
def bQ(hN:X.N[i]?=some x)(hv:v8 X.env.scope x)(hd:(x==("__debug__":Str))=false:=by decide)(xR:(x==("__classdict__":Str))=false:=by decide):PE X (.Name x pos) (dn i):=by
 intro U s σ H Q I h
 refine aa h λv e h=>aa I.loc λm hn hl=>aa (hl i x v hN e hv) λu r l=>?_
 have fin:EP X U σ Q u s:=⟨v,H,I,r,h⟩
 rcases l with⟨hk,hm⟩|⟨hk,c,hc,uk⟩
 .exact wpAny_Name (wpAny_loadName_local I.ok.kind hk hn hm fin) hd
 .rcases hk with hk|hk
  .exact wpAny_Name (wpAny_loadName_cell I.ok.kind hk hc uk fin) hd
  .exact wpAny_Name (wpAny_loadName_free I.ok.kind hk hc uk fin xR) hd
def FH:PE X (.Constant (.int i) j pos) (tC (.int i)):=λ_ _ _ H _ I h=>wpAny_Constant_int ⟨.int i,H,I.tok _,⟨_,rfl⟩,h⟩
def J0:PE X (.Constant (.bool b) j pos) (tC (.bl b)):=λ_ _ _ H _ I h=>Constant_bool ⟨.bl b,H,I,rfl,h⟩
def FI:PE X (.Constant .none j pos) (tC .cy):=λ_ _ _ H _ I h=>Constant_none ⟨.cy,H,I,rfl,h⟩
def Gl(X:Cx)(x:Str):Prop:=X.env.kindOf x=some .globalImplicit
def oT(I:Inv X U σ H s)(hg:Gl X x)(hm:X.mg x=some u)(h:Q u s)
  (hd:(x==("__debug__":Str))=false:=by decide):wpAny (model X.prog X.w) X.A (eval (.Name x pos) X.env) Q E s:=
 ZN I.ok.kind hg (Calls.loadGlobal_global (by rw[I.ok.glob];exact I.mod.glob.keeps I.bk) hm h) hd
def iu(I:Inv X U σ H s)(hg:Gl X x)(hm:X.mg x=none)(hv:bootBuiltins x=some u)(h:Q u s)
  (hn:x≠"__name__":=by decide) (hd:(x==("__debug__":Str))=false:=by decide):wpAny (model X.prog X.w) X.A (eval (.Name x pos) X.env) Q E s:=by
 exact aa I.mod.blt λmb h1 h2=>ZN I.ok.kind hg (Calls.loadGlobal_builtin (by rw[I.ok.glob];exact I.mod.glob.keeps I.bk) hm (by rw[I.ok.blt];exact h1.keeps I.bk) ((h2 x hn).trans hv) h) hd
def BA(hg:Gl X x)(hm:X.mg x=some u)(r:RelV v u)(hd:(x==("__debug__":Str))=false:=by decide):PE X (.Name x pos) (tC v):=
 λ_ _ _ H _ I h=>oT I hg hm ⟨v,H,I,r,h⟩ hd
def BB(hg:Gl X x)(hm:X.mg x=none)(hv:bootBuiltins x=some u)(r:RelV v u)(hn:x≠"__name__":=by decide)(hd:(x==("__debug__":Str))=false:=by decide):PE X (.Name x pos) (tC v):=
 λ_ _ _ H _ I h=>iu I hg hm hv ⟨v,H,I,r,h⟩ hn hd
variable {a b:Expr}{ta tb:TE}{pos:Pos}
def PC(X:Cx)(op:CmpOp)(a b:Expr)(t:TE):Prop:=
 ∀(U:List (Addr×Obj)) (s:Shared) (σ:St) (H:Hp) (Q:VK),Inv X U σ H s->t σ H Q->
  wpAny (model X.prog X.w) X.A (eval a X.env) (λv bg=>wpAny (model X.prog X.w) X.A (eval b X.env) (λu lB=>wpAny (model X.prog X.w) X.A (compareOp op v u) (EP X U σ Q) X.xe lB) X.xe bg) X.xe s
def tB(t:TE):TT:=λσ H Q=>t σ H λx H1=>∃c,x= .bl c/\Q c H1
def FJ(h:PC X op a b t)(h1:behindInMarks op b=false:=by first|exact xS _ (by decide) (by decide)|rfl):PE X (.Compare a [op] [b] pos) t:=λU s σ H Q I hw=>wpAny_Compare1 (h U s σ H Q I hw) h1
def FK(h:PC X op a b t)(h1:behindInMarks op b=false:=by first|exact xS _ (by decide) (by decide)|rfl):PT X (.Compare a [op] [b] pos) (tB t):=by
 intro U s σ H Q I hw
 refine wpAny_isTrue_Compare1 (bG (h U s σ H _ I hw) λv s1 h1=>bG h1 λu s2 h2=>bG h2 λc s3 zz=>bu zz λx H1 I1 r1 q1=>?_) h1
 refine aa q1 λd ag q=>?_
 try clear q1
 subst ag
 cases r1
 exact Yf ⟨H1,I1,q⟩
def FL(h:PE X e t)(he:∀whole,isTrue e X.env whole=(do let v<-whole;standAt e.pos;holding [v] (truthy v)):=by intro _;rfl):PT X e (tB t):=by
 intro U s σ H Q I hw
 refine isTrue_plain (bG (h U s σ H _ I hw) λv s1 ⟨x,H1,I1,r1,q1⟩=>?_) (he _)
 refine aa q1 λd ag q=>?_
 try clear q1
 subst ag
 cases r1
 exact Yf ⟨H1,I1,q⟩
variable {tA Nn:TT}{bO:List Expr}
def J3(t u:TT):TT:=λσ H Q=>t σ H λc H1=>if c=true then u σ H1 Q else Q false H1
def TX(t u:TT):TT:=λσ H Q=>t σ H λc H1=>if c=true then Q true H1 else u σ H1 Q
def Oq(t:TT):TT:=λσ H Q=>t σ H λc H1=>Q (!c) H1
def BC(ha:PT X a tA):PW X (.BoolOp .And [a] pos) tA:=by
 intro wh U s σ H Q I h
 refine isTrue_and (bG (ha U s σ H Q I h) λc s1 e=>?_)
 cases c with
 |true=>exact isTrue_and_nil e
 |false=>exact e
def FN(ha:PT X a tA):PW X (.BoolOp .Or [a] pos) tA:=by
 intro wh U s σ H Q I h
 refine isTrue_or (bG (ha U s σ H Q I h) λc s1 e=>?_)
 cases c with
 |false=>exact isTrue_or_nil e
 |true=>exact e
def FO(ha:PT X a tA)(hb:PW X (.BoolOp .And (b::bO) pos) Nn):PW X (.BoolOp .And (a::b::bO) pos) (J3 tA Nn):=by
 intro wh U s σ H Q I h
 refine isTrue_and (bG (ha U s σ H _ I h) λc s1 zz=>?_)
 refine aa zz λH1 I1 q1=>?_
 cases c with
 |true=>exact hb wh U s1 σ H1 Q I1 q1
 |false=>exact⟨H1,I1,q1⟩
def J_(ha:PT X a tA)(hb:PW X (.BoolOp .Or (b::bO) pos) Nn):PW X (.BoolOp .Or (a::b::bO) pos) (TX tA Nn):=by
 intro wh U s σ H Q I h
 refine isTrue_or (bG (ha U s σ H _ I h) λc s1 zz=>?_)
 refine aa zz λH1 I1 q1=>?_
 cases c with
 |true=>exact⟨H1,I1,q1⟩
 |false=>exact hb wh U s1 σ H1 Q I1 q1
def FP(ha:PT X a tA):PT X (.UnaryOp .Not a pos) (Oq tA):=by
 intro U s σ H Q I h
 exact isTrue_not (ha U s σ H (λc H1=>Q (!c) H1) I h)
def J'(ta tb:TE):TE:=λσ H Q=>ta σ H λx H1=>∃c,x= .bl c/\if c=true then tb σ H1 Q else Q (.bl false) H1
def Ot(ta tb:TE):TE:=λσ H Q=>ta σ H λx H1=>∃c,x= .bl c/\if c=true then Q (.bl true) H1 else tb σ H1 Q
def Ka(ta:TE):TE:=λσ H Q=>ta σ H λx H1=>∃c,x= .bl c/\Q (.bl (!c)) H1
def FQ(h:PE X a t):PE X (.BoolOp op [a] pos) t:=λU s σ H Q I hw=>BoolOp_one (h U s σ H Q I hw)
def FR(ha:PE X a ta)(hb:PE X (.BoolOp .And (b::bO) pos) tb):PE X (.BoolOp .And (a::b::bO) pos) (J' ta tb):=by
 intro U s σ H Q I h
 refine BoolOp_and (bG (ha U s σ H _ I h) λv s1 zz=>?_)
 refine aq λnO=>?_
 obtain⟨x,H1,I1,r1,q1⟩:=zz
 obtain⟨c,rfl,q1⟩:=q1
 cases r1
 refine nO<|Yf ?_
 cases c with
 |true=>exact hb U s1 σ H1 Q I1 q1
 |false=>exact⟨.bl false,H1,I1,rfl,q1⟩
def Kb(ha:PE X a ta)(hb:PE X (.BoolOp .Or (b::bO) pos) tb):PE X (.BoolOp .Or (a::b::bO) pos) (Ot ta tb):=by
 intro U s σ H Q I h
 refine BoolOp_or (bG (ha U s σ H _ I h) λv s1 zz=>?_)
 refine aq λnO=>?_
 obtain⟨x,H1,I1,r1,q1⟩:=zz
 obtain⟨c,rfl,q1⟩:=q1
 cases r1
 refine nO<|Yf ?_
 cases c with
 |false=>exact hb U s1 σ H1 Q I1 q1
 |true=>exact⟨.bl true,H1,I1,rfl,q1⟩
def FU(ha:PE X a ta):PE X (.UnaryOp .Not a pos) (Ka ta):=by
 intro U s σ H Q I h
 refine UnaryOp_ (bG (ha U s σ H _ I h) λv s1 zz=>?_)
 refine aq λnO=>?_
 obtain⟨x,H1,I1,r1,q1⟩:=zz
 obtain⟨c,rfl,q1⟩:=q1
 cases r1
 exact nO<|not_of (Yf ⟨.bl (!c),H1,I1,rfl,q1⟩)
end
def dq(K:PySem.W.Frag)(H:Hp)(a:Addr)(xs:List V):Prop:=
 Rd H a (.lst xs)\/
  ∃(o:Obj) (its:Array Value) (n:Nat),K.lookup a=some o/\o.cls= .type "list"/\o.dict=none/\o.data= .seq its n/\its.size<=sizeLine/\aL xs its.toList/\o.slots=#[]
def c9(K:PySem.W.Frag)(H:Hp)(a:Addr)(xs:List V):Prop:=H a=some (.tup xs)
noncomputable def Ou:Value->Option V
 | .none =>some .cy
 | .bool b=>some (.bl b)
 | .int i _=>some (.int i)
 | .str x _=>some (.str x)
 | .bytes b _=>some (.JR b)
 | .float b _=>some (.Og b)
 | .ref a=>some (.ref a)
 | .type n=>some (.ty n)
 |_=>none
def RelV.abs(r:RelV x u):Ou u=some x:=by
 cases x with
 |cy=>cases r;rfl
 |bl _=>cases r;rfl
 |int _=>obtain⟨t,rfl⟩:=r;rfl
 |str _=>obtain⟨t,rfl⟩:=r;rfl
 |JR _=>obtain⟨t,rfl⟩:=r;rfl
 |Og _=>obtain⟨t,rfl⟩:=r;rfl
 |ref _=>cases r;rfl
 |ty _=>cases r;rfl
theorem RelV.inj(r:RelV x u)(q:RelV y u):x=y:=Xn (r.abs.symm.trans q.abs)
theorem aL.inj:∀{xs ys:List V}{us:List Value},aL xs us->aL ys us->xs=ys:=λ{xs ys us} h=>by
 induction h generalizing ys with
 |nil=>intro h;cases h;rfl
 |cons r t ih=>intro h;cases h with|cons r' t'=>rw[r.inj r',ih t']
section
variable {X:Cx}{U:List (Addr×Obj)}{σ:St}{H:Hp}{s:Shared}{a:Addr}{xs ys:List V}
def dq.of{K:PySem.W.Frag}(h:H a=some (.lst xs)):dq K H a xs:= .inl (.inl h)
def c9.of{K:PySem.W.Frag}(h:H a=some (.tup xs)):c9 K H a xs:=h
def Inv.list(I:Inv X U σ H s)(h:dq X.K H a xs):∃its:List Value,aL xs its/\PlainL s.heap a its.toArray/\xs.length<=sizeLine:=by
 rcases h with h|⟨o,its,n,hk,hc,hd,hs,hz,r,_⟩
 .obtain⟨z,its,n,r,e⟩:=h.ok I.aW
  exact⟨its,r,⟨_,n,e,rfl,rfl,rfl⟩,z⟩
 .refine⟨its.toList,r,⟨o,n,I.El a o hk,hc,hd,by simpa using hs⟩,?_⟩
  have e:=r.length
  simp only[Xt]at e
  lia
def Inv.tuple(I:Inv X U σ H s)(h:c9 X.K H a xs):∃its:List Value,aL xs its/\IsTup s.heap a its.toArray/\xs.length<=sizeLine:=by
 obtain⟨z,its,r,p⟩:=I.aW a _ h
 exact⟨its,r,p.tup,z⟩
def Inv.FV(I:Inv X U σ H s)(h:c9 X.K H a xs):∃its:List Value,aL xs its/\iN s.heap a its.toArray/\xs.length<=sizeLine:=by
 obtain⟨z,its,r,p⟩:=I.aW a _ h
 exact⟨its,r,p,z⟩
def Inv.qw(I:Inv X U σ H s)(h:dq X.K H a xs)(h':dq X.K H a ys):xs=ys:=by
 refine aq λnO=>?_
 obtain⟨its,r,⟨o,n,e,_,_,d⟩,_⟩:=I.list h
 obtain⟨its',r',⟨o',n',e',_,_,d'⟩,_⟩:=I.list h'
 refine nO ?_
 rw[e]at e';cases e'
 rw[d]at d'
 injection d' with d1 _
 have:its=its':=by simpa using congrArg Array.toList d1
 subst this
 exact r.inj r'
def Inv.jD(I:Inv X U σ H s)(h:c9 X.K H a xs)(h':c9 X.K H a ys):xs=ys:=by
 obtain⟨its,r,⟨o,e,_,n,d⟩,_⟩:=I.tuple h
 obtain⟨its',r',⟨o',e',_,n',d'⟩,_⟩:=I.tuple h'
 rw[e]at e';cases e'
 rw[d]at d'
 injection d' with d1 _
 have:its=its':=by simpa using congrArg Array.toList d1
 subst this
 exact r.inj r'
end
noncomputable abbrev Cx.mW(X:Cx)(E:Value->Shared->Prop):Cx:={X with xe:=E}
noncomputable abbrev Cx.Kc(X:Cx):Cx:=X.mW λ_ _=>False
theorem Cx.Ok.mW{X:Cx}(ok:X.Ok)(E:Value->Shared->Prop):(X.mW E).Ok :=
 ⟨ok.mod,ok.kind,ok.glob,ok.blt,ok.above,ok.inj,ok.has,ok.JU,ok.hd,ok.frames,ok.Nl,ok.RQ,ok.bs,ok.xO,ok.xP,ok.Bx,ok.lz,ok.Jl⟩
def Cx.Ok.gg{X:Cx}{E:Value->Shared->Prop}(ok:(X.mW E).Ok):X.Ok:=
 ⟨ok.mod,ok.kind,ok.glob,ok.blt,ok.above,ok.inj,ok.has,ok.JU,ok.hd,ok.frames,ok.Nl,ok.RQ,ok.bs,ok.xO,ok.xP,ok.Bx,ok.lz,ok.Jl⟩
section
variable {X:Cx}{U:List (Addr×Obj)}{σ:St}{H:Hp}{s:Shared}{E:Value->Shared->Prop}
theorem Inv.mW(I:Inv X U σ H s)(E:Value->Shared->Prop):Inv (X.mW E) U σ H s:=⟨I.ok.mW E,I.os,I.bare,I.base,I.loc,I.cell,I.free,I.fS,I.pin,I.aW,I.len⟩
theorem Inv.gg(I:Inv (X.mW E) U σ H s):Inv X U σ H s:=⟨I.ok.gg,I.os,I.bare,I.base,I.loc,I.cell,I.free,I.fS,I.pin,I.aW,I.len⟩
theorem SP.gg(h:SP (X.mW E) U D f s'):SP X U D f s':=by
 cases f with
 |next=>obtain⟨bY,H',I,q⟩:=h;exact⟨bY,H',I.gg,q⟩
 |brk=>obtain⟨bY,H',I,q⟩:=h;exact⟨bY,H',I.gg,q⟩
 |cont=>obtain⟨bY,H',I,q⟩:=h;exact⟨bY,H',I.gg,q⟩
 |ret u=>obtain⟨v,bY,H',I,r,q⟩:=h;exact⟨v,bY,H',I.gg,r,q⟩
theorem kO.Kc{st:List Stmt}{t:TS}(h:kO X.Kc st t):kO X st t:=λU s σ H D I hw=>
 Yo (h U s σ H D (I.mW _) hw) (λ_ _ q=>q.gg) λ_ _ z=>False.elim z
end
section
variable {X:Cx}{st:Stmt}{bO:List Stmt}{t u:TS}{e:Expr}{te:TE}{pos:Pos}
def um:TS:=λD σ H=>D.nx σ H
def oU(t u:TS):TS:=λD σ H=>t {D with nx:=u D} σ H
def iO:kO X [] um:=λ_ _ σ H _ I h=>aar ⟨σ,H,I,h⟩
def cf(h1:PS X st t)(h2:kO X bO u):kO X (st::bO) (oU t u):=by
 intro U s σ H D I h
 refine wpAny_execs_cons (bG (h1 U s σ H {D with nx:=u D} I h) λf s1 q=>?_)
 cases f with
 |next=>
  exact ef q λbY H' I' q=>h2 U s1 bY H' D I' q
 |ret v=>exact q
 |brk=>exact q
 |cont=>exact q
def Inv.quiet(I:Inv X U σ H s):interactive X.env=false:=by simp[interactive,I.ok.kind]
def uo(te:TE):TS:=λD σ H=>te σ H λ_ H1=>D.nx σ H1
def oV(he:PE X e te)(hs:swapsWith e none pos.line X.env=pure false:=by rfl):PS X (.Expr e pos) (uo te):=by
 intro U s σ H D I h
 exact wpAny_Expr_any (bG (he U s σ H _ I h) λv s1 zz=>bu zz λx H1 I1 r1 q1=>⟨σ,H1,I1,q1⟩) I.quiet hs
def Ov(te:TE):TS:=λD σ H=>te σ H D.rt
def sG(he:PE X e te):PS X (.Return (some e) pos) (Ov te):=by
 intro U s σ H D I h
 exact wpAny_Return_some (bG (he U s σ H _ I h) λv s1 zz=>bu zz λx H1 I1 r1 q1=>⟨x,σ,H1,I1,r1,q1⟩)
def BD(c:TT)(t u:TS):TS:=λD σ H=>c σ H λb H1=>if b=true then t D σ H1 else u D σ H1
def En(hc:PT X c tc)(ha:kO X a t)(hb:kO X b u):PS X (.If c a b pos) (BD tc t u):=by
 intro U s σ H D I h
 refine wpAny_If (bG (hc U s σ H _ I h) λd s1 zz=>?_)
 refine aa zz λH1 I1 q1=>?_
 cases d with
 |true=>exact ha U s1 σ H1 D I1 q1
 |false=>exact hb U s1 σ H1 D I1 q1
end
abbrev TG:=V->St->Hp->(St->Hp->Prop)->Prop
abbrev FW:=List V->St->Hp->(St->Hp->Prop)->Prop
def PG(X:Cx)(target:Expr)(t:TG):Prop:=
 ∀(U:List (Addr×Obj)) (s:Shared) (σ:St) (H:Hp) (v:V) (u:Value) (Q:St->Hp->Prop),Inv X U σ H s->RelV v u->t v σ H Q->
  wpAny (model X.prog X.w) X.A (assign target X.env u) (λ_ s'=>∃bY H',Inv X U bY H' s'/\Q bY H') X.xe s
def Jm(X:Cx)(ts:List Expr)(t:FW):Prop:=
 ∀(U:List (Addr×Obj)) (s:Shared) (σ:St) (H:Hp) (vs:List V) (us:List Value) (Q:St->Hp->Prop),Inv X U σ H s->aL vs us->t vs σ H Q->
  wpAny (model X.prog X.w) X.A (assignInOrder ((assignEach ts X.env).map (·.2)) us) (λ_ s'=>∃bY H',Inv X U bY H' s'/\Q bY H') X.xe s
abbrev Kd:=V->V->V->Hp->(Hp->Prop)->Prop
def Ke(X:Cx)(t:Kd):Prop:=
 ∀(U:List (Addr×Obj)) (s:Shared) (σ:St) (H:Hp) (o i v:V) (ov iv u:Value) (Q:Hp->Prop),Inv X U σ H s->RelV o ov->RelV i iv->RelV v u->t o i v H Q->
  wpAny (model X.prog X.w) X.A (setItem ov iv u) (λ_ s'=>∃H',Inv X U σ H' s'/\Q H') X.xe s
section
variable {X:Cx}{pos:Pos}
def cO(i:Nat):TG:=λv σ H Q=>Q (σ.set i (some v)) H
def kP(hN:X.N.Nodup)(hi:X.N[i]?=some x)(hx:Loc X.env.scope x)(hf:X.fn x=true\/X.env.scope.names.lookup x=some .local :=by first|exact .inl rfl|exact .inr rfl|assumption):PG X (.Name x pos) (cO i):=by
 intro U s σ H v u Q I r h
 exact wpAny_assign_Name (qv I hN hi hx r (λs' I'=>⟨_,H,I',h⟩) hf)
def Kf:FW:=λvs σ H Q=>vs=[]/\Q σ H
def Eo(t:TG)(u:FW):FW:=λvs σ H Q=>∃v r,vs=v::r/\t v σ H λbY H'=>u r bY H' Q
def BE:Jm X [] Kf:=by
 intro U s σ H vs us Q I r h
 obtain⟨e,h⟩:=h
 subst e
 cases r
 exact assignInOrder_nil ⟨σ,H,I,h⟩
def xT(h1:PG X e t)(h2:Jm X es u)
  (hs:(assignEach (e::es) X.env).map (·.2)=assign e X.env::(assignEach es X.env).map (·.2):=by rfl):Jm X (e::es) (Eo t u):=by
 intro U s σ H vs us Q I r h
 obtain⟨v,vr,e1,h⟩:=h
 subst e1
 cases r with
 |cons r rr=>
  rw[hs]
  refine assignInOrder_cons (bG (h1 U s σ H _ _ _ I r h) λ_ s1 zz=>?_)
  obtain⟨FX,H1,I1,q1⟩:=zz
  exact h2 U s1 FX H1 _ _ Q I1 rr q1
def Ow(K:PySem.W.Frag)(n:Nat)(t:FW):TG:=λv σ H Q=>∃a xs,v= .ref a/\c9 K H a xs/\xs.length=n/\t xs σ H Q
def FY(hc:X.calm=true)(h:Jm X es t)
  (hn:(assignEach es X.env).length =n:=by rfl) (mX:(assignEach es X.env).findIdx? (·.1)=none:=by rfl):PG X (.Tuple es k pos) (Ow X.K n t):=by
 intro U s σ H v u Q I r hw
 refine aq λnO=>?_
 obtain⟨a,xs,e1,hq,hl,hw⟩:=hw
 subst e1
 cases r
 obtain⟨its,rv,ht,hz⟩:=I.tuple hq
 refine nO<|assign_Tuple_tuple (I.ok.hd hc) ht (by simp[hn,<-hl,rv.length]) mX λh' hx=>?_
 have I1:Inv X U σ H {s with heap:=h'}:=I.kept (t':=s.toks) λb o e=>hx b o (Xu (Xg e)) e
 exact h U _ σ H xs _ Q I1 (by simpa using rv) hw
def Ox(to ti:TE)(t:Kd):TG:=λv σ H Q=>to σ H λo H1=>ti σ H1 λi H2=>t o i v H2 λH3=>Q σ H3
def FZ(ho:PE X o to)(hi:PE X i ti)(hs:Ke X t)
  (ha:∀v,assign (.Subscript o i pos) X.env v=(do
   let ov<-holding [v] (eval o X.env)
   let iv<-holding [v,ov] (eval i X.env)
   standAt pos
   holding [v,ov,iv] (setItem ov iv v)
   release [v,ov,iv] []):=by intro _;rfl):PG X (.Subscript o i pos) (Ox to ti t):=by
 intro U s σ H v u Q I r h
 rw[ha]
 refine WV (XT (bG (ho U s σ H _ I h) λov s1 zz=>?_))
 refine bu zz λx H1 I1 r1 q1=>WV (XT (bG (hi U s1 σ H1 _ I1 q1) λiv s2 zz=>?_))
 refine bu zz λy H2 I2 r2 q2=>WV (aac (WV (XT (bG (hs U s2 σ H2 x y v ov iv u _ I2 r1 r2 r q2) λ_ s3 zz=>?_))))
 exact aa zz λH3 I3 q3=>wpAny_release ⟨σ,H3,I3,q3⟩
def mY(te:TE)(g:TG):TS:=λD σ H=>te σ H λx H1=>g x σ H1 D.nx
def xU(he:PE X e te)(hg:PG X tg g)(hs:swapsWithSole [tg] e pos.line X.env=pure false:=by rfl)(hw:swappedStores [tg] e X.env=pure none:=by rfl)
  (h1:(assignEach [tg] X.env).map (·.2)=[assign tg X.env]:=by rfl):PS X (.Assign [tg] e pos) (mY te g):=by
 intro U s σ H D I h
 refine wpAny_Assign_stores (bG (he U s σ H _ I h) λv s1 zz=>bu zz λx H1 I1 r1 q1=>?_) hs hw
 rw[h1]
 exact bG (hg U s1 σ H1 x v _ I1 r1 q1) λ_ s2 q=>q
def iw(hN:X.N.Nodup)(hi:X.N[i]?=some x)(hx:Loc X.env.scope x)(he:PE X e te)(hs:swapsWith e (some (.Name x qx)) pos.line X.env=pure false:=by rfl)(hf:X.fn x=true\/X.env.scope.names.lookup x=some .local :=by first|exact .inl rfl|exact .inr rfl|assumption):
  PS X (.Assign [.Name x qx] e pos) (mY te (cO i)):=by
 intro U s σ H D I h
 refine wpAny_Assign_Name (bG (he U s σ H _ I h) λv s1 zz=>bu zz λy H1 I1 r1 q1=>?_) hs
 exact qv I1 hN hi hx r1 (λs2 I2=>⟨_,H1,I2,q1⟩) hf
def F0(c:TT)(tb:TS):TS:=λD σ H=>∃W:Nat->St->Hp->Prop,(∃m,W m σ H)/\∀m σ H,W m σ H->
 c σ H λb H1=>if b=true then∃N:St->Hp->Prop,(∀bY H',N bY H'->∃m',m'<m/\W m' bY H')/\tb {D with nx:=N,ct:=N,bk:=D.nx} σ H1 else D.nx σ H1
def qy(hp:PassesOwn (model X.prog X.w) X.A X.env X.xe)(hc:PT X c tc)(hb:kO X body tb):PS X (.While c body [] pos) (F0 tc tb):=by
 intro U s σ H D I h
 refine aq λnO=>?_
 obtain⟨W,⟨m0,w0⟩,turn⟩:=h
 refine nO ?_
 refine wpAny_While (codeAny_whileLoop (λn s'=>∃bY H',Inv X U bY H' s'/\W n bY H') ?_ m0 ⟨σ,H,I,w0⟩)
 rintro n s1 ⟨FX,H1,I1,w1⟩
 refine YK hp (bG (hc U s1 FX H1 _ I1 (turn n FX H1 w1)) λb s2 zz=>?_)
 refine aa zz λH2 I2 q2=>?_
 cases b with
 |true=>
  refine aa q2 λN hN q2=>?_
  rw[Xl rfl]
  refine YK hp (bG (hb U s2 FX H2 _ I2 q2) λf s3 q3=>?_)
  cases f with
  |next=>
   exact aq λnO=>ef q3 λwa H3 I3 n3=>aa (hN wa H3 n3) λm' hm w3=>nO<|⟨m',hm,wa,H3,I3,w3⟩
  |cont=>
   exact aq λnO=>ef q3 λwa H3 I3 n3=>aa (hN wa H3 n3) λm' hm w3=>nO<|⟨m',hm,wa,H3,I3,w3⟩
  |brk=>exact q3
  |ret v=>exact q3
 |false=>
  rw[Xs W2]
  exact aar ⟨FX,H2,I2,q2⟩
end
structure It where
 go:Nat->Hp->Prop
 xV:Nat->Hp->V->Hp->Prop
 stop:Nat->Hp->Prop
def kD(X:Cx)(U:List (Addr×Obj))(H:Hp)(b:Addr):Prop:=
 H b=none/\b≠X.env.locals/\b∉X.fs/\(b∈X.ex\/X.s₀.heap.objs.size<=b)/\(∀x c,X.env.cells.lookup x=some c->c≠b)/\∀p∈X.pn++U,p.1≠b
def Inv.sH(I:Inv X U σ H s)(hb:s.heap.objs.size<=b)(hn:H' b=none):kD X U H' b:=by
 refine⟨hn,aaZ (XC I.lt hb),I.Oj hb,.inr (XZ I.sz hb),λx c e z=>?_,λp hp z=>?_⟩
 .obtain⟨v,q⟩:=I.cell x c e
  exact absurd (XC q.lt (by rw[z];exact hb)) (XS _)
 .exact absurd (XC (Xg (I.pin p hp).1) (by rw[z];exact hb)) (XS _)
structure oX(P:Program)(w:World)(K:PySem.W.Frag)(tg:Expr)(J:It)(fp:List Addr)(it:Addr)(tn:Nat->Heap->Prop):Prop where
 mem:it∈fp
 obj:∀i h,tn i h->∀b∈fp,∃o,h.get? b=some o/\∀v,o.data≠ .cell v
 keep:∀i h h',tn i h->(∀b∈fp,∀o,h.get? b=some o->h'.get? b=some o)->tn i h'
 item:∀(X:Cx),X.prog=P->X.w=w->X.K=K->X.calm=true->∀(i:Nat) (U:List (Addr×Obj)) (s:Shared) (σ:St) (H:Hp) (E:Value->Shared->Prop),Inv X U σ H s->(∀b∈fp,kD X U H b)->tn i s.heap->J.go i H->
  wpAny (model P w) X.A (pyNext (.ref it)) (λr s1=>∃u,r=some u/\
   wpAny (model P w) X.A (letOwnedTupleGo tg (.ref it) u) (λ_ s2=>∃x H',Inv X U σ H' s2/\RelV x u/\J.xV i H x H'/\tn (i+1) s2.heap/\∀b∈fp,H' b=none) E s1) E s
 done:∀(X:Cx),X.prog=P->X.w=w->X.K=K->X.calm=true->∀(i:Nat) (U:List (Addr×Obj)) (s:Shared) (σ:St) (H:Hp) (E:Value->Shared->Prop),Inv X U σ H s->(∀b∈fp,kD X U H b)->tn i s.heap->J.stop i H->
  wpAny (model P w) X.A (pyNext (.ref it)) (λr s1=>r=none/\Inv X U σ H s1) E s
 self:∀(A:Around) (i:Nat) (s:Shared) (Q:Value->Shared->Prop) (E:Value->Shared->Prop),tn i s.heap->Q (.ref it) s->wpAny (model P w) A (pyIter (.ref it)) Q E s
abbrev TI:=St->Hp->(It->Hp->Prop)->Prop
def RV(X:Cx)(U:List (Addr×Obj))(σ:St)(tg:Expr)(R:It->Hp->Prop)(Np:Value)(s2:Shared):Prop:=
 ∃(it:Addr) (fp:List Addr) (tn:Nat->Heap->Prop) (J:It) (H':Hp),Np= .ref it/\Inv X U σ H' s2/\oX X.prog X.w X.K tg J fp it tn/\tn 0 s2.heap/\(∀b∈fp,kD X U H' b)/\R J H'
def PI(X:Cx)(tg iter:Expr)(wi:TI):Prop:=
 ∀(U:List (Addr×Obj)) (s:Shared) (σ:St) (H:Hp) (R:It->Hp->Prop),Inv X U σ H s->wi σ H R->
  wpAny (model X.prog X.w) X.A (eval iter X.env) (λv s1=>wpAny (model X.prog X.w) X.A (pyIter v) (RV X U σ tg R) X.xe s1) X.xe s
def nK(ho:s.heap.get? it=some o)(hc:o.cls= .type n)(hd:o.data= .fields vs)
  (hn:["enumerate","zip","dict_itemiterator","dict_reverseitemiterator","odict_iterator","itertools.zip_longest","itertools.pairwise"].contains n=false) (hQ:Q () s):wpAny M A (letOwnedTupleGo tg (.ref it) u) Q E s:=by
 unfold letOwnedTupleGo
 cases tg<;>first
  |exact W7 hQ
  |(cases u<;>first
    |exact W7 hQ
    |(refine WV (wpAny_load ho ?_);rw[hc,hd];show wpAny M A (if(["enumerate","zip","dict_itemiterator","dict_reverseitemiterator","odict_iterator","itertools.zip_longest","itertools.pairwise"].contains n&&vs[0]? == some (rawInt _))=true then _ else _) Q E s;rw[Xs (by intro h;rw[hn,Bool.false_and]at h;cases h)];exact W7 hQ))
noncomputable def Oy(K:PySem.W.Frag)(a:Addr):It:=
 ⟨λi H=>∃xs x,dq K H a xs/\xs[i]?=some x,λi H x H'=>H'=H/\∀xs,dq K H a xs->xs[i]?=some x,λi H=>∃xs,dq K H a xs/\xs.length<=i⟩
noncomputable def Oz(K:PySem.W.Frag)(a:Addr):It:=
 ⟨λi H=>∃xs x,c9 K H a xs/\xs[i]?=some x,λi H x H'=>H'=H/\∀xs,c9 K H a xs->xs[i]?=some x,λi H=>∃xs,c9 K H a xs/\xs.length<=i⟩
noncomputable def Nq(lo:Int)(n:Nat):It:=⟨λi _=>i<n,λi H x H'=>H'=H/\x= .int (lo+i),λi _=>n<=i⟩
def wc{P:Program}{w:World}{K:PySem.W.Frag}{tg:Expr}(a it:Addr):oX P w K tg (Oy K a) [it] it (λi h=>h.IsListIter it a i) where
 mem:=by simp
 obj:=λi h st b hb=>by
  have e:b=it:=by simpa using hb
  subst e
  exact bJ st λo e c d=>⟨o,e,λv z=>by rw[d]at z;cases z⟩
 keep:=λi h h' st k=>st.at λo e=>k it (by simp) o e
 item:=by
  intro X hP hw hK hc i U s σ H E I hf st hg
  subst hP hw hK
  refine ef hg λxs x hq hx=>bJ (I.list hq) λits rv p hz=>aa (rv.get hx) λu hu ru=>sk (hf it (by simp)) λf0 f1 f2 f3 f4 f5=>wpAny_pyNext_list_item st p.isList (x:=u) (by simpa using hu) λh' ai sb=>?_
  have I1:Inv X U σ H {s with heap:=h'}:=I.turned (t':=s.toks) (λb o hb e=>(sb.2 b hb).trans e) f0 f1 f3 f4 f5
  exact bJ (id ai) λo e c d=>⟨u,rfl,nK (s:={s with heap:=h'}) e c d (by decide) ⟨x,H,I1,ru,⟨rfl,λys hy=>by rw[I.qw hy hq];exact hx⟩,ai,λb hb=>(hf b hb).1⟩⟩
 done:=by
  intro X hP hw hK hc i U s σ H E I hf st hg
  subst hP hw hK
  refine aa hg λxs hq hx=>bJ (I.list hq) λits rv p hz=>sk (hf it (by simp)) λf0 f1 f2 f3 f4 f5=>?_
  have hl:=rv.length
  exact wpAny_pyNext_list_end (I.ok.hd hc) st p.isList (by simp;lia) λh' eb=>⟨rfl,I.turned (t':=s.toks) (λb o hb e=>eb b o hb e) f0 f1 f3 f4 f5⟩
 self:=λ_ _ _ _ _ st h=>wpAny_pyIter_listiter st h
def sJ{P:Program}{w:World}{K:PySem.W.Frag}{tg:Expr}(a it:Addr):oX P w K tg (Oz K a) [it] it (λi h=>h.IsTupleIter it a i) where
 mem:=by simp
 obj:=λi h st b hb=>by
  have e:b=it:=by simpa using hb
  subst e
  exact bJ st λo e c d=>⟨o,e,λv z=>by rw[d]at z;cases z⟩
 keep:=λi h h' st k=>st.at λo e=>k it (by simp) o e
 item:=by
  intro X hP hw hK hc i U s σ H E I hf st hg
  subst hP hw hK
  refine ef hg λxs x hq hx=>bJ (I.tuple hq) λits rv p hz=>aa (rv.get hx) λu hu ru=>sk (hf it (by simp)) λf0 f1 f2 f3 f4 f5=>wpAny_pyNext_tuple_item st (show s.heap.IsTuple a its.toArray from p) (x:=u) (by simpa using hu) λh' ai sb=>?_
  have I1:Inv X U σ H {s with heap:=h'}:=I.turned (t':=s.toks) (λb o hb e=>(sb.2 b hb).trans e) f0 f1 f3 f4 f5
  exact bJ (id ai) λo e c d=>⟨u,rfl,nK (s:={s with heap:=h'}) e c d (by decide) ⟨x,H,I1,ru,⟨rfl,λys hy=>by rw[I.jD hy hq];exact hx⟩,ai,λb hb=>(hf b hb).1⟩⟩
 done:=by
  intro X hP hw hK hc i U s σ H E I hf st hg
  subst hP hw hK
  refine aa hg λxs hq hx=>bJ (I.tuple hq) λits rv p hz=>sk (hf it (by simp)) λf0 f1 f2 f3 f4 f5=>?_
  have hl:=rv.length
  exact wpAny_pyNext_tuple_end (I.ok.hd hc) st (show s.heap.IsTuple a its.toArray from p) (by simp;lia) λh' eb=>⟨rfl,I.turned (t':=s.toks) (λb o hb e=>eb b o hb e) f0 f1 f3 f4 f5⟩
 self:=λ_ _ _ _ _ st h=>wpAny_pyIter_tupleiter st h
def sL{P:Program}{w:World}{K:PySem.W.Frag}{tg:Expr}(it:Addr)(lo:Int)(n:Nat):oX P w K tg (Nq lo n) [it] it (λi h=>IsRangeIter h it (lo+(i:Nat)*1) ((n:Int)-(i:Nat)) 1) where
 mem:=by simp
 obj:=λi h st b hb=>by
  have e:b=it:=by simpa using hb
  subst e
  exact⟨_,st,λv z=>by
   have z':Data.fields _=Data.cell v:=z
   cases z'⟩
 keep:=λi h h' st k=>k it (by simp) _ st
 item:=by
  intro X hP hw hK hc i U s σ H E I hf st hg
  subst hP hw hK
  refine sk (hf it (by simp)) λf0 f1 f2 f3 f4 f5=>?_
  have W:=Walks.range (prog:=X.prog) (w:=X.w) (I.ok.hd hc) it lo 1 n
  refine W.item i s _ _ hg st λv h' tk hv ai kk=>?_
  obtain⟨t,rfl⟩:=hv
  have I1:Inv X U σ H {s with heap:=h',toks:=tk}:=I.turned (λb o hb e=>kk b o (by simpa using hb) e) f0 f1 f3 f4 f5
  refine⟨_,rfl,nK (s:={s with heap:=h',toks:=tk}) (n:="range_iterator") ai rfl rfl (by decide) ⟨.int (lo+i),H,I1,⟨t,?_⟩,⟨rfl,rfl⟩,ai,λb hb=>(hf b hb).1⟩⟩
  rw[Int.mul_one]
 done:=by
  intro X hP hw hK hc i U s σ H E I hf st hg
  subst hP hw hK
  exact sk (hf it (by simp)) λf0 f1 f2 f3 f4 f5=>wpAny_pyNext_range_end (I.ok.hd hc) st (by have:n<=i:=hg;lia) λh' eb=>⟨rfl,I.turned (t':=s.toks) (λb o hb e=>eb b o hb e) f0 f1 f3 f4 f5⟩
 self:=λ_ _ _ _ _ st h=>wpAny_pyIter_rangeiter st h
section
variable {X:Cx}{tg:Expr}
def xW{U:List (Addr×Obj)}{σ:St}{H:Hp}{s:Shared}{R:It->Hp->Prop}{E:Value->Shared->Prop}{lo hi:Int}{t u v:Tok}{tk:Nat}(I:Inv X U σ H s)(h1: -(2 ^ 62)<=lo)(h2:lo<2 ^ 62)(h3: -(2 ^ 62)<=hi)(h4:hi<2 ^ 62)
  (q:R (Nq lo (hi-lo).toNat) H):wpAny (model X.prog X.w) X.A (pyIter (.ref s.heap.objs.size)) (RV X U σ tg R) E {s with heap:=s.heap.push {cls:= .type "range",data:= .fields #[.int lo t,.int hi u,.int 1 v]},toks:=tk}:=by
 refine wpAny_pyIter_range (IsRange.new ..) (small_one h1 h2 h3 h4) ?_
 have I1:Inv X U σ H {s with heap:=s.heap.push {cls:= .type "range",data:= .fields #[.int lo t,.int hi u,.int 1 v]},toks:=tk}:=I.kept λb o e=>WY _ e
 refine⟨(s.heap.push {cls:= .type "range",data:= .fields #[.int lo t,.int hi u,.int 1 v]}).objs.size,[(s.heap.push {cls:= .type "range",data:= .fields #[.int lo t,.int hi u,.int 1 v]}).objs.size],_,_,H,rfl,
  I1.kept (t':=tk) λb o e=>WY _ e,sL _ lo (hi-lo).toNat,?_,λb hb=>?_,q⟩
 .have e1:lo+((0:Nat):Int)*1=lo:=by simp
  have e2:(((hi-lo).toNat :Nat):Int)-((0:Nat):Int)=Builtin.Range.rangeSize lo hi 1:=by rw[rangeSize_one];split<;>lia
  show IsRangeIter _ _ (lo+((0:Nat):Int)*1) ((((hi-lo).toNat :Nat):Int)-((0:Nat):Int)) 1
  rw[e1,e2]
  exact Xe _ rfl
 .have e:b=(s.heap.push {cls:= .type "range",data:= .fields #[.int lo t,.int hi u,.int 1 v]}).objs.size :=by simpa using hb
  subst e
  exact I1.sH (W9 _) (I1.aW.fresh (W9 _))
def Kg(ta:TA):TI:=λσ H R=>ta σ H λvs H1=>∃j:Int,vs=[.int j]/\ -(2 ^ 62)<=j/\j<2 ^ 62/\R (Nq 0 j.toNat) H1
def wd{a:Expr}{ta:TA}{p pos:Pos}(hg:Gl X "range")(hm:X.mg "range"=none)(ha:PA X [a] ta)(hs:starEach [a] X.env=[(false,eval a X.env)]:=by rfl):PI X tg (.Call (.Name "range" p) [a] [] pos) (Kg ta):=by
 intro U s σ H R I h
 refine Call_ (iu I hg hm boot_range (Ym (bG (ha pos U s σ H _ I h) λus s1 zz=>bu zz λvs H1 I1 r1 q1=>?_) hs rfl))
 obtain⟨j,e,q1,q2,q⟩:=q1
 subst e
 cases r1 with
 |cons r rr=>
  cases rr
  obtain⟨t,rfl⟩:=r
  exact call_range_1 (xW I1 (by lia) (by lia) q1 q2 (by simpa using q))
def OA(wi:TI)(g:TG)(tb:TS):TS:=λD σ H=>wi σ H λJ H1=>∃W:Nat->Nat->St->Hp->Prop,(∃m,W 0 m σ H1)/\∀i m σ H,W i m σ H->
 (J.stop i H/\D.nx σ H)\/(J.go i H/\∃N:St->Hp->Prop,(∀bY H',N bY H'->∃m',m'<m/\W (i+1) m' bY H')/\∀x H',J.xV i H x H'->g x σ H' λxF H2=>tb {D with nx:=N,ct:=N,bk:=D.nx} xF H2)
noncomputable def lC(fp:List Addr)(h:Heap):List (Addr×Obj):=fp.filterMap λb=>(h.get? b).map λo=>(b,o)
def fH(hb:b∈fp)(e:h.get? b=some o):(b,o)∈lC fp h:=aaR.mpr ⟨b,hb,by rw[e];rfl⟩
def wj(hp:p∈lC fp h):p.1∈fp/\h.get? p.1=some p.2:=by
 refine aa (aaR.mp hp) λb hb e=>?_
 cases q:h.get? b with
 |none=>rw[q]at e;cases e
 |some o=>
  rw[q]at e
  have e':(b,o)=p:=Xn e
  subst e'
  exact⟨hb,q⟩
def Inv.pinned(I:Inv X U σ H s)(hf:∀b∈fp,kD X U H b)(ho:∀b∈fp,∃o,s.heap.get? b=some o/\∀v,o.data≠ .cell v):Inv X (U++lC fp s.heap) σ H s:=
 I.uj λp hp=>(Xk.mp hp).elim (λz=>I.pin p (Xi _ z)) λz=>by
  refine aq λnO=>?_
  obtain⟨hb,e⟩:=wj z
  refine xE (hf p.1 hb) λf0 f1 f2 _=>aa (ho p.1 hb) λo e' d=>nO ?_
  rw[e]at e';cases e'
  exact⟨e,f0,f1,f2,d⟩
def Inv.iP(I:Inv X (U++pl) σ H s):Inv X U σ H s:=I.uj λp hp=>I.pin p (Xi _ (Xp _ hp))
def F1(hp:PassesOwn (model X.prog X.w) X.A X.env X.xe)(hc:X.calm=true)(hi:PI X tg iter wi)(hg:PG X tg g)(hb:kO X body tb)
  (hs:∀x,foldedSetIterable iter X.env x=pure x:=by intro _;rfl):PS X (.For tg iter body [] pos) (OA wi g tb):=by
 intro U s σ H D I h
 refine wpAny_For (bG (hi U s σ H _ I h) λv s1 h1=>bG h1 λNp s2 h2=>?_) hs
 refine aq λnO=>?_
 obtain⟨it,fp,tn,J,H2,e,I2,T,cJ,f2,W,⟨m0,w0⟩,turn⟩:=h2
 subst e
 refine nO ?_
 have sM:∀{H':Hp},(∀b∈fp,H' b=none)->∀b∈fp,kD X U H' b:=λhn b hb=>⟨hn b hb,(f2 b hb).2⟩
 refine codeAny_forLoop_any (λn s'=>∃i bY H',Inv X U bY H' s'/\tn i s'.heap/\(∀b∈fp,H' b=none)/\W i n bY H') ?_ m0 ⟨0,σ,H2,I2,cJ,λb hb=>(f2 b hb).1,w0⟩
 rintro n s3 ⟨i,wa,H3,I3,kE,RW,w3⟩
 rcases turn i n wa H3 w3 with⟨stop,qn⟩|⟨go,N,hN,step⟩
 .refine YK hp (bG (T.done X rfl rfl rfl hc i U s3 wa H3 X.xe I3 (sM RW) kE stop) λr s4 zz=>?_)
  obtain⟨hr,I4⟩:=zz
  subst hr
  exact aar ⟨wa,H3,I4,qn⟩
 .refine YK hp (bG (T.item X rfl rfl rfl hc i U s3 wa H3 X.xe I3 (sM RW) kE go) λr s4 zz=>?_)
  refine aq λnO=>aa zz λu hr h4=>?_
  subst hr
  refine nO ?_
  refine YK hp (bG h4 λ_ s5 zz=>?_)
  refine aq λnO=>jC zz λx H5 I5 r5 y5 wk Nr=>nO ?_
  have TY:=I5.pinned (sM Nr) (T.obj _ _ wk)
  refine YK hp (bG (hg _ s5 wa H5 x u _ TY r5 (step x H5 y5)) λ_ s6 zz=>?_)
  refine aq λnO=>ef zz λTZ H6 I6 q6=>nO ?_
  refine YK hp (bG (hb _ s6 TZ H6 _ I6 q6) λf s7 q7=>?_)
  have again:∀{xX:St}{H7:Hp},Inv X (U++lC fp s5.heap) xX H7 s7->N xX H7->∃m,m<n/\∃i bY H',Inv X U bY H' s7/\tn i s7.heap/\(∀b∈fp,H' b=none)/\W i m bY H':=λ{xX H7} I7 n7=>by
   refine aa (hN xX H7 n7) λm' hm w7=>⟨m',hm,i+1,xX,H7,I7.iP,T.keep _ _ _ wk λb hb o e=>(I7.pin (b,o) (Xi _ (Xi _ (fH hb e)))).1,λb hb=>?_,w7⟩
   exact aa (T.obj _ _ wk b hb) λo e d=>(I7.pin (b,o) (Xi _ (Xi _ (fH hb e)))).2.1
  cases f with
  |next=>obtain⟨xX,H7,I7,n7⟩:=q7;exact again I7 n7
  |cont=>obtain⟨xX,H7,I7,n7⟩:=q7;exact again I7 n7
  |brk=>obtain⟨xX,H7,I7,q7⟩:=q7;exact⟨xX,H7,I7.iP,q7⟩
  |ret v=>obtain⟨x7,xX,H7,I7,r7,q7⟩:=q7;exact⟨x7,xX,H7,I7.iP,r7,q7⟩
end
abbrev R2:=V->V->Hp->VK->Prop
def kj(X:Cx)(f:Value->Value->Sem Value)(r:R2):Prop:=
 ∀(U:List (Addr×Obj)) (s:Shared) (σ:St) (H:Hp) (x y:V) (v u:Value) (Q:VK),Inv X U σ H s->RelV x v->RelV y u->r x y H Q->
  wpAny (model X.prog X.w) X.A (f v u) (EP X U σ Q) X.xe s
def OB(X:Cx)(f:Value->Sem Value)(r:V->Hp->VK->Prop):Prop:=
 ∀(U:List (Addr×Obj)) (s:Shared) (σ:St) (H:Hp) (x:V) (v:Value) (Q:VK),Inv X U σ H s->RelV x v->r x H Q->
  wpAny (model X.prog X.w) X.A (f v) (EP X U σ Q) X.xe s
def cX(X:Cx)(f:Value)(r:List V->Hp->VK->Prop):Prop:=
 ∀(U:List (Addr×Obj)) (s:Shared) (σ:St) (H:Hp) (xs:List V) (us:List Value) (Q:VK),Inv X U σ H s->aL xs us->r xs H Q->
  wpAny (model X.prog X.w) X.A (call f us) (EP X U σ Q) X.xe s
def OC(X:Cx)(r:V->Hp->(Bool->Hp->Prop)->Prop):Prop:=
 ∀(U:List (Addr×Obj)) (s:Shared) (σ:St) (H:Hp) (x:V) (v:Value) (Q:Bool->Hp->Prop),Inv X U σ H s->RelV x v->r x H Q->
  wpAny (model X.prog X.w) X.A (truthy v) (TP X U σ Q) X.xe s
def Ep(r:R2)(ta tb:TE):TE:=λσ H Q=>ta σ H λx H1=>tb σ H1 λy H2=>r x y H2 Q
def T1(r:V->Hp->VK->Prop)(ta:TE):TE:=λσ H Q=>ta σ H λx H1=>r x H1 Q
def rI(C:Int->Int->Prop)(g:Int->Int->V):R2:=λx y H Q=>∃i j,x= .int i/\y= .int j/\C i j/\Q (g i j) H
def Kh(g:Int->Int->V):R2:=λx y H Q=>∃i j,x= .int i/\y= .int j/\Q (g i j) H
def rU(g:Int->V):V->Hp->VK->Prop:=λx H Q=>∃i,x= .int i/\Q (g i) H
section
variable {X:Cx}{a b c:Expr}{ta tb tc:TE}{pos:Pos}
def F2(ha:PE X a ta)(hb:PE X b tb){U:List (Addr×Obj)}{s:Shared}{σ:St}{H:Hp}{R:V->V->Hp->Prop}(I:Inv X U σ H s)
  (h:ta σ H λx H1=>tb σ H1 λy H2=>R x y H2) {Q:Value->Shared->Prop}{f:Value->Value->Sem Value}
  (hf:∀v u s2 x y H2,Inv X U σ H2 s2->RelV x v->RelV y u->R x y H2->wpAny (model X.prog X.w) X.A (f v u) Q X.xe s2):
  wpAny (model X.prog X.w) X.A (eval a X.env) (λv bg=>wpAny (model X.prog X.w) X.A (eval b X.env) (λu lB=>wpAny (model X.prog X.w) X.A (f v u) Q X.xe lB) X.xe bg) X.xe s:=by
 exact bG (ha U s σ H _ I h) λv s1 zz=>bu zz λx H1 I1 r1 q1=>bG (hb U s1 σ H1 _ I1 q1) λu s2 zz=>bu zz λy H2 I2 r2 q2=>hf v u s2 x y H2 I2 r1 r2 q2
def qz{op:Operator}{r:R2}(ho:kj X (binaryOp op) r)(ha:PE X a ta)(hb:PE X b tb):PE X (.BinOp a op b pos) (Ep r ta tb):=by
 intro U s σ H Q I h
 exact wpAny_BinOp (F2 ha hb I h λv u s2 x y H2 I2 rx ry q=>ho U s2 σ H2 x y v u Q I2 rx ry q)
def Ki(ho:OB X (unaryOp op) r)(ha:PE X a ta):PE X (.UnaryOp op a pos) (T1 r ta):=by
 intro U s σ H Q I h
 exact UnaryOp_ (bG (ha U s σ H _ I h) λv s1 zz=>bu zz λx H1 I1 r1 q1=>ho U s1 σ H1 x v Q I1 r1 q1)
def OD{f:Value->Value->Sem Value}{C:Int->Int->Prop}{g:Int->Int->Int}
  (rule:∀(i j:Int) (t u:Tok) (s:Shared) (Q:Value->Shared->Prop) (E:Value->Shared->Prop),C i j->Q (.int (g i j) s.toks) {s with toks:=s.toks+1}->wpAny (model X.prog X.w) X.A (f (.int i t) (.int j u)) Q E s):
  kj X f (rI C λi j=> .int (g i j)):=by
 intro U s σ H x y v u Q I rx ry h
 refine gH h λi j ag aP hc q=>?_
 try clear h
 subst ag
 subst aP
 obtain⟨t,rfl⟩:=rx
 obtain⟨t',rfl⟩:=ry
 exact rule i j t t' s _ _ hc ⟨.int (g i j),H,I.tok _,⟨_,rfl⟩,q⟩
def OF{f:Value->Value->Sem Value}{g:Int->Int->Int}
  (rule:∀(i j:Int) (t u:Tok) (s:Shared) (Q:Value->Shared->Prop) (E:Value->Shared->Prop),Q (.int (g i j) s.toks) {s with toks:=s.toks+1}->wpAny (model X.prog X.w) X.A (f (.int i t) (.int j u)) Q E s):
  kj X f (Kh λi j=> .int (g i j)):=by
 intro U s σ H x y v u Q I rx ry h
 refine bu h λi j ag aP q=>?_
 try clear h
 subst ag
 subst aP
 obtain⟨t,rfl⟩:=rx
 obtain⟨t',rfl⟩:=ry
 exact rule i j t t' s _ _ ⟨.int (g i j),H,I.tok _,⟨_,rfl⟩,q⟩
def OG{f:Value->Value->Sem Value}{g:Int->Int->Bool}
  (rule:∀(i j:Int) (t u:Tok) (s:Shared) (Q:Value->Shared->Prop) (E:Value->Shared->Prop),Q (.bool (g i j)) s->wpAny (model X.prog X.w) X.A (f (.int i t) (.int j u)) Q E s):
  kj X f (Kh λi j=> .bl (g i j)):=by
 intro U s σ H x y v u Q I rx ry h
 refine bu h λi j ag aP q=>?_
 try clear h
 subst ag
 subst aP
 obtain⟨t,rfl⟩:=rx
 obtain⟨t',rfl⟩:=ry
 exact rule i j t t' s _ _ ⟨.bl (g i j),H,I,rfl,q⟩
def OH(i j:Int):Prop:=0<j/\j<1073741824
def BF(i j:Int):Prop:=(-(2 ^ 64)<i/\i<2 ^ 64)\/(-(2 ^ 64)<j/\j<2 ^ 64)
def BF.ok(h:BF i j):IntMulOk i j:=by
 rcases h with⟨h1,h2⟩|⟨h1,h2⟩
 .exact .of_left (intBits_le_64 h1 h2)
 .exact .of_right (intBits_le_64 h1 h2)
def F3:kj X (binaryOp .Add) (Kh λi j=> .int (i+j)):=OF λ_ _ _ _ _ _ _ q=>add_int q
def F4:kj X (binaryOp .Mult) (rI BF λi j=> .int (i*j)):=OD λ_ _ _ _ _ _ _ hc q=>mul_int q hc.ok
def BG:kj X (binaryOp .FloorDiv) (rI OH λi j=> .int (i/j)):=OD λi j _ _ _ _ _ hc q=>by
 have h1:(0:Int)<j:=hc.1
 have h2:j<1073741824:=hc.2
 exact floordiv_int (by lia) (by rw[Int.fdiv_eq_ediv_of_nonneg i (by lia)];exact q) (.inl (PyProof.noPylong_small (by lia)))
def F5:kj X (binaryOp .Mod) (rI (λ_ j=>0<j) λi j=> .int (i%j)):=OD λi j _ _ _ _ _ hc q=>by
 have h1:(0:Int)<j:=hc
 exact mod_int' (by lia) (by rw[Int.fmod_eq_emod_of_nonneg i (by lia)];exact q)
def T3{f:Value->Sem Value}{g:Int->Int}
  (rule:∀(i:Int) (t:Tok) (s:Shared) (Q:Value->Shared->Prop) (E:Value->Shared->Prop),Q (.int (g i) s.toks) {s with toks:=s.toks+1}->wpAny (model X.prog X.w) X.A (f (.int i t)) Q E s):
  OB X f (rU λi=> .int (g i)):=by
 intro U s σ H x v Q I rx h
 refine aa h λi ag q=>?_
 try clear h
 subst ag
 obtain⟨t,rfl⟩:=rx
 exact rule i t s _ _ ⟨.int (g i),H,I.tok _,⟨_,rfl⟩,q⟩
def F6:OB X (unaryOp .USub) (rU λi=> .int (-i)):=T3 λ_ _ _ _ _ q=>neg_int q
def F7(I:Inv X U σ H s)(q:Q (.bl k) H)(e:k=k'):EP X U σ Q (.bool k') s:=by
 subst e
 exact⟨.bl k,H,I,rfl,q⟩
def Kj:kj X (compareOp .Lt) (Kh λi j=> .bl (decide (i<j))):=OG λ_ _ _ _ _ _ _ q=>lt_int q
def BH:kj X (compareOp .IsNot) (λx y H Q=>y= .cy /\Q (.bl (!decide (x= .cy))) H):=by
 intro U s σ H x y v u Q I rx ry h
 obtain⟨rfl,q⟩:=h
 cases ry
 refine isnot_none_gen (F7 I q ?_)
 cases x<;>first
  |(cases rx;rfl)
  |(obtain⟨t,rfl⟩:=rx;rfl)
def kj.or(h:kj X f r)(h':kj X f r'):kj X f (λx y H Q=>r x y H Q\/r' x y H Q):=by
 intro U s σ H x y v u Q I rx ry q
 rcases q with q|q
 .exact h U s σ H x y v u Q I rx ry q
 .exact h' U s σ H x y v u Q I rx ry q
def BI{op:CmpOp}{r:R2}(ho:kj X (compareOp op) r)(ha:PE X a ta)(hb:PE X b tb)(hm:behindInMarks op b=false):PE X (.Compare a [op] [b] pos) (Ep r ta tb):=by
 intro U s σ H Q I h
 exact wpAny_Compare1 (F2 ha hb I h λv u s2 x y H2 I2 rx ry q=>ho U s2 σ H2 x y v u Q I2 rx ry q) hm
def Kk(t:TE):TT:=λσ H Q=>t σ H λx H'=>∃k,x= .bl k/\Q k H'
def BJ(ho:kj X (compareOp op) r)(ha:PE X a ta)(hb:PE X b tb)(hm:behindInMarks op b=false):PT X (.Compare a [op] [b] pos) (Kk (Ep r ta tb)):=by
 intro U s σ H Q I h
 refine wpAny_isTrue_Compare1 (bG (ha U s σ H _ I h) λv s1 ⟨x,H1,I1,r1,q1⟩=>bG (hb U s1 σ H1 _ I1 q1) λu s2 ⟨y,H2,I2,r2,q2⟩=>
  bG (ho U s2 σ H2 x y v u _ I2 r1 r2 q2) λc s3 ⟨z,H3,I3,r3,k,e,q3⟩=>?_) hm
 subst e
 cases r3
 exact Yf ⟨H3,I3,q3⟩
def F8(K:PySem.W.Frag)(x:V)(H:Hp)(k:Bool):Prop:=
 match x with
 | .cy =>k=false
 | .bl b=>k=b
 | .int i=>k=(i !=0)
 | .str y=>y.length<=sizeLine/\k=((y.length:Int) !=0)
 | .JR y=>y.size<=sizeLine/\k=((y.size:Int) !=0)
 | .ref p=>(∃xs,dq K H p xs/\k=!xs.isEmpty)\/(∃xs,c9 K H p xs/\k=!xs.isEmpty)\/∃ay,H p=some (.dK ay)/\k=!ay.isEmpty
 |_=>False
def sN(r:KV ay vs):(!vs.isEmpty)=!ay.isEmpty:=by
 cases r<;>rfl
def lD(r:aL xs its):(!its.toArray.isEmpty)=!xs.isEmpty:=by
 cases r<;>simp
def lE:(sizeLine:Nat)<2 ^ 63:=by rw[sizeLine_eq];decide
def F9:OC X (λx H Q=>∃k,F8 X.K x H k/\Q k H):=by
 intro U s σ H x v Q I rx h
 obtain⟨k,e,q⟩:=h
 have hl:=lE
 have hs:sizeLine=16777216:=sizeLine_eq
 cases x with
 |cy=>
  cases rx
  have e':k=false:=e
  subst e'
  exact truthy_none ⟨H,I,q⟩
 |bl b=>
  cases rx
  have e':k=b:=e
  subst e'
  exact Yf ⟨H,I,q⟩
 |int i=>
  obtain⟨t,rfl⟩:=rx
  have e':k=(i !=0):=e
  subst e'
  exact PySem.P.truthy_int ⟨H,I,q⟩
 |str y=>
  obtain⟨t,rfl⟩:=rx
  obtain⟨hy,e'⟩:y.length<=sizeLine/\k=((y.length:Int) !=0):=e
  subst e'
  exact PySem.P.truthy_str (by lia) ⟨H,I.tok _,q⟩
 |JR y=>
  obtain⟨t,rfl⟩:=rx
  obtain⟨hy,e'⟩:y.size<=sizeLine/\k=((y.size:Int) !=0):=e
  subst e'
  exact PySem.W.truthy_bytes (by lia) ⟨H,I.tok _,q⟩
 |ref p=>
  cases rx
  have e':(∃xs,dq X.K H p xs/\k=!xs.isEmpty)\/(∃xs,c9 X.K H p xs/\k=!xs.isEmpty)\/∃ay,H p=some (.dK ay)/\k=!ay.isEmpty:=e
  rcases e' with⟨xs,hx,e'⟩|⟨xs,hx,e'⟩|⟨ay,hx,e'⟩
  .refine aq λnO=>?_
   subst e'
   obtain⟨its,r,pl,hz⟩:=I.list hx
   refine nO ?_
   have a_:=r.length
   exact wpAny_truthy_list pl.isList (by simp only[W8];lia) ⟨H,I.tok _,by rw[lD r];exact q⟩
  .refine aq λnO=>?_
   subst e'
   obtain⟨its,r,pl,hz⟩:=I.tuple hx
   refine nO ?_
   have a_:=r.length
   exact truthy_tuple pl (by simp only[W8];lia) ⟨H,I.tok _,by rw[lD r];exact q⟩
  .subst e'
   obtain⟨hz,hS,vs,r,m⟩:ay.length<=sizeLine/\(p==sysModules)=false/\∃vs,KV ay vs/\s.heap.DictOf (br X.prog X.w) p vs:=I.aW p _ hx
   have a_:ay.length=vs.length:=Y3 r
   exact wpAny_truthy_dict hS m (by lia) ⟨H,I.tok _,by rw[sN r];exact q⟩
 |_=>exact(show False from e).elim
def qA(ha:PE X a ta)(he:∀whole,isTrue a X.env whole=(do let v<-whole;standAt a.pos;holding [v] (truthy v))):
  PT X a (λσ H Q=>ta σ H λx H'=>∃k,F8 X.K x H' k/\Q k H'):=by
 intro U s σ H Q I h
 exact isTrue_plain (bG (ha U s σ H _ I h) λv s1 zz=>bu zz λx H1 I1 r1 q1=>F9 U s1 σ H1 x v Q I1 r1 q1) (he _)
def vals1(r:aL [x] us):∃u,us=[u]/\RelV x u:=by
 cases r with
 |cons r1 r2=>cases r2;exact⟨_,rfl,r1⟩
def vals2(r:aL [x,y] us):∃u w',us=[u,w']/\RelV x u/\RelV y w':=by
 cases r with
 |cons r1 r2=>
  cases r2 with
  |cons r3 r4=>cases r4;exact⟨_,_,rfl,r1,r3⟩
end
section
variable {prog:Program}{w:World}{A:Around}{E:Value->Shared->Prop}{s:Shared}{K:PySem.W.Frag}{x dx C f:Addr}{mA:Str->Option Value}{name:Str}{v:Value}
end
noncomputable def F_(f:Str)(v:V):List (Str×V)->List (Str×V)
 |[]=>[(f,v)]
 |(g,x)::r=>if g=f then(g,v)::r else(g,x)::F_ f v r
def mU.some_of(r:mU (some v) o):∃u,o=some u/\RelV v u:=by
 cases o with
 |none=>exact(show False from r).elim
 |some u=>exact⟨u,rfl,r⟩
section
variable {P:Program}{w:World}{H H':Hp}{h h':Heap}{a C dx:Addr}{fs TR:List (Str×V)}{X:Cx}{U:List (Addr×Obj)}{σ:St}{s:Shared}{f:Str}{v:V}{A:Around}{E:Value->Shared->Prop}
end
section
variable {X:Cx}{o e value:Expr}{f:Str}{pos qx tpos:Pos}{ta tv:TE}
def F':V->V->Hp->VK->Prop:=λx y H Q=>∃i j,x= .int i/\y= .int j/\Q (.int (i+j)) H
end
section
variable {X:Cx}{U:List (Addr×Obj)}{σ:St}{H:Hp}{s:Shared}{A:Around}{E:Value->Shared->Prop}{Q:Value->Shared->Prop}{c:Value}{b:Bool}
end
structure eL(k:Nat)(A:Around):Prop where
 hd:A.handled=none
 dp:A.depth+3*k+5<recursionLimit
 un:A.units+16*k+200<cLine
def eL.mono(r:eL k A)(h:j<=k):eL j A:=⟨r.hd,by have:=r.dp;lia,by have:=r.un;lia⟩
theorem eL.deeper(r:eL (k+1) A)(env:Env):eL k (A.deeper env):=
 ⟨r.hd,by have:=r.dp;show A.depth+1+3*k+5<_;lia,by have:=r.un;show A.units+3+16*k+200<_;lia⟩
theorem eL.depth(r:eL k A):A.depth<recursionLimit:=by have:=r.dp;lia
theorem eL.units(r:eL k A):A.units+64<cLine:=by have:=r.un;lia
def lF:TA:=λ_ H Q=>Q [] H
def cY(ta:TE)(tr:TA):TA:=λσ H Q=>ta σ H λx H1=>tr σ H1 λxs H2=>Q (x::xs) H2
section
variable {X:Cx}{e:Expr}{es:List Expr}{te:TE}{t:TA}{pos:Pos}
def dN:PA X [] lF:=λ_ _ _ _ H Q I h=>Calls.spliced_nil ⟨[],H,I,.nil,h⟩
def cu(ha:PE X e te)(hr:PA X es t)(hs:starEach (e::es) X.env=(false,eval e X.env)::starEach es X.env:=by rfl):PA X (e::es) (cY te t):=by
 intro pos U s σ H Q I h
 rw[hs]
 show wpAny _ _ (spliced ((false,eval e X.env)::backTo pos (starEach es X.env))) _ _ s
 refine Calls.spliced_cons (bG (ha U s σ H _ I h) λu s1 zz=>?_)
 exact bu zz λx H1 I1 r1 q1=>bG (hr pos U s1 σ H1 _ I1 q1) λus s2 zz=>bu zz λxs H2 I2 r2 q2=>⟨x::xs,H2,I2,.cons r1 r2,q2⟩
def OI(t:TA):TE:=λσ H Q=>t σ H λxs H1=>xs.length<=sizeLine/\∀p,H1 p=none->Q (.ref p) (upd H1 p (.tup xs))
def OJ(t:TA):TE:=λσ H Q=>t σ H λxs H1=>xs.length<=sizeLine/\∀p,H1 p=none->Q (.ref p) (upd H1 p (.lst xs))
def Ga(h:PA X es t):PE X (.Tuple es x1 pos) (OI t):=by
 intro U s σ H Q I hq
 refine wpAny_Tuple_spliced (bG (h pos U s σ H _ I hq) λus s1 ⟨xs,H1,I1,r,z,q⟩=>⟨by rw[<-r.length];exact z,?_⟩)
 have hf:H1 s1.heap.objs.size=none:=I1.aW.fresh (W9 _)
 refine⟨.ref s1.heap.objs.size,upd H1 s1.heap.objs.size (.tup xs),I1.laid (t':=s1.toks) (λb u e=>WY _ e) (W9 _) ?_,rfl,q _ hf⟩
 exact⟨z,us,r,iN.new _ _⟩
def Gb(h:PA X es t):PE X (.List es pos) (OJ t):=by
 intro U s σ H Q I hq
 refine wpAny_List_spliced (bG (h pos U s σ H _ I hq) λus s1 ⟨xs,H1,I1,r,z,q⟩=>⟨by rw[<-r.length];exact z,?_⟩)
 have hf:H1 s1.heap.objs.size=none:=I1.aW.fresh (W9 _)
 refine⟨.ref s1.heap.objs.size,upd H1 s1.heap.objs.size (.lst xs),I1.laid (t':=s1.toks) (λb u e=>WY _ e) (W9 _) ?_,rfl,q _ hf⟩
 exact⟨z,us,0,r,Xe _ rfl⟩
end
abbrev Sp:=List V->Hp->VK->XK->Prop
abbrev xY:=List Env->Hp->Shared->XK->Value->Shared->Prop
structure BK(P:Program)(w:World)(K:PySem.W.Frag)(mg:Str->Option Value)(base:Heap)(A:Around)(outer:List Env)(s:Shared)(H:Hp):Prop where
 frames:A.frames=some outer
 mod:Mod K mg base
 bs:∀b o,base.get? b=some o->s.heap.get? b=some o/\H b=none
 xO:base.objs.size<=s.heap.objs.size
 lz:s.heap.FunFrames base outer
 Jl:∀b∈xN outer,H b=none
 aW:iq P w H s.heap
 bare:AllBare s.gens
def CE(outer:List Env)(P:Program)(w:World)(H:Hp)(s:Shared)(Q:VK)(u:Value)(s':Shared):Prop:=
 ∃v H',s'.os=s.os/\AllBare s'.gens/\Un (xN outer) [] H H' s.heap s'.heap/\iq P w H' s'.heap/\RelV v u/\Q v H'
def CR(CX:xY)(outer:List Env)(P:Program)(w:World)(H:Hp)(s:Shared)(Q:VK)(E:XK)(r:Result)(s':Shared):Prop:=
 match r with
 | .ok (.ret u)=>CE outer P w H s Q u s'
 | .ok _=>False
 | .error e=>CX outer H s E e s'
structure iQ(P:Program)(w:World)(K:PySem.W.Frag)(mg:Str->Option Value)(base:Heap)(CX:xY)(k:Nat)(f:Addr)(fd:FuncData)(ps:List Str)(sp:Sp):Prop where
 len:∀vs H Q E,sp vs H Q E->vs.length=ps.length
 run:∀(A:Around) (outer:List Env) (s:Shared) (H:Hp) (args:Args) (us:List Value) (vs:List V) (Q:VK) (E:XK),eL k A->BK P w K mg base A outer s H->BindsTo s fd args (ps.zip us)->aL vs us->sp vs H Q E->
  codeAny (model P w) A (.call (.ref f) args) (CR CX outer P w H s Q E) s
section
variable {X:Cx}{U:List (Addr×Obj)}{σ:St}{H:Hp}{s s':Shared}
def Inv.OK(I:Inv X U σ H s):BK X.prog X.w X.K X.mg X.base X.A X.stack s H:=
 ⟨I.ok.frames,I.ok.mod,I.bs,XZ I.ok.xO I.sz,I.stack,I.ui,I.aW,I.bare⟩
def Inv.after(I:Inv X U σ H s)(h:CE X.stack X.prog X.w H s Q u s'):EP X U σ Q u s':=by
 refine N9 h λv H' os bare un aW r q=>?_
 obtain⟨hh,g,d,t,T4⟩:=s'
 obtain rfl:T4=s.os:=os
 exact⟨v,H',I.call (h':=hh) (g':=g) (d':=d) (t':=t) (ch:=[]) un aW bare (λb z=>absurd z (by simp)),r,q⟩
end
def Kl(sp:Sp)(Er:List V)(E:XK)(t:TA):TE:=λσ H Q=>t σ H λvs H1=>sp (vs++Er) H1 Q E
def Binds(K:PySem.W.Frag)(fd:FuncData)(ps:List Str)(ds:List Value):Prop:=
 ∀(s:Shared) (us:List Value),K.In s.heap->(us++ds).length =ps.length->BindsTo s fd ⟨us,[]⟩ (ps.zip (us++ds))
def Binds.all{K:PySem.W.Frag}{fd:FuncData}{ps:List Str}(h:∀us:List Value,us.length=ps.length->bindArgs fd ⟨us,[]⟩=pure (ps.zip us)):Binds K fd ps []:=λs us _ hl=>by
 rw[XF]at hl⊢
 exact .of_eq (h us hl)
def sO(CX:xY)(X:Cx)(E:XK):Prop:=∀(U:List (Addr×Obj)) (σ:St) (H:Hp) (s:Shared) (e:Value) (s':Shared),Inv X U σ H s->CX X.stack H s E e s'->X.xe e s'
section
variable {X:Cx}{CX:xY}{k:Nat}{f C:Addr}{fd:FuncData}{ps:List Str}{sp:Sp}{Er:List V}{ds:List Value}{E:XK}{x m:Str}{p pos mZ:Pos}{e o:Expr}{es:List Expr}{ta:TE}{t:TA}{ks:List Str}{T8:Pos}{sP:List Keyword}{te:TE}{tk:TA}{nm:Option Str}{g:List Value->List Value->List Value}{gV:List V->List V->List V}
def xZ(F:iQ X.prog X.w X.K X.mg X.base CX k f fd ps sp)(hr:eL k X.A)(hb:Binds X.K fd ps ds)(hd:aL Er ds)(hx:sO CX X E)
  (I:Inv X U σ H s) (r:aL vs us) (h:sp (vs++Er) H Q E):wpAny (model X.prog X.w) X.A (call (.ref f) us) (EP X U σ Q) X.xe s:=by
 have r2:aL (vs++Er) (us++ds):=r.append hd
 have hl:(us++ds).length =ps.length:=by rw[<-r2.length];exact F.len _ _ _ _ h
 refine wpAny_call (aas (F.run X.A X.stack s H ⟨us,[]⟩ (us++ds) (vs++Er) Q E hr I.OK (hb s us I.El hl) r2 h) λr s' hq=>?_)
 cases r with
 |error e=>exact hx U σ H s e s' I hq
 |ok fl=>
  cases fl with
  |ret u=>exact I.after hq
  |next=>exact False.elim hq
  |brk=>exact False.elim hq
  |cont=>exact False.elim hq
def uq(F:iQ X.prog X.w X.K X.mg X.base CX k f fd ps sp)(hr:eL k X.A)(hg:Gl X x)(hm:X.mg x=some (.ref f))(hk:PySem.W.keepIn X.K (.ref f)=true)(hb:Binds X.K fd ps ds)(hd:aL Er ds)(hx:sO CX X E)
  (ha:PA X (e::es) t) (Bm:(x==("__debug__":Str))=false:=by decide) (he:starEach (e::es) X.env=(false,eval e X.env)::starEach es X.env:=by rfl) (iy:(backTo pos (starEach es X.env)).any (·.1)=false:=by rfl):
  PE X (.Call (.Name x p) (e::es) [] pos) (Kl sp Er E t):=by
 intro U s σ H Q I h
 refine Zj (oT I hg hm ?_ Bm)
 refine aaS (h₀:=X.base) I.ok.mod.Nk hk (bG (ha pos U s σ H _ I h) λus s1 zz=>bu zz λvs H1 I1 r q=>⟨I1.El,?_⟩) he iy
 exact xZ F hr hb hd hx I1 r q
end
structure gI(N P:List Str)(sc:Scope):Prop where
 kind:sc.kind= .function
 co:sc.isCoroutine=false
 gen:sc.isGenerator=false
 nd:N.Nodup
 pre:N.take P.length=P
 par:∀x∈P,sc.names.lookup x=some .local \/sc.names.lookup x=some .cell
 Gd:∀y∈sc.names,y.2≠ .free
theorem nL{kindOf:Str->Option NameKind}{x:Str}:∀{binds:List (Str×Value)}{m:Str->Option Value},(∀v,(x,v)∉binds)->bindL kindOf binds m x=m x
 |[],_,_=>rfl
 |(n,v)::r,m,h=>by
  unfold bindL
  rw[nL λw hw=>h w (W4 _ hw)]
  split
  .have:x≠n:=by rintro rfl;exact h v W6
   simp[this]
  .rfl
theorem nM{kindOf:Str->Option NameKind}{x:Str}:∀{binds:List (Str×Value)}{m:Str->Option Value},(∀v,(x,v)∉binds)->bindC kindOf binds m x=m x
 |[],_,_=>rfl
 |(n,v)::r,m,h=>by
  unfold bindC
  rw[nM λw hw=>h w (W4 _ hw)]
  split
  .rfl
  .have:x≠n:=by rintro rfl;exact h v W6
   simp[this]
theorem nN{kindOf:Str->Option NameKind}{x:Str}{v:Value}:∀{P:List Str}{vs:List Value}{i:Nat}{m:Str->Option Value},P.Nodup->P[i]?=some x->vs[i]?=some v->kindOf x=some .local ->
  bindL kindOf (P.zip vs) m x=some v
 |[],_,_,_,_,h,_,_=>by simp at h
 |_::_,[],_,_,_,_,h,_=>by simp at h
 |p::P,w::vs,0,m,nd,h1,h2,hk=>by
  simp at h1 h2;subst h1;subst h2
  show bindL kindOf ((p,w)::P.zip vs) m p=_
  unfold bindL
  rw[nL λv hv=>(XB.mp nd).1 (ZJ hv).1,Xl hk]
  simp
 |p::P,w::vs,i+1,m,nd,h1,h2,hk=>by
  show bindL kindOf ((p,w)::P.zip vs) m x=_
  unfold bindL
  exact nN (i:=i) (XB.mp nd).2 (by simpa using h1) (by simpa using h2) hk
theorem nP{kindOf:Str->Option NameKind}{x:Str}{v:Value}:∀{P:List Str}{vs:List Value}{i:Nat}{m:Str->Option Value},P.Nodup->P[i]?=some x->vs[i]?=some v->kindOf x≠some .local ->
  bindC kindOf (P.zip vs) m x=some v
 |[],_,_,_,_,h,_,_=>by simp at h
 |_::_,[],_,_,_,_,h,_=>by simp at h
 |p::P,w::vs,0,m,nd,h1,h2,hk=>by
  simp at h1 h2;subst h1;subst h2
  show bindC kindOf ((p,w)::P.zip vs) m p=_
  unfold bindC
  rw[nM λv hv=>(XB.mp nd).1 (ZJ hv).1,Xs hk]
  simp
 |p::P,w::vs,i+1,m,nd,h1,h2,hk=>by
  show bindC kindOf ((p,w)::P.zip vs) m x=_
  unfold bindC
  exact nP (i:=i) (XB.mp nd).2 (by simpa using h1) (by simpa using h2) hk
noncomputable def start(N:List Str)(vs:List V):St:=vs.map some++List.replicate (N.length-vs.length) none
noncomputable def sQ(CX:xY)(P:Program)(w:World)(K:PySem.W.Frag)(mg:Str->Option Value)(base:Heap)(N:List Str)(qual:Str)(scope:Scope)(f:Addr)(cd:Value)(A:Around)(outer:List Env)(s:Shared)(H:Hp)(E:XK):Cx where
 prog:=P
 w:=w
 K:=K
 mg:=mg
 base:=base
 A:=A.deeper (envOfC qual scope s.heap.objs.size f cd)
 N:=N
 s₀:=s
 H₀:=H
 env:=envOfC qual scope s.heap.objs.size f cd
 outer:=outer
 stack:=envOfC qual scope s.heap.objs.size f cd::outer
 ex:=[]
 calm:=true
 fn:=λ_=>true
 pn:=[]
 xe:=λe s'=>wpAny (model P w) (A.deeper (envOfC qual scope s.heap.objs.size f cd)) (leaving (envOfC qual scope s.heap.objs.size f cd) e) (λ_ Km=>CX outer H s E e Km) (λe' Km=>CX outer H s E e' Km) s'
def qB{sc:Scope}{n:Nat}{x:Str}(h:sc.names.lookup x=some .cell):∃c,(cellsFrom n sc.names []).lookup x=some c:=by
 have q:=aal sc.names n [] (.inl h)
 exact Option.isSome_iff_exists.mp q
def wm{CX:xY}{P:Program}{w:World}{K:PySem.W.Frag}{mg:Str->Option Value}{base:Heap}{N ps:List Str}{qual:Str}{scope:Scope}{f:Addr}{cd:Value}{A:Around}{outer:List Env}{s s1:Shared}{H:Hp}{E:XK}{us:List Value}{vs:List V}
  (S:gI N ps scope) (hd:A.handled=none) (e0:BK P w K mg base A outer s H) (hl:vs.length=ps.length) (r:aL vs us)
  (x:InCallC s s.heap.objs.size (bindL (envOfC qual scope s.heap.objs.size f cd).kindOf (ps.zip us) λ_=>none) (cellsFrom (s.heap.objs.size+1) scope.names []) (bindC (envOfC qual scope s.heap.objs.size f cd).kindOf (ps.zip us) λ_=>none) s1):
  Inv (sQ CX P w K mg base N qual scope f cd A outer s H E) [] (start N vs) H s1:=by
 have iy:ps.length<=N.length:=by have:=congrArg List.length S.pre;rw[X3]at this;lia
 refine ef x.done λh1 tk ag hk=>?_
 subst ag
 have Ko:∀b:Addr,b∉(sQ CX P w K mg base N qual scope f cd A outer s H E).ex :=λb z=>absurd (show b∈([]:List Addr) from z) (by simp)
 refine⟨⟨e0.mod,S.kind,rfl,rfl,W9 _,λy z c h1 h2=>?_,λy hy=>?_,λy c _ h=>?_,λ_=>hd,Around.frames_deeper e0.frames,.inr ⟨rfl,rfl⟩,λb z=>absurd z (Ko b),e0.bs,e0.xO,λb _ _=>Ko b,λb z=>absurd z (Ko b),e0.lz,e0.Jl⟩,
  rfl,e0.bare,Un.kept hk,⟨_,x.toInCall.ns,λi y v h1 h2 h3=>?_⟩,λy c h=>⟨_,x.cell y c h⟩,e0.aW.fresh (W9 _),λy c h=>?_,λp hp=>absurd (show p∈([]:List (Addr×Obj)) from hp) (by simp),e0.aW.kept hk,?_⟩
 .exact name_of_addr x.apart (XJ h1) (XJ h2)
 .have hy:scope.names.lookup y=some .cell \/scope.names.lookup y=some .free :=hy
  rcases hy with hy|hy
  .exact qB hy
  .exact absurd rfl (S.Gd _ (XJ hy))
 .exact ZQ (x.above y c (XJ h))
 .have hi:i<vs.length:=by
   unfold start at h2
   by_cases hi:i<vs.length
   .exact hi
   .rw[XN (by simpa using hi),aad]at h2
    split at h2<;>cases h2
  have ha:vs[i]?=some v:=by
   unfold start at h2
   rw[XI (by simpa using hi),Xb]at h2
   cases e:vs[i]? with
   |none=>rw[e]at h2;cases h2
   |some a=>rw[e]at h2;cases h2;rfl
  refine aa (r.get ha) λu hu rv=>?_
  have hp:ps[i]?=some y:=by
   rw[<-S.pre,List.getElem?_take_of_lt (by lia)];exact h1
  have RX:ps.Nodup:=by rw[<-S.pre];exact S.nd.sublist (Yg _ _)
  refine⟨u,rv,?_⟩
  rcases S.par y (XU hp)with k|k
  .exact .inl ⟨k,nN RX hp hu k⟩
  .obtain⟨c,e⟩:=qB (n:=s.heap.objs.size+1) k
   refine .inr ⟨.inl k,c,e,?_⟩
   have q:=x.cell y c e
   rw[nP RX hp hu (by show scope.names.lookup y≠_;rw[k];decide)]at q
   exact q
 .exact e0.aW.fresh (ZQ (x.above y c (XJ h)))
 .unfold start
  show _=N.length
  rw[W_,WZ,YX]
  lia
def Kp{CX:xY}{P:Program}{w:World}{K:PySem.W.Frag}{mg:Str->Option Value}{base:Heap}{k:Nat}{f:Addr}{name qual:Str}{params:Arguments}{body:List Stmt}{scope:Scope}{dV kV gS pm eQ ct oc:Value}{an od:Option Addr}
  {BL:Array (Option Value)}{N ps:List Str}{sp:Sp} (lk:K.lookup f=some ⟨oc,od,.func (PySem.W.fnOf name qual params body scope dV kV gS pm an eQ ct),BL⟩) (xR:PySem.W.codeIn K eQ qual=true) (S:gI N ps scope)
  (len:∀vs H Q E,sp vs H Q E->vs.length=ps.length)
  (x_:∀(A:Around) (outer:List Env) (s:Shared) (H:Hp) (vs:List V) (Q:VK) (E:XK),eL k (A.deeper (envOfC qual scope s.heap.objs.size f eQ))->sp vs H Q E->
   ∃t,kO (sQ CX P w K mg base N qual scope f eQ A outer s H E) body t/\t {nx:=λ_ H'=>Q .cy H',rt:=Q} (start N vs) H):
  iQ P w K mg base CX (k+1) f (PySem.W.fnOf name qual params body scope dV kV gS pm an eQ ct) ps sp:=by
 refine⟨len,λA outer s H args us vs Q E hr e0 hb r Es=>?_⟩
 have hl:=len _ _ _ _ Es
 have KX:K.In s.heap:=e0.mod.Nk.keeps λb o e=>(e0.bs b o e).1
 have lim:s.heap.NoLimit:=e0.mod.nolimit.keeps λb o e=>(e0.bs b o e).1
 have Kq:∀y∈ps.zip us,scope.names.lookup y.1=some .local \/(scope.names.lookup y.1=some .cell /\((cellsFrom (s.heap.objs.size+1) scope.names []).lookup y.1).isSome =true):=λ⟨n,v⟩ hy=>by
  rcases S.par n (ZJ hy).1 with q|q
  .exact .inl q
  .exact .inr ⟨q,aal _ _ _ (.inl q)⟩
 refine codeAny_call_function hr.depth (KX _ _ lk) rfl S.co S.gen rfl (PySem.W.codeRec_of KX xR) (hb _ _ _ _ ?_)
 refine wpAny_newFunctionEnv_cells S.kind Kq λenv he s1 x=>?_
 subst he
 refine⟨lim.keeps x.toInCall.keep,codeAny_func ?_⟩
 refine aa (x_ A outer s H vs Q E (hr.deeper _) Es) λt ht hq=>?_
 have I:Inv (sQ CX P w K mg base N qual scope f eQ A outer s H E) [] (start N vs) H s1:=wm S hr.hd e0 hl r x
 refine Yo (ht [] s1 (start N vs) H _ I hq) (λfl s' hs=>?_) λe s' hs=>hs
 have fin:∀{bY:St}{H':Hp}{v:V}{u:Value},Inv (sQ CX P w K mg base N qual scope f eQ A outer s H E) [] bY H' s'->RelV v u->Q v H'->CE outer P w H s Q u s':=
  λ{bY H' v u} J rv q=>⟨v,H',J.os,J.bare,J.base,J.aW,rv,q⟩
 cases fl with
 |ret u=>
  exact cS hs λv bY H' J rv q=>fin J rv q
 |next=>
  exact ef hs λbY H' J q=>fin (v:=V.cy) (u:=Value.none) J rfl q
 |brk=>
  exact ef hs λ_ _ _ q=>False.elim q
 |cont=>
  exact ef hs λ_ _ _ q=>False.elim q
section
variable {X:Cx}{x:Str}{p pos:Pos}{e:Expr}{es:List Expr}{t:TA}{id T:String}{r:List V->Hp->VK->Prop}
def OL(r:List V->Hp->VK->Prop)(t:TA):TE:=λσ H Q=>t σ H λvs H1=>r vs H1 Q
def eU(hc:cX X (.builtin id) r)(hg:Gl X x)(hm:X.mg x=none)(hv:bootBuiltins x=some (.builtin id))(ha:PA X (e::es) t)(hn:x≠"__name__":=by decide)(Bm:(x==("__debug__":Str))=false:=by decide)
  (he:starEach (e::es) X.env=(false,eval e X.env)::starEach es X.env:=by rfl) (iy:(backTo pos (starEach es X.env)).any (·.1)=false:=by rfl):PE X (.Call (.Name x p) (e::es) [] pos) (OL r t):=by
 intro U s σ H Q I h
 refine Zj (iu I hg hm hv ?_ hn Bm)
 exact PyProof.Rows.callWith_builtin1 (bG (ha pos U s σ H _ I h) λus s1 zz=>bu zz λvs H1 I1 r1 q1=>hc U s1 σ H1 vs us Q I1 r1 q1) he iy
def eV(hc:cX X (.type T) r)(hg:Gl X x)(hm:X.mg x=none)(hv:bootBuiltins x=some (.type T))(ha:PA X (e::es) t)(hn:x≠"__name__":=by decide)(Bm:(x==("__debug__":Str))=false:=by decide)
  (he:starEach (e::es) X.env=(false,eval e X.env)::starEach es X.env:=by rfl) (iy:(backTo pos (starEach es X.env)).any (·.1)=false:=by rfl):PE X (.Call (.Name x p) (e::es) [] pos) (OL r t):=by
 intro U s σ H Q I h
 refine Zj (iu I hg hm hv ?_ hn Bm)
 exact Ym (bG (ha pos U s σ H _ I h) λus s1 zz=>bu zz λvs H1 I1 r1 q1=>hc U s1 σ H1 vs us Q I1 r1 q1) he iy
end
end L2
namespace HT
open PySem PyProof.Rows
noncomputable def lexLt:List Int->List Int->Bool
 |[],[]=>false
 |[],_::_=>true
 |_::_,[]=>false
 |x::xs,y::ys=>if x=y then lexLt xs ys else decide (x<y)
def sR(x y:Int)(xs ys:List Int):lexLt (x::xs) (y::ys)=if x=y then lexLt xs ys else decide (x<y):=rfl
def m5:lexLt [] []=false:=rfl
def lG(y:Int)(ys:List Int):lexLt [] (y::ys)=true:=rfl
def lH(x:Int)(xs:List Int):lexLt (x::xs) []=false:=rfl
def ya(A:Around)(s:Shared)(a:Int)(t:Tok)(c:Int)(u:Tok):∃e,SeqAt.EqAt A s (.int a t) (.int c u) e/\(e=true↔a=c):=
 ⟨(a==c),SeqAt.EqAt.int_int a t c u,by simp⟩
def yb(A:Around)(s:Shared)(a:Int)(t:Tok)(c:Int)(u:Tok)(prog:Program)(w:World)(E:Value->Shared->Prop)(Q:Value->Shared->Prop)(h:Q (.bool (decide (a<c))) s):
  wpAny (model prog w) A (richCompare .Lt (.int a t) (.int c u)) Q E s:=
 (aaM h:wpAny (model prog w) A (compareOp .Lt (.int a t) (.int c u)) Q E s)
section
open PySem.SeqAt
open PySem.AutoSeq1 (wpAny_loadPart')
open PySem.MeetsSeq PySem.MeetsSeq2 PySem.MeetsSeq3
def m6(l b:Addr)(items items2:Array Value)(n n2:Nat)(dd Et:Option Addr)(sl Eu:Array (Option Value))(ns ms:List Int)(hi:IntsAre items.toList ns)(hj:IntsAre items2.toList ms):
  Meets (Builtin.«tuple.__lt__» ⟨[.ref l,.ref b],[]⟩)
   (λ_ R s=>s.heap.get? l=some {cls:= .type "tuple",dict:=dd,data:= .seq items n,slots:=sl}/\s.heap.get? b=some {cls:= .type "tuple",dict:=Et,data:= .seq items2 n2,slots:=Eu}/\
    R (.ok (.ret (.bool (lexLt ns ms)))) s):=
 .of_wp λprog w A R s h=>by
  obtain⟨hp,g,d,tk,os⟩:=s;obtain⟨hl,hb,h⟩:=h
  have f2:=AutoSeq1.sub_tuple_tuple
  have z1:items.size=ns.length:=by rw[<-hi.length];simp
  have z2:items2.size=ms.length:=by rw[<-hj.length];simp
  wp_walk using Ys hl,Ys hb,wpAny_forIn_list _ (λbO b s'=>b.1=none/\s'=⟨hp,g,d,tk,os⟩/\∃(vs ws:List Value) (lI Jn:List Int),bO=vs.zip ws/\
   IntsAre vs lI/\IntsAre ws Jn/\lI.length+items2.size=Jn.length+items.size/\R (.ok (.ret (.bool (lexLt lI Jn)))) ⟨hp,g,d,tk,os⟩) _
  case turn=>
   rintro⟨y,x⟩ bO b s' ⟨jE,rfl,vs,ws,lI,Jn,hz,OM,Nt,a_,hR⟩
   cases OM with
   |nil=>rw[List.zip_nil_left]at hz;cases hz
   |cons a t ON=>
    cases Nt with
    |nil=>rw[List.zip_nil_right]at hz;cases hz
    |cons c u OO=>
     rw[ZR]at hz
     injection hz with Kr Ks
     injection Kr with hy hx
     subst hy hx
     rw[sR]at hR
     simp only[Xm]at a_
     obtain⟨e,he,Kt⟩:=ya A.in1 ⟨hp,g,d,tk,os⟩ a t c u
     refine WV (he prog w _ _ ?_)
     cases e with
     |true=>
      rw[Xl (Kt.mp rfl)]at hR
      wp_walk
      exact⟨rfl,rfl,_,_,_,_,Ks,ON,OO,by lia,hR⟩
     |false=>
      rw[Xs (λq=>absurd (Kt.mpr q) W2)]at hR
      have T9:=yb A.in1 ⟨hp,g,d,tk,os⟩ a t c u prog w
      wp_walk using T9
      exact⟨_,rfl,by simpa using hR⟩
  case fin=>
   rintro⟨b1,b2⟩ s' ⟨jE,rfl,vs,ws,lI,Jn,hz,OM,Nt,a_,hR⟩
   simp only at jE
   subst jE
   have hv:lexLt lI Jn=decide (items.size<items2.size):=by
    cases OM with
    |nil=>
     cases Nt with
     |nil=>
      simp only[YC]at a_
      rw[m5]
      exact(decide_eq_false (by lia)).symm
     |cons c u hw=>
      simp only[YC,Xm]at a_
      rw[lG]
      exact(decide_eq_true (by lia)).symm
    |cons a t hv=>
     cases Nt with
     |nil=>
      simp only[YC,Xm]at a_
      rw[lH]
      exact(decide_eq_false (by lia)).symm
     |cons c u hw=>
      rw[ZR]at hz
      cases hz
   rw[hv]at hR
   wp_walk
   exact⟨_,rfl,by simpa[Builtin.Tuple.tupleCompareSizes]using hR⟩
  case h=>
   exact⟨rfl,rfl,items.toList,items2.toList,ns,ms,rfl,hi,hj,by lia,h⟩
end
section
variable {prog:Program}{w:World}{A:Around}{E:Value->Shared->Prop}{s:Shared}
def sS(hl:IsTup s.heap l items)(hb:IsTup s.heap b items2)(hi:IntsAre items.toList ns)(hj:IntsAre items2.toList ms)
  (hu:A.units<cLine) (h:Q (.bool (lexLt ns ms)) s):wpAny (model prog w) A (compareOp .Lt (.ref l) (.ref b)) Q E s:=by
 refine aq λnO=>?_
 obtain⟨⟨cls,dd,data,sl⟩,ho,hc,n,hd⟩:=id hl
 obtain⟨⟨OP,Et,data2,Eu⟩,Bn,Ew,n2,m7⟩:=id hb
 refine nO ?_
 simp only at hc hd Ew m7
 subst hc hd Ew m7
 exact richCompare_meets_room (op:= .Lt) ⟨_,ho,rfl⟩ ⟨_,Bn,rfl⟩ PySem.F.slot_tuple_lt PySem.F.entry_tuple_lt (PySem.F.args_tuple_lt_2 _ _) (m6 l b items items2 n n2 dd Et sl Eu ns ms hi hj)
  ⟨ho,Bn,show Value.bool (lexLt ns ms)≠Value.notImplemented/\Q (.bool (lexLt ns ms)) s from⟨(λx=>nomatch x),h⟩⟩ hu
def BM(ht:IsTup s.heap t vs.toArray)(hb:IsTup s.heap b ws.toArray)(hv:vs≠[])
  (h1:ws=[]->Q (.ref t) s) (h2:ws≠[]->Q (.ref s.heap.objs.size) {s with heap:=s.heap.push {cls:= .type "tuple",data:= .seq (vs++ws).toArray}})
  (hsz:vs.length+ws.length<=sizeLine):wpAny (model prog w) A (binaryOp .Add (.ref t) (.ref b)) Q E s:=by
 refine aq λnO=>?_
 obtain⟨⟨cls,dd,data,sl⟩,ho,hc,n,hd⟩:=id ht
 obtain⟨⟨OP,Et,data2,Eu⟩,Bn,Ew,n2,m7⟩:=id hb
 refine nO ?_
 simp only at hc hd Ew m7
 subst hc hd Ew m7
 have e:vs.toArray++ws.toArray=(vs++ws).toArray :=by simp
 by_cases hw:ws=[]
 .exact concat_meets ⟨_,ho,rfl⟩ ⟨_,Bn,rfl⟩ noFill_tuple_add seq_tuple_add Zr Zk (Zh _ _)
   (tuple_addW1 t b vs.toArray ws.toArray n n2 dd Et sl Eu (by simpa using hv) (by simp[hw])) ⟨ho,Bn,h1 hw⟩
 .refine concat_meets ⟨_,ho,rfl⟩ ⟨_,Bn,rfl⟩ noFill_tuple_add seq_tuple_add Zr Zk (Zh _ _)
   (tuple_addW2 t b vs.toArray ws.toArray n n2 dd Et sl Eu (by simpa using hv) (by simpa using hw) (by rw[W8,W8];exact hsz)) ⟨ho,Bn,?_⟩
  rw[e]
  exact h2 hw
noncomputable def cK(n d:Nat):Option Int->Nat
 |none=>d
 |some v=>if v<0 then(v+(n:Int)).toNat else min v.toNat n
def Ge(n d:Nat)(hd:d<=n)(o:Option Int):cK n d o<=n:=by
 cases o with
 |none=>exact hd
 |some v=>
  show(if v<0 then(v+(n:Int)).toNat else min v.toNat n)<=n
  by_cases hv:v<0
  .rw[Xl hv];lia
  .rw[Xs hv];exact Nat.min_le_right _ _
def oY(v:Int)(n d:Nat):(if v<0 then max (v+(n:Int)) 0 else min v (n:Int))=((cK n d (some v):Nat):Int):=by
 show(if v<0 then max (v+(n:Int)) 0 else min v (n:Int))=(((if v<0 then(v+(n:Int)).toNat else min v.toNat n):Nat):Int)
 by_cases hv:v<0
 .simp only[Xl hv];lia
 .simp only[Xs hv];lia
def sT(lo hi:Option Int)(n:Nat):Builtin.Slice.sliceAdjust lo hi 1 (n:Int)=(((cK n 0 lo:Nat):Int),((cK n n hi:Nat):Int)):=by
 have h1:¬((1:Int)<0):=by lia
 unfold Builtin.Slice.sliceAdjust
 simp only[h1,if_false]
 refine Prod.ext ?_ ?_
 .cases lo with
  |none=>rfl
  |some v=>exact oY v n 0
 .cases hi with
  |none=>rfl
  |some v=>exact oY v n n
def sU(i j:Nat):Builtin.Slice.slicePlaces (i:Int) (j:Int) 1=j-i:=by
 unfold Builtin.Slice.slicePlaces
 have h1:(1:Int)>0:=by lia
 simp only[h1,if_true,Int.ediv_one]
 split<;>lia
def lJ(p:IsPart v o)(h:Q o s):wpAny (model prog w) A (Builtin.Slice.slicePartIndex v) Q E s:=by
 cases p with
 |none=>exact slicePart_none h
 |int i t=>exact slicePart_int h
def eW{sl:Addr}{vl vu:Value}{lo hi:Option Int}{n:Nat}{Q:Int×Int×Nat->Shared->Prop}(hs:s.heap.IsSliceOf sl vl vu .none)(pl:IsPart vl lo)(pu:IsPart vu hi)
  (h:Q (((cK n 0 lo:Nat):Int),1,cK n n hi-cK n 0 lo) s):wpAny (model prog w) A (Builtin.Slice.sliceApplied (.ref sl) (pure (n:Int))) Q E s:=by
 refine bJ (id hs) λos Gf yc Ku=>?_
 unfold Builtin.Slice.sliceApplied Builtin.Slice.sliceFields
 refine WV (WV (YD Gf Ku (x:=vl) rfl (WV (YD Gf Ku (x:=vu) rfl (WV (YD Gf Ku (x:= .none) rfl (W7 ?_)))))))
 refine WV (slicePart_none ?_)
 show wpAny _ _ (if((1:Int)==0)=true then _ else _) _ _ s
 rw[Xs (by decide)]
 refine WV (lJ pl (WV (lJ pu (WV (W7 ?_)))))
 show wpAny _ _ (match Builtin.Slice.sliceAdjust lo hi 1 (n:Int)with|(lo,hi)=>pure (lo,(1:Int),Builtin.Slice.slicePlaces lo hi 1)) _ _ s
 rw[sT lo hi n]
 show wpAny _ _ (pure (((cK n 0 lo:Nat):Int),(1:Int),Builtin.Slice.slicePlaces ((cK n 0 lo:Nat):Int) ((cK n n hi:Nat):Int) 1)) _ _ s
 rw[sU]
 exact W7 h
def ye(xs:Array Value)(i k:Nat):((List.range k).filterMap λ(m:Nat)=>xs[((i:Int)+(m:Int)*1).toNat]?).toArray =((xs.toList.drop i).take k).toArray :=by
 have e:(λ(m:Nat)=>xs[((i:Int)+(m:Int)*1).toNat]?)=λm=>xs[i+m]?:=by
  funext m
  have:((i:Int)+(m:Int)*1).toNat =i+m:=by lia
  rw[this]
 rw[e]
 have:=pick_run xs i k
 rw[List.filterMap_map]at this
 have e2:((λx=>xs[x]?) ∘ λx=>i+x)=λm=>xs[i+m]?:=rfl
 rw[e2]at this
 rw[this]
def iR{t sl:Addr}{items:Array Value}{vl vu:Value}{lo hi:Option Int}{Q:Value->Shared->Prop}(ht:IsTup s.heap t items)(hs:s.heap.IsSliceOf sl vl vu .none)(pl:IsPart vl lo)(pu:IsPart vu hi)
  (hw:¬(cK items.size 0 lo=0/\cK items.size items.size hi=items.size))
  (h:Q (.ref s.heap.objs.size) {s with heap:=s.heap.push {cls:= .type "tuple",data:= .seq ((items.toList.drop (cK items.size 0 lo)).take (cK items.size items.size hi-cK items.size 0 lo)).toArray}})
  (hsz:items.size<=sizeLine):wpAny (model prog w) A (getItem (.ref t) (.ref sl)) Q E s:=by
 have ur:sizeOk (.seq ((items.toList.drop (cK items.size 0 lo)).take (cK items.size items.size hi-cK items.size 0 lo)).toArray):=by
  show((items.toList.drop (cK items.size 0 lo)).take (cK items.size items.size hi-cK items.size 0 lo)).toArray.size <=sizeLine
  rw[W8,X3,Zd,Xt]
  lia
 have hj:cK items.size items.size hi<=items.size:=Ge _ _ (W9 _) hi
 refine bJ (id hs) λos Gf yc Ku=>?_
 have BN:s.TypeIs (.ref sl) "slice":=⟨os,Gf,yc⟩
 unfold getItem
 try with_reducible refine XT ?_
 first|refine WV (W7 ?_)|skip
 refine WV (wpAny_sequenceKey ht.typeIs (by decide) ?_)
 refine WV (X2 (name:=Str.ofString "__getitem__") ht.typeIs XX
  (XW XX ht.typeIs entry_tuple_getitem ?_ (args_tuple_getitem _ _)))
 show wpAny _ _ (Builtin.Tuple.tupleItemsOf (.ref t) >>= _) _ _ s
 refine WV (tupleItemsOf_ ht ?_)
 refine WV (aat BN ?_)
 rw[Xl (by decide)]
 refine WV (eW hs pl pu ?_)
 have sq:¬((((cK items.size 0 lo:Nat):Int)==0&&(1:Int)==1&&(cK items.size items.size hi-cK items.size 0 lo)==items.size)=true):=by
  intro q
  rw[WX,WX]at q
  have q1:((cK items.size 0 lo:Nat):Int)=0:=eq_of_beq q.1.1
  have q2:cK items.size items.size hi-cK items.size 0 lo=items.size:=eq_of_beq q.2
  exact hw ⟨by lia,by lia⟩
 show wpAny _ _ (if(((cK items.size 0 lo:Nat):Int)==0&&(1:Int)==1&&(cK items.size items.size hi-cK items.size 0 lo)==items.size)=true then _ else _) _ _ s
 rw[Xs sq,ye]
 first
  |exact WV (m:=Builtin.Tuple.tupleExact _) (XG (W7 ⟨_,rfl,W7 h⟩) ur)
  |exact WV (m:=Builtin.Tuple.tupleExact _) (XG (WV (W7 (W7 ⟨_,rfl,W7 h⟩))) ur)
  |exact WV (WV (m:=Builtin.Tuple.tupleExact _) (XG (W7 (W7 ⟨_,rfl,W7 h⟩)) ur))
  |exact WV (WV (m:=Builtin.Tuple.tupleExact _) (XG (W7 ⟨_,rfl,W7 h⟩) ur))
end
end HT
namespace L2
open PySem PySem.Spec PyProof.Rows
abbrev TO:=St->Hp->(Option Int->Hp->Prop)->Prop
def PO(X:Cx)(e:Option Expr)(t:TO):Prop:=
 ∀(U:List (Addr×Obj)) (s:Shared) (σ:St) (H:Hp) (Q:Option Int->Hp->Prop),Inv X U σ H s->t σ H Q->
  wpAny (model X.prog X.w) X.A (evalPart e X.env) (λu s'=>∃o H',Inv X U σ H' s'/\IsPart u o/\Q o H') X.xe s
def BO:TO:=λ_ H Q=>Q none H
def Kv(t:TE):TO:=λσ H Q=>t σ H λx H1=>∃i,x= .int i/\Q (some i) H1
def intsAre_of:∀{us:List Value},aL (ns.map V.int) us->IntsAre us ns:=by
 induction ns with
 |nil=>intro us r;rw[ZS]at r;cases r;exact .nil
 |cons n ns ih=>
  intro us r
  rw[Xj]at r
  cases r with
  |cons r1 r2=>
   obtain⟨t,e⟩:=r1
   subst e
   exact .cons n t (ih r2)
section
variable {X:Cx}{e:Expr}{te:TE}{lo hi:Option Expr}{tl th:TO}{pos p2:Pos}
def BP:PO X none BO:=by
 intro U s σ H Q I h
 rw[evalPart_none]
 exact W7 ⟨none,H,I,.none,h⟩
def BQ(h:PE X e te):PO X (some e) (Kv te):=by
 intro U s σ H Q I hw
 rw[evalPart_some]
 refine bG (h U s σ H _ I hw) λu s1 zz=>bu zz λx H1 I1 r1 q1=>aa q1 λi ag q=>?_
 try clear q1
 subst ag
 obtain⟨t,rfl⟩:=r1
 exact⟨some i,H1,I1,.int i t,q⟩
def Bo(X:Cx)(r:V->Option Int->Option Int->Hp->VK->Prop):Prop:=
 ∀(U:List (Addr×Obj)) (s:Shared) (σ:St) (H:Hp) (x:V) (v vl vu:Value) (lo hi:Option Int) (sl:Addr) (Q:VK),Inv X U σ H s->RelV x v->s.heap.IsSliceOf sl vl vu .none ->IsPart vl lo->IsPart vu hi->r x lo hi H Q->
  ∃T id,typeLookup (.type T) "__getitem__"=pure (some (.builtin id))/\s.TypeIs v T/\wpAny (model X.prog X.w) X.A (getItem v (.ref sl)) (EP X U σ Q) X.xe s
def Bo.or(h:Bo X r)(h':Bo X r'):Bo X (λx lo hi H Q=>r x lo hi H Q\/r' x lo hi H Q):=by
 intro U s σ H x v vl vu lo hi sl Q I rx hs pl pu q
 rcases q with q|q
 .exact h U s σ H x v vl vu lo hi sl Q I rx hs pl pu q
 .exact h' U s σ H x v vl vu lo hi sl Q I rx hs pl pu q
def T_(r:V->Option Int->Option Int->Hp->VK->Prop)(te:TE)(tl th:TO):TE:=λσ H Q=>te σ H λx H1=>tl σ H1 λl H2=>th σ H2 λu H3=>r x l u H3 Q
def qC(hr:Bo X r)(he:PE X e te)(hl:PO X lo tl)(hu:PO X hi th):PE X (.Subscript e (.Slice lo hi none p2) pos) (T_ r te tl th):=by
 intro U s σ H Q I h
 refine Subscript_ (bG (he U s σ H _ I h) λv s1 zz=>?_)
 refine bu zz λx H1 I1 r1 q1=>wpAny_Slice (bG (hl U s1 σ H1 _ I1 q1) λvl s2 zz=>bu zz λl H2 I2 pl q2=>bG (hu U s2 σ H2 _ I2 q2) λvu s3 zz=>?_)
 refine bu zz λu H3 I3 pu q3=>?_
 rw[evalPart_none]
 refine W7 ?_
 have I4:Inv X U σ H3 {s3 with heap:=s3.heap.push {cls:= .type "slice",data:= .fields #[vl,vu,.none]}}:=I3.kept (t':=s3.toks) λb ob q=>WY _ q
 refine bu (hr U {s3 with heap:=s3.heap.push {cls:= .type "slice",data:= .fields #[vl,vu,.none]}} σ H3 x v vl vu l u s3.heap.objs.size Q I4 r1 (Heap.IsSliceOf.new ..) pl pu q3) λT id hT ht hg=>?_
 show wpAny (model X.prog X.w) X.A (subscriptTail e (.Slice lo hi none p2) v (.ref s3.heap.objs.size)) (EP X U σ Q) X.xe {s3 with heap:=s3.heap.push {cls:= .type "slice",data:= .fields #[vl,vu,.none]}}
 exact tail_any (ops:=[.ref s3.heap.objs.size,v]) ht hT hg (by with_unfolding_all rfl)
noncomputable def qD(xs:List V)(lo hi:Option Int):List V:=(xs.drop (HT.cK xs.length 0 lo)).take (HT.cK xs.length xs.length hi-HT.cK xs.length 0 lo)
def kl(xs:List V)(lo hi:Option Int):(qD xs lo hi).length <=xs.length:=by
 unfold qD
 rw[X3,Zd]
 lia
def Kw(K:PySem.W.Frag):V->Option Int->Option Int->Hp->VK->Prop:=λx lo hi H Q=>∃a xs,x= .ref a/\c9 K H a xs/\
 ¬(HT.cK xs.length 0 lo=0/\HT.cK xs.length xs.length hi=xs.length)/\∀p,H p=none->Q (.ref p) (upd H p (.tup (qD xs lo hi)))
def Gg:Bo X (Kw X.K):=by
 intro U s σ H x v vl vu lo hi sl Q I rx hs pl pu h
 refine gH h λa xs ag hx hw q=>?_
 try clear h
 subst ag
 cases rx
 refine bJ (I.tuple hx) λits r ht hz=>?_
 have a_:its.toArray.size=xs.length:=by rw[W8];exact r.length.symm
 refine⟨"tuple",_,XX.lookup,ht.typeIs,?_⟩
 refine HT.iR ht hs pl pu (by rw[a_];exact hw) ?_ (by rw[a_];exact hz)
 rw[a_]
 refine⟨.ref s.heap.objs.size,_,I.laid (t':=s.toks) (o:= .tup (qD xs lo hi)) (λb ob q=>WY _ q) (W9 _) ?_,rfl,q _ (I.aW.fresh (W9 _))⟩
 exact⟨XZ (kl xs lo hi) hz,_,(r.drop (HT.cK xs.length 0 lo)).take (HT.cK xs.length xs.length hi-HT.cK xs.length 0 lo),iN.new _ _⟩
def Ex(K:PySem.W.Frag):R2:=λx y H Q=>∃a b xs ys,x= .ref a/\y= .ref b/\c9 K H a xs/\c9 K H b ys/\xs≠[]/\xs.length+ys.length<=sizeLine/\
 (ys=[]->Q (.ref a) H)/\(ys≠[]->∀p,H p=none->Q (.ref p) (upd H p (.tup (xs++ys))))
def aL.oZ(r:aL xs us):us=[]↔xs=[]:=by
 cases r with
 |nil=>simp
 |cons _ _=>simp
def BR:kj X (binaryOp .Add) (Ex X.K):=by
 intro U s σ H x y v u Q I rx ry h
 refine RM h λa b xs ys ag aP ha hb hx hz q1 q2=>?_
 try clear h
 subst ag
 subst aP
 cases rx
 cases ry
 refine bJ (I.tuple ha) λits r1 p1 _=>bJ (I.tuple hb) λiz r2 p2 _=>HT.BM p1 p2 (λz=>hx (r1.oZ.mp z)) (λz=>⟨.ref a,H,I,rfl,q1 (r2.oZ.mp z)⟩) (λz=>?_) (by rw[<-r1.length,<-r2.length];exact hz)
 refine⟨.ref s.heap.objs.size,_,I.laid (t':=s.toks) (o:= .tup (xs++ys)) (λb ob q=>WY _ q) (W9 _) ?_,rfl,q2 (λw=>z (r2.oZ.mpr w)) _ (I.aW.fresh (W9 _))⟩
 exact⟨by rw[W_];exact hz,_,r1.append r2,iN.new _ _⟩
end
noncomputable def Jo(n:Nat)(i:Int):Option Nat:=if 0<=i then(if i<n then some i.toNat else none) else if -(n:Int)<=i then some (i+n).toNat else none
noncomputable def Ey{α:Type}(xs:List α)(i:Int):Option α:=(Jo xs.length i).bind λj=>xs[j]?
def uu(h:Jo n i=some j):seqIndex? i n=some j/\j<n/\ -(n:Int)<=i/\i<n:=by
 unfold Jo at h
 by_cases h0:0<=i
 .rw[Xl h0]at h
  by_cases h1:i<n
  .rw[Xl h1]at h
   have e:i.toNat=j:=Xn h
   exact⟨by rw[seqIndex_of h0 h1,e],by lia,by lia,h1⟩
  .rw[Xs h1]at h;cases h
 .rw[Xs h0]at h
  by_cases h1: -(n:Int)<=i
  .rw[Xl h1]at h
   have e:(i+n).toNat =j:=Xn h
   exact⟨by rw[seqIndex_neg (by lia) h1,e],by lia,h1,by lia⟩
  .rw[Xs h1]at h;cases h
def uw(h:Ey xs i=some v):∃j,seqIndex? i xs.length=some j/\xs[j]?=some v/\j<xs.length/\ -(xs.length:Int)<=i/\i<xs.length:=by
 unfold Ey at h
 cases e:Jo xs.length i with
 |none=>rw[e]at h;cases h
 |some j=>
  rw[e]at h
  exact xE (uu e) λh1 h2 h3 h4=>⟨j,h1,h,h2,h3,h4⟩
def o_(b:Expr):Prop:=∀o i,subscripted b false o i=operate [o,i] (getItem o i)
def Gh(X:Cx)(r:R2):Prop:=
 ∀(value slice:Expr) (U:List (Addr×Obj)) (s:Shared) (σ:St) (H:Hp) (x y:V) (v u:Value) (Q:VK),Inv X U σ H s->RelV x v->RelV y u->r x y H Q->
  subscripted slice false v u=operate [v,u] (getItem v u)->wpAny (model X.prog X.w) X.A (subscriptTail value slice v u) (EP X U σ Q) X.xe s
def Kx(X:Cx)(id:String)(r:V->List V->Hp->VK->Prop):Prop:=
 ∀(U:List (Addr×Obj)) (s:Shared) (σ:St) (H:Hp) (x:V) (xs:List V) (v:Value) (us:List Value) (Q:VK),Inv X U σ H s->RelV x v->aL xs us->r x xs H Q->
  wpAny (model X.prog X.w) X.A (call (.builtin id) (v::us)) (EP X U σ Q) X.xe s
section
variable {X:Cx}{a b:Expr}{ta tb:TE}{pos:Pos}
def Gh.or(h:Gh X r)(h':Gh X r'):Gh X (λx y H Q=>r x y H Q\/r' x y H Q):=by
 intro value slice U s σ H x y v u Q I rx ry q hs
 rcases q with q|q
 .exact h value slice U s σ H x y v u Q I rx ry q hs
 .exact h' value slice U s σ H x y v u Q I rx ry q hs
def Ez(hr:Gh X r)(ha:PE X a ta)(hb:PE X b tb)(hs:o_ b):PE X (.Subscript a b pos) (Ep r ta tb):=by
 intro U s σ H Q I h
 exact Subscript_ (F2 ha hb I h λv u s2 x y H2 I2 rx ry q=>hr a b U s2 σ H2 x y v u Q I2 rx ry q (hs _ _))
def BS(K:PySem.W.Frag):R2:=λx y H Q=>∃p xs i v,x= .ref p/\y= .int i/\dq K H p xs/\Ey xs i=some v/\Q v H
def OQ(K:PySem.W.Frag):R2:=λx y H Q=>∃p xs i v,x= .ref p/\y= .int i/\c9 K H p xs/\Ey xs i=some v/\Q v H
def ux:Gh X (BS X.K):=by
 intro value slice U s σ H x y v u Q I rx ry h hs
 refine aq λnO=>sF h λp xs i z ag aP hq he q=>?_
 try clear h
 subst ag
 subst aP
 cases rx
 obtain⟨t,rfl⟩:=ry
 refine bJ (I.list hq) λits r pl hz=>Ji (uw he) λj h1 h2 h3 h4 h5=>aa (r.get h2) λw ew yf=>nO ?_
 have hl:=r.length
 have hn:=lE
 have fin:EP X U σ Q w s:=⟨z,H,I,yf,q⟩
 by_cases h0:0<=i
 .have hj:i.toNat=j:=by
   rw[seqIndex_of h0 h5]at h1
   exact Xn h1
  exact item_listR pl.isList h0 (by lia) (by rw[hj];simpa using ew) fin hs
 .have hj:(i+(its.toArray.size:Int)).toNat =j:=by
   rw[seqIndex_neg (by lia) h4]at h1
   rw[W8,<-hl]
   exact Xn h1
  exact subscriptTail_builtinR (x:=w) pl.isList.typeIs slot_list_getitem.lookup
   (wpAny_getItem_list_neg (Q:=λr s'=>r=w/\EP X U σ Q r s') pl.isList (by lia) (by rw[W8]<;>lia) (by lia) (by rw[hj];simpa using ew) ⟨rfl,fin⟩) hs
def Gi:Gh X (OQ X.K):=by
 intro value slice U s σ H x y v u Q I rx ry h hs
 refine aq λnO=>sF h λp xs i z ag aP hq he q=>?_
 try clear h
 subst ag
 subst aP
 cases rx
 obtain⟨t,rfl⟩:=ry
 refine bJ (I.tuple hq) λits r pl hz=>Ji (uw he) λj h1 h2 h3 h4 h5=>aa (r.get h2) λw ew yf=>nO ?_
 have hl:=r.length
 have hn:=lE
 have fin:EP X U σ Q w s:=⟨z,H,I,yf,q⟩
 exact subscriptTail_builtinR (x:=w) pl.typeIs slot_tuple_getitem.lookup
  (getItem_tuple (j:=j) (Q:=λr s'=>r=w/\EP X U σ Q r s') pl (by lia) (by lia) (by rw[W8,<-hl];exact h1) (by simpa using ew) ⟨rfl,fin⟩) hs
def sV(its:List Value)(n j:Nat)(u:Value):Obj.mapSeq (·.setIfInBounds j u) {cls:= .type "list",data:= .seq its.toArray n}={cls:= .type "list",data:= .seq (its.set j u).toArray n}:=by
 simp[Obj.mapSeq]
theorem Inv.lst{U:List (Addr×Obj)}{σ:St}{H:Hp}{s:Shared}{p:Addr}{xs:List V}(I:Inv X U σ H s)(h:H p=some (.lst xs)):
  ∃(its:List Value) (n:Nat),aL xs its/\s.heap.get? p=some {cls:= .type "list",data:= .seq its.toArray n}/\xs.length<=sizeLine:=by
 refine aq λnO=>?_
 obtain⟨z,its,n,r,e⟩:=I.aW p _ h
 exact nO<|⟨its,n,r,e,z⟩
def Inv.Gj{U:List (Addr×Obj)}{σ:St}{H:Hp}{s:Shared}{p:Addr}{xs ys:List V}{its its':List Value}{n n':Nat}{f:Obj->Obj}(I:Inv X U σ H s)(h:H p=some (.lst xs))
  (ho:s.heap.get? p=some {cls:= .type "list",data:= .seq its.toArray n}) (hf:f {cls:= .type "list",data:= .seq its.toArray n}={cls:= .type "list",data:= .seq its'.toArray n'}) (r:aL ys its') (hz:ys.length<=sizeLine) (t:Nat):
  Inv X U σ (upd H p (.lst ys)) {s with heap:=s.heap.update p f,toks:=t}:=by
 have e:(s.heap.update p f).get? p=some {cls:= .type "list",data:= .seq its'.toArray n'}:=by
  rw[Yh f ho (by rw[hf]<;>rfl),hf]
 exact I.write (x:=p) (e:=p) (by rw[h];trivial) (.inl rfl) (λb u hb q=>(Xv _ _ (XY hb)).trans q) ⟨_,e⟩<|⟨hz,its',n',r,e⟩
def Ky:V->V->V->Hp->(Hp->Prop)->Prop:=λo i v H Q=>∃p xs k j,o= .ref p/\i= .int k/\H p=some (.lst xs)/\Jo xs.length k=some j/\Q (upd H p (.lst (xs.set j v)))
def yg:Ke X Ky:=by
 intro U s σ H o i v ov iv u Q I ro ri rv h
 refine aq λnO=>sF h λp xs k j ag aP hp hj q=>?_
 try clear h
 subst ag
 subst aP
 cases ro
 obtain⟨t,rfl⟩:=ri
 refine bu (I.lst hp) λits n r ho hz=>xE (uu hj) λh1 h2 h3 h4=>nO ?_
 have hl:=r.length
 have hn:=lE
 have I':Inv X U σ (upd H p (.lst (xs.set j v))) {s with heap:=s.heap.update p (Obj.mapSeq (·.setIfInBounds j u))}:=
  I.Gj hp ho (sV its n j u) (r.set rv j) (by rw[XD];exact hz) s.toks
 by_cases h0:0<=k
 .have hk:k.toNat=j:=by
   rw[seqIndex_of h0 h4]at h1
   exact Xn h1
  exact PySem.W.ki_setAt ho h0 (by lia) (by rw[W8,<-hl];exact h4) (by rw[hk];exact⟨_,I',q⟩)
 .have hk:(k+(its.toArray.size:Int)).toNat =j:=by
   rw[seqIndex_neg (by lia) h3]at h1
   rw[W8,<-hl]
   exact Xn h1
  exact PySem.W.ki_setBack ho (by lia) (by rw[W8,<-hl];exact h3) (by lia) (by rw[hk];exact⟨_,I',q⟩)
def pb(lo hi:Option Int)(n:Nat):(sliceBounds lo hi none n).1 =((HT.cK n 0 lo:Nat):Int)/\(sliceBounds lo hi none n).2.1 =((HT.cK n n hi:Nat):Int)/\(sliceBounds lo hi none n).2.2 =1:=by
 refine⟨?_,?_,rfl⟩
 .cases lo with
  |none=>simp[sliceBounds,HT.cK]
  |some i=>
   simp only[sliceBounds,HT.cK,Option.getD_none,show(1:Int)>0 by decide,if_true]
   by_cases h:i<0
   .simp only[h,if_true]<;>lia
   .simp only[h,if_false]<;>lia
 .cases hi with
  |none=>simp[sliceBounds,HT.cK]
  |some i=>
   simp only[sliceBounds,HT.cK,Option.getD_none,show(1:Int)>0 by decide,if_true]
   by_cases h:i<0
   .simp only[h,if_true]<;>lia
   .simp only[h,if_false]<;>lia
def m8(its:List Value)(lo hi:Option Int):slicePick its.toArray lo hi none=((its.drop (HT.cK its.length 0 lo)).take (HT.cK its.length its.length hi-HT.cK its.length 0 lo)).toArray :=by
 refine cN (pb lo hi its.toArray.size) λh1 h2 h3=>?_
 unfold slicePick
 rw[h1,h2,h3]
 simp only[sliceRange_one,pick_run,W8]<;>rfl
def OR(K:PySem.W.Frag):V->Option Int->Option Int->Hp->VK->Prop:=λx lo hi H Q=>∃a xs,x= .ref a/\dq K H a xs/\∀p,H p=none->Q (.ref p) (upd H p (.lst (qD xs lo hi)))
def uy:Bo X (OR X.K):=by
 intro U s σ H x v vl vu lo hi sl Q I rx hs pl pu h
 refine bu h λa xs ag hx q=>?_
 try clear h
 subst ag
 cases rx
 refine bJ (I.list hx) λits r ht hz=>?_
 have a_:=r.length
 refine⟨"list",_,slot_list_getitem.lookup,ht.isList.typeIs,?_⟩
 refine wpAny_getItem_list_slice ht.isList hs pl pu .none (by simp) ?_ (by rw[W8]<;>lia)
 rw[m8,<-a_]
 refine⟨.ref s.heap.objs.size,_,I.laid (t':=s.toks) (o:= .lst (qD xs lo hi)) (λb ob q=>WY _ q) (W9 _) ?_,rfl,q _ (I.aW.fresh (W9 _))⟩
 exact⟨XZ (kl xs lo hi) hz,_,0,(r.drop (HT.cK xs.length 0 lo)).take (HT.cK xs.length xs.length hi-HT.cK xs.length 0 lo),Xe _ rfl⟩
def ph:cX X (.builtin "len") (λxs H Q=>∃p ys,xs=[.ref p]/\(dq X.K H p ys\/c9 X.K H p ys)/\Q (.int ys.length) H):=by
 intro U s σ H xs us Q I r h
 refine bu h λp ys ag hq q=>?_
 try clear h
 subst ag
 refine aa (vals1 r) λu aP rx=>?_
 subst aP
 cases rx
 have hn:=lE
 rcases hq with hq|hq
 .refine bJ (I.list hq) λits r' pl hz=>?_
  have a_:=r'.length
  exact Calls.call_len_list pl.isList (by simp only[W8]<;>lia) ⟨.int ys.length,H,I.tok _,⟨s.toks+1,by rw[W8,a_]⟩,q⟩
 .refine bJ (I.tuple hq) λits r' pl hz=>?_
  have a_:=r'.length
  exact len_tuple pl (by simp only[W8]<;>lia) ⟨.int ys.length,H,I.tok _,⟨s.toks+1,by rw[W8,a_]⟩,q⟩
def cX.or(h:cX X f r)(h':cX X f r'):cX X f (λxs H Q=>r xs H Q\/r' xs H Q):=by
 intro U s σ H xs us Q I rs q
 rcases q with q|q
 .exact h U s σ H xs us Q I rs q
 .exact h' U s σ H xs us Q I rs q
def iS:cX X (.type "list") (λxs H Q=>∃p ys,xs=[.ref p]/\(dq X.K H p ys\/c9 X.K H p ys)/\∀l,H l=none->Q (.ref l) (upd H l (.lst ys))):=by
 intro U s σ H xs us Q I r h
 refine aq λnO=>bu h λp ys ag hq q=>?_
 try clear h
 subst ag
 refine aa (vals1 r) λu aP rx=>?_
 subst aP
 cases rx
 refine nO ?_
 have fin:∀(its:List Value),aL ys its->ys.length<=sizeLine->∀(h':Heap) (c':Nat),(∀b o',s.heap.get? b=some o'->h'.get? b=some o')->
   h'.get? s.heap.objs.size=some {cls:= .type "list",dict:=none,data:= .seq its.toArray c',slots:=#[]}->EP X U σ Q (.ref s.heap.objs.size) {s with heap:=h'}:=λits r' hz h' c' kp e=>
  ⟨.ref s.heap.objs.size,_,I.laid (t':=s.toks) kp (W9 _) (show aZ X.prog X.w _ h' _ (.lst ys) from⟨hz,its,c',r',e⟩),rfl,q _ (I.aW.fresh (W9 _))⟩
 rcases hq with hq|hq
 .refine aq λnO=>bJ (I.list hq) λits r' pl hz=>?_
  have a_:=r'.length
  obtain⟨o,ho,hc,n,hd⟩:=pl.isList
  exact nO<|call_list_seq p (.inl rfl) ho hc hd (λh' c' kp e=>fin its r' hz h' c' kp e) (by simp only[W8]<;>lia)
 .refine aq λnO=>bJ (I.tuple hq) λits r' pl hz=>?_
  have a_:=r'.length
  obtain⟨o,ho,hc,n,hd⟩:=pl
  exact nO<|call_list_seq p (.inr rfl) ho hc hd (λh' c' kp e=>fin its r' hz h' c' kp e) (by simp only[W8]<;>lia)
def m9:cX X (.type "tuple") (λxs H Q=>∃p ys,xs=[.ref p]/\((dq X.K H p ys/\∀l,H l=none->Q (.ref l) (upd H l (.tup ys)))\/(c9 X.K H p ys/\Q (.ref p) H))):=by
 intro U s σ H xs us Q I r h
 refine aq λnO=>?_
 obtain⟨p,ys,rfl,h⟩:=h
 obtain⟨u,rfl,rx⟩:=vals1 r
 cases rx
 refine nO ?_
 rcases h with⟨hq,q⟩|⟨hq,q⟩
 .refine aq λnO=>?_
  obtain⟨its,r',pl,hz⟩:=I.list hq
  refine nO ?_
  have a_:=r'.length
  refine call_tuple_list pl.isList (λh' kp=>?_) (by simp only[W8]<;>lia)
  have I1:Inv X U σ H {s with heap:=h'}:=I.kept (t':=s.toks) kp
  have I2:Inv X U σ (upd H h'.objs.size (.tup ys)) {s with heap:=h'.push {cls:= .type "tuple",data:= .seq its.toArray}}:=
   I1.laid (t':=s.toks) (λb o e=>WY _ e) (W9 _) (show aZ X.prog X.w _ _ _ (.tup ys) from⟨hz,its,r',iN.new _ _⟩)
  exact⟨.ref h'.objs.size,_,I2,rfl,q _ (I1.aW.fresh (W9 _))⟩
 .refine aq λnO=>?_
  obtain⟨its,r',pl,hz⟩:=I.tuple hq
  exact nO<|call_tuple_same pl ⟨.ref p,H,I,rfl,q⟩
def OS(K:PySem.W.Frag)(T:String)(x:V)(H:Hp):Prop:=match x with
 | .str _=>T="str"
 | .int _=>T="int"
 | .ref p=>(T="list"/\∃xs,dq K H p xs)\/(T="tuple"/\∃o,K.lookup p=some o/\o.cls= .type "tuple"/\o.dict=none)\/
   (T="dict"/\((∃ay,H p=some (.dK ay))\/∃ay,H p=some (.dT ay)))\/(T="set"/\∃S n,H p=some (.set S n))
 |_=>False
def yh(I:Inv X U σ H s)(r:RelV x v)(ty:OS X.K T x H):
  s.TypeIs v T/\∀a,v= .ref a->∃ob,s.heap.get? a=some ob/\ob.dict=none:=by
 cases x with
 |str z=>
  obtain⟨t,rfl⟩:=r
  cases (show T="str" from ty)
  exact⟨typeIs_str s z t,λ_ e=>nomatch e⟩
 |int i=>
  obtain⟨t,rfl⟩:=r
  cases (show T="int" from ty)
  exact⟨typeIs_int s i t,λ_ e=>nomatch e⟩
 |ref p=>
  cases r
  rcases ty with⟨rfl,xs,hq⟩|⟨rfl,o,hk,hc,hd⟩|⟨rfl,hk⟩|⟨rfl,S,n,hk⟩
  .refine bJ (I.list hq) λits _ pl _=>⟨pl.isList.typeIs,λa e=>?_⟩
   cases e
   exact gH pl λo n e c hd _=>⟨o,e,hd⟩
  .refine⟨⟨o,I.El p o hk,hc⟩,λa e=>?_⟩
   cases e
   exact⟨o,I.El _ o hk,hd⟩
  .have z:∃o,s.heap.get? p=some o/\o.ExactDict:=by
    rcases hk with⟨ay,hk⟩|⟨ay,hk⟩
    .obtain⟨_,_,_,_,o,_,_,e,ex,_⟩:=I.aW p _ hk
     exact⟨o,e,ex⟩
    .obtain⟨_,_,_,_,o,_,_,e,ex,_⟩:=I.aW p _ hk
     exact⟨o,e,ex⟩
   refine aa z λo e ex=>⟨⟨o,e,ex.1⟩,λa e2=>?_⟩
   cases e2
   exact⟨o,e,ex.2.1⟩
  .refine Fu (I.aW p _ hk) λo _ _ _ e ex _=>⟨⟨o,e,ex.1⟩,λa e2=>?_⟩
   cases e2
   exact⟨o,e,ex.2.1⟩
 |_=>exact False.elim ty
def OU(K:PySem.W.Frag)(T:String)(r:V->List V->Hp->VK->Prop)(to:TE):TE:=λσ H Q=>to σ H λx H1=>OS K T x H1/\r x [] H1 Q
def Nu(K:PySem.W.Frag)(T:String)(r:V->List V->Hp->VK->Prop)(to:TE)(t:TA):TE:=λσ H Q=>to σ H λx H1=>OS K T x H1/\t σ H1 λxs H2=>r x xs H2 Q
variable {o e:Expr}{es:List Expr}{to:TE}{t:TA}{name:Str}{mZ fW:Pos}{T id:String}{r:V->List V->Hp->VK->Prop}
def Gk(pa:PlainAttrs T)(slot:Slot T name id)(Kz:typeOf (.builtin id)=pure (.type "method_descriptor"))(hm:Kx X id r)(ho:PE X o to)
  (iT:attributeBase o name X.env (eval o X.env)=eval o X.env:=by rfl) (iU:(mZ.endLine==fW.line)=true:=by rfl):PE X (.Call (.Attribute o name mZ) [] [] fW) (OU X.K T r to):=by
 intro U s σ H Q I h
 refine wpAny_Call_method0_late iT iU (bG (ho U s σ H _ I h) λv s1 zz=>?_)
 refine gH zz λx H1 I1 r1 ty q1=>?_
 obtain⟨h1,h2⟩:=yh I1 r1 ty
 exact⟨T,id,pa,slot,Kz,h1,h2,YU rfl (aaN (hm U s1 σ H1 x [] v [] Q I1 r1 .nil q1))⟩
def uz(pa:PlainAttrs T)(slot:Slot T name id)(Kz:typeOf (.builtin id)=pure (.type "method_descriptor"))(hm:Kx X id r)(ho:PE X o to)(ha:PA X (e::es) t)
  (iT:attributeBase o name X.env (eval o X.env)=eval o X.env:=by rfl)
  (Gm:((backTo fW (starEach (e::es) X.env)).all (λx=>!x.1)&&(backToKw fW (keywordEach [] X.env)).all (λx=>x.1.isSome)
   && decide ((e::es).length+([]:List Keyword).length+(if([]:List Keyword).isEmpty then 0 else 1)<30))=true:=by rfl)
  (iU:(mZ.endLine==fW.line)=true:=by rfl) (hs:starEach (e::es) X.env=(false,eval e X.env)::starEach es X.env:=by rfl) (sW:(backTo fW (starEach es X.env)).any (·.1)=false:=by rfl):
  PE X (.Call (.Attribute o name mZ) (e::es) [] fW) (Nu X.K T r to t):=by
 intro U s σ H Q I h
 refine wpAny_Call_method_late iT Gm iU rfl (bG (ho U s σ H _ I h) λv s1 zz=>?_)
 refine gH zz λx H1 I1 r1 ty q1=>?_
 obtain⟨h1,h2⟩:=yh I1 r1 ty
 refine⟨T,id,pa,slot,Kz,h1,h2,?_⟩
 have hA:=ha fW U s1 σ H1 _ I1 q1
 rw[hs]at hA⊢
 refine YU (by show(false||(backTo fW (starEach es X.env)).any (·.1))=false;rw[sW]<;>rfl) (Calls.evalArgs_plain ?_)
 exact bG hA λus s2 zz=>bu zz λvs H2 I2 r2 q2=>hm U s2 σ H2 x vs v us Q I2 r1 r2 q2
end
def OV(X:Cx)(id:String)(r:V->List V->Hp->VK->Prop):Prop:=
 ∀(U:List (Addr×Obj)) (s:Shared) (σ:St) (H:Hp) (x:V) (xs:List V) (v:Value) (us:List Value) (Q:VK),Inv X U σ H s->RelV x v->aL xs us->r x xs H Q->
  wpAny (model X.prog X.w) X.A (call (.builtin id) (v::us)) (EP X U σ Q) X.xe s
def aL.one(h:aL [x] us):∃u,us=[u]/\RelV x u:=by
 cases h with
 |cons r t=>cases t;exact⟨_,rfl,r⟩
def aL.zero:∀{us:List Value},aL [] us->us=[]
 |_,.nil =>rfl
theorem aL.dropLast(h:aL xs us):aL xs.dropLast us.dropLast:=by
 induction h with
 |nil=>exact .nil
 |cons r t ih=>
  cases t with
  |nil=>exact .nil
  |cons q t'=>exact .cons r ih
def sX(l:List α):l.eraseIdx (l.length-1)=l.dropLast:=by
 induction l with
 |nil=>rfl
 |cons a r ih=>
  cases r with
  |nil=>rfl
  |cons b r=>
   have e:(a::b::r).length-1=((b::r).length-1)+1:=by
    have h1:(a::b::r).length =r.length+2:=rfl
    have h2:(b::r).length =r.length+1:=rfl
    lia
   rw[e,List.eraseIdx_cons_succ,ih]
   all_goals rfl
section
variable {X:Cx}{U:List (Addr×Obj)}{σ:St}{H:Hp}{s:Shared}{l b:Addr}{xs ys zs:List V}
def Inv.Gn{its its':List Value}{n:Nat}{f:Array Value->Array Value}{t':Nat}(I:Inv X U σ H s)(hH:H l=some (.lst xs))
  (e:s.heap.get? l=some {cls:= .type "list",data:= .seq its.toArray n}) (hf:f its.toArray=its'.toArray) (hv:aL ys its') (hz:ys.length<=sizeLine):
  Inv X U σ (upd H l (.lst ys)) {s with heap:=s.heap.update l (Obj.mapSeq f),toks:=t'}:=by
 have q:=PySem.IsL.update e f
 rw[hf]at q
 exact I.write (x:=l) (e:=l) (by rw[hH];exact trivial) (.inl rfl) (λb' u hb hu=>(Xv s.heap (Obj.mapSeq f) (XY hb)).trans hu) ⟨_,q⟩<|⟨hz,its',_,hv,q⟩
def Inv.KA(I:Inv X U σ H s)(hv:aL ys its)(hz:ys.length<=sizeLine):
  Inv X U σ (upd H s.heap.objs.size (.lst ys)) {s with heap:=s.heap.push {cls:= .type "list",data:= .seq its.toArray},toks:=t'}:=
 I.laid (λ_ _ q=>WY _ q) (W9 _) ⟨hz,its,0,hv,Xe _ rfl⟩
theorem Inv.fresh(I:Inv X U σ H s):H s.heap.objs.size=none:=I.aW.fresh (W9 _)
def Inv.Gp(I:Inv X U σ H s)(hH:H l=some (.lst xs)):xs.length<=sizeLine/\∃(its:List Value) (n:Nat),aL xs its/\xs.length=its.length/\s.heap.get? l=some {cls:= .type "list",data:= .seq its.toArray n}:=by
 refine aq λnO=>?_
 obtain⟨z,its,n,r,e⟩:=I.aW l _ hH
 exact nO<|⟨z,its,n,r,r.length,e⟩
def yi(h:n<=sizeLine):Builtin.List.listTooLong n=false:=by
 unfold Builtin.List.listTooLong
 exact decide_eq_false (by lia)
end
section
variable {X:Cx}
def BU:V->List V->Hp->VK->Prop:=λx vs H Q=>∃l xs y,x= .ref l/\vs=[y]/\H l=some (.lst xs)/\xs.length<sizeLine/\Q .cy (upd H l (.lst (xs++[y])))
def nQ:OV X "list.append" BU:=by
 intro U s σ H x vs v us Q I rx rv h
 refine aq λnO=>so h λl xs y ag aP hH hz q=>?_
 try clear h
 subst ag
 subst aP
 cases rx
 refine aa rv.one λu cZ ru=>?_
 subst cZ
 obtain⟨z,its,n,r,hl,e⟩:=I.Gp hH
 refine nO ?_
 refine call_meets F.slot_list_append ⟨_,e,rfl⟩ F.entry_list_append (F.args_list_append_2 _ _) (PySem.list_append l its.toArray n u (by rw[W8];lia)) ⟨e,?_⟩
 refine⟨.cy,_,I.Gn (its':=its++[u]) hH e (by simp) (r.append (.cons ru .nil)) ?_,rfl,q⟩
 rw[W_,Xx]
 lia
def OW:V->List V->Hp->VK->Prop:=λx vs H Q=>∃l xs y,x= .ref l/\vs=[]/\H l=some (.lst xs)/\xs[xs.length-1]?=some y/\Q y (upd H l (.lst xs.dropLast))
def Gq:OV X "list.pop" OW:=by
 intro U s σ H x vs v us Q I rx rv h
 refine aq λnO=>so h λl xs y ag aP hH hy q=>?_
 try clear h
 subst ag
 subst aP
 cases rx
 have Ua:=rv.zero
 subst Ua
 obtain⟨z,its,n,r,hl,e⟩:=I.Gp hH
 refine aa (r.get hy) λu hu ru=>nO ?_
 have Bp:its.toArray[its.toArray.size-1]?=some u:=by
  show its.toArray[its.length-1]?=some u
  rw[<-XQ,<-hl]
  exact hu
 refine call_meets F.slot_list_pop ⟨_,e,rfl⟩ F.entry_list_pop (F.args_list_pop_1 _) (MeetsSeq.list_pop_last l its.toArray n u Bp (by rw[W8];lia)) ⟨e,?_⟩
 refine⟨y,_,I.Gn (its':=its.dropLast) hH e ?_ r.dropLast ?_,ru,q⟩
 .show its.toArray.eraseIdxIfInBounds (its.toArray.size-1)=its.dropLast.toArray
  rw[W8,List.eraseIdxIfInBounds_toArray,sX]
 .rw[List.length_dropLast]
  lia
end
section
variable {prog:Program}{w:World}{A:Around}{E:Value->Shared->Prop}{s:Shared}{X:Cx}
end
end L2
namespace RY
open PySem PySem.W PySem.Calls PyProof.Rows
def kF:∀(ns:List Int) (vs:List Value),WellAll P h vs (ns.map WData.int)->IntsAre vs ns:=by
 intro ns
 induction ns with
 |nil=>
  intro vs w
  rw[ZS]at w
  cases w
  exact .nil
 |cons n ns ih=>
  intro vs w
  rw[Xj]at w
  cases w with
  |cons a b=>
   cases a
   exact .cons _ _ (ih _ b)
def wo{l:OpenLaw}{n:Nat}(hn:l.most=some n){P:Params}{h:Heap}{args:List WData}{vals:List Value}
  (BV:l.row.toRowW.claim.pre args=true) (OX:WellAll P h vals args):
  ∃a vs ns,vals=[Value.ref a]/\args=[WData.list (ns.map WData.int)]/\h.get? a=some {cls:= .type "list",data:= .seq vs.toArray}/\IntsAre vs ns/\ns.length<=n:=by
 have Ub:WShape.hasAll [] args [.list .int]=true:=(pre_splitW BV).1
 have hc:l.pre.holds [] {args:=args}=true:=(pre_splitW BV).2
 refine bu (hasAllW_cons Ub) λd r ag h1 h2=>?_
 subst ag
 obtain rfl:=hasAllW_nil h2
 refine aa (hasW_list h1) λxs aP h3=>?_
 subst aP
 obtain⟨ns,rfl⟩:=items_int h3
 have a_:ns.length<=n:=by
  unfold OpenLaw.pre at hc
  have h4:(WTm.not (.lt (.lit (.int (n:Int))) (.len (.arg 0)))).holds [] {args:=[.list (ns.map .int)]}=true:=by
   have h4:=(holds_andW hc).1
   rw[hn]at h4
   exact h4
  have h5:=condW_of h4 (w_not (w_lt w_lit (w_len_list (w_arg rfl))))
  rw[WZ]at h5
  refine aag λq=>?_
  have q':(n:Int)<((ns.length:Nat):Int):=by lia
  first
   |(rw[decide_eq_true q']at h5;exact absurd h5 (by decide))
   |(simp at h5;lia)
 cases OX with
 |cons w1 w2=>
  cases w2
  cases w1 with
  |list ho sY=>exact⟨_,_,ns,rfl,rfl,ho,kF ns _ sY,a_⟩
def wq(l:OpenLaw)(args:List WData):l.row.toRowW.claim.post args (.bool true) args=true:=
 postW_of (r:=l.row.toRowW) (X:=(true==true))
  (show WShape.has [] (.bool true) .bool =true by first|rfl|decide|simp[WShape.has,WShape.arms,WShape.armsAll])
  (show(WTm.eq .res (.lit (.bool true))).value [] {args:=args,res:=some (.bool true),after:=args}=some (.bool (true==true)) from w_eq_bool (w_res rfl) w_lit) rfl
def qE{l:OpenLaw}{n:Nat}{q:Program}{loose:List Str}{XP:(Str->Option Value)->Heap->Prop}{YP:World->Heap->Prop}{d:DefRec}
  (hn:l.most=some n) (KC:d.params.defaults=[])
  (call:∀(w:World) (s₀ bg:Shared) (mg mb:Str->Option Value) (fa:Addr) (o:Obj) (pm cd gS:Value) (a:Addr) (vs:List Value) (ns:List Int),
   Ground q loose [] XP w s₀ mg mb bg.heap->YP w bg.heap->
   bg.heap.get? fa=some o->o.data= .func (docDef d.name d.params d.body d.scope pm cd gS)->bg.heap.CodeRec cd d.name->mg d.name=some (.ref fa)->
   bg.heap.get? a=some {cls:= .type "list",data:= .seq vs.toArray}->IntsAre vs ns->ns.length<=n->bg.gens=#[]->
   codeAny (model l.prog w) callerA (.call (.ref fa) ⟨[.ref a],[]⟩) (λr s'=>r= .ok (.ret (.bool true))/\OldK bg.heap s'.heap/\s'.os=bg.os/\AllBare s'.gens) bg):
  WalkO q loose XP YP l.row.toRowW d [] (λf vs=>PySem.call f vs):=by
 intro w s₀ bg mg mb G Y fa o pm cd gS dV kV ho hd xR hD KD hg args vals as BV Uc Wx OX Gr
 obtain rfl:dV= .none :=Dflts.none hD KC
 obtain rfl:kV= .none :=Dflts.noKw hD
 refine so (wo hn BV OX) λa vs ns ag aP Gs hints a_=>?_
 subst ag
 subst aP
 refine enter_call (aas (call w s₀ bg mg mb fa o pm cd gS a vs ns G Y ho (fd_plain hd) xR KD Gs hints a_ hg) λr s' hq=>?_)
 refine xE hq λcZ h2 h3 h4=>?_
 try clear hq
 subst cZ
 exact⟨.inl ⟨.bool true,.bool true,[],rfl,λ_=>rfl,.bool true,wq l _,λ_=>⟨List.Pairwise.nil,λ_ hm=>(nomatch hm)⟩⟩,h2,h3,h4⟩
section
variable {prog:Program}{w:World}{A:Around}{E:Value->Shared->Prop}{s:Shared}{K:Frag}
end
end RY
namespace L2
open PySem PySem.Spec PyProof.Rows
def wt:∀{vs:List Value}{ns:List Int},IntsAre vs ns->aL (ns.map V.int) vs:=λ{vs ns} h=>by
 induction h with
 |nil=>exact .nil
 |cons n t h ih=>exact .cons ⟨t,rfl⟩ ih
def Gu(H:Hp):Prop:=∀b,H b=none\/∃o xs,H b=some (.dH o (.lst xs))
def yj{P:Program}{w:World}{K:PySem.W.Frag}{mg mb:Str->Option Value}{CX:xY}{k:Nat}{fa a:Addr}{fd:FuncData}{x:Str}{sp:Sp}{bg:Shared}{vs:List Value}{ns:List Int}
  (KX:K.In bg.heap) (RZ:bg.heap.Ns mainGlobals mg) (hb:bg.heap.Ns builtinsNs mb) (Ud:∀x:Str,x≠"__name__"->mb x=bootBuiltins x) (OY:bg.heap.NoLimit) (hg:bg.gens=#[])
  (ha:bg.heap.get? a=some {cls:= .type "list",data:= .seq vs.toArray}) (hi:IntsAre vs ns) (hl:ns.length<=sizeLine) (hr:eL k callerA)
  (F:∀base:Heap,K.In base->base.Ns mainGlobals mg->iQ P w K mg base CX k fa fd [x] sp) (KG:∀(s:Shared) (u:Value),BindsTo s fd ⟨[u],[]⟩ [(x,u)])
  (Es:∀H:Hp,Gu H->dq K H a (ns.map V.int)->sp [.ref a] H (λv _=>v= .bl true) λ_ _ _=>False)
  (OZ:∀H e s',CX [] H bg (λ_ _ _=>False) e s'->False):
  codeAny (model P w) callerA (.call (.ref fa) ⟨[.ref a],[]⟩) (λr s'=>r= .ok (.ret (.bool true))/\OldK bg.heap s'.heap/\s'.os=bg.os/\AllBare s'.gens) bg:=by
 have rv:=wt hi
 have O0:=hi.length
 have aR:∀H:Hp,Gu H->dq K H a (ns.map V.int)->iq P w H bg.heap->(∀b,H b≠none->b=a)->(H a≠none->K.lookup a=none)->
   codeAny (model P w) callerA (.call (.ref fa) ⟨[.ref a],[]⟩) (λr s'=>r= .ok (.ret (.bool true))/\OldK bg.heap s'.heap/\s'.os=bg.os/\AllBare s'.gens) bg:=by
  intro H hO hS aW hA hK
  have iV:∀{b:Addr}{o:Obj},bg.heap.get? b=some o->H b=none->(oS bg.heap H).get? b=some o:=λe n=>xM e n
  have Ko:∀{b:Addr}{o:Obj}{es:Array DictEntry}{ep:Nat},bg.heap.get? b=some o->o.data= .dict es ep->H b=none:=λ{b o es ep} e d=>by
   cases q:H b with
   |none=>rfl
   |some u=>
    have e':b=a:=hA b (by rw[q];simp)
    subst e'
    rw[ha]at e;cases e
    have d':Data.seq vs.toArray _=Data.dict es ep:=d
    cases d'
  have Nv:∀{b:Addr}{m:Str->Option Value},bg.heap.Ns b m->(oS bg.heap H).Ns b m:=λ{b m} zz=>cS zz λo es ep e d r=>⟨o,es,ep,iV e (Ko e d),d,r⟩
  have R1:K.In (oS bg.heap H):=λb o e=>iV (KX b o e) (by
   cases q:H b with
   |none=>rfl
   |some u=>
    have e':b=a:=hA b (by rw[q];simp)
    subst e'
    rw[hK (by rw[q];simp)]at e;cases e)
  have hM:Mod K mg (oS bg.heap H):=⟨R1,Nv RZ,⟨mb,Nv hb,Ud⟩,let ⟨mc,h1,h2⟩:=OY;⟨mc,Nv h1,h2⟩⟩
  have e0:BK P w K mg (oS bg.heap H) callerA [] bg H:=⟨rfl,hM,λb o e=>Bw e,aau (v5 _ _),trivial,λb hb=>absurd (show b∈([]:List Addr) from hb) (by simp),aW,.of_eq hg⟩
  refine aas ((F _ R1 (Nv RZ)).run callerA [] bg H ⟨[.ref a],[]⟩ [.ref a] [.ref a] _ _ hr e0 (KG bg (.ref a)) (.cons rfl .nil) (Es H hO hS)) λr s' h=>?_
  cases r with
  |error e=>exact(OZ H e s' h).elim
  |ok fl=>
   cases fl with
   |next=>exact False.elim h
   |brk=>exact False.elim h
   |cont=>exact False.elim h
   |ret u=>
    refine N9 h λv H' os bare un O1 r' q=>?_
    have q':v= .bl true:=q
    subst q'
    obtain rfl:u=Value.bool true:=r'
    refine⟨rfl,OldK.of_keep λb o e=>?_,os,bare⟩
    cases q:H b with
    |none=>exact un.keep b o e q (by intro z;exact absurd (show b∈([]:List Addr) from z) (by simp)) (by simp)
    |some u=>
     rcases hO b with z|⟨ob,xs,z⟩
     .rw[q]at z;cases z
     .have z2:=un.ir b ob _ z
      obtain⟨e1,_⟩:=aW b _ z
      obtain⟨e2,_⟩:=O1 b _ z2
      rw[e]at e1;cases e1
      exact e2
 cases hk:K.lookup a with
 |some o=>
  have e:=KX a o hk
  rw[ha]at e
  cases e
  refine aR (λ_=>none) (λ_=> .inl rfl) (.inr ⟨_,vs.toArray,_,hk,rfl,rfl,rfl,by rw[W8,O0];exact hl,by simpa using rv⟩) (λb u z=>by have z':(none:Option HO)=some u:=z;cases z') (λb z=>absurd rfl z) λz=>absurd rfl z
 |none=>
  refine aR (λb=>if b=a then some (.dH {cls:= .type "list",data:= .seq vs.toArray} (.lst (ns.map V.int))) else none) (λb=>?_) (.inl (.inr ⟨{cls:= .type "list",data:= .seq vs.toArray},Xl rfl⟩)) (λb u z=>?_) (λb z=>?_) λ_=>hk
  .by_cases hb:b=a
   .exact .inr ⟨_,_,Xl hb⟩
   .exact .inl (Xs hb)
  .by_cases hb:b=a
   .have z':=(Xl hb).symm.trans z
    cases z'
    subst hb
    exact⟨ha,by rw[WZ];exact hl,vs,_,rv,ha⟩
   .have z':=(Xs hb).symm.trans z
    cases z'
  .by_cases hb:b=a
   .exact hb
   .exact absurd (Xs hb) z
def BW{l:PySem.W.OpenLaw}{n k:Nat}{q:Program}{loose:List Str}{XP:(Str->Option Value)->Heap->Prop}{YP:World->Heap->Prop}{d:DefRec}{K:Params->PySem.W.Frag}{CX:World->xY}{sp:World->Sp}{x:Str}
  (hn:l.most=some n) (KH:n<=sizeLine) (KC:d.params.defaults=[]) (hr:eL k callerA)
  (hY:∀(w:World) (h:Heap),YP w h->(K w.params).In h)
  (F:∀(w:World) (mg:Str->Option Value) (fa:Addr) (h:Heap),(K w.params).In h->h.Ns mainGlobals mg->mg d.name=some (.ref fa)->
   ∃fd:FuncData,(∀(s:Shared) (u:Value),BindsTo s fd ⟨[u],[]⟩ [(x,u)])/\
    ∀base:Heap,(K w.params).In base->base.Ns mainGlobals mg->iQ l.prog w (K w.params) mg base (CX w) k fa fd [x] (sp w))
  (Es:∀(w:World) (H:Hp) (a:Addr) (ns:List Int),ns.length<=n->Gu H->dq (K w.params) H a (ns.map V.int)->sp w [.ref a] H (λv _=>v= .bl true) λ_ _ _=>False)
  (OZ:∀(w:World) (H:Hp) (s:Shared) (e:Value) (s':Shared),CX w [] H s (λ_ _ _=>False) e s'->False):
  PySem.W.WalkO q loose XP YP l.row.toRowW d [] (λf vs=>PySem.call f vs):=by
 refine RY.qE hn KC λw s₀ bg mg mb fa o pm cd gS a vs ns G Y ho hd xR KD Gs hints a_ hg=>?_
 have KX:=hY w _ Y
 exact aa (F w mg fa _ KX G.T.g KD) λfd hb hF=>yj KX G.T.g G.T.b G.T.builtins G.T.nolimit hg Gs hints (XZ a_ KH) hr hF hb (λH hO hS=>Es w H a ns a_ hO hS) λH e s'=>OZ w H bg e s'
noncomputable def dB(s:Stmt):Arguments:=match s with
 | .FunctionDef _ a _ _ _ _ _ _ _ _=>a
 |_=>{posonlyargs:=[],args:=[],vararg:=none,kwonlyargs:=[],kw_defaults:=[],kwarg:=none,defaults:=[]}
noncomputable def b7(s:Stmt):List Stmt:=match s with
 | .FunctionDef _ _ b _ _ _ _ _ _ _=>b
 |_=>[]
noncomputable def aH(s:Stmt):Scope:=match s with
 | .FunctionDef _ _ _ _ _ _ sc _ _ _=>sc
 |_=>{kind:= .function,names:=[],isGenerator:=false,isCoroutine:=false}
abbrev wu:xY:=λ_ _ _ _ _ _=>False
abbrev E0:XK:=λ_ _ _=>False
def yk:sO wu X E0:=λ_ _ _ _ _ _ _ h=>h.elim
structure EA(K:PySem.W.Frag)(x qual:Str)(st:Stmt)(f:Addr)(fd:FuncData):Prop where
 ex:∃(oc:Value) (od:Option Addr) (kV gS pm:Value) (an:Option Addr) (eQ ct:Value) (BL:Array (Option Value)),
  fd=PySem.W.fnOf x qual (dB st) (b7 st) (aH st) .none kV gS pm an eQ ct/\K.lookup f=some ⟨oc,od,.func fd,BL⟩/\PySem.W.codeIn K eQ qual=true
 kp:PySem.W.keepIn K (.ref f)=true
section
variable {P:Program}{w:World}{K:PySem.W.Frag}{mg:Str->Option Value}{base:Heap}{X:Cx}
def EA.ok{x qual:Str}{st:Stmt}{f:Addr}{fd:FuncData}{N ps:List Str}{k:Nat}{sp:Sp}(F:EA K x qual st f fd)(S:gI N ps (aH st))(len:∀vs H Q E,sp vs H Q E->vs.length=ps.length)
  (x_:∀(eQ:Value) (A:Around) (outer:List Env) (s:Shared) (H:Hp) (vs:List V) (Q:VK) (E:XK),eL k (A.deeper (envOfC qual (aH st) s.heap.objs.size f eQ))->sp vs H Q E->
   ∃t,kO (sQ wu P w K mg base N qual (aH st) f eQ A outer s H E).Kc (b7 st) t/\t {nx:=λ_ H'=>Q .cy H',rt:=Q} (start N vs) H):iQ P w K mg base wu (k+1) f fd ps sp:=by
 refine RP F.ex λoc od kV gS pm an eQ ct BL ag lk xR=>?_
 subst ag
 exact Kp lk xR S len λA outer s H vs Q E hr Es=>aa (x_ eQ A outer s H vs Q E hr Es) λt h q=>⟨t,h.Kc,q⟩
def EA.binds{x qual:Str}{st:Stmt}{f:Addr}{fd:FuncData}{ps:List Str}(F:EA K x qual st f fd)
  (h:∀(kV gS pm:Value) (an:Option Addr) (eQ ct:Value) (us:List Value),us.length=ps.length->bindArgs (PySem.W.fnOf x qual (dB st) (b7 st) (aH st) .none kV gS pm an eQ ct) ⟨us,[]⟩=pure (ps.zip us)):Binds K fd ps []:=by
 refine RP F.ex λoc od kV gS pm an eQ ct BL ag lk xR=>?_
 subst ag
 exact .all (h kV gS pm an eQ ct)
def Gv{x qual:Str}{st:Stmt}{f:Addr}{oc:Value}{od an:Option Addr}{BL:Array (Option Value)}{kV gS pm eQ ct:Value}(l:K.lookup f=some ⟨oc,od,.func (PySem.W.fnOf x qual (dB st) (b7 st) (aH st) .none kV gS pm an eQ ct),BL⟩)
  (c:PySem.W.codeIn K eQ qual=true) (k:PySem.W.keepIn K (.ref f)=true):EA K x qual st f (PySem.W.fnOf x qual (dB st) (b7 st) (aH st) .none kV gS pm an eQ ct):=⟨⟨oc,od,kV,gS,pm,an,eQ,ct,BL,rfl,l,c⟩,k⟩
end
def m_{A B:Prop}(h:B):if false=true then A else B:=by
 rw[Xs W2]
 exact h
def lK{A B:Prop}(h:A):if true=true then A else B:=by
 rw[Xl rfl]
 exact h
def af(H H':Hp):Prop:=∀b o,H b=some o->H' b=some o
def af.refl(H:Hp):af H H:=λ_ _ h=>h
def af.trans(a:af H H1)(b:af H1 H2):af H H2:=λc o h=>b c o (a c o h)
def af.seq{K:PySem.W.Frag}{H H':Hp}{a:Addr}{xs:List V}(e:af H H')(h:dq K H a xs):dq K H' a xs:=by
 rcases h with (h|⟨o,h⟩)|h
 .exact .inl (.inl (e _ _ h))
 .exact .inl (.inr ⟨o,e _ _ h⟩)
 .exact .inr h
end L2
namespace L2
open PySem
theorem iA(env:Env):∀(l:List (Str×NameKind)) (cs:List (Str×Addr)),(∀y∈l,y.2= .free ->∃c,env.cells.lookup y.1=some c)->
  ∃cl,(forIn l cs λ(x:Str×NameKind) (r:List (Str×Addr))=>if(x.2==NameKind.free)=true then(do let a<-cellOf env x.1;pure (ForInStep.yield ((x.1,a)::r))) else pure (ForInStep.yield r):Sem (List (Str×Addr)))=pure cl/\
   (∀x c,cl.lookup x=some c->cs.lookup x=some c\/(env.cells.lookup x=some c/\(x,NameKind.free)∈l))/\
   (∀x,(x,NameKind.free)∈l\/(∃c,cs.lookup x=some c)->∃c,cl.lookup x=some c)
 |[],cs,_=>⟨cs,rfl,λx c h=> .inl h,λx h=>h.elim (λz=>nomatch z) id⟩
 |(n,k)::l,cs,h=>by
  have hl:∀y∈l,y.2= .free ->∃c,env.cells.lookup y.1=some c:=λy hy=>h y (W4 _ hy)
  by_cases hk:k= .free
  .subst hk
   obtain⟨c,hc⟩:=h (n,.free) W6 rfl
   refine bJ (iA env l ((n,c)::cs) hl) λcl e h1 h2=>⟨cl,?_,λx d hx=>?_,λx hx=>?_⟩
   .rw[YL]
    simp only[beq_self_eq_true,if_true,cellOf,hc]
    exact e
   .rcases h1 x d hx with z|⟨z,m⟩
    .rw[Ze]at z
     by_cases Jp:(x==n)=true
     .rw[Jp]at z
      have:x=n:=eq_of_beq Jp
      subst this
      cases z
      exact .inr ⟨hc,W6⟩
     .have e0:(x==n)=false:=by simpa using Jp
      rw[e0]at z
      exact .inl z
    .exact .inr ⟨z,W4 _ m⟩
   .refine h2 x ?_
    rcases hx with hx|⟨d,hd⟩
    .rcases Xc.mp hx with e1|hx
     .cases e1
      exact .inr ⟨c,by rw[Ze,beq_self_eq_true]⟩
     .exact .inl hx
    .by_cases Jp:(x==n)=true
     .exact .inr ⟨c,by rw[Ze,Jp]⟩
     .have e0:(x==n)=false:=by simpa using Jp
      exact .inr ⟨d,by rw[Ze,e0];exact hd⟩
  .refine bJ (iA env l cs hl) λcl e h1 h2=>?_
   have hb:(k==NameKind.free)=false:=by simpa using hk
   refine⟨cl,?_,λx d hx=>?_,λx hx=>h2 x ?_⟩
   .rw[YL]
    simp only[hb,X9,if_false]
    exact e
   .rcases h1 x d hx with z|⟨z,m⟩
    .exact .inl z
    .exact .inr ⟨z,W4 _ m⟩
   .rcases hx with hx|hx
    .rcases Xc.mp hx with e1|hx
     .cases e1;exact absurd rfl hk
     .exact .inl hx
    .exact .inr hx
def sZ(h:∀y∈sc.names,y.2= .free ->∃c,env.cells.lookup y.1=some c):
  ∃cl,closureFor sc env=pure cl/\(∀x c,cl.lookup x=some c->env.cells.lookup x=some c/\(x,NameKind.free)∈sc.names)/\(∀x,(x,NameKind.free)∈sc.names->∃c,cl.lookup x=some c):=by
 refine bJ (iA env sc.names [] h) λcl e h1 h2=>⟨cl,?_,λx c hx=>(h1 x c hx).resolve_left (λz=>by simp at z),λx hx=>h2 x (.inl hx)⟩
 have e':closureFor sc env=(forIn sc.names ([]:List (Str×Addr)) λ(x:Str×NameKind) (r:List (Str×Addr))=>if(x.2==NameKind.free)=true then(do let a<-cellOf env x.1;pure (ForInStep.yield ((x.1,a)::r))) else pure (ForInStep.yield r):Sem (List (Str×Addr))) >>= λr=>pure r:=by
  rfl
 rw[e',e]
 rfl
section
variable {prog:Program}{w:World}{A:Around}{E:Value->Shared->Prop}{R:Result->Shared->Prop}{s:Shared}
def s_(I:Nat->Shared->Prop)
  (turn:∀n s,I n s->wpAny (model prog w) A (pyNext it) (λr bg=>match r with
   |none=>R (.ok .next) bg
   |some v=>wpAny (model prog w) A (letOwnedTupleGo target it v) (λ_ EB=>wpAny (model prog w) A (assign target env v) (λ_ lB=>
     wpAny (model prog w) A (forIn ifs true λc r=>if r=true then do let ok<-isTrue c env (eval c env);pure (ForInStep.yield ok) else pure (ForInStep.yield r)) (λok wx=>
      if ok=true then wpAny (model prog w) A (eval dO env) (λx KI=>
       wpAny (model prog w) A (call (.builtin "list.append") [acc,x]) (λ_ KJ=>∃m,m<n/\I m KJ) (λ_ _=>False) KI) (λ_ _=>False) wx
      else∃m,m<n/\I m wx) (λ_ _=>False) lB) (λ_ _=>False) EB) (λ_ _=>False) bg) (λ_ _=>False) s)
  (n:Nat) (h:I n s):
  codeAny (model prog w) A (.compLoop (.ListComp dO [⟨target,iter,ifs,0⟩] scope pos) 0 it acc env) R s:=by
 refine codeAny_loop rfl I (λn s hI=>?_) n h
 show wpAny _ A ((compTurn (.ListComp dO [⟨target,iter,ifs,0⟩] scope pos) 0 it acc env).onRaise (λx=>do noteFrame x env;theTreesLotGoes x)) _ _ s
 refine wpAny_noted ?_
 rw[compTurn_list]
 refine WV (aac (WV (Yo (turn n s hI) (λr bg BX=>?_) λ_ _ h'=>h'.elim)))
 cases r with
 |none=>exact W7 BX
 |some v=>
  refine WV (Yo BX (λ_ EB KL=>?_) λ_ _ h'=>h'.elim)
  refine WV (Yo KL (λ_ lB yl=>WV (Yo yl (λok wx BY=>?_) λ_ _ h'=>h'.elim)) λ_ _ h'=>h'.elim)
  cases ok with
  |false=>exact W7 ⟨rfl,BY⟩
  |true=>
   exact WV (WV (Yo BY (λx KI O3=>WV (Yo O3 (λ_ KJ O4=>W7 (W7 ⟨rfl,O4⟩)) λ_ _ h'=>h'.elim)) λ_ _ h'=>h'.elim))
end
end L2
set_option maxHeartbeats 4000000
namespace L2
open PySem PySem.Spec PyProof.Rows
def Inv.EC(I:Inv X U σ H s)(h:dq X.K H a xs):∃(its:List Value) (n:Nat),aL xs its/\xs.length=its.length/\s.heap.get? a=some {cls:= .type "list",data:= .seq its.toArray n}/\xs.length<=sizeLine:=by
 rcases h with h|⟨o,its,n,hk,hc,hd,hs,hz,r,Nw⟩
 .obtain⟨z,its,n,r,e⟩:=h.ok I.aW
  exact⟨its,n,r,r.length,e,z⟩
 .refine⟨its.toList,n,r,r.length,?_,?_⟩
  .rw[I.El a o hk]
   obtain⟨c,d,dt,sl⟩:=o
   simp only at hc hd hs Nw
   subst hc hd hs Nw
   simp
  .have e:=r.length
   simp only[Xt]at e
   lia
theorem Nx{env:Env}:∀{names:List (Str×NameKind)}{x:Str},(names.map λ(n,k)=>if(k==NameKind.free&&env.scope.kind == .function&&env.kindOf n==some .cell) then(n,NameKind.cell) else(n,k)).lookup x=
  (names.lookup x).map λk=>if(k==NameKind.free&&env.scope.kind == .function&&env.kindOf x==some .cell)=true then NameKind.cell else k
 |[],_=>rfl
 |(n,k)::r,x=>by
  rw[Xj]
  show List.lookup x ((if(k==NameKind.free&&env.scope.kind == .function&&env.kindOf n==some .cell)=true then(n,NameKind.cell) else(n,k))::_)=_
  cases hx:x==n with
  |true=>
   cases eq_of_beq hx
   rw[aav,Zl]
   split<;>exact aav
  |false=>split<;>simp only[Ze,hx]<;>exact Nx
def gT{sc:Scope}{env:Env}(h:sc.names.lookup x=some .free):(relabel sc env).names.lookup x=some .cell \/(relabel sc env).names.lookup x=some .free :=by
 refine(show _=_ from Nx)▸?_
 rw[h,Zl]
 split
 .exact .inl rfl
 .exact .inr rfl
def km{sc:Scope}{env:Env}(hk:kd= .cell \/kd= .free)(h:(relabel sc env).names.lookup x=some kd):(x,NameKind.free)∈sc.names\/(x,NameKind.cell)∈sc.names:=by
 rw[show(relabel sc env).names.lookup x=_ from Nx]at h
 obtain⟨k,h1,h2⟩:=YV.mp h
 have:=XJ h1
 cases k with
 |free=>exact .inl this
 |cell=>exact .inr this
 |_=>simp at h2;subst h2;rcases hk with z|z<;>cases z
theorem lL:∀{names:List (Str×NameKind)}{n:Nat}{acc:List (Str×Addr)},cellsFrom n names acc=cellsFrom n names []++acc
 |[],_,_=>rfl
 |(x,k)::r,n,acc=>by
  unfold cellsFrom
  split
  .rw[lL,lL (acc:=[(x,n)]),Xw];rfl
  .exact lL
theorem pj:∀{names:List (Str×NameKind)}{n:Nat},(∀x c,(x,c)∈cellsFrom n names []->(x,NameKind.cell)∈names)/\∀x,(x,NameKind.cell)∈names->∃c,(cellsFrom n names []).lookup x=some c
 |[],_=>⟨λ_ _ h=>(nomatch h),λ_ h=>nomatch h⟩
 |(y,k)::r,n=>by
  unfold cellsFrom
  split
  .rename_i hk
   cases eq_of_beq hk
   rw[lL]
   obtain⟨a,b⟩:=@pj r (n+1)
   refine⟨λx c h=>?_,λx h=>?_⟩
   .rcases Xk.mp h with z|z
    .exact W4 _ (a x c z)
    .cases W5.mp z;exact W6
   .rw[ZT]
    cases q:(cellsFrom (n+1) r []).lookup x with
    |some c=>exact⟨c,rfl⟩
    |none=>
     rcases Xc.mp h with z|z
     .cases z;exact⟨n,by simp⟩
     .obtain⟨c,hc⟩:=b x z
      rw[q]at hc;cases hc
  .rename_i hk
   obtain⟨a,b⟩:=@pj r n
   refine⟨λx c h=>W4 _ (a x c h),λx h=>?_⟩
   rcases Xc.mp h with z|z
   .cases z;exact absurd rfl hk
   .exact b x z
def wy(X:Cx)(ifs:List Expr)(t:TT):Prop:=
 ∀(U:List (Addr×Obj)) (s:Shared) (σ:St) (H:Hp) (Q:Bool->Hp->Prop),Inv X U σ H s->t σ H Q->
  wpAny (model X.prog X.w) X.A (forIn ifs true λc r=>if r=true then do let ok<-isTrue c X.env (eval c X.env);pure (ForInStep.yield ok) else pure (ForInStep.yield r)) (TP X U σ Q) X.xe s
theorem nR:∀(cs:List Expr),(forIn cs false λc r=>if r=true then do let ok<-isTrue c env (eval c env);pure (ForInStep.yield ok) else pure (ForInStep.yield r):Sem Bool)=pure false
 |[]=>rfl
 |c::cs=>by
  rw[YL,Xs W2]
  exact nR cs
section
variable {X:Cx}
def BZ:wy X [] (λσ H Q=>Q true H):=λ_ _ _ H _ I h=>W7 ⟨H,I,h⟩
def ym(h:PT X c t)(hr:wy X cs u):wy X (c::cs) (J3 t u):=by
 intro U s σ H Q I hw
 rw[YL,Xl rfl]
 refine WV (WV (bG (h U s σ H _ I hw) λb s1 zz=>aa zz λH1 I1 q1=>W7 ?_))
 cases b with
 |true=>exact hr U s1 σ H1 Q I1 q1
 |false=>
  show wpAny _ _ (forIn cs false _) _ _ _
  rw[nR]
  exact W7 ⟨H1,I1,q1⟩
noncomputable def iW(fr:List Nat)(σ:St):St:=fr.map λi=>(σ[i]?).join
noncomputable def gU(X:Cx)(sc:Scope)(cl:List (Str×Addr))(C:Addr)(N:List Str)(U:List (Addr×Obj))(s:Shared)(H:Hp)(ex:List Addr):Cx:=
 {X with N:=N,s₀:=s,H₀:=H,env:=compEnvC sc cl C X.env,outer:=X.stack,ex:=ex,fn:=λx=>decide ((x,NameKind.cell)∈sc.names),pn:=X.pn++U,xe:=λ_ _=>False}
structure Gw(N:List Str)(yo:Scope)(sc:Scope)(N':List Str)(k:Nat)(fr:List Nat):Prop where
 kind:sc.kind= .function
 apart:∀y∈sc.names,y.2= .free ->(y.1,NameKind.cell)∉sc.names
 loc:∀y∈sc.names,y.2= .local ->sc.names.lookup y.1=some .local
 free:∀y∈sc.names,y.2= .free ->yo.names.lookup y.1=some .cell \/yo.names.lookup y.1=some .free
 len:N'.length=k+fr.length
 Ue:∀j x,N'[k+j]?=some x->∃i,fr[j]?=some i/\N[i]?=some x/\sc.names.lookup x=some .free
def nT(k:Nat)(fr:List Nat)(wi:TI)(g:TG)(tt:TT)(te:TE):TE:=λσ H Q=>wi σ H λJ H1=>
 ∀p,H1 p=none->∃W:Nat->Nat->Hp->Prop,(∃m,W 0 m (upd H1 p (.lst [])))/\∀i m H,W i m H->
  (J.stop i H/\Q (.ref p) H)\/
  (J.go i H/\∀x H',J.xV i H x H'->g x (List.replicate k none++iW fr σ) H' λxF H2=>tt xF H2 λb H3=>
   if b=true then te xF H3 λv H4=>∃xs m',H4 p=some (.lst xs)/\xs.length<sizeLine/\m'<m/\W (i+1) m' (upd H4 p (.lst (xs++[v])))
   else∃m',m'<m/\W (i+1) m' H3)
def pv(k:Nat)(g:TG):Prop:=∀x σ H Q,g x σ H Q->g x σ H λxF H2=>Q xF H2/\xF.length=σ.length/\∀i,k<=i->xF[i]?=σ[i]?
def yp(I:Inv X U σ H s)(S:Gw X.N X.env.scope sc N' k fr)
  (h1:∀x c,cl.lookup x=some c->X.env.cells.lookup x=some c/\(x,NameKind.free)∈sc.names\/(x,NameKind.cell)∈sc.names/\s.heap.objs.size<c/\s4.heap.IsCell c none) (h2:∀x,(x,NameKind.free)∈sc.names\/(x,NameKind.cell)∈sc.names->∃c,cl.lookup x=some c)
  (inj:∀x y c,cl.lookup x=some c->cl.lookup y=some c->x=y) (Ny:∀b∈fp,kD X U H b) (bZ:∀b∈fp,b<s.heap.objs.size) (os:s4.os=s.os) (gens:s4.gens=s.gens) (keep:∀b o,s.heap.get? b=some o->s4.heap.get? b=some o)
  (ns:s4.heap.Ns s.heap.objs.size m):
  Inv (gU X sc cl s.heap.objs.size N' U s H fp) [] (List.replicate k none++iW fr σ) H s4:=by
 have kx:∀x,(x,NameKind.free)∈sc.names->X.env.kindOf x=some .cell \/X.env.kindOf x=some .free :=λx hx=>S.free (x,.free) hx rfl
 have ED:∀x c v,X.env.cells.lookup x=some c->s.heap.IsCell c v->s4.heap.IsCell c v:=λx c v _ ⟨o,ho,hd⟩=>⟨o,keep c o ho,hd⟩
 refine⟨⟨I.ok.mod,S.kind,I.ok.glob,I.ok.blt,W9 _,inj,λx hx=>?_,λx c hf hx=>?_,I.ok.hd,I.ok.frames,.inl rfl,λb hb=>⟨?_,λx c hx=>?_⟩,I.bs,XZ I.ok.xO I.sz,λb o e hb=>?_,λb hb=>?_,I.stack,I.ui⟩,
  os,by rw[gens];exact I.bare,Un.kept keep,⟨m,ns,λi x v e1 e2 e3=>?_⟩,λx c hx=>?_,I.fresh,λx c hx=>?_,λp hp=>?_,I.aW.kept keep,?_⟩
 .rcases hx with hx|hx
  .exact h2 x (km (.inl rfl) hx)
  .exact h2 x (km (.inr rfl) hx)
 .rcases h1 x c hx with z|z
  .exact absurd (of_decide_eq_true hf) (S.apart _ z.2 rfl)
  .exact ZQ z.2.1
 .exact Xu (bZ b hb)
 .rcases h1 x c hx with z|z
  .exact(Ny b hb).2.2.2.2.1 x c z.1
  .exact aaZ (Zi (bZ b hb) z.2.1)
 .rcases (Ny b hb).2.2.2.1 with z|z
  .exact I.ok.xP b o e z
  .exact absurd (XC (XC (Xg e) I.ok.xO) z) (XS _)
 .intro jE
  rcases Xc.mp (I.lA b jE)with z|z
  .exact(Ny b hb).2.1 z
  .exact(Ny b hb).2.2.1 z
 .by_cases hi:i<k
  .rw[XI (by simpa using hi),ZA hi]at e2
   cases e2
  .have iX:k<=i:=aag hi
   rw[XN (by simpa using iX),YX]at e2
   have qk:N'[k+(i-k)]?=some x:=by rw[Nat.add_sub_cancel' iX];exact e1
   refine bJ (S.Ue (i-k) x qk) λj f1 f2 f3=>?_
   unfold iW at e2
   rw[Xb,f1]at e2
   have B0:(σ[j]?).join =some v:=by simpa using e2
   have O5:σ[j]?=some (some v):=by
    cases q:σ[j]? with
    |none=>rw[q]at B0;cases B0
    |some y=>rw[q]at B0;simp at B0;rw[B0]
   refine aa I.loc λmo sq Gr=>?_
   have Ug:v8 X.env.scope x:=by
    rcases kx x (XJ f3)with z|z
    .exact .inr (.inl z)
    .exact .inr (.inr z)
   refine aa (Gr j x v f2 O5 Ug) λu r l=>⟨u,r,?_⟩
   rcases l with⟨z,_⟩|⟨_,c,hc,uk⟩
   .rcases kx x (XJ f3)with y|y
    .rw[y]at z;cases z
    .rw[y]at z;cases z
   .obtain⟨c',kN⟩:=h2 x (.inl (XJ f3))
    have ec:=(h1 x c' kN).resolve_right λz=>S.apart _ (XJ f3) rfl z.1
    cases hc.symm.trans ec.1
    refine .inr ⟨?_,c,kN,ED x c _ hc uk⟩
    have vz:v8 (relabel sc X.env) x:=e3
    rcases vz with z|z|z
    .rcases gT (env:=X.env) f3 with y|y<;>cases y.symm.trans z
    .exact .inl z
    .exact .inr z
 .rcases h1 x c hx with y|y
  .obtain⟨v,z⟩:=I.cell x c y.1
   exact⟨v,ED x c v y.1 z⟩
  .exact⟨_,y.2.2⟩
 .rcases h1 x c hx with y|y
  .exact I.fS x c y.1
  .exact I.aW.fresh (ZQ y.2.1)
 .have Jq:p∈X.pn++U:=by simpa[gU]using hp
  refine JM (I.pin p Jq) λe n ne nf d=>⟨keep _ _ e,n,Xu (Xg e),λz=>?_,d⟩
  rcases Xc.mp (I.lA p.1 z)with y|y
  .exact ne y
  .exact nf y
 .show _=N'.length
  rw[S.len,W_,YX]
  unfold iW
  rw[WZ]
def KN(X:Cx)(U:List (Addr×Obj))(H:Hp)(C:Addr):Prop:=
 H C=none/\C≠X.env.locals/\X.s₀.heap.objs.size<=C/\(∀x c,X.env.cells.lookup x=some c->c≠C)/\∀p∈X.pn++U,p.1≠C
def Inv.KO(I:Inv X U σ H s)(h:KN X U H C)(hs:Heap.SameBut C s.heap h'):Inv X U σ H {s with heap:=h'}:=by
 exact JM h λa b c d e=>I.turned (t':=s.toks) (it:=C) (λb o hb q=>(hs.2 b hb).trans q) a b (.inr c) d e
def nU{U:List (Addr×Obj)}{σ:St}{H1:Hp}{s2:Shared}{dO tg iter:Expr}{ifs:List Expr}{sc:Scope}{pos:Pos}{N':List Str}{k:Nat}{fr:List Nat}{cl:List (Str×Addr)}{fp:List Addr}{it:Addr}{tn:Nat->Heap->Prop}{J:It}
  {g:TG}{tt:TT}{te:TE}{E:Value->Shared->Prop}{Qe:Addr->Hp->Prop}{RR:Value->Addr->Result->Shared->Prop}
  (I2:Inv X U σ H1 s2) (T:oX X.prog X.w X.K tg J fp it tn) (cJ:tn 0 s2.heap) (f2:∀b∈fp,kD X U H1 b) (S:Gw X.N X.env.scope sc N' k fr) (hc:X.calm=true)
  (h1:∀x c,cl.lookup x=some c->X.env.cells.lookup x=some c/\(x,NameKind.free)∈sc.names) (h2:∀x,(x,NameKind.free)∈sc.names->∃c,cl.lookup x=some c) (gk:pv k g)
  (Gx:∀cl C s H ex,PG (gU X sc cl C N' U s H ex) tg g/\wy (gU X sc cl C N' U s H ex) ifs tt/\PE (gU X sc cl C N' U s H ex) dO te)
  (hW:∀p,H1 p=none->∃W:Nat->Nat->Hp->Prop,(∃m,W 0 m (upd H1 p (.lst [])))/\∀i m H,W i m H->
   (J.stop i H/\Qe p H)\/
   (J.go i H/\∀x H',J.xV i H x H'->g x (List.replicate k none++iW fr σ) H' λxF H2=>tt xF H2 λb H3=>
    if b=true then te xF H3 λv H4=>∃xs m',H4 p=some (.lst xs)/\xs.length<sizeLine/\m'<m/\W (i+1) m' (upd H4 p (.lst (xs++[v])))
    else∃m',m'<m/\W (i+1) m' H3))
  (Uh:∀a C s' H',Inv X U σ H' s'->KN X U H' C->(∃m,s'.heap.Ns C m)->Qe a H'->RR (.ref a) C (.ok .next) s'):
  wpAny (model X.prog X.w) X.A (newList []) (λacc s3=>wpAny (model X.prog X.w) X.A (newFunctionEnv sc X.env.globals cl [] X.env.qual none .none (some X.env)) (λKP s4=>
   codeAny (model X.prog X.w) X.A (.compStart (.ListComp dO [⟨tg,iter,ifs,0⟩] sc pos) 0 (.ref it) acc {KP with scope:=relabel sc X.env}) (RR acc KP.locals) s4) E s3) E s2:=by
 have hD:H1 s2.heap.objs.size=none:=I2.fresh
 refine aq λnO=>?_
 obtain⟨W,⟨m0,w0⟩,turn⟩:=hW _ hD
 refine nO ?_
 have EE:∀b∈fp,b<s2.heap.objs.size:=λb hb=>by
  exact aa (T.obj _ _ cJ b hb) λo e _=>Xg e
 refine XG ?_ (Ye _)
 have I3:Inv X U σ (upd H1 s2.heap.objs.size (.lst [])) {s2 with heap:=s2.heap.push {cls:= .type "list",data:= .seq ([]:List Value).toArray}}:=I2.KA (ys:=[]) (its:=[]) (t':=s2.toks) .nil (Ye _)
 have EF:∀b o,s2.heap.get? b=some o->(s2.heap.push {cls:= .type "list",data:= .seq ([]:List Value).toArray}).get? b=some o:=λb o e=>WY _ e
 have ne:∀b∈fp,b≠s2.heap.objs.size:=λb hb=>Xu (EE b hb)
 have f3:∀b∈fp,kD X U (upd H1 s2.heap.objs.size (.lst [])) b:=λb hb=>⟨by rw[ak (ne b hb)];exact(f2 b hb).1,(f2 b hb).2⟩
 have B1:∀b∈fp,b<(s2.heap.push {cls:= .type "list",data:= .seq ([]:List Value).toArray}).objs.size :=λb hb=>by
  rw[Yq];exact YB (EE b hb)
 have kE:tn 0 (s2.heap.push {cls:= .type "list",data:= .seq ([]:List Value).toArray}):=T.keep _ _ _ cJ λb _ o e=>EF b o e
 generalize Ui:({s2 with heap:=s2.heap.push {cls:= .type "list",data:= .seq ([]:List Value).toArray}}:Shared)=s3 at *
 have Uj:s3.heap=s2.heap.push {cls:= .type "list",data:= .seq ([]:List Value).toArray}:=by rw[<-Ui]
 rw[<-Uj]at EF B1 kE
 simp only[newFunctionEnv,aaT,if_true]
 refine WV (wpAny_alloc (WV (wpAny_layCells _ (λname kind cells=>by cases Uk:kind==NameKind.cell<;>simp[Uk]) _ _ _ _ ?_)))
 have ok:=cellsFrom_ok sc.names (s3.heap.push {cls:= .type "dict",data:= .dict #[]}) (s3.heap.objs.size+1) [] ⟨λ_ _ hm=>(nomatch hm),List.Pairwise.nil⟩ (by rw[Yq];exact W9 _)
 rw[Yq]at ok
 rw[show({s3 with heap:=s3.heap.push {cls:= .type "dict",data:= .dict #[]}}:Shared).heap.objs.size =s3.heap.objs.size+1 from Yq ..,lL]
 refine WV (W7 (W7 ?_))
 have EG:∀b o,s3.heap.get? b=some o->(pushCells (s3.heap.push {cls:= .type "dict",data:= .dict #[]}) sc.names).get? b=some o:=λb o e=>pushCells_keeps _ _ b o (WY _ e)
 have Ul:=(Heap.Ns.new s3.heap (.type "dict")).keeps (pushCells_keeps sc.names _)
 have g1:∀x c,(cellsFrom (s3.heap.objs.size+1) sc.names []++cl).lookup x=some c->X.env.cells.lookup x=some c/\(x,NameKind.free)∈sc.names\/(x,c)∈cellsFrom (s3.heap.objs.size+1) sc.names []:=λx c e=>by
  rw[ZT]at e
  cases q:(cellsFrom (s3.heap.objs.size+1) sc.names []).lookup x with
  |some c'=>rw[q]at e;cases e;exact .inr (XJ q)
  |none=>rw[q]at e;exact .inl (h1 x c e)
 have g2:∀x,(x,NameKind.free)∈sc.names\/(x,NameKind.cell)∈sc.names->∃c,(cellsFrom (s3.heap.objs.size+1) sc.names []++cl).lookup x=some c:=λx e=>by
  rw[ZT]
  cases q:(cellsFrom (s3.heap.objs.size+1) sc.names []).lookup x with
  |some c=>exact⟨c,rfl⟩
  |none=>
   rcases e with z|z
   .exact h2 x z
   .obtain⟨c,hc⟩:=pj.2 x z
    cases q.symm.trans hc
 have R3:∀x c,X.env.cells.lookup x=some c->c<s3.heap.objs.size:=λx c e=>by
  obtain⟨v,z⟩:=I3.cell x c e
  exact z.lt
 have gj:∀x y c,(cellsFrom (s3.heap.objs.size+1) sc.names []++cl).lookup x=some c->(cellsFrom (s3.heap.objs.size+1) sc.names []++cl).lookup y=some c->x=y:=λx y c e1 e2=>by
  rcases g1 x c e1 with a|a<;>rcases g1 y c e2 with b|b
  .exact I3.ok.inj x y c a.1 b.1
  .exact absurd (Zi (R3 x c a.1) (ok.empty y c b).2) (XS _)
  .exact absurd (Zi (R3 y c b.1) (ok.empty x c a).2) (XS _)
  .exact name_of_addr ok.apart a b
 have g3:∀x c,(cellsFrom (s3.heap.objs.size+1) sc.names []++cl).lookup x=some c->X.env.cells.lookup x=some c/\(x,NameKind.free)∈sc.names\/(x,NameKind.cell)∈sc.names/\s3.heap.objs.size<c/\(pushCells (s3.heap.push {cls:= .type "dict",data:= .dict #[]}) sc.names).IsCell c none:=λx c e=>(g1 x c e).imp_right λz=>⟨pj.1 x c z,(ok.empty x c z).2,(ok.empty x c z).1⟩
 clear ok g1 h1 h2
 generalize cellsFrom (s3.heap.objs.size+1) sc.names []++cl=cl at *
 generalize pushCells (s3.heap.push {cls:= .type "dict",data:= .dict #[]}) sc.names=h4 at *
 generalize eH:upd H1 s2.heap.objs.size (.lst [])=H3 at *
 generalize eD:s2.heap.objs.size=D at *
 have J4:Inv (gU X sc cl s3.heap.objs.size N' U s3 H3 fp) [] (List.replicate k none++iW fr σ) H3 {s3 with heap:=h4,toks:=s3.toks}:=
  yp (s4:={s3 with heap:=h4,toks:=s3.toks}) I3 S g3 g2 gj f3 B1 rfl rfl EG Ul
 have Jr:tn 0 h4:=T.keep _ _ _ kE λb _ o e=>EG b o e
 refine cN (Gx cl s3.heap.objs.size s3 H3 fp) λpg pt pe=>?_
 have sM:∀{H':Hp},(∀b∈fp,H' b=none)->∀b∈fp,kD (gU X sc cl s3.heap.objs.size N' U s3 H3 fp) [] H' b:=λ{H'} hn b hb=>by
  refine aq λnO=>sk (f3 b hb) λ_ a1 a2 a3 a4 a5=>nO ?_
  refine⟨hn b hb,Xu (B1 b hb),λz=>?_,.inl hb,λx c hx=>(g3 x c hx).elim (λz=>a4 x c z.1) λz=>aaZ (Zi (B1 b hb) z.2.1),λp hp=>a5 p (by simpa[gU]using hp)⟩
  rcases Xc.mp (I3.lA b z)with y|y
  .exact a1 y
  .exact a2 y
 have fin:∀{s':Shared}{H':Hp},Inv (gU X sc cl s3.heap.objs.size N' U s3 H3 fp) [] (List.replicate k none++iW fr σ) H' s'->Qe D H'->RR (.ref D) s3.heap.objs.size (.ok .next) s':=λ{s' H'} J5 q=>by
  refine Uh D s3.heap.objs.size s' H' ?_ ⟨J5.free,(Xu I3.lt).symm,I3.sz,λx c hx z=>?_,λp hp z=>?_⟩ (let ⟨m,hn,_⟩:=J5.loc;⟨m,hn⟩) q
  .exact I3.JZ (ch:=fp) J5.os J5.base J5.aW J5.bare λb hb=>let ⟨_,a1,a2,a3,a4,a5⟩:=f3 b hb;⟨a3,a1,a4,a5⟩
  .exact aq λnO=>ef (I3.cell x c hx) λv o ho _=>nO<|absurd (Xg ho) (by rw[z];exact XS _)
  .exact absurd (Xg (I3.pin p hp).1) (by rw[z];exact XS _)
 have loop:∀s5:Shared,s5={s3 with heap:=h4,toks:=s3.toks}->codeAny (model X.prog X.w) X.A (.compLoop (.ListComp dO [⟨tg,iter,ifs,0⟩] sc pos) 0 (.ref it) (.ref D) (compEnvC sc cl s3.heap.objs.size X.env)) (RR (.ref D) s3.heap.objs.size) s5:=by
  rintro s5 rfl
  refine s_ (λn s'=>∃i H',Inv (gU X sc cl s3.heap.objs.size N' U s3 H3 fp) [] (List.replicate k none++iW fr σ) H' s'/\tn i s'.heap/\(∀b∈fp,H' b=none)/\W i n H') ?_ m0 ⟨0,H3,J4,Jr,λb hb=>(f3 b hb).1,w0⟩
  rintro n s5 ⟨i,H5,J5,wk,Nr,w5⟩
  rcases turn i n H5 w5 with⟨stop,qn⟩|⟨go,step⟩
  .refine bG (T.done (gU X sc cl s3.heap.objs.size N' U s3 H3 fp) rfl rfl rfl hc i [] s5 _ H5 (λ_ _=>False) J5 (sM Nr) wk stop) λr s6 zz=>?_
   obtain⟨hr,J6⟩:=zz
   subst hr
   exact fin J6 qn
  .refine bG (T.item (gU X sc cl s3.heap.objs.size N' U s3 H3 fp) rfl rfl rfl hc i [] s5 _ H5 (λ_ _=>False) J5 (sM Nr) wk go) λr s6 zz=>aq λnO=>aa zz λu hr h6=>?_
   subst hr
   refine nO<|bG h6 λ_ s7 zz=>aq λnO=>jC zz λx H7 J7 r7 y7 KQ Um=>nO ?_
   have Uo:=J7.pinned (sM Um) (T.obj _ _ KQ)
   refine bG (pg _ s7 _ H7 x u _ Uo r7 (gk _ _ _ _ (step x H7 y7))) λ_ s8 zz=>aq λnO=>gH zz λNz H8 J8 q8 l8 k8=>nO ?_
   have back:∀{s9:Shared}{H9:Hp}{m:Nat},Inv (gU X sc cl s3.heap.objs.size N' U s3 H3 fp) ([]++lC fp s7.heap) Nz H9 s9->m<n->W (i+1) m H9->
     ∃m,m<n/\∃i H',Inv (gU X sc cl s3.heap.objs.size N' U s3 H3 fp) [] (List.replicate k none++iW fr σ) H' s9/\tn i s9.heap/\(∀b∈fp,H' b=none)/\W i m H':=λ{s9 H9 m} J9 hm w9=>by
    refine⟨m,hm,i+1,H9,(J9.iP).weak l8.symm λj v e=>?_,T.keep _ _ _ KQ λb hb o e=>(J9.pin (b,o) (Xi _ (Xi _ (fH hb e)))).1,λb hb=>?_,w9⟩
    .by_cases hj:j<k
     .rw[XI (by simpa using hj),ZA hj]at e
      cases e
     .rw[k8 j (aag hj)];exact e
    .exact aa (T.obj _ _ KQ b hb) λo e _=>(J9.pin (b,o) (Xi _ (Xi _ (fH hb e)))).2.1
   refine bG (pt _ s8 Nz H8 _ J8 q8) λb s9 zz=>aa zz λH9 J9 q9=>?_
   cases b with
   |false=>
    rw[Xs W2]at q9⊢
    exact aa q9 λm' hm w'=>back J9 hm w'
   |true=>
    rw[Xl rfl]at q9⊢
    refine bG (pe _ s9 Nz H9 _ J9 q9) λy O6 zz=>aq λnO=>?_
    obtain⟨v,O7,Up,Uq,xs,m',hx,hl,hm,w'⟩:=zz
    refine nO<|bG (nQ _ O6 Nz O7 (.ref D) [v] (.ref D) [y] (λ_ O8=>∃m',m'<n/\W (i+1) m' O8) Up rfl (.cons Uq .nil) ⟨D,xs,v,rfl,rfl,hx,hl,m',hm,w'⟩) λ_ Js zz=>aq λnO=>?_
    obtain⟨_,O8,Ur,_,Wy,Gy,Us⟩:=zz
    exact nO<|back Ur Gy Us
 exact codeAny_compStart_list (loop _ rfl) (T.self X.A 0 _ _ _ Jr (loop _ rfl))
def qF(I:Inv X U σ H s)(S:Gw X.N X.env.scope sc N' k fr):
  ∃cl,closureFor sc X.env=pure cl/\(∀x c,cl.lookup x=some c->X.env.cells.lookup x=some c/\(x,NameKind.free)∈sc.names)/\(∀x,(x,NameKind.free)∈sc.names->∃c,cl.lookup x=some c):=
 sZ λy hy hf=>I.ok.has y.1 (S.free y hy hf)
def uA{dO tg iter:Expr}{ifs:List Expr}{sc:Scope}{pos:Pos}{N':List Str}{k:Nat}{fr:List Nat}{wi:TI}{g:TG}{tt:TT}{te:TE}(hi:PI X tg iter wi)(S:Gw X.N X.env.scope sc N' k fr)(hc:X.calm=true)(gk:pv k g)
  (Gx:∀cl C U s H ex,PG (gU X sc cl C N' U s H ex) tg g/\wy (gU X sc cl C N' U s H ex) ifs tt/\PE (gU X sc cl C N' U s H ex) dO te)
  (hs:∀x,foldedSetIterable iter X.env x=pure x):PE X (.ListComp dO [⟨tg,iter,ifs,0⟩] sc pos) (nT k fr wi g tt te):=by
 intro U s σ H Q I h
 refine bJ (qF I S) λcl O9 h1 h2=>?_
 rw[eval_ListComp]
 refine Z1 (use:=none) (g:=⟨tg,iter,ifs,0⟩) (gs:=[]) rfl hs O9 S.kind S.loc<|bG (hi U s σ H _ I h) λv s1 q1=>bG q1 λNp s2 q2=>RN q2 λit fp tn J H2 e I2 T cJ f2 hW=>?_
 subst e
 refine nU (Qe:=λp H=>Q (.ref p) H) (RR:=λacc C=>compPost (model X.prog X.w) X.A X.xe none (EP X U σ Q) acc C) I2 T cJ f2 S hc h1 h2 gk (λcl C s H ex=>Gx cl C U s H ex) hW ?_
 intro a C s' H' I' off ⟨m,hn⟩ q
 exact⟨m,hn,λh' EH=>⟨.ref a,H',I'.KO off EH,rfl,q⟩⟩
def lM{dO tg iter:Expr}{ifs:List Expr}{sc:Scope}{pos KR py:Pos}{N':List Str}{k:Nat}{fr:List Nat}{wi:TI}{g:TG}{tt:TT}{te:TE}{y:Str}{j:Nat}(hi:PI X tg iter wi)(S:Gw X.N X.env.scope sc N' k fr)(hc:X.calm=true)(gk:pv k g)
  (Gx:∀cl C U s H ex,PG (gU X sc cl C N' U s H ex) tg g/\wy (gU X sc cl C N' U s H ex) ifs tt/\PE (gU X sc cl C N' U s H ex) dO te)
  (hs:∀x,foldedSetIterable iter X.env x=pure x) (hN:X.N.Nodup) (hj:X.N[j]?=some y) (hy:X.env.scope.names.lookup y=some .local)
  (Ut:swapsWith (.ListComp dO [⟨tg,iter,ifs,0⟩] sc pos) (some (.Name y py)) KR.line X.env=pure true):
  PS X (.Assign [.Name y py] (.ListComp dO [⟨tg,iter,ifs,0⟩] sc pos) KR) (mY (nT k fr wi g tt te) (cO j)):=by
 intro U s σ H D I h
 refine bJ (qF I S) λcl O9 h1 h2=>?_
 rw[exec_Assign_Name_used _ _ _ _ Ut]
 refine WV (aac (WV ?_))
 show wpAny _ _ (do let _<-comprehension (.ListComp dO [⟨tg,iter,ifs,0⟩] sc pos) sc X.env _ (newList []) false (eval iter X.env) (some (assign (.Name y py) X.env))) _ _ s
 refine WV (Yo (Z1 (g:=⟨tg,iter,ifs,0⟩) (gs:=[]) (use:=some (assign (.Name y py) X.env)) (Q:=λ_ s'=>SP X U D .next s') rfl hs O9 S.kind S.loc ?_) (λ_ s' hq=>W7 (W7 hq)) λ_ _ e=>e)
 refine bG (hi U s σ H _ I h) λv s1 q1=>bG q1 λNp s2 q2=>RN q2 λit fp tn J H2 e I2 T cJ f2 hW=>?_
 subst e
 refine nU (Qe:=λp H=>D.nx (σ.set j (some (.ref p))) H) (RR:=λacc C=>compPost (model X.prog X.w) X.A X.xe (some (assign (.Name y py) X.env)) (λ_ s'=>SP X U D .next s') acc C) I2 T cJ f2 S hc h1 h2 gk (λcl C s H ex=>Gx cl C U s H ex) hW ?_
 intro a C s' H' I' off ⟨m,hn⟩ q
 show wpAny _ _ (assign (.Name y py) X.env (.ref a)) _ _ _
 refine wpAny_assign_Name (nJ I' hN hj (.inl hy) (v:= .ref a) rfl (λKm Uu sb=>?_) (.inr hy))
 refine aa sb λb hb jE=>?_
 have Uv:C≠b:=by
  rintro rfl
  rcases jE with z|z
  .exact off.2.1 z
  .exact off.2.2.2.1 _ _ z rfl
 exact⟨m,hn.sameBut hb Uv,λh' EH=>⟨_,H',Uu.KO off EH,q⟩⟩
end
end L2
namespace b6
noncomputable def bF:List Int->List Int->Bool
 |[],[]=>false
 |[],_::_=>true
 |_::_,[]=>false
 |n::u,m::v=>if n=m then bF u v else decide (n<m)
noncomputable def wz(x:List Int):List (List Int)->List (List Int)
 |[]=>[x]
 |y::r=>if bF y x then y::wz x r else x::y::r
noncomputable def b9:List (List Int)->List (List Int)
 |[]=>[]
 |x::r=>wz x (b9 r)
noncomputable def gW:List Int->List (List Int)->List Int
 |a,[]=>a
 |a,b::r=>gW (if bF b a then b else a) r
end b6
namespace Py
open PySem
set_option genInjectivity false
inductive D where
 |cy|bl (b:Bool)|int (i:Int)|tup (xs:List D)|lst (xs:List D)
  |bP (t:Nat) (ks:List (List Int)) (vs:List D)
 deriving Inhabited
noncomputable def bE:Nat:=16777216
mutual
noncomputable def fT:D->D->Bool
 | .cy,b=>match b with| .cy =>true| .bP _ _ _=>true|_=>false
 | .bl x,b=>match b with| .bl y=>x==y| .int j=>(if x then 1 else 0)==j|_=>false
 | .int i,b=>match b with| .bl y=>i==(if y then 1 else 0)| .int j=>i==j|_=>false
 | .tup xs,b=>match b with| .tup ys=>uB xs ys|_=>false
 | .lst xs,b=>match b with| .lst ys=>uB xs ys|_=>false
 | .bP _ _ _,b=>match b with| .cy =>true| .bP _ _ _=>true|_=>false
noncomputable def uB:List D->List D->Bool
 |[],ys=>match ys with|[]=>true|_=>false
 |x::xs,ys=>match ys with|[]=>false|y::ys=>fT x y&&uB xs ys
end
mutual
noncomputable def aI:D->Bool
 | .tup xs=>ba xs
 | .lst _=>false
 | .bP _ _ _=>false
 |_=>true
noncomputable def ba:List D->Bool
 |[]=>true
 |x::xs=>aI x&&ba xs
end
mutual
noncomputable def cL:D->Nat->Bool
 | .tup xs,n=>match n with|0=>false|n+1=>fX xs n
 | .lst xs,n=>match n with|0=>false|n+1=>fX xs n
 | .bP _ _ _,_=>false
 |_,_=>true
noncomputable def fX:List D->Nat->Bool
 |[],_=>true
 |x::xs,n=>cL x n&&fX xs n
end
theorem jF(n:Nat):∀ns:List Int,fX (ns.map .int) n=true
 |[]=>by simp[fX]
 |i::ns=>by simp[fX,cL,jF n ns]
noncomputable def lN:D->Bool
 | .bP t _ _=>t==2
 |_=>false
@[simp] def Gz:D->Bool
 | .bP _ _ _=>false
 |_=>true
inductive tf where
 |len|tuple|list|min|sorted|all
 deriving DecidableEq,Inhabited
inductive R4 where
 |index|jG
 deriving DecidableEq,Inhabited
inductive E where
 |nil|cons (a r:E)
 |var (i:Nat)
 |c (d:D)
 |bin (o:Operator) (a b:E)
 |cmp (o:CmpOp) (a b:E)
 |ql (k:Bool) (es:E)|not (a:E)|neg (a:E)
  |B3 (a:E)
 |tup (es:E)|lst (es:E)
 |idx (a i:E)
 |sl (a lo hi:E)
 |call (f:Nat) (es:E)
 |prim (p:tf) (es:E)
 |dg (m:R4) (o:E) (es:E)
 |comp (fr:List Nat) (tg:Nat) (it ifs dO:E)
 |eK (es:E)|sv (a:E)|it (a:E)
 |iY (p:tf) (es:E)
  |dC (i:Nat) (k:E)
 |uC (neg:Bool) (k:E) (i:Nat)
  |eE (i:Nat)
 |dk (i:Nat)|dv (i:Nat)
 |EI (a:E)
 deriving Inhabited
noncomputable abbrev E.u(i:Nat):E:= .cons (.var i) .nil
noncomputable abbrev E.w(i:Nat)(r:E):E:= .cons (.var i) r
abbrev Env:=List (Option (Bool×D))
abbrev FT:=Nat->List D->Option D
noncomputable def rd(b:Bool)(ρ:Env)(i:Nat):Option D:=
 match ρ[i]? with
 |some (some (o,d))=>if o&&!(b&&Gz d) then none else some d
 |_=>none
noncomputable def kQ(ρ:Env)(i:Nat):Bool:=
 match ρ[i]? with
 |some (some (o,_))=>o
 |_=>false
noncomputable def kG(ρ:Env):E->Bool
 | .cons (.var i) r=>kQ ρ i||kG ρ r
 | .cons _ r=>kG ρ r
 |_=>false
noncomputable def dh(i j:Int):Bool:=(decide (-(2 ^ 64)<i)&&decide (i<2 ^ 64))||(decide (-(2 ^ 64)<j)&&decide (j<2 ^ 64))
noncomputable def bin(o:Operator)(x y:D):Option D:=
 match o with
 | .Add =>match x,y with
  | .int i,.int j=>some (.int (i+j))
  | .lst a,.lst b=>if a.length+b.length<=bE then some (.lst (a++b)) else none
  | .tup a,.tup b=>if a.length+b.length<=bE then some (.tup (a++b)) else none
  |_,_=>none
 | .Mult =>match x,y with
  | .int i,.int j=>if dh i j then some (.int (i*j)) else none
  |_,_=>none
 | .FloorDiv =>match x,y with
  | .int i,.int j=>if 0<j/\j<1073741824 then some (.int (i/j)) else none
  |_,_=>none
 | .Mod =>match x,y with
  | .int i,.int j=>if 0<j then some (.int (i%j)) else none
  |_,_=>none
 |_=>none
noncomputable def aU:List D->Option (List Int)
 |[]=>some []
 | .int i::r=>(aU r).map (i:: ·)
 |_::_=>none
noncomputable def eF:List D->Option (List Bool)
 |[]=>some []
 | .bl b::r=>(eF r).map (b:: ·)
 |_::_=>none
noncomputable def dD(t:Nat)(x:D):Option (List Int):=
 match x with
 | .int i=>if t=0 then some [i] else none
 | .tup xs=>if t=0 then none else aU xs
 |_=>none
noncomputable def iB:List (List Int)->List D->List Int->Option D
 |k::ks,v::vs,x=>if k=x then some v else iB ks vs x
 |_,_,_=>none
abbrev R6:=Nat×List (List Int)×List D
noncomputable def gh(ρ:List (Option (Bool×D)))(i:Nat):Option R6:=
 match ρ[i]? with
 |some (some (_,.bP t ks vs))=>if t=2 then none else some (t,ks,vs)
 |_=>none
noncomputable def keysAt(ρ:List (Option (Bool×D)))(i:Nat):Option (List D):=
 match ρ[i]? with
 |some (some (false,.bP 0 ks _))=>some (ks.map λk=> .int (k.headD 0))
 |_=>none
noncomputable def pz(ρ:List (Option (Bool×D)))(i:Nat):Option (List D):=
 match ρ[i]? with
 |some (some (false,.bP 0 _ vs))=>some vs
 |_=>none
noncomputable def kn(ρ:List (Option (Bool×D)))(i:Nat):Option (List D):=
 match ρ[i]? with
 |some (some (_,.lst xs))=>some xs
 |_=>none
noncomputable def yr(t:Nat):List D->Option D
 |[k,v]=>(dD t k).map λx=> .bP t [x] [v]
 |_=>none
noncomputable def cmp(o:CmpOp)(x y:D):Option Bool:=
 match o with
 | .Eq =>if cL x 60&&cL y 60 then some (fT x y) else none
 | .NotEq =>if cL x 60&&cL y 60 then some (!fT x y) else none
 | .IsNot =>match y with| .cy =>some (match x with| .cy =>false|_=>true)|_=>none
 | .In =>match y with
  | .lst ys=>if cL x 60&&cL y 60 then some (ys.any λz=>fT z x) else none
  |_=>none
 | .NotIn =>match y with
  | .lst ys=>if cL x 60&&cL y 60 then some (!ys.any λz=>fT z x) else none
  |_=>none
 | .Lt =>match x,y with
  | .int i,.int j=>some (decide (i<j))
  |_,_=>none
 |_=>none
noncomputable def bR(n:Nat)(i:Int):Option Nat:=if 0<=i then(if i<n then some i.toNat else none) else if -(n:Int)<=i then some (i+n).toNat else none
noncomputable def item(x i:D):Option D:=
 match x,i with
 | .lst xs,.int k=>(bR xs.length k).bind λj=>xs[j]?
 | .tup xs,.int k=>(bR xs.length k).bind λj=>xs[j]?
 |_,_=>none
noncomputable def bound(n d:Nat):Option Int->Nat
 |none=>d
 |some v=>(if v<0 then max (v+(n:Int)) 0 else min v (n:Int)).toNat
noncomputable def sC(xs:List D)(lo hi:Option Int):List D:=(xs.drop (bound xs.length 0 lo)).take (bound xs.length xs.length hi-bound xs.length 0 lo)
noncomputable def insI(x:Int):List Int->List Int
 |[]=>[x]
 |y::r=>if x<=y then x::y::r else y::insI x r
noncomputable def sortI:List Int->List Int
 |[]=>[]
 |x::r=>insI x (sortI r)
noncomputable def eM:List D->Option (List (List Int))
 |[]=>some []
 | .tup xs::r=>(aU xs).bind λk=>if k=[] then none else(eM r).map (k:: ·)
 |_::_=>none
noncomputable def nc(k:List Int):D:= .tup (k.map .int)
noncomputable def gX:Int->List Int->Int
 |a,[]=>a
 |a,b::r=>gX (if b<a then b else a) r
noncomputable def seq:D->Option (List D)
 | .lst xs=>some xs
 | .tup xs=>some xs
 |_=>none
noncomputable def prim(p:tf)(xs:List D):Option D:=
 match p with
 | .len =>match xs with
  |[x]=>(seq x).map λys=> .int ys.length
  |_=>none
 | .tuple =>match xs with
  |[x]=>(seq x).map .tup
  |_=>none
 | .list =>match xs with
  |[x]=>(seq x).map .lst
  |_=>none
 | .min =>match xs with
  |[x]=>(seq x).bind λys=>match aU ys with
   |some ns=>match ns with|[]=>none|a::r=>some (.int (gX a r))
   |none=>match x with
    | .lst zs=>(eM zs).bind λks=>match ks with|[]=>none|a::r=>some (nc (b6.gW a r))
    |_=>none
  |_=>none
 | .sorted =>match xs with
  |[x]=>(seq x).bind λys=>(eM ys).map λks=> .lst ((b6.b9 ks).map nc)
  |_=>none
 | .all =>match xs with
  |[x]=>match x with
   | .lst ys=>(eF ys).map λbs=> .bl (bs.all id)
   |_=>none
  |_=>none
noncomputable def cC(k:Int):List Int->Option Nat
 |[]=>none
 |n::r=>if n=k then some 0 else(cC k r).map (· + 1)
noncomputable def dg(m:R4)(o:D)(xs:List D):Option D:=
 match m,o,xs with
 | .index,.tup ys,[.int k]=>(aU ys).bind λns=>(cC k ns).map λ(i:Nat)=> .int (i:Int)
 | .jG,.lst ys,[.int k]=>(aU ys).bind λns=>(cC k ns).map λ(i:Nat)=> .int (i:Int)
 |_,_,_=>none
noncomputable def bH(lo:Int):Nat->List D
 |0=>[]
 |n+1=> .int lo::bH (lo+1) n
noncomputable def dE(xs:List D):Option (List D):=
 match xs with
 |[.int n]=>if -(2 ^ 62)<=n/\n<=bE then some (bH 0 n.toNat) else none
 |_=>none
noncomputable def aS(k:Int):List D->List D
 |[]=>[]
 |x::r=> .tup [.int k,x]::aS (k+1) r
noncomputable def aE(tg:Nat)(x:D):Option (List D):=
 match tg with
 |0=>some [x]
 |n+1=>match x with
  | .tup xs=>if xs.length=n+1 then some xs else none
  |_=>none
noncomputable def yt(ρ:Env)(fr:List Nat):Env:=fr.map λi=>(ρ[i]?).join
noncomputable def R7:D->Option Bool
 | .bl b=>some b
 |_=>none
noncomputable def walk(f:D->Option (Option D)):List D->Option (List D)
 |[]=>some []
 |x::r=>match f x with
  |none=>none
  |some none=>walk f r
  |some (some y)=>(walk f r).map (y:: ·)
noncomputable def eN:D->Option Bool
 | .bl b=>some b
 |_=>none
noncomputable def yu:D->Option Int
 | .int i=>some i
 |_=>none
noncomputable def cutD(x:D)(l h:Option Int):Option D:=
 match x with
 | .lst xs=>some (.lst (sC xs l h))
 | .tup xs=>some (.tup (sC xs l h))
 |_=>none
noncomputable def lO(p:tf)(xs:List D):Option D:=
 match p with
 | .list =>some (.lst xs)
 | .tuple =>some (.tup xs)
 |_=>none
noncomputable def inner(ys:List D)(ρ:Env)(fr:List Nat):Env:=ys.map (λy=>some (false,y))++yt ρ fr
mutual
noncomputable def ev(F:FT):Bool->E->Env->Option D
 |b,.var i,ρ=>rd b ρ i
 |_,.c d,_=>some d
 |_,.bin o a b,ρ=>(ev F true a ρ).bind λx=>(ev F true b ρ).bind λy=>bin o x y
 |_,.cmp o a b,ρ=>(ev F true a ρ).bind λx=>(ev F true b ρ).bind λy=>(cmp o x y).map .bl
 |_,.ql k es,ρ=>(fF F k es ρ).map .bl
 |_,.not a,ρ=>((ev F false a ρ).bind eN).map λk=> .bl !k
 |_,.neg a,ρ=>((ev F false a ρ).bind yu).map λi=> .int (-i)
 |_,.B3 a,ρ=>((ev F false a ρ).bind eN).map λ_=> .bl true
 |_,.tup es,ρ=>(cD F false es ρ).bind λxs=>if xs.length<=bE then some (.tup xs) else none
 |_,.lst es,ρ=>(cD F false es ρ).bind λxs=>if xs.length<=bE then some (.lst xs) else none
 |_,.idx a i,ρ=>(ev F true a ρ).bind λx=>(ev F false i ρ).bind λk=>item x k
 |_,.sl a lo hi,ρ=>(ev F true a ρ).bind λx=>(EJ F lo ρ).bind λl=>(EJ F hi ρ).bind λh=>cutD x l h
 |_,.call f es,ρ=>(cD F true es ρ).bind λxs=>(F f xs).bind λd=>if kG ρ es&&!aI d then none else some d
 |_,.prim p es,ρ=>(cD F true es ρ).bind λxs=>prim p xs
 |_,.iY p es,ρ=>((cD F false es ρ).bind dE).bind (lO p)
 |_,.dg m o es,ρ=>(ev F true o ρ).bind λx=>(cD F true es ρ).bind λxs=>dg m x xs
 |_,.comp fr tg it ifs dO,ρ=>(kH F true it ρ).bind λxs=>if xs.length<=bE then(walk (λx=>(aE tg x).bind λys=>
   (fF F true ifs (inner ys ρ fr)).bind λk=>if k then(ev F false dO (inner ys ρ fr)).map some else some none) xs).map .lst else none
 |_,.dC i k,ρ=>(gh ρ i).bind λd=>((ev F false k ρ).bind (dD d.1)).bind λx=>iB d.2.1 d.2.2 x
 |_,.uC neg k i,ρ=>((ev F false k ρ).bind λy=>(gh ρ i).bind λd=>(dD d.1 y).map λx=> .bl (if neg then !decide (x∈d.2.1) else decide (x∈d.2.1)))
 |_,.eE i,ρ=>(gh ρ i).bind λd=>if d.1=0 then(if d.2.1.length<64 then some (.lst ((sortI (d.2.1.map λk=>k.headD 0)).map .int)) else none)
   else if []∈d.2.1 then none else some (.lst ((b6.b9 d.2.1).map nc))
 |_,.nil,_=>none
 |_,.cons _ _,_=>none
 |_,.eK _,_=>none
 |_,.sv _,_=>none
 |_,.it _,_=>none
 |_,.dk _,_=>none
 |_,.dv _,_=>none
 |_,.EI _,_=>none
noncomputable def cD(F:FT):Bool->E->Env->Option (List D)
 |_,.nil,_=>some []
 |b,.cons a r,ρ=>(ev F b a ρ).bind λx=>(cD F b r ρ).bind λxs=>some (x::xs)
 |_,_,_=>none
noncomputable def EJ(F:FT):E->Env->Option (Option Int)
 | .nil,_=>some none
 | .cons a _,ρ=>((ev F false a ρ).bind yu).map some
 |_,_=>none
noncomputable def fF(F:FT):Bool->E->Env->Option Bool
 |k,.nil,_=>some k
 |k,.cons a r,ρ=>((ev F false a ρ).bind eN).bind λx=>if x=k then fF F k r ρ else some x
 |_,_,_=>none
noncomputable def kH(F:FT):Bool->E->Env->Option (List D)
 |_,.eK es,ρ=>(cD F false es ρ).bind dE
 |b,.sv a,ρ=>(ev F b a ρ).bind λx=>(seq x).map (aS 0)
 |b,.it a,ρ=>(ev F b a ρ).bind seq
 |_,.dk i,ρ=>keysAt ρ i
 |_,.dv i,ρ=>pz ρ i
 |b,.EI a,ρ=>(ev F false a ρ).bind λx=>match x with| .tup xs=>some xs.reverse|_=>none
 |_,_,_=>none
end
inductive C where
 |skip|seq (a b:C)
 |asg (i:Nat) (e:E)
  |bK (i:Nat) (e:E)
  |qG (is:List Nat) (e:E)
 |fY (i:Nat) (ix e:E)
 |app (i:Nat) (e:E)
 |ret (e:E)
 |ifs (c:E) (t u:C)
 |while (c:E) (b:C)
 |for (is:List Nat) (tg:Nat) (it:E) (b:C)
  |pA (i:Nat) (t:Nat) (es:E)
  |qH (i:Nat) (k e:E)
  |EK (i j:Nat)
  |pop (i j:Nat)
  |ext (i:Nat) (e:E)
  |fst (x:Nat) (fr:List Nat) (it k v:E) (c1:C) (y r f:Nat) (c2:C) (m:Nat) (c3:C) (p q u:E) (g:Nat) (w:E)
 deriving Inhabited
inductive jH where
 |next (ρ:Env)|brk (ρ:Env)|cont (ρ:Env)|ret (d:D)
 deriving Inhabited
noncomputable def put(ρ:Env)(i:Nat)(o:Bool)(d:D):Env:=ρ.set i (some (o,d))
noncomputable def cz(ρ:Env):List Nat->List D->Option Env
 |[],[]=>some ρ
 |i::is,d::ds=>cz (put ρ i false d) is ds
 |_,_=>none
noncomputable def hZ:Nat:=1000000
noncomputable def iZ(c:Env->Option Bool)(b:Env->Option jH):Nat->Env->Option jH
 |0,_=>none
 |n+1,ρ=>(c ρ).bind λk=>if k then(b ρ).bind λo=>match o with
   | .next ρ'=>iZ c b n ρ'
   | .cont ρ'=>iZ c b n ρ'
   | .brk ρ'=>some (.next ρ')
   | .ret d=>some (.ret d)
  else some (.next ρ)
noncomputable def aM(b:D->Env->Option jH):List D->Env->Option jH
 |[],ρ=>some (.next ρ)
 |x::r,ρ=>(b x ρ).bind λo=>match o with
   | .next ρ'=>aM b r ρ'
   | .cont ρ'=>aM b r ρ'
   | .brk ρ'=>some (.next ρ')
   | .ret d=>some (.ret d)
noncomputable def dP(it:E)(ρ:Env):Env:=
 match it with
 | .it (.var i)=>match ρ[i]? with
  |some (some (true,.lst xs))=>ρ.set i (some (false,.lst xs))
  |_=>ρ
 | .sv (.var i)=>match ρ[i]? with
  |some (some (true,.lst xs))=>ρ.set i (some (false,.lst xs))
  |_=>ρ
 |_=>ρ
noncomputable def gY(ρ:Env)(i:Nat):Option (List D):=
 match ρ[i]? with
 |some (some (true,.lst xs))=>some xs
 |_=>none
noncomputable def yv(ρ:Env)(i:Nat):Option R6:=
 match ρ[i]? with
 |some (some (true,.bP t ks vs))=>if t=2 then none else some (t,ks,vs)
 |_=>none
noncomputable def yw(T:List D)(q:Nat)(k:List Int)(v:D):Option (List D):=
 match T[q]? with
 |some (.bP 0 ks vs)=>if ks.length<bE/\k∉ks then some (T.set q (.bP 0 (ks++[k]) (vs++[v]))) else none
 |_=>none
noncomputable def tm:D:= .bP 2 [] []
noncomputable def i5(ρ:Env)(x:Nat):Bool:=
 match ρ[x]? with
 |some (some (true,.bP t [] []))=>t==2
 |_=>false
noncomputable def qI(ρ:Env):Bool:=ρ.all λo=>match o with
 |some (_,d)=>!lN d
 |none=>true
noncomputable def i6(F:FT)(x y r f:Nat)(c2:Env->Option jH)(m:Nat)(c3:Env->Option jH)(p q u:Env->Option D)(g:Nat)(w:Env->Option D)(T:List D)(ρ:Env)(l:List D):Option (List D×Env):=
 (l.getLast?).bind λz=>(F f [.lst T,z]).bind λd=>if aI z&&aI d then
  (c2 (put (put ρ y true (.lst l.dropLast)) r false d)).bind λo=>match o with
  | .next xG=>if i5 xG x then(kn xG m).bind λms=>if ms.isEmpty then some (T,xG) else(c3 xG).bind λo=>match o with
   | .next qm=>if i5 qm x then(u qm).bind λuv=>if aI uv then((p qm).bind yu).bind λpi=>(bR T.length pi).bind λpq=>((q qm).bind (dD 0)).bind λkk=>(yw T pq kk uv).bind λT'=>
     (w qm).bind λwv=>if aI wv then(F g [.lst T',wv]).bind λzd=>match zd with
     | .lst zs=>if ba zs then(gY qm y).bind λws=>if ws.length+zs.length<=bE then some (T',put qm y true (.lst (ws++zs))) else none else none
     |_=>none
     else none
    else none
    else none
   |_=>none
   else none
  |_=>none
 else none
noncomputable def gm(tn:List D->Env->List D->Option (List D×Env))(y:Nat):Nat->List D->Env->Option (List D)
 |0,_,_=>none
 |n+1,T,ρ=>(gY ρ y).bind λl=>if l.isEmpty then some T else(tn T ρ l).bind λs=>gm tn y n s.1 s.2
noncomputable def qJ(k v:Env->Option D)(fr:List Nat)(ρ:Env)(x:D):Option (Option D):=
 ((k (inner [x] ρ fr)).bind (dD 0)).bind λkk=>(v (inner [x] ρ fr)).bind λd=>if aI d then some (some (.bP 0 [kk] [d])) else none
noncomputable def ex(F:FT):C->Env->Option jH
 | .skip,ρ=>some (.next ρ)
 | .seq a b,ρ=>(ex F a ρ).bind λo=>match o with
  | .next ρ'=>ex F b ρ'
  |o=>some o
 | .asg i e,ρ=>(ev F false e ρ).map λd=> .next (put ρ i false d)
 | .bK i e,ρ=>(ev F false e ρ).bind λd=>match d with
  | .lst xs=>some (.next (put ρ i true (.lst xs)))
  |_=>none
 | .qG is e,ρ=>(ev F false e ρ).bind λd=>((aE is.length d).bind (cz ρ is)).map .next
 | .fY i ix e,ρ=>(ev F false e ρ).bind λd=>((ev F false ix ρ).bind yu).bind λk=>match ρ[i]? with
  |some (some (true,.lst xs))=>(bR xs.length k).map λj=> .next (put ρ i true (.lst (xs.set j d)))
  |_=>none
 | .app i e,ρ=>(ev F false e ρ).bind λd=>match ρ[i]? with
  |some (some (true,.lst xs))=>if xs.length<bE then some (.next (put ρ i true (.lst (xs++[d])))) else none
  |_=>none
 | .ret e,ρ=>(ev F true e ρ).map .ret
 | .ifs c t u,ρ=>((ev F false c ρ).bind eN).bind λk=>if k then ex F t ρ else ex F u ρ
 | .while c b,ρ=>iZ (λρ=>(ev F false c ρ).bind eN) (ex F b) hZ ρ
 | .for is tg it b,ρ=>(kH F false it (dP it ρ)).bind λxs=>aM (λx ρ=>(aE tg x).bind λys=>(cz ρ is ys).bind λρ'=>ex F b ρ') xs (dP it ρ)
 | .pA i t es,ρ=>if t=2 then none else((cD F false es ρ).bind (yr t)).map λd=> .next (put ρ i true d)
 | .qH i k e,ρ=>(ev F false e ρ).bind λy=>(yv ρ i).bind λd=>((ev F false k ρ).bind (dD d.1)).bind λx=>
   if d.2.1.length<bE/\x∉d.2.1 then some (.next (put ρ i true (.bP d.1 (d.2.1++[x]) (d.2.2++[y])))) else none
 | .EK i j,ρ=>(gY ρ j).map λxs=> .next (put (ρ.set j (some (false,.lst xs))) i false (.lst xs))
 | .pop i j,ρ=>(gY ρ j).bind λl=>(l.getLast?).map λz=> .next (put (put ρ j true (.lst l.dropLast)) i false z)
 | .ext i e,ρ=>(ev F false e ρ).bind λd=>match d with
  | .lst zs=>(gY ρ i).bind λws=>if ws.length+zs.length<=bE then some (.next (put ρ i true (.lst (ws++zs)))) else none
  |_=>none
 | .fst x fr it k v c1 y r f c2 m c3 p q u g w,ρ=>(kH F true it ρ).bind λxs=>if xs.length<=bE/\x≠y/\x<ρ.length/\qI ρ=true then(walk (qJ (ev F false k) (ev F false v) fr ρ) xs).bind λT=>
   (ex F c1 (put ρ x true tm)).bind λo=>match o with
   | .next kI=>if i5 kI x then(gm (i6 F x y r f (ex F c2) m (ex F c3) (ev F false p) (ev F false q) (ev F false u) g (ev F false w)) y hZ T kI).map λT=> .ret (.lst T) else none
   |_=>none
  else none
def i7:ev F b (.var i) ρ=rd b ρ i:=rfl
def vC:ev F m (.c d) ρ=some d:=rfl
def qK:ev F m (.bin o a b) ρ=(ev F true a ρ).bind λx=>(ev F true b ρ).bind λy=>bin o x y:=rfl
def ng:ev F m (.cmp o a b) ρ=(ev F true a ρ).bind λx=>(ev F true b ρ).bind λy=>(cmp o x y).map .bl :=rfl
def GA:ev F m (.ql k es) ρ=(fF F k es ρ).map .bl :=rfl
def O_:ev F m (.not a) ρ=((ev F false a ρ).bind eN).map λk=> .bl !k:=rfl
def Pa:ev F m (.dg o a es) ρ=(ev F true a ρ).bind λx=>(cD F true es ρ).bind λxs=>dg o x xs:=rfl
def qL:ev F m (.tup es) ρ=(cD F false es ρ).bind λxs=>if xs.length<=bE then some (.tup xs) else none:=rfl
def yx:ev F m (.lst es) ρ=(cD F false es ρ).bind λxs=>if xs.length<=bE then some (.lst xs) else none:=rfl
def qM:ev F m (.idx a i) ρ=(ev F true a ρ).bind λx=>(ev F false i ρ).bind λk=>item x k:=rfl
def KS:ev F m (.sl a l h) ρ=(ev F true a ρ).bind λx=>(EJ F l ρ).bind λl=>(EJ F h ρ).bind λh=>cutD x l h:=rfl
def tq:ev F m (.call f es) ρ=(cD F true es ρ).bind λxs=>(F f xs).bind λd=>if kG ρ es&&!aI d then none else some d:=rfl
def gZ:ev F m (.prim p es) ρ=(cD F true es ρ).bind λxs=>prim p xs:=rfl
def yz:ev F m (.iY p es) ρ=((cD F false es ρ).bind dE).bind (lO p):=rfl
def KU:ev F m (.comp fr tg it ifs dO) ρ=(kH F true it ρ).bind λxs=>if xs.length<=bE then(walk (λx=>(aE tg x).bind λys=>
   (fF F true ifs (inner ys ρ fr)).bind λk=>if k then(ev F false dO (inner ys ρ fr)).map some else some none) xs).map .lst else none:=rfl
def KW:ev F m (.dC i k) ρ=(gh ρ i).bind λd=>((ev F false k ρ).bind (dD d.1)).bind λx=>iB d.2.1 d.2.2 x:=rfl
def Pb:ev F m (.uC n k i) ρ=((ev F false k ρ).bind λy=>(gh ρ i).bind λd=>(dD d.1 y).map λx=> .bl (if n then !decide (x∈d.2.1) else decide (x∈d.2.1))):=rfl
def tu:ex F .skip ρ=some (.next ρ):=rfl
def aV:ex F (.seq a b) ρ=(ex F a ρ).bind λo=>match o with
  | .next ρ'=>ex F b ρ'
  |o=>some o:=rfl
def tD:ex F (.asg i e) ρ=(ev F false e ρ).map λd=> .next (put ρ i false d):=rfl
def nh:ex F (.bK i e) ρ=(ev F false e ρ).bind λd=>match d with
  | .lst xs=>some (.next (put ρ i true (.lst xs)))
  |_=>none:=rfl
def Pc:ex F (.qG is e) ρ=(ev F false e ρ).bind λd=>((aE is.length d).bind (cz ρ is)).map .next :=rfl
def yA:ex F (.fY i x e) ρ=(ev F false e ρ).bind λd=>((ev F false x ρ).bind yu).bind λk=>match ρ[i]? with
  |some (some (true,.lst xs))=>(bR xs.length k).map λj=> .next (put ρ i true (.lst (xs.set j d)))
  |_=>none:=rfl
def Pd:ex F (.app i e) ρ=(ev F false e ρ).bind λd=>match ρ[i]? with
  |some (some (true,.lst xs))=>if xs.length<bE then some (.next (put ρ i true (.lst (xs++[d])))) else none
  |_=>none:=rfl
def ni:ex F (.ret e) ρ=(ev F true e ρ).map .ret :=rfl
def fI:ex F (.ifs c t u) ρ=((ev F false c ρ).bind eN).bind λk=>if k then ex F t ρ else ex F u ρ:=rfl
def yB:ex F (.for l g t b) ρ=(kH F false t (dP t ρ)).bind λxs=>aM (λx ρ=>(aE g x).bind λys=>(cz ρ l ys).bind λρ'=>ex F b ρ') xs (dP t ρ):=rfl
def KY:ex F (.ext i e) ρ=(ev F false e ρ).bind λd=>match d with
  | .lst zs=>(gY ρ i).bind λws=>if ws.length+zs.length<=bE then some (.next (put ρ i true (.lst (ws++zs)))) else none
  |_=>none:=rfl
structure Fd where
 par:Nat
 jI:Nat
 body:C
 deriving Inhabited
noncomputable def ae(d:Fd)(xs:List D):Env:=xs.map (λx=>some (false,x))++List.replicate (d.jI-d.par) none
noncomputable def out:Option jH->Option D
 |some (.ret d)=>some d
 |some (.next _)=>some .cy
 |_=>none
noncomputable def run(P:List Fd):Nat->FT
 |0,_,_=>none
 |n+1,f,xs=>match P[f]? with
  |some d=>if xs.length=d.par then out (ex (run P n) d.body (ae d xs)) else none
  |none=>none
end Py
namespace L2
open PySem PyProof.Rows
def qN(val:Nat->Int):∀(k:Nat),∀(ns:List Int),(∀i,i<k->ns[i]?=some (val (i+1)))->val (argBest (λi j=>decide (val i<val j)) k)=Py.gX (val 0) (ns.take k):=by
 have snoc:∀(ns:List Int) (a b:Int),Py.gX a (ns++[b])=if b<Py.gX a ns then b else Py.gX a ns:=by
  intro ns
  induction ns with
  |nil=>intro a b;rfl
  |cons x ns ih=>intro a b;exact ih _ b
 intro k
 induction k with
 |zero=>intro ns _;rfl
 |succ k ih=>
  intro ns h
  have hk:=h k (YH k)
  have GB:=ih ns λi hi=>h i (YB hi)
  have e:ns.take (k+1)=ns.take k++[val (k+1)]:=by
   rw[List.take_add_one,hk];rfl
  rw[e,snoc,<-GB]
  show val (if(decide (val (k+1)<val (argBest _ k)))=true then k+1 else argBest _ k)=_
  by_cases c:val (k+1)<val (argBest (λi j=>decide (val i<val j)) k)
  .rw[Xl (decide_eq_true c),Xl c]
  .rw[Xs (by simpa using c),Xs c]
def ints_get:∀{vs:List Value}{ns:List Int},IntsAre vs ns->∀(i:Nat) (v:Value),vs[i]?=some v->∃t,v= .int (ns.getD i 0) t:=λ{vs ns} h=>by
 induction h with
 |nil=>intro i v h;simp at h
 |cons n t r ih=>
  intro i v h
  cases i with
  |zero=>simp at h;subst h;exact⟨t,rfl⟩
  |succ i=>
   obtain⟨t',e⟩:=ih i v (by simpa using h)
   exact⟨t',by simpa using e⟩
section
variable {prog:Program}{w:World}{A:Around}{E:Value->Shared->Prop}{s:Shared}{l:Addr}
def kq(hh:A.handled=none)(hl:s.heap.IsList l vs.toArray\/IsTup s.heap l vs.toArray)(hi:IntsAre vs (n::ns))
  (h:∀h' tk t,(∀b o,s.heap.get? b=some o->h'.get? b=some o)->Q (.int (Py.gX n ns) t) {s with heap:=h',toks:=tk}):wpAny (model prog w) A (call (.builtin "min") [.ref l]) Q E s:=by
 have len:=hi.length
 have GC:∀(i:Nat) (v:Value),vs.toArray[i]?=some v->∃t,v=Value.int ((n::ns).getD i 0) t:=λi v e=>ints_get hi i v (by simpa using e)
 have best:(n::ns).getD (argBest (λi j=>decide ((n::ns).getD i 0<(n::ns).getD j 0)) ns.length) 0=Py.gX n ns:=by
  have:=qN (λi=>(n::ns).getD i 0) ns.length ns (λi hi=>by simp[hi])
  simpa using this
 have fin:∀(v:Value) (h':Heap) (tk:Nat),vs.toArray[argBest (λi j=>decide ((n::ns).getD i 0<(n::ns).getD j 0)) (vs.toArray.size-1)]?=some v->(∀b o,s.heap.get? b=some o->h'.get? b=some o)->Q v {s with heap:=h',toks:=tk}:=λv h' tk hP hk=>by
  have e:vs.toArray.size-1=ns.length:=by rw[W8,len];simp
  rw[e]at hP
  obtain⟨t,rfl⟩:=GC _ v hP
  rw[best]
  exact h h' tk t hk
 have pos:0<vs.toArray.size:=by rw[W8,len];simp
 rcases hl with hl|hl
 .have bZ:l<s.heap.objs.size:=by obtain⟨_,e,_⟩:=hl;exact Xg e
  refine call_min_walk (Y4 hl ?_)
  refine⟨_,[_,l],[_],_,_,_,_,rfl,Walks.list (A:=A.in1) hh s.heap.objs.size l (Xu bZ) vs.toArray,⟨⟨_,Xe _ rfl,rfl,rfl⟩,hl.push _⟩,λb hb=>?_,pos,CmpOf.ints_lt (λi=>(n::ns).getD i 0) GC,λv h' tk hP hk=>fin v h' tk hP λb o e=>hk b o ?_ (WY _ e)⟩
  .show b<(s.heap.push _).objs.size
   rw[Yq]
   rcases Xc.mp hb with rfl|hb
   .exact YH _
   .rw[W5.mp hb];exact YB bZ
  .intro hm
   rw[W5.mp hm]at e
   exact absurd (Xg e) (XS _)
 .have v_:s.heap.IsTuple l vs.toArray:=hl
  have bZ:l<s.heap.objs.size:=by obtain⟨_,e,_⟩:=hl;exact Xg e
  refine call_min_walk (YW v_ ?_)
  refine⟨_,[_,l],[_],_,_,_,_,rfl,Walks.tuple (A:=A.in1) hh s.heap.objs.size l (Xu bZ) vs.toArray,⟨⟨_,Xe _ rfl,rfl,rfl⟩,v_.push _⟩,λb hb=>?_,pos,CmpOf.ints_lt (λi=>(n::ns).getD i 0) GC,λv h' tk hP hk=>fin v h' tk hP λb o e=>hk b o ?_ (WY _ e)⟩
  .show b<(s.heap.push _).objs.size
   rw[Yq]
   rcases Xc.mp hb with rfl|hb
   .exact YH _
   .rw[W5.mp hb];exact YB bZ
  .intro hm
   rw[W5.mp hm]at e
   exact absurd (Xg e) (XS _)
end
open PySem.Spec
open AutoSeq1 (wpAny_loadPart')
noncomputable abbrev qO(l:Addr):Obj:={cls:= .type "tuple_iterator",data:= .fields #[.ref l,.int 0 0]}
noncomputable abbrev GD(it:Addr):Obj:={cls:= .type "enumerate",data:= .fields #[.none,.bool false,.ref it,rawInt 0,.none,.none]}
def qP(l:Addr)(items:Array Value)(n:Nat)(B4:Option Addr)(sl:Array (Option Value)):
  Meets (Builtin.«enumerate.__new__» ⟨[.type "enumerate",.ref l],[]⟩) (λ_ R s=>s.heap.get? l=some {cls:= .type "tuple",dict:=B4,data:= .seq items n,slots:=sl}/\
   R (.ok (.ret (.ref (s.heap.push (qO l)).objs.size))) {s with heap:=(s.heap.push (qO l)).push (GD s.heap.objs.size)}):=
 .of_wp λprog w A R s h=>by
  obtain⟨hp,g,d,tk,os⟩:=s
  obtain⟨hl,h⟩:=h
  have sb:=sub_enumerate
  have hL:Heap.IsTuple (Shared.heap ⟨hp,g,d,tk,os⟩) l items:=⟨_,hl,rfl,n,rfl⟩
  wp_walk using Ys hl
  refine wpAny_stack_any λst=>W7 ?_
  split
  .rename_i c _ _ _ _ _
   cases (c==Value.type "enumerate")
   .wp_walk using Ys hl,YW hL
    exact⟨_,rfl,h⟩
   .wp_walk using Ys hl,YW hL
    exact⟨_,rfl,h⟩
  .wp_walk using Ys hl,YW hL
   exact⟨_,rfl,h⟩
section
variable {prog:Program}{w:World}{A:Around}{E:Value->Shared->Prop}{s:Shared}
def tE(hL:s.heap.IsTuple l items)
  (h:∀h',IsEnum h' (s.heap.objs.size+1) s.heap.objs.size 0 .none ->h'.IsTupleIter s.heap.objs.size l 0->h'.objs.size=s.heap.objs.size+2->
   (∀b o,s.heap.get? b=some o->h'.get? b=some o)->Q (.ref (s.heap.objs.size+1)) {s with heap:=h'}):
  wpAny (model prog w) A (call (.type "enumerate") [.ref l]) Q E s:=by
 refine aq λnO=>?_
 obtain⟨⟨c,B4,dt,sl⟩,hl,hc,n,hd⟩:=hL
 have kN:c= .type "tuple":=hc
 have kM:dt= .seq items n:=hd
 subst kN kM
 refine nO ?_
 refine callType_new F.called_enumerate (by decide) (F.typeCall_enumerate_1 _) (F.newCall_enumerate_1 _) (λobj=>ZG obj _) F.entry_enumerate_new (qP l items n B4 sl) ⟨hl,?_⟩
 have hz:(s.heap.push (qO l)).objs.size =s.heap.objs.size+1:=Yq ..
 have he:IsEnum ((s.heap.push (qO l)).push (GD s.heap.objs.size)) (s.heap.objs.size+1) s.heap.objs.size 0 .none :=by
  have q:=Xe (s.heap.push (qO l)) (o:=GD s.heap.objs.size) rfl
  rw[hz]at q
  exact q
 show _/\_
 rw[hz]
 exact⟨⟨_,he,rfl⟩,h _ he ⟨_,WY _ (Xe _ rfl),rfl,rfl⟩ (by rw[Yq,hz]) λb o x=>WY _ (WY _ x)⟩
def qQ(qR:s.heap.IsTupleIter it l i)(hl:s.heap.IsTuple l items)(hx:items[i]?=some x)
  (hQ:∀h',h'.IsTupleIter it l (i+1)->Heap.SameBut it s.heap h'->Q x {s with heap:=h'}):wpAny (model prog w) A (Builtin.SmallTypes.nextOf (.ref it)) Q E s:=by
 refine bJ (id qR) λo ho hc hd=>?_
 obtain⟨ol,Pf,_,nl,Pj⟩:=hl
 unfold Builtin.SmallTypes.nextOf
 refine WV (X2 (name:=Str.ofString "__next__") qR.typeIs YG (XW YG qR.typeIs ZK ?_ (ZH _)))
 show wpAny _ _ (field (.ref it) 0 >>= _) _ _ s
 refine WV (YD ho hd (x:= .ref l) rfl ?_)
 first
  |(show wpAny _ _ (if(Value.ref l==Value.none)=true then _ else _) _ _ s;rw[Xs (show¬((Value.ref l==Value.none)=true) from W2)])
  |skip
 show wpAny _ _ (field (.ref it) 1 >>= _) _ _ s
 refine WV (YD ho hd (x:= .int i 0) rfl ?_)
 show wpAny _ _ (seqItems? (.ref l) >>= _) _ _ s
 refine WV (Zw Pf Pj ?_)
 simp only[X6,hx]
 refine WV (YJ ho hd (by simp) (W7 ⟨x,rfl,W7 (hQ _ ⟨_,Yh _ ho (YY (Yn hd _)),(Z2 ..).trans hc,?_⟩ (Yp ..))⟩))
 rw[Yn hd]
 simp[rawInt]
def qS(hh:A.handled=none)(qR:s.heap.IsTupleIter it l i)(hl:s.heap.IsTuple l items)(hx:items[i]?=none)
  (hE:∀h' e,Heap.ExtBut it s.heap h'->(∃o,h'.get? e=some o/\o.cls= .type "StopIteration")->E (.ref e) {s with heap:=h'}):wpAny (model prog w) A (Builtin.SmallTypes.nextOf (.ref it)) Q E s:=by
 refine bJ (id qR) λo ho hc hd=>?_
 obtain⟨ol,Pf,_,nl,Pj⟩:=hl
 unfold Builtin.SmallTypes.nextOf
 refine WV (X2 (name:=Str.ofString "__next__") qR.typeIs YG (XW YG qR.typeIs ZK ?_ (ZH _)))
 show wpAny _ _ (field (.ref it) 0 >>= _) _ _ s
 refine WV (YD ho hd (x:= .ref l) rfl ?_)
 first
  |(show wpAny _ _ (if(Value.ref l==Value.none)=true then _ else _) _ _ s;rw[Xs (show¬((Value.ref l==Value.none)=true) from W2)])
  |skip
 show wpAny _ _ (field (.ref it) 1 >>= _) _ _ s
 refine WV (YD ho hd (x:= .int i 0) rfl ?_)
 show wpAny _ _ (seqItems? (.ref l) >>= _) _ _ s
 refine WV (Zw Pf Pj ?_)
 simp only[X6,hx]
 first
  |refine WV (Y5 (WV (YJ ho hd (by simp) ?_)))
  |refine WV (Y5 (WV (YJ ho hd (by simp) (WV (aae ?_)))))
 show wpAny _ _ (newExc (.type "StopIteration") [] >>= _) _ _ _
 refine WV ?_
 simp only[newExc,newTuple]
 refine WV (XG ?_ (by size_fits))
 refine WV (m:=firstArgMember _ _) (aaO (a:=Value.none) (by first|rfl|(simp only[firstArgMember];rfl)) ?_)
 refine XG ?_ (by size_fits)
 simp only[raiseNew]
 refine WV (wpAny_handled ?_)
 first|rw[show A.in1.handled=none from hh]|rw[hh]
 exact WV (W7 (wpAny_throw (hE _ _ (((Yp ..).extBut.push _).push _) ⟨_,Xe _ rfl,rfl⟩)))
end
def wA(hh:A.handled=none)(it l:Addr)(fJ:l≠it)(items:Array Value):
  Draws prog w A it [it,l] items.size (λi v=>items[i]?=some v) (λi h=>h.IsTupleIter it l i/\h.IsTuple l items) where
 live:=λ_ _ st=>let ⟨o,ho,_⟩:=st.1;⟨o,ho⟩
 frame:=λ_ _ _ st hk=>⟨st.1.at λo e=>hk it (by simp) o e,st.2.at λo e=>hk l (by simp) o e⟩
 item:=λi s Q E hi st hQ=>qQ st.1 st.2 (x:=items[i]) (by simp[hi]) λh' Pk EH=>hQ _ h' s.toks (by simp[hi]) ⟨Pk,st.2.extBut EH.extBut fJ⟩ EH
 done:=λs Q E st hE=>qS hh st.1 st.2 (by simp) hE
section
variable {X:Cx}{U:List (Addr×Obj)}{σ:List (Option V)}{H H':Hp}{s:Shared}{h':Heap}
def Inv.uD{t':Nat}{ch:List Addr}(I:Inv X U σ H s)(k:∀b o,b∉ch->s.heap.get? b=some o->h'.get? b=some o)(hf:∀b∈ch,kD X U H b):Inv X U σ H {s with heap:=h',toks:=t'}:=by
 have JW:∀b u,H b=some u->b∉ch:=λb u e z=>by rw[(hf b z).1]at e;cases e
 refine I.step (g':=s.gens) (d':=s.drawn) (ch:=ch) (λb hb=>?_) (λb o _ _ hc e _=>k b o hc e) (λb o _ _ hc e _=>⟨o.slots,k b o hc e⟩) (λ_ _ _ _ n=>n)
  (λb o hc e=>⟨o,k b o hc e⟩) (λ_ _ e=>e) (λ_ _ _ e=>e) (λb ps e=>⟨#[],by rw[e];simp⟩) (λm hm=>?_) (λb u e=>?_) I.bare
 .exact sk (hf b hb) λ_ f1 _ f3 f4 f5=>⟨f3,f1,f4,f5⟩
 .exact kC hm λo es ep ho r=>⟨o,es,ep,k _ o (λz=>(hf _ z).2.1 rfl) ho,r⟩
 .refine(I.aW b u e).mV (λc v hc q=>k c v ?_ q) (λ_ q=>q) λ_ _ q=>q
  rcases hc with z|z
  .rw[z];exact JW b u e
  .exact JW c _ z
end
structure GF(K:PySem.W.Frag)(a it:Addr)(Sq:Hp->List V->Prop)(KZ:Heap->Array Value->Prop)(GG:Nat->Heap->Prop):Prop where
 get:∀{X:Cx}{U:List (Addr×Obj)}{σ:St}{H:Hp}{s:Shared}{xs:List V},X.K=K->Inv X U σ H s->Sq H xs->∃its:List Value,aL xs its/\KZ s.heap its.toArray
 inj:∀{X:Cx}{U:List (Addr×Obj)}{σ:St}{H:Hp}{s:Shared}{xs ys:List V},X.K=K->Inv X U σ H s->Sq H xs->Sq H ys->xs=ys
 dr:∀(prog:Program) (w:World) (A:Around) (items:Array Value),A.handled=none->Draws prog w A it [it,a] items.size (λi v=>items[i]?=some v) (λi h=>GG i h/\KZ h items)
 obj:∀{i:Nat}{h:Heap},GG i h->∃o,h.get? it=some o/\∀v,o.data≠ .cell v
 at':∀{i:Nat}{h h':Heap},GG i h->(∀o,h.get? it=some o->h'.get? it=some o)->GG i h'
 ne:∀{h:Heap}{e:Addr}{i:Int}{old:Value}{items:Array Value},IsEnum h e it i old->KZ h items->e≠a
noncomputable def NA(Sq:Hp->List V->Prop):It:=
 ⟨λi H=>∃xs x,Sq H xs/\xs[i]?=some x,λi H x H'=>∃(t:Addr) (y:V),H t=none/\x= .ref t/\H'=upd H t (.tup [.int i,y])/\∀xs,Sq H xs->xs[i]?=some y,λi H=>∃xs,Sq H xs/\xs.length=i⟩
def nV{P:Program}{w:World}{K:PySem.W.Frag}{elts:List Expr}{k0:Nat}{tpos:Pos}{a it e:Addr}{Sq:Hp->List V->Prop}{KZ:Heap->Array Value->Prop}{GG:Nat->Heap->Prop}(S:GF K a it Sq KZ GG)(fJ:e≠it):
  oX P w K (.Tuple elts k0 tpos) (NA Sq) [e,it] e (λi h=>(∃old,IsEnum h e it i old)/\GG i h) where
 mem:=by simp
 obj:=λi h st b hb=>by
  obtain⟨⟨old,he⟩,hi⟩:=st
  rcases Xc.mp hb with rfl|hb
  .exact⟨_,he,λv z=>by cases z⟩
  .rw[W5.mp hb];exact S.obj hi
 keep:=λi h h' st k=>⟨let ⟨old,he⟩:=st.1;⟨old,k e (by simp) _ he⟩,S.at' st.2 λo z=>k it (by simp) o z⟩
 item:=by
  intro X hP hw hK hc i U s σ H E I hf st hg
  subst hP hw hK
  obtain⟨⟨old,he⟩,hi⟩:=st
  refine ef hg λxs x hq hx=>aa (S.get rfl I hq) λits rv hX=>aa (rv.get hx) λu hu ru=>?_
  have bZ:i<its.toArray.size:=by
   have:=(Xf.mp hu).1
   simpa using this
  have Uw:e∉[it,a]:=λz=>by
   rcases Xc.mp z with z|z
   .exact fJ z
   .exact S.ne he hX (W5.mp z)
  refine wpAny_pyNext_enum_itemD (S.dr X.prog X.w X.A.in1 its.toArray (I.ok.hd hc)) he ⟨hi,hX⟩ bZ fJ Uw λv h' tk hP Ek mX hT hsz hk=>?_
  have hP:its.toArray[i]?=some v:=hP
  have ev:v=u:=by
   have q:its[i]?=some v:=by simpa using hP
   rw[hu]at q
   exact(Xn q).symm
  subst ev
  refine⟨_,rfl,wpAny_letOwnedTupleGo_enum Ek λNB Pl B5=>?_⟩
  have B5:Heap.SameBut e h' NB:=B5
  have Ux:e<s.heap.objs.size:=Xg he
  have ltI:it<s.heap.objs.size:=by obtain⟨o,ho,_⟩:=S.obj hi;exact Xg ho
  have I1:Inv X U σ (upd H s.heap.objs.size (.tup [.int i,x])) {s with heap:=s.heap.push {cls:= .type "tuple",data:= .seq #[.int i tk,v]}}:=
   I.laid (t':=s.toks) (λb o z=>WY _ z) (W9 _) ⟨by show 2<=sizeLine;decide,[.int i tk,v],.cons ⟨_,rfl⟩ (.cons ru .nil),iN.new s.heap _⟩
  have Uy:H s.heap.objs.size=none:=I.aW.fresh (W9 _)
  have K0:∀b∈[e,it],(upd H s.heap.objs.size (.tup [.int i,x])) b=none:=λb hb=>by
   have jE:b≠s.heap.objs.size:=by
    rcases Xc.mp hb with rfl|hb
    .exact Xu Ux
    .rw[W5.mp hb];exact Xu ltI
   rw[ak jE];exact(hf b hb).1
  have I2:Inv X U σ (upd H s.heap.objs.size (.tup [.int i,x])) {s with heap:=NB,toks:=tk+1}:=by
   have key:∀b o,b∉[e,it]->(s.heap.push {cls:= .type "tuple",data:= .seq #[.int i tk,v]}).get? b=some o->NB.get? b=some o:=λb o hb z=>by
    have Bk:b≠e:=λq=>hb (by simp[q])
    have Uz:b≠it:=λq=>hb (by simp[q])
    refine(B5.2 b Bk).trans ?_
    rcases Heap.get?_push_cases z with⟨rfl,rfl⟩|z
    .exact hT
    .exact hk b o Bk Uz z
   have J:=I1.uD (h':=NB) (t':=tk+1) (ch:=[e,it]) key λb hb=>⟨K0 b hb,(hf b hb).2⟩
   exact J
  refine⟨.ref s.heap.objs.size,_,I2,rfl,⟨s.heap.objs.size,x,Uy,rfl,rfl,λys hy=>by rw[S.inj rfl I hy hq];exact hx⟩,⟨⟨v,?_⟩,S.at' mX.1 λo z=>(B5.2 it (XY fJ)).trans z⟩,K0⟩
  have:((i+1:Nat):Int)=(i:Int)+1:=by push_cast;rfl
  rw[this]
  exact Pl
 done:=by
  intro X hP hw hK hc i U s σ H E I hf st hg
  subst hP hw hK
  obtain⟨⟨old,he⟩,hi⟩:=st
  refine aa hg λxs hq ag=>?_
  try clear hg
  subst ag
  refine aa (S.get rfl I hq) λits rv hX=>?_
  have hl:xs.length=its.toArray.size:=by rw[W8];exact rv.length
  rw[hl]at hi he
  refine wpAny_pyNext_enum_endD (S.dr X.prog X.w X.A.in1 its.toArray (I.ok.hd hc)) he ⟨hi,hX⟩ λh' hx=>⟨rfl,?_⟩
  exact I.uD (t':=s.toks) (ch:=[e,it]) (λb o hb z=>hx b o (λq=>hb (by simp[q])) z) hf
 self:=λ_ _ _ _ _ st h=>let ⟨⟨_,he⟩,_⟩:=st;Z3 he h
def yC{K:PySem.W.Frag}{a it:Addr}(h:a≠it):GF K a it (λH xs=>c9 K H a xs) (λh xs=>h.IsTuple a xs) (λi h=>h.IsTupleIter it a i) where
 get:=λhK I q=>by subst hK;obtain⟨its,r,t,_⟩:=I.tuple q;exact⟨its,r,t⟩
 inj:=λhK I q q'=>by subst hK;exact I.jD q q'
 dr:=λprog w A items hh=>wA hh it a h items
 obj:=λzz=>bJ zz λo e c d=>⟨o,e,λv z=>by rw[d]at z;cases z⟩
 at':=λst k=>st.at k
 ne:=λhe ⟨o,e,c,_⟩ z=>by subst z;rw[he]at e;cases e;injection c with c;exact absurd c (by decide)
def yD{K:PySem.W.Frag}{a it:Addr}(h:a≠it):GF K a it (λH xs=>dq K H a xs) (λh xs=>h.IsList a xs) (λi h=>h.IsListIter it a i) where
 get:=λhK I q=>by subst hK;obtain⟨its,r,t,_⟩:=I.list q;exact⟨its,r,t.isList⟩
 inj:=λhK I q q'=>by subst hK;exact I.qw q q'
 dr:=λprog w A items hh=>Draws.list hh it a h items
 obj:=λzz=>bJ zz λo e c d=>⟨o,e,λv z=>by rw[d]at z;cases z⟩
 at':=λst k=>st.at k
 ne:=λhe ⟨o,e,c,_⟩ z=>by subst z;rw[he]at e;cases e;injection c with c;exact absurd c (by decide)
def Pn(K:PySem.W.Frag)(ta:TA):TI:=λσ H R=>ta σ H λvs H1=>∃a xs,vs=[.ref a]/\((c9 K H1 a xs/\R (NA λH ys=>c9 K H a ys) H1)\/(dq K H1 a xs/\R (NA λH ys=>dq K H a ys) H1))
def B6{X:Cx}{a:Expr}{ta:TA}{p pos:Pos}{elts:List Expr}{k0:Nat}{tpos:Pos}(hg:Gl X "enumerate")(hm:X.mg "enumerate"=none)(ha:PA X [a] ta)(hs:starEach [a] X.env=[(false,eval a X.env)]:=by rfl):
  PI X (.Tuple elts k0 tpos) (.Call (.Name "enumerate" p) [a] [] pos) (Pn X.K ta):=by
 intro U s σ H R I h
 refine Call_ (iu I hg hm PyProof.Rows.boot_enumerate (Ym (bG (ha pos U s σ H _ I h) λus s1 zz=>bu zz λvs H1 I1 r1 q1=>?_) hs rfl))
 refine ef q1 λb xs ag q=>?_
 try clear q1
 subst ag
 cases r1 with
 |cons r rr=>
  cases rr
  cases r
  have fin:∀(h':Heap),h'.objs.size=s1.heap.objs.size+2->(∀b o,s1.heap.get? b=some o->h'.get? b=some o)->Inv X U σ H1 {s1 with heap:=h'}/\∀c∈[s1.heap.objs.size+1,s1.heap.objs.size],kD X U H1 c:=λh' _ hk=>by
   refine⟨I1.kept (t':=s1.toks) hk,λc hc=>?_⟩
   have yE:s1.heap.objs.size<=c:=by
    rcases Xc.mp hc with rfl|hc
    .exact Nat.le_succ _
    .rw[W5.mp hc];exact W9 _
   exact I1.sH yE (I1.aW.fresh yE)
  rcases q with⟨hq,hR⟩|⟨hq,hR⟩
  .refine bJ (I1.tuple hq) λits rv t _=>?_
   have ht:s1.heap.IsTuple b its.toArray:=t
   have hb:b≠s1.heap.objs.size:=by obtain⟨o,e,_⟩:=ht;exact Xu (Xg e)
   refine tE ht λh' he qR hsz hk=>?_
   obtain⟨J1,J2⟩:=fin h' hsz hk
   exact Z3 he ⟨s1.heap.objs.size+1,[s1.heap.objs.size+1,s1.heap.objs.size],_,_,H1,rfl,J1,nV (yC hb) (Nat.succ_ne_self _),⟨⟨_,he⟩,qR⟩,J2,hR⟩
  .refine bJ (I1.list hq) λits rv t _=>?_
   have ht:s1.heap.IsList b its.toArray:=t.isList
   have hb:b≠s1.heap.objs.size:=by obtain⟨o,e,_⟩:=ht;exact Xu (Xg e)
   refine call_enumerate_list ht λh' he qR hsz hk=>?_
   obtain⟨J1,J2⟩:=fin h' hsz hk
   exact Z3 he ⟨s1.heap.objs.size+1,[s1.heap.objs.size+1,s1.heap.objs.size],_,_,H1,rfl,J1,nV (yD hb) (Nat.succ_ne_self _),⟨⟨_,he⟩,qR⟩,J2,hR⟩
section
variable {prog:Program}{w:World}{A:Around}{E:Value->Shared->Prop}{s:Shared}
theorem qT(fJ:t≠it):∀(n i:Nat) (s:Shared) (Q:List Value->Shared->Prop),s.heap.IsListIter it t i->s.heap.IsList t items->i+n<=items.size->
  (∀h',h'.IsListIter it t (i+n)->Heap.SameBut it s.heap h'->Q ((items.toList.drop i).take n) {s with heap:=h'})->wpAny (model prog w) A (draw (.ref it) n) Q E s
 |0,i,s,Q,qR,_,_,hQ=>W7 (by simpa using hQ s.heap qR (Heap.SameBut.refl ..))
 |n+1,i,s,Q,qR,ht,yE,hQ=>by
  have bZ:i<items.size:=by lia
  show wpAny _ _ (pyNext (.ref it) >>= _) Q E s
  refine WV (wpAny_pyNext_list_item qR ht (x:=items[i]) (by simp[bZ]) λh1 GH Jt=>?_)
  refine WV (XT (qT fJ n (i+1) _ _ GH (ht.extBut Jt.extBut fJ) (by lia) λh2 Po Pp=>W7 ?_))
  have hd:items.toList.drop i=items[i]::items.toList.drop (i+1):=by simp[XR,bZ]
  have q:=hQ h2 (by rw[show i+(n+1)=i+1+n by lia];exact Po) (Jt.trans Pp)
  rw[hd,List.take_succ_cons]at q
  exact q
def kJ(hh:A.handled=none)(ht:s.heap.IsList t items)
  (hQ:∀h',Heap.ExtBut s.heap.objs.size s.heap h'->Q items.toList {s with heap:=h'}):wpAny (model prog w) A (unpackItems (.ref t) items.size none) Q E s:=by
 have bZ:t≠s.heap.objs.size:=by obtain⟨o,ho,_⟩:=ht;exact Xu (Xg ho)
 have push:∀o,(s.heap.push o).IsList t items:=λo=>by obtain⟨ol,e,r⟩:=ht;exact⟨ol,WY _ e,r⟩
 unfold unpackItems
 refine WV ?_
 unfold notIterableAtAll
 refine WV (aaw ht.typeIs F.slot_list_iter.lookup (W7 ?_))
 simp only[X9,if_false]
 refine WV (XT (Y4 ht ?_))
 refine WV (XT (qT bZ items.size 0 _ _ ⟨_,Xe _ rfl,rfl,rfl⟩ (push _) (by lia) λh1 GH Jt=>?_))
 have sY:List.take items.size (List.drop 0 items.toList)=items.toList:=by
  rw[YT];exact XM (by simp)
 rw[sY,Xs (by simp)]
 have K1:h1.IsList t items:=(push _).extBut Jt.extBut bZ
 refine WV (XT (wpAny_pyNext_list_end hh GH K1 (by simp) λh2 R8=>?_))
 simp only[Option.isSome_none,X9,if_false]
 exact W7 (hQ h2 λb o hb e=>R8 b o hb (Jt.extBut b o hb (WY _ e)))
def tG(hh:A.handled=none)(ht:s.heap.IsList t items)
  (hn:(assignEach elts env).length =items.size) (K2:(assignEach elts env).findIdx? (·.1)=none)
  (h:∀h',Heap.ExtBut s.heap.objs.size s.heap h'->wpAny (model prog w) A (assignInOrder ((assignEach elts env).map (·.2)) items.toList) Q E {s with heap:=h'}):
  wpAny (model prog w) A (assign (.Tuple elts x1 pos) env (.ref t)) Q E s:=by
 rw[PyProof.Rows.assign_Tuple]
 refine WV (aac ?_)
 unfold unpack
 rw[hn,K2]
 exact WV (XT (kJ hh ht h))
end
def K3(K:PySem.W.Frag)(n:Nat)(t:FW):TG:=λv σ H Q=>∃a xs,v= .ref a/\(dq K H a xs\/c9 K H a xs)/\xs.length=n/\t xs σ H Q
def yF(hc:X.calm=true)(h:Jm X es t)
  (hn:(assignEach es X.env).length =n:=by rfl) (mX:(assignEach es X.env).findIdx? (·.1)=none:=by rfl):PG X (.Tuple es k pos) (K3 X.K n t):=by
 intro U s σ H v u Q I r hw
 refine aq λnO=>?_
 obtain⟨a,xs,e1,hq,hl,hw⟩:=hw
 subst e1
 cases r
 refine nO ?_
 rcases hq with hq|hq
 .refine aq λnO=>?_
  obtain⟨its,rv,ht,hz⟩:=I.list hq
  refine nO<|tG (I.ok.hd hc) ht.isList (by simp[hn,<-hl,rv.length]) mX λh' hx=>?_
  have I1:Inv X U σ H {s with heap:=h'}:=I.kept (t':=s.toks) λb o e=>hx b o (Xu (Xg e)) e
  exact h U _ σ H xs _ Q I1 (by simpa using rv) hw
 .exact FY hc h hn mX U s σ H (.ref a) (.ref a) Q I rfl ⟨a,xs,rfl,hq,hl,hw⟩
open AutoSeq1 (wpAny_loadPart')
noncomputable abbrev pB(items:Array Value)(x:Value)(i:Nat)(_:Option PySem.Fin×Unit):Sem (ForInStep (Option PySem.Fin×Unit)):=
 match items[i]? with
 |some y=>do
  let c<-eqBool y x
  if c=true then do
   let r<-retInt (i:Int)
   pure (ForInStep.done (some r,()))
  else pure (ForInStep.yield (none,()))
 |_=>pure (ForInStep.yield (none,()))
section
variable {prog:Program}{w:World}{A:Around}{E:Value->Shared->Prop}
theorem qU(hi:IntsAre items.toList ns)(hj:ns[j]?=some k)(sq:∀m,m<j->ns[m]?≠some k):
  ∀(m i:Nat) (s:Shared) (Q:Option PySem.Fin×Unit->Shared->Prop),i<=j->j<i+m->i+m<=items.size->Q (some (.done (.ret (.int j s.toks))),()) {s with toks:=s.toks+1}->
   wpAny (model prog w) A (forIn (List.range' i m) ((none,()):Option PySem.Fin×Unit) (pB items (.int k t))) Q E s
 |0,i,s,Q,h1,h2,_,_=>absurd h2 (by lia)
 |m+1,i,s,Q,h1,h2,h3,h=>by
  have bZ:i<items.size:=by lia
  have hl:ns.length=items.toList.length:=hi.length.symm
  obtain⟨ti,ei⟩:=ints_get hi i items[i] (by simp[bZ])
  have hn:ns[i]?=some (ns.getD i 0):=by
   rw[Xa,WW (by rw[hl];simpa using bZ)]
   rfl
  rw[ZC,YL]
  unfold pB
  rw[XE bZ]
  show wpAny _ _ ((eqBool items[i] (.int k t) >>= _) >>= _) _ _ s
  rw[ei]
  refine WV (WV (Zz ?_))
  by_cases GI:i=j
  .subst GI
   rw[hj]at hn
   have e:ns.getD i 0=k:=(Xn hn).symm
   rw[e,beq_self_eq_true,Xl rfl]
   refine WV ?_
   unfold retInt ret
   refine WV (wpAny_mkInt (W7 (W7 (W7 h))))
  .have e:(ns.getD i 0==k)=false:=by
    rw[beq_eq_false_iff_ne]
    exact λz=>sq i (by lia) (by rw[hn,z])
   rw[e,Xs W2]
   exact W7 (qU hi hj sq m (i+1) s Q (by lia) (by lia) (by lia) h)
end
def wB(l:Addr)(items:Array Value)(n:Nat)(dd:Option Addr)(sl:Array (Option Value)){ns:List Int}(hi:IntsAre items.toList ns){k:Int}{t:Tok}{j:Nat}(hj:ns[j]?=some k)(sq:∀m,m<j->ns[m]?≠some k):
  Meets (Builtin.«tuple.index» ⟨[.ref l,.int k t],[]⟩)
   (λA R s=>s.heap.get? l=some {cls:= .type "tuple",dict:=dd,data:= .seq items n,slots:=sl}/\R (.ok (.ret (.int j s.toks))) {s with toks:=s.toks+1}):=by
 intro prog w A R s h
 obtain⟨hp,g,d,tk,os⟩:=s;obtain⟨hl,h⟩:=h
 unfold Builtin.«tuple.index»
 simp only[Std.Legacy.Range.forIn_eq_forIn_range']
 wp_walk using Ys hl
 have Pu:j<items.size:=by
  have q:=(Xf.mp hj).1
  have:=hi.length
  simp at this
  lia
 have UA:(([:min items.size items.size]:Std.Legacy.Range)).size =items.size:=by simp[Std.Legacy.Range.size]
 rw[UA]
 show wpAny _ _ (forIn (List.range' 0 items.size) ((none,()):Option PySem.Fin×Unit) (pB items (.int k t))) _ _ _
 exact qU hi hj sq items.size 0 _ _ (Ye _) (by lia) (by lia)<|W7 h
def GJ(K:PySem.W.Frag):V->List V->Hp->VK->Prop:=λx vs H Q=>∃(l:Addr) (ns:List Int) (k:Int) (j:Nat),x= .ref l/\vs=[.int k]/\c9 K H l (ns.map V.int)/\ns[j]?=some k/\(∀m,m<j->ns[m]?≠some k)/\Q (.int (j:Nat)) H
def yG{X:Cx}:Kx X "tuple.index" (GJ X.K):=by
 intro U s σ H x vs v us Q I rx rv h
 refine aq λnO=>Bv h λl ns k j ag aP hq hj sq q=>?_
 try clear h
 subst ag
 subst aP
 cases rx
 obtain⟨u,rfl,t,rfl⟩:=vals1 rv
 obtain⟨its,r,⟨⟨c,dd,dt,sl⟩,ho,hc,n,hd⟩,hz⟩:=I.tuple hq
 have kN:c= .type "tuple":=hc
 have kM:dt= .seq its.toArray n:=hd
 subst kN kM
 refine nO ?_
 have hi:IntsAre its.toArray.toList ns:=by simpa using intsAre_of r
 exact call_meets Z4 ⟨_,ho,rfl⟩ PySem.F.entry_tuple_index (PySem.F.args_tuple_index_2 _ _) (wB l its.toArray n dd sl hi hj sq) ⟨ho,.int j,H,I.tok _,⟨_,rfl⟩,q⟩
def UB(K:PySem.W.Frag)(r:V->List V->Hp->VK->Prop)(to:TE)(t:TA):TE:=λσ H Q=>to σ H λx H1=>(∃a xs,x= .ref a/\c9 K H1 a xs)/\t σ H1 λxs H2=>r x xs H2 Q
def K4{X:Cx}{o e:Expr}{es:List Expr}{to:TE}{t:TA}{name:Str}{mZ fW:Pos}{id:String}{r:V->List V->Hp->VK->Prop}(pa:PlainAttrs "tuple")(slot:Slot "tuple" name id)(Kz:typeOf (.builtin id)=pure (.type "method_descriptor"))(hm:Kx X id r)(ho:PE X o to)(ha:PA X (e::es) t)
  (iT:attributeBase o name X.env (eval o X.env)=eval o X.env)
  (Gm:((backTo fW (starEach (e::es) X.env)).all (λx=>!x.1)&&(backToKw fW (keywordEach [] X.env)).all (λx=>x.1.isSome)
   && decide ((e::es).length+([]:List Keyword).length+(if([]:List Keyword).isEmpty then 0 else 1)<30))=true)
  (iU:(mZ.endLine==fW.line)=true) (hs:starEach (e::es) X.env=(false,eval e X.env)::starEach es X.env) (sW:(backTo fW (starEach es X.env)).any (·.1)=false):
  PE X (.Call (.Attribute o name mZ) (e::es) [] fW) (UB X.K r to t):=by
 intro U s σ H Q I h
 refine wpAny_Call_method_late iT Gm iU rfl (bG (ho U s σ H _ I h) λv s1 zz=>?_)
 refine aq λnO=>gH zz λx H1 I1 r1 ty q1=>ef ty λa xs ag hq=>?_
 try clear ty
 subst ag
 cases r1
 obtain⟨its,rv,⟨ob,e1,e2,_,e4⟩,_⟩:=I1.FV hq
 refine nO ?_
 refine⟨"tuple",id,pa,slot,Kz,⟨ob,e1,e2⟩,λb z=>by cases z;exact⟨ob,e1,e4⟩,?_⟩
 have hA:=ha fW U s1 σ H1 _ I1 q1
 rw[hs]at hA⊢
 refine YU (by show(false||(backTo fW (starEach es X.env)).any (·.1))=false;rw[sW]<;>rfl) (Calls.evalArgs_plain ?_)
 exact bG hA λus s2 zz=>bu zz λvs H2 I2 UC q2=>hm U s2 σ H2 (.ref a) vs (.ref a) us Q I2 rfl UC q2
def B7(a b:Int)(t u:Tok):MeetsSeq.EqGives (.int a t) (.int b u) (a==b):=λ_ _ _ _ _ _ h=>Zz h
noncomputable def K5(K:PySem.W.Frag):V->List V->Hp->VK->Prop:=λx vs H Q=>∃(l:Addr) (ns:List Int) (k:Int) (j:Nat),x= .ref l/\vs=[.int k]/\dq K H l (ns.map V.int)/\ns[j]?=some k/\(∀m,m<j->ns[m]?≠some k)/\Q (.int (j:Nat)) H
def wC{X:Cx}:Kx X "list.index" (K5 X.K):=by
 intro U s σ H x vs v us Q I rx rv h
 refine aq λnO=>Bv h λl ns k j ag aP hq h1 h2 q=>?_
 try clear h
 subst ag
 subst aP
 cases rx
 obtain⟨wv,rfl,UD⟩:=vals1 rv
 obtain⟨u,rfl⟩:=UD
 obtain⟨its,r,pl,hz⟩:=I.list hq
 refine nO ?_
 have len:=r.length
 rw[WZ]at len
 have at':∀(m:Nat) (hm:m<its.toArray.size),∃a t,its.toArray[m]= .int a t/\ns[m]?=some a:=λm hm=>by
  have Gy:m<its.length:=by simpa using hm
  have Ju:(ns.map V.int)[m]?=some (V.int (ns[m]'(by lia))):=by rw[Xb,WW (by lia)];rfl
  refine aa (r.get Ju) λw' e1 e2=>?_
  obtain⟨t,e3⟩:=e2
  refine⟨_,t,?_,WW (by lia)⟩
  rw[<-e3]
  have:its[m]?=some its[m]:=WW Gy
  rw[this]at e1
  simpa using e1
 have Wz:j<ns.length:=(Xf.mp h1).1
 have Pu:j<its.toArray.size:=by simpa using (by lia:j<its.length)
 let e:Value->Bool:=λy=>match y with| .int a _=>a==k|_=>false
 have ee:∀y,y∈its.toArray->MeetsSeq.EqGives y (.int k u) (e y):=λy hy=>by
  obtain⟨m,hm,rfl⟩:=aax.mp hy
  refine ef (at' m hm) λa t q1 _=>?_
  rw[q1]
  exact B7 a k t u
 refine aq λnO=>?_
 obtain⟨⟨c0,d0,WA,UE⟩,n,hl,R9,NC,K6⟩:=pl
 dsimp only at R9 NC K6
 subst R9 NC K6
 refine ef (at' j Pu) λaj tj qj zj=>nO ?_
 have qR:e its.toArray[j]=true:=by
  rw[h1]at zj
  cases zj
  show(match its.toArray[j]with| .int a _=>a==k|_=>false)=true
  rw[qj]
  exact beq_self_eq_true _
 have sq:∀m (hm:m<its.toArray.size),m<j->e its.toArray[m]=false:=λm hm UG=>by
  refine ef (at' m hm) λa t q1 q2=>?_
  show(match its.toArray[m]with| .int a _=>a==k|_=>false)=false
  rw[q1]
  exact beq_eq_false_iff_ne.mpr λy=>h2 m UG (by rw[q2,y])
 have iC:(j:Int)<2 ^ 63-1:=by
  have Ju:ns.length<=16777216:=by
   have:=hz
   rw[WZ,sizeLine_eq]at this
   exact this
  lia
 exact call_meets F.slot_list_index (show s.TypeIs (.ref l) "list" from⟨_,hl,rfl⟩) F.entry_list_index (F.args_list_index_2 _ _) (SeqAt.list_indexAt l its.toArray n none UE (.int k u) e j Pu iC qR sq) ⟨hl,λy hy=>(ee y hy).at _ _,.int j,H,I.kept (t':=s.toks+1) λ_ _ q=>q,⟨_,rfl⟩,q⟩
open AutoSeq1 (wpAny_loadPart')
abbrev K7(a c:Int):Nat->Value->Prop:=λi v=>∃t,v= .int (a+i*c) t
section
variable {prog:Program}{w:World}{A:Around}{E:Value->Shared->Prop}{s:Shared}
def nj{Q:List Value->Shared->Prop}{r:Addr}{a b c:Int}{t u v:Tok}{n:Nat}(hh:A.handled=none)(hr:IsRange s.heap r a b c t u v)(iC:Builtin.Range.small a b c=true)
  (hn:Builtin.Range.rangeSize a b c=n) (a_:n<=2 ^ 24)
  (hQ:∀h' tk acc,(∀b o,s.heap.get? b=some o->h'.get? b=some o)->ItemsOf (K7 a c) acc n->Q acc.toList {s with heap:=h',toks:=tk}):wpAny (model prog w) A (collect (.ref r)) Q E s:=by
 unfold collect
 refine WV (wpAny_runValue (Zm F.entry_proto_collect ?_))
 rw[Around.under_plainId F.plain_proto_collect _]
 show wpAny _ A.in1 (newList [] >>= λl=>again (.builtin "list.__iadd__" ⟨[l,.ref r],[]⟩)) _ _ s
 refine WV (XG ?_)
 refine W7 ⟨plainId_quiet F.plain_list_iadd _,Zm F.entry_list_iadd ?_⟩
 rw[Around.under_plainId F.plain_list_iadd _]
 show wpAny _ A.in1 (Builtin.List.listExtendWith (.ref s.heap.objs.size) (.ref r) (.ref s.heap.objs.size)) _ _ _
 have hS:(s.heap.push {cls:= .type "list",data:= .seq ([]:List Value).toArray}).get? s.heap.objs.size=some {cls:= .type "list",data:= .seq #[] 0}:=Xe _ rfl
 let RR:Result->Shared->Prop:=λr s'=>∃(h':Heap) (tk:Nat) (acc:Array Value) (c':Nat),r= .ok (.ret (.ref s.heap.objs.size))/\s'={s with heap:=h',toks:=tk}/\
  (∀b o,s.heap.get? b=some o->h'.get? b=some o)/\h'.get? s.heap.objs.size=some {cls:= .type "list",dict:=none,data:= .seq acc c',slots:=#[]}/\ItemsOf (K7 a c) acc n
 have dF:∀(h':Heap) (tk:Nat) (acc:Array Value) (c':Nat),(∀b o,s.heap.get? b=some o->h'.get? b=some o)->h'.get? s.heap.objs.size=some {cls:= .type "list",dict:=none,data:= .seq acc c',slots:=#[]}->ItemsOf (K7 a c) acc n->
   wpAny (model prog w) A (match Value.ref s.heap.objs.size with
    |Value.ref a=>do
     match (<-load a).data with
      |Data.seq xs _=>pure xs.toList
      |_=>unsupported "internal:collect"
    |_=>unsupported "internal:collect") Q E {s with heap:=h',toks:=tk}:=λh' tk acc c' hk GK kK=>by
  show wpAny _ A (load s.heap.objs.size >>= _) _ _ _
  exact WV (wpAny_load GK (W7 (hQ h' tk acc hk kK)))
 refine Yo (wpAny_extend_range (A:=A) (R:=RR) (s:={s with heap:=s.heap.push {cls:= .type "list",data:= .seq ([]:List Value).toArray}}) hh (WY _ hr) iC hn a_ _ (.ref s.heap.objs.size) _ hS λh' tk GL c' hk GK kK=>⟨h',tk,GL,c',rfl,rfl,λb o e=>hk b o (Xu (Xg e)) (WY _ e),GK,kK⟩) (λfin s' h=>?_) (λe s' h=>?_)
 .cases fin with
  |done f=>
   refine sF h λh' tk acc c' e ag hk GK kK=>?_
   try clear h
   subst ag
   cases e
   exact dF h' tk acc c' hk GK kK
  |again c'=>
   refine⟨h.1,aas h.2 λr Km hr=>?_⟩
   refine sF hr λh' tk acc c' e aP hk GK kK=>?_
   try clear hr
   subst aP
   subst e
   exact dF h' tk acc c' hk GK kK
 .refine mS h λh' tk acc c' e _=>?_
  cases e
end
def tH{r:Addr}{a b c:Int}{t u v:Tok}{n:Nat}(iC:Builtin.Range.small a b c=true)(hn:Builtin.Range.rangeSize a b c=n)(a_:n<=2 ^ 24):
  Meets (Builtin.«tuple.__new__» ⟨[.type "tuple",.ref r],[]⟩)
   (λA R s=>A.handled=none/\IsRange s.heap r a b c t u v/\∀(h':Heap) (tk:Nat) (acc:Array Value),(∀b o,s.heap.get? b=some o->h'.get? b=some o)->ItemsOf (K7 a c) acc n->
    R (.ok (.ret (.ref h'.objs.size))) {s with heap:=h'.push {cls:= .type "tuple",data:= .seq acc},toks:=tk}):=
 .of_wp λprog w A R s h=>by
  obtain⟨hp,g,d,UH,os⟩:=s
  refine cN h λhh hr h=>?_
  have UI:=sub_tuple_self
  have R_:=init_tuple_lookup
  have WB:=madeHere_tuple
  have hT:Shared.TypeIs ⟨hp,g,d,UH,os⟩ (.ref r) "range":=⟨_,hr,rfl⟩
  have UJ:A.in1.handled=none:=hh
  wp_walk using Ys hr,aat hT,nj UJ hr iC hn a_
  intro h' tk acc hk kK
  show wpAny _ _ (Builtin.Tuple.tupleExact acc.toList.toArray >>= λv=>ret v) _ _ _
  unfold Builtin.Tuple.tupleExact
  refine WV (XG ?_ (show acc.toList.toArray.size<=sizeLine by simp only[aaH];rw[kK.1,sizeLine_eq];exact a_))
  refine W7 ⟨_,rfl,?_⟩
  have e:acc.toList.toArray=acc:=by simp
  rw[e]
  exact h h' tk acc hk kK
section
variable {prog:Program}{w:World}{A:Around}{E:Value->Shared->Prop}{s:Shared}
def wD{Q:Value->Shared->Prop}{r:Addr}{a b c:Int}{t u v:Tok}{n:Nat}(hh:A.handled=none)(hr:IsRange s.heap r a b c t u v)(iC:Builtin.Range.small a b c=true)(hn:Builtin.Range.rangeSize a b c=n)(a_:n<=2 ^ 24)
  (h:∀(h':Heap) (tk:Nat) (acc:Array Value),(∀b o,s.heap.get? b=some o->h'.get? b=some o)->ItemsOf (K7 a c) acc n->Q (.ref h'.objs.size) {s with heap:=h'.push {cls:= .type "tuple",data:= .seq acc},toks:=tk}):
  wpAny (model prog w) A (call (.type "tuple") [.ref r]) Q E s:=
 callType_new F.called_tuple (by decide) (F.typeCall_tuple_1 _) (F.newCall_tuple_1 _) (λobj=>ZG obj _) F.entry_tuple_new (tH iC hn a_)
  ⟨hh,hr,λh' tk acc hk kK=>⟨⟨_,Xe _ rfl,rfl⟩,h h' tk acc hk kK⟩⟩
end
open AutoSeq1 (wpAny_loadPart')
theorem uE:∀{bs:List Bool}{us:List Value},aL (bs.map V.bl) us->us=bs.map Value.bool
 |[],_,.nil =>rfl
 |b::bs,_,.cons r t=>by
  have e:_=Value.bool b:=r
  rw[e,uE t]
  rfl
section
variable {prog:Program}{w:World}{A:Around}{E:Value->Shared->Prop}{s:Shared}{l:Addr}
def qV(A:Around)(bs:List Bool):TruthOf prog w A (λi v=>(bs.map Value.bool).toArray[i]?=some v) (λi=>bs.getD i false):=λi v s Q E hP hQ=>by
 have q:(bs.map Value.bool)[i]?=some v:=by simpa using hP
 rw[Xb]at q
 cases e:bs[i]? with
 |none=>rw[e]at q;cases q
 |some b=>
  rw[e]at q
  cases q
  have:bs.getD i false=b:=by rw[Xa,e];rfl
  have Sa:Q (bs.getD i false) s:=hQ
  rw[this]at Sa
  exact Yf Sa
def all_range{bs:List Bool}:(List.range bs.length).all (λi=>bs.getD i false)=bs.all id:=by
 rw[aay,Ya,Ya]
 constructor
 .intro h b hb
  obtain⟨i,hi,rfl⟩:=List.mem_iff_getElem.mp hb
  have:=h i (XH.mpr hi)
  rw[Xa,WW hi]at this
  exact this
 .intro h i hi
  have iX:=XH.mp hi
  rw[Xa,WW iX]
  exact h _ (YI iX)
def yH{bs:List Bool}{Q:Value->Shared->Prop}(hh:A.handled=none)(hl:s.heap.IsList l (bs.map Value.bool).toArray)
  (h:∀h' tk,(∀b o,s.heap.get? b=some o->h'.get? b=some o)->Q (.bool (bs.all id)) {s with heap:=h',toks:=tk}):wpAny (model prog w) A (call (.builtin "all") [.ref l]) Q E s:=by
 have bZ:l<s.heap.objs.size:=by obtain⟨_,e,_⟩:=hl;exact Xg e
 refine call_all_walk (Y4 hl ?_)
 refine⟨_,[_,l],[_],_,_,_,_,rfl,Walks.list (A:=A.in1) hh s.heap.objs.size l (Xu bZ) _,⟨⟨_,Xe _ rfl,rfl,rfl⟩,hl.push _⟩,qV _ bs,λh' tk hk=>?_⟩
 have e:(bs.map Value.bool).toArray.size =bs.length:=by simp
 rw[e,all_range]
 refine h h' tk λb o z=>hk b o (λhm=>?_) (WY _ z)
 rw[W5.mp hm]at z
 exact absurd (Xg z) (XS _)
end
section
variable {X:Cx}
def wF(hc:X.calm=true):cX X (.builtin "all") (λxs H Q=>∃(p:Addr) (bs:List Bool),xs=[.ref p]/\dq X.K H p (bs.map V.bl)/\Q (.bl (bs.all id)) H):=by
 intro U s σ H xs us Q I r zz
 refine bu zz λp bs e hq q=>?_
 subst e
 refine aa (vals1 r) λu ag rx=>?_
 subst ag
 cases rx
 refine bJ (I.list hq) λits rv pl hz=>?_
 rw[uE rv]at pl
 exact yH (I.ok.hd hc) pl.isList λh' tk hk=>⟨.bl _,H,I.kept (t':=tk) hk,rfl,q⟩
end
section
variable {prog:Program}{w:World}{A:Around}{E:Value->Shared->Prop}{s:Shared}
end
section
variable {X:Cx}
theorem i8:∀{us:List Value}{ns:List Int},IntsAre us ns->aL (ns.map V.int) us
 |_,_,.nil => .nil
 |_,_,.cons n t r=> .cons ⟨t,rfl⟩ (i8 r)
def B8:kj X (binaryOp .Add) (λx y H Q=>∃a b ys,x= .ref a/\y= .ref b/\c9 X.K H a []/\c9 X.K H b ys/\Q (.ref b) H):=by
 intro U s σ H x y v u Q I rx ry zz
 refine so zz λa b ys e1 e2 h1 h2 q=>?_
 refine aq λnO=>?_
 subst e1 e2
 cases rx
 cases ry
 obtain⟨its,r1,⟨⟨c,dd,dt,sl⟩,ho,hc,n,hd⟩,_⟩:=I.tuple h1
 obtain⟨iz,r2,⟨⟨c2,Et,WC,Eu⟩,Bn,Ew,n2,m7⟩,_⟩:=I.tuple h2
 cases r1
 refine nO ?_
 simp only at hc hd Ew m7
 subst hc hd Ew m7
 exact concat_meets ⟨_,ho,rfl⟩ ⟨_,Bn,rfl⟩ noFill_tuple_add seq_tuple_add Zr Zk (Zh _ _)
  (tuple_addW0 a b _ iz.toArray n n2 dd Et sl Eu (by simp)) ⟨ho,Bn,.ref b,H,I,rfl,q⟩
end
open HT
open AutoSeq1 (wpAny_loadPart')
section
variable {prog:Program}{w:World}{A:Around}{E:Value->Shared->Prop}{s:Shared}
def nk(ht:IsTup s.heap t items)(h:Q true s):wpAny (model prog w) A (Builtin.Tuple.tupleIsExact (.ref t)) Q E s:=by
 unfold Builtin.Tuple.tupleIsExact
 exact WV (aat ht.typeIs (W7 (by simpa using h)))
def g_{t sl:Addr}{items:Array Value}{vl vu:Value}{lo hi:Option Int}{Q:Value->Shared->Prop}(ht:IsTup s.heap t items)(hs:s.heap.IsSliceOf sl vl vu .none)(pl:IsPart vl lo)(pu:IsPart vu hi)
  (hw:cK items.size 0 lo=0/\cK items.size items.size hi=items.size) (h:Q (.ref t) s):wpAny (model prog w) A (getItem (.ref t) (.ref sl)) Q E s:=by
 refine bJ (id hs) λos Gf yc Ku=>?_
 have BN:s.TypeIs (.ref sl) "slice":=⟨os,Gf,yc⟩
 unfold getItem
 try with_reducible refine XT ?_
 first|refine WV (W7 ?_)|skip
 refine WV (wpAny_sequenceKey ht.typeIs (by decide) ?_)
 refine WV (X2 (name:=Str.ofString "__getitem__") ht.typeIs XX (XW XX ht.typeIs entry_tuple_getitem ?_ (args_tuple_getitem _ _)))
 show wpAny _ _ (Builtin.Tuple.tupleItemsOf (.ref t) >>= _) _ _ s
 refine WV (tupleItemsOf_ ht ?_)
 refine WV (aat BN ?_)
 rw[Xl (by decide)]
 refine WV (eW hs pl pu ?_)
 have Pw:(((cK items.size 0 lo:Nat):Int)==0&&(1:Int)==1&&(cK items.size items.size hi-cK items.size 0 lo)==items.size)=true:=by
  rw[hw.1,hw.2];simp
 show wpAny _ _ (if(((cK items.size 0 lo:Nat):Int)==0&&(1:Int)==1&&(cK items.size items.size hi-cK items.size 0 lo)==items.size)=true then _ else _) _ _ s
 rw[Xl Pw]
 refine WV (nk ht ?_)
 rw[Xl rfl]
 exact WV (Y5 (W7 ⟨_,rfl,W7 h⟩))
end
section
variable {X:Cx}
def K8(K:PySem.W.Frag):V->Option Int->Option Int->Hp->VK->Prop:=λx lo hi H Q=>∃a xs,x= .ref a/\c9 K H a xs/\(cK xs.length 0 lo=0/\cK xs.length xs.length hi=xs.length)/\Q x H
def yI:Bo X (K8 X.K):=by
 intro U s σ H x v vl vu lo hi sl Q I rx hs pl pu h
 refine gH h λa xs ag hx hw q=>?_
 try clear h
 subst ag
 cases rx
 refine bJ (I.tuple hx) λits r ht hz=>?_
 have a_:its.toArray.size=xs.length:=by rw[W8];exact r.length.symm
 exact⟨"tuple",_,XX.lookup,ht.typeIs,g_ ht hs pl pu (by rw[a_];exact hw) ⟨.ref a,H,I,rfl,q⟩⟩
def B9:Bo X (λx lo hi H Q=>Kw X.K x lo hi H Q\/K8 X.K x lo hi H Q):=Gg.or yI
end
end L2
namespace L2
open PySem PyProof.Rows
open PySem.Spec
section
variable {κ:Type}[DecidableEq κ]
noncomputable def jJ(ay:List (κ×V))(k:κ):Option V:=(ay.find? λkv=>decide (kv.1=k)).map (·.2)
noncomputable def jK(ay:List (κ×V))(k:κ)(v:V):List (κ×V):=
 if(ay.any λkv=>decide (kv.1=k))=true then ay.map (λkv=>if kv.1=k then(kv.1,v) else kv) else ay++[(k,v)]
def i9{p:κ×V}{r:List (κ×V)}{k:κ}(e:p.1=k):jJ (p::r) k=some p.2:=by simp[jJ,YE,e]
def i_{p:κ×V}{r:List (κ×V)}{k:κ}(e:¬p.1=k):jJ (p::r) k=jJ r k:=by simp[jJ,YE,e]
theorem qW(k:κ):∀ay:List (κ×V),(ay.any λkv=>decide (kv.1=k))=(jJ ay k).isSome
 |[]=>rfl
 |p::r=>by
  rw[Y6]
  by_cases e:p.1=k
  .simp only[i9 e,decide_eq_true e,Bool.true_or,aaT]
  .rw[i_ e,decide_eq_false e,Bool.false_or];exact qW k r
def kr(ay:List (κ×V))(k:κ)(v:V):(jK ay k v).length <=ay.length+1:=by
 unfold jK
 split
 .rw[WZ];lia
 .rw[W_,Xm,YC];lia
def mU.eX(r:mU o u):o.isSome=u.isSome:=by
 cases o with
 |none=>cases u with
  |none=>rfl
  |some _=>exact(show False from r).elim
 |some _=>cases u with
  |none=>exact(show False from r).elim
  |some _=>rfl
def KV.val{ay:List (κ×V)}{vs:List (κ×Value)}(r:KV ay vs)(k:κ):mU (jJ ay k) (valueAt vs k):=by
 unfold KV at r
 induction r with
 |nil=>exact True.intro
 |@cons p q ps qs h t ih=>
  obtain⟨h1,h2⟩:=h
  by_cases e:p.1=k
  .have e':q.1=k:=h1.symm.trans e
   have b:valueAt (q::qs) k=some q.2:=by simp[valueAt,YE,e']
   rw[i9 e,b];exact h2
  .have e':¬q.1=k:=λz=>e (h1.trans z)
   have b:valueAt (q::qs) k=valueAt qs k:=by simp[valueAt,YE,e']
   rw[i_ e,b];exact ih
theorem KV.any(r:KV ay vs)(k:κ):(ay.any λkv=>decide (kv.1=k))=vs.any λkv=>decide (kv.1=k):=by
 unfold KV at r
 induction r with
 |nil=>rfl
 |cons h t ih=>rw[Y6,Y6,ih,h.1]
def KV.GN(r:KV ay vs)(k:κ)(ry:RelV y u):
  KV (ay.map λkv=>if kv.1=k then(kv.1,y) else kv) (vs.map λkv=>if kv.1=k then(kv.1,u) else kv):=by
 unfold KV at r⊢
 induction r with
 |nil=>exact .nil
 |@cons p q ps qs h t ih=>
  rw[Xj,Xj]
  refine .cons ?_ ih
  obtain⟨h1,h2⟩:=h
  by_cases e:p.1=k
  .rw[Xl e,Xl (h1.symm.trans e)];exact⟨h1,ry⟩
  .rw[Xs e,Xs (λz=>e (h1.trans z))];exact⟨h1,h2⟩
def KV.put(r:KV ay vs)(k:κ)(ry:RelV y u):KV (jK ay k y) (stored vs k u):=by
 unfold jK stored
 rw[r.any k]
 by_cases e:(vs.any λkv=>decide (kv.1=k))=true
 .rw[Xl e,Xl e];exact r.GN k ry
 .rw[Xs e,Xs e];exact Paired.snoc r ⟨rfl,ry⟩
def KV.keys{ay:List (κ×V)}{vs:List (κ×Value)}(r:KV ay vs):ay.map (·.1)=vs.map (·.1):=by
 unfold KV at r
 induction r with
 |nil=>rfl
 |cons h t ih=>rw[Xj,Xj,ih,h.1]
theorem KV.length(r:KV ay vs):ay.length=vs.length:=Y3 r
end
def nW(r:RelV (kV k) u):(br P w).is k u=true:=by
 cases k with
 |inl i=>obtain⟨t,e⟩:=(show∃t,u=Value.int i t from r);subst e;exact qr P w i t
 |inr x=>obtain⟨t,e⟩:=(show∃t,u=Value.str x t from r);subst e;exact qt P w x t
theorem nX:∀{ks:List cU}{us:List Value},aL (ks.map kV) us->ItemsAre (br P w) ks us
 |[],_,r=>by rw[ZS]at r;cases r;exact .nil
 |k::ks,_,r=>by
  rw[Xj]at r
  cases r with
  |cons h t=>exact .cons (nW h) (nX t)
abbrev KT(H:Hp):List (List cU×V)->List (List cU×Addr×Value)->Prop:=Paired λp q=>p.1=q.1/\H q.2.1=some (.tup (p.1.map kV))/\RelV p.2 q.2.2
def KT.val{H:Hp}{ay:List (List cU×V)}{xs:List (List cU×Addr×Value)}(r:KT H ay xs)(k:List cU):mU (jJ ay k) ((atKey xs k).map (·.2)):=by
 induction r with
 |nil=>exact True.intro
 |@cons p q ps qs h t ih=>
  refine cN h λh1 _ h2=>?_
  by_cases e:p.1=k
  .have e':q.1=k:=h1.symm.trans e
   have b:atKey (q::qs) k=some q.2:=by simp[atKey,YE,e']
   rw[i9 e,b];exact h2
  .have e':¬q.1=k:=λz=>e (h1.trans z)
   have b:atKey (q::qs) k=atKey qs k:=by simp[atKey,YE,e']
   rw[i_ e,b];exact ih
def KT.GN(r:KT H ay xs)(k:List cU)(ry:RelV y u):
  KT H (ay.map λkv=>if kv.1=k then(kv.1,y) else kv) (xs.map (putAt k u)):=by
 induction r with
 |nil=>exact .nil
 |@cons p q ps qs h t ih=>
  rw[Xj,Xj]
  refine .cons ?_ ih
  refine cN h λh1 h2 h3=>?_
  unfold putAt
  by_cases e:p.1=k
  .rw[Xl e,Xl (h1.symm.trans e)];exact⟨h1,h2,ry⟩
  .rw[Xs e,Xs (λz=>e (h1.trans z))];exact⟨h1,h2,h3⟩
def KT.put(r:KT H ay xs)(k:List cU)(hb:H b=some (.tup (k.map kV)))(ry:RelV y u):
  KT H (jK ay k y) (storedH xs k b u):=by
 have e:(ay.any λkv=>decide (kv.1=k))=(atKey xs k).isSome :=by
  rw[qW,(r.val k).eX,Z5]
 unfold jK storedH
 rw[e]
 by_cases q:(atKey xs k).isSome =true
 .rw[Xl q,Xl q];exact r.GN k ry
 .rw[Xs q,Xs q];exact Paired.snoc r ⟨rfl,hb,ry⟩
def KT.keeps(r:KT H ay xs)(ht:∀b ys,H b=some (.tup ys)->H' b=some (.tup ys)):KT H' ay xs:=
 Paired.JS r λ_ _ z=>⟨z.1,ht _ _ z.2.1,z.2.2⟩
section
variable {P:Program}{w:World}{H:Hp}{h:Heap}{a:Addr}
def EL(ok:iq P w H h)(e:Rd H a u):aZ P w H h a u:=e.ok ok
def ja(ok:iq P w H h)(e:Rd H a (.dK ay)):ay.length<=sizeLine/\(a==sysModules)=false/\∃vs,KV ay vs/\h.DictOf (br P w) a vs:=
 show aZ P w H h a (.dK ay) from EL ok e
def EM(ok:iq P w H h)(e:H a=some (.dK ay)):ay.length<=sizeLine/\(a==sysModules)=false/\∃vs,KV ay vs/\h.DictOf (br P w) a vs:=ja ok (.inl e)
def jL(ok:iq P w H h)(e:H a=some (.tup (ks.map kV))):(tupleKind (br P w)).is h ks a:=by
 refine aq λnO=>?_
 obtain⟨_,its,r,o,h1,h2,⟨n,h3⟩,_⟩:=(show aZ P w H h a (.tup (ks.map kV)) from ok a _ e)
 exact nO<|⟨o,its.toArray,n,h1,h2,h3,by simpa using nX r⟩
def lP(ok:iq P w H h)(e:Rd H a (.dT ay)):ay.length<=sizeLine/\(a==sysModules)=false/\
  ∃xs,KT H ay xs/\h.DictOfH (tupleKind (br P w)) a xs:=by
 refine aq λnO=>?_
 obtain⟨z,y,xs,r,o,es,ep,h1,h2,h3,h4,h5⟩:=(show aZ P w H h a (.dT ay) from EL ok e)
 refine nO ?_
 refine⟨z,y,xs,r,o,es,ep,h1,h2,h3,h4,λx hx=>?_,h5⟩
 have all:∀{l:List (List cU×V)}{m:List (List cU×Addr×Value)},KT H l m->∀x∈m,(tupleKind (br P w)).is h x.1 x.2.1:=by
  intro l m q
  induction q with
  |nil=>intro x hx;exact nomatch hx
  |@cons p q ps qs hq t ih=>
   intro x hx
   rcases Xc.mp hx with e|hx
   .subst e
    exact jL ok (by rw[<-hq.1];exact hq.2.1)
   .exact ih x hx
 exact all r x hx
def EN(ok:iq P w H h)(e:H a=some (.dT ay)):ay.length<=sizeLine/\(a==sysModules)=false/\
  ∃xs,KT H ay xs/\h.DictOfH (tupleKind (br P w)) a xs:=lP ok (.inl e)
end
def pC(H:Hp)(a:Addr)(y:V)(r:Option V):Prop:=
 (∃ay k,Rd H a (.dK ay)/\y=kV k/\r=jJ ay k)\/∃ay k b,Rd H a (.dT ay)/\y= .ref b/\H b=some (.tup (k.map kV))/\r=jJ ay k
def GO(H:Hp)(a:Addr)(y v:V)(H':Hp):Prop:=
 (∃ay k,H a=some (.dK ay)/\y=kV k/\ay.length<sizeLine/\H'=upd H a (.dK (jK ay k v)))\/
 ∃ay k b,H a=some (.dT ay)/\y= .ref b/\H b=some (.tup (k.map kV))/\ay.length<sizeLine/\H'=upd H a (.dT (jK ay k v))
section
variable {X:Cx}{U:List (Addr×Obj)}{σ:St}{H:Hp}{s:Shared}{a:Addr}{y v:V}{u r:Value}{o:Option V}{A:Around}{E:Value->Shared->Prop}
def Inv.big(I:Inv X U σ H s):sysModules<s.heap.objs.size:=by
 have h:mainGlobals<s.heap.objs.size:=(I.mod.glob.keeps I.bk).lt
 exact Zi (by decide) h
def wG(hu:A.units+1<cLine)(I:Inv X U σ H s)(g:pC H a y (some v))(ry:RelV y u)(h:∀w' s',Inv X U σ H s'->RelV v w'->Q w' s'):
  wpAny (model X.prog X.w) A (getItem (.ref a) u) Q E s:=by
 rcases g with⟨ay,k,e,ey,l⟩|⟨ay,k,b,e,ey,eb,l⟩
 .refine aq λnO=>?_
  subst ey
  obtain⟨z,hd,vs,eY,dd⟩:=ja I.aW e
  exact aa (mU.some_of (v:=v) (o:=valueAt vs k) (by rw[l];exact eY.val k)) λw' hw yf=>nO<|wpAny_getItem_of (nW ry) dd.mapOf hw (h w' _ (I.tok _) yf)
 .subst ey
  cases (show u=Value.ref b from ry)
  refine aq λnO=>?_
  obtain⟨z,hd,xs,eY,dd⟩:=lP I.aW e
  refine aa (mU.some_of (v:=v) (o:=(atKey xs k).map (·.2)) (by rw[l];exact eY.val k)) λw' hw yf=>aa (YV.mp hw) λp hp wH=>nO<|wpAny_getItem_heap (tupleKind_room_in1 hu) (jL I.aW eb) dd hp ?_
  rw[wH]
  exact h w' _ (I.tok _) yf
def Px(hu:A.units+1<cLine)(I:Inv X U σ H s)(g:pC H a y o)(ry:RelV y u)(h:∀s',Inv X U σ H s'->Q (.bool o.isSome) s'):
  wpAny (model X.prog X.w) A (compareOp .In u (.ref a)) Q E s:=by
 rcases g with⟨ay,k,e,ey,l⟩|⟨ay,k,b,e,ey,eb,l⟩
 .refine aq λnO=>?_
  subst ey
  obtain⟨z,hd,vs,eY,dd⟩:=ja I.aW e
  refine nO<|wpAny_in_of (nW ry) hd dd.mapOf ?_
  rw[<-(eY.val k).eX,<-l]
  exact h _ (I.tok _)
 .subst ey
  cases (show u=Value.ref b from ry)
  refine aq λnO=>?_
  obtain⟨z,hd,xs,eY,dd⟩:=lP I.aW e
  refine nO<|wpAny_in_heap (tupleKind_room_in1 hu) (jL I.aW eb) hd dd ?_
  have q:=(eY.val k).eX
  rw[Z5]at q
  rw[<-q,<-l]
  exact h _ (I.tok _)
def B_(hu:A.units+1<cLine)(I:Inv X U σ H s)(g:pC H a y o)(ry:RelV y u)(h:∀s',Inv X U σ H s'->Q (.bool (!o.isSome)) s'):
  wpAny (model X.prog X.w) A (compareOp .NotIn u (.ref a)) Q E s:=by
 rcases g with⟨ay,k,e,ey,l⟩|⟨ay,k,b,e,ey,eb,l⟩
 .refine aq λnO=>?_
  subst ey
  obtain⟨z,hd,vs,eY,dd⟩:=ja I.aW e
  refine nO<|wpAny_notIn_of (nW ry) hd dd.mapOf ?_
  rw[<-(eY.val k).eX,<-l]
  exact h _ (I.tok _)
 .subst ey
  cases (show u=Value.ref b from ry)
  refine aq λnO=>?_
  obtain⟨z,hd,xs,eY,dd⟩:=lP I.aW e
  refine nO<|wpAny_notIn_heap (tupleKind_room_in1 hu) (jL I.aW eb) hd dd ?_
  have q:=(eY.val k).eX
  rw[Z5]at q
  rw[<-q,<-l]
  exact h _ (I.tok _)
def kS(I:Inv X U σ H s)(mu:xK (H a))(hs:Heap.SameBut a s.heap h')(he:∃q,h'.get? a=some q)(new:aZ X.prog X.w (upd H a ob) h' a ob):
  Inv X U σ (upd H a ob) {s with heap:=h',toks:=t'}:=
 I.write (x:=a) (e:=a) mu (.inl rfl) (λb q hb z=>(hs.2 b hb).trans z) he new
def yJ(z:ay.length<=sizeLine)(hd:(a==sysModules)=false)(eY:KV ay vs)(dd:h'.DictOf (br P w) a vs):
  aZ P w H' h' a (.dK ay):=⟨z,hd,vs,eY,dd⟩
def wI(hu:A.units+1<cLine)(I:Inv X U σ H s)(g:GO H a y v H')(ry:RelV y u)(rv:RelV v r)(h:∀s',Inv X U σ H' s'->Q () s'):
  wpAny (model X.prog X.w) A (setItem (.ref a) u r) Q E s:=by
 rcases g with⟨ay,k,e,ey,l,eH⟩|⟨ay,k,b,e,ey,eb,l,eH⟩
 .refine aq λnO=>?_
  subst ey eH
  obtain⟨z,hd,vs,eY,dd⟩:=EM I.aW e
  refine nO ?_
  have hz:vs.length<=sizeLine:=by rw[<-eY.length];exact z
  have hl:(jK ay k v).length <=sizeLine:=by have:=kr ay k v;lia
  refine wpAny_setItem_pairs (hsz:=hz) (nW ry) dd λh' Ca hs=>h _ ?_
  have he:∃q,h'.get? a=some q:=let ⟨q,_,_,hq,_⟩:=Ca;⟨q,hq⟩
  exact kS I (by rw[e];exact True.intro) hs he (yJ hl hd (eY.put k rv) Ca)
 .subst ey eH
  cases (show u=Value.ref b from ry)
  refine aq λnO=>?_
  obtain⟨z,hd,xs,eY,dd⟩:=EN I.aW e
  refine nO ?_
  have hz:xs.length<=sizeLine:=by rw[<-Y3 eY];exact z
  have hl:(jK ay k v).length <=sizeLine:=by have:=kr ay k v;lia
  refine wpAny_setItem_heap (hsz:=hz) (tupleKind_room_in1 hu) (jL I.aW eb) dd λh' Ca hs=>h _<|aq λnO=>JO Ca λq es ep hq h2 h3 h4 _ h5=>nO ?_
  refine kS I (by rw[e];exact True.intro) hs ⟨q,hq⟩ ⟨hl,hd,_,(eY.put k eb rv).keeps λc ys ec=>?_,q,es,ep,hq,h2,h3,h4,h5⟩
  rw[ak (fR ec e (λz=>nomatch z))]
  exact ec
end
def Cb(i:Expr):Prop:=∀ov iv,subscripted i false ov iv=operate [ov,iv] (getItem ov iv)
def Cc{prog:Program}{w:World}{A:Around}{E:Value->Shared->Prop}{s:Shared}{env:Env}{value slice:Expr}{pos:Pos}{T id:String}{Q:Value->Shared->Prop}
  (hl:typeLookup (.type T) "__getitem__"=pure (some (.builtin id))) (hs:Cb slice)
  (h:wpAny (model prog w) A (eval value env) (λo bg=>wpAny (model prog w) A (eval slice env) (λi lB=>lB.TypeIs o T/\wpAny (model prog w) A (getItem o i) Q E lB) E bg) E s):
  wpAny (model prog w) A (eval (.Subscript value slice pos) env) Q E s:=by
 refine Subscript_ (Yo h (λo bg BX=>Yo BX (λi lB yl=>?_) λ_ _ x=>x) λ_ _ x=>x)
 obtain⟨hT,yl⟩:=yl
 unfold subscriptTail
 refine WV ?_
 rw[getitemInPython_of_ne hT.not_modules]
 refine WV (aaw hT hl ?_)
 have fin:wpAny (model prog w) A (subscripted slice false o i) (λr wx=>wpAny (model prog w) A (letTemporaryGo value o r >>= λ_=>pure r) Q E wx) E lB:=by
  rw[hs o i]
  exact wpAny_operating (Yo yl (λr wx BY=>WV (wpAny_letTemporaryGo (W7 BY))) λ_ _ x=>x)
 first
  |exact W7 (WV fin)
  |exact WV (W7 (WV fin))
  |exact WV fin
def qX(I:Inv X U σ H s)(g:pC H a y o):s.TypeIs (.ref a) "dict":=by
 rcases g with⟨ay,k,e,_,_⟩|⟨ay,k,b,e,_,_,_⟩
 .obtain⟨_,_,vs,_,dd⟩:=ja I.aW e
  exact dd.typeIs
 .obtain⟨_,_,xs,_,dd⟩:=lP I.aW e
  exact dd.typeIs
def K9(td ty:TE):TE:=λσ H Q=>td σ H λx H1=>ty σ H1 λy H2=>∃a v,x= .ref a/\pC H2 a y (some v)/\Q v H2
def Pz(ty td:TE):TE:=λσ H Q=>ty σ H λy H1=>td σ H1 λx H2=>∃a o,x= .ref a/\pC H2 a y o/\Q (.bl o.isSome) H2
def Cd(ty td:TE):TE:=λσ H Q=>ty σ H λy H1=>td σ H1 λx H2=>∃a o,x= .ref a/\pC H2 a y o/\Q (.bl (!o.isSome)) H2
def uF(td ty tv:TE):TS:=λD σ H=>tv σ H λv H1=>td σ H1 λx H2=>ty σ H2 λy H3=>∃a H4,x= .ref a/\GO H3 a y v H4/\D.nx σ H4
section
variable {X:Cx}{o i e value:Expr}{pos qx tpos:Pos}{td ty tv:TE}
def Ce(hu:X.A.units+1<cLine)(ho:PE X o td)(hi:PE X i ty)(hs:Cb i):PE X (.Subscript o i pos) (K9 td ty):=by
 intro U s σ H Q I h
 refine Cc PySem.F.slot_dict_getitem.lookup hs (bG (ho U s σ H _ I h) λu s1 zz=>bu zz λx H1 I1 rx q1=>bG (hi U s1 σ H1 _ I1 q1) λiv s2 zz=>?_)
 refine aq λnO=>?_
 obtain⟨y,H2,I2,ry,a,v,ex,g,q2⟩:=zz
 subst ex
 refine nO ?_
 obtain rfl:u=Value.ref a:=rx
 exact⟨qX I2 g,wG hu I2 g ry λw' s3 I3 yf=>⟨v,H2,I3,yf,q2⟩⟩
def GP(hu:X.A.units+1<cLine)(hi:PE X i ty)(ho:PE X o td):PC X .In i o (Pz ty td):=by
 intro U s σ H Q I h
 refine bG (hi U s σ H _ I h) λiv s1 zz=>bu zz λy H1 I1 ry q1=>bG (ho U s1 σ H1 _ I1 q1) λu s2 zz=>aq λnO=>?_
 obtain⟨x,H2,I2,rx,a,ov,ex,g,q2⟩:=zz
 subst ex
 refine nO ?_
 obtain rfl:u=Value.ref a:=rx
 exact Px hu I2 g ry λs3 I3=>⟨.bl ov.isSome,H2,I3,rfl,q2⟩
def wJ(hu:X.A.units+1<cLine)(hi:PE X i ty)(ho:PE X o td):PC X .NotIn i o (Cd ty td):=by
 intro U s σ H Q I h
 refine bG (hi U s σ H _ I h) λiv s1 zz=>bu zz λy H1 I1 ry q1=>bG (ho U s1 σ H1 _ I1 q1) λu s2 zz=>aq λnO=>?_
 obtain⟨x,H2,I2,rx,a,ov,ex,g,q2⟩:=zz
 subst ex
 refine nO ?_
 obtain rfl:u=Value.ref a:=rx
 exact B_ hu I2 g ry λs3 I3=>⟨.bl (!ov.isSome),H2,I3,rfl,q2⟩
def uG(hu:X.A.units+1<cLine)(ho:PE X o td)(hi:PE X i ty)(hv:PE X value tv)(hs:swapsWith value (some (.Subscript o i qx)) pos.line X.env=pure false):
  PS X (.Assign [.Subscript o i qx] value pos) (uF td ty tv):=by
 intro U s σ H D I h
 refine wpAny_Assign_Subscript (bG (hv U s σ H _ I h) λr s1 ⟨v,H1,I1,rv,q1⟩=>bG (ho U s1 σ H1 _ I1 q1) λu s2 ⟨x,H2,I2,rx,q2⟩=>bG (hi U s2 σ H2 _ I2 q2) λiv s3 ⟨y,H3,I3,ry,a,H4,ex,g,q3⟩=>?_) hs
 subst ex
 obtain rfl:u=Value.ref a:=rx
 exact wI hu I3 g ry rv λs4 I4=>⟨σ,H4,I4,q3⟩
end
def yK(h:Heap)(hb:sysModules<h.objs.size):aZ P w H (h.push {cls:= .type "dict",data:= .dict #[]}) h.objs.size (.dK []):=
 ⟨Ye _,beq_eq_false_iff_ne.mpr (XY (Xu hb)),[],.nil,Heap.DictOf.new h⟩
def yL(h:Heap)(hb:sysModules<h.objs.size):aZ P w H (h.push {cls:= .type "dict",data:= .dict #[]}) h.objs.size (.dT []):=
 ⟨Ye _,beq_eq_false_iff_ne.mpr (XY (Xu hb)),[],.nil,_,#[],0,Xe _ rfl,⟨rfl,rfl,rfl⟩,rfl,rfl,List.nodup_nil⟩
section
variable {X:Cx}{pos:Pos}
end
def UK(H:Hp)(a:Addr):Prop:=(∃ay,Rd H a (.dK ay))\/∃ay,Rd H a (.dT ay)
def GQ(I:Inv X U σ H s)(d:UK H a):
  s.TypeIs (.ref a) "dict"/\(∀b,Value.ref a= .ref b->∃ob,s.heap.get? b=some ob/\ob.dict=none)/\(a==sysModules)=false:=by
 rcases d with⟨ay,e⟩|⟨ay,e⟩
 .refine aq λnO=>?_
  obtain⟨_,hd,vs,_,dd⟩:=ja I.aW e
  refine nO ?_
  refine⟨dd.typeIs,λb q=>?_,hd⟩
  refine aq λnO=>?_
  cases q
  exact cS dd λob _ _ h1 h2 _=>nO<|⟨ob,h1,h2.2.1⟩
 .refine aq λnO=>?_
  obtain⟨_,hd,xs,_,dd⟩:=lP I.aW e
  refine nO ?_
  refine⟨dd.typeIs,λb q=>?_,hd⟩
  refine aq λnO=>?_
  cases q
  exact cS dd λob _ _ h1 h2 _=>nO<|⟨ob,h1,h2.2.1⟩
section
variable {X:Cx}{U:List (Addr×Obj)}{σ:St}{H:Hp}{s:Shared}{a:Addr}{y d:V}{u r:Value}{o:Option V}{A:Around}{E:Value->Shared->Prop}
end
section
variable {X:Cx}{o e f:Expr}{mZ fW:Pos}{td ty tx:TE}
end
end L2
namespace b6
open PySem PyProof.Rows
abbrev SM:=StateT SortSt Sem
noncomputable def cv:Bool->Keyed->Array Keyed->Nat->Nat->Nat->SM (Option Nat):=sortPriv% PySem.Builtin.gallop
noncomputable def lQ:Array Keyed->Array Keyed->SM (Array Keyed):=sortPriv% PySem.Builtin.mergeLo
noncomputable def lR:Array Keyed->Array Keyed->SM (Array Keyed):=sortPriv% PySem.Builtin.mergeHi
noncomputable abbrev setG(zt:SortSt)(g:Nat):SortSt:=SortSt.mk' (kindOf zt) (arrOf zt) (pendingOf zt) g (failedOf zt)
noncomputable def bz(g:Nat):SM Unit:=modify λs=>setG s g
noncomputable def eG(left:Bool)(key:Keyed)(arr:Array Keyed)(base i:Nat):SM (Option Bool):=do {let x<-elem' arr (base+i);if left then lt' x key else return (<-lt' key x).map (!·)}
section
variable {prog:Program}{w:World}{A:Around}{E:Value->Shared->Prop}{s:Shared}{κ:SortKind}{P:Keyed->Prop}
def bB(hi:i<arr.size)(q:Q arr[i] zt):wpS (model prog w) A E s (elem' arr i) Q zt:=by
 rw[elem'_eq,XE hi]
 exact wpS_pure q
structure Sm(zt ai:SortSt):Prop where
 k:kindOf ai=kindOf zt
 a:arrOf ai=arrOf zt
 p:pendingOf ai=pendingOf zt
 f:failedOf ai=failedOf zt
def Sm.rfl':Sm zt zt:=⟨rfl,rfl,rfl,rfl⟩
theorem Sm.setG(h:Sm zt ai):Sm zt (setG ai g):=⟨h.k,h.a,h.p,h.f⟩
def Pt(a b out:Array Keyed)(i j:Nat):Prop:=out.toList.Perm (a.toList.take i++b.toList.take j)
def dI(X Y Z:List α):((X++Y)++Z).Perm ((X++Z)++Y):=by
 rw[Xw,Xw]
 exact YZ X aaz
section
variable {a b out:Array Keyed}{i j k:Nat}
def eZ(a:Array Keyed):a.toList.take i++(a.extract i (i+k)).toList =a.toList.take (i+k):=by
 rw[Yx]
 unfold List.extract
 rw[show i+k-i=k by lia,List.take_add]
def Pt.pD(h:Pt a b out i j):Pt a b (out++b.extract j (j+k)) i (j+k):=by
 unfold Pt at h⊢
 rw[Xh,<-eZ b,<-Xw]
 exact h.append_right _
def Pt.pE(h:Pt a b out i j):Pt a b (out++a.extract i (i+k)) (i+k) j:=by
 unfold Pt at h⊢
 rw[Xh,<-eZ a]
 exact(h.append_right _).trans (dI _ _ _)
def gJ(hi:i<a.size):(a.extract i (i+1)).toList =[a[i]]:=by
 rw[Yx]
 unfold List.extract
 have iX:i<a.toList.length:=by simpa using hi
 rw[show i+1-i=1 by lia,XR iX]
 simp
def uH(a:Array Keyed)(hi:i<=a.size):a.toList.take i++(a.extract i a.size).toList =a.toList:=by
 have:=eZ a (i:=i) (k:=a.size-i)
 rw[show i+(a.size-i)=a.size by lia]at this
 rw[this]
 exact XM (by simp)
def Pt.done(h:Pt a b out i j)(hi:i<=a.size)(hj:j<=b.size):((out++a.extract i a.size)++b.extract j b.size).toList.Perm (a.toList++b.toList):=by
 unfold Pt at h
 rw[Xh,Xh]
 refine((h.append_right _).append_right _).trans<|((dI _ _ _).append_right _).trans ?_
 rw[uH a hi,Xw,uH b hj]
def Pt.last(h:Pt a b out i j)(hi:i<=a.size)(hj:j<=b.size):((out++b.extract j b.size)++a.extract i a.size).toList.Perm (a.toList++b.toList):=by
 refine List.Perm.trans ?_ (h.done hi hj)
 simp only[Xh]
 exact dI _ _ _
end
def fZ[Decidable c](t:c->wpS (model prog w) A E s x Q zt)(f:¬c->wpS (model prog w) A E s y Q zt):wpS (model prog w) A E s (if c then x else y) Q zt:=by
 split
 .exact t ‹_›
 .exact f ‹_›
def Ph(a b out:Array Keyed)(i j:Nat):Prop:=((a.toList.take i++b.toList.take j)++out.toList).Perm (a.toList++b.toList)
section
variable {a b out:Array Keyed}{i j k:Nat}
def qY(a:Array Keyed)(h:k<=i):a.toList.take k++(a.extract k i).toList =a.toList.take i:=by
 have:=eZ a (i:=k) (k:=i-k)
 rwa [show k+(i-k)=i by lia]at this
def dQ(a:Array Keyed):(a.extract 0 i).toList =a.toList.take i:=by
 rw[Yx]
 unfold List.extract
 simp
def Ph.pE(h:Ph a b out i j)(hk:k<=i)(_:i<=a.size):Ph a b (out++(a.extract k i).reverse) k j:=by
 unfold Ph at h⊢
 refine List.Perm.trans ?_ h
 rw[Xh,X4,<-qY a hk,<-Xw]
 exact(YZ _ (Z6 _)).trans<|(dI _ _ _).trans<|(dI _ _ _).append_right _
def Ph.pD(h:Ph a b out i j)(hk:k<=j)(_:j<=b.size):Ph a b (out++(b.extract k j).reverse) i k:=by
 unfold Ph at h⊢
 refine List.Perm.trans ?_ h
 rw[Xh,X4,<-qY b hk,<-Xw,<-Xw]
 exact(YZ _ (Z6 _)).trans<|dI _ _ _
def jc(h1:1<=i)(hi:i-1<a.size):(a.extract (i-1) i).toList =[a[i-1]]:=by
 have:=gJ (a:=a) (i:=i-1) hi
 rwa [show i-1+1=i by lia]at this
def Ph.done(h:Ph a b out i j):((a.extract 0 i++b.extract 0 j)++out.reverse).toList.Perm (a.toList++b.toList):=by
 unfold Ph at h
 refine List.Perm.trans ?_ h
 rw[Xh,Xh,dQ,dQ,X4]
 exact YZ _ (Z6 _)
def Ph.first(h:Ph a b out i j):((b.extract 0 j++a.extract 0 i)++out.reverse).toList.Perm (a.toList++b.toList):=by
 refine List.Perm.trans ?_ h.done
 simp only[Xh]
 exact aaz.append_right _
end
end
section
variable {prog:Program}{w:World}{A:Around}{E:Value->Shared->Prop}{s:Shared}{κ:SortKind}{P:Keyed->Prop}
structure Ar(zt ai:SortSt):Prop where
 k:kindOf ai=kindOf zt
 a:(arrOf ai).Perm (arrOf zt)
 p:pendingOf ai=pendingOf zt
 f:failedOf ai=failedOf zt
def Ar.rfl':Ar zt zt:=⟨rfl,ZL _,rfl,rfl⟩
def Ar.set(h:Ar zt ai)(hx:x.Perm (arrOf ai)):Ar zt (setArr ai x):=⟨h.k,hx.trans h.a,h.p,h.f⟩
theorem Ar.size(h:Ar zt ai):(arrOf ai).size =(arrOf zt).size :=h.a.size_eq
def Ar.all(h:Ar zt ai)(hp:∀x∈arrOf zt,P x):∀x∈arrOf ai,P x:=λx hx=>hp x (h.a.mem_iff.mp hx)
def uI(q:Q () (setArr zt (mirror (arrOf zt) i j ((j-i)/2)))):wpS (model prog w) A E s (reverseSlice' i j) Q zt:=by
 rw[reverseSlice'_eq]
 exact wpS_modify q
def qZ(i:Nat):mergeAt' i=(do
  let s<-get
  let (some (sa,na,power),some (sb,nb,_)):=((pendingOf s)[i]?,(pendingOf s)[i+1]?)|unsupported "internal:list.sort.pending"
  set (setPending s (((pendingOf s).setIfInBounds i (sa,na+nb,power)).eraseIdxIfInBounds (i+1)))
  let some k<-cv false (<-elem' (arrOf s) sb) (arrOf s) sa na 0|return false
  let (sa,na):=(sa+k,na-k)
  if na==0 then return true
  let some nb<-cv true (<-elem' (arrOf s) (sa+na-1)) (arrOf s) sb nb (nb-1)|return false
  if nb==0 then return true
  let x:=(arrOf s).extract sa sb
  let y:=(arrOf s).extract sb (sb+nb)
  let merged<-if na<=nb then lQ x y else lR x y
  modify λs=>setArr s (merged.toList.zipIdx.foldl (λa (p,j)=>a.setIfInBounds (sa+j) p) (arrOf s))
  return (failedOf (<-get)).isNone):=rfl
def Cf{σ:Type}{M:Model}{zt ai:σ}{Q:PUnit->σ->Prop}(h:Q ⟨⟩ ai):wpS M A E s (set ai:StateT σ Sem PUnit) Q zt:=by
 unfold wpS
 rw[StateT.run_set]
 exact W7 ⟨rfl,h⟩
theorem pF:∀(ms:List Keyed) (o j:Nat) (a:Array Keyed),o+j+ms.length<=a.size->
  ((ms.zipIdx j).foldl (λa (p:Keyed×Nat)=>a.setIfInBounds (o+p.2) p.1) a).toList =a.toList.take (o+j)++ms++a.toList.drop (o+j+ms.length)
 |[],o,j,a,h=>by simp
 |m::ms,o,j,a,h=>by
  rw[Xm]at h
  rw[List.zipIdx_cons,List.foldl_cons,pF ms o (j+1) _ (by rw[Array.size_setIfInBounds];lia)]
  have e:(a.setIfInBounds (o+j) m).toList =a.toList.set (o+j) m:=Y9 ..
  have hl:o+j<a.toList.length:=by rw[Xt];lia
  rw[e,List.set_eq_take_append_cons_drop,Xl hl,Xm]
  have ht:(List.take (o+j) a.toList).length =o+j:=by rw[X3];lia
  have e5:(a.toList.take (o+j)++m::a.toList.drop (o+j+1)).take (o+(j+1))=a.toList.take (o+j)++[m]:=by
   rw[List.take_append,ht,show o+(j+1)-(o+j)=1 by lia,XM (by rw[ht];lia)]
   rfl
  have e6:(a.toList.take (o+j)++m::a.toList.drop (o+j+1)).drop (o+(j+1)+ms.length)=a.toList.drop (o+j+(ms.length+1)):=by
   rw[List.drop_append,ht,show o+(j+1)+ms.length-(o+j)=ms.length+1 by lia,List.drop_of_length_le (by rw[ht];lia),Yt,List.drop_succ_cons,ZV]
   congr 1
   lia
  rw[e5,e6]
  simp
def uJ{a:Array Keyed}{i j:Nat}{x:Keyed}(h:x∈a.extract i j):x∈a:=by
 rw[<-Yy,Yx]at h
 unfold List.extract at h
 exact Yy.mp (Y' (X8 h))
def K_[Decidable c](h1:x+1<n)(h2:y+1<n):(if c then x else y)+1<n:=by split<;>assumption
end
open PySem.W
def jM(h:Heap)(v:Value):Prop:=∃(x:Addr) (o:Obj) (xs:List Value) (n:Nat) (i:Int) (r:List Int),v= .ref x/\h.get? x=some o/\o.cls= .type "tuple"/\o.data= .seq xs.toArray n/\IntsAre xs (i::r)
section
variable {prog:Program}{w:World}{A:Around}{E:Value->Shared->Prop}{s:Shared}
theorem ku:∀{vs:List Value},(∀v∈vs,jM h v)->∃fs,KatTups h vs fs/\(∀f∈fs,∃i t,f=Value.int i t)/\fs.length=vs.length
 |[],_=>⟨[],.nil,λ_ z=>(nomatch z),rfl⟩
 |v::vs,hv=>by
  refine bJ (ku (vs:=vs) λz hz=>hv z (W4 _ hz)) λfs h1 h2 h3=>Jk (hv v W6) λx o xs n i r ag g1 g2 g3 g4=>?_
  subst ag
  cases g4 with
  |cons _ t g5=>exact⟨_,.cons g1 g2 g3 rfl h1,λf hf=>(Xc.mp hf).elim (λz=>⟨i,t,z⟩) (h2 f),by rw[Xm,Xm,h3]⟩
def q0(vs:List Value):(vs.toArray.zip vs.toArray).map (λp:Keyed=>p.2)=vs.toArray:=by
 apply Array.toList_inj.mp
 rw[ZD,Array.toList_zip]
 exact aah (W9 _)
end
end b6
namespace L2
open PySem PySem.Spec PyProof.Rows
def f6(h:Heap)(d:Addr)(es:Array DictEntry)(ep:Nat):Prop:=∃o,h.get? d=some o/\o.ExactDict/\o.data= .dict es ep
def f6.ty{s:Shared}{d:Addr}{es:Array DictEntry}{ep:Nat}(r:f6 s.heap d es ep):s.TypeIs (.ref d) "dict":=let ⟨o,e,c,_⟩:=r;⟨o,e,c.1⟩
def f6.on(r:f6 h d es ep)(k:∀o,h.get? d=some o->h'.get? d=some o):f6 h' d es ep:=let ⟨o,e,c⟩:=r;⟨o,k o e,c⟩
def f6.lt{h:Heap}{d:Addr}{es:Array DictEntry}{ep:Nat}(r:f6 h d es ep):d<h.objs.size:=let ⟨_,e,_⟩:=r;Xg e
section
variable {prog:Program}{w:World}{A:Around}{E:Value->Shared->Prop}{s:Shared}{d:Addr}{es:Array DictEntry}{ep:Nat}
end
open PySem.W
section
variable {prog:Program}{w:World}{A:Around}{E:Value->Shared->Prop}{s:Shared}{d it:Addr}{es:Array DictEntry}{ep i:Nat}
def q5(hm:(d==sysModules)=false)(r:f6 s.heap d es ep)(h:Q (.ref s.heap.objs.size) {s with heap:=s.heap.push {cls:= .type "dict_keyiterator",data:= .fields #[.ref d,.int 0 0,.int es.size 0,.int ep 0]}}):
  wpAny (model prog w) A (pyIter (.ref d)) Q E s:=by
 have T:=r.ty
 refine bJ r λo e c dt=>wpAny_pyIter_slot T F.slot_dict_iter (XW F.slot_dict_iter T F.entry_dict_iter ?_ (F.args_dict_iter_1 _))
 unfold Builtin.«dict.__iter__» Builtin.Dict.dictSlotNone
 refine WV (WV (wpAny_notOrdered_dict T ?_))
 show wpAny _ _ (pure (Value.ref d)) _ _ s
 refine W7 ?_
 show wpAny _ _ (Builtin.Dict.showsAll d >>= λ_=>_) _ _ s
 unfold Builtin.Dict.showsAll
 rw[Xs (by rw[hm];exact W2)]
 refine WV (W7 (WV (Z7 e dt (WV (aaA e dt ?_)))))
 refine WV (XG (W7 ⟨_,rfl,"dict_keyiterator",_,⟨_,Xe _ rfl,rfl⟩,Yl.lookup,?_⟩))
 simpa[rawInt]using h
def q_(k:s.heap.IsKeyIter it d i es.size ep)(r:f6 s.heap d es ep)(hi:i<es.size)
  (h:∀h',h'.IsKeyIter it d (i+1) es.size ep->Heap.SameBut it s.heap h'->Q (some es[i].key) {s with heap:=h'}):wpAny (model prog w) A (pyNext (.ref it)) Q E s:=by
 have T:=k.typeIs
 refine bJ (id k) λoi ei ci di=>bJ r λo e c dt=>?_
 unfold pyNext
 refine WV (Zn (X2 (name:=Str.ofString "__next__") T Yl (XW Yl T ZF ?_ (Zx _))))
 refine WV (W7 (WV (WV ?_)))
 first|refine WV (Yw T (W7 (WV (ZW ei di ?_))))|refine WV (YM T (W7 (WV (ZW ei di ?_))))
 have own:Builtin.Dict_items.ownsTuple "dict_keyiterator"=false:=by decide
 simp only[own,X9,if_false]
 show wpAny _ _ (if(Value.ref d==Value.none)=true then _ else _) _ _ s
 rw[Xs (show¬((Value.ref d==Value.none)=true) from W2)]
 refine WV (W7 (WV (Z7 e dt ?_)))
 rw[Xs (by simp)]
 refine WV (W7 (WV (aaA e dt ?_)))
 rw[Xs (by simp)]
 refine W7 ?_
 simp only[show¬((i:Int)<0) from by lia,if_false,X6,XE hi]
 refine WV ?_
 first|refine WV (Yw T (W7 (WV (Zy T ?_))))|refine WV (YM T (W7 (WV (Zy T ?_))))
 show wpAny _ _ (setField (.ref it) 1 (rawInt ((i:Int)+1)) >>= λ_=>_) _ _ s
 refine WV (YJ ei di (by simp) ?_)
 have k':(s.heap.update it (Obj.mapFields (·.setIfInBounds 1 (rawInt ((i:Int)+1))))).IsKeyIter it d (i+1) es.size ep:=
  ⟨_,Yh _ ei (YY (Yn di _)),(Z2 ..).trans ci,by rw[Yn di];simp[rawInt]⟩
 refine WV (XT (WV (Zy (s:={s with heap:=s.heap.update it (Obj.mapFields (·.setIfInBounds 1 (rawInt ((i:Int)+1))))}) k'.typeIs ?_)))
 show wpAny _ _ (pure es[i].key) _ _ _
 exact W7 (W7 ⟨_,rfl,W7 (h _ k' (Yp ..))⟩)
def uK(hh:A.handled=none)(k:s.heap.IsKeyIter it d es.size es.size ep)(r:f6 s.heap d es ep)(h:∀h',Heap.ExtBut it s.heap h'->Q none {s with heap:=h'}):wpAny (model prog w) A (pyNext (.ref it)) Q E s:=by
 have T:=k.typeIs
 refine bJ (id k) λoi ei ci di=>bJ r λo e c dt=>?_
 unfold pyNext
 refine WV (Zn (X2 (name:=Str.ofString "__next__") T Yl (XW Yl T ZF ?_ (Zx _))))
 refine WV (W7 (WV (WV ?_)))
 first|refine WV (Yw T (W7 (WV (ZW ei di ?_))))|refine WV (YM T (W7 (WV (ZW ei di ?_))))
 have own:Builtin.Dict_items.ownsTuple "dict_keyiterator"=false:=by decide
 simp only[own,X9,if_false]
 show wpAny _ _ (if(Value.ref d==Value.none)=true then _ else _) _ _ s
 rw[Xs (show¬((Value.ref d==Value.none)=true) from W2)]
 refine WV (W7 (WV (Z7 e dt ?_)))
 rw[Xs (by simp)]
 refine WV (W7 (WV (aaA e dt ?_)))
 rw[Xs (by simp)]
 refine W7 ?_
 simp only[show¬((es.size:Int)<0) from by lia,if_false,X6,Array.getElem?_eq_none (W9 es.size)]
 refine WV ?_
 first|refine WV (Yw T (W7 ?c))|refine WV (YM T (W7 ?c))
 case c=>
  show wpAny _ _ (setField (.ref it) 0 .none >>= λ_=>_) _ _ s
  refine WV (YJ ei di (by simp) ?_)
  show wpAny _ _ (newExc (.type "StopIteration") [] >>= λ_=>_) _ _ _
  refine WV ?_
  simp only[newExc,newTuple]
  refine WV (XG (WV (m:=firstArgMember _ _) (aaO (a:=Value.none) (by first|rfl|(simp only[firstArgMember];rfl)) (XG ?_ (by size_fits)))) (by size_fits))
  simp only[raiseNew]
  refine WV (wpAny_handled ?_)
  rw[show A.in1.handled=none from hh]
  refine(WV (W7 (wpAny_throw ?_)))
  refine(WV (wpAny_isInstance (T:="StopIteration") (b:=true) ⟨_,Xe _ rfl,rfl⟩ isSubtype_stop ?_))
  exact W7 (h _ (((Yp ..).extBut.push _).push _))
def rf(k:s.heap.IsKeyIter it d i n ep)(h:Q (.ref it) s):wpAny (model prog w) A (pyIter (.ref it)) Q E s:=wpAny_pyIter_keyiter k h
def wK(hh:A.handled=none)(it d:Addr)(fJ:d≠it)(es:Array DictEntry)(ep:Nat):Walks prog w A it [it,d] [it] es.size (λi v=>∃e,es[i]?=some e/\v=e.key) (λi h=>h.IsKeyIter it d i es.size ep/\f6 h d es ep) where
 sub:=λb hb=>by simp at hb;simp[hb]
 frame:=λ_ _ _ st hk=>⟨st.1.at λo e=>hk it (by simp) o e,st.2.on λo e=>hk d (by simp) o e⟩
 item:=λi s Q E hi st hQ=>q_ st.1 st.2 hi λh' k' hs=>hQ _ h' s.toks ⟨_,XE hi,rfl⟩ ⟨k',st.2.on λo e=>hs.extBut d o fJ e⟩ λb o hb e=>hs.extBut b o (λz=>hb (by simp[z])) e
 done:=λs Q E st hQ=>uK hh st.1 st.2 λh' he=>hQ h' s.toks λb o hb e=>he b o (λz=>hb (by simp[z])) e
 self:=λ_ _ _ _ st hQ=>rf st.1 hQ
def uL(lo:(d==sysModules)=false):KdlSrc prog w "dict" d d es.size (λi v=>∃e,es[i]?=some e/\v=e.key) (λh=>f6 h d es ep) where
 type:=λ_ r=>r.ty
 there:=λ_ r=>⟨r.lt,r.lt⟩
 keep:=λ_ _ r hk=>r.on λo e=>hk d (.inl rfl) o e
 notList:=by decide
 notTuple:=by decide
 hint:=λ_ _ _ _ r hq=>kdl_hint_dict r.ty hq
 iter:=λA s hh r=>⟨_,λi h=>h.IsKeyIter s.heap.objs.size d i es.size ep/\f6 h d es ep,(λ_ _ hq=>q5 lo r hq),wK hh _ d (Xu r.lt) es ep,⟨⟨_,Xe _ rfl,rfl,rfl⟩,r.on λo e=>WY _ e⟩⟩
end
def tJ(I:Inv X U σ H s)(e:Rd H a (.dK ay)):∃es ep,f6 s.heap a es ep/\es.size=ay.length/\(a==sysModules)=false/\ay.length<=sizeLine/\∀(i:Nat) (kv:cU×V),ay[i]?=some kv->∃en,es[i]?=some en/\RelV (kV kv.1) en.key:=by
 refine aq λnO=>?_
 obtain⟨z,lo,vs,eY,o,es,ep,h1,h2,h3,h4,h5,h6⟩:=ja I.aW e
 refine nO ?_
 have hl:es.size=ay.length:=by rw[eY.length,<-h5.length];simp
 refine⟨es,ep,⟨o,h1,h2,h3⟩,hl,lo,z,λi kv hi=>?_⟩
 have bZ:i<ay.length:=(Xf.mp hi).1
 have yE:i<es.size:=by lia
 have Sb:i<vs.length:=by rw[<-eY.length];exact bZ
 refine⟨es[i],XE yE,?_⟩
 have hk:=(h5.get? (e:=es[i]) (k:=vs[i].1) (v:=vs[i].2) (i:=i) (by rw[XQ];exact XE yE) (WW Sb)).1
 have he:vs[i].1 =kv.1:=by
  have:=congrArg (λl:List cU=>l[i]?) eY.keys
  simp only[Xb,hi,WW Sb,Zl]at this
  exact(Xn this).symm
 rw[he]at hk
 rcases bx (show lu kv.1 es[i].key =true from hk)with⟨n,t,e1,e2⟩|⟨x,t,e1,e2⟩
 .rw[e1,e2];exact⟨t,rfl⟩
 .rw[e1,e2];exact⟨t,rfl⟩
section
variable {X:Cx}
end
noncomputable def PB(a:Addr)(o:Obj)(ay:List (cU×V)):It:=
 ⟨λi H=>H a=some (.dH o (.dK ay))/\i<ay.length,λi H x H'=>H'=H/\(ay[i]?).map (λkv=>kV kv.1)=some x,λi H=>H a=some (.dH o (.dK ay))/\i=ay.length⟩
def uM(I:Inv X U σ H s)(e:H a=some (.dH o (.dK ay)))(hd:o.data= .dict es ep):
  f6 s.heap a es ep/\es.size=ay.length/\∀(i:Nat) (kv:cU×V),ay[i]?=some kv->∃en,es[i]?=some en/\RelV (kV kv.1) en.key:=by
 refine aq λnO=>jC (tJ I (.inr ⟨o,e⟩)) λBy FG r1 r2 _ _ r5=>?_
 have ho:s.heap.get? a=some o:=(show aZ X.prog X.w H s.heap a (.dH o (.dK ay)) from I.aW a _ e).1
 refine bJ (id r1) λo' g1 g2 g3=>?_
 rw[ho]at g1
 cases g1
 rw[hd]at g3
 cases g3
 exact nO<|⟨r1,r2,r5⟩
def Cg{P:Program}{w:World}{K:PySem.W.Frag}{tg:Expr}(a it:Addr)(fJ:a≠it)(o:Obj)(ay:List (cU×V))(es:Array DictEntry)(ep:Nat)(hd:o.data= .dict es ep):oX P w K tg (PB a o ay) [it] it (λi h=>h.IsKeyIter it a i es.size ep) where
 mem:=by simp
 obj:=λi h st b hb=>by
  have e:b=it:=by simpa using hb
  refine aq λnO=>?_
  subst e
  exact bJ st λo e c d=>nO<|⟨o,e,λv z=>by rw[d]at z;cases z⟩
 keep:=λi h h' st k=>st.at λo e=>k it (by simp) o e
 item:=by
  intro X hP hw hK hc i U s σ H E I hf st hg
  refine aq λnO=>?_
  subst hP hw hK
  obtain⟨e1,e2⟩:=hg
  refine cN (uM I e1 hd) λr1 r2 r3=>sk (hf it (by simp)) λf0 f1 f2 f3 f4 f5=>?_
  have hi:i<es.size:=by lia
  refine aa (r3 i ay[i] (WW e2)) λen n1 n2=>?_
  rw[XE hi]at n1
  cases n1
  refine nO<|q_ st r1 hi λh' k' hs=>?_
  have I1:Inv X U σ H {s with heap:=h'}:=I.turned (t':=s.toks) (λb o hb e=>(hs.2 b hb).trans e) f0 f1 f3 f4 f5
  exact aq λnO=>bJ (id k') λoi g1 g2 g3=>nO<|⟨_,rfl,nK (s:={s with heap:=h'}) g1 g2 g3 (by decide) ⟨_,H,I1,n2,⟨rfl,by rw[WW e2];rfl⟩,k',λb hb=>(hf b hb).1⟩⟩
 done:=by
  intro X hP hw hK hc i U s σ H E I hf st hg
  refine aq λnO=>?_
  subst hP hw hK
  obtain⟨e1,e2⟩:=hg
  refine cN (uM I e1 hd) λr1 r2 r3=>sk (hf it (by simp)) λf0 f1 f2 f3 f4 f5=>?_
  have e:i=es.size:=by lia
  subst e
  exact nO<|uK (I.ok.hd hc) st r1 λh' eb=>⟨rfl,I.turned (t':=s.toks) (λb o hb e=>eb b o hb e) f0 f1 f3 f4 f5⟩
 self:=λ_ _ _ _ _ st h=>rf st h
section
variable {X:Cx}{tg:Expr}
def UL(tl:TE):TI:=λσ H R=>tl σ H λx H1=>∃a o ay,x= .ref a/\H1 a=some (.dH o (.dK ay))/\R (PB a o ay) H1
def K'{l:Expr}{tl:TE}(hl:PE X l tl):PI X tg l (UL tl):=by
 intro U s σ H R I h
 refine bG (hl U s σ H _ I h) λv s1 zz=>bu zz λx H1 I1 r1 q1=>cS q1 λa o ay e hq q=>?_
 subst e
 cases r1
 refine jC (tJ I1 (.inr ⟨o,hq⟩)) λes ep g1 g2 g3 g4 g5=>?_
 have ho:s1.heap.get? a=some o:=(show aZ X.prog X.w H1 s1.heap a (.dH o (.dK ay)) from I1.aW a _ hq).1
 have hd:o.data= .dict es ep:=by
  refine bJ (id g1) λo' z1 z2 z3=>?_
  rw[ho]at z1
  cases z1
  exact z3
 refine q5 g3 g1 ?_
 refine⟨s1.heap.objs.size,[s1.heap.objs.size],_,_,H1,rfl,I1.kept (t':=s1.toks) λb o e=>WY _ e,Cg a _ (Xu (Xg ho)) o ay es ep hd,⟨_,Xe _ rfl,rfl,rfl⟩,λb hb=>?_,q⟩
 have e:b=s1.heap.objs.size:=by simpa using hb
 subst e
 exact I1.sH (W9 _) (I1.aW.fresh (W9 _))
def La(tk tv:TE):TE:=λσ H Q=>∀p,H p=none->tk σ (upd H p (.dT [])) λx H1=>tv σ H1 λy H2=>∃b ks,x= .ref b/\H2 b=some (.tup (ks.map kV))/\H2 p=some (.dT [])/\Q (.ref p) (upd H2 p (.dT [(ks,y)]))
def Ci(hu:X.A.units+1<cLine)(hk:PE X k tk)(hv:PE X v tv):PE X (.Dict [some k] [v] pos) (La tk tv):=by
 intro U s σ H Q I h
 have hn:H s.heap.objs.size=none:=I.aW.fresh (W9 _)
 refine wpAny_Dict_any rfl rfl (by simp) (show 1<=15 by decide) ?_
 have I0:Inv X U σ (upd H s.heap.objs.size (.dT [])) {s with heap:=s.heap.push {cls:= .type "dict",data:= .dict #[]}}:=I.laid (a:=s.heap.objs.size) (o:= .dT []) (t':=s.toks) (λ_ _ q=>WY _ q) (W9 _) (yL s.heap I.big)
 refine pairTrees_cons_walk (bG (hk U _ σ _ _ I0 (h _ hn)) λkv s1 ⟨x,H1,I1,r1,q1⟩=>bG (hv U s1 σ H1 _ I1 q1) λvv s2 ⟨y,H2,I2,r2,q2⟩=>pairTrees_nil_walk ?_)
 refine aq λnO=>gH q2 λb ks ex eb ep q3=>?_
 subst ex
 cases r1
 refine nO ?_
 unfold storeAll
 rw[YL]
 refine aq λnO=>?_
 obtain⟨z,hd,xs,eY,dd⟩:=EN I2.aW ep
 cases eY
 refine nO ?_
 refine WV (WV (wpAny_dictSet_heap (hsz:=Ye _) (knd:=tupleKind (br X.prog X.w)) (show X.A.units<cLine by lia) (jL I2.aW eb) dd λh' Ca hs=>W7 ?_))
 dsimp only
 rw[List.forIn_nil]
 refine W7 ⟨.ref s.heap.objs.size,_,?_,rfl,q3⟩
 refine aq λnO=>JO Ca λo es e2 g1 g2 g3 g4 _ g5=>nO ?_
 refine kS I2 (by rw[ep];exact True.intro) hs ⟨o,g1⟩ ⟨by rw[sizeLine_eq];exact(by decide:(1:Nat)<=16777216),hd,_,?_,o,es,e2,g1,g2,g3,g4,g5⟩
 refine .cons ⟨rfl,?_,r2⟩ .nil
 rw[ak (fR eb ep (λz=>nomatch z))]
 exact eb
end
end L2
namespace b6
open PySem PyProof.Rows
structure Ord(r:Keyed->Keyed->Bool):Prop where
 ND:∀x y,r x y=true->r y x=false
 tr:∀x y z,r y x=false->r z y=false->r z x=false
def le(r:Keyed->Keyed->Bool)(x y:Keyed):Prop:=r y x=false
section
variable {r:Keyed->Keyed->Bool}
def Ord.refl(O:Ord r)(x:Keyed):le r x x:=by
 show r x x=false
 cases h:r x x with
 |false=>rfl
 |true=>exact(O.ND x x h).symm.trans h |>.symm ▸rfl
def Ord.of_lt(O:Ord r)(h:r x y=true):le r x y:=O.ND x y h
def Ord.trans(O:Ord r)(h1:le r x y)(h2:le r y z):le r x z:=O.tr x y z h1 h2
end
section
variable {prog:Program}{w:World}{A:Around}{E:Value->Shared->Prop}{s:Shared}{κ:SortKind}{P:Keyed->Prop}{r:Keyed->Keyed->Bool}
def kL(prog:Program)(w:World)(A:Around)(E:Value->Shared->Prop)(s:Shared)(κ:SortKind)(P:Keyed->Prop)(r:Keyed->Keyed->Bool):Prop:=
 ∀(x y:Keyed) (zt:SortSt) (Q:Option Bool->SortSt->Prop),P x->P y->kindOf zt=κ->Q (some (r x y)) zt->wpS (model prog w) A E s (lt' x y) Q zt
noncomputable def tK(r:Keyed->Keyed->Bool)(left:Bool)(key x:Keyed):Bool:=if left then r x key else !r key x
def yM{left:Bool}{key:Keyed}{arr:Array Keyed}{base i:Nat}{zt:SortSt}{Q:Option Bool->SortSt->Prop}(L:kL prog w A E s κ P r)(hk:kindOf zt=κ)(hp:P key)(ha:∀x∈arr,P x)(hi:base+i<arr.size)(q:Q (some (tK r left key arr[base+i])) zt):
  wpS (model prog w) A E s (eG left key arr base i) Q zt:=by
 unfold eG
 refine wpS_bind (bB hi ?_)
 have hx:=ha _ (XO hi)
 cases left with
 |true=>exact L _ _ zt _ hx hp hk q
 |false=>exact wpS_bind (L _ _ zt _ hp hx hk (wpS_pure q))
def yN(O:Ord r)(h:le r x y)(hy:tK r left key y=true):tK r left key x=true:=by
 unfold tK at hy⊢
 cases left with
 |true=>
  have Bp:r y key=true:=hy
  show r x key=true
  cases e:r x key with
  |true=>rfl
  |false=>
   have:=O.tr key x y e h
   rw[this]at Bp
   cases Bp
 |false=>
  have Bp:(!r key y)=true:=hy
  show(!r key x)=true
  have h1:r key y=false:=by simpa using Bp
  have:=O.tr x y key h h1
  simp[this]
abbrev W3:=Option (Option Nat)×Nat×Nat
noncomputable def PD(left:Bool)(key:Keyed)(arr:Array Keyed)(base n hint l o:Nat):SM (ForInStep W3):=do
 if o ≥ n-hint then return .done (none,l,o)
 let some more<-eG left key arr base (hint+o)|return .done (some none,l,o)
 if !more then return .done (none,l,o)
 return .yield (none,o,2*o+1)
noncomputable def PF(left:Bool)(key:Keyed)(arr:Array Keyed)(base hint l o:Nat):SM (ForInStep W3):=do
 if o ≥ hint+1 then return .done (none,l,o)
 let some found<-eG left key arr base (hint-o)|return .done (some none,l,o)
 if found then return .done (none,l,o)
 return .yield (none,o,2*o+1)
noncomputable def PH(left:Bool)(key:Keyed)(arr:Array Keyed)(base lo hi:Nat):SM (ForInStep W3):=do
 if lo ≥ hi then return .done (none,lo,hi)
 let some more<-eG left key arr base (lo+(hi-lo)/2)|return .done (some none,lo,hi)
 if more then return .yield (none,lo+(hi-lo)/2+1,hi) else return .yield (none,lo,lo+(hi-lo)/2)
noncomputable def NG(left:Bool)(key:Keyed)(arr:Array Keyed)(base n lo hi:Nat):SM (Option Nat):=do
 let c<-forIn [0:n] ((none,lo,hi):W3) λ_ c=>PH left key arr base c.2.1 c.2.2
 match c.1 with
 |some r=>pure r
 |none=>pure (some c.2.2)
def Lb(left:Bool)(key:Keyed)(arr:Array Keyed)(base n hint:Nat):cv left key arr base n hint=(do
  let some right<-eG left key arr base hint|return none
  if right then
   let c<-forIn [0:n] ((none,0,1):W3) λ_ c=>PD left key arr base n hint c.2.1 c.2.2
   match c.1 with
   |some r=>pure r
   |none=>NG left key arr base n (hint+c.2.1+1) (hint+min c.2.2 (n-hint))
  else
   let c<-forIn [0:n] ((none,0,1):W3) λ_ c=>PF left key arr base hint c.2.1 c.2.2
   match c.1 with
   |some r=>pure r
   |none=>NG left key arr base n (hint+1-min c.2.2 (hint+1)) (hint-c.2.1)):=by kernel_rfl
section
variable {left:Bool}{key:Keyed}{arr:Array Keyed}{base n hint lo hi:Nat}{zt:SortSt}{Q:Option Nat->SortSt->Prop}{f:Nat->Bool}
def EO(hB:∀(i:Nat) (Q:Option Bool->SortSt->Prop),i<n->Q (some (f i)) zt->wpS (model prog w) A E s (eG left key arr base i) Q zt)
  (mono:∀i j,i<=j->j<n->f j=true->f i=true) (up:∀i j,i<=j->j<n->f i=false->f j=false) (z1:lo<=hi) (z2:hi<=n) (a1:∀i,i<lo->f i=true) (a2:∀i,hi<=i->i<n->f i=false)
  (q:∀k,k<=n->(∀i,i<k->f i=true)->(∀i,k<=i->i<n->f i=false)->Q (some k) zt):wpS (model prog w) A E s (NG left key arr base n lo hi) Q zt:=by
 unfold NG
 refine wpS_bind (wpS_mono (wpS_forRange (I:=λi c cJ=>cJ=zt/\∃lo hi,c=(none,lo,hi)/\lo<=hi/\hi<=n/\hi-lo+i<=n/\(∀i,i<lo->f i=true)/\(∀i,hi<=i->i<n->f i=false)) (Q:=λc cJ=>cJ=zt/\∃lo hi,c=(none,lo,hi)/\hi<=n/\(∀i,i<hi->f i=true)/\(∀i,hi<=i->i<n->f i=false)) ?_ ?_ ⟨rfl,_,_,rfl,z1,z2,by omega,a1,a2⟩) ?_)
 .rintro i c cJ _ _ ⟨rfl,lo,hi,rfl,z1,z2,z3,z4,z5⟩
  show wpS (model prog w) A E s (PH left key arr base lo hi) _ _
  unfold PH
  refine fZ (λhg=>?_) (λhg=>?_)
  .exact wpS_pure ⟨rfl,lo,hi,rfl,z2,λi h=>z4 i (by omega),z5⟩
  .refine wpS_bind (hB _ _ (by omega) ?_)
   cases e2:f (lo+(hi-lo)/2)with
   |true=>exact wpS_pure ⟨rfl,_,hi,rfl,by omega,z2,by omega,λi h=>mono i _ (by omega) (by omega) e2,z5⟩
   |false=>exact wpS_pure ⟨rfl,lo,_,rfl,by omega,by omega,by omega,z4,λi h1 h2=>up _ i h1 h2 e2⟩
 .rintro c cJ ⟨rfl,lo,hi,rfl,z1,z2,z3,z4,z5⟩
  exact⟨rfl,lo,hi,rfl,z2,λi h=>z4 i (by omega),z5⟩
 .rintro c cJ ⟨rfl,lo,hi,rfl,z2,z4,z5⟩
  exact wpS_pure (q hi z2 z4 z5)
def yO(hn:hint<n)(hB:∀(i:Nat) (Q:Option Bool->SortSt->Prop),i<n->Q (some (f i)) zt->wpS (model prog w) A E s (eG left key arr base i) Q zt)
  (mono:∀i j,i<=j->j<n->f j=true->f i=true)
  (q:∀k,k<=n->(∀i,i<k->f i=true)->(∀i,k<=i->i<n->f i=false)->Q (some k) zt):wpS (model prog w) A E s (cv left key arr base n hint) Q zt:=by
 have up:∀i j,i<=j->j<n->f i=false->f j=false:=λi j h1 h2 h3=>by
  cases e:f j with
  |false=>rfl
  |true=>rw[mono i j h1 h2 e]at h3;cases h3
 rw[Lb]
 refine wpS_bind (hB hint _ hn ?_)
 cases e0:f hint with
 |true=>
  dsimp only
  rw[Xl rfl]
  refine wpS_bind (wpS_mono (wpS_forRange (I:=λi c ai=>ai=zt/\∃l o,c=(none,l,o)/\l<o/\i+1<=o/\hint+l<n/\f (hint+l)=true)
   (Q:=λc ai=>ai=zt/\∃l o,c=(none,l,o)/\l<o/\hint+l<n/\f (hint+l)=true/\(n-hint<=o\/(hint+o<n/\f (hint+o)=false))) ?_ ?_ ⟨rfl,0,1,rfl,by omega,by omega,by omega,e0⟩) ?_)
  .rintro i c ai _ _ ⟨rfl,l,o,rfl,g1,g2,g3,g4⟩
   show wpS (model prog w) A E s (PD left key arr base n hint l o) _ _
   unfold PD
   refine fZ (λhg=>?_) (λhg=>?_)
   .exact wpS_pure ⟨rfl,l,o,rfl,g1,g3,g4,.inl hg⟩
   .refine wpS_bind (hB (hint+o) _ (by omega) ?_)
    cases e1:f (hint+o)with
    |true=>exact wpS_pure ⟨rfl,_,_,rfl,by omega,by omega,by omega,e1⟩
    |false=>exact wpS_pure ⟨rfl,_,_,rfl,g1,g3,g4,.inr ⟨by omega,e1⟩⟩
  .rintro c ai ⟨rfl,l,o,rfl,g1,g2,g3,g4⟩
   exact⟨rfl,l,o,rfl,g1,g3,g4,.inl (by omega)⟩
  rintro c ai ⟨rfl,l,o,rfl,g1,g3,g4,g5⟩
  refine EO hB mono up ?_ ?_ (λi hi=>mono i (hint+l) (by lia) g3 g4) (λi h1 h2=>?_) q
  .dsimp only
   omega
  .dsimp only
   omega
  .dsimp only at h1
   rcases g5 with g5|⟨g5,g6⟩
   .omega
   .exact up (hint+o) i (by omega) h2 g6
 |false=>
  dsimp only
  rw[Xs W2]
  refine wpS_bind (wpS_mono (wpS_forRange (I:=λi c ai=>ai=zt/\∃l o,c=(none,l,o)/\l<o/\i+1<=o/\l<=hint/\f (hint-l)=false)
   (Q:=λc ai=>ai=zt/\∃l o,c=(none,l,o)/\l<o/\l<=hint/\f (hint-l)=false/\(hint+1<=o\/(o<=hint/\f (hint-o)=true))) ?_ ?_ ⟨rfl,0,1,rfl,by omega,by omega,by omega,e0⟩) ?_)
  .rintro i c ai _ _ ⟨rfl,l,o,rfl,g1,g2,g3,g4⟩
   show wpS (model prog w) A E s (PF left key arr base hint l o) _ _
   unfold PF
   refine fZ (λhg=>?_) (λhg=>?_)
   .exact wpS_pure ⟨rfl,l,o,rfl,g1,g3,g4,.inl hg⟩
   .refine wpS_bind (hB (hint-o) _ (by omega) ?_)
    cases e1:f (hint-o)with
    |true=>exact wpS_pure ⟨rfl,_,_,rfl,g1,g3,g4,.inr ⟨by omega,e1⟩⟩
    |false=>exact wpS_pure ⟨rfl,_,_,rfl,by omega,by omega,by omega,e1⟩
  .rintro c ai ⟨rfl,l,o,rfl,g1,g2,g3,g4⟩
   exact⟨rfl,l,o,rfl,g1,g3,g4,.inl (by omega)⟩
  rintro c ai ⟨rfl,l,o,rfl,g1,g3,g4,g5⟩
  refine EO hB mono up ?_ ?_ (λi hi=>?_) (λi h1 h2=>up (hint-l) i h1 h2 g4) q
  .dsimp only
   omega
  .dsimp only
   omega
  .dsimp only at hi
   rcases g5 with g5|⟨g5,g6⟩
   .omega
   .exact mono i (hint-o) (by omega) (by omega) g6
end
noncomputable abbrev sg(arr:Array Keyed)(base n:Nat):List Keyed:=(arr.toList.drop base).take n
def fK(hi:i<n)(hz:base+n<=arr.size):(sg arr base n)[i]?=some (arr[base+i]'(by omega)):=by
 rw[Zo,Xl hi,aaU,XQ,XE]
def dR(hz:base+n<=arr.size):(sg arr base n).length =n:=by
 rw[X3,Zd,Xt];omega
def c7{left:Bool}{key:Keyed}{arr:Array Keyed}{base n hint:Nat}{zt:SortSt}{Q:Option Nat->SortSt->Prop}(L:kL prog w A E s κ P r)(O:Ord r)(hk:kindOf zt=κ)(hp:P key)(ha:∀x∈arr,P x)(hz:base+n<=arr.size)(hn:hint<n)
  (hS:(sg arr base n).Pairwise (le r))
  (q:∀k,k<=n->(∀x∈(sg arr base n).take k,tK r left key x=true)->(∀x∈(sg arr base n).drop k,tK r left key x=false)->Q (some k) zt):wpS (model prog w) A E s (cv left key arr base n hint) Q zt:=by
 have hl:=dR hz
 have fe:∀i (h:i<n),(((sg arr base n)[i]?).elim false (tK r left key))=tK r left key (arr[base+i]'(by omega)):=λi h=>by rw[fK h hz];rfl
 refine yO (f:=λi=>((sg arr base n)[i]?).elim false (tK r left key)) hn (λi Q hi hq=>yM L hk hp ha (by omega) (by rw[<-fe i hi];exact hq)) (λi j GI hj hf=>?_) (λk GR h1 h2=>q k GR (λx hx=>?_) (λx hx=>?_))
 .rcases X0 i j with z|z
  .rw[fe j hj]at hf
   rw[fe i (by omega)]
   refine yN O ?_ hf
   have:=(Yr.mp hS) i j (by omega) (by omega) z
   have e1:=fK (arr:=arr) (show i<n by omega) hz
   have e2:=fK (arr:=arr) hj hz
   rw[WW (by omega)]at e1 e2
   rw[Xn e1,Xn e2]at this
   exact this
  .rw[show i=j by omega];exact hf
 .obtain⟨i,hi,rfl⟩:=YR hx
  rw[X3]at hi
  have:=h1 i (by omega)
  rw[WW (by omega)]at this
  rw[List.getElem_take]
  exact this
 .obtain⟨i,hi,rfl⟩:=YR hx
  rw[Zd]at hi
  have:=h2 (k+i) (by omega) (by omega)
  rw[WW (by omega)]at this
  rw[List.getElem_drop]
  exact this
structure Ms(r:Keyed->Keyed->Bool)(a b out:Array Keyed)(i j:Nat):Prop where
 p:Pt a b out i j
 s:out.toList.Pairwise (le r)
 ta:∀x∈out.toList,∀y∈a.toList.drop i,le r x y
 tb:∀x∈out.toList,∀y∈b.toList.drop j,le r x y
end
section
variable {r:Keyed->Keyed->Bool}{a b out:Array Keyed}{i j k:Nat}
def dS(a:Array Keyed)(i k:Nat):(a.extract i (i+k)).toList =sg a i k:=by
 rw[Yx]
 unfold List.extract
 rw[show i+k-i=k by omega]
def yP(a:Array Keyed)(i k:Nat):a.toList.drop i=sg a i k++a.toList.drop (i+k):=by
 have:=(Y0 k (a.toList.drop i)).symm
 rwa [ZV]at this
theorem Ms.pE(h:Ms r a b out i j)(sa:a.toList.Pairwise (le r))(hb:∀x∈sg a i k,∀y∈b.toList.drop j,le r x y):Ms r a b (out++a.extract i (i+k)) (i+k) j:=by
 have sd:(a.toList.drop i).Pairwise (le r):=sa.sublist (Yi _ _)
 have e:=yP a i k
 rw[e,XA]at sd
 refine cN sd λp1 p2 p3=>?_
 have Lc:∀x∈out.toList,∀y∈sg a i k++a.toList.drop (i+k),le r x y:=λx hx y hy=>h.ta x hx y (by rw[e];exact hy)
 refine⟨h.p.pE,?_,λx hx y hy=>?_,λx hx y hy=>?_⟩
 .rw[Xh,dS,XA]
  exact⟨h.s,p1,λx hx y hy=>Lc x hx y (Xp _ hy)⟩
 .rw[Xh,dS]at hx
  rcases Xk.mp hx with z|z
  .exact Lc x z y (Xi _ hy)
  .exact p3 x z y hy
 .rw[Xh,dS]at hx
  rcases Xk.mp hx with z|z
  .exact h.tb x z y hy
  .exact hb x z y hy
theorem Ms.pD(h:Ms r a b out i j)(sb:b.toList.Pairwise (le r))(ha:∀x∈sg b j k,∀y∈a.toList.drop i,le r x y):Ms r a b (out++b.extract j (j+k)) i (j+k):=by
 have sd:(b.toList.drop j).Pairwise (le r):=sb.sublist (Yi _ _)
 have e:=yP b j k
 rw[e,XA]at sd
 refine cN sd λp1 p2 p3=>?_
 have Ld:∀x∈out.toList,∀y∈sg b j k++b.toList.drop (j+k),le r x y:=λx hx y hy=>h.tb x hx y (by rw[e];exact hy)
 refine⟨h.p.pD,?_,λx hx y hy=>?_,λx hx y hy=>?_⟩
 .rw[Xh,dS,XA]
  exact⟨h.s,p1,λx hx y hy=>Ld x hx y (Xp _ hy)⟩
 .rw[Xh,dS]at hx
  rcases Xk.mp hx with z|z
  .exact h.ta x z y hy
  .exact ha x z y hy
 .rw[Xh,dS]at hx
  rcases Xk.mp hx with z|z
  .exact Ld x z y (Xi _ hy)
  .exact p3 x z y hy
def Ms.cg(h:Ms r a b out i j)(e:o.toList=out.toList):Ms r a b o i j:=⟨by unfold Pt;rw[e];exact h.p,by rw[e];exact h.s,λx hx=>h.ta x (by rw[<-e];exact hx),λx hx=>h.tb x (by rw[<-e];exact hx)⟩
def Ms.nY(h:Ms r a b out i j)(sa:a.toList.Pairwise (le r))(hi:i<a.size)(hb:∀y∈b.toList.drop j,le r a[i] y):Ms r a b (out.push a[i]) (i+1) j:=by
 refine(h.pE (k:=1) sa λx hx=>?_).cg (by rw[Xh,gJ hi,<-YN])
 rw[<-dS,gJ hi,W5]at hx
 rw[hx];exact hb
def Ms.nZ(h:Ms r a b out i j)(sb:b.toList.Pairwise (le r))(hj:j<b.size)(ha:∀y∈a.toList.drop i,le r b[j] y):Ms r a b (out.push b[j]) i (j+1):=by
 refine(h.pD (k:=1) sb λx hx=>?_).cg (by rw[Xh,gJ hj,<-YN])
 rw[<-dS,gJ hj,W5]at hx
 rw[hx];exact ha
def Le(O:Ord r)(sa:a.toList.Pairwise (le r))(hi:i<a.size):∀y∈a.toList.drop i,le r a[i] y:=λy hy=>by
 have iX:i<a.toList.length:=by simpa using hi
 have sd:(a.toList.drop i).Pairwise (le r):=sa.sublist (Yi _ _)
 rw[XR iX]at sd hy
 rcases Xc.mp hy with z|z
 .rw[z];exact O.refl _
 .exact(X_.mp sd).1 y z
def pG(O:Ord r)(sa:a.toList.Pairwise (le r))(hi:i<a.size)(h:le r x a[i]):∀y∈a.toList.drop i,le r x y:=λy hy=>O.trans h (Le O sa hi y hy)
def kT(a:Array Keyed)(hi:i<=a.size):(a.extract i a.size).toList =a.toList.drop i:=by
 have:=dS a i (a.size-i)
 rw[show i+(a.size-i)=a.size by omega]at this
 rw[this]
 exact XM (by simp)
def Ms.done(h:Ms r a b out i j)(sa:a.toList.Pairwise (le r))(sb:b.toList.Pairwise (le r))(hi:i<=a.size)(hj:j<=b.size)(c:i=a.size\/j=b.size):((out++a.extract i a.size)++b.extract j b.size).toList.Pairwise (le r):=by
 rw[Xh,Xh,kT a hi,kT b hj]
 have na:i=a.size->a.toList.drop i=[]:=λe=>aam (by simp[e])
 have nb:j=b.size->b.toList.drop j=[]:=λe=>aam (by simp[e])
 rcases c with c|c
 .rw[na c,XF,XA]
  exact⟨h.s,sb.sublist (Yi _ _),h.tb⟩
 .rw[nb c,XF,XA]
  exact⟨h.s,sa.sublist (Yi _ _),h.ta⟩
def Ms.last(h:Ms r a b out i j)(sa:a.toList.Pairwise (le r))(sb:b.toList.Pairwise (le r))(hi:i<=a.size)(hj:j<=b.size)(c:∀y∈b.toList,∀x∈a.toList.drop i,le r y x):((out++b.extract j b.size)++a.extract i a.size).toList.Pairwise (le r):=by
 rw[Xh,Xh,kT a hi,kT b hj,Xw,XA]
 refine⟨h.s,?_,λx hx y hy=>?_⟩
 .rw[XA]
  exact⟨sb.sublist (Yi _ _),sa.sublist (Yi _ _),λy hy x hx=>c y (Y' hy) x hx⟩
 .rcases Xk.mp hy with z|z
  .exact h.tb x hx y z
  .exact h.ta x hx y z
end
section
variable {prog:Program}{w:World}{A:Around}{E:Value->Shared->Prop}{s:Shared}{κ:SortKind}{P:Keyed->Prop}{r:Keyed->Keyed->Bool}
def bne{n m:Nat}(h:¬(n==m)=true):n≠m:=λe=>h (by rw[e];simp)
structure Lo(r:Keyed->Keyed->Bool)(a b:Array Keyed)(k:Nat)(out:Array Keyed)(ia ib:Nat):Prop where
 m:Ms r a b out ia ib
 x1:ia+1<a.size
 x2:ib<b.size
 x3:k<=ia+ib
abbrev Dn(r:Keyed->Keyed->Bool)(a b:Array Keyed)(o:Option (Array Keyed)):Prop:=∃o',o=some o'/\o'.toList.Perm (a.toList++b.toList)/\o'.toList.Pairwise (le r)
abbrev Sd(r:Keyed->Keyed->Bool)(a b:Array Keyed)(zt:SortSt)(k:Nat)(c:Option (Array Keyed)×Array Keyed×Nat×Nat×Nat)(ai:SortSt):Prop:=Sm zt ai/\∃out ia ib g,c=(none,out,ia,ib,g)/\Lo r a b k out ia ib
abbrev Q1{β:Type}(r:Keyed->Keyed->Bool)(a b:Array Keyed)(zt:SortSt)(c:Option (Array Keyed)×β)(ai:SortSt):Prop:=Sm zt ai/\Dn r a b c.1
abbrev Lf(r:Keyed->Keyed->Bool)(a b:Array Keyed)(k:Nat)(c:Option (Array Keyed)×Array Keyed×Nat×Nat×Nat×Nat):Prop:=∃out ia ib n m,c=(none,out,ia,ib,n,m)/\Lo r a b k out ia ib
abbrev Jv(r:Keyed->Keyed->Bool)(a b:Array Keyed)(k:Nat)(c:Option (Array Keyed)×Array Keyed×Nat×Nat×Nat×Nat×Nat):Prop:=∃out ia ib g n m,c=(none,out,ia,ib,g,n,m)/\Lo r a b k out ia ib
abbrev Pq{β:Type}(J:Option (Array Keyed)×β->Prop)(zt:SortSt)(c:Option (Array Keyed)×β)(ai:SortSt):Prop:=Sm zt ai/\J c
abbrev Qq{β:Type}(r:Keyed->Keyed->Bool)(a b:Array Keyed)(J:Option (Array Keyed)×β->Prop)(zt:SortSt)(c:Option (Array Keyed)×β)(ai:SortSt):Prop:=Sm zt ai/\(Dn r a b c.1\/J c)
abbrev T5:=Option (Array Keyed)×Array Keyed×Nat×Nat×Nat
abbrev T6:=Option (Array Keyed)×Array Keyed×Nat×Nat×Nat×Nat
abbrev T7:=Option (Array Keyed)×Array Keyed×Nat×Nat×Nat×Nat×Nat
noncomputable def ER(a b out:Array Keyed)(ia ib:Nat):Array Keyed:=(out++a.extract ia a.size)++b.extract ib b.size
noncomputable def NH(a b out:Array Keyed)(ia ib:Nat):Array Keyed:=(out++b.extract ib b.size)++a.extract ia a.size
noncomputable def PJ(a b:Array Keyed)(g:Nat)(out:Array Keyed)(ia ib ac bc:Nat):SM (ForInStep T6):=do
 let some w<-lt' (<-elem' b ib) (<-elem' a ia)|return .done (some (ER a b out ia ib),out,ia,ib,ac,bc)
 if w then
  let o:=out.push (<-elem' b ib)
  if ib+1==b.size then return .done (some (ER a b o ia (ib+1)),o,ia,ib+1,0,bc+1)
  if bc+1 ≥ g then return .done (none,o,ia,ib+1,0,bc+1)
  return .yield (none,o,ia,ib+1,0,bc+1)
 else
  let o:=out.push (<-elem' a ia)
  if ia+1+1==a.size then return .done (some (NH a b o (ia+1) ib),o,ia+1,ib,ac+1,0)
  if ac+1 ≥ g then return .done (none,o,ia+1,ib,ac+1,0)
  return .yield (none,o,ia+1,ib,ac+1,0)
noncomputable def Ck(a b out:Array Keyed)(ia ib g ac bc:Nat):SM (ForInStep T7):=do
 let o:=out.push (<-elem' a ia)
 if ia+1+1==a.size then return .done (some (NH a b o (ia+1) ib),o,ia+1,ib,g,ac,bc)
 if ac<7&&bc<7 then return .done (none,o,ia+1,ib,g,ac,bc)
 return .yield (none,o,ia+1,ib,g,ac,bc)
noncomputable def Cm(a b out:Array Keyed)(ia ib g ac bc:Nat):SM (ForInStep T7):=do
 let o:=out.push (<-elem' b ib)
 if ib+1==b.size then return .done (some (ER a b o ia (ib+1)),o,ia,ib+1,g,ac,bc)
 let some k<-cv true (<-elem' a ia) b (ib+1) (b.size-(ib+1)) 0|return .done (some (ER a b o ia (ib+1)),o,ia,ib+1,g,ac,bc)
 if k>0 then
  let o:=o++b.extract (ib+1) (ib+1+k)
  if ib+1+k==b.size then return .done (some (ER a b o ia (ib+1+k)),o,ia,ib+1+k,g,ac,k)
  Ck a b o ia (ib+1+k) g ac k
 else Ck a b o ia (ib+1) g ac k
noncomputable def Cn(a b out:Array Keyed)(ia ib ac bc g:Nat):SM (ForInStep T7):=do
 bz g
 let some k<-cv false (<-elem' b ib) a ia (a.size-ia) 0|return .done (some (ER a b out ia ib),out,ia,ib,g,ac,bc)
 if k>0 then
  let o:=out++a.extract ia (ia+k)
  if ia+k+1==a.size then return .done (some (NH a b o (ia+k) ib),o,ia+k,ib,g,k,bc)
  if ia+k==a.size then return .done (some (ER a b o (ia+k) ib),o,ia+k,ib,g,k,bc)
  Cm a b o (ia+k) ib g k bc
 else Cm a b out ia ib g k bc
noncomputable def Se(a b out:Array Keyed)(ia ib g ac bc:Nat):SM (ForInStep T7):=if g>1 then Cn a b out ia ib ac bc (g-1) else Cn a b out ia ib ac bc g
noncomputable def PK(a b:Array Keyed)(g:Nat)(u:T7):SM (ForInStep T5):=
 match u.1 with
 |some r=>pure (.done (some r,u.2.1,u.2.2.1,u.2.2.2.1,u.2.2.2.2.1))
 |none=>do
  bz (u.2.2.2.2.1+1)
  pure (.yield (none,u.2.1,u.2.2.1,u.2.2.2.1,u.2.2.2.2.1+1))
noncomputable def PL(a b:Array Keyed)(g:Nat)(t:T6):SM (ForInStep T5):=
 match t.1 with
 |some r=>pure (.done (some r,t.2.1,t.2.2.1,t.2.2.2.1,g))
 |none=>do
  rule "list.sort.gallop"
  let u<-forIn [0:a.size+b.size] ((none,t.2.1,t.2.2.1,t.2.2.2.1,g+1,t.2.2.2.2.1,t.2.2.2.2.2):T7) λ_ u=>Se a b u.2.1 u.2.2.1 u.2.2.2.1 u.2.2.2.2.1 u.2.2.2.2.2.1 u.2.2.2.2.2.2
  PK a b g u
noncomputable def PM(a b out:Array Keyed)(ia ib g:Nat):SM (ForInStep T5):=do
 let t<-forIn [0:a.size+b.size] ((none,out,ia,ib,0,0):T6) λ_ t=>PJ a b g t.2.1 t.2.2.1 t.2.2.2.1 t.2.2.2.2.1 t.2.2.2.2.2
 PL a b g t
def Lg(a b:Array Keyed):lQ a b=(do
  rule "list.sort.merge-lo"
  let x<-elem' b 0
  if 1==b.size then return ER a b #[x] 0 1
  if 0+1==a.size then return NH a b #[x] 0 1
  let g:=gallopOf (<-get)
  let s<-forIn [0:a.size+b.size] ((none,#[x],0,1,g):T5) λ_ s=>PM a b s.2.1 s.2.2.1 s.2.2.2.1 s.2.2.2.2
  match s.1 with
  |some r=>pure r
  |none=>unsupported "internal:list.sort.merge-bound"):=by kernel_rfl
structure Mg(prog:Program)(w:World)(A:Around)(E:Value->Shared->Prop)(s:Shared)(κ:SortKind)(P:Keyed->Prop)(r:Keyed->Keyed->Bool)(a b:Array Keyed)(zt:SortSt):Prop where
 L:kL prog w A E s κ P r
 O:Ord r
 hk:kindOf zt=κ
 ha:∀x∈a,P x
 hb:∀x∈b,P x
 sa:a.toList.Pairwise (le r)
 sb:b.toList.Pairwise (le r)
def Mg.gA{a b:Array Keyed}{zt ai:SortSt}{ia ib:Nat}{Q':Option Nat->SortSt->Prop}(G:Mg prog w A E s κ P r a b zt)(Bq:ib<b.size)(hS:Sm zt ai)(tL:ia<a.size)(hq:∀k,k<=a.size-ia->(∀x∈sg a ia k,∀y∈b.toList.drop ib,le r x y)->(∀x∈a.toList.drop (ia+k),le r b[ib] x)->Q' (some k) ai):
  wpS (model prog w) A E s (cv false b[ib] a ia (a.size-ia) 0) Q' ai:=by
 have e:sg a ia (a.size-ia)=a.toList.drop ia:=XM (by simp)
 refine c7 G.L G.O (hS.k.trans G.hk) (G.hb _ (XO _)) G.ha (by lia) (by lia) (by rw[e];exact G.sa.sublist (Yi _ _)) λk hk g1 g2=>hq k hk (λx hx=>?_) (λx hx=>?_)
 .have:=g1 x (by rw[e];exact hx)
  have h':le r x b[ib]:=by unfold tK at this;simpa[le]using this
  exact pG G.O G.sb Bq h'
 .have:=g2 x (by rw[e,ZV];exact hx)
  unfold tK at this
  have h':r b[ib] x=true:=by simpa using this
  exact G.O.of_lt h'
def Mg.gB{a b:Array Keyed}{zt ai:SortSt}{ia ib:Nat}{Q':Option Nat->SortSt->Prop}(G:Mg prog w A E s κ P r a b zt)(tL:ia<a.size)(hS:Sm zt ai)(Bq:ib<b.size)(hq:∀k,k<=b.size-ib->(∀x∈sg b ib k,∀y∈a.toList.drop ia,le r x y)->(∀x∈b.toList.drop (ib+k),le r a[ia] x)->Q' (some k) ai):
  wpS (model prog w) A E s (cv true a[ia] b ib (b.size-ib) 0) Q' ai:=by
 have e:sg b ib (b.size-ib)=b.toList.drop ib:=XM (by simp)
 refine c7 G.L G.O (hS.k.trans G.hk) (G.ha _ (XO _)) G.hb (by lia) (by lia) (by rw[e];exact G.sb.sublist (Yi _ _)) λk hk g1 g2=>hq k hk (λx hx=>?_) (λx hx=>?_)
 .have:=g1 x (by rw[e];exact hx)
  exact pG G.O G.sa tL (G.O.of_lt this)
 .exact g2 x (by rw[e,ZV];exact hx)
abbrev RI(r:Keyed->Keyed->Bool)(a b:Array Keyed)(zt:SortSt)(K:Nat)(x:ForInStep T6)(ai:SortSt):Prop:=match x with
 | .done c=>Qq r a b (Lf r a b K) zt c ai
 | .yield c=>Pq (Lf r a b K) zt c ai
abbrev RJ(r:Keyed->Keyed->Bool)(a b:Array Keyed)(zt:SortSt)(K:Nat)(x:ForInStep T7)(ai:SortSt):Prop:=match x with
 | .done c=>Qq r a b (Jv r a b K) zt c ai
 | .yield c=>Pq (Jv r a b K) zt c ai
section
variable {a b out:Array Keyed}{zt ai:SortSt}{ia ib g ac bc K:Nat}
def Lh(G:Mg prog w A E s κ P r a b zt)(dF:∀i,i+1=a.size->∀y∈b.toList,∀x∈a.toList.drop i,le r y x)(hS:Sm zt ai)(h:Lo r a b K out ia ib):wpS (model prog w) A E s (PJ a b g out ia ib ac bc) (RI r a b zt K) ai:=by
 have hP:=h.m
 have x1:=h.x1
 have x2:=h.x2
 have x3:=h.x3
 have tL:ia<a.size:=by lia
 unfold PJ
 refine wpS_bind (bB x2 (wpS_bind (bB tL (wpS_bind (G.L _ _ _ _ (G.hb _ (XO _)) (G.ha _ (XO _)) (hS.k.trans G.hk) ?_)))))
 cases bw:r b[ib] a[ia]with
 |true=>
  dsimp only
  rw[Xl rfl]
  refine wpS_bind (bB x2 ?_)
  have nr:=hP.nZ G.sb x2 (pG G.O G.sa tL (G.O.of_lt bw))
  refine fZ (λe1=>?_) (λe1=>?_)
  .exact wpS_pure ⟨hS,.inl ⟨_,rfl,nr.p.done (by lia) (by lia),nr.done G.sa G.sb (by lia) (by lia) (.inr (by simpa using e1))⟩⟩
  .have qk:ib+1<b.size:=by have:=bne e1;lia
   refine fZ (λ_=>?_) (λ_=>?_)
   .exact wpS_pure ⟨hS,.inr ⟨_,_,_,_,_,rfl,nr,x1,qk,by lia⟩⟩
   .exact wpS_pure ⟨hS,_,_,_,_,_,rfl,nr,x1,qk,by lia⟩
 |false=>
  dsimp only
  rw[Xs W2]
  refine wpS_bind (bB tL ?_)
  have nr:=hP.nY G.sa tL (pG G.O G.sb x2 bw)
  refine fZ (λe1=>?_) (λe1=>?_)
  .exact wpS_pure ⟨hS,.inl ⟨_,rfl,nr.p.last (by lia) (by lia),nr.last G.sa G.sb (by lia) (by lia) (dF _ (by simpa using e1))⟩⟩
  .have qk:ia+1+1<a.size:=by have:=bne e1;lia
   refine fZ (λ_=>?_) (λ_=>?_)
   .exact wpS_pure ⟨hS,.inr ⟨_,_,_,_,_,rfl,nr,qk,x2,by lia⟩⟩
   .exact wpS_pure ⟨hS,_,_,_,_,_,rfl,nr,qk,x2,by lia⟩
def yQ(G:Mg prog w A E s κ P r a b zt)(dF:∀i,i+1=a.size->∀y∈b.toList,∀x∈a.toList.drop i,le r y x)(hS:Sm zt ai)(hP:Ms r a b out ia ib)(x1:ia+1<a.size)(x2:ib<b.size)(x3:K<=ia+ib)(hi:ia<a.size)(y5:∀x∈b.toList.drop ib,le r a[ia] x):
  wpS (model prog w) A E s (Ck a b out ia ib g ac bc) (RJ r a b zt K) ai:=by
 unfold Ck
 refine wpS_bind (bB hi ?_)
 have Co:=hP.nY G.sa hi y5
 refine fZ (λe5=>?_) (λe5=>?_)
 .exact wpS_pure ⟨hS,.inl ⟨_,rfl,Co.p.last (by lia) (by lia),Co.last G.sa G.sb (by lia) (by lia) (dF _ (by simpa using e5))⟩⟩
 have Li:ia+1+1<a.size:=by have:=bne e5;lia
 refine fZ (λ_=>?_) (λ_=>?_)
 .exact wpS_pure ⟨hS,.inr ⟨_,_,_,_,_,_,rfl,Co,Li,x2,by lia⟩⟩
 .exact wpS_pure ⟨hS,_,_,_,_,_,_,rfl,Co,Li,x2,by lia⟩
def yR(G:Mg prog w A E s κ P r a b zt)(dF:∀i,i+1=a.size->∀y∈b.toList,∀x∈a.toList.drop i,le r y x)(hS:Sm zt ai)(hP:Ms r a b out ia ib)(x1:ia+1<a.size)(x2:ib<b.size)(x3:K<=ia+ib)(y3:∀x∈a.toList.drop ia,le r b[ib] x):
  wpS (model prog w) A E s (Cm a b out ia ib g ac bc) (RJ r a b zt (K+1)) ai:=by
 unfold Cm
 refine wpS_bind (bB x2 ?_)
 have Cp:=hP.nZ G.sb x2 y3
 refine fZ (λe3=>?_) (λe3=>?_)
 .exact wpS_pure ⟨hS,.inl ⟨_,rfl,Cp.p.done (by lia) (by lia),Cp.done G.sa G.sb (by lia) (by lia) (.inr (by simpa using e3))⟩⟩
 have NI:ib+1<b.size:=by have:=bne e3;lia
 have iX:ia<a.size:=by lia
 refine wpS_bind (bB iX (wpS_bind (G.gB iX hS NI λkk Sf g1 g2=>?_)))
 dsimp only
 refine fZ (λPN=>?_) (λPN=>?_)
 .have Cq:=Cp.pD G.sb g1
  refine fZ (λe4=>?_) (λe4=>?_)
  .exact wpS_pure ⟨hS,.inl ⟨_,rfl,Cq.p.done (by lia) (by lia),Cq.done G.sa G.sb (by lia) (by lia) (.inr (by simpa using e4))⟩⟩
  exact yQ G dF hS Cq x1 (by have:=bne e4;lia) (by lia) iX g2
 .exact yQ G dF hS Cp x1 NI (by lia) iX (by rw[show ib+1=ib+1+kk by lia];exact g2)
def yS(G:Mg prog w A E s κ P r a b zt)(dF:∀i,i+1=a.size->∀y∈b.toList,∀x∈a.toList.drop i,le r y x)(hS:Sm zt ai)(h:Lo r a b K out ia ib):wpS (model prog w) A E s (Cn a b out ia ib ac bc g) (RJ r a b zt (K+1)) ai:=by
 have hP:=h.m
 have x1:=h.x1
 have x2:=h.x2
 have x3:=h.x3
 unfold Cn bz
 refine wpS_bind (wpS_modify ?_)
 refine wpS_bind (bB x2 (wpS_bind (G.gA x2 hS.setG (by lia) λk GR k1 k2=>?_)))
 dsimp only
 refine fZ (λPQ=>?_) (λPQ=>?_)
 .have Cr:=hP.pE G.sa k1
  refine fZ (λe1=>?_) (λe1=>?_)
  .exact wpS_pure ⟨hS.setG,.inl ⟨_,rfl,Cr.p.last (by lia) (by lia),Cr.last G.sa G.sb (by lia) (by lia) (dF _ (by simpa using e1))⟩⟩
  refine fZ (λe2=>?_) (λe2=>?_)
  .exact wpS_pure ⟨hS.setG,.inl ⟨_,rfl,Cr.p.done (by lia) (by lia),Cr.done G.sa G.sb (by lia) (by lia) (.inl (by simpa using e2))⟩⟩
  exact yR G dF hS.setG Cr (by have:=bne e1;have:=bne e2;lia) x2 (by lia) k2
 .exact yR G dF hS.setG hP x1 x2 x3 (by rw[show ia=ia+k by lia];exact k2)
def Lj(G:Mg prog w A E s κ P r a b zt)(dF:∀i,i+1=a.size->∀y∈b.toList,∀x∈a.toList.drop i,le r y x)(hS:Sm zt ai)(h:Lo r a b K out ia ib):wpS (model prog w) A E s (Se a b out ia ib g ac bc) (RJ r a b zt (K+1)) ai:=
 fZ (λ_=>yS G dF hS h) λ_=>yS G dF hS h
def Lo.less(h:Lo r a b (K+1) out ia ib):Lo r a b K out ia ib:=⟨h.m,h.x1,h.x2,by have:=h.x3;lia⟩
abbrev R5(r:Keyed->Keyed->Bool)(a b:Array Keyed)(zt:SortSt)(K:Nat)(x:ForInStep T5)(ai:SortSt):Prop:=match x with
 | .done c=>Q1 r a b zt c ai
 | .yield c=>Sd r a b zt K c ai
def Lk{u:T7}(h:Qq r a b (Jv r a b K) zt u ai):wpS (model prog w) A E s (PK a b g u) (R5 r a b zt K) ai:=by
 obtain⟨c,d⟩:=u
 obtain⟨hS,⟨o,hc,hr⟩|⟨out,ia,ib,g',n,m,hc,hL⟩⟩:=h
 .have kN:c=some o:=hc
  subst kN
  exact wpS_pure ⟨hS,o,rfl,hr⟩
 .cases hc
  unfold PK bz
  exact wpS_bind (wpS_modify (wpS_pure ⟨hS.setG,_,_,_,_,rfl,hL⟩))
def Ll{t:T6}(G:Mg prog w A E s κ P r a b zt)(dF:∀i,i+1=a.size->∀y∈b.toList,∀x∈a.toList.drop i,le r y x)(tM:1<=a.size+b.size)(h:Qq r a b (Lf r a b K) zt t ai):wpS (model prog w) A E s (PL a b g t) (R5 r a b zt (K+1)) ai:=by
 obtain⟨c,d⟩:=t
 obtain⟨hS,⟨o,hc,hr⟩|⟨out,ia,ib,n,m,hc,hL⟩⟩:=h
 .have kN:c=some o:=hc
  subst kN
  exact wpS_pure ⟨hS,o,rfl,hr⟩
 .cases hc
  unfold PL
  refine wpS_bind (wpS_lift (Y5 ⟨rfl,?_⟩))
  refine wpS_bind (wpS_mono (wpS_forRange
   (I:=λj=>match j with|0=>Pq (Jv r a b K) zt|_+1=>Pq (Jv r a b (K+1)) zt)
   (Q:=Qq r a b (Jv r a b (K+1)) zt) ?step ?fin ⟨hS,_,_,_,_,_,_,rfl,hL⟩) λu cJ h2=>Lk h2)
  case fin=>
   intro c cJ h2
   rw[show max 0 (a.size+b.size)=(a.size+b.size-1)+1 by lia]at h2
   exact⟨h2.1,.inr h2.2⟩
  case step=>
   intro j c cJ _ _ h2
   have h3:Sm zt cJ/\∃out ia ib g n m,c=(none,out,ia,ib,g,n,m)/\Lo r a b K out ia ib:=by
    cases j with
    |zero=>exact h2
    |succ j=>
     obtain⟨z1,out,ia,ib,g,n,m,z2,z3⟩:=h2
     exact⟨z1,out,ia,ib,g,n,m,z2,z3.less⟩
   obtain⟨z1,out,ia,ib,g,n,m,rfl,z3⟩:=h3
   exact wpS_mono (Lj G dF z1 z3) λx _ h=>by cases x<;>exact h
def Lm(G:Mg prog w A E s κ P r a b zt)(dF:∀i,i+1=a.size->∀y∈b.toList,∀x∈a.toList.drop i,le r y x)(tM:1<=a.size+b.size)(hS:Sm zt ai)(h:Lo r a b K out ia ib):wpS (model prog w) A E s (PM a b out ia ib g) (R5 r a b zt (K+1)) ai:=by
 unfold PM
 refine wpS_bind (wpS_mono (wpS_forRange (I:=λ_=>Pq (Lf r a b K) zt) (Q:=Qq r a b (Lf r a b K) zt) ?step (λc cJ h2=>⟨h2.1,.inr h2.2⟩) ⟨hS,_,_,_,_,_,rfl,h⟩) λt cJ h2=>Ll G dF tM h2)
 intro _ c cJ _ _ h2
 obtain⟨z1,out,ia,ib,n,m,rfl,z3⟩:=h2
 exact wpS_mono (Lh G dF z1 z3) λx _ h=>by cases x<;>exact h
end
def wL{a b:Array Keyed}{zt:SortSt}{Q:Array Keyed->SortSt->Prop}(L:kL prog w A E s κ P r)(O:Ord r)(hk:kindOf zt=κ)(ha:∀x∈a,P x)(hb:∀x∈b,P x)(h1:1<=a.size)(h2:1<=b.size)
  (sa:a.toList.Pairwise (le r)) (sb:b.toList.Pairwise (le r)) (first:∀y∈a.toList,le r b[0] y) (final:∀y∈b.toList,∀x∈a.toList.drop (a.size-1),le r y x)
  (q:∀out ai,out.toList.Perm (a.toList++b.toList)->out.toList.Pairwise (le r)->Sm zt ai->Q out ai):wpS (model prog w) A E s (lQ a b) Q zt:=by
 have dF:∀i,i+1=a.size->∀y∈b.toList,∀x∈a.toList.drop i,le r y x:=λi hi=>by rw[show i=a.size-1 by lia];exact final
 have G:Mg prog w A E s κ P r a b zt:=⟨L,O,hk,ha,hb,sa,sb⟩
 rw[Lg]
 refine wpS_bind (wpS_lift (Y5 ⟨rfl,?_⟩))
 refine wpS_bind (bB (by lia) ?_)
 have p0:Ms r a b #[b[0]] 0 1:=by
  have:Ms r a b #[] 0 0:=⟨by unfold Pt;simp,by simp,by simp,by simp⟩
  exact this.nZ sb (by lia) first
 refine fZ (λc1=>?_) (λc1=>?_)
 .exact wpS_pure (q _ _ (p0.p.done (by lia) h2) (p0.done sa sb (by lia) h2 (.inr (by simpa using c1))) .rfl')
 have Br:1<b.size:=by have:=bne c1;lia
 refine fZ (λc2=>?_) (λc2=>?_)
 .exact wpS_pure (q _ _ (p0.p.last (by lia) h2) (p0.last sa sb (by lia) h2 (dF 0 (by simpa using c2))) .rfl')
 have ES:0+1<a.size:=by have:=bne c2;lia
 refine wpS_bind (wpS_get ?_)
 refine wpS_bind (wpS_mono (wpS_forRange (I:=λi=>Sd r a b zt (i+1)) (Q:=Q1 r a b zt) ?step ?fin ⟨.rfl',_,_,_,_,rfl,p0,ES,Br,W9 _⟩) ?post)
 case post=>
  rintro⟨c,d⟩ ai ⟨hS,o,hc,hr,PR⟩
  have kN:c=some o:=hc
  subst kN
  exact wpS_pure (q o ai hr PR hS)
 case fin=>
  rintro c ai ⟨_,out,ia,ib,g,_,_,x1,x2,x3⟩
  lia
 case step=>
  rintro i c fG _ _ ⟨PU,out,ia,ib,g,rfl,hL⟩
  exact wpS_mono (Lm G dF (by lia) PU hL) λx _ h=>by cases x<;>exact h
end
structure Mh(r:Keyed->Keyed->Bool)(a b out:Array Keyed)(i j:Nat):Prop where
 p:Ph a b out i j
 s:out.toList.Pairwise λx y=>le r y x
 ta:∀x∈out.toList,∀y∈a.toList.take i,le r y x
 tb:∀x∈out.toList,∀y∈b.toList.take j,le r y x
section
variable {r:Keyed->Keyed->Bool}{a b out:Array Keyed}{i j k:Nat}
def jd(a:Array Keyed)(k i:Nat):(a.extract k i).toList =(a.toList.take i).drop k:=by
 rw[Yx]
 unfold List.extract
 rw[List.drop_take]
def rg(a:Array Keyed)(h:k<=i):a.toList.take i=a.toList.take k++(a.toList.take i).drop k:=by
 have:=(Y0 k (a.toList.take i)).symm
 rwa [aaK,aaB h]at this
theorem Mh.pE(h:Mh r a b out i j)(sa:a.toList.Pairwise (le r))(hk:k<=i)(hi:i<=a.size)(hb:∀x∈(a.toList.take i).drop k,∀y∈b.toList.take j,le r y x):Mh r a b (out++(a.extract k i).reverse) k j:=by
 have sd:(a.toList.take i).Pairwise (le r):=sa.sublist (Yg _ _)
 have e:=rg a hk
 rw[e,XA]at sd
 refine cN sd λp1 p2 p3=>?_
 have Lc:∀x∈out.toList,∀y∈a.toList.take k++(a.toList.take i).drop k,le r y x:=λx hx y hy=>h.ta x hx y (by rw[e];exact hy)
 have el:(out++(a.extract k i).reverse).toList =out.toList++((a.toList.take i).drop k).reverse :=by rw[Xh,X4,jd]
 refine⟨h.p.pE hk hi,?_,λx hx y hy=>?_,λx hx y hy=>?_⟩
 .rw[el,XA]
  exact⟨h.s,Y1.mpr p2,λx hx y hy=>Lc x hx y (Xi _ (Yb.mp hy))⟩
 .rw[el]at hx
  rcases Xk.mp hx with z|z
  .exact Lc x z y (Xp _ hy)
  .exact p3 y hy x (Yb.mp z)
 .rw[el]at hx
  rcases Xk.mp hx with z|z
  .exact h.tb x z y hy
  .exact hb x (Yb.mp z) y hy
theorem Mh.pD(h:Mh r a b out i j)(sb:b.toList.Pairwise (le r))(hk:k<=j)(hj:j<=b.size)(ha:∀x∈(b.toList.take j).drop k,∀y∈a.toList.take i,le r y x):Mh r a b (out++(b.extract k j).reverse) i k:=by
 have sd:(b.toList.take j).Pairwise (le r):=sb.sublist (Yg _ _)
 have e:=rg b hk
 rw[e,XA]at sd
 refine cN sd λp1 p2 p3=>?_
 have Ld:∀x∈out.toList,∀y∈b.toList.take k++(b.toList.take j).drop k,le r y x:=λx hx y hy=>h.tb x hx y (by rw[e];exact hy)
 have el:(out++(b.extract k j).reverse).toList =out.toList++((b.toList.take j).drop k).reverse :=by rw[Xh,X4,jd]
 refine⟨h.p.pD hk hj,?_,λx hx y hy=>?_,λx hx y hy=>?_⟩
 .rw[el,XA]
  exact⟨h.s,Y1.mpr p2,λx hx y hy=>Ld x hx y (Xi _ (Yb.mp hy))⟩
 .rw[el]at hx
  rcases Xk.mp hx with z|z
  .exact h.ta x z y hy
  .exact ha x (Yb.mp z) y hy
 .rw[el]at hx
  rcases Xk.mp hx with z|z
  .exact Ld x z y (Xp _ hy)
  .exact p3 y hy x (Yb.mp z)
def Mh.cg(h:Mh r a b out i j)(e:o.toList=out.toList):Mh r a b o i j:=⟨by unfold Ph;rw[e];exact h.p,by rw[e];exact h.s,λx hx=>h.ta x (by rw[<-e];exact hx),λx hx=>h.tb x (by rw[<-e];exact hx)⟩
def Mh.nY(h:Mh r a b out i j)(sa:a.toList.Pairwise (le r))(h1:1<=i)(hi:i-1<a.size)(hb:∀y∈b.toList.take j,le r y a[i-1]):Mh r a b (out.push a[i-1]) (i-1) j:=by
 refine(h.pE (k:=i-1) sa (by lia) (by lia) λx hx=>?_).cg (by rw[Xh,X4,jc h1 hi,aan,<-YN])
 rw[<-jd,jc h1 hi,W5]at hx
 rw[hx];exact hb
def Mh.nZ(h:Mh r a b out i j)(sb:b.toList.Pairwise (le r))(h1:1<=j)(hj:j-1<b.size)(ha:∀y∈a.toList.take i,le r y b[j-1]):Mh r a b (out.push b[j-1]) i (j-1):=by
 refine(h.pD (k:=j-1) sb (by lia) (by lia) λx hx=>?_).cg (by rw[Xh,X4,jc h1 hj,aan,<-YN])
 rw[<-jd,jc h1 hj,W5]at hx
 rw[hx];exact ha
def uN(O:Ord r)(sa:a.toList.Pairwise (le r))(hi:i-1<a.size)(hx:le r a[i-1] x):∀y∈a.toList.take i,le r y x:=λy hy=>by
 obtain⟨m,hm,rfl⟩:=YR hy
 rw[X3,Xt]at hm
 rw[List.getElem_take]
 rcases X0 m (i-1)with z|z
 .refine O.trans ?_ hx
  have:=(Yr.mp sa) m (i-1) (by simp;lia) (by simp;lia) z
  simpa using this
 .have e:m=i-1:=by lia
  subst e
  simpa using hx
def Mh.done(h:Mh r a b out i j)(sa:a.toList.Pairwise (le r))(sb:b.toList.Pairwise (le r))(c:i=0\/j=0):((a.extract 0 i++b.extract 0 j)++out.reverse).toList.Pairwise (le r):=by
 rw[Xh,Xh,dQ,dQ,X4,XA]
 refine⟨?_,Y1.mpr h.s,λx hx y hy=>?_⟩
 .rcases c with rfl|rfl
  .rw[List.take_zero,Yt];exact sb.sublist (Yg _ _)
  .rw[List.take_zero,XF];exact sa.sublist (Yg _ _)
 .rcases Xk.mp hx with z|z
  .exact h.ta y (Yb.mp hy) x z
  .exact h.tb y (Yb.mp hy) x z
def Mh.first(h:Mh r a b out i j)(sa:a.toList.Pairwise (le r))(sb:b.toList.Pairwise (le r))(c:∀x∈b.toList.take j,∀y∈a.toList,le r x y):((b.extract 0 j++a.extract 0 i)++out.reverse).toList.Pairwise (le r):=by
 rw[Xh,Xh,dQ,dQ,X4,XA]
 refine⟨?_,Y1.mpr h.s,λx hx y hy=>?_⟩
 .rw[XA]
  exact⟨sb.sublist (Yg _ _),sa.sublist (Yg _ _),λx hx y hy=>c x hx y (X8 hy)⟩
 .rcases Xk.mp hx with z|z
  .exact h.tb y (Yb.mp hy) x z
  .exact h.ta y (Yb.mp hy) x z
end
section
variable {prog:Program}{w:World}{A:Around}{E:Value->Shared->Prop}{s:Shared}{κ:SortKind}{P:Keyed->Prop}{r:Keyed->Keyed->Bool}
structure Hi(r:Keyed->Keyed->Bool)(a b:Array Keyed)(k:Nat)(out:Array Keyed)(ia ib:Nat):Prop where
 m:Mh r a b out ia ib
 x1:1<=ia
 x2:ia<=a.size
 x3:2<=ib
 x4:ib<=b.size
 x5:k+ia+ib<=a.size+b.size
abbrev Sg(r:Keyed->Keyed->Bool)(a b:Array Keyed)(k:Nat)(c:Option (Array Keyed)×Nat×Nat×Array Keyed×Nat):Prop:=∃ia ib out g,c=(none,ia,ib,out,g)/\Hi r a b k out ia ib
abbrev Ln(r:Keyed->Keyed->Bool)(a b:Array Keyed)(k:Nat)(c:Option (Array Keyed)×Nat×Nat×Array Keyed×Nat×Nat):Prop:=∃ia ib out n m,c=(none,ia,ib,out,n,m)/\Hi r a b k out ia ib
abbrev Jw(r:Keyed->Keyed->Bool)(a b:Array Keyed)(k:Nat)(c:Option (Array Keyed)×Nat×Nat×Array Keyed×Nat×Nat×Nat):Prop:=∃ia ib out g n m,c=(none,ia,ib,out,g,n,m)/\Hi r a b k out ia ib
abbrev U5:=Option (Array Keyed)×Nat×Nat×Array Keyed×Nat
abbrev U6:=Option (Array Keyed)×Nat×Nat×Array Keyed×Nat×Nat
abbrev U7:=Option (Array Keyed)×Nat×Nat×Array Keyed×Nat×Nat×Nat
noncomputable def ET(a b out:Array Keyed)(na nb:Nat):Array Keyed:=(a.extract 0 na++b.extract 0 nb)++out.reverse
noncomputable def NJ(a b out:Array Keyed)(na nb:Nat):Array Keyed:=(b.extract 0 nb++a.extract 0 na)++out.reverse
noncomputable def PV(a b:Array Keyed)(g na nb:Nat)(out:Array Keyed)(ac bc:Nat):SM (ForInStep U6):=do
 let some w<-lt' (<-elem' b (nb-1)) (<-elem' a (na-1))|return .done (some (ET a b out na nb),na,nb,out,ac,bc)
 if w then
  let o:=out.push (<-elem' a (na-1))
  if na-1==0 then return .done (some (ET a b o (na-1) nb),na-1,nb,o,ac+1,0)
  if ac+1 ≥ g then return .done (none,na-1,nb,o,ac+1,0)
  return .yield (none,na-1,nb,o,ac+1,0)
 else
  let o:=out.push (<-elem' b (nb-1))
  if nb-1==1 then return .done (some (NJ a b o na (nb-1)),na,nb-1,o,0,bc+1)
  if bc+1 ≥ g then return .done (none,na,nb-1,o,0,bc+1)
  return .yield (none,na,nb-1,o,0,bc+1)
noncomputable def Cu(a b:Array Keyed)(na nb:Nat)(out:Array Keyed)(g ac bc:Nat):SM (ForInStep U7):=do
 let o:=out.push (<-elem' a (na-1))
 if na-1==0 then return .done (some (ET a b o (na-1) nb),na-1,nb,o,g,ac,bc)
 if ac<7&&bc<7 then return .done (none,na-1,nb,o,g,ac,bc)
 return .yield (none,na-1,nb,o,g,ac,bc)
noncomputable def Cv(a b:Array Keyed)(na nb:Nat)(out:Array Keyed)(g ac bc:Nat):SM (ForInStep U7):=do
 let o:=out.push (<-elem' b (nb-1))
 if nb-1==1 then return .done (some (NJ a b o na (nb-1)),na,nb-1,o,g,ac,bc)
 let some k<-cv true (<-elem' a (na-1)) b 0 (nb-1) (nb-1-1)|return .done (some (ET a b o na (nb-1)),na,nb-1,o,g,ac,bc)
 if nb-1-k>0 then
  let o:=o++(b.extract k (nb-1)).reverse
  if k==1 then return .done (some (NJ a b o na k),na,k,o,g,ac,nb-1-k)
  if k==0 then return .done (some (ET a b o na k),na,k,o,g,ac,nb-1-k)
  Cu a b na k o g ac (nb-1-k)
 else Cu a b na (nb-1) o g ac (nb-1-k)
noncomputable def Cw(a b:Array Keyed)(na nb:Nat)(out:Array Keyed)(ac bc g:Nat):SM (ForInStep U7):=do
 bz g
 let some k<-cv false (<-elem' b (nb-1)) a 0 na (na-1)|return .done (some (ET a b out na nb),na,nb,out,g,ac,bc)
 if na-k>0 then
  let o:=out++(a.extract k na).reverse
  if k==0 then return .done (some (ET a b o k nb),k,nb,o,g,na-k,bc)
  Cv a b k nb o g (na-k) bc
 else Cv a b na nb out g (na-k) bc
noncomputable def Si(a b:Array Keyed)(na nb:Nat)(out:Array Keyed)(g ac bc:Nat):SM (ForInStep U7):=if g>1 then Cw a b na nb out ac bc (g-1) else Cw a b na nb out ac bc g
noncomputable def PX(u:U7):SM (ForInStep U5):=
 match u.1 with
 |some r=>pure (.done (some r,u.2.1,u.2.2.1,u.2.2.2.1,u.2.2.2.2.1))
 |none=>do
  bz (u.2.2.2.2.1+1)
  pure (.yield (none,u.2.1,u.2.2.1,u.2.2.2.1,u.2.2.2.2.1+1))
noncomputable def PY(a b:Array Keyed)(g:Nat)(t:U6):SM (ForInStep U5):=
 match t.1 with
 |some r=>pure (.done (some r,t.2.1,t.2.2.1,t.2.2.2.1,g))
 |none=>do
  rule "list.sort.gallop"
  let u<-forIn [0:a.size+b.size] ((none,t.2.1,t.2.2.1,t.2.2.2.1,g+1,t.2.2.2.2.1,t.2.2.2.2.2):U7) λ_ u=>Si a b u.2.1 u.2.2.1 u.2.2.2.1 u.2.2.2.2.1 u.2.2.2.2.2.1 u.2.2.2.2.2.2
  PX u
noncomputable def PZ(a b:Array Keyed)(na nb:Nat)(out:Array Keyed)(g:Nat):SM (ForInStep U5):=do
 let t<-forIn [0:a.size+b.size] ((none,na,nb,out,0,0):U6) λ_ t=>PV a b g t.2.1 t.2.2.1 t.2.2.2.1 t.2.2.2.2.1 t.2.2.2.2.2
 PY a b g t
def Lp(a b:Array Keyed):lR a b=(do
  rule "list.sort.merge-hi"
  let x<-elem' a (a.size-1)
  if a.size-1==0 then return ET a b #[x] (a.size-1) b.size
  if b.size==1 then return NJ a b #[x] (a.size-1) b.size
  let g:=gallopOf (<-get)
  let s<-forIn [0:a.size+b.size] ((none,a.size-1,b.size,#[x],g):U5) λ_ s=>PZ a b s.2.1 s.2.2.1 s.2.2.2.1 s.2.2.2.2
  match s.1 with
  |some r=>pure r
  |none=>unsupported "internal:list.sort.merge-bound"):=by kernel_rfl
def Mg.hA{a b:Array Keyed}{zt ai:SortSt}{ia ib:Nat}{Q':Option Nat->SortSt->Prop}(G:Mg prog w A E s κ P r a b zt)(Bq:ib-1<b.size)(hS:Sm zt ai)(tL:1<=ia)(UM:ia<=a.size)(hq:∀k,k<=ia->(∀x∈(a.toList.take ia).drop k,∀y∈b.toList.take ib,le r y x)->(∀y∈a.toList.take k,le r y b[ib-1])->Q' (some k) ai):
  wpS (model prog w) A E s (cv false b[ib-1] a 0 ia (ia-1)) Q' ai:=by
 have e:sg a 0 ia=a.toList.take ia:=by unfold sg;rw[YT]
 refine c7 G.L G.O (hS.k.trans G.hk) (G.hb _ (XO _)) G.ha (by lia) (by lia) (by rw[e];exact G.sa.sublist (Yg _ _)) λk hk g1 g2=>hq k hk (λx hx=>?_) (λx hx=>?_)
 .have:=g2 x (by rw[e];exact hx)
  unfold tK at this
  have h':r b[ib-1] x=true:=by simpa using this
  exact uN G.O G.sb Bq (G.O.of_lt h')
 .have:=g1 x (by rw[e,aaK,aaB hk];exact hx)
  unfold tK at this
  simpa[le]using this
def Mg.hB{a b:Array Keyed}{zt ai:SortSt}{ia ib:Nat}{Q':Option Nat->SortSt->Prop}(G:Mg prog w A E s κ P r a b zt)(tL:ia-1<a.size)(hS:Sm zt ai)(Bq:1<=ib)(UN:ib<=b.size)(hq:∀k,k<=ib->(∀x∈(b.toList.take ib).drop k,∀y∈a.toList.take ia,le r y x)->(∀y∈b.toList.take k,le r y a[ia-1])->Q' (some k) ai):
  wpS (model prog w) A E s (cv true a[ia-1] b 0 ib (ib-1)) Q' ai:=by
 have e:sg b 0 ib=b.toList.take ib:=by unfold sg;rw[YT]
 refine c7 G.L G.O (hS.k.trans G.hk) (G.ha _ (XO _)) G.hb (by lia) (by lia) (by rw[e];exact G.sb.sublist (Yg _ _)) λk hk g1 g2=>hq k hk (λx hx=>?_) (λx hx=>?_)
 .exact uN G.O G.sa tL (g2 x (by rw[e];exact hx))
 .exact G.O.of_lt (g1 x (by rw[e,aaK,aaB hk];exact hx))
abbrev HI(r:Keyed->Keyed->Bool)(a b:Array Keyed)(zt:SortSt)(K:Nat)(x:ForInStep U6)(ai:SortSt):Prop:=match x with
 | .done c=>Qq r a b (Ln r a b K) zt c ai
 | .yield c=>Pq (Ln r a b K) zt c ai
abbrev HJ(r:Keyed->Keyed->Bool)(a b:Array Keyed)(zt:SortSt)(K:Nat)(x:ForInStep U7)(ai:SortSt):Prop:=match x with
 | .done c=>Qq r a b (Jw r a b K) zt c ai
 | .yield c=>Pq (Jw r a b K) zt c ai
abbrev H5(r:Keyed->Keyed->Bool)(a b:Array Keyed)(zt:SortSt)(K:Nat)(x:ForInStep U5)(ai:SortSt):Prop:=match x with
 | .done c=>Q1 r a b zt c ai
 | .yield c=>Pq (Sg r a b K) zt c ai
section
variable {a b out:Array Keyed}{zt ai:SortSt}{ia ib g ac bc K:Nat}
def Lq(G:Mg prog w A E s κ P r a b zt)(f7:∀j,j=1->∀x∈b.toList.take j,∀y∈a.toList,le r x y)(hS:Sm zt ai)(h:Hi r a b K out ia ib):wpS (model prog w) A E s (PV a b g ia ib out ac bc) (HI r a b zt K) ai:=by
 have hP:=h.m
 have x1:=h.x1
 have x2:=h.x2
 have x3:=h.x3
 have x4:=h.x4
 have x5:=h.x5
 have Bq:ib-1<b.size:=by lia
 have tL:ia-1<a.size:=by lia
 unfold PV
 refine wpS_bind (bB Bq (wpS_bind (bB tL (wpS_bind (G.L _ _ _ _ (G.hb _ (XO _)) (G.ha _ (XO _)) (hS.k.trans G.hk) ?_)))))
 cases bw:r b[ib-1] a[ia-1]with
 |true=>
  dsimp only
  rw[Xl rfl]
  refine wpS_bind (bB tL ?_)
  have nr:=hP.nY G.sa x1 tL (uN G.O G.sb Bq (G.O.of_lt bw))
  refine fZ (λe1=>?_) (λe1=>?_)
  .exact wpS_pure ⟨hS,.inl ⟨_,rfl,nr.p.done,nr.done G.sa G.sb (.inl (by simpa using e1))⟩⟩
  .have qk:1<=ia-1:=by have:=bne e1;lia
   refine fZ (λ_=>?_) (λ_=>?_)
   .exact wpS_pure ⟨hS,.inr ⟨_,_,_,_,_,rfl,nr,qk,by lia,by lia,by lia,by lia⟩⟩
   .exact wpS_pure ⟨hS,_,_,_,_,_,rfl,nr,qk,by lia,by lia,by lia,by lia⟩
 |false=>
  dsimp only
  rw[Xs W2]
  refine wpS_bind (bB Bq ?_)
  have nr:=hP.nZ G.sb (show 1<=ib by lia) Bq (uN G.O G.sa tL bw)
  refine fZ (λe1=>?_) (λe1=>?_)
  .exact wpS_pure ⟨hS,.inl ⟨_,rfl,nr.p.first,nr.first G.sa G.sb (f7 _ (by simpa using e1))⟩⟩
  .have qk:2<=ib-1:=by have:=bne e1;lia
   refine fZ (λ_=>?_) (λ_=>?_)
   .exact wpS_pure ⟨hS,.inr ⟨_,_,_,_,_,rfl,nr,x1,by lia,qk,by lia,by lia⟩⟩
   .exact wpS_pure ⟨hS,_,_,_,_,_,rfl,nr,x1,by lia,qk,by lia,by lia⟩
def yT(G:Mg prog w A E s κ P r a b zt)(hS:Sm zt ai)(hP:Mh r a b out ia ib)(x1:1<=ia)(x2:ia<=a.size)(x3:2<=ib)(x4:ib<=b.size)(x5:K+(ia-1)+ib<=a.size+b.size)(GS:ia-1<a.size)(y7:∀y∈b.toList.take ib,le r y a[ia-1]):
  wpS (model prog w) A E s (Cu a b ia ib out g ac bc) (HJ r a b zt K) ai:=by
 unfold Cu
 refine wpS_bind (bB GS ?_)
 have Co:=hP.nY G.sa x1 GS y7
 refine fZ (λe5=>?_) (λe5=>?_)
 .exact wpS_pure ⟨hS,.inl ⟨_,rfl,Co.p.done,Co.done G.sa G.sb (.inl (by simpa using e5))⟩⟩
 have Li:1<=ia-1:=by have:=bne e5;lia
 refine fZ (λ_=>?_) (λ_=>?_)
 .exact wpS_pure ⟨hS,.inr ⟨_,_,_,_,_,_,rfl,Co,Li,by lia,x3,x4,x5⟩⟩
 .exact wpS_pure ⟨hS,_,_,_,_,_,_,rfl,Co,Li,by lia,x3,x4,x5⟩
def yU(G:Mg prog w A E s κ P r a b zt)(f7:∀j,j=1->∀x∈b.toList.take j,∀y∈a.toList,le r x y)(hS:Sm zt ai)(hP:Mh r a b out ia ib)(x1:1<=ia)(x2:ia<=a.size)(x3:2<=ib)(x4:ib<=b.size)(x5:K+ia+ib<=a.size+b.size)(GU:ib-1<b.size)(y6:∀y∈a.toList.take ia,le r y b[ib-1]):
  wpS (model prog w) A E s (Cv a b ia ib out g ac bc) (HJ r a b zt (K+1)) ai:=by
 unfold Cv
 refine wpS_bind (bB GU ?_)
 have Cp:=hP.nZ G.sb (show 1<=ib by lia) GU y6
 refine fZ (λe3=>?_) (λe3=>?_)
 .exact wpS_pure ⟨hS,.inl ⟨_,rfl,Cp.p.first,Cp.first G.sa G.sb (f7 _ (by simpa using e3))⟩⟩
 have NI:2<=ib-1:=by have:=bne e3;lia
 have GS:ia-1<a.size:=by lia
 refine wpS_bind (bB GS (wpS_bind (G.hB GS hS (by lia) (by lia) λk Sf g1 g2=>?_)))
 dsimp only
 refine fZ (λPN=>?_) (λPN=>?_)
 .have Cq:=Cp.pD (k:=k) G.sb Sf (by lia) g1
  refine fZ (λe4=>?_) (λe4=>?_)
  .exact wpS_pure ⟨hS,.inl ⟨_,rfl,Cq.p.first,Cq.first G.sa G.sb (f7 _ (by simpa using e4))⟩⟩
  refine fZ (λe6=>?_) (λe6=>?_)
  .exact wpS_pure ⟨hS,.inl ⟨_,rfl,Cq.p.done,Cq.done G.sa G.sb (.inr (by simpa using e6))⟩⟩
  exact yT G hS Cq x1 x2 (by have:=bne e4;have:=bne e6;lia) (by lia) (by lia) GS g2
 .exact yT G hS Cp x1 x2 NI (by lia) (by lia) GS (by rw[show ib-1=k by lia];exact g2)
def yV(G:Mg prog w A E s κ P r a b zt)(f7:∀j,j=1->∀x∈b.toList.take j,∀y∈a.toList,le r x y)(hS:Sm zt ai)(h:Hi r a b K out ia ib):wpS (model prog w) A E s (Cw a b ia ib out ac bc g) (HJ r a b zt (K+1)) ai:=by
 have hP:=h.m
 have x1:=h.x1
 have x2:=h.x2
 have x3:=h.x3
 have x4:=h.x4
 have x5:=h.x5
 have GU:ib-1<b.size:=by lia
 unfold Cw bz
 refine wpS_bind (wpS_modify ?_)
 refine wpS_bind (bB GU (wpS_bind (G.hA GU hS.setG x1 x2 λk GR k1 k2=>?_)))
 dsimp only
 refine fZ (λPQ=>?_) (λPQ=>?_)
 .have Cr:=hP.pE (k:=k) G.sa GR x2 k1
  refine fZ (λe1=>?_) (λe1=>?_)
  .exact wpS_pure ⟨hS.setG,.inl ⟨_,rfl,Cr.p.done,Cr.done G.sa G.sb (.inl (by simpa using e1))⟩⟩
  exact yU G f7 hS.setG Cr (by have:=bne e1;lia) (by lia) x3 x4 (by lia) GU k2
 .exact yU G f7 hS.setG hP x1 x2 x3 x4 x5 GU (by rw[show ia=k by lia];exact k2)
def Lr(G:Mg prog w A E s κ P r a b zt)(f7:∀j,j=1->∀x∈b.toList.take j,∀y∈a.toList,le r x y)(hS:Sm zt ai)(h:Hi r a b K out ia ib):wpS (model prog w) A E s (Si a b ia ib out g ac bc) (HJ r a b zt (K+1)) ai:=
 fZ (λ_=>yV G f7 hS h) λ_=>yV G f7 hS h
def Hi.less(h:Hi r a b (K+1) out ia ib):Hi r a b K out ia ib:=⟨h.m,h.x1,h.x2,h.x3,h.x4,by have:=h.x5;lia⟩
def Ls{u:U7}(h:Qq r a b (Jw r a b K) zt u ai):wpS (model prog w) A E s (PX u) (H5 r a b zt K) ai:=by
 obtain⟨c,d⟩:=u
 obtain⟨hS,⟨o,hc,hr⟩|⟨ia,ib,out,g',n,m,hc,hL⟩⟩:=h
 .have kN:c=some o:=hc
  subst kN
  exact wpS_pure ⟨hS,o,rfl,hr⟩
 .cases hc
  unfold PX bz
  exact wpS_bind (wpS_modify (wpS_pure ⟨hS.setG,_,_,_,_,rfl,hL⟩))
def Lu{t:U6}(G:Mg prog w A E s κ P r a b zt)(f7:∀j,j=1->∀x∈b.toList.take j,∀y∈a.toList,le r x y)(tM:1<=a.size+b.size)(h:Qq r a b (Ln r a b K) zt t ai):wpS (model prog w) A E s (PY a b g t) (H5 r a b zt (K+1)) ai:=by
 obtain⟨c,d⟩:=t
 obtain⟨hS,⟨o,hc,hr⟩|⟨ia,ib,out,n,m,hc,hL⟩⟩:=h
 .have kN:c=some o:=hc
  subst kN
  exact wpS_pure ⟨hS,o,rfl,hr⟩
 .cases hc
  unfold PY
  refine wpS_bind (wpS_lift (Y5 ⟨rfl,?_⟩))
  refine wpS_bind (wpS_mono (wpS_forRange
   (I:=λj=>match j with|0=>Pq (Jw r a b K) zt|_+1=>Pq (Jw r a b (K+1)) zt)
   (Q:=Qq r a b (Jw r a b (K+1)) zt) ?step ?fin ⟨hS,_,_,_,_,_,_,rfl,hL⟩) λu cJ h2=>Ls h2)
  case fin=>
   intro c cJ h2
   rw[show max 0 (a.size+b.size)=(a.size+b.size-1)+1 by lia]at h2
   exact⟨h2.1,.inr h2.2⟩
  case step=>
   intro j c cJ _ _ h2
   have h3:Sm zt cJ/\∃ia ib out g n m,c=(none,ia,ib,out,g,n,m)/\Hi r a b K out ia ib:=by
    cases j with
    |zero=>exact h2
    |succ j=>
     obtain⟨z1,ia,ib,out,g,n,m,z2,z3⟩:=h2
     exact⟨z1,ia,ib,out,g,n,m,z2,z3.less⟩
   obtain⟨z1,ia,ib,out,g,n,m,rfl,z3⟩:=h3
   exact wpS_mono (Lr G f7 z1 z3) λx _ h=>by cases x<;>exact h
def Lv(G:Mg prog w A E s κ P r a b zt)(f7:∀j,j=1->∀x∈b.toList.take j,∀y∈a.toList,le r x y)(tM:1<=a.size+b.size)(hS:Sm zt ai)(h:Hi r a b K out ia ib):wpS (model prog w) A E s (PZ a b ia ib out g) (H5 r a b zt (K+1)) ai:=by
 unfold PZ
 refine wpS_bind (wpS_mono (wpS_forRange (I:=λ_=>Pq (Ln r a b K) zt) (Q:=Qq r a b (Ln r a b K) zt) ?step (λc cJ h2=>⟨h2.1,.inr h2.2⟩) ⟨hS,_,_,_,_,_,rfl,h⟩) λt cJ h2=>Lu G f7 tM h2)
 intro _ c cJ _ _ h2
 obtain⟨z1,ia,ib,out,n,m,rfl,z3⟩:=h2
 exact wpS_mono (Lq G f7 z1 z3) λx _ h=>by cases x<;>exact h
end
def wM{a b:Array Keyed}{zt:SortSt}{Q:Array Keyed->SortSt->Prop}(L:kL prog w A E s κ P r)(O:Ord r)(hk:kindOf zt=κ)(ha:∀x∈a,P x)(hb:∀x∈b,P x)(h1:1<=a.size)(h2:1<=b.size)
  (sa:a.toList.Pairwise (le r)) (sb:b.toList.Pairwise (le r)) (first:∀y∈a.toList,le r b[0] y) (final:∀y∈b.toList,∀x∈a.toList.drop (a.size-1),le r y x)
  (q:∀out ai,out.toList.Perm (a.toList++b.toList)->out.toList.Pairwise (le r)->Sm zt ai->Q out ai):wpS (model prog w) A E s (lR a b) Q zt:=by
 have f7:∀j,j=1->∀x∈b.toList.take j,∀y∈a.toList,le r x y:=λj hj x hx=>by
  subst hj
  have:=dQ b (i:=1)
  rw[<-this,gJ (by lia),W5]at hx
  rw[hx];exact first
 have G:Mg prog w A E s κ P r a b zt:=⟨L,O,hk,ha,hb,sa,sb⟩
 rw[Lp]
 refine wpS_bind (wpS_lift (Y5 ⟨rfl,?_⟩))
 refine wpS_bind (bB (show a.size-1<a.size by lia) ?_)
 have p0:Mh r a b #[a[a.size-1]] (a.size-1) b.size:=by
  have:Mh r a b #[] a.size b.size:=⟨by
   unfold Ph
   rw[XM (by simp),XM (by simp)]
   simp,by simp,by simp,by simp⟩
  refine this.nY sa h1 (by lia) λy hy=>?_
  have iX:a.size-1<a.toList.length:=by simp;lia
  refine final y (X8 hy) _ ?_
  rw[XR iX]
  simp
 refine fZ (λc1=>?_) (λc1=>?_)
 .exact wpS_pure (q _ _ p0.p.done (p0.done sa sb (.inl (by simpa using c1))) .rfl')
 have Br:1<=a.size-1:=by have:=bne c1;lia
 refine fZ (λc2=>?_) (λc2=>?_)
 .exact wpS_pure (q _ _ p0.p.first (p0.first sa sb (f7 _ (by simpa using c2))) .rfl')
 have ES:2<=b.size:=by have:=bne c2;lia
 refine wpS_bind (wpS_get ?_)
 refine wpS_bind (wpS_mono (wpS_forRange (I:=λi=>Pq (Sg r a b (i+1)) zt) (Q:=Q1 r a b zt) ?step ?fin ⟨.rfl',_,_,_,_,rfl,p0,Br,by lia,ES,W9 _,by lia⟩) ?post)
 case post=>
  rintro⟨c,d⟩ ai ⟨hS,o,hc,hr,PR⟩
  have kN:c=some o:=hc
  subst kN
  exact wpS_pure (q o ai hr PR hS)
 case fin=>
  rintro c ai ⟨_,ia,ib,out,g,_,_,x1,x2,x3,x4,x5⟩
  lia
 case step=>
  rintro i c fG _ _ ⟨PU,ia,ib,out,g,rfl,hL⟩
  exact wpS_mono (Lv G f7 (by lia) PU hL) λx _ h=>by cases x<;>exact h
end
noncomputable def gt(xs:Array Keyed)(i:Nat):Keyed:=xs[i]?.getD (.none,.none)
def h_(h:i<xs.size):gt xs i=xs[i]:=by unfold gt;rw[XE h];rfl
def So(r:Keyed->Keyed->Bool)(xs:Array Keyed)(lo hi:Nat):Prop:=∀i j,lo<=i->i<=j->j<hi->le r (gt xs i) (gt xs j)
def De(r:Keyed->Keyed->Bool)(xs:Array Keyed)(lo hi:Nat):Prop:=∀i j,lo<=i->i<=j->j<hi->le r (gt xs j) (gt xs i)
def gK(hj:j<=xs.size)(k:Nat):gt (mirror xs i j ((j-i)/2)) k=if i<=k/\k<j then gt xs (i+j-1-k) else gt xs k:=by
 unfold gt
 rw[getElem?_mirror_all hj k]
 split<;>rfl
def jN(hs:f9<xs.size)(hd:d<=f9)(k:Nat):gt (bubble xs f9 d) k=if k=f9-d then gt xs f9 else if f9-d<k/\k<=f9 then gt xs (k-1) else gt xs k:=by
 unfold gt
 rw[getElem?_bubble hs d hd k]
 split
 .rfl
 .split<;>rfl
structure At(zt ai:SortSt)(lo hi:Nat):Prop where
 a:Ar zt ai
 o:∀i,i<lo\/hi<=i->gt (arrOf ai) i=gt (arrOf zt) i
theorem At.rfl'{zt:SortSt}{lo hi:Nat}:At zt zt lo hi:=⟨.rfl',λ_ _=>rfl⟩
theorem At.trans{zt ai Lw:SortSt}{lo hi:Nat}(h:At zt ai lo hi)(h':At ai Lw lo hi):At zt Lw lo hi:=
 ⟨⟨h'.a.k.trans h.a.k,h'.a.a.trans h.a.a,h'.a.p.trans h.a.p,h'.a.f.trans h.a.f⟩,λi hi=>(h'.o i hi).trans (h.o i hi)⟩
theorem At.mirror{zt:SortSt}{lo hi i j:Nat}(hj:j<=(arrOf zt).size)(h1:lo<=i)(h2:j<=hi):At zt (setArr zt (mirror (arrOf zt) i j ((j-i)/2))) lo hi:=
 ⟨(Ar.rfl').set (mirror_perm _ _ _ _),λk hk=>by
  show gt (PyProof.Rows.mirror (arrOf zt) i j ((j-i)/2)) k=_
  rw[gK hj,Xs (by lia)]⟩
theorem At.bubble{zt:SortSt}{lo hi f9 d:Nat}(hs:f9<(arrOf zt).size)(hd:d<=f9)(h1:lo<=f9-d)(h2:f9<hi):At zt (setArr zt (bubble (arrOf zt) f9 d)) lo hi:=
 ⟨(Ar.rfl').set (bubble_perm _ _ _),λk hk=>by
  show gt (PyProof.Rows.bubble (arrOf zt) f9 d) k=_
  rw[jN hs hd,Xs (by lia),Xs (by lia)]⟩
section
variable {prog:Program}{w:World}{A:Around}{E:Value->Shared->Prop}{s:Shared}{κ:SortKind}{P:Keyed->Prop}{r:Keyed->Keyed->Bool}
def jO{i j:Nat}{zt:SortSt}{Q:Option Bool->SortSt->Prop}(L:kL prog w A E s κ P r)(hk:kindOf zt=κ)(hp:∀x∈arrOf zt,P x)(hi:i<(arrOf zt).size)(hj:j<(arrOf zt).size)(q:Q (some (r (gt (arrOf zt) i) (gt (arrOf zt) j))) zt):wpS (model prog w) A E s (ltAt' i j) Q zt:=by
 rw[h_ hi,h_ hj]at q
 rw[ltAt'_eq]
 exact wpS_bind (wpS_get (wpS_bind (bB hi (wpS_bind (bB hj (L _ _ _ _ (hp _ (XO _)) (hp _ (XO _)) hk q))))))
def pH{lo n ok:Nat}{zt:SortSt}{Q:Bool->SortSt->Prop}(L:kL prog w A E s κ P r)(O:Ord r)(hk:kindOf zt=κ)(hp:∀x∈arrOf zt,P x)(hz:lo+n<=(arrOf zt).size)(aW:ok<=n)(hs:So r (arrOf zt) lo (lo+ok))(q:∀ai,At zt ai lo (lo+n)->So r (arrOf ai) lo (lo+n)->Q true ai):wpS (model prog w) A E s (binarySort' lo n ok) Q zt:=by
 rw[binarySort'_eq]
 refine wpS_bind (wpS_mono (wpS_forRange (I:=λk c ai=>c=(none,())/\At zt ai lo (lo+n)/\So r (arrOf ai) lo (lo+min k n)) (Q:=λc ai=>c=(none,())/\At zt ai lo (lo+n)/\So r (arrOf ai) lo (lo+n)) ?_ ?_ ⟨rfl,.rfl',λi j h1 h2 h3=>?_⟩) ?_)
 .rintro k c fG k1 k2 ⟨rfl,a1,s1⟩
  rw[show min k n=k by lia]at s1
  have hsz:=a1.a.size
  refine wpS_bind (wpS_mono (wpS_forRange (I:=λx c ai=>ai=fG/\∃l u,c=(none,l,u)/\l<=u/\u<=k/\u-l<=k-x/\(∀i,i<l->le r (gt (arrOf fG) (lo+i)) (gt (arrOf fG) (lo+k)))/\(∀i,u<=i->i<k->le r (gt (arrOf fG) (lo+k)) (gt (arrOf fG) (lo+i))))
   (Q:=λc ai=>ai=fG/\∃l u,c=(none,l,u)/\l<=k/\(∀i,i<l->le r (gt (arrOf fG) (lo+i)) (gt (arrOf fG) (lo+k)))/\(∀i,l<=i->i<k->le r (gt (arrOf fG) (lo+k)) (gt (arrOf fG) (lo+i)))) ?_ ?_ ⟨rfl,0,k,rfl,by lia,by lia,by lia,λi h=>by lia,λi h1 h2=>by lia⟩) ?_)
  .rintro x c cJ _ hx ⟨rfl,l,u,rfl,z1,z2,z3,z4,z5⟩
   dsimp only
   refine fZ (λhl=>?_) (λhl=>?_)
   .exact wpS_pure ⟨rfl,l,u,rfl,by lia,z4,λi h1 h2=>z5 i (by lia) h2⟩
   .refine wpS_bind (jO L (a1.a.k.trans hk) (a1.a.all hp) (by lia) (by lia) ?_)
    cases e:r (gt (arrOf cJ) (lo+k)) (gt (arrOf cJ) (lo+(l+u)/2))with
    |true=>exact wpS_pure ⟨rfl,l,_,rfl,by lia,by lia,by lia,z4,λi h1 h2=>O.trans (O.of_lt e) (s1 _ _ (by lia) (by lia) (by lia))⟩
    |false=>exact wpS_pure ⟨rfl,_,u,rfl,by lia,z2,by lia,λi h=>O.trans (s1 (lo+i) (lo+(l+u)/2) (by lia) (by lia) (by lia)) e,z5⟩
  .rintro c cJ ⟨rfl,l,u,rfl,z1,z2,z3,z4,z5⟩
   exact⟨rfl,l,u,rfl,by lia,z4,λi h1 h2=>z5 i (by lia) h2⟩
  .rintro c cJ ⟨rfl,l,u,rfl,z1,z4,z5⟩
   dsimp only
   rw[moveDown'_eq]
   refine wpS_bind (wpS_modify (wpS_pure ⟨rfl,a1.trans (At.bubble (by lia) (by lia) (by lia) (by lia)),?_⟩))
   rw[show min (k+1) n=k+1 by lia]
   have GV:lo+k<(arrOf cJ).size :=by lia
   intro i j h1 h2 h3
   show le r (gt (bubble (arrOf cJ) (lo+k) (lo+k-(lo+l))) i) (gt (bubble (arrOf cJ) (lo+k) (lo+k-(lo+l))) j)
   have a4:∀i,lo<=i->i<lo+l->le r (gt (arrOf cJ) i) (gt (arrOf cJ) (lo+k)):=λi h h'=>by
    have:=z4 (i-lo) (by lia)
    rwa [show lo+(i-lo)=i by lia]at this
   have a5:∀i,lo+l<=i->i<lo+k->le r (gt (arrOf cJ) (lo+k)) (gt (arrOf cJ) i):=λi h h'=>by
    have:=z5 (i-lo) (by lia) (by lia)
    rwa [show lo+(i-lo)=i by lia]at this
   rw[jN GV (by lia),jN GV (by lia),show lo+k-(lo+k-(lo+l))=lo+l by lia]
   repeat' split
   all_goals first
    |(exfalso;lia)
    |exact O.refl _
    |exact a4 _ (by lia) (by lia)
    |exact a5 _ (by lia) (by lia)
    |exact s1 _ _ (by lia) (by lia) (by lia)
 .rintro c ai ⟨hc,a1,s1⟩
  rw[show min (max (max ok 1) n) n=n by lia]at s1
  exact⟨hc,a1,s1⟩
 .by_cases e:ok=0
  .rw[show i=j by lia];exact O.refl _
  .exact hs i j h1 h2 (by lia)
 .rintro c fG ⟨rfl,a1,s1⟩
  exact wpS_pure (q fG a1 s1)
def So.one(O:Ord r)(xs:Array Keyed)(lo:Nat):So r xs lo (lo+1):=λi j h1 h2 h3=>by rw[show i=j by lia];exact O.refl _
def De.one(O:Ord r)(xs:Array Keyed)(lo:Nat):De r xs lo (lo+1):=λi j h1 h2 h3=>by rw[show i=j by lia];exact O.refl _
def So.more(O:Ord r){xs:Array Keyed}{lo n:Nat}(h:So r xs lo (lo+n))(h1:1<=n)(hl:le r (gt xs (lo+n-1)) (gt xs (lo+n))):So r xs lo (lo+(n+1)):=λi j g1 g2 g3=>by
 rcases X0 j (lo+n)with z|z
 .exact h i j g1 g2 z
 .have e:j=lo+n:=by lia
  subst e
  rcases X0 i (lo+n)with y|y
  .exact O.trans (h i (lo+n-1) g1 (by lia) (by lia)) hl
  .rw[show i=lo+n by lia];exact O.refl _
def De.more(O:Ord r){xs:Array Keyed}{lo n:Nat}(h:De r xs lo (lo+n))(h1:1<=n)(hl:le r (gt xs (lo+n)) (gt xs (lo+n-1))):De r xs lo (lo+(n+1)):=λi j g1 g2 g3=>by
 rcases X0 j (lo+n)with z|z
 .exact h i j g1 g2 z
 .have e:j=lo+n:=by lia
  subst e
  rcases X0 i (lo+n)with y|y
  .exact O.trans hl (h i (lo+n-1) g1 (by lia) (by lia))
  .rw[show i=lo+n by lia];exact O.refl _
def Eqv(r:Keyed->Keyed->Bool)(xs ys:Array Keyed):Prop:=∀k,le r (gt xs k) (gt ys k)/\le r (gt ys k) (gt xs k)
def iD(O:Ord r){xs:Array Keyed}{i j:Nat}(hj:j<=xs.size)(h:∀k,i<=k->k<j->le r (gt xs k) (gt xs (j-1))/\le r (gt xs (j-1)) (gt xs k)):Eqv r (mirror xs i j ((j-i)/2)) xs:=λk=>by
 rw[gK hj]
 split
 .rename_i z
  have h1:=h (i+j-1-k) (by lia) (by lia)
  have h2:=h k z.1 z.2
  exact⟨O.trans h1.1 h2.2,O.trans h2.1 h1.2⟩
 .exact⟨O.refl _,O.refl _⟩
def De.eqv(O:Ord r){xs ys:Array Keyed}{lo hi:Nat}(h:De r xs lo hi)(e:Eqv r ys xs):De r ys lo hi:=λi j h1 h2 h3=>O.trans (e j).1 (O.trans (h i j h1 h2 h3) (e i).2)
def De.turn{xs:Array Keyed}{lo n:Nat}(h:De r xs lo (lo+n))(hz:lo+n<=xs.size):So r (mirror xs lo (lo+n) ((lo+n-lo)/2)) lo (lo+n):=λi j h1 h2 h3=>by
 rw[gK hz,gK hz,Xl (by lia),Xl (by lia)]
 exact h _ _ (by lia) (by lia) (by lia)
def yW{α:Type}{x:SM α}{zt:SortSt}{Q:α->SortSt->Prop}{T:SortSt->Prop}(C:SortSt->Prop)(main:(∀s',C s'->T s')->wpS (model prog w) A E s x Q zt)(h:∀s',C s'->T s'):wpS (model prog w) A E s x Q zt:=main h
def tN{lo e_:Nat}{zt:SortSt}{Q:Option Nat->SortSt->Prop}(L:kL prog w A E s κ P r)(O:Ord r)(hk:kindOf zt=κ)(hp:∀x∈arrOf zt,P x)(hz:lo+e_<=(arrOf zt).size)(h1:1<=e_)(q:∀n ai,1<=n->n<=e_->At zt ai lo (lo+e_)->So r (arrOf ai) lo (lo+n)->Q (some n) ai):wpS (model prog w) A E s (countRun' lo e_) Q zt:=by
 rw[countRun'_eq]
 refine wpS_bind (wpS_mono (wpS_forRange (I:=λi c ai=>ai=zt/\∃n,c=(none,n)/\1<=n/\n=i/\n<=e_/\So r (arrOf zt) lo (lo+n))
  (Q:=λc ai=>ai=zt/\∃n,c=(none,n)/\1<=n/\n<=e_/\So r (arrOf zt) lo (lo+n)/\(n=e_\/r (gt (arrOf zt) (lo+n)) (gt (arrOf zt) (lo+n-1))=true)) ?_ ?_ ⟨rfl,1,rfl,by lia,by lia,h1,.one O _ _⟩) ?_)
 .rintro i c fG i1 i2 ⟨rfl,n,rfl,n1,n2,n3,s1⟩
  dsimp only
  refine wpS_bind (jO L hk hp (by lia) (by lia) ?_)
  cases e:r (gt (arrOf fG) (lo+n)) (gt (arrOf fG) (lo+n-1))with
  |true=>exact wpS_pure ⟨rfl,n,rfl,n1,n3,s1,.inr e⟩
  |false=>exact wpS_pure ⟨rfl,n+1,rfl,by lia,by lia,by lia,s1.more O n1 e⟩
 .rintro c fG ⟨rfl,n,rfl,n1,n2,n3,s1⟩
  exact⟨rfl,n,rfl,n1,n3,s1,.inl (by lia)⟩
 rintro c fG ⟨rfl,n,rfl,n1,n2,s1,P0⟩
 dsimp only
 refine fZ (λe1=>?_) (λe1=>?_)
 .exact wpS_pure (q n _ n1 n2 .rfl' s1)
 have qk:n<e_:=by have:=bne e1;lia
 have bZ:=P0.resolve_left (by lia)
 apply yW (λs'=>At fG s' lo (lo+e_)/\De r (arrOf s') lo (lo+(n+1)))
 .intro shared
  refine fZ (λGW=>?_) (λGW=>?_)
  rotate_left
  .have e:n=1:=by lia
   have d:De r (arrOf fG) lo (lo+(n+1)):=by
    subst e
    exact(De.one O _ _).more O (by lia) (O.of_lt bZ)
   apply shared fG ⟨.rfl',d⟩
  .refine wpS_bind (jO L hk hp (by lia) (by lia) ?_)
   cases e:r (gt (arrOf fG) lo) (gt (arrOf fG) (lo+n-1))with
   |true=>exact wpS_pure (q n _ n1 n2 .rfl' s1)
   |false=>
    dsimp only
    rw[Xs W2]
    refine wpS_bind (uI ?_)
    have all:∀k,lo<=k->k<lo+n->le r (gt (arrOf fG) k) (gt (arrOf fG) (lo+n-1))/\le r (gt (arrOf fG) (lo+n-1)) (gt (arrOf fG) k):=λk k1 k2=>⟨s1 k _ k1 (by lia) (by lia),O.trans e (s1 lo k (W9 _) k1 k2)⟩
    have d0:De r (arrOf fG) lo (lo+n):=λi j g1 g2 g3=>O.trans (all j (by lia) g3).1 (all i g1 (by lia)).2
    exact shared _ ⟨At.mirror (by lia) (W9 _) (by lia),(d0.more O n1 (O.of_lt bZ)).eqv O (iD O (by lia) all)⟩
 rintro s' ⟨a0,d0⟩
 have z0:=a0.a.size
 refine wpS_bind (wpS_lift (Y5 ⟨rfl,?_⟩))
 refine wpS_bind (wpS_mono (wpS_forRange (I:=λi c ai=>At fG ai lo (lo+e_)/\∃n' z,c=(none,n',z)/\2<=n'/\n'=i/\n'<=e_/\z+1<=n'/\De r (arrOf ai) lo (lo+n')/\∀k,lo+n'-(z+1)<=k->k<lo+n'->le r (gt (arrOf ai) k) (gt (arrOf ai) (lo+n'-1))/\le r (gt (arrOf ai) (lo+n'-1)) (gt (arrOf ai) k))
  (Q:=λc ai=>At fG ai lo (lo+e_)/\∃n' z,c=(none,n',z)/\2<=n'/\n'<=e_/\z+1<=n'/\De r (arrOf ai) lo (lo+n')/\∀k,lo+n'-(z+1)<=k->k<lo+n'->le r (gt (arrOf ai) k) (gt (arrOf ai) (lo+n'-1))/\le r (gt (arrOf ai) (lo+n'-1)) (gt (arrOf ai) k)) ?_ ?_ ⟨a0,n+1,0,rfl,by lia,by lia,by lia,by lia,d0,λk k1 k2=>?_⟩) ?_)
 .rintro i c cJ i1 i2 ⟨a2,n',z,rfl,m1,m2,m3,m4,d2,eq2⟩
  have Pp:=a2.a.size
  dsimp only
  refine wpS_bind (jO L (a2.a.k.trans hk) (a2.a.all hp) (by lia) (by lia) ?_)
  cases e:r (gt (arrOf cJ) (lo+n')) (gt (arrOf cJ) (lo+n'-1))with
  |true=>
   dsimp only
   rw[Xl rfl]
   have d3:=d2.more O (by lia) (O.of_lt e)
   split
   .refine wpS_bind (uI (wpS_pure ⟨a2.trans (At.mirror (by lia) (by lia) (by lia)),n'+1,0,rfl,by lia,by lia,by lia,by lia,d3.eqv O (iD O (by lia) eq2),λk k1 k2=>?_⟩))
    rw[show k=lo+(n'+1)-1 by lia]
    exact⟨O.refl _,O.refl _⟩
   .refine wpS_pure ⟨a2,n'+1,0,rfl,by lia,by lia,by lia,by lia,d3,λk k1 k2=>?_⟩
    rw[show k=lo+(n'+1)-1 by lia]
    exact⟨O.refl _,O.refl _⟩
  |false=>
   dsimp only
   rw[Xs W2]
   refine wpS_bind (jO L (a2.a.k.trans hk) (a2.a.all hp) (by lia) (by lia) ?_)
   cases e':r (gt (arrOf cJ) (lo+n'-1)) (gt (arrOf cJ) (lo+n'))with
   |true=>exact wpS_pure ⟨a2,n',z,rfl,m1,m3,m4,d2,eq2⟩
   |false=>
    refine wpS_pure ⟨a2,n'+1,z+1,rfl,by lia,by lia,by lia,by lia,d2.more O (by lia) e',λk k1 k2=>?_⟩
    rw[show lo+(n'+1)-1=lo+n' by lia]
    rcases X0 k (lo+n')with y|y
    .have:=eq2 k (by lia) y
     exact⟨O.trans this.1 e,O.trans e' this.2⟩
    .rw[show k=lo+n' by lia]
     exact⟨O.refl _,O.refl _⟩
 .rintro c cJ ⟨a2,n',z,rfl,m1,m2,m3,m4,d2,eq2⟩
  exact⟨a2,n',z,rfl,m1,m3,m4,d2,eq2⟩
 .rw[show k=lo+(n+1)-1 by lia]
  exact⟨O.refl _,O.refl _⟩
 rintro c kE ⟨a3,n',z,rfl,m1,m2,m4,d3,eq3⟩
 have WD:=a3.a.size
 dsimp only
 apply yW (λs'=>At fG s' lo (lo+e_)/\De r (arrOf s') lo (lo+n'))
 .intro shared
  refine fZ (λLx=>?_) (λLx=>?_)
  rotate_left
  .apply shared kE ⟨a3,d3⟩
  .refine wpS_bind (uI ?_)
   exact shared _ ⟨a3.trans (At.mirror (by lia) (by lia) (by lia)),d3.eqv O (iD O (by lia) eq3)⟩
 rintro s4 ⟨a4,d4⟩
 have WE:=a4.a.size
 refine wpS_bind (uI ?_)
 have a5:=a4.trans (At.mirror (i:=lo) (j:=lo+n') (by lia) (W9 _) (show lo+n'<=lo+e_ by lia))
 have s5:=d4.turn (by lia)
 refine wpS_bind (wpS_mono (wpS_forRange (I:=λi c ai=>At fG ai lo (lo+e_)/\∃m,c=(none,m)/\1<=m/\m=i/\m<=e_/\So r (arrOf ai) lo (lo+m))
  (Q:=λc ai=>At fG ai lo (lo+e_)/\∃m,c=(none,m)/\1<=m/\m<=e_/\So r (arrOf ai) lo (lo+m)) ?_ (λc ai ⟨y,m,y1,y2,_,y3,y4⟩=>⟨y,m,y1,y2,y3,y4⟩) ⟨a5,n',rfl,by lia,rfl,m2,s5⟩) ?_)
 .rintro i c wk i1 i2 ⟨a5,m,rfl,y1,y2,y3,y4⟩
  have WG:=a5.a.size
  dsimp only
  refine wpS_bind (jO L (a5.a.k.trans hk) (a5.a.all hp) (by lia) (by lia) ?_)
  cases e:r (gt (arrOf wk) (lo+m)) (gt (arrOf wk) (lo+m-1))with
  |true=>exact wpS_pure ⟨a5,m,rfl,y1,y3,y4⟩
  |false=>exact wpS_pure ⟨a5,m+1,rfl,by lia,by lia,by lia,y4.more O y1 e⟩
 .rintro c wk ⟨a5,m,rfl,y1,y3,y4⟩
  exact wpS_pure (q m wk y1 y3 a5 y4)
end
def pI(xs:Array Keyed)(i:Nat):gt xs i=xs.toList[i]?.getD (.none,.none):=by unfold gt;rw[XQ]
section
variable {r:Keyed->Keyed->Bool}{prog:Program}{w:World}{A:Around}{E:Value->Shared->Prop}{s:Shared}{κ:SortKind}{P:Keyed->Prop}
def rh{xs:Array Keyed}{lo n:Nat}(h:So r xs lo (lo+n))(hz:lo+n<=xs.size):(sg xs lo n).Pairwise (le r):=by
 rw[Yr]
 intro i j hi hj GI
 rw[dR hz]at hi hj
 have e1:=fK (arr:=xs) hi hz
 have e2:=fK (arr:=xs) hj hz
 rw[WW (by rw[dR hz];lia)]at e1 e2
 rw[Xn e1,Xn e2,<-h_,<-h_]
 exact h _ _ (by lia) (by lia) (by lia)
def GX{ms:List Keyed}{o:Nat}{a:Array Keyed}(h:o+ms.length<=a.size)(i:Nat):gt (ms.zipIdx.foldl (λa (p:Keyed×Nat)=>a.setIfInBounds (o+p.2) p.1) a) i=if i<o then gt a i else if h:i-o<ms.length then ms[i-o] else gt a i:=by
 rw[pI,pF ms o 0 a (by lia),aba]
 have ht:(a.toList.take o).length =o:=by rw[X3,Xt];lia
 by_cases h1:i<o
 .rw[Xl h1,Xw,XI (by lia),Zo,Xl h1,pI]
 .rw[Xs h1,Xw,XN (by lia),ht]
  by_cases h2:i-o<ms.length
  .rw[dif_pos h2,XI h2,WW h2]
   rfl
  .rw[dif_neg h2,XN (by lia),aaU,pI]
   congr 2
   lia
def wN{i sa na pw sb nb Jx:Nat}{zt:SortSt}{Q:Bool->SortSt->Prop}(L:kL prog w A E s κ P r)(O:Ord r)(hk:kindOf zt=κ)(hp:∀x∈arrOf zt,P x)(hf:failedOf zt=none)(e1:(pendingOf zt)[i]?=some (sa,na,pw))(e2:(pendingOf zt)[i+1]?=some (sb,nb,Jx))(UO:sb=sa+na)(h1:1<=na)(h2:1<=nb)(hz:sb+nb<=(arrOf zt).size)
  (Ly:So r (arrOf zt) sa sb) (Lz:So r (arrOf zt) sb (sb+nb))
  (q:∀ai,kindOf ai=κ->(arrOf ai).Perm (arrOf zt)->failedOf ai=none->pendingOf ai=((pendingOf zt).setIfInBounds i (sa,na+nb,pw)).eraseIdxIfInBounds (i+1)->(∀i,i<sa\/sb+nb<=i->gt (arrOf ai) i=gt (arrOf zt) i)->So r (arrOf ai) sa (sb+nb)->Q true ai):wpS (model prog w) A E s (mergeAt' i) Q zt:=by
 have P4:So r (arrOf zt) sa (sa+na):=by rw[<-UO];exact Ly
 have UP:=rh P4 (by lia)
 have UQ:=rh Lz hz
 have LA:sb<(arrOf zt).size :=by lia
 have b0:∀j,sb<=j->j<sb+nb->le r (arrOf zt)[sb] (gt (arrOf zt) j):=λj j1 j2=>by
  rw[<-h_ LA];exact Lz sb j (W9 _) j1 j2
 have whole:(∀x,sa<=x->x<sb->∀y,sb<=y->y<sb+nb->le r (gt (arrOf zt) x) (gt (arrOf zt) y))->So r (arrOf zt) sa (sb+nb):=λh x y x1 x2 x3=>by
  rcases X0 y sb with z|z
  .exact Ly x y x1 x2 z
  .rcases X0 x sb with z'|z'
   .exact h x x1 z' y z x3
   .exact Lz x y z' x2 x3
 have Sj:∀{c:Nat},c<na->∃h,(sg (arrOf zt) sa na)[c]'h=gt (arrOf zt) (sa+c):=λ{c} hc=>by
  have hl:c<(sg (arrOf zt) sa na).length :=by rw[dR (by lia)];exact hc
  refine⟨hl,?_⟩
  have e:=fK (arr:=arrOf zt) hc (show sa+na<=(arrOf zt).size by lia)
  rw[WW hl]at e
  rw[Xn e,<-h_]
 have Sl:∀{c:Nat},c<nb->∃h,(sg (arrOf zt) sb nb)[c]'h=gt (arrOf zt) (sb+c):=λ{c} hc=>by
  have hl:c<(sg (arrOf zt) sb nb).length :=by rw[dR hz];exact hc
  refine⟨hl,?_⟩
  have e:=fK (arr:=arrOf zt) hc hz
  rw[WW hl]at e
  rw[Xn e,<-h_]
 rw[qZ]
 refine wpS_bind (wpS_get ?_)
 rw[e1,e2]
 dsimp only
 refine wpS_bind (Cf (wpS_bind (bB LA (wpS_bind (c7 L O hk (hp _ (XO _)) hp (by lia) (by lia) UP λk GR g1 g2=>?_)))))
 dsimp only
 have GY:∀j,sa<=j->j<sa+k->le r (gt (arrOf zt) j) (arrOf zt)[sb]:=λj j1 j2=>by
  obtain⟨hl,e⟩:=Sj (show j-sa<na by lia)
  have:=g1 ((sg (arrOf zt) sa na)[j-sa]) (by rw[ZX];exact⟨j-sa,by rw[dR (by lia)];lia,rfl⟩)
  rw[e,show sa+(j-sa)=j by lia]at this
  unfold tK at this
  simpa[le]using this
 have Sn:∀j,sa+k<=j->j<sb->le r (arrOf zt)[sb] (gt (arrOf zt) j):=λj j1 j2=>by
  obtain⟨hl,e⟩:=Sj (show j-sa<na by lia)
  have:=g2 ((sg (arrOf zt) sa na)[j-sa]) (by rw[ZY];exact⟨j-sa-k,by lia,by congr 1;lia⟩)
  rw[e,show sa+(j-sa)=j by lia]at this
  unfold tK at this
  have h':r (arrOf zt)[sb] (gt (arrOf zt) j)=true:=by simpa using this
  exact O.of_lt h'
 by_cases c1:(na-k==0)=true
 .rw[Xl c1]
  have Br:k=na:=by
   have:na-k=0:=by simpa using c1
   lia
  exact wpS_pure (q _ hk (ZL _) hf rfl (λ_ _=>rfl) (whole λx x1 x2 y y1 y2=>O.trans (GY x x1 (by lia)) (b0 y y1 y2)))
 rw[Xs c1]
 have Br:k<na:=by have:=bne c1;lia
 have Sr:sa+k+(na-k)-1<(arrOf zt).size :=by lia
 refine wpS_bind (bB Sr (wpS_bind (c7 L O hk (hp _ (XO _)) hp (by lia) (by lia) UQ λmT UR g3 g4=>?_)))
 dsimp only
 have ze:(arrOf zt)[sa+k+(na-k)-1]=gt (arrOf zt) (sb-1):=by rw[<-h_ Sr];congr 1;lia
 rw[ze]at g3 g4
 have LB:∀j,sa<=j->j<sb->le r (gt (arrOf zt) j) (gt (arrOf zt) (sb-1)):=λj j1 j2=>Ly j (sb-1) j1 (by lia) (by lia)
 have LC:∀j,sb<=j->j<sb+mT->le r (gt (arrOf zt) j) (gt (arrOf zt) (sb-1)):=λj j1 j2=>by
  obtain⟨hl,e⟩:=Sl (show j-sb<nb by lia)
  have:=g3 ((sg (arrOf zt) sb nb)[j-sb]) (by rw[ZX];exact⟨j-sb,by rw[dR hz];lia,rfl⟩)
  rw[e,show sb+(j-sb)=j by lia]at this
  exact O.of_lt this
 have Ss:∀j,sb+mT<=j->j<sb+nb->le r (gt (arrOf zt) (sb-1)) (gt (arrOf zt) j):=λj j1 j2=>by
  obtain⟨hl,e⟩:=Sl (show j-sb<nb by lia)
  have:=g4 ((sg (arrOf zt) sb nb)[j-sb]) (by rw[ZY];exact⟨j-sb-mT,by lia,by congr 1;lia⟩)
  rw[e,show sb+(j-sb)=j by lia]at this
  exact this
 by_cases c2:(mT==0)=true
 .rw[Xl c2]
  have ES:mT=0:=by simpa using c2
  exact wpS_pure (q _ hk (ZL _) hf rfl (λ_ _=>rfl) (whole λx x1 x2 y y1 y2=>O.trans (LB x x1 x2) (Ss y (by lia) y2)))
 rw[Xs c2]
 have ES:1<=mT:=by have:=bne c2;lia
 have hx:∀x∈(arrOf zt).extract (sa+k) sb,P x:=λx hx=>hp x (uJ hx)
 have hy:∀x∈(arrOf zt).extract sb (sb+mT),P x:=λx hx=>hp x (uJ hx)
 have sx:((arrOf zt).extract (sa+k) sb).size =na-k:=by rw[aaV];lia
 have sy:((arrOf zt).extract sb (sb+mT)).size =mT:=by rw[aaV];lia
 have lx:((arrOf zt).extract (sa+k) sb).toList =sg (arrOf zt) (sa+k) (na-k):=by
  have:=dS (arrOf zt) (sa+k) (na-k)
  rwa [show sa+k+(na-k)=sb by lia]at this
 have ly:((arrOf zt).extract sb (sb+mT)).toList =sg (arrOf zt) sb mT:=dS _ _ _
 have px:((arrOf zt).extract (sa+k) sb).toList.Pairwise (le r):=by
  rw[lx]
  exact rh (λx y x1 x2 x3=>Ly x y (by lia) x2 (by lia)) (by lia)
 have py:((arrOf zt).extract sb (sb+mT)).toList.Pairwise (le r):=by
  rw[ly]
  exact rh (λx y x1 x2 x3=>Lz x y x1 x2 (by lia)) (by lia)
 have mem:∀{x:Keyed}{o m:Nat},o+m<=(arrOf zt).size ->x∈sg (arrOf zt) o m->∃j,o<=j/\j<o+m/\x=gt (arrOf zt) j:=λ{x o m} P7 hx=>by
  obtain⟨t,ht,rfl⟩:=YR hx
  rw[dR P7]at ht
  refine⟨o+t,by lia,by lia,?_⟩
  have e:=fK (arr:=arrOf zt) ht P7
  rw[WW (by rw[dR P7];lia)]at e
  rw[Xn e,<-h_]
 have first:∀y∈((arrOf zt).extract (sa+k) sb).toList,le r (((arrOf zt).extract sb (sb+mT))[0]'(by lia)) y:=λy hy=>by
  rw[lx]at hy
  obtain⟨j,j1,j2,rfl⟩:=mem (by lia) hy
  have e:((arrOf zt).extract sb (sb+mT))[0]'(by lia)=(arrOf zt)[sb]:=by rw[Array.getElem_extract];rfl
  rw[e]
  exact Sn j j1 (by lia)
 have final:∀y∈((arrOf zt).extract sb (sb+mT)).toList,∀x∈((arrOf zt).extract (sa+k) sb).toList.drop (((arrOf zt).extract (sa+k) sb).size-1),le r y x:=λy hy x hx=>by
  rw[ly]at hy
  obtain⟨j,j1,j2,rfl⟩:=mem (by lia) hy
  rw[sx,lx]at hx
  obtain⟨m,hm,rfl⟩:=YR hx
  rw[Zd,dR (by lia)]at hm
  rw[List.getElem_drop]
  have e:=fK (arr:=arrOf zt) (show na-k-1+m<na-k by lia) (show sa+k+(na-k)<=(arrOf zt).size by lia)
  rw[WW (by rw[dR (by lia)];lia)]at e
  rw[Xn e,<-h_,show sa+k+(na-k-1+m)=sb-1 by lia]
  exact LC j j1 j2
 have LD:∀(out:Array Keyed) (ai:SortSt),out.toList.Perm (((arrOf zt).extract (sa+k) sb).toList ++((arrOf zt).extract sb (sb+mT)).toList)->out.toList.Pairwise (le r)->Sm (setPending zt (((pendingOf zt).setIfInBounds i (sa,na+nb,pw)).eraseIdxIfInBounds (i+1))) ai->
   Q (failedOf (setArr ai (out.toList.zipIdx.foldl (λa (p,j)=>a.setIfInBounds (sa+k+j) p) (arrOf ai)))).isNone (setArr ai (out.toList.zipIdx.foldl (λa (p,j)=>a.setIfInBounds (sa+k+j) p) (arrOf ai))):=λout ai pJ wO hS=>by
  have NK:failedOf ai=none:=hS.f.trans hf
  have e4:(failedOf (setArr ai (out.toList.zipIdx.foldl (λa (p,j)=>a.setIfInBounds (sa+k+j) p) (arrOf ai)))).isNone =true:=by show(failedOf ai).isNone =true;rw[NK];rfl
  rw[e4]
  have ha:arrOf ai=arrOf zt:=hS.a
  have hl:=pJ.length_eq
  rw[W_,Xt (xs:=(arrOf zt).extract (sa+k) sb),Xt (xs:=(arrOf zt).extract sb (sb+mT)),sx,sy]at hl
  have Su:∀x∈out.toList,le r (arrOf zt)[sb] x/\le r x (gt (arrOf zt) (sb-1)):=λx hx=>by
   rcases Xk.mp (pJ.mem_iff.mp hx)with z|z
   .rw[lx]at z
    obtain⟨j,j1,j2,rfl⟩:=mem (by lia) z
    exact⟨Sn j j1 (by lia),LB j (by lia) (by lia)⟩
   .rw[ly]at z
    obtain⟨j,j1,j2,rfl⟩:=mem (by lia) z
    exact⟨b0 j j1 (by lia),LC j j1 j2⟩
  have hg:∀j,gt (arrOf (setArr ai (out.toList.zipIdx.foldl (λa (p,j)=>a.setIfInBounds (sa+k+j) p) (arrOf ai)))) j=if j<sa+k then gt (arrOf zt) j else if h:j-(sa+k)<out.toList.length then out.toList[j-(sa+k)] else gt (arrOf zt) j:=λj=>by
   show gt (out.toList.zipIdx.foldl (λa (p:Keyed×Nat)=>a.setIfInBounds (sa+k+p.2) p.1) (arrOf ai)) j=_
   rw[GX (by rw[ha];lia),ha]
  refine q _ (hS.k.trans hk) ?_ NK hS.p (λj hj=>?_) (λx y x1 x2 x3=>?_)
  .show(out.toList.zipIdx.foldl (λa (p:Keyed×Nat)=>a.setIfInBounds (sa+k+p.2) p.1) (arrOf ai)).Perm (arrOf zt)
   rw[ZO,ha,pF _ (sa+k) 0 _ (by lia)]
   have e3:(arrOf zt).toList =(arrOf zt).toList.take (sa+k+0)++(((arrOf zt).extract (sa+k) sb).toList ++((arrOf zt).extract sb (sb+mT)).toList)++(arrOf zt).toList.drop (sa+k+0+out.toList.length):=by
    have t1:=eZ (arrOf zt) (i:=sa+k) (k:=na-k)
    have t2:=eZ (arrOf zt) (i:=sb) (k:=mT)
    rw[show sa+k+(na-k)=sb by lia]at t1
    rw[aba,<-Xw,t1,t2,hl,show sa+k+(na-k+mT)=sb+mT by lia,Y0]
   refine List.Perm.trans ?_ (List.Perm.of_eq e3.symm)
   exact(pJ.append_left _).append_right _
  .rw[hg]
   split
   .rfl
   .rw[dif_neg (by lia)]
  .rw[hg,hg]
   by_cases a1:x<sa+k
   .rw[Xl a1]
    by_cases a2:y<sa+k
    .rw[Xl a2];exact Ly x y x1 x2 (by lia)
    .rw[Xs a2]
     by_cases a3:y-(sa+k)<out.toList.length
     .rw[dif_pos a3];exact O.trans (GY x x1 a1) (Su _ (YI a3)).1
     .rw[dif_neg a3];exact O.trans (GY x x1 a1) (b0 y (by lia) x3)
   .rw[Xs a1,Xs (show¬y<sa+k by lia)]
    by_cases a2:x-(sa+k)<out.toList.length
    .rw[dif_pos a2]
     by_cases a3:y-(sa+k)<out.toList.length
     .rw[dif_pos a3]
      rcases X0 x y with z|z
      .exact(Yr.mp wO) _ _ a2 a3 (by lia)
      .have:x=y:=by lia
       subst this
       exact O.refl _
     .rw[dif_neg a3];exact O.trans (Su _ (YI a2)).2 (Ss y (by lia) x3)
    .rw[dif_neg a2,dif_neg (by lia)]
     exact Lz x y (by lia) x2 x3
 by_cases c3:na-k<=mT
 .rw[Xl c3]
  exact wpS_bind (wL L O hk hx hy (by lia) (by lia) px py first final λout ai pJ wO hS=>wpS_bind (wpS_modify (wpS_bind (wpS_get (wpS_pure (LD out ai pJ wO hS))))))
 .rw[Xs c3]
  exact wpS_bind (wM L O hk hx hy (by lia) (by lia) px py first final λout ai pJ wO hS=>wpS_bind (wpS_modify (wpS_bind (wpS_get (wpS_pure (LD out ai pJ wO hS))))))
end
def pK(r:Keyed->Keyed->Bool)(xs:Array Keyed):Nat->List (Nat×Nat×Nat)->Nat->Prop
 |s,[],e=>s=e
 |s,(a,n,_)::l,e=>a=s/\1<=n/\So r xs s (s+n)/\pK r xs (s+n) l e
section
variable {r:Keyed->Keyed->Bool}{xs ys:Array Keyed}
def So.keep{lo hi:Nat}(h:So r xs lo hi)(e:∀i,lo<=i->i<hi->gt ys i=gt xs i):So r ys lo hi:=λi j h1 h2 h3=>by
 rw[e i h1 (by lia),e j (by lia) h3];exact h i j h1 h2 h3
theorem pK.snoc:∀{s:Nat}{l:List (Nat×Nat×Nat)}{e n:Nat},pK r xs s l e->1<=n->So r xs e (e+n)->pK r xs s (l++[(e,n,p)]) (e+n)
 |s,[],e,n,h,hn,hs=>by
  have h':s=e:=h
  subst h'
  exact⟨rfl,hn,hs,rfl⟩
 |s,(a,m,q)::l,e,n,⟨h1,h2,h3,h4⟩,hn,hs=>⟨h1,h2,h3,h4.snoc hn hs⟩
theorem pK.le:∀{s:Nat}{l:List (Nat×Nat×Nat)}{e:Nat},pK r xs s l e->s+l.length<=e
 |s,[],e,h=>aau h
 |s,(a,m,q)::l,e,⟨h1,h2,h3,h4⟩=>by have:=h4.le;rw[Xm];lia
theorem pK.keep:∀{s:Nat}{l:List (Nat×Nat×Nat)}{e:Nat},pK r xs s l e->(∀i,s<=i->i<e->gt ys i=gt xs i)->pK r ys s l e
 |s,[],e,h,_=>h
 |s,(a,m,q)::l,e,⟨h1,h2,h3,h4⟩,k=>⟨h1,h2,h3.keep λi i1 i2=>k i i1 (by have:=h4.le;lia),h4.keep λi i1 i2=>k i (by lia) i2⟩
theorem pK.at:∀{s:Nat}{l:List (Nat×Nat×Nat)}{e i:Nat},pK r xs s l e->i+1<l.length->∃sa na pw sb nb Jx,l[i]?=some (sa,na,pw)/\l[i+1]?=some (sb,nb,Jx)/\sb=sa+na/\1<=na/\1<=nb/\sb+nb<=e/\s<=sa/\So r xs sa sb/\So r xs sb (sb+nb)/\
   ∀ys:Array Keyed,(∀i,i<sa\/sb+nb<=i->gt ys i=gt xs i)->So r ys sa (sb+nb)->pK r ys s ((l.set i (sa,na+nb,pw)).eraseIdx (i+1)) e
 |s,[],e,i,h,hi=>by simp at hi
 |s,[x],e,i,h,hi=>by simp at hi
 |s,(a,n,p)::(b,m,q)::l,e,0,⟨h1,h2,h3,h4,h5,h6,h7⟩,_=>by
  subst h1
  subst h4
  refine⟨a,n,p,a+n,m,q,rfl,rfl,rfl,h2,h5,by have:=h7.le;lia,W9 _,h3,h6,λys k ks=>?_⟩
  refine⟨rfl,by lia,by rw[<-Nat.add_assoc];exact ks,?_⟩
  rw[<-Nat.add_assoc]
  exact h7.keep λi i1 i2=>k i (.inr i1)
 |s,(a,n,p)::y::l,e,i+1,⟨h1,h2,h3,h4⟩,hi=>by
  refine JQ (pK.at (i:=i) h4 (by simpa using hi)) λsa na pw sb nb Jx g1 g2 g3 g4 g5 g6 g7 g8 g9 LF=>⟨sa,na,pw,sb,nb,Jx,g1,g2,g3,g4,g5,g6,by lia,g8,g9,λys k ks=>?_⟩
  exact⟨h1,h2,h3.keep λi i1 i2=>k i (.inl (by lia)),LF ys k ks⟩
theorem pK.power:∀{s:Nat}{l:List (Nat×Nat×Nat)}{e i:Nat},pK r xs s l e->pK r xs s (l.modify i λx=>(x.1,x.2.1,f)) e
 |s,[],e,i,h=>by cases i<;>exact h
 |s,(a,n,p)::l,e,0,⟨h1,h2,h3,h4⟩=>⟨h1,h2,h3,h4⟩
 |s,(a,n,p)::l,e,i+1,⟨h1,h2,h3,h4⟩=>⟨h1,h2,h3,h4.power⟩
end
section
variable {prog:Program}{w:World}{A:Around}{E:Value->Shared->Prop}{s:Shared}{κ:SortKind}{P:Keyed->Prop}{r:Keyed->Keyed->Bool}
structure xH(r:Keyed->Keyed->Bool)(κ:SortKind)(a₀:Array Keyed)(zt:SortSt)(lo:Nat):Prop where
 k:kindOf zt=κ
 a:(arrOf zt).Perm a₀
 f:failedOf zt=none
 c:pK r (arrOf zt) 0 (pendingOf zt).toList lo
def xH.merge{a₀:Array Keyed}{zt:SortSt}{lo i:Nat}{Q:Bool->SortSt->Prop}(L:kL prog w A E s κ P r)(O:Ord r)(hp:∀x∈a₀,P x)(h:xH r κ a₀ zt lo)(Gr:lo<=a₀.size)(hi:i+1<(pendingOf zt).size)(q:∀ai,xH r κ a₀ ai lo->(pendingOf ai).size+1=(pendingOf zt).size ->(∀j,lo<=j->gt (arrOf ai) j=gt (arrOf zt) j)->Q true ai):wpS (model prog w) A E s (mergeAt' i) Q zt:=by
 refine JQ (h.c.at (i:=i) (by rw[Xt];exact hi)) λsa na pw sb nb Jx g1 g2 g3 g4 g5 g6 g7 g8 g9 LF=>?_
 rw[XQ]at g1 g2
 refine wN L O h.k (λx hx=>hp x (h.a.mem_iff.mp hx)) h.f g1 g2 g3 g4 g5 (by rw[h.a.size_eq];lia) g8 g9 λai k1 k2 k3 k4 k5 k6=>q ai ⟨k1,k2.trans h.a,k3,?_⟩ ?_ (λj hj=>k5 j (.inr (by lia)))
 .rw[k4,Zu,Y9]
  exact LF _ k5 k6
 .rw[k4,<-Xt,Zu,Y9,List.length_eraseIdx_of_lt (by rw[XD,Xt];exact hi),XD,Xt]
  lia
def GZ{α:Type}{x:SM α}{zt:SortSt}{Q:α->SortSt->Prop}{T:Nat->SortSt->Prop}(C:Nat->SortSt->Prop)(main:(∀n s',C n s'->T n s')->wpS (model prog w) A E s x Q zt)(h:∀n s',C n s'->T n s'):wpS (model prog w) A E s x Q zt:=main h
def tP{a₀:Array Keyed}{zt:SortSt}{Q:Unit->SortSt->Prop}(L:kL prog w A E s κ P r)(O:Ord r)(hp:∀x∈a₀,P x)(h:xH r κ a₀ zt 0)(q:∀ai,(arrOf ai).Perm a₀->failedOf ai=none->So r (arrOf ai) 0 a₀.size->Q () ai):wpS (model prog w) A E s sortRuns' Q zt:=by
 rw[sortRuns'_eq]
 refine wpS_bind (wpS_get ?_)
 dsimp only
 have hz:(arrOf zt).size =a₀.size:=h.a.size_eq
 rw[hz]
 refine wpS_bind (wpS_mono (wpS_forRange (I:=λi c ai=>∃lo,c=(none,lo)/\xH r κ a₀ ai lo/\lo<=a₀.size/\i<=lo) (Q:=λc ai=>∃lo,c=(none,lo)/\xH r κ a₀ ai lo/\lo=a₀.size) ?step ?fin ⟨0,rfl,h,Ye _,W9 _⟩) ?post)
 case fin=>
  rintro c fG ⟨lo,rfl,g0,Gr,US⟩
  exact⟨lo,rfl,g0,by lia⟩
 case step=>
  rintro i c fG _ _ ⟨lo,rfl,g0,Gr,US⟩
  dsimp only
  by_cases Sv:lo ≥ a₀.size
  .rw[Xl Sv]
   exact wpS_pure ⟨lo,rfl,g0,by lia⟩
  rw[Xs Sv]
  have Jt:(arrOf fG).size =a₀.size:=g0.a.size_eq
  refine wpS_bind (tN L O g0.k (λx hx=>hp x (g0.a.mem_iff.mp hx)) (by lia) (by lia) λn cJ GW KH a1 Jy=>?_)
  have g1:xH r κ a₀ cJ lo:=⟨a1.a.k.trans g0.k,a1.a.a.trans g0.a,a1.a.f.trans g0.f,by rw[a1.a.p];exact g0.c.keep λj _ hj=>a1.o j (.inl hj)⟩
  dsimp only
  apply GZ (λn s'=>xH r κ a₀ s' lo/\1<=n/\lo+n<=a₀.size/\So r (arrOf s') lo (lo+n))
  .intro shared
   by_cases Sw:n<minRun' a₀.size a₀.size 0
   rotate_left
   .rw[Xs Sw]
    apply shared n cJ ⟨g1,GW,by lia,Jy⟩
   .rw[Xl Sw]
    refine wpS_bind (wpS_lift (Y5 ⟨rfl,?_⟩))
    have Pp:(arrOf cJ).size =a₀.size:=g1.a.size_eq
    refine wpS_bind (pH L O g1.k (λx hx=>hp x (g1.a.mem_iff.mp hx)) (by lia) (by lia) Jy λkE a3 G0=>?_)
    rw[Xs (by decide)]
    exact shared _ kE ⟨⟨a3.a.k.trans g1.k,a3.a.a.trans g1.a,a3.a.f.trans g1.f,by rw[a3.a.p];exact g1.c.keep λj _ hj=>a3.o j (.inl hj)⟩,by lia,by lia,G0⟩
  clear GW KH a1 Jy g1
  rintro n cJ ⟨g1,GW,KH,Jy⟩
  refine wpS_bind (wpS_get ?_)
  cases hb:(pendingOf cJ).back? with
  |none=>exact wpS_bind (wpS_modify (wpS_pure ⟨_,rfl,⟨g1.k,g1.a,g1.f,by
    show pK r (arrOf cJ) 0 ((pendingOf cJ).push _).toList _
    rw[YN]
    exact g1.c.snoc GW Jy⟩,by lia,by lia⟩))
  |some x=>
   obtain⟨s1,n1,p1⟩:=x
   dsimp only
   refine wpS_bind (wpS_mono (wpS_forRange (I:=λ_ c ai=>c=(none,())/\xH r κ a₀ ai lo/\So r (arrOf ai) lo (lo+n)) (Q:=λc ai=>c=(none,())/\xH r κ a₀ ai lo/\So r (arrOf ai) lo (lo+n)) ?_ (λ_ _ z=>z) ⟨rfl,g1,Jy⟩) ?_)
   .rintro _ c kE _ _ ⟨rfl,g3,G0⟩
    refine wpS_bind (wpS_get ?_)
    by_cases hs:(pendingOf kE).size>1
    .rw[Xl hs]
     have bZ:(pendingOf kE).size-2<(pendingOf kE).size :=by lia
     rw[XE bZ]
     dsimp only
     split
     .exact wpS_pure ⟨rfl,g3,G0⟩
     .refine wpS_bind (g3.merge L O hp (by lia) (by lia) λJr g4 _ k4=>?_)
      exact wpS_pure ⟨rfl,g4,G0.keep λj j1 _=>k4 j j1⟩
    .rw[Xs hs]
     exact wpS_pure ⟨rfl,g3,G0⟩
   .rintro c kE ⟨rfl,g3,G0⟩
    exact wpS_bind (wpS_modify (wpS_bind (wpS_modify (wpS_pure ⟨_,rfl,⟨g3.k,g3.a,g3.f,by
     show pK r (arrOf kE) 0 (((pendingOf kE).modify _ _).push _).toList _
     rw[YN,Array.toList_modify]
     exact(g3.c.power).snoc GW G0⟩,by lia,by lia⟩))))
 case post=>
  rintro c fG ⟨lo,rfl,g0,Gr⟩
  dsimp only
  refine wpS_bind (wpS_mono (wpS_forRange (I:=λi c ai=>c=(none,())/\xH r κ a₀ ai lo/\((pendingOf ai).size <=1\/(pendingOf ai).size+i<=lo)) (Q:=λc ai=>c=(none,())/\xH r κ a₀ ai lo/\(pendingOf ai).size <=1) ?_ ?_ ⟨rfl,g0,.inr ?_⟩) ?_)
  .rintro j c kE _ _ ⟨rfl,g3,P0⟩
   refine wpS_bind (wpS_get ?_)
   by_cases hs:(pendingOf kE).size <=1
   .rw[Xl hs]
    exact wpS_pure ⟨rfl,g3,hs⟩
   .rw[Xs hs]
    refine wpS_bind (g3.merge L O hp (by lia) (K_ (by lia) (by lia)) λJr g4 k4 _=>?_)
    exact wpS_pure ⟨rfl,g4,.inr (by lia)⟩
  .rintro c kE ⟨hc,g3,P0⟩
   exact⟨hc,g3,by lia⟩
  .have:=g0.c.le
   rw[Xt]at this
   lia
  .rintro c kE ⟨rfl,g3,hs⟩
   refine wpS_pure (q kE g3.a g3.f ?_)
   have hc:=g3.c
   have hl:(pendingOf kE).toList.length <=1:=by rw[Xt];exact hs
   cases Jq:(pendingOf kE).toList with
   |nil=>
    rw[Jq]at hc
    have:0=lo:=hc
    intro x y _ _ h3
    lia
   |cons x l=>
    rw[Jq]at hc hl
    cases l with
    |cons _ _=>simp at hl
    |nil=>
     obtain⟨a,n,p⟩:=x
     refine xE hc λc1 c2 c3 c4=>?_
     have UT:0+n=lo:=c4
     rw[<-Gr,<-UT]
     exact c3
end
open PySem.W
theorem gn:∀u v:List Int,bF u v=true->bF v u=false
 |[],[],h=>by cases h
 |[],_::_,_=>rfl
 |_::_,[],h=>by cases h
 |n::u,m::v,h=>by
  unfold bF at h⊢
  by_cases e:n=m
  .rw[Xl e]at h
   rw[Xl e.symm]
   exact gn u v h
  .rw[Xs e]at h
   rw[Xs λz=>e z.symm]
   have:=of_decide_eq_true h
   exact decide_eq_false (by omega)
theorem je:∀u v w:List Int,bF v u=false->bF w v=false->bF w u=false
 |[],_,[],_,_=>rfl
 |[],_,_::_,_,_=>rfl
 |_::_,[],_,h,_=>by cases h
 |_::_,_::_,[],_,h=>by cases h
 |n::u,m::v,k::w,h1,h2=>by
  unfold bF at h1 h2⊢
  by_cases e1:m=n
  .rw[Xl e1]at h1
   by_cases e2:k=m
   .rw[Xl e2]at h2
    rw[Xl (e2.trans e1)]
    exact je u v w h1 h2
   .rw[Xs e2]at h2
    rw[Xs (λz=>e2 (z.trans e1.symm)),<-e1]
    exact h2
  .rw[Xs e1]at h1
   have g1:=of_decide_eq_false h1
   by_cases e2:k=m
   .rw[Xs (λz=>e1 (e2.symm.trans z))]
    exact decide_eq_false (by omega)
   .rw[Xs e2]at h2
    have g2:=of_decide_eq_false h2
    rw[Xs (by omega)]
    exact decide_eq_false (by omega)
theorem jP:∀u v:List Int,bF u v=false->bF v u=false->u=v
 |[],[],_,_=>rfl
 |[],_::_,h,_=>by cases h
 |_::_,[],_,h=>by cases h
 |n::u,m::v,h1,h2=>by
  unfold bF at h1 h2
  by_cases e:n=m
  .rw[Xl e]at h1
   rw[Xl e.symm]at h2
   rw[e,jP u v h1 h2]
  .rw[Xs e]at h1
   rw[Xs λz=>e z.symm]at h2
   have:=of_decide_eq_false h1
   have:=of_decide_eq_false h2
   omega
def yX:∀{l:List α},l.length<=1->l.Pairwise R
 |[],_=> .nil
 |[_],_=>Zp _ _
 |_::_::_,h=>absurd h (by simp)
def TupIs(h:Heap)(v:Value)(ns:List Int):Prop:=∃(x:Addr) (o:Obj) (xs:List Value) (n:Nat),v= .ref x/\h.get? x=some o/\o.cls= .type "tuple"/\o.data= .seq xs.toArray n/\IntsAre xs ns
def yY:∀{xs:List Value}{ns ms:List Int},IntsAre xs ns->IntsAre xs ms->ns=ms:=λ{xs ns ms} h=>by
 induction h generalizing ms with
 |nil=>intro h;cases h;rfl
 |cons n t r ih=>intro h;cases h with|cons m u r'=>rw[ih r']
def TupIs.one(h1:TupIs h v ns)(h2:TupIs h v ms):ns=ms:=by
 refine sF h1 λx o xs n ag a1 _ a3 a4=>?_
 try clear h1
 subst ag
 refine sF h2 λy o' ys n' e b1 _ b3 b4=>?_
 cases e
 rw[a1]at b1
 cases b1
 rw[a3]at b3
 injection b3 with b5 _
 have:xs=ys:=by simpa using b5
 subst this
 exact yY a4 b4
noncomputable def bU(h:Heap)(v:Value):List Int:=Classical.epsilon λns=>TupIs h v ns
def cP(e:TupIs h v ns):bU h v=ns:=(aao (p:=λns=>TupIs h v ns) ⟨ns,e⟩).one e
def jM.is(e:jM h v):∃ns,TupIs h v ns:=by
 exact Jk e λx o xs n i r h1 h2 h3 h4 h5=>⟨i::r,x,o,xs,n,h1,h2,h3,h4,h5⟩
noncomputable def rT(h:Heap)(x y:Keyed):Bool:=bF (bU h x.1) (bU h y.1)
def G6(h:Heap):Ord (rT h):=⟨λx y=>gn _ _,λx y z=>je _ _ _⟩
section
variable {prog:Program}{w:World}{A:Around}{E:Value->Shared->Prop}{s:Shared}
def LG:∀{xs ys:List Value}{ns ms:List Int},IntsAre xs ns->IntsAre ys ms->fin=decide (xs.length<ys.length)->Q (bF ns ms) s->∀i:Nat,(b=true\/0<i)->KatLex prog w A b fin Q (xs.zip ys) i s:=λ{xs ys ns ms} h=>by
 induction h generalizing ys ms with
 |nil=>
  intro h' hf q i _
  refine kat_nil ?_
  subst hf
  cases h' with
  |nil=>exact q
  |cons _ _ _=>simpa[bF]using q
 |cons n t r ih=>
  intro h' hf q i hi
  cases h' with
  |nil=>exact kat_nil (by rw[hf];simpa[bF]using q)
  |cons m u r'=>
   refine kat_cons (Zz ?_)
   cases e:(n==m)with
   |true=>
    have e':n=m:=by simpa using e
    unfold bF at q
    rw[Xl e']at q
    exact kat_yes (ih r' (by rw[hf];simp) q (i+1) (.inr (aaC _)))
   |false=>
    have e':¬n=m:=by simpa using e
    unfold bF at q
    rw[Xs e']at q
    refine kat_no ?_
    by_cases h0:i=0
    .subst h0
     have hb:b=true:=hi.elim id λz=>absurd z (XS _)
     subst hb
     exact oneLt_int q
    .have e:(b&&i==0)=false:=by cases b<;>simp[h0]
     rw[e]
     exact kat_one _ _ (aaM q)
def Cy:kL prog w A E s (tuples' true) (λp=>jM s.heap p.1) (rT s.heap):=λx y zt Q hx hy hk q=>by
 obtain⟨x1,x2⟩:=x
 obtain⟨y1,y2⟩:=y
 refine Jk hx λa o xs n i r ag h1 h2 h3 h4=>?_
 try clear hx
 subst ag
 refine Jk hy λb o' ys n' j r' aP g1 g2 g3 g4=>?_
 try clear hy
 subst aP
 have q':Q (some (bF (i::r) (j::r'))) zt:=by
  have e1:bU s.heap (.ref a)=i::r:=cP ⟨a,o,xs,n,rfl,h1,h2,h3,h4⟩
  have e2:bU s.heap (.ref b)=j::r':=cP ⟨b,o',ys,n',rfl,g1,g2,g3,g4⟩
  have:=q
  unfold rT at this
  dsimp only at this
  rwa [e1,e2]at this
 rw[lt'_eq]
 refine wpS_bind (wpS_get ?_)
 rw[hk]
 refine wpS_bind (wpS_lift (Zn (kat_lt (b:=true) h1 h3 g1 g3 ?_)))
 have e1:xs.toArray.toList=xs:=by simp
 have e2:ys.toArray.toList=ys:=by simp
 rw[e1,e2]
 exact LG h4 g4 (by simp) ⟨rfl,wpS_pure q'⟩ 0 (.inl rfl)
def uO(ho:s.heap.get? a=some (seqObj "list" vs.toArray n))(hv:∀v∈vs,jM s.heap v)(hz:vs.length<=sizeLine)
  (h:∀out:List Value,out.Perm vs->out.Pairwise (λx y=>bF (bU s.heap y) (bU s.heap x)=false)->R (.done (.ret .none)) {s with heap:=sortedHeap s.heap a vs out.toArray}):wpAny (model prog w) A (Builtin.«list.sort» ⟨[.ref a],[]⟩) R E s:=by
 rw[list_sort_plain]
 have bZ:a<s.heap.objs.size:=Xg ho
 have fJ:∀v∈vs,∀x,v= .ref x->x≠a:=λv m x e z=>by
  refine aq λnO=>?_
  obtain⟨x',o,xs,k,i,r,e',g1,g2,_⟩:=hv v m
  rw[e]at e'
  cases e'
  rw[z,ho]at g1
  cases g1
  refine nO ?_
  have UU:Value.type "list"=Value.type "tuple":=g2
  injection UU with g3
  exact absurd g3 (by decide)
 refine WV (listItems_at ho rfl (WV (listUpdate_at ho rfl ?_ (by rw[W8];omega) (Ye _))))
 obtain⟨e1,NL⟩:∃e1,(s.heap.update a (Obj.mapSeq λ_=>#[])).get? a=some (seqObj "list" #[] e1):=⟨_,get?_update_seq ho (λ_=>#[])⟩
 refine WV (seqEpoch_at NL rfl (WV (wpAny_newTuple (WV (aaf (XT ?_) (Ye _))) (by show vs.length<=_;omega))))
 have up:∀b o,b≠a->s.heap.get? b=some o->(((s.heap.update a (Obj.mapSeq λ_=>#[])).push (seqObj "tuple" vs.toArray 0)).push (seqObj "list" #[] 0)).get? b=some o:=λb o hb e=>
  WY _ (WY _ (by rw[Xv _ _ (XY hb)];exact e))
 have P8:(((s.heap.update a (Obj.mapSeq λ_=>#[])).push (seqObj "tuple" vs.toArray 0)).push (seqObj "list" #[] 0)).get? a=some (seqObj "list" #[] e1):=WY _ (WY _ NL)
 show wpAny (model prog w) A _ R E {s with heap:=((s.heap.update a (Obj.mapSeq λ_=>#[])).push (seqObj "tuple" vs.toArray 0)).push (seqObj "list" #[] 0)}
 generalize hh:((s.heap.update a (Obj.mapSeq λ_=>#[])).push (seqObj "tuple" vs.toArray 0)).push (seqObj "list" #[] 0)=h6 at up P8⊢
 have Sx:∀v∈vs,jM h6 v:=λv m=>by
  refine aq λnO=>?_
  obtain⟨x,o,xs,k,i,r,e',g1,g2,g3,g4⟩:=hv v m
  exact nO<|⟨x,o,xs,k,i,r,e',up x o (fJ v m x e') g1,g2,g3,g4⟩
 have same:∀v∈vs,bU h6 v=bU s.heap v:=λv m=>by
  refine aq λnO=>?_
  obtain⟨ns,x,o,xs,k,e',g1,g2,g3,g4⟩:=(hv v m).is
  refine nO ?_
  rw[cP (h:=s.heap) ⟨x,o,xs,k,e',g1,g2,g3,g4⟩]
  exact cP ⟨x,o,xs,k,e',up x o (fJ v m x e') g1,g2,g3,g4⟩
 dsimp only
 have ends:∀(zt:SortSt) (out:List Value),(arrOf zt).map (·.2)=out.toArray->out.Perm vs->out.Pairwise (λx y=>bF (bU s.heap y) (bU s.heap x)=false)->failedOf zt=none->wpAny (model prog w) A (do
   let touched:=(<-seqEpoch a) !=e1
   Builtin.List.listUpdate (.ref a) λ_=>(arrOf zt).map (·.2)
   if let some e:=failedOf zt then rule "list.sort.comparison-raised";throw e
   if touched then rule "list.sort.modified";raiseError "ValueError" "list modified during sort"
   ret .none) R E {s with heap:=h6}:=λzt out e hp wO hf=>by
  rw[e,hf]
  refine WV (seqEpoch_at P8 rfl (WV (listUpdate_at P8 rfl ?_ (Ye _) (by rw[W8,hp.length_eq];omega))))
  simp only[bne_self_eq_false,X9,if_false]
  have:=h out hp wO
  unfold sortedHeap at this
  rw[hh]at this
  exact W7 this
 by_cases h2:vs.toArray.size<2
 .rw[Xl h2,Xl h2]
  refine WV (W7 ?_)
  rw[StateT.run_pure]
  refine WV (W7 ?_)
  exact ends (SortSt.mk' general' (vs.toArray.zip vs.toArray) #[] 7 none) vs (q0 vs) (List.Perm.refl _) (yX (by rw[W8]at h2;omega)) rfl
 .rw[Xs h2,Xs h2]
  refine aq λnO=>?_
  obtain⟨fs,k1,k2,k3⟩:=ku Sx
  refine nO ?_
  have UW:2<=vs.length:=by rw[W8]at h2;omega
  refine WV (kat_kind (s:={s with heap:=h6}) (T:= .type "int") k1 (by omega) (λv m=>?_) rfl ?_)
  .obtain⟨i,t,rfl⟩:=k2 v m
   exact Looks.now
  have zm:∀p∈vs.toArray.zip vs.toArray,p.1=p.2/\p.2∈vs:=λp m=>by
   obtain⟨i,hi,e⟩:=aax.mp m
   rw[Array.getElem_zip]at e
   rw[<-e]
   exact⟨rfl,by simp⟩
  refine WV (Yo (tP (s:={s with heap:=h6}) (κ:=tuples' true) (P:=λp=>jM h6 p.1) (r:=rT h6) (a₀:=vs.toArray.zip vs.toArray) (Q:=λ_ zt=>(arrOf zt).Perm (vs.toArray.zip vs.toArray)/\failedOf zt=none/\So (rT h6) (arrOf zt) 0 (vs.toArray.zip vs.toArray).size) Cy (G6 h6) (λp m=>by rw[(zm p m).1];exact Sx _ (zm p m).2) ⟨rfl,ZL _,rfl,rfl⟩ λzt g1 g2 g3=>⟨g1,g2,g3⟩) ?_ λ_ _ e=>e)
  rintro⟨⟨⟩,zt⟩ s' ⟨rfl,g1,g2,g3⟩
  dsimp only at g1 g2 g3⊢
  refine ends zt ((arrOf zt).map (·.2)).toList aaH.symm ?_ ?_ g2
  .have:=(ZO.mp g1).map (λp:Keyed=>p.2)
   rw[ZD]
   refine this.trans (List.Perm.of_eq ?_)
   have e:=congrArg Array.toList (q0 vs)
   rw[ZD]at e
   exact e
  .have hsz:(arrOf zt).size =(vs.toArray.zip vs.toArray).size :=g1.size_eq
   have pw:=rh (xs:=arrOf zt) (lo:=0) (n:=(vs.toArray.zip vs.toArray).size) (by rw[YA];exact g3) (by omega)
   have e0:sg (arrOf zt) 0 (vs.toArray.zip vs.toArray).size =(arrOf zt).toList :=by
    unfold sg
    rw[YT]
    exact XM (by rw[Xt,hsz];exact W9 _)
   rw[e0]at pw
   rw[ZD,X7]
   refine pw.imp_of_mem λ{x y} mx my wQ=>?_
   obtain⟨x1,x2⟩:=zm x (g1.mem_iff.mp (Yy.mp mx))
   obtain⟨y1,y2⟩:=zm y (g1.mem_iff.mp (Yy.mp my))
   have:=wQ
   unfold le rT at this
   rw[x1,y1,same _ x2,same _ y2]at this
   exact this
end
abbrev EU(x y:List Int):Prop:=bF y x=false
theorem jQ(x:List Int):∀l,(wz x l).Perm (x::l)
 |[]=> .refl _
 |y::r=>by
  unfold wz
  split
  .exact((jQ x r).cons y).trans (.swap x y r)
  .exact .refl _
theorem cH:∀l,(b9 l).Perm l
 |[]=> .refl _
 |x::r=>(jQ x (b9 r)).trans ((cH r).cons x)
theorem uP(x:List Int):∀l:List (List Int),l.Pairwise EU->(wz x l).Pairwise EU
 |[],_=>Zp _ _
 |y::r,h=>by
  unfold wz
  rw[X_]at h
  split
  .rename_i Kr
   refine X_.mpr ⟨λz hz=>?_,uP x r h.2⟩
   rcases Xc.mp ((jQ x r).mem_iff.mp hz)with e|hz
   .rw[e];exact gn _ _ Kr
   .exact h.1 z hz
  .rename_i Kr
   have LH:bF y x=false:=by simpa using Kr
   refine X_.mpr ⟨λz hz=>?_,X_.mpr h⟩
   rcases Xc.mp hz with e|hz
   .rw[e];exact LH
   .exact je x y z LH (h.1 z hz)
theorem lS:∀l,(b9 l).Pairwise EU
 |[]=> .nil
 |x::r=>uP x _ (lS r)
def jf(hp:l.Perm m)(hs:l.Pairwise EU):l=b9 m:=
 (hp.trans (cH m).symm).eq_of_pairwise (λa b _ _ h1 h2=>jP a b h2 h1) hs (lS m)
end b6
namespace L2
open PySem PySem.Spec PyProof.Rows PySem.W b6
section
variable {prog:Program}{w:World}{A:Around}{E:Value->Shared->Prop}{s:Shared}{d it:Addr}{es:Array DictEntry}{ep i:Nat}
def jg(hv:jM h v)(k:∀b o,h.get? b=some o->h'.get? b=some o):bU h' v=bU h v:=by
 refine Ni hv.is λns x o xs n e g1 g2 g3 g4=>?_
 rw[cP (h:=h) ⟨x,o,xs,n,e,g1,g2,g3,g4⟩]
 exact cP ⟨x,o,xs,n,e,k x o g1,g2,g3,g4⟩
def pL(hh:A.handled=none)(lo:(d==sysModules)=false)(r:f6 s.heap d es ep)(hz:es.size<=sizeLine)(hk:∀e∈es,b6.jM s.heap e.key)
  (h:∀(h1 h':Heap) (tk c:Nat) (vs:List Value),(∀b o,s.heap.get? b=some o->h1.get? b=some o)->(∀b o,h1.get? b=some o->h'.get? b=some o)->h'.get? h1.objs.size=some {cls:= .type "list",data:= .seq vs.toArray c}->vs.Perm (es.toList.map (·.key))->vs.Pairwise (λx y=>bF (bU s.heap y) (bU s.heap x)=false)->Q (.ref h1.objs.size) {s with heap:=h',toks:=tk}):
  wpAny (model prog w) A (call (.builtin "sorted") [.ref d]) Q E s:=by
 refine Zc kind_sorted plain_sorted entry_sorted (args_sorted1 _) ?_
 unfold Builtin.«sorted»
 refine WV (m:=checkCount "sorted" 1 1 _) (W7 (WV (kdu_collect (A:=A.in1) (uL lo) hh r hz λh1 tk acc k1 it=>?_)))
 have hl:acc.toList.length=es.size:=by rw[Xt];exact it.1
 have eq:acc.toList=es.toList.map (·.key):=by
  apply Yj
  intro j
  rcases X0 j es.size with z|z
  .have hj:j<acc.toList.length:=by lia
   refine aa (it.2 j acc.toList[j] (by rw[<-XQ];exact WW hj)) λe e1 e2=>?_
   rw[WW hj,Xb,XQ,e1,e2]
   rfl
  .rw[Xr (by lia),Xr (by simpa using z)]
 have hm:∀v∈acc.toList,∃e∈es,v=e.key:=λv m=>by
  rw[eq]at m
  exact aa (Xd.mp m) λe e1 e2=>⟨e,Yy.mp e1,e2.symm⟩
 have ht:∀v∈acc.toList,jM s.heap v:=λv m=>by
  refine aa (hm v m) λe e1 ag=>?_
  subst ag
  exact hk e e1
 have kp:∀b o,s.heap.get? b=some o->(h1.push (seqObj "list" acc.toList.toArray 0)).get? b=some o:=λb o e=>WY _ (k1 b o e)
 refine WV (aaf ?_ (by rw[hl];exact hz))
 have ho:(h1.push (seqObj "list" acc.toList.toArray 0)).get? h1.objs.size=some (seqObj "list" acc.toList.toArray 0):=Xe _ rfl
 refine WV (XT (XW slot_list_sort ⟨_,ho,rfl⟩ entry_list_sort (b6.uO (s:={s with heap:=h1.push (seqObj "list" acc.toList.toArray 0),toks:=tk}) ho (λv m=>?_) (by rw[hl];exact hz) λout hp wO=>⟨_,rfl,W7 ⟨_,rfl,?_⟩⟩) (args_list_sort _)))
 .exact Jk (ht v m) λx o xs n i rr g0 g1 g2 g3 g4=>⟨x,o,xs,n,i,rr,g0,kp x o g1,g2,g3,g4⟩
 .have u1:=get?_update_seq ho (λ_=>#[])
  have u2:=WY (seqObj "tuple" acc.toList.toArray 0) u1
  have u3:=WY (seqObj "list" #[] 0) u2
  have u4:=get?_update_seq u3 (λ_=>out.toArray)
  refine h h1 _ tk _ out k1 (λb o e=>?_) u4 (by rw[<-eq];exact hp) (wO.imp_of_mem λ{x y} mx my wQ=>?_)
  .have hb:b≠h1.objs.size:=Xu (Xg e)
   unfold sortedHeap
   rw[Xv _ _ (XY hb)]
   refine WY _ (WY _ ?_)
   rw[Xv _ _ (XY hb)]
   exact WY _ e
  .have e1:=jg (ht x (hp.mem_iff.mp mx)) kp
   have e2:=jg (ht y (hp.mem_iff.mp my)) kp
   rw[<-e1,<-e2]
   exact wQ
end
def Cz(I:Inv X U σ H s)(e:Rd H a (.dT ay)):∃es ep,f6 s.heap a es ep/\es.size=ay.length/\(a==sysModules)=false/\ay.length<=sizeLine/\
  Paired (λ(kv:List cU×V) (v:Value)=>∃b,v= .ref b/\H b=some (.tup (kv.1.map kV))) ay (es.toList.map (·.key)):=by
 refine aq λnO=>?_
 obtain⟨z,lo,xs,eY,o,es,ep,h1,h2,h3,h4,h5,h6⟩:=lP I.aW e
 refine nO ?_
 have hl:es.size=ay.length:=by
  have e1:=Y3 eY
  have e2:=congrArg List.length h4
  rw[Xt,WZ]at e2
  lia
 refine⟨es,ep,⟨o,h1,h2,h3⟩,hl,lo,z,?_⟩
 rw[h4,Xz]
 have all:∀{l:List (List cU×V)}{m:List (List cU×Addr×Value)},KT H l m->Paired (λ(kv:List cU×V) (v:Value)=>∃b,v= .ref b/\H b=some (.tup (kv.1.map kV))) l (m.map ((λx:DictEntry=>x.key)∘entryOfKey (tupleKind (br X.prog X.w)))):=by
  intro l m q
  induction q with
  |nil=>exact .nil
  |@cons p q ps qs hq t ih=>exact .cons ⟨q.2.1,rfl,hq.2.1⟩ ih
 exact all eY
section
variable {X:Cx}
def dj(I:Inv X U σ H s)(h:H b=some (.tup (k.map V.int))):TupIs s.heap (.ref b) k:=by
 obtain⟨_,its,rv,o,g1,g2,⟨n,g3⟩,_⟩:=(show aZ X.prog X.w H s.heap b (.tup (k.map V.int)) from I.aW b _ h)
 exact⟨b,o,its,n,rfl,g1,g2,g3,intsAre_of rv⟩
def uQ(e:TupIs h v k)(hk:k≠[]):jM h v:=by
 refine sF e λx o xs n h1 h2 h3 h4 h5=>?_
 cases k with
 |nil=>exact absurd rfl hk
 |cons i r=>exact⟨x,o,xs,n,i,r,h1,h2,h3,h4,h5⟩
def TupAt(H:Hp)(u:V)(k:List Int):Prop:=∃b,u= .ref b/\H b=some (.tup (k.map V.int))
theorem pM(I:Inv X U σ H s):∀{vs:List Value},(∀v∈vs,∃b k,v= .ref b/\H b=some (.tup (List.map V.int k)))->∃us:List V,aL us vs/\us.length=vs.length/\Paired (TupAt H) us (vs.map (bU s.heap))
 |[],_=>⟨[],.nil,rfl,.nil⟩
 |v::vs,h=>by
  refine bJ (pM I (vs:=vs) λz hz=>h z (W4 _ hz)) λus u1 u2 u3=>ef (h v W6) λb k ag hb=>?_
  subst ag
  refine⟨.ref b::us,.cons rfl u1,by rw[Xm,Xm,u2],?_⟩
  rw[Xj,cP (dj I hb)]
  exact .cons ⟨b,rfl,hb⟩ u3
def pN(hc:X.calm=true):cX X (.builtin "sorted") (λxs H Q=>∃a ay ks,xs=[V.ref a]/\Rd H a (.dT ay)/\ay.map (·.1)=ks.map (λk:List Int=>k.map (Sum.inl:Int->cU))/\(∀k∈ks,k≠[])/\
  ∀(l:Addr) (us:List V),H l=none->Paired (TupAt H) us (b9 ks)->Q (.ref l) (upd H l (.lst us))):=by
 intro U s σ H xs us Q I r zz
 refine so zz λa ay ks e hd GV fJ q=>?_
 subst e
 refine aa (vals1 r) λu ag ru=>?_
 subst ag
 cases ru
 refine jC (Cz I hd) λes ep r1 r2 r3 r4 r5=>?_
 have pk:∀{ay:List (List cU×V)}{ks:List (List Int)}{vs:List Value},ay.map (·.1)=ks.map (λk:List Int=>k.map (Sum.inl:Int->cU))->Paired (λ(kv:List cU×V) (v:Value)=>∃b,v= .ref b/\H b=some (.tup (kv.1.map kV))) ay vs->vs.map (bU s.heap)=ks/\∀v∈vs,∃b,∃k∈ks,v= .ref b/\H b=some (.tup (List.map V.int k)):=by
  intro ay ks vs hk p
  induction p generalizing ks with
  |nil=>
   cases ks with
   |nil=>exact⟨rfl,λ_ z=>nomatch z⟩
   |cons _ _=>cases hk
  |@cons kv v ay vs hq _ ih=>
   cases ks with
   |nil=>cases hk
   |cons k ks=>
    rw[Xj,Xj]at hk
    injection hk with h1 h2
    obtain⟨i1,i2⟩:=ih h2
    refine aa hq λb aP hb=>?_
    try clear hq
    subst aP
    rw[h1,Xz]at hb
    have jE:H b=some (.tup (List.map V.int k)):=hb
    refine⟨by rw[Xj,i1,cP (dj I jE)],λw hw=>?_⟩
    rcases Xc.mp hw with e|hw
    .exact⟨b,k,W6,e,jE⟩
    .exact bu (i2 w hw) λb2 k2 m2 e2 g2=>⟨b2,k2,W4 _ m2,e2,g2⟩
 obtain⟨p1,p2⟩:=pk GV r5
 have hI:∀v∈es.toList.map (·.key),jM s.heap v:=λv m=>by
  refine bu (p2 v m) λb k mk cZ hb=>?_
  subst cZ
  exact uQ (dj I hb) (fJ k mk)
 refine pL (I.ok.hd hc) r3 r1 (by rw[r2];exact r4) (λen UX=>hI _ (Xd.mpr ⟨en,Yy.mpr UX,rfl⟩)) λh1 h' tk c vs k1 k2 e1 e2 e3=>?_
 have yZ:(vs.map (bU s.heap)).Perm ks:=by
  have:=e2.map (bU s.heap)
  rwa [p1]at this
 have G7:vs.map (bU s.heap)=b9 ks:=jf yZ (X7.mpr e3)
 have I1:Inv X U σ H {s with heap:=h1,toks:=tk}:=I.kept (t':=tk) k1
 obtain⟨us,u1,u2,u3⟩:=pM I (vs:=vs) λv m=>by
  exact bu (p2 v (e2.mem_iff.mp m)) λb k _ e hb=>⟨b,k,e,hb⟩
 rw[G7]at u3
 have a_:vs.length=es.size:=by rw[e2.length_eq];simp
 have I2:Inv X U σ (upd H h1.objs.size (.lst us)) {s with heap:=h',toks:=tk}:=by
  have:=I1.laid (a:=h1.objs.size) (o:= .lst us) (t':=tk) k2 (W9 _) (show aZ X.prog X.w _ h' _ (.lst us) from⟨by rw[u2,a_,r2];exact r4,vs,c,u1,e1⟩)
  exact this
 exact⟨.ref h1.objs.size,_,I2,rfl,q _ us (I1.aW.fresh (W9 _)) u3⟩
end
section
variable {prog:Program}{w:World}{A:Around}{E:Value->Shared->Prop}{s:Shared}
def pO(hT:T="list"\/T="tuple")(ho:s.heap.get? l=some o)(hc:o.cls= .type T)(hd:o.data= .seq vs.toArray n)(hz:vs.length<=sizeLine)(hk:∀v∈vs,jM s.heap v)
  (h:∀(h1 h':Heap) (c:Nat) (out:List Value),(∀b o,s.heap.get? b=some o->h1.get? b=some o)->(∀b o,h1.get? b=some o->h'.get? b=some o)->h'.get? h1.objs.size=some {cls:= .type "list",data:= .seq out.toArray c}->out.Perm vs->out.Pairwise (λx y=>bF (bU s.heap y) (bU s.heap x)=false)->Q (.ref h1.objs.size) {s with heap:=h'}):
  wpAny (model prog w) A (call (.builtin "sorted") [.ref l]) Q E s:=by
 refine Zc kind_sorted plain_sorted entry_sorted (args_sorted1 _) ?_
 unfold Builtin.«sorted»
 refine WV (m:=checkCount "sorted" 1 1 _) (W7 ?_)
 refine WV (wpAny_collect_seq l hT ho hc hd (λh1 k1=>?_) (by rw[W8];exact hz))
 refine WV (aaf ?_ (by simpa using hz))
 have e0:vs.toArray.toList=vs:=by simp
 rw[e0]
 have Bz:(h1.push (seqObj "list" vs.toArray 0)).get? h1.objs.size=some (seqObj "list" vs.toArray 0):=Xe _ rfl
 have kp:∀b o,s.heap.get? b=some o->(h1.push (seqObj "list" vs.toArray 0)).get? b=some o:=λb o e=>WY _ (k1 b o e)
 refine WV (XT (XW slot_list_sort ⟨_,Bz,rfl⟩ entry_list_sort (b6.uO (s:={s with heap:=h1.push (seqObj "list" vs.toArray 0)}) Bz (λv m=>?_) hz λout hp wO=>⟨_,rfl,W7 ⟨_,rfl,?_⟩⟩) (args_list_sort _)))
 .exact Jk (hk v m) λx o xs n i rr g0 g1 g2 g3 g4=>⟨x,o,xs,n,i,rr,g0,kp x o g1,g2,g3,g4⟩
 .have u1:=get?_update_seq Bz (λ_=>#[])
  have u2:=WY (seqObj "tuple" vs.toArray 0) u1
  have u3:=WY (seqObj "list" #[] 0) u2
  have u4:=get?_update_seq u3 (λ_=>out.toArray)
  refine h h1 _ _ out k1 (λb o e=>?_) u4 hp (wO.imp_of_mem λ{x y} mx my wQ=>?_)
  .have hb:b≠h1.objs.size:=Xu (Xg e)
   unfold sortedHeap
   rw[Xv _ _ (XY hb)]
   refine WY _ (WY _ ?_)
   rw[Xv _ _ (XY hb)]
   exact WY _ e
  .have e1:=jg (hk x (hp.mem_iff.mp mx)) kp
   have e2:=jg (hk y (hp.mem_iff.mp my)) kp
   rw[<-e1,<-e2]
   exact wQ
end
section
variable {X:Cx}
def wR(I:Inv X U σ H s):∀{ks:List (List Int)}{us:List V}{vs:List Value},Paired (TupAt H) us ks->aL us vs->vs.map (bU s.heap)=ks/\∀v∈vs,∃b,∃k∈ks,v= .ref b/\H b=some (.tup (List.map V.int k)):=λ{ks us vs} h=>by
 induction h generalizing vs with
 |nil=>intro r;cases r;exact⟨rfl,λ_ z=>nomatch z⟩
 |cons hq p ih=>
  intro r
  cases r with
  |cons r rs=>
   obtain⟨i1,i2⟩:=ih rs
   refine aa hq λb ag hb=>?_
   try clear hq
   subst ag
   cases r
   refine⟨by rw[Xj,i1,cP (dj I hb)],λw hw=>?_⟩
   rcases Xc.mp hw with e|hw
   .exact⟨b,_,W6,e,hb⟩
   .exact bu (i2 w hw) λb2 k2 m2 e2 g2=>⟨b2,k2,W4 _ m2,e2,g2⟩
def pP:cX X (.builtin "sorted") (λxs H Q=>∃(p:Addr) (ws:List V) (ks:List (List Int)),xs=[.ref p]/\(dq X.K H p ws\/c9 X.K H p ws)/\Paired (TupAt H) ws ks/\(∀k∈ks,k≠[])/\
  ∀(l:Addr) (us:List V),H l=none->Paired (TupAt H) us (b9 ks)->Q (.ref l) (upd H l (.lst us))):=by
 intro U s σ H xs us Q I r zz
 refine so zz λp ws ks e hq hp fJ q=>?_
 refine aq λnO=>?_
 subst e
 refine aa (vals1 r) λu ag rx=>?_
 subst ag
 cases rx
 refine nO ?_
 have go:∀(T:String) (o:Obj) (its:List Value) (n:Nat),T="list"\/T="tuple"->s.heap.get? p=some o->o.cls= .type T->o.data= .seq its.toArray n->aL ws its->its.length<=sizeLine->wpAny (model X.prog X.w) X.A (call (.builtin "sorted") [.ref p]) (EP X U σ Q) X.xe s:=λT o its n hT ho hc hd rv hz=>by
  obtain⟨p1,p2⟩:=wR I hp rv
  refine pO hT ho hc hd hz (λv m=>?_) λh1 h' c out k1 k2 e1 e2 e3=>?_
  .refine aq λnO=>bu (p2 v m) λb k mk aP hb=>?_
   subst aP
   exact nO<|uQ (dj I hb) (fJ k mk)
  .have yZ:(out.map (bU s.heap)).Perm ks:=by
    have:=e2.map (bU s.heap)
    rwa [p1]at this
   have G7:out.map (bU s.heap)=b9 ks:=jf yZ (X7.mpr e3)
   have I1:Inv X U σ H {s with heap:=h1}:=I.kept (t':=s.toks) k1
   obtain⟨us,u1,u2,u3⟩:=pM I (vs:=out) λv m=>by
    exact aq λnO=>bu (p2 v (e2.mem_iff.mp m)) λb k _ e hb=>nO<|⟨b,k,e,hb⟩
   rw[G7]at u3
   have I2:Inv X U σ (upd H h1.objs.size (.lst us)) {s with heap:=h'}:=by
    have:=I1.laid (a:=h1.objs.size) (o:= .lst us) (t':=s.toks) k2 (W9 _) (show aZ X.prog X.w _ h' _ (.lst us) from⟨by rw[u2,e2.length_eq];exact hz,out,c,u1,e1⟩)
    exact this
   exact⟨.ref h1.objs.size,_,I2,rfl,q _ us (I1.aW.fresh (W9 _)) u3⟩
 rcases hq with hq|hq
 .refine aq λnO=>?_
  obtain⟨its,rv,⟨o,n,e1,e2,_,e3⟩,hz⟩:=I.list hq
  exact nO<|go _ o its n (.inl rfl) e1 e2 e3 rv (by first|exact hz|(have:=rv.length;lia))
 .refine aq λnO=>?_
  obtain⟨its,rv,⟨o,e1,e2,n,e3⟩,hz⟩:=I.tuple hq
  exact nO<|go _ o its n (.inr rfl) e1 e2 e3 rv (by first|exact hz|(have:=rv.length;lia))
end
section
variable {prog:Program}{w:World}{A:Around}{R:Result->Shared->Prop}{I:Addr}{fp wr:List Addr}{n:Nat}{P:Nat->Value->Prop}{St:Nat->Heap->Prop}
def y0(T:Addr->Prop)(g g':Heap):Prop:=∀b o,T b->g.get? b=some o->g'.get? b=some o
def CA(prog:Program)(w:World)(A:Around)(T:Addr->Prop)(g:Heap)(P:Nat->Value->Prop)(bt:Nat->Nat->Bool):Prop:=
 ∀i j x y (s:Shared) (Q:Value->Shared->Prop) (E:Value->Shared->Prop),y0 T g s.heap->P i x->P j y->Q (.bool (bt i j)) s->wpAny (model prog w) A (richCompare .Lt x y) Q E s
def G8(W:Walks prog w A.in1 I fp wr n P St)(cm:CA prog w A.in1 T g P bt)(nS:S∉fp)(hT:∀b,T b->b∉wr/\b≠S):
  ∀(m j:Nat) (s:Shared) (best:Value) (c:Nat),n-(j+1)=m->j+1<=n->St (j+1) s.heap->P (argBest bt j) best->y0 T g s.heap->s.heap.get? S=some {cls:= .type "list",dict:=none,data:= .seq #[best,best] c,slots:=#[]}->
   (∀v h' tk,P (argBest bt (n-1)) v->(∀b o,b∉wr->b≠S->s.heap.get? b=some o->h'.get? b=some o)->R (.ok (.ret v)) {s with heap:=h',toks:=tk})->codeAny (model prog w) A (.builtin "min.loop" ⟨[.ref I,.none,.ref S],[]⟩) R s:=by
 have wS:S∉wr:=λz=>nS (W.sub _ z)
 have nm:(toString "min"++toString ".loop":String)="min.loop":=by decide
 intro m
 induction m with
 |zero=>
  intro j s best c em ej G9 eP eT eS eR
  have Jz:j+1=n:=by omega
  refine Zm Zt ?_
  rw[Y_ X' _]
  show wpAny _ A.in1 (seqItems? (.ref S) >>= _) _ _ _
  refine WV (Zw eS rfl ?_)
  show wpAny _ A.in1 (tryCatch (pyNext (.ref I)) _ >>= _) _ _ _
  refine WV (ZZ (W.done s _ _ (Jz▸G9) λg2 t2 k2=>?_))
  have EV:=k2 S _ wS eS
  show wpAny _ A.in1 (updateSeq S (λ_=>(#[]:Array Value)) >>= _) _ _ _
  refine WV (aaD EV rfl (WV (aae (W7 ?_))))
  exact eR best _ t2 (by rw[<-Jz];exact eP) λb o b1 b2 e=>(Xv _ _ (XY b2)).trans (k2 b o b1 e)
 |succ m ih=>
  intro j s best c em ej G9 eP eT eS eR
  have Jz:j+1<n:=by omega
  refine Zm Zt ?_
  rw[Y_ X' _]
  show wpAny _ A.in1 (seqItems? (.ref S) >>= _) _ _ _
  refine WV (Zw eS rfl ?_)
  show wpAny _ A.in1 (tryCatch (pyNext (.ref I)) _ >>= _) _ _ _
  refine WV (ZZ (W.item (j+1) s _ _ Jz G9 λv g2 t2 p2 cJ k2=>?_))
  have EV:=k2 S _ wS eS
  have LI:y0 T g g2:=λb o tb e=>k2 b o (hT b tb).1 (eT b o tb e)
  show wpAny _ A.in1 (tryCatch (holding [v,v] (richCompare .Lt v best >>= _)) _ >>= _) _ _ _
  refine WV (ZZ (XT (WV (cm (j+1) (argBest bt j) v best _ _ _ LI p2 eP ?_))))
  refine WV (XT (Yf (WV (aae (W7 ?_)))))
  cases eb:bt (j+1) (argBest bt j)with
  |true=>
   rw[Xl rfl]
   refine WV (aaD EV rfl (WV (aae ?_)))
   rw[nm]
   refine W7 ⟨plainId_quiet X' _,ih (j+1) _ v _ (by omega) Jz (W.frame _ _ _ cJ λb bf o e=>?_) (by simp only[argBest,eb,if_true];exact p2) (λb o tb e=>?_) (Yh _ EV rfl) λv3 g3 t3 p3 k3=>?_⟩
   .exact(Xv _ _ (λz:S=b=>nS (by rw[z];exact bf))).trans e
   .exact(Xv _ _ (XY (hT b tb).2)).trans (LI b o tb e)
   .exact eR v3 g3 t3 p3 λb o b1 b2 e=>k3 b o b1 b2 ((Xv _ _ (XY b2)).trans (k2 b o b1 e))
  |false=>
   rw[Xs W2]
   refine WV (aae ?_)
   rw[nm]
   refine W7 ⟨plainId_quiet X' _,ih (j+1) _ best c (by omega) Jz cJ (by simp only[argBest,eb,X9,if_false];exact eP) LI EV λv3 g3 t3 p3 k3=>?_⟩
   exact eR v3 g3 t3 p3 λb o b1 b2 e=>k3 b o b1 b2 (k2 b o b1 e)
def CB(W:Walks prog w A.in1 I fp wr n P St)(cm:CA prog w A.in1 T g P bt)(nS:S∉fp)(hT:∀b,T b->b∉wr/\b≠S)(n0:0<n)(G9:St 0 s.heap)(eT:y0 T g s.heap)(eS:s.heap.get? S=some {cls:= .type "list",dict:=none,data:= .seq #[] c,slots:=#[]})
  (eR:∀v h' tk,P (argBest bt (n-1)) v->(∀b o,b∉wr->b≠S->s.heap.get? b=some o->h'.get? b=some o)->R (.ok (.ret v)) {s with heap:=h',toks:=tk}):codeAny (model prog w) A (.builtin "min.loop" ⟨[.ref I,.none,.ref S],[]⟩) R s:=by
 have wS:S∉wr:=λz=>nS (W.sub _ z)
 have nm:(toString "min"++toString ".loop":String)="min.loop":=by decide
 refine Zm Zt ?_
 rw[Y_ X' _]
 show wpAny _ A.in1 (seqItems? (.ref S) >>= _) _ _ _
 refine WV (Zw eS rfl ?_)
 show wpAny _ A.in1 (tryCatch (pyNext (.ref I)) _ >>= _) _ _ _
 refine WV (ZZ (W.item 0 s _ _ n0 G9 λv g2 t2 p2 cJ k2=>?_))
 have EV:=k2 S _ wS eS
 have LI:y0 T g g2:=λb o tb e=>k2 b o (hT b tb).1 (eT b o tb e)
 show wpAny _ A.in1 (updateSeq S (λ_=>(#[v,v]:Array Value)) >>= _) _ _ _
 refine WV (aaD EV rfl ?_)
 rw[nm]
 refine W7 ⟨plainId_quiet X' _,G8 W cm nS hT _ 0 _ v _ rfl n0 (W.frame _ _ _ cJ λb bf o e=>?_) p2 (λb o tb e=>?_) (Yh _ EV rfl) λv3 g3 t3 p3 k3=>?_⟩
 .exact(Xv _ _ (λz:S=b=>nS (by rw[z];exact bf))).trans e
 .exact(Xv _ _ (XY (hT b tb).2)).trans (LI b o tb e)
 .exact eR v3 g3 t3 p3 λb o b1 b2 e=>k3 b o b1 b2 ((Xv _ _ (XY b2)).trans (k2 b o b1 e))
end
section
variable {prog:Program}{w:World}{A:Around}{E:Value->Shared->Prop}{s:Shared}
theorem wU
  (h:wpAny (model prog w) A.in1 (pyIter x) (λit s2=>∃I fp wr n P St bt,it= .ref I/\Walks prog w A.in1 I fp wr n P St/\St 0 s2.heap/\(∀b∈fp,b<s2.heap.objs.size)/\0<n/\CA prog w A.in1 T s2.heap P bt/\(∀b,T b->b∉wr/\b<s2.heap.objs.size)/\
   ∀v h' tk,P (argBest bt (n-1)) v->(∀b o,b∉wr->s2.heap.get? b=some o->h'.get? b=some o)->Q v {s2 with heap:=h',toks:=tk}) E s):wpAny (model prog w) A (call (.builtin "min") [x]) Q E s:=by
 have nm:(toString "min"++toString ".loop":String)="min.loop":=by decide
 refine call_function_tree PySem.F.kind_min PySem.F.plain_min PySem.F.entry_min (PySem.F.args_min1 _) ?_
 show wpAny _ A.in1 (Builtin.Builtins.bindParams "min" ["key","default"] 0 ⟨[],[]⟩ >>= _) _ _ _
 refine WV (aaO (show Builtin.Builtins.bindParams "min" ["key","default"] 0 ⟨[],[]⟩=pure [none,none] from rfl) (WV (W7 (WV (Yo h (λit s2 z=>?_) λ_ _ e=>e)))))
 refine TQ z λI fp wr n P St bt ag W G9 UY n0 cm eT q=>?_
 try clear z
 subst ag
 refine WV (XG ?_)
 have nS:s2.heap.objs.size∉fp:=λhm=>XS _ (UY _ hm)
 rw[nm]
 refine W7 ⟨plainId_quiet X' _,CB W cm nS (λb tb=>⟨(eT b tb).1,Xu (eT b tb).2⟩) n0 (W.frame _ _ _ G9 λb _ o e=>WY _ e) (λb o _ e=>WY _ e) (Xe _ rfl) λv h' tk p k=>?_⟩
 exact q v h' tk p λb o b1 e=>k b o b1 (Xu (Xg e)) (WY _ e)
end
end L2
namespace b6
theorem n6:∀(l:List (List Int)) (a b:List Int),gW a (l++[b])=if bF b (gW a l) then b else gW a l
 |[],a,b=>rfl
 |x::l,a,b=>n6 l _ b
theorem rj:∀(l:List (List Int)) (a:List Int),gW a l∈a::l
 |[],a=>W5.mpr rfl
 |b::l,a=>by
  rw[gW]
  rcases Xc.mp (rj l (if bF b a then b else a))with h|h
  .rw[h]
   split
   .exact W4 _ W6
   .exact W6
  .exact W4 _ (W4 _ h)
theorem uR:∀(l:List (List Int)) (a:List Int),∀x∈a::l,EU (gW a l) x
 |[],a,x,h=>by
  rw[W5.mp h]
  show bF a a=false
  cases e:bF a a with
  |false=>rfl
  |true=>have:=gn a a e;rw[e]at this;cases this
 |b::l,a,x,h=>by
  rw[gW]
  have ih:=uR l (if bF b a then b else a)
  have h0:=ih _ W6
  rcases Xc.mp h with h|h
  .rw[h]
   cases e:bF b a with
   |true=>
    rw[e]at h0
    exact je _ _ _ h0 (gn _ _ e)
   |false=>rw[e]at h0;exact h0
  .rcases Xc.mp h with h|h
   .rw[h]
    cases e:bF b a with
    |true=>rw[e]at h0;exact h0
    |false=>
     rw[e]at h0
     exact je _ _ _ h0 e
   .exact ih x (W4 _ h)
theorem jh(val:Nat->List Int):∀(k:Nat) (l:List (List Int)),(∀i,i<k->l[i]?=some (val (i+1)))->val (PySem.argBest (λi j=>bF (val i) (val j)) k)=gW (val 0) (l.take k)
 |0,l,_=>rfl
 |k+1,l,h=>by
  have hk:=h k (YH k)
  have ih:=jh val k l λi hi=>h i (YB hi)
  have e:l.take (k+1)=l.take k++[val (k+1)]:=by rw[List.take_add_one,hk];rfl
  rw[e,n6,<-ih]
  show val (if bF (val (k+1)) (val (PySem.argBest _ k))=true then k+1 else PySem.argBest _ k)=_
  split<;>rfl
end b6
namespace L2
open PySem PySem.Spec PyProof.Rows PySem.W b6
theorem uS:∀u v:List Int,HT.lexLt u v=bF u v
 |[],[]=>rfl
 |[],_::_=>rfl
 |_::_,[]=>rfl
 |x::u,y::v=>by
  show(if x=y then HT.lexLt u v else decide (x<y))=if x=y then bF u v else decide (x<y)
  rw[uS u v]
section
variable {X:Cx}
def fL:∀{us:List V}{ks:List (List Int)}{vs:List Value},Paired (TupAt H) us ks->aL us vs->∀(i:Nat) (v:Value),vs[i]?=some v->∃b u,v= .ref b/\us[i]?=some u/\u= .ref b/\H b=some (.tup ((ks.getD i []).map V.int)):=λ{us ks vs} h=>by
 induction h generalizing vs with
 |nil=>intro r i v h;cases r;simp at h
 |cons hq p ih=>
  intro r i v h
  cases r with
  |cons r rs=>
   cases i with
   |zero=>
    refine aa hq λb ag hb=>?_
    try clear hq
    subst ag
    cases r
    have h':Value.ref b=v:=by simpa using h
    exact⟨b,.ref b,h'.symm,rfl,rfl,hb⟩
   |succ i=>exact gH (ih rs i v (by simpa using h)) λb u e1 e2 e3 e4=>⟨b,u,e1,by simpa using e2,e3,by simpa using e4⟩
def wV(hc:X.calm=true)(hu:X.A.units+64<cLine):cX X (.builtin "min") (λxs H Q=>∃(p:Addr) (ws:List V) (k:List Int) (ks:List (List Int)),xs=[.ref p]/\dq X.K H p ws/\Paired (TupAt H) ws (k::ks)/\∀u,TupAt H u (gW k ks)->Q u H):=by
 intro U s σ H xs us Q I r zz
 refine JP zz λp ws k ks e hq hp q=>?_
 subst e
 refine aa (vals1 r) λu ag rx=>?_
 subst ag
 cases rx
 refine bJ (I.list hq) λits rv pl hz=>?_
 have hl:s.heap.IsList p its.toArray:=pl.isList
 have bZ:p<s.heap.objs.size:=by obtain⟨_,e,_⟩:=hl;exact Xg e
 have len:its.length=ks.length+1:=by
  have h1:=rv.length
  have h2:=Y3 hp
  rw[Xm]at h2
  lia
 have best:(k::ks).getD (argBest (λi j=>bF ((k::ks).getD i []) ((k::ks).getD j [])) ks.length) []=gW k ks:=by
  have:=jh (λi=>(k::ks).getD i []) ks.length ks (λi hi=>by simp[hi])
  simpa using this
 refine wU (T:=λb=>∃i,i<its.length/\its[i]?=some (.ref b)) (Y4 hl ?_)
 have xO:∀b,(∃i,i<its.length/\its[i]?=some (Value.ref b))->b<s.heap.objs.size:=λb zz=>by
  refine aa zz λi _ hi=>gH (fL hp rv i _ hi) λb' _ e1 _ _ e4=>?_
  cases e1
  refine Fu (dj I e4) λx o xs n e g1 _=>?_
  cases e
  exact Xg g1
 refine⟨_,[_,p],[_],_,_,_,_,rfl,Walks.list (A:=X.A.in1) (I.ok.hd hc) s.heap.objs.size p (Xu bZ) its.toArray,⟨⟨_,Xe _ rfl,rfl,rfl⟩,hl.push _⟩,λb hb=>?_,by rw[W8];lia,(λi j x y s' Q' E' st hx hy hQ=>?_:CA X.prog X.w X.A.in1 _ _ _ (λi j=>bF ((k::ks).getD i []) ((k::ks).getD j []))),λb hb=>⟨λz=>?_,?_⟩,λv h' tk hP hk=>?_⟩
 .show b<(s.heap.push _).objs.size
  rw[Yq]
  rcases Xc.mp hb with rfl|hb
  .exact YH _
  .rw[W5.mp hb];exact YB bZ
 .have y8:its[i]?=some x:=by simpa using hx
  have Bp:its[j]?=some y:=by simpa using hy
  refine gH (fL hp rv i x y8) λb _ aP _ _ eb=>?_
  subst aP
  refine gH (fL hp rv j y Bp) λc _ cZ _ _ ec=>?_
  subst cZ
  have ib:i<its.length:=(Xf.mp y8).1
  have jb:j<its.length:=(Xf.mp Bp).1
  refine sF (dj I eb) λb' o xs n e g1 g2 g3 g4=>?_
  cases e
  refine sF (dj I ec) λc' o2 ys m e f1 f2 f3 f4=>?_
  cases e
  have s1:=st b o ⟨i,ib,y8⟩ (WY _ g1)
  have s2:=st c o2 ⟨j,jb,Bp⟩ (WY _ f1)
  refine HT.sS (items:=xs.toArray) (items2:=ys.toArray) ⟨o,s1,g2,n,g3⟩ ⟨o2,s2,f2,m,f3⟩ (by simpa using g4) (by simpa using f4) ?_ (by rw[uS];exact hQ)
  show X.A.units+1<cLine
  lia
 .rw[W5.mp z]at hb
  exact absurd (xO _ hb) (XS _)
 .show b<(s.heap.push _).objs.size
  rw[Yq]
  exact YB (xO b hb)
 .rw[W8,len,Nat.add_sub_cancel]at hP
  have nr:its[argBest (λi j=>bF ((k::ks).getD i []) ((k::ks).getD j [])) ks.length]?=some v:=by simpa using hP
  refine gH (fL hp rv _ v nr) λb u nu _ _ eb=>?_
  subst nu
  rw[best]at eb
  refine⟨.ref b,H,I.kept λb2 o e=>hk b2 o (λz=>?_) (WY _ e),rfl,q _ ⟨b,rfl,eb⟩⟩
  rw[W5.mp z]at e
  exact absurd (Xg e) (XS _)
end
end L2
namespace PySem
namespace F
def y9:mroOf (.type "reversed")=pure [.type "reversed",.type "object"]:=by rw[mroOf_type];kernel_rfl
def G_:typeLookup (.type "reversed") "__new__"=pure (some (.builtin "reversed.__new__")):=by rw[typeLookup_type,builtinLookup_eq_fast];kernel_rfl
def CC:Slot "reversed" "__init__" "object.__init__":= .of (owner:="object") (n:="__init__") (by rw[typeLookup_type,builtinLookup_eq_fast];kernel_rfl) (by decide +kernel) (by decide +kernel) (by decide +kernel) (by first|exact .inl (by decide +kernel)|exact .inr (by decide +kernel)) (by rw[isSubtype_type];kernel_rfl)
def wW:TypeCalled "reversed" "reversed.__new__" "object.__init__":=
 ⟨by decide +kernel,by decide +kernel,⟨_,_,y9⟩,madeBy_type y9 G_ (by decide +kernel),by decide +kernel,by rw[isSubtype_type];kernel_rfl,CC⟩
def LJ(a:Value):checkTypeCall "reversed" ⟨[a],[]⟩=pure ():=by kernel_rfl
def LK(a:Value):checkBuiltinCall "reversed.__new__" ⟨[.type "reversed",a],[]⟩=pure ():=by kernel_rfl
def y_:entryFor table "reversed.__new__"=some Builtin.«reversed.__new__»:=entryFor_of_tree (by kernel_rfl)
def ji:Slot "reversed" "__next__" "reversed.__next__":= .of (owner:="reversed") (n:="__next__") (by rw[typeLookup_type,builtinLookup_eq_fast];kernel_rfl) (by decide +kernel) (by decide +kernel) (by decide +kernel) (by first|exact .inl (by decide +kernel)|exact .inr (by decide +kernel)) (by rw[isSubtype_type];kernel_rfl)
def ic:entryFor table "reversed.__next__"=some Builtin.«reversed.__next__»:=entryFor_of_tree (by kernel_rfl)
def CD:typeLookup (.type "tuple") "__reversed__"=pure none:=by rw[typeLookup_type,builtinLookup_eq_fast];kernel_rfl
def Ha:isSubtype (.type "reversed") (.type "reversed")=pure true:=by rw[isSubtype_type];kernel_rfl
def uT:Slot "reversed" "__iter__" "reversed.__iter__":= .of (owner:="reversed") (n:="__iter__") (by rw[typeLookup_type,builtinLookup_eq_fast];kernel_rfl) (by decide +kernel) (by decide +kernel) (by decide +kernel) (by first|exact .inl (by decide +kernel)|exact .inr (by decide +kernel)) (by rw[isSubtype_type];kernel_rfl)
def nv:entryFor table "reversed.__iter__"=some Builtin.«dict_keyiterator.__iter__»:=entryFor_alias (id':="dict_keyiterator.__iter__") (by kernel_rfl) (by first|rfl|decide +kernel|(unfold String.splitOn;simp +decide [String.splitOnAux])) (by decide +kernel) (by kernel_rfl)
end F
def wX(a:Value):argsOk "reversed.__iter__" ⟨[a],[]⟩:=by unfold argsOk;kernel_rfl
def n8(a:Value):argsOk "reversed.__next__" ⟨[a],[]⟩:=by unfold argsOk;kernel_rfl
end PySem
namespace L2
open PySem PySem.Spec PyProof.Rows
open AutoSeq1 (wpAny_loadPart')
noncomputable abbrev CF(l:Addr)(i:Int):Obj:={cls:= .type "reversed",data:= .fields #[.ref l,rawInt i]}
def za(l:Addr)(items:Array Value)(n:Nat)(B4:Option Addr)(sl:Array (Option Value)):
  Meets (Builtin.«reversed.__new__» ⟨[.type "reversed",.ref l],[]⟩) (λ_ R s=>s.heap.get? l=some {cls:= .type "tuple",dict:=B4,data:= .seq items n,slots:=sl}/\items.size<2 ^ 62/\
   ∀tk,R (.ok (.ret (.ref s.heap.objs.size))) {s with heap:=s.heap.push (CF l ((items.size:Int)-1)),toks:=tk}):=
 .of_wp λprog w A R s h=>by
  obtain⟨hp,g,d,tk,os⟩:=s
  obtain⟨hl,hz,h⟩:=h
  have sb:=F.Ha
  have no:=F.CD
  have hT:Shared.TypeIs ⟨hp,g,d,tk,os⟩ (.ref l) "tuple":=⟨_,hl,rfl⟩
  have nd:isSubtype (.type "tuple") (.type "dict")=pure false:=by rw[isSubtype_type];kernel_rfl
  have gi:=F.slot_tuple_getitem.lookup
  have hL:IsTup (Shared.heap ⟨hp,g,d,tk,os⟩) l items:=⟨_,hl,rfl,n,rfl⟩
  have Ju:(items.size:Int)<2 ^ 63:=by lia
  wp_walk using Ys hl,PyProof.Rows.len_tuple hL Ju
  exact⟨_,rfl,h _⟩
section
variable {prog:Program}{w:World}{A:Around}{E:Value->Shared->Prop}{s:Shared}
def rk(h:Heap)(it l:Addr)(i:Int):Prop:=∃o,h.get? it=some o/\o.cls= .type "reversed"/\o.data= .fields #[.ref l,rawInt i]
def rk.ty(r:rk s.heap it l i):s.TypeIs (.ref it) "reversed":=let ⟨o,e,c,_⟩:=r;⟨o,e,c⟩
def CG(hL:IsTup s.heap l items)(hz:items.size<2 ^ 62)
  (h:∀tk,Q (.ref s.heap.objs.size) {s with heap:=s.heap.push (CF l ((items.size:Int)-1)),toks:=tk}):
  wpAny (model prog w) A (call (.type "reversed") [.ref l]) Q E s:=by
 refine aq λnO=>?_
 obtain⟨⟨c,B4,dt,sl⟩,hl,hc,n,hd⟩:=hL
 have kN:c= .type "tuple":=hc
 have kM:dt= .seq items n:=hd
 subst kN kM
 refine nO ?_
 refine callType_new F.wW (by decide) (F.LJ _) (F.LK _) (λobj=>ZG obj _) F.y_ (za l items n B4 sl) ⟨hl,hz,λtk=>?_⟩
 exact⟨⟨_,Xe _ rfl,rfl⟩,h tk⟩
def uU(st:rk s.heap it l i)(h:Q (.ref it) s):wpAny (model prog w) A (pyIter (.ref it)) Q E s:=by
 refine wpAny_pyIter_slot st.ty F.uT (XW F.uT st.ty F.nv ?_ (wX _))
 show wpAny _ _ (ret (.ref it)) _ _ s
 exact W7 ⟨_,rfl,"reversed",_,st.ty,F.ji.lookup,h⟩
def CH{it l:Addr}{i:Nat}{items:Array Value}{x:Value}{Q:Option Value->Shared->Prop}(st:rk s.heap it l i)(hl:IsTup s.heap l items)(hx:items[i]?=some x)(hz:items.size<2 ^ 62)
  (hQ:∀h' tk,rk h' it l ((i:Int)-1)->Heap.SameBut it s.heap h'->Q (some x) {s with heap:=h',toks:=tk}):wpAny (model prog w) A (pyNext (.ref it)) Q E s:=by
 have T:=st.ty
 refine bJ (id st) λo ho hc hd=>?_
 have TL:s.TypeIs (.ref l) "tuple":=let ⟨ol,a,b,_⟩:=hl;⟨ol,a,b⟩
 have hi:i<items.size:=(Array.getElem?_eq_some_iff.mp hx).1
 unfold pyNext
 refine WV (Zn (X2 (name:=Str.ofString "__next__") T F.ji (XW F.ji T F.ic ?_ (n8 _))))
 show wpAny _ _ (field (.ref it) 0 >>= _) _ _ s
 refine WV (YD ho hd (x:= .ref l) rfl ?_)
 show wpAny _ _ (field (.ref it) 1 >>= _) _ _ s
 refine WV (YD ho hd (x:= .int i 0) rfl ?_)
 show wpAny _ _ (if((i:Nat):Int)<0 then _ else _) _ _ s
 rw[Xs (by lia)]
 have gi:=F.slot_tuple_getitem.lookup
 refine WV (aaw TL gi ?_)
 show wpAny _ _ (mkInt ((i:Nat):Int) >>= _) _ _ s
 refine WV (wpAny_mkInt ?_)
 refine WV (Zn (PyProof.Rows.getItem_tuple (j:=i) (x:=x) (s:={s with toks:=s.toks+1}) hl (by lia) (by lia) (by unfold seqIndex?;simp;lia) hx ?_))
 show wpAny _ _ (field (.ref it) 1 >>= _) _ _ {s with toks:=s.toks+1}
 refine WV (YD ho hd (x:= .int i 0) rfl ?_)
 show wpAny _ _ (setField (.ref it) 1 (rawInt ((i:Int)-1)) >>= _) _ _ {s with toks:=s.toks+1}
 refine WV (YJ ho hd (by simp) (W7 ⟨x,rfl,W7 (hQ _ _ ⟨_,Yh _ ho (YY (Yn hd _)),(Z2 ..).trans hc,?_⟩ (Yp ..))⟩))
 rw[Yn hd]
 simp[rawInt]
def Hb(hh:A.handled=none)(st:rk s.heap it l (-1))(hQ:∀h',Heap.ExtBut it s.heap h'->Q none {s with heap:=h'}):wpAny (model prog w) A (pyNext (.ref it)) Q E s:=by
 have T:=st.ty
 refine bJ (id st) λo ho hc hd=>?_
 unfold pyNext
 refine WV (Zn (X2 (name:=Str.ofString "__next__") T F.ji (XW F.ji T F.ic ?_ (n8 _))))
 show wpAny _ _ (field (.ref it) 0 >>= _) _ _ s
 refine WV (YD ho hd (x:= .ref l) rfl ?_)
 show wpAny _ _ (field (.ref it) 1 >>= _) _ _ s
 refine WV (YD ho hd (x:= .int (-1) 0) rfl ?_)
 refine WV (Y5 (WV ?_))
 refine WV (m:=setField (.ref it) 1 (rawInt (-1))) (YJ ho hd (by simp) ?_)
 have NL:(s.heap.update it (Obj.mapFields (·.setIfInBounds 1 (rawInt (-1))))).get? it=some (Obj.mapFields (·.setIfInBounds 1 (rawInt (-1))) o):=Yh _ ho (YY (Yn hd _))
 refine YJ NL (Yn hd _) (by simp)<|WV ?_
 unfold Builtin.SmallTypes.stopIteration
 refine WV ?_
 simp only[newExc,newTuple]
 refine WV (XG ?_ (by size_fits))
 refine WV (m:=firstArgMember _ _) (aaO (a:=Value.none) (by first|rfl|(simp only[firstArgMember];rfl)) ?_)
 refine XG ?_ (by size_fits)
 simp only[raiseNew]
 refine WV (wpAny_handled ?_)
 first|rw[show A.in1.handled=none from hh]|rw[hh]
 refine WV (W7 (wpAny_throw ?_))
 refine WV (wpAny_isInstance (T:="StopIteration") (b:=true) ⟨_,Xe _ rfl,rfl⟩ isSubtype_stop ?_)
 exact W7 (hQ _ ((((Yp ..).trans (Yp ..)).extBut.push _).push _))
end
noncomputable def LL(K:PySem.W.Frag)(a:Addr)(n:Nat):It:=
 ⟨λi H=>∃xs,c9 K H a xs/\xs.length=n/\i<n,λi H x H'=>H'=H/\∀xs,c9 K H a xs->xs[n-1-i]?=some x,λi H=>i=n⟩
def CI{P:Program}{w:World}{K:PySem.W.Frag}{tg:Expr}(a it:Addr)(n:Nat):oX P w K tg (LL K a n) [it] it (λi h=>rk h it a ((n:Int)-1-i)) where
 mem:=by simp
 obj:=λi h st b hb=>by
  have e:b=it:=by simpa using hb
  subst e
  exact bJ st λo e c d=>⟨o,e,λv z=>by rw[d]at z;cases z⟩
 keep:=λi h h' st k=>let ⟨o,e,r⟩:=st;⟨o,k it (by simp) o e,r⟩
 item:=by
  intro X hP hw hK hc i U s σ H E I hf st hg
  subst hP hw hK
  refine bJ hg λxs hq hl hi=>bJ (I.tuple hq) λits rv p hz=>sk (hf it (by simp)) λf0 f1 f2 f3 f4 f5=>?_
  have hj:n-1-i<xs.length:=by lia
  refine aa (rv.get (WW hj)) λu hu ru=>?_
  have len:=rv.length
  have ei:(n:Int)-1-i=((n-1-i:Nat):Int):=by lia
  rw[ei]at st
  refine CH st p (x:=u) (by simpa using hu) (by rw[W8];rw[sizeLine_eq]at hz;lia) λh' tk ai sb=>?_
  have I1:Inv X U σ H {s with heap:=h',toks:=tk}:=I.turned (t':=tk) (λb o hb e=>(sb.2 b hb).trans e) f0 f1 f3 f4 f5
  refine bJ (id ai) λo e c d=>⟨u,rfl,nK (s:={s with heap:=h',toks:=tk}) e c d (by decide) ⟨xs[n-1-i],H,I1,ru,⟨rfl,λys hy=>by rw[I.jD hy hq];exact WW hj⟩,?_,λb hb=>(hf b hb).1⟩⟩
  have e2:(n:Int)-1-((i+1:Nat):Int)=((n-1-i:Nat):Int)-1:=by lia
  rw[e2]
  exact ai
 done:=by
  intro X hP hw hK hc i U s σ H E I hf st hg
  subst hP hw hK
  have hg:i=n:=hg
  subst hg
  refine sk (hf it (by simp)) λf0 f1 f2 f3 f4 f5=>?_
  have ei:(i:Int)-1-i= -1:=by lia
  rw[ei]at st
  exact Hb (I.ok.hd hc) st λh' eb=>⟨rfl,I.turned (t':=s.toks) (λb o hb e=>eb b o hb e) f0 f1 f3 f4 f5⟩
 self:=λ_ _ _ _ _ st h=>uU st h
section
variable {X:Cx}{tg:Expr}
def UZ(K:PySem.W.Frag)(ta:TA):TI:=λσ H R=>ta σ H λvs H1=>∃a xs,vs=[.ref a]/\c9 K H1 a xs/\R (LL K a xs.length) H1
def LN{a:Expr}{ta:TA}{p pos:Pos}(hg:Gl X "reversed")(hm:X.mg "reversed"=none)(ha:PA X [a] ta)(hs:starEach [a] X.env=[(false,eval a X.env)]):PI X tg (.Call (.Name "reversed" p) [a] [] pos) (UZ X.K ta):=by
 intro U s σ H R I h
 refine Call_ (iu I hg hm boot_reversed (Ym (bG (ha pos U s σ H _ I h) λus s1 ⟨vs,H1,I1,r1,q1⟩=>?_) hs rfl))
 refine aq λnO=>bu q1 λl xs e hq q=>?_
 subst e
 refine aa (vals1 r1) λu ag rx=>?_
 subst ag
 cases rx
 refine bJ (I1.tuple hq) λits rv pl hz=>nO ?_
 have len:=rv.length
 refine CG pl (by rw[W8];rw[sizeLine_eq]at hz;lia) λtk=>?_
 have es:((its.toArray.size:Nat):Int)-1=(xs.length:Int)-1-((0:Nat):Int):=by rw[W8,len];lia
 have st:rk (s1.heap.push (CF l ((its.toArray.size:Int)-1))) s1.heap.objs.size l ((xs.length:Int)-1-((0:Nat):Int)):=⟨_,Xe _ rfl,rfl,by rw[es]⟩
 refine uU (s:={s1 with heap:=s1.heap.push (CF l ((its.toArray.size:Int)-1)),toks:=tk}) st ?_
 refine⟨s1.heap.objs.size,[s1.heap.objs.size],_,_,H1,rfl,I1.kept (t':=tk) λb o e=>WY _ e,CI l _ xs.length,st,λb hb=>?_,q⟩
 have e:b=s1.heap.objs.size:=by simpa using hb
 subst e
 exact I1.sH (W9 _) (I1.aW.fresh (W9 _))
end
open PySem.W
noncomputable def P9(a:Addr)(o:Obj)(ay:List (cU×V)):It:=
 ⟨λi H=>H a=some (.dH o (.dK ay))/\i<ay.length,λi H x H'=>H'=H/\(ay[i]?).map (λkv=>kv.2)=some x,λi H=>H a=some (.dH o (.dK ay))/\i=ay.length⟩
def pQ{X:Cx}{U:List (Addr×Obj)}{σ:St}{H:Hp}{s:Shared}{a:Addr}{o:Obj}{ay:List (cU×V)}{es:Array DictEntry}{ep:Nat}(I:Inv X U σ H s)(e:H a=some (.dH o (.dK ay)))(hd:o.data= .dict es ep):
  (a==sysModules)=false/\∃vs,KV ay vs/\s.heap.DictAt (br X.prog X.w) a vs ep:=by
 refine aq λnO=>?_
 obtain⟨z,lo,vs,eY,o',By,FG,h1,h2,h3,h4,h5,h6⟩:=ja I.aW (.inr ⟨o,e⟩)
 have ho:s.heap.get? a=some o:=(show aZ X.prog X.w H s.heap a (.dH o (.dK ay)) from I.aW a _ e).1
 rw[ho]at h1
 cases h1
 rw[hd]at h3
 cases h3
 exact nO<|⟨lo,vs,eY,o,es,ho,h2,hd,h4,h5,h6⟩
def LO{κ:Type}[DecidableEq κ]{ay:List (κ×V)}{vs:List (κ×Value)}(r:KV ay vs){i:Nat}(hi:i<ay.length):∃k v,vs[i]?=some (k,v)/\RelV ay[i].2 v:=by
 unfold KV at r
 induction r generalizing i with
 |nil=>exact absurd hi (YO _)
 |@cons p q ps qs hq t ih=>
  cases i with
  |zero=>exact⟨q.1,q.2,rfl,hq.2⟩
  |succ i=>
   exact ef (ih (i:=i) (by simpa using hi)) λk v h1 h2=>⟨k,v,by simpa using h1,by simpa using h2⟩
def CJ{P:Program}{w:World}{K:PySem.W.Frag}{tg:Expr}(a it:Addr)(fJ:a≠it)(o:Obj)(ay:List (cU×V))(es:Array DictEntry)(ep:Nat)(hd:o.data= .dict es ep):oX P w K tg (P9 a o ay) [it] it (λi h=>h.IsValIter it a i ay.length ep) where
 mem:=by simp
 obj:=λi h st b hb=>by
  have e:b=it:=by simpa using hb
  refine aq λnO=>?_
  subst e
  exact bJ st λo e c d=>nO<|⟨o,e,λv z=>by rw[d]at z;cases z⟩
 keep:=λi h h' st k=>let ⟨o,e,r⟩:=st;⟨o,k it (by simp) o e,r⟩
 item:=by
  intro X hP hw hK hc i U s σ H E I hf st hg
  refine aq λnO=>?_
  subst hP hw hK
  obtain⟨e1,e2⟩:=hg
  obtain⟨_,vs,eY,hm⟩:=pQ I e1 hd
  refine sk (hf it (by simp)) λf0 f1 f2 f3 f4 f5=>ef (LO eY e2) λk v n1 n2=>nO ?_
  rw[eY.length]at st
  refine wpAny_pyNext_values_item st hm n1 λh' k' hs=>?_
  have I1:Inv X U σ H {s with heap:=h'}:=I.turned (t':=s.toks) (λb o hb e=>(hs.2 b hb).trans e) f0 f1 f3 f4 f5
  exact aq λnO=>bJ (id k') λoi g1 g2 g3=>nO<|⟨_,rfl,nK (s:={s with heap:=h'}) g1 g2 g3 (by decide) ⟨_,H,I1,n2,⟨rfl,by rw[WW e2];rfl⟩,by rw[eY.length];exact k',λb hb=>(hf b hb).1⟩⟩
 done:=by
  intro X hP hw hK hc i U s σ H E I hf st hg
  refine aq λnO=>?_
  subst hP hw hK
  obtain⟨e1,e2⟩:=hg
  obtain⟨_,vs,eY,hm⟩:=pQ I e1 hd
  refine sk (hf it (by simp)) λf0 f1 f2 f3 f4 f5=>nO ?_
  rw[eY.length]at st
  exact wpAny_pyNext_values_end (I.ok.hd hc) st hm (by rw[Xr];rw[<-eY.length,e2];exact W9 _) λh' eb=>⟨rfl,I.turned (t':=s.toks) (λb o hb e=>eb b o hb e) f0 f1 f3 f4 f5⟩
 self:=λ_ _ _ _ _ st h=>wpAny_pyIter_valiter st h
section
variable {X:Cx}{tg:Expr}
def U0(tl:TE):TI:=λσ H R=>tl σ H λx H1=>∃a o ay,x= .ref a/\H1 a=some (.dH o (.dK ay))/\R (P9 a o ay) H1
def LP{l:Expr}{tl:TE}{ap cp:Pos}(hl:PE X l tl)(iT:attributeBase l "values" X.env (eval l X.env)=eval l X.env)(iU:(ap.endLine==cp.line)=true):PI X tg (.Call (.Attribute l "values" ap) [] [] cp) (U0 tl):=by
 intro U s σ H R I h
 refine wpAny_Call_method0_late iT iU (bG (hl U s σ H _ I h) λv s1 zz=>?_)
 refine aq λnO=>bu zz λx H1 I1 r1 q1=>cS q1 λa o ay e hq q=>?_
 subst e
 cases r1
 refine cN (GQ I1 (.inl ⟨ay,.inr ⟨o,hq⟩⟩)) λt1 t2 t3=>nO ?_
 have ho:s1.heap.get? a=some o:=(show aZ X.prog X.w H1 s1.heap a (.dH o (.dK ay)) from I1.aW a _ hq).1
 obtain⟨es,ep,hd⟩:∃es ep,o.data= .dict es ep:=by
  refine aq λnO=>?_
  obtain⟨_,_,_,_,o',By,FG,h1,h2,h3,_⟩:=ja I1.aW (.inr ⟨o,hq⟩)
  rw[ho]at h1
  cases h1
  exact nO<|⟨By,FG,h3⟩
 refine aq λnO=>?_
 obtain⟨_,vs,eY,hm⟩:=pQ I1 hq hd
 refine nO ?_
 refine⟨"dict",_,PySem.F.plainAttrs_dict,Z8,PySem.F.type_dict_values,t1,t2,YU rfl (aaN ?_)⟩
 refine call_meetsIn Z8 t1 PySem.F.entry_dict_values (PySem.F.args_dict_values_1 _) (meets_dict_values (br X.prog X.w) a t3) ⟨⟨vs,?_⟩,?_⟩
 .exact aq λnO=>gH (id hm) λo' By h1 h2 h3 r=>nO<|⟨o',By,ep,h1,h2,h3,r⟩
 .show wpAny _ _ (pyIter (.ref s1.heap.objs.size)) _ _ _
  have I2:Inv X U σ H1 {s1 with heap:=s1.heap.push {cls:= .type "dict_values",data:= .fields #[.ref a]}}:=I1.kept (t':=s1.toks) λb o e=>WY _ e
  refine aq λnO=>?_
  obtain⟨_,WH,P_,U1⟩:=pQ I2 hq hd
  refine nO<|wpAny_pyIter_values (s:={s1 with heap:=s1.heap.push {cls:= .type "dict_values",data:= .fields #[.ref a]}}) ⟨_,Xe _ rfl,rfl,rfl⟩ U1 ?_
  have alt:a<(s1.heap.push {cls:= .type "dict_values",data:= .fields #[.ref a]}).objs.size :=Xg (WY _ ho)
  refine⟨_,[(s1.heap.push {cls:= .type "dict_values",data:= .fields #[.ref a]}).objs.size],_,_,H1,rfl,I2.kept (t':=s1.toks) λb o e=>WY _ e,CJ a _ (Xu alt) o ay es ep hd,⟨_,Xe _ rfl,rfl,by rw[P_.length];rfl⟩,λb hb=>?_,q⟩
  have e:b=(s1.heap.push {cls:= .type "dict_values",data:= .fields #[.ref a]}).objs.size :=by simpa using hb
  subst e
  exact I2.sH (W9 _) (I2.aW.fresh (W9 _))
end
section
variable {X:Cx}{U:List (Addr×Obj)}{σ:St}{H H1 H2:Hp}{s:Shared}
def lU(H:Hp)(b:Addr):Prop:=∃u,H b=some u/\xK (some u)
def NF(X:Cx)(b:Addr):Prop:=∀o u,X.H₀ b≠some (.dH o u)
def Inv.P'(I:Inv X U σ H1 s)(ea:H1 a=some u)(mu:xK (some u)):∃o,Inv X U σ (upd H1 a (.dH o u)) s:=by
 obtain⟨o,ho⟩:∃o,s.heap.get? a=some o:=by
  have ok:=I.aW a u ea
  cases u with
  |lst xs=>obtain⟨_,_,_,_,e⟩:=ok;exact⟨_,e⟩
  |dK ay=>obtain⟨_,_,_,_,o,_,_,e,_⟩:=ok;exact⟨_,e⟩
  |dT ay=>obtain⟨_,_,_,_,o,_,_,e,_⟩:=ok;exact⟨_,e⟩
  |set S n=>obtain⟨o,_,_,_,e,_⟩:=ok;exact⟨_,e⟩
  |ins C dx fs=>obtain⟨_,_,_,e,_⟩:=ok;exact⟨_,e⟩
  |ext φ=>obtain⟨_,⟨o,e⟩,_⟩:=ok;exact⟨_,e⟩
  |_=>exact mu.elim
 have nt:∀b w,H1 b=some w->¬xK (some w)->upd H1 a (.dH o u) b=some w:=λb w e nm=>by
  rw[ak (λz=>?_)]
  .exact e
  .rw[z,ea]at e;cases e;exact nm mu
 have aW:iq X.prog X.w (upd H1 a (.dH o u)) s.heap:=λb w' e=>by
  by_cases hb:b=a
  .subst hb
   rw[ah]at e
   cases e
   exact⟨ho,(I.aW b u ea).mV (λ_ _ _ z=>z) (λc z=>nt c _ z id) λc ys z=>nt c _ z id⟩
  .rw[ak hb]at e
   exact(I.aW b w' e).mV (λ_ _ _ z=>z) (λc z=>nt c _ z id) λc ys z=>nt c _ z id
 have un:Un X.fs [] H1 (upd H1 a (.dH o u)) s.heap s.heap:=Un.write (x:=a) (e:=a) (by rw[ea];exact mu) (.inl rfl) (λ_ _ _ z=>z) ⟨o,ho⟩
 have:=I.un (t':=s.toks) un aW
 exact⟨o,this⟩
structure CK(as:List Addr)(H1 H2:Hp):Prop where
 out:∀b,b∉as->H2 b=H1 b
 at_:∀b,b∈as->∃o u,H1 b=some u/\xK (some u)/\H2 b=some (.dH o u)
theorem Inv.ir:∀(as:List Addr) {H1:Hp},Inv X U σ H1 s->as.Nodup->(∀b∈as,lU H1 b)->∃H2,Inv X U σ H2 s/\CK as H1 H2
 |[],H1,I,_,_=>⟨H1,I,λ_ _=>rfl,λ_ z=>nomatch z⟩
 |a::as,H1,I,nd,hm=>by
  rw[XB]at nd
  refine aa (hm a W6) λu ea mu=>aa (Inv.ir as I nd.2 λb hb=>hm b (W4 _ hb)) λH2 I2 f2=>?_
  have U2:H2 a=some u:=by rw[f2.out a nd.1];exact ea
  obtain⟨o,I3⟩:=I2.P' U2 mu
  refine⟨_,I3,λb hb=>?_,λb hb=>?_⟩
  .rw[Xc,not_or]at hb
   rw[ak hb.1]
   exact f2.out b hb.2
  .by_cases n9:b=a
   .subst n9
    exact⟨o,u,ea,mu,ah⟩
   .rw[ak n9]
    exact f2.at_ b ((Xc.mp hb).resolve_left n9)
def Inv.nf(I:Inv X U σ H s)(h:lU H b):NF X b:=λo u e=>by
 refine aa h λw e1 mu=>?_
 have:=I.base.ir b o u e
 rw[e1]at this
 cases this
 exact mu
open Classical in
noncomputable def f_(as:List Addr)(H1 H2:Hp):Hp:=λb=>if b∈as then H1 b else H2 b
def jj(h:b∈as):f_ as H1 H2 b=H1 b:=Xl h
def bX(h:b∉as):f_ as H1 H2 b=H2 b:=Xs h
def rm(as:List Addr)(H1 H2:Hp):Prop:=∀b,b∈as->∃o u,H1 b=some u/\xK (some u)/\H2 b=some (.dH o u)
theorem Inv.f_(I:Inv X U σ H2 s)(nf:∀b∈as,NF X b)(h:rm as H1 H2):Inv X U σ (f_ as H1 H2) s:=by
 have same:∀b w,H2 b=some w->(∀o u,w≠ .dH o u)->L2.f_ as H1 H2 b=some w:=λb w e n=>by
  rw[bX λhb=>?_]
  .exact e
  .refine bu (h b hb) λo u _ _ e2=>?_
   rw[e]at e2
   cases e2
   exact n o u rfl
 have uV:∀b,H2 b=none->L2.f_ as H1 H2 b=none:=λb e=>by
  rw[bX λhb=>?_]
  .exact e
  .refine bu (h b hb) λo u _ _ e2=>?_
   rw[e]at e2
   cases e2
 have aW:iq X.prog X.w (L2.f_ as H1 H2) s.heap:=λb w' e=>by
  by_cases hb:b∈as
  .refine bu (h b hb) λo u e1 mu e2=>?_
   rw[jj hb,e1]at e
   have ew:u=w':=Xn e
   subst ew
   obtain⟨_,q⟩:=(show aZ X.prog X.w H2 s.heap b (.dH o u) from I.aW b _ e2)
   exact q.mV (λ_ _ _ z=>z) (λc z=>same c _ z λ_ _ y=>(nomatch y)) λc ys z=>same c _ z λ_ _ y=>(nomatch y)
  .rw[bX hb]at e
   exact(I.aW b w' e).mV (λ_ _ _ z=>z) (λc z=>same c _ z λ_ _ y=>(nomatch y)) λc ys z=>same c _ z λ_ _ y=>(nomatch y)
 refine⟨I.ok,I.os,I.bare,⟨I.base.keep,I.base.slot,λb o e n hx=>uV b (I.base.free b o e n hx),I.base.there,λb xs e=>same b _ (I.base.oP b xs e) λ_ _ y=>(nomatch y),λb o u e=>?_,λb ps e=>?_⟩,I.loc,I.cell,uV _ I.free,λx c e=>uV _ (I.fS x c e),λp hp=>?_,aW,I.len⟩
 .have e2:=I.base.ir b o u e
  rw[bX λhb=>nf b hb o u e]
  exact e2
 .obtain⟨more,e2⟩:=I.base.oQ b ps e
  exact⟨more,same b _ e2 λ_ _ y=>(nomatch y)⟩
 .exact cN (I.pin p hp) λe n r=>⟨e,uV _ n,r⟩
end
section
variable {X:Cx}{k:Nat}{f:Addr}{fd:FuncData}{ps:List Str}{sp:Sp}{x:Str}{p pos:Pos}{e:Expr}{es:List Expr}{t:TA}
def zb(F:iQ X.prog X.w X.K X.mg X.base wu k f fd ps sp)(hr:eL k X.A)(hg:Gl X x)(hm:X.mg x=some (.ref f))(hk:PySem.W.keepIn X.K (.ref f)=true)(hb:Binds X.K fd ps [])
  (ha:PA X (e::es) t) (Bm:(x==("__debug__":Str))=false) (he:starEach (e::es) X.env=(false,eval e X.env)::starEach es X.env) (iy:(backTo pos (starEach es X.env)).any (·.1)=false):
  PE X (.Call (.Name x p) (e::es) [] pos) (λσ H Q=>t σ H λvs H1=>∃as:List Addr,as.Nodup/\(∀b∈as,lU H1 b)/\∀H2,CK as H1 H2->sp (vs++[]) H2 (λv H3=>rm as H1 H3/\Q v (f_ as H1 H3)) E0):=by
 intro U s σ H Q I h
 refine Zj (oT I hg hm ?_ Bm)
 refine aaS (h₀:=X.base) I.ok.mod.Nk hk (bG (ha pos U s σ H _ I h) λus s1 ⟨vs,H1,I1,r,as,nd,NM,q⟩=>⟨I1.El,?_⟩) he iy
 exact aa (Inv.ir as I1 nd NM) λH2 I2 fz=>bG (xZ F hr hb .nil yk I2 r (q H2 fz)) λv s2 zz=>gH zz λy H3 I3 ry hc q3=>⟨y,_,I3.f_ (λb jE=>I1.nf (NM b jE)) hc,ry,q3⟩
def CL{e:Expr}{t:TE}(h:PE X e t):PE X e (λσ H Q=>t σ H λv H1=>∃as:List Addr,as.Nodup/\(∀b∈as,lU H1 b)/\∀H2,CK as H1 H2->Q v H2):=by
 intro U s σ H Q I q
 refine bG (h U s σ H _ I q) λv s1 zz=>aq λnO=>?_
 obtain⟨y,H1,I1,r1,as,nd,NM,q1⟩:=zz
 exact aa (Inv.ir as I1 nd NM) λH2 I2 fz=>nO<|⟨y,H2,I2,r1,q1 H2 fz⟩
end
section
variable {X:Cx}
def zc(K:PySem.W.Frag):V->List V->Hp->VK->Prop:=λx vs H Q=>∃l b xs zs,x= .ref l/\vs=[.ref b]/\H l=some (.lst xs)/\dq K H b zs/\xs.length+zs.length<=sizeLine/\Q .cy (upd H l (.lst (xs++zs)))
def zf:OV X "list.extend" (zc X.K):=by
 intro U s σ H x vs v us Q I rx rv h
 refine aq λnO=>Bv h λl b xs zs ag aP hH hB hz q=>?_
 try clear h
 subst ag
 subst aP
 cases rx
 refine aa rv.one λu cZ ru=>?_
 subst cZ
 cases ru
 obtain⟨z,its,n,r,hl,e⟩:=I.Gp hH
 refine nO ?_
 have key:∃(iz:List Value) (n2:Nat),aL zs iz/\s.heap.get? b=some {cls:= .type "list",data:= .seq iz.toArray n2}:=by
  rcases hB with hB|⟨o,its,m,h1,h2,h3,h4,h5,h6,h7⟩
  .refine aq λnO=>?_
   obtain⟨_,iz,n2,r2,e2⟩:=hB.ok I.aW
   exact nO<|⟨iz,n2,r2,e2⟩
  .have hg:=I.El b o h1
   refine aq λnO=>?_
   obtain⟨c,B4,dt,sl⟩:=o
   have h2:c= .type "list":=h2
   have h3:B4=none:=h3
   have h4:dt= .seq its m:=h4
   have h7:sl=#[]:=h7
   subst h2 h3 h4 h7
   exact nO<|⟨its.toList,m,h6,by simpa using hg⟩
 refine aq λnO=>ef key λiz n2 r2 e2=>nO ?_
 have UW:=r2.length
 have hsz:its.toArray.size+iz.toArray.size<=sizeLine:=by rw[W8,W8];lia
 have LQ:¬(!its.toArray.isEmpty&&Builtin.List.listTooLong (its.toArray.size+iz.toArray.size))=true:=by
  rw[yi hsz,Bool.and_false]
  exact W2
 refine call_meets F.slot_list_extend ⟨_,e,rfl⟩ F.entry_list_extend (F.args_list_extend_2 _ _) (AutoSeq1.list_extend_list_list_0 l its.toArray n b iz.toArray n2 LQ (by rw[W8];lia) (by lia)) ⟨e,e2,?_⟩
 refine⟨.cy,_,I.Gn (its':=its++iz) hH e (by simp) (r.append r2) ?_,rfl,q⟩
 rw[W_]
 lia
def rn(tk tv:TE):TE:=λσ H Q=>∀p,H p=none->tk σ (upd H p (.dK [])) λx H1=>tv σ H1 λy H2=>∃i:Int,x= .int i/\H2 p=some (.dK [])/\Q (.ref p) (upd H2 p (.dK [(Sum.inl i,y)]))
def CM(hu:X.A.units+1<cLine)(hk:PE X k tk)(hv:PE X v tv):PE X (.Dict [some k] [v] pos) (rn tk tv):=by
 intro U s σ H Q I h
 have hn:H s.heap.objs.size=none:=I.aW.fresh (W9 _)
 refine wpAny_Dict_any rfl rfl (by simp) (show 1<=15 by decide) ?_
 have I0:Inv X U σ (upd H s.heap.objs.size (.dK [])) {s with heap:=s.heap.push {cls:= .type "dict",data:= .dict #[]}}:=I.laid (a:=s.heap.objs.size) (o:= .dK []) (t':=s.toks) (λ_ _ q=>WY _ q) (W9 _) (yK s.heap I.big)
 refine pairTrees_cons_walk (bG (hk U _ σ _ _ I0 (h _ hn)) λkv s1 zz=>bu zz λx H1 I1 r1 q1=>bG (hv U s1 σ H1 _ I1 q1) λvv s2 zz=>bu zz λy H2 I2 r2 q2=>pairTrees_nil_walk ?_)
 refine aq λnO=>bJ q2 λi ex ep q3=>?_
 subst ex
 obtain⟨t,rfl⟩:=r1
 refine nO ?_
 unfold storeAll
 rw[YL]
 refine aq λnO=>?_
 obtain⟨z,hd,xs,eY,dd⟩:=EM I2.aW ep
 refine nO ?_
 have ry:RelV (kV (Sum.inl i)) (Value.int i t):=⟨t,rfl⟩
 have hz:xs.length<=sizeLine:=by rw[<-eY.length];exact z
 refine WV (WV (wpAny_dictSet_pairs (hsz:=hz) (knd:=br X.prog X.w) (nW ry) dd λh' Ca hs=>W7 ?_))
 dsimp only
 rw[List.forIn_nil]
 refine W7 ⟨.ref s.heap.objs.size,_,?_,rfl,q3⟩
 have he:∃q,h'.get? s.heap.objs.size=some q:=let ⟨q,_,_,hq,_⟩:=Ca;⟨q,hq⟩
 exact kS (t':=s2.toks+1) I2 (by rw[ep];exact True.intro) hs he (yJ (by rw[sizeLine_eq];exact(by decide:(1:Nat)<=16777216)) hd (eY.put (Sum.inl i) r2) Ca)
end
section
variable {prog:Program}{w:World}{A:Around}{E:Value->Shared->Prop}{s:Shared}{d:Addr}{es:Array DictEntry}{ep:Nat}
def rq(hh:A.handled=none)(lo:(d==sysModules)=false)(r:f6 s.heap d es ep)(NN:es.size<64)(hI:IntsAre (es.toList.map (·.key)) ns)
  (h:∀(h1 h':Heap) (tk:Nat) (out:Array Value) (c:Nat) (lI:List Int),(∀b o',s.heap.get? b=some o'->h1.get? b=some o')->(∀b o',h1.get? b=some o'->h'.get? b=some o')->h'.get? h1.objs.size=some {cls:= .type "list",data:= .seq out c}->IntsAre out.toList lI->lI.Perm ns->lI.Pairwise (· <= ·)->Q (.ref h1.objs.size) {s with heap:=h',toks:=tk}):
  wpAny (model prog w) A (call (.builtin "sorted") [.ref d]) Q E s:=by
 refine Zc kind_sorted plain_sorted entry_sorted (args_sorted1 _) ?_
 unfold Builtin.«sorted»
 refine WV (m:=checkCount "sorted" 1 1 _) (W7 (WV (kdu_collect (A:=A.in1) (uL lo) hh r (by rw[sizeLine_eq];lia) λh1 tk acc k1 it=>?_)))
 have hl:acc.toList.length=es.size:=by rw[Xt];exact it.1
 have eq:acc.toList=es.toList.map (·.key):=by
  apply Yj
  intro j
  rcases X0 j es.size with z|z
  .have hj:j<acc.toList.length:=by lia
   refine aa (it.2 j acc.toList[j] (by rw[<-XQ];exact WW hj)) λe e1 e2=>?_
   rw[WW hj,Xb,XQ,e1,e2]
   rfl
  .rw[Xr (by lia),Xr (by simpa using z)]
 rw[eq]
 refine WV (aaf ?_ (by rw[<-eq,hl,sizeLine_eq];lia))
 have Bz:(h1.push (seqObj "list" (es.toList.map (·.key)).toArray 0)).get? h1.objs.size=some (seqObj "list" (es.toList.map (·.key)).toArray 0):=Xe _ rfl
 refine WV (XT (XW slot_list_sort ⟨_,Bz,rfl⟩ entry_list_sort (list_sort_tree (s:={s with heap:=h1.push (seqObj "list" (es.toList.map (·.key)).toArray 0),toks:=tk}) Bz hI (by rw[<-eq,hl];exact NN) λout lI a1 a2 a3=>⟨_,rfl,?_⟩) (args_list_sort _)))
 refine W7 ⟨_,rfl,?_⟩
 have u1:=get?_update_seq Bz (λ_=>#[])
 have u2:=WY (seqObj "tuple" (es.toList.map (·.key)).toArray 0) u1
 have u3:=WY (seqObj "list" #[] 0) u2
 have u4:=get?_update_seq u3 (λ_=>out)
 refine h h1 _ tk out _ lI k1 (λb o' e=>?_) u4 a1 a2 a3
 have hb:b≠h1.objs.size:=Xu (Xg e)
 unfold sortedHeap
 rw[Xv _ _ (XY hb)]
 refine WY _ (WY _ ?_)
 rw[Xv _ _ (XY hb)]
 exact WY _ e
end
section
variable {X:Cx}
theorem uW:∀{ns:List Int}{vs:List Value},vs.length=ns.length->(∀(i:Nat) (n:Int),ns[i]?=some n->∃t,vs[i]?=some (.int n t))->IntsAre vs ns
 |[],[],_,_=> .nil
 |[],_::_,h,_=>nomatch h
 |_::_,[],h,_=>nomatch h
 |n::ns,v::vs,h,k=>by
  obtain⟨t,e⟩:=k 0 n rfl
  have e:v= .int n t:=by simpa using e
  subst e
  exact .cons n t (uW (by simpa using h) λi m hi=>by
   obtain⟨t',e'⟩:=k (i+1) m (by simpa using hi)
   exact⟨t',by simpa using e'⟩)
def pR(hc:X.calm=true):cX X (.builtin "sorted") (λxs H Q=>∃(p:Addr) (ay:List (cU×V)) (ns:List Int),xs=[.ref p]/\Rd H p (.dK ay)/\ay.map (·.1)=ns.map Sum.inl/\ns.length<64/\
  ∀lI:List Int,lI.Perm ns->lI.Pairwise (· <= ·)->∀l,H l=none->Q (.ref l) (upd H l (.lst (lI.map V.int)))):=by
 intro U s σ H xs us Q I r zz
 refine so zz λp ay ns e hq hk NN q=>?_
 subst e
 refine aa (vals1 r) λu ag rx=>?_
 subst ag
 cases rx
 refine jC (tJ I hq) λes ep g1 g2 g3 g4 g5=>?_
 have a_:ay.length=ns.length:=by
  have:=congrArg List.length hk
  rwa [WZ,WZ]at this
 have hI:IntsAre (es.toList.map (·.key)) ns:=by
  refine uW (by rw[WZ,Xt,g2,a_]) λi n hi=>?_
  have iX:i<ay.length:=by rw[a_];exact(Xf.mp hi).1
  refine aa (g5 i ay[i] (WW iX)) λen e1 e2=>?_
  have JA:ay[i].1 =Sum.inl n:=by
   have:=congrArg (λl:List cU=>l[i]?) hk
   simp only[Xb,hi,WW iX,Zl]at this
   exact Xn this
  rw[JA]at e2
  obtain⟨t,e3⟩:=e2
  exact⟨t,by rw[Xb,XQ,e1,<-e3];rfl⟩
 refine rq (I.ok.hd hc) g3 g1 (by lia) hI λh1 h' tk out c lI k1 k2 e a1 a2 a3=>?_
 have I1:Inv X U σ H {s with heap:=h1,toks:=tk}:=I.kept (t':=tk) k1
 have I2:Inv X U σ (upd H h1.objs.size (.lst (lI.map V.int))) {s with heap:=h',toks:=tk}:=
  I1.laid (t':=tk) k2 (W9 _) (show aZ X.prog X.w _ h' _ (.lst (lI.map V.int)) from⟨by rw[WZ,a2.length_eq,sizeLine_eq];lia,out.toList,c,i8 a1,by simpa using e⟩)
 exact⟨.ref h1.objs.size,_,I2,rfl,q lI a2 a3 _ (I1.aW.fresh (W9 _))⟩
end
end L2
namespace Py
open PySem PySem.Spec PyProof.Rows L2
abbrev St:=L2.St
def Qa(K:PySem.W.Frag)(a:Addr)(xs:List V):Prop:=
 ∃(o:Obj) (its:Array Value) (n:Nat),K.lookup a=some o/\o.cls= .type "list"/\o.dict=none/\o.data= .seq its n/\its.size<=sizeLine/\aL xs its.toList/\o.slots=#[]
noncomputable def gb(t:Nat)(ks:List (List Int))(vs:List V):HO:=if t=0 then .dK ((ks.map λk=>Sum.inl (k.headD 0)).zip vs) else .dT ((ks.map λk=>k.map Sum.inl).zip vs)
def rA:HO->Prop
 | .lst _=>True
 | .dK _=>True
 | .dT _=>True
 |_=>False
def ky:rA (gb t ks vs):=by unfold gb;split<;>exact trivial
def lV(t:Nat)(ks:List (List Int)):Prop:=ks.Nodup/\(t=0->∀k∈ks,∃i,k=[i])
mutual
inductive bA(K:PySem.W.Frag)(O:Addr->Prop)(H:Hp):V->D->Prop
 |cy:bA K O H .cy .cy
 |bl (b:Bool):bA K O H (.bl b) (.bl b)
 |int (i:Int):bA K O H (.int i) (.int i)
 |tup {a vs ds}:c9 K H a vs->av K O H vs ds->bA K O H (.ref a) (.tup ds)
 |lst {a vs ds}:Rd H a (.lst vs)->¬O a->av K O H vs ds->bA K O H (.ref a) (.lst ds)
 |mod {a vs ds}:Qa K a vs->av K O H vs ds->bA K O H (.ref a) (.lst ds)
 |bP {a o t ks vs ds}:H a=some (.dH o (gb t ks vs))->ks.length=vs.length->lV t ks->av K O H vs ds->bA K O H (.ref a) (.bP t ks ds)
inductive av(K:PySem.W.Frag)(O:Addr->Prop)(H:Hp):List V->List D->Prop
 |nil:av K O H [] []
 |cons {v d vs ds}:bA K O H v d->av K O H vs ds->av K O H (v::vs) (d::ds)
end
section
variable {K:PySem.W.Frag}{O O':Addr->Prop}{H H':Hp}
def gL(ht:∀a vs,c9 K H a vs->c9 K H' a vs)(hl:∀a vs,Rd H a (.lst vs)->¬O a->Rd H' a (.lst vs)/\¬O' a)(hz:∀a o u,H a=some (.dH o u)->H' a=some (.dH o u)):∀{v d},bA K O H v d->bA K O' H' v d:=λ{v d} h=>
 bA.rec (motive_1:=λv d _=>bA K O' H' v d) (motive_2:=λvs ds _=>av K O' H' vs ds) .cy .bl .int (λh _ ih=> .tup (ht _ _ h) ih) (λh n _ ih=> .lst (hl _ _ h n).1 (hl _ _ h n).2 ih) (λh _ ih=> .mod h ih) (λh l z _ ih=> .bP (hz _ _ _ h) l z ih) .nil (λ_ _ i1 i2=> .cons i1 i2) h
def fc(ht:∀a vs,c9 K H a vs->c9 K H' a vs)(hl:∀a vs,Rd H a (.lst vs)->¬O a->Rd H' a (.lst vs)/\¬O' a)(hz:∀a o u,H a=some (.dH o u)->H' a=some (.dH o u)):∀{vs ds},av K O H vs ds->av K O' H' vs ds:=λ{vs ds} h=>
 av.rec (motive_1:=λv d _=>bA K O' H' v d) (motive_2:=λvs ds _=>av K O' H' vs ds) .cy .bl .int (λh _ ih=> .tup (ht _ _ h) ih) (λh n _ ih=> .lst (hl _ _ h n).1 (hl _ _ h n).2 ih) (λh _ ih=> .mod h ih) (λh l z _ ih=> .bP (hz _ _ _ h) l z ih) .nil (λ_ _ i1 i2=> .cons i1 i2) h
def jk(s:af H H')(h:c9 K H a vs):c9 K H' a vs:=by
 exact s _ _ h
def kU(s:af H H')(h:Rd H a u):Rd H' a u:=h.elim (λh=> .inl (s _ _ h)) λ⟨o,h⟩=> .inr ⟨o,s _ _ h⟩
def bA.mono(h:bA K O H v d)(s:af H H'):bA K O H' v d:=gL (λ_ _=>jk s) (λ_ _ h n=>⟨kU s h,n⟩) (λ_ _ _ h=>s _ _ h) h
def av.mono(h:av K O H vs ds)(s:af H H'):av K O H' vs ds:=fc (λ_ _=>jk s) (λ_ _ h n=>⟨kU s h,n⟩) (λ_ _ _ h=>s _ _ h) h
def bA.weak(h:bA K O H v d)(s:∀a,O' a->O a):bA K O' H v d:=gL (λ_ _ h=>h) (λ_ _ h n=>⟨h,λz=>n (s _ z)⟩) (λ_ _ _ h=>h) h
def av.weak(h:av K O H vs ds)(s:∀a,O' a->O a):av K O' H vs ds:=fc (λ_ _ h=>h) (λ_ _ h n=>⟨h,λz=>n (s _ z)⟩) (λ_ _ _ h=>h) h
def uX(ha:H a=some u)(hu:rA u)(h:c9 K H b vs):c9 K (L2.upd H a o) b vs:=by
 have h':H b=some (.tup vs):=h
 show L2.upd H a o b=some (.tup vs)
 rw[ak (fR h' ha (by intro z;rw[<-z]at hu;exact hu))]
 exact h'
def uY(ha:H a=some u)(hu:rA u)(h:H b=some (.dH q w)):L2.upd H a o b=some (.dH q w):=by
 rw[ak (fR h ha (by intro z;rw[<-z]at hu;exact hu))]
 exact h
def uZ(tM:b≠a)(h:Rd H b (.lst vs)):Rd (L2.upd H a o) b (.lst vs):=by
 rcases h with h|⟨u,h⟩
 .exact .inl (by rw[ak tM];exact h)
 .exact .inr ⟨u,by rw[ak tM];exact h⟩
theorem bA.upd(h:bA K O H v d)(ho:O a)(ha:H a=some u)(hu:rA u):bA K O (L2.upd H a o) v d:=
 gL (λ_ _ h=>uX ha hu h) (λb _ h n=>⟨uZ (λz=>n (z▸ho)) h,n⟩) (λ_ _ _ h=>uY ha hu h) h
theorem av.upd(h:av K O H vs ds)(ho:O a)(ha:H a=some u)(hu:rA u):av K O (L2.upd H a o) vs ds:=
 fc (λ_ _ h=>uX ha hu h) (λb _ h n=>⟨uZ (λz=>n (z▸ho)) h,n⟩) (λ_ _ _ h=>uY ha hu h) h
def kW(hp:H p=none):¬Rd H p u:=λh=>by
 rcases h with h|⟨o,h⟩
 .rw[hp]at h;cases h
 .rw[hp]at h;cases h
def av.own(h:av K O H vs ds)(hp:H p=none):av K (λa=>O a\/a=p) H vs ds:=
 fc (λ_ _ h=>h) (λb us h n=>⟨h,λz=>z.elim n λe=>kW hp (e▸h)⟩) (λ_ _ _ h=>h) h
def bA.own(h:bA K O H v d)(hp:H p=none):bA K (λa=>O a\/a=p) H v d:=
 gL (λ_ _ h=>h) (λb us h n=>⟨h,λz=>z.elim n λe=>kW hp (e▸h)⟩) (λ_ _ _ h=>h) h
def wY(h:bA K O H v d):aI d=true->bA K O' H v d:=
 bA.rec (motive_1:=λv d _=>aI d=true->bA K O' H v d) (motive_2:=λvs ds _=>ba ds=true->av K O' H vs ds) (λ_=> .cy) (λb _=> .bl b) (λi _=> .int i)
  (λh _ ih n=> .tup h (ih (by simpa[aI]using n))) (λ_ _ _ _ n=>absurd n (by simp[aI])) (λ_ _ _ n=>absurd n (by simp[aI])) (λ_ _ _ _ _ n=>absurd n (by simp[aI])) (λ_=> .nil)
  (λ_ _ i1 i2 n=>by
   simp only[ba,WX]at n
   exact .cons (i1 n.1) (i2 n.2)) h
theorem av.length:∀{vs:List V}{ds:List D},av K O H vs ds->vs.length=ds.length
 |_,_,.nil =>rfl
 |_,_,.cons _ t=>by rw[Xm,Xm,av.length t]
theorem av.get:∀{vs:List V}{ds:List D}{i:Nat}{d:D},av K O H vs ds->ds[i]?=some d->∃v,vs[i]?=some v/\bA K O H v d
 |_,_,_,_,.nil,e=>by simp at e
 |_,_,0,_,.cons r _,e=>by simp at e;subst e;exact⟨_,rfl,r⟩
 |_,_,i+1,d,.cons _ t,e=>by
  exact aa (av.get (i:=i) (d:=d) t (by simpa using e)) λv h1 h2=>⟨v,by simpa using h1,h2⟩
theorem av.append:∀{xs ys:List V}{us ws:List D},av K O H xs us->av K O H ys ws->av K O H (xs++ys) (us++ws)
 |_,_,_,_,.nil,s=>s
 |_,_,_,_,.cons r t,s=> .cons r (av.append t s)
theorem av.take:∀{xs:List V}{us:List D} (n:Nat),av K O H xs us->av K O H (xs.take n) (us.take n)
 |_,_,0,_=> .nil
 |_,_,_+1,.nil => .nil
 |_,_,n+1,.cons r t=> .cons r (av.take n t)
theorem av.drop:∀{xs:List V}{us:List D} (n:Nat),av K O H xs us->av K O H (xs.drop n) (us.drop n)
 |_,_,0,r=>r
 |_,_,_+1,.nil => .nil
 |_,_,n+1,.cons _ t=>av.drop n t
theorem av.set(r:bA K O H x u):∀{xs:List V}{us:List D} (i:Nat),av K O H xs us->av K O H (xs.set i x) (us.set i u)
 |_,_,_,.nil => .nil
 |_,_,0,.cons _ t=> .cons r t
 |_,_,i+1,.cons q t=> .cons q (av.set r i t)
def bA.int_inv(h:bA K O H v (.int i)):v= .int i:=by cases h;rfl
def bA.tQ(h:bA K O H v (.bl i)):v= .bl i:=by cases h;rfl
def bA.CN(h:bA K O H v .cy):v= .cy :=by cases h;rfl
def bA.jl(h:bA K O H v (.tup ds)):∃a vs,v= .ref a/\c9 K H a vs/\av K O H vs ds:=by
 cases h with
 |tup h1 h2=>exact⟨_,_,rfl,h1,h2⟩
def bA.lst_inv(h:bA K O H v (.lst ds)):∃a vs,v= .ref a/\dq K H a vs/\av K O H vs ds:=by
 cases h with
 |lst h1 _ h2=>exact⟨_,_,rfl,.inl h1,h2⟩
 |mod h1 h2=>exact⟨_,_,rfl,.inr h1,h2⟩
theorem fg:∀(ns:List Int),av K O H (ns.map V.int) (ns.map D.int)
 |[]=> .nil
 |n::ns=> .cons (.int n) (fg ns)
def bS(K:PySem.W.Frag)(O:Addr->Prop)(b:Bool)(H:Hp)(v:V)(d:D):Prop:=
 bA K O H v d\/(b=true/\∃a vs ds,v= .ref a/\d= .lst ds/\H a=some (.lst vs)/\av K O H vs ds)
variable {b:Bool}{v:V}{d:D}
theorem bS.mono(h:bS K O b H v d)(s:af H H'):bS K O b H' v d:=by
 rcases h with h|⟨e,a,vs,ds,h1,h2,h3,h4⟩
 .exact .inl (h.mono s)
 .exact .inr ⟨e,a,vs,ds,h1,h2,s _ _ h3,h4.mono s⟩
def bS.own(h:bS K O false H v d):bA K O H v d:=h.elim id λz=>absurd z.1 W2
theorem bS.int(h:bS K O b H v (.int i)):v= .int i:=by
 rcases h with h|⟨_,_,_,_,_,h,_⟩
 .exact h.int_inv
 .cases h
theorem bS.bl(h:bS K O b H v (.bl i)):v= .bl i:=by
 rcases h with h|⟨_,_,_,_,_,h,_⟩
 .exact h.tQ
 .cases h
theorem bS.cy(h:bS K O b H v .cy):v= .cy :=by
 rcases h with h|⟨_,_,_,_,_,h,_⟩
 .exact h.CN
 .cases h
theorem bS.tup{ds:List D}(h:bS K O b H v (.tup ds)):∃a vs,v= .ref a/\c9 K H a vs/\av K O H vs ds:=by
 rcases h with h|⟨_,_,_,_,_,h,_⟩
 .exact h.jl
 .cases h
theorem bS.lst{ds:List D}(h:bS K O b H v (.lst ds)):∃a vs,v= .ref a/\dq K H a vs/\av K O H vs ds:=by
 rcases h with h|⟨_,a,vs,LR,h1,h2,h3,h4⟩
 .exact h.lst_inv
 .cases h2
  exact⟨a,vs,h1,dq.of h3,h4⟩
theorem bS.seq(h:bS K O b H v d)(e:Py.seq d=some xs):∃a vs,v= .ref a/\(dq K H a vs\/c9 K H a vs)/\av K O H vs xs:=by
 refine aq λnO=>?_
 cases d with
 |lst ds=>
  refine nO ?_
  cases e;obtain⟨a,vs,h1,h2,h3⟩:=h.lst;exact⟨a,vs,h1,.inl h2,h3⟩
 |tup ds=>
  refine nO ?_
  cases e;obtain⟨a,vs,h1,h2,h3⟩:=h.tup;exact⟨a,vs,h1,.inr h2,h3⟩
 |_=>cases e
def bS.Hc(h:bS K O b H v (.bP t ks ds)):∃a,v= .ref a:=by
 rcases h with h|⟨_,_,_,_,_,h,_⟩
 .cases h;exact⟨_,rfl⟩
 .cases h
def bS.any(h:bS K O b H v d):bA K (λ_=>False) H v d:=by
 rcases h with h|⟨_,a,vs,LR,h1,h2,h3,h4⟩
 .exact h.weak λ_ z=>z.elim
 .subst h1 h2
  exact .lst (.inl h3) id (h4.weak λ_ z=>z.elim)
end
def eh(K:PySem.W.Frag)(O:Addr->Prop)(H:Hp)(a:Addr)(d:D):Prop:=
 (∃vs ds,d= .lst ds/\H a=some (.lst vs)/\av K O H vs ds)\/
 (∃t ks vs ds,d= .bP t ks ds/\H a=some (gb t ks vs)/\ks.length=vs.length/\lV t ks/\av K O H vs ds)\/
 d=tm/\∃u,H a=some u/\rA u
section
variable {K:PySem.W.Frag}{O O':Addr->Prop}{H H':Hp}{a:Addr}{d:D}
theorem eh.mono(h:eh K O H a d)(s:af H H'):eh K O H' a d:=by
 rcases h with⟨vs,ds,e1,e2,e3⟩|⟨t,ks,vs,ds,e1,e2,e3,e4,e5⟩|⟨e1,u',e2,e3⟩
 .exact .inl ⟨vs,ds,e1,s _ _ e2,e3.mono s⟩
 .exact .inr (.inl ⟨t,ks,vs,ds,e1,s _ _ e2,e3,e4,e5.mono s⟩)
 .exact .inr (.inr ⟨e1,u',s _ _ e2,e3⟩)
theorem eh.weak(h:eh K O H a d)(s:∀a,O' a->O a):eh K O' H a d:=by
 rcases h with⟨vs,ds,e1,e2,e3⟩|⟨t,ks,vs,ds,e1,e2,e3,e4,e5⟩|⟨e1,u',e2,e3⟩
 .exact .inl ⟨vs,ds,e1,e2,e3.weak s⟩
 .exact .inr (.inl ⟨t,ks,vs,ds,e1,e2,e3,e4,e5.weak s⟩)
 .exact .inr (.inr ⟨e1,u',e2,e3⟩)
theorem eh.own(h:eh K O H a d)(hp:H p=none):eh K (λa=>O a\/a=p) H a d:=by
 rcases h with⟨vs,ds,e1,e2,e3⟩|⟨t,ks,vs,ds,e1,e2,e3,e4,e5⟩|⟨e1,u',e2,e3⟩
 .exact .inl ⟨vs,ds,e1,e2,e3.own hp⟩
 .exact .inr (.inl ⟨t,ks,vs,ds,e1,e2,e3,e4,e5.own hp⟩)
 .exact .inr (.inr ⟨e1,u',e2,e3⟩)
theorem eh.upd(h:eh K O H a d)(hb:a≠b)(ho:O b)(Sy:H b=some u)(hu:rA u):eh K O (L2.upd H b o) a d:=by
 rcases h with⟨vs,ds,e1,e2,e3⟩|⟨t,ks,vs,ds,e1,e2,e3,e4,e5⟩|⟨e1,u',e2,e3⟩
 .exact .inl ⟨vs,ds,e1,by rw[ak hb];exact e2,e3.upd ho Sy hu⟩
 .exact .inr (.inl ⟨t,ks,vs,ds,e1,by rw[ak hb];exact e2,e3,e4,e5.upd ho Sy hu⟩)
 .exact .inr (.inr ⟨e1,u',by rw[ak hb];exact e2,e3⟩)
theorem eh.lst{ds:List D}(h:eh K O H a (.lst ds)):∃vs,H a=some (.lst vs)/\av K O H vs ds:=by
 rcases h with⟨vs,ds,e1,e2,e3⟩|⟨t,ks,vs,ds,e1,_⟩|⟨e1,_⟩
 .cases e1;exact⟨vs,e2,e3⟩
 .cases e1
 .cases e1
theorem eh.bP(h:eh K O H a (.bP t ks ds))(h2:t≠2):∃vs,H a=some (gb t ks vs)/\ks.length=vs.length/\lV t ks/\av K O H vs ds:=by
 rcases h with⟨vs,ds,e1,e2,e3⟩|⟨t,ks,vs,ds,e1,e2,e3,e4,e5⟩|⟨e1,u',e2,e3⟩
 .cases e1
 .cases e1;exact⟨vs,e2,e3,e4,e5⟩
 .cases e1;exact absurd rfl h2
end
structure EX(K:PySem.W.Frag)(O:Addr->Prop)(σ:St)(H:Hp)(ρ:Env):Prop where
 live:∀a,O a->∃u,H a=some u/\rA u
 jI:∀(i:Nat) (o:Bool) (d:D),ρ[i]?=some (some (o,d))->∃v,σ[i]?=some (some v)/\
  if o=true then∃a,v= .ref a/\O a/\eh K O H a d else bA K O H v d
theorem EX.mono{K:PySem.W.Frag}{O:Addr->Prop}{σ:St}{H H':Hp}{ρ:Env}(h:EX K O σ H ρ)(s:af H H'):EX K O σ H' ρ:=by
 refine⟨λa ha=>let ⟨u,e,q⟩:=h.live a ha;⟨u,s _ _ e,q⟩,λi o d e=>?_⟩
 refine aa (h.jI i o d e) λv h1 h2=>⟨v,h1,?_⟩
 cases o with
 |true=>
  exact bJ h2 λa e1 e2 c=>⟨a,e1,e2,c.mono s⟩
 |false=>exact bA.mono h2 s
def EX.free{K:PySem.W.Frag}{O:Addr->Prop}{σ:St}{H H1:Hp}{ρ:Env}(h:EX K O σ H ρ)(s:af H H1){p:Addr}(hp:H1 p=none):¬O p:=λz=>by
 refine aa (h.live p z) λvs e _=>?_
 rw[s _ _ e]at hp;cases hp
def bind_some{α β:Type}{o:Option α}{f:α->Option β}{y:β}(h:o.bind f=some y):∃x,o=some x/\f x=some y:=by
 cases o with
 |none=>cases h
 |some x=>exact⟨x,rfl,h⟩
def map_some{α β:Type}{o:Option α}{f:α->β}{y:β}(h:o.map f=some y):∃x,o=some x/\f x=y:=by
 cases o with
 |none=>cases h
 |some x=>exact⟨x,rfl,Xn h⟩
def tV(K:PySem.W.Frag)(b:Bool)(f:Env->Option D):TE:=λσ H Q=>∃O ρ d,EX K O σ H ρ/\f ρ=some d/\∀v H',af H H'->bS K O b H' v d->Q v H'
def tF(K:PySem.W.Frag)(f:Env->Option (List D)):TE:=λσ H Q=>∃O ρ ds,EX K O σ H ρ/\f ρ=some ds/\∀p vs H1,af H H1->H1 p=none->av K O H1 vs ds->Q (.ref p) (L2.upd H1 p (.lst vs))
def tB(K:PySem.W.Frag)(f:Env->Option Bool):TT:=λσ H Q=>∃O ρ k,EX K O σ H ρ/\f ρ=some k/\∀H',af H H'->Q k H'
def sD(K:PySem.W.Frag)(b:Bool)(f:Env->Option (List D)):TA:=λσ H Q=>∃O ρ ds,EX K O σ H ρ/\f ρ=some ds/\∀vs H',af H H'->Paired (bS K O b H') vs ds->Q vs H'
theorem af.upd(h:H p=none):af H (L2.upd H p o):=λb u e=>by rw[ak (cc e h)];exact e
section
variable {X:Cx}{a b c e:Expr}{pos:Pos}{m:Bool}{es:List Expr}
def _root_.L2.PE.weak(h:PE X e t)(w:∀σ H Q,t' σ H Q->t σ H Q):PE X e t':=λU s σ H Q I q=>h U s σ H Q I (w σ H Q q)
def _root_.L2.PT.weak(h:PT X e t)(w:∀σ H Q,t' σ H Q->t σ H Q):PT X e t':=λU s σ H Q I q=>h U s σ H Q I (w σ H Q q)
def CO{f:Env->Option D}{f':Env->Option (List D)}(h:PE X e (tF X.K f'))(hf:∀ρ d,f ρ=some d->∃ds,f' ρ=some ds/\d= .lst ds):PE X e (tV X.K m f):=h.weak λσ H Q zz=>by
 refine cS zz λO ρ d hx hd k=>aa (hf ρ d hd) λds e1 ag=>?_
 subst ag
 refine⟨O,ρ,ds,hx,e1,λp vs H1 s1 hp r=>k _ _ (s1.trans (af.upd hp)) (.inl (.lst (.inl ah) (hx.free s1 hp) (r.mono (af.upd hp))))⟩
def v_var(hN:X.N[i]?=some x)(hv:v8 X.env.scope x)(hd:(x==("__debug__":Str))=false)(xR:(x==("__classdict__":Str))=false):PE X (.Name x pos) (tV X.K m λρ=>rd m ρ i):=
 (bQ hN hv hd xR).weak λσ H Q zz=>by
  refine cS zz λO ρ d hx hd k=>?_
  have hd:rd m ρ i=some d:=hd
  unfold rd at hd
  split at hd
  .rename_i o d' e
   refine aa (hx.jI i o d' e) λv h1 h2=>⟨v,h1,k v H (af.refl _) ?_⟩
   cases o with
   |true=>
    cases m with
    |true=>
     refine bJ h2 λa e1 e2 c=>?_
     rcases c with⟨vs,ds,f1,f2,f3⟩|⟨t,ks,vs,ds,f1,_⟩|⟨f1,_⟩
     .subst f1
      cases hd
      exact .inr ⟨rfl,a,vs,ds,e1,rfl,f2,f3⟩
     .subst f1
      cases hd
     .subst f1
      cases hd
    |false=>cases hd
   |false=>
    cases hd
    exact .inl h2
  .cases hd
def NO{d:D}{v:V}{t:TE}(h:PE X e (tC v))(r:∀K O H,bA K O H v d):PE X e (tV X.K m λ_=>some d):=h.weak λσ H Q zz=>by
 refine cS zz λO ρ d' hx hd k=>?_
 cases hd
 exact k v H (af.refl _) (.inl (r _ _ _))
def u0{f:Value->Value->Sem Value}{fa fb:Env->Option D}{g:D->D->Option D}{r:R2}(ha:PE X a (tV X.K true fa))(hb:PE X b (tV X.K true fb))(mk:∀ta tb,PE X a ta->PE X b tb->PE X e (Ep r ta tb))
  (hr:∀O σ (ρ:Env) H x y d v w Q,EX X.K O σ H ρ->bS X.K O true H v x->bS X.K O true H w y->g x y=some d->(∀u H',af H H'->bS X.K O m H' u d->Q u H')->r v w H Q):
  PE X e (tV X.K m λρ=>(fa ρ).bind λx=>(fb ρ).bind λy=>g x y):=(mk _ _ ha hb).weak λσ H Q zz=>by
 exact cS zz λO ρ d hx hd k=>aa (bind_some hd) λx e1 hd=>aa (bind_some hd) λy e2 hd=>⟨O,ρ,x,hx,e1,λv H1 s1 r1=>⟨O,ρ,y,hx.mono s1,e2,λw H2 s2 r2=>hr O σ ρ H2 x y d v w Q (hx.mono (s1.trans s2)) (r1.mono s2) r2 hd λu H' s' r'=>k u H' ((s1.trans s2).trans s') r'⟩⟩
def _root_.L2.PE.U3(h:∀ρ,f ρ=none):PE X e (tV X.K m f):=λU s σ H Q I ⟨O,ρ,d,hx,hd,k⟩=>by rw[h]at hd;cases hd
def EW(K:PySem.W.Frag):R2:=λx y H Q=>∃l b xs zs,x= .ref l/\y= .ref b/\dq K H l xs/\dq K H b zs/\xs.length+zs.length<=sizeLine/\∀p,H p=none->Q (.ref p) (L2.upd H p (.lst (xs++zs)))
def CP:kj X (binaryOp .Add) (EW X.K):=by
 intro U s σ H x y v u Q I rx ry h
 refine Bv h λl b xs zs ag aP hl hb hz q=>?_
 try clear h
 subst ag
 subst aP
 cases rx
 cases ry
 refine gH (I.EC hl) λits n r e1 e z=>gH (I.EC hb) λiz n2 r2 aa e2 z2=>PySem.P.add_list e e2 ?_ (by rw[W8,W8];lia)
 have ea:its.toArray++iz.toArray=(its++iz).toArray :=by simp
 rw[ea]
 exact⟨.ref _,_,I.KA (t':=s.toks) (r.append r2) (by rw[W_];lia),rfl,q _ I.fresh⟩
noncomputable def EY(K:PySem.W.Frag):R2:=λx y H Q=>∃a b ys,x= .ref a/\y= .ref b/\c9 K H a []/\c9 K H b ys/\Q (.ref b) H
def F'(K:PySem.W.Frag):R2:=λx y H Q=>Kh (λi j=> .int (i+j)) x y H Q\/Ex K x y H Q\/EW K x y H Q\/EY K x y H Q
def n_:kj X (binaryOp .Add) (F' X.K):=F3.or (kj.or BR (kj.or CP (r':=EY X.K) B8))
def cQ:(sizeLine:Nat)=bE:=by rw[sizeLine_eq];rfl
def v_add(ha:PE X a (tV X.K true fa))(hb:PE X b (tV X.K true fb)):PE X (.BinOp a .Add b pos) (tV X.K m λρ=>(fa ρ).bind λx=>(fb ρ).bind λy=>bin .Add x y):=
 u0 (f:=binaryOp .Add) (r:=F' X.K) ha hb (λ_ _ h1 h2=>qz n_ h1 h2) λO σ ρ H x y d v w Q hx r1 r2 hd k=>by
  cases x with
  |int i=>
   cases y with
   |int j=>cases hd;exact .inl ⟨i,j,r1.int,r2.int,k _ _ (af.refl _) (.inl (.int _))⟩
   |_=>cases hd
  |tup us=>
   cases y with
   |tup ws=>
    simp only[bin]at hd
    split at hd
    .rename_i hz
     cases hd
     refine bu r1.tup λa1 vs ag q1 p1=>?_
     subst ag
     refine bu r2.tup λa2 zs aP q2 p2=>?_
     subst aP
     have l1:=p1.length
     have l2:=p2.length
     by_cases fJ:vs=[]
     .subst fJ
      cases p1
      exact .inr (.inr (.inr ⟨a1,a2,zs,rfl,rfl,q1,q2,k _ _ (af.refl _) (.inl (.tup q2 p2))⟩))
     .refine .inr (.inl ⟨a1,a2,vs,zs,rfl,rfl,q1,q2,fJ,by rw[cQ,l1,l2];exact hz,λez=>?_,λ_ p hp=>?_⟩)
      .subst ez
       cases p2
       rw[XF]at k
       exact k _ _ (af.refl _) (.inl (.tup q1 p1))
      .exact k _ _ (af.upd hp) (.inl (.tup (c9.of ah) ((p1.append p2).mono (af.upd hp))))
    .cases hd
   |_=>cases hd
  |lst us=>
   cases y with
   |lst ws=>
    simp only[bin]at hd
    split at hd
    .rename_i hz
     cases hd
     refine bu r1.lst λa1 vs cZ q1 p1=>?_
     subst cZ
     refine bu r2.lst λa2 zs nu q2 p2=>?_
     subst nu
     have l1:=p1.length
     have l2:=p2.length
     refine .inr (.inr (.inl ⟨a1,a2,vs,zs,rfl,rfl,q1,q2,by rw[cQ,l1,l2];exact hz,λp hp=>?_⟩))
     exact k _ _ (af.upd hp) (.inl (.lst (.inl ah) (hx.free (af.refl _) hp) ((p1.append p2).mono (af.upd hp))))
    .cases hd
   |_=>cases hd
  |_=>cases hd
def LU(ha:PE X a (tV X.K true fa))(hb:PE X b (tV X.K true fb)):PE X (.BinOp a .Add b pos) (tF X.K λρ=>((fa ρ).bind λx=>(fb ρ).bind λy=>bin .Add x y).bind λd=>match d with| .lst ds=>some ds|_=>none):=
 (qz n_ ha hb).weak λσ H Q zz=>by
  refine cS zz λO ρ ds hx hd k=>aa (bind_some hd) λz hd Lx=>aa (bind_some hd) λx e1 hd=>aa (bind_some hd) λy e2 hd=>⟨O,ρ,x,hx,e1,λv H1 s1 r1=>⟨O,ρ,y,hx.mono s1,e2,λw H2 s2 r2=>?_⟩⟩
  have ny:=r1.mono s2
  cases x with
  |lst us=>
   cases y with
   |lst ws=>
    simp only[bin]at hd
    split at hd
    .rename_i hz
     cases hd
     cases Lx
     refine bu ny.lst λa1 vs ag q1 p1=>?_
     subst ag
     refine bu r2.lst λa2 zs aP q2 p2=>?_
     subst aP
     have l1:=p1.length
     have l2:=p2.length
     exact .inr (.inr (.inl ⟨a1,a2,vs,zs,rfl,rfl,q1,q2,by rw[cQ,l1,l2];exact hz,λp hp=>k p _ H2 (s1.trans s2) hp (p1.append p2)⟩))
    .cases hd
   |_=>cases hd
  |int i=>
   cases y with
   |int j=>cases hd;cases Lx
   |_=>cases hd
  |tup i=>
   cases y with
   |tup j=>
    simp only[bin]at hd
    split at hd<;>cases hd<;>cases Lx
   |_=>cases hd
  |_=>cases hd
def CQ(h:dh i j=true):BF i j:=by
 unfold dh at h
 simp only[ZM,WX,decide_eq_true_eq]at h
 exact h
def EZ(ha:PE X a (tV X.K true fa))(hb:PE X b (tV X.K true fb)):PE X (.BinOp a o b pos) (tV X.K m λρ=>(fa ρ).bind λx=>(fb ρ).bind λy=>bin o x y):=by
 have no:∀(f:Env->Option D) (g:Env->Option D),(∀ρ,((f ρ).bind λ_=>(g ρ).bind λ_=>(none:Option D))=none):=λf g ρ=>by
  cases f ρ<;>simp
 cases o with
 |Add=>exact v_add ha hb
 |Mult=>
  exact u0 (f:=binaryOp .Mult) ha hb (λ_ _ h1 h2=>qz F4 h1 h2) λO σ ρ H x y d v w Q hx r1 r2 hd k=>by
   cases x with
   |int i=>
    cases y with
    |int j=>
     simp only[bin]at hd
     split at hd
     .rename_i hz
      cases hd
      exact⟨i,j,r1.int,r2.int,CQ hz,k _ _ (af.refl _) (.inl (.int _))⟩
     .cases hd
    |_=>cases hd
   |_=>cases hd
 |FloorDiv=>
  exact u0 (f:=binaryOp .FloorDiv) ha hb (λ_ _ h1 h2=>qz BG h1 h2) λO σ ρ H x y d v w Q hx r1 r2 hd k=>by
   cases x with
   |int i=>
    cases y with
    |int j=>
     simp only[bin]at hd
     split at hd
     .rename_i hz
      cases hd
      exact⟨i,j,r1.int,r2.int,hz,k _ _ (af.refl _) (.inl (.int _))⟩
     .cases hd
    |_=>cases hd
   |_=>cases hd
 |Mod=>
  exact u0 (f:=binaryOp .Mod) ha hb (λ_ _ h1 h2=>qz F5 h1 h2) λO σ ρ H x y d v w Q hx r1 r2 hd k=>by
   cases x with
   |int i=>
    cases y with
    |int j=>
     simp only[bin]at hd
     split at hd
     .rename_i hz
      cases hd
      exact⟨i,j,r1.int,r2.int,hz,k _ _ (af.refl _) (.inl (.int _))⟩
     .cases hd
    |_=>cases hd
   |_=>cases hd
 |_=>exact PE.U3 λρ=>no fa fb ρ
def rB(h:yu d=some i):d= .int i:=by cases d<;>first|(cases h;rfl)|cases h
def dU(h:eN d=some i):d= .bl i:=by cases d<;>first|(cases h;rfl)|cases h
mutual
noncomputable def cV:D->PyData
 | .cy => .none
 | .bl b=> .bool b
 | .int i=> .int i
 | .tup xs=> .tuple (c6 xs)
 | .lst xs=> .list (c6 xs)
 | .bP _ _ _=> .none
noncomputable def c6:List D->List PyData
 |[]=>[]
 |x::xs=>cV x::c6 xs
end
mutual
theorem jm:∀x y:D,PyData.eqv (cV x) (cV y)=fT x y
 | .cy,y=>by cases y<;>simp[cV,PyData.eqv,fT]
 | .bl b,y=>by cases y<;>simp[cV,PyData.eqv,fT]
 | .int b,y=>by cases y<;>simp[cV,PyData.eqv,fT]
 | .tup xs,y=>by
  cases y with
  |tup ys=>simp only[cV,PyData.eqv,fT];exact jR xs ys
  |_=>simp[cV,PyData.eqv,fT]
 | .lst xs,y=>by
  cases y with
  |lst ys=>simp only[cV,PyData.eqv,fT];exact jR xs ys
  |_=>simp[cV,PyData.eqv,fT]
 | .bP _ _ _,y=>by cases y<;>simp[cV,PyData.eqv,fT]
theorem jR:∀xs ys:List D,PyData.eqvAll (c6 xs) (c6 ys)=uB xs ys
 |[],ys=>by cases ys<;>simp[c6,PyData.eqvAll,uB]
 |x::xs,ys=>by
  cases ys with
  |nil=>simp[c6,PyData.eqvAll,uB]
  |cons y ys=>simp only[c6,PyData.eqvAll,uB];rw[jm x y,jR xs ys]
end
mutual
theorem jS:∀(x:D) (n:Nat),cL x n=true->(cV x).canLay0 =true/\(cV x).depth <=n
 | .cy,n,h=>by simp[cV,PyData.canLay0,PyData.depth]
 | .bl b,n,h=>by simp[cV,PyData.canLay0,PyData.depth]
 | .int i,n,h=>by simp[cV,PyData.canLay0,PyData.depth]
 | .tup xs,0,h=>by simp[cL]at h
 | .lst xs,0,h=>by simp[cL]at h
 | .bP _ _ _,n,h=>by simp[cL]at h
 | .tup xs,n+1,h=>by
  simp only[cL]at h
  obtain⟨h1,h2⟩:=kX xs n h
  simp only[cV,PyData.canLay0,PyData.depth]
  exact⟨h1,Nat.succ_le_succ h2⟩
 | .lst xs,n+1,h=>by
  simp only[cL]at h
  obtain⟨h1,h2⟩:=kX xs n h
  simp only[cV,PyData.canLay0,PyData.depth]
  exact⟨h1,Nat.succ_le_succ h2⟩
theorem kX:∀(xs:List D) (n:Nat),fX xs n=true->PyData.canLayAll0 (c6 xs)=true/\PyData.depthAll (c6 xs)<=n
 |[],n,h=>by simp[c6,PyData.canLayAll0,PyData.depthAll]
 |x::xs,n,h=>by
  simp only[fX,WX]at h
  obtain⟨h1,h2⟩:=jS x n h.1
  obtain⟨h3,h4⟩:=kX xs n h.2
  simp only[c6,PyData.canLayAll0,PyData.depthAll,h1,h3,aaW,true_and]
  exact Nat.max_le.mpr ⟨h2,h4⟩
end
def fj(I:Inv X U σ H s)(h:bA X.K O H v d):∀n,cL d n=true->∀u,RelV v u->∃as,Reads s.heap u (cV d) as:=
 bA.rec (motive_1:=λv d _=>∀n,cL d n=true->∀u,RelV v u->∃as,Reads s.heap u (cV d) as) (motive_2:=λvs ds _=>∀n,fX ds n=true->∀us,aL vs us->∃as,ReadsAll s.heap us (c6 ds) as)
  (λ_ _ u r=>by cases r;exact⟨_,by rw[cV];exact .none⟩) (λb _ _ u r=>by cases r;exact⟨_,by rw[cV];exact .bool b⟩) (λi _ _ u r=>by obtain⟨t,rfl⟩:=r;exact⟨_,by rw[cV];exact .int i t⟩)
  (λ{a vs ds} h _ ih n hl u r=>by
   cases r
   cases n with
   |zero=>simp[cL]at hl
   |succ n=>
    simp only[cL]at hl
    refine aq λnO=>?_
    obtain⟨its,rv,⟨o,ho,hc,n',hd⟩,hz⟩:=I.tuple h
    obtain⟨as,ra⟩:=ih n hl its rv
    exact nO<|⟨as,by rw[cV];exact .tuple ho hc hd (by simpa using ra)⟩)
  (λ{a vs ds} h _ _ ih n hl u r=>by
   cases r
   cases n with
   |zero=>simp[cL]at hl
   |succ n=>
    simp only[cL]at hl
    refine aq λnO=>?_
    obtain⟨its,rv,⟨o,n',ho,hc,_,hd⟩,hz⟩:=I.list (.inl h)
    obtain⟨as,ra⟩:=ih n hl its rv
    exact nO<|⟨_,by rw[cV];exact .list ho hc hd (by simpa using ra)⟩)
  (λ{a vs ds} h _ ih n hl u r=>by
   cases r
   cases n with
   |zero=>simp[cL]at hl
   |succ n=>
    simp only[cL]at hl
    refine aq λnO=>?_
    obtain⟨its,rv,⟨o,n',ho,hc,_,hd⟩,hz⟩:=I.list (.inr h)
    obtain⟨as,ra⟩:=ih n hl its rv
    exact nO<|⟨_,by rw[cV];exact .list ho hc hd (by simpa using ra)⟩)
  (λ_ _ _ _ _ n hl _ _=>absurd hl (by simp[cL]))
  (λ_ _ us r=>by cases r;exact⟨[],by rw[c6];exact .nil⟩)
  (λ{v d vs ds} _ _ i1 i2 n hl us r=>by
   simp only[fX,WX]at hl
   cases r with
   |cons r1 r2=>
    obtain⟨a1,q1⟩:=i1 n hl.1 _ r1
    obtain⟨a2,q2⟩:=i2 n hl.2 _ r2
    exact⟨a1++a2,by rw[c6];exact .cons q1 q2⟩) h
def LV(K:PySem.W.Frag)(neg:Bool):R2:=λx y H Q=>∃dx dy,bA K (λ_=>False) H x dx/\bA K (λ_=>False) H y dy/\cL dx 60=true/\cL dy 60=true/\Q (.bl (if neg then !fT dx dy else fT dx dy)) H
def Hd(hu:X.A.units+64<cLine):kj X (compareOp .Eq) (LV X.K false):=by
 intro U s σ H x y v u Q I rx ry zz
 refine jC zz λdx dy r1 r2 l1 l2 q=>?_
 obtain⟨a1,q1⟩:=fj I r1 60 l1 v rx
 obtain⟨a2,q2⟩:=fj I r2 60 l2 u ry
 have b1:=jS dx 60 l1
 have b2:=jS dy 60 l2
 exact SeqAt.compareEq_reads q1 q2 b1.1 b2.1 (by lia) ⟨.bl _,H,I,rfl,by rw[jm];exact q⟩
def He(hu:X.A.units+64<cLine):kj X (compareOp .NotEq) (LV X.K true):=by
 intro U s σ H x y v u Q I rx ry zz
 refine jC zz λdx dy r1 r2 l1 l2 q=>?_
 obtain⟨a1,q1⟩:=fj I r1 60 l1 v rx
 obtain⟨a2,q2⟩:=fj I r2 60 l2 u ry
 have b1:=jS dx 60 l1
 have b2:=jS dy 60 l2
 exact SeqAt.compareNe_reads q1 q2 b1.1 b2.1 (by lia) ⟨.bl _,H,I,rfl,by rw[jm];exact q⟩
theorem lW(x:D):∀ys:List D,((c6 ys).any λy=>y.eqv (cV x))=ys.any λy=>fT y x
 |[]=>by rw[c6];rfl
 |y::ys=>by rw[c6,Y6,Y6,jm,lW x ys]
noncomputable def Qb(K:PySem.W.Frag)(neg:Bool):R2:=λx y H Q=>∃dx ys,bA K (λ_=>False) H x dx/\bA K (λ_=>False) H y (.lst ys)/\cL dx 60=true/\cL (.lst ys) 60=true/\Q (.bl (if neg then !ys.any λz=>fT z dx else ys.any λz=>fT z dx)) H
def zg(hu:X.A.units+64<cLine){neg:Bool}:kj X (compareOp (if neg then .NotIn else .In)) (Qb X.K neg):=by
 intro U s σ H x y v u Q I rx ry zz
 refine jC zz λdx ys r1 r2 l1 l2 q=>?_
 obtain⟨a1,q1⟩:=fj I r1 60 l1 v rx
 obtain⟨a2,q2⟩:=fj I r2 60 l2 u ry
 have b1:=jS dx 60 l1
 have b2:=kX ys 59 (by simpa only[cL]using l2)
 rw[cV]at q2
 cases neg with
 |false=>exact SeqAt.in_list_reads q2 q1 b2.1 b1.1 (by lia) ⟨.bl _,H,I,rfl,by rw[lW];exact q⟩
 |true=>exact SeqAt.notIn_list_reads q2 q1 b2.1 b1.1 (by lia) ⟨.bl _,H,I,rfl,by rw[lW];exact q⟩
def zh{op:CmpOp}(hu:X.A.units+64<cLine):∃r,kj X (compareOp op) r/\∀O σ (ρ:Env) H x y k v w Q,EX X.K O σ H ρ->bS X.K O true H v x->bS X.K O true H w y->cmp op x y=some k->(∀H',af H H'->Q (.bl k) H')->r v w H Q:=by
 cases op with
 |Eq=>
  refine⟨_,Hd hu,λO σ ρ H x y k v w Q hx r1 r2 hd q=>?_⟩
  simp only[cmp]at hd
  split at hd
  .rename_i hl
   rw[WX]at hl
   cases hd
   exact⟨x,y,r1.any,r2.any,hl.1,hl.2,q _ (af.refl _)⟩
  .cases hd
 |NotEq=>
  refine⟨_,He hu,λO σ ρ H x y k v w Q hx r1 r2 hd q=>?_⟩
  simp only[cmp]at hd
  split at hd
  .rename_i hl
   rw[WX]at hl
   cases hd
   exact⟨x,y,r1.any,r2.any,hl.1,hl.2,q _ (af.refl _)⟩
  .cases hd
 |IsNot=>
  refine⟨_,BH,λO σ ρ H x y k v w Q hx r1 r2 hd q=>?_⟩
  cases y with
  |cy=>
   simp only[cmp]at hd
   cases r2.cy
   refine⟨rfl,?_⟩
   have:(!decide (v= .cy))=k:=by
    cases hd
    cases x with
    |cy=>cases r1.cy;rfl
    |bl i=>cases r1.bl;rfl
    |int i=>cases r1.int;rfl
    |tup i=>obtain⟨_,_,rfl,_⟩:=r1.tup;rfl
    |lst i=>obtain⟨_,_,rfl,_⟩:=r1.lst;rfl
    |bP t ks i=>obtain⟨_,rfl⟩:=r1.Hc;rfl
   rw[this]
   exact q _ (af.refl _)
  |_=>cases hd
 |In=>
  refine⟨_,zg (neg:=false) hu,λO σ ρ H x y k v w Q hx r1 r2 hd q=>?_⟩
  cases y with
  |lst ys=>
   simp only[cmp]at hd
   split at hd
   .rename_i hl
    rw[WX]at hl
    cases hd
    exact⟨x,ys,r1.any,r2.any,hl.1,hl.2,q _ (af.refl _)⟩
   .cases hd
  |_=>cases hd
 |NotIn=>
  refine⟨_,zg (neg:=true) hu,λO σ ρ H x y k v w Q hx r1 r2 hd q=>?_⟩
  cases y with
  |lst ys=>
   simp only[cmp]at hd
   split at hd
   .rename_i hl
    rw[WX]at hl
    cases hd
    exact⟨x,ys,r1.any,r2.any,hl.1,hl.2,q _ (af.refl _)⟩
   .cases hd
  |_=>cases hd
 |Lt=>
  refine⟨_,Kj,λO σ ρ H x y k v w Q hx r1 r2 hd q=>?_⟩
  cases x with
  |int i=>
   cases y with
   |int j=>cases hd;exact⟨i,j,r1.int,r2.int,q _ (af.refl _)⟩
   |_=>cases hd
  |_=>cases hd
 |_=>exact⟨λ_ _ _ _=>False,λ_ _ _ _ _ _ _ _ _ _ _ _ h=>h.elim,λ_ _ _ _ _ _ _ _ _ _ _ _ _ hd _=>by cases hd⟩
def LW(hu:X.A.units+64<cLine)(ha:PE X a (tV X.K true fa))(hb:PE X b (tV X.K true fb))(hm:behindInMarks op b=false):
  PE X (.Compare a [op] [b] pos) (tV X.K m λρ=>(fa ρ).bind λx=>(fb ρ).bind λy=>(cmp op x y).map .bl):=by
 refine aa (zh (op:=op) hu) λr ho hr=>(BI ho ha hb hm).weak λσ H Q zz=>aq λnO=>cS zz λO ρ d hx hd k=>aa (bind_some hd) λx e1 hd=>aa (bind_some hd) λy e2 hd=>aa (map_some hd) λq e3 ag=>?_
 subst ag
 exact nO<|⟨O,ρ,x,hx,e1,λv H1 s1 r1=>⟨O,ρ,y,hx.mono s1,e2,λw H2 s2 r2=>hr O σ ρ H2 x y q v w Q (hx.mono (s1.trans s2)) (r1.mono s2) r2 e3 λH' s'=>k _ H' ((s1.trans s2).trans s') (.inl (.bl _))⟩⟩
def LX(hu:X.A.units+64<cLine)(ha:PE X a (tV X.K true fa))(hb:PE X b (tV X.K true fb))(hm:behindInMarks op b=false):
  PT X (.Compare a [op] [b] pos) (tB X.K λρ=>((fa ρ).bind λx=>(fb ρ).bind λy=>(cmp op x y).map .bl).bind eN):=by
 refine aa (zh (op:=op) hu) λr ho hr=>(BJ ho ha hb hm).weak λσ H Q zz=>aq λnO=>cS zz λO ρ d hx hd k=>aa (bind_some hd) λz hd hz=>aa (bind_some hd) λx e1 hd=>aa (bind_some hd) λy e2 hd=>aa (map_some hd) λq e3 ag=>?_
 subst ag
 have Ju:q=d:=Xn hz
 subst Ju
 exact nO<|⟨O,ρ,x,hx,e1,λv H1 s1 r1=>⟨O,ρ,y,hx.mono s1,e2,λw H2 s2 r2=>hr O σ ρ H2 x y q v w _ (hx.mono (s1.trans s2)) (r1.mono s2) r2 e3 λH' s'=>⟨q,rfl,k H' ((s1.trans s2).trans s')⟩⟩⟩
def dm(h:PE X e (tV X.K false f))(he:∀whole,isTrue e X.env whole=(do let v<-whole;standAt e.pos;holding [v] (truthy v))):PT X e (tB X.K λρ=>(f ρ).bind eN):=
 (FL h he).weak λσ H Q zz=>by
  refine cS zz λO ρ k hx hd q=>aa (bind_some hd) λx e1 hd=>?_
  cases dU hd
  exact⟨O,ρ,_,hx,e1,λv H1 s1 r1=>⟨k,r1.bl,q H1 s1⟩⟩
def E1{fa:Env->Option D}(ha:PE X a (tV X.K false fa)):PE X (.UnaryOp .USub a pos) (tV X.K m λρ=>((fa ρ).bind yu).map λi=> .int (-i)):=
 (Ki F6 ha).weak λσ H Q zz=>by
  refine cS zz λO ρ d hx hd k=>aa (map_some hd) λi kM ag=>?_
  subst ag
  refine aa (bind_some kM) λx e1 jT=>?_
  cases rB jT
  exact⟨O,ρ,_,hx,e1,λv H1 s1 r1=>⟨i,r1.int,k _ _ s1 (.inl (.int _))⟩⟩
def v_not(ha:PE X a (tV X.K false fa)):PE X (.UnaryOp .Not a pos) (tV X.K m λρ=>((fa ρ).bind eN).map λk=> .bl !k):=
 (FU ha).weak λσ H Q zz=>by
  refine cS zz λO ρ d hx hd k=>aa (map_some hd) λx kM ag=>?_
  subst ag
  refine aa (bind_some kM) λy e1 jT=>?_
  cases dU jT
  exact⟨O,ρ,_,hx,e1,λv H1 s1 r1=>⟨x,r1.bl,k _ H1 s1 (.inl (.bl _))⟩⟩
def LY{fa:Env->Option D}(ha:PT X a (tB X.K λρ=>(fa ρ).bind eN)):PT X (.UnaryOp .Not a pos) (tB X.K λρ=>(((fa ρ).bind eN).map λk=>D.bl !k).bind eN):=
 (FP ha).weak λσ H Q zz=>by
  refine aq λnO=>cS zz λO ρ d hx hd k=>aa (bind_some hd) λx kM h2=>aa (map_some kM) λy jT ag=>?_
  subst ag
  cases h2
  exact nO<|⟨O,ρ,y,hx,jT,λH1 s1=>k H1 s1⟩
noncomputable def bo(k:Bool):BoolOp:=if k then .And else .Or
def Hf(ha:PE X a (tV X.K false fa)):PE X (.BoolOp (bo k) [a] pos) (tV X.K m λρ=>(((fa ρ).bind eN).bind λx=>if x=k then some k else some x).map .bl):=
 (FQ (op:=bo k) ha).weak λσ H Q zz=>by
  refine cS zz λO ρ d hx hd q=>aa (map_some hd) λy kM ag=>?_
  subst ag
  refine aa (bind_some kM) λx jT hy=>aa (bind_some jT) λz e1 LZ=>?_
  cases dU LZ
  have:x=y:=by
   split at hy
   .rename_i e;cases hy;exact e
   .cases hy;rfl
  subst this
  exact⟨O,ρ,_,hx,e1,λv H1 s1 r1=>q v H1 s1 (.inl r1.own)⟩
def L4{k:Bool}{fa:Env->Option D}{fr:Env->Option Bool}(ha:PE X a (tV X.K false fa))(hr:PE X (.BoolOp (bo k) (b::es) pos) (tV X.K false λρ=>(fr ρ).map .bl)):
  PE X (.BoolOp (bo k) (a::b::es) pos) (tV X.K m λρ=>(((fa ρ).bind eN).bind λx=>if x=k then fr ρ else some x).map .bl):=by
 cases k with
 |true=>
  refine PE.weak (FR ha hr) λσ H Q zz=>aq λnO=>cS zz λO ρ d hx hd q=>aa (map_some hd) λy kM ag=>?_
  subst ag
  refine aa (bind_some kM) λx jT hy=>aa (bind_some jT) λz e1 LZ=>nO ?_
  cases dU LZ
  refine⟨O,ρ,_,hx,e1,λv H1 s1 r1=>⟨x,r1.bl,?_⟩⟩
  cases x with
  |true=>exact lK ⟨O,ρ,.bl y,hx.mono s1,by rw[Xl rfl]at hy;show(fr ρ).map D.bl=_;rw[hy];rfl,λv H2 s2 r2=>q v H2 (s1.trans s2) (.inl r2.own)⟩
  |false=>rw[Xs W2]at hy;cases hy;exact m_ (q _ H1 s1 (.inl (.bl _)))
 |false=>
  refine PE.weak (Kb ha hr) λσ H Q zz=>aq λnO=>cS zz λO ρ d hx hd q=>aa (map_some hd) λy kM aP=>?_
  subst aP
  refine aa (bind_some kM) λx jT hy=>aa (bind_some jT) λz e1 LZ=>nO ?_
  cases dU LZ
  refine⟨O,ρ,_,hx,e1,λv H1 s1 r1=>⟨x,r1.bl,?_⟩⟩
  cases x with
  |false=>exact m_ ⟨O,ρ,.bl y,hx.mono s1,by rw[Xl rfl]at hy;show(fr ρ).map D.bl=_;rw[hy];rfl,λv H2 s2 r2=>q v H2 (s1.trans s2) (.inl r2.own)⟩
  |true=>rw[Xs (by decide)]at hy;cases hy;exact lK (q _ H1 s1 (.inl (.bl _)))
def Hg{k:Bool}{fa:Env->Option D}(ha:PT X a (tB X.K λρ=>(fa ρ).bind eN)):PW X (.BoolOp (bo k) [a] pos) (tB X.K λρ=>((fa ρ).bind eN).bind λx=>if x=k then some k else some x):=by
 have w:∀σ H Q,tB X.K (λρ=>((fa ρ).bind eN).bind λx=>if x=k then some k else some x) σ H Q->tB X.K (λρ=>(fa ρ).bind eN) σ H Q:=λσ H Q zz=>by
  refine cS zz λO ρ y hx hd q=>aa (bind_some hd) λx kM hy=>?_
  have:x=y:=by
   split at hy
   .rename_i e;cases hy;exact e
   .cases hy;rfl
  subst this
  exact⟨O,ρ,x,hx,kM,q⟩
 cases k with
 |true=>exact λwh U s σ H Q I h=>BC ha wh U s σ H Q I (w σ H Q h)
 |false=>exact λwh U s σ H Q I h=>FN ha wh U s σ H Q I (w σ H Q h)
def L5{k:Bool}{fa:Env->Option D}{fr:Env->Option Bool}(ha:PT X a (tB X.K λρ=>(fa ρ).bind eN))(hr:PW X (.BoolOp (bo k) (b::es) pos) (tB X.K fr)):
  PW X (.BoolOp (bo k) (a::b::es) pos) (tB X.K λρ=>((fa ρ).bind eN).bind λx=>if x=k then fr ρ else some x):=by
 cases k with
 |true=>
  refine λwh U s σ H Q I h=>FO ha hr wh U s σ H Q I ?_
  refine cS h λO ρ y hx hd q=>aa (bind_some hd) λx hd hy=>⟨O,ρ,x,hx,hd,λH1 s1=>?_⟩
  cases x with
  |true=>exact lK ⟨O,ρ,y,hx.mono s1,by rw[Xl rfl]at hy;exact hy,λH2 s2=>q H2 (s1.trans s2)⟩
  |false=>rw[Xs W2]at hy;cases hy;exact m_ (q H1 s1)
 |false=>
  refine λwh U s σ H Q I h=>J_ ha hr wh U s σ H Q I ?_
  refine cS h λO ρ y hx hd q=>aa (bind_some hd) λx hd hy=>⟨O,ρ,x,hx,hd,λH1 s1=>?_⟩
  cases x with
  |false=>exact m_ ⟨O,ρ,y,hx.mono s1,by rw[Xl rfl]at hy;exact hy,λH2 s2=>q H2 (s1.trans s2)⟩
  |true=>rw[Xs (by decide)]at hy;cases hy;exact lK (q H1 s1)
def L6:PA X [] (sD X.K m λ_=>some []):=λp U s σ H Q I zz=>by
 refine aq λnO=>cS zz λO ρ ds hx hd k=>?_
 cases hd
 exact nO<|dN p U s σ H Q I (k [] H (af.refl _) .nil)
def iE{K:PySem.W.Frag}{O:Addr->Prop}{H:Hp}:∀{vs:List V}{ds:List D},Paired (bS K O false H) vs ds->av K O H vs ds:=λ{vs ds} h=>by
 induction h with
 |nil=>exact .nil
 |cons r t ih=>exact .cons r.own ih
def tR{K:PySem.W.Frag}{O:Addr->Prop}{H:Hp}{b:Bool}:∀{vs:List V}{ds:List D},Paired (bS K O b H) vs ds->av K (λ_=>False) H vs ds:=λ{vs ds} h=>by
 induction h with
 |nil=>exact .nil
 |cons r t ih=>exact .cons r.any ih
def Hh(h:PE X e (tV X.K m f))(hr:PA X es (sD X.K m g))(hs:starEach (e::es) X.env=(false,eval e X.env)::starEach es X.env):
  PA X (e::es) (sD X.K m λρ=>(f ρ).bind λx=>(g ρ).bind λxs=>some (x::xs)):=λp U s σ H Q I zz=>by
 refine aq λnO=>cS zz λO ρ ds hx hd k=>aa (bind_some hd) λx e1 hd=>aa (bind_some hd) λxs e2 hd=>?_
 cases hd
 exact nO<|cu h hr hs p U s σ H Q I ⟨O,ρ,x,hx,e1,λv H1 s1 r1=>⟨O,ρ,xs,hx.mono s1,e2,λvs H2 s2 r2=>k (v::vs) H2 (s1.trans s2) (.cons (r1.mono s2) r2)⟩⟩
def E2{k:Nat}{g:Env->Option (List D)}(h:PA X es (sD X.K false g)):PE X (.Tuple es k pos) (tV X.K m λρ=>(g ρ).bind λxs=>if xs.length<=bE then some (.tup xs) else none):=
 PE.weak (Ga h) λσ H Q zz=>by
  refine cS zz λO ρ d hx hd q=>aa (bind_some hd) λxs e1 hd=>?_
  split at hd
  .rename_i hz
   cases hd
   refine⟨O,ρ,xs,hx,e1,λvs H1 s1 r1=>?_⟩
   have ny:=iE r1
   exact⟨by rw[ny.length,cQ];exact hz,λp hp=>q _ _ (s1.trans (af.upd hp)) (.inl (.tup (c9.of ah) (ny.mono (af.upd hp))))⟩
  .cases hd
def L7{g:Env->Option (List D)}(h:PA X es (sD X.K false g)):PE X (.List es pos) (tF X.K λρ=>(g ρ).bind λxs=>if xs.length<=bE then some xs else none):=
 PE.weak (Gb h) λσ H Q zz=>by
  refine cS zz λO ρ d hx hd q=>aa (bind_some hd) λxs e1 hd=>?_
  split at hd
  .rename_i hz
   cases hd
   refine⟨O,ρ,_,hx,e1,λvs H1 s1 r1=>?_⟩
   have ny:=iE r1
   exact⟨by rw[ny.length,cQ];exact hz,λp hp=>q p vs H1 s1 hp ny⟩
  .cases hd
def lX(n:Nat)(i:Int):bR n i=Jo n i:=rfl
def item_at{K:PySem.W.Frag}{O:Addr->Prop}{H:Hp}{vs:List V}{ds:List D}{k:Int}{d:D}(h:av K O H vs ds)(e:((bR ds.length k).bind λj=>ds[j]?)=some d):∃v,Ey vs k=some v/\bA K O H v d:=by
 exact aa (bind_some e) λj e1 e2=>aa (h.get e2) λv h1 h2=>⟨v,by unfold Ey;rw[h.length,<-lX,e1];exact h1,h2⟩
def L8{fa fb:Env->Option D}(ha:PE X a (tV X.K true fa))(hb:PE X b (tV X.K false fb))(hs:o_ b):PE X (.Subscript a b pos) (tV X.K m λρ=>(fa ρ).bind λx=>(fb ρ).bind λk=>item x k):=
 PE.weak (Ez (ux.or Gi) ha hb hs) λσ H Q zz=>by
  refine aq λnO=>cS zz λO ρ d hx hd q=>aa (bind_some hd) λx e1 hd=>aa (bind_some hd) λy e2 hd=>nO ?_
  refine⟨O,ρ,x,hx,e1,λv H1 s1 r1=>⟨O,ρ,y,hx.mono s1,e2,λw H2 s2 r2=>?_⟩⟩
  have ny:=r1.mono s2
  cases y with
  |int k=>
   cases x with
   |lst xs=>
    refine aq λnO=>bu ny.lst λp vs ag h1 h2=>?_
    subst ag
    exact aa (item_at h2 hd) λu h3 h4=>nO<| .inl ⟨p,vs,k,u,rfl,r2.int,h1,h3,q u H2 (s1.trans s2) (.inl h4)⟩
   |tup xs=>
    refine aq λnO=>bu ny.tup λp vs aP h1 h2=>?_
    subst aP
    exact aa (item_at h2 hd) λu h3 h4=>nO<| .inr ⟨p,vs,k,u,rfl,r2.int,h1,h3,q u H2 (s1.trans s2) (.inl h4)⟩
   |_=>cases hd
  |_=>cases x<;>cases hd
def tO(K:PySem.W.Frag)(f:Env->Option (Option Int)):TO:=λσ H Q=>∃O ρ o,EX K O σ H ρ/\f ρ=some o/\∀H',af H H'->Q o H'
def Hj:PO X none (tO X.K λ_=>some none):=λU s σ H Q I zz=>by
 refine aq λnO=>cS zz λO ρ o hx hd k=>?_
 cases hd
 exact nO<|BP U s σ H Q I (k H (af.refl _))
def Hk(h:PE X e (tV X.K false f)):PO X (some e) (tO X.K λρ=>((f ρ).bind yu).map some):=λU s σ H Q I zz=>by
 refine aq λnO=>cS zz λO ρ o hx hd k=>aa (map_some hd) λi kM ag=>?_
 subst ag
 refine aa (bind_some kM) λd e1 jT=>nO ?_
 cases rB jT
 exact BQ h U s σ H Q I ⟨O,ρ,_,hx,e1,λv H1 s1 r1=>⟨i,r1.int,k H1 s1⟩⟩
def dJ(n d:Nat)(o:Option Int):bound n d o=HT.cK n d o:=by
 cases o with
 |none=>rfl
 |some v=>
  have:=HT.oY v n d
  show(if v<0 then max (v+(n:Int)) 0 else min v (n:Int)).toNat =_
  rw[this]
  exact X6 _
def lY{K:PySem.W.Frag}{O:Addr->Prop}{H:Hp}{vs:List V}{ds:List D}(h:av K O H vs ds)(lo hi:Option Int):av K O H (qD vs lo hi) (sC ds lo hi):=by
 unfold qD sC
 rw[dJ,dJ,h.length]
 exact(h.drop _).take _
def L9{lo hi:Option Expr}{p2:Pos}{fa:Env->Option D}{fl fh:Env->Option (Option Int)}(ha:PE X a (tV X.K true fa))(hl:PO X lo (tO X.K fl))(hh:PO X hi (tO X.K fh)):
  PE X (.Subscript a (.Slice lo hi none p2) pos) (tV X.K m λρ=>(fa ρ).bind λx=>(fl ρ).bind λl=>(fh ρ).bind λh=>cutD x l h):=
 PE.weak (qC (Bo.or uy B9) ha hl hh) λσ H Q zz=>by
  refine aq λnO=>cS zz λO ρ d hx hd q=>aa (bind_some hd) λx e1 hd=>aa (bind_some hd) λl e2 hd=>aa (bind_some hd) λh e3 hd=>nO ?_
  refine⟨O,ρ,x,hx,e1,λv H1 s1 r1=>⟨O,ρ,l,hx.mono s1,e2,λH2 s2=>⟨O,ρ,h,hx.mono (s1.trans s2),e3,λH3 s3=>?_⟩⟩⟩
  have ny:=r1.mono (s2.trans s3)
  have xI:=(s1.trans s2).trans s3
  cases x with
  |lst xs=>
   refine aq λnO=>?_
   cases hd
   refine bu ny.lst λp vs ag h1 h2=>?_
   subst ag
   exact nO<| .inl ⟨p,vs,rfl,h1,λp' hp=>q _ _ (xI.trans (af.upd hp)) (.inl (.lst (.inl ah) ((hx.mono xI).free (af.refl _) hp) ((lY h2 l h).mono (af.upd hp))))⟩
  |tup xs=>
   refine aq λnO=>bu ny.tup λp vs aP h1 h2=>?_
   subst aP
   cases hd
   refine nO ?_
   by_cases hw:bound xs.length 0 l=0/\bound xs.length xs.length h=xs.length
   .refine .inr (.inr ⟨p,vs,rfl,h1,by rw[<-dJ,<-dJ,h2.length];exact hw,q _ _ xI (.inl (.tup h1 ?_))⟩)
    have e:sC xs l h=xs:=by
     unfold sC
     rw[hw.1,hw.2,YT,abb,List.take_length]
    rw[e]
    exact h2
   .refine .inr (.inl ⟨p,vs,rfl,h1,?_,λp' hp=>q _ _ (xI.trans (af.upd hp)) (.inl (.tup (c9.of ah) ((lY h2 l h).mono (af.upd hp))))⟩)
    rw[<-dJ,<-dJ,h2.length]
    exact hw
  |_=>cases hd
def Qc{lo hi:Option Expr}{p2:Pos}{fa:Env->Option D}{fl fh:Env->Option (Option Int)}(ha:PE X a (tV X.K true fa))(hl:PO X lo (tO X.K fl))(hh:PO X hi (tO X.K fh)):
  PE X (.Subscript a (.Slice lo hi none p2) pos) (tF X.K λρ=>((fa ρ).bind λx=>(fl ρ).bind λl=>(fh ρ).bind λh=>cutD x l h).bind λd=>match d with| .lst ds=>some ds|_=>none):=
 PE.weak (qC uy ha hl hh) λσ H Q zz=>by
  refine aq λnO=>cS zz λO ρ ds hx hd q=>aa (bind_some hd) λd hd hz=>aa (bind_some hd) λx e1 hd=>aa (bind_some hd) λl e2 hd=>aa (bind_some hd) λh e3 hd=>nO ?_
  refine⟨O,ρ,x,hx,e1,λv H1 s1 r1=>⟨O,ρ,l,hx.mono s1,e2,λH2 s2=>⟨O,ρ,h,hx.mono (s1.trans s2),e3,λH3 s3=>?_⟩⟩⟩
  have ny:=r1.mono (s2.trans s3)
  have xI:=(s1.trans s2).trans s3
  cases x with
  |lst xs=>
   refine aq λnO=>?_
   cases hd
   cases hz
   refine bu ny.lst λp vs ag h1 h2=>?_
   subst ag
   exact nO<|⟨p,vs,rfl,h1,λp' hp=>q p' _ H3 xI hp (lY h2 l h)⟩
  |tup xs=>cases hd;cases hz
  |_=>cases hd
end
section
variable {X:Cx}{a b c e e0:Expr}{es:List Expr}{pos p:Pos}{m:Bool}
def u5(K:PySem.W.Frag)(n:Nat)(f:List D->Option D):Sp:=λvs H Q _=>∃O ds d,(∀a,O a->∃u,H a=some u/\rA u)/\av K O H vs ds/\f ds=some d/\vs.length=n/\∀v H',af H H'->bA K O H' v d->Q v H'
def Hl{k:Nat}{fa:Addr}{fd:FuncData}{ps:List Str}{x:Str}{g:Bool->Env->Option (List D)}{f:List D->Option D}{ln:Env->Bool}(F:iQ X.prog X.w X.K X.mg X.base wu k fa fd ps (u5 X.K ps.length f))(hr:eL k X.A)(hg:Gl X x)(hm:X.mg x=some (.ref fa))
  (hk:PySem.W.keepIn X.K (.ref fa)=true) (hb:Binds X.K fd ps []) (hf:∀ds d,f ds=some d->ds.length=ps.length) (ha:∀b,PA X (e::es) (sD X.K b (g b))) (hl:∀ρ,ln ρ=false->g true ρ=g false ρ)
  (Bm:(x==("__debug__":Str))=false) (he:starEach (e::es) X.env=(false,eval e X.env)::starEach es X.env) (iy:(backTo pos (starEach es X.env)).any (·.1)=false):
  PE X (.Call (.Name x p) (e::es) [] pos) (tV X.K m λρ=>(g true ρ).bind λxs=>(f xs).bind λd=>if ln ρ&&!aI d then none else some d):=by
 intro U s σ H Q I ⟨O,ρ,d,hx,hd,q⟩
 refine aa (bind_some hd) λxs e1 hd=>aa (bind_some hd) λd' e2 hd=>?_
 cases Qd:ln ρ with
 |false=>
  rw[Qd]at hd
  simp only[Bool.false_and,X9,if_false]at hd
  cases hd
  rw[hl ρ Qd]at e1
  refine uq F hr hg hm hk hb .nil yk (ha false) Bm he iy U s σ H Q I ⟨O,ρ,xs,hx,e1,λvs H1 s1 r1=>?_⟩
  have ny:=iE r1
  show u5 X.K ps.length f (vs++[]) H1 Q E0
  rw[XF]
  exact⟨O,xs,d,(hx.mono s1).live,ny,e2,by rw[ny.length];exact hf _ _ e2,λv H2 s2 r2=>q v H2 (s1.trans s2) (.inl r2)⟩
 |true=>
  rw[Qd]at hd
  cases hn:aI d' with
  |false=>rw[hn]at hd;cases hd
  |true=>
   rw[hn]at hd
   simp only[Bool.not_true,Bool.and_false,X9,if_false]at hd
   cases hd
   refine uq F hr hg hm hk hb .nil yk (ha true) Bm he iy U s σ H Q I ⟨O,ρ,xs,hx,e1,λvs H1 s1 r1=>?_⟩
   have ny:=tR r1
   show u5 X.K ps.length f (vs++[]) H1 Q E0
   rw[XF]
   exact⟨λ_=>False,xs,d,λ_ z=>z.elim,ny,e2,by rw[ny.length];exact hf _ _ e2,λv H2 s2 r2=>q v H2 (s1.trans s2) (.inl (wY r2 hn))⟩
def jU(mk:∀t,PA X (e::es) t->PE X e0 (OL r t))(ha:PA X (e::es) (sD X.K true g))
  (hr:∀O σ (ρ:Env) H ds vs d Q,EX X.K O σ H ρ->Paired (bS X.K O true H) vs ds->pf ds=some d->(∀v H',af H H'->bS X.K O m H' v d->Q v H')->r vs H Q):PE X e0 (tV X.K m λρ=>(g ρ).bind pf):=
 (mk _ ha).weak λσ H Q zz=>by
  exact cS zz λO ρ d hx hd q=>aa (bind_some hd) λxs e1 hd=>⟨O,ρ,xs,hx,e1,λvs H1 s1 r1=>hr O σ ρ H1 xs vs d Q (hx.mono s1) r1 hd λv H' s' r'=>q v H' (s1.trans s') r'⟩
def cG{K:PySem.W.Frag}{O:Addr->Prop}{H:Hp}{b:Bool}{vs:List V}{d:D}(h:Paired (bS K O b H) vs [d]):∃v,vs=[v]/\bS K O b H v d:=by
 cases h with
 |cons r t=>cases t;exact⟨_,rfl,r⟩
theorem cE{K:PySem.W.Frag}{O:Addr->Prop}{H:Hp}:∀{vs:List V}{ds:List D}{ns:List Int},av K O H vs ds->aU ds=some ns->vs=ns.map V.int
 |_,_,_,.nil,h=>by cases h;rfl
 |_,_,ns,.cons (d:=d) r t,h=>by
  cases d with
  |int i=>
   simp only[aU]at h
   refine aa (map_some h) λlI h1 ag=>?_
   subst ag
   rw[Xj,<-cE t h1,r.int_inv]
  |_=>cases h
def Qf(K:PySem.W.Frag):List V->Hp->VK->Prop:=λxs H Q=>∃p n ns,xs=[.ref p]/\(dq K H p ((n::ns).map V.int)\/c9 K H p ((n::ns).map V.int))/\Q (.int (gX n ns)) H
def wZ(hc:X.calm=true):cX X (.builtin "min") (Qf X.K):=by
 intro U s σ H xs us Q I r ⟨p,n,ns,e,hq,q⟩
 subst e
 refine aa (vals1 r) λu ag rx=>?_
 subst ag
 cases rx
 have fin:∀(h':Heap) (tk:Nat) (t:Tok),(∀b o,s.heap.get? b=some o->h'.get? b=some o)->EP X U σ Q (.int (gX n ns) t) {s with heap:=h',toks:=tk}:=λh' tk t k=>⟨.int _,H,I.kept k,⟨_,rfl⟩,q⟩
 rcases hq with hq|hq
 .exact bJ (I.list hq) λits rv pl hz=>kq (I.ok.hd hc) (.inl pl.isList) (intsAre_of rv) fin
 .exact bJ (I.tuple hq) λits rv pl hz=>kq (I.ok.hd hc) (.inr pl) (intsAre_of rv) fin
noncomputable def ie:tf->Str
 | .len =>"len"| .tuple =>"tuple"| .list =>"list"| .min =>"min"| .sorted =>"sorted"| .all =>"all"
theorem gp{K:PySem.W.Frag}{O:Addr->Prop}{H:Hp}:∀{vs:List V}{ds:List D}{bs:List Bool},av K O H vs ds->eF ds=some bs->vs=bs.map V.bl
 |_,_,_,.nil,h=>by cases h;rfl
 |_,_,bs,.cons (d:=d) r t,h=>by
  cases d with
  |bl i=>
   simp only[eF]at h
   obtain⟨lI,h1,rfl⟩:=map_some h
   rw[Xj,<-gp t h1,r.tQ]
  |_=>cases h
theorem pS{K:PySem.W.Frag}{O:Addr->Prop}{H:Hp}:∀{vs:List V}{ds:List D}{ks:List (List Int)},av K O H vs ds->eM ds=some ks->Paired (TupAt H) vs ks/\∀k∈ks,k≠[]
 |_,_,_,.nil,h=>by cases h;exact⟨.nil,λ_ z=>nomatch z⟩
 |_,_,ks,.cons (d:=d) r t,h=>by
  cases d with
  |tup xs=>
   unfold eM at h
   refine aa (bind_some h) λk h1 h=>?_
   split at h
   .cases h
   .rename_i hk
    refine aa (map_some h) λU4 h2 ag=>?_
    subst ag
    refine bu r.jl λa us aP q1 q2=>?_
    subst aP
    have e:=cE q2 h1
    subst e
    obtain⟨p1,p2⟩:=pS t h2
    exact⟨.cons ⟨a,rfl,q1⟩ p1,λz hz=>(Xc.mp hz).elim (λe=>by rw[e];exact hk) (p2 z)⟩
  |_=>cases h
def u6{K:PySem.W.Frag}{O:Addr->Prop}{H:Hp}{u:V}{k:List Int}(h:TupAt H u k):bA K O H u (nc k):=by
 refine aa h λb ag hb=>?_
 try clear h
 subst ag
 exact .tup hb (fg k)
theorem lZ{K:PySem.W.Frag}{O:Addr->Prop}{H:Hp}:∀{us:List V}{ks:List (List Int)},Paired (TupAt H) us ks->av K O H us (ks.map nc)
 |_,_,.nil => .nil
 |_,_,.cons h t=> .cons (u6 h) (lZ t)
def og{q:tf}{g:Env->Option (List D)}(hu:X.A.units+64<cLine)(hc:X.calm=true)(hg:Gl X (ie q))(hm:X.mg (ie q)=none)(ha:PA X (e::es) (sD X.K true g))
  (he:starEach (e::es) X.env=(false,eval e X.env)::starEach es X.env) (iy:(backTo pos (starEach es X.env)).any (·.1)=false):
  PE X (.Call (.Name (ie q) p) (e::es) [] pos) (tV X.K m λρ=>(g ρ).bind (prim q)):=by
 have no:∀(f:Env->Option (List D)),∀ρ,((f ρ).bind λ_=>(none:Option D))=none:=λf ρ=>by cases f ρ<;>rfl
 cases q with
 |len=>
  refine jU (λt ht=>eU ph hg hm PySem.boot_len ht (by decide) (by decide) he iy) ha λO σ ρ H ds vs d Q hx r hd q=>?_
  cases ds with
  |nil=>cases hd
  |cons x t=>
   cases t with
   |cons _ _=>cases x<;>cases hd
   |nil=>
    refine aa (cG r) λv ag rv=>?_
    subst ag
    refine aq λnO=>aa (map_some (show(seq x).map (λys=>D.int ys.length)=some d from hd)) λys h1 aP=>?_
    subst aP
    refine bu (rv.seq h1) λp us cZ h2 h3=>?_
    subst cZ
    exact nO<|⟨p,us,rfl,h2,by rw[h3.length];exact q _ _ (af.refl _) (.inl (.int _))⟩
 |tuple=>
  refine jU (λt ht=>eV m9 hg hm boot_tuple ht (by decide) (by decide) he iy) ha λO σ ρ H ds vs d Q hx r hd q=>?_
  cases ds with
  |nil=>cases hd
  |cons x t=>
   cases t with
   |cons _ _=>cases hd
   |nil=>
    refine aq λnO=>aa (cG r) λv nu rv=>?_
    subst nu
    refine aa (map_some hd) λys h1 L_=>?_
    subst L_
    refine bu (rv.seq h1) λp us L' h2 h3=>?_
    subst L'
    refine nO ?_
    refine⟨p,us,rfl,?_⟩
    rcases h2 with h2|h2
    .exact .inl ⟨h2,λl hl=>q _ _ (af.upd hl) (.inl (.tup (c9.of ah) (h3.mono (af.upd hl))))⟩
    .exact .inr ⟨h2,q _ _ (af.refl _) (.inl (.tup h2 h3))⟩
 |list=>
  refine jU (λt ht=>eV iS hg hm boot_list ht (by decide) (by decide) he iy) ha λO σ ρ H ds vs d Q hx r hd q=>?_
  cases ds with
  |nil=>cases hd
  |cons x t=>
   cases t with
   |cons _ _=>cases hd
   |nil=>
    refine aq λnO=>aa (cG r) λv JB rv=>?_
    subst JB
    refine aa (map_some hd) λys h1 Qg=>?_
    subst Qg
    refine bu (rv.seq h1) λp us U8 h2 h3=>?_
    subst U8
    exact nO<|⟨p,us,rfl,h2,λl hl=>q _ _ (af.upd hl) (.inl (.lst (.inl ah) (hx.free (af.refl _) hl) (h3.mono (af.upd hl))))⟩
 |min=>
  refine jU (λt ht=>eU ((wZ hc).or (wV hc hu)) hg hm boot_min ht (by decide) (by decide) he iy) ha λO σ ρ H ds vs d Q hx r hd q=>?_
  cases ds with
  |nil=>cases hd
  |cons x t=>
   cases t with
   |nil=>
    refine aq λnO=>aa (cG r) λv Hn rv=>?_
    subst Hn
    simp only[prim]at hd
    refine aa (bind_some hd) λys h1 hd=>bu (rv.seq h1) λp us Ho h3 h4=>?_
    subst Ho
    refine nO ?_
    cases h2:aU ys with
    |some ns=>
     rw[h2]at hd
     cases ns with
     |nil=>cases hd
     |cons n ns=>
      cases hd
      have:=cE h4 h2
      subst this
      exact .inl ⟨p,n,ns,rfl,h3,q _ _ (af.refl _) (.inl (.int _))⟩
    |none=>
     rw[h2]at hd
     cases x with
     |lst zs=>
      refine aq λnO=>?_
      cases h1
      refine bu rv.lst λp' U9 e' Qh NP=>?_
      cases e'
      refine aa (bind_some hd) λks h5 hd=>nO ?_
      cases ks with
      |nil=>cases hd
      |cons k ks=>
       cases hd
       exact .inr ⟨p,U9,k,ks,rfl,Qh,(pS NP h5).1,λu hu=>q _ _ (af.refl _) (.inl (u6 hu))⟩
     |_=>cases hd
   |cons y t=>cases hd
 |sorted=>
  refine jU (λt ht=>eU pP hg hm boot_sorted ht (by decide) (by decide) he iy) ha λO σ ρ H ds vs d Q hx r hd q=>?_
  cases ds with
  |nil=>cases hd
  |cons x t=>
   cases t with
   |nil=>
    refine aq λnO=>aa (cG r) λv Hq rv=>?_
    subst Hq
    refine aa (bind_some (show(seq x).bind (λys=>(eM ys).map λks=>D.lst ((b6.b9 ks).map nc))=some d from hd)) λys h1 hd=>aa (map_some hd) λks h5 Qi=>?_
    subst Qi
    refine bu (rv.seq h1) λp us Qj h3 h4=>?_
    subst Qj
    obtain⟨p1,p2⟩:=pS h4 h5
    exact nO<|⟨p,us,ks,rfl,h3,p1,p2,λl ws hl pw=>q _ _ (af.upd hl) (.inl (.lst (.inl ah) (hx.free (af.refl _) hl) ((lZ pw).mono (af.upd hl))))⟩
   |cons y t=>cases hd
 |all=>
  refine jU (λt ht=>eU (wF hc) hg hm boot_all ht (by decide) (by decide) he iy) ha λO σ ρ H ds vs d Q hx r hd q=>?_
  cases ds with
  |nil=>cases hd
  |cons x t=>
   cases t with
   |cons _ _=>cases hd
   |nil=>
    cases x with
    |lst ys=>
     obtain⟨bs,hb,rfl⟩:=map_some (show(eF ys).map (λbs=>D.bl (bs.all id))=some d from hd)
     obtain⟨v,rfl,rv⟩:=cG r
     obtain⟨p,us,rfl,h2,h3⟩:=rv.lst
     have:=gp h3 hb
     subst this
     exact⟨p,bs,rfl,h2,q _ _ (af.refl _) (.inl (.bl _))⟩
    |_=>cases hd
def f_list{g:Env->Option (List D)}(hg:Gl X "list")(hm:X.mg "list"=none)(ha:PA X (e::es) (sD X.K true g))
  (he:starEach (e::es) X.env=(false,eval e X.env)::starEach es X.env) (iy:(backTo pos (starEach es X.env)).any (·.1)=false):
  PE X (.Call (.Name "list" p) (e::es) [] pos) (tF X.K λρ=>(g ρ).bind λxs=>match xs with|[x]=>seq x|_=>none):=
 PE.weak (eV iS hg hm boot_list ha (by decide) (by decide) he iy) λσ H Q zz=>by
  refine cS zz λO ρ ds hx hd q=>aa (bind_some hd) λxs e1 hd=>⟨O,ρ,xs,hx,e1,λvs H1 s1 r=>?_⟩
  cases xs with
  |nil=>cases hd
  |cons x t=>
   cases t with
   |cons _ _=>cases hd
   |nil=>
    refine aa (cG r) λv ag rv=>?_
    subst ag
    refine bu (rv.seq hd) λp us aP h2 h3=>?_
    subst aP
    exact⟨p,us,rfl,h2,λl hl=>q l us H1 s1 hl h3⟩
def Qk:List V->Hp->VK->Prop:=λxs H Q=>∃i:Bool,xs=[.bl i,.ty "bool"]/\Q (.bl true) H
def zi:cX X (.builtin "isinstance") Qk:=by
 intro U s σ H xs us Q I r zz
 refine aa zz λi e q=>?_
 subst e
 obtain⟨u,u',rfl,ru,rt⟩:=vals2 r
 cases ru
 cases rt
 exact IsiPair.bool_bool ⟨.bl _,H,I,rfl,q⟩
def Ma{f:Env->Option D}{p':Pos}(ha:PE X a (tV X.K false f))(hg:Gl X "isinstance")(hm:X.mg "isinstance"=none)(U_:Gl X "bool")(U':X.mg "bool"=none)
  (hs:starEach [a,.Name "bool" p'] X.env=(false,eval a X.env)::starEach [.Name "bool" p'] X.env):
  PE X (.Call (.Name "isinstance" p) [a,.Name "bool" p'] [] pos) (tV X.K m λρ=>((f ρ).bind eN).map λ_=> .bl true):=by
 have pt:PE X (.Name "bool" p') (tC (.ty "bool")):=BB U_ U' boot_bool rfl (by decide) (by decide)
 refine PE.weak (eU zi hg hm boot_isinstance (cu ha (cu pt dN rfl) hs) (by decide) (by decide) hs (by rfl)) λσ H Q zz=>aq λnO=>cS zz λO ρ d hx hd q=>aa (map_some hd) λi e1 ag=>?_
 subst ag
 refine aa (bind_some e1) λx e1 e2=>nO ?_
 cases dU e2
 exact⟨O,ρ,_,hx,e1,λv H1 s1 r1=>⟨i,by rw[r1.bl],q _ H1 s1 (.inl (.bl _))⟩⟩
noncomputable def nC(lo:Int):Nat->List V
 |0=>[]
 |n+1=> .int lo::nC (lo+1) n
theorem jV{K:PySem.W.Frag}{O:Addr->Prop}{H:Hp}:∀(n:Nat) (lo:Int),av K O H (nC lo n) (bH lo n)
 |0,_=> .nil
 |n+1,lo=> .cons (.int lo) (jV n (lo+1))
theorem gq:∀(n:Nat) (lo:Int),(nC lo n).length =n
 |0,_=>rfl
 |n+1,lo=>by rw[nC,Xm,gq n]
theorem jW:∀(n:Nat) (lo:Int) (us:List Value),us.length=n->(∀(j:Nat) (v:Value),us[j]?=some v->∃t,v=Value.int (lo+j) t)->aL (nC lo n) us
 |0,lo,us,hl,_=>by
  cases us with
  |nil=>exact .nil
  |cons _ _=>cases hl
 |n+1,lo,us,hl,h=>by
  cases us with
  |nil=>cases hl
  |cons u us=>
   obtain⟨t,e⟩:=h 0 u rfl
   refine .cons ⟨t,by simpa using e⟩ (jW n (lo+1) us (by simpa using hl) λj v hj=>?_)
   obtain⟨t',e'⟩:=h (j+1) v (by simpa using hj)
   refine⟨t',?_⟩
   rw[e']
   congr 1
   push_cast
   lia
def u7(hg:Gl X "range")(hm:X.mg "range"=none)(ha:PA X [a] t)(hs:starEach [a] X.env=[(false,eval a X.env)]):PE X (.Call (.Name "range" p) [a] [] pos) (λσ H Q=>t σ H λvs H1=>∃hi:Int,vs=[.int hi]/\∀p,H1 p=none->Q (.ref p) (L2.upd H1 p (.eK 0 hi))):=by
 intro U s σ H Q I h
 refine Call_ (iu I hg hm boot_range (Ym (bG (ha pos U s σ H _ I h) λus s1 ⟨vs,H1,I1,r1,q1⟩=>?_) hs rfl))
 refine aa q1 λhi e q=>?_
 subst e
 obtain⟨u,rfl,t',rfl⟩:=vals1 r1
 refine call_range_1 ⟨.ref s1.heap.objs.size,_,I1.laid (o:= .eK 0 hi) (λb o e=>WY _ e) (W9 _) ⟨_,_,_,Xe _ rfl⟩,rfl,q _ I1.fresh⟩
def tS(hc:X.calm=true):cX X (.type "list") (λxs H Q=>∃(p:Addr) (hi:Int),xs=[.ref p]/\H p=some (.eK 0 hi)/\(-(2 ^ 62)<=hi/\hi<=bE)/\∀l,H l=none->Q (.ref l) (L2.upd H l (.lst (nC 0 hi.toNat)))):=by
 intro U s σ H xs us Q I r ⟨p,hi,e,hp,⟨Hr,hl⟩,q⟩
 subst e
 refine aa (vals1 r) λu ag rx=>?_
 subst ag
 cases rx
 refine JN ((show aZ X.prog X.w H s.heap p (.eK 0 hi) from I.aW p _ hp)) λt u v ho=>?_
 have et:bE=16777216:=rfl
 have zk:Builtin.Range.rangeSize 0 hi 1=((hi.toNat:Nat):Int):=by rw[rangeSize_one];split<;>lia
 refine call_list_range (n:=hi.toNat) (I.ok.hd hc) ho (small_one (by lia) (by lia) Hr (by lia)) zk (by lia) λh' tk GL c' kp hg iX=>⟨.ref s.heap.objs.size,_,I.laid (o:= .lst (nC 0 hi.toNat)) kp (W9 _) ⟨by rw[gq,cQ];lia,GL.toList,c',jW _ _ _ (by simpa using iX.1) (λj v hj=>?_),by simpa using hg⟩,rfl,q _ I.fresh⟩
 obtain⟨t',e'⟩:=iX.2 j v (by simpa using hj)
 exact⟨t',by rw[e'];simp⟩
def rC(hc:X.calm=true):cX X (.type "tuple") (λxs H Q=>∃(p:Addr) (hi:Int),xs=[.ref p]/\H p=some (.eK 0 hi)/\(-(2 ^ 62)<=hi/\hi<=bE)/\∀l,H l=none->Q (.ref l) (L2.upd H l (.tup (nC 0 hi.toNat)))):=by
 intro U s σ H xs us Q I r ⟨p,hi,e,hp,⟨Hr,hl⟩,q⟩
 subst e
 refine aa (vals1 r) λu ag rx=>?_
 subst ag
 cases rx
 refine JN ((show aZ X.prog X.w H s.heap p (.eK 0 hi) from I.aW p _ hp)) λt u v ho=>?_
 have et:bE=16777216:=rfl
 have zk:Builtin.Range.rangeSize 0 hi 1=((hi.toNat:Nat):Int):=by rw[rangeSize_one];split<;>lia
 refine wD (n:=hi.toNat) (I.ok.hd hc) ho (small_one (by lia) (by lia) Hr (by lia)) zk (by lia) λh' tk acc kp iX=>?_
 have I1:Inv X U σ H {s with heap:=h'}:=I.kept (t':=s.toks) kp
 have I2:Inv X U σ (L2.upd H h'.objs.size (.tup (nC 0 hi.toNat))) {s with heap:=h'.push {cls:= .type "tuple",data:= .seq acc},toks:=tk}:=
  I1.laid (t':=tk) (λb o e=>WY _ e) (W9 _) (show aZ X.prog X.w _ _ _ (.tup (nC 0 hi.toNat)) from⟨by rw[gq,cQ];lia,acc.toList,jW _ _ _ (by simpa using iX.1) (λj v hj=>by
   obtain⟨t',e'⟩:=iX.2 j v (by simpa using hj)
   exact⟨t',by rw[e'];simp⟩),by simpa using iN.new h' acc⟩)
 exact⟨.ref h'.objs.size,_,I2,rfl,q _ (I1.aW.fresh (W9 _))⟩
def zl{q1 qx:Pos}{g:Env->Option (List D)}(hc:X.calm=true)(hg:Gl X "range")(hm:X.mg "range"=none)(Mb:Gl X "tuple")(Gy:X.mg "tuple"=none)(ha:PA X [a] (sD X.K false g))(hl:∀ρ ds,g ρ=some ds->ds.length=1)(hs:starEach [a] X.env=[(false,eval a X.env)]):
  PE X (.Call (.Name "tuple" q1) [.Call (.Name "range" p) [a] [] pos] [] qx) (tV X.K m λρ=>((g ρ).bind dE).map .tup):=by
 have h1:=u7 (p:=p) (pos:=pos) hg hm ha hs
 refine PE.weak (eV (rC hc) Mb Gy PyProof.Rows.boot_tuple (cu h1 dN rfl) (by decide) (by decide) rfl rfl) λσ H Q zz=>aq λnO=>cS zz λO ρ d hx hd q=>aa (map_some hd) λds m7 ag=>?_
 subst ag
 refine nO ?_
 clear hd
 refine aa (bind_some m7) λxs e1 hd=>?_
 clear m7
 have v_:=hl ρ xs e1
 refine⟨O,ρ,xs,hx,e1,λvs H1 s1 r=>?_⟩
 refine aq λnO=>?_
 cases xs with
 |nil=>cases v_
 |cons x t=>
  refine nO<|aq λnO=>?_
  cases t with
  |cons _ _=>cases v_
  |nil=>
   refine nO<|aa (cG r) λv aP rv=>?_
   subst aP
   refine aq λnO=>?_
   cases x with
   |int n=>
    refine nO ?_
    simp only[dE]at hd
    split at hd
    .rename_i hz
     cases hd
     cases rv.int
     exact⟨n,rfl,λp hp=>⟨p,n,rfl,ah,hz,λl hl=>q _ _ ((s1.trans (af.upd hp)).trans (af.upd hl)) (.inl (.tup (c9.of ah) (jV _ _)))⟩⟩
    .cases hd
   |_=>cases hd
theorem jX:∀{ns:List Int}{j:Nat},cC k ns=some j->ns[j]?=some k/\∀m,m<j->ns[m]?≠some k
 |[],_,h=>by cases h
 |n::r,j,h=>by
  unfold cC at h
  split at h
  .rename_i e;cases h;subst e;exact⟨rfl,λm hm=>absurd hm (YO _)⟩
  .rename_i ne
   refine aa (map_some h) λi h1 ag=>?_
   subst ag
   obtain⟨h2,h3⟩:=jX h1
   refine⟨h2,λm hm=>?_⟩
   cases m with
   |zero=>exact λz=>ne (by simpa using z)
   |succ m=>exact h3 m (by lia)
def zo{K:PySem.W.Frag}{H H':Hp}(s:af H H'){a:Addr}{vs:List V}(h:dq K H a vs):dq K H' a vs:=h.elim (λh=> .inl (kU s h)) .inr
def CS{oe a0:Expr}{ap cp:Pos}{fo:Env->Option D}{g:Env->Option (List D)}(ho:PE X oe (tV X.K true fo))(ha:PA X [a0] (sD X.K true g))(hb:attributeBase oe "index" X.env (eval oe X.env)=eval oe X.env)(hl:(ap.endLine==cp.line)=true)(hs:starEach [a0] X.env=[(false,eval a0 X.env)]):
  PE X (.Call (.Attribute oe "index" ap) [a0] [] cp) (tV X.K m λρ=>(fo ρ).bind λx=>(g ρ).bind λxs=>dg .index x xs):=
 (K4 PySem.F.plainAttrs_tuple Z4 PySem.F.type_tuple_index yG ho ha hb (by rw[hs];rfl) hl hs rfl).weak λσ H Q zz=>by
  refine aq λnO=>cS zz λO ρ d hx hd k=>aa (bind_some hd) λx e1 hd=>aa (bind_some hd) λxs e2 hd=>nO ?_
  have key:∃ys kk,x= .tup ys/\xs=[.int kk]/\∃ns,aU ys=some ns/\∃j:Nat,cC kk ns=some j/\d= .int (j:Int):=by
   cases x with
   |tup ys=>
    cases xs with
    |nil=>cases hd
    |cons y t=>
     cases t with
     |cons _ _=>cases y<;>cases hd
     |nil=>
      cases y with
      |int kk=>
       exact aq λnO=>aa (bind_some (show(aU ys).bind (λns=>(cC kk ns).map λ(i:Nat)=>D.int (i:Int))=some d from hd)) λns e3 h4=>aa (map_some h4) λj e4 e5=>nO<|⟨ys,kk,rfl,rfl,ns,e3,j,e4,e5.symm⟩
      |_=>cases hd
   |_=>cases hd
  refine aq λnO=>?_
  obtain⟨ys,kk,rfl,rfl,ns,e3,j,e4,rfl⟩:=key
  refine nO ?_
  refine⟨O,ρ,.tup ys,hx,e1,λv H1 s1 r1=>?_⟩
  refine aq λnO=>bu r1.tup λa vs ag q1 p1=>?_
  subst ag
  refine nO ?_
  refine⟨⟨a,vs,rfl,q1⟩,O,ρ,[.int kk],hx.mono s1,e2,λus H2 s2 r2=>?_⟩
  refine aq λnO=>aa (cG r2) λu aP ru=>?_
  subst aP
  have hv:vs=ns.map V.int:=cE p1 e3
  subst hv
  obtain⟨h1,h2⟩:=jX e4
  exact nO<|⟨a,ns,kk,j,rfl,by rw[ru.int],jk s2 q1,h1,h2,k _ _ (s1.trans s2) (.inl (.int _))⟩
def zp{oe a0:Expr}{ap cp:Pos}{fo:Env->Option D}{g:Env->Option (List D)}(ho:PE X oe (tV X.K true fo))(ha:PA X [a0] (sD X.K true g))(hb:attributeBase oe "index" X.env (eval oe X.env)=eval oe X.env)(hl:(ap.endLine==cp.line)=true)(hs:starEach [a0] X.env=[(false,eval a0 X.env)]):
  PE X (.Call (.Attribute oe "index" ap) [a0] [] cp) (tV X.K m λρ=>(fo ρ).bind λx=>(g ρ).bind λxs=>dg .jG x xs):=
 (uz Yz PySem.F.slot_list_index PySem.F.type_list_index wC ho ha hb (by rw[hs];rfl) hl hs rfl).weak λσ H Q zz=>by
  refine aq λnO=>cS zz λO ρ d hx hd k=>aa (bind_some hd) λx e1 hd=>aa (bind_some hd) λxs e2 hd=>nO ?_
  have key:∃ys kk,x= .lst ys/\xs=[.int kk]/\∃ns,aU ys=some ns/\∃j:Nat,cC kk ns=some j/\d= .int (j:Int):=by
   cases x with
   |lst ys=>
    cases xs with
    |nil=>cases hd
    |cons y t=>
     cases t with
     |cons _ _=>cases y<;>cases hd
     |nil=>
      cases y with
      |int kk=>
       exact aq λnO=>aa (bind_some (show(aU ys).bind (λns=>(cC kk ns).map λ(i:Nat)=>D.int (i:Int))=some d from hd)) λns e3 h4=>aa (map_some h4) λj e4 e5=>nO<|⟨ys,kk,rfl,rfl,ns,e3,j,e4,e5.symm⟩
      |_=>cases hd
   |_=>cases hd
  refine aq λnO=>?_
  obtain⟨ys,kk,rfl,rfl,ns,e3,j,e4,rfl⟩:=key
  refine nO ?_
  refine⟨O,ρ,.lst ys,hx,e1,λv H1 s1 r1=>?_⟩
  refine aq λnO=>bu r1.lst λa vs ag q1 p1=>?_
  subst ag
  refine nO ?_
  refine⟨.inl ⟨rfl,vs,q1⟩,O,ρ,[.int kk],hx.mono s1,e2,λus H2 s2 r2=>?_⟩
  refine aq λnO=>aa (cG r2) λu aP ru=>?_
  subst aP
  have hv:vs=ns.map V.int:=cE p1 e3
  subst hv
  obtain⟨h1,h2⟩:=jX e4
  exact nO<|⟨a,ns,kk,j,rfl,by rw[ru.int],zo s2 q1,h1,h2,k _ _ (s1.trans s2) (.inl (.int _))⟩
inductive Sk where
 |tup|lst|bP (o:Obj) (ks:List (List Int)) (vs:List V)
abbrev JC:=Option (Sk×V×List D)
def fm(K:PySem.W.Frag)(O:Addr->Prop)(H:Hp):JC->Prop
 |none=>True
 |some (.lst,v,ds)=>∃a vs,v= .ref a/\dq K H a vs/\av K O H vs ds
 |some (.tup,v,ds)=>∃a vs,v= .ref a/\c9 K H a vs/\av K O H vs ds
 |some (.bP o ks vs,v,ds)=>∃a,v= .ref a/\H a=some (.dH o (gb 0 ks vs))/\ks.length=vs.length/\lV 0 ks/\av K O H vs ds
theorem fm.mono{K:PySem.W.Frag}{O:Addr->Prop}{H H':Hp}{f9:JC}(h:fm K O H f9)(s:af H H'):fm K O H' f9:=by
 rcases f9 with _|⟨_|_|⟨o,ks,vs⟩,v,ds⟩
 .trivial
 .obtain⟨a,vs,e,h1,h2⟩:=h;exact⟨a,vs,e,jk (K:=K) s h1,h2.mono s⟩
 .obtain⟨a,vs,e,h1,h2⟩:=h;exact⟨a,vs,e,s.seq h1,h2.mono s⟩
 .obtain⟨a,e,h1,h2,h3,h4⟩:=h;exact⟨a,e,s _ _ h1,h2,h3,h4.mono s⟩
theorem fm.own{K:PySem.W.Frag}{O:Addr->Prop}{H:Hp}{f9:JC}{p:Addr}(h:fm K O H f9)(hp:H p=none):fm K (λa=>O a\/a=p) H f9:=by
 rcases f9 with _|⟨_|_|⟨o,ks,vs⟩,v,ds⟩
 .trivial
 .obtain⟨a,vs,e,h1,h2⟩:=h;exact⟨a,vs,e,h1,h2.own hp⟩
 .obtain⟨a,vs,e,h1,h2⟩:=h;exact⟨a,vs,e,h1,h2.own hp⟩
 .obtain⟨a,e,h1,h2,h3,h4⟩:=h;exact⟨a,e,h1,h2,h3,h4.own hp⟩
def Hs(K:PySem.W.Frag)(O:Addr->Prop)(b:Bool)(H:Hp):JC->Prop
 |none=>True
 |some (.lst,v,ds)=>bS K O b H v (.lst ds)
 |some (.tup,v,ds)=>bS K O b H v (.tup ds)
 |some (.bP o ks vs,v,ds)=>fm K O H (some (.bP o ks vs,v,ds))
def Hs.ok{K:PySem.W.Frag}{O:Addr->Prop}{H:Hp}{b:Bool}{f9:JC}(h:Hs K O b H f9):fm K O H f9:=by
 rcases f9 with _|⟨_|_|⟨o,ks,vs⟩,v,ds⟩
 .trivial
 .exact bS.tup h
 .exact bS.lst h
 .exact h
def tT(K:PySem.W.Frag)(J:It)(f9:JC)(ds:List D):Prop:=
 ∀O H,fm K O H f9->(∀i,i<ds.length->J.go i H)/\(∀i x H' d,J.xV i H x H'->ds[i]?=some d->af H H'/\bA K O H' x d)/\J.stop ds.length H
def tI(K:PySem.W.Frag)(b:Bool)(f:Env->Option (List D)):TI:=λσ H R=>∃O ρ ds,EX K O σ H ρ/\f ρ=some ds/\
 ∀J f9 H',af H H'->tT K J f9 ds->Hs K O b H' f9->R J H'
def Ht{K:PySem.W.Frag}{a:Addr}{ds:List D}:tT K (Oy K a) (some (.lst,.ref a,ds)) ds:=λO H zz=>by
 refine bu zz λb vs e h1 h2=>?_
 cases e
 have l:=h2.length
 refine⟨λi hi=>?_,λi x H' d ⟨e,y⟩ hd=>?_,vs,h1,aau l⟩
 .have iX:i<vs.length:=by lia
  exact⟨vs,vs[i],h1,by simp[iX]⟩
 .subst e
  refine aa (h2.get hd) λv e1 e2=>?_
  have:=y vs h1
  rw[e1]at this
  cases this
  exact⟨af.refl _,e2⟩
def Hu{K:PySem.W.Frag}{a:Addr}{ds:List D}:tT K (Oz K a) (some (.tup,.ref a,ds)) ds:=λO H zz=>by
 refine bu zz λb vs e h1 h2=>?_
 cases e
 have l:=h2.length
 refine⟨λi hi=>?_,λi x H' d ⟨e,y⟩ hd=>?_,vs,h1,aau l⟩
 .have iX:i<vs.length:=by lia
  exact⟨vs,vs[i],h1,by simp[iX]⟩
 .subst e
  refine aa (h2.get hd) λv e1 e2=>?_
  have:=y vs h1
  rw[e1]at this
  cases this
  exact⟨af.refl _,e2⟩
theorem gr:∀(n:Nat) (lo:Int),(bH lo n).length =n
 |0,_=>rfl
 |n+1,lo=>by rw[bH,Xm,gr n]
theorem rD:∀(n:Nat) (lo:Int) (i:Nat) (d:D),(bH lo n)[i]?=some d->d= .int (lo+i)
 |0,lo,i,d,h=>by simp[bH]at h
 |n+1,lo,0,d,h=>by simp[bH]at h;subst h;simp
 |n+1,lo,i+1,d,h=>by
  simp[bH]at h
  rw[rD n (lo+1) i d h]
  congr 1
  push_cast
  lia
def Hv{K:PySem.W.Frag}{lo:Int}{n:Nat}:tT K (Nq lo n) none (bH lo n):=λO H _=>by
 refine⟨λi hi=>?_,λi x H' d ⟨e,y⟩ hd=>?_,?_⟩
 .rw[gr]at hi;exact hi
 .subst e y
  rw[rD n lo i d hd]
  exact⟨af.refl _,.int _⟩
 .show n<=(bH lo n).length
  rw[gr];exact W9 _
def Ql(h:PE X a (tV X.K m f)):PI X tg a (tI X.K m λρ=>(f ρ).bind seq):=by
 intro U s σ H R I ⟨O,ρ,ds,hx,hd,q⟩
 refine aa (bind_some hd) λd e1 hd=>bG (h U s σ H (λv H1=>af H H1/\bS X.K O m H1 v d) I ⟨O,ρ,d,hx,e1,λv H' s' r'=>⟨s',r'⟩⟩) λv s1 zz=>aq λnO=>gH zz λx H1 I1 r1 s' rb=>nO<|Zb λnO=>?_
 cases d with
 |lst xs=>
  refine nO<|aq λnO=>?_
  cases hd
  refine bu rb.lst λp vs ag h1 h2=>?_
  subst ag
  cases r1
  refine bJ (I1.list h1) λits rv pl hz=>nO<|Y4 pl.isList ?_
  refine⟨s1.heap.objs.size,[s1.heap.objs.size],_,Oy X.K p,H1,rfl,I1.kept (t':=s1.toks) λb o e=>WY _ e,wc p _,⟨_,Xe _ rfl,rfl,rfl⟩,λb hb=>?_,q _ (some (.lst,.ref p,ds)) H1 s' Ht rb⟩
  have e:b=s1.heap.objs.size:=by simpa using hb
  subst e
  exact I1.sH (W9 _) (I1.aW.fresh (W9 _))
 |tup xs=>
  refine nO<|aq λnO=>?_
  cases hd
  refine bu rb.tup λp vs aP h1 h2=>?_
  subst aP
  cases r1
  refine bJ (I1.tuple h1) λits rv pl hz=>nO<|YW (show s1.heap.IsTuple p its.toArray from pl) ?_
  refine⟨s1.heap.objs.size,[s1.heap.objs.size],_,Oz X.K p,H1,rfl,I1.kept (t':=s1.toks) λb o e=>WY _ e,sJ p _,⟨_,Xe _ rfl,rfl,rfl⟩,λb hb=>?_,q _ (some (.tup,.ref p,ds)) H1 s' Hu rb⟩
  have e:b=s1.heap.objs.size:=by simpa using hb
  subst e
  exact I1.sH (W9 _) (I1.aW.fresh (W9 _))
 |_=>cases hd
theorem du:∀(xs:List D) (k:Int),(aS k xs).length =xs.length
 |[],_=>rfl
 |_::r,k=>by rw[aS,Xm,Xm,du r]
theorem jn:∀(xs:List D) (k:Int) (i:Nat) (d:D),(aS k xs)[i]?=some d->∃y,xs[i]?=some y/\d= .tup [.int (k+i),y]
 |[],_,_,_,h=>by simp[aS]at h
 |x::r,k,0,d,h=>by
  simp[aS]at h
  exact⟨x,rfl,by rw[<-h];simp⟩
 |x::r,k,i+1,d,h=>by
  refine aa (jn r (k+1) i d (by simpa[aS]using h)) λy h1 h2=>⟨y,by simpa using h1,?_⟩
  rw[h2,show k+1+(i:Int)=k+((i+1:Nat):Int) by push_cast;lia]
def zq{K:PySem.W.Frag}{k:Sk}{a:Addr}{ds:List D}{Sq:Hp->List V->Prop}(hS:∀O H,fm K O H (some (k,.ref a,ds))->∃vs,Sq H vs/\av K O H vs ds):tT K (NA Sq) (some (k,.ref a,ds)) (aS 0 ds):=λO H h=>by
 obtain⟨vs,hq,hr⟩:=hS O H h
 have hl:=hr.length
 refine⟨λi hi=>?_,λi x H' d hy hd=>?_,?_⟩
 .rw[du,<-hl]at hi
  exact⟨vs,vs[i],hq,by simp[hi]⟩
 .obtain⟨t,y,ht,rfl,rfl,hy⟩:=hy
  obtain⟨z,h1,rfl⟩:=jn ds 0 i d hd
  obtain⟨v,e1,e2⟩:=hr.get h1
  have:y=v:=by
   have q:=hy vs hq
   rw[e1]at q
   exact(Xn q).symm
  subst this
  refine⟨af.upd ht,.tup (c9.of ah) (.cons ?_ (.cons (e2.mono (af.upd ht)) .nil))⟩
  have e0:(0:Int)+(i:Int)=i:=by lia
  rw[e0]
  exact .int _
 .exact⟨vs,hq,by rw[du];exact hl⟩
def Mc{elts:List Expr}{k0:Nat}{tpos:Pos}{f:Env->Option D}(hg:Gl X "enumerate")(hm:X.mg "enumerate"=none)(ha:PE X a (tV X.K m f))(hs:starEach [a] X.env=[(false,eval a X.env)]):
  PI X (.Tuple elts k0 tpos) (.Call (.Name "enumerate" p) [a] [] pos) (tI X.K m λρ=>(f ρ).bind λx=>(seq x).map (aS 0)):=by
 have h1:=B6 (X:=X) (a:=a) (p:=p) (pos:=pos) (elts:=elts) (k0:=k0) (tpos:=tpos) hg hm (cu ha dN hs) hs
 intro U s σ H R I ⟨O,ρ,ds,hx,hd,q⟩
 refine aq λnO=>aa (bind_some hd) λx e1 hd=>aa (map_some hd) λxs e2 ag=>?_
 subst ag
 refine nO ?_
 refine h1 U s σ H R I ⟨O,ρ,x,hx,e1,λv H1 s1 r1=>?_⟩
 refine aq λnO=>?_
 cases x with
 |tup ys=>
  refine nO<|aq λnO=>?_
  cases e2
  refine bu r1.tup λb vs aP q1 p1=>?_
  subst aP
  refine nO ?_
  refine⟨b,vs,rfl,.inl ⟨q1,q _ (some (.tup,.ref b,xs)) H1 s1 (zq λO' H' h=>?_) r1⟩⟩
  refine aq λnO=>bu h λc us e h2 h3=>?_
  cases e
  exact nO<|⟨us,h2,h3⟩
 |lst ys=>
  refine nO<|aq λnO=>?_
  cases e2
  refine bu r1.lst λb vs cZ q1 p1=>?_
  subst cZ
  refine nO ?_
  refine⟨b,vs,rfl,.inr ⟨q1,q _ (some (.lst,.ref b,xs)) H1 s1 (zq λO' H' h=>?_) r1⟩⟩
  refine aq λnO=>bu h λc us e h2 h3=>?_
  cases e
  exact nO<|⟨us,h2,h3⟩
 |_=>cases e2
def zu{κ:Type}{f:List Int->κ}{ks:List (List Int)}{vs:List V}(hl:ks.length=vs.length){i:Nat}(hi:i<ks.length):((ks.map f).zip vs)[i]?=some (f ks[i],vs[i]'(hl▸hi)):=
 List.getElem?_zip_eq_some.mpr ⟨by rw[Xb,WW hi];rfl,WW (hl▸hi)⟩
def jo:gb 0 ks vs= .dK ((ks.map λk=>(Sum.inl (k.headD 0):cU)).zip vs):=by unfold gb;rw[Xl rfl]
def CT{K:PySem.W.Frag}{a:Addr}{o:Obj}{ks:List (List Int)}{vs:List V}{ds:List D}(hl:ks.length=vs.length):tT K (PB a o ((ks.map λk=>(Sum.inl (k.headD 0):cU)).zip vs)) (some (.bP o ks vs,.ref a,ds)) (ks.map λk=> .int (k.headD 0)):=λO H zz=>by
 refine Ji zz λb e h1 h2 h3 h4=>?_
 cases e
 rw[jo]at h1
 have len:((ks.map λk=>(Sum.inl (k.headD 0):cU)).zip vs).length =ks.length:=by rw[Zq,WZ,hl,ZU]
 refine⟨λi hi=>⟨h1,by rw[len];simpa using hi⟩,λi x H' d ⟨e,y⟩ hd=>?_,h1,by rw[len,WZ]⟩
 subst e
 have hi:i<ks.length:=by
  have:=(Xf.mp hd).1
  simpa using this
 rw[zu hl hi]at y
 rw[Xb,WW hi]at hd
 cases hd
 cases y
 exact⟨af.refl _,.int _⟩
def CU{K:PySem.W.Frag}{a:Addr}{o:Obj}{ks:List (List Int)}{vs:List V}{ds:List D}(hl:ks.length=vs.length)(kM:vs.length=ds.length):tT K (P9 a o ((ks.map λk=>(Sum.inl (k.headD 0):cU)).zip vs)) (some (.bP o ks vs,.ref a,ds)) ds:=λO H zz=>by
 refine Ji zz λb e h1 h2 h3 h4=>?_
 cases e
 rw[jo]at h1
 have len:((ks.map λk=>(Sum.inl (k.headD 0):cU)).zip vs).length =ks.length:=by rw[Zq,WZ,hl,ZU]
 refine⟨λi hi=>⟨h1,by rw[len];lia⟩,λi x H' d ⟨e,y⟩ hd=>?_,h1,by rw[len];lia⟩
 subst e
 refine aa (h4.get hd) λv e1 e2=>?_
 have hi:i<ks.length:=by
  have:=(Xf.mp e1).1
  lia
 rw[zu hl hi]at y
 cases y
 rw[WW (by lia)]at e1
 cases e1
 exact⟨af.refl _,e2⟩
def EX.Md{K:PySem.W.Frag}{O:Addr->Prop}{H:Hp}{σ:St}{ρ:Env}(hx:EX K O σ H ρ){i:Nat}{ks:List (List Int)}{ds:List D}(h:ρ[i]?=some (some (false,.bP 0 ks ds))):∃a o vs,σ[i]?=some (some (.ref a))/\H a=some (.dH o (gb 0 ks vs))/\ks.length=vs.length/\lV 0 ks/\av K O H vs ds:=by
 refine aa (hx.jI i false _ h) λv q1 q2=>?_
 have Va:bA K O H v (.bP 0 ks ds):=q2
 cases Va with
 |bP g1 g2 g3 g4=>exact⟨_,_,_,q1,g1,g2,g3,g4⟩
def Qm{tg:Expr}{j:Nat}(hj:PE X a (dn j)):PI X tg a (tI X.K m λρ=>keysAt ρ j):=by
 intro U s σ H R I ⟨O,ρ,ds,hx,hd,q⟩
 have hd:keysAt ρ j=some ds:=hd
 unfold keysAt at hd
 split at hd
 .rename_i ks xs e
  refine aq λnO=>?_
  cases hd
  refine so (hx.Md e) λb o vs e1 e2 e3 e4 e5=>nO ?_
  refine K' hj U s σ H R I ⟨.ref b,e1,b,o,_,rfl,by rw[e2,jo],q _ (some (.bP o ks vs,.ref b,xs)) H (af.refl _) (CT e3) ⟨b,rfl,e2,e3,e4,e5⟩⟩
 .cases hd
def Qn{tg:Expr}{j:Nat}{ap cp:Pos}(hj:PE X a (dn j))(iT:attributeBase a "values" X.env (eval a X.env)=eval a X.env)(iU:(ap.endLine==cp.line)=true):PI X tg (.Call (.Attribute a "values" ap) [] [] cp) (tI X.K m λρ=>pz ρ j):=by
 intro U s σ H R I ⟨O,ρ,ds,hx,hd,q⟩
 have hd:pz ρ j=some ds:=hd
 unfold pz at hd
 split at hd
 .rename_i ks xs e
  refine aq λnO=>?_
  cases hd
  refine so (hx.Md e) λb o vs e1 e2 e3 e4 e5=>nO ?_
  refine LP hj iT iU U s σ H R I ⟨.ref b,e1,b,o,_,rfl,by rw[e2,jo],q _ (some (.bP o ks vs,.ref b,ds)) H (af.refl _) (CU e3 e5.length) ⟨b,rfl,e2,e3,e4,e5⟩⟩
 .cases hd
def Me(hg:Gl X "reversed")(hm:X.mg "reversed"=none)(ha:PE X a (tV X.K false f))(hs:starEach [a] X.env=[(false,eval a X.env)]):
  PI X tg (.Call (.Name "reversed" p) [a] [] pos) (tI X.K m λρ=>(f ρ).bind λx=>match x with| .tup xs=>some xs.reverse|_=>none):=by
 intro U s σ H R I ⟨O,ρ,ds,hx,hd,q⟩
 refine aa (bind_some hd) λx e1 hd=>LN hg hm (cu ha dN hs) hs U s σ H R I ⟨O,ρ,x,hx,e1,λv H1 s1 r=>?_⟩
 cases x with
 |tup xs=>
  cases hd
  refine bu r.tup λb vs ag h1 h2=>?_
  subst ag
  refine⟨b,vs,rfl,h1,q _ (some (.tup,.ref b,xs)) H1 s1 (λO' H' ⟨c,us,e,g1,g2⟩=>?_) (.inl r.own)⟩
  cases e
  have l1:=g2.length
  have l2:=h2.length
  have lr:xs.reverse.length=vs.length:=by rw[List.length_reverse];exact l2.symm
  refine⟨λi hi=>⟨us,g1,by lia,by lia⟩,λi y Sz d ⟨e,hy⟩ hd=>?_,lr⟩
  subst e
  have hi:i<xs.length:=by
   have:=(Xf.mp hd).1
   simpa using this
  have ey:=hy us g1
  rw[List.getElem?_reverse hi]at hd
  refine aa (g2.get hd) λv e1 e2=>?_
  have:vs.length-1-i=xs.length-1-i:=by lia
  rw[this,e1]at ey
  cases ey
  exact⟨af.refl _,e2⟩
 |_=>cases hd
end
section
variable {X:Cx}{a b c e:Expr}{es:List Expr}{pos p:Pos}{m:Bool}
def EX.ext{K:PySem.W.Frag}{O:Addr->Prop}{σ:St}{H1 H:Hp}{ρ:Env}{p:Addr}{vs:List V}(h:EX K O σ H1 ρ)(hp:H1 p=none)(s:af H1 H)(e:H p=some (.lst vs)):EX K (λa=>O a\/a=p) σ H ρ:=by
 refine⟨λa ha=>?_,λi o d hi=>?_⟩
 .rcases ha with ha|ha
  .exact aa (h.live a ha) λus q qo=>⟨us,s _ _ q,qo⟩
  .subst ha;exact⟨_,e,trivial⟩
 .refine aa (h.jI i o d hi) λv h1 h2=>⟨v,h1,?_⟩
  cases o with
  |true=>
   exact bJ h2 λa e1 e2 c=>⟨a,e1,.inl e2,(c.own hp).mono s⟩
  |false=>exact(bA.own h2 hp).mono s
def w4(h:o.join=some x):o=some (some x):=by
 cases o with
 |none=>cases h
 |some y=>cases y with
  |none=>cases h
  |some z=>cases h;rfl
theorem EX.inner{K:PySem.W.Frag}{O:Addr->Prop}{σ:St}{H:Hp}{ρ:Env}(h:EX K O σ H ρ){us:List V}{ys:List D}(r:av K O H us ys)(fr:List Nat):EX K O (us.map some++iW fr σ) H (inner ys ρ fr):=by
 refine⟨h.live,λi o d' hi=>?_⟩
 unfold Py.inner at hi
 have hl:=r.length
 by_cases bZ:i<ys.length
 .rw[XI (by simpa using bZ),Xb]at hi
  obtain⟨y,e1,e2⟩:=map_some hi
  cases e2
  obtain⟨v,f1,f2⟩:=r.get e1
  exact⟨v,by rw[XI (by simpa[hl]using bZ),Xb,f1];rfl,f2⟩
 .rw[XN (by simpa using bZ),WZ]at hi
  unfold yt at hi
  rw[Xb]at hi
  refine aa (map_some hi) λi0 e0 hj=>aa (h.jI i0 o d' (w4 hj)) λw h1 h2=>⟨w,?_,h2⟩
  rw[XN (by simpa[hl]using bZ),WZ,hl]
  unfold iW
  rw[Xb,e0]
  show some (σ[i0]?).join =_
  rw[h1]
  rfl
noncomputable def oh(tg:Nat)(fs:Env->Option Bool)(fe:Env->Option D)(fr:List Nat)(ρ:Env)(y:D):Option (Option D):=(aE tg y).bind λys=>(fs (inner ys ρ fr)).bind λk=>if k then(fe (inner ys ρ fr)).map some else some none
def SA(K:PySem.W.Frag)(k tg:Nat)(g:TG):Prop:=∀O x H d ys bO Q,bA K O H x d->aE tg d=some ys->(∀us,av K O H us ys->Q (us.map some++bO) H)->g x (List.replicate k none++bO) H Q
def Mf{K:PySem.W.Frag}:SA K 1 0 (cO 0):=λO x H d ys bO Q r e q=>by
 cases e
 exact q [x] (.cons r .nil)
def oj{K:PySem.W.Frag}{fr:List Nat}{fi:Env->Option (List D)}{fs:Env->Option Bool}{fe:Env->Option D}{k tg:Nat}{g:TG}(hg:SA K k tg g)(σ:St)(H:Hp)(Q:VK)
  (h:tF K (λρ=>(fi ρ).bind λxs=>if xs.length<=bE then walk (oh tg fs fe fr ρ) xs else none) σ H Q):nT k fr (tI K true fi) g (tB K fs) (tV K false fe) σ H Q:=by
 refine cS h λO ρ out hx hd q=>aa (bind_some hd) λxs e1 hd=>?_
 split at hd
 .rename_i hz
  refine⟨O,ρ,xs,hx,e1,λJ f9 H1 s1 zw rE p hp=>?_⟩
  have rF:=hx.mono s1
  have Hw:fm K (λa=>O a\/a=p) H1 f9:=rE.ok.own hp
  refine⟨λi m H'=>m=xs.length-i/\i<=xs.length/\af H1 H'/\∃vs ys bO,H' p=some (.lst vs)/\av K (λa=>O a\/a=p) H' vs ys/\ys.length<=i/\walk (oh tg fs fe fr ρ) (xs.drop i)=some bO/\out=ys++bO,
   ⟨xs.length,rfl,Ye _,af.upd hp,[],[],out,ah,.nil,W9 _,hd,rfl⟩,?_⟩
  rintro i mm H2 ⟨rfl,hi,s2,vs,ys,bO,ep,rp,hl,hw,ho⟩
  refine cN (zw _ H2 (Hw.mono s2)) λgo xV stop=>?_
  by_cases bZ:i<xs.length
  .refine .inr ⟨go i bZ,λx H3 hy=>?_⟩
   have Qo:xs[i]?=some xs[i]:=by simp[bZ]
   obtain⟨s3,rx⟩:=xV i x H3 _ hy Qo
   have Mi:H3 p=some (.lst vs):=s3 _ _ ep
   have Qp:EX K (λa=>O a\/a=p) σ H3 ρ:=rF.ext hp (s2.trans s3) Mi
   have dr:xs.drop i=xs[i]::xs.drop (i+1):=(XR bZ)
   rw[dr,walk]at hw
   have ht:oh tg fs fe fr ρ xs[i]=(aE tg xs[i]).bind λys=>(fs (Py.inner ys ρ fr)).bind λk=>if k then(fe (Py.inner ys ρ fr)).map some else some none:=rfl
   rw[ht]at hw
   cases Qr:aE tg xs[i]with
   |none=>rw[Qr]at hw;cases hw
   |some zs=>
   rw[Qr,Yc]at hw
   refine hg _ x H3 _ zs _ _ rx Qr λus Vb=>?_
   have Mj:=Qp.inner Vb fr
   cases ek:fs (Py.inner zs ρ fr)with
   |none=>rw[ek]at hw;cases hw
   |some k=>
    rw[ek]at hw
    refine⟨_,_,k,Mj,ek,λH4 s4=>?_⟩
    have SD:H4 p=some (.lst vs):=s4 _ _ Mi
    cases k with
    |false=>
     refine m_ ⟨xs.length-(i+1),by omega,rfl,bZ,(s2.trans s3).trans s4,vs,ys,bO,SD,rp.mono (s3.trans s4),Nat.le_succ_of_le hl,?_,ho⟩
     simpa using hw
    |true=>
     cases ee:fe (Py.inner zs ρ fr)with
     |none=>rw[Yc,Xl rfl,ee]at hw;cases hw
     |some d=>
      rw[Yc,Xl rfl,ee]at hw
      simp only[Zl]at hw
      refine aa (map_some hw) λzx u9 Mk=>lK ⟨_,_,d,Mj.mono s4,ee,λv H5 s5 r5=>?_⟩
      have SE:H5 p=some (.lst vs):=s5 _ _ SD
      have Qs:af H1 H5:=((s2.trans s3).trans s4).trans s5
      refine⟨vs,xs.length-(i+1),SE,by rw[rp.length,cQ];omega,by omega,rfl,bZ,λbb oo eb=>?_,vs++[v],ys++[d],zx,ah,?_,?_,u9,?_⟩
      .rw[ak (cc eb hp)];exact Qs _ _ eb
      .exact((rp.mono ((s3.trans s4).trans s5)).append (.cons r5.own .nil)).upd (.inr rfl) SE trivial
      .rw[W_,Xx];omega
      .rw[ho,<-Mk,Xw];rfl
  .have ei:i=xs.length:=by omega
   subst ei
   refine .inl ⟨stop,?_⟩
   rw[aai,walk]at hw
   cases hw
   rw[XF]at ho
   subst ho
   have Vc:H p=none:=by
    cases z:H p with
    |none=>rfl
    |some o=>rw[s1 _ _ z]at hp;cases hp
   let H0:Hp:=λb=>if b=p then none else H2 b
   have e0:L2.upd H0 p (.lst vs)=H2:=by
    funext b
    unfold L2.upd
    by_cases hb:b=p
    .rw[Xl hb,hb,ep]
    .rw[Xs hb];exact Xs hb
   have k0:∀b,b≠p->H0 b=H2 b:=λb hb=>Xs hb
   rw[<-e0]
   refine q p vs H0 (λb o eb=>?_) (Xl rfl) ?_
   .rw[k0 b (λz=>by rw[z,Vc]at eb;cases eb)]
    exact s2 _ _ (s1 _ _ eb)
   .refine fc (λb us hb=>?_) (λb us hb nb=>⟨?_,λz=>nb (Or.inl z)⟩) (λb o u hb=>by rw[k0 b (fR hb ep (by intro z;cases z))];exact hb) rp
    .have jE:H2 b=some (.tup us):=hb
     show H0 b=some (.tup us)
     rw[k0 b (fR jE ep (by intro z;cases z))];exact jE
    .rcases hb with hb|⟨u,hb⟩
     .exact .inl (by rw[k0 b (λz=>nb (.inr z))];exact hb)
     .exact .inr ⟨u,by rw[k0 b (λz=>nb (.inr z))];exact hb⟩
 .cases hd
def NQ:pv 1 (cO 0):=λx σ H Q h=>⟨h,XD ..,λi hi=>by rw[Xq (by omega)]⟩
def Hx(hi:PI X (.Name x q) iter (tI X.K true fi))(S:Gw X.N X.env.scope sc N' 1 fr)(hc:X.calm=true)
  (Gx:∀cl C U s H ex,PG (gU X sc cl C N' U s H ex) (.Name x q) (cO 0)/\wy (gU X sc cl C N' U s H ex) ifs (tB X.K fs)/\PE (gU X sc cl C N' U s H ex) dO (tV X.K false fe))
  (hs:∀x,foldedSetIterable iter X.env x=pure x):PE X (.ListComp dO [⟨.Name x q,iter,ifs,0⟩] sc pos) (tF X.K λρ=>(fi ρ).bind λxs=>if xs.length<=bE then walk (oh 0 fs fe fr ρ) xs else none):=
 (uA hi S hc NQ Gx hs).weak λσ H Q h=>oj Mf σ H Q h
def zy:wy X [] (tB X.K λ_=>some true):=λU s σ H Q I zz=>by
 refine aq λnO=>cS zz λO ρ k hx hd q=>?_
 cases hd
 exact nO<|BZ U s σ H Q I (q H (af.refl _))
def CV{f:Env->Option D}{g:Env->Option Bool}(h:PT X c (tB X.K λρ=>(f ρ).bind eN))(hr:wy X es (tB X.K g)):wy X (c::es) (tB X.K λρ=>((f ρ).bind eN).bind λx=>if x=true then g ρ else some x):=λU s σ H Q I zz=>by
 refine cS zz λO ρ k hx hd q=>aa (bind_some hd) λx e1 hd=>ym h hr U s σ H Q I ⟨O,ρ,x,hx,e1,λH1 s1=>?_⟩
 cases x with
 |true=>exact lK ⟨O,ρ,k,hx.mono s1,by rw[Xl rfl]at hd;exact hd,λH2 s2=>q H2 (s1.trans s2)⟩
 |false=>rw[Xs W2]at hd;cases hd;exact m_ (q H1 s1)
end
abbrev GT:=List Str×List (Str×Int)
noncomputable def pT(sc:Scope)(x:Str):Bool:=match sc.names.lookup x with|some .local =>true|some .cell =>true|some .free =>true|_=>false
noncomputable def iF(sc:Scope)(x:Str):Bool:=match sc.names.lookup x with|some .globalImplicit =>true|_=>false
noncomputable def w6(x:Str):Bool:=!(x==("__debug__":Str))&&!(x==("__classdict__":Str))
noncomputable def bL:Expr->Bool| .Starred _ _=>false|_=>true
noncomputable def cw:Expr->Bool| .Slice _ _ _ _=>false|_=>true
noncomputable def gu:Expr->Bool| .Set _ _ _=>false|_=>true
noncomputable def zA:Expr->Bool| .Name _ _=>true| .Subscript _ _ _=>true| .Constant _ _ _=>true|_=>false
noncomputable def SF:Const->Bool| .int i=>decide (i=1)|_=>false
noncomputable def SG:D->Const->Bool
 | .cy,.none =>true
 | .bl b,.bool c=>b==c
 | .int i,.int j=>decide (i=j)
 |_,_=>false
noncomputable def Ml(G:GT)(x:Str):D->Bool| .int i=>decide ((x,i)∈G.2)|_=>false
noncomputable def kz(sc yo:Scope):Scope:={sc with names:=sc.names.map λ(n,k)=>if(k == .free&&yo.kind == .function&&yo.names.lookup n==some .cell) then(n,.cell) else(n,k)}
noncomputable def nD(N:List Str)(xs:List Str)(fr:List Nat):List Str:=xs++fr.map λi=>N.getD i ""
noncomputable def w8(N:List Str)(yo sc:Scope)(xs:List Str)(fr:List Nat):Bool:=
 decide (sc.kind= .function)&&sc.names.all (λy=>decide (y.2= .free ->(y.1,NameKind.cell)∉sc.names))&&sc.names.all (λy=>decide (y.2= .local ->sc.names.lookup y.1=some .local)) &&
 sc.names.all (λy=>decide (y.2= .free ->yo.names.lookup y.1=some .cell \/yo.names.lookup y.1=some .free)) &&
 fr.all (λi=>match N[i]? with|some y=>decide (sc.names.lookup y=some .free)|none=>false)&&xs.all (λx=>decide (sc.names.lookup x=some .local \/sc.names.lookup x=some .cell))&&decide (nD N xs fr).Nodup
noncomputable def CW(_:E):Bool:=true
noncomputable def fresh:E->Bool
 | .lst _=>true
 | .comp _ _ _ _ _=>true
 | .bin .Add _ _=>true
 | .prim .list _=>true
 | .iY .list _=>true
 | .sl _ _ _=>true
 |_=>false
noncomputable def dw(N:List Str)(sc:Scope)(i:Nat)(e:Expr):Bool:=match e with| .Name x _=>decide (N[i]?=some x)&&pT sc x&&w6 x|_=>false
noncomputable def fM(e:Expr)(k:Str->Bool):Bool:=match e with| .Name x _=>k x|_=>false
noncomputable def tU(e:Expr)(k:Expr->List Expr->Pos->Bool):Bool:=match e with| .Call f a s p=>s.isEmpty&&k f a p|_=>false
noncomputable def zB(e:Expr)(k:Expr->Str->Pos->Bool):Bool:=match e with| .Attribute o n p=>k o n p|_=>false
noncomputable def rG(e:Expr)(k:Expr->Expr->Bool):Bool:=match e with| .Subscript v s _=>k v s|_=>false
noncomputable def tW(e:Expr)(k:List (Option Expr)->List Expr->Bool):Bool:=match e with| .Dict a b _=>k a b|_=>false
noncomputable def Hy(e:Expr)(k:Expr->List Comprehension->Scope->Bool):Bool:=match e with| .ListComp a b c _=>k a b c|_=>false
noncomputable def E3(e:Expr)(k:Expr->List CmpOp->List Expr->Bool):Bool:=match e with| .Compare l a b _=>k l a b|_=>false
noncomputable def om(st:Stmt)(k:List Expr->Expr->Bool):Bool:=match st with| .Assign t v _=>k t v|_=>false
noncomputable def pU(st:Stmt)(k:Expr->Bool):Bool:=match st with| .Expr e _=>k e|_=>false
noncomputable def nE(l:List α)(k:α->Bool):Bool:=match l with|[]=>false|a::r=>r.isEmpty&&k a
noncomputable def Qt(l:List α)(k:α->α->Bool):Bool:=match l with|[]=>false|a::r=>nE r (k a)
noncomputable def tX(o:Option α)(k:α->Bool):Bool:=match o with|none=>false|some a=>k a
noncomputable def l3(e:Expr)(k:Str->List Expr->Bool):Bool:=tU e λf a _=>fM f λx=>k x a
noncomputable def l4(e:Expr)(k:Expr->Str->List Expr->Bool->Bool):Bool:=tU e λf a cp=>zB f λo n ap=>k o n a (ap.endLine==cp.line)
noncomputable def rH(st:Stmt)(k:Str->Expr->Bool):Bool:=om st λt v=>nE t λe=>fM e λx=>k x v
noncomputable def Hz(e:Expr)(k:Expr->CmpOp->Expr->Bool):Bool:=E3 e λl a b=>nE a λo=>nE b λr=>k l o r
noncomputable def oq(e:Expr)(k:Str->Expr->Bool):Bool:=l3 e λx a=>nE a (k x)
section
variable {e:Expr}{st:Stmt}
def cM(h:fM e k=true):∃x p,e= .Name x p/\k x=true:=by
 cases e with
 |Name x p=>exact⟨x,p,rfl,h⟩
 |_=>cases h
def ot(h:tU e k=true):∃f a p,e= .Call f a [] p/\k f a p=true:=by
 cases e with
 |Call f a s p=>
  have h':(s.isEmpty&&k f a p)=true:=h
  rw[WX]at h'
  cases s with
  |nil=>exact⟨f,a,p,rfl,h'.2⟩
  |cons _ _=>cases h'.1
 |_=>cases h
def w_(h:zB e k=true):∃o n p,e= .Attribute o n p/\k o n p=true:=by
 cases e with
 |Attribute o n p=>exact⟨o,n,p,rfl,h⟩
 |_=>cases h
def jq(h:rG e k=true):∃v s p,e= .Subscript v s p/\k v s=true:=by
 cases e with
 |Subscript v s p=>exact⟨v,s,p,rfl,h⟩
 |_=>cases h
def ou(h:tW e k=true):∃a b p,e= .Dict a b p/\k a b=true:=by
 cases e with
 |Dict a b p=>exact⟨a,b,p,rfl,h⟩
 |_=>cases h
def u_(h:Hy e k=true):∃a b c p,e= .ListComp a b c p/\k a b c=true:=by
 cases e with
 |ListComp a b c p=>exact⟨a,b,c,p,rfl,h⟩
 |_=>cases h
def zC(h:E3 e k=true):∃l a b p,e= .Compare l a b p/\k l a b=true:=by
 cases e with
 |Compare l a b p=>exact⟨l,a,b,p,rfl,h⟩
 |_=>cases h
def gv(h:om st k=true):∃t v p,st= .Assign t v p/\k t v=true:=by
 cases st with
 |Assign t v p=>exact⟨t,v,p,rfl,h⟩
 |_=>cases h
def jY(h:pU st k=true):∃e p,st= .Expr e p/\k e=true:=by
 cases st with
 |Expr e p=>exact⟨e,p,rfl,h⟩
 |_=>cases h
def bW{l:List α}(h:nE l k=true):∃a,l=[a]/\k a=true:=by
 cases l with
 |nil=>cases h
 |cons a r=>
  have h':(r.isEmpty&&k a)=true:=h
  rw[WX]at h'
  cases r with
  |nil=>exact⟨a,rfl,h'.2⟩
  |cons _ _=>cases h'.1
def zD{l:List α}(h:Qt l k=true):∃a b,l=[a,b]/\k a b=true:=by
 cases l with
 |nil=>cases h
 |cons a r=>exact aa (bW (show nE r (k a)=true from h)) λb e q=>⟨a,b,by rw[e],q⟩
def ox{o:Option α}(h:tX o k=true):∃a,o=some a/\k a=true:=by
 cases o with
 |none=>cases h
 |some a=>exact⟨a,rfl,h⟩
def fq(h:l3 e k=true):∃x q a p,e= .Call (.Name x q) a [] p/\k x a=true:=
 kC (ot h) λf a p e1 h=>ef (cM h) λx q e2 h=>⟨x,q,a,p,by rw[e1,e2],h⟩
def fu(h:l4 e k=true):∃o n ap a cp,e= .Call (.Attribute o n ap) a [] cp/\k o n a (ap.endLine==cp.line)=true:=
 kC (ot h) λf a p e1 h=>kC (w_ h) λo n ap e2 h=>⟨o,n,ap,a,p,by rw[e1,e2],h⟩
def fN(h:rH st k=true):∃x px v p,st= .Assign [.Name x px] v p/\k x v=true:=
 kC (gv h) λt v p e1 h=>aa (bW h) λa e2 h=>ef (cM h) λx q e3 h=>⟨x,q,v,p,by rw[e1,e2,e3],h⟩
def va(h:Hz e k=true):∃l o r p,e= .Compare l [o] [r] p/\k l o r=true:=
 mS (zC h) λl a b p e1 h=>aa (bW h) λo e2 h=>aa (bW h) λr e3 h=>⟨l,o,r,p,by rw[e1,e2,e3],h⟩
def gw(h:oq e k=true):∃x q a p,e= .Call (.Name x q) [a] [] p/\k x a=true:=
 mS (fq h) λx q a p e1 h=>aa (bW h) λb e2 h=>⟨x,q,b,p,by rw[e1,e2],h⟩
end
mutual
noncomputable def bM(G:GT):E->List Str->Scope->Expr->Bool
 | .var i,N,sc,e=>match e with| .Name x _=>decide (N[i]?=some x)&&pT sc x&&w6 x|_=>false
 | .c d,_,sc,e=>match e with| .Constant c _ _=>SG d c| .Name x _=>iF sc x&&w6 x&&Ml G x d|_=>false
 | .bin o a b,N,sc,e=>match e with| .BinOp l op r _=>decide (o=op)&&bM G a N sc l&&bM G b N sc r|_=>false
 | .cmp o a b,N,sc,e=>Hz e λl op r=>decide (o=op)&&bM G a N sc l&&bM G b N sc r&&gu r
 | .ql k es,N,sc,e=>match e with| .BoolOp op vs _=>decide (op=bo k)&&!vs.isEmpty&&l5 G es N sc vs|_=>false
 | .not a,N,sc,e=>match e with| .UnaryOp op x _=>decide (op= .Not)&&bM G a N sc x&&CW a|_=>false
 | .neg a,N,sc,e=>match e with| .UnaryOp op x _=>decide (op= .USub)&&bM G a N sc x|_=>false
 | .B3 a,N,sc,e=>l3 e λx as=>Qt as λa0 t=>fM t λy=>decide (x="isinstance")&&decide (y="bool")&&iF sc x&&iF sc y&&bM G a N sc a0&&bL a0
 | .tup es,N,sc,e=>match e with| .Tuple xs _ _=>dW G es N sc xs|_=>false
 | .lst es,N,sc,e=>match e with| .List xs _=>dW G es N sc xs|_=>false
 | .idx a i,N,sc,e=>match e with| .Subscript v s _=>bM G a N sc v&&bM G i N sc s&&cw s|_=>false
 | .sl a lo hi,N,sc,e=>match e with
  | .Subscript v s _=>match s with
   | .Slice l h st _=>st.isNone&&bM G a N sc v&&E4 G lo N sc l&&E4 G hi N sc h
   |_=>false
  |_=>false
 | .call f es,N,sc,e=>l3 e λx as=>decide (G.1[f]?=some x)&&iF sc x&&w6 x&&!as.isEmpty&&dW G es N sc as
 | .prim q es,N,sc,e=>l3 e λx as=>decide (x=ie q)&&iF sc x&&!as.isEmpty&&dW G es N sc as
 | .iY q es,N,sc,e=>oq e λx ar=>oq ar λy a0=>(decide (q= .list)||decide (q= .tuple))&&decide (x=ie q)&&decide (y="range")&&iF sc x&&iF sc y&&dW G es N sc [a0]
 | .dg mm o es,N,sc,e=>l4 e λoe nm as b=>nE as λa0=>decide (nm="index")&&zA oe&&b&&bM G o N sc oe&&dW G es N sc [a0]
 | .comp fr tg it ifs dO,N,sc,e=>Hy e λel gs gx=>nE gs λg=>fM g.target λx=>decide (tg=0)&&decide (g.is_async=0)&&gu g.iter&&w8 N sc gx [x] fr&&CY G it N sc g.iter&&l5 G ifs (nD N [x] fr) (kz gx sc) g.ifs&&bM G dO (nD N [x] fr) (kz gx sc) el
 | .dC i k,N,sc,e=>match e with| .Subscript v s _=>dw N sc i v&&bM G k N sc s&&cw s|_=>false
 | .uC neg k i,N,sc,e=>Hz e λl op r=>decide (op=if neg then .NotIn else .In)&&bM G k N sc l&&dw N sc i r
 | .eE i,N,sc,e=>oq e λx a0=>decide (x="sorted")&&iF sc x&&dw N sc i a0
 |_,_,_,_=>false
noncomputable def dW(G:GT):E->List Str->Scope->List Expr->Bool
 | .nil,_,_,es=>es.isEmpty
 | .cons a r,N,sc,es=>match es with|e::es=>bM G a N sc e&&bL e&&dW G r N sc es|[]=>false
 |_,_,_,_=>false
noncomputable def l5(G:GT):E->List Str->Scope->List Expr->Bool
 | .nil,_,_,es=>es.isEmpty
 | .cons a r,N,sc,es=>match es with|e::es=>bM G a N sc e&&CW a&&l5 G r N sc es|[]=>false
 |_,_,_,_=>false
noncomputable def E4(G:GT):E->List Str->Scope->Option Expr->Bool
 | .nil,_,_,o=>o.isNone
 | .cons a _,N,sc,o=>match o with|some e=>bM G a N sc e|none=>false
 |_,_,_,_=>false
noncomputable def CY(G:GT):E->List Str->Scope->Expr->Bool
 | .eK es,N,sc,e=>l3 e λx as=>decide (x="range")&&iF sc x&&decide (as.length=1)&&dW G es N sc as
 | .it a,N,sc,e=>bM G a N sc e
 | .dk i,N,sc,e=>dw N sc i e
 | .dv i,N,sc,e=>l4 e λoe nm as b=>as.isEmpty&&decide (nm="values")&&dw N sc i oe&&b
 | .EI a,N,sc,e=>oq e λx a0=>decide (x="reversed")&&iF sc x&&bM G a N sc a0&&bL a0
 |_,_,_,_=>false
end
def bV(h:bL e=true):starEach (e::es) env=(false,eval e env)::starEach es env:=by
 cases e<;>first|rfl|exact absurd h W2
theorem gy:∀{es:List Expr},es.all bL=true->(backTo pos (starEach es env)).any (·.1)=false
 |[],_=>rfl
 |e::es,h=>by
  rw[Y7,WX]at h
  rw[bV h.1]
  show(false||(backTo pos (starEach es env)).any (·.1))=false
  rw[gy h.2]
  rfl
def jr:∀{e':E}{N:List Str}{sc:Scope}{es:List Expr},dW G e' N sc es=true->es.all bL=true:=λ{e'}=>by
 induction e' with
 |nil=>
  intro N sc es h
  rw[dW]at h
  cases es with
  |nil=>rfl
  |cons _ _=>cases h
 |cons a r _ ih=>
  intro N sc es h
  cases es with
  |nil=>rfl
  |cons e es=>
   rw[dW]at h
   simp only[WX]at h
   rw[Y7,WX]
   exact⟨h.1.2,ih h.2⟩
 |_=>intro N sc es h;exact absurd (show false=true from h) W2
def zE:∀{e':E},kG ρ e'=false->cD F true e' ρ=cD F false e' ρ:=λ{e'}=>by
 induction e' with
 |nil=>intro _;rfl
 |cons a r _ ih=>
  intro h
  have hr:kG ρ r=false:=by
   cases a<;>first|exact h|(simp only[kG,aaI]at h;exact h.2)
  have ha:ev F true a ρ=ev F false a ρ:=by
   cases a with
   |var i=>
    simp only[kG,aaI]at h
    show rd true ρ i=rd false ρ i
    unfold rd
    have h1:=h.1
    unfold kQ at h1
    cases e:ρ[i]? with
    |none=>rfl
    |some o=>
     cases o with
     |none=>rfl
     |some t=>
      obtain⟨o,d⟩:=t
      rw[e]at h1
      have Qu:o=false:=h1
      subst Qu
      rfl
   |_=>rfl
  show(ev F true a ρ).bind _=(ev F false a ρ).bind _
  rw[ha,ih hr]
 |_=>intro _;rfl
noncomputable def iG:List Str:=["len","tuple","list","min","sorted","int","isinstance","bool","range","enumerate","reversed","all"]
structure Ct(X:Cx)(G:GT)(F:FT):Prop where
 calm:X.calm=true
 units:X.A.units+64<cLine
 mg:∀x∈iG,X.mg x=none
 cst:∀(x:Str) (i:Int),(x,i)∈G.2->∃t,X.mg x=some (.int i t)
 call:∀(f:Nat) (x:Str),G.1[f]?=some x->∃(k:Nat) (fa:Addr) (fd:FuncData) (ps:List Str),iQ X.prog X.w X.K X.mg X.base wu k fa fd ps (u5 X.K ps.length (F f))/\eL k X.A/\X.mg x=some (.ref fa)/\PySem.W.keepIn X.K (.ref fa)=true/\Binds X.K fd ps []/\∀ds d,F f ds=some d->ds.length=ps.length
def Ct.inner{X:Cx}{G:GT}{F:FT}(h:Ct X G F)(sc:Scope)(cl:List (Str×Addr))(C:Addr)(N:List Str)(U:List (Addr×Obj))(s:Shared)(H:Hp)(ex:List Addr):Ct (gU X sc cl C N U s H ex) G F:=⟨h.calm,h.units,h.mg,h.cst,h.call⟩
noncomputable def ig:D->Option (List D)
 | .lst ds=>some ds
 |_=>none
structure cB(G:GT)(F:FT)(e':E):Prop where
 e:∀X,Ct X G F->∀x,bM G e' X.N X.env.scope x=true->∀m,PE X x (tV X.K m (ev F m e'))
 t:∀X,Ct X G F->∀x,bM G e' X.N X.env.scope x=true->CW e'=true->PT X x (tB X.K λρ=>(ev F false e' ρ).bind eN)
 f:∀X,Ct X G F->∀x,bM G e' X.N X.env.scope x=true->fresh e'=true->PE X x (tF X.K λρ=>(ev F false e' ρ).bind ig)
 es:∀X,Ct X G F->∀xs,dW G e' X.N X.env.scope xs=true->∀m,PA X xs (sD X.K m (cD F m e'))
 ts:∀X,Ct X G F->∀xs,l5 G e' X.N X.env.scope xs=true->wy X xs (tB X.K (fF F true e'))/\
  (xs≠[]->∀k pos,(∀m,PE X (.BoolOp (bo k) xs pos) (tV X.K m λρ=>(fF F k e' ρ).map .bl))/\PW X (.BoolOp (bo k) xs pos) (tB X.K (fF F k e')))
 o:∀X,Ct X G F->∀x,E4 G e' X.N X.env.scope x=true->PO X x (tO X.K (EJ F e'))
 i:∀X,Ct X G F->∀tg x,CY G e' X.N X.env.scope x=true->∀m,PI X tg x (tI X.K m (kH F m e'))
def jZ{sc:Scope}{x:Str}(h:pT sc x=true):v8 sc x:=by
 unfold pT at h
 split at h
 .rename_i e;exact .inl e
 .rename_i e;exact .inr (.inl e)
 .rename_i e;exact .inr (.inr e)
 .cases h
def eI{X:Cx}{x:Str}(h:iF X.env.scope x=true):Gl X x:=by
 unfold iF at h
 split at h
 .rename_i e;exact e
 .cases h
def pV{X:Cx}{sc:Scope}{cl:List (Str×Addr)}{C:Addr}{N:List Str}{U:List (Addr×Obj)}{s:Shared}{H:Hp}{ex:List Addr}(h:L2.Loc sc x):L2.Loc (gU X sc cl C N U s H ex).env.scope x/\((gU X sc cl C N U s H ex).fn x=true\/(gU X sc cl C N U s H ex).env.scope.names.lookup x=some .local):=by
 show L2.Loc (relabel sc X.env) x/\(_\/(relabel sc X.env).names.lookup x=some .local)
 unfold L2.Loc
 rw[show(relabel sc X.env).names.lookup x=_ from Nx]
 rcases h with h|h<;>rw[h]
 .exact⟨.inl rfl,.inr rfl⟩
 .exact⟨.inr rfl,.inl (decide_eq_true (XJ h))⟩
def cI{x:Str}(h:w6 x=true):(x==("__debug__":Str))=false/\(x==("__classdict__":Str))=false:=by
 unfold w6 at h
 simpa using h
def dM{e:Expr}{env:PySem.Env}(h:gu e=true):∀x,foldedSetIterable e env x=pure x:=by
 intro x
 cases e<;>first|rfl|exact absurd h W2
def oy{e:Expr}{op:CmpOp}(h:gu e=true):behindInMarks op e=false:=by
 cases e<;>first|rfl|exact absurd h W2
def l6{e:Expr}(h:cw e=true):o_ e:=by
 intro o i
 cases e<;>first|rfl|exact absurd h W2
def pW{N:List Str}{yo sc:Scope}{xs:List Str}{fr:List Nat}(h:w8 N yo sc xs fr=true):Gw N yo sc (nD N xs fr) xs.length fr/\(∀x∈xs,L2.Loc sc x)/\(nD N xs fr).Nodup :=by
 unfold w8 at h
 simp only[WX,decide_eq_true_eq,Ya]at h
 refine aq λnO=>?_
 obtain⟨⟨⟨⟨⟨⟨h1,h2⟩,h3⟩,h4⟩,h5⟩,h6⟩,h7⟩:=h
 refine nO ?_
 refine⟨⟨h1,h2,h3,h4,?_,λj y e=>?_⟩,h6,h7⟩
 .unfold nD;rw[W_,WZ]
 .have e':(fr.map λi=>N.getD i "")[j]?=some y:=by
   unfold nD at e
   rwa [XN (Nat.le_add_right _ _),Nat.add_sub_cancel_left]at e
  rw[Xb]at e'
  refine aa (map_some e') λi f1 f2=>?_
  have NR:=h5 i (XU f1)
  cases q:N[i]? with
  |none=>rw[q]at NR;cases NR
  |some z=>
   rw[q]at NR
   have ez:N.getD i ""=z:=by rw[Xa,q];rfl
   rw[ez]at f2
   subst f2
   exact⟨i,f1,q,by simpa using NR⟩
def rJ{X:Cx}{d:D}{c:Const}{j:Nat}{pos:Pos}(h:SG d c=true)(m:Bool):PE X (.Constant c j pos) (tV X.K m λ_=>some d):=by
 cases d with
 |cy=>
  cases c with
  |none=>exact NO (t:=tC .cy) FI λ_ _ _=> .cy
  |_=>exact absurd h W2
 |bl b=>
  cases c with
  |bool b'=>
   have e:b=b':=eq_of_beq h
   subst e
   exact NO (t:=tC .cy) J0 λ_ _ _=> .bl _
  |_=>exact absurd h W2
 |int i=>
  cases c with
  |int i'=>
   have e:i=i':=of_decide_eq_true h
   subst e
   exact NO (t:=tC .cy) FH λ_ _ _=> .int _
  |_=>exact absurd h W2
 |tup _=>exact absurd h (by cases c<;>exact W2)
 |lst _=>exact absurd h (by cases c<;>exact W2)
 |bP _ _ _=>exact absurd h (by cases c<;>exact W2)
def zF{K:PySem.W.Frag}{m:Bool}{f g:Env->Option D}(h:∀ρ,f ρ=g ρ):tV K m f=tV K m g:=by rw[show f=g from funext h]
def zG{K:PySem.W.Frag}{f g:Env->Option (List D)}(h:∀ρ,f ρ=g ρ):tF K f=tF K g:=by rw[show f=g from funext h]
def l7{X:Cx}{e:Expr}{f:Env->Option D}(m:Bool)(h:PE X e (tF X.K λρ=>(f ρ).bind ig))(hf:∀ρ d,f ρ=some d->∃ds,d= .lst ds):PE X e (tV X.K m f):=
 CO h λρ d hd=>by
  obtain⟨ds,rfl⟩:=hf ρ d hd
  exact⟨ds,by rw[hd];rfl,rfl⟩
def CZ{F:FT}{es:E}{N:List Str}{sc:Scope}{G:GT}{a0:Expr}(h:dW G es N sc [a0]=true):∃a,es= .cons a .nil /\bM G a N sc a0=true/\bL a0=true:=by
 cases es with
 |cons a r=>
  rw[dW]at h
  simp only[WX]at h
  cases r with
  |nil=>exact⟨a,rfl,h.1.1,h.1.2⟩
  |cons b r=>exact absurd h.2 W2
  |_=>exact absurd h.2 W2
 |nil=>exact absurd h W2
 |_=>exact absurd h W2
def zH{F:FT}{es:E}{N:List Str}{sc:Scope}{G:GT}{a0 b0:Expr}(h:dW G es N sc [a0,b0]=true):∃a b,es= .cons a (.cons b .nil)/\bM G a N sc a0=true/\bL a0=true/\bM G b N sc b0=true/\bL b0=true:=by
 cases es with
 |cons a r=>
  rw[dW]at h
  simp only[WX]at h
  refine bJ (CZ (F:=F) h.2) λb ag h1 h2=>?_
  subst ag
  exact⟨a,b,rfl,h.1.1,h.1.2,h1,h2⟩
 |nil=>exact absurd h W2
 |_=>exact absurd h W2
def pX:∀{es:E}{N:List Str}{sc:Scope}{xs:List Expr}{ds:List D},dW G es N sc xs=true->cD F m es ρ=some ds->ds.length=xs.length:=λ{es}=>by
 induction es with
 |nil=>
  intro N sc xs ds h hd
  cases xs with
  |nil=>cases hd;rfl
  |cons _ _=>exact absurd h W2
 |cons a r _ ih=>
  intro N sc xs ds h hd
  cases xs with
  |nil=>exact absurd h W2
  |cons x xs=>
   rw[dW]at h
   simp only[WX]at h
   refine aa (bind_some (show(ev F m a ρ).bind _=_ from hd)) λd _ hd=>aa (bind_some hd) λLR h2 hd=>?_
   cases hd
   rw[Xm,Xm,ih h.2 h2]
 |_=>intro N sc xs ds h hd;exact absurd (show false=true from h) W2
section
variable {X:Cx}{a b c e:Expr}{es:List Expr}{pos p:Pos}{m:Bool}
def zI(hc:X.calm=true)(hg:Gl X "range")(hm:X.mg "range"=none)(Mb:Gl X "list")(Gy:X.mg "list"=none)(ha:PA X [a] (sD X.K false g))(hl:∀ρ ds,g ρ=some ds->ds.length=1)(hs:starEach [a] X.env=[(false,eval a X.env)]):
  PE X (.Call (.Name "list" q1) [.Call (.Name "range" p) [a] [] pos] [] qx) (tF X.K λρ=>(g ρ).bind dE):=by
 have h1:=u7 (p:=p) (pos:=pos) hg hm ha hs
 refine PE.weak (eV (tS hc) Mb Gy boot_list (cu h1 dN rfl) (by decide) (by decide) rfl rfl) λσ H Q zz=>cS zz λO ρ ds hx hd q=>aa (bind_some hd) λxs e1 hd=>?_
 have v_:=hl ρ xs e1
 refine⟨O,ρ,xs,hx,e1,λvs H1 s1 r=>?_⟩
 cases xs with
 |nil=>cases v_
 |cons x t=>
  cases t with
  |cons _ _=>cases v_
  |nil=>
   refine aa (cG r) λv ag rv=>?_
   subst ag
   cases x with
   |int n=>
    change (if -(2 ^ 62)<=n/\n<=bE then some (bH 0 (n).toNat) else none)=some _ at hd
    split at hd
    .rename_i hz
     cases hd
     cases rv.int
     exact⟨n,rfl,λp hp=>⟨p,n,rfl,ah,hz,λl hl=>q l _ _ (s1.trans (af.upd hp)) hl (jV _ _)⟩⟩
    .cases hd
   |_=>cases hd
def Mm(hg:Gl X "range")(hm:X.mg "range"=none)(ha:PA X es (sD X.K false g))(hl:∀ρ ds,g ρ=some ds->ds.length=es.length)(NS:es.length=1)(hs:es.all bL=true):
  PI X tg (.Call (.Name "range" p) es [] pos) (tI X.K m λρ=>(g ρ).bind dE):=by
 intro U s σ H R I ⟨O,ρ,ds,hx,hd,q⟩
 refine aa (bind_some hd) λxs e1 hd=>?_
 have v_:=hl ρ xs e1
 have et:bE=16777216:=rfl
 cases es with
 |nil=>simp at NS
 |cons a t=>
  rw[Y7,WX]at hs
  cases t with
  |nil=>
   refine wd hg hm ha (bV hs.1) U s σ H R I ⟨O,ρ,xs,hx,e1,λvs H1 s1 r=>?_⟩
   cases xs with
   |nil=>cases v_
   |cons x t=>
    cases t with
    |cons _ _=>cases v_
    |nil=>
     refine aa (cG r) λv ag rv=>?_
     subst ag
     cases x with
     |int n=>
      change (if -(2 ^ 62)<=n/\n<=bE then some (bH 0 (n).toNat) else none)=some _ at hd
      split at hd
      .rename_i hz
       cases hd
       cases rv.int
       exact⟨n,rfl,by lia,by lia,q _ none H1 s1 Hv trivial⟩
      .cases hd
     |_=>cases hd
  |cons b t=>simp at NS
end
section
variable {G:GT}{F:FT}
def cB.gc(e:∀X,Ct X G F->∀x,bM G e' X.N X.env.scope x=true->∀m,PE X x (tV X.K m (ev F m e')))
  (t:∀X,Ct X G F->∀x,bM G e' X.N X.env.scope x=true->CW e'=true->PT X x (tB X.K λρ=>(ev F false e' ρ).bind eN))
  (f:∀X,Ct X G F->∀x,bM G e' X.N X.env.scope x=true->fresh e'=true->PE X x (tF X.K λρ=>(ev F false e' ρ).bind ig))
  (n1:∀N sc xs,dW G e' N sc xs=false:=by intro _ _ _;rfl) (n2:∀N sc xs,l5 G e' N sc xs=false:=by intro _ _ _;rfl) (n3:∀N sc xs,E4 G e' N sc xs=false:=by intro _ _ _;rfl) (n4:∀N sc xs,CY G e' N sc xs=false:=by intro _ _ _;rfl):cB G F e':=
 ⟨e,t,f,λX _ xs h=>absurd h (by rw[n1];exact W2),λX _ xs h=>absurd h (by rw[n2];exact W2),λX _ xs h=>absurd h (by rw[n3];exact W2),λX _ tg xs h=>absurd h (by rw[n4];exact W2)⟩
def ff{P:Prop}(h:false=true):P:=absurd h W2
def C0:cB G F .nil where
 e:=λX hC x h=>ff h
 t:=λX hC x h=>ff h
 f:=λX hC x h=>ff h
 es:=λX hC xs h m=>by
  cases xs with
  |nil=>exact L6
  |cons _ _=>exact ff h
 ts:=λX hC xs h=>by
  cases xs with
  |nil=>exact⟨zy,λz=>absurd rfl z⟩
  |cons _ _=>exact ff h
 o:=λX hC x h=>by
  cases x with
  |none=>exact Hj
  |some _=>exact ff h
 i:=λX hC tg x h=>ff h
def zJ{a r:E}(ha:cB G F a)(hr:cB G F r):cB G F (.cons a r) where
 e:=λX hC x h=>ff h
 t:=λX hC x h=>ff h
 f:=λX hC x h=>ff h
 es:=λX hC xs h m=>by
  cases xs with
  |nil=>exact ff h
  |cons x xs=>
   rw[dW]at h
   simp only[WX]at h
   exact Hh (ha.e X hC x h.1.1 m) (hr.es X hC xs h.2 m) (bV h.1.2)
 ts:=λX hC xs h=>by
  cases xs with
  |nil=>exact ff h
  |cons x xs=>
   rw[l5]at h
   simp only[WX]at h
   have t1:=ha.t X hC x h.1.1 h.1.2
   have e1:=ha.e X hC x h.1.1 false
   have t2:=hr.ts X hC xs h.2
   refine⟨CV t1 t2.1,λ_ k pos=>?_⟩
   cases xs with
   |nil=>
    have er:∀ρ,fF F k r ρ=some k:=by
     cases r with
     |nil=>intro ρ;rfl
     |cons _ _=>exact ff h.2
     |_=>exact ff h.2
    have eq:∀ρ,fF F k (.cons a r) ρ=((ev F false a ρ).bind eN).bind λx=>if x=k then some k else some x:=λρ=>by
     show((ev F false a ρ).bind eN).bind _=_
     congr 1
     funext x
     rw[er ρ]
    refine⟨λm=>?_,?_⟩
    .rw[zF λρ=>congrArg (Option.map D.bl) (eq ρ)]
     exact Hf e1
    .rw[show(fF F k (.cons a r))=λρ=>((ev F false a ρ).bind eN).bind λx=>if x=k then some k else some x from funext eq]
     exact Hg t1
   |cons y ys=>
    have t3:=t2.2 (by simp) k pos
    exact⟨λm=>L4 e1 (t3.1 false),L5 t1 t3.2⟩
 o:=λX hC x h=>by
  cases x with
  |none=>exact ff h
  |some x=>exact Hk (ha.e X hC x h false)
 i:=λX hC tg x h=>ff h
def C1{i:Nat}:cB G F (.var i):=by
 have e:∀X,Ct X G F->∀x,bM G (.var i) X.N X.env.scope x=true->∃n p,x= .Name n p/\∀m,PE X x (tV X.K m (ev F m (.var i))):=λX hC x h=>by
  cases x with
  |Name n p=>
   change (decide (X.N[i]?=some n)&&pT X.env.scope n&&w6 n)=true at h
   simp only[WX,decide_eq_true_eq]at h
   exact⟨n,p,rfl,λm=>v_var h.1.1 (jZ h.1.2) (cI h.2).1 (cI h.2).2⟩
  |_=>exact ff h
 refine .gc (λX hC x h m=>?_) (λX hC x h _=>?_) (λX hC x h z=>ff z)
 .refine ef (e X hC x h) λn p ag k=>?_
  subst ag
  exact k m
 .refine ef (e X hC x h) λn p aP k=>?_
  subst aP
  exact dm (k false) λ_=>rfl
def vb{X:Cx}{d:D}{x:Str}{p:Pos}(hC:Ct X G F)(h:(iF X.env.scope x&&w6 x&&Ml G x d)=true)(m:Bool):PE X (.Name x p) (tV X.K m λ_=>some d):=by
 simp only[WX]at h
 obtain⟨⟨h1,h2⟩,h3⟩:=h
 cases d with
 |int i=>
  obtain⟨t,e⟩:=hC.cst x i (of_decide_eq_true h3)
  exact NO (t:=tC .cy) (BA (v:= .int i) (eI h1) e ⟨t,rfl⟩ (cI h2).1) λ_ _ _=> .int _
 |_=>exact ff h3
def Mn{d:D}:cB G F (.c d):=by
 refine .gc (λX hC x h m=>?_) (λX hC x h _=>?_) (λX hC x h z=>ff z)
 .cases x with
  |Constant c j p=>exact rJ h m
  |Name n p=>exact vb hC h m
  |_=>exact ff h
 .cases x with
  |Constant c j p=>exact dm (rJ h false) λ_=>rfl
  |Name n p=>exact dm (vb hC h false) λ_=>rfl
  |_=>exact ff h
def C2(ha:cB G F a)(hb:cB G F b):cB G F (.bin o a b):=by
 have aR:∀X,Ct X G F->∀x,bM G (.bin o a b) X.N X.env.scope x=true->∃l r p,x= .BinOp l o r p/\PE X l (tV X.K true (ev F true a))/\PE X r (tV X.K true (ev F true b)):=λX hC x h=>by
  cases x with
  |BinOp l op r p=>
   change (decide (o=op)&&bM G a X.N X.env.scope l&&bM G b X.N X.env.scope r)=true at h
   simp only[WX,decide_eq_true_eq]at h
   obtain⟨⟨rfl,h1⟩,h2⟩:=h
   exact⟨l,r,p,rfl,ha.e X hC l h1 true,hb.e X hC r h2 true⟩
  |_=>exact ff h
 refine .gc (λX hC x h m=>?_) (λX hC x h _=>?_) (λX hC x h z=>?_)
 .refine cS (aR X hC x h) λl r p ag h1 h2=>?_
  subst ag
  exact EZ h1 h2
 .refine cS (aR X hC x h) λl r p aP h1 h2=>?_
  subst aP
  exact dm (EZ h1 h2) λ_=>rfl
 .refine cS (aR X hC x h) λl r p cZ h1 h2=>?_
  subst cZ
  cases o with
  |Add=>exact(LU h1 h2).weak λσ H Q q=>q
  |_=>exact ff z
def C3(ha:cB G F a)(hb:cB G F b):cB G F (.cmp o a b):=by
 have aR:∀X,Ct X G F->∀x,bM G (.cmp o a b) X.N X.env.scope x=true->∃l r p,x= .Compare l [o] [r] p/\PE X l (tV X.K true (ev F true a))/\PE X r (tV X.K true (ev F true b))/\behindInMarks o r=false:=λX hC x h=>by
  refine mS (va (e:=x) h) λl op r p zr cT=>?_
  subst zr
  simp only[WX,decide_eq_true_eq]at cT
  obtain⟨⟨⟨rfl,h1⟩,h2⟩,h3⟩:=cT
  exact⟨l,r,p,rfl,ha.e X hC l h1 true,hb.e X hC r h2 true,oy h3⟩
 refine .gc (λX hC x h m=>?_) (λX hC x h _=>?_) (λX hC x h z=>ff z)
 .refine Ng (aR X hC x h) λl r p ag h1 h2 h3=>?_
  subst ag
  exact LW hC.units h1 h2 h3
 .refine Ng (aR X hC x h) λl r p aP h1 h2 h3=>?_
  subst aP
  exact LX hC.units h1 h2 h3
def C4(ha:cB G F a):cB G F (.neg a):=by
 have aR:∀X,Ct X G F->∀x,bM G (.neg a) X.N X.env.scope x=true->∃l p,x= .UnaryOp .USub l p/\PE X l (tV X.K false (ev F false a)):=λX hC x h=>by
  cases x with
  |UnaryOp op l p=>
   change (decide (op= .USub)&&bM G a X.N X.env.scope l)=true at h
   simp only[WX,decide_eq_true_eq]at h
   obtain⟨rfl,h1⟩:=h
   exact⟨l,p,rfl,ha.e X hC l h1 false⟩
  |_=>exact ff h
 refine .gc (λX hC x h m=>?_) (λX hC x h _=>?_) (λX hC x h z=>ff z)
 .obtain⟨l,p,rfl,h1⟩:=aR X hC x h
  exact E1 h1
 .obtain⟨l,p,rfl,h1⟩:=aR X hC x h
  exact dm (E1 h1) λ_=>rfl
def C5(ha:cB G F a):cB G F (.not a):=by
 have aR:∀X,Ct X G F->∀x,bM G (.not a) X.N X.env.scope x=true->∃l p,x= .UnaryOp .Not l p/\PE X l (tV X.K false (ev F false a))/\PT X l (tB X.K λρ=>(ev F false a ρ).bind eN):=λX hC x h=>by
  cases x with
  |UnaryOp op l p=>
   change (decide (op= .Not)&&bM G a X.N X.env.scope l&&CW a)=true at h
   simp only[WX,decide_eq_true_eq]at h
   obtain⟨⟨rfl,h1⟩,h2⟩:=h
   exact⟨l,p,rfl,ha.e X hC l h1 false,ha.t X hC l h1 h2⟩
  |_=>exact ff h
 refine .gc (λX hC x h m=>?_) (λX hC x h _=>?_) (λX hC x h z=>ff z)
 .refine bu (aR X hC x h) λl p ag h1 h2=>?_
  subst ag
  exact v_not h1
 .refine bu (aR X hC x h) λl p aP h1 h2=>?_
  subst aP
  exact LY h2
def C6(he:cB G F es):cB G F (.ql k es):=by
 have aR:∀X,Ct X G F->∀x,bM G (.ql k es) X.N X.env.scope x=true->∃vs p,x= .BoolOp (bo k) vs p/\(∀m,PE X (.BoolOp (bo k) vs p) (tV X.K m λρ=>(fF F k es ρ).map .bl))/\PW X (.BoolOp (bo k) vs p) (tB X.K (fF F k es)):=λX hC x h=>by
  cases x with
  |BoolOp op vs p=>
   change (decide (op=bo k)&&!vs.isEmpty&&l5 G es X.N X.env.scope vs)=true at h
   simp only[WX,decide_eq_true_eq]at h
   obtain⟨⟨rfl,h1⟩,h2⟩:=h
   have hv:vs≠[]:=by rintro rfl;exact ff (by simpa using h1)
   exact⟨vs,p,rfl,(he.ts X hC vs h2).2 hv k p⟩
  |_=>exact ff h
 refine .gc (λX hC x h m=>?_) (λX hC x h _=>?_) (λX hC x h z=>ff z)
 .refine bu (aR X hC x h) λvs p ag h1 h2=>?_
  subst ag
  exact h1 m
 .refine bu (aR X hC x h) λvs p aP h1 h2=>?_
  subst aP
  refine h2.pt.weak λσ H Q ⟨O,ρ,q,hx,hd,kk⟩=>⟨O,ρ,q,hx,?_,kk⟩
  refine aa (bind_some hd) λd hd hq=>aa (map_some (show(fF F k es ρ).map D.bl=some d from hd)) λb hb cZ=>?_
  subst cZ
  cases hq
  exact hb
def C7(he:cB G F es):cB G F (.tup es):=by
 refine .gc (λX hC x h m=>?_) (λX hC x h _=>?_) (λX hC x h z=>ff z)
 .cases x with
  |Tuple xs k p=>exact E2 (he.es X hC xs h false)
  |_=>exact ff h
 .cases x with
  |Tuple xs k p=>exact dm (E2 (he.es X hC xs h false)) λ_=>rfl
  |_=>exact ff h
def C8(he:cB G F es):cB G F (.lst es):=by
 have aR:∀X,Ct X G F->∀x,bM G (.lst es) X.N X.env.scope x=true->∃xs p,x= .List xs p/\PE X x (tF X.K λρ=>(ev F false (.lst es) ρ).bind ig):=λX hC x h=>by
  cases x with
  |List xs p=>
   refine⟨xs,p,rfl,(L7 (he.es X hC xs h false)).weak λσ H Q ⟨O,ρ,ds,hx,hd,q⟩=>⟨O,ρ,ds,hx,?_,q⟩⟩
   refine aa (bind_some hd) λd hd hl=>aa (bind_some (show(cD F false es ρ).bind _=_ from hd)) λys h1 hd=>?_
   show(cD F false es ρ).bind _=_
   rw[h1]
   split at hd
   .rename_i hz
    cases hd
    cases hl
    exact Xl hz
   .cases hd
  |_=>exact ff h
 have HA:∀ρ d,ev F false (.lst es) ρ=some d->∃ds,d= .lst ds:=λρ d hd=>by
  refine aa (bind_some (show(cD F false es ρ).bind _=_ from hd)) λys h1 hd=>?_
  split at hd
  .cases hd;exact⟨_,rfl⟩
  .cases hd
 refine .gc (λX hC x h m=>?_) (λX hC x h _=>?_) (λX hC x h z=>?_)
 .refine ef (aR X hC x h) λxs p ag k=>?_
  subst ag
  exact l7 m k HA
 .refine ef (aR X hC x h) λxs p aP k=>?_
  subst aP
  exact dm (l7 false k HA) λ_=>rfl
 .refine ef (aR X hC x h) λxs p cZ k=>?_
  subst cZ
  exact k
def C9(ha:cB G F a)(hi:cB G F i):cB G F (.idx a i):=by
 have aR:∀X,Ct X G F->∀x,bM G (.idx a i) X.N X.env.scope x=true->∃v s p,x= .Subscript v s p/\∀m,PE X x (tV X.K m (ev F m (.idx a i))):=λX hC x h=>by
  cases x with
  |Subscript v s p=>
   change (bM G a X.N X.env.scope v&&bM G i X.N X.env.scope s&&cw s)=true at h
   simp only[WX]at h
   exact⟨v,s,p,rfl,λm=>L8 (ha.e X hC v h.1.1 true) (hi.e X hC s h.1.2 false) (l6 h.2)⟩
  |_=>exact ff h
 refine .gc (λX hC x h m=>?_) (λX hC x h _=>?_) (λX hC x h z=>ff z)
 .refine kC (aR X hC x h) λv s p ag k=>?_
  subst ag
  exact k m
 .refine kC (aR X hC x h) λv s p aP k=>?_
  subst aP
  exact dm (k false) λ_=>rfl
def HB{a lo hi:E}(ha:cB G F a)(hl:cB G F lo)(hh:cB G F hi):cB G F (.sl a lo hi):=by
 have aR:∀X,Ct X G F->∀x,bM G (.sl a lo hi) X.N X.env.scope x=true->∃v l u p2 p,x= .Subscript v (.Slice l u none p2) p/\PE X v (tV X.K true (ev F true a))/\PO X l (tO X.K (EJ F lo))/\PO X u (tO X.K (EJ F hi)):=λX hC x h=>by
  cases x with
  |Subscript v s p=>
   cases s with
   |Slice l u st p2=>
    cases st with
    |some _=>exact ff h
    |none=>
     change (true&&bM G a X.N X.env.scope v&&E4 G lo X.N X.env.scope l&&E4 G hi X.N X.env.scope u)=true at h
     simp only[WX]at h
     exact⟨v,l,u,p2,p,rfl,ha.e X hC v h.1.1.2 true,hl.o X hC l h.1.2,hh.o X hC u h.2⟩
   |_=>exact ff h
  |_=>exact ff h
 refine .gc (λX hC x h m=>?_) (λX hC x h _=>?_) (λX hC x h z=>?_)
 .refine Od (aR X hC x h) λv l u p2 p ag k1 k2 k3=>?_
  subst ag
  exact L9 k1 k2 k3
 .refine Od (aR X hC x h) λv l u p2 p aP k1 k2 k3=>?_
  subst aP
  exact dm (L9 k1 k2 k3) λ_=>rfl
 .refine Od (aR X hC x h) λv l u p2 p cZ k1 k2 k3=>?_
  subst cZ
  exact(Qc k1 k2 k3).weak λσ H Q q=>q
def zK(he:cB G F es):cB G F (.call f es):=by
 have aR:∀X,Ct X G F->∀x,bM G (.call f es) X.N X.env.scope x=true->(∃fn args sP p,x= .Call fn args sP p)/\∀m,PE X x (tV X.K m (ev F m (.call f es))):=λX hC x h=>by
  refine mS (fq (e:=x) h) λn q as p zr cT=>?_
  subst zr
  refine⟨⟨_,_,_,_,rfl⟩,?_⟩
  simp only[WX,decide_eq_true_eq]at cT
  refine aq λnO=>?_
  obtain⟨⟨⟨⟨h1,h2⟩,h3⟩,h0⟩,h4⟩:=cT
  cases as with
  |nil=>cases h0
  |cons a0 ar=>
   refine Bv (hC.call f n h1) λk fa fd ps h5 h6 h7 h8 h9 Mo=>nO ?_
   have ns:=jr h4
   rw[Y7,WX]at ns
   exact λm=>Hl (g:=λb=>cD F b es) (ln:=λρ=>kG ρ es) h5 h6 (eI h2) h7 h8 h9 Mo (λb=>he.es X hC _ h4 b) (λρ hl=>zE hl) (cI h3).1 (bV ns.1) (gy ns.2)
 refine .gc (λX hC x h m=>(aR X hC x h).2 m) (λX hC x h _=>?_) (λX hC x h z=>ff z)
 refine aq λnO=>?_
 obtain⟨⟨fn,args,sP,p,rfl⟩,k⟩:=aR X hC x h
 exact nO<|dm (k false) λ_=>rfl
def pY(q:tf):ie q∈iG:=by cases q<;>decide +kernel
def zL(he:cB G F es):cB G F (.prim q es):=by
 have aR:∀X,Ct X G F->∀x,bM G (.prim q es) X.N X.env.scope x=true->∃a0 ar n p,x= .Call (.Name (ie q) n) (a0::ar) [] p/\Gl X (ie q)/\(∀m,PA X (a0::ar) (sD X.K m (cD F m es)))/\bL a0=true/\ar.all bL=true:=λX hC x h=>by
  refine mS (fq (e:=x) h) λn pn as p zr cT=>?_
  subst zr
  simp only[WX,decide_eq_true_eq]at cT
  obtain⟨⟨⟨rfl,h2⟩,h0⟩,h4⟩:=cT
  cases as with
  |nil=>cases h0
  |cons a0 ar=>
   have ns:=jr h4
   rw[Y7,WX]at ns
   exact⟨a0,ar,pn,p,rfl,eI h2,λm=>he.es X hC _ h4 m,ns.1,ns.2⟩
 refine .gc (λX hC x h m=>?_) (λX hC x h _=>?_) (λX hC x h z=>?_)
 .refine sF (aR X hC x h) λa0 ar n p ag h1 h2 h3 h4=>?_
  subst ag
  exact og hC.units hC.calm h1 (hC.mg _ (pY q)) (h2 true) (bV h3) (gy h4)
 .refine sF (aR X hC x h) λa0 ar n p aP h1 h2 h3 h4=>?_
  subst aP
  exact dm (og hC.units hC.calm h1 (hC.mg _ (pY q)) (h2 true) (bV h3) (gy h4)) λ_=>rfl
 .refine sF (aR X hC x h) λa0 ar n p cZ h1 h2 h3 h4=>?_
  subst cZ
  cases q with
  |list=>
   refine(f_list h1 (hC.mg _ (pY .list)) (h2 true) (bV h3) (gy h4)).weak λσ H Q ⟨O,ρ,ds,hx,hd,k⟩=>⟨O,ρ,ds,hx,?_,k⟩
   refine aa (bind_some hd) λd hd hl=>aa (bind_some (show(cD F true es ρ).bind _=_ from hd)) λxs e1 hd=>?_
   show(cD F true es ρ).bind _=_
   rw[e1]
   cases xs with
   |nil=>cases hd
   |cons y t=>
    cases t with
    |cons _ _=>cases hd
    |nil=>
     refine aa (map_some hd) λys h5 nu=>?_
     subst nu
     cases hl
     exact h5
  |_=>exact ff z
def C_(he:cB G F es):cB G F (.iY q es):=by
 have aR:∀X,Ct X G F->∀x,bM G (.iY q es) X.N X.env.scope x=true->(∃fn args sP p,x= .Call fn args sP p)/\((q= .list /\PE X x (tF X.K λρ=>(ev F false (.iY q es) ρ).bind ig))\/(q= .tuple /\∀m,PE X x (tV X.K m (ev F m (.iY q es))))):=λX hC x h=>by
  obtain⟨n,pn,ar,p,rfl,g⟩:=gw (e:=x) h
  obtain⟨y,py,a0,p2,rfl,g2⟩:=gw g
  replace h:=g2
  refine⟨⟨_,_,_,_,rfl⟩,?_⟩
  simp only[WX,ZM,decide_eq_true_eq]at h
  refine aq λnO=>?_
  obtain⟨⟨⟨⟨⟨hq,rfl⟩,rfl⟩,h3⟩,h4⟩,h5⟩:=h
  refine nO ?_
  have ns:=jr h5
  rw[Y7,WX]at ns
  rcases hq with rfl|rfl
  .refine .inl ⟨rfl,?_⟩
   refine(zI hC.calm (eI h4) (hC.mg _ (by simp[iG])) (eI h3) (hC.mg _ (by simp[iG,ie])) (he.es X hC _ h5 false) (λρ ds hd=>pX h5 hd) (bV ns.1)).weak λσ H Q ⟨O,ρ,ds,hx,hd,k⟩=>⟨O,ρ,ds,hx,?_,k⟩
   refine aq λnO=>aa (bind_some hd) λd hd hl=>aa (bind_some (show((cD F false es ρ).bind dE).bind (lO .list)=_ from hd)) λxs e1 hd=>?_
   cases hd
   cases hl
   exact nO<|e1
  .refine .inr ⟨rfl,λm=>?_⟩
   refine(zl (m:=m) hC.calm (eI h4) (hC.mg _ (by simp[iG])) (eI h3) (hC.mg _ (by simp[iG,ie])) (he.es X hC _ h5 false) (λρ ds hd=>pX h5 hd) (bV ns.1)).weak λσ H Q ⟨O,ρ,d,hx,hd,k⟩=>⟨O,ρ,d,hx,?_,k⟩
   refine aq λnO=>aa (bind_some (show((cD F false es ρ).bind dE).bind (lO .tuple)=_ from hd)) λxs e1 hd=>?_
   cases hd
   refine nO ?_
   show((cD F false es ρ).bind dE).map D.tup=_
   rw[e1]
   rfl
 have HA:q= .list ->∀ρ d,ev F false (.iY q es) ρ=some d->∃ds,d= .lst ds:=λhq ρ d hd=>by
  refine aq λnO=>?_
  subst hq
  refine aa (bind_some (show((cD F false es ρ).bind dE).bind (lO .list)=_ from hd)) λxs e1 hd=>?_
  cases hd
  exact nO<|⟨_,rfl⟩
 have val:∀X,Ct X G F->∀x,bM G (.iY q es) X.N X.env.scope x=true->∀m,PE X x (tV X.K m (ev F m (.iY q es))):=λX hC x h m=>by
  obtain⟨_,k⟩:=aR X hC x h
  rcases k with⟨hq,k⟩|⟨hq,k⟩
  .exact l7 m k (HA hq)
  .exact k m
 refine .gc val (λX hC x h _=>?_) (λX hC x h z=>?_)
 .refine aq λnO=>?_
  obtain⟨⟨fn,args,sP,p,rfl⟩,_⟩:=aR X hC x h
  exact nO<|dm (val X hC _ h false) λ_=>rfl
 .obtain⟨_,k⟩:=aR X hC x h
  rcases k with⟨hq,k⟩|⟨rfl,_⟩
  .exact k
  .exact ff z
def iV(h:zA oe=true):attributeBase oe nm env (eval oe env)=eval oe env:=by
 cases oe<;>first|rfl|exact ff h
def zM(ho:cB G F o)(he:cB G F es):cB G F (.dg mm o es):=by
 have aR:∀X,Ct X G F->∀x,bM G (.dg mm o es) X.N X.env.scope x=true->(∃fn args sP p,x= .Call fn args sP p)/\∀m,PE X x (tV X.K m (ev F m (.dg mm o es))):=λX hC x h=>by
  refine Jj (fu (e:=x) h) λoe nm ap as p zr h=>aa (bW h) λa0 aP cT=>?_
  subst zr aP
  refine⟨⟨_,_,_,_,rfl⟩,?_⟩
  simp only[WX,decide_eq_true_eq]at cT
  obtain⟨⟨⟨⟨NS,h3⟩,h4⟩,h5⟩,h6⟩:=cT
  have ns:=jr h6
  rw[Y7,WX]at ns
  subst NS
  cases mm with
  |index=>exact λm=>CS (ho.e X hC oe h5 true) (he.es X hC _ h6 true) (iV h3) h4 (bV ns.1)
  |jG=>exact λm=>zp (ho.e X hC oe h5 true) (he.es X hC _ h6 true) (iV h3) h4 (bV ns.1)
 refine .gc (λX hC x h m=>(aR X hC x h).2 m) (λX hC x h _=>?_) (λX hC x h z=>ff z)
 obtain⟨⟨fn,args,sP,p,rfl⟩,k⟩:=aR X hC x h
 exact dm (k false) λ_=>rfl
def C'(ha:cB G F a):cB G F (.B3 a):=by
 have aR:∀X,Ct X G F->∀x,bM G (.B3 a) X.N X.env.scope x=true->(∃fn args sP p,x= .Call fn args sP p)/\∀m,PE X x (tV X.K m (ev F m (.B3 a))):=λX hC x h=>by
  refine mS (fq (e:=x) h) λn pn as p zr h=>ef (zD h) λa0 t aP h=>ef (cM h) λy py cZ cT=>?_
  subst zr aP cZ
  refine⟨⟨_,_,_,_,rfl⟩,?_⟩
  simp only[WX,decide_eq_true_eq]at cT
  obtain⟨⟨⟨⟨⟨rfl,rfl⟩,h3⟩,h4⟩,h5⟩,h6⟩:=cT
  exact λm=>Ma (ha.e X hC a0 h5 false) (eI h3) (hC.mg _ (by simp[iG])) (eI h4) (hC.mg _ (by simp[iG])) (bV h6)
 refine .gc (λX hC x h m=>(aR X hC x h).2 m) (λX hC x h _=>?_) (λX hC x h z=>ff z)
 obtain⟨⟨fn,args,sP,p,rfl⟩,k⟩:=aR X hC x h
 exact dm (k false) λ_=>rfl
end
noncomputable def fx:List (List Int)->List V->List Int->Option V
 |k::ks,v::vs,x=>if k=x then some v else fx ks vs x
 |_,_,_=>none
theorem j0[DecidableEq κ](f:List Int->κ):∀(ks:List (List Int)) (vs:List V) (x:List Int),(∀k∈ks,f k=f x->k=x)->jJ ((ks.map f).zip vs) (f x)=fx ks vs x
 |[],vs,x,_=>by simp[fx,jJ]
 |k::ks,[],x,_=>by simp[fx,jJ]
 |k::ks,v::vs,x,h=>by
  rw[Xj,ZR,fx]
  by_cases e:k=x
  .rw[Xl e,i9 (by rw[e])]
  .rw[Xs e,i_ (λz=>e (h k W6 z))]
   exact j0 f ks vs x λk hk=>h k (W4 _ hk)
theorem pZ:∀{a b:List Int},a.map (Sum.inl:Int->cU)=b.map Sum.inl->a=b
 |[],[],_=>rfl
 |[],_::_,h=>by simp at h
 |_::_,[],h=>by simp at h
 |x::a,y::b,h=>by
  rw[Xj,Xj]at h
  injection h with h1 h2
  rw[aab h1,pZ h2]
theorem oz{K:PySem.W.Frag}{O:Addr->Prop}{H:Hp}:∀{x:List Int}{vs:List V},av K O H vs (x.map .int)->vs=x.map V.int
 |[],_,.nil =>rfl
 |i::x,_,.cons r t=>by rw[r.int_inv,oz t];rfl
theorem kA:∀{xs:List D}{p:List Int},aU xs=some p->xs=p.map .int
 |[],p,h=>by cases h;rfl
 |x::xs,p,h=>by
  cases x with
  |int i=>
   refine aa (map_some (show(aU xs).map (i:: ·)=some p from h)) λq h1 ag=>?_
   subst ag
   rw[kA h1]
   rfl
  |_=>cases h
section
variable {K:PySem.W.Frag}{O:Addr->Prop}{H:Hp}{a:Addr}{t:Nat}{ks:List (List Int)}{vs:List V}{ds:List D}
def gM{y:V}{dy:D}{x:List Int}(r:bA K O H y dy)(hx:dD t dy=some x):(t=0/\(∃i,x=[i]/\y= .int i))\/(t≠0/\∃b,y= .ref b/\H b=some (.tup ((x.map Sum.inl).map kV))):=by
 cases dy with
 |int i=>
  simp only[dD]at hx
  split at hx
  .rename_i h0
   cases hx
   exact .inl ⟨h0,i,rfl,r.int_inv⟩
  .cases hx
 |tup xs=>
  simp only[dD]at hx
  split at hx
  .cases hx
  .rename_i h0
   have e:=kA hx
   subst e
   refine bu r.jl λb us ag h1 h2=>?_
   subst ag
   refine .inr ⟨h0,b,rfl,?_⟩
   rw[Xz]
   have:=oz h2
   rw[this]at h1
   exact h1
 |_=>cases hx
def vc(hd:Rd H a (gb t ks vs))(hk:lV t ks)(r:bA K O H y dy)(hx:dD t dy=some x):pC H a y (fx ks vs x):=by
 rcases gM r hx with⟨h0,i,rfl,rfl⟩|⟨h0,b,rfl,hb⟩
 .unfold gb at hd
  rw[Xl h0]at hd
  refine .inl ⟨_,Sum.inl i,hd,rfl,?_⟩
  have:=j0 (λk:List Int=>(Sum.inl (k.headD 0):cU)) ks vs [i] (λk hm e=>by
   obtain⟨j,rfl⟩:=hk.2 h0 k hm
   have:j=i:=aab e
   rw[this])
  exact this.symm
 .unfold gb at hd
  rw[Xs h0]at hd
  exact .inr ⟨_,x.map Sum.inl,b,hd,rfl,hb,(j0 (λk:List Int=>k.map (Sum.inl:Int->cU)) ks vs x λk _ e=>pZ e).symm⟩
theorem l9:∀{ks:List (List Int)}{vs:List V}{ds:List D}{x:List Int},ks.length=vs.length->av K O H vs ds->(∀d,iB ks ds x=some d->∃v,fx ks vs x=some v/\bA K O H v d)/\(iB ks ds x=none->fx ks vs x=none)/\((fx ks vs x).isSome =decide (x∈ks))
 |[],_,_,x,_,_=>⟨λ_ h=>by simp[iB]at h,λ_=>by simp[fx],by simp[fx]⟩
 |k::ks,[],_,x,h,_=>by simp at h
 |k::ks,v::vs,_,x,h,.cons (d:=d) (ds:=ds) r rs=>by
  have ih:=l9 (ks:=ks) (x:=x) (by simpa using h) rs
  by_cases e:k=x
  .simp only[iB,fx,Xl e]
   exact⟨λd' hd=>(by cases hd;exact⟨v,rfl,r⟩),λz=>(by cases z),by simp[e]⟩
  .simp only[iB,fx,Xs e]
   exact⟨ih.1,ih.2.1,by rw[ih.2.2];simp[XY e]⟩
def Dc:xK (some (gb t ks vs)):=by unfold gb;split<;>exact True.intro
theorem EX.bP(hx:EX K O σ H ρ)(h:gh ρ i=some d):∃a vs,σ[i]?=some (some (.ref a))/\Rd H a (gb d.1 d.2.1 vs)/\d.2.1.length=vs.length/\lV d.1 d.2.1/\av K O H vs d.2.2:=by
 unfold gh at h
 split at h
 .rename_i o t ks ds e
  split at h
  .cases h
  rename_i ht
  cases h
  refine aa (hx.jI i o _ e) λv h1 h2=>?_
  cases o with
  |true=>
   refine bJ h2 λa e1 _ c=>Bj (c.bP ht) λvs c1 c2 c3 c4=>?_
   subst e1
   exact⟨a,vs,h1,.inl c1,c2,c3,c4⟩
  |false=>
   have HC:bA K O H v (.bP t ks ds):=h2
   cases HC with
   |bP g1 g2 g3 g4=>exact⟨_,_,h1,.inr ⟨_,g1⟩,g2,g3,g4⟩
 .cases h
end
def b_(h:dw N sc i e=true):∃x p,e= .Name x p/\N[i]?=some x/\v8 sc x/\(x==("__debug__":Str))=false/\(x==("__classdict__":Str))=false:=by
 refine aq λnO=>?_
 cases e with
 |Name x p=>
  refine nO ?_
  unfold dw at h
  simp only[WX,decide_eq_true_eq]at h
  exact⟨x,p,rfl,h.1.1,jZ h.1.2,(cI h.2).1,(cI h.2).2⟩
 |_=>cases h
section
variable {X:Cx}{a b c e k:Expr}{pos p px:Pos}{m:Bool}{i:Nat}{x:Str}{f:Env->Option D}
def HD(hu:X.A.units+64<cLine)(ho:PE X a (dn i))(hk:PE X k (tV X.K false f))(hs:Cb k):PE X (.Subscript a k pos) (tV X.K m λρ=>(gh ρ i).bind λd=>((f ρ).bind (dD d.1)).bind λx=>iB d.2.1 d.2.2 x):=
 (Ce (by lia) ho hk hs).weak λσ H Q zz=>by
  refine cS zz λO ρ d hx hd q=>aa (bind_some hd) λdd e1 hd=>aa (bind_some hd) λxx e2 hd=>aa (bind_some e2) λdy e3 e4=>jC (hx.bP e1) λa vs g1 g2 g3 g4 g5=>⟨.ref a,g1,O,ρ,dy,hx,e3,λv H1 s1 r1=>?_⟩
  refine aa ((l9 (x:=xx) g3 (g5.mono s1)).1 d hd) λv' h1 h2=>?_
  have hg:=vc (kU s1 g2) g4 r1.own e4
  rw[h1]at hg
  exact⟨a,v',rfl,hg,q v' H1 s1 (.inl h2)⟩
def Mp{neg:Bool}(hu:X.A.units+64<cLine)(hk:PE X k (tV X.K false f))(ho:PE X a (dn i)):PC X (if neg then .NotIn else .In) k a (tV X.K m λρ=>((f ρ).bind λy=>(gh ρ i).bind λd=>(dD d.1 y).map λx=> .bl (if neg then !decide (x∈d.2.1) else decide (x∈d.2.1)))):=by
 have key:∀σ H (Q:VK),tV X.K m (λρ=>((f ρ).bind λy=>(gh ρ i).bind λd=>(dD d.1 y).map λx=>D.bl (if neg then !decide (x∈d.2.1) else decide (x∈d.2.1)))) σ H Q->
   tV X.K false f σ H λy H1=>dn i σ H1 λx H2=>∃a o,x= .ref a/\pC H2 a y o/\Q (.bl (if neg then !o.isSome else o.isSome)) H2:=λσ H Q zz=>by
  refine aq λnO=>cS zz λO ρ d hx hd q=>aa (bind_some hd) λdy e1 hd=>aa (bind_some hd) λdd e2 hd=>aa (map_some hd) λxx e3 ag=>?_
  subst ag
  refine nO ?_
  refine⟨O,ρ,dy,hx,e1,λv H1 s1 r1=>?_⟩
  refine aq λnO=>jC ((hx.mono s1).bP e2) λa vs g1 g2 g3 g4 g5=>nO ?_
  refine⟨.ref a,g1,a,_,rfl,vc g2 g4 r1.own e3,?_⟩
  rw[(l9 (x:=xx) g3 g5).2.2]
  exact q _ H1 s1 (.inl (.bl _))
 cases neg with
 |true=>exact λU s σ H Q I q=>wJ (by lia) hk ho U s σ H Q I (key σ H Q q)
 |false=>exact λU s σ H Q I q=>GP (by lia) hk ho U s σ H Q I (key σ H Q q)
theorem insI_perm(x:Int):∀l,(insI x l).Perm (x::l)
 |[]=> .refl _
 |y::r=>by
  unfold insI
  split
  .exact .refl _
  .exact((insI_perm x r).cons y).trans (.swap x y r)
theorem sortI_perm:∀l,(sortI l).Perm l
 |[]=> .refl _
 |x::r=>(insI_perm x (sortI r)).trans ((sortI_perm r).cons x)
theorem vd(x:Int):∀l:List Int,l.Pairwise (· <= ·)->(insI x l).Pairwise (· <= ·)
 |[],_=>Zp _ _
 |y::r,h=>by
  unfold insI
  rw[X_]at h
  split
  .rename_i wQ
   refine X_.mpr ⟨λz hz=>?_,X_.mpr h⟩
   rcases Xc.mp hz with e|hz
   .rw[e];exact wQ
   .exact abc wQ (h.1 z hz)
  .rename_i wQ
   refine X_.mpr ⟨λz hz=>?_,vd x r h.2⟩
   rcases Xc.mp ((insI_perm x r).mem_iff.mp hz)with e|hz
   .rw[e];lia
   .exact h.1 z hz
theorem l_:∀l:List Int,(sortI l).Pairwise (· <= ·)
 |[]=> .nil
 |x::r=>vd x _ (l_ r)
def zN{l m:List Int}(hp:l.Perm m)(hs:l.Pairwise (· <= ·)):l=sortI m:=
 (hp.trans (sortI_perm m).symm).eq_of_pairwise (λa b _ _ h1 h2=>Int.le_antisymm h1 h2) hs (l_ m)
def Dd(hc:X.calm=true)(ho:PE X a (dn i))(hg:Gl X "sorted")(hm:X.mg "sorted"=none)(hs:starEach [a] X.env=(false,eval a X.env)::starEach [] X.env):PE X (.Call (.Name "sorted" p) [a] [] pos) (tV X.K m λρ=>(gh ρ i).bind λd=>if d.1=0 then(if d.2.1.length<64 then some (.lst ((sortI (d.2.1.map λk=>k.headD 0)).map .int)) else none)
   else if []∈d.2.1 then none else some (.lst ((b6.b9 d.2.1).map nc))):=
 (eU ((pR hc).or (pN hc)) hg hm boot_sorted (cu ho dN hs) (by decide) (by decide) hs rfl).weak λσ H Q zz=>by
  refine cS zz λO ρ d hx hd q=>aa (bind_some hd) λdd e1 hd=>jC (hx.bP e1) λb vs g1 g2 g3 g4 g5=>⟨.ref b,g1,?_⟩
  unfold gb at g2
  by_cases h0:dd.1=0
  .rw[Xl h0]at hd g2
   split at hd
   .rename_i NN
    cases hd
    refine .inl ⟨b,_,dd.2.1.map λk=>k.headD 0,rfl,g2,?_,by rw[WZ];exact NN,λlI p1 p2 l hl=>?_⟩
    .rw[List.map_fst_zip (by rw[WZ];lia),Xz]
     rfl
    .rw[zN p1 p2]
     exact q _ _ (af.upd hl) (.inl (.lst (.inl ah) (hx.free (af.refl _) hl) (fg _)))
   .cases hd
  .rw[Xs h0]at hd g2
   split at hd
   .cases hd
   .rename_i fJ
    cases hd
    refine .inr ⟨b,_,dd.2.1,rfl,g2,?_,λk hk e=>fJ (e▸hk),λl us hl pw=>q _ _ (af.upd hl) (.inl (.lst (.inl ah) (hx.free (af.refl _) hl) ((lZ pw).mono (af.upd hl))))⟩
    rw[List.map_fst_zip (by rw[WZ];lia)]
end
section
variable {G:GT}{F:FT}
def Df(h:cw e=true):Cb e:=by
 intro o i
 cases e<;>first|rfl|exact absurd h W2
def zO(hk:cB G F k):cB G F (.dC i k):=by
 have aR:∀X,Ct X G F->∀x,bM G (.dC i k) X.N X.env.scope x=true->(∃v s p,x= .Subscript v s p)/\∀m,PE X x (tV X.K m (ev F m (.dC i k))):=λX hC x h=>by
  cases x with
  |Subscript v s p=>
   change (dw X.N X.env.scope i v&&bM G k X.N X.env.scope s&&cw s)=true at h
   simp only[WX]at h
   refine jC (b_ h.1.1) λx q ag n1 n2 n3 n4=>?_
   subst ag
   exact⟨⟨_,_,_,rfl⟩,λm=>HD hC.units (bQ n1 n2 n3 n4) (hk.e X hC s h.1.2 false) (Df h.2)⟩
  |_=>exact ff h
 refine .gc (λX hC x h m=>(aR X hC x h).2 m) (λX hC x h _=>?_) (λX hC x h z=>ff z)
 obtain⟨⟨v,s,p,rfl⟩,q⟩:=aR X hC x h
 exact dm (q false) λ_=>rfl
def Dg(hk:cB G F k):cB G F (.uC neg k i):=by
 have aR:∀X,Ct X G F->∀x,bM G (.uC neg k i) X.N X.env.scope x=true->∃l r p,x= .Compare l [if neg then .NotIn else .In] [r] p/\(∀m,PC X (if neg then .NotIn else .In) l r (tV X.K m (ev F m (.uC neg k i))))/\behindInMarks (if neg then .NotIn else .In) r=false:=λX hC x h=>by
  refine mS (va (e:=x) h) λl op r p zr cT=>?_
  subst zr
  simp only[WX,decide_eq_true_eq]at cT
  obtain⟨⟨rfl,h1⟩,h2⟩:=cT
  refine jC (b_ h2) λx q ag n1 n2 n3 n4=>?_
  subst ag
  exact⟨l,_,p,rfl,λm=>Mp hC.units (hk.e X hC l h1 false) (bQ n1 n2 n3 n4),oy rfl⟩
 refine .gc (λX hC x h m=>?_) (λX hC x h _=>?_) (λX hC x h z=>ff z)
 .refine cS (aR X hC x h) λl r p aP q1 q2=>?_
  subst aP
  exact FJ (q1 m) q2
 .refine cS (aR X hC x h) λl r p cZ q1 q2=>?_
  subst cZ
  refine(FK (q1 false) q2).weak λσ H Q zz=>cS zz λO ρ kk hx hd q=>aa (bind_some hd) λd e1 e2=>?_
  cases dU e2
  exact⟨O,ρ,_,hx,e1,λv H1 s1 r1=>⟨kk,r1.bl,q H1 s1⟩⟩
def xa:cB G F (.eE i):=by
 have aR:∀X,Ct X G F->∀x,bM G (.eE i) X.N X.env.scope x=true->(∃fn args sP p,x= .Call fn args sP p)/\∀m,PE X x (tV X.K m (ev F m (.eE i))):=λX hC x h=>by
  obtain⟨y,py,a0,p,rfl,g⟩:=gw (e:=x) h
  replace h:=g
  refine⟨⟨_,_,_,_,rfl⟩,?_⟩
  simp only[WX,decide_eq_true_eq]at h
  obtain⟨⟨rfl,h1⟩,h2⟩:=h
  refine jC (b_ h2) λx q ag n1 n2 n3 n4=>?_
  subst ag
  exact λm=>Dd hC.calm (bQ n1 n2 n3 n4) (eI h1) (hC.mg _ (by simp[iG])) (bV rfl)
 refine .gc (λX hC x h m=>(aR X hC x h).2 m) (λX hC x h _=>?_) (λX hC x h z=>ff z)
 obtain⟨⟨fn,args,sP,p,rfl⟩,q⟩:=aR X hC x h
 exact dm (q false) λ_=>rfl
def cB.Qv(i:∀X,Ct X G F->∀tg x,CY G e' X.N X.env.scope x=true->∀m,PI X tg x (tI X.K m (kH F m e')))
  (n0:∀N sc x,bM G e' N sc x=false:=by intro _ _ _;rfl) (n1:∀N sc xs,dW G e' N sc xs=false:=by intro _ _ _;rfl) (n2:∀N sc xs,l5 G e' N sc xs=false:=by intro _ _ _;rfl) (n3:∀N sc xs,E4 G e' N sc xs=false:=by intro _ _ _;rfl):cB G F e':=
 ⟨λX _ x h=>absurd h (by rw[n0];exact W2),λX _ x h=>absurd h (by rw[n0];exact W2),λX _ x h=>absurd h (by rw[n0];exact W2),λX _ xs h=>absurd h (by rw[n1];exact W2),λX _ xs h=>absurd h (by rw[n2];exact W2),λX _ xs h=>absurd h (by rw[n3];exact W2),i⟩
def HE:cB G F (.dk i):= .Qv λX hC tg x h m=>by
 refine jC (b_ (show dw X.N X.env.scope i x=true from h)) λy q ag n1 n2 n3 n4=>?_
 subst ag
 exact Qm (bQ n1 n2 n3 n4)
def HF:cB G F (.dv i):= .Qv λX hC tg x h m=>by
 refine Jj (fu (e:=x) h) λoe nm ap as p zr cT=>?_
 subst zr
 simp only[WX,decide_eq_true_eq,aaj]at cT
 obtain⟨⟨⟨rfl,rfl⟩,h1⟩,h2⟩:=cT
 refine jC (b_ h1) λy q ag n1 n2 n3 n4=>?_
 subst ag
 exact Qn (bQ n1 n2 n3 n4) rfl h2
def Di(ha:cB G F a):cB G F (.EI a):= .Qv λX hC tg x h m=>by
 obtain⟨y,py,a0,p,rfl,g⟩:=gw (e:=x) h
 replace h:=g
 simp only[WX,decide_eq_true_eq]at h
 obtain⟨⟨⟨rfl,h1⟩,h2⟩,h3⟩:=h
 exact Me (eI h1) (hC.mg _ (by simp[iG])) (ha.e X hC a0 h2 false) (bV h3)
def HG(n0:∀N sc x,bM G e' N sc x=false:=by intro _ _ _;rfl)(n1:∀N sc xs,dW G e' N sc xs=false:=by intro _ _ _;rfl)(n2:∀N sc xs,l5 G e' N sc xs=false:=by intro _ _ _;rfl)(n3:∀N sc xs,E4 G e' N sc xs=false:=by intro _ _ _;rfl)(n4:∀N sc xs,CY G e' N sc xs=false:=by intro _ _ _;rfl):cB G F e':=
 .gc (λX hC x h=>absurd h (by rw[n0];exact W2)) (λX hC x h=>absurd h (by rw[n0];exact W2)) (λX hC x h=>absurd h (by rw[n0];exact W2)) n1 n2 n3 n4
def Dj(he:cB G F es):cB G F (.eK es) where
 e:=λX hC x h=>ff h
 t:=λX hC x h=>ff h
 f:=λX hC x h=>ff h
 es:=λX hC x h=>ff h
 ts:=λX hC x h=>ff h
 o:=λX hC x h=>ff h
 i:=λX hC tg x h m=>by
  refine mS (fq (e:=x) h) λn pn as p zr cT=>?_
  subst zr
  simp only[WX,decide_eq_true_eq]at cT
  obtain⟨⟨⟨rfl,h1⟩,h2⟩,h3⟩:=cT
  exact Mm (eI h1) (hC.mg _ (by simp[iG])) (he.es X hC _ h3 false) (λρ ds hd=>pX h3 hd) h2 (jr h3)
def HH(ha:cB G F a):cB G F (.it a) where
 e:=λX hC x h=>ff h
 t:=λX hC x h=>ff h
 f:=λX hC x h=>ff h
 es:=λX hC x h=>ff h
 ts:=λX hC x h=>ff h
 o:=λX hC x h=>ff h
 i:=λX hC tg x h m=>Ql (ha.e X hC x h m)
def ma(hC:Ct X G F)(hi:cB G F it)(hf:cB G F ifs)(he:cB G F dO)(h4:w8 X.N X.env.scope gx [n] fr=true)(h5:CY G it X.N X.env.scope iter=true)
  (h6:l5 G ifs (nD X.N [n] fr) (kz gx X.env.scope) fs=true) (h7:bM G dO (nD X.N [n] fr) (kz gx X.env.scope) el=true):
  ∀cl C U s H ex,PG (gU X gx cl C (nD X.N [n] fr) U s H ex) (.Name n q) (cO 0)/\wy (gU X gx cl C (nD X.N [n] fr) U s H ex) fs (tB X.K (fF F true ifs))/\PE (gU X gx cl C (nD X.N [n] fr) U s H ex) el (tV X.K false (ev F false dO)):=λcl C U s H ex=>by
 refine cN (pW h4) λS Qw nd=>have hl:=Qw _ W6;?_
 have JD:=hC.inner gx cl C (nD X.N [n] fr) U s H ex
 exact⟨kP nd rfl (pV hl).1 (pV hl).2,(hf.ts _ JD fs h6).1,he.e _ JD el h7 false⟩
def oA(h:bM G (.comp fr tg it ifs dO) N sc x=true):∃el n q iter fs gx p,x= .ListComp el [⟨.Name n q,iter,fs,0⟩] gx p/\tg=0/\gu iter=true/\w8 N sc gx [n] fr=true/\CY G it N sc iter=true/\l5 G ifs (nD N [n] fr) (kz gx sc) fs=true/\bM G dO (nD N [n] fr) (kz gx sc) el=true:=by
 refine mS (u_ (e:=x) h) λel gs gx p zr h=>aa (bW h) λg aP cT=>?_
 obtain⟨qp,iter,fs,kk⟩:=g
 refine ef (cM cT) λn q cZ E5=>?_
 change qp=_ at cZ
 subst zr aP cZ
 simp only[WX,decide_eq_true_eq]at E5
 obtain⟨⟨⟨⟨⟨⟨rfl,rfl⟩,h3⟩,h4⟩,h5⟩,h6⟩,h7⟩:=E5
 exact⟨el,n,q,iter,fs,gx,p,rfl,rfl,h3,h4,h5,h6,h7⟩
def vf(ρ:Env):ev F false (.comp fr 0 it ifs dO) ρ=((kH F true it ρ).bind λxs=>if xs.length<=bE then walk (oh 0 (fF F true ifs) (ev F false dO) fr ρ) xs else none).map .lst :=by
 show(kH F true it ρ).bind _=_
 cases kH F true it ρ with
 |none=>rfl
 |some xs=>
  show(if xs.length<=bE then _ else _)=Option.map _ (if xs.length<=bE then _ else _)
  by_cases h:xs.length<=bE
  .rw[Xl h,Xl h]
   rfl
  .rw[Xs h,Xs h]
   rfl
def zP{e:Option D}{g:Option (List D)}(h:e=g.map D.lst):e.bind ig=g:=by rw[h];cases g<;>rfl
def vg{K:PySem.W.Frag}{fr:List Nat}{it ifs dO:E}(σ:St)(H:Hp)(Q:VK)(h:tF K (λρ=>(ev F false (.comp fr 0 it ifs dO) ρ).bind ig) σ H Q):
  tF K (λρ=>(kH F true it ρ).bind λxs=>if xs.length<=bE then walk (oh 0 (fF F true ifs) (ev F false dO) fr ρ) xs else none) σ H Q:=by
 rwa [zG λρ=>zP (vf ρ)]at h
def zQ(hi:cB G F it)(hf:cB G F ifs)(he:cB G F dO):cB G F (.comp fr tg it ifs dO):=by
 have aR:∀X,Ct X G F->∀x,bM G (.comp fr tg it ifs dO) X.N X.env.scope x=true->(∃el gs s p,x= .ListComp el gs s p)/\tg=0/\PE X x (tF X.K λρ=>(ev F false (.comp fr tg it ifs dO) ρ).bind ig):=λX hC x h=>by
  refine RO (oA h) λel n q iter fs gx p ag aP h3 h4 h5 h6 h7=>?_
  subst ag
  subst aP
  exact⟨⟨_,_,_,_,rfl⟩,rfl,(Hx (hi.i X hC _ iter h5 true) (pW h4).1 hC.calm (ma hC hi hf he h4 h5 h6 h7) (dM h3)).weak λσ H Q z=>vg σ H Q z⟩
 have HA:tg=0->∀ρ d,ev F false (.comp fr tg it ifs dO) ρ=some d->∃ds,d= .lst ds:=λht ρ d hd=>by
  subst ht
  rw[vf]at hd
  refine aa (map_some hd) λxs h1 cZ=>?_
  subst cZ
  exact⟨_,rfl⟩
 refine .gc (λX hC x h m=>?_) (λX hC x h _=>?_) (λX hC x h z=>?_)
 .exact cN (aR X hC x h) λ_ hq k=>l7 m k (HA hq)
 .obtain⟨⟨el,gs,s,p,rfl⟩,hq,k⟩:=aR X hC x h
  exact dm (l7 false k (HA hq)) λ_=>rfl
 .exact(aR X hC x h).2.2
def snd(e':E):cB G F e':=by
 induction e' with
 |nil=>exact C0
 |cons a r ha hr=>exact zJ ha hr
 |var i=>exact C1
 |c d=>exact Mn
 |bin o a b ha hb=>exact C2 ha hb
 |cmp o a b ha hb=>exact C3 ha hb
 |tup es he=>exact C7 he
 |lst es he=>exact C8 he
 |idx a i ha hi=>exact C9 ha hi
 |sl a lo hi ha hl hh=>exact HB ha hl hh
 |call f es he=>exact zK he
 |prim q es he=>exact zL he
 |iY q es he=>exact C_ he
 |comp fr tg it ifs dO hi hf he=>exact zQ hi hf he
 |eK es he=>exact Dj he
 |it a ha=>exact HH ha
 |dg mm o es ho he=>exact zM ho he
 |sv a _=>exact HG
 |dC i k hk=>exact zO hk
 |uC neg k i hk=>exact Dg hk
 |eE i=>exact xa
 |dk i=>exact HE
 |dv i=>exact HF
 |EI a ha=>exact Di ha
 |ql k es he=>exact C6 he
 |not a ha=>exact C5 ha
 |B3 a ha=>exact C' ha
 |neg a ha=>exact C4 ha
end
def Os(ab:Addr->Prop)(ow:Nat->Option Addr):Addr->Prop:=λa=>ab a\/∃i,ow i=some a
noncomputable def oB(ow:Nat->Option Addr)(i:Nat)(o:Option Addr):Nat->Option Addr:=λj=>if j=i then o else ow j
def aO:oB ow i o i=o:=Xl rfl
def aT(h:¬j=i):oB ow i o j=ow j:=Xs h
structure SX(K:PySem.W.Frag)(H₀:Hp)(ab Z:Addr->Prop)(kv:List V)(kd:List D)(ow:Nat->Option Addr)(σ:St)(H:Hp)(ρ:Env):Prop where
 ex:EX K (Os ab ow) σ H ρ
 own:∀(i:Nat) (d:D),ρ[i]?=some (some (true,d))->∃a,σ[i]?=some (some (.ref a))/\((lN d=false/\ow i=some a)\/(lN d=true/\Z a/\ab a))
 inj:∀i j a,ow i=some a->ow j=some a->i=j
 new:∀i a,ow i=some a->H₀ a=none
 same:af H₀ H
 kp:av K (Os ab ow) H kv kd
 o0:∀a,ab a->∃o,H₀ a=some o
 len:ρ.length=σ.length
section
variable {K:PySem.W.Frag}{H₀:Hp}{ab Z:Addr->Prop}{kv:List V}{kd:List D}{ow:Nat->Option Addr}{σ:St}{H H1:Hp}{ρ:Env}
theorem SX.mono(h:SX K H₀ ab Z kv kd ow σ H ρ)(s:af H H1):SX K H₀ ab Z kv kd ow σ H1 ρ:=⟨h.ex.mono s,h.own,h.inj,h.new,h.same.trans s,h.kp.mono s,h.o0,h.len⟩
theorem SX.put(h:SX K H₀ ab Z kv kd ow σ H ρ)(r:bA K (Os ab ow) H v d)(i:Nat):SX K H₀ ab Z kv kd (oB ow i none) (σ.set i (some v)) H (Py.put ρ i false d):=by
 have sub:∀a,Os ab (oB ow i none) a->Os ab ow a:=λa z=>by
  rcases z with z|⟨j,z⟩
  .exact .inl z
  .by_cases hj:j=i
   .rw[hj,aO]at z;cases z
   .rw[aT hj]at z;exact .inr ⟨j,z⟩
 refine⟨⟨λa ha=>h.ex.live a (sub a ha),λj o d' hj=>?_⟩,λj d' hj=>?_,λj k a hj hk=>?_,λj a hj=>?_,h.same,h.kp.weak sub,h.o0,by unfold Py.put;rw[XD,XD];exact h.len⟩
 .by_cases eJ:j=i
  .subst eJ
   unfold Py.put at hj
   by_cases hl:j<ρ.length
   .rw[Xo hl]at hj
    cases hj
    exact⟨v,Xo (by rw[<-h.len];exact hl),r.weak sub⟩
   .rw[Xr (by rw[XD];lia)]at hj;cases hj
  .unfold Py.put at hj
   rw[Xq (XY eJ)]at hj
   refine aa (h.ex.jI j o d' hj) λw h1 h2=>⟨w,by rw[Xq (XY eJ)];exact h1,?_⟩
   cases o with
   |true=>
    refine aq λnO=>bJ h2 λa e1 e2 c=>aa (h.own j d' hj) λa' o2 o1=>?_
    rw[h1]at o2
    cases o2
    cases e1
    exact nO<|⟨a,rfl,o1.elim (λo1=> .inr ⟨j,by rw[aT eJ];exact o1.2⟩) (λo1=> .inl o1.2.2),c.weak sub⟩
   |false=>exact bA.weak h2 sub
 .by_cases eJ:j=i
  .subst eJ
   unfold Py.put at hj
   by_cases hl:j<ρ.length
   .rw[Xo hl]at hj;cases hj
   .rw[Xr (by rw[XD];lia)]at hj;cases hj
  .unfold Py.put at hj
   rw[Xq (XY eJ)]at hj
   exact aa (h.own j d' hj) λa o2 o1=>⟨a,by rw[Xq (XY eJ)];exact o2,o1.imp (λo1=>⟨o1.1,by rw[aT eJ];exact o1.2⟩) id⟩
 .by_cases h1:j=i
  .rw[h1,aO]at hj;cases hj
  .by_cases h2:k=i
   .rw[h2,aO]at hk;cases hk
   .rw[aT h1]at hj;rw[aT h2]at hk;exact h.inj j k a hj hk
 .by_cases h1:j=i
  .rw[h1,aO]at hj;cases hj
  .rw[aT h1]at hj;exact h.new j a hj
def zR:∀a,Os ab (oB ow i (some p)) a->Os ab ow a\/a=p:=λa z=>by
 rcases z with z|⟨j,z⟩
 .exact .inl (.inl z)
 .by_cases hj:j=i
  .rw[hj,aO]at z;cases z;exact .inr rfl
  .rw[aT hj]at z;exact .inl (.inr ⟨j,z⟩)
def md(hp:H1 p=none)(r:av K (Os ab ow) H1 vs ds):av K (Os ab (oB ow i (some p))) (L2.upd H1 p u) vs ds:=((r.own hp).mono (af.upd hp)).weak zR
def SX.Mq(h:SX K H₀ ab Z kv kd ow σ H ρ)(s:af H H1)(hp:H1 p=none)(hu:rA u)(i:Nat)(hi:i<ρ.length)(NT:lN d0=false)(c:eh K (Os ab (oB ow i (some p))) (L2.upd H1 p u) p d0):
  SX K H₀ ab Z kv kd (oB ow i (some p)) (σ.set i (some (.ref p))) (L2.upd H1 p u) (Py.put ρ i true d0):=by
 have h1:=h.mono s
 have HK:H₀ p=none:=by
  cases z:H₀ p with
  |none=>rfl
  |some o=>rw[h1.same _ _ z]at hp;cases hp
 have sub:∀a,Os ab (oB ow i (some p)) a->(λa=>Os ab ow a\/a=p) a:=λa z=>by
  rcases z with z|⟨j,z⟩
  .exact .inl (.inl z)
  .by_cases hj:j=i
   .rw[hj,aO]at z;cases z;exact .inr rfl
   .rw[aT hj]at z;exact .inl (.inr ⟨j,z⟩)
 have up:af H1 (L2.upd H1 p u):=af.upd hp
 have mv:∀{v d},bA K (Os ab ow) H1 v d->bA K (Os ab (oB ow i (some p))) (L2.upd H1 p u) v d:=λq=>((q.own hp).mono up).weak sub
 have Vd:∀{v d},av K (Os ab ow) H1 v d->av K (Os ab (oB ow i (some p))) (L2.upd H1 p u) v d:=λq=>((q.own hp).mono up).weak sub
 have SH:∀j,ow j≠some p:=λj z=>by
  refine aa (h1.ex.live p (.inr ⟨j,z⟩)) λus q _=>?_
  rw[q]at hp;cases hp
 refine⟨⟨λa ha=>?_,λj o d' hj=>?_⟩,λj d' hj=>?_,λj k a hj hk=>?_,λj a hj=>?_,h1.same.trans up,Vd h1.kp,h.o0,by unfold Py.put;rw[XD,XD];exact h.len⟩
 .rcases sub a ha with z|z
  .exact aa (h1.ex.live a z) λus q qo=>⟨us,up _ _ q,qo⟩
  .subst z;exact⟨u,ah,hu⟩
 .by_cases eJ:j=i
  .subst eJ
   unfold Py.put at hj
   rw[Xo hi]at hj
   cases hj
   exact⟨.ref p,Xo (by rw[<-h.len];exact hi),p,rfl,.inr ⟨j,aO⟩,c⟩
  .unfold Py.put at hj
   rw[Xq (XY eJ)]at hj
   refine aa (h1.ex.jI j o d' hj) λw q1 q2=>⟨w,by rw[Xq (XY eJ)];exact q1,?_⟩
   cases o with
   |true=>
    refine aq λnO=>bJ q2 λa e1 e2 c'=>aa (h.own j d' hj) λa' o2 o1=>?_
    rw[q1]at o2
    cases o2
    cases e1
    exact nO<|⟨a,rfl,o1.elim (λo1=> .inr ⟨j,by rw[aT eJ];exact o1.2⟩) (λo1=> .inl o1.2.2),((c'.own hp).mono up).weak sub⟩
   |false=>exact mv q2
 .by_cases eJ:j=i
  .subst eJ
   unfold Py.put at hj
   rw[Xo hi]at hj
   cases hj
   exact⟨p,Xo (by rw[<-h.len];exact hi),.inl ⟨NT,aO⟩⟩
  .unfold Py.put at hj
   rw[Xq (XY eJ)]at hj
   exact aa (h.own j d' hj) λa o2 o1=>⟨a,by rw[Xq (XY eJ)];exact o2,o1.imp (λo1=>⟨o1.1,by rw[aT eJ];exact o1.2⟩) id⟩
 .by_cases q1:j=i
  .rw[q1,aO]at hj
   cases hj
   by_cases q2:k=i
   .rw[q1,q2]
   .rw[aT q2]at hk;exact absurd hk (SH k)
  .rw[aT q1]at hj
   by_cases q2:k=i
   .rw[q2,aO]at hk
    cases hk
    exact absurd hj (SH j)
   .rw[aT q2]at hk;exact h.inj j k a hj hk
 .by_cases q1:j=i
  .rw[q1,aO]at hj;cases hj;exact HK
  .rw[aT q1]at hj;exact h.new j a hj
def SX.F_(h:SX K H₀ ab Z kv kd ow σ H ρ)(s:af H H1)(hp:H1 p=none)(r:av K (Os ab ow) H1 vs ds)(i:Nat)(hi:i<ρ.length):
  SX K H₀ ab Z kv kd (oB ow i (some p)) (σ.set i (some (.ref p))) (L2.upd H1 p (.lst vs)) (Py.put ρ i true (.lst ds)):=h.Mq (u:= .lst vs) s hp trivial i hi rfl (.inl ⟨vs,ds,rfl,ah,md hp r⟩)
def SX.SI(h:SX K H₀ ab Z kv kd ow σ H ρ)(ha:ow i=some a)(hs:σ[i]?=some (some (.ref a)))(hH:H a=some u)(hu:rA u)(Dk:rA u')(hz:lN d0=false)(c:eh K (Os ab ow) (L2.upd H a u') a d0):
  SX K H₀ ab Z kv kd ow σ (L2.upd H a u') (Py.put ρ i true d0):=by
 have oa:Os ab ow a:= .inr ⟨i,ha⟩
 have sm:af H₀ (L2.upd H a u'):=λb o e=>by
  have hb:b≠a:=λz=>by rw[z,h.new i a ha]at e;cases e
  rw[ak hb];exact h.same _ _ e
 refine⟨⟨λb hb=>?_,λj o d' hj=>?_⟩,λj d' hj=>?_,h.inj,h.new,sm,h.kp.upd oa hH hu,h.o0,by unfold Py.put;rw[XD];exact h.len⟩
 .by_cases n9:b=a
  .subst n9;exact⟨u',ah,Dk⟩
  .exact aa (h.ex.live b hb) λus q qo=>⟨us,by rw[ak n9];exact q,qo⟩
 .by_cases eJ:j=i
  .subst eJ
   unfold Py.put at hj
   by_cases hl:j<ρ.length
   .rw[Xo hl]at hj
    cases hj
    exact⟨.ref a,hs,a,rfl,oa,c⟩
   .rw[Xr (by rw[XD];lia)]at hj;cases hj
  .unfold Py.put at hj
   rw[Xq (XY eJ)]at hj
   refine aa (h.ex.jI j o d' hj) λw q1 q2=>⟨w,q1,?_⟩
   cases o with
   |true=>
    refine aq λnO=>bJ q2 λb e1 e2 c'=>aa (h.own j d' hj) λb' o2 o1=>?_
    rw[q1]at o2
    cases o2
    cases e1
    refine nO ?_
    have n9:b≠a:=λz=>by
     rcases o1 with o1|o1
     .exact eJ (h.inj j i b o1.2 (by rw[z];exact ha))
     .obtain⟨w,hw⟩:=h.o0 b o1.2.2
      rw[z,h.new i a ha]at hw
      cases hw
    exact⟨b,rfl,e2,c'.upd n9 oa hH hu⟩
   |false=>exact bA.upd q2 oa hH hu
 .by_cases eJ:j=i
  .subst eJ
   unfold Py.put at hj
   by_cases hl:j<ρ.length
   .rw[Xo hl]at hj
    cases hj
    exact⟨a,hs,.inl ⟨hz,ha⟩⟩
   .rw[Xr (by rw[XD];lia)]at hj;cases hj
  .unfold Py.put at hj
   rw[Xq (XY eJ)]at hj
   exact h.own j d' hj
def SX.wr(h:SX K H₀ ab Z kv kd ow σ H ρ)(ha:ow i=some a)(hs:σ[i]?=some (some (.ref a)))(hH:H a=some (.lst vs))(r:av K (Os ab ow) H HL LR):
  SX K H₀ ab Z kv kd ow σ (L2.upd H a (.lst HL)) (Py.put ρ i true (.lst LR)):=h.SI (u':= .lst HL) ha hs hH trivial trivial rfl (.inl ⟨HL,LR,rfl,ah,r.upd (.inr ⟨i,ha⟩) hH trivial⟩)
def SX.freeze(h:SX K H₀ ab Z kv kd ow σ H ρ)(hd:ρ[i]?=some (some (true,.lst ds))):SX K H₀ ab Z kv kd (oB ow i none) σ H (ρ.set i (some (false,.lst ds))):=by
 refine aq λnO=>aa (h.own i _ hd) λa o2 o1=>?_
 have o1:ow i=some a:=o1.elim (λz=>z.2) λz=>nomatch z.1
 refine aa (h.ex.jI i true _ hd) λw q1 q2=>bJ q2 λa' e1 e3 c=>aa c.lst λvs e4 e5=>?_
 rw[q1]at o2
 cases o2
 cases e1
 refine nO ?_
 have e6:¬Os ab (oB ow i none) a:=λz=>by
  rcases z with z|⟨j,z⟩
  .obtain⟨o,q⟩:=h.o0 a z
   rw[h.new i a o1]at q;cases q
  .by_cases hj:j=i
   .rw[hj,aO]at z;cases z
   .rw[aT hj]at z;exact hj (h.inj j i a z o1)
 have WI:σ=σ.set i (some (.ref a)):=by
  apply Yj
  intro j
  by_cases hj:i=j
  .subst hj
   have hl:i<σ.length:=(Xf.mp q1).1
   rw[Xo hl,q1]
  .rw[Xq hj]
 have sub:∀b,Os ab (oB ow i none) b->Os ab ow b:=λb z=>by
  rcases z with z|⟨j,z⟩
  .exact .inl z
  .by_cases hj:j=i
   .rw[hj,aO]at z;cases z
   .rw[aT hj]at z;exact .inr ⟨j,z⟩
 have r:bA K (Os ab (oB ow i none)) H (.ref a) (.lst ds):= .lst (.inl e4) e6 (e5.weak sub)
 refine⟨⟨λb hb=>h.ex.live b (sub b hb),λj o d' hj=>?_⟩,λj d' hj=>?_,λj k b hj hk=>?_,λj b hj=>?_,h.same,h.kp.weak sub,h.o0,by rw[XD];exact h.len⟩
 .by_cases eJ:j=i
  .subst eJ
   have hl:j<ρ.length:=(Xf.mp hd).1
   rw[Xo hl]at hj
   cases hj
   exact⟨.ref a,q1,r⟩
  .rw[Xq (XY eJ)]at hj
   refine aa (h.ex.jI j o d' hj) λw p1 p2=>⟨w,p1,?_⟩
   cases o with
   |true=>
    refine aq λnO=>bJ p2 λb f1 f2 c'=>aa (h.own j d' hj) λb' g2 g1=>?_
    rw[p1]at g2
    cases g2
    cases f1
    exact nO<|⟨b,rfl,g1.elim (λg1=> .inr ⟨j,by rw[aT eJ];exact g1.2⟩) (λg1=> .inl g1.2.2),c'.weak sub⟩
   |false=>exact bA.weak p2 sub
 .by_cases eJ:j=i
  .subst eJ
   have hl:j<ρ.length:=(Xf.mp hd).1
   rw[Xo hl]at hj
   cases hj
  .rw[Xq (XY eJ)]at hj
   exact aa (h.own j d' hj) λb g2 g1=>⟨b,g2,g1.imp (λg1=>⟨g1.1,by rw[aT eJ];exact g1.2⟩) id⟩
 .by_cases h1:j=i
  .rw[h1,aO]at hj;cases hj
  .by_cases h2:k=i
   .rw[h2,aO]at hk;cases hk
   .rw[aT h1]at hj;rw[aT h2]at hk;exact h.inj j k b hj hk
 .by_cases h1:j=i
  .rw[h1,aO]at hj;cases hj
  .rw[aT h1]at hj;exact h.new j b hj
def SX.keep(h:SX K H₀ ab Z kv kd ow σ H ρ)(r:bA K (Os ab ow) H v d):SX K H₀ ab Z (v::kv) (d::kd) ow σ H ρ:=⟨h.ex,h.own,h.inj,h.new,h.same,.cons r h.kp,h.o0,h.len⟩
def SX.drop(h:SX K H₀ ab Z (v::kv) (d::kd) ow σ H ρ):SX K H₀ ab Z kv kd ow σ H ρ:=⟨h.ex,h.own,h.inj,h.new,h.same,by cases h.kp with|cons _ t=>exact t,h.o0,h.len⟩
def SX.kept(h:SX K H₀ ab Z (v::kv) (d::kd) ow σ H ρ):bA K (Os ab ow) H v d:=by cases h.kp with|cons r _=>exact r
end
def post(K:PySem.W.Frag)(H₀:Hp)(ab Z:Addr->Prop)(kv:List V)(kd:List D)(D':xQ):jH->Prop
 | .next ρ=>∀ow σ H,SX K H₀ ab Z kv kd ow σ H ρ->D'.nx σ H
 | .brk ρ=>∀ow σ H,SX K H₀ ab Z kv kd ow σ H ρ->D'.bk σ H
 | .cont ρ=>∀ow σ H,SX K H₀ ab Z kv kd ow σ H ρ->D'.ct σ H
 | .ret d=>∀v H,af H₀ H->bA K ab H v d->D'.rt v H
def tC(K:PySem.W.Frag)(f:Env->Option jH):TS:=λD' σ H=>∃H₀ ab Z kv kd ow ρ out,SX K H₀ ab Z kv kd ow σ H ρ/\f ρ=some out/\post K H₀ ab Z kv kd D' out
def _root_.L2.PS.weak{X:Cx}{st:Stmt}{t t':TS}(h:PS X st t)(w:∀D' σ H,t' D' σ H->t D' σ H):PS X st t':=λU s σ H D' I q=>h U s σ H D' I (w D' σ H q)
def _root_.L2.kO.weak{X:Cx}{st:List Stmt}{t t':TS}(h:kO X st t)(w:∀D' σ H,t' D' σ H->t D' σ H):kO X st t':=λU s σ H D' I q=>h U s σ H D' I (w D' σ H q)
noncomputable def fO:Expr->Bool
 | .ListComp _ _ _ _=>true
 | .SetComp _ _ _ _=>true
 | .DictComp _ _ _ _ _=>true
 |_=>false
noncomputable def Ve:E->Bool
 | .comp _ _ _ _ _=>true
 |_=>false
noncomputable def nF(sc:Scope)(x:Str):Bool:=match sc.names.lookup x with|some .local =>true|some .cell =>true|_=>false
noncomputable def zS:Expr->Bool
 | .Tuple _ _ _=>false
 |_=>true
noncomputable def c_(N:List Str)(sc:Scope):List Nat->List Expr->Bool
 |[],es=>es.isEmpty
 |i::is,es=>match es with
  |e::es=>(match e with| .Name x _=>decide (N[i]?=some x)&&nF sc x|_=>false)&&c_ N sc is es
  |[]=>false
noncomputable def HM(N:List Str)(sc:Scope)(is:List Nat)(tg:Nat)(e:Expr):Bool:=
 match e with
 | .Name _ _=>decide (tg=0)&&c_ N sc is [e]&&decide (is.length=1)
 | .Tuple es _ _=>decide (tg=is.length)&&!es.isEmpty&&c_ N sc is es
 |_=>false
noncomputable def HN(G:GT)(it:E)(N:List Str)(sc:Scope)(qp iter:Expr):Bool:=
 match it with
 | .sv a=>match qp with
  | .Tuple _ _ _=>oq iter λx a0=>decide (x="enumerate")&&iF sc x&&bM G a N sc a0&&bL a0
  |_=>false
 |it=>CY G it N sc iter
noncomputable def zT(N:List Str)(sc:Scope)(y:Nat)(e:Expr):Bool:=l4 e λe2 nm as b=>as.isEmpty&&decide (nm="pop")&&dw N sc y e2&&b
noncomputable def Dl(G:GT)(x f:Nat)(N:List Str)(sc:Scope)(e:Expr)(ok:Expr->Bool):Bool:=
 l3 e λn as=>Qt as λe1 w=>decide (G.1[f]?=some n)&&iF sc n&&w6 n&&dw N sc x e1&&ok w&&bL w
noncomputable def Mr(G:GT)(x:Nat)(fr:List Nat)(it k v:E)(N:List Str)(sc:Scope)(st:Stmt):Bool:=
 rH st λa e=>decide (N[x]?=some a)&&nF sc a&&Hy e λel gs gx=>tW el λks vs=>nE ks λko=>tX ko λke=>nE vs λve=>nE gs λg=>fM g.target λn=>g.ifs.isEmpty&&decide (g.is_async=0)&&gu g.iter&&w8 N sc gx [n] fr&&CY G it N sc g.iter&&bM G k (nD N [n] fr) (kz gx sc) ke&&bM G v (nD N [n] fr) (kz gx sc) ve
noncomputable def Qx(G:GT)(x y r f:Nat)(N:List Str)(sc:Scope)(st:Stmt):Bool:=rH st λa e=>decide (N[r]?=some a)&&nF sc a&&Dl G x f N sc e (zT N sc y)
noncomputable def E6(G:GT)(x:Nat)(p q u:E)(N:List Str)(sc:Scope)(st:Stmt):Bool:=
 om st λzU e=>nE zU λo=>rG o λo2 qe=>rG o2 λe1 pe=>dw N sc x e1&&bM G p N sc pe&&cw pe&&bM G q N sc qe&&cw qe&&bM G u N sc e&&!fO e
noncomputable def Mt(G:GT)(x y g:Nat)(w:E)(N:List Str)(sc:Scope)(st:Stmt):Bool:=
 pU st λe=>l4 e λe2 m as b=>nE as λv=>dw N sc y e2&&decide (m="extend")&&b&&bL v&&Dl G x g N sc v (bM G w N sc)
noncomputable def SJ(f g h k:Stmt->Bool)(l:List Stmt):Bool:=
 match l with
 |[]=>false
 |s1::l=>match l with
  |[]=>false
  |s2::l=>match l with
   |[]=>false
   |s3::l=>match l with
    |[]=>false
    |s4::l=>match l with
     |[]=>f s1&&g s2&&h s3&&k s4
     |_::_=>false
def HP(e:SJ f g h k l=true):∃s1 s2 s3 s4,l=[s1,s2,s3,s4]/\f s1=true/\g s2=true/\h s3=true/\k s4=true:=by
 cases l with
 |nil=>cases e
 |cons s1 l=>cases l with
  |nil=>cases e
  |cons s2 l=>cases l with
   |nil=>cases e
   |cons s3 l=>cases l with
    |nil=>cases e
    |cons s4 l=>cases l with
     |cons _ _=>cases e
     |nil=>
      change (f s1&&g s2&&h s3&&k s4)=true at e
      simp only[WX]at e
      exact⟨s1,s2,s3,s4,rfl,e.1.1.1,e.1.1.2,e.1.2,e.2⟩
noncomputable def Mu(f g h:Stmt->Bool)(l:List Stmt):Bool:=
 match l with
 |[]=>false
 |s1::l=>match l with
  |[]=>false
  |s2::l=>match l with
   |[]=>false
   |s3::l=>match l with
    |[]=>f s1&&g s2&&h s3
    |_::_=>false
def zV(e:Mu f g h l=true):∃s1 s2 s3,l=[s1,s2,s3]/\f s1=true/\g s2=true/\h s3=true:=by
 cases l with
 |nil=>cases e
 |cons s1 l=>cases l with
  |nil=>cases e
  |cons s2 l=>cases l with
   |nil=>cases e
   |cons s3 l=>cases l with
    |cons _ _=>cases e
    |nil=>
     change (f s1&&g s2&&h s3)=true at e
     simp only[WX]at e
     exact⟨s1,s2,s3,rfl,e.1.1,e.1.2,e.2⟩
noncomputable def Mv(N:List Str)(sc:Scope)(m:Nat)(f g h:Stmt->Bool)(st:Stmt):Bool:=
 match st with
 | .If em a b _=>dw N sc m em&&b.isEmpty&&Mu f g h a
 |_=>false
noncomputable def Mw(N:List Str)(sc:Scope)(y:Nat)(f g h:Stmt->Bool)(st:Stmt):Bool:=
 match st with
 | .While e2 a b _=>dw N sc y e2&&b.isEmpty&&Mu f g h a
 |_=>false
noncomputable def Mx(N:List Str)(sc:Scope)(x:Nat)(st:Stmt):Bool:=
 match st with
 | .Return o _=>match o with
  |some e=>dw N sc x e
  |none=>false
 |_=>false
def Dm{N:List Str}{sc:Scope}{m:Nat}{f g h:Stmt->Bool}{st:Stmt}(e:Mv N sc m f g h st=true):∃em s1 s2 s3 p,st= .If em [s1,s2,s3] [] p/\dw N sc m em=true/\f s1=true/\g s2=true/\h s3=true:=by
 refine aq λnO=>?_
 cases st with
 |If em a b p=>
  refine nO ?_
  change (dw N sc m em&&b.isEmpty&&Mu f g h a)=true at e
  simp only[WX]at e
  refine kC (zV e.2) λs1 s2 s3 ag q=>?_
  subst ag
  cases b with
  |nil=>exact⟨em,s1,s2,s3,p,rfl,e.1.1,q⟩
  |cons _ _=>cases e.1.2
 |_=>cases e
def Dp{N:List Str}{sc:Scope}{m:Nat}{f g h:Stmt->Bool}{st:Stmt}(e:Mw N sc m f g h st=true):∃em s1 s2 s3 p,st= .While em [s1,s2,s3] [] p/\dw N sc m em=true/\f s1=true/\g s2=true/\h s3=true:=by
 refine aq λnO=>?_
 cases st with
 |While em a b p=>
  refine nO ?_
  change (dw N sc m em&&b.isEmpty&&Mu f g h a)=true at e
  simp only[WX]at e
  refine kC (zV e.2) λs1 s2 s3 ag q=>?_
  subst ag
  cases b with
  |nil=>exact⟨em,s1,s2,s3,p,rfl,e.1.1,q⟩
  |cons _ _=>cases e.1.2
 |_=>cases e
def Dq{N:List Str}{sc:Scope}{x:Nat}{st:Stmt}(e:Mx N sc x st=true):∃e1 p,st= .Return (some e1) p/\dw N sc x e1=true:=by
 refine aq λnO=>?_
 cases st with
 |Return o p=>
  refine nO<|aq λnO=>?_
  cases o with
  |none=>cases e
  |some e1=>
   exact nO<|⟨e1,p,rfl,e⟩
 |_=>cases e
mutual
noncomputable def HQ(G:GT):C->List Str->Scope->Stmt->Bool
 | .asg i e,N,sc,st=>rH st λx v=>decide (N[i]?=some x)&&nF sc x&&bM G e N sc v&&!fO v
 | .bK i e,N,sc,st=>rH st λx v=>decide (N[i]?=some x)&&nF sc x&&bM G e N sc v&&fresh e&&(!fO v||Ve e)
 | .qG is e,N,sc,st=>om st λzU v=>nE zU λtg=>match tg with
  | .Tuple es _ _=>!is.isEmpty&&c_ N sc is es&&bM G e N sc v&&zS v
  |_=>false
 | .fY i ix e,N,sc,st=>om st λzU v=>nE zU λo=>rG o λn k=>fM n λx=>decide (N[i]?=some x)&&pT sc x&&w6 x&&bM G ix N sc k&&cw k&&bM G e N sc v
 | .app i e,N,sc,st=>pU st λex=>l4 ex λo m as b=>nE as λv=>fM o λx=>decide (N[i]?=some x)&&pT sc x&&w6 x&&decide (m="append")&&b&&bM G e N sc v&&bL v
 | .ret e,N,sc,st=>match st with
  | .Return o _=>match o with
   |some v=>bM G e N sc v
   |none=>false
  |_=>false
 | .ifs c t u,N,sc,st=>match st with
  | .If x a b _=>bM G c N sc x&&CW c&&hJ G t N sc a&&hJ G u N sc b
  |_=>false
 | .while c b,N,sc,st=>match st with
  | .While x a o _=>o.isEmpty&&bM G c N sc x&&CW c&&hJ G b N sc a
  |_=>false
 | .for is tg it b,N,sc,st=>match st with
  | .For qp iter a o _=>o.isEmpty&&gu iter&&hJ G b N sc a&&HM N sc is tg qp&&HN G it N sc qp iter
  |_=>false
 | .pA i t es,N,sc,st=>rH st λx v=>decide (N[i]?=some x)&&nF sc x&&tW v λks vs=>nE ks λko=>tX ko λk=>nE vs λw=>decide (t≠0)&&dW G es N sc [k,w]
 | .qH i k e,N,sc,st=>om st λzU v=>nE zU λt=>rG t λo ix=>dw N sc i o&&bM G k N sc ix&&cw ix&&bM G e N sc v&&!fO v
 | .EK i j,N,sc,st=>rH st λx v=>decide (N[i]?=some x)&&nF sc x&&dw N sc j v
 | .pop i j,N,sc,st=>rH st λx v=>decide (N[i]?=some x)&&nF sc x&&zT N sc j v
 | .ext i e,N,sc,st=>pU st λex=>l4 ex λo m as b=>nE as λv=>fM o λx=>decide (N[i]?=some x)&&pT sc x&&w6 x&&decide (m="extend")&&b&&bM G e N sc v&&bL v
 |_,_,_,_=>false
noncomputable def hJ(G:GT):C->List Str->Scope->List Stmt->Bool
 | .skip,_,_,sE=>sE.isEmpty
 | .seq a b,N,sc,sE=>match sE with
  |s::r=>HQ G a N sc s&&hJ G b N sc r
  |[]=>false
 | .fst x fr it k v c1 y r f c2 m c3 p q u g w,N,sc,sE=>SJ (Mr G x fr it k v N sc) (HQ G c1 N sc) (Mw N sc y (Qx G x y r f N sc) (HQ G c2 N sc) (Mv N sc m (HQ G c3 N sc) (E6 G x p q u N sc) (Mt G x y g w N sc))) (Mx N sc x) sE
 |_,_,_,_=>false
end
def fP(h:nF sc x=true):Loc sc x:=by
 unfold nF at h
 split at h
 .rename_i e;exact .inl e
 .rename_i e;exact .inr e
 .cases h
def me(h:fO v=false):swapsWith v (some t) l env=pure false:=by
 cases v<;>first|rfl|exact absurd h Bool.noConfusion
section
variable {K:PySem.W.Frag}{H₀:Hp}{ab Z:Addr->Prop}{kv:List V}{kd:List D}{ow:Nat->Option Addr}{σ:St}{H H1:Hp}{ρ:Env}{a:Addr}{o:Obj}{u:HO}
def SX.base(h:SX K H₀ ab Z kv kd ow σ H ρ)(e:H a=some (.dH o u)):SX K (L2.upd H₀ a (.dH o u)) ab Z kv kd ow σ H ρ:=by
 refine⟨h.ex,h.own,h.inj,λi b hb=>?_,λb w hb=>?_,h.kp,λb hb=>?_,h.len⟩
 .have fJ:b≠a:=λz=>by
   refine aa (h.ex.live b (.inr ⟨i,hb⟩)) λw q1 q2=>?_
   rw[z,e]at q1
   cases q1
   exact q2
  rw[ak fJ]
  exact h.new i b hb
 .by_cases n9:b=a
  .subst n9
   rw[ah]at hb
   cases hb
   exact e
  .rw[ak n9]at hb
   exact h.same _ _ hb
 .by_cases n9:b=a
  .subst n9;exact⟨_,ah⟩
  .obtain⟨w,q⟩:=h.o0 b hb
   exact⟨w,by rw[ak n9];exact q⟩
def oC(s0:H₀ a=none\/H₀ a=some (.dH o u)):af H₀ (L2.upd H₀ a (.dH o u)):=λb w hb=>by
 by_cases n9:b=a
 .subst n9
  rcases s0 with z|z
  .rw[z]at hb;cases hb
  .rw[z]at hb;cases hb;exact ah
 .rw[ak n9];exact hb
def SX.HR(h:SX K (L2.upd H₀ a (.dH o u)) ab Z kv kd ow σ H ρ)(s0:H₀ a=none\/H₀ a=some (.dH o u))(o0:∀b,ab b->∃w,H₀ b=some w):SX K H₀ ab Z kv kd ow σ H ρ:=by
 refine⟨h.ex,h.own,h.inj,λi b hb=>?_,(oC s0).trans h.same,h.kp,o0,h.len⟩
 have:=h.new i b hb
 by_cases n9:b=a
 .subst n9;rw[ah]at this;cases this
 .rw[ak n9]at this;exact this
end
def Dr(h1:ks.length=vs.length)(h2:ks.length=us.length)(e:gb 0 ks vs=gb 0 ks us):vs=us:=by
 rw[jo,jo]at e
 have e:=HO.dK.inj e
 have:=congrArg (List.map Prod.snd) e
 rwa [aah (by rw[WZ];lia),aah (by rw[WZ];lia)]at this
section
variable {X:Cx}{c e:Expr}{st:Stmt}{bO:List Stmt}{pos px:Pos}{x:Str}{i:Nat}
def HS:kO X [] (tC X.K λρ=>some (.next ρ)):=iO.weak λD' σ H zz=>by
 refine nI zz λH₀ ab Z kv kd ow ρ out hx hd k=>?_
 cases hd
 exact k ow σ H hx
def My(h1:PS X st (tC X.K f))(h2:kO X bO (tC X.K g)):kO X (st::bO) (tC X.K λρ=>(f ρ).bind λo=>match o with
  | .next ρ'=>g ρ'
  |o=>some o):=
 (cf h1 h2).weak λD' σ H zz=>by
  refine nI zz λH₀ ab Z kv kd ow ρ out hx hd k=>aa (bind_some hd) λo e1 hd=>⟨H₀,ab,Z,kv,kd,ow,ρ,o,hx,e1,?_⟩
  cases o with
  |next ρ'=>exact λow σ H h=>⟨H₀,ab,Z,kv,kd,ow,ρ',out,h,hd,k⟩
  |brk ρ'=>cases hd;exact k
  |cont ρ'=>cases hd;exact k
  |ret d=>cases hd;exact k
def Mz(hN:X.N.Nodup)(hi:X.N[i]?=some x)(hx:Loc X.env.scope x)(hf:X.fn x=true)(he:PE X e (tV X.K false f))(hs:swapsWith e (some (.Name x px)) pos.line X.env=pure false):
  PS X (.Assign [.Name x px] e pos) (tC X.K λρ=>(f ρ).map λd=> .next (put ρ i false d)):=
 (iw hN hi hx he hs (.inl hf)).weak λD' σ H zz=>by
  refine nI zz λH₀ ab Z kv kd ow ρ out hx hd k=>aa (map_some hd) λd e1 ag=>?_
  subst ag
  refine⟨Os ab ow,ρ,d,hx.ex,e1,λv H1 s1 r1=>?_⟩
  exact k (oB ow i none) _ _ ((hx.mono s1).put r1.own i)
def zW{K:PySem.W.Frag}{H₀ H H1:Hp}{ab Z:Addr->Prop}{kv:List V}{kd:List D}{ow:Nat->Option Addr}{σ:St}{ρ:Env}(h:SX K H₀ ab Z kv kd ow σ H ρ){p:Addr}{vs:List V}{ds:List D}(s:af H H1)(hp:H1 p=none)(r:av K (Os ab ow) H1 vs ds)(i:Nat):
  ∃mf,SX K H₀ ab Z kv kd mf (σ.set i (some (.ref p))) (L2.upd H1 p (.lst vs)) (Py.put ρ i true (.lst ds)):=by
 by_cases hi:i<ρ.length
 .exact⟨_,h.F_ s hp r i hi⟩
 .have e1:σ.set i (some (.ref p))=σ:=YQ (by rw[<-h.len];lia)
  have e2:Py.put ρ i true (.lst ds)=ρ:=YQ (by lia)
  rw[e1,e2]
  exact⟨ow,h.mono (s.trans (af.upd hp))⟩
def oD{f:Env->Option D}{te:TE}(hP:PS X st (mY te (cO i)))(ht:∀σ H Q,tF X.K (λρ=>(f ρ).bind ig) σ H Q->te σ H Q):
  PS X st (tC X.K λρ=>(f ρ).bind λd=>match d with
   | .lst xs=>some (.next (put ρ i true (.lst xs)))
   |_=>none):=
 hP.weak λD' σ H zz=>by
  refine nI zz λH₀ ab Z kv kd ow ρ out hx hd k=>aa (bind_some hd) λd e1 hd=>?_
  cases d with
  |lst ds=>
   cases hd
   refine ht σ H _ ⟨Os ab ow,ρ,ds,hx.ex,by show(f ρ).bind ig=_;rw[e1];rfl,λp vs H1 s1 hp r=>?_⟩
   obtain⟨mf,h'⟩:=zW hx s1 hp r i
   exact k mf _ _ h'
  |_=>cases hd
def HU(hi:X.N[i]?=some x)(hv:v8 X.env.scope x)(Ds:(x==("__debug__":Str))=false)(m7:(x==("__classdict__":Str))=false)(hk:PE X ke (tV X.K false fi))(iy:cw ke=true)(he:PE X e (tV X.K false f)):
  PS X (.Assign [.Subscript (.Name x px) ke o] e pos) (tC X.K λρ=>(f ρ).bind λd=>((fi ρ).bind yu).bind λk=>match ρ[i]? with
   |some (some (true,.lst xs))=>(bR xs.length k).map λj=> .next (put ρ i true (.lst (xs.set j d)))
   |_=>none):=
 (xU he (FZ (bQ hi hv Ds m7) hk yg (by intro v;cases ke<;>first|rfl|exact absurd iy W2)) (by cases e<;>rfl) (by cases e<;>rfl) rfl).weak λD' σ H zz=>by
  refine aq λnO=>nI zz λH₀ ab Z kv kd ow ρ out hx hd k=>aa (bind_some hd) λd e1 hd=>aa (bind_some hd) λkk e2 hd=>aa (bind_some e2) λdk e3 e4=>nO ?_
  have Vf:dk= .int kk:=by cases dk<;>first|(cases e4;rfl)|cases e4
  subst Vf
  split at hd
  .rename_i xs E7
   refine aa (map_some hd) λj e5 ag=>?_
   subst ag
   refine⟨Os ab ow,ρ,d,hx.ex,e1,λv H1 s1 r1=>?_⟩
   refine aa (hx.own i _ E7) λa o2 o1=>?_
   have o1:ow i=some a:=o1.elim (λz=>z.2) λz=>nomatch z.1
   refine⟨.ref a,o2,Os ab ow,ρ,.int kk,(hx.mono s1).ex,e3,λw H2 s2 r2=>?_⟩
   have JE:=(hx.mono s1).mono s2
   refine aq λnO=>aa (JE.ex.jI i true _ E7) λw' q1 q2=>bJ q2 λa' e6 e8 c0=>aa c0.lst λvs e9 vh=>?_
   rw[o2]at q1
   cases q1
   cases e6
   refine nO ?_
   refine⟨a,vs,kk,j,rfl,r2.int,e9,?_,?_⟩
   .rw[<-lX,vh.length];exact e5
   .exact k ow _ _ (JE.wr o1 o2 e9 (vh.set (r1.own.mono s2) j))
  .cases hd
def MA(he:PE X e (tV X.K false f)):PS X (.Return (some e) pos) (tC X.K λρ=>(f ρ).map .ret):=
 (sG he).weak λD' σ H zz=>by
  refine nI zz λH₀ ab Z kv kd ow ρ out hx hd k=>aa (map_some hd) λd e1 ag=>?_
  subst ag
  refine⟨Os ab ow,ρ,d,hx.ex,e1,λv H1 s1 r1=>?_⟩
  exact k v H1 (hx.same.trans s1) (r1.own.weak λa z=> .inl z)
def HV(hi:X.N[i]?=some x)(hv:v8 X.env.scope x)(Ds:(x==("__debug__":Str))=false)(m7:(x==("__classdict__":Str))=false):PS X (.Return (some (.Name x px)) pos) (tC X.K λρ=>(rd true ρ i).map .ret):=
 (sG (bQ hi hv Ds m7)).weak λD' σ H zz=>by
  refine nI zz λH₀ ab Z kv kd ow ρ out hx hd k=>aa (map_some hd) λd e1 ag=>?_
  subst ag
  have e1:rd true ρ i=some d:=e1
  unfold rd at e1
  split at e1
  .rename_i o d' E7
   refine aa (hx.ex.jI i o d' E7) λw q1 q2=>?_
   cases o with
   |true=>
    refine bJ q2 λa e6 e8 c0=>aa (hx.own i _ E7) λa' o2 o1=>?_
    rw[o2]at q1
    cases q1
    cases e6
    rcases c0 with⟨vs,ds,rfl,e9,vh⟩|⟨t,ks,vs,ds,rfl,_⟩|⟨rfl,_⟩
    .cases e1
     have o1:ow i=some a:=o1.elim (λz=>z.2) λz=>nomatch z.1
     refine⟨_,o2,k _ H hx.same (.lst (.inl e9) (λz=>?_) (vh.weak λa z=> .inl z))⟩
     obtain⟨u,hu⟩:=hx.o0 a z
     rw[hx.new i a o1]at hu
     cases hu
    .cases e1
    .cases e1
   |false=>
    cases e1
    exact⟨w,q1,k _ H hx.same (bA.weak q2 λa z=> .inl z)⟩
  .cases e1
def Qy{a b:List Stmt}{f:Env->Option D}{g h:Env->Option jH}(hc:PT X c (tB X.K λρ=>(f ρ).bind eN))(ha:kO X a (tC X.K g))(hb:kO X b (tC X.K h)):
  PS X (.If c a b pos) (tC X.K λρ=>((f ρ).bind eN).bind λk=>if k then g ρ else h ρ):=
 (En hc ha hb).weak λD' σ H zz=>by
  refine nI zz λH₀ ab Z kv kd ow ρ out hx hd k=>aa (bind_some hd) λkk e1 hd=>⟨Os ab ow,ρ,kk,hx.ex,e1,λH1 s1=>?_⟩
  cases kk with
  |true=>exact lK ⟨H₀,ab,Z,kv,kd,ow,ρ,out,hx.mono s1,hd,k⟩
  |false=>exact m_ ⟨H₀,ab,Z,kv,kd,ow,ρ,out,hx.mono s1,hd,k⟩
def Dt{body:List Stmt}{f:Env->Option D}{b:Env->Option jH}(hp:PassesOwn (model X.prog X.w) X.A X.env X.xe)(hc:PT X c (tB X.K λρ=>(f ρ).bind eN))(hb:kO X body (tC X.K b))(n:Nat):
  PS X (.While c body [] pos) (tC X.K λρ=>iZ (λρ=>(f ρ).bind eN) b n ρ):=
 (qy hp hc hb).weak λD' σ H zz=>by
  refine nI zz λH₀ ab Z kv kd ow ρ out hx hd k=>⟨λm σ H=>∃ow ρ,SX X.K H₀ ab Z kv kd ow σ H ρ/\iZ (λρ=>(f ρ).bind eN) b m ρ=some out,⟨n,ow,ρ,hx,hd⟩,?_⟩
  rintro m σ H ⟨ow,ρ,hx,hd⟩
  cases m with
  |zero=>cases hd
  |succ m=>
   rw[iZ]at hd
   refine aa (bind_some hd) λkk e1 hd=>⟨Os ab ow,ρ,kk,hx.ex,e1,λH1 s1=>?_⟩
   cases kk with
   |false=>
    rw[Xs W2]at hd
    cases hd
    exact m_ (k ow σ H1 (hx.mono s1))
   |true=>
    rw[Xl rfl]at hd
    refine aa (bind_some hd) λo e2 hd=>lK ⟨λbY H'=>∃ow ρ,SX X.K H₀ ab Z kv kd ow bY H' ρ/\iZ (λρ=>(f ρ).bind eN) b m ρ=some out,λbY H' h=>⟨m,YH m,h⟩,H₀,ab,Z,kv,kd,ow,ρ,o,hx.mono s1,e2,?_⟩
    cases o with
    |next ρ'=>exact λow σ H h=>⟨ow,ρ',h,hd⟩
    |cont ρ'=>exact λow σ H h=>⟨ow,ρ',h,hd⟩
    |brk ρ'=>cases hd;exact λow σ H h=>k ow σ H h
    |ret d=>cases hd;exact λv H s r=>k v H s r
def HW(K:PySem.W.Frag)(g:TG)(setT:Env->D->Option Env):Prop:=
 ∀(H₀:Hp) (ab Z:Addr->Prop) (kv:List V) (kd:List D) (ow:Nat->Option Addr) (σ:St) (H:Hp) (ρ ρ':Env) (v:V) (d:D) (Q:St->Hp->Prop),SX K H₀ ab Z kv kd ow σ H ρ->bA K (Os ab ow) H v d->setT ρ d=some ρ'->
  (∀mf bY,SX K H₀ ab Z kv kd mf bY H ρ'->Q bY H)->g v σ H Q
def Du{K:PySem.W.Frag}{j:Nat}:HW K (cO j) (λρ d=>some (put ρ j false d)):=λH₀ ab Z kv kd ow σ H ρ ρ' v d Q hx r e q=>by
 cases e
 exact q _ _ (hx.put r j)
def p5:List Nat->FW
 |[]=>Kf
 |i::is=>Eo (cO i) (p5 is)
theorem j4(hN:X.N.Nodup)(hf:∀x,X.fn x=true):∀{is:List Nat}{es:List Expr},c_ X.N X.env.scope is es=true->Jm X es (p5 is)/\(assignEach es X.env).length =is.length/\(assignEach es X.env).findIdx? (·.1)=none
 |[],es,h=>by
  cases es with
  |nil=>exact⟨BE,rfl,rfl⟩
  |cons _ _=>cases h
 |i::is,es,h=>by
  cases es with
  |nil=>cases h
  |cons e es=>
   unfold c_ at h
   rw[WX]at h
   obtain⟨h1,h2⟩:=h
   refine cN (j4 hN hf h2) λq1 q2 q3=>?_
   cases e with
   |Name x p=>
    simp only[WX,decide_eq_true_eq]at h1
    refine⟨xT (kP hN h1.1 (fP h1.2) (.inl (hf _))) q1 rfl,?_,?_⟩
    .show(assignEach es X.env).length+1=_
     rw[q2];rfl
    .show List.findIdx? _ ((false,_)::assignEach es X.env)=none
     rw[List.findIdx?_cons]
     simp[q3]
   |_=>cases h1
theorem rK{K:PySem.W.Frag}{H₀:Hp}{ab Z:Addr->Prop}{kv:List V}{kd:List D}:∀{is:List Nat}{xs:List V}{ys:List D}{ow:Nat->Option Addr}{σ:St}{H:Hp}{ρ ρ':Env}{Q:St->Hp->Prop},av K (Os ab ow) H xs ys->SX K H₀ ab Z kv kd ow σ H ρ->cz ρ is ys=some ρ'->
  (∀mf bY,SX K H₀ ab Z kv kd mf bY H ρ'->Q bY H)->p5 is xs σ H Q
 |[],xs,ys,ow,σ,H,ρ,ρ',Q,r,hx,e,q=>by
  cases ys with
  |nil=>cases e;cases r;exact⟨rfl,q _ _ hx⟩
  |cons _ _=>cases e
 |i::is,xs,ys,ow,σ,H,ρ,ρ',Q,r,hx,e,q=>by
  cases ys with
  |nil=>cases e
  |cons d ds=>
   cases r with
   |cons r1 r2=>
    have sub:∀a,Os ab (oB ow i none) a->Os ab ow a:=λa z=>by
     rcases z with z|⟨j,z⟩
     .exact .inl z
     .by_cases hj:j=i
      .rw[hj,aO]at z;cases z
      .rw[aT hj]at z;exact .inr ⟨j,z⟩
    exact⟨_,_,rfl,rK (r2.weak sub) (hx.put r1 i) e q⟩
def zX{K:PySem.W.Frag}{is:List Nat}(h:0<is.length):HW K (K3 K is.length (p5 is)) (λρ d=>(aE is.length d).bind (cz ρ is)):=λH₀ ab Z kv kd ow σ H ρ ρ' v d Q hx r e q=>by
 refine aa (bind_some e) λys e1 e2=>?_
 obtain⟨n,hn⟩:∃n,is.length=n+1:=⟨is.length-1,by lia⟩
 rw[hn]at e1⊢
 cases d with
 |tup zs=>
  simp only[aE]at e1
  split at e1
  .rename_i hz
   cases e1
   refine bu r.jl λa xs ag q1 p1=>?_
   subst ag
   exact⟨a,xs,rfl,.inr q1,by rw[p1.length];exact hz,rK p1 hx e2 q⟩
  .cases e1
 |_=>cases e1
def HX{es:List Expr}{k0:Nat}{tp:Pos}{is:List Nat}{f:Env->Option D}(hc:X.calm=true)(hN:X.N.Nodup)(hf:∀x,X.fn x=true)(hn:c_ X.N X.env.scope is es=true)(he:PE X e (tV X.K false f))(ht:zS e=true)(hp:0<is.length):
  PS X (.Assign [.Tuple es k0 tp] e pos) (tC X.K λρ=>(f ρ).bind λd=>((aE is.length d).bind (cz ρ is)).map .next):=by
 refine cN (j4 hN hf hn) λq1 q2 q3=>?_
 refine(xU he (yF hc q1 q2 q3) (by cases e<;>rfl) (by cases e<;>first|rfl|exact absurd ht W2) rfl).weak λD' σ H zz=>aq λnO=>nI zz λH₀ ab Z kv kd ow ρ out hx hd k=>?_
 refine aa (bind_some hd) λd e1 hd=>aa (map_some hd) λρ' e2 zr=>nO ?_
 subst zr
 exact⟨Os ab ow,ρ,d,hx.ex,e1,λv H1 s1 r1=>zX hp H₀ ab Z kv kd ow σ H1 ρ ρ' v d _ (hx.mono s1) r1.own e2 λmf bY h=>k mf bY H1 h⟩
def E8(hp:PassesOwn (model X.prog X.w) X.A X.env X.xe)(hc:X.calm=true)(hg:PG X qp g)(hS:HW X.K g setT)
  (hI:PI X qp iter (tI X.K false fi)) (hb:kO X body (tC X.K b)) (hs:∀x,foldedSetIterable iter X.env x=pure x):
  PS X (.For qp iter body [] pos) (tC X.K λρ=>(fi ρ).bind λxs=>aM (λy ρ=>(setT ρ y).bind b) xs ρ):=
 (F1 hp hc hI hg hb hs).weak λD' σ H zz=>by
  refine nI zz λH₀ ab Z kv kd ow ρ out hx hd k=>aa (bind_some hd) λxs e1 hd=>⟨Os ab ow,ρ,xs,hx.ex,e1,λJ f9 H1 s1 zw rE=>?_⟩
  have rF:=hx.mono s1
  obtain⟨bI,E9,E_,sm,y8,hk,EH⟩:∃bI E9 E_,af H₀ bI/\SX X.K bI ab Z E9 E_ ow σ H1 ρ/\(∀ow σ H ρ,SX X.K bI ab Z E9 E_ ow σ H ρ->SX X.K H₀ ab Z kv kd ow σ H ρ)/\(∀ow σ H ρ,SX X.K bI ab Z E9 E_ ow σ H ρ->fm X.K (Os ab ow) H f9):=by
   rcases f9 with _|⟨_|_|⟨o,ks,vs⟩,v,ds⟩
   .exact⟨H₀,kv,kd,af.refl _,rF,λ_ _ _ _ h=>h,λ_ _ _ _ _=>trivial⟩
   .exact⟨H₀,v::kv,.tup ds::kd,af.refl _,rF.keep (bS.own rE),λ_ _ _ _ h=>h.drop,λ_ _ _ _ h=>h.kept.jl⟩
   .exact⟨H₀,v::kv,.lst ds::kd,af.refl _,rF.keep (bS.own rE),λ_ _ _ _ h=>h.drop,λ_ _ _ _ h=>h.kept.lst_inv⟩
   .refine Ji rE λa ag g1 g2 g3 g4=>?_
    try clear rE
    subst ag
    have s0:H₀ a=none\/H₀ a=some (.dH o (gb 0 ks vs)):=by
     cases z:H₀ a with
     |none=>exact .inl rfl
     |some w=>have:=rF.same _ _ z;rw[g1]at this;cases this;exact .inr rfl
    have o0:=hx.o0
    refine⟨_,.ref a::kv,.bP 0 ks ds::kd,oC s0,(rF.base g1).keep (.bP g1 g2 g3 g4),λ_ _ _ _ h=>h.drop.HR s0 o0,λ_ _ H' _ h=>?_⟩
    have e:=h.same _ _ (ah (H:=H₀) (a:=a))
    have r:=h.kept
    cases r with
    |bP f1 f2 f3 f4=>
     rw[e]at f1
     have Vg:=HO.dH.inj (Xn f1)
     rw[<-Dr g2 f2 Vg.2]at f4
     exact⟨a,rfl,e,g2,g3,f4⟩
  refine⟨λi m σ H=>m=xs.length-i/\i<=xs.length/\∃ow ρ,SX X.K bI ab Z E9 E_ ow σ H ρ/\aM (λy ρ=>(setT ρ y).bind b) (xs.drop i) ρ=some out,⟨xs.length,rfl,Ye _,ow,ρ,y8,hd⟩,?_⟩
  rintro t m σ H ⟨rfl,hi,ow,ρ,hx,hd⟩
  refine cN (zw _ H (EH _ _ _ _ hx)) λgo xV stop=>?_
  by_cases bZ:t<xs.length
  .refine .inr ⟨go t bZ,λσ H=>∃ow ρ,SX X.K bI ab Z E9 E_ ow σ H ρ/\aM (λy ρ=>(setT ρ y).bind b) (xs.drop (t+1)) ρ=some out,λbY H' h=>⟨xs.length-(t+1),by lia,rfl,bZ,h⟩,λx H3 hy=>?_⟩
   obtain⟨s3,rx⟩:=xV t x H3 xs[t] hy (by simp[bZ])
   rw[XR bZ,aM]at hd
   refine aa (bind_some hd) λo e2 hd=>aa (bind_some e2) λxJ e2 e3=>hS bI ab Z E9 E_ ow σ H3 ρ xJ x xs[t] _ (hx.mono s3) rx e2 λmf bY y8=>⟨bI,ab,Z,E9,E_,mf,xJ,o,y8,e3,?_⟩
   cases o with
   |next ρ'=>exact λow σ H h=>⟨ow,ρ',h,hd⟩
   |cont ρ'=>exact λow σ H h=>⟨ow,ρ',h,hd⟩
   |brk ρ'=>cases hd;exact λow σ H h=>k ow σ H (hk _ _ _ _ h)
   |ret d=>cases hd;exact λv H s r=>k v H (sm.trans s) r
  .have e:t=xs.length:=by lia
   subst e
   rw[aai,aM]at hd
   cases hd
   exact .inl ⟨stop,k ow σ H (hk _ _ _ _ hx)⟩
def zY(h:PS X st (tC X.K g)):PS X st (tC X.K λρ=>g (dP it ρ)):=
 h.weak λD' σ H zz=>by
  refine nI zz λH₀ ab Z kv kd ow ρ out hx hd k=>?_
  have key:∃mf,SX X.K H₀ ab Z kv kd mf σ H (dP it ρ):=by
   have one:∀i:Nat,∃mf,SX X.K H₀ ab Z kv kd mf σ H (match ρ[i]? with
     |some (some (true,D.lst xs))=>ρ.set i (some (false,D.lst xs))
     |_=>ρ):=λi=>by
    split
    .rename_i d hd;exact⟨_,hx.freeze hd⟩
    .exact⟨ow,hx⟩
   unfold dP
   split
   .exact one _
   .exact one _
   .exact⟨ow,hx⟩
  obtain⟨mf,h'⟩:=key
  exact⟨H₀,ab,Z,kv,kd,mf,_,out,h',hd,k⟩
end
def Dv(h:yv ρ i=some d):ρ[i]?=some (some (true,.bP d.1 d.2.1 d.2.2))/\d.1≠2:=by
 unfold yv at h
 split at h
 .rename_i t ks vs e
  split at h
  .cases h
  .rename_i ht;cases h;exact⟨e,ht⟩
 .cases h
def kY(h:gY ρ i=some xs):ρ[i]?=some (some (true,.lst xs)):=by
 unfold gY at h
 split at h
 .rename_i xs e;cases h;exact e
 .cases h
section
variable {K:PySem.W.Frag}{H₀:Hp}{ab Z:Addr->Prop}{kv:List V}{kd:List D}{ow:Nat->Option Addr}{σ:St}{H H1:Hp}{ρ:Env}
def SX.Qz(hx:SX K H₀ ab Z kv kd ow σ H ρ)(h:yv ρ i=some d):∃a vs,ow i=some a/\σ[i]?=some (some (.ref a))/\d.1≠2/\H a=some (gb d.1 d.2.1 vs)/\d.2.1.length=vs.length/\lV d.1 d.2.1/\av K (Os ab ow) H vs d.2.2:=by
 refine aq λnO=>?_
 obtain⟨e,h2⟩:=Dv h
 have hp:lN (.bP d.1 d.2.1 d.2.2)=false:=by show(d.1==2)=false;simp[h2]
 refine aa (hx.own i _ e) λa o2 o1=>?_
 have o1:ow i=some a:=o1.elim (λz=>z.2) λz=>by rw[hp]at z;exact nomatch z.1
 refine aa (hx.ex.jI i true _ e) λw q1 q2=>bJ q2 λa' e6 e8 c=>?_
 rw[o2]at q1
 cases q1
 cases e6
 exact Bj (c.bP h2) λvs c1 c2 c3 c4=>nO<|⟨a,vs,o1,o2,h2,c1,c2,c3,c4⟩
def SX.HY(hx:SX K H₀ ab Z kv kd ow σ H ρ)(h:gY ρ i=some xs):∃a vs,ow i=some a/\σ[i]?=some (some (.ref a))/\H a=some (.lst vs)/\av K (Os ab ow) H vs xs:=by
 have e:=kY h
 refine aq λnO=>aa (hx.own i _ e) λa o2 o1=>?_
 have o1:ow i=some a:=o1.elim (λz=>z.2) λz=>nomatch z.1
 refine aa (hx.ex.jI i true _ e) λw q1 q2=>bJ q2 λa' e6 e8 c=>?_
 rw[o2]at q1
 cases q1
 cases e6
 exact aa c.lst λvs c1 c2=>nO<|⟨a,vs,o1,o2,c1,c2⟩
end
def p6[DecidableEq κ](f:List Int->κ)(hl:ks.length=vs.length)(hf:∀k∈ks,f k=f x->k=x)(hx:x∉ks):jK ((ks.map f).zip vs) (f x) v=((ks++[x]).map f).zip (vs++[v]):=by
 have e:((((ks.map f).zip vs).any λkv=>decide (kv.1=f x))=true)=False:=by
  rw[eq_iff_iff,iff_false,List.any_eq_true]
  rintro⟨p,hp,hq⟩
  have h1:=(ZJ (show(p.1,p.2)∈_ from hp)).1
  refine aa (Xd.mp h1) λk k1 k2=>?_
  have:=hf k k1 (by rw[k2];exact of_decide_eq_true hq)
  exact hx (this▸k1)
 unfold jK
 rw[Xs (by rw[e];exact id),Xy,List.zip_append (by rw[WZ];exact hl)]
 rfl
section
variable {X:Cx}{c e ke:Expr}{st:Stmt}{bO:List Stmt}{pos px o:Pos}{x:Str}{i j:Nat}{f fk:Env->Option D}
def HZ(hu:X.A.units+64<cLine)(hi:X.N[i]?=some x)(hv:v8 X.env.scope x)(Ds:(x==("__debug__":Str))=false)(m7:(x==("__classdict__":Str))=false)(hk:PE X ke (tV X.K false fk))(he:PE X e (tV X.K false f))(hs:∀t,swapsWith e (some t) pos.line X.env=pure false):
  PS X (.Assign [.Subscript (.Name x px) ke o] e pos) (tC X.K λρ=>(f ρ).bind λy=>(yv ρ i).bind λd=>((fk ρ).bind (dD d.1)).bind λx=>
   if d.2.1.length<bE/\x∉d.2.1 then some (.next (put ρ i true (.bP d.1 (d.2.1++[x]) (d.2.2++[y])))) else none):=
 (uG (by lia) (bQ hi hv Ds m7) hk he (hs _)).weak λD' σ H zz=>by
  refine aq λnO=>nI zz λH₀ ab Z kv kd ow ρ out hx hd k=>aa (bind_some hd) λy e1 hd=>aa (bind_some hd) λd e2 hd=>aa (bind_some hd) λxx e3 hd=>aa (bind_some e3) λdk e4 e5=>nO ?_
  split at hd
  .rename_i hz
   cases hd
   refine⟨Os ab ow,ρ,y,hx.ex,e1,λv H1 s1 r1=>?_⟩
   refine aq λnO=>RL ((hx.mono s1).Qz e2) λa vs o1 o2 o3 c1 c2 c3 c4=>nO ?_
   refine⟨.ref a,o2,Os ab ow,ρ,dk,(hx.mono s1).ex,e4,λw H2 s2 r2=>?_⟩
   have JE:=(hx.mono s1).mono s2
   have Br:=s2 _ _ c1
   have a_:vs.length<sizeLine:=by rw[cQ,<-c2];exact hz.1
   have QA:av X.K (Os ab ow) (L2.upd H2 a (gb d.1 (d.2.1++[xx]) (vs++[v]))) (vs++[v]) (d.2.2++[y]):=((c4.mono s2).append (.cons (r1.own.mono s2) .nil)).upd (.inr ⟨i,o1⟩) Br ky
   have QB:lV d.1 (d.2.1++[xx]):=by
    refine⟨?_,λh0 q hq=>?_⟩
    .rw[Yk]
     exact⟨c3.1,by simp,λa ha b hb e=>hz.2 (by rw[W5.mp hb]at e;exact e▸ha)⟩
    .rcases Xk.mp hq with hq|hq
     .exact c3.2 h0 q hq
     .rw[W5.mp hq]
      rcases gM r2.own e5 with⟨_,n,rfl,_⟩|⟨h1,_⟩
      .exact⟨n,rfl⟩
      .exact absurd h0 h1
   refine⟨a,_,rfl,?_,k ow _ _ (JE.SI (d0:= .bP d.1 (d.2.1++[xx]) (d.2.2++[y])) o1 o2 Br ky ky (by show(d.1==2)=false;simp[o3]) (.inr (.inl ⟨_,_,vs++[v],_,rfl,ah,by simp[c2],QB,QA⟩)))⟩
   rcases gM r2.own e5 with⟨h0,n,rfl,rfl⟩|⟨h0,b,rfl,hb⟩
   .refine .inl ⟨_,Sum.inl n,by rw[Br];unfold gb;rw[Xl h0],rfl,by rw[Zq,WZ,c2,ZU];exact a_,?_⟩
    unfold gb
    rw[Xl h0,<-p6 (λk:List Int=>(Sum.inl (k.headD 0):cU)) c2 (λq hm e=>?_) hz.2]
    .rfl
    .obtain⟨j,rfl⟩:=c3.2 h0 q hm
     have:j=n:=aab e
     rw[this]
   .refine .inr ⟨_,xx.map Sum.inl,b,by rw[Br];unfold gb;rw[Xs h0],rfl,hb,by rw[Zq,WZ,c2,ZU];exact a_,?_⟩
    unfold gb
    rw[Xs h0,<-p6 (λk:List Int=>k.map (Sum.inl:Int->cU)) c2 (λq _ e=>pZ e) hz.2]
  .cases hd
def zZ{K:PySem.W.Frag}{H₀ H H1:Hp}{ab Z:Addr->Prop}{kv:List V}{kd:List D}{ow:Nat->Option Addr}{σ:St}{ρ:Env}(h:SX K H₀ ab Z kv kd ow σ H ρ){p:Addr}{t:Nat}{ks:List (List Int)}{vs:List V}{ds:List D}(s:af H H1)(hp:H1 p=none)(r:av K (Os ab ow) H1 vs ds)(h2:t≠2)(hl:ks.length=vs.length)(hk:lV t ks)(i:Nat):
  ∃mf,SX K H₀ ab Z kv kd mf (σ.set i (some (.ref p))) (L2.upd H1 p (gb t ks vs)) (Py.put ρ i true (.bP t ks ds)):=by
 by_cases hi:i<ρ.length
 .exact⟨_,h.Mq (u:=gb t ks vs) s hp ky i hi (by show(t==2)=false;simp[h2]) (.inr (.inl ⟨t,ks,vs,ds,rfl,ah,hl,hk,md hp r⟩))⟩
 .have e1:σ.set i (some (.ref p))=σ:=YQ (by rw[<-h.len];lia)
  have e2:Py.put ρ i true (.bP t ks ds)=ρ:=YQ (by lia)
  rw[e1,e2]
  exact⟨ow,h.mono (s.trans (af.upd hp))⟩
def Dw{t:Nat}{dp:Pos}(hu:X.A.units+64<cLine)(hN:X.N.Nodup)(hi:X.N[i]?=some x)(hx:Loc X.env.scope x)(hf:X.fn x=true)(h0:t≠0)(hk:PE X ke (tV X.K false fk))(he:PE X e (tV X.K false f)):
  PS X (.Assign [.Name x px] (.Dict [some ke] [e] dp) pos) (tC X.K λρ=>if t=2 then none else((fk ρ).bind λa=>(f ρ).bind λb=>(dD t a).map λx=>D.bP t [x] [b]).map λd=> .next (put ρ i true d)):=by
 refine(iw hN hi hx (Ci (by lia) hk he) rfl (.inl hf)).weak λD' σ H zz=>aq λnO=>nI zz λH₀ ab Z kv kd ow ρ out hx hd k=>nO ?_
 split at hd
 .cases hd
 .rename_i h2
  refine aq λnO=>aa (map_some hd) λd Bs pJ=>aa (bind_some Bs) λda e1 Bs=>aa (bind_some Bs) λdb e2 Bs=>aa (map_some Bs) λxx e3 Bs=>?_
  subst Bs
  subst pJ
  refine nO ?_
  intro p hp
  have SK:=hx.ex.mono (af.upd (o:= .dT []) hp)
  refine⟨Os ab ow,ρ,da,SK,e1,λv H1 s1 r1=>⟨Os ab ow,ρ,db,SK.mono s1,e2,λw H2 s2 r2=>?_⟩⟩
  have wH:H2 p=some (.dT []):=s2 _ _ (s1 _ _ ah)
  rcases gM (r1.own.mono s2) e3 with⟨z,_⟩|⟨_,b,rfl,hb⟩
  .exact absurd z h0
  .refine⟨b,xx.map Sum.inl,rfl,hb,wH,?_⟩
   let H3:Hp:=λq=>if q=p then none else H2 q
   have k3:∀q,q≠p->H3 q=H2 q:=λq hq=>Xs hq
   have e4:L2.upd H2 p (.dT [(xx.map Sum.inl,w)])=L2.upd H3 p (gb t [xx] [w]):=by
    funext q
    unfold L2.upd
    by_cases hq:q=p
    .rw[Xl hq,Xl hq]
     unfold gb
     rw[Xs h0]
     rfl
    .rw[Xs hq,Xs hq,k3 q hq]
   have s3:af H H3:=λq u hq=>by
    have SN:q≠p:=λz=>by rw[z,hp]at hq;cases hq
    rw[k3 q SN]
    exact s2 _ _ (s1 _ _ (by rw[ak SN];exact hq))
   have rep3:bA X.K (Os ab ow) H3 w db:=gL (λq us hq=>by
     have SO:H2 q=some (.tup us):=hq
     show H3 q=some (.tup us)
     rw[k3 q (fR SO wH (by intro z;cases z))];exact SO) (λq us hq nq=>⟨by
     rcases hq with hq|⟨ob,hq⟩
     .exact .inl (by rw[k3 q (fR hq wH (by intro z;cases z))];exact hq)
     .exact .inr ⟨ob,by rw[k3 q (fR hq wH (by intro z;cases z))];exact hq⟩,nq⟩) (λq ob u hq=>by rw[k3 q (fR hq wH (by intro z;cases z))];exact hq) r2.own
   obtain⟨mf,h'⟩:=zZ (t:=t) (ks:=[xx]) (ds:=[db]) hx s3 (Xl rfl) (.cons rep3 .nil) h2 rfl ⟨by simp,λz=>absurd z h0⟩ i
   rw[e4]
   exact k mf _ _ h'
def z8(h:kn ρ j=some xs):∃o,ρ[j]?=some (some (o,.lst xs)):=by
 unfold kn at h
 split at h
 .rename_i o ks e;cases h;exact⟨_,e⟩
 .cases h
def MB(hN:X.N.Nodup)(hi:X.N[i]?=some x)(hx:Loc X.env.scope x)(hf:X.fn x=true)(hv:PE X (.Name y py) (dn j)):PS X (.Assign [.Name x px] (.Name y py) pos) (tC X.K λρ=>(gY ρ j).map λxs=> .next (put (ρ.set j (some (false,.lst xs))) i false (.lst xs))):=
 (iw hN hi hx hv rfl (.inl hf)).weak λD' σ H zz=>by
  refine nI zz λH₀ ab Z kv kd ow ρ out hx hd k=>aa (map_some hd) λxs e1 ag=>?_
  subst ag
  have h':=hx.freeze (kY e1)
  obtain⟨v,q1,q2⟩:=h'.ex.jI j false (.lst xs) (by
   have hl:j<ρ.length:=(Xf.mp (kY e1)).1
   exact Xo hl)
  exact⟨v,q1,k _ _ _ (h'.put (show bA X.K _ H v (.lst xs) from q2) i)⟩
def H_{K:PySem.W.Frag}{H₀:Hp}{ab Z:Addr->Prop}{kv:List V}{kd:List D}{ow:Nat->Option Addr}{σ:St}{H:Hp}{ρ:Env}(hx:SX K H₀ ab Z kv kd ow σ H ρ){l:List D}{z:D}(e1:gY ρ j=some l)(e2:l.getLast?=some z):
  ∃a vs v,σ[j]?=some (some (.ref a))/\H a=some (.lst vs)/\vs[vs.length-1]?=some v/\SX K H₀ ab Z kv kd ow σ (L2.upd H a (.lst vs.dropLast)) (put ρ j true (.lst l.dropLast))/\bA K (Os ab ow) (L2.upd H a (.lst vs.dropLast)) v z:=by
 refine aq λnO=>gH (hx.HY e1) λa vs o1 o2 o3 o4=>?_
 have ll:=o4.length
 have B0:l[vs.length-1]?=some z:=by rw[ll,<-Z0];exact e2
 refine aa (o4.get B0) λv g1 g2=>nO ?_
 have rd:av K (Os ab ow) H vs.dropLast l.dropLast:=by
  rw[Y2,Y2,ll]
  exact o4.take _
 exact⟨a,vs,v,o2,o3,g1,hx.wr o1 o2 o3 rd,g2.upd (.inr ⟨j,o1⟩) o3 trivial⟩
def z9(hv:PE X y (dn j))(hb:attributeBase y "pop" X.env (eval y X.env)=eval y X.env)(hl:(ap.endLine==cp.line)=true):
  PE X (.Call (.Attribute y "pop" ap) [] [] cp) (λσ H Q=>∃a vs v,σ[j]?=some (some (.ref a))/\H a=some (.lst vs)/\vs[vs.length-1]?=some v/\Q v (L2.upd H a (.lst vs.dropLast))):=
 (Gk Yz PySem.F.slot_list_pop PySem.F.type_list_pop Gq hv hb hl).weak λσ H Q ⟨a,vs,v,h1,h2,h3,q⟩=>⟨.ref a,h1,.inl ⟨rfl,vs,dq.of h2⟩,a,vs,v,rfl,rfl,h2,h3,q⟩
def MC(hN:X.N.Nodup)(hi:X.N[i]?=some x)(hx:Loc X.env.scope x)(hf:X.fn x=true){y:Expr}{ap cp:Pos}(hv:PE X y (dn j))(hb:attributeBase y "pop" X.env (eval y X.env)=eval y X.env)(hl:(ap.endLine==cp.line)=true):
  PS X (.Assign [.Name x px] (.Call (.Attribute y "pop" ap) [] [] cp) pos) (tC X.K λρ=>(gY ρ j).bind λl=>(l.getLast?).map λz=> .next (put (put ρ j true (.lst l.dropLast)) i false z)):=
 (iw hN hi hx (z9 hv hb hl) rfl (.inl hf)).weak λD' σ H zz=>by
  refine aq λnO=>nI zz λH₀ ab Z kv kd ow ρ out hx hd k=>aa (bind_some hd) λl e1 hd=>aa (map_some hd) λz e2 ag=>?_
  subst ag
  exact so (H_ hx e1 e2) λa vs v h1 h2 h3 h4 h5=>nO<|⟨a,vs,v,h1,h2,h3,k _ _ _ (h4.put h5 i)⟩
def MD(hi:X.N[i]?=some x)(hv:v8 X.env.scope x)(Ds:(x==("__debug__":Str))=false)(m7:(x==("__classdict__":Str))=false)(hl:(ap.endLine==cp.line)=true)(he:PE X e (tV X.K false f))(hn:bL e=true):
  PS X (.Expr (.Call (.Attribute (.Name x px) "extend" ap) [e] [] cp) pos) (tC X.K λρ=>(f ρ).bind λd=>match d with
   | .lst zs=>(gY ρ i).bind λws=>if ws.length+zs.length<=bE then some (.next (put ρ i true (.lst (ws++zs)))) else none
   |_=>none):=
 (oV (uz Yz Z9 Z_ zf (bQ hi hv Ds m7) (cu he dN (bV hn)) rfl (by rw[bV hn];rfl) hl (bV hn) rfl) rfl).weak λD' σ H zz=>by
  refine nI zz λH₀ ab Z kv kd ow ρ out hx hd k=>aa (bind_some hd) λd e1 hd=>?_
  cases d with
  |lst zs=>
   refine aa (bind_some hd) λws e2 hd=>?_
   split at hd
   .rename_i hz
    cases hd
    refine gH (hx.HY e2) λa vs o1 o2 o3 o4=>⟨.ref a,o2,.inl ⟨rfl,vs,dq.of o3⟩,Os ab ow,ρ,.lst zs,hx.ex,e1,λv H1 s1 r1=>?_⟩
    have rF:=hx.mono s1
    have ME:=s1 _ _ o3
    refine bu r1.lst λb us ag h1 h2=>?_
    subst ag
    refine⟨a,b,vs,us,rfl,rfl,ME,h1,?_,?_⟩
    .rw[cQ,o4.length,h2.length];exact hz
    .exact k ow _ _ (rF.wr o1 o2 ME ((o4.mono s1).append h2))
   .cases hd
  |_=>cases hd
end
section
variable {K:PySem.W.Frag}{O O':Addr->Prop}{H H' H1 H2 H3:Hp}{a b:Addr}{as:List Addr}{T:List D}
def iH(H H':Hp):Prop:=∀b us,H b=some (.tup us)->H' b=some (.tup us)
def iH.trans(h1:iH H H1)(h2:iH H1 H2):iH H H2:=λb us e=>h2 b us (h1 b us e)
def oE(s:af H H'):iH H H':=λb us e=>s _ _ e
def gz(e:H a=some u)(hu:rA u):iH H (L2.upd H a o):=λb us h=>by
 rw[ak (fR h e (by intro z;rw[<-z]at hu;exact hu))];exact h
def dX(ht:iH H H')(h:bA K O H v d):aI d=true->bA K O' H' v d:=
 bA.rec (motive_1:=λv d _=>aI d=true->bA K O' H' v d) (motive_2:=λvs ds _=>ba ds=true->av K O' H' vs ds) (λ_=> .cy) (λb _=> .bl b) (λi _=> .int i)
  (λh _ ih n=> .tup (ht _ _ h) (ih (by simpa[aI]using n))) (λ_ _ _ _ n=>absurd n (by simp[aI])) (λ_ _ _ n=>absurd n (by simp[aI])) (λ_ _ _ _ _ n=>absurd n (by simp[aI])) (λ_=> .nil)
  (λ_ _ i1 i2 n=>by
   simp only[ba,WX]at n
   exact .cons (i1 n.1) (i2 n.2)) h
theorem fy(ht:iH H H'):∀{vs:List V}{ds:List D},av K O H vs ds->ba ds=true->av K O' H' vs ds
 |_,_,.nil,_=> .nil
 |_,_,.cons r t,n=>by
  simp only[ba,WX]at n
  exact .cons (dX ht r n.1) (fy ht t n.2)
theorem ij:∀{xs ys:List D},ba (xs++ys)=(ba xs&&ba ys)
 |[],ys=>by simp[ba]
 |x::xs,ys=>by simp[ba,ij (xs:=xs),Bool.and_assoc]
def mh(K:PySem.W.Frag)(H:Hp)(b:Addr)(d:D):Prop:=∃ks vs xs,d= .bP 0 ks xs/\H b=some (gb 0 ks vs)/\ks.length=vs.length/\lV 0 ks/\ba xs=true/\av K (λ_=>False) H vs xs
def mh.keep(h:mh K H b d)(ht:iH H H')(e:H' b=H b):mh K H' b d:=by
 exact JO h λks vs xs h1 h2 h3 h4 h5 h6=>⟨ks,vs,xs,h1,by rw[e];exact h2,h3,h4,h5,fy ht h6 h5⟩
def j5:∀{l:List α}{m:List β},Paired R l m->(∀x y,x∈l->R x y->R' x y)->Paired R' l m:=λ{l m} h=>by
 induction h with
 |nil=>exact λ_=> .nil
 |cons r t ih=>exact λk=> .cons (k _ _ W6 r) (ih λx y hx=>k x y (W4 _ hx))
def Dx:∀{l:List α}{m:List β}{i:Nat}{y:β},Paired R l m->m[i]?=some y->∃x,l[i]?=some x/\R x y:=λ{l m i y} h=>by
 induction h generalizing i with
 |nil=>intro e;simp at e
 |cons r t ih=>
  intro e
  cases i with
  |zero=>simp at e;subst e;exact⟨_,rfl,r⟩
  |succ i=>exact aa (ih (i:=i) (by simpa using e)) λx h1 h2=>⟨x,by simpa using h1,h2⟩
def xb{α β:Type}{R:α->β->Prop}{x:α}{y:β}(h:R x y):∀{l:List α}{m:List β},Paired R l m->Paired R (l++[x]) (m++[y]):=λ{l m} p=>by
 induction p with
 |nil=>exact .cons h .nil
 |cons r t ih=>exact .cons r ih
def js:∀{l:List α}{m:List β},Paired R l m->x∈l->∃y,R x y:=λ{l m} p=>by
 induction p with
 |nil=>exact λh=>nomatch h
 |cons r t ih=>exact λh=>(Xc.mp h).elim (λe=>by subst e;exact⟨_,r⟩) ih
structure qq(K:PySem.W.Frag)(H:Hp)(a:Addr)(as:List Addr)(T:List D):Prop where
 lst:H a=some (.lst (as.map V.ref))
 bP:Paired (mh K H) as T
 nd:(a::as).Nodup
theorem qq.keep(h:qq K H a as T)(ht:iH H H')(e:∀b,b∈a::as->H' b=H b):qq K H' a as T:=
 ⟨by rw[e a W6];exact h.lst,j5 h.bP λb d hb hd=>hd.keep ht (e b (W4 _ hb)),h.nd⟩
def qq.there(h:qq K H a as T):∀b,b∈a::as->∃u,H b=some u/\rA u:=λb hb=>by
 rcases Xc.mp hb with e|hb
 .subst e;exact⟨_,h.lst,trivial⟩
 .exact Fu (js h.bP hb) λd ks vs xs _ h2 _=>⟨_,h2,ky⟩
def qq.mut(h:qq K H a as T):∀b,b∈as->lU H b:=λb hb=>by
 exact Fu (js h.bP hb) λd ks vs xs _ h2 _=>⟨_,h2,Dc⟩
def qq.vj(h:qq K H a as T)(s:af H H'):qq K H' a as T:=
 h.keep (oE s) λb hb=>by
  refine aa (h.there b hb) λu e _=>?_
  rw[e];exact s _ _ e
def rL(f:CK as H1 H2):iH H1 H2:=λb us e=>by
 rw[f.out b λhb=>?_]
 .exact e
 .refine bu (f.at_ b hb) λo u e1 mu _=>?_
  rw[e]at e1;cases e1;exact mu
def qq.rep(h:qq K H1 a as T)(f:CK as H1 H2):bA K O H2 (.ref a) (.lst T)\/O a:=by
 by_cases ho:O a
 .exact .inr ho
 .refine .inl (.lst (.inl (by rw[f.out a (XB.mp h.nd).1];exact h.lst)) ho ?_)
  have all:∀{bs:List Addr}{S:List D},(∀b∈bs,b∈as)->Paired (mh K H1) bs S->av K O H2 (bs.map V.ref) S:=by
   intro bs S hs p
   induction p with
   |nil=>exact .nil
   |@cons b d bs S hd _ ih=>
    refine JO hd λks vs xs ag h2 h3 h4 h5 h6=>?_
    try clear hd
    subst ag
    refine bu (f.at_ b (hs b W6)) λo u e1 mu e2=>?_
    rw[h2]at e1
    cases e1
    exact .cons (.bP e2 h3 h4 (fy (rL f) h6 h5)) (ih λc hc=>hs c (W4 _ hc))
  exact all (λb hb=>hb) h.bP
def xc(f:CK as H1 H2)(s:af H2 H3):rm as H1 H3/\af H1 (f_ as H1 H3)/\iH H3 (f_ as H1 H3):=by
 have c:rm as H1 H3:=λb hb=>by
  exact bu (f.at_ b hb) λo u e1 mu e2=>⟨o,u,e1,mu,s _ _ e2⟩
 refine⟨c,λb u e=>?_,λb us e=>?_⟩
 .by_cases hb:b∈as
  .rw[jj hb];exact e
  .rw[bX hb];exact s _ _ (by rw[f.out b hb];exact e)
 .rw[bX λhb=>?_]
  .exact e
  .refine bu (c b hb) λo u _ _ e2=>?_
   rw[e]at e2;cases e2
def z_(c:rm as H1 H3)(hd:∀b∈as,∀zs,H1 b≠some (.lst zs))(h:dq K H3 p us):dq K (f_ as H1 H3) p us:=by
 rcases h with h|h
 .refine .inl ?_
  have hp:p∉as:=λhb=>by
   refine bu (c p hb) λo u e1 mu e2=>?_
   rcases h with h|⟨o',h⟩
   .rw[h]at e2;cases e2
   .rw[h]at e2;cases e2;exact hd p hb us e1
  rcases h with h|⟨o',h⟩
  .exact .inl (by rw[bX hp];exact h)
  .exact .inr ⟨o',by rw[bX hp];exact h⟩
 .exact .inr h
def Ia:∀us,gb t ks vs≠ .lst us:=by
 intro us h
 unfold gb at h
 split at h<;>cases h
def qq.MF(h:qq K H a as T):∀b∈as,∀zs,H b≠some (.lst zs):=λb hb zs e=>by
 refine Fu (js h.bP hb) λd ks vs xs _ h2 _=>?_
 rw[h2]at e
 exact Ia _ (Xn e)
end
section
variable {K:PySem.W.Frag}{H₀ bI:Hp}{ab Z:Addr->Prop}{kv:List V}{kd:List D}{ow:Nat->Option Addr}{σ:St}{H H1 H':Hp}{ρ:Env}{a b:Addr}{as:List Addr}{T:List D}{x y:Nat}
def OT(ab:Addr->Prop)(a:Addr)(as:List Addr):Addr->Prop:=λb=>ab b\/b∈a::as
def bA.xf{l:List Addr}{v:V}{d:D}(h:bA K (Os ab ow) H v d)(hp:∀p∈l,H p=none):bA K (λb=>Os ab ow b\/b∈l) H v d:=
 gL (λ_ _ h=>h) (λb us h n=>⟨h,λz=>z.elim n λe=>kW (hp b e) h⟩) (λ_ _ _ h=>h) h
def av.xf{l:List Addr}{v:List V}{d:List D}(h:av K (Os ab ow) H v d)(hp:∀p∈l,H p=none):av K (λb=>Os ab ow b\/b∈l) H v d:=
 fc (λ_ _ h=>h) (λb us h n=>⟨h,λz=>z.elim n λe=>kW (hp b e) h⟩) (λ_ _ _ h=>h) h
theorem eh.xf{l:List Addr}{d:D}(h:eh K (Os ab ow) H b d)(hp:∀p∈l,H p=none):eh K (λb=>Os ab ow b\/b∈l) H b d:=by
 rcases h with⟨vs,ds,e1,e2,e3⟩|⟨t,ks,vs,ds,e1,e2,e3,e4,e5⟩|⟨e1,u',e2,e3⟩
 .exact .inl ⟨vs,ds,e1,e2,e3.xf hp⟩
 .exact .inr (.inl ⟨t,ks,vs,ds,e1,e2,e3,e4,e5.xf hp⟩)
 .exact .inr (.inr ⟨e1,u',e2,e3⟩)
noncomputable def mi(a:Addr)(as:List Addr)(H₀ H:Hp):Hp:=f_ (a::as) H H₀
def QC:∀b,Os (OT ab a as) (oB ow x none) b->Os ab ow b\/b∈a::as:=λb z=>by
 rcases z with (z|z)|⟨j,z⟩
 .exact .inl (.inl z)
 .exact .inr z
 .by_cases hj:j=x
  .rw[hj,aO]at z;cases z
  .rw[aT hj]at z;exact .inl (.inr ⟨j,z⟩)
def SX.tab(h:SX K H₀ ab Z kv kd ow σ H ρ)(s:af H H')(t:qq K H' a as T)(hn:∀b∈a::as,H b=none)(nt:qI ρ=true)(hx:x<ρ.length):
  af H₀ (mi a as H₀ H')/\SX K (mi a as H₀ H') (OT ab a as) (λb=>b=a) [] [] (oB ow x none) (σ.set x (some (.ref a))) H' (Py.put ρ x true tm):=by
 have Vh:∀b∈a::as,H₀ b=none:=λb hb=>by
  cases z:H₀ b with
  |none=>rfl
  |some w=>have:=h.same _ _ z;rw[hn b hb]at this;cases this
 have sb:af H₀ (mi a as H₀ H'):=λb u e=>by
  unfold mi
  rw[bX λhb=>by rw[Vh b hb]at e;cases e]
  exact e
 have Fb:∀(j:Nat) (o:Bool) (d:D),ρ[j]?=some (some (o,d))->lN d=false:=λj o d e=>by
  unfold qI at nt
  have:=Ya.mp nt _ (XU e)
  simpa using this
 refine⟨sb,⟨⟨λb hb=>?_,λj o d' hj=>?_⟩,λj d' hj=>?_,λj k b hj hk=>?_,λj b hj=>?_,λb u e=>?_,.nil,λb hb=>?_,by unfold Py.put;rw[XD,XD];exact h.len⟩⟩
 .rcases QC b hb with z|z
  .exact aa (h.ex.live b z) λu e q=>⟨u,s _ _ e,q⟩
  .exact t.there b z
 .by_cases eJ:j=x
  .subst eJ
   unfold Py.put at hj
   rw[Xo hx]at hj
   cases hj
   exact aa (t.there a W6) λu e q=>⟨.ref a,Xo (by rw[<-h.len];exact hx),a,rfl,.inl (.inr W6),.inr (.inr ⟨rfl,u,e,q⟩)⟩
  .unfold Py.put at hj
   rw[Xq (XY eJ)]at hj
   refine aa (h.ex.jI j o d' hj) λw h1 h2=>⟨w,by rw[Xq (XY eJ)];exact h1,?_⟩
   cases o with
   |true=>
    refine bJ h2 λb e1 e2 c=>aa (h.own j d' hj) λb' o2 o1=>?_
    rw[h1]at o2
    cases o2
    cases e1
    refine⟨b,rfl,o1.elim (λo1=> .inr ⟨j,by rw[aT eJ];exact o1.2⟩) (λo1=> .inl (.inl o1.2.2)),((c.xf hn).mono s).weak QC⟩
   |false=>exact((bA.xf h2 hn).mono s).weak QC
 .by_cases eJ:j=x
  .subst eJ
   unfold Py.put at hj
   rw[Xo hx]at hj
   cases hj
   exact⟨a,Xo (by rw[<-h.len];exact hx),.inr ⟨rfl,rfl,.inr W6⟩⟩
  .unfold Py.put at hj
   rw[Xq (XY eJ)]at hj
   refine aa (h.own j d' hj) λb o2 o1=>⟨b,by rw[Xq (XY eJ)];exact o2,.inl ⟨Fb j true d' hj,?_⟩⟩
   rw[aT eJ]
   exact o1.elim (λo1=>o1.2) λo1=>by rw[Fb j true d' hj]at o1;exact nomatch o1.1
 .by_cases h1:j=x
  .rw[h1,aO]at hj;cases hj
  .by_cases h2:k=x
   .rw[h2,aO]at hk;cases hk
   .rw[aT h1]at hj;rw[aT h2]at hk;exact h.inj j k b hj hk
 .by_cases h1:j=x
  .rw[h1,aO]at hj;cases hj
  .rw[aT h1]at hj
   refine aa (h.ex.live b (.inr ⟨j,hj⟩)) λu e _=>?_
   unfold mi
   rw[bX λhb=>by rw[hn b hb]at e;cases e]
   exact h.new j b hj
 .unfold mi at e
  by_cases hb:b∈a::as
  .rw[jj hb]at e;exact e
  .rw[bX hb]at e;exact s _ _ (h.same _ _ e)
 .unfold mi
  by_cases jE:b∈a::as
  .exact aa (t.there b jE) λu e _=>⟨u,by rw[jj jE];exact e⟩
  .rw[bX jE]
   exact h.o0 b (hb.resolve_right jE)
noncomputable def ik(bI H:Hp):Hp:=λb=>match H b with
 |some (.tup us)=>some (.tup us)
 |_=>bI b
def gN(e:H b=some (.tup us)):ik bI H b=some (.tup us):=by unfold ik;rw[e]
def fA(e:∀us,H b≠some (.tup us)):ik bI H b=bI b:=by
 unfold ik
 split
 .rename_i us z;exact absurd z (e us)
 .rfl
theorem SX.ik(h:SX K bI ab Z kv kd ow σ H ρ):SX K (ik bI H) ab Z kv kd ow σ H ρ:=by
 refine⟨h.ex,h.own,h.inj,λi b hb=>?_,λb u e=>?_,h.kp,λb hb=>?_,h.len⟩
 .refine aa (h.ex.live b (.inr ⟨i,hb⟩)) λu e q=>?_
  rw[fA λus z=>by rw[e]at z;cases z;exact q]
  exact h.new i b hb
 .by_cases hb:∃us,H b=some (.tup us)
  .obtain⟨us,z⟩:=hb
   rw[gN z]at e
   cases e
   exact z
  .rw[fA λus z=>hb ⟨us,z⟩]at e
   exact h.same _ _ e
 .by_cases jE:∃us,H b=some (.tup us)
  .obtain⟨us,z⟩:=jE
   exact⟨_,gN z⟩
  .rw[fA λus z=>jE ⟨us,z⟩]
   exact h.o0 b hb
def LS(K:PySem.W.Frag)(H₀:Hp)(ab:Addr->Prop)(a:Addr)(as:List Addr)(T:List D)(σ:St)(H:Hp)(ρ:Env):Prop:=
 ∃bI ow,af H₀ bI/\SX K bI (OT ab a as) (λb=>b=a) [] [] ow σ H ρ/\(∀b,b∈a::as->bI b=H b)/\qq K H a as T
def SX.rM(hx:SX K bI (OT ab a as) (λb=>b=a) [] [] ow σ H ρ)(t:qq K H a as T)(s:af H H')(e:∀b,b∈a::as->bI b=H b):∀b,b∈a::as->bI b=H' b:=λb hb=>by
 refine aa (t.there b hb) λu eu _=>?_
 rw[e b hb,eu]
 exact(s _ _ eu).symm
theorem LS.mono(h:LS K H₀ ab a as T σ H ρ)(s:af H H'):LS K H₀ ab a as T σ H' ρ:=by
 exact gH h λbI ow h1 h2 h3 h4=>⟨bI,ow,h1,h2.mono s,h2.rM h4 s h3,h4.vj s⟩
def LS.run(h:LS K H₀ ab a as T σ H ρ)(e:f ρ=some (.next ρ'))(k:∀bY H',LS K H₀ ab a as T bY H' ρ'->D'.nx bY H'):tC K f D' σ H:=by
 refine gH h λbI ow h1 h2 h3 h4=>⟨ik bI H,_,_,[],[],ow,ρ,.next ρ',h2.ik,e,λmf bY H' hx=>k bY H' ⟨_,mf,λb u eb=>?_,hx,λb hb=>?_,?_⟩⟩
 .have:=h1 _ _ eb
  by_cases hb:∃us,H b=some (.tup us)
  .obtain⟨us,z⟩:=hb
   rw[gN z,<-z]
   exact h2.same _ _ this
  .rw[fA λus z=>hb ⟨us,z⟩];exact this
 .refine aa (h4.there b hb) λu eu q=>?_
  have e1:ik bI H b=some u:=by
   rw[fA λus z=>by rw[eu]at z;cases z;exact q,h3 b hb];exact eu
  rw[e1]
  exact(hx.same _ _ e1).symm
 .refine h4.keep (λb us z=>hx.same _ _ (gN z)) λb hb=>aa (h4.there b hb) λu eu q=>?_
  have e1:ik bI H b=some u:=by
   rw[fA λus z=>by rw[eu]at z;cases z;exact q,h3 b hb];exact eu
  rw[eu]
  exact hx.same _ _ e1
def Dy(h:i5 ρ x=true):ρ[x]?=some (some (true,tm)):=by
 unfold i5 at h
 split at h
 .rename_i t e
  have:t=2:=by simpa using h
  subst this
  exact e
 .cases h
def LS.at(h:LS K H₀ ab a as T σ H ρ)(ht:i5 ρ x=true):σ[x]?=some (some (.ref a)):=by
 refine gH h λbI ow _ h2 _ _=>aa (h2.own x _ (Dy ht)) λb o2 o1=>?_
 rcases o1 with o1|o1
 .exact nomatch o1.1
 .rw[o2,o1.2.1]
theorem LS.lst(h:LS K H₀ ab a as T σ H ρ){l:List D}(e:kn ρ y=some l):∃b vs,σ[y]?=some (some (.ref b))/\dq K H b vs/\vs.length=l.length:=by
 refine aq λnO=>gH h λbI ow _ h2 _ _=>?_
 obtain⟨o,e2⟩:=z8 e
 refine aa (h2.ex.jI y o _ e2) λu q1 q2=>nO ?_
 cases o with
 |true=>
  refine aq λnO=>bJ q2 λb f1 f2 c=>aa c.lst λvs c1 c2=>?_
  subst f1
  exact nO<|⟨b,vs,q1,dq.of c1,c2.length⟩
 |false=>
  refine aq λnO=>bu (bA.lst_inv q2) λb vs f1 f2 f3=>?_
  subst f1
  exact nO<|⟨b,vs,q1,f2,f3.length⟩
def xg(e:gY ρ y=some l):kn ρ y=some l:=by
 have:=kY e
 unfold kn
 rw[this]
end
def MG(h:dD 0 d=some k):∃i,d= .int i/\k=[i]:=by
 cases d with
 |int i=>cases h;exact⟨i,rfl,rfl⟩
 |tup xs=>cases h
 |_=>cases h
def xh{K:PySem.W.Frag}{fr:List Nat}{fi:Env->Option (List D)}{fk fv:Env->Option D}{O:Addr->Prop}{σ:St}{H:Hp}{ρ:Env}{Q:VK}{xs T:List D}(hx:EX K O σ H ρ)(e1:fi ρ=some xs)(hz:xs.length<=bE)(hd:walk (qJ fk fv fr ρ) xs=some T)
  (q:∀p as H',af H H'->qq K H' p as T->(∀b∈p::as,H b=none)->Q (.ref p) H'):nT 1 fr (tI K true fi) (cO 0) (tB K λ_=>some true) (rn (tV K false fk) (tV K false fv)) σ H Q:=by
 refine⟨O,ρ,xs,hx,e1,λJ f9 H1 s1 zw rE p hp=>?_⟩
 have rF:=hx.mono s1
 have Hw:fm K (λa=>O a\/a=p) H1 f9:=rE.ok.own hp
 refine⟨λi m H'=>m=xs.length-i/\i<=xs.length/\af H1 H'/\∃as S bO,H' p=some (.lst (as.map V.ref))/\Paired (mh K H') as S/\(p::as).Nodup /\(∀b∈as,H1 b=none)/\as.length=i/\walk (qJ fk fv fr ρ) (xs.drop i)=some bO/\T=S++bO,
  ⟨xs.length,rfl,Ye _,af.upd hp,[],[],T,ah,.nil,by simp,λ_ z=>(nomatch z),rfl,hd,rfl⟩,?_⟩
 rintro i mm H2 ⟨rfl,hi,s2,as,S,bO,ep,pd,nd,hn,hl,hw,ho⟩
 refine cN (zw _ H2 (Hw.mono s2)) λgo xV stop=>?_
 by_cases bZ:i<xs.length
 .refine .inr ⟨go i bZ,λx H3 hy=>?_⟩
  have Qo:xs[i]?=some xs[i]:=by simp[bZ]
  obtain⟨s3,rx⟩:=xV i x H3 _ hy Qo
  have Mi:H3 p=some (.lst (as.map V.ref)):=s3 _ _ ep
  have Qp:EX K (λa=>O a\/a=p) σ H3 ρ:=rF.ext hp (s2.trans s3) Mi
  have dr:xs.drop i=xs[i]::xs.drop (i+1):=(XR bZ)
  rw[dr,walk]at hw
  show tB K (λ_=>some true) ((List.replicate 1 none++iW fr σ).set 0 (some x)) H3 _
  have Vi:(List.replicate 1 none++iW fr σ).set 0 (some x)=some x::iW fr σ:=rfl
  rw[Vi]
  have Mj:=Qp.inner (.cons rx .nil) fr
  refine⟨_,_,true,Mj,rfl,λH4 s4=>lK λFc NU=>?_⟩
  cases en:qJ fk fv fr ρ xs[i]with
  |none=>rw[en]at hw;cases hw
  |some o=>
  have Fe:=en
  unfold qJ at Fe
  refine aq λnO=>aa (bind_some Fe) λkk g0 Fe=>aa (bind_some g0) λdk g1 g2=>aa (bind_some Fe) λd g3 Fe=>nO ?_
  split at Fe
  .rename_i sq
   refine aq λnO=>?_
   cases Fe
   rw[en]at hw
   refine aa (map_some hw) λzx u9 Mk=>aa (MG g2) λki ag aP=>?_
   subst ag
   subst aP
   refine nO ?_
   have SQ:=(Mj.mono s4).mono (af.upd (o:= .dK []) NU)
   refine⟨_,_,_,SQ,g1,λkv H5 s5 r5=>⟨_,_,d,SQ.mono s5,g3,λv H6 s6 r6=>?_⟩⟩
   have Ib:H6 Fc=some (.dK []):=s6 _ _ (s5 _ _ ah)
   have NV:af H4 H6:=((af.upd (o:= .dK []) NU).trans s5).trans s6
   have QD:H6 p=some (.lst (as.map V.ref)):=NV _ _ (s4 _ _ Mi)
   have NW:p≠Fc:=fR QD Ib (by intro z;cases z)
   have Vj:af H2 H6:=(s3.trans s4).trans NV
   have Ic:∀b u,H4 b=some u->b≠Fc:=λb u e z=>by rw[z,NU]at e;cases e
   refine⟨ki,r5.int,Ib,as.map V.ref,xs.length-(i+1),by rw[ak NW];exact QD,by rw[WZ,hl,cQ];lia,by lia,rfl,bZ,λbb oo eb=>?_,as++[Fc],S++[.bP 0 [[ki]] [d]],zx,?_,?_,?_,?_,?_,u9,?_⟩
   .have e4:H4 bb=some oo:=s4 _ _ (s3 _ _ (s2 _ _ eb))
    rw[ak (cc eb hp),ak (Ic _ _ e4)]
    exact NV _ _ e4
   .rw[Xy];exact ah
   .have t6:iH H6 (L2.upd (L2.upd H6 Fc (.dK [(Sum.inl ki,v)])) p (.lst (as.map V.ref++[.ref Fc]))):=(gz (o:= .dK [(Sum.inl ki,v)]) Ib trivial).trans (gz (u:= .lst (as.map V.ref)) (by rw[ak NW];exact QD) trivial)
    have old:Paired (mh K (L2.upd (L2.upd H6 Fc (.dK [(Sum.inl ki,v)])) p (.lst (as.map V.ref++[.ref Fc])))) as S:=j5 pd λb dd hb Bs=>Bs.keep ((oE Vj).trans t6) (by
     refine aq λnO=>cS Bs λks vs ys _ h2 _=>nO ?_
     have e4:H4 b=some (gb 0 ks vs):=s4 _ _ (s3 _ _ h2)
     have Vk:b≠p:=λz=>by rw[XB]at nd;exact nd.1 (z▸hb)
     rw[ak Vk,ak (Ic _ _ e4),h2]
     exact NV _ _ e4)
    refine xb ⟨[[ki]],[v],[d],rfl,?_,rfl,⟨by simp,λ_ k hk=>⟨ki,by simpa using hk⟩⟩,by simp[ba,sq],.cons (dX t6 r6.own sq) .nil⟩ old
    rw[ak (XY NW),ah,jo];rfl
   .rw[<-aak,Yk]
    refine⟨nd,by simp,λb hb c hc e=>?_⟩
    rw[W5]at hc
    rw[e,hc]at hb
    rcases Xc.mp hb with z|z
    .exact NW z.symm
    .exact aq λnO=>Fu (js pd z) λdd ks vs ys _ h2 _=>nO<|Ic _ _ (s4 _ _ (s3 _ _ h2)) rfl
   .intro b hb
    rcases Xk.mp hb with hb|hb
    .exact hn b hb
    .rw[W5]at hb
     subst hb
     cases z:H1 b with
     |none=>rfl
     |some w=>have:=s4 _ _ (s3 _ _ (s2 _ _ z));rw[NU]at this;cases this
   .rw[W_,Xx,hl]
   .rw[ho,<-Mk,Xw];rfl
  .cases Fe
 .have ei:i=xs.length:=by lia
  subst ei
  refine .inl ⟨stop,?_⟩
  rw[aai,walk]at hw
  cases hw
  rw[XF]at ho
  subst ho
  refine q p as H2 (s1.trans s2) ⟨ep,pd,nd⟩ λb hb=>?_
  have h1:H1 b=none:=(Xc.mp hb).elim (λz=>z▸hp) (hn b)
  cases z:H b with
  |none=>rfl
  |some w=>have:=s1 _ _ z;rw[h1]at this;cases this
section
variable {K:PySem.W.Frag}{H₀ bI:Hp}{ab Dz Z:Addr->Prop}{kv:List V}{kd:List D}{ow:Nat->Option Addr}{σ:St}{H H1 H':Hp}{ρ:Env}{a b:Addr}{as:List Addr}{T:List D}{x y r:Nat}{u u':HO}
def Aa{α β:Type}{R R':α->β->Prop}{x:α}{y':β}(hy:R' x y'):∀{l:List α}{m:List β}{q:Nat},Paired R l m->l.Nodup->l[q]?=some x->(∀z y,z∈l->z≠x->R z y->R' z y)->Paired R' l (m.set q y'):=λ{l m q} p=>by
 induction p generalizing q with
 |nil=>intro _ e;simp at e
 |cons r t ih=>
  intro nd e k
  rw[XB]at nd
  cases q with
  |zero=>
   simp at e
   subst e
   exact .cons hy (j5 t λz y hz=>k z y (W4 _ hz) λe=>nd.1 (e▸hz))
  |succ q=>
   have e':=by simpa using e
   exact .cons (k _ _ W6 (λe2=>nd.1 (e2▸XU e')) r) (ih nd.2 e' λz y hz=>k z y (W4 _ hz))
def SX.Vl(h:SX K bI Dz Z kv kd ow σ H ρ)(ob:Dz b)(e:H b=some u)(hu:rA u)(Dk:rA u')(hz:∀c,Z c->c≠b):SX K (L2.upd bI b u') Dz Z kv kd ow σ (L2.upd H b u') ρ:=by
 have oa:Os Dz ow b:= .inl ob
 obtain⟨w,hw⟩:=h.o0 b ob
 have fJ:∀i c,ow i=some c->c≠b:=λi c hc z=>by
  have:=h.new i c hc
  rw[z,hw]at this
  cases this
 refine⟨⟨λc hc=>?_,λj o d' hj=>?_⟩,h.own,h.inj,λi c hc=>by rw[ak (fJ i c hc)];exact h.new i c hc,λc v hc=>?_,h.kp.upd oa e hu,λc hc=>?_,h.len⟩
 .by_cases vk:c=b
  .subst vk;exact⟨u',ah,Dk⟩
  .exact aa (h.ex.live c hc) λus q qo=>⟨us,by rw[ak vk];exact q,qo⟩
 .refine aa (h.ex.jI j o d' hj) λw q1 q2=>⟨w,q1,?_⟩
  cases o with
  |true=>
   refine aq λnO=>bJ q2 λc e1 e2 c'=>aa (h.own j d' hj) λb' o2 o1=>?_
   rw[q1]at o2
   cases o2
   cases e1
   exact nO<|⟨c,rfl,e2,c'.upd (o1.elim (λo1=>fJ j c o1.2) λo1=>hz c o1.2.1) oa e hu⟩
  |false=>exact bA.upd q2 oa e hu
 .by_cases vk:c=b
  .subst vk;rw[ah]at hc⊢;exact hc
  .rw[ak vk]at hc⊢;exact h.same _ _ hc
 .by_cases vk:c=b
  .subst vk;exact⟨u',ah⟩
  .obtain⟨v,hv⟩:=h.o0 c hc
   exact⟨v,by rw[ak vk];exact hv⟩
theorem LS.put(h:LS K H₀ ab a as T σ H ρ)(rp:bA K O' H v d)(n:aI d=true):LS K H₀ ab a as T (σ.set r (some v)) H (Py.put ρ r false d):=by
 exact gH h λbI ow h1 h2 h3 h4=>⟨bI,_,h1,h2.put (dX (λ_ _ e=>e) rp n) r,h3,h4⟩
def LS.own(h:LS K H₀ ab a as T σ H ρ)(e:gY ρ y=some l):∃b vs O',σ[y]?=some (some (.ref b))/\H b=some (.lst vs)/\av K O' H vs l/\
  ∀HL l' H',af H H'->av K O' H' HL l'->LS K H₀ ab a as T σ (L2.upd H' b (.lst HL)) (Py.put ρ y true (.lst l')):=by
 refine aq λnO=>gH h λbI ow h1 h2 h3 h4=>gH (h2.HY e) λb vs o1 o2 o3 o4=>nO ?_
 refine⟨b,vs,_,o2,o3,o4,λHL l' H' s rr=>?_⟩
 have hb:∀c,c∈a::as->c≠b:=λc hc z=>by
  have n:=h2.new y b o1
  refine aa (h4.there c hc) λu eu _=>?_
  rw[<-z,h3 c hc,eu]at n
  cases n
 have ME:=s _ _ o3
 refine⟨bI,ow,h1,(h2.mono s).wr o1 o2 ME rr,λc hc=>?_,(h4.vj s).keep (gz ME trivial) λc hc=>ak (hb c hc)⟩
 rw[ak (hb c hc)]
 exact h2.rM h4 s h3 c hc
def LS.dput(h:LS K H₀ ab a as T σ H ρ){q:Nat}{ks:List (List Int)}{xs:List D}{ki:Int}{v:V}{d:D}{O':Addr->Prop}(e:T[q]?=some (.bP 0 ks xs))(hk:[ki]∉ks)(hl:ks.length<bE)(rp:bA K O' H v d)(n:aI d=true)(hn:∀b∈a::as,H₀ b=none):
  ∃b H',as[q]?=some b/\GO H b (.int ki) v H'/\LS K H₀ ab a as (T.set q (.bP 0 (ks++[[ki]]) (xs++[d]))) σ H' ρ:=by
 refine aq λnO=>gH h λbI ow h1 h2 h3 h4=>?_
 obtain⟨b,e1,U4,vs,WJ,e2,g1,g2,g3,g4,g5⟩:=Dx h4.bP e
 cases e2
 refine nO ?_
 have hb:b∈as:=XU e1
 have nd:=XB.mp h4.nd
 have tM:a≠b:=λz=>nd.1 (z▸hb)
 have Ie:jK ((ks.map λk=>(Sum.inl (k.headD 0):cU)).zip vs) (Sum.inl ki) v=((ks++[[ki]]).map λk=>(Sum.inl (k.headD 0):cU)).zip (vs++[v]):=by
  have:=p6 (λk:List Int=>(Sum.inl (k.headD 0):cU)) (x:=[ki]) (v:=v) g2 (λk hm he=>by
   obtain⟨j,rfl⟩:=g3.2 rfl k hm
   have:j=ki:=aab he
   rw[this]) hk
  exact this
 refine⟨b,L2.upd H b (gb 0 (ks++[[ki]]) (vs++[v])),e1,.inl ⟨_,Sum.inl ki,by rw[g1,jo],rfl,by rw[Zq,WZ,g2,ZU,cQ,<-g2];exact hl,by rw[Ie,jo]⟩,?_⟩
 have ts:iH H (L2.upd H b (gb 0 (ks++[[ki]]) (vs++[v]))):=gz g1 ky
 refine⟨L2.upd bI b (gb 0 (ks++[[ki]]) (vs++[v])),ow,λc w ec=>?_,h2.Vl (.inr (W4 _ hb)) g1 ky ky (λc hc=>by rw[hc];exact tM),λc hc=>?_,⟨by rw[ak tM];exact h4.lst,?_,h4.nd⟩⟩
 .have vk:c≠b:=λz=>by rw[z,hn b (W4 _ hb)]at ec;cases ec
  rw[ak vk];exact h1 _ _ ec
 .by_cases vk:c=b
  .subst vk;rw[ah,ah]
  .rw[ak vk,ak vk];exact h3 c hc
 .refine Aa ⟨ks++[[ki]],vs++[v],xs++[d],rfl,ah,by simp[g2],⟨?_,λ_ k hm=>?_⟩,by rw[ij,g4];simp[ba,n],(fy ts g5 g4).append (.cons (dX ts rp n) .nil)⟩ h4.bP nd.2 e1 λz y hz Vm hd=>hd.keep ts (ak Vm)
  .rw[Yk]
   exact⟨g3.1,by simp,λa ha b hb e=>hk (by rw[W5.mp hb]at e;exact e▸ha)⟩
  .rcases Xk.mp hm with hm|hm
   .exact g3.2 rfl k hm
   .exact⟨ki,W5.mp hm⟩
def LS.call(h:LS K H₀ ab a as T σ H1 ρ){n:Nat}{f:List D->Option D}{v:V}{z d:D}{O':Addr->Prop}{Q:VK}(rz:bA K O' H1 v z)(nz:aI z=true)(fe:f [.lst T,z]=some d)(hn:∀ds d,f ds=some d->ds.length=n)
  (k:∀w H3,af H1 (f_ as H1 H3)->bA K (λ_=>False) H3 w d->iH H3 (f_ as H1 H3)->rm as H1 H3->Q w (f_ as H1 H3)):
  ∃MH:List Addr,MH.Nodup/\(∀b∈MH,lU H1 b)/\∀H2,CK MH H1 H2->u5 K n f ([.ref a,v]++[]) H2 (λw H3=>rm MH H1 H3/\Q w (f_ MH H1 H3)) E0:=by
 refine gH h λbI ow h1 h2 h3 h4=>⟨as,(XB.mp h4.nd).2,h4.mut,λH2 fz=>⟨λ_=>False,[.lst T,z],d,λ_ z=>z.elim,.cons ((h4.rep fz).resolve_right id) (.cons (dX (rL fz) rz nz) .nil),fe,hn _ _ fe,λw H3 s yf=>?_⟩⟩
 exact cN (xc fz s) λc s' t=>⟨c,k w H3 s' yf t c⟩
def LS.ret(h:LS K H₀ ab a as T σ H ρ)(hn:∀b∈a::as,H₀ b=none)(o0:∀b,ab b->∃w,H₀ b=some w)(fz:CK as H H2):af H₀ H2/\bA K ab H2 (.ref a) (.lst T):=by
 refine gH h λbI ow h1 h2 h3 h4=>⟨λb u e=>?_,(h4.rep fz).resolve_right λz=>?_⟩
 .rw[fz.out b λhb=>by rw[hn b (W4 _ hb)]at e;cases e]
  exact h2.same _ _ (h1 _ _ e)
 .obtain⟨w,hw⟩:=o0 a z
  rw[hn a W6]at hw
  cases hw
end
abbrev Ig(K:PySem.W.Frag)(n:Nat)(f:List D->Option D)(t:TA):TE:=λσ H Q=>t σ H λvs H1=>∃as:List Addr,as.Nodup/\(∀b∈as,lU H1 b)/\∀H2,CK as H1 H2->u5 K n f (vs++[]) H2 (λv H3=>rm as H1 H3/\Q v (f_ as H1 H3)) E0
abbrev DA(y:Nat):TE:=λσ H Q=>∃a vs v,σ[y]?=some (some (.ref a))/\H a=some (.lst vs)/\vs[vs.length-1]?=some v/\Q v (L2.upd H a (.lst vs.dropLast))
abbrev Ab(K:PySem.W.Frag)(y:Nat):TT:=λσ H Q=>dn y σ H λx H'=>∃k,F8 K x H' k/\Q k H'
section
variable {K:PySem.W.Frag}{H₀:Hp}{ab:Addr->Prop}{σ:St}{H:Hp}{ρ:Env}{a:Addr}{as:List Addr}{T:List D}{x y:Nat}
def Ac(h:i5 ρ x=true)(ne:x≠y):i5 (Py.put ρ y o d) x=true:=by
 unfold i5 Py.put at *
 rw[Xq (XY ne)]
 exact h
def LS.SR(h:LS K H₀ ab a as T σ H ρ)(e:kn ρ y=some l)(q:Q (!l.isEmpty) H):Ab K y σ H Q:=by
 refine bu (h.lst e) λb vs h1 h2 h3=>?_
 have he:(!vs.isEmpty)=!l.isEmpty:=by cases vs<;>cases l<;>simp at h3⊢
 exact⟨.ref b,h1,!vs.isEmpty,.inl ⟨vs,h2,rfl⟩,by rw[he];exact q⟩
def Ad(h:t {D' with nx:=u D'} σ H):oU t u D' σ H:=h
def LS.ifs(h:LS K H₀ ab a as T σ H ρ)(e:kn ρ y=some l)(q:if(!l.isEmpty)=true then t D' σ H else u D' σ H):BD (Ab K y) t u D' σ H:=by
 unfold BD
 exact h.SR e q
def LS.turn(h:LS K H₀ ab a as T σ H ρ)(hn:∀b∈a::as,H₀ b=none)(ht:i5 ρ x=true)(wQ:x≠y)(el:gY ρ y=some l)(MI:∀ds d,F f ds=some d->ds.length=n1)(MJ:∀ds d,F g ds=some d->ds.length=n2)
  (e:i6 F x y r f c2 m c3 p q u g w T ρ l=some (T',ρ')) (k:∀bY H',LS K H₀ ab a as T' bY H' ρ'->i5 ρ' x=true->D'.nx bY H'):
  oU (mY (Ig K n1 (F f) (cY (dn x) (cY (DA y) lF))) (cO r)) (oU (tC K c2) (oU (BD (Ab K m) (oU (tC K c3) (oU (uF (Ep (BS K) (dn x) (tV K false p)) (tV K false q) (tV K false u)) (oU (uo (Nu K "list" (zc K) (dn y) (cY (Ig K n2 (F g) (cY (dn x) (cY (tV K false w) lF))) lF))) um))) um) um)) D' σ H:=by
 unfold i6 at e
 refine aq λnO=>?_
 obtain⟨z,e1,e⟩:=bind_some e
 obtain⟨d,e2,e⟩:=bind_some e
 split at e
 .rename_i MK
  rw[WX]at MK
  obtain⟨o,e3,e⟩:=bind_some e
  cases o with
  |next xG=>
   dsimp only at e
   split at e
   .rename_i QE
    obtain⟨ms,e4,e⟩:=bind_some e
    obtain⟨b,vs,O',y1,y2,y3,y4⟩:=h.own el
    have qk:l[vs.length-1]?=some z:=by rw[y3.length,<-Z0];exact e1
    obtain⟨v,z1,z2⟩:=y3.get qk
    refine nO ?_
    have yd:av K O' H vs.dropLast l.dropLast:=by
     rw[Y2,Y2,y3.length]
     exact y3.take _
    have h1:=y4 vs.dropLast l.dropLast H (af.refl _) yd
    have Vn:bA K (λ_=>False) (L2.upd H b (.lst vs.dropLast)) v z:=dX (gz y2 trivial) z2 MK.1
    refine⟨.ref a,h.at ht,b,vs,v,y1,y2,z1,h1.call (Q:=λw H'=>oU (tC K c2) _ D' (σ.set r (some w)) H') Vn MK.1 e2 MI λw H3 s3 r3 t3 QF=>?_⟩
    have h2:=(h1.mono s3).put (r:=r) (dX (O':=λ_=>False) t3 r3 MK.2) MK.2
    refine h2.run e3 λwa H4 h3=>Ad (h3.ifs e4 ?_)
    generalize ms.isEmpty=bm at e⊢
    refine aq λnO=>?_
    cases bm with
    |true=>
     cases e
     exact nO<|m_ (k wa H4 h3 QE)
    |false=>
     rw[Xs W2]at e
     obtain⟨o,e5,e⟩:=bind_some e
     cases o with
     |next qm=>
      dsimp only at e
      split at e
      .rename_i QG
       obtain⟨uv,e6,e⟩:=bind_some e
       split at e
       .rename_i hu
        obtain⟨pi,Vo,e⟩:=bind_some e
        obtain⟨dp,e7,SS⟩:=bind_some Vo
        have Vp:dp= .int pi:=by cases dp<;>first|(cases SS;rfl)|cases SS
        subst Vp
        obtain⟨pq,e8,e⟩:=bind_some e
        obtain⟨kk,Vq,e⟩:=bind_some e
        obtain⟨dk,e9,NX⟩:=bind_some Vq
        obtain⟨ki,rfl,rfl⟩:=MG NX
        obtain⟨T2,vh,e⟩:=bind_some e
        obtain⟨wv,Vr,e⟩:=bind_some e
        split at e
        .rename_i hw
         obtain⟨zd,aa,e⟩:=bind_some e
         cases zd with
         |lst zs=>
          dsimp only at e
          split at e
          .rename_i Vs
           obtain⟨ws,bJ,e⟩:=bind_some e
           split at e
           .rename_i a_
            cases e
            refine nO<|lK (h3.run e5 λVt H5 h5=>?_)
            refine aq λnO=>?_
            obtain⟨bI,ow,b1,b2,b3,b4⟩:=id h5
            refine nO ?_
            refine⟨_,qm,uv,b2.ex,e6,λv6 H6 s6 r6=>⟨.ref a,(h5.mono s6).at QG,_,qm,.int pi,(b2.mono s6).ex,e7,λv7 H7 s7 r7=>?_⟩⟩
            have h7:=(h5.mono s6).mono s7
            have t7:=b4.vj (s6.trans s7)
            refine aq λnO=>?_
            unfold yw at vh
            split at vh
            .rename_i ks xs eT
             split at vh
             .rename_i GV
              cases vh
              have lT:as.length=T.length:=Y3 t7.bP
              obtain⟨b8,Vu,QH⟩:∃c,Ey (as.map V.ref) pi=some (V.ref c)/\as[pq]?=some c:=by
               have bZ:pq<as.length:=by rw[lT];exact(Xf.mp eT).1
               refine⟨as[pq],?_,WW bZ⟩
               unfold Ey
               rw[WZ,lT,<-lX,e8]
               show(as.map V.ref)[pq]?=_
               rw[Xb,WW bZ]
               rfl
              refine nO<|⟨a,_,pi,.ref b8,rfl,r7.int,dq.of t7.lst,Vu,_,qm,.int ki,((b2.mono s6).mono s7).ex,e9,λv9 H9 s9 r9=>?_⟩
              have h9:=h7.mono s9
              refine aq λnO=>?_
              obtain⟨b',O7,f1,f2,f3⟩:=h9.dput eT GV.2 GV.1 (r6.own.mono (s7.trans s9)) hu hn
              rw[QH]at f1
              cases f1
              refine nO ?_
              refine⟨_,O7,rfl,by rw[r9.int];exact f2,?_⟩
              refine aq λnO=>?_
              obtain⟨c,us,O2,c1,ES,QF,c4⟩:=f3.own bJ
              obtain⟨Vv,WK,d1,d2,d3,d4⟩:=id f3
              refine nO ?_
              refine⟨.ref c,c1,.inl ⟨rfl,us,dq.of ES⟩,.ref a,f3.at QG,_,qm,wv,d2.ex,Vr,λv11 O8 Js Vw=>?_⟩
              refine(f3.mono Js).call (Q:=λw2 H'=>zc K (.ref c) [w2] H' λ_ Sz=>D'.nx Vt Sz) Vw.own hw aa MJ λw2 WL QI Vx Vy Vz=>aq λnO=>?_
              obtain⟨bb,zv,rfl,g1,g2⟩:=Vx.lst_inv
              refine nO ?_
              have xI:=Js.trans QI
              refine⟨c,bb,us,zv,rfl,rfl,xI _ _ ES,z_ Vz (d4.vj Js).MF g1,by rw[cQ,QF.length,g2.length];exact a_,?_⟩
              exact k _ _ (c4 _ _ _ xI ((QF.mono xI).append (fy Vy g2 Vs))) (Ac QG wQ)
             .cases vh
            .cases vh
           .cases e
          .cases e
         |_=>cases e
        .cases e
       .cases e
      .cases e
     |_=>cases e
   .cases e
  |_=>cases e
 .cases e
end
def Ih(h:te σ H λv H1=>g v σ H1 D'.nx):mY te g D' σ H:=h
section
variable {X:Cx}{s1 s2 sr s5 s6 ss se:Stmt}{e1 e2 em:Expr}{wp ip rp:Pos}{x y r f m g n1 n2:Nat}{fr:List Nat}{F:FT}{fi:Env->Option (List D)}{fk fv p q u w:Env->Option D}{c1 c2 c3:Env->Option jH}
def ML(hp:PassesOwn (model X.prog X.w) X.A X.env X.xe)(MI:∀ds d,F f ds=some d->ds.length=n1)(MJ:∀ds d,F g ds=some d->ds.length=n2)
  (P1:PS X s1 (mY (nT 1 fr (tI X.K true fi) (cO 0) (tB X.K λ_=>some true) (rn (tV X.K false fk) (tV X.K false fv))) (cO x)))
  (P2:PS X s2 (tC X.K c1)) (Py:PT X e2 (Ab X.K y)) (Pr:PS X sr (mY (Ig X.K n1 (F f) (cY (dn x) (cY (DA y) lF))) (cO r))) (P5:PS X s5 (tC X.K c2)) (Pm:PT X em (Ab X.K m)) (P6:PS X s6 (tC X.K c3))
  (Ps:PS X ss (uF (Ep (BS X.K) (dn x) (tV X.K false p)) (tV X.K false q) (tV X.K false u))) (Pe:PS X se (uo (Nu X.K "list" (zc X.K) (dn y) (cY (Ig X.K n2 (F g) (cY (dn x) (cY (tV X.K false w) lF))) lF)))) (Pt:PE X e1 (dn x)) (n:Nat):
  kO X [s1,s2,.While e2 [sr,s5,.If em [s6,ss,se] [] ip] [] wp,.Return (some e1) rp] (tC X.K λρ=>(fi ρ).bind λxs=>if xs.length<=bE/\x≠y/\x<ρ.length/\qI ρ=true then(walk (qJ fk fv fr ρ) xs).bind λT=>
   (c1 (put ρ x true tm)).bind λo=>match o with
   | .next kI=>if i5 kI x then(gm (i6 F x y r f c2 m c3 p q u g w) y n T kI).map λT=> .ret (.lst T) else none
   |_=>none
  else none):=
 (cf P1 (cf P2 (cf (qy hp Py (cf Pr (cf P5 (cf (En Pm (cf P6 (cf Ps (cf Pe iO))) iO) iO)))) (cf (sG (CL Pt)) iO)))).weak λD' σ H zz=>by
  refine aq λnO=>nI zz λH₀ ab Z kv kd ow ρ out hx hd k=>aa (bind_some hd) λxs qk hd=>nO ?_
  split at hd
  .rename_i hc
   refine aq λnO=>xE hc λhz wQ VA VB=>aa (bind_some hd) λT B0 hd=>aa (bind_some hd) λo e3 hd=>nO<|Zb λnO=>?_
   cases o with
   |next kI=>
    refine nO ?_
    dsimp only at hd
    split at hd
    .rename_i K1
     refine aa (map_some hd) λT' e4 ag=>?_
     subst ag
     refine Ad (Ih (xh hx.ex qk hz B0 λa as H' s t hn=>?_))
     have NT:∀b∈a::as,H₀ b=none:=λb hb=>by
      cases z:H₀ b with
      |none=>rfl
      |some w'=>have:=hx.same _ _ z;rw[hn b hb]at this;cases this
     obtain⟨sb,rF⟩:=hx.tab s t hn VB VA
     have L0:LS X.K H₀ ab a as T (σ.set x (some (.ref a))) H' (put ρ x true tm):=⟨_,_,sb,rF,λb hb=>jj hb,t⟩
     refine L0.run e3 λFX H1 L1=>⟨λi σ H=>∃S ρ,LS X.K H₀ ab a as S σ H ρ/\i5 ρ x=true/\gm (i6 F x y r f c2 m c3 p q u g w) y i S ρ=some T',⟨n,T,kI,L1,K1,e4⟩,?_⟩
     rintro i xF H2 ⟨S,xJ,JF,SU,e5⟩
     refine aq λnO=>?_
     cases i with
     |zero=>cases e5
     |succ i=>
      refine nO ?_
      rw[gm]at e5
      refine aa (bind_some e5) λl e6 e5=>JF.SR (xg e6) ?_
      cases hl:l.isEmpty with
      |true=>
       rw[hl,Xl rfl]at e5
       cases e5
       refine m_ ?_
       refine⟨.ref a,JF.at SU,as,?_,?_,λH3 fz=>?_⟩
       .exact aq λnO=>gH JF λ_ _ _ _ _ t4=>nO<|(XB.mp t4.nd).2
       .exact aq λnO=>gH JF λ_ _ _ _ _ t4=>nO<|t4.mut
       .obtain⟨q1,q2⟩:=JF.ret NT hx.o0 fz
        exact k _ _ q1 q2
      |false=>
       rw[hl,Xs W2]at e5
       refine aq λnO=>?_
       obtain⟨⟨S',ρ'⟩,e7,e5⟩:=bind_some e5
       refine nO ?_
       refine lK ⟨λbY H'=>∃S ρ,LS X.K H₀ ab a as S bY H' ρ/\i5 ρ x=true/\gm (i6 F x y r f c2 m c3 p q u g w) y i S ρ=some T',λbY H' h=>⟨i,YH i,h⟩,?_⟩
       exact JF.turn NT SU wQ e6 MI MJ e7 λbY H' L3 QE=>⟨S',ρ',L3,QE,e5⟩
    .cases hd
   |_=>cases hd
  .cases hd
end
section
variable {X:Cx}{c e:Expr}{st:Stmt}{pos px:Pos}{x:Str}{i:Nat}
def MM(hi:X.N[i]?=some x)(hv:v8 X.env.scope x)(Ds:(x==("__debug__":Str))=false)(m7:(x==("__classdict__":Str))=false)(hl:(ap.endLine==cp.line)=true)(he:PE X e (tV X.K false f))(hn:bL e=true):
  PS X (.Expr (.Call (.Attribute (.Name x px) "append" ap) [e] [] cp) pos) (tC X.K λρ=>(f ρ).bind λd=>match ρ[i]? with
   |some (some (true,.lst xs))=>if xs.length<bE then some (.next (put ρ i true (.lst (xs++[d])))) else none
   |_=>none):=
 (oV (uz Yz PySem.F.slot_list_append PySem.F.type_list_append nQ (bQ hi hv Ds m7) (cu he dN (bV hn)) rfl (by rw[bV hn];rfl) hl (bV hn) rfl) rfl).weak λD' σ H zz=>by
  refine aq λnO=>nI zz λH₀ ab Z kv kd ow ρ out hx hd k=>aa (bind_some hd) λd e1 hd=>nO ?_
  split at hd
  .rename_i xs E7
   split at hd
   .rename_i hz
    refine aq λnO=>?_
    cases hd
    refine aa (hx.own i _ E7) λa o2 o1=>?_
    have o1:ow i=some a:=o1.elim (λz=>z.2) λz=>nomatch z.1
    refine aa (hx.ex.jI i true _ E7) λw' q1 q2=>bJ q2 λa' e6 e8 c0=>aa c0.lst λvs e9 vh=>?_
    rw[o2]at q1
    cases q1
    cases e6
    refine nO ?_
    refine⟨.ref a,o2,.inl ⟨rfl,vs,dq.of e9⟩,Os ab ow,ρ,d,hx.ex,e1,λv H1 s1 r1=>?_⟩
    have rF:=hx.mono s1
    have NX:=s1 _ _ e9
    refine⟨a,vs,v,rfl,rfl,NX,?_,?_⟩
    .rw[cQ,vh.length];exact hz
    .exact k ow _ _ (rF.wr o1 o2 NX ((vh.mono s1).append (.cons r1.own .nil)))
   .cases hd
  .cases hd
end
structure Cs(X:Cx)(G:GT)(F:FT):Prop where
 ct:Ct X G F
 fn:∀x,X.fn x=true
 nd:X.N.Nodup
 pass:PassesOwn (model X.prog X.w) X.A X.env X.xe
structure cR(G:GT)(F:FT)(c:C):Prop where
 s:∀X,Cs X G F->∀st,HQ G c X.N X.env.scope st=true->PS X st (tC X.K (ex F c))
 ss:∀X,Cs X G F->∀sE,hJ G c X.N X.env.scope sE=true->kO X sE (tC X.K (ex F c))
section
variable {G:GT}{F:FT}
def cR.gc(s:∀X,Cs X G F->∀st,HQ G c X.N X.env.scope st=true->PS X st (tC X.K (ex F c)))(n:∀N sc sE,hJ G c N sc sE=false:=by intro _ _ _;rfl):cR G F c:=⟨s,λX hC sE h=>absurd h (by rw[n];exact W2)⟩
def DB:cR G F .skip where
 s:=λX hC st h=>ff h
 ss:=λX hC sE h=>by
  cases sE with
  |nil=>exact HS
  |cons _ _=>exact ff h
def Ii(ha:cR G F a)(hb:cR G F b):cR G F (.seq a b) where
 s:=λX hC st h=>ff h
 ss:=λX hC sE h=>by
  cases sE with
  |nil=>exact ff h
  |cons s r=>
   change (HQ G a X.N X.env.scope s&&hJ G b X.N X.env.scope r)=true at h
   simp only[WX]at h
   exact My (ha.s X hC s h.1) (hb.ss X hC r h.2)
def vm{el:Expr}{gs:List Comprehension}{gx:Scope}{p px pos:Pos}{x:Str}{env:PySem.Env}(hs:¬swapsWith (.ListComp el gs gx p) (some (.Name x px)) pos.line env=pure false):env.scope.names.lookup x=some .local /\swapsWith (.ListComp el gs gx p) (some (.Name x px)) pos.line env=pure true:=by
 have e0:swapsWith (.ListComp el gs gx p) (some (.Name x px)) pos.line env=pure (env.blockKind == .function&&env.kindOf x==some .local&&px.line==p.line
   && !(gx.names.any λ(n,k)=>n==x&&(k == .local||k == .cell))):=rfl
 cases eb:(env.blockKind == .function&&env.kindOf x==some .local&&px.line==p.line&&!(gx.names.any λ(n,k)=>n==x&&(k == .local||k == .cell)))with
 |false=>rw[eb]at e0;exact absurd e0 hs
 |true=>
  rw[eb]at e0
  simp only[WX]at eb
  exact⟨eq_of_beq eb.1.1.2,e0⟩
def Ij:cR G F (.asg i e):= .gc λX hC st h=>by
 refine mS (fN (st:=st) h) λx px v pos ag hb=>?_
 subst ag
 replace h:=hb
 simp only[WX,decide_eq_true_eq,Y8]at h
 obtain⟨⟨⟨h1,h2⟩,h3⟩,h4⟩:=h
 exact Mz hC.nd h1 (fP h2) (hC.fn _) ((snd e).e X hC.ct v h3 false) (me h4)
def DC:cR G F (.bK i e):= .gc λX hC st h=>by
 refine mS (fN (st:=st) h) λx px v pos ag hb=>?_
 subst ag
 replace h:=hb
 simp only[WX,decide_eq_true_eq]at h
 obtain⟨⟨⟨⟨h1,h2⟩,h3⟩,h4⟩,h0⟩:=h
 by_cases hs:swapsWith v (some (.Name x px)) pos.line X.env=pure false
 .exact oD (iw hC.nd h1 (fP h2) ((snd e).f X hC.ct v h3 h4) hs (.inl (hC.fn _))) (λσ H Q z=>z)
 .have hv:fO v=true:=by
   cases z:fO v with
   |true=>rfl
   |false=>exact absurd (me z) hs
  rw[hv]at h0
  cases e with
  |comp fr tg it ifs dO=>
   refine RO (oA h3) λel n q iter fs gx p cZ nu Qh NP h5 h6 h7=>?_
   subst cZ
   subst nu
   have e0:=vm hs
   refine oD (lM ((snd it).i X hC.ct _ iter h5 true) (pW NP).1 hC.ct.calm NQ (ma hC.ct (snd it) (snd ifs) (snd dO) NP h5 h6 h7) (dM Qh) hC.nd h1 e0.1 e0.2) (λσ H Q z=>?_)
   exact oj Mf σ H Q (vg σ H Q z)
  |_=>exact ff h0
def DD:cR G F (.qG is e):= .gc λX hC st h=>by
 refine kC (gv (st:=st) h) λzU v pos zr h=>aa (bW h) λtg aP cT=>?_
 subst zr aP
 cases tg with
 |Tuple es k0 p=>
  change (!is.isEmpty&&c_ X.N X.env.scope is es&&bM G e X.N X.env.scope v&&zS v)=true at cT
  simp only[WX]at cT
  obtain⟨⟨⟨h0,h1⟩,h2⟩,h3⟩:=cT
  exact HX hC.ct.calm hC.nd hC.fn h1 ((snd e).e X hC.ct v h2 false) h3 (by cases is with|nil=>cases h0|cons _ _=>exact aaC _)
 |_=>exact ff cT
def DE:cR G F (.fY i ix e):= .gc λX hC st h=>by
 refine kC (gv (st:=st) h) λzU v pos zr h=>aa (bW h) λo aP h=>kC (jq h) λn k p2 cZ h=>ef (cM h) λx px nu cT=>?_
 subst zr aP cZ nu
 simp only[WX,decide_eq_true_eq]at cT
 obtain⟨⟨⟨⟨⟨h1,h2⟩,h3⟩,h4⟩,h5⟩,h6⟩:=cT
 exact HU h1 (jZ h2) (cI h3).1 (cI h3).2 ((snd ix).e X hC.ct _ h4 false) h5 ((snd e).e X hC.ct v h6 false)
def Ik:cR G F (.app i e):= .gc λX hC st h=>by
 refine ef (jY (st:=st) h) λex pos zr h=>Jj (fu h) λo m ap as cp aP h=>aa (bW h) λv cZ h=>ef (cM h) λx px nu cT=>?_
 subst zr aP cZ nu
 simp only[WX,decide_eq_true_eq]at cT
 obtain⟨⟨⟨⟨⟨⟨h1,h2⟩,h3⟩,rfl⟩,h4⟩,h5⟩,h6⟩:=cT
 exact MM h1 (jZ h2) (cI h3).1 (cI h3).2 h4 ((snd e).e X hC.ct _ h5 false) h6
def Il:cR G F (.ret e):= .gc λX hC st h=>by
 cases st with
 |Return o pos=>
  cases o with
  |none=>exact ff h
  |some v=>
   have h:bM G e X.N X.env.scope v=true:=h
   cases e with
   |var i=>
    cases v with
    |Name x px=>
     change (decide (X.N[i]?=some x)&&pT X.env.scope x&&w6 x)=true at h
     simp only[WX,decide_eq_true_eq]at h
     obtain⟨⟨h1,h2⟩,h3⟩:=h
     exact HV h1 (jZ h2) (cI h3).1 (cI h3).2
    |_=>exact ff h
   |_=>exact MA ((snd _).e X hC.ct v h false)
 |_=>exact ff h
def Im(ht:cR G F t)(hu:cR G F u):cR G F (.ifs c t u):= .gc λX hC st h=>by
 cases st with
 |If x a b pos=>
  change (bM G c X.N X.env.scope x&&CW c&&hJ G t X.N X.env.scope a&&hJ G u X.N X.env.scope b)=true at h
  simp only[WX]at h
  obtain⟨⟨⟨h1,h2⟩,h3⟩,h4⟩:=h
  exact Qy ((snd c).t X hC.ct x h1 h2) (ht.ss X hC a h3) (hu.ss X hC b h4)
 |_=>exact ff h
def Ae(hb:cR G F b):cR G F (.while c b):= .gc λX hC st h=>by
 cases st with
 |While x a o pos=>
  change (o.isEmpty&&bM G c X.N X.env.scope x&&CW c&&hJ G b X.N X.env.scope a)=true at h
  simp only[WX]at h
  obtain⟨⟨⟨h0,h1⟩,h2⟩,h3⟩:=h
  cases o with
  |cons _ _=>exact ff h0
  |nil=>exact Dt hC.pass ((snd c).t X hC.ct x h1 h2) (hb.ss X hC a h3) hZ
 |_=>exact ff h
def SV(hC:Ct X G F)(h:HN G it X.N X.env.scope qp iter=true):PI X qp iter (tI X.K false (kH F false it)):=by
 cases it with
 |sv a=>
  cases qp with
  |Tuple es k p=>
   refine mS (gw (e:=iter) h) λx q a0 cp zr cT=>?_
   subst zr
   simp only[WX,decide_eq_true_eq]at cT
   obtain⟨⟨⟨rfl,h1⟩,h2⟩,h3⟩:=cT
   exact Mc (eI h1) (hC.mg _ (by simp[iG])) ((snd a).e X hC _ h2 false) (bV h3)
  |_=>exact ff h
 |_=>exact(snd _).i X hC _ iter h false
def Io:ex F (.for is tg it b)=λρ=>(λρ=>(kH F false it ρ).bind λxs=>aM (λy ρ=>((aE tg y).bind (cz ρ is)).bind (ex F b)) xs ρ) (dP it ρ):=by
 funext ρ
 have e:(λ(x:D) (ρ:Env)=>(aE tg x).bind λys=>(cz ρ is ys).bind λρ'=>ex F b ρ')=λy ρ=>((aE tg y).bind (cz ρ is)).bind (ex F b):=by
  funext y ρ
  cases aE tg y<;>rfl
 show(kH F false it (dP it ρ)).bind (λxs=>aM (λx ρ=>(aE tg x).bind λys=>(cz ρ is ys).bind λρ'=>ex F b ρ') xs (dP it ρ))=_
 rw[e]
def Ip(hb:cR G F b):cR G F (.for is tg it b):= .gc λX hC st h=>by
 cases st with
 |For qp iter a o pos=>
  change (o.isEmpty&&gu iter&&hJ G b X.N X.env.scope a&&HM X.N X.env.scope is tg qp&&HN G it X.N X.env.scope qp iter)=true at h
  simp only[WX]at h
  obtain⟨⟨⟨⟨h0,h1⟩,h2⟩,h3⟩,h4⟩:=h
  cases o with
  |cons _ _=>exact ff h0
  |nil=>
   rw[Io]
   refine zY (it:=it) (g:=λρ=>(kH F false it ρ).bind λxs=>aM (λy ρ=>((aE tg y).bind (cz ρ is)).bind (ex F b)) xs ρ) ?_
   unfold HM at h3
   cases qp with
   |Name x p=>
    simp only[WX,decide_eq_true_eq]at h3
    obtain⟨⟨rfl,h5⟩,h6⟩:=h3
    obtain⟨i,rfl⟩:∃i,is=[i]:=by
     cases is with
     |nil=>cases h6
     |cons i t=>cases t with|nil=>exact⟨i,rfl⟩|cons _ _=>cases h6
    unfold c_ at h5
    simp only[WX,decide_eq_true_eq]at h5
    exact E8 (setT:=λρ d=>some (put ρ i false d)) hC.pass hC.ct.calm (kP hC.nd h5.1.1 (fP h5.1.2) (.inl (hC.fn _))) Du (SV hC.ct h4) (hb.ss X hC a h2) (dM h1)
   |Tuple es k p=>
    simp only[WX,decide_eq_true_eq]at h3
    obtain⟨⟨rfl,h5⟩,h6⟩:=h3
    refine cN (j4 hC.nd hC.fn h6) λq1 q2 q3=>?_
    have Iq:0<is.length:=by
     cases is with
     |nil=>
      unfold c_ at h6
      rw[h6]at h5
      cases h5
     |cons _ _=>exact aaC _
    exact E8 hC.pass hC.ct.calm (yF hC.ct.calm q1 q2 q3) (zX Iq) (SV hC.ct h4) (hb.ss X hC a h2) (dM h1)
   |_=>exact ff h3
 |_=>exact ff h
def DF:cR G F (.pA i t es):= .gc λX hC st h=>by
 refine mS (fN (st:=st) h) λx px v pos zr cT=>?_
 subst zr
 rw[WX,WX,decide_eq_true_eq]at cT
 obtain⟨⟨h1,h2⟩,E5⟩:=cT
 refine kC (ou E5) λks vs dp zr h=>aa (bW h) λko aP h=>aa (ox h) λke cZ h=>aa (bW h) λwe nu h3=>?_
 subst zr aP cZ nu
 simp only[WX,decide_eq_true_eq]at h3
 refine jC (zH (F:=F) h3.2) λa b ag k1 _ k2 _=>?_
 subst ag
 have e0:ex F (.pA i t (.cons a (.cons b .nil)))=λρ=>if t=2 then none else((ev F false a ρ).bind λx=>(ev F false b ρ).bind λy=>(dD t x).map λz=>D.bP t [z] [y]).map λd=> .next (put ρ i true d):=by
  funext ρ
  show(if t=2 then none else((cD F false (.cons a (.cons b .nil)) ρ).bind (yr t)).map λd=>jH.next (put ρ i true d))=_
  rw[cD]
  cases ev F false a ρ with
  |none=>rfl
  |some x=>
   show(if t=2 then none else(((cD F false (.cons b .nil) ρ).bind λxs=>some (x::xs)).bind (yr t)).map λd=>jH.next (put ρ i true d))=_
   rw[cD]
   cases ev F false b ρ with
   |none=>rfl
   |some y=>rfl
 rw[e0]
 exact Dw hC.ct.units hC.nd h1 (fP h2) (hC.fn _) h3.1 ((snd a).e X hC.ct ke k1 false) ((snd b).e X hC.ct we k2 false)
def DG:cR G F (.qH i k e):= .gc λX hC st h=>by
 refine kC (gv (st:=st) h) λzU v pos zr h=>aa (bW h) λt aP h=>kC (jq h) λo ix sp cZ cT=>?_
 subst zr aP cZ
 simp only[WX,Y8]at cT
 obtain⟨⟨⟨⟨h1,h2⟩,h3⟩,h4⟩,h5⟩:=cT
 refine jC (b_ h1) λx q ag n1 n2 n3 n4=>?_
 subst ag
 exact HZ hC.ct.units n1 n2 n3 n4 ((snd k).e X hC.ct _ h2 false) ((snd e).e X hC.ct v h4 false) (λt=>me h5)
def Af(h:zT N sc y e=true):∃x px ap cp,e= .Call (.Attribute (.Name x px) "pop" ap) [] [] cp/\N[y]?=some x/\v8 sc x/\(x==("__debug__":Str))=false/\(x==("__classdict__":Str))=false/\(ap.endLine==cp.line)=true:=by
 refine Jj (fu h) λe2 nm ap as cp zr cT=>?_
 subst zr
 simp only[WX,decide_eq_true_eq,aaj]at cT
 obtain⟨⟨⟨rfl,rfl⟩,h1⟩,h2⟩:=cT
 refine jC (b_ h1) λx q ag n1 n2 n3 n4=>?_
 subst ag
 exact⟨x,q,_,cp,rfl,n1,n2,n3,n4,h2⟩
def Ir:cR G F (.EK i j):= .gc λX hC st h=>by
 refine mS (fN (st:=st) h) λx px v pos ag hb=>?_
 subst ag
 replace h:=hb
 simp only[WX,decide_eq_true_eq]at h
 refine jC (b_ h.2) λy q cZ n1 n2 n3 n4=>?_
 subst cZ
 exact MB hC.nd h.1.1 (fP h.1.2) (hC.fn _) (bQ n1 n2 n3 n4)
def Iu:cR G F (.pop i j):= .gc λX hC st h=>by
 refine mS (fN (st:=st) h) λx px v pos ag hb=>?_
 subst ag
 replace h:=hb
 simp only[WX,decide_eq_true_eq]at h
 refine Bv (Af h.2) λy q ap cp cZ n1 n2 n3 n4 n5=>?_
 subst cZ
 exact MC hC.nd h.1.1 (fP h.1.2) (hC.fn _) (bQ n1 n2 n3 n4) rfl n5
def Iv:cR G F (.ext i e):= .gc λX hC st h=>by
 refine ef (jY (st:=st) h) λex pos zr h=>Jj (fu h) λo m ap as cp aP h=>aa (bW h) λv cZ h=>ef (cM h) λx px nu cT=>?_
 subst zr aP cZ nu
 simp only[WX,decide_eq_true_eq]at cT
 obtain⟨⟨⟨⟨⟨⟨h1,h2⟩,h3⟩,rfl⟩,h4⟩,h5⟩,h6⟩:=cT
 exact MD h1 (jZ h2) (cI h3).1 (cI h3).2 h4 ((snd e).e X hC.ct _ h5 false) h6
def Ff(hC:Ct X G F)(h:Dl G x f X.N X.env.scope e ok=true)(hw:∀w,ok w=true->PE X w tw):∃n:Nat,(∀ds d,F f ds=some d->ds.length=n)/\PE X e (Ig X.K n (F f) (cY (dn x) (cY tw lF)))/\fO e=false/\bL e=true:=by
 refine mS (fq h) λn pn as cp zr h=>ef (zD h) λe1 w aP cT=>?_
 subst zr aP
 simp only[WX,decide_eq_true_eq]at cT
 refine aq λnO=>?_
 obtain⟨⟨⟨⟨⟨h1,h2⟩,h3⟩,h4⟩,h5⟩,h6⟩:=cT
 refine jC (b_ h4) λy q ag n1 n2 n3 n4=>?_
 subst ag
 exact Bv (hC.call f n h1) λk fa fd ps g5 g6 g7 g8 g9 LF=>nO<|⟨ps.length,LF,zb g5 g6 (eI h2) g7 g8 g9 (cu (bQ n1 n2 n3 n4) (cu (hw w h5) dN (bV h6)) rfl) (cI h3).1 rfl (by rw[bV h6];rfl),rfl,rfl⟩
def Iw{st:Stmt}(h:E6 G x p q u N sc st=true):∃e1 pe qe e p1 p2 p3,st= .Assign [.Subscript (.Subscript e1 pe p1) qe p2] e p3/\(dw N sc x e1&&bM G p N sc pe&&cw pe&&bM G q N sc qe&&cw qe&&bM G u N sc e&&!fO e)=true:=by
 exact kC (gv h) λzU e p3 z h=>aa (bW h) λo z2 h=>kC (jq h) λo2 qe p2 z3 h=>kC (jq h) λe1 pe p1 z4 h=>⟨e1,pe,qe,e,p1,p2,p3,by rw[z,z2,z3,z4],h⟩
def Iy{st:Stmt}(h:Mt G x y g w N sc st=true):∃e2 m ap v cp pos,st= .Expr (.Call (.Attribute e2 m ap) [v] [] cp) pos/\(dw N sc y e2&&decide (m="extend")&&(ap.endLine==cp.line)&&bL v&&Dl G x g N sc v (bM G w N sc))=true:=by
 exact ef (jY h) λe p z h=>Jj (fu h) λo m ap as cp z2 h=>aa (bW h) λv z3 h=>⟨o,m,ap,v,cp,p,by rw[z,z2,z3],h⟩
def MN{X:Cx}(hC:Cs X G F){x:Nat}{fr:List Nat}{it k v:E}{st:Stmt}(h:Mr G x fr it k v X.N X.env.scope st=true):PS X st (mY (nT 1 fr (tI X.K true (kH F true it)) (cO 0) (tB X.K λ_=>some true) (rn (tV X.K false (ev F false k)) (tV X.K false (ev F false v)))) (cO x)):=by
 refine mS (fN h) λa pa e pos zr cT=>?_
 subst zr
 rw[WX,WX,decide_eq_true_eq]at cT
 obtain⟨⟨h1,h2⟩,E5⟩:=cT
 refine mS (u_ E5) λel gs gx lp zr h=>kC (ou h) λks vs dp aP h=>aa (bW h) λko cZ h=>aa (ox h) λke nu h=>aa (bW h) λve L_ h=>aa (bW h) λg L' QJ=>?_
 obtain⟨qp,iter,fs,kk⟩:=g
 refine ef (cM QJ) λn q JB NY=>?_
 change qp=_ at JB
 subst zr aP cZ nu L_ L' JB
 simp only[WX,decide_eq_true_eq,aaj]at NY
 obtain⟨⟨⟨⟨⟨⟨rfl,rfl⟩,h3⟩,h4⟩,h5⟩,h6⟩,h7⟩:=NY
 refine cN (pW h4) λS Qw nd=>have hl:=Qw _ W6;?_
 have parts:∀cl C U s H ex,PG (gU X gx cl C (nD X.N [n] fr) U s H ex) (.Name n q) (cO 0)/\wy (gU X gx cl C (nD X.N [n] fr) U s H ex) [] (tB X.K λ_=>some true)/\PE (gU X gx cl C (nD X.N [n] fr) U s H ex) (.Dict [some ke] [ve] dp) (rn (tV X.K false (ev F false k)) (tV X.K false (ev F false v))):=λcl C U s H ex=>by
  have JD:=hC.ct.inner gx cl C (nD X.N [n] fr) U s H ex
  refine⟨kP nd rfl (pV hl).1 (pV hl).2,zy,CM ?_ ((snd k).e _ JD ke h6 false) ((snd v).e _ JD ve h7 false)⟩
  have:=JD.units
  lia
 by_cases hs:swapsWith (.ListComp (.Dict [some ke] [ve] dp) [⟨.Name n q,iter,[],0⟩] gx lp) (some (.Name a pa)) pos.line X.env=pure false
 .exact iw hC.nd h1 (fP h2) (uA ((snd it).i X hC.ct _ iter h5 true) S hC.ct.calm NQ parts (dM h3)) hs (.inl (hC.fn _))
 .have e0:=vm hs
  exact lM ((snd it).i X hC.ct _ iter h5 true) S hC.ct.calm NQ parts (dM h3) hC.nd h1 e0.1 e0.2
def Iz(h1:cR G F c1)(h2:cR G F c2)(h3:cR G F c3):cR G F (.fst x fr it k v c1 y r f c2 m c3 p q u g w) where
 s:=λX hC st h=>ff h
 ss:=λX hC sE h=>by
  refine sF (HP h) λs1 s2 s3 s4 ag o1 o2 oW oR=>?_
  subst ag
  refine Ni (Dp oW) λe2 sr s5 sI wp aP o3 o4 o5 oI=>?_
  subst aP
  refine Ni (Dm oI) λem s6 ss se ip cZ o6 o7 o8 o9=>?_
  subst cZ
  refine ef (Dq oR) λe1 rp nu VC=>?_
  subst nu
  refine jC (b_ o3) λyn yq L_ y1 y2 y3 y4=>?_
  subst L_
  refine jC (b_ o6) λmn mq L' m1 m2 m3 m4=>?_
  subst L'
  refine jC (b_ VC) λxn xq JB x1 x2 x3 x4=>?_
  subst JB
  have Pr:∃n1,(∀ds d,F f ds=some d->ds.length=n1)/\PS X sr (mY (Ig X.K n1 (F f) (cY (dn x) (cY (DA y) lF))) (cO r)):=by
   refine mS (fN (st:=sr) o4) λxr pr e pos Qg hb=>?_
   subst Qg
   replace o4:=hb
   simp only[WX,decide_eq_true_eq]at o4
   obtain⟨n,g1,g2,g3,_⟩:=Ff hC.ct o4.2 (tw:=DA y) λw hw=>by
    refine Bv (Af hw) λyy q ap cp Hn n1 n2 n3 n4 n5=>?_
    subst Hn
    exact z9 (bQ n1 n2 n3 n4) rfl n5
   exact⟨n,g1,iw hC.nd o4.1.1 (fP o4.1.2) g2 (me g3) (.inl (hC.fn _))⟩
  refine aa Pr λn1 MI Pr=>?_
  have Ps:PS X ss (uF (Ep (BS X.K) (dn x) (tV X.K false (ev F false p))) (tV X.K false (ev F false q)) (tV X.K false (ev F false u))):=by
   obtain⟨e1,pe,qe,e,p1,p2,p3,rfl,SW⟩:=Iw o8
   simp only[WX,Y8]at SW
   obtain⟨⟨⟨⟨⟨⟨t1,t2⟩,t3⟩,t4⟩,t5⟩,t6⟩,t7⟩:=SW
   refine jC (b_ t1) λxx q' Ho n1 n2 n3 n4=>?_
   subst Ho
   exact uG (by have:=hC.ct.units;lia) (Ez ux (bQ n1 n2 n3 n4) ((snd p).e X hC.ct _ t2 false) (l6 t3)) ((snd q).e X hC.ct _ t4 false) ((snd u).e X hC.ct _ t6 false) (me t7)
  have Pe:∃n2,(∀ds d,F g ds=some d->ds.length=n2)/\PS X se (uo (Nu X.K "list" (zc X.K) (dn y) (cY (Ig X.K n2 (F g) (cY (dn x) (cY (tV X.K false (ev F false w)) lF))) lF))):=by
   obtain⟨e2,m,ap,v,cp,pos,rfl,SY⟩:=Iy o9
   simp only[WX,decide_eq_true_eq]at SY
   obtain⟨⟨⟨⟨t1,rfl⟩,t3⟩,t4⟩,t5⟩:=SY
   refine jC (b_ t1) λyy q' Hq n1 n2 n3 n4=>?_
   subst Hq
   exact Bj (Ff hC.ct t5 (tw:=tV X.K false (ev F false w)) λwe hw=>(snd w).e X hC.ct we hw false) λn g1 g2 _ _=>⟨n,g1,oV (uz Yz Z9 Z_ zf (bQ n1 n2 n3 n4) (cu g2 dN (bV t4)) rfl (by rw[bV t4];rfl) t3 (bV t4) rfl) rfl⟩
  exact aa Pe λn2 MJ Pe=>ML hC.pass MI MJ (MN hC o1) (h1.s X hC s2 o2) (qA (bQ y1 y2 y3 y4) λ_=>rfl) Pr (h2.s X hC s5 o5) (qA (bQ m1 m2 m3 m4) λ_=>rfl) (h3.s X hC s6 o7) Ps Pe (bQ x1 x2 x3 x4) hZ
def QK(c:C):cR G F c:=by
 induction c with
 |skip=>exact DB
 |seq a b ha hb=>exact Ii ha hb
 |asg i e=>exact Ij
 |bK i e=>exact DC
 |fY i ix e=>exact DE
 |app i e=>exact Ik
 |ret e=>exact Il
 |ifs c t u ht hu=>exact Im ht hu
 |«while» c b hb=>exact Ae hb
 |qG is e=>exact DD
 |«for» is tg it b hb=>exact Ip hb
 |pA i t es=>exact DF
 |qH i k e=>exact DG
 |pop i j=>exact Iu
 |EK i j=>exact Ir
 |ext i e=>exact Iv
 |fst x fr it k v c1 y r f c2 m c3 p q u g w h1 h2 h3=>exact Iz h1 h2 h3
end
structure Ag(K:PySem.W.Frag)(mg:Str->Option Value)(G:GT)(x:Str)(d:Fd):Prop where
 ex:∃(st:Stmt) (fa:Addr) (fd:FuncData) (N ps:List Str),EA K x x st fa fd/\gI N ps (aH st)/\Binds K fd ps []/\mg x=some (.ref fa)/\hJ G d.body N (aH st) (b7 st)=true/\ps.length=d.par/\N.length=d.jI
def Ah{K:PySem.W.Frag}{H:Hp}{O:Addr->Prop}{vs:List V}{ds:List D}{N:List Str}{d:Fd}(hO:∀a,O a->∃u,H a=some u/\rA u)(r:av K O H vs ds)(h1:ds.length=d.par)(h2:N.length=d.jI):SX K H O (λ_=>False) [] [] (λ_=>none) (start N vs) H (ae d ds):=by
 have hl:=r.length
 have sub:∀a,Os O (λ_=>none) a->O a:=λa z=>z.elim id λ⟨_,z⟩=>nomatch z
 have nm:∀(i:Nat) (o:Bool) (dd:D),(ae d ds)[i]?=some (some (o,dd))->o=false/\ds[i]?=some dd:=λi o dd hi=>by
  unfold ae at hi
  by_cases bZ:i<ds.length
  .rw[XI (by simpa using bZ),Xb]at hi
   refine aa (map_some hi) λy e1 e2=>?_
   cases e2
   exact⟨rfl,e1⟩
  .rw[XN (by simpa using bZ),aad]at hi
   split at hi<;>cases hi
 refine⟨⟨λa ha=>hO a (sub a ha),λi o dd hi=>?_⟩,λi dd hi=>?_,λi j a h _=>(nomatch h),λi a h=>(nomatch h),af.refl _,.nil,λa ha=>let ⟨us,e,_⟩:=hO a ha;⟨_,e⟩,?_⟩
 .obtain⟨rfl,e⟩:=nm i o dd hi
  refine aa (r.get e) λv e1 e2=>⟨v,?_,bA.weak e2 sub⟩
  unfold L2.start
  have bZ:i<vs.length:=(Xf.mp e1).1
  rw[XI (by simpa using bZ),Xb,e1]
  rfl
 .exact absurd (nm i true dd hi).1 (by decide)
 .unfold ae L2.start
  simp only[W_,WZ,YX]
  lia
def vn(P:Program)(w:World)(K:PySem.W.Frag)(mg:Str->Option Value)(base:Heap)(G:GT)(T:List Fd)(n:Nat):Prop:=
 ∀(f:Nat) (x:Str),G.1[f]?=some x->∃(fa:Addr) (fd:FuncData) (ps:List Str),iQ P w K mg base wu n fa fd ps (u5 K ps.length (run T n f))/\mg x=some (.ref fa)/\PySem.W.keepIn K (.ref fa)=true/\Binds K fd ps []/\∀ds d,run T n f ds=some d->ds.length=ps.length
section
variable {P:Program}{w:World}{K:PySem.W.Frag}{mg:Str->Option Value}{base:Heap}{G:GT}{T:List Fd}
def rN(hT:T[f]?=some d)(z:run T (n+1) f ds=some r):ds.length=d.par/\out (ex (run T n) d.body (ae d ds))=some r:=by
 unfold run at z
 rw[hT]at z
 dsimp only at z
 split at z
 .rename_i q;exact⟨q,z⟩
 .cases z
def Ai{n f:Nat}{x:Str}{st:Stmt}{fa:Addr}{fd:FuncData}{N ps:List Str}{d:Fd}(hb:∀x∈iG,mg x=none)(yc:∀(x:Str) (i:Int),(x,i)∈G.2->∃t,mg x=some (.int i t))(ih:vn P w K mg base G T n)(F:EA K x x st fa fd)(S:gI N ps (aH st))(hT:T[f]?=some d)
  (ok:hJ G d.body N (aH st) (b7 st)=true) (l1:ps.length=d.par) (l2:N.length=d.jI):iQ P w K mg base wu (n+1) fa fd ps (u5 K ps.length (run T (n+1) f)):=by
 refine F.ok S (λvs H Q E z=>?_) (λeQ A outer s H vs Q E hr z=>?_)
 .exact so z λ_ _ _ _ _ _ q _=>q
 .refine so z λO ds r hO hR Mk hl k=>?_
  obtain⟨q1,q2⟩:=rN hT Mk
  have VD:Cs (sQ wu P w K mg base N x (aH st) fa eQ A outer s H E).Kc G (run T n):=by
   refine⟨⟨rfl,hr.units,hb,yc,λg y hy=>?_⟩,λ_=>rfl,S.nd,PassesOwn.never⟩
   exact so (ih g y hy) λga gd VE G1 G2 G3 G4 G5=>⟨n,ga,gd,VE,G1,hr,G2,G3,G4,G5⟩
  cases eo:ex (run T n) d.body (ae d ds)with
  |none=>rw[eo]at q2;cases q2
  |some o=>
   rw[eo]at q2
   refine⟨tC K (ex (run T n) d.body),(QK d.body).ss _ VD _ ok,H,O,λ_=>False,[],[],λ_=>none,ae d ds,o,Ah hO hR q1 l2,eo,?_⟩
   cases o with
   |ret dd=>cases q2;exact k
   |next ρ'=>cases q2;exact λow σ H' y8=>k .cy H' y8.same .cy
   |brk _=>cases q2
   |cont _=>cases q2
def tY(P:Program)(w:World)(K:PySem.W.Frag)(mg:Str->Option Value)(base:Heap)(G:GT)(T:List Fd)(f:Nat)(x:Str):Prop:=
 ∃(fa:Addr) (fd:FuncData) (ps:List Str),mg x=some (.ref fa)/\PySem.W.keepIn K (.ref fa)=true/\Binds K fd ps []/\(∀n ds d,run T n f ds=some d->ds.length=ps.length)/\
  ∀n,(∀m,m<=n->vn P w K mg base G T m)->iQ P w K mg base wu (n+1) fa fd ps (u5 K ps.length (run T (n+1) f))
def Ag.step(hb:∀x∈iG,mg x=none)(yc:∀(x:Str) (i:Int),(x,i)∈G.2->∃t,mg x=some (.int i t))(hT:T[f]?=some d)(h:Ag K mg G x d):tY P w K mg base G T f x:=by
 refine aq λnO=>?_
 obtain⟨st,fa,fd,N,ps,F,S,B,m,ok,l1,l2⟩:=h
 refine nO ?_
 refine⟨fa,fd,ps,m,F.kp,B,λn ds r z=>?_,λn ih=>?_⟩
 .cases n with
  |zero=>exact nomatch z
  |succ n=>exact(rN hT z).1.trans l1.symm
 .exact Ai hb yc (ih n (W9 _)) F S hT ok l1 l2
def DH(h:∀(f:Nat) (x:Str),G.1[f]?=some x->tY P w K mg base G T f x)(n:Nat):vn P w K mg base G T n:=by
 have all:∀n m:Nat,m<=n->vn P w K mg base G T m:=by
  intro n
  induction n with
  |zero=>
   intro m hm f x hx
   obtain rfl:m=0:=by lia
   refine so (h f x hx) λfa fd ps mm kp B l _=>?_
   have no:∀vs H Q E,¬u5 K ps.length (run T 0 f) vs H Q E:=λvs H Q E z=>by
    refine Ng z λ_ _ _ _ _ z _=>?_
    cases z
   exact⟨fa,fd,ps,⟨λvs H Q E z=>absurd z (no vs H Q E),λA outer s H args us vs Q E _ _ _ _ z=>absurd z (no vs H Q E)⟩,mm,kp,B,λds d z=>nomatch z⟩
  |succ n ih=>
   intro m hm
   by_cases he:m=n+1
   .subst he
    intro f x hx
    exact so (h f x hx) λfa fd ps mm kp B l st=>⟨fa,fd,ps,st n ih,mm,kp,B,l (n+1)⟩
   .exact ih m (by lia)
 exact all n n (W9 _)
end
def IA{K:PySem.W.Frag}{T:List Fd}{n f m:Nat}(h:∀ns:List Int,ns.length<=m->run T n f [.lst (ns.map .int)]=some (.bl true))(H:Hp)(a:Addr)(ns:List Int)(hl:ns.length<=m)(hS:dq K H a (ns.map V.int)):
  u5 K 1 (run T n f) [.ref a] H (λv _=>v= .bl true) λ_ _ _=>False:=by
 refine⟨λ_=>False,[.lst (ns.map .int)],.bl true,λ_ z=>z.elim,.cons ?_ .nil,h ns hl,rfl,λv H' _ r=>r.tQ⟩
 rcases hS with hS|hS
 .exact .lst hS id (fg ns)
 .exact .mod hS (fg ns)
def MO{l:PySem.W.OpenLaw}{q:Program}{loose:List Str}{XP:(Str->Option Value)->Heap->Prop}{YP:World->Heap->Prop}{d:DefRec}{K:Params->PySem.W.Frag}{x:Str}{T:List Fd}{n f:Nat}(hn:l.most=some 63)(KC:d.params.defaults=[])(VF:n<=65)
  (hY:∀(w:World) (h:Heap),YP w h->(K w.params).In h)
  (F:∀(w:World) (mg:Str->Option Value) (fa:Addr) (h:Heap),(K w.params).In h->h.Ns mainGlobals mg->mg d.name=some (.ref fa)->
   ∃fd:FuncData,(∀(s:Shared) (u:Value),BindsTo s fd ⟨[u],[]⟩ [(x,u)])/\∀base:Heap,(K w.params).In base->base.Ns mainGlobals mg->iQ l.prog w (K w.params) mg base wu n fa fd [x] (u5 (K w.params) 1 (run T n f)))
  (hT:∀ns:List Int,ns.length<=63->run T n f [.lst (ns.map .int)]=some (.bl true)):
  PySem.W.WalkO q loose XP YP l.row.toRowW d [] (λf vs=>PySem.call f vs):=
 L2.BW (n:=63) (k:=n) (x:=x) (CX:=λ_=>wu) (sp:=λw=>u5 (K w.params) 1 (run T n f)) hn (by decide) KC (eL.mono (k:=65) ⟨rfl,by decide,by decide⟩ VF) hY F (λw H a ns hl _ hS=>IA hT H a ns hl hS) λ_ _ _ _ _ z=>z
def MP(h:l.length=1):∃a,l=[a]:=by
 cases l with
 |nil=>cases h
 |cons a l=>cases l with
  |nil=>exact⟨a,rfl⟩
  |cons _ _=>cases h
def MQ(h:l.length=2):∃a b,l=[a,b]:=by
 cases l with
 |nil=>cases h
 |cons a l=>
  obtain⟨b,rfl⟩:=MP (Nat.succ.inj h)
  exact⟨a,b,rfl⟩
def QL(h:l.length=3):∃a b c,l=[a,b,c]:=by
 cases l with
 |nil=>cases h
 |cons a l=>
  refine Bu (MQ (Nat.succ.inj h)) λb c ag=>?_
  subst ag
  exact⟨a,b,c,rfl⟩
end Py
namespace Py
noncomputable def mj:Fd:=⟨2,2,(.seq (.ifs (.cmp .Lt (.var 1) (.prim .len (.u 0))) (.seq (.ret (.idx (.var 0) (.var 1))) .skip) .skip) (.seq (.ret (.c (.int 0))) .skip))⟩
noncomputable def vp(g:Nat):Fd:=⟨2,3,(.seq (.asg 2 (.bin .Mod (.bin .Mult (.bin .Add (.bin .Add (.call g (.w 0 (.u 1))) (.bin .Mult (.c (.int 7919)) (.var 1))) (.c (.int 1))) (.c (.int 48271))) (.c (.int 2147483647)))) (.seq (.ret (.bin .Mod (.bin .Add (.bin .Add (.bin .Mult (.var 2) (.var 2)) (.bin .Mult (.c (.int 7)) (.var 2))) (.var 1)) (.c (.int 2147483629)))) .skip))⟩
noncomputable def kZ:Fd:=⟨2,3,(.seq (.asg 2 (.bin .Mod (.bin .Mult (.bin .Add (.bin .Add (.var 0) (.bin .Mult (.c (.int 104729)) (.var 1))) (.c (.int 17))) (.c (.int 69621))) (.c (.int 2147483647)))) (.seq (.ret (.bin .Mod (.bin .Add (.bin .Add (.bin .Mult (.var 2) (.var 2)) (.bin .Mult (.c (.int 3)) (.var 2))) (.var 1)) (.c (.int 2147483629)))) .skip))⟩
noncomputable def j6(ns:List Int):D:= .lst (ns.map .int)
noncomputable def cell(ns:List Int)(k:Nat):Int:=ns[k]?.getD 0
noncomputable def rO(c k:Int):Int:=(c+7919*k+1)*48271%2147483647
noncomputable def oF(ns:List Int)(k:Nat):Int:=(rO (cell ns k) k*rO (cell ns k) k+7*rO (cell ns k) k+k)%2147483629
noncomputable def gC(a k:Int):Int:=(a+104729*k+17)*69621%2147483647
noncomputable def drawn(a k:Int):Int:=(gC a k*gC a k+3*gC a k+k)%2147483629
def IB(ns:List Int)(k:Nat):0<=oF ns k:=Yu _ (by decide)
def Aj(a k:Int):0<=drawn a k:=Yu _ (by decide)
def aQ(h:T[f]?=some d)(hl:xs.length=d.par):run T (n+1) f xs=out (ex (run T n) d.body (ae d xs)):=by
 rw[run,h]
 exact Xl hl
def DI(ns:List Int)(k:Nat):out (ex F mj.body (ae mj [j6 ns,.int k]))=some (.int (cell ns k)):=by
 by_cases h:k<ns.length
 .have h':(k:Int)<(ns.length:Int):=by lia
  simp[mj,aV,fI,ni,tu,i7,vC,ng,qM,gZ,cD,ae,out,rd,prim,seq,j6,cmp,eN,h,h',item,bR,cell]
 .have h':¬(k:Int)<(ns.length:Int):=by lia
  simp[mj,aV,fI,ni,tu,i7,vC,ng,qM,gZ,cD,ae,out,rd,prim,seq,j6,cmp,eN,h,h',item,bR,cell]
def jt(i:Int)(h1: -(2 ^ 64)<j)(h2:j<2 ^ 64):dh i j=true:=by
 simp[dh,h1,h2]
 right
 constructor<;>lia
def IC(ns:List Int)(k:Nat)(hk:k<1000)(hF:F g [j6 ns,.int k]=some (.int (cell ns k))):out (ex F (vp g).body (ae (vp g) [j6 ns,.int k]))=some (.int (oF ns k)):=by
 have h1:0<=rO (cell ns k) k:=Yu _ (by decide)
 have h2:rO (cell ns k) k<2147483647:=Yv _ (by decide)
 have m1:dh 7919 (k:Int)=true:=by simp[dh]
 have m2:∀i:Int,dh i 48271=true:=λi=>jt i (by decide) (by decide)
 have m3:dh (rO (cell ns k) k) (rO (cell ns k) k)=true:=jt _ (by lia) (by lia)
 have m4:∀i:Int,dh 7 i=true:=λi=>by simp[dh]
 have VG:F g [j6 ns,.int k]=some (.int (cell ns k)):=hF
 simp only[vp,aV,tD,ni,i7,vC,qK,tq,cD,ae,rd,List.map,aak,Yt]
 simp[VG,kG,kQ,bin,m1,m2,m4,put]
 rw[show(cell ns k+7919*(k:Int)+1)*48271%2147483647=rO (cell ns k) k from rfl]
 simp[m3,out,aI,oF]
def Ak(a k:Int):out (ex F kZ.body (ae kZ [.int a,.int k]))=some (.int (drawn a k)):=by
 have h1:0<=gC a k:=Yu _ (by decide)
 have h2:gC a k<2147483647:=Yv _ (by decide)
 have m1:dh 104729 k=true:=by simp[dh]
 have m2:∀i:Int,dh i 69621=true:=λi=>jt i (by decide) (by decide)
 have m3:dh (gC a k) (gC a k)=true:=jt _ (by lia) (by lia)
 have m4:∀i:Int,dh 3 i=true:=λi=>by simp[dh]
 simp only[kZ,aV,tD,ni,i7,vC,qK,cD,ae,rd,List.map,aak,Yt]
 simp[bin,m1,m2,m4,put]
 rw[show(a+104729*k+17)*69621%2147483647=gC a k from rfl]
 simp[m3,out,drawn]
noncomputable def perms:Nat->List (List Int)
 |0=>[[]]
 |n+1=>(perms n).flatMap λp=>(List.range (n+1)).map λk=>p.take k++(n:Int)::p.drop k
def oG{n:Nat}{p:List Int}(h:p∈perms n){k:Nat}(hk:k<=n):p.take k++(n:Int)::p.drop k∈perms (n+1):=
 Yd.mpr ⟨p,h,Xd.mpr ⟨k,XH.mpr (Nat.lt_succ_of_le hk),rfl⟩⟩
theorem aK:∀{n:Nat}{p:List Int},p∈perms n->p.length=n
 |0,p,h=>by
  simp[perms]at h
  subst h
  rfl
 |n+1,p,h=>by
  refine aa (Yd.mp h) λq hq h=>aa (Xd.mp h) λk hk ag=>?_
  subst ag
  have:=aK hq
  have JA:=XH.mp hk
  simp
  lia
noncomputable def tp(p:List Int):D:= .tup (p.map .int)
theorem ml:∀{xs:List D}{p:List Int},aU xs=some p->xs=p.map .int
 |[],p,h=>by cases h;rfl
 | .int i::r,p,h=>by
  unfold aU at h
  cases e:aU r with
  |none=>rw[e]at h;cases h
  |some q=>
   rw[e]at h
   cases h
   rw[ml e]
   rfl
 | .cy ::r,p,h=>by cases h
 | .bl _::r,p,h=>by cases h
 | .tup _::r,p,h=>by cases h
 | .lst _::r,p,h=>by cases h
noncomputable def DJ(n:Nat):Option D->Bool
 |some (.tup xs)=>match aU xs with
  |some p=>(perms n).contains p
  |none=>false
 |_=>false
def vq{n:Nat}{o:Option D}(h:DJ n o=true):∃p∈perms n,o=some (tp p):=by
 unfold DJ at h
 split at h
 .split at h
  .rename_i xs _ p e
   exact⟨p,by simpa using h,by rw[ml e];rfl⟩
  .cases h
 .cases h
noncomputable def vt:C:=(.seq (.fY 2 (.var 3) (.var 4)) (.seq (.fY 2 (.var 4) (.var 3)) (.seq (.ret (.prim .tuple (.u 2))) .skip)))
noncomputable def DK:C:=(.seq (.for [7] 0 (.eK (.u 5)) (.seq (.fY 2 (.bin .Mod (.bin .Add (.var 6) (.var 7)) (.var 1)) (.bin .Mod (.bin .Add (.var 6) (.bin .Mod (.bin .Add (.var 7) (.c (.int 1))) (.var 5))) (.var 1))) .skip)) (.seq (.ret (.prim .tuple (.u 2))) .skip))
noncomputable def xi(g:Nat):C:=(.seq (.asg 9 (.bin .Mod (.call g (.w 0 (.u 7))) (.bin .Add (.prim .len (.u 8)) (.c (.int 1))))) (.seq (.bK 8 (.bin .Add (.bin .Add (.sl (.var 8) .nil (.u 9)) (.lst (.u 7))) (.sl (.var 8) (.u 9) .nil))) .skip))
noncomputable def j7(g:Nat):Fd:=⟨2,10,(.seq (.bK 2 (.iY .list (.u 1))) (.seq (.ifs (.cmp .Eq (.bin .Mod (.var 0) (.c (.int 3))) (.c (.int 0))) (.seq (.asg 3 (.bin .Mod (.bin .FloorDiv (.var 0) (.c (.int 3))) (.var 1))) (.seq (.asg 4 (.bin .Mod (.bin .FloorDiv (.var 0) (.c (.int 18))) (.var 1))) vt)) .skip)
 (.seq (.ifs (.cmp .Eq (.bin .Mod (.var 0) (.c (.int 3))) (.c (.int 1))) (.seq (.asg 5 (.bin .Add (.c (.int 1)) (.bin .Mod (.bin .FloorDiv (.var 0) (.c (.int 3))) (.var 1)))) (.seq (.asg 6 (.bin .Mod (.bin .FloorDiv (.var 0) (.c (.int 18))) (.var 1))) DK)) .skip)
 (.seq (.bK 8 (.lst .nil)) (.seq (.for [7] 0 (.eK (.u 1)) (xi g)) (.seq (.ret (.prim .tuple (.u 8))) .skip))))))⟩
noncomputable abbrev vi(i:Int):Option (Bool×D):=some (false,.int i)
noncomputable abbrev vo(xs:List D):Option (Bool×D):=some (true,.lst xs)
noncomputable def vw(a:Int)(s o1 o2:Nat):Env:=[vi a,vi s,vo (bH 0 s),vi o1,vi o2,none,none,none,none,none]
noncomputable def An(a:Int)(s m o:Nat):Env:=[vi a,vi s,vo (bH 0 s),none,none,vi m,vi o,none,none,none]
set_option maxHeartbeats 0 in
def Ao(F:FT)(a:Int):(List.range 6).all (λs=>(List.range (s+1)).all λo1=>(List.range (s+1)).all λo2=>DJ (s+1) (out (ex F vt (vw a (s+1) o1 o2))))=true:=by kernel_rfl
set_option maxHeartbeats 0 in
def DL(F:FT)(a:Int):(List.range 6).all (λs=>(List.range (s+1)).all λm=>(List.range (s+1)).all λo=>DJ (s+1) (out (ex F DK (An a (s+1) (m+1) o))))=true:=by kernel_rfl
def all_range{n:Nat}{f:Nat->Bool}(h:(List.range n).all f=true){k:Nat}(hk:k<n):f k=true:=Ya.mp h k (XH.mpr hk)
def DM(F:FT)(a:Int){s o1 o2:Nat}(h0:1<=s)(h6:s<=6)(h1:o1<s)(h2:o2<s):∃p∈perms s,out (ex F vt (vw a s o1 o2))=some (tp p):=by
 obtain⟨t,rfl⟩:∃t,s=t+1:=⟨s-1,by lia⟩
 exact vq (all_range (all_range (all_range (Ao F a) (k:=t) (by lia)) h1) h2)
def ID(F:FT)(a:Int){s m o:Nat}(h0:1<=s)(h6:s<=6)(h1:m<s)(h2:o<s):∃p∈perms s,out (ex F DK (An a s (m+1) o))=some (tp p):=by
 obtain⟨t,rfl⟩:∃t,s=t+1:=⟨s-1,by lia⟩
 exact vq (all_range (all_range (all_range (DL F a) (k:=t) (by lia)) h1) h2)
def Ap{o:Option jH}{p:List Int}(h:out o=some (tp p)):o=some (.ret (tp p)):=by
 cases o with
 |none=>cases h
 |some o=>cases o<;>cases h;rfl
noncomputable def gD(a s:Int)(x2:Option (Bool×D))(made:List Int)(x7 x9:Option (Bool×D)):Env:=[vi a,vi s,x2,none,none,none,none,x7,vo (made.map .int),x9]
def rP(xs:List D)(k:Nat)(h:k<=xs.length):sC xs none (some (k:Int))=xs.take k:=by
 unfold sC bound
 simp only[YT,abb]
 congr 1
 rw[Xs (by lia)]
 lia
def rQ(xs:List D)(k:Nat)(h:k<=xs.length):sC xs (some (k:Int)) none=xs.drop k:=by
 unfold sC bound
 simp only
 have e:(if(k:Int)<0 then max ((k:Int)+(xs.length:Int)) 0 else min (k:Int) (xs.length:Int)).toNat =k:=by
  rw[Xs (by lia)]
  lia
 rw[e,XM (by simp)]
def Aq(hF:F g [.int a,.int k]=some (.int y))(hm:made∈perms k)(hk:k<=1000):
  ∃at'≤k,ex F (xi g) (put (gD a s x2 made x7 x9) 7 false (.int k))=some (.next (gD a s x2 (made.take at'++(k:Int)::made.drop at') (vi k) (vi at'))):=by
 have hl:=aK hm
 have WM:0<=y%((k:Int)+1):=Yu _ (by lia)
 have WN:y%((k:Int)+1)<(k:Int)+1:=Yv _ (by lia)
 obtain⟨t,ht⟩:∃t:Nat,y%((k:Int)+1)=t:=⟨(y%((k:Int)+1)).toNat,by lia⟩
 have VH:t<=k:=by lia
 refine⟨t,VH,?_⟩
 have c1:=rP (made.map .int) t (by rw[WZ];lia)
 have c2:=rQ (made.map .int) t (by rw[WZ];lia)
 have Iq:(0:Int)<(k:Int)+1:=by lia
 have cT:(List.take t (made.map D.int)).length+1<=bE:=by
  rw[X3,WZ,hl];unfold bE;lia
 simp only[xi,aV,tu,tD,nh,yA,ni,fI,yB,i7,vC,qK,ng,qL,yx,qM,KS,tq,gZ,yz,cD,EJ,gD,put,rd,List.set_cons_succ,List.set_cons_zero,List.getElem?_cons_succ,List.getElem?_cons_zero]
 simp[hF,kG,kQ,aI,bin,prim,seq,hl,Iq,ht,put,rd,yu,cutD,c1,c2]
 have E5:min t k+1<=bE:=by unfold bE;lia
 have QJ:min t k+1+(k-t)<=bE:=by unfold bE;lia
 have NY:1<=bE:=by unfold bE;lia
 simp[hl,E5,QJ,NY]
theorem rR(hF:∀k:Nat,∃y,F g [.int a,.int k]=some (.int y)):
  ∀(m k:Nat) (made:List Int) (x7 x9:Option (Bool×D)),made∈perms k->k+m<=1000->∃p∈perms (k+m),∃QM QN,aM (λx ρ=>(aE 0 x).bind λys=>(cz ρ [7] ys).bind λρ'=>ex F (xi g) ρ') (bH k m) (gD a s x2 made x7 x9)=some (.next (gD a s x2 p QM QN))
 |0,k,made,x7,x9,hm,_=>⟨made,hm,x7,x9,rfl⟩
 |m+1,k,made,x7,x9,hm,hk=>by
  refine aq λnO=>?_
  obtain⟨y,hy⟩:=hF k
  refine aa (Aq (s:=s) (x2:=x2) (x7:=x7) (x9:=x9) hy hm (by lia)) λt ht e=>?_
  obtain⟨p,hp,QM,QN,e2⟩:=rR (s:=s) (x2:=x2) hF m (k+1) _ (vi k) (vi t) (oG hm ht) (by lia)
  refine nO ?_
  refine⟨p,by rw[show k+(m+1)=k+1+m by lia];exact hp,QM,QN,?_⟩
  rw[bH,aM]
  show(ex F (xi g) (put (gD a s x2 made x7 x9) 7 false (.int k))).bind _=_
  rw[e]
  exact e2
def DN(ha:0<=a)(h1:1<=s)(h6:s<=6)(hF:∀k:Nat,∃y,F g [.int a,.int k]=some (.int y)):∃p∈perms s,out (ex F (j7 g).body (ae (j7 g) [.int a,.int s]))=some (tp p):=by
 have hr:dE [.int s]=some (bH 0 s):=by
  show(if -(2 ^ 62)<=(s:Int)/\(s:Int)<=bE then some (bH 0 (s:Int).toNat) else none)=_
  rw[Xl ⟨by lia,by unfold bE;lia⟩]
  rfl
 have NZ:(0:Int)<s:=by lia
 have MR:0<s:=by lia
 have q1:0<=a/3%(s:Int):=Yu _ (by lia)
 have q2:a/3%(s:Int)<s:=Yv _ NZ
 have q3:0<=a/18%(s:Int):=Yu _ (by lia)
 have q4:a/18%(s:Int)<s:=Yv _ NZ
 obtain⟨o1,e1⟩:∃t:Nat,a/3%(s:Int)=t:=⟨(a/3%(s:Int)).toNat,by lia⟩
 obtain⟨o2,e2⟩:∃t:Nat,a/18%(s:Int)=t:=⟨(a/18%(s:Int)).toNat,by lia⟩
 by_cases c0:a%3=0
 .refine aa (DM F a h1 h6 (o1:=o1) (o2:=o2) (by lia) (by lia)) λp hp e=>⟨p,hp,?_⟩
  have e':ex F vt [vi a,vi s,vo (bH 0 s),vi o1,vi o2,none,none,none,none,none]=some (.ret (tp p)):=Ap e
  simp[j7,aV,tu,tD,nh,yA,ni,fI,yB,i7,vC,qK,ng,qL,yx,qM,KS,tq,gZ,yz,cD,ae,rd,hr,lO,bin,cmp,cL,fT,eN,c0,put,NZ,MR,e1,e2,e',out]
 .by_cases c1:a%3=1
  .refine aa (ID F a h1 h6 (m:=o1) (o:=o2) (by lia) (by lia)) λp hp e=>⟨p,hp,?_⟩
   have e3:((o1+1:Nat):Int)=1+(o1:Int):=by lia
   have e':ex F DK [vi a,vi s,vo (bH 0 s),none,none,vi (1+(o1:Int)),vi o2,none,none,none]=some (.ret (tp p)):=by rw[<-e3];exact Ap e
   simp[j7,aV,tu,tD,nh,yA,ni,fI,yB,i7,vC,qK,ng,qL,yx,qM,KS,tq,gZ,yz,cD,ae,rd,hr,lO,bin,cmp,cL,fT,eN,c0,c1,put,NZ,MR,e1,e2,e',out]
  .obtain⟨p,hp,x7,x9,e⟩:=rR (a:=a) (s:=s) (x2:=vo (bH 0 s)) hF s 0 [] none none (by simp[perms]) (by lia)
   rw[YA]at hp
   refine⟨p,hp,?_⟩
   have e':aM (λx ρ=>(aE 0 x).bind λys=>(cz ρ [7] ys).bind λρ'=>ex F (xi g) ρ') (bH 0 s) [vi a,vi s,vo (bH 0 s),none,none,none,none,none,vo [],none]=some (.next (gD a s (vo (bH 0 s)) p x7 x9)):=e
   simp[j7,aV,tu,tD,nh,yA,ni,fI,yB,i7,vC,qK,ng,qL,yx,qM,KS,tq,gZ,yz,cD,kH,ae,rd,hr,lO,bin,cmp,cL,fT,eN,c0,c1,put,bE,dP,e',gD,prim,seq,out,tp]
theorem p7:∀(n:Nat) (p:List Int),p.Nodup->(∀x∈p,0<=x/\x<n)->p.length<=n
 |0,p,_,h=>by
  cases p with
  |nil=>exact W9 _
  |cons x r=>have:=h x W6;lia
 |n+1,p,nd,h=>by
  have h1:(p.erase (n:Int)).length <=n:=p7 n _ (nd.sublist List.erase_sublist) λx hx=>by
   have h2:=h x (List.mem_of_mem_erase hx)
   have h3:x≠n:=λe=>by
    subst e
    exact(List.Nodup.mem_erase_iff nd).mp hx |>.1 rfl
   lia
  by_cases hm:(n:Int)∈p
  .rw[Z' hm]at h1;lia
  .rw[List.erase_of_not_mem hm]at h1;lia
theorem aF:∀{n:Nat}{p:List Int},p∈perms n↔p.length=n/\p.Nodup/\∀x∈p,0<=x/\x<n
 |0,p=>by
  simp only[perms,W5]
  constructor
  .rintro rfl;exact⟨rfl,List.nodup_nil,λx h=>nomatch h⟩
  .rintro⟨h,_⟩;exact List.length_eq_zero_iff.mp h
 |n+1,p=>by
  constructor
  .intro h
   refine aa (Yd.mp h) λq hq h=>aa (Xd.mp h) λk hk ag=>?_
   subst ag
   refine cN (aF.mp hq) λl nd bd=>?_
   have JA:=XH.mp hk
   have N0:(q.take k++q.drop k).Nodup :=by rw[Y0];exact nd
   have hn:(n:Int)∉q:=λz=>by have:=bd _ z;lia
   have nt:(n:Int)∉q.take k:=λz=>hn (X8 z)
   have VI:(n:Int)∉q.drop k:=λz=>hn (Y' z)
   refine⟨by simp;lia,?_,λx hx=>?_⟩
   .rw[Yk]at N0⊢
    refine⟨N0.1,XB.mpr ⟨VI,N0.2.1⟩,λa ha b hb=>?_⟩
    rcases Xc.mp hb with rfl|hb
    .exact λe=>nt (e▸ha)
    .exact N0.2.2 a ha b hb
   .rcases Xk.mp hx with z|z
    .have:=bd x (X8 z);lia
    .rcases Xc.mp z with rfl|z
     .lia
     .have:=bd x (Y' z);lia
  .rintro⟨l,nd,bd⟩
   have hm:(n:Int)∈p:=by
    by_cases hm:(n:Int)∈p
    .exact hm
    .have:=p7 n p nd λx hx=>by
      have h2:=bd x hx
      have h3:x≠n:=λe=>hm (e▸hx)
      lia
     lia
   refine Bu (List.append_of_mem hm) λu v aP=>?_
   subst aP
   rw[Yk,XB]at nd
   have hq:u++v∈perms n:=by
    refine aF.mpr ⟨by simp at l⊢;lia,?_,λx hx=>?_⟩
    .rw[Yk]
     exact⟨nd.1,nd.2.1.2,λa ha b hb=>nd.2.2 a ha b (W4 _ hb)⟩
    .have y8:x∈u++(n:Int)::v:=by
      rcases Xk.mp hx with z|z
      .exact Xp _ z
      .exact Xi _ (W4 _ z)
     have h2:=bd x y8
     have h3:x≠n:=λe=>by
      subst e
      rcases Xk.mp hx with z|z
      .exact nd.2.2 _ z _ W6 rfl
      .exact nd.2.1.1 z
     lia
   have:=oG hq (k:=u.length) (by simp at l;lia)
   rw[List.take_left,List.drop_left]at this
   exact this
noncomputable def comp(p q:List Int):List Int:=p.map λi=>q.getD i.toNat 0
def getD_mem{q:List Int}{k:Nat}(h:k<q.length):q.getD k 0∈q:=by
 rw[Xa,WW h]
 exact YI h
def fB{n:Nat}{p q:List Int}(hp:p∈perms n)(hq:q∈perms n):comp p q∈perms n:=by
 refine cN (aF.mp hp) λlp np bp=>cN (aF.mp hq) λlq nq bq=>aF.mpr ⟨by simp[comp,lp],?_,λx hx=>?_⟩
 .unfold comp
  rw[X1]at np⊢
  rw[X7]
  refine np.imp_of_mem λ{a b} ha hb tM e=>tM ?_
  have h1:=bp a ha
  have h2:=bp b hb
  have l1:a.toNat<q.length:=by lia
  have l2:b.toNat<q.length:=by lia
  rw[Xa,Xa,WW l1,WW l2]at e
  have e':q[a.toNat]=q[b.toNat]:=e
  have:=(List.getElem?_inj (j:=b.toNat) l1 nq).mp (by rw[WW l1,WW l2,e'])
  lia
 .refine aa (Xd.mp hx) λi hi ag=>?_
  subst ag
  have h1:=bp i hi
  exact bq _ (getD_mem (by lia))
def iI(hp:p∈perms n)(hq:q∈perms n):comp (comp p q) r=comp p (comp q r):=by
 refine cN (aF.mp hp) λlp np bp=>cN (aF.mp hq) λlq nq bq=>?_
 unfold comp
 rw[Xz]
 refine Zf λi hi=>?_
 have h1:=bp i hi
 have l1:i.toNat<q.length:=by lia
 show r.getD (q.getD i.toNat 0).toNat 0=_
 rw[Xa (l:=List.map _ q),Xb,Xa (l:=q),WW l1]
 rfl
noncomputable def inv:List Int->Nat
 |[]=>0
 |x::r=>(r.filter λy=>decide (y<x)).length+inv r
noncomputable def bj(n:Nat):List Int:=(List.range n).map λ(k:Nat)=>Int.ofNat k
def ju(hp:p∈perms n):comp p (bj n)=p:=by
 refine cN (aF.mp hp) λlp np bp=>?_
 unfold comp
 rw[Zf (g:=id),aaP]
 intro i hi
 have h1:=bp i hi
 have l1:i.toNat<n:=by lia
 simp[bj,Xb,YF l1]
 lia
theorem bT(h:α->D)(g:α->D)(f:D->Option (Option D)):∀xs:List α,(∀x∈xs,f (h x)=some (some (g x)))->walk f (xs.map h)=some (xs.map g)
 |[],_=>rfl
 |x::r,e=>by
  rw[Xj,walk,e x W6]
  show(walk f (r.map h)).map _=_
  rw[bT h g f r λy hy=>e y (W4 _ hy)]
  rfl
noncomputable def k7:Fd:=⟨2,2,(.seq (.ret (.prim .tuple (.cons (.comp [1] 0 (.it (.var 0)) .nil (.idx (.var 1) (.var 0))) .nil))) .skip)⟩
def vx(h0:0<=i)(h1:i<q.length):item (tp q) (.int i)=some (.int (q.getD i.toNat 0)):=by
 show(bR (q.map D.int).length i).bind _=_
 unfold bR
 rw[Xl h0,Xl (by rw[WZ];exact h1)]
 show(q.map D.int)[i.toNat]?=_
 rw[Xb,Xa,WW (by lia)]
 rfl
def rS(hn:n<=1000)(hp:p∈perms n)(hq:q∈perms n):out (ex F k7.body (ae k7 [tp p,tp q]))=some (tp (comp p q)):=by
 refine cN (aF.mp hp) λlp np bp=>cN (aF.mp hq) λlq nq bq=>?_
 have w:=bT (α:=Int) D.int (λi=> .int (q.getD i.toNat 0)) (λx=>(aE 0 x).bind λys=>(fF F true .nil (inner ys [some (false,tp p),some (false,tp q)] [1])).bind λk=>if k then(ev F false (.idx (.var 1) (.var 0)) (inner ys [some (false,tp p),some (false,tp q)] [1])).map some else some none) p (λx hx=>by
  have h1:=bp x hx
  show(item (tp q) (.int x)).map some=_
  rw[vx h1.1 (by lia)]
  rfl)
 have hl:(p.map D.int).length <=bE:=by rw[WZ,lp];unfold bE;lia
 have e:ev F true (.comp [1] 0 (.it (.var 0)) .nil (.idx (.var 1) (.var 0))) [some (false,tp p),some (false,tp q)]=some (.lst ((comp p q).map .int)):=by
  show(if(p.map D.int).length <=bE then _ else _)=_
  rw[Xl hl]
  show(walk _ (p.map D.int)).map D.lst=_
  rw[w]
  simp[comp]<;>rfl
 show out ((((ev F true (.comp [1] 0 (.it (.var 0)) .nil (.idx (.var 1) (.var 0))) [some (false,tp p),some (false,tp q)]).bind _).bind _ |>.map _).bind _)=_
 rw[e]
 rfl
theorem rV:∀a b:List Int,uB (a.map .int) (b.map .int)=decide (a=b)
 |[],[]=>rfl
 |[],_::_=>rfl
 |_::_,[]=>rfl
 |x::a,y::b=>by
  show(fT (.int x) (.int y)&&uB (a.map .int) (b.map .int))=_
  rw[rV a b]
  show((x==y)&&decide (a=b))=_
  by_cases h1:x=y
  .subst h1;simp
  .simp[h1]
def tZ(a b:List Int):fT (tp a) (tp b)=decide (a=b):=rV a b
def t8(a:List Int)(n:Nat):cL (tp a) (n+1)=true:=jF n a
def mr(a:List Int):cL (tp a) 60=true:=t8 a 59
def MS(a b:List Int):cmp .Eq (tp a) (tp b)=some (decide (a=b)):=by
 show(if cL (tp a) 60&&cL (tp b) 60 then some (fT (tp a) (tp b)) else none)=_
 rw[mr,mr,tZ]
 rfl
theorem rW:∀(n k:Nat),bH (k:Int) n=(List.range' k n).map λ(j:Nat)=>D.int (j:Int)
 |0,k=>rfl
 |n+1,k=>by
  rw[bH,ZC,Xj]
  have e:(k:Int)+1=((k+1:Nat):Int):=by push_cast;rfl
  rw[e,rW n (k+1)]
def dY(n:Nat):bH 0 n=(bj n).map .int :=by
 have:=rW n 0
 rw[show((0:Nat):Int)=0 from rfl]at this
 rw[this,bj,Xz,Za]
 rfl
def cF{n:Nat}(h:n<=1000):dE [.int n]=some (bH 0 n):=by
 show(if -(2 ^ 62)<=(n:Int)/\(n:Int)<=bE then some (bH 0 (n:Int).toNat) else none)=_
 rw[Xl ⟨by lia,by unfold bE;lia⟩]
 rfl
noncomputable def k9:Fd:=⟨1,1,(.seq (.ret (.iY .tuple (.u 0))) .skip)⟩
def As{F:FT}{n:Nat}(h:n<=1000):out (ex F k9.body (ae k9 [.int n]))=some (tp (bj n)):=by
 simp[k9,aV,ni,i7,yz,cD,ae,rd,cF h,lO,out,dY,tp]
def dZ(n:Nat):bj n∈perms n:=by
 refine aF.mpr ⟨by simp[bj],?_,λx hx=>?_⟩
 .unfold bj
  rw[X1,X7]
  exact(X1.mp List.nodup_range).imp λ{a b} h e=>h (Int.ofNat.inj e)
 .refine aa (Xd.mp hx) λk hk ag=>?_
  subst ag
  have:=XH.mp hk
  exact⟨aaX k,by show(k:Int)<n;lia⟩
def mz(hp:p∈perms n):comp (bj n) p=p:=by
 refine cN (aF.mp hp) λlp np bp=>?_
 apply Yj
 intro i
 unfold comp bj
 rw[Xz,Xb]
 by_cases hi:i<n
 .rw[YF hi]
  show some (p.getD i 0)=_
  rw[Xa,WW (by lia)]
  rfl
 .rw[Xr (by simp;lia),Xr (by lia)]
  rfl
def xj{n:Nat}{p:List Int}(hp:p∈perms n){k:Int}(h0:0<=k)(h1:k<n):k∈p:=by
 refine cN (aF.mp hp) λlp np bp=>?_
 by_cases hm:k∈p
 .exact hm
 .have:=p7 n (k::p) (XB.mpr ⟨hm,np⟩) λx hx=>by
   rcases Xc.mp hx with rfl|hx
   .exact⟨h0,h1⟩
   .exact bp x hx
  rw[Xm]at this
  lia
theorem mB:∀{p:List Int},k∈p->∃j,cC k p=some j
 |[],h=>nomatch h
 |n::r,h=>by
  unfold cC
  by_cases e:n=k
  .exact⟨0,Xl e⟩
  .rw[Xs e]
   obtain⟨j,hj⟩:=mB (List.mem_of_ne_of_mem (XY e) h)
   exact⟨j+1,by rw[hj];rfl⟩
theorem jv:∀{p:List Int}{j:Nat},cC k p=some j->p[j]?=some k
 |[],_,h=>by cases h
 |n::r,j,h=>by
  unfold cC at h
  split at h
  .rename_i e;cases h;subst e;rfl
  .cases e:cC k r with
   |none=>rw[e]at h;cases h
   |some i=>rw[e]at h;cases h;simpa using jv e
theorem p8:∀{p:List Int}{j:Nat}{k:Int},p.Nodup->p[j]?=some k->cC k p=some j
 |[],_,_,_,h=>by simp at h
 |n::r,0,k,_,h=>by
  simp at h
  unfold cC
  rw[Xl h]
 |n::r,j+1,k,nd,h=>by
  have h':r[j]?=some k:=by simpa using h
  have hn:n≠k:=λe=>(XB.mp nd).1 (e▸XU h')
  unfold cC
  rw[Xs hn,p8 (XB.mp nd).2 h']
  rfl
noncomputable def ip(p:List Int):List Int:=(List.range p.length).map λ(k:Nat)=>(((cC (k:Int) p).getD 0:Nat):Int)
def iJ{n:Nat}{p:List Int}(hp:p∈perms n){k:Nat}(hk:k<n):∃j:Nat,cC (k:Int) p=some j/\(ip p)[k]?=some (j:Int)/\j<n/\p[j]?=some (k:Int):=by
 refine cN (aF.mp hp) λlp np bp=>?_
 obtain⟨j,hj⟩:=mB (xj hp (k:=(k:Int)) (by lia) (by lia))
 have hg:=jv hj
 refine⟨j,hj,?_,by have:=(Xf.mp hg).1;lia,hg⟩
 unfold ip
 rw[Xb,YF (by lia)]
 simp[hj]
def mC:(ip p).length =p.length:=by simp[ip]
def DO(hp:p∈perms n):comp p (ip p)=bj n:=by
 refine cN (aF.mp hp) λlp np bp=>?_
 apply Yj
 intro i
 unfold comp bj
 rw[Xb,Xb]
 by_cases hi:i<n
 .have hb:=bp p[i] (YI (by lia))
  rw[YF hi,WW (by lia)]
  obtain⟨k,hk⟩:∃k:Nat,p[i]=(k:Int):=⟨p[i].toNat,by lia⟩
  have GR:k<n:=by lia
  refine Bj (iJ hp GR) λj h1 h2 h3 h4=>?_
  have GI:cC (k:Int) p=some i:=p8 np (by rw[WW (by lia),hk])
  rw[h1]at GI
  have e:=Xn GI
  subst e
  show some ((ip p).getD (p[j].toNat) 0)=some (Int.ofNat j)
  rw[hk,X6,Xa,h2]
  rfl
 .have l1:(List.range n)[i]?=none:=Xr (by simp;lia)
  have l2:p[i]?=none:=Xr (by lia)
  rw[l1,l2]
  rfl
def vy(hp:p∈perms n):comp (ip p) p=bj n:=by
 refine cN (aF.mp hp) λlp np bp=>?_
 apply Yj
 intro i
 unfold comp bj
 rw[Xb,Xb]
 by_cases hi:i<n
 .refine Bj (iJ hp hi) λj h1 h2 h3 h4=>?_
  rw[h2,YF hi]
  show some (p.getD ((j:Int).toNat) 0)=some (Int.ofNat i)
  rw[X6,Xa,h4]
  rfl
 .have l1:(List.range n)[i]?=none:=Xr (by simp;lia)
  have l2:(ip p)[i]?=none:=Xr (by rw[mC];lia)
  rw[l1,l2]
  rfl
def fQ(hp:p∈perms n):ip p∈perms n:=by
 refine cN (aF.mp hp) λlp np bp=>aF.mpr ⟨by rw[mC,lp],?_,λx hx=>?_⟩
 .rw[X1,Yr]
  intro i j hi hj GI e
  rw[mC,lp]at hi hj
  refine Bj (iJ hp hi) λa a1 a2 a3 a4=>Bj (iJ hp hj) λb b1 b2 b3 b4=>?_
  rw[WW (by rw[mC];lia)]at a2 b2
  have ea:=Xn a2
  have eb:=Xn b2
  rw[ea,eb]at e
  have:a=b:=by lia
  subst this
  rw[a4]at b4
  have:=Xn b4
  lia
 .refine aa (Xd.mp hx) λk hk ag=>?_
  subst ag
  have JA:=XH.mp hk
  refine Bj (iJ hp (k:=k) (by lia)) λj h1 _ h3 _=>?_
  rw[h1]
  exact⟨aaX _,by show(j:Int)<n;lia⟩
def xk(hp:p∈perms n)(hq:q∈perms n)(h:comp p q=bj n):q=ip p:=by
 have e:comp (comp (ip p) p) q=comp (ip p) (comp p q):=iI (fQ hp) hp
 rw[vy hp,mz hq,h,ju (fQ hp)]at e
 exact e
noncomputable def t9:Fd:=⟨1,1,(.seq (.ret (.prim .tuple (.cons (.comp [0] 0 (.eK (.cons (.prim .len (.u 0)) .nil)) .nil (.dg .index (.var 1) (.u 0))) .nil))) .skip)⟩
theorem c8:∀p:List Int,aU (p.map .int)=some p
 |[]=>rfl
 |x::p=>by
  show(aU (p.map .int)).map (x:: ·)=_
  rw[c8 p]
  rfl
def DP{F:FT}{n:Nat}{p:List Int}(hn:n<=1000)(hp:p∈perms n):out (ex F t9.body (ae t9 [tp p]))=some (tp (ip p)):=by
 refine cN (aF.mp hp) λlp np bp=>?_
 have w:=bT (α:=Nat) (λk=>D.int (k:Int)) (λ(k:Nat)=> .int (((cC (k:Int) p).getD 0:Nat):Int)) (λx=>(aE 0 x).bind λys=>(fF F true .nil (inner ys [some (false,tp p)] [0])).bind λk=>if k then(ev F false (.dg .index (.var 1) (.u 0)) (inner ys [some (false,tp p)] [0])).map some else some none) (List.range n) (λk hk=>by
  have JA:=XH.mp hk
  refine aa (iJ hp JA) λj h1 _=>?_
  show(dg .index (tp p) [.int (k:Int)]).map some=_
  show(((aU (p.map .int)).bind λns=>(cC (k:Int) ns).map λ(i:Nat)=>D.int (i:Int))).map some=_
  rw[c8]
  show((cC (k:Int) p).map λ(i:Nat)=>D.int (i:Int)).map some=_
  rw[h1]
  rfl)
 have hr:dE [.int ((p.map D.int).length :Nat)]=some ((List.range n).map λ(k:Nat)=>D.int (k:Int)):=by
  rw[WZ,lp,cF hn,dY,bj,Xz]
  rfl
 have hl:((List.range n).map λ(k:Nat)=>D.int (k:Int)).length <=bE:=by rw[WZ,Zv];unfold bE;lia
 have e:ev F true (.comp [0] 0 (.eK (.cons (.prim .len (.u 0)) .nil)) .nil (.dg .index (.var 1) (.u 0))) [some (false,tp p)]=some (.lst ((ip p).map .int)):=by
  show(dE [.int ((p.map D.int).length :Nat)]).bind _=_
  rw[hr]
  show(if((List.range n).map λ(k:Nat)=>D.int (k:Int)).length <=bE then _ else _)=_
  rw[Xl hl]
  show(walk _ ((List.range n).map λ(k:Nat)=>D.int (k:Int))).map D.lst=_
  rw[w]
  simp[ip,lp]<;>rfl
 show out ((((ev F true (.comp [0] 0 (.eK (.cons (.prim .len (.u 0)) .nil)) .nil (.dg .index (.var 1) (.u 0))) [some (false,tp p)]).bind _).bind _ |>.map _).bind _)=_
 rw[e]
 rfl
noncomputable def sb:List Int->Nat->List Int->List Int
 |[],_,f=>f
 |g::r,i,f=>sb r (i+1) (f.set g.toNat (i:Int))
theorem Au:∀(p:List Int) (i:Nat) (f:List Int),(sb p i f).length =f.length
 |[],_,_=>rfl
 |g::r,i,f=>by rw[sb,Au,XD]
def oH(k n:Int)(r:List Int):cC k (n::r)=if n=k then some 0 else(cC k r).map (· + 1):=rfl
theorem Av:∀(p:List Int) (i:Nat) (f:List Int),p.Nodup->(∀x∈p,0<=x/\x<f.length)->∀k:Nat,k<f.length->(sb p i f)[k]?=match cC (k:Int) p with|some j=>some ((i+j:Nat):Int)|none=>f[k]?
 |[],i,f,_,_,k,_=>rfl
 |g::r,i,f,nd,bd,k,hk=>by
  have hg:=bd g W6
  rw[sb,Av r (i+1) (f.set g.toNat (i:Int)) (XB.mp nd).2 (λx hx=>by rw[XD];exact bd x (W4 _ hx)) k (by rw[XD];exact hk)]
  by_cases e:g=(k:Int)
  .have sq:cC (k:Int) r=none:=by
    cases h:cC (k:Int) r with
    |none=>rfl
    |some j=>exact absurd (XU (jv h)) (e▸(XB.mp nd).1)
   rw[sq,oH,Xl e]
   have eg:g.toNat=k:=by lia
   show(f.set g.toNat (i:Int))[k]?=_
   rw[eg,Xo hk]
   rfl
  .rw[oH,Xs e]
   cases h:cC (k:Int) r with
   |none=>
    show(f.set g.toNat (i:Int))[k]?=_
    rw[Xq (by lia)]
    rfl
   |some j=>
    show some ((i+1+j:Nat):Int)=some ((i+(j+1):Nat):Int)
    congr 2
    lia
def MT(hp:p∈perms n):sb p 0 p=ip p:=by
 refine cN (aF.mp hp) λlp np bp=>?_
 apply Yj
 intro k
 by_cases hk:k<n
 .refine Bj (iJ hp hk) λj h1 h2 _ _=>?_
  rw[Av p 0 p np (by rw[lp];exact bp) k (by lia),h1,h2]
  simp
 .rw[Xr (by rw[Au];lia),Xr (by rw[mC];lia)]
noncomputable def jw:Fd:=⟨1,4,(.seq (.bK 1 (.prim .list (.u 0))) (.seq (.for [2,3] 2 (.sv (.var 0)) (.seq (.fY 1 (.var 3) (.var 2)) .skip)) (.seq (.ret (.prim .tuple (.u 1))) .skip)))⟩
theorem mD:∀(r:List Int) (i:Nat) (f:List Int) (x2 x3:Option (Bool×D)),(∀x∈r,0<=x/\x<f.length)->∃QO QP,
  aM (λx ρ=>(aE 2 x).bind λys=>(cz ρ [2,3] ys).bind λρ'=>ex F (.seq (.fY 1 (.var 3) (.var 2)) .skip) ρ') (aS (i:Int) (r.map .int)) [x0,vo (f.map .int),x2,x3]=some (.next [x0,vo ((sb r i f).map .int),QO,QP])
 |[],i,f,x2,x3,_=>⟨x2,x3,rfl⟩
 |g::r,i,f,x2,x3,bd=>by
  have hg:=bd g W6
  obtain⟨QO,QP,e⟩:=mD r (i+1) (f.set g.toNat (i:Int)) (vi i) (vi g) (λx hx=>by rw[XD];exact bd x (W4 _ hx))
  refine⟨QO,QP,?_⟩
  rw[Xj,aS,aM]
  have hp:bR f.length g=some g.toNat:=by
   unfold bR
   rw[Xl hg.1,Xl hg.2]
  have step:(aE 2 (.tup [.int (i:Int),.int g])).bind (λys=>(cz [x0,vo (f.map .int),x2,x3] [2,3] ys).bind λρ'=>ex F (.seq (.fY 1 (.var 3) (.var 2)) .skip) ρ')=some (.next [x0,vo ((f.set g.toNat (i:Int)).map .int),vi i,vi g]):=by
   simp[aE,cz,put,aV,yA,tu,i7,rd,yu,hp,List.map_set]
  rw[step]
  have e':((i:Int)+1)=((i+1:Nat):Int):=by push_cast;rfl
  show aM _ (aS ((i:Int)+1) (r.map .int)) _=_
  rw[e',sb]
  exact e
def Aw(hp:p∈perms n):out (ex F jw.body (ae jw [tp p]))=some (tp (ip p)):=by
 refine cN (aF.mp hp) λlp np bp=>Bu (mD (F:=F) (x0:=some (false,tp p)) p 0 p none none (by rw[lp];exact bp)) λx2 x3 e=>?_
 rw[MT hp]at e
 have e':aM (λx ρ=>(aE 2 x).bind λys=>(cz ρ [2,3] ys).bind λρ'=>ex F (.seq (.fY 1 (.var 3) (.var 2)) .skip) ρ') (aS 0 (p.map .int)) [some (false,tp p),vo (p.map .int),none,none]=some (.next [some (false,tp p),vo ((ip p).map .int),x2,x3]):=e
 have h1:ex F (.bK 1 (.prim .list (.u 0))) (ae jw [tp p])=some (.next [some (false,tp p),vo (p.map .int),none,none]):=rfl
 have h2:ex F (.for [2,3] 2 (.sv (.var 0)) (.seq (.fY 1 (.var 3) (.var 2)) .skip)) [some (false,tp p),vo (p.map .int),none,none]=some (.next [some (false,tp p),vo ((ip p).map .int),x2,x3]):=by
  show aM _ (aS 0 (p.map .int)) _=_
  exact e'
 show out ((ex F (.bK 1 (.prim .list (.u 0))) (ae jw [tp p])).bind _)=_
 rw[h1]
 show out ((ex F (.seq (.for [2,3] 2 (.sv (.var 0)) (.seq (.fY 1 (.var 3) (.var 2)) .skip)) _) _))=_
 rw[aV,h2]
 rfl
theorem mE:∀p:List Int,ba (p.map .int)=true
 |[]=>rfl
 |x::p=>by show(aI (.int x)&&ba (p.map .int))=true;rw[mE p];rfl
def ax(p:List Int):aI (tp p)=true:=mE p
noncomputable def pw(p:List Int):Nat->List Int
 |0=>bj p.length
 |m+1=>comp (pw p m) p
theorem jx(hp:p∈perms n):∀m,pw p m∈perms n
 |0=>by rw[pw,aK hp];exact dZ n
 |m+1=>fB (jx hp m) hp
theorem Ax(hp:p∈perms n)(a:Nat):∀b,pw p (a+b)=comp (pw p a) (pw p b)
 |0=>by rw[aba,pw,aK hp,ju (jx hp a)]
 |b+1=>by
  show comp (pw p (a+b)) p=comp (pw p a) (comp (pw p b) p)
  rw[Ax hp a b,iI (jx hp a) (jx hp b)]
def IE(hp:p∈perms n):pw p 1=p:=by
 show comp (bj p.length) p=p
 rw[aK hp,mz hp]
noncomputable def xl(p:List Int):Nat:=(((List.range 6).find? λm=>pw p (m+1)==bj p.length).getD 0)+1
noncomputable def Fg(n:Nat)(p:List Int):Bool:=decide (pw p (xl p)=bj n)&&decide (xl p<=6)&&(List.range (xl p)).all λk=>k==0||decide (pw p k≠bj n)
set_option maxHeartbeats 0 in
def DQ:(List.range 7).all (λn=>(perms n).all (Fg n))=true:=by decide +kernel
def Ay(hn:n<=6)(hp:p∈perms n):pw p (xl p)=bj n/\1<=xl p/\xl p<=6/\∀k,1<=k->k<xl p->pw p k≠bj n:=by
 have h:=Ya.mp (all_range DQ (k:=n) (by lia)) p hp
 unfold Fg at h
 simp only[WX,decide_eq_true_eq,Ya,XH,ZM,beq_iff_eq]at h
 refine⟨h.1.1,by unfold xl;lia,h.1.2,λk h1 h2=>?_⟩
 rcases h.2 k h2 with z|z
 .lia
 .exact z
def cb(h:ev F true e ρ=some d):out (ex F (.seq (.ret e) b) ρ)=some d:=by
 rw[aV,ni,h]
 rfl
def aN(h:ev F false e ρ=some d):ex F (.asg i e) ρ=some (.next (put ρ i false d)):=by
 rw[tD,h]
 rfl
def aD(h1:cD F true es ρ=some xs)(h2:F f xs=some d)(h3:aI d=true):ev F b (.call f es) ρ=some d:=by
 rw[tq,h1]
 show(F f xs).bind _=_
 rw[h2]
 simp[h3]
def bC(h1:ev F b a ρ=some x)(h2:ev F b c ρ=some y):cD F b (.cons a (.cons c .nil)) ρ=some [x,y]:=by
 rw[cD,h1,cD,h2,cD]
 rfl
def dz(h1:ev F b a ρ=some x):cD F b (.cons a .nil) ρ=some [x]:=by
 rw[cD,h1,cD]
 rfl
noncomputable def fU(F:FT)(fr:List Nat)(ifs dO:E)(ρ:Env)(x:D):Option (Option D):=(fF F true ifs (inner [x] ρ fr)).bind λk=>if k then(ev F false dO (inner [x] ρ fr)).map some else some none
def de(h1:ev F true a ρ=some d)(h2:seq d=some xs)(h3:xs.length<=bE):ev F b (.comp fr 0 (.it a) ifs dO) ρ=(walk (fU F fr ifs dO ρ) xs).map .lst :=by
 rw[KU,kH,h1,Yc,h2,Yc,Xl h3]
 rfl
def mF(h1:(cD F false es ρ).bind dE=some xs)(h3:xs.length<=bE):ev F b (.comp fr 0 (.eK es) ifs dO) ρ=(walk (fU F fr ifs dO ρ) xs).map .lst :=by
 rw[KU,kH,h1,Yc,Xl h3]
 rfl
theorem kB{f:D->Option (Option D)}{p:D->Bool}:∀xs:List D,(∀x∈xs,f x=some (if p x then some x else none))->walk f xs=some (xs.filter p)
 |[],_=>rfl
 |x::r,h=>by
  rw[walk,h x W6,YS]
  have ih:=kB r λy hy=>h y (W4 _ hy)
  cases p x with
  |true=>show(walk f r).map _=_;rw[ih];rfl
  |false=>exact ih
theorem vA{f:D->Option (Option D)}{P:D->Prop}:∀xs:List D,(∀x∈xs,∃y,P y/\f x=some (some y))->∃ys,walk f xs=some ys/\ys.length=xs.length/\∀y∈ys,P y
 |[],_=>⟨[],rfl,rfl,λ_ h=>nomatch h⟩
 |x::r,h=>by
  refine aa (h x W6) λy hy e=>bJ (vA r λz hz=>h z (W4 _ hz)) λys e2 hl hP=>⟨y::ys,?_,by rw[Xm,Xm,hl],λz hz=>?_⟩
  .rw[walk,e]
   show(walk f r).map _=_
   rw[e2]
   rfl
  .rcases Xc.mp hz with rfl|hz
   .exact hy
   .exact hP z hz
def rX(hx:x∈bH 0 n):∃k:Nat,k<n/\x= .int k:=by
 rw[dY]at hx
 refine aa (Xd.mp hx) λi hi ag=>?_
 subst ag
 refine aa (Xd.mp hi) λj hj aP=>?_
 subst aP
 exact⟨j,XH.mp hj,rfl⟩
def gE(n:Nat):(bH 0 n).length =n:=by
 rw[dY,WZ,bj,WZ,Zv]
noncomputable def fV(ft fd:Nat):Fd:=⟨2,2,(.seq (.ret (.prim .tuple (.cons (.comp [0,1] 0 (.eK (.cons (.idx (.tup (.cons (.c (.int 1)) (.cons (.c (.int 1)) (.cons (.c (.int 2)) (.cons (.c (.int 2)) (.cons (.c (.int 3)) (.cons (.c (.int 0)) (.cons (.c (.int 6)) .nil)))))))) (.bin .Mod (.var 0) (.c (.int 7)))) .nil)) .nil (.call ft (.cons (.call fd (.w 1 (.u 0))) (.u 2)))) .nil))) .skip)⟩
def IF(s:Nat)(y:D):Prop:=∃p∈perms s,y=tp p
def rY{xs:List D}{k:Nat}{x:D}(h:xs[k]?=some x):item (.tup xs) (.int k)=some x:=by
 show(bR xs.length k).bind _=_
 have hk:k<xs.length:=(Xf.mp h).1
 unfold bR
 rw[Xl (by lia),Xl (by lia)]
 show xs[((k:Int)).toNat]?=_
 rw[X6]
 exact h
def IG{F:FT}{ft fd s:Nat}{a:Int}(hd:∀k:Nat,F fd [.int a,.int k]=some (.int (drawn a k)))(ht:∀b:Int,0<=b->∃p∈perms s,F ft [.int b,.int s]=some (tp p)):
  ∃ys,out (ex F (fV ft fd).body (ae (fV ft fd) [.int a,.int s]))=some (.tup ys)/\ys.length<=6/\∀y∈ys,IF s y:=by
 have g0:0<=a%7:=Yu _ (by decide)
 have g1:a%7<7:=Yv _ (by decide)
 obtain⟨j,hj⟩:∃j:Nat,a%7=j:=⟨(a%7).toNat,by lia⟩
 have VJ:j<7:=by lia
 have key:∀j,j<7->∃n:Nat,n<=6/\[D.int 1,.int 1,.int 2,.int 2,.int 3,.int 0,.int 6][j]?=some (.int n):=λj hj=>
  ⟨[1,1,2,2,3,0,6][j],(show∀x∈[1,1,2,2,3,0,6],x<=6 by decide) _ (YI _),by rw[show [D.int 1,.int 1,.int 2,.int 2,.int 3,.int 0,.int 6]=[1,1,2,2,3,0,6].map λn:Nat=>D.int n from rfl,Xb,WW hj];rfl⟩
 refine aa (key j VJ) λn hn hg=>?_
 have e1:ev F false (.idx (.tup (.cons (.c (.int 1)) (.cons (.c (.int 1)) (.cons (.c (.int 2)) (.cons (.c (.int 2)) (.cons (.c (.int 3)) (.cons (.c (.int 0)) (.cons (.c (.int 6)) .nil)))))))) (.bin .Mod (.var 0) (.c (.int 7)))) (ae (fV ft fd) [.int a,.int s])=some (.int n):=by
  have q1:ev F true (.tup (.cons (.c (.int 1)) (.cons (.c (.int 1)) (.cons (.c (.int 2)) (.cons (.c (.int 2)) (.cons (.c (.int 3)) (.cons (.c (.int 0)) (.cons (.c (.int 6)) .nil)))))))) (ae (fV ft fd) [.int a,.int s])=some (.tup [D.int 1,.int 1,.int 2,.int 2,.int 3,.int 0,.int 6]):=by simp[qL,vC,cD,bE]
  have q2:ev F false (.bin .Mod (.var 0) (.c (.int 7))) (ae (fV ft fd) [.int a,.int s])=some (.int j):=by simp[fV,ae,i7,vC,qK,rd,bin,hj]
  rw[qM,q1,Yc,q2,Yc]
  exact rY hg
 obtain⟨ys,w,hl,hP⟩:=vA (f:=fU F [0,1] .nil (.call ft (.cons (.call fd (.w 1 (.u 0))) (.u 2))) (ae (fV ft fd) [.int a,.int s])) (P:=IF s) (bH 0 n) λx hx=>by
  refine aa (rX hx) λk hk ag=>?_
  subst ag
  refine aa (ht (drawn a k) (Aj _ _)) λp hp e=>⟨tp p,⟨p,hp,rfl⟩,?_⟩
  show(ev F false _ (inner [.int (k:Int)] _ [0,1])).map some=_
  have i1:ev F true (.call fd (.w 1 (.u 0))) (inner [.int (k:Int)] (ae (fV ft fd) [.int a,.int s]) [0,1])=some (.int (drawn a k)):=
   aD (xs:=[.int a,.int k]) (bC (by simp[fV,ae,i7,rd,inner,yt]) (by simp[fV,ae,i7,rd,inner,yt])) (hd k) rfl
  rw[aD (xs:=[.int (drawn a k),.int s]) (d:=tp p) (bC i1 (by simp[fV,ae,i7,rd,inner,yt])) e (ax _)]
  rfl
 refine⟨ys,cb ?_,by rw[hl,gE];exact hn,hP⟩
 rw[gZ,dz (x:= .lst ys)]
 .rfl
 .rw[mF (xs:=bH 0 n) (by rw[dz e1,Yc,cF (by lia)]) (by rw[gE];unfold bE;lia),w]
  rfl
section
variable {s:Nat}{ps:List (List Int)}(p9:∀p∈ps,p∈perms s)
include p9
end
def aG(h1:cD F true es ρ=some xs)(h2:F f xs=some d)(h3:kG ρ es=false):ev F b (.call f es) ρ=some d:=by
 rw[tq,h1]
 show(F f xs).bind _=_
 rw[h2]
 simp[h3]
def QQ(h1:ev F b a ρ=some x)(h2:ev F b c ρ=some y)(h3:ev F b e ρ=some z):cD F b (.cons a (.cons c (.cons e .nil))) ρ=some [x,y,z]:=by
 rw[cD,h1,cD,h2,cD,h3,cD]
 rfl
theorem Az:∀{s:Nat} (ys:List D),(∀y∈ys,IF s y)->∃ps:List (List Int),ys=ps.map tp/\∀p∈ps,p∈perms s
 |_,[],_=>⟨[],rfl,λ_ h=>nomatch h⟩
 |s,y::r,h=>by
  refine aa (h y W6) λp hp ag=>?_
  subst ag
  refine aa (Az r λz hz=>h z (W4 _ hz)) λps aP p9=>?_
  subst aP
  exact⟨p::ps,rfl,λq hq=>(Xc.mp hq).elim (λe=>e▸hp) (p9 q)⟩
def vB(h:(cD F false es ρ).bind dE=some xs):ex F (.for is tg (.eK es) b) ρ=aM (λx ρ=>(aE tg x).bind λys=>(cz ρ is ys).bind λρ'=>ex F b ρ') xs ρ:=by
 rw[yB]
 show((cD F false es ρ).bind dE).bind _=_
 rw[h]
 rfl
end Py
namespace iK
structure Pg(α:Type) where
 n:Nat
 S:α->Prop
 mul:α->α->α
 inv:α->α
 one:α
 im:α->Nat->Nat
structure gf{α:Type}(Y:Pg α):Prop where
 s1:Y.S Y.one
 sm:∀{a b},Y.S a->Y.S b->Y.S (Y.mul a b)
 si:∀{a},Y.S a->Y.S (Y.inv a)
 assoc:∀{a b c},Y.S a->Y.S b->Y.S c->Y.mul (Y.mul a b) c=Y.mul a (Y.mul b c)
 mul_one:∀{a},Y.S a->Y.mul a Y.one=a
 one_mul:∀{a},Y.S a->Y.mul Y.one a=a
 df:∀{a},Y.S a->Y.mul a (Y.inv a)=Y.one
 inv_mul:∀{a},Y.S a->Y.mul (Y.inv a) a=Y.one
 bN:∀{k},k<Y.n->Y.im Y.one k=k
 aX:∀{a b k},Y.S a->Y.S b->k<Y.n->Y.im (Y.mul a b) k=Y.im b (Y.im a k)
 jy:∀{a k},Y.S a->k<Y.n->Y.im a k<Y.n
 ext:∀{a b},Y.S a->Y.S b->(∀k,k<Y.n->Y.im a k=Y.im b k)->a=b
section
variable {α:Type}{Y:Pg α}
def gf.inj(L:gf Y)(ha:Y.S a)(hk:k<Y.n)(hl:l<Y.n)(h:Y.im a k=Y.im a l):k=l:=by
 have e:∀j,j<Y.n->Y.im (Y.inv a) (Y.im a j)=j:=λj hj=>by
  rw[<-L.aX ha (L.si ha) hj,L.df ha,L.bN hj]
 rw[<-e k hk,<-e l hl,h]
def hU(Y:Pg α)(t:α)(i:Nat):Prop:=∀k,k<i->Y.im t k=k
abbrev Rg(α:Type):=List (Nat×α)
structure V(Y:Pg α)(i:Nat)(R:Rg α):Prop where
 st:∀p u,(p,u)∈R->Y.S u/\hU Y u i/\Y.im u i=p
 one:(i,Y.one)∈R
 nd:(R.map (·.1)).Nodup
def VL(Y:Pg α):List (Rg α)->Nat->Prop
 |[],i=>i=Y.n
 |R::l,i=>V Y i R/\i<Y.n/\VL Y l (i+1)
def H(Y:Pg α):List (Rg α)->α->Prop
 |[],t=>t=Y.one
 |R::l,t=>∃p u w,(p,u)∈R/\H Y l w/\t=Y.mul w u
def gO{R:Rg α}(h:(R.map (·.1)).Nodup){p:Nat}{u v:α}(h1:(p,u)∈R)(h2:(p,v)∈R):u=v:=by
 induction R with
 |nil=>cases h1
 |cons e R ih=>
  rw[Xj,XB]at h
  rcases Xc.mp h1 with a|a
  .rcases Xc.mp h2 with b|b
   .exact(aaQ (a.trans b.symm)).2
   .exact absurd (Xd.mpr ⟨_,b,by rw[<-a]⟩) h.1
  .rcases Xc.mp h2 with b|b
   .exact absurd (Xd.mpr ⟨_,a,by rw[<-b]⟩) h.1
   .exact ih h.2 a b
theorem H.good(L:gf Y):∀{l:List (Rg α)}{i:Nat}{t:α},VL Y l i->H Y l t->Y.S t/\hU Y t i
 |[],i,t,hv,h=>by
  have h':t=Y.one:=h
  have IH:i=Y.n:=hv
  subst h'
  exact⟨L.s1,λk hk=>L.bN (by lia)⟩
 |R::l,i,t,⟨hv,hi,hl⟩,⟨p,u,w,hu,hw,e⟩=>by
  obtain⟨s1,f1⟩:=H.good L hl hw
  refine cN (hv.st p u hu) λs2 f2 _=>?_
  subst e
  refine⟨L.sm s1 s2,λk hk=>?_⟩
  rw[L.aX s1 s2 (by lia),f1 k (by lia),f2 k hk]
theorem H.one(L:gf Y):∀{l:List (Rg α)}{i:Nat},VL Y l i->H Y l Y.one
 |[],_,_=>rfl
 |R::l,i,⟨hv,hi,hl⟩=>⟨i,Y.one,Y.one,hv.one,H.one L hl,(L.one_mul L.s1).symm⟩
def St(l:List (Rg α))(u:α):Prop:=∃R∈l,∃p,(p,u)∈R
theorem St.good(L:gf Y):∀{l:List (Rg α)}{i:Nat}{u:α},VL Y l i->St l u->Y.S u/\hU Y u i
 |[],_,_,_,⟨_,h,_⟩=>by cases h
 |R::l,i,u,⟨hv,hi,hl⟩,⟨R',hR,p,hp⟩=>by
  rcases Xc.mp hR with e|e
  .rw[e]at hp
   exact⟨(hv.st p u hp).1,(hv.st p u hp).2.1⟩
  .obtain⟨a,b⟩:=St.good L hl ⟨R',e,p,hp⟩
   exact⟨a,λk hk=>b k (by lia)⟩
def H.drop(L:gf Y){R:Rg α}{l:List (Rg α)}{i:Nat}{t:α}(hv:VL Y (R::l) i)(h:H Y (R::l) t)(hf:Y.im t i=i):H Y l t:=by
 refine cN hv λhV hi hl=>cS h λp u w hu hw e=>?_
 obtain⟨s1,f1⟩:=H.good L hl hw
 refine cN (hV.st p u hu) λs2 f2 f3=>?_
 have:p=i:=by
  rw[e,L.aX s1 s2 hi,f1 i (by lia),f3]at hf
  exact hf
 subst this
 have:u=Y.one:=gO hV.nd hu hV.one
 rw[this,L.mul_one s1]at e
 rw[e]
 exact hw
def H.DR(L:gf Y)(hv:VL Y (R::l) i)(h:H Y l t):H Y (R::l) t:=⟨i,Y.one,t,hv.1.one,h,(L.mul_one (H.good L hv.2.2 h).1).symm⟩
inductive Gen(Y:Pg α)(G:α->Prop):α->Prop
 |one:Gen Y G Y.one
 |mul {t u:α}:Gen Y G t->G u->Gen Y G (Y.mul t u)
theorem Gen.S(L:gf Y)(hG:∀u,G u->Y.S u):∀{t:α},Gen Y G t->Y.S t
 |_,.one =>L.s1
 |_,.mul h hu=>L.sm (Gen.S L hG h) (hG _ hu)
theorem Gen.mono(h:∀u,G u->G' u):∀{t:α},Gen Y G t->Gen Y G' t
 |_,.one => .one
 |_,.mul a hu=> .mul (Gen.mono h a) (h _ hu)
theorem Gen.app(L:gf Y)(hG:∀u,G u->Y.S u)(ha:Gen Y G a):∀{b:α},Gen Y G b->Gen Y G (Y.mul a b)
 |_,.one =>by rw[L.mul_one (Gen.S L hG ha)];exact ha
 |_,.mul (t:=t) (u:=u) h hu=>by
  rw[<-L.assoc (Gen.S L hG ha) (Gen.S L hG h) (hG _ hu)]
  exact .mul (Gen.app L hG ha h) hu
def Gen.of(L:gf Y)(hs:Y.S u)(h:G u):Gen Y G u:=by
 have:=Gen.mul (Gen.one (Y:=Y) (G:=G)) h
 rwa [L.one_mul hs]at this
theorem H.gen(L:gf Y):∀{l:List (Rg α)}{i:Nat}{t:α},VL Y l i->H Y l t->Gen Y (St l) t
 |[],_,t,_,h=>by
  have h':t=Y.one:=h
  rw[h'];exact .one
 |R::l,i,t,⟨hV,hi,hl⟩,⟨p,u,w,hu,hw,e⟩=>by
  rw[e]
  exact .mul (Gen.mono (λx ⟨R',h,q⟩=>⟨R',W4 _ h,q⟩) (H.gen L hl hw)) ⟨R,W6,p,hu⟩
theorem H.closed(L:gf Y):∀{l:List (Rg α)}{i:Nat},VL Y l i->(∀u v,St l u->St l v->H Y l (Y.mul u v))->∀t v,H Y l t->St l v->H Y l (Y.mul t v)
 |[],_,_,_,_,_,_,⟨_,h,_⟩=>by cases h
 |R::l,i,hv,hp,t,v,⟨p,u,w,hu,hw,e⟩,mX=>by
  have hl:=hv.2.2
  have sub:∀x,St l x->St (R::l) x:=λx ⟨R',h,q⟩=>⟨R',W4 _ h,q⟩
  have ih:=H.closed L hl λx y hx hy=>by
   obtain⟨s1,f1⟩:=St.good L hl hx
   obtain⟨s2,f2⟩:=St.good L hl hy
   refine(hp x y (sub x hx) (sub y hy)).drop L hv ?_
   rw[L.aX s1 s2 hv.2.1,f1 i (by lia),f2 i (by lia)]
  have all:∀{x:α},Gen Y (St l) x->H Y l (Y.mul w x):=λ{x} hx=>by
   induction hx with
   |one=>rw[L.mul_one (H.good L hl hw).1];exact hw
   |mul h hu GB=>
    rw[<-L.assoc (H.good L hl hw).1 (Gen.S L (λu hu=>(St.good L hl hu).1) h) (St.good L hl hu).1]
    exact ih _ _ GB hu
  have su:St (R::l) u:=⟨R,W6,p,hu⟩
  refine cS (hp u v su mX) λp' u' w' Dk u9 e'=>?_
  obtain⟨sw,_⟩:=H.good L hl hw
  obtain⟨II,_⟩:=H.good L hl u9
  have VM:=(St.good L hv su).1
  have VN:=(St.good L hv mX).1
  have VO:=(hv.1.st p' u' Dk).1
  refine⟨p',u',Y.mul w w',Dk,all (H.gen L hl u9),?_⟩
  rw[e,L.assoc sw VM VN,e',<-L.assoc sw II VO]
def H.all(L:gf Y)(hv:VL Y l i)(hp:∀u v,St l u->St l v->H Y l (Y.mul u v))(ht:H Y l t)(hx:Gen Y (St l) x):H Y l (Y.mul t x):=by
 induction hx with
 |one=>rw[L.mul_one (H.good L hv ht).1];exact ht
 |mul h hu ih=>
  rw[<-L.assoc (H.good L hv ht).1 (Gen.S L (λu hu=>(St.good L hv hu).1) h) (St.good L hv hu).1]
  exact H.closed L hv hp _ _ ih hu
def H.row(L:gf Y)(hv:VL Y l 0)(hG:∀u,G u->Y.S u)(hp:∀u v,St l u->St l v->H Y l (Y.mul u v))(hr:∀g,G g->H Y l g)(hs:∀u,St l u->Gen Y G u)(t:α):H Y l t↔Gen Y G t:=by
 constructor
 .intro h
  have:∀{x:α},Gen Y (St l) x->Gen Y G x:=λ{x} hx=>by
   induction hx with
   |one=>exact .one
   |mul h hu ih=>exact Gen.app L hG ih (hs _ hu)
  exact this (H.gen L hv h)
 .intro h
  induction h with
  |one=>exact H.one L hv
  |mul h hu ih=>exact H.all L hv hp ih (H.gen L hv (hr _ hu))
noncomputable def dG(R:Rg α)(p:Nat):Option α:=(R.find? λe=>e.1==p).map (·.2)
def cn(h:dG R p=some u):(p,u)∈R:=by
 unfold dG at h
 cases e:R.find? (λe=>e.1==p)with
 |none=>rw[e]at h;cases h
 |some x=>
  rw[e]at h
  cases h
  have h1:=List.find?_some e
  have h2:=List.mem_of_find?_eq_some e
  have:x.1=p:=by simpa using h1
  rw[<-this];exact h2
def gP{R:Rg α}{p:Nat}(h:dG R p=none):p∉R.map (·.1):=λhm=>by
 unfold dG at h
 rw[Option.map_eq_none_iff,List.find?_eq_none]at h
 exact aa (Xd.mp hm) λe he hp=>h e he (by simp[hp])
def vD{R:Rg α}(nd:(R.map (·.1)).Nodup){p:Nat}{u:α}(h:(p,u)∈R):dG R p=some u:=by
 cases e:dG R p with
 |none=>exact absurd (Xd.mpr ⟨_,h,rfl⟩) (gP e)
 |some v=>rw[gO nd h (cn e)]
noncomputable def dA(Y:Pg α):List (Rg α)->Nat->α->α
 |[],_,t=>t
 |R::l,i,t=>match dG R (Y.im t i)with
  |some u=>dA Y l (i+1) (Y.mul t (Y.inv u))
  |none=>t
noncomputable def add:List (Rg α)->Nat->Nat×α->List (Rg α)
 |[],_,_=>[]
 |R::l,0,x=>(R++[x])::l
 |R::l,k+1,x=>R::add l k x
theorem H.add:∀{l:List (Rg α)}{k:Nat}{t:α},H Y l t->H Y (iK.add l k x) t
 |[],_,_,h=>h
 |R::l,0,t,⟨p,u,w,hu,hw,e⟩=>⟨p,u,w,Xp _ hu,hw,e⟩
 |R::l,k+1,t,⟨p,u,w,hu,hw,e⟩=>⟨p,u,w,hu,H.add hw,e⟩
theorem St.add:∀{l:List (Rg α)}{k:Nat},St (iK.add l k x) v->St l v\/v=x.2
 |[],_,⟨_,h,_⟩=>by cases h
 |R::l,0,⟨R',hR,p,hp⟩=>by
  rcases Xc.mp hR with e|e
  .rw[e]at hp
   rcases Xk.mp hp with z|z
   .exact .inl ⟨R,W6,p,z⟩
   .rw[W5]at z
    exact .inr (by rw[<-z])
  .exact .inl ⟨R',W4 _ e,p,hp⟩
 |R::l,k+1,⟨R',hR,p,hp⟩=>by
  rcases Xc.mp hR with e|e
  .exact .inl ⟨R,W6,p,by rw[<-e];exact hp⟩
  .rcases St.add (l:=l) (k:=k) ⟨R',e,p,hp⟩with⟨R2,h2,q⟩|z
   .exact .inl ⟨R2,W4 _ h2,q⟩
   .exact .inr z
theorem oJ(L:gf Y):∀{l:List (Rg α)}{i:Nat}{t:α},VL Y l i->Y.S t->hU Y t i->
  (dA Y l i t=Y.one/\H Y l t)\/∃k R,l[k]?=some R/\i+k<Y.n/\Y.S (dA Y l i t)/\hU Y (dA Y l i t) (i+k)/\Y.im (dA Y l i t) (i+k)∉R.map (·.1)/\Y.im (dA Y l i t) (i+k)≠i+k/\
   H Y (add l k (Y.im (dA Y l i t) (i+k),dA Y l i t)) t/\VL Y (add l k (Y.im (dA Y l i t) (i+k),dA Y l i t)) i
 |[],i,t,hv,hs,hf=>by
  have IH:i=Y.n:=hv
  have:t=Y.one:=L.ext hs L.s1 λk hk=>by rw[hf k (by lia),L.bN hk]
  exact .inl ⟨this,this⟩
 |R::l,i,t,hv,hs,hf=>by
  refine cN hv λhV hi hl=>?_
  unfold dA
  cases e:dG R (Y.im t i)with
  |none=>
   have hn:=gP e
   have fJ:Y.im t i≠i:=λz=>hn (Xd.mpr ⟨_,hV.one,z.symm⟩)
   refine .inr ⟨0,R,rfl,hi,hs,hf,hn,fJ,?_,?_⟩
   .exact⟨Y.im t i,t,Y.one,Xi _ (W5.mpr rfl),H.one L hl,(L.one_mul hs).symm⟩
   .refine⟨⟨λp u hu=>?_,Xp _ hV.one,?_⟩,hi,hl⟩
    .rcases Xk.mp hu with z|z
     .exact hV.st p u z
     .rw[W5]at z
      cases z
      exact⟨hs,hf,rfl⟩
    .rw[Xy,Yk]
     refine⟨hV.nd,by simp,λa ha b hb z=>?_⟩
     have:b=Y.im t i:=by simpa using hb
     exact hn (by rw[<-this,<-z];exact ha)
  |some u=>
   have hu:=cn e
   refine cN (hV.st _ u hu) λs2 f2 f3=>?_
   have sI:=L.si s2
   have s3:Y.S (Y.mul t (Y.inv u)):=L.sm hs sI
   have back:Y.mul (Y.mul t (Y.inv u)) u=t:=by rw[L.assoc hs sI s2,L.inv_mul s2,L.mul_one hs]
   have AA:∀k,k<Y.n->Y.im (Y.inv u) (Y.im u k)=k:=λk hk=>by rw[<-L.aX s2 sI hk,L.df s2,L.bN hk]
   have f4:hU Y (Y.mul t (Y.inv u)) (i+1):=λk hk=>by
    rw[L.aX hs sI (by lia)]
    rcases X0 k i with z|z
    .rw[hf k z]
     have:=AA k (by lia)
     rwa [f2 k z]at this
    .have e2:k=i:=by lia
     rw[e2]
     have:=AA i hi
     rwa [f3]at this
   dsimp only
   rcases oJ L hl s3 f4 with⟨a,b⟩|⟨k,R',a1,a2,a3,a4,a5,a6,a7,a8⟩
   .exact .inl ⟨a,_,u,_,hu,b,back.symm⟩
   .have ek:i+1+k=i+(k+1):=by lia
    rw[ek]at a2 a4 a5 a6 a7 a8
    exact .inr ⟨k+1,R',a1,a2,a3,a4,a5,a6,⟨_,u,_,hu,a7,back.symm⟩,hV,hi,a8⟩
structure Fd(Y:Pg α)(G:α->Prop)(l:List (Rg α))(W:List α):Prop where
 v:VL Y l 0
 g:∀u,St l u->Gen Y G u
 wg:∀t∈W,Gen Y G t
 row:∀t,G t->t∈W\/H Y l t
 MU:∀u v,St l u->St l v->Y.mul u v∈W\/H Y l (Y.mul u v)
def Fd.done(L:gf Y)(hG:∀u,G u->Y.S u)(h:Fd Y G l [])(t:α):H Y l t↔Gen Y G t:=
 H.row L h.v hG (λu v hu hv=>(h.MU u v hu hv).resolve_left (by simp)) (λg hg=>(h.row g hg).resolve_left (by simp)) h.g t
def Fd.none(h:Fd Y G l (W++[t]))(ht:H Y l t):Fd Y G l W where
 v:=h.v
 g:=h.g
 wg:=λx hx=>h.wg x (Xp _ hx)
 row:=λx hx=>by
  rcases h.row x hx with z|z
  .rcases Xk.mp z with z|z
   .exact .inl z
   .rw[W5.mp z];exact .inr ht
  .exact .inr z
 MU:=λu v hu hv=>by
  rcases h.MU u v hu hv with z|z
  .rcases Xk.mp z with z|z
   .exact .inl z
   .rw[W5.mp z];exact .inr ht
  .exact .inr z
def Fd.more(L:gf Y)(h:Fd Y G l (W++[t]))(hv:VL Y (add l k (p,r)) 0)(ht:H Y (add l k (p,r)) t)(hr:Gen Y G r)(p9:∀x∈Ps,Gen Y G x)
  (hP:∀u,St (add l k (p,r)) u->Y.mul u r∈Ps/\Y.mul r u∈Ps):Fd Y G (add l k (p,r)) (W++Ps) where
 v:=hv
 g:=λu hu=>by
  rcases hu.add with z|z
  .exact h.g u z
  .rw[z];exact hr
 wg:=λx hx=>(Xk.mp hx).elim (λz=>h.wg x (Xp _ z)) (p9 x)
 row:=λx hx=>by
  rcases h.row x hx with z|z
  .rcases Xk.mp z with z|z
   .exact .inl (Xp _ z)
   .rw[W5.mp z];exact .inr ht
  .exact .inr z.add
 MU:=λu v hu IH=>by
  rcases hu.add with z1|z1
  .rcases IH.add with z2|z2
   .rcases h.MU u v z1 z2 with z|z
    .rcases Xk.mp z with z|z
     .exact .inl (Xp _ z)
     .rw[W5.mp z];exact .inr ht
    .exact .inr z.add
   .rw[z2]
    exact .inl (Xi _ (hP u hu).1)
  .rw[z1]
   exact .inl (Xi _ (hP v IH).2)
theorem hU.mul(L:gf Y)(ha:Y.S a)(hb:Y.S b)(hi:i<=Y.n)(h1:hU Y a i)(h2:hU Y b i):hU Y (Y.mul a b) i:=λk hk=>by rw[L.aX ha hb (by lia),h1 k hk,h2 k hk]
theorem hU.inv(L:gf Y)(ha:Y.S a)(hi:i<=Y.n)(h1:hU Y a i):hU Y (Y.inv a) i:=λk hk=>by
 have:=L.aX ha (L.si ha) (k:=k) (by lia)
 rw[L.df ha,L.bN (by lia),h1 k hk]at this
 exact this.symm
structure cW(Y:Pg α)(M:α->Prop):Prop where
 s:∀t,M t->Y.S t
 one:M Y.one
 mul:∀a b,M a->M b->M (Y.mul a b)
 inv:∀a,M a->M (Y.inv a)
def Hm(Y:Pg α)(M:α->Prop)(l:List (Rg α))(i:Nat):Prop:=VL Y l i/\∀t,H Y l t↔M t/\hU Y t i
def Hm.tail(L:gf Y)(h:Hm Y M (R::l) i):Hm Y M l (i+1):=by
 refine⟨h.1.2.2,λt=>⟨λht=>?_,λ⟨h1,h2⟩=>?_⟩⟩
 .exact⟨((h.2 t).mp (ht.DR L h.1)).1,(H.good L h.1.2.2 ht).2⟩
 .exact((h.2 t).mpr ⟨h1,λk hk=>h2 k (by lia)⟩).drop L h.1 (h2 i (by lia))
def Hm.step(L:gf Y)(h:Hm Y M (R::l) i)(hu:(p,u)∈R):M u/\hU Y u i/\Y.im u i=p:=by
 refine cN (h.1.1.st p u hu) λs1 f1 f2=>?_
 have:H Y (R::l) u:=⟨p,u,Y.one,hu,H.one L h.1.2.2,(L.one_mul s1).symm⟩
 exact⟨((h.2 u).mp this).1,f1,f2⟩
def Hm.split(L:gf Y)(h:Hm Y M (R::l) i)(hM:M t)(hf:hU Y t i):∃u w,(Y.im t i,u)∈R/\H Y l w/\t=Y.mul w u:=by
 refine aq λnO=>cS ((h.2 t).mpr ⟨hM,hf⟩) λp u w hu hw e=>?_
 obtain⟨s1,f1⟩:=H.good L h.1.2.2 hw
 refine cN (h.1.1.st p u hu) λs2 f2 f3=>nO ?_
 have:Y.im t i=p:=by rw[e,L.aX s1 s2 h.1.2.1,f1 i (by lia),f3]
 exact⟨u,w,by rw[this];exact hu,hw,e⟩
def Lt(Y:Pg α)(a b:α):Prop:=∃i,i<Y.n/\(∀k,k<i->Y.im a k=Y.im b k)/\Y.im a i<Y.im b i
def Lt.ND(h:Lt Y a b)(h':Lt Y b a):False:=by
 refine bJ h λi i1 i2 i3=>bJ h' λj j1 j2 j3=>?_
 rcases Nat.lt_trichotomy i j with z|z|z
 .have:=j2 i z;lia
 .subst z;lia
 .have:=i2 j z;lia
inductive LM(Y:Pg α):List (Rg α)->α->α->Prop
 |nil {u:α}:LM Y [] u u
 |cons {R:Rg α}{l:List (Rg α)}{u x:α}{p:Nat}{v:α}:(p,v)∈R->(∀q,q∈R.map (·.1)->Y.im u p<=Y.im u q)->LM Y l (Y.mul v u) x->LM Y (R::l) u x
theorem LM.least(L:gf Y):∀{l:List (Rg α)}{i:Nat}{u x:α},VL Y l i->Y.S u->LM Y l u x->(∃w,H Y l w/\x=Y.mul w u)/\∀w,H Y l w->x=Y.mul w u\/Lt Y x (Y.mul w u)
 |[],i,u,x,hv,hs,h=>by
  cases h
  refine⟨⟨Y.one,rfl,(L.one_mul hs).symm⟩,λw hw=>?_⟩
  have u9:w=Y.one:=hw
  rw[u9,L.one_mul hs];exact .inl rfl
 |R::l,i,u,x,hv,hs,h=>by
  cases h
  rename_i p v hp AB hl
  refine aq λnO=>cN hv λhV hi QR=>cN (hV.st p v hp) λs2 f2 f3=>?_
  obtain⟨⟨w',u9,ex⟩,ih⟩:=LM.least L QR (L.sm s2 hs) hl
  obtain⟨II,S0⟩:=H.good L QR u9
  refine nO ?_
  have hx:x=Y.mul (Y.mul w' v) u:=by rw[ex,L.assoc II s2 hs]
  refine⟨⟨Y.mul w' v,⟨p,v,w',hp,u9,rfl⟩,hx⟩,?_⟩
  rintro w ⟨p2,v2,w2,wH,S1,ew⟩
  refine aq λnO=>cN (hV.st p2 v2 wH) λs3 g2 g3=>?_
  obtain⟨MV,S2⟩:=H.good L QR S1
  refine nO ?_
  by_cases e:p2=p
  .subst e
   have:v2=v:=gO hV.nd wH hp
   subst this
   rw[ew,L.assoc MV s3 hs]
   exact ih w2 S1
  .refine .inr ⟨i,hi,λk hk=>?_,?_⟩
   .rw[hx,ew,L.aX (L.sm II s2) hs (by lia),L.aX (L.sm MV s3) hs (by lia),L.aX II s2 (by lia),L.aX MV s3 (by lia),S0 k (by lia),S2 k (by lia),f2 k hk,g2 k hk]
   .rw[hx,ew,L.aX (L.sm II s2) hs hi,L.aX (L.sm MV s3) hs hi,L.aX II s2 hi,L.aX MV s3 hi,S0 i (by lia),S2 i (by lia),f3,g3]
    have h1:=AB p2 (Xd.mpr ⟨_,wH,rfl⟩)
    have Jq:p<Y.n:=by rw[<-f3];exact L.jy s2 hi
    have QS:p2<Y.n:=by rw[<-g3];exact L.jy s3 hi
    have h2:Y.im u p≠Y.im u p2:=λz=>e (L.inj hs Jq QS z).symm
    lia
def fC(Y:Pg α)(M:α->Prop)(i p:Nat)(x:α):Prop:=M x/\hU Y x i/\Y.im x i=p/\∀t,M t->hU Y t i->Y.im t i=p->x=t\/Lt Y x t
def fC.MW(h:fC Y M i p x)(h':fC Y M i p y):x=y:=by
 rcases h.2.2.2 y h'.1 h'.2.1 h'.2.2.1 with z|z
 .exact z
 .rcases h'.2.2.2 x h.1 h.2.1 h.2.2.1 with z'|z'
  .exact z'.symm
  .exact(z.ND z').elim
def Hm.best(L:gf Y)(hM:cW Y M)(h:Hm Y M (R::l) i)(hu:(p,u)∈R)(hx:LM Y l u x):fC Y M i p x:=by
 refine cN (h.step L hu) λm1 f1 f2=>?_
 have hs:=hM.s u m1
 obtain⟨⟨w,hw,ex⟩,least⟩:=LM.least L h.1.2.2 hs hx
 obtain⟨mw,fw⟩:=((h.tail L).2 w).mp hw
 have sw:=hM.s w mw
 have hi:=h.1.2.1
 refine⟨by rw[ex];exact hM.mul _ _ mw m1,?_,?_,λt ht hf hp=>?_⟩
 .rw[ex];exact hU.mul L sw hs (by lia) (λk hk=>fw k (by lia)) f1
 .rw[ex,L.aX sw hs hi,fw i (by lia),f2]
 .refine bu (h.split L ht hf) λu' w' h1 h2 e=>?_
  rw[hp]at h1
  have:u'=u:=gO h.1.1.nd h1 hu
  rw[e,this]
  exact least w' h2
def AD(L:gf Y)(hM:cW Y M)(hi:i<Y.n):fC Y M i i Y.one:=by
 refine⟨hM.one,λk hk=>L.bN (by lia),L.bN hi,λt ht hf hp=>?_⟩
 have hs:=hM.s t ht
 by_cases all:∀k,k<Y.n->Y.im t k=k
 .exact .inl (L.ext L.s1 hs λk hk=>by rw[L.bN hk,all k hk])
 .
  have ex:∃j,j<Y.n/\Y.im t j≠j/\∀k,k<j->Y.im t k=k:=by
   have key:∀m,m<=Y.n->(∀k,k<m->Y.im t k=k)\/∃j,j<m/\Y.im t j≠j/\∀k,k<j->Y.im t k=k:=λm=>by
    induction m with
    |zero=>intro _;exact .inl λk hk=>by lia
    |succ m ih=>
     intro hm
     rcases ih (by lia)with z|⟨j,z1,z2,z3⟩
     .by_cases e:Y.im t m=m
      .exact .inl λk hk=>by
        rcases X0 k m with y|y
        .exact z k y
        .rw[show k=m by lia];exact e
      .exact .inr ⟨m,by lia,e,z⟩
     .exact .inr ⟨j,by lia,z2,z3⟩
   rcases key Y.n (W9 _)with z|⟨j,z1,z2,z3⟩
   .exact absurd z all
   .exact⟨j,z1,z2,z3⟩
  refine bJ ex λj j1 j2 j3=> .inr ⟨j,j1,λk hk=>by rw[L.bN (by lia),j3 k hk],?_⟩
  rw[L.bN j1]
  rcases Nat.lt_trichotomy (Y.im t j) j with z|z|z
  .have:=L.inj hs (L.jy hs j1) j1 (j3 _ z)
   lia
  .exact absurd z j2
  .exact z
def DS(Y:Pg α)(M:α->Prop):List (Rg α)->Nat->Prop
 |[],i=>i=Y.n
 |R::l,i=>i<Y.n/\(∀p x,(p,x)∈R->fC Y M i p x)/\(∀t,M t->hU Y t i->∃x,(Y.im t i,x)∈R)/\(R.map (·.1)).Nodup /\DS Y M l (i+1)
theorem DS.hm(L:gf Y)(hM:cW Y M):∀{l:List (Rg α)}{i:Nat},DS Y M l i->Hm Y M l i
 |[],i,h=>by
  have h':i=Y.n:=h
  refine⟨h,λt=>⟨λht=>?_,λ⟨h1,h2⟩=>?_⟩⟩
  .have e:t=Y.one:=ht
   rw[e]
   exact⟨hM.one,λk hk=>L.bN (by lia)⟩
  .exact L.ext (hM.s t h1) L.s1 λk hk=>by rw[h2 k (by lia),L.bN hk]
 |R::l,i,⟨hi,hb,ha,nd,hl⟩=>by
  have ih:=DS.hm L hM hl
  have IJ:(i,Y.one)∈R:=by
   obtain⟨x,hx⟩:=ha Y.one hM.one λk hk=>L.bN (by lia)
   rw[L.bN hi]at hx
   have:=(hb i x hx).MW (AD L hM hi)
   rw[this]at hx
   exact hx
  have hV:VL Y (R::l) i:=⟨⟨λp u hu=>by
   exact xE (hb p u hu) λb1 b2 b3 _=>⟨hM.s u b1,b2,b3⟩,IJ,nd⟩,hi,ih.1⟩
  refine⟨hV,λt=>⟨?_,λ⟨h1,h2⟩=>?_⟩⟩
  .rintro⟨p,u,w,hu,hw,e⟩
   refine xE (hb p u hu) λb1 b2 b3 _=>?_
   obtain⟨mw,fw⟩:=(ih.2 w).mp hw
   rw[e]
   exact⟨hM.mul _ _ mw b1,hU.mul L (hM.s w mw) (hM.s u b1) (by lia) (λk hk=>fw k (by lia)) b2⟩
  .obtain⟨x,hx⟩:=ha t h1 h2
   refine xE (hb _ x hx) λb1 b2 b3 _=>?_
   have st:=hM.s t h1
   have sx:=hM.s x b1
   have sI:=L.si sx
   refine⟨_,x,Y.mul t (Y.inv x),hx,(ih.2 _).mpr ⟨hM.mul _ _ h1 (hM.inv _ b1),λk hk=>?_⟩,by rw[L.assoc st sI sx,L.inv_mul sx,L.mul_one st]⟩
   rw[L.aX st sI (by lia)]
   rcases X0 k i with z|z
   .rw[h2 k z];exact hU.inv L sx (by lia) b2 k z
   .have e:k=i:=by lia
    rw[e,<-b3,<-L.aX sx sI hi,L.df sx,L.bN hi]
noncomputable def TL(Y:Pg α):List (Rg α)->List α
 |[]=>[Y.one]
 |R::l=>R.flatMap λe=>(TL Y l).map λw=>Y.mul w e.2
theorem iL:∀{l:List (Rg α)}{t:α},t∈TL Y l↔H Y l t
 |[],t=>W5
 |R::l,t=>by
  unfold TL
  simp only[Yd,Xd]
  constructor
  .rintro⟨e,he,w,hw,rfl⟩
   exact⟨e.1,e.2,w,he,iL.mp hw,rfl⟩
  .rintro⟨p,u,w,hu,hw,e⟩
   exact⟨(p,u),hu,w,iL.mpr hw,e.symm⟩
theorem mG(L:gf Y):∀{l:List (Rg α)}{i:Nat},VL Y l i->(TL Y l).Nodup
 |[],_,_=>by simp[TL]
 |R::l,i,⟨hV,hi,hl⟩=>by
  have ih:=mG L hl
  have good:∀w,w∈TL Y l->Y.S w/\hU Y w (i+1):=λw hw=>H.good L hl (iL.mp hw)
  have key:∀{R':Rg α},(∀p u,(p,u)∈R'->Y.S u/\Y.im u i=p)->(R'.map (·.1)).Nodup ->(R'.flatMap λe=>(TL Y l).map λw=>Y.mul w e.2).Nodup :=λ{R'}=>by
   induction R' with
   |nil=>intro _ _;simp
   |cons e R' GB=>
    intro hs nd
    rw[Xj,XB]at nd
    obtain⟨se,pe⟩:=hs e.1 e.2 W6
    rw[aaa,Yk]
    refine⟨?_,GB (λp u h=>hs p u (W4 _ h)) nd.2,λa ha b hb z=>?_⟩
    .refine X7.mpr (ih.imp_of_mem λ{a b} ha hb fJ tM=>fJ ?_)
     have sa:=(good a ha).1
     have sb:=(good b hb).1
     have sI:=L.si se
     have:Y.mul (Y.mul a e.2) (Y.inv e.2)=Y.mul (Y.mul b e.2) (Y.inv e.2):=congrArg (λx=>Y.mul x (Y.inv e.2)) tM
     rwa [L.assoc sa se sI,L.assoc sb se sI,L.df se,L.mul_one sa,L.mul_one sb]at this
    .refine aa (Xd.mp ha) λw hw ag=>?_
     subst ag
     refine aa (Yd.mp hb) λe' xm jE=>aa (Xd.mp jE) λw' u9 aP=>?_
     subst aP
     obtain⟨VP,VQ⟩:=hs e'.1 e'.2 (W4 _ xm)
     have h1:Y.im (Y.mul w e.2) i=e.1:=by rw[L.aX (good w hw).1 se hi,(good w hw).2 i (by lia),pe]
     have h2:Y.im (Y.mul w' e'.2) i=e'.1:=by rw[L.aX (good w' u9).1 VP hi,(good w' u9).2 i (by lia),VQ]
     rw[z,h2]at h1
     exact nd.1 (Xd.mpr ⟨e',xm,h1⟩)
  exact key (λp u h=>⟨(hV.st p u h).1,(hV.st p u h).2.2⟩) hV.nd
end
open Py
noncomputable def pg(s:Nat):Pg (List Int) where
 n:=s
 S:=λp=>p∈perms s
 mul:=comp
 inv:=ip
 one:=bj s
 im:=λp k=>(p.getD k 0).toNat
section
variable {s:Nat}
def IK(hp:p∈perms s)(hk:k<s):p.getD k 0∈p:=getD_mem (by rw[aK hp];exact hk)
def AF(hp:p∈perms s)(hk:k<s):0<=p.getD k 0/\p.getD k 0<s:=(aF.mp hp).2.2 _ (IK hp hk)
def il(hp:p∈perms s)(hk:k<s):p.getD k 0=(((pg s).im p k:Nat):Int):=by
 have:=AF hp hk
 show _=(((p.getD k 0).toNat :Nat):Int)
 lia
def DT(hp:p∈perms s)(hk:k<s):(comp p q).getD k 0=q.getD (p.getD k 0).toNat 0:=by
 have hl:k<p.length:=by rw[aK hp];exact hk
 unfold comp
 rw[Xa,Xb,WW hl,Xa (l:=p),WW hl]
 rfl
def t_(hk:k<s):(bj s).getD k 0=(k:Int):=by
 unfold bj
 rw[Xa,Xb,YF hk]
 rfl
def aw:gf (pg s) where
 s1:=dZ s
 sm:=λha hb=>fB ha hb
 si:=λha=>fQ ha
 assoc:=λha hb _=>iI ha hb
 mul_one:=λha=>ju ha
 one_mul:=λha=>mz ha
 df:=λha=>DO ha
 inv_mul:=λha=>vy ha
 bN:=λ{k} hk=>by
  show((bj s).getD k 0).toNat =k
  rw[t_ (s:=s) hk];lia
 aX:=λ{a b k} ha hb hk=>by
  show((comp a b).getD k 0).toNat =(b.getD (a.getD k 0).toNat 0).toNat
  rw[DT ha hk]
 jy:=λ{a k} ha hk=>by
  have:=AF ha hk
  show(a.getD k 0).toNat<s
  lia
 ext:=λ{a b} ha hb h=>by
  apply Yj
  intro k
  rcases X0 k s with z|z
  .have h1:=il ha z
   have h2:=il hb z
   have h3:=h k z
   rw[h3]at h1
   have e:a.getD k 0=b.getD k 0:=h1.trans h2.symm
   rw[Xa,Xa]at e
   have la:k<a.length:=by rw[aK ha];exact z
   have lb:k<b.length:=by rw[aK hb];exact z
   rw[WW la,WW lb]at e⊢
   simpa using e
  .rw[Xr (by rw[aK ha];exact z),Xr (by rw[aK hb];exact z)]
theorem vE:∀{a b:List Int},a.length=b.length->(b6.bF a b=true↔ ∃i,i<a.length/\(∀k,k<i->a.getD k 0=b.getD k 0)/\a.getD i 0<b.getD i 0)
 |[],[],_=>by simp[b6.bF]
 |[],_::_,h=>by simp at h
 |_::_,[],h=>by simp at h
 |x::a,y::b,h=>by
  have hl:a.length=b.length:=by simpa using h
  unfold b6.bF
  by_cases e:x=y
  .rw[Xl e,vE hl]
   constructor
   .rintro⟨i,h1,h2,h3⟩
    refine⟨i+1,by simpa using h1,λk hk=>?_,by simpa using h3⟩
    cases k with
    |zero=>simpa using e
    |succ k=>simpa using h2 k (by lia)
   .rintro⟨i,h1,h2,h3⟩
    cases i with
    |zero=>
     have:x<y:=by simpa using h3
     lia
    |succ i=>exact⟨i,by simpa using h1,λk hk=>by simpa using h2 (k+1) (by lia),by simpa using h3⟩
  .rw[Xs e]
   constructor
   .intro h
    have:=of_decide_eq_true h
    exact⟨0,by simp,λk hk=>by lia,by simpa using this⟩
   .rintro⟨i,h1,h2,h3⟩
    cases i with
    |zero=>exact decide_eq_true (by simpa using h3)
    |succ i=>exact absurd (by simpa using h2 0 (by lia)) e
def DU(ha:a∈perms s)(hb:b∈perms s):Lt (pg s) a b↔b6.bF a b=true:=by
 have la:=aK ha
 have lb:=aK hb
 rw[vE (la.trans lb.symm),la]
 constructor
 .rintro⟨i,h1,h2,h3⟩
  refine⟨i,h1,λk hk=>?_,?_⟩
  .rw[il ha (Zi hk h1),il hb (Zi hk h1),h2 k hk]
  .rw[il ha h1,il hb h1];lia
 .rintro⟨i,h1,h2,h3⟩
  refine⟨i,h1,λk hk=>?_,?_⟩
  .show(a.getD k 0).toNat =(b.getD k 0).toNat
   rw[h2 k hk]
  .have:=AF ha h1
   show(a.getD i 0).toNat<(b.getD i 0).toNat
   lia
theorem AG(L:gf (pg s))(hG:∀u,G u->u∈perms s)(hu:Gen (pg s) G u):∀m,Gen (pg s) G (pw u m)
 |0=>by
  have hp:u∈perms s:=Gen.S L hG hu
  have:pw u 0=bj s:=by show bj u.length=bj s;rw[aK hp]
  rw[this];exact .one
 |m+1=>by
  have:=Gen.app L hG (AG L hG hu m) hu
  exact this
def fD(h6:s<=6)(hG:∀u,G u->u∈perms s):cW (pg s) (Gen (pg s) G) where
 s:=λt ht=>Gen.S aw hG ht
 one:= .one
 mul:=λa b ha hb=>Gen.app aw hG ha hb
 inv:=λa ha=>by
  have hp:a∈perms s:=Gen.S aw hG ha
  refine xE (Ay h6 hp) λo1 o2 o3 _=>?_
  have e:comp a (pw a (xl a-1))=bj s:=by
   have:=Ax hp 1 (xl a-1)
   rw[IE hp,show 1+(xl a-1)=xl a by lia,o1]at this
   exact this.symm
  have:ip a=pw a (xl a-1):=(xk hp (jx hp _) e).symm
  show Gen (pg s) G (ip a)
  rw[this]
  exact AG aw hG ha _
end
end iK
namespace iK
section
variable {α:Type}{Y:Pg α}
open Classical in
noncomputable def cA(Y:Pg α)(M:α->Prop)(i p:Nat):α:=@Classical.epsilon α ⟨Y.one⟩ (fC Y M i p)
def fE(h:fC Y M i p x):cA Y M i p=x:=(@aao α (fC Y M i p) ⟨x,h⟩).MW h
open Classical in
noncomputable def bh(Y:Pg α)(M:α->Prop)(i:Nat):Rg α:=((List.range Y.n).filter λp=>decide (∃x,fC Y M i p x)).map λp=>(p,cA Y M i p)
def mH{l:List Nat}(h:l.Pairwise (· < ·)):l.Nodup:=h.imp λz e=>by lia
def MX{l m:List Nat}(h1:l.Pairwise (· < ·))(h2:m.Pairwise (· < ·))(h:∀a,a∈l↔a∈m):l=m:=
 ((ZP (mH h1) (mH h2)).mpr h).eq_of_pairwise (λa b _ _ x y=>by lia) h1 h2
def AH(L:gf Y){M:α->Prop}{i:Nat}(hi:i<Y.n)(hM:∀t,M t->Y.S t){R:Rg α}(hb:∀p x,(p,x)∈R->fC Y M i p x)(ha:∀t,M t->hU Y t i->∃x,(Y.im t i,x)∈R)(hs:(R.map (·.1)).Pairwise (· < ·)):R=bh Y M i:=by
 have keys:R.map (·.1)=(List.range Y.n).filter λp=>@decide (∃x,fC Y M i p x) (Classical.propDecidable _):=by
  refine MX hs (aap.sublist (Zg)) λp=>?_
  rw[X5,XH,Xd]
  constructor
  .rintro⟨⟨q,x⟩,h1,h2⟩
   have HC:q=p:=h2
   subst HC
   have b:=hb q x h1
   exact⟨by rw[<-b.2.2.1];exact L.jy (hM x b.1) hi,@decide_eq_true _ (Classical.propDecidable _) ⟨x,b⟩⟩
  .rintro⟨h1,h2⟩
   obtain⟨x,b⟩:=@of_decide_eq_true _ (Classical.propDecidable _) h2
   obtain⟨y,hy⟩:=ha x b.1 b.2.1
   rw[b.2.2.1]at hy
   exact⟨(p,y),hy,rfl⟩
 unfold bh
 rw[<-keys,Xz]
 have:R=R.map id:=(aaP R).symm
 conv=>lhs;rw[this]
 refine Zf λe he=>?_
 show e=(e.1,cA Y M i e.1)
 rw[fE (hb e.1 e.2 he)]
def AI:((bh Y M i).map (·.1)).Pairwise (· < ·):=by
 unfold bh
 rw[Xz]
 have:((λx:Nat×α=>x.1) ∘ λp=>(p,cA Y M i p))=id:=rfl
 rw[this,aaP]
 exact aap.sublist Zg
def mI:∀p x,(p,x)∈bh Y M i->fC Y M i p x:=λp x h=>by
 refine aa (Xd.mp h) λq hq e=>?_
 cases e
 obtain⟨y,hy⟩:=@of_decide_eq_true _ (Classical.propDecidable _) (X5.mp hq).2
 rw[fE hy]
 exact hy
noncomputable def aJ(Y:Pg α)(M:α->Prop)(i:Nat):List (Rg α):=(List.range' i (Y.n-i)).map (bh Y M)
theorem rZ(L:gf Y){M:α->Prop}(hM:cW Y M)(r0:∀i t,i<Y.n->M t->hU Y t i->∃x,fC Y M i (Y.im t i) x):∀(m i:Nat),i+m=Y.n->DS Y M ((List.range' i m).map (bh Y M)) i
 |0,i,h=>by
  show i=Y.n
  lia
 |m+1,i,h=>by
  rw[ZC,Xj]
  have hi:i<Y.n:=by lia
  refine⟨hi,mI,λt ht hf=>?_,mH AI,rZ L hM r0 m (i+1) (by lia)⟩
  obtain⟨x,hx⟩:=r0 i t hi ht hf
  have hp:Y.im t i<Y.n:=L.jy (hM.s t ht) hi
  exact⟨cA Y M i (Y.im t i),Xd.mpr ⟨Y.im t i,X5.mpr ⟨XH.mpr hp,@decide_eq_true _ (Classical.propDecidable _) ⟨x,hx⟩⟩,rfl⟩⟩
theorem AJ(f:β->Nat):∀{l:List β},l≠[]->∃e∈l,∀e'∈l,f e<=f e'
 |[],h=>absurd rfl h
 |[x],_=>⟨x,W5.mpr rfl,λy hy=>by rw[W5.mp hy];exact W9 _⟩
 |x::y::l,_=>by
  refine aa (AJ f (l:=y::l) (by simp)) λe h1 h2=>?_
  by_cases c:f x<=f e
  .refine⟨x,W6,λz hz=>?_⟩
   rcases Xc.mp hz with rfl|hz
   .exact W9 _
   .exact XZ c (h2 z hz)
  .refine⟨e,W4 _ h1,λz hz=>?_⟩
   rcases Xc.mp hz with rfl|hz
   .lia
   .exact h2 z hz
theorem LM.ex:∀{l:List (Rg α)}{i:Nat},VL Y l i->∀u,∃x,LM Y l u x
 |[],_,_,u=>⟨u,.nil⟩
 |R::l,i,⟨hV,_,hl⟩,u=>by
  refine aa (AJ (λe:Nat×α=>Y.im u e.1) (l:=R) (λz=>by have:=hV.one;rw[z]at this;cases this)) λe h1 h2=>?_
  obtain⟨x,hx⟩:=LM.ex hl (Y.mul e.2 u)
  refine⟨x,.cons (p:=e.1) (v:=e.2) h1 (λq hq=>?_) hx⟩
  refine aa (Xd.mp hq) λe' xm ag=>?_
  subst ag
  exact h2 e' xm
theorem Hm.vF(L:gf Y)(hM:cW Y M):∀{l:List (Rg α)}{i:Nat},Hm Y M l i->∀j t,i<=j->j<Y.n->M t->hU Y t j->∃x,fC Y M j (Y.im t j) x
 |[],i,h,j,t,h1,h2,_,_=>by
  have:i=Y.n:=h.1
  lia
 |R::l,i,h,j,t,h1,h2,ht,hf=>by
  rcases X0 i j with z|z
  .exact Hm.vF L hM (h.tail L) j t (by lia) h2 ht hf
  .have e:j=i:=by lia
   subst e
   refine bu (h.split L ht hf) λu w hu _ _=>?_
   obtain⟨x,hx⟩:=LM.ex h.1.2.2 u
   exact⟨x,h.best L hM hu hx⟩
def AK(L:gf Y)(hM:cW Y M)(h:Hm Y M l 0):DS Y M (aJ Y M 0) 0/\(∀t,t∈TL Y (aJ Y M 0)↔M t)/\(TL Y (aJ Y M 0)).Nodup :=by
 have hl:DS Y M (aJ Y M 0) 0:=rZ L hM (λi t hi ht hf=>h.vF L hM i t (Ye _) hi ht hf) _ 0 (by lia)
 have hm:=hl.hm L hM
 refine⟨hl,λt=>?_,mG L hm.1⟩
 rw[iL,hm.2 t]
 exact⟨λz=>z.1,λz=>⟨z,λk hk=>by lia⟩⟩
def Fd.hm(L:gf Y)(hG:∀u,G u->Y.S u)(h:Fd Y G l []):Hm Y (Gen Y G) l 0:=
 ⟨h.v,λt=>⟨λz=>⟨(h.done L hG t).mp z,λk hk=>by lia⟩,λz=>(h.done L hG t).mpr z.1⟩⟩
end
section
variable {α β:Type}{act:β->α->β}{b t:β}{G D:List α}{B W:List β}
inductive Fh(act:β->α->β)(b:β)(G:List α):β->Prop
 |one:Fh act b G b
 |mul:Fh act b G x->g∈G->Fh act b G (act x g)
structure Al(act:β->α->β)(b:β)(G:List α)(B W:List β):Prop where
 one:b∈B
 nd:B.Nodup
 wb:∀x∈W,x∈B
 gen:∀x∈B,Fh act b G x
 out:∀x∈B,x∉W->∀g∈G,act x g∈B
def VR:Al act b G [b] [b] where
 one:=W5.mpr rfl
 nd:=by simp
 wb:=λ_ h=>h
 gen:=λx hx=>by rw[W5.mp hx];exact .one
 out:=λx hx h=>absurd hx h
structure Am(act:β->α->β)(b:β)(G:List α)(t:β)(D:List α)(B W:List β):Prop where
 one:b∈B
 nd:B.Nodup
 wb:∀x∈W,x∈B
 gen:∀x∈B,Fh act b G x
 tb:t∈B
 out:∀x∈B,x∉W->x≠t->∀g∈G,act x g∈B
 now:∀g∈D,act t g∈B
def Al.start(h:Al act b G B (W++[t])):Am act b G t [] B W where
 one:=h.one
 nd:=h.nd
 wb:=λx hx=>h.wb x (Xp _ hx)
 gen:=h.gen
 tb:=h.wb t (Xi _ (W5.mpr rfl))
 out:=λx hx h1 h2=>h.out x hx λz=>(Xk.mp z).elim h1 λz=>h2 (W5.mp z)
 now:=λ_ h=>nomatch h
def Am.old(h:Am act b G t D B W)(hg:act t g∈B):Am act b G t (D++[g]) B W:=
 ⟨h.one,h.nd,h.wb,h.gen,h.tb,h.out,λx hx=>(Xk.mp hx).elim (h.now x) λz=>by rw[W5.mp z];exact hg⟩
def Am.new(h:Am act b G t D B W)(hG:g∈G)(hg:act t g∉B):Am act b G t (D++[g]) (B++[act t g]) (W++[act t g]) where
 one:=Xp _ h.one
 nd:=by
  rw[Yk]
  exact⟨h.nd,by simp,λa ha b hb e=>hg (by rw[<-W5.mp hb,<-e];exact ha)⟩
 wb:=λx hx=>(Xk.mp hx).elim (λz=>Xp _ (h.wb x z)) λz=>Xi _ z
 gen:=λx hx=>(Xk.mp hx).elim (h.gen x) λz=>by
  rw[W5.mp z]
  exact .mul (h.gen t h.tb) hG
 tb:=Xp _ h.tb
 out:=λx hx h1 h2 g' Mb=>by
  rcases Xk.mp hx with z|z
  .exact Xp _ (h.out x z (λy=>h1 (Xp _ y)) h2 g' Mb)
  .exact absurd (Xi _ z) h1
 now:=λx hx=>(Xk.mp hx).elim (λz=>Xp _ (h.now x z)) λz=>by
  rw[W5.mp z]
  exact Xi _ (W5.mpr rfl)
def Am.fin[DecidableEq β](h:Am act b G t D B W)(hD:∀g∈G,g∈D):Al act b G B W where
 one:=h.one
 nd:=h.nd
 wb:=h.wb
 gen:=h.gen
 out:=λx hx hw g hg=>by
  by_cases e:x=t
  .rw[e];exact h.now g (hD g hg)
  .exact h.out x hx hw e g hg
def Al.done(h:Al act b G B [])(t:β):t∈B↔Fh act b G t:=by
 refine⟨h.gen t,λz=>?_⟩
 induction z with
 |one=>exact h.one
 |mul _ hu ih=>exact h.out _ ih (by simp) _ hu
end
def vG:Fh Py.comp (Py.bj s) G t↔Gen (pg s) (· ∈G) t:=by
 constructor
 .intro h
  induction h with
  |one=>exact .one
  |mul _ hu ih=>exact .mul ih hu
 .intro h
  induction h with
  |one=>exact .one
  |mul _ hu ih=>exact .mul ih hu
def AL(hG:∀u∈G,u∈Py.perms s)(h:Fh Py.comp (Py.bj s) G t):t∈Py.perms s:=Gen.S aw hG (vG.mp h)
end iK
namespace cq
open Py
noncomputable def d0:Fd:=⟨1,1,(.seq (.ret (.iY .tuple (.u 0))) .skip)⟩
noncomputable def d1:Fd:=⟨2,2,(.seq (.ret (.prim .tuple (.cons (.comp [1] 0 (.it (.var 0)) .nil (.idx (.var 1) (.var 0))) .nil))) .skip)⟩
noncomputable def d2:Fd:=⟨1,1,(.seq (.ret (.prim .tuple (.cons (.comp [0] 0 (.eK (.cons (.prim .len (.u 0)) .nil)) .nil (.dg .index (.var 1) (.u 0))) .nil))) .skip)⟩
noncomputable def d3:Fd:=⟨2,5,(.seq (.asg 2 (.var 1)) (.seq (.for [3,4] 2 (.sv (.var 0)) (.seq (.ifs (.uC true (.idx (.var 2) (.var 3)) 4) (.seq (.ret (.var 2)) .skip) .skip) (.seq (.asg 2 (.call 1 (.w 2 (.cons (.call 2 (.cons (.dC 4 (.idx (.var 2) (.var 3))) .nil)) .nil)))) .skip))) (.seq (.ret (.var 2)) .skip)))⟩
noncomputable def d4:Fd:=⟨2,5,(.seq (.bK 2 (.lst .nil)) (.seq (.for [3] 0 (.it (.var 0)) (.seq (.for [4] 0 (.dv 3) (.seq (.app 2 (.call 1 (.w 1 (.u 4)))) (.seq (.app 2 (.call 1 (.w 4 (.u 1)))) .skip))) .skip)) (.seq (.ret (.var 2)) .skip)))⟩
noncomputable def d5:Fd:=⟨2,7,(.fst 2 [1] (.eK (.u 1)) (.var 0) (.call 0 (.u 1)) (.bK 3 (.prim .list (.u 0))) 3 4 3 (.bK 5 (.comp [4] 0 (.eK (.u 1)) (.cons (.cmp .NotEq (.idx (.var 1) (.var 0)) (.var 0)) .nil) (.var 0))) 5 (.asg 6 (.idx (.var 5) (.c (.int 0)))) (.var 6) (.idx (.var 4) (.var 6)) (.var 4) 4 (.var 4))⟩
noncomputable def d6:Fd:=⟨3,6,(.seq (.asg 3 (.var 2)) (.seq (.for [4] 0 (.it (.sl (.var 0) (.cons (.bin .Add (.var 1) (.c (.int 1))) .nil) .nil)) (.seq (.asg 5 (.prim .min (.cons (.comp [3] 0 (.dk 4) .nil (.idx (.var 1) (.var 0))) .nil))) (.seq (.asg 3 (.call 1 (.cons (.dC 4 (.dg .index (.var 3) (.u 5))) (.u 3)))) .skip))) (.seq (.ret (.var 3)) .skip)))⟩
noncomputable def d7:Fd:=⟨2,3,(.seq (.asg 2 (.idx (.var 0) (.var 1))) (.seq (.ret (.prim .tuple (.cons (.comp [0,1,2] 0 (.it (.eE 2)) .nil (.tup (.w 0 (.cons (.call 6 (.w 1 (.w 2 (.cons (.dC 3 (.var 0)) .nil)))) .nil)))) .nil))) .skip))⟩
noncomputable def d8:Fd:=⟨2,3,(.seq (.asg 2 (.call 5 (.w 0 (.u 1)))) (.seq (.ret (.prim .tuple (.cons (.comp [2] 0 (.eK (.u 1)) .nil (.call 7 (.w 1 (.u 0)))) .nil))) .skip))⟩
noncomputable def d9:Fd:=⟨1,5,(.seq (.bK 1 (.lst (.cons (.call 0 (.cons (.prim .len (.u 0)) .nil)) .nil))) (.seq (.for [2] 0 (.EI (.var 0)) (.seq (.bK 3 (.lst .nil)) (.seq (.for [4] 0 (.it (.var 2)) (.seq (.ext 3 (.comp [4] 0 (.it (.var 1)) .nil (.call 1 (.w 0 (.cons (.idx (.var 1) (.c (.int 1))) .nil))))) .skip)) (.seq (.EK 1 3) .skip)))) (.seq (.ret (.prim .tuple (.cons (.prim .sorted (.u 1)) .nil))) .skip)))⟩
noncomputable def MY:Fd:=⟨1,3,(.seq (.bK 1 (.lst .nil)) (.seq (.for [2] 0 (.it (.var 0)) (.seq (.ext 1 (.comp [] 0 (.it (.var 2)) .nil (.idx (.var 0) (.c (.int 1))))) .skip)) (.seq (.ret (.prim .tuple (.u 1))) .skip)))⟩
noncomputable def MZ:Fd:=⟨2,2,(.seq (.ret (.cmp .IsNot (.call 12 (.w 0 (.u 1))) (.c .cy))) .skip)⟩
noncomputable def IL:Fd:=⟨2,8,(.seq (.asg 2 (.c (.int 0))) (.seq (.asg 3 (.var 1)) (.seq (.for [4,5] 2 (.sv (.var 0)) (.seq (.bK 6 (.comp [] 0 (.it (.var 5)) .nil (.idx (.var 0) (.c (.int 0))))) (.seq (.ifs (.cmp .NotIn (.idx (.var 3) (.var 4)) (.var 6)) (.seq (.ret (.c .cy)) .skip) .skip) (.seq (.asg 7 (.dg .jG (.var 6) (.cons (.idx (.var 3) (.var 4)) .nil))) (.seq (.asg 2 (.bin .Add (.bin .Mult (.var 2) (.prim .len (.u 5))) (.var 7))) (.seq (.asg 3 (.call 1 (.w 3 (.cons (.call 2 (.cons (.idx (.idx (.var 5) (.var 7)) (.c (.int 1))) .nil)) .nil)))) .skip)))))) (.seq (.ret (.var 2)) .skip))))⟩
noncomputable def JG:Fd:=⟨2,2,(.seq (.ret (.call 8 (.cons (.bin .Add (.call 10 (.u 0)) (.call 10 (.u 1))) (.cons (.prim .len (.u 0)) .nil)))) .skip)⟩
noncomputable def Fi:Fd:=⟨2,2,(.seq (.ret (.call 8 (.cons (.prim .tuple (.cons (.comp [1] 0 (.it (.call 9 (.u 0))) (.cons (.call 11 (.w 1 (.u 0))) .nil) (.var 0)) .nil)) (.cons (.prim .len (.u 0)) .nil)))) .skip)⟩
noncomputable def IM:Fd:=⟨2,2,(.seq (.ret (.prim .all (.cons (.comp [1] 0 (.it (.call 10 (.u 0))) .nil (.call 11 (.w 1 (.u 0)))) .nil))) .skip)⟩
noncomputable def IP:Fd:=⟨2,2,(.seq (.ret (.call 1 (.cons (.call 1 (.cons (.call 2 (.u 1)) (.u 0))) (.u 1)))) .skip)⟩
noncomputable def IQ:Fd:=⟨2,2,(.seq (.ret (.prim .tuple (.cons (.comp [1] 0 (.it (.call 10 (.u 0))) .nil (.call 16 (.w 0 (.u 1)))) .nil))) .skip)⟩
noncomputable def JH:Fd:=⟨2,2,(.seq (.ret (.call 8 (.cons (.call 17 (.w 0 (.u 1))) (.cons (.prim .len (.u 0)) .nil)))) .skip)⟩
noncomputable def S3:Fd:=⟨2,2,(.seq (.ifs (.cmp .Lt (.var 1) (.prim .len (.u 0))) (.seq (.ret (.idx (.var 0) (.var 1))) .skip) .skip) (.seq (.ret (.c (.int 0))) .skip))⟩
noncomputable def S4:Fd:=⟨2,3,(.seq (.asg 2 (.bin .Mod (.bin .Mult (.bin .Add (.bin .Add (.call 19 (.w 0 (.u 1))) (.bin .Mult (.c (.int 7919)) (.var 1))) (.c (.int 1))) (.c (.int 48271))) (.c (.int 2147483647)))) (.seq (.ret (.bin .Mod (.bin .Add (.bin .Add (.bin .Mult (.var 2) (.var 2)) (.bin .Mult (.c (.int 7)) (.var 2))) (.var 1)) (.c (.int 2147483629)))) .skip))⟩
noncomputable def S5:Fd:=⟨2,3,(.seq (.asg 2 (.bin .Mod (.bin .Mult (.bin .Add (.bin .Add (.var 0) (.bin .Mult (.c (.int 104729)) (.var 1))) (.c (.int 17))) (.c (.int 69621))) (.c (.int 2147483647)))) (.seq (.ret (.bin .Mod (.bin .Add (.bin .Add (.bin .Mult (.var 2) (.var 2)) (.bin .Mult (.c (.int 3)) (.var 2))) (.var 1)) (.c (.int 2147483629)))) .skip))⟩
noncomputable def S6:Fd:=⟨2,10,(.seq (.bK 2 (.iY .list (.u 1))) (.seq (.ifs (.cmp .Eq (.bin .Mod (.var 0) (.c (.int 3))) (.c (.int 0))) (.seq (.asg 3 (.bin .Mod (.bin .FloorDiv (.var 0) (.c (.int 3))) (.var 1))) (.seq (.asg 4 (.bin .Mod (.bin .FloorDiv (.var 0) (.c (.int 18))) (.var 1))) (.seq (.fY 2 (.var 3) (.var 4)) (.seq (.fY 2 (.var 4) (.var 3)) (.seq (.ret (.prim .tuple (.u 2))) .skip))))) .skip) (.seq (.ifs (.cmp .Eq (.bin .Mod (.var 0) (.c (.int 3))) (.c (.int 1))) (.seq (.asg 5 (.bin .Add (.c (.int 1)) (.bin .Mod (.bin .FloorDiv (.var 0) (.c (.int 3))) (.var 1)))) (.seq (.asg 6 (.bin .Mod (.bin .FloorDiv (.var 0) (.c (.int 18))) (.var 1))) (.seq (.for [7] 0 (.eK (.u 5)) (.seq (.fY 2 (.bin .Mod (.bin .Add (.var 6) (.var 7)) (.var 1)) (.bin .Mod (.bin .Add (.var 6) (.bin .Mod (.bin .Add (.var 7) (.c (.int 1))) (.var 5))) (.var 1))) .skip)) (.seq (.ret (.prim .tuple (.u 2))) .skip)))) .skip) (.seq (.bK 8 (.lst .nil)) (.seq (.for [7] 0 (.eK (.u 1)) (.seq (.asg 9 (.bin .Mod (.call 21 (.w 0 (.u 7))) (.bin .Add (.prim .len (.u 8)) (.c (.int 1))))) (.seq (.bK 8 (.bin .Add (.bin .Add (.sl (.var 8) .nil (.u 9)) (.lst (.u 7))) (.sl (.var 8) (.u 9) .nil))) .skip))) (.seq (.ret (.prim .tuple (.u 8))) .skip))))))⟩
noncomputable def S7:Fd:=⟨2,2,(.seq (.ret (.prim .tuple (.cons (.comp [0,1] 0 (.eK (.cons (.idx (.tup (.cons (.c (.int 1)) (.cons (.c (.int 1)) (.cons (.c (.int 2)) (.cons (.c (.int 2)) (.cons (.c (.int 3)) (.cons (.c (.int 0)) (.cons (.c (.int 6)) .nil)))))))) (.bin .Mod (.var 0) (.c (.int 7)))) .nil)) .nil (.call 22 (.cons (.call 21 (.w 1 (.u 0))) (.u 2)))) .nil))) .skip)⟩
noncomputable def S8:Fd:=⟨2,2,(.seq (.ret (.prim .tuple (.cons (.comp [1] 0 (.it (.var 0)) .nil (.idx (.var 1) (.var 0))) .nil))) .skip)⟩
noncomputable def S9:Fd:=⟨1,4,(.seq (.bK 1 (.prim .list (.u 0))) (.seq (.for [2,3] 2 (.sv (.var 0)) (.seq (.fY 1 (.var 3) (.var 2)) .skip)) (.seq (.ret (.prim .tuple (.u 1))) .skip)))⟩
noncomputable def DV:Fd:=⟨2,8,(.seq (.asg 2 (.iY .tuple (.u 1))) (.seq (.pA 3 1 (.w 2 (.cons (.c (.bl true)) .nil))) (.seq (.bK 4 (.lst (.u 2))) (.seq (.while (.cmp .NotEq (.var 4) (.lst .nil)) (.seq (.pop 5 4) (.seq (.for [6] 0 (.it (.var 0)) (.seq (.asg 7 (.call 24 (.w 5 (.u 6)))) (.seq (.ifs (.uC true (.var 7) 3) (.seq (.qH 3 (.var 7) (.c (.bl true))) (.seq (.app 4 (.var 7)) .skip)) .skip) .skip))) .skip))) (.seq (.ret (.eE 3)) .skip)))))⟩
noncomputable def IS:Fd:=⟨2,7,(.seq (.bK 2 (.lst .nil)) (.seq (.for [3] 0 (.eK (.u 1)) (.seq (.bK 4 (.lst .nil)) (.seq (.for [5] 0 (.eK (.u 1)) (.seq (.bK 6 (.comp [3,5] 0 (.it (.var 0)) (.cons (.ql true (.cons (.cmp .Eq (.sl (.var 0) .nil (.u 1)) (.iY .tuple (.u 1))) (.cons (.cmp .Eq (.idx (.var 0) (.var 1)) (.var 2)) .nil))) .nil) (.var 0))) (.seq (.ifs (.cmp .NotEq (.var 6) (.lst .nil)) (.seq (.app 4 (.tup (.w 5 (.cons (.prim .min (.u 6)) .nil)))) .skip) .skip) .skip))) (.seq (.app 2 (.prim .tuple (.u 4))) .skip)))) (.seq (.ret (.prim .tuple (.u 2))) .skip)))⟩
noncomputable def IT:Fd:=⟨2,6,(.seq (.asg 2 (.bin .Add (.c (.int 1)) (.bin .Mod (.call 20 (.w 0 (.cons (.c (.int 0)) .nil))) (.var 1)))) (.seq (.asg 3 (.call 23 (.cons (.call 20 (.w 0 (.cons (.c (.int 1)) .nil))) (.u 2)))) (.seq (.asg 4 (.call 23 (.cons (.call 20 (.w 0 (.cons (.c (.int 2)) .nil))) (.u 2)))) (.seq (.asg 5 (.bin .Mod (.call 20 (.w 0 (.cons (.c (.int 3)) .nil))) (.c (.int 3)))) (.seq (.ifs (.cmp .Eq (.var 5) (.c (.int 1))) (.seq (.asg 4 (.sl (.var 4) .nil (.cons (.c (.int 1)) .nil))) (.seq (.asg 3 (.sl (.bin .Add (.var 3) (.var 4)) .nil (.cons (.c (.int 6)) .nil))) .skip)) .skip) (.seq (.ifs (.ql true (.cons (.cmp .Eq (.var 5) (.c (.int 2))) (.cons (.cmp .NotEq (.var 3) (.tup .nil)) .nil))) (.seq (.asg 4 (.tup (.cons (.call 24 (.cons (.idx (.var 3) (.c (.int 0))) (.cons (.idx (.var 3) (.neg (.c (.int 1)))) .nil))) .nil))) .skip) .skip) (.seq (.ret (.tup (.w 2 (.w 3 (.u 4))))) .skip)))))))⟩
noncomputable def IU:Fd:=⟨1,12,(.seq (.qG [1,2,3] (.call 28 (.w 0 (.cons (.c (.int 5)) .nil)))) (.seq (.asg 4 (.call 8 (.w 2 (.u 1)))) (.seq (.asg 5 (.call 8 (.w 3 (.u 1)))) (.seq (.asg 6 (.call 26 (.w 2 (.u 1)))) (.seq (.asg 7 (.call 26 (.w 3 (.u 1)))) (.seq (.ifs (.cmp .NotEq (.call 13 (.w 4 (.u 5))) (.call 27 (.cons (.call 26 (.cons (.bin .Add (.var 2) (.var 3)) (.u 1))) (.u 1)))) (.seq (.ret (.c (.bl false))) .skip) .skip) (.seq (.bK 8 (.comp [7] 0 (.it (.var 6)) (.cons (.cmp .In (.var 0) (.var 1)) .nil) (.var 0))) (.seq (.ifs (.cmp .NotEq (.call 14 (.w 4 (.u 5))) (.call 27 (.w 8 (.u 1)))) (.seq (.ret (.c (.bl false))) .skip) .skip) (.seq (.asg 9 (.call 15 (.w 5 (.u 4)))) (.seq (.ifs (.ql false (.cons (.not (.B3 (.var 9))) (.cons (.cmp .NotEq (.var 9) (.cmp .Eq (.var 8) (.var 7))) (.cons (.not (.call 15 (.w 4 (.cons (.call 13 (.w 4 (.u 5))) .nil)))) .nil)))) (.seq (.ret (.c (.bl false))) .skip) .skip) (.seq (.asg 10 (.call 22 (.cons (.call 20 (.w 0 (.cons (.c (.int 4)) .nil))) (.u 1)))) (.seq (.bK 11 (.comp [10] 0 (.it (.var 6)) .nil (.call 24 (.cons (.call 24 (.cons (.call 25 (.u 1)) (.u 0))) (.u 1))))) (.seq (.ret (.cmp .Eq (.call 18 (.w 4 (.u 10))) (.call 27 (.w 11 (.u 1))))) .skip)))))))))))))⟩
noncomputable def T:List Fd:=[d0,d1,d2,d3,d4,d5,d6,d7,d8,d9,MY,MZ,IL,JG,Fi,IM,IP,IQ,JH,S3,S4,S5,S6,S7,S8,S9,DV,IS,IT,IU]
open iK
noncomputable abbrev kR(R:Rg (List Int)):List (List Int):=R.map λe=>[(e.1:Int)]
noncomputable abbrev vR(R:Rg (List Int)):List D:=R.map λe=>tp e.2
noncomputable def au(R:Rg (List Int)):D:= .bP 0 (kR R) (vR R)
theorem gQ:∀(R:Rg (List Int)) (k:Nat),iB (kR R) (vR R) [(k:Int)]=(dG R k).map tp
 |[],k=>rfl
 |e::R,k=>by
  show iB ([(e.1:Int)]::kR R) (tp e.2::vR R) [(k:Int)]=_
  rw[iB]
  unfold dG
  rw[YE]
  by_cases h:e.1=k
  .subst h
   rw[Xl rfl]
   simp
  .have h':¬([(e.1:Int)]=[(k:Int)]):=λz=>h (by injection z with z _;lia)
   rw[Xs h',gQ R k]
   have:(e.1==k)=false:=by simp[h]
   rw[this]
   rfl
def AM{R:Rg (List Int)}{k:Nat}:[(k:Int)]∈kR R↔dG R k≠none:=by
 constructor
 .intro h z
  refine aa (Xd.mp h) λe he hk=>?_
  have:e.1=k:=by injection hk with hk _;lia
  exact gP z (Xd.mpr ⟨e,he,this⟩)
 .intro h
  cases z:dG R k with
  |none=>exact absurd z h
  |some u=>exact Xd.mpr ⟨_,cn z,rfl⟩
section
variable {s:Nat}{F:FT}
def j8{t:List Int}(ht:t∈perms s){k:Nat}(hk:k<s):item (tp t) (.int k)=some (.int ((pg s).im t k:Nat)):=by
 rw[vx (by lia) (by rw[aK ht];lia)]
 show some (D.int (t.getD (k:Int).toNat 0))=_
 rw[X6,il ht hk]
def p_(a b:Nat):((a:Int)==(b:Int))=decide (a=b):=by
 by_cases h:a=b
 .rw[h,decide_eq_true rfl];exact beq_self_eq_true _
 .rw[decide_eq_false h];exact beq_eq_false_iff_ne.mpr λz=>h (by lia)
theorem VL.len{Y:Pg (List Int)}:∀{l:List (Rg (List Int))}{i:Nat},VL Y l i->i+l.length=Y.n
 |[],i,h=>h
 |R::l,i,h=>by
  have:=VL.len h.2.2
  rw[Xm]
  lia
noncomputable abbrev lo1:C:=(.seq (.ifs (.uC true (.idx (.var 2) (.var 3)) 4) (.seq (.ret (.var 2)) .skip) .skip) (.seq (.asg 2 (.call 1 (.w 2 (.cons (.call 2 (.cons (.dC 4 (.idx (.var 2) (.var 3))) .nil)) .nil)))) .skip))
noncomputable abbrev LE(x0 x1:Option (Bool×D))(t:List Int)(x3 x4:Option (Bool×D)):Env:=[x0,x1,some (false,tp t),x3,x4]
def DW(ht:∀p∈perms s,∀q∈perms s,F 1 [tp p,tp q]=some (tp (comp p q)))(hb:∀p∈perms s,F 2 [tp p]=some (tp (ip p))){x0 x1 x3 x4:Option (Bool×D)}{t:List Int}{i:Nat}{R:Rg (List Int)}(hi:i<s)(hv:V (pg s) i R)(hp:t∈perms s):
  ex F lo1 (LE x0 x1 t (some (false,.int i)) (some (false,au R)))=match dG R ((pg s).im t i)with
   |some u=>some (.next (LE x0 x1 (comp t (ip u)) (some (false,.int i)) (some (false,au R))))
   |none=>some (.ret (tp t)):=by
 have ua:∀b,ev F b (.idx (.var 2) (.var 3)) (LE x0 x1 t (some (false,.int i)) (some (false,au R)))=some (.int ((pg s).im t i:Nat)):=λb=>j8 hp hi
 have DX:ev F false (.uC true (.idx (.var 2) (.var 3)) 4) (LE x0 x1 t (some (false,.int i)) (some (false,au R)))=some (.bl (!decide ([((pg s).im t i:Int)]∈kR R))):=by
  rw[Pb,ua]
  rfl
 cases e:dG R ((pg s).im t i)with
 |none=>
  have hn:¬[((pg s).im t i:Int)]∈kR R:=λz=>AM.mp z e
  rw[decide_eq_false hn]at DX
  rw[aV,fI,DX]
  rfl
 |some u=>
  have hn:[((pg s).im t i:Int)]∈kR R:=AM.mpr (by rw[e];simp)
  rw[decide_eq_true hn]at DX
  have hu:u∈perms s:=(hv.st _ _ (cn e)).1
  have AN:ev F true (.dC 4 (.idx (.var 2) (.var 3))) (LE x0 x1 t (some (false,.int i)) (some (false,au R)))=some (tp u):=by
   rw[KW,ua]
   show iB (kR R) (vR R) [((pg s).im t i:Int)]=_
   rw[gQ,e]
   rfl
  have VS:ev F true (.call 2 (.cons (.dC 4 (.idx (.var 2) (.var 3))) .nil)) (LE x0 x1 t (some (false,.int i)) (some (false,au R)))=some (tp (ip u)):=aD (dz AN) (hb u hu) (ax _)
  have QT:ev F false (.call 1 (.w 2 (.cons (.call 2 (.cons (.dC 4 (.idx (.var 2) (.var 3))) .nil)) .nil))) (LE x0 x1 t (some (false,.int i)) (some (false,au R)))=some (tp (comp t (ip u))):=aD (bC rfl VS) (ht t hp _ (fQ hu)) (ax _)
  rw[aV,fI,DX]
  show(ex F (.seq (.asg 2 _) .skip) _)=_
  rw[aV,aN QT]
  rfl
theorem vH(ht:∀p∈perms s,∀q∈perms s,F 1 [tp p,tp q]=some (tp (comp p q)))(hb:∀p∈perms s,F 2 [tp p]=some (tp (ip p))){x0 x1:Option (Bool×D)}:∀{l:List (Rg (List Int))}{i:Nat}{t:List Int}{x3 x4:Option (Bool×D)},VL (pg s) l i->t∈perms s->
  ∃o,aM (λx ρ=>(aE 2 x).bind λys=>(cz ρ [3,4] ys).bind λρ'=>ex F lo1 ρ') (aS i (l.map au)) (LE x0 x1 t x3 x4)=some o/\(o= .ret (tp (dA (pg s) l i t))\/∃y3 y4,o= .next (LE x0 x1 (dA (pg s) l i t) y3 y4))
 |[],i,t,x3,x4,_,_=>⟨_,rfl,.inr ⟨x3,x4,rfl⟩⟩
 |R::l,i,t,x3,x4,hv,hp=>by
  have hi:i<s:=hv.2.1
  have h1:=DW (x0:=x0) (x1:=x1) (x3:=x3) (x4:=x4) ht hb hi hv.1 hp
  show∃o,aM _ (.tup [.int i,au R]::aS ((i:Int)+1) (l.map au)) _=some o/\_
  rw[aM]
  show∃o,(ex F lo1 (LE x0 x1 t (some (false,.int i)) (some (false,au R)))).bind _=some o/\_
  rw[h1]
  unfold dA
  cases e:dG R ((pg s).im t i)with
  |none=>exact⟨_,rfl,.inl rfl⟩
  |some u=>
   have hu:u∈perms s:=(hv.1.st _ _ (cn e)).1
   have:=vH ht hb (x0:=x0) (x1:=x1) (l:=l) (i:=i+1) (t:=comp t (ip u)) (x3:=some (false,.int i)) (x4:=some (false,au R)) hv.2.2 (fB hp (fQ hu))
   rw[show(((i+1:Nat):Int))=(i:Int)+1 by lia]at this
   exact this
def DY(ht:∀p∈perms s,∀q∈perms s,F 1 [tp p,tp q]=some (tp (comp p q)))(hb:∀p∈perms s,F 2 [tp p]=some (tp (ip p))){l:List (Rg (List Int))}{t:List Int}(hv:VL (pg s) l 0)(hp:t∈perms s):
  out (ex F d3.body (ae d3 [.lst (l.map au),tp t]))=some (tp (dA (pg s) l 0 t)):=by
 refine aa (vH ht hb (x0:=some (false,.lst (l.map au))) (x1:=some (false,tp t)) (x3:=none) (x4:=none) hv hp) λo h1 h2=>?_
 have hf:ex F (.for [3,4] 2 (.sv (.var 0)) lo1) (LE (some (false,.lst (l.map au))) (some (false,tp t)) t none none)=some o:=h1
 have hx:ex F d3.body (ae d3 [.lst (l.map au),tp t])=(ex F (.for [3,4] 2 (.sv (.var 0)) lo1) (LE (some (false,.lst (l.map au))) (some (false,tp t)) t none none)).bind λo=>match o with
   | .next ρ'=>ex F (.seq (.ret (.var 2)) .skip) ρ'
   |o=>some o:=rfl
 rw[hx,hf]
 rcases h2 with rfl|⟨y3,y4,rfl⟩
 .rfl
 .rfl
noncomputable def nG(r:List Int)(R:Rg (List Int)):List (List Int):=R.flatMap λe=>[comp r e.2,comp e.2 r]
noncomputable def bD(r:List Int)(l:List (Rg (List Int))):List (List Int):=l.flatMap (nG r)
theorem jz(r:List Int):∀R:Rg (List Int),(nG r R).length =2*R.length
 |[]=>rfl
 |e::R=>by
  show([comp r e.2,comp e.2 r]++nG r R).length =_
  rw[W_,jz r R,Xm]
  simp
  lia
noncomputable abbrev PE(x0:Option (Bool×D))(r:List Int)(acc:List (List Int))(x3 x4:Option (Bool×D)):Env:=[x0,some (false,tp r),some (true,.lst (acc.map tp)),x3,x4]
noncomputable abbrev M0:C:=(.seq (.app 2 (.call 1 (.w 1 (.u 4)))) (.seq (.app 2 (.call 1 (.w 4 (.u 1)))) .skip))
noncomputable abbrev M1:C:=(.seq (.for [4] 0 (.dv 3) M0) .skip)
def gF(h:ev F false e ρ=some d)(hi:ρ[i]?=some (some (true,.lst xs)))(hl:xs.length<bE):ex F (.app i e) ρ=some (.next (put ρ i true (.lst (xs++[d])))):=by
 rw[Pd,h]
 show(match ρ[i]? with
  |some (some (true,.lst xs))=>if xs.length<bE then some (jH.next (put ρ i true (.lst (xs++[d])))) else none
  |_=>none)=_
 rw[hi]
 exact Xl hl
def DZ(ht:∀p∈perms s,∀q∈perms s,F 1 [tp p,tp q]=some (tp (comp p q)))(hr:r∈perms s)(hu:u∈perms s)(hl:acc.length+2<=10000):
  ex F M0 (PE x0 r acc x3 (some (false,tp u)))=some (.next (PE x0 r (acc++[comp r u,comp u r]) x3 (some (false,tp u)))):=by
 have h1:ev F false (.call 1 (.w 1 (.u 4))) (PE x0 r acc x3 (some (false,tp u)))=some (tp (comp r u)):=aD (bC rfl rfl) (ht r hr u hu) (ax _)
 have h2:ev F false (.call 1 (.w 4 (.u 1))) (PE x0 r (acc++[comp r u]) x3 (some (false,tp u)))=some (tp (comp u r)):=aD (bC rfl rfl) (ht u hu r hr) (ax _)
 have e1:acc.map tp++[tp (comp r u)]=(acc++[comp r u]).map tp:=by rw[Xy];rfl
 have e2:(acc++[comp r u]).map tp++[tp (comp u r)]=(acc++[comp r u,comp u r]).map tp:=by rw[Xy,Xy];simp
 have et:bE=16777216:=rfl
 have s1:ex F (.app 2 (.call 1 (.w 1 (.u 4)))) (PE x0 r acc x3 (some (false,tp u)))=some (.next (PE x0 r (acc++[comp r u]) x3 (some (false,tp u)))):=by
  rw[gF h1 (xs:=acc.map tp) rfl (by rw[WZ];lia),e1]
  rfl
 have s2:ex F (.app 2 (.call 1 (.w 4 (.u 1)))) (PE x0 r (acc++[comp r u]) x3 (some (false,tp u)))=some (.next (PE x0 r (acc++[comp r u,comp u r]) x3 (some (false,tp u)))):=by
  rw[gF h2 (xs:=(acc++[comp r u]).map tp) rfl (by rw[WZ,W_,Xx];lia),e2]
  rfl
 rw[aV,s1]
 show ex F (.seq (.app 2 _) .skip) _=_
 rw[aV,s2]
 rfl
theorem Fj(ht:∀p∈perms s,∀q∈perms s,F 1 [tp p,tp q]=some (tp (comp p q)))(hr:r∈perms s):∀{R:Rg (List Int)}{acc:List (List Int)}{x4:Option (Bool×D)},(∀e∈R,e.2∈perms s)->acc.length+2*R.length<=10000->
  ∃y4,aM (λx ρ=>(aE 0 x).bind λys=>(cz ρ [4] ys).bind λρ'=>ex F M0 ρ') (vR R) (PE x0 r acc x3 x4)=some (.next (PE x0 r (acc++nG r R) x3 y4))
 |[],acc,x4,_,_=>⟨x4,by show some (jH.next _)=_;rw[show nG r []=[] from rfl,XF]⟩
 |e::R,acc,x4,h,hl=>by
  rw[Xm]at hl
  have hu:=h e W6
  obtain⟨y4,ih⟩:=Fj ht (x0:=x0) (x3:=x3) hr (R:=R) (acc:=acc++[comp r e.2,comp e.2 r]) (x4:=some (false,tp e.2)) (λe' xm=>h e' (W4 _ xm)) (by rw[W_];simp;lia)
  refine⟨y4,?_⟩
  show aM _ (tp e.2::vR R) _=_
  rw[aM]
  show(ex F M0 (PE x0 r acc x3 (some (false,tp e.2)))).bind _=_
  rw[DZ ht hr hu (by lia)]
  show aM _ (vR R) _=_
  rw[ih,Xw]
  rfl
theorem AO(ht:∀p∈perms s,∀q∈perms s,F 1 [tp p,tp q]=some (tp (comp p q)))(hr:r∈perms s):∀{l:List (Rg (List Int))}{acc:List (List Int)}{x3 x4:Option (Bool×D)},(∀R∈l,∀e∈R,e.2∈perms s)->acc.length+(bD r l).length <=10000->
  ∃y3 y4,aM (λx ρ=>(aE 0 x).bind λys=>(cz ρ [3] ys).bind λρ'=>ex F M1 ρ') (l.map au) (PE x0 r acc x3 x4)=some (.next (PE x0 r (acc++bD r l) y3 y4))
 |[],acc,x3,x4,_,_=>⟨x3,x4,by show some (jH.next _)=_;rw[show bD r []=[] from rfl,XF]⟩
 |R::l,acc,x3,x4,h,hl=>by
  have e0:bD r (R::l)=nG r R++bD r l:=rfl
  rw[e0,W_,jz]at hl
  obtain⟨z4,i1⟩:=Fj ht (x0:=x0) (x3:=some (false,au R)) hr (R:=R) (acc:=acc) (x4:=x4) (h R W6) (by lia)
  refine Bu (AO ht (x0:=x0) hr (l:=l) (acc:=acc++nG r R) (x3:=some (false,au R)) (x4:=z4) (λR' VT=>h R' (W4 _ VT)) (by rw[W_,jz];lia)) λy3 y4 ih=>⟨y3,y4,?_⟩
  have hb:ex F M1 (PE x0 r acc (some (false,au R)) x4)=some (.next (PE x0 r (acc++nG r R) (some (false,au R)) z4)):=by
   have:ex F (.for [4] 0 (.dv 3) M0) (PE x0 r acc (some (false,au R)) x4)=some (.next (PE x0 r (acc++nG r R) (some (false,au R)) z4)):=i1
   rw[aV,this]
   rfl
  rw[Xj,aM]
  show(ex F M1 (PE x0 r acc (some (false,au R)) x4)).bind _=_
  rw[hb]
  show aM _ (l.map au) _=_
  rw[ih,e0,Xw]
def D0(ht:∀p∈perms s,∀q∈perms s,F 1 [tp p,tp q]=some (tp (comp p q)))(hr:r∈perms s)(h:∀R∈l,∀e∈R,e.2∈perms s)(hl:(bD r l).length <=10000):
  out (ex F d4.body (ae d4 [.lst (l.map au),tp r]))=some (.lst ((bD r l).map tp)):=by
 refine Bu (AO ht (x0:=some (false,.lst (l.map au))) hr (l:=l) (acc:=[]) (x3:=none) (x4:=none) h (by simpa using hl)) λy3 y4 h1=>?_
 have hf:ex F (.for [3] 0 (.it (.var 0)) M1) (PE (some (false,.lst (l.map au))) r [] none none)=some (.next (PE (some (false,.lst (l.map au))) r (bD r l) y3 y4)):=h1
 have hx:ex F d4.body (ae d4 [.lst (l.map au),tp r])=(ex F (.for [3] 0 (.it (.var 0)) M1) (PE (some (false,.lst (l.map au))) r [] none none)).bind λo=>match o with
   | .next ρ'=>ex F (.seq (.ret (.var 2)) .skip) ρ'
   |o=>some o:=rfl
 rw[hx,hf]
 rfl
end
end cq
namespace iK
section
variable {α:Type}{Y:Pg α}
theorem k_(hM:cW Y M):∀{l:List (Rg α)}{i:Nat}{t:α},(∀u,St l u->M u)->M t->M (dA Y l i t)
 |[],_,_,_,h=>h
 |R::l,i,t,hs,h=>by
  unfold dA
  cases e:dG R (Y.im t i)with
  |none=>exact h
  |some u=>exact k_ hM (λv ⟨R',hR,q⟩=>hs v ⟨R',W4 _ hR,q⟩) (hM.mul _ _ h (hM.inv _ (hs u ⟨R,W6,_,cn e⟩)))
theorem vI:∀{l:List (Rg α)}{k:Nat}{R:Rg α},l[k]?=some R->add l k x=l.set k (R++[x])
 |[],_,_,h=>by simp at h
 |R::l,0,_,h=>by simp at h;subst h;rfl
 |R::l,k+1,R',h=>by
  show R::add l k x=R::l.set k (R'++[x])
  rw[vI (by simpa using h)]
noncomputable def cnt:List (Rg α)->Nat
 |[]=>0
 |R::l=>R.length+cnt l
theorem vJ:∀{l:List (Rg α)}{k:Nat}{R:Rg α},l[k]?=some R->cnt (add l k x)=cnt l+1
 |[],_,_,h=>by simp at h
 |R::l,0,_,h=>by
  show(R++[x]).length+cnt l=R.length+cnt l+1
  rw[W_,Xx];lia
 |R::l,k+1,R',h=>by
  show R.length+cnt (add l k x)=R.length+cnt l+1
  rw[vJ (by simpa using h)];lia
def AQ{l:List Nat}{n:Nat}(nd:l.Nodup)(h:∀k∈l,k<n):l.length<=n:=by
 have:(l.map λk:Nat=>(k:Int)).length <=n:=Py.p7 n _ (by
  rw[X1,X7]
  exact nd.imp λh e=>h (by lia)) λx hx=>by
   refine aa (Xd.mp hx) λk hk ag=>?_
   subst ag
   have:=h k hk
   lia
 rwa [WZ]at this
theorem qa(L:gf Y):∀{l:List (Rg α)}{i:Nat},VL Y l i->cnt l<=l.length*Y.n
 |[],_,_=>by simp[cnt]
 |R::l,i,⟨hv,hi,hl⟩=>by
  have h1:R.length<=Y.n:=by
   have:=AQ hv.nd (n:=Y.n) λp hp=>by
    refine aa (Xd.mp hp) λe he ag=>?_
    subst ag
    refine cN (hv.st e.1 e.2 he) λs1 _ s3=>?_
    rw[<-s3]
    exact L.jy s1 hi
   rwa [WZ]at this
  have:=qa L hl
  show R.length+cnt l<=(l.length+1)*Y.n
  rw[Nat.add_mul]
  lia
end
end iK
namespace cq
open Py iK
section
variable {s:Nat}{F:FT}
theorem j9(r:List Int):∀l:List (Rg (List Int)),(bD r l).length =2*cnt l
 |[]=>rfl
 |R::l=>by
  show(nG r R++bD r l).length =2*(R.length+cnt l)
  rw[W_,jz,j9 r l];lia
def xo(h:St l u):comp u r∈bD r l/\comp r u∈bD r l:=by
 obtain⟨R,hR,p,hp⟩:=h
 have h1:∀x,x∈[comp r u,comp u r]->x∈bD r l:=λx hx=>Yd.mpr ⟨R,hR,Yd.mpr ⟨(p,u),hp,hx⟩⟩
 exact⟨h1 _ (by simp),h1 _ (by simp)⟩
def AR(hM:cW (pg s) M)(hr:M r)(hs:∀u,St l u->M u):∀x∈bD r l,M x:=λx hx=>by
 refine aa (Yd.mp hx) λR hR hx=>aa (Yd.mp hx) λe he hx=>?_
 have hu:=hs e.2 ⟨R,hR,e.1,he⟩
 rcases Xc.mp hx with z|z
 .rw[z];exact hM.mul _ _ hr hu
 .rw[W5.mp z];exact hM.mul _ _ hu hr
noncomputable def j_(s:Nat)(r:List Int):List Nat:=(List.range s).filter λk=>decide ((pg s).im r k≠k)
noncomputable abbrev FE(x0:Option (Bool×D))(s:Nat)(W:List (List Int))(x4 x5 x6:Option (Bool×D)):Env:=[x0,some (false,.int s),some (true,tm),some (true,.lst (W.map tp)),x4,x5,x6]
noncomputable abbrev N1:C:=(.bK 5 (.comp [4] 0 (.eK (.u 1)) (.cons (.cmp .NotEq (.idx (.var 1) (.var 0)) (.var 0)) .nil) (.var 0)))
def d_(n:Nat):bH 0 n=(List.range n).map λ(k:Nat)=>D.int (k:Int):=by
 rw[dY]
 unfold bj
 rw[Xz]
 rfl
def Fl(h6:s<=6)(hr:r∈perms s):ex F N1 (FE x0 s W (some (false,tp r)) x5 x6)=some (.next (FE x0 s W (some (false,tp r)) (some (true,.lst ((j_ s r).map λ(k:Nat)=>D.int (k:Int)))) x6)):=by
 have hc:ev F false (.comp [4] 0 (.eK (.u 1)) (.cons (.cmp .NotEq (.idx (.var 1) (.var 0)) (.var 0)) .nil) (.var 0)) (FE x0 s W (some (false,tp r)) x5 x6)=some (.lst ((j_ s r).map λ(k:Nat)=>D.int (k:Int))):=by
  have et:bE=16777216:=rfl
  have QU:(cD F false (.u 1) (FE x0 s W (some (false,tp r)) x5 x6)).bind dE=some (bH 0 s):=cF (by lia)
  rw[mF QU (by rw[gE];lia)]
  have hw:walk (fU F [4] (.cons (.cmp .NotEq (.idx (.var 1) (.var 0)) (.var 0)) .nil) (.var 0) (FE x0 s W (some (false,tp r)) x5 x6)) (bH 0 s)=some ((bH 0 s).filter λd=>match d with
    | .int k=>decide ((pg s).im r k.toNat≠k.toNat)
    |_=>false):=by
   refine kB _ λx hx=>aa (rX hx) λk hk ag=>?_
   subst ag
   have hi:ev F true (.idx (.var 1) (.var 0)) [some (false,.int k),some (false,tp r)]=some (.int ((pg s).im r k:Nat)):=j8 hr hk
   have VU:ev F false (.cmp .NotEq (.idx (.var 1) (.var 0)) (.var 0)) [some (false,.int k),some (false,tp r)]=some (.bl (decide ((pg s).im r k≠k))):=by
    rw[ng,hi]
    show some (D.bl (!(((pg s).im r k:Nat):Int)==(k:Int)))=_
    rw[p_,<-decide_not]
   show((fF F true (.cons (.cmp .NotEq (.idx (.var 1) (.var 0)) (.var 0)) .nil) [some (false,.int k),some (false,tp r)]).bind λk'=>if k' then some (some (D.int k)) else some none)=_
   rw[fF,VU]
   show((if decide ((pg s).im r k≠k)=true then fF F true .nil _ else some (decide ((pg s).im r k≠k))).bind _)=some (if decide ((pg s).im r (k:Int).toNat ≠(k:Int).toNat)=true then some (D.int k) else none)
   rw[X6]
   cases decide ((pg s).im r k≠k)<;>rfl
  rw[hw,d_,List.filter_map]
  rfl
 rw[nh,hc]
 rfl
def r8(hk:k<s)(hf:hU (pg s) r k)(hm:(pg s).im r k≠k):∃bO,j_ s r=k::bO:=by
 unfold j_
 obtain⟨m,hs⟩:∃m,s=k+(m+1):=⟨s-k-1,by lia⟩
 have e:List.range s=List.range k++k::(List.range m).map λj=>k+(j+1):=by
  rw[hs,List.range_add,List.range_succ_eq_map,Xj,Xz]
  rfl
 have e1:(List.range k).filter (λj=>decide ((pg s).im r j≠j))=[]:=by
  rw[aaq]
  intro j hj
  have:=hf j (XH.mp hj)
  simp[this]
 rw[e,List.filter_append,e1,Yt,YS,Xl (by simp[hm])]
 exact⟨_,rfl⟩
def ub(hs:0<=s):j_ s (bj s)=[]:=by
 unfold j_
 rw[aaq]
 intro j hj
 have:(pg s).im (bj s) j=j:=aw.bN (Y:=pg s) (XH.mp hj)
 simp[this]
end
noncomputable abbrev QV:C:=(.asg 6 (.idx (.var 5) (.c (.int 0))))
section
variable {s:Nat}{F:FT}
noncomputable abbrev D1(F:FT):List D->Env->List D->Option (List D×Env):=i6 F 2 3 4 3 (ex F N1) 5 (ex F QV) (ev F false (.var 6)) (ev F false (.idx (.var 4) (.var 6))) (ev F false (.var 4)) 4 (ev F false (.var 4))
def D2(h:l[k]?=some R):(l.map au).set k (.bP 0 (kR R++[[(x.1:Int)]]) (vR R++[tp x.2]))=(add l k x).map au:=by
 rw[vI h,List.map_set]
 congr 1
 unfold au kR vR
 rw[Xy,Xy]
 rfl
def xp(h6:s<=6){l:List (Rg (List Int))}(hl:F 3 [.lst (l.map au),tp t]=some (tp (bj s))){x0 x4 x5 x6:Option (Bool×D)}{W:List (List Int)}:
  D1 F (l.map au) (FE x0 s (W++[t]) x4 x5 x6) ((W++[t]).map tp)=some (l.map au,FE x0 s W (some (false,tp (bj s))) (some (true,.lst [])) x6):=by
 have e1:((W++[t]).map tp).getLast? =some (tp t):=by rw[Xy];simp
 have e2:((W++[t]).map tp).dropLast =W.map tp:=by rw[Xy];simp
 have hc:=Fl (F:=F) h6 (x0:=x0) (x5:=x5) (x6:=x6) (W:=W) (dZ s)
 rw[ub (Ye _)]at hc
 unfold D1 i6
 rw[e1,e2]
 show((F 3 [.lst (l.map au),tp t]).bind _)=_
 rw[hl]
 show(if(aI (tp t)&&aI (tp (bj s)))=true then(ex F N1 (FE x0 s W (some (false,tp (bj s))) x5 x6)).bind _ else none)=_
 rw[ax,ax,aaW,Xl rfl,hc]
 rfl
def xt(h6:s<=6)(hl:F 3 [.lst (l.map au),tp t]=some (tp r))(hr:r∈perms s)(hk:k<s)(hR:l[k]?=some R)(hf:hU (pg s) r k)(hm:(pg s).im r k≠k)(hn:(pg s).im r k∉R.map (·.1))(WO:R.length<=6)
  (hg:F 4 [.lst ((add l k ((pg s).im r k,r)).map au),tp r]=some (.lst ((bD r (add l k ((pg s).im r k,r))).map tp))) (hW:W.length+(bD r (add l k ((pg s).im r k,r))).length <=10000):
  ∃y4 y5 y6,D1 F (l.map au) (FE x0 s (W++[t]) x4 x5 x6) ((W++[t]).map tp)=some ((add l k ((pg s).im r k,r)).map au,FE x0 s (W++bD r (add l k ((pg s).im r k,r))) y4 y5 y6):=by
 have e1:((W++[t]).map tp).getLast? =some (tp t):=by rw[Xy];simp
 have e2:((W++[t]).map tp).dropLast =W.map tp:=by rw[Xy];simp
 have hc:=Fl (F:=F) h6 (x0:=x0) (x5:=x5) (x6:=x6) (W:=W) hr
 obtain⟨bO,VV⟩:=r8 hk hf hm
 rw[VV]at hc
 have et:bE=16777216:=rfl
 have N2:k<l.length:=(Xf.mp hR).1
 have Ie:yw (l.map au) k [((pg s).im r k:Int)] (tp r)=some ((add l k ((pg s).im r k,r)).map au):=by
  unfold yw
  rw[Xb,hR]
  show(if(kR R).length<bE/\[((pg s).im r k:Int)]∉kR R then some ((l.map au).set k (.bP 0 (kR R++[[((pg s).im r k:Int)]]) (vR R++[tp r]))) else none)=_
  have VW:[((pg s).im r k:Int)]∉kR R:=λz=>by
   refine aa (Xd.mp z) λe he hq=>?_
   have:e.1=(pg s).im r k:=by injection hq with hq _;lia
   exact hn (Xd.mpr ⟨e,he,this⟩)
  rw[Xl ⟨by rw[WZ];lia,VW⟩]
  exact congrArg some (D2 (x:=((pg s).im r k,r)) hR)
 have iy:bR (l.map au).length (k:Int)=some k:=by
  unfold bR
  rw[WZ,Xl (by lia),Xl (by lia)]
  rfl
 have QW:∀S_,ev F false (.idx (.var 4) (.var 6)) (FE x0 s W (some (false,tp r)) S_ (some (false,.int k)))=some (.int ((pg s).im r k:Nat)):=λS_=>j8 hr hk
 have VX:ex F QV (FE x0 s W (some (false,tp r)) (some (true,.lst ((k::bO).map λ(k:Nat)=>D.int (k:Int)))) x6)=some (.next (FE x0 s W (some (false,tp r)) (some (true,.lst ((k::bO).map λ(k:Nat)=>D.int (k:Int)))) (some (false,.int k)))):=by
  have hi:ev F false (.idx (.var 5) (.c (.int 0))) (FE x0 s W (some (false,tp r)) (some (true,.lst ((k::bO).map λ(k:Nat)=>D.int (k:Int)))) x6)=some (.int k):=by
   show((bR ((k::bO).map λ(k:Nat)=>D.int (k:Int)).length 0).bind λj=>((k::bO).map λ(k:Nat)=>D.int (k:Int))[j]?)=_
   unfold bR
   rw[Xl (by lia),Xl (by rw[WZ,Xm];lia)]
   rfl
  rw[aN hi]
  rfl
 refine⟨some (false,tp r),some (true,.lst ((k::bO).map λ(k:Nat)=>D.int (k:Int))),some (false,.int k),?_⟩
 unfold D1 i6
 rw[e1,e2]
 show((F 3 [.lst (l.map au),tp t]).bind _)=_
 rw[hl]
 show(if(aI (tp t)&&aI (tp r))=true then(ex F N1 (FE x0 s W (some (false,tp r)) x5 x6)).bind _ else none)=_
 rw[ax,ax,aaW,Xl rfl,hc]
 show((ex F QV (FE x0 s W (some (false,tp r)) (some (true,.lst ((k::bO).map λ(k:Nat)=>D.int (k:Int)))) x6)).bind _)=_
 rw[VX]
 show(if aI (tp r)=true then _ else none)=_
 rw[ax,Xl rfl]
 show((bR (l.map au).length (k:Int)).bind _)=_
 rw[iy]
 show(((ev F false (.idx (.var 4) (.var 6)) (FE x0 s W (some (false,tp r)) (some (true,.lst ((k::bO).map λ(k:Nat)=>D.int (k:Int)))) (some (false,.int k)))).bind (dD 0)).bind _)=_
 rw[QW]
 show((yw (l.map au) k [((pg s).im r k:Int)] (tp r)).bind _)=_
 rw[Ie]
 show(if aI (tp r)=true then(F 4 [.lst ((add l k ((pg s).im r k,r)).map au),tp r]).bind _ else none)=_
 rw[ax,Xl rfl,hg]
 have nl:ba ((bD r (add l k ((pg s).im r k,r))).map tp)=true:=by
  have:∀ps:List (List Int),ba (ps.map tp)=true:=λps=>by
   induction ps with
   |nil=>rfl
   |cons p ps ih=>show(aI (tp p)&&ba (ps.map tp))=true;rw[ax,ih];rfl
  exact this _
 show(if ba ((bD r (add l k ((pg s).im r k,r))).map tp)=true then(if(W.map tp).length+((bD r (add l k ((pg s).im r k,r))).map tp).length <=bE then _ else none) else none)=_
 rw[nl,Xl rfl,Xl (by rw[WZ,WZ];lia),<-Xy]
 rfl
theorem VL.at:∀{l:List (Rg (List Int))}{i k:Nat}{R:Rg (List Int)},VL Y l i->l[k]?=some R->V Y (i+k) R
 |[],_,_,_,_,h=>by simp at h
 |R::l,i,0,_,hv,h=>by simp at h;subst h;exact hv.1
 |R::l,i,k+1,R',hv,h=>by
  have:=VL.at hv.2.2 (k:=k) (R:=R') (by simpa using h)
  rwa [show i+1+k=i+(k+1) by lia]at this
def mJ(hi:i<s)(hv:V (pg s) i R):R.length<=s:=by
 have:=AQ hv.nd (n:=s) λp hp=>by
  refine aa (Xd.mp hp) λe he ag=>?_
  subst ag
  refine cN (hv.st e.1 e.2 he) λs1 _ s3=>?_
  rw[<-s3]
  exact aw.jy (Y:=pg s) s1 hi
 rwa [WZ]at this
def D3(hv:VL (pg s) l i):∀R∈l,∀e∈R,e.2∈perms s:=λR hR e he=>(St.good aw hv ⟨R,hR,e.1,he⟩).1
theorem iM(h6:s<=6)(hG:∀u,G u->u∈perms s)(mK:∀l t,VL (pg s) l 0->t∈perms s->F 3 [.lst (l.map au),tp t]=some (tp (dA (pg s) l 0 t)))
  (mL:∀l r,VL (pg s) l 0->r∈perms s->F 4 [.lst (l.map au),tp r]=some (.lst ((bD r l).map tp))):∀(n:Nat) (l:List (Rg (List Int))) (W:List (List Int)) (x4 x5 x6:Option (Bool×D)),Fd (pg s) G l W->(36-cnt l)*100+W.length<n->(36-cnt l)*100+W.length<=5000->
  ∃l',gm (D1 F) 3 n (l.map au) (FE x0 s W x4 x5 x6)=some (l'.map au)/\Fd (pg s) G l' []
 |0,_,_,_,_,_,_,h,_=>absurd h (YO _)
 |n+1,l,W,x4,x5,x6,hd,hn,hm=>by
  have hY:=fD h6 hG
  have ss:s*s<=36:=aaL h6 h6
  have cl:∀{l':List (Rg (List Int))},VL (pg s) l' 0->cnt l'<=36:=λ{l'} hv=>by
   have h1:=qa aw hv
   have h2:=VL.len hv
   have h3:l'.length=s:=by rw[YA]at h2;exact h2
   rw[h3]at h1
   exact XZ h1 ss
  rw[gm]
  show∃l':List (Rg (List Int)),(if(W.map tp).isEmpty =true then some (l.map au) else(D1 F (l.map au) (FE x0 s W x4 x5 x6) (W.map tp)).bind λz=>gm (D1 F) 3 n z.1 z.2)=some (l'.map au)/\_
  rcases aaE W with rfl|⟨W0,t,rfl⟩
  .exact⟨l,rfl,hd⟩
  .rw[aaF]at hd hn hm⊢
   have fJ:((W0++[t]).map tp).isEmpty =false:=by rw[Xy];simp
   rw[fJ,Xs W2]
   rw[W_,Xx]at hn hm
   have ht:Gen (pg s) G t:=hd.wg t (Xi _ (W5.mpr rfl))
   have Ta:t∈perms s:=Gen.S aw hG ht
   have hl:=mK l t hd.v Ta
   rcases oJ aw hd.v Ta (λk hk=>absurd hk (YO _))with⟨e1,e2⟩|⟨k,R,a1,a2,a3,a4,a5,a6,a7,a8⟩
   .rw[e1]at hl
    rw[xp h6 hl]
    exact iM h6 hG mK mL n l W0 _ _ _ (hd.none e2) (by lia) (by lia)
   .rw[YA]at a2 a4 a5 a6 a7 a8
    have hk:k<s:=a2
    have hV:=VL.at hd.v a1
    rw[YA]at hV
    have QX:=mJ hk hV
    have hg:=mL _ _ a8 a3
    have kN:=cl a8
    have WQ:=vJ (x:=((pg s).im (dA (pg s) l 0 t) k,dA (pg s) l 0 t)) a1
    have iy:=j9 (dA (pg s) l 0 t) (add l k ((pg s).im (dA (pg s) l 0 t) k,dA (pg s) l 0 t))
    refine JN (xt h6 hl a3 hk a1 a4 a6 a5 (by lia) hg (x0:=x0) (x4:=x4) (x5:=x5) (x6:=x6) (W:=W0) (by lia)) λy4 y5 y6 hT=>?_
    rw[hT]
    refine iM h6 hG mK mL n _ _ _ _ _ (hd.more aw a8 a7 (k_ hY hd.g ht) (AR hY (k_ hY hd.g ht) λu hu=>?_) λu hu=>xo hu) ?_ ?_
    .rcases hu.add with z|z
     .exact hd.g u z
     .rw[z];exact k_ hY hd.g ht
    .rw[W_];lia
    .rw[W_];lia
noncomputable def vK(s:Nat):List (Rg (List Int)):=(List.range s).map λi=>[(i,bj s)]
theorem VL.vK:∀(m i:Nat),i+m=s->VL (pg s) ((List.range' i m).map λi=>[(i,bj s)]) i
 |0,i,h=>by show i=s;lia
 |m+1,i,h=>by
  rw[ZC,Xj]
  have hi:i<s:=by lia
  refine⟨⟨λp u hu=>?_,W5.mpr rfl,by simp⟩,hi,VL.vK m (i+1) (by lia)⟩
  rw[W5]at hu
  cases hu
  exact⟨dZ s,λk hk=>aw.bN (Y:=pg s) (show k<s by lia),aw.bN (Y:=pg s) hi⟩
def AS(p9:∀p∈ps,p∈perms s):Fd (pg s) (· ∈ps) (vK s) ps:=by
 have mX:∀u,St (vK s) u->u=bj s:=λu zz=>by
  obtain⟨R,hR,p,hp⟩:=zz
  refine aa (Xd.mp hR) λi _ ag=>?_
  subst ag
  rw[W5]at hp
  exact(aaQ hp).2
 have hv:VL (pg s) (vK s) 0:=by
  have:=VL.vK (s:=s) s 0 (by lia)
  unfold cq.vK
  rw[Za]
  exact this
 refine⟨hv,λu hu=>by rw[mX u hu];exact .one,λt ht=>Gen.of aw (p9 t ht) ht,λt ht=> .inl ht,λu v hu IH=> .inr ?_⟩
 rw[mX u hu,mX v IH]
 show H (pg s) (vK s) (comp (bj s) (bj s))
 rw[ju (dZ s)]
 exact H.one aw hv
def AU(h6:s<=6){ps:List (List Int)}(p9:∀p∈ps,p∈perms s)(a_:ps.length<=720)(mX:F 0 [.int s]=some (tp (bj s)))(mK:∀l t,VL (pg s) l 0->t∈perms s->F 3 [.lst (l.map au),tp t]=some (tp (dA (pg s) l 0 t)))
  (mL:∀l r,VL (pg s) l 0->r∈perms s->F 4 [.lst (l.map au),tp r]=some (.lst ((bD r l).map tp))):
  ∃l,out (ex F d5.body (ae d5 [.tup (ps.map tp),.int s]))=some (.lst (l.map au))/\Fd (pg s) (· ∈ps) l []:=by
 have et:bE=16777216:=rfl
 obtain⟨l,h1,h2⟩:=iM h6 p9 mK mL (x0:=some (false,.tup (ps.map tp))) hZ (vK s) ps none none none (AS p9) (by
  have:hZ=1000000:=rfl
  rw[this]
  have:(36-cnt (vK s))*100<=3600:=by lia
  lia) (by
  have:(36-cnt (vK s))*100<=3600:=by lia
  lia)
 refine⟨l,?_,h2⟩
 have hr:kH F true (.eK (.u 1)) (ae d5 [.tup (ps.map tp),.int s])=some (bH 0 s):=cF (by lia)
 have hw:walk (qJ (ev F false (.var 0)) (ev F false (.call 0 (.u 1))) [1] (ae d5 [.tup (ps.map tp),.int s])) (bH 0 s)=some ((vK s).map au):=by
  rw[d_]
  unfold vK
  rw[Xz]
  refine bT (λk:Nat=>D.int (k:Int)) _ _ _ λk hk=>?_
  have hc:ev F false (.call 0 (.u 1)) [some (false,.int k),some (false,.int s)]=some (tp (bj s)):=aD (dz rfl) mX (ax _)
  show((ev F false (.call 0 (.u 1)) [some (false,.int k),some (false,.int s)]).bind λd=>if aI d then some (some (D.bP 0 [[(k:Int)]] [d])) else none)=_
  rw[hc]
  show(if aI (tp (bj s))=true then _ else none)=_
  rw[ax,Xl rfl]
  rfl
 have hx:ex F d5.body (ae d5 [.tup (ps.map tp),.int s])=(kH F true (.eK (.u 1)) (ae d5 [.tup (ps.map tp),.int s])).bind λxs=>if xs.length<=bE/\2≠3/\2<(ae d5 [.tup (ps.map tp),.int s]).length /\qI (ae d5 [.tup (ps.map tp),.int s])=true then
   (walk (qJ (ev F false (.var 0)) (ev F false (.call 0 (.u 1))) [1] (ae d5 [.tup (ps.map tp),.int s])) xs).bind λS=>(gm (D1 F) 3 hZ S (FE (some (false,.tup (ps.map tp))) s ps none none none)).map λS=> .ret (.lst S) else none:=rfl
 rw[hx,hr]
 show out (if _ then _ else none)=_
 rw[Xl ⟨by rw[gE];lia,by decide,(by decide:2<7),rfl⟩,hw]
 show out ((gm (D1 F) 3 hZ ((vK s).map au) (FE (some (false,.tup (ps.map tp))) s ps none none none)).map λS=> .ret (.lst S))=_
 rw[h1]
 rfl
end
end cq
namespace Py
theorem oK:∀(r:List Int) (a:Int),gX a r∈a::r/\∀x∈a::r,gX a r<=x
 |[],a=>⟨W5.mpr rfl,λx hx=>by rw[W5.mp hx];exact Int.le_refl _⟩
 |b::r,a=>by
  rw[gX]
  obtain⟨h1,h2⟩:=oK r (if b<a then b else a)
  have h0:=h2 _ W6
  have yE:(if b<a then b else a)<=a/\(if b<a then b else a)<=b:=by split<;>lia
  refine⟨?_,λx hx=>?_⟩
  .rcases Xc.mp h1 with z|z
   .rw[z]
    split
    .exact W4 _ W6
    .exact W6
   .exact W4 _ (W4 _ z)
  .rcases Xc.mp hx with z|hx
   .rw[z];exact abc h0 yE.1
   .rcases Xc.mp hx with z|hx
    .rw[z];exact abc h0 yE.2
    .exact h2 x (W4 _ hx)
end Py
namespace cq
open Py iK
section
variable {s:Nat}{F:FT}
noncomputable abbrev M3:C:=(.seq (.asg 5 (.prim .min (.cons (.comp [3] 0 (.dk 4) .nil (.idx (.var 1) (.var 0))) .nil))) (.seq (.asg 3 (.call 1 (.cons (.dC 4 (.dg .index (.var 3) (.u 5))) (.u 3)))) .skip))
noncomputable abbrev TE(x0 x1 x2:Option (Bool×D))(u:List Int)(x4 x5:Option (Bool×D)):Env:=[x0,x1,x2,some (false,tp u),x4,x5]
def D4(h6:s<=6)(ht:∀p∈perms s,∀q∈perms s,F 1 [tp p,tp q]=some (tp (comp p q)))(hi:i<s)(hv:V (pg s) i R)(hu:u∈perms s):
  ∃e∈R,(∀q,q∈R.map (·.1)->(pg s).im u e.1<=(pg s).im u q)/\∃y5,ex F M3 (TE x0 x1 x2 u (some (false,au R)) x5)=some (.next (TE x0 x1 x2 (comp e.2 u) (some (false,au R)) y5)):=by
 have et:bE=16777216:=rfl
 have kb:∀e∈R,e.1<s:=λe he=>by
  refine cN (hv.st e.1 e.2 he) λs1 _ s3=>?_
  rw[<-s3];exact aw.jy (Y:=pg s) s1 hi
 have QX:=mJ hi hv
 have hc:ev F true (.comp [3] 0 (.dk 4) .nil (.idx (.var 1) (.var 0))) (TE x0 x1 x2 u (some (false,au R)) x5)=some (.lst ((R.map λe=>(((pg s).im u e.1:Nat):Int)).map .int)):=by
  have hk:kH F true (.dk 4) (TE x0 x1 x2 u (some (false,au R)) x5)=some (R.map λe=>D.int (e.1:Int)):=by
   show some ((kR R).map λk=>D.int (k.headD 0))=_
   rw[Xz]
   rfl
  have hw:walk (fU F [3] .nil (.idx (.var 1) (.var 0)) (TE x0 x1 x2 u (some (false,au R)) x5)) (R.map λe=>D.int (e.1:Int))=some (R.map λe=>D.int (((pg s).im u e.1:Nat):Int)):=
   bT (λe:Nat×List Int=>D.int (e.1:Int)) _ _ _ λe he=>by
    have QW:ev F false (.idx (.var 1) (.var 0)) [some (false,.int e.1),some (false,tp u)]=some (.int ((pg s).im u e.1:Nat)):=j8 hu (kb e he)
    show(ev F false (.idx (.var 1) (.var 0)) [some (false,.int e.1),some (false,tp u)]).map some=_
    rw[QW]
    rfl
  have he:ev F true (.comp [3] 0 (.dk 4) .nil (.idx (.var 1) (.var 0))) (TE x0 x1 x2 u (some (false,au R)) x5)=(kH F true (.dk 4) (TE x0 x1 x2 u (some (false,au R)) x5)).bind λxs=>if xs.length<=bE then(walk (fU F [3] .nil (.idx (.var 1) (.var 0)) (TE x0 x1 x2 u (some (false,au R)) x5)) xs).map .lst else none:=rfl
  rw[he,hk]
  show(if(R.map λe=>D.int (e.1:Int)).length <=bE then _ else none)=_
  rw[Xl (by rw[WZ];lia),hw,Xz]
  rfl
 obtain⟨e0,R0,hR⟩:∃e0 R0,R=e0::R0:=by
  cases R with
  |nil=>exact absurd hv.one (by simp)
  |cons e R=>exact⟨e,R,rfl⟩
 obtain⟨m1,m2⟩:=oK (R0.map λe=>(((pg s).im u e.1:Nat):Int)) (((pg s).im u e0.1:Nat):Int)
 have M4:R.map (λe=>(((pg s).im u e.1:Nat):Int))=(((pg s).im u e0.1:Nat):Int)::R0.map λe=>(((pg s).im u e.1:Nat):Int):=by rw[hR];rfl
 generalize VY:gX (((pg s).im u e0.1:Nat):Int) (R0.map λe=>(((pg s).im u e.1:Nat):Int))=mn at m1 m2
 rw[<-M4]at m1 m2
 refine aa (Xd.mp m1) λe he VZ=>⟨e,he,λq hq=>?_,some (false,.int mn),?_⟩
 .refine aa (Xd.mp hq) λe' xm ag=>?_
  subst ag
  have:=m2 _ (Xd.mpr ⟨e',xm,rfl⟩)
  lia
 .have AB:ev F false (.prim .min (.cons (.comp [3] 0 (.dk 4) .nil (.idx (.var 1) (.var 0))) .nil)) (TE x0 x1 x2 u (some (false,au R)) x5)=some (.int mn):=by
   rw[gZ,dz hc]
   show(match aU ((R.map λe=>(((pg s).im u e.1:Nat):Int)).map .int)with
    |some ns=>match ns with|[]=>none|a::r=>some (D.int (gX a r))
    |none=>_)=_
   rw[c8,M4]
   show some (D.int (gX _ _))=_
   rw[VY]
  have ua:ev F false (.dg .index (.var 3) (.u 5)) (TE x0 x1 x2 u (some (false,au R)) (some (false,.int mn)))=some (.int (e.1:Nat)):=by
   have V0:u[e.1]?=some mn:=by
    have bZ:e.1<u.length:=by rw[aK hu];exact kb e he
    rw[WW bZ]
    have h1:=il hu (kb e he)
    rw[Xa,WW bZ]at h1
    have h2:u[e.1]=(((pg s).im u e.1:Nat):Int):=h1
    rw[h2,VZ]
   show(aU (u.map .int)).bind (λns=>(cC mn ns).map λ(i:Nat)=>D.int (i:Int))=_
   rw[c8]
   show(cC mn u).map (λ(i:Nat)=>D.int (i:Int))=_
   rw[p8 (aF.mp hu).2.1 V0]
   rfl
  have AN:ev F true (.dC 4 (.dg .index (.var 3) (.u 5))) (TE x0 x1 x2 u (some (false,au R)) (some (false,.int mn)))=some (tp e.2):=by
   rw[KW,ua]
   show iB (kR R) (vR R) [(e.1:Int)]=_
   rw[gQ,vD hv.nd (show(e.1,e.2)∈R from he)]
   rfl
  have QT:ev F false (.call 1 (.cons (.dC 4 (.dg .index (.var 3) (.u 5))) (.u 3))) (TE x0 x1 x2 u (some (false,au R)) (some (false,.int mn)))=some (tp (comp e.2 u)):=aD (bC AN rfl) (ht _ (hv.st _ _ (show(e.1,e.2)∈R from he)).1 u hu) (ax _)
  rw[aV,aN AB]
  show ex F (.seq (.asg 3 _) .skip) (TE x0 x1 x2 u (some (false,au R)) (some (false,.int mn)))=_
  rw[aV,aN QT]
  rfl
theorem vL(h6:s<=6)(ht:∀p∈perms s,∀q∈perms s,F 1 [tp p,tp q]=some (tp (comp p q))):∀{l:List (Rg (List Int))}{i:Nat}{u:List Int}{x4 x5:Option (Bool×D)},VL (pg s) l i->u∈perms s->
  ∃x y4 y5,aM (λx ρ=>(aE 0 x).bind λys=>(cz ρ [4] ys).bind λρ'=>ex F M3 ρ') (l.map au) (TE x0 x1 x2 u x4 x5)=some (.next (TE x0 x1 x2 x y4 y5))/\LM (pg s) l u x
 |[],_,u,x4,x5,_,_=>⟨u,x4,x5,rfl,.nil⟩
 |R::l,i,u,x4,x5,hv,hu=>by
  refine aq λnO=>?_
  obtain⟨e,he,hm,z5,h1⟩:=D4 (x0:=x0) (x1:=x1) (x2:=x2) (x5:=x5) h6 ht hv.2.1 hv.1 hu
  have hs:=(hv.1.st e.1 e.2 he).1
  refine kC (vL h6 ht (x0:=x0) (x1:=x1) (x2:=x2) (l:=l) (i:=i+1) (u:=comp e.2 u) (x4:=some (false,au R)) (x5:=z5) hv.2.2 (fB hs hu)) λx y4 y5 h2 h3=>nO ?_
  refine⟨x,y4,y5,?_,.cons (p:=e.1) (v:=e.2) he hm h3⟩
  rw[Xj,aM]
  show(ex F M3 (TE x0 x1 x2 u (some (false,au R)) x5)).bind _=_
  rw[h1]
  exact h2
theorem VL.drop:∀{l:List (Rg (List Int))}{i:Nat} (k:Nat),VL Y l i->k<=l.length->VL Y (l.drop k) (i+k)
 |l,i,0,h,_=>h
 |[],i,k+1,h,hk=>absurd hk (by simp)
 |R::l,i,k+1,h,hk=>by
  have:=VL.drop k h.2.2 (by simpa using hk)
  rwa [show i+1+k=i+(k+1) by lia]at this
def AV(h6:s<=6)(ht:∀p∈perms s,∀q∈perms s,F 1 [tp p,tp q]=some (tp (comp p q)))(hv:VL (pg s) l 0)(hk:k<s)(hu:u∈perms s):
  ∃x,out (ex F d6.body (ae d6 [.lst (l.map au),.int k,tp u]))=some (tp x)/\LM (pg s) (l.drop (k+1)) u x:=by
 have hl:l.length=s:=by have:=VL.len hv;rw[YA]at this;exact this
 refine kC (vL h6 ht (x0:=some (false,.lst (l.map au))) (x1:=some (false,.int k)) (x2:=some (false,tp u)) (l:=l.drop (k+1)) (u:=u) (x4:=none) (x5:=none) (VL.drop (k+1) hv (by lia)) hu) λx y4 y5 h1 h2=>⟨x,?_,h2⟩
 have Nw:kH F false (.it (.sl (.var 0) (.cons (.bin .Add (.var 1) (.c (.int 1))) .nil) .nil)) (TE (some (false,.lst (l.map au))) (some (false,.int k)) (some (false,tp u)) u none none)=some ((l.drop (k+1)).map au):=by
  show seq (.lst (sC (l.map au) (some ((k:Int)+1)) none))=_
  rw[show(k:Int)+1=((k+1:Nat):Int) by lia,rQ _ _ (by rw[WZ];lia),<-List.map_drop]
  rfl
 have hf:ex F (.for [4] 0 (.it (.sl (.var 0) (.cons (.bin .Add (.var 1) (.c (.int 1))) .nil) .nil)) M3) (TE (some (false,.lst (l.map au))) (some (false,.int k)) (some (false,tp u)) u none none)=some (.next (TE (some (false,.lst (l.map au))) (some (false,.int k)) (some (false,tp u)) x y4 y5)):=by
  show(kH F false (.it (.sl (.var 0) (.cons (.bin .Add (.var 1) (.c (.int 1))) .nil) .nil)) (TE (some (false,.lst (l.map au))) (some (false,.int k)) (some (false,tp u)) u none none)).bind _=_
  rw[Nw]
  exact h1
 have hx:ex F d6.body (ae d6 [.lst (l.map au),.int k,tp u])=(ex F (.for [4] 0 (.it (.sl (.var 0) (.cons (.bin .Add (.var 1) (.c (.int 1))) .nil) .nil)) M3) (TE (some (false,.lst (l.map au))) (some (false,.int k)) (some (false,tp u)) u none none)).bind λo=>match o with
   | .next ρ'=>ex F (.seq (.ret (.var 3)) .skip) ρ'
   |o=>some o:=rfl
 rw[hx,hf]
 rfl
end
noncomputable def pairD(e:Nat×List Int):D:= .tup [.int (e.1:Int),tp e.2]
noncomputable def az(R:Rg (List Int)):D:= .tup (R.map pairD)
noncomputable def ao(l:List (Rg (List Int))):D:= .tup (l.map az)
section
variable {s:Nat}{F:FT}
noncomputable def j'(R:Rg (List Int)):List Nat:=(sortI (R.map λe=>(e.1:Int))).map Int.toNat
def mM(R:Rg (List Int)):sortI (R.map λe=>(e.1:Int))=(j' R).map λ(k:Nat)=>(k:Int):=by
 unfold j'
 rw[Xz]
 have:∀x∈sortI (R.map λe=>(e.1:Int)),((λ(k:Nat)=>(k:Int))∘Int.toNat) x=x:=λx hx=>by
  refine aa (Xd.mp ((sortI_perm _).mem_iff.mp hx)) λe _ ag=>?_
  subst ag
  show((e.1:Int).toNat :Int)=_
  lia
 rw[Zf this,List.map_id']
def qb:k∈j' R↔k∈R.map (·.1):=by
 unfold j'
 constructor
 .intro h
  refine aa (Xd.mp h) λx hx ag=>?_
  subst ag
  refine aa (Xd.mp ((sortI_perm _).mem_iff.mp hx)) λe he aP=>?_
  subst aP
  exact Xd.mpr ⟨e,he,by simp⟩
 .intro h
  refine aa (Xd.mp h) λe he cZ=>?_
  subst cZ
  exact Xd.mpr ⟨(e.1:Int),(sortI_perm _).mem_iff.mpr (Xd.mpr ⟨e,he,rfl⟩),by simp⟩
def IV(nd:(R.map (·.1)).Nodup):(j' R).Pairwise (· < ·):=by
 have h1:=l_ (R.map λe=>(e.1:Int))
 have h2:(sortI (R.map λe=>(e.1:Int))).Nodup :=by
  rw[(sortI_perm _).nodup_iff]
  rw[X1,X7]at nd⊢
  exact nd.imp λh e=>h (by lia)
 rw[mM,X7]at h1
 rw[mM,X1,X7]at h2
 exact(h1.and h2).imp λh=>by lia
theorem Hm.drop:∀{l:List (Rg (List Int))}{i:Nat} (k:Nat),Hm (pg s) M l i->k<=l.length->Hm (pg s) M (l.drop k) (i+k)
 |l,i,0,h,_=>h
 |[],i,k+1,h,hk=>absurd hk (by simp)
 |R::l,i,k+1,h,hk=>by
  have:=Hm.drop k (h.tail aw) (by simpa using hk)
  rwa [show i+1+k=i+(k+1) by lia]at this
def D5(h6:s<=6)(hM:cW (pg s) M)(hl:Hm (pg s) M l 0)(hk:k<s)
  (IW:∀u∈perms s,∃x,F 6 [.lst (l.map au),.int k,tp u]=some (tp x)/\LM (pg s) (l.drop (k+1)) u x):
  out (ex F d7.body (ae d7 [.lst (l.map au),.int k]))=some (az (bh (pg s) M k)):=by
 have et:bE=16777216:=rfl
 have a_:l.length=s:=by have:=VL.len hl.1;rw[YA]at this;exact this
 have N2:k<l.length:=by lia
 obtain⟨R,hR⟩:∃R,l[k]?=some R:=⟨l[k],WW N2⟩
 have V1:l.drop k=R::l.drop (k+1):=by
  rw[XR N2]
  rw[WW N2]at hR
  cases hR
  rfl
 have hm:=Hm.drop k hl (by lia)
 rw[YA,V1]at hm
 have hV:=hm.1.1
 have QX:=mJ hk hV
 have best:∀p u,(p,u)∈R->∃x,F 6 [.lst (l.map au),.int k,tp u]=some (tp x)/\fC (pg s) M k p x:=λp u hu=>by
  exact aa (IW u (hV.st p u hu).1) λx h1 h2=>⟨x,h1,hm.best aw hM hu h2⟩
 have mX:item (.lst (l.map au)) (.int k)=some (au R):=by
  show((bR (l.map au).length (k:Int)).bind λj=>(l.map au)[j]?)=_
  unfold bR
  rw[WZ,Xl (by lia),Xl (by lia)]
  show(l.map au)[k]?=_
  rw[Xb,hR]
  rfl
 let kI:Env:=[some (false,.lst (l.map au)),some (false,.int k),some (false,au R)]
 have wO:ev F true (.eE 2) kI=some (.lst ((j' R).map λ(k:Nat)=>D.int (k:Int))):=by
  show(if(kR R).length<64 then some (D.lst ((sortI ((kR R).map λk=>k.headD 0)).map .int)) else none)=_
  rw[Xl (by rw[WZ];lia),Xz]
  show some (D.lst ((sortI (R.map λe=>(e.1:Int))).map .int))=_
  rw[mM,Xz]
  rfl
 have hw:walk (fU F [0,1,2] .nil (.tup (.w 0 (.cons (.call 6 (.w 1 (.w 2 (.cons (.dC 3 (.var 0)) .nil)))) .nil))) kI) ((j' R).map λ(k:Nat)=>D.int (k:Int))=some ((j' R).map λp=>pairD (p,cA (pg s) M k p)):=
  bT (λk:Nat=>D.int (k:Int)) _ _ _ λp hp=>by
   refine aa (Xd.mp (qb.mp hp)) λe he QY=>?_
   have xm:(p,e.2)∈R:=by rw[<-QY];exact he
   refine aa (best p e.2 xm) λx rF JE=>?_
   let xJ:Env:=[some (false,.int p),some (false,.lst (l.map au)),some (false,.int k),some (false,au R)]
   have AN:ev F true (.dC 3 (.var 0)) xJ=some (tp e.2):=by
    show iB (kR R) (vR R) [(p:Int)]=_
    rw[gQ,vD hV.nd xm]
    rfl
   have hc:ev F false (.call 6 (.w 1 (.w 2 (.cons (.dC 3 (.var 0)) .nil)))) xJ=some (tp x):=aD (QQ rfl rfl AN) rF (ax _)
   have wH:ev F false (.tup (.w 0 (.cons (.call 6 (.w 1 (.w 2 (.cons (.dC 3 (.var 0)) .nil)))) .nil))) xJ=some (.tup [.int p,tp x]):=by
    have:=bC (b:=false) (F:=F) (ρ:=xJ) (a:= .var 0) (x:= .int p) rfl hc
    rw[qL,this]
    rfl
   show(ev F false (.tup (.w 0 (.cons (.call 6 (.w 1 (.w 2 (.cons (.dC 3 (.var 0)) .nil)))) .nil))) xJ).map some=_
   rw[wH,fE JE]
   rfl
 have r_:ev F true (.comp [0,1,2] 0 (.it (.eE 2)) .nil (.tup (.w 0 (.cons (.call 6 (.w 1 (.w 2 (.cons (.dC 3 (.var 0)) .nil)))) .nil)))) kI=some (.lst ((j' R).map λp=>pairD (p,cA (pg s) M k p))):=by
  rw[de wO rfl (by
   rw[WZ]
   have:(j' R).length =R.length:=by unfold j';rw[WZ,(sortI_perm _).length_eq,WZ]
   lia),hw]
  rfl
 have IJ:(j' R).map (λp=>(p,cA (pg s) M k p))=bh (pg s) M k:=by
  refine AH aw hk hM.s (λp x hx=>?_) (λt ht hf=>?_) ?_
  .refine aa (Xd.mp hx) λq hq e=>?_
   rw[<-(aaQ e).1,<-(aaQ e).2]
   refine aa (Xd.mp (qb.mp hq)) λe he QY=>aa (best q e.2 (by rw[<-QY];exact he)) λy _ hy=>?_
   rw[fE hy]
   exact hy
  .exact bu (hm.split aw ht hf) λu w hu _ _=>⟨_,Xd.mpr ⟨_,qb.mpr (Xd.mpr ⟨_,hu,rfl⟩),rfl⟩⟩
  .rw[Xz]
   have:((λx:Nat×List Int=>x.1) ∘ λp=>(p,cA (pg s) M k p))=id:=rfl
   rw[this,aaP]
   exact IV hV.nd
 have ha:ex F (.asg 2 (.idx (.var 0) (.var 1))) (ae d7 [.lst (l.map au),.int k])=some (.next kI):=aN (F:=F) mX
 have hx:ex F d7.body (ae d7 [.lst (l.map au),.int k])=(ex F (.asg 2 (.idx (.var 0) (.var 1))) (ae d7 [.lst (l.map au),.int k])).bind λo=>match o with
   | .next ρ'=>ex F (.seq (.ret (.prim .tuple (.cons (.comp [0,1,2] 0 (.it (.eE 2)) .nil (.tup (.w 0 (.cons (.call 6 (.w 1 (.w 2 (.cons (.dC 3 (.var 0)) .nil)))) .nil)))) .nil))) .skip) ρ'
   |o=>some o:=rfl
 rw[hx,ha]
 refine cb ?_
 rw[gZ,dz r_]
 show some (D.tup ((j' R).map λp=>pairD (p,cA (pg s) M k p)))=_
 rw[<-IJ]
 unfold az
 rw[Xz]
 rfl
def vM(R:Rg (List Int)):aI (az R)=true:=by
 show ba (R.map pairD)=true
 induction R with
 |nil=>rfl
 |cons e R ih=>
  show(aI (pairD e)&&ba (R.map pairD))=true
  rw[ih]
  show((aI (.int (e.1:Int))&&(aI (tp e.2)&&true))&&true)=true
  rw[ax]
  rfl
def xu(h6:s<=6){M:List Int->Prop}{row:D}{l:List (Rg (List Int))}(hf:F 5 [row,.int s]=some (.lst (l.map au)))(IX:aI row=true)(hr:∀k,k<s->F 7 [.lst (l.map au),.int k]=some (az (bh (pg s) M k))):
  out (ex F d8.body (ae d8 [row,.int s]))=some (ao (aJ (pg s) M 0)):=by
 have et:bE=16777216:=rfl
 let kI:Env:=[some (false,row),some (false,.int s),some (false,.lst (l.map au))]
 have h1:ev F false (.call 5 (.w 0 (.u 1))) (ae d8 [row,.int s])=some (.lst (l.map au)):=aG (bC rfl rfl) hf rfl
 have hw:walk (fU F [2] .nil (.call 7 (.w 1 (.u 0))) kI) (bH 0 s)=some ((List.range s).map λk=>az (bh (pg s) M k)):=by
  rw[d_]
  refine bT (λk:Nat=>D.int (k:Int)) _ _ _ λk hk=>?_
  have hc:ev F false (.call 7 (.w 1 (.u 0))) [some (false,.int k),some (false,.lst (l.map au))]=some (az (bh (pg s) M k)):=aD (bC rfl rfl) (hr k (XH.mp hk)) (vM _)
  show(ev F false (.call 7 (.w 1 (.u 0))) [some (false,.int k),some (false,.lst (l.map au))]).map some=_
  rw[hc]
  rfl
 have r_:ev F true (.comp [2] 0 (.eK (.u 1)) .nil (.call 7 (.w 1 (.u 0)))) kI=some (.lst ((List.range s).map λk=>az (bh (pg s) M k))):=by
  have QU:(cD F false (.u 1) kI).bind dE=some (bH 0 s):=cF (by lia)
  rw[mF QU (by rw[gE];lia),hw]
  rfl
 have hx:ex F d8.body (ae d8 [row,.int s])=(ex F (.asg 2 (.call 5 (.w 0 (.u 1)))) (ae d8 [row,.int s])).bind λo=>match o with
   | .next ρ'=>ex F (.seq (.ret (.prim .tuple (.cons (.comp [2] 0 (.eK (.u 1)) .nil (.call 7 (.w 1 (.u 0)))) .nil))) .skip) ρ'
   |o=>some o:=rfl
 rw[hx,aN h1]
 refine cb ?_
 show ev F true _ kI=_
 rw[gZ,dz r_]
 show some (D.tup ((List.range s).map λk=>az (bh (pg s) M k)))=_
 unfold ao aJ
 rw[Xz,Za]
 rfl
end
def xv:(List.range 7).all (λn=>decide ((perms n).length <=720))=true:=by decide +kernel
section
variable {s:Nat}{F:FT}
def jA(h6:s<=6):(perms s).length <=720:=of_decide_eq_true (all_range xv (show s<7 by lia))
theorem jB[DecidableEq α]:∀(l m:List α),l.Nodup->(∀x∈l,x∈m)->l.length<=m.length
 |[],_,_,_=>Ye _
 |x::l,m,nd,h=>by
  rw[XB]at nd
  have hx:=h x W6
  have:=jB l (m.erase x) nd.2 λy hy=>(List.mem_erase_of_ne (λe:y=x=>nd.1 (e▸hy))).mpr (h y (W4 _ hy))
  rw[Z' hx]at this
  have:0<m.length:=List.length_pos_of_mem hx
  rw[Xm]
  lia
def AW(h6:s<=6)(hv:VL (pg s) l i):(TL (pg s) l).length <=720:=
 XZ (jB _ _ (mG aw hv) λx hx=>(H.good aw hv (iL.mp hx)).1) (jA h6)
def oM(h:ex F b (put ρ i false x)=some (.next ρ')):aM (λx ρ=>(aE 0 x).bind λys=>(cz ρ [i] ys).bind λρ'=>ex F b ρ') (x::r) ρ=aM (λx ρ=>(aE 0 x).bind λys=>(cz ρ [i] ys).bind λρ'=>ex F b ρ') r ρ':=by
 rw[aM]
 show(ex F b (put ρ i false x)).bind _=_
 rw[h]
 rfl
def gG(h1:ev F true a ρ=some x)(h2:ev F true c ρ=some y):ev F b (.bin o a c) ρ=bin o x y:=by
 rw[qK,h1,h2]
 rfl
noncomputable abbrev IY:E:=(.comp [4] 0 (.it (.var 1)) .nil (.call 1 (.w 0 (.cons (.idx (.var 1) (.c (.int 1))) .nil))))
noncomputable abbrev M5:C:=(.seq (.ext 3 IY) .skip)
noncomputable abbrev M6:C:=(.seq (.bK 3 (.lst .nil)) (.seq (.for [4] 0 (.it (.var 2)) M5) (.seq (.EK 1 3) .skip)))
noncomputable abbrev OE(x0:Option (Bool×D))(o:Bool)(ts:List (List Int))(x2 x3 x4:Option (Bool×D)):Env:=[x0,some (o,.lst (ts.map tp)),x2,x3,x4]
theorem Fm(ht:∀p∈perms s,∀q∈perms s,F 1 [tp p,tp q]=some (tp (comp p q)))(N3:∀t∈ts,t∈perms s)(hl:ts.length<=1000):∀{R:Rg (List Int)}{acc:List (List Int)}{x4:Option (Bool×D)},(∀e∈R,e.2∈perms s)->acc.length+(R.flatMap λe=>ts.map λw=>comp w e.2).length <=10000->
  ∃y4,aM (λx ρ=>(aE 0 x).bind λys=>(cz ρ [4] ys).bind λρ'=>ex F M5 ρ') (R.map pairD) (OE x0 o ts x2 (some (true,.lst (acc.map tp))) x4)=some (.next (OE x0 o ts x2 (some (true,.lst ((acc++R.flatMap λe=>ts.map λw=>comp w e.2).map tp))) y4))
 |[],acc,x4,_,_=>⟨x4,by show some (jH.next _)=_;rw[List.flatMap_nil,XF]⟩
 |e::R,acc,x4,h,hb=>by
  have et:bE=16777216:=rfl
  rw[aaa,W_,WZ]at hb
  have he:=h e W6
  obtain⟨y4,ih⟩:=Fm ht (x0:=x0) (x2:=x2) (o:=o) N3 hl (R:=R) (acc:=acc++ts.map λw=>comp w e.2) (x4:=some (false,pairD e)) (λe' xm=>h e' (W4 _ xm)) (by rw[W_,WZ];lia)
  refine⟨y4,?_⟩
  let kI:Env:=OE x0 o ts x2 (some (true,.lst (acc.map tp))) (some (false,pairD e))
  have hv:ev F true (.var 1) kI=some (.lst (ts.map tp)):=by cases o<;>rfl
  have hw:walk (fU F [4] .nil (.call 1 (.w 0 (.cons (.idx (.var 1) (.c (.int 1))) .nil))) kI) (ts.map tp)=some (ts.map λw=>tp (comp w e.2)):=
   bT tp _ _ _ λw hw=>by
    have hc:ev F false (.call 1 (.w 0 (.cons (.idx (.var 1) (.c (.int 1))) .nil))) [some (false,tp w),some (false,pairD e)]=some (tp (comp w e.2)):=aD (bC rfl rfl) (ht w (N3 w hw) _ he) (ax _)
    show(ev F false (.call 1 (.w 0 (.cons (.idx (.var 1) (.c (.int 1))) .nil))) [some (false,tp w),some (false,pairD e)]).map some=_
    rw[hc]
    rfl
  have r_:ev F false IY kI=some (.lst ((ts.map λw=>comp w e.2).map tp)):=by
   rw[de hv rfl (by rw[WZ];lia),hw,Xz]
   rfl
  have QZ:ex F M5 kI=some (.next (OE x0 o ts x2 (some (true,.lst ((acc++ts.map λw=>comp w e.2).map tp))) (some (false,pairD e)))):=by
   have h1:ex F (.ext 3 IY) kI=some (.next (OE x0 o ts x2 (some (true,.lst ((acc++ts.map λw=>comp w e.2).map tp))) (some (false,pairD e)))):=by
    rw[KY,r_]
    show(if(acc.map tp).length+((ts.map λw=>comp w e.2).map tp).length <=bE then some (jH.next (put kI 3 true (.lst (acc.map tp++(ts.map λw=>comp w e.2).map tp)))) else none)=_
    rw[Xl (by rw[WZ,WZ,WZ];lia),<-Xy]
    rfl
   rw[aV,h1]
   rfl
  rw[Xj,aM]
  show(ex F M5 kI).bind _=_
  rw[QZ]
  show aM _ (R.map pairD) _=_
  rw[ih,aaa,Xw]
theorem AX(h6:s<=6)(ht:∀p∈perms s,∀q∈perms s,F 1 [tp p,tp q]=some (tp (comp p q))):∀{rs l:List (Rg (List Int))}{i:Nat}{o:Bool}{x2 x3 x4:Option (Bool×D)},VL (pg s) (rs.reverse++l) i->
  ∃o' y2 y3 y4,aM (λx ρ=>(aE 0 x).bind λys=>(cz ρ [2] ys).bind λρ'=>ex F M6 ρ') (rs.map az) (OE x0 o (TL (pg s) l) x2 x3 x4)=some (.next (OE x0 o' (TL (pg s) (rs.reverse++l)) y2 y3 y4))
 |[],l,i,o,x2,x3,x4,_=>⟨o,x2,x3,x4,rfl⟩
 |R::rs,l,i,o,x2,x3,x4,hv=>by
  have e0:(R::rs).reverse ++l=rs.reverse++(R::l):=by simp
  rw[e0]at hv⊢
  have Q0:VL (pg s) (R::l) (i+rs.reverse.length):=by
   have:=VL.drop rs.reverse.length hv (by rw[W_];lia)
   rwa [List.drop_left]at this
  have hl:=Q0.2.2
  have N3:∀t∈TL (pg s) l,t∈perms s:=λt h=>(H.good aw hl (iL.mp h)).1
  have hn:=AW h6 hl
  have KH:(R.flatMap λe=>(TL (pg s) l).map λw=>comp w e.2).length <=720:=AW h6 Q0
  obtain⟨z4,i1⟩:=Fm ht (x0:=x0) (x2:=some (false,az R)) (o:=o) N3 (by lia) (R:=R) (acc:=[]) (x4:=x4) (λe he=>(Q0.1.st e.1 e.2 he).1) (by rw[YC];lia)
  rw[Yt]at i1
  have eT:TL (pg s) (R::l)=R.flatMap λe=>(TL (pg s) l).map λw=>comp w e.2:=rfl
  rw[<-eT]at i1
  refine Nh (AX h6 ht (x0:=x0) (rs:=rs) (l:=R::l) (o:=false) (x2:=some (false,az R)) (x3:=some (false,.lst ((TL (pg s) (R::l)).map tp))) (x4:=z4) hv) λo' y2 y3 y4 ih=>⟨o',y2,y3,y4,?_⟩
  have hb:ex F M6 (OE x0 o (TL (pg s) l) (some (false,az R)) x3 x4)=some (.next (OE x0 false (TL (pg s) (R::l)) (some (false,az R)) (some (false,.lst ((TL (pg s) (R::l)).map tp))) z4)):=by
   have a1:ex F (.bK 3 (.lst .nil)) (OE x0 o (TL (pg s) l) (some (false,az R)) x3 x4)=some (.next (OE x0 o (TL (pg s) l) (some (false,az R)) (some (true,.lst [])) x4)):=rfl
   have a2:ex F (.for [4] 0 (.it (.var 2)) M5) (OE x0 o (TL (pg s) l) (some (false,az R)) (some (true,.lst [])) x4)=some (.next (OE x0 o (TL (pg s) l) (some (false,az R)) (some (true,.lst ((TL (pg s) (R::l)).map tp))) z4)):=i1
   have a3:ex F (.EK 1 3) (OE x0 o (TL (pg s) l) (some (false,az R)) (some (true,.lst ((TL (pg s) (R::l)).map tp))) z4)=some (.next (OE x0 false (TL (pg s) (R::l)) (some (false,az R)) (some (false,.lst ((TL (pg s) (R::l)).map tp))) z4)):=rfl
   rw[aV,a1]
   show ex F (.seq _ (.seq _ .skip)) _=_
   rw[aV,a2]
   show ex F (.seq (.EK 1 3) .skip) (OE x0 o (TL (pg s) l) (some (false,az R)) (some (true,.lst ((TL (pg s) (R::l)).map tp))) z4)=_
   rw[aV,a3]
   rfl
  rw[Xj,aM]
  show(ex F M6 (OE x0 o (TL (pg s) l) (some (false,az R)) x3 x4)).bind _=_
  rw[hb]
  exact ih
theorem ka:∀{ks:List (List Int)},(∀k∈ks,k≠[])->eM (ks.map tp)=some ks
 |[],_=>rfl
 |k::ks,h=>by
  show(aU (k.map .int)).bind _=_
  rw[c8]
  show(if k=[] then none else(eM (ks.map tp)).map (k:: ·))=_
  rw[Xs (h k W6),ka λx hx=>h x (W4 _ hx)]
  rfl
def uc(h1:1<=s)(h:t∈perms s):t≠[]:=λz=>by
 have:=aK h
 rw[z]at this
 simp at this
 lia
def AY(h1:1<=s)(h6:s<=6)(mX:F 0 [.int s]=some (tp (bj s)))(ht:∀p∈perms s,∀q∈perms s,F 1 [tp p,tp q]=some (tp (comp p q)))(hv:VL (pg s) l 0):
  out (ex F d9.body (ae d9 [ao l]))=some (.tup ((b6.b9 (TL (pg s) l)).map tp)):=by
 have a_:l.length=s:=by have:=VL.len hv;rw[YA]at this;exact this
 refine Nh (AX h6 ht (x0:=some (false,ao l)) (rs:=l.reverse) (l:=[]) (i:=0) (o:=true) (x2:=none) (x3:=none) (x4:=none) (by rw[aaJ,XF];exact hv)) λo' y2 y3 y4 h2=>?_
 rw[aaJ,XF]at h2
 have e1:ev F false (.call 0 (.cons (.prim .len (.u 0)) .nil)) (ae d9 [ao l])=some (tp (bj s)):=by
  have:ev F true (.prim .len (.u 0)) (ae d9 [ao l])=some (.int s):=by
   show some (D.int ((l.map az).length :Nat))=_
   rw[WZ,a_]
  exact aD (dz this) mX (ax _)
 have a1:ex F (.bK 1 (.lst (.cons (.call 0 (.cons (.prim .len (.u 0)) .nil)) .nil))) (ae d9 [ao l])=some (.next (OE (some (false,ao l)) true [bj s] none none none)):=by
  have:ev F false (.lst (.cons (.call 0 (.cons (.prim .len (.u 0)) .nil)) .nil)) (ae d9 [ao l])=some (.lst [tp (bj s)]):=by
   rw[yx,dz e1]
   rfl
  rw[nh,this]
  rfl
 have a2:ex F (.for [2] 0 (.EI (.var 0)) M6) (OE (some (false,ao l)) true [bj s] none none none)=some (.next (OE (some (false,ao l)) o' (TL (pg s) l) y2 y3 y4)):=by
  show aM _ ((l.map az).reverse) _=_
  rw[<-List.map_reverse]
  exact h2
 have a3:ev F true (.prim .tuple (.cons (.prim .sorted (.u 1)) .nil)) (OE (some (false,ao l)) o' (TL (pg s) l) y2 y3 y4)=some (.tup ((b6.b9 (TL (pg s) l)).map tp)):=by
  have V2:ev F true (.var 1) (OE (some (false,ao l)) o' (TL (pg s) l) y2 y3 y4)=some (.lst ((TL (pg s) l).map tp)):=by cases o'<;>rfl
  have hs:ev F true (.prim .sorted (.u 1)) (OE (some (false,ao l)) o' (TL (pg s) l) y2 y3 y4)=some (.lst ((b6.b9 (TL (pg s) l)).map tp)):=by
   rw[gZ,dz V2]
   show(eM ((TL (pg s) l).map tp)).map (λks=>D.lst ((b6.b9 ks).map nc))=_
   rw[ka λt h=>uc h1 (H.good aw hv (iL.mp h)).1]
   rfl
  rw[gZ,dz hs]
  rfl
 have hx:ex F d9.body (ae d9 [ao l])=(ex F (.bK 1 (.lst (.cons (.call 0 (.cons (.prim .len (.u 0)) .nil)) .nil))) (ae d9 [ao l])).bind λo=>match o with
   | .next ρ'=>ex F (.seq (.for [2] 0 (.EI (.var 0)) M6) (.seq (.ret (.prim .tuple (.cons (.prim .sorted (.u 1)) .nil))) .skip)) ρ'
   |o=>some o:=rfl
 rw[hx,a1]
 show out (ex F (.seq _ _) _)=_
 rw[aV,a2]
 exact cb a3
noncomputable abbrev mv(B:List (List Int)):List D:=B.map λ_=>D.bl true
noncomputable abbrev AE(x0 x1 x2:Option (Bool×D))(B W:List (List Int))(x5 x6 x7:Option (Bool×D)):Env:=[x0,x1,x2,some (true,.bP 1 B (mv B)),some (true,.lst (W.map tp)),x5,x6,x7]
noncomputable abbrev M7:C:=(.seq (.asg 7 (.call 24 (.w 5 (.u 6)))) (.seq (.ifs (.uC true (.var 7) 3) (.seq (.qH 3 (.var 7) (.c (.bl true))) (.seq (.app 4 (.var 7)) .skip)) .skip) .skip))
noncomputable abbrev JI:C:=(.seq (.pop 5 4) (.seq (.for [6] 0 (.it (.var 0)) M7) .skip))
def qc(h:t≠0)(p:List Int):dD t (tp p)=some p:=by
 show(if t=0 then none else aU (p.map .int))=some p
 rw[Xs h]
 exact c8 p
def D6(bZ:∀p∈perms s,∀q∈perms s,F 24 [tp p,tp q]=some (tp (comp p q)))(ht:t∈perms s)(hg:g∈perms s)(hB:B.length<=1000)(hW:W.length<=10000):
  ex F M7 (AE x0 x1 x2 B W (some (false,tp t)) (some (false,tp g)) x7)=some (.next (if comp t g∈B then AE x0 x1 x2 B W (some (false,tp t)) (some (false,tp g)) (some (false,tp (comp t g))) else AE x0 x1 x2 (B++[comp t g]) (W++[comp t g]) (some (false,tp t)) (some (false,tp g)) (some (false,tp (comp t g))))):=by
 have et:bE=16777216:=rfl
 have h1:ev F false (.call 24 (.w 5 (.u 6))) (AE x0 x1 x2 B W (some (false,tp t)) (some (false,tp g)) x7)=some (tp (comp t g)):=aD (bC rfl rfl) (bZ t ht g hg) (ax _)
 have h2:ev F false (.uC true (.var 7) 3) (AE x0 x1 x2 B W (some (false,tp t)) (some (false,tp g)) (some (false,tp (comp t g))))=some (.bl (!decide (comp t g∈B))):=by
  show((dD 1 (tp (comp t g))).map λx=>D.bl (!decide (x∈B)))=_
  rw[qc (by decide)]
  rfl
 rw[aV,aN h1]
 show ex F (.seq (.ifs (.uC true (.var 7) 3) _ .skip) .skip) (AE x0 x1 x2 B W (some (false,tp t)) (some (false,tp g)) (some (false,tp (comp t g))))=_
 by_cases hm:comp t g∈B
 .rw[decide_eq_true hm]at h2
  rw[aV,fI,h2,Xl hm]
  rfl
 .rw[decide_eq_false hm]at h2
  have s1:ex F (.qH 3 (.var 7) (.c (.bl true))) (AE x0 x1 x2 B W (some (false,tp t)) (some (false,tp g)) (some (false,tp (comp t g))))=some (.next (AE x0 x1 x2 (B++[comp t g]) W (some (false,tp t)) (some (false,tp g)) (some (false,tp (comp t g))))):=by
   show((dD 1 (tp (comp t g))).bind λx=>if B.length<bE/\x∉B then some (jH.next (put (AE x0 x1 x2 B W (some (false,tp t)) (some (false,tp g)) (some (false,tp (comp t g)))) 3 true (.bP 1 (B++[x]) (mv B++[.bl true])))) else none)=_
   rw[qc (by decide)]
   show(if B.length<bE/\comp t g∉B then _ else none)=_
   rw[Xl ⟨by lia,hm⟩]
   have:mv B++[D.bl true]=mv (B++[comp t g]):=by unfold mv;rw[Xy];rfl
   rw[this]
   rfl
  have s2:ex F (.app 4 (.var 7)) (AE x0 x1 x2 (B++[comp t g]) W (some (false,tp t)) (some (false,tp g)) (some (false,tp (comp t g))))=some (.next (AE x0 x1 x2 (B++[comp t g]) (W++[comp t g]) (some (false,tp t)) (some (false,tp g)) (some (false,tp (comp t g))))):=by
   rw[gF (d:=tp (comp t g)) (xs:=W.map tp) rfl rfl (by rw[WZ];lia)]
   have:W.map tp++[tp (comp t g)]=(W++[comp t g]).map tp:=by rw[Xy];rfl
   rw[this]
   rfl
  rw[aV,fI,h2,Xs hm]
  show((ex F (.seq (.qH 3 (.var 7) (.c (.bl true))) (.seq (.app 4 (.var 7)) .skip)) (AE x0 x1 x2 B W (some (false,tp t)) (some (false,tp g)) (some (false,tp (comp t g))))).bind _)=_
  rw[aV,s1]
  show((ex F (.seq (.app 4 (.var 7)) .skip) (AE x0 x1 x2 (B++[comp t g]) W (some (false,tp t)) (some (false,tp g)) (some (false,tp (comp t g))))).bind _)=_
  rw[aV,s2]
  rfl
theorem AZ(h6:s<=6)(bZ:∀p∈perms s,∀q∈perms s,F 24 [tp p,tp q]=some (tp (comp p q)))(hG:∀g∈G,g∈perms s)(ht:t∈perms s):∀{gs done B W:List (List Int)}{x6 x7:Option (Bool×D)},(∀g∈gs,g∈G)->Am comp (bj s) G t done B W->W.length+gs.length<=5000->
  ∃B' W' y6 y7,aM (λx ρ=>(aE 0 x).bind λys=>(cz ρ [6] ys).bind λρ'=>ex F M7 ρ') (gs.map tp) (AE x0 x1 x2 B W (some (false,tp t)) x6 x7)=some (.next (AE x0 x1 x2 B' W' (some (false,tp t)) y6 y7))/\Am comp (bj s) G t (done++gs) B' W'/\B.length<=B'.length/\B'.length+W.length=B.length+W'.length
 |[],done,B,W,x6,x7,_,h,_=>⟨B,W,x6,x7,rfl,by rw[XF];exact h,W9 _,rfl⟩
 |g::gs,done,B,W,x6,x7,Q2,h,hn=>by
  rw[Xm]at hn
  have Tb:=Q2 g W6
  have hg:=hG g Tb
  have hB:B.length<=720:=XZ (jB _ _ h.nd λx hx=>AL hG (h.gen x hx)) (jA h6)
  have h1:=D6 bZ (x0:=x0) (x1:=x1) (x2:=x2) (x7:=x7) (B:=B) (W:=W) ht hg (by lia) (by lia)
  have e0:done++g::gs=(done++[g])++gs:=by rw[Xw];rfl
  by_cases hm:comp t g∈B
  .rw[Xl hm]at h1
   refine JP (AZ h6 bZ hG (x0:=x0) (x1:=x1) (x2:=x2) ht (gs:=gs) (done:=done++[g]) (B:=B) (W:=W) (x6:=some (false,tp g)) (x7:=some (false,tp (comp t g))) (λq hq=>Q2 q (W4 _ hq)) (h.old hm) (by lia)) λB' W' y6 y7 i1 i2 i3 i4=>⟨B',W',y6,y7,?_,by rw[e0];exact i2,i3,i4⟩
   rw[Xj,oM (ρ':=AE x0 x1 x2 B W (some (false,tp t)) (some (false,tp g)) (some (false,tp (comp t g)))) h1]
   exact i1
  .rw[Xs hm]at h1
   refine JP (AZ h6 bZ hG (x0:=x0) (x1:=x1) (x2:=x2) ht (gs:=gs) (done:=done++[g]) (B:=B++[comp t g]) (W:=W++[comp t g]) (x6:=some (false,tp g)) (x7:=some (false,tp (comp t g))) (λq hq=>Q2 q (W4 _ hq)) (h.new Tb hm) (by rw[W_,Xx];lia)) λB' W' y6 y7 i1 i2 i3 i4=>?_
   rw[W_,Xx]at i3
   rw[W_,Xx,W_,Xx]at i4
   refine⟨B',W',y6,y7,?_,by rw[e0];exact i2,by lia,by lia⟩
   rw[Xj,oM (ρ':=AE x0 x1 x2 (B++[comp t g]) (W++[comp t g]) (some (false,tp t)) (some (false,tp g)) (some (false,tp (comp t g)))) h1]
   exact i1
theorem ed(n:Nat):∀W:List (List Int),fX (W.map tp) (n+1)=true
 |[]=>rfl
 |t::W=>by
  show(cL (tp t) (n+1)&&fX (W.map tp) (n+1))=true
  rw[t8,ed n W]
  rfl
def D7{x0 x1 x2 x5 x6 x7:Option (Bool×D)}{B W:List (List Int)}:ev F false (.cmp .NotEq (.var 4) (.lst .nil)) (AE x0 x1 x2 B W x5 x6 x7)=some (.bl (!W.isEmpty)):=by
 have h1:cmp .NotEq (.lst (W.map tp)) (.lst [])=some (!W.isEmpty):=by
  show(if(cL (.lst (W.map tp)) 60&&cL (.lst []) 60)=true then some (!fT (.lst (W.map tp)) (.lst [])) else none)=_
  have e1:cL (.lst (W.map tp)) 60=true:=ed 58 W
  rw[e1]
  cases W<;>rfl
 show(cmp .NotEq (.lst (W.map tp)) (.lst [])).map D.bl=_
 rw[h1]
 rfl
theorem vN(h6:s<=6)(bZ:∀p∈perms s,∀q∈perms s,F 24 [tp p,tp q]=some (tp (comp p q)))(hG:∀g∈G,g∈perms s)(Q3:G.length<=1000):∀(n:Nat) {B W:List (List Int)}{x5 x6 x7:Option (Bool×D)},Al comp (bj s) G B W->2*(720-B.length)+W.length<n->2*(720-B.length)+W.length<=2000->
  ∃B' y5 y6 y7,iZ (λρ=>(ev F false (.cmp .NotEq (.var 4) (.lst .nil)) ρ).bind eN) (ex F JI) n (AE (some (false,.tup (G.map tp))) x1 x2 B W x5 x6 x7)=some (.next (AE (some (false,.tup (G.map tp))) x1 x2 B' [] y5 y6 y7))/\Al comp (bj s) G B' []
 |0,_,_,_,_,_,_,h,_=>absurd h (YO _)
 |n+1,B,W,x5,x6,x7,h,hn,hb=>by
  rw[iZ,D7]
  rcases aaE W with rfl|⟨W0,t,rfl⟩
  .exact⟨B,x5,x6,x7,rfl,h⟩
  .rw[aaF]at h hn hb⊢
   rw[W_,Xx]at hn hb
   have fJ:(W0++[t]).isEmpty =false:=by simp
   rw[fJ]
   have V3:t∈B:=h.wb t (Xi _ (W5.mpr rfl))
   have ht:t∈perms s:=AL hG (h.gen t V3)
   refine aq λnO=>JP (AZ h6 bZ hG (x0:=some (false,.tup (G.map tp))) (x1:=x1) (x2:=x2) ht (gs:=G) (done:=[]) (B:=B) (W:=W0) (x6:=x6) (x7:=x7) (λ_ z=>z) h.start (by lia)) λB' W' y6 y7 i1 i2 i3 i4=>?_
   rw[Yt]at i2
   have hA:=i2.fin λg hg=>hg
   have WR:B'.length<=720:=XZ (jB _ _ hA.nd λx hx=>AL hG (hA.gen x hx)) (jA h6)
   refine mS (vN h6 bZ hG Q3 (x1:=x1) (x2:=x2) n (B:=B') (W:=W') (x5:=some (false,tp t)) (x6:=y6) (x7:=y7) hA (by lia) (by lia)) λB2 z5 z6 z7 j1 j2=>nO ?_
   refine⟨B2,z5,z6,z7,?_,j2⟩
   have p1:ex F (.pop 5 4) (AE (some (false,.tup (G.map tp))) x1 x2 B (W0++[t]) x5 x6 x7)=some (.next (AE (some (false,.tup (G.map tp))) x1 x2 B W0 (some (false,tp t)) x6 x7)):=by
    have e1:((W0++[t]).map tp).getLast? =some (tp t):=by rw[Xy];simp
    have e2:((W0++[t]).map tp).dropLast =W0.map tp:=by rw[Xy];simp
    show(((W0++[t]).map tp).getLast?.map λz=>jH.next (put (put (AE (some (false,.tup (G.map tp))) x1 x2 B (W0++[t]) x5 x6 x7) 4 true (.lst ((W0++[t]).map tp).dropLast)) 5 false z))=_
    rw[e1,e2]
    rfl
   have p2:ex F (.for [6] 0 (.it (.var 0)) M7) (AE (some (false,.tup (G.map tp))) x1 x2 B W0 (some (false,tp t)) x6 x7)=some (.next (AE (some (false,.tup (G.map tp))) x1 x2 B' W' (some (false,tp t)) y6 y7)):=i1
   have p3:ex F JI (AE (some (false,.tup (G.map tp))) x1 x2 B (W0++[t]) x5 x6 x7)=some (.next (AE (some (false,.tup (G.map tp))) x1 x2 B' W' (some (false,tp t)) y6 y7)):=by
    rw[aV,p1]
    show ex F (.seq (.for [6] 0 (.it (.var 0)) M7) .skip) _=_
    rw[aV,p2]
    rfl
   show((ex F JI (AE (some (false,.tup (G.map tp))) x1 x2 B (W0++[t]) x5 x6 x7)).bind _)=_
   rw[p3]
   exact j1
def IZ(h1:1<=s)(h6:s<=6)(bZ:∀p∈perms s,∀q∈perms s,F 24 [tp p,tp q]=some (tp (comp p q)))(hG:∀g∈G,g∈perms s)(Q3:G.length<=1000):
  ∃B,out (ex F DV.body (ae DV [.tup (G.map tp),.int s]))=some (.lst ((b6.b9 B).map tp))/\Al comp (bj s) G B []:=by
 obtain⟨B,y5,y6,y7,i1,i2⟩:=vN h6 bZ hG Q3 (x1:=some (false,.int s)) (x2:=some (false,tp (bj s))) hZ (B:=[bj s]) (W:=[bj s]) (x5:=none) (x6:=none) (x7:=none) VR (by
  have:hZ=1000000:=rfl
  rw[this,Xx];lia) (by rw[Xx];lia)
 refine⟨B,?_,i2⟩
 have a1:ev F false (.iY .tuple (.u 1)) (ae DV [.tup (G.map tp),.int s])=some (tp (bj s)):=by
  show(dE [.int s]).bind (lO .tuple)=_
  rw[cF (by lia),dY]
  rfl
 have a2:ex F (.pA 3 1 (.w 2 (.cons (.c (.bl true)) .nil))) [some (false,.tup (G.map tp)),some (false,.int s),some (false,tp (bj s)),none,none,none,none,none]=some (.next [some (false,.tup (G.map tp)),some (false,.int s),some (false,tp (bj s)),some (true,.bP 1 [bj s] [.bl true]),none,none,none,none]):=by
  show(((dD 1 (tp (bj s))).map λx=>D.bP 1 [x] [.bl true]).map λd=>jH.next (put [some (false,.tup (G.map tp)),some (false,.int s),some (false,tp (bj s)),none,none,none,none,none] 3 true d))=_
  rw[qc (by decide)]
  rfl
 have a3:ex F (.while (.cmp .NotEq (.var 4) (.lst .nil)) JI) (AE (some (false,.tup (G.map tp))) (some (false,.int s)) (some (false,tp (bj s))) [bj s] [bj s] none none none)=some (.next (AE (some (false,.tup (G.map tp))) (some (false,.int s)) (some (false,tp (bj s))) B [] y5 y6 y7)):=i1
 have a4:ev F true (.eE 3) (AE (some (false,.tup (G.map tp))) (some (false,.int s)) (some (false,tp (bj s))) B [] y5 y6 y7)=some (.lst ((b6.b9 B).map tp)):=by
  show(if []∈B then none else some (D.lst ((b6.b9 B).map nc)))=_
  rw[Xs λz=>uc h1 (AL hG (i2.gen _ z)) rfl]
  rfl
 have hx:ex F DV.body (ae DV [.tup (G.map tp),.int s])=(ex F (.asg 2 (.iY .tuple (.u 1))) (ae DV [.tup (G.map tp),.int s])).bind λo=>match o with
   | .next ρ'=>ex F (.seq (.pA 3 1 (.w 2 (.cons (.c (.bl true)) .nil))) (.seq (.bK 4 (.lst (.u 2))) (.seq (.while (.cmp .NotEq (.var 4) (.lst .nil)) JI) (.seq (.ret (.eE 3)) .skip)))) ρ'
   |o=>some o:=rfl
 rw[hx,aN a1]
 show out (ex F (.seq (.pA 3 1 (.w 2 (.cons (.c (.bl true)) .nil))) _) [some (false,.tup (G.map tp)),some (false,.int s),some (false,tp (bj s)),none,none,none,none,none])=_
 rw[aV,a2]
 show out (ex F (.seq (.while (.cmp .NotEq (.var 4) (.lst .nil)) JI) (.seq (.ret (.eE 3)) .skip)) (AE (some (false,.tup (G.map tp))) (some (false,.int s)) (some (false,tp (bj s))) [bj s] [bj s] none none none))=_
 rw[aV,a3]
 exact cb a4
end
section
variable {s:Nat}{F:FT}
def A0(ht:t∈perms s)(hi:i<=s):t.take i=bj i↔hU (pg s) t i:=by
 have hl:=aK ht
 constructor
 .intro h k hk
  have h1:=il ht (show k<s by lia)
  have e:(t.take i).getD k 0=(bj i).getD k 0:=by rw[h]
  rw[t_ hk,Xa,Zo,Xl hk,<-Xa,h1]at e
  lia
 .intro h
  apply Yj
  intro k
  rw[Zo]
  by_cases hk:k<i
  .rw[Xl hk]
   have h1:=il ht (show k<s by lia)
   have h2:=t_ hk
   rw[h k hk]at h1
   have la:k<t.length:=by lia
   have lb:k<(bj i).length :=by rw[aK (dZ i)];exact hk
   rw[Xa,WW la]at h1
   rw[Xa,WW lb]at h2
   rw[WW la,WW lb]
   have Qu:t[k]=(k:Int):=h1
   have HC:(bj i)[k]=(k:Int):=h2
   rw[Qu,HC]
  .rw[Xs hk,Xr (by rw[aK (dZ i)];lia)]
noncomputable def cx(s i p:Nat)(t:List Int):Bool:=decide (t.take i=bj i)&&decide ((pg s).im t i=p)
def kc(ht:t∈perms s)(hi:i<=s):cx s i p t=true↔hU (pg s) t i/\(pg s).im t i=p:=by
 unfold cx
 rw[WX,decide_eq_true_eq,decide_eq_true_eq,A0 ht hi]
def A1{M:List Int->Prop}(hM:cW (pg s) M){Ts:List (List Int)}(hT:∀t,t∈Ts↔M t){i p:Nat}(hi:i<s){a:List Int}{r:List (List Int)}(h:Ts.filter (cx s i p)=a::r):fC (pg s) M i p (b6.gW a r):=by
 have mem:∀x,x∈a::r↔M x/\hU (pg s) x i/\(pg s).im x i=p:=λx=>by
  rw[<-h,X5,hT]
  constructor
  .rintro⟨h1,h2⟩
   exact⟨h1,(kc (hM.s x h1) (by lia)).mp h2⟩
  .rintro⟨h1,h2⟩
   exact⟨h1,(kc (hM.s x h1) (by lia)).mpr h2⟩
 refine cN ((mem _).mp (b6.rj r a)) λm1 m2 m3=>⟨m1,m2,m3,λt h1 h2 h3=>?_⟩
 have yE:=b6.uR r a t ((mem t).mpr ⟨h1,h2,h3⟩)
 cases e:b6.bF (b6.gW a r) t with
 |true=>exact .inr ((DU (hM.s _ m1) (hM.s t h1)).mpr e)
 |false=>exact .inl (b6.jP _ _ e yE)
def D8{M:List Int->Prop}(hM:cW (pg s) M){Ts:List (List Int)}(hT:∀t,t∈Ts↔M t){i p:Nat}(hi:i<s)(h:Ts.filter (cx s i p)=[]):¬ ∃x,fC (pg s) M i p x:=λzz=>by
 obtain⟨x,b⟩:=zz
 have:x∈Ts.filter (cx s i p):=X5.mpr ⟨(hT x).mpr b.1,(kc (hM.s x b.1) (by lia)).mpr ⟨b.2.1,b.2.2.1⟩⟩
 rw[h]at this
 cases this
noncomputable abbrev A2:E:=(.comp [3,5] 0 (.it (.var 0)) (.cons (.ql true (.cons (.cmp .Eq (.sl (.var 0) .nil (.u 1)) (.iY .tuple (.u 1))) (.cons (.cmp .Eq (.idx (.var 0) (.var 1)) (.var 2)) .nil))) .nil) (.var 0))
noncomputable abbrev Fn:C:=(.seq (.bK 6 A2) (.seq (.ifs (.cmp .NotEq (.var 6) (.lst .nil)) (.seq (.app 4 (.tup (.w 5 (.cons (.prim .min (.u 6)) .nil)))) .skip) .skip) .skip))
noncomputable abbrev N4:C:=(.seq (.bK 4 (.lst .nil)) (.seq (.for [5] 0 (.eK (.u 1)) Fn) (.seq (.app 2 (.prim .tuple (.u 4))) .skip)))
noncomputable abbrev ZE(Ts:List (List Int))(s:Nat)(x2 x3:Option (Bool×D))(acc:List D)(x5 x6:Option (Bool×D)):Env:=[some (false,.lst (Ts.map tp)),some (false,.int s),x2,x3,some (true,.lst acc),x5,x6]
def D9(h6:s<=6){Ts:List (List Int)}(BN:∀t∈Ts,t∈perms s)(xw:Ts.length<=1000){i p:Nat}(hi:i<s){x2 x6:Option (Bool×D)}{acc:List D}:
  ev F false A2 (ZE Ts s x2 (some (false,.int i)) acc (some (false,.int p)) x6)=some (.lst ((Ts.filter (cx s i p)).map tp)):=by
 have et:bE=16777216:=rfl
 have hw:walk (fU F [3,5] (.cons (.ql true (.cons (.cmp .Eq (.sl (.var 0) .nil (.u 1)) (.iY .tuple (.u 1))) (.cons (.cmp .Eq (.idx (.var 0) (.var 1)) (.var 2)) .nil))) .nil) (.var 0) (ZE Ts s x2 (some (false,.int i)) acc (some (false,.int p)) x6)) (Ts.map tp)=some ((Ts.filter (cx s i p)).map tp):=by
  clear xw
  induction Ts with
  |nil=>rfl
  |cons t Ts ih=>
   have ht:=BN t W6
   have hl:=aK ht
   let ρ:Env:=[some (false,tp t),some (false,.int i),some (false,.int p)]
   have c1:ev F false (.cmp .Eq (.sl (.var 0) .nil (.u 1)) (.iY .tuple (.u 1))) ρ=some (.bl (decide (t.take i=bj i))):=by
    have e1:ev F true (.sl (.var 0) .nil (.u 1)) ρ=some (tp (t.take i)):=by
     show some (D.tup (sC (t.map .int) none (some (i:Int))))=_
     rw[rP _ _ (by rw[WZ];lia),<-aaY]
     rfl
    have e2:ev F true (.iY .tuple (.u 1)) ρ=some (tp (bj i)):=by
     show(dE [.int i]).bind (lO .tuple)=_
     rw[cF (by lia),dY]
     rfl
    rw[ng,e1,e2]
    show(cmp .Eq (tp (t.take i)) (tp (bj i))).map D.bl=_
    rw[MS]
    rfl
   have c2:ev F false (.cmp .Eq (.idx (.var 0) (.var 1)) (.var 2)) ρ=some (.bl (decide ((pg s).im t i=p))):=by
    have e1:ev F true (.idx (.var 0) (.var 1)) ρ=some (.int ((pg s).im t i:Nat)):=j8 ht hi
    rw[ng,e1]
    show some (D.bl ((((pg s).im t i:Nat):Int)==(p:Int)))=_
    rw[p_]
   have c3:fF F true (.cons (.ql true (.cons (.cmp .Eq (.sl (.var 0) .nil (.u 1)) (.iY .tuple (.u 1))) (.cons (.cmp .Eq (.idx (.var 0) (.var 1)) (.var 2)) .nil))) .nil) ρ=some (cx s i p t):=by
    have c4:fF F true (.cons (.cmp .Eq (.sl (.var 0) .nil (.u 1)) (.iY .tuple (.u 1))) (.cons (.cmp .Eq (.idx (.var 0) (.var 1)) (.var 2)) .nil)) ρ=some (cx s i p t):=by
     rw[fF,c1]
     show(if decide (t.take i=bj i)=true then fF F true (.cons (.cmp .Eq (.idx (.var 0) (.var 1)) (.var 2)) .nil) ρ else some (decide (t.take i=bj i)))=_
     rw[fF,c2]
     unfold cx
     cases decide (t.take i=bj i)<;>cases decide ((pg s).im t i=p)<;>rfl
    have c5:ev F false (.ql true (.cons (.cmp .Eq (.sl (.var 0) .nil (.u 1)) (.iY .tuple (.u 1))) (.cons (.cmp .Eq (.idx (.var 0) (.var 1)) (.var 2)) .nil))) ρ=some (.bl (cx s i p t)):=by
     rw[GA,c4]
     rfl
    rw[fF,c5]
    cases cx s i p t<;>rfl
   have GB:=ih λx hx=>BN x (W4 _ hx)
   have K1:fU F [3,5] (.cons (.ql true (.cons (.cmp .Eq (.sl (.var 0) .nil (.u 1)) (.iY .tuple (.u 1))) (.cons (.cmp .Eq (.idx (.var 0) (.var 1)) (.var 2)) .nil))) .nil) (.var 0) (ZE (t::Ts) s x2 (some (false,.int i)) acc (some (false,.int p)) x6) (tp t)=some (if cx s i p t then some (tp t) else none):=by
    show((fF F true _ ρ).bind λk=>if k then some (some (tp t)) else some none)=_
    rw[c3]
    cases cx s i p t<;>rfl
   have Tc:walk (fU F [3,5] (.cons (.ql true (.cons (.cmp .Eq (.sl (.var 0) .nil (.u 1)) (.iY .tuple (.u 1))) (.cons (.cmp .Eq (.idx (.var 0) (.var 1)) (.var 2)) .nil))) .nil) (.var 0) (ZE (t::Ts) s x2 (some (false,.int i)) acc (some (false,.int p)) x6)) (Ts.map tp)=some ((Ts.filter (cx s i p)).map tp):=GB
   rw[Xj,walk,K1,YS]
   cases cx s i p t with
   |true=>
    show(walk _ (Ts.map tp)).map (tp t:: ·)=_
    rw[Tc]
    rfl
   |false=>exact Tc
 have hv:ev F true (.var 0) (ZE Ts s x2 (some (false,.int i)) acc (some (false,.int p)) x6)=some (.lst (Ts.map tp)):=rfl
 rw[de hv rfl (by rw[WZ];lia),hw]
 rfl
open Classical in
theorem A3(h6:s<=6)(h1:1<=s){M:List Int->Prop}(hM:cW (pg s) M){Ts:List (List Int)}(hT:∀t,t∈Ts↔M t)(xw:Ts.length<=1000){i:Nat}(hi:i<s){x2:Option (Bool×D)}:∀{qs:List Nat}{acc:List D}{x5 x6:Option (Bool×D)},acc.length+qs.length<=10000->
  ∃y5 y6,aM (λx ρ=>(aE 0 x).bind λys=>(cz ρ [5] ys).bind λρ'=>ex F Fn ρ') (qs.map λ(k:Nat)=>D.int (k:Int)) (ZE Ts s x2 (some (false,.int i)) acc x5 x6)=some (.next (ZE Ts s x2 (some (false,.int i)) (acc++((qs.filter λp=>decide (∃x,fC (pg s) M i p x)).map λp=>pairD (p,cA (pg s) M i p))) y5 y6))
 |[],acc,x5,x6,_=>⟨x5,x6,by show some (jH.next _)=_;rw[List.filter_nil,ZS,XF]⟩
 |p::qs,acc,x5,x6,hn=>by
  rw[Xm]at hn
  have et:bE=16777216:=rfl
  have BN:∀t∈Ts,t∈perms s:=λt h=>hM.s t ((hT t).mp h)
  have hg:=D9 (F:=F) h6 BN xw (p:=p) hi (x2:=x2) (x6:=x6) (acc:=acc)
  have a1:ex F (.bK 6 A2) (ZE Ts s x2 (some (false,.int i)) acc (some (false,.int p)) x6)=some (.next (ZE Ts s x2 (some (false,.int i)) acc (some (false,.int p)) (some (true,.lst ((Ts.filter (cx s i p)).map tp))))):=by
   rw[nh,hg]
   rfl
  have a2:ev F false (.cmp .NotEq (.var 6) (.lst .nil)) (ZE Ts s x2 (some (false,.int i)) acc (some (false,.int p)) (some (true,.lst ((Ts.filter (cx s i p)).map tp))))=some (.bl (!(Ts.filter (cx s i p)).isEmpty)):=by
   have h1:∀W:List (List Int),cmp .NotEq (.lst (W.map tp)) (.lst [])=some (!W.isEmpty):=λW=>by
    show(if(cL (.lst (W.map tp)) 60&&cL (.lst []) 60)=true then some (!fT (.lst (W.map tp)) (.lst [])) else none)=_
    have e1:cL (.lst (W.map tp)) 60=true:=ed 58 W
    rw[e1]
    cases W<;>rfl
   show(cmp .NotEq (.lst ((Ts.filter (cx s i p)).map tp)) (.lst [])).map D.bl=_
   rw[h1]
   rfl
  cases hf:Ts.filter (cx s i p)with
  |nil=>
   rw[hf]at a1 a2
   refine Bu (A3 h6 h1 hM hT xw hi (x2:=x2) (qs:=qs) (acc:=acc) (x5:=some (false,.int p)) (x6:=some (true,.lst [])) (by lia)) λy5 y6 ih=>⟨y5,y6,?_⟩
   have hb:ex F Fn (put (ZE Ts s x2 (some (false,.int i)) acc x5 x6) 5 false (.int p))=some (.next (ZE Ts s x2 (some (false,.int i)) acc (some (false,.int p)) (some (true,.lst [])))):=by
    show ex F Fn (ZE Ts s x2 (some (false,.int i)) acc (some (false,.int p)) x6)=_
    rw[aV,a1]
    show ex F (.seq (.ifs (.cmp .NotEq (.var 6) (.lst .nil)) (.seq (.app 4 (.tup (.w 5 (.cons (.prim .min (.u 6)) .nil)))) .skip) .skip) .skip) (ZE Ts s x2 (some (false,.int i)) acc (some (false,.int p)) (some (true,.lst [])))=_
    rw[aV,fI]
    have Q4:ev F false (.cmp .NotEq (.var 6) (.lst .nil)) (ZE Ts s x2 (some (false,.int i)) acc (some (false,.int p)) (some (true,.lst [])))=some (.bl false):=a2
    rw[Q4]
    rfl
   rw[Xj,oM hb,ih,YS,Xs (by rw[decide_eq_true_eq];exact D8 hM hT hi hf)]
  |cons a r=>
   rw[hf]at a1 a2
   have r0:=A1 hM hT hi hf
   refine Bu (A3 h6 h1 hM hT xw hi (x2:=x2) (qs:=qs) (acc:=acc++[pairD (p,cA (pg s) M i p)]) (x5:=some (false,.int p)) (x6:=some (true,.lst ((a::r).map tp))) (by rw[W_,Xx];lia)) λy5 y6 ih=>⟨y5,y6,?_⟩
   have AB:ev F false (.prim .min (.u 6)) (ZE Ts s x2 (some (false,.int i)) acc (some (false,.int p)) (some (true,.lst ((a::r).map tp))))=some (tp (b6.gW a r)):=by
    show((eM ((a::r).map tp)).bind λks=>match ks with|[]=>none|a::r=>some (nc (b6.gW a r)))=_
    rw[ka λt ht=>uc h1 (BN t (X5.mp (show t∈Ts.filter (cx s i p) by rw[hf];exact ht)).1)]
    rfl
   have Q5:ev F false (.tup (.w 5 (.cons (.prim .min (.u 6)) .nil))) (ZE Ts s x2 (some (false,.int i)) acc (some (false,.int p)) (some (true,.lst ((a::r).map tp))))=some (pairD (p,cA (pg s) M i p)):=by
    have:=bC (b:=false) (F:=F) (ρ:=ZE Ts s x2 (some (false,.int i)) acc (some (false,.int p)) (some (true,.lst ((a::r).map tp)))) (a:= .var 5) (x:= .int p) rfl AB
    rw[qL,this,fE r0]
    rfl
   have Q6:ex F (.app 4 (.tup (.w 5 (.cons (.prim .min (.u 6)) .nil)))) (ZE Ts s x2 (some (false,.int i)) acc (some (false,.int p)) (some (true,.lst ((a::r).map tp))))=some (.next (ZE Ts s x2 (some (false,.int i)) (acc++[pairD (p,cA (pg s) M i p)]) (some (false,.int p)) (some (true,.lst ((a::r).map tp))))):=by
    rw[gF Q5 (xs:=acc) rfl (by lia)]
    rfl
   have hb:ex F Fn (put (ZE Ts s x2 (some (false,.int i)) acc x5 x6) 5 false (.int p))=some (.next (ZE Ts s x2 (some (false,.int i)) (acc++[pairD (p,cA (pg s) M i p)]) (some (false,.int p)) (some (true,.lst ((a::r).map tp))))):=by
    show ex F Fn (ZE Ts s x2 (some (false,.int i)) acc (some (false,.int p)) x6)=_
    rw[aV,a1]
    show ex F (.seq (.ifs (.cmp .NotEq (.var 6) (.lst .nil)) (.seq (.app 4 (.tup (.w 5 (.cons (.prim .min (.u 6)) .nil)))) .skip) .skip) .skip) (ZE Ts s x2 (some (false,.int i)) acc (some (false,.int p)) (some (true,.lst ((a::r).map tp))))=_
    have Q4:ev F false (.cmp .NotEq (.var 6) (.lst .nil)) (ZE Ts s x2 (some (false,.int i)) acc (some (false,.int p)) (some (true,.lst ((a::r).map tp))))=some (.bl true):=a2
    rw[aV,fI,Q4]
    show((ex F (.seq (.app 4 (.tup (.w 5 (.cons (.prim .min (.u 6)) .nil)))) .skip) (ZE Ts s x2 (some (false,.int i)) acc (some (false,.int p)) (some (true,.lst ((a::r).map tp))))).bind _)=_
    rw[aV,Q6]
    rfl
   rw[Xj,oM hb,ih,YS,Xl (by rw[decide_eq_true_eq];exact⟨_,r0⟩),Xj,Xw]
   rfl
theorem A4(h6:s<=6)(h1:1<=s){M:List Int->Prop}(hM:cW (pg s) M){Ts:List (List Int)}(hT:∀t,t∈Ts↔M t)(xw:Ts.length<=1000):∀{is:List Nat}{acc:List D}{x3 x4 x5 x6:Option (Bool×D)},(∀i∈is,i<s)->acc.length+is.length<=1000->
  ∃y3 y4 y5 y6,aM (λx ρ=>(aE 0 x).bind λys=>(cz ρ [3] ys).bind λρ'=>ex F N4 ρ') (is.map λ(k:Nat)=>D.int (k:Int)) [some (false,.lst (Ts.map tp)),some (false,.int s),some (true,.lst acc),x3,x4,x5,x6]=
   some (.next [some (false,.lst (Ts.map tp)),some (false,.int s),some (true,.lst (acc++is.map λi=>az (bh (pg s) M i))),y3,y4,y5,y6])
 |[],acc,x3,x4,x5,x6,_,_=>⟨x3,x4,x5,x6,by show some (jH.next _)=_;rw[ZS,XF]⟩
 |i::is,acc,x3,x4,x5,x6,Td,hn=>by
  rw[Xm]at hn
  have et:bE=16777216:=rfl
  have hi:=Td i W6
  refine Bu (A3 h6 h1 hM hT xw hi (F:=F) (x2:=some (true,.lst acc)) (qs:=List.range s) (acc:=[]) (x5:=x5) (x6:=x6) (by rw[YC,Zv];lia)) λz5 z6 i1=>?_
  have er:((List.range s).filter λp=>@decide (∃x,fC (pg s) M i p x) (Classical.propDecidable _)).map (λp=>pairD (p,cA (pg s) M i p))=(bh (pg s) M i).map pairD:=by
   unfold bh
   rw[Xz]
   rfl
  rw[Yt,er]at i1
  refine Nh (A4 h6 h1 hM hT xw (is:=is) (acc:=acc++[az (bh (pg s) M i)]) (x3:=some (false,.int i)) (x4:=some (true,.lst ((bh (pg s) M i).map pairD))) (x5:=z5) (x6:=z6) (λj hj=>Td j (W4 _ hj)) (by rw[W_,Xx];lia)) λy3 y4 y5 y6 ih=>⟨y3,y4,y5,y6,?_⟩
  have a2:ex F (.for [5] 0 (.eK (.u 1)) Fn) (ZE Ts s (some (true,.lst acc)) (some (false,.int i)) [] x5 x6)=some (.next (ZE Ts s (some (true,.lst acc)) (some (false,.int i)) ((bh (pg s) M i).map pairD) z5 z6)):=by
   have hr:(cD F false (.u 1) (ZE Ts s (some (true,.lst acc)) (some (false,.int i)) [] x5 x6)).bind dE=some (bH 0 s):=cF (by lia)
   rw[vB hr,d_]
   exact i1
  have a3:ex F (.app 2 (.prim .tuple (.u 4))) (ZE Ts s (some (true,.lst acc)) (some (false,.int i)) ((bh (pg s) M i).map pairD) z5 z6)=some (.next (ZE Ts s (some (true,.lst (acc++[az (bh (pg s) M i)]))) (some (false,.int i)) ((bh (pg s) M i).map pairD) z5 z6)):=by
   rw[gF (d:=az (bh (pg s) M i)) (xs:=acc) rfl rfl (by lia)]
   rfl
  have hb:ex F N4 (put [some (false,.lst (Ts.map tp)),some (false,.int s),some (true,.lst acc),x3,x4,x5,x6] 3 false (.int i))=some (.next (ZE Ts s (some (true,.lst (acc++[az (bh (pg s) M i)]))) (some (false,.int i)) ((bh (pg s) M i).map pairD) z5 z6)):=by
   show ex F (.seq (.for [5] 0 (.eK (.u 1)) Fn) (.seq (.app 2 (.prim .tuple (.u 4))) .skip)) (ZE Ts s (some (true,.lst acc)) (some (false,.int i)) [] x5 x6)=_
   rw[aV,a2]
   show ex F (.seq (.app 2 (.prim .tuple (.u 4))) .skip) (ZE Ts s (some (true,.lst acc)) (some (false,.int i)) ((bh (pg s) M i).map pairD) z5 z6)=_
   rw[aV,a3]
   rfl
  rw[Xj,oM hb,Xj,show acc++az (bh (pg s) M i)::is.map (λi=>az (bh (pg s) M i))=(acc++[az (bh (pg s) M i)])++is.map (λi=>az (bh (pg s) M i)) by rw[Xw];rfl]
  exact ih
def ud(h6:s<=6)(h1:1<=s){M:List Int->Prop}(hM:cW (pg s) M){Ts:List (List Int)}(hT:∀t,t∈Ts↔M t)(xw:Ts.length<=1000):
  out (ex F IS.body (ae IS [.lst (Ts.map tp),.int s]))=some (ao (aJ (pg s) M 0)):=by
 refine Nh (A4 h6 h1 hM hT xw (F:=F) (is:=List.range s) (acc:=[]) (x3:=none) (x4:=none) (x5:=none) (x6:=none) (λi h=>XH.mp h) (by rw[YC,Zv];lia)) λy3 y4 y5 y6 i1=>?_
 rw[Yt]at i1
 have a1:ex F (.for [3] 0 (.eK (.u 1)) N4) [some (false,.lst (Ts.map tp)),some (false,.int s),some (true,.lst []),none,none,none,none]=some (.next [some (false,.lst (Ts.map tp)),some (false,.int s),some (true,.lst ((List.range s).map λi=>az (bh (pg s) M i))),y3,y4,y5,y6]):=by
  have hr:(cD F false (.u 1) [some (false,.lst (Ts.map tp)),some (false,.int s),some (true,.lst []),none,none,none,none]).bind dE=some (bH 0 s):=cF (by lia)
  rw[vB hr,d_]
  exact i1
 have hx:ex F IS.body (ae IS [.lst (Ts.map tp),.int s])=(ex F (.for [3] 0 (.eK (.u 1)) N4) [some (false,.lst (Ts.map tp)),some (false,.int s),some (true,.lst []),none,none,none,none]).bind λo=>match o with
   | .next ρ'=>ex F (.seq (.ret (.prim .tuple (.u 2))) .skip) ρ'
   |o=>some o:=rfl
 rw[hx,a1]
 show some (D.tup ((List.range s).map λi=>az (bh (pg s) M i)))=_
 unfold ao aJ
 rw[Xz,Za]
 rfl
end
end cq
namespace iK
section
variable {α:Type}{Y:Pg α}
noncomputable def mN(Y:Pg α):List (Rg α)->Nat->α->Bool
 |[],_,_=>true
 |R::l,i,t=>match dG R (Y.im t i)with
  |some u=>mN Y l (i+1) (Y.mul t (Y.inv u))
  |none=>false
theorem sf(L:gf Y):∀{l:List (Rg α)}{i:Nat}{t:α},VL Y l i->Y.S t->hU Y t i->(mN Y l i t=true↔H Y l t)
 |[],i,t,hv,hs,hf=>by
  have IH:i=Y.n:=hv
  exact⟨λ_=>L.ext hs L.s1 λk hk=>by rw[hf k (by lia),L.bN hk],λ_=>rfl⟩
 |R::l,i,t,hv,hs,hf=>by
  refine cN hv λhV hi hl=>?_
  have at':∀p u w,(p,u)∈R->H Y l w->t=Y.mul w u->p=Y.im t i:=λp u w hu hw e=>by
   obtain⟨s1,f1⟩:=H.good L hl hw
   refine cN (hV.st p u hu) λs2 f2 f3=>?_
   rw[e,L.aX s1 s2 hi,f1 i (by lia),f3]
  unfold mN
  cases e:dG R (Y.im t i)with
  |none=>
   refine⟨λz=>absurd z W2,λh=>cS h λp u w hu hw ew=>?_⟩
   exact absurd (Xd.mpr ⟨_,hu,at' p u w hu hw ew⟩) (gP e)
  |some u=>
   have hu:=cn e
   refine cN (hV.st _ u hu) λs2 f2 f3=>?_
   have back:∀k,k<Y.n->Y.im (Y.inv u) (Y.im u k)=k:=λk hk=>by rw[<-L.aX s2 (L.si s2) hk,L.df s2,L.bN hk]
   have NK:hU Y (Y.mul t (Y.inv u)) (i+1):=λk hk=>by
    rw[L.aX hs (L.si s2) (by lia)]
    rcases X0 k i with z|z
    .rw[hf k z]
     have:=back k (by lia)
     rwa [f2 k z]at this
    .have:k=i:=by lia
     subst this
     rw[<-f3]
     exact back k hi
   have ih:=sf L hl (L.sm hs (L.si s2)) NK
   refine Iff.trans ih ⟨λh=>⟨_,u,_,hu,h,?_⟩,λh=>cS h λp u' w Dk hw ew=>?_⟩
   .rw[L.assoc hs (L.si s2) s2,L.inv_mul s2,L.mul_one hs]
   .have hp:=at' p u' w Dk hw ew
    subst hp
    have V4:u'=u:=gO hV.nd Dk hu
    subst V4
    rw[ew,L.assoc (H.good L hl hw).1 s2 (L.si s2),L.df s2,L.mul_one (H.good L hl hw).1]
    exact hw
end
end iK
namespace cq
open Py iK
section
variable {s:Nat}{F:FT}{M N:List Int->Prop}{G:List (List Int)}
def aY(h:ex F a ρ=some (.next ρ')):ex F (.seq a b) ρ=ex F b ρ':=by
 rw[aV,h]
 rfl
noncomputable def nH(l:List (Rg (List Int))):List (List Int):=l.flatMap λR=>R.map (·.2)
noncomputable abbrev JJ:E:= .comp [] 0 (.it (.var 2)) .nil (.idx (.var 0) (.c (.int 1)))
theorem vO:∀{l:List (Rg (List Int))}{acc:List (List Int)}{x2:Option (Bool×D)},acc.length+(nH l).length <=10000->
  ∃y2,aM (λx ρ=>(aE 0 x).bind λys=>(cz ρ [2] ys).bind λρ'=>ex F (.seq (.ext 1 JJ) .skip) ρ') (l.map az) [x0,some (true,.lst (acc.map tp)),x2]=some (.next [x0,some (true,.lst ((acc++nH l).map tp)),y2])
 |[],acc,x2,_=>⟨x2,by show some (jH.next _)=_;rw[show nH []=[] from rfl,XF]⟩
 |R::l,acc,x2,h=>by
  have e0:nH (R::l)=R.map (·.2)++nH l:=rfl
  rw[e0,W_,WZ]at h
  have et:bE=16777216:=rfl
  obtain⟨y2,ih⟩:=vO (l:=l) (acc:=acc++R.map (·.2)) (x0:=x0) (x2:=some (false,az R)) (by rw[W_,WZ];lia)
  refine⟨y2,?_⟩
  have hc:ev F false JJ [x0,some (true,.lst (acc.map tp)),some (false,az R)]=some (.lst ((R.map (·.2)).map tp)):=by
   rw[de (d:=az R) rfl (xs:=R.map pairD) rfl (by rw[WZ];lia),bT pairD (λe=>tp e.2) _ R (λe _=>rfl),Xz]
   rfl
  have hb:ex F (.seq (.ext 1 JJ) .skip) (put [x0,some (true,.lst (acc.map tp)),x2] 2 false (az R))=some (.next [x0,some (true,.lst ((acc++R.map (·.2)).map tp)),some (false,az R)]):=by
   show ex F (.seq (.ext 1 JJ) .skip) [x0,some (true,.lst (acc.map tp)),some (false,az R)]=_
   rw[aV,KY,hc]
   show((if(acc.map tp).length+((R.map (·.2)).map tp).length <=bE then _ else none).bind _)=_
   rw[Xl (by simp only[WZ];lia),<-Xy]
   rfl
  rw[Xj,oM hb,ih,e0,Xw]
def xy(h:(nH l).length <=10000):out (ex F MY.body (ae MY [ao l]))=some (.tup ((nH l).map tp)):=by
 obtain⟨y2,h1⟩:=vO (F:=F) (x0:=some (false,ao l)) (l:=l) (acc:=[]) (x2:=none) (by rw[YC];lia)
 have hf:ex F (.for [2] 0 (.it (.var 0)) (.seq (.ext 1 JJ) .skip)) [some (false,ao l),some (true,.lst []),none]=some (.next [some (false,ao l),some (true,.lst ((nH l).map tp)),y2]):=h1
 show out (ex F (.seq (.for [2] 0 (.it (.var 0)) (.seq (.ext 1 JJ) .skip)) _) [some (false,ao l),some (true,.lst []),none])=_
 rw[aY hf]
 rfl
theorem qd(h g:α->D)(c:α->Bool)(f:D->Option (Option D)):∀xs:List α,(∀x∈xs,f (h x)=some (if c x then some (g x) else none))->walk f (xs.map h)=some ((xs.filter c).map g)
 |[],_=>rfl
 |x::xs,H=>by
  rw[Xj,walk,H x W6,YS]
  have ih:=qd h g c f xs λy hy=>H y (W4 _ hy)
  cases c x with
  |true=>show(walk f (xs.map h)).map (g x:: ·)=_;rw[ih];rfl
  |false=>exact ih
def eO(h1:ev F true a ρ=some x)(h2:ev F true c ρ=some y)(h3:cmp o x y=some k):ev F b (.cmp o a c) ρ=some (.bl k):=by
 rw[ng,h1,h2]
 show(cmp o x y).map D.bl=_
 rw[h3]
 rfl
theorem vP(k:Nat):∀R:Rg (List Int),((R.map λe=>D.int (e.1:Int)).any λz=>fT z (.int k))=(dG R k).isSome
 |[]=>rfl
 |e::R=>by
  rw[Xj,Y6,vP k R]
  show(((e.1:Int)==(k:Int))||_)=_
  rw[p_]
  unfold dG
  rw[YE]
  by_cases h:e.1=k
  .rw[decide_eq_true h,show(e.1==k)=true by simp[h]];rfl
  .rw[decide_eq_false h,show(e.1==k)=false by simp[h]];rfl
noncomputable abbrev JK:C:=(.seq (.bK 6 (.comp [] 0 (.it (.var 5)) .nil (.idx (.var 0) (.c (.int 0))))) (.seq (.ifs (.cmp .NotIn (.idx (.var 3) (.var 4)) (.var 6)) (.seq (.ret (.c .cy)) .skip) .skip) (.seq (.asg 7 (.dg .jG (.var 6) (.cons (.idx (.var 3) (.var 4)) .nil))) (.seq (.asg 2 (.bin .Add (.bin .Mult (.var 2) (.prim .len (.u 5))) (.var 7))) (.seq (.asg 3 (.call 1 (.w 3 (.cons (.call 2 (.cons (.idx (.idx (.var 5) (.var 7)) (.c (.int 1))) .nil)) .nil)))) .skip)))))
noncomputable abbrev NE(x0 x1:Option (Bool×D))(c:Int)(t:List Int)(x4 x5 x6 x7:Option (Bool×D)):Env:=[x0,x1,some (false,.int c),some (false,tp t),x4,x5,x6,x7]
def D_(h6:s<=6)(ht:∀p∈perms s,∀q∈perms s,F 1 [tp p,tp q]=some (tp (comp p q)))(hb:∀p∈perms s,F 2 [tp p]=some (tp (ip p))){x0 x1 x6 x7:Option (Bool×D)}{c:Int}{t:List Int}{i:Nat}{R:Rg (List Int)}(hi:i<s)(hv:V (pg s) i R)(hp:t∈perms s):
  (dG R ((pg s).im t i)=none->ex F JK (NE x0 x1 c t (some (false,.int i)) (some (false,az R)) x6 x7)=some (.ret .cy))/\
  ∀u,dG R ((pg s).im t i)=some u->∃c' y6 y7,ex F JK (NE x0 x1 c t (some (false,.int i)) (some (false,az R)) x6 x7)=some (.next (NE x0 x1 c' (comp t (ip u)) (some (false,.int i)) (some (false,az R)) y6 y7)):=by
 have et:bE=16777216:=rfl
 have QX:R.length<=s:=mJ hi hv
 let P:List D:=R.map λe=>D.int (e.1:Int)
 let Bt:Env:=NE x0 x1 c t (some (false,.int i)) (some (false,az R)) (some (true,.lst P)) x7
 have hP:P=(R.map λe=>(e.1:Int)).map D.int:=by rw[Xz];rfl
 have a6:ex F (.bK 6 (.comp [] 0 (.it (.var 5)) .nil (.idx (.var 0) (.c (.int 0))))) (NE x0 x1 c t (some (false,.int i)) (some (false,az R)) x6 x7)=some (.next Bt):=by
  rw[nh,de (d:=az R) (xs:=R.map pairD) rfl rfl (by rw[WZ];lia),bT pairD (λe=>D.int (e.1:Int)) _ R λe _=>rfl]
  rfl
 have ua:∀b,ev F b (.idx (.var 3) (.var 4)) Bt=some (.int ((pg s).im t i:Nat)):=λb=>j8 hp hi
 have Ea:ev F false (.cmp .NotIn (.idx (.var 3) (.var 4)) (.var 6)) Bt=some (.bl (!(dG R ((pg s).im t i)).isSome)):=by
  refine eO (ua true) (c:= .var 6) (y:= .lst P) rfl ?_
  show(if(true&&fX P 59)=true then some (!P.any λz=>fT z (.int ((pg s).im t i:Nat))) else none)=_
  rw[vP,hP,jF]
  rfl
 constructor
 .intro e
  rw[e]at Ea
  rw[aV,a6]
  show ex F (.seq (.ifs _ _ _) _) Bt=_
  rw[aV,fI,Ea]
  rfl
 .intro u e
  rw[e]at Ea
  have hk:((pg s).im t i:Int)∈R.map λe=>(e.1:Int):=Xd.mpr ⟨_,cn e,rfl⟩
  obtain⟨j,hj⟩:=mB hk
  have hg:=jv hj
  rw[Xb]at hg
  refine aa (YV.mp hg) λe' Te R8=>?_
  have hu:e'.2=u:=gO hv.nd (p:=(pg s).im t i) (by
   have:e'.1=(pg s).im t i:=by lia
   rw[<-this];exact XU Te) (cn e)
  have Tf:u∈perms s:=(hv.st _ _ (cn e)).1
  let A5:Env:=NE x0 x1 c t (some (false,.int i)) (some (false,az R)) (some (true,.lst P)) (some (false,.int (j:Nat)))
  let Eb:Env:=NE x0 x1 (c*R.length+j) t (some (false,.int i)) (some (false,az R)) (some (true,.lst P)) (some (false,.int (j:Nat)))
  have a7:ev F false (.dg .jG (.var 6) (.cons (.idx (.var 3) (.var 4)) .nil)) Bt=some (.int (j:Nat)):=by
   rw[Pa,dz (ua true)]
   show(aU P).bind (λns=>(cC ((pg s).im t i:Nat) ns).map λ(i:Nat)=>D.int (i:Int))=_
   rw[hP,c8,Yc,hj]
   rfl
  have a8:ev F false (.bin .Add (.bin .Mult (.var 2) (.prim .len (.u 5))) (.var 7)) A5=some (.int (c*R.length+j)):=by
   have m1:ev F true (.bin .Mult (.var 2) (.prim .len (.u 5))) A5=some (.int (c*R.length)):=by
    rw[gG (a:= .var 2) (x:= .int c) (c:= .prim .len (.u 5)) (y:= .int ((R.map pairD).length :Nat)) rfl rfl,WZ]
    exact Xl (jt c (by lia) (by lia))
   exact gG m1 (c:= .var 7) (y:= .int (j:Nat)) rfl
  have g1:ev F true (.idx (.var 5) (.var 7)) Eb=some (pairD e'):=rY (by rw[Xb,Te];rfl)
  have g2:ev F true (.idx (.idx (.var 5) (.var 7)) (.c (.int 1))) Eb=some (tp u):=by
   rw[qM,g1]
   show some (tp e'.2)=_
   rw[hu]
  have a9:ev F false (.call 1 (.w 3 (.cons (.call 2 (.cons (.idx (.idx (.var 5) (.var 7)) (.c (.int 1))) .nil)) .nil))) Eb=some (tp (comp t (ip u))):=
   aD (bC (x:=tp t) rfl (aD (dz g2) (hb u Tf) (ax _))) (ht t hp _ (fQ Tf)) (ax _)
  refine⟨c*R.length+j,some (true,.lst P),some (false,.int (j:Nat)),?_⟩
  rw[aV,a6]
  show ex F (.seq (.ifs _ _ _) _) Bt=_
  rw[aV,fI,Ea]
  show ex F (.seq (.asg 7 _) _) Bt=_
  rw[aV,aN a7]
  show ex F (.seq (.asg 2 _) _) A5=_
  rw[aV,aN a8]
  show ex F (.seq (.asg 3 _) _) Eb=_
  rw[aV,aN a9]
  rfl
theorem vQ(h6:s<=6)(ht:∀p∈perms s,∀q∈perms s,F 1 [tp p,tp q]=some (tp (comp p q)))(hb:∀p∈perms s,F 2 [tp p]=some (tp (ip p))){x0 x1:Option (Bool×D)}:∀{l:List (Rg (List Int))}{i:Nat}{c:Int}{t:List Int}{x4 x5 x6 x7:Option (Bool×D)},VL (pg s) l i->t∈perms s->
  ∃o,aM (λx ρ=>(aE 2 x).bind λys=>(cz ρ [4,5] ys).bind λρ'=>ex F JK ρ') (aS i (l.map az)) (NE x0 x1 c t x4 x5 x6 x7)=some o/\if mN (pg s) l i t then∃c' t' y4 y5 y6 y7,o= .next (NE x0 x1 c' t' y4 y5 y6 y7) else o= .ret .cy
 |[],i,c,t,x4,x5,x6,x7,_,_=>⟨_,rfl,c,t,x4,x5,x6,x7,rfl⟩
 |R::l,i,c,t,x4,x5,x6,x7,hv,hp=>by
  have hi:i<s:=hv.2.1
  obtain⟨t1,t2⟩:=D_ (x0:=x0) (x1:=x1) (x6:=x6) (x7:=x7) (c:=c) h6 ht hb hi hv.1 hp
  show∃o,aM _ (.tup [.int i,az R]::aS ((i:Int)+1) (l.map az)) _=some o/\_
  rw[aM]
  show∃o,(ex F JK (NE x0 x1 c t (some (false,.int i)) (some (false,az R)) x6 x7)).bind _=some o/\_
  unfold mN
  cases e:dG R ((pg s).im t i)with
  |none=>rw[t1 e];exact⟨_,rfl,rfl⟩
  |some u=>
   have hu:u∈perms s:=(hv.1.st _ _ (cn e)).1
   refine JN (t2 u e) λc' y6 y7 e2=>?_
   rw[e2]
   have:=vQ h6 ht hb (x0:=x0) (x1:=x1) (l:=l) (i:=i+1) (c:=c') (t:=comp t (ip u)) (x4:=some (false,.int i)) (x5:=some (false,az R)) (x6:=y6) (x7:=y7) hv.2.2 (fB hp (fQ hu))
   rw[show(((i+1:Nat):Int))=(i:Int)+1 by lia]at this
   exact this
def xA(h6:s<=6)(ht:∀p∈perms s,∀q∈perms s,F 1 [tp p,tp q]=some (tp (comp p q)))(hb:∀p∈perms s,F 2 [tp p]=some (tp (ip p))){l:List (Rg (List Int))}{t:List Int}(hv:VL (pg s) l 0)(hp:t∈perms s):
  ∃d,out (ex F IL.body (ae IL [ao l,tp t]))=some d/\if mN (pg s) l 0 t then∃c,d= .int c else d= .cy :=by
 refine aa (vQ h6 ht hb (x0:=some (false,ao l)) (x1:=some (false,tp t)) (c:=0) (x4:=none) (x5:=none) (x6:=none) (x7:=none) hv hp) λo h1 h2=>?_
 have hx:ex F IL.body (ae IL [ao l,tp t])=(ex F (.for [4,5] 2 (.sv (.var 0)) JK) (NE (some (false,ao l)) (some (false,tp t)) 0 t none none none none)).bind λo=>match o with
   | .next ρ'=>ex F (.seq (.ret (.var 2)) .skip) ρ'
   |o=>some o:=rfl
 have hf:ex F (.for [4,5] 2 (.sv (.var 0)) JK) (NE (some (false,ao l)) (some (false,tp t)) 0 t none none none none)=some o:=h1
 rw[hx,hf]
 cases hh:mN (pg s) l 0 t with
 |true=>
  rw[hh]at h2
  obtain⟨c',t',y4,y5,y6,y7,rfl⟩:=h2
  exact⟨_,rfl,c',rfl⟩
 |false=>
  rw[hh]at h2
  have HC:o= .ret .cy :=h2
  subst HC
  exact⟨_,rfl,rfl⟩
def I8{l:List (Rg (List Int))}{t:List Int}(hn:∃d,F 12 [ao l,tp t]=some d/\if mN (pg s) l 0 t then∃c,d= .int c else d= .cy):
  out (ex F MZ.body (ae MZ [ao l,tp t]))=some (.bl (mN (pg s) l 0 t)):=by
 refine aa hn λd e h=>?_
 cases hh:mN (pg s) l 0 t with
 |true=>
  rw[hh]at h
  obtain⟨c,rfl⟩:=h
  exact cb (eO (c:= .c .cy) (y:= .cy) (aD (bC rfl rfl) e rfl) rfl rfl)
 |false=>
  rw[hh]at h
  have h':d= .cy :=h
  subst h'
  exact cb (eO (c:= .c .cy) (y:= .cy) (aD (bC rfl rfl) e rfl) rfl rfl)
def vS:u∈nH l↔St l u:=by
 unfold nH
 rw[Yd]
 constructor
 .rintro⟨R,hR,h⟩
  obtain⟨e,he,rfl⟩:=Xd.mp h
  exact⟨R,hR,e.1,he⟩
 .rintro⟨R,hR,p,h⟩
  exact⟨R,hR,Xd.mpr ⟨_,h,rfl⟩⟩
def vT(h:u∈nH (aJ (pg s) M 0)):M u:=by
 obtain⟨R,hR,p,hp⟩:=vS.mp h
 obtain⟨i,_,rfl⟩:=Xd.mp hR
 exact(mI p u hp).1
def kf(hM:cW (pg s) M)(hG:∀u∈G,M u)(h:Gen (pg s) (· ∈G) t):M t:=by
 induction h with
 |one=>exact hM.one
 |mul _ hu ih=>exact hM.mul _ _ ih (hG _ hu)
def qf(hM:cW (pg s) M)(hl:DS (pg s) M (aJ (pg s) M 0) 0):Gen (pg s) (· ∈nH (aJ (pg s) M 0)) t↔M t:=by
 refine⟨kf hM λu=>vT,λh=>?_⟩
 have hm:=hl.hm aw hM
 exact(H.gen aw hm.1 ((hm.2 t).mpr ⟨h,λk hk=>by lia⟩)).mono λu hu=>vS.mpr hu
def Ec(hM:cW (pg s) M)(hT:∀t,t∈G↔M t):Gen (pg s) (· ∈G)=M:=by
 funext t
 refine propext ⟨kf hM λu h=>(hT u).mp h,λh=>Gen.of aw (hM.s t h) ((hT t).mpr h)⟩
def gR{P:α->Prop}{a b:List α}(ha:∀u∈a,P u)(hb:∀u∈b,P u):∀u∈a++b,P u:=λu h=>(Xk.mp h).elim (ha u) (hb u)
def sh(h6:s<=6){a b ps qs:List (List Int)}(hA:∀u∈a,u∈perms s)(hB:∀u∈b,u∈perms s)(hp:∀u∈ps,u∈perms s)(hq:∀u∈qs,u∈perms s)(ha:∀t,Gen (pg s) (· ∈a) t->Gen (pg s) (· ∈ps) t)(hb:∀t,Gen (pg s) (· ∈b) t->Gen (pg s) (· ∈qs) t)
  (h:Gen (pg s) (· ∈a++b) t):Gen (pg s) (· ∈ps++qs) t:=
 kf (fD h6 (gR hp hq)) (gR (λu h=>(ha u (Gen.of aw (hA u h) h)).mono λv hv=>Xp _ hv) λu h=>(hb u (Gen.of aw (hB u h) h)).mono λv hv=>Xi _ hv) h
def Ed(h6:s<=6){a b ps qs:List (List Int)}(hA:∀u∈a,u∈perms s)(hB:∀u∈b,u∈perms s)(hp:∀u∈ps,u∈perms s)(hq:∀u∈qs,u∈perms s)(ha:∀t,Gen (pg s) (· ∈a) t↔Gen (pg s) (· ∈ps) t)(hb:∀t,Gen (pg s) (· ∈b) t↔Gen (pg s) (· ∈qs) t):
  Gen (pg s) (· ∈a++b)=Gen (pg s) (· ∈ps++qs):=by
 funext t
 exact propext ⟨sh h6 hA hB hp hq (λt=>(ha t).mp) λt=>(hb t).mp,sh h6 hp hq hA hB (λt=>(ha t).mpr) λt=>(hb t).mpr⟩
noncomputable def Sh(M N:List Int->Prop)(t:List Int):Prop:=M t/\N t
def Ee(hM:cW (pg s) M)(hN:cW (pg s) N):cW (pg s) (Sh M N) where
 s:=λt h=>hM.s t h.1
 one:=⟨hM.one,hN.one⟩
 mul:=λa b ha hb=>⟨hM.mul a b ha.1 hb.1,hN.mul a b ha.2 hb.2⟩
 inv:=λa ha=>⟨hM.inv a ha.1,hN.inv a ha.2⟩
def Ef{A B:List (List Int)}(sA:A.Pairwise b6.EU)(nA:A.Nodup)(sB:B.Pairwise b6.EU)(nB:B.Nodup):A.filter (λt=>decide (t∈B))=B↔ ∀t∈B,t∈A:=by
 constructor
 .intro e t h
  rw[<-e]at h
  exact(X5.mp h).1
 .intro h
  have hp:(A.filter λt=>decide (t∈B)).Perm B:=(ZP (nA.sublist Zg) nB).mpr λt=>by
   rw[X5,decide_eq_true_eq]
   exact⟨λz=>z.2,λz=>⟨h t z,z⟩⟩
  rw[b6.jf hp (sA.sublist Zg)]
  exact(b6.jf (.refl _) sB).symm
noncomputable abbrev cj(g x:List Int):List Int:=comp (comp (ip g) x) g
noncomputable def Cj(M:List Int->Prop)(g t:List Int):Prop:=∃x,M x/\cj g x=t
def ue(hg:g∈perms s)(hx:x∈perms s)(hy:y∈perms s):cj g (comp x y)=comp (cj g x) (cj g y):=by
 have L:=aw (s:=s)
 have hi:ip g∈perms s:=L.si hg
 have h1:comp (ip g) x∈perms s:=L.sm hi hx
 have h2:comp (ip g) y∈perms s:=L.sm hi hy
 have a1:comp (comp (comp (ip g) x) g) (comp (comp (ip g) y) g)=comp (comp (ip g) x) (comp g (comp (comp (ip g) y) g)):=L.assoc h1 hg (L.sm h2 hg)
 have a2:comp (comp g (comp (ip g) y)) g=comp g (comp (comp (ip g) y) g):=L.assoc hg h2 hg
 have a3:comp (comp g (ip g)) y=comp g (comp (ip g) y):=L.assoc hg hi hy
 have a4:comp g (ip g)=bj s:=L.df hg
 have a5:comp (bj s) y=y:=L.one_mul hy
 have a6:comp (comp (comp (ip g) x) y) g=comp (comp (ip g) x) (comp y g):=L.assoc h1 hy hg
 have a7:comp (comp (ip g) x) y=comp (ip g) (comp x y):=L.assoc hi hx hy
 show comp (comp (ip g) (comp x y)) g=comp (comp (comp (ip g) x) g) (comp (comp (ip g) y) g)
 rw[a1,<-a2,<-a3,a4,a5,<-a6,a7]
def uf(hg:g∈perms s):cj g (bj s)=bj s:=by
 have L:=aw (s:=s)
 have a1:comp (ip g) (bj s)=ip g:=L.mul_one (L.si hg)
 show comp (comp (ip g) (bj s)) g=_
 rw[a1]
 exact L.inv_mul hg
def Eg(hg:g∈perms s)(hx:x∈perms s):cj g x∈perms s:=aw.sm (Y:=pg s) (aw.sm (Y:=pg s) (aw.si (Y:=pg s) hg) hx) hg
def I9(hg:g∈perms s)(hx:x∈perms s):cj g (ip x)=ip (cj g x):=by
 have L:=aw (s:=s)
 have hc:=Eg hg hx
 have hi:ip x∈perms s:=L.si hx
 have Tg:=Eg hg hi
 have e:comp (cj g x) (cj g (ip x))=bj s:=by
  rw[<-ue hg hx hi,show comp x (ip x)=bj s from L.df hx,uf hg]
 have a1:comp (comp (ip (cj g x)) (cj g x)) (cj g (ip x))=comp (ip (cj g x)) (comp (cj g x) (cj g (ip x))):=L.assoc (L.si hc) hc Tg
 rw[e,show comp (ip (cj g x)) (cj g x)=bj s from L.inv_mul hc,show comp (bj s) (cj g (ip x))=cj g (ip x) from L.one_mul Tg,show comp (ip (cj g x)) (bj s)=ip (cj g x) from L.mul_one (L.si hc)]at a1
 exact a1
def vU(hM:cW (pg s) M)(hg:g∈perms s):cW (pg s) (Cj M g) where
 s:=λt ⟨x,h,e⟩=>e▸Eg hg (hM.s x h)
 one:=⟨_,hM.one,uf hg⟩
 mul:=λa b ⟨x,h,e⟩ ⟨y,k,f⟩=>⟨_,hM.mul x y h k,by subst e f;exact ue hg (hM.s x h) (hM.s y k)⟩
 inv:=λa ⟨x,h,e⟩=>⟨_,hM.inv x h,by subst e;exact I9 hg (hM.s x h)⟩
def I_(hM:cW (pg s) M)(hg:g∈perms s)(hG:∀u∈G,M u)(h:∀t,M t->Gen (pg s) (· ∈G) t):Gen (pg s) (· ∈G.map (cj g))=Cj M g:=by
 funext t
 refine propext ⟨kf (vU hM hg) λu hu=>?_,λ⟨x,hx,e⟩=>e▸?_⟩
 .obtain⟨x,hx,rfl⟩:=Xd.mp hu
  exact⟨x,hG x hx,rfl⟩
 .have hy:=h x hx
  clear hx e
  induction hy with
  |one=>rw[show cj g (pg s).one =(pg s).one from uf hg];exact .one
  |mul ha hu ih=>
   rw[show cj g ((pg s).mul _ _)=(pg s).mul (cj g _) (cj g _) from ue hg (hM.s _ (kf hM hG ha)) (hM.s _ (hG _ hu))]
   exact .mul ih (Xd.mpr ⟨_,hu,rfl⟩)
end
section
variable {s:Nat}{F:FT}{l m:List (Rg (List Int))}
def ug(hl:l.length=s)(h:ρ[0]?=some (some (false,ao l))):ev F true (.prim .len (.u 0)) ρ=some (.int s):=by
 have hv:ev F true (.var 0) ρ=some (ao l):=by
  show rd true ρ 0=_
  unfold rd
  rw[h]
  rfl
 rw[gZ,dz hv]
 show some (D.int ((l.map az).length :Nat))=_
 rw[WZ,hl]
def sj{a b:List (List Int)}{r:D}(hl:l.length=s)(Th:a.length+b.length<=1000)(h1:F 10 [ao l]=some (.tup (a.map tp)))(h2:F 10 [ao m]=some (.tup (b.map tp)))(h8:F 8 [.tup ((a++b).map tp),.int s]=some r):
  out (ex F JG.body (ae JG [ao l,ao m]))=some r:=by
 have et:bE=16777216:=rfl
 have c:ev F true (.bin .Add (.call 10 (.u 0)) (.call 10 (.u 1))) (ae JG [ao l,ao m])=some (.tup ((a++b).map tp)):=by
  rw[gG (aG (dz rfl) h1 rfl) (aG (dz rfl) h2 rfl),Xy]
  exact Xl (by simp only[WZ];lia)
 exact cb (aG (bC c (ug hl rfl)) h8 rfl)
def xB{Ts:List (List Int)}{c:List Int->Bool}{r:D}(hl:l.length=s)(xw:Ts.length<=1000)(h9:F 9 [ao l]=some (.tup (Ts.map tp)))(Q7:∀t∈Ts,F 11 [ao m,tp t]=some (.bl (c t)))(h8:F 8 [.tup ((Ts.filter c).map tp),.int s]=some r):
  out (ex F Fi.body (ae Fi [ao l,ao m]))=some r:=by
 have et:bE=16777216:=rfl
 have c1:ev F true (.call 9 (.u 0)) (ae Fi [ao l,ao m])=some (.tup (Ts.map tp)):=aG (dz rfl) h9 rfl
 have c2:ev F true (.comp [1] 0 (.it (.call 9 (.u 0))) (.cons (.call 11 (.w 1 (.u 0))) .nil) (.var 0)) (ae Fi [ao l,ao m])=some (.lst ((Ts.filter c).map tp)):=by
  rw[de c1 rfl (by rw[WZ];lia),qd tp tp c _ _ λt h=>?_]
  .rfl
  .have:ev F false (.call 11 (.w 1 (.u 0))) [some (false,tp t),some (false,ao m)]=some (.bl (c t)):=aD (bC rfl rfl) (Q7 t h) rfl
   show((fF F true (.cons (.call 11 (.w 1 (.u 0))) .nil) [some (false,tp t),some (false,ao m)]).bind _)=_
   rw[fF,this]
   cases c t<;>rfl
 have c3:ev F true (.prim .tuple (.cons (.comp [1] 0 (.it (.call 9 (.u 0))) (.cons (.call 11 (.w 1 (.u 0))) .nil) (.var 0)) .nil)) (ae Fi [ao l,ao m])=some (.tup ((Ts.filter c).map tp)):=by
  rw[gZ,dz c2]
  rfl
 exact cb (aG (bC c3 (ug hl rfl)) h8 rfl)
def xC{a:List (List Int)}{c:List Int->Bool}(Th:a.length<=1000)(Mo:F 10 [ao l]=some (.tup (a.map tp)))(Q7:∀t∈a,F 11 [ao m,tp t]=some (.bl (c t))):
  out (ex F IM.body (ae IM [ao l,ao m]))=some (.bl (a.all c)):=by
 have et:bE=16777216:=rfl
 have hb:∀bs:List Bool,eF (bs.map .bl)=some bs:=λbs=>by
  induction bs with
  |nil=>rfl
  |cons b bs ih=>show(eF (bs.map .bl)).map (b:: ·)=_;rw[ih];rfl
 have c1:ev F true (.call 10 (.u 0)) (ae IM [ao l,ao m])=some (.tup (a.map tp)):=aG (dz rfl) Mo rfl
 have c2:ev F true (.comp [1] 0 (.it (.call 10 (.u 0))) .nil (.call 11 (.w 1 (.u 0)))) (ae IM [ao l,ao m])=some (.lst ((a.map c).map .bl)):=by
  rw[de c1 rfl (by rw[WZ];lia),Xz,bT tp (D.bl∘c) _ _ λt h=>?_]
  .rfl
  .have:ev F false (.call 11 (.w 1 (.u 0))) [some (false,tp t),some (false,ao m)]=some (.bl (c t)):=aD (bC rfl rfl) (Q7 t h) rfl
   show(ev F false (.call 11 (.w 1 (.u 0))) [some (false,tp t),some (false,ao m)]).map some=_
   rw[this]
   rfl
 refine cb ?_
 rw[gZ,dz c2]
 show(eF ((a.map c).map .bl)).map (λbs=>D.bl (bs.all id))=_
 rw[hb]
 show some (D.bl ((a.map c).all id))=_
 rw[List.all_map]
 rfl
def A6{g t:List Int}(ht:∀p∈perms s,∀q∈perms s,F 1 [tp p,tp q]=some (tp (comp p q)))(hb:∀p∈perms s,F 2 [tp p]=some (tp (ip p)))(hg:g∈perms s)(hp:t∈perms s):out (ex F IP.body (ae IP [tp t,tp g]))=some (tp (cj g t)):=by
 have hi:ip g∈perms s:=aw.si (Y:=pg s) hg
 have c1:ev F true (.call 2 (.u 1)) (ae IP [tp t,tp g])=some (tp (ip g)):=aD (dz rfl) (hb g hg) (ax _)
 have c2:ev F true (.call 1 (.cons (.call 2 (.u 1)) (.u 0))) (ae IP [tp t,tp g])=some (tp (comp (ip g) t)):=aD (bC c1 rfl) (ht _ hi t hp) (ax _)
 exact cb (aD (bC c2 rfl) (ht _ (aw.sm (Y:=pg s) hi hp) g hg) (ax _))
def A7{g:List Int}{a:List (List Int)}(Th:a.length<=1000)(Mo:F 10 [ao l]=some (.tup (a.map tp)))(V5:∀t∈a,F 16 [tp t,tp g]=some (tp (cj g t))):out (ex F IQ.body (ae IQ [ao l,tp g]))=some (.tup ((a.map (cj g)).map tp)):=by
 have et:bE=16777216:=rfl
 have c1:ev F true (.call 10 (.u 0)) (ae IQ [ao l,tp g])=some (.tup (a.map tp)):=aG (dz rfl) Mo rfl
 have c2:ev F true (.comp [1] 0 (.it (.call 10 (.u 0))) .nil (.call 16 (.w 0 (.u 1)))) (ae IQ [ao l,tp g])=some (.lst ((a.map (cj g)).map tp)):=by
  rw[de c1 rfl (by rw[WZ];lia),Xz,bT tp (tp∘cj g) _ _ λt h=>?_]
  .rfl
  .have:ev F false (.call 16 (.w 0 (.u 1))) [some (false,tp t),some (false,tp g)]=some (tp (cj g t)):=aD (bC rfl rfl) (V5 t h) (ax _)
   show(ev F false (.call 16 (.w 0 (.u 1))) [some (false,tp t),some (false,tp g)]).map some=_
   rw[this]
   rfl
 refine cb ?_
 rw[gZ,dz c2]
 rfl
def uh{g:List Int}{a:List (List Int)}{r:D}(hl:l.length=s)(V6:F 17 [ao l,tp g]=some (.tup (a.map tp)))(h8:F 8 [.tup (a.map tp),.int s]=some r):out (ex F JH.body (ae JH [ao l,tp g]))=some r:=by
 have c1:ev F true (.call 17 (.w 0 (.u 1))) (ae JH [ao l,tp g])=some (.tup (a.map tp)):=aG (bC rfl rfl) V6 rfl
 exact cb (aG (bC c1 (ug hl rfl)) h8 rfl)
def A8(xs:List D)(k:Nat):sC xs none (some (k:Int))=xs.take k:=by
 unfold sC bound
 simp only[YT,abb]
 rw[Xs (by lia),show(min (k:Int) (xs.length:Int)).toNat =min k xs.length by lia]
 exact List.take_eq_take_min.symm
noncomputable abbrev TW(sc:Option (Bool×D))(s:Nat)(ps qs:List (List Int))(k:Int):Env:=[sc,some (false,.int 5),some (false,.int s),some (false,.tup (ps.map tp)),some (false,.tup (qs.map tp)),some (false,.int k)]
noncomputable abbrev Ti:C:=(.seq (.ifs (.ql true (.cons (.cmp .Eq (.var 5) (.c (.int 2))) (.cons (.cmp .NotEq (.var 3) (.tup .nil)) .nil))) (.seq (.asg 4 (.tup (.cons (.call 24 (.cons (.idx (.var 3) (.c (.int 0))) (.cons (.idx (.var 3) (.neg (.c (.int 1)))) .nil))) .nil))) .skip) .skip) (.seq (.ret (.tup (.w 2 (.w 3 (.u 4))))) .skip))
noncomputable abbrev Tj:C:=(.seq (.asg 3 (.sl (.bin .Add (.var 3) (.var 4)) .nil (.cons (.c (.int 6)) .nil))) .skip)
noncomputable abbrev Tn:C:=(.seq (.asg 4 (.sl (.var 4) .nil (.cons (.c (.int 1)) .nil))) Tj)
noncomputable def Fo(s:Nat)(d:Option D):Prop:=∃ps qs:List (List Int),d=some (.tup [.int s,.tup (ps.map tp),.tup (qs.map tp)])/\ps.length<=6/\qs.length<=6/\(∀p∈ps,p∈perms s)/\∀p∈qs,p∈perms s
def vV{ps:List (List Int)}{i:Int}{j:Nat}(h:bR (ps.map tp).length i=some j)(hj:j<ps.length):∃q∈ps,item (.tup (ps.map tp)) (.int i)=some (tp q):=by
 refine⟨ps[j],YI hj,?_⟩
 show(bR (ps.map tp).length i).bind (λj=>(ps.map tp)[j]?)=_
 rw[h]
 show(ps.map tp)[j]?=_
 rw[Xb,WW hj]
 rfl
def A9{ps qs:List (List Int)}(N5:∀p∈perms s,∀q∈perms s,F 24 [tp p,tp q]=some (tp (comp p q)))(iy:ps.length<=6)(N6:qs.length<=6)(hp:∀p∈ps,p∈perms s)(hq:∀p∈qs,p∈perms s):Fo s (out (ex F Ti (TW sc s ps qs k))):=by
 have e1:ev F false (.cmp .Eq (.var 5) (.c (.int 2))) (TW sc s ps qs k)=some (.bl (k==2)):=rfl
 have e2:ev F false (.cmp .NotEq (.var 3) (.tup .nil)) (TW sc s ps qs k)=some (.bl (!ps.isEmpty)):=by
  refine eO (a:= .var 3) (x:= .tup (ps.map tp)) (c:= .tup .nil) (y:= .tup []) rfl rfl ?_
  show(if(cL (.tup (ps.map tp)) 60&&cL (.tup []) 60)=true then some (!fT (.tup (ps.map tp)) (.tup [])) else none)=_
  rw[show cL (.tup (ps.map tp)) 60=true from ed 58 ps]
  cases ps<;>rfl
 have e3:ev F false (.ql true (.cons (.cmp .Eq (.var 5) (.c (.int 2))) (.cons (.cmp .NotEq (.var 3) (.tup .nil)) .nil))) (TW sc s ps qs k)=some (.bl (k==2&&!ps.isEmpty)):=by
  rw[GA,fF,e1]
  cases k==2 with
  |false=>rfl
  |true=>
   show(fF F true (.cons (.cmp .NotEq (.var 3) (.tup .nil)) .nil) _).map D.bl=_
   rw[fF,e2]
   cases ps.isEmpty<;>rfl
 rw[aV,fI,e3]
 cases hb:(k==2&&!ps.isEmpty)with
 |false=>exact⟨ps,qs,rfl,iy,N6,hp,hq⟩
 |true=>
  rw[WX,Y8]at hb
  have fJ:0<ps.length:=by cases ps with|nil=>cases hb.2|cons _ _=>exact aaC _
  have hn:((ps.map tp).length :Int)=ps.length:=by rw[WZ]
  obtain⟨p,h1,i1⟩:=vV (ps:=ps) (i:=0) (j:=0) (by unfold bR;rw[Xl (by lia),Xl (by lia)];rfl) fJ
  obtain⟨q,h2,i2⟩:=vV (ps:=ps) (i:= -1) (j:=ps.length-1) (by unfold bR;rw[Xs (by lia),Xl (by lia),hn];congr 1;lia) (by lia)
  have c1:ev F false (.call 24 (.cons (.idx (.var 3) (.c (.int 0))) (.cons (.idx (.var 3) (.neg (.c (.int 1)))) .nil))) (TW sc s ps qs k)=some (tp (comp p q)):=aD (bC i1 i2) (N5 p (hp p h1) q (hp q h2)) (ax _)
  have c2:ev F false (.tup (.cons (.call 24 (.cons (.idx (.var 3) (.c (.int 0))) (.cons (.idx (.var 3) (.neg (.c (.int 1)))) .nil))) .nil)) (TW sc s ps qs k)=some (.tup ([comp p q].map tp)):=by
   rw[qL,dz c1]
   rfl
  refine⟨ps,[comp p q],?_,iy,by rw[Xx];lia,hp,λu hu=>?_⟩
  .show out ((ex F (.seq (.asg 4 _) .skip) (TW sc s ps qs k)).bind _)=_
   rw[aY (aN c2)]
   rfl
  .rw[W5.mp hu]
   exact aw.sm (Y:=pg s) (hp p h1) (hp q h2)
def Ja{ns:List Int}{ps qs:List (List Int)}(V7:∀k:Nat,k<1000->F 20 [.lst (ns.map .int),.int k]=some (.int (oF ns k)))(hs:1+oF ns 0%5=(s:Int))(a1:F 23 [.int (oF ns 1),.int s]=some (.tup (ps.map tp)))(a2:F 23 [.int (oF ns 2),.int s]=some (.tup (qs.map tp)))
  (nl:∀ps:List (List Int),aI (.tup (ps.map tp))=true) (N5:∀p∈perms s,∀q∈perms s,F 24 [tp p,tp q]=some (tp (comp p q))) (iy:ps.length<=6) (N6:qs.length<=6) (hp:∀p∈ps,p∈perms s) (hq:∀p∈qs,p∈perms s):Fo s (out (ex F IT.body (ae IT [.lst (ns.map .int),.int 5]))):=by
 have et:bE=16777216:=rfl
 let sc:Option (Bool×D):=some (false,.lst (ns.map .int))
 have mx:∀{b:Bool}{ρ:Env} (i:Int) (k:Nat),i=k->ρ[0]?=some sc->k<1000->ev F b (.call 20 (.w 0 (.cons (.c (.int i)) .nil))) ρ=some (.int (oF ns k)):=λ{b ρ} i k e h0 hk=>by
  subst e
  have hv:ev F true (.var 0) ρ=some (.lst (ns.map .int)):=by
   show rd true ρ 0=_
   unfold rd
   rw[h0]
   rfl
  exact aD (bC hv rfl) (V7 k hk) rfl
 have s1:ev F false (.bin .Add (.c (.int 1)) (.bin .Mod (.call 20 (.w 0 (.cons (.c (.int 0)) .nil))) (.var 1))) (ae IT [.lst (ns.map .int),.int 5])=some (.int s):=by
  rw[gG (a:= .c (.int 1)) (x:= .int 1) (y:= .int (oF ns 0%5)) rfl (gG (c:= .var 1) (y:= .int 5) (mx 0 0 rfl rfl (by lia)) rfl)]
  show some (D.int (1+oF ns 0%5))=_
  rw[hs]
 let xJ:Env:=[sc,some (false,.int 5),some (false,.int s),none,none,none]
 let xG:Env:=[sc,some (false,.int 5),some (false,.int s),some (false,.tup (ps.map tp)),none,none]
 let qm:Env:=[sc,some (false,.int 5),some (false,.int s),some (false,.tup (ps.map tp)),some (false,.tup (qs.map tp)),none]
 have s2:ev F false (.call 23 (.cons (.call 20 (.w 0 (.cons (.c (.int 1)) .nil))) (.u 2))) xJ=some (.tup (ps.map tp)):=aD (bC (mx 1 1 rfl rfl (by lia)) (y:= .int s) rfl) a1 (nl ps)
 have s3:ev F false (.call 23 (.cons (.call 20 (.w 0 (.cons (.c (.int 2)) .nil))) (.u 2))) xG=some (.tup (qs.map tp)):=aD (bC (mx 2 2 rfl rfl (by lia)) (y:= .int s) rfl) a2 (nl qs)
 have s4:ev F false (.bin .Mod (.call 20 (.w 0 (.cons (.c (.int 3)) .nil))) (.c (.int 3))) qm=some (.int (oF ns 3%3)):=gG (c:= .c (.int 3)) (y:= .int 3) (mx 3 3 rfl rfl (by lia)) rfl
 generalize hk:oF ns 3%3=k at s4
 have s5:ev F false (.cmp .Eq (.var 5) (.c (.int 1))) (TW sc s ps qs k)=some (.bl (k==1)):=rfl
 have s6:ev F false (.sl (.var 4) .nil (.cons (.c (.int 1)) .nil)) (TW sc s ps qs k)=some (.tup ((qs.take 1).map tp)):=by
  show some (D.tup (sC (qs.map tp) none (some ((1:Nat):Int))))=_
  rw[A8,aaY]
 have s7:ev F true (.bin .Add (.var 3) (.var 4)) (TW sc s ps (qs.take 1) k)=some (.tup ((ps++qs.take 1).map tp)):=by
  rw[gG (a:= .var 3) (c:= .var 4) (x:= .tup (ps.map tp)) (y:= .tup ((qs.take 1).map tp)) rfl rfl,Xy]
  exact Xl (by simp only[WZ,X3];lia)
 have s8:ev F false (.sl (.bin .Add (.var 3) (.var 4)) .nil (.cons (.c (.int 6)) .nil)) (TW sc s ps (qs.take 1) k)=some (.tup (((ps++qs.take 1).take 6).map tp)):=by
  rw[KS,s7]
  show some (D.tup (sC ((ps++qs.take 1).map tp) none (some ((6:Nat):Int))))=_
  rw[A8,aaY]
 show Fo s (out (ex F (.seq (.asg 2 _) _) (ae IT [.lst (ns.map .int),.int 5])))
 rw[aY (aN s1)]
 show Fo s (out (ex F (.seq (.asg 3 _) _) xJ))
 rw[aY (aN s2)]
 show Fo s (out (ex F (.seq (.asg 4 _) _) xG))
 rw[aY (aN s3)]
 show Fo s (out (ex F (.seq (.asg 5 _) _) qm))
 rw[aY (aN s4)]
 show Fo s (out (ex F (.seq (.ifs _ _ _) Ti) (TW sc s ps qs k)))
 rw[aV,fI,s5]
 cases k==1 with
 |false=>exact A9 N5 iy N6 hp hq
 |true=>
  have s9:ex F Tn (TW sc s ps qs k)=some (.next (TW sc s ((ps++qs.take 1).take 6) (qs.take 1) k)):=by
   rw[aY (aN s6)]
   show ex F Tj (TW sc s ps (qs.take 1) k)=_
   rw[aY (aN s8)]
   rfl
  show Fo s (out ((ex F Tn (TW sc s ps qs k)).bind _))
  rw[s9]
  exact A9 (ps:=(ps++qs.take 1).take 6) (qs:=qs.take 1) N5 (by rw[X3];lia) (by rw[X3];lia) (λp h=>gR hp (λu hu=>hq u (X8 hu)) p (X8 h)) λp h=>hq p (X8 h)
end
end cq
namespace Py
mutual
theorem mO:∀d:D,fT d d=true
 | .cy =>rfl
 | .bl b=>by show(b==b)=true;simp
 | .int i=>by show(i==i)=true;simp
 | .tup xs=>mP xs
 | .lst xs=>mP xs
 | .bP _ _ _=>rfl
theorem mP:∀l:List D,uB l l=true
 |[]=>rfl
 |x::l=>by show(fT x x&&uB l l)=true;rw[mO x,mP l];rfl
end
theorem vW{f:α->D}[DecidableEq α](hf:∀a b,fT (f a) (f b)=decide (a=b)):∀xs ys:List α,uB (xs.map f) (ys.map f)=decide (xs=ys)
 |[],[]=>rfl
 |[],_::_=>rfl
 |_::_,[]=>rfl
 |x::xs,y::ys=>by
  show(fT (f x) (f y)&&uB (xs.map f) (ys.map f))=_
  rw[hf,vW hf xs ys]
  by_cases h:x=y
  .by_cases h':xs=ys<;>simp[h,h']
  .simp[h]
end Py
namespace cq
open Py iK
section
variable {n s:Nat}
def A_(h:s<=6):run T (n+1) 0 [.int s]=some (tp (bj s)):=by
 rw[aQ (d:=k9) rfl rfl];exact As (by lia)
def kg(h:s<=6):∀p∈perms s,∀q∈perms s,run T (n+1) 1 [tp p,tp q]=some (tp (comp p q)):=λp hp q hq=>by
 rw[aQ (d:=k7) rfl rfl];exact rS (by lia) hp hq
def lg(h:s<=6):∀p∈perms s,∀q∈perms s,run T (n+1) 24 [tp p,tp q]=some (tp (comp p q)):=λp hp q hq=>by
 rw[aQ (d:=k7) rfl rfl];exact rS (by lia) hp hq
def A'(h:s<=6):∀p∈perms s,run T (n+1) 2 [tp p]=some (tp (ip p)):=λp hp=>by
 rw[aQ (d:=t9) rfl rfl];exact DP (by lia) hp
def Jb:∀p∈perms s,run T (n+1) 25 [tp p]=some (tp (ip p)):=λp hp=>by
 rw[aQ (d:=jw) rfl rfl];exact Aw hp
def M8(ns:List Int){k:Nat}(hk:k<1000):run T (n+2) 20 [.lst (ns.map .int),.int k]=some (.int (oF ns k)):=by
 rw[aQ (d:=vp 19) rfl rfl]
 refine IC ns k hk ?_
 rw[aQ (d:=mj) rfl rfl]
 exact DI ns k
def Ba(a k:Int):run T (n+1) 21 [.int a,.int k]=some (.int (drawn a k)):=by
 rw[aQ (d:=kZ) rfl rfl]
 exact Ak a k
def Fp(ha:0<=a)(h1:1<=s)(h6:s<=6):∃p∈perms s,run T (n+2) 22 [.int a,.int s]=some (tp p):=by
 rw[aQ (d:=j7 21) rfl rfl]
 exact DN ha h1 h6 λk=>⟨drawn a k,Ba a k⟩
def IX(a:Int)(h1:1<=s)(h6:s<=6):∃ps:List (List Int),run T (n+3) 23 [.int a,.int s]=some (.tup (ps.map tp))/\ps.length<=6/\∀p∈ps,p∈perms s:=by
 rw[aQ (d:=fV 22 21) rfl rfl]
 refine bJ (IG (F:=run T (n+2)) (ft:=22) (fd:=21) (s:=s) (a:=a) (λk=>Ba a k) λb hb=>Fp hb h1 h6) λys e hl hP=>aa (Az ys hP) λps ag p9=>?_
 subst ag
 exact⟨ps,e,by rwa [WZ]at hl,p9⟩
theorem kh:∀ps:List (List Int),aI (.tup (ps.map tp))=true
 |[]=>rfl
 |p::ps=>by
  show(aI (tp p)&&aI (.tup (ps.map tp)))=true
  rw[ax,kh ps]
  rfl
def mK(h6:s<=6):∀l t,VL (pg s) l 0->t∈perms s->run T (n+2) 3 [.lst (l.map au),tp t]=some (tp (dA (pg s) l 0 t)):=λl t hv ht=>by
 rw[aQ (d:=d3) rfl rfl];exact DY (kg h6) (A' h6) hv ht
def mL(h6:s<=6):∀l r,VL (pg s) l 0->r∈perms s->run T (n+2) 4 [.lst (l.map au),tp r]=some (.lst ((bD r l).map tp)):=λl r hv hr=>by
 rw[aQ (d:=d4) rfl rfl]
 refine D0 (kg h6) hr (D3 hv) ?_
 have h1:=qa aw hv
 have h2:=VL.len hv
 rw[YA]at h2
 have h3:l.length*(pg s).n <=6*6:=aaL (by rw[h2];exact h6) h6
 rw[j9]
 lia
def Eh(h6:s<=6){ps:List (List Int)}(p9:∀p∈ps,p∈perms s)(hl:ps.length<=720):
  ∃l,Fd (pg s) (· ∈ps) l []/\∀n,run T (n+4) 8 [.tup (ps.map tp),.int s]=some (ao (aJ (pg s) (Gen (pg s) (· ∈ps)) 0)):=by
 have key:∀n,∃l,run T (n+3) 5 [.tup (ps.map tp),.int s]=some (.lst (l.map au))/\Fd (pg s) (· ∈ps) l []:=λn=>by
  exact aa (AU (F:=run T (n+2)) h6 p9 hl (A_ h6) (mK h6) (mL h6)) λl e hd=>⟨l,by rw[aQ (d:=d5) rfl rfl];exact e,hd⟩
 refine aa (key 0) λl0 _ NC=>⟨l0,NC,λn=>?_⟩
 refine aa (key n) λl e hd=>?_
 have hM:=fD h6 p9
 have hm:=hd.hm aw p9
 rw[aQ (d:=d8) rfl rfl]
 refine xu h6 e (kh ps) λk hk=>?_
 rw[aQ (d:=d7) rfl rfl]
 exact D5 h6 hM hm hk λu hu=>aa (AV (F:=run T (n+1)) h6 (kg h6) hm.1 hk hu) λx e1 e2=>⟨x,by rw[aQ (d:=d6) rfl rfl];exact e1,e2⟩
theorem oN(n:Nat):∀R:Rg (List Int),fX (R.map pairD) (n+2)=true
 |[]=>rfl
 |e::R=>by
  show((true&&(cL (tp e.2) (n+1)&&true))&&fX (R.map pairD) (n+2))=true
  rw[t8,oN n R]
  rfl
theorem oO(n:Nat):∀l:List (Rg (List Int)),fX (l.map az) (n+3)=true
 |[]=>rfl
 |R::l=>by
  show(fX (R.map pairD) (n+2)&&fX (l.map az) (n+3))=true
  rw[oN,oO n l]
  rfl
def mQ(l:List (Rg (List Int))):cL (ao l) 60=true:=oO 56 l
def qg(h:cL d 60=true):cmp .NotEq d d=some false:=by
 show(if(cL d 60&&cL d 60)=true then some (!fT d d) else none)=_
 rw[h,mO]
 rfl
def Ei(h:cL d 60=true):cmp .Eq d d=some true:=by
 show(if(cL d 60&&cL d 60)=true then some (fT d d) else none)=_
 rw[h,mO]
 rfl
def Jc(h:ev F false a ρ=some (.bl k)):fF F k (.cons a r) ρ=fF F k r ρ:=by
 rw[fF,h]
 exact Xl rfl
end
section
variable {n s:Nat}{F:FT}{M N:List Int->Prop}
theorem Bb:∀l:List (Rg (List Int)),(nH l).length =cnt l
 |[]=>rfl
 |R::l=>by
  show(R.map (·.2)++nH l).length =R.length+cnt l
  rw[W_,WZ,Bb l]
structure Kn(s:Nat)(M:List Int->Prop):Prop where
 y:cW (pg s) M
 M9:DS (pg s) M (aJ (pg s) M 0) 0
 tl:∀t,t∈TL (pg s) (aJ (pg s) M 0)↔M t
 nd:(TL (pg s) (aJ (pg s) M 0)).Nodup
 v:VL (pg s) (aJ (pg s) M 0) 0
 len:(aJ (pg s) M 0).length =s
 Bc:(nH (aJ (pg s) M 0)).length <=36
 rl:∀R∈aJ (pg s) M 0,R.length<=1000
def M_(h6:s<=6)(hM:cW (pg s) M)(h:Hm (pg s) M l 0):Kn s M:=by
 obtain⟨a,b,c⟩:=AK aw hM h
 have v:=(a.hm aw hM).1
 have hl:(aJ (pg s) M 0).length =s:=by have:=VL.len v;rw[YA]at this;exact this
 have h2:=qa aw v
 rw[hl]at h2
 refine⟨hM,a,b,c,v,hl,by rw[Bb];exact XZ h2 (aaL h6 h6),λR hR=>?_⟩
 obtain⟨i,hi⟩:=List.getElem?_of_mem hR
 have:=mJ (by have:=(Xf.mp hi).1;lia) (VL.at v hi)
 lia
theorem qh:∀l:List (Rg (List Int)),aI (ao l)=true
 |[]=>rfl
 |R::l=>by
  show(aI (az R)&&aI (ao l))=true
  rw[vM,qh l]
  rfl
def lh(k:Kn s M):run T (n+1) 10 [ao (aJ (pg s) M 0)]=some (.tup ((nH (aJ (pg s) M 0)).map tp)):=by
 rw[aQ (d:=MY) rfl rfl];exact xy (by have:=k.Bc;lia)
def Jd(h1:1<=s)(h6:s<=6)(k:Kn s M):run T (n+2) 9 [ao (aJ (pg s) M 0)]=some (.tup ((b6.b9 (TL (pg s) (aJ (pg s) M 0))).map tp)):=by
 rw[aQ (d:=d9) rfl rfl];exact AY h1 h6 (A_ h6) (kg h6) k.v
def mR(k:Kn s M):t∈b6.b9 (TL (pg s) (aJ (pg s) M 0))↔M t:=((b6.cH _).mem_iff).trans (k.tl t)
noncomputable abbrev hB(s:Nat)(M:List Int->Prop)(t:List Int):Bool:=mN (pg s) (aJ (pg s) M 0) 0 t
def lj(k:Kn s M)(ht:t∈perms s):hB s M t=true↔M t:=by
 have hm:=k.M9.hm aw k.y
 exact(sf aw k.v ht λj hj=>absurd hj (YO _)).trans ((hm.2 t).trans ⟨λh=>h.1,λh=>⟨h,λj hj=>absurd hj (YO _)⟩⟩)
def M'(h6:s<=6)(k:Kn s M)(ht:t∈perms s):run T (n+3) 11 [ao (aJ (pg s) M 0),tp t]=some (.bl (hB s M t)):=by
 rw[aQ (d:=MZ) rfl rfl]
 refine I8 (F:=run T (n+2)) (s:=s) ?_
 rw[aQ (d:=IL) rfl rfl]
 exact xA (F:=run T (n+1)) h6 (kg h6) (A' h6) k.v ht
def Be(h6:s<=6){G:List (List Int)}(hG:∀u∈G,u∈perms s)(hl:G.length<=720)(hM:cW (pg s) M)(e:Gen (pg s) (· ∈G)=M):Kn s M/\∀n,run T (n+4) 8 [.tup (G.map tp),.int s]=some (ao (aJ (pg s) M 0)):=by
 obtain⟨l,hd,f⟩:=Eh h6 hG hl
 have hm:=hd.hm aw hG
 rw[e]at hm f
 exact⟨M_ h6 hM hm,f⟩
def qi(k:Kn s M):∀u∈nH (aJ (pg s) M 0),u∈perms s:=λu h=>k.y.s u (vT h)
def xD(h6:s<=6){ps qs:List (List Int)}(hp:∀u∈ps,u∈perms s)(hq:∀u∈qs,u∈perms s)(k:Kn s (Gen (pg s) (· ∈ps)))(j:Kn s (Gen (pg s) (· ∈qs))):
  Kn s (Gen (pg s) (· ∈ps++qs))/\∀n,run T (n+5) 13 [ao (aJ (pg s) (Gen (pg s) (· ∈ps)) 0),ao (aJ (pg s) (Gen (pg s) (· ∈qs)) 0)]=some (ao (aJ (pg s) (Gen (pg s) (· ∈ps++qs)) 0)):=by
 have f1:=k.Bc
 have f2:=j.Bc
 obtain⟨a,e⟩:=Be h6 (gR (qi k) (qi j)) (by rw[W_];lia) (fD h6 (gR hp hq)) (Ed h6 (qi k) (qi j) hp hq (λt=>qf k.y k.M9) λt=>qf j.y j.M9)
 refine⟨a,λn=>?_⟩
 rw[aQ (d:=JG) rfl rfl]
 exact sj k.len (by lia) (lh k) (lh j) (e n)
def Ej(h1:1<=s)(h6:s<=6)(k:Kn s M)(j:Kn s N):
  Kn s (Sh M N)/\∀n,run T (n+5) 14 [ao (aJ (pg s) M 0),ao (aJ (pg s) N 0)]=some (ao (aJ (pg s) (Sh M N) 0)):=by
 have Na:∀t,t∈(b6.b9 (TL (pg s) (aJ (pg s) M 0))).filter (hB s N)↔Sh M N t:=λt=>by
  rw[X5,mR k]
  exact⟨λz=>⟨z.1,(lj j (k.y.s t z.1)).mp z.2⟩,λz=>⟨z.1,(lj j (k.y.s t z.1)).mpr z.2⟩⟩
 have xw:(b6.b9 (TL (pg s) (aJ (pg s) M 0))).length <=720:=by
  rw[(b6.cH _).length_eq]
  exact AW h6 k.v
 have hy:=Ee k.y j.y
 obtain⟨a,e⟩:=Be h6 (λt ht=>hy.s t ((Na t).mp ht)) (XZ (aaG _ _) xw) hy (Ec hy Na)
 refine⟨a,λn=>?_⟩
 rw[aQ (d:=Fi) rfl rfl]
 exact xB k.len (by lia) (Jd h1 h6 k) (λt ht=>M' h6 j (k.y.s t ((mR k).mp ht))) (e n)
def vX(h6:s<=6)(k:Kn s M)(j:Kn s N):run T (n+4) 15 [ao (aJ (pg s) M 0),ao (aJ (pg s) N 0)]=some (.bl ((nH (aJ (pg s) M 0)).all (hB s N))):=by
 rw[aQ (d:=IM) rfl rfl]
 exact xC (by have:=k.Bc;lia) (lh k) λt ht=>M' h6 j (qi k t ht)
def Bf(k:Kn s M)(j:Kn s N):(nH (aJ (pg s) M 0)).all (hB s N)=true↔ ∀t,M t->N t:=by
 rw[Ya]
 exact⟨λh t ht=>kf j.y (λu hu=>(lj j (qi k u hu)).mp (h u hu)) ((qf k.y k.M9).mpr ht),λh u hu=>(lj j (qi k u hu)).mpr (h u (vT hu))⟩
def Bg(h6:s<=6)(k:Kn s M){g:List Int}(hg:g∈perms s):Kn s (Cj M g)/\∀n,run T (n+5) 18 [ao (aJ (pg s) M 0),tp g]=some (ao (aJ (pg s) (Cj M g) 0)):=by
 have f1:=k.Bc
 have hS:∀u∈(nH (aJ (pg s) M 0)).map (cj g),u∈perms s:=λu hu=>by
  obtain⟨x,hx,rfl⟩:=Xd.mp hu
  exact Eg hg (qi k x hx)
 obtain⟨a,e⟩:=Be h6 hS (by rw[WZ];lia) (vU k.y hg) (I_ k.y hg (λu hu=>vT hu) λt ht=>(qf k.y k.M9).mpr ht)
 refine⟨a,λn=>?_⟩
 rw[aQ (d:=JH) rfl rfl]
 refine uh k.len ?_ (e n)
 rw[aQ (d:=IQ) rfl rfl]
 refine A7 (by lia) (lh k) λt ht=>?_
 rw[aQ (d:=IP) rfl rfl]
 exact A6 (F:=run T (n+2)) (kg h6) (A' h6) hg (qi k t ht)
structure V8(s:Nat)(M:List Int->Prop)(Ts:List (List Int)):Prop where
 mem:∀t,t∈Ts↔M t
 Bc:Ts.length<=1000
 nd:Ts.Nodup
 up:Ts.Pairwise b6.EU
def sY(h1:1<=s)(h6:s<=6){ps:List (List Int)}(p9:∀p∈ps,p∈perms s)(hl:ps.length<=1000):∃Ts,run T (n+2) 26 [.tup (ps.map tp),.int s]=some (.lst (Ts.map tp))/\V8 s (Gen (pg s) (· ∈ps)) Ts:=by
 rw[aQ (d:=DV) rfl rfl]
 obtain⟨B,eB,hB⟩:=IZ (F:=run T (n+1)) h1 h6 (lg h6) p9 hl
 have WS:B.length<=720:=XZ (jB _ _ hB.nd λx hx=>AL p9 (hB.gen x hx)) (jA h6)
 exact⟨_,eB,λt=>((b6.cH B).mem_iff).trans ((hB.done t).trans vG),by rw[(b6.cH B).length_eq];lia,(b6.cH B).nodup_iff.mpr hB.nd,b6.lS B⟩
def Bh(h1:1<=s)(h6:s<=6)(hM:cW (pg s) M){Ts:List (List Int)}(hT:∀t,t∈Ts↔M t)(hl:Ts.length<=1000):run T (n+1) 27 [.lst (Ts.map tp),.int s]=some (ao (aJ (pg s) M 0)):=by
 rw[aQ (d:=IS) rfl rfl];exact ud h6 h1 hM hT hl
def Nb{Ts:List (List Int)}:cmp .In (tp t) (.lst (Ts.map tp))=some (decide (t∈Ts)):=by
 have e:∀l:List (List Int),((l.map tp).any λz=>fT z (tp t))=decide (t∈l):=λl=>by
  induction l with
  |nil=>rfl
  |cons a l ih=>
   rw[Xj,Y6,ih,tZ,aay,ZM,decide_eq_true_eq,decide_eq_true_eq,decide_eq_true_eq,Xc]
   exact⟨λz=>z.imp (λz=>z.symm) id,λz=>z.imp (λz=>z.symm) id⟩
 show(if(cL (tp t) 60&&cL (.lst (Ts.map tp)) 60)=true then some ((Ts.map tp).any λz=>fT z (tp t)) else none)=_
 rw[mr,show cL (.lst (Ts.map tp)) 60=true from ed 58 Ts,e]
 rfl
def Je{A B:List (List Int)}:cmp .Eq (.lst (A.map tp)) (.lst (B.map tp))=some (decide (A=B)):=by
 show(if(cL (.lst (A.map tp)) 60&&cL (.lst (B.map tp)) 60)=true then some (uB (A.map tp) (B.map tp)) else none)=_
 rw[show cL (.lst (A.map tp)) 60=true from ed 58 A,show cL (.lst (B.map tp)) 60=true from ed 58 B,vW tZ]
 rfl
end
def holds(ns:List Int)(hl:ns.length<=63):run T (6+1) 29 [.lst (ns.map .int)]=some (.bl true):=by
 have g0:0<=oF ns 0%5:=Yu _ (by decide)
 have g1:oF ns 0%5<5:=Yv _ (by decide)
 obtain⟨s,hs⟩:∃s:Nat,1+oF ns 0%5=s:=⟨(1+oF ns 0%5).toNat,by lia⟩
 have h1:1<=s:=by lia
 have h6:s<=6:=by lia
 have et:bE=16777216:=rfl
 obtain⟨WT,V9,Q8,Q9⟩:=IX (n:=2) (oF ns 1) h1 h6
 obtain⟨WU,V_,Q_,Ra⟩:=IX (n:=2) (oF ns 2) h1 h6
 obtain⟨ps,qs,N_,iy,N6,hp,hq⟩:=Ja (F:=run T 5) (s:=s) (λk hk=>M8 (n:=3) ns hk) hs V9 V_ kh (lg (n:=4) h6) Q8 Q_ Q9 Ra
 obtain⟨g,hg,ef⟩:=Fp (n:=4) (a:=oF ns 4) (s:=s) (IB ns 4) h1 h6
 have V':=gR hp hq
 obtain⟨k1,e1⟩:=Be h6 hp (by lia) (fD h6 hp) rfl
 obtain⟨k2,e2⟩:=Be h6 hq (by lia) (fD h6 hq) rfl
 obtain⟨k3,e3⟩:=xD h6 hp hq k1 k2
 obtain⟨k4,e4⟩:=Ej h1 h6 k1 k2
 obtain⟨k5,e5⟩:=Bg h6 k1 hg
 obtain⟨A,eA,aA⟩:=sY (n:=4) h1 h6 hp (by lia)
 obtain⟨B,eB,aB⟩:=sY (n:=4) h1 h6 hq (by lia)
 obtain⟨C,eC,aC⟩:=sY (n:=4) h1 h6 V' (by rw[W_];lia)
 generalize hM:Gen (pg s) (· ∈ps)=M at k1 e1 k3 e3 k4 e4 k5 e5 aA
 generalize hN:Gen (pg s) (· ∈qs)=N at k2 e2 k3 e3 k4 e4 aB
 generalize hO:Gen (pg s) (· ∈ps++qs)=O at k3 e3 aC
 have Wa:∀t,M t->O t:=λt h=>by
  subst hM hO
  exact h.mono λu hu=>Xp _ hu
 let both:=A.filter λt=>decide (t∈B)
 have Nc:∀t,t∈both↔Sh M N t:=λt=>by
  rw[X5,decide_eq_true_eq,aA.mem,aB.mem]
  exact Iff.rfl
 have Wb:both.length<=1000:=XZ (aaG _ _) aA.Bc
 have Jf:∀t,t∈A.map (cj g)↔Cj M g t:=λt=>by
  rw[Xd]
  exact⟨λ⟨x,h,e⟩=>⟨x,(aA.mem x).mp h,e⟩,λ⟨x,h,e⟩=>⟨x,(aA.mem x).mpr h,e⟩⟩
 let F:=run T 6
 have Wc:F 8 [.tup (ps.map tp),.int s]=some (ao (aJ (pg s) M 0)):=e1 2
 have Wd:F 8 [.tup (qs.map tp),.int s]=some (ao (aJ (pg s) N 0)):=e2 2
 have To:F 13 [ao (aJ (pg s) M 0),ao (aJ (pg s) N 0)]=some (ao (aJ (pg s) O 0)):=e3 1
 have We:F 14 [ao (aJ (pg s) M 0),ao (aJ (pg s) N 0)]=some (ao (aJ (pg s) (Sh M N) 0)):=e4 1
 have Wf:F 18 [ao (aJ (pg s) M 0),tp g]=some (ao (aJ (pg s) (Cj M g) 0)):=e5 1
 have Rb:F 27 [.lst (C.map tp),.int s]=some (ao (aJ (pg s) O 0)):=Bh (n:=5) h1 h6 k3.y aC.mem aC.Bc
 have Rc:F 27 [.lst (both.map tp),.int s]=some (ao (aJ (pg s) (Sh M N) 0)):=Bh (n:=5) h1 h6 k4.y Nc Wb
 have Rf:F 27 [.lst ((A.map (cj g)).map tp),.int s]=some (ao (aJ (pg s) (Cj M g) 0)):=Bh (n:=5) h1 h6 k5.y Jf (by rw[WZ];exact aA.Bc)
 have Wg:F 15 [ao (aJ (pg s) N 0),ao (aJ (pg s) M 0)]=some (.bl (decide (both=B))):=by
  have e:(nH (aJ (pg s) N 0)).all (hB s M)=decide (both=B):=by
   rw[aay,decide_eq_true_eq,Bf k2 k1,Ef aA.up aA.nd aB.up aB.nd]
   exact⟨λh t ht=>(aA.mem t).mpr (h t ((aB.mem t).mp ht)),λh t ht=>(aA.mem t).mp (h t ((aB.mem t).mpr ht))⟩
  rw[<-e]
  exact vX (n:=2) h6 k2 k1
 have Rh:F 15 [ao (aJ (pg s) M 0),ao (aJ (pg s) O 0)]=some (.bl true):=by
  rw[<-(Bf k1 k3).mpr Wa]
  exact vX (n:=2) h6 k1 k3
 have Wh:F 28 [.lst (ns.map .int),.int 5]=some (.tup [.int s,.tup (ps.map tp),.tup (qs.map tp)]):=by
  show run T (5+1) 28 _=_
  rw[aQ (d:=IT) rfl rfl];exact N_
 let sc:Option (Bool×D):=some (false,.lst (ns.map .int))
 let x1:Option (Bool×D):=some (false,.int s)
 let x2:Option (Bool×D):=some (false,.tup (ps.map tp))
 let x3:Option (Bool×D):=some (false,.tup (qs.map tp))
 let x4:Option (Bool×D):=some (false,ao (aJ (pg s) M 0))
 let x5:Option (Bool×D):=some (false,ao (aJ (pg s) N 0))
 let x6:Option (Bool×D):=some (false,.lst (A.map tp))
 let x7:Option (Bool×D):=some (false,.lst (B.map tp))
 let x8:Option (Bool×D):=some (true,.lst (both.map tp))
 let x9:Option (Bool×D):=some (false,.bl (decide (both=B)))
 let JL:Option (Bool×D):=some (false,tp g)
 let Wi:Option (Bool×D):=some (true,.lst ((A.map (cj g)).map tp))
 let xG:Env:=[sc,x1,x2,x3,none,none,none,none,none,none,none,none]
 let qm:Env:=[sc,x1,x2,x3,x4,none,none,none,none,none,none,none]
 let Tp:Env:=[sc,x1,x2,x3,x4,x5,none,none,none,none,none,none]
 let Bt:Env:=[sc,x1,x2,x3,x4,x5,x6,none,none,none,none,none]
 let A5:Env:=[sc,x1,x2,x3,x4,x5,x6,x7,none,none,none,none]
 let Eb:Env:=[sc,x1,x2,x3,x4,x5,x6,x7,x8,none,none,none]
 let Fq:Env:=[sc,x1,x2,x3,x4,x5,x6,x7,x8,x9,none,none]
 let Jg:Env:=[sc,x1,x2,x3,x4,x5,x6,x7,x8,x9,JL,none]
 let Nd:Env:=[sc,x1,x2,x3,x4,x5,x6,x7,x8,x9,JL,Wi]
 have s3:ex F (.qG [1,2,3] (.call 28 (.w 0 (.cons (.c (.int 5)) .nil)))) (ae IU [.lst (ns.map .int)])=some (.next xG):=by
  rw[Pc,aG (es:= .w 0 (.cons (.c (.int 5)) .nil)) (bC (x:= .lst (ns.map .int)) (y:= .int 5) rfl rfl) Wh rfl]
  rfl
 have s4:ev F false (.call 8 (.w 2 (.u 1))) xG=some (ao (aJ (pg s) M 0)):=aG (bC (x:= .tup (ps.map tp)) (y:= .int s) rfl rfl) Wc rfl
 have s5:ev F false (.call 8 (.w 3 (.u 1))) qm=some (ao (aJ (pg s) N 0)):=aG (bC (x:= .tup (qs.map tp)) (y:= .int s) rfl rfl) Wd rfl
 have s6:ev F false (.call 26 (.w 2 (.u 1))) Tp=some (.lst (A.map tp)):=aG (bC (x:= .tup (ps.map tp)) (y:= .int s) rfl rfl) eA rfl
 have s7:ev F false (.call 26 (.w 3 (.u 1))) Bt=some (.lst (B.map tp)):=aG (bC (x:= .tup (qs.map tp)) (y:= .int s) rfl rfl) eB rfl
 have s8:ev F false (.cmp .NotEq (.call 13 (.w 4 (.u 5))) (.call 27 (.cons (.call 26 (.cons (.bin .Add (.var 2) (.var 3)) (.u 1))) (.u 1)))) A5=some (.bl false):=by
  have c1:ev F true (.bin .Add (.var 2) (.var 3)) A5=some (.tup ((ps++qs).map tp)):=by
   rw[gG (a:= .var 2) (c:= .var 3) (x:= .tup (ps.map tp)) (y:= .tup (qs.map tp)) rfl rfl,Xy]
   exact Xl (by simp only[WZ];lia)
  have c2:ev F true (.call 26 (.cons (.bin .Add (.var 2) (.var 3)) (.u 1))) A5=some (.lst (C.map tp)):=aG (bC c1 (y:= .int s) rfl) eC rfl
  exact eO (aG (bC (x:=ao (aJ (pg s) M 0)) (y:=ao (aJ (pg s) N 0)) rfl rfl) To rfl) (aG (bC c2 (y:= .int s) rfl) Rb rfl) (qg (mQ _))
 have s9:ex F (.bK 8 (.comp [7] 0 (.it (.var 6)) (.cons (.cmp .In (.var 0) (.var 1)) .nil) (.var 0))) A5=some (.next Eb):=by
  have c1:ev F false (.comp [7] 0 (.it (.var 6)) (.cons (.cmp .In (.var 0) (.var 1)) .nil) (.var 0)) A5=some (.lst (both.map tp)):=by
   rw[de (d:= .lst (A.map tp)) rfl rfl (by rw[WZ];have:=aA.Bc;lia),qd tp tp (λt=>decide (t∈B)) _ _ λt h=>?_]
   .rfl
   .have:ev F false (.cmp .In (.var 0) (.var 1)) [some (false,tp t),x7]=some (.bl (decide (t∈B))):=eO (a:= .var 0) (c:= .var 1) rfl rfl Nb
    show((fF F true (.cons (.cmp .In (.var 0) (.var 1)) .nil) [some (false,tp t),x7]).bind _)=_
    rw[fF,this]
    cases decide (t∈B)<;>rfl
  rw[nh,c1]
  rfl
 have O6:ev F false (.cmp .NotEq (.call 14 (.w 4 (.u 5))) (.call 27 (.w 8 (.u 1)))) Eb=some (.bl false):=
  eO (aG (bC (x:=ao (aJ (pg s) M 0)) (y:=ao (aJ (pg s) N 0)) rfl rfl) We rfl) (aD (bC (x:= .lst (both.map tp)) (y:= .int s) rfl rfl) Rc (qh _)) (qg (mQ _))
 have Js:ev F false (.call 15 (.w 5 (.u 4))) Eb=some (.bl (decide (both=B))):=aG (bC (x:=ao (aJ (pg s) N 0)) (y:=ao (aJ (pg s) M 0)) rfl rfl) Wg rfl
 have QI:ev F false (.ql false (.cons (.not (.B3 (.var 9))) (.cons (.cmp .NotEq (.var 9) (.cmp .Eq (.var 8) (.var 7))) (.cons (.not (.call 15 (.w 4 (.cons (.call 13 (.w 4 (.u 5))) .nil)))) .nil)))) Fq=some (.bl false):=by
  have p1:ev F false (.not (.B3 (.var 9))) Fq=some (.bl false):=rfl
  have p2:ev F false (.cmp .NotEq (.var 9) (.cmp .Eq (.var 8) (.var 7))) Fq=some (.bl false):=eO (a:= .var 9) (x:= .bl (decide (both=B))) rfl (eO (a:= .var 8) (c:= .var 7) rfl rfl Je) (qg rfl)
  have p3:ev F false (.call 15 (.w 4 (.cons (.call 13 (.w 4 (.u 5))) .nil))) Fq=some (.bl true):=aG (bC (x:=ao (aJ (pg s) M 0)) rfl (aG (bC (x:=ao (aJ (pg s) M 0)) (y:=ao (aJ (pg s) N 0)) rfl rfl) To rfl)) Rh rfl
  have p4:ev F false (.not (.call 15 (.w 4 (.cons (.call 13 (.w 4 (.u 5))) .nil)))) Fq=some (.bl false):=by
   rw[O_,p3]
   rfl
  rw[GA,Jc p1,Jc p2,Jc p4]
  rfl
 have xI:ev F false (.call 22 (.cons (.call 20 (.w 0 (.cons (.c (.int 4)) .nil))) (.u 1))) Fq=some (tp g):=
  aD (bC (aD (bC (x:= .lst (ns.map .int)) (y:= .int (4:Nat)) rfl rfl) (M8 (n:=4) ns (k:=4) (by lia)) rfl) (y:= .int s) rfl) ef (ax _)
 have Wj:ex F (.bK 11 (.comp [10] 0 (.it (.var 6)) .nil (.call 24 (.cons (.call 24 (.cons (.call 25 (.u 1)) (.u 0))) (.u 1))))) Jg=some (.next Nd):=by
  have hi:ip g∈perms s:=aw.si (Y:=pg s) hg
  have c1:ev F false (.comp [10] 0 (.it (.var 6)) .nil (.call 24 (.cons (.call 24 (.cons (.call 25 (.u 1)) (.u 0))) (.u 1)))) Jg=some (.lst ((A.map (cj g)).map tp)):=by
   rw[de (d:= .lst (A.map tp)) rfl rfl (by rw[WZ];have:=aA.Bc;lia),Xz,bT tp (tp∘cj g) _ _ λt h=>?_]
   .rfl
   .have ht:t∈perms s:=k1.y.s t ((aA.mem t).mp h)
    have b1:ev F true (.call 25 (.u 1)) [some (false,tp t),JL]=some (tp (ip g)):=aD (dz (x:=tp g) rfl) (Jb (n:=5) g hg) (ax _)
    have b2:ev F true (.call 24 (.cons (.call 25 (.u 1)) (.u 0))) [some (false,tp t),JL]=some (tp (comp (ip g) t)):=aD (bC b1 (y:=tp t) rfl) (lg (n:=5) h6 _ hi t ht) (ax _)
    have b3:ev F false (.call 24 (.cons (.call 24 (.cons (.call 25 (.u 1)) (.u 0))) (.u 1))) [some (false,tp t),JL]=some (tp (cj g t)):=aD (bC b2 (y:=tp g) rfl) (lg (n:=5) h6 _ (aw.sm (Y:=pg s) hi ht) g hg) (ax _)
    show(ev F false (.call 24 (.cons (.call 24 (.cons (.call 25 (.u 1)) (.u 0))) (.u 1))) [some (false,tp t),JL]).map some=_
    rw[b3]
    rfl
  rw[nh,c1]
  rfl
 have Qs:ev F true (.cmp .Eq (.call 18 (.w 4 (.u 10))) (.call 27 (.w 11 (.u 1)))) Nd=some (.bl true):=
  eO (aG (bC (x:=ao (aJ (pg s) M 0)) (y:=tp g) rfl rfl) Wf rfl) (aD (bC (x:= .lst ((A.map (cj g)).map tp)) (y:= .int s) rfl rfl) Rf (qh _)) (Ei (mQ _))
 rw[aQ (d:=IU) rfl rfl]
 show out (ex F (.seq (.qG [1,2,3] _) _) (ae IU [.lst (ns.map .int)]))=_
 rw[aY s3]
 show out (ex F (.seq (.asg 4 _) _) xG)=_
 rw[aY (aN s4)]
 show out (ex F (.seq (.asg 5 _) _) qm)=_
 rw[aY (aN s5)]
 show out (ex F (.seq (.asg 6 _) _) Tp)=_
 rw[aY (aN s6)]
 show out (ex F (.seq (.asg 7 _) _) Bt)=_
 rw[aY (aN s7)]
 show out (ex F (.seq (.ifs _ _ _) _) A5)=_
 rw[aV,fI,s8]
 show out (ex F (.seq (.bK 8 _) _) A5)=_
 rw[aY s9,aV,fI,O6]
 show out (ex F (.seq (.asg 9 _) _) Eb)=_
 rw[aY (aN Js)]
 show out (ex F (.seq (.ifs _ _ _) _) Fq)=_
 rw[aV,fI,QI]
 show out (ex F (.seq (.asg 10 _) _) Fq)=_
 rw[aY (aN xI)]
 show out (ex F (.seq (.bK 11 _) _) Jg)=_
 rw[aY Wj]
 exact cb Qs
end cq
namespace cq
open PySem L2 Py
def top(i:Nat):Stmt:=PySem.Challenge.pw_turnyard_k21_together_and_shared.main.body.getD i (.Pass ⟨0,0,0,0⟩)
abbrev Row:=Str×Nat×Fd×List Str
noncomputable def tb:List Row:=[("still",1,d0,["size"]),
 ("times",2,d1,["one","other"]),
 ("back",3,d2,["turn"]),
 ("left_over",5,d3,["found","turn","rest","place","steps"]),
 ("products_with",6,d4,["found","turn","made","steps","step"]),
 ("found_steps",7,d5,["row","size","found","waiting","rest","moved","place"]),
 ("least_turn",8,d6,["found","place","turn","least","steps","part"]),
 ("rung_at",9,d7,["found","place","steps"]),
 ("ladder",10,d8,["row","size","found"]),
 ("turns_of",11,d9,["yard","turns","rung","longer","pair"]),
 ("makers",12,MY,["yard","turns","rung"]),
 ("has",13,MZ,["yard","turn"]),
 ("number_of",14,IL,["yard","turn","number","rest","place","rung","points","chosen"]),
 ("together",16,JG,["one","other"]),
 ("shared",17,Fi,["one","other"]),
 ("within",18,IM,["one","other"]),
 ("carried_turn",19,IP,["turn","carrier"]),
 ("carried_makers",20,IQ,["yard","carrier"]),
 ("carried",21,JH,["yard","turn"]),
 ("_law_cell_at",23,S3,["_law_script","_law_k"]),
 ("_law_mixed",24,S4,["_law_script","_law_k","_law_drawn_here"]),
 ("_law_drawn",25,S5,["_law_number","_law_k","_law_drawn_here"]),
 ("_law_turn",26,S6,["_law_number","_law_size","_law_found","_law_one","_law_other","_law_many","_law_shift","_law_k","_law_made","_law_at"]),
 ("_law_row",27,S7,["_law_number","_law_size"]),
 ("_law_times",28,S8,["_law_one","_law_other"]),
 ("_law_back",29,S9,["_law_turn_here","_law_found","_law_point","_law_goal"]),
 ("_law_all",30,DV,["_law_row_here","_law_size","_law_start","_law_met","_law_todo","_law_turn_here","_law_other","_law_goal"]),
 ("_law_ladder",31,IS,["_law_turns","_law_size","_law_rungs","_law_level","_law_rung","_law_point","_law_good"]),
 ("_law_two",32,IT,["_law_script","_law_most","_law_size","_law_one","_law_other","_law_kind"]),
 ("law",33,IU,["_law_script","_law_size","_law_one","_law_other","_law_here","_law_there","_law_ones","_law_others","_law_both","_law_found","_law_turn_here","_law_moved"])]
noncomputable def G:GT:=(tb.map λr=>r.1,[])
noncomputable def Tq(r:Row):Bool:=
 decide ((aH (top r.2.1)).kind = .function)&&!(aH (top r.2.1)).isCoroutine&&!(aH (top r.2.1)).isGenerator&&decide r.2.2.2.Nodup&&decide ((r.2.2.2.take r.2.2.1.par).length =r.2.2.1.par) &&
 (r.2.2.2.take r.2.2.1.par).all (λx=>decide ((aH (top r.2.1)).names.lookup x=some .local \/(aH (top r.2.1)).names.lookup x=some .cell))&&(aH (top r.2.1)).names.all (λy=>decide (y.2≠ .free)) &&
 hJ G r.2.2.1.body r.2.2.2 (aH (top r.2.1)) (b7 (top r.2.1))&&decide (r.2.2.2.length=r.2.2.1.jI)
def ck:tb.all Tq=true:=by decide +kernel
def Bd(r:Row):Prop:=∀(kV gS pm:Value) (an:Option Addr) (eQ ct:Value) (us:List Value),us.length=(r.2.2.2.take r.2.2.1.par).length ->bindArgs (PySem.W.fnOf r.1 r.1 (dB (top r.2.1)) (b7 (top r.2.1)) (aH (top r.2.1)) .none kV gS pm an eQ ct) ⟨us,[]⟩=pure ((r.2.2.2.take r.2.2.1.par).zip us)
def Jh:List Row->Prop
 |[]=>True
 |r::l=>Bd r/\Jh l
section
variable {r:Row}{l:List Row}{p q o:Str}(H:Jh l)
include H
def Wk(e:r.2.2.2.take r.2.2.1.par=[p])(h:∀(kV gS pm:Value) (an:Option Addr) (eQ ct u:Value),bindArgs (PySem.W.fnOf r.1 r.1 (dB (top r.2.1)) (b7 (top r.2.1)) (aH (top r.2.1)) .none kV gS pm an eQ ct) ⟨[u],[]⟩=pure [(p,u)]):Jh (r::l):=
 ⟨λkV gS pm an eQ ct us hl=>by rw[e]at hl⊢;obtain⟨u,rfl⟩:=MP hl;exact h kV gS pm an eQ ct u,H⟩
def Wl(e:r.2.2.2.take r.2.2.1.par=[p,q])(h:∀(kV gS pm:Value) (an:Option Addr) (eQ ct u v:Value),bindArgs (PySem.W.fnOf r.1 r.1 (dB (top r.2.1)) (b7 (top r.2.1)) (aH (top r.2.1)) .none kV gS pm an eQ ct) ⟨[u,v],[]⟩=pure [(p,u),(q,v)]):Jh (r::l):=
 ⟨λkV gS pm an eQ ct us hl=>by rw[e]at hl⊢;obtain⟨u,v,rfl⟩:=MQ hl;exact h kV gS pm an eQ ct u v,H⟩
def Wm(e:r.2.2.2.take r.2.2.1.par=[p,q,o])(h:∀(kV gS pm:Value) (an:Option Addr) (eQ ct u v w:Value),bindArgs (PySem.W.fnOf r.1 r.1 (dB (top r.2.1)) (b7 (top r.2.1)) (aH (top r.2.1)) .none kV gS pm an eQ ct) ⟨[u,v,w],[]⟩=pure [(p,u),(q,v),(o,w)]):Jh (r::l):=
 ⟨λkV gS pm an eQ ct us hl=>by rw[e]at hl⊢;obtain⟨u,v,w,rfl⟩:=QL hl;exact h kV gS pm an eQ ct u v w,H⟩
end
def Wn:Jh tb:=by
 repeat first
  |refine Wk ?_ rfl λ_ _ _ _ _ _ _=>rfl
  |refine Wl ?_ rfl λ_ _ _ _ _ _ _ _=>rfl
  |refine Wm ?_ rfl λ_ _ _ _ _ _ _ _ _=>rfl
 exact trivial
theorem Fs:∀{l:List Row},Jh l->∀r∈l,Bd r
 |_::_,h,_,.head _=>h.1
 |_::_,h,r,.tail _ m=>Fs h.2 r m
def Dh(K:PySem.W.Frag)(r:Row):Prop:=∃(f:Addr) (fd:FuncData),EA K r.1 r.1 (top r.2.1) f fd/\PySem.W.nsIn K mainGlobals r.1=some (some (.ref f))
def Nf(K:PySem.W.Frag):List Row->Prop
 |[]=>True
 |r::l=>Dh K r/\Nf K l
theorem Bi{K:PySem.W.Frag}:∀{l:List Row},Nf K l->∀r∈l,Dh K r
 |_::_,h,_,.head _=>h.1
 |_::_,h,r,.tail _ m=>Bi h.2 r m
def Wo{K:PySem.W.Frag}{r:List Row}{x:Str}{i:Nat}{d:Fd}{N:List Str}{f:Addr}{oc:Value}{od an:Option Addr}{sl:Array (Option Value)}{kV dc pm cd ct:Value}(a:PySem.W.nsIn K mainGlobals x=some (some (.ref f)))
  (l:K.lookup f=some ⟨oc,od,.func (PySem.W.fnOf x x (dB (top i)) (b7 (top i)) (aH (top i)) .none kV dc pm an cd ct),sl⟩) (c:PySem.W.codeIn K cd x=true) (k:PySem.W.keepIn K (.ref f)=true) (h:Nf K r):Nf K ((x,i,d,N)::r):=
 ⟨⟨f,_,Gv l c k,a⟩,h⟩
def Zs(K:PySem.W.Frag):List Str->Prop
 |[]=>True
 |x::l=>PySem.W.nsIn K mainGlobals x=some none/\Zs K l
def zs{K:PySem.W.Frag}(a:PySem.W.nsIn K mainGlobals x=some none)(h:Zs K l):Zs K (x::l):=⟨a,h⟩
theorem Ft{K:PySem.W.Frag}(X:K.In h)(GM:h.Ns mainGlobals mg):∀{l:List Str},Zs K l->∀x∈l,mg x=none
 |_::_,z,_,.head _=>PySem.W.mg_none_of X GM z.1
 |_::_,z,x,.tail _ m=>Ft X GM z.2 x m
def all_mk{l:PySem.W.OpenLaw}{w:World}{K:PySem.W.Frag}{h:Heap}{mg:Str->Option Value}{fa:Addr}(X:K.In h)(GM:h.Ns mainGlobals mg)(Wq:mg "law"=some (.ref fa))(D:Nf K tb)(Z:Zs K iG):
  ∃fd:FuncData,(∀(s:Shared) (v:Value),BindsTo s fd ⟨[v],[]⟩ [("_law_script",v)])/\∀base:Heap,K.In base->base.Ns mainGlobals mg->iQ l.prog w K mg base wu (6+1) fa fd ["_law_script"] (u5 K 1 (run T (6+1) 29)):=by
 have hb:=Ft X GM Z
 have yc:∀(x:Str) (i:Int),(x,i)∈G.2->∃t,mg x=some (.int i t):=λx i hx=>nomatch hx
 have cr:∀r∈tb,gI r.2.2.2 (r.2.2.2.take r.2.2.1.par) (aH (top r.2.1))/\hJ G r.2.2.1.body r.2.2.2 (aH (top r.2.1)) (b7 (top r.2.1))=true/\(r.2.2.2.take r.2.2.1.par).length =r.2.2.1.par/\r.2.2.2.length=r.2.2.1.jI:=λr hr=>by
  have h:=Ya.mp ck r hr
  unfold Tq at h
  simp only[WX,decide_eq_true_eq,Ya,Y8]at h
  obtain⟨⟨⟨⟨⟨⟨⟨⟨h1,h2⟩,h3⟩,h4⟩,h5⟩,h6⟩,h7⟩,h8⟩,h9⟩:=h
  exact⟨⟨h1,h2,h3,h4,by rw[h5],h6,h7⟩,h8,h5,h9⟩
 have mX:∀(base:Heap) (f:Nat) (x:Str),G.1[f]?=some x->tY l.prog w K mg base G T f x:=λbase f x hf=>by
  obtain⟨r,hr,rfl⟩:=YV.mp ((Xb ..).symm.trans hf)
  have hm:=XU hr
  obtain⟨fa,fd,F,a⟩:=Bi D r hm
  obtain⟨S,ok,l1,l2⟩:=cr r hm
  refine Ag.step hb yc (d:=r.2.2.1) ?_ ⟨top r.2.1,fa,fd,_,_,F,S,F.binds (Fs Wn r hm),PySem.W.mg_of X GM a,ok,l1,l2⟩
  show(tb.map λr=>r.2.2.1)[f]?=_
  rw[Xb,hr];rfl
 have hl:tb[29]?=some (("law",33,IU,["_law_script","_law_size","_law_one","_law_other","_law_here","_law_there","_law_ones","_law_others","_law_both","_law_found","_law_turn_here","_law_moved"]):Row):=rfl
 have hm:=XU hl
 obtain⟨f,fd,F,a⟩:=Bi D _ hm
 cases Wq.symm.trans (PySem.W.mg_of X GM a)
 obtain⟨S,ok,l1,l2⟩:=cr _ hm
 obtain⟨oc,od,kV,gS,pm,an,eQ,ct,BL,rfl,_⟩:=id F.ex
 exact⟨_,λs v=> .of_eq rfl,λbase _ _=>Ai (n:=6) (f:=29) (d:=IU) (ps:=["_law_script"]) hb yc (DH (mX base) 6) F S rfl ok l1 l2⟩
end cq
def Wr:PySem.Stmt:=cq.top 0
def fG:PySem.Stmt:=cq.top 1
def cJ:PySem.Stmt:=cq.top 2
def kE:PySem.Stmt:=cq.top 3
def Jr:PySem.Stmt:=cq.top 4
def wk:PySem.Stmt:=cq.top 5
def Ws:PySem.Stmt:=cq.top 6
def KQ:PySem.Stmt:=cq.top 7
def Wt:PySem.Stmt:=cq.top 8
def Wu:PySem.Stmt:=cq.top 9
def Ri:PySem.Stmt:=cq.top 10
def Rj:PySem.Stmt:=cq.top 11
def Rk:PySem.Stmt:=cq.top 12
def Rl:PySem.Stmt:=cq.top 13
def Rm:PySem.Stmt:=cq.top 14
def Rn:PySem.Stmt:=cq.top 15
def Ro:PySem.Stmt:=cq.top 16
def Rp:PySem.Stmt:=cq.top 17
def Rq:PySem.Stmt:=cq.top 18
def Rr:PySem.Stmt:=cq.top 19
def Rt:PySem.Stmt:=cq.top 20
def Ru:PySem.Stmt:=cq.top 21
def Rv:PySem.Stmt:=cq.top 22
def Rw:PySem.Stmt:=cq.top 23
def Rx:PySem.Stmt:=cq.top 24
def Ry:PySem.Stmt:=cq.top 25
def Rz:PySem.Stmt:=cq.top 26
def RA:PySem.Stmt:=cq.top 27
def RB:PySem.Stmt:=cq.top 28
def RC:PySem.Stmt:=cq.top 29
def RD:PySem.Stmt:=cq.top 30
def RE:PySem.Stmt:=cq.top 31
def RF:PySem.Stmt:=cq.top 32
def RG:PySem.Stmt:=cq.top 33
def Wv:PySem.Program:={PySem.Challenge.pw_turnyard_k21_together_and_shared with main:={PySem.Challenge.pw_turnyard_k21_together_and_shared.main with body:=[Wr,fG,cJ,kE,Jr,wk,Ws,KQ,Wt,Wu,Ri,Rj,Rk,Rl,Rm,Rn,Ro,Rp,Rq,Rr,Rt,Ru,Rv,Rw,Rx,Ry,Rz,RA,RB,RC,RD,RE,RF,RG]}}
def Tr:PySem.W.OpenLaw:={PySem.Challenge.rw_turnyard_k21_together_and_shared with prog:=Wv}
open PySem PySem.W PyProof.Rows
set_option maxRecDepth 100000 in
set_option maxHeartbeats 0 in
def hh:Tr.Holds:=by
 w_on;o_law;k_head;(case hw=>w_witness2)
 k_fill
 refine Py.MO (x:="_law_script") (l:=Tr) (T:=cq.T) (n:=6+1) (f:=29) rfl rfl (by decide) (λw h Y=>PySem.W.kIn_of Y) ?F cq.holds
 case F=>
  intro w mg fa h KX G KD
  refine' cq.all_mk KX G KD ?D ?Z
  (case D=>
   iterate 30 (apply cq.Wo;(case a=>k_is);(case l=>k_is);(case c=>k_is);(case k=>k_is))
   exact trivial)
  (case Z=>
   iterate 12 (apply cq.zs;(case a=>k_is))
   exact trivial)
theorem PySem.Challenge.cw_turnyard_k21_together_and_shared_holds : PySem.Challenge.rw_turnyard_k21_together_and_shared.Holds :=
 hh
