import PyProof.Rows.All
import Wide.All
import OpenK.AllK
import Wide.FinOn
import Lean
import PyProof.EqAt
import PyProof.EqKinds
import PyProof.TupleCall
import PyProof.CompFree
import PyProof.WalkInts
import PyProof.StrBlockI
import PyProof.StrBlockL
import PyProof.Rows.StrJoinMade
import PyProof.ZipIter
import KE.KRevSl
import PyProof.Rows.StrSplitAre
import PyProof.StrBlockH
import PyProof.MeetsSeq
import PyProof.Rows.SortRuns
import KE.KSortTup
import KE.KDictSum
import PyProof.DictValues
import PyProof.TableCode
import PySem.Challenge.RW_turnyard_k15_ladders_told
set_option linter.all false
def W6:=@PySem.wpAny_bind
def W7:=@Bool.and_eq_true
def W8:=@PySem.Heap.get?_push_of_some
def W9:=@List.getElem?_eq_getElem
def W_:=@List.mem_cons_of_mem
def Xa:=@Bool.false_ne_true
def Xb:=@List.length_map
def Xc:=@List.mem_singleton
def Xd:=@List.mem_cons_self
def Xe:=@PySem.wpAny_pure
def Xf:=@Nat.le_refl
def Xg:=@List.mem_map
def Xh:=@List.size_toArray
def Xi:=@List.getD_eq_getElem?_getD
def Xj:=@Nat.lt_of_lt_of_le
def Xk:=@List.length_append
def Xl:=@List.mem_cons
def Xm:=@PySem.Heap.lt_size
def Xn:=@List.getElem?_map
def Xo:=@Array.toList_append
def Xp:=@PySem.Heap.get?_push_size
def Xq:=@Nat.le_trans
def Xr:=@List.mem_append
def Xs:=@if_pos
def Xt:=@List.length_cons
def Xu:=@List.getElem?_eq_some_iff
def Xv:=@List.mem_append_right
def Xw:=@Option.some.inj
def Xx:=@if_neg
def Xy:=@List.map_cons
def Xz:=@List.getElem?_eq_none
def XA:=@List.getElem?_set_ne
def XB:=@List.getElem?_set_self
def XC:=@List.mem_append_left
def XD:=@Nat.ne_of_lt
def XE:=@Array.length_toList
def XF:=@PySem.Heap.get?_update_other
def XG:=@List.length_singleton
def XH:=@Nat.lt_of_le_of_lt
def XI:=@List.append_assoc
def XJ:=@PySem.wpAny_newObj_type
def XM:=@List.pairwise_append
def XN:=@PyProof.Rows.slot_tuple_getitem
def XO:=@List.all_eq_true
def XQ:=@Nat.zero_le
def XR:=@List.nodup_cons
def XS:=@Nat.add_le_add_left
def XT:=@Nat.le_add_right
def XU:=@List.mem_range
def XW:=@Array.getElem?_eq_getElem
def XX:=@List.map_append
def XY:=@List.map_map
def XZ:=@List.getElem?_append_left
def X0:=@PySem.mem_of_lookup
def X1:=@List.length_set
def X2:=@Nat.lt_irrefl
def X3:=@List.take_of_length_le
def X4:=@List.getElem?_append_right
def X5:=@Array.getElem_mem
def X6:=@PySem.wpAny_holding
def X7:=@List.append_nil
def X8:=@Array.getElem?_toList
def X9:=@List.drop_eq_getElem_cons
def X_:=@PySem.wpAny_truthy_bool
def X':=@Nat.add_sub_of_le
def Ya:=@Ne.symm
def Yb:=@Nat.le_of_lt
def Yc:=@List.nodup_iff_pairwise_ne
def Yd:=@Int.toNat_natCast
def Ye:=@Array.toList_reverse
def Yf:=@Nat.lt_or_ge
def Yg:=@Nat.le_sub_one_of_lt
def Yh:=@Int.emod_lt_of_pos
def Yi:=@Nat.add_lt_add_left
def Yj:=@Int.emod_nonneg
def Yk:=@PySem.wpAny_call_entry
def Yl:=@List.mem_reverse
def Ym:=@List.take_sublist
def Yn:=@PySem.wpAny_callSpecial?_slot
def Yo:=@Nat.le_of_lt_succ
def Yp:=@List.drop_sublist
def Yq:=@List.mem_of_getElem?
def Yr:=@Bool.false_eq_true
def Ys:=@List.pairwise_cons
def Yt:=@PySem.F.plain_min_loop
def Yu:=@List.mem_flatMap
def Yv:=@List.ext_getElem?
def Yw:=@Nat.zero_add
def Yx:=@List.pairwise_map
def Yy:=@List.nodup_append
def Yz:=@PySem.F.slot_dict_keyiterator_next
def YA:=@Nat.min_eq_left
def YB:=@List.length_take
def YC:=@Option.bind_some
def YD:=@PySem.wpAny_mono
def YE:=@List.getElem?_range
def YF:=@Classical.byContradiction
def YG:=@PySem.Heap.size_push
def YH:=@List.pairwise_iff_getElem
def YI:=@List.mem_filter
def YJ:=@PySem.wpAny_loadPart'
def YK:=@Nat.le_antisymm
def YL:=@PySem.wpAny_typeNameOfWhole_keyiter
def YM:=@Array.toList_extract
def YN:=@Array.mem_toList_iff
def YO:=@List.mem_of_mem_take
def YQ:=@Nat.lt_succ_of_lt
def YR:=@PyProof.Rows.callWith_type1
def YS:=@List.length_nil
def YT:=@List.nil_append
def YU:=@List.length_pos_of_mem
def YV:=@PySem.F.slot_tuple_iterator_next
def YW:=@Nat.lt_succ_self
def YX:=@List.getElem_mem
def YY:=@PySem.Heap.get?_update_self
def YZ:=@List.mem_of_mem_drop
def Y0:=@Nat.sub_le_sub_right
def Y1:=@PySem.wpAny_passesOwn
def Y2:=@List.forIn_cons
def Y3:=@List.find?_cons
def Y4:=@PySem.wpAny_typeNameOf_keyiter
def Y5:=@Nat.not_lt_zero
def Y6:=@Array.toList_push
def Y7:=@Nat.add_sub_assoc
def Y8:=@List.set_eq_of_length_le
def Y9:=@Int.ediv_nonneg
def Y_:=@List.filterMap_cons
def Y':=@PySem.wpAny_field
def Za:=@Nat.sub_le_sub_left
def Zb:=@Nat.add_sub_cancel_left
def Zc:=@List.getElem_of_mem
def Zd:=@List.all_cons
def Ze:=@PySem.F.plainAttrs_list
def Zf:=@Nat.sub_le
def Zg:=@PySem.Calls.callWith_builtin
def Zh:=@List.filter_eq_nil_iff
def Zi:=@PySem.wpAny_pyIter_tuple
def Zj:=@List.length_replicate
def Zk:=@Nat.le_of_eq
def Zl:=@Nat.lt_trans
def Zm:=@Bool.or_eq_true
def Zn:=@List.Perm.append_left
def Zo:=@List.take_append_drop
def Zp:=@List.pairwise_reverse
def Zq:=@List.dropLast_eq_take
def Zr:=@PySem.Paired.length
def Zt:=@PySem.wpAny_pyIter_list
def Zu:=@PySem.wpAny_rule
def Zv:=@Array.toList_setIfInBounds
def Zw:=@PySem.Around.under_plainId
def Zx:=@List.range_eq_range'
def Zy:=@List.drop_zero
def Zz:=@PySem.Calls.call_function_entry
def ZA:=@Nat.sub_lt_left_of_lt_add
def ZC:=@List.length_drop
def ZD:=@List.lookup_cons
def ZF:=@List.filter_cons
def ZG:=@PySem.Heap.SameBut.update
def ZH:=@List.replicate_succ
def ZI:=@List.map_congr_left
def ZJ:=@Nat.ne_of_gt
def ZK:=@PySem.F.args_tuple_add_2
def ZL:=@PySem.wpAny_Call_Name_kw
def ZM:=@PySem.F.entry_tuple_add
def ZN:=@Option.map_some
def ZO:=@PySem.Obj.data_mapFields
def ZP:=@PySem.codeAny_builtin
def ZQ:=@Nat.add_assoc
def ZR:=@List.getElem?_take
def ZS:=@List.pairwise_singleton
def ZT:=@List.length_zip
def ZU:=@Int.natCast_nonneg
def ZV:=@PySem.F.slot_tuple_add
def ZW:=@Option.map_eq_some_iff
def ZX:=@PySem.F.entry_min_loop
def ZY:=@List.reverse_cons
def ZZ:=@Nat.sub_pos_of_lt
def Z0:=@Nat.lt_trichotomy
def Z1:=@Array.toList_eraseIdxIfInBounds
def Z2:=@Bool.not_eq_true'
def Z3:=@List.length_range
def Z4:=@List.flatMap_cons
def Z5:=@PySem.wpAny_seqItems
def Z6:=@PySem.wpAny_setField
def Z7:=@Bool.and_false
def Z8:=@PySem.F.args_dict_keyiterator_next_1
def Z9:=@PySem.wpAny_isOneOf_keyiter
def Z_:=@Nat.le_of_sub_eq_zero
def Z':=@Nat.le_sub_of_add_le'
def aaa:=@List.getElem?_replicate_of_lt
def aab:=@List.range'_succ
def aac:=@Array.toList_map
def aad:=@PySem.F.entry_dict_keyiterator_next
def aae:=@List.isEmpty_iff
def aaf:=@PySem.F.args_tuple_iterator_next_1
def aag:=@List.of_mem_zip
def aah:=@PySem.F.entry_tuple_iterator_next
def aai:=@Array.Perm.refl
def aaj:=@Nat.min_le_left
def aak:=@PySem.Calls.Name_function_global
def aal:=@Array.perm_iff_toList_perm
def aam:=@List.zip_cons_cons
def aan:=@PySem.wpAny_typeOf
def aao:=@List.map_nil
def aap:=@List.lookup_append
def aaq:=@Nat.sub_add_cancel
def aar:=@Nat.add_zero
def aas:=@Nat.min_self
def aat:=@List.drop_drop
def aau:=@PySem.wpAny_fieldsOf
def aav:=@Nat.sub_add_eq
def aaw:=@List.mem_take_iff_getElem
def aax:=@List.mem_drop_iff_getElem
def aay:=@PySem.wpAny_tryCatch
def aaz:=@List.getLast?_eq_getElem?
def aaA:=@PySem.wpAny_sequenceKey
def aaB:=@PySem.wpAny_comprehension_free
def aaC:=@PySem.wpAny_pyIter_enum
def aaD:=@PySem.F.slot_tuple_index
def aaE:=@List.flatten_cons
def aaF:=@Option.isSome_map
def aaG:=@List.reverse_perm
def aaH:=@PySem.wpAny_dictEntries
def aaI:=@Nat.not_lt
def aaJ:=@PySem.F.slot_dict_values
def aaK:=@PySem.F.slot_list_extend
def aaL:=@PySem.F.type_list_extend
def aaM:=@List.length_erase_of_mem
def aaN:=@Sum.inl.inj
def aaO:=@PySem.wpAny_standAt
def aaP:=@List.getElem?_replicate
def aaQ:=@PySem.wpAny_letGo
def aaR:=@PySem.wpAny_newList
def aaS:=@PySem.F.slot_tuple_rmul
def aaT:=@PySem.wpAny_eqBool_int
def aaU:=@Nat.min_le_right
def aaV:=@Nat.le_of_not_lt
def aaW:=@List.map_snd_zip
def aaX:=@Nat.lt_of_not_le
def aaY:=@Nat.le_max_right
def aaZ:=@Nat.min_eq_right
def aba:=@Nat.succ_le_succ
def abb:=@List.drop_length
def abc:=@List.cons_append
def abd:=@PySem.W.cellsFrom_some
def abe:=@PySem.F.slot_tuple_mul
def abf:=@Nat.lt_sub_iff_add_lt'
def abg:=@List.drop_eq_nil_of_le
def abh:=@List.reverse_singleton
def abi:=@Classical.epsilon_spec
def abj:=@List.pairwise_lt_range
def abk:=@PySem.wpAny_execs_nil
def abl:=@PySem.codeAny_mono
def abm:=@List.lookup_cons_self
def abn:=@List.perm_append_comm
def abo:=@PySem.wpAny_dictEpoch
def abp:=@Nat.add_lt_of_lt_sub'
def abq:=@PySem.wpAny_updateSeq
def abr:=@List.eq_nil_or_concat
def abt:=@List.concat_eq_append
def abu:=@Array.toArray_toList
def abv:=@Nat.add_le_add_right
def abw:=@Bool.or_eq_false_iff
def abx:=@List.take_take
def aby:=@PyProof.Rows.lt_int
def abz:=@PySem.evalArgs_none
def abA:=@List.length_reverse
def abB:=@List.map_id
def abC:=@Prod.mk.inj
def abD:=@List.filter_sublist
def abE:=@List.map_eq_flatMap
def abF:=@List.mem_filterMap
def abG:=@PySem.W.callWith_K
def abH:=@Option.isSome_some
def abI:=@List.any_cons
def abJ:=@Nat.add_right_comm
def abK:=@List.getElem?_drop
def abL:=@Nat.pos_of_ne_zero
def abM:=@Array.size_extract
def abN:=@Bool.and_self
def abO:=@Int.le_trans
def ao(h:¬p->False):p:=YF h
section
variable {q:Prop}{α β γ δ ε ζ η θ ι κ:Sort _}
def cS(x:A/\B/\C)(k:A->B->C->q):q:=k x.1 x.2.1 x.2.2
def yA(x:A/\B/\C/\D)(k:A->B->C->D->q):q:=cS x.2 (k x.1)
def Kl(x:A/\B/\C/\D/\E)(k:A->B->C->D->E->q):q:=yA x.2 (k x.1)
def va(x:A/\B/\C/\D/\E/\F)(k:A->B->C->D->E->F->q):q:=Kl x.2 (k x.1)
def RV(x:A/\B/\C/\D/\E/\F/\G)(k:A->B->C->D->E->F->G->q):q:=va x.2 (k x.1)
def RW(x:A/\B/\C/\D/\E/\F/\G/\H)(k:A->B->C->D->E->F->G->H->q):q:=RV x.2 (k x.1)
def TR(x:A/\B/\C/\D/\E/\F/\G/\H/\I)(k:A->B->C->D->E->F->G->H->I->q):q:=RW x.2 (k x.1)
def OB(x:A/\B/\C/\D/\E/\F/\G/\H/\I/\J)(k:A->B->C->D->E->F->G->H->I->J->q):q:=TR x.2 (k x.1)
variable {A B C D E F G H I J:α->Prop}
def ab(x:∃a,A a/\B a)(k:∀a,A a->B a->q):q:=x.elim λa x=>k a x.1 x.2
def bF(x:∃a,A a/\B a/\C a)(k:∀a,A a->B a->C a->q):q:=x.elim λa x=>cS x (k a)
def B8(x:∃a,A a/\B a/\C a/\D a)(k:∀a,A a->B a->C a->D a->q):q:=x.elim λa x=>yA x (k a)
def JN(x:∃a,A a/\B a/\C a/\D a/\E a)(k:∀a,A a->B a->C a->D a->E a->q):q:=x.elim λa x=>Kl x (k a)
def TU(x:∃a,A a/\B a/\C a/\D a/\E a/\F a)(k:∀a,A a->B a->C a->D a->E a->F a->q):q:=x.elim λa x=>va x (k a)
def TV(x:∃a,A a/\B a/\C a/\D a/\E a/\F a/\G a)(k:∀a,A a->B a->C a->D a->E a->F a->G a->q):q:=x.elim λa x=>RV x (k a)
def TX(x:∃a,A a/\B a/\C a/\D a/\E a/\F a/\G a/\H a)(k:∀a,A a->B a->C a->D a->E a->F a->G a->H a->q):q:=x.elim λa x=>RW x (k a)
def OC(x:∃a,A a/\B a/\C a/\D a/\E a/\F a/\G a/\H a/\I a/\J a)(k:∀a,A a->B a->C a->D a->E a->F a->G a->H a->I a->J a->q):q:=x.elim λa x=>OB x (k a)
variable {A B C D E F G H I J:α->β->Prop}
def E2(x:∃a b,A a b)(k:∀a b,A a b->q):q:=x.elim λa x=>x.elim (k a)
def eW(x:∃a b,A a b/\B a b)(k:∀a b,A a b->B a b->q):q:=x.elim λa x=>ab x (k a)
def a_(x:∃a b,A a b/\B a b/\C a b)(k:∀a b,A a b->B a b->C a b->q):q:=x.elim λa x=>bF x (k a)
def gq(x:∃a b,A a b/\B a b/\C a b/\D a b)(k:∀a b,A a b->B a b->C a b->D a b->q):q:=x.elim λa x=>B8 x (k a)
def kP(x:∃a b,A a b/\B a b/\C a b/\D a b/\E a b)(k:∀a b,A a b->B a b->C a b->D a b->E a b->q):q:=x.elim λa x=>JN x (k a)
def OD(x:∃a b,A a b/\B a b/\C a b/\D a b/\E a b/\F a b)(k:∀a b,A a b->B a b->C a b->D a b->E a b->F a b->q):q:=x.elim λa x=>TU x (k a)
def RX(x:∃a b,A a b/\B a b/\C a b/\D a b/\E a b/\F a b/\G a b)(k:∀a b,A a b->B a b->C a b->D a b->E a b->F a b->G a b->q):q:=x.elim λa x=>TV x (k a)
def TY(x:∃a b,A a b/\B a b/\C a b/\D a b/\E a b/\F a b/\G a b/\H a b)(k:∀a b,A a b->B a b->C a b->D a b->E a b->F a b->G a b->H a b->q):q:=x.elim λa x=>TX x (k a)
def OE(x:∃a b,A a b/\B a b/\C a b/\D a b/\E a b/\F a b/\G a b/\H a b/\I a b/\J a b)(k:∀a b,A a b->B a b->C a b->D a b->E a b->F a b->G a b->H a b->I a b->J a b->q):q:=x.elim λa x=>OC x (k a)
variable {A B C D E F G H I J:α->β->γ->Prop}
def NN(x:∃a b c,A a b c)(k:∀a b c,A a b c->q):q:=x.elim λa x=>E2 x (k a)
def lG(x:∃a b c,A a b c/\B a b c)(k:∀a b c,A a b c->B a b c->q):q:=x.elim λa x=>eW x (k a)
def cL(x:∃a b c,A a b c/\B a b c/\C a b c)(k:∀a b c,A a b c->B a b c->C a b c->q):q:=x.elim λa x=>a_ x (k a)
def Km(x:∃a b c,A a b c/\B a b c/\C a b c/\D a b c)(k:∀a b c,A a b c->B a b c->C a b c->D a b c->q):q:=x.elim λa x=>gq x (k a)
def tW(x:∃a b c,A a b c/\B a b c/\C a b c/\D a b c/\E a b c)(k:∀a b c,A a b c->B a b c->C a b c->D a b c->E a b c->q):q:=x.elim λa x=>kP x (k a)
def Ko(x:∃a b c,A a b c/\B a b c/\C a b c/\D a b c/\E a b c/\F a b c)(k:∀a b c,A a b c->B a b c->C a b c->D a b c->E a b c->F a b c->q):q:=x.elim λa x=>OD x (k a)
def RY(x:∃a b c,A a b c/\B a b c/\C a b c/\D a b c/\E a b c/\F a b c/\G a b c)(k:∀a b c,A a b c->B a b c->C a b c->D a b c->E a b c->F a b c->G a b c->q):q:=x.elim λa x=>RX x (k a)
def TZ(x:∃a b c,A a b c/\B a b c/\C a b c/\D a b c/\E a b c/\F a b c/\G a b c/\H a b c)(k:∀a b c,A a b c->B a b c->C a b c->D a b c->E a b c->F a b c->G a b c->H a b c->q):q:=x.elim λa x=>TY x (k a)
def OF(x:∃a b c,A a b c/\B a b c/\C a b c/\D a b c/\E a b c/\F a b c/\G a b c/\H a b c/\I a b c/\J a b c)(k:∀a b c,A a b c->B a b c->C a b c->D a b c->E a b c->F a b c->G a b c->H a b c->I a b c->J a b c->q):q:=x.elim λa x=>OE x (k a)
variable {A B C D E F G H I J:α->β->γ->δ->Prop}
def RZ(x:∃a b c d,A a b c d)(k:∀a b c d,A a b c d->q):q:=x.elim λa x=>NN x (k a)
def nI(x:∃a b c d,A a b c d/\B a b c d)(k:∀a b c d,A a b c d->B a b c d->q):q:=x.elim λa x=>lG x (k a)
def Gf(x:∃a b c d,A a b c d/\B a b c d/\C a b c d)(k:∀a b c d,A a b c d->B a b c d->C a b c d->q):q:=x.elim λa x=>cL x (k a)
def Kp(x:∃a b c d,A a b c d/\B a b c d/\C a b c d/\D a b c d)(k:∀a b c d,A a b c d->B a b c d->C a b c d->D a b c d->q):q:=x.elim λa x=>Km x (k a)
def qU(x:∃a b c d,A a b c d/\B a b c d/\C a b c d/\D a b c d/\E a b c d)(k:∀a b c d,A a b c d->B a b c d->C a b c d->D a b c d->E a b c d->q):q:=x.elim λa x=>tW x (k a)
def E3(x:∃a b c d,A a b c d/\B a b c d/\C a b c d/\D a b c d/\E a b c d/\F a b c d)(k:∀a b c d,A a b c d->B a b c d->C a b c d->D a b c d->E a b c d->F a b c d->q):q:=x.elim λa x=>Ko x (k a)
def T1(x:∃a b c d,A a b c d/\B a b c d/\C a b c d/\D a b c d/\E a b c d/\F a b c d/\G a b c d)(k:∀a b c d,A a b c d->B a b c d->C a b c d->D a b c d->E a b c d->F a b c d->G a b c d->q):q:=x.elim λa x=>RY x (k a)
def R1(x:∃a b c d,A a b c d/\B a b c d/\C a b c d/\D a b c d/\E a b c d/\F a b c d/\G a b c d/\H a b c d)(k:∀a b c d,A a b c d->B a b c d->C a b c d->D a b c d->E a b c d->F a b c d->G a b c d->H a b c d->q):q:=x.elim λa x=>TZ x (k a)
def OG(x:∃a b c d,A a b c d/\B a b c d/\C a b c d/\D a b c d/\E a b c d/\F a b c d/\G a b c d/\H a b c d/\I a b c d/\J a b c d)(k:∀a b c d,A a b c d->B a b c d->C a b c d->D a b c d->E a b c d->F a b c d->G a b c d->H a b c d->I a b c d->J a b c d->q):q:=x.elim λa x=>OF x (k a)
variable {A B C D E F G H I J:α->β->γ->δ->ε->Prop}
def JO(x:∃a b c d e,A a b c d e/\B a b c d e)(k:∀a b c d e,A a b c d e->B a b c d e->q):q:=x.elim λa x=>nI x (k a)
def T3(x:∃a b c d e,A a b c d e/\B a b c d e/\C a b c d e)(k:∀a b c d e,A a b c d e->B a b c d e->C a b c d e->q):q:=x.elim λa x=>Gf x (k a)
def OH(x:∃a b c d e,A a b c d e/\B a b c d e/\C a b c d e/\D a b c d e)(k:∀a b c d e,A a b c d e->B a b c d e->C a b c d e->D a b c d e->q):q:=x.elim λa x=>Kp x (k a)
def NO(x:∃a b c d e,A a b c d e/\B a b c d e/\C a b c d e/\D a b c d e/\E a b c d e)(k:∀a b c d e,A a b c d e->B a b c d e->C a b c d e->D a b c d e->E a b c d e->q):q:=x.elim λa x=>qU x (k a)
def R3(x:∃a b c d e,A a b c d e/\B a b c d e/\C a b c d e/\D a b c d e/\E a b c d e/\F a b c d e)(k:∀a b c d e,A a b c d e->B a b c d e->C a b c d e->D a b c d e->E a b c d e->F a b c d e->q):q:=x.elim λa x=>E3 x (k a)
def T4(x:∃a b c d e,A a b c d e/\B a b c d e/\C a b c d e/\D a b c d e/\E a b c d e/\F a b c d e/\G a b c d e)(k:∀a b c d e,A a b c d e->B a b c d e->C a b c d e->D a b c d e->E a b c d e->F a b c d e->G a b c d e->q):q:=x.elim λa x=>T1 x (k a)
def T8(x:∃a b c d e,A a b c d e/\B a b c d e/\C a b c d e/\D a b c d e/\E a b c d e/\F a b c d e/\G a b c d e/\H a b c d e)(k:∀a b c d e,A a b c d e->B a b c d e->C a b c d e->D a b c d e->E a b c d e->F a b c d e->G a b c d e->H a b c d e->q):q:=x.elim λa x=>R1 x (k a)
def OI(x:∃a b c d e,A a b c d e/\B a b c d e/\C a b c d e/\D a b c d e/\E a b c d e/\F a b c d e/\G a b c d e/\H a b c d e/\I a b c d e/\J a b c d e)(k:∀a b c d e,A a b c d e->B a b c d e->C a b c d e->D a b c d e->E a b c d e->F a b c d e->G a b c d e->H a b c d e->I a b c d e->J a b c d e->q):q:=x.elim λa x=>OG x (k a)
variable {A B C D E F G H I J:α->β->γ->δ->ε->ζ->Prop}
def T9(x:∃a b c d e f,A a b c d e f/\B a b c d e f/\C a b c d e f)(k:∀a b c d e f,A a b c d e f->B a b c d e f->C a b c d e f->q):q:=x.elim λa x=>T3 x (k a)
def Kq(x:∃a b c d e f,A a b c d e f/\B a b c d e f/\C a b c d e f/\D a b c d e f/\E a b c d e f)(k:∀a b c d e f,A a b c d e f->B a b c d e f->C a b c d e f->D a b c d e f->E a b c d e f->q):q:=x.elim λa x=>NO x (k a)
def T_(x:∃a b c d e f,A a b c d e f/\B a b c d e f/\C a b c d e f/\D a b c d e f/\E a b c d e f/\F a b c d e f/\G a b c d e f)(k:∀a b c d e f,A a b c d e f->B a b c d e f->C a b c d e f->D a b c d e f->E a b c d e f->F a b c d e f->G a b c d e f->q):q:=x.elim λa x=>T4 x (k a)
def Ua(x:∃a b c d e f,A a b c d e f/\B a b c d e f/\C a b c d e f/\D a b c d e f/\E a b c d e f/\F a b c d e f/\G a b c d e f/\H a b c d e f)(k:∀a b c d e f,A a b c d e f->B a b c d e f->C a b c d e f->D a b c d e f->E a b c d e f->F a b c d e f->G a b c d e f->H a b c d e f->q):q:=x.elim λa x=>T8 x (k a)
def Kr(x:∃a b c d e f,A a b c d e f/\B a b c d e f/\C a b c d e f/\D a b c d e f/\E a b c d e f/\F a b c d e f/\G a b c d e f/\H a b c d e f/\I a b c d e f/\J a b c d e f)(k:∀a b c d e f,A a b c d e f->B a b c d e f->C a b c d e f->D a b c d e f->E a b c d e f->F a b c d e f->G a b c d e f->H a b c d e f->I a b c d e f->J a b c d e f->q):q:=x.elim λa x=>OI x (k a)
variable {A B C D E F G H I J:α->β->γ->δ->ε->ζ->η->Prop}
def Ub(x:∃a b c d e f g,A a b c d e f g/\B a b c d e f g/\C a b c d e f g)(k:∀a b c d e f g,A a b c d e f g->B a b c d e f g->C a b c d e f g->q):q:=x.elim λa x=>T9 x (k a)
def R4(x:∃a b c d e f g,A a b c d e f g/\B a b c d e f g/\C a b c d e f g/\D a b c d e f g/\E a b c d e f g/\F a b c d e f g/\G a b c d e f g)(k:∀a b c d e f g,A a b c d e f g->B a b c d e f g->C a b c d e f g->D a b c d e f g->E a b c d e f g->F a b c d e f g->G a b c d e f g->q):q:=x.elim λa x=>T_ x (k a)
def Uc(x:∃a b c d e f g,A a b c d e f g/\B a b c d e f g/\C a b c d e f g/\D a b c d e f g/\E a b c d e f g/\F a b c d e f g/\G a b c d e f g/\H a b c d e f g)(k:∀a b c d e f g,A a b c d e f g->B a b c d e f g->C a b c d e f g->D a b c d e f g->E a b c d e f g->F a b c d e f g->G a b c d e f g->H a b c d e f g->q):q:=x.elim λa x=>Ua x (k a)
variable {A B C D E F G H I J:α->β->γ->δ->ε->ζ->η->θ->Prop}
def qR(x:∃a b c d e f g h,A a b c d e f g h/\B a b c d e f g h/\C a b c d e f g h)(k:∀a b c d e f g h,A a b c d e f g h->B a b c d e f g h->C a b c d e f g h->q):q:=x.elim λa x=>Ub x (k a)
variable {A B C D E F G H I J:α->β->γ->δ->ε->ζ->η->θ->ι->Prop}
def R6(x:∃a b c d e f g h i,A a b c d e f g h i/\B a b c d e f g h i/\C a b c d e f g h i)(k:∀a b c d e f g h i,A a b c d e f g h i->B a b c d e f g h i->C a b c d e f g h i->q):q:=x.elim λa x=>qR x (k a)
end
set_option bootstrap.genMatcherCode false
set_option genSizeOf false
set_option compiler.extract_closed false
set_option Elab.async false
set_option maxRecDepth 100000
namespace L2
open PySem PySem.Spec PyProof.Rows
abbrev cM:=Sum Int Str
noncomputable def lZ:cM->Value->Bool
 | .inl k,v=>Value.isInt k v
 | .inr x,v=>Value.isStrOf x v
noncomputable def OJ(w:World):cM->Int
 | .inl k=>hashInt k
 | .inr x=>hashStr w x
def aZ:∀{k:cM}{v:Value},lZ k v=true->(∃i t,k=Sum.inl i/\v=Value.int i t)\/(∃x t,k=Sum.inr x/\v=Value.str x t)
 | .inl i,v,h=>by
  obtain⟨t,e⟩:=Value.isInt_shape (k:=i) (v:=v) h
  exact .inl ⟨i,t,rfl,e⟩
 | .inr x,v,h=>by
  obtain⟨t,e⟩:=Value.isStrOf_shape (x:=x) (v:=v) h
  exact .inr ⟨x,t,rfl,e⟩
def xc(i:Int)(t:Tok):lZ (.inl i) (.int i t)=true:=by simp[lZ,Value.isInt]
def xf(x:Str)(t:Tok):lZ (.inr x) (.str x t)=true:=by simp[lZ,Value.isStrOf]
def Gg(a b:Int):decide ((Sum.inl a:cM)=Sum.inl b)=(a==b):=by
 by_cases e:a=b
 .subst e;simp
 .have h:¬(Sum.inl a:cM)=Sum.inl b:=λq=>e (aaN q)
  rw[decide_eq_false h]
  exact(beq_eq_false_iff_ne.mpr e).symm
def Gh(a b:Str):decide ((Sum.inr a:cM)=Sum.inr b)=decide (a=b):=by
 by_cases e:a=b
 .subst e;simp
 .have h:¬(Sum.inr a:cM)=Sum.inr b:=λq=>e (Sum.inr.inj q)
  rw[decide_eq_false h,decide_eq_false e]
def Gi(a:Int)(b:Str):decide ((Sum.inl a:cM)=Sum.inr b)=false:=decide_eq_false (λq=>nomatch q)
def Gj(a:Str)(b:Int):decide ((Sum.inr a:cM)=Sum.inl b)=false:=decide_eq_false (λq=>nomatch q)
noncomputable def aV(prog:Program)(w:World):PySem.KeyKind prog w cM where
 is:=lZ
 hash:=OJ w
 inj:=λv a b ha hb=>by
  rcases aZ ha with⟨i,t,rfl,rfl⟩|⟨x,t,rfl,rfl⟩
  .rcases aZ hb with⟨j,u,rfl,e⟩|⟨y,u,rfl,e⟩
   .injection e with e1 _;rw[e1]
   .exact nomatch e
  .rcases aZ hb with⟨j,u,rfl,e⟩|⟨y,u,rfl,e⟩
   .exact nomatch e
   .injection e with e1 _;rw[e1]
 byValue:=λk v h=>by
  rcases aZ h with⟨i,t,rfl,rfl⟩|⟨x,t,rfl,rfl⟩<;>rfl
 pyHash:=λhv h=>by
  rcases aZ hv with⟨i,t,rfl,rfl⟩|⟨x,t,rfl,rfl⟩
  .exact wpAny_pyHash_int h
  .exact wpAny_pyHash_str h
 eqBool:=λhu hv h=>by
  rcases aZ hu with⟨i,t,rfl,rfl⟩|⟨x,t,rfl,rfl⟩
  .rcases aZ hv with⟨j,u,rfl,rfl⟩|⟨y,u,rfl,rfl⟩
   .rw[Gg]at h;exact aaT h
   .rw[Gi]at h;exact SeqAt.EqAt.int_str i t y u _ _ _ _ h
  .rcases aZ hv with⟨j,u,rfl,rfl⟩|⟨y,u,rfl,rfl⟩
   .rw[Gj]at h;exact SeqAt.EqAt.str_int x t j u _ _ _ _ h
   .rw[Gh]at h;exact wpAny_eqBool_str h
 «strs»:=λk x t v h=>by
  rcases aZ h with⟨i,u,rfl,e⟩|⟨y,u,rfl,e⟩
  .exact nomatch e
  .injection e with e1 _
   subst e1
   cases v<;>rfl
def qV(prog:Program)(w:World)(i:Int)(t:Tok):(aV prog w).is (.inl i) (.int i t)=true:=xc i t
def qW(prog:Program)(w:World)(x:Str)(t:Tok):(aV prog w).is (.inr x) (.str x t)=true:=xf x t
inductive V where
 |dj|bl (b:Bool)|int (i:Int)|str (x:Str)|Ks (b:Array UInt8)|OK (b:UInt64)|ref (a:Addr)|ty (n:String)
 deriving DecidableEq
def RelV:V->Value->Prop
 | .dj,u=>u=Value.none
 | .bl b,u=>u=Value.bool b
 | .int i,u=>∃t,u=Value.int i t
 | .str x,u=>∃t,u=Value.str x t
 | .Ks b,u=>∃t,u=Value.bytes b t
 | .OK b,u=>∃t,u=Value.float b t
 | .ref a,u=>u=Value.ref a
 | .ty n,u=>u=Value.type n
abbrev aA:List V->List Value->Prop:=Paired RelV
theorem aA.length(r:aA xs us):xs.length=us.length:=Zr r
theorem aA.get:∀{xs:List V}{us:List Value}{i:Nat}{x:V},aA xs us->xs[i]?=some x->∃u,us[i]?=some u/\RelV x u
 |_,_,_,_,.nil,e=>by simp at e
 |_,_,0,_,.cons r _,e=>by simp at e;subst e;exact⟨_,rfl,r⟩
 |_,_,i+1,x,.cons _ t,e=>by
  exact ab (aA.get (i:=i) (x:=x) t (by simpa using e)) λu h1 h2=>⟨u,by simpa using h1,h2⟩
theorem aA.set(r:RelV x u):∀{xs:List V}{us:List Value} (i:Nat),aA xs us->aA (xs.set i x) (us.set i u)
 |_,_,_,.nil => .nil
 |_,_,0,.cons _ t=> .cons r t
 |_,_,i+1,.cons q t=> .cons q (aA.set r i t)
def aA.append:∀{xs ys:List V}{us ws:List Value},aA xs us->aA ys ws->aA (xs++ys) (us++ws):=λ{xs ys us ws} h s=>by
 induction h with
 |nil=>exact s
 |cons r t ih=>exact .cons r ih
theorem aA.take:∀{xs:List V}{us:List Value} (n:Nat),aA xs us->aA (xs.take n) (us.take n)
 |_,_,0,_=> .nil
 |_,_,_+1,.nil => .nil
 |_,_,n+1,.cons r t=> .cons r (aA.take n t)
theorem aA.drop:∀{xs:List V}{us:List Value} (n:Nat),aA xs us->aA (xs.drop n) (us.drop n)
 |_,_,0,r=>r
 |_,_,_+1,.nil => .nil
 |_,_,n+1,.cons _ t=>aA.drop n t
def nM:Option V->Option Value->Prop
 |some v,some u=>RelV v u
 |none,none=>True
 |_,_=>False
def KV{κ:Type}:List (κ×V)->List (κ×Value)->Prop:=Paired λ(p:κ×V) (q:κ×Value)=>p.1=q.1/\RelV p.2 q.2
noncomputable def kV:cM->V
 | .inl i=> .int i
 | .inr x=> .str x
inductive HO where
  |lst (xs:List V)
  |tup (xs:List V)
  |dK (aw:List (cM×V))|dT (aw:List (List cM×V))
  |set (S:Int->Bool) (n:Nat)
  |ins (C dx:Addr) (fs:List (Str×V))
  |own (x:Addr)
  |xd (fs:List (Str×V))
  |met (f x:Addr)
  |eL (lo hi:Int)
  |dH (o:Obj) (u:HO)
  |Gk (ps:Array Value)
  |ext (φ:Heap->Prop)
abbrev Hp:=Addr->Option HO
noncomputable def upd(H:Hp)(a:Addr)(o:HO):Hp:=λb=>if b=a then some o else H b
def ag:upd H a o a=some o:=by unfold upd;rw[Xs rfl]
def ak(h:b≠a):upd H a o b=H b:=by unfold upd;rw[Xx h]
def f7{H:Hp}{a b:Addr}{o u:HO}(h:H a=some o)(h':H b=some u)(d:o≠u):a≠b:=by
 intro e;subst e;rw[h]at h';exact d (Xw h')
def bY{H:Hp}{a b:Addr}{o:HO}(h:H a=some o)(h':H b=none):a≠b:=by
 intro e;subst e;rw[h]at h';cases h'
def ij(h:Heap)(a:Addr)(items:Array Value):Prop:=∃o,h.get? a=some o/\o.cls= .type "tuple"/\(∃n,o.data= .seq items n)/\o.dict=none
def ij.tup{h:Heap}{a:Addr}{items:Array Value}(x:ij h a items):IsTup h a items:=let ⟨o,e,c,d,_⟩:=x;⟨o,e,c,d⟩
def ij.lt{h:Heap}{a:Addr}{items:Array Value}(x:ij h a items):a<h.objs.size:=let ⟨_,ho,_⟩:=x;Xm ho
def ij.new(h:Heap)(items:Array Value):ij (h.push {cls:= .type "tuple",data:= .seq items}) h.objs.size items:=⟨_,Xp _ rfl,rfl,⟨_,rfl⟩,rfl⟩
section
variable (P:Program)(w:World)
def aQ(H:Hp)(h:Heap)(a:Addr):HO->Prop
 | .lst xs=>xs.length<=sizeLine/\∃(its:List Value) (n:Nat),aA xs its/\h.get? a=some {cls:= .type "list",data:= .seq its.toArray n}
 | .tup xs=>xs.length<=sizeLine/\∃its:List Value,aA xs its/\ij h a its.toArray
 | .dK aw=>aw.length<=sizeLine/\(a==sysModules)=false/\∃vs,KV aw vs/\h.DictOf (aV P w) a vs
 | .dT aw=>aw.length<=sizeLine/\(a==sysModules)=false/\∃xs:List (List cM×Addr×Value),
   Paired (λ(p:List cM×V) (q:List cM×Addr×Value)=>p.1=q.1/\H q.2.1=some (.tup (p.1.map kV))/\RelV p.2 q.2.2) aw xs/\
   ∃o es ep,h.get? a=some o/\o.ExactDict/\o.data= .dict es ep/\es.toList=xs.map (entryOfKey (tupleKind (aV P w)))/\(xs.map (·.1)).Nodup
 | .set S n=>h.SetOf (intKind P w) a S n
 | .ins C dx fs=>H dx=some (.own a)/\fs.length<=1000/\dx≠a/\h.get? a=some (PySem.W.instObj C dx)/\
   ∃mA,h.Ns1 dx mA/\(∀f,nM (fs.lookup f) (mA f))/\PySem.Within mA (fs.map (·.1))
 | .own _=>∃o,h.get? a=some o
 | .xd fs=>∃mA,h.Ns1 a mA/\∀f,nM (fs.lookup f) (mA f)
 | .eL lo hi=>∃t u v,h.get? a=some {cls:= .type "range",data:= .fields #[.int lo t,.int hi u,.int 1 v]}
 | .dH o u=>h.get? a=some o/\aQ H h a u
 | .Gk ps=>h.get? a=some {cls:= .none,data:= .fields ps}
 | .met f x=>h.get? a=some (PySem.W.methodObj (.ref f) (.ref x))
 | .ext φ=>φ h/\(∃o,h.get? a=some o)/\∀h1 h2:Heap,φ h1->(∀o,h1.get? a=some o->h2.get? a=some o)->φ h2
def iL(H:Hp)(h:Heap):Prop:=∀a o,H a=some o->aQ P w H h a o
end
section
variable {P:Program}{w:World}{H H':Hp}{h h':Heap}{a:Addr}{o:HO}
theorem aQ.lt(x:aQ P w H h a o):a<h.objs.size:=by
 cases o with
 |lst xs=>obtain⟨_,_,_,_,e⟩:=x;exact Xm e
 |tup xs=>obtain⟨_,_,_,p⟩:=x;exact p.lt
 |dK aw=>obtain⟨_,_,_,_,o,_,_,e,_⟩:=x;exact Xm e
 |dT aw=>obtain⟨_,_,_,_,o,_,_,e,_⟩:=x;exact Xm e
 |set S n=>obtain⟨o,_,_,_,e,_⟩:=x;exact Xm e
 |ins C dx fs=>obtain⟨_,_,_,e,_⟩:=x;exact Xm e
 |own y=>obtain⟨_,e⟩:=x;exact Xm e
 |xd fs=>obtain⟨_,⟨_,_,_,e,_⟩,_⟩:=x;exact Xm e
 |eL lo hi=>obtain⟨_,_,_,e⟩:=x;exact Xm e
 |dH ob u=>obtain⟨e,_⟩:=x;exact Xm e
 |Gk ps=>exact Xm (show h.get? a=some _ from x)
 |met f y=>exact Xm (show h.get? a=some _ from x)
 |ext φ=>obtain⟨_,⟨_,e⟩,_⟩:=x;exact Xm e
def Paired.Kt:∀{Gm:List α}{Gn:List β},Paired F Gm Gn->(∀a b,F a b->G a b)->Paired G Gm Gn:=λ{Gm Gn} h f=>by
 induction h with
 |nil=>exact .nil
 |cons r t ih=>exact .cons (f _ _ r) ih
def aQ.nN(x:aQ P w H h a o)(k:∀b u,(b=a\/H b=some (.own a))->h.get? b=some u->h'.get? b=some u)
  (ho:∀b,H b=some (.own a)->H' b=some (.own a)) (ht:∀b xs,H b=some (.tup xs)->H' b=some (.tup xs)):aQ P w H' h' a o:=by
 induction o with
 |lst xs=>obtain⟨z,its,n,r,e⟩:=x;exact⟨z,its,n,r,k _ _ (.inl rfl) e⟩
 |tup xs=>obtain⟨z,its,r,ob,e,c⟩:=x;exact⟨z,its,r,ob,k _ _ (.inl rfl) e,c⟩
 |dK aw=>obtain⟨z,y,vs,r,ob,es,ep,e,c⟩:=x;exact⟨z,y,vs,r,ob,es,ep,k _ _ (.inl rfl) e,c⟩
 |dT aw=>
  obtain⟨z,y,xs,r,ob,es,ep,e,c⟩:=x
  exact⟨z,y,xs,Paired.Kt r λp q z=>⟨z.1,ht _ _ z.2.1,z.2.2⟩,ob,es,ep,k _ _ (.inl rfl) e,c⟩
 |set S n=>obtain⟨ob,es,ep,t,e,c⟩:=x;exact⟨ob,es,ep,t,k _ _ (.inl rfl) e,c⟩
 |ins C dx fs=>
  obtain⟨d,z,ne,e,mA,⟨od,es,ep,e2,c⟩,r⟩:=x
  exact⟨ho _ d,z,ne,k _ _ (.inl rfl) e,mA,⟨od,es,ep,k _ _ (.inr d) e2,c⟩,r⟩
 |own y=>obtain⟨ob,e⟩:=x;exact⟨ob,k _ _ (.inl rfl) e⟩
 |xd fs=>obtain⟨mA,⟨od,es,ep,e,c⟩,r⟩:=x;exact⟨mA,⟨od,es,ep,k _ _ (.inl rfl) e,c⟩,r⟩
 |eL lo hi=>obtain⟨t,u,v,e⟩:=x;exact⟨t,u,v,k _ _ (.inl rfl) e⟩
 |dH ob u ih=>obtain⟨e,q⟩:=x;exact⟨k _ _ (.inl rfl) e,ih q⟩
 |Gk ps=>
  have e:h.get? a=some {cls:= .none,data:= .fields ps}:=x
  show h'.get? a=some {cls:= .none,data:= .fields ps}
  exact k a _ (.inl rfl) e
 |met f y=>
  have e:h.get? a=some (PySem.W.methodObj (.ref f) (.ref y)):=x
  show h'.get? a=some (PySem.W.methodObj (.ref f) (.ref y))
  exact k a _ (.inl rfl) e
 |ext φ=>obtain⟨p,⟨o,e⟩,st⟩:=x;exact⟨st _ _ p λo q=>k _ _ (.inl rfl) q,⟨o,k _ _ (.inl rfl) e⟩,st⟩
theorem iL.lt(x:iL P w H h)(e:H a=some o):a<h.objs.size:=(x a o e).lt
def iL.fresh(x:iL P w H h)(e:h.objs.size<=a):H a=none:=by
 cases q:H a with
 |none=>rfl
 |some u=>exact absurd (Xj (x.lt q) e) (X2 _)
def iL.kept(x:iL P w H h)(k:∀b u,h.get? b=some u->h'.get? b=some u):iL P w H h':=λa o e=>
 (x a o e).nN (λb u _ q=>k b u q) (λ_ q=>q) λ_ _ q=>q
def iL.laid(x:iL P w H h)(k:∀b u,h.get? b=some u->h'.get? b=some u)(hp:h.objs.size<=a)(new:aQ P w (upd H a o) h' a o):iL P w (upd H a o) h':=λb u e=>by
 have hn:=x.fresh hp
 by_cases hb:b=a
 .subst hb;rw[ag]at e;cases e;exact new
 .rw[ak hb]at e
  exact(x b u e).nN (λc v _ q=>k c v q) (λc q=>by rw[ak (bY q hn)];exact q) λc xs q=>by rw[ak (bY q hn)];exact q
end
def Rd(H:Hp)(a:Addr)(u:HO):Prop:=H a=some u\/∃o,H a=some (.dH o u)
def Rd.ok(r:Rd H a u)(x:iL P w H h):aQ P w H h a u:=by
 rcases r with r|⟨o,r⟩
 .exact x a u r
 .obtain⟨_,q⟩:=x a _ r
  exact q
def yI:Option HO->Prop
 |some (.lst _)=>True
 |some (.dK _)=>True
 |some (.dT _)=>True
 |some (.set _ _)=>True
 |some (.ins _ _ _)=>True
 |some (.ext _)=>True
 |_=>False
section
variable {P:Program}{w:World}{H:Hp}{h h':Heap}{x e:Addr}{o':HO}
def iL.write(ok:iL P w H h)(mu:yI (H x))(he:e=x\/H e=some (.own x))(k:∀b u,b≠e->h.get? b=some u->h'.get? b=some u)(E4:∃u,h'.get? e=some u)
  (new:aQ P w (upd H x o') h' x o'):iL P w (upd H x o') h':=λb u q=>by
 have Ku:∀c y,H c=some (.own y)->c≠x:=λc y r z=>by subst z;rw[r]at mu;exact mu
 have OL:∀c xs,H c=some (.tup xs)->c≠x:=λc xs r z=>by subst z;rw[r]at mu;exact mu
 by_cases hb:b=x
 .subst hb;rw[ag]at q;cases q;exact new
 .rw[ak hb]at q
  by_cases BQ:b=e
  .have q':H b=some (.own x):=by
    rcases he with z|z
    .exact absurd (BQ.trans z) hb
    .rw[BQ];exact z
   rw[q]at q';cases q'
   obtain⟨v,hv⟩:=E4
   exact⟨v,by rw[BQ];exact hv⟩
  .refine(ok b u q).nN (λc v hc r=>k c v ?_ r) (λc r=>by rw[ak (Ku c b r)];exact r) λc xs r=>by rw[ak (OL c xs r)];exact r
   rcases hc with rfl|hc
   .exact BQ
   .rintro rfl
    rcases he with z|z
    .exact Ku c b hc z
    .rw[hc]at z;cases z;exact hb rfl
end
structure Un(fs ex:List Addr)(H H':Hp)(h h':Heap):Prop where
 keep:∀b o,h.get? b=some o->H b=none->b∉fs->b∉ex->h'.get? b=some o
 slot:∀b o,h.get? b=some o->H b=none->b∈fs->b∉ex->∃sl,h'.get? b=some {o with slots:=sl}
 free:∀b o,h.get? b=some o->H b=none->b∉ex->H' b=none
 there:∀b o,h.get? b=some o->b∉ex->∃o',h'.get? b=some o'
 pF:∀b xs,H b=some (.tup xs)->H' b=some (.tup xs)
 iM:∀b o u,H b=some (.dH o u)->H' b=some (.dH o u)
 pG:∀b ps,H b=some (.Gk ps)->∃more,H' b=some (.Gk (ps++more))
section
variable {fs Ud ex WG:List Addr}{H H1 H2:Hp}{h h1 h2 h':Heap}{a x e:Addr}{o:HO}
def Un.any(u:Un fs ex H H1 h h1)(q:h.get? b=some ob)(n:H b=none)(hx:b∉ex):∃sl,h1.get? b=some {ob with slots:=sl}:=by
 by_cases hb:b∈fs
 .exact u.slot b ob q n hb hx
 .exact⟨ob.slots,u.keep b ob q n hb hx⟩
def Un.kept(k:∀b u,h.get? b=some u->h'.get? b=some u):Un fs ex H H h h':=
 ⟨λb ob q _ _ _=>k b ob q,λb ob q _ _ _=>⟨ob.slots,k b ob q⟩,λ_ _ _ n _=>n,λb ob q _=>⟨ob,k b ob q⟩,λ_ _ q=>q,λ_ _ _ q=>q,λ_ ps q=>⟨#[],by rw[q];simp⟩⟩
def Un.refl:Un fs ex H H h h:=Un.kept λ_ _ q=>q
def Un.laid(k:∀b u,h.get? b=some u->h'.get? b=some u)(hp:h.objs.size<=a)(hn:H a=none):Un fs ex H (upd H a o) h h' where
 keep:=λb u q _ _ _=>k b u q
 slot:=λb u q _ _ _=>⟨u.slots,k b u q⟩
 free:=λb u q n _=>by rw[ak (XD (Xj (Xm q) hp))];exact n
 there:=λb u q _=>⟨u,k b u q⟩
 pF:=λb xs q=>by rw[ak (bY q hn)];exact q
 iM:=λb u xs q=>by rw[ak (bY q hn)];exact q
 pG:=λb ps q=>⟨#[],by rw[ak (bY q hn),q];simp⟩
def Un.write(mu:yI (H x))(he:e=x\/H e=some (.own x))(k:∀b u,b≠e->h.get? b=some u->h'.get? b=some u)(E4:∃u,h'.get? e=some u):Un fs ex H (upd H x o) h h':=by
 have hx:∀b,H b=none->b≠x:=λb n z=>by subst z;rw[n]at mu;exact mu
 have hb:∀b,H b=none->b≠e:=λb n z=>by
  subst z
  rcases he with r|r
  .exact hx b n r
  .rw[n]at r;cases r
 have hm:∀b u,H b=some u->¬yI (some u)->b≠x:=λb u q nm z=>by subst z;rw[q]at mu;exact nm mu
 refine⟨λb u q n _ _=>k b u (hb b n) q,λb u q n _ _=>⟨u.slots,k b u (hb b n) q⟩,λb u q n _=>by rw[ak (hx b n)];exact n,λb u q _=>?_,
  λb xs q=>by rw[ak (hm b _ q λz=>z)];exact q,λb u xs q=>by rw[ak (hm b _ q λz=>z)];exact q,λb ps q=>⟨#[],by rw[ak (hm b _ q λz=>z),q];simp⟩⟩
 by_cases BQ:b=e
 .subst BQ;exact E4
 .exact⟨u,k b u BQ q⟩
end
noncomputable def NP(h:Heap)(H:Hp):List Addr:=(List.range h.objs.size).filter λa=>(H a).isSome
noncomputable def pH(h:Heap)(H:Hp):Heap:=PySem.W.hideAll h (NP h H)
def xg(h:Heap)(H:Hp):(pH h H).objs.size =h.objs.size:=PySem.W.hideAll_size _ _
def yJ(e:h.get? b=some o)(n:H b=none):(pH h H).get? b=some o:=
 PySem.W.hideAll_get _ e λhm=>by
  have q:(H b).isSome =true:=(YI.mp hm).2
  rw[n]at q;simp at q
def B9(e:(pH h H).get? b=some o):h.get? b=some o/\H b=none:=by
 have e':h.get? b=some o:=PySem.W.of_hideAll (NP h H) e
 refine⟨e',?_⟩
 cases q:H b with
 |none=>rfl
 |some x=>
  have hm:b∈NP h H:=YI.mpr ⟨XU.mpr (Xm e'),by simp[q]⟩
  have z:(pH h H).get? b=none:=PySem.W.hideAll_none (NP h H) hm
  rw[z]at e;cases e
structure Mod(K:PySem.W.Frag)(mg:Str->Option Value)(base:Heap):Prop where
 NQ:K.In base
 glob:base.Ns mainGlobals mg
 blt:∃mb,base.Ns builtinsNs mb/\∀x:Str,x≠"__name__"->mb x=bootBuiltins x
 nolimit:base.NoLimit
structure Cx where
 prog:Program
 w:World
 K:PySem.W.Frag
 mg:Str->Option Value
 base:Heap
 A:Around
 N:List Str
 s₀:Shared
 H₀:Hp
 env:Env
 outer:List Env
 stack:List Env
 ex:List Addr
 fn:Str->Bool
 calm:Bool
 pn:List (Addr×Obj)
 xe:Value->Shared->Prop
noncomputable def yK(l:List Env):List Addr:=l.filterMap (·.frame)
noncomputable abbrev Cx.fs(X:Cx):List Addr:=yK X.outer
def xh(sc:Scope)(x:Str):Prop:=sc.names.lookup x=some .local \/sc.names.lookup x=some .cell \/sc.names.lookup x=some .free
def Loc(sc:Scope)(x:Str):Prop:=sc.names.lookup x=some .local \/sc.names.lookup x=some .cell
def Look(env:Env)(h:Heap)(m:Str->Option Value)(x:Str)(u:Value):Prop:=
 (env.kindOf x=some .local /\m x=some u)\/((env.kindOf x=some .cell \/env.kindOf x=some .free)/\∃c,env.cells.lookup x=some c/\h.IsCell c (some u))
structure Cx.Ok(X:Cx):Prop where
 mod:Mod X.K X.mg X.base
 kind:X.env.scope.kind= .function
 glob:X.env.globals=mainGlobals
 blt:X.env.builtins=builtinsNs
 above:X.s₀.heap.objs.size<=X.env.locals
 inj:∀x y c,X.env.cells.lookup x=some c->X.env.cells.lookup y=some c->x=y
 has:∀x,(X.env.kindOf x=some .cell \/X.env.kindOf x=some .free)->∃c,X.env.cells.lookup x=some c
 Kv:∀x c,X.fn x=true->X.env.cells.lookup x=some c->X.s₀.heap.objs.size<=c
 hd:X.calm=true->X.A.handled=none
 frames:X.A.frames=some X.stack
 NR:X.stack=X.outer\/(X.stack=X.env::X.outer/\X.env.frame=some X.env.locals)
 R7:∀b∈X.ex,b≠X.env.locals/\∀x c,X.env.cells.lookup x=some c->c≠b
 bs:∀b o,X.base.get? b=some o->X.s₀.heap.get? b=some o/\X.H₀ b=none
 yL:X.base.objs.size<=X.s₀.heap.objs.size
 yM:∀b o,X.base.get? b=some o->b∉X.ex
 B_:∀b∈X.ex,b∉X.fs
 l4:X.s₀.heap.FunFrames X.base X.outer
 JP:∀b∈X.fs,X.H₀ b=none
structure Inv(X:Cx)(aa:List (Addr×Obj))(σ:List (Option V))(H:Hp)(s:Shared):Prop where
 ok:X.Ok
 os:s.os=X.s₀.os
 bare:AllBare s.gens
 base:Un X.fs X.ex X.H₀ H X.s₀.heap s.heap
 loc:∃m,s.heap.Ns X.env.locals m/\∀(i:Nat) (x:Str) (v:V),X.N[i]?=some x->σ[i]?=some (some v)->xh X.env.scope x->∃u,RelV v u/\Look X.env s.heap m x u
 cell:∀x c,X.env.cells.lookup x=some c->∃v,s.heap.IsCell c v
 free:H X.env.locals=none
 f9:∀x c,X.env.cells.lookup x=some c->H c=none
 pin:∀p∈X.pn++aa,s.heap.get? p.1=some p.2/\H p.1=none/\p.1≠X.env.locals/\p.1∉X.fs/\∀v,p.2.data≠ .cell v
 aN:iL X.prog X.w H s.heap
 len:σ.length=X.N.length
section
variable {X:Cx}{aa:List (Addr×Obj)}{σ:List (Option V)}{H H':Hp}{s:Shared}{h':Heap}
def Cx.Ok.OM(ok:X.Ok)(e:X.base.get? b=some o):b∉X.fs:=λhb=>by
 have:=(ok.l4.mem hb).1
 rw[e]at this;cases this
theorem Inv.bs(I:Inv X aa σ H s):∀b o,X.base.get? b=some o->s.heap.get? b=some o/\H b=none:=λb o e=>
 ⟨I.base.keep b o (I.ok.bs b o e).1 (I.ok.bs b o e).2 (I.ok.OM e) (I.ok.yM b o e),I.base.free b o (I.ok.bs b o e).1 (I.ok.bs b o e).2 (I.ok.yM b o e)⟩
def Inv.bk(I:Inv X aa σ H s):∀b o,X.base.get? b=some o->s.heap.get? b=some o:=λb o e=>(I.bs b o e).1
theorem Inv.mod(I:Inv X aa σ H s):Mod X.K X.mg X.base:=I.ok.mod
def Inv.E5(I:Inv X aa σ H s):X.K.In s.heap:=I.ok.mod.NQ.keeps I.bk
theorem Inv.lt(I:Inv X aa σ H s):X.env.locals<s.heap.objs.size:=let ⟨_,hn,_⟩:=I.loc;hn.lt
def Inv.sz(I:Inv X aa σ H s):X.s₀.heap.objs.size<=s.heap.objs.size:=Xq I.ok.above (Yb I.lt)
def Inv.ON(I:Inv X aa σ H s)(h:s.heap.objs.size<=a):a∉X.fs:=λhb=>by
 obtain⟨_,o,ho,_⟩:=I.ok.l4.mem hb
 exact absurd (Xj (Xm ho) (Xq I.sz h)) (X2 _)
def Inv.Gp(I:Inv X aa σ H s):∀x c,X.env.cells.lookup x=some c->c≠X.env.locals:=λx c e z=>by
 refine eW (I.cell x c e) λv o ho hd=>?_
 obtain⟨m,⟨o',es,ep,tX,nJ,_⟩,_⟩:=I.loc
 rw[z,tX]at ho;cases ho;rw[nJ]at hd;cases hd
theorem Inv.l4(I:Inv X aa σ H s):s.heap.FunFrames X.base X.outer:=by
 have all:∀(l:List Env),(∀b∈yK l,b∈X.fs)->X.s₀.heap.FunFrames X.base l->s.heap.FunFrames X.base l:=by
  intro l
  induction l with
  |nil=>intro _ _;trivial
  |cons env r ih=>
   intro hs hl
   refine ao λnO=>?_
   obtain⟨hk,⟨L,o,hf,hn,ho,hd⟩,hr⟩:=hl
   have hL:L∈X.fs:=hs L (by unfold yK;rw[Y_,hf];exact Xd)
   obtain⟨sl,e⟩:=I.base.slot L o ho (I.ok.JP L hL) hL λz=>I.ok.B_ L z hL
   exact nO<|⟨hk,⟨L,_,hf,hn,e,hd⟩,ih (λb hb=>hs b (by unfold yK;rw[Y_,hf];exact W_ _ hb)) hr⟩
 exact all X.outer (λ_ hb=>hb) I.ok.l4
theorem Inv.stack(I:Inv X aa σ H s):s.heap.FunFrames X.base X.stack:=by
 rcases I.ok.NR with e|⟨e,hf⟩
 .rw[e];exact I.l4
 .rw[e]
  refine ab I.loc λm hn _=> .cons (by rw[I.ok.kind];decide) hf hn ?_ I.l4
  exact Heap.get?_none_of_le (Xq I.ok.yL I.ok.above)
def Inv.l5(I:Inv X aa σ H s):∀b∈yK X.stack,b∈X.env.locals::X.fs:=λb hb=>by
 rcases I.ok.NR with e|⟨e,hf⟩
 .rw[e]at hb;exact W_ _ hb
 .rw[e]at hb
  unfold yK at hb
  rw[Y_,hf]at hb
  exact hb
def Inv.vb(I:Inv X aa σ H s):∀b∈yK X.stack,H b=none:=λb hb=>by
 rcases Xl.mp (I.l5 b hb)with e|hb
 .rw[e];exact I.free
 .obtain⟨_,o,ho,_⟩:=I.ok.l4.mem hb
  exact I.base.free b o ho (I.ok.JP b hb) λz=>I.ok.B_ b z hb
def Inv.step{g':Array GenState}{t':Nat}{d':Drawn}{ch:List Addr}(I:Inv X aa σ H s)
  (BR:∀b∈ch,(b∈X.ex\/X.s₀.heap.objs.size<=b)/\b≠X.env.locals/\(∀x c,X.env.cells.lookup x=some c->c≠b)/\∀p∈X.pn++aa,p.1≠b)
  (keep:∀b o,b≠X.env.locals->b∉X.fs->b∉ch->s.heap.get? b=some o->H b=none->h'.get? b=some o)
  (slot:∀b o,b≠X.env.locals->b∈X.fs->b∉ch->s.heap.get? b=some o->H b=none->∃sl,h'.get? b=some {o with slots:=sl}) (free:∀b o,b∉ch->s.heap.get? b=some o->H b=none->H' b=none)
  (there:∀b o,b∉ch->s.heap.get? b=some o->∃o',h'.get? b=some o')
  (pF:∀b xs,H b=some (.tup xs)->H' b=some (.tup xs)) (iM:∀b o u,H b=some (.dH o u)->H' b=some (.dH o u)) (pG:∀b ps,H b=some (.Gk ps)->∃more,H' b=some (.Gk (ps++more)))
  (ns:∀m,s.heap.Ns X.env.locals m->h'.Ns X.env.locals m) (aN:iL X.prog X.w H' h') (hg:AllBare g'):
  Inv X aa σ H' {s with heap:=h',gens:=g',drawn:=d',toks:=t'}:=by
 have R8:∀b o,X.s₀.heap.get? b=some o->b≠X.env.locals:=λb o e=>XD (Xj (Xm e) I.ok.above)
 have NS:∀b o,X.s₀.heap.get? b=some o->b∉X.ex->b∉ch:=λb o e hx hb=>by
  rcases (BR b hb).1 with z|z
  .exact hx z
  .exact absurd (Xj (Xm e) z) (X2 _)
 have cellK:∀x c,X.env.cells.lookup x=some c->∀v,s.heap.IsCell c v->h'.IsCell c v:=λx c e v zz=>by
  refine ab zz λo ho hd=>?_
  have Kw:c∉ch:=λz=>(BR c z).2.2.1 x c e rfl
  by_cases hc:c∈X.fs
  .obtain⟨sl,q⟩:=slot c o (I.Gp x c e) hc Kw ho (I.f9 x c e)
   exact⟨_,q,hd⟩
  .exact⟨o,keep c o (I.Gp x c e) hc Kw ho (I.f9 x c e),hd⟩
 refine⟨I.ok,I.os,hg,⟨λb o e n hb hx=>?_,λb o e n hb hx=>?_,λb o e n hx=>?_,λb o e hx=>?_,λb xs e=>pF b xs (I.base.pF b xs e),λb o xs e=>iM b o xs (I.base.iM b o xs e),λb ps e=>?_⟩,?_,λx c e=>?_,?_,λx c e=>?_,λp hp=>?_,aN,I.len⟩
 .exact keep b o (R8 b o e) hb (NS b o e hx) (I.base.keep b o e n hb hx) (I.base.free b o e n hx)
 .obtain⟨sl,e1⟩:=I.base.slot b o e n hb hx
  obtain⟨Ue,e2⟩:=slot b _ (R8 b o e) hb (NS b o e hx) e1 (I.base.free b o e n hx)
  exact⟨Ue,e2⟩
 .obtain⟨o',e1⟩:=I.base.there b o e hx
  exact free b o' (NS b o e hx) e1 (I.base.free b o e n hx)
 .obtain⟨o',e1⟩:=I.base.there b o e hx
  exact there b o' (NS b o e hx) e1
 .obtain⟨m1,e1⟩:=I.base.pG b ps e
  obtain⟨m2,e2⟩:=pG b _ e1
  exact⟨m1++m2,by rw[e2,Array.append_assoc]⟩
 .refine ab I.loc λm hn hl=>⟨m,ns m hn,λi x v e1 e2 e3=>?_⟩
  refine ab (hl i x v e1 e2 e3) λu r l=>⟨u,r,?_⟩
  rcases l with l|⟨k,c,e,z⟩
  .exact .inl l
  .exact .inr ⟨k,c,e,cellK x c e _ z⟩
 .obtain⟨v,z⟩:=I.cell x c e
  exact⟨v,cellK x c e v z⟩
 .obtain⟨m,⟨o,_,_,ho,_⟩,_⟩:=I.loc
  exact free _ o (λz=>(BR _ z).2.1 rfl) ho I.free
 .exact eW (I.cell x c e) λv o ho hd=>free c o (λz=>(BR c z).2.2.1 x c e rfl) ho (I.f9 x c e)
 .refine Kl (I.pin p hp) λe n ne nf d=>?_
  have Kw:p.1∉ch:=λz=>(BR p.1 z).2.2.2 p hp rfl
  exact⟨keep p.1 p.2 ne nf Kw e n,free p.1 p.2 Kw e n,ne,nf,d⟩
def Inv.un{t':Nat}(I:Inv X aa σ H s)(u:Un X.fs [] H H' s.heap h')(aN:iL X.prog X.w H' h'):Inv X aa σ H' {s with heap:=h',toks:=t'}:=by
 refine ao λnO=>?_
 obtain⟨m,⟨o,es,ep,ho,r⟩,_⟩:=id I.loc
 obtain⟨sl,hL⟩:=u.any ho I.free (by simp)
 refine nO ?_
 exact I.step (g':=s.gens) (d':=s.drawn) (ch:=[]) (λ_ z=>nomatch z) (λb o _ hb _ e n=>u.keep b o e n hb (by simp)) (λb o _ hb _ e n=>u.slot b o e n hb (by simp)) (λb o _ e n=>u.free b o e n (by simp)) (λb o _ e=>u.there b o e (by simp)) u.pF u.iM u.pG (λm' hm=>by
  refine ao λnO=>lG hm λo' Ca Gq tX r'=>nO ?_
  rw[ho]at tX;cases tX
  exact⟨_,Ca,Gq,hL,r'⟩) aN I.bare
def Inv.call{g':Array GenState}{t':Nat}{d':Drawn}{ch:List Addr}(I:Inv X aa σ H s)(u:Un (yK X.stack) ch H H' s.heap h')(aN:iL X.prog X.w H' h')(hg:AllBare g')
  (BR:∀b∈ch,(b∈X.ex\/X.s₀.heap.objs.size<=b)/\b≠X.env.locals/\(∀x c,X.env.cells.lookup x=some c->c≠b)/\∀p∈X.pn++aa,p.1≠b):
  Inv X aa σ H' {s with heap:=h',gens:=g',drawn:=d',toks:=t'}:=by
 refine ao λnO=>?_
 obtain⟨m,⟨o,es,ep,ho,r⟩,_⟩:=id I.loc
 obtain⟨sl,hL⟩:=u.any ho I.free λz=>(BR _ z).2.1 rfl
 refine nO ?_
 exact I.step (ch:=ch) BR (λb o hL hb hc e n=>u.keep b o e n (λz=>(Xl.mp (I.l5 b z)).elim hL hb) hc) (λb o _ _ hc e n=>u.any e n hc) (λb o hc e n=>u.free b o e n hc) (λb o hc e=>u.there b o e hc) u.pF u.iM u.pG (λm' hm=>by
  refine ao λnO=>lG hm λo' Ca Gq tX r'=>nO ?_
  rw[ho]at tX;cases tX
  exact⟨_,Ca,Gq,hL,r'⟩) aN hg
def Inv.turned{t':Nat}{it:Addr}(I:Inv X aa σ H s)(k:∀b o,b≠it->s.heap.get? b=some o->h'.get? b=some o)(hn:H it=none)(hL:it≠X.env.locals)
  (h1:it∈X.ex\/X.s₀.heap.objs.size<=it) (h2:∀x c,X.env.cells.lookup x=some c->c≠it) (h3:∀p∈X.pn++aa,p.1≠it):Inv X aa σ H {s with heap:=h',toks:=t'}:=by
 have Kx:∀b u,H b=some u->b≠it:=λb u e z=>by rw[z,hn]at e;cases e
 refine I.step (g':=s.gens) (d':=s.drawn) (ch:=[it]) (λb hb=>?_) (λb o _ _ hc e _=>k b o (λz=>hc (by simp[z])) e) (λb o _ _ hc e _=>⟨o.slots,k b o (λz=>hc (by simp[z])) e⟩) (λ_ _ _ _ n=>n)
  (λb o hc e=>⟨o,k b o (λz=>hc (by simp[z])) e⟩) (λ_ _ e=>e) (λ_ _ _ e=>e) (λb ps e=>⟨#[],by rw[e];simp⟩) (λm hm=>?_) (λb u e=>?_) I.bare
 .have e:b=it:=by simpa using hb
  subst e
  exact⟨h1,hL,h2,h3⟩
 .exact lG hm λo es ep ho r=>⟨o,es,ep,k _ o (Ya hL) ho,r⟩
 .refine(I.aN b u e).nN (λc v hc q=>k c v ?_ q) (λ_ q=>q) λ_ _ q=>q
  rcases hc with z|z
  .rw[z];exact Kx b u e
  .exact Kx c _ z
def Inv.tok(I:Inv X aa σ H s)(t:Nat):Inv X aa σ H {s with toks:=t}:=I.un (h':=s.heap) (t':=t) Un.refl I.aN
theorem Inv.kept(I:Inv X aa σ H s)(k:∀b u,s.heap.get? b=some u->h'.get? b=some u):Inv X aa σ H {s with heap:=h',toks:=t'}:=I.un (Un.kept k) (I.aN.kept k)
theorem Inv.laid(I:Inv X aa σ H s)(k:∀b u,s.heap.get? b=some u->h'.get? b=some u)(hp:s.heap.objs.size<=a)(new:aQ X.prog X.w (upd H a o) h' a o):
  Inv X aa σ (upd H a o) {s with heap:=h',toks:=t'}:=I.un (Un.laid k hp (I.aN.fresh hp)) (I.aN.laid k hp new)
theorem Inv.write(I:Inv X aa σ H s)(mu:yI (H x))(he:e=x\/H e=some (.own x))(k:∀b u,b≠e->s.heap.get? b=some u->h'.get? b=some u)(E4:∃u,h'.get? e=some u)
  (new:aQ X.prog X.w (upd H x o) h' x o):Inv X aa σ (upd H x o) {s with heap:=h',toks:=t'}:=I.un (Un.write mu he k E4) (I.aN.write mu he k E4 new)
def Inv.weak(I:Inv X aa σ H s)(hl:bT.length=σ.length)(w:∀(i:Nat) v,bT[i]?=some (some v)->σ[i]?=some (some v)):Inv X aa bT H s:=
 ⟨I.ok,I.os,I.bare,I.base,let ⟨m,hn,xi⟩:=I.loc;⟨m,hn,λi x v e1 e2 e3=>xi i x v e1 (w i v e2) e3⟩,I.cell,I.free,I.f9,I.pin,I.aN,hl.trans I.len⟩
def Inv.vc(I:Inv X aa σ H s)(h:∀p∈Ky,s.heap.get? p.1=some p.2/\H p.1=none/\p.1≠X.env.locals/\p.1∉X.fs/\∀v,p.2.data≠ .cell v):Inv X Ky σ H s:=
 ⟨I.ok,I.os,I.bare,I.base,I.loc,I.cell,I.free,I.f9,λp hp=>(Xr.mp hp).elim (λz=>I.pin p (XC _ z)) (h p),I.aN,I.len⟩
def qX{N:List Str}(hN:N.Nodup){i j:Nat}{x:Str}(a:N[i]?=some x)(b:N[j]?=some x):i=j:=by
 obtain⟨h1,e1⟩:=Xu.mp a
 obtain⟨h2,e2⟩:=Xu.mp b
 exact(List.getElem_inj hN).mp (e1.trans e2.symm)
def om{M:Model}{A:Around}{E:Value->Shared->Prop}{i:Nat}{x:Str}{v:V}{u:Value}{Q:Unit->Shared->Prop}(I:Inv X aa σ H s)(hN:X.N.Nodup)(hi:X.N[i]?=some x)(hx:Loc X.env.scope x)(r:RelV v u)
  (h:∀s',Inv X aa (σ.set i (some v)) H s'->(∃a,Heap.SameBut a s.heap s'.heap/\(a=X.env.locals\/X.env.cells.lookup x=some a))->Q () s') (hf:X.fn x=true\/X.env.scope.names.lookup x=some .local :=by first|exact .inl rfl|exact .inr rfl|assumption):wpAny M A (storeName X.env x u) Q E s:=by
 obtain⟨m,hn,hl⟩:=id I.loc
 have OO:(X.env.scope.kind == .class||(X.env.scope.kind == .module&&X.env.locals !=X.env.globals))=false:=by rw[I.ok.kind];rfl
 have Kz:i<σ.length:=by rw[I.len];exact(Xu.mp hi).1
 have Gp:=I.Gp
 have tracked:∀{a:Addr}{h':Heap},(∃o,s.heap.get? a=some o/\H a=none)->Heap.SameBut a s.heap h'->iL X.prog X.w H h':=λ{a h'} ha hs b ob e=>by
  obtain⟨_,_,E6⟩:=ha
  refine(I.aN b ob e).nN (λc w' hc q=>(hs.2 c ?_).trans q) (λ_ q=>q) λ_ _ q=>q
  rintro rfl
  rcases hc with rfl|hc
  .rw[E6]at e;cases e
  .rw[E6]at hc;cases hc
 rcases hx with hk|hk
 .refine wpAny_storeName_local hk hn (λh' Ug hs=>?_) OO
  refine ao λnO=>?_
  obtain⟨oL,_,_,Cb,_⟩:=id hn
  refine nO ?_
  refine h _ ⟨I.ok,I.os,I.bare,⟨λb o e n hb hx=>?_,λb o e n hb hx=>?_,I.base.free,λb o e hx=>?_,I.base.pF,I.base.iM,I.base.pG⟩,⟨_,Ug,λj y v' e1 e2 e3=>?_⟩,λy c e=>?_,I.free,I.f9,λp hp=>?_,tracked ⟨oL,Cb,I.free⟩ hs,by simpa using I.len⟩ ⟨_,hs,.inl rfl⟩
  .exact(hs.2 b (XD (Xj (Xm e) I.ok.above))).trans (I.base.keep b o e n hb hx)
  .obtain⟨sl,e1⟩:=I.base.slot b o e n hb hx
   exact⟨sl,(hs.2 b (XD (Xj (Xm e) I.ok.above))).trans e1⟩
  .obtain⟨o',e1⟩:=I.base.there b o e hx
   exact⟨o',(hs.2 b (XD (Xj (Xm e) I.ok.above))).trans e1⟩
  .by_cases hj:j=i
   .subst hj
    rw[hi]at e1;cases e1
    rw[XB Kz]at e2
    cases e2
    exact⟨u,r,.inl ⟨hk,by simp⟩⟩
   .rw[XA (Ya hj)]at e2
    obtain⟨u',r',q⟩:=hl j y v' e1 e2 e3
    refine⟨u',r',?_⟩
    rcases q with⟨k,e⟩|⟨k,c,e,z⟩
    .refine .inl ⟨k,?_⟩
     have:y≠x:=λe=>hj (qX hN e1 (e▸hi))
     simp[this,e]
    .exact .inr ⟨k,c,e,z.sameBut hs (Gp y c e)⟩
  .obtain⟨w',z⟩:=I.cell y c e
   exact⟨w',z.sameBut hs (Gp y c e)⟩
  .refine ao λnO=>?_
   obtain⟨e,n,ne,nf,d⟩:=I.pin p hp
   exact nO<|⟨(hs.2 p.1 ne).trans e,n,ne,nf,d⟩
 .have OP:X.fn x=true:=by
   rcases hf with z|z
   .exact z
   .rw[z]at hk;cases hk
  obtain⟨c,hc⟩:=I.ok.has x (.inl hk)
  obtain⟨w',z⟩:=I.cell x c hc
  refine wpAny_storeName_cell I.ok.kind hk hc z (λh' nK hs=>?_)
  obtain⟨oc,R9,OQ⟩:=id z
  refine h {s with heap:=h'} ⟨I.ok,I.os,I.bare,⟨λb o e n hb hx=>?_,λb o e n hb hx=>?_,I.base.free,λb o e hx=>?_,I.base.pF,I.base.iM,I.base.pG⟩,⟨m,hn.sameBut hs (Ya (Gp x c hc)),λj y v' e1 e2 e3=>?_⟩,λy c' e=>?_,I.free,I.f9,λp hp=>?_,tracked ⟨oc,R9,I.f9 x c hc⟩ hs,by simpa using I.len⟩ ⟨c,hs,.inr hc⟩
  .exact(hs.2 b (XD (Xj (Xm e) (I.ok.Kv x c OP hc)))).trans (I.base.keep b o e n hb hx)
  .obtain⟨sl,e1⟩:=I.base.slot b o e n hb hx
   exact⟨sl,(hs.2 b (XD (Xj (Xm e) (I.ok.Kv x c OP hc)))).trans e1⟩
  .obtain⟨o',e1⟩:=I.base.there b o e hx
   exact⟨o',(hs.2 b (XD (Xj (Xm e) (I.ok.Kv x c OP hc)))).trans e1⟩
  .by_cases hj:j=i
   .subst hj
    rw[hi]at e1;cases e1
    rw[XB Kz]at e2
    cases e2
    exact⟨u,r,.inr ⟨.inl hk,c,hc,nK⟩⟩
   .rw[XA (Ya hj)]at e2
    obtain⟨u',r',q⟩:=hl j y v' e1 e2 e3
    refine⟨u',r',?_⟩
    rcases q with q|⟨k,c',e,z'⟩
    .exact .inl q
    .refine .inr ⟨k,c',e,z'.sameBut hs ?_⟩
     rintro rfl
     exact hj (qX hN e1 (I.ok.inj _ _ _ e hc▸hi))
  .by_cases R_:c'=c
   .subst R_;exact⟨_,nK⟩
   .obtain⟨w2,z2⟩:=I.cell y c' e
    exact⟨w2,z2.sameBut hs R_⟩
  .refine ao λnO=>?_
   obtain⟨e,n,ne,nf,d⟩:=I.pin p hp
   refine nO ?_
   refine⟨(hs.2 p.1 ?_).trans e,n,ne,nf,d⟩
   intro q
   rw[q,R9]at e
   have q':oc=p.2:=Xw e
   exact d w' (by rw[<-q'];exact OQ)
def qY(I:Inv X aa σ H s)(hN:X.N.Nodup)(hi:X.N[i]?=some x)(hx:Loc X.env.scope x)(r:RelV v u)
  (h:∀s',Inv X aa (σ.set i (some v)) H s'->Q () s') (hf:X.fn x=true\/X.env.scope.names.lookup x=some .local :=by first|exact .inl rfl|exact .inr rfl|assumption):wpAny M A (storeName X.env x u) Q E s:=
 om I hN hi hx r (λs' I' _=>h s' I') hf
def Inv.KA(I:Inv X aa σ H s)(ho:s'.os=s.os)(u:Un (yK X.stack) ch H H' s.heap s'.heap)(aN:iL X.prog X.w H' s'.heap)(hg:AllBare s'.gens)
  (BR:∀b∈ch,(b∈X.ex\/X.s₀.heap.objs.size<=b)/\b≠X.env.locals/\(∀x c,X.env.cells.lookup x=some c->c≠b)/\∀p∈X.pn++aa,p.1≠b):Inv X aa σ H' s':=by
 obtain⟨h',g',d',t',o'⟩:=s'
 have e:o'=s.os:=ho
 subst e
 exact I.call (g':=g') (t':=t') (d':=d') u aN hg BR
end
abbrev XK:=Value->Option Addr->Hp->Prop
abbrev St:=List (Option V)
abbrev VK:=V->Hp->Prop
abbrev TE:=St->Hp->VK->Prop
abbrev TT:=St->Hp->(Bool->Hp->Prop)->Prop
abbrev TA:=St->Hp->(List V->Hp->Prop)->Prop
structure yN where
 nx:St->Hp->Prop
 rt:VK
 bk:St->Hp->Prop:=λ_ _=>False
 ct:St->Hp->Prop:=λ_ _=>False
abbrev TS:=yN->St->Hp->Prop
def EP(X:Cx)(aa:List (Addr×Obj))(σ:St)(Q:VK)(u:Value)(s':Shared):Prop:=∃v H',Inv X aa σ H' s'/\RelV v u/\Q v H'
def TP(X:Cx)(aa:List (Addr×Obj))(σ:St)(Q:Bool->Hp->Prop)(b:Bool)(s':Shared):Prop:=∃H',Inv X aa σ H' s'/\Q b H'
def AP(X:Cx)(aa:List (Addr×Obj))(σ:St)(Q:List V->Hp->Prop)(us:List Value)(s':Shared):Prop:=∃vs H',Inv X aa σ H' s'/\aA vs us/\Q vs H'
def SP(X:Cx)(aa:List (Addr×Obj))(D:yN)(f:Flow)(s':Shared):Prop:=
 match f with
 | .next =>∃bT H',Inv X aa bT H' s'/\D.nx bT H'
 | .brk =>∃bT H',Inv X aa bT H' s'/\D.bk bT H'
 | .cont =>∃bT H',Inv X aa bT H' s'/\D.ct bT H'
 | .ret u=>∃v bT H',Inv X aa bT H' s'/\RelV v u/\D.rt v H'
def PE(X:Cx)(e:Expr)(t:TE):Prop:=
 ∀(aa:List (Addr×Obj)) (s:Shared) (σ:St) (H:Hp) (Q:VK),Inv X aa σ H s->t σ H Q->wpAny (model X.prog X.w) X.A (eval e X.env) (EP X aa σ Q) X.xe s
def PT(X:Cx)(e:Expr)(t:TT):Prop:=
 ∀(aa:List (Addr×Obj)) (s:Shared) (σ:St) (H:Hp) (Q:Bool->Hp->Prop),Inv X aa σ H s->t σ H Q->wpAny (model X.prog X.w) X.A (isTrue e X.env (eval e X.env)) (TP X aa σ Q) X.xe s
def PW(X:Cx)(e:Expr)(t:TT):Prop:=
 ∀(whole:Sem Value) (aa:List (Addr×Obj)) (s:Shared) (σ:St) (H:Hp) (Q:Bool->Hp->Prop),Inv X aa σ H s->t σ H Q->wpAny (model X.prog X.w) X.A (isTrue e X.env whole) (TP X aa σ Q) X.xe s
def PW.pt(h:PW X e t):PT X e t:=h _
def PA(X:Cx)(es:List Expr)(t:TA):Prop:=
 ∀(pos:Pos) (aa:List (Addr×Obj)) (s:Shared) (σ:St) (H:Hp) (Q:List V->Hp->Prop),Inv X aa σ H s->t σ H Q->wpAny (model X.prog X.w) X.A (spliced (backTo pos (starEach es X.env))) (AP X aa σ Q) X.xe s
def PS(X:Cx)(st:Stmt)(t:TS):Prop:=
 ∀(aa:List (Addr×Obj)) (s:Shared) (σ:St) (H:Hp) (D:yN),Inv X aa σ H s->t D σ H->wpAny (model X.prog X.w) X.A (exec st X.env) (SP X aa D) X.xe s
def lH(X:Cx)(st:List Stmt)(t:TS):Prop:=
 ∀(aa:List (Addr×Obj)) (s:Shared) (σ:St) (H:Hp) (D:yN),Inv X aa σ H s->t D σ H->wpAny (model X.prog X.w) X.A (execs st X.env) (SP X aa D) X.xe s
def aW(h:wpAny M A t Q E s)(hQ:∀a s,Q a s->Q' a s):wpAny M A t Q' E s:=YD h hQ λ_ _ x=>x
section
variable {X:Cx}
def dA(i:Nat):TE:=λσ H Q=>∃v,σ[i]?=some (some v)/\Q v H
def tC(v:V):TE:=λ_ H Q=>Q v H
def bL(hN:X.N[i]?=some x)(hv:xh X.env.scope x)(hd:(x==("__debug__":Str))=false:=by decide)(yO:(x==("__classdict__":Str))=false:=by decide):PE X (.Name x pos) (dA i):=by
 intro aa s σ H Q I h
 refine ab h λv e h=>ab I.loc λm hn hl=>ab (hl i x v hN e hv) λu r l=>?_
 have fin:EP X aa σ Q u s:=⟨v,H,I,r,h⟩
 rcases l with⟨hk,hm⟩|⟨hk,c,hc,vd⟩
 .exact wpAny_Name (wpAny_loadName_local I.ok.kind hk hn hm fin) hd
 .rcases hk with hk|hk
  .exact wpAny_Name (wpAny_loadName_cell I.ok.kind hk hc vd fin) hd
  .exact wpAny_Name (wpAny_loadName_free I.ok.kind hk hc vd fin yO) hd
def yP:PE X (.Constant (.int i) j pos) (tC (.int i)):=λ_ _ _ H _ I h=>wpAny_Constant_int ⟨.int i,H,I.tok _,⟨_,rfl⟩,h⟩
def KC:PE X (.Constant (.bool b) j pos) (tC (.bl b)):=λ_ _ _ H _ I h=>Constant_bool ⟨.bl b,H,I,rfl,h⟩
def Gr:PE X (.Constant .none j pos) (tC .dj):=λ_ _ _ H _ I h=>Constant_none ⟨.dj,H,I,rfl,h⟩
def Gs:PE X (.Constant (.str x) j pos) (tC (.str x)):=λ_ _ _ H _ I h=>Calls.Constant_str ⟨.str x,H,I.tok _,⟨_,rfl⟩,h⟩
def Gl(X:Cx)(x:Str):Prop:=X.env.kindOf x=some .globalImplicit
def pI(I:Inv X aa σ H s)(hg:Gl X x)(hm:X.mg x=some u)(h:Q u s)
  (hd:(x==("__debug__":Str))=false:=by decide):wpAny (model X.prog X.w) X.A (eval (.Name x pos) X.env) Q E s:=
 aak I.ok.kind hg (Calls.loadGlobal_global (by rw[I.ok.glob];exact I.mod.glob.keeps I.bk) hm h) hd
def j0(I:Inv X aa σ H s)(hg:Gl X x)(hm:X.mg x=none)(hv:bootBuiltins x=some u)(h:Q u s)
  (hn:x≠"__name__":=by decide) (hd:(x==("__debug__":Str))=false:=by decide):wpAny (model X.prog X.w) X.A (eval (.Name x pos) X.env) Q E s:=by
 exact ab I.mod.blt λmb h1 h2=>aak I.ok.kind hg (Calls.loadGlobal_builtin (by rw[I.ok.glob];exact I.mod.glob.keeps I.bk) hm (by rw[I.ok.blt];exact h1.keeps I.bk) ((h2 x hn).trans hv) h) hd
def Cc(hg:Gl X x)(hm:X.mg x=some u)(r:RelV v u)(hd:(x==("__debug__":Str))=false:=by decide):PE X (.Name x pos) (tC v):=
 λ_ _ _ H _ I h=>pI I hg hm ⟨v,H,I,r,h⟩ hd
def Cd(hg:Gl X x)(hm:X.mg x=none)(hv:bootBuiltins x=some u)(r:RelV v u)(hn:x≠"__name__":=by decide)(hd:(x==("__debug__":Str))=false:=by decide):PE X (.Name x pos) (tC v):=
 λ_ _ _ H _ I h=>j0 I hg hm hv ⟨v,H,I,r,h⟩ hn hd
variable {a b:Expr}{ta tb:TE}{pos:Pos}
def PC(X:Cx)(op:CmpOp)(a b:Expr)(t:TE):Prop:=
 ∀(aa:List (Addr×Obj)) (s:Shared) (σ:St) (H:Hp) (Q:VK),Inv X aa σ H s->t σ H Q->
  wpAny (model X.prog X.w) X.A (eval a X.env) (λv aS=>wpAny (model X.prog X.w) X.A (eval b X.env) (λu l6=>wpAny (model X.prog X.w) X.A (compareOp op v u) (EP X aa σ Q) X.xe l6) X.xe aS) X.xe s
def tB(t:TE):TT:=λσ H Q=>t σ H λx H1=>∃c,x= .bl c/\Q c H1
def Gu(h:PC X op a b t)(h1:behindInMarks op b=false:=by first|exact yQ _ (by decide) (by decide)|rfl):PE X (.Compare a [op] [b] pos) t:=λaa s σ H Q I hw=>wpAny_Compare1 (h aa s σ H Q I hw) h1
def Gv(h:PC X op a b t)(h1:behindInMarks op b=false:=by first|exact yQ _ (by decide) (by decide)|rfl):PT X (.Compare a [op] [b] pos) (tB t):=by
 intro aa s σ H Q I hw
 refine wpAny_isTrue_Compare1 (aW (h aa s σ H _ I hw) λv s1 h1=>aW h1 λu s2 h2=>aW h2 λc s3 zz=>a_ zz λx H1 I1 r1 q1=>?_) h1
 refine ab q1 λd ah q=>?_
 try clear q1
 subst ah
 cases r1
 exact X_ ⟨H1,I1,q⟩
def Gw(h:PE X e t)(he:∀whole,isTrue e X.env whole=(do let v<-whole;standAt e.pos;holding [v] (truthy v)):=by intro _;rfl):PT X e (tB t):=by
 intro aa s σ H Q I hw
 refine isTrue_plain (aW (h aa s σ H _ I hw) λv s1 ⟨x,H1,I1,r1,q1⟩=>?_) (he _)
 refine ab q1 λd ah q=>?_
 try clear q1
 subst ah
 cases r1
 exact X_ ⟨H1,I1,q⟩
variable {tA NT:TT}{bG:List Expr}
def KD(t u:TT):TT:=λσ H Q=>t σ H λc H1=>if c=true then u σ H1 Q else Q false H1
def Uh(t u:TT):TT:=λσ H Q=>t σ H λc H1=>if c=true then Q true H1 else u σ H1 Q
def OR(t:TT):TT:=λσ H Q=>t σ H λc H1=>Q (!c) H1
def Ce(ha:PT X a tA):PW X (.BoolOp .And [a] pos) tA:=by
 intro wh aa s σ H Q I h
 refine isTrue_and (aW (ha aa s σ H Q I h) λc s1 e=>?_)
 cases c with
 |true=>exact isTrue_and_nil e
 |false=>exact e
def Gx(ha:PT X a tA):PW X (.BoolOp .Or [a] pos) tA:=by
 intro wh aa s σ H Q I h
 refine isTrue_or (aW (ha aa s σ H Q I h) λc s1 e=>?_)
 cases c with
 |false=>exact isTrue_or_nil e
 |true=>exact e
def Gy(ha:PT X a tA)(hb:PW X (.BoolOp .And (b::bG) pos) NT):PW X (.BoolOp .And (a::b::bG) pos) (KD tA NT):=by
 intro wh aa s σ H Q I h
 refine isTrue_and (aW (ha aa s σ H _ I h) λc s1 zz=>?_)
 refine ab zz λH1 I1 q1=>?_
 cases c with
 |true=>exact hb wh aa s1 σ H1 Q I1 q1
 |false=>exact⟨H1,I1,q1⟩
def KG(ha:PT X a tA)(hb:PW X (.BoolOp .Or (b::bG) pos) NT):PW X (.BoolOp .Or (a::b::bG) pos) (Uh tA NT):=by
 intro wh aa s σ H Q I h
 refine isTrue_or (aW (ha aa s σ H _ I h) λc s1 zz=>?_)
 refine ab zz λH1 I1 q1=>?_
 cases c with
 |true=>exact⟨H1,I1,q1⟩
 |false=>exact hb wh aa s1 σ H1 Q I1 q1
def Gz(ha:PT X a tA):PT X (.UnaryOp .Not a pos) (OR tA):=by
 intro aa s σ H Q I h
 exact isTrue_not (ha aa s σ H (λc H1=>Q (!c) H1) I h)
def KH(ta tb:TE):TE:=λσ H Q=>ta σ H λx H1=>∃c,x= .bl c/\if c=true then tb σ H1 Q else Q (.bl false) H1
def OS(ta tb:TE):TE:=λσ H Q=>ta σ H λx H1=>∃c,x= .bl c/\if c=true then Q (.bl true) H1 else tb σ H1 Q
def KI(ta:TE):TE:=λσ H Q=>ta σ H λx H1=>∃c,x= .bl c/\Q (.bl (!c)) H1
def GA(h:PE X a t):PE X (.BoolOp op [a] pos) t:=λaa s σ H Q I hw=>BoolOp_one (h aa s σ H Q I hw)
def GB(ha:PE X a ta)(hb:PE X (.BoolOp .And (b::bG) pos) tb):PE X (.BoolOp .And (a::b::bG) pos) (KH ta tb):=by
 intro aa s σ H Q I h
 refine BoolOp_and (aW (ha aa s σ H _ I h) λv s1 zz=>?_)
 refine ao λnO=>?_
 obtain⟨x,H1,I1,r1,q1⟩:=zz
 obtain⟨c,rfl,q1⟩:=q1
 cases r1
 refine nO<|X_ ?_
 cases c with
 |true=>exact hb aa s1 σ H1 Q I1 q1
 |false=>exact⟨.bl false,H1,I1,rfl,q1⟩
def KJ(ha:PE X a ta)(hb:PE X (.BoolOp .Or (b::bG) pos) tb):PE X (.BoolOp .Or (a::b::bG) pos) (OS ta tb):=by
 intro aa s σ H Q I h
 refine BoolOp_or (aW (ha aa s σ H _ I h) λv s1 zz=>?_)
 refine ao λnO=>?_
 obtain⟨x,H1,I1,r1,q1⟩:=zz
 obtain⟨c,rfl,q1⟩:=q1
 cases r1
 refine nO<|X_ ?_
 cases c with
 |false=>exact hb aa s1 σ H1 Q I1 q1
 |true=>exact⟨.bl true,H1,I1,rfl,q1⟩
def GC(ha:PE X a ta):PE X (.UnaryOp .Not a pos) (KI ta):=by
 intro aa s σ H Q I h
 refine UnaryOp_ (aW (ha aa s σ H _ I h) λv s1 zz=>?_)
 refine ao λnO=>?_
 obtain⟨x,H1,I1,r1,q1⟩:=zz
 obtain⟨c,rfl,q1⟩:=q1
 cases r1
 exact nO<|not_of (X_ ⟨.bl (!c),H1,I1,rfl,q1⟩)
end
def dI(K:PySem.W.Frag)(H:Hp)(a:Addr)(xs:List V):Prop:=
 Rd H a (.lst xs)\/
  ∃(o:Obj) (its:Array Value) (n:Nat),K.lookup a=some o/\o.cls= .type "list"/\o.dict=none/\o.data= .seq its n/\its.size<=sizeLine/\aA xs its.toList/\o.slots=#[]
def cT(K:PySem.W.Frag)(H:Hp)(a:Addr)(xs:List V):Prop:=H a=some (.tup xs)
noncomputable def OU:Value->Option V
 | .none =>some .dj
 | .bool b=>some (.bl b)
 | .int i _=>some (.int i)
 | .str x _=>some (.str x)
 | .bytes b _=>some (.Ks b)
 | .float b _=>some (.OK b)
 | .ref a=>some (.ref a)
 | .type n=>some (.ty n)
 |_=>none
def RelV.abs(r:RelV x u):OU u=some x:=by
 cases x with
 |dj=>cases r;rfl
 |bl _=>cases r;rfl
 |int _=>obtain⟨t,rfl⟩:=r;rfl
 |str _=>obtain⟨t,rfl⟩:=r;rfl
 |Ks _=>obtain⟨t,rfl⟩:=r;rfl
 |OK _=>obtain⟨t,rfl⟩:=r;rfl
 |ref _=>cases r;rfl
 |ty _=>cases r;rfl
theorem RelV.inj(r:RelV x u)(q:RelV y u):x=y:=Xw (r.abs.symm.trans q.abs)
theorem aA.inj:∀{xs ys:List V}{us:List Value},aA xs us->aA ys us->xs=ys:=λ{xs ys us} h=>by
 induction h generalizing ys with
 |nil=>intro h;cases h;rfl
 |cons r t ih=>intro h;cases h with|cons r' t'=>rw[r.inj r',ih t']
section
variable {X:Cx}{aa:List (Addr×Obj)}{σ:St}{H:Hp}{s:Shared}{a:Addr}{xs ys:List V}
def dI.of{K:PySem.W.Frag}(h:H a=some (.lst xs)):dI K H a xs:= .inl (.inl h)
def cT.of{K:PySem.W.Frag}(h:H a=some (.tup xs)):cT K H a xs:=h
def Inv.list(I:Inv X aa σ H s)(h:dI X.K H a xs):∃its:List Value,aA xs its/\PlainL s.heap a its.toArray/\xs.length<=sizeLine:=by
 rcases h with h|⟨o,its,n,hk,hc,hd,hs,hz,r,_⟩
 .obtain⟨z,its,n,r,e⟩:=h.ok I.aN
  exact⟨its,r,⟨_,n,e,rfl,rfl,rfl⟩,z⟩
 .refine⟨its.toList,r,⟨o,n,I.E5 a o hk,hc,hd,by simpa using hs⟩,?_⟩
  have e:=r.length
  simp only[XE]at e
  lia
def Inv.tuple(I:Inv X aa σ H s)(h:cT X.K H a xs):∃its:List Value,aA xs its/\IsTup s.heap a its.toArray/\xs.length<=sizeLine:=by
 obtain⟨z,its,r,p⟩:=I.aN a _ h
 exact⟨its,r,p.tup,z⟩
def Inv.GD(I:Inv X aa σ H s)(h:cT X.K H a xs):∃its:List Value,aA xs its/\ij s.heap a its.toArray/\xs.length<=sizeLine:=by
 obtain⟨z,its,r,p⟩:=I.aN a _ h
 exact⟨its,r,p,z⟩
def Inv.qZ(I:Inv X aa σ H s)(h:dI X.K H a xs)(h':dI X.K H a ys):xs=ys:=by
 refine ao λnO=>?_
 obtain⟨its,r,⟨o,n,e,_,_,d⟩,_⟩:=I.list h
 obtain⟨its',r',⟨o',n',e',_,_,d'⟩,_⟩:=I.list h'
 refine nO ?_
 rw[e]at e';cases e'
 rw[d]at d'
 injection d' with d1 _
 have:its=its':=by simpa using congrArg Array.toList d1
 subst this
 exact r.inj r'
def Inv.oq(I:Inv X aa σ H s)(h:cT X.K H a xs)(h':cT X.K H a ys):xs=ys:=by
 obtain⟨its,r,⟨o,e,_,n,d⟩,_⟩:=I.tuple h
 obtain⟨its',r',⟨o',e',_,n',d'⟩,_⟩:=I.tuple h'
 rw[e]at e';cases e'
 rw[d]at d'
 injection d' with d1 _
 have:its=its':=by simpa using congrArg Array.toList d1
 subst this
 exact r.inj r'
end
noncomputable abbrev Cx.nP(X:Cx)(E:Value->Shared->Prop):Cx:={X with xe:=E}
noncomputable abbrev Cx.KL(X:Cx):Cx:=X.nP λ_ _=>False
theorem Cx.Ok.nP{X:Cx}(ok:X.Ok)(E:Value->Shared->Prop):(X.nP E).Ok :=
 ⟨ok.mod,ok.kind,ok.glob,ok.blt,ok.above,ok.inj,ok.has,ok.Kv,ok.hd,ok.frames,ok.NR,ok.R7,ok.bs,ok.yL,ok.yM,ok.B_,ok.l4,ok.JP⟩
def Cx.Ok.gu{X:Cx}{E:Value->Shared->Prop}(ok:(X.nP E).Ok):X.Ok:=
 ⟨ok.mod,ok.kind,ok.glob,ok.blt,ok.above,ok.inj,ok.has,ok.Kv,ok.hd,ok.frames,ok.NR,ok.R7,ok.bs,ok.yL,ok.yM,ok.B_,ok.l4,ok.JP⟩
section
variable {X:Cx}{aa:List (Addr×Obj)}{σ:St}{H:Hp}{s:Shared}{E:Value->Shared->Prop}
theorem Inv.nP(I:Inv X aa σ H s)(E:Value->Shared->Prop):Inv (X.nP E) aa σ H s:=⟨I.ok.nP E,I.os,I.bare,I.base,I.loc,I.cell,I.free,I.f9,I.pin,I.aN,I.len⟩
theorem Inv.gu(I:Inv (X.nP E) aa σ H s):Inv X aa σ H s:=⟨I.ok.gu,I.os,I.bare,I.base,I.loc,I.cell,I.free,I.f9,I.pin,I.aN,I.len⟩
theorem SP.gu(h:SP (X.nP E) aa D f s'):SP X aa D f s':=by
 cases f with
 |next=>obtain⟨bT,H',I,q⟩:=h;exact⟨bT,H',I.gu,q⟩
 |brk=>obtain⟨bT,H',I,q⟩:=h;exact⟨bT,H',I.gu,q⟩
 |cont=>obtain⟨bT,H',I,q⟩:=h;exact⟨bT,H',I.gu,q⟩
 |ret u=>obtain⟨v,bT,H',I,r,q⟩:=h;exact⟨v,bT,H',I.gu,r,q⟩
theorem lH.KL{st:List Stmt}{t:TS}(h:lH X.KL st t):lH X st t:=λaa s σ H D I hw=>
 YD (h aa s σ H D (I.nP _) hw) (λ_ _ q=>q.gu) λ_ _ z=>False.elim z
end
section
variable {X:Cx}{st:Stmt}{bG:List Stmt}{t u:TS}{e:Expr}{te:TE}{pos:Pos}
def vf:TS:=λD σ H=>D.nx σ H
def pJ(t u:TS):TS:=λD σ H=>t {D with nx:=u D} σ H
def jd:lH X [] vf:=λ_ _ σ H _ I h=>abk ⟨σ,H,I,h⟩
def bZ(h1:PS X st t)(h2:lH X bG u):lH X (st::bG) (pJ t u):=by
 intro aa s σ H D I h
 refine wpAny_execs_cons (aW (h1 aa s σ H {D with nx:=u D} I h) λf s1 q=>?_)
 cases f with
 |next=>
  exact eW q λbT H' I' q=>h2 aa s1 bT H' D I' q
 |ret v=>exact q
 |brk=>exact q
 |cont=>exact q
def Inv.quiet(I:Inv X aa σ H s):interactive X.env=false:=by simp[interactive,I.ok.kind]
def vg(te:TE):TS:=λD σ H=>te σ H λ_ H1=>D.nx σ H1
def pK(he:PE X e te)(hs:swapsWith e none pos.line X.env=pure false:=by rfl):PS X (.Expr e pos) (vg te):=by
 intro aa s σ H D I h
 exact wpAny_Expr_any (aW (he aa s σ H _ I h) λv s1 zz=>a_ zz λx H1 I1 r1 q1=>⟨σ,H1,I1,q1⟩) I.quiet hs
def OV(te:TE):TS:=λD σ H=>te σ H D.rt
def tY(he:PE X e te):PS X (.Return (some e) pos) (OV te):=by
 intro aa s σ H D I h
 exact wpAny_Return_some (aW (he aa s σ H _ I h) λv s1 zz=>a_ zz λx H1 I1 r1 q1=>⟨x,σ,H1,I1,r1,q1⟩)
def Cf(c:TT)(t u:TS):TS:=λD σ H=>c σ H λb H1=>if b=true then t D σ H1 else u D σ H1
def E7(hc:PT X c tc)(ha:lH X a t)(hb:lH X b u):PS X (.If c a b pos) (Cf tc t u):=by
 intro aa s σ H D I h
 refine wpAny_If (aW (hc aa s σ H _ I h) λd s1 zz=>?_)
 refine ab zz λH1 I1 q1=>?_
 cases d with
 |true=>exact ha aa s1 σ H1 D I1 q1
 |false=>exact hb aa s1 σ H1 D I1 q1
end
abbrev TG:=V->St->Hp->(St->Hp->Prop)->Prop
abbrev GF:=List V->St->Hp->(St->Hp->Prop)->Prop
def PG(X:Cx)(target:Expr)(t:TG):Prop:=
 ∀(aa:List (Addr×Obj)) (s:Shared) (σ:St) (H:Hp) (v:V) (u:Value) (Q:St->Hp->Prop),Inv X aa σ H s->RelV v u->t v σ H Q->
  wpAny (model X.prog X.w) X.A (assign target X.env u) (λ_ s'=>∃bT H',Inv X aa bT H' s'/\Q bT H') X.xe s
def JQ(X:Cx)(ts:List Expr)(t:GF):Prop:=
 ∀(aa:List (Addr×Obj)) (s:Shared) (σ:St) (H:Hp) (vs:List V) (us:List Value) (Q:St->Hp->Prop),Inv X aa σ H s->aA vs us->t vs σ H Q->
  wpAny (model X.prog X.w) X.A (assignInOrder ((assignEach ts X.env).map (·.2)) us) (λ_ s'=>∃bT H',Inv X aa bT H' s'/\Q bT H') X.xe s
abbrev KN:=V->V->V->Hp->(Hp->Prop)->Prop
def KO(X:Cx)(t:KN):Prop:=
 ∀(aa:List (Addr×Obj)) (s:Shared) (σ:St) (H:Hp) (o i v:V) (ov iv u:Value) (Q:Hp->Prop),Inv X aa σ H s->RelV o ov->RelV i iv->RelV v u->t o i v H Q->
  wpAny (model X.prog X.w) X.A (setItem ov iv u) (λ_ s'=>∃H',Inv X aa σ H' s'/\Q H') X.xe s
section
variable {X:Cx}{pos:Pos}
def cI(i:Nat):TG:=λv σ H Q=>Q (σ.set i (some v)) H
def lI(hN:X.N.Nodup)(hi:X.N[i]?=some x)(hx:Loc X.env.scope x)(hf:X.fn x=true\/X.env.scope.names.lookup x=some .local :=by first|exact .inl rfl|exact .inr rfl|assumption):PG X (.Name x pos) (cI i):=by
 intro aa s σ H v u Q I r h
 exact wpAny_assign_Name (qY I hN hi hx r (λs' I'=>⟨_,H,I',h⟩) hf)
def KP:GF:=λvs σ H Q=>vs=[]/\Q σ H
def E8(t:TG)(u:GF):GF:=λvs σ H Q=>∃v r,vs=v::r/\t v σ H λbT H'=>u r bT H' Q
def Cg:JQ X [] KP:=by
 intro aa s σ H vs us Q I r h
 obtain⟨e,h⟩:=h
 subst e
 cases r
 exact assignInOrder_nil ⟨σ,H,I,h⟩
def yR(h1:PG X e t)(h2:JQ X es u)
  (hs:(assignEach (e::es) X.env).map (·.2)=assign e X.env::(assignEach es X.env).map (·.2):=by rfl):JQ X (e::es) (E8 t u):=by
 intro aa s σ H vs us Q I r h
 obtain⟨v,vr,e1,h⟩:=h
 subst e1
 cases r with
 |cons r rr=>
  rw[hs]
  refine assignInOrder_cons (aW (h1 aa s σ H _ _ _ I r h) λ_ s1 zz=>?_)
  obtain⟨GG,H1,I1,q1⟩:=zz
  exact h2 aa s1 GG H1 _ _ Q I1 rr q1
def OW(K:PySem.W.Frag)(n:Nat)(t:GF):TG:=λv σ H Q=>∃a xs,v= .ref a/\cT K H a xs/\xs.length=n/\t xs σ H Q
def GH(hc:X.calm=true)(h:JQ X es t)
  (hn:(assignEach es X.env).length =n:=by rfl) (pL:(assignEach es X.env).findIdx? (·.1)=none:=by rfl):PG X (.Tuple es k pos) (OW X.K n t):=by
 intro aa s σ H v u Q I r hw
 refine ao λnO=>?_
 obtain⟨a,xs,e1,hq,hl,hw⟩:=hw
 subst e1
 cases r
 obtain⟨its,rv,ht,hz⟩:=I.tuple hq
 refine nO<|assign_Tuple_tuple (I.ok.hd hc) ht (by simp[hn,<-hl,rv.length]) pL λh' hx=>?_
 have I1:Inv X aa σ H {s with heap:=h'}:=I.kept (t':=s.toks) λb o e=>hx b o (XD (Xm e)) e
 exact h aa _ σ H xs _ Q I1 (by simpa using rv) hw
def OX(to ti:TE)(t:KN):TG:=λv σ H Q=>to σ H λo H1=>ti σ H1 λi H2=>t o i v H2 λH3=>Q σ H3
def GI(ho:PE X o to)(hi:PE X i ti)(hs:KO X t)
  (ha:∀v,assign (.Subscript o i pos) X.env v=(do
   let ov<-holding [v] (eval o X.env)
   let iv<-holding [v,ov] (eval i X.env)
   standAt pos
   holding [v,ov,iv] (setItem ov iv v)
   release [v,ov,iv] []):=by intro _;rfl):PG X (.Subscript o i pos) (OX to ti t):=by
 intro aa s σ H v u Q I r h
 rw[ha]
 refine W6 (X6 (aW (ho aa s σ H _ I h) λov s1 zz=>?_))
 refine a_ zz λx H1 I1 r1 q1=>W6 (X6 (aW (hi aa s1 σ H1 _ I1 q1) λiv s2 zz=>?_))
 refine a_ zz λy H2 I2 r2 q2=>W6 (aaO (W6 (X6 (aW (hs aa s2 σ H2 x y v ov iv u _ I2 r1 r2 r q2) λ_ s3 zz=>?_))))
 exact ab zz λH3 I3 q3=>wpAny_release ⟨σ,H3,I3,q3⟩
def nQ(te:TE)(g:TG):TS:=λD σ H=>te σ H λx H1=>g x σ H1 D.nx
def GJ(he:PE X e te)(hg:PG X tg g)(hs:swapsWithSole [tg] e pos.line X.env=pure false:=by rfl)(hw:swappedStores [tg] e X.env=pure none:=by rfl)
  (h1:(assignEach [tg] X.env).map (·.2)=[assign tg X.env]:=by rfl):PS X (.Assign [tg] e pos) (nQ te g):=by
 intro aa s σ H D I h
 refine wpAny_Assign_stores (aW (he aa s σ H _ I h) λv s1 zz=>a_ zz λx H1 I1 r1 q1=>?_) hs hw
 rw[h1]
 exact aW (hg aa s1 σ H1 x v _ I1 r1 q1) λ_ s2 q=>q
def j4(hN:X.N.Nodup)(hi:X.N[i]?=some x)(hx:Loc X.env.scope x)(he:PE X e te)(hs:swapsWith e (some (.Name x q0)) pos.line X.env=pure false:=by rfl)(hf:X.fn x=true\/X.env.scope.names.lookup x=some .local :=by first|exact .inl rfl|exact .inr rfl|assumption):
  PS X (.Assign [.Name x q0] e pos) (nQ te (cI i)):=by
 intro aa s σ H D I h
 refine wpAny_Assign_Name (aW (he aa s σ H _ I h) λv s1 zz=>a_ zz λy H1 I1 r1 q1=>?_) hs
 exact qY I1 hN hi hx r1 (λs2 I2=>⟨_,H1,I2,q1⟩) hf
def GK(c:TT)(tb:TS):TS:=λD σ H=>∃W:Nat->St->Hp->Prop,(∃m,W m σ H)/\∀m σ H,W m σ H->
 c σ H λb H1=>if b=true then∃N:St->Hp->Prop,(∀bT H',N bT H'->∃m',m'<m/\W m' bT H')/\tb {D with nx:=N,ct:=N,bk:=D.nx} σ H1 else D.nx σ H1
def q_(hp:PassesOwn (model X.prog X.w) X.A X.env X.xe)(hc:PT X c tc)(hb:lH X body tb):PS X (.While c body [] pos) (GK tc tb):=by
 intro aa s σ H D I h
 refine ao λnO=>?_
 obtain⟨W,⟨m0,w0⟩,turn⟩:=h
 refine nO ?_
 refine wpAny_While (codeAny_whileLoop (λn s'=>∃bT H',Inv X aa bT H' s'/\W n bT H') ?_ m0 ⟨σ,H,I,w0⟩)
 rintro n s1 ⟨GG,H1,I1,w1⟩
 refine Y1 hp (aW (hc aa s1 GG H1 _ I1 (turn n GG H1 w1)) λb s2 zz=>?_)
 refine ab zz λH2 I2 q2=>?_
 cases b with
 |true=>
  refine ab q2 λN hN q2=>?_
  rw[Xs rfl]
  refine Y1 hp (aW (hb aa s2 GG H2 _ I2 q2) λf s3 q3=>?_)
  cases f with
  |next=>
   exact ao λnO=>eW q3 λxj H3 I3 n3=>ab (hN xj H3 n3) λm' hm w3=>nO<|⟨m',hm,xj,H3,I3,w3⟩
  |cont=>
   exact ao λnO=>eW q3 λxj H3 I3 n3=>ab (hN xj H3 n3) λm' hm w3=>nO<|⟨m',hm,xj,H3,I3,w3⟩
  |brk=>exact q3
  |ret v=>exact q3
 |false=>
  rw[Xx Xa]
  exact abk ⟨GG,H2,I2,q2⟩
end
structure It where
 go:Nat->Hp->Prop
 yS:Nat->Hp->V->Hp->Prop
 stop:Nat->Hp->Prop
def lh(X:Cx)(aa:List (Addr×Obj))(H:Hp)(b:Addr):Prop:=
 H b=none/\b≠X.env.locals/\b∉X.fs/\(b∈X.ex\/X.s₀.heap.objs.size<=b)/\(∀x c,X.env.cells.lookup x=some c->c≠b)/\∀p∈X.pn++aa,p.1≠b
def Inv.xk(I:Inv X aa σ H s)(hb:s.heap.objs.size<=b)(hn:H' b=none):lh X aa H' b:=by
 refine⟨hn,ZJ (Xj I.lt hb),I.ON hb,.inr (Xq I.sz hb),λx c e z=>?_,λp hp z=>?_⟩
 .obtain⟨v,q⟩:=I.cell x c e
  exact absurd (Xj q.lt (by rw[z];exact hb)) (X2 _)
 .exact absurd (Xj (Xm (I.pin p hp).1) (by rw[z];exact hb)) (X2 _)
structure rf(P:Program)(w:World)(K:PySem.W.Frag)(tg:Expr)(J:It)(fp:List Addr)(it:Addr)(tn:Nat->Heap->Prop):Prop where
 mem:it∈fp
 obj:∀i h,tn i h->∀b∈fp,∃o,h.get? b=some o/\∀v,o.data≠ .cell v
 keep:∀i h h',tn i h->(∀b∈fp,∀o,h.get? b=some o->h'.get? b=some o)->tn i h'
 item:∀(X:Cx),X.prog=P->X.w=w->X.K=K->X.calm=true->∀(i:Nat) (aa:List (Addr×Obj)) (s:Shared) (σ:St) (H:Hp) (E:Value->Shared->Prop),Inv X aa σ H s->(∀b∈fp,lh X aa H b)->tn i s.heap->J.go i H->
  wpAny (model P w) X.A (pyNext (.ref it)) (λr s1=>∃u,r=some u/\
   wpAny (model P w) X.A (letOwnedTupleGo tg (.ref it) u) (λ_ s2=>∃x H',Inv X aa σ H' s2/\RelV x u/\J.yS i H x H'/\tn (i+1) s2.heap/\∀b∈fp,H' b=none) E s1) E s
 done:∀(X:Cx),X.prog=P->X.w=w->X.K=K->X.calm=true->∀(i:Nat) (aa:List (Addr×Obj)) (s:Shared) (σ:St) (H:Hp) (E:Value->Shared->Prop),Inv X aa σ H s->(∀b∈fp,lh X aa H b)->tn i s.heap->J.stop i H->
  wpAny (model P w) X.A (pyNext (.ref it)) (λr s1=>r=none/\Inv X aa σ H s1) E s
 self:∀(A:Around) (i:Nat) (s:Shared) (Q:Value->Shared->Prop) (E:Value->Shared->Prop),tn i s.heap->Q (.ref it) s->wpAny (model P w) A (pyIter (.ref it)) Q E s
abbrev TI:=St->Hp->(It->Hp->Prop)->Prop
def Sa(X:Cx)(aa:List (Addr×Obj))(σ:St)(tg:Expr)(R:It->Hp->Prop)(NU:Value)(s2:Shared):Prop:=
 ∃(it:Addr) (fp:List Addr) (tn:Nat->Heap->Prop) (J:It) (H':Hp),NU= .ref it/\Inv X aa σ H' s2/\rf X.prog X.w X.K tg J fp it tn/\tn 0 s2.heap/\(∀b∈fp,lh X aa H' b)/\R J H'
def PI(X:Cx)(tg iter:Expr)(wi:TI):Prop:=
 ∀(aa:List (Addr×Obj)) (s:Shared) (σ:St) (H:Hp) (R:It->Hp->Prop),Inv X aa σ H s->wi σ H R->
  wpAny (model X.prog X.w) X.A (eval iter X.env) (λv s1=>wpAny (model X.prog X.w) X.A (pyIter v) (Sa X aa σ tg R) X.xe s1) X.xe s
def rg(ho:s.heap.get? it=some o)(hc:o.cls= .type n)(hd:o.data= .fields vs)
  (hn:["enumerate","zip","dict_itemiterator","dict_reverseitemiterator","odict_iterator","itertools.zip_longest","itertools.pairwise"].contains n=false) (hQ:Q () s):wpAny M A (letOwnedTupleGo tg (.ref it) u) Q E s:=by
 unfold letOwnedTupleGo
 cases tg<;>first
  |exact Xe hQ
  |(cases u<;>first
    |exact Xe hQ
    |(refine W6 (wpAny_load ho ?_);rw[hc,hd];show wpAny M A (if(["enumerate","zip","dict_itemiterator","dict_reverseitemiterator","odict_iterator","itertools.zip_longest","itertools.pairwise"].contains n&&vs[0]? == some (rawInt _))=true then _ else _) Q E s;rw[Xx (by intro h;rw[hn,Bool.false_and]at h;cases h)];exact Xe hQ))
noncomputable def OY(K:PySem.W.Frag)(a:Addr):It:=
 ⟨λi H=>∃xs x,dI K H a xs/\xs[i]?=some x,λi H x H'=>H'=H/\∀xs,dI K H a xs->xs[i]?=some x,λi H=>∃xs,dI K H a xs/\xs.length<=i⟩
noncomputable def OZ(K:PySem.W.Frag)(a:Addr):It:=
 ⟨λi H=>∃xs x,cT K H a xs/\xs[i]?=some x,λi H x H'=>H'=H/\∀xs,cT K H a xs->xs[i]?=some x,λi H=>∃xs,cT K H a xs/\xs.length<=i⟩
noncomputable def NV(lo:Int)(n:Nat):It:=⟨λi _=>i<n,λi H x H'=>H'=H/\x= .int (lo+i),λi _=>n<=i⟩
def xl{P:Program}{w:World}{K:PySem.W.Frag}{tg:Expr}(a it:Addr):rf P w K tg (OY K a) [it] it (λi h=>h.IsListIter it a i) where
 mem:=by simp
 obj:=λi h st b hb=>by
  have e:b=it:=by simpa using hb
  subst e
  exact bF st λo e c d=>⟨o,e,λv z=>by rw[d]at z;cases z⟩
 keep:=λi h h' st k=>st.at λo e=>k it (by simp) o e
 item:=by
  intro X hP hw hK hc i aa s σ H E I hf st hg
  subst hP hw hK
  refine eW hg λxs x hq hx=>bF (I.list hq) λits rv p hz=>ab (rv.get hx) λu hu ru=>va (hf it (by simp)) λf0 f1 f2 f3 f4 f5=>wpAny_pyNext_list_item st p.isList (x:=u) (by simpa using hu) λh' aj sb=>?_
  have I1:Inv X aa σ H {s with heap:=h'}:=I.turned (t':=s.toks) (λb o hb e=>(sb.2 b hb).trans e) f0 f1 f3 f4 f5
  exact bF (id aj) λo e c d=>⟨u,rfl,rg (s:={s with heap:=h'}) e c d (by decide) ⟨x,H,I1,ru,⟨rfl,λys hy=>by rw[I.qZ hy hq];exact hx⟩,aj,λb hb=>(hf b hb).1⟩⟩
 done:=by
  intro X hP hw hK hc i aa s σ H E I hf st hg
  subst hP hw hK
  refine ab hg λxs hq hx=>bF (I.list hq) λits rv p hz=>va (hf it (by simp)) λf0 f1 f2 f3 f4 f5=>?_
  have hl:=rv.length
  exact wpAny_pyNext_list_end (I.ok.hd hc) st p.isList (by simp;lia) λh' eb=>⟨rfl,I.turned (t':=s.toks) (λb o hb e=>eb b o hb e) f0 f1 f3 f4 f5⟩
 self:=λ_ _ _ _ _ st h=>wpAny_pyIter_listiter st h
def tZ{P:Program}{w:World}{K:PySem.W.Frag}{tg:Expr}(a it:Addr):rf P w K tg (OZ K a) [it] it (λi h=>h.IsTupleIter it a i) where
 mem:=by simp
 obj:=λi h st b hb=>by
  have e:b=it:=by simpa using hb
  subst e
  exact bF st λo e c d=>⟨o,e,λv z=>by rw[d]at z;cases z⟩
 keep:=λi h h' st k=>st.at λo e=>k it (by simp) o e
 item:=by
  intro X hP hw hK hc i aa s σ H E I hf st hg
  subst hP hw hK
  refine eW hg λxs x hq hx=>bF (I.tuple hq) λits rv p hz=>ab (rv.get hx) λu hu ru=>va (hf it (by simp)) λf0 f1 f2 f3 f4 f5=>wpAny_pyNext_tuple_item st (show s.heap.IsTuple a its.toArray from p) (x:=u) (by simpa using hu) λh' aj sb=>?_
  have I1:Inv X aa σ H {s with heap:=h'}:=I.turned (t':=s.toks) (λb o hb e=>(sb.2 b hb).trans e) f0 f1 f3 f4 f5
  exact bF (id aj) λo e c d=>⟨u,rfl,rg (s:={s with heap:=h'}) e c d (by decide) ⟨x,H,I1,ru,⟨rfl,λys hy=>by rw[I.oq hy hq];exact hx⟩,aj,λb hb=>(hf b hb).1⟩⟩
 done:=by
  intro X hP hw hK hc i aa s σ H E I hf st hg
  subst hP hw hK
  refine ab hg λxs hq hx=>bF (I.tuple hq) λits rv p hz=>va (hf it (by simp)) λf0 f1 f2 f3 f4 f5=>?_
  have hl:=rv.length
  exact wpAny_pyNext_tuple_end (I.ok.hd hc) st (show s.heap.IsTuple a its.toArray from p) (by simp;lia) λh' eb=>⟨rfl,I.turned (t':=s.toks) (λb o hb e=>eb b o hb e) f0 f1 f3 f4 f5⟩
 self:=λ_ _ _ _ _ st h=>wpAny_pyIter_tupleiter st h
def t8{P:Program}{w:World}{K:PySem.W.Frag}{tg:Expr}(it:Addr)(lo:Int)(n:Nat):rf P w K tg (NV lo n) [it] it (λi h=>IsRangeIter h it (lo+(i:Nat)*1) ((n:Int)-(i:Nat)) 1) where
 mem:=by simp
 obj:=λi h st b hb=>by
  have e:b=it:=by simpa using hb
  subst e
  exact⟨_,st,λv z=>by
   have z':Data.fields _=Data.cell v:=z
   cases z'⟩
 keep:=λi h h' st k=>k it (by simp) _ st
 item:=by
  intro X hP hw hK hc i aa s σ H E I hf st hg
  subst hP hw hK
  refine va (hf it (by simp)) λf0 f1 f2 f3 f4 f5=>?_
  have W:=Walks.range (prog:=X.prog) (w:=X.w) (I.ok.hd hc) it lo 1 n
  refine W.item i s _ _ hg st λv h' tk hv aj kk=>?_
  obtain⟨t,rfl⟩:=hv
  have I1:Inv X aa σ H {s with heap:=h',toks:=tk}:=I.turned (λb o hb e=>kk b o (by simpa using hb) e) f0 f1 f3 f4 f5
  refine⟨_,rfl,rg (s:={s with heap:=h',toks:=tk}) (n:="range_iterator") aj rfl rfl (by decide) ⟨.int (lo+i),H,I1,⟨t,?_⟩,⟨rfl,rfl⟩,aj,λb hb=>(hf b hb).1⟩⟩
  rw[Int.mul_one]
 done:=by
  intro X hP hw hK hc i aa s σ H E I hf st hg
  subst hP hw hK
  exact va (hf it (by simp)) λf0 f1 f2 f3 f4 f5=>wpAny_pyNext_range_end (I.ok.hd hc) st (by have:n<=i:=hg;lia) λh' eb=>⟨rfl,I.turned (t':=s.toks) (λb o hb e=>eb b o hb e) f0 f1 f3 f4 f5⟩
 self:=λ_ _ _ _ _ st h=>wpAny_pyIter_rangeiter st h
section
variable {X:Cx}{tg:Expr}
def yT{aa:List (Addr×Obj)}{σ:St}{H:Hp}{s:Shared}{R:It->Hp->Prop}{E:Value->Shared->Prop}{lo hi:Int}{t u v:Tok}{tk:Nat}(I:Inv X aa σ H s)(h1: -(2 ^ 62)<=lo)(h2:lo<2 ^ 62)(h3: -(2 ^ 62)<=hi)(h4:hi<2 ^ 62)
  (q:R (NV lo (hi-lo).toNat) H):wpAny (model X.prog X.w) X.A (pyIter (.ref s.heap.objs.size)) (Sa X aa σ tg R) E {s with heap:=s.heap.push {cls:= .type "range",data:= .fields #[.int lo t,.int hi u,.int 1 v]},toks:=tk}:=by
 refine wpAny_pyIter_range (IsRange.new ..) (small_one h1 h2 h3 h4) ?_
 have I1:Inv X aa σ H {s with heap:=s.heap.push {cls:= .type "range",data:= .fields #[.int lo t,.int hi u,.int 1 v]},toks:=tk}:=I.kept λb o e=>W8 _ e
 refine⟨(s.heap.push {cls:= .type "range",data:= .fields #[.int lo t,.int hi u,.int 1 v]}).objs.size,[(s.heap.push {cls:= .type "range",data:= .fields #[.int lo t,.int hi u,.int 1 v]}).objs.size],_,_,H,rfl,
  I1.kept (t':=tk) λb o e=>W8 _ e,t8 _ lo (hi-lo).toNat,?_,λb hb=>?_,q⟩
 .have e1:lo+((0:Nat):Int)*1=lo:=by simp
  have e2:(((hi-lo).toNat :Nat):Int)-((0:Nat):Int)=Builtin.Range.rangeSize lo hi 1:=by rw[rangeSize_one];split<;>lia
  show IsRangeIter _ _ (lo+((0:Nat):Int)*1) ((((hi-lo).toNat :Nat):Int)-((0:Nat):Int)) 1
  rw[e1,e2]
  exact Xp _ rfl
 .have e:b=(s.heap.push {cls:= .type "range",data:= .fields #[.int lo t,.int hi u,.int 1 v]}).objs.size :=by simpa using hb
  subst e
  exact I1.xk (Xf _) (I1.aN.fresh (Xf _))
def KQ(ta:TA):TI:=λσ H R=>ta σ H λvs H1=>∃j:Int,vs=[.int j]/\ -(2 ^ 62)<=j/\j<2 ^ 62/\R (NV 0 j.toNat) H1
def xm{a:Expr}{ta:TA}{p pos:Pos}(hg:Gl X "range")(hm:X.mg "range"=none)(ha:PA X [a] ta)(hs:starEach [a] X.env=[(false,eval a X.env)]:=by rfl):PI X tg (.Call (.Name "range" p) [a] [] pos) (KQ ta):=by
 intro aa s σ H R I h
 refine Call_ (j0 I hg hm boot_range (YR (aW (ha pos aa s σ H _ I h) λus s1 zz=>a_ zz λvs H1 I1 r1 q1=>?_) hs rfl))
 obtain⟨j,e,q1,q2,q⟩:=q1
 subst e
 cases r1 with
 |cons r rr=>
  cases rr
  obtain⟨t,rfl⟩:=r
  exact call_range_1 (yT I1 (by lia) (by lia) q1 q2 (by simpa using q))
def O0(wi:TI)(g:TG)(tb:TS):TS:=λD σ H=>wi σ H λJ H1=>∃W:Nat->Nat->St->Hp->Prop,(∃m,W 0 m σ H1)/\∀i m σ H,W i m σ H->
 (J.stop i H/\D.nx σ H)\/(J.go i H/\∃N:St->Hp->Prop,(∀bT H',N bT H'->∃m',m'<m/\W (i+1) m' bT H')/\∀x H',J.yS i H x H'->g x σ H' λyB H2=>tb {D with nx:=N,ct:=N,bk:=D.nx} yB H2)
noncomputable def l7(fp:List Addr)(h:Heap):List (Addr×Obj):=fp.filterMap λb=>(h.get? b).map λo=>(b,o)
def fR(hb:b∈fp)(e:h.get? b=some o):(b,o)∈l7 fp h:=abF.mpr ⟨b,hb,by rw[e];rfl⟩
def xo(hp:p∈l7 fp h):p.1∈fp/\h.get? p.1=some p.2:=by
 refine ab (abF.mp hp) λb hb e=>?_
 cases q:h.get? b with
 |none=>rw[q]at e;cases e
 |some o=>
  rw[q]at e
  have e':(b,o)=p:=Xw e
  subst e'
  exact⟨hb,q⟩
def Inv.pinned(I:Inv X aa σ H s)(hf:∀b∈fp,lh X aa H b)(ho:∀b∈fp,∃o,s.heap.get? b=some o/\∀v,o.data≠ .cell v):Inv X (aa++l7 fp s.heap) σ H s:=
 I.vc λp hp=>(Xr.mp hp).elim (λz=>I.pin p (Xv _ z)) λz=>by
  refine ao λnO=>?_
  obtain⟨hb,e⟩:=xo z
  refine yA (hf p.1 hb) λf0 f1 f2 _=>ab (ho p.1 hb) λo e' d=>nO ?_
  rw[e]at e';cases e'
  exact⟨e,f0,f1,f2,d⟩
def Inv.je(I:Inv X (aa++pl) σ H s):Inv X aa σ H s:=I.vc λp hp=>I.pin p (Xv _ (XC _ hp))
def GL(hp:PassesOwn (model X.prog X.w) X.A X.env X.xe)(hc:X.calm=true)(hi:PI X tg iter wi)(hg:PG X tg g)(hb:lH X body tb)
  (hs:∀x,foldedSetIterable iter X.env x=pure x:=by intro _;rfl):PS X (.For tg iter body [] pos) (O0 wi g tb):=by
 intro aa s σ H D I h
 refine wpAny_For (aW (hi aa s σ H _ I h) λv s1 h1=>aW h1 λNU s2 h2=>?_) hs
 refine ao λnO=>?_
 obtain⟨it,fp,tn,J,H2,e,I2,T,cC,f2,W,⟨m0,w0⟩,turn⟩:=h2
 subst e
 refine nO ?_
 have t9:∀{H':Hp},(∀b∈fp,H' b=none)->∀b∈fp,lh X aa H' b:=λhn b hb=>⟨hn b hb,(f2 b hb).2⟩
 refine codeAny_forLoop_any (λn s'=>∃i bT H',Inv X aa bT H' s'/\tn i s'.heap/\(∀b∈fp,H' b=none)/\W i n bT H') ?_ m0 ⟨0,σ,H2,I2,cC,λb hb=>(f2 b hb).1,w0⟩
 rintro n s3 ⟨i,xj,H3,I3,lj,Sb,w3⟩
 rcases turn i n xj H3 w3 with⟨stop,qn⟩|⟨go,N,hN,step⟩
 .refine Y1 hp (aW (T.done X rfl rfl rfl hc i aa s3 xj H3 X.xe I3 (t9 Sb) lj stop) λr s4 zz=>?_)
  obtain⟨hr,I4⟩:=zz
  subst hr
  exact abk ⟨xj,H3,I4,qn⟩
 .refine Y1 hp (aW (T.item X rfl rfl rfl hc i aa s3 xj H3 X.xe I3 (t9 Sb) lj go) λr s4 zz=>?_)
  refine ao λnO=>ab zz λu hr h4=>?_
  subst hr
  refine nO ?_
  refine Y1 hp (aW h4 λ_ s5 zz=>?_)
  refine ao λnO=>kP zz λx H5 I5 r5 y5 xp NW=>nO ?_
  have Ui:=I5.pinned (t9 NW) (T.obj _ _ xp)
  refine Y1 hp (aW (hg _ s5 xj H5 x u _ Ui r5 (step x H5 y5)) λ_ s6 zz=>?_)
  refine ao λnO=>eW zz λUj H6 I6 q6=>nO ?_
  refine Y1 hp (aW (hb _ s6 Uj H6 _ I6 q6) λf s7 q7=>?_)
  have again:∀{yU:St}{H7:Hp},Inv X (aa++l7 fp s5.heap) yU H7 s7->N yU H7->∃m,m<n/\∃i bT H',Inv X aa bT H' s7/\tn i s7.heap/\(∀b∈fp,H' b=none)/\W i m bT H':=λ{yU H7} I7 n7=>by
   refine ab (hN yU H7 n7) λm' hm w7=>⟨m',hm,i+1,yU,H7,I7.je,T.keep _ _ _ xp λb hb o e=>(I7.pin (b,o) (Xv _ (Xv _ (fR hb e)))).1,λb hb=>?_,w7⟩
   exact ab (T.obj _ _ xp b hb) λo e d=>(I7.pin (b,o) (Xv _ (Xv _ (fR hb e)))).2.1
  cases f with
  |next=>obtain⟨yU,H7,I7,n7⟩:=q7;exact again I7 n7
  |cont=>obtain⟨yU,H7,I7,n7⟩:=q7;exact again I7 n7
  |brk=>obtain⟨yU,H7,I7,q7⟩:=q7;exact⟨yU,H7,I7.je,q7⟩
  |ret v=>obtain⟨x7,yU,H7,I7,r7,q7⟩:=q7;exact⟨x7,yU,H7,I7.je,r7,q7⟩
end
abbrev R2:=V->V->Hp->VK->Prop
def ik(X:Cx)(f:Value->Value->Sem Value)(r:R2):Prop:=
 ∀(aa:List (Addr×Obj)) (s:Shared) (σ:St) (H:Hp) (x y:V) (v u:Value) (Q:VK),Inv X aa σ H s->RelV x v->RelV y u->r x y H Q->
  wpAny (model X.prog X.w) X.A (f v u) (EP X aa σ Q) X.xe s
def O1(X:Cx)(f:Value->Sem Value)(r:V->Hp->VK->Prop):Prop:=
 ∀(aa:List (Addr×Obj)) (s:Shared) (σ:St) (H:Hp) (x:V) (v:Value) (Q:VK),Inv X aa σ H s->RelV x v->r x H Q->
  wpAny (model X.prog X.w) X.A (f v) (EP X aa σ Q) X.xe s
def cJ(X:Cx)(f:Value)(r:List V->Hp->VK->Prop):Prop:=
 ∀(aa:List (Addr×Obj)) (s:Shared) (σ:St) (H:Hp) (xs:List V) (us:List Value) (Q:VK),Inv X aa σ H s->aA xs us->r xs H Q->
  wpAny (model X.prog X.w) X.A (call f us) (EP X aa σ Q) X.xe s
def O3(X:Cx)(r:V->Hp->(Bool->Hp->Prop)->Prop):Prop:=
 ∀(aa:List (Addr×Obj)) (s:Shared) (σ:St) (H:Hp) (x:V) (v:Value) (Q:Bool->Hp->Prop),Inv X aa σ H s->RelV x v->r x H Q->
  wpAny (model X.prog X.w) X.A (truthy v) (TP X aa σ Q) X.xe s
def E9(r:R2)(ta tb:TE):TE:=λσ H Q=>ta σ H λx H1=>tb σ H1 λy H2=>r x y H2 Q
def Uk(r:V->Hp->VK->Prop)(ta:TE):TE:=λσ H Q=>ta σ H λx H1=>r x H1 Q
def rI(C:Int->Int->Prop)(g:Int->Int->V):R2:=λx y H Q=>∃i j,x= .int i/\y= .int j/\C i j/\Q (g i j) H
def E_(g:Int->Int->V):R2:=λx y H Q=>∃i j,x= .int i/\y= .int j/\Q (g i j) H
def rU(g:Int->V):V->Hp->VK->Prop:=λx H Q=>∃i,x= .int i/\Q (g i) H
section
variable {X:Cx}{a b c:Expr}{ta tb tc:TE}{pos:Pos}
def GN(ha:PE X a ta)(hb:PE X b tb){aa:List (Addr×Obj)}{s:Shared}{σ:St}{H:Hp}{R:V->V->Hp->Prop}(I:Inv X aa σ H s)
  (h:ta σ H λx H1=>tb σ H1 λy H2=>R x y H2) {Q:Value->Shared->Prop}{f:Value->Value->Sem Value}
  (hf:∀v u s2 x y H2,Inv X aa σ H2 s2->RelV x v->RelV y u->R x y H2->wpAny (model X.prog X.w) X.A (f v u) Q X.xe s2):
  wpAny (model X.prog X.w) X.A (eval a X.env) (λv aS=>wpAny (model X.prog X.w) X.A (eval b X.env) (λu l6=>wpAny (model X.prog X.w) X.A (f v u) Q X.xe l6) X.xe aS) X.xe s:=by
 exact aW (ha aa s σ H _ I h) λv s1 zz=>a_ zz λx H1 I1 r1 q1=>aW (hb aa s1 σ H1 _ I1 q1) λu s2 zz=>a_ zz λy H2 I2 r2 q2=>hf v u s2 x y H2 I2 r1 r2 q2
def ot{op:Operator}{r:R2}(ho:ik X (binaryOp op) r)(ha:PE X a ta)(hb:PE X b tb):PE X (.BinOp a op b pos) (E9 r ta tb):=by
 intro aa s σ H Q I h
 exact wpAny_BinOp (GN ha hb I h λv u s2 x y H2 I2 rx ry q=>ho aa s2 σ H2 x y v u Q I2 rx ry q)
def Fb(ho:O1 X (unaryOp op) r)(ha:PE X a ta):PE X (.UnaryOp op a pos) (Uk r ta):=by
 intro aa s σ H Q I h
 exact UnaryOp_ (aW (ha aa s σ H _ I h) λv s1 zz=>a_ zz λx H1 I1 r1 q1=>ho aa s1 σ H1 x v Q I1 r1 q1)
def O4{f:Value->Value->Sem Value}{C:Int->Int->Prop}{g:Int->Int->Int}
  (rule:∀(i j:Int) (t u:Tok) (s:Shared) (Q:Value->Shared->Prop) (E:Value->Shared->Prop),C i j->Q (.int (g i j) s.toks) {s with toks:=s.toks+1}->wpAny (model X.prog X.w) X.A (f (.int i t) (.int j u)) Q E s):
  ik X f (rI C λi j=> .int (g i j)):=by
 intro aa s σ H x y v u Q I rx ry h
 refine gq h λi j ah aK hc q=>?_
 try clear h
 subst ah
 subst aK
 obtain⟨t,rfl⟩:=rx
 obtain⟨t',rfl⟩:=ry
 exact rule i j t t' s _ _ hc ⟨.int (g i j),H,I.tok _,⟨_,rfl⟩,q⟩
def KR{f:Value->Value->Sem Value}{g:Int->Int->Int}
  (rule:∀(i j:Int) (t u:Tok) (s:Shared) (Q:Value->Shared->Prop) (E:Value->Shared->Prop),Q (.int (g i j) s.toks) {s with toks:=s.toks+1}->wpAny (model X.prog X.w) X.A (f (.int i t) (.int j u)) Q E s):
  ik X f (E_ λi j=> .int (g i j)):=by
 intro aa s σ H x y v u Q I rx ry h
 refine a_ h λi j ah aK q=>?_
 try clear h
 subst ah
 subst aK
 obtain⟨t,rfl⟩:=rx
 obtain⟨t',rfl⟩:=ry
 exact rule i j t t' s _ _ ⟨.int (g i j),H,I.tok _,⟨_,rfl⟩,q⟩
def GO{f:Value->Value->Sem Value}{g:Int->Int->Bool}
  (rule:∀(i j:Int) (t u:Tok) (s:Shared) (Q:Value->Shared->Prop) (E:Value->Shared->Prop),Q (.bool (g i j)) s->wpAny (model X.prog X.w) X.A (f (.int i t) (.int j u)) Q E s):
  ik X f (E_ λi j=> .bl (g i j)):=by
 intro aa s σ H x y v u Q I rx ry h
 refine a_ h λi j ah aK q=>?_
 try clear h
 subst ah
 subst aK
 obtain⟨t,rfl⟩:=rx
 obtain⟨t',rfl⟩:=ry
 exact rule i j t t' s _ _ ⟨.bl (g i j),H,I,rfl,q⟩
def O5(i j:Int):Prop:=0<j/\j<1073741824
def Ci(i j:Int):Prop:=(-(2 ^ 64)<i/\i<2 ^ 64)\/(-(2 ^ 64)<j/\j<2 ^ 64)
def Ci.ok(h:Ci i j):IntMulOk i j:=by
 rcases h with⟨h1,h2⟩|⟨h1,h2⟩
 .exact .of_left (intBits_le_64 h1 h2)
 .exact .of_right (intBits_le_64 h1 h2)
def GP:ik X (binaryOp .Add) (E_ λi j=> .int (i+j)):=KR λ_ _ _ _ _ _ _ q=>add_int q
def GQ:ik X (binaryOp .Sub) (E_ λi j=> .int (i-j)):=KR λ_ _ _ _ _ _ _ q=>sub_int q
def GR:ik X (binaryOp .Mult) (rI Ci λi j=> .int (i*j)):=O4 λ_ _ _ _ _ _ _ hc q=>mul_int q hc.ok
def Cj:ik X (binaryOp .FloorDiv) (rI O5 λi j=> .int (i/j)):=O4 λi j _ _ _ _ _ hc q=>by
 have h1:(0:Int)<j:=hc.1
 have h2:j<1073741824:=hc.2
 exact floordiv_int (by lia) (by rw[Int.fdiv_eq_ediv_of_nonneg i (by lia)];exact q) (.inl (PyProof.noPylong_small (by lia)))
def GS:ik X (binaryOp .Mod) (rI (λ_ j=>0<j) λi j=> .int (i%j)):=O4 λi j _ _ _ _ _ hc q=>by
 have h1:(0:Int)<j:=hc
 exact mod_int' (by lia) (by rw[Int.fmod_eq_emod_of_nonneg i (by lia)];exact q)
def Ul{f:Value->Sem Value}{g:Int->Int}
  (rule:∀(i:Int) (t:Tok) (s:Shared) (Q:Value->Shared->Prop) (E:Value->Shared->Prop),Q (.int (g i) s.toks) {s with toks:=s.toks+1}->wpAny (model X.prog X.w) X.A (f (.int i t)) Q E s):
  O1 X f (rU λi=> .int (g i)):=by
 intro aa s σ H x v Q I rx h
 refine ab h λi ah q=>?_
 try clear h
 subst ah
 obtain⟨t,rfl⟩:=rx
 exact rule i t s _ _ ⟨.int (g i),H,I.tok _,⟨_,rfl⟩,q⟩
def yV:O1 X (unaryOp .USub) (rU λi=> .int (-i)):=Ul λ_ _ _ _ _ q=>neg_int q
def KS:ik X (compareOp .Lt) (E_ λi j=> .bl (decide (i<j))):=GO λ_ _ _ _ _ _ _ q=>lt_int q
def KU:ik X (compareOp .LtE) (E_ λi j=> .bl (decide (i<=j))):=GO λ_ _ _ _ _ _ _ q=>le_int q
def KW:ik X (compareOp .Gt) (E_ λi j=> .bl (decide (j<i))):=GO λ_ _ _ _ _ _ _ q=>gt_int q
def ik.or(h:ik X f r)(h':ik X f r'):ik X f (λx y H Q=>r x y H Q\/r' x y H Q):=by
 intro aa s σ H x y v u Q I rx ry q
 rcases q with q|q
 .exact h aa s σ H x y v u Q I rx ry q
 .exact h' aa s σ H x y v u Q I rx ry q
def Ck{op:CmpOp}{r:R2}(ho:ik X (compareOp op) r)(ha:PE X a ta)(hb:PE X b tb)(hm:behindInMarks op b=false):PE X (.Compare a [op] [b] pos) (E9 r ta tb):=by
 intro aa s σ H Q I h
 exact wpAny_Compare1 (GN ha hb I h λv u s2 x y H2 I2 rx ry q=>ho aa s2 σ H2 x y v u Q I2 rx ry q) hm
def Fc(t:TE):TT:=λσ H Q=>t σ H λx H'=>∃k,x= .bl k/\Q k H'
def Cm(ho:ik X (compareOp op) r)(ha:PE X a ta)(hb:PE X b tb)(hm:behindInMarks op b=false):PT X (.Compare a [op] [b] pos) (Fc (E9 r ta tb)):=by
 intro aa s σ H Q I h
 refine wpAny_isTrue_Compare1 (aW (ha aa s σ H _ I h) λv s1 ⟨x,H1,I1,r1,q1⟩=>aW (hb aa s1 σ H1 _ I1 q1) λu s2 ⟨y,H2,I2,r2,q2⟩=>
  aW (ho aa s2 σ H2 x y v u _ I2 r1 r2 q2) λc s3 ⟨z,H3,I3,r3,k,e,q3⟩=>?_) hm
 subst e
 cases r3
 exact X_ ⟨H3,I3,q3⟩
def yW(r r':R2)(ta tb tc:TE):TE:=λσ H Q=>ta σ H λx H1=>tb σ H1 λy H2=>r x y H2 λz H3=>∃k,z= .bl k/\
 (if k=true then tc σ H3 λw' H4=>r' y w' H4 Q else Q (.bl false) H3)
def yX(ho:ik X (compareOp op) r)(tX:ik X (compareOp tT) r')(ha:PE X a ta)(hb:PE X b tb)(hc:PE X c tc)
  (hm:lastMarks [op,tT] [b,c]=false:=by with_unfolding_all rfl):PE X (.Compare a [op,tT] [b,c] pos) (yW r r' ta tb tc):=by
 intro aa s σ H Q I h
 refine Compare_chain (aW (ha aa s σ H _ I h) λv s1 ⟨x,H1,I1,r1,q1⟩=>chain_link (aW (hb aa s1 σ H1 _ I1 q1) λu s2 ⟨y,H2,I2,r2,q2⟩=>
  aW (ho aa s2 σ H2 x y v u _ I2 r1 r2 q2) λd s3 ⟨z,H3,I3,r3,k,e,q3⟩=>?_)) hm
 subst e
 cases r3
 refine X_ ?_
 cases k with
 |false=>exact ite_ff ⟨.bl false,H3,I3,rfl,q3⟩
 |true=>exact ite_tt (chain_last (aW (hc aa s3 σ H3 _ I3 q3) λw' s4 ⟨z',H4,I4,r4,q4⟩=>tX aa s4 σ H4 y z' u w' Q I4 r2 r4 q4))
def yY(ho:ik X (compareOp op) r)(tX:ik X (compareOp tT) r')(ha:PE X a ta)(hb:PE X b tb)(hc:PE X c tc)
  (hm:lastMarks [op,tT] [b,c]=false:=by with_unfolding_all rfl):PT X (.Compare a [op,tT] [b,c] pos) (Fc (yW r r' ta tb tc)):=by
 intro aa s σ H Q I h
 refine isTrue_chain (aW (ha aa s σ H _ I h) λv s1 ⟨x,H1,I1,r1,q1⟩=>test_link (aW (hb aa s1 σ H1 _ I1 q1) λu s2 ⟨y,H2,I2,r2,q2⟩=>
  aW (ho aa s2 σ H2 x y v u _ I2 r1 r2 q2) λd s3 ⟨z,H3,I3,r3,k,e,q3⟩=>?_)) hm
 subst e
 cases r3
 refine X_ ?_
 cases k with
 |false=>
  refine ao λnO=>ab q3 λk' e' q'=>?_
  cases e'
  exact nO<|ite_ff ⟨H3,I3,q'⟩
 |true=>
  refine ite_tt (test_last (aW (hc aa s3 σ H3 _ I3 q3) λw' s4 ⟨z',H4,I4,r4,q4⟩=>aW (tX aa s4 σ H4 y z' u w' _ I4 r2 r4 q4) λd' s5 zz=>?_))
  refine ao λnO=>?_
  obtain⟨z2,H5,I5,r5,k2,e2,q5⟩:=zz
  subst e2
  cases r5
  exact nO<|X_ ⟨H5,I5,q5⟩
def GU(K:PySem.W.Frag)(x:V)(H:Hp)(k:Bool):Prop:=
 match x with
 | .dj =>k=false
 | .bl b=>k=b
 | .int i=>k=(i !=0)
 | .str y=>y.length<=sizeLine/\k=((y.length:Int) !=0)
 | .Ks y=>y.size<=sizeLine/\k=((y.size:Int) !=0)
 | .ref p=>(∃xs,dI K H p xs/\k=!xs.isEmpty)\/(∃xs,cT K H p xs/\k=!xs.isEmpty)\/∃aw,H p=some (.dK aw)/\k=!aw.isEmpty
 |_=>False
def t_(r:KV aw vs):(!vs.isEmpty)=!aw.isEmpty:=by
 cases r<;>rfl
def l9(r:aA xs its):(!its.toArray.isEmpty)=!xs.isEmpty:=by
 cases r<;>simp
def l_:(sizeLine:Nat)<2 ^ 63:=by rw[sizeLine_eq];decide
def GV:O3 X (λx H Q=>∃k,GU X.K x H k/\Q k H):=by
 intro aa s σ H x v Q I rx h
 obtain⟨k,e,q⟩:=h
 have hl:=l_
 have hs:sizeLine=16777216:=sizeLine_eq
 cases x with
 |dj=>
  cases rx
  have e':k=false:=e
  subst e'
  exact truthy_none ⟨H,I,q⟩
 |bl b=>
  cases rx
  have e':k=b:=e
  subst e'
  exact X_ ⟨H,I,q⟩
 |int i=>
  obtain⟨t,rfl⟩:=rx
  have e':k=(i !=0):=e
  subst e'
  exact PySem.P.truthy_int ⟨H,I,q⟩
 |str y=>
  obtain⟨t,rfl⟩:=rx
  obtain⟨hy,e'⟩:y.length<=sizeLine/\k=((y.length:Int) !=0):=e
  subst e'
  exact PySem.P.truthy_str (by lia) ⟨H,I.tok _,q⟩
 |Ks y=>
  obtain⟨t,rfl⟩:=rx
  obtain⟨hy,e'⟩:y.size<=sizeLine/\k=((y.size:Int) !=0):=e
  subst e'
  exact PySem.W.truthy_bytes (by lia) ⟨H,I.tok _,q⟩
 |ref p=>
  cases rx
  have e':(∃xs,dI X.K H p xs/\k=!xs.isEmpty)\/(∃xs,cT X.K H p xs/\k=!xs.isEmpty)\/∃aw,H p=some (.dK aw)/\k=!aw.isEmpty:=e
  rcases e' with⟨xs,hx,e'⟩|⟨xs,hx,e'⟩|⟨aw,hx,e'⟩
  .refine ao λnO=>?_
   subst e'
   obtain⟨its,r,pl,hz⟩:=I.list hx
   refine nO ?_
   have aX:=r.length
   exact wpAny_truthy_list pl.isList (by simp only[Xh];lia) ⟨H,I.tok _,by rw[l9 r];exact q⟩
  .refine ao λnO=>?_
   subst e'
   obtain⟨its,r,pl,hz⟩:=I.tuple hx
   refine nO ?_
   have aX:=r.length
   exact truthy_tuple pl (by simp only[Xh];lia) ⟨H,I.tok _,by rw[l9 r];exact q⟩
  .subst e'
   obtain⟨hz,hS,vs,r,m⟩:aw.length<=sizeLine/\(p==sysModules)=false/\∃vs,KV aw vs/\s.heap.DictOf (aV X.prog X.w) p vs:=I.aN p _ hx
   have aX:aw.length=vs.length:=Zr r
   exact wpAny_truthy_dict hS m (by lia) ⟨H,I.tok _,by rw[t_ r];exact q⟩
 |_=>exact(show False from e).elim
def rh(ha:PE X a ta)(he:∀whole,isTrue a X.env whole=(do let v<-whole;standAt a.pos;holding [v] (truthy v))):
  PT X a (λσ H Q=>ta σ H λx H'=>∃k,GU X.K x H' k/\Q k H'):=by
 intro aa s σ H Q I h
 exact isTrue_plain (aW (ha aa s σ H _ I h) λv s1 zz=>a_ zz λx H1 I1 r1 q1=>GV aa s1 σ H1 x v Q I1 r1 q1) (he _)
def vals1(r:aA [x] us):∃u,us=[u]/\RelV x u:=by
 cases r with
 |cons r1 r2=>cases r2;exact⟨_,rfl,r1⟩
def vals2(r:aA [x,y] us):∃u w',us=[u,w']/\RelV x u/\RelV y w':=by
 cases r with
 |cons r1 r2=>
  cases r2 with
  |cons r3 r4=>cases r4;exact⟨_,_,rfl,r1,r3⟩
def pM:cJ X (.type "str") (λxs H Q=>∃i,xs=[.int i]/\i.natAbs.log2<1920/\Q (.str (toString i)) H):=by
 intro aa s σ H xs us Q I r h
 refine bF h λi ah hz q=>?_
 try clear h
 subst ah
 obtain⟨u,rfl,t,rfl⟩:=vals1 r
 exact PySem.P.str_of_int hz ⟨.str _,H,I.tok _,⟨_,rfl⟩,q⟩
end
section
variable {prog:Program}{w:World}{A:Around}{E:Value->Shared->Prop}{s:Shared}{K:PySem.W.Frag}{x dx C f:Addr}{mA:Str->Option Value}{name:Str}{v:Value}
end
noncomputable def GW(f:Str)(v:V):List (Str×V)->List (Str×V)
 |[]=>[(f,v)]
 |(g,x)::r=>if g=f then(g,v)::r else(g,x)::GW f v r
def nM.some_of(r:nM (some v) o):∃u,o=some u/\RelV v u:=by
 cases o with
 |none=>exact(show False from r).elim
 |some u=>exact⟨u,rfl,r⟩
section
variable {P:Program}{w:World}{H H':Hp}{h h':Heap}{a C dx:Addr}{fs Ud:List (Str×V)}{X:Cx}{aa:List (Addr×Obj)}{σ:St}{s:Shared}{f:Str}{v:V}{A:Around}{E:Value->Shared->Prop}
end
section
variable {X:Cx}{o e value:Expr}{f:Str}{pos q0 tpos:Pos}{ta tv:TE}
def GX:V->V->Hp->VK->Prop:=λx y H Q=>∃i j,x= .int i/\y= .int j/\Q (.int (i+j)) H
end
section
variable {X:Cx}{aa:List (Addr×Obj)}{σ:St}{H:Hp}{s:Shared}{A:Around}{E:Value->Shared->Prop}{Q:Value->Shared->Prop}{c:Value}{b:Bool}
end
structure eN(k:Nat)(A:Around):Prop where
 hd:A.handled=none
 dp:A.depth+3*k+5<recursionLimit
 un:A.units+16*k+200<cLine
def eN.mono(r:eN k A)(h:j<=k):eN j A:=⟨r.hd,by have:=r.dp;lia,by have:=r.un;lia⟩
theorem eN.deeper(r:eN (k+1) A)(env:Env):eN k (A.deeper env):=
 ⟨r.hd,by have:=r.dp;show A.depth+1+3*k+5<_;lia,by have:=r.un;show A.units+3+16*k+200<_;lia⟩
theorem eN.depth(r:eN k A):A.depth<recursionLimit:=by have:=r.dp;lia
theorem eN.units(r:eN k A):A.units+64<cLine:=by have:=r.un;lia
def ma:TA:=λ_ H Q=>Q [] H
def cP(ta:TE)(tr:TA):TA:=λσ H Q=>ta σ H λx H1=>tr σ H1 λxs H2=>Q (x::xs) H2
section
variable {X:Cx}{e:Expr}{es:List Expr}{te:TE}{t:TA}{pos:Pos}
def eO:PA X [] ma:=λ_ _ _ _ H Q I h=>Calls.spliced_nil ⟨[],H,I,.nil,h⟩
def cw(ha:PE X e te)(hr:PA X es t)(hs:starEach (e::es) X.env=(false,eval e X.env)::starEach es X.env:=by rfl):PA X (e::es) (cP te t):=by
 intro pos aa s σ H Q I h
 rw[hs]
 show wpAny _ _ (spliced ((false,eval e X.env)::backTo pos (starEach es X.env))) _ _ s
 refine Calls.spliced_cons (aW (ha aa s σ H _ I h) λu s1 zz=>?_)
 exact a_ zz λx H1 I1 r1 q1=>aW (hr pos aa s1 σ H1 _ I1 q1) λus s2 zz=>a_ zz λxs H2 I2 r2 q2=>⟨x::xs,H2,I2,.cons r1 r2,q2⟩
def O6(t:TA):TE:=λσ H Q=>t σ H λxs H1=>xs.length<=sizeLine/\∀p,H1 p=none->Q (.ref p) (upd H1 p (.tup xs))
def O7(t:TA):TE:=λσ H Q=>t σ H λxs H1=>xs.length<=sizeLine/\∀p,H1 p=none->Q (.ref p) (upd H1 p (.lst xs))
def GY(h:PA X es t):PE X (.Tuple es x1 pos) (O6 t):=by
 intro aa s σ H Q I hq
 refine wpAny_Tuple_spliced (aW (h pos aa s σ H _ I hq) λus s1 ⟨xs,H1,I1,r,z,q⟩=>⟨by rw[<-r.length];exact z,?_⟩)
 have hf:H1 s1.heap.objs.size=none:=I1.aN.fresh (Xf _)
 refine⟨.ref s1.heap.objs.size,upd H1 s1.heap.objs.size (.tup xs),I1.laid (t':=s1.toks) (λb u e=>W8 _ e) (Xf _) ?_,rfl,q _ hf⟩
 exact⟨z,us,r,ij.new _ _⟩
def GZ(h:PA X es t):PE X (.List es pos) (O7 t):=by
 intro aa s σ H Q I hq
 refine wpAny_List_spliced (aW (h pos aa s σ H _ I hq) λus s1 ⟨xs,H1,I1,r,z,q⟩=>⟨by rw[<-r.length];exact z,?_⟩)
 have hf:H1 s1.heap.objs.size=none:=I1.aN.fresh (Xf _)
 refine⟨.ref s1.heap.objs.size,upd H1 s1.heap.objs.size (.lst xs),I1.laid (t':=s1.toks) (λb u e=>W8 _ e) (Xf _) ?_,rfl,q _ hf⟩
 exact⟨z,us,0,r,Xp _ rfl⟩
end
abbrev Sp:=List V->Hp->VK->XK->Prop
abbrev yZ:=List Env->Hp->Shared->XK->Value->Shared->Prop
structure Cn(P:Program)(w:World)(K:PySem.W.Frag)(mg:Str->Option Value)(base:Heap)(A:Around)(outer:List Env)(s:Shared)(H:Hp):Prop where
 frames:A.frames=some outer
 mod:Mod K mg base
 bs:∀b o,base.get? b=some o->s.heap.get? b=some o/\H b=none
 yL:base.objs.size<=s.heap.objs.size
 l4:s.heap.FunFrames base outer
 JP:∀b∈yK outer,H b=none
 aN:iL P w H s.heap
 bare:AllBare s.gens
def CE(outer:List Env)(P:Program)(w:World)(H:Hp)(s:Shared)(Q:VK)(u:Value)(s':Shared):Prop:=
 ∃v H',s'.os=s.os/\AllBare s'.gens/\Un (yK outer) [] H H' s.heap s'.heap/\iL P w H' s'.heap/\RelV v u/\Q v H'
def CR(CX:yZ)(outer:List Env)(P:Program)(w:World)(H:Hp)(s:Shared)(Q:VK)(E:XK)(r:Result)(s':Shared):Prop:=
 match r with
 | .ok (.ret u)=>CE outer P w H s Q u s'
 | .ok _=>False
 | .error e=>CX outer H s E e s'
structure jf(P:Program)(w:World)(K:PySem.W.Frag)(mg:Str->Option Value)(base:Heap)(CX:yZ)(k:Nat)(f:Addr)(fd:FuncData)(ps:List Str)(sp:Sp):Prop where
 len:∀vs H Q E,sp vs H Q E->vs.length=ps.length
 run:∀(A:Around) (outer:List Env) (s:Shared) (H:Hp) (args:Args) (us:List Value) (vs:List V) (Q:VK) (E:XK),eN k A->Cn P w K mg base A outer s H->BindsTo s fd args (ps.zip us)->aA vs us->sp vs H Q E->
  codeAny (model P w) A (.call (.ref f) args) (CR CX outer P w H s Q E) s
section
variable {X:Cx}{aa:List (Addr×Obj)}{σ:St}{H:Hp}{s s':Shared}
def Inv.O8(I:Inv X aa σ H s):Cn X.prog X.w X.K X.mg X.base X.A X.stack s H:=
 ⟨I.ok.frames,I.ok.mod,I.bs,Xq I.ok.yL I.sz,I.stack,I.vb,I.aN,I.bare⟩
def Inv.after(I:Inv X aa σ H s)(h:CE X.stack X.prog X.w H s Q u s'):EP X aa σ Q u s':=by
 refine OD h λv H' os bare un aN r q=>?_
 obtain⟨hh,g,d,t,Um⟩:=s'
 obtain rfl:Um=s.os:=os
 exact⟨v,H',I.call (h':=hh) (g':=g) (d':=d) (t':=t) (ch:=[]) un aN bare (λb z=>absurd z (by simp)),r,q⟩
end
def KY(sp:Sp)(Fe:List V)(E:XK)(t:TA):TE:=λσ H Q=>t σ H λvs H1=>sp (vs++Fe) H1 Q E
def Binds(K:PySem.W.Frag)(fd:FuncData)(ps:List Str)(ds:List Value):Prop:=
 ∀(s:Shared) (us:List Value),K.In s.heap->(us++ds).length =ps.length->BindsTo s fd ⟨us,[]⟩ (ps.zip (us++ds))
def Binds.all{K:PySem.W.Frag}{fd:FuncData}{ps:List Str}(h:∀us:List Value,us.length=ps.length->bindArgs fd ⟨us,[]⟩=pure (ps.zip us)):Binds K fd ps []:=λs us _ hl=>by
 rw[X7]at hl⊢
 exact .of_eq (h us hl)
def ua(CX:yZ)(X:Cx)(E:XK):Prop:=∀(aa:List (Addr×Obj)) (σ:St) (H:Hp) (s:Shared) (e:Value) (s':Shared),Inv X aa σ H s->CX X.stack H s E e s'->X.xe e s'
section
variable {X:Cx}{CX:yZ}{k:Nat}{f C:Addr}{fd:FuncData}{ps:List Str}{sp:Sp}{Fe:List V}{ds:List Value}{E:XK}{x m:Str}{p pos nR:Pos}{e o:Expr}{es:List Expr}{ta:TE}{t:TA}{ks:List Str}{Uo:Pos}{ub:List Keyword}{te:TE}{tk:TA}{nm:Option Str}{g:List Value->List Value->List Value}{gV:List V->List V->List V}
def y0(F:jf X.prog X.w X.K X.mg X.base CX k f fd ps sp)(hr:eN k X.A)(hb:Binds X.K fd ps ds)(hd:aA Fe ds)(hx:ua CX X E)
  (I:Inv X aa σ H s) (r:aA vs us) (h:sp (vs++Fe) H Q E):wpAny (model X.prog X.w) X.A (call (.ref f) us) (EP X aa σ Q) X.xe s:=by
 have r2:aA (vs++Fe) (us++ds):=r.append hd
 have hl:(us++ds).length =ps.length:=by rw[<-r2.length];exact F.len _ _ _ _ h
 refine wpAny_call (abl (F.run X.A X.stack s H ⟨us,[]⟩ (us++ds) (vs++Fe) Q E hr I.O8 (hb s us I.E5 hl) r2 h) λr s' hq=>?_)
 cases r with
 |error e=>exact hx aa σ H s e s' I hq
 |ok fl=>
  cases fl with
  |ret u=>exact I.after hq
  |next=>exact False.elim hq
  |brk=>exact False.elim hq
  |cont=>exact False.elim hq
def vh(F:jf X.prog X.w X.K X.mg X.base CX k f fd ps sp)(hr:eN k X.A)(hg:Gl X x)(hm:X.mg x=some (.ref f))(hk:PySem.W.keepIn X.K (.ref f)=true)(hb:Binds X.K fd ps ds)(hd:aA Fe ds)(hx:ua CX X E)
  (ha:PA X (e::es) t) (BS:(x==("__debug__":Str))=false:=by decide) (he:starEach (e::es) X.env=(false,eval e X.env)::starEach es X.env:=by rfl) (j5:(backTo pos (starEach es X.env)).any (·.1)=false:=by rfl):
  PE X (.Call (.Name x p) (e::es) [] pos) (KY sp Fe E t):=by
 intro aa s σ H Q I h
 refine ZL (pI I hg hm ?_ BS)
 refine abG (h₀:=X.base) I.ok.mod.NQ hk (aW (ha pos aa s σ H _ I h) λus s1 zz=>a_ zz λvs H1 I1 r q=>⟨I1.E5,?_⟩) he j5
 exact y0 F hr hb hd hx I1 r q
end
structure gS(N P:List Str)(sc:Scope):Prop where
 kind:sc.kind= .function
 co:sc.isCoroutine=false
 gen:sc.isGenerator=false
 nd:N.Nodup
 pre:N.take P.length=P
 par:∀x∈P,sc.names.lookup x=some .local \/sc.names.lookup x=some .cell
 G0:∀y∈sc.names,y.2≠ .free
theorem ou{kindOf:Str->Option NameKind}{x:Str}:∀{binds:List (Str×Value)}{m:Str->Option Value},(∀v,(x,v)∉binds)->bindL kindOf binds m x=m x
 |[],_,_=>rfl
 |(n,v)::r,m,h=>by
  unfold bindL
  rw[ou λw hw=>h w (W_ _ hw)]
  split
  .have:x≠n:=by rintro rfl;exact h v Xd
   simp[this]
  .rfl
theorem ox{kindOf:Str->Option NameKind}{x:Str}:∀{binds:List (Str×Value)}{m:Str->Option Value},(∀v,(x,v)∉binds)->bindC kindOf binds m x=m x
 |[],_,_=>rfl
 |(n,v)::r,m,h=>by
  unfold bindC
  rw[ox λw hw=>h w (W_ _ hw)]
  split
  .rfl
  .have:x≠n:=by rintro rfl;exact h v Xd
   simp[this]
theorem oy{kindOf:Str->Option NameKind}{x:Str}{v:Value}:∀{P:List Str}{vs:List Value}{i:Nat}{m:Str->Option Value},P.Nodup->P[i]?=some x->vs[i]?=some v->kindOf x=some .local ->
  bindL kindOf (P.zip vs) m x=some v
 |[],_,_,_,_,h,_,_=>by simp at h
 |_::_,[],_,_,_,_,h,_=>by simp at h
 |p::P,w::vs,0,m,nd,h1,h2,hk=>by
  simp at h1 h2;subst h1;subst h2
  show bindL kindOf ((p,w)::P.zip vs) m p=_
  unfold bindL
  rw[ou λv hv=>(XR.mp nd).1 (aag hv).1,Xs hk]
  simp
 |p::P,w::vs,i+1,m,nd,h1,h2,hk=>by
  show bindL kindOf ((p,w)::P.zip vs) m x=_
  unfold bindL
  exact oy (i:=i) (XR.mp nd).2 (by simpa using h1) (by simpa using h2) hk
theorem oz{kindOf:Str->Option NameKind}{x:Str}{v:Value}:∀{P:List Str}{vs:List Value}{i:Nat}{m:Str->Option Value},P.Nodup->P[i]?=some x->vs[i]?=some v->kindOf x≠some .local ->
  bindC kindOf (P.zip vs) m x=some v
 |[],_,_,_,_,h,_,_=>by simp at h
 |_::_,[],_,_,_,_,h,_=>by simp at h
 |p::P,w::vs,0,m,nd,h1,h2,hk=>by
  simp at h1 h2;subst h1;subst h2
  show bindC kindOf ((p,w)::P.zip vs) m p=_
  unfold bindC
  rw[ox λv hv=>(XR.mp nd).1 (aag hv).1,Xx hk]
  simp
 |p::P,w::vs,i+1,m,nd,h1,h2,hk=>by
  show bindC kindOf ((p,w)::P.zip vs) m x=_
  unfold bindC
  exact oz (i:=i) (XR.mp nd).2 (by simpa using h1) (by simpa using h2) hk
noncomputable def start(N:List Str)(vs:List V):St:=vs.map some++List.replicate (N.length-vs.length) none
noncomputable def uc(CX:yZ)(P:Program)(w:World)(K:PySem.W.Frag)(mg:Str->Option Value)(base:Heap)(N:List Str)(qual:Str)(scope:Scope)(f:Addr)(cd:Value)(A:Around)(outer:List Env)(s:Shared)(H:Hp)(E:XK):Cx where
 prog:=P
 w:=w
 K:=K
 mg:=mg
 base:=base
 A:=A.deeper (envOfC qual scope s.heap.objs.size f cd)
 N:=N
 s₀:=s
 H₀:=H
 env:=envOfC qual scope s.heap.objs.size f cd
 outer:=outer
 stack:=envOfC qual scope s.heap.objs.size f cd::outer
 ex:=[]
 calm:=true
 fn:=λ_=>true
 pn:=[]
 xe:=λe s'=>wpAny (model P w) (A.deeper (envOfC qual scope s.heap.objs.size f cd)) (leaving (envOfC qual scope s.heap.objs.size f cd) e) (λ_ KZ=>CX outer H s E e KZ) (λe' KZ=>CX outer H s E e' KZ) s'
def rj{sc:Scope}{n:Nat}{x:Str}(h:sc.names.lookup x=some .cell):∃c,(cellsFrom n sc.names []).lookup x=some c:=by
 have q:=abd sc.names n [] (.inl h)
 exact Option.isSome_iff_exists.mp q
def xt{CX:yZ}{P:Program}{w:World}{K:PySem.W.Frag}{mg:Str->Option Value}{base:Heap}{N ps:List Str}{qual:Str}{scope:Scope}{f:Addr}{cd:Value}{A:Around}{outer:List Env}{s s1:Shared}{H:Hp}{E:XK}{us:List Value}{vs:List V}
  (S:gS N ps scope) (hd:A.handled=none) (e0:Cn P w K mg base A outer s H) (hl:vs.length=ps.length) (r:aA vs us)
  (x:InCallC s s.heap.objs.size (bindL (envOfC qual scope s.heap.objs.size f cd).kindOf (ps.zip us) λ_=>none) (cellsFrom (s.heap.objs.size+1) scope.names []) (bindC (envOfC qual scope s.heap.objs.size f cd).kindOf (ps.zip us) λ_=>none) s1):
  Inv (uc CX P w K mg base N qual scope f cd A outer s H E) [] (start N vs) H s1:=by
 have j5:ps.length<=N.length:=by have:=congrArg List.length S.pre;rw[YB]at this;lia
 refine eW x.done λh1 tk ah hk=>?_
 subst ah
 have K0:∀b:Addr,b∉(uc CX P w K mg base N qual scope f cd A outer s H E).ex :=λb z=>absurd (show b∈([]:List Addr) from z) (by simp)
 refine⟨⟨e0.mod,S.kind,rfl,rfl,Xf _,λy z c h1 h2=>?_,λy hy=>?_,λy c _ h=>?_,λ_=>hd,Around.frames_deeper e0.frames,.inr ⟨rfl,rfl⟩,λb z=>absurd z (K0 b),e0.bs,e0.yL,λb _ _=>K0 b,λb z=>absurd z (K0 b),e0.l4,e0.JP⟩,
  rfl,e0.bare,Un.kept hk,⟨_,x.toInCall.ns,λi y v h1 h2 h3=>?_⟩,λy c h=>⟨_,x.cell y c h⟩,e0.aN.fresh (Xf _),λy c h=>?_,λp hp=>absurd (show p∈([]:List (Addr×Obj)) from hp) (by simp),e0.aN.kept hk,?_⟩
 .exact name_of_addr x.apart (X0 h1) (X0 h2)
 .have hy:scope.names.lookup y=some .cell \/scope.names.lookup y=some .free :=hy
  rcases hy with hy|hy
  .exact rj hy
  .exact absurd rfl (S.G0 _ (X0 hy))
 .exact Yb (x.above y c (X0 h))
 .have hi:i<vs.length:=by
   unfold start at h2
   by_cases hi:i<vs.length
   .exact hi
   .rw[X4 (by simpa using hi),aaP]at h2
    split at h2<;>cases h2
  have ha:vs[i]?=some v:=by
   unfold start at h2
   rw[XZ (by simpa using hi),Xn]at h2
   cases e:vs[i]? with
   |none=>rw[e]at h2;cases h2
   |some a=>rw[e]at h2;cases h2;rfl
  refine ab (r.get ha) λu hu rv=>?_
  have hp:ps[i]?=some y:=by
   rw[<-S.pre,List.getElem?_take_of_lt (by lia)];exact h1
  have Sd:ps.Nodup:=by rw[<-S.pre];exact S.nd.sublist (Ym _ _)
  refine⟨u,rv,?_⟩
  rcases S.par y (Yq hp)with k|k
  .exact .inl ⟨k,oy Sd hp hu k⟩
  .obtain⟨c,e⟩:=rj (n:=s.heap.objs.size+1) k
   refine .inr ⟨.inl k,c,e,?_⟩
   have q:=x.cell y c e
   rw[oz Sd hp hu (by show scope.names.lookup y≠_;rw[k];decide)]at q
   exact q
 .exact e0.aN.fresh (Yb (x.above y c (X0 h)))
 .unfold start
  show _=N.length
  rw[Xk,Xb,Zj]
  lia
def K1{CX:yZ}{P:Program}{w:World}{K:PySem.W.Frag}{mg:Str->Option Value}{base:Heap}{k:Nat}{f:Addr}{name qual:Str}{params:Arguments}{body:List Stmt}{scope:Scope}{dV kV il pm eY ct oc:Value}{an od:Option Addr}
  {Co:Array (Option Value)}{N ps:List Str}{sp:Sp} (lk:K.lookup f=some ⟨oc,od,.func (PySem.W.fnOf name qual params body scope dV kV il pm an eY ct),Co⟩) (yO:PySem.W.codeIn K eY qual=true) (S:gS N ps scope)
  (len:∀vs H Q E,sp vs H Q E->vs.length=ps.length)
  (y8:∀(A:Around) (outer:List Env) (s:Shared) (H:Hp) (vs:List V) (Q:VK) (E:XK),eN k (A.deeper (envOfC qual scope s.heap.objs.size f eY))->sp vs H Q E->
   ∃t,lH (uc CX P w K mg base N qual scope f eY A outer s H E) body t/\t {nx:=λ_ H'=>Q .dj H',rt:=Q} (start N vs) H):
  jf P w K mg base CX (k+1) f (PySem.W.fnOf name qual params body scope dV kV il pm an eY ct) ps sp:=by
 refine⟨len,λA outer s H args us vs Q E hr e0 hb r Ff=>?_⟩
 have hl:=len _ _ _ _ Ff
 have KX:K.In s.heap:=e0.mod.NQ.keeps λb o e=>(e0.bs b o e).1
 have lim:s.heap.NoLimit:=e0.mod.nolimit.keeps λb o e=>(e0.bs b o e).1
 have K2:∀y∈ps.zip us,scope.names.lookup y.1=some .local \/(scope.names.lookup y.1=some .cell /\((cellsFrom (s.heap.objs.size+1) scope.names []).lookup y.1).isSome =true):=λ⟨n,v⟩ hy=>by
  rcases S.par n (aag hy).1 with q|q
  .exact .inl q
  .exact .inr ⟨q,abd _ _ _ (.inl q)⟩
 refine codeAny_call_function hr.depth (KX _ _ lk) rfl S.co S.gen rfl (PySem.W.codeRec_of KX yO) (hb _ _ _ _ ?_)
 refine wpAny_newFunctionEnv_cells S.kind K2 λenv he s1 x=>?_
 subst he
 refine⟨lim.keeps x.toInCall.keep,codeAny_func ?_⟩
 refine ab (y8 A outer s H vs Q E (hr.deeper _) Ff) λt ht hq=>?_
 have I:Inv (uc CX P w K mg base N qual scope f eY A outer s H E) [] (start N vs) H s1:=xt S hr.hd e0 hl r x
 refine YD (ht [] s1 (start N vs) H _ I hq) (λfl s' hs=>?_) λe s' hs=>hs
 have fin:∀{bT:St}{H':Hp}{v:V}{u:Value},Inv (uc CX P w K mg base N qual scope f eY A outer s H E) [] bT H' s'->RelV v u->Q v H'->CE outer P w H s Q u s':=
  λ{bT H' v u} J rv q=>⟨v,H',J.os,J.bare,J.base,J.aN,rv,q⟩
 cases fl with
 |ret u=>
  exact cL hs λv bT H' J rv q=>fin J rv q
 |next=>
  exact eW hs λbT H' J q=>fin (v:=V.dj) (u:=Value.none) J rfl q
 |brk=>
  exact eW hs λ_ _ _ q=>False.elim q
 |cont=>
  exact eW hs λ_ _ _ q=>False.elim q
section
variable {X:Cx}{x:Str}{p pos:Pos}{e:Expr}{es:List Expr}{t:TA}{id T:String}{r:List V->Hp->VK->Prop}
def O9(r:List V->Hp->VK->Prop)(t:TA):TE:=λσ H Q=>t σ H λvs H1=>r vs H1 Q
def eZ(hc:cJ X (.builtin id) r)(hg:Gl X x)(hm:X.mg x=none)(hv:bootBuiltins x=some (.builtin id))(ha:PA X (e::es) t)(hn:x≠"__name__":=by decide)(BS:(x==("__debug__":Str))=false:=by decide)
  (he:starEach (e::es) X.env=(false,eval e X.env)::starEach es X.env:=by rfl) (j5:(backTo pos (starEach es X.env)).any (·.1)=false:=by rfl):PE X (.Call (.Name x p) (e::es) [] pos) (O9 r t):=by
 intro aa s σ H Q I h
 refine ZL (j0 I hg hm hv ?_ hn BS)
 exact PyProof.Rows.callWith_builtin1 (aW (ha pos aa s σ H _ I h) λus s1 zz=>a_ zz λvs H1 I1 r1 q1=>hc aa s1 σ H1 vs us Q I1 r1 q1) he j5
def dJ(hc:cJ X (.type T) r)(hg:Gl X x)(hm:X.mg x=none)(hv:bootBuiltins x=some (.type T))(ha:PA X (e::es) t)(hn:x≠"__name__":=by decide)(BS:(x==("__debug__":Str))=false:=by decide)
  (he:starEach (e::es) X.env=(false,eval e X.env)::starEach es X.env:=by rfl) (j5:(backTo pos (starEach es X.env)).any (·.1)=false:=by rfl):PE X (.Call (.Name x p) (e::es) [] pos) (O9 r t):=by
 intro aa s σ H Q I h
 refine ZL (j0 I hg hm hv ?_ hn BS)
 exact YR (aW (ha pos aa s σ H _ I h) λus s1 zz=>a_ zz λvs H1 I1 r1 q1=>hc aa s1 σ H1 vs us Q I1 r1 q1) he j5
end
end L2
namespace HT
open PySem PyProof.Rows
noncomputable def lexLt:List Int->List Int->Bool
 |[],[]=>false
 |[],_::_=>true
 |_::_,[]=>false
 |x::xs,y::ys=>if x=y then lexLt xs ys else decide (x<y)
def ud(x y:Int)(xs ys:List Int):lexLt (x::xs) (y::ys)=if x=y then lexLt xs ys else decide (x<y):=rfl
def nT:lexLt [] []=false:=rfl
def md(y:Int)(ys:List Int):lexLt [] (y::ys)=true:=rfl
def me(x:Int)(xs:List Int):lexLt (x::xs) []=false:=rfl
def y9(A:Around)(s:Shared)(a:Int)(t:Tok)(c:Int)(u:Tok):∃e,SeqAt.EqAt A s (.int a t) (.int c u) e/\(e=true↔a=c):=
 ⟨(a==c),SeqAt.EqAt.int_int a t c u,by simp⟩
def y_(A:Around)(s:Shared)(a:Int)(t:Tok)(c:Int)(u:Tok)(prog:Program)(w:World)(E:Value->Shared->Prop)(Q:Value->Shared->Prop)(h:Q (.bool (decide (a<c))) s):
  wpAny (model prog w) A (richCompare .Lt (.int a t) (.int c u)) Q E s:=
 (aby h:wpAny (model prog w) A (compareOp .Lt (.int a t) (.int c u)) Q E s)
section
open PySem.SeqAt
open PySem.AutoSeq1 (wpAny_loadPart')
open PySem.MeetsSeq PySem.MeetsSeq2 PySem.MeetsSeq3
def nU(l b:Addr)(items items2:Array Value)(n n2:Nat)(dd Fg:Option Addr)(sl Fh:Array (Option Value))(ns ms:List Int)(hi:IntsAre items.toList ns)(hj:IntsAre items2.toList ms):
  Meets (Builtin.«tuple.__lt__» ⟨[.ref l,.ref b],[]⟩)
   (λ_ R s=>s.heap.get? l=some {cls:= .type "tuple",dict:=dd,data:= .seq items n,slots:=sl}/\s.heap.get? b=some {cls:= .type "tuple",dict:=Fg,data:= .seq items2 n2,slots:=Fh}/\
    R (.ok (.ret (.bool (lexLt ns ms)))) s):=
 .of_wp λprog w A R s h=>by
  obtain⟨hp,g,d,tk,os⟩:=s;obtain⟨hl,hb,h⟩:=h
  have f2:=AutoSeq1.sub_tuple_tuple
  have z1:items.size=ns.length:=by rw[<-hi.length];simp
  have z2:items2.size=ms.length:=by rw[<-hj.length];simp
  wp_walk using YJ hl,YJ hb,wpAny_forIn_list _ (λbG b s'=>b.1=none/\s'=⟨hp,g,d,tk,os⟩/\∃(vs ws:List Value) (et JR:List Int),bG=vs.zip ws/\
   IntsAre vs et/\IntsAre ws JR/\et.length+items2.size=JR.length+items.size/\R (.ok (.ret (.bool (lexLt et JR)))) ⟨hp,g,d,tk,os⟩) _
  case turn=>
   rintro⟨y,x⟩ bG b s' ⟨j6,rfl,vs,ws,et,JR,hz,O_,NX,aX,hR⟩
   cases O_ with
   |nil=>rw[List.zip_nil_left]at hz;cases hz
   |cons a t Pa=>
    cases NX with
    |nil=>rw[List.zip_nil_right]at hz;cases hz
    |cons c u Pb=>
     rw[aam]at hz
     injection hz with K3 K4
     injection K3 with hy hx
     subst hy hx
     rw[ud]at hR
     simp only[Xt]at aX
     obtain⟨e,he,K5⟩:=y9 A.in1 ⟨hp,g,d,tk,os⟩ a t c u
     refine W6 (he prog w _ _ ?_)
     cases e with
     |true=>
      rw[Xs (K5.mp rfl)]at hR
      wp_walk
      exact⟨rfl,rfl,_,_,_,_,K4,Pa,Pb,by lia,hR⟩
     |false=>
      rw[Xx (λq=>absurd (K5.mpr q) Xa)]at hR
      have Up:=y_ A.in1 ⟨hp,g,d,tk,os⟩ a t c u prog w
      wp_walk using Up
      exact⟨_,rfl,by simpa using hR⟩
  case fin=>
   rintro⟨b1,b2⟩ s' ⟨j6,rfl,vs,ws,et,JR,hz,O_,NX,aX,hR⟩
   simp only at j6
   subst j6
   have hv:lexLt et JR=decide (items.size<items2.size):=by
    cases O_ with
    |nil=>
     cases NX with
     |nil=>
      simp only[YS]at aX
      rw[nT]
      exact(decide_eq_false (by lia)).symm
     |cons c u hw=>
      simp only[YS,Xt]at aX
      rw[md]
      exact(decide_eq_true (by lia)).symm
    |cons a t hv=>
     cases NX with
     |nil=>
      simp only[YS,Xt]at aX
      rw[me]
      exact(decide_eq_false (by lia)).symm
     |cons c u hw=>
      rw[aam]at hz
      cases hz
   rw[hv]at hR
   wp_walk
   exact⟨_,rfl,by simpa[Builtin.Tuple.tupleCompareSizes]using hR⟩
  case h=>
   exact⟨rfl,rfl,items.toList,items2.toList,ns,ms,rfl,hi,hj,by lia,h⟩
end
section
variable {prog:Program}{w:World}{A:Around}{E:Value->Shared->Prop}{s:Shared}
def ue(hl:IsTup s.heap l items)(hb:IsTup s.heap b items2)(hi:IntsAre items.toList ns)(hj:IntsAre items2.toList ms)
  (hu:A.units<cLine) (h:Q (.bool (lexLt ns ms)) s):wpAny (model prog w) A (compareOp .Lt (.ref l) (.ref b)) Q E s:=by
 refine ao λnO=>?_
 obtain⟨⟨cls,dd,data,sl⟩,ho,hc,n,hd⟩:=id hl
 obtain⟨⟨Pc,Fg,data2,Fh⟩,BU,Fi,n2,nV⟩:=id hb
 refine nO ?_
 simp only at hc hd Fi nV
 subst hc hd Fi nV
 exact richCompare_meets_room (op:= .Lt) ⟨_,ho,rfl⟩ ⟨_,BU,rfl⟩ PySem.F.slot_tuple_lt PySem.F.entry_tuple_lt (PySem.F.args_tuple_lt_2 _ _) (nU l b items items2 n n2 dd Fg sl Fh ns ms hi hj)
  ⟨ho,BU,show Value.bool (lexLt ns ms)≠Value.notImplemented/\Q (.bool (lexLt ns ms)) s from⟨(λx=>nomatch x),h⟩⟩ hu
def Cp(ht:IsTup s.heap t vs.toArray)(hb:IsTup s.heap b ws.toArray)(hv:vs≠[])
  (h1:ws=[]->Q (.ref t) s) (h2:ws≠[]->Q (.ref s.heap.objs.size) {s with heap:=s.heap.push {cls:= .type "tuple",data:= .seq (vs++ws).toArray}})
  (hsz:vs.length+ws.length<=sizeLine):wpAny (model prog w) A (binaryOp .Add (.ref t) (.ref b)) Q E s:=by
 refine ao λnO=>?_
 obtain⟨⟨cls,dd,data,sl⟩,ho,hc,n,hd⟩:=id ht
 obtain⟨⟨Pc,Fg,data2,Fh⟩,BU,Fi,n2,nV⟩:=id hb
 refine nO ?_
 simp only at hc hd Fi nV
 subst hc hd Fi nV
 have e:vs.toArray++ws.toArray=(vs++ws).toArray :=by simp
 by_cases hw:ws=[]
 .exact concat_meets ⟨_,ho,rfl⟩ ⟨_,BU,rfl⟩ noFill_tuple_add seq_tuple_add ZV ZM (ZK _ _)
   (tuple_addW1 t b vs.toArray ws.toArray n n2 dd Fg sl Fh (by simpa using hv) (by simp[hw])) ⟨ho,BU,h1 hw⟩
 .refine concat_meets ⟨_,ho,rfl⟩ ⟨_,BU,rfl⟩ noFill_tuple_add seq_tuple_add ZV ZM (ZK _ _)
   (tuple_addW2 t b vs.toArray ws.toArray n n2 dd Fg sl Fh (by simpa using hv) (by simpa using hw) (by rw[Xh,Xh];exact hsz)) ⟨ho,BU,?_⟩
  rw[e]
  exact h2 hw
noncomputable def cD(n d:Nat):Option Int->Nat
 |none=>d
 |some v=>if v<0 then(v+(n:Int)).toNat else min v.toNat n
def G6(n d:Nat)(hd:d<=n)(o:Option Int):cD n d o<=n:=by
 cases o with
 |none=>exact hd
 |some v=>
  show(if v<0 then(v+(n:Int)).toNat else min v.toNat n)<=n
  by_cases hv:v<0
  .rw[Xs hv];lia
  .rw[Xx hv];exact aaU _ _
def pN(v:Int)(n d:Nat):(if v<0 then max (v+(n:Int)) 0 else min v (n:Int))=((cD n d (some v):Nat):Int):=by
 show(if v<0 then max (v+(n:Int)) 0 else min v (n:Int))=(((if v<0 then(v+(n:Int)).toNat else min v.toNat n):Nat):Int)
 by_cases hv:v<0
 .simp only[Xs hv];lia
 .simp only[Xx hv];lia
def uf(lo hi:Option Int)(n:Nat):Builtin.Slice.sliceAdjust lo hi 1 (n:Int)=(((cD n 0 lo:Nat):Int),((cD n n hi:Nat):Int)):=by
 have h1:¬((1:Int)<0):=by lia
 unfold Builtin.Slice.sliceAdjust
 simp only[h1,if_false]
 refine Prod.ext ?_ ?_
 .cases lo with
  |none=>rfl
  |some v=>exact pN v n 0
 .cases hi with
  |none=>rfl
  |some v=>exact pN v n n
def ug(i j:Nat):Builtin.Slice.slicePlaces (i:Int) (j:Int) 1=j-i:=by
 unfold Builtin.Slice.slicePlaces
 have h1:(1:Int)>0:=by lia
 simp only[h1,if_true,Int.ediv_one]
 split<;>lia
def mf(p:IsPart v o)(h:Q o s):wpAny (model prog w) A (Builtin.Slice.slicePartIndex v) Q E s:=by
 cases p with
 |none=>exact slicePart_none h
 |int i t=>exact slicePart_int h
def e_{sl:Addr}{vl vu:Value}{lo hi:Option Int}{n:Nat}{Q:Int×Int×Nat->Shared->Prop}(hs:s.heap.IsSliceOf sl vl vu .none)(pl:IsPart vl lo)(pu:IsPart vu hi)
  (h:Q (((cD n 0 lo:Nat):Int),1,cD n n hi-cD n 0 lo) s):wpAny (model prog w) A (Builtin.Slice.sliceApplied (.ref sl) (pure (n:Int))) Q E s:=by
 refine bF (id hs) λos xu vj BV=>?_
 unfold Builtin.Slice.sliceApplied Builtin.Slice.sliceFields
 refine W6 (W6 (Y' xu BV (x:=vl) rfl (W6 (Y' xu BV (x:=vu) rfl (W6 (Y' xu BV (x:= .none) rfl (Xe ?_)))))))
 refine W6 (slicePart_none ?_)
 show wpAny _ _ (if((1:Int)==0)=true then _ else _) _ _ s
 rw[Xx (by decide)]
 refine W6 (mf pl (W6 (mf pu (W6 (Xe ?_)))))
 show wpAny _ _ (match Builtin.Slice.sliceAdjust lo hi 1 (n:Int)with|(lo,hi)=>pure (lo,(1:Int),Builtin.Slice.slicePlaces lo hi 1)) _ _ s
 rw[uf lo hi n]
 show wpAny _ _ (pure (((cD n 0 lo:Nat):Int),(1:Int),Builtin.Slice.slicePlaces ((cD n 0 lo:Nat):Int) ((cD n n hi:Nat):Int) 1)) _ _ s
 rw[ug]
 exact Xe h
def za(xs:Array Value)(i k:Nat):((List.range k).filterMap λ(m:Nat)=>xs[((i:Int)+(m:Int)*1).toNat]?).toArray =((xs.toList.drop i).take k).toArray :=by
 have e:(λ(m:Nat)=>xs[((i:Int)+(m:Int)*1).toNat]?)=λm=>xs[i+m]?:=by
  funext m
  have:((i:Int)+(m:Int)*1).toNat =i+m:=by lia
  rw[this]
 rw[e]
 have:=pick_run xs i k
 rw[List.filterMap_map]at this
 have e2:((λx=>xs[x]?) ∘ λx=>i+x)=λm=>xs[i+m]?:=rfl
 rw[e2]at this
 rw[this]
def jg{t sl:Addr}{items:Array Value}{vl vu:Value}{lo hi:Option Int}{Q:Value->Shared->Prop}(ht:IsTup s.heap t items)(hs:s.heap.IsSliceOf sl vl vu .none)(pl:IsPart vl lo)(pu:IsPart vu hi)
  (hw:¬(cD items.size 0 lo=0/\cD items.size items.size hi=items.size))
  (h:Q (.ref s.heap.objs.size) {s with heap:=s.heap.push {cls:= .type "tuple",data:= .seq ((items.toList.drop (cD items.size 0 lo)).take (cD items.size items.size hi-cD items.size 0 lo)).toArray}})
  (hsz:items.size<=sizeLine):wpAny (model prog w) A (getItem (.ref t) (.ref sl)) Q E s:=by
 have vk:sizeOk (.seq ((items.toList.drop (cD items.size 0 lo)).take (cD items.size items.size hi-cD items.size 0 lo)).toArray):=by
  show((items.toList.drop (cD items.size 0 lo)).take (cD items.size items.size hi-cD items.size 0 lo)).toArray.size <=sizeLine
  rw[Xh,YB,ZC,XE]
  lia
 have hj:cD items.size items.size hi<=items.size:=G6 _ _ (Xf _) hi
 refine bF (id hs) λos xu vj BV=>?_
 have zb:s.TypeIs (.ref sl) "slice":=⟨os,xu,vj⟩
 unfold getItem
 try with_reducible refine X6 ?_
 first|refine W6 (Xe ?_)|skip
 refine W6 (aaA ht.typeIs (by decide) ?_)
 refine W6 (Yn (name:=Str.ofString "__getitem__") ht.typeIs XN
  (Yk XN ht.typeIs entry_tuple_getitem ?_ (args_tuple_getitem _ _)))
 show wpAny _ _ (Builtin.Tuple.tupleItemsOf (.ref t) >>= _) _ _ s
 refine W6 (tupleItemsOf_ ht ?_)
 refine W6 (aan zb ?_)
 rw[Xs (by decide)]
 refine W6 (e_ hs pl pu ?_)
 have yC:¬((((cD items.size 0 lo:Nat):Int)==0&&(1:Int)==1&&(cD items.size items.size hi-cD items.size 0 lo)==items.size)=true):=by
  intro q
  rw[W7,W7]at q
  have q1:((cD items.size 0 lo:Nat):Int)=0:=eq_of_beq q.1.1
  have q2:cD items.size items.size hi-cD items.size 0 lo=items.size:=eq_of_beq q.2
  exact hw ⟨by lia,by lia⟩
 show wpAny _ _ (if(((cD items.size 0 lo:Nat):Int)==0&&(1:Int)==1&&(cD items.size items.size hi-cD items.size 0 lo)==items.size)=true then _ else _) _ _ s
 rw[Xx yC,za]
 first
  |exact W6 (m:=Builtin.Tuple.tupleExact _) (XJ (Xe ⟨_,rfl,Xe h⟩) vk)
  |exact W6 (m:=Builtin.Tuple.tupleExact _) (XJ (W6 (Xe (Xe ⟨_,rfl,Xe h⟩))) vk)
  |exact W6 (W6 (m:=Builtin.Tuple.tupleExact _) (XJ (Xe (Xe ⟨_,rfl,Xe h⟩)) vk))
  |exact W6 (W6 (m:=Builtin.Tuple.tupleExact _) (XJ (Xe ⟨_,rfl,Xe h⟩) vk))
end
end HT
namespace L2
open PySem PySem.Spec PyProof.Rows
abbrev TO:=St->Hp->(Option Int->Hp->Prop)->Prop
def PO(X:Cx)(e:Option Expr)(t:TO):Prop:=
 ∀(aa:List (Addr×Obj)) (s:Shared) (σ:St) (H:Hp) (Q:Option Int->Hp->Prop),Inv X aa σ H s->t σ H Q->
  wpAny (model X.prog X.w) X.A (evalPart e X.env) (λu s'=>∃o H',Inv X aa σ H' s'/\IsPart u o/\Q o H') X.xe s
def Cq:TO:=λ_ H Q=>Q none H
def K6(t:TE):TO:=λσ H Q=>t σ H λx H1=>∃i,x= .int i/\Q (some i) H1
def intsAre_of:∀{us:List Value},aA (ns.map V.int) us->IntsAre us ns:=by
 induction ns with
 |nil=>intro us r;rw[aao]at r;cases r;exact .nil
 |cons n ns ih=>
  intro us r
  rw[Xy]at r
  cases r with
  |cons r1 r2=>
   obtain⟨t,e⟩:=r1
   subst e
   exact .cons n t (ih r2)
section
variable {X:Cx}{e:Expr}{te:TE}{lo hi:Option Expr}{tl th:TO}{pos p2:Pos}
def Cr:PO X none Cq:=by
 intro aa s σ H Q I h
 rw[evalPart_none]
 exact Xe ⟨none,H,I,.none,h⟩
def Cu(h:PE X e te):PO X (some e) (K6 te):=by
 intro aa s σ H Q I hw
 rw[evalPart_some]
 refine aW (h aa s σ H _ I hw) λu s1 zz=>a_ zz λx H1 I1 r1 q1=>ab q1 λi ah q=>?_
 try clear q1
 subst ah
 obtain⟨t,rfl⟩:=r1
 exact⟨some i,H1,I1,.int i t,q⟩
def BW(X:Cx)(r:V->Option Int->Option Int->Hp->VK->Prop):Prop:=
 ∀(aa:List (Addr×Obj)) (s:Shared) (σ:St) (H:Hp) (x:V) (v vl vu:Value) (lo hi:Option Int) (sl:Addr) (Q:VK),Inv X aa σ H s->RelV x v->s.heap.IsSliceOf sl vl vu .none ->IsPart vl lo->IsPart vu hi->r x lo hi H Q->
  ∃T id,typeLookup (.type T) "__getitem__"=pure (some (.builtin id))/\s.TypeIs v T/\wpAny (model X.prog X.w) X.A (getItem v (.ref sl)) (EP X aa σ Q) X.xe s
def BW.or(h:BW X r)(h':BW X r'):BW X (λx lo hi H Q=>r x lo hi H Q\/r' x lo hi H Q):=by
 intro aa s σ H x v vl vu lo hi sl Q I rx hs pl pu q
 rcases q with q|q
 .exact h aa s σ H x v vl vu lo hi sl Q I rx hs pl pu q
 .exact h' aa s σ H x v vl vu lo hi sl Q I rx hs pl pu q
def Uq(r:V->Option Int->Option Int->Hp->VK->Prop)(te:TE)(tl th:TO):TE:=λσ H Q=>te σ H λx H1=>tl σ H1 λl H2=>th σ H2 λu H3=>r x l u H3 Q
def rk(hr:BW X r)(he:PE X e te)(hl:PO X lo tl)(hu:PO X hi th):PE X (.Subscript e (.Slice lo hi none p2) pos) (Uq r te tl th):=by
 intro aa s σ H Q I h
 refine Subscript_ (aW (he aa s σ H _ I h) λv s1 zz=>?_)
 refine a_ zz λx H1 I1 r1 q1=>wpAny_Slice (aW (hl aa s1 σ H1 _ I1 q1) λvl s2 zz=>a_ zz λl H2 I2 pl q2=>aW (hu aa s2 σ H2 _ I2 q2) λvu s3 zz=>?_)
 refine a_ zz λu H3 I3 pu q3=>?_
 rw[evalPart_none]
 refine Xe ?_
 have I4:Inv X aa σ H3 {s3 with heap:=s3.heap.push {cls:= .type "slice",data:= .fields #[vl,vu,.none]}}:=I3.kept (t':=s3.toks) λb ob q=>W8 _ q
 refine a_ (hr aa {s3 with heap:=s3.heap.push {cls:= .type "slice",data:= .fields #[vl,vu,.none]}} σ H3 x v vl vu l u s3.heap.objs.size Q I4 r1 (Heap.IsSliceOf.new ..) pl pu q3) λT id hT ht hg=>?_
 show wpAny (model X.prog X.w) X.A (subscriptTail e (.Slice lo hi none p2) v (.ref s3.heap.objs.size)) (EP X aa σ Q) X.xe {s3 with heap:=s3.heap.push {cls:= .type "slice",data:= .fields #[vl,vu,.none]}}
 exact tail_any (ops:=[.ref s3.heap.objs.size,v]) ht hT hg (by with_unfolding_all rfl)
noncomputable def rl(xs:List V)(lo hi:Option Int):List V:=(xs.drop (HT.cD xs.length 0 lo)).take (HT.cD xs.length xs.length hi-HT.cD xs.length 0 lo)
def kQ(xs:List V)(lo hi:Option Int):(rl xs lo hi).length <=xs.length:=by
 unfold rl
 rw[YB,ZC]
 lia
def K7(K:PySem.W.Frag):V->Option Int->Option Int->Hp->VK->Prop:=λx lo hi H Q=>∃a xs,x= .ref a/\cT K H a xs/\
 ¬(HT.cD xs.length 0 lo=0/\HT.cD xs.length xs.length hi=xs.length)/\∀p,H p=none->Q (.ref p) (upd H p (.tup (rl xs lo hi)))
def G7:BW X (K7 X.K):=by
 intro aa s σ H x v vl vu lo hi sl Q I rx hs pl pu h
 refine gq h λa xs ah hx hw q=>?_
 try clear h
 subst ah
 cases rx
 refine bF (I.tuple hx) λits r ht hz=>?_
 have aX:its.toArray.size=xs.length:=by rw[Xh];exact r.length.symm
 refine⟨"tuple",_,XN.lookup,ht.typeIs,?_⟩
 refine HT.jg ht hs pl pu (by rw[aX];exact hw) ?_ (by rw[aX];exact hz)
 rw[aX]
 refine⟨.ref s.heap.objs.size,_,I.laid (t':=s.toks) (o:= .tup (rl xs lo hi)) (λb ob q=>W8 _ q) (Xf _) ?_,rfl,q _ (I.aN.fresh (Xf _))⟩
 exact⟨Xq (kQ xs lo hi) hz,_,(r.drop (HT.cD xs.length 0 lo)).take (HT.cD xs.length xs.length hi-HT.cD xs.length 0 lo),ij.new _ _⟩
def Fj(K:PySem.W.Frag):R2:=λx y H Q=>∃a b xs ys,x= .ref a/\y= .ref b/\cT K H a xs/\cT K H b ys/\xs≠[]/\xs.length+ys.length<=sizeLine/\
 (ys=[]->Q (.ref a) H)/\(ys≠[]->∀p,H p=none->Q (.ref p) (upd H p (.tup (xs++ys))))
def aA.pO(r:aA xs us):us=[]↔xs=[]:=by
 cases r with
 |nil=>simp
 |cons _ _=>simp
def Cv:ik X (binaryOp .Add) (Fj X.K):=by
 intro aa s σ H x y v u Q I rx ry h
 refine R1 h λa b xs ys ah aK ha hb hx hz q1 q2=>?_
 try clear h
 subst ah
 subst aK
 cases rx
 cases ry
 refine bF (I.tuple ha) λits r1 p1 _=>bF (I.tuple hb) λiN r2 p2 _=>HT.Cp p1 p2 (λz=>hx (r1.pO.mp z)) (λz=>⟨.ref a,H,I,rfl,q1 (r2.pO.mp z)⟩) (λz=>?_) (by rw[<-r1.length,<-r2.length];exact hz)
 refine⟨.ref s.heap.objs.size,_,I.laid (t':=s.toks) (o:= .tup (xs++ys)) (λb ob q=>W8 _ q) (Xf _) ?_,rfl,q2 (λw=>z (r2.pO.mpr w)) _ (I.aN.fresh (Xf _))⟩
 exact⟨by rw[Xk];exact hz,_,r1.append r2,ij.new _ _⟩
end
noncomputable def JS(n:Nat)(i:Int):Option Nat:=if 0<=i then(if i<n then some i.toNat else none) else if -(n:Int)<=i then some (i+n).toNat else none
noncomputable def Fl{α:Type}(xs:List α)(i:Int):Option α:=(JS xs.length i).bind λj=>xs[j]?
def vm(h:JS n i=some j):seqIndex? i n=some j/\j<n/\ -(n:Int)<=i/\i<n:=by
 unfold JS at h
 by_cases h0:0<=i
 .rw[Xs h0]at h
  by_cases h1:i<n
  .rw[Xs h1]at h
   have e:i.toNat=j:=Xw h
   exact⟨by rw[seqIndex_of h0 h1,e],by lia,by lia,h1⟩
  .rw[Xx h1]at h;cases h
 .rw[Xx h0]at h
  by_cases h1: -(n:Int)<=i
  .rw[Xs h1]at h
   have e:(i+n).toNat =j:=Xw h
   exact⟨by rw[seqIndex_neg (by lia) h1,e],by lia,h1,by lia⟩
  .rw[Xx h1]at h;cases h
def vn(h:Fl xs i=some v):∃j,seqIndex? i xs.length=some j/\xs[j]?=some v/\j<xs.length/\ -(xs.length:Int)<=i/\i<xs.length:=by
 unfold Fl at h
 cases e:JS xs.length i with
 |none=>rw[e]at h;cases h
 |some j=>
  rw[e]at h
  exact yA (vm e) λh1 h2 h3 h4=>⟨j,h1,h,h2,h3,h4⟩
def pP(b:Expr):Prop:=∀o i,subscripted b false o i=operate [o,i] (getItem o i)
def G8(X:Cx)(r:R2):Prop:=
 ∀(value slice:Expr) (aa:List (Addr×Obj)) (s:Shared) (σ:St) (H:Hp) (x y:V) (v u:Value) (Q:VK),Inv X aa σ H s->RelV x v->RelV y u->r x y H Q->
  subscripted slice false v u=operate [v,u] (getItem v u)->wpAny (model X.prog X.w) X.A (subscriptTail value slice v u) (EP X aa σ Q) X.xe s
def NY(X:Cx)(id:String)(r:V->List V->Hp->VK->Prop):Prop:=
 ∀(aa:List (Addr×Obj)) (s:Shared) (σ:St) (H:Hp) (x:V) (xs:List V) (v:Value) (us:List Value) (Q:VK),Inv X aa σ H s->RelV x v->aA xs us->r x xs H Q->
  wpAny (model X.prog X.w) X.A (call (.builtin id) (v::us)) (EP X aa σ Q) X.xe s
section
variable {X:Cx}{a b:Expr}{ta tb:TE}{pos:Pos}
def G8.or(h:G8 X r)(h':G8 X r'):G8 X (λx y H Q=>r x y H Q\/r' x y H Q):=by
 intro value slice aa s σ H x y v u Q I rx ry q hs
 rcases q with q|q
 .exact h value slice aa s σ H x y v u Q I rx ry q hs
 .exact h' value slice aa s σ H x y v u Q I rx ry q hs
def Fm(hr:G8 X r)(ha:PE X a ta)(hb:PE X b tb)(hs:pP b):PE X (.Subscript a b pos) (E9 r ta tb):=by
 intro aa s σ H Q I h
 exact Subscript_ (GN ha hb I h λv u s2 x y H2 I2 rx ry q=>hr a b aa s2 σ H2 x y v u Q I2 rx ry q (hs _ _))
def Cw(K:PySem.W.Frag):R2:=λx y H Q=>∃p xs i v,x= .ref p/\y= .int i/\dI K H p xs/\Fl xs i=some v/\Q v H
def Pd(K:PySem.W.Frag):R2:=λx y H Q=>∃p xs i v,x= .ref p/\y= .int i/\cT K H p xs/\Fl xs i=some v/\Q v H
def vp:G8 X (Cw X.K):=by
 intro value slice aa s σ H x y v u Q I rx ry h hs
 refine ao λnO=>qU h λp xs i z ah aK hq he q=>?_
 try clear h
 subst ah
 subst aK
 cases rx
 obtain⟨t,rfl⟩:=ry
 refine bF (I.list hq) λits r pl hz=>JN (vn he) λj h1 h2 h3 h4 h5=>ab (r.get h2) λw ew zc=>nO ?_
 have hl:=r.length
 have hn:=l_
 have fin:EP X aa σ Q w s:=⟨z,H,I,zc,q⟩
 by_cases h0:0<=i
 .have hj:i.toNat=j:=by
   rw[seqIndex_of h0 h5]at h1
   exact Xw h1
  exact item_listR pl.isList h0 (by lia) (by rw[hj];simpa using ew) fin hs
 .have hj:(i+(its.toArray.size:Int)).toNat =j:=by
   rw[seqIndex_neg (by lia) h4]at h1
   rw[Xh,<-hl]
   exact Xw h1
  exact subscriptTail_builtinR (x:=w) pl.isList.typeIs slot_list_getitem.lookup
   (wpAny_getItem_list_neg (Q:=λr s'=>r=w/\EP X aa σ Q r s') pl.isList (by lia) (by rw[Xh]<;>lia) (by lia) (by rw[hj];simpa using ew) ⟨rfl,fin⟩) hs
def G9:G8 X (Pd X.K):=by
 intro value slice aa s σ H x y v u Q I rx ry h hs
 refine ao λnO=>qU h λp xs i z ah aK hq he q=>?_
 try clear h
 subst ah
 subst aK
 cases rx
 obtain⟨t,rfl⟩:=ry
 refine bF (I.tuple hq) λits r pl hz=>JN (vn he) λj h1 h2 h3 h4 h5=>ab (r.get h2) λw ew zc=>nO ?_
 have hl:=r.length
 have hn:=l_
 have fin:EP X aa σ Q w s:=⟨z,H,I,zc,q⟩
 exact subscriptTail_builtinR (x:=w) pl.typeIs slot_tuple_getitem.lookup
  (getItem_tuple (j:=j) (Q:=λr s'=>r=w/\EP X aa σ Q r s') pl (by lia) (by lia) (by rw[Xh,<-hl];exact h1) (by simpa using ew) ⟨rfl,fin⟩) hs
def uh(its:List Value)(n j:Nat)(u:Value):Obj.mapSeq (·.setIfInBounds j u) {cls:= .type "list",data:= .seq its.toArray n}={cls:= .type "list",data:= .seq (its.set j u).toArray n}:=by
 simp[Obj.mapSeq]
theorem Inv.lst{aa:List (Addr×Obj)}{σ:St}{H:Hp}{s:Shared}{p:Addr}{xs:List V}(I:Inv X aa σ H s)(h:H p=some (.lst xs)):
  ∃(its:List Value) (n:Nat),aA xs its/\s.heap.get? p=some {cls:= .type "list",data:= .seq its.toArray n}/\xs.length<=sizeLine:=by
 refine ao λnO=>?_
 obtain⟨z,its,n,r,e⟩:=I.aN p _ h
 exact nO<|⟨its,n,r,e,z⟩
def Inv.G_{aa:List (Addr×Obj)}{σ:St}{H:Hp}{s:Shared}{p:Addr}{xs ys:List V}{its its':List Value}{n n':Nat}{f:Obj->Obj}(I:Inv X aa σ H s)(h:H p=some (.lst xs))
  (ho:s.heap.get? p=some {cls:= .type "list",data:= .seq its.toArray n}) (hf:f {cls:= .type "list",data:= .seq its.toArray n}={cls:= .type "list",data:= .seq its'.toArray n'}) (r:aA ys its') (hz:ys.length<=sizeLine) (t:Nat):
  Inv X aa σ (upd H p (.lst ys)) {s with heap:=s.heap.update p f,toks:=t}:=by
 have e:(s.heap.update p f).get? p=some {cls:= .type "list",data:= .seq its'.toArray n'}:=by
  rw[YY f ho (by rw[hf]<;>rfl),hf]
 exact I.write (x:=p) (e:=p) (by rw[h];trivial) (.inl rfl) (λb u hb q=>(XF _ _ (Ya hb)).trans q) ⟨_,e⟩<|⟨hz,its',n',r,e⟩
def K8:V->V->V->Hp->(Hp->Prop)->Prop:=λo i v H Q=>∃p xs k j,o= .ref p/\i= .int k/\H p=some (.lst xs)/\JS xs.length k=some j/\Q (upd H p (.lst (xs.set j v)))
def zf:KO X K8:=by
 intro aa s σ H o i v ov iv u Q I ro ri rv h
 refine ao λnO=>qU h λp xs k j ah aK hp hj q=>?_
 try clear h
 subst ah
 subst aK
 cases ro
 obtain⟨t,rfl⟩:=ri
 refine a_ (I.lst hp) λits n r ho hz=>yA (vm hj) λh1 h2 h3 h4=>nO ?_
 have hl:=r.length
 have hn:=l_
 have I':Inv X aa σ (upd H p (.lst (xs.set j v))) {s with heap:=s.heap.update p (Obj.mapSeq (·.setIfInBounds j u))}:=
  I.G_ hp ho (uh its n j u) (r.set rv j) (by rw[X1];exact hz) s.toks
 by_cases h0:0<=k
 .have hk:k.toNat=j:=by
   rw[seqIndex_of h0 h4]at h1
   exact Xw h1
  exact PySem.W.ki_setAt ho h0 (by lia) (by rw[Xh,<-hl];exact h4) (by rw[hk];exact⟨_,I',q⟩)
 .have hk:(k+(its.toArray.size:Int)).toNat =j:=by
   rw[seqIndex_neg (by lia) h3]at h1
   rw[Xh,<-hl]
   exact Xw h1
  exact PySem.W.ki_setBack ho (by lia) (by rw[Xh,<-hl];exact h3) (by lia) (by rw[hk];exact⟨_,I',q⟩)
def pQ(lo hi:Option Int)(n:Nat):(sliceBounds lo hi none n).1 =((HT.cD n 0 lo:Nat):Int)/\(sliceBounds lo hi none n).2.1 =((HT.cD n n hi:Nat):Int)/\(sliceBounds lo hi none n).2.2 =1:=by
 refine⟨?_,?_,rfl⟩
 .cases lo with
  |none=>simp[sliceBounds,HT.cD]
  |some i=>
   simp only[sliceBounds,HT.cD,Option.getD_none,show(1:Int)>0 by decide,if_true]
   by_cases h:i<0
   .simp only[h,if_true]<;>lia
   .simp only[h,if_false]<;>lia
 .cases hi with
  |none=>simp[sliceBounds,HT.cD]
  |some i=>
   simp only[sliceBounds,HT.cD,Option.getD_none,show(1:Int)>0 by decide,if_true]
   by_cases h:i<0
   .simp only[h,if_true]<;>lia
   .simp only[h,if_false]<;>lia
def nW(its:List Value)(lo hi:Option Int):slicePick its.toArray lo hi none=((its.drop (HT.cD its.length 0 lo)).take (HT.cD its.length its.length hi-HT.cD its.length 0 lo)).toArray :=by
 refine cS (pQ lo hi its.toArray.size) λh1 h2 h3=>?_
 unfold slicePick
 rw[h1,h2,h3]
 simp only[sliceRange_one,pick_run,Xh]<;>rfl
def Pf(K:PySem.W.Frag):V->Option Int->Option Int->Hp->VK->Prop:=λx lo hi H Q=>∃a xs,x= .ref a/\dI K H a xs/\∀p,H p=none->Q (.ref p) (upd H p (.lst (rl xs lo hi)))
def vq:BW X (Pf X.K):=by
 intro aa s σ H x v vl vu lo hi sl Q I rx hs pl pu h
 refine a_ h λa xs ah hx q=>?_
 try clear h
 subst ah
 cases rx
 refine bF (I.list hx) λits r ht hz=>?_
 have aX:=r.length
 refine⟨"list",_,slot_list_getitem.lookup,ht.isList.typeIs,?_⟩
 refine wpAny_getItem_list_slice ht.isList hs pl pu .none (by simp) ?_ (by rw[Xh]<;>lia)
 rw[nW,<-aX]
 refine⟨.ref s.heap.objs.size,_,I.laid (t':=s.toks) (o:= .lst (rl xs lo hi)) (λb ob q=>W8 _ q) (Xf _) ?_,rfl,q _ (I.aN.fresh (Xf _))⟩
 exact⟨Xq (kQ xs lo hi) hz,_,0,(r.drop (HT.cD xs.length 0 lo)).take (HT.cD xs.length xs.length hi-HT.cD xs.length 0 lo),Xp _ rfl⟩
def pR:cJ X (.builtin "len") (λxs H Q=>∃p ys,xs=[.ref p]/\(dI X.K H p ys\/cT X.K H p ys)/\Q (.int ys.length) H):=by
 intro aa s σ H xs us Q I r h
 refine a_ h λp ys ah hq q=>?_
 try clear h
 subst ah
 refine ab (vals1 r) λu aK rx=>?_
 subst aK
 cases rx
 have hn:=l_
 rcases hq with hq|hq
 .refine bF (I.list hq) λits r' pl hz=>?_
  have aX:=r'.length
  exact Calls.call_len_list pl.isList (by simp only[Xh]<;>lia) ⟨.int ys.length,H,I.tok _,⟨s.toks+1,by rw[Xh,aX]⟩,q⟩
 .refine bF (I.tuple hq) λits r' pl hz=>?_
  have aX:=r'.length
  exact len_tuple pl (by simp only[Xh]<;>lia) ⟨.int ys.length,H,I.tok _,⟨s.toks+1,by rw[Xh,aX]⟩,q⟩
def cJ.or(h:cJ X f r)(h':cJ X f r'):cJ X f (λxs H Q=>r xs H Q\/r' xs H Q):=by
 intro aa s σ H xs us Q I rs q
 rcases q with q|q
 .exact h aa s σ H xs us Q I rs q
 .exact h' aa s σ H xs us Q I rs q
def jh:cJ X (.type "list") (λxs H Q=>∃p ys,xs=[.ref p]/\(dI X.K H p ys\/cT X.K H p ys)/\∀l,H l=none->Q (.ref l) (upd H l (.lst ys))):=by
 intro aa s σ H xs us Q I r h
 refine ao λnO=>a_ h λp ys ah hq q=>?_
 try clear h
 subst ah
 refine ab (vals1 r) λu aK rx=>?_
 subst aK
 cases rx
 refine nO ?_
 have fin:∀(its:List Value),aA ys its->ys.length<=sizeLine->∀(h':Heap) (c':Nat),(∀b o',s.heap.get? b=some o'->h'.get? b=some o')->
   h'.get? s.heap.objs.size=some {cls:= .type "list",dict:=none,data:= .seq its.toArray c',slots:=#[]}->EP X aa σ Q (.ref s.heap.objs.size) {s with heap:=h'}:=λits r' hz h' c' kp e=>
  ⟨.ref s.heap.objs.size,_,I.laid (t':=s.toks) kp (Xf _) (show aQ X.prog X.w _ h' _ (.lst ys) from⟨hz,its,c',r',e⟩),rfl,q _ (I.aN.fresh (Xf _))⟩
 rcases hq with hq|hq
 .refine ao λnO=>bF (I.list hq) λits r' pl hz=>?_
  have aX:=r'.length
  obtain⟨o,ho,hc,n,hd⟩:=pl.isList
  exact nO<|call_list_seq p (.inl rfl) ho hc hd (λh' c' kp e=>fin its r' hz h' c' kp e) (by simp only[Xh]<;>lia)
 .refine ao λnO=>bF (I.tuple hq) λits r' pl hz=>?_
  have aX:=r'.length
  obtain⟨o,ho,hc,n,hd⟩:=pl
  exact nO<|call_list_seq p (.inr rfl) ho hc hd (λh' c' kp e=>fin its r' hz h' c' kp e) (by simp only[Xh]<;>lia)
def nX:cJ X (.type "tuple") (λxs H Q=>∃p ys,xs=[.ref p]/\((dI X.K H p ys/\∀l,H l=none->Q (.ref l) (upd H l (.tup ys)))\/(cT X.K H p ys/\Q (.ref p) H))):=by
 intro aa s σ H xs us Q I r h
 refine ao λnO=>?_
 obtain⟨p,ys,rfl,h⟩:=h
 obtain⟨u,rfl,rx⟩:=vals1 r
 cases rx
 refine nO ?_
 rcases h with⟨hq,q⟩|⟨hq,q⟩
 .refine ao λnO=>?_
  obtain⟨its,r',pl,hz⟩:=I.list hq
  refine nO ?_
  have aX:=r'.length
  refine call_tuple_list pl.isList (λh' kp=>?_) (by simp only[Xh]<;>lia)
  have I1:Inv X aa σ H {s with heap:=h'}:=I.kept (t':=s.toks) kp
  have I2:Inv X aa σ (upd H h'.objs.size (.tup ys)) {s with heap:=h'.push {cls:= .type "tuple",data:= .seq its.toArray}}:=
   I1.laid (t':=s.toks) (λb o e=>W8 _ e) (Xf _) (show aQ X.prog X.w _ _ _ (.tup ys) from⟨hz,its,r',ij.new _ _⟩)
  exact⟨.ref h'.objs.size,_,I2,rfl,q _ (I1.aN.fresh (Xf _))⟩
 .refine ao λnO=>?_
  obtain⟨its,r',pl,hz⟩:=I.tuple hq
  exact nO<|call_tuple_same pl ⟨.ref p,H,I,rfl,q⟩
def Pj(K:PySem.W.Frag)(T:String)(x:V)(H:Hp):Prop:=match x with
 | .str _=>T="str"
 | .int _=>T="int"
 | .ref p=>(T="list"/\∃xs,dI K H p xs)\/(T="tuple"/\∃o,K.lookup p=some o/\o.cls= .type "tuple"/\o.dict=none)\/
   (T="dict"/\((∃aw,H p=some (.dK aw))\/∃aw,H p=some (.dT aw)))\/(T="set"/\∃S n,H p=some (.set S n))
 |_=>False
def zg(I:Inv X aa σ H s)(r:RelV x v)(ty:Pj X.K T x H):
  s.TypeIs v T/\∀a,v= .ref a->∃ob,s.heap.get? a=some ob/\ob.dict=none:=by
 cases x with
 |str z=>
  obtain⟨t,rfl⟩:=r
  cases (show T="str" from ty)
  exact⟨typeIs_str s z t,λ_ e=>nomatch e⟩
 |int i=>
  obtain⟨t,rfl⟩:=r
  cases (show T="int" from ty)
  exact⟨typeIs_int s i t,λ_ e=>nomatch e⟩
 |ref p=>
  cases r
  rcases ty with⟨rfl,xs,hq⟩|⟨rfl,o,hk,hc,hd⟩|⟨rfl,hk⟩|⟨rfl,S,n,hk⟩
  .refine bF (I.list hq) λits _ pl _=>⟨pl.isList.typeIs,λa e=>?_⟩
   cases e
   exact gq pl λo n e c hd _=>⟨o,e,hd⟩
  .refine⟨⟨o,I.E5 p o hk,hc⟩,λa e=>?_⟩
   cases e
   exact⟨o,I.E5 _ o hk,hd⟩
  .have z:∃o,s.heap.get? p=some o/\o.ExactDict:=by
    rcases hk with⟨aw,hk⟩|⟨aw,hk⟩
    .obtain⟨_,_,_,_,o,_,_,e,ex,_⟩:=I.aN p _ hk
     exact⟨o,e,ex⟩
    .obtain⟨_,_,_,_,o,_,_,e,ex,_⟩:=I.aN p _ hk
     exact⟨o,e,ex⟩
   refine ab z λo e ex=>⟨⟨o,e,ex.1⟩,λa e2=>?_⟩
   cases e2
   exact⟨o,e,ex.2.1⟩
  .refine Gf (I.aN p _ hk) λo _ _ _ e ex _=>⟨⟨o,e,ex.1⟩,λa e2=>?_⟩
   cases e2
   exact⟨o,e,ex.2.1⟩
 |_=>exact False.elim ty
def Pk(K:PySem.W.Frag)(T:String)(r:V->List V->Hp->VK->Prop)(to:TE):TE:=λσ H Q=>to σ H λx H1=>Pj K T x H1/\r x [] H1 Q
def NZ(K:PySem.W.Frag)(T:String)(r:V->List V->Hp->VK->Prop)(to:TE)(t:TA):TE:=λσ H Q=>to σ H λx H1=>Pj K T x H1/\t σ H1 λxs H2=>r x xs H2 Q
variable {o e:Expr}{es:List Expr}{to:TE}{t:TA}{name:Str}{nR gc:Pos}{T id:String}{r:V->List V->Hp->VK->Prop}
def Ha(pa:PlainAttrs T)(slot:Slot T name id)(K9:typeOf (.builtin id)=pure (.type "method_descriptor"))(hm:NY X id r)(ho:PE X o to)
  (ji:attributeBase o name X.env (eval o X.env)=eval o X.env:=by rfl) (jj:(nR.endLine==gc.line)=true:=by rfl):PE X (.Call (.Attribute o name nR) [] [] gc) (Pk X.K T r to):=by
 intro aa s σ H Q I h
 refine wpAny_Call_method0_late ji jj (aW (ho aa s σ H _ I h) λv s1 zz=>?_)
 refine gq zz λx H1 I1 r1 ty q1=>?_
 obtain⟨h1,h2⟩:=zg I1 r1 ty
 exact⟨T,id,pa,slot,K9,h1,h2,Zg rfl (abz (hm aa s1 σ H1 x [] v [] Q I1 r1 .nil q1))⟩
def zh(pa:PlainAttrs T)(slot:Slot T name id)(K9:typeOf (.builtin id)=pure (.type "method_descriptor"))(hm:NY X id r)(ho:PE X o to)(ha:PA X (e::es) t)
  (ji:attributeBase o name X.env (eval o X.env)=eval o X.env:=by rfl)
  (Hb:((backTo gc (starEach (e::es) X.env)).all (λx=>!x.1)&&(backToKw gc (keywordEach [] X.env)).all (λx=>x.1.isSome)
   && decide ((e::es).length+([]:List Keyword).length+(if([]:List Keyword).isEmpty then 0 else 1)<30))=true:=by rfl)
  (jj:(nR.endLine==gc.line)=true:=by rfl) (hs:starEach (e::es) X.env=(false,eval e X.env)::starEach es X.env:=by rfl) (ui:(backTo gc (starEach es X.env)).any (·.1)=false:=by rfl):
  PE X (.Call (.Attribute o name nR) (e::es) [] gc) (NZ X.K T r to t):=by
 intro aa s σ H Q I h
 refine wpAny_Call_method_late ji Hb jj rfl (aW (ho aa s σ H _ I h) λv s1 zz=>?_)
 refine gq zz λx H1 I1 r1 ty q1=>?_
 obtain⟨h1,h2⟩:=zg I1 r1 ty
 refine⟨T,id,pa,slot,K9,h1,h2,?_⟩
 have hA:=ha gc aa s1 σ H1 _ I1 q1
 rw[hs]at hA⊢
 refine Zg (by show(false||(backTo gc (starEach es X.env)).any (·.1))=false;rw[ui]<;>rfl) (Calls.evalArgs_plain ?_)
 exact aW hA λus s2 zz=>a_ zz λvs H2 I2 r2 q2=>hm aa s2 σ H2 x vs v us Q I2 r1 r2 q2
end
def Pl(X:Cx)(id:String)(r:V->List V->Hp->VK->Prop):Prop:=
 ∀(aa:List (Addr×Obj)) (s:Shared) (σ:St) (H:Hp) (x:V) (xs:List V) (v:Value) (us:List Value) (Q:VK),Inv X aa σ H s->RelV x v->aA xs us->r x xs H Q->
  wpAny (model X.prog X.w) X.A (call (.builtin id) (v::us)) (EP X aa σ Q) X.xe s
def aA.one(h:aA [x] us):∃u,us=[u]/\RelV x u:=by
 cases h with
 |cons r t=>cases t;exact⟨_,rfl,r⟩
def aA.zero:∀{us:List Value},aA [] us->us=[]
 |_,.nil =>rfl
theorem aA.dropLast(h:aA xs us):aA xs.dropLast us.dropLast:=by
 induction h with
 |nil=>exact .nil
 |cons r t ih=>
  cases t with
  |nil=>exact .nil
  |cons q t'=>exact .cons r ih
def uj(l:List α):l.eraseIdx (l.length-1)=l.dropLast:=by
 induction l with
 |nil=>rfl
 |cons a r ih=>
  cases r with
  |nil=>rfl
  |cons b r=>
   have e:(a::b::r).length-1=((b::r).length-1)+1:=by
    have h1:(a::b::r).length =r.length+2:=rfl
    have h2:(b::r).length =r.length+1:=rfl
    lia
   rw[e,List.eraseIdx_cons_succ,ih]
   all_goals rfl
section
variable {X:Cx}{aa:List (Addr×Obj)}{σ:St}{H:Hp}{s:Shared}{l b:Addr}{xs ys zs:List V}
def Inv.Hc{its its':List Value}{n:Nat}{f:Array Value->Array Value}{t':Nat}(I:Inv X aa σ H s)(hH:H l=some (.lst xs))
  (e:s.heap.get? l=some {cls:= .type "list",data:= .seq its.toArray n}) (hf:f its.toArray=its'.toArray) (hv:aA ys its') (hz:ys.length<=sizeLine):
  Inv X aa σ (upd H l (.lst ys)) {s with heap:=s.heap.update l (Obj.mapSeq f),toks:=t'}:=by
 have q:=PySem.IsL.update e f
 rw[hf]at q
 exact I.write (x:=l) (e:=l) (by rw[hH];exact trivial) (.inl rfl) (λb' u hb hu=>(XF s.heap (Obj.mapSeq f) (Ya hb)).trans hu) ⟨_,q⟩<|⟨hz,its',_,hv,q⟩
def Inv.K_(I:Inv X aa σ H s)(hv:aA ys its)(hz:ys.length<=sizeLine):
  Inv X aa σ (upd H s.heap.objs.size (.lst ys)) {s with heap:=s.heap.push {cls:= .type "list",data:= .seq its.toArray},toks:=t'}:=
 I.laid (λ_ _ q=>W8 _ q) (Xf _) ⟨hz,its,0,hv,Xp _ rfl⟩
theorem Inv.fresh(I:Inv X aa σ H s):H s.heap.objs.size=none:=I.aN.fresh (Xf _)
def Inv.Hd(I:Inv X aa σ H s)(hH:H l=some (.lst xs)):xs.length<=sizeLine/\∃(its:List Value) (n:Nat),aA xs its/\xs.length=its.length/\s.heap.get? l=some {cls:= .type "list",data:= .seq its.toArray n}:=by
 refine ao λnO=>?_
 obtain⟨z,its,n,r,e⟩:=I.aN l _ hH
 exact nO<|⟨z,its,n,r,r.length,e⟩
def zi(h:n<=sizeLine):Builtin.List.listTooLong n=false:=by
 unfold Builtin.List.listTooLong
 exact decide_eq_false (by lia)
end
section
variable {X:Cx}
def Cy:V->List V->Hp->VK->Prop:=λx vs H Q=>∃l xs y,x= .ref l/\vs=[y]/\H l=some (.lst xs)/\xs.length<sizeLine/\Q .dj (upd H l (.lst (xs++[y])))
def oA:Pl X "list.append" Cy:=by
 intro aa s σ H x vs v us Q I rx rv h
 refine ao λnO=>tW h λl xs y ah aK hH hz q=>?_
 try clear h
 subst ah
 subst aK
 cases rx
 refine ab rv.one λu cQ ru=>?_
 subst cQ
 obtain⟨z,its,n,r,hl,e⟩:=I.Hd hH
 refine nO ?_
 refine call_meets F.slot_list_append ⟨_,e,rfl⟩ F.entry_list_append (F.args_list_append_2 _ _) (PySem.list_append l its.toArray n u (by rw[Xh];lia)) ⟨e,?_⟩
 refine⟨.dj,_,I.Hc (its':=its++[u]) hH e (by simp) (r.append (.cons ru .nil)) ?_,rfl,q⟩
 rw[Xk,XG]
 lia
def Pn:V->List V->Hp->VK->Prop:=λx vs H Q=>∃l xs y,x= .ref l/\vs=[]/\H l=some (.lst xs)/\xs[xs.length-1]?=some y/\Q y (upd H l (.lst xs.dropLast))
def He:Pl X "list.pop" Pn:=by
 intro aa s σ H x vs v us Q I rx rv h
 refine ao λnO=>tW h λl xs y ah aK hH hy q=>?_
 try clear h
 subst ah
 subst aK
 cases rx
 have Ur:=rv.zero
 subst Ur
 obtain⟨z,its,n,r,hl,e⟩:=I.Hd hH
 refine ab (r.get hy) λu hu ru=>nO ?_
 have BX:its.toArray[its.toArray.size-1]?=some u:=by
  show its.toArray[its.length-1]?=some u
  rw[<-X8,<-hl]
  exact hu
 refine call_meets F.slot_list_pop ⟨_,e,rfl⟩ F.entry_list_pop (F.args_list_pop_1 _) (MeetsSeq.list_pop_last l its.toArray n u BX (by rw[Xh];lia)) ⟨e,?_⟩
 refine⟨y,_,I.Hc (its':=its.dropLast) hH e ?_ r.dropLast ?_,ru,q⟩
 .show its.toArray.eraseIdxIfInBounds (its.toArray.size-1)=its.dropLast.toArray
  rw[Xh,List.eraseIdxIfInBounds_toArray,uj]
 .rw[List.length_dropLast]
  lia
end
section
variable {prog:Program}{w:World}{A:Around}{E:Value->Shared->Prop}{s:Shared}{X:Cx}
end
end L2
namespace Se
open PySem PySem.W PySem.Calls PyProof.Rows
def lr:∀(ns:List Int) (vs:List Value),WellAll P h vs (ns.map WData.int)->IntsAre vs ns:=by
 intro ns
 induction ns with
 |nil=>
  intro vs w
  rw[aao]at w
  cases w
  exact .nil
 |cons n ns ih=>
  intro vs w
  rw[Xy]at w
  cases w with
  |cons a b=>
   cases a
   exact .cons _ _ (ih _ b)
def xv{l:OpenLaw}{n:Nat}(hn:l.most=some n){P:Params}{h:Heap}{args:List WData}{vals:List Value}
  (Cz:l.row.toRowW.claim.pre args=true) (Po:WellAll P h vals args):
  ∃a vs ns,vals=[Value.ref a]/\args=[WData.list (ns.map WData.int)]/\h.get? a=some {cls:= .type "list",data:= .seq vs.toArray}/\IntsAre vs ns/\ns.length<=n:=by
 have Us:WShape.hasAll [] args [.list .int]=true:=(pre_splitW Cz).1
 have hc:l.pre.holds [] {args:=args}=true:=(pre_splitW Cz).2
 refine a_ (hasAllW_cons Us) λd r ah h1 h2=>?_
 subst ah
 obtain rfl:=hasAllW_nil h2
 refine ab (hasW_list h1) λxs aK h3=>?_
 subst aK
 obtain⟨ns,rfl⟩:=items_int h3
 have aX:ns.length<=n:=by
  unfold OpenLaw.pre at hc
  have h4:(WTm.not (.lt (.lit (.int (n:Int))) (.len (.arg 0)))).holds [] {args:=[.list (ns.map .int)]}=true:=by
   have h4:=(holds_andW hc).1
   rw[hn]at h4
   exact h4
  have h5:=condW_of h4 (w_not (w_lt w_lit (w_len_list (w_arg rfl))))
  rw[Xb]at h5
  refine aaV λq=>?_
  have q':(n:Int)<((ns.length:Nat):Int):=by lia
  first
   |(rw[decide_eq_true q']at h5;exact absurd h5 (by decide))
   |(simp at h5;lia)
 cases Po with
 |cons w1 w2=>
  cases w2
  cases w1 with
  |list ho rm=>exact⟨_,_,ns,rfl,rfl,ho,lr ns _ rm,aX⟩
def xw(l:OpenLaw)(args:List WData):l.row.toRowW.claim.post args (.bool true) args=true:=
 postW_of (r:=l.row.toRowW) (X:=(true==true))
  (show WShape.has [] (.bool true) .bool =true by first|rfl|decide|simp[WShape.has,WShape.arms,WShape.armsAll])
  (show(WTm.eq .res (.lit (.bool true))).value [] {args:=args,res:=some (.bool true),after:=args}=some (.bool (true==true)) from w_eq_bool (w_res rfl) w_lit) rfl
def rn{l:OpenLaw}{n:Nat}{q:Program}{loose:List Str}{XP:(Str->Option Value)->Heap->Prop}{YP:World->Heap->Prop}{d:DefRec}
  (hn:l.most=some n) (K':d.params.defaults=[])
  (call:∀(w:World) (s₀ aS:Shared) (mg mb:Str->Option Value) (fa:Addr) (o:Obj) (pm cd il:Value) (a:Addr) (vs:List Value) (ns:List Int),
   Ground q loose [] XP w s₀ mg mb aS.heap->YP w aS.heap->
   aS.heap.get? fa=some o->o.data= .func (docDef d.name d.params d.body d.scope pm cd il)->aS.heap.CodeRec cd d.name->mg d.name=some (.ref fa)->
   aS.heap.get? a=some {cls:= .type "list",data:= .seq vs.toArray}->IntsAre vs ns->ns.length<=n->aS.gens=#[]->
   codeAny (model l.prog w) callerA (.call (.ref fa) ⟨[.ref a],[]⟩) (λr s'=>r= .ok (.ret (.bool true))/\OldK aS.heap s'.heap/\s'.os=aS.os/\AllBare s'.gens) aS):
  WalkO q loose XP YP l.row.toRowW d [] (λf vs=>PySem.call f vs):=by
 intro w s₀ aS mg mb G Y fa o pm cd il dV kV ho hd yO hD La hg args vals as Cz Ut WH Po Fn
 obtain rfl:dV= .none :=Dflts.none hD K'
 obtain rfl:kV= .none :=Dflts.noKw hD
 refine tW (xv hn Cz Po) λa vs ns ah aK Hf hints aX=>?_
 subst ah
 subst aK
 refine enter_call (abl (call w s₀ aS mg mb fa o pm cd il a vs ns G Y ho (fd_plain hd) yO La Hf hints aX hg) λr s' hq=>?_)
 refine yA hq λcQ h2 h3 h4=>?_
 try clear hq
 subst cQ
 exact⟨.inl ⟨.bool true,.bool true,[],rfl,λ_=>rfl,.bool true,xw l _,λ_=>⟨List.Pairwise.nil,λ_ hm=>(nomatch hm)⟩⟩,h2,h3,h4⟩
section
variable {prog:Program}{w:World}{A:Around}{E:Value->Shared->Prop}{s:Shared}{K:Frag}
end
end Se
namespace L2
open PySem PySem.Spec PyProof.Rows
def xy:∀{vs:List Value}{ns:List Int},IntsAre vs ns->aA (ns.map V.int) vs:=λ{vs ns} h=>by
 induction h with
 |nil=>exact .nil
 |cons n t h ih=>exact .cons ⟨t,rfl⟩ ih
def Hg(H:Hp):Prop:=∀b,H b=none\/∃o xs,H b=some (.dH o (.lst xs))
def zj{P:Program}{w:World}{K:PySem.W.Frag}{mg mb:Str->Option Value}{CX:yZ}{k:Nat}{fa a:Addr}{fd:FuncData}{x:Str}{sp:Sp}{aS:Shared}{vs:List Value}{ns:List Int}
  (KX:K.In aS.heap) (Sf:aS.heap.Ns mainGlobals mg) (hb:aS.heap.Ns builtinsNs mb) (Uu:∀x:Str,x≠"__name__"->mb x=bootBuiltins x) (Pp:aS.heap.NoLimit) (hg:aS.gens=#[])
  (ha:aS.heap.get? a=some {cls:= .type "list",data:= .seq vs.toArray}) (hi:IntsAre vs ns) (hl:ns.length<=sizeLine) (hr:eN k callerA)
  (F:∀base:Heap,K.In base->base.Ns mainGlobals mg->jf P w K mg base CX k fa fd [x] sp) (Lb:∀(s:Shared) (u:Value),BindsTo s fd ⟨[u],[]⟩ [(x,u)])
  (Ff:∀H:Hp,Hg H->dI K H a (ns.map V.int)->sp [.ref a] H (λv _=>v= .bl true) λ_ _ _=>False)
  (Pu:∀H e s',CX [] H aS (λ_ _ _=>False) e s'->False):
  codeAny (model P w) callerA (.call (.ref fa) ⟨[.ref a],[]⟩) (λr s'=>r= .ok (.ret (.bool true))/\OldK aS.heap s'.heap/\s'.os=aS.os/\AllBare s'.gens) aS:=by
 have rv:=xy hi
 have Pw:=hi.length
 have aH:∀H:Hp,Hg H->dI K H a (ns.map V.int)->iL P w H aS.heap->(∀b,H b≠none->b=a)->(H a≠none->K.lookup a=none)->
   codeAny (model P w) callerA (.call (.ref fa) ⟨[.ref a],[]⟩) (λr s'=>r= .ok (.ret (.bool true))/\OldK aS.heap s'.heap/\s'.os=aS.os/\AllBare s'.gens) aS:=by
  intro H hO hS aN hA hK
  have lJ:∀{b:Addr}{o:Obj},aS.heap.get? b=some o->H b=none->(pH aS.heap H).get? b=some o:=λe n=>yJ e n
  have K0:∀{b:Addr}{o:Obj}{es:Array DictEntry}{ep:Nat},aS.heap.get? b=some o->o.data= .dict es ep->H b=none:=λ{b o es ep} e d=>by
   cases q:H b with
   |none=>rfl
   |some u=>
    have e':b=a:=hA b (by rw[q];simp)
    subst e'
    rw[ha]at e;cases e
    have d':Data.seq vs.toArray _=Data.dict es ep:=d
    cases d'
  have N0:∀{b:Addr}{m:Str->Option Value},aS.heap.Ns b m->(pH aS.heap H).Ns b m:=λ{b m} zz=>cL zz λo es ep e d r=>⟨o,es,ep,lJ e (K0 e d),d,r⟩
  have Sg:K.In (pH aS.heap H):=λb o e=>lJ (KX b o e) (by
   cases q:H b with
   |none=>rfl
   |some u=>
    have e':b=a:=hA b (by rw[q];simp)
    subst e'
    rw[hK (by rw[q];simp)]at e;cases e)
  have hM:Mod K mg (pH aS.heap H):=⟨Sg,N0 Sf,⟨mb,N0 hb,Uu⟩,let ⟨mc,h1,h2⟩:=Pp;⟨mc,N0 h1,h2⟩⟩
  have e0:Cn P w K mg (pH aS.heap H) callerA [] aS H:=⟨rfl,hM,λb o e=>B9 e,Zk (xg _ _),trivial,λb hb=>absurd (show b∈([]:List Addr) from hb) (by simp),aN,.of_eq hg⟩
  refine abl ((F _ Sg (N0 Sf)).run callerA [] aS H ⟨[.ref a],[]⟩ [.ref a] [.ref a] _ _ hr e0 (Lb aS (.ref a)) (.cons rfl .nil) (Ff H hO hS)) λr s' h=>?_
  cases r with
  |error e=>exact(Pu H e s' h).elim
  |ok fl=>
   cases fl with
   |next=>exact False.elim h
   |brk=>exact False.elim h
   |cont=>exact False.elim h
   |ret u=>
    refine OD h λv H' os bare un Px r' q=>?_
    have q':v= .bl true:=q
    subst q'
    obtain rfl:u=Value.bool true:=r'
    refine⟨rfl,OldK.of_keep λb o e=>?_,os,bare⟩
    cases q:H b with
    |none=>exact un.keep b o e q (by intro z;exact absurd (show b∈([]:List Addr) from z) (by simp)) (by simp)
    |some u=>
     rcases hO b with z|⟨ob,xs,z⟩
     .rw[q]at z;cases z
     .have z2:=un.iM b ob _ z
      obtain⟨e1,_⟩:=aN b _ z
      obtain⟨e2,_⟩:=Px b _ z2
      rw[e]at e1;cases e1
      exact e2
 cases hk:K.lookup a with
 |some o=>
  have e:=KX a o hk
  rw[ha]at e
  cases e
  refine aH (λ_=>none) (λ_=> .inl rfl) (.inr ⟨_,vs.toArray,_,hk,rfl,rfl,rfl,by rw[Xh,Pw];exact hl,by simpa using rv⟩) (λb u z=>by have z':(none:Option HO)=some u:=z;cases z') (λb z=>absurd rfl z) λz=>absurd rfl z
 |none=>
  refine aH (λb=>if b=a then some (.dH {cls:= .type "list",data:= .seq vs.toArray} (.lst (ns.map V.int))) else none) (λb=>?_) (.inl (.inr ⟨{cls:= .type "list",data:= .seq vs.toArray},Xs rfl⟩)) (λb u z=>?_) (λb z=>?_) λ_=>hk
  .by_cases hb:b=a
   .exact .inr ⟨_,_,Xs hb⟩
   .exact .inl (Xx hb)
  .by_cases hb:b=a
   .have z':=(Xs hb).symm.trans z
    cases z'
    subst hb
    exact⟨ha,by rw[Xb];exact hl,vs,_,rv,ha⟩
   .have z':=(Xx hb).symm.trans z
    cases z'
  .by_cases hb:b=a
   .exact hb
   .exact absurd (Xx hb) z
def CA{l:PySem.W.OpenLaw}{n k:Nat}{q:Program}{loose:List Str}{XP:(Str->Option Value)->Heap->Prop}{YP:World->Heap->Prop}{d:DefRec}{K:Params->PySem.W.Frag}{CX:World->yZ}{sp:World->Sp}{x:Str}
  (hn:l.most=some n) (Lc:n<=sizeLine) (K':d.params.defaults=[]) (hr:eN k callerA)
  (hY:∀(w:World) (h:Heap),YP w h->(K w.params).In h)
  (F:∀(w:World) (mg:Str->Option Value) (fa:Addr) (h:Heap),(K w.params).In h->h.Ns mainGlobals mg->mg d.name=some (.ref fa)->
   ∃fd:FuncData,(∀(s:Shared) (u:Value),BindsTo s fd ⟨[u],[]⟩ [(x,u)])/\
    ∀base:Heap,(K w.params).In base->base.Ns mainGlobals mg->jf l.prog w (K w.params) mg base (CX w) k fa fd [x] (sp w))
  (Ff:∀(w:World) (H:Hp) (a:Addr) (ns:List Int),ns.length<=n->Hg H->dI (K w.params) H a (ns.map V.int)->sp w [.ref a] H (λv _=>v= .bl true) λ_ _ _=>False)
  (Pu:∀(w:World) (H:Hp) (s:Shared) (e:Value) (s':Shared),CX w [] H s (λ_ _ _=>False) e s'->False):
  PySem.W.WalkO q loose XP YP l.row.toRowW d [] (λf vs=>PySem.call f vs):=by
 refine Se.rn hn K' λw s₀ aS mg mb fa o pm cd il a vs ns G Y ho hd yO La Hf hints aX hg=>?_
 have KX:=hY w _ Y
 exact ab (F w mg fa _ KX G.T.g La) λfd hb hF=>zj KX G.T.g G.T.b G.T.builtins G.T.nolimit hg Hf hints (Xq aX Lc) hr hF hb (λH hO hS=>Ff w H a ns aX hO hS) λH e s'=>Pu w H aS e s'
noncomputable def dB(s:Stmt):Arguments:=match s with
 | .FunctionDef _ a _ _ _ _ _ _ _ _=>a
 |_=>{posonlyargs:=[],args:=[],vararg:=none,kwonlyargs:=[],kw_defaults:=[],kwarg:=none,defaults:=[]}
noncomputable def bU(s:Stmt):List Stmt:=match s with
 | .FunctionDef _ _ b _ _ _ _ _ _ _=>b
 |_=>[]
noncomputable def ay(s:Stmt):Scope:=match s with
 | .FunctionDef _ _ _ _ _ _ sc _ _ _=>sc
 |_=>{kind:= .function,names:=[],isGenerator:=false,isCoroutine:=false}
abbrev xA:yZ:=λ_ _ _ _ _ _=>False
abbrev E0:XK:=λ_ _ _=>False
def zk:ua xA X E0:=λ_ _ _ _ _ _ _ h=>h.elim
structure Fo(K:PySem.W.Frag)(x qual:Str)(st:Stmt)(f:Addr)(fd:FuncData):Prop where
 ex:∃(oc:Value) (od:Option Addr) (kV il pm:Value) (an:Option Addr) (eY ct:Value) (Co:Array (Option Value)),
  fd=PySem.W.fnOf x qual (dB st) (bU st) (ay st) .none kV il pm an eY ct/\K.lookup f=some ⟨oc,od,.func fd,Co⟩/\PySem.W.codeIn K eY qual=true
 kp:PySem.W.keepIn K (.ref f)=true
section
variable {P:Program}{w:World}{K:PySem.W.Frag}{mg:Str->Option Value}{base:Heap}{X:Cx}
def Fo.ok{x qual:Str}{st:Stmt}{f:Addr}{fd:FuncData}{N ps:List Str}{k:Nat}{sp:Sp}(F:Fo K x qual st f fd)(S:gS N ps (ay st))(len:∀vs H Q E,sp vs H Q E->vs.length=ps.length)
  (y8:∀(eY:Value) (A:Around) (outer:List Env) (s:Shared) (H:Hp) (vs:List V) (Q:VK) (E:XK),eN k (A.deeper (envOfC qual (ay st) s.heap.objs.size f eY))->sp vs H Q E->
   ∃t,lH (uc xA P w K mg base N qual (ay st) f eY A outer s H E).KL (bU st) t/\t {nx:=λ_ H'=>Q .dj H',rt:=Q} (start N vs) H):jf P w K mg base xA (k+1) f fd ps sp:=by
 refine R6 F.ex λoc od kV il pm an eY ct Co ah lk yO=>?_
 subst ah
 exact K1 lk yO S len λA outer s H vs Q E hr Ff=>ab (y8 eY A outer s H vs Q E hr Ff) λt h q=>⟨t,h.KL,q⟩
def Fo.binds{x qual:Str}{st:Stmt}{f:Addr}{fd:FuncData}{ps:List Str}(F:Fo K x qual st f fd)
  (h:∀(kV il pm:Value) (an:Option Addr) (eY ct:Value) (us:List Value),us.length=ps.length->bindArgs (PySem.W.fnOf x qual (dB st) (bU st) (ay st) .none kV il pm an eY ct) ⟨us,[]⟩=pure (ps.zip us)):Binds K fd ps []:=by
 refine R6 F.ex λoc od kV il pm an eY ct Co ah lk yO=>?_
 subst ah
 exact .all (h kV il pm an eY ct)
def Hh{x qual:Str}{st:Stmt}{f:Addr}{oc:Value}{od an:Option Addr}{Co:Array (Option Value)}{kV il pm eY ct:Value}(l:K.lookup f=some ⟨oc,od,.func (PySem.W.fnOf x qual (dB st) (bU st) (ay st) .none kV il pm an eY ct),Co⟩)
  (c:PySem.W.codeIn K eY qual=true) (k:PySem.W.keepIn K (.ref f)=true):Fo K x qual st f (PySem.W.fnOf x qual (dB st) (bU st) (ay st) .none kV il pm an eY ct):=⟨⟨oc,od,kV,il,pm,an,eY,ct,Co,rfl,l,c⟩,k⟩
end
def lu{A B:Prop}(h:B):if false=true then A else B:=by
 rw[Xx Xa]
 exact h
def j7{A B:Prop}(h:A):if true=true then A else B:=by
 rw[Xs rfl]
 exact h
def af(H H':Hp):Prop:=∀b o,H b=some o->H' b=some o
def af.refl(H:Hp):af H H:=λ_ _ h=>h
def af.trans(a:af H H1)(b:af H1 H2):af H H2:=λc o h=>b c o (a c o h)
def af.seq{K:PySem.W.Frag}{H H':Hp}{a:Addr}{xs:List V}(e:af H H')(h:dI K H a xs):dI K H' a xs:=by
 rcases h with (h|⟨o,h⟩)|h
 .exact .inl (.inl (e _ _ h))
 .exact .inl (.inr ⟨o,e _ _ h⟩)
 .exact .inr h
end L2
namespace L2
open PySem
theorem iO(env:Env):∀(l:List (Str×NameKind)) (cs:List (Str×Addr)),(∀y∈l,y.2= .free ->∃c,env.cells.lookup y.1=some c)->
  ∃cl,(forIn l cs λ(x:Str×NameKind) (r:List (Str×Addr))=>if(x.2==NameKind.free)=true then(do let a<-cellOf env x.1;pure (ForInStep.yield ((x.1,a)::r))) else pure (ForInStep.yield r):Sem (List (Str×Addr)))=pure cl/\
   (∀x c,cl.lookup x=some c->cs.lookup x=some c\/(env.cells.lookup x=some c/\(x,NameKind.free)∈l))/\
   (∀x,(x,NameKind.free)∈l\/(∃c,cs.lookup x=some c)->∃c,cl.lookup x=some c)
 |[],cs,_=>⟨cs,rfl,λx c h=> .inl h,λx h=>h.elim (λz=>nomatch z) id⟩
 |(n,k)::l,cs,h=>by
  have hl:∀y∈l,y.2= .free ->∃c,env.cells.lookup y.1=some c:=λy hy=>h y (W_ _ hy)
  by_cases hk:k= .free
  .subst hk
   obtain⟨c,hc⟩:=h (n,.free) Xd rfl
   refine bF (iO env l ((n,c)::cs) hl) λcl e h1 h2=>⟨cl,?_,λx d hx=>?_,λx hx=>?_⟩
   .rw[Y2]
    simp only[beq_self_eq_true,if_true,cellOf,hc]
    exact e
   .rcases h1 x d hx with z|⟨z,m⟩
    .rw[ZD]at z
     by_cases JT:(x==n)=true
     .rw[JT]at z
      have:x=n:=eq_of_beq JT
      subst this
      cases z
      exact .inr ⟨hc,Xd⟩
     .have e0:(x==n)=false:=by simpa using JT
      rw[e0]at z
      exact .inl z
    .exact .inr ⟨z,W_ _ m⟩
   .refine h2 x ?_
    rcases hx with hx|⟨d,hd⟩
    .rcases Xl.mp hx with e1|hx
     .cases e1
      exact .inr ⟨c,by rw[ZD,beq_self_eq_true]⟩
     .exact .inl hx
    .by_cases JT:(x==n)=true
     .exact .inr ⟨c,by rw[ZD,JT]⟩
     .have e0:(x==n)=false:=by simpa using JT
      exact .inr ⟨d,by rw[ZD,e0];exact hd⟩
  .refine bF (iO env l cs hl) λcl e h1 h2=>?_
   have hb:(k==NameKind.free)=false:=by simpa using hk
   refine⟨cl,?_,λx d hx=>?_,λx hx=>h2 x ?_⟩
   .rw[Y2]
    simp only[hb,Yr,if_false]
    exact e
   .rcases h1 x d hx with z|⟨z,m⟩
    .exact .inl z
    .exact .inr ⟨z,W_ _ m⟩
   .rcases hx with hx|hx
    .rcases Xl.mp hx with e1|hx
     .cases e1;exact absurd rfl hk
     .exact .inl hx
    .exact .inr hx
def uk(h:∀y∈sc.names,y.2= .free ->∃c,env.cells.lookup y.1=some c):
  ∃cl,closureFor sc env=pure cl/\(∀x c,cl.lookup x=some c->env.cells.lookup x=some c/\(x,NameKind.free)∈sc.names)/\(∀x,(x,NameKind.free)∈sc.names->∃c,cl.lookup x=some c):=by
 refine bF (iO env sc.names [] h) λcl e h1 h2=>⟨cl,?_,λx c hx=>(h1 x c hx).resolve_left (λz=>by simp at z),λx hx=>h2 x (.inl hx)⟩
 have e':closureFor sc env=(forIn sc.names ([]:List (Str×Addr)) λ(x:Str×NameKind) (r:List (Str×Addr))=>if(x.2==NameKind.free)=true then(do let a<-cellOf env x.1;pure (ForInStep.yield ((x.1,a)::r))) else pure (ForInStep.yield r):Sem (List (Str×Addr))) >>= λr=>pure r:=by
  rfl
 rw[e',e]
 rfl
section
variable {prog:Program}{w:World}{A:Around}{E:Value->Shared->Prop}{R:Result->Shared->Prop}{s:Shared}
def um(I:Nat->Shared->Prop)
  (turn:∀n s,I n s->wpAny (model prog w) A (pyNext it) (λr aS=>match r with
   |none=>R (.ok .next) aS
   |some v=>wpAny (model prog w) A (letOwnedTupleGo target it v) (λ_ Fp=>wpAny (model prog w) A (assign target env v) (λ_ l6=>
     wpAny (model prog w) A (forIn ifs true λc r=>if r=true then do let ok<-isTrue c env (eval c env);pure (ForInStep.yield ok) else pure (ForInStep.yield r)) (λok xB=>
      if ok=true then wpAny (model prog w) A (eval dQ env) (λx Ld=>
       wpAny (model prog w) A (call (.builtin "list.append") [acc,x]) (λ_ Le=>∃m,m<n/\I m Le) (λ_ _=>False) Ld) (λ_ _=>False) xB
      else∃m,m<n/\I m xB) (λ_ _=>False) l6) (λ_ _=>False) Fp) (λ_ _=>False) aS) (λ_ _=>False) s)
  (n:Nat) (h:I n s):
  codeAny (model prog w) A (.compLoop (.ListComp dQ [⟨target,iter,ifs,0⟩] scope pos) 0 it acc env) R s:=by
 refine codeAny_loop rfl I (λn s hI=>?_) n h
 show wpAny _ A ((compTurn (.ListComp dQ [⟨target,iter,ifs,0⟩] scope pos) 0 it acc env).onRaise (λx=>do noteFrame x env;theTreesLotGoes x)) _ _ s
 refine wpAny_noted ?_
 rw[compTurn_list]
 refine W6 (aaO (W6 (YD (turn n s hI) (λr aS CB=>?_) λ_ _ h'=>h'.elim)))
 cases r with
 |none=>exact Xe CB
 |some v=>
  refine W6 (YD CB (λ_ Fp Lf=>?_) λ_ _ h'=>h'.elim)
  refine W6 (YD Lf (λ_ l6 zl=>W6 (YD zl (λok xB CC=>?_) λ_ _ h'=>h'.elim)) λ_ _ h'=>h'.elim)
  cases ok with
  |false=>exact Xe ⟨rfl,CC⟩
  |true=>
   exact W6 (W6 (YD CC (λx Ld Pz=>W6 (YD Pz (λ_ Le PB=>Xe (Xe ⟨rfl,PB⟩)) λ_ _ h'=>h'.elim)) λ_ _ h'=>h'.elim))
end
end L2
set_option maxHeartbeats 4000000
namespace L2
open PySem PySem.Spec PyProof.Rows
def Inv.Fq(I:Inv X aa σ H s)(h:dI X.K H a xs):∃(its:List Value) (n:Nat),aA xs its/\xs.length=its.length/\s.heap.get? a=some {cls:= .type "list",data:= .seq its.toArray n}/\xs.length<=sizeLine:=by
 rcases h with h|⟨o,its,n,hk,hc,hd,hs,hz,r,N1⟩
 .obtain⟨z,its,n,r,e⟩:=h.ok I.aN
  exact⟨its,n,r,r.length,e,z⟩
 .refine⟨its.toList,n,r,r.length,?_,?_⟩
  .rw[I.E5 a o hk]
   obtain⟨c,d,dt,sl⟩:=o
   simp only at hc hd hs N1
   subst hc hd hs N1
   simp
  .have e:=r.length
   simp only[XE]at e
   lia
theorem N2{env:Env}:∀{names:List (Str×NameKind)}{x:Str},(names.map λ(n,k)=>if(k==NameKind.free&&env.scope.kind == .function&&env.kindOf n==some .cell) then(n,NameKind.cell) else(n,k)).lookup x=
  (names.lookup x).map λk=>if(k==NameKind.free&&env.scope.kind == .function&&env.kindOf x==some .cell)=true then NameKind.cell else k
 |[],_=>rfl
 |(n,k)::r,x=>by
  rw[Xy]
  show List.lookup x ((if(k==NameKind.free&&env.scope.kind == .function&&env.kindOf n==some .cell)=true then(n,NameKind.cell) else(n,k))::_)=_
  cases hx:x==n with
  |true=>
   cases eq_of_beq hx
   rw[abm,ZN]
   split<;>exact abm
  |false=>split<;>simp only[ZD,hx]<;>exact N2
def iq{sc:Scope}{env:Env}(h:sc.names.lookup x=some .free):(relabel sc env).names.lookup x=some .cell \/(relabel sc env).names.lookup x=some .free :=by
 refine(show _=_ from N2)▸?_
 rw[h,ZN]
 split
 .exact .inl rfl
 .exact .inr rfl
def kS{sc:Scope}{env:Env}(hk:kd= .cell \/kd= .free)(h:(relabel sc env).names.lookup x=some kd):(x,NameKind.free)∈sc.names\/(x,NameKind.cell)∈sc.names:=by
 rw[show(relabel sc env).names.lookup x=_ from N2]at h
 obtain⟨k,h1,h2⟩:=ZW.mp h
 have:=X0 h1
 cases k with
 |free=>exact .inl this
 |cell=>exact .inr this
 |_=>simp at h2;subst h2;rcases hk with z|z<;>cases z
theorem mh:∀{names:List (Str×NameKind)}{n:Nat}{acc:List (Str×Addr)},cellsFrom n names acc=cellsFrom n names []++acc
 |[],_,_=>rfl
 |(x,k)::r,n,acc=>by
  unfold cellsFrom
  split
  .rw[mh,mh (acc:=[(x,n)]),XI];rfl
  .exact mh
theorem pS:∀{names:List (Str×NameKind)}{n:Nat},(∀x c,(x,c)∈cellsFrom n names []->(x,NameKind.cell)∈names)/\∀x,(x,NameKind.cell)∈names->∃c,(cellsFrom n names []).lookup x=some c
 |[],_=>⟨λ_ _ h=>(nomatch h),λ_ h=>nomatch h⟩
 |(y,k)::r,n=>by
  unfold cellsFrom
  split
  .rename_i hk
   cases eq_of_beq hk
   rw[mh]
   obtain⟨a,b⟩:=@pS r (n+1)
   refine⟨λx c h=>?_,λx h=>?_⟩
   .rcases Xr.mp h with z|z
    .exact W_ _ (a x c z)
    .cases Xc.mp z;exact Xd
   .rw[aap]
    cases q:(cellsFrom (n+1) r []).lookup x with
    |some c=>exact⟨c,rfl⟩
    |none=>
     rcases Xl.mp h with z|z
     .cases z;exact⟨n,by simp⟩
     .obtain⟨c,hc⟩:=b x z
      rw[q]at hc;cases hc
  .rename_i hk
   obtain⟨a,b⟩:=@pS r n
   refine⟨λx c h=>W_ _ (a x c h),λx h=>?_⟩
   rcases Xl.mp h with z|z
   .cases z;exact absurd rfl hk
   .exact b x z
def xC(X:Cx)(ifs:List Expr)(t:TT):Prop:=
 ∀(aa:List (Addr×Obj)) (s:Shared) (σ:St) (H:Hp) (Q:Bool->Hp->Prop),Inv X aa σ H s->t σ H Q->
  wpAny (model X.prog X.w) X.A (forIn ifs true λc r=>if r=true then do let ok<-isTrue c X.env (eval c X.env);pure (ForInStep.yield ok) else pure (ForInStep.yield r)) (TP X aa σ Q) X.xe s
theorem oB:∀(cs:List Expr),(forIn cs false λc r=>if r=true then do let ok<-isTrue c env (eval c env);pure (ForInStep.yield ok) else pure (ForInStep.yield r):Sem Bool)=pure false
 |[]=>rfl
 |c::cs=>by
  rw[Y2,Xx Xa]
  exact oB cs
section
variable {X:Cx}
def CD:xC X [] (λσ H Q=>Q true H):=λ_ _ _ H _ I h=>Xe ⟨H,I,h⟩
def zo(h:PT X c t)(hr:xC X cs u):xC X (c::cs) (KD t u):=by
 intro aa s σ H Q I hw
 rw[Y2,Xs rfl]
 refine W6 (W6 (aW (h aa s σ H _ I hw) λb s1 zz=>ab zz λH1 I1 q1=>Xe ?_))
 cases b with
 |true=>exact hr aa s1 σ H1 Q I1 q1
 |false=>
  show wpAny _ _ (forIn cs false _) _ _ _
  rw[oB]
  exact Xe ⟨H1,I1,q1⟩
noncomputable def jk(fr:List Nat)(σ:St):St:=fr.map λi=>(σ[i]?).join
noncomputable def ir(X:Cx)(sc:Scope)(cl:List (Str×Addr))(C:Addr)(N:List Str)(aa:List (Addr×Obj))(s:Shared)(H:Hp)(ex:List Addr):Cx:=
 {X with N:=N,s₀:=s,H₀:=H,env:=compEnvC sc cl C X.env,outer:=X.stack,ex:=ex,fn:=λx=>decide ((x,NameKind.cell)∈sc.names),pn:=X.pn++aa,xe:=λ_ _=>False}
structure Hj(N:List Str)(zp:Scope)(sc:Scope)(N':List Str)(k:Nat)(fr:List Nat):Prop where
 kind:sc.kind= .function
 apart:∀y∈sc.names,y.2= .free ->(y.1,NameKind.cell)∉sc.names
 loc:∀y∈sc.names,y.2= .local ->sc.names.lookup y.1=some .local
 free:∀y∈sc.names,y.2= .free ->zp.names.lookup y.1=some .cell \/zp.names.lookup y.1=some .free
 len:N'.length=k+fr.length
 Uv:∀j x,N'[k+j]?=some x->∃i,fr[j]?=some i/\N[i]?=some x/\sc.names.lookup x=some .free
def oC(k:Nat)(fr:List Nat)(wi:TI)(g:TG)(tt:TT)(te:TE):TE:=λσ H Q=>wi σ H λJ H1=>
 ∀p,H1 p=none->∃W:Nat->Nat->Hp->Prop,(∃m,W 0 m (upd H1 p (.lst [])))/\∀i m H,W i m H->
  (J.stop i H/\Q (.ref p) H)\/
  (J.go i H/\∀x H',J.yS i H x H'->g x (List.replicate k none++jk fr σ) H' λyB H2=>tt yB H2 λb H3=>
   if b=true then te yB H3 λv H4=>∃xs m',H4 p=some (.lst xs)/\xs.length<sizeLine/\m'<m/\W (i+1) m' (upd H4 p (.lst (xs++[v])))
   else∃m',m'<m/\W (i+1) m' H3)
def pT(k:Nat)(g:TG):Prop:=∀x σ H Q,g x σ H Q->g x σ H λyB H2=>Q yB H2/\yB.length=σ.length/\∀i,k<=i->yB[i]?=σ[i]?
def zq(I:Inv X aa σ H s)(S:Hj X.N X.env.scope sc N' k fr)
  (h1:∀x c,cl.lookup x=some c->X.env.cells.lookup x=some c/\(x,NameKind.free)∈sc.names\/(x,NameKind.cell)∈sc.names/\s.heap.objs.size<c/\s4.heap.IsCell c none) (h2:∀x,(x,NameKind.free)∈sc.names\/(x,NameKind.cell)∈sc.names->∃c,cl.lookup x=some c)
  (inj:∀x y c,cl.lookup x=some c->cl.lookup y=some c->x=y) (N3:∀b∈fp,lh X aa H b) (bJ:∀b∈fp,b<s.heap.objs.size) (os:s4.os=s.os) (gens:s4.gens=s.gens) (keep:∀b o,s.heap.get? b=some o->s4.heap.get? b=some o)
  (ns:s4.heap.Ns s.heap.objs.size m):
  Inv (ir X sc cl s.heap.objs.size N' aa s H fp) [] (List.replicate k none++jk fr σ) H s4:=by
 have kx:∀x,(x,NameKind.free)∈sc.names->X.env.kindOf x=some .cell \/X.env.kindOf x=some .free :=λx hx=>S.free (x,.free) hx rfl
 have Fs:∀x c v,X.env.cells.lookup x=some c->s.heap.IsCell c v->s4.heap.IsCell c v:=λx c v _ ⟨o,ho,hd⟩=>⟨o,keep c o ho,hd⟩
 refine⟨⟨I.ok.mod,S.kind,I.ok.glob,I.ok.blt,Xf _,inj,λx hx=>?_,λx c hf hx=>?_,I.ok.hd,I.ok.frames,.inl rfl,λb hb=>⟨?_,λx c hx=>?_⟩,I.bs,Xq I.ok.yL I.sz,λb o e hb=>?_,λb hb=>?_,I.stack,I.vb⟩,
  os,by rw[gens];exact I.bare,Un.kept keep,⟨m,ns,λi x v e1 e2 e3=>?_⟩,λx c hx=>?_,I.fresh,λx c hx=>?_,λp hp=>?_,I.aN.kept keep,?_⟩
 .rcases hx with hx|hx
  .exact h2 x (kS (.inl rfl) hx)
  .exact h2 x (kS (.inr rfl) hx)
 .rcases h1 x c hx with z|z
  .exact absurd (of_decide_eq_true hf) (S.apart _ z.2 rfl)
  .exact Yb z.2.1
 .exact XD (bJ b hb)
 .rcases h1 x c hx with z|z
  .exact(N3 b hb).2.2.2.2.1 x c z.1
  .exact ZJ (Zl (bJ b hb) z.2.1)
 .rcases (N3 b hb).2.2.2.1 with z|z
  .exact I.ok.yM b o e z
  .exact absurd (Xj (Xj (Xm e) I.ok.yL) z) (X2 _)
 .intro j6
  rcases Xl.mp (I.l5 b j6)with z|z
  .exact(N3 b hb).2.1 z
  .exact(N3 b hb).2.2.1 z
 .by_cases hi:i<k
  .rw[XZ (by simpa using hi),aaa hi]at e2
   cases e2
  .have iP:k<=i:=aaV hi
   rw[X4 (by simpa using iP),Zj]at e2
   have pU:N'[k+(i-k)]?=some x:=by rw[Nat.add_sub_cancel' iP];exact e1
   refine bF (S.Uv (i-k) x pU) λj f1 f2 f3=>?_
   unfold jk at e2
   rw[Xn,f1]at e2
   have CF:(σ[j]?).join =some v:=by simpa using e2
   have PD:σ[j]?=some (some v):=by
    cases q:σ[j]? with
    |none=>rw[q]at CF;cases CF
    |some y=>rw[q]at CF;simp at CF;rw[CF]
   refine ab I.loc λmo yC Fn=>?_
   have Uw:xh X.env.scope x:=by
    rcases kx x (X0 f3)with z|z
    .exact .inr (.inl z)
    .exact .inr (.inr z)
   refine ab (Fn j x v f2 PD Uw) λu r l=>⟨u,r,?_⟩
   rcases l with⟨z,_⟩|⟨_,c,hc,vd⟩
   .rcases kx x (X0 f3)with y|y
    .rw[y]at z;cases z
    .rw[y]at z;cases z
   .obtain⟨c',nK⟩:=h2 x (.inl (X0 f3))
    have ec:=(h1 x c' nK).resolve_right λz=>S.apart _ (X0 f3) rfl z.1
    cases hc.symm.trans ec.1
    refine .inr ⟨?_,c,nK,Fs x c _ hc vd⟩
    have vz:xh (relabel sc X.env) x:=e3
    rcases vz with z|z|z
    .rcases iq (env:=X.env) f3 with y|y<;>cases y.symm.trans z
    .exact .inl z
    .exact .inr z
 .rcases h1 x c hx with y|y
  .obtain⟨v,z⟩:=I.cell x c y.1
   exact⟨v,Fs x c v y.1 z⟩
  .exact⟨_,y.2.2⟩
 .rcases h1 x c hx with y|y
  .exact I.f9 x c y.1
  .exact I.aN.fresh (Yb y.2.1)
 .have JU:p∈X.pn++aa:=by simpa[ir]using hp
  refine Kl (I.pin p JU) λe n ne nf d=>⟨keep _ _ e,n,XD (Xm e),λz=>?_,d⟩
  rcases Xl.mp (I.l5 p.1 z)with y|y
  .exact ne y
  .exact nf y
 .show _=N'.length
  rw[S.len,Xk,Zj]
  unfold jk
  rw[Xb]
def Lg(X:Cx)(aa:List (Addr×Obj))(H:Hp)(C:Addr):Prop:=
 H C=none/\C≠X.env.locals/\X.s₀.heap.objs.size<=C/\(∀x c,X.env.cells.lookup x=some c->c≠C)/\∀p∈X.pn++aa,p.1≠C
def Inv.Lh(I:Inv X aa σ H s)(h:Lg X aa H C)(hs:Heap.SameBut C s.heap h'):Inv X aa σ H {s with heap:=h'}:=by
 exact Kl h λa b c d e=>I.turned (t':=s.toks) (it:=C) (λb o hb q=>(hs.2 b hb).trans q) a b (.inr c) d e
def oD{aa:List (Addr×Obj)}{σ:St}{H1:Hp}{s2:Shared}{dQ tg iter:Expr}{ifs:List Expr}{sc:Scope}{pos:Pos}{N':List Str}{k:Nat}{fr:List Nat}{cl:List (Str×Addr)}{fp:List Addr}{it:Addr}{tn:Nat->Heap->Prop}{J:It}
  {g:TG}{tt:TT}{te:TE}{E:Value->Shared->Prop}{Qe:Addr->Hp->Prop}{RR:Value->Addr->Result->Shared->Prop}
  (I2:Inv X aa σ H1 s2) (T:rf X.prog X.w X.K tg J fp it tn) (cC:tn 0 s2.heap) (f2:∀b∈fp,lh X aa H1 b) (S:Hj X.N X.env.scope sc N' k fr) (hc:X.calm=true)
  (h1:∀x c,cl.lookup x=some c->X.env.cells.lookup x=some c/\(x,NameKind.free)∈sc.names) (h2:∀x,(x,NameKind.free)∈sc.names->∃c,cl.lookup x=some c) (gk:pT k g)
  (Hk:∀cl C s H ex,PG (ir X sc cl C N' aa s H ex) tg g/\xC (ir X sc cl C N' aa s H ex) ifs tt/\PE (ir X sc cl C N' aa s H ex) dQ te)
  (hW:∀p,H1 p=none->∃W:Nat->Nat->Hp->Prop,(∃m,W 0 m (upd H1 p (.lst [])))/\∀i m H,W i m H->
   (J.stop i H/\Qe p H)\/
   (J.go i H/\∀x H',J.yS i H x H'->g x (List.replicate k none++jk fr σ) H' λyB H2=>tt yB H2 λb H3=>
    if b=true then te yB H3 λv H4=>∃xs m',H4 p=some (.lst xs)/\xs.length<sizeLine/\m'<m/\W (i+1) m' (upd H4 p (.lst (xs++[v])))
    else∃m',m'<m/\W (i+1) m' H3))
  (Ux:∀a C s' H',Inv X aa σ H' s'->Lg X aa H' C->(∃m,s'.heap.Ns C m)->Qe a H'->RR (.ref a) C (.ok .next) s'):
  wpAny (model X.prog X.w) X.A (newList []) (λacc s3=>wpAny (model X.prog X.w) X.A (newFunctionEnv sc X.env.globals cl [] X.env.qual none .none (some X.env)) (λLi s4=>
   codeAny (model X.prog X.w) X.A (.compStart (.ListComp dQ [⟨tg,iter,ifs,0⟩] sc pos) 0 (.ref it) acc {Li with scope:=relabel sc X.env}) (RR acc Li.locals) s4) E s3) E s2:=by
 have hD:H1 s2.heap.objs.size=none:=I2.fresh
 refine ao λnO=>?_
 obtain⟨W,⟨m0,w0⟩,turn⟩:=hW _ hD
 refine nO ?_
 have Ft:∀b∈fp,b<s2.heap.objs.size:=λb hb=>by
  exact ab (T.obj _ _ cC b hb) λo e _=>Xm e
 refine XJ ?_ (XQ _)
 have I3:Inv X aa σ (upd H1 s2.heap.objs.size (.lst [])) {s2 with heap:=s2.heap.push {cls:= .type "list",data:= .seq ([]:List Value).toArray}}:=I2.K_ (ys:=[]) (its:=[]) (t':=s2.toks) .nil (XQ _)
 have Fu:∀b o,s2.heap.get? b=some o->(s2.heap.push {cls:= .type "list",data:= .seq ([]:List Value).toArray}).get? b=some o:=λb o e=>W8 _ e
 have ne:∀b∈fp,b≠s2.heap.objs.size:=λb hb=>XD (Ft b hb)
 have f3:∀b∈fp,lh X aa (upd H1 s2.heap.objs.size (.lst [])) b:=λb hb=>⟨by rw[ak (ne b hb)];exact(f2 b hb).1,(f2 b hb).2⟩
 have CG:∀b∈fp,b<(s2.heap.push {cls:= .type "list",data:= .seq ([]:List Value).toArray}).objs.size :=λb hb=>by
  rw[YG];exact YQ (Ft b hb)
 have lj:tn 0 (s2.heap.push {cls:= .type "list",data:= .seq ([]:List Value).toArray}):=T.keep _ _ _ cC λb _ o e=>Fu b o e
 generalize Uy:({s2 with heap:=s2.heap.push {cls:= .type "list",data:= .seq ([]:List Value).toArray}}:Shared)=s3 at *
 have Uz:s3.heap=s2.heap.push {cls:= .type "list",data:= .seq ([]:List Value).toArray}:=by rw[<-Uy]
 rw[<-Uz]at Fu CG lj
 simp only[newFunctionEnv,abH,if_true]
 refine W6 (wpAny_alloc (W6 (wpAny_layCells _ (λname kind cells=>by cases UA:kind==NameKind.cell<;>simp[UA]) _ _ _ _ ?_)))
 have ok:=cellsFrom_ok sc.names (s3.heap.push {cls:= .type "dict",data:= .dict #[]}) (s3.heap.objs.size+1) [] ⟨λ_ _ hm=>(nomatch hm),List.Pairwise.nil⟩ (by rw[YG];exact Xf _)
 rw[YG]at ok
 rw[show({s3 with heap:=s3.heap.push {cls:= .type "dict",data:= .dict #[]}}:Shared).heap.objs.size =s3.heap.objs.size+1 from YG ..,mh]
 refine W6 (Xe (Xe ?_))
 have Fv:∀b o,s3.heap.get? b=some o->(pushCells (s3.heap.push {cls:= .type "dict",data:= .dict #[]}) sc.names).get? b=some o:=λb o e=>pushCells_keeps _ _ b o (W8 _ e)
 have UB:=(Heap.Ns.new s3.heap (.type "dict")).keeps (pushCells_keeps sc.names _)
 have g1:∀x c,(cellsFrom (s3.heap.objs.size+1) sc.names []++cl).lookup x=some c->X.env.cells.lookup x=some c/\(x,NameKind.free)∈sc.names\/(x,c)∈cellsFrom (s3.heap.objs.size+1) sc.names []:=λx c e=>by
  rw[aap]at e
  cases q:(cellsFrom (s3.heap.objs.size+1) sc.names []).lookup x with
  |some c'=>rw[q]at e;cases e;exact .inr (X0 q)
  |none=>rw[q]at e;exact .inl (h1 x c e)
 have g2:∀x,(x,NameKind.free)∈sc.names\/(x,NameKind.cell)∈sc.names->∃c,(cellsFrom (s3.heap.objs.size+1) sc.names []++cl).lookup x=some c:=λx e=>by
  rw[aap]
  cases q:(cellsFrom (s3.heap.objs.size+1) sc.names []).lookup x with
  |some c=>exact⟨c,rfl⟩
  |none=>
   rcases e with z|z
   .exact h2 x z
   .obtain⟨c,hc⟩:=pS.2 x z
    cases q.symm.trans hc
 have Sh:∀x c,X.env.cells.lookup x=some c->c<s3.heap.objs.size:=λx c e=>by
  obtain⟨v,z⟩:=I3.cell x c e
  exact z.lt
 have gj:∀x y c,(cellsFrom (s3.heap.objs.size+1) sc.names []++cl).lookup x=some c->(cellsFrom (s3.heap.objs.size+1) sc.names []++cl).lookup y=some c->x=y:=λx y c e1 e2=>by
  rcases g1 x c e1 with a|a<;>rcases g1 y c e2 with b|b
  .exact I3.ok.inj x y c a.1 b.1
  .exact absurd (Zl (Sh x c a.1) (ok.empty y c b).2) (X2 _)
  .exact absurd (Zl (Sh y c b.1) (ok.empty x c a).2) (X2 _)
  .exact name_of_addr ok.apart a b
 have g3:∀x c,(cellsFrom (s3.heap.objs.size+1) sc.names []++cl).lookup x=some c->X.env.cells.lookup x=some c/\(x,NameKind.free)∈sc.names\/(x,NameKind.cell)∈sc.names/\s3.heap.objs.size<c/\(pushCells (s3.heap.push {cls:= .type "dict",data:= .dict #[]}) sc.names).IsCell c none:=λx c e=>(g1 x c e).imp_right λz=>⟨pS.1 x c z,(ok.empty x c z).2,(ok.empty x c z).1⟩
 clear ok g1 h1 h2
 generalize cellsFrom (s3.heap.objs.size+1) sc.names []++cl=cl at *
 generalize pushCells (s3.heap.push {cls:= .type "dict",data:= .dict #[]}) sc.names=h4 at *
 generalize eH:upd H1 s2.heap.objs.size (.lst [])=H3 at *
 generalize eD:s2.heap.objs.size=D at *
 have J4:Inv (ir X sc cl s3.heap.objs.size N' aa s3 H3 fp) [] (List.replicate k none++jk fr σ) H3 {s3 with heap:=h4,toks:=s3.toks}:=
  zq (s4:={s3 with heap:=h4,toks:=s3.toks}) I3 S g3 g2 gj f3 CG rfl rfl Fv UB
 have JV:tn 0 h4:=T.keep _ _ _ lj λb _ o e=>Fv b o e
 refine cS (Hk cl s3.heap.objs.size s3 H3 fp) λpg pt pe=>?_
 have t9:∀{H':Hp},(∀b∈fp,H' b=none)->∀b∈fp,lh (ir X sc cl s3.heap.objs.size N' aa s3 H3 fp) [] H' b:=λ{H'} hn b hb=>by
  refine ao λnO=>va (f3 b hb) λ_ a1 a2 a3 a4 a5=>nO ?_
  refine⟨hn b hb,XD (CG b hb),λz=>?_,.inl hb,λx c hx=>(g3 x c hx).elim (λz=>a4 x c z.1) λz=>ZJ (Zl (CG b hb) z.2.1),λp hp=>a5 p (by simpa[ir]using hp)⟩
  rcases Xl.mp (I3.l5 b z)with y|y
  .exact a1 y
  .exact a2 y
 have fin:∀{s':Shared}{H':Hp},Inv (ir X sc cl s3.heap.objs.size N' aa s3 H3 fp) [] (List.replicate k none++jk fr σ) H' s'->Qe D H'->RR (.ref D) s3.heap.objs.size (.ok .next) s':=λ{s' H'} J5 q=>by
  refine Ux D s3.heap.objs.size s' H' ?_ ⟨J5.free,(XD I3.lt).symm,I3.sz,λx c hx z=>?_,λp hp z=>?_⟩ (let ⟨m,hn,_⟩:=J5.loc;⟨m,hn⟩) q
  .exact I3.KA (ch:=fp) J5.os J5.base J5.aN J5.bare λb hb=>let ⟨_,a1,a2,a3,a4,a5⟩:=f3 b hb;⟨a3,a1,a4,a5⟩
  .exact ao λnO=>eW (I3.cell x c hx) λv o ho _=>nO<|absurd (Xm ho) (by rw[z];exact X2 _)
  .exact absurd (Xm (I3.pin p hp).1) (by rw[z];exact X2 _)
 have loop:∀s5:Shared,s5={s3 with heap:=h4,toks:=s3.toks}->codeAny (model X.prog X.w) X.A (.compLoop (.ListComp dQ [⟨tg,iter,ifs,0⟩] sc pos) 0 (.ref it) (.ref D) (compEnvC sc cl s3.heap.objs.size X.env)) (RR (.ref D) s3.heap.objs.size) s5:=by
  rintro s5 rfl
  refine um (λn s'=>∃i H',Inv (ir X sc cl s3.heap.objs.size N' aa s3 H3 fp) [] (List.replicate k none++jk fr σ) H' s'/\tn i s'.heap/\(∀b∈fp,H' b=none)/\W i n H') ?_ m0 ⟨0,H3,J4,JV,λb hb=>(f3 b hb).1,w0⟩
  rintro n s5 ⟨i,H5,J5,xp,NW,w5⟩
  rcases turn i n H5 w5 with⟨stop,qn⟩|⟨go,step⟩
  .refine aW (T.done (ir X sc cl s3.heap.objs.size N' aa s3 H3 fp) rfl rfl rfl hc i [] s5 _ H5 (λ_ _=>False) J5 (t9 NW) xp stop) λr s6 zz=>?_
   obtain⟨hr,J6⟩:=zz
   subst hr
   exact fin J6 qn
  .refine aW (T.item (ir X sc cl s3.heap.objs.size N' aa s3 H3 fp) rfl rfl rfl hc i [] s5 _ H5 (λ_ _=>False) J5 (t9 NW) xp go) λr s6 zz=>ao λnO=>ab zz λu hr h6=>?_
   subst hr
   refine nO<|aW h6 λ_ s7 zz=>ao λnO=>kP zz λx H7 J7 r7 y7 Lj UC=>nO ?_
   have UD:=J7.pinned (t9 UC) (T.obj _ _ Lj)
   refine aW (pg _ s7 _ H7 x u _ UD r7 (gk _ _ _ _ (step x H7 y7))) λ_ s8 zz=>ao λnO=>gq zz λN4 H8 J8 q8 l8 k8=>nO ?_
   have back:∀{s9:Shared}{H9:Hp}{m:Nat},Inv (ir X sc cl s3.heap.objs.size N' aa s3 H3 fp) ([]++l7 fp s7.heap) N4 H9 s9->m<n->W (i+1) m H9->
     ∃m,m<n/\∃i H',Inv (ir X sc cl s3.heap.objs.size N' aa s3 H3 fp) [] (List.replicate k none++jk fr σ) H' s9/\tn i s9.heap/\(∀b∈fp,H' b=none)/\W i m H':=λ{s9 H9 m} J9 hm w9=>by
    refine⟨m,hm,i+1,H9,(J9.je).weak l8.symm λj v e=>?_,T.keep _ _ _ Lj λb hb o e=>(J9.pin (b,o) (Xv _ (Xv _ (fR hb e)))).1,λb hb=>?_,w9⟩
    .by_cases hj:j<k
     .rw[XZ (by simpa using hj),aaa hj]at e
      cases e
     .rw[k8 j (aaV hj)];exact e
    .exact ab (T.obj _ _ Lj b hb) λo e _=>(J9.pin (b,o) (Xv _ (Xv _ (fR hb e)))).2.1
   refine aW (pt _ s8 N4 H8 _ J8 q8) λb s9 zz=>ab zz λH9 J9 q9=>?_
   cases b with
   |false=>
    rw[Xx Xa]at q9⊢
    exact ab q9 λm' hm w'=>back J9 hm w'
   |true=>
    rw[Xs rfl]at q9⊢
    refine aW (pe _ s9 N4 H9 _ J9 q9) λy UE zz=>ao λnO=>?_
    obtain⟨v,PF,UG,UH,xs,m',hx,hl,hm,w'⟩:=zz
    refine nO<|aW (oA _ UE N4 PF (.ref D) [v] (.ref D) [y] (λ_ PH=>∃m',m'<n/\W (i+1) m' PH) UG rfl (.cons UH .nil) ⟨D,xs,v,rfl,rfl,hx,hl,m',hm,w'⟩) λ_ N5 zz=>ao λnO=>?_
    obtain⟨_,PH,UI,_,WI,JW,UJ⟩:=zz
    exact nO<|back UI JW UJ
 exact codeAny_compStart_list (loop _ rfl) (T.self X.A 0 _ _ _ JV (loop _ rfl))
def rq(I:Inv X aa σ H s)(S:Hj X.N X.env.scope sc N' k fr):
  ∃cl,closureFor sc X.env=pure cl/\(∀x c,cl.lookup x=some c->X.env.cells.lookup x=some c/\(x,NameKind.free)∈sc.names)/\(∀x,(x,NameKind.free)∈sc.names->∃c,cl.lookup x=some c):=
 uk λy hy hf=>I.ok.has y.1 (S.free y hy hf)
def vt{dQ tg iter:Expr}{ifs:List Expr}{sc:Scope}{pos:Pos}{N':List Str}{k:Nat}{fr:List Nat}{wi:TI}{g:TG}{tt:TT}{te:TE}(hi:PI X tg iter wi)(S:Hj X.N X.env.scope sc N' k fr)(hc:X.calm=true)(gk:pT k g)
  (Hk:∀cl C aa s H ex,PG (ir X sc cl C N' aa s H ex) tg g/\xC (ir X sc cl C N' aa s H ex) ifs tt/\PE (ir X sc cl C N' aa s H ex) dQ te)
  (hs:∀x,foldedSetIterable iter X.env x=pure x):PE X (.ListComp dQ [⟨tg,iter,ifs,0⟩] sc pos) (oC k fr wi g tt te):=by
 intro aa s σ H Q I h
 refine bF (rq I S) λcl PJ h1 h2=>?_
 rw[eval_ListComp]
 refine aaB (use:=none) (g:=⟨tg,iter,ifs,0⟩) (gs:=[]) rfl hs PJ S.kind S.loc<|aW (hi aa s σ H _ I h) λv s1 q1=>aW q1 λNU s2 q2=>R3 q2 λit fp tn J H2 e I2 T cC f2 hW=>?_
 subst e
 refine oD (Qe:=λp H=>Q (.ref p) H) (RR:=λacc C=>compPost (model X.prog X.w) X.A X.xe none (EP X aa σ Q) acc C) I2 T cC f2 S hc h1 h2 gk (λcl C s H ex=>Hk cl C aa s H ex) hW ?_
 intro a C s' H' I' off ⟨m,hn⟩ q
 exact⟨m,hn,λh' Fw=>⟨.ref a,H',I'.Lh off Fw,rfl,q⟩⟩
def mi{dQ tg iter:Expr}{ifs:List Expr}{sc:Scope}{pos Lk py:Pos}{N':List Str}{k:Nat}{fr:List Nat}{wi:TI}{g:TG}{tt:TT}{te:TE}{y:Str}{j:Nat}(hi:PI X tg iter wi)(S:Hj X.N X.env.scope sc N' k fr)(hc:X.calm=true)(gk:pT k g)
  (Hk:∀cl C aa s H ex,PG (ir X sc cl C N' aa s H ex) tg g/\xC (ir X sc cl C N' aa s H ex) ifs tt/\PE (ir X sc cl C N' aa s H ex) dQ te)
  (hs:∀x,foldedSetIterable iter X.env x=pure x) (hN:X.N.Nodup) (hj:X.N[j]?=some y) (hy:X.env.scope.names.lookup y=some .local)
  (UK:swapsWith (.ListComp dQ [⟨tg,iter,ifs,0⟩] sc pos) (some (.Name y py)) Lk.line X.env=pure true):
  PS X (.Assign [.Name y py] (.ListComp dQ [⟨tg,iter,ifs,0⟩] sc pos) Lk) (nQ (oC k fr wi g tt te) (cI j)):=by
 intro aa s σ H D I h
 refine bF (rq I S) λcl PJ h1 h2=>?_
 rw[exec_Assign_Name_used _ _ _ _ UK]
 refine W6 (aaO (W6 ?_))
 show wpAny _ _ (do let _<-comprehension (.ListComp dQ [⟨tg,iter,ifs,0⟩] sc pos) sc X.env _ (newList []) false (eval iter X.env) (some (assign (.Name y py) X.env))) _ _ s
 refine W6 (YD (aaB (g:=⟨tg,iter,ifs,0⟩) (gs:=[]) (use:=some (assign (.Name y py) X.env)) (Q:=λ_ s'=>SP X aa D .next s') rfl hs PJ S.kind S.loc ?_) (λ_ s' hq=>Xe (Xe hq)) λ_ _ e=>e)
 refine aW (hi aa s σ H _ I h) λv s1 q1=>aW q1 λNU s2 q2=>R3 q2 λit fp tn J H2 e I2 T cC f2 hW=>?_
 subst e
 refine oD (Qe:=λp H=>D.nx (σ.set j (some (.ref p))) H) (RR:=λacc C=>compPost (model X.prog X.w) X.A X.xe (some (assign (.Name y py) X.env)) (λ_ s'=>SP X aa D .next s') acc C) I2 T cC f2 S hc h1 h2 gk (λcl C s H ex=>Hk cl C aa s H ex) hW ?_
 intro a C s' H' I' off ⟨m,hn⟩ q
 show wpAny _ _ (assign (.Name y py) X.env (.ref a)) _ _ _
 refine wpAny_assign_Name (om I' hN hj (.inl hy) (v:= .ref a) rfl (λKZ UL sb=>?_) (.inr hy))
 refine ab sb λb hb j6=>?_
 have UM:C≠b:=by
  rintro rfl
  rcases j6 with z|z
  .exact off.2.1 z
  .exact off.2.2.2.1 _ _ z rfl
 exact⟨m,hn.sameBut hb UM,λh' Fw=>⟨_,H',UL.Lh off Fw,q⟩⟩
end
end L2
namespace cN
noncomputable def bC:List Int->List Int->Bool
 |[],[]=>false
 |[],_::_=>true
 |_::_,[]=>false
 |n::u,m::v=>if n=m then bC u v else decide (n<m)
noncomputable def xD(x:List Int):List (List Int)->List (List Int)
 |[]=>[x]
 |y::r=>if bC y x then y::xD x r else x::y::r
noncomputable def fg:List (List Int)->List (List Int)
 |[]=>[]
 |x::r=>xD x (fg r)
noncomputable def iu:List Int->List (List Int)->List Int
 |a,[]=>a
 |a,b::r=>iu (if bC b a then b else a) r
end cN
namespace Py
open PySem
set_option genInjectivity false
inductive D where
 |dj|bl (b:Bool)|int (i:Int)|str (x:Str)|tup (xs:List D)|lst (xs:List D)
  |bz (t:Nat) (ks:List (List Int)) (vs:List D)
 deriving Inhabited
noncomputable def bj:Nat:=16777216
mutual
noncomputable def gT:D->D->Bool
 | .dj,b=>match b with| .dj =>true| .bz _ _ _=>true|_=>false
 | .bl x,b=>match b with| .bl y=>x==y| .int j=>(if x then 1 else 0)==j|_=>false
 | .int i,b=>match b with| .bl y=>i==(if y then 1 else 0)| .int j=>i==j|_=>false
 | .tup xs,b=>match b with| .tup ys=>yD xs ys|_=>false
 | .lst xs,b=>match b with| .lst ys=>yD xs ys|_=>false
 | .str x,b=>match b with| .str y=>decide (x=y)|_=>false
 | .bz _ _ _,b=>match b with| .dj =>true| .bz _ _ _=>true|_=>false
noncomputable def yD:List D->List D->Bool
 |[],ys=>match ys with|[]=>true|_=>false
 |x::xs,ys=>match ys with|[]=>false|y::ys=>gT x y&&yD xs ys
end
mutual
noncomputable def aC:D->Bool
 | .tup xs=>aR xs
 | .lst _=>false
 | .bz _ _ _=>false
 |_=>true
noncomputable def aR:List D->Bool
 |[]=>true
 |x::xs=>aC x&&aR xs
end
noncomputable def PK(x:Str):Bool:=x.cps.all (· < 0x110000)
mutual
noncomputable def cG:D->Nat->Bool
 | .tup xs,n=>match n with|0=>false|n+1=>gf xs n
 | .lst xs,n=>match n with|0=>false|n+1=>gf xs n
 | .bz _ _ _,_=>false
 | .str x,_=>PK x
 |_,_=>true
noncomputable def gf:List D->Nat->Bool
 |[],_=>true
 |x::xs,n=>cG x n&&gf xs n
end
theorem gU(n:Nat):∀ns:List Int,gf (ns.map .int) n=true
 |[]=>by simp[gf]
 |i::ns=>by simp[gf,cG,gU n ns]
noncomputable def mj:D->Bool
 | .bz t _ _=>t==2
 |_=>false
@[simp] def dm:D->Bool
 | .bz _ _ _=>false
 |_=>true
inductive uo where
 |len|tuple|list|min|sorted|all|str
 deriving DecidableEq,Inhabited
inductive Ty where
 |int|bool|tuple
 deriving DecidableEq,Inhabited
inductive Si where
 |index
 deriving DecidableEq,Inhabited
inductive E where
 |nil|cons (a r:E)
 |var (i:Nat)
 |c (d:D)
 |bin (o:Operator) (a b:E)
 |cmp (o:CmpOp) (a b:E)
 |f_ (k:Bool) (es:E)|not (a:E)|neg (a:E)
 |fQ (a:E) (t:Ty)
 |chain (o o':CmpOp) (a b c:E)
 |rev (a:E)
 |tup (es:E)|lst (es:E)
 |idx (a i:E)
 |sl (a lo hi:E)
 |call (f:Nat) (es:E)
 |prim (p:uo) (es:E)
 |fj (m:Si) (o:E) (es:E)
 |comp (fr:List Nat) (tg:Nat) (it ifs dQ:E)
 |eL (es:E)|CH (a:E)|it (a:E)
 |gW (p:uo) (es:E)
  |dC (i:Nat) (k:E)
 |vw (neg:Bool) (k:E) (i:Nat)
  |eE (i:Nat)
 |dk (i:Nat)|dv (i:Nat)
 deriving Inhabited
noncomputable abbrev E.u(i:Nat):E:= .cons (.var i) .nil
noncomputable abbrev E.w(i:Nat)(r:E):E:= .cons (.var i) r
abbrev Env:=List (Option (Bool×D))
abbrev FT:=Nat->List D->Option D
noncomputable def rd(b:Bool)(ρ:Env)(i:Nat):Option D:=
 match ρ[i]? with
 |some (some (o,d))=>if o&&!(b&&dm d) then none else some d
 |_=>none
noncomputable def lK(ρ:Env)(i:Nat):Bool:=
 match ρ[i]? with
 |some (some (o,_))=>o
 |_=>false
noncomputable def lz(ρ:Env):E->Bool
 | .cons (.var i) r=>lK ρ i||lz ρ r
 | .cons _ r=>lz ρ r
 |_=>false
noncomputable def c_(i j:Int):Bool:=(decide (-(2 ^ 64)<i)&&decide (i<2 ^ 64))||(decide (-(2 ^ 64)<j)&&decide (j<2 ^ 64))
noncomputable def bin(o:Operator)(x y:D):Option D:=
 match o with
 | .Add =>match x,y with
  | .int i,.int j=>some (.int (i+j))
  | .lst a,.lst b=>if a.length+b.length<=bj then some (.lst (a++b)) else none
  | .tup a,.tup b=>if a.length+b.length<=bj then some (.tup (a++b)) else none
  |_,_=>none
 | .Mult =>match x,y with
  | .int i,.int j=>if c_ i j then some (.int (i*j)) else none
  | .tup a,.int j=>if j=2/\0<a.length/\a.length<=1000 then some (.tup (a++a)) else none
  |_,_=>none
 | .Sub =>match x,y with
  | .int i,.int j=>some (.int (i-j))
  |_,_=>none
 | .FloorDiv =>match x,y with
  | .int i,.int j=>if 0<j/\j<1073741824 then some (.int (i/j)) else none
  |_,_=>none
 | .Mod =>match x,y with
  | .int i,.int j=>if 0<j then some (.int (i%j)) else none
  |_,_=>none
 |_=>none
noncomputable def aB:List D->Option (List Int)
 |[]=>some []
 | .int i::r=>(aB r).map (i:: ·)
 |_::_=>none
noncomputable def eF:List D->Option (List Bool)
 |[]=>some []
 | .bl b::r=>(eF r).map (b:: ·)
 |_::_=>none
noncomputable def dD(t:Nat)(x:D):Option (List Int):=
 match x with
 | .int i=>if t=0 then some [i] else none
 | .tup xs=>if t=0 then none else aB xs
 |_=>none
noncomputable def iQ:List (List Int)->List D->List Int->Option D
 |k::ks,v::vs,x=>if k=x then some v else iQ ks vs x
 |_,_,_=>none
abbrev Sj:=Nat×List (List Int)×List D
noncomputable def gv(ρ:List (Option (Bool×D)))(i:Nat):Option Sj:=
 match ρ[i]? with
 |some (some (_,.bz t ks vs))=>if t=2 then none else some (t,ks,vs)
 |_=>none
noncomputable def keysAt(ρ:List (Option (Bool×D)))(i:Nat):Option (List D):=
 match ρ[i]? with
 |some (some (false,.bz 0 ks _))=>some (ks.map λk=> .int (k.headD 0))
 |_=>none
noncomputable def pV(ρ:List (Option (Bool×D)))(i:Nat):Option (List D):=
 match ρ[i]? with
 |some (some (false,.bz 0 _ vs))=>some vs
 |_=>none
noncomputable def kT(ρ:List (Option (Bool×D)))(i:Nat):Option (List D):=
 match ρ[i]? with
 |some (some (_,.lst xs))=>some xs
 |_=>none
noncomputable def zu(t:Nat):List D->Option D
 |[k,v]=>(dD t k).map λx=> .bz t [x] [v]
 |_=>none
noncomputable def cmp(o:CmpOp)(x y:D):Option Bool:=
 match o with
 | .Eq =>if cG x 60&&cG y 60 then some (gT x y) else none
 | .NotEq =>if cG x 60&&cG y 60 then some (!gT x y) else none
 | .Lt =>match x,y with
  | .int i,.int j=>some (decide (i<j))
  |_,_=>none
 | .LtE =>match x,y with
  | .int i,.int j=>some (decide (i<=j))
  |_,_=>none
 | .Gt =>match x,y with
  | .int i,.int j=>some (decide (j<i))
  |_,_=>none
 |_=>none
noncomputable def cu(n:Nat)(i:Int):Option Nat:=if 0<=i then(if i<n then some i.toNat else none) else if -(n:Int)<=i then some (i+n).toNat else none
noncomputable def item(x i:D):Option D:=
 match x,i with
 | .lst xs,.int k=>(cu xs.length k).bind λj=>xs[j]?
 | .tup xs,.int k=>(cu xs.length k).bind λj=>xs[j]?
 |_,_=>none
noncomputable def bound(n d:Nat):Option Int->Nat
 |none=>d
 |some v=>(if v<0 then max (v+(n:Int)) 0 else min v (n:Int)).toNat
noncomputable def iR(xs:List D)(lo hi:Option Int):List D:=(xs.drop (bound xs.length 0 lo)).take (bound xs.length xs.length hi-bound xs.length 0 lo)
noncomputable def insI(x:Int):List Int->List Int
 |[]=>[x]
 |y::r=>if x<=y then x::y::r else y::insI x r
noncomputable def sortI:List Int->List Int
 |[]=>[]
 |x::r=>insI x (sortI r)
noncomputable def iS:List D->Option (List (List Int))
 |[]=>some []
 | .tup xs::r=>(aB xs).bind λk=>if k=[] then none else(iS r).map (k:: ·)
 |_::_=>none
noncomputable def uq(k:List Int):D:= .tup (k.map .int)
noncomputable def iw:Int->List Int->Int
 |a,[]=>a
 |a,b::r=>iw (if b<a then b else a) r
noncomputable def seq:D->Option (List D)
 | .lst xs=>some xs
 | .tup xs=>some xs
 |_=>none
noncomputable def prim(p:uo)(xs:List D):Option D:=
 match p with
 | .len =>match xs with
  |[x]=>(seq x).map λys=> .int ys.length
  |_=>none
 | .tuple =>match xs with
  |[x]=>(seq x).map .tup
  |_=>none
 | .list =>match xs with
  |[x]=>(seq x).map .lst
  |_=>none
 | .min =>match xs with
  |[x]=>(seq x).bind λys=>match aB ys with
   |some ns=>match ns with|[]=>none|a::r=>some (.int (iw a r))
   |none=>match x with
    | .lst zs=>(iS zs).bind λks=>match ks with|[]=>none|a::r=>some (uq (cN.iu a r))
    |_=>none
  |_=>none
 | .sorted =>match xs with
  |[x]=>(seq x).bind λys=>(aB ys).bind λns=>if ns.length<64 then some (.lst ((sortI ns).map .int)) else none
  |_=>none
 | .all =>match xs with
  |[x]=>match x with
   | .lst ys=>(eF ys).map λbs=> .bl (bs.all id)
   |_=>none
  |_=>none
 | .str =>match xs with
  |[.int i]=>if i.natAbs.log2<1920 then some (.str (Str.ofString (toString i))) else none
  |_=>none
noncomputable def eA(k:Int):List Int->Option Nat
 |[]=>none
 |n::r=>if n=k then some 0 else(eA k r).map (· + 1)
noncomputable def fj(m:Si)(o:D)(xs:List D):Option D:=
 match m,o,xs with
 | .index,.tup ys,[.int k]=>(aB ys).bind λns=>(eA k ns).map λ(i:Nat)=> .int (i:Int)
 |_,_,_=>none
noncomputable def bA(lo:Int):Nat->List D
 |0=>[]
 |n+1=> .int lo::bA (lo+1) n
noncomputable def dn(xs:List D):Option (List D):=
 match xs with
 |[.int n]=>if -(2 ^ 62)<=n/\n<=bj then some (bA 0 n.toNat) else none
 |_=>none
noncomputable def bO(k:Int):List D->List D
 |[]=>[]
 |x::r=> .tup [.int k,x]::bO (k+1) r
noncomputable def aG(tg:Nat)(x:D):Option (List D):=
 match tg with
 |0=>some [x]
 |n+1=>match x with
  | .tup xs=>if xs.length=n+1 then some xs else none
  |_=>none
noncomputable def zw(ρ:Env)(fr:List Nat):Env:=fr.map λi=>(ρ[i]?).join
noncomputable def Sl:D->Option Bool
 | .bl b=>some b
 |_=>none
noncomputable def walk(f:D->Option (Option D)):List D->Option (List D)
 |[]=>some []
 |x::r=>match f x with
  |none=>none
  |some none=>walk f r
  |some (some y)=>(walk f r).map (y:: ·)
noncomputable def eX:D->Option Bool
 | .bl b=>some b
 |_=>none
noncomputable def yE:D->Option Int
 | .int i=>some i
 |_=>none
noncomputable def Fx(t:Ty):D->Option Bool
 | .dj =>some false
 | .bl _=>some (match t with| .tuple =>false|_=>true)
 | .int _=>some (match t with| .int =>true|_=>false)
 | .str _=>some false
 | .tup _=>some (match t with| .tuple =>true|_=>false)
 | .lst _=>some false
 | .bz _ _ _=>none
noncomputable def cutD(x:D)(l h:Option Int):Option D:=
 match x with
 | .lst xs=>some (.lst (iR xs l h))
 | .tup xs=>some (.tup (iR xs l h))
 |_=>none
noncomputable def Ll(x:D):Option D:=
 match x with
 | .tup xs=>some (.tup xs.reverse)
 |_=>none
noncomputable def ml(p:uo)(xs:List D):Option D:=
 match p with
 | .list =>some (.lst xs)
 | .tuple =>some (.tup xs)
 |_=>none
noncomputable def inner(ys:List D)(ρ:Env)(fr:List Nat):Env:=ys.map (λy=>some (false,y))++zw ρ fr
mutual
noncomputable def ev(F:FT):Bool->E->Env->Option D
 |b,.var i,ρ=>rd b ρ i
 |_,.c d,_=>some d
 |_,.bin o a b,ρ=>(ev F true a ρ).bind λx=>(ev F true b ρ).bind λy=>bin o x y
 |_,.cmp o a b,ρ=>(ev F true a ρ).bind λx=>(ev F true b ρ).bind λy=>(cmp o x y).map .bl
 |_,.f_ k es,ρ=>(fm F k es ρ).map .bl
 |_,.not a,ρ=>((ev F false a ρ).bind eX).map λk=> .bl !k
 |_,.neg a,ρ=>((ev F false a ρ).bind yE).map λi=> .int (-i)
 |_,.fQ a t,ρ=>((ev F false a ρ).bind (Fx t)).map .bl
 |_,.chain o o' a b c,ρ=>(ev F true a ρ).bind λx=>(ev F true b ρ).bind λy=>(cmp o x y).bind λk=>if k then(ev F true c ρ).bind λz=>(cmp o' y z).map .bl else some (.bl false)
 |_,.rev a,ρ=>(ev F true a ρ).bind Ll
 |_,.tup es,ρ=>(cc F false es ρ).bind λxs=>if xs.length<=bj then some (.tup xs) else none
 |_,.lst es,ρ=>(cc F false es ρ).bind λxs=>if xs.length<=bj then some (.lst xs) else none
 |_,.idx a i,ρ=>(ev F true a ρ).bind λx=>(ev F false i ρ).bind λk=>item x k
 |_,.sl a lo hi,ρ=>(ev F true a ρ).bind λx=>(Fy F lo ρ).bind λl=>(Fy F hi ρ).bind λh=>cutD x l h
 |_,.call f es,ρ=>(cc F true es ρ).bind λxs=>(F f xs).bind λd=>if lz ρ es&&!aC d then none else some d
 |_,.prim p es,ρ=>(cc F true es ρ).bind λxs=>prim p xs
 |_,.gW p es,ρ=>((cc F false es ρ).bind dn).bind (ml p)
 |_,.fj m o es,ρ=>(ev F true o ρ).bind λx=>(cc F true es ρ).bind λxs=>fj m x xs
 |_,.comp fr tg it ifs dQ,ρ=>(lA F true it ρ).bind λxs=>if xs.length<=bj then(walk (λx=>(aG tg x).bind λys=>
   (fm F true ifs (inner ys ρ fr)).bind λk=>if k then(ev F false dQ (inner ys ρ fr)).map some else some none) xs).map .lst else none
 |_,.dC i k,ρ=>(gv ρ i).bind λd=>((ev F false k ρ).bind (dD d.1)).bind λx=>iQ d.2.1 d.2.2 x
 |_,.vw neg k i,ρ=>((ev F false k ρ).bind λy=>(gv ρ i).bind λd=>(dD d.1 y).map λx=> .bl (if neg then !decide (x∈d.2.1) else decide (x∈d.2.1)))
 |_,.eE i,ρ=>(gv ρ i).bind λd=>if d.1=0 then(if d.2.1.length<64 then some (.lst ((sortI (d.2.1.map λk=>k.headD 0)).map .int)) else none)
   else if []∈d.2.1 then none else some (.lst ((cN.fg d.2.1).map uq))
 |_,.nil,_=>none
 |_,.cons _ _,_=>none
 |_,.eL _,_=>none
 |_,.CH _,_=>none
 |_,.it _,_=>none
 |_,.dk _,_=>none
 |_,.dv _,_=>none
noncomputable def cc(F:FT):Bool->E->Env->Option (List D)
 |_,.nil,_=>some []
 |b,.cons a r,ρ=>(ev F b a ρ).bind λx=>(cc F b r ρ).bind λxs=>some (x::xs)
 |_,_,_=>none
noncomputable def Fy(F:FT):E->Env->Option (Option Int)
 | .nil,_=>some none
 | .cons a _,ρ=>((ev F false a ρ).bind yE).map some
 |_,_=>none
noncomputable def fm(F:FT):Bool->E->Env->Option Bool
 |k,.nil,_=>some k
 |k,.cons a r,ρ=>((ev F false a ρ).bind eX).bind λx=>if x=k then fm F k r ρ else some x
 |_,_,_=>none
noncomputable def lA(F:FT):Bool->E->Env->Option (List D)
 |_,.eL es,ρ=>(cc F false es ρ).bind dn
 |b,.CH a,ρ=>(ev F b a ρ).bind λx=>(seq x).map (bO 0)
 |b,.it a,ρ=>(ev F b a ρ).bind seq
 |_,.dk i,ρ=>keysAt ρ i
 |_,.dv i,ρ=>pV ρ i
 |_,_,_=>none
end
inductive C where
 |skip|seq (a b:C)
 |asg (i:Nat) (e:E)
  |cU (i:Nat) (e:E)
 |mr (i:Nat) (ix e:E)
 |app (i:Nat) (e:E)
 |ret (e:E)
  |Lm (i:Nat) (e:E)
 |ifs (c:E) (t u:C)
 |while (c:E) (b:C)
 |for (is:List Nat) (tg:Nat) (it:E) (b:C)
  |pW (i:Nat) (t:Nat) (es:E)
  |rA (i:Nat) (k e:E)
  |pop (i j:Nat)
  |ext (i:Nat) (e:E)
  |fst (x:Nat) (fr:List Nat) (it k v:E) (c1:C) (y r f:Nat) (c2:C) (m:Nat) (c3:C) (p q u:E) (g:Nat) (w:E)
 deriving Inhabited
inductive lB where
 |next (ρ:Env)|brk (ρ:Env)|cont (ρ:Env)|ret (d:D)
 deriving Inhabited
noncomputable def put(ρ:Env)(i:Nat)(o:Bool)(d:D):Env:=ρ.set i (some (o,d))
noncomputable def dq(ρ:Env):List Nat->List D->Option Env
 |[],[]=>some ρ
 |i::is,d::ds=>dq (put ρ i false d) is ds
 |_,_=>none
noncomputable def iD:Nat:=1000000
noncomputable def jo(c:Env->Option Bool)(b:Env->Option lB):Nat->Env->Option lB
 |0,_=>none
 |n+1,ρ=>(c ρ).bind λk=>if k then(b ρ).bind λo=>match o with
   | .next ρ'=>jo c b n ρ'
   | .cont ρ'=>jo c b n ρ'
   | .brk ρ'=>some (.next ρ')
   | .ret d=>some (.ret d)
  else some (.next ρ)
noncomputable def aO(b:D->Env->Option lB):List D->Env->Option lB
 |[],ρ=>some (.next ρ)
 |x::r,ρ=>(b x ρ).bind λo=>match o with
   | .next ρ'=>aO b r ρ'
   | .cont ρ'=>aO b r ρ'
   | .brk ρ'=>some (.next ρ')
   | .ret d=>some (.ret d)
noncomputable def du(it:E)(ρ:Env):Env:=
 match it with
 | .it (.var i)=>match ρ[i]? with
  |some (some (true,.lst xs))=>ρ.set i (some (false,.lst xs))
  |_=>ρ
 | .CH (.var i)=>match ρ[i]? with
  |some (some (true,.lst xs))=>ρ.set i (some (false,.lst xs))
  |_=>ρ
 |_=>ρ
noncomputable def jq(ρ:Env)(i:Nat):Option (List D):=
 match ρ[i]? with
 |some (some (true,.lst xs))=>some xs
 |_=>none
noncomputable def zx(ρ:Env)(i:Nat):Option Sj:=
 match ρ[i]? with
 |some (some (true,.bz t ks vs))=>if t=2 then none else some (t,ks,vs)
 |_=>none
noncomputable def zy(T:List D)(q:Nat)(k:List Int)(v:D):Option (List D):=
 match T[q]? with
 |some (.bz 0 ks vs)=>if ks.length<bj/\k∉ks then some (T.set q (.bz 0 (ks++[k]) (vs++[v]))) else none
 |_=>none
noncomputable def ur:D:= .bz 2 [] []
noncomputable def jr(ρ:Env)(x:Nat):Bool:=
 match ρ[x]? with
 |some (some (true,.bz t [] []))=>t==2
 |_=>false
noncomputable def rB(ρ:Env):Bool:=ρ.all λo=>match o with
 |some (_,d)=>!mj d
 |none=>true
noncomputable def js(F:FT)(x y r f:Nat)(c2:Env->Option lB)(m:Nat)(c3:Env->Option lB)(p q u:Env->Option D)(g:Nat)(w:Env->Option D)(T:List D)(ρ:Env)(l:List D):Option (List D×Env):=
 (l.getLast?).bind λz=>(F f [.lst T,z]).bind λd=>if aC z&&aC d then
  (c2 (put (put ρ y true (.lst l.dropLast)) r false d)).bind λo=>match o with
  | .next Ln=>if jr Ln x then(kT Ln m).bind λms=>if ms.isEmpty then some (T,Ln) else(c3 Ln).bind λo=>match o with
   | .next yF=>if jr yF x then(u yF).bind λuv=>if aC uv then((p yF).bind yE).bind λpi=>(cu T.length pi).bind λpq=>((q yF).bind (dD 0)).bind λkk=>(zy T pq kk uv).bind λT'=>
     (w yF).bind λwv=>if aC wv then(F g [.lst T',wv]).bind λzd=>match zd with
     | .lst zs=>if aR zs then(jq yF y).bind λws=>if ws.length+zs.length<=bj then some (T',put yF y true (.lst (ws++zs))) else none else none
     |_=>none
     else none
    else none
    else none
   |_=>none
   else none
  |_=>none
 else none
noncomputable def gw(tn:List D->Env->List D->Option (List D×Env))(y:Nat):Nat->List D->Env->Option (List D)
 |0,_,_=>none
 |n+1,T,ρ=>(jq ρ y).bind λl=>if l.isEmpty then some T else(tn T ρ l).bind λs=>gw tn y n s.1 s.2
noncomputable def rC(k v:Env->Option D)(fr:List Nat)(ρ:Env)(x:D):Option (Option D):=
 ((k (inner [x] ρ fr)).bind (dD 0)).bind λkk=>(v (inner [x] ρ fr)).bind λd=>if aC d then some (some (.bz 0 [kk] [d])) else none
noncomputable def ex(F:FT):C->Env->Option lB
 | .skip,ρ=>some (.next ρ)
 | .seq a b,ρ=>(ex F a ρ).bind λo=>match o with
  | .next ρ'=>ex F b ρ'
  |o=>some o
 | .asg i e,ρ=>(ev F false e ρ).map λd=> .next (put ρ i false d)
 | .cU i e,ρ=>(ev F false e ρ).bind λd=>match d with
  | .lst xs=>some (.next (put ρ i true (.lst xs)))
  |_=>none
 | .mr i ix e,ρ=>(ev F false e ρ).bind λd=>((ev F false ix ρ).bind yE).bind λk=>match ρ[i]? with
  |some (some (true,.lst xs))=>(cu xs.length k).map λj=> .next (put ρ i true (.lst (xs.set j d)))
  |_=>none
 | .app i e,ρ=>(ev F false e ρ).bind λd=>match ρ[i]? with
  |some (some (true,.lst xs))=>if xs.length<bj then some (.next (put ρ i true (.lst (xs++[d])))) else none
  |_=>none
 | .ret e,ρ=>(ev F true e ρ).map .ret
 | .Lm i e,ρ=>(ev F true e (du (.it (.var i)) ρ)).map .ret
 | .ifs c t u,ρ=>((ev F false c ρ).bind eX).bind λk=>if k then ex F t ρ else ex F u ρ
 | .while c b,ρ=>jo (λρ=>(ev F false c ρ).bind eX) (ex F b) iD ρ
 | .for is tg it b,ρ=>(lA F false it (du it ρ)).bind λxs=>aO (λx ρ=>(aG tg x).bind λys=>(dq ρ is ys).bind λρ'=>ex F b ρ') xs (du it ρ)
 | .pW i t es,ρ=>if t=2 then none else((cc F false es ρ).bind (zu t)).map λd=> .next (put ρ i true d)
 | .rA i k e,ρ=>(ev F false e ρ).bind λy=>(zx ρ i).bind λd=>((ev F false k ρ).bind (dD d.1)).bind λx=>
   if d.2.1.length<bj/\x∉d.2.1 then some (.next (put ρ i true (.bz d.1 (d.2.1++[x]) (d.2.2++[y])))) else none
 | .pop i j,ρ=>(jq ρ j).bind λl=>(l.getLast?).map λz=> .next (put (put ρ j true (.lst l.dropLast)) i false z)
 | .ext i e,ρ=>(ev F false e ρ).bind λd=>match d with
  | .lst zs=>(jq ρ i).bind λws=>if ws.length+zs.length<=bj then some (.next (put ρ i true (.lst (ws++zs)))) else none
  |_=>none
 | .fst x fr it k v c1 y r f c2 m c3 p q u g w,ρ=>(lA F true it ρ).bind λxs=>if xs.length<=bj/\x≠y/\x<ρ.length/\rB ρ=true then(walk (rC (ev F false k) (ev F false v) fr ρ) xs).bind λT=>
   (ex F c1 (put ρ x true ur)).bind λo=>match o with
   | .next rD=>if jr rD x then(gw (js F x y r f (ex F c2) m (ex F c3) (ev F false p) (ev F false q) (ev F false u) g (ev F false w)) y iD T rD).map λT=> .ret (.lst T) else none
   |_=>none
  else none
def jt:ev F b (.var i) ρ=rd b ρ i:=rfl
def vC:ev F m (.c d) ρ=some d:=rfl
def rE:ev F m (.bin o a b) ρ=(ev F true a ρ).bind λx=>(ev F true b ρ).bind λy=>bin o x y:=rfl
def nY:ev F m (.cmp o a b) ρ=(ev F true a ρ).bind λx=>(ev F true b ρ).bind λy=>(cmp o x y).map .bl :=rfl
def Lp:ev F m (.f_ k es) ρ=(fm F k es ρ).map .bl :=rfl
def PL:ev F m (.not a) ρ=((ev F false a ρ).bind eX).map λk=> .bl !k:=rfl
def pX:ev F m (.tup es) ρ=(cc F false es ρ).bind λxs=>if xs.length<=bj then some (.tup xs) else none:=rfl
def zA:ev F m (.lst es) ρ=(cc F false es ρ).bind λxs=>if xs.length<=bj then some (.lst xs) else none:=rfl
def rF:ev F m (.idx a i) ρ=(ev F true a ρ).bind λx=>(ev F false i ρ).bind λk=>item x k:=rfl
def JX:ev F m (.sl a l h) ρ=(ev F true a ρ).bind λx=>(Fy F l ρ).bind λl=>(Fy F h ρ).bind λh=>cutD x l h:=rfl
def uu:ev F m (.call f es) ρ=(cc F true es ρ).bind λxs=>(F f xs).bind λd=>if lz ρ es&&!aC d then none else some d:=rfl
def j8:ev F m (.prim p es) ρ=(cc F true es ρ).bind λxs=>prim p xs:=rfl
def xE:ev F m (.gW p es) ρ=((cc F false es ρ).bind dn).bind (ml p):=rfl
def Lq:ev F m (.comp fr tg it ifs dQ) ρ=(lA F true it ρ).bind λxs=>if xs.length<=bj then(walk (λx=>(aG tg x).bind λys=>
   (fm F true ifs (inner ys ρ fr)).bind λk=>if k then(ev F false dQ (inner ys ρ fr)).map some else some none) xs).map .lst else none:=rfl
def Lr:ev F m (.dC i k) ρ=(gv ρ i).bind λd=>((ev F false k ρ).bind (dD d.1)).bind λx=>iQ d.2.1 d.2.2 x:=rfl
def PM:ev F m (.vw n k i) ρ=((ev F false k ρ).bind λy=>(gv ρ i).bind λd=>(dD d.1 y).map λx=> .bl (if n then !decide (x∈d.2.1) else decide (x∈d.2.1))):=rfl
def xF:ex F .skip ρ=some (.next ρ):=rfl
def bP:ex F (.seq a b) ρ=(ex F a ρ).bind λo=>match o with
  | .next ρ'=>ex F b ρ'
  |o=>some o:=rfl
def uw:ex F (.asg i e) ρ=(ev F false e ρ).map λd=> .next (put ρ i false d):=rfl
def xG:ex F (.cU i e) ρ=(ev F false e ρ).bind λd=>match d with
  | .lst xs=>some (.next (put ρ i true (.lst xs)))
  |_=>none:=rfl
def CI:ex F (.mr i x e) ρ=(ev F false e ρ).bind λd=>((ev F false x ρ).bind yE).bind λk=>match ρ[i]? with
  |some (some (true,.lst xs))=>(cu xs.length k).map λj=> .next (put ρ i true (.lst (xs.set j d)))
  |_=>none:=rfl
def Ls:ex F (.app i e) ρ=(ev F false e ρ).bind λd=>match ρ[i]? with
  |some (some (true,.lst xs))=>if xs.length<bj then some (.next (put ρ i true (.lst (xs++[d])))) else none
  |_=>none:=rfl
def mz:ex F (.ret e) ρ=(ev F true e ρ).map .ret :=rfl
def ju:ex F (.ifs c t u) ρ=((ev F false c ρ).bind eX).bind λk=>if k then ex F t ρ else ex F u ρ:=rfl
def zB:ex F (.for l g t b) ρ=(lA F false t (du t ρ)).bind λxs=>aO (λx ρ=>(aG g x).bind λys=>(dq ρ l ys).bind λρ'=>ex F b ρ') xs (du t ρ):=rfl
def PN:ex F (.ext i e) ρ=(ev F false e ρ).bind λd=>match d with
  | .lst zs=>(jq ρ i).bind λws=>if ws.length+zs.length<=bj then some (.next (put ρ i true (.lst (ws++zs)))) else none
  |_=>none:=rfl
structure Fd where
 par:Nat
 kU:Nat
 body:C
 deriving Inhabited
noncomputable def ai(d:Fd)(xs:List D):Env:=xs.map (λx=>some (false,x))++List.replicate (d.kU-d.par) none
noncomputable def out:Option lB->Option D
 |some (.ret d)=>some d
 |some (.next _)=>some .dj
 |_=>none
noncomputable def run(P:List Fd):Nat->FT
 |0,_,_=>none
 |n+1,f,xs=>match P[f]? with
  |some d=>if xs.length=d.par then out (ex (run P n) d.body (ai d xs)) else none
  |none=>none
end Py
namespace L2
open PySem PyProof.Rows
def rG(val:Nat->Int):∀(k:Nat),∀(ns:List Int),(∀i,i<k->ns[i]?=some (val (i+1)))->val (argBest (λi j=>decide (val i<val j)) k)=Py.iw (val 0) (ns.take k):=by
 have snoc:∀(ns:List Int) (a b:Int),Py.iw a (ns++[b])=if b<Py.iw a ns then b else Py.iw a ns:=by
  intro ns
  induction ns with
  |nil=>intro a b;rfl
  |cons x ns ih=>intro a b;exact ih _ b
 intro k
 induction k with
 |zero=>intro ns _;rfl
 |succ k ih=>
  intro ns h
  have hk:=h k (YW k)
  have Hl:=ih ns λi hi=>h i (YQ hi)
  have e:ns.take (k+1)=ns.take k++[val (k+1)]:=by
   rw[List.take_add_one,hk];rfl
  rw[e,snoc,<-Hl]
  show val (if(decide (val (k+1)<val (argBest _ k)))=true then k+1 else argBest _ k)=_
  by_cases c:val (k+1)<val (argBest (λi j=>decide (val i<val j)) k)
  .rw[Xs (decide_eq_true c),Xs c]
  .rw[Xx (by simpa using c),Xx c]
def ints_get:∀{vs:List Value}{ns:List Int},IntsAre vs ns->∀(i:Nat) (v:Value),vs[i]?=some v->∃t,v= .int (ns.getD i 0) t:=λ{vs ns} h=>by
 induction h with
 |nil=>intro i v h;simp at h
 |cons n t r ih=>
  intro i v h
  cases i with
  |zero=>simp at h;subst h;exact⟨t,rfl⟩
  |succ i=>
   obtain⟨t',e⟩:=ih i v (by simpa using h)
   exact⟨t',by simpa using e⟩
section
variable {prog:Program}{w:World}{A:Around}{E:Value->Shared->Prop}{s:Shared}{l:Addr}
def kW(hh:A.handled=none)(hl:s.heap.IsList l vs.toArray\/IsTup s.heap l vs.toArray)(hi:IntsAre vs (n::ns))
  (h:∀h' tk t,(∀b o,s.heap.get? b=some o->h'.get? b=some o)->Q (.int (Py.iw n ns) t) {s with heap:=h',toks:=tk}):wpAny (model prog w) A (call (.builtin "min") [.ref l]) Q E s:=by
 have len:=hi.length
 have Hn:∀(i:Nat) (v:Value),vs.toArray[i]?=some v->∃t,v=Value.int ((n::ns).getD i 0) t:=λi v e=>ints_get hi i v (by simpa using e)
 have best:(n::ns).getD (argBest (λi j=>decide ((n::ns).getD i 0<(n::ns).getD j 0)) ns.length) 0=Py.iw n ns:=by
  have:=rG (λi=>(n::ns).getD i 0) ns.length ns (λi hi=>by simp[hi])
  simpa using this
 have fin:∀(v:Value) (h':Heap) (tk:Nat),vs.toArray[argBest (λi j=>decide ((n::ns).getD i 0<(n::ns).getD j 0)) (vs.toArray.size-1)]?=some v->(∀b o,s.heap.get? b=some o->h'.get? b=some o)->Q v {s with heap:=h',toks:=tk}:=λv h' tk hP hk=>by
  have e:vs.toArray.size-1=ns.length:=by rw[Xh,len];simp
  rw[e]at hP
  obtain⟨t,rfl⟩:=Hn _ v hP
  rw[best]
  exact h h' tk t hk
 have pos:0<vs.toArray.size:=by rw[Xh,len];simp
 rcases hl with hl|hl
 .have bJ:l<s.heap.objs.size:=by obtain⟨_,e,_⟩:=hl;exact Xm e
  refine call_min_walk (Zt hl ?_)
  refine⟨_,[_,l],[_],_,_,_,_,rfl,Walks.list (A:=A.in1) hh s.heap.objs.size l (XD bJ) vs.toArray,⟨⟨_,Xp _ rfl,rfl,rfl⟩,hl.push _⟩,λb hb=>?_,pos,CmpOf.ints_lt (λi=>(n::ns).getD i 0) Hn,λv h' tk hP hk=>fin v h' tk hP λb o e=>hk b o ?_ (W8 _ e)⟩
  .show b<(s.heap.push _).objs.size
   rw[YG]
   rcases Xl.mp hb with rfl|hb
   .exact YW _
   .rw[Xc.mp hb];exact YQ bJ
  .intro hm
   rw[Xc.mp hm]at e
   exact absurd (Xm e) (X2 _)
 .have xi:s.heap.IsTuple l vs.toArray:=hl
  have bJ:l<s.heap.objs.size:=by obtain⟨_,e,_⟩:=hl;exact Xm e
  refine call_min_walk (Zi xi ?_)
  refine⟨_,[_,l],[_],_,_,_,_,rfl,Walks.tuple (A:=A.in1) hh s.heap.objs.size l (XD bJ) vs.toArray,⟨⟨_,Xp _ rfl,rfl,rfl⟩,xi.push _⟩,λb hb=>?_,pos,CmpOf.ints_lt (λi=>(n::ns).getD i 0) Hn,λv h' tk hP hk=>fin v h' tk hP λb o e=>hk b o ?_ (W8 _ e)⟩
  .show b<(s.heap.push _).objs.size
   rw[YG]
   rcases Xl.mp hb with rfl|hb
   .exact YW _
   .rw[Xc.mp hb];exact YQ bJ
  .intro hm
   rw[Xc.mp hm]at e
   exact absurd (Xm e) (X2 _)
end
open PySem.Spec
open AutoSeq1 (wpAny_loadPart')
noncomputable abbrev rH(l:Addr):Obj:={cls:= .type "tuple_iterator",data:= .fields #[.ref l,.int 0 0]}
noncomputable abbrev Ho(it:Addr):Obj:={cls:= .type "enumerate",data:= .fields #[.none,.bool false,.ref it,rawInt 0,.none,.none]}
def rJ(l:Addr)(items:Array Value)(n:Nat)(Lu:Option Addr)(sl:Array (Option Value)):
  Meets (Builtin.«enumerate.__new__» ⟨[.type "enumerate",.ref l],[]⟩) (λ_ R s=>s.heap.get? l=some {cls:= .type "tuple",dict:=Lu,data:= .seq items n,slots:=sl}/\
   R (.ok (.ret (.ref (s.heap.push (rH l)).objs.size))) {s with heap:=(s.heap.push (rH l)).push (Ho s.heap.objs.size)}):=
 .of_wp λprog w A R s h=>by
  obtain⟨hp,g,d,tk,os⟩:=s
  obtain⟨hl,h⟩:=h
  have sb:=sub_enumerate
  have hL:Heap.IsTuple (Shared.heap ⟨hp,g,d,tk,os⟩) l items:=⟨_,hl,rfl,n,rfl⟩
  wp_walk using YJ hl
  refine wpAny_stack_any λst=>Xe ?_
  split
  .rename_i c _ _ _ _ _
   cases (c==Value.type "enumerate")
   .wp_walk using YJ hl,Zi hL
    exact⟨_,rfl,h⟩
   .wp_walk using YJ hl,Zi hL
    exact⟨_,rfl,h⟩
  .wp_walk using YJ hl,Zi hL
   exact⟨_,rfl,h⟩
section
variable {prog:Program}{w:World}{A:Around}{E:Value->Shared->Prop}{s:Shared}
def ux(hL:s.heap.IsTuple l items)
  (h:∀h',IsEnum h' (s.heap.objs.size+1) s.heap.objs.size 0 .none ->h'.IsTupleIter s.heap.objs.size l 0->h'.objs.size=s.heap.objs.size+2->
   (∀b o,s.heap.get? b=some o->h'.get? b=some o)->Q (.ref (s.heap.objs.size+1)) {s with heap:=h'}):
  wpAny (model prog w) A (call (.type "enumerate") [.ref l]) Q E s:=by
 refine ao λnO=>?_
 obtain⟨⟨c,Lu,dt,sl⟩,hl,hc,n,hd⟩:=hL
 have nK:c= .type "tuple":=hc
 have nJ:dt= .seq items n:=hd
 subst nK nJ
 refine nO ?_
 refine callType_new F.called_enumerate (by decide) (F.typeCall_enumerate_1 _) (F.newCall_enumerate_1 _) (λobj=>F.args_object_init_2 obj _) F.entry_enumerate_new (rJ l items n Lu sl) ⟨hl,?_⟩
 have hz:(s.heap.push (rH l)).objs.size =s.heap.objs.size+1:=YG ..
 have he:IsEnum ((s.heap.push (rH l)).push (Ho s.heap.objs.size)) (s.heap.objs.size+1) s.heap.objs.size 0 .none :=by
  have q:=Xp (s.heap.push (rH l)) (o:=Ho s.heap.objs.size) rfl
  rw[hz]at q
  exact q
 show _/\_
 rw[hz]
 exact⟨⟨_,he,rfl⟩,h _ he ⟨_,W8 _ (Xp _ rfl),rfl,rfl⟩ (by rw[YG,hz]) λb o x=>W8 _ (W8 _ x)⟩
def rK(uy:s.heap.IsTupleIter it l i)(hl:s.heap.IsTuple l items)(hx:items[i]?=some x)
  (hQ:∀h',h'.IsTupleIter it l (i+1)->Heap.SameBut it s.heap h'->Q x {s with heap:=h'}):wpAny (model prog w) A (Builtin.SmallTypes.nextOf (.ref it)) Q E s:=by
 refine bF (id uy) λo ho hc hd=>?_
 obtain⟨ol,PQ,_,nl,PR⟩:=hl
 unfold Builtin.SmallTypes.nextOf
 refine W6 (Yn (name:=Str.ofString "__next__") uy.typeIs YV (Yk YV uy.typeIs aah ?_ (aaf _)))
 show wpAny _ _ (field (.ref it) 0 >>= _) _ _ s
 refine W6 (Y' ho hd (x:= .ref l) rfl ?_)
 first
  |(show wpAny _ _ (if(Value.ref l==Value.none)=true then _ else _) _ _ s;rw[Xx (show¬((Value.ref l==Value.none)=true) from Xa)])
  |skip
 show wpAny _ _ (field (.ref it) 1 >>= _) _ _ s
 refine W6 (Y' ho hd (x:= .int i 0) rfl ?_)
 show wpAny _ _ (seqItems? (.ref l) >>= _) _ _ s
 refine W6 (Z5 PQ PR ?_)
 simp only[Yd,hx]
 refine W6 (Z6 ho hd (by simp) (Xe ⟨x,rfl,Xe (hQ _ ⟨_,YY _ ho (Obj.isFreed_of_fields (ZO hd _)),(Obj.cls_mapFields ..).trans hc,?_⟩ (ZG ..))⟩))
 rw[ZO hd]
 simp[rawInt]
def rL(hh:A.handled=none)(uy:s.heap.IsTupleIter it l i)(hl:s.heap.IsTuple l items)(hx:items[i]?=none)
  (hE:∀h' e,Heap.ExtBut it s.heap h'->(∃o,h'.get? e=some o/\o.cls= .type "StopIteration")->E (.ref e) {s with heap:=h'}):wpAny (model prog w) A (Builtin.SmallTypes.nextOf (.ref it)) Q E s:=by
 refine bF (id uy) λo ho hc hd=>?_
 obtain⟨ol,PQ,_,nl,PR⟩:=hl
 unfold Builtin.SmallTypes.nextOf
 refine W6 (Yn (name:=Str.ofString "__next__") uy.typeIs YV (Yk YV uy.typeIs aah ?_ (aaf _)))
 show wpAny _ _ (field (.ref it) 0 >>= _) _ _ s
 refine W6 (Y' ho hd (x:= .ref l) rfl ?_)
 first
  |(show wpAny _ _ (if(Value.ref l==Value.none)=true then _ else _) _ _ s;rw[Xx (show¬((Value.ref l==Value.none)=true) from Xa)])
  |skip
 show wpAny _ _ (field (.ref it) 1 >>= _) _ _ s
 refine W6 (Y' ho hd (x:= .int i 0) rfl ?_)
 show wpAny _ _ (seqItems? (.ref l) >>= _) _ _ s
 refine W6 (Z5 PQ PR ?_)
 simp only[Yd,hx]
 first
  |refine W6 (Zu (W6 (Z6 ho hd (by simp) ?_)))
  |refine W6 (Zu (W6 (Z6 ho hd (by simp) (W6 (aaQ ?_)))))
 show wpAny _ _ (newExc (.type "StopIteration") [] >>= _) _ _ _
 refine W6 ?_
 simp only[newExc,newTuple]
 refine W6 (XJ ?_ (by size_fits))
 refine W6 (m:=firstArgMember _ _) (wpAny_of_eq (a:=Value.none) (by first|rfl|(simp only[firstArgMember];rfl)) ?_)
 refine XJ ?_ (by size_fits)
 simp only[raiseNew]
 refine W6 (wpAny_handled ?_)
 first|rw[show A.in1.handled=none from hh]|rw[hh]
 exact W6 (Xe (wpAny_throw (hE _ _ (((ZG ..).extBut.push _).push _) ⟨_,Xp _ rfl,rfl⟩)))
end
def xH(hh:A.handled=none)(it l:Addr)(gx:l≠it)(items:Array Value):
  Draws prog w A it [it,l] items.size (λi v=>items[i]?=some v) (λi h=>h.IsTupleIter it l i/\h.IsTuple l items) where
 live:=λ_ _ st=>let ⟨o,ho,_⟩:=st.1;⟨o,ho⟩
 frame:=λ_ _ _ st hk=>⟨st.1.at λo e=>hk it (by simp) o e,st.2.at λo e=>hk l (by simp) o e⟩
 item:=λi s Q E hi st hQ=>rK st.1 st.2 (x:=items[i]) (by simp[hi]) λh' PU Fw=>hQ _ h' s.toks (by simp[hi]) ⟨PU,st.2.extBut Fw.extBut gx⟩ Fw
 done:=λs Q E st hE=>rL hh st.1 st.2 (by simp) hE
section
variable {X:Cx}{aa:List (Addr×Obj)}{σ:List (Option V)}{H H':Hp}{s:Shared}{h':Heap}
def Inv.vx{t':Nat}{ch:List Addr}(I:Inv X aa σ H s)(k:∀b o,b∉ch->s.heap.get? b=some o->h'.get? b=some o)(hf:∀b∈ch,lh X aa H b):Inv X aa σ H {s with heap:=h',toks:=t'}:=by
 have Kx:∀b u,H b=some u->b∉ch:=λb u e z=>by rw[(hf b z).1]at e;cases e
 refine I.step (g':=s.gens) (d':=s.drawn) (ch:=ch) (λb hb=>?_) (λb o _ _ hc e _=>k b o hc e) (λb o _ _ hc e _=>⟨o.slots,k b o hc e⟩) (λ_ _ _ _ n=>n)
  (λb o hc e=>⟨o,k b o hc e⟩) (λ_ _ e=>e) (λ_ _ _ e=>e) (λb ps e=>⟨#[],by rw[e];simp⟩) (λm hm=>?_) (λb u e=>?_) I.bare
 .exact va (hf b hb) λ_ f1 _ f3 f4 f5=>⟨f3,f1,f4,f5⟩
 .exact lG hm λo es ep ho r=>⟨o,es,ep,k _ o (λz=>(hf _ z).2.1 rfl) ho,r⟩
 .refine(I.aN b u e).nN (λc v hc q=>k c v ?_ q) (λ_ q=>q) λ_ _ q=>q
  rcases hc with z|z
  .rw[z];exact Kx b u e
  .exact Kx c _ z
end
structure Hq(K:PySem.W.Frag)(a it:Addr)(Sq:Hp->List V->Prop)(Lv:Heap->Array Value->Prop)(Hr:Nat->Heap->Prop):Prop where
 get:∀{X:Cx}{aa:List (Addr×Obj)}{σ:St}{H:Hp}{s:Shared}{xs:List V},X.K=K->Inv X aa σ H s->Sq H xs->∃its:List Value,aA xs its/\Lv s.heap its.toArray
 inj:∀{X:Cx}{aa:List (Addr×Obj)}{σ:St}{H:Hp}{s:Shared}{xs ys:List V},X.K=K->Inv X aa σ H s->Sq H xs->Sq H ys->xs=ys
 dr:∀(prog:Program) (w:World) (A:Around) (items:Array Value),A.handled=none->Draws prog w A it [it,a] items.size (λi v=>items[i]?=some v) (λi h=>Hr i h/\Lv h items)
 obj:∀{i:Nat}{h:Heap},Hr i h->∃o,h.get? it=some o/\∀v,o.data≠ .cell v
 at':∀{i:Nat}{h h':Heap},Hr i h->(∀o,h.get? it=some o->h'.get? it=some o)->Hr i h'
 ne:∀{h:Heap}{e:Addr}{i:Int}{old:Value}{items:Array Value},IsEnum h e it i old->Lv h items->e≠a
noncomputable def N6(Sq:Hp->List V->Prop):It:=
 ⟨λi H=>∃xs x,Sq H xs/\xs[i]?=some x,λi H x H'=>∃(t:Addr) (y:V),H t=none/\x= .ref t/\H'=upd H t (.tup [.int i,y])/\∀xs,Sq H xs->xs[i]?=some y,λi H=>∃xs,Sq H xs/\xs.length=i⟩
def oE{P:Program}{w:World}{K:PySem.W.Frag}{elts:List Expr}{k0:Nat}{tpos:Pos}{a it e:Addr}{Sq:Hp->List V->Prop}{Lv:Heap->Array Value->Prop}{Hr:Nat->Heap->Prop}(S:Hq K a it Sq Lv Hr)(gx:e≠it):
  rf P w K (.Tuple elts k0 tpos) (N6 Sq) [e,it] e (λi h=>(∃old,IsEnum h e it i old)/\Hr i h) where
 mem:=by simp
 obj:=λi h st b hb=>by
  obtain⟨⟨old,he⟩,hi⟩:=st
  rcases Xl.mp hb with rfl|hb
  .exact⟨_,he,λv z=>by cases z⟩
  .rw[Xc.mp hb];exact S.obj hi
 keep:=λi h h' st k=>⟨let ⟨old,he⟩:=st.1;⟨old,k e (by simp) _ he⟩,S.at' st.2 λo z=>k it (by simp) o z⟩
 item:=by
  intro X hP hw hK hc i aa s σ H E I hf st hg
  subst hP hw hK
  obtain⟨⟨old,he⟩,hi⟩:=st
  refine eW hg λxs x hq hx=>ab (S.get rfl I hq) λits rv hX=>ab (rv.get hx) λu hu ru=>?_
  have bJ:i<its.toArray.size:=by
   have:=(Xu.mp hu).1
   simpa using this
  have UN:e∉[it,a]:=λz=>by
   rcases Xl.mp z with z|z
   .exact gx z
   .exact S.ne he hX (Xc.mp z)
  refine wpAny_pyNext_enum_itemD (S.dr X.prog X.w X.A.in1 its.toArray (I.ok.hd hc)) he ⟨hi,hX⟩ bJ gx UN λv h' tk hP E4 pL hT hsz hk=>?_
  have hP:its.toArray[i]?=some v:=hP
  have ev:v=u:=by
   have q:its[i]?=some v:=by simpa using hP
   rw[hu]at q
   exact(Xw q).symm
  subst ev
  refine⟨_,rfl,wpAny_letOwnedTupleGo_enum E4 λN7 PV CJ=>?_⟩
  have CJ:Heap.SameBut e h' N7:=CJ
  have UO:e<s.heap.objs.size:=Xm he
  have ltI:it<s.heap.objs.size:=by obtain⟨o,ho,_⟩:=S.obj hi;exact Xm ho
  have I1:Inv X aa σ (upd H s.heap.objs.size (.tup [.int i,x])) {s with heap:=s.heap.push {cls:= .type "tuple",data:= .seq #[.int i tk,v]}}:=
   I.laid (t':=s.toks) (λb o z=>W8 _ z) (Xf _) ⟨by show 2<=sizeLine;decide,[.int i tk,v],.cons ⟨_,rfl⟩ (.cons ru .nil),ij.new s.heap _⟩
  have UP:H s.heap.objs.size=none:=I.aN.fresh (Xf _)
  have Lw:∀b∈[e,it],(upd H s.heap.objs.size (.tup [.int i,x])) b=none:=λb hb=>by
   have j6:b≠s.heap.objs.size:=by
    rcases Xl.mp hb with rfl|hb
    .exact XD UO
    .rw[Xc.mp hb];exact XD ltI
   rw[ak j6];exact(hf b hb).1
  have I2:Inv X aa σ (upd H s.heap.objs.size (.tup [.int i,x])) {s with heap:=N7,toks:=tk+1}:=by
   have key:∀b o,b∉[e,it]->(s.heap.push {cls:= .type "tuple",data:= .seq #[.int i tk,v]}).get? b=some o->N7.get? b=some o:=λb o hb z=>by
    have BQ:b≠e:=λq=>hb (by simp[q])
    have UQ:b≠it:=λq=>hb (by simp[q])
    refine(CJ.2 b BQ).trans ?_
    rcases Heap.get?_push_cases z with⟨rfl,rfl⟩|z
    .exact hT
    .exact hk b o BQ UQ z
   have J:=I1.vx (h':=N7) (t':=tk+1) (ch:=[e,it]) key λb hb=>⟨Lw b hb,(hf b hb).2⟩
   exact J
  refine⟨.ref s.heap.objs.size,_,I2,rfl,⟨s.heap.objs.size,x,UP,rfl,rfl,λys hy=>by rw[S.inj rfl I hy hq];exact hx⟩,⟨⟨v,?_⟩,S.at' pL.1 λo z=>(CJ.2 it (Ya gx)).trans z⟩,Lw⟩
  have:((i+1:Nat):Int)=(i:Int)+1:=by push_cast;rfl
  rw[this]
  exact PV
 done:=by
  intro X hP hw hK hc i aa s σ H E I hf st hg
  subst hP hw hK
  obtain⟨⟨old,he⟩,hi⟩:=st
  refine ab hg λxs hq ah=>?_
  try clear hg
  subst ah
  refine ab (S.get rfl I hq) λits rv hX=>?_
  have hl:xs.length=its.toArray.size:=by rw[Xh];exact rv.length
  rw[hl]at hi he
  refine wpAny_pyNext_enum_endD (S.dr X.prog X.w X.A.in1 its.toArray (I.ok.hd hc)) he ⟨hi,hX⟩ λh' hx=>⟨rfl,?_⟩
  exact I.vx (t':=s.toks) (ch:=[e,it]) (λb o hb z=>hx b o (λq=>hb (by simp[q])) z) hf
 self:=λ_ _ _ _ _ st h=>let ⟨⟨_,he⟩,_⟩:=st;aaC he h
def zC{K:PySem.W.Frag}{a it:Addr}(h:a≠it):Hq K a it (λH xs=>cT K H a xs) (λh xs=>h.IsTuple a xs) (λi h=>h.IsTupleIter it a i) where
 get:=λhK I q=>by subst hK;obtain⟨its,r,t,_⟩:=I.tuple q;exact⟨its,r,t⟩
 inj:=λhK I q q'=>by subst hK;exact I.oq q q'
 dr:=λprog w A items hh=>xH hh it a h items
 obj:=λzz=>bF zz λo e c d=>⟨o,e,λv z=>by rw[d]at z;cases z⟩
 at':=λst k=>st.at k
 ne:=λhe ⟨o,e,c,_⟩ z=>by subst z;rw[he]at e;cases e;injection c with c;exact absurd c (by decide)
def zD{K:PySem.W.Frag}{a it:Addr}(h:a≠it):Hq K a it (λH xs=>dI K H a xs) (λh xs=>h.IsList a xs) (λi h=>h.IsListIter it a i) where
 get:=λhK I q=>by subst hK;obtain⟨its,r,t,_⟩:=I.list q;exact⟨its,r,t.isList⟩
 inj:=λhK I q q'=>by subst hK;exact I.qZ q q'
 dr:=λprog w A items hh=>Draws.list hh it a h items
 obj:=λzz=>bF zz λo e c d=>⟨o,e,λv z=>by rw[d]at z;cases z⟩
 at':=λst k=>st.at k
 ne:=λhe ⟨o,e,c,_⟩ z=>by subst z;rw[he]at e;cases e;injection c with c;exact absurd c (by decide)
def PX(K:PySem.W.Frag)(ta:TA):TI:=λσ H R=>ta σ H λvs H1=>∃a xs,vs=[.ref a]/\((cT K H1 a xs/\R (N6 λH ys=>cT K H a ys) H1)\/(dI K H1 a xs/\R (N6 λH ys=>dI K H a ys) H1))
def CK{X:Cx}{a:Expr}{ta:TA}{p pos:Pos}{elts:List Expr}{k0:Nat}{tpos:Pos}(hg:Gl X "enumerate")(hm:X.mg "enumerate"=none)(ha:PA X [a] ta)(hs:starEach [a] X.env=[(false,eval a X.env)]:=by rfl):
  PI X (.Tuple elts k0 tpos) (.Call (.Name "enumerate" p) [a] [] pos) (PX X.K ta):=by
 intro aa s σ H R I h
 refine Call_ (j0 I hg hm PyProof.Rows.boot_enumerate (YR (aW (ha pos aa s σ H _ I h) λus s1 zz=>a_ zz λvs H1 I1 r1 q1=>?_) hs rfl))
 refine eW q1 λb xs ah q=>?_
 try clear q1
 subst ah
 cases r1 with
 |cons r rr=>
  cases rr
  cases r
  have fin:∀(h':Heap),h'.objs.size=s1.heap.objs.size+2->(∀b o,s1.heap.get? b=some o->h'.get? b=some o)->Inv X aa σ H1 {s1 with heap:=h'}/\∀c∈[s1.heap.objs.size+1,s1.heap.objs.size],lh X aa H1 c:=λh' _ hk=>by
   refine⟨I1.kept (t':=s1.toks) hk,λc hc=>?_⟩
   have zE:s1.heap.objs.size<=c:=by
    rcases Xl.mp hc with rfl|hc
    .exact Nat.le_succ _
    .rw[Xc.mp hc];exact Xf _
   exact I1.xk zE (I1.aN.fresh zE)
  rcases q with⟨hq,hR⟩|⟨hq,hR⟩
  .refine bF (I1.tuple hq) λits rv t _=>?_
   have ht:s1.heap.IsTuple b its.toArray:=t
   have hb:b≠s1.heap.objs.size:=by obtain⟨o,e,_⟩:=ht;exact XD (Xm e)
   refine ux ht λh' he uy hsz hk=>?_
   obtain⟨J1,J2⟩:=fin h' hsz hk
   exact aaC he ⟨s1.heap.objs.size+1,[s1.heap.objs.size+1,s1.heap.objs.size],_,_,H1,rfl,J1,oE (zC hb) (Nat.succ_ne_self _),⟨⟨_,he⟩,uy⟩,J2,hR⟩
  .refine bF (I1.list hq) λits rv t _=>?_
   have ht:s1.heap.IsList b its.toArray:=t.isList
   have hb:b≠s1.heap.objs.size:=by obtain⟨o,e,_⟩:=ht;exact XD (Xm e)
   refine call_enumerate_list ht λh' he uy hsz hk=>?_
   obtain⟨J1,J2⟩:=fin h' hsz hk
   exact aaC he ⟨s1.heap.objs.size+1,[s1.heap.objs.size+1,s1.heap.objs.size],_,_,H1,rfl,J1,oE (zD hb) (Nat.succ_ne_self _),⟨⟨_,he⟩,uy⟩,J2,hR⟩
section
variable {prog:Program}{w:World}{A:Around}{E:Value->Shared->Prop}{s:Shared}
theorem rM(gx:t≠it):∀(n i:Nat) (s:Shared) (Q:List Value->Shared->Prop),s.heap.IsListIter it t i->s.heap.IsList t items->i+n<=items.size->
  (∀h',h'.IsListIter it t (i+n)->Heap.SameBut it s.heap h'->Q ((items.toList.drop i).take n) {s with heap:=h'})->wpAny (model prog w) A (draw (.ref it) n) Q E s
 |0,i,s,Q,uy,_,_,hQ=>Xe (by simpa using hQ s.heap uy (Heap.SameBut.refl ..))
 |n+1,i,s,Q,uy,ht,zE,hQ=>by
  have bJ:i<items.size:=by lia
  show wpAny _ _ (pyNext (.ref it) >>= _) Q E s
  refine W6 (wpAny_pyNext_list_item uy ht (x:=items[i]) (by simp[bJ]) λh1 Hs JY=>?_)
  refine W6 (X6 (rM gx n (i+1) _ _ Hs (ht.extBut JY.extBut gx) (by lia) λh2 PY Lx=>Xe ?_))
  have hd:items.toList.drop i=items[i]::items.toList.drop (i+1):=by simp[X9,bJ]
  have q:=hQ h2 (by rw[show i+(n+1)=i+1+n by lia];exact PY) (JY.trans Lx)
  rw[hd,List.take_succ_cons]at q
  exact q
def lC(hh:A.handled=none)(ht:s.heap.IsList t items)
  (hQ:∀h',Heap.ExtBut s.heap.objs.size s.heap h'->Q items.toList {s with heap:=h'}):wpAny (model prog w) A (unpackItems (.ref t) items.size none) Q E s:=by
 have bJ:t≠s.heap.objs.size:=by obtain⟨o,ho,_⟩:=ht;exact XD (Xm ho)
 have push:∀o,(s.heap.push o).IsList t items:=λo=>by obtain⟨ol,e,r⟩:=ht;exact⟨ol,W8 _ e,r⟩
 unfold unpackItems
 refine W6 ?_
 unfold notIterableAtAll
 refine W6 (wpAny_specialOf ht.typeIs F.slot_list_iter.lookup (Xe ?_))
 simp only[Yr,if_false]
 refine W6 (X6 (Zt ht ?_))
 refine W6 (X6 (rM bJ items.size 0 _ _ ⟨_,Xp _ rfl,rfl,rfl⟩ (push _) (by lia) λh1 Hs JY=>?_))
 have rm:List.take items.size (List.drop 0 items.toList)=items.toList:=by
  rw[Zy];exact X3 (by simp)
 rw[rm,Xx (by simp)]
 have Ly:h1.IsList t items:=(push _).extBut JY.extBut bJ
 refine W6 (X6 (wpAny_pyNext_list_end hh Hs Ly (by simp) λh2 UR=>?_))
 simp only[Option.isSome_none,Yr,if_false]
 exact Xe (hQ h2 λb o hb e=>UR b o hb (JY.extBut b o hb (W8 _ e)))
def uz(hh:A.handled=none)(ht:s.heap.IsList t items)
  (hn:(assignEach elts env).length =items.size) (Lz:(assignEach elts env).findIdx? (·.1)=none)
  (h:∀h',Heap.ExtBut s.heap.objs.size s.heap h'->wpAny (model prog w) A (assignInOrder ((assignEach elts env).map (·.2)) items.toList) Q E {s with heap:=h'}):
  wpAny (model prog w) A (assign (.Tuple elts x1 pos) env (.ref t)) Q E s:=by
 rw[PyProof.Rows.assign_Tuple]
 refine W6 (aaO ?_)
 unfold unpack
 rw[hn,Lz]
 exact W6 (X6 (lC hh ht h))
end
def LA(K:PySem.W.Frag)(n:Nat)(t:GF):TG:=λv σ H Q=>∃a xs,v= .ref a/\(dI K H a xs\/cT K H a xs)/\xs.length=n/\t xs σ H Q
def Ht(hc:X.calm=true)(h:JQ X es t)
  (hn:(assignEach es X.env).length =n:=by rfl) (pL:(assignEach es X.env).findIdx? (·.1)=none:=by rfl):PG X (.Tuple es k pos) (LA X.K n t):=by
 intro aa s σ H v u Q I r hw
 refine ao λnO=>?_
 obtain⟨a,xs,e1,hq,hl,hw⟩:=hw
 subst e1
 cases r
 refine nO ?_
 rcases hq with hq|hq
 .refine ao λnO=>?_
  obtain⟨its,rv,ht,hz⟩:=I.list hq
  refine nO<|uz (I.ok.hd hc) ht.isList (by simp[hn,<-hl,rv.length]) pL λh' hx=>?_
  have I1:Inv X aa σ H {s with heap:=h'}:=I.kept (t':=s.toks) λb o e=>hx b o (XD (Xm e)) e
  exact h aa _ σ H xs _ Q I1 (by simpa using rv) hw
 .exact GH hc h hn pL aa s σ H (.ref a) (.ref a) Q I rfl ⟨a,xs,rfl,hq,hl,hw⟩
open AutoSeq1 (wpAny_loadPart')
noncomputable abbrev pY(items:Array Value)(x:Value)(i:Nat)(_:Option PySem.Fin×Unit):Sem (ForInStep (Option PySem.Fin×Unit)):=
 match items[i]? with
 |some y=>do
  let c<-eqBool y x
  if c=true then do
   let r<-retInt (i:Int)
   pure (ForInStep.done (some r,()))
  else pure (ForInStep.yield (none,()))
 |_=>pure (ForInStep.yield (none,()))
section
variable {prog:Program}{w:World}{A:Around}{E:Value->Shared->Prop}
theorem rN(hi:IntsAre items.toList ns)(hj:ns[j]?=some k)(yC:∀m,m<j->ns[m]?≠some k):
  ∀(m i:Nat) (s:Shared) (Q:Option PySem.Fin×Unit->Shared->Prop),i<=j->j<i+m->i+m<=items.size->Q (some (.done (.ret (.int j s.toks))),()) {s with toks:=s.toks+1}->
   wpAny (model prog w) A (forIn (List.range' i m) ((none,()):Option PySem.Fin×Unit) (pY items (.int k t))) Q E s
 |0,i,s,Q,h1,h2,_,_=>absurd h2 (by lia)
 |m+1,i,s,Q,h1,h2,h3,h=>by
  have bJ:i<items.size:=by lia
  have hl:ns.length=items.toList.length:=hi.length.symm
  obtain⟨ti,ei⟩:=ints_get hi i items[i] (by simp[bJ])
  have hn:ns[i]?=some (ns.getD i 0):=by
   rw[Xi,W9 (by rw[hl];simpa using bJ)]
   rfl
  rw[aab,Y2]
  unfold pY
  rw[XW bJ]
  show wpAny _ _ ((eqBool items[i] (.int k t) >>= _) >>= _) _ _ s
  rw[ei]
  refine W6 (W6 (aaT ?_))
  by_cases Hu:i=j
  .subst Hu
   rw[hj]at hn
   have e:ns.getD i 0=k:=(Xw hn).symm
   rw[e,beq_self_eq_true,Xs rfl]
   refine W6 ?_
   unfold retInt ret
   refine W6 (wpAny_mkInt (Xe (Xe (Xe h))))
  .have e:(ns.getD i 0==k)=false:=by
    rw[beq_eq_false_iff_ne]
    exact λz=>yC i (by lia) (by rw[hn,z])
   rw[e,Xx Xa]
   exact Xe (rN hi hj yC m (i+1) s Q (by lia) (by lia) (by lia) h)
end
def xI(l:Addr)(items:Array Value)(n:Nat)(dd:Option Addr)(sl:Array (Option Value)){ns:List Int}(hi:IntsAre items.toList ns){k:Int}{t:Tok}{j:Nat}(hj:ns[j]?=some k)(yC:∀m,m<j->ns[m]?≠some k):
  Meets (Builtin.«tuple.index» ⟨[.ref l,.int k t],[]⟩)
   (λA R s=>s.heap.get? l=some {cls:= .type "tuple",dict:=dd,data:= .seq items n,slots:=sl}/\R (.ok (.ret (.int j s.toks))) {s with toks:=s.toks+1}):=by
 intro prog w A R s h
 obtain⟨hp,g,d,tk,os⟩:=s;obtain⟨hl,h⟩:=h
 unfold Builtin.«tuple.index»
 simp only[Std.Legacy.Range.forIn_eq_forIn_range']
 wp_walk using YJ hl
 have WJ:j<items.size:=by
  have q:=(Xu.mp hj).1
  have:=hi.length
  simp at this
  lia
 have US:(([:min items.size items.size]:Std.Legacy.Range)).size =items.size:=by simp[Std.Legacy.Range.size]
 rw[US]
 show wpAny _ _ (forIn (List.range' 0 items.size) ((none,()):Option PySem.Fin×Unit) (pY items (.int k t))) _ _ _
 exact rN hi hj yC items.size 0 _ _ (XQ _) (by lia) (by lia)<|Xe h
def Hv(K:PySem.W.Frag):V->List V->Hp->VK->Prop:=λx vs H Q=>∃(l:Addr) (ns:List Int) (k:Int) (j:Nat),x= .ref l/\vs=[.int k]/\cT K H l (ns.map V.int)/\ns[j]?=some k/\(∀m,m<j->ns[m]?≠some k)/\Q (.int (j:Nat)) H
def zF{X:Cx}:NY X "tuple.index" (Hv X.K):=by
 intro aa s σ H x vs v us Q I rx rv h
 refine ao λnO=>E3 h λl ns k j ah aK hq hj yC q=>?_
 try clear h
 subst ah
 subst aK
 cases rx
 obtain⟨u,rfl,t,rfl⟩:=vals1 rv
 obtain⟨its,r,⟨⟨c,dd,dt,sl⟩,ho,hc,n,hd⟩,hz⟩:=I.tuple hq
 have nK:c= .type "tuple":=hc
 have nJ:dt= .seq its.toArray n:=hd
 subst nK nJ
 refine nO ?_
 have hi:IntsAre its.toArray.toList ns:=by simpa using intsAre_of r
 exact call_meets aaD ⟨_,ho,rfl⟩ PySem.F.entry_tuple_index (PySem.F.args_tuple_index_2 _ _) (xI l its.toArray n dd sl hi hj yC) ⟨ho,.int j,H,I.tok _,⟨_,rfl⟩,q⟩
def UT(K:PySem.W.Frag)(r:V->List V->Hp->VK->Prop)(to:TE)(t:TA):TE:=λσ H Q=>to σ H λx H1=>(∃a xs,x= .ref a/\cT K H1 a xs)/\t σ H1 λxs H2=>r x xs H2 Q
def LB{X:Cx}{o e:Expr}{es:List Expr}{to:TE}{t:TA}{name:Str}{nR gc:Pos}{id:String}{r:V->List V->Hp->VK->Prop}(pa:PlainAttrs "tuple")(slot:Slot "tuple" name id)(K9:typeOf (.builtin id)=pure (.type "method_descriptor"))(hm:NY X id r)(ho:PE X o to)(ha:PA X (e::es) t)
  (ji:attributeBase o name X.env (eval o X.env)=eval o X.env)
  (Hb:((backTo gc (starEach (e::es) X.env)).all (λx=>!x.1)&&(backToKw gc (keywordEach [] X.env)).all (λx=>x.1.isSome)
   && decide ((e::es).length+([]:List Keyword).length+(if([]:List Keyword).isEmpty then 0 else 1)<30))=true)
  (jj:(nR.endLine==gc.line)=true) (hs:starEach (e::es) X.env=(false,eval e X.env)::starEach es X.env) (ui:(backTo gc (starEach es X.env)).any (·.1)=false):
  PE X (.Call (.Attribute o name nR) (e::es) [] gc) (UT X.K r to t):=by
 intro aa s σ H Q I h
 refine wpAny_Call_method_late ji Hb jj rfl (aW (ho aa s σ H _ I h) λv s1 zz=>?_)
 refine ao λnO=>gq zz λx H1 I1 r1 ty q1=>eW ty λa xs ah hq=>?_
 try clear ty
 subst ah
 cases r1
 obtain⟨its,rv,⟨ob,e1,e2,_,e4⟩,_⟩:=I1.GD hq
 refine nO ?_
 refine⟨"tuple",id,pa,slot,K9,⟨ob,e1,e2⟩,λb z=>by cases z;exact⟨ob,e1,e4⟩,?_⟩
 have hA:=ha gc aa s1 σ H1 _ I1 q1
 rw[hs]at hA⊢
 refine Zg (by show(false||(backTo gc (starEach es X.env)).any (·.1))=false;rw[ui]<;>rfl) (Calls.evalArgs_plain ?_)
 exact aW hA λus s2 zz=>a_ zz λvs H2 I2 UU q2=>hm aa s2 σ H2 (.ref a) vs (.ref a) us Q I2 rfl UU q2
open AutoSeq1 (wpAny_loadPart')
abbrev LC(a c:Int):Nat->Value->Prop:=λi v=>∃t,v= .int (a+i*c) t
section
variable {prog:Program}{w:World}{A:Around}{E:Value->Shared->Prop}{s:Shared}
def nZ{Q:List Value->Shared->Prop}{r:Addr}{a b c:Int}{t u v:Tok}{n:Nat}(hh:A.handled=none)(hr:IsRange s.heap r a b c t u v)(mB:Builtin.Range.small a b c=true)
  (hn:Builtin.Range.rangeSize a b c=n) (aX:n<=2 ^ 24)
  (hQ:∀h' tk acc,(∀b o,s.heap.get? b=some o->h'.get? b=some o)->ItemsOf (LC a c) acc n->Q acc.toList {s with heap:=h',toks:=tk}):wpAny (model prog w) A (collect (.ref r)) Q E s:=by
 unfold collect
 refine W6 (wpAny_runValue (ZP F.entry_proto_collect ?_))
 rw[Around.under_plainId F.plain_proto_collect _]
 show wpAny _ A.in1 (newList [] >>= λl=>again (.builtin "list.__iadd__" ⟨[l,.ref r],[]⟩)) _ _ s
 refine W6 (XJ ?_)
 refine Xe ⟨plainId_quiet F.plain_list_iadd _,ZP F.entry_list_iadd ?_⟩
 rw[Around.under_plainId F.plain_list_iadd _]
 show wpAny _ A.in1 (Builtin.List.listExtendWith (.ref s.heap.objs.size) (.ref r) (.ref s.heap.objs.size)) _ _ _
 have hS:(s.heap.push {cls:= .type "list",data:= .seq ([]:List Value).toArray}).get? s.heap.objs.size=some {cls:= .type "list",data:= .seq #[] 0}:=Xp _ rfl
 let RR:Result->Shared->Prop:=λr s'=>∃(h':Heap) (tk:Nat) (acc:Array Value) (c':Nat),r= .ok (.ret (.ref s.heap.objs.size))/\s'={s with heap:=h',toks:=tk}/\
  (∀b o,s.heap.get? b=some o->h'.get? b=some o)/\h'.get? s.heap.objs.size=some {cls:= .type "list",dict:=none,data:= .seq acc c',slots:=#[]}/\ItemsOf (LC a c) acc n
 have dE:∀(h':Heap) (tk:Nat) (acc:Array Value) (c':Nat),(∀b o,s.heap.get? b=some o->h'.get? b=some o)->h'.get? s.heap.objs.size=some {cls:= .type "list",dict:=none,data:= .seq acc c',slots:=#[]}->ItemsOf (LC a c) acc n->
   wpAny (model prog w) A (match Value.ref s.heap.objs.size with
    |Value.ref a=>do
     match (<-load a).data with
      |Data.seq xs _=>pure xs.toList
      |_=>unsupported "internal:collect"
    |_=>unsupported "internal:collect") Q E {s with heap:=h',toks:=tk}:=λh' tk acc c' hk vy lD=>by
  show wpAny _ A (load s.heap.objs.size >>= _) _ _ _
  exact W6 (wpAny_load vy (Xe (hQ h' tk acc hk lD)))
 refine YD (wpAny_extend_range (A:=A) (R:=RR) (s:={s with heap:=s.heap.push {cls:= .type "list",data:= .seq ([]:List Value).toArray}}) hh (W8 _ hr) mB hn aX _ (.ref s.heap.objs.size) _ hS λh' tk Hw c' hk vy lD=>⟨h',tk,Hw,c',rfl,rfl,λb o e=>hk b o (XD (Xm e)) (W8 _ e),vy,lD⟩) (λfin s' h=>?_) (λe s' h=>?_)
 .cases fin with
  |done f=>
   refine qU h λh' tk acc c' e ah hk vy lD=>?_
   try clear h
   subst ah
   cases e
   exact dE h' tk acc c' hk vy lD
  |again c'=>
   refine⟨h.1,abl h.2 λr KZ hr=>?_⟩
   refine qU hr λh' tk acc c' e aK hk vy lD=>?_
   try clear hr
   subst aK
   subst e
   exact dE h' tk acc c' hk vy lD
 .refine nI h λh' tk acc c' e _=>?_
  cases e
end
def uA{r:Addr}{a b c:Int}{t u v:Tok}{n:Nat}(mB:Builtin.Range.small a b c=true)(hn:Builtin.Range.rangeSize a b c=n)(aX:n<=2 ^ 24):
  Meets (Builtin.«tuple.__new__» ⟨[.type "tuple",.ref r],[]⟩)
   (λA R s=>A.handled=none/\IsRange s.heap r a b c t u v/\∀(h':Heap) (tk:Nat) (acc:Array Value),(∀b o,s.heap.get? b=some o->h'.get? b=some o)->ItemsOf (LC a c) acc n->
    R (.ok (.ret (.ref h'.objs.size))) {s with heap:=h'.push {cls:= .type "tuple",data:= .seq acc},toks:=tk}):=
 .of_wp λprog w A R s h=>by
  obtain⟨hp,g,d,UW,os⟩:=s
  refine cS h λhh hr h=>?_
  have UX:=sub_tuple_self
  have Sn:=init_tuple_lookup
  have WK:=madeHere_tuple
  have hT:Shared.TypeIs ⟨hp,g,d,UW,os⟩ (.ref r) "range":=⟨_,hr,rfl⟩
  have UY:A.in1.handled=none:=hh
  wp_walk using YJ hr,aan hT,nZ UY hr mB hn aX
  intro h' tk acc hk lD
  show wpAny _ _ (Builtin.Tuple.tupleExact acc.toList.toArray >>= λv=>ret v) _ _ _
  unfold Builtin.Tuple.tupleExact
  refine W6 (XJ ?_ (show acc.toList.toArray.size<=sizeLine by simp only[abu];rw[lD.1,sizeLine_eq];exact aX))
  refine Xe ⟨_,rfl,?_⟩
  have e:acc.toList.toArray=acc:=by simp
  rw[e]
  exact h h' tk acc hk lD
section
variable {prog:Program}{w:World}{A:Around}{E:Value->Shared->Prop}{s:Shared}
def xJ{Q:Value->Shared->Prop}{r:Addr}{a b c:Int}{t u v:Tok}{n:Nat}(hh:A.handled=none)(hr:IsRange s.heap r a b c t u v)(mB:Builtin.Range.small a b c=true)(hn:Builtin.Range.rangeSize a b c=n)(aX:n<=2 ^ 24)
  (h:∀(h':Heap) (tk:Nat) (acc:Array Value),(∀b o,s.heap.get? b=some o->h'.get? b=some o)->ItemsOf (LC a c) acc n->Q (.ref h'.objs.size) {s with heap:=h'.push {cls:= .type "tuple",data:= .seq acc},toks:=tk}):
  wpAny (model prog w) A (call (.type "tuple") [.ref r]) Q E s:=
 callType_new F.called_tuple (by decide) (F.typeCall_tuple_1 _) (F.newCall_tuple_1 _) (λobj=>F.args_object_init_2 obj _) F.entry_tuple_new (uA mB hn aX)
  ⟨hh,hr,λh' tk acc hk lD=>⟨⟨_,Xp _ rfl,rfl⟩,h h' tk acc hk lD⟩⟩
end
open AutoSeq1 (wpAny_loadPart')
theorem vA:∀{bs:List Bool}{us:List Value},aA (bs.map V.bl) us->us=bs.map Value.bool
 |[],_,.nil =>rfl
 |b::bs,_,.cons r t=>by
  have e:_=Value.bool b:=r
  rw[e,vA t]
  rfl
section
variable {prog:Program}{w:World}{A:Around}{E:Value->Shared->Prop}{s:Shared}{l:Addr}
def rO(A:Around)(bs:List Bool):TruthOf prog w A (λi v=>(bs.map Value.bool).toArray[i]?=some v) (λi=>bs.getD i false):=λi v s Q E hP hQ=>by
 have q:(bs.map Value.bool)[i]?=some v:=by simpa using hP
 rw[Xn]at q
 cases e:bs[i]? with
 |none=>rw[e]at q;cases q
 |some b=>
  rw[e]at q
  cases q
  have:bs.getD i false=b:=by rw[Xi,e];rfl
  have Sr:Q (bs.getD i false) s:=hQ
  rw[this]at Sr
  exact X_ Sr
def all_range{bs:List Bool}:(List.range bs.length).all (λi=>bs.getD i false)=bs.all id:=by
 rw[Bool.eq_iff_iff,XO,XO]
 constructor
 .intro h b hb
  obtain⟨i,hi,rfl⟩:=List.mem_iff_getElem.mp hb
  have:=h i (XU.mpr hi)
  rw[Xi,W9 hi]at this
  exact this
 .intro h i hi
  have iP:=XU.mp hi
  rw[Xi,W9 iP]
  exact h _ (YX iP)
def zG{bs:List Bool}{Q:Value->Shared->Prop}(hh:A.handled=none)(hl:s.heap.IsList l (bs.map Value.bool).toArray)
  (h:∀h' tk,(∀b o,s.heap.get? b=some o->h'.get? b=some o)->Q (.bool (bs.all id)) {s with heap:=h',toks:=tk}):wpAny (model prog w) A (call (.builtin "all") [.ref l]) Q E s:=by
 have bJ:l<s.heap.objs.size:=by obtain⟨_,e,_⟩:=hl;exact Xm e
 refine call_all_walk (Zt hl ?_)
 refine⟨_,[_,l],[_],_,_,_,_,rfl,Walks.list (A:=A.in1) hh s.heap.objs.size l (XD bJ) _,⟨⟨_,Xp _ rfl,rfl,rfl⟩,hl.push _⟩,rO _ bs,λh' tk hk=>?_⟩
 have e:(bs.map Value.bool).toArray.size =bs.length:=by simp
 rw[e,all_range]
 refine h h' tk λb o z=>hk b o (λhm=>?_) (W8 _ z)
 rw[Xc.mp hm]at z
 exact absurd (Xm z) (X2 _)
end
section
variable {X:Cx}
def xK(hc:X.calm=true):cJ X (.builtin "all") (λxs H Q=>∃(p:Addr) (bs:List Bool),xs=[.ref p]/\dI X.K H p (bs.map V.bl)/\Q (.bl (bs.all id)) H):=by
 intro aa s σ H xs us Q I r zz
 refine a_ zz λp bs e hq q=>?_
 subst e
 refine ab (vals1 r) λu ah rx=>?_
 subst ah
 cases rx
 refine bF (I.list hq) λits rv pl hz=>?_
 rw[vA rv]at pl
 exact zG (I.ok.hd hc) pl.isList λh' tk hk=>⟨.bl _,H,I.kept (t':=tk) hk,rfl,q⟩
end
section
variable {prog:Program}{w:World}{A:Around}{E:Value->Shared->Prop}{s:Shared}
def mC(hT:T="list"\/T="tuple")(ho:s.heap.get? l=some o)(hc:o.cls= .type T)(hd:o.data= .seq vs.toArray n)(hI:IntsAre vs ns)(CL:vs.length<64)
  (h:∀(h1 h':Heap) (out:Array Value) (c:Nat) (et:List Int),(∀b o',s.heap.get? b=some o'->h1.get? b=some o')->(∀b o',h1.get? b=some o'->h'.get? b=some o')->h'.get? h1.objs.size=some {cls:= .type "list",data:= .seq out c}->IntsAre out.toList et->et.Perm ns->et.Pairwise (· <= ·)->Q (.ref h1.objs.size) {s with heap:=h'}):
  wpAny (model prog w) A (call (.builtin "sorted") [.ref l]) Q E s:=by
 refine Zz kind_sorted plain_sorted entry_sorted (args_sorted1 _) ?_
 unfold Builtin.«sorted»
 refine W6 (m:=checkCount "sorted" 1 1 _) (Xe ?_)
 refine W6 (wpAny_collect_seq l hT ho hc hd (λh1 LD=>?_) (by rw[Xh,sizeLine_eq];omega))
 refine W6 (aaR ?_)
 have e0:vs.toArray.toList=vs:=by simp
 rw[e0]
 have Cb:(h1.push (seqObj "list" vs.toArray 0)).get? h1.objs.size=some (seqObj "list" vs.toArray 0):=Xp _ rfl
 refine W6 (X6 (Yk slot_list_sort ⟨_,Cb,rfl⟩ entry_list_sort (list_sort_tree Cb hI CL λout et a1 a2 a3=>⟨_,rfl,?_⟩) (args_list_sort _)))
 refine Xe ⟨_,rfl,?_⟩
 have u1:((h1.push (seqObj "list" vs.toArray 0)).update h1.objs.size (Obj.mapSeq λ_=>#[])).get? h1.objs.size=_:=get?_update_seq Cb (λ_=>#[])
 have u2:=W8 (seqObj "tuple" vs.toArray 0) u1
 have u3:=W8 (seqObj "list" #[] 0) u2
 have u4:=get?_update_seq u3 (λ_=>out)
 refine h h1 _ out _ et LD (λb o' e=>?_) u4 a1 a2 a3
 have hb:b≠h1.objs.size:=XD (Xm e)
 unfold sortedHeap
 rw[XF _ _ (Ya hb)]
 refine W8 _ (W8 _ ?_)
 rw[XF _ _ (Ya hb)]
 exact W8 _ e
end
section
variable {X:Cx}
theorem fS:∀{us:List Value}{ns:List Int},IntsAre us ns->aA (ns.map V.int) us
 |_,_,.nil => .nil
 |_,_,.cons n t r=> .cons ⟨t,rfl⟩ (fS r)
def pZ:cJ X (.builtin "sorted") (λxs H Q=>∃(p:Addr) (ns:List Int),xs=[.ref p]/\(dI X.K H p (ns.map V.int)\/cT X.K H p (ns.map V.int))/\ns.length<64/\
  ∀et:List Int,et.Perm ns->et.Pairwise (· <= ·)->∀l,H l=none->Q (.ref l) (upd H l (.lst (et.map V.int)))):=by
 intro aa s σ H xs us Q I r zz
 refine gq zz λp ns e hq CL q=>?_
 refine ao λnO=>?_
 subst e
 refine ab (vals1 r) λu ah rx=>?_
 subst ah
 cases rx
 refine nO ?_
 have fin:∀(its:List Value),aA (ns.map V.int) its->∀(h1 h':Heap) (out:Array Value) (c:Nat) (et:List Int),(∀b o',s.heap.get? b=some o'->h1.get? b=some o')->(∀b o',h1.get? b=some o'->h'.get? b=some o')->h'.get? h1.objs.size=some {cls:= .type "list",data:= .seq out c}->IntsAre out.toList et->et.Perm ns->et.Pairwise (· <= ·)->EP X aa σ Q (.ref h1.objs.size) {s with heap:=h'}:=λits rv h1 h' out c et k1 k2 e a1 a2 a3=>by
  have I1:Inv X aa σ H {s with heap:=h1}:=I.kept (t':=s.toks) k1
  have I2:Inv X aa σ (upd H h1.objs.size (.lst (et.map V.int))) {s with heap:=h'}:=
   I1.laid (t':=s.toks) k2 (Xf _) (show aQ X.prog X.w _ h' _ (.lst (et.map V.int)) from⟨by rw[Xb,a2.length_eq,sizeLine_eq];omega,out.toList,c,fS a1,by simpa using e⟩)
  exact⟨.ref h1.objs.size,_,I2,rfl,q et a2 a3 _ (I1.aN.fresh (Xf _))⟩
 rcases hq with hq|hq
 .refine ao λnO=>?_
  obtain⟨its,rv,⟨o,n,e1,e2,_,e3⟩,_⟩:=I.list hq
  exact nO<|mC (.inl rfl) e1 e2 e3 (intsAre_of rv) (by have:=rv.length;rw[Xb]at this;omega) (fin its rv)
 .refine ao λnO=>?_
  obtain⟨its,rv,⟨o,e1,e2,n,e3⟩,_⟩:=I.tuple hq
  exact nO<|mC (.inr rfl) e1 e2 e3 (intsAre_of rv) (by have:=rv.length;rw[Xb]at this;omega) (fin its rv)
def CM:ik X (binaryOp .Add) (λx y H Q=>∃a b ys,x= .ref a/\y= .ref b/\cT X.K H a []/\cT X.K H b ys/\Q (.ref b) H):=by
 intro aa s σ H x y v u Q I rx ry zz
 refine tW zz λa b ys e1 e2 h1 h2 q=>?_
 refine ao λnO=>?_
 subst e1 e2
 cases rx
 cases ry
 obtain⟨its,r1,⟨⟨c,dd,dt,sl⟩,ho,hc,n,hd⟩,_⟩:=I.tuple h1
 obtain⟨iN,r2,⟨⟨c2,Fg,WL,Fh⟩,BU,Fi,n2,nV⟩,_⟩:=I.tuple h2
 cases r1
 refine nO ?_
 simp only at hc hd Fi nV
 subst hc hd Fi nV
 exact concat_meets ⟨_,ho,rfl⟩ ⟨_,BU,rfl⟩ noFill_tuple_add seq_tuple_add ZV ZM (ZK _ _)
  (tuple_addW0 a b _ iN.toArray n n2 dd Fg sl Fh (by simp)) ⟨ho,BU,.ref b,H,I,rfl,q⟩
end
open HT
open AutoSeq1 (wpAny_loadPart')
theorem rP:∀l:List α,(∀x∈l,f x=g x)->l.filterMap f=l.filterMap g
 |[],_=>rfl
 |x::l,h=>by rw[Y_,Y_,h x Xd,rP l λy hy=>h y (W_ _ hy)]
section
variable {prog:Program}{w:World}{A:Around}{E:Value->Shared->Prop}{s:Shared}
def iE(ht:IsTup s.heap t items)(h:Q true s):wpAny (model prog w) A (Builtin.Tuple.tupleIsExact (.ref t)) Q E s:=by
 unfold Builtin.Tuple.tupleIsExact
 exact W6 (aan ht.typeIs (Xe (by simpa using h)))
def iy{t sl:Addr}{items:Array Value}{vl vu:Value}{lo hi:Option Int}{Q:Value->Shared->Prop}(ht:IsTup s.heap t items)(hs:s.heap.IsSliceOf sl vl vu .none)(pl:IsPart vl lo)(pu:IsPart vu hi)
  (hw:cD items.size 0 lo=0/\cD items.size items.size hi=items.size) (h:Q (.ref t) s):wpAny (model prog w) A (getItem (.ref t) (.ref sl)) Q E s:=by
 refine bF (id hs) λos xu vj BV=>?_
 have zb:s.TypeIs (.ref sl) "slice":=⟨os,xu,vj⟩
 unfold getItem
 try with_reducible refine X6 ?_
 first|refine W6 (Xe ?_)|skip
 refine W6 (aaA ht.typeIs (by decide) ?_)
 refine W6 (Yn (name:=Str.ofString "__getitem__") ht.typeIs XN (Yk XN ht.typeIs entry_tuple_getitem ?_ (args_tuple_getitem _ _)))
 show wpAny _ _ (Builtin.Tuple.tupleItemsOf (.ref t) >>= _) _ _ s
 refine W6 (tupleItemsOf_ ht ?_)
 refine W6 (aan zb ?_)
 rw[Xs (by decide)]
 refine W6 (e_ hs pl pu ?_)
 have PZ:(((cD items.size 0 lo:Nat):Int)==0&&(1:Int)==1&&(cD items.size items.size hi-cD items.size 0 lo)==items.size)=true:=by
  rw[hw.1,hw.2];simp
 show wpAny _ _ (if(((cD items.size 0 lo:Nat):Int)==0&&(1:Int)==1&&(cD items.size items.size hi-cD items.size 0 lo)==items.size)=true then _ else _) _ _ s
 rw[Xs PZ]
 refine W6 (iE ht ?_)
 rw[Xs rfl]
 exact W6 (Zu (Xe ⟨_,rfl,Xe h⟩))
def j9{sl:Addr}{u:Tok}{n:Nat}{Q:Int×Int×Nat->Shared->Prop}(hs:s.heap.IsSliceOf sl .none .none (.int (-1) u))
  (h:Q ((n:Int)-1,-1,n) s):wpAny (model prog w) A (Builtin.Slice.sliceApplied (.ref sl) (pure (n:Int))) Q E s:=by
 refine bF (id hs) λos xu vj BV=>?_
 unfold Builtin.Slice.sliceApplied Builtin.Slice.sliceFields
 refine W6 (W6 (Y' xu BV (x:= .none) rfl (W6 (Y' xu BV (x:= .none) rfl (W6 (Y' xu BV (x:= .int (-1) u) rfl (Xe ?_)))))))
 refine W6 (slicePart_int ?_)
 show wpAny _ _ (if((-1:Int)==0)=true then _ else _) _ _ s
 rw[Xx (by decide)]
 refine W6 (slicePart_none (W6 (slicePart_none (W6 (Xe ?_)))))
 have e:Builtin.Slice.slicePlaces ((n:Int)-1) (-1) (-1)=n:=by
  unfold Builtin.Slice.slicePlaces
  rw[Xx (by decide)]
  by_cases hn:n=0
  .subst hn;decide
  .rw[Xs (by omega)]
   simp
 show wpAny _ _ (pure ((n:Int)-1,(-1:Int),Builtin.Slice.slicePlaces ((n:Int)-1) (-1) (-1))) _ _ s
 rw[e]
 exact Xe h
def zH(xs:List Value):((List.range xs.length).filterMap λ(m:Nat)=>xs.toArray[(((xs.length:Int)-1)+(m:Int) * -1).toNat]?).toArray =xs.reverse.toArray:=by
 congr 1
 apply Yv
 intro i
 have e:(List.range xs.length).filterMap (λ(m:Nat)=>xs.toArray[(((xs.length:Int)-1)+(m:Int) * -1).toNat]?)=(List.range xs.length).map λ(m:Nat)=>xs.getD (xs.length-1-m) .none :=by
  rw[<-List.filterMap_eq_map]
  refine rP _ λm hm=>?_
  have JW:=XU.mp hm
  have q:(((xs.length:Int)-1)+(m:Int) * -1).toNat =xs.length-1-m:=by omega
  rw[q]
  have bJ:xs.length-1-m<xs.length:=by omega
  simp[W9 bJ]
 rw[e,Xn]
 by_cases hi:i<xs.length
 .rw[YE hi,List.getElem?_reverse hi]
  show some (xs.getD (xs.length-1-i) .none)=_
  rw[Xi,W9 (by omega)]
  rfl
 .have l1:(List.range xs.length)[i]?=none:=Xz (by simp;omega)
  have l2:xs.reverse[i]?=none:=Xz (by simp;omega)
  rw[l1,l2]
  rfl
def jv{t sl:Addr}{xs:List Value}{u:Tok}{Q:Value->Shared->Prop}(ht:IsTup s.heap t xs.toArray)(hs:s.heap.IsSliceOf sl .none .none (.int (-1) u))(hsz:xs.length<=sizeLine)
  (h:Q (.ref s.heap.objs.size) {s with heap:=s.heap.push {cls:= .type "tuple",data:= .seq xs.reverse.toArray}}):wpAny (model prog w) A (getItem (.ref t) (.ref sl)) Q E s:=by
 refine bF (id hs) λos xu vj BV=>?_
 have zb:s.TypeIs (.ref sl) "slice":=⟨os,xu,vj⟩
 unfold getItem
 try with_reducible refine X6 ?_
 first|refine W6 (Xe ?_)|skip
 refine W6 (aaA ht.typeIs (by decide) ?_)
 refine W6 (Yn (name:=Str.ofString "__getitem__") ht.typeIs XN (Yk XN ht.typeIs entry_tuple_getitem ?_ (args_tuple_getitem _ _)))
 show wpAny _ _ (Builtin.Tuple.tupleItemsOf (.ref t) >>= _) _ _ s
 refine W6 (tupleItemsOf_ ht ?_)
 refine W6 (aan zb ?_)
 rw[Xs (by decide)]
 have e:(xs.toArray.size:Int)=(xs.length:Nat):=by simp
 rw[e]
 refine W6 (j9 hs ?_)
 show wpAny _ _ (if(((xs.length:Int)-1)==0&&(-1:Int)==1&&xs.length==xs.toArray.size)=true then _ else _) _ _ s
 rw[Xx (by simp),zH]
 have aN:sizeOk (.seq xs.reverse.toArray):=by
  show xs.reverse.toArray.size<=sizeLine
  simpa using hsz
 first
  |exact W6 (m:=Builtin.Tuple.tupleExact _) (XJ (Xe ⟨_,rfl,Xe h⟩) aN)
  |exact W6 (m:=Builtin.Tuple.tupleExact _) (XJ (W6 (Xe (Xe ⟨_,rfl,Xe h⟩))) aN)
  |exact W6 (W6 (m:=Builtin.Tuple.tupleExact _) (XJ (Xe (Xe ⟨_,rfl,Xe h⟩)) aN))
  |exact W6 (W6 (m:=Builtin.Tuple.tupleExact _) (XJ (Xe ⟨_,rfl,Xe h⟩) aN))
end
section
variable {X:Cx}
def LF(K:PySem.W.Frag):V->Option Int->Option Int->Hp->VK->Prop:=λx lo hi H Q=>∃a xs,x= .ref a/\cT K H a xs/\(cD xs.length 0 lo=0/\cD xs.length xs.length hi=xs.length)/\Q x H
def zI:BW X (LF X.K):=by
 intro aa s σ H x v vl vu lo hi sl Q I rx hs pl pu h
 refine gq h λa xs ah hx hw q=>?_
 try clear h
 subst ah
 cases rx
 refine bF (I.tuple hx) λits r ht hz=>?_
 have aX:its.toArray.size=xs.length:=by rw[Xh];exact r.length.symm
 exact⟨"tuple",_,XN.lookup,ht.typeIs,iy ht hs pl pu (by rw[aX];exact hw) ⟨.ref a,H,I,rfl,q⟩⟩
def CN:BW X (λx lo hi H Q=>K7 X.K x lo hi H Q\/LF X.K x lo hi H Q):=G7.or zI
def Hx(he:PE X e te):
  PE X (.Subscript e (.Slice none none (some (.UnaryOp .USub (.Constant (.int 1) j p1) p3)) p2) pos) (λσ H Q=>te σ H λx H1=>∃a xs,x= .ref a/\cT X.K H1 a xs/\∀p,H1 p=none->Q (.ref p) (upd H1 p (.tup xs.reverse))):=by
 intro aa s σ H Q I h
 refine Subscript_ (aW (he aa s σ H _ I h) λv s1 zz=>?_)
 refine ao λnO=>a_ zz λx H1 I1 r1 q1=>a_ q1 λa xs ah hx q=>?_
 try clear q1
 subst ah
 cases r1
 refine nO<|wpAny_Slice ?_
 rw[evalPart_none]
 refine Xe (Xe ?_)
 rw[evalPart_some]
 refine aW ((Fb (yV (X:=X)) (yP (i:=1) (j:=j) (pos:=p1)) (pos:=p3)) aa s1 σ H1 (λy H2=>y= .int (-1)/\H2=H1) I1 ⟨1,rfl,rfl,rfl⟩) λst s3 zz=>ao λnO=>gq zz λy H3 I3 r3 e1 e2=>?_
 subst e1 e2
 obtain⟨u,rfl⟩:=r3
 have I4:Inv X aa σ H3 {s3 with heap:=s3.heap.push {cls:= .type "slice",data:= .fields #[.none,.none,.int (-1) u]}}:=I3.kept (t':=s3.toks) λb ob q=>W8 _ q
 refine bF (I4.tuple hx) λits r ht hz=>nO ?_
 show wpAny (model X.prog X.w) X.A (subscriptTail e (.Slice none none (some (.UnaryOp .USub (.Constant (.int 1) j p1) p3)) p2) (.ref a) (.ref s3.heap.objs.size)) (EP X aa σ Q) X.xe {s3 with heap:=s3.heap.push {cls:= .type "slice",data:= .fields #[.none,.none,.int (-1) u]}}
 refine tail_any (ops:=[.ref a,.ref s3.heap.objs.size]) ht.typeIs XN.lookup ?_ (by with_unfolding_all rfl)
 have hl:=r.length
 refine jv ht (Heap.IsSliceOf.new ..) (by omega) ?_
 have P0:aA xs.reverse its.reverse:=by
  have aux:∀{xs:List V}{us:List Value},aA xs us->aA xs.reverse us.reverse:=λ{xs us} h=>by
   induction h with
   |nil=>exact .nil
   |cons r _ ih=>rw[ZY,ZY];exact ih.append (.cons r .nil)
  exact aux r
 refine⟨.ref _,_,I4.laid (t':=s3.toks) (o:= .tup xs.reverse) (λb ob q=>W8 _ q) (Xf _) ⟨by rw[abA];exact hz,_,P0,ij.new _ _⟩,rfl,q _ (I4.aN.fresh (Xf _))⟩
def CO(l:Addr)(items:Array Value)(n:Nat)(dd:Option Addr)(sl:Array (Option Value))(k:Nat)(t:Tok)(hk:k<1000)(hz:items.size*k<=sizeLine):
  Meets (Builtin.«tuple.__mul__» ⟨[.ref l,.int k t],[]⟩)
   (λA R s=>s.heap.get? l=some {cls:= .type "tuple",dict:=dd,data:= .seq items n,slots:=sl}/\
    ((items.isEmpty=true\/k=1)->R (.ok (.ret (.ref l))) s)/\(¬(items.isEmpty=true\/k=1)->R (.ok (.ret (.ref s.heap.objs.size))) {s with heap:=s.heap.push {cls:= .type "tuple",data:= .seq (List.replicate k items.toList).flatten.toArray}})):=by
 intro prog w A R s h
 obtain⟨hp,g,d,tk,os⟩:=s
 refine cS h λhl h1 h2=>?_
 have f1:=AutoSeq1.idx_int
 wp_walk using YJ hl
 have ht:IsTup hp l items:=⟨_,hl,rfl,n,rfl⟩
 rw[Xx (by
  simp only[Zm,decide_eq_true_eq,not_or]
  exact⟨by omega,by omega⟩)]
 refine W6 (tupleItemsOf_ (s:=⟨hp,g,d,tk,os⟩) ht ?_)
 by_cases c:items.isEmpty=true\/k=1
 .have c':(items.isEmpty||(k:Int)==1)=true:=by
   rw[Zm,beq_iff_eq]
   rcases c with c|c
   .exact .inl c
   .exact .inr (by omega)
  rw[Xs c']
  refine W6 (iE (s:=⟨hp,g,d,tk,os⟩) ht ?_)
  rw[Xs rfl]
  exact W6 (Zu (Xe (h1 c)))
 .have c':¬(items.isEmpty||(k:Int)==1)=true:=by
   rw[Zm,beq_iff_eq]
   intro z
   rcases z with z|z
   .exact c (.inl z)
   .exact c (.inr (by omega))
  rw[Xx c']
  have UZ:items.isEmpty=false:=by
   cases e:items.isEmpty with
   |false=>rfl
   |true=>exact absurd (.inl e) c
  have JZ:items.size*k<=16777216:=by rw[sizeLine_eq]at hz;exact hz
  by_cases k0:k=0
  .subst k0
   rw[Xs (by simp)]
   refine W6 (m:=Builtin.Tuple.tupleExact _) (XJ (Xe ?_) (by show(#[]:Array Value).size <=sizeLine;exact XQ _))
   have:=h2 c
   simpa using this
  .rw[Xx (by rw[UZ];simp;omega)]
   have e1:(items.size:Int)*(k:Int)=((items.size*k:Nat):Int):=by push_cast;rfl
   rw[Xx (by rw[e1];omega),Xx (by unfold Builtin.Tuple.tupleTooMany;rw[decide_eq_true_eq,e1];omega)]
   have e2:List.foldl (λx1 x2=>x1++x2) #[] (List.replicate ((k:Int)).toNat items)=(List.replicate k items.toList).flatten.toArray :=by
    rw[Yd]
    have aux:∀(k:Nat) (acc:Array Value),List.foldl (λx1 x2=>x1++x2) acc (List.replicate k items)=acc++(List.replicate k items.toList).flatten.toArray :=λk=>by
     induction k with
     |zero=>intro acc;simp
     |succ k ih=>
      intro acc
      rw[ZH,List.foldl_cons,ih,ZH,aaE]
      apply Array.ext'
      simp
    rw[aux k #[]]
    simp
   rw[e2]
   refine W6 (m:=Builtin.Tuple.tupleExact _) (XJ (Xe (h2 c)) ?_)
   show(List.replicate k items.toList).flatten.toArray.size <=sizeLine
   simp
   rw[Nat.mul_comm]
   exact hz
def j_:fillsNumberSlot (.type "tuple") "mul"=pure false:=
 PySem.fillsNumberSlot_seq (id:="tuple.__mul__") (r:=some (.builtin "tuple.__rmul__")) abe.lookup (by decide +kernel) aaS.lookup (by decide +kernel)
def p4:seqRepeat? (.type "tuple")=pure (some (.builtin "tuple.__mul__")):=by
 unfold seqRepeat?
 rw[PySem.seqSlot_of (T:="tuple") (name:="__mul__") (id:="tuple.__mul__") abe.lookup (by decide +kernel),PySem.seqSlot_of (T:="tuple") (name:="__rmul__") (id:="tuple.__rmul__") aaS.lookup (by decide +kernel)]
 rfl
def p5(a:Int)(t:Tok)(l:Addr)(items:Array Value)(n:Nat)(dd:Option Addr)(sl:Array (Option Value)):
  Meets (Builtin.«int.__rmul__» ⟨[.int a t,.ref l],[]⟩) (λ_ R s=>s.heap.get? l=some {cls:= .type "tuple",dict:=dd,data:= .seq items n,slots:=sl}/\R (.ok (.ret Value.notImplemented)) s):=
 .of_wp λprog w A R s h=>by obtain⟨hp,g,d,tk,os⟩:=s;obtain⟨hl,h⟩:=h;wp_walk;exact⟨_,rfl,h⟩
def LG(K:PySem.W.Frag):R2:=λx y H Q=>∃(a:Addr) (xs:List V) (k:Nat),x= .ref a/\y= .int k/\cT K H a xs/\k<1000/\xs.length*k<=sizeLine/\((xs=[]\/k=1)->Q (.ref a) H)/\(¬(xs=[]\/k=1)->∀p,H p=none->Q (.ref p) (upd H p (.tup (List.replicate k xs).flatten)))
theorem oF(h:aA xs us):∀k:Nat,aA (List.replicate k xs).flatten (List.replicate k us).flatten
 |0=> .nil
 |k+1=>by rw[ZH,ZH,aaE,aaE];exact h.append (oF h k)
def CP:ik X (binaryOp .Mult) (LG X.K):=by
 intro aa s σ H x y v u Q I rx ry zz
 refine RY zz λa xs k e1 e2 hq hk hz q1 q2=>?_
 refine ao λnO=>?_
 subst e1 e2
 cases rx
 obtain⟨t,rfl⟩:=ry
 obtain⟨its,r,⟨⟨c,dd,dt,sl⟩,ho,hc,n,hd⟩,hs⟩:=I.tuple hq
 refine nO ?_
 simp only at hc hd
 subst hc hd
 have hl:=r.length
 have JZ:its.toArray.size*k<=sizeLine:=by rw[Xh,<-hl];exact hz
 refine wpAny_binaryOp_repeat_ref (T:="tuple") (U:="int") (by decide) ⟨_,ho,rfl⟩ (λs'=>typeIs_int s' k t) j_ F.fills_int_mul F.slot_int_rmul p4 F.slot_int_index.lookup
  (call_meets F.slot_int_rmul (typeIs_int s k t) F.entry_int_rmul (F.args_int_rmul_2 _ _) (p5 k t a its.toArray n dd sl)
   ⟨ho,rfl,⟨_,ho,rfl⟩,call_meets F.slot_tuple_mul ⟨_,ho,rfl⟩ F.entry_tuple_mul (F.args_tuple_mul_2 _ _) (CO a its.toArray n dd sl k t hk JZ) ⟨ho,λc=>?_,λc=>?_⟩⟩)
 .refine⟨.ref a,H,I,rfl,q1 ?_⟩
  rcases c with c|c
  .refine .inl ?_
   have:its=[]:=by simpa using c
   subst this
   cases r
   rfl
  .exact .inr c
 .have c':¬(xs=[]\/k=1):=λz=>by
   rcases z with z|z
   .subst z;cases r;exact c (.inl rfl)
   .exact c (.inr z)
  refine⟨.ref _,_,I.laid (t':=s.toks) (o:= .tup (List.replicate k xs).flatten) (λb ob q=>W8 _ q) (Xf _) ⟨by simp;rw[Nat.mul_comm];exact hz,_,oF r k,?_⟩,rfl,q2 c' _ (I.aN.fresh (Xf _))⟩
  simpa using ij.new s.heap (List.replicate k its.toArray.toList).flatten.toArray
end
end L2
namespace L2
open PySem PyProof.Rows
open PySem.Spec
section
variable {κ:Type}[DecidableEq κ]
noncomputable def j'(aw:List (κ×V))(k:κ):Option V:=(aw.find? λkv=>decide (kv.1=k)).map (·.2)
noncomputable def ka(aw:List (κ×V))(k:κ)(v:V):List (κ×V):=
 if(aw.any λkv=>decide (kv.1=k))=true then aw.map (λkv=>if kv.1=k then(kv.1,v) else kv) else aw++[(k,v)]
def jw{p:κ×V}{r:List (κ×V)}{k:κ}(e:p.1=k):j' (p::r) k=some p.2:=by simp[j',Y3,e]
def jx{p:κ×V}{r:List (κ×V)}{k:κ}(e:¬p.1=k):j' (p::r) k=j' r k:=by simp[j',Y3,e]
theorem rQ(k:κ):∀aw:List (κ×V),(aw.any λkv=>decide (kv.1=k))=(j' aw k).isSome
 |[]=>rfl
 |p::r=>by
  rw[abI]
  by_cases e:p.1=k
  .simp only[jw e,decide_eq_true e,Bool.true_or,abH]
  .rw[jx e,decide_eq_false e,Bool.false_or];exact rQ k r
def kX(aw:List (κ×V))(k:κ)(v:V):(ka aw k v).length <=aw.length+1:=by
 unfold ka
 split
 .rw[Xb];lia
 .rw[Xk,Xt,YS];lia
def nM.fq(r:nM o u):o.isSome=u.isSome:=by
 cases o with
 |none=>cases u with
  |none=>rfl
  |some _=>exact(show False from r).elim
 |some _=>cases u with
  |none=>exact(show False from r).elim
  |some _=>rfl
def KV.val{aw:List (κ×V)}{vs:List (κ×Value)}(r:KV aw vs)(k:κ):nM (j' aw k) (valueAt vs k):=by
 unfold KV at r
 induction r with
 |nil=>exact True.intro
 |@cons p q ps qs h t ih=>
  obtain⟨h1,h2⟩:=h
  by_cases e:p.1=k
  .have e':q.1=k:=h1.symm.trans e
   have b:valueAt (q::qs) k=some q.2:=by simp[valueAt,Y3,e']
   rw[jw e,b];exact h2
  .have e':¬q.1=k:=λz=>e (h1.trans z)
   have b:valueAt (q::qs) k=valueAt qs k:=by simp[valueAt,Y3,e']
   rw[jx e,b];exact ih
theorem KV.any(r:KV aw vs)(k:κ):(aw.any λkv=>decide (kv.1=k))=vs.any λkv=>decide (kv.1=k):=by
 unfold KV at r
 induction r with
 |nil=>rfl
 |cons h t ih=>rw[abI,abI,ih,h.1]
def KV.Hy(r:KV aw vs)(k:κ)(ry:RelV y u):
  KV (aw.map λkv=>if kv.1=k then(kv.1,y) else kv) (vs.map λkv=>if kv.1=k then(kv.1,u) else kv):=by
 unfold KV at r⊢
 induction r with
 |nil=>exact .nil
 |@cons p q ps qs h t ih=>
  rw[Xy,Xy]
  refine .cons ?_ ih
  obtain⟨h1,h2⟩:=h
  by_cases e:p.1=k
  .rw[Xs e,Xs (h1.symm.trans e)];exact⟨h1,ry⟩
  .rw[Xx e,Xx (λz=>e (h1.trans z))];exact⟨h1,h2⟩
def KV.put(r:KV aw vs)(k:κ)(ry:RelV y u):KV (ka aw k y) (stored vs k u):=by
 unfold ka stored
 rw[r.any k]
 by_cases e:(vs.any λkv=>decide (kv.1=k))=true
 .rw[Xs e,Xs e];exact r.Hy k ry
 .rw[Xx e,Xx e];exact Paired.snoc r ⟨rfl,ry⟩
def KV.keys{aw:List (κ×V)}{vs:List (κ×Value)}(r:KV aw vs):aw.map (·.1)=vs.map (·.1):=by
 unfold KV at r
 induction r with
 |nil=>rfl
 |cons h t ih=>rw[Xy,Xy,ih,h.1]
theorem KV.length(r:KV aw vs):aw.length=vs.length:=Zr r
end
def oG(r:RelV (kV k) u):(aV P w).is k u=true:=by
 cases k with
 |inl i=>obtain⟨t,e⟩:=(show∃t,u=Value.int i t from r);subst e;exact qV P w i t
 |inr x=>obtain⟨t,e⟩:=(show∃t,u=Value.str x t from r);subst e;exact qW P w x t
theorem oH:∀{ks:List cM}{us:List Value},aA (ks.map kV) us->ItemsAre (aV P w) ks us
 |[],_,r=>by rw[aao]at r;cases r;exact .nil
 |k::ks,_,r=>by
  rw[Xy]at r
  cases r with
  |cons h t=>exact .cons (oG h) (oH t)
abbrev KT(H:Hp):List (List cM×V)->List (List cM×Addr×Value)->Prop:=Paired λp q=>p.1=q.1/\H q.2.1=some (.tup (p.1.map kV))/\RelV p.2 q.2.2
def KT.val{H:Hp}{aw:List (List cM×V)}{xs:List (List cM×Addr×Value)}(r:KT H aw xs)(k:List cM):nM (j' aw k) ((atKey xs k).map (·.2)):=by
 induction r with
 |nil=>exact True.intro
 |@cons p q ps qs h t ih=>
  refine cS h λh1 _ h2=>?_
  by_cases e:p.1=k
  .have e':q.1=k:=h1.symm.trans e
   have b:atKey (q::qs) k=some q.2:=by simp[atKey,Y3,e']
   rw[jw e,b];exact h2
  .have e':¬q.1=k:=λz=>e (h1.trans z)
   have b:atKey (q::qs) k=atKey qs k:=by simp[atKey,Y3,e']
   rw[jx e,b];exact ih
def KT.Hy(r:KT H aw xs)(k:List cM)(ry:RelV y u):
  KT H (aw.map λkv=>if kv.1=k then(kv.1,y) else kv) (xs.map (putAt k u)):=by
 induction r with
 |nil=>exact .nil
 |@cons p q ps qs h t ih=>
  rw[Xy,Xy]
  refine .cons ?_ ih
  refine cS h λh1 h2 h3=>?_
  unfold putAt
  by_cases e:p.1=k
  .rw[Xs e,Xs (h1.symm.trans e)];exact⟨h1,h2,ry⟩
  .rw[Xx e,Xx (λz=>e (h1.trans z))];exact⟨h1,h2,h3⟩
def KT.put(r:KT H aw xs)(k:List cM)(hb:H b=some (.tup (k.map kV)))(ry:RelV y u):
  KT H (ka aw k y) (storedH xs k b u):=by
 have e:(aw.any λkv=>decide (kv.1=k))=(atKey xs k).isSome :=by
  rw[rQ,(r.val k).fq,aaF]
 unfold ka storedH
 rw[e]
 by_cases q:(atKey xs k).isSome =true
 .rw[Xs q,Xs q];exact r.Hy k ry
 .rw[Xx q,Xx q];exact Paired.snoc r ⟨rfl,hb,ry⟩
def KT.keeps(r:KT H aw xs)(ht:∀b ys,H b=some (.tup ys)->H' b=some (.tup ys)):KT H' aw xs:=
 Paired.Kt r λ_ _ z=>⟨z.1,ht _ _ z.2.1,z.2.2⟩
section
variable {P:Program}{w:World}{H:Hp}{h:Heap}{a:Addr}
def Fz(ok:iL P w H h)(e:Rd H a u):aQ P w H h a u:=e.ok ok
def jy(ok:iL P w H h)(e:Rd H a (.dK aw)):aw.length<=sizeLine/\(a==sysModules)=false/\∃vs,KV aw vs/\h.DictOf (aV P w) a vs:=
 show aQ P w H h a (.dK aw) from Fz ok e
def FA(ok:iL P w H h)(e:H a=some (.dK aw)):aw.length<=sizeLine/\(a==sysModules)=false/\∃vs,KV aw vs/\h.DictOf (aV P w) a vs:=jy ok (.inl e)
def kc(ok:iL P w H h)(e:H a=some (.tup (ks.map kV))):(tupleKind (aV P w)).is h ks a:=by
 refine ao λnO=>?_
 obtain⟨_,its,r,o,h1,h2,⟨n,h3⟩,_⟩:=(show aQ P w H h a (.tup (ks.map kV)) from ok a _ e)
 exact nO<|⟨o,its.toArray,n,h1,h2,h3,by simpa using oH r⟩
def mD(ok:iL P w H h)(e:Rd H a (.dT aw)):aw.length<=sizeLine/\(a==sysModules)=false/\
  ∃xs,KT H aw xs/\h.DictOfH (tupleKind (aV P w)) a xs:=by
 refine ao λnO=>?_
 obtain⟨z,y,xs,r,o,es,ep,h1,h2,h3,h4,h5⟩:=(show aQ P w H h a (.dT aw) from Fz ok e)
 refine nO ?_
 refine⟨z,y,xs,r,o,es,ep,h1,h2,h3,h4,λx hx=>?_,h5⟩
 have all:∀{l:List (List cM×V)}{m:List (List cM×Addr×Value)},KT H l m->∀x∈m,(tupleKind (aV P w)).is h x.1 x.2.1:=by
  intro l m q
  induction q with
  |nil=>intro x hx;exact nomatch hx
  |@cons p q ps qs hq t ih=>
   intro x hx
   rcases Xl.mp hx with e|hx
   .subst e
    exact kc ok (by rw[<-hq.1];exact hq.2.1)
   .exact ih x hx
 exact all r x hx
def FC(ok:iL P w H h)(e:H a=some (.dT aw)):aw.length<=sizeLine/\(a==sysModules)=false/\
  ∃xs,KT H aw xs/\h.DictOfH (tupleKind (aV P w)) a xs:=mD ok (.inl e)
end
def p7(H:Hp)(a:Addr)(y:V)(r:Option V):Prop:=
 (∃aw k,Rd H a (.dK aw)/\y=kV k/\r=j' aw k)\/∃aw k b,Rd H a (.dT aw)/\y= .ref b/\H b=some (.tup (k.map kV))/\r=j' aw k
def Hz(H:Hp)(a:Addr)(y v:V)(H':Hp):Prop:=
 (∃aw k,H a=some (.dK aw)/\y=kV k/\aw.length<sizeLine/\H'=upd H a (.dK (ka aw k v)))\/
 ∃aw k b,H a=some (.dT aw)/\y= .ref b/\H b=some (.tup (k.map kV))/\aw.length<sizeLine/\H'=upd H a (.dT (ka aw k v))
section
variable {X:Cx}{aa:List (Addr×Obj)}{σ:St}{H:Hp}{s:Shared}{a:Addr}{y v:V}{u r:Value}{o:Option V}{A:Around}{E:Value->Shared->Prop}
def Inv.big(I:Inv X aa σ H s):sysModules<s.heap.objs.size:=by
 have h:mainGlobals<s.heap.objs.size:=(I.mod.glob.keeps I.bk).lt
 exact Zl (by decide) h
def xM(hu:A.units+1<cLine)(I:Inv X aa σ H s)(g:p7 H a y (some v))(ry:RelV y u)(h:∀w' s',Inv X aa σ H s'->RelV v w'->Q w' s'):
  wpAny (model X.prog X.w) A (getItem (.ref a) u) Q E s:=by
 rcases g with⟨aw,k,e,ey,l⟩|⟨aw,k,b,e,ey,eb,l⟩
 .refine ao λnO=>?_
  subst ey
  obtain⟨z,hd,vs,fu,dd⟩:=jy I.aN e
  exact ab (nM.some_of (v:=v) (o:=valueAt vs k) (by rw[l];exact fu.val k)) λw' hw zc=>nO<|wpAny_getItem_of (oG ry) dd.mapOf hw (h w' _ (I.tok _) zc)
 .subst ey
  cases (show u=Value.ref b from ry)
  refine ao λnO=>?_
  obtain⟨z,hd,xs,fu,dd⟩:=mD I.aN e
  refine ab (nM.some_of (v:=v) (o:=(atKey xs k).map (·.2)) (by rw[l];exact fu.val k)) λw' hw zc=>ab (ZW.mp hw) λp hp xN=>nO<|wpAny_getItem_heap (tupleKind_room_in1 hu) (kc I.aN eb) dd hp ?_
  rw[xN]
  exact h w' _ (I.tok _) zc
def P4(hu:A.units+1<cLine)(I:Inv X aa σ H s)(g:p7 H a y o)(ry:RelV y u)(h:∀s',Inv X aa σ H s'->Q (.bool o.isSome) s'):
  wpAny (model X.prog X.w) A (compareOp .In u (.ref a)) Q E s:=by
 rcases g with⟨aw,k,e,ey,l⟩|⟨aw,k,b,e,ey,eb,l⟩
 .refine ao λnO=>?_
  subst ey
  obtain⟨z,hd,vs,fu,dd⟩:=jy I.aN e
  refine nO<|wpAny_in_of (oG ry) hd dd.mapOf ?_
  rw[<-(fu.val k).fq,<-l]
  exact h _ (I.tok _)
 .subst ey
  cases (show u=Value.ref b from ry)
  refine ao λnO=>?_
  obtain⟨z,hd,xs,fu,dd⟩:=mD I.aN e
  refine nO<|wpAny_in_heap (tupleKind_room_in1 hu) (kc I.aN eb) hd dd ?_
  have q:=(fu.val k).fq
  rw[aaF]at q
  rw[<-q,<-l]
  exact h _ (I.tok _)
def CQ(hu:A.units+1<cLine)(I:Inv X aa σ H s)(g:p7 H a y o)(ry:RelV y u)(h:∀s',Inv X aa σ H s'->Q (.bool (!o.isSome)) s'):
  wpAny (model X.prog X.w) A (compareOp .NotIn u (.ref a)) Q E s:=by
 rcases g with⟨aw,k,e,ey,l⟩|⟨aw,k,b,e,ey,eb,l⟩
 .refine ao λnO=>?_
  subst ey
  obtain⟨z,hd,vs,fu,dd⟩:=jy I.aN e
  refine nO<|wpAny_notIn_of (oG ry) hd dd.mapOf ?_
  rw[<-(fu.val k).fq,<-l]
  exact h _ (I.tok _)
 .subst ey
  cases (show u=Value.ref b from ry)
  refine ao λnO=>?_
  obtain⟨z,hd,xs,fu,dd⟩:=mD I.aN e
  refine nO<|wpAny_notIn_heap (tupleKind_room_in1 hu) (kc I.aN eb) hd dd ?_
  have q:=(fu.val k).fq
  rw[aaF]at q
  rw[<-q,<-l]
  exact h _ (I.tok _)
def lL(I:Inv X aa σ H s)(mu:yI (H a))(hs:Heap.SameBut a s.heap h')(he:∃q,h'.get? a=some q)(new:aQ X.prog X.w (upd H a ob) h' a ob):
  Inv X aa σ (upd H a ob) {s with heap:=h',toks:=t'}:=
 I.write (x:=a) (e:=a) mu (.inl rfl) (λb q hb z=>(hs.2 b hb).trans z) he new
def zJ(z:aw.length<=sizeLine)(hd:(a==sysModules)=false)(fu:KV aw vs)(dd:h'.DictOf (aV P w) a vs):
  aQ P w H' h' a (.dK aw):=⟨z,hd,vs,fu,dd⟩
def xO(hu:A.units+1<cLine)(I:Inv X aa σ H s)(g:Hz H a y v H')(ry:RelV y u)(rv:RelV v r)(h:∀s',Inv X aa σ H' s'->Q () s'):
  wpAny (model X.prog X.w) A (setItem (.ref a) u r) Q E s:=by
 rcases g with⟨aw,k,e,ey,l,eH⟩|⟨aw,k,b,e,ey,eb,l,eH⟩
 .refine ao λnO=>?_
  subst ey eH
  obtain⟨z,hd,vs,fu,dd⟩:=FA I.aN e
  refine nO ?_
  have hz:vs.length<=sizeLine:=by rw[<-fu.length];exact z
  have hl:(ka aw k v).length <=sizeLine:=by have:=kX aw k v;lia
  refine wpAny_setItem_pairs (hsz:=hz) (oG ry) dd λh' CS hs=>h _ ?_
  have he:∃q,h'.get? a=some q:=let ⟨q,_,_,hq,_⟩:=CS;⟨q,hq⟩
  exact lL I (by rw[e];exact True.intro) hs he (zJ hl hd (fu.put k rv) CS)
 .subst ey eH
  cases (show u=Value.ref b from ry)
  refine ao λnO=>?_
  obtain⟨z,hd,xs,fu,dd⟩:=FC I.aN e
  refine nO ?_
  have hz:xs.length<=sizeLine:=by rw[<-Zr fu];exact z
  have hl:(ka aw k v).length <=sizeLine:=by have:=kX aw k v;lia
  refine wpAny_setItem_heap (hsz:=hz) (tupleKind_room_in1 hu) (kc I.aN eb) dd λh' CS hs=>h _<|ao λnO=>Ko CS λq es ep hq h2 h3 h4 _ h5=>nO ?_
  refine lL I (by rw[e];exact True.intro) hs ⟨q,hq⟩ ⟨hl,hd,_,(fu.put k eb rv).keeps λc ys ec=>?_,q,es,ep,hq,h2,h3,h4,h5⟩
  rw[ak (f7 ec e (λz=>nomatch z))]
  exact ec
end
def CT(i:Expr):Prop:=∀ov iv,subscripted i false ov iv=operate [ov,iv] (getItem ov iv)
def CU{prog:Program}{w:World}{A:Around}{E:Value->Shared->Prop}{s:Shared}{env:Env}{value slice:Expr}{pos:Pos}{T id:String}{Q:Value->Shared->Prop}
  (hl:typeLookup (.type T) "__getitem__"=pure (some (.builtin id))) (hs:CT slice)
  (h:wpAny (model prog w) A (eval value env) (λo aS=>wpAny (model prog w) A (eval slice env) (λi l6=>l6.TypeIs o T/\wpAny (model prog w) A (getItem o i) Q E l6) E aS) E s):
  wpAny (model prog w) A (eval (.Subscript value slice pos) env) Q E s:=by
 refine Subscript_ (YD h (λo aS CB=>YD CB (λi l6 zl=>?_) λ_ _ x=>x) λ_ _ x=>x)
 obtain⟨hT,zl⟩:=zl
 unfold subscriptTail
 refine W6 ?_
 rw[getitemInPython_of_ne hT.not_modules]
 refine W6 (wpAny_specialOf hT hl ?_)
 have fin:wpAny (model prog w) A (subscripted slice false o i) (λr xB=>wpAny (model prog w) A (letTemporaryGo value o r >>= λ_=>pure r) Q E xB) E l6:=by
  rw[hs o i]
  exact wpAny_operating (YD zl (λr xB CC=>W6 (wpAny_letTemporaryGo (Xe CC))) λ_ _ x=>x)
 first
  |exact Xe (W6 fin)
  |exact W6 (Xe (W6 fin))
  |exact W6 fin
def rR(I:Inv X aa σ H s)(g:p7 H a y o):s.TypeIs (.ref a) "dict":=by
 rcases g with⟨aw,k,e,_,_⟩|⟨aw,k,b,e,_,_,_⟩
 .obtain⟨_,_,vs,_,dd⟩:=jy I.aN e
  exact dd.typeIs
 .obtain⟨_,_,xs,_,dd⟩:=mD I.aN e
  exact dd.typeIs
def LH(td ty:TE):TE:=λσ H Q=>td σ H λx H1=>ty σ H1 λy H2=>∃a v,x= .ref a/\p7 H2 a y (some v)/\Q v H2
def P7(ty td:TE):TE:=λσ H Q=>ty σ H λy H1=>td σ H1 λx H2=>∃a o,x= .ref a/\p7 H2 a y o/\Q (.bl o.isSome) H2
def CV(ty td:TE):TE:=λσ H Q=>ty σ H λy H1=>td σ H1 λx H2=>∃a o,x= .ref a/\p7 H2 a y o/\Q (.bl (!o.isSome)) H2
def vB(td ty tv:TE):TS:=λD σ H=>tv σ H λv H1=>td σ H1 λx H2=>ty σ H2 λy H3=>∃a H4,x= .ref a/\Hz H3 a y v H4/\D.nx σ H4
section
variable {X:Cx}{o i e value:Expr}{pos q0 tpos:Pos}{td ty tv:TE}
def CW(hu:X.A.units+1<cLine)(ho:PE X o td)(hi:PE X i ty)(hs:CT i):PE X (.Subscript o i pos) (LH td ty):=by
 intro aa s σ H Q I h
 refine CU PySem.F.slot_dict_getitem.lookup hs (aW (ho aa s σ H _ I h) λu s1 zz=>a_ zz λx H1 I1 rx q1=>aW (hi aa s1 σ H1 _ I1 q1) λiv s2 zz=>?_)
 refine ao λnO=>?_
 obtain⟨y,H2,I2,ry,a,v,ex,g,q2⟩:=zz
 subst ex
 refine nO ?_
 obtain rfl:u=Value.ref a:=rx
 exact⟨rR I2 g,xM hu I2 g ry λw' s3 I3 zc=>⟨v,H2,I3,zc,q2⟩⟩
def HA(hu:X.A.units+1<cLine)(hi:PE X i ty)(ho:PE X o td):PC X .In i o (P7 ty td):=by
 intro aa s σ H Q I h
 refine aW (hi aa s σ H _ I h) λiv s1 zz=>a_ zz λy H1 I1 ry q1=>aW (ho aa s1 σ H1 _ I1 q1) λu s2 zz=>ao λnO=>?_
 obtain⟨x,H2,I2,rx,a,ov,ex,g,q2⟩:=zz
 subst ex
 refine nO ?_
 obtain rfl:u=Value.ref a:=rx
 exact P4 hu I2 g ry λs3 I3=>⟨.bl ov.isSome,H2,I3,rfl,q2⟩
def xP(hu:X.A.units+1<cLine)(hi:PE X i ty)(ho:PE X o td):PC X .NotIn i o (CV ty td):=by
 intro aa s σ H Q I h
 refine aW (hi aa s σ H _ I h) λiv s1 zz=>a_ zz λy H1 I1 ry q1=>aW (ho aa s1 σ H1 _ I1 q1) λu s2 zz=>ao λnO=>?_
 obtain⟨x,H2,I2,rx,a,ov,ex,g,q2⟩:=zz
 subst ex
 refine nO ?_
 obtain rfl:u=Value.ref a:=rx
 exact CQ hu I2 g ry λs3 I3=>⟨.bl (!ov.isSome),H2,I3,rfl,q2⟩
def vD(hu:X.A.units+1<cLine)(ho:PE X o td)(hi:PE X i ty)(hv:PE X value tv)(hs:swapsWith value (some (.Subscript o i q0)) pos.line X.env=pure false):
  PS X (.Assign [.Subscript o i q0] value pos) (vB td ty tv):=by
 intro aa s σ H D I h
 refine wpAny_Assign_Subscript (aW (hv aa s σ H _ I h) λr s1 ⟨v,H1,I1,rv,q1⟩=>aW (ho aa s1 σ H1 _ I1 q1) λu s2 ⟨x,H2,I2,rx,q2⟩=>aW (hi aa s2 σ H2 _ I2 q2) λiv s3 ⟨y,H3,I3,ry,a,H4,ex,g,q3⟩=>?_) hs
 subst ex
 obtain rfl:u=Value.ref a:=rx
 exact xO hu I3 g ry rv λs4 I4=>⟨σ,H4,I4,q3⟩
end
def zK(h:Heap)(hb:sysModules<h.objs.size):aQ P w H (h.push {cls:= .type "dict",data:= .dict #[]}) h.objs.size (.dK []):=
 ⟨XQ _,beq_eq_false_iff_ne.mpr (Ya (XD hb)),[],.nil,Heap.DictOf.new h⟩
def zL(h:Heap)(hb:sysModules<h.objs.size):aQ P w H (h.push {cls:= .type "dict",data:= .dict #[]}) h.objs.size (.dT []):=
 ⟨XQ _,beq_eq_false_iff_ne.mpr (Ya (XD hb)),[],.nil,_,#[],0,Xp _ rfl,⟨rfl,rfl,rfl⟩,rfl,rfl,List.nodup_nil⟩
section
variable {X:Cx}{pos:Pos}
end
def U0(H:Hp)(a:Addr):Prop:=(∃aw,Rd H a (.dK aw))\/∃aw,Rd H a (.dT aw)
def HB(I:Inv X aa σ H s)(d:U0 H a):
  s.TypeIs (.ref a) "dict"/\(∀b,Value.ref a= .ref b->∃ob,s.heap.get? b=some ob/\ob.dict=none)/\(a==sysModules)=false:=by
 rcases d with⟨aw,e⟩|⟨aw,e⟩
 .refine ao λnO=>?_
  obtain⟨_,hd,vs,_,dd⟩:=jy I.aN e
  refine nO ?_
  refine⟨dd.typeIs,λb q=>?_,hd⟩
  refine ao λnO=>?_
  cases q
  exact cL dd λob _ _ h1 h2 _=>nO<|⟨ob,h1,h2.2.1⟩
 .refine ao λnO=>?_
  obtain⟨_,hd,xs,_,dd⟩:=mD I.aN e
  refine nO ?_
  refine⟨dd.typeIs,λb q=>?_,hd⟩
  refine ao λnO=>?_
  cases q
  exact cL dd λob _ _ h1 h2 _=>nO<|⟨ob,h1,h2.2.1⟩
section
variable {X:Cx}{aa:List (Addr×Obj)}{σ:St}{H:Hp}{s:Shared}{a:Addr}{y d:V}{u r:Value}{o:Option V}{A:Around}{E:Value->Shared->Prop}
end
section
variable {X:Cx}{o e f:Expr}{nR gc:Pos}{td ty tx:TE}
end
end L2
namespace cN
open PySem PyProof.Rows
abbrev SM:=StateT SortSt Sem
noncomputable def b9:Bool->Keyed->Array Keyed->Nat->Nat->Nat->SM (Option Nat):=sortPriv% PySem.Builtin.gallop
noncomputable def mE:Array Keyed->Array Keyed->SM (Array Keyed):=sortPriv% PySem.Builtin.mergeLo
noncomputable def mF:Array Keyed->Array Keyed->SM (Array Keyed):=sortPriv% PySem.Builtin.mergeHi
noncomputable abbrev setG(zt:SortSt)(g:Nat):SortSt:=SortSt.mk' (kindOf zt) (arrOf zt) (pendingOf zt) g (failedOf zt)
noncomputable def a9(g:Nat):SM Unit:=modify λs=>setG s g
noncomputable def eI(left:Bool)(key:Keyed)(arr:Array Keyed)(base i:Nat):SM (Option Bool):=do {let x<-elem' arr (base+i);if left then lt' x key else return (<-lt' key x).map (!·)}
section
variable {prog:Program}{w:World}{A:Around}{E:Value->Shared->Prop}{s:Shared}{κ:SortKind}{P:Keyed->Prop}
def ba(hi:i<arr.size)(q:Q arr[i] zt):wpS (model prog w) A E s (elem' arr i) Q zt:=by
 rw[elem'_eq,XW hi]
 exact wpS_pure q
structure Sm(zt aj:SortSt):Prop where
 k:kindOf aj=kindOf zt
 a:arrOf aj=arrOf zt
 p:pendingOf aj=pendingOf zt
 f:failedOf aj=failedOf zt
def Sm.rfl':Sm zt zt:=⟨rfl,rfl,rfl,rfl⟩
theorem Sm.setG(h:Sm zt aj):Sm zt (setG aj g):=⟨h.k,h.a,h.p,h.f⟩
def Pt(a b out:Array Keyed)(i j:Nat):Prop:=out.toList.Perm (a.toList.take i++b.toList.take j)
def dM(X Y Z:List α):((X++Y)++Z).Perm ((X++Z)++Y):=by
 rw[XI,XI]
 exact Zn X abn
section
variable {a b out:Array Keyed}{i j k:Nat}
def fx(a:Array Keyed):a.toList.take i++(a.extract i (i+k)).toList =a.toList.take (i+k):=by
 rw[YM]
 unfold List.extract
 rw[show i+k-i=k by lia,List.take_add]
def Pt.p8(h:Pt a b out i j):Pt a b (out++b.extract j (j+k)) i (j+k):=by
 unfold Pt at h⊢
 rw[Xo,<-fx b,<-XI]
 exact h.append_right _
def Pt.p9(h:Pt a b out i j):Pt a b (out++a.extract i (i+k)) (i+k) j:=by
 unfold Pt at h⊢
 rw[Xo,<-fx a]
 exact(h.append_right _).trans (dM _ _ _)
def gX(hi:i<a.size):(a.extract i (i+1)).toList =[a[i]]:=by
 rw[YM]
 unfold List.extract
 have iP:i<a.toList.length:=by simpa using hi
 rw[show i+1-i=1 by lia,X9 iP]
 simp
def vE(a:Array Keyed)(hi:i<=a.size):a.toList.take i++(a.extract i a.size).toList =a.toList:=by
 have:=fx a (i:=i) (k:=a.size-i)
 rw[show i+(a.size-i)=a.size by lia]at this
 rw[this]
 exact X3 (by simp)
def Pt.done(h:Pt a b out i j)(hi:i<=a.size)(hj:j<=b.size):((out++a.extract i a.size)++b.extract j b.size).toList.Perm (a.toList++b.toList):=by
 unfold Pt at h
 rw[Xo,Xo]
 refine((h.append_right _).append_right _).trans<|((dM _ _ _).append_right _).trans ?_
 rw[vE a hi,XI,vE b hj]
def Pt.last(h:Pt a b out i j)(hi:i<=a.size)(hj:j<=b.size):((out++b.extract j b.size)++a.extract i a.size).toList.Perm (a.toList++b.toList):=by
 refine List.Perm.trans ?_ (h.done hi hj)
 simp only[Xo]
 exact dM _ _ _
end
def gg[Decidable c](t:c->wpS (model prog w) A E s x Q zt)(f:¬c->wpS (model prog w) A E s y Q zt):wpS (model prog w) A E s (if c then x else y) Q zt:=by
 split
 .exact t ‹_›
 .exact f ‹_›
def Ph(a b out:Array Keyed)(i j:Nat):Prop:=((a.toList.take i++b.toList.take j)++out.toList).Perm (a.toList++b.toList)
section
variable {a b out:Array Keyed}{i j k:Nat}
def rS(a:Array Keyed)(h:k<=i):a.toList.take k++(a.extract k i).toList =a.toList.take i:=by
 have:=fx a (i:=k) (k:=i-k)
 rwa [show k+(i-k)=i by lia]at this
def dR(a:Array Keyed):(a.extract 0 i).toList =a.toList.take i:=by
 rw[YM]
 unfold List.extract
 simp
def Ph.p9(h:Ph a b out i j)(hk:k<=i)(_:i<=a.size):Ph a b (out++(a.extract k i).reverse) k j:=by
 unfold Ph at h⊢
 refine List.Perm.trans ?_ h
 rw[Xo,Ye,<-rS a hk,<-XI]
 exact(Zn _ (aaG _)).trans<|(dM _ _ _).trans<|(dM _ _ _).append_right _
def Ph.p8(h:Ph a b out i j)(hk:k<=j)(_:j<=b.size):Ph a b (out++(b.extract k j).reverse) i k:=by
 unfold Ph at h⊢
 refine List.Perm.trans ?_ h
 rw[Xo,Ye,<-rS b hk,<-XI,<-XI]
 exact(Zn _ (aaG _)).trans<|dM _ _ _
def jz(h1:1<=i)(hi:i-1<a.size):(a.extract (i-1) i).toList =[a[i-1]]:=by
 have:=gX (a:=a) (i:=i-1) hi
 rwa [show i-1+1=i by lia]at this
def Ph.done(h:Ph a b out i j):((a.extract 0 i++b.extract 0 j)++out.reverse).toList.Perm (a.toList++b.toList):=by
 unfold Ph at h
 refine List.Perm.trans ?_ h
 rw[Xo,Xo,dR,dR,Ye]
 exact Zn _ (aaG _)
def Ph.first(h:Ph a b out i j):((b.extract 0 j++a.extract 0 i)++out.reverse).toList.Perm (a.toList++b.toList):=by
 refine List.Perm.trans ?_ h.done
 simp only[Xo]
 exact abn.append_right _
end
end
section
variable {prog:Program}{w:World}{A:Around}{E:Value->Shared->Prop}{s:Shared}{κ:SortKind}{P:Keyed->Prop}
structure Ar(zt aj:SortSt):Prop where
 k:kindOf aj=kindOf zt
 a:(arrOf aj).Perm (arrOf zt)
 p:pendingOf aj=pendingOf zt
 f:failedOf aj=failedOf zt
def Ar.rfl':Ar zt zt:=⟨rfl,aai _,rfl,rfl⟩
def Ar.set(h:Ar zt aj)(hx:x.Perm (arrOf aj)):Ar zt (setArr aj x):=⟨h.k,hx.trans h.a,h.p,h.f⟩
theorem Ar.size(h:Ar zt aj):(arrOf aj).size =(arrOf zt).size :=h.a.size_eq
def Ar.all(h:Ar zt aj)(hp:∀x∈arrOf zt,P x):∀x∈arrOf aj,P x:=λx hx=>hp x (h.a.mem_iff.mp hx)
def vF(q:Q () (setArr zt (mirror (arrOf zt) i j ((j-i)/2)))):wpS (model prog w) A E s (reverseSlice' i j) Q zt:=by
 rw[reverseSlice'_eq]
 exact wpS_modify q
def rV(i:Nat):mergeAt' i=(do
  let s<-get
  let (some (sa,na,power),some (sb,nb,_)):=((pendingOf s)[i]?,(pendingOf s)[i+1]?)|unsupported "internal:list.sort.pending"
  set (setPending s (((pendingOf s).setIfInBounds i (sa,na+nb,power)).eraseIdxIfInBounds (i+1)))
  let some k<-b9 false (<-elem' (arrOf s) sb) (arrOf s) sa na 0|return false
  let (sa,na):=(sa+k,na-k)
  if na==0 then return true
  let some nb<-b9 true (<-elem' (arrOf s) (sa+na-1)) (arrOf s) sb nb (nb-1)|return false
  if nb==0 then return true
  let x:=(arrOf s).extract sa sb
  let y:=(arrOf s).extract sb (sb+nb)
  let merged<-if na<=nb then mE x y else mF x y
  modify λs=>setArr s (merged.toList.zipIdx.foldl (λa (p,j)=>a.setIfInBounds (sa+j) p) (arrOf s))
  return (failedOf (<-get)).isNone):=rfl
def CY{σ:Type}{M:Model}{zt aj:σ}{Q:PUnit->σ->Prop}(h:Q ⟨⟩ aj):wpS M A E s (set aj:StateT σ Sem PUnit) Q zt:=by
 unfold wpS
 rw[StateT.run_set]
 exact Xe ⟨rfl,h⟩
theorem p_:∀(ms:List Keyed) (o j:Nat) (a:Array Keyed),o+j+ms.length<=a.size->
  ((ms.zipIdx j).foldl (λa (p:Keyed×Nat)=>a.setIfInBounds (o+p.2) p.1) a).toList =a.toList.take (o+j)++ms++a.toList.drop (o+j+ms.length)
 |[],o,j,a,h=>by simp
 |m::ms,o,j,a,h=>by
  rw[Xt]at h
  rw[List.zipIdx_cons,List.foldl_cons,p_ ms o (j+1) _ (by rw[Array.size_setIfInBounds];lia)]
  have e:(a.setIfInBounds (o+j) m).toList =a.toList.set (o+j) m:=Zv ..
  have hl:o+j<a.toList.length:=by rw[XE];lia
  rw[e,List.set_eq_take_append_cons_drop,Xs hl,Xt]
  have ht:(List.take (o+j) a.toList).length =o+j:=by rw[YB];lia
  have e5:(a.toList.take (o+j)++m::a.toList.drop (o+j+1)).take (o+(j+1))=a.toList.take (o+j)++[m]:=by
   rw[List.take_append,ht,show o+(j+1)-(o+j)=1 by lia,X3 (by rw[ht];lia)]
   rfl
  have e6:(a.toList.take (o+j)++m::a.toList.drop (o+j+1)).drop (o+(j+1)+ms.length)=a.toList.drop (o+j+(ms.length+1)):=by
   rw[List.drop_append,ht,show o+(j+1)+ms.length-(o+j)=ms.length+1 by lia,List.drop_of_length_le (by rw[ht];lia),YT,List.drop_succ_cons,aat]
   congr 1
   lia
  rw[e5,e6]
  simp
def vG{a:Array Keyed}{i j:Nat}{x:Keyed}(h:x∈a.extract i j):x∈a:=by
 rw[<-YN,YM]at h
 unfold List.extract at h
 exact YN.mp (YZ (YO h))
def LI[Decidable c](h1:x+1<n)(h2:y+1<n):(if c then x else y)+1<n:=by split<;>assumption
end
open PySem.W
def lE(h:Heap)(v:Value):Prop:=∃(x:Addr) (o:Obj) (xs:List Value) (n:Nat) (i:Int) (r:List Int),v= .ref x/\h.get? x=some o/\o.cls= .type "tuple"/\o.data= .seq xs.toArray n/\IntsAre xs (i::r)
section
variable {prog:Program}{w:World}{A:Around}{E:Value->Shared->Prop}{s:Shared}
theorem kY:∀{vs:List Value},(∀v∈vs,lE h v)->∃fs,KatTups h vs fs/\(∀f∈fs,∃i t,f=Value.int i t)/\fs.length=vs.length
 |[],_=>⟨[],.nil,λ_ z=>(nomatch z),rfl⟩
 |v::vs,hv=>by
  refine bF (kY (vs:=vs) λz hz=>hv z (W_ _ hz)) λfs h1 h2 h3=>Kq (hv v Xd) λx o xs n i r ah g1 g2 g3 g4=>?_
  subst ah
  cases g4 with
  |cons _ t g5=>exact⟨_,.cons g1 g2 g3 rfl h1,λf hf=>(Xl.mp hf).elim (λz=>⟨i,t,z⟩) (h2 f),by rw[Xt,Xt,h3]⟩
def rW(vs:List Value):(vs.toArray.zip vs.toArray).map (λp:Keyed=>p.2)=vs.toArray:=by
 apply Array.toList_inj.mp
 rw[aac,Array.toList_zip]
 exact aaW (Xf _)
end
end cN
namespace L2
open PySem PySem.Spec PyProof.Rows
def gh(h:Heap)(d:Addr)(es:Array DictEntry)(ep:Nat):Prop:=∃o,h.get? d=some o/\o.ExactDict/\o.data= .dict es ep
def gh.ty{s:Shared}{d:Addr}{es:Array DictEntry}{ep:Nat}(r:gh s.heap d es ep):s.TypeIs (.ref d) "dict":=let ⟨o,e,c,_⟩:=r;⟨o,e,c.1⟩
def gh.on(r:gh h d es ep)(k:∀o,h.get? d=some o->h'.get? d=some o):gh h' d es ep:=let ⟨o,e,c⟩:=r;⟨o,k o e,c⟩
def gh.lt{h:Heap}{d:Addr}{es:Array DictEntry}{ep:Nat}(r:gh h d es ep):d<h.objs.size:=let ⟨_,e,_⟩:=r;Xm e
section
variable {prog:Program}{w:World}{A:Around}{E:Value->Shared->Prop}{s:Shared}{d:Addr}{es:Array DictEntry}{ep:Nat}
end
open PySem.W
section
variable {prog:Program}{w:World}{A:Around}{E:Value->Shared->Prop}{s:Shared}{d it:Addr}{es:Array DictEntry}{ep i:Nat}
def rX(hm:(d==sysModules)=false)(r:gh s.heap d es ep)(h:Q (.ref s.heap.objs.size) {s with heap:=s.heap.push {cls:= .type "dict_keyiterator",data:= .fields #[.ref d,.int 0 0,.int es.size 0,.int ep 0]}}):
  wpAny (model prog w) A (pyIter (.ref d)) Q E s:=by
 have T:=r.ty
 refine bF r λo e c dt=>wpAny_pyIter_slot T F.slot_dict_iter (Yk F.slot_dict_iter T F.entry_dict_iter ?_ (F.args_dict_iter_1 _))
 unfold Builtin.«dict.__iter__» Builtin.Dict.dictSlotNone
 refine W6 (W6 (wpAny_notOrdered_dict T ?_))
 show wpAny _ _ (pure (Value.ref d)) _ _ s
 refine Xe ?_
 show wpAny _ _ (Builtin.Dict.showsAll d >>= λ_=>_) _ _ s
 unfold Builtin.Dict.showsAll
 rw[Xx (by rw[hm];exact Xa)]
 refine W6 (Xe (W6 (aaH e dt (W6 (abo e dt ?_)))))
 refine W6 (XJ (Xe ⟨_,rfl,"dict_keyiterator",_,⟨_,Xp _ rfl,rfl⟩,Yz.lookup,?_⟩))
 simpa[rawInt]using h
def rY(k:s.heap.IsKeyIter it d i es.size ep)(r:gh s.heap d es ep)(hi:i<es.size)
  (h:∀h',h'.IsKeyIter it d (i+1) es.size ep->Heap.SameBut it s.heap h'->Q (some es[i].key) {s with heap:=h'}):wpAny (model prog w) A (pyNext (.ref it)) Q E s:=by
 have T:=k.typeIs
 refine bF (id k) λoi ei ci di=>bF r λo e c dt=>?_
 unfold pyNext
 refine W6 (wpAny_attempt (Yn (name:=Str.ofString "__next__") T Yz (Yk Yz T aad ?_ (Z8 _))))
 refine W6 (Xe (W6 (W6 ?_)))
 first|refine W6 (YL T (Xe (W6 (aau ei di ?_))))|refine W6 (Y4 T (Xe (W6 (aau ei di ?_))))
 have own:Builtin.Dict_items.ownsTuple "dict_keyiterator"=false:=by decide
 simp only[own,Yr,if_false]
 show wpAny _ _ (if(Value.ref d==Value.none)=true then _ else _) _ _ s
 rw[Xx (show¬((Value.ref d==Value.none)=true) from Xa)]
 refine W6 (Xe (W6 (aaH e dt ?_)))
 rw[Xx (by simp)]
 refine W6 (Xe (W6 (abo e dt ?_)))
 rw[Xx (by simp)]
 refine Xe ?_
 simp only[show¬((i:Int)<0) from by lia,if_false,Yd,XW hi]
 refine W6 ?_
 first|refine W6 (YL T (Xe (W6 (Z9 T ?_))))|refine W6 (Y4 T (Xe (W6 (Z9 T ?_))))
 show wpAny _ _ (setField (.ref it) 1 (rawInt ((i:Int)+1)) >>= λ_=>_) _ _ s
 refine W6 (Z6 ei di (by simp) ?_)
 have k':(s.heap.update it (Obj.mapFields (·.setIfInBounds 1 (rawInt ((i:Int)+1))))).IsKeyIter it d (i+1) es.size ep:=
  ⟨_,YY _ ei (Obj.isFreed_of_fields (ZO di _)),(Obj.cls_mapFields ..).trans ci,by rw[ZO di];simp[rawInt]⟩
 refine W6 (X6 (W6 (Z9 (s:={s with heap:=s.heap.update it (Obj.mapFields (·.setIfInBounds 1 (rawInt ((i:Int)+1))))}) k'.typeIs ?_)))
 show wpAny _ _ (pure es[i].key) _ _ _
 exact Xe (Xe ⟨_,rfl,Xe (h _ k' (ZG ..))⟩)
def vH(hh:A.handled=none)(k:s.heap.IsKeyIter it d es.size es.size ep)(r:gh s.heap d es ep)(h:∀h',Heap.ExtBut it s.heap h'->Q none {s with heap:=h'}):wpAny (model prog w) A (pyNext (.ref it)) Q E s:=by
 have T:=k.typeIs
 refine bF (id k) λoi ei ci di=>bF r λo e c dt=>?_
 unfold pyNext
 refine W6 (wpAny_attempt (Yn (name:=Str.ofString "__next__") T Yz (Yk Yz T aad ?_ (Z8 _))))
 refine W6 (Xe (W6 (W6 ?_)))
 first|refine W6 (YL T (Xe (W6 (aau ei di ?_))))|refine W6 (Y4 T (Xe (W6 (aau ei di ?_))))
 have own:Builtin.Dict_items.ownsTuple "dict_keyiterator"=false:=by decide
 simp only[own,Yr,if_false]
 show wpAny _ _ (if(Value.ref d==Value.none)=true then _ else _) _ _ s
 rw[Xx (show¬((Value.ref d==Value.none)=true) from Xa)]
 refine W6 (Xe (W6 (aaH e dt ?_)))
 rw[Xx (by simp)]
 refine W6 (Xe (W6 (abo e dt ?_)))
 rw[Xx (by simp)]
 refine Xe ?_
 simp only[show¬((es.size:Int)<0) from by lia,if_false,Yd,Array.getElem?_eq_none (Xf es.size)]
 refine W6 ?_
 first|refine W6 (YL T (Xe ?c))|refine W6 (Y4 T (Xe ?c))
 case c=>
  show wpAny _ _ (setField (.ref it) 0 .none >>= λ_=>_) _ _ s
  refine W6 (Z6 ei di (by simp) ?_)
  show wpAny _ _ (newExc (.type "StopIteration") [] >>= λ_=>_) _ _ _
  refine W6 ?_
  simp only[newExc,newTuple]
  refine W6 (XJ (W6 (m:=firstArgMember _ _) (wpAny_of_eq (a:=Value.none) (by first|rfl|(simp only[firstArgMember];rfl)) (XJ ?_ (by size_fits)))) (by size_fits))
  simp only[raiseNew]
  refine W6 (wpAny_handled ?_)
  rw[show A.in1.handled=none from hh]
  refine(W6 (Xe (wpAny_throw ?_)))
  refine(W6 (wpAny_isInstance (T:="StopIteration") (b:=true) ⟨_,Xp _ rfl,rfl⟩ isSubtype_stop ?_))
  exact Xe (h _ (((ZG ..).extBut.push _).push _))
def rZ(k:s.heap.IsKeyIter it d i n ep)(h:Q (.ref it) s):wpAny (model prog w) A (pyIter (.ref it)) Q E s:=wpAny_pyIter_keyiter k h
def xQ(hh:A.handled=none)(it d:Addr)(gx:d≠it)(es:Array DictEntry)(ep:Nat):Walks prog w A it [it,d] [it] es.size (λi v=>∃e,es[i]?=some e/\v=e.key) (λi h=>h.IsKeyIter it d i es.size ep/\gh h d es ep) where
 sub:=λb hb=>by simp at hb;simp[hb]
 frame:=λ_ _ _ st hk=>⟨st.1.at λo e=>hk it (by simp) o e,st.2.on λo e=>hk d (by simp) o e⟩
 item:=λi s Q E hi st hQ=>rY st.1 st.2 hi λh' k' hs=>hQ _ h' s.toks ⟨_,XW hi,rfl⟩ ⟨k',st.2.on λo e=>hs.extBut d o gx e⟩ λb o hb e=>hs.extBut b o (λz=>hb (by simp[z])) e
 done:=λs Q E st hQ=>vH hh st.1 st.2 λh' he=>hQ h' s.toks λb o hb e=>he b o (λz=>hb (by simp[z])) e
 self:=λ_ _ _ _ st hQ=>rZ st.1 hQ
def vI(lo:(d==sysModules)=false):KdlSrc prog w "dict" d d es.size (λi v=>∃e,es[i]?=some e/\v=e.key) (λh=>gh h d es ep) where
 type:=λ_ r=>r.ty
 there:=λ_ r=>⟨r.lt,r.lt⟩
 keep:=λ_ _ r hk=>r.on λo e=>hk d (.inl rfl) o e
 notList:=by decide
 notTuple:=by decide
 hint:=λ_ _ _ _ r hq=>kdl_hint_dict r.ty hq
 iter:=λA s hh r=>⟨_,λi h=>h.IsKeyIter s.heap.objs.size d i es.size ep/\gh h d es ep,(λ_ _ hq=>rX lo r hq),xQ hh _ d (XD r.lt) es ep,⟨⟨_,Xp _ rfl,rfl,rfl⟩,r.on λo e=>W8 _ e⟩⟩
end
def uB(I:Inv X aa σ H s)(e:Rd H a (.dK aw)):∃es ep,gh s.heap a es ep/\es.size=aw.length/\(a==sysModules)=false/\aw.length<=sizeLine/\∀(i:Nat) (kv:cM×V),aw[i]?=some kv->∃en,es[i]?=some en/\RelV (kV kv.1) en.key:=by
 refine ao λnO=>?_
 obtain⟨z,lo,vs,fu,o,es,ep,h1,h2,h3,h4,h5,h6⟩:=jy I.aN e
 refine nO ?_
 have hl:es.size=aw.length:=by rw[fu.length,<-h5.length];simp
 refine⟨es,ep,⟨o,h1,h2,h3⟩,hl,lo,z,λi kv hi=>?_⟩
 have bJ:i<aw.length:=(Xu.mp hi).1
 have zE:i<es.size:=by lia
 have Ss:i<vs.length:=by rw[<-fu.length];exact bJ
 refine⟨es[i],XW zE,?_⟩
 have hk:=(h5.get? (e:=es[i]) (k:=vs[i].1) (v:=vs[i].2) (i:=i) (by rw[X8];exact XW zE) (W9 Ss)).1
 have he:vs[i].1 =kv.1:=by
  have:=congrArg (λl:List cM=>l[i]?) fu.keys
  simp only[Xn,hi,W9 Ss,ZN]at this
  exact(Xw this).symm
 rw[he]at hk
 rcases aZ (show lZ kv.1 es[i].key =true from hk)with⟨n,t,e1,e2⟩|⟨x,t,e1,e2⟩
 .rw[e1,e2];exact⟨t,rfl⟩
 .rw[e1,e2];exact⟨t,rfl⟩
section
variable {X:Cx}
end
noncomputable def P8(a:Addr)(o:Obj)(aw:List (cM×V)):It:=
 ⟨λi H=>H a=some (.dH o (.dK aw))/\i<aw.length,λi H x H'=>H'=H/\(aw[i]?).map (λkv=>kV kv.1)=some x,λi H=>H a=some (.dH o (.dK aw))/\i=aw.length⟩
def vJ(I:Inv X aa σ H s)(e:H a=some (.dH o (.dK aw)))(hd:o.data= .dict es ep):
  gh s.heap a es ep/\es.size=aw.length/\∀(i:Nat) (kv:cM×V),aw[i]?=some kv->∃en,es[i]?=some en/\RelV (kV kv.1) en.key:=by
 refine ao λnO=>kP (uB I (.inr ⟨o,e⟩)) λCa Gq r1 r2 _ _ r5=>?_
 have ho:s.heap.get? a=some o:=(show aQ X.prog X.w H s.heap a (.dH o (.dK aw)) from I.aN a _ e).1
 refine bF (id r1) λo' g1 g2 g3=>?_
 rw[ho]at g1
 cases g1
 rw[hd]at g3
 cases g3
 exact nO<|⟨r1,r2,r5⟩
def CZ{P:Program}{w:World}{K:PySem.W.Frag}{tg:Expr}(a it:Addr)(gx:a≠it)(o:Obj)(aw:List (cM×V))(es:Array DictEntry)(ep:Nat)(hd:o.data= .dict es ep):rf P w K tg (P8 a o aw) [it] it (λi h=>h.IsKeyIter it a i es.size ep) where
 mem:=by simp
 obj:=λi h st b hb=>by
  have e:b=it:=by simpa using hb
  refine ao λnO=>?_
  subst e
  exact bF st λo e c d=>nO<|⟨o,e,λv z=>by rw[d]at z;cases z⟩
 keep:=λi h h' st k=>st.at λo e=>k it (by simp) o e
 item:=by
  intro X hP hw hK hc i aa s σ H E I hf st hg
  refine ao λnO=>?_
  subst hP hw hK
  obtain⟨e1,e2⟩:=hg
  refine cS (vJ I e1 hd) λr1 r2 r3=>va (hf it (by simp)) λf0 f1 f2 f3 f4 f5=>?_
  have hi:i<es.size:=by lia
  refine ab (r3 i aw[i] (W9 e2)) λen n1 n2=>?_
  rw[XW hi]at n1
  cases n1
  refine nO<|rY st r1 hi λh' k' hs=>?_
  have I1:Inv X aa σ H {s with heap:=h'}:=I.turned (t':=s.toks) (λb o hb e=>(hs.2 b hb).trans e) f0 f1 f3 f4 f5
  exact ao λnO=>bF (id k') λoi g1 g2 g3=>nO<|⟨_,rfl,rg (s:={s with heap:=h'}) g1 g2 g3 (by decide) ⟨_,H,I1,n2,⟨rfl,by rw[W9 e2];rfl⟩,k',λb hb=>(hf b hb).1⟩⟩
 done:=by
  intro X hP hw hK hc i aa s σ H E I hf st hg
  refine ao λnO=>?_
  subst hP hw hK
  obtain⟨e1,e2⟩:=hg
  refine cS (vJ I e1 hd) λr1 r2 r3=>va (hf it (by simp)) λf0 f1 f2 f3 f4 f5=>?_
  have e:i=es.size:=by lia
  subst e
  exact nO<|vH (I.ok.hd hc) st r1 λh' eb=>⟨rfl,I.turned (t':=s.toks) (λb o hb e=>eb b o hb e) f0 f1 f3 f4 f5⟩
 self:=λ_ _ _ _ _ st h=>rZ st h
section
variable {X:Cx}{tg:Expr}
def U1(tl:TE):TI:=λσ H R=>tl σ H λx H1=>∃a o aw,x= .ref a/\H1 a=some (.dH o (.dK aw))/\R (P8 a o aw) H1
def LJ{l:Expr}{tl:TE}(hl:PE X l tl):PI X tg l (U1 tl):=by
 intro aa s σ H R I h
 refine aW (hl aa s σ H _ I h) λv s1 zz=>a_ zz λx H1 I1 r1 q1=>cL q1 λa o aw e hq q=>?_
 subst e
 cases r1
 refine kP (uB I1 (.inr ⟨o,hq⟩)) λes ep g1 g2 g3 g4 g5=>?_
 have ho:s1.heap.get? a=some o:=(show aQ X.prog X.w H1 s1.heap a (.dH o (.dK aw)) from I1.aN a _ hq).1
 have hd:o.data= .dict es ep:=by
  refine bF (id g1) λo' z1 z2 z3=>?_
  rw[ho]at z1
  cases z1
  exact z3
 refine rX g3 g1 ?_
 refine⟨s1.heap.objs.size,[s1.heap.objs.size],_,_,H1,rfl,I1.kept (t':=s1.toks) λb o e=>W8 _ e,CZ a _ (XD (Xm ho)) o aw es ep hd,⟨_,Xp _ rfl,rfl,rfl⟩,λb hb=>?_,q⟩
 have e:b=s1.heap.objs.size:=by simpa using hb
 subst e
 exact I1.xk (Xf _) (I1.aN.fresh (Xf _))
def LK(tk tv:TE):TE:=λσ H Q=>∀p,H p=none->tk σ (upd H p (.dT [])) λx H1=>tv σ H1 λy H2=>∃b ks,x= .ref b/\H2 b=some (.tup (ks.map kV))/\H2 p=some (.dT [])/\Q (.ref p) (upd H2 p (.dT [(ks,y)]))
def C0(hu:X.A.units+1<cLine)(hk:PE X k tk)(hv:PE X v tv):PE X (.Dict [some k] [v] pos) (LK tk tv):=by
 intro aa s σ H Q I h
 have hn:H s.heap.objs.size=none:=I.aN.fresh (Xf _)
 refine wpAny_Dict_any rfl rfl (by simp) (show 1<=15 by decide) ?_
 have I0:Inv X aa σ (upd H s.heap.objs.size (.dT [])) {s with heap:=s.heap.push {cls:= .type "dict",data:= .dict #[]}}:=I.laid (a:=s.heap.objs.size) (o:= .dT []) (t':=s.toks) (λ_ _ q=>W8 _ q) (Xf _) (zL s.heap I.big)
 refine pairTrees_cons_walk (aW (hk aa _ σ _ _ I0 (h _ hn)) λkv s1 ⟨x,H1,I1,r1,q1⟩=>aW (hv aa s1 σ H1 _ I1 q1) λvv s2 ⟨y,H2,I2,r2,q2⟩=>pairTrees_nil_walk ?_)
 refine ao λnO=>gq q2 λb ks ex eb ep q3=>?_
 subst ex
 cases r1
 refine nO ?_
 unfold storeAll
 rw[Y2]
 refine ao λnO=>?_
 obtain⟨z,hd,xs,fu,dd⟩:=FC I2.aN ep
 cases fu
 refine nO ?_
 refine W6 (W6 (wpAny_dictSet_heap (hsz:=XQ _) (knd:=tupleKind (aV X.prog X.w)) (show X.A.units<cLine by lia) (kc I2.aN eb) dd λh' CS hs=>Xe ?_))
 dsimp only
 rw[List.forIn_nil]
 refine Xe ⟨.ref s.heap.objs.size,_,?_,rfl,q3⟩
 refine ao λnO=>Ko CS λo es e2 g1 g2 g3 g4 _ g5=>nO ?_
 refine lL I2 (by rw[ep];exact True.intro) hs ⟨o,g1⟩ ⟨by rw[sizeLine_eq];exact(by decide:(1:Nat)<=16777216),hd,_,?_,o,es,e2,g1,g2,g3,g4,g5⟩
 refine .cons ⟨rfl,?_,r2⟩ .nil
 rw[ak (f7 eb ep (λz=>nomatch z))]
 exact eb
end
end L2
namespace cN
open PySem PyProof.Rows
structure Ord(r:Keyed->Keyed->Bool):Prop where
 N8:∀x y,r x y=true->r y x=false
 tr:∀x y z,r y x=false->r z y=false->r z x=false
def le(r:Keyed->Keyed->Bool)(x y:Keyed):Prop:=r y x=false
section
variable {r:Keyed->Keyed->Bool}
def Ord.refl(O:Ord r)(x:Keyed):le r x x:=by
 show r x x=false
 cases h:r x x with
 |false=>rfl
 |true=>exact(O.N8 x x h).symm.trans h |>.symm ▸rfl
def Ord.of_lt(O:Ord r)(h:r x y=true):le r x y:=O.N8 x y h
def Ord.trans(O:Ord r)(h1:le r x y)(h2:le r y z):le r x z:=O.tr x y z h1 h2
end
section
variable {prog:Program}{w:World}{A:Around}{E:Value->Shared->Prop}{s:Shared}{κ:SortKind}{P:Keyed->Prop}{r:Keyed->Keyed->Bool}
def lF(prog:Program)(w:World)(A:Around)(E:Value->Shared->Prop)(s:Shared)(κ:SortKind)(P:Keyed->Prop)(r:Keyed->Keyed->Bool):Prop:=
 ∀(x y:Keyed) (zt:SortSt) (Q:Option Bool->SortSt->Prop),P x->P y->kindOf zt=κ->Q (some (r x y)) zt->wpS (model prog w) A E s (lt' x y) Q zt
noncomputable def uC(r:Keyed->Keyed->Bool)(left:Bool)(key x:Keyed):Bool:=if left then r x key else !r key x
def zM{left:Bool}{key:Keyed}{arr:Array Keyed}{base i:Nat}{zt:SortSt}{Q:Option Bool->SortSt->Prop}(L:lF prog w A E s κ P r)(hk:kindOf zt=κ)(hp:P key)(ha:∀x∈arr,P x)(hi:base+i<arr.size)(q:Q (some (uC r left key arr[base+i])) zt):
  wpS (model prog w) A E s (eI left key arr base i) Q zt:=by
 unfold eI
 refine wpS_bind (ba hi ?_)
 have hx:=ha _ (X5 hi)
 cases left with
 |true=>exact L _ _ zt _ hx hp hk q
 |false=>exact wpS_bind (L _ _ zt _ hp hx hk (wpS_pure q))
def zN(O:Ord r)(h:le r x y)(hy:uC r left key y=true):uC r left key x=true:=by
 unfold uC at hy⊢
 cases left with
 |true=>
  have BX:r y key=true:=hy
  show r x key=true
  cases e:r x key with
  |true=>rfl
  |false=>
   have:=O.tr key x y e h
   rw[this]at BX
   cases BX
 |false=>
  have BX:(!r key y)=true:=hy
  show(!r key x)=true
  have h1:r key y=false:=by simpa using BX
  have:=O.tr x y key h h1
  simp[this]
abbrev W3:=Option (Option Nat)×Nat×Nat
noncomputable def P9(left:Bool)(key:Keyed)(arr:Array Keyed)(base n hint l o:Nat):SM (ForInStep W3):=do
 if o ≥ n-hint then return .done (none,l,o)
 let some more<-eI left key arr base (hint+o)|return .done (some none,l,o)
 if !more then return .done (none,l,o)
 return .yield (none,o,2*o+1)
noncomputable def P_(left:Bool)(key:Keyed)(arr:Array Keyed)(base hint l o:Nat):SM (ForInStep W3):=do
 if o ≥ hint+1 then return .done (none,l,o)
 let some found<-eI left key arr base (hint-o)|return .done (some none,l,o)
 if found then return .done (none,l,o)
 return .yield (none,o,2*o+1)
noncomputable def P'(left:Bool)(key:Keyed)(arr:Array Keyed)(base lo hi:Nat):SM (ForInStep W3):=do
 if lo ≥ hi then return .done (none,lo,hi)
 let some more<-eI left key arr base (lo+(hi-lo)/2)|return .done (some none,lo,hi)
 if more then return .yield (none,lo+(hi-lo)/2+1,hi) else return .yield (none,lo,lo+(hi-lo)/2)
noncomputable def N9(left:Bool)(key:Keyed)(arr:Array Keyed)(base n lo hi:Nat):SM (Option Nat):=do
 let c<-forIn [0:n] ((none,lo,hi):W3) λ_ c=>P' left key arr base c.2.1 c.2.2
 match c.1 with
 |some r=>pure r
 |none=>pure (some c.2.2)
def LL(left:Bool)(key:Keyed)(arr:Array Keyed)(base n hint:Nat):b9 left key arr base n hint=(do
  let some right<-eI left key arr base hint|return none
  if right then
   let c<-forIn [0:n] ((none,0,1):W3) λ_ c=>P9 left key arr base n hint c.2.1 c.2.2
   match c.1 with
   |some r=>pure r
   |none=>N9 left key arr base n (hint+c.2.1+1) (hint+min c.2.2 (n-hint))
  else
   let c<-forIn [0:n] ((none,0,1):W3) λ_ c=>P_ left key arr base hint c.2.1 c.2.2
   match c.1 with
   |some r=>pure r
   |none=>N9 left key arr base n (hint+1-min c.2.2 (hint+1)) (hint-c.2.1)):=by kernel_rfl
section
variable {left:Bool}{key:Keyed}{arr:Array Keyed}{base n hint lo hi:Nat}{zt:SortSt}{Q:Option Nat->SortSt->Prop}{f:Nat->Bool}
def Qa{lo hi:Nat}(h:lo<hi):lo+(hi-lo)/2<hi:=Nat.lt_of_lt_of_eq (Yi (Nat.div_lt_self (ZZ h) (by decide)) lo) (X' (Yb h))
def U2{lo hi i n:Nat}(h:lo<hi)(z:hi-lo+i<=n):hi-(lo+(hi-lo)/2+1)+(i+1)<=n:=by
 rw[aav,<-ZQ,abJ,aaq (ZZ (Qa h))]
 exact Xq (abv (Za (XT lo _) hi) i) z
def U3{lo hi i n:Nat}(h:lo<hi)(z:hi-lo+i<=n):lo+(hi-lo)/2-lo+(i+1)<=n:=by
 rw[Zb,<-ZQ,abJ]
 exact Xq (abv (Nat.div_lt_self (ZZ h) (by decide)) i) z
def FD(hB:∀(i:Nat) (Q:Option Bool->SortSt->Prop),i<n->Q (some (f i)) zt->wpS (model prog w) A E s (eI left key arr base i) Q zt)
  (mono:∀i j,i<=j->j<n->f j=true->f i=true) (up:∀i j,i<=j->j<n->f i=false->f j=false) (z1:lo<=hi) (z2:hi<=n) (a1:∀i,i<lo->f i=true) (a2:∀i,hi<=i->i<n->f i=false)
  (q:∀k,k<=n->(∀i,i<k->f i=true)->(∀i,k<=i->i<n->f i=false)->Q (some k) zt):wpS (model prog w) A E s (N9 left key arr base n lo hi) Q zt:=by
 unfold N9
 refine wpS_bind (wpS_mono (wpS_forRange (I:=λi c cC=>cC=zt/\∃lo hi,c=(none,lo,hi)/\lo<=hi/\hi<=n/\hi-lo+i<=n/\(∀i,i<lo->f i=true)/\(∀i,hi<=i->i<n->f i=false)) (Q:=λc cC=>cC=zt/\∃lo hi,c=(none,lo,hi)/\hi<=n/\(∀i,i<hi->f i=true)/\(∀i,hi<=i->i<n->f i=false)) ?_ ?_ ⟨rfl,_,_,rfl,z1,z2,by omega,a1,a2⟩) ?_)
 .rintro i c cC _ _ ⟨rfl,lo,hi,rfl,z1,z2,z3,z4,z5⟩
  show wpS (model prog w) A E s (P' left key arr base lo hi) _ _
  unfold P'
  refine gg (λhg=>?_) (λhg=>?_)
  .exact wpS_pure ⟨rfl,lo,hi,rfl,z2,λi h=>z4 i (Xj h hg),z5⟩
  .have hg:=aaX hg
   have hm:=Xj (Qa hg) z2
   refine wpS_bind (hB _ _ hm ?_)
   cases e2:f (lo+(hi-lo)/2)with
   |true=>exact wpS_pure ⟨rfl,_,hi,rfl,Qa hg,z2,U2 hg z3,λi h=>mono i _ (Yo h) hm e2,z5⟩
   |false=>exact wpS_pure ⟨rfl,lo,_,rfl,XT _ _,Yb hm,U3 hg z3,z4,λi h1 h2=>up _ i h1 h2 e2⟩
 .rintro c cC ⟨rfl,lo,hi,rfl,z1,z2,z3,z4,z5⟩
  rw[Nat.max_eq_right (XQ n)]at z3
  have hl:hi<=lo:=Z_ (Nat.le_zero.mp (Nat.le_of_add_le_add_right (show hi-lo+n<=0+n by rw[Yw];exact z3)))
  exact⟨rfl,lo,hi,rfl,z2,λi h=>z4 i (Xj h hl),z5⟩
 .rintro c cC ⟨rfl,lo,hi,rfl,z2,z4,z5⟩
  exact wpS_pure (q hi z2 z4 z5)
def zO(hn:hint<n)(hB:∀(i:Nat) (Q:Option Bool->SortSt->Prop),i<n->Q (some (f i)) zt->wpS (model prog w) A E s (eI left key arr base i) Q zt)
  (mono:∀i j,i<=j->j<n->f j=true->f i=true)
  (q:∀k,k<=n->(∀i,i<k->f i=true)->(∀i,k<=i->i<n->f i=false)->Q (some k) zt):wpS (model prog w) A E s (b9 left key arr base n hint) Q zt:=by
 have up:∀i j,i<=j->j<n->f i=false->f j=false:=λi j h1 h2 h3=>by
  cases e:f j with
  |false=>rfl
  |true=>rw[mono i j h1 h2 e]at h3;cases h3
 rw[LL]
 refine wpS_bind (hB hint _ hn ?_)
 cases e0:f hint with
 |true=>
  dsimp only
  rw[Xs rfl]
  refine wpS_bind (wpS_mono (wpS_forRange (I:=λi c aj=>aj=zt/\∃l o,c=(none,l,o)/\l<o/\i+1<=o/\hint+l<n/\f (hint+l)=true)
   (Q:=λc aj=>aj=zt/\∃l o,c=(none,l,o)/\l<o/\hint+l<n/\f (hint+l)=true/\(n-hint<=o\/(hint+o<n/\f (hint+o)=false))) ?_ ?_ ⟨rfl,0,1,rfl,by omega,by omega,by omega,e0⟩) ?_)
  .rintro i c aj _ _ ⟨rfl,l,o,rfl,g1,g2,g3,g4⟩
   show wpS (model prog w) A E s (P9 left key arr base n hint l o) _ _
   unfold P9
   refine gg (λhg=>?_) (λhg=>?_)
   .exact wpS_pure ⟨rfl,l,o,rfl,g1,g3,g4,.inl hg⟩
   .have hh:hint+o<n:=abp (aaX hg)
    refine wpS_bind (hB (hint+o) _ hh ?_)
    cases e1:f (hint+o)with
    |true=>exact wpS_pure ⟨rfl,_,_,rfl,by omega,by omega,hh,e1⟩
    |false=>exact wpS_pure ⟨rfl,_,_,rfl,g1,g3,g4,.inr ⟨hh,e1⟩⟩
  .rintro c aj ⟨rfl,l,o,rfl,g1,g2,g3,g4⟩
   exact⟨rfl,l,o,rfl,g1,g3,g4,.inl (Xq (Zf _ _) (Xq (aaY 0 n) (Nat.le_of_succ_le g2)))⟩
  rintro c aj ⟨rfl,l,o,rfl,g1,g3,g4,g5⟩
  have hh:=X' (Yb hn)
  refine FD hB mono up ?_ ?_ (λi hi=>mono i (hint+l) (Yo hi) g3 g4) (λi h1 h2=>?_) q
  .exact XS (Nat.le_min.mpr ⟨g1,abf.mpr g3⟩) hint
  .exact Xq (XS (aaU _ _) _) (Zk hh)
  .dsimp only at h1
   rcases g5 with g5|⟨g5,g6⟩
   .rw[aaZ g5,hh]at h1
    exact absurd h2 (aaI.mpr h1)
   .rw[YA (Yb (abf.mpr g5))]at h1
    exact up (hint+o) i h1 h2 g6
 |false=>
  dsimp only
  rw[Xx Xa]
  refine wpS_bind (wpS_mono (wpS_forRange (I:=λi c aj=>aj=zt/\∃l o,c=(none,l,o)/\l<o/\i+1<=o/\l<=hint/\f (hint-l)=false)
   (Q:=λc aj=>aj=zt/\∃l o,c=(none,l,o)/\l<o/\l<=hint/\f (hint-l)=false/\(hint+1<=o\/(o<=hint/\f (hint-o)=true))) ?_ ?_ ⟨rfl,0,1,rfl,by omega,by omega,by omega,e0⟩) ?_)
  .rintro i c aj _ _ ⟨rfl,l,o,rfl,g1,g2,g3,g4⟩
   show wpS (model prog w) A E s (P_ left key arr base hint l o) _ _
   unfold P_
   refine gg (λhg=>?_) (λhg=>?_)
   .exact wpS_pure ⟨rfl,l,o,rfl,g1,g3,g4,.inl hg⟩
   .have hh:hint-o<n:=XH (Zf _ _) hn
    refine wpS_bind (hB (hint-o) _ hh ?_)
    cases e1:f (hint-o)with
    |true=>exact wpS_pure ⟨rfl,_,_,rfl,g1,g3,g4,.inr ⟨by omega,e1⟩⟩
    |false=>exact wpS_pure ⟨rfl,_,_,rfl,by omega,by omega,by omega,e1⟩
  .rintro c aj ⟨rfl,l,o,rfl,g1,g2,g3,g4⟩
   exact⟨rfl,l,o,rfl,g1,g3,g4,.inl (Xq hn (Xq (aaY 0 n) (Nat.le_of_succ_le g2)))⟩
  rintro c aj ⟨rfl,l,o,rfl,g1,g3,g4,g5⟩
  refine FD hB mono up ?_ ?_ (λi hi=>?_) (λi h1 h2=>up (hint-l) i h1 h2 g4) q
  .exact Xq (Za (Nat.le_min.mpr ⟨g1,aba g3⟩) (hint+1)) (Zk (Nat.add_sub_add_right hint 1 l))
  .exact Xq (Zf _ _) (Yb hn)
  .dsimp only at hi
   rcases g5 with g5|⟨g5,g6⟩
   .rw[aaZ g5,Nat.sub_self]at hi
    exact absurd hi (Y5 _)
   .rw[YA (Nat.le_succ_of_le g5),Nat.succ_sub g5]at hi
    exact mono i (hint-o) (Yo hi) (XH (Zf _ _) hn) g6
end
noncomputable abbrev sg(arr:Array Keyed)(base n:Nat):List Keyed:=(arr.toList.drop base).take n
def fT(hi:i<n)(hz:base+n<=arr.size):(sg arr base n)[i]?=some (arr[base+i]'(by omega)):=by
 rw[ZR,Xs hi,abK,X8,XW]
def dS(hz:base+n<=arr.size):(sg arr base n).length =n:=by
 rw[YB,ZC,XE,YA (Z' hz)]
def cV{left:Bool}{key:Keyed}{arr:Array Keyed}{base n hint:Nat}{zt:SortSt}{Q:Option Nat->SortSt->Prop}(L:lF prog w A E s κ P r)(O:Ord r)(hk:kindOf zt=κ)(hp:P key)(ha:∀x∈arr,P x)(hz:base+n<=arr.size)(hn:hint<n)
  (hS:(sg arr base n).Pairwise (le r))
  (q:∀k,k<=n->(∀x∈(sg arr base n).take k,uC r left key x=true)->(∀x∈(sg arr base n).drop k,uC r left key x=false)->Q (some k) zt):wpS (model prog w) A E s (b9 left key arr base n hint) Q zt:=by
 have hl:=dS hz
 have fe:∀i (h:i<n),(((sg arr base n)[i]?).elim false (uC r left key))=uC r left key (arr[base+i]'(by omega)):=λi h=>by rw[fT h hz];rfl
 refine zO (f:=λi=>((sg arr base n)[i]?).elim false (uC r left key)) hn (λi Q hi hq=>zM L hk hp ha (by omega) (by rw[<-fe i hi];exact hq)) (λi j Hu hj hf=>?_) (λk BY h1 h2=>q k BY (λx hx=>?_) (λx hx=>?_))
 .rcases Yf i j with z|z
  .rw[fe j hj]at hf
   rw[fe i (by omega)]
   refine zN O ?_ hf
   have:=(YH.mp hS) i j (by omega) (by omega) z
   have e1:=fT (arr:=arr) (show i<n by omega) hz
   have e2:=fT (arr:=arr) hj hz
   rw[W9 (by omega)]at e1 e2
   rw[Xw e1,Xw e2]at this
   exact this
  .rw[show i=j by omega];exact hf
 .obtain⟨i,hi,rfl⟩:=Zc hx
  rw[YB]at hi
  have:=h1 i (Xj hi (aaj _ _))
  rw[W9 (Xj hi (aaU _ _))]at this
  rw[List.getElem_take]
  exact this
 .obtain⟨i,hi,rfl⟩:=Zc hx
  rw[ZC]at hi
  have hi:=abp hi
  have:=h2 (k+i) (XT _ _) (hl▸hi)
  rw[W9 hi]at this
  rw[List.getElem_drop]
  exact this
structure Ms(r:Keyed->Keyed->Bool)(a b out:Array Keyed)(i j:Nat):Prop where
 p:Pt a b out i j
 s:out.toList.Pairwise (le r)
 ta:∀x∈out.toList,∀y∈a.toList.drop i,le r x y
 tb:∀x∈out.toList,∀y∈b.toList.drop j,le r x y
end
section
variable {r:Keyed->Keyed->Bool}{a b out:Array Keyed}{i j k:Nat}
def dU(a:Array Keyed)(i k:Nat):(a.extract i (i+k)).toList =sg a i k:=by
 rw[YM]
 unfold List.extract
 rw[show i+k-i=k by omega]
def zP(a:Array Keyed)(i k:Nat):a.toList.drop i=sg a i k++a.toList.drop (i+k):=by
 have:=(Zo k (a.toList.drop i)).symm
 rwa [aat]at this
theorem Ms.p9(h:Ms r a b out i j)(sa:a.toList.Pairwise (le r))(hb:∀x∈sg a i k,∀y∈b.toList.drop j,le r x y):Ms r a b (out++a.extract i (i+k)) (i+k) j:=by
 have sd:(a.toList.drop i).Pairwise (le r):=sa.sublist (Yp _ _)
 have e:=zP a i k
 rw[e,XM]at sd
 refine cS sd λp1 p2 p3=>?_
 have LN:∀x∈out.toList,∀y∈sg a i k++a.toList.drop (i+k),le r x y:=λx hx y hy=>h.ta x hx y (by rw[e];exact hy)
 refine⟨h.p.p9,?_,λx hx y hy=>?_,λx hx y hy=>?_⟩
 .rw[Xo,dU,XM]
  exact⟨h.s,p1,λx hx y hy=>LN x hx y (XC _ hy)⟩
 .rw[Xo,dU]at hx
  rcases Xr.mp hx with z|z
  .exact LN x z y (Xv _ hy)
  .exact p3 x z y hy
 .rw[Xo,dU]at hx
  rcases Xr.mp hx with z|z
  .exact h.tb x z y hy
  .exact hb x z y hy
theorem Ms.p8(h:Ms r a b out i j)(sb:b.toList.Pairwise (le r))(ha:∀x∈sg b j k,∀y∈a.toList.drop i,le r x y):Ms r a b (out++b.extract j (j+k)) i (j+k):=by
 have sd:(b.toList.drop j).Pairwise (le r):=sb.sublist (Yp _ _)
 have e:=zP b j k
 rw[e,XM]at sd
 refine cS sd λp1 p2 p3=>?_
 have LO:∀x∈out.toList,∀y∈sg b j k++b.toList.drop (j+k),le r x y:=λx hx y hy=>h.tb x hx y (by rw[e];exact hy)
 refine⟨h.p.p8,?_,λx hx y hy=>?_,λx hx y hy=>?_⟩
 .rw[Xo,dU,XM]
  exact⟨h.s,p1,λx hx y hy=>LO x hx y (XC _ hy)⟩
 .rw[Xo,dU]at hx
  rcases Xr.mp hx with z|z
  .exact h.ta x z y hy
  .exact ha x z y hy
 .rw[Xo,dU]at hx
  rcases Xr.mp hx with z|z
  .exact LO x z y (Xv _ hy)
  .exact p3 x z y hy
def Ms.cg(h:Ms r a b out i j)(e:o.toList=out.toList):Ms r a b o i j:=⟨by unfold Pt;rw[e];exact h.p,by rw[e];exact h.s,λx hx=>h.ta x (by rw[<-e];exact hx),λx hx=>h.tb x (by rw[<-e];exact hx)⟩
def Ms.oJ(h:Ms r a b out i j)(sa:a.toList.Pairwise (le r))(hi:i<a.size)(hb:∀y∈b.toList.drop j,le r a[i] y):Ms r a b (out.push a[i]) (i+1) j:=by
 refine(h.p9 (k:=1) sa λx hx=>?_).cg (by rw[Xo,gX hi,<-Y6])
 rw[<-dU,gX hi,Xc]at hx
 rw[hx];exact hb
def Ms.oK(h:Ms r a b out i j)(sb:b.toList.Pairwise (le r))(hj:j<b.size)(ha:∀y∈a.toList.drop i,le r b[j] y):Ms r a b (out.push b[j]) i (j+1):=by
 refine(h.p8 (k:=1) sb λx hx=>?_).cg (by rw[Xo,gX hj,<-Y6])
 rw[<-dU,gX hj,Xc]at hx
 rw[hx];exact ha
def LP(O:Ord r)(sa:a.toList.Pairwise (le r))(hi:i<a.size):∀y∈a.toList.drop i,le r a[i] y:=λy hy=>by
 have iP:i<a.toList.length:=by simpa using hi
 have sd:(a.toList.drop i).Pairwise (le r):=sa.sublist (Yp _ _)
 rw[X9 iP]at sd hy
 rcases Xl.mp hy with z|z
 .rw[z];exact O.refl _
 .exact(Ys.mp sd).1 y z
def qa(O:Ord r)(sa:a.toList.Pairwise (le r))(hi:i<a.size)(h:le r x a[i]):∀y∈a.toList.drop i,le r x y:=λy hy=>O.trans h (LP O sa hi y hy)
def lM(a:Array Keyed)(hi:i<=a.size):(a.extract i a.size).toList =a.toList.drop i:=by
 have:=dU a i (a.size-i)
 rw[show i+(a.size-i)=a.size by omega]at this
 rw[this]
 exact X3 (by simp)
def Ms.done(h:Ms r a b out i j)(sa:a.toList.Pairwise (le r))(sb:b.toList.Pairwise (le r))(hi:i<=a.size)(hj:j<=b.size)(c:i=a.size\/j=b.size):((out++a.extract i a.size)++b.extract j b.size).toList.Pairwise (le r):=by
 rw[Xo,Xo,lM a hi,lM b hj]
 have na:i=a.size->a.toList.drop i=[]:=λe=>abg (by simp[e])
 have nb:j=b.size->b.toList.drop j=[]:=λe=>abg (by simp[e])
 rcases c with c|c
 .rw[na c,X7,XM]
  exact⟨h.s,sb.sublist (Yp _ _),h.tb⟩
 .rw[nb c,X7,XM]
  exact⟨h.s,sa.sublist (Yp _ _),h.ta⟩
def Ms.last(h:Ms r a b out i j)(sa:a.toList.Pairwise (le r))(sb:b.toList.Pairwise (le r))(hi:i<=a.size)(hj:j<=b.size)(c:∀y∈b.toList,∀x∈a.toList.drop i,le r y x):((out++b.extract j b.size)++a.extract i a.size).toList.Pairwise (le r):=by
 rw[Xo,Xo,lM a hi,lM b hj,XI,XM]
 refine⟨h.s,?_,λx hx y hy=>?_⟩
 .rw[XM]
  exact⟨sb.sublist (Yp _ _),sa.sublist (Yp _ _),λy hy x hx=>c y (YZ hy) x hx⟩
 .rcases Xr.mp hy with z|z
  .exact h.tb x hx y z
  .exact h.ta x hx y z
end
section
variable {prog:Program}{w:World}{A:Around}{E:Value->Shared->Prop}{s:Shared}{κ:SortKind}{P:Keyed->Prop}{r:Keyed->Keyed->Bool}
def bne{n m:Nat}(h:¬(n==m)=true):n≠m:=λe=>h (by rw[e];simp)
structure Lo(r:Keyed->Keyed->Bool)(a b:Array Keyed)(k:Nat)(out:Array Keyed)(ia ib:Nat):Prop where
 m:Ms r a b out ia ib
 x1:ia+1<a.size
 x2:ib<b.size
 x3:k<=ia+ib
abbrev Dn(r:Keyed->Keyed->Bool)(a b:Array Keyed)(o:Option (Array Keyed)):Prop:=∃o',o=some o'/\o'.toList.Perm (a.toList++b.toList)/\o'.toList.Pairwise (le r)
abbrev Su(r:Keyed->Keyed->Bool)(a b:Array Keyed)(zt:SortSt)(k:Nat)(c:Option (Array Keyed)×Array Keyed×Nat×Nat×Nat)(aj:SortSt):Prop:=Sm zt aj/\∃out ia ib g,c=(none,out,ia,ib,g)/\Lo r a b k out ia ib
abbrev Q1{β:Type}(r:Keyed->Keyed->Bool)(a b:Array Keyed)(zt:SortSt)(c:Option (Array Keyed)×β)(aj:SortSt):Prop:=Sm zt aj/\Dn r a b c.1
abbrev LQ(r:Keyed->Keyed->Bool)(a b:Array Keyed)(k:Nat)(c:Option (Array Keyed)×Array Keyed×Nat×Nat×Nat×Nat):Prop:=∃out ia ib n m,c=(none,out,ia,ib,n,m)/\Lo r a b k out ia ib
abbrev J0(r:Keyed->Keyed->Bool)(a b:Array Keyed)(k:Nat)(c:Option (Array Keyed)×Array Keyed×Nat×Nat×Nat×Nat×Nat):Prop:=∃out ia ib g n m,c=(none,out,ia,ib,g,n,m)/\Lo r a b k out ia ib
abbrev Pq{β:Type}(J:Option (Array Keyed)×β->Prop)(zt:SortSt)(c:Option (Array Keyed)×β)(aj:SortSt):Prop:=Sm zt aj/\J c
abbrev Qq{β:Type}(r:Keyed->Keyed->Bool)(a b:Array Keyed)(J:Option (Array Keyed)×β->Prop)(zt:SortSt)(c:Option (Array Keyed)×β)(aj:SortSt):Prop:=Sm zt aj/\(Dn r a b c.1\/J c)
abbrev T5:=Option (Array Keyed)×Array Keyed×Nat×Nat×Nat
abbrev T6:=Option (Array Keyed)×Array Keyed×Nat×Nat×Nat×Nat
abbrev T7:=Option (Array Keyed)×Array Keyed×Nat×Nat×Nat×Nat×Nat
noncomputable def FF(a b out:Array Keyed)(ia ib:Nat):Array Keyed:=(out++a.extract ia a.size)++b.extract ib b.size
noncomputable def N_(a b out:Array Keyed)(ia ib:Nat):Array Keyed:=(out++b.extract ib b.size)++a.extract ia a.size
noncomputable def Qb(a b:Array Keyed)(g:Nat)(out:Array Keyed)(ia ib ac bc:Nat):SM (ForInStep T6):=do
 let some w<-lt' (<-elem' b ib) (<-elem' a ia)|return .done (some (FF a b out ia ib),out,ia,ib,ac,bc)
 if w then
  let o:=out.push (<-elem' b ib)
  if ib+1==b.size then return .done (some (FF a b o ia (ib+1)),o,ia,ib+1,0,bc+1)
  if bc+1 ≥ g then return .done (none,o,ia,ib+1,0,bc+1)
  return .yield (none,o,ia,ib+1,0,bc+1)
 else
  let o:=out.push (<-elem' a ia)
  if ia+1+1==a.size then return .done (some (N_ a b o (ia+1) ib),o,ia+1,ib,ac+1,0)
  if ac+1 ≥ g then return .done (none,o,ia+1,ib,ac+1,0)
  return .yield (none,o,ia+1,ib,ac+1,0)
noncomputable def C1(a b out:Array Keyed)(ia ib g ac bc:Nat):SM (ForInStep T7):=do
 let o:=out.push (<-elem' a ia)
 if ia+1+1==a.size then return .done (some (N_ a b o (ia+1) ib),o,ia+1,ib,g,ac,bc)
 if ac<7&&bc<7 then return .done (none,o,ia+1,ib,g,ac,bc)
 return .yield (none,o,ia+1,ib,g,ac,bc)
noncomputable def C2(a b out:Array Keyed)(ia ib g ac bc:Nat):SM (ForInStep T7):=do
 let o:=out.push (<-elem' b ib)
 if ib+1==b.size then return .done (some (FF a b o ia (ib+1)),o,ia,ib+1,g,ac,bc)
 let some k<-b9 true (<-elem' a ia) b (ib+1) (b.size-(ib+1)) 0|return .done (some (FF a b o ia (ib+1)),o,ia,ib+1,g,ac,bc)
 if k>0 then
  let o:=o++b.extract (ib+1) (ib+1+k)
  if ib+1+k==b.size then return .done (some (FF a b o ia (ib+1+k)),o,ia,ib+1+k,g,ac,k)
  C1 a b o ia (ib+1+k) g ac k
 else C1 a b o ia (ib+1) g ac k
noncomputable def C3(a b out:Array Keyed)(ia ib ac bc g:Nat):SM (ForInStep T7):=do
 a9 g
 let some k<-b9 false (<-elem' b ib) a ia (a.size-ia) 0|return .done (some (FF a b out ia ib),out,ia,ib,g,ac,bc)
 if k>0 then
  let o:=out++a.extract ia (ia+k)
  if ia+k+1==a.size then return .done (some (N_ a b o (ia+k) ib),o,ia+k,ib,g,k,bc)
  if ia+k==a.size then return .done (some (FF a b o (ia+k) ib),o,ia+k,ib,g,k,bc)
  C2 a b o (ia+k) ib g k bc
 else C2 a b out ia ib g k bc
noncomputable def Sv(a b out:Array Keyed)(ia ib g ac bc:Nat):SM (ForInStep T7):=if g>1 then C3 a b out ia ib ac bc (g-1) else C3 a b out ia ib ac bc g
noncomputable def Qc(a b:Array Keyed)(g:Nat)(u:T7):SM (ForInStep T5):=
 match u.1 with
 |some r=>pure (.done (some r,u.2.1,u.2.2.1,u.2.2.2.1,u.2.2.2.2.1))
 |none=>do
  a9 (u.2.2.2.2.1+1)
  pure (.yield (none,u.2.1,u.2.2.1,u.2.2.2.1,u.2.2.2.2.1+1))
noncomputable def Qd(a b:Array Keyed)(g:Nat)(t:T6):SM (ForInStep T5):=
 match t.1 with
 |some r=>pure (.done (some r,t.2.1,t.2.2.1,t.2.2.2.1,g))
 |none=>do
  rule "list.sort.gallop"
  let u<-forIn [0:a.size+b.size] ((none,t.2.1,t.2.2.1,t.2.2.2.1,g+1,t.2.2.2.2.1,t.2.2.2.2.2):T7) λ_ u=>Sv a b u.2.1 u.2.2.1 u.2.2.2.1 u.2.2.2.2.1 u.2.2.2.2.2.1 u.2.2.2.2.2.2
  Qc a b g u
noncomputable def Qf(a b out:Array Keyed)(ia ib g:Nat):SM (ForInStep T5):=do
 let t<-forIn [0:a.size+b.size] ((none,out,ia,ib,0,0):T6) λ_ t=>Qb a b g t.2.1 t.2.2.1 t.2.2.2.1 t.2.2.2.2.1 t.2.2.2.2.2
 Qd a b g t
def LR(a b:Array Keyed):mE a b=(do
  rule "list.sort.merge-lo"
  let x<-elem' b 0
  if 1==b.size then return FF a b #[x] 0 1
  if 0+1==a.size then return N_ a b #[x] 0 1
  let g:=gallopOf (<-get)
  let s<-forIn [0:a.size+b.size] ((none,#[x],0,1,g):T5) λ_ s=>Qf a b s.2.1 s.2.2.1 s.2.2.2.1 s.2.2.2.2
  match s.1 with
  |some r=>pure r
  |none=>unsupported "internal:list.sort.merge-bound"):=by kernel_rfl
structure Mg(prog:Program)(w:World)(A:Around)(E:Value->Shared->Prop)(s:Shared)(κ:SortKind)(P:Keyed->Prop)(r:Keyed->Keyed->Bool)(a b:Array Keyed)(zt:SortSt):Prop where
 L:lF prog w A E s κ P r
 O:Ord r
 hk:kindOf zt=κ
 ha:∀x∈a,P x
 hb:∀x∈b,P x
 sa:a.toList.Pairwise (le r)
 sb:b.toList.Pairwise (le r)
def Mg.gA{a b:Array Keyed}{zt aj:SortSt}{ia ib:Nat}{Q':Option Nat->SortSt->Prop}(G:Mg prog w A E s κ P r a b zt)(BZ:ib<b.size)(hS:Sm zt aj)(uD:ia<a.size)(hq:∀k,k<=a.size-ia->(∀x∈sg a ia k,∀y∈b.toList.drop ib,le r x y)->(∀x∈a.toList.drop (ia+k),le r b[ib] x)->Q' (some k) aj):
  wpS (model prog w) A E s (b9 false b[ib] a ia (a.size-ia) 0) Q' aj:=by
 have e:sg a ia (a.size-ia)=a.toList.drop ia:=X3 (by simp)
 refine cV G.L G.O (hS.k.trans G.hk) (G.hb _ (X5 _)) G.ha (by lia) (by lia) (by rw[e];exact G.sa.sublist (Yp _ _)) λk hk g1 g2=>hq k hk (λx hx=>?_) (λx hx=>?_)
 .have:=g1 x (by rw[e];exact hx)
  have h':le r x b[ib]:=by unfold uC at this;simpa[le]using this
  exact qa G.O G.sb BZ h'
 .have:=g2 x (by rw[e,aat];exact hx)
  unfold uC at this
  have h':r b[ib] x=true:=by simpa using this
  exact G.O.of_lt h'
def Mg.gB{a b:Array Keyed}{zt aj:SortSt}{ia ib:Nat}{Q':Option Nat->SortSt->Prop}(G:Mg prog w A E s κ P r a b zt)(uD:ia<a.size)(hS:Sm zt aj)(BZ:ib<b.size)(hq:∀k,k<=b.size-ib->(∀x∈sg b ib k,∀y∈a.toList.drop ia,le r x y)->(∀x∈b.toList.drop (ib+k),le r a[ia] x)->Q' (some k) aj):
  wpS (model prog w) A E s (b9 true a[ia] b ib (b.size-ib) 0) Q' aj:=by
 have e:sg b ib (b.size-ib)=b.toList.drop ib:=X3 (by simp)
 refine cV G.L G.O (hS.k.trans G.hk) (G.ha _ (X5 _)) G.hb (by lia) (by lia) (by rw[e];exact G.sb.sublist (Yp _ _)) λk hk g1 g2=>hq k hk (λx hx=>?_) (λx hx=>?_)
 .have:=g1 x (by rw[e];exact hx)
  exact qa G.O G.sa uD (G.O.of_lt this)
 .exact g2 x (by rw[e,aat];exact hx)
abbrev RI(r:Keyed->Keyed->Bool)(a b:Array Keyed)(zt:SortSt)(K:Nat)(x:ForInStep T6)(aj:SortSt):Prop:=match x with
 | .done c=>Qq r a b (LQ r a b K) zt c aj
 | .yield c=>Pq (LQ r a b K) zt c aj
abbrev RJ(r:Keyed->Keyed->Bool)(a b:Array Keyed)(zt:SortSt)(K:Nat)(x:ForInStep T7)(aj:SortSt):Prop:=match x with
 | .done c=>Qq r a b (J0 r a b K) zt c aj
 | .yield c=>Pq (J0 r a b K) zt c aj
section
variable {a b out:Array Keyed}{zt aj:SortSt}{ia ib g ac bc K:Nat}
def LU(G:Mg prog w A E s κ P r a b zt)(dE:∀i,i+1=a.size->∀y∈b.toList,∀x∈a.toList.drop i,le r y x)(hS:Sm zt aj)(h:Lo r a b K out ia ib):wpS (model prog w) A E s (Qb a b g out ia ib ac bc) (RI r a b zt K) aj:=by
 have hP:=h.m
 have x1:=h.x1
 have x2:=h.x2
 have x3:=h.x3
 have uD:ia<a.size:=by lia
 unfold Qb
 refine wpS_bind (ba x2 (wpS_bind (ba uD (wpS_bind (G.L _ _ _ _ (G.hb _ (X5 _)) (G.ha _ (X5 _)) (hS.k.trans G.hk) ?_)))))
 cases bw:r b[ib] a[ia]with
 |true=>
  dsimp only
  rw[Xs rfl]
  refine wpS_bind (ba x2 ?_)
  have n6:=hP.oK G.sb x2 (qa G.O G.sa uD (G.O.of_lt bw))
  refine gg (λe1=>?_) (λe1=>?_)
  .exact wpS_pure ⟨hS,.inl ⟨_,rfl,n6.p.done (by lia) (by lia),n6.done G.sa G.sb (by lia) (by lia) (.inr (by simpa using e1))⟩⟩
  .have pU:ib+1<b.size:=by have:=bne e1;lia
   refine gg (λ_=>?_) (λ_=>?_)
   .exact wpS_pure ⟨hS,.inr ⟨_,_,_,_,_,rfl,n6,x1,pU,by lia⟩⟩
   .exact wpS_pure ⟨hS,_,_,_,_,_,rfl,n6,x1,pU,by lia⟩
 |false=>
  dsimp only
  rw[Xx Xa]
  refine wpS_bind (ba uD ?_)
  have n6:=hP.oJ G.sa uD (qa G.O G.sb x2 bw)
  refine gg (λe1=>?_) (λe1=>?_)
  .exact wpS_pure ⟨hS,.inl ⟨_,rfl,n6.p.last (by lia) (by lia),n6.last G.sa G.sb (by lia) (by lia) (dE _ (by simpa using e1))⟩⟩
  .have pU:ia+1+1<a.size:=by have:=bne e1;lia
   refine gg (λ_=>?_) (λ_=>?_)
   .exact wpS_pure ⟨hS,.inr ⟨_,_,_,_,_,rfl,n6,pU,x2,by lia⟩⟩
   .exact wpS_pure ⟨hS,_,_,_,_,_,rfl,n6,pU,x2,by lia⟩
def zQ(G:Mg prog w A E s κ P r a b zt)(dE:∀i,i+1=a.size->∀y∈b.toList,∀x∈a.toList.drop i,le r y x)(hS:Sm zt aj)(hP:Ms r a b out ia ib)(x1:ia+1<a.size)(x2:ib<b.size)(x3:K<=ia+ib)(hi:ia<a.size)(y5:∀x∈b.toList.drop ib,le r a[ia] x):
  wpS (model prog w) A E s (C1 a b out ia ib g ac bc) (RJ r a b zt K) aj:=by
 unfold C1
 refine wpS_bind (ba hi ?_)
 have C4:=hP.oJ G.sa hi y5
 refine gg (λe5=>?_) (λe5=>?_)
 .exact wpS_pure ⟨hS,.inl ⟨_,rfl,C4.p.last (by lia) (by lia),C4.last G.sa G.sb (by lia) (by lia) (dE _ (by simpa using e5))⟩⟩
 have LV:ia+1+1<a.size:=by have:=bne e5;lia
 refine gg (λ_=>?_) (λ_=>?_)
 .exact wpS_pure ⟨hS,.inr ⟨_,_,_,_,_,_,rfl,C4,LV,x2,by lia⟩⟩
 .exact wpS_pure ⟨hS,_,_,_,_,_,_,rfl,C4,LV,x2,by lia⟩
def zR(G:Mg prog w A E s κ P r a b zt)(dE:∀i,i+1=a.size->∀y∈b.toList,∀x∈a.toList.drop i,le r y x)(hS:Sm zt aj)(hP:Ms r a b out ia ib)(x1:ia+1<a.size)(x2:ib<b.size)(x3:K<=ia+ib)(y3:∀x∈a.toList.drop ia,le r b[ib] x):
  wpS (model prog w) A E s (C2 a b out ia ib g ac bc) (RJ r a b zt (K+1)) aj:=by
 unfold C2
 refine wpS_bind (ba x2 ?_)
 have C5:=hP.oK G.sb x2 y3
 refine gg (λe3=>?_) (λe3=>?_)
 .exact wpS_pure ⟨hS,.inl ⟨_,rfl,C5.p.done (by lia) (by lia),C5.done G.sa G.sb (by lia) (by lia) (.inr (by simpa using e3))⟩⟩
 have Oa:ib+1<b.size:=by have:=bne e3;lia
 have iP:ia<a.size:=by lia
 refine wpS_bind (ba iP (wpS_bind (G.gB iP hS Oa λkk LD g1 g2=>?_)))
 dsimp only
 refine gg (λQg=>?_) (λQg=>?_)
 .have C6:=C5.p8 G.sb g1
  refine gg (λe4=>?_) (λe4=>?_)
  .exact wpS_pure ⟨hS,.inl ⟨_,rfl,C6.p.done (by lia) (by lia),C6.done G.sa G.sb (by lia) (by lia) (.inr (by simpa using e4))⟩⟩
  exact zQ G dE hS C6 x1 (by have:=bne e4;lia) (by lia) iP g2
 .exact zQ G dE hS C5 x1 Oa (by lia) iP (by rw[show ib+1=ib+1+kk by lia];exact g2)
def zS(G:Mg prog w A E s κ P r a b zt)(dE:∀i,i+1=a.size->∀y∈b.toList,∀x∈a.toList.drop i,le r y x)(hS:Sm zt aj)(h:Lo r a b K out ia ib):wpS (model prog w) A E s (C3 a b out ia ib ac bc g) (RJ r a b zt (K+1)) aj:=by
 have hP:=h.m
 have x1:=h.x1
 have x2:=h.x2
 have x3:=h.x3
 unfold C3 a9
 refine wpS_bind (wpS_modify ?_)
 refine wpS_bind (ba x2 (wpS_bind (G.gA x2 hS.setG (by lia) λk BY k1 k2=>?_)))
 dsimp only
 refine gg (λOb=>?_) (λOb=>?_)
 .have C7:=hP.p9 G.sa k1
  refine gg (λe1=>?_) (λe1=>?_)
  .exact wpS_pure ⟨hS.setG,.inl ⟨_,rfl,C7.p.last (by lia) (by lia),C7.last G.sa G.sb (by lia) (by lia) (dE _ (by simpa using e1))⟩⟩
  refine gg (λe2=>?_) (λe2=>?_)
  .exact wpS_pure ⟨hS.setG,.inl ⟨_,rfl,C7.p.done (by lia) (by lia),C7.done G.sa G.sb (by lia) (by lia) (.inl (by simpa using e2))⟩⟩
  exact zR G dE hS.setG C7 (by have:=bne e1;have:=bne e2;lia) x2 (by lia) k2
 .exact zR G dE hS.setG hP x1 x2 x3 (by rw[show ia=ia+k by lia];exact k2)
def LW(G:Mg prog w A E s κ P r a b zt)(dE:∀i,i+1=a.size->∀y∈b.toList,∀x∈a.toList.drop i,le r y x)(hS:Sm zt aj)(h:Lo r a b K out ia ib):wpS (model prog w) A E s (Sv a b out ia ib g ac bc) (RJ r a b zt (K+1)) aj:=
 gg (λ_=>zS G dE hS h) λ_=>zS G dE hS h
def Lo.less(h:Lo r a b (K+1) out ia ib):Lo r a b K out ia ib:=⟨h.m,h.x1,h.x2,by have:=h.x3;lia⟩
abbrev R5(r:Keyed->Keyed->Bool)(a b:Array Keyed)(zt:SortSt)(K:Nat)(x:ForInStep T5)(aj:SortSt):Prop:=match x with
 | .done c=>Q1 r a b zt c aj
 | .yield c=>Su r a b zt K c aj
def LX{u:T7}(h:Qq r a b (J0 r a b K) zt u aj):wpS (model prog w) A E s (Qc a b g u) (R5 r a b zt K) aj:=by
 obtain⟨c,d⟩:=u
 obtain⟨hS,⟨o,hc,hr⟩|⟨out,ia,ib,g',n,m,hc,hL⟩⟩:=h
 .have nK:c=some o:=hc
  subst nK
  exact wpS_pure ⟨hS,o,rfl,hr⟩
 .cases hc
  unfold Qc a9
  exact wpS_bind (wpS_modify (wpS_pure ⟨hS.setG,_,_,_,_,rfl,hL⟩))
def LY{t:T6}(G:Mg prog w A E s κ P r a b zt)(dE:∀i,i+1=a.size->∀y∈b.toList,∀x∈a.toList.drop i,le r y x)(uE:1<=a.size+b.size)(h:Qq r a b (LQ r a b K) zt t aj):wpS (model prog w) A E s (Qd a b g t) (R5 r a b zt (K+1)) aj:=by
 obtain⟨c,d⟩:=t
 obtain⟨hS,⟨o,hc,hr⟩|⟨out,ia,ib,n,m,hc,hL⟩⟩:=h
 .have nK:c=some o:=hc
  subst nK
  exact wpS_pure ⟨hS,o,rfl,hr⟩
 .cases hc
  unfold Qd
  refine wpS_bind (wpS_lift (Zu ⟨rfl,?_⟩))
  refine wpS_bind (wpS_mono (wpS_forRange
   (I:=λj=>match j with|0=>Pq (J0 r a b K) zt|_+1=>Pq (J0 r a b (K+1)) zt)
   (Q:=Qq r a b (J0 r a b (K+1)) zt) ?step ?fin ⟨hS,_,_,_,_,_,_,rfl,hL⟩) λu cC h2=>LX h2)
  case fin=>
   intro c cC h2
   rw[show max 0 (a.size+b.size)=(a.size+b.size-1)+1 by lia]at h2
   exact⟨h2.1,.inr h2.2⟩
  case step=>
   intro j c cC _ _ h2
   have h3:Sm zt cC/\∃out ia ib g n m,c=(none,out,ia,ib,g,n,m)/\Lo r a b K out ia ib:=by
    cases j with
    |zero=>exact h2
    |succ j=>
     obtain⟨z1,out,ia,ib,g,n,m,z2,z3⟩:=h2
     exact⟨z1,out,ia,ib,g,n,m,z2,z3.less⟩
   obtain⟨z1,out,ia,ib,g,n,m,rfl,z3⟩:=h3
   exact wpS_mono (LW G dE z1 z3) λx _ h=>by cases x<;>exact h
def LZ(G:Mg prog w A E s κ P r a b zt)(dE:∀i,i+1=a.size->∀y∈b.toList,∀x∈a.toList.drop i,le r y x)(uE:1<=a.size+b.size)(hS:Sm zt aj)(h:Lo r a b K out ia ib):wpS (model prog w) A E s (Qf a b out ia ib g) (R5 r a b zt (K+1)) aj:=by
 unfold Qf
 refine wpS_bind (wpS_mono (wpS_forRange (I:=λ_=>Pq (LQ r a b K) zt) (Q:=Qq r a b (LQ r a b K) zt) ?step (λc cC h2=>⟨h2.1,.inr h2.2⟩) ⟨hS,_,_,_,_,_,rfl,h⟩) λt cC h2=>LY G dE uE h2)
 intro _ c cC _ _ h2
 obtain⟨z1,out,ia,ib,n,m,rfl,z3⟩:=h2
 exact wpS_mono (LU G dE z1 z3) λx _ h=>by cases x<;>exact h
end
def xR{a b:Array Keyed}{zt:SortSt}{Q:Array Keyed->SortSt->Prop}(L:lF prog w A E s κ P r)(O:Ord r)(hk:kindOf zt=κ)(ha:∀x∈a,P x)(hb:∀x∈b,P x)(h1:1<=a.size)(h2:1<=b.size)
  (sa:a.toList.Pairwise (le r)) (sb:b.toList.Pairwise (le r)) (first:∀y∈a.toList,le r b[0] y) (final:∀y∈b.toList,∀x∈a.toList.drop (a.size-1),le r y x)
  (q:∀out aj,out.toList.Perm (a.toList++b.toList)->out.toList.Pairwise (le r)->Sm zt aj->Q out aj):wpS (model prog w) A E s (mE a b) Q zt:=by
 have dE:∀i,i+1=a.size->∀y∈b.toList,∀x∈a.toList.drop i,le r y x:=λi hi=>by rw[show i=a.size-1 by lia];exact final
 have G:Mg prog w A E s κ P r a b zt:=⟨L,O,hk,ha,hb,sa,sb⟩
 rw[LR]
 refine wpS_bind (wpS_lift (Zu ⟨rfl,?_⟩))
 refine wpS_bind (ba (by lia) ?_)
 have p0:Ms r a b #[b[0]] 0 1:=by
  have:Ms r a b #[] 0 0:=⟨by unfold Pt;simp,by simp,by simp,by simp⟩
  exact this.oK sb (by lia) first
 refine gg (λc1=>?_) (λc1=>?_)
 .exact wpS_pure (q _ _ (p0.p.done (by lia) h2) (p0.done sa sb (by lia) h2 (.inr (by simpa using c1))) .rfl')
 have yG:1<b.size:=by have:=bne c1;lia
 refine gg (λc2=>?_) (λc2=>?_)
 .exact wpS_pure (q _ _ (p0.p.last (by lia) h2) (p0.last sa sb (by lia) h2 (dE 0 (by simpa using c2))) .rfl')
 have xS:0+1<a.size:=by have:=bne c2;lia
 refine wpS_bind (wpS_get ?_)
 refine wpS_bind (wpS_mono (wpS_forRange (I:=λi=>Su r a b zt (i+1)) (Q:=Q1 r a b zt) ?step ?fin ⟨.rfl',_,_,_,_,rfl,p0,xS,yG,Xf _⟩) ?post)
 case post=>
  rintro⟨c,d⟩ aj ⟨hS,o,hc,hr,Qh⟩
  have nK:c=some o:=hc
  subst nK
  exact wpS_pure (q o aj hr Qh hS)
 case fin=>
  rintro c aj ⟨_,out,ia,ib,g,_,_,x1,x2,x3⟩
  lia
 case step=>
  rintro i c eQ _ _ ⟨Qi,out,ia,ib,g,rfl,hL⟩
  exact wpS_mono (LZ G dE (by lia) Qi hL) λx _ h=>by cases x<;>exact h
end
structure Mh(r:Keyed->Keyed->Bool)(a b out:Array Keyed)(i j:Nat):Prop where
 p:Ph a b out i j
 s:out.toList.Pairwise λx y=>le r y x
 ta:∀x∈out.toList,∀y∈a.toList.take i,le r y x
 tb:∀x∈out.toList,∀y∈b.toList.take j,le r y x
section
variable {r:Keyed->Keyed->Bool}{a b out:Array Keyed}{i j k:Nat}
def jA(a:Array Keyed)(k i:Nat):(a.extract k i).toList =(a.toList.take i).drop k:=by
 rw[YM]
 unfold List.extract
 rw[List.drop_take]
def r0(a:Array Keyed)(h:k<=i):a.toList.take i=a.toList.take k++(a.toList.take i).drop k:=by
 have:=(Zo k (a.toList.take i)).symm
 rwa [abx,YA h]at this
theorem Mh.p9(h:Mh r a b out i j)(sa:a.toList.Pairwise (le r))(hk:k<=i)(hi:i<=a.size)(hb:∀x∈(a.toList.take i).drop k,∀y∈b.toList.take j,le r y x):Mh r a b (out++(a.extract k i).reverse) k j:=by
 have sd:(a.toList.take i).Pairwise (le r):=sa.sublist (Ym _ _)
 have e:=r0 a hk
 rw[e,XM]at sd
 refine cS sd λp1 p2 p3=>?_
 have LN:∀x∈out.toList,∀y∈a.toList.take k++(a.toList.take i).drop k,le r y x:=λx hx y hy=>h.ta x hx y (by rw[e];exact hy)
 have el:(out++(a.extract k i).reverse).toList =out.toList++((a.toList.take i).drop k).reverse :=by rw[Xo,Ye,jA]
 refine⟨h.p.p9 hk hi,?_,λx hx y hy=>?_,λx hx y hy=>?_⟩
 .rw[el,XM]
  exact⟨h.s,Zp.mpr p2,λx hx y hy=>LN x hx y (Xv _ (Yl.mp hy))⟩
 .rw[el]at hx
  rcases Xr.mp hx with z|z
  .exact LN x z y (XC _ hy)
  .exact p3 y hy x (Yl.mp z)
 .rw[el]at hx
  rcases Xr.mp hx with z|z
  .exact h.tb x z y hy
  .exact hb x (Yl.mp z) y hy
theorem Mh.p8(h:Mh r a b out i j)(sb:b.toList.Pairwise (le r))(hk:k<=j)(hj:j<=b.size)(ha:∀x∈(b.toList.take j).drop k,∀y∈a.toList.take i,le r y x):Mh r a b (out++(b.extract k j).reverse) i k:=by
 have sd:(b.toList.take j).Pairwise (le r):=sb.sublist (Ym _ _)
 have e:=r0 b hk
 rw[e,XM]at sd
 refine cS sd λp1 p2 p3=>?_
 have LO:∀x∈out.toList,∀y∈b.toList.take k++(b.toList.take j).drop k,le r y x:=λx hx y hy=>h.tb x hx y (by rw[e];exact hy)
 have el:(out++(b.extract k j).reverse).toList =out.toList++((b.toList.take j).drop k).reverse :=by rw[Xo,Ye,jA]
 refine⟨h.p.p8 hk hj,?_,λx hx y hy=>?_,λx hx y hy=>?_⟩
 .rw[el,XM]
  exact⟨h.s,Zp.mpr p2,λx hx y hy=>LO x hx y (Xv _ (Yl.mp hy))⟩
 .rw[el]at hx
  rcases Xr.mp hx with z|z
  .exact h.ta x z y hy
  .exact ha x (Yl.mp z) y hy
 .rw[el]at hx
  rcases Xr.mp hx with z|z
  .exact LO x z y (XC _ hy)
  .exact p3 y hy x (Yl.mp z)
def Mh.cg(h:Mh r a b out i j)(e:o.toList=out.toList):Mh r a b o i j:=⟨by unfold Ph;rw[e];exact h.p,by rw[e];exact h.s,λx hx=>h.ta x (by rw[<-e];exact hx),λx hx=>h.tb x (by rw[<-e];exact hx)⟩
def Mh.oJ(h:Mh r a b out i j)(sa:a.toList.Pairwise (le r))(h1:1<=i)(hi:i-1<a.size)(hb:∀y∈b.toList.take j,le r y a[i-1]):Mh r a b (out.push a[i-1]) (i-1) j:=by
 refine(h.p9 (k:=i-1) sa (by lia) (by lia) λx hx=>?_).cg (by rw[Xo,Ye,jz h1 hi,abh,<-Y6])
 rw[<-jA,jz h1 hi,Xc]at hx
 rw[hx];exact hb
def Mh.oK(h:Mh r a b out i j)(sb:b.toList.Pairwise (le r))(h1:1<=j)(hj:j-1<b.size)(ha:∀y∈a.toList.take i,le r y b[j-1]):Mh r a b (out.push b[j-1]) i (j-1):=by
 refine(h.p8 (k:=j-1) sb (by lia) (by lia) λx hx=>?_).cg (by rw[Xo,Ye,jz h1 hj,abh,<-Y6])
 rw[<-jA,jz h1 hj,Xc]at hx
 rw[hx];exact ha
def vK(O:Ord r)(sa:a.toList.Pairwise (le r))(hi:i-1<a.size)(hx:le r a[i-1] x):∀y∈a.toList.take i,le r y x:=λy hy=>by
 obtain⟨m,hm,rfl⟩:=Zc hy
 rw[YB,XE]at hm
 rw[List.getElem_take]
 rcases Yf m (i-1)with z|z
 .refine O.trans ?_ hx
  have:=(YH.mp sa) m (i-1) (by simp;lia) (by simp;lia) z
  simpa using this
 .have e:m=i-1:=by lia
  subst e
  simpa using hx
def Mh.done(h:Mh r a b out i j)(sa:a.toList.Pairwise (le r))(sb:b.toList.Pairwise (le r))(c:i=0\/j=0):((a.extract 0 i++b.extract 0 j)++out.reverse).toList.Pairwise (le r):=by
 rw[Xo,Xo,dR,dR,Ye,XM]
 refine⟨?_,Zp.mpr h.s,λx hx y hy=>?_⟩
 .rcases c with rfl|rfl
  .rw[List.take_zero,YT];exact sb.sublist (Ym _ _)
  .rw[List.take_zero,X7];exact sa.sublist (Ym _ _)
 .rcases Xr.mp hx with z|z
  .exact h.ta y (Yl.mp hy) x z
  .exact h.tb y (Yl.mp hy) x z
def Mh.first(h:Mh r a b out i j)(sa:a.toList.Pairwise (le r))(sb:b.toList.Pairwise (le r))(c:∀x∈b.toList.take j,∀y∈a.toList,le r x y):((b.extract 0 j++a.extract 0 i)++out.reverse).toList.Pairwise (le r):=by
 rw[Xo,Xo,dR,dR,Ye,XM]
 refine⟨?_,Zp.mpr h.s,λx hx y hy=>?_⟩
 .rw[XM]
  exact⟨sb.sublist (Ym _ _),sa.sublist (Ym _ _),λx hx y hy=>c x hx y (YO hy)⟩
 .rcases Xr.mp hx with z|z
  .exact h.tb y (Yl.mp hy) x z
  .exact h.ta y (Yl.mp hy) x z
end
section
variable {prog:Program}{w:World}{A:Around}{E:Value->Shared->Prop}{s:Shared}{κ:SortKind}{P:Keyed->Prop}{r:Keyed->Keyed->Bool}
structure Hi(r:Keyed->Keyed->Bool)(a b:Array Keyed)(k:Nat)(out:Array Keyed)(ia ib:Nat):Prop where
 m:Mh r a b out ia ib
 x1:1<=ia
 x2:ia<=a.size
 x3:2<=ib
 x4:ib<=b.size
 x5:k+ia+ib<=a.size+b.size
abbrev Sw(r:Keyed->Keyed->Bool)(a b:Array Keyed)(k:Nat)(c:Option (Array Keyed)×Nat×Nat×Array Keyed×Nat):Prop:=∃ia ib out g,c=(none,ia,ib,out,g)/\Hi r a b k out ia ib
abbrev L4(r:Keyed->Keyed->Bool)(a b:Array Keyed)(k:Nat)(c:Option (Array Keyed)×Nat×Nat×Array Keyed×Nat×Nat):Prop:=∃ia ib out n m,c=(none,ia,ib,out,n,m)/\Hi r a b k out ia ib
abbrev J3(r:Keyed->Keyed->Bool)(a b:Array Keyed)(k:Nat)(c:Option (Array Keyed)×Nat×Nat×Array Keyed×Nat×Nat×Nat):Prop:=∃ia ib out g n m,c=(none,ia,ib,out,g,n,m)/\Hi r a b k out ia ib
abbrev U5:=Option (Array Keyed)×Nat×Nat×Array Keyed×Nat
abbrev U6:=Option (Array Keyed)×Nat×Nat×Array Keyed×Nat×Nat
abbrev U7:=Option (Array Keyed)×Nat×Nat×Array Keyed×Nat×Nat×Nat
noncomputable def FG(a b out:Array Keyed)(na nb:Nat):Array Keyed:=(a.extract 0 na++b.extract 0 nb)++out.reverse
noncomputable def Oc(a b out:Array Keyed)(na nb:Nat):Array Keyed:=(b.extract 0 nb++a.extract 0 na)++out.reverse
noncomputable def Qj(a b:Array Keyed)(g na nb:Nat)(out:Array Keyed)(ac bc:Nat):SM (ForInStep U6):=do
 let some w<-lt' (<-elem' b (nb-1)) (<-elem' a (na-1))|return .done (some (FG a b out na nb),na,nb,out,ac,bc)
 if w then
  let o:=out.push (<-elem' a (na-1))
  if na-1==0 then return .done (some (FG a b o (na-1) nb),na-1,nb,o,ac+1,0)
  if ac+1 ≥ g then return .done (none,na-1,nb,o,ac+1,0)
  return .yield (none,na-1,nb,o,ac+1,0)
 else
  let o:=out.push (<-elem' b (nb-1))
  if nb-1==1 then return .done (some (Oc a b o na (nb-1)),na,nb-1,o,0,bc+1)
  if bc+1 ≥ g then return .done (none,na,nb-1,o,0,bc+1)
  return .yield (none,na,nb-1,o,0,bc+1)
noncomputable def C8(a b:Array Keyed)(na nb:Nat)(out:Array Keyed)(g ac bc:Nat):SM (ForInStep U7):=do
 let o:=out.push (<-elem' a (na-1))
 if na-1==0 then return .done (some (FG a b o (na-1) nb),na-1,nb,o,g,ac,bc)
 if ac<7&&bc<7 then return .done (none,na-1,nb,o,g,ac,bc)
 return .yield (none,na-1,nb,o,g,ac,bc)
noncomputable def C9(a b:Array Keyed)(na nb:Nat)(out:Array Keyed)(g ac bc:Nat):SM (ForInStep U7):=do
 let o:=out.push (<-elem' b (nb-1))
 if nb-1==1 then return .done (some (Oc a b o na (nb-1)),na,nb-1,o,g,ac,bc)
 let some k<-b9 true (<-elem' a (na-1)) b 0 (nb-1) (nb-1-1)|return .done (some (FG a b o na (nb-1)),na,nb-1,o,g,ac,bc)
 if nb-1-k>0 then
  let o:=o++(b.extract k (nb-1)).reverse
  if k==1 then return .done (some (Oc a b o na k),na,k,o,g,ac,nb-1-k)
  if k==0 then return .done (some (FG a b o na k),na,k,o,g,ac,nb-1-k)
  C8 a b na k o g ac (nb-1-k)
 else C8 a b na (nb-1) o g ac (nb-1-k)
noncomputable def C_(a b:Array Keyed)(na nb:Nat)(out:Array Keyed)(ac bc g:Nat):SM (ForInStep U7):=do
 a9 g
 let some k<-b9 false (<-elem' b (nb-1)) a 0 na (na-1)|return .done (some (FG a b out na nb),na,nb,out,g,ac,bc)
 if na-k>0 then
  let o:=out++(a.extract k na).reverse
  if k==0 then return .done (some (FG a b o k nb),k,nb,o,g,na-k,bc)
  C9 a b k nb o g (na-k) bc
 else C9 a b na nb out g (na-k) bc
noncomputable def Sx(a b:Array Keyed)(na nb:Nat)(out:Array Keyed)(g ac bc:Nat):SM (ForInStep U7):=if g>1 then C_ a b na nb out ac bc (g-1) else C_ a b na nb out ac bc g
noncomputable def Qk(u:U7):SM (ForInStep U5):=
 match u.1 with
 |some r=>pure (.done (some r,u.2.1,u.2.2.1,u.2.2.2.1,u.2.2.2.2.1))
 |none=>do
  a9 (u.2.2.2.2.1+1)
  pure (.yield (none,u.2.1,u.2.2.1,u.2.2.2.1,u.2.2.2.2.1+1))
noncomputable def Ql(a b:Array Keyed)(g:Nat)(t:U6):SM (ForInStep U5):=
 match t.1 with
 |some r=>pure (.done (some r,t.2.1,t.2.2.1,t.2.2.2.1,g))
 |none=>do
  rule "list.sort.gallop"
  let u<-forIn [0:a.size+b.size] ((none,t.2.1,t.2.2.1,t.2.2.2.1,g+1,t.2.2.2.2.1,t.2.2.2.2.2):U7) λ_ u=>Sx a b u.2.1 u.2.2.1 u.2.2.2.1 u.2.2.2.2.1 u.2.2.2.2.2.1 u.2.2.2.2.2.2
  Qk u
noncomputable def Qm(a b:Array Keyed)(na nb:Nat)(out:Array Keyed)(g:Nat):SM (ForInStep U5):=do
 let t<-forIn [0:a.size+b.size] ((none,na,nb,out,0,0):U6) λ_ t=>Qj a b g t.2.1 t.2.2.1 t.2.2.2.1 t.2.2.2.2.1 t.2.2.2.2.2
 Ql a b g t
def L5(a b:Array Keyed):mF a b=(do
  rule "list.sort.merge-hi"
  let x<-elem' a (a.size-1)
  if a.size-1==0 then return FG a b #[x] (a.size-1) b.size
  if b.size==1 then return Oc a b #[x] (a.size-1) b.size
  let g:=gallopOf (<-get)
  let s<-forIn [0:a.size+b.size] ((none,a.size-1,b.size,#[x],g):U5) λ_ s=>Qm a b s.2.1 s.2.2.1 s.2.2.2.1 s.2.2.2.2
  match s.1 with
  |some r=>pure r
  |none=>unsupported "internal:list.sort.merge-bound"):=by kernel_rfl
def Mg.hA{a b:Array Keyed}{zt aj:SortSt}{ia ib:Nat}{Q':Option Nat->SortSt->Prop}(G:Mg prog w A E s κ P r a b zt)(BZ:ib-1<b.size)(hS:Sm zt aj)(uD:1<=ia)(U4:ia<=a.size)(hq:∀k,k<=ia->(∀x∈(a.toList.take ia).drop k,∀y∈b.toList.take ib,le r y x)->(∀y∈a.toList.take k,le r y b[ib-1])->Q' (some k) aj):
  wpS (model prog w) A E s (b9 false b[ib-1] a 0 ia (ia-1)) Q' aj:=by
 have e:sg a 0 ia=a.toList.take ia:=by unfold sg;rw[Zy]
 refine cV G.L G.O (hS.k.trans G.hk) (G.hb _ (X5 _)) G.ha (by lia) (by lia) (by rw[e];exact G.sa.sublist (Ym _ _)) λk hk g1 g2=>hq k hk (λx hx=>?_) (λx hx=>?_)
 .have:=g2 x (by rw[e];exact hx)
  unfold uC at this
  have h':r b[ib-1] x=true:=by simpa using this
  exact vK G.O G.sb BZ (G.O.of_lt h')
 .have:=g1 x (by rw[e,abx,YA hk];exact hx)
  unfold uC at this
  simpa[le]using this
def Mg.hB{a b:Array Keyed}{zt aj:SortSt}{ia ib:Nat}{Q':Option Nat->SortSt->Prop}(G:Mg prog w A E s κ P r a b zt)(uD:ia-1<a.size)(hS:Sm zt aj)(BZ:1<=ib)(U8:ib<=b.size)(hq:∀k,k<=ib->(∀x∈(b.toList.take ib).drop k,∀y∈a.toList.take ia,le r y x)->(∀y∈b.toList.take k,le r y a[ia-1])->Q' (some k) aj):
  wpS (model prog w) A E s (b9 true a[ia-1] b 0 ib (ib-1)) Q' aj:=by
 have e:sg b 0 ib=b.toList.take ib:=by unfold sg;rw[Zy]
 refine cV G.L G.O (hS.k.trans G.hk) (G.ha _ (X5 _)) G.hb (by lia) (by lia) (by rw[e];exact G.sb.sublist (Ym _ _)) λk hk g1 g2=>hq k hk (λx hx=>?_) (λx hx=>?_)
 .exact vK G.O G.sa uD (g2 x (by rw[e];exact hx))
 .exact G.O.of_lt (g1 x (by rw[e,abx,YA hk];exact hx))
abbrev HI(r:Keyed->Keyed->Bool)(a b:Array Keyed)(zt:SortSt)(K:Nat)(x:ForInStep U6)(aj:SortSt):Prop:=match x with
 | .done c=>Qq r a b (L4 r a b K) zt c aj
 | .yield c=>Pq (L4 r a b K) zt c aj
abbrev HJ(r:Keyed->Keyed->Bool)(a b:Array Keyed)(zt:SortSt)(K:Nat)(x:ForInStep U7)(aj:SortSt):Prop:=match x with
 | .done c=>Qq r a b (J3 r a b K) zt c aj
 | .yield c=>Pq (J3 r a b K) zt c aj
abbrev H5(r:Keyed->Keyed->Bool)(a b:Array Keyed)(zt:SortSt)(K:Nat)(x:ForInStep U5)(aj:SortSt):Prop:=match x with
 | .done c=>Q1 r a b zt c aj
 | .yield c=>Pq (Sw r a b K) zt c aj
section
variable {a b out:Array Keyed}{zt aj:SortSt}{ia ib g ac bc K:Nat}
def L6(G:Mg prog w A E s κ P r a b zt)(gi:∀j,j=1->∀x∈b.toList.take j,∀y∈a.toList,le r x y)(hS:Sm zt aj)(h:Hi r a b K out ia ib):wpS (model prog w) A E s (Qj a b g ia ib out ac bc) (HI r a b zt K) aj:=by
 have hP:=h.m
 have x1:=h.x1
 have x2:=h.x2
 have x3:=h.x3
 have x4:=h.x4
 have x5:=h.x5
 have BZ:ib-1<b.size:=by lia
 have uD:ia-1<a.size:=by lia
 unfold Qj
 refine wpS_bind (ba BZ (wpS_bind (ba uD (wpS_bind (G.L _ _ _ _ (G.hb _ (X5 _)) (G.ha _ (X5 _)) (hS.k.trans G.hk) ?_)))))
 cases bw:r b[ib-1] a[ia-1]with
 |true=>
  dsimp only
  rw[Xs rfl]
  refine wpS_bind (ba uD ?_)
  have n6:=hP.oJ G.sa x1 uD (vK G.O G.sb BZ (G.O.of_lt bw))
  refine gg (λe1=>?_) (λe1=>?_)
  .exact wpS_pure ⟨hS,.inl ⟨_,rfl,n6.p.done,n6.done G.sa G.sb (.inl (by simpa using e1))⟩⟩
  .have pU:1<=ia-1:=by have:=bne e1;lia
   refine gg (λ_=>?_) (λ_=>?_)
   .exact wpS_pure ⟨hS,.inr ⟨_,_,_,_,_,rfl,n6,pU,by lia,by lia,by lia,by lia⟩⟩
   .exact wpS_pure ⟨hS,_,_,_,_,_,rfl,n6,pU,by lia,by lia,by lia,by lia⟩
 |false=>
  dsimp only
  rw[Xx Xa]
  refine wpS_bind (ba BZ ?_)
  have n6:=hP.oK G.sb (show 1<=ib by lia) BZ (vK G.O G.sa uD bw)
  refine gg (λe1=>?_) (λe1=>?_)
  .exact wpS_pure ⟨hS,.inl ⟨_,rfl,n6.p.first,n6.first G.sa G.sb (gi _ (by simpa using e1))⟩⟩
  .have pU:2<=ib-1:=by have:=bne e1;lia
   refine gg (λ_=>?_) (λ_=>?_)
   .exact wpS_pure ⟨hS,.inr ⟨_,_,_,_,_,rfl,n6,x1,by lia,pU,by lia,by lia⟩⟩
   .exact wpS_pure ⟨hS,_,_,_,_,_,rfl,n6,x1,by lia,pU,by lia,by lia⟩
def zT(G:Mg prog w A E s κ P r a b zt)(hS:Sm zt aj)(hP:Mh r a b out ia ib)(x1:1<=ia)(x2:ia<=a.size)(x3:2<=ib)(x4:ib<=b.size)(x5:K+(ia-1)+ib<=a.size+b.size)(HC:ia-1<a.size)(y7:∀y∈b.toList.take ib,le r y a[ia-1]):
  wpS (model prog w) A E s (C8 a b ia ib out g ac bc) (HJ r a b zt K) aj:=by
 unfold C8
 refine wpS_bind (ba HC ?_)
 have C4:=hP.oJ G.sa x1 HC y7
 refine gg (λe5=>?_) (λe5=>?_)
 .exact wpS_pure ⟨hS,.inl ⟨_,rfl,C4.p.done,C4.done G.sa G.sb (.inl (by simpa using e5))⟩⟩
 have LV:1<=ia-1:=by have:=bne e5;lia
 refine gg (λ_=>?_) (λ_=>?_)
 .exact wpS_pure ⟨hS,.inr ⟨_,_,_,_,_,_,rfl,C4,LV,by lia,x3,x4,x5⟩⟩
 .exact wpS_pure ⟨hS,_,_,_,_,_,_,rfl,C4,LV,by lia,x3,x4,x5⟩
def zU(G:Mg prog w A E s κ P r a b zt)(gi:∀j,j=1->∀x∈b.toList.take j,∀y∈a.toList,le r x y)(hS:Sm zt aj)(hP:Mh r a b out ia ib)(x1:1<=ia)(x2:ia<=a.size)(x3:2<=ib)(x4:ib<=b.size)(x5:K+ia+ib<=a.size+b.size)(HD:ib-1<b.size)(y6:∀y∈a.toList.take ia,le r y b[ib-1]):
  wpS (model prog w) A E s (C9 a b ia ib out g ac bc) (HJ r a b zt (K+1)) aj:=by
 unfold C9
 refine wpS_bind (ba HD ?_)
 have C5:=hP.oK G.sb (show 1<=ib by lia) HD y6
 refine gg (λe3=>?_) (λe3=>?_)
 .exact wpS_pure ⟨hS,.inl ⟨_,rfl,C5.p.first,C5.first G.sa G.sb (gi _ (by simpa using e3))⟩⟩
 have Oa:2<=ib-1:=by have:=bne e3;lia
 have HC:ia-1<a.size:=by lia
 refine wpS_bind (ba HC (wpS_bind (G.hB HC hS (by lia) (by lia) λk LD g1 g2=>?_)))
 dsimp only
 refine gg (λQg=>?_) (λQg=>?_)
 .have C6:=C5.p8 (k:=k) G.sb LD (by lia) g1
  refine gg (λe4=>?_) (λe4=>?_)
  .exact wpS_pure ⟨hS,.inl ⟨_,rfl,C6.p.first,C6.first G.sa G.sb (gi _ (by simpa using e4))⟩⟩
  refine gg (λe6=>?_) (λe6=>?_)
  .exact wpS_pure ⟨hS,.inl ⟨_,rfl,C6.p.done,C6.done G.sa G.sb (.inr (by simpa using e6))⟩⟩
  exact zT G hS C6 x1 x2 (by have:=bne e4;have:=bne e6;lia) (by lia) (by lia) HC g2
 .exact zT G hS C5 x1 x2 Oa (by lia) (by lia) HC (by rw[show ib-1=k by lia];exact g2)
def zV(G:Mg prog w A E s κ P r a b zt)(gi:∀j,j=1->∀x∈b.toList.take j,∀y∈a.toList,le r x y)(hS:Sm zt aj)(h:Hi r a b K out ia ib):wpS (model prog w) A E s (C_ a b ia ib out ac bc g) (HJ r a b zt (K+1)) aj:=by
 have hP:=h.m
 have x1:=h.x1
 have x2:=h.x2
 have x3:=h.x3
 have x4:=h.x4
 have x5:=h.x5
 have HD:ib-1<b.size:=by lia
 unfold C_ a9
 refine wpS_bind (wpS_modify ?_)
 refine wpS_bind (ba HD (wpS_bind (G.hA HD hS.setG x1 x2 λk BY k1 k2=>?_)))
 dsimp only
 refine gg (λOb=>?_) (λOb=>?_)
 .have C7:=hP.p9 (k:=k) G.sa BY x2 k1
  refine gg (λe1=>?_) (λe1=>?_)
  .exact wpS_pure ⟨hS.setG,.inl ⟨_,rfl,C7.p.done,C7.done G.sa G.sb (.inl (by simpa using e1))⟩⟩
  exact zU G gi hS.setG C7 (by have:=bne e1;lia) (by lia) x3 x4 (by lia) HD k2
 .exact zU G gi hS.setG hP x1 x2 x3 x4 x5 HD (by rw[show ia=k by lia];exact k2)
def L7(G:Mg prog w A E s κ P r a b zt)(gi:∀j,j=1->∀x∈b.toList.take j,∀y∈a.toList,le r x y)(hS:Sm zt aj)(h:Hi r a b K out ia ib):wpS (model prog w) A E s (Sx a b ia ib out g ac bc) (HJ r a b zt (K+1)) aj:=
 gg (λ_=>zV G gi hS h) λ_=>zV G gi hS h
def Hi.less(h:Hi r a b (K+1) out ia ib):Hi r a b K out ia ib:=⟨h.m,h.x1,h.x2,h.x3,h.x4,by have:=h.x5;lia⟩
def L8{u:U7}(h:Qq r a b (J3 r a b K) zt u aj):wpS (model prog w) A E s (Qk u) (H5 r a b zt K) aj:=by
 obtain⟨c,d⟩:=u
 obtain⟨hS,⟨o,hc,hr⟩|⟨ia,ib,out,g',n,m,hc,hL⟩⟩:=h
 .have nK:c=some o:=hc
  subst nK
  exact wpS_pure ⟨hS,o,rfl,hr⟩
 .cases hc
  unfold Qk a9
  exact wpS_bind (wpS_modify (wpS_pure ⟨hS.setG,_,_,_,_,rfl,hL⟩))
def L9{t:U6}(G:Mg prog w A E s κ P r a b zt)(gi:∀j,j=1->∀x∈b.toList.take j,∀y∈a.toList,le r x y)(uE:1<=a.size+b.size)(h:Qq r a b (L4 r a b K) zt t aj):wpS (model prog w) A E s (Ql a b g t) (H5 r a b zt (K+1)) aj:=by
 obtain⟨c,d⟩:=t
 obtain⟨hS,⟨o,hc,hr⟩|⟨ia,ib,out,n,m,hc,hL⟩⟩:=h
 .have nK:c=some o:=hc
  subst nK
  exact wpS_pure ⟨hS,o,rfl,hr⟩
 .cases hc
  unfold Ql
  refine wpS_bind (wpS_lift (Zu ⟨rfl,?_⟩))
  refine wpS_bind (wpS_mono (wpS_forRange
   (I:=λj=>match j with|0=>Pq (J3 r a b K) zt|_+1=>Pq (J3 r a b (K+1)) zt)
   (Q:=Qq r a b (J3 r a b (K+1)) zt) ?step ?fin ⟨hS,_,_,_,_,_,_,rfl,hL⟩) λu cC h2=>L8 h2)
  case fin=>
   intro c cC h2
   rw[show max 0 (a.size+b.size)=(a.size+b.size-1)+1 by lia]at h2
   exact⟨h2.1,.inr h2.2⟩
  case step=>
   intro j c cC _ _ h2
   have h3:Sm zt cC/\∃ia ib out g n m,c=(none,ia,ib,out,g,n,m)/\Hi r a b K out ia ib:=by
    cases j with
    |zero=>exact h2
    |succ j=>
     obtain⟨z1,ia,ib,out,g,n,m,z2,z3⟩:=h2
     exact⟨z1,ia,ib,out,g,n,m,z2,z3.less⟩
   obtain⟨z1,ia,ib,out,g,n,m,rfl,z3⟩:=h3
   exact wpS_mono (L7 G gi z1 z3) λx _ h=>by cases x<;>exact h
def L_(G:Mg prog w A E s κ P r a b zt)(gi:∀j,j=1->∀x∈b.toList.take j,∀y∈a.toList,le r x y)(uE:1<=a.size+b.size)(hS:Sm zt aj)(h:Hi r a b K out ia ib):wpS (model prog w) A E s (Qm a b ia ib out g) (H5 r a b zt (K+1)) aj:=by
 unfold Qm
 refine wpS_bind (wpS_mono (wpS_forRange (I:=λ_=>Pq (L4 r a b K) zt) (Q:=Qq r a b (L4 r a b K) zt) ?step (λc cC h2=>⟨h2.1,.inr h2.2⟩) ⟨hS,_,_,_,_,_,rfl,h⟩) λt cC h2=>L9 G gi uE h2)
 intro _ c cC _ _ h2
 obtain⟨z1,ia,ib,out,n,m,rfl,z3⟩:=h2
 exact wpS_mono (L6 G gi z1 z3) λx _ h=>by cases x<;>exact h
end
def xT{a b:Array Keyed}{zt:SortSt}{Q:Array Keyed->SortSt->Prop}(L:lF prog w A E s κ P r)(O:Ord r)(hk:kindOf zt=κ)(ha:∀x∈a,P x)(hb:∀x∈b,P x)(h1:1<=a.size)(h2:1<=b.size)
  (sa:a.toList.Pairwise (le r)) (sb:b.toList.Pairwise (le r)) (first:∀y∈a.toList,le r b[0] y) (final:∀y∈b.toList,∀x∈a.toList.drop (a.size-1),le r y x)
  (q:∀out aj,out.toList.Perm (a.toList++b.toList)->out.toList.Pairwise (le r)->Sm zt aj->Q out aj):wpS (model prog w) A E s (mF a b) Q zt:=by
 have gi:∀j,j=1->∀x∈b.toList.take j,∀y∈a.toList,le r x y:=λj hj x hx=>by
  subst hj
  have:=dR b (i:=1)
  rw[<-this,gX (by lia),Xc]at hx
  rw[hx];exact first
 have G:Mg prog w A E s κ P r a b zt:=⟨L,O,hk,ha,hb,sa,sb⟩
 rw[L5]
 refine wpS_bind (wpS_lift (Zu ⟨rfl,?_⟩))
 refine wpS_bind (ba (show a.size-1<a.size by lia) ?_)
 have p0:Mh r a b #[a[a.size-1]] (a.size-1) b.size:=by
  have:Mh r a b #[] a.size b.size:=⟨by
   unfold Ph
   rw[X3 (by simp),X3 (by simp)]
   simp,by simp,by simp,by simp⟩
  refine this.oJ sa h1 (by lia) λy hy=>?_
  have iP:a.size-1<a.toList.length:=by simp;lia
  refine final y (YO hy) _ ?_
  rw[X9 iP]
  simp
 refine gg (λc1=>?_) (λc1=>?_)
 .exact wpS_pure (q _ _ p0.p.done (p0.done sa sb (.inl (by simpa using c1))) .rfl')
 have yG:1<=a.size-1:=by have:=bne c1;lia
 refine gg (λc2=>?_) (λc2=>?_)
 .exact wpS_pure (q _ _ p0.p.first (p0.first sa sb (gi _ (by simpa using c2))) .rfl')
 have xS:2<=b.size:=by have:=bne c2;lia
 refine wpS_bind (wpS_get ?_)
 refine wpS_bind (wpS_mono (wpS_forRange (I:=λi=>Pq (Sw r a b (i+1)) zt) (Q:=Q1 r a b zt) ?step ?fin ⟨.rfl',_,_,_,_,rfl,p0,yG,by lia,xS,Xf _,by lia⟩) ?post)
 case post=>
  rintro⟨c,d⟩ aj ⟨hS,o,hc,hr,Qh⟩
  have nK:c=some o:=hc
  subst nK
  exact wpS_pure (q o aj hr Qh hS)
 case fin=>
  rintro c aj ⟨_,ia,ib,out,g,_,_,x1,x2,x3,x4,x5⟩
  lia
 case step=>
  rintro i c eQ _ _ ⟨Qi,ia,ib,out,g,rfl,hL⟩
  exact wpS_mono (L_ G gi (by lia) Qi hL) λx _ h=>by cases x<;>exact h
end
noncomputable def gt(xs:Array Keyed)(i:Nat):Keyed:=xs[i]?.getD (.none,.none)
def iF(h:i<xs.size):gt xs i=xs[i]:=by unfold gt;rw[XW h];rfl
def So(r:Keyed->Keyed->Bool)(xs:Array Keyed)(lo hi:Nat):Prop:=∀i j,lo<=i->i<=j->j<hi->le r (gt xs i) (gt xs j)
def De(r:Keyed->Keyed->Bool)(xs:Array Keyed)(lo hi:Nat):Prop:=∀i j,lo<=i->i<=j->j<hi->le r (gt xs j) (gt xs i)
def gY(hj:j<=xs.size)(k:Nat):gt (mirror xs i j ((j-i)/2)) k=if i<=k/\k<j then gt xs (i+j-1-k) else gt xs k:=by
 unfold gt
 rw[getElem?_mirror_all hj k]
 split<;>rfl
def kf(hs:gm<xs.size)(hd:d<=gm)(k:Nat):gt (bubble xs gm d) k=if k=gm-d then gt xs gm else if gm-d<k/\k<=gm then gt xs (k-1) else gt xs k:=by
 unfold gt
 rw[getElem?_bubble hs d hd k]
 split
 .rfl
 .split<;>rfl
structure At(zt aj:SortSt)(lo hi:Nat):Prop where
 a:Ar zt aj
 o:∀i,i<lo\/hi<=i->gt (arrOf aj) i=gt (arrOf zt) i
theorem At.rfl'{zt:SortSt}{lo hi:Nat}:At zt zt lo hi:=⟨.rfl',λ_ _=>rfl⟩
theorem At.trans{zt aj L':SortSt}{lo hi:Nat}(h:At zt aj lo hi)(h':At aj L' lo hi):At zt L' lo hi:=
 ⟨⟨h'.a.k.trans h.a.k,h'.a.a.trans h.a.a,h'.a.p.trans h.a.p,h'.a.f.trans h.a.f⟩,λi hi=>(h'.o i hi).trans (h.o i hi)⟩
theorem At.mirror{zt:SortSt}{lo hi i j:Nat}(hj:j<=(arrOf zt).size)(h1:lo<=i)(h2:j<=hi):At zt (setArr zt (mirror (arrOf zt) i j ((j-i)/2))) lo hi:=
 ⟨(Ar.rfl').set (mirror_perm _ _ _ _),λk hk=>by
  show gt (PyProof.Rows.mirror (arrOf zt) i j ((j-i)/2)) k=_
  rw[gY hj,Xx (by lia)]⟩
theorem At.bubble{zt:SortSt}{lo hi gm d:Nat}(hs:gm<(arrOf zt).size)(hd:d<=gm)(h1:lo<=gm-d)(h2:gm<hi):At zt (setArr zt (bubble (arrOf zt) gm d)) lo hi:=
 ⟨(Ar.rfl').set (bubble_perm _ _ _),λk hk=>by
  show gt (PyProof.Rows.bubble (arrOf zt) gm d) k=_
  rw[kf hs hd,Xx (by lia),Xx (by lia)]⟩
section
variable {prog:Program}{w:World}{A:Around}{E:Value->Shared->Prop}{s:Shared}{κ:SortKind}{P:Keyed->Prop}{r:Keyed->Keyed->Bool}
def kg{i j:Nat}{zt:SortSt}{Q:Option Bool->SortSt->Prop}(L:lF prog w A E s κ P r)(hk:kindOf zt=κ)(hp:∀x∈arrOf zt,P x)(hi:i<(arrOf zt).size)(hj:j<(arrOf zt).size)(q:Q (some (r (gt (arrOf zt) i) (gt (arrOf zt) j))) zt):wpS (model prog w) A E s (ltAt' i j) Q zt:=by
 rw[iF hi,iF hj]at q
 rw[ltAt'_eq]
 exact wpS_bind (wpS_get (wpS_bind (ba hi (wpS_bind (ba hj (L _ _ _ _ (hp _ (X5 _)) (hp _ (X5 _)) hk q))))))
def zW{l u:Nat}(h:l<u):(l+u)/2<u:=Nat.div_lt_of_lt_mul (by rw[Nat.two_mul];exact Nat.add_lt_add_right h u)
def Ma{l u:Nat}(h:l<u):l<=(l+u)/2:=(Nat.le_div_iff_mul_le Nat.two_pos).mpr (by rw[Nat.mul_two];exact XS (Yb h) l)
def Qn{l u k x:Nat}(h:l<u)(h2:u-l<=k-x):(l+u)/2-l<=k-(x+1):=by
 rw[aav]
 refine Xq ?_ (Y0 h2 1)
 rw[Nat.sub_right_comm]
 exact Y0 (Yg (zW h)) l
def Qo{l u k x:Nat}(h:l<u)(h2:u-l<=k-x):u-((l+u)/2+1)<=k-(x+1):=by
 rw[aav,aav]
 exact Y0 (Xq (Za (Ma h) u) h2) 1
def qb{lo n ok:Nat}{zt:SortSt}{Q:Bool->SortSt->Prop}(L:lF prog w A E s κ P r)(O:Ord r)(hk:kindOf zt=κ)(hp:∀x∈arrOf zt,P x)(hz:lo+n<=(arrOf zt).size)(aN:ok<=n)(hs:So r (arrOf zt) lo (lo+ok))(q:∀aj,At zt aj lo (lo+n)->So r (arrOf aj) lo (lo+n)->Q true aj):wpS (model prog w) A E s (binarySort' lo n ok) Q zt:=by
 rw[binarySort'_eq]
 refine wpS_bind (wpS_mono (wpS_forRange (I:=λk c aj=>c=(none,())/\At zt aj lo (lo+n)/\So r (arrOf aj) lo (lo+min k n)) (Q:=λc aj=>c=(none,())/\At zt aj lo (lo+n)/\So r (arrOf aj) lo (lo+n)) ?_ ?_ ⟨rfl,.rfl',λi j h1 h2 h3=>?_⟩) ?_)
 .rintro k c eQ k1 k2 ⟨rfl,a1,s1⟩
  rw[YA (Yb k2)]at s1
  have B0:lo+k<(arrOf eQ).size :=by rw[a1.a.size];exact Xj (Yi k2 lo) hz
  refine wpS_bind (wpS_mono (wpS_forRange (I:=λx c aj=>aj=eQ/\∃l u,c=(none,l,u)/\l<=u/\u<=k/\u-l<=k-x/\(∀i,i<l->le r (gt (arrOf eQ) (lo+i)) (gt (arrOf eQ) (lo+k)))/\(∀i,u<=i->i<k->le r (gt (arrOf eQ) (lo+k)) (gt (arrOf eQ) (lo+i))))
   (Q:=λc aj=>aj=eQ/\∃l u,c=(none,l,u)/\l<=k/\(∀i,i<l->le r (gt (arrOf eQ) (lo+i)) (gt (arrOf eQ) (lo+k)))/\(∀i,l<=i->i<k->le r (gt (arrOf eQ) (lo+k)) (gt (arrOf eQ) (lo+i)))) ?_ ?_ ⟨rfl,0,k,rfl,XQ _,Xf _,Xf _,λi h=>absurd h (Y5 _),λi h1 h2=>absurd h2 (aaI.mpr h1)⟩) ?_)
  .rintro x c cC _ hx ⟨rfl,l,u,rfl,z1,z2,z3,z4,z5⟩
   dsimp only
   refine gg (λhl=>?_) (λhl=>?_)
   .exact wpS_pure ⟨rfl,l,u,rfl,Xq z1 z2,z4,λi h1 h2=>z5 i (Xq hl h1) h2⟩
   .have hl:=aaX hl
    refine wpS_bind (kg L (a1.a.k.trans hk) (a1.a.all hp) B0 (XH (XS (Xq (Yb (zW hl)) z2) lo) B0) ?_)
    cases e:r (gt (arrOf cC) (lo+k)) (gt (arrOf cC) (lo+(l+u)/2))with
    |true=>exact wpS_pure ⟨rfl,l,_,rfl,Ma hl,Xq (Yb (zW hl)) z2,Qn hl z3,z4,λi h1 h2=>O.trans (O.of_lt e) (s1 _ _ (XT _ _) (XS h1 _) (Yi h2 _))⟩
    |false=>exact wpS_pure ⟨rfl,_,u,rfl,zW hl,z2,Qo hl z3,λi h=>O.trans (s1 (lo+i) (lo+(l+u)/2) (XT _ _) (XS (Yo h) _) (Yi (Xj (zW hl) z2) _)) e,z5⟩
  .rintro c cC ⟨rfl,l,u,rfl,z1,z2,z3,z4,z5⟩
   rw[Nat.max_eq_right (XQ k),Nat.sub_self]at z3
   exact⟨rfl,l,u,rfl,Xq z1 z2,z4,λi h1 h2=>z5 i (Xq (Z_ (Nat.le_zero.mp z3)) h1) h2⟩
  .rintro c cC ⟨rfl,l,u,rfl,z1,z4,z5⟩
   dsimp only
   rw[moveDown'_eq]
   have hb:lo+k-(lo+k-(lo+l))=lo+l:=Nat.sub_sub_self (XS z1 lo)
   refine wpS_bind (wpS_modify (wpS_pure ⟨rfl,a1.trans (At.bubble B0 (Zf _ _) (by rw[hb];exact XT lo l) (Yi k2 lo)),?_⟩))
   rw[YA k2]
   intro i j h1 h2 h3
   show le r (gt (bubble (arrOf cC) (lo+k) (lo+k-(lo+l))) i) (gt (bubble (arrOf cC) (lo+k) (lo+k-(lo+l))) j)
   have a4:∀i,lo<=i->i<lo+l->le r (gt (arrOf cC) i) (gt (arrOf cC) (lo+k)):=λi h h'=>by
    have:=z4 (i-lo) (ZA h h')
    rwa [X' h]at this
   have a5:∀i,lo+l<=i->i<lo+k->le r (gt (arrOf cC) (lo+k)) (gt (arrOf cC) i):=λi h h'=>by
    have hh:=Xq (XT lo l) h
    have:=z5 (i-lo) (Z' h) (ZA hh h')
    rwa [X' hh]at this
   have h4:j<=lo+k:=Yo h3
   have jm:lo+l<j->j-1<lo+k:=λb=>Xj (Nat.sub_lt (XH (XQ _) b) Nat.one_pos) h4
   rw[kf B0 (Zf _ _),kf B0 (Zf _ _),hb]
   rcases Z0 i (lo+l)with a|a|a
   .rw[Xx (XD a),Xx λz=>Nat.lt_asymm a z.1]
    rcases Z0 j (lo+l)with b|b|b
    .rw[Xx (XD b),Xx λz=>Nat.lt_asymm b z.1]
     exact s1 _ _ h1 h2 (Xj b (XS z1 lo))
    .rw[Xs b]
     exact a4 _ h1 a
    .rw[Xx (ZJ b),Xs ⟨b,h4⟩]
     exact s1 _ _ h1 (Yg (Zl a b)) (jm b)
   .rw[Xs a]
    rcases Nat.lt_or_eq_of_le (a▸h2:lo+l<=j)with b|b
    .rw[Xx (ZJ b),Xs ⟨b,h4⟩]
     exact a5 _ (Yg b) (jm b)
    .rw[Xs b.symm]
     exact O.refl _
   .have b:=Xj a h2
    rw[Xx (ZJ a),Xs ⟨a,Xq h2 h4⟩,Xx (ZJ b),Xs ⟨b,h4⟩]
    exact s1 _ _ (Xq (XT lo l) (Yg a)) (Y0 h2 1) (jm b)
 .rintro c aj ⟨hc,a1,s1⟩
  rw[aaZ (aaY _ _)]at s1
  exact⟨hc,a1,s1⟩
 .by_cases e:ok=0
  .rw[YK h2 (Xq (Yo (Xj h3 (XS (Xq (aaj _ _) (show max ok 1<=1 by rw[e];decide)) lo))) h1)];exact O.refl _
  .exact hs i j h1 h2 (Xj h3 (XS (Xq (aaj _ _) (Nat.max_le.mpr ⟨Xf _,abL e⟩)) lo))
 .rintro c eQ ⟨rfl,a1,s1⟩
  exact wpS_pure (q eQ a1 s1)
def pd{a b:Nat}(h:b<a):a-1<a:=Nat.sub_lt (XH (XQ b) h) Nat.one_pos
def U9{lo hi j:Nat}(h:j<hi):lo+hi-1-j=lo+(hi-1-j):=by rw[Y7 (XH (XQ j) h),Y7 (Yg h)]
def Sy{lo hi i:Nat}(h:lo<=i)(h2:i<hi):lo+hi-1-i<hi:=by
 refine XH (Za h _) ?_
 rw[Y7 (XH (XQ i) h2),Zb]
 exact pd h2
def Sz{lo hi j:Nat}(h:j<hi):lo<=lo+hi-1-j:=by rw[U9 h];exact XT _ _
def So.one(O:Ord r)(xs:Array Keyed)(lo:Nat):So r xs lo (lo+1):=λi j h1 h2 h3=>by rw[YK h2 (Xq (Yo h3) h1)];exact O.refl _
def De.one(O:Ord r)(xs:Array Keyed)(lo:Nat):De r xs lo (lo+1):=λi j h1 h2 h3=>by rw[YK h2 (Xq (Yo h3) h1)];exact O.refl _
def So.more(O:Ord r){xs:Array Keyed}{lo n:Nat}(h:So r xs lo (lo+n))(h1:1<=n)(hl:le r (gt xs (lo+n-1)) (gt xs (lo+n))):So r xs lo (lo+(n+1)):=λi j g1 g2 g3=>by
 rcases Yf j (lo+n)with z|z
 .exact h i j g1 g2 z
 .have e:j=lo+n:=YK (Yo g3) z
  subst e
  rcases Yf i (lo+n)with y|y
  .exact O.trans (h i (lo+n-1) g1 (Yg y) (pd y)) hl
  .rw[YK g2 y];exact O.refl _
def De.more(O:Ord r){xs:Array Keyed}{lo n:Nat}(h:De r xs lo (lo+n))(h1:1<=n)(hl:le r (gt xs (lo+n)) (gt xs (lo+n-1))):De r xs lo (lo+(n+1)):=λi j g1 g2 g3=>by
 rcases Yf j (lo+n)with z|z
 .exact h i j g1 g2 z
 .have e:j=lo+n:=YK (Yo g3) z
  subst e
  rcases Yf i (lo+n)with y|y
  .exact O.trans hl (h i (lo+n-1) g1 (Yg y) (pd y))
  .rw[YK g2 y];exact O.refl _
def Eqv(r:Keyed->Keyed->Bool)(xs ys:Array Keyed):Prop:=∀k,le r (gt xs k) (gt ys k)/\le r (gt ys k) (gt xs k)
def iT(O:Ord r){xs:Array Keyed}{i j:Nat}(hj:j<=xs.size)(h:∀k,i<=k->k<j->le r (gt xs k) (gt xs (j-1))/\le r (gt xs (j-1)) (gt xs k)):Eqv r (mirror xs i j ((j-i)/2)) xs:=λk=>by
 rw[gY hj]
 split
 .rename_i z
  have h1:=h (i+j-1-k) (Sz z.2) (Sy z.1 z.2)
  have h2:=h k z.1 z.2
  exact⟨O.trans h1.1 h2.2,O.trans h2.1 h1.2⟩
 .exact⟨O.refl _,O.refl _⟩
def De.eqv(O:Ord r){xs ys:Array Keyed}{lo hi:Nat}(h:De r xs lo hi)(e:Eqv r ys xs):De r ys lo hi:=λi j h1 h2 h3=>O.trans (e j).1 (O.trans (h i j h1 h2 h3) (e i).2)
def De.turn{xs:Array Keyed}{lo n:Nat}(h:De r xs lo (lo+n))(hz:lo+n<=xs.size):So r (mirror xs lo (lo+n) ((lo+n-lo)/2)) lo (lo+n):=λi j h1 h2 h3=>by
 rw[gY hz,gY hz,Xs ⟨h1,XH h2 h3⟩,Xs ⟨Xq h1 h2,h3⟩]
 exact h _ _ (Sz h3) (Za h2 _) (Sy h1 (XH h2 h3))
def zX{α:Type}{x:SM α}{zt:SortSt}{Q:α->SortSt->Prop}{T:SortSt->Prop}(C:SortSt->Prop)(main:(∀s',C s'->T s')->wpS (model prog w) A E s x Q zt)(h:∀s',C s'->T s'):wpS (model prog w) A E s x Q zt:=main h
def uF{lo fA:Nat}{zt:SortSt}{Q:Option Nat->SortSt->Prop}(L:lF prog w A E s κ P r)(O:Ord r)(hk:kindOf zt=κ)(hp:∀x∈arrOf zt,P x)(hz:lo+fA<=(arrOf zt).size)(h1:1<=fA)(q:∀n aj,1<=n->n<=fA->At zt aj lo (lo+fA)->So r (arrOf aj) lo (lo+n)->Q (some n) aj):wpS (model prog w) A E s (countRun' lo fA) Q zt:=by
 rw[countRun'_eq]
 refine wpS_bind (wpS_mono (wpS_forRange (I:=λi c aj=>aj=zt/\∃n,c=(none,n)/\1<=n/\n=i/\n<=fA/\So r (arrOf zt) lo (lo+n))
  (Q:=λc aj=>aj=zt/\∃n,c=(none,n)/\1<=n/\n<=fA/\So r (arrOf zt) lo (lo+n)/\(n=fA\/r (gt (arrOf zt) (lo+n)) (gt (arrOf zt) (lo+n-1))=true)) ?_ ?_ ⟨rfl,1,rfl,by lia,by lia,h1,.one O _ _⟩) ?_)
 .rintro i c eQ i1 i2 ⟨rfl,n,rfl,n1,n2,n3,s1⟩
  dsimp only
  have hn:lo+n<(arrOf eQ).size :=Xj (Yi (by rw[n2];exact i2) lo) hz
  refine wpS_bind (kg L hk hp hn (XH (Zf _ _) hn) ?_)
  cases e:r (gt (arrOf eQ) (lo+n)) (gt (arrOf eQ) (lo+n-1))with
  |true=>exact wpS_pure ⟨rfl,n,rfl,n1,n3,s1,.inr e⟩
  |false=>exact wpS_pure ⟨rfl,n+1,rfl,by lia,by lia,by lia,s1.more O n1 e⟩
 .rintro c eQ ⟨rfl,n,rfl,n1,n2,n3,s1⟩
  exact⟨rfl,n,rfl,n1,n3,s1,.inl (by lia)⟩
 rintro c eQ ⟨rfl,n,rfl,n1,n2,s1,Qp⟩
 dsimp only
 refine gg (λe1=>?_) (λe1=>?_)
 .exact wpS_pure (q n _ n1 n2 .rfl' s1)
 have pU:n<fA:=Nat.lt_of_le_of_ne n2 (bne e1)
 have hn:lo+n<(arrOf eQ).size :=Xj (Yi pU lo) hz
 have bJ:=Qp.resolve_left (by lia)
 apply zX (λs'=>At eQ s' lo (lo+fA)/\De r (arrOf s') lo (lo+(n+1)))
 .intro shared
  refine gg (λFH=>?_) (λFH=>?_)
  rotate_left
  .have e:n=1:=by lia
   have d:De r (arrOf eQ) lo (lo+(n+1)):=by
    subst e
    exact(De.one O _ _).more O (by lia) (O.of_lt bJ)
   apply shared eQ ⟨.rfl',d⟩
  .refine wpS_bind (kg L hk hp (XH (XT lo n) hn) (XH (Zf _ _) hn) ?_)
   cases e:r (gt (arrOf eQ) lo) (gt (arrOf eQ) (lo+n-1))with
   |true=>exact wpS_pure (q n _ n1 n2 .rfl' s1)
   |false=>
    dsimp only
    rw[Xx Xa]
    refine wpS_bind (vF ?_)
    have all:∀k,lo<=k->k<lo+n->le r (gt (arrOf eQ) k) (gt (arrOf eQ) (lo+n-1))/\le r (gt (arrOf eQ) (lo+n-1)) (gt (arrOf eQ) k):=λk k1 k2=>⟨s1 k _ k1 (Yg k2) (pd k2),O.trans e (s1 lo k (Xf _) k1 k2)⟩
    have d0:De r (arrOf eQ) lo (lo+n):=λi j g1 g2 g3=>O.trans (all j (Xq g1 g2) g3).1 (all i g1 (XH g2 g3)).2
    exact shared _ ⟨At.mirror (by lia) (Xf _) (by lia),(d0.more O n1 (O.of_lt bJ)).eqv O (iT O (by lia) all)⟩
 rintro s' ⟨a0,d0⟩
 have z0:=a0.a.size
 refine wpS_bind (wpS_lift (Zu ⟨rfl,?_⟩))
 refine wpS_bind (wpS_mono (wpS_forRange (I:=λi c aj=>At eQ aj lo (lo+fA)/\∃n' z,c=(none,n',z)/\2<=n'/\n'=i/\n'<=fA/\z+1<=n'/\De r (arrOf aj) lo (lo+n')/\∀k,lo+n'-(z+1)<=k->k<lo+n'->le r (gt (arrOf aj) k) (gt (arrOf aj) (lo+n'-1))/\le r (gt (arrOf aj) (lo+n'-1)) (gt (arrOf aj) k))
  (Q:=λc aj=>At eQ aj lo (lo+fA)/\∃n' z,c=(none,n',z)/\2<=n'/\n'<=fA/\z+1<=n'/\De r (arrOf aj) lo (lo+n')/\∀k,lo+n'-(z+1)<=k->k<lo+n'->le r (gt (arrOf aj) k) (gt (arrOf aj) (lo+n'-1))/\le r (gt (arrOf aj) (lo+n'-1)) (gt (arrOf aj) k)) ?_ ?_ ⟨a0,n+1,0,rfl,by lia,by lia,by lia,by lia,d0,λk k1 k2=>?_⟩) ?_)
 .rintro i c cC i1 i2 ⟨a2,n',z,rfl,m1,m2,m3,m4,d2,eq2⟩
  have Lx:=a2.a.size
  have hq:lo+n'<(arrOf cC).size :=by rw[Lx];exact Xj (Yi (by rw[m2];exact i2) lo) hz
  have SA:=XH (Zf (lo+n') 1) hq
  dsimp only
  refine wpS_bind (kg L (a2.a.k.trans hk) (a2.a.all hp) hq SA ?_)
  cases e:r (gt (arrOf cC) (lo+n')) (gt (arrOf cC) (lo+n'-1))with
  |true=>
   dsimp only
   rw[Xs rfl]
   have d3:=d2.more O (by lia) (O.of_lt e)
   split
   .refine wpS_bind (vF (wpS_pure ⟨a2.trans (At.mirror (Yb hq) (by rw[Y7 m4];exact XT _ _) (by lia)),n'+1,0,rfl,by lia,by lia,by lia,by lia,d3.eqv O (iT O (by lia) eq2),λk k1 k2=>?_⟩))
    rw[show k=lo+(n'+1)-1 by lia]
    exact⟨O.refl _,O.refl _⟩
   .refine wpS_pure ⟨a2,n'+1,0,rfl,by lia,by lia,by lia,by lia,d3,λk k1 k2=>?_⟩
    rw[show k=lo+(n'+1)-1 by lia]
    exact⟨O.refl _,O.refl _⟩
  |false=>
   dsimp only
   rw[Xx Xa]
   refine wpS_bind (kg L (a2.a.k.trans hk) (a2.a.all hp) SA hq ?_)
   cases e':r (gt (arrOf cC) (lo+n'-1)) (gt (arrOf cC) (lo+n'))with
   |true=>exact wpS_pure ⟨a2,n',z,rfl,m1,m3,m4,d2,eq2⟩
   |false=>
    refine wpS_pure ⟨a2,n'+1,z+1,rfl,by lia,by lia,by lia,by lia,d2.more O (by lia) e',λk k1 k2=>?_⟩
    rw[show lo+(n'+1)-1=lo+n' by lia]
    rcases Yf k (lo+n')with y|y
    .have:=eq2 k (by lia) y
     exact⟨O.trans this.1 e,O.trans e' this.2⟩
    .rw[show k=lo+n' by lia]
     exact⟨O.refl _,O.refl _⟩
 .rintro c cC ⟨a2,n',z,rfl,m1,m2,m3,m4,d2,eq2⟩
  exact⟨a2,n',z,rfl,m1,m3,m4,d2,eq2⟩
 .rw[show k=lo+(n+1)-1 by lia]
  exact⟨O.refl _,O.refl _⟩
 rintro c lj ⟨a3,n',z,rfl,m1,m2,m4,d3,eq3⟩
 have WM:=a3.a.size
 dsimp only
 apply zX (λs'=>At eQ s' lo (lo+fA)/\De r (arrOf s') lo (lo+n'))
 .intro shared
  refine gg (λMb=>?_) (λMb=>?_)
  rotate_left
  .apply shared lj ⟨a3,d3⟩
  .refine wpS_bind (vF ?_)
   exact shared _ ⟨a3.trans (At.mirror (by lia) (by rw[Y7 m4];exact XT _ _) (by lia)),d3.eqv O (iT O (by lia) eq3)⟩
 rintro s4 ⟨a4,d4⟩
 have WN:=a4.a.size
 refine wpS_bind (vF ?_)
 have a5:=a4.trans (At.mirror (i:=lo) (j:=lo+n') (by lia) (Xf _) (show lo+n'<=lo+fA by lia))
 have s5:=d4.turn (by lia)
 refine wpS_bind (wpS_mono (wpS_forRange (I:=λi c aj=>At eQ aj lo (lo+fA)/\∃m,c=(none,m)/\1<=m/\m=i/\m<=fA/\So r (arrOf aj) lo (lo+m))
  (Q:=λc aj=>At eQ aj lo (lo+fA)/\∃m,c=(none,m)/\1<=m/\m<=fA/\So r (arrOf aj) lo (lo+m)) ?_ (λc aj ⟨y,m,y1,y2,_,y3,y4⟩=>⟨y,m,y1,y2,y3,y4⟩) ⟨a5,n',rfl,by lia,rfl,m2,s5⟩) ?_)
 .rintro i c xp i1 i2 ⟨a5,m,rfl,y1,y2,y3,y4⟩
  have WO:=a5.a.size
  dsimp only
  refine wpS_bind (kg L (a5.a.k.trans hk) (a5.a.all hp) (by lia) (by lia) ?_)
  cases e:r (gt (arrOf xp) (lo+m)) (gt (arrOf xp) (lo+m-1))with
  |true=>exact wpS_pure ⟨a5,m,rfl,y1,y3,y4⟩
  |false=>exact wpS_pure ⟨a5,m+1,rfl,by lia,by lia,by lia,y4.more O y1 e⟩
 .rintro c xp ⟨a5,m,rfl,y1,y3,y4⟩
  exact wpS_pure (q m xp y1 y3 a5 y4)
end
def qc(xs:Array Keyed)(i:Nat):gt xs i=xs.toList[i]?.getD (.none,.none):=by unfold gt;rw[X8]
section
variable {r:Keyed->Keyed->Bool}{prog:Program}{w:World}{A:Around}{E:Value->Shared->Prop}{s:Shared}{κ:SortKind}{P:Keyed->Prop}
def r8{xs:Array Keyed}{lo n:Nat}(h:So r xs lo (lo+n))(hz:lo+n<=xs.size):(sg xs lo n).Pairwise (le r):=by
 rw[YH]
 intro i j hi hj Hu
 rw[dS hz]at hi hj
 have e1:=fT (arr:=xs) hi hz
 have e2:=fT (arr:=xs) hj hz
 rw[W9 (by rw[dS hz];lia)]at e1 e2
 rw[Xw e1,Xw e2,<-iF,<-iF]
 exact h _ _ (by lia) (by lia) (by lia)
def HE{ms:List Keyed}{o:Nat}{a:Array Keyed}(h:o+ms.length<=a.size)(i:Nat):gt (ms.zipIdx.foldl (λa (p:Keyed×Nat)=>a.setIfInBounds (o+p.2) p.1) a) i=if i<o then gt a i else if h:i-o<ms.length then ms[i-o] else gt a i:=by
 rw[qc,p_ ms o 0 a (by lia),aar]
 have ht:(a.toList.take o).length =o:=by rw[YB,XE];lia
 by_cases h1:i<o
 .rw[Xs h1,XI,XZ (by lia),ZR,Xs h1,qc]
 .rw[Xx h1,XI,X4 (by lia),ht]
  by_cases h2:i-o<ms.length
  .rw[dif_pos h2,XZ h2,W9 h2]
   rfl
  .rw[dif_neg h2,X4 (by lia),abK,qc]
   congr 2
   lia
def Od{a j m:Nat}(h:a<=j)(h2:j<a+m):j-a<m:=ZA h h2
def Mc{a k j:Nat}(h:a+k<=j):k<=j-a:=Z' h
def Qr{a j m:Nat}(h0:¬j<a)(h:¬j-a<m):a+m<=j:=Nat.add_le_of_le_sub' (aaI.mp h0) (aaI.mp h)
def Qs{a b:Nat}(h:b<a):a-1<a:=Nat.sub_lt (XH (XQ b) h) Nat.one_pos
def SD{a b c d:Nat}(h:a<b+c)(h2:c<=d):a<b+d:=Xj h (XS h2 b)
def HF{a b c:Nat}(h:a+b<=c):a<=c:=Xq (XT a b) h
def xU{i sa na pw sb nb J_:Nat}{zt:SortSt}{Q:Bool->SortSt->Prop}(L:lF prog w A E s κ P r)(O:Ord r)(hk:kindOf zt=κ)(hp:∀x∈arrOf zt,P x)(hf:failedOf zt=none)(e1:(pendingOf zt)[i]?=some (sa,na,pw))(e2:(pendingOf zt)[i+1]?=some (sb,nb,J_))(J':sb=sa+na)(h1:1<=na)(h2:1<=nb)(hz:sb+nb<=(arrOf zt).size)
  (Md:So r (arrOf zt) sa sb) (Me:So r (arrOf zt) sb (sb+nb))
  (q:∀aj,kindOf aj=κ->(arrOf aj).Perm (arrOf zt)->failedOf aj=none->pendingOf aj=((pendingOf zt).setIfInBounds i (sa,na+nb,pw)).eraseIdxIfInBounds (i+1)->(∀i,i<sa\/sb+nb<=i->gt (arrOf aj) i=gt (arrOf zt) i)->So r (arrOf aj) sa (sb+nb)->Q true aj):wpS (model prog w) A E s (mergeAt' i) Q zt:=by
 have Qt:So r (arrOf zt) sa (sa+na):=by rw[<-J'];exact Md
 have hA:sa+na<=(arrOf zt).size :=J'▸HF hz
 have U_:=r8 Qt hA
 have U':=r8 Me hz
 have zY:sb<(arrOf zt).size :=Xj (Nat.lt_add_of_pos_right h2) hz
 have b0:∀j,sb<=j->j<sb+nb->le r (arrOf zt)[sb] (gt (arrOf zt) j):=λj j1 j2=>by
  rw[<-iF zY];exact Me sb j (Xf _) j1 j2
 have whole:(∀x,sa<=x->x<sb->∀y,sb<=y->y<sb+nb->le r (gt (arrOf zt) x) (gt (arrOf zt) y))->So r (arrOf zt) sa (sb+nb):=λh x y x1 x2 x3=>by
  rcases Yf y sb with z|z
  .exact Md x y x1 x2 z
  .rcases Yf x sb with z'|z'
   .exact h x x1 z' y z x3
   .exact Me x y z' x2 x3
 have SE:∀{c:Nat},c<na->∃h,(sg (arrOf zt) sa na)[c]'h=gt (arrOf zt) (sa+c):=λ{c} hc=>by
  have hl:c<(sg (arrOf zt) sa na).length :=by rw[dS hA];exact hc
  refine⟨hl,?_⟩
  have e:=fT (arr:=arrOf zt) hc hA
  rw[W9 hl]at e
  rw[Xw e,<-iF]
 have SF:∀{c:Nat},c<nb->∃h,(sg (arrOf zt) sb nb)[c]'h=gt (arrOf zt) (sb+c):=λ{c} hc=>by
  have hl:c<(sg (arrOf zt) sb nb).length :=by rw[dS hz];exact hc
  refine⟨hl,?_⟩
  have e:=fT (arr:=arrOf zt) hc hz
  rw[W9 hl]at e
  rw[Xw e,<-iF]
 rw[rV]
 refine wpS_bind (wpS_get ?_)
 rw[e1,e2]
 dsimp only
 refine wpS_bind (CY (wpS_bind (ba zY (wpS_bind (cV L O hk (hp _ (X5 _)) hp hA (by lia) U_ λk BY g1 g2=>?_)))))
 dsimp only
 have HG:∀j,sa<=j->j<sa+k->le r (gt (arrOf zt) j) (arrOf zt)[sb]:=λj j1 j2=>by
  have jl:=Od j1 j2
  have jn:=Xj jl BY
  obtain⟨hl,e⟩:=SE jn
  have:=g1 ((sg (arrOf zt) sa na)[j-sa]) (by rw[aaw];exact⟨j-sa,by rw[dS hA];exact Nat.lt_min.mpr ⟨jl,jn⟩,rfl⟩)
  rw[e,X' j1]at this
  unfold uC at this
  simpa[le]using this
 have SG:∀j,sa+k<=j->j<sb->le r (arrOf zt)[sb] (gt (arrOf zt) j):=λj j1 j2=>by
  have ja:=HF j1
  obtain⟨hl,e⟩:=SE (Od ja (J'▸j2))
  have:=g2 ((sg (arrOf zt) sa na)[j-sa]) (by rw[aax];exact⟨j-sa-k,by rw[aaq (Mc j1)];exact hl,by congr 1;exact X' (Mc j1)⟩)
  rw[e,X' ja]at this
  unfold uC at this
  have h':r (arrOf zt)[sb] (gt (arrOf zt) j)=true:=by simpa using this
  exact O.of_lt h'
 by_cases c1:(na-k==0)=true
 .rw[Xs c1]
  have yG:k=na:=by
   have:na-k=0:=by simpa using c1
   exact YK BY (Z_ this)
  exact wpS_pure (q _ hk (aai _) hf rfl (λ_ _=>rfl) (whole λx x1 x2 y y1 y2=>O.trans (HG x x1 (by rw[yG,<-J'];exact x2)) (b0 y y1 y2)))
 rw[Xx c1]
 have yG:k<na:=Nat.lt_of_sub_ne_zero (bne c1)
 have jB:1<=na-k:=ZZ yG
 have hS:sa+k+(na-k)=sb:=by rw[ZQ,X' BY,J']
 have vy:sa+k+(na-k)<=(arrOf zt).size :=by rw[hS];exact Yb zY
 have SH:sa+k+(na-k)-1<(arrOf zt).size :=by rw[hS];exact XH (Zf _ _) zY
 refine wpS_bind (ba SH (wpS_bind (cV L O hk (hp _ (X5 _)) hp hz (by lia) U' λnL zZ g3 g4=>?_)))
 dsimp only
 have ze:(arrOf zt)[sa+k+(na-k)-1]=gt (arrOf zt) (sb-1):=by rw[<-iF SH];congr 1;rw[hS]
 rw[ze]at g3 g4
 have Mf:∀j,sa<=j->j<sb->le r (gt (arrOf zt) j) (gt (arrOf zt) (sb-1)):=λj j1 j2=>Md j (sb-1) j1 (Yg j2) (Qs j2)
 have Mi:∀j,sb<=j->j<sb+nL->le r (gt (arrOf zt) j) (gt (arrOf zt) (sb-1)):=λj j1 j2=>by
  have jl:=Od j1 j2
  have jn:=Xj jl zZ
  obtain⟨hl,e⟩:=SF jn
  have:=g3 ((sg (arrOf zt) sb nb)[j-sb]) (by rw[aaw];exact⟨j-sb,by rw[dS hz];exact Nat.lt_min.mpr ⟨jl,jn⟩,rfl⟩)
  rw[e,X' j1]at this
  exact O.of_lt this
 have SI:∀j,sb+nL<=j->j<sb+nb->le r (gt (arrOf zt) (sb-1)) (gt (arrOf zt) j):=λj j1 j2=>by
  have ja:=HF j1
  obtain⟨hl,e⟩:=SF (Od ja j2)
  have:=g4 ((sg (arrOf zt) sb nb)[j-sb]) (by rw[aax];exact⟨j-sb-nL,by rw[aaq (Mc j1)];exact hl,by congr 1;exact X' (Mc j1)⟩)
  rw[e,X' ja]at this
  exact this
 by_cases c2:(nL==0)=true
 .rw[Xs c2]
  have xS:nL=0:=by simpa using c2
  exact wpS_pure (q _ hk (aai _) hf rfl (λ_ _=>rfl) (whole λx x1 x2 y y1 y2=>O.trans (Mf x x1 x2) (SI y (by rw[xS];exact y1) y2)))
 rw[Xx c2]
 have xS:1<=nL:=abL (bne c2)
 have HH:sb+nL<=(arrOf zt).size :=Xq (XS zZ sb) hz
 have hx:∀x∈(arrOf zt).extract (sa+k) sb,P x:=λx hx=>hp x (vG hx)
 have hy:∀x∈(arrOf zt).extract sb (sb+nL),P x:=λx hx=>hp x (vG hx)
 have sx:((arrOf zt).extract (sa+k) sb).size =na-k:=by rw[abM,YA (Yb zY),J',Nat.add_sub_add_left]
 have sy:((arrOf zt).extract sb (sb+nL)).size =nL:=by rw[abM,YA HH,Zb]
 have lx:((arrOf zt).extract (sa+k) sb).toList =sg (arrOf zt) (sa+k) (na-k):=by
  have:=dU (arrOf zt) (sa+k) (na-k)
  rwa [hS]at this
 have ly:((arrOf zt).extract sb (sb+nL)).toList =sg (arrOf zt) sb nL:=dU _ _ _
 have px:((arrOf zt).extract (sa+k) sb).toList.Pairwise (le r):=by
  rw[lx]
  exact r8 (λx y x1 x2 x3=>Md x y (HF x1) x2 (hS▸x3)) vy
 have py:((arrOf zt).extract sb (sb+nL)).toList.Pairwise (le r):=by
  rw[ly]
  exact r8 (λx y x1 x2 x3=>Me x y x1 x2 (SD x3 zZ)) HH
 have mem:∀{x:Keyed}{o m:Nat},o+m<=(arrOf zt).size ->x∈sg (arrOf zt) o m->∃j,o<=j/\j<o+m/\x=gt (arrOf zt) j:=λ{x o m} Qu hx=>by
  obtain⟨t,ht,rfl⟩:=Zc hx
  rw[dS Qu]at ht
  refine⟨o+t,XT _ _,Yi ht _,?_⟩
  have e:=fT (arr:=arrOf zt) ht Qu
  rw[W9 (by rw[dS Qu];exact ht)]at e
  rw[Xw e,<-iF]
 have first:∀y∈((arrOf zt).extract (sa+k) sb).toList,le r (((arrOf zt).extract sb (sb+nL))[0]'(by rw[sy];exact xS)) y:=λy hy=>by
  rw[lx]at hy
  obtain⟨j,j1,j2,rfl⟩:=mem vy hy
  have e:((arrOf zt).extract sb (sb+nL))[0]'(by rw[sy];exact xS)=(arrOf zt)[sb]:=by rw[Array.getElem_extract];rfl
  rw[e]
  exact SG j j1 (hS▸j2)
 have final:∀y∈((arrOf zt).extract sb (sb+nL)).toList,∀x∈((arrOf zt).extract (sa+k) sb).toList.drop (((arrOf zt).extract (sa+k) sb).size-1),le r y x:=λy hy x hx=>by
  rw[ly]at hy
  obtain⟨j,j1,j2,rfl⟩:=mem HH hy
  rw[sx,lx]at hx
  obtain⟨m,hm,rfl⟩:=Zc hx
  rw[ZC,dS vy,Nat.sub_sub_self jB]at hm
  have Va:=Nat.lt_one_iff.mp hm
  subst Va
  rw[List.getElem_drop]
  have e:=fT (arr:=arrOf zt) (show na-k-1+0<na-k from Qs jB) vy
  rw[W9 (by rw[dS vy];exact Qs jB)]at e
  rw[Xw e,<-iF,show sa+k+(na-k-1+0)=sb-1 by rw[aar,<-Y7 jB,hS]]
  exact Mi j j1 j2
 have Mj:∀(out:Array Keyed) (aj:SortSt),out.toList.Perm (((arrOf zt).extract (sa+k) sb).toList ++((arrOf zt).extract sb (sb+nL)).toList)->out.toList.Pairwise (le r)->Sm (setPending zt (((pendingOf zt).setIfInBounds i (sa,na+nb,pw)).eraseIdxIfInBounds (i+1))) aj->
   Q (failedOf (setArr aj (out.toList.zipIdx.foldl (λa (p,j)=>a.setIfInBounds (sa+k+j) p) (arrOf aj)))).isNone (setArr aj (out.toList.zipIdx.foldl (λa (p,j)=>a.setIfInBounds (sa+k+j) p) (arrOf aj))):=λout aj qd z8 hM=>by
  have SJ:failedOf aj=none:=hM.f.trans hf
  have e4:(failedOf (setArr aj (out.toList.zipIdx.foldl (λa (p,j)=>a.setIfInBounds (sa+k+j) p) (arrOf aj)))).isNone =true:=by show(failedOf aj).isNone =true;rw[SJ];rfl
  rw[e4]
  have ha:arrOf aj=arrOf zt:=hM.a
  have hl:=qd.length_eq
  rw[Xk,XE (xs:=(arrOf zt).extract (sa+k) sb),XE (xs:=(arrOf zt).extract sb (sb+nL)),sx,sy]at hl
  have hE:sa+k+out.toList.length=sb+nL:=by rw[hl,<-ZQ,hS]
  have SK:∀x∈out.toList,le r (arrOf zt)[sb] x/\le r x (gt (arrOf zt) (sb-1)):=λx hx=>by
   rcases Xr.mp (qd.mem_iff.mp hx)with z|z
   .rw[lx]at z
    obtain⟨j,j1,j2,rfl⟩:=mem vy z
    exact⟨SG j j1 (hS▸j2),Mf j (HF j1) (hS▸j2)⟩
   .rw[ly]at z
    obtain⟨j,j1,j2,rfl⟩:=mem HH z
    exact⟨b0 j j1 (SD j2 zZ),Mi j j1 j2⟩
  have hg:∀j,gt (arrOf (setArr aj (out.toList.zipIdx.foldl (λa (p,j)=>a.setIfInBounds (sa+k+j) p) (arrOf aj)))) j=if j<sa+k then gt (arrOf zt) j else if h:j-(sa+k)<out.toList.length then out.toList[j-(sa+k)] else gt (arrOf zt) j:=λj=>by
   show gt (out.toList.zipIdx.foldl (λa (p:Keyed×Nat)=>a.setIfInBounds (sa+k+p.2) p.1) (arrOf aj)) j=_
   rw[HE (by rw[ha,hE];exact HH),ha]
  refine q _ (hM.k.trans hk) ?_ SJ hM.p (λj hj=>?_) (λx y x1 x2 x3=>?_)
  .show(out.toList.zipIdx.foldl (λa (p:Keyed×Nat)=>a.setIfInBounds (sa+k+p.2) p.1) (arrOf aj)).Perm (arrOf zt)
   rw[aal,ha,p_ _ (sa+k) 0 _ (by rw[aar,hE];exact HH)]
   have e3:(arrOf zt).toList =(arrOf zt).toList.take (sa+k+0)++(((arrOf zt).extract (sa+k) sb).toList ++((arrOf zt).extract sb (sb+nL)).toList)++(arrOf zt).toList.drop (sa+k+0+out.toList.length):=by
    have t1:=fx (arrOf zt) (i:=sa+k) (k:=na-k)
    have t2:=fx (arrOf zt) (i:=sb) (k:=nL)
    rw[hS]at t1
    rw[aar,<-XI,t1,t2,hE,Zo]
   refine List.Perm.trans ?_ (List.Perm.of_eq e3.symm)
   exact(qd.append_left _).append_right _
  .rw[hg]
   split
   .rfl
   .rename_i a1
    rw[dif_neg (aaI.mpr (Mc (hj.elim (λz=>absurd (Xj z (XT sa k)) a1) λz=>hE.symm▸Xq (XS zZ sb) z)))]
  .rw[hg,hg]
   by_cases a1:x<sa+k
   .rw[Xs a1]
    by_cases a2:y<sa+k
    .rw[Xs a2];exact Md x y x1 x2 (Xj a2 (hS▸XT _ _))
    .rw[Xx a2]
     by_cases a3:y-(sa+k)<out.toList.length
     .rw[dif_pos a3];exact O.trans (HG x x1 a1) (SK _ (YX a3)).1
     .rw[dif_neg a3];exact O.trans (HG x x1 a1) (b0 y (HF (hE▸Qr a2 a3)) x3)
   .have ny:¬y<sa+k:=λz=>a1 (XH x2 z)
    rw[Xx a1,Xx ny]
    by_cases a2:x-(sa+k)<out.toList.length
    .rw[dif_pos a2]
     by_cases a3:y-(sa+k)<out.toList.length
     .rw[dif_pos a3]
      rcases Yf x y with z|z
      .exact(YH.mp z8) _ _ a2 a3 (Nat.sub_lt_sub_right (aaI.mp a1) z)
      .have:x=y:=YK x2 z
       subst this
       exact O.refl _
     .rw[dif_neg a3];exact O.trans (SK _ (YX a2)).2 (SI y (hE▸Qr ny a3) x3)
    .rw[dif_neg a2,dif_neg λz=>a2 (XH (Y0 x2 _) z)]
     exact Me x y (HF (hE▸Qr a1 a2)) x2 x3
 by_cases c3:na-k<=nL
 .rw[Xs c3]
  exact wpS_bind (xR L O hk hx hy (by rw[sx];exact jB) (by rw[sy];exact xS) px py first final λout aj qd z8 hS=>wpS_bind (wpS_modify (wpS_bind (wpS_get (wpS_pure (Mj out aj qd z8 hS))))))
 .rw[Xx c3]
  exact wpS_bind (xT L O hk hx hy (by rw[sx];exact jB) (by rw[sy];exact xS) px py first final λout aj qd z8 hS=>wpS_bind (wpS_modify (wpS_bind (wpS_get (wpS_pure (Mj out aj qd z8 hS))))))
end
def qf(r:Keyed->Keyed->Bool)(xs:Array Keyed):Nat->List (Nat×Nat×Nat)->Nat->Prop
 |s,[],e=>s=e
 |s,(a,n,_)::l,e=>a=s/\1<=n/\So r xs s (s+n)/\qf r xs (s+n) l e
section
variable {r:Keyed->Keyed->Bool}{xs ys:Array Keyed}
def So.keep{lo hi:Nat}(h:So r xs lo hi)(e:∀i,lo<=i->i<hi->gt ys i=gt xs i):So r ys lo hi:=λi j h1 h2 h3=>by
 rw[e i h1 (by lia),e j (by lia) h3];exact h i j h1 h2 h3
theorem qf.snoc:∀{s:Nat}{l:List (Nat×Nat×Nat)}{e n:Nat},qf r xs s l e->1<=n->So r xs e (e+n)->qf r xs s (l++[(e,n,p)]) (e+n)
 |s,[],e,n,h,hn,hs=>by
  have h':s=e:=h
  subst h'
  exact⟨rfl,hn,hs,rfl⟩
 |s,(a,m,q)::l,e,n,⟨h1,h2,h3,h4⟩,hn,hs=>⟨h1,h2,h3,h4.snoc hn hs⟩
theorem qf.le:∀{s:Nat}{l:List (Nat×Nat×Nat)}{e:Nat},qf r xs s l e->s+l.length<=e
 |s,[],e,h=>Zk h
 |s,(a,m,q)::l,e,⟨h1,h2,h3,h4⟩=>by have:=h4.le;rw[Xt];lia
theorem qf.keep:∀{s:Nat}{l:List (Nat×Nat×Nat)}{e:Nat},qf r xs s l e->(∀i,s<=i->i<e->gt ys i=gt xs i)->qf r ys s l e
 |s,[],e,h,_=>h
 |s,(a,m,q)::l,e,⟨h1,h2,h3,h4⟩,k=>⟨h1,h2,h3.keep λi i1 i2=>k i i1 (by have:=h4.le;lia),h4.keep λi i1 i2=>k i (by lia) i2⟩
theorem qf.at:∀{s:Nat}{l:List (Nat×Nat×Nat)}{e i:Nat},qf r xs s l e->i+1<l.length->∃sa na pw sb nb J_,l[i]?=some (sa,na,pw)/\l[i+1]?=some (sb,nb,J_)/\sb=sa+na/\1<=na/\1<=nb/\sb+nb<=e/\s<=sa/\So r xs sa sb/\So r xs sb (sb+nb)/\
   ∀ys:Array Keyed,(∀i,i<sa\/sb+nb<=i->gt ys i=gt xs i)->So r ys sa (sb+nb)->qf r ys s ((l.set i (sa,na+nb,pw)).eraseIdx (i+1)) e
 |s,[],e,i,h,hi=>by simp at hi
 |s,[x],e,i,h,hi=>by simp at hi
 |s,(a,n,p)::(b,m,q)::l,e,0,⟨h1,h2,h3,h4,h5,h6,h7⟩,_=>by
  subst h1
  subst h4
  refine⟨a,n,p,a+n,m,q,rfl,rfl,rfl,h2,h5,by have:=h7.le;lia,Xf _,h3,h6,λys k ks=>?_⟩
  refine⟨rfl,by lia,by rw[<-ZQ];exact ks,?_⟩
  rw[<-ZQ]
  exact h7.keep λi i1 i2=>k i (.inr i1)
 |s,(a,n,p)::y::l,e,i+1,⟨h1,h2,h3,h4⟩,hi=>by
  refine Kr (qf.at (i:=i) h4 (by simpa using hi)) λsa na pw sb nb J_ g1 g2 g3 g4 g5 g6 g7 g8 g9 Mk=>⟨sa,na,pw,sb,nb,J_,g1,g2,g3,g4,g5,g6,by lia,g8,g9,λys k ks=>?_⟩
  exact⟨h1,h2,h3.keep λi i1 i2=>k i (.inl (by lia)),Mk ys k ks⟩
theorem qf.power:∀{s:Nat}{l:List (Nat×Nat×Nat)}{e i:Nat},qf r xs s l e->qf r xs s (l.modify i λx=>(x.1,x.2.1,f)) e
 |s,[],e,i,h=>by cases i<;>exact h
 |s,(a,n,p)::l,e,0,⟨h1,h2,h3,h4⟩=>⟨h1,h2,h3,h4⟩
 |s,(a,n,p)::l,e,i+1,⟨h1,h2,h3,h4⟩=>⟨h1,h2,h3,h4.power⟩
end
section
variable {prog:Program}{w:World}{A:Around}{E:Value->Shared->Prop}{s:Shared}{κ:SortKind}{P:Keyed->Prop}{r:Keyed->Keyed->Bool}
structure yH(r:Keyed->Keyed->Bool)(κ:SortKind)(a₀:Array Keyed)(zt:SortSt)(lo:Nat):Prop where
 k:kindOf zt=κ
 a:(arrOf zt).Perm a₀
 f:failedOf zt=none
 c:qf r (arrOf zt) 0 (pendingOf zt).toList lo
def yH.merge{a₀:Array Keyed}{zt:SortSt}{lo i:Nat}{Q:Bool->SortSt->Prop}(L:lF prog w A E s κ P r)(O:Ord r)(hp:∀x∈a₀,P x)(h:yH r κ a₀ zt lo)(Fn:lo<=a₀.size)(hi:i+1<(pendingOf zt).size)(q:∀aj,yH r κ a₀ aj lo->(pendingOf aj).size+1=(pendingOf zt).size ->(∀j,lo<=j->gt (arrOf aj) j=gt (arrOf zt) j)->Q true aj):wpS (model prog w) A E s (mergeAt' i) Q zt:=by
 refine Kr (h.c.at (i:=i) (by rw[XE];exact hi)) λsa na pw sb nb J_ g1 g2 g3 g4 g5 g6 g7 g8 g9 Mk=>?_
 rw[X8]at g1 g2
 refine xU L O h.k (λx hx=>hp x (h.a.mem_iff.mp hx)) h.f g1 g2 g3 g4 g5 (by rw[h.a.size_eq];lia) g8 g9 λaj k1 k2 k3 k4 k5 k6=>q aj ⟨k1,k2.trans h.a,k3,?_⟩ ?_ (λj hj=>k5 j (.inr (by lia)))
 .rw[k4,Z1,Zv]
  exact Mk _ k5 k6
 .rw[k4,<-XE,Z1,Zv,List.length_eraseIdx_of_lt (by rw[X1,XE];exact hi),X1,XE]
  lia
def HK{α:Type}{x:SM α}{zt:SortSt}{Q:α->SortSt->Prop}{T:Nat->SortSt->Prop}(C:Nat->SortSt->Prop)(main:(∀n s',C n s'->T n s')->wpS (model prog w) A E s x Q zt)(h:∀n s',C n s'->T n s'):wpS (model prog w) A E s x Q zt:=main h
def uG{a₀:Array Keyed}{zt:SortSt}{Q:Unit->SortSt->Prop}(L:lF prog w A E s κ P r)(O:Ord r)(hp:∀x∈a₀,P x)(h:yH r κ a₀ zt 0)(q:∀aj,(arrOf aj).Perm a₀->failedOf aj=none->So r (arrOf aj) 0 a₀.size->Q () aj):wpS (model prog w) A E s sortRuns' Q zt:=by
 rw[sortRuns'_eq]
 refine wpS_bind (wpS_get ?_)
 dsimp only
 have hz:(arrOf zt).size =a₀.size:=h.a.size_eq
 rw[hz]
 refine wpS_bind (wpS_mono (wpS_forRange (I:=λi c aj=>∃lo,c=(none,lo)/\yH r κ a₀ aj lo/\lo<=a₀.size/\i<=lo) (Q:=λc aj=>∃lo,c=(none,lo)/\yH r κ a₀ aj lo/\lo=a₀.size) ?step ?fin ⟨0,rfl,h,XQ _,Xf _⟩) ?post)
 case fin=>
  rintro c eQ ⟨lo,rfl,g0,Fn,Vb⟩
  exact⟨lo,rfl,g0,by lia⟩
 case step=>
  rintro i c eQ _ _ ⟨lo,rfl,g0,Fn,Vb⟩
  dsimp only
  by_cases SN:lo ≥ a₀.size
  .rw[Xs SN]
   exact wpS_pure ⟨lo,rfl,g0,by lia⟩
  rw[Xx SN]
  have JY:(arrOf eQ).size =a₀.size:=g0.a.size_eq
  refine wpS_bind (uF L O g0.k (λx hx=>hp x (g0.a.mem_iff.mp hx)) (by lia) (by lia) λn cC FH Lc a1 Ka=>?_)
  have g1:yH r κ a₀ cC lo:=⟨a1.a.k.trans g0.k,a1.a.a.trans g0.a,a1.a.f.trans g0.f,by rw[a1.a.p];exact g0.c.keep λj _ hj=>a1.o j (.inl hj)⟩
  dsimp only
  apply HK (λn s'=>yH r κ a₀ s' lo/\1<=n/\lo+n<=a₀.size/\So r (arrOf s') lo (lo+n))
  .intro shared
   by_cases Qv:n<minRun' a₀.size a₀.size 0
   rotate_left
   .rw[Xx Qv]
    apply shared n cC ⟨g1,FH,by lia,Ka⟩
   .rw[Xs Qv]
    refine wpS_bind (wpS_lift (Zu ⟨rfl,?_⟩))
    have Lx:(arrOf cC).size =a₀.size:=g1.a.size_eq
    have HL:lo+(a₀.size-lo)=a₀.size:=X' Fn
    have SO:lo+min (a₀.size-lo) (minRun' a₀.size a₀.size 0)<=a₀.size:=Xq (XS (aaj _ _) lo) (Zk HL)
    have SQ:n<=min (a₀.size-lo) (minRun' a₀.size a₀.size 0):=Nat.le_min.mpr ⟨Lc,Yb Qv⟩
    refine wpS_bind (qb L O g1.k (λx hx=>hp x (g1.a.mem_iff.mp hx)) (by rw[Lx];exact SO) SQ Ka λlj a3 HM=>?_)
    rw[Xx (by decide)]
    exact shared _ lj ⟨⟨a3.a.k.trans g1.k,a3.a.a.trans g1.a,a3.a.f.trans g1.f,by rw[a3.a.p];exact g1.c.keep λj _ hj=>a3.o j (.inl hj)⟩,Xq FH SQ,SO,HM⟩
  clear FH Lc a1 Ka g1
  rintro n cC ⟨g1,FH,Lc,Ka⟩
  refine wpS_bind (wpS_get ?_)
  cases hb:(pendingOf cC).back? with
  |none=>exact wpS_bind (wpS_modify (wpS_pure ⟨_,rfl,⟨g1.k,g1.a,g1.f,by
    show qf r (arrOf cC) 0 ((pendingOf cC).push _).toList _
    rw[Y6]
    exact g1.c.snoc FH Ka⟩,by lia,by lia⟩))
  |some x=>
   obtain⟨s1,n1,p1⟩:=x
   dsimp only
   refine wpS_bind (wpS_mono (wpS_forRange (I:=λ_ c aj=>c=(none,())/\yH r κ a₀ aj lo/\So r (arrOf aj) lo (lo+n)) (Q:=λc aj=>c=(none,())/\yH r κ a₀ aj lo/\So r (arrOf aj) lo (lo+n)) ?_ (λ_ _ z=>z) ⟨rfl,g1,Ka⟩) ?_)
   .rintro _ c lj _ _ ⟨rfl,g3,HM⟩
    refine wpS_bind (wpS_get ?_)
    by_cases hs:(pendingOf lj).size>1
    .rw[Xs hs]
     have bJ:(pendingOf lj).size-2<(pendingOf lj).size :=by lia
     rw[XW bJ]
     dsimp only
     split
     .exact wpS_pure ⟨rfl,g3,HM⟩
     .refine wpS_bind (g3.merge L O hp (by lia) (by lia) λJV g4 _ k4=>?_)
      exact wpS_pure ⟨rfl,g4,HM.keep λj j1 _=>k4 j j1⟩
    .rw[Xx hs]
     exact wpS_pure ⟨rfl,g3,HM⟩
   .rintro c lj ⟨rfl,g3,HM⟩
    exact wpS_bind (wpS_modify (wpS_bind (wpS_modify (wpS_pure ⟨_,rfl,⟨g3.k,g3.a,g3.f,by
     show qf r (arrOf lj) 0 (((pendingOf lj).modify _ _).push _).toList _
     rw[Y6,Array.toList_modify]
     exact(g3.c.power).snoc FH HM⟩,by lia,by lia⟩))))
 case post=>
  rintro c eQ ⟨lo,rfl,g0,Fn⟩
  dsimp only
  refine wpS_bind (wpS_mono (wpS_forRange (I:=λi c aj=>c=(none,())/\yH r κ a₀ aj lo/\((pendingOf aj).size <=1\/(pendingOf aj).size+i<=lo)) (Q:=λc aj=>c=(none,())/\yH r κ a₀ aj lo/\(pendingOf aj).size <=1) ?_ ?_ ⟨rfl,g0,.inr ?_⟩) ?_)
  .rintro j c lj _ _ ⟨rfl,g3,Qp⟩
   refine wpS_bind (wpS_get ?_)
   by_cases hs:(pendingOf lj).size <=1
   .rw[Xs hs]
    exact wpS_pure ⟨rfl,g3,hs⟩
   .rw[Xx hs]
    refine wpS_bind (g3.merge L O hp (by lia) (LI (by lia) (by lia)) λJV g4 k4 _=>?_)
    exact wpS_pure ⟨rfl,g4,.inr (by lia)⟩
  .rintro c lj ⟨hc,g3,Qp⟩
   exact⟨hc,g3,by lia⟩
  .have:=g0.c.le
   rw[XE]at this
   lia
  .rintro c lj ⟨rfl,g3,hs⟩
   refine wpS_pure (q lj g3.a g3.f ?_)
   have hc:=g3.c
   have hl:(pendingOf lj).toList.length <=1:=by rw[XE];exact hs
   cases JU:(pendingOf lj).toList with
   |nil=>
    rw[JU]at hc
    have:0=lo:=hc
    intro x y _ _ h3
    lia
   |cons x l=>
    rw[JU]at hc hl
    cases l with
    |cons _ _=>simp at hl
    |nil=>
     obtain⟨a,n,p⟩:=x
     refine yA hc λc1 c2 c3 c4=>?_
     have Vc:0+n=lo:=c4
     rw[<-Fn,<-Vc]
     exact c3
end
open PySem.W
theorem gy:∀u v:List Int,bC u v=true->bC v u=false
 |[],[],h=>by cases h
 |[],_::_,_=>rfl
 |_::_,[],h=>by cases h
 |n::u,m::v,h=>by
  unfold bC at h⊢
  by_cases e:n=m
  .rw[Xs e]at h
   rw[Xs e.symm]
   exact gy u v h
  .rw[Xx e]at h
   rw[Xx λz=>e z.symm]
   have:=of_decide_eq_true h
   exact decide_eq_false (by omega)
theorem jC:∀u v w:List Int,bC v u=false->bC w v=false->bC w u=false
 |[],_,[],_,_=>rfl
 |[],_,_::_,_,_=>rfl
 |_::_,[],_,h,_=>by cases h
 |_::_,_::_,[],_,h=>by cases h
 |n::u,m::v,k::w,h1,h2=>by
  unfold bC at h1 h2⊢
  by_cases e1:m=n
  .rw[Xs e1]at h1
   by_cases e2:k=m
   .rw[Xs e2]at h2
    rw[Xs (e2.trans e1)]
    exact jC u v w h1 h2
   .rw[Xx e2]at h2
    rw[Xx (λz=>e2 (z.trans e1.symm)),<-e1]
    exact h2
  .rw[Xx e1]at h1
   have g1:=of_decide_eq_false h1
   by_cases e2:k=m
   .rw[Xx (λz=>e1 (e2.symm.trans z))]
    exact decide_eq_false (by omega)
   .rw[Xx e2]at h2
    have g2:=of_decide_eq_false h2
    rw[Xx (by omega)]
    exact decide_eq_false (by omega)
theorem kh:∀u v:List Int,bC u v=false->bC v u=false->u=v
 |[],[],_,_=>rfl
 |[],_::_,h,_=>by cases h
 |_::_,[],_,h=>by cases h
 |n::u,m::v,h1,h2=>by
  unfold bC at h1 h2
  by_cases e:n=m
  .rw[Xs e]at h1
   rw[Xs e.symm]at h2
   rw[e,kh u v h1 h2]
  .rw[Xx e]at h1
   rw[Xx λz=>e z.symm]at h2
   have:=of_decide_eq_false h1
   have:=of_decide_eq_false h2
   omega
def z9:∀{l:List α},l.length<=1->l.Pairwise R
 |[],_=> .nil
 |[_],_=>ZS _ _
 |_::_::_,h=>absurd h (by simp)
def TupIs(h:Heap)(v:Value)(ns:List Int):Prop:=∃(x:Addr) (o:Obj) (xs:List Value) (n:Nat),v= .ref x/\h.get? x=some o/\o.cls= .type "tuple"/\o.data= .seq xs.toArray n/\IntsAre xs ns
def z_:∀{xs:List Value}{ns ms:List Int},IntsAre xs ns->IntsAre xs ms->ns=ms:=λ{xs ns ms} h=>by
 induction h generalizing ms with
 |nil=>intro h;cases h;rfl
 |cons n t r ih=>intro h;cases h with|cons m u r'=>rw[ih r']
def TupIs.one(h1:TupIs h v ns)(h2:TupIs h v ms):ns=ms:=by
 refine qU h1 λx o xs n ah a1 _ a3 a4=>?_
 try clear h1
 subst ah
 refine qU h2 λy o' ys n' e b1 _ b3 b4=>?_
 cases e
 rw[a1]at b1
 cases b1
 rw[a3]at b3
 injection b3 with b5 _
 have:xs=ys:=by simpa using b5
 subst this
 exact z_ a4 b4
noncomputable def cE(h:Heap)(v:Value):List Int:=Classical.epsilon λns=>TupIs h v ns
def de(e:TupIs h v ns):cE h v=ns:=(abi (p:=λns=>TupIs h v ns) ⟨ns,e⟩).one e
def lE.is(e:lE h v):∃ns,TupIs h v ns:=by
 exact Kq e λx o xs n i r h1 h2 h3 h4 h5=>⟨i::r,x,o,xs,n,h1,h2,h3,h4,h5⟩
noncomputable def rT(h:Heap)(x y:Keyed):Bool:=bC (cE h x.1) (cE h y.1)
def HN(h:Heap):Ord (rT h):=⟨λx y=>gy _ _,λx y z=>jC _ _ _⟩
section
variable {prog:Program}{w:World}{A:Around}{E:Value->Shared->Prop}{s:Shared}
def Ml:∀{xs ys:List Value}{ns ms:List Int},IntsAre xs ns->IntsAre ys ms->fin=decide (xs.length<ys.length)->Q (bC ns ms) s->∀i:Nat,(b=true\/0<i)->KatLex prog w A b fin Q (xs.zip ys) i s:=λ{xs ys ns ms} h=>by
 induction h generalizing ys ms with
 |nil=>
  intro h' hf q i _
  refine kat_nil ?_
  subst hf
  cases h' with
  |nil=>exact q
  |cons _ _ _=>simpa[bC]using q
 |cons n t r ih=>
  intro h' hf q i hi
  cases h' with
  |nil=>exact kat_nil (by rw[hf];simpa[bC]using q)
  |cons m u r'=>
   refine kat_cons (aaT ?_)
   cases e:(n==m)with
   |true=>
    have e':n=m:=by simpa using e
    unfold bC at q
    rw[Xs e']at q
    exact kat_yes (ih r' (by rw[hf];simp) q (i+1) (.inr (Nat.succ_pos _)))
   |false=>
    have e':¬n=m:=by simpa using e
    unfold bC at q
    rw[Xx e']at q
    refine kat_no ?_
    by_cases h0:i=0
    .subst h0
     have hb:b=true:=hi.elim id λz=>absurd z (X2 _)
     subst hb
     exact oneLt_int q
    .have e:(b&&i==0)=false:=by cases b<;>simp[h0]
     rw[e]
     exact kat_one _ _ (aby q)
def C':lF prog w A E s (tuples' true) (λp=>lE s.heap p.1) (rT s.heap):=λx y zt Q hx hy hk q=>by
 obtain⟨x1,x2⟩:=x
 obtain⟨y1,y2⟩:=y
 refine Kq hx λa o xs n i r ah h1 h2 h3 h4=>?_
 try clear hx
 subst ah
 refine Kq hy λb o' ys n' j r' aK g1 g2 g3 g4=>?_
 try clear hy
 subst aK
 have q':Q (some (bC (i::r) (j::r'))) zt:=by
  have e1:cE s.heap (.ref a)=i::r:=de ⟨a,o,xs,n,rfl,h1,h2,h3,h4⟩
  have e2:cE s.heap (.ref b)=j::r':=de ⟨b,o',ys,n',rfl,g1,g2,g3,g4⟩
  have:=q
  unfold rT at this
  dsimp only at this
  rwa [e1,e2]at this
 rw[lt'_eq]
 refine wpS_bind (wpS_get ?_)
 rw[hk]
 refine wpS_bind (wpS_lift (wpAny_attempt (kat_lt (b:=true) h1 h3 g1 g3 ?_)))
 have e1:xs.toArray.toList=xs:=by simp
 have e2:ys.toArray.toList=ys:=by simp
 rw[e1,e2]
 exact Ml h4 g4 (by simp) ⟨rfl,wpS_pure q'⟩ 0 (.inl rfl)
def Dc(ho:s.heap.get? a=some (seqObj "list" vs.toArray n))(hv:∀v∈vs,lE s.heap v)(hz:vs.length<=sizeLine)
  (h:∀out:List Value,out.Perm vs->out.Pairwise (λx y=>bC (cE s.heap y) (cE s.heap x)=false)->R (.done (.ret .none)) {s with heap:=sortedHeap s.heap a vs out.toArray}):wpAny (model prog w) A (Builtin.«list.sort» ⟨[.ref a],[]⟩) R E s:=by
 rw[list_sort_plain]
 have bJ:a<s.heap.objs.size:=Xm ho
 have gx:∀v∈vs,∀x,v= .ref x->x≠a:=λv m x e z=>by
  refine ao λnO=>?_
  obtain⟨x',o,xs,k,i,r,e',g1,g2,_⟩:=hv v m
  rw[e]at e'
  cases e'
  rw[z,ho]at g1
  cases g1
  refine nO ?_
  have Vd:Value.type "list"=Value.type "tuple":=g2
  injection Vd with g3
  exact absurd g3 (by decide)
 refine W6 (listItems_at ho rfl (W6 (listUpdate_at ho rfl ?_ (by rw[Xh];omega) (XQ _))))
 obtain⟨e1,SR⟩:∃e1,(s.heap.update a (Obj.mapSeq λ_=>#[])).get? a=some (seqObj "list" #[] e1):=⟨_,get?_update_seq ho (λ_=>#[])⟩
 refine W6 (seqEpoch_at SR rfl (W6 (wpAny_newTuple (W6 (aaR (X6 ?_) (XQ _))) (by show vs.length<=_;omega))))
 have up:∀b o,b≠a->s.heap.get? b=some o->(((s.heap.update a (Obj.mapSeq λ_=>#[])).push (seqObj "tuple" vs.toArray 0)).push (seqObj "list" #[] 0)).get? b=some o:=λb o hb e=>
  W8 _ (W8 _ (by rw[XF _ _ (Ya hb)];exact e))
 have Qw:(((s.heap.update a (Obj.mapSeq λ_=>#[])).push (seqObj "tuple" vs.toArray 0)).push (seqObj "list" #[] 0)).get? a=some (seqObj "list" #[] e1):=W8 _ (W8 _ SR)
 show wpAny (model prog w) A _ R E {s with heap:=((s.heap.update a (Obj.mapSeq λ_=>#[])).push (seqObj "tuple" vs.toArray 0)).push (seqObj "list" #[] 0)}
 generalize hh:((s.heap.update a (Obj.mapSeq λ_=>#[])).push (seqObj "tuple" vs.toArray 0)).push (seqObj "list" #[] 0)=h6 at up Qw⊢
 have SS:∀v∈vs,lE h6 v:=λv m=>by
  refine ao λnO=>?_
  obtain⟨x,o,xs,k,i,r,e',g1,g2,g3,g4⟩:=hv v m
  exact nO<|⟨x,o,xs,k,i,r,e',up x o (gx v m x e') g1,g2,g3,g4⟩
 have same:∀v∈vs,cE h6 v=cE s.heap v:=λv m=>by
  refine ao λnO=>?_
  obtain⟨ns,x,o,xs,k,e',g1,g2,g3,g4⟩:=(hv v m).is
  refine nO ?_
  rw[de (h:=s.heap) ⟨x,o,xs,k,e',g1,g2,g3,g4⟩]
  exact de ⟨x,o,xs,k,e',up x o (gx v m x e') g1,g2,g3,g4⟩
 dsimp only
 have ends:∀(zt:SortSt) (out:List Value),(arrOf zt).map (·.2)=out.toArray->out.Perm vs->out.Pairwise (λx y=>bC (cE s.heap y) (cE s.heap x)=false)->failedOf zt=none->wpAny (model prog w) A (do
   let touched:=(<-seqEpoch a) !=e1
   Builtin.List.listUpdate (.ref a) λ_=>(arrOf zt).map (·.2)
   if let some e:=failedOf zt then rule "list.sort.comparison-raised";throw e
   if touched then rule "list.sort.modified";raiseError "ValueError" "list modified during sort"
   ret .none) R E {s with heap:=h6}:=λzt out e hp z8 hf=>by
  rw[e,hf]
  refine W6 (seqEpoch_at Qw rfl (W6 (listUpdate_at Qw rfl ?_ (XQ _) (by rw[Xh,hp.length_eq];omega))))
  simp only[bne_self_eq_false,Yr,if_false]
  have:=h out hp z8
  unfold sortedHeap at this
  rw[hh]at this
  exact Xe this
 by_cases h2:vs.toArray.size<2
 .rw[Xs h2,Xs h2]
  refine W6 (Xe ?_)
  rw[StateT.run_pure]
  refine W6 (Xe ?_)
  exact ends (SortSt.mk' general' (vs.toArray.zip vs.toArray) #[] 7 none) vs (rW vs) (List.Perm.refl _) (z9 (by rw[Xh]at h2;omega)) rfl
 .rw[Xx h2,Xx h2]
  refine ao λnO=>?_
  obtain⟨fs,k1,k2,k3⟩:=kY SS
  refine nO ?_
  have Ve:2<=vs.length:=by rw[Xh]at h2;omega
  refine W6 (kat_kind (s:={s with heap:=h6}) (T:= .type "int") k1 (by omega) (λv m=>?_) rfl ?_)
  .obtain⟨i,t,rfl⟩:=k2 v m
   exact Looks.now
  have zm:∀p∈vs.toArray.zip vs.toArray,p.1=p.2/\p.2∈vs:=λp m=>by
   obtain⟨i,hi,e⟩:=Array.mem_iff_getElem.mp m
   rw[Array.getElem_zip]at e
   rw[<-e]
   exact⟨rfl,by simp⟩
  refine W6 (YD (uG (s:={s with heap:=h6}) (κ:=tuples' true) (P:=λp=>lE h6 p.1) (r:=rT h6) (a₀:=vs.toArray.zip vs.toArray) (Q:=λ_ zt=>(arrOf zt).Perm (vs.toArray.zip vs.toArray)/\failedOf zt=none/\So (rT h6) (arrOf zt) 0 (vs.toArray.zip vs.toArray).size) C' (HN h6) (λp m=>by rw[(zm p m).1];exact SS _ (zm p m).2) ⟨rfl,aai _,rfl,rfl⟩ λzt g1 g2 g3=>⟨g1,g2,g3⟩) ?_ λ_ _ e=>e)
  rintro⟨⟨⟩,zt⟩ s' ⟨rfl,g1,g2,g3⟩
  dsimp only at g1 g2 g3⊢
  refine ends zt ((arrOf zt).map (·.2)).toList abu.symm ?_ ?_ g2
  .have:=(aal.mp g1).map (λp:Keyed=>p.2)
   rw[aac]
   refine this.trans (List.Perm.of_eq ?_)
   have e:=congrArg Array.toList (rW vs)
   rw[aac]at e
   exact e
  .have hsz:(arrOf zt).size =(vs.toArray.zip vs.toArray).size :=g1.size_eq
   have pw:=r8 (xs:=arrOf zt) (lo:=0) (n:=(vs.toArray.zip vs.toArray).size) (by rw[Yw];exact g3) (by omega)
   have e0:sg (arrOf zt) 0 (vs.toArray.zip vs.toArray).size =(arrOf zt).toList :=by
    unfold sg
    rw[Zy]
    exact X3 (by rw[XE,hsz];exact Xf _)
   rw[e0]at pw
   rw[aac,Yx]
   refine pw.imp_of_mem λ{x y} mx my Aa=>?_
   obtain⟨x1,x2⟩:=zm x (g1.mem_iff.mp (YN.mp mx))
   obtain⟨y1,y2⟩:=zm y (g1.mem_iff.mp (YN.mp my))
   have:=Aa
   unfold le rT at this
   rw[x1,y1,same _ x2,same _ y2]at this
   exact this
end
abbrev Mm(x y:List Int):Prop:=bC y x=false
theorem kj(x:List Int):∀l,(xD x l).Perm (x::l)
 |[]=> .refl _
 |y::r=>by
  unfold xD
  split
  .exact((kj x r).cons y).trans (.swap x y r)
  .exact .refl _
theorem fU:∀l,(fg l).Perm l
 |[]=> .refl _
 |x::r=>(kj x (fg r)).trans ((fU r).cons x)
theorem vL(x:List Int):∀l:List (List Int),l.Pairwise Mm->(xD x l).Pairwise Mm
 |[],_=>ZS _ _
 |y::r,h=>by
  unfold xD
  rw[Ys]at h
  split
  .rename_i K3
   refine Ys.mpr ⟨λz hz=>?_,vL x r h.2⟩
   rcases Xl.mp ((kj x r).mem_iff.mp hz)with e|hz
   .rw[e];exact gy _ _ K3
   .exact h.1 z hz
  .rename_i K3
   have Mn:bC y x=false:=by simpa using K3
   refine Ys.mpr ⟨λz hz=>?_,Ys.mpr h⟩
   rcases Xl.mp hz with e|hz
   .rw[e];exact Mn
   .exact jC x y z Mn (h.1 z hz)
theorem r_:∀l,(fg l).Pairwise Mm
 |[]=> .nil
 |x::r=>vL x _ (r_ r)
def Ab(hp:l.Perm m)(hs:l.Pairwise Mm):l=fg m:=
 (hp.trans (fU m).symm).eq_of_pairwise (λa b _ _ h1 h2=>kh a b h2 h1) hs (r_ m)
end cN
namespace L2
open PySem PySem.Spec PyProof.Rows PySem.W cN
section
variable {prog:Program}{w:World}{A:Around}{E:Value->Shared->Prop}{s:Shared}{d it:Addr}{es:Array DictEntry}{ep i:Nat}
def sf(hv:lE h v)(k:∀b o,h.get? b=some o->h'.get? b=some o):cE h' v=cE h v:=by
 refine NO hv.is λns x o xs n e g1 g2 g3 g4=>?_
 rw[de (h:=h) ⟨x,o,xs,n,e,g1,g2,g3,g4⟩]
 exact de ⟨x,o,xs,n,e,k x o g1,g2,g3,g4⟩
def qg(hh:A.handled=none)(lo:(d==sysModules)=false)(r:gh s.heap d es ep)(hz:es.size<=sizeLine)(hk:∀e∈es,cN.lE s.heap e.key)
  (h:∀(h1 h':Heap) (tk c:Nat) (vs:List Value),(∀b o,s.heap.get? b=some o->h1.get? b=some o)->(∀b o,h1.get? b=some o->h'.get? b=some o)->h'.get? h1.objs.size=some {cls:= .type "list",data:= .seq vs.toArray c}->vs.Perm (es.toList.map (·.key))->vs.Pairwise (λx y=>bC (cE s.heap y) (cE s.heap x)=false)->Q (.ref h1.objs.size) {s with heap:=h',toks:=tk}):
  wpAny (model prog w) A (call (.builtin "sorted") [.ref d]) Q E s:=by
 refine Zz kind_sorted plain_sorted entry_sorted (args_sorted1 _) ?_
 unfold Builtin.«sorted»
 refine W6 (m:=checkCount "sorted" 1 1 _) (Xe (W6 (kdu_collect (A:=A.in1) (vI lo) hh r hz λh1 tk acc k1 it=>?_)))
 have hl:acc.toList.length=es.size:=by rw[XE];exact it.1
 have eq:acc.toList=es.toList.map (·.key):=by
  apply Yv
  intro j
  rcases Yf j es.size with z|z
  .have hj:j<acc.toList.length:=by lia
   refine ab (it.2 j acc.toList[j] (by rw[<-X8];exact W9 hj)) λe e1 e2=>?_
   rw[W9 hj,Xn,X8,e1,e2]
   rfl
  .rw[Xz (by lia),Xz (by simpa using z)]
 have hm:∀v∈acc.toList,∃e∈es,v=e.key:=λv m=>by
  rw[eq]at m
  exact ab (Xg.mp m) λe e1 e2=>⟨e,YN.mp e1,e2.symm⟩
 have ht:∀v∈acc.toList,lE s.heap v:=λv m=>by
  refine ab (hm v m) λe e1 ah=>?_
  subst ah
  exact hk e e1
 have kp:∀b o,s.heap.get? b=some o->(h1.push (seqObj "list" acc.toList.toArray 0)).get? b=some o:=λb o e=>W8 _ (k1 b o e)
 refine W6 (aaR ?_ (by rw[hl];exact hz))
 have ho:(h1.push (seqObj "list" acc.toList.toArray 0)).get? h1.objs.size=some (seqObj "list" acc.toList.toArray 0):=Xp _ rfl
 refine W6 (X6 (Yk slot_list_sort ⟨_,ho,rfl⟩ entry_list_sort (cN.Dc (s:={s with heap:=h1.push (seqObj "list" acc.toList.toArray 0),toks:=tk}) ho (λv m=>?_) (by rw[hl];exact hz) λout hp z8=>⟨_,rfl,Xe ⟨_,rfl,?_⟩⟩) (args_list_sort _)))
 .exact Kq (ht v m) λx o xs n i rr g0 g1 g2 g3 g4=>⟨x,o,xs,n,i,rr,g0,kp x o g1,g2,g3,g4⟩
 .have u1:=get?_update_seq ho (λ_=>#[])
  have u2:=W8 (seqObj "tuple" acc.toList.toArray 0) u1
  have u3:=W8 (seqObj "list" #[] 0) u2
  have u4:=get?_update_seq u3 (λ_=>out.toArray)
  refine h h1 _ tk _ out k1 (λb o e=>?_) u4 (by rw[<-eq];exact hp) (z8.imp_of_mem λ{x y} mx my Aa=>?_)
  .have hb:b≠h1.objs.size:=XD (Xm e)
   unfold sortedHeap
   rw[XF _ _ (Ya hb)]
   refine W8 _ (W8 _ ?_)
   rw[XF _ _ (Ya hb)]
   exact W8 _ e
  .have e1:=sf (ht x (hp.mem_iff.mp mx)) kp
   have e2:=sf (ht y (hp.mem_iff.mp my)) kp
   rw[<-e1,<-e2]
   exact Aa
end
def Dd(I:Inv X aa σ H s)(e:Rd H a (.dT aw)):∃es ep,gh s.heap a es ep/\es.size=aw.length/\(a==sysModules)=false/\aw.length<=sizeLine/\
  Paired (λ(kv:List cM×V) (v:Value)=>∃b,v= .ref b/\H b=some (.tup (kv.1.map kV))) aw (es.toList.map (·.key)):=by
 refine ao λnO=>?_
 obtain⟨z,lo,xs,fu,o,es,ep,h1,h2,h3,h4,h5,h6⟩:=mD I.aN e
 refine nO ?_
 have hl:es.size=aw.length:=by
  have e1:=Zr fu
  have e2:=congrArg List.length h4
  rw[XE,Xb]at e2
  lia
 refine⟨es,ep,⟨o,h1,h2,h3⟩,hl,lo,z,?_⟩
 rw[h4,XY]
 have all:∀{l:List (List cM×V)}{m:List (List cM×Addr×Value)},KT H l m->Paired (λ(kv:List cM×V) (v:Value)=>∃b,v= .ref b/\H b=some (.tup (kv.1.map kV))) l (m.map ((λx:DictEntry=>x.key)∘entryOfKey (tupleKind (aV X.prog X.w)))):=by
  intro l m q
  induction q with
  |nil=>exact .nil
  |@cons p q ps qs hq t ih=>exact .cons ⟨q.2.1,rfl,hq.2.1⟩ ih
 exact all fu
section
variable {X:Cx}
def fB(I:Inv X aa σ H s)(h:H b=some (.tup (k.map V.int))):TupIs s.heap (.ref b) k:=by
 obtain⟨_,its,rv,o,g1,g2,⟨n,g3⟩,_⟩:=(show aQ X.prog X.w H s.heap b (.tup (k.map V.int)) from I.aN b _ h)
 exact⟨b,o,its,n,rfl,g1,g2,g3,intsAre_of rv⟩
def Df(e:TupIs h v k)(hk:k≠[]):lE h v:=by
 refine qU e λx o xs n h1 h2 h3 h4 h5=>?_
 cases k with
 |nil=>exact absurd rfl hk
 |cons i r=>exact⟨x,o,xs,n,i,r,h1,h2,h3,h4,h5⟩
def TupAt(H:Hp)(u:V)(k:List Int):Prop:=∃b,u= .ref b/\H b=some (.tup (k.map V.int))
theorem vM(I:Inv X aa σ H s):∀{vs:List Value},(∀v∈vs,∃b k,v= .ref b/\H b=some (.tup (List.map V.int k)))->∃us:List V,aA us vs/\us.length=vs.length/\Paired (TupAt H) us (vs.map (cE s.heap))
 |[],_=>⟨[],.nil,rfl,.nil⟩
 |v::vs,h=>by
  refine bF (vM I (vs:=vs) λz hz=>h z (W_ _ hz)) λus u1 u2 u3=>eW (h v Xd) λb k ah hb=>?_
  subst ah
  refine⟨.ref b::us,.cons rfl u1,by rw[Xt,Xt,u2],?_⟩
  rw[Xy,de (fB I hb)]
  exact .cons ⟨b,rfl,hb⟩ u3
def qh(hc:X.calm=true):cJ X (.builtin "sorted") (λxs H Q=>∃a aw ks,xs=[V.ref a]/\Rd H a (.dT aw)/\aw.map (·.1)=ks.map (λk:List Int=>k.map (Sum.inl:Int->cM))/\(∀k∈ks,k≠[])/\
  ∀(l:Addr) (us:List V),H l=none->Paired (TupAt H) us (fg ks)->Q (.ref l) (upd H l (.lst us))):=by
 intro aa s σ H xs us Q I r zz
 refine tW zz λa aw ks e hd B0 gx q=>?_
 subst e
 refine ab (vals1 r) λu ah ru=>?_
 subst ah
 cases ru
 refine kP (Dd I hd) λes ep r1 r2 r3 r4 r5=>?_
 have pk:∀{aw:List (List cM×V)}{ks:List (List Int)}{vs:List Value},aw.map (·.1)=ks.map (λk:List Int=>k.map (Sum.inl:Int->cM))->Paired (λ(kv:List cM×V) (v:Value)=>∃b,v= .ref b/\H b=some (.tup (kv.1.map kV))) aw vs->vs.map (cE s.heap)=ks/\∀v∈vs,∃b,∃k∈ks,v= .ref b/\H b=some (.tup (List.map V.int k)):=by
  intro aw ks vs hk p
  induction p generalizing ks with
  |nil=>
   cases ks with
   |nil=>exact⟨rfl,λ_ z=>nomatch z⟩
   |cons _ _=>cases hk
  |@cons kv v aw vs hq _ ih=>
   cases ks with
   |nil=>cases hk
   |cons k ks=>
    rw[Xy,Xy]at hk
    injection hk with h1 h2
    obtain⟨i1,i2⟩:=ih h2
    refine ab hq λb aK hb=>?_
    try clear hq
    subst aK
    rw[h1,XY]at hb
    have j6:H b=some (.tup (List.map V.int k)):=hb
    refine⟨by rw[Xy,i1,de (fB I j6)],λw hw=>?_⟩
    rcases Xl.mp hw with e|hw
    .exact⟨b,k,Xd,e,j6⟩
    .exact a_ (i2 w hw) λb2 k2 m2 e2 g2=>⟨b2,k2,W_ _ m2,e2,g2⟩
 obtain⟨p1,p2⟩:=pk B0 r5
 have hI:∀v∈es.toList.map (·.key),lE s.heap v:=λv m=>by
  refine a_ (p2 v m) λb k mk cQ hb=>?_
  subst cQ
  exact Df (fB I hb) (gx k mk)
 refine qg (I.ok.hd hc) r3 r1 (by rw[r2];exact r4) (λen Vf=>hI _ (Xg.mpr ⟨en,YN.mpr Vf,rfl⟩)) λh1 h' tk c vs k1 k2 e1 e2 e3=>?_
 have Mo:(vs.map (cE s.heap)).Perm ks:=by
  have:=e2.map (cE s.heap)
  rwa [p1]at this
 have Qx:vs.map (cE s.heap)=fg ks:=Ab Mo (Yx.mpr e3)
 have I1:Inv X aa σ H {s with heap:=h1,toks:=tk}:=I.kept (t':=tk) k1
 obtain⟨us,u1,u2,u3⟩:=vM I (vs:=vs) λv m=>by
  exact a_ (p2 v (e2.mem_iff.mp m)) λb k _ e hb=>⟨b,k,e,hb⟩
 rw[Qx]at u3
 have aX:vs.length=es.size:=by rw[e2.length_eq];simp
 have I2:Inv X aa σ (upd H h1.objs.size (.lst us)) {s with heap:=h',toks:=tk}:=by
  have:=I1.laid (a:=h1.objs.size) (o:= .lst us) (t':=tk) k2 (Xf _) (show aQ X.prog X.w _ h' _ (.lst us) from⟨by rw[u2,aX,r2];exact r4,vs,c,u1,e1⟩)
  exact this
 exact⟨.ref h1.objs.size,_,I2,rfl,q _ us (I1.aN.fresh (Xf _)) u3⟩
end
section
variable {prog:Program}{w:World}{A:Around}{E:Value->Shared->Prop}{s:Shared}{X:Cx}
end
section
variable {prog:Program}{w:World}{A:Around}{R:Result->Shared->Prop}{I:Addr}{fp wr:List Addr}{n:Nat}{P:Nat->Value->Prop}{St:Nat->Heap->Prop}
def Ac(T:Addr->Prop)(g g':Heap):Prop:=∀b o,T b->g.get? b=some o->g'.get? b=some o
def Dg(prog:Program)(w:World)(A:Around)(T:Addr->Prop)(g:Heap)(P:Nat->Value->Prop)(bt:Nat->Nat->Bool):Prop:=
 ∀i j x y (s:Shared) (Q:Value->Shared->Prop) (E:Value->Shared->Prop),Ac T g s.heap->P i x->P j y->Q (.bool (bt i j)) s->wpAny (model prog w) A (richCompare .Lt x y) Q E s
def HP(W:Walks prog w A.in1 I fp wr n P St)(cm:Dg prog w A.in1 T g P bt)(nS:S∉fp)(hT:∀b,T b->b∉wr/\b≠S):
  ∀(m j:Nat) (s:Shared) (best:Value) (c:Nat),n-(j+1)=m->j+1<=n->St (j+1) s.heap->P (argBest bt j) best->Ac T g s.heap->s.heap.get? S=some {cls:= .type "list",dict:=none,data:= .seq #[best,best] c,slots:=#[]}->
   (∀v h' tk,P (argBest bt (n-1)) v->(∀b o,b∉wr->b≠S->s.heap.get? b=some o->h'.get? b=some o)->R (.ok (.ret v)) {s with heap:=h',toks:=tk})->codeAny (model prog w) A (.builtin "min.loop" ⟨[.ref I,.none,.ref S],[]⟩) R s:=by
 have wS:S∉wr:=λz=>nS (W.sub _ z)
 have nm:(toString "min"++toString ".loop":String)="min.loop":=by decide
 intro m
 induction m with
 |zero=>
  intro j s best c em ej HQ eP eT eS eR
  have Kb:j+1=n:=by omega
  refine ZP ZX ?_
  rw[Zw Yt _]
  show wpAny _ A.in1 (seqItems? (.ref S) >>= _) _ _ _
  refine W6 (Z5 eS rfl ?_)
  show wpAny _ A.in1 (tryCatch (pyNext (.ref I)) _ >>= _) _ _ _
  refine W6 (aay (W.done s _ _ (Kb▸HQ) λg2 t2 k2=>?_))
  have FI:=k2 S _ wS eS
  show wpAny _ A.in1 (updateSeq S (λ_=>(#[]:Array Value)) >>= _) _ _ _
  refine W6 (abq FI rfl (W6 (aaQ (Xe ?_))))
  exact eR best _ t2 (by rw[<-Kb];exact eP) λb o b1 b2 e=>(XF _ _ (Ya b2)).trans (k2 b o b1 e)
 |succ m ih=>
  intro j s best c em ej HQ eP eT eS eR
  have Kb:j+1<n:=by omega
  refine ZP ZX ?_
  rw[Zw Yt _]
  show wpAny _ A.in1 (seqItems? (.ref S) >>= _) _ _ _
  refine W6 (Z5 eS rfl ?_)
  show wpAny _ A.in1 (tryCatch (pyNext (.ref I)) _ >>= _) _ _ _
  refine W6 (aay (W.item (j+1) s _ _ Kb HQ λv g2 t2 p2 cC k2=>?_))
  have FI:=k2 S _ wS eS
  have Mp:Ac T g g2:=λb o tb e=>k2 b o (hT b tb).1 (eT b o tb e)
  show wpAny _ A.in1 (tryCatch (holding [v,v] (richCompare .Lt v best >>= _)) _ >>= _) _ _ _
  refine W6 (aay (X6 (W6 (cm (j+1) (argBest bt j) v best _ _ _ Mp p2 eP ?_))))
  refine W6 (X6 (X_ (W6 (aaQ (Xe ?_)))))
  cases eb:bt (j+1) (argBest bt j)with
  |true=>
   rw[Xs rfl]
   refine W6 (abq FI rfl (W6 (aaQ ?_)))
   rw[nm]
   refine Xe ⟨plainId_quiet Yt _,ih (j+1) _ v _ (by omega) Kb (W.frame _ _ _ cC λb bf o e=>?_) (by simp only[argBest,eb,if_true];exact p2) (λb o tb e=>?_) (YY _ FI rfl) λv3 g3 t3 p3 k3=>?_⟩
   .exact(XF _ _ (λz:S=b=>nS (by rw[z];exact bf))).trans e
   .exact(XF _ _ (Ya (hT b tb).2)).trans (Mp b o tb e)
   .exact eR v3 g3 t3 p3 λb o b1 b2 e=>k3 b o b1 b2 ((XF _ _ (Ya b2)).trans (k2 b o b1 e))
  |false=>
   rw[Xx Xa]
   refine W6 (aaQ ?_)
   rw[nm]
   refine Xe ⟨plainId_quiet Yt _,ih (j+1) _ best c (by omega) Kb cC (by simp only[argBest,eb,Yr,if_false];exact eP) Mp FI λv3 g3 t3 p3 k3=>?_⟩
   exact eR v3 g3 t3 p3 λb o b1 b2 e=>k3 b o b1 b2 (k2 b o b1 e)
def Di(W:Walks prog w A.in1 I fp wr n P St)(cm:Dg prog w A.in1 T g P bt)(nS:S∉fp)(hT:∀b,T b->b∉wr/\b≠S)(n0:0<n)(HQ:St 0 s.heap)(eT:Ac T g s.heap)(eS:s.heap.get? S=some {cls:= .type "list",dict:=none,data:= .seq #[] c,slots:=#[]})
  (eR:∀v h' tk,P (argBest bt (n-1)) v->(∀b o,b∉wr->b≠S->s.heap.get? b=some o->h'.get? b=some o)->R (.ok (.ret v)) {s with heap:=h',toks:=tk}):codeAny (model prog w) A (.builtin "min.loop" ⟨[.ref I,.none,.ref S],[]⟩) R s:=by
 have wS:S∉wr:=λz=>nS (W.sub _ z)
 have nm:(toString "min"++toString ".loop":String)="min.loop":=by decide
 refine ZP ZX ?_
 rw[Zw Yt _]
 show wpAny _ A.in1 (seqItems? (.ref S) >>= _) _ _ _
 refine W6 (Z5 eS rfl ?_)
 show wpAny _ A.in1 (tryCatch (pyNext (.ref I)) _ >>= _) _ _ _
 refine W6 (aay (W.item 0 s _ _ n0 HQ λv g2 t2 p2 cC k2=>?_))
 have FI:=k2 S _ wS eS
 have Mp:Ac T g g2:=λb o tb e=>k2 b o (hT b tb).1 (eT b o tb e)
 show wpAny _ A.in1 (updateSeq S (λ_=>(#[v,v]:Array Value)) >>= _) _ _ _
 refine W6 (abq FI rfl ?_)
 rw[nm]
 refine Xe ⟨plainId_quiet Yt _,HP W cm nS hT _ 0 _ v _ rfl n0 (W.frame _ _ _ cC λb bf o e=>?_) p2 (λb o tb e=>?_) (YY _ FI rfl) λv3 g3 t3 p3 k3=>?_⟩
 .exact(XF _ _ (λz:S=b=>nS (by rw[z];exact bf))).trans e
 .exact(XF _ _ (Ya (hT b tb).2)).trans (Mp b o tb e)
 .exact eR v3 g3 t3 p3 λb o b1 b2 e=>k3 b o b1 b2 ((XF _ _ (Ya b2)).trans (k2 b o b1 e))
end
section
variable {prog:Program}{w:World}{A:Around}{E:Value->Shared->Prop}{s:Shared}
theorem xV
  (h:wpAny (model prog w) A.in1 (pyIter x) (λit s2=>∃I fp wr n P St bt,it= .ref I/\Walks prog w A.in1 I fp wr n P St/\St 0 s2.heap/\(∀b∈fp,b<s2.heap.objs.size)/\0<n/\Dg prog w A.in1 T s2.heap P bt/\(∀b,T b->b∉wr/\b<s2.heap.objs.size)/\
   ∀v h' tk,P (argBest bt (n-1)) v->(∀b o,b∉wr->s2.heap.get? b=some o->h'.get? b=some o)->Q v {s2 with heap:=h',toks:=tk}) E s):wpAny (model prog w) A (call (.builtin "min") [x]) Q E s:=by
 have nm:(toString "min"++toString ".loop":String)="min.loop":=by decide
 refine call_function_tree PySem.F.kind_min PySem.F.plain_min PySem.F.entry_min (PySem.F.args_min1 _) ?_
 show wpAny _ A.in1 (Builtin.Builtins.bindParams "min" ["key","default"] 0 ⟨[],[]⟩ >>= _) _ _ _
 refine W6 (wpAny_of_eq (show Builtin.Builtins.bindParams "min" ["key","default"] 0 ⟨[],[]⟩=pure [none,none] from rfl) (W6 (Xe (W6 (YD h (λit s2 z=>?_) λ_ _ e=>e)))))
 refine Uc z λI fp wr n P St bt ah W HQ Vg n0 cm eT q=>?_
 try clear z
 subst ah
 refine W6 (XJ ?_)
 have nS:s2.heap.objs.size∉fp:=λhm=>X2 _ (Vg _ hm)
 rw[nm]
 refine Xe ⟨plainId_quiet Yt _,Di W cm nS (λb tb=>⟨(eT b tb).1,XD (eT b tb).2⟩) n0 (W.frame _ _ _ HQ λb _ o e=>W8 _ e) (λb o _ e=>W8 _ e) (Xp _ rfl) λv h' tk p k=>?_⟩
 exact q v h' tk p λb o b1 e=>k b o b1 (XD (Xm e)) (W8 _ e)
end
end L2
namespace cN
theorem oM:∀(l:List (List Int)) (a b:List Int),iu a (l++[b])=if bC b (iu a l) then b else iu a l
 |[],a,b=>rfl
 |x::l,a,b=>oM l _ b
theorem sh:∀(l:List (List Int)) (a:List Int),iu a l∈a::l
 |[],a=>Xc.mpr rfl
 |b::l,a=>by
  rw[iu]
  rcases Xl.mp (sh l (if bC b a then b else a))with h|h
  .rw[h]
   split
   .exact W_ _ Xd
   .exact Xd
  .exact W_ _ (W_ _ h)
theorem vN:∀(l:List (List Int)) (a:List Int),∀x∈a::l,Mm (iu a l) x
 |[],a,x,h=>by
  rw[Xc.mp h]
  show bC a a=false
  cases e:bC a a with
  |false=>rfl
  |true=>have:=gy a a e;rw[e]at this;cases this
 |b::l,a,x,h=>by
  rw[iu]
  have ih:=vN l (if bC b a then b else a)
  have h0:=ih _ Xd
  rcases Xl.mp h with h|h
  .rw[h]
   cases e:bC b a with
   |true=>
    rw[e]at h0
    exact jC _ _ _ h0 (gy _ _ e)
   |false=>rw[e]at h0;exact h0
  .rcases Xl.mp h with h|h
   .rw[h]
    cases e:bC b a with
    |true=>rw[e]at h0;exact h0
    |false=>
     rw[e]at h0
     exact jC _ _ _ h0 e
   .exact ih x (W_ _ h)
theorem jD(val:Nat->List Int):∀(k:Nat) (l:List (List Int)),(∀i,i<k->l[i]?=some (val (i+1)))->val (PySem.argBest (λi j=>bC (val i) (val j)) k)=iu (val 0) (l.take k)
 |0,l,_=>rfl
 |k+1,l,h=>by
  have hk:=h k (YW k)
  have ih:=jD val k l λi hi=>h i (YQ hi)
  have e:l.take (k+1)=l.take k++[val (k+1)]:=by rw[List.take_add_one,hk];rfl
  rw[e,oM,<-ih]
  show val (if bC (val (k+1)) (val (PySem.argBest _ k))=true then k+1 else PySem.argBest _ k)=_
  split<;>rfl
end cN
namespace L2
open PySem PySem.Spec PyProof.Rows PySem.W cN
theorem vO:∀u v:List Int,HT.lexLt u v=bC u v
 |[],[]=>rfl
 |[],_::_=>rfl
 |_::_,[]=>rfl
 |x::u,y::v=>by
  show(if x=y then HT.lexLt u v else decide (x<y))=if x=y then bC u v else decide (x<y)
  rw[vO u v]
section
variable {X:Cx}
def fV:∀{us:List V}{ks:List (List Int)}{vs:List Value},Paired (TupAt H) us ks->aA us vs->∀(i:Nat) (v:Value),vs[i]?=some v->∃b u,v= .ref b/\us[i]?=some u/\u= .ref b/\H b=some (.tup ((ks.getD i []).map V.int)):=λ{us ks vs} h=>by
 induction h generalizing vs with
 |nil=>intro r i v h;cases r;simp at h
 |cons hq p ih=>
  intro r i v h
  cases r with
  |cons r rs=>
   cases i with
   |zero=>
    refine ab hq λb ah hb=>?_
    try clear hq
    subst ah
    cases r
    have h':Value.ref b=v:=by simpa using h
    exact⟨b,.ref b,h'.symm,rfl,rfl,hb⟩
   |succ i=>exact gq (ih rs i v (by simpa using h)) λb u e1 e2 e3 e4=>⟨b,u,e1,by simpa using e2,e3,by simpa using e4⟩
def xW(hc:X.calm=true)(hu:X.A.units+64<cLine):cJ X (.builtin "min") (λxs H Q=>∃(p:Addr) (ws:List V) (k:List Int) (ks:List (List Int)),xs=[.ref p]/\dI X.K H p ws/\Paired (TupAt H) ws (k::ks)/\∀u,TupAt H u (iu k ks)->Q u H):=by
 intro aa s σ H xs us Q I r zz
 refine Kp zz λp ws k ks e hq hp q=>?_
 subst e
 refine ab (vals1 r) λu ah rx=>?_
 subst ah
 cases rx
 refine bF (I.list hq) λits rv pl hz=>?_
 have hl:s.heap.IsList p its.toArray:=pl.isList
 have bJ:p<s.heap.objs.size:=by obtain⟨_,e,_⟩:=hl;exact Xm e
 have len:its.length=ks.length+1:=by
  have h1:=rv.length
  have h2:=Zr hp
  rw[Xt]at h2
  lia
 have best:(k::ks).getD (argBest (λi j=>bC ((k::ks).getD i []) ((k::ks).getD j [])) ks.length) []=iu k ks:=by
  have:=jD (λi=>(k::ks).getD i []) ks.length ks (λi hi=>by simp[hi])
  simpa using this
 refine xV (T:=λb=>∃i,i<its.length/\its[i]?=some (.ref b)) (Zt hl ?_)
 have yL:∀b,(∃i,i<its.length/\its[i]?=some (Value.ref b))->b<s.heap.objs.size:=λb zz=>by
  refine ab zz λi _ hi=>gq (fV hp rv i _ hi) λb' _ e1 _ _ e4=>?_
  cases e1
  refine Gf (fB I e4) λx o xs n e g1 _=>?_
  cases e
  exact Xm g1
 refine⟨_,[_,p],[_],_,_,_,_,rfl,Walks.list (A:=X.A.in1) (I.ok.hd hc) s.heap.objs.size p (XD bJ) its.toArray,⟨⟨_,Xp _ rfl,rfl,rfl⟩,hl.push _⟩,λb hb=>?_,by rw[Xh];lia,(λi j x y s' Q' E' st hx hy hQ=>?_:Dg X.prog X.w X.A.in1 _ _ _ (λi j=>bC ((k::ks).getD i []) ((k::ks).getD j []))),λb hb=>⟨λz=>?_,?_⟩,λv h' tk hP hk=>?_⟩
 .show b<(s.heap.push _).objs.size
  rw[YG]
  rcases Xl.mp hb with rfl|hb
  .exact YW _
  .rw[Xc.mp hb];exact YQ bJ
 .have sj:its[i]?=some x:=by simpa using hx
  have BX:its[j]?=some y:=by simpa using hy
  refine gq (fV hp rv i x sj) λb _ aK _ _ eb=>?_
  subst aK
  refine gq (fV hp rv j y BX) λc _ cQ _ _ ec=>?_
  subst cQ
  have ib:i<its.length:=(Xu.mp sj).1
  have jb:j<its.length:=(Xu.mp BX).1
  refine qU (fB I eb) λb' o xs n e g1 g2 g3 g4=>?_
  cases e
  refine qU (fB I ec) λc' o2 ys m e f1 f2 f3 f4=>?_
  cases e
  have s1:=st b o ⟨i,ib,sj⟩ (W8 _ g1)
  have s2:=st c o2 ⟨j,jb,BX⟩ (W8 _ f1)
  refine HT.ue (items:=xs.toArray) (items2:=ys.toArray) ⟨o,s1,g2,n,g3⟩ ⟨o2,s2,f2,m,f3⟩ (by simpa using g4) (by simpa using f4) ?_ (by rw[vO];exact hQ)
  show X.A.units+1<cLine
  lia
 .rw[Xc.mp z]at hb
  exact absurd (yL _ hb) (X2 _)
 .show b<(s.heap.push _).objs.size
  rw[YG]
  exact YQ (yL b hb)
 .rw[Xh,len,Nat.add_sub_cancel]at hP
  have n6:its[argBest (λi j=>bC ((k::ks).getD i []) ((k::ks).getD j [])) ks.length]?=some v:=by simpa using hP
  refine gq (fV hp rv _ v n6) λb u n8 _ _ eb=>?_
  subst n8
  rw[best]at eb
  refine⟨.ref b,H,I.kept λb2 o e=>hk b2 o (λz=>?_) (W8 _ e),rfl,q _ ⟨b,rfl,eb⟩⟩
  rw[Xc.mp z]at e
  exact absurd (Xm e) (X2 _)
end
end L2
namespace PySem
namespace F
end F
end PySem
namespace L2
open PySem PySem.Spec PyProof.Rows
open AutoSeq1 (wpAny_loadPart')
section
variable {prog:Program}{w:World}{A:Around}{E:Value->Shared->Prop}{s:Shared}{X:Cx}{tg:Expr}
end
open PySem.W
noncomputable def Qy(a:Addr)(o:Obj)(aw:List (cM×V)):It:=
 ⟨λi H=>H a=some (.dH o (.dK aw))/\i<aw.length,λi H x H'=>H'=H/\(aw[i]?).map (λkv=>kv.2)=some x,λi H=>H a=some (.dH o (.dK aw))/\i=aw.length⟩
def qi{X:Cx}{aa:List (Addr×Obj)}{σ:St}{H:Hp}{s:Shared}{a:Addr}{o:Obj}{aw:List (cM×V)}{es:Array DictEntry}{ep:Nat}(I:Inv X aa σ H s)(e:H a=some (.dH o (.dK aw)))(hd:o.data= .dict es ep):
  (a==sysModules)=false/\∃vs,KV aw vs/\s.heap.DictAt (aV X.prog X.w) a vs ep:=by
 refine ao λnO=>?_
 obtain⟨z,lo,vs,fu,o',Ca,Gq,h1,h2,h3,h4,h5,h6⟩:=jy I.aN (.inr ⟨o,e⟩)
 have ho:s.heap.get? a=some o:=(show aQ X.prog X.w H s.heap a (.dH o (.dK aw)) from I.aN a _ e).1
 rw[ho]at h1
 cases h1
 rw[hd]at h3
 cases h3
 exact nO<|⟨lo,vs,fu,o,es,ho,h2,hd,h4,h5,h6⟩
def Mq{κ:Type}[DecidableEq κ]{aw:List (κ×V)}{vs:List (κ×Value)}(r:KV aw vs){i:Nat}(hi:i<aw.length):∃k v,vs[i]?=some (k,v)/\RelV aw[i].2 v:=by
 unfold KV at r
 induction r generalizing i with
 |nil=>exact absurd hi (Y5 _)
 |@cons p q ps qs hq t ih=>
  cases i with
  |zero=>exact⟨q.1,q.2,rfl,hq.2⟩
  |succ i=>
   exact eW (ih (i:=i) (by simpa using hi)) λk v h1 h2=>⟨k,v,by simpa using h1,by simpa using h2⟩
def Dj{P:Program}{w:World}{K:PySem.W.Frag}{tg:Expr}(a it:Addr)(gx:a≠it)(o:Obj)(aw:List (cM×V))(es:Array DictEntry)(ep:Nat)(hd:o.data= .dict es ep):rf P w K tg (Qy a o aw) [it] it (λi h=>h.IsValIter it a i aw.length ep) where
 mem:=by simp
 obj:=λi h st b hb=>by
  have e:b=it:=by simpa using hb
  refine ao λnO=>?_
  subst e
  exact bF st λo e c d=>nO<|⟨o,e,λv z=>by rw[d]at z;cases z⟩
 keep:=λi h h' st k=>let ⟨o,e,r⟩:=st;⟨o,k it (by simp) o e,r⟩
 item:=by
  intro X hP hw hK hc i aa s σ H E I hf st hg
  refine ao λnO=>?_
  subst hP hw hK
  obtain⟨e1,e2⟩:=hg
  obtain⟨_,vs,fu,hm⟩:=qi I e1 hd
  refine va (hf it (by simp)) λf0 f1 f2 f3 f4 f5=>eW (Mq fu e2) λk v n1 n2=>nO ?_
  rw[fu.length]at st
  refine wpAny_pyNext_values_item st hm n1 λh' k' hs=>?_
  have I1:Inv X aa σ H {s with heap:=h'}:=I.turned (t':=s.toks) (λb o hb e=>(hs.2 b hb).trans e) f0 f1 f3 f4 f5
  exact ao λnO=>bF (id k') λoi g1 g2 g3=>nO<|⟨_,rfl,rg (s:={s with heap:=h'}) g1 g2 g3 (by decide) ⟨_,H,I1,n2,⟨rfl,by rw[W9 e2];rfl⟩,by rw[fu.length];exact k',λb hb=>(hf b hb).1⟩⟩
 done:=by
  intro X hP hw hK hc i aa s σ H E I hf st hg
  refine ao λnO=>?_
  subst hP hw hK
  obtain⟨e1,e2⟩:=hg
  obtain⟨_,vs,fu,hm⟩:=qi I e1 hd
  refine va (hf it (by simp)) λf0 f1 f2 f3 f4 f5=>nO ?_
  rw[fu.length]at st
  exact wpAny_pyNext_values_end (I.ok.hd hc) st hm (by rw[Xz];rw[<-fu.length,e2];exact Xf _) λh' eb=>⟨rfl,I.turned (t':=s.toks) (λb o hb e=>eb b o hb e) f0 f1 f3 f4 f5⟩
 self:=λ_ _ _ _ _ st h=>wpAny_pyIter_valiter st h
section
variable {X:Cx}{tg:Expr}
def Vh(tl:TE):TI:=λσ H R=>tl σ H λx H1=>∃a o aw,x= .ref a/\H1 a=some (.dH o (.dK aw))/\R (Qy a o aw) H1
def Mr{l:Expr}{tl:TE}{ap cp:Pos}(hl:PE X l tl)(ji:attributeBase l "values" X.env (eval l X.env)=eval l X.env)(jj:(ap.endLine==cp.line)=true):PI X tg (.Call (.Attribute l "values" ap) [] [] cp) (Vh tl):=by
 intro aa s σ H R I h
 refine wpAny_Call_method0_late ji jj (aW (hl aa s σ H _ I h) λv s1 zz=>?_)
 refine ao λnO=>a_ zz λx H1 I1 r1 q1=>cL q1 λa o aw e hq q=>?_
 subst e
 cases r1
 refine cS (HB I1 (.inl ⟨aw,.inr ⟨o,hq⟩⟩)) λt1 t2 t3=>nO ?_
 have ho:s1.heap.get? a=some o:=(show aQ X.prog X.w H1 s1.heap a (.dH o (.dK aw)) from I1.aN a _ hq).1
 obtain⟨es,ep,hd⟩:∃es ep,o.data= .dict es ep:=by
  refine ao λnO=>?_
  obtain⟨_,_,_,_,o',Ca,Gq,h1,h2,h3,_⟩:=jy I1.aN (.inr ⟨o,hq⟩)
  rw[ho]at h1
  cases h1
  exact nO<|⟨Ca,Gq,h3⟩
 refine ao λnO=>?_
 obtain⟨_,vs,fu,hm⟩:=qi I1 hq hd
 refine nO ?_
 refine⟨"dict",_,PySem.F.plainAttrs_dict,aaJ,PySem.F.type_dict_values,t1,t2,Zg rfl (abz ?_)⟩
 refine call_meetsIn aaJ t1 PySem.F.entry_dict_values (PySem.F.args_dict_values_1 _) (meets_dict_values (aV X.prog X.w) a t3) ⟨⟨vs,?_⟩,?_⟩
 .exact ao λnO=>gq (id hm) λo' Ca h1 h2 h3 r=>nO<|⟨o',Ca,ep,h1,h2,h3,r⟩
 .show wpAny _ _ (pyIter (.ref s1.heap.objs.size)) _ _ _
  have I2:Inv X aa σ H1 {s1 with heap:=s1.heap.push {cls:= .type "dict_values",data:= .fields #[.ref a]}}:=I1.kept (t':=s1.toks) λb o e=>W8 _ e
  refine ao λnO=>?_
  obtain⟨_,WQ,Qz,Vi⟩:=qi I2 hq hd
  refine nO<|wpAny_pyIter_values (s:={s1 with heap:=s1.heap.push {cls:= .type "dict_values",data:= .fields #[.ref a]}}) ⟨_,Xp _ rfl,rfl,rfl⟩ Vi ?_
  have alt:a<(s1.heap.push {cls:= .type "dict_values",data:= .fields #[.ref a]}).objs.size :=Xm (W8 _ ho)
  refine⟨_,[(s1.heap.push {cls:= .type "dict_values",data:= .fields #[.ref a]}).objs.size],_,_,H1,rfl,I2.kept (t':=s1.toks) λb o e=>W8 _ e,Dj a _ (XD alt) o aw es ep hd,⟨_,Xp _ rfl,rfl,by rw[Qz.length];rfl⟩,λb hb=>?_,q⟩
  have e:b=(s1.heap.push {cls:= .type "dict_values",data:= .fields #[.ref a]}).objs.size :=by simpa using hb
  subst e
  exact I2.xk (Xf _) (I2.aN.fresh (Xf _))
end
section
variable {X:Cx}{aa:List (Addr×Obj)}{σ:St}{H H1 H2:Hp}{s:Shared}
def mG(H:Hp)(b:Addr):Prop:=∃u,H b=some u/\yI (some u)
def NF(X:Cx)(b:Addr):Prop:=∀o u,X.H₀ b≠some (.dH o u)
def Inv.QA(I:Inv X aa σ H1 s)(ea:H1 a=some u)(mu:yI (some u)):∃o,Inv X aa σ (upd H1 a (.dH o u)) s:=by
 obtain⟨o,ho⟩:∃o,s.heap.get? a=some o:=by
  have ok:=I.aN a u ea
  cases u with
  |lst xs=>obtain⟨_,_,_,_,e⟩:=ok;exact⟨_,e⟩
  |dK aw=>obtain⟨_,_,_,_,o,_,_,e,_⟩:=ok;exact⟨_,e⟩
  |dT aw=>obtain⟨_,_,_,_,o,_,_,e,_⟩:=ok;exact⟨_,e⟩
  |set S n=>obtain⟨o,_,_,_,e,_⟩:=ok;exact⟨_,e⟩
  |ins C dx fs=>obtain⟨_,_,_,e,_⟩:=ok;exact⟨_,e⟩
  |ext φ=>obtain⟨_,⟨o,e⟩,_⟩:=ok;exact⟨_,e⟩
  |_=>exact mu.elim
 have nt:∀b w,H1 b=some w->¬yI (some w)->upd H1 a (.dH o u) b=some w:=λb w e nm=>by
  rw[ak (λz=>?_)]
  .exact e
  .rw[z,ea]at e;cases e;exact nm mu
 have aN:iL X.prog X.w (upd H1 a (.dH o u)) s.heap:=λb w' e=>by
  by_cases hb:b=a
  .subst hb
   rw[ag]at e
   cases e
   exact⟨ho,(I.aN b u ea).nN (λ_ _ _ z=>z) (λc z=>nt c _ z id) λc ys z=>nt c _ z id⟩
  .rw[ak hb]at e
   exact(I.aN b w' e).nN (λ_ _ _ z=>z) (λc z=>nt c _ z id) λc ys z=>nt c _ z id
 have un:Un X.fs [] H1 (upd H1 a (.dH o u)) s.heap s.heap:=Un.write (x:=a) (e:=a) (by rw[ea];exact mu) (.inl rfl) (λ_ _ _ z=>z) ⟨o,ho⟩
 have:=I.un (t':=s.toks) un aN
 exact⟨o,this⟩
structure Dk(as:List Addr)(H1 H2:Hp):Prop where
 out:∀b,b∉as->H2 b=H1 b
 at_:∀b,b∈as->∃o u,H1 b=some u/\yI (some u)/\H2 b=some (.dH o u)
theorem Inv.iM:∀(as:List Addr) {H1:Hp},Inv X aa σ H1 s->as.Nodup->(∀b∈as,mG H1 b)->∃H2,Inv X aa σ H2 s/\Dk as H1 H2
 |[],H1,I,_,_=>⟨H1,I,λ_ _=>rfl,λ_ z=>nomatch z⟩
 |a::as,H1,I,nd,hm=>by
  rw[XR]at nd
  refine ab (hm a Xd) λu ea mu=>ab (Inv.iM as I nd.2 λb hb=>hm b (W_ _ hb)) λH2 I2 f2=>?_
  have Vj:H2 a=some u:=by rw[f2.out a nd.1];exact ea
  obtain⟨o,I3⟩:=I2.QA Vj mu
  refine⟨_,I3,λb hb=>?_,λb hb=>?_⟩
  .rw[Xl,not_or]at hb
   rw[ak hb.1]
   exact f2.out b hb.2
  .by_cases oN:b=a
   .subst oN
    exact⟨o,u,ea,mu,ag⟩
   .rw[ak oN]
    exact f2.at_ b ((Xl.mp hb).resolve_left oN)
def Inv.nf(I:Inv X aa σ H s)(h:mG H b):NF X b:=λo u e=>by
 refine ab h λw e1 mu=>?_
 have:=I.base.iM b o u e
 rw[e1]at this
 cases this
 exact mu
open Classical in
noncomputable def gn(as:List Addr)(H1 H2:Hp):Hp:=λb=>if b∈as then H1 b else H2 b
def jE(h:b∈as):gn as H1 H2 b=H1 b:=Xs h
def bQ(h:b∉as):gn as H1 H2 b=H2 b:=Xx h
def sk(as:List Addr)(H1 H2:Hp):Prop:=∀b,b∈as->∃o u,H1 b=some u/\yI (some u)/\H2 b=some (.dH o u)
theorem Inv.gn(I:Inv X aa σ H2 s)(nf:∀b∈as,NF X b)(h:sk as H1 H2):Inv X aa σ (gn as H1 H2) s:=by
 have same:∀b w,H2 b=some w->(∀o u,w≠ .dH o u)->L2.gn as H1 H2 b=some w:=λb w e n=>by
  rw[bQ λhb=>?_]
  .exact e
  .refine a_ (h b hb) λo u _ _ e2=>?_
   rw[e]at e2
   cases e2
   exact n o u rfl
 have vP:∀b,H2 b=none->L2.gn as H1 H2 b=none:=λb e=>by
  rw[bQ λhb=>?_]
  .exact e
  .refine a_ (h b hb) λo u _ _ e2=>?_
   rw[e]at e2
   cases e2
 have aN:iL X.prog X.w (L2.gn as H1 H2) s.heap:=λb w' e=>by
  by_cases hb:b∈as
  .refine a_ (h b hb) λo u e1 mu e2=>?_
   rw[jE hb,e1]at e
   have ew:u=w':=Xw e
   subst ew
   obtain⟨_,q⟩:=(show aQ X.prog X.w H2 s.heap b (.dH o u) from I.aN b _ e2)
   exact q.nN (λ_ _ _ z=>z) (λc z=>same c _ z λ_ _ y=>(nomatch y)) λc ys z=>same c _ z λ_ _ y=>(nomatch y)
  .rw[bQ hb]at e
   exact(I.aN b w' e).nN (λ_ _ _ z=>z) (λc z=>same c _ z λ_ _ y=>(nomatch y)) λc ys z=>same c _ z λ_ _ y=>(nomatch y)
 refine⟨I.ok,I.os,I.bare,⟨I.base.keep,I.base.slot,λb o e n hx=>vP b (I.base.free b o e n hx),I.base.there,λb xs e=>same b _ (I.base.pF b xs e) λ_ _ y=>(nomatch y),λb o u e=>?_,λb ps e=>?_⟩,I.loc,I.cell,vP _ I.free,λx c e=>vP _ (I.f9 x c e),λp hp=>?_,aN,I.len⟩
 .have e2:=I.base.iM b o u e
  rw[bQ λhb=>nf b hb o u e]
  exact e2
 .obtain⟨more,e2⟩:=I.base.pG b ps e
  exact⟨more,same b _ e2 λ_ _ y=>(nomatch y)⟩
 .exact cS (I.pin p hp) λe n r=>⟨e,vP _ n,r⟩
end
section
variable {X:Cx}{k:Nat}{f:Addr}{fd:FuncData}{ps:List Str}{sp:Sp}{x:Str}{p pos:Pos}{e:Expr}{es:List Expr}{t:TA}
def Ad(F:jf X.prog X.w X.K X.mg X.base xA k f fd ps sp)(hr:eN k X.A)(hg:Gl X x)(hm:X.mg x=some (.ref f))(hk:PySem.W.keepIn X.K (.ref f)=true)(hb:Binds X.K fd ps [])
  (ha:PA X (e::es) t) (BS:(x==("__debug__":Str))=false) (he:starEach (e::es) X.env=(false,eval e X.env)::starEach es X.env) (j5:(backTo pos (starEach es X.env)).any (·.1)=false):
  PE X (.Call (.Name x p) (e::es) [] pos) (λσ H Q=>t σ H λvs H1=>∃as:List Addr,as.Nodup/\(∀b∈as,mG H1 b)/\∀H2,Dk as H1 H2->sp (vs++[]) H2 (λv H3=>sk as H1 H3/\Q v (gn as H1 H3)) E0):=by
 intro aa s σ H Q I h
 refine ZL (pI I hg hm ?_ BS)
 refine abG (h₀:=X.base) I.ok.mod.NQ hk (aW (ha pos aa s σ H _ I h) λus s1 ⟨vs,H1,I1,r,as,nd,Oe,q⟩=>⟨I1.E5,?_⟩) he j5
 exact ab (Inv.iM as I1 nd Oe) λH2 I2 fz=>aW (y0 F hr hb .nil zk I2 r (q H2 fz)) λv s2 zz=>gq zz λy H3 I3 ry hc q3=>⟨y,_,I3.gn (λb j6=>I1.nf (Oe b j6)) hc,ry,q3⟩
def Dl{e:Expr}{t:TE}(h:PE X e t):PE X e (λσ H Q=>t σ H λv H1=>∃as:List Addr,as.Nodup/\(∀b∈as,mG H1 b)/\∀H2,Dk as H1 H2->Q v H2):=by
 intro aa s σ H Q I q
 refine aW (h aa s σ H _ I q) λv s1 zz=>ao λnO=>?_
 obtain⟨y,H1,I1,r1,as,nd,Oe,q1⟩:=zz
 exact ab (Inv.iM as I1 nd Oe) λH2 I2 fz=>nO<|⟨y,H2,I2,r1,q1 H2 fz⟩
end
section
variable {X:Cx}
def Ae(K:PySem.W.Frag):V->List V->Hp->VK->Prop:=λx vs H Q=>∃l b xs zs,x= .ref l/\vs=[.ref b]/\H l=some (.lst xs)/\dI K H b zs/\xs.length+zs.length<=sizeLine/\Q .dj (upd H l (.lst (xs++zs)))
def Af:Pl X "list.extend" (Ae X.K):=by
 intro aa s σ H x vs v us Q I rx rv h
 refine ao λnO=>E3 h λl b xs zs ah aK hH hB hz q=>?_
 try clear h
 subst ah
 subst aK
 cases rx
 refine ab rv.one λu cQ ru=>?_
 subst cQ
 cases ru
 obtain⟨z,its,n,r,hl,e⟩:=I.Hd hH
 refine nO ?_
 have key:∃(iN:List Value) (n2:Nat),aA zs iN/\s.heap.get? b=some {cls:= .type "list",data:= .seq iN.toArray n2}:=by
  rcases hB with hB|⟨o,its,m,h1,h2,h3,h4,h5,h6,h7⟩
  .refine ao λnO=>?_
   obtain⟨_,iN,n2,r2,e2⟩:=hB.ok I.aN
   exact nO<|⟨iN,n2,r2,e2⟩
  .have hg:=I.E5 b o h1
   refine ao λnO=>?_
   obtain⟨c,Lu,dt,sl⟩:=o
   have h2:c= .type "list":=h2
   have h3:Lu=none:=h3
   have h4:dt= .seq its m:=h4
   have h7:sl=#[]:=h7
   subst h2 h3 h4 h7
   exact nO<|⟨its.toList,m,h6,by simpa using hg⟩
 refine ao λnO=>eW key λiN n2 r2 e2=>nO ?_
 have Ve:=r2.length
 have hsz:its.toArray.size+iN.toArray.size<=sizeLine:=by rw[Xh,Xh];lia
 have Mt:¬(!its.toArray.isEmpty&&Builtin.List.listTooLong (its.toArray.size+iN.toArray.size))=true:=by
  rw[zi hsz,Z7]
  exact Xa
 refine call_meets F.slot_list_extend ⟨_,e,rfl⟩ F.entry_list_extend (F.args_list_extend_2 _ _) (AutoSeq1.list_extend_list_list_0 l its.toArray n b iN.toArray n2 Mt (by rw[Xh];lia) (by lia)) ⟨e,e2,?_⟩
 refine⟨.dj,_,I.Hc (its':=its++iN) hH e (by simp) (r.append r2) ?_,rfl,q⟩
 rw[Xk]
 lia
def so(tk tv:TE):TE:=λσ H Q=>∀p,H p=none->tk σ (upd H p (.dK [])) λx H1=>tv σ H1 λy H2=>∃i:Int,x= .int i/\H2 p=some (.dK [])/\Q (.ref p) (upd H2 p (.dK [(Sum.inl i,y)]))
def Dm(hu:X.A.units+1<cLine)(hk:PE X k tk)(hv:PE X v tv):PE X (.Dict [some k] [v] pos) (so tk tv):=by
 intro aa s σ H Q I h
 have hn:H s.heap.objs.size=none:=I.aN.fresh (Xf _)
 refine wpAny_Dict_any rfl rfl (by simp) (show 1<=15 by decide) ?_
 have I0:Inv X aa σ (upd H s.heap.objs.size (.dK [])) {s with heap:=s.heap.push {cls:= .type "dict",data:= .dict #[]}}:=I.laid (a:=s.heap.objs.size) (o:= .dK []) (t':=s.toks) (λ_ _ q=>W8 _ q) (Xf _) (zK s.heap I.big)
 refine pairTrees_cons_walk (aW (hk aa _ σ _ _ I0 (h _ hn)) λkv s1 zz=>a_ zz λx H1 I1 r1 q1=>aW (hv aa s1 σ H1 _ I1 q1) λvv s2 zz=>a_ zz λy H2 I2 r2 q2=>pairTrees_nil_walk ?_)
 refine ao λnO=>bF q2 λi ex ep q3=>?_
 subst ex
 obtain⟨t,rfl⟩:=r1
 refine nO ?_
 unfold storeAll
 rw[Y2]
 refine ao λnO=>?_
 obtain⟨z,hd,xs,fu,dd⟩:=FA I2.aN ep
 refine nO ?_
 have ry:RelV (kV (Sum.inl i)) (Value.int i t):=⟨t,rfl⟩
 have hz:xs.length<=sizeLine:=by rw[<-fu.length];exact z
 refine W6 (W6 (wpAny_dictSet_pairs (hsz:=hz) (knd:=aV X.prog X.w) (oG ry) dd λh' CS hs=>Xe ?_))
 dsimp only
 rw[List.forIn_nil]
 refine Xe ⟨.ref s.heap.objs.size,_,?_,rfl,q3⟩
 have he:∃q,h'.get? s.heap.objs.size=some q:=let ⟨q,_,_,hq,_⟩:=CS;⟨q,hq⟩
 exact lL (t':=s2.toks+1) I2 (by rw[ep];exact True.intro) hs he (zJ (by rw[sizeLine_eq];exact(by decide:(1:Nat)<=16777216)) hd (fu.put (Sum.inl i) r2) CS)
end
section
variable {prog:Program}{w:World}{A:Around}{E:Value->Shared->Prop}{s:Shared}{d:Addr}{es:Array DictEntry}{ep:Nat}
def sq(hh:A.handled=none)(lo:(d==sysModules)=false)(r:gh s.heap d es ep)(CL:es.size<64)(hI:IntsAre (es.toList.map (·.key)) ns)
  (h:∀(h1 h':Heap) (tk:Nat) (out:Array Value) (c:Nat) (et:List Int),(∀b o',s.heap.get? b=some o'->h1.get? b=some o')->(∀b o',h1.get? b=some o'->h'.get? b=some o')->h'.get? h1.objs.size=some {cls:= .type "list",data:= .seq out c}->IntsAre out.toList et->et.Perm ns->et.Pairwise (· <= ·)->Q (.ref h1.objs.size) {s with heap:=h',toks:=tk}):
  wpAny (model prog w) A (call (.builtin "sorted") [.ref d]) Q E s:=by
 refine Zz kind_sorted plain_sorted entry_sorted (args_sorted1 _) ?_
 unfold Builtin.«sorted»
 refine W6 (m:=checkCount "sorted" 1 1 _) (Xe (W6 (kdu_collect (A:=A.in1) (vI lo) hh r (by rw[sizeLine_eq];lia) λh1 tk acc k1 it=>?_)))
 have hl:acc.toList.length=es.size:=by rw[XE];exact it.1
 have eq:acc.toList=es.toList.map (·.key):=by
  apply Yv
  intro j
  rcases Yf j es.size with z|z
  .have hj:j<acc.toList.length:=by lia
   refine ab (it.2 j acc.toList[j] (by rw[<-X8];exact W9 hj)) λe e1 e2=>?_
   rw[W9 hj,Xn,X8,e1,e2]
   rfl
  .rw[Xz (by lia),Xz (by simpa using z)]
 rw[eq]
 refine W6 (aaR ?_ (by rw[<-eq,hl,sizeLine_eq];lia))
 have Cb:(h1.push (seqObj "list" (es.toList.map (·.key)).toArray 0)).get? h1.objs.size=some (seqObj "list" (es.toList.map (·.key)).toArray 0):=Xp _ rfl
 refine W6 (X6 (Yk slot_list_sort ⟨_,Cb,rfl⟩ entry_list_sort (list_sort_tree (s:={s with heap:=h1.push (seqObj "list" (es.toList.map (·.key)).toArray 0),toks:=tk}) Cb hI (by rw[<-eq,hl];exact CL) λout et a1 a2 a3=>⟨_,rfl,?_⟩) (args_list_sort _)))
 refine Xe ⟨_,rfl,?_⟩
 have u1:=get?_update_seq Cb (λ_=>#[])
 have u2:=W8 (seqObj "tuple" (es.toList.map (·.key)).toArray 0) u1
 have u3:=W8 (seqObj "list" #[] 0) u2
 have u4:=get?_update_seq u3 (λ_=>out)
 refine h h1 _ tk out _ et k1 (λb o' e=>?_) u4 a1 a2 a3
 have hb:b≠h1.objs.size:=XD (Xm e)
 unfold sortedHeap
 rw[XF _ _ (Ya hb)]
 refine W8 _ (W8 _ ?_)
 rw[XF _ _ (Ya hb)]
 exact W8 _ e
end
section
variable {X:Cx}
theorem vQ:∀{ns:List Int}{vs:List Value},vs.length=ns.length->(∀(i:Nat) (n:Int),ns[i]?=some n->∃t,vs[i]?=some (.int n t))->IntsAre vs ns
 |[],[],_,_=> .nil
 |[],_::_,h,_=>nomatch h
 |_::_,[],h,_=>nomatch h
 |n::ns,v::vs,h,k=>by
  obtain⟨t,e⟩:=k 0 n rfl
  have e:v= .int n t:=by simpa using e
  subst e
  exact .cons n t (vQ (by simpa using h) λi m hi=>by
   obtain⟨t',e'⟩:=k (i+1) m (by simpa using hi)
   exact⟨t',by simpa using e'⟩)
def qj(hc:X.calm=true):cJ X (.builtin "sorted") (λxs H Q=>∃(p:Addr) (aw:List (cM×V)) (ns:List Int),xs=[.ref p]/\Rd H p (.dK aw)/\aw.map (·.1)=ns.map Sum.inl/\ns.length<64/\
  ∀et:List Int,et.Perm ns->et.Pairwise (· <= ·)->∀l,H l=none->Q (.ref l) (upd H l (.lst (et.map V.int)))):=by
 intro aa s σ H xs us Q I r zz
 refine tW zz λp aw ns e hq hk CL q=>?_
 subst e
 refine ab (vals1 r) λu ah rx=>?_
 subst ah
 cases rx
 refine kP (uB I hq) λes ep g1 g2 g3 g4 g5=>?_
 have aX:aw.length=ns.length:=by
  have:=congrArg List.length hk
  rwa [Xb,Xb]at this
 have hI:IntsAre (es.toList.map (·.key)) ns:=by
  refine vQ (by rw[Xb,XE,g2,aX]) λi n hi=>?_
  have iP:i<aw.length:=by rw[aX];exact(Xu.mp hi).1
  refine ab (g5 i aw[i] (W9 iP)) λen e1 e2=>?_
  have Kc:aw[i].1 =Sum.inl n:=by
   have:=congrArg (λl:List cM=>l[i]?) hk
   simp only[Xn,hi,W9 iP,ZN]at this
   exact Xw this
  rw[Kc]at e2
  obtain⟨t,e3⟩:=e2
  exact⟨t,by rw[Xn,X8,e1,<-e3];rfl⟩
 refine sq (I.ok.hd hc) g3 g1 (by lia) hI λh1 h' tk out c et k1 k2 e a1 a2 a3=>?_
 have I1:Inv X aa σ H {s with heap:=h1,toks:=tk}:=I.kept (t':=tk) k1
 have I2:Inv X aa σ (upd H h1.objs.size (.lst (et.map V.int))) {s with heap:=h',toks:=tk}:=
  I1.laid (t':=tk) k2 (Xf _) (show aQ X.prog X.w _ h' _ (.lst (et.map V.int)) from⟨by rw[Xb,a2.length_eq,sizeLine_eq];lia,out.toList,c,fS a1,by simpa using e⟩)
 exact⟨.ref h1.objs.size,_,I2,rfl,q et a2 a3 _ (I1.aN.fresh (Xf _))⟩
end
end L2
namespace Py
open PySem PySem.Spec PyProof.Rows L2
abbrev St:=L2.St
def QB(K:PySem.W.Frag)(a:Addr)(xs:List V):Prop:=
 ∃(o:Obj) (its:Array Value) (n:Nat),K.lookup a=some o/\o.cls= .type "list"/\o.dict=none/\o.data= .seq its n/\its.size<=sizeLine/\aA xs its.toList/\o.slots=#[]
noncomputable def gr(t:Nat)(ks:List (List Int))(vs:List V):HO:=if t=0 then .dK ((ks.map λk=>Sum.inl (k.headD 0)).zip vs) else .dT ((ks.map λk=>k.map Sum.inl).zip vs)
def sv:HO->Prop
 | .lst _=>True
 | .dK _=>True
 | .dT _=>True
 |_=>False
def kZ:sv (gr t ks vs):=by unfold gr;split<;>exact trivial
def mH(t:Nat)(ks:List (List Int)):Prop:=ks.Nodup/\(t=0->∀k∈ks,∃i,k=[i])
mutual
inductive br(K:PySem.W.Frag)(O:Addr->Prop)(H:Hp):V->D->Prop
 |dj:br K O H .dj .dj
 |bl (b:Bool):br K O H (.bl b) (.bl b)
 |int (i:Int):br K O H (.int i) (.int i)
 |str (x:Str):br K O H (.str x) (.str x)
 |tup {a vs ds}:cT K H a vs->au K O H vs ds->br K O H (.ref a) (.tup ds)
 |lst {a vs ds}:Rd H a (.lst vs)->¬O a->au K O H vs ds->br K O H (.ref a) (.lst ds)
 |mod {a vs ds}:QB K a vs->au K O H vs ds->br K O H (.ref a) (.lst ds)
 |bz {a o t ks vs ds}:H a=some (.dH o (gr t ks vs))->ks.length=vs.length->mH t ks->au K O H vs ds->br K O H (.ref a) (.bz t ks ds)
inductive au(K:PySem.W.Frag)(O:Addr->Prop)(H:Hp):List V->List D->Prop
 |nil:au K O H [] []
 |cons {v d vs ds}:br K O H v d->au K O H vs ds->au K O H (v::vs) (d::ds)
end
section
variable {K:PySem.W.Frag}{O O':Addr->Prop}{H H':Hp}
def gZ(ht:∀a vs,cT K H a vs->cT K H' a vs)(hl:∀a vs,Rd H a (.lst vs)->¬O a->Rd H' a (.lst vs)/\¬O' a)(hz:∀a o u,H a=some (.dH o u)->H' a=some (.dH o u)):∀{v d},br K O H v d->br K O' H' v d:=λ{v d} h=>
 br.rec (motive_1:=λv d _=>br K O' H' v d) (motive_2:=λvs ds _=>au K O' H' vs ds) .dj .bl .int .str (λh _ ih=> .tup (ht _ _ h) ih) (λh n _ ih=> .lst (hl _ _ h n).1 (hl _ _ h n).2 ih) (λh _ ih=> .mod h ih) (λh l z _ ih=> .bz (hz _ _ _ h) l z ih) .nil (λ_ _ i1 i2=> .cons i1 i2) h
def fC(ht:∀a vs,cT K H a vs->cT K H' a vs)(hl:∀a vs,Rd H a (.lst vs)->¬O a->Rd H' a (.lst vs)/\¬O' a)(hz:∀a o u,H a=some (.dH o u)->H' a=some (.dH o u)):∀{vs ds},au K O H vs ds->au K O' H' vs ds:=λ{vs ds} h=>
 au.rec (motive_1:=λv d _=>br K O' H' v d) (motive_2:=λvs ds _=>au K O' H' vs ds) .dj .bl .int .str (λh _ ih=> .tup (ht _ _ h) ih) (λh n _ ih=> .lst (hl _ _ h n).1 (hl _ _ h n).2 ih) (λh _ ih=> .mod h ih) (λh l z _ ih=> .bz (hz _ _ _ h) l z ih) .nil (λ_ _ i1 i2=> .cons i1 i2) h
def jF(s:af H H')(h:cT K H a vs):cT K H' a vs:=by
 exact s _ _ h
def qk(s:af H H')(h:Rd H a u):Rd H' a u:=h.elim (λh=> .inl (s _ _ h)) λ⟨o,h⟩=> .inr ⟨o,s _ _ h⟩
def br.mono(h:br K O H v d)(s:af H H'):br K O H' v d:=gZ (λ_ _=>jF s) (λ_ _ h n=>⟨qk s h,n⟩) (λ_ _ _ h=>s _ _ h) h
def au.mono(h:au K O H vs ds)(s:af H H'):au K O H' vs ds:=fC (λ_ _=>jF s) (λ_ _ h n=>⟨qk s h,n⟩) (λ_ _ _ h=>s _ _ h) h
def br.weak(h:br K O H v d)(s:∀a,O' a->O a):br K O' H v d:=gZ (λ_ _ h=>h) (λ_ _ h n=>⟨h,λz=>n (s _ z)⟩) (λ_ _ _ h=>h) h
def au.weak(h:au K O H vs ds)(s:∀a,O' a->O a):au K O' H vs ds:=fC (λ_ _ h=>h) (λ_ _ h n=>⟨h,λz=>n (s _ z)⟩) (λ_ _ _ h=>h) h
def vS(ha:H a=some u)(hu:sv u)(h:cT K H b vs):cT K (L2.upd H a o) b vs:=by
 have h':H b=some (.tup vs):=h
 show L2.upd H a o b=some (.tup vs)
 rw[ak (f7 h' ha (by intro z;rw[<-z]at hu;exact hu))]
 exact h'
def vT(ha:H a=some u)(hu:sv u)(h:H b=some (.dH q w)):L2.upd H a o b=some (.dH q w):=by
 rw[ak (f7 h ha (by intro z;rw[<-z]at hu;exact hu))]
 exact h
def vU(uE:b≠a)(h:Rd H b (.lst vs)):Rd (L2.upd H a o) b (.lst vs):=by
 rcases h with h|⟨u,h⟩
 .exact .inl (by rw[ak uE];exact h)
 .exact .inr ⟨u,by rw[ak uE];exact h⟩
theorem br.upd(h:br K O H v d)(ho:O a)(ha:H a=some u)(hu:sv u):br K O (L2.upd H a o) v d:=
 gZ (λ_ _ h=>vS ha hu h) (λb _ h n=>⟨vU (λz=>n (z▸ho)) h,n⟩) (λ_ _ _ h=>vT ha hu h) h
theorem au.upd(h:au K O H vs ds)(ho:O a)(ha:H a=some u)(hu:sv u):au K O (L2.upd H a o) vs ds:=
 fC (λ_ _ h=>vS ha hu h) (λb _ h n=>⟨vU (λz=>n (z▸ho)) h,n⟩) (λ_ _ _ h=>vT ha hu h) h
def lN(hp:H p=none):¬Rd H p u:=λh=>by
 rcases h with h|⟨o,h⟩
 .rw[hp]at h;cases h
 .rw[hp]at h;cases h
def au.own(h:au K O H vs ds)(hp:H p=none):au K (λa=>O a\/a=p) H vs ds:=
 fC (λ_ _ h=>h) (λb us h n=>⟨h,λz=>z.elim n λe=>lN hp (e▸h)⟩) (λ_ _ _ h=>h) h
def br.own(h:br K O H v d)(hp:H p=none):br K (λa=>O a\/a=p) H v d:=
 gZ (λ_ _ h=>h) (λb us h n=>⟨h,λz=>z.elim n λe=>lN hp (e▸h)⟩) (λ_ _ _ h=>h) h
def xX(h:br K O H v d):aC d=true->br K O' H v d:=
 br.rec (motive_1:=λv d _=>aC d=true->br K O' H v d) (motive_2:=λvs ds _=>aR ds=true->au K O' H vs ds) (λ_=> .dj) (λb _=> .bl b) (λi _=> .int i) (λi _=> .str i)
  (λh _ ih n=> .tup h (ih (by simpa[aC]using n))) (λ_ _ _ _ n=>absurd n (by simp[aC])) (λ_ _ _ n=>absurd n (by simp[aC])) (λ_ _ _ _ _ n=>absurd n (by simp[aC])) (λ_=> .nil)
  (λ_ _ i1 i2 n=>by
   simp only[aR,W7]at n
   exact .cons (i1 n.1) (i2 n.2)) h
theorem au.length:∀{vs:List V}{ds:List D},au K O H vs ds->vs.length=ds.length
 |_,_,.nil =>rfl
 |_,_,.cons _ t=>by rw[Xt,Xt,au.length t]
theorem au.get:∀{vs:List V}{ds:List D}{i:Nat}{d:D},au K O H vs ds->ds[i]?=some d->∃v,vs[i]?=some v/\br K O H v d
 |_,_,_,_,.nil,e=>by simp at e
 |_,_,0,_,.cons r _,e=>by simp at e;subst e;exact⟨_,rfl,r⟩
 |_,_,i+1,d,.cons _ t,e=>by
  exact ab (au.get (i:=i) (d:=d) t (by simpa using e)) λv h1 h2=>⟨v,by simpa using h1,h2⟩
theorem au.append:∀{xs ys:List V}{us ws:List D},au K O H xs us->au K O H ys ws->au K O H (xs++ys) (us++ws)
 |_,_,_,_,.nil,s=>s
 |_,_,_,_,.cons r t,s=> .cons r (au.append t s)
theorem au.take:∀{xs:List V}{us:List D} (n:Nat),au K O H xs us->au K O H (xs.take n) (us.take n)
 |_,_,0,_=> .nil
 |_,_,_+1,.nil => .nil
 |_,_,n+1,.cons r t=> .cons r (au.take n t)
theorem au.drop:∀{xs:List V}{us:List D} (n:Nat),au K O H xs us->au K O H (xs.drop n) (us.drop n)
 |_,_,0,r=>r
 |_,_,_+1,.nil => .nil
 |_,_,n+1,.cons _ t=>au.drop n t
theorem au.set(r:br K O H x u):∀{xs:List V}{us:List D} (i:Nat),au K O H xs us->au K O H (xs.set i x) (us.set i u)
 |_,_,_,.nil => .nil
 |_,_,0,.cons _ t=> .cons r t
 |_,_,i+1,.cons q t=> .cons q (au.set r i t)
def br.int_inv(h:br K O H v (.int i)):v= .int i:=by cases h;rfl
def br.uH(h:br K O H v (.bl i)):v= .bl i:=by cases h;rfl
def br.jG(h:br K O H v (.tup ds)):∃a vs,v= .ref a/\cT K H a vs/\au K O H vs ds:=by
 cases h with
 |tup h1 h2=>exact⟨_,_,rfl,h1,h2⟩
def br.lst_inv(h:br K O H v (.lst ds)):∃a vs,v= .ref a/\dI K H a vs/\au K O H vs ds:=by
 cases h with
 |lst h1 _ h2=>exact⟨_,_,rfl,.inl h1,h2⟩
 |mod h1 h2=>exact⟨_,_,rfl,.inr h1,h2⟩
theorem dN:∀(ns:List Int),au K O H (ns.map V.int) (ns.map D.int)
 |[]=> .nil
 |n::ns=> .cons (.int n) (dN ns)
def bR(K:PySem.W.Frag)(O:Addr->Prop)(b:Bool)(H:Hp)(v:V)(d:D):Prop:=
 br K O H v d\/(b=true/\∃a vs ds,v= .ref a/\d= .lst ds/\H a=some (.lst vs)/\au K O H vs ds)
variable {b:Bool}{v:V}{d:D}
theorem bR.mono(h:bR K O b H v d)(s:af H H'):bR K O b H' v d:=by
 rcases h with h|⟨e,a,vs,ds,h1,h2,h3,h4⟩
 .exact .inl (h.mono s)
 .exact .inr ⟨e,a,vs,ds,h1,h2,s _ _ h3,h4.mono s⟩
def bR.own(h:bR K O false H v d):br K O H v d:=h.elim id λz=>absurd z.1 Xa
theorem bR.int(h:bR K O b H v (.int i)):v= .int i:=by
 rcases h with h|⟨_,_,_,_,_,h,_⟩
 .exact h.int_inv
 .cases h
theorem bR.bl(h:bR K O b H v (.bl i)):v= .bl i:=by
 rcases h with h|⟨_,_,_,_,_,h,_⟩
 .exact h.uH
 .cases h
theorem bR.tup{ds:List D}(h:bR K O b H v (.tup ds)):∃a vs,v= .ref a/\cT K H a vs/\au K O H vs ds:=by
 rcases h with h|⟨_,_,_,_,_,h,_⟩
 .exact h.jG
 .cases h
theorem bR.lst{ds:List D}(h:bR K O b H v (.lst ds)):∃a vs,v= .ref a/\dI K H a vs/\au K O H vs ds:=by
 rcases h with h|⟨_,a,vs,Mu,h1,h2,h3,h4⟩
 .exact h.lst_inv
 .cases h2
  exact⟨a,vs,h1,dI.of h3,h4⟩
theorem bR.seq(h:bR K O b H v d)(e:Py.seq d=some xs):∃a vs,v= .ref a/\(dI K H a vs\/cT K H a vs)/\au K O H vs xs:=by
 refine ao λnO=>?_
 cases d with
 |lst ds=>
  refine nO ?_
  cases e;obtain⟨a,vs,h1,h2,h3⟩:=h.lst;exact⟨a,vs,h1,.inl h2,h3⟩
 |tup ds=>
  refine nO ?_
  cases e;obtain⟨a,vs,h1,h2,h3⟩:=h.tup;exact⟨a,vs,h1,.inr h2,h3⟩
 |_=>cases e
def bR.any(h:bR K O b H v d):br K (λ_=>False) H v d:=by
 rcases h with h|⟨_,a,vs,Mu,h1,h2,h3,h4⟩
 .exact h.weak λ_ z=>z.elim
 .subst h1 h2
  exact .lst (.inl h3) id (h4.weak λ_ z=>z.elim)
end
def eC(K:PySem.W.Frag)(O:Addr->Prop)(H:Hp)(a:Addr)(d:D):Prop:=
 (∃vs ds,d= .lst ds/\H a=some (.lst vs)/\au K O H vs ds)\/
 (∃t ks vs ds,d= .bz t ks ds/\H a=some (gr t ks vs)/\ks.length=vs.length/\mH t ks/\au K O H vs ds)\/
 d=ur/\∃u,H a=some u/\sv u
section
variable {K:PySem.W.Frag}{O O':Addr->Prop}{H H':Hp}{a:Addr}{d:D}
theorem eC.mono(h:eC K O H a d)(s:af H H'):eC K O H' a d:=by
 rcases h with⟨vs,ds,e1,e2,e3⟩|⟨t,ks,vs,ds,e1,e2,e3,e4,e5⟩|⟨e1,u',e2,e3⟩
 .exact .inl ⟨vs,ds,e1,s _ _ e2,e3.mono s⟩
 .exact .inr (.inl ⟨t,ks,vs,ds,e1,s _ _ e2,e3,e4,e5.mono s⟩)
 .exact .inr (.inr ⟨e1,u',s _ _ e2,e3⟩)
theorem eC.weak(h:eC K O H a d)(s:∀a,O' a->O a):eC K O' H a d:=by
 rcases h with⟨vs,ds,e1,e2,e3⟩|⟨t,ks,vs,ds,e1,e2,e3,e4,e5⟩|⟨e1,u',e2,e3⟩
 .exact .inl ⟨vs,ds,e1,e2,e3.weak s⟩
 .exact .inr (.inl ⟨t,ks,vs,ds,e1,e2,e3,e4,e5.weak s⟩)
 .exact .inr (.inr ⟨e1,u',e2,e3⟩)
theorem eC.own(h:eC K O H a d)(hp:H p=none):eC K (λa=>O a\/a=p) H a d:=by
 rcases h with⟨vs,ds,e1,e2,e3⟩|⟨t,ks,vs,ds,e1,e2,e3,e4,e5⟩|⟨e1,u',e2,e3⟩
 .exact .inl ⟨vs,ds,e1,e2,e3.own hp⟩
 .exact .inr (.inl ⟨t,ks,vs,ds,e1,e2,e3,e4,e5.own hp⟩)
 .exact .inr (.inr ⟨e1,u',e2,e3⟩)
theorem eC.upd(h:eC K O H a d)(hb:a≠b)(ho:O b)(SU:H b=some u)(hu:sv u):eC K O (L2.upd H b o) a d:=by
 rcases h with⟨vs,ds,e1,e2,e3⟩|⟨t,ks,vs,ds,e1,e2,e3,e4,e5⟩|⟨e1,u',e2,e3⟩
 .exact .inl ⟨vs,ds,e1,by rw[ak hb];exact e2,e3.upd ho SU hu⟩
 .exact .inr (.inl ⟨t,ks,vs,ds,e1,by rw[ak hb];exact e2,e3,e4,e5.upd ho SU hu⟩)
 .exact .inr (.inr ⟨e1,u',by rw[ak hb];exact e2,e3⟩)
theorem eC.lst{ds:List D}(h:eC K O H a (.lst ds)):∃vs,H a=some (.lst vs)/\au K O H vs ds:=by
 rcases h with⟨vs,ds,e1,e2,e3⟩|⟨t,ks,vs,ds,e1,_⟩|⟨e1,_⟩
 .cases e1;exact⟨vs,e2,e3⟩
 .cases e1
 .cases e1
theorem eC.bz(h:eC K O H a (.bz t ks ds))(h2:t≠2):∃vs,H a=some (gr t ks vs)/\ks.length=vs.length/\mH t ks/\au K O H vs ds:=by
 rcases h with⟨vs,ds,e1,e2,e3⟩|⟨t,ks,vs,ds,e1,e2,e3,e4,e5⟩|⟨e1,u',e2,e3⟩
 .cases e1
 .cases e1;exact⟨vs,e2,e3,e4,e5⟩
 .cases e1;exact absurd rfl h2
end
structure EX(K:PySem.W.Frag)(O:Addr->Prop)(σ:St)(H:Hp)(ρ:Env):Prop where
 live:∀a,O a->∃u,H a=some u/\sv u
 kU:∀(i:Nat) (o:Bool) (d:D),ρ[i]?=some (some (o,d))->∃v,σ[i]?=some (some v)/\
  if o=true then∃a,v= .ref a/\O a/\eC K O H a d else br K O H v d
theorem EX.mono{K:PySem.W.Frag}{O:Addr->Prop}{σ:St}{H H':Hp}{ρ:Env}(h:EX K O σ H ρ)(s:af H H'):EX K O σ H' ρ:=by
 refine⟨λa ha=>let ⟨u,e,q⟩:=h.live a ha;⟨u,s _ _ e,q⟩,λi o d e=>?_⟩
 refine ab (h.kU i o d e) λv h1 h2=>⟨v,h1,?_⟩
 cases o with
 |true=>
  exact bF h2 λa e1 e2 c=>⟨a,e1,e2,c.mono s⟩
 |false=>exact br.mono h2 s
def EX.free{K:PySem.W.Frag}{O:Addr->Prop}{σ:St}{H H1:Hp}{ρ:Env}(h:EX K O σ H ρ)(s:af H H1){p:Addr}(hp:H1 p=none):¬O p:=λz=>by
 refine ab (h.live p z) λvs e _=>?_
 rw[s _ _ e]at hp;cases hp
def bind_some{α β:Type}{o:Option α}{f:α->Option β}{y:β}(h:o.bind f=some y):∃x,o=some x/\f x=some y:=by
 cases o with
 |none=>cases h
 |some x=>exact⟨x,rfl,h⟩
def map_some{α β:Type}{o:Option α}{f:α->β}{y:β}(h:o.map f=some y):∃x,o=some x/\f x=y:=by
 cases o with
 |none=>cases h
 |some x=>exact⟨x,rfl,Xw h⟩
def tV(K:PySem.W.Frag)(b:Bool)(f:Env->Option D):TE:=λσ H Q=>∃O ρ d,EX K O σ H ρ/\f ρ=some d/\∀v H',af H H'->bR K O b H' v d->Q v H'
def tF(K:PySem.W.Frag)(f:Env->Option (List D)):TE:=λσ H Q=>∃O ρ ds,EX K O σ H ρ/\f ρ=some ds/\∀p vs H1,af H H1->H1 p=none->au K O H1 vs ds->Q (.ref p) (L2.upd H1 p (.lst vs))
def tB(K:PySem.W.Frag)(f:Env->Option Bool):TT:=λσ H Q=>∃O ρ k,EX K O σ H ρ/\f ρ=some k/\∀H',af H H'->Q k H'
def uI(K:PySem.W.Frag)(b:Bool)(f:Env->Option (List D)):TA:=λσ H Q=>∃O ρ ds,EX K O σ H ρ/\f ρ=some ds/\∀vs H',af H H'->Paired (bR K O b H') vs ds->Q vs H'
theorem af.upd(h:H p=none):af H (L2.upd H p o):=λb u e=>by rw[ak (bY e h)];exact e
section
variable {X:Cx}{a b c e:Expr}{pos:Pos}{m:Bool}{es:List Expr}
def _root_.L2.PE.weak(h:PE X e t)(w:∀σ H Q,t' σ H Q->t σ H Q):PE X e t':=λaa s σ H Q I q=>h aa s σ H Q I (w σ H Q q)
def _root_.L2.PT.weak(h:PT X e t)(w:∀σ H Q,t' σ H Q->t σ H Q):PT X e t':=λaa s σ H Q I q=>h aa s σ H Q I (w σ H Q q)
def Dp{f:Env->Option D}{f':Env->Option (List D)}(h:PE X e (tF X.K f'))(hf:∀ρ d,f ρ=some d->∃ds,f' ρ=some ds/\d= .lst ds):PE X e (tV X.K m f):=h.weak λσ H Q zz=>by
 refine cL zz λO ρ d hx hd k=>ab (hf ρ d hd) λds e1 ah=>?_
 subst ah
 refine⟨O,ρ,ds,hx,e1,λp vs H1 s1 hp r=>k _ _ (s1.trans (af.upd hp)) (.inl (.lst (.inl ag) (hx.free s1 hp) (r.mono (af.upd hp))))⟩
def v_var(hN:X.N[i]?=some x)(hv:xh X.env.scope x)(hd:(x==("__debug__":Str))=false)(yO:(x==("__classdict__":Str))=false):PE X (.Name x pos) (tV X.K m λρ=>rd m ρ i):=
 (bL hN hv hd yO).weak λσ H Q zz=>by
  refine cL zz λO ρ d hx hd k=>?_
  have hd:rd m ρ i=some d:=hd
  unfold rd at hd
  split at hd
  .rename_i o d' e
   refine ab (hx.kU i o d' e) λv h1 h2=>⟨v,h1,k v H (af.refl _) ?_⟩
   cases o with
   |true=>
    cases m with
    |true=>
     refine bF h2 λa e1 e2 c=>?_
     rcases c with⟨vs,ds,f1,f2,f3⟩|⟨t,ks,vs,ds,f1,_⟩|⟨f1,_⟩
     .subst f1
      cases hd
      exact .inr ⟨rfl,a,vs,ds,e1,rfl,f2,f3⟩
     .subst f1
      cases hd
     .subst f1
      cases hd
    |false=>cases hd
   |false=>
    cases hd
    exact .inl h2
  .cases hd
def Mv{d:D}{v:V}{t:TE}(h:PE X e (tC v))(r:∀K O H,br K O H v d):PE X e (tV X.K m λ_=>some d):=h.weak λσ H Q zz=>by
 refine cL zz λO ρ d' hx hd k=>?_
 cases hd
 exact k v H (af.refl _) (.inl (r _ _ _))
def sA{f:Value->Value->Sem Value}{fa fb:Env->Option D}{g:D->D->Option D}{r:R2}(ha:PE X a (tV X.K true fa))(hb:PE X b (tV X.K true fb))(mk:∀ta tb,PE X a ta->PE X b tb->PE X e (E9 r ta tb))
  (hr:∀O σ (ρ:Env) H x y d v w Q,EX X.K O σ H ρ->bR X.K O true H v x->bR X.K O true H w y->g x y=some d->(∀u H',af H H'->bR X.K O m H' u d->Q u H')->r v w H Q):
  PE X e (tV X.K m λρ=>(fa ρ).bind λx=>(fb ρ).bind λy=>g x y):=(mk _ _ ha hb).weak λσ H Q zz=>by
 exact cL zz λO ρ d hx hd k=>ab (bind_some hd) λx e1 hd=>ab (bind_some hd) λy e2 hd=>⟨O,ρ,x,hx,e1,λv H1 s1 r1=>⟨O,ρ,y,hx.mono s1,e2,λw H2 s2 r2=>hr O σ ρ H2 x y d v w Q (hx.mono (s1.trans s2)) (r1.mono s2) r2 hd λu H' s' r'=>k u H' ((s1.trans s2).trans s') r'⟩⟩
def _root_.L2.PE.Vk(h:∀ρ,f ρ=none):PE X e (tV X.K m f):=λaa s σ H Q I ⟨O,ρ,d,hx,hd,k⟩=>by rw[h]at hd;cases hd
def FJ(K:PySem.W.Frag):R2:=λx y H Q=>∃l b xs zs,x= .ref l/\y= .ref b/\dI K H l xs/\dI K H b zs/\xs.length+zs.length<=sizeLine/\∀p,H p=none->Q (.ref p) (L2.upd H p (.lst (xs++zs)))
def Dq:ik X (binaryOp .Add) (FJ X.K):=by
 intro aa s σ H x y v u Q I rx ry h
 refine E3 h λl b xs zs ah aK hl hb hz q=>?_
 try clear h
 subst ah
 subst aK
 cases rx
 cases ry
 refine gq (I.Fq hl) λits n r e1 e z=>gq (I.Fq hb) λiN n2 r2 ab e2 z2=>PySem.P.add_list e e2 ?_ (by rw[Xh,Xh];lia)
 have ea:its.toArray++iN.toArray=(its++iN).toArray :=by simp
 rw[ea]
 exact⟨.ref _,_,I.K_ (t':=s.toks) (r.append r2) (by rw[Xk];lia),rfl,q _ I.fresh⟩
noncomputable def FK(K:PySem.W.Frag):R2:=λx y H Q=>∃a b ys,x= .ref a/\y= .ref b/\cT K H a []/\cT K H b ys/\Q (.ref b) H
def GX(K:PySem.W.Frag):R2:=λx y H Q=>E_ (λi j=> .int (i+j)) x y H Q\/Fj K x y H Q\/FJ K x y H Q\/FK K x y H Q
def oO:ik X (binaryOp .Add) (GX X.K):=GP.or (ik.or Cv (ik.or Dq (r':=FK X.K) CM))
def cz:(sizeLine:Nat)=bj:=by rw[sizeLine_eq];rfl
def v_add(ha:PE X a (tV X.K true fa))(hb:PE X b (tV X.K true fb)):PE X (.BinOp a .Add b pos) (tV X.K m λρ=>(fa ρ).bind λx=>(fb ρ).bind λy=>bin .Add x y):=
 sA (f:=binaryOp .Add) (r:=GX X.K) ha hb (λ_ _ h1 h2=>ot oO h1 h2) λO σ ρ H x y d v w Q hx r1 r2 hd k=>by
  cases x with
  |int i=>
   cases y with
   |int j=>cases hd;exact .inl ⟨i,j,r1.int,r2.int,k _ _ (af.refl _) (.inl (.int _))⟩
   |_=>cases hd
  |tup us=>
   cases y with
   |tup ws=>
    simp only[bin]at hd
    split at hd
    .rename_i hz
     cases hd
     refine a_ r1.tup λa1 vs ah q1 p1=>?_
     subst ah
     refine a_ r2.tup λa2 zs aK q2 p2=>?_
     subst aK
     have l1:=p1.length
     have l2:=p2.length
     by_cases gx:vs=[]
     .subst gx
      cases p1
      exact .inr (.inr (.inr ⟨a1,a2,zs,rfl,rfl,q1,q2,k _ _ (af.refl _) (.inl (.tup q2 p2))⟩))
     .refine .inr (.inl ⟨a1,a2,vs,zs,rfl,rfl,q1,q2,gx,by rw[cz,l1,l2];exact hz,λez=>?_,λ_ p hp=>?_⟩)
      .subst ez
       cases p2
       rw[X7]at k
       exact k _ _ (af.refl _) (.inl (.tup q1 p1))
      .exact k _ _ (af.upd hp) (.inl (.tup (cT.of ag) ((p1.append p2).mono (af.upd hp))))
    .cases hd
   |_=>cases hd
  |lst us=>
   cases y with
   |lst ws=>
    simp only[bin]at hd
    split at hd
    .rename_i hz
     cases hd
     refine a_ r1.lst λa1 vs cQ q1 p1=>?_
     subst cQ
     refine a_ r2.lst λa2 zs n8 q2 p2=>?_
     subst n8
     have l1:=p1.length
     have l2:=p2.length
     refine .inr (.inr (.inl ⟨a1,a2,vs,zs,rfl,rfl,q1,q2,by rw[cz,l1,l2];exact hz,λp hp=>?_⟩))
     exact k _ _ (af.upd hp) (.inl (.lst (.inl ag) (hx.free (af.refl _) hp) ((p1.append p2).mono (af.upd hp))))
    .cases hd
   |_=>cases hd
  |_=>cases hd
def Mw(ha:PE X a (tV X.K true fa))(hb:PE X b (tV X.K true fb)):PE X (.BinOp a .Add b pos) (tF X.K λρ=>((fa ρ).bind λx=>(fb ρ).bind λy=>bin .Add x y).bind λd=>match d with| .lst ds=>some ds|_=>none):=
 (ot oO ha hb).weak λσ H Q zz=>by
  refine cL zz λO ρ ds hx hd k=>ab (bind_some hd) λz hd Mb=>ab (bind_some hd) λx e1 hd=>ab (bind_some hd) λy e2 hd=>⟨O,ρ,x,hx,e1,λv H1 s1 r1=>⟨O,ρ,y,hx.mono s1,e2,λw H2 s2 r2=>?_⟩⟩
  have n9:=r1.mono s2
  cases x with
  |lst us=>
   cases y with
   |lst ws=>
    simp only[bin]at hd
    split at hd
    .rename_i hz
     cases hd
     cases Mb
     refine a_ n9.lst λa1 vs ah q1 p1=>?_
     subst ah
     refine a_ r2.lst λa2 zs aK q2 p2=>?_
     subst aK
     have l1:=p1.length
     have l2:=p2.length
     exact .inr (.inr (.inl ⟨a1,a2,vs,zs,rfl,rfl,q1,q2,by rw[cz,l1,l2];exact hz,λp hp=>k p _ H2 (s1.trans s2) hp (p1.append p2)⟩))
    .cases hd
   |_=>cases hd
  |int i=>
   cases y with
   |int j=>cases hd;cases Mb
   |_=>cases hd
  |tup i=>
   cases y with
   |tup j=>
    simp only[bin]at hd
    split at hd<;>cases hd<;>cases Mb
   |_=>cases hd
  |_=>cases hd
def Dr(h:c_ i j=true):Ci i j:=by
 unfold c_ at h
 simp only[Zm,W7,decide_eq_true_eq]at h
 exact h
def FL(ha:PE X a (tV X.K true fa))(hb:PE X b (tV X.K true fb)):PE X (.BinOp a o b pos) (tV X.K m λρ=>(fa ρ).bind λx=>(fb ρ).bind λy=>bin o x y):=by
 have no:∀(f:Env->Option D) (g:Env->Option D),(∀ρ,((f ρ).bind λ_=>(g ρ).bind λ_=>(none:Option D))=none):=λf g ρ=>by
  cases f ρ<;>simp
 cases o with
 |Add=>exact v_add ha hb
 |Sub=>
  exact sA (f:=binaryOp .Sub) ha hb (λ_ _ h1 h2=>ot GQ h1 h2) λO σ ρ H x y d v w Q hx r1 r2 hd k=>by
   cases x with
   |int i=>
    cases y with
    |int j=>cases hd;exact⟨i,j,r1.int,r2.int,k _ _ (af.refl _) (.inl (.int _))⟩
    |_=>cases hd
   |_=>cases hd
 |Mult=>
  exact sA (f:=binaryOp .Mult) ha hb (λ_ _ h1 h2=>ot (ik.or GR CP) h1 h2) λO σ ρ H x y d v w Q hx r1 r2 hd k=>by
   cases x with
   |int i=>
    cases y with
    |int j=>
     simp only[bin]at hd
     split at hd
     .rename_i hz
      cases hd
      exact .inl ⟨i,j,r1.int,r2.int,Dr hz,k _ _ (af.refl _) (.inl (.int _))⟩
     .cases hd
    |_=>cases hd
   |tup us=>
    cases y with
    |int j=>
     simp only[bin]at hd
     split at hd
     .rename_i hz
      cases hd
      obtain⟨rfl,h0,h1⟩:=hz
      refine a_ r1.tup λa1 vs zr q1 p1=>?_
      subst zr
      have l1:=p1.length
      refine .inr ⟨a1,vs,2,rfl,r2.int,q1,by lia,by rw[cz,l1,show bj=16777216 from rfl];lia,λc=>?_,λ_ p hp=>k _ _ (af.upd hp) (.inl (.tup (cT.of ag) ?_))⟩
      .rcases c with c|c
       .rw[c]at l1
        exact absurd h0 (by rw[<-l1];exact X2 0)
       .cases c
      .have e:(List.replicate 2 vs).flatten =vs++vs:=by simp[List.replicate]
       rw[e]
       exact(p1.append p1).mono (af.upd hp)
     .cases hd
    |_=>cases hd
   |_=>cases hd
 |FloorDiv=>
  exact sA (f:=binaryOp .FloorDiv) ha hb (λ_ _ h1 h2=>ot Cj h1 h2) λO σ ρ H x y d v w Q hx r1 r2 hd k=>by
   cases x with
   |int i=>
    cases y with
    |int j=>
     simp only[bin]at hd
     split at hd
     .rename_i hz
      cases hd
      exact⟨i,j,r1.int,r2.int,hz,k _ _ (af.refl _) (.inl (.int _))⟩
     .cases hd
    |_=>cases hd
   |_=>cases hd
 |Mod=>
  exact sA (f:=binaryOp .Mod) ha hb (λ_ _ h1 h2=>ot GS h1 h2) λO σ ρ H x y d v w Q hx r1 r2 hd k=>by
   cases x with
   |int i=>
    cases y with
    |int j=>
     simp only[bin]at hd
     split at hd
     .rename_i hz
      cases hd
      exact⟨i,j,r1.int,r2.int,hz,k _ _ (af.refl _) (.inl (.int _))⟩
     .cases hd
    |_=>cases hd
   |_=>cases hd
 |_=>exact PE.Vk λρ=>no fa fb ρ
def sC(h:yE d=some i):d= .int i:=by cases d<;>first|(cases h;rfl)|cases h
def fD(h:eX d=some i):d= .bl i:=by cases d<;>first|(cases h;rfl)|cases h
mutual
noncomputable def cH:D->PyData
 | .dj => .none
 | .bl b=> .bool b
 | .int i=> .int i
 | .tup xs=> .tuple (dW xs)
 | .lst xs=> .list (dW xs)
 | .bz _ _ _=> .none
 | .str x=> .str x
noncomputable def dW:List D->List PyData
 |[]=>[]
 |x::xs=>cH x::dW xs
end
mutual
theorem mI:∀x y:D,PyData.eqv (cH x) (cH y)=gT x y
 | .dj,y=>by cases y<;>simp[cH,PyData.eqv,gT]
 | .bl b,y=>by cases y<;>simp[cH,PyData.eqv,gT]
 | .int b,y=>by cases y<;>simp[cH,PyData.eqv,gT]
 | .tup xs,y=>by
  cases y with
  |tup ys=>simp only[cH,PyData.eqv,gT];exact kl xs ys
  |_=>simp[cH,PyData.eqv,gT]
 | .lst xs,y=>by
  cases y with
  |lst ys=>simp only[cH,PyData.eqv,gT];exact kl xs ys
  |_=>simp[cH,PyData.eqv,gT]
 | .bz _ _ _,y=>by cases y<;>simp[cH,PyData.eqv,gT]
 | .str b,y=>by
  cases y with
  |str z=>simp only[cH,PyData.eqv,gT];rw[Bool.beq_eq_decide_eq]
  |_=>simp[cH,PyData.eqv,gT]
theorem kl:∀xs ys:List D,PyData.eqvAll (dW xs) (dW ys)=yD xs ys
 |[],ys=>by cases ys<;>simp[dW,PyData.eqvAll,yD]
 |x::xs,ys=>by
  cases ys with
  |nil=>simp[dW,PyData.eqvAll,yD]
  |cons y ys=>simp only[dW,PyData.eqvAll,yD];rw[mI x y,kl xs ys]
end
mutual
theorem mJ:∀(x:D) (n:Nat),cG x n=true->(cH x).canLay0 =true/\(cH x).depth <=n
 | .dj,n,h=>by simp[cH,PyData.canLay0,PyData.depth]
 | .bl b,n,h=>by simp[cH,PyData.canLay0,PyData.depth]
 | .int i,n,h=>by simp[cH,PyData.canLay0,PyData.depth]
 | .tup xs,0,h=>by simp[cG]at h
 | .lst xs,0,h=>by simp[cG]at h
 | .bz _ _ _,n,h=>by simp[cG]at h
 | .str x,n,h=>by
  simp only[cH,PyData.canLay0,PyData.depth,XQ,and_true]
  simp only[cG]at h
  exact h
 | .tup xs,n+1,h=>by
  simp only[cG]at h
  obtain⟨h1,h2⟩:=ql xs n h
  simp only[cH,PyData.canLay0,PyData.depth]
  exact⟨h1,aba h2⟩
 | .lst xs,n+1,h=>by
  simp only[cG]at h
  obtain⟨h1,h2⟩:=ql xs n h
  simp only[cH,PyData.canLay0,PyData.depth]
  exact⟨h1,aba h2⟩
theorem ql:∀(xs:List D) (n:Nat),gf xs n=true->PyData.canLayAll0 (dW xs)=true/\PyData.depthAll (dW xs)<=n
 |[],n,h=>by simp[dW,PyData.canLayAll0,PyData.depthAll]
 |x::xs,n,h=>by
  simp only[gf,W7]at h
  obtain⟨h1,h2⟩:=mJ x n h.1
  obtain⟨h3,h4⟩:=ql xs n h.2
  simp only[dW,PyData.canLayAll0,PyData.depthAll,h1,h3,abN,true_and]
  exact Nat.max_le.mpr ⟨h2,h4⟩
end
def jH(I:Inv X aa σ H s)(h:br X.K O H v d):∀n,cG d n=true->∀u,RelV v u->∃as,Reads s.heap u (cH d) as:=
 br.rec (motive_1:=λv d _=>∀n,cG d n=true->∀u,RelV v u->∃as,Reads s.heap u (cH d) as) (motive_2:=λvs ds _=>∀n,gf ds n=true->∀us,aA vs us->∃as,ReadsAll s.heap us (dW ds) as)
  (λ_ _ u r=>by cases r;exact⟨_,by rw[cH];exact .none⟩) (λb _ _ u r=>by cases r;exact⟨_,by rw[cH];exact .bool b⟩) (λi _ _ u r=>by obtain⟨t,rfl⟩:=r;exact⟨_,by rw[cH];exact .int i t⟩)
  (λx _ _ u r=>by obtain⟨t,rfl⟩:=r;exact⟨_,by rw[cH];exact .str x t⟩)
  (λ{a vs ds} h _ ih n hl u r=>by
   cases r
   cases n with
   |zero=>simp[cG]at hl
   |succ n=>
    simp only[cG]at hl
    refine ao λnO=>?_
    obtain⟨its,rv,⟨o,ho,hc,n',hd⟩,hz⟩:=I.tuple h
    obtain⟨as,ra⟩:=ih n hl its rv
    exact nO<|⟨as,by rw[cH];exact .tuple ho hc hd (by simpa using ra)⟩)
  (λ{a vs ds} h _ _ ih n hl u r=>by
   cases r
   cases n with
   |zero=>simp[cG]at hl
   |succ n=>
    simp only[cG]at hl
    refine ao λnO=>?_
    obtain⟨its,rv,⟨o,n',ho,hc,_,hd⟩,hz⟩:=I.list (.inl h)
    obtain⟨as,ra⟩:=ih n hl its rv
    exact nO<|⟨_,by rw[cH];exact .list ho hc hd (by simpa using ra)⟩)
  (λ{a vs ds} h _ ih n hl u r=>by
   cases r
   cases n with
   |zero=>simp[cG]at hl
   |succ n=>
    simp only[cG]at hl
    refine ao λnO=>?_
    obtain⟨its,rv,⟨o,n',ho,hc,_,hd⟩,hz⟩:=I.list (.inr h)
    obtain⟨as,ra⟩:=ih n hl its rv
    exact nO<|⟨_,by rw[cH];exact .list ho hc hd (by simpa using ra)⟩)
  (λ_ _ _ _ _ n hl _ _=>absurd hl (by simp[cG]))
  (λ_ _ us r=>by cases r;exact⟨[],by rw[dW];exact .nil⟩)
  (λ{v d vs ds} _ _ i1 i2 n hl us r=>by
   simp only[gf,W7]at hl
   cases r with
   |cons r1 r2=>
    obtain⟨a1,q1⟩:=i1 n hl.1 _ r1
    obtain⟨a2,q2⟩:=i2 n hl.2 _ r2
    exact⟨a1++a2,by rw[dW];exact .cons q1 q2⟩) h
def Mx(K:PySem.W.Frag)(neg:Bool):R2:=λx y H Q=>∃dx dy,br K (λ_=>False) H x dx/\br K (λ_=>False) H y dy/\cG dx 60=true/\cG dy 60=true/\Q (.bl (if neg then !gT dx dy else gT dx dy)) H
def HR(hu:X.A.units+64<cLine):ik X (compareOp .Eq) (Mx X.K false):=by
 intro aa s σ H x y v u Q I rx ry zz
 refine kP zz λdx dy r1 r2 l1 l2 q=>?_
 obtain⟨a1,q1⟩:=jH I r1 60 l1 v rx
 obtain⟨a2,q2⟩:=jH I r2 60 l2 u ry
 have b1:=mJ dx 60 l1
 have b2:=mJ dy 60 l2
 exact SeqAt.compareEq_reads q1 q2 b1.1 b2.1 (by lia) ⟨.bl _,H,I,rfl,by rw[mI];exact q⟩
def HS(hu:X.A.units+64<cLine):ik X (compareOp .NotEq) (Mx X.K true):=by
 intro aa s σ H x y v u Q I rx ry zz
 refine kP zz λdx dy r1 r2 l1 l2 q=>?_
 obtain⟨a1,q1⟩:=jH I r1 60 l1 v rx
 obtain⟨a2,q2⟩:=jH I r2 60 l2 u ry
 have b1:=mJ dx 60 l1
 have b2:=mJ dy 60 l2
 exact SeqAt.compareNe_reads q1 q2 b1.1 b2.1 (by lia) ⟨.bl _,H,I,rfl,by rw[mI];exact q⟩
def km{op:CmpOp}(hu:X.A.units+64<cLine):∃r,ik X (compareOp op) r/\∀O σ (ρ:Env) H x y k v w Q,EX X.K O σ H ρ->bR X.K O true H v x->bR X.K O true H w y->cmp op x y=some k->(∀H',af H H'->Q (.bl k) H')->r v w H Q:=by
 cases op with
 |Eq=>
  refine⟨_,HR hu,λO σ ρ H x y k v w Q hx r1 r2 hd q=>?_⟩
  simp only[cmp]at hd
  split at hd
  .rename_i hl
   rw[W7]at hl
   cases hd
   exact⟨x,y,r1.any,r2.any,hl.1,hl.2,q _ (af.refl _)⟩
  .cases hd
 |NotEq=>
  refine⟨_,HS hu,λO σ ρ H x y k v w Q hx r1 r2 hd q=>?_⟩
  simp only[cmp]at hd
  split at hd
  .rename_i hl
   rw[W7]at hl
   cases hd
   exact⟨x,y,r1.any,r2.any,hl.1,hl.2,q _ (af.refl _)⟩
  .cases hd
 |Lt=>
  refine⟨_,KS,λO σ ρ H x y k v w Q hx r1 r2 hd q=>?_⟩
  cases x with
  |int i=>
   cases y with
   |int j=>cases hd;exact⟨i,j,r1.int,r2.int,q _ (af.refl _)⟩
   |_=>cases hd
  |_=>cases hd
 |LtE=>
  refine⟨_,KU,λO σ ρ H x y k v w Q hx r1 r2 hd q=>?_⟩
  cases x with
  |int i=>
   cases y with
   |int j=>cases hd;exact⟨i,j,r1.int,r2.int,q _ (af.refl _)⟩
   |_=>cases hd
  |_=>cases hd
 |Gt=>
  refine⟨_,KW,λO σ ρ H x y k v w Q hx r1 r2 hd q=>?_⟩
  cases x with
  |int i=>
   cases y with
   |int j=>cases hd;exact⟨i,j,r1.int,r2.int,q _ (af.refl _)⟩
   |_=>cases hd
  |_=>cases hd
 |_=>exact⟨λ_ _ _ _=>False,λ_ _ _ _ _ _ _ _ _ _ _ _ h=>h.elim,λ_ _ _ _ _ _ _ _ _ _ _ _ _ hd _=>by cases hd⟩
def My(hu:X.A.units+64<cLine)(ha:PE X a (tV X.K true fa))(hb:PE X b (tV X.K true fb))(hm:behindInMarks op b=false):
  PE X (.Compare a [op] [b] pos) (tV X.K m λρ=>(fa ρ).bind λx=>(fb ρ).bind λy=>(cmp op x y).map .bl):=by
 refine ab (km (op:=op) hu) λr ho hr=>(Ck ho ha hb hm).weak λσ H Q zz=>ao λnO=>cL zz λO ρ d hx hd k=>ab (bind_some hd) λx e1 hd=>ab (bind_some hd) λy e2 hd=>ab (map_some hd) λq e3 ah=>?_
 subst ah
 exact nO<|⟨O,ρ,x,hx,e1,λv H1 s1 r1=>⟨O,ρ,y,hx.mono s1,e2,λw H2 s2 r2=>hr O σ ρ H2 x y q v w Q (hx.mono (s1.trans s2)) (r1.mono s2) r2 e3 λH' s'=>k _ H' ((s1.trans s2).trans s') (.inl (.bl _))⟩⟩
def Mz(hu:X.A.units+64<cLine)(ha:PE X a (tV X.K true fa))(hb:PE X b (tV X.K true fb))(hm:behindInMarks op b=false):
  PT X (.Compare a [op] [b] pos) (tB X.K λρ=>((fa ρ).bind λx=>(fb ρ).bind λy=>(cmp op x y).map .bl).bind eX):=by
 refine ab (km (op:=op) hu) λr ho hr=>(Cm ho ha hb hm).weak λσ H Q zz=>ao λnO=>cL zz λO ρ d hx hd k=>ab (bind_some hd) λz hd hz=>ab (bind_some hd) λx e1 hd=>ab (bind_some hd) λy e2 hd=>ab (map_some hd) λq e3 ah=>?_
 subst ah
 have JZ:q=d:=Xw hz
 subst JZ
 exact nO<|⟨O,ρ,x,hx,e1,λv H1 s1 r1=>⟨O,ρ,y,hx.mono s1,e2,λw H2 s2 r2=>hr O σ ρ H2 x y q v w _ (hx.mono (s1.trans s2)) (r1.mono s2) r2 e3 λH' s'=>⟨q,rfl,k H' ((s1.trans s2).trans s')⟩⟩⟩
def Ds(hu:X.A.units+64<cLine)(ha:PE X a (tV X.K true fa))(hb:PE X b (tV X.K true fb))(hc:PE X c (tV X.K true fc))(hm:lastMarks [op,tT] [b,c]=false):
  PE X (.Compare a [op,tT] [b,c] pos) (tV X.K m λρ=>(fa ρ).bind λx=>(fb ρ).bind λy=>(cmp op x y).bind λk=>if k then(fc ρ).bind λz=>(cmp tT y z).map .bl else some (.bl false)):=by
 refine ao λnO=>ab (km (op:=op) hu) λr ho hr=>ab (km (op:=tT) hu) λr' tX Dt=>nO<|(yX ho tX ha hb hc hm).weak λσ H Q zz=>YF λnO=>cL zz λO ρ d hx hd k=>ab (bind_some hd) λx e1 hd=>ab (bind_some hd) λy e2 hd=>ab (bind_some hd) λq e3 hd=>nO ?_
 refine⟨O,ρ,x,hx,e1,λv H1 s1 r1=>⟨O,ρ,y,hx.mono s1,e2,λw H2 s2 r2=>hr O σ ρ H2 x y q v w _ (hx.mono (s1.trans s2)) (r1.mono s2) r2 e3 λH3 s3=>⟨q,rfl,?_⟩⟩⟩
 cases q with
 |false=>
  cases hd
  exact lu (k _ H3 ((s1.trans s2).trans s3) (.inl (.bl _)))
 |true=>
  refine ao λnO=>ab (bind_some hd) λz e4 hd=>ab (map_some hd) λq' e5 ah=>?_
  subst ah
  exact nO<|j7 ⟨O,ρ,z,hx.mono ((s1.trans s2).trans s3),e4,λu H4 s4 r4=>Dt O σ ρ H4 y z q' w u _ (hx.mono (((s1.trans s2).trans s3).trans s4)) (r2.mono (s3.trans s4)) r4 e5 λH5 s5=>k _ H5 ((((s1.trans s2).trans s3).trans s4).trans s5) (.inl (.bl _))⟩
def Du(hu:X.A.units+64<cLine)(ha:PE X a (tV X.K true fa))(hb:PE X b (tV X.K true fb))(hc:PE X c (tV X.K true fc))(hm:lastMarks [op,tT] [b,c]=false):
  PT X (.Compare a [op,tT] [b,c] pos) (tB X.K λρ=>((fa ρ).bind λx=>(fb ρ).bind λy=>(cmp op x y).bind λk=>if k then(fc ρ).bind λz=>(cmp tT y z).map .bl else some (.bl false)).bind eX):=by
 refine ao λnO=>ab (km (op:=op) hu) λr ho hr=>ab (km (op:=tT) hu) λr' tX Dt=>nO<|(yY ho tX ha hb hc hm).weak λσ H Q zz=>YF λnO=>cL zz λO ρ d hx hd k=>ab (bind_some hd) λz' hd hz=>ab (bind_some hd) λx e1 hd=>ab (bind_some hd) λy e2 hd=>ab (bind_some hd) λq e3 hd=>nO ?_
 refine⟨O,ρ,x,hx,e1,λv H1 s1 r1=>⟨O,ρ,y,hx.mono s1,e2,λw H2 s2 r2=>hr O σ ρ H2 x y q v w _ (hx.mono (s1.trans s2)) (r1.mono s2) r2 e3 λH3 s3=>⟨q,rfl,?_⟩⟩⟩
 cases q with
 |false=>
  cases hd
  cases hz
  exact lu ⟨_,rfl,k H3 ((s1.trans s2).trans s3)⟩
 |true=>
  refine ao λnO=>ab (bind_some hd) λz e4 hd=>ab (map_some hd) λq' e5 ah=>?_
  subst ah
  have JZ:q'=d:=Xw hz
  subst JZ
  exact nO<|j7 ⟨O,ρ,z,hx.mono ((s1.trans s2).trans s3),e4,λu H4 s4 r4=>Dt O σ ρ H4 y z q' w u _ (hx.mono (((s1.trans s2).trans s3).trans s4)) (r2.mono (s3.trans s4)) r4 e5 λH5 s5=>⟨_,rfl,k H5 ((((s1.trans s2).trans s3).trans s4).trans s5)⟩⟩
def cR(h:PE X e (tV X.K false f))(he:∀whole,isTrue e X.env whole=(do let v<-whole;standAt e.pos;holding [v] (truthy v))):PT X e (tB X.K λρ=>(f ρ).bind eX):=
 (Gw h he).weak λσ H Q zz=>by
  refine cL zz λO ρ k hx hd q=>ab (bind_some hd) λx e1 hd=>?_
  cases fD hd
  exact⟨O,ρ,_,hx,e1,λv H1 s1 r1=>⟨k,r1.bl,q H1 s1⟩⟩
def FN{fa:Env->Option D}(ha:PE X a (tV X.K false fa)):PE X (.UnaryOp .USub a pos) (tV X.K m λρ=>((fa ρ).bind yE).map λi=> .int (-i)):=
 (Fb yV ha).weak λσ H Q zz=>by
  refine cL zz λO ρ d hx hd k=>ab (map_some hd) λi nJ ah=>?_
  subst ah
  refine ab (bind_some nJ) λx e1 kn=>?_
  cases sC kn
  exact⟨O,ρ,_,hx,e1,λv H1 s1 r1=>⟨i,r1.int,k _ _ s1 (.inl (.int _))⟩⟩
def v_not(ha:PE X a (tV X.K false fa)):PE X (.UnaryOp .Not a pos) (tV X.K m λρ=>((fa ρ).bind eX).map λk=> .bl !k):=
 (GC ha).weak λσ H Q zz=>by
  refine cL zz λO ρ d hx hd k=>ab (map_some hd) λx nJ ah=>?_
  subst ah
  refine ab (bind_some nJ) λy e1 kn=>?_
  cases fD kn
  exact⟨O,ρ,_,hx,e1,λv H1 s1 r1=>⟨x,r1.bl,k _ H1 s1 (.inl (.bl _))⟩⟩
def MA{fa:Env->Option D}(ha:PT X a (tB X.K λρ=>(fa ρ).bind eX)):PT X (.UnaryOp .Not a pos) (tB X.K λρ=>(((fa ρ).bind eX).map λk=>D.bl !k).bind eX):=
 (Gz ha).weak λσ H Q zz=>by
  refine ao λnO=>cL zz λO ρ d hx hd k=>ab (bind_some hd) λx nJ h2=>ab (map_some nJ) λy kn ah=>?_
  subst ah
  cases h2
  exact nO<|⟨O,ρ,y,hx,kn,λH1 s1=>k H1 s1⟩
noncomputable def bo(k:Bool):BoolOp:=if k then .And else .Or
def HU(ha:PE X a (tV X.K false fa)):PE X (.BoolOp (bo k) [a] pos) (tV X.K m λρ=>(((fa ρ).bind eX).bind λx=>if x=k then some k else some x).map .bl):=
 (GA (op:=bo k) ha).weak λσ H Q zz=>by
  refine cL zz λO ρ d hx hd q=>ab (map_some hd) λy nJ ah=>?_
  subst ah
  refine ab (bind_some nJ) λx kn hy=>ab (bind_some kn) λz e1 MB=>?_
  cases fD MB
  have:x=y:=by
   split at hy
   .rename_i e;cases hy;exact e
   .cases hy;rfl
  subst this
  exact⟨O,ρ,_,hx,e1,λv H1 s1 r1=>q v H1 s1 (.inl r1.own)⟩
def MC{k:Bool}{fa:Env->Option D}{fr:Env->Option Bool}(ha:PE X a (tV X.K false fa))(hr:PE X (.BoolOp (bo k) (b::es) pos) (tV X.K false λρ=>(fr ρ).map .bl)):
  PE X (.BoolOp (bo k) (a::b::es) pos) (tV X.K m λρ=>(((fa ρ).bind eX).bind λx=>if x=k then fr ρ else some x).map .bl):=by
 cases k with
 |true=>
  refine PE.weak (GB ha hr) λσ H Q zz=>ao λnO=>cL zz λO ρ d hx hd q=>ab (map_some hd) λy nJ ah=>?_
  subst ah
  refine ab (bind_some nJ) λx kn hy=>ab (bind_some kn) λz e1 MB=>nO ?_
  cases fD MB
  refine⟨O,ρ,_,hx,e1,λv H1 s1 r1=>⟨x,r1.bl,?_⟩⟩
  cases x with
  |true=>exact j7 ⟨O,ρ,.bl y,hx.mono s1,by rw[Xs rfl]at hy;show(fr ρ).map D.bl=_;rw[hy];rfl,λv H2 s2 r2=>q v H2 (s1.trans s2) (.inl r2.own)⟩
  |false=>rw[Xx Xa]at hy;cases hy;exact lu (q _ H1 s1 (.inl (.bl _)))
 |false=>
  refine PE.weak (KJ ha hr) λσ H Q zz=>ao λnO=>cL zz λO ρ d hx hd q=>ab (map_some hd) λy nJ aK=>?_
  subst aK
  refine ab (bind_some nJ) λx kn hy=>ab (bind_some kn) λz e1 MB=>nO ?_
  cases fD MB
  refine⟨O,ρ,_,hx,e1,λv H1 s1 r1=>⟨x,r1.bl,?_⟩⟩
  cases x with
  |false=>exact lu ⟨O,ρ,.bl y,hx.mono s1,by rw[Xs rfl]at hy;show(fr ρ).map D.bl=_;rw[hy];rfl,λv H2 s2 r2=>q v H2 (s1.trans s2) (.inl r2.own)⟩
  |true=>rw[Xx (by decide)]at hy;cases hy;exact j7 (q _ H1 s1 (.inl (.bl _)))
def HV{k:Bool}{fa:Env->Option D}(ha:PT X a (tB X.K λρ=>(fa ρ).bind eX)):PW X (.BoolOp (bo k) [a] pos) (tB X.K λρ=>((fa ρ).bind eX).bind λx=>if x=k then some k else some x):=by
 have w:∀σ H Q,tB X.K (λρ=>((fa ρ).bind eX).bind λx=>if x=k then some k else some x) σ H Q->tB X.K (λρ=>(fa ρ).bind eX) σ H Q:=λσ H Q zz=>by
  refine cL zz λO ρ y hx hd q=>ab (bind_some hd) λx nJ hy=>?_
  have:x=y:=by
   split at hy
   .rename_i e;cases hy;exact e
   .cases hy;rfl
  subst this
  exact⟨O,ρ,x,hx,nJ,q⟩
 cases k with
 |true=>exact λwh aa s σ H Q I h=>Ce ha wh aa s σ H Q I (w σ H Q h)
 |false=>exact λwh aa s σ H Q I h=>Gx ha wh aa s σ H Q I (w σ H Q h)
def MD{k:Bool}{fa:Env->Option D}{fr:Env->Option Bool}(ha:PT X a (tB X.K λρ=>(fa ρ).bind eX))(hr:PW X (.BoolOp (bo k) (b::es) pos) (tB X.K fr)):
  PW X (.BoolOp (bo k) (a::b::es) pos) (tB X.K λρ=>((fa ρ).bind eX).bind λx=>if x=k then fr ρ else some x):=by
 cases k with
 |true=>
  refine λwh aa s σ H Q I h=>Gy ha hr wh aa s σ H Q I ?_
  refine cL h λO ρ y hx hd q=>ab (bind_some hd) λx hd hy=>⟨O,ρ,x,hx,hd,λH1 s1=>?_⟩
  cases x with
  |true=>exact j7 ⟨O,ρ,y,hx.mono s1,by rw[Xs rfl]at hy;exact hy,λH2 s2=>q H2 (s1.trans s2)⟩
  |false=>rw[Xx Xa]at hy;cases hy;exact lu (q H1 s1)
 |false=>
  refine λwh aa s σ H Q I h=>KG ha hr wh aa s σ H Q I ?_
  refine cL h λO ρ y hx hd q=>ab (bind_some hd) λx hd hy=>⟨O,ρ,x,hx,hd,λH1 s1=>?_⟩
  cases x with
  |false=>exact lu ⟨O,ρ,y,hx.mono s1,by rw[Xs rfl]at hy;exact hy,λH2 s2=>q H2 (s1.trans s2)⟩
  |true=>rw[Xx (by decide)]at hy;cases hy;exact j7 (q H1 s1)
def ME:PA X [] (uI X.K m λ_=>some []):=λp aa s σ H Q I zz=>by
 refine ao λnO=>cL zz λO ρ ds hx hd k=>?_
 cases hd
 exact nO<|eO p aa s σ H Q I (k [] H (af.refl _) .nil)
def iU{K:PySem.W.Frag}{O:Addr->Prop}{H:Hp}:∀{vs:List V}{ds:List D},Paired (bR K O false H) vs ds->au K O H vs ds:=λ{vs ds} h=>by
 induction h with
 |nil=>exact .nil
 |cons r t ih=>exact .cons r.own ih
def uJ{K:PySem.W.Frag}{O:Addr->Prop}{H:Hp}{b:Bool}:∀{vs:List V}{ds:List D},Paired (bR K O b H) vs ds->au K (λ_=>False) H vs ds:=λ{vs ds} h=>by
 induction h with
 |nil=>exact .nil
 |cons r t ih=>exact .cons r.any ih
def HW(h:PE X e (tV X.K m f))(hr:PA X es (uI X.K m g))(hs:starEach (e::es) X.env=(false,eval e X.env)::starEach es X.env):
  PA X (e::es) (uI X.K m λρ=>(f ρ).bind λx=>(g ρ).bind λxs=>some (x::xs)):=λp aa s σ H Q I zz=>by
 refine ao λnO=>cL zz λO ρ ds hx hd k=>ab (bind_some hd) λx e1 hd=>ab (bind_some hd) λxs e2 hd=>?_
 cases hd
 exact nO<|cw h hr hs p aa s σ H Q I ⟨O,ρ,x,hx,e1,λv H1 s1 r1=>⟨O,ρ,xs,hx.mono s1,e2,λvs H2 s2 r2=>k (v::vs) H2 (s1.trans s2) (.cons (r1.mono s2) r2)⟩⟩
def FO{k:Nat}{g:Env->Option (List D)}(h:PA X es (uI X.K false g)):PE X (.Tuple es k pos) (tV X.K m λρ=>(g ρ).bind λxs=>if xs.length<=bj then some (.tup xs) else none):=
 PE.weak (GY h) λσ H Q zz=>by
  refine cL zz λO ρ d hx hd q=>ab (bind_some hd) λxs e1 hd=>?_
  split at hd
  .rename_i hz
   cases hd
   refine⟨O,ρ,xs,hx,e1,λvs H1 s1 r1=>?_⟩
   have n9:=iU r1
   exact⟨by rw[n9.length,cz];exact hz,λp hp=>q _ _ (s1.trans (af.upd hp)) (.inl (.tup (cT.of ag) (n9.mono (af.upd hp))))⟩
  .cases hd
def MF{g:Env->Option (List D)}(h:PA X es (uI X.K false g)):PE X (.List es pos) (tF X.K λρ=>(g ρ).bind λxs=>if xs.length<=bj then some xs else none):=
 PE.weak (GZ h) λσ H Q zz=>by
  refine cL zz λO ρ d hx hd q=>ab (bind_some hd) λxs e1 hd=>?_
  split at hd
  .rename_i hz
   cases hd
   refine⟨O,ρ,_,hx,e1,λvs H1 s1 r1=>?_⟩
   have n9:=iU r1
   exact⟨by rw[n9.length,cz];exact hz,λp hp=>q p vs H1 s1 hp n9⟩
  .cases hd
def mK(n:Nat)(i:Int):cu n i=JS n i:=rfl
def item_at{K:PySem.W.Frag}{O:Addr->Prop}{H:Hp}{vs:List V}{ds:List D}{k:Int}{d:D}(h:au K O H vs ds)(e:((cu ds.length k).bind λj=>ds[j]?)=some d):∃v,Fl vs k=some v/\br K O H v d:=by
 exact ab (bind_some e) λj e1 e2=>ab (h.get e2) λv h1 h2=>⟨v,by unfold Fl;rw[h.length,<-mK,e1];exact h1,h2⟩
def MG{fa fb:Env->Option D}(ha:PE X a (tV X.K true fa))(hb:PE X b (tV X.K false fb))(hs:pP b):PE X (.Subscript a b pos) (tV X.K m λρ=>(fa ρ).bind λx=>(fb ρ).bind λk=>item x k):=
 PE.weak (Fm (vp.or G9) ha hb hs) λσ H Q zz=>by
  refine ao λnO=>cL zz λO ρ d hx hd q=>ab (bind_some hd) λx e1 hd=>ab (bind_some hd) λy e2 hd=>nO ?_
  refine⟨O,ρ,x,hx,e1,λv H1 s1 r1=>⟨O,ρ,y,hx.mono s1,e2,λw H2 s2 r2=>?_⟩⟩
  have n9:=r1.mono s2
  cases y with
  |int k=>
   cases x with
   |lst xs=>
    refine ao λnO=>a_ n9.lst λp vs ah h1 h2=>?_
    subst ah
    exact ab (item_at h2 hd) λu h3 h4=>nO<| .inl ⟨p,vs,k,u,rfl,r2.int,h1,h3,q u H2 (s1.trans s2) (.inl h4)⟩
   |tup xs=>
    refine ao λnO=>a_ n9.tup λp vs aK h1 h2=>?_
    subst aK
    exact ab (item_at h2 hd) λu h3 h4=>nO<| .inr ⟨p,vs,k,u,rfl,r2.int,h1,h3,q u H2 (s1.trans s2) (.inl h4)⟩
   |_=>cases hd
  |_=>cases x<;>cases hd
def tO(K:PySem.W.Frag)(f:Env->Option (Option Int)):TO:=λσ H Q=>∃O ρ o,EX K O σ H ρ/\f ρ=some o/\∀H',af H H'->Q o H'
def HX:PO X none (tO X.K λ_=>some none):=λaa s σ H Q I zz=>by
 refine ao λnO=>cL zz λO ρ o hx hd k=>?_
 cases hd
 exact nO<|Cr aa s σ H Q I (k H (af.refl _))
def HY(h:PE X e (tV X.K false f)):PO X (some e) (tO X.K λρ=>((f ρ).bind yE).map some):=λaa s σ H Q I zz=>by
 refine ao λnO=>cL zz λO ρ o hx hd k=>ab (map_some hd) λi nJ ah=>?_
 subst ah
 refine ab (bind_some nJ) λd e1 kn=>nO ?_
 cases sC kn
 exact Cu h aa s σ H Q I ⟨O,ρ,_,hx,e1,λv H1 s1 r1=>⟨i,r1.int,k H1 s1⟩⟩
def dO(n d:Nat)(o:Option Int):bound n d o=HT.cD n d o:=by
 cases o with
 |none=>rfl
 |some v=>
  have:=HT.pN v n d
  show(if v<0 then max (v+(n:Int)) 0 else min v (n:Int)).toNat =_
  rw[this]
  exact Yd _
def mL{K:PySem.W.Frag}{O:Addr->Prop}{H:Hp}{vs:List V}{ds:List D}(h:au K O H vs ds)(lo hi:Option Int):au K O H (rl vs lo hi) (iR ds lo hi):=by
 unfold rl iR
 rw[dO,dO,h.length]
 exact(h.drop _).take _
theorem au.rev{K:PySem.W.Frag}{O:Addr->Prop}{H:Hp}:∀{vs:List V}{ds:List D},au K O H vs ds->au K O H vs.reverse ds.reverse
 |_,_,.nil => .nil
 |_,_,.cons r t=>by rw[ZY,ZY];exact(au.rev t).append (.cons r .nil)
def MH(ha:PE X a (tV X.K true fa)):PE X (.Subscript a (.Slice none none (some (.UnaryOp .USub (.Constant (.int 1) j p1) p3)) p2) pos) (tV X.K m λρ=>(fa ρ).bind Ll):=
 (Hx ha).weak λσ H Q zz=>by
  refine ao λnO=>cL zz λO ρ d hx hd q=>ab (bind_some hd) λx e1 hd=>nO ?_
  cases x with
  |tup xs=>
   refine⟨O,ρ,_,hx,e1,λv H1 s1 r1=>ao λnO=>?_⟩
   cases hd
   refine a_ r1.tup λp vs aK h1 h2=>?_
   subst aK
   exact nO<|⟨p,vs,rfl,h1,λp' hp=>q _ _ (s1.trans (af.upd hp)) (.inl (.tup (cT.of ag) (h2.rev.mono (af.upd hp))))⟩
  |_=>cases hd
def MI{lo hi:Option Expr}{p2:Pos}{fa:Env->Option D}{fl fh:Env->Option (Option Int)}(ha:PE X a (tV X.K true fa))(hl:PO X lo (tO X.K fl))(hh:PO X hi (tO X.K fh)):
  PE X (.Subscript a (.Slice lo hi none p2) pos) (tV X.K m λρ=>(fa ρ).bind λx=>(fl ρ).bind λl=>(fh ρ).bind λh=>cutD x l h):=
 PE.weak (rk (BW.or vq CN) ha hl hh) λσ H Q zz=>by
  refine ao λnO=>cL zz λO ρ d hx hd q=>ab (bind_some hd) λx e1 hd=>ab (bind_some hd) λl e2 hd=>ab (bind_some hd) λh e3 hd=>nO ?_
  refine⟨O,ρ,x,hx,e1,λv H1 s1 r1=>⟨O,ρ,l,hx.mono s1,e2,λH2 s2=>⟨O,ρ,h,hx.mono (s1.trans s2),e3,λH3 s3=>?_⟩⟩⟩
  have n9:=r1.mono (s2.trans s3)
  have B1:=(s1.trans s2).trans s3
  cases x with
  |lst xs=>
   refine ao λnO=>?_
   cases hd
   refine a_ n9.lst λp vs ah h1 h2=>?_
   subst ah
   exact nO<| .inl ⟨p,vs,rfl,h1,λp' hp=>q _ _ (B1.trans (af.upd hp)) (.inl (.lst (.inl ag) ((hx.mono B1).free (af.refl _) hp) ((mL h2 l h).mono (af.upd hp))))⟩
  |tup xs=>
   refine ao λnO=>a_ n9.tup λp vs aK h1 h2=>?_
   subst aK
   cases hd
   refine nO ?_
   by_cases hw:bound xs.length 0 l=0/\bound xs.length xs.length h=xs.length
   .refine .inr (.inr ⟨p,vs,rfl,h1,by rw[<-dO,<-dO,h2.length];exact hw,q _ _ B1 (.inl (.tup h1 ?_))⟩)
    have e:iR xs l h=xs:=by
     unfold iR
     rw[hw.1,hw.2,Zy,Nat.sub_zero,List.take_length]
    rw[e]
    exact h2
   .refine .inr (.inl ⟨p,vs,rfl,h1,?_,λp' hp=>q _ _ (B1.trans (af.upd hp)) (.inl (.tup (cT.of ag) ((mL h2 l h).mono (af.upd hp))))⟩)
    rw[<-dO,<-dO,h2.length]
    exact hw
  |_=>cases hd
def QC{lo hi:Option Expr}{p2:Pos}{fa:Env->Option D}{fl fh:Env->Option (Option Int)}(ha:PE X a (tV X.K true fa))(hl:PO X lo (tO X.K fl))(hh:PO X hi (tO X.K fh)):
  PE X (.Subscript a (.Slice lo hi none p2) pos) (tF X.K λρ=>((fa ρ).bind λx=>(fl ρ).bind λl=>(fh ρ).bind λh=>cutD x l h).bind λd=>match d with| .lst ds=>some ds|_=>none):=
 PE.weak (rk vq ha hl hh) λσ H Q zz=>by
  refine ao λnO=>cL zz λO ρ ds hx hd q=>ab (bind_some hd) λd hd hz=>ab (bind_some hd) λx e1 hd=>ab (bind_some hd) λl e2 hd=>ab (bind_some hd) λh e3 hd=>nO ?_
  refine⟨O,ρ,x,hx,e1,λv H1 s1 r1=>⟨O,ρ,l,hx.mono s1,e2,λH2 s2=>⟨O,ρ,h,hx.mono (s1.trans s2),e3,λH3 s3=>?_⟩⟩⟩
  have n9:=r1.mono (s2.trans s3)
  have B1:=(s1.trans s2).trans s3
  cases x with
  |lst xs=>
   refine ao λnO=>?_
   cases hd
   cases hz
   refine a_ n9.lst λp vs ah h1 h2=>?_
   subst ah
   exact nO<|⟨p,vs,rfl,h1,λp' hp=>q p' _ H3 B1 hp (mL h2 l h)⟩
  |tup xs=>cases hd;cases hz
  |_=>cases hd
end
theorem insI_perm(x:Int):∀l,(insI x l).Perm (x::l)
 |[]=> .refl _
 |y::r=>by
  unfold insI
  split
  .exact .refl _
  .exact((insI_perm x r).cons y).trans (.swap x y r)
theorem sortI_perm:∀l,(sortI l).Perm l
 |[]=> .refl _
 |x::r=>(insI_perm x (sortI r)).trans ((sortI_perm r).cons x)
theorem vV(x:Int):∀l:List Int,l.Pairwise (· <= ·)->(insI x l).Pairwise (· <= ·)
 |[],_=>ZS _ _
 |y::r,h=>by
  unfold insI
  rw[Ys]at h
  split
  .rename_i Aa
   refine Ys.mpr ⟨λz hz=>?_,Ys.mpr h⟩
   rcases Xl.mp hz with e|hz
   .rw[e];exact Aa
   .exact abO Aa (h.1 z hz)
  .rename_i Aa
   refine Ys.mpr ⟨λz hz=>?_,vV x r h.2⟩
   rcases Xl.mp ((insI_perm x r).mem_iff.mp hz)with e|hz
   .rw[e];lia
   .exact h.1 z hz
theorem mM:∀l:List Int,(sortI l).Pairwise (· <= ·)
 |[]=> .nil
 |x::r=>vV x _ (mM r)
def sD{l m:List Int}(hp:l.Perm m)(hs:l.Pairwise (· <= ·)):l=sortI m:=
 (hp.trans (sortI_perm m).symm).eq_of_pairwise (λa b _ _ h1 h2=>Int.le_antisymm h1 h2) hs (mM m)
def sE{et ns:List Int}(hp:et.Perm ns)(hs:et.Pairwise (· <= ·)):et=sortI ns:=sD hp hs
section
variable {X:Cx}{a b c e e0:Expr}{es:List Expr}{pos p:Pos}{m:Bool}
def vW(K:PySem.W.Frag)(n:Nat)(f:List D->Option D):Sp:=λvs H Q _=>∃O ds d,(∀a,O a->∃u,H a=some u/\sv u)/\au K O H vs ds/\f ds=some d/\vs.length=n/\∀v H',af H H'->br K O H' v d->Q v H'
def HZ{k:Nat}{fa:Addr}{fd:FuncData}{ps:List Str}{x:Str}{g:Bool->Env->Option (List D)}{f:List D->Option D}{ln:Env->Bool}(F:jf X.prog X.w X.K X.mg X.base xA k fa fd ps (vW X.K ps.length f))(hr:eN k X.A)(hg:Gl X x)(hm:X.mg x=some (.ref fa))
  (hk:PySem.W.keepIn X.K (.ref fa)=true) (hb:Binds X.K fd ps []) (hf:∀ds d,f ds=some d->ds.length=ps.length) (ha:∀b,PA X (e::es) (uI X.K b (g b))) (hl:∀ρ,ln ρ=false->g true ρ=g false ρ)
  (BS:(x==("__debug__":Str))=false) (he:starEach (e::es) X.env=(false,eval e X.env)::starEach es X.env) (j5:(backTo pos (starEach es X.env)).any (·.1)=false):
  PE X (.Call (.Name x p) (e::es) [] pos) (tV X.K m λρ=>(g true ρ).bind λxs=>(f xs).bind λd=>if ln ρ&&!aC d then none else some d):=by
 intro aa s σ H Q I ⟨O,ρ,d,hx,hd,q⟩
 refine ab (bind_some hd) λxs e1 hd=>ab (bind_some hd) λd' e2 hd=>?_
 cases QD:ln ρ with
 |false=>
  rw[QD]at hd
  simp only[Bool.false_and,Yr,if_false]at hd
  cases hd
  rw[hl ρ QD]at e1
  refine vh F hr hg hm hk hb .nil zk (ha false) BS he j5 aa s σ H Q I ⟨O,ρ,xs,hx,e1,λvs H1 s1 r1=>?_⟩
  have n9:=iU r1
  show vW X.K ps.length f (vs++[]) H1 Q E0
  rw[X7]
  exact⟨O,xs,d,(hx.mono s1).live,n9,e2,by rw[n9.length];exact hf _ _ e2,λv H2 s2 r2=>q v H2 (s1.trans s2) (.inl r2)⟩
 |true=>
  rw[QD]at hd
  cases hn:aC d' with
  |false=>rw[hn]at hd;cases hd
  |true=>
   rw[hn]at hd
   simp only[Bool.not_true,Z7,Yr,if_false]at hd
   cases hd
   refine vh F hr hg hm hk hb .nil zk (ha true) BS he j5 aa s σ H Q I ⟨O,ρ,xs,hx,e1,λvs H1 s1 r1=>?_⟩
   have n9:=uJ r1
   show vW X.K ps.length f (vs++[]) H1 Q E0
   rw[X7]
   exact⟨λ_=>False,xs,d,λ_ z=>z.elim,n9,e2,by rw[n9.length];exact hf _ _ e2,λv H2 s2 r2=>q v H2 (s1.trans s2) (.inl (xX r2 hn))⟩
def iV(mk:∀t,PA X (e::es) t->PE X e0 (O9 r t))(ha:PA X (e::es) (uI X.K true g))
  (hr:∀O σ (ρ:Env) H ds vs d Q,EX X.K O σ H ρ->Paired (bR X.K O true H) vs ds->pf ds=some d->(∀v H',af H H'->bR X.K O m H' v d->Q v H')->r vs H Q):PE X e0 (tV X.K m λρ=>(g ρ).bind pf):=
 (mk _ ha).weak λσ H Q zz=>by
  exact cL zz λO ρ d hx hd q=>ab (bind_some hd) λxs e1 hd=>⟨O,ρ,xs,hx,e1,λvs H1 s1 r1=>hr O σ ρ H1 xs vs d Q (hx.mono s1) r1 hd λv H' s' r'=>q v H' (s1.trans s') r'⟩
def cx{K:PySem.W.Frag}{O:Addr->Prop}{H:Hp}{b:Bool}{vs:List V}{d:D}(h:Paired (bR K O b H) vs [d]):∃v,vs=[v]/\bR K O b H v d:=by
 cases h with
 |cons r t=>cases t;exact⟨_,rfl,r⟩
theorem cv{K:PySem.W.Frag}{O:Addr->Prop}{H:Hp}:∀{vs:List V}{ds:List D}{ns:List Int},au K O H vs ds->aB ds=some ns->vs=ns.map V.int
 |_,_,_,.nil,h=>by cases h;rfl
 |_,_,ns,.cons (d:=d) r t,h=>by
  cases d with
  |int i=>
   simp only[aB]at h
   refine ab (map_some h) λet h1 ah=>?_
   subst ah
   rw[Xy,<-cv t h1,r.int_inv]
  |_=>cases h
def QF(K:PySem.W.Frag):List V->Hp->VK->Prop:=λxs H Q=>∃p n ns,xs=[.ref p]/\(dI K H p ((n::ns).map V.int)\/cT K H p ((n::ns).map V.int))/\Q (.int (iw n ns)) H
def xY(hc:X.calm=true):cJ X (.builtin "min") (QF X.K):=by
 intro aa s σ H xs us Q I r ⟨p,n,ns,e,hq,q⟩
 subst e
 refine ab (vals1 r) λu ah rx=>?_
 subst ah
 cases rx
 have fin:∀(h':Heap) (tk:Nat) (t:Tok),(∀b o,s.heap.get? b=some o->h'.get? b=some o)->EP X aa σ Q (.int (iw n ns) t) {s with heap:=h',toks:=tk}:=λh' tk t k=>⟨.int _,H,I.kept k,⟨_,rfl⟩,q⟩
 rcases hq with hq|hq
 .exact bF (I.list hq) λits rv pl hz=>kW (I.ok.hd hc) (.inl pl.isList) (intsAre_of rv) fin
 .exact bF (I.tuple hq) λits rv pl hz=>kW (I.ok.hd hc) (.inr pl) (intsAre_of rv) fin
noncomputable def iG:uo->Str
 | .len =>"len"| .tuple =>"tuple"| .list =>"list"| .min =>"min"| .sorted =>"sorted"| .all =>"all"| .str =>"str"
theorem gz{K:PySem.W.Frag}{O:Addr->Prop}{H:Hp}:∀{vs:List V}{ds:List D}{bs:List Bool},au K O H vs ds->eF ds=some bs->vs=bs.map V.bl
 |_,_,_,.nil,h=>by cases h;rfl
 |_,_,bs,.cons (d:=d) r t,h=>by
  cases d with
  |bl i=>
   simp only[eF]at h
   obtain⟨et,h1,rfl⟩:=map_some h
   rw[Xy,<-gz t h1,r.uH]
  |_=>cases h
theorem vX{K:PySem.W.Frag}{O:Addr->Prop}{H:Hp}:∀{vs:List V}{ds:List D}{ks:List (List Int)},au K O H vs ds->iS ds=some ks->Paired (TupAt H) vs ks/\∀k∈ks,k≠[]
 |_,_,_,.nil,h=>by cases h;exact⟨.nil,λ_ z=>nomatch z⟩
 |_,_,ks,.cons (d:=d) r t,h=>by
  cases d with
  |tup xs=>
   unfold iS at h
   refine ab (bind_some h) λk h1 h=>?_
   split at h
   .cases h
   .rename_i hk
    refine ab (map_some h) λVl h2 ah=>?_
    subst ah
    refine a_ r.jG λa us aK q1 q2=>?_
    subst aK
    have e:=cv q2 h1
    subst e
    obtain⟨p1,p2⟩:=vX t h2
    exact⟨.cons ⟨a,rfl,q1⟩ p1,λz hz=>(Xl.mp hz).elim (λe=>by rw[e];exact hk) (p2 z)⟩
  |_=>cases h
def vY{K:PySem.W.Frag}{O:Addr->Prop}{H:Hp}{u:V}{k:List Int}(h:TupAt H u k):br K O H u (uq k):=by
 refine ab h λb ah hb=>?_
 try clear h
 subst ah
 exact .tup hb (dN k)
theorem sF{K:PySem.W.Frag}{O:Addr->Prop}{H:Hp}:∀{us:List V}{ks:List (List Int)},Paired (TupAt H) us ks->au K O H us (ks.map uq)
 |_,_,.nil => .nil
 |_,_,.cons h t=> .cons (vY h) (sF t)
def oP{q:uo}{g:Env->Option (List D)}(hu:X.A.units+64<cLine)(hc:X.calm=true)(hg:Gl X (iG q))(hm:X.mg (iG q)=none)(ha:PA X (e::es) (uI X.K true g))
  (he:starEach (e::es) X.env=(false,eval e X.env)::starEach es X.env) (j5:(backTo pos (starEach es X.env)).any (·.1)=false):
  PE X (.Call (.Name (iG q) p) (e::es) [] pos) (tV X.K m λρ=>(g ρ).bind (prim q)):=by
 have no:∀(f:Env->Option (List D)),∀ρ,((f ρ).bind λ_=>(none:Option D))=none:=λf ρ=>by cases f ρ<;>rfl
 cases q with
 |len=>
  refine iV (λt ht=>eZ pR hg hm PySem.boot_len ht (by decide) (by decide) he j5) ha λO σ ρ H ds vs d Q hx r hd q=>?_
  cases ds with
  |nil=>cases hd
  |cons x t=>
   cases t with
   |cons _ _=>cases x<;>cases hd
   |nil=>
    refine ab (cx r) λv ah rv=>?_
    subst ah
    refine ao λnO=>ab (map_some (show(seq x).map (λys=>D.int ys.length)=some d from hd)) λys h1 aK=>?_
    subst aK
    refine a_ (rv.seq h1) λp us cQ h2 h3=>?_
    subst cQ
    exact nO<|⟨p,us,rfl,h2,by rw[h3.length];exact q _ _ (af.refl _) (.inl (.int _))⟩
 |tuple=>
  refine iV (λt ht=>dJ nX hg hm boot_tuple ht (by decide) (by decide) he j5) ha λO σ ρ H ds vs d Q hx r hd q=>?_
  cases ds with
  |nil=>cases hd
  |cons x t=>
   cases t with
   |cons _ _=>cases hd
   |nil=>
    refine ao λnO=>ab (cx r) λv n8 rv=>?_
    subst n8
    refine ab (map_some hd) λys h1 MJ=>?_
    subst MJ
    refine a_ (rv.seq h1) λp us MK h2 h3=>?_
    subst MK
    refine nO ?_
    refine⟨p,us,rfl,?_⟩
    rcases h2 with h2|h2
    .exact .inl ⟨h2,λl hl=>q _ _ (af.upd hl) (.inl (.tup (cT.of ag) (h3.mono (af.upd hl))))⟩
    .exact .inr ⟨h2,q _ _ (af.refl _) (.inl (.tup h2 h3))⟩
 |list=>
  refine iV (λt ht=>dJ jh hg hm boot_list ht (by decide) (by decide) he j5) ha λO σ ρ H ds vs d Q hx r hd q=>?_
  cases ds with
  |nil=>cases hd
  |cons x t=>
   cases t with
   |cons _ _=>cases hd
   |nil=>
    refine ao λnO=>ab (cx r) λv Kd rv=>?_
    subst Kd
    refine ab (map_some hd) λys h1 QG=>?_
    subst QG
    refine a_ (rv.seq h1) λp us Vm h2 h3=>?_
    subst Vm
    exact nO<|⟨p,us,rfl,h2,λl hl=>q _ _ (af.upd hl) (.inl (.lst (.inl ag) (hx.free (af.refl _) hl) (h3.mono (af.upd hl))))⟩
 |min=>
  refine iV (λt ht=>eZ ((xY hc).or (xW hc hu)) hg hm boot_min ht (by decide) (by decide) he j5) ha λO σ ρ H ds vs d Q hx r hd q=>?_
  cases ds with
  |nil=>cases hd
  |cons x t=>
   cases t with
   |nil=>
    refine ao λnO=>ab (cx r) λv H_ rv=>?_
    subst H_
    simp only[prim]at hd
    refine ab (bind_some hd) λys h1 hd=>a_ (rv.seq h1) λp us Ia h3 h4=>?_
    subst Ia
    refine nO ?_
    cases h2:aB ys with
    |some ns=>
     rw[h2]at hd
     cases ns with
     |nil=>cases hd
     |cons n ns=>
      cases hd
      have:=cv h4 h2
      subst this
      exact .inl ⟨p,n,ns,rfl,h3,q _ _ (af.refl _) (.inl (.int _))⟩
    |none=>
     rw[h2]at hd
     cases x with
     |lst zs=>
      refine ao λnO=>?_
      cases h1
      refine a_ rv.lst λp' Vn e' QH Of=>?_
      cases e'
      refine ab (bind_some hd) λks h5 hd=>nO ?_
      cases ks with
      |nil=>cases hd
      |cons k ks=>
       cases hd
       exact .inr ⟨p,Vn,k,ks,rfl,QH,(vX Of h5).1,λu hu=>q _ _ (af.refl _) (.inl (vY hu))⟩
     |_=>cases hd
   |cons y t=>cases hd
 |sorted=>
  refine iV (λt ht=>eZ pZ hg hm boot_sorted ht (by decide) (by decide) he j5) ha λO σ ρ H ds vs d Q hx r hd q=>?_
  cases ds with
  |nil=>cases hd
  |cons x t=>
   cases t with
   |nil=>
    refine ao λnO=>ab (cx r) λv Ib rv=>?_
    subst Ib
    refine ab (bind_some (show(seq x).bind (λys=>(aB ys).bind λns=>if ns.length<64 then some (D.lst ((sortI ns).map .int)) else none)=some d from hd)) λys h1 hd=>ab (bind_some hd) λns h2 hd=>?_
    split at hd
    .rename_i CL
     cases hd
     refine a_ (rv.seq h1) λp us QI h3 h4=>?_
     subst QI
     have:=cv h4 h2
     subst this
     refine nO ⟨p,ns,rfl,h3,CL,λet hp hs l hl=>?_⟩
     rw[sE hp hs]
     exact q _ _ (af.upd hl) (.inl (.lst (.inl ag) (hx.free (af.refl _) hl) (dN _)))
    .cases hd
   |cons y t=>cases hd
 |str=>
  refine iV (λt ht=>dJ pM hg hm boot_str ht (by decide) (by decide) he j5) ha λO σ ρ H ds vs d Q hx r hd q=>?_
  cases ds with
  |nil=>cases hd
  |cons x t=>
   cases t with
   |cons _ _=>cases x<;>cases hd
   |nil=>
    cases x with
    |int i=>
     simp only[prim]at hd
     split at hd
     .rename_i hz
      cases hd
      obtain⟨v,rfl,r1⟩:=cx r
      cases r1.int
      exact⟨i,rfl,hz,q _ _ (af.refl _) (.inl (.str _))⟩
     .cases hd
    |_=>cases hd
 |all=>
  refine iV (λt ht=>eZ (xK hc) hg hm boot_all ht (by decide) (by decide) he j5) ha λO σ ρ H ds vs d Q hx r hd q=>?_
  cases ds with
  |nil=>cases hd
  |cons x t=>
   cases t with
   |cons _ _=>cases hd
   |nil=>
    cases x with
    |lst ys=>
     obtain⟨bs,hb,rfl⟩:=map_some (show(eF ys).map (λbs=>D.bl (bs.all id))=some d from hd)
     obtain⟨v,rfl,rv⟩:=cx r
     obtain⟨p,us,rfl,h2,h3⟩:=rv.lst
     have:=gz h3 hb
     subst this
     exact⟨p,bs,rfl,h2,q _ _ (af.refl _) (.inl (.bl _))⟩
    |_=>cases hd
def f_list{g:Env->Option (List D)}(hg:Gl X "list")(hm:X.mg "list"=none)(ha:PA X (e::es) (uI X.K true g))
  (he:starEach (e::es) X.env=(false,eval e X.env)::starEach es X.env) (j5:(backTo pos (starEach es X.env)).any (·.1)=false):
  PE X (.Call (.Name "list" p) (e::es) [] pos) (tF X.K λρ=>(g ρ).bind λxs=>match xs with|[x]=>seq x|_=>none):=
 PE.weak (dJ jh hg hm boot_list ha (by decide) (by decide) he j5) λσ H Q zz=>by
  refine cL zz λO ρ ds hx hd q=>ab (bind_some hd) λxs e1 hd=>⟨O,ρ,xs,hx,e1,λvs H1 s1 r=>?_⟩
  cases xs with
  |nil=>cases hd
  |cons x t=>
   cases t with
   |cons _ _=>cases hd
   |nil=>
    refine ab (cx r) λv ah rv=>?_
    subst ah
    refine a_ (rv.seq hd) λp us aK h2 h3=>?_
    subst aK
    exact⟨p,us,rfl,h2,λl hl=>q l us H1 s1 hl h3⟩
noncomputable def xZ:Ty->String
 | .bool =>"bool"| .int =>"int"| .tuple =>"tuple"
def QJ(K:PySem.W.Frag)(b:Ty):List V->Hp->VK->Prop:=λxs H Q=>∃x d k,xs=[x,.ty (xZ b)]/\br K (λ_=>False) H x d/\Fx b d=some k/\Q (.bl k) H
def Ag{b:Ty}:cJ X (.builtin "isinstance") (QJ X.K b):=by
 intro aa s σ H xs us Q I r zz
 refine Km zz λx d k e rp hk q=>?_
 subst e
 obtain⟨u,u',rfl,rx,rt⟩:=vals2 r
 cases rt
 have f0:∀k,Q (.bl k) H->EP X aa σ Q (.bool k) s:=λk q=>⟨.bl k,H,I,rfl,q⟩
 have f1:∀k,Q (.bl k) H->EP X aa σ Q (.bool k) {s with toks:=s.toks+1}:=λk q=>⟨.bl k,H,I.tok _,rfl,q⟩
 cases rp with
 |dj=>
  cases rx;cases hk
  cases b with
  |int=>exact IsiPair.NoneType_int (f1 _ q)
  |bool=>exact IsiPair.NoneType_bool (f1 _ q)
  |tuple=>exact IsiPair.NoneType_tuple (f1 _ q)
 |bl x=>
  cases rx;cases hk
  cases b with
  |int=>exact IsiPair.bool_int (f0 _ q)
  |bool=>exact IsiPair.bool_bool (f0 _ q)
  |tuple=>exact IsiPair.bool_tuple (f1 _ q)
 |int i=>
  obtain⟨tk,rfl⟩:=rx
  cases hk
  cases b with
  |int=>exact IsiPair.int_int (f0 _ q)
  |bool=>exact IsiPair.int_bool (f1 _ q)
  |tuple=>exact IsiPair.int_tuple (f1 _ q)
 |str z=>
  obtain⟨tk,rfl⟩:=rx
  cases hk
  cases b with
  |int=>exact IsiPair.str_int (f1 _ q)
  |bool=>exact IsiPair.str_bool (f1 _ q)
  |tuple=>exact IsiPair.str_tuple (f1 _ q)
 |tup h1 h2=>
  cases rx
  obtain⟨its,rv,⟨o,ho,hc,_⟩,hz⟩:=I.tuple h1
  cases hk
  cases b with
  |int=>exact IsiPair.tuple_int ho hc (f1 _ q)
  |bool=>exact IsiPair.tuple_bool ho hc (f1 _ q)
  |tuple=>exact IsiPair.tuple_tuple ho hc (f0 _ q)
 |lst h1 _ h2=>
  cases rx
  obtain⟨its,rv,⟨o,n,ho,hc,_⟩,hz⟩:=I.list (.inl h1)
  cases hk
  cases b with
  |int=>exact IsiPair.list_int ho hc (f1 _ q)
  |bool=>exact IsiPair.list_bool ho hc (f1 _ q)
  |tuple=>exact IsiPair.list_tuple ho hc (f1 _ q)
 |mod h1 h2=>
  cases rx
  obtain⟨its,rv,⟨o,n,ho,hc,_⟩,hz⟩:=I.list (.inr h1)
  cases hk
  cases b with
  |int=>exact IsiPair.list_int ho hc (f1 _ q)
  |bool=>exact IsiPair.list_bool ho hc (f1 _ q)
  |tuple=>exact IsiPair.list_tuple ho hc (f1 _ q)
 |bz _ _ _ _=>cases hk
def Dv(b:Ty):bootBuiltins (Str.ofString (xZ b))=some (.type (xZ b)):=by
 cases b
 .exact boot_int
 .exact boot_bool
 .exact boot_tuple
def ML{b:Ty}{f:Env->Option D}{p':Pos}(ha:PE X a (tV X.K false f))(hg:Gl X "isinstance")(hm:X.mg "isinstance"=none)(Vo:Gl X (Str.ofString (xZ b)))(Vp:X.mg (Str.ofString (xZ b))=none)
  (hs:starEach [a,.Name (Str.ofString (xZ b)) p'] X.env=(false,eval a X.env)::starEach [.Name (Str.ofString (xZ b)) p'] X.env):
  PE X (.Call (.Name "isinstance" p) [a,.Name (Str.ofString (xZ b)) p'] [] pos) (tV X.K m λρ=>((f ρ).bind (Fx b)).map .bl):=by
 have pt:PE X (.Name (Str.ofString (xZ b)) p') (tC (.ty (xZ b))):=Cd Vo Vp (Dv b) rfl (by cases b<;>decide) (by cases b<;>decide)
 refine PE.weak (eZ (Ag (b:=b)) hg hm boot_isinstance (cw ha (cw pt eO rfl) hs) (by decide) (by decide) hs (by rfl)) λσ H Q zz=>ao λnO=>cL zz λO ρ d hx hd q=>ab (map_some hd) λk e1 ah=>ab (bind_some e1) λx e2 e3=>nO ?_
 subst ah
 exact⟨O,ρ,x,hx,e2,λv H1 s1 r1=>⟨v,x,k,rfl,r1.any,e3,q _ H1 s1 (.inl (.bl _))⟩⟩
noncomputable def n_(lo:Int):Nat->List V
 |0=>[]
 |n+1=> .int lo::n_ (lo+1) n
theorem kq{K:PySem.W.Frag}{O:Addr->Prop}{H:Hp}:∀(n:Nat) (lo:Int),au K O H (n_ lo n) (bA lo n)
 |0,_=> .nil
 |n+1,lo=> .cons (.int lo) (kq n (lo+1))
theorem gC:∀(n:Nat) (lo:Int),(n_ lo n).length =n
 |0,_=>rfl
 |n+1,lo=>by rw[n_,Xt,gC n]
theorem kr:∀(n:Nat) (lo:Int) (us:List Value),us.length=n->(∀(j:Nat) (v:Value),us[j]?=some v->∃t,v=Value.int (lo+j) t)->aA (n_ lo n) us
 |0,lo,us,hl,_=>by
  cases us with
  |nil=>exact .nil
  |cons _ _=>cases hl
 |n+1,lo,us,hl,h=>by
  cases us with
  |nil=>cases hl
  |cons u us=>
   obtain⟨t,e⟩:=h 0 u rfl
   refine .cons ⟨t,by simpa using e⟩ (kr n (lo+1) us (by simpa using hl) λj v hj=>?_)
   obtain⟨t',e'⟩:=h (j+1) v (by simpa using hj)
   refine⟨t',?_⟩
   rw[e']
   congr 1
   push_cast
   lia
def vZ(hg:Gl X "range")(hm:X.mg "range"=none)(ha:PA X [a] t)(hs:starEach [a] X.env=[(false,eval a X.env)]):PE X (.Call (.Name "range" p) [a] [] pos) (λσ H Q=>t σ H λvs H1=>∃hi:Int,vs=[.int hi]/\∀p,H1 p=none->Q (.ref p) (L2.upd H1 p (.eL 0 hi))):=by
 intro aa s σ H Q I h
 refine Call_ (j0 I hg hm boot_range (YR (aW (ha pos aa s σ H _ I h) λus s1 ⟨vs,H1,I1,r1,q1⟩=>?_) hs rfl))
 refine ab q1 λhi e q=>?_
 subst e
 obtain⟨u,rfl,t',rfl⟩:=vals1 r1
 refine call_range_1 ⟨.ref s1.heap.objs.size,_,I1.laid (o:= .eL 0 hi) (λb o e=>W8 _ e) (Xf _) ⟨_,_,_,Xp _ rfl⟩,rfl,q _ I1.fresh⟩
def uK(hc:X.calm=true):cJ X (.type "list") (λxs H Q=>∃(p:Addr) (hi:Int),xs=[.ref p]/\H p=some (.eL 0 hi)/\(-(2 ^ 62)<=hi/\hi<=bj)/\∀l,H l=none->Q (.ref l) (L2.upd H l (.lst (n_ 0 hi.toNat)))):=by
 intro aa s σ H xs us Q I r ⟨p,hi,e,hp,⟨Ic,hl⟩,q⟩
 subst e
 refine ab (vals1 r) λu ah rx=>?_
 subst ah
 cases rx
 refine NN ((show aQ X.prog X.w H s.heap p (.eL 0 hi) from I.aN p _ hp)) λt u v ho=>?_
 have eU:bj=16777216:=rfl
 have Ah:Builtin.Range.rangeSize 0 hi 1=((hi.toNat:Nat):Int):=by rw[rangeSize_one];split<;>lia
 refine call_list_range (n:=hi.toNat) (I.ok.hd hc) ho (small_one (by lia) (by lia) Ic (by lia)) Ah (by lia) λh' tk Hw c' kp hg iP=>⟨.ref s.heap.objs.size,_,I.laid (o:= .lst (n_ 0 hi.toNat)) kp (Xf _) ⟨by rw[gC,cz];lia,Hw.toList,c',kr _ _ _ (by simpa using iP.1) (λj v hj=>?_),by simpa using hg⟩,rfl,q _ I.fresh⟩
 obtain⟨t',e'⟩:=iP.2 j v (by simpa using hj)
 exact⟨t',by rw[e'];simp⟩
def sG(hc:X.calm=true):cJ X (.type "tuple") (λxs H Q=>∃(p:Addr) (hi:Int),xs=[.ref p]/\H p=some (.eL 0 hi)/\(-(2 ^ 62)<=hi/\hi<=bj)/\∀l,H l=none->Q (.ref l) (L2.upd H l (.tup (n_ 0 hi.toNat)))):=by
 intro aa s σ H xs us Q I r ⟨p,hi,e,hp,⟨Ic,hl⟩,q⟩
 subst e
 refine ab (vals1 r) λu ah rx=>?_
 subst ah
 cases rx
 refine NN ((show aQ X.prog X.w H s.heap p (.eL 0 hi) from I.aN p _ hp)) λt u v ho=>?_
 have eU:bj=16777216:=rfl
 have Ah:Builtin.Range.rangeSize 0 hi 1=((hi.toNat:Nat):Int):=by rw[rangeSize_one];split<;>lia
 refine xJ (n:=hi.toNat) (I.ok.hd hc) ho (small_one (by lia) (by lia) Ic (by lia)) Ah (by lia) λh' tk acc kp iP=>?_
 have I1:Inv X aa σ H {s with heap:=h'}:=I.kept (t':=s.toks) kp
 have I2:Inv X aa σ (L2.upd H h'.objs.size (.tup (n_ 0 hi.toNat))) {s with heap:=h'.push {cls:= .type "tuple",data:= .seq acc},toks:=tk}:=
  I1.laid (t':=tk) (λb o e=>W8 _ e) (Xf _) (show aQ X.prog X.w _ _ _ (.tup (n_ 0 hi.toNat)) from⟨by rw[gC,cz];lia,acc.toList,kr _ _ _ (by simpa using iP.1) (λj v hj=>by
   obtain⟨t',e'⟩:=iP.2 j v (by simpa using hj)
   exact⟨t',by rw[e'];simp⟩),by simpa using ij.new h' acc⟩)
 exact⟨.ref h'.objs.size,_,I2,rfl,q _ (I1.aN.fresh (Xf _))⟩
def Ai{q1 q0:Pos}{g:Env->Option (List D)}(hc:X.calm=true)(hg:Gl X "range")(hm:X.mg "range"=none)(MM:Gl X "tuple")(JW:X.mg "tuple"=none)(ha:PA X [a] (uI X.K false g))(hl:∀ρ ds,g ρ=some ds->ds.length=1)(hs:starEach [a] X.env=[(false,eval a X.env)]):
  PE X (.Call (.Name "tuple" q1) [.Call (.Name "range" p) [a] [] pos] [] q0) (tV X.K m λρ=>((g ρ).bind dn).map .tup):=by
 have h1:=vZ (p:=p) (pos:=pos) hg hm ha hs
 refine PE.weak (dJ (sG hc) MM JW PyProof.Rows.boot_tuple (cw h1 eO rfl) (by decide) (by decide) rfl rfl) λσ H Q zz=>ao λnO=>cL zz λO ρ d hx hd q=>ab (map_some hd) λds nV ah=>?_
 subst ah
 refine nO ?_
 clear hd
 refine ab (bind_some nV) λxs e1 hd=>?_
 clear nV
 have xi:=hl ρ xs e1
 refine⟨O,ρ,xs,hx,e1,λvs H1 s1 r=>?_⟩
 refine ao λnO=>?_
 cases xs with
 |nil=>cases xi
 |cons x t=>
  refine nO<|ao λnO=>?_
  cases t with
  |cons _ _=>cases xi
  |nil=>
   refine nO<|ab (cx r) λv aK rv=>?_
   subst aK
   refine ao λnO=>?_
   cases x with
   |int n=>
    refine nO ?_
    simp only[dn]at hd
    split at hd
    .rename_i hz
     cases hd
     cases rv.int
     exact⟨n,rfl,λp hp=>⟨p,n,rfl,ag,hz,λl hl=>q _ _ ((s1.trans (af.upd hp)).trans (af.upd hl)) (.inl (.tup (cT.of ag) (kq _ _)))⟩⟩
    .cases hd
   |_=>cases hd
theorem oQ:∀{ns:List Int}{j:Nat},eA k ns=some j->ns[j]?=some k/\∀m,m<j->ns[m]?≠some k
 |[],_,h=>by cases h
 |n::r,j,h=>by
  unfold eA at h
  split at h
  .rename_i e;cases h;subst e;exact⟨rfl,λm hm=>absurd hm (Y5 _)⟩
  .rename_i ne
   refine ab (map_some h) λi h1 ah=>?_
   subst ah
   obtain⟨h2,h3⟩:=oQ h1
   refine⟨h2,λm hm=>?_⟩
   cases m with
   |zero=>exact λz=>ne (by simpa using z)
   |succ m=>exact h3 m (by lia)
def Dw{oe a0:Expr}{ap cp:Pos}{fo:Env->Option D}{g:Env->Option (List D)}(ho:PE X oe (tV X.K true fo))(ha:PA X [a0] (uI X.K true g))(hb:attributeBase oe "index" X.env (eval oe X.env)=eval oe X.env)(hl:(ap.endLine==cp.line)=true)(hs:starEach [a0] X.env=[(false,eval a0 X.env)]):
  PE X (.Call (.Attribute oe "index" ap) [a0] [] cp) (tV X.K m λρ=>(fo ρ).bind λx=>(g ρ).bind λxs=>fj .index x xs):=
 (LB PySem.F.plainAttrs_tuple aaD PySem.F.type_tuple_index zF ho ha hb (by rw[hs];rfl) hl hs rfl).weak λσ H Q zz=>by
  refine ao λnO=>cL zz λO ρ d hx hd k=>ab (bind_some hd) λx e1 hd=>ab (bind_some hd) λxs e2 hd=>nO ?_
  have key:∃ys kk,x= .tup ys/\xs=[.int kk]/\∃ns,aB ys=some ns/\∃j:Nat,eA kk ns=some j/\d= .int (j:Int):=by
   cases x with
   |tup ys=>
    cases xs with
    |nil=>cases hd
    |cons y t=>
     cases t with
     |cons _ _=>cases y<;>cases hd
     |nil=>
      cases y with
      |int kk=>
       exact ao λnO=>ab (bind_some (show(aB ys).bind (λns=>(eA kk ns).map λ(i:Nat)=>D.int (i:Int))=some d from hd)) λns e3 h4=>ab (map_some h4) λj e4 e5=>nO<|⟨ys,kk,rfl,rfl,ns,e3,j,e4,e5.symm⟩
      |_=>cases hd
   |_=>cases hd
  refine ao λnO=>?_
  obtain⟨ys,kk,rfl,rfl,ns,e3,j,e4,rfl⟩:=key
  refine nO ?_
  refine⟨O,ρ,.tup ys,hx,e1,λv H1 s1 r1=>?_⟩
  refine ao λnO=>a_ r1.tup λa vs ah q1 p1=>?_
  subst ah
  refine nO ?_
  refine⟨⟨a,vs,rfl,q1⟩,O,ρ,[.int kk],hx.mono s1,e2,λus H2 s2 r2=>?_⟩
  refine ao λnO=>ab (cx r2) λu aK ru=>?_
  subst aK
  have hv:vs=ns.map V.int:=cv p1 e3
  subst hv
  obtain⟨h1,h2⟩:=oQ e4
  exact nO<|⟨a,ns,kk,j,rfl,by rw[ru.int],jF s2 q1,h1,h2,k _ _ (s1.trans s2) (.inl (.int _))⟩
inductive Sk where
 |tup|lst|bz (o:Obj) (ks:List (List Int)) (vs:List V)
abbrev Ke:=Option (Sk×V×List D)
def fE(K:PySem.W.Frag)(O:Addr->Prop)(H:Hp):Ke->Prop
 |none=>True
 |some (.lst,v,ds)=>∃a vs,v= .ref a/\dI K H a vs/\au K O H vs ds
 |some (.tup,v,ds)=>∃a vs,v= .ref a/\cT K H a vs/\au K O H vs ds
 |some (.bz o ks vs,v,ds)=>∃a,v= .ref a/\H a=some (.dH o (gr 0 ks vs))/\ks.length=vs.length/\mH 0 ks/\au K O H vs ds
theorem fE.mono{K:PySem.W.Frag}{O:Addr->Prop}{H H':Hp}{gm:Ke}(h:fE K O H gm)(s:af H H'):fE K O H' gm:=by
 rcases gm with _|⟨_|_|⟨o,ks,vs⟩,v,ds⟩
 .trivial
 .obtain⟨a,vs,e,h1,h2⟩:=h;exact⟨a,vs,e,jF (K:=K) s h1,h2.mono s⟩
 .obtain⟨a,vs,e,h1,h2⟩:=h;exact⟨a,vs,e,s.seq h1,h2.mono s⟩
 .obtain⟨a,e,h1,h2,h3,h4⟩:=h;exact⟨a,e,s _ _ h1,h2,h3,h4.mono s⟩
theorem fE.own{K:PySem.W.Frag}{O:Addr->Prop}{H:Hp}{gm:Ke}{p:Addr}(h:fE K O H gm)(hp:H p=none):fE K (λa=>O a\/a=p) H gm:=by
 rcases gm with _|⟨_|_|⟨o,ks,vs⟩,v,ds⟩
 .trivial
 .obtain⟨a,vs,e,h1,h2⟩:=h;exact⟨a,vs,e,h1,h2.own hp⟩
 .obtain⟨a,vs,e,h1,h2⟩:=h;exact⟨a,vs,e,h1,h2.own hp⟩
 .obtain⟨a,e,h1,h2,h3,h4⟩:=h;exact⟨a,e,h1,h2,h3,h4.own hp⟩
def Ie(K:PySem.W.Frag)(O:Addr->Prop)(b:Bool)(H:Hp):Ke->Prop
 |none=>True
 |some (.lst,v,ds)=>bR K O b H v (.lst ds)
 |some (.tup,v,ds)=>bR K O b H v (.tup ds)
 |some (.bz o ks vs,v,ds)=>fE K O H (some (.bz o ks vs,v,ds))
def Ie.ok{K:PySem.W.Frag}{O:Addr->Prop}{H:Hp}{b:Bool}{gm:Ke}(h:Ie K O b H gm):fE K O H gm:=by
 rcases gm with _|⟨_|_|⟨o,ks,vs⟩,v,ds⟩
 .trivial
 .exact bR.tup h
 .exact bR.lst h
 .exact h
def uL(K:PySem.W.Frag)(J:It)(gm:Ke)(ds:List D):Prop:=
 ∀O H,fE K O H gm->(∀i,i<ds.length->J.go i H)/\(∀i x H' d,J.yS i H x H'->ds[i]?=some d->af H H'/\br K O H' x d)/\J.stop ds.length H
def tI(K:PySem.W.Frag)(b:Bool)(f:Env->Option (List D)):TI:=λσ H R=>∃O ρ ds,EX K O σ H ρ/\f ρ=some ds/\
 ∀J gm H',af H H'->uL K J gm ds->Ie K O b H' gm->R J H'
def Ig{K:PySem.W.Frag}{a:Addr}{ds:List D}:uL K (OY K a) (some (.lst,.ref a,ds)) ds:=λO H zz=>by
 refine a_ zz λb vs e h1 h2=>?_
 cases e
 have l:=h2.length
 refine⟨λi hi=>?_,λi x H' d ⟨e,y⟩ hd=>?_,vs,h1,Zk l⟩
 .have iP:i<vs.length:=by lia
  exact⟨vs,vs[i],h1,by simp[iP]⟩
 .subst e
  refine ab (h2.get hd) λv e1 e2=>?_
  have:=y vs h1
  rw[e1]at this
  cases this
  exact⟨af.refl _,e2⟩
def Ih{K:PySem.W.Frag}{a:Addr}{ds:List D}:uL K (OZ K a) (some (.tup,.ref a,ds)) ds:=λO H zz=>by
 refine a_ zz λb vs e h1 h2=>?_
 cases e
 have l:=h2.length
 refine⟨λi hi=>?_,λi x H' d ⟨e,y⟩ hd=>?_,vs,h1,Zk l⟩
 .have iP:i<vs.length:=by lia
  exact⟨vs,vs[i],h1,by simp[iP]⟩
 .subst e
  refine ab (h2.get hd) λv e1 e2=>?_
  have:=y vs h1
  rw[e1]at this
  cases this
  exact⟨af.refl _,e2⟩
theorem gD:∀(n:Nat) (lo:Int),(bA lo n).length =n
 |0,_=>rfl
 |n+1,lo=>by rw[bA,Xt,gD n]
theorem sH:∀(n:Nat) (lo:Int) (i:Nat) (d:D),(bA lo n)[i]?=some d->d= .int (lo+i)
 |0,lo,i,d,h=>by simp[bA]at h
 |n+1,lo,0,d,h=>by simp[bA]at h;subst h;simp
 |n+1,lo,i+1,d,h=>by
  simp[bA]at h
  rw[sH n (lo+1) i d h]
  congr 1
  push_cast
  lia
def Ii{K:PySem.W.Frag}{lo:Int}{n:Nat}:uL K (NV lo n) none (bA lo n):=λO H _=>by
 refine⟨λi hi=>?_,λi x H' d ⟨e,y⟩ hd=>?_,?_⟩
 .rw[gD]at hi;exact hi
 .subst e y
  rw[sH n lo i d hd]
  exact⟨af.refl _,.int _⟩
 .show n<=(bA lo n).length
  rw[gD];exact Xf _
def QK(h:PE X a (tV X.K m f)):PI X tg a (tI X.K m λρ=>(f ρ).bind seq):=by
 intro aa s σ H R I ⟨O,ρ,ds,hx,hd,q⟩
 refine ab (bind_some hd) λd e1 hd=>aW (h aa s σ H (λv H1=>af H H1/\bR X.K O m H1 v d) I ⟨O,ρ,d,hx,e1,λv H' s' r'=>⟨s',r'⟩⟩) λv s1 zz=>ao λnO=>gq zz λx H1 I1 r1 s' rb=>nO<|YF λnO=>?_
 cases d with
 |lst xs=>
  refine nO<|ao λnO=>?_
  cases hd
  refine a_ rb.lst λp vs ah h1 h2=>?_
  subst ah
  cases r1
  refine bF (I1.list h1) λits rv pl hz=>nO<|Zt pl.isList ?_
  refine⟨s1.heap.objs.size,[s1.heap.objs.size],_,OY X.K p,H1,rfl,I1.kept (t':=s1.toks) λb o e=>W8 _ e,xl p _,⟨_,Xp _ rfl,rfl,rfl⟩,λb hb=>?_,q _ (some (.lst,.ref p,ds)) H1 s' Ig rb⟩
  have e:b=s1.heap.objs.size:=by simpa using hb
  subst e
  exact I1.xk (Xf _) (I1.aN.fresh (Xf _))
 |tup xs=>
  refine nO<|ao λnO=>?_
  cases hd
  refine a_ rb.tup λp vs aK h1 h2=>?_
  subst aK
  cases r1
  refine bF (I1.tuple h1) λits rv pl hz=>nO<|Zi (show s1.heap.IsTuple p its.toArray from pl) ?_
  refine⟨s1.heap.objs.size,[s1.heap.objs.size],_,OZ X.K p,H1,rfl,I1.kept (t':=s1.toks) λb o e=>W8 _ e,tZ p _,⟨_,Xp _ rfl,rfl,rfl⟩,λb hb=>?_,q _ (some (.tup,.ref p,ds)) H1 s' Ih rb⟩
  have e:b=s1.heap.objs.size:=by simpa using hb
  subst e
  exact I1.xk (Xf _) (I1.aN.fresh (Xf _))
 |_=>cases hd
theorem dw:∀(xs:List D) (k:Int),(bO k xs).length =xs.length
 |[],_=>rfl
 |_::r,k=>by rw[bO,Xt,Xt,dw r]
theorem jI:∀(xs:List D) (k:Int) (i:Nat) (d:D),(bO k xs)[i]?=some d->∃y,xs[i]?=some y/\d= .tup [.int (k+i),y]
 |[],_,_,_,h=>by simp[bO]at h
 |x::r,k,0,d,h=>by
  simp[bO]at h
  exact⟨x,rfl,by rw[<-h];simp⟩
 |x::r,k,i+1,d,h=>by
  refine ab (jI r (k+1) i d (by simpa[bO]using h)) λy h1 h2=>⟨y,by simpa using h1,?_⟩
  rw[h2,show k+1+(i:Int)=k+((i+1:Nat):Int) by push_cast;lia]
def Aj{K:PySem.W.Frag}{k:Sk}{a:Addr}{ds:List D}{Sq:Hp->List V->Prop}(hS:∀O H,fE K O H (some (k,.ref a,ds))->∃vs,Sq H vs/\au K O H vs ds):uL K (N6 Sq) (some (k,.ref a,ds)) (bO 0 ds):=λO H h=>by
 obtain⟨vs,hq,hr⟩:=hS O H h
 have hl:=hr.length
 refine⟨λi hi=>?_,λi x H' d hy hd=>?_,?_⟩
 .rw[dw,<-hl]at hi
  exact⟨vs,vs[i],hq,by simp[hi]⟩
 .obtain⟨t,y,ht,rfl,rfl,hy⟩:=hy
  obtain⟨z,h1,rfl⟩:=jI ds 0 i d hd
  obtain⟨v,e1,e2⟩:=hr.get h1
  have:y=v:=by
   have q:=hy vs hq
   rw[e1]at q
   exact(Xw q).symm
  subst this
  refine⟨af.upd ht,.tup (cT.of ag) (.cons ?_ (.cons (e2.mono (af.upd ht)) .nil))⟩
  have e0:(0:Int)+(i:Int)=i:=by lia
  rw[e0]
  exact .int _
 .exact⟨vs,hq,by rw[dw];exact hl⟩
def MN{elts:List Expr}{k0:Nat}{tpos:Pos}{f:Env->Option D}(hg:Gl X "enumerate")(hm:X.mg "enumerate"=none)(ha:PE X a (tV X.K m f))(hs:starEach [a] X.env=[(false,eval a X.env)]):
  PI X (.Tuple elts k0 tpos) (.Call (.Name "enumerate" p) [a] [] pos) (tI X.K m λρ=>(f ρ).bind λx=>(seq x).map (bO 0)):=by
 have h1:=CK (X:=X) (a:=a) (p:=p) (pos:=pos) (elts:=elts) (k0:=k0) (tpos:=tpos) hg hm (cw ha eO hs) hs
 intro aa s σ H R I ⟨O,ρ,ds,hx,hd,q⟩
 refine ao λnO=>ab (bind_some hd) λx e1 hd=>ab (map_some hd) λxs e2 ah=>?_
 subst ah
 refine nO ?_
 refine h1 aa s σ H R I ⟨O,ρ,x,hx,e1,λv H1 s1 r1=>?_⟩
 refine ao λnO=>?_
 cases x with
 |tup ys=>
  refine nO<|ao λnO=>?_
  cases e2
  refine a_ r1.tup λb vs aK q1 p1=>?_
  subst aK
  refine nO ?_
  refine⟨b,vs,rfl,.inl ⟨q1,q _ (some (.tup,.ref b,xs)) H1 s1 (Aj λO' H' h=>?_) r1⟩⟩
  refine ao λnO=>a_ h λc us e h2 h3=>?_
  cases e
  exact nO<|⟨us,h2,h3⟩
 |lst ys=>
  refine nO<|ao λnO=>?_
  cases e2
  refine a_ r1.lst λb vs cQ q1 p1=>?_
  subst cQ
  refine nO ?_
  refine⟨b,vs,rfl,.inr ⟨q1,q _ (some (.lst,.ref b,xs)) H1 s1 (Aj λO' H' h=>?_) r1⟩⟩
  refine ao λnO=>a_ h λc us e h2 h3=>?_
  cases e
  exact nO<|⟨us,h2,h3⟩
 |_=>cases e2
def Ak{κ:Type}{f:List Int->κ}{ks:List (List Int)}{vs:List V}(hl:ks.length=vs.length){i:Nat}(hi:i<ks.length):((ks.map f).zip vs)[i]?=some (f ks[i],vs[i]'(hl▸hi)):=
 List.getElem?_zip_eq_some.mpr ⟨by rw[Xn,W9 hi];rfl,W9 (hl▸hi)⟩
def jJ:gr 0 ks vs= .dK ((ks.map λk=>(Sum.inl (k.headD 0):cM)).zip vs):=by unfold gr;rw[Xs rfl]
def Dx{K:PySem.W.Frag}{a:Addr}{o:Obj}{ks:List (List Int)}{vs:List V}{ds:List D}(hl:ks.length=vs.length):uL K (P8 a o ((ks.map λk=>(Sum.inl (k.headD 0):cM)).zip vs)) (some (.bz o ks vs,.ref a,ds)) (ks.map λk=> .int (k.headD 0)):=λO H zz=>by
 refine JN zz λb e h1 h2 h3 h4=>?_
 cases e
 rw[jJ]at h1
 have len:((ks.map λk=>(Sum.inl (k.headD 0):cM)).zip vs).length =ks.length:=by rw[ZT,Xb,hl,aas]
 refine⟨λi hi=>⟨h1,by rw[len];simpa using hi⟩,λi x H' d ⟨e,y⟩ hd=>?_,h1,by rw[len,Xb]⟩
 subst e
 have hi:i<ks.length:=by
  have:=(Xu.mp hd).1
  simpa using this
 rw[Ak hl hi]at y
 rw[Xn,W9 hi]at hd
 cases hd
 cases y
 exact⟨af.refl _,.int _⟩
def Dy{K:PySem.W.Frag}{a:Addr}{o:Obj}{ks:List (List Int)}{vs:List V}{ds:List D}(hl:ks.length=vs.length)(nJ:vs.length=ds.length):uL K (Qy a o ((ks.map λk=>(Sum.inl (k.headD 0):cM)).zip vs)) (some (.bz o ks vs,.ref a,ds)) ds:=λO H zz=>by
 refine JN zz λb e h1 h2 h3 h4=>?_
 cases e
 rw[jJ]at h1
 have len:((ks.map λk=>(Sum.inl (k.headD 0):cM)).zip vs).length =ks.length:=by rw[ZT,Xb,hl,aas]
 refine⟨λi hi=>⟨h1,by rw[len];lia⟩,λi x H' d ⟨e,y⟩ hd=>?_,h1,by rw[len];lia⟩
 subst e
 refine ab (h4.get hd) λv e1 e2=>?_
 have hi:i<ks.length:=by
  have:=(Xu.mp e1).1
  lia
 rw[Ak hl hi]at y
 cases y
 rw[W9 (by lia)]at e1
 cases e1
 exact⟨af.refl _,e2⟩
def EX.MO{K:PySem.W.Frag}{O:Addr->Prop}{H:Hp}{σ:St}{ρ:Env}(hx:EX K O σ H ρ){i:Nat}{ks:List (List Int)}{ds:List D}(h:ρ[i]?=some (some (false,.bz 0 ks ds))):∃a o vs,σ[i]?=some (some (.ref a))/\H a=some (.dH o (gr 0 ks vs))/\ks.length=vs.length/\mH 0 ks/\au K O H vs ds:=by
 refine ab (hx.kU i false _ h) λv q1 q2=>?_
 have Vq:br K O H v (.bz 0 ks ds):=q2
 cases Vq with
 |bz g1 g2 g3 g4=>exact⟨_,_,_,q1,g1,g2,g3,g4⟩
def QL{tg:Expr}{j:Nat}(hj:PE X a (dA j)):PI X tg a (tI X.K m λρ=>keysAt ρ j):=by
 intro aa s σ H R I ⟨O,ρ,ds,hx,hd,q⟩
 have hd:keysAt ρ j=some ds:=hd
 unfold keysAt at hd
 split at hd
 .rename_i ks xs e
  refine ao λnO=>?_
  cases hd
  refine tW (hx.MO e) λb o vs e1 e2 e3 e4 e5=>nO ?_
  refine LJ hj aa s σ H R I ⟨.ref b,e1,b,o,_,rfl,by rw[e2,jJ],q _ (some (.bz o ks vs,.ref b,xs)) H (af.refl _) (Dx e3) ⟨b,rfl,e2,e3,e4,e5⟩⟩
 .cases hd
def QM{tg:Expr}{j:Nat}{ap cp:Pos}(hj:PE X a (dA j))(ji:attributeBase a "values" X.env (eval a X.env)=eval a X.env)(jj:(ap.endLine==cp.line)=true):PI X tg (.Call (.Attribute a "values" ap) [] [] cp) (tI X.K m λρ=>pV ρ j):=by
 intro aa s σ H R I ⟨O,ρ,ds,hx,hd,q⟩
 have hd:pV ρ j=some ds:=hd
 unfold pV at hd
 split at hd
 .rename_i ks xs e
  refine ao λnO=>?_
  cases hd
  refine tW (hx.MO e) λb o vs e1 e2 e3 e4 e5=>nO ?_
  refine Mr hj ji jj aa s σ H R I ⟨.ref b,e1,b,o,_,rfl,by rw[e2,jJ],q _ (some (.bz o ks vs,.ref b,ds)) H (af.refl _) (Dy e3 e5.length) ⟨b,rfl,e2,e3,e4,e5⟩⟩
 .cases hd
end
section
variable {X:Cx}{a b c e:Expr}{es:List Expr}{pos p:Pos}{m:Bool}
def EX.ext{K:PySem.W.Frag}{O:Addr->Prop}{σ:St}{H1 H:Hp}{ρ:Env}{p:Addr}{vs:List V}(h:EX K O σ H1 ρ)(hp:H1 p=none)(s:af H1 H)(e:H p=some (.lst vs)):EX K (λa=>O a\/a=p) σ H ρ:=by
 refine⟨λa ha=>?_,λi o d hi=>?_⟩
 .rcases ha with ha|ha
  .exact ab (h.live a ha) λus q qo=>⟨us,s _ _ q,qo⟩
  .subst ha;exact⟨_,e,trivial⟩
 .refine ab (h.kU i o d hi) λv h1 h2=>⟨v,h1,?_⟩
  cases o with
  |true=>
   exact bF h2 λa e1 e2 c=>⟨a,e1,.inl e2,(c.own hp).mono s⟩
  |false=>exact(br.own h2 hp).mono s
def x8(h:o.join=some x):o=some (some x):=by
 cases o with
 |none=>cases h
 |some y=>cases y with
  |none=>cases h
  |some z=>cases h;rfl
theorem EX.inner{K:PySem.W.Frag}{O:Addr->Prop}{σ:St}{H:Hp}{ρ:Env}(h:EX K O σ H ρ){us:List V}{ys:List D}(r:au K O H us ys)(fr:List Nat):EX K O (us.map some++jk fr σ) H (inner ys ρ fr):=by
 refine⟨h.live,λi o d' hi=>?_⟩
 unfold Py.inner at hi
 have hl:=r.length
 by_cases bJ:i<ys.length
 .rw[XZ (by simpa using bJ),Xn]at hi
  obtain⟨y,e1,e2⟩:=map_some hi
  cases e2
  obtain⟨v,f1,f2⟩:=r.get e1
  exact⟨v,by rw[XZ (by simpa[hl]using bJ),Xn,f1];rfl,f2⟩
 .rw[X4 (by simpa using bJ),Xb]at hi
  unfold zw at hi
  rw[Xn]at hi
  refine ab (map_some hi) λi0 e0 hj=>ab (h.kU i0 o d' (x8 hj)) λw h1 h2=>⟨w,?_,h2⟩
  rw[X4 (by simpa[hl]using bJ),Xb,hl]
  unfold jk
  rw[Xn,e0]
  show some (σ[i0]?).join =_
  rw[h1]
  rfl
noncomputable def oS(tg:Nat)(fs:Env->Option Bool)(fe:Env->Option D)(fr:List Nat)(ρ:Env)(y:D):Option (Option D):=(aG tg y).bind λys=>(fs (inner ys ρ fr)).bind λk=>if k then(fe (inner ys ρ fr)).map some else some none
def SV(K:PySem.W.Frag)(k tg:Nat)(g:TG):Prop:=∀O x H d ys bG Q,br K O H x d->aG tg d=some ys->(∀us,au K O H us ys->Q (us.map some++bG) H)->g x (List.replicate k none++bG) H Q
def MP{K:PySem.W.Frag}:SV K 1 0 (cI 0):=λO x H d ys bG Q r e q=>by
 cases e
 exact q [x] (.cons r .nil)
def oT{K:PySem.W.Frag}{fr:List Nat}{fi:Env->Option (List D)}{fs:Env->Option Bool}{fe:Env->Option D}{k tg:Nat}{g:TG}(hg:SV K k tg g)(σ:St)(H:Hp)(Q:VK)
  (h:tF K (λρ=>(fi ρ).bind λxs=>if xs.length<=bj then walk (oS tg fs fe fr ρ) xs else none) σ H Q):oC k fr (tI K true fi) g (tB K fs) (tV K false fe) σ H Q:=by
 refine cL h λO ρ out hx hd q=>ab (bind_some hd) λxs e1 hd=>?_
 split at hd
 .rename_i hz
  refine⟨O,ρ,xs,hx,e1,λJ gm H1 s1 An sJ p hp=>?_⟩
  have sL:=hx.mono s1
  have Ij:fE K (λa=>O a\/a=p) H1 gm:=sJ.ok.own hp
  refine⟨λi m H'=>m=xs.length-i/\i<=xs.length/\af H1 H'/\∃vs ys bG,H' p=some (.lst vs)/\au K (λa=>O a\/a=p) H' vs ys/\ys.length<=i/\walk (oS tg fs fe fr ρ) (xs.drop i)=some bG/\out=ys++bG,
   ⟨xs.length,rfl,XQ _,af.upd hp,[],[],out,ag,.nil,Xf _,hd,rfl⟩,?_⟩
  rintro i mm H2 ⟨rfl,hi,s2,vs,ys,bG,ep,rp,hl,hw,ho⟩
  refine cS (An _ H2 (Ij.mono s2)) λgo yS stop=>?_
  by_cases bJ:i<xs.length
  .refine .inr ⟨go i bJ,λx H3 hy=>?_⟩
   have QN:xs[i]?=some xs[i]:=by simp[bJ]
   obtain⟨s3,rx⟩:=yS i x H3 _ hy QN
   have MQ:H3 p=some (.lst vs):=s3 _ _ ep
   have QO:EX K (λa=>O a\/a=p) σ H3 ρ:=sL.ext hp (s2.trans s3) MQ
   have dr:xs.drop i=xs[i]::xs.drop (i+1):=(X9 bJ)
   rw[dr,walk]at hw
   have ht:oS tg fs fe fr ρ xs[i]=(aG tg xs[i]).bind λys=>(fs (Py.inner ys ρ fr)).bind λk=>if k then(fe (Py.inner ys ρ fr)).map some else some none:=rfl
   rw[ht]at hw
   cases QP:aG tg xs[i]with
   |none=>rw[QP]at hw;cases hw
   |some zs=>
   rw[QP,YC]at hw
   refine hg _ x H3 _ zs _ _ rx QP λus Vr=>?_
   have MR:=QO.inner Vr fr
   cases ek:fs (Py.inner zs ρ fr)with
   |none=>rw[ek]at hw;cases hw
   |some k=>
    rw[ek]at hw
    refine⟨_,_,k,MR,ek,λH4 s4=>?_⟩
    have SW:H4 p=some (.lst vs):=s4 _ _ MQ
    cases k with
    |false=>
     refine lu ⟨xs.length-(i+1),by omega,rfl,bJ,(s2.trans s3).trans s4,vs,ys,bG,SW,rp.mono (s3.trans s4),Nat.le_succ_of_le hl,?_,ho⟩
     simpa using hw
    |true=>
     cases ee:fe (Py.inner zs ρ fr)with
     |none=>rw[YC,Xs rfl,ee]at hw;cases hw
     |some d=>
      rw[YC,Xs rfl,ee]at hw
      simp only[ZN]at hw
      refine ab (map_some hw) λAo v8 Dt=>j7 ⟨_,_,d,MR.mono s4,ee,λv H5 s5 r5=>?_⟩
      have SY:H5 p=some (.lst vs):=s5 _ _ SW
      have Vs:af H1 H5:=((s2.trans s3).trans s4).trans s5
      refine⟨vs,xs.length-(i+1),SY,by rw[rp.length,cz];omega,by omega,rfl,bJ,λbb oo eb=>?_,vs++[v],ys++[d],Ao,ag,?_,?_,v8,?_⟩
      .rw[ak (bY eb hp)];exact Vs _ _ eb
      .exact((rp.mono ((s3.trans s4).trans s5)).append (.cons r5.own .nil)).upd (.inr rfl) SY trivial
      .rw[Xk,XG];omega
      .rw[ho,<-Dt,XI];rfl
  .have ei:i=xs.length:=by omega
   subst ei
   refine .inl ⟨stop,?_⟩
   rw[abb,walk]at hw
   cases hw
   rw[X7]at ho
   subst ho
   have Vt:H p=none:=by
    cases z:H p with
    |none=>rfl
    |some o=>rw[s1 _ _ z]at hp;cases hp
   let H0:Hp:=λb=>if b=p then none else H2 b
   have e0:L2.upd H0 p (.lst vs)=H2:=by
    funext b
    unfold L2.upd
    by_cases hb:b=p
    .rw[Xs hb,hb,ep]
    .rw[Xx hb];exact Xx hb
   have k0:∀b,b≠p->H0 b=H2 b:=λb hb=>Xx hb
   rw[<-e0]
   refine q p vs H0 (λb o eb=>?_) (Xs rfl) ?_
   .rw[k0 b (λz=>by rw[z,Vt]at eb;cases eb)]
    exact s2 _ _ (s1 _ _ eb)
   .refine fC (λb us hb=>?_) (λb us hb nb=>⟨?_,λz=>nb (Or.inl z)⟩) (λb o u hb=>by rw[k0 b (f7 hb ep (by intro z;cases z))];exact hb) rp
    .have j6:H2 b=some (.tup us):=hb
     show H0 b=some (.tup us)
     rw[k0 b (f7 j6 ep (by intro z;cases z))];exact j6
    .rcases hb with hb|⟨u,hb⟩
     .exact .inl (by rw[k0 b (λz=>nb (.inr z))];exact hb)
     .exact .inr ⟨u,by rw[k0 b (λz=>nb (.inr z))];exact hb⟩
 .cases hd
def Og:pT 1 (cI 0):=λx σ H Q h=>⟨h,X1 ..,λi hi=>by rw[XA (by omega)]⟩
def Ik(hi:PI X (.Name x q) iter (tI X.K true fi))(S:Hj X.N X.env.scope sc N' 1 fr)(hc:X.calm=true)
  (Hk:∀cl C aa s H ex,PG (ir X sc cl C N' aa s H ex) (.Name x q) (cI 0)/\xC (ir X sc cl C N' aa s H ex) ifs (tB X.K fs)/\PE (ir X sc cl C N' aa s H ex) dQ (tV X.K false fe))
  (hs:∀x,foldedSetIterable iter X.env x=pure x):PE X (.ListComp dQ [⟨.Name x q,iter,ifs,0⟩] sc pos) (tF X.K λρ=>(fi ρ).bind λxs=>if xs.length<=bj then walk (oS 0 fs fe fr ρ) xs else none):=
 (vt hi S hc Og Hk hs).weak λσ H Q h=>oT MP σ H Q h
def Ap:xC X [] (tB X.K λ_=>some true):=λaa s σ H Q I zz=>by
 refine ao λnO=>cL zz λO ρ k hx hd q=>?_
 cases hd
 exact nO<|CD aa s σ H Q I (q H (af.refl _))
def Dz{f:Env->Option D}{g:Env->Option Bool}(h:PT X c (tB X.K λρ=>(f ρ).bind eX))(hr:xC X es (tB X.K g)):xC X (c::es) (tB X.K λρ=>((f ρ).bind eX).bind λx=>if x=true then g ρ else some x):=λaa s σ H Q I zz=>by
 refine cL zz λO ρ k hx hd q=>ab (bind_some hd) λx e1 hd=>zo h hr aa s σ H Q I ⟨O,ρ,x,hx,e1,λH1 s1=>?_⟩
 cases x with
 |true=>exact j7 ⟨O,ρ,k,hx.mono s1,by rw[Xs rfl]at hd;exact hd,λH2 s2=>q H2 (s1.trans s2)⟩
 |false=>rw[Xx Xa]at hd;cases hd;exact lu (q H1 s1)
end
abbrev GT:=List Str×List (Str×Int)
noncomputable def qm(sc:Scope)(x:Str):Bool:=match sc.names.lookup x with|some .local =>true|some .cell =>true|some .free =>true|_=>false
noncomputable def jK(sc:Scope)(x:Str):Bool:=match sc.names.lookup x with|some .globalImplicit =>true|_=>false
noncomputable def x_(x:Str):Bool:=!(x==("__debug__":Str))&&!(x==("__classdict__":Str))
noncomputable def bI:Expr->Bool| .Starred _ _=>false|_=>true
noncomputable def b_:Expr->Bool| .Slice _ _ _ _=>false|_=>true
noncomputable def fW:Expr->Bool| .Set _ _ _=>false|_=>true
noncomputable def Aq:Expr->Bool| .Name _ _=>true| .Subscript _ _ _=>true| .Constant _ _ _=>true|_=>false
noncomputable def FP:Const->Bool| .int i=>decide (i=1)|_=>false
noncomputable def S0:D->Const->Bool
 | .dj,.none =>true
 | .bl b,.bool c=>b==c
 | .int i,.int j=>decide (i=j)
 | .str i,.str j=>decide (i=j)
 |_,_=>false
noncomputable def MS(G:GT)(x:Str):D->Bool| .int i=>decide ((x,i)∈G.2)|_=>false
noncomputable def k7(sc zp:Scope):Scope:={sc with names:=sc.names.map λ(n,k)=>if(k == .free&&zp.kind == .function&&zp.names.lookup n==some .cell) then(n,.cell) else(n,k)}
noncomputable def og(N:List Str)(xs:List Str)(fr:List Nat):List Str:=xs++fr.map λi=>N.getD i ""
noncomputable def ya(N:List Str)(zp sc:Scope)(xs:List Str)(fr:List Nat):Bool:=
 decide (sc.kind= .function)&&sc.names.all (λy=>decide (y.2= .free ->(y.1,NameKind.cell)∉sc.names))&&sc.names.all (λy=>decide (y.2= .local ->sc.names.lookup y.1=some .local)) &&
 sc.names.all (λy=>decide (y.2= .free ->zp.names.lookup y.1=some .cell \/zp.names.lookup y.1=some .free)) &&
 fr.all (λi=>match N[i]? with|some y=>decide (sc.names.lookup y=some .free)|none=>false)&&xs.all (λx=>decide (sc.names.lookup x=some .local \/sc.names.lookup x=some .cell))&&decide (og N xs fr).Nodup
noncomputable def DA(_:E):Bool:=true
noncomputable def fresh:E->Bool
 | .lst _=>true
 | .comp _ _ _ _ _=>true
 | .bin .Add _ _=>true
 | .prim .list _=>true
 | .gW .list _=>true
 | .sl _ _ _=>true
 |_=>false
noncomputable def dF(N:List Str)(sc:Scope)(i:Nat)(e:Expr):Bool:=match e with| .Name x _=>decide (N[i]?=some x)&&qm sc x&&x_ x|_=>false
noncomputable def fX(e:Expr)(k:Str->Bool):Bool:=match e with| .Name x _=>k x|_=>false
noncomputable def uM(e:Expr)(k:Expr->List Expr->Pos->Bool):Bool:=match e with| .Call f a s p=>s.isEmpty&&k f a p|_=>false
noncomputable def As(e:Expr)(k:Expr->Str->Pos->Bool):Bool:=match e with| .Attribute o n p=>k o n p|_=>false
noncomputable def oU(e:Expr)(k:Expr->Expr->Bool):Bool:=match e with| .Subscript v s _=>k v s|_=>false
noncomputable def uN(e:Expr)(k:List (Option Expr)->List Expr->Bool):Bool:=match e with| .Dict a b _=>k a b|_=>false
noncomputable def Il(e:Expr)(k:Expr->List Comprehension->Scope->Bool):Bool:=match e with| .ListComp a b c _=>k a b c|_=>false
noncomputable def Au(e:Expr)(k:Expr->List CmpOp->List Expr->Bool):Bool:=match e with| .Compare l a b _=>k l a b|_=>false
noncomputable def sM(st:Stmt)(k:List Expr->Expr->Bool):Bool:=match st with| .Assign t v _=>k t v|_=>false
noncomputable def qp(st:Stmt)(k:Expr->Bool):Bool:=match st with| .Expr e _=>k e|_=>false
noncomputable def oV(l:List α)(k:α->Bool):Bool:=match l with|[]=>false|a::r=>r.isEmpty&&k a
noncomputable def MT(l:List α)(k:α->α->Bool):Bool:=match l with|[]=>false|a::r=>oV r (k a)
noncomputable def uO(o:Option α)(k:α->Bool):Bool:=match o with|none=>false|some a=>k a
noncomputable def mN(e:Expr)(k:Str->List Expr->Bool):Bool:=uM e λf a _=>fX f λx=>k x a
noncomputable def mO(e:Expr)(k:Expr->Str->List Expr->Bool->Bool):Bool:=uM e λf a cp=>As f λo n ap=>k o n a (ap.endLine==cp.line)
noncomputable def uP(st:Stmt)(k:Str->Expr->Bool):Bool:=sM st λt v=>oV t λe=>fX e λx=>k x v
noncomputable def Im(e:Expr)(k:Expr->CmpOp->Expr->Bool):Bool:=Au e λl a b=>oV a λo=>oV b λr=>k l o r
noncomputable def sN(e:Expr)(k:Str->Expr->Bool):Bool:=mN e λx a=>oV a (k x)
section
variable {e:Expr}{st:Stmt}
def cF(h:fX e k=true):∃x p,e= .Name x p/\k x=true:=by
 cases e with
 |Name x p=>exact⟨x,p,rfl,h⟩
 |_=>cases h
def oX(h:uM e k=true):∃f a p,e= .Call f a [] p/\k f a p=true:=by
 cases e with
 |Call f a s p=>
  have h':(s.isEmpty&&k f a p)=true:=h
  rw[W7]at h'
  cases s with
  |nil=>exact⟨f,a,p,rfl,h'.2⟩
  |cons _ _=>cases h'.1
 |_=>cases h
def yb(h:As e k=true):∃o n p,e= .Attribute o n p/\k o n p=true:=by
 cases e with
 |Attribute o n p=>exact⟨o,n,p,rfl,h⟩
 |_=>cases h
def jL(h:oU e k=true):∃v s p,e= .Subscript v s p/\k v s=true:=by
 cases e with
 |Subscript v s p=>exact⟨v,s,p,rfl,h⟩
 |_=>cases h
def oY(h:uN e k=true):∃a b p,e= .Dict a b p/\k a b=true:=by
 cases e with
 |Dict a b p=>exact⟨a,b,p,rfl,h⟩
 |_=>cases h
def v_(h:Il e k=true):∃a b c p,e= .ListComp a b c p/\k a b c=true:=by
 cases e with
 |ListComp a b c p=>exact⟨a,b,c,p,rfl,h⟩
 |_=>cases h
def sO(h:Au e k=true):∃l a b p,e= .Compare l a b p/\k l a b=true:=by
 cases e with
 |Compare l a b p=>exact⟨l,a,b,p,rfl,h⟩
 |_=>cases h
def jM(h:sM st k=true):∃t v p,st= .Assign t v p/\k t v=true:=by
 cases st with
 |Assign t v p=>exact⟨t,v,p,rfl,h⟩
 |_=>cases h
def ku(h:qp st k=true):∃e p,st= .Expr e p/\k e=true:=by
 cases st with
 |Expr e p=>exact⟨e,p,rfl,h⟩
 |_=>cases h
def bS{l:List α}(h:oV l k=true):∃a,l=[a]/\k a=true:=by
 cases l with
 |nil=>cases h
 |cons a r=>
  have h':(r.isEmpty&&k a)=true:=h
  rw[W7]at h'
  cases r with
  |nil=>exact⟨a,rfl,h'.2⟩
  |cons _ _=>cases h'.1
def qq{l:List α}(h:MT l k=true):∃a b,l=[a,b]/\k a b=true:=by
 cases l with
 |nil=>cases h
 |cons a r=>exact ab (bS (show oV r (k a)=true from h)) λb e q=>⟨a,b,by rw[e],q⟩
def oZ{o:Option α}(h:uO o k=true):∃a,o=some a/\k a=true:=by
 cases o with
 |none=>cases h
 |some a=>exact⟨a,rfl,h⟩
def fF(h:mN e k=true):∃x q a p,e= .Call (.Name x q) a [] p/\k x a=true:=
 lG (oX h) λf a p e1 h=>eW (cF h) λx q e2 h=>⟨x,q,a,p,by rw[e1,e2],h⟩
def fG(h:mO e k=true):∃o n ap a cp,e= .Call (.Attribute o n ap) a [] cp/\k o n a (ap.endLine==cp.line)=true:=
 lG (oX h) λf a p e1 h=>lG (yb h) λo n ap e2 h=>⟨o,n,ap,a,p,by rw[e1,e2],h⟩
def g_(h:uP st k=true):∃x px v p,st= .Assign [.Name x px] v p/\k x v=true:=
 lG (jM h) λt v p e1 h=>ab (bS h) λa e2 h=>eW (cF h) λx q e3 h=>⟨x,q,v,p,by rw[e1,e2,e3],h⟩
def wa(h:Im e k=true):∃l o r p,e= .Compare l [o] [r] p/\k l o r=true:=
 nI (sO h) λl a b p e1 h=>ab (bS h) λo e2 h=>ab (bS h) λr e3 h=>⟨l,o,r,p,by rw[e1,e2,e3],h⟩
def jN(h:sN e k=true):∃x q a p,e= .Call (.Name x q) [a] [] p/\k x a=true:=
 nI (fF h) λx q a p e1 h=>ab (bS h) λb e2 h=>⟨x,q,b,p,by rw[e1,e2],h⟩
end
mutual
noncomputable def bx(G:GT):E->List Str->Scope->Expr->Bool
 | .var i,N,sc,e=>match e with| .Name x _=>decide (N[i]?=some x)&&qm sc x&&x_ x|_=>false
 | .c d,_,sc,e=>match e with| .Constant c _ _=>S0 d c| .Name x _=>jK sc x&&x_ x&&MS G x d|_=>false
 | .bin o a b,N,sc,e=>match e with| .BinOp l op r _=>decide (o=op)&&bx G a N sc l&&bx G b N sc r|_=>false
 | .cmp o a b,N,sc,e=>Im e λl op r=>decide (o=op)&&bx G a N sc l&&bx G b N sc r&&fW r
 | .f_ k es,N,sc,e=>match e with| .BoolOp op vs _=>decide (op=bo k)&&!vs.isEmpty&&mP G es N sc vs|_=>false
 | .not a,N,sc,e=>match e with| .UnaryOp op x _=>decide (op= .Not)&&bx G a N sc x&&DA a|_=>false
 | .neg a,N,sc,e=>match e with| .UnaryOp op x _=>decide (op= .USub)&&bx G a N sc x|_=>false
 | .fQ a b,N,sc,e=>mN e λx as=>MT as λa0 t=>fX t λy=>decide (x="isinstance")&&decide (y=Str.ofString (xZ b))&&jK sc x&&jK sc y&&bx G a N sc a0&&bI a0
 | .chain o o' a b c,N,sc,e=>Au e λl ops rs=>MT ops λop tT=>MT rs λr t=>decide (o=op)&&decide (o'=tT)&&bx G a N sc l&&bx G b N sc r&&bx G c N sc t&&fW t
 | .rev a,N,sc,e=>oU e λv s=>match s with
  | .Slice none none (some (.UnaryOp op (.Constant c _ _) _)) _=>decide (op= .USub)&&FP c&&bx G a N sc v
  |_=>false
 | .tup es,N,sc,e=>match e with| .Tuple xs _ _=>dX G es N sc xs|_=>false
 | .lst es,N,sc,e=>match e with| .List xs _=>dX G es N sc xs|_=>false
 | .idx a i,N,sc,e=>match e with| .Subscript v s _=>bx G a N sc v&&bx G i N sc s&&b_ s|_=>false
 | .sl a lo hi,N,sc,e=>match e with
  | .Subscript v s _=>match s with
   | .Slice l h st _=>st.isNone&&bx G a N sc v&&FQ G lo N sc l&&FQ G hi N sc h
   |_=>false
  |_=>false
 | .call f es,N,sc,e=>mN e λx as=>decide (G.1[f]?=some x)&&jK sc x&&x_ x&&!as.isEmpty&&dX G es N sc as
 | .prim q es,N,sc,e=>mN e λx as=>decide (x=iG q)&&jK sc x&&!as.isEmpty&&dX G es N sc as
 | .gW q es,N,sc,e=>sN e λx ar=>sN ar λy a0=>(decide (q= .list)||decide (q= .tuple))&&decide (x=iG q)&&decide (y="range")&&jK sc x&&jK sc y&&dX G es N sc [a0]
 | .fj mm o es,N,sc,e=>mO e λoe nm as b=>oV as λa0=>decide (nm="index")&&Aq oe&&b&&bx G o N sc oe&&dX G es N sc [a0]
 | .comp fr tg it ifs dQ,N,sc,e=>Il e λel gs gE=>oV gs λg=>fX g.target λx=>decide (tg=0)&&decide (g.is_async=0)&&fW g.iter&&ya N sc gE [x] fr&&DB G it N sc g.iter&&mP G ifs (og N [x] fr) (k7 gE sc) g.ifs&&bx G dQ (og N [x] fr) (k7 gE sc) el
 | .dC i k,N,sc,e=>match e with| .Subscript v s _=>dF N sc i v&&bx G k N sc s&&b_ s|_=>false
 | .vw neg k i,N,sc,e=>Im e λl op r=>decide (op=if neg then .NotIn else .In)&&bx G k N sc l&&dF N sc i r
 | .eE i,N,sc,e=>sN e λx a0=>decide (x="sorted")&&jK sc x&&dF N sc i a0
 |_,_,_,_=>false
noncomputable def dX(G:GT):E->List Str->Scope->List Expr->Bool
 | .nil,_,_,es=>es.isEmpty
 | .cons a r,N,sc,es=>match es with|e::es=>bx G a N sc e&&bI e&&dX G r N sc es|[]=>false
 |_,_,_,_=>false
noncomputable def mP(G:GT):E->List Str->Scope->List Expr->Bool
 | .nil,_,_,es=>es.isEmpty
 | .cons a r,N,sc,es=>match es with|e::es=>bx G a N sc e&&DA a&&mP G r N sc es|[]=>false
 |_,_,_,_=>false
noncomputable def FQ(G:GT):E->List Str->Scope->Option Expr->Bool
 | .nil,_,_,o=>o.isNone
 | .cons a _,N,sc,o=>match o with|some e=>bx G a N sc e|none=>false
 |_,_,_,_=>false
noncomputable def DB(G:GT):E->List Str->Scope->Expr->Bool
 | .eL es,N,sc,e=>mN e λx as=>decide (x="range")&&jK sc x&&decide (as.length=1)&&dX G es N sc as
 | .it a,N,sc,e=>bx G a N sc e
 | .dk i,N,sc,e=>dF N sc i e
 | .dv i,N,sc,e=>mO e λoe nm as b=>as.isEmpty&&decide (nm="values")&&dF N sc i oe&&b
 |_,_,_,_=>false
end
def bV(h:bI e=true):starEach (e::es) env=(false,eval e env)::starEach es env:=by
 cases e<;>first|rfl|exact absurd h Xa
theorem gF:∀{es:List Expr},es.all bI=true->(backTo pos (starEach es env)).any (·.1)=false
 |[],_=>rfl
 |e::es,h=>by
  rw[Zd,W7]at h
  rw[bV h.1]
  show(false||(backTo pos (starEach es env)).any (·.1))=false
  rw[gF h.2]
  rfl
def jO:∀{e':E}{N:List Str}{sc:Scope}{es:List Expr},dX G e' N sc es=true->es.all bI=true:=λ{e'}=>by
 induction e' with
 |nil=>
  intro N sc es h
  rw[dX]at h
  cases es with
  |nil=>rfl
  |cons _ _=>cases h
 |cons a r _ ih=>
  intro N sc es h
  cases es with
  |nil=>rfl
  |cons e es=>
   rw[dX]at h
   simp only[W7]at h
   rw[Zd,W7]
   exact⟨h.1.2,ih h.2⟩
 |_=>intro N sc es h;exact absurd (show false=true from h) Xa
def Av:∀{e':E},lz ρ e'=false->cc F true e' ρ=cc F false e' ρ:=λ{e'}=>by
 induction e' with
 |nil=>intro _;rfl
 |cons a r _ ih=>
  intro h
  have hr:lz ρ r=false:=by
   cases a<;>first|exact h|(simp only[lz,abw]at h;exact h.2)
  have ha:ev F true a ρ=ev F false a ρ:=by
   cases a with
   |var i=>
    simp only[lz,abw]at h
    show rd true ρ i=rd false ρ i
    unfold rd
    have h1:=h.1
    unfold lK at h1
    cases e:ρ[i]? with
    |none=>rfl
    |some o=>
     cases o with
     |none=>rfl
     |some t=>
      obtain⟨o,d⟩:=t
      rw[e]at h1
      have QQ:o=false:=h1
      subst QQ
      rfl
   |_=>rfl
  show(ev F true a ρ).bind _=(ev F false a ρ).bind _
  rw[ha,ih hr]
 |_=>intro _;rfl
noncomputable def iW:List Str:=["len","tuple","list","min","sorted","int","isinstance","bool","range","enumerate","all","str"]
structure Ct(X:Cx)(G:GT)(F:FT):Prop where
 calm:X.calm=true
 units:X.A.units+64<cLine
 mg:∀x∈iW,X.mg x=none
 cst:∀(x:Str) (i:Int),(x,i)∈G.2->∃t,X.mg x=some (.int i t)
 call:∀(f:Nat) (x:Str),G.1[f]?=some x->∃(k:Nat) (fa:Addr) (fd:FuncData) (ps:List Str),jf X.prog X.w X.K X.mg X.base xA k fa fd ps (vW X.K ps.length (F f))/\eN k X.A/\X.mg x=some (.ref fa)/\PySem.W.keepIn X.K (.ref fa)=true/\Binds X.K fd ps []/\∀ds d,F f ds=some d->ds.length=ps.length
def Ct.inner{X:Cx}{G:GT}{F:FT}(h:Ct X G F)(sc:Scope)(cl:List (Str×Addr))(C:Addr)(N:List Str)(aa:List (Addr×Obj))(s:Shared)(H:Hp)(ex:List Addr):Ct (ir X sc cl C N aa s H ex) G F:=⟨h.calm,h.units,h.mg,h.cst,h.call⟩
noncomputable def iH:D->Option (List D)
 | .lst ds=>some ds
 |_=>none
structure b7(G:GT)(F:FT)(e':E):Prop where
 e:∀X,Ct X G F->∀x,bx G e' X.N X.env.scope x=true->∀m,PE X x (tV X.K m (ev F m e'))
 t:∀X,Ct X G F->∀x,bx G e' X.N X.env.scope x=true->DA e'=true->PT X x (tB X.K λρ=>(ev F false e' ρ).bind eX)
 f:∀X,Ct X G F->∀x,bx G e' X.N X.env.scope x=true->fresh e'=true->PE X x (tF X.K λρ=>(ev F false e' ρ).bind iH)
 es:∀X,Ct X G F->∀xs,dX G e' X.N X.env.scope xs=true->∀m,PA X xs (uI X.K m (cc F m e'))
 ts:∀X,Ct X G F->∀xs,mP G e' X.N X.env.scope xs=true->xC X xs (tB X.K (fm F true e'))/\
  (xs≠[]->∀k pos,(∀m,PE X (.BoolOp (bo k) xs pos) (tV X.K m λρ=>(fm F k e' ρ).map .bl))/\PW X (.BoolOp (bo k) xs pos) (tB X.K (fm F k e')))
 o:∀X,Ct X G F->∀x,FQ G e' X.N X.env.scope x=true->PO X x (tO X.K (Fy F e'))
 i:∀X,Ct X G F->∀tg x,DB G e' X.N X.env.scope x=true->∀m,PI X tg x (tI X.K m (lA F m e'))
def ky{sc:Scope}{x:Str}(h:qm sc x=true):xh sc x:=by
 unfold qm at h
 split at h
 .rename_i e;exact .inl e
 .rename_i e;exact .inr (.inl e)
 .rename_i e;exact .inr (.inr e)
 .cases h
def fH{X:Cx}{x:Str}(h:jK X.env.scope x=true):Gl X x:=by
 unfold jK at h
 split at h
 .rename_i e;exact e
 .cases h
def qr{X:Cx}{sc:Scope}{cl:List (Str×Addr)}{C:Addr}{N:List Str}{aa:List (Addr×Obj)}{s:Shared}{H:Hp}{ex:List Addr}(h:L2.Loc sc x):L2.Loc (ir X sc cl C N aa s H ex).env.scope x/\((ir X sc cl C N aa s H ex).fn x=true\/(ir X sc cl C N aa s H ex).env.scope.names.lookup x=some .local):=by
 show L2.Loc (relabel sc X.env) x/\(_\/(relabel sc X.env).names.lookup x=some .local)
 unfold L2.Loc
 rw[show(relabel sc X.env).names.lookup x=_ from N2]
 rcases h with h|h<;>rw[h]
 .exact⟨.inl rfl,.inr rfl⟩
 .exact⟨.inr rfl,.inl (decide_eq_true (X0 h))⟩
def cA{x:Str}(h:x_ x=true):(x==("__debug__":Str))=false/\(x==("__classdict__":Str))=false:=by
 unfold x_ at h
 simpa using h
def dP{e:Expr}{env:PySem.Env}(h:fW e=true):∀x,foldedSetIterable e env x=pure x:=by
 intro x
 cases e<;>first|rfl|exact absurd h Xa
def kz{e:Expr}{op:CmpOp}(h:fW e=true):behindInMarks op e=false:=by
 cases e<;>first|rfl|exact absurd h Xa
def mQ{e:Expr}(h:b_ e=true):pP e:=by
 intro o i
 cases e<;>first|rfl|exact absurd h Xa
def qt{N:List Str}{zp sc:Scope}{xs:List Str}{fr:List Nat}(h:ya N zp sc xs fr=true):Hj N zp sc (og N xs fr) xs.length fr/\(∀x∈xs,L2.Loc sc x)/\(og N xs fr).Nodup :=by
 unfold ya at h
 simp only[W7,decide_eq_true_eq,XO]at h
 refine ao λnO=>?_
 obtain⟨⟨⟨⟨⟨⟨h1,h2⟩,h3⟩,h4⟩,h5⟩,h6⟩,h7⟩:=h
 refine nO ?_
 refine⟨⟨h1,h2,h3,h4,?_,λj y e=>?_⟩,h6,h7⟩
 .unfold og;rw[Xk,Xb]
 .have e':(fr.map λi=>N.getD i "")[j]?=some y:=by
   unfold og at e
   rwa [X4 (XT _ _),Zb]at e
  rw[Xn]at e'
  refine ab (map_some e') λi f1 f2=>?_
  have Oh:=h5 i (Yq f1)
  cases q:N[i]? with
  |none=>rw[q]at Oh;cases Oh
  |some z=>
   rw[q]at Oh
   have ez:N.getD i ""=z:=by rw[Xi,q];rfl
   rw[ez]at f2
   subst f2
   exact⟨i,f1,q,by simpa using Oh⟩
def sP{X:Cx}{d:D}{c:Const}{j:Nat}{pos:Pos}(h:S0 d c=true)(m:Bool):PE X (.Constant c j pos) (tV X.K m λ_=>some d):=by
 cases d with
 |dj=>
  cases c with
  |none=>exact Mv (t:=tC .dj) Gr λ_ _ _=> .dj
  |_=>exact absurd h Xa
 |bl b=>
  cases c with
  |bool b'=>
   have e:b=b':=eq_of_beq h
   subst e
   exact Mv (t:=tC .dj) KC λ_ _ _=> .bl _
  |_=>exact absurd h Xa
 |int i=>
  cases c with
  |int i'=>
   have e:i=i':=of_decide_eq_true h
   subst e
   exact Mv (t:=tC .dj) yP λ_ _ _=> .int _
  |_=>exact absurd h Xa
 |str i=>
  cases c with
  |str i'=>
   have e:i=i':=of_decide_eq_true h
   subst e
   exact Mv (t:=tC .dj) Gs λ_ _ _=> .str _
  |_=>exact absurd h Xa
 |tup _=>exact absurd h (by cases c<;>exact Xa)
 |lst _=>exact absurd h (by cases c<;>exact Xa)
 |bz _ _ _=>exact absurd h (by cases c<;>exact Xa)
def Aw{K:PySem.W.Frag}{m:Bool}{f g:Env->Option D}(h:∀ρ,f ρ=g ρ):tV K m f=tV K m g:=by rw[show f=g from funext h]
def Ax{K:PySem.W.Frag}{f g:Env->Option (List D)}(h:∀ρ,f ρ=g ρ):tF K f=tF K g:=by rw[show f=g from funext h]
def mR{X:Cx}{e:Expr}{f:Env->Option D}(m:Bool)(h:PE X e (tF X.K λρ=>(f ρ).bind iH))(hf:∀ρ d,f ρ=some d->∃ds,d= .lst ds):PE X e (tV X.K m f):=
 Dp h λρ d hd=>by
  obtain⟨ds,rfl⟩:=hf ρ d hd
  exact⟨ds,by rw[hd];rfl,rfl⟩
def DC{F:FT}{es:E}{N:List Str}{sc:Scope}{G:GT}{a0:Expr}(h:dX G es N sc [a0]=true):∃a,es= .cons a .nil /\bx G a N sc a0=true/\bI a0=true:=by
 cases es with
 |cons a r=>
  rw[dX]at h
  simp only[W7]at h
  cases r with
  |nil=>exact⟨a,rfl,h.1.1,h.1.2⟩
  |cons b r=>exact absurd h.2 Xa
  |_=>exact absurd h.2 Xa
 |nil=>exact absurd h Xa
 |_=>exact absurd h Xa
def Ay{F:FT}{es:E}{N:List Str}{sc:Scope}{G:GT}{a0 b0:Expr}(h:dX G es N sc [a0,b0]=true):∃a b,es= .cons a (.cons b .nil)/\bx G a N sc a0=true/\bI a0=true/\bx G b N sc b0=true/\bI b0=true:=by
 cases es with
 |cons a r=>
  rw[dX]at h
  simp only[W7]at h
  refine bF (DC (F:=F) h.2) λb ah h1 h2=>?_
  subst ah
  exact⟨a,b,rfl,h.1.1,h.1.2,h1,h2⟩
 |nil=>exact absurd h Xa
 |_=>exact absurd h Xa
def qu:∀{es:E}{N:List Str}{sc:Scope}{xs:List Expr}{ds:List D},dX G es N sc xs=true->cc F m es ρ=some ds->ds.length=xs.length:=λ{es}=>by
 induction es with
 |nil=>
  intro N sc xs ds h hd
  cases xs with
  |nil=>cases hd;rfl
  |cons _ _=>exact absurd h Xa
 |cons a r _ ih=>
  intro N sc xs ds h hd
  cases xs with
  |nil=>exact absurd h Xa
  |cons x xs=>
   rw[dX]at h
   simp only[W7]at h
   refine ab (bind_some (show(ev F m a ρ).bind _=_ from hd)) λd _ hd=>ab (bind_some hd) λMu h2 hd=>?_
   cases hd
   rw[Xt,Xt,ih h.2 h2]
 |_=>intro N sc xs ds h hd;exact absurd (show false=true from h) Xa
section
variable {X:Cx}{a b c e:Expr}{es:List Expr}{pos p:Pos}{m:Bool}
def Az(hc:X.calm=true)(hg:Gl X "range")(hm:X.mg "range"=none)(MM:Gl X "list")(JW:X.mg "list"=none)(ha:PA X [a] (uI X.K false g))(hl:∀ρ ds,g ρ=some ds->ds.length=1)(hs:starEach [a] X.env=[(false,eval a X.env)]):
  PE X (.Call (.Name "list" q1) [.Call (.Name "range" p) [a] [] pos] [] q0) (tF X.K λρ=>(g ρ).bind dn):=by
 have h1:=vZ (p:=p) (pos:=pos) hg hm ha hs
 refine PE.weak (dJ (uK hc) MM JW boot_list (cw h1 eO rfl) (by decide) (by decide) rfl rfl) λσ H Q zz=>cL zz λO ρ ds hx hd q=>ab (bind_some hd) λxs e1 hd=>?_
 have xi:=hl ρ xs e1
 refine⟨O,ρ,xs,hx,e1,λvs H1 s1 r=>?_⟩
 cases xs with
 |nil=>cases xi
 |cons x t=>
  cases t with
  |cons _ _=>cases xi
  |nil=>
   refine ab (cx r) λv ah rv=>?_
   subst ah
   cases x with
   |int n=>
    change (if -(2 ^ 62)<=n/\n<=bj then some (bA 0 (n).toNat) else none)=some _ at hd
    split at hd
    .rename_i hz
     cases hd
     cases rv.int
     exact⟨n,rfl,λp hp=>⟨p,n,rfl,ag,hz,λl hl=>q l _ _ (s1.trans (af.upd hp)) hl (kq _ _)⟩⟩
    .cases hd
   |_=>cases hd
def MU(hg:Gl X "range")(hm:X.mg "range"=none)(ha:PA X es (uI X.K false g))(hl:∀ρ ds,g ρ=some ds->ds.length=es.length)(Oi:es.length=1)(hs:es.all bI=true):
  PI X tg (.Call (.Name "range" p) es [] pos) (tI X.K m λρ=>(g ρ).bind dn):=by
 intro aa s σ H R I ⟨O,ρ,ds,hx,hd,q⟩
 refine ab (bind_some hd) λxs e1 hd=>?_
 have xi:=hl ρ xs e1
 have eU:bj=16777216:=rfl
 cases es with
 |nil=>simp at Oi
 |cons a t=>
  rw[Zd,W7]at hs
  cases t with
  |nil=>
   refine xm hg hm ha (bV hs.1) aa s σ H R I ⟨O,ρ,xs,hx,e1,λvs H1 s1 r=>?_⟩
   cases xs with
   |nil=>cases xi
   |cons x t=>
    cases t with
    |cons _ _=>cases xi
    |nil=>
     refine ab (cx r) λv ah rv=>?_
     subst ah
     cases x with
     |int n=>
      change (if -(2 ^ 62)<=n/\n<=bj then some (bA 0 (n).toNat) else none)=some _ at hd
      split at hd
      .rename_i hz
       cases hd
       cases rv.int
       exact⟨n,rfl,by lia,by lia,q _ none H1 s1 Ii trivial⟩
      .cases hd
     |_=>cases hd
  |cons b t=>simp at Oi
end
section
variable {G:GT}{F:FT}
def b7.gp(e:∀X,Ct X G F->∀x,bx G e' X.N X.env.scope x=true->∀m,PE X x (tV X.K m (ev F m e')))
  (t:∀X,Ct X G F->∀x,bx G e' X.N X.env.scope x=true->DA e'=true->PT X x (tB X.K λρ=>(ev F false e' ρ).bind eX))
  (f:∀X,Ct X G F->∀x,bx G e' X.N X.env.scope x=true->fresh e'=true->PE X x (tF X.K λρ=>(ev F false e' ρ).bind iH))
  (n1:∀N sc xs,dX G e' N sc xs=false:=by intro _ _ _;rfl) (n2:∀N sc xs,mP G e' N sc xs=false:=by intro _ _ _;rfl) (n3:∀N sc xs,FQ G e' N sc xs=false:=by intro _ _ _;rfl) (n4:∀N sc xs,DB G e' N sc xs=false:=by intro _ _ _;rfl):b7 G F e':=
 ⟨e,t,f,λX _ xs h=>absurd h (by rw[n1];exact Xa),λX _ xs h=>absurd h (by rw[n2];exact Xa),λX _ xs h=>absurd h (by rw[n3];exact Xa),λX _ tg xs h=>absurd h (by rw[n4];exact Xa)⟩
def ff{P:Prop}(h:false=true):P:=absurd h Xa
def DD:b7 G F .nil where
 e:=λX hC x h=>ff h
 t:=λX hC x h=>ff h
 f:=λX hC x h=>ff h
 es:=λX hC xs h m=>by
  cases xs with
  |nil=>exact ME
  |cons _ _=>exact ff h
 ts:=λX hC xs h=>by
  cases xs with
  |nil=>exact⟨Ap,λz=>absurd rfl z⟩
  |cons _ _=>exact ff h
 o:=λX hC x h=>by
  cases x with
  |none=>exact HX
  |some _=>exact ff h
 i:=λX hC tg x h=>ff h
def AA{a r:E}(ha:b7 G F a)(hr:b7 G F r):b7 G F (.cons a r) where
 e:=λX hC x h=>ff h
 t:=λX hC x h=>ff h
 f:=λX hC x h=>ff h
 es:=λX hC xs h m=>by
  cases xs with
  |nil=>exact ff h
  |cons x xs=>
   rw[dX]at h
   simp only[W7]at h
   exact HW (ha.e X hC x h.1.1 m) (hr.es X hC xs h.2 m) (bV h.1.2)
 ts:=λX hC xs h=>by
  cases xs with
  |nil=>exact ff h
  |cons x xs=>
   rw[mP]at h
   simp only[W7]at h
   have t1:=ha.t X hC x h.1.1 h.1.2
   have e1:=ha.e X hC x h.1.1 false
   have t2:=hr.ts X hC xs h.2
   refine⟨Dz t1 t2.1,λ_ k pos=>?_⟩
   cases xs with
   |nil=>
    have er:∀ρ,fm F k r ρ=some k:=by
     cases r with
     |nil=>intro ρ;rfl
     |cons _ _=>exact ff h.2
     |_=>exact ff h.2
    have eq:∀ρ,fm F k (.cons a r) ρ=((ev F false a ρ).bind eX).bind λx=>if x=k then some k else some x:=λρ=>by
     show((ev F false a ρ).bind eX).bind _=_
     congr 1
     funext x
     rw[er ρ]
    refine⟨λm=>?_,?_⟩
    .rw[Aw λρ=>congrArg (Option.map D.bl) (eq ρ)]
     exact HU e1
    .rw[show(fm F k (.cons a r))=λρ=>((ev F false a ρ).bind eX).bind λx=>if x=k then some k else some x from funext eq]
     exact HV t1
   |cons y ys=>
    have t3:=t2.2 (by simp) k pos
    exact⟨λm=>MC e1 (t3.1 false),MD t1 t3.2⟩
 o:=λX hC x h=>by
  cases x with
  |none=>exact ff h
  |some x=>exact HY (ha.e X hC x h false)
 i:=λX hC tg x h=>ff h
def DE{i:Nat}:b7 G F (.var i):=by
 have e:∀X,Ct X G F->∀x,bx G (.var i) X.N X.env.scope x=true->∃n p,x= .Name n p/\∀m,PE X x (tV X.K m (ev F m (.var i))):=λX hC x h=>by
  cases x with
  |Name n p=>
   change (decide (X.N[i]?=some n)&&qm X.env.scope n&&x_ n)=true at h
   simp only[W7,decide_eq_true_eq]at h
   exact⟨n,p,rfl,λm=>v_var h.1.1 (ky h.1.2) (cA h.2).1 (cA h.2).2⟩
  |_=>exact ff h
 refine .gp (λX hC x h m=>?_) (λX hC x h _=>?_) (λX hC x h z=>ff z)
 .refine eW (e X hC x h) λn p ah k=>?_
  subst ah
  exact k m
 .refine eW (e X hC x h) λn p aK k=>?_
  subst aK
  exact cR (k false) λ_=>rfl
def wc{X:Cx}{d:D}{x:Str}{p:Pos}(hC:Ct X G F)(h:(jK X.env.scope x&&x_ x&&MS G x d)=true)(m:Bool):PE X (.Name x p) (tV X.K m λ_=>some d):=by
 simp only[W7]at h
 obtain⟨⟨h1,h2⟩,h3⟩:=h
 cases d with
 |int i=>
  obtain⟨t,e⟩:=hC.cst x i (of_decide_eq_true h3)
  exact Mv (t:=tC .dj) (Cc (v:= .int i) (fH h1) e ⟨t,rfl⟩ (cA h2).1) λ_ _ _=> .int _
 |_=>exact ff h3
def MV{d:D}:b7 G F (.c d):=by
 refine .gp (λX hC x h m=>?_) (λX hC x h _=>?_) (λX hC x h z=>ff z)
 .cases x with
  |Constant c j p=>exact sP h m
  |Name n p=>exact wc hC h m
  |_=>exact ff h
 .cases x with
  |Constant c j p=>exact cR (sP h false) λ_=>rfl
  |Name n p=>exact cR (wc hC h false) λ_=>rfl
  |_=>exact ff h
def DF(ha:b7 G F a)(hb:b7 G F b):b7 G F (.bin o a b):=by
 have aH:∀X,Ct X G F->∀x,bx G (.bin o a b) X.N X.env.scope x=true->∃l r p,x= .BinOp l o r p/\PE X l (tV X.K true (ev F true a))/\PE X r (tV X.K true (ev F true b)):=λX hC x h=>by
  cases x with
  |BinOp l op r p=>
   change (decide (o=op)&&bx G a X.N X.env.scope l&&bx G b X.N X.env.scope r)=true at h
   simp only[W7,decide_eq_true_eq]at h
   obtain⟨⟨rfl,h1⟩,h2⟩:=h
   exact⟨l,r,p,rfl,ha.e X hC l h1 true,hb.e X hC r h2 true⟩
  |_=>exact ff h
 refine .gp (λX hC x h m=>?_) (λX hC x h _=>?_) (λX hC x h z=>?_)
 .refine cL (aH X hC x h) λl r p ah h1 h2=>?_
  subst ah
  exact FL h1 h2
 .refine cL (aH X hC x h) λl r p aK h1 h2=>?_
  subst aK
  exact cR (FL h1 h2) λ_=>rfl
 .refine cL (aH X hC x h) λl r p cQ h1 h2=>?_
  subst cQ
  cases o with
  |Add=>exact(Mw h1 h2).weak λσ H Q q=>q
  |_=>exact ff z
def DG(ha:b7 G F a)(hb:b7 G F b):b7 G F (.cmp o a b):=by
 have aH:∀X,Ct X G F->∀x,bx G (.cmp o a b) X.N X.env.scope x=true->∃l r p,x= .Compare l [o] [r] p/\PE X l (tV X.K true (ev F true a))/\PE X r (tV X.K true (ev F true b))/\behindInMarks o r=false:=λX hC x h=>by
  refine nI (wa (e:=x) h) λl op r p zr df=>?_
  subst zr
  simp only[W7,decide_eq_true_eq]at df
  obtain⟨⟨⟨rfl,h1⟩,h2⟩,h3⟩:=df
  exact⟨l,r,p,rfl,ha.e X hC l h1 true,hb.e X hC r h2 true,kz h3⟩
 refine .gp (λX hC x h m=>?_) (λX hC x h _=>?_) (λX hC x h z=>ff z)
 .refine Km (aH X hC x h) λl r p ah h1 h2 h3=>?_
  subst ah
  exact My hC.units h1 h2 h3
 .refine Km (aH X hC x h) λl r p aK h1 h2 h3=>?_
  subst aK
  exact Mz hC.units h1 h2 h3
def yc(ha:b7 G F a)(hb:b7 G F b)(hc:b7 G F c):b7 G F (.chain o o' a b c):=by
 have aH:∀X,Ct X G F->∀x,bx G (.chain o o' a b c) X.N X.env.scope x=true->∃l r t p,x= .Compare l [o,o'] [r,t] p/\PE X l (tV X.K true (ev F true a))/\PE X r (tV X.K true (ev F true b))/\PE X t (tV X.K true (ev F true c))/\lastMarks [o,o'] [r,t]=false:=λX hC x h=>by
  refine nI (sO (e:=x) h) λl ops rs p zr h=>eW (qq h) λop tT aK h=>eW (qq h) λr t cQ hz=>?_
  subst zr aK cQ
  simp only[W7,decide_eq_true_eq]at hz
  obtain⟨⟨⟨⟨⟨rfl,rfl⟩,h1⟩,h2⟩,h3⟩,h4⟩:=hz
  exact⟨l,r,t,p,rfl,ha.e X hC l h1 true,hb.e X hC r h2 true,hc.e X hC t h3 true,kz h4⟩
 refine .gp (λX hC x h m=>?_) (λX hC x h _=>?_) (λX hC x h z=>ff z)
 .refine qU (aH X hC x h) λl r t p ah h1 h2 h3 h4=>?_
  subst ah
  exact Ds hC.units h1 h2 h3 h4
 .refine qU (aH X hC x h) λl r t p ah h1 h2 h3 h4=>?_
  subst ah
  exact Du hC.units h1 h2 h3 h4
def DH(ha:b7 G F a):b7 G F (.rev a):=by
 have aH:∀X,Ct X G F->∀x,bx G (.rev a) X.N X.env.scope x=true->(∃v s p,x= .Subscript v s p)/\∀m,PE X x (tV X.K m (ev F m (.rev a))):=λX hC x h=>by
  cases x with
  |Subscript v s p=>
   refine⟨⟨_,_,_,rfl⟩,?_⟩
   change (match (generalizing:=false) s with
   | .Slice none none (some (.UnaryOp op (.Constant c _ _) _)) _=>decide (op= .USub)&&FP c&&bx G a X.N X.env.scope v
   |_=>false)=true at h
   split at h
   .rename_i op c j p1 p3 p2
    simp only[W7,decide_eq_true_eq]at h
    obtain⟨⟨rfl,h2⟩,h3⟩:=h
    cases c with
    |int i=>
     have e:i=1:=of_decide_eq_true h2
     subst e
     exact λm=>MH (ha.e X hC v h3 true)
    |_=>exact ff h2
   .cases h
  |_=>exact ff h
 refine .gp (λX hC x h m=>(aH X hC x h).2 m) (λX hC x h _=>?_) (λX hC x h z=>ff z)
 obtain⟨⟨v,s,p,rfl⟩,k⟩:=aH X hC x h
 exact cR (k false) λ_=>rfl
def DI(ha:b7 G F a):b7 G F (.neg a):=by
 have aH:∀X,Ct X G F->∀x,bx G (.neg a) X.N X.env.scope x=true->∃l p,x= .UnaryOp .USub l p/\PE X l (tV X.K false (ev F false a)):=λX hC x h=>by
  cases x with
  |UnaryOp op l p=>
   change (decide (op= .USub)&&bx G a X.N X.env.scope l)=true at h
   simp only[W7,decide_eq_true_eq]at h
   obtain⟨rfl,h1⟩:=h
   exact⟨l,p,rfl,ha.e X hC l h1 false⟩
  |_=>exact ff h
 refine .gp (λX hC x h m=>?_) (λX hC x h _=>?_) (λX hC x h z=>ff z)
 .obtain⟨l,p,rfl,h1⟩:=aH X hC x h
  exact FN h1
 .obtain⟨l,p,rfl,h1⟩:=aH X hC x h
  exact cR (FN h1) λ_=>rfl
def DJ(ha:b7 G F a):b7 G F (.not a):=by
 have aH:∀X,Ct X G F->∀x,bx G (.not a) X.N X.env.scope x=true->∃l p,x= .UnaryOp .Not l p/\PE X l (tV X.K false (ev F false a))/\PT X l (tB X.K λρ=>(ev F false a ρ).bind eX):=λX hC x h=>by
  cases x with
  |UnaryOp op l p=>
   change (decide (op= .Not)&&bx G a X.N X.env.scope l&&DA a)=true at h
   simp only[W7,decide_eq_true_eq]at h
   obtain⟨⟨rfl,h1⟩,h2⟩:=h
   exact⟨l,p,rfl,ha.e X hC l h1 false,ha.t X hC l h1 h2⟩
  |_=>exact ff h
 refine .gp (λX hC x h m=>?_) (λX hC x h _=>?_) (λX hC x h z=>ff z)
 .refine a_ (aH X hC x h) λl p ah h1 h2=>?_
  subst ah
  exact v_not h1
 .refine a_ (aH X hC x h) λl p aK h1 h2=>?_
  subst aK
  exact MA h2
def DK(he:b7 G F es):b7 G F (.f_ k es):=by
 have aH:∀X,Ct X G F->∀x,bx G (.f_ k es) X.N X.env.scope x=true->∃vs p,x= .BoolOp (bo k) vs p/\(∀m,PE X (.BoolOp (bo k) vs p) (tV X.K m λρ=>(fm F k es ρ).map .bl))/\PW X (.BoolOp (bo k) vs p) (tB X.K (fm F k es)):=λX hC x h=>by
  cases x with
  |BoolOp op vs p=>
   change (decide (op=bo k)&&!vs.isEmpty&&mP G es X.N X.env.scope vs)=true at h
   simp only[W7,decide_eq_true_eq]at h
   obtain⟨⟨rfl,h1⟩,h2⟩:=h
   have hv:vs≠[]:=by rintro rfl;exact ff (by simpa using h1)
   exact⟨vs,p,rfl,(he.ts X hC vs h2).2 hv k p⟩
  |_=>exact ff h
 refine .gp (λX hC x h m=>?_) (λX hC x h _=>?_) (λX hC x h z=>ff z)
 .refine a_ (aH X hC x h) λvs p ah h1 h2=>?_
  subst ah
  exact h1 m
 .refine a_ (aH X hC x h) λvs p aK h1 h2=>?_
  subst aK
  refine h2.pt.weak λσ H Q ⟨O,ρ,q,hx,hd,kk⟩=>⟨O,ρ,q,hx,?_,kk⟩
  refine ab (bind_some hd) λd hd hq=>ab (map_some (show(fm F k es ρ).map D.bl=some d from hd)) λb hb cQ=>?_
  subst cQ
  cases hq
  exact hb
def DL(he:b7 G F es):b7 G F (.tup es):=by
 refine .gp (λX hC x h m=>?_) (λX hC x h _=>?_) (λX hC x h z=>ff z)
 .cases x with
  |Tuple xs k p=>exact FO (he.es X hC xs h false)
  |_=>exact ff h
 .cases x with
  |Tuple xs k p=>exact cR (FO (he.es X hC xs h false)) λ_=>rfl
  |_=>exact ff h
def DM(he:b7 G F es):b7 G F (.lst es):=by
 have aH:∀X,Ct X G F->∀x,bx G (.lst es) X.N X.env.scope x=true->∃xs p,x= .List xs p/\PE X x (tF X.K λρ=>(ev F false (.lst es) ρ).bind iH):=λX hC x h=>by
  cases x with
  |List xs p=>
   refine⟨xs,p,rfl,(MF (he.es X hC xs h false)).weak λσ H Q ⟨O,ρ,ds,hx,hd,q⟩=>⟨O,ρ,ds,hx,?_,q⟩⟩
   refine ab (bind_some hd) λd hd hl=>ab (bind_some (show(cc F false es ρ).bind _=_ from hd)) λys h1 hd=>?_
   show(cc F false es ρ).bind _=_
   rw[h1]
   split at hd
   .rename_i hz
    cases hd
    cases hl
    exact Xs hz
   .cases hd
  |_=>exact ff h
 have Io:∀ρ d,ev F false (.lst es) ρ=some d->∃ds,d= .lst ds:=λρ d hd=>by
  refine ab (bind_some (show(cc F false es ρ).bind _=_ from hd)) λys h1 hd=>?_
  split at hd
  .cases hd;exact⟨_,rfl⟩
  .cases hd
 refine .gp (λX hC x h m=>?_) (λX hC x h _=>?_) (λX hC x h z=>?_)
 .refine eW (aH X hC x h) λxs p ah k=>?_
  subst ah
  exact mR m k Io
 .refine eW (aH X hC x h) λxs p aK k=>?_
  subst aK
  exact cR (mR false k Io) λ_=>rfl
 .refine eW (aH X hC x h) λxs p cQ k=>?_
  subst cQ
  exact k
def DN(ha:b7 G F a)(hi:b7 G F i):b7 G F (.idx a i):=by
 have aH:∀X,Ct X G F->∀x,bx G (.idx a i) X.N X.env.scope x=true->∃v s p,x= .Subscript v s p/\∀m,PE X x (tV X.K m (ev F m (.idx a i))):=λX hC x h=>by
  cases x with
  |Subscript v s p=>
   change (bx G a X.N X.env.scope v&&bx G i X.N X.env.scope s&&b_ s)=true at h
   simp only[W7]at h
   exact⟨v,s,p,rfl,λm=>MG (ha.e X hC v h.1.1 true) (hi.e X hC s h.1.2 false) (mQ h.2)⟩
  |_=>exact ff h
 refine .gp (λX hC x h m=>?_) (λX hC x h _=>?_) (λX hC x h z=>ff z)
 .refine lG (aH X hC x h) λv s p ah k=>?_
  subst ah
  exact k m
 .refine lG (aH X hC x h) λv s p aK k=>?_
  subst aK
  exact cR (k false) λ_=>rfl
def Ip{a lo hi:E}(ha:b7 G F a)(hl:b7 G F lo)(hh:b7 G F hi):b7 G F (.sl a lo hi):=by
 have aH:∀X,Ct X G F->∀x,bx G (.sl a lo hi) X.N X.env.scope x=true->∃v l u p2 p,x= .Subscript v (.Slice l u none p2) p/\PE X v (tV X.K true (ev F true a))/\PO X l (tO X.K (Fy F lo))/\PO X u (tO X.K (Fy F hi)):=λX hC x h=>by
  cases x with
  |Subscript v s p=>
   cases s with
   |Slice l u st p2=>
    cases st with
    |some _=>exact ff h
    |none=>
     change (true&&bx G a X.N X.env.scope v&&FQ G lo X.N X.env.scope l&&FQ G hi X.N X.env.scope u)=true at h
     simp only[W7]at h
     exact⟨v,l,u,p2,p,rfl,ha.e X hC v h.1.1.2 true,hl.o X hC l h.1.2,hh.o X hC u h.2⟩
   |_=>exact ff h
  |_=>exact ff h
 refine .gp (λX hC x h m=>?_) (λX hC x h _=>?_) (λX hC x h z=>?_)
 .refine OH (aH X hC x h) λv l u p2 p ah k1 k2 k3=>?_
  subst ah
  exact MI k1 k2 k3
 .refine OH (aH X hC x h) λv l u p2 p aK k1 k2 k3=>?_
  subst aK
  exact cR (MI k1 k2 k3) λ_=>rfl
 .refine OH (aH X hC x h) λv l u p2 p cQ k1 k2 k3=>?_
  subst cQ
  exact(QC k1 k2 k3).weak λσ H Q q=>q
def AB(he:b7 G F es):b7 G F (.call f es):=by
 have aH:∀X,Ct X G F->∀x,bx G (.call f es) X.N X.env.scope x=true->(∃fn args ub p,x= .Call fn args ub p)/\∀m,PE X x (tV X.K m (ev F m (.call f es))):=λX hC x h=>by
  refine nI (fF (e:=x) h) λn q as p zr df=>?_
  subst zr
  refine⟨⟨_,_,_,_,rfl⟩,?_⟩
  simp only[W7,decide_eq_true_eq]at df
  refine ao λnO=>?_
  obtain⟨⟨⟨⟨h1,h2⟩,h3⟩,h0⟩,h4⟩:=df
  cases as with
  |nil=>cases h0
  |cons a0 ar=>
   refine E3 (hC.call f n h1) λk fa fd ps h5 h6 h7 h8 h9 Vu=>nO ?_
   have ns:=jO h4
   rw[Zd,W7]at ns
   exact λm=>HZ (g:=λb=>cc F b es) (ln:=λρ=>lz ρ es) h5 h6 (fH h2) h7 h8 h9 Vu (λb=>he.es X hC _ h4 b) (λρ hl=>Av hl) (cA h3).1 (bV ns.1) (gF ns.2)
 refine .gp (λX hC x h m=>(aH X hC x h).2 m) (λX hC x h _=>?_) (λX hC x h z=>ff z)
 refine ao λnO=>?_
 obtain⟨⟨fn,args,ub,p,rfl⟩,k⟩:=aH X hC x h
 exact nO<|cR (k false) λ_=>rfl
def qv(q:uo):iG q∈iW:=by cases q<;>decide +kernel
def AD(he:b7 G F es):b7 G F (.prim q es):=by
 have aH:∀X,Ct X G F->∀x,bx G (.prim q es) X.N X.env.scope x=true->∃a0 ar n p,x= .Call (.Name (iG q) n) (a0::ar) [] p/\Gl X (iG q)/\(∀m,PA X (a0::ar) (uI X.K m (cc F m es)))/\bI a0=true/\ar.all bI=true:=λX hC x h=>by
  refine nI (fF (e:=x) h) λn pn as p zr df=>?_
  subst zr
  simp only[W7,decide_eq_true_eq]at df
  obtain⟨⟨⟨rfl,h2⟩,h0⟩,h4⟩:=df
  cases as with
  |nil=>cases h0
  |cons a0 ar=>
   have ns:=jO h4
   rw[Zd,W7]at ns
   exact⟨a0,ar,pn,p,rfl,fH h2,λm=>he.es X hC _ h4 m,ns.1,ns.2⟩
 refine .gp (λX hC x h m=>?_) (λX hC x h _=>?_) (λX hC x h z=>?_)
 .refine qU (aH X hC x h) λa0 ar n p ah h1 h2 h3 h4=>?_
  subst ah
  exact oP hC.units hC.calm h1 (hC.mg _ (qv q)) (h2 true) (bV h3) (gF h4)
 .refine qU (aH X hC x h) λa0 ar n p aK h1 h2 h3 h4=>?_
  subst aK
  exact cR (oP hC.units hC.calm h1 (hC.mg _ (qv q)) (h2 true) (bV h3) (gF h4)) λ_=>rfl
 .refine qU (aH X hC x h) λa0 ar n p cQ h1 h2 h3 h4=>?_
  subst cQ
  cases q with
  |list=>
   refine(f_list h1 (hC.mg _ (qv .list)) (h2 true) (bV h3) (gF h4)).weak λσ H Q ⟨O,ρ,ds,hx,hd,k⟩=>⟨O,ρ,ds,hx,?_,k⟩
   refine ab (bind_some hd) λd hd hl=>ab (bind_some (show(cc F true es ρ).bind _=_ from hd)) λxs e1 hd=>?_
   show(cc F true es ρ).bind _=_
   rw[e1]
   cases xs with
   |nil=>cases hd
   |cons y t=>
    cases t with
    |cons _ _=>cases hd
    |nil=>
     refine ab (map_some hd) λys h5 n8=>?_
     subst n8
     cases hl
     exact h5
  |_=>exact ff z
def DO(he:b7 G F es):b7 G F (.gW q es):=by
 have aH:∀X,Ct X G F->∀x,bx G (.gW q es) X.N X.env.scope x=true->(∃fn args ub p,x= .Call fn args ub p)/\((q= .list /\PE X x (tF X.K λρ=>(ev F false (.gW q es) ρ).bind iH))\/(q= .tuple /\∀m,PE X x (tV X.K m (ev F m (.gW q es))))):=λX hC x h=>by
  obtain⟨n,pn,ar,p,rfl,g⟩:=jN (e:=x) h
  obtain⟨y,py,a0,p2,rfl,g2⟩:=jN g
  replace h:=g2
  refine⟨⟨_,_,_,_,rfl⟩,?_⟩
  simp only[W7,Zm,decide_eq_true_eq]at h
  refine ao λnO=>?_
  obtain⟨⟨⟨⟨⟨hq,rfl⟩,rfl⟩,h3⟩,h4⟩,h5⟩:=h
  refine nO ?_
  have ns:=jO h5
  rw[Zd,W7]at ns
  rcases hq with rfl|rfl
  .refine .inl ⟨rfl,?_⟩
   refine(Az hC.calm (fH h4) (hC.mg _ (by simp[iW])) (fH h3) (hC.mg _ (by simp[iW,iG])) (he.es X hC _ h5 false) (λρ ds hd=>qu h5 hd) (bV ns.1)).weak λσ H Q ⟨O,ρ,ds,hx,hd,k⟩=>⟨O,ρ,ds,hx,?_,k⟩
   refine ao λnO=>ab (bind_some hd) λd hd hl=>ab (bind_some (show((cc F false es ρ).bind dn).bind (ml .list)=_ from hd)) λxs e1 hd=>?_
   cases hd
   cases hl
   exact nO<|e1
  .refine .inr ⟨rfl,λm=>?_⟩
   refine(Ai (m:=m) hC.calm (fH h4) (hC.mg _ (by simp[iW])) (fH h3) (hC.mg _ (by simp[iW,iG])) (he.es X hC _ h5 false) (λρ ds hd=>qu h5 hd) (bV ns.1)).weak λσ H Q ⟨O,ρ,d,hx,hd,k⟩=>⟨O,ρ,d,hx,?_,k⟩
   refine ao λnO=>ab (bind_some (show((cc F false es ρ).bind dn).bind (ml .tuple)=_ from hd)) λxs e1 hd=>?_
   cases hd
   refine nO ?_
   show((cc F false es ρ).bind dn).map D.tup=_
   rw[e1]
   rfl
 have Io:q= .list ->∀ρ d,ev F false (.gW q es) ρ=some d->∃ds,d= .lst ds:=λhq ρ d hd=>by
  refine ao λnO=>?_
  subst hq
  refine ab (bind_some (show((cc F false es ρ).bind dn).bind (ml .list)=_ from hd)) λxs e1 hd=>?_
  cases hd
  exact nO<|⟨_,rfl⟩
 have val:∀X,Ct X G F->∀x,bx G (.gW q es) X.N X.env.scope x=true->∀m,PE X x (tV X.K m (ev F m (.gW q es))):=λX hC x h m=>by
  obtain⟨_,k⟩:=aH X hC x h
  rcases k with⟨hq,k⟩|⟨hq,k⟩
  .exact mR m k (Io hq)
  .exact k m
 refine .gp val (λX hC x h _=>?_) (λX hC x h z=>?_)
 .refine ao λnO=>?_
  obtain⟨⟨fn,args,ub,p,rfl⟩,_⟩:=aH X hC x h
  exact nO<|cR (val X hC _ h false) λ_=>rfl
 .obtain⟨_,k⟩:=aH X hC x h
  rcases k with⟨hq,k⟩|⟨rfl,_⟩
  .exact k
  .exact ff z
def lJ(h:Aq oe=true):attributeBase oe nm env (eval oe env)=eval oe env:=by
 cases oe<;>first|rfl|exact ff h
def AF(ho:b7 G F o)(he:b7 G F es):b7 G F (.fj mm o es):=by
 have aH:∀X,Ct X G F->∀x,bx G (.fj mm o es) X.N X.env.scope x=true->(∃fn args ub p,x= .Call fn args ub p)/\∀m,PE X x (tV X.K m (ev F m (.fj mm o es))):=λX hC x h=>by
  refine JO (fG (e:=x) h) λoe nm ap as p zr h=>ab (bS h) λa0 aK df=>?_
  subst zr aK
  refine⟨⟨_,_,_,_,rfl⟩,?_⟩
  simp only[W7,decide_eq_true_eq]at df
  obtain⟨⟨⟨⟨Oi,h3⟩,h4⟩,h5⟩,h6⟩:=df
  have ns:=jO h6
  rw[Zd,W7]at ns
  subst Oi
  cases mm
  exact λm=>Dw (ho.e X hC oe h5 true) (he.es X hC _ h6 true) (lJ h3) h4 (bV ns.1)
 refine .gp (λX hC x h m=>(aH X hC x h).2 m) (λX hC x h _=>?_) (λX hC x h z=>ff z)
 obtain⟨⟨fn,args,ub,p,rfl⟩,k⟩:=aH X hC x h
 exact cR (k false) λ_=>rfl
def DP(ha:b7 G F a):b7 G F (.fQ a b):=by
 have aH:∀X,Ct X G F->∀x,bx G (.fQ a b) X.N X.env.scope x=true->(∃fn args ub p,x= .Call fn args ub p)/\∀m,PE X x (tV X.K m (ev F m (.fQ a b))):=λX hC x h=>by
  refine nI (fF (e:=x) h) λn pn as p zr h=>eW (qq h) λa0 t aK h=>eW (cF h) λy py cQ df=>?_
  subst zr aK cQ
  refine⟨⟨_,_,_,_,rfl⟩,?_⟩
  simp only[W7,decide_eq_true_eq]at df
  obtain⟨⟨⟨⟨⟨rfl,rfl⟩,h3⟩,h4⟩,h5⟩,h6⟩:=df
  have hb:Str.ofString (xZ b)∈iW:=by cases b<;>simp[xZ,iW]
  exact λm=>ML (ha.e X hC a0 h5 false) (fH h3) (hC.mg _ (by simp[iW])) (fH h4) (hC.mg _ hb) (bV h6)
 refine .gp (λX hC x h m=>(aH X hC x h).2 m) (λX hC x h _=>?_) (λX hC x h z=>ff z)
 obtain⟨⟨fn,args,ub,p,rfl⟩,k⟩:=aH X hC x h
 exact cR (k false) λ_=>rfl
end
noncomputable def fI:List (List Int)->List V->List Int->Option V
 |k::ks,v::vs,x=>if k=x then some v else fI ks vs x
 |_,_,_=>none
theorem kA[DecidableEq κ](f:List Int->κ):∀(ks:List (List Int)) (vs:List V) (x:List Int),(∀k∈ks,f k=f x->k=x)->j' ((ks.map f).zip vs) (f x)=fI ks vs x
 |[],vs,x,_=>by simp[fI,j']
 |k::ks,[],x,_=>by simp[fI,j']
 |k::ks,v::vs,x,h=>by
  rw[Xy,aam,fI]
  by_cases e:k=x
  .rw[Xs e,jw (by rw[e])]
  .rw[Xx e,jx (λz=>e (h k Xd z))]
   exact kA f ks vs x λk hk=>h k (W_ _ hk)
theorem qw:∀{a b:List Int},a.map (Sum.inl:Int->cM)=b.map Sum.inl->a=b
 |[],[],_=>rfl
 |[],_::_,h=>by simp at h
 |_::_,[],h=>by simp at h
 |x::a,y::b,h=>by
  rw[Xy,Xy]at h
  injection h with h1 h2
  rw[aaN h1,qw h2]
theorem o_{K:PySem.W.Frag}{O:Addr->Prop}{H:Hp}:∀{x:List Int}{vs:List V},au K O H vs (x.map .int)->vs=x.map V.int
 |[],_,.nil =>rfl
 |i::x,_,.cons r t=>by rw[r.int_inv,o_ t];rfl
theorem k9:∀{xs:List D}{p:List Int},aB xs=some p->xs=p.map .int
 |[],p,h=>by cases h;rfl
 |x::xs,p,h=>by
  cases x with
  |int i=>
   refine ab (map_some (show(aB xs).map (i:: ·)=some p from h)) λq h1 ah=>?_
   subst ah
   rw[k9 h1]
   rfl
  |_=>cases h
section
variable {K:PySem.W.Frag}{O:Addr->Prop}{H:Hp}{a:Addr}{t:Nat}{ks:List (List Int)}{vs:List V}{ds:List D}
def hJ{y:V}{dy:D}{x:List Int}(r:br K O H y dy)(hx:dD t dy=some x):(t=0/\(∃i,x=[i]/\y= .int i))\/(t≠0/\∃b,y= .ref b/\H b=some (.tup ((x.map Sum.inl).map kV))):=by
 cases dy with
 |int i=>
  simp only[dD]at hx
  split at hx
  .rename_i h0
   cases hx
   exact .inl ⟨h0,i,rfl,r.int_inv⟩
  .cases hx
 |tup xs=>
  simp only[dD]at hx
  split at hx
  .cases hx
  .rename_i h0
   have e:=k9 hx
   subst e
   refine a_ r.jG λb us ah h1 h2=>?_
   subst ah
   refine .inr ⟨h0,b,rfl,?_⟩
   rw[XY]
   have:=o_ h2
   rw[this]at h1
   exact h1
 |_=>cases hx
def wd(hd:Rd H a (gr t ks vs))(hk:mH t ks)(r:br K O H y dy)(hx:dD t dy=some x):p7 H a y (fI ks vs x):=by
 rcases hJ r hx with⟨h0,i,rfl,rfl⟩|⟨h0,b,rfl,hb⟩
 .unfold gr at hd
  rw[Xs h0]at hd
  refine .inl ⟨_,Sum.inl i,hd,rfl,?_⟩
  have:=kA (λk:List Int=>(Sum.inl (k.headD 0):cM)) ks vs [i] (λk hm e=>by
   obtain⟨j,rfl⟩:=hk.2 h0 k hm
   have:j=i:=aaN e
   rw[this])
  exact this.symm
 .unfold gr at hd
  rw[Xx h0]at hd
  exact .inr ⟨_,x.map Sum.inl,b,hd,rfl,hb,(kA (λk:List Int=>k.map (Sum.inl:Int->cM)) ks vs x λk _ e=>qw e).symm⟩
theorem mS:∀{ks:List (List Int)}{vs:List V}{ds:List D}{x:List Int},ks.length=vs.length->au K O H vs ds->(∀d,iQ ks ds x=some d->∃v,fI ks vs x=some v/\br K O H v d)/\(iQ ks ds x=none->fI ks vs x=none)/\((fI ks vs x).isSome =decide (x∈ks))
 |[],_,_,x,_,_=>⟨λ_ h=>by simp[iQ]at h,λ_=>by simp[fI],by simp[fI]⟩
 |k::ks,[],_,x,h,_=>by simp at h
 |k::ks,v::vs,_,x,h,.cons (d:=d) (ds:=ds) r rs=>by
  have ih:=mS (ks:=ks) (x:=x) (by simpa using h) rs
  by_cases e:k=x
  .simp only[iQ,fI,Xs e]
   exact⟨λd' hd=>(by cases hd;exact⟨v,rfl,r⟩),λz=>(by cases z),by simp[e]⟩
  .simp only[iQ,fI,Xx e]
   exact⟨ih.1,ih.2.1,by rw[ih.2.2];simp[Ya e]⟩
def DQ:yI (some (gr t ks vs)):=by unfold gr;split<;>exact True.intro
theorem EX.bz(hx:EX K O σ H ρ)(h:gv ρ i=some d):∃a vs,σ[i]?=some (some (.ref a))/\Rd H a (gr d.1 d.2.1 vs)/\d.2.1.length=vs.length/\mH d.1 d.2.1/\au K O H vs d.2.2:=by
 unfold gv at h
 split at h
 .rename_i o t ks ds e
  split at h
  .cases h
  rename_i ht
  cases h
  refine ab (hx.kU i o _ e) λv h1 h2=>?_
  cases o with
  |true=>
   refine bF h2 λa e1 _ c=>B8 (c.bz ht) λvs c1 c2 c3 c4=>?_
   subst e1
   exact⟨a,vs,h1,.inl c1,c2,c3,c4⟩
  |false=>
   have MW:br K O H v (.bz t ks ds):=h2
   cases MW with
   |bz g1 g2 g3 g4=>exact⟨_,_,h1,.inr ⟨_,g1⟩,g2,g3,g4⟩
 .cases h
end
def cb(h:dF N sc i e=true):∃x p,e= .Name x p/\N[i]?=some x/\xh sc x/\(x==("__debug__":Str))=false/\(x==("__classdict__":Str))=false:=by
 refine ao λnO=>?_
 cases e with
 |Name x p=>
  refine nO ?_
  unfold dF at h
  simp only[W7,decide_eq_true_eq]at h
  exact⟨x,p,rfl,h.1.1,ky h.1.2,(cA h.2).1,(cA h.2).2⟩
 |_=>cases h
section
variable {X:Cx}{a b c e k:Expr}{pos p px:Pos}{m:Bool}{i:Nat}{x:Str}{f:Env->Option D}
def Iq(hu:X.A.units+64<cLine)(ho:PE X a (dA i))(hk:PE X k (tV X.K false f))(hs:CT k):PE X (.Subscript a k pos) (tV X.K m λρ=>(gv ρ i).bind λd=>((f ρ).bind (dD d.1)).bind λx=>iQ d.2.1 d.2.2 x):=
 (CW (by lia) ho hk hs).weak λσ H Q zz=>by
  refine cL zz λO ρ d hx hd q=>ab (bind_some hd) λdd e1 hd=>ab (bind_some hd) λxx e2 hd=>ab (bind_some e2) λdy e3 e4=>kP (hx.bz e1) λa vs g1 g2 g3 g4 g5=>⟨.ref a,g1,O,ρ,dy,hx,e3,λv H1 s1 r1=>?_⟩
  refine ab ((mS (x:=xx) g3 (g5.mono s1)).1 d hd) λv' h1 h2=>?_
  have hg:=wd (qk s1 g2) g4 r1.own e4
  rw[h1]at hg
  exact⟨a,v',rfl,hg,q v' H1 s1 (.inl h2)⟩
def MX{neg:Bool}(hu:X.A.units+64<cLine)(hk:PE X k (tV X.K false f))(ho:PE X a (dA i)):PC X (if neg then .NotIn else .In) k a (tV X.K m λρ=>((f ρ).bind λy=>(gv ρ i).bind λd=>(dD d.1 y).map λx=> .bl (if neg then !decide (x∈d.2.1) else decide (x∈d.2.1)))):=by
 have key:∀σ H (Q:VK),tV X.K m (λρ=>((f ρ).bind λy=>(gv ρ i).bind λd=>(dD d.1 y).map λx=>D.bl (if neg then !decide (x∈d.2.1) else decide (x∈d.2.1)))) σ H Q->
   tV X.K false f σ H λy H1=>dA i σ H1 λx H2=>∃a o,x= .ref a/\p7 H2 a y o/\Q (.bl (if neg then !o.isSome else o.isSome)) H2:=λσ H Q zz=>by
  refine ao λnO=>cL zz λO ρ d hx hd q=>ab (bind_some hd) λdy e1 hd=>ab (bind_some hd) λdd e2 hd=>ab (map_some hd) λxx e3 ah=>?_
  subst ah
  refine nO ?_
  refine⟨O,ρ,dy,hx,e1,λv H1 s1 r1=>?_⟩
  refine ao λnO=>kP ((hx.mono s1).bz e2) λa vs g1 g2 g3 g4 g5=>nO ?_
  refine⟨.ref a,g1,a,_,rfl,wd g2 g4 r1.own e3,?_⟩
  rw[(mS (x:=xx) g3 g5).2.2]
  exact q _ H1 s1 (.inl (.bl _))
 cases neg with
 |true=>exact λaa s σ H Q I q=>xP (by lia) hk ho aa s σ H Q I (key σ H Q q)
 |false=>exact λaa s σ H Q I q=>HA (by lia) hk ho aa s σ H Q I (key σ H Q q)
def DR(hc:X.calm=true)(ho:PE X a (dA i))(hg:Gl X "sorted")(hm:X.mg "sorted"=none)(hs:starEach [a] X.env=(false,eval a X.env)::starEach [] X.env):PE X (.Call (.Name "sorted" p) [a] [] pos) (tV X.K m λρ=>(gv ρ i).bind λd=>if d.1=0 then(if d.2.1.length<64 then some (.lst ((sortI (d.2.1.map λk=>k.headD 0)).map .int)) else none)
   else if []∈d.2.1 then none else some (.lst ((cN.fg d.2.1).map uq))):=
 (eZ ((qj hc).or (qh hc)) hg hm boot_sorted (cw ho eO hs) (by decide) (by decide) hs rfl).weak λσ H Q zz=>by
  refine cL zz λO ρ d hx hd q=>ab (bind_some hd) λdd e1 hd=>kP (hx.bz e1) λb vs g1 g2 g3 g4 g5=>⟨.ref b,g1,?_⟩
  unfold gr at g2
  by_cases h0:dd.1=0
  .rw[Xs h0]at hd g2
   split at hd
   .rename_i CL
    cases hd
    refine .inl ⟨b,_,dd.2.1.map λk=>k.headD 0,rfl,g2,?_,by rw[Xb];exact CL,λet p1 p2 l hl=>?_⟩
    .rw[List.map_fst_zip (by rw[Xb];lia),XY]
     rfl
    .rw[sD p1 p2]
     exact q _ _ (af.upd hl) (.inl (.lst (.inl ag) (hx.free (af.refl _) hl) (dN _)))
   .cases hd
  .rw[Xx h0]at hd g2
   split at hd
   .cases hd
   .rename_i gx
    cases hd
    refine .inr ⟨b,_,dd.2.1,rfl,g2,?_,λk hk e=>gx (e▸hk),λl us hl pw=>q _ _ (af.upd hl) (.inl (.lst (.inl ag) (hx.free (af.refl _) hl) ((sF pw).mono (af.upd hl))))⟩
    rw[List.map_fst_zip (by rw[Xb];lia)]
end
section
variable {G:GT}{F:FT}
def DS(h:b_ e=true):CT e:=by
 intro o i
 cases e<;>first|rfl|exact absurd h Xa
def AG(hk:b7 G F k):b7 G F (.dC i k):=by
 have aH:∀X,Ct X G F->∀x,bx G (.dC i k) X.N X.env.scope x=true->(∃v s p,x= .Subscript v s p)/\∀m,PE X x (tV X.K m (ev F m (.dC i k))):=λX hC x h=>by
  cases x with
  |Subscript v s p=>
   change (dF X.N X.env.scope i v&&bx G k X.N X.env.scope s&&b_ s)=true at h
   simp only[W7]at h
   refine kP (cb h.1.1) λx q ah n1 n2 n3 n4=>?_
   subst ah
   exact⟨⟨_,_,_,rfl⟩,λm=>Iq hC.units (bL n1 n2 n3 n4) (hk.e X hC s h.1.2 false) (DS h.2)⟩
  |_=>exact ff h
 refine .gp (λX hC x h m=>(aH X hC x h).2 m) (λX hC x h _=>?_) (λX hC x h z=>ff z)
 obtain⟨⟨v,s,p,rfl⟩,q⟩:=aH X hC x h
 exact cR (q false) λ_=>rfl
def DT(hk:b7 G F k):b7 G F (.vw neg k i):=by
 have aH:∀X,Ct X G F->∀x,bx G (.vw neg k i) X.N X.env.scope x=true->∃l r p,x= .Compare l [if neg then .NotIn else .In] [r] p/\(∀m,PC X (if neg then .NotIn else .In) l r (tV X.K m (ev F m (.vw neg k i))))/\behindInMarks (if neg then .NotIn else .In) r=false:=λX hC x h=>by
  refine nI (wa (e:=x) h) λl op r p zr df=>?_
  subst zr
  simp only[W7,decide_eq_true_eq]at df
  obtain⟨⟨rfl,h1⟩,h2⟩:=df
  refine kP (cb h2) λx q ah n1 n2 n3 n4=>?_
  subst ah
  exact⟨l,_,p,rfl,λm=>MX hC.units (hk.e X hC l h1 false) (bL n1 n2 n3 n4),kz rfl⟩
 refine .gp (λX hC x h m=>?_) (λX hC x h _=>?_) (λX hC x h z=>ff z)
 .refine cL (aH X hC x h) λl r p aK q1 q2=>?_
  subst aK
  exact Gu (q1 m) q2
 .refine cL (aH X hC x h) λl r p cQ q1 q2=>?_
  subst cQ
  refine(Gv (q1 false) q2).weak λσ H Q zz=>cL zz λO ρ kk hx hd q=>ab (bind_some hd) λd e1 e2=>?_
  cases fD e2
  exact⟨O,ρ,_,hx,e1,λv H1 s1 r1=>⟨kk,r1.bl,q H1 s1⟩⟩
def ye:b7 G F (.eE i):=by
 have aH:∀X,Ct X G F->∀x,bx G (.eE i) X.N X.env.scope x=true->(∃fn args ub p,x= .Call fn args ub p)/\∀m,PE X x (tV X.K m (ev F m (.eE i))):=λX hC x h=>by
  obtain⟨y,py,a0,p,rfl,g⟩:=jN (e:=x) h
  replace h:=g
  refine⟨⟨_,_,_,_,rfl⟩,?_⟩
  simp only[W7,decide_eq_true_eq]at h
  obtain⟨⟨rfl,h1⟩,h2⟩:=h
  refine kP (cb h2) λx q ah n1 n2 n3 n4=>?_
  subst ah
  exact λm=>DR hC.calm (bL n1 n2 n3 n4) (fH h1) (hC.mg _ (by simp[iW])) (bV rfl)
 refine .gp (λX hC x h m=>(aH X hC x h).2 m) (λX hC x h _=>?_) (λX hC x h z=>ff z)
 obtain⟨⟨fn,args,ub,p,rfl⟩,q⟩:=aH X hC x h
 exact cR (q false) λ_=>rfl
def b7.S1(i:∀X,Ct X G F->∀tg x,DB G e' X.N X.env.scope x=true->∀m,PI X tg x (tI X.K m (lA F m e')))
  (n0:∀N sc x,bx G e' N sc x=false:=by intro _ _ _;rfl) (n1:∀N sc xs,dX G e' N sc xs=false:=by intro _ _ _;rfl) (n2:∀N sc xs,mP G e' N sc xs=false:=by intro _ _ _;rfl) (n3:∀N sc xs,FQ G e' N sc xs=false:=by intro _ _ _;rfl):b7 G F e':=
 ⟨λX _ x h=>absurd h (by rw[n0];exact Xa),λX _ x h=>absurd h (by rw[n0];exact Xa),λX _ x h=>absurd h (by rw[n0];exact Xa),λX _ xs h=>absurd h (by rw[n1];exact Xa),λX _ xs h=>absurd h (by rw[n2];exact Xa),λX _ xs h=>absurd h (by rw[n3];exact Xa),i⟩
def Ir:b7 G F (.dk i):= .S1 λX hC tg x h m=>by
 refine kP (cb (show dF X.N X.env.scope i x=true from h)) λy q ah n1 n2 n3 n4=>?_
 subst ah
 exact QL (bL n1 n2 n3 n4)
def Iu:b7 G F (.dv i):= .S1 λX hC tg x h m=>by
 refine JO (fG (e:=x) h) λoe nm ap as p zr df=>?_
 subst zr
 simp only[W7,decide_eq_true_eq,aae]at df
 obtain⟨⟨⟨rfl,rfl⟩,h1⟩,h2⟩:=df
 refine kP (cb h1) λy q ah n1 n2 n3 n4=>?_
 subst ah
 exact QM (bL n1 n2 n3 n4) rfl h2
def Iv(n0:∀N sc x,bx G e' N sc x=false:=by intro _ _ _;rfl)(n1:∀N sc xs,dX G e' N sc xs=false:=by intro _ _ _;rfl)(n2:∀N sc xs,mP G e' N sc xs=false:=by intro _ _ _;rfl)(n3:∀N sc xs,FQ G e' N sc xs=false:=by intro _ _ _;rfl)(n4:∀N sc xs,DB G e' N sc xs=false:=by intro _ _ _;rfl):b7 G F e':=
 .gp (λX hC x h=>absurd h (by rw[n0];exact Xa)) (λX hC x h=>absurd h (by rw[n0];exact Xa)) (λX hC x h=>absurd h (by rw[n0];exact Xa)) n1 n2 n3 n4
def DU(he:b7 G F es):b7 G F (.eL es) where
 e:=λX hC x h=>ff h
 t:=λX hC x h=>ff h
 f:=λX hC x h=>ff h
 es:=λX hC x h=>ff h
 ts:=λX hC x h=>ff h
 o:=λX hC x h=>ff h
 i:=λX hC tg x h m=>by
  refine nI (fF (e:=x) h) λn pn as p zr df=>?_
  subst zr
  simp only[W7,decide_eq_true_eq]at df
  obtain⟨⟨⟨rfl,h1⟩,h2⟩,h3⟩:=df
  exact MU (fH h1) (hC.mg _ (by simp[iW])) (he.es X hC _ h3 false) (λρ ds hd=>qu h3 hd) h2 (jO h3)
def Iw(ha:b7 G F a):b7 G F (.it a) where
 e:=λX hC x h=>ff h
 t:=λX hC x h=>ff h
 f:=λX hC x h=>ff h
 es:=λX hC x h=>ff h
 ts:=λX hC x h=>ff h
 o:=λX hC x h=>ff h
 i:=λX hC tg x h m=>QK (ha.e X hC x h m)
def mU(hC:Ct X G F)(hi:b7 G F it)(hf:b7 G F ifs)(he:b7 G F dQ)(h4:ya X.N X.env.scope gE [n] fr=true)(h5:DB G it X.N X.env.scope iter=true)
  (h6:mP G ifs (og X.N [n] fr) (k7 gE X.env.scope) fs=true) (h7:bx G dQ (og X.N [n] fr) (k7 gE X.env.scope) el=true):
  ∀cl C aa s H ex,PG (ir X gE cl C (og X.N [n] fr) aa s H ex) (.Name n q) (cI 0)/\xC (ir X gE cl C (og X.N [n] fr) aa s H ex) fs (tB X.K (fm F true ifs))/\PE (ir X gE cl C (og X.N [n] fr) aa s H ex) el (tV X.K false (ev F false dQ)):=λcl C aa s H ex=>by
 refine cS (qt h4) λS HL nd=>have hl:=HL _ Xd;?_
 have Kf:=hC.inner gE cl C (og X.N [n] fr) aa s H ex
 exact⟨lI nd rfl (qr hl).1 (qr hl).2,(hf.ts _ Kf fs h6).1,he.e _ Kf el h7 false⟩
def pb(h:bx G (.comp fr tg it ifs dQ) N sc x=true):∃el n q iter fs gE p,x= .ListComp el [⟨.Name n q,iter,fs,0⟩] gE p/\tg=0/\fW iter=true/\ya N sc gE [n] fr=true/\DB G it N sc iter=true/\mP G ifs (og N [n] fr) (k7 gE sc) fs=true/\bx G dQ (og N [n] fr) (k7 gE sc) el=true:=by
 refine nI (v_ (e:=x) h) λel gs gE p zr h=>ab (bS h) λg aK df=>?_
 obtain⟨qS,iter,fs,kk⟩:=g
 refine eW (cF df) λn q cQ FR=>?_
 change qS=_ at cQ
 subst zr aK cQ
 simp only[W7,decide_eq_true_eq]at FR
 obtain⟨⟨⟨⟨⟨⟨rfl,rfl⟩,h3⟩,h4⟩,h5⟩,h6⟩,h7⟩:=FR
 exact⟨el,n,q,iter,fs,gE,p,rfl,rfl,h3,h4,h5,h6,h7⟩
def wj(ρ:Env):ev F false (.comp fr 0 it ifs dQ) ρ=((lA F true it ρ).bind λxs=>if xs.length<=bj then walk (oS 0 (fm F true ifs) (ev F false dQ) fr ρ) xs else none).map .lst :=by
 show(lA F true it ρ).bind _=_
 cases lA F true it ρ with
 |none=>rfl
 |some xs=>
  show(if xs.length<=bj then _ else _)=Option.map _ (if xs.length<=bj then _ else _)
  by_cases h:xs.length<=bj
  .rw[Xs h,Xs h]
   rfl
  .rw[Xx h,Xx h]
   rfl
def AH{e:Option D}{g:Option (List D)}(h:e=g.map D.lst):e.bind iH=g:=by rw[h];cases g<;>rfl
def wk{K:PySem.W.Frag}{fr:List Nat}{it ifs dQ:E}(σ:St)(H:Hp)(Q:VK)(h:tF K (λρ=>(ev F false (.comp fr 0 it ifs dQ) ρ).bind iH) σ H Q):
  tF K (λρ=>(lA F true it ρ).bind λxs=>if xs.length<=bj then walk (oS 0 (fm F true ifs) (ev F false dQ) fr ρ) xs else none) σ H Q:=by
 rwa [Ax λρ=>AH (wj ρ)]at h
def AI(hi:b7 G F it)(hf:b7 G F ifs)(he:b7 G F dQ):b7 G F (.comp fr tg it ifs dQ):=by
 have aH:∀X,Ct X G F->∀x,bx G (.comp fr tg it ifs dQ) X.N X.env.scope x=true->(∃el gs s p,x= .ListComp el gs s p)/\tg=0/\PE X x (tF X.K λρ=>(ev F false (.comp fr tg it ifs dQ) ρ).bind iH):=λX hC x h=>by
  refine R4 (pb h) λel n q iter fs gE p ah aK h3 h4 h5 h6 h7=>?_
  subst ah
  subst aK
  exact⟨⟨_,_,_,_,rfl⟩,rfl,(Ik (hi.i X hC _ iter h5 true) (qt h4).1 hC.calm (mU hC hi hf he h4 h5 h6 h7) (dP h3)).weak λσ H Q z=>wk σ H Q z⟩
 have Io:tg=0->∀ρ d,ev F false (.comp fr tg it ifs dQ) ρ=some d->∃ds,d= .lst ds:=λht ρ d hd=>by
  subst ht
  rw[wj]at hd
  refine ab (map_some hd) λxs h1 cQ=>?_
  subst cQ
  exact⟨_,rfl⟩
 refine .gp (λX hC x h m=>?_) (λX hC x h _=>?_) (λX hC x h z=>?_)
 .exact cS (aH X hC x h) λ_ hq k=>mR m k (Io hq)
 .obtain⟨⟨el,gs,s,p,rfl⟩,hq,k⟩:=aH X hC x h
  exact cR (mR false k (Io hq)) λ_=>rfl
 .exact(aH X hC x h).2.2
def snd(e':E):b7 G F e':=by
 induction e' with
 |nil=>exact DD
 |cons a r ha hr=>exact AA ha hr
 |var i=>exact DE
 |c d=>exact MV
 |bin o a b ha hb=>exact DF ha hb
 |cmp o a b ha hb=>exact DG ha hb
 |tup es he=>exact DL he
 |lst es he=>exact DM he
 |idx a i ha hi=>exact DN ha hi
 |sl a lo hi ha hl hh=>exact Ip ha hl hh
 |call f es he=>exact AB he
 |prim q es he=>exact AD he
 |gW q es he=>exact DO he
 |comp fr tg it ifs dQ hi hf he=>exact AI hi hf he
 |eL es he=>exact DU he
 |it a ha=>exact Iw ha
 |fj mm o es ho he=>exact AF ho he
 |CH a _=>exact Iv
 |dC i k hk=>exact AG hk
 |vw neg k i hk=>exact DT hk
 |eE i=>exact ye
 |dk i=>exact Ir
 |dv i=>exact Iu
 |f_ k es he=>exact DK he
 |not a ha=>exact DJ ha
 |fQ a b ha=>exact DP ha
 |chain o o' a b c ha hb hc=>exact yc ha hb hc
 |rev a ha=>exact DH ha
 |neg a ha=>exact DI ha
end
def Os(ae:Addr->Prop)(ow:Nat->Option Addr):Addr->Prop:=λa=>ae a\/∃i,ow i=some a
noncomputable def ph(ow:Nat->Option Addr)(i:Nat)(o:Option Addr):Nat->Option Addr:=λj=>if j=i then o else ow j
def aI:ph ow i o i=o:=Xs rfl
def aM(h:¬j=i):ph ow i o j=ow j:=Xx h
structure SX(K:PySem.W.Frag)(H₀:Hp)(ae Z:Addr->Prop)(kv:List V)(kd:List D)(ow:Nat->Option Addr)(σ:St)(H:Hp)(ρ:Env):Prop where
 ex:EX K (Os ae ow) σ H ρ
 own:∀(i:Nat) (d:D),ρ[i]?=some (some (true,d))->∃a,σ[i]?=some (some (.ref a))/\((mj d=false/\ow i=some a)\/(mj d=true/\Z a/\ae a))
 inj:∀i j a,ow i=some a->ow j=some a->i=j
 new:∀i a,ow i=some a->H₀ a=none
 same:af H₀ H
 kp:au K (Os ae ow) H kv kd
 o0:∀a,ae a->∃o,H₀ a=some o
 len:ρ.length=σ.length
section
variable {K:PySem.W.Frag}{H₀:Hp}{ae Z:Addr->Prop}{kv:List V}{kd:List D}{ow:Nat->Option Addr}{σ:St}{H H1:Hp}{ρ:Env}
theorem SX.mono(h:SX K H₀ ae Z kv kd ow σ H ρ)(s:af H H1):SX K H₀ ae Z kv kd ow σ H1 ρ:=⟨h.ex.mono s,h.own,h.inj,h.new,h.same.trans s,h.kp.mono s,h.o0,h.len⟩
theorem SX.put(h:SX K H₀ ae Z kv kd ow σ H ρ)(r:br K (Os ae ow) H v d)(i:Nat):SX K H₀ ae Z kv kd (ph ow i none) (σ.set i (some v)) H (Py.put ρ i false d):=by
 have sub:∀a,Os ae (ph ow i none) a->Os ae ow a:=λa z=>by
  rcases z with z|⟨j,z⟩
  .exact .inl z
  .by_cases hj:j=i
   .rw[hj,aI]at z;cases z
   .rw[aM hj]at z;exact .inr ⟨j,z⟩
 refine⟨⟨λa ha=>h.ex.live a (sub a ha),λj o d' hj=>?_⟩,λj d' hj=>?_,λj k a hj hk=>?_,λj a hj=>?_,h.same,h.kp.weak sub,h.o0,by unfold Py.put;rw[X1,X1];exact h.len⟩
 .by_cases eJ:j=i
  .subst eJ
   unfold Py.put at hj
   by_cases hl:j<ρ.length
   .rw[XB hl]at hj
    cases hj
    exact⟨v,XB (by rw[<-h.len];exact hl),r.weak sub⟩
   .rw[Xz (by rw[X1];lia)]at hj;cases hj
  .unfold Py.put at hj
   rw[XA (Ya eJ)]at hj
   refine ab (h.ex.kU j o d' hj) λw h1 h2=>⟨w,by rw[XA (Ya eJ)];exact h1,?_⟩
   cases o with
   |true=>
    refine ao λnO=>bF h2 λa e1 e2 c=>ab (h.own j d' hj) λa' o2 o1=>?_
    rw[h1]at o2
    cases o2
    cases e1
    exact nO<|⟨a,rfl,o1.elim (λo1=> .inr ⟨j,by rw[aM eJ];exact o1.2⟩) (λo1=> .inl o1.2.2),c.weak sub⟩
   |false=>exact br.weak h2 sub
 .by_cases eJ:j=i
  .subst eJ
   unfold Py.put at hj
   by_cases hl:j<ρ.length
   .rw[XB hl]at hj;cases hj
   .rw[Xz (by rw[X1];lia)]at hj;cases hj
  .unfold Py.put at hj
   rw[XA (Ya eJ)]at hj
   exact ab (h.own j d' hj) λa o2 o1=>⟨a,by rw[XA (Ya eJ)];exact o2,o1.imp (λo1=>⟨o1.1,by rw[aM eJ];exact o1.2⟩) id⟩
 .by_cases h1:j=i
  .rw[h1,aI]at hj;cases hj
  .by_cases h2:k=i
   .rw[h2,aI]at hk;cases hk
   .rw[aM h1]at hj;rw[aM h2]at hk;exact h.inj j k a hj hk
 .by_cases h1:j=i
  .rw[h1,aI]at hj;cases hj
  .rw[aM h1]at hj;exact h.new j a hj
def AJ:∀a,Os ae (ph ow i (some p)) a->Os ae ow a\/a=p:=λa z=>by
 rcases z with z|⟨j,z⟩
 .exact .inl (.inl z)
 .by_cases hj:j=i
  .rw[hj,aI]at z;cases z;exact .inr rfl
  .rw[aM hj]at z;exact .inl (.inr ⟨j,z⟩)
def mV(hp:H1 p=none)(r:au K (Os ae ow) H1 vs ds):au K (Os ae (ph ow i (some p))) (L2.upd H1 p u) vs ds:=((r.own hp).mono (af.upd hp)).weak AJ
def SX.MY(h:SX K H₀ ae Z kv kd ow σ H ρ)(s:af H H1)(hp:H1 p=none)(hu:sv u)(i:Nat)(hi:i<ρ.length)(Oj:mj d0=false)(c:eC K (Os ae (ph ow i (some p))) (L2.upd H1 p u) p d0):
  SX K H₀ ae Z kv kd (ph ow i (some p)) (σ.set i (some (.ref p))) (L2.upd H1 p u) (Py.put ρ i true d0):=by
 have h1:=h.mono s
 have Iy:H₀ p=none:=by
  cases z:H₀ p with
  |none=>rfl
  |some o=>rw[h1.same _ _ z]at hp;cases hp
 have sub:∀a,Os ae (ph ow i (some p)) a->(λa=>Os ae ow a\/a=p) a:=λa z=>by
  rcases z with z|⟨j,z⟩
  .exact .inl (.inl z)
  .by_cases hj:j=i
   .rw[hj,aI]at z;cases z;exact .inr rfl
   .rw[aM hj]at z;exact .inl (.inr ⟨j,z⟩)
 have up:af H1 (L2.upd H1 p u):=af.upd hp
 have mv:∀{v d},br K (Os ae ow) H1 v d->br K (Os ae (ph ow i (some p))) (L2.upd H1 p u) v d:=λq=>((q.own hp).mono up).weak sub
 have Vv:∀{v d},au K (Os ae ow) H1 v d->au K (Os ae (ph ow i (some p))) (L2.upd H1 p u) v d:=λq=>((q.own hp).mono up).weak sub
 have S2:∀j,ow j≠some p:=λj z=>by
  refine ab (h1.ex.live p (.inr ⟨j,z⟩)) λus q _=>?_
  rw[q]at hp;cases hp
 refine⟨⟨λa ha=>?_,λj o d' hj=>?_⟩,λj d' hj=>?_,λj k a hj hk=>?_,λj a hj=>?_,h1.same.trans up,Vv h1.kp,h.o0,by unfold Py.put;rw[X1,X1];exact h.len⟩
 .rcases sub a ha with z|z
  .exact ab (h1.ex.live a z) λus q qo=>⟨us,up _ _ q,qo⟩
  .subst z;exact⟨u,ag,hu⟩
 .by_cases eJ:j=i
  .subst eJ
   unfold Py.put at hj
   rw[XB hi]at hj
   cases hj
   exact⟨.ref p,XB (by rw[<-h.len];exact hi),p,rfl,.inr ⟨j,aI⟩,c⟩
  .unfold Py.put at hj
   rw[XA (Ya eJ)]at hj
   refine ab (h1.ex.kU j o d' hj) λw q1 q2=>⟨w,by rw[XA (Ya eJ)];exact q1,?_⟩
   cases o with
   |true=>
    refine ao λnO=>bF q2 λa e1 e2 c'=>ab (h.own j d' hj) λa' o2 o1=>?_
    rw[q1]at o2
    cases o2
    cases e1
    exact nO<|⟨a,rfl,o1.elim (λo1=> .inr ⟨j,by rw[aM eJ];exact o1.2⟩) (λo1=> .inl o1.2.2),((c'.own hp).mono up).weak sub⟩
   |false=>exact mv q2
 .by_cases eJ:j=i
  .subst eJ
   unfold Py.put at hj
   rw[XB hi]at hj
   cases hj
   exact⟨p,XB (by rw[<-h.len];exact hi),.inl ⟨Oj,aI⟩⟩
  .unfold Py.put at hj
   rw[XA (Ya eJ)]at hj
   exact ab (h.own j d' hj) λa o2 o1=>⟨a,by rw[XA (Ya eJ)];exact o2,o1.imp (λo1=>⟨o1.1,by rw[aM eJ];exact o1.2⟩) id⟩
 .by_cases q1:j=i
  .rw[q1,aI]at hj
   cases hj
   by_cases q2:k=i
   .rw[q1,q2]
   .rw[aM q2]at hk;exact absurd hk (S2 k)
  .rw[aM q1]at hj
   by_cases q2:k=i
   .rw[q2,aI]at hk
    cases hk
    exact absurd hj (S2 j)
   .rw[aM q2]at hk;exact h.inj j k a hj hk
 .by_cases q1:j=i
  .rw[q1,aI]at hj;cases hj;exact Iy
  .rw[aM q1]at hj;exact h.new j a hj
def SX.GW(h:SX K H₀ ae Z kv kd ow σ H ρ)(s:af H H1)(hp:H1 p=none)(r:au K (Os ae ow) H1 vs ds)(i:Nat)(hi:i<ρ.length):
  SX K H₀ ae Z kv kd (ph ow i (some p)) (σ.set i (some (.ref p))) (L2.upd H1 p (.lst vs)) (Py.put ρ i true (.lst ds)):=h.MY (u:= .lst vs) s hp trivial i hi rfl (.inl ⟨vs,ds,rfl,ag,mV hp r⟩)
def SX.S3(h:SX K H₀ ae Z kv kd ow σ H ρ)(ha:ow i=some a)(hs:σ[i]?=some (some (.ref a)))(hH:H a=some u)(hu:sv u)(Kg:sv u')(hz:mj d0=false)(c:eC K (Os ae ow) (L2.upd H a u') a d0):
  SX K H₀ ae Z kv kd ow σ (L2.upd H a u') (Py.put ρ i true d0):=by
 have oa:Os ae ow a:= .inr ⟨i,ha⟩
 have sm:af H₀ (L2.upd H a u'):=λb o e=>by
  have hb:b≠a:=λz=>by rw[z,h.new i a ha]at e;cases e
  rw[ak hb];exact h.same _ _ e
 refine⟨⟨λb hb=>?_,λj o d' hj=>?_⟩,λj d' hj=>?_,h.inj,h.new,sm,h.kp.upd oa hH hu,h.o0,by unfold Py.put;rw[X1];exact h.len⟩
 .by_cases oN:b=a
  .subst oN;exact⟨u',ag,Kg⟩
  .exact ab (h.ex.live b hb) λus q qo=>⟨us,by rw[ak oN];exact q,qo⟩
 .by_cases eJ:j=i
  .subst eJ
   unfold Py.put at hj
   by_cases hl:j<ρ.length
   .rw[XB hl]at hj
    cases hj
    exact⟨.ref a,hs,a,rfl,oa,c⟩
   .rw[Xz (by rw[X1];lia)]at hj;cases hj
  .unfold Py.put at hj
   rw[XA (Ya eJ)]at hj
   refine ab (h.ex.kU j o d' hj) λw q1 q2=>⟨w,q1,?_⟩
   cases o with
   |true=>
    refine ao λnO=>bF q2 λb e1 e2 c'=>ab (h.own j d' hj) λb' o2 o1=>?_
    rw[q1]at o2
    cases o2
    cases e1
    refine nO ?_
    have oN:b≠a:=λz=>by
     rcases o1 with o1|o1
     .exact eJ (h.inj j i b o1.2 (by rw[z];exact ha))
     .obtain⟨w,hw⟩:=h.o0 b o1.2.2
      rw[z,h.new i a ha]at hw
      cases hw
    exact⟨b,rfl,e2,c'.upd oN oa hH hu⟩
   |false=>exact br.upd q2 oa hH hu
 .by_cases eJ:j=i
  .subst eJ
   unfold Py.put at hj
   by_cases hl:j<ρ.length
   .rw[XB hl]at hj
    cases hj
    exact⟨a,hs,.inl ⟨hz,ha⟩⟩
   .rw[Xz (by rw[X1];lia)]at hj;cases hj
  .unfold Py.put at hj
   rw[XA (Ya eJ)]at hj
   exact h.own j d' hj
def SX.wr(h:SX K H₀ ae Z kv kd ow σ H ρ)(ha:ow i=some a)(hs:σ[i]?=some (some (.ref a)))(hH:H a=some (.lst vs))(r:au K (Os ae ow) H Iz Mu):
  SX K H₀ ae Z kv kd ow σ (L2.upd H a (.lst Iz)) (Py.put ρ i true (.lst Mu)):=h.S3 (u':= .lst Iz) ha hs hH trivial trivial rfl (.inl ⟨Iz,Mu,rfl,ag,r.upd (.inr ⟨i,ha⟩) hH trivial⟩)
def SX.freeze(h:SX K H₀ ae Z kv kd ow σ H ρ)(hd:ρ[i]?=some (some (true,.lst ds))):SX K H₀ ae Z kv kd (ph ow i none) σ H (ρ.set i (some (false,.lst ds))):=by
 refine ao λnO=>ab (h.own i _ hd) λa o2 o1=>?_
 have o1:ow i=some a:=o1.elim (λz=>z.2) λz=>nomatch z.1
 refine ab (h.ex.kU i true _ hd) λw q1 q2=>bF q2 λa' e1 e3 c=>ab c.lst λvs e4 e5=>?_
 rw[q1]at o2
 cases o2
 cases e1
 refine nO ?_
 have e6:¬Os ae (ph ow i none) a:=λz=>by
  rcases z with z|⟨j,z⟩
  .obtain⟨o,q⟩:=h.o0 a z
   rw[h.new i a o1]at q;cases q
  .by_cases hj:j=i
   .rw[hj,aI]at z;cases z
   .rw[aM hj]at z;exact hj (h.inj j i a z o1)
 have WR:σ=σ.set i (some (.ref a)):=by
  apply Yv
  intro j
  by_cases hj:i=j
  .subst hj
   have hl:i<σ.length:=(Xu.mp q1).1
   rw[XB hl,q1]
  .rw[XA hj]
 have sub:∀b,Os ae (ph ow i none) b->Os ae ow b:=λb z=>by
  rcases z with z|⟨j,z⟩
  .exact .inl z
  .by_cases hj:j=i
   .rw[hj,aI]at z;cases z
   .rw[aM hj]at z;exact .inr ⟨j,z⟩
 have r:br K (Os ae (ph ow i none)) H (.ref a) (.lst ds):= .lst (.inl e4) e6 (e5.weak sub)
 refine⟨⟨λb hb=>h.ex.live b (sub b hb),λj o d' hj=>?_⟩,λj d' hj=>?_,λj k b hj hk=>?_,λj b hj=>?_,h.same,h.kp.weak sub,h.o0,by rw[X1];exact h.len⟩
 .by_cases eJ:j=i
  .subst eJ
   have hl:j<ρ.length:=(Xu.mp hd).1
   rw[XB hl]at hj
   cases hj
   exact⟨.ref a,q1,r⟩
  .rw[XA (Ya eJ)]at hj
   refine ab (h.ex.kU j o d' hj) λw p1 p2=>⟨w,p1,?_⟩
   cases o with
   |true=>
    refine ao λnO=>bF p2 λb f1 f2 c'=>ab (h.own j d' hj) λb' g2 g1=>?_
    rw[p1]at g2
    cases g2
    cases f1
    exact nO<|⟨b,rfl,g1.elim (λg1=> .inr ⟨j,by rw[aM eJ];exact g1.2⟩) (λg1=> .inl g1.2.2),c'.weak sub⟩
   |false=>exact br.weak p2 sub
 .by_cases eJ:j=i
  .subst eJ
   have hl:j<ρ.length:=(Xu.mp hd).1
   rw[XB hl]at hj
   cases hj
  .rw[XA (Ya eJ)]at hj
   exact ab (h.own j d' hj) λb g2 g1=>⟨b,g2,g1.imp (λg1=>⟨g1.1,by rw[aM eJ];exact g1.2⟩) id⟩
 .by_cases h1:j=i
  .rw[h1,aI]at hj;cases hj
  .by_cases h2:k=i
   .rw[h2,aI]at hk;cases hk
   .rw[aM h1]at hj;rw[aM h2]at hk;exact h.inj j k b hj hk
 .by_cases h1:j=i
  .rw[h1,aI]at hj;cases hj
  .rw[aM h1]at hj;exact h.new j b hj
def SX.keep(h:SX K H₀ ae Z kv kd ow σ H ρ)(r:br K (Os ae ow) H v d):SX K H₀ ae Z (v::kv) (d::kd) ow σ H ρ:=⟨h.ex,h.own,h.inj,h.new,h.same,.cons r h.kp,h.o0,h.len⟩
def SX.drop(h:SX K H₀ ae Z (v::kv) (d::kd) ow σ H ρ):SX K H₀ ae Z kv kd ow σ H ρ:=⟨h.ex,h.own,h.inj,h.new,h.same,by cases h.kp with|cons _ t=>exact t,h.o0,h.len⟩
def SX.kept(h:SX K H₀ ae Z (v::kv) (d::kd) ow σ H ρ):br K (Os ae ow) H v d:=by cases h.kp with|cons r _=>exact r
end
def post(K:PySem.W.Frag)(H₀:Hp)(ae Z:Addr->Prop)(kv:List V)(kd:List D)(D':yN):lB->Prop
 | .next ρ=>∀ow σ H,SX K H₀ ae Z kv kd ow σ H ρ->D'.nx σ H
 | .brk ρ=>∀ow σ H,SX K H₀ ae Z kv kd ow σ H ρ->D'.bk σ H
 | .cont ρ=>∀ow σ H,SX K H₀ ae Z kv kd ow σ H ρ->D'.ct σ H
 | .ret d=>∀v H,af H₀ H->br K ae H v d->D'.rt v H
def tC(K:PySem.W.Frag)(f:Env->Option lB):TS:=λD' σ H=>∃H₀ ae Z kv kd ow ρ out,SX K H₀ ae Z kv kd ow σ H ρ/\f ρ=some out/\post K H₀ ae Z kv kd D' out
def _root_.L2.PS.weak{X:Cx}{st:Stmt}{t t':TS}(h:PS X st t)(w:∀D' σ H,t' D' σ H->t D' σ H):PS X st t':=λaa s σ H D' I q=>h aa s σ H D' I (w D' σ H q)
def _root_.L2.lH.weak{X:Cx}{st:List Stmt}{t t':TS}(h:lH X st t)(w:∀D' σ H,t' D' σ H->t D' σ H):lH X st t':=λaa s σ H D' I q=>h aa s σ H D' I (w D' σ H q)
noncomputable def fY:Expr->Bool
 | .ListComp _ _ _ _=>true
 | .SetComp _ _ _ _=>true
 | .DictComp _ _ _ _ _=>true
 |_=>false
noncomputable def Vw:E->Bool
 | .comp _ _ _ _ _=>true
 |_=>false
noncomputable def qx(sc:Scope)(x:Str):Bool:=match sc.names.lookup x with|some .local =>true|some .cell =>true|_=>false
noncomputable def S4:Expr->Bool
 | .Tuple _ _ _=>false
 |_=>true
noncomputable def fZ(N:List Str)(sc:Scope):List Nat->List Expr->Bool
 |[],es=>es.isEmpty
 |i::is,es=>match es with
  |e::es=>(match e with| .Name x _=>decide (N[i]?=some x)&&qx sc x|_=>false)&&fZ N sc is es
  |[]=>false
noncomputable def IA(N:List Str)(sc:Scope)(is:List Nat)(tg:Nat)(e:Expr):Bool:=
 match e with
 | .Name _ _=>decide (tg=0)&&fZ N sc is [e]&&decide (is.length=1)
 | .Tuple es _ _=>decide (tg=is.length)&&!es.isEmpty&&fZ N sc is es
 |_=>false
noncomputable def IB(G:GT)(it:E)(N:List Str)(sc:Scope)(qS iter:Expr):Bool:=
 match it with
 | .CH a=>match qS with
  | .Tuple _ _ _=>sN iter λx a0=>decide (x="enumerate")&&jK sc x&&bx G a N sc a0&&bI a0
  |_=>false
 |it=>DB G it N sc iter
noncomputable def AK(N:List Str)(sc:Scope)(y:Nat)(e:Expr):Bool:=mO e λe2 nm as b=>as.isEmpty&&decide (nm="pop")&&dF N sc y e2&&b
noncomputable def DV(G:GT)(x f:Nat)(N:List Str)(sc:Scope)(e:Expr)(ok:Expr->Bool):Bool:=
 mN e λn as=>MT as λe1 w=>decide (G.1[f]?=some n)&&jK sc n&&x_ n&&dF N sc x e1&&ok w&&bI w
noncomputable def MZ(G:GT)(x:Nat)(fr:List Nat)(it k v:E)(N:List Str)(sc:Scope)(st:Stmt):Bool:=
 uP st λa e=>decide (N[x]?=some a)&&qx sc a&&Il e λel gs gE=>uN el λks vs=>oV ks λko=>uO ko λke=>oV vs λve=>oV gs λg=>fX g.target λn=>g.ifs.isEmpty&&decide (g.is_async=0)&&fW g.iter&&ya N sc gE [n] fr&&DB G it N sc g.iter&&bx G k (og N [n] fr) (k7 gE sc) ke&&bx G v (og N [n] fr) (k7 gE sc) ve
noncomputable def QR(G:GT)(x y r f:Nat)(N:List Str)(sc:Scope)(st:Stmt):Bool:=uP st λa e=>decide (N[r]?=some a)&&qx sc a&&DV G x f N sc e (AK N sc y)
noncomputable def FU(G:GT)(x:Nat)(p q u:E)(N:List Str)(sc:Scope)(st:Stmt):Bool:=
 sM st λFV e=>oV FV λo=>oU o λo2 qe=>oU o2 λe1 pe=>dF N sc x e1&&bx G p N sc pe&&b_ pe&&bx G q N sc qe&&b_ qe&&bx G u N sc e&&!fY e
noncomputable def M0(G:GT)(x y g:Nat)(w:E)(N:List Str)(sc:Scope)(st:Stmt):Bool:=
 qp st λe=>mO e λe2 m as b=>oV as λv=>dF N sc y e2&&decide (m="extend")&&b&&bI v&&DV G x g N sc v (bx G w N sc)
noncomputable def S5(f g h k:Stmt->Bool)(l:List Stmt):Bool:=
 match l with
 |[]=>false
 |s1::l=>match l with
  |[]=>false
  |s2::l=>match l with
   |[]=>false
   |s3::l=>match l with
    |[]=>false
    |s4::l=>match l with
     |[]=>f s1&&g s2&&h s3&&k s4
     |_::_=>false
def IC(e:S5 f g h k l=true):∃s1 s2 s3 s4,l=[s1,s2,s3,s4]/\f s1=true/\g s2=true/\h s3=true/\k s4=true:=by
 cases l with
 |nil=>cases e
 |cons s1 l=>cases l with
  |nil=>cases e
  |cons s2 l=>cases l with
   |nil=>cases e
   |cons s3 l=>cases l with
    |nil=>cases e
    |cons s4 l=>cases l with
     |cons _ _=>cases e
     |nil=>
      change (f s1&&g s2&&h s3&&k s4)=true at e
      simp only[W7]at e
      exact⟨s1,s2,s3,s4,rfl,e.1.1.1,e.1.1.2,e.1.2,e.2⟩
noncomputable def M1(f g h:Stmt->Bool)(l:List Stmt):Bool:=
 match l with
 |[]=>false
 |s1::l=>match l with
  |[]=>false
  |s2::l=>match l with
   |[]=>false
   |s3::l=>match l with
    |[]=>f s1&&g s2&&h s3
    |_::_=>false
def AL(e:M1 f g h l=true):∃s1 s2 s3,l=[s1,s2,s3]/\f s1=true/\g s2=true/\h s3=true:=by
 cases l with
 |nil=>cases e
 |cons s1 l=>cases l with
  |nil=>cases e
  |cons s2 l=>cases l with
   |nil=>cases e
   |cons s3 l=>cases l with
    |cons _ _=>cases e
    |nil=>
     change (f s1&&g s2&&h s3)=true at e
     simp only[W7]at e
     exact⟨s1,s2,s3,rfl,e.1.1,e.1.2,e.2⟩
noncomputable def M3(N:List Str)(sc:Scope)(m:Nat)(f g h:Stmt->Bool)(st:Stmt):Bool:=
 match st with
 | .If em a b _=>dF N sc m em&&b.isEmpty&&M1 f g h a
 |_=>false
noncomputable def M4(N:List Str)(sc:Scope)(y:Nat)(f g h:Stmt->Bool)(st:Stmt):Bool:=
 match st with
 | .While e2 a b _=>dF N sc y e2&&b.isEmpty&&M1 f g h a
 |_=>false
noncomputable def M5(N:List Str)(sc:Scope)(x:Nat)(st:Stmt):Bool:=
 match st with
 | .Return o _=>match o with
  |some e=>dF N sc x e
  |none=>false
 |_=>false
def DW{N:List Str}{sc:Scope}{m:Nat}{f g h:Stmt->Bool}{st:Stmt}(e:M3 N sc m f g h st=true):∃em s1 s2 s3 p,st= .If em [s1,s2,s3] [] p/\dF N sc m em=true/\f s1=true/\g s2=true/\h s3=true:=by
 refine ao λnO=>?_
 cases st with
 |If em a b p=>
  refine nO ?_
  change (dF N sc m em&&b.isEmpty&&M1 f g h a)=true at e
  simp only[W7]at e
  refine lG (AL e.2) λs1 s2 s3 ah q=>?_
  subst ah
  cases b with
  |nil=>exact⟨em,s1,s2,s3,p,rfl,e.1.1,q⟩
  |cons _ _=>cases e.1.2
 |_=>cases e
def DX{N:List Str}{sc:Scope}{m:Nat}{f g h:Stmt->Bool}{st:Stmt}(e:M4 N sc m f g h st=true):∃em s1 s2 s3 p,st= .While em [s1,s2,s3] [] p/\dF N sc m em=true/\f s1=true/\g s2=true/\h s3=true:=by
 refine ao λnO=>?_
 cases st with
 |While em a b p=>
  refine nO ?_
  change (dF N sc m em&&b.isEmpty&&M1 f g h a)=true at e
  simp only[W7]at e
  refine lG (AL e.2) λs1 s2 s3 ah q=>?_
  subst ah
  cases b with
  |nil=>exact⟨em,s1,s2,s3,p,rfl,e.1.1,q⟩
  |cons _ _=>cases e.1.2
 |_=>cases e
def DY{N:List Str}{sc:Scope}{x:Nat}{st:Stmt}(e:M5 N sc x st=true):∃e1 p,st= .Return (some e1) p/\dF N sc x e1=true:=by
 refine ao λnO=>?_
 cases st with
 |Return o p=>
  refine nO<|ao λnO=>?_
  cases o with
  |none=>cases e
  |some e1=>
   exact nO<|⟨e1,p,rfl,e⟩
 |_=>cases e
mutual
noncomputable def qy(G:GT):C->List Str->Scope->Stmt->Bool
 | .asg i e,N,sc,st=>uP st λx v=>decide (N[i]?=some x)&&qx sc x&&bx G e N sc v&&!fY v
 | .cU i e,N,sc,st=>uP st λx v=>decide (N[i]?=some x)&&qx sc x&&bx G e N sc v&&fresh e&&(!fY v||Vw e)
 | .mr i ix e,N,sc,st=>sM st λFV v=>oV FV λo=>oU o λn k=>fX n λx=>decide (N[i]?=some x)&&qm sc x&&x_ x&&bx G ix N sc k&&b_ k&&bx G e N sc v
 | .app i e,N,sc,st=>qp st λex=>mO ex λo m as b=>oV as λv=>fX o λx=>decide (N[i]?=some x)&&qm sc x&&x_ x&&decide (m="append")&&b&&bx G e N sc v&&bI v
 | .ret e,N,sc,st=>match st with
  | .Return o _=>match o with
   |some v=>bx G e N sc v
   |none=>false
  |_=>false
 | .Lm _ e,N,sc,st=>match st with
  | .Return o _=>match o with
   |some v=>bx G e N sc v
   |none=>false
  |_=>false
 | .ifs c t u,N,sc,st=>match st with
  | .If x a b _=>bx G c N sc x&&DA c&&iA G t N sc a&&iA G u N sc b
  |_=>false
 | .while c b,N,sc,st=>match st with
  | .While x a o _=>o.isEmpty&&bx G c N sc x&&DA c&&iA G b N sc a
  |_=>false
 | .for is tg it b,N,sc,st=>match st with
  | .For qS iter a o _=>o.isEmpty&&fW iter&&iA G b N sc a&&IA N sc is tg qS&&IB G it N sc qS iter
  |_=>false
 | .pW i t es,N,sc,st=>uP st λx v=>decide (N[i]?=some x)&&qx sc x&&uN v λks vs=>oV ks λko=>uO ko λk=>oV vs λw=>decide (t≠0)&&dX G es N sc [k,w]
 | .rA i k e,N,sc,st=>sM st λFV v=>oV FV λt=>oU t λo ix=>dF N sc i o&&bx G k N sc ix&&b_ ix&&bx G e N sc v&&!fY v
 | .pop i j,N,sc,st=>uP st λx v=>decide (N[i]?=some x)&&qx sc x&&AK N sc j v
 | .ext i e,N,sc,st=>qp st λex=>mO ex λo m as b=>oV as λv=>fX o λx=>decide (N[i]?=some x)&&qm sc x&&x_ x&&decide (m="extend")&&b&&bx G e N sc v&&bI v
 |_,_,_,_=>false
noncomputable def iA(G:GT):C->List Str->Scope->List Stmt->Bool
 | .skip,_,_,tU=>tU.isEmpty
 | .seq a b,N,sc,tU=>match tU with
  |s::r=>qy G a N sc s&&iA G b N sc r
  |[]=>false
 | .fst x fr it k v c1 y r f c2 m c3 p q u g w,N,sc,tU=>S5 (MZ G x fr it k v N sc) (qy G c1 N sc) (M4 N sc y (QR G x y r f N sc) (qy G c2 N sc) (M3 N sc m (qy G c3 N sc) (FU G x p q u N sc) (M0 G x y g w N sc))) (M5 N sc x) tU
 |_,_,_,_=>false
end
def gG(h:qx sc x=true):Loc sc x:=by
 unfold qx at h
 split at h
 .rename_i e;exact .inl e
 .rename_i e;exact .inr e
 .cases h
def mW(h:fY v=false):swapsWith v (some t) l env=pure false:=by
 cases v<;>first|rfl|exact absurd h Bool.noConfusion
section
variable {K:PySem.W.Frag}{H₀:Hp}{ae Z:Addr->Prop}{kv:List V}{kd:List D}{ow:Nat->Option Addr}{σ:St}{H H1:Hp}{ρ:Env}{a:Addr}{o:Obj}{u:HO}
def SX.base(h:SX K H₀ ae Z kv kd ow σ H ρ)(e:H a=some (.dH o u)):SX K (L2.upd H₀ a (.dH o u)) ae Z kv kd ow σ H ρ:=by
 refine⟨h.ex,h.own,h.inj,λi b hb=>?_,λb w hb=>?_,h.kp,λb hb=>?_,h.len⟩
 .have gx:b≠a:=λz=>by
   refine ab (h.ex.live b (.inr ⟨i,hb⟩)) λw q1 q2=>?_
   rw[z,e]at q1
   cases q1
   exact q2
  rw[ak gx]
  exact h.new i b hb
 .by_cases oN:b=a
  .subst oN
   rw[ag]at hb
   cases hb
   exact e
  .rw[ak oN]at hb
   exact h.same _ _ hb
 .by_cases oN:b=a
  .subst oN;exact⟨_,ag⟩
  .obtain⟨w,q⟩:=h.o0 b hb
   exact⟨w,by rw[ak oN];exact q⟩
def pj(s0:H₀ a=none\/H₀ a=some (.dH o u)):af H₀ (L2.upd H₀ a (.dH o u)):=λb w hb=>by
 by_cases oN:b=a
 .subst oN
  rcases s0 with z|z
  .rw[z]at hb;cases hb
  .rw[z]at hb;cases hb;exact ag
 .rw[ak oN];exact hb
def SX.ID(h:SX K (L2.upd H₀ a (.dH o u)) ae Z kv kd ow σ H ρ)(s0:H₀ a=none\/H₀ a=some (.dH o u))(o0:∀b,ae b->∃w,H₀ b=some w):SX K H₀ ae Z kv kd ow σ H ρ:=by
 refine⟨h.ex,h.own,h.inj,λi b hb=>?_,(pj s0).trans h.same,h.kp,o0,h.len⟩
 have:=h.new i b hb
 by_cases oN:b=a
 .subst oN;rw[ag]at this;cases this
 .rw[ak oN]at this;exact this
end
def DZ(h1:ks.length=vs.length)(h2:ks.length=us.length)(e:gr 0 ks vs=gr 0 ks us):vs=us:=by
 rw[jJ,jJ]at e
 have e:=HO.dK.inj e
 have:=congrArg (List.map Prod.snd) e
 rwa [aaW (by rw[Xb];lia),aaW (by rw[Xb];lia)]at this
section
variable {X:Cx}{c e:Expr}{st:Stmt}{bG:List Stmt}{pos px:Pos}{x:Str}{i:Nat}
def IE:lH X [] (tC X.K λρ=>some (.next ρ)):=jd.weak λD' σ H zz=>by
 refine qR zz λH₀ ae Z kv kd ow ρ out hx hd k=>?_
 cases hd
 exact k ow σ H hx
def M6(h1:PS X st (tC X.K f))(h2:lH X bG (tC X.K g)):lH X (st::bG) (tC X.K λρ=>(f ρ).bind λo=>match o with
  | .next ρ'=>g ρ'
  |o=>some o):=
 (bZ h1 h2).weak λD' σ H zz=>by
  refine qR zz λH₀ ae Z kv kd ow ρ out hx hd k=>ab (bind_some hd) λo e1 hd=>⟨H₀,ae,Z,kv,kd,ow,ρ,o,hx,e1,?_⟩
  cases o with
  |next ρ'=>exact λow σ H h=>⟨H₀,ae,Z,kv,kd,ow,ρ',out,h,hd,k⟩
  |brk ρ'=>cases hd;exact k
  |cont ρ'=>cases hd;exact k
  |ret d=>cases hd;exact k
def M7(hN:X.N.Nodup)(hi:X.N[i]?=some x)(hx:Loc X.env.scope x)(hf:X.fn x=true)(he:PE X e (tV X.K false f))(hs:swapsWith e (some (.Name x px)) pos.line X.env=pure false):
  PS X (.Assign [.Name x px] e pos) (tC X.K λρ=>(f ρ).map λd=> .next (put ρ i false d)):=
 (j4 hN hi hx he hs (.inl hf)).weak λD' σ H zz=>by
  refine qR zz λH₀ ae Z kv kd ow ρ out hx hd k=>ab (map_some hd) λd e1 ah=>?_
  subst ah
  refine⟨Os ae ow,ρ,d,hx.ex,e1,λv H1 s1 r1=>?_⟩
  exact k (ph ow i none) _ _ ((hx.mono s1).put r1.own i)
def AM{K:PySem.W.Frag}{H₀ H H1:Hp}{ae Z:Addr->Prop}{kv:List V}{kd:List D}{ow:Nat->Option Addr}{σ:St}{ρ:Env}(h:SX K H₀ ae Z kv kd ow σ H ρ){p:Addr}{vs:List V}{ds:List D}(s:af H H1)(hp:H1 p=none)(r:au K (Os ae ow) H1 vs ds)(i:Nat):
  ∃oh,SX K H₀ ae Z kv kd oh (σ.set i (some (.ref p))) (L2.upd H1 p (.lst vs)) (Py.put ρ i true (.lst ds)):=by
 by_cases hi:i<ρ.length
 .exact⟨_,h.GW s hp r i hi⟩
 .have e1:σ.set i (some (.ref p))=σ:=Y8 (by rw[<-h.len];lia)
  have e2:Py.put ρ i true (.lst ds)=ρ:=Y8 (by lia)
  rw[e1,e2]
  exact⟨ow,h.mono (s.trans (af.upd hp))⟩
def pv{f:Env->Option D}{te:TE}(hP:PS X st (nQ te (cI i)))(ht:∀σ H Q,tF X.K (λρ=>(f ρ).bind iH) σ H Q->te σ H Q):
  PS X st (tC X.K λρ=>(f ρ).bind λd=>match d with
   | .lst xs=>some (.next (put ρ i true (.lst xs)))
   |_=>none):=
 hP.weak λD' σ H zz=>by
  refine qR zz λH₀ ae Z kv kd ow ρ out hx hd k=>ab (bind_some hd) λd e1 hd=>?_
  cases d with
  |lst ds=>
   cases hd
   refine ht σ H _ ⟨Os ae ow,ρ,ds,hx.ex,by show(f ρ).bind iH=_;rw[e1];rfl,λp vs H1 s1 hp r=>?_⟩
   obtain⟨oh,h'⟩:=AM hx s1 hp r i
   exact k oh _ _ h'
  |_=>cases hd
def IF(hi:X.N[i]?=some x)(hv:xh X.env.scope x)(D0:(x==("__debug__":Str))=false)(nV:(x==("__classdict__":Str))=false)(hk:PE X ke (tV X.K false fi))(j5:b_ ke=true)(he:PE X e (tV X.K false f)):
  PS X (.Assign [.Subscript (.Name x px) ke o] e pos) (tC X.K λρ=>(f ρ).bind λd=>((fi ρ).bind yE).bind λk=>match ρ[i]? with
   |some (some (true,.lst xs))=>(cu xs.length k).map λj=> .next (put ρ i true (.lst (xs.set j d)))
   |_=>none):=
 (GJ he (GI (bL hi hv D0 nV) hk zf (by intro v;cases ke<;>first|rfl|exact absurd j5 Xa)) (by cases e<;>rfl) (by cases e<;>rfl) rfl).weak λD' σ H zz=>by
  refine ao λnO=>qR zz λH₀ ae Z kv kd ow ρ out hx hd k=>ab (bind_some hd) λd e1 hd=>ab (bind_some hd) λkk e2 hd=>ab (bind_some e2) λdk e3 e4=>nO ?_
  have Vx:dk= .int kk:=by cases dk<;>first|(cases e4;rfl)|cases e4
  subst Vx
  split at hd
  .rename_i xs FW
   refine ab (map_some hd) λj e5 ah=>?_
   subst ah
   refine⟨Os ae ow,ρ,d,hx.ex,e1,λv H1 s1 r1=>?_⟩
   refine ab (hx.own i _ FW) λa o2 o1=>?_
   have o1:ow i=some a:=o1.elim (λz=>z.2) λz=>nomatch z.1
   refine⟨.ref a,o2,Os ae ow,ρ,.int kk,(hx.mono s1).ex,e3,λw H2 s2 r2=>?_⟩
   have B3:=(hx.mono s1).mono s2
   refine ao λnO=>ab (B3.ex.kU i true _ FW) λw' q1 q2=>bF q2 λa' e6 e8 c0=>ab c0.lst λvs e9 wm=>?_
   rw[o2]at q1
   cases q1
   cases e6
   refine nO ?_
   refine⟨a,vs,kk,j,rfl,r2.int,e9,?_,?_⟩
   .rw[<-mK,wm.length];exact e5
   .exact k ow _ _ (B3.wr o1 o2 e9 (wm.set (r1.own.mono s2) j))
  .cases hd
def M8(he:PE X e (tV X.K false f)):PS X (.Return (some e) pos) (tC X.K λρ=>(f ρ).map .ret):=
 (tY he).weak λD' σ H zz=>by
  refine qR zz λH₀ ae Z kv kd ow ρ out hx hd k=>ab (map_some hd) λd e1 ah=>?_
  subst ah
  refine⟨Os ae ow,ρ,d,hx.ex,e1,λv H1 s1 r1=>?_⟩
  exact k v H1 (hx.same.trans s1) (r1.own.weak λa z=> .inl z)
def IG(hi:X.N[i]?=some x)(hv:xh X.env.scope x)(D0:(x==("__debug__":Str))=false)(nV:(x==("__classdict__":Str))=false):PS X (.Return (some (.Name x px)) pos) (tC X.K λρ=>(rd true ρ i).map .ret):=
 (tY (bL hi hv D0 nV)).weak λD' σ H zz=>by
  refine qR zz λH₀ ae Z kv kd ow ρ out hx hd k=>ab (map_some hd) λd e1 ah=>?_
  subst ah
  have e1:rd true ρ i=some d:=e1
  unfold rd at e1
  split at e1
  .rename_i o d' FW
   refine ab (hx.ex.kU i o d' FW) λw q1 q2=>?_
   cases o with
   |true=>
    refine bF q2 λa e6 e8 c0=>ab (hx.own i _ FW) λa' o2 o1=>?_
    rw[o2]at q1
    cases q1
    cases e6
    rcases c0 with⟨vs,ds,rfl,e9,wm⟩|⟨t,ks,vs,ds,rfl,_⟩|⟨rfl,_⟩
    .cases e1
     have o1:ow i=some a:=o1.elim (λz=>z.2) λz=>nomatch z.1
     refine⟨_,o2,k _ H hx.same (.lst (.inl e9) (λz=>?_) (wm.weak λa z=> .inl z))⟩
     obtain⟨u,hu⟩:=hx.o0 a z
     rw[hx.new i a o1]at hu
     cases hu
    .cases e1
    .cases e1
   |false=>
    cases e1
    exact⟨w,q1,k _ H hx.same (br.weak q2 λa z=> .inl z)⟩
  .cases e1
def QS{a b:List Stmt}{f:Env->Option D}{g h:Env->Option lB}(hc:PT X c (tB X.K λρ=>(f ρ).bind eX))(ha:lH X a (tC X.K g))(hb:lH X b (tC X.K h)):
  PS X (.If c a b pos) (tC X.K λρ=>((f ρ).bind eX).bind λk=>if k then g ρ else h ρ):=
 (E7 hc ha hb).weak λD' σ H zz=>by
  refine qR zz λH₀ ae Z kv kd ow ρ out hx hd k=>ab (bind_some hd) λkk e1 hd=>⟨Os ae ow,ρ,kk,hx.ex,e1,λH1 s1=>?_⟩
  cases kk with
  |true=>exact j7 ⟨H₀,ae,Z,kv,kd,ow,ρ,out,hx.mono s1,hd,k⟩
  |false=>exact lu ⟨H₀,ae,Z,kv,kd,ow,ρ,out,hx.mono s1,hd,k⟩
def D1{body:List Stmt}{f:Env->Option D}{b:Env->Option lB}(hp:PassesOwn (model X.prog X.w) X.A X.env X.xe)(hc:PT X c (tB X.K λρ=>(f ρ).bind eX))(hb:lH X body (tC X.K b))(n:Nat):
  PS X (.While c body [] pos) (tC X.K λρ=>jo (λρ=>(f ρ).bind eX) b n ρ):=
 (q_ hp hc hb).weak λD' σ H zz=>by
  refine qR zz λH₀ ae Z kv kd ow ρ out hx hd k=>⟨λm σ H=>∃ow ρ,SX X.K H₀ ae Z kv kd ow σ H ρ/\jo (λρ=>(f ρ).bind eX) b m ρ=some out,⟨n,ow,ρ,hx,hd⟩,?_⟩
  rintro m σ H ⟨ow,ρ,hx,hd⟩
  cases m with
  |zero=>cases hd
  |succ m=>
   rw[jo]at hd
   refine ab (bind_some hd) λkk e1 hd=>⟨Os ae ow,ρ,kk,hx.ex,e1,λH1 s1=>?_⟩
   cases kk with
   |false=>
    rw[Xx Xa]at hd
    cases hd
    exact lu (k ow σ H1 (hx.mono s1))
   |true=>
    rw[Xs rfl]at hd
    refine ab (bind_some hd) λo e2 hd=>j7 ⟨λbT H'=>∃ow ρ,SX X.K H₀ ae Z kv kd ow bT H' ρ/\jo (λρ=>(f ρ).bind eX) b m ρ=some out,λbT H' h=>⟨m,YW m,h⟩,H₀,ae,Z,kv,kd,ow,ρ,o,hx.mono s1,e2,?_⟩
    cases o with
    |next ρ'=>exact λow σ H h=>⟨ow,ρ',h,hd⟩
    |cont ρ'=>exact λow σ H h=>⟨ow,ρ',h,hd⟩
    |brk ρ'=>cases hd;exact λow σ H h=>k ow σ H h
    |ret d=>cases hd;exact λv H s r=>k v H s r
def IH(K:PySem.W.Frag)(g:TG)(setT:Env->D->Option Env):Prop:=
 ∀(H₀:Hp) (ae Z:Addr->Prop) (kv:List V) (kd:List D) (ow:Nat->Option Addr) (σ:St) (H:Hp) (ρ ρ':Env) (v:V) (d:D) (Q:St->Hp->Prop),SX K H₀ ae Z kv kd ow σ H ρ->br K (Os ae ow) H v d->setT ρ d=some ρ'->
  (∀oh bT,SX K H₀ ae Z kv kd oh bT H ρ'->Q bT H)->g v σ H Q
def D2{K:PySem.W.Frag}{j:Nat}:IH K (cI j) (λρ d=>some (put ρ j false d)):=λH₀ ae Z kv kd ow σ H ρ ρ' v d Q hx r e q=>by
 cases e
 exact q _ _ (hx.put r j)
def qz:List Nat->GF
 |[]=>KP
 |i::is=>E8 (cI i) (qz is)
theorem pz(hN:X.N.Nodup)(hf:∀x,X.fn x=true):∀{is:List Nat}{es:List Expr},fZ X.N X.env.scope is es=true->JQ X es (qz is)/\(assignEach es X.env).length =is.length/\(assignEach es X.env).findIdx? (·.1)=none
 |[],es,h=>by
  cases es with
  |nil=>exact⟨Cg,rfl,rfl⟩
  |cons _ _=>cases h
 |i::is,es,h=>by
  cases es with
  |nil=>cases h
  |cons e es=>
   unfold fZ at h
   rw[W7]at h
   obtain⟨h1,h2⟩:=h
   refine cS (pz hN hf h2) λq1 q2 q3=>?_
   cases e with
   |Name x p=>
    simp only[W7,decide_eq_true_eq]at h1
    refine⟨yR (lI hN h1.1 (gG h1.2) (.inl (hf _))) q1 rfl,?_,?_⟩
    .show(assignEach es X.env).length+1=_
     rw[q2];rfl
    .show List.findIdx? _ ((false,_)::assignEach es X.env)=none
     rw[List.findIdx?_cons]
     simp[q3]
   |_=>cases h1
theorem sQ{K:PySem.W.Frag}{H₀:Hp}{ae Z:Addr->Prop}{kv:List V}{kd:List D}:∀{is:List Nat}{xs:List V}{ys:List D}{ow:Nat->Option Addr}{σ:St}{H:Hp}{ρ ρ':Env}{Q:St->Hp->Prop},au K (Os ae ow) H xs ys->SX K H₀ ae Z kv kd ow σ H ρ->dq ρ is ys=some ρ'->
  (∀oh bT,SX K H₀ ae Z kv kd oh bT H ρ'->Q bT H)->qz is xs σ H Q
 |[],xs,ys,ow,σ,H,ρ,ρ',Q,r,hx,e,q=>by
  cases ys with
  |nil=>cases e;cases r;exact⟨rfl,q _ _ hx⟩
  |cons _ _=>cases e
 |i::is,xs,ys,ow,σ,H,ρ,ρ',Q,r,hx,e,q=>by
  cases ys with
  |nil=>cases e
  |cons d ds=>
   cases r with
   |cons r1 r2=>
    have sub:∀a,Os ae (ph ow i none) a->Os ae ow a:=λa z=>by
     rcases z with z|⟨j,z⟩
     .exact .inl z
     .by_cases hj:j=i
      .rw[hj,aI]at z;cases z
      .rw[aM hj]at z;exact .inr ⟨j,z⟩
    exact⟨_,_,rfl,sQ (r2.weak sub) (hx.put r1 i) e q⟩
def II{K:PySem.W.Frag}{is:List Nat}(h:0<is.length):IH K (LA K is.length (qz is)) (λρ d=>(aG is.length d).bind (dq ρ is)):=λH₀ ae Z kv kd ow σ H ρ ρ' v d Q hx r e q=>by
 refine ab (bind_some e) λys e1 e2=>?_
 obtain⟨n,hn⟩:∃n,is.length=n+1:=⟨is.length-1,by lia⟩
 rw[hn]at e1⊢
 cases d with
 |tup zs=>
  simp only[aG]at e1
  split at e1
  .rename_i hz
   cases e1
   refine a_ r.jG λa xs ah q1 p1=>?_
   subst ah
   exact⟨a,xs,rfl,.inr q1,by rw[p1.length];exact hz,sQ p1 hx e2 q⟩
  .cases e1
 |_=>cases e1
def FX(hp:PassesOwn (model X.prog X.w) X.A X.env X.xe)(hc:X.calm=true)(hg:PG X qS g)(hS:IH X.K g setT)
  (hI:PI X qS iter (tI X.K false fi)) (hb:lH X body (tC X.K b)) (hs:∀x,foldedSetIterable iter X.env x=pure x):
  PS X (.For qS iter body [] pos) (tC X.K λρ=>(fi ρ).bind λxs=>aO (λy ρ=>(setT ρ y).bind b) xs ρ):=
 (GL hp hc hI hg hb hs).weak λD' σ H zz=>by
  refine qR zz λH₀ ae Z kv kd ow ρ out hx hd k=>ab (bind_some hd) λxs e1 hd=>⟨Os ae ow,ρ,xs,hx.ex,e1,λJ gm H1 s1 An sJ=>?_⟩
  have sL:=hx.mono s1
  obtain⟨bD,FY,FZ,sm,sj,hk,Fw⟩:∃bD FY FZ,af H₀ bD/\SX X.K bD ae Z FY FZ ow σ H1 ρ/\(∀ow σ H ρ,SX X.K bD ae Z FY FZ ow σ H ρ->SX X.K H₀ ae Z kv kd ow σ H ρ)/\(∀ow σ H ρ,SX X.K bD ae Z FY FZ ow σ H ρ->fE X.K (Os ae ow) H gm):=by
   rcases gm with _|⟨_|_|⟨o,ks,vs⟩,v,ds⟩
   .exact⟨H₀,kv,kd,af.refl _,sL,λ_ _ _ _ h=>h,λ_ _ _ _ _=>trivial⟩
   .exact⟨H₀,v::kv,.tup ds::kd,af.refl _,sL.keep (bR.own sJ),λ_ _ _ _ h=>h.drop,λ_ _ _ _ h=>h.kept.jG⟩
   .exact⟨H₀,v::kv,.lst ds::kd,af.refl _,sL.keep (bR.own sJ),λ_ _ _ _ h=>h.drop,λ_ _ _ _ h=>h.kept.lst_inv⟩
   .refine JN sJ λa ah g1 g2 g3 g4=>?_
    try clear sJ
    subst ah
    have s0:H₀ a=none\/H₀ a=some (.dH o (gr 0 ks vs)):=by
     cases z:H₀ a with
     |none=>exact .inl rfl
     |some w=>have:=sL.same _ _ z;rw[g1]at this;cases this;exact .inr rfl
    have o0:=hx.o0
    refine⟨_,.ref a::kv,.bz 0 ks ds::kd,pj s0,(sL.base g1).keep (.bz g1 g2 g3 g4),λ_ _ _ _ h=>h.drop.ID s0 o0,λ_ _ H' _ h=>?_⟩
    have e:=h.same _ _ (ag (H:=H₀) (a:=a))
    have r:=h.kept
    cases r with
    |bz f1 f2 f3 f4=>
     rw[e]at f1
     have Vy:=HO.dH.inj (Xw f1)
     rw[<-DZ g2 f2 Vy.2]at f4
     exact⟨a,rfl,e,g2,g3,f4⟩
  refine⟨λi m σ H=>m=xs.length-i/\i<=xs.length/\∃ow ρ,SX X.K bD ae Z FY FZ ow σ H ρ/\aO (λy ρ=>(setT ρ y).bind b) (xs.drop i) ρ=some out,⟨xs.length,rfl,XQ _,ow,ρ,sj,hd⟩,?_⟩
  rintro t m σ H ⟨rfl,hi,ow,ρ,hx,hd⟩
  refine cS (An _ H (Fw _ _ _ _ hx)) λgo yS stop=>?_
  by_cases bJ:t<xs.length
  .refine .inr ⟨go t bJ,λσ H=>∃ow ρ,SX X.K bD ae Z FY FZ ow σ H ρ/\aO (λy ρ=>(setT ρ y).bind b) (xs.drop (t+1)) ρ=some out,λbT H' h=>⟨xs.length-(t+1),by lia,rfl,bJ,h⟩,λx H3 hy=>?_⟩
   obtain⟨s3,rx⟩:=yS t x H3 xs[t] hy (by simp[bJ])
   rw[X9 bJ,aO]at hd
   refine ab (bind_some hd) λo e2 hd=>ab (bind_some e2) λD3 e2 e3=>hS bD ae Z FY FZ ow σ H3 ρ D3 x xs[t] _ (hx.mono s3) rx e2 λoh bT sj=>⟨bD,ae,Z,FY,FZ,oh,D3,o,sj,e3,?_⟩
   cases o with
   |next ρ'=>exact λow σ H h=>⟨ow,ρ',h,hd⟩
   |cont ρ'=>exact λow σ H h=>⟨ow,ρ',h,hd⟩
   |brk ρ'=>cases hd;exact λow σ H h=>k ow σ H (hk _ _ _ _ h)
   |ret d=>cases hd;exact λv H s r=>k v H (sm.trans s) r
  .have e:t=xs.length:=by lia
   subst e
   rw[abb,aO]at hd
   cases hd
   exact .inl ⟨stop,k ow σ H (hk _ _ _ _ hx)⟩
def sR(h:PS X st (tC X.K g)):PS X st (tC X.K λρ=>g (du it ρ)):=
 h.weak λD' σ H zz=>by
  refine qR zz λH₀ ae Z kv kd ow ρ out hx hd k=>?_
  have key:∃oh,SX X.K H₀ ae Z kv kd oh σ H (du it ρ):=by
   have one:∀i:Nat,∃oh,SX X.K H₀ ae Z kv kd oh σ H (match ρ[i]? with
     |some (some (true,D.lst xs))=>ρ.set i (some (false,D.lst xs))
     |_=>ρ):=λi=>by
    split
    .rename_i d hd;exact⟨_,hx.freeze hd⟩
    .exact⟨ow,hx⟩
   unfold du
   split
   .exact one _
   .exact one _
   .exact⟨ow,hx⟩
  obtain⟨oh,h'⟩:=key
  exact⟨H₀,ae,Z,kv,kd,oh,_,out,h',hd,k⟩
end
def D4(h:zx ρ i=some d):ρ[i]?=some (some (true,.bz d.1 d.2.1 d.2.2))/\d.1≠2:=by
 unfold zx at h
 split at h
 .rename_i t ks vs e
  split at h
  .cases h
  .rename_i ht;cases h;exact⟨e,ht⟩
 .cases h
def wo(h:jq ρ i=some xs):ρ[i]?=some (some (true,.lst xs)):=by
 unfold jq at h
 split at h
 .rename_i xs e;cases h;exact e
 .cases h
section
variable {K:PySem.W.Frag}{H₀:Hp}{ae Z:Addr->Prop}{kv:List V}{kd:List D}{ow:Nat->Option Addr}{σ:St}{H H1:Hp}{ρ:Env}
def SX.QT(hx:SX K H₀ ae Z kv kd ow σ H ρ)(h:zx ρ i=some d):∃a vs,ow i=some a/\σ[i]?=some (some (.ref a))/\d.1≠2/\H a=some (gr d.1 d.2.1 vs)/\d.2.1.length=vs.length/\mH d.1 d.2.1/\au K (Os ae ow) H vs d.2.2:=by
 refine ao λnO=>?_
 obtain⟨e,h2⟩:=D4 h
 have hp:mj (.bz d.1 d.2.1 d.2.2)=false:=by show(d.1==2)=false;simp[h2]
 refine ab (hx.own i _ e) λa o2 o1=>?_
 have o1:ow i=some a:=o1.elim (λz=>z.2) λz=>by rw[hp]at z;exact nomatch z.1
 refine ab (hx.ex.kU i true _ e) λw q1 q2=>bF q2 λa' e6 e8 c=>?_
 rw[o2]at q1
 cases q1
 cases e6
 exact B8 (c.bz h2) λvs c1 c2 c3 c4=>nO<|⟨a,vs,o1,o2,h2,c1,c2,c3,c4⟩
def SX.IJ(hx:SX K H₀ ae Z kv kd ow σ H ρ)(h:jq ρ i=some xs):∃a vs,ow i=some a/\σ[i]?=some (some (.ref a))/\H a=some (.lst vs)/\au K (Os ae ow) H vs xs:=by
 have e:=wo h
 refine ao λnO=>ab (hx.own i _ e) λa o2 o1=>?_
 have o1:ow i=some a:=o1.elim (λz=>z.2) λz=>nomatch z.1
 refine ab (hx.ex.kU i true _ e) λw q1 q2=>bF q2 λa' e6 e8 c=>?_
 rw[o2]at q1
 cases q1
 cases e6
 exact ab c.lst λvs c1 c2=>nO<|⟨a,vs,o1,o2,c1,c2⟩
end
def qD[DecidableEq κ](f:List Int->κ)(hl:ks.length=vs.length)(hf:∀k∈ks,f k=f x->k=x)(hx:x∉ks):ka ((ks.map f).zip vs) (f x) v=((ks++[x]).map f).zip (vs++[v]):=by
 have e:((((ks.map f).zip vs).any λkv=>decide (kv.1=f x))=true)=False:=by
  rw[eq_iff_iff,iff_false,List.any_eq_true]
  rintro⟨p,hp,hq⟩
  have h1:=(aag (show(p.1,p.2)∈_ from hp)).1
  refine ab (Xg.mp h1) λk k1 k2=>?_
  have:=hf k k1 (by rw[k2];exact of_decide_eq_true hq)
  exact hx (this▸k1)
 unfold ka
 rw[Xx (by rw[e];exact id),XX,List.zip_append (by rw[Xb];exact hl)]
 rfl
section
variable {X:Cx}{c e ke:Expr}{st:Stmt}{bG:List Stmt}{pos px o:Pos}{x:Str}{i j:Nat}{f fk:Env->Option D}
def IK(hu:X.A.units+64<cLine)(hi:X.N[i]?=some x)(hv:xh X.env.scope x)(D0:(x==("__debug__":Str))=false)(nV:(x==("__classdict__":Str))=false)(hk:PE X ke (tV X.K false fk))(he:PE X e (tV X.K false f))(hs:∀t,swapsWith e (some t) pos.line X.env=pure false):
  PS X (.Assign [.Subscript (.Name x px) ke o] e pos) (tC X.K λρ=>(f ρ).bind λy=>(zx ρ i).bind λd=>((fk ρ).bind (dD d.1)).bind λx=>
   if d.2.1.length<bj/\x∉d.2.1 then some (.next (put ρ i true (.bz d.1 (d.2.1++[x]) (d.2.2++[y])))) else none):=
 (vD (by lia) (bL hi hv D0 nV) hk he (hs _)).weak λD' σ H zz=>by
  refine ao λnO=>qR zz λH₀ ae Z kv kd ow ρ out hx hd k=>ab (bind_some hd) λy e1 hd=>ab (bind_some hd) λd e2 hd=>ab (bind_some hd) λxx e3 hd=>ab (bind_some e3) λdk e4 e5=>nO ?_
  split at hd
  .rename_i hz
   cases hd
   refine⟨Os ae ow,ρ,y,hx.ex,e1,λv H1 s1 r1=>?_⟩
   refine ao λnO=>RX ((hx.mono s1).QT e2) λa vs o1 o2 o3 c1 c2 c3 c4=>nO ?_
   refine⟨.ref a,o2,Os ae ow,ρ,dk,(hx.mono s1).ex,e4,λw H2 s2 r2=>?_⟩
   have B3:=(hx.mono s1).mono s2
   have yG:=s2 _ _ c1
   have aX:vs.length<sizeLine:=by rw[cz,<-c2];exact hz.1
   have QU:au X.K (Os ae ow) (L2.upd H2 a (gr d.1 (d.2.1++[xx]) (vs++[v]))) (vs++[v]) (d.2.2++[y]):=((c4.mono s2).append (.cons (r1.own.mono s2) .nil)).upd (.inr ⟨i,o1⟩) yG kZ
   have QV:mH d.1 (d.2.1++[xx]):=by
    refine⟨?_,λh0 q hq=>?_⟩
    .rw[Yy]
     exact⟨c3.1,by simp,λa ha b hb e=>hz.2 (by rw[Xc.mp hb]at e;exact e▸ha)⟩
    .rcases Xr.mp hq with hq|hq
     .exact c3.2 h0 q hq
     .rw[Xc.mp hq]
      rcases hJ r2.own e5 with⟨_,n,rfl,_⟩|⟨h1,_⟩
      .exact⟨n,rfl⟩
      .exact absurd h0 h1
   refine⟨a,_,rfl,?_,k ow _ _ (B3.S3 (d0:= .bz d.1 (d.2.1++[xx]) (d.2.2++[y])) o1 o2 yG kZ kZ (by show(d.1==2)=false;simp[o3]) (.inr (.inl ⟨_,_,vs++[v],_,rfl,ag,by simp[c2],QV,QU⟩)))⟩
   rcases hJ r2.own e5 with⟨h0,n,rfl,rfl⟩|⟨h0,b,rfl,hb⟩
   .refine .inl ⟨_,Sum.inl n,by rw[yG];unfold gr;rw[Xs h0],rfl,by rw[ZT,Xb,c2,aas];exact aX,?_⟩
    unfold gr
    rw[Xs h0,<-qD (λk:List Int=>(Sum.inl (k.headD 0):cM)) c2 (λq hm e=>?_) hz.2]
    .rfl
    .obtain⟨j,rfl⟩:=c3.2 h0 q hm
     have:j=n:=aaN e
     rw[this]
   .refine .inr ⟨_,xx.map Sum.inl,b,by rw[yG];unfold gr;rw[Xx h0],rfl,hb,by rw[ZT,Xb,c2,aas];exact aX,?_⟩
    unfold gr
    rw[Xx h0,<-qD (λk:List Int=>k.map (Sum.inl:Int->cM)) c2 (λq _ e=>qw e) hz.2]
  .cases hd
def AN{K:PySem.W.Frag}{H₀ H H1:Hp}{ae Z:Addr->Prop}{kv:List V}{kd:List D}{ow:Nat->Option Addr}{σ:St}{ρ:Env}(h:SX K H₀ ae Z kv kd ow σ H ρ){p:Addr}{t:Nat}{ks:List (List Int)}{vs:List V}{ds:List D}(s:af H H1)(hp:H1 p=none)(r:au K (Os ae ow) H1 vs ds)(h2:t≠2)(hl:ks.length=vs.length)(hk:mH t ks)(i:Nat):
  ∃oh,SX K H₀ ae Z kv kd oh (σ.set i (some (.ref p))) (L2.upd H1 p (gr t ks vs)) (Py.put ρ i true (.bz t ks ds)):=by
 by_cases hi:i<ρ.length
 .exact⟨_,h.MY (u:=gr t ks vs) s hp kZ i hi (by show(t==2)=false;simp[h2]) (.inr (.inl ⟨t,ks,vs,ds,rfl,ag,hl,hk,mV hp r⟩))⟩
 .have e1:σ.set i (some (.ref p))=σ:=Y8 (by rw[<-h.len];lia)
  have e2:Py.put ρ i true (.bz t ks ds)=ρ:=Y8 (by lia)
  rw[e1,e2]
  exact⟨ow,h.mono (s.trans (af.upd hp))⟩
def D5{t:Nat}{dp:Pos}(hu:X.A.units+64<cLine)(hN:X.N.Nodup)(hi:X.N[i]?=some x)(hx:Loc X.env.scope x)(hf:X.fn x=true)(h0:t≠0)(hk:PE X ke (tV X.K false fk))(he:PE X e (tV X.K false f)):
  PS X (.Assign [.Name x px] (.Dict [some ke] [e] dp) pos) (tC X.K λρ=>if t=2 then none else((fk ρ).bind λa=>(f ρ).bind λb=>(dD t a).map λx=>D.bz t [x] [b]).map λd=> .next (put ρ i true d)):=by
 refine(j4 hN hi hx (C0 (by lia) hk he) rfl (.inl hf)).weak λD' σ H zz=>ao λnO=>qR zz λH₀ ae Z kv kd ow ρ out hx hd k=>nO ?_
 split at hd
 .cases hd
 .rename_i h2
  refine ao λnO=>ab (map_some hd) λd B4 qd=>ab (bind_some B4) λda e1 B4=>ab (bind_some B4) λdb e2 B4=>ab (map_some B4) λxx e3 B4=>?_
  subst B4
  subst qd
  refine nO ?_
  intro p hp
  have S6:=hx.ex.mono (af.upd (o:= .dT []) hp)
  refine⟨Os ae ow,ρ,da,S6,e1,λv H1 s1 r1=>⟨Os ae ow,ρ,db,S6.mono s1,e2,λw H2 s2 r2=>?_⟩⟩
  have xN:H2 p=some (.dT []):=s2 _ _ (s1 _ _ ag)
  rcases hJ (r1.own.mono s2) e3 with⟨z,_⟩|⟨_,b,rfl,hb⟩
  .exact absurd z h0
  .refine⟨b,xx.map Sum.inl,rfl,hb,xN,?_⟩
   let H3:Hp:=λq=>if q=p then none else H2 q
   have k3:∀q,q≠p->H3 q=H2 q:=λq hq=>Xx hq
   have e4:L2.upd H2 p (.dT [(xx.map Sum.inl,w)])=L2.upd H3 p (gr t [xx] [w]):=by
    funext q
    unfold L2.upd
    by_cases hq:q=p
    .rw[Xs hq,Xs hq]
     unfold gr
     rw[Xx h0]
     rfl
    .rw[Xx hq,Xx hq,k3 q hq]
   have s3:af H H3:=λq u hq=>by
    have S7:q≠p:=λz=>by rw[z,hp]at hq;cases hq
    rw[k3 q S7]
    exact s2 _ _ (s1 _ _ (by rw[ak S7];exact hq))
   have rep3:br X.K (Os ae ow) H3 w db:=gZ (λq us hq=>by
     have S8:H2 q=some (.tup us):=hq
     show H3 q=some (.tup us)
     rw[k3 q (f7 S8 xN (by intro z;cases z))];exact S8) (λq us hq nq=>⟨by
     rcases hq with hq|⟨ob,hq⟩
     .exact .inl (by rw[k3 q (f7 hq xN (by intro z;cases z))];exact hq)
     .exact .inr ⟨ob,by rw[k3 q (f7 hq xN (by intro z;cases z))];exact hq⟩,nq⟩) (λq ob u hq=>by rw[k3 q (f7 hq xN (by intro z;cases z))];exact hq) r2.own
   obtain⟨oh,h'⟩:=AN (t:=t) (ks:=[xx]) (ds:=[db]) hx s3 (Xs rfl) (.cons rep3 .nil) h2 rfl ⟨by simp,λz=>absurd z h0⟩ i
   rw[e4]
   exact k oh _ _ h'
def AO(h:kT ρ j=some xs):∃o,ρ[j]?=some (some (o,.lst xs)):=by
 unfold kT at h
 split at h
 .rename_i o ks e;cases h;exact⟨_,e⟩
 .cases h
def IL{K:PySem.W.Frag}{H₀:Hp}{ae Z:Addr->Prop}{kv:List V}{kd:List D}{ow:Nat->Option Addr}{σ:St}{H:Hp}{ρ:Env}(hx:SX K H₀ ae Z kv kd ow σ H ρ){l:List D}{z:D}(e1:jq ρ j=some l)(e2:l.getLast?=some z):
  ∃a vs v,σ[j]?=some (some (.ref a))/\H a=some (.lst vs)/\vs[vs.length-1]?=some v/\SX K H₀ ae Z kv kd ow σ (L2.upd H a (.lst vs.dropLast)) (put ρ j true (.lst l.dropLast))/\br K (Os ae ow) (L2.upd H a (.lst vs.dropLast)) v z:=by
 refine ao λnO=>gq (hx.IJ e1) λa vs o1 o2 o3 o4=>?_
 have ll:=o4.length
 have CF:l[vs.length-1]?=some z:=by rw[ll,<-aaz];exact e2
 refine ab (o4.get CF) λv g1 g2=>nO ?_
 have rd:au K (Os ae ow) H vs.dropLast l.dropLast:=by
  rw[Zq,Zq,ll]
  exact o4.take _
 exact⟨a,vs,v,o2,o3,g1,hx.wr o1 o2 o3 rd,g2.upd (.inr ⟨j,o1⟩) o3 trivial⟩
def AQ(hv:PE X y (dA j))(hb:attributeBase y "pop" X.env (eval y X.env)=eval y X.env)(hl:(ap.endLine==cp.line)=true):
  PE X (.Call (.Attribute y "pop" ap) [] [] cp) (λσ H Q=>∃a vs v,σ[j]?=some (some (.ref a))/\H a=some (.lst vs)/\vs[vs.length-1]?=some v/\Q v (L2.upd H a (.lst vs.dropLast))):=
 (Ha Ze PySem.F.slot_list_pop PySem.F.type_list_pop He hv hb hl).weak λσ H Q ⟨a,vs,v,h1,h2,h3,q⟩=>⟨.ref a,h1,.inl ⟨rfl,vs,dI.of h2⟩,a,vs,v,rfl,rfl,h2,h3,q⟩
def M9(hN:X.N.Nodup)(hi:X.N[i]?=some x)(hx:Loc X.env.scope x)(hf:X.fn x=true){y:Expr}{ap cp:Pos}(hv:PE X y (dA j))(hb:attributeBase y "pop" X.env (eval y X.env)=eval y X.env)(hl:(ap.endLine==cp.line)=true):
  PS X (.Assign [.Name x px] (.Call (.Attribute y "pop" ap) [] [] cp) pos) (tC X.K λρ=>(jq ρ j).bind λl=>(l.getLast?).map λz=> .next (put (put ρ j true (.lst l.dropLast)) i false z)):=
 (j4 hN hi hx (AQ hv hb hl) rfl (.inl hf)).weak λD' σ H zz=>by
  refine ao λnO=>qR zz λH₀ ae Z kv kd ow ρ out hx hd k=>ab (bind_some hd) λl e1 hd=>ab (map_some hd) λz e2 ah=>?_
  subst ah
  exact tW (IL hx e1 e2) λa vs v h1 h2 h3 h4 h5=>nO<|⟨a,vs,v,h1,h2,h3,k _ _ _ (h4.put h5 i)⟩
def M_(hi:X.N[i]?=some x)(hv:xh X.env.scope x)(D0:(x==("__debug__":Str))=false)(nV:(x==("__classdict__":Str))=false)(hl:(ap.endLine==cp.line)=true)(he:PE X e (tV X.K false f))(hn:bI e=true):
  PS X (.Expr (.Call (.Attribute (.Name x px) "extend" ap) [e] [] cp) pos) (tC X.K λρ=>(f ρ).bind λd=>match d with
   | .lst zs=>(jq ρ i).bind λws=>if ws.length+zs.length<=bj then some (.next (put ρ i true (.lst (ws++zs)))) else none
   |_=>none):=
 (pK (zh Ze aaK aaL Af (bL hi hv D0 nV) (cw he eO (bV hn)) rfl (by rw[bV hn];rfl) hl (bV hn) rfl) rfl).weak λD' σ H zz=>by
  refine qR zz λH₀ ae Z kv kd ow ρ out hx hd k=>ab (bind_some hd) λd e1 hd=>?_
  cases d with
  |lst zs=>
   refine ab (bind_some hd) λws e2 hd=>?_
   split at hd
   .rename_i hz
    cases hd
    refine gq (hx.IJ e2) λa vs o1 o2 o3 o4=>⟨.ref a,o2,.inl ⟨rfl,vs,dI.of o3⟩,Os ae ow,ρ,.lst zs,hx.ex,e1,λv H1 s1 r1=>?_⟩
    have sL:=hx.mono s1
    have M':=s1 _ _ o3
    refine a_ r1.lst λb us ah h1 h2=>?_
    subst ah
    refine⟨a,b,vs,us,rfl,rfl,M',h1,?_,?_⟩
    .rw[cz,o4.length,h2.length];exact hz
    .exact k ow _ _ (sL.wr o1 o2 M' ((o4.mono s1).append h2))
   .cases hd
  |_=>cases hd
end
section
variable {K:PySem.W.Frag}{O O':Addr->Prop}{H H' H1 H2 H3:Hp}{a b:Addr}{as:List Addr}{T:List D}
def iX(H H':Hp):Prop:=∀b us,H b=some (.tup us)->H' b=some (.tup us)
def iX.trans(h1:iX H H1)(h2:iX H1 H2):iX H H2:=λb us e=>h2 b us (h1 b us e)
def pA(s:af H H'):iX H H':=λb us e=>s _ _ e
def gH(e:H a=some u)(hu:sv u):iX H (L2.upd H a o):=λb us h=>by
 rw[ak (f7 h e (by intro z;rw[<-z]at hu;exact hu))];exact h
def dY(ht:iX H H')(h:br K O H v d):aC d=true->br K O' H' v d:=
 br.rec (motive_1:=λv d _=>aC d=true->br K O' H' v d) (motive_2:=λvs ds _=>aR ds=true->au K O' H' vs ds) (λ_=> .dj) (λb _=> .bl b) (λi _=> .int i) (λi _=> .str i)
  (λh _ ih n=> .tup (ht _ _ h) (ih (by simpa[aC]using n))) (λ_ _ _ _ n=>absurd n (by simp[aC])) (λ_ _ _ n=>absurd n (by simp[aC])) (λ_ _ _ _ _ n=>absurd n (by simp[aC])) (λ_=> .nil)
  (λ_ _ i1 i2 n=>by
   simp only[aR,W7]at n
   exact .cons (i1 n.1) (i2 n.2)) h
theorem fJ(ht:iX H H'):∀{vs:List V}{ds:List D},au K O H vs ds->aR ds=true->au K O' H' vs ds
 |_,_,.nil,_=> .nil
 |_,_,.cons r t,n=>by
  simp only[aR,W7]at n
  exact .cons (dY ht r n.1) (fJ ht t n.2)
theorem iI:∀{xs ys:List D},aR (xs++ys)=(aR xs&&aR ys)
 |[],ys=>by simp[aR]
 |x::xs,ys=>by simp[aR,iI (xs:=xs),Bool.and_assoc]
def mX(K:PySem.W.Frag)(H:Hp)(b:Addr)(d:D):Prop:=∃ks vs xs,d= .bz 0 ks xs/\H b=some (gr 0 ks vs)/\ks.length=vs.length/\mH 0 ks/\aR xs=true/\au K (λ_=>False) H vs xs
def mX.keep(h:mX K H b d)(ht:iX H H')(e:H' b=H b):mX K H' b d:=by
 exact Ko h λks vs xs h1 h2 h3 h4 h5 h6=>⟨ks,vs,xs,h1,by rw[e];exact h2,h3,h4,h5,fJ ht h6 h5⟩
def kB:∀{l:List α}{m:List β},Paired R l m->(∀x y,x∈l->R x y->R' x y)->Paired R' l m:=λ{l m} h=>by
 induction h with
 |nil=>exact λ_=> .nil
 |cons r t ih=>exact λk=> .cons (k _ _ Xd r) (ih λx y hx=>k x y (W_ _ hx))
def D6:∀{l:List α}{m:List β}{i:Nat}{y:β},Paired R l m->m[i]?=some y->∃x,l[i]?=some x/\R x y:=λ{l m i y} h=>by
 induction h generalizing i with
 |nil=>intro e;simp at e
 |cons r t ih=>
  intro e
  cases i with
  |zero=>simp at e;subst e;exact⟨_,rfl,r⟩
  |succ i=>exact ab (ih (i:=i) (by simpa using e)) λx h1 h2=>⟨x,by simpa using h1,h2⟩
def yf{α β:Type}{R:α->β->Prop}{x:α}{y:β}(h:R x y):∀{l:List α}{m:List β},Paired R l m->Paired R (l++[x]) (m++[y]):=λ{l m} p=>by
 induction p with
 |nil=>exact .cons h .nil
 |cons r t ih=>exact .cons r ih
def jP:∀{l:List α}{m:List β},Paired R l m->x∈l->∃y,R x y:=λ{l m} p=>by
 induction p with
 |nil=>exact λh=>nomatch h
 |cons r t ih=>exact λh=>(Xl.mp h).elim (λe=>by subst e;exact⟨_,r⟩) ih
structure qT(K:PySem.W.Frag)(H:Hp)(a:Addr)(as:List Addr)(T:List D):Prop where
 lst:H a=some (.lst (as.map V.ref))
 bz:Paired (mX K H) as T
 nd:(a::as).Nodup
theorem qT.keep(h:qT K H a as T)(ht:iX H H')(e:∀b,b∈a::as->H' b=H b):qT K H' a as T:=
 ⟨by rw[e a Xd];exact h.lst,kB h.bz λb d hb hd=>hd.keep ht (e b (W_ _ hb)),h.nd⟩
def qT.there(h:qT K H a as T):∀b,b∈a::as->∃u,H b=some u/\sv u:=λb hb=>by
 rcases Xl.mp hb with e|hb
 .subst e;exact⟨_,h.lst,trivial⟩
 .exact Gf (jP h.bz hb) λd ks vs xs _ h2 _=>⟨_,h2,kZ⟩
def qT.mut(h:qT K H a as T):∀b,b∈as->mG H b:=λb hb=>by
 exact Gf (jP h.bz hb) λd ks vs xs _ h2 _=>⟨_,h2,DQ⟩
def qT.wq(h:qT K H a as T)(s:af H H'):qT K H' a as T:=
 h.keep (pA s) λb hb=>by
  refine ab (h.there b hb) λu e _=>?_
  rw[e];exact s _ _ e
def sS(f:Dk as H1 H2):iX H1 H2:=λb us e=>by
 rw[f.out b λhb=>?_]
 .exact e
 .refine a_ (f.at_ b hb) λo u e1 mu _=>?_
  rw[e]at e1;cases e1;exact mu
def qT.rep(h:qT K H1 a as T)(f:Dk as H1 H2):br K O H2 (.ref a) (.lst T)\/O a:=by
 by_cases ho:O a
 .exact .inr ho
 .refine .inl (.lst (.inl (by rw[f.out a (XR.mp h.nd).1];exact h.lst)) ho ?_)
  have all:∀{bs:List Addr}{S:List D},(∀b∈bs,b∈as)->Paired (mX K H1) bs S->au K O H2 (bs.map V.ref) S:=by
   intro bs S hs p
   induction p with
   |nil=>exact .nil
   |@cons b d bs S hd _ ih=>
    refine Ko hd λks vs xs ah h2 h3 h4 h5 h6=>?_
    try clear hd
    subst ah
    refine a_ (f.at_ b (hs b Xd)) λo u e1 mu e2=>?_
    rw[h2]at e1
    cases e1
    exact .cons (.bz e2 h3 h4 (fJ (sS f) h6 h5)) (ih λc hc=>hs c (W_ _ hc))
  exact all (λb hb=>hb) h.bz
def yg(f:Dk as H1 H2)(s:af H2 H3):sk as H1 H3/\af H1 (gn as H1 H3)/\iX H3 (gn as H1 H3):=by
 have c:sk as H1 H3:=λb hb=>by
  exact a_ (f.at_ b hb) λo u e1 mu e2=>⟨o,u,e1,mu,s _ _ e2⟩
 refine⟨c,λb u e=>?_,λb us e=>?_⟩
 .by_cases hb:b∈as
  .rw[jE hb];exact e
  .rw[bQ hb];exact s _ _ (by rw[f.out b hb];exact e)
 .rw[bQ λhb=>?_]
  .exact e
  .refine a_ (c b hb) λo u _ _ e2=>?_
   rw[e]at e2;cases e2
def AR(c:sk as H1 H3)(hd:∀b∈as,∀zs,H1 b≠some (.lst zs))(h:dI K H3 p us):dI K (gn as H1 H3) p us:=by
 rcases h with h|h
 .refine .inl ?_
  have hp:p∉as:=λhb=>by
   refine a_ (c p hb) λo u e1 mu e2=>?_
   rcases h with h|⟨o',h⟩
   .rw[h]at e2;cases e2
   .rw[h]at e2;cases e2;exact hd p hb us e1
  rcases h with h|⟨o',h⟩
  .exact .inl (by rw[bQ hp];exact h)
  .exact .inr ⟨o',by rw[bQ hp];exact h⟩
 .exact .inr h
def IM:∀us,gr t ks vs≠ .lst us:=by
 intro us h
 unfold gr at h
 split at h<;>cases h
def qT.Na(h:qT K H a as T):∀b∈as,∀zs,H b≠some (.lst zs):=λb hb zs e=>by
 refine Gf (jP h.bz hb) λd ks vs xs _ h2 _=>?_
 rw[h2]at e
 exact IM _ (Xw e)
end
section
variable {K:PySem.W.Frag}{H₀ bD:Hp}{ae Z:Addr->Prop}{kv:List V}{kd:List D}{ow:Nat->Option Addr}{σ:St}{H H1 H':Hp}{ρ:Env}{a b:Addr}{as:List Addr}{T:List D}{x y:Nat}
def OT(ae:Addr->Prop)(a:Addr)(as:List Addr):Addr->Prop:=λb=>ae b\/b∈a::as
def br.yh{l:List Addr}{v:V}{d:D}(h:br K (Os ae ow) H v d)(hp:∀p∈l,H p=none):br K (λb=>Os ae ow b\/b∈l) H v d:=
 gZ (λ_ _ h=>h) (λb us h n=>⟨h,λz=>z.elim n λe=>lN (hp b e) h⟩) (λ_ _ _ h=>h) h
def au.yh{l:List Addr}{v:List V}{d:List D}(h:au K (Os ae ow) H v d)(hp:∀p∈l,H p=none):au K (λb=>Os ae ow b\/b∈l) H v d:=
 fC (λ_ _ h=>h) (λb us h n=>⟨h,λz=>z.elim n λe=>lN (hp b e) h⟩) (λ_ _ _ h=>h) h
theorem eC.yh{l:List Addr}{d:D}(h:eC K (Os ae ow) H b d)(hp:∀p∈l,H p=none):eC K (λb=>Os ae ow b\/b∈l) H b d:=by
 rcases h with⟨vs,ds,e1,e2,e3⟩|⟨t,ks,vs,ds,e1,e2,e3,e4,e5⟩|⟨e1,u',e2,e3⟩
 .exact .inl ⟨vs,ds,e1,e2,e3.yh hp⟩
 .exact .inr (.inl ⟨t,ks,vs,ds,e1,e2,e3,e4,e5.yh hp⟩)
 .exact .inr (.inr ⟨e1,u',e2,e3⟩)
noncomputable def mY(a:Addr)(as:List Addr)(H₀ H:Hp):Hp:=gn (a::as) H H₀
def QW:∀b,Os (OT ae a as) (ph ow x none) b->Os ae ow b\/b∈a::as:=λb z=>by
 rcases z with (z|z)|⟨j,z⟩
 .exact .inl (.inl z)
 .exact .inr z
 .by_cases hj:j=x
  .rw[hj,aI]at z;cases z
  .rw[aM hj]at z;exact .inl (.inr ⟨j,z⟩)
def SX.tab(h:SX K H₀ ae Z kv kd ow σ H ρ)(s:af H H')(t:qT K H' a as T)(hn:∀b∈a::as,H b=none)(nt:rB ρ=true)(hx:x<ρ.length):
  af H₀ (mY a as H₀ H')/\SX K (mY a as H₀ H') (OT ae a as) (λb=>b=a) [] [] (ph ow x none) (σ.set x (some (.ref a))) H' (Py.put ρ x true ur):=by
 have Vz:∀b∈a::as,H₀ b=none:=λb hb=>by
  cases z:H₀ b with
  |none=>rfl
  |some w=>have:=h.same _ _ z;rw[hn b hb]at this;cases this
 have sb:af H₀ (mY a as H₀ H'):=λb u e=>by
  unfold mY
  rw[bQ λhb=>by rw[Vz b hb]at e;cases e]
  exact e
 have F0:∀(j:Nat) (o:Bool) (d:D),ρ[j]?=some (some (o,d))->mj d=false:=λj o d e=>by
  unfold rB at nt
  have:=XO.mp nt _ (Yq e)
  simpa using this
 refine⟨sb,⟨⟨λb hb=>?_,λj o d' hj=>?_⟩,λj d' hj=>?_,λj k b hj hk=>?_,λj b hj=>?_,λb u e=>?_,.nil,λb hb=>?_,by unfold Py.put;rw[X1,X1];exact h.len⟩⟩
 .rcases QW b hb with z|z
  .exact ab (h.ex.live b z) λu e q=>⟨u,s _ _ e,q⟩
  .exact t.there b z
 .by_cases eJ:j=x
  .subst eJ
   unfold Py.put at hj
   rw[XB hx]at hj
   cases hj
   exact ab (t.there a Xd) λu e q=>⟨.ref a,XB (by rw[<-h.len];exact hx),a,rfl,.inl (.inr Xd),.inr (.inr ⟨rfl,u,e,q⟩)⟩
  .unfold Py.put at hj
   rw[XA (Ya eJ)]at hj
   refine ab (h.ex.kU j o d' hj) λw h1 h2=>⟨w,by rw[XA (Ya eJ)];exact h1,?_⟩
   cases o with
   |true=>
    refine bF h2 λb e1 e2 c=>ab (h.own j d' hj) λb' o2 o1=>?_
    rw[h1]at o2
    cases o2
    cases e1
    refine⟨b,rfl,o1.elim (λo1=> .inr ⟨j,by rw[aM eJ];exact o1.2⟩) (λo1=> .inl (.inl o1.2.2)),((c.yh hn).mono s).weak QW⟩
   |false=>exact((br.yh h2 hn).mono s).weak QW
 .by_cases eJ:j=x
  .subst eJ
   unfold Py.put at hj
   rw[XB hx]at hj
   cases hj
   exact⟨a,XB (by rw[<-h.len];exact hx),.inr ⟨rfl,rfl,.inr Xd⟩⟩
  .unfold Py.put at hj
   rw[XA (Ya eJ)]at hj
   refine ab (h.own j d' hj) λb o2 o1=>⟨b,by rw[XA (Ya eJ)];exact o2,.inl ⟨F0 j true d' hj,?_⟩⟩
   rw[aM eJ]
   exact o1.elim (λo1=>o1.2) λo1=>by rw[F0 j true d' hj]at o1;exact nomatch o1.1
 .by_cases h1:j=x
  .rw[h1,aI]at hj;cases hj
  .by_cases h2:k=x
   .rw[h2,aI]at hk;cases hk
   .rw[aM h1]at hj;rw[aM h2]at hk;exact h.inj j k b hj hk
 .by_cases h1:j=x
  .rw[h1,aI]at hj;cases hj
  .rw[aM h1]at hj
   refine ab (h.ex.live b (.inr ⟨j,hj⟩)) λu e _=>?_
   unfold mY
   rw[bQ λhb=>by rw[hn b hb]at e;cases e]
   exact h.new j b hj
 .unfold mY at e
  by_cases hb:b∈a::as
  .rw[jE hb]at e;exact e
  .rw[bQ hb]at e;exact s _ _ (h.same _ _ e)
 .unfold mY
  by_cases j6:b∈a::as
  .exact ab (t.there b j6) λu e _=>⟨u,by rw[jE j6];exact e⟩
  .rw[bQ j6]
   exact h.o0 b (hb.resolve_right j6)
noncomputable def iJ(bD H:Hp):Hp:=λb=>match H b with
 |some (.tup us)=>some (.tup us)
 |_=>bD b
def hU(e:H b=some (.tup us)):iJ bD H b=some (.tup us):=by unfold iJ;rw[e]
def fK(e:∀us,H b≠some (.tup us)):iJ bD H b=bD b:=by
 unfold iJ
 split
 .rename_i us z;exact absurd z (e us)
 .rfl
theorem SX.iJ(h:SX K bD ae Z kv kd ow σ H ρ):SX K (iJ bD H) ae Z kv kd ow σ H ρ:=by
 refine⟨h.ex,h.own,h.inj,λi b hb=>?_,λb u e=>?_,h.kp,λb hb=>?_,h.len⟩
 .refine ab (h.ex.live b (.inr ⟨i,hb⟩)) λu e q=>?_
  rw[fK λus z=>by rw[e]at z;cases z;exact q]
  exact h.new i b hb
 .by_cases hb:∃us,H b=some (.tup us)
  .obtain⟨us,z⟩:=hb
   rw[hU z]at e
   cases e
   exact z
  .rw[fK λus z=>hb ⟨us,z⟩]at e
   exact h.same _ _ e
 .by_cases j6:∃us,H b=some (.tup us)
  .obtain⟨us,z⟩:=j6
   exact⟨_,hU z⟩
  .rw[fK λus z=>j6 ⟨us,z⟩]
   exact h.o0 b hb
def LS(K:PySem.W.Frag)(H₀:Hp)(ae:Addr->Prop)(a:Addr)(as:List Addr)(T:List D)(σ:St)(H:Hp)(ρ:Env):Prop:=
 ∃bD ow,af H₀ bD/\SX K bD (OT ae a as) (λb=>b=a) [] [] ow σ H ρ/\(∀b,b∈a::as->bD b=H b)/\qT K H a as T
def SX.sT(hx:SX K bD (OT ae a as) (λb=>b=a) [] [] ow σ H ρ)(t:qT K H a as T)(s:af H H')(e:∀b,b∈a::as->bD b=H b):∀b,b∈a::as->bD b=H' b:=λb hb=>by
 refine ab (t.there b hb) λu eu _=>?_
 rw[e b hb,eu]
 exact(s _ _ eu).symm
theorem LS.mono(h:LS K H₀ ae a as T σ H ρ)(s:af H H'):LS K H₀ ae a as T σ H' ρ:=by
 exact gq h λbD ow h1 h2 h3 h4=>⟨bD,ow,h1,h2.mono s,h2.sT h4 s h3,h4.wq s⟩
def LS.run(h:LS K H₀ ae a as T σ H ρ)(e:f ρ=some (.next ρ'))(k:∀bT H',LS K H₀ ae a as T bT H' ρ'->D'.nx bT H'):tC K f D' σ H:=by
 refine gq h λbD ow h1 h2 h3 h4=>⟨iJ bD H,_,_,[],[],ow,ρ,.next ρ',h2.iJ,e,λoh bT H' hx=>k bT H' ⟨_,oh,λb u eb=>?_,hx,λb hb=>?_,?_⟩⟩
 .have:=h1 _ _ eb
  by_cases hb:∃us,H b=some (.tup us)
  .obtain⟨us,z⟩:=hb
   rw[hU z,<-z]
   exact h2.same _ _ this
  .rw[fK λus z=>hb ⟨us,z⟩];exact this
 .refine ab (h4.there b hb) λu eu q=>?_
  have e1:iJ bD H b=some u:=by
   rw[fK λus z=>by rw[eu]at z;cases z;exact q,h3 b hb];exact eu
  rw[e1]
  exact(hx.same _ _ e1).symm
 .refine h4.keep (λb us z=>hx.same _ _ (hU z)) λb hb=>ab (h4.there b hb) λu eu q=>?_
  have e1:iJ bD H b=some u:=by
   rw[fK λus z=>by rw[eu]at z;cases z;exact q,h3 b hb];exact eu
  rw[eu]
  exact hx.same _ _ e1
def D7(h:jr ρ x=true):ρ[x]?=some (some (true,ur)):=by
 unfold jr at h
 split at h
 .rename_i t e
  have:t=2:=by simpa using h
  subst this
  exact e
 .cases h
def LS.at(h:LS K H₀ ae a as T σ H ρ)(ht:jr ρ x=true):σ[x]?=some (some (.ref a)):=by
 refine gq h λbD ow _ h2 _ _=>ab (h2.own x _ (D7 ht)) λb o2 o1=>?_
 rcases o1 with o1|o1
 .exact nomatch o1.1
 .rw[o2,o1.2.1]
theorem LS.lst(h:LS K H₀ ae a as T σ H ρ){l:List D}(e:kT ρ y=some l):∃b vs,σ[y]?=some (some (.ref b))/\dI K H b vs/\vs.length=l.length:=by
 refine ao λnO=>gq h λbD ow _ h2 _ _=>?_
 obtain⟨o,e2⟩:=AO e
 refine ab (h2.ex.kU y o _ e2) λu q1 q2=>nO ?_
 cases o with
 |true=>
  refine ao λnO=>bF q2 λb f1 f2 c=>ab c.lst λvs c1 c2=>?_
  subst f1
  exact nO<|⟨b,vs,q1,dI.of c1,c2.length⟩
 |false=>
  refine ao λnO=>a_ (br.lst_inv q2) λb vs f1 f2 f3=>?_
  subst f1
  exact nO<|⟨b,vs,q1,f2,f3.length⟩
def yi(e:jq ρ y=some l):kT ρ y=some l:=by
 have:=wo e
 unfold kT
 rw[this]
end
def Nb(h:dD 0 d=some k):∃i,d= .int i/\k=[i]:=by
 cases d with
 |int i=>cases h;exact⟨i,rfl,rfl⟩
 |tup xs=>cases h
 |_=>cases h
def yj{K:PySem.W.Frag}{fr:List Nat}{fi:Env->Option (List D)}{fk fv:Env->Option D}{O:Addr->Prop}{σ:St}{H:Hp}{ρ:Env}{Q:VK}{xs T:List D}(hx:EX K O σ H ρ)(e1:fi ρ=some xs)(hz:xs.length<=bj)(hd:walk (rC fk fv fr ρ) xs=some T)
  (q:∀p as H',af H H'->qT K H' p as T->(∀b∈p::as,H b=none)->Q (.ref p) H'):oC 1 fr (tI K true fi) (cI 0) (tB K λ_=>some true) (so (tV K false fk) (tV K false fv)) σ H Q:=by
 refine⟨O,ρ,xs,hx,e1,λJ gm H1 s1 An sJ p hp=>?_⟩
 have sL:=hx.mono s1
 have Ij:fE K (λa=>O a\/a=p) H1 gm:=sJ.ok.own hp
 refine⟨λi m H'=>m=xs.length-i/\i<=xs.length/\af H1 H'/\∃as S bG,H' p=some (.lst (as.map V.ref))/\Paired (mX K H') as S/\(p::as).Nodup /\(∀b∈as,H1 b=none)/\as.length=i/\walk (rC fk fv fr ρ) (xs.drop i)=some bG/\T=S++bG,
  ⟨xs.length,rfl,XQ _,af.upd hp,[],[],T,ag,.nil,by simp,λ_ z=>(nomatch z),rfl,hd,rfl⟩,?_⟩
 rintro i mm H2 ⟨rfl,hi,s2,as,S,bG,ep,pd,nd,hn,hl,hw,ho⟩
 refine cS (An _ H2 (Ij.mono s2)) λgo yS stop=>?_
 by_cases bJ:i<xs.length
 .refine .inr ⟨go i bJ,λx H3 hy=>?_⟩
  have QN:xs[i]?=some xs[i]:=by simp[bJ]
  obtain⟨s3,rx⟩:=yS i x H3 _ hy QN
  have MQ:H3 p=some (.lst (as.map V.ref)):=s3 _ _ ep
  have QO:EX K (λa=>O a\/a=p) σ H3 ρ:=sL.ext hp (s2.trans s3) MQ
  have dr:xs.drop i=xs[i]::xs.drop (i+1):=(X9 bJ)
  rw[dr,walk]at hw
  show tB K (λ_=>some true) ((List.replicate 1 none++jk fr σ).set 0 (some x)) H3 _
  have VA:(List.replicate 1 none++jk fr σ).set 0 (some x)=some x::jk fr σ:=rfl
  rw[VA]
  have MR:=QO.inner (.cons rx .nil) fr
  refine⟨_,_,true,MR,rfl,λH4 s4=>j7 λF1 Ol=>?_⟩
  cases en:rC fk fv fr ρ xs[i]with
  |none=>rw[en]at hw;cases hw
  |some o=>
  have F2:=en
  unfold rC at F2
  refine ao λnO=>ab (bind_some F2) λkk g0 F2=>ab (bind_some g0) λdk g1 g2=>ab (bind_some F2) λd g3 F2=>nO ?_
  split at F2
  .rename_i yC
   refine ao λnO=>?_
   cases F2
   rw[en]at hw
   refine ab (map_some hw) λAo v8 Dt=>ab (Nb g2) λki ah aK=>?_
   subst ah
   subst aK
   refine nO ?_
   have S9:=(MR.mono s4).mono (af.upd (o:= .dK []) Ol)
   refine⟨_,_,_,S9,g1,λkv H5 s5 r5=>⟨_,_,d,S9.mono s5,g3,λv H6 s6 r6=>?_⟩⟩
   have IP:H6 F1=some (.dK []):=s6 _ _ (s5 _ _ ag)
   have Om:af H4 H6:=((af.upd (o:= .dK []) Ol).trans s5).trans s6
   have QX:H6 p=some (.lst (as.map V.ref)):=Om _ _ (s4 _ _ MQ)
   have Oo:p≠F1:=f7 QX IP (by intro z;cases z)
   have VB:af H2 H6:=(s3.trans s4).trans Om
   have IQ:∀b u,H4 b=some u->b≠F1:=λb u e z=>by rw[z,Ol]at e;cases e
   refine⟨ki,r5.int,IP,as.map V.ref,xs.length-(i+1),by rw[ak Oo];exact QX,by rw[Xb,hl,cz];lia,by lia,rfl,bJ,λbb oo eb=>?_,as++[F1],S++[.bz 0 [[ki]] [d]],Ao,?_,?_,?_,?_,?_,v8,?_⟩
   .have e4:H4 bb=some oo:=s4 _ _ (s3 _ _ (s2 _ _ eb))
    rw[ak (bY eb hp),ak (IQ _ _ e4)]
    exact Om _ _ e4
   .rw[XX];exact ag
   .have t6:iX H6 (L2.upd (L2.upd H6 F1 (.dK [(Sum.inl ki,v)])) p (.lst (as.map V.ref++[.ref F1]))):=(gH (o:= .dK [(Sum.inl ki,v)]) IP trivial).trans (gH (u:= .lst (as.map V.ref)) (by rw[ak Oo];exact QX) trivial)
    have old:Paired (mX K (L2.upd (L2.upd H6 F1 (.dK [(Sum.inl ki,v)])) p (.lst (as.map V.ref++[.ref F1])))) as S:=kB pd λb dd hb B4=>B4.keep ((pA VB).trans t6) (by
     refine ao λnO=>cL B4 λks vs ys _ h2 _=>nO ?_
     have e4:H4 b=some (gr 0 ks vs):=s4 _ _ (s3 _ _ h2)
     have VC:b≠p:=λz=>by rw[XR]at nd;exact nd.1 (z▸hb)
     rw[ak VC,ak (IQ _ _ e4),h2]
     exact Om _ _ e4)
    refine yf ⟨[[ki]],[v],[d],rfl,?_,rfl,⟨by simp,λ_ k hk=>⟨ki,by simpa using hk⟩⟩,by simp[aR,yC],.cons (dY t6 r6.own yC) .nil⟩ old
    rw[ak (Ya Oo),ag,jJ];rfl
   .rw[<-abc,Yy]
    refine⟨nd,by simp,λb hb c hc e=>?_⟩
    rw[Xc]at hc
    rw[e,hc]at hb
    rcases Xl.mp hb with z|z
    .exact Oo z.symm
    .exact ao λnO=>Gf (jP pd z) λdd ks vs ys _ h2 _=>nO<|IQ _ _ (s4 _ _ (s3 _ _ h2)) rfl
   .intro b hb
    rcases Xr.mp hb with hb|hb
    .exact hn b hb
    .rw[Xc]at hb
     subst hb
     cases z:H1 b with
     |none=>rfl
     |some w=>have:=s4 _ _ (s3 _ _ (s2 _ _ z));rw[Ol]at this;cases this
   .rw[Xk,XG,hl]
   .rw[ho,<-Dt,XI];rfl
  .cases F2
 .have ei:i=xs.length:=by lia
  subst ei
  refine .inl ⟨stop,?_⟩
  rw[abb,walk]at hw
  cases hw
  rw[X7]at ho
  subst ho
  refine q p as H2 (s1.trans s2) ⟨ep,pd,nd⟩ λb hb=>?_
  have h1:H1 b=none:=(Xl.mp hb).elim (λz=>z▸hp) (hn b)
  cases z:H b with
  |none=>rfl
  |some w=>have:=s1 _ _ z;rw[h1]at this;cases this
section
variable {K:PySem.W.Frag}{H₀ bD:Hp}{ae D8 Z:Addr->Prop}{kv:List V}{kd:List D}{ow:Nat->Option Addr}{σ:St}{H H1 H':Hp}{ρ:Env}{a b:Addr}{as:List Addr}{T:List D}{x y r:Nat}{u u':HO}
def AS{α β:Type}{R R':α->β->Prop}{x:α}{y':β}(hy:R' x y'):∀{l:List α}{m:List β}{q:Nat},Paired R l m->l.Nodup->l[q]?=some x->(∀z y,z∈l->z≠x->R z y->R' z y)->Paired R' l (m.set q y'):=λ{l m q} p=>by
 induction p generalizing q with
 |nil=>intro _ e;simp at e
 |cons r t ih=>
  intro nd e k
  rw[XR]at nd
  cases q with
  |zero=>
   simp at e
   subst e
   exact .cons hy (kB t λz y hz=>k z y (W_ _ hz) λe=>nd.1 (e▸hz))
  |succ q=>
   have e':=by simpa using e
   exact .cons (k _ _ Xd (λe2=>nd.1 (e2▸Yq e')) r) (ih nd.2 e' λz y hz=>k z y (W_ _ hz))
def SX.VD(h:SX K bD D8 Z kv kd ow σ H ρ)(ob:D8 b)(e:H b=some u)(hu:sv u)(Kg:sv u')(hz:∀c,Z c->c≠b):SX K (L2.upd bD b u') D8 Z kv kd ow σ (L2.upd H b u') ρ:=by
 have oa:Os D8 ow b:= .inl ob
 obtain⟨w,hw⟩:=h.o0 b ob
 have gx:∀i c,ow i=some c->c≠b:=λi c hc z=>by
  have:=h.new i c hc
  rw[z,hw]at this
  cases this
 refine⟨⟨λc hc=>?_,λj o d' hj=>?_⟩,h.own,h.inj,λi c hc=>by rw[ak (gx i c hc)];exact h.new i c hc,λc v hc=>?_,h.kp.upd oa e hu,λc hc=>?_,h.len⟩
 .by_cases wt:c=b
  .subst wt;exact⟨u',ag,Kg⟩
  .exact ab (h.ex.live c hc) λus q qo=>⟨us,by rw[ak wt];exact q,qo⟩
 .refine ab (h.ex.kU j o d' hj) λw q1 q2=>⟨w,q1,?_⟩
  cases o with
  |true=>
   refine ao λnO=>bF q2 λc e1 e2 c'=>ab (h.own j d' hj) λb' o2 o1=>?_
   rw[q1]at o2
   cases o2
   cases e1
   exact nO<|⟨c,rfl,e2,c'.upd (o1.elim (λo1=>gx j c o1.2) λo1=>hz c o1.2.1) oa e hu⟩
  |false=>exact br.upd q2 oa e hu
 .by_cases wt:c=b
  .subst wt;rw[ag]at hc⊢;exact hc
  .rw[ak wt]at hc⊢;exact h.same _ _ hc
 .by_cases wt:c=b
  .subst wt;exact⟨u',ag⟩
  .obtain⟨v,hv⟩:=h.o0 c hc
   exact⟨v,by rw[ak wt];exact hv⟩
theorem LS.put(h:LS K H₀ ae a as T σ H ρ)(rp:br K O' H v d)(n:aC d=true):LS K H₀ ae a as T (σ.set r (some v)) H (Py.put ρ r false d):=by
 exact gq h λbD ow h1 h2 h3 h4=>⟨bD,_,h1,h2.put (dY (λ_ _ e=>e) rp n) r,h3,h4⟩
def LS.own(h:LS K H₀ ae a as T σ H ρ)(e:jq ρ y=some l):∃b vs O',σ[y]?=some (some (.ref b))/\H b=some (.lst vs)/\au K O' H vs l/\
  ∀Iz l' H',af H H'->au K O' H' Iz l'->LS K H₀ ae a as T σ (L2.upd H' b (.lst Iz)) (Py.put ρ y true (.lst l')):=by
 refine ao λnO=>gq h λbD ow h1 h2 h3 h4=>gq (h2.IJ e) λb vs o1 o2 o3 o4=>nO ?_
 refine⟨b,vs,_,o2,o3,o4,λIz l' H' s rr=>?_⟩
 have hb:∀c,c∈a::as->c≠b:=λc hc z=>by
  have n:=h2.new y b o1
  refine ab (h4.there c hc) λu eu _=>?_
  rw[<-z,h3 c hc,eu]at n
  cases n
 have M':=s _ _ o3
 refine⟨bD,ow,h1,(h2.mono s).wr o1 o2 M' rr,λc hc=>?_,(h4.wq s).keep (gH M' trivial) λc hc=>ak (hb c hc)⟩
 rw[ak (hb c hc)]
 exact h2.sT h4 s h3 c hc
def LS.dput(h:LS K H₀ ae a as T σ H ρ){q:Nat}{ks:List (List Int)}{xs:List D}{ki:Int}{v:V}{d:D}{O':Addr->Prop}(e:T[q]?=some (.bz 0 ks xs))(hk:[ki]∉ks)(hl:ks.length<bj)(rp:br K O' H v d)(n:aC d=true)(hn:∀b∈a::as,H₀ b=none):
  ∃b H',as[q]?=some b/\Hz H b (.int ki) v H'/\LS K H₀ ae a as (T.set q (.bz 0 (ks++[[ki]]) (xs++[d]))) σ H' ρ:=by
 refine ao λnO=>gq h λbD ow h1 h2 h3 h4=>?_
 obtain⟨b,e1,Vl,vs,WS,e2,g1,g2,g3,g4,g5⟩:=D6 h4.bz e
 cases e2
 refine nO ?_
 have hb:b∈as:=Yq e1
 have nd:=XR.mp h4.nd
 have uE:a≠b:=λz=>nd.1 (z▸hb)
 have IS:ka ((ks.map λk=>(Sum.inl (k.headD 0):cM)).zip vs) (Sum.inl ki) v=((ks++[[ki]]).map λk=>(Sum.inl (k.headD 0):cM)).zip (vs++[v]):=by
  have:=qD (λk:List Int=>(Sum.inl (k.headD 0):cM)) (x:=[ki]) (v:=v) g2 (λk hm he=>by
   obtain⟨j,rfl⟩:=g3.2 rfl k hm
   have:j=ki:=aaN he
   rw[this]) hk
  exact this
 refine⟨b,L2.upd H b (gr 0 (ks++[[ki]]) (vs++[v])),e1,.inl ⟨_,Sum.inl ki,by rw[g1,jJ],rfl,by rw[ZT,Xb,g2,aas,cz,<-g2];exact hl,by rw[IS,jJ]⟩,?_⟩
 have ts:iX H (L2.upd H b (gr 0 (ks++[[ki]]) (vs++[v]))):=gH g1 kZ
 refine⟨L2.upd bD b (gr 0 (ks++[[ki]]) (vs++[v])),ow,λc w ec=>?_,h2.VD (.inr (W_ _ hb)) g1 kZ kZ (λc hc=>by rw[hc];exact uE),λc hc=>?_,⟨by rw[ak uE];exact h4.lst,?_,h4.nd⟩⟩
 .have wt:c≠b:=λz=>by rw[z,hn b (W_ _ hb)]at ec;cases ec
  rw[ak wt];exact h1 _ _ ec
 .by_cases wt:c=b
  .subst wt;rw[ag,ag]
  .rw[ak wt,ak wt];exact h3 c hc
 .refine AS ⟨ks++[[ki]],vs++[v],xs++[d],rfl,ag,by simp[g2],⟨?_,λ_ k hm=>?_⟩,by rw[iI,g4];simp[aR,n],(fJ ts g5 g4).append (.cons (dY ts rp n) .nil)⟩ h4.bz nd.2 e1 λz y hz VE hd=>hd.keep ts (ak VE)
  .rw[Yy]
   exact⟨g3.1,by simp,λa ha b hb e=>hk (by rw[Xc.mp hb]at e;exact e▸ha)⟩
  .rcases Xr.mp hm with hm|hm
   .exact g3.2 rfl k hm
   .exact⟨ki,Xc.mp hm⟩
def LS.call(h:LS K H₀ ae a as T σ H1 ρ){n:Nat}{f:List D->Option D}{v:V}{z d:D}{O':Addr->Prop}{Q:VK}(rz:br K O' H1 v z)(nz:aC z=true)(fe:f [.lst T,z]=some d)(hn:∀ds d,f ds=some d->ds.length=n)
  (k:∀w H3,af H1 (gn as H1 H3)->br K (λ_=>False) H3 w d->iX H3 (gn as H1 H3)->sk as H1 H3->Q w (gn as H1 H3)):
  ∃Nc:List Addr,Nc.Nodup/\(∀b∈Nc,mG H1 b)/\∀H2,Dk Nc H1 H2->vW K n f ([.ref a,v]++[]) H2 (λw H3=>sk Nc H1 H3/\Q w (gn Nc H1 H3)) E0:=by
 refine gq h λbD ow h1 h2 h3 h4=>⟨as,(XR.mp h4.nd).2,h4.mut,λH2 fz=>⟨λ_=>False,[.lst T,z],d,λ_ z=>z.elim,.cons ((h4.rep fz).resolve_right id) (.cons (dY (sS fz) rz nz) .nil),fe,hn _ _ fe,λw H3 s zc=>?_⟩⟩
 exact cS (yg fz s) λc s' t=>⟨c,k w H3 s' zc t c⟩
def LS.ret(h:LS K H₀ ae a as T σ H ρ)(hn:∀b∈a::as,H₀ b=none)(o0:∀b,ae b->∃w,H₀ b=some w)(fz:Dk as H H2):af H₀ H2/\br K ae H2 (.ref a) (.lst T):=by
 refine gq h λbD ow h1 h2 h3 h4=>⟨λb u e=>?_,(h4.rep fz).resolve_right λz=>?_⟩
 .rw[fz.out b λhb=>by rw[hn b (W_ _ hb)]at e;cases e]
  exact h2.same _ _ (h1 _ _ e)
 .obtain⟨w,hw⟩:=o0 a z
  rw[hn a Xd]at hw
  cases hw
end
abbrev IT(K:PySem.W.Frag)(n:Nat)(f:List D->Option D)(t:TA):TE:=λσ H Q=>t σ H λvs H1=>∃as:List Addr,as.Nodup/\(∀b∈as,mG H1 b)/\∀H2,Dk as H1 H2->vW K n f (vs++[]) H2 (λv H3=>sk as H1 H3/\Q v (gn as H1 H3)) E0
abbrev D9(y:Nat):TE:=λσ H Q=>∃a vs v,σ[y]?=some (some (.ref a))/\H a=some (.lst vs)/\vs[vs.length-1]?=some v/\Q v (L2.upd H a (.lst vs.dropLast))
abbrev AU(K:PySem.W.Frag)(y:Nat):TT:=λσ H Q=>dA y σ H λx H'=>∃k,GU K x H' k/\Q k H'
section
variable {K:PySem.W.Frag}{H₀:Hp}{ae:Addr->Prop}{σ:St}{H:Hp}{ρ:Env}{a:Addr}{as:List Addr}{T:List D}{x y:Nat}
def AV(h:jr ρ x=true)(ne:x≠y):jr (Py.put ρ y o d) x=true:=by
 unfold jr Py.put at *
 rw[XA (Ya ne)]
 exact h
def LS.S_(h:LS K H₀ ae a as T σ H ρ)(e:kT ρ y=some l)(q:Q (!l.isEmpty) H):AU K y σ H Q:=by
 refine a_ (h.lst e) λb vs h1 h2 h3=>?_
 have he:(!vs.isEmpty)=!l.isEmpty:=by cases vs<;>cases l<;>simp at h3⊢
 exact⟨.ref b,h1,!vs.isEmpty,.inl ⟨vs,h2,rfl⟩,by rw[he];exact q⟩
def AW(h:t {D' with nx:=u D'} σ H):pJ t u D' σ H:=h
def LS.ifs(h:LS K H₀ ae a as T σ H ρ)(e:kT ρ y=some l)(q:if(!l.isEmpty)=true then t D' σ H else u D' σ H):Cf (AU K y) t u D' σ H:=by
 unfold Cf
 exact h.S_ e q
def LS.turn(h:LS K H₀ ae a as T σ H ρ)(hn:∀b∈a::as,H₀ b=none)(ht:jr ρ x=true)(Aa:x≠y)(el:jq ρ y=some l)(Nd:∀ds d,F f ds=some d->ds.length=n1)(Nf:∀ds d,F g ds=some d->ds.length=n2)
  (e:js F x y r f c2 m c3 p q u g w T ρ l=some (T',ρ')) (k:∀bT H',LS K H₀ ae a as T' bT H' ρ'->jr ρ' x=true->D'.nx bT H'):
  pJ (nQ (IT K n1 (F f) (cP (dA x) (cP (D9 y) ma))) (cI r)) (pJ (tC K c2) (pJ (Cf (AU K m) (pJ (tC K c3) (pJ (vB (E9 (Cw K) (dA x) (tV K false p)) (tV K false q) (tV K false u)) (pJ (vg (NZ K "list" (Ae K) (dA y) (cP (IT K n2 (F g) (cP (dA x) (cP (tV K false w) ma))) ma))) vf))) vf) vf)) D' σ H:=by
 unfold js at e
 refine ao λnO=>?_
 obtain⟨z,e1,e⟩:=bind_some e
 obtain⟨d,e2,e⟩:=bind_some e
 split at e
 .rename_i Ng
  rw[W7]at Ng
  obtain⟨o,e3,e⟩:=bind_some e
  cases o with
  |next Ln=>
   dsimp only at e
   split at e
   .rename_i QY
    obtain⟨ms,e4,e⟩:=bind_some e
    obtain⟨b,vs,O',y1,y2,y3,y4⟩:=h.own el
    have pU:l[vs.length-1]?=some z:=by rw[y3.length,<-aaz];exact e1
    obtain⟨v,z1,z2⟩:=y3.get pU
    refine nO ?_
    have yd:au K O' H vs.dropLast l.dropLast:=by
     rw[Zq,Zq,y3.length]
     exact y3.take _
    have h1:=y4 vs.dropLast l.dropLast H (af.refl _) yd
    have VF:br K (λ_=>False) (L2.upd H b (.lst vs.dropLast)) v z:=dY (gH y2 trivial) z2 Ng.1
    refine⟨.ref a,h.at ht,b,vs,v,y1,y2,z1,h1.call (Q:=λw H'=>pJ (tC K c2) _ D' (σ.set r (some w)) H') VF Ng.1 e2 Nd λw H3 s3 r3 t3 QZ=>?_⟩
    have h2:=(h1.mono s3).put (r:=r) (dY (O':=λ_=>False) t3 r3 Ng.2) Ng.2
    refine h2.run e3 λxj H4 h3=>AW (h3.ifs e4 ?_)
    generalize ms.isEmpty=bm at e⊢
    refine ao λnO=>?_
    cases bm with
    |true=>
     cases e
     exact nO<|lu (k xj H4 h3 QY)
    |false=>
     rw[Xx Xa]at e
     obtain⟨o,e5,e⟩:=bind_some e
     cases o with
     |next yF=>
      dsimp only at e
      split at e
      .rename_i Q0
       obtain⟨uv,e6,e⟩:=bind_some e
       split at e
       .rename_i hu
        obtain⟨pi,VG,e⟩:=bind_some e
        obtain⟨dp,e7,Ta⟩:=bind_some VG
        have VH:dp= .int pi:=by cases dp<;>first|(cases Ta;rfl)|cases Ta
        subst VH
        obtain⟨pq,e8,e⟩:=bind_some e
        obtain⟨kk,VI,e⟩:=bind_some e
        obtain⟨dk,e9,Oq⟩:=bind_some VI
        obtain⟨ki,rfl,rfl⟩:=Nb Oq
        obtain⟨T2,wm,e⟩:=bind_some e
        obtain⟨wv,VJ,e⟩:=bind_some e
        split at e
        .rename_i hw
         obtain⟨zd,ab,e⟩:=bind_some e
         cases zd with
         |lst zs=>
          dsimp only at e
          split at e
          .rename_i VM
           obtain⟨ws,bF,e⟩:=bind_some e
           split at e
           .rename_i aX
            cases e
            refine nO<|j7 (h3.run e5 λVN H5 h5=>?_)
            refine ao λnO=>?_
            obtain⟨bD,ow,b1,b2,b3,b4⟩:=id h5
            refine nO ?_
            refine⟨_,yF,uv,b2.ex,e6,λv6 H6 s6 r6=>⟨.ref a,(h5.mono s6).at Q0,_,yF,.int pi,(b2.mono s6).ex,e7,λv7 H7 s7 r7=>?_⟩⟩
            have h7:=(h5.mono s6).mono s7
            have t7:=b4.wq (s6.trans s7)
            refine ao λnO=>?_
            unfold zy at wm
            split at wm
            .rename_i ks xs eT
             split at wm
             .rename_i B0
              cases wm
              have lT:as.length=T.length:=Zr t7.bz
              obtain⟨b8,VO,Q2⟩:∃c,Fl (as.map V.ref) pi=some (V.ref c)/\as[pq]?=some c:=by
               have bJ:pq<as.length:=by rw[lT];exact(Xu.mp eT).1
               refine⟨as[pq],?_,W9 bJ⟩
               unfold Fl
               rw[Xb,lT,<-mK,e8]
               show(as.map V.ref)[pq]?=_
               rw[Xn,W9 bJ]
               rfl
              refine nO<|⟨a,_,pi,.ref b8,rfl,r7.int,dI.of t7.lst,VO,_,yF,.int ki,((b2.mono s6).mono s7).ex,e9,λv9 H9 s9 r9=>?_⟩
              have h9:=h7.mono s9
              refine ao λnO=>?_
              obtain⟨b',PF,f1,f2,f3⟩:=h9.dput eT B0.2 B0.1 (r6.own.mono (s7.trans s9)) hu hn
              rw[Q2]at f1
              cases f1
              refine nO ?_
              refine⟨_,PF,rfl,by rw[r9.int];exact f2,?_⟩
              refine ao λnO=>?_
              obtain⟨c,us,O2,c1,xS,QZ,c4⟩:=f3.own bF
              obtain⟨VP,WT,d1,d2,d3,d4⟩:=id f3
              refine nO ?_
              refine⟨.ref c,c1,.inl ⟨rfl,us,dI.of xS⟩,.ref a,f3.at Q0,_,yF,wv,d2.ex,VJ,λv11 PH N5 VQ=>?_⟩
              refine(f3.mono N5).call (Q:=λw2 H'=>Ae K (.ref c) [w2] H' λ_ VR=>D'.nx VN VR) VQ.own hw ab Nf λw2 WU VS VT VU VV=>ao λnO=>?_
              obtain⟨bb,zv,rfl,g1,g2⟩:=VT.lst_inv
              refine nO ?_
              have B1:=N5.trans VS
              refine⟨c,bb,us,zv,rfl,rfl,B1 _ _ xS,AR VV (d4.wq N5).Na g1,by rw[cz,QZ.length,g2.length];exact aX,?_⟩
              exact k _ _ (c4 _ _ _ B1 ((QZ.mono B1).append (fJ VU g2 VM))) (AV Q0 Aa)
             .cases wm
            .cases wm
           .cases e
          .cases e
         |_=>cases e
        .cases e
       .cases e
      .cases e
     |_=>cases e
   .cases e
  |_=>cases e
 .cases e
end
def IU(h:te σ H λv H1=>g v σ H1 D'.nx):nQ te g D' σ H:=h
section
variable {X:Cx}{s1 s2 sr s5 s6 ss se:Stmt}{e1 e2 em:Expr}{wp ip rp:Pos}{x y r f m g n1 n2:Nat}{fr:List Nat}{F:FT}{fi:Env->Option (List D)}{fk fv p q u w:Env->Option D}{c1 c2 c3:Env->Option lB}
def Nh(hp:PassesOwn (model X.prog X.w) X.A X.env X.xe)(Nd:∀ds d,F f ds=some d->ds.length=n1)(Nf:∀ds d,F g ds=some d->ds.length=n2)
  (P1:PS X s1 (nQ (oC 1 fr (tI X.K true fi) (cI 0) (tB X.K λ_=>some true) (so (tV X.K false fk) (tV X.K false fv))) (cI x)))
  (P2:PS X s2 (tC X.K c1)) (Py:PT X e2 (AU X.K y)) (Pr:PS X sr (nQ (IT X.K n1 (F f) (cP (dA x) (cP (D9 y) ma))) (cI r))) (P5:PS X s5 (tC X.K c2)) (Pm:PT X em (AU X.K m)) (P6:PS X s6 (tC X.K c3))
  (Ps:PS X ss (vB (E9 (Cw X.K) (dA x) (tV X.K false p)) (tV X.K false q) (tV X.K false u))) (Pe:PS X se (vg (NZ X.K "list" (Ae X.K) (dA y) (cP (IT X.K n2 (F g) (cP (dA x) (cP (tV X.K false w) ma))) ma)))) (Pt:PE X e1 (dA x)) (n:Nat):
  lH X [s1,s2,.While e2 [sr,s5,.If em [s6,ss,se] [] ip] [] wp,.Return (some e1) rp] (tC X.K λρ=>(fi ρ).bind λxs=>if xs.length<=bj/\x≠y/\x<ρ.length/\rB ρ=true then(walk (rC fk fv fr ρ) xs).bind λT=>
   (c1 (put ρ x true ur)).bind λo=>match o with
   | .next rD=>if jr rD x then(gw (js F x y r f c2 m c3 p q u g w) y n T rD).map λT=> .ret (.lst T) else none
   |_=>none
  else none):=
 (bZ P1 (bZ P2 (bZ (q_ hp Py (bZ Pr (bZ P5 (bZ (E7 Pm (bZ P6 (bZ Ps (bZ Pe jd))) jd) jd)))) (bZ (tY (Dl Pt)) jd)))).weak λD' σ H zz=>by
  refine ao λnO=>qR zz λH₀ ae Z kv kd ow ρ out hx hd k=>ab (bind_some hd) λxs pU hd=>nO ?_
  split at hd
  .rename_i hc
   refine ao λnO=>yA hc λhz Aa VW VX=>ab (bind_some hd) λT CF hd=>ab (bind_some hd) λo e3 hd=>nO<|YF λnO=>?_
   cases o with
   |next rD=>
    refine nO ?_
    dsimp only at hd
    split at hd
    .rename_i Ly
     refine ab (map_some hd) λT' e4 ah=>?_
     subst ah
     refine AW (IU (yj hx.ex pU hz CF λa as H' s t hn=>?_))
     have Oj:∀b∈a::as,H₀ b=none:=λb hb=>by
      cases z:H₀ b with
      |none=>rfl
      |some w'=>have:=hx.same _ _ z;rw[hn b hb]at this;cases this
     obtain⟨sb,sL⟩:=hx.tab s t hn VX VW
     have L0:LS X.K H₀ ae a as T (σ.set x (some (.ref a))) H' (put ρ x true ur):=⟨_,_,sb,sL,λb hb=>jE hb,t⟩
     refine L0.run e3 λGG H1 L1=>⟨λi σ H=>∃S ρ,LS X.K H₀ ae a as S σ H ρ/\jr ρ x=true/\gw (js F x y r f c2 m c3 p q u g w) y i S ρ=some T',⟨n,T,rD,L1,Ly,e4⟩,?_⟩
     rintro i yB H2 ⟨S,D3,Kh,Tb,e5⟩
     refine ao λnO=>?_
     cases i with
     |zero=>cases e5
     |succ i=>
      refine nO ?_
      rw[gw]at e5
      refine ab (bind_some e5) λl e6 e5=>Kh.S_ (yi e6) ?_
      cases hl:l.isEmpty with
      |true=>
       rw[hl,Xs rfl]at e5
       cases e5
       refine lu ?_
       refine⟨.ref a,Kh.at Tb,as,?_,?_,λH3 fz=>?_⟩
       .exact ao λnO=>gq Kh λ_ _ _ _ _ t4=>nO<|(XR.mp t4.nd).2
       .exact ao λnO=>gq Kh λ_ _ _ _ _ t4=>nO<|t4.mut
       .obtain⟨q1,q2⟩:=Kh.ret Oj hx.o0 fz
        exact k _ _ q1 q2
      |false=>
       rw[hl,Xx Xa]at e5
       refine ao λnO=>?_
       obtain⟨⟨S',ρ'⟩,e7,e5⟩:=bind_some e5
       refine nO ?_
       refine j7 ⟨λbT H'=>∃S ρ,LS X.K H₀ ae a as S bT H' ρ/\jr ρ x=true/\gw (js F x y r f c2 m c3 p q u g w) y i S ρ=some T',λbT H' h=>⟨i,YW i,h⟩,?_⟩
       exact Kh.turn Oj Tb Aa e6 Nd Nf e7 λbT H' L3 QY=>⟨S',ρ',L3,QY,e5⟩
    .cases hd
   |_=>cases hd
  .cases hd
end
section
variable {X:Cx}{c e:Expr}{st:Stmt}{pos px:Pos}{x:Str}{i:Nat}
def Ni(hi:X.N[i]?=some x)(hv:xh X.env.scope x)(D0:(x==("__debug__":Str))=false)(nV:(x==("__classdict__":Str))=false)(hl:(ap.endLine==cp.line)=true)(he:PE X e (tV X.K false f))(hn:bI e=true):
  PS X (.Expr (.Call (.Attribute (.Name x px) "append" ap) [e] [] cp) pos) (tC X.K λρ=>(f ρ).bind λd=>match ρ[i]? with
   |some (some (true,.lst xs))=>if xs.length<bj then some (.next (put ρ i true (.lst (xs++[d])))) else none
   |_=>none):=
 (pK (zh Ze PySem.F.slot_list_append PySem.F.type_list_append oA (bL hi hv D0 nV) (cw he eO (bV hn)) rfl (by rw[bV hn];rfl) hl (bV hn) rfl) rfl).weak λD' σ H zz=>by
  refine ao λnO=>qR zz λH₀ ae Z kv kd ow ρ out hx hd k=>ab (bind_some hd) λd e1 hd=>nO ?_
  split at hd
  .rename_i xs FW
   split at hd
   .rename_i hz
    refine ao λnO=>?_
    cases hd
    refine ab (hx.own i _ FW) λa o2 o1=>?_
    have o1:ow i=some a:=o1.elim (λz=>z.2) λz=>nomatch z.1
    refine ab (hx.ex.kU i true _ FW) λw' q1 q2=>bF q2 λa' e6 e8 c0=>ab c0.lst λvs e9 wm=>?_
    rw[o2]at q1
    cases q1
    cases e6
    refine nO ?_
    refine⟨.ref a,o2,.inl ⟨rfl,vs,dI.of e9⟩,Os ae ow,ρ,d,hx.ex,e1,λv H1 s1 r1=>?_⟩
    have sL:=hx.mono s1
    have Oq:=s1 _ _ e9
    refine⟨a,vs,v,rfl,rfl,Oq,?_,?_⟩
    .rw[cz,wm.length];exact hz
    .exact k ow _ _ (sL.wr o1 o2 Oq ((wm.mono s1).append (.cons r1.own .nil)))
   .cases hd
  .cases hd
end
structure Cs(X:Cx)(G:GT)(F:FT):Prop where
 ct:Ct X G F
 fn:∀x,X.fn x=true
 nd:X.N.Nodup
 pass:PassesOwn (model X.prog X.w) X.A X.env X.xe
structure cO(G:GT)(F:FT)(c:C):Prop where
 s:∀X,Cs X G F->∀st,qy G c X.N X.env.scope st=true->PS X st (tC X.K (ex F c))
 ss:∀X,Cs X G F->∀tU,iA G c X.N X.env.scope tU=true->lH X tU (tC X.K (ex F c))
section
variable {G:GT}{F:FT}
def cO.gp(s:∀X,Cs X G F->∀st,qy G c X.N X.env.scope st=true->PS X st (tC X.K (ex F c)))(n:∀N sc tU,iA G c N sc tU=false:=by intro _ _ _;rfl):cO G F c:=⟨s,λX hC tU h=>absurd h (by rw[n];exact Xa)⟩
def D_:cO G F .skip where
 s:=λX hC st h=>ff h
 ss:=λX hC tU h=>by
  cases tU with
  |nil=>exact IE
  |cons _ _=>exact ff h
def IV(ha:cO G F a)(hb:cO G F b):cO G F (.seq a b) where
 s:=λX hC st h=>ff h
 ss:=λX hC tU h=>by
  cases tU with
  |nil=>exact ff h
  |cons s r=>
   change (qy G a X.N X.env.scope s&&iA G b X.N X.env.scope r)=true at h
   simp only[W7]at h
   exact M6 (ha.s X hC s h.1) (hb.ss X hC r h.2)
def wu{el:Expr}{gs:List Comprehension}{gE:Scope}{p px pos:Pos}{x:Str}{env:PySem.Env}(hs:¬swapsWith (.ListComp el gs gE p) (some (.Name x px)) pos.line env=pure false):env.scope.names.lookup x=some .local /\swapsWith (.ListComp el gs gE p) (some (.Name x px)) pos.line env=pure true:=by
 have e0:swapsWith (.ListComp el gs gE p) (some (.Name x px)) pos.line env=pure (env.blockKind == .function&&env.kindOf x==some .local&&px.line==p.line
   && !(gE.names.any λ(n,k)=>n==x&&(k == .local||k == .cell))):=rfl
 cases eb:(env.blockKind == .function&&env.kindOf x==some .local&&px.line==p.line&&!(gE.names.any λ(n,k)=>n==x&&(k == .local||k == .cell)))with
 |false=>rw[eb]at e0;exact absurd e0 hs
 |true=>
  rw[eb]at e0
  simp only[W7]at eb
  exact⟨eq_of_beq eb.1.1.2,e0⟩
def IW:cO G F (.asg i e):= .gp λX hC st h=>by
 refine nI (g_ (st:=st) h) λx px v pos ah hb=>?_
 subst ah
 replace h:=hb
 simp only[W7,decide_eq_true_eq,Z2]at h
 obtain⟨⟨⟨h1,h2⟩,h3⟩,h4⟩:=h
 exact M7 hC.nd h1 (gG h2) (hC.fn _) ((snd e).e X hC.ct v h3 false) (mW h4)
def Ea:cO G F (.cU i e):= .gp λX hC st h=>by
 refine nI (g_ (st:=st) h) λx px v pos ah hb=>?_
 subst ah
 replace h:=hb
 simp only[W7,decide_eq_true_eq]at h
 obtain⟨⟨⟨⟨h1,h2⟩,h3⟩,h4⟩,h0⟩:=h
 by_cases hs:swapsWith v (some (.Name x px)) pos.line X.env=pure false
 .exact pv (j4 hC.nd h1 (gG h2) ((snd e).f X hC.ct v h3 h4) hs (.inl (hC.fn _))) (λσ H Q z=>z)
 .have hv:fY v=true:=by
   cases z:fY v with
   |true=>rfl
   |false=>exact absurd (mW z) hs
  rw[hv]at h0
  cases e with
  |comp fr tg it ifs dQ=>
   refine R4 (pb h3) λel n q iter fs gE p cQ n8 QH Of h5 h6 h7=>?_
   subst cQ
   subst n8
   have e0:=wu hs
   refine pv (mi ((snd it).i X hC.ct _ iter h5 true) (qt Of).1 hC.ct.calm Og (mU hC.ct (snd it) (snd ifs) (snd dQ) Of h5 h6 h7) (dP QH) hC.nd h1 e0.1 e0.2) (λσ H Q z=>?_)
   exact oT MP σ H Q (wk σ H Q z)
  |_=>exact ff h0
def Eb:cO G F (.mr i ix e):= .gp λX hC st h=>by
 refine lG (jM (st:=st) h) λFV v pos zr h=>ab (bS h) λo aK h=>lG (jL h) λn k p2 cQ h=>eW (cF h) λx px n8 df=>?_
 subst zr aK cQ n8
 simp only[W7,decide_eq_true_eq]at df
 obtain⟨⟨⟨⟨⟨h1,h2⟩,h3⟩,h4⟩,h5⟩,h6⟩:=df
 exact IF h1 (ky h2) (cA h3).1 (cA h3).2 ((snd ix).e X hC.ct _ h4 false) h5 ((snd e).e X hC.ct v h6 false)
def IX:cO G F (.app i e):= .gp λX hC st h=>by
 refine eW (ku (st:=st) h) λex pos zr h=>JO (fG h) λo m ap as cp aK h=>ab (bS h) λv cQ h=>eW (cF h) λx px n8 df=>?_
 subst zr aK cQ n8
 simp only[W7,decide_eq_true_eq]at df
 obtain⟨⟨⟨⟨⟨⟨h1,h2⟩,h3⟩,rfl⟩,h4⟩,h5⟩,h6⟩:=df
 exact Ni h1 (ky h2) (cA h3).1 (cA h3).2 h4 ((snd e).e X hC.ct _ h5 false) h6
def AX:cO G F (.ret e):= .gp λX hC st h=>by
 cases st with
 |Return o pos=>
  cases o with
  |none=>exact ff h
  |some v=>
   have h:bx G e X.N X.env.scope v=true:=h
   cases e with
   |var i=>
    cases v with
    |Name x px=>
     change (decide (X.N[i]?=some x)&&qm X.env.scope x&&x_ x)=true at h
     simp only[W7,decide_eq_true_eq]at h
     obtain⟨⟨h1,h2⟩,h3⟩:=h
     exact IG h1 (ky h2) (cA h3).1 (cA h3).2
    |_=>exact ff h
   |_=>exact M8 ((snd _).e X hC.ct v h false)
 |_=>exact ff h
def IY:cO G F (.Lm i e):= .gp λX hC st h=>sR (it:= .it (.var i)) (g:=ex F (.ret e)) ((AX (e:=e)).s X hC st h)
def IZ(ht:cO G F t)(hu:cO G F u):cO G F (.ifs c t u):= .gp λX hC st h=>by
 cases st with
 |If x a b pos=>
  change (bx G c X.N X.env.scope x&&DA c&&iA G t X.N X.env.scope a&&iA G u X.N X.env.scope b)=true at h
  simp only[W7]at h
  obtain⟨⟨⟨h1,h2⟩,h3⟩,h4⟩:=h
  exact QS ((snd c).t X hC.ct x h1 h2) (ht.ss X hC a h3) (hu.ss X hC b h4)
 |_=>exact ff h
def AY(hb:cO G F b):cO G F (.while c b):= .gp λX hC st h=>by
 cases st with
 |While x a o pos=>
  change (o.isEmpty&&bx G c X.N X.env.scope x&&DA c&&iA G b X.N X.env.scope a)=true at h
  simp only[W7]at h
  obtain⟨⟨⟨h0,h1⟩,h2⟩,h3⟩:=h
  cases o with
  |cons _ _=>exact ff h0
  |nil=>exact D1 hC.pass ((snd c).t X hC.ct x h1 h2) (hb.ss X hC a h3) iD
 |_=>exact ff h
def Tc(hC:Ct X G F)(h:IB G it X.N X.env.scope qS iter=true):PI X qS iter (tI X.K false (lA F false it)):=by
 cases it with
 |CH a=>
  cases qS with
  |Tuple es k p=>
   refine nI (jN (e:=iter) h) λx q a0 cp zr df=>?_
   subst zr
   simp only[W7,decide_eq_true_eq]at df
   obtain⟨⟨⟨rfl,h1⟩,h2⟩,h3⟩:=df
   exact MN (fH h1) (hC.mg _ (by simp[iW])) ((snd a).e X hC _ h2 false) (bV h3)
  |_=>exact ff h
 |_=>exact(snd _).i X hC _ iter h false
def I8:ex F (.for is tg it b)=λρ=>(λρ=>(lA F false it ρ).bind λxs=>aO (λy ρ=>((aG tg y).bind (dq ρ is)).bind (ex F b)) xs ρ) (du it ρ):=by
 funext ρ
 have e:(λ(x:D) (ρ:Env)=>(aG tg x).bind λys=>(dq ρ is ys).bind λρ'=>ex F b ρ')=λy ρ=>((aG tg y).bind (dq ρ is)).bind (ex F b):=by
  funext y ρ
  cases aG tg y<;>rfl
 show(lA F false it (du it ρ)).bind (λxs=>aO (λx ρ=>(aG tg x).bind λys=>(dq ρ is ys).bind λρ'=>ex F b ρ') xs (du it ρ))=_
 rw[e]
def I9(hb:cO G F b):cO G F (.for is tg it b):= .gp λX hC st h=>by
 cases st with
 |For qS iter a o pos=>
  change (o.isEmpty&&fW iter&&iA G b X.N X.env.scope a&&IA X.N X.env.scope is tg qS&&IB G it X.N X.env.scope qS iter)=true at h
  simp only[W7]at h
  obtain⟨⟨⟨⟨h0,h1⟩,h2⟩,h3⟩,h4⟩:=h
  cases o with
  |cons _ _=>exact ff h0
  |nil=>
   rw[I8]
   refine sR (it:=it) (g:=λρ=>(lA F false it ρ).bind λxs=>aO (λy ρ=>((aG tg y).bind (dq ρ is)).bind (ex F b)) xs ρ) ?_
   unfold IA at h3
   cases qS with
   |Name x p=>
    simp only[W7,decide_eq_true_eq]at h3
    obtain⟨⟨rfl,h5⟩,h6⟩:=h3
    obtain⟨i,rfl⟩:∃i,is=[i]:=by
     cases is with
     |nil=>cases h6
     |cons i t=>cases t with|nil=>exact⟨i,rfl⟩|cons _ _=>cases h6
    unfold fZ at h5
    simp only[W7,decide_eq_true_eq]at h5
    exact FX (setT:=λρ d=>some (put ρ i false d)) hC.pass hC.ct.calm (lI hC.nd h5.1.1 (gG h5.1.2) (.inl (hC.fn _))) D2 (Tc hC.ct h4) (hb.ss X hC a h2) (dP h1)
   |Tuple es k p=>
    simp only[W7,decide_eq_true_eq]at h3
    obtain⟨⟨rfl,h5⟩,h6⟩:=h3
    refine cS (pz hC.nd hC.fn h6) λq1 q2 q3=>?_
    have jB:0<is.length:=by
     cases is with
     |nil=>
      unfold fZ at h6
      rw[h6]at h5
      cases h5
     |cons _ _=>exact Nat.succ_pos _
    exact FX hC.pass hC.ct.calm (Ht hC.ct.calm q1 q2 q3) (II jB) (Tc hC.ct h4) (hb.ss X hC a h2) (dP h1)
   |_=>exact ff h3
 |_=>exact ff h
def Ec:cO G F (.pW i t es):= .gp λX hC st h=>by
 refine nI (g_ (st:=st) h) λx px v pos zr df=>?_
 subst zr
 rw[W7,W7,decide_eq_true_eq]at df
 obtain⟨⟨h1,h2⟩,FR⟩:=df
 refine lG (oY FR) λks vs dp zr h=>ab (bS h) λko aK h=>ab (oZ h) λke cQ h=>ab (bS h) λwe n8 h3=>?_
 subst zr aK cQ n8
 simp only[W7,decide_eq_true_eq]at h3
 refine kP (Ay (F:=F) h3.2) λa b ah k1 _ k2 _=>?_
 subst ah
 have e0:ex F (.pW i t (.cons a (.cons b .nil)))=λρ=>if t=2 then none else((ev F false a ρ).bind λx=>(ev F false b ρ).bind λy=>(dD t x).map λz=>D.bz t [z] [y]).map λd=> .next (put ρ i true d):=by
  funext ρ
  show(if t=2 then none else((cc F false (.cons a (.cons b .nil)) ρ).bind (zu t)).map λd=>lB.next (put ρ i true d))=_
  rw[cc]
  cases ev F false a ρ with
  |none=>rfl
  |some x=>
   show(if t=2 then none else(((cc F false (.cons b .nil) ρ).bind λxs=>some (x::xs)).bind (zu t)).map λd=>lB.next (put ρ i true d))=_
   rw[cc]
   cases ev F false b ρ with
   |none=>rfl
   |some y=>rfl
 rw[e0]
 exact D5 hC.ct.units hC.nd h1 (gG h2) (hC.fn _) h3.1 ((snd a).e X hC.ct ke k1 false) ((snd b).e X hC.ct we k2 false)
def Ed:cO G F (.rA i k e):= .gp λX hC st h=>by
 refine lG (jM (st:=st) h) λFV v pos zr h=>ab (bS h) λt aK h=>lG (jL h) λo ix sp cQ df=>?_
 subst zr aK cQ
 simp only[W7,Z2]at df
 obtain⟨⟨⟨⟨h1,h2⟩,h3⟩,h4⟩,h5⟩:=df
 refine kP (cb h1) λx q ah n1 n2 n3 n4=>?_
 subst ah
 exact IK hC.ct.units n1 n2 n3 n4 ((snd k).e X hC.ct _ h2 false) ((snd e).e X hC.ct v h4 false) (λt=>mW h5)
def AZ(h:AK N sc y e=true):∃x px ap cp,e= .Call (.Attribute (.Name x px) "pop" ap) [] [] cp/\N[y]?=some x/\xh sc x/\(x==("__debug__":Str))=false/\(x==("__classdict__":Str))=false/\(ap.endLine==cp.line)=true:=by
 refine JO (fG h) λe2 nm ap as cp zr df=>?_
 subst zr
 simp only[W7,decide_eq_true_eq,aae]at df
 obtain⟨⟨⟨rfl,rfl⟩,h1⟩,h2⟩:=df
 refine kP (cb h1) λx q ah n1 n2 n3 n4=>?_
 subst ah
 exact⟨x,q,_,cp,rfl,n1,n2,n3,n4,h2⟩
def I_:cO G F (.pop i j):= .gp λX hC st h=>by
 refine nI (g_ (st:=st) h) λx px v pos ah hb=>?_
 subst ah
 replace h:=hb
 simp only[W7,decide_eq_true_eq]at h
 refine E3 (AZ h.2) λy q ap cp cQ n1 n2 n3 n4 n5=>?_
 subst cQ
 exact M9 hC.nd h.1.1 (gG h.1.2) (hC.fn _) (bL n1 n2 n3 n4) rfl n5
def Ja:cO G F (.ext i e):= .gp λX hC st h=>by
 refine eW (ku (st:=st) h) λex pos zr h=>JO (fG h) λo m ap as cp aK h=>ab (bS h) λv cQ h=>eW (cF h) λx px n8 df=>?_
 subst zr aK cQ n8
 simp only[W7,decide_eq_true_eq]at df
 obtain⟨⟨⟨⟨⟨⟨h1,h2⟩,h3⟩,rfl⟩,h4⟩,h5⟩,h6⟩:=df
 exact M_ h1 (ky h2) (cA h3).1 (cA h3).2 h4 ((snd e).e X hC.ct _ h5 false) h6
def F3(hC:Ct X G F)(h:DV G x f X.N X.env.scope e ok=true)(hw:∀w,ok w=true->PE X w tw):∃n:Nat,(∀ds d,F f ds=some d->ds.length=n)/\PE X e (IT X.K n (F f) (cP (dA x) (cP tw ma)))/\fY e=false/\bI e=true:=by
 refine nI (fF h) λn pn as cp zr h=>eW (qq h) λe1 w aK df=>?_
 subst zr aK
 simp only[W7,decide_eq_true_eq]at df
 refine ao λnO=>?_
 obtain⟨⟨⟨⟨⟨h1,h2⟩,h3⟩,h4⟩,h5⟩,h6⟩:=df
 refine kP (cb h4) λy q ah n1 n2 n3 n4=>?_
 subst ah
 exact E3 (hC.call f n h1) λk fa fd ps g5 g6 g7 g8 g9 Mk=>nO<|⟨ps.length,Mk,Ad g5 g6 (fH h2) g7 g8 g9 (cw (bL n1 n2 n3 n4) (cw (hw w h5) eO (bV h6)) rfl) (cA h3).1 rfl (by rw[bV h6];rfl),rfl,rfl⟩
def Jb{st:Stmt}(h:FU G x p q u N sc st=true):∃e1 pe qe e p1 p2 p3,st= .Assign [.Subscript (.Subscript e1 pe p1) qe p2] e p3/\(dF N sc x e1&&bx G p N sc pe&&b_ pe&&bx G q N sc qe&&b_ qe&&bx G u N sc e&&!fY e)=true:=by
 exact lG (jM h) λFV e p3 z h=>ab (bS h) λo z2 h=>lG (jL h) λo2 qe p2 z3 h=>lG (jL h) λe1 pe p1 z4 h=>⟨e1,pe,qe,e,p1,p2,p3,by rw[z,z2,z3,z4],h⟩
def Jc{st:Stmt}(h:M0 G x y g w N sc st=true):∃e2 m ap v cp pos,st= .Expr (.Call (.Attribute e2 m ap) [v] [] cp) pos/\(dF N sc y e2&&decide (m="extend")&&(ap.endLine==cp.line)&&bI v&&DV G x g N sc v (bx G w N sc))=true:=by
 exact eW (ku h) λe p z h=>JO (fG h) λo m ap as cp z2 h=>ab (bS h) λv z3 h=>⟨o,m,ap,v,cp,p,by rw[z,z2,z3],h⟩
def Nj{X:Cx}(hC:Cs X G F){x:Nat}{fr:List Nat}{it k v:E}{st:Stmt}(h:MZ G x fr it k v X.N X.env.scope st=true):PS X st (nQ (oC 1 fr (tI X.K true (lA F true it)) (cI 0) (tB X.K λ_=>some true) (so (tV X.K false (ev F false k)) (tV X.K false (ev F false v)))) (cI x)):=by
 refine nI (g_ h) λa pa e pos zr df=>?_
 subst zr
 rw[W7,W7,decide_eq_true_eq]at df
 obtain⟨⟨h1,h2⟩,FR⟩:=df
 refine nI (v_ FR) λel gs gE lp zr h=>lG (oY h) λks vs dp aK h=>ab (bS h) λko cQ h=>ab (oZ h) λke n8 h=>ab (bS h) λve MJ h=>ab (bS h) λg MK Q3=>?_
 obtain⟨qS,iter,fs,kk⟩:=g
 refine eW (cF Q3) λn q Kd Ot=>?_
 change qS=_ at Kd
 subst zr aK cQ n8 MJ MK Kd
 simp only[W7,decide_eq_true_eq,aae]at Ot
 obtain⟨⟨⟨⟨⟨⟨rfl,rfl⟩,h3⟩,h4⟩,h5⟩,h6⟩,h7⟩:=Ot
 refine cS (qt h4) λS HL nd=>have hl:=HL _ Xd;?_
 have parts:∀cl C aa s H ex,PG (ir X gE cl C (og X.N [n] fr) aa s H ex) (.Name n q) (cI 0)/\xC (ir X gE cl C (og X.N [n] fr) aa s H ex) [] (tB X.K λ_=>some true)/\PE (ir X gE cl C (og X.N [n] fr) aa s H ex) (.Dict [some ke] [ve] dp) (so (tV X.K false (ev F false k)) (tV X.K false (ev F false v))):=λcl C aa s H ex=>by
  have Kf:=hC.ct.inner gE cl C (og X.N [n] fr) aa s H ex
  refine⟨lI nd rfl (qr hl).1 (qr hl).2,Ap,Dm ?_ ((snd k).e _ Kf ke h6 false) ((snd v).e _ Kf ve h7 false)⟩
  have:=Kf.units
  lia
 by_cases hs:swapsWith (.ListComp (.Dict [some ke] [ve] dp) [⟨.Name n q,iter,[],0⟩] gE lp) (some (.Name a pa)) pos.line X.env=pure false
 .exact j4 hC.nd h1 (gG h2) (vt ((snd it).i X hC.ct _ iter h5 true) S hC.ct.calm Og parts (dP h3)) hs (.inl (hC.fn _))
 .have e0:=wu hs
  exact mi ((snd it).i X hC.ct _ iter h5 true) S hC.ct.calm Og parts (dP h3) hC.nd h1 e0.1 e0.2
def Jd(h1:cO G F c1)(h2:cO G F c2)(h3:cO G F c3):cO G F (.fst x fr it k v c1 y r f c2 m c3 p q u g w) where
 s:=λX hC st h=>ff h
 ss:=λX hC tU h=>by
  refine qU (IC h) λs1 s2 s3 s4 ah o1 o2 oW oR=>?_
  subst ah
  refine NO (DX oW) λe2 sr s5 sI wp aK o3 o4 o5 oI=>?_
  subst aK
  refine NO (DW oI) λem s6 ss se ip cQ o6 o7 o8 o9=>?_
  subst cQ
  refine eW (DY oR) λe1 rp n8 VY=>?_
  subst n8
  refine kP (cb o3) λyn yq MJ y1 y2 y3 y4=>?_
  subst MJ
  refine kP (cb o6) λmn mq MK m1 m2 m3 m4=>?_
  subst MK
  refine kP (cb VY) λxn xq Kd x1 x2 x3 x4=>?_
  subst Kd
  have Pr:∃n1,(∀ds d,F f ds=some d->ds.length=n1)/\PS X sr (nQ (IT X.K n1 (F f) (cP (dA x) (cP (D9 y) ma))) (cI r)):=by
   refine nI (g_ (st:=sr) o4) λxr pr e pos QG hb=>?_
   subst QG
   replace o4:=hb
   simp only[W7,decide_eq_true_eq]at o4
   obtain⟨n,g1,g2,g3,_⟩:=F3 hC.ct o4.2 (tw:=D9 y) λw hw=>by
    refine E3 (AZ hw) λyy q ap cp H_ n1 n2 n3 n4 n5=>?_
    subst H_
    exact AQ (bL n1 n2 n3 n4) rfl n5
   exact⟨n,g1,j4 hC.nd o4.1.1 (gG o4.1.2) g2 (mW g3) (.inl (hC.fn _))⟩
  refine ab Pr λn1 Nd Pr=>?_
  have Ps:PS X ss (vB (E9 (Cw X.K) (dA x) (tV X.K false (ev F false p))) (tV X.K false (ev F false q)) (tV X.K false (ev F false u))):=by
   obtain⟨e1,pe,qe,e,p1,p2,p3,rfl,Td⟩:=Jb o8
   simp only[W7,Z2]at Td
   obtain⟨⟨⟨⟨⟨⟨t1,t2⟩,t3⟩,t4⟩,t5⟩,t6⟩,t7⟩:=Td
   refine kP (cb t1) λxx q' Ia n1 n2 n3 n4=>?_
   subst Ia
   exact vD (by have:=hC.ct.units;lia) (Fm vp (bL n1 n2 n3 n4) ((snd p).e X hC.ct _ t2 false) (mQ t3)) ((snd q).e X hC.ct _ t4 false) ((snd u).e X hC.ct _ t6 false) (mW t7)
  have Pe:∃n2,(∀ds d,F g ds=some d->ds.length=n2)/\PS X se (vg (NZ X.K "list" (Ae X.K) (dA y) (cP (IT X.K n2 (F g) (cP (dA x) (cP (tV X.K false (ev F false w)) ma))) ma))):=by
   obtain⟨e2,m,ap,v,cp,pos,rfl,Te⟩:=Jc o9
   simp only[W7,decide_eq_true_eq]at Te
   obtain⟨⟨⟨⟨t1,rfl⟩,t3⟩,t4⟩,t5⟩:=Te
   refine kP (cb t1) λyy q' Ib n1 n2 n3 n4=>?_
   subst Ib
   exact B8 (F3 hC.ct t5 (tw:=tV X.K false (ev F false w)) λwe hw=>(snd w).e X hC.ct we hw false) λn g1 g2 _ _=>⟨n,g1,pK (zh Ze aaK aaL Af (bL n1 n2 n3 n4) (cw g2 eO (bV t4)) rfl (by rw[bV t4];rfl) t3 (bV t4) rfl) rfl⟩
  exact ab Pe λn2 Nf Pe=>Nh hC.pass Nd Nf (Nj hC o1) (h1.s X hC s2 o2) (rh (bL y1 y2 y3 y4) λ_=>rfl) Pr (h2.s X hC s5 o5) (rh (bL m1 m2 m3 m4) λ_=>rfl) (h3.s X hC s6 o7) Ps Pe (bL x1 x2 x3 x4) iD
def Q4(c:C):cO G F c:=by
 induction c with
 |skip=>exact D_
 |seq a b ha hb=>exact IV ha hb
 |asg i e=>exact IW
 |cU i e=>exact Ea
 |mr i ix e=>exact Eb
 |app i e=>exact IX
 |ret e=>exact AX
 |Lm i e=>exact IY
 |ifs c t u ht hu=>exact IZ ht hu
 |«while» c b hb=>exact AY hb
 |«for» is tg it b hb=>exact I9 hb
 |pW i t es=>exact Ec
 |rA i k e=>exact Ed
 |pop i j=>exact I_
 |ext i e=>exact Ja
 |fst x fr it k v c1 y r f c2 m c3 p q u g w h1 h2 h3=>exact Jd h1 h2 h3
end
structure A0(K:PySem.W.Frag)(mg:Str->Option Value)(G:GT)(x:Str)(d:Fd):Prop where
 ex:∃(st:Stmt) (fa:Addr) (fd:FuncData) (N ps:List Str),Fo K x x st fa fd/\gS N ps (ay st)/\Binds K fd ps []/\mg x=some (.ref fa)/\iA G d.body N (ay st) (bU st)=true/\ps.length=d.par/\N.length=d.kU
def A1{K:PySem.W.Frag}{H:Hp}{O:Addr->Prop}{vs:List V}{ds:List D}{N:List Str}{d:Fd}(hO:∀a,O a->∃u,H a=some u/\sv u)(r:au K O H vs ds)(h1:ds.length=d.par)(h2:N.length=d.kU):SX K H O (λ_=>False) [] [] (λ_=>none) (start N vs) H (ai d ds):=by
 have hl:=r.length
 have sub:∀a,Os O (λ_=>none) a->O a:=λa z=>z.elim id λ⟨_,z⟩=>nomatch z
 have nm:∀(i:Nat) (o:Bool) (dd:D),(ai d ds)[i]?=some (some (o,dd))->o=false/\ds[i]?=some dd:=λi o dd hi=>by
  unfold ai at hi
  by_cases bJ:i<ds.length
  .rw[XZ (by simpa using bJ),Xn]at hi
   refine ab (map_some hi) λy e1 e2=>?_
   cases e2
   exact⟨rfl,e1⟩
  .rw[X4 (by simpa using bJ),aaP]at hi
   split at hi<;>cases hi
 refine⟨⟨λa ha=>hO a (sub a ha),λi o dd hi=>?_⟩,λi dd hi=>?_,λi j a h _=>(nomatch h),λi a h=>(nomatch h),af.refl _,.nil,λa ha=>let ⟨us,e,_⟩:=hO a ha;⟨_,e⟩,?_⟩
 .obtain⟨rfl,e⟩:=nm i o dd hi
  refine ab (r.get e) λv e1 e2=>⟨v,?_,br.weak e2 sub⟩
  unfold L2.start
  have bJ:i<vs.length:=(Xu.mp e1).1
  rw[XZ (by simpa using bJ),Xn,e1]
  rfl
 .exact absurd (nm i true dd hi).1 (by decide)
 .unfold ai L2.start
  simp only[Xk,Xb,Zj]
  lia
def wx(P:Program)(w:World)(K:PySem.W.Frag)(mg:Str->Option Value)(base:Heap)(G:GT)(T:List Fd)(n:Nat):Prop:=
 ∀(f:Nat) (x:Str),G.1[f]?=some x->∃(fa:Addr) (fd:FuncData) (ps:List Str),jf P w K mg base xA n fa fd ps (vW K ps.length (run T n f))/\mg x=some (.ref fa)/\PySem.W.keepIn K (.ref fa)=true/\Binds K fd ps []/\∀ds d,run T n f ds=some d->ds.length=ps.length
section
variable {P:Program}{w:World}{K:PySem.W.Frag}{mg:Str->Option Value}{base:Heap}{G:GT}{T:List Fd}
def sU(hT:T[f]?=some d)(z:run T (n+1) f ds=some r):ds.length=d.par/\out (ex (run T n) d.body (ai d ds))=some r:=by
 unfold run at z
 rw[hT]at z
 dsimp only at z
 split at z
 .rename_i q;exact⟨q,z⟩
 .cases z
def A2{n f:Nat}{x:Str}{st:Stmt}{fa:Addr}{fd:FuncData}{N ps:List Str}{d:Fd}(hb:∀x∈iW,mg x=none)(vj:∀(x:Str) (i:Int),(x,i)∈G.2->∃t,mg x=some (.int i t))(ih:wx P w K mg base G T n)(F:Fo K x x st fa fd)(S:gS N ps (ay st))(hT:T[f]?=some d)
  (ok:iA G d.body N (ay st) (bU st)=true) (l1:ps.length=d.par) (l2:N.length=d.kU):jf P w K mg base xA (n+1) fa fd ps (vW K ps.length (run T (n+1) f)):=by
 refine F.ok S (λvs H Q E z=>?_) (λeY A outer s H vs Q E hr z=>?_)
 .exact tW z λ_ _ _ _ _ _ q _=>q
 .refine tW z λO ds r hO hR Dt hl k=>?_
  obtain⟨q1,q2⟩:=sU hT Dt
  have VZ:Cs (uc xA P w K mg base N x (ay st) fa eY A outer s H E).KL G (run T n):=by
   refine⟨⟨rfl,hr.units,hb,vj,λg y hy=>?_⟩,λ_=>rfl,S.nd,PassesOwn.never⟩
   exact tW (ih g y hy) λga gd V0 G1 G2 G3 G4 G5=>⟨n,ga,gd,V0,G1,hr,G2,G3,G4,G5⟩
  cases eo:ex (run T n) d.body (ai d ds)with
  |none=>rw[eo]at q2;cases q2
  |some o=>
   rw[eo]at q2
   refine⟨tC K (ex (run T n) d.body),(Q4 d.body).ss _ VZ _ ok,H,O,λ_=>False,[],[],λ_=>none,ai d ds,o,A1 hO hR q1 l2,eo,?_⟩
   cases o with
   |ret dd=>cases q2;exact k
   |next ρ'=>cases q2;exact λow σ H' sj=>k .dj H' sj.same .dj
   |brk _=>cases q2
   |cont _=>cases q2
def uQ(P:Program)(w:World)(K:PySem.W.Frag)(mg:Str->Option Value)(base:Heap)(G:GT)(T:List Fd)(f:Nat)(x:Str):Prop:=
 ∃(fa:Addr) (fd:FuncData) (ps:List Str),mg x=some (.ref fa)/\PySem.W.keepIn K (.ref fa)=true/\Binds K fd ps []/\(∀n ds d,run T n f ds=some d->ds.length=ps.length)/\
  ∀n,(∀m,m<=n->wx P w K mg base G T m)->jf P w K mg base xA (n+1) fa fd ps (vW K ps.length (run T (n+1) f))
def A0.step(hb:∀x∈iW,mg x=none)(vj:∀(x:Str) (i:Int),(x,i)∈G.2->∃t,mg x=some (.int i t))(hT:T[f]?=some d)(h:A0 K mg G x d):uQ P w K mg base G T f x:=by
 refine ao λnO=>?_
 obtain⟨st,fa,fd,N,ps,F,S,B,m,ok,l1,l2⟩:=h
 refine nO ?_
 refine⟨fa,fd,ps,m,F.kp,B,λn ds r z=>?_,λn ih=>?_⟩
 .cases n with
  |zero=>exact nomatch z
  |succ n=>exact(sU hT z).1.trans l1.symm
 .exact A2 hb vj (ih n (Xf _)) F S hT ok l1 l2
def Ee(h:∀(f:Nat) (x:Str),G.1[f]?=some x->uQ P w K mg base G T f x)(n:Nat):wx P w K mg base G T n:=by
 have all:∀n m:Nat,m<=n->wx P w K mg base G T m:=by
  intro n
  induction n with
  |zero=>
   intro m hm f x hx
   obtain rfl:m=0:=by lia
   refine tW (h f x hx) λfa fd ps mm kp B l _=>?_
   have no:∀vs H Q E,¬vW K ps.length (run T 0 f) vs H Q E:=λvs H Q E z=>by
    refine Km z λ_ _ _ _ _ z _=>?_
    cases z
   exact⟨fa,fd,ps,⟨λvs H Q E z=>absurd z (no vs H Q E),λA outer s H args us vs Q E _ _ _ _ z=>absurd z (no vs H Q E)⟩,mm,kp,B,λds d z=>nomatch z⟩
  |succ n ih=>
   intro m hm
   by_cases he:m=n+1
   .subst he
    intro f x hx
    exact tW (h f x hx) λfa fd ps mm kp B l st=>⟨fa,fd,ps,st n ih,mm,kp,B,l (n+1)⟩
   .exact ih m (by lia)
 exact all n n (Xf _)
end
def Je{K:PySem.W.Frag}{T:List Fd}{n f m:Nat}(h:∀ns:List Int,ns.length<=m->run T n f [.lst (ns.map .int)]=some (.bl true))(H:Hp)(a:Addr)(ns:List Int)(hl:ns.length<=m)(hS:dI K H a (ns.map V.int)):
  vW K 1 (run T n f) [.ref a] H (λv _=>v= .bl true) λ_ _ _=>False:=by
 refine⟨λ_=>False,[.lst (ns.map .int)],.bl true,λ_ z=>z.elim,.cons ?_ .nil,h ns hl,rfl,λv H' _ r=>r.uH⟩
 rcases hS with hS|hS
 .exact .lst hS id (dN ns)
 .exact .mod hS (dN ns)
def Nk{l:PySem.W.OpenLaw}{q:Program}{loose:List Str}{XP:(Str->Option Value)->Heap->Prop}{YP:World->Heap->Prop}{d:DefRec}{K:Params->PySem.W.Frag}{x:Str}{T:List Fd}{n f:Nat}(hn:l.most=some 63)(K':d.params.defaults=[])(V1:n<=65)
  (hY:∀(w:World) (h:Heap),YP w h->(K w.params).In h)
  (F:∀(w:World) (mg:Str->Option Value) (fa:Addr) (h:Heap),(K w.params).In h->h.Ns mainGlobals mg->mg d.name=some (.ref fa)->
   ∃fd:FuncData,(∀(s:Shared) (u:Value),BindsTo s fd ⟨[u],[]⟩ [(x,u)])/\∀base:Heap,(K w.params).In base->base.Ns mainGlobals mg->jf l.prog w (K w.params) mg base xA n fa fd [x] (vW (K w.params) 1 (run T n f)))
  (hT:∀ns:List Int,ns.length<=63->run T n f [.lst (ns.map .int)]=some (.bl true)):
  PySem.W.WalkO q loose XP YP l.row.toRowW d [] (λf vs=>PySem.call f vs):=
 L2.CA (n:=63) (k:=n) (x:=x) (CX:=λ_=>xA) (sp:=λw=>vW (K w.params) 1 (run T n f)) hn (by decide) K' (eN.mono (k:=65) ⟨rfl,by decide,by decide⟩ V1) hY F (λw H a ns hl _ hS=>Je hT H a ns hl hS) λ_ _ _ _ _ z=>z
def Nl(h:l.length=1):∃a,l=[a]:=by
 cases l with
 |nil=>cases h
 |cons a l=>cases l with
  |nil=>exact⟨a,rfl⟩
  |cons _ _=>cases h
def Nm(h:l.length=2):∃a b,l=[a,b]:=by
 cases l with
 |nil=>cases h
 |cons a l=>
  obtain⟨b,rfl⟩:=Nl (Nat.succ.inj h)
  exact⟨a,b,rfl⟩
def Q5(h:l.length=3):∃a b c,l=[a,b,c]:=by
 cases l with
 |nil=>cases h
 |cons a l=>
  refine E2 (Nm (Nat.succ.inj h)) λb c ah=>?_
  subst ah
  exact⟨a,b,c,rfl⟩
end Py
namespace Py
noncomputable def mZ:Fd:=⟨2,2,(.seq (.ifs (.cmp .Lt (.var 1) (.prim .len (.u 0))) (.seq (.ret (.idx (.var 0) (.var 1))) .skip) .skip) (.seq (.ret (.c (.int 0))) .skip))⟩
noncomputable def wy(g:Nat):Fd:=⟨2,3,(.seq (.asg 2 (.bin .Mod (.bin .Mult (.bin .Add (.bin .Add (.call g (.w 0 (.u 1))) (.bin .Mult (.c (.int 7919)) (.var 1))) (.c (.int 1))) (.c (.int 48271))) (.c (.int 2147483647)))) (.seq (.ret (.bin .Mod (.bin .Add (.bin .Add (.bin .Mult (.var 2) (.var 2)) (.bin .Mult (.c (.int 7)) (.var 2))) (.var 1)) (.c (.int 2147483629)))) .skip))⟩
noncomputable def lO:Fd:=⟨2,3,(.seq (.asg 2 (.bin .Mod (.bin .Mult (.bin .Add (.bin .Add (.var 0) (.bin .Mult (.c (.int 104729)) (.var 1))) (.c (.int 17))) (.c (.int 69621))) (.c (.int 2147483647)))) (.seq (.ret (.bin .Mod (.bin .Add (.bin .Add (.bin .Mult (.var 2) (.var 2)) (.bin .Mult (.c (.int 3)) (.var 2))) (.var 1)) (.c (.int 2147483629)))) .skip))⟩
noncomputable def kC(ns:List Int):D:= .lst (ns.map .int)
noncomputable def cell(ns:List Int)(k:Nat):Int:=ns[k]?.getD 0
noncomputable def sV(c k:Int):Int:=(c+7919*k+1)*48271%2147483647
noncomputable def m5(ns:List Int)(k:Nat):Int:=(sV (cell ns k) k*sV (cell ns k) k+7*sV (cell ns k) k+k)%2147483629
noncomputable def gI(a k:Int):Int:=(a+104729*k+17)*69621%2147483647
noncomputable def drawn(a k:Int):Int:=(gI a k*gI a k+3*gI a k+k)%2147483629
def A3(ns:List Int)(k:Nat):0<=m5 ns k:=Yj _ (by decide)
def A4(a k:Int):0<=drawn a k:=Yj _ (by decide)
def aE(h:T[f]?=some d)(hl:xs.length=d.par):run T (n+1) f xs=out (ex (run T n) d.body (ai d xs)):=by
 rw[run,h]
 exact Xs hl
def Ef(ns:List Int)(k:Nat):out (ex F mZ.body (ai mZ [kC ns,.int k]))=some (.int (cell ns k)):=by
 by_cases h:k<ns.length
 .have h':(k:Int)<(ns.length:Int):=by lia
  simp[mZ,bP,ju,mz,xF,jt,vC,nY,rF,j8,cc,ai,out,rd,prim,seq,kC,cmp,eX,h,h',item,cu,cell]
 .have h':¬(k:Int)<(ns.length:Int):=by lia
  simp[mZ,bP,ju,mz,xF,jt,vC,nY,rF,j8,cc,ai,out,rd,prim,seq,kC,cmp,eX,h,h',item,cu,cell]
def lP(i:Int)(h1: -(2 ^ 64)<j)(h2:j<2 ^ 64):c_ i j=true:=by
 simp[c_,h1,h2]
 right
 constructor<;>lia
def Jf(ns:List Int)(k:Nat)(hk:k<1000)(hF:F g [kC ns,.int k]=some (.int (cell ns k))):out (ex F (wy g).body (ai (wy g) [kC ns,.int k]))=some (.int (m5 ns k)):=by
 have h1:0<=sV (cell ns k) k:=Yj _ (by decide)
 have h2:sV (cell ns k) k<2147483647:=Yh _ (by decide)
 have m1:c_ 7919 (k:Int)=true:=by simp[c_]
 have m2:∀i:Int,c_ i 48271=true:=λi=>lP i (by decide) (by decide)
 have m3:c_ (sV (cell ns k) k) (sV (cell ns k) k)=true:=lP _ (by lia) (by lia)
 have m4:∀i:Int,c_ 7 i=true:=λi=>by simp[c_]
 have V2:F g [kC ns,.int k]=some (.int (cell ns k)):=hF
 simp only[wy,bP,uw,mz,jt,vC,rE,uu,cc,ai,rd,List.map,abc,YT]
 simp[V2,lz,lK,bin,m1,m2,m4,put]
 rw[show(cell ns k+7919*(k:Int)+1)*48271%2147483647=sV (cell ns k) k from rfl]
 simp[m3,out,aC,m5]
def A5(a k:Int):out (ex F lO.body (ai lO [.int a,.int k]))=some (.int (drawn a k)):=by
 have h1:0<=gI a k:=Yj _ (by decide)
 have h2:gI a k<2147483647:=Yh _ (by decide)
 have m1:c_ 104729 k=true:=by simp[c_]
 have m2:∀i:Int,c_ i 69621=true:=λi=>lP i (by decide) (by decide)
 have m3:c_ (gI a k) (gI a k)=true:=lP _ (by lia) (by lia)
 have m4:∀i:Int,c_ 3 i=true:=λi=>by simp[c_]
 simp only[lO,bP,uw,mz,jt,vC,rE,cc,ai,rd,List.map,abc,YT]
 simp[bin,m1,m2,m4,put]
 rw[show(a+104729*k+17)*69621%2147483647=gI a k from rfl]
 simp[m3,out,drawn]
noncomputable def perms:Nat->List (List Int)
 |0=>[[]]
 |n+1=>(perms n).flatMap λp=>(List.range (n+1)).map λk=>p.take k++(n:Int)::p.drop k
def pB{n:Nat}{p:List Int}(h:p∈perms n){k:Nat}(hk:k<=n):p.take k++(n:Int)::p.drop k∈perms (n+1):=
 Yu.mpr ⟨p,h,Xg.mpr ⟨k,XU.mpr (Nat.lt_succ_of_le hk),rfl⟩⟩
theorem az:∀{n:Nat}{p:List Int},p∈perms n->p.length=n
 |0,p,h=>by
  simp[perms]at h
  subst h
  rfl
 |n+1,p,h=>by
  refine ab (Yu.mp h) λq hq h=>ab (Xg.mp h) λk hk ah=>?_
  subst ah
  have:=az hq
  have Kc:=XU.mp hk
  simp
  lia
noncomputable def tp(p:List Int):D:= .tup (p.map .int)
theorem iY:∀{xs:List D}{p:List Int},aB xs=some p->xs=p.map .int
 |[],p,h=>by cases h;rfl
 | .int i::r,p,h=>by
  unfold aB at h
  cases e:aB r with
  |none=>rw[e]at h;cases h
  |some q=>
   rw[e]at h
   cases h
   rw[iY e]
   rfl
 | .dj ::r,p,h=>by cases h
 | .bl _::r,p,h=>by cases h
 | .tup _::r,p,h=>by cases h
 | .lst _::r,p,h=>by cases h
noncomputable def Eg(n:Nat):Option D->Bool
 |some (.tup xs)=>match aB xs with
  |some p=>(perms n).contains p
  |none=>false
 |_=>false
def wz{n:Nat}{o:Option D}(h:Eg n o=true):∃p∈perms n,o=some (tp p):=by
 unfold Eg at h
 split at h
 .split at h
  .rename_i xs _ p e
   exact⟨p,by simpa using h,by rw[iY e];rfl⟩
  .cases h
 .cases h
noncomputable def wA:C:=(.seq (.mr 2 (.var 3) (.var 4)) (.seq (.mr 2 (.var 4) (.var 3)) (.seq (.ret (.prim .tuple (.u 2))) .skip)))
noncomputable def Eh:C:=(.seq (.for [7] 0 (.eL (.u 5)) (.seq (.mr 2 (.bin .Mod (.bin .Add (.var 6) (.var 7)) (.var 1)) (.bin .Mod (.bin .Add (.var 6) (.bin .Mod (.bin .Add (.var 7) (.c (.int 1))) (.var 5))) (.var 1))) .skip)) (.seq (.ret (.prim .tuple (.u 2))) .skip))
noncomputable def yk(g:Nat):C:=(.seq (.asg 9 (.bin .Mod (.call g (.w 0 (.u 7))) (.bin .Add (.prim .len (.u 8)) (.c (.int 1))))) (.seq (.cU 8 (.bin .Add (.bin .Add (.sl (.var 8) .nil (.u 9)) (.lst (.u 7))) (.sl (.var 8) (.u 9) .nil))) .skip))
noncomputable def kD(g:Nat):Fd:=⟨2,10,(.seq (.cU 2 (.gW .list (.u 1))) (.seq (.ifs (.cmp .Eq (.bin .Mod (.var 0) (.c (.int 3))) (.c (.int 0))) (.seq (.asg 3 (.bin .Mod (.bin .FloorDiv (.var 0) (.c (.int 3))) (.var 1))) (.seq (.asg 4 (.bin .Mod (.bin .FloorDiv (.var 0) (.c (.int 18))) (.var 1))) wA)) .skip)
 (.seq (.ifs (.cmp .Eq (.bin .Mod (.var 0) (.c (.int 3))) (.c (.int 1))) (.seq (.asg 5 (.bin .Add (.c (.int 1)) (.bin .Mod (.bin .FloorDiv (.var 0) (.c (.int 3))) (.var 1)))) (.seq (.asg 6 (.bin .Mod (.bin .FloorDiv (.var 0) (.c (.int 18))) (.var 1))) Eh)) .skip)
 (.seq (.cU 8 (.lst .nil)) (.seq (.for [7] 0 (.eL (.u 1)) (yk g)) (.seq (.ret (.prim .tuple (.u 8))) .skip))))))⟩
noncomputable abbrev vi(i:Int):Option (Bool×D):=some (false,.int i)
noncomputable abbrev vo(xs:List D):Option (Bool×D):=some (true,.lst xs)
noncomputable def wB(a:Int)(s o1 o2:Nat):Env:=[vi a,vi s,vo (bA 0 s),vi o1,vi o2,none,none,none,none,none]
noncomputable def A6(a:Int)(s m o:Nat):Env:=[vi a,vi s,vo (bA 0 s),none,none,vi m,vi o,none,none,none]
set_option maxHeartbeats 0 in
def A7(F:FT)(a:Int):(List.range 6).all (λs=>(List.range (s+1)).all λo1=>(List.range (s+1)).all λo2=>Eg (s+1) (out (ex F wA (wB a (s+1) o1 o2))))=true:=by kernel_rfl
set_option maxHeartbeats 0 in
def Ei(F:FT)(a:Int):(List.range 6).all (λs=>(List.range (s+1)).all λm=>(List.range (s+1)).all λo=>Eg (s+1) (out (ex F Eh (A6 a (s+1) (m+1) o))))=true:=by kernel_rfl
def all_range{n:Nat}{f:Nat->Bool}(h:(List.range n).all f=true){k:Nat}(hk:k<n):f k=true:=XO.mp h k (XU.mpr hk)
def Ej(F:FT)(a:Int){s o1 o2:Nat}(h0:1<=s)(h6:s<=6)(h1:o1<s)(h2:o2<s):∃p∈perms s,out (ex F wA (wB a s o1 o2))=some (tp p):=by
 obtain⟨t,rfl⟩:∃t,s=t+1:=⟨s-1,by lia⟩
 exact wz (all_range (all_range (all_range (A7 F a) (k:=t) (by lia)) h1) h2)
def Jg(F:FT)(a:Int){s m o:Nat}(h0:1<=s)(h6:s<=6)(h1:m<s)(h2:o<s):∃p∈perms s,out (ex F Eh (A6 a s (m+1) o))=some (tp p):=by
 obtain⟨t,rfl⟩:∃t,s=t+1:=⟨s-1,by lia⟩
 exact wz (all_range (all_range (all_range (Ei F a) (k:=t) (by lia)) h1) h2)
def A8{o:Option lB}{p:List Int}(h:out o=some (tp p)):o=some (.ret (tp p)):=by
 cases o with
 |none=>cases h
 |some o=>cases o<;>cases h;rfl
noncomputable def gJ(a s:Int)(x2:Option (Bool×D))(made:List Int)(x7 x9:Option (Bool×D)):Env:=[vi a,vi s,x2,none,none,none,none,x7,vo (made.map .int),x9]
def sW(xs:List D)(k:Nat)(h:k<=xs.length):iR xs none (some (k:Int))=xs.take k:=by
 unfold iR bound
 simp only[Zy,Nat.sub_zero]
 congr 1
 rw[Xx (by lia)]
 lia
def sX(xs:List D)(k:Nat)(h:k<=xs.length):iR xs (some (k:Int)) none=xs.drop k:=by
 unfold iR bound
 simp only
 have e:(if(k:Int)<0 then max ((k:Int)+(xs.length:Int)) 0 else min (k:Int) (xs.length:Int)).toNat =k:=by
  rw[Xx (by lia)]
  lia
 rw[e,X3 (by simp)]
def A9(hF:F g [.int a,.int k]=some (.int y))(hm:made∈perms k)(hk:k<=1000):
  ∃at'≤k,ex F (yk g) (put (gJ a s x2 made x7 x9) 7 false (.int k))=some (.next (gJ a s x2 (made.take at'++(k:Int)::made.drop at') (vi k) (vi at'))):=by
 have hl:=az hm
 have WV:0<=y%((k:Int)+1):=Yj _ (by lia)
 have WW:y%((k:Int)+1)<(k:Int)+1:=Yh _ (by lia)
 obtain⟨t,ht⟩:∃t:Nat,y%((k:Int)+1)=t:=⟨(y%((k:Int)+1)).toNat,by lia⟩
 have V3:t<=k:=by lia
 refine⟨t,V3,?_⟩
 have c1:=sW (made.map .int) t (by rw[Xb];lia)
 have c2:=sX (made.map .int) t (by rw[Xb];lia)
 have jB:(0:Int)<(k:Int)+1:=by lia
 have df:(List.take t (made.map D.int)).length+1<=bj:=by
  rw[YB,Xb,hl];unfold bj;lia
 simp only[yk,bP,xF,uw,xG,CI,mz,ju,zB,jt,vC,rE,nY,pX,zA,rF,JX,uu,j8,xE,cc,Fy,gJ,put,rd,List.set_cons_succ,List.set_cons_zero,List.getElem?_cons_succ,List.getElem?_cons_zero]
 simp[hF,lz,lK,aC,bin,prim,seq,hl,jB,ht,put,rd,yE,cutD,c1,c2]
 have FR:min t k+1<=bj:=by unfold bj;lia
 have Q3:min t k+1+(k-t)<=bj:=by unfold bj;lia
 have Ot:1<=bj:=by unfold bj;lia
 simp[hl,FR,Q3,Ot]
theorem sY(hF:∀k:Nat,∃y,F g [.int a,.int k]=some (.int y)):
  ∀(m k:Nat) (made:List Int) (x7 x9:Option (Bool×D)),made∈perms k->k+m<=1000->∃p∈perms (k+m),∃Q6 Q7,aO (λx ρ=>(aG 0 x).bind λys=>(dq ρ [7] ys).bind λρ'=>ex F (yk g) ρ') (bA k m) (gJ a s x2 made x7 x9)=some (.next (gJ a s x2 p Q6 Q7))
 |0,k,made,x7,x9,hm,_=>⟨made,hm,x7,x9,rfl⟩
 |m+1,k,made,x7,x9,hm,hk=>by
  refine ao λnO=>?_
  obtain⟨y,hy⟩:=hF k
  refine ab (A9 (s:=s) (x2:=x2) (x7:=x7) (x9:=x9) hy hm (by lia)) λt ht e=>?_
  obtain⟨p,hp,Q6,Q7,e2⟩:=sY (s:=s) (x2:=x2) hF m (k+1) _ (vi k) (vi t) (pB hm ht) (by lia)
  refine nO ?_
  refine⟨p,by rw[show k+(m+1)=k+1+m by lia];exact hp,Q6,Q7,?_⟩
  rw[bA,aO]
  show(ex F (yk g) (put (gJ a s x2 made x7 x9) 7 false (.int k))).bind _=_
  rw[e]
  exact e2
def Ek(ha:0<=a)(h1:1<=s)(h6:s<=6)(hF:∀k:Nat,∃y,F g [.int a,.int k]=some (.int y)):∃p∈perms s,out (ex F (kD g).body (ai (kD g) [.int a,.int s]))=some (tp p):=by
 have hr:dn [.int s]=some (bA 0 s):=by
  show(if -(2 ^ 62)<=(s:Int)/\(s:Int)<=bj then some (bA 0 (s:Int).toNat) else none)=_
  rw[Xs ⟨by lia,by unfold bj;lia⟩]
  rfl
 have Ou:(0:Int)<s:=by lia
 have Nn:0<s:=by lia
 have q1:0<=a/3%(s:Int):=Yj _ (by lia)
 have q2:a/3%(s:Int)<s:=Yh _ Ou
 have q3:0<=a/18%(s:Int):=Yj _ (by lia)
 have q4:a/18%(s:Int)<s:=Yh _ Ou
 obtain⟨o1,e1⟩:∃t:Nat,a/3%(s:Int)=t:=⟨(a/3%(s:Int)).toNat,by lia⟩
 obtain⟨o2,e2⟩:∃t:Nat,a/18%(s:Int)=t:=⟨(a/18%(s:Int)).toNat,by lia⟩
 by_cases c0:a%3=0
 .refine ab (Ej F a h1 h6 (o1:=o1) (o2:=o2) (by lia) (by lia)) λp hp e=>⟨p,hp,?_⟩
  have e':ex F wA [vi a,vi s,vo (bA 0 s),vi o1,vi o2,none,none,none,none,none]=some (.ret (tp p)):=A8 e
  simp[kD,bP,xF,uw,xG,CI,mz,ju,zB,jt,vC,rE,nY,pX,zA,rF,JX,uu,j8,xE,cc,ai,rd,hr,ml,bin,cmp,cG,gT,eX,c0,put,Ou,Nn,e1,e2,e',out]
 .by_cases c1:a%3=1
  .refine ab (Jg F a h1 h6 (m:=o1) (o:=o2) (by lia) (by lia)) λp hp e=>⟨p,hp,?_⟩
   have e3:((o1+1:Nat):Int)=1+(o1:Int):=by lia
   have e':ex F Eh [vi a,vi s,vo (bA 0 s),none,none,vi (1+(o1:Int)),vi o2,none,none,none]=some (.ret (tp p)):=by rw[<-e3];exact A8 e
   simp[kD,bP,xF,uw,xG,CI,mz,ju,zB,jt,vC,rE,nY,pX,zA,rF,JX,uu,j8,xE,cc,ai,rd,hr,ml,bin,cmp,cG,gT,eX,c0,c1,put,Ou,Nn,e1,e2,e',out]
  .obtain⟨p,hp,x7,x9,e⟩:=sY (a:=a) (s:=s) (x2:=vo (bA 0 s)) hF s 0 [] none none (by simp[perms]) (by lia)
   rw[Yw]at hp
   refine⟨p,hp,?_⟩
   have e':aO (λx ρ=>(aG 0 x).bind λys=>(dq ρ [7] ys).bind λρ'=>ex F (yk g) ρ') (bA 0 s) [vi a,vi s,vo (bA 0 s),none,none,none,none,none,vo [],none]=some (.next (gJ a s (vo (bA 0 s)) p x7 x9)):=e
   simp[kD,bP,xF,uw,xG,CI,mz,ju,zB,jt,vC,rE,nY,pX,zA,rF,JX,uu,j8,xE,cc,lA,ai,rd,hr,ml,bin,cmp,cG,gT,eX,c0,c1,put,bj,du,e',gJ,prim,seq,out,tp]
theorem qE:∀(n:Nat) (p:List Int),p.Nodup->(∀x∈p,0<=x/\x<n)->p.length<=n
 |0,p,_,h=>by
  cases p with
  |nil=>exact Xf _
  |cons x r=>have:=h x Xd;lia
 |n+1,p,nd,h=>by
  have h1:(p.erase (n:Int)).length <=n:=qE n _ (nd.sublist List.erase_sublist) λx hx=>by
   have h2:=h x (List.mem_of_mem_erase hx)
   have h3:x≠n:=λe=>by
    subst e
    exact(List.Nodup.mem_erase_iff nd).mp hx |>.1 rfl
   lia
  by_cases hm:(n:Int)∈p
  .rw[aaM hm]at h1;lia
  .rw[List.erase_of_not_mem hm]at h1;lia
theorem ax:∀{n:Nat}{p:List Int},p∈perms n↔p.length=n/\p.Nodup/\∀x∈p,0<=x/\x<n
 |0,p=>by
  simp only[perms,Xc]
  constructor
  .rintro rfl;exact⟨rfl,List.nodup_nil,λx h=>nomatch h⟩
  .rintro⟨h,_⟩;exact List.length_eq_zero_iff.mp h
 |n+1,p=>by
  constructor
  .intro h
   refine ab (Yu.mp h) λq hq h=>ab (Xg.mp h) λk hk ah=>?_
   subst ah
   refine cS (ax.mp hq) λl nd bd=>?_
   have Kc:=XU.mp hk
   have Ov:(q.take k++q.drop k).Nodup :=by rw[Zo];exact nd
   have hn:(n:Int)∉q:=λz=>by have:=bd _ z;lia
   have nt:(n:Int)∉q.take k:=λz=>hn (YO z)
   have V4:(n:Int)∉q.drop k:=λz=>hn (YZ z)
   refine⟨by simp;lia,?_,λx hx=>?_⟩
   .rw[Yy]at Ov⊢
    refine⟨Ov.1,XR.mpr ⟨V4,Ov.2.1⟩,λa ha b hb=>?_⟩
    rcases Xl.mp hb with rfl|hb
    .exact λe=>nt (e▸ha)
    .exact Ov.2.2 a ha b hb
   .rcases Xr.mp hx with z|z
    .have:=bd x (YO z);lia
    .rcases Xl.mp z with rfl|z
     .lia
     .have:=bd x (YZ z);lia
  .rintro⟨l,nd,bd⟩
   have hm:(n:Int)∈p:=by
    by_cases hm:(n:Int)∈p
    .exact hm
    .have:=qE n p nd λx hx=>by
      have h2:=bd x hx
      have h3:x≠n:=λe=>hm (e▸hx)
      lia
     lia
   refine E2 (List.append_of_mem hm) λu v aK=>?_
   subst aK
   rw[Yy,XR]at nd
   have hq:u++v∈perms n:=by
    refine ax.mpr ⟨by simp at l⊢;lia,?_,λx hx=>?_⟩
    .rw[Yy]
     exact⟨nd.1,nd.2.1.2,λa ha b hb=>nd.2.2 a ha b (W_ _ hb)⟩
    .have sj:x∈u++(n:Int)::v:=by
      rcases Xr.mp hx with z|z
      .exact XC _ z
      .exact Xv _ (W_ _ z)
     have h2:=bd x sj
     have h3:x≠n:=λe=>by
      subst e
      rcases Xr.mp hx with z|z
      .exact nd.2.2 _ z _ Xd rfl
      .exact nd.2.1.1 z
     lia
   have:=pB hq (k:=u.length) (by simp at l;lia)
   rw[List.take_left,List.drop_left]at this
   exact this
noncomputable def comp(p q:List Int):List Int:=p.map λi=>q.getD i.toNat 0
def getD_mem{q:List Int}{k:Nat}(h:k<q.length):q.getD k 0∈q:=by
 rw[Xi,W9 h]
 exact YX h
def hZ{n:Nat}{p q:List Int}(hp:p∈perms n)(hq:q∈perms n):comp p q∈perms n:=by
 refine cS (ax.mp hp) λlp np bp=>cS (ax.mp hq) λlq nq bq=>ax.mpr ⟨by simp[comp,lp],?_,λx hx=>?_⟩
 .unfold comp
  rw[Yc]at np⊢
  rw[Yx]
  refine np.imp_of_mem λ{a b} ha hb uE e=>uE ?_
  have h1:=bp a ha
  have h2:=bp b hb
  have l1:a.toNat<q.length:=by lia
  have l2:b.toNat<q.length:=by lia
  rw[Xi,Xi,W9 l1,W9 l2]at e
  have e':q[a.toNat]=q[b.toNat]:=e
  have:=(List.getElem?_inj (j:=b.toNat) l1 nq).mp (by rw[W9 l1,W9 l2,e'])
  lia
 .refine ab (Xg.mp hx) λi hi ah=>?_
  subst ah
  have h1:=bp i hi
  exact bq _ (getD_mem (by lia))
def iZ(hp:p∈perms n)(hq:q∈perms n):comp (comp p q) r=comp p (comp q r):=by
 refine cS (ax.mp hp) λlp np bp=>cS (ax.mp hq) λlq nq bq=>?_
 unfold comp
 rw[XY]
 refine ZI λi hi=>?_
 have h1:=bp i hi
 have l1:i.toNat<q.length:=by lia
 show r.getD (q.getD i.toNat 0).toNat 0=_
 rw[Xi (l:=List.map _ q),Xn,Xi (l:=q),W9 l1]
 rfl
noncomputable def inv:List Int->Nat
 |[]=>0
 |x::r=>(r.filter λy=>decide (y<x)).length+inv r
noncomputable def bu(n:Nat):List Int:=(List.range n).map λ(k:Nat)=>Int.ofNat k
def jQ(hp:p∈perms n):comp p (bu n)=p:=by
 refine cS (ax.mp hp) λlp np bp=>?_
 unfold comp
 rw[ZI (g:=id),abB]
 intro i hi
 have h1:=bp i hi
 have l1:i.toNat<n:=by lia
 simp[bu,Xn,YE l1]
 lia
theorem dZ(h:α->D)(g:α->D)(f:D->Option (Option D)):∀xs:List α,(∀x∈xs,f (h x)=some (some (g x)))->walk f (xs.map h)=some (xs.map g)
 |[],_=>rfl
 |x::r,e=>by
  rw[Xy,walk,e x Xd]
  show(walk f (r.map h)).map _=_
  rw[dZ h g f r λy hy=>e y (W_ _ hy)]
  rfl
noncomputable def lQ:Fd:=⟨2,2,(.seq (.ret (.prim .tuple (.cons (.comp [1] 0 (.it (.var 0)) .nil (.idx (.var 1) (.var 0))) .nil))) .skip)⟩
def wC(h0:0<=i)(h1:i<q.length):item (tp q) (.int i)=some (.int (q.getD i.toNat 0)):=by
 show(cu (q.map D.int).length i).bind _=_
 unfold cu
 rw[Xs h0,Xs (by rw[Xb];exact h1)]
 show(q.map D.int)[i.toNat]?=_
 rw[Xn,Xi,W9 (by lia)]
 rfl
def sZ(hn:n<=1000)(hp:p∈perms n)(hq:q∈perms n):out (ex F lQ.body (ai lQ [tp p,tp q]))=some (tp (comp p q)):=by
 refine cS (ax.mp hp) λlp np bp=>cS (ax.mp hq) λlq nq bq=>?_
 have w:=dZ (α:=Int) D.int (λi=> .int (q.getD i.toNat 0)) (λx=>(aG 0 x).bind λys=>(fm F true .nil (inner ys [some (false,tp p),some (false,tp q)] [1])).bind λk=>if k then(ev F false (.idx (.var 1) (.var 0)) (inner ys [some (false,tp p),some (false,tp q)] [1])).map some else some none) p (λx hx=>by
  have h1:=bp x hx
  show(item (tp q) (.int x)).map some=_
  rw[wC h1.1 (by lia)]
  rfl)
 have hl:(p.map D.int).length <=bj:=by rw[Xb,lp];unfold bj;lia
 have e:ev F true (.comp [1] 0 (.it (.var 0)) .nil (.idx (.var 1) (.var 0))) [some (false,tp p),some (false,tp q)]=some (.lst ((comp p q).map .int)):=by
  show(if(p.map D.int).length <=bj then _ else _)=_
  rw[Xs hl]
  show(walk _ (p.map D.int)).map D.lst=_
  rw[w]
  simp[comp]<;>rfl
 show out ((((ev F true (.comp [1] 0 (.it (.var 0)) .nil (.idx (.var 1) (.var 0))) [some (false,tp p),some (false,tp q)]).bind _).bind _ |>.map _).bind _)=_
 rw[e]
 rfl
theorem m6:∀a b:List Int,yD (a.map .int) (b.map .int)=decide (a=b)
 |[],[]=>rfl
 |[],_::_=>rfl
 |_::_,[]=>rfl
 |x::a,y::b=>by
  show(gT (.int x) (.int y)&&yD (a.map .int) (b.map .int))=_
  rw[m6 a b]
  show((x==y)&&decide (a=b))=_
  by_cases h1:x=y
  .subst h1;simp
  .simp[h1]
def Jh(a b:List Int):gT (tp a) (tp b)=decide (a=b):=m6 a b
def A_(a:List Int)(n:Nat):cG (tp a) (n+1)=true:=gU n a
def s_(a:List Int):cG (tp a) 60=true:=A_ a 59
def Np(a b:List Int):cmp .Eq (tp a) (tp b)=some (decide (a=b)):=by
 show(if cG (tp a) 60&&cG (tp b) 60 then some (gT (tp a) (tp b)) else none)=_
 rw[s_,s_,Jh]
 rfl
theorem tf:∀(n k:Nat),bA (k:Int) n=(List.range' k n).map λ(j:Nat)=>D.int (j:Int)
 |0,k=>rfl
 |n+1,k=>by
  rw[bA,aab,Xy]
  have e:(k:Int)+1=((k+1:Nat):Int):=by push_cast;rfl
  rw[e,tf n (k+1)]
def dg(n:Nat):bA 0 n=(bu n).map .int :=by
 have:=tf n 0
 rw[show((0:Nat):Int)=0 from rfl]at this
 rw[this,bu,XY,Zx]
 rfl
def b6{n:Nat}(h:n<=1000):dn [.int n]=some (bA 0 n):=by
 show(if -(2 ^ 62)<=(n:Int)/\(n:Int)<=bj then some (bA 0 (n:Int).toNat) else none)=_
 rw[Xs ⟨by lia,by unfold bj;lia⟩]
 rfl
noncomputable def lR:Fd:=⟨1,1,(.seq (.ret (.gW .tuple (.u 0))) .skip)⟩
def A'{F:FT}{n:Nat}(h:n<=1000):out (ex F lR.body (ai lR [.int n]))=some (tp (bu n)):=by
 simp[lR,bP,mz,jt,xE,cc,ai,rd,b6 h,ml,out,dg,tp]
def dh(n:Nat):bu n∈perms n:=by
 refine ax.mpr ⟨by simp[bu],?_,λx hx=>?_⟩
 .unfold bu
  rw[Yc,Yx]
  exact(Yc.mp List.nodup_range).imp λ{a b} h e=>h (Int.ofNat.inj e)
 .refine ab (Xg.mp hx) λk hk ah=>?_
  subst ah
  have:=XU.mp hk
  exact⟨ZU k,by show(k:Int)<n;lia⟩
def m7(hp:p∈perms n):comp (bu n) p=p:=by
 refine cS (ax.mp hp) λlp np bp=>?_
 apply Yv
 intro i
 unfold comp bu
 rw[XY,Xn]
 by_cases hi:i<n
 .rw[YE hi]
  show some (p.getD i 0)=_
  rw[Xi,W9 (by lia)]
  rfl
 .rw[Xz (by simp;lia),Xz (by lia)]
  rfl
def yl{n:Nat}{p:List Int}(hp:p∈perms n){k:Int}(h0:0<=k)(h1:k<n):k∈p:=by
 refine cS (ax.mp hp) λlp np bp=>?_
 by_cases hm:k∈p
 .exact hm
 .have:=qE n (k::p) (XR.mpr ⟨hm,np⟩) λx hx=>by
   rcases Xl.mp hx with rfl|hx
   .exact⟨h0,h1⟩
   .exact bp x hx
  rw[Xt]at this
  lia
theorem tj:∀{p:List Int},k∈p->∃j,eA k p=some j
 |[],h=>nomatch h
 |n::r,h=>by
  unfold eA
  by_cases e:n=k
  .exact⟨0,Xs e⟩
  .rw[Xx e]
   obtain⟨j,hj⟩:=tj (List.mem_of_ne_of_mem (Ya e) h)
   exact⟨j+1,by rw[hj];rfl⟩
theorem tm:∀{p:List Int}{j:Nat},eA k p=some j->p[j]?=some k
 |[],_,h=>by cases h
 |n::r,j,h=>by
  unfold eA at h
  split at h
  .rename_i e;cases h;subst e;rfl
  .cases e:eA k r with
   |none=>rw[e]at h;cases h
   |some i=>rw[e]at h;cases h;simpa using tm e
theorem qF:∀{p:List Int}{j:Nat}{k:Int},p.Nodup->p[j]?=some k->eA k p=some j
 |[],_,_,_,h=>by simp at h
 |n::r,0,k,_,h=>by
  simp at h
  unfold eA
  rw[Xs h]
 |n::r,j+1,k,nd,h=>by
  have h':r[j]?=some k:=by simpa using h
  have hn:n≠k:=λe=>(XR.mp nd).1 (e▸Yq h')
  unfold eA
  rw[Xx hn,qF (XR.mp nd).2 h']
  rfl
noncomputable def ip(p:List Int):List Int:=(List.range p.length).map λ(k:Nat)=>(((eA (k:Int) p).getD 0:Nat):Int)
def kE{n:Nat}{p:List Int}(hp:p∈perms n){k:Nat}(hk:k<n):∃j:Nat,eA (k:Int) p=some j/\(ip p)[k]?=some (j:Int)/\j<n/\p[j]?=some (k:Int):=by
 refine cS (ax.mp hp) λlp np bp=>?_
 obtain⟨j,hj⟩:=tj (yl hp (k:=(k:Int)) (by lia) (by lia))
 have hg:=tm hj
 refine⟨j,hj,?_,by have:=(Xu.mp hg).1;lia,hg⟩
 unfold ip
 rw[Xn,YE (by lia)]
 simp[hj]
def qG:(ip p).length =p.length:=by simp[ip]
def El(hp:p∈perms n):comp p (ip p)=bu n:=by
 refine cS (ax.mp hp) λlp np bp=>?_
 apply Yv
 intro i
 unfold comp bu
 rw[Xn,Xn]
 by_cases hi:i<n
 .have hb:=bp p[i] (YX (by lia))
  rw[YE hi,W9 (by lia)]
  obtain⟨k,hk⟩:∃k:Nat,p[i]=(k:Int):=⟨p[i].toNat,by lia⟩
  have BY:k<n:=by lia
  refine B8 (kE hp BY) λj h1 h2 h3 h4=>?_
  have Hu:eA (k:Int) p=some i:=qF np (by rw[W9 (by lia),hk])
  rw[h1]at Hu
  have e:=Xw Hu
  subst e
  show some ((ip p).getD (p[j].toNat) 0)=some (Int.ofNat j)
  rw[hk,Yd,Xi,h2]
  rfl
 .have l1:(List.range n)[i]?=none:=Xz (by simp;lia)
  have l2:p[i]?=none:=Xz (by lia)
  rw[l1,l2]
  rfl
def wD(hp:p∈perms n):comp (ip p) p=bu n:=by
 refine cS (ax.mp hp) λlp np bp=>?_
 apply Yv
 intro i
 unfold comp bu
 rw[Xn,Xn]
 by_cases hi:i<n
 .refine B8 (kE hp hi) λj h1 h2 h3 h4=>?_
  rw[h2,YE hi]
  show some (p.getD ((j:Int).toNat) 0)=some (Int.ofNat i)
  rw[Yd,Xi,h4]
  rfl
 .have l1:(List.range n)[i]?=none:=Xz (by simp;lia)
  have l2:(ip p)[i]?=none:=Xz (by rw[qG];lia)
  rw[l1,l2]
  rfl
def jR(hp:p∈perms n):ip p∈perms n:=by
 refine cS (ax.mp hp) λlp np bp=>ax.mpr ⟨by rw[qG,lp],?_,λx hx=>?_⟩
 .rw[Yc,YH]
  intro i j hi hj Hu e
  rw[qG,lp]at hi hj
  refine B8 (kE hp hi) λa a1 a2 a3 a4=>B8 (kE hp hj) λb b1 b2 b3 b4=>?_
  rw[W9 (by rw[qG];lia)]at a2 b2
  have ea:=Xw a2
  have eb:=Xw b2
  rw[ea,eb]at e
  have:a=b:=by lia
  subst this
  rw[a4]at b4
  have:=Xw b4
  lia
 .refine ab (Xg.mp hx) λk hk ah=>?_
  subst ah
  have Kc:=XU.mp hk
  refine B8 (kE hp (k:=k) (by lia)) λj h1 _ h3 _=>?_
  rw[h1]
  exact⟨ZU _,by show(j:Int)<n;lia⟩
def ym(hp:p∈perms n)(hq:q∈perms n)(h:comp p q=bu n):q=ip p:=by
 have e:comp (comp (ip p) p) q=comp (ip p) (comp p q):=iZ (jR hp) hp
 rw[wD hp,m7 hq,h,jQ (jR hp)]at e
 exact e
noncomputable def uR:Fd:=⟨1,1,(.seq (.ret (.prim .tuple (.cons (.comp [0] 0 (.eL (.cons (.prim .len (.u 0)) .nil)) .nil (.fj .index (.var 1) (.u 0))) .nil))) .skip)⟩
theorem cW:∀p:List Int,aB (p.map .int)=some p
 |[]=>rfl
 |x::p=>by
  show(aB (p.map .int)).map (x:: ·)=_
  rw[cW p]
  rfl
def Em{F:FT}{n:Nat}{p:List Int}(hn:n<=1000)(hp:p∈perms n):out (ex F uR.body (ai uR [tp p]))=some (tp (ip p)):=by
 refine cS (ax.mp hp) λlp np bp=>?_
 have w:=dZ (α:=Nat) (λk=>D.int (k:Int)) (λ(k:Nat)=> .int (((eA (k:Int) p).getD 0:Nat):Int)) (λx=>(aG 0 x).bind λys=>(fm F true .nil (inner ys [some (false,tp p)] [0])).bind λk=>if k then(ev F false (.fj .index (.var 1) (.u 0)) (inner ys [some (false,tp p)] [0])).map some else some none) (List.range n) (λk hk=>by
  have Kc:=XU.mp hk
  refine ab (kE hp Kc) λj h1 _=>?_
  show(fj .index (tp p) [.int (k:Int)]).map some=_
  show(((aB (p.map .int)).bind λns=>(eA (k:Int) ns).map λ(i:Nat)=>D.int (i:Int))).map some=_
  rw[cW]
  show((eA (k:Int) p).map λ(i:Nat)=>D.int (i:Int)).map some=_
  rw[h1]
  rfl)
 have hr:dn [.int ((p.map D.int).length :Nat)]=some ((List.range n).map λ(k:Nat)=>D.int (k:Int)):=by
  rw[Xb,lp,b6 hn,dg,bu,XY]
  rfl
 have hl:((List.range n).map λ(k:Nat)=>D.int (k:Int)).length <=bj:=by rw[Xb,Z3];unfold bj;lia
 have e:ev F true (.comp [0] 0 (.eL (.cons (.prim .len (.u 0)) .nil)) .nil (.fj .index (.var 1) (.u 0))) [some (false,tp p)]=some (.lst ((ip p).map .int)):=by
  show(dn [.int ((p.map D.int).length :Nat)]).bind _=_
  rw[hr]
  show(if((List.range n).map λ(k:Nat)=>D.int (k:Int)).length <=bj then _ else _)=_
  rw[Xs hl]
  show(walk _ ((List.range n).map λ(k:Nat)=>D.int (k:Int))).map D.lst=_
  rw[w]
  simp[ip,lp]<;>rfl
 show out ((((ev F true (.comp [0] 0 (.eL (.cons (.prim .len (.u 0)) .nil)) .nil (.fj .index (.var 1) (.u 0))) [some (false,tp p)]).bind _).bind _ |>.map _).bind _)=_
 rw[e]
 rfl
noncomputable def sb:List Int->Nat->List Int->List Int
 |[],_,f=>f
 |g::r,i,f=>sb r (i+1) (f.set g.toNat (i:Int))
theorem m8:∀p:List Int,aR (p.map .int)=true
 |[]=>rfl
 |x::p=>by show(aC (.int x)&&aR (p.map .int))=true;rw[m8 p];rfl
def aL(p:List Int):aC (tp p)=true:=m8 p
noncomputable def pw(p:List Int):Nat->List Int
 |0=>bu p.length
 |m+1=>comp (pw p m) p
theorem jS(hp:p∈perms n):∀m,pw p m∈perms n
 |0=>by rw[pw,az hp];exact dh n
 |m+1=>hZ (jS hp m) hp
theorem Ba(hp:p∈perms n)(a:Nat):∀b,pw p (a+b)=comp (pw p a) (pw p b)
 |0=>by rw[aar,pw,az hp,jQ (jS hp a)]
 |b+1=>by
  show comp (pw p (a+b)) p=comp (pw p a) (comp (pw p b) p)
  rw[Ba hp a b,iZ (jS hp a) (jS hp b)]
def Ji(hp:p∈perms n):pw p 1=p:=by
 show comp (bu p.length) p=p
 rw[az hp,m7 hp]
noncomputable def yo(p:List Int):Nat:=(((List.range 6).find? λm=>pw p (m+1)==bu p.length).getD 0)+1
noncomputable def F4(n:Nat)(p:List Int):Bool:=decide (pw p (yo p)=bu n)&&decide (yo p<=6)&&(List.range (yo p)).all λk=>k==0||decide (pw p k≠bu n)
set_option maxHeartbeats 0 in
def En:(List.range 7).all (λn=>(perms n).all (F4 n))=true:=by decide +kernel
def Bb(hn:n<=6)(hp:p∈perms n):pw p (yo p)=bu n/\1<=yo p/\yo p<=6/\∀k,1<=k->k<yo p->pw p k≠bu n:=by
 have h:=XO.mp (all_range En (k:=n) (by lia)) p hp
 unfold F4 at h
 simp only[W7,decide_eq_true_eq,XO,XU,Zm,beq_iff_eq]at h
 refine⟨h.1.1,by unfold yo;lia,h.1.2,λk h1 h2=>?_⟩
 rcases h.2 k h2 with z|z
 .lia
 .exact z
def bM(h:ev F true e ρ=some d):out (ex F (.seq (.ret e) b) ρ)=some d:=by
 rw[bP,mz,h]
 rfl
def aD(h:ev F false e ρ=some d):ex F (.asg i e) ρ=some (.next (put ρ i false d)):=by
 rw[uw,h]
 rfl
def aJ(h1:cc F true es ρ=some xs)(h2:F f xs=some d)(h3:aC d=true):ev F b (.call f es) ρ=some d:=by
 rw[uu,h1]
 show(F f xs).bind _=_
 rw[h2]
 simp[h3]
def dG(h1:ev F b a ρ=some x)(h2:ev F b c ρ=some y):cc F b (.cons a (.cons c .nil)) ρ=some [x,y]:=by
 rw[cc,h1,cc,h2,cc]
 rfl
def kF(h1:ev F b a ρ=some x):cc F b (.cons a .nil) ρ=some [x]:=by
 rw[cc,h1,cc]
 rfl
noncomputable def fL(F:FT)(fr:List Nat)(ifs dQ:E)(ρ:Env)(x:D):Option (Option D):=(fm F true ifs (inner [x] ρ fr)).bind λk=>if k then(ev F false dQ (inner [x] ρ fr)).map some else some none
def jT(h1:ev F true a ρ=some d)(h2:seq d=some xs)(h3:xs.length<=bj):ev F b (.comp fr 0 (.it a) ifs dQ) ρ=(walk (fL F fr ifs dQ ρ) xs).map .lst :=by
 rw[Lq,lA,h1,YC,h2,YC,Xs h3]
 rfl
def m9(h1:(cc F false es ρ).bind dn=some xs)(h3:xs.length<=bj):ev F b (.comp fr 0 (.eL es) ifs dQ) ρ=(walk (fL F fr ifs dQ ρ) xs).map .lst :=by
 rw[Lq,lA,h1,YC,Xs h3]
 rfl
theorem gK{f:D->Option (Option D)}{p:D->Bool}:∀xs:List D,(∀x∈xs,f x=some (if p x then some x else none))->walk f xs=some (xs.filter p)
 |[],_=>rfl
 |x::r,h=>by
  rw[walk,h x Xd,ZF]
  have ih:=gK r λy hy=>h y (W_ _ hy)
  cases p x with
  |true=>show(walk f r).map _=_;rw[ih];rfl
  |false=>exact ih
theorem kG:∀xs:List D,(∀x∈xs,f x=some (some (g x)))->walk f xs=some (xs.map g)
 |[],_=>rfl
 |x::r,h=>by
  rw[walk,h x Xd]
  show(walk f r).map _=_
  rw[kG r λy hy=>h y (W_ _ hy)]
  rfl
theorem wF{f:D->Option (Option D)}{P:D->Prop}:∀xs:List D,(∀x∈xs,∃y,P y/\f x=some (some y))->∃ys,walk f xs=some ys/\ys.length=xs.length/\∀y∈ys,P y
 |[],_=>⟨[],rfl,rfl,λ_ h=>nomatch h⟩
 |x::r,h=>by
  refine ab (h x Xd) λy hy e=>bF (wF r λz hz=>h z (W_ _ hz)) λys e2 hl hP=>⟨y::ys,?_,by rw[Xt,Xt,hl],λz hz=>?_⟩
  .rw[walk,e]
   show(walk f r).map _=_
   rw[e2]
   rfl
  .rcases Xl.mp hz with rfl|hz
   .exact hy
   .exact hP z hz
def tq(hx:x∈bA 0 n):∃k:Nat,k<n/\x= .int k:=by
 rw[dg]at hx
 refine ab (Xg.mp hx) λi hi ah=>?_
 subst ah
 refine ab (Xg.mp hi) λj hj aK=>?_
 subst aK
 exact⟨j,XU.mp hj,rfl⟩
def gL(n:Nat):(bA 0 n).length =n:=by
 rw[dg,Xb,bu,Xb,Z3]
noncomputable def gb(ft fd:Nat):Fd:=⟨2,2,(.seq (.ret (.prim .tuple (.cons (.comp [0,1] 0 (.eL (.cons (.idx (.tup (.cons (.c (.int 1)) (.cons (.c (.int 1)) (.cons (.c (.int 2)) (.cons (.c (.int 2)) (.cons (.c (.int 3)) (.cons (.c (.int 0)) (.cons (.c (.int 6)) .nil)))))))) (.bin .Mod (.var 0) (.c (.int 7)))) .nil)) .nil (.call ft (.cons (.call fd (.w 1 (.u 0))) (.u 2)))) .nil))) .skip)⟩
def Jj(s:Nat)(y:D):Prop:=∃p∈perms s,y=tp p
def tu{xs:List D}{k:Nat}{x:D}(h:xs[k]?=some x):item (.tup xs) (.int k)=some x:=by
 show(cu xs.length k).bind _=_
 have hk:k<xs.length:=(Xu.mp h).1
 unfold cu
 rw[Xs (by lia),Xs (by lia)]
 show xs[((k:Int)).toNat]?=_
 rw[Yd]
 exact h
def Jk{F:FT}{ft fd s:Nat}{a:Int}(hd:∀k:Nat,F fd [.int a,.int k]=some (.int (drawn a k)))(ht:∀b:Int,0<=b->∃p∈perms s,F ft [.int b,.int s]=some (tp p)):
  ∃ys,out (ex F (gb ft fd).body (ai (gb ft fd) [.int a,.int s]))=some (.tup ys)/\ys.length<=6/\∀y∈ys,Jj s y:=by
 have g0:0<=a%7:=Yj _ (by decide)
 have g1:a%7<7:=Yh _ (by decide)
 obtain⟨j,hj⟩:∃j:Nat,a%7=j:=⟨(a%7).toNat,by lia⟩
 have V5:j<7:=by lia
 have key:∀j,j<7->∃n:Nat,n<=6/\[D.int 1,.int 1,.int 2,.int 2,.int 3,.int 0,.int 6][j]?=some (.int n):=λj hj=>
  ⟨[1,1,2,2,3,0,6][j],(show∀x∈[1,1,2,2,3,0,6],x<=6 by decide) _ (YX _),by rw[show [D.int 1,.int 1,.int 2,.int 2,.int 3,.int 0,.int 6]=[1,1,2,2,3,0,6].map λn:Nat=>D.int n from rfl,Xn,W9 hj];rfl⟩
 refine ab (key j V5) λn hn hg=>?_
 have e1:ev F false (.idx (.tup (.cons (.c (.int 1)) (.cons (.c (.int 1)) (.cons (.c (.int 2)) (.cons (.c (.int 2)) (.cons (.c (.int 3)) (.cons (.c (.int 0)) (.cons (.c (.int 6)) .nil)))))))) (.bin .Mod (.var 0) (.c (.int 7)))) (ai (gb ft fd) [.int a,.int s])=some (.int n):=by
  have q1:ev F true (.tup (.cons (.c (.int 1)) (.cons (.c (.int 1)) (.cons (.c (.int 2)) (.cons (.c (.int 2)) (.cons (.c (.int 3)) (.cons (.c (.int 0)) (.cons (.c (.int 6)) .nil)))))))) (ai (gb ft fd) [.int a,.int s])=some (.tup [D.int 1,.int 1,.int 2,.int 2,.int 3,.int 0,.int 6]):=by simp[pX,vC,cc,bj]
  have q2:ev F false (.bin .Mod (.var 0) (.c (.int 7))) (ai (gb ft fd) [.int a,.int s])=some (.int j):=by simp[gb,ai,jt,vC,rE,rd,bin,hj]
  rw[rF,q1,YC,q2,YC]
  exact tu hg
 obtain⟨ys,w,hl,hP⟩:=wF (f:=fL F [0,1] .nil (.call ft (.cons (.call fd (.w 1 (.u 0))) (.u 2))) (ai (gb ft fd) [.int a,.int s])) (P:=Jj s) (bA 0 n) λx hx=>by
  refine ab (tq hx) λk hk ah=>?_
  subst ah
  refine ab (ht (drawn a k) (A4 _ _)) λp hp e=>⟨tp p,⟨p,hp,rfl⟩,?_⟩
  show(ev F false _ (inner [.int (k:Int)] _ [0,1])).map some=_
  have i1:ev F true (.call fd (.w 1 (.u 0))) (inner [.int (k:Int)] (ai (gb ft fd) [.int a,.int s]) [0,1])=some (.int (drawn a k)):=
   aJ (xs:=[.int a,.int k]) (dG (by simp[gb,ai,jt,rd,inner,zw]) (by simp[gb,ai,jt,rd,inner,zw])) (hd k) rfl
  rw[aJ (xs:=[.int (drawn a k),.int s]) (d:=tp p) (dG i1 (by simp[gb,ai,jt,rd,inner,zw])) e (aL _)]
  rfl
 refine⟨ys,bM ?_,by rw[hl,gL];exact hn,hP⟩
 rw[j8,kF (x:= .lst ys)]
 .rfl
 .rw[m9 (xs:=bA 0 n) (by rw[kF e1,YC,b6 (by lia)]) (by rw[gL];unfold bj;lia),w]
  rfl
section
variable {s:Nat}{ps:List (List Int)}(k_:∀p∈ps,p∈perms s)
include k_
end
def bB(h1:cc F true es ρ=some xs)(h2:F f xs=some d)(h3:lz ρ es=false):ev F b (.call f es) ρ=some d:=by
 rw[uu,h1]
 show(F f xs).bind _=_
 rw[h2]
 simp[h3]
def Eo(h1:ev F b a ρ=some x)(h2:ev F b c ρ=some y)(h3:ev F b e ρ=some z):cc F b (.cons a (.cons c (.cons e .nil))) ρ=some [x,y,z]:=by
 rw[cc,h1,cc,h2,cc,h3,cc]
 rfl
theorem uS:∀{s:Nat} (ys:List D),(∀y∈ys,Jj s y)->∃ps:List (List Int),ys=ps.map tp/\∀p∈ps,p∈perms s
 |_,[],_=>⟨[],rfl,λ_ h=>nomatch h⟩
 |s,y::r,h=>by
  refine ab (h y Xd) λp hp ah=>?_
  subst ah
  refine ab (uS r λz hz=>h z (W_ _ hz)) λps aK k_=>?_
  subst aK
  exact⟨p::ps,rfl,λq hq=>(Xl.mp hq).elim (λe=>e▸hp) (k_ q)⟩
def wG(h:(cc F false es ρ).bind dn=some xs):ex F (.for is tg (.eL es) b) ρ=aO (λx ρ=>(aG tg x).bind λys=>(dq ρ is ys).bind λρ'=>ex F b ρ') xs ρ:=by
 rw[zB]
 show((cc F false es ρ).bind dn).bind _=_
 rw[h]
 rfl
section
variable {F:FT}{ρ:Env}{b:Bool}
def av(h:ex F a ρ=some (.next ρ')):ex F (.seq a c) ρ=ex F c ρ':=by
 rw[bP,h]
 rfl
def lS(h:ex F a ρ=some (.ret d)):ex F (.seq a c) ρ=some (.ret d):=by
 rw[bP,h]
 rfl
def uT(h:ev F true e ρ=some d):ex F (.seq (.ret e) c) ρ=some (.ret d):=by
 rw[bP,mz,h]
 rfl
def tD(h:ev F false c ρ=some (.bl true))(h2:ex F t ρ=some o):ex F (.ifs c t u) ρ=some o:=by
 rw[ju,h]
 exact h2
def bK(h:ev F false c ρ=some (.bl false)):ex F (.ifs c t .skip) ρ=some (.next ρ):=by
 rw[ju,h]
 rfl
def cB(h:ev F false c ρ=some (.bl true)):ex F (.seq (.ifs c (.seq (.ret (.c d)) .skip) u) w) ρ=some (.ret d):=lS (tD h rfl)
def uU(h:ev F false c ρ=some (.bl true))(h2:ex F t ρ=some (.ret d)):out (ex F (.seq (.ifs c t u) w) ρ)=some d:=congrArg out (lS (tD h h2))
def bH{v:Option D}(h1:ex F a ρ=some (.next ρ'))(h2:out (ex F c ρ')=v):out (ex F (.seq a c) ρ)=v:=(congrArg out (av h1)).trans h2
def cK(h1:ev F true a ρ=some x)(h2:ev F true c ρ=some y)(h3:cmp o x y=some k):ev F b (.cmp o a c) ρ=some (.bl k):=by
 rw[nY,h1,h2]
 show(cmp o x y).map D.bl=_
 rw[h3]
 rfl
def cX(h:ev F false a ρ=some (.bl k)):ev F b (.not a) ρ=some (.bl !k):=by
 rw[PL,h]
 rfl
def cj(h:ev F false a ρ=some (.bl k)):fm F k (.cons a r) ρ=fm F k r ρ:=by
 rw[fm,h]
 exact Xs rfl
def cy(h:ev F false a ρ=some (.bl !k)):fm F k (.cons a r) ρ=some !k:=by
 rw[fm,h]
 cases k<;>rfl
def aY(h:fm F k es ρ=some j):ev F b (.f_ k es) ρ=some (.bl j):=by
 rw[Lp,h]
 rfl
def iB(h:ev F false a ρ=some (.bl j)):fm F k (.cons a .nil) ρ=some j:=by
 rw[fm,h]
 cases j<;>cases k<;>rfl
def i5(h:ev F false a ρ=some (.bl p))(h2:fm F true r ρ=some q):fm F true (.cons a r) ρ=some (p&&q):=by
 cases p with
 |true=>exact(cj h).trans h2
 |false=>exact cy h
def i6(h:ev F false a ρ=some x)(h2:Fx t x=some k):ev F b (.fQ a t) ρ=some (.bl k):=by
 show((ev F false a ρ).bind (Fx t)).map D.bl=_
 rw[h]
 show(Fx t x).map D.bl=_
 rw[h2]
 rfl
def i7(h1:ev F true a ρ=some x)(h2:ev F true c ρ=some y):ev F b (.bin o a c) ρ=bin o x y:=by
 rw[rE,h1,h2]
 rfl
def cY{i j:Int}(h1:ev F true a ρ=some (.int i))(h2:ev F true c ρ=some (.int j))(hj:0<j):ev F b (.bin .Mod a c) ρ=some (.int (i%j)):=(i7 h1 h2).trans (Xs hj)
def eV{i j:Int}(h1:ev F true a ρ=some (.int i))(h2:ev F true c ρ=some (.int j))(hj:0<j/\j<1073741824):ev F b (.bin .FloorDiv a c) ρ=some (.int (i/j)):=(i7 h1 h2).trans (Xs hj)
def gM(h1:ev F true a ρ=some x)(h2:ev F false i ρ=some k)(h3:item x k=some y):ev F b (.idx a i) ρ=some y:=by
 rw[rF,h1]
 show(ev F false i ρ).bind _=_
 rw[h2]
 exact h3
def m_(h:ev F true a ρ=some x)(h2:seq x=some xs):ev F b (.prim .len (.cons a .nil)) ρ=some (.int xs.length):=by
 rw[j8,kF h]
 show(seq x).map _=_
 rw[h2]
 rfl
def d_(h:ev F b a ρ=some x)(h2:cc F b r ρ=some xs):cc F b (.cons a r) ρ=some (x::xs):=by
 rw[cc,h,h2]
 rfl
def Bc(h:cc F false es ρ=some xs)(hl:xs.length<=1000):ev F b (.lst es) ρ=some (.lst xs):=by
 rw[zA,h]
 have eU:bj=16777216:=rfl
 exact Xs (by lia)
def Q8(h:ev F false a ρ=some x):ev F b (.tup (.cons a .nil)) ρ=some (.tup [x]):=by
 rw[pX,kF h]
 rfl
def Q9(h:ev F false a ρ=some x)(h2:ev F false c ρ=some y):ev F b (.tup (.cons a (.cons c .nil))) ρ=some (.tup [x,y]):=by
 rw[pX,dG h h2]
 rfl
def h_{l h:Option Int}(hx:x∈iR xs l h):x∈xs:=YZ (YO hx)
def eK{l h:Option Int}:(iR xs l h).length <=xs.length:=((Ym _ _).trans (Yp _ _)).length_le
def qH(ha:ev F true a ρ=some (.tup xs))(hj:ev F false j ρ=some (.int i))(hm:ev F true m ρ=some (.tup zs))(hk:ev F false k ρ=some (.int i'))(hl:xs.length<=1000)(hz:zs.length<=1000):
  ev F b (.bin .Add (.bin .Add (.sl a .nil (.cons j .nil)) m) (.sl a (.cons k .nil) .nil)) ρ=some (.tup (iR xs none (some i)++zs++iR xs (some i') none)):=by
 have eU:bj=16777216:=rfl
 have l1:=eK (xs:=xs) (l:=none) (h:=some i)
 have l2:=eK (xs:=xs) (l:=some i') (h:=none)
 have e1:ev F true (.sl a .nil (.cons j .nil)) ρ=some (.tup (iR xs none (some i))):=by
  rw[JX,ha]
  show(((ev F false j ρ).bind yE).map some).bind _=_
  rw[hj]
  rfl
 have e2:ev F true (.sl a (.cons k .nil) .nil) ρ=some (.tup (iR xs (some i') none)):=by
  rw[JX,ha]
  show(((ev F false k ρ).bind yE).map some).bind _=_
  rw[hk]
  rfl
 have e3:ev F true (.bin .Add (.sl a .nil (.cons j .nil)) m) ρ=some (.tup (iR xs none (some i)++zs)):=(i7 e1 hm).trans (Xs (by lia))
 exact(i7 e3 e2).trans (Xs (by rw[Xk];lia))
def ed{a:Int}{xs:List D}(ha:0<=a)(h:0<xs.length):∃x∈xs,item (.tup xs) (.int (a%xs.length))=some x/\item (.lst xs) (.int (a%xs.length))=some x:=by
 have g0:0<=a%(xs.length:Int):=Yj _ (by lia)
 have g1:a%(xs.length:Int)<xs.length:=Yh _ (by lia)
 obtain⟨j,hj⟩:∃j:Nat,a%(xs.length:Int)=j:=⟨(a%(xs.length:Int)).toNat,by lia⟩
 have bJ:j<xs.length:=by lia
 have hx:=tu (W9 bJ)
 rw[hj]
 exact⟨xs[j],YX bJ,hx,hx⟩
theorem lg(g:α->Bool):∀xs:List α,eF (xs.map λx=> .bl (g x))=some (xs.map g)
 |[]=>rfl
 |x::r=>by
  show(eF (r.map λx=> .bl (g x))).map (g x:: ·)=_
  rw[lg g r]
  rfl
def uV(g:D->Bool)(h1:ev F true a ρ=some (.tup xs))(hl:xs.length<=1000)(h:∀x∈xs,ev F false e (inner [x] ρ fr)=some (.bl (g x))):
  ev F b (.prim .all (.cons (.comp fr 0 (.it a) .nil e) .nil)) ρ=some (.bl (xs.all g)):=by
 have eU:bj=16777216:=rfl
 have w:walk (fL F fr .nil e ρ) xs=some (xs.map λx=> .bl (g x)):=kG xs λx hx=>by
  show(ev F false e (inner [x] ρ fr)).map some=_
  rw[h x hx]
  rfl
 rw[j8,kF (x:= .lst (xs.map λx=> .bl (g x))) (by rw[jT h1 rfl (by lia),w];rfl)]
 show(eF (xs.map λx=> .bl (g x))).map _=_
 rw[lg g]
 show some (D.bl ((xs.map g).all id))=_
 rw[List.all_map]
 rfl
end
end Py
namespace jU
structure Pg(α:Type) where
 n:Nat
 S:α->Prop
 mul:α->α->α
 inv:α->α
 one:α
 im:α->Nat->Nat
structure gN{α:Type}(Y:Pg α):Prop where
 s1:Y.S Y.one
 sm:∀{a b},Y.S a->Y.S b->Y.S (Y.mul a b)
 si:∀{a},Y.S a->Y.S (Y.inv a)
 assoc:∀{a b c},Y.S a->Y.S b->Y.S c->Y.mul (Y.mul a b) c=Y.mul a (Y.mul b c)
 mul_one:∀{a},Y.S a->Y.mul a Y.one=a
 one_mul:∀{a},Y.S a->Y.mul Y.one a=a
 ic:∀{a},Y.S a->Y.mul a (Y.inv a)=Y.one
 inv_mul:∀{a},Y.S a->Y.mul (Y.inv a) a=Y.one
 bN:∀{k},k<Y.n->Y.im Y.one k=k
 bg:∀{a b k},Y.S a->Y.S b->k<Y.n->Y.im (Y.mul a b) k=Y.im b (Y.im a k)
 jV:∀{a k},Y.S a->k<Y.n->Y.im a k<Y.n
 ext:∀{a b},Y.S a->Y.S b->(∀k,k<Y.n->Y.im a k=Y.im b k)->a=b
section
variable {α:Type}{Y:Pg α}
def gN.inj(L:gN Y)(ha:Y.S a)(hk:k<Y.n)(hl:l<Y.n)(h:Y.im a k=Y.im a l):k=l:=by
 have e:∀j,j<Y.n->Y.im (Y.inv a) (Y.im a j)=j:=λj hj=>by
  rw[<-L.bg ha (L.si ha) hj,L.ic ha,L.bN hj]
 rw[<-e k hk,<-e l hl,h]
def i8(Y:Pg α)(t:α)(i:Nat):Prop:=∀k,k<i->Y.im t k=k
abbrev Rg(α:Type):=List (Nat×α)
structure V(Y:Pg α)(i:Nat)(R:Rg α):Prop where
 st:∀p u,(p,u)∈R->Y.S u/\i8 Y u i/\Y.im u i=p
 one:(i,Y.one)∈R
 nd:(R.map (·.1)).Nodup
def VL(Y:Pg α):List (Rg α)->Nat->Prop
 |[],i=>i=Y.n
 |R::l,i=>V Y i R/\i<Y.n/\VL Y l (i+1)
def H(Y:Pg α):List (Rg α)->α->Prop
 |[],t=>t=Y.one
 |R::l,t=>∃p u w,(p,u)∈R/\H Y l w/\t=Y.mul w u
def lU{R:Rg α}(h:(R.map (·.1)).Nodup){p:Nat}{u v:α}(h1:(p,u)∈R)(h2:(p,v)∈R):u=v:=by
 induction R with
 |nil=>cases h1
 |cons e R ih=>
  rw[Xy,XR]at h
  rcases Xl.mp h1 with a|a
  .rcases Xl.mp h2 with b|b
   .exact(abC (a.trans b.symm)).2
   .exact absurd (Xg.mpr ⟨_,b,by rw[<-a]⟩) h.1
  .rcases Xl.mp h2 with b|b
   .exact absurd (Xg.mpr ⟨_,a,by rw[<-b]⟩) h.1
   .exact ih h.2 a b
theorem H.good(L:gN Y):∀{l:List (Rg α)}{i:Nat}{t:α},VL Y l i->H Y l t->Y.S t/\i8 Y t i
 |[],i,t,hv,h=>by
  have h':t=Y.one:=h
  have Ki:i=Y.n:=hv
  subst h'
  exact⟨L.s1,λk hk=>L.bN (by lia)⟩
 |R::l,i,t,⟨hv,hi,hl⟩,⟨p,u,w,hu,hw,e⟩=>by
  obtain⟨s1,f1⟩:=H.good L hl hw
  refine cS (hv.st p u hu) λs2 f2 _=>?_
  subst e
  refine⟨L.sm s1 s2,λk hk=>?_⟩
  rw[L.bg s1 s2 (by lia),f1 k (by lia),f2 k hk]
theorem H.one(L:gN Y):∀{l:List (Rg α)}{i:Nat},VL Y l i->H Y l Y.one
 |[],_,_=>rfl
 |R::l,i,⟨hv,hi,hl⟩=>⟨i,Y.one,Y.one,hv.one,H.one L hl,(L.one_mul L.s1).symm⟩
def St(l:List (Rg α))(u:α):Prop:=∃R∈l,∃p,(p,u)∈R
theorem St.good(L:gN Y):∀{l:List (Rg α)}{i:Nat}{u:α},VL Y l i->St l u->Y.S u/\i8 Y u i
 |[],_,_,_,⟨_,h,_⟩=>by cases h
 |R::l,i,u,⟨hv,hi,hl⟩,⟨R',hR,p,hp⟩=>by
  rcases Xl.mp hR with e|e
  .rw[e]at hp
   exact⟨(hv.st p u hp).1,(hv.st p u hp).2.1⟩
  .obtain⟨a,b⟩:=St.good L hl ⟨R',e,p,hp⟩
   exact⟨a,λk hk=>b k (by lia)⟩
def H.drop(L:gN Y){R:Rg α}{l:List (Rg α)}{i:Nat}{t:α}(hv:VL Y (R::l) i)(h:H Y (R::l) t)(hf:Y.im t i=i):H Y l t:=by
 refine cS hv λhV hi hl=>cL h λp u w hu hw e=>?_
 obtain⟨s1,f1⟩:=H.good L hl hw
 refine cS (hV.st p u hu) λs2 f2 f3=>?_
 have:p=i:=by
  rw[e,L.bg s1 s2 hi,f1 i (by lia),f3]at hf
  exact hf
 subst this
 have:u=Y.one:=lU hV.nd hu hV.one
 rw[this,L.mul_one s1]at e
 rw[e]
 exact hw
def H.Ep(L:gN Y)(hv:VL Y (R::l) i)(h:H Y l t):H Y (R::l) t:=⟨i,Y.one,t,hv.1.one,h,(L.mul_one (H.good L hv.2.2 h).1).symm⟩
inductive Gen(Y:Pg α)(G:α->Prop):α->Prop
 |one:Gen Y G Y.one
 |mul {t u:α}:Gen Y G t->G u->Gen Y G (Y.mul t u)
theorem Gen.S(L:gN Y)(hG:∀u,G u->Y.S u):∀{t:α},Gen Y G t->Y.S t
 |_,.one =>L.s1
 |_,.mul h hu=>L.sm (Gen.S L hG h) (hG _ hu)
theorem Gen.mono(h:∀u,G u->G' u):∀{t:α},Gen Y G t->Gen Y G' t
 |_,.one => .one
 |_,.mul a hu=> .mul (Gen.mono h a) (h _ hu)
theorem Gen.app(L:gN Y)(hG:∀u,G u->Y.S u)(ha:Gen Y G a):∀{b:α},Gen Y G b->Gen Y G (Y.mul a b)
 |_,.one =>by rw[L.mul_one (Gen.S L hG ha)];exact ha
 |_,.mul (t:=t) (u:=u) h hu=>by
  rw[<-L.assoc (Gen.S L hG ha) (Gen.S L hG h) (hG _ hu)]
  exact .mul (Gen.app L hG ha h) hu
def Gen.of(L:gN Y)(hs:Y.S u)(h:G u):Gen Y G u:=by
 have:=Gen.mul (Gen.one (Y:=Y) (G:=G)) h
 rwa [L.one_mul hs]at this
theorem H.gen(L:gN Y):∀{l:List (Rg α)}{i:Nat}{t:α},VL Y l i->H Y l t->Gen Y (St l) t
 |[],_,t,_,h=>by
  have h':t=Y.one:=h
  rw[h'];exact .one
 |R::l,i,t,⟨hV,hi,hl⟩,⟨p,u,w,hu,hw,e⟩=>by
  rw[e]
  exact .mul (Gen.mono (λx ⟨R',h,q⟩=>⟨R',W_ _ h,q⟩) (H.gen L hl hw)) ⟨R,Xd,p,hu⟩
theorem H.closed(L:gN Y):∀{l:List (Rg α)}{i:Nat},VL Y l i->(∀u v,St l u->St l v->H Y l (Y.mul u v))->∀t v,H Y l t->St l v->H Y l (Y.mul t v)
 |[],_,_,_,_,_,_,⟨_,h,_⟩=>by cases h
 |R::l,i,hv,hp,t,v,⟨p,u,w,hu,hw,e⟩,pL=>by
  have hl:=hv.2.2
  have sub:∀x,St l x->St (R::l) x:=λx ⟨R',h,q⟩=>⟨R',W_ _ h,q⟩
  have ih:=H.closed L hl λx y hx hy=>by
   obtain⟨s1,f1⟩:=St.good L hl hx
   obtain⟨s2,f2⟩:=St.good L hl hy
   refine(hp x y (sub x hx) (sub y hy)).drop L hv ?_
   rw[L.bg s1 s2 hv.2.1,f1 i (by lia),f2 i (by lia)]
  have all:∀{x:α},Gen Y (St l) x->H Y l (Y.mul w x):=λ{x} hx=>by
   induction hx with
   |one=>rw[L.mul_one (H.good L hl hw).1];exact hw
   |mul h hu Hl=>
    rw[<-L.assoc (H.good L hl hw).1 (Gen.S L (λu hu=>(St.good L hl hu).1) h) (St.good L hl hu).1]
    exact ih _ _ Hl hu
  have su:St (R::l) u:=⟨R,Xd,p,hu⟩
  refine cL (hp u v su pL) λp' u' w' Kg v8 e'=>?_
  obtain⟨sw,_⟩:=H.good L hl hw
  obtain⟨Jl,_⟩:=H.good L hl v8
  have V6:=(St.good L hv su).1
  have V7:=(St.good L hv pL).1
  have V8:=(hv.1.st p' u' Kg).1
  refine⟨p',u',Y.mul w w',Kg,all (H.gen L hl v8),?_⟩
  rw[e,L.assoc sw V6 V7,e',<-L.assoc sw Jl V8]
def H.all(L:gN Y)(hv:VL Y l i)(hp:∀u v,St l u->St l v->H Y l (Y.mul u v))(ht:H Y l t)(hx:Gen Y (St l) x):H Y l (Y.mul t x):=by
 induction hx with
 |one=>rw[L.mul_one (H.good L hv ht).1];exact ht
 |mul h hu ih=>
  rw[<-L.assoc (H.good L hv ht).1 (Gen.S L (λu hu=>(St.good L hv hu).1) h) (St.good L hv hu).1]
  exact H.closed L hv hp _ _ ih hu
def H.row(L:gN Y)(hv:VL Y l 0)(hG:∀u,G u->Y.S u)(hp:∀u v,St l u->St l v->H Y l (Y.mul u v))(hr:∀g,G g->H Y l g)(hs:∀u,St l u->Gen Y G u)(t:α):H Y l t↔Gen Y G t:=by
 constructor
 .intro h
  have:∀{x:α},Gen Y (St l) x->Gen Y G x:=λ{x} hx=>by
   induction hx with
   |one=>exact .one
   |mul h hu ih=>exact Gen.app L hG ih (hs _ hu)
  exact this (H.gen L hv h)
 .intro h
  induction h with
  |one=>exact H.one L hv
  |mul h hu ih=>exact H.all L hv hp ih (H.gen L hv (hr _ hu))
noncomputable def iC(R:Rg α)(p:Nat):Option α:=(R.find? λe=>e.1==p).map (·.2)
def fM(h:iC R p=some u):(p,u)∈R:=by
 unfold iC at h
 cases e:R.find? (λe=>e.1==p)with
 |none=>rw[e]at h;cases h
 |some x=>
  rw[e]at h
  cases h
  have h1:=List.find?_some e
  have h2:=List.mem_of_find?_eq_some e
  have:x.1=p:=by simpa using h1
  rw[<-this];exact h2
def kH{R:Rg α}{p:Nat}(h:iC R p=none):p∉R.map (·.1):=λhm=>by
 unfold iC at h
 rw[Option.map_eq_none_iff,List.find?_eq_none]at h
 exact ab (Xg.mp hm) λe he hp=>h e he (by simp[hp])
def wH{R:Rg α}(nd:(R.map (·.1)).Nodup){p:Nat}{u:α}(h:(p,u)∈R):iC R p=some u:=by
 cases e:iC R p with
 |none=>exact absurd (Xg.mpr ⟨_,h,rfl⟩) (kH e)
 |some v=>rw[lU nd h (fM e)]
noncomputable def dz(Y:Pg α):List (Rg α)->Nat->α->α
 |[],_,t=>t
 |R::l,i,t=>match iC R (Y.im t i)with
  |some u=>dz Y l (i+1) (Y.mul t (Y.inv u))
  |none=>t
noncomputable def add:List (Rg α)->Nat->Nat×α->List (Rg α)
 |[],_,_=>[]
 |R::l,0,x=>(R++[x])::l
 |R::l,k+1,x=>R::add l k x
theorem H.add:∀{l:List (Rg α)}{k:Nat}{t:α},H Y l t->H Y (jU.add l k x) t
 |[],_,_,h=>h
 |R::l,0,t,⟨p,u,w,hu,hw,e⟩=>⟨p,u,w,XC _ hu,hw,e⟩
 |R::l,k+1,t,⟨p,u,w,hu,hw,e⟩=>⟨p,u,w,hu,H.add hw,e⟩
theorem St.add:∀{l:List (Rg α)}{k:Nat},St (jU.add l k x) v->St l v\/v=x.2
 |[],_,⟨_,h,_⟩=>by cases h
 |R::l,0,⟨R',hR,p,hp⟩=>by
  rcases Xl.mp hR with e|e
  .rw[e]at hp
   rcases Xr.mp hp with z|z
   .exact .inl ⟨R,Xd,p,z⟩
   .rw[Xc]at z
    exact .inr (by rw[<-z])
  .exact .inl ⟨R',W_ _ e,p,hp⟩
 |R::l,k+1,⟨R',hR,p,hp⟩=>by
  rcases Xl.mp hR with e|e
  .exact .inl ⟨R,Xd,p,by rw[<-e];exact hp⟩
  .rcases St.add (l:=l) (k:=k) ⟨R',e,p,hp⟩with⟨R2,h2,q⟩|z
   .exact .inl ⟨R2,W_ _ h2,q⟩
   .exact .inr z
theorem pC(L:gN Y):∀{l:List (Rg α)}{i:Nat}{t:α},VL Y l i->Y.S t->i8 Y t i->
  (dz Y l i t=Y.one/\H Y l t)\/∃k R,l[k]?=some R/\i+k<Y.n/\Y.S (dz Y l i t)/\i8 Y (dz Y l i t) (i+k)/\Y.im (dz Y l i t) (i+k)∉R.map (·.1)/\Y.im (dz Y l i t) (i+k)≠i+k/\
   H Y (add l k (Y.im (dz Y l i t) (i+k),dz Y l i t)) t/\VL Y (add l k (Y.im (dz Y l i t) (i+k),dz Y l i t)) i
 |[],i,t,hv,hs,hf=>by
  have Ki:i=Y.n:=hv
  have:t=Y.one:=L.ext hs L.s1 λk hk=>by rw[hf k (by lia),L.bN hk]
  exact .inl ⟨this,this⟩
 |R::l,i,t,hv,hs,hf=>by
  refine cS hv λhV hi hl=>?_
  unfold dz
  cases e:iC R (Y.im t i)with
  |none=>
   have hn:=kH e
   have gx:Y.im t i≠i:=λz=>hn (Xg.mpr ⟨_,hV.one,z.symm⟩)
   refine .inr ⟨0,R,rfl,hi,hs,hf,hn,gx,?_,?_⟩
   .exact⟨Y.im t i,t,Y.one,Xv _ (Xc.mpr rfl),H.one L hl,(L.one_mul hs).symm⟩
   .refine⟨⟨λp u hu=>?_,XC _ hV.one,?_⟩,hi,hl⟩
    .rcases Xr.mp hu with z|z
     .exact hV.st p u z
     .rw[Xc]at z
      cases z
      exact⟨hs,hf,rfl⟩
    .rw[XX,Yy]
     refine⟨hV.nd,by simp,λa ha b hb z=>?_⟩
     have:b=Y.im t i:=by simpa using hb
     exact hn (by rw[<-this,<-z];exact ha)
  |some u=>
   have hu:=fM e
   refine cS (hV.st _ u hu) λs2 f2 f3=>?_
   have sI:=L.si s2
   have s3:Y.S (Y.mul t (Y.inv u)):=L.sm hs sI
   have back:Y.mul (Y.mul t (Y.inv u)) u=t:=by rw[L.assoc hs sI s2,L.inv_mul s2,L.mul_one hs]
   have Be:∀k,k<Y.n->Y.im (Y.inv u) (Y.im u k)=k:=λk hk=>by rw[<-L.bg s2 sI hk,L.ic s2,L.bN hk]
   have f4:i8 Y (Y.mul t (Y.inv u)) (i+1):=λk hk=>by
    rw[L.bg hs sI (by lia)]
    rcases Yf k i with z|z
    .rw[hf k z]
     have:=Be k (by lia)
     rwa [f2 k z]at this
    .have e2:k=i:=by lia
     rw[e2]
     have:=Be i hi
     rwa [f3]at this
   dsimp only
   rcases pC L hl s3 f4 with⟨a,b⟩|⟨k,R',a1,a2,a3,a4,a5,a6,a7,a8⟩
   .exact .inl ⟨a,_,u,_,hu,b,back.symm⟩
   .have ek:i+1+k=i+(k+1):=by lia
    rw[ek]at a2 a4 a5 a6 a7 a8
    exact .inr ⟨k+1,R',a1,a2,a3,a4,a5,a6,⟨_,u,_,hu,a7,back.symm⟩,hV,hi,a8⟩
structure Fd(Y:Pg α)(G:α->Prop)(l:List (Rg α))(W:List α):Prop where
 v:VL Y l 0
 g:∀u,St l u->Gen Y G u
 wg:∀t∈W,Gen Y G t
 row:∀t,G t->t∈W\/H Y l t
 Nq:∀u v,St l u->St l v->Y.mul u v∈W\/H Y l (Y.mul u v)
def Fd.done(L:gN Y)(hG:∀u,G u->Y.S u)(h:Fd Y G l [])(t:α):H Y l t↔Gen Y G t:=
 H.row L h.v hG (λu v hu hv=>(h.Nq u v hu hv).resolve_left (by simp)) (λg hg=>(h.row g hg).resolve_left (by simp)) h.g t
def Fd.none(h:Fd Y G l (W++[t]))(ht:H Y l t):Fd Y G l W where
 v:=h.v
 g:=h.g
 wg:=λx hx=>h.wg x (XC _ hx)
 row:=λx hx=>by
  rcases h.row x hx with z|z
  .rcases Xr.mp z with z|z
   .exact .inl z
   .rw[Xc.mp z];exact .inr ht
  .exact .inr z
 Nq:=λu v hu hv=>by
  rcases h.Nq u v hu hv with z|z
  .rcases Xr.mp z with z|z
   .exact .inl z
   .rw[Xc.mp z];exact .inr ht
  .exact .inr z
def Fd.more(L:gN Y)(h:Fd Y G l (W++[t]))(hv:VL Y (add l k (p,r)) 0)(ht:H Y (add l k (p,r)) t)(hr:Gen Y G r)(k_:∀x∈Ps,Gen Y G x)
  (hP:∀u,St (add l k (p,r)) u->Y.mul u r∈Ps/\Y.mul r u∈Ps):Fd Y G (add l k (p,r)) (W++Ps) where
 v:=hv
 g:=λu hu=>by
  rcases hu.add with z|z
  .exact h.g u z
  .rw[z];exact hr
 wg:=λx hx=>(Xr.mp hx).elim (λz=>h.wg x (XC _ z)) (k_ x)
 row:=λx hx=>by
  rcases h.row x hx with z|z
  .rcases Xr.mp z with z|z
   .exact .inl (XC _ z)
   .rw[Xc.mp z];exact .inr ht
  .exact .inr z.add
 Nq:=λu v hu Ki=>by
  rcases hu.add with z1|z1
  .rcases Ki.add with z2|z2
   .rcases h.Nq u v z1 z2 with z|z
    .rcases Xr.mp z with z|z
     .exact .inl (XC _ z)
     .rw[Xc.mp z];exact .inr ht
    .exact .inr z.add
   .rw[z2]
    exact .inl (Xv _ (hP u hu).1)
  .rw[z1]
   exact .inl (Xv _ (hP v Ki).2)
theorem i8.mul(L:gN Y)(ha:Y.S a)(hb:Y.S b)(hi:i<=Y.n)(h1:i8 Y a i)(h2:i8 Y b i):i8 Y (Y.mul a b) i:=λk hk=>by rw[L.bg ha hb (by lia),h1 k hk,h2 k hk]
theorem i8.inv(L:gN Y)(ha:Y.S a)(hi:i<=Y.n)(h1:i8 Y a i):i8 Y (Y.inv a) i:=λk hk=>by
 have:=L.bg ha (L.si ha) (k:=k) (by lia)
 rw[L.ic ha,L.bN (by lia),h1 k hk]at this
 exact this.symm
structure gO(Y:Pg α)(M:α->Prop):Prop where
 s:∀t,M t->Y.S t
 one:M Y.one
 mul:∀a b,M a->M b->M (Y.mul a b)
 inv:∀a,M a->M (Y.inv a)
def Hm(Y:Pg α)(M:α->Prop)(l:List (Rg α))(i:Nat):Prop:=VL Y l i/\∀t,H Y l t↔M t/\i8 Y t i
def Hm.tail(L:gN Y)(h:Hm Y M (R::l) i):Hm Y M l (i+1):=by
 refine⟨h.1.2.2,λt=>⟨λht=>?_,λ⟨h1,h2⟩=>?_⟩⟩
 .exact⟨((h.2 t).mp (ht.Ep L h.1)).1,(H.good L h.1.2.2 ht).2⟩
 .exact((h.2 t).mpr ⟨h1,λk hk=>h2 k (by lia)⟩).drop L h.1 (h2 i (by lia))
def Hm.step(L:gN Y)(h:Hm Y M (R::l) i)(hu:(p,u)∈R):M u/\i8 Y u i/\Y.im u i=p:=by
 refine cS (h.1.1.st p u hu) λs1 f1 f2=>?_
 have:H Y (R::l) u:=⟨p,u,Y.one,hu,H.one L h.1.2.2,(L.one_mul s1).symm⟩
 exact⟨((h.2 u).mp this).1,f1,f2⟩
def Hm.split(L:gN Y)(h:Hm Y M (R::l) i)(hM:M t)(hf:i8 Y t i):∃u w,(Y.im t i,u)∈R/\H Y l w/\t=Y.mul w u:=by
 refine ao λnO=>cL ((h.2 t).mpr ⟨hM,hf⟩) λp u w hu hw e=>?_
 obtain⟨s1,f1⟩:=H.good L h.1.2.2 hw
 refine cS (h.1.1.st p u hu) λs2 f2 f3=>nO ?_
 have:Y.im t i=p:=by rw[e,L.bg s1 s2 h.1.2.1,f1 i (by lia),f3]
 exact⟨u,w,by rw[this];exact hu,hw,e⟩
def Lt(Y:Pg α)(a b:α):Prop:=∃i,i<Y.n/\(∀k,k<i->Y.im a k=Y.im b k)/\Y.im a i<Y.im b i
def Lt.N8(h:Lt Y a b)(h':Lt Y b a):False:=by
 refine bF h λi i1 i2 i3=>bF h' λj j1 j2 j3=>?_
 rcases Z0 i j with z|z|z
 .have:=j2 i z;lia
 .subst z;lia
 .have:=i2 j z;lia
inductive LM(Y:Pg α):List (Rg α)->α->α->Prop
 |nil {u:α}:LM Y [] u u
 |cons {R:Rg α}{l:List (Rg α)}{u x:α}{p:Nat}{v:α}:(p,v)∈R->(∀q,q∈R.map (·.1)->Y.im u p<=Y.im u q)->LM Y l (Y.mul v u) x->LM Y (R::l) u x
theorem LM.least(L:gN Y):∀{l:List (Rg α)}{i:Nat}{u x:α},VL Y l i->Y.S u->LM Y l u x->(∃w,H Y l w/\x=Y.mul w u)/\∀w,H Y l w->x=Y.mul w u\/Lt Y x (Y.mul w u)
 |[],i,u,x,hv,hs,h=>by
  cases h
  refine⟨⟨Y.one,rfl,(L.one_mul hs).symm⟩,λw hw=>?_⟩
  have v8:w=Y.one:=hw
  rw[v8,L.one_mul hs];exact .inl rfl
 |R::l,i,u,x,hv,hs,h=>by
  cases h
  rename_i p v hp Bf hl
  refine ao λnO=>cS hv λhV hi Q_=>cS (hV.st p v hp) λs2 f2 f3=>?_
  obtain⟨⟨w',v8,ex⟩,ih⟩:=LM.least L Q_ (L.sm s2 hs) hl
  obtain⟨Jl,Tf⟩:=H.good L Q_ v8
  refine nO ?_
  have hx:x=Y.mul (Y.mul w' v) u:=by rw[ex,L.assoc Jl s2 hs]
  refine⟨⟨Y.mul w' v,⟨p,v,w',hp,v8,rfl⟩,hx⟩,?_⟩
  rintro w ⟨p2,v2,w2,xN,Tg,ew⟩
  refine ao λnO=>cS (hV.st p2 v2 xN) λs3 g2 g3=>?_
  obtain⟨Nr,Th⟩:=H.good L Q_ Tg
  refine nO ?_
  by_cases e:p2=p
  .subst e
   have:v2=v:=lU hV.nd xN hp
   subst this
   rw[ew,L.assoc Nr s3 hs]
   exact ih w2 Tg
  .refine .inr ⟨i,hi,λk hk=>?_,?_⟩
   .rw[hx,ew,L.bg (L.sm Jl s2) hs (by lia),L.bg (L.sm Nr s3) hs (by lia),L.bg Jl s2 (by lia),L.bg Nr s3 (by lia),Tf k (by lia),Th k (by lia),f2 k hk,g2 k hk]
   .rw[hx,ew,L.bg (L.sm Jl s2) hs hi,L.bg (L.sm Nr s3) hs hi,L.bg Jl s2 hi,L.bg Nr s3 hi,Tf i (by lia),Th i (by lia),f3,g3]
    have h1:=Bf p2 (Xg.mpr ⟨_,xN,rfl⟩)
    have JU:p<Y.n:=by rw[<-f3];exact L.jV s2 hi
    have Ra:p2<Y.n:=by rw[<-g3];exact L.jV s3 hi
    have h2:Y.im u p≠Y.im u p2:=λz=>e (L.inj hs JU Ra z).symm
    lia
def fN(Y:Pg α)(M:α->Prop)(i p:Nat)(x:α):Prop:=M x/\i8 Y x i/\Y.im x i=p/\∀t,M t->i8 Y t i->Y.im t i=p->x=t\/Lt Y x t
def fN.Nt(h:fN Y M i p x)(h':fN Y M i p y):x=y:=by
 rcases h.2.2.2 y h'.1 h'.2.1 h'.2.2.1 with z|z
 .exact z
 .rcases h'.2.2.2 x h.1 h.2.1 h.2.2.1 with z'|z'
  .exact z'.symm
  .exact(z.N8 z').elim
def Hm.best(L:gN Y)(hM:gO Y M)(h:Hm Y M (R::l) i)(hu:(p,u)∈R)(hx:LM Y l u x):fN Y M i p x:=by
 refine cS (h.step L hu) λm1 f1 f2=>?_
 have hs:=hM.s u m1
 obtain⟨⟨w,hw,ex⟩,least⟩:=LM.least L h.1.2.2 hs hx
 obtain⟨mw,fw⟩:=((h.tail L).2 w).mp hw
 have sw:=hM.s w mw
 have hi:=h.1.2.1
 refine⟨by rw[ex];exact hM.mul _ _ mw m1,?_,?_,λt ht hf hp=>?_⟩
 .rw[ex];exact i8.mul L sw hs (by lia) (λk hk=>fw k (by lia)) f1
 .rw[ex,L.bg sw hs hi,fw i (by lia),f2]
 .refine a_ (h.split L ht hf) λu' w' h1 h2 e=>?_
  rw[hp]at h1
  have:u'=u:=lU h.1.1.nd h1 hu
  rw[e,this]
  exact least w' h2
def Bg(L:gN Y)(hM:gO Y M)(hi:i<Y.n):fN Y M i i Y.one:=by
 refine⟨hM.one,λk hk=>L.bN (by lia),L.bN hi,λt ht hf hp=>?_⟩
 have hs:=hM.s t ht
 by_cases all:∀k,k<Y.n->Y.im t k=k
 .exact .inl (L.ext L.s1 hs λk hk=>by rw[L.bN hk,all k hk])
 .
  have ex:∃j,j<Y.n/\Y.im t j≠j/\∀k,k<j->Y.im t k=k:=by
   have key:∀m,m<=Y.n->(∀k,k<m->Y.im t k=k)\/∃j,j<m/\Y.im t j≠j/\∀k,k<j->Y.im t k=k:=λm=>by
    induction m with
    |zero=>intro _;exact .inl λk hk=>by lia
    |succ m ih=>
     intro hm
     rcases ih (by lia)with z|⟨j,z1,z2,z3⟩
     .by_cases e:Y.im t m=m
      .exact .inl λk hk=>by
        rcases Yf k m with y|y
        .exact z k y
        .rw[show k=m by lia];exact e
      .exact .inr ⟨m,by lia,e,z⟩
     .exact .inr ⟨j,by lia,z2,z3⟩
   rcases key Y.n (Xf _)with z|⟨j,z1,z2,z3⟩
   .exact absurd z all
   .exact⟨j,z1,z2,z3⟩
  refine bF ex λj j1 j2 j3=> .inr ⟨j,j1,λk hk=>by rw[L.bN (by lia),j3 k hk],?_⟩
  rw[L.bN j1]
  rcases Z0 (Y.im t j) j with z|z|z
  .have:=L.inj hs (L.jV hs j1) j1 (j3 _ z)
   lia
  .exact absurd z j2
  .exact z
def Jm(Y:Pg α)(M:α->Prop):List (Rg α)->Nat->Prop
 |[],i=>i=Y.n
 |R::l,i=>i<Y.n/\(∀p x,(p,x)∈R->fN Y M i p x)/\(∀t,M t->i8 Y t i->∃x,(Y.im t i,x)∈R)/\(R.map (·.1)).Nodup /\Jm Y M l (i+1)
theorem Jm.hm(L:gN Y)(hM:gO Y M):∀{l:List (Rg α)}{i:Nat},Jm Y M l i->Hm Y M l i
 |[],i,h=>by
  have h':i=Y.n:=h
  refine⟨h,λt=>⟨λht=>?_,λ⟨h1,h2⟩=>?_⟩⟩
  .have e:t=Y.one:=ht
   rw[e]
   exact⟨hM.one,λk hk=>L.bN (by lia)⟩
  .exact L.ext (hM.s t h1) L.s1 λk hk=>by rw[h2 k (by lia),L.bN hk]
 |R::l,i,⟨hi,hb,ha,nd,hl⟩=>by
  have ih:=Jm.hm L hM hl
  have Jn:(i,Y.one)∈R:=by
   obtain⟨x,hx⟩:=ha Y.one hM.one λk hk=>L.bN (by lia)
   rw[L.bN hi]at hx
   have:=(hb i x hx).Nt (Bg L hM hi)
   rw[this]at hx
   exact hx
  have hV:VL Y (R::l) i:=⟨⟨λp u hu=>by
   exact yA (hb p u hu) λb1 b2 b3 _=>⟨hM.s u b1,b2,b3⟩,Jn,nd⟩,hi,ih.1⟩
  refine⟨hV,λt=>⟨?_,λ⟨h1,h2⟩=>?_⟩⟩
  .rintro⟨p,u,w,hu,hw,e⟩
   refine yA (hb p u hu) λb1 b2 b3 _=>?_
   obtain⟨mw,fw⟩:=(ih.2 w).mp hw
   rw[e]
   exact⟨hM.mul _ _ mw b1,i8.mul L (hM.s w mw) (hM.s u b1) (by lia) (λk hk=>fw k (by lia)) b2⟩
  .obtain⟨x,hx⟩:=ha t h1 h2
   refine yA (hb _ x hx) λb1 b2 b3 _=>?_
   have st:=hM.s t h1
   have sx:=hM.s x b1
   have sI:=L.si sx
   refine⟨_,x,Y.mul t (Y.inv x),hx,(ih.2 _).mpr ⟨hM.mul _ _ h1 (hM.inv _ b1),λk hk=>?_⟩,by rw[L.assoc st sI sx,L.inv_mul sx,L.mul_one st]⟩
   rw[L.bg st sI (by lia)]
   rcases Yf k i with z|z
   .rw[h2 k z];exact i8.inv L sx (by lia) b2 k z
   .have e:k=i:=by lia
    rw[e,<-b3,<-L.bg sx sI hi,L.ic sx,L.bN hi]
noncomputable def TL(Y:Pg α):List (Rg α)->List α
 |[]=>[Y.one]
 |R::l=>R.flatMap λe=>(TL Y l).map λw=>Y.mul w e.2
theorem qI:∀{l:List (Rg α)}{t:α},t∈TL Y l↔H Y l t
 |[],t=>Xc
 |R::l,t=>by
  unfold TL
  simp only[Yu,Xg]
  constructor
  .rintro⟨e,he,w,hw,rfl⟩
   exact⟨e.1,e.2,w,he,qI.mp hw,rfl⟩
  .rintro⟨p,u,w,hu,hw,e⟩
   exact⟨(p,u),hu,w,qI.mpr hw,e.symm⟩
theorem tE(L:gN Y):∀{l:List (Rg α)}{i:Nat},VL Y l i->(TL Y l).Nodup
 |[],_,_=>by simp[TL]
 |R::l,i,⟨hV,hi,hl⟩=>by
  have ih:=tE L hl
  have good:∀w,w∈TL Y l->Y.S w/\i8 Y w (i+1):=λw hw=>H.good L hl (qI.mp hw)
  have key:∀{R':Rg α},(∀p u,(p,u)∈R'->Y.S u/\Y.im u i=p)->(R'.map (·.1)).Nodup ->(R'.flatMap λe=>(TL Y l).map λw=>Y.mul w e.2).Nodup :=λ{R'}=>by
   induction R' with
   |nil=>intro _ _;simp
   |cons e R' Hl=>
    intro hs nd
    rw[Xy,XR]at nd
    obtain⟨se,pe⟩:=hs e.1 e.2 Xd
    rw[Z4,Yy]
    refine⟨?_,Hl (λp u h=>hs p u (W_ _ h)) nd.2,λa ha b hb z=>?_⟩
    .refine Yx.mpr (ih.imp_of_mem λ{a b} ha hb gx uE=>gx ?_)
     have sa:=(good a ha).1
     have sb:=(good b hb).1
     have sI:=L.si se
     have:Y.mul (Y.mul a e.2) (Y.inv e.2)=Y.mul (Y.mul b e.2) (Y.inv e.2):=congrArg (λx=>Y.mul x (Y.inv e.2)) uE
     rwa [L.assoc sa se sI,L.assoc sb se sI,L.ic se,L.mul_one sa,L.mul_one sb]at this
    .refine ab (Xg.mp ha) λw hw ah=>?_
     subst ah
     refine ab (Yu.mp hb) λe' Bh j6=>ab (Xg.mp j6) λw' v8 aK=>?_
     subst aK
     obtain⟨V9,V_⟩:=hs e'.1 e'.2 (W_ _ Bh)
     have h1:Y.im (Y.mul w e.2) i=e.1:=by rw[L.bg (good w hw).1 se hi,(good w hw).2 i (by lia),pe]
     have h2:Y.im (Y.mul w' e'.2) i=e'.1:=by rw[L.bg (good w' v8).1 V9 hi,(good w' v8).2 i (by lia),V_]
     rw[z,h2]at h1
     exact nd.1 (Xg.mpr ⟨e',Bh,h1⟩)
  exact key (λp u h=>⟨(hV.st p u h).1,(hV.st p u h).2.2⟩) hV.nd
end
open Py
noncomputable def pg(s:Nat):Pg (List Int) where
 n:=s
 S:=λp=>p∈perms s
 mul:=comp
 inv:=ip
 one:=bu s
 im:=λp k=>(p.getD k 0).toNat
section
variable {s:Nat}
def Jo(hp:p∈perms s)(hk:k<s):p.getD k 0∈p:=getD_mem (by rw[az hp];exact hk)
def wI(hp:p∈perms s)(hk:k<s):0<=p.getD k 0/\p.getD k 0<s:=(ax.mp hp).2.2 _ (Jo hp hk)
def iK(hp:p∈perms s)(hk:k<s):p.getD k 0=(((pg s).im p k:Nat):Int):=by
 have:=wI hp hk
 show _=(((p.getD k 0).toNat :Nat):Int)
 lia
def Er(hp:p∈perms s)(hk:k<s):(comp p q).getD k 0=q.getD (p.getD k 0).toNat 0:=by
 have hl:k<p.length:=by rw[az hp];exact hk
 unfold comp
 rw[Xi,Xn,W9 hl,Xi (l:=p),W9 hl]
 rfl
def uW(hk:k<s):(bu s).getD k 0=(k:Int):=by
 unfold bu
 rw[Xi,Xn,YE hk]
 rfl
def aP:gN (pg s) where
 s1:=dh s
 sm:=λha hb=>hZ ha hb
 si:=λha=>jR ha
 assoc:=λha hb _=>iZ ha hb
 mul_one:=λha=>jQ ha
 one_mul:=λha=>m7 ha
 ic:=λha=>El ha
 inv_mul:=λha=>wD ha
 bN:=λ{k} hk=>by
  show((bu s).getD k 0).toNat =k
  rw[uW (s:=s) hk];lia
 bg:=λ{a b k} ha hb hk=>by
  show((comp a b).getD k 0).toNat =(b.getD (a.getD k 0).toNat 0).toNat
  rw[Er ha hk]
 jV:=λ{a k} ha hk=>by
  have:=wI ha hk
  show(a.getD k 0).toNat<s
  lia
 ext:=λ{a b} ha hb h=>by
  apply Yv
  intro k
  rcases Yf k s with z|z
  .have h1:=iK ha z
   have h2:=iK hb z
   have h3:=h k z
   rw[h3]at h1
   have e:a.getD k 0=b.getD k 0:=h1.trans h2.symm
   rw[Xi,Xi]at e
   have la:k<a.length:=by rw[az ha];exact z
   have lb:k<b.length:=by rw[az hb];exact z
   rw[W9 la,W9 lb]at e⊢
   simpa using e
  .rw[Xz (by rw[az ha];exact z),Xz (by rw[az hb];exact z)]
theorem wJ:∀{a b:List Int},a.length=b.length->(cN.bC a b=true↔ ∃i,i<a.length/\(∀k,k<i->a.getD k 0=b.getD k 0)/\a.getD i 0<b.getD i 0)
 |[],[],_=>by simp[cN.bC]
 |[],_::_,h=>by simp at h
 |_::_,[],h=>by simp at h
 |x::a,y::b,h=>by
  have hl:a.length=b.length:=by simpa using h
  unfold cN.bC
  by_cases e:x=y
  .rw[Xs e,wJ hl]
   constructor
   .rintro⟨i,h1,h2,h3⟩
    refine⟨i+1,by simpa using h1,λk hk=>?_,by simpa using h3⟩
    cases k with
    |zero=>simpa using e
    |succ k=>simpa using h2 k (by lia)
   .rintro⟨i,h1,h2,h3⟩
    cases i with
    |zero=>
     have:x<y:=by simpa using h3
     lia
    |succ i=>exact⟨i,by simpa using h1,λk hk=>by simpa using h2 (k+1) (by lia),by simpa using h3⟩
  .rw[Xx e]
   constructor
   .intro h
    have:=of_decide_eq_true h
    exact⟨0,by simp,λk hk=>by lia,by simpa using this⟩
   .rintro⟨i,h1,h2,h3⟩
    cases i with
    |zero=>exact decide_eq_true (by simpa using h3)
    |succ i=>exact absurd (by simpa using h2 0 (by lia)) e
def Es(ha:a∈perms s)(hb:b∈perms s):Lt (pg s) a b↔cN.bC a b=true:=by
 have la:=az ha
 have lb:=az hb
 rw[wJ (la.trans lb.symm),la]
 constructor
 .rintro⟨i,h1,h2,h3⟩
  refine⟨i,h1,λk hk=>?_,?_⟩
  .rw[iK ha (Zl hk h1),iK hb (Zl hk h1),h2 k hk]
  .rw[iK ha h1,iK hb h1];lia
 .rintro⟨i,h1,h2,h3⟩
  refine⟨i,h1,λk hk=>?_,?_⟩
  .show(a.getD k 0).toNat =(b.getD k 0).toNat
   rw[h2 k hk]
  .have:=wI ha h1
   show(a.getD i 0).toNat<(b.getD i 0).toNat
   lia
theorem Bi(L:gN (pg s))(hG:∀u,G u->u∈perms s)(hu:Gen (pg s) G u):∀m,Gen (pg s) G (pw u m)
 |0=>by
  have hp:u∈perms s:=Gen.S L hG hu
  have:pw u 0=bu s:=by show bu u.length=bu s;rw[az hp]
  rw[this];exact .one
 |m+1=>by
  have:=Gen.app L hG (Bi L hG hu m) hu
  exact this
def tG(h6:s<=6)(hG:∀u,G u->u∈perms s):gO (pg s) (Gen (pg s) G) where
 s:=λt ht=>Gen.S aP hG ht
 one:= .one
 mul:=λa b ha hb=>Gen.app aP hG ha hb
 inv:=λa ha=>by
  have hp:a∈perms s:=Gen.S aP hG ha
  refine yA (Bb h6 hp) λo1 o2 o3 _=>?_
  have e:comp a (pw a (yo a-1))=bu s:=by
   have:=Ba hp 1 (yo a-1)
   rw[Ji hp,show 1+(yo a-1)=yo a by lia,o1]at this
   exact this.symm
  have:ip a=pw a (yo a-1):=(ym hp (jS hp _) e).symm
  show Gen (pg s) G (ip a)
  rw[this]
  exact Bi aP hG ha _
end
end jU
namespace jU
section
variable {α:Type}{Y:Pg α}
open Classical in
noncomputable def cq(Y:Pg α)(M:α->Prop)(i p:Nat):α:=@Classical.epsilon α ⟨Y.one⟩ (fN Y M i p)
def fO(h:fN Y M i p x):cq Y M i p=x:=(@abi α (fN Y M i p) ⟨x,h⟩).Nt h
open Classical in
noncomputable def aT(Y:Pg α)(M:α->Prop)(i:Nat):Rg α:=((List.range Y.n).filter λp=>decide (∃x,fN Y M i p x)).map λp=>(p,cq Y M i p)
def nc{l:List Nat}(h:l.Pairwise (· < ·)):l.Nodup:=h.imp λz e=>by lia
def Nu{l m:List Nat}(h1:l.Pairwise (· < ·))(h2:m.Pairwise (· < ·))(h:∀a,a∈l↔a∈m):l=m:=
 ((List.perm_ext_iff_of_nodup (nc h1) (nc h2)).mpr h).eq_of_pairwise (λa b _ _ x y=>by lia) h1 h2
def Bj(L:gN Y){M:α->Prop}{i:Nat}(hi:i<Y.n)(hM:∀t,M t->Y.S t){R:Rg α}(hb:∀p x,(p,x)∈R->fN Y M i p x)(ha:∀t,M t->i8 Y t i->∃x,(Y.im t i,x)∈R)(hs:(R.map (·.1)).Pairwise (· < ·)):R=aT Y M i:=by
 have keys:R.map (·.1)=(List.range Y.n).filter λp=>@decide (∃x,fN Y M i p x) (Classical.propDecidable _):=by
  refine Nu hs (abj.sublist (abD)) λp=>?_
  rw[YI,XU,Xg]
  constructor
  .rintro⟨⟨q,x⟩,h1,h2⟩
   have MW:q=p:=h2
   subst MW
   have b:=hb q x h1
   exact⟨by rw[<-b.2.2.1];exact L.jV (hM x b.1) hi,@decide_eq_true _ (Classical.propDecidable _) ⟨x,b⟩⟩
  .rintro⟨h1,h2⟩
   obtain⟨x,b⟩:=@of_decide_eq_true _ (Classical.propDecidable _) h2
   obtain⟨y,hy⟩:=ha x b.1 b.2.1
   rw[b.2.2.1]at hy
   exact⟨(p,y),hy,rfl⟩
 unfold aT
 rw[<-keys,XY]
 have:R=R.map id:=(abB R).symm
 conv=>lhs;rw[this]
 refine ZI λe he=>?_
 show e=(e.1,cq Y M i e.1)
 rw[fO (hb e.1 e.2 he)]
def Bk:((aT Y M i).map (·.1)).Pairwise (· < ·):=by
 unfold aT
 rw[XY]
 have:((λx:Nat×α=>x.1) ∘ λp=>(p,cq Y M i p))=id:=rfl
 rw[this,abB]
 exact abj.sublist abD
def uX:∀p x,(p,x)∈aT Y M i->fN Y M i p x:=λp x h=>by
 refine ab (Xg.mp h) λq hq e=>?_
 cases e
 obtain⟨y,hy⟩:=@of_decide_eq_true _ (Classical.propDecidable _) (YI.mp hq).2
 rw[fO hy]
 exact hy
noncomputable def bE(Y:Pg α)(M:α->Prop)(i:Nat):List (Rg α):=(List.range' i (Y.n-i)).map (aT Y M)
theorem tH(L:gN Y){M:α->Prop}(hM:gO Y M)(tJ:∀i t,i<Y.n->M t->i8 Y t i->∃x,fN Y M i (Y.im t i) x):∀(m i:Nat),i+m=Y.n->Jm Y M ((List.range' i m).map (aT Y M)) i
 |0,i,h=>by
  show i=Y.n
  lia
 |m+1,i,h=>by
  rw[aab,Xy]
  have hi:i<Y.n:=by lia
  refine⟨hi,uX,λt ht hf=>?_,nc Bk,tH L hM tJ m (i+1) (by lia)⟩
  obtain⟨x,hx⟩:=tJ i t hi ht hf
  have hp:Y.im t i<Y.n:=L.jV (hM.s t ht) hi
  exact⟨cq Y M i (Y.im t i),Xg.mpr ⟨Y.im t i,YI.mpr ⟨XU.mpr hp,@decide_eq_true _ (Classical.propDecidable _) ⟨x,hx⟩⟩,rfl⟩⟩
theorem Bl(f:β->Nat):∀{l:List β},l≠[]->∃e∈l,∀e'∈l,f e<=f e'
 |[],h=>absurd rfl h
 |[x],_=>⟨x,Xc.mpr rfl,λy hy=>by rw[Xc.mp hy];exact Xf _⟩
 |x::y::l,_=>by
  refine ab (Bl f (l:=y::l) (by simp)) λe h1 h2=>?_
  by_cases c:f x<=f e
  .refine⟨x,Xd,λz hz=>?_⟩
   rcases Xl.mp hz with rfl|hz
   .exact Xf _
   .exact Xq c (h2 z hz)
  .refine⟨e,W_ _ h1,λz hz=>?_⟩
   rcases Xl.mp hz with rfl|hz
   .lia
   .exact h2 z hz
theorem LM.ex:∀{l:List (Rg α)}{i:Nat},VL Y l i->∀u,∃x,LM Y l u x
 |[],_,_,u=>⟨u,.nil⟩
 |R::l,i,⟨hV,_,hl⟩,u=>by
  refine ab (Bl (λe:Nat×α=>Y.im u e.1) (l:=R) (λz=>by have:=hV.one;rw[z]at this;cases this)) λe h1 h2=>?_
  obtain⟨x,hx⟩:=LM.ex hl (Y.mul e.2 u)
  refine⟨x,.cons (p:=e.1) (v:=e.2) h1 (λq hq=>?_) hx⟩
  refine ab (Xg.mp hq) λe' Bh ah=>?_
  subst ah
  exact h2 e' Bh
theorem Hm.wK(L:gN Y)(hM:gO Y M):∀{l:List (Rg α)}{i:Nat},Hm Y M l i->∀j t,i<=j->j<Y.n->M t->i8 Y t j->∃x,fN Y M j (Y.im t j) x
 |[],i,h,j,t,h1,h2,_,_=>by
  have:i=Y.n:=h.1
  lia
 |R::l,i,h,j,t,h1,h2,ht,hf=>by
  rcases Yf i j with z|z
  .exact Hm.wK L hM (h.tail L) j t (by lia) h2 ht hf
  .have e:j=i:=by lia
   subst e
   refine a_ (h.split L ht hf) λu w hu _ _=>?_
   obtain⟨x,hx⟩:=LM.ex h.1.2.2 u
   exact⟨x,h.best L hM hu hx⟩
def Bm(L:gN Y)(hM:gO Y M)(h:Hm Y M l 0):Jm Y M (bE Y M 0) 0/\(∀t,t∈TL Y (bE Y M 0)↔M t)/\(TL Y (bE Y M 0)).Nodup :=by
 have hl:Jm Y M (bE Y M 0) 0:=tH L hM (λi t hi ht hf=>h.wK L hM i t (XQ _) hi ht hf) _ 0 (by lia)
 have hm:=hl.hm L hM
 refine⟨hl,λt=>?_,tE L hm.1⟩
 rw[qI,hm.2 t]
 exact⟨λz=>z.1,λz=>⟨z,λk hk=>by lia⟩⟩
def Fd.hm(L:gN Y)(hG:∀u,G u->Y.S u)(h:Fd Y G l []):Hm Y (Gen Y G) l 0:=
 ⟨h.v,λt=>⟨λz=>⟨(h.done L hG t).mp z,λk hk=>by lia⟩,λz=>(h.done L hG t).mpr z.1⟩⟩
end
section
variable {α β:Type}{act:β->α->β}{b t:β}{G D:List α}{B W:List β}
inductive F5(act:β->α->β)(b:β)(G:List α):β->Prop
 |one:F5 act b G b
 |mul:F5 act b G x->g∈G->F5 act b G (act x g)
structure Al(act:β->α->β)(b:β)(G:List α)(B W:List β):Prop where
 one:b∈B
 nd:B.Nodup
 wb:∀x∈W,x∈B
 gen:∀x∈B,F5 act b G x
 out:∀x∈B,x∉W->∀g∈G,act x g∈B
def V':Al act b G [b] [b] where
 one:=Xc.mpr rfl
 nd:=by simp
 wb:=λ_ h=>h
 gen:=λx hx=>by rw[Xc.mp hx];exact .one
 out:=λx hx h=>absurd hx h
structure Am(act:β->α->β)(b:β)(G:List α)(t:β)(D:List α)(B W:List β):Prop where
 one:b∈B
 nd:B.Nodup
 wb:∀x∈W,x∈B
 gen:∀x∈B,F5 act b G x
 tb:t∈B
 out:∀x∈B,x∉W->x≠t->∀g∈G,act x g∈B
 now:∀g∈D,act t g∈B
def Al.start(h:Al act b G B (W++[t])):Am act b G t [] B W where
 one:=h.one
 nd:=h.nd
 wb:=λx hx=>h.wb x (XC _ hx)
 gen:=h.gen
 tb:=h.wb t (Xv _ (Xc.mpr rfl))
 out:=λx hx h1 h2=>h.out x hx λz=>(Xr.mp z).elim h1 λz=>h2 (Xc.mp z)
 now:=λ_ h=>nomatch h
def Am.old(h:Am act b G t D B W)(hg:act t g∈B):Am act b G t (D++[g]) B W:=
 ⟨h.one,h.nd,h.wb,h.gen,h.tb,h.out,λx hx=>(Xr.mp hx).elim (h.now x) λz=>by rw[Xc.mp z];exact hg⟩
def Am.new(h:Am act b G t D B W)(hG:g∈G)(hg:act t g∉B):Am act b G t (D++[g]) (B++[act t g]) (W++[act t g]) where
 one:=XC _ h.one
 nd:=by
  rw[Yy]
  exact⟨h.nd,by simp,λa ha b hb e=>hg (by rw[<-Xc.mp hb,<-e];exact ha)⟩
 wb:=λx hx=>(Xr.mp hx).elim (λz=>XC _ (h.wb x z)) λz=>Xv _ z
 gen:=λx hx=>(Xr.mp hx).elim (h.gen x) λz=>by
  rw[Xc.mp z]
  exact .mul (h.gen t h.tb) hG
 tb:=XC _ h.tb
 out:=λx hx h1 h2 g' MM=>by
  rcases Xr.mp hx with z|z
  .exact XC _ (h.out x z (λy=>h1 (XC _ y)) h2 g' MM)
  .exact absurd (Xv _ z) h1
 now:=λx hx=>(Xr.mp hx).elim (λz=>XC _ (h.now x z)) λz=>by
  rw[Xc.mp z]
  exact Xv _ (Xc.mpr rfl)
def Am.fin[DecidableEq β](h:Am act b G t D B W)(hD:∀g∈G,g∈D):Al act b G B W where
 one:=h.one
 nd:=h.nd
 wb:=h.wb
 gen:=h.gen
 out:=λx hx hw g hg=>by
  by_cases e:x=t
  .rw[e];exact h.now g (hD g hg)
  .exact h.out x hx hw e g hg
def Al.done(h:Al act b G B [])(t:β):t∈B↔F5 act b G t:=by
 refine⟨h.gen t,λz=>?_⟩
 induction z with
 |one=>exact h.one
 |mul _ hu ih=>exact h.out _ ih (by simp) _ hu
end
def wL:F5 Py.comp (Py.bu s) G t↔Gen (pg s) (· ∈G) t:=by
 constructor
 .intro h
  induction h with
  |one=>exact .one
  |mul _ hu ih=>exact .mul ih hu
 .intro h
  induction h with
  |one=>exact .one
  |mul _ hu ih=>exact .mul ih hu
def Bn(hG:∀u∈G,u∈Py.perms s)(h:F5 Py.comp (Py.bu s) G t):t∈Py.perms s:=Gen.S aP hG (wL.mp h)
end jU
namespace bX
open Py
noncomputable def d0:Fd:=⟨1,1,(.seq (.ret (.gW .tuple (.u 0))) .skip)⟩
noncomputable def d1:Fd:=⟨2,2,(.seq (.ret (.prim .tuple (.cons (.comp [1] 0 (.it (.var 0)) .nil (.idx (.var 1) (.var 0))) .nil))) .skip)⟩
noncomputable def d2:Fd:=⟨1,1,(.seq (.ret (.prim .tuple (.cons (.comp [0] 0 (.eL (.cons (.prim .len (.u 0)) .nil)) .nil (.fj .index (.var 1) (.u 0))) .nil))) .skip)⟩
noncomputable def d3:Fd:=⟨2,5,(.seq (.asg 2 (.var 1)) (.seq (.for [3,4] 2 (.CH (.var 0)) (.seq (.ifs (.vw true (.idx (.var 2) (.var 3)) 4) (.seq (.ret (.var 2)) .skip) .skip) (.seq (.asg 2 (.call 1 (.w 2 (.cons (.call 2 (.cons (.dC 4 (.idx (.var 2) (.var 3))) .nil)) .nil)))) .skip))) (.seq (.ret (.var 2)) .skip)))⟩
noncomputable def d4:Fd:=⟨2,5,(.seq (.cU 2 (.lst .nil)) (.seq (.for [3] 0 (.it (.var 0)) (.seq (.for [4] 0 (.dv 3) (.seq (.app 2 (.call 1 (.w 1 (.u 4)))) (.seq (.app 2 (.call 1 (.w 4 (.u 1)))) .skip))) .skip)) (.seq (.ret (.var 2)) .skip)))⟩
noncomputable def d5:Fd:=⟨2,7,(.fst 2 [1] (.eL (.u 1)) (.var 0) (.call 0 (.u 1)) (.cU 3 (.prim .list (.u 0))) 3 4 3 (.cU 5 (.comp [4] 0 (.eL (.u 1)) (.cons (.cmp .NotEq (.idx (.var 1) (.var 0)) (.var 0)) .nil) (.var 0))) 5 (.asg 6 (.idx (.var 5) (.c (.int 0)))) (.var 6) (.idx (.var 4) (.var 6)) (.var 4) 4 (.var 4))⟩
noncomputable def d6:Fd:=⟨3,6,(.seq (.asg 3 (.var 2)) (.seq (.for [4] 0 (.it (.sl (.var 0) (.cons (.bin .Add (.var 1) (.c (.int 1))) .nil) .nil)) (.seq (.asg 5 (.prim .min (.cons (.comp [3] 0 (.dk 4) .nil (.idx (.var 1) (.var 0))) .nil))) (.seq (.asg 3 (.call 1 (.cons (.dC 4 (.fj .index (.var 3) (.u 5))) (.u 3)))) .skip))) (.seq (.ret (.var 3)) .skip)))⟩
noncomputable def d7:Fd:=⟨2,3,(.seq (.asg 2 (.idx (.var 0) (.var 1))) (.seq (.ret (.prim .tuple (.cons (.comp [0,1,2] 0 (.it (.eE 2)) .nil (.tup (.w 0 (.cons (.call 6 (.w 1 (.w 2 (.cons (.dC 3 (.var 0)) .nil)))) .nil)))) .nil))) .skip))⟩
noncomputable def d8:Fd:=⟨2,3,(.seq (.asg 2 (.call 5 (.w 0 (.u 1)))) (.seq (.ret (.prim .tuple (.cons (.comp [2] 0 (.eL (.u 1)) .nil (.call 7 (.w 1 (.u 0)))) .nil))) .skip))⟩
noncomputable def d9:Fd:=⟨1,3,(.seq (.cU 1 (.lst .nil)) (.seq (.for [2] 0 (.it (.var 0)) (.seq (.ext 1 (.comp [] 0 (.it (.var 2)) .nil (.idx (.var 0) (.c (.int 1))))) .skip)) (.seq (.ret (.prim .tuple (.u 1))) .skip)))⟩
noncomputable def Jp:Fd:=⟨2,2,(.seq (.ifs (.f_ false (.cons (.not (.fQ (.var 0) .tuple)) (.cons (.cmp .NotEq (.prim .len (.u 0)) (.c (.int 2))) .nil))) (.seq (.ret (.c (.bl false))) .skip) .skip) (.seq (.ret (.f_ true (.cons (.call 29 (.cons (.idx (.var 0) (.c (.int 0))) .nil)) (.cons (.call 30 (.cons (.idx (.var 0) (.c (.int 1))) (.u 1))) .nil)))) .skip))⟩
noncomputable def Nv:Fd:=⟨2,2,(.seq (.ret (.f_ true (.cons (.fQ (.var 0) .tuple) (.cons (.prim .all (.cons (.comp [1] 0 (.it (.var 0)) .nil (.call 10 (.w 0 (.u 1)))) .nil)) .nil)))) .skip)⟩
noncomputable def Jq:Fd:=⟨2,2,(.seq (.ifs (.f_ false (.cons (.not (.fQ (.var 0) .tuple)) (.cons (.not (.prim .all (.cons (.comp [1] 0 (.it (.var 0)) .nil (.call 11 (.w 0 (.u 1)))) .nil))) .nil))) (.seq (.ret (.c (.bl false))) .skip) .skip) (.seq (.ret (.cmp .Eq (.call 8 (.cons (.call 9 (.u 0)) (.u 1))) (.var 0))) .skip))⟩
noncomputable def Ti:Fd:=⟨2,2,(.seq (.ifs (.cmp .Lt (.var 1) (.prim .len (.u 0))) (.seq (.ret (.idx (.var 0) (.var 1))) .skip) .skip) (.seq (.ret (.c (.int 0))) .skip))⟩
noncomputable def Tj:Fd:=⟨2,3,(.seq (.asg 2 (.bin .Mod (.bin .Mult (.bin .Add (.bin .Add (.call 13 (.w 0 (.u 1))) (.bin .Mult (.c (.int 7919)) (.var 1))) (.c (.int 1))) (.c (.int 48271))) (.c (.int 2147483647)))) (.seq (.ret (.bin .Mod (.bin .Add (.bin .Add (.bin .Mult (.var 2) (.var 2)) (.bin .Mult (.c (.int 7)) (.var 2))) (.var 1)) (.c (.int 2147483629)))) .skip))⟩
noncomputable def Tn:Fd:=⟨2,3,(.seq (.asg 2 (.bin .Mod (.bin .Mult (.bin .Add (.bin .Add (.var 0) (.bin .Mult (.c (.int 104729)) (.var 1))) (.c (.int 17))) (.c (.int 69621))) (.c (.int 2147483647)))) (.seq (.ret (.bin .Mod (.bin .Add (.bin .Add (.bin .Mult (.var 2) (.var 2)) (.bin .Mult (.c (.int 3)) (.var 2))) (.var 1)) (.c (.int 2147483629)))) .skip))⟩
noncomputable def To:Fd:=⟨2,10,(.seq (.cU 2 (.gW .list (.u 1))) (.seq (.ifs (.cmp .Eq (.bin .Mod (.var 0) (.c (.int 3))) (.c (.int 0))) (.seq (.asg 3 (.bin .Mod (.bin .FloorDiv (.var 0) (.c (.int 3))) (.var 1))) (.seq (.asg 4 (.bin .Mod (.bin .FloorDiv (.var 0) (.c (.int 18))) (.var 1))) (.seq (.mr 2 (.var 3) (.var 4)) (.seq (.mr 2 (.var 4) (.var 3)) (.seq (.ret (.prim .tuple (.u 2))) .skip))))) .skip) (.seq (.ifs (.cmp .Eq (.bin .Mod (.var 0) (.c (.int 3))) (.c (.int 1))) (.seq (.asg 5 (.bin .Add (.c (.int 1)) (.bin .Mod (.bin .FloorDiv (.var 0) (.c (.int 3))) (.var 1)))) (.seq (.asg 6 (.bin .Mod (.bin .FloorDiv (.var 0) (.c (.int 18))) (.var 1))) (.seq (.for [7] 0 (.eL (.u 5)) (.seq (.mr 2 (.bin .Mod (.bin .Add (.var 6) (.var 7)) (.var 1)) (.bin .Mod (.bin .Add (.var 6) (.bin .Mod (.bin .Add (.var 7) (.c (.int 1))) (.var 5))) (.var 1))) .skip)) (.seq (.ret (.prim .tuple (.u 2))) .skip)))) .skip) (.seq (.cU 8 (.lst .nil)) (.seq (.for [7] 0 (.eL (.u 1)) (.seq (.asg 9 (.bin .Mod (.call 15 (.w 0 (.u 7))) (.bin .Add (.prim .len (.u 8)) (.c (.int 1))))) (.seq (.cU 8 (.bin .Add (.bin .Add (.sl (.var 8) .nil (.u 9)) (.lst (.u 7))) (.sl (.var 8) (.u 9) .nil))) .skip))) (.seq (.ret (.prim .tuple (.u 8))) .skip))))))⟩
noncomputable def Tp:Fd:=⟨2,2,(.seq (.ret (.prim .tuple (.cons (.comp [0,1] 0 (.eL (.cons (.idx (.tup (.cons (.c (.int 1)) (.cons (.c (.int 1)) (.cons (.c (.int 2)) (.cons (.c (.int 2)) (.cons (.c (.int 3)) (.cons (.c (.int 0)) (.cons (.c (.int 6)) .nil)))))))) (.bin .Mod (.var 0) (.c (.int 7)))) .nil)) .nil (.call 16 (.cons (.call 15 (.w 1 (.u 0))) (.u 2)))) .nil))) .skip)⟩
noncomputable def Tq:Fd:=⟨2,2,(.seq (.ret (.prim .tuple (.cons (.comp [1] 0 (.it (.var 0)) .nil (.idx (.var 1) (.var 0))) .nil))) .skip)⟩
noncomputable def Et:Fd:=⟨2,8,(.seq (.asg 2 (.gW .tuple (.u 1))) (.seq (.pW 3 1 (.w 2 (.cons (.c (.bl true)) .nil))) (.seq (.cU 4 (.lst (.u 2))) (.seq (.while (.cmp .NotEq (.var 4) (.lst .nil)) (.seq (.pop 5 4) (.seq (.for [6] 0 (.it (.var 0)) (.seq (.asg 7 (.call 18 (.w 5 (.u 6)))) (.seq (.ifs (.vw true (.var 7) 3) (.seq (.rA 3 (.var 7) (.c (.bl true))) (.seq (.app 4 (.var 7)) .skip)) .skip) .skip))) .skip))) (.seq (.ret (.eE 3)) .skip)))))⟩
noncomputable def Jr:Fd:=⟨2,7,(.seq (.cU 2 (.lst .nil)) (.seq (.for [3] 0 (.eL (.u 1)) (.seq (.cU 4 (.lst .nil)) (.seq (.for [5] 0 (.eL (.u 1)) (.seq (.cU 6 (.comp [3,5] 0 (.it (.var 0)) (.cons (.f_ true (.cons (.cmp .Eq (.sl (.var 0) .nil (.u 1)) (.gW .tuple (.u 1))) (.cons (.cmp .Eq (.idx (.var 0) (.var 1)) (.var 2)) .nil))) .nil) (.var 0))) (.seq (.ifs (.cmp .NotEq (.var 6) (.lst .nil)) (.seq (.app 4 (.tup (.w 5 (.cons (.prim .min (.u 6)) .nil)))) .skip) .skip) .skip))) (.seq (.app 2 (.prim .tuple (.u 4))) .skip)))) (.seq (.ret (.prim .tuple (.u 2))) .skip)))⟩
noncomputable def Tr:Fd:=⟨3,3,(.seq (.ret (.f_ true (.cons (.fQ (.var 0) .int) (.cons (.not (.fQ (.var 0) .bool)) (.cons (.chain .LtE .LtE (.var 1) (.var 0) (.var 2)) .nil))))) .skip)⟩
noncomputable def Tt:Fd:=⟨2,2,(.seq (.ifs (.f_ false (.cons (.not (.fQ (.var 0) .tuple)) (.cons (.cmp .NotEq (.prim .len (.u 0)) (.var 1)) .nil))) (.seq (.ret (.c (.bl false))) .skip) .skip) (.seq (.ret (.f_ true (.cons (.cmp .Eq (.comp [1] 0 (.it (.var 0)) (.cons (.not (.call 21 (.w 0 (.cons (.c (.int 0)) (.cons (.bin .Sub (.var 1) (.c (.int 1))) .nil))))) .nil) (.var 0)) (.lst .nil)) (.cons (.cmp .Eq (.prim .sorted (.u 0)) (.gW .list (.u 1))) .nil)))) .skip))⟩
noncomputable def Rb:Fd:=⟨2,2,(.seq (.ret (.f_ true (.cons (.fQ (.var 0) .bool) (.cons (.cmp .Eq (.var 0) (.var 1)) .nil)))) .skip)⟩
noncomputable def Tu:Fd:=⟨1,2,(.seq (.cU 1 (.lst (.cons (.neg (.c (.int 1))) (.cons (.c (.int 0)) (.cons (.c (.int 1)) (.cons (.c (.int 2)) (.cons (.c (.int 5)) (.cons (.c (.int 6)) (.cons (.c (.bl true)) (.cons (.c (.bl false)) (.cons (.c .dj) (.cons (.c (.str "")) (.cons (.c (.str "0")) (.cons (.tup .nil) (.cons (.lst .nil) (.cons (.tup (.cons (.c (.int 0)) .nil)) (.cons (.tup (.cons (.c (.int 0)) (.cons (.c (.int 1)) .nil))) (.cons (.tup (.cons (.c (.int 1)) (.cons (.c (.int 0)) .nil))) (.cons (.tup (.cons (.c (.int 0)) (.cons (.c (.int 0)) .nil))) (.cons (.tup (.cons (.tup (.cons (.c (.int 0)) .nil)) .nil)) (.cons (.tup (.cons (.c (.int 0)) (.cons (.tup (.cons (.c (.int 0)) .nil)) .nil))) .nil))))))))))))))))))))) (.seq (.ret (.idx (.var 1) (.bin .Mod (.var 0) (.c (.int 19))))) .skip))⟩
noncomputable def Tv:Fd:=⟨3,5,(.seq (.ifs (.f_ true (.cons (.cmp .Gt (.var 2) (.c (.int 0))) (.cons (.fQ (.var 0) .tuple) (.cons (.cmp .Gt (.prim .len (.u 0)) (.c (.int 0))) (.cons (.cmp .Gt (.bin .Mod (.var 1) (.c (.int 6))) (.c (.int 0))) .nil))))) (.seq (.asg 3 (.bin .Mod (.bin .FloorDiv (.var 1) (.c (.int 6))) (.prim .len (.u 0)))) (.seq (.asg 4 (.call 25 (.cons (.idx (.var 0) (.var 3)) (.cons (.bin .FloorDiv (.bin .FloorDiv (.var 1) (.c (.int 6))) (.prim .len (.u 0))) (.cons (.bin .Sub (.var 2) (.c (.int 1))) .nil))))) (.seq (.ret (.bin .Add (.bin .Add (.sl (.var 0) .nil (.u 3)) (.tup (.u 4))) (.sl (.var 0) (.cons (.bin .Add (.var 3) (.c (.int 1))) .nil) .nil))) .skip))) .skip) (.seq (.ifs (.f_ true (.cons (.fQ (.var 0) .tuple) (.cons (.cmp .Gt (.prim .len (.u 0)) (.c (.int 0))) (.cons (.cmp .Eq (.bin .Mod (.bin .FloorDiv (.var 1) (.c (.int 6))) (.c (.int 2))) (.c (.int 0))) .nil)))) (.seq (.ret (.idx (.lst (.cons (.prim .list (.u 0)) (.cons (.sl (.var 0) .nil (.cons (.neg (.c (.int 1))) .nil)) (.cons (.bin .Add (.var 0) (.sl (.var 0) (.cons (.neg (.c (.int 1))) .nil) .nil)) (.cons (.sl (.var 0) (.cons (.c (.int 1)) .nil) .nil) (.cons (.rev (.var 0)) (.cons (.bin .Mult (.var 0) (.c (.int 2))) .nil))))))) (.bin .Mod (.bin .FloorDiv (.var 1) (.c (.int 12))) (.c (.int 6))))) .skip) .skip) (.seq (.ifs (.f_ true (.cons (.fQ (.var 0) .int) (.cons (.cmp .Eq (.bin .Mod (.bin .FloorDiv (.var 1) (.c (.int 6))) (.c (.int 2))) (.c (.int 0))) .nil))) (.seq (.ret (.idx (.lst (.cons (.prim .str (.u 0)) (.cons (.neg (.var 0)) (.cons (.bin .Add (.var 0) (.c (.int 1))) (.cons (.cmp .Eq (.var 0) (.c (.int 1))) (.cons (.bin .Sub (.var 0) (.c (.int 1))) .nil)))))) (.bin .Mod (.bin .FloorDiv (.var 1) (.c (.int 12))) (.c (.int 5))))) .skip) .skip) (.seq (.ret (.call 24 (.cons (.bin .FloorDiv (.var 1) (.c (.int 6))) .nil))) .skip))))⟩
noncomputable def Kj:Fd:=⟨2,5,(.seq (.ifs (.f_ false (.cons (.not (.fQ (.var 0) .tuple)) (.cons (.cmp .NotEq (.prim .len (.u 0)) (.var 1)) .nil))) (.seq (.ret (.c (.bl false))) .skip) .skip) (.seq (.cU 2 (.lst .nil)) (.seq (.for [3] 0 (.it (.var 0)) (.seq (.ifs (.not (.fQ (.var 3) .tuple)) (.seq (.ret (.c (.bl false))) .skip) .skip) (.seq (.for [4] 0 (.it (.var 3)) (.seq (.ifs (.f_ false (.cons (.not (.fQ (.var 4) .tuple)) (.cons (.cmp .NotEq (.prim .len (.u 4)) (.c (.int 2))) (.cons (.not (.call 21 (.cons (.idx (.var 4) (.c (.int 0))) (.cons (.c (.int 0)) (.cons (.bin .Sub (.var 1) (.c (.int 1))) .nil))))) .nil)))) (.seq (.ret (.c (.bl false))) .skip) .skip) (.seq (.ifs (.not (.call 22 (.cons (.idx (.var 4) (.c (.int 1))) (.u 1)))) (.seq (.ret (.c (.bl false))) .skip) .skip) (.seq (.app 2 (.idx (.var 4) (.c (.int 1)))) .skip)))) .skip))) (.seq (.Lm 2 (.cmp .Eq (.call 20 (.cons (.call 19 (.w 2 (.u 1))) (.u 1))) (.var 0))) .skip))))⟩
noncomputable def Js:Fd:=⟨3,7,(.seq (.asg 3 (.bin .Mod (.var 2) (.prim .len (.u 0)))) (.seq (.asg 4 (.idx (.var 0) (.var 3))) (.seq (.asg 5 (.bin .Mod (.bin .FloorDiv (.var 2) (.c (.int 6))) (.prim .len (.u 4)))) (.seq (.asg 6 (.tup (.cons (.idx (.idx (.var 4) (.var 5)) (.c (.int 0))) (.cons (.idx (.var 1) (.bin .Mod (.bin .FloorDiv (.var 2) (.c (.int 36))) (.prim .len (.u 1)))) .nil)))) (.seq (.ret (.bin .Add (.bin .Add (.sl (.var 0) .nil (.u 3)) (.tup (.cons (.bin .Add (.bin .Add (.sl (.var 4) .nil (.u 5)) (.tup (.u 6))) (.sl (.var 4) (.cons (.bin .Add (.var 5) (.c (.int 1))) .nil) .nil)) .nil))) (.sl (.var 0) (.cons (.bin .Add (.var 3) (.c (.int 1))) .nil) .nil))) .skip)))))⟩
noncomputable def Nw:Fd:=⟨1,7,(.seq (.asg 1 (.bin .Add (.c (.int 1)) (.bin .Mod (.call 14 (.w 0 (.cons (.c (.int 0)) .nil))) (.c (.int 5))))) (.seq (.asg 2 (.call 17 (.cons (.call 14 (.w 0 (.cons (.c (.int 1)) .nil))) (.u 1)))) (.seq (.asg 3 (.call 8 (.w 2 (.u 1)))) (.seq (.asg 4 (.bin .Mod (.call 14 (.w 0 (.cons (.c (.int 2)) .nil))) (.c (.int 6)))) (.seq (.ifs (.cmp .Lt (.var 4) (.c (.int 2))) (.seq (.asg 3 (.call 25 (.w 3 (.cons (.call 14 (.w 0 (.cons (.c (.int 3)) .nil))) (.cons (.bin .Mod (.bin .FloorDiv (.call 14 (.w 0 (.cons (.c (.int 2)) .nil))) (.c (.int 6))) (.c (.int 5))) .nil))))) .skip) .skip) (.seq (.ifs (.cmp .Eq (.var 4) (.c (.int 2))) (.seq (.asg 3 (.call 27 (.w 3 (.cons (.call 19 (.w 2 (.u 1))) (.cons (.call 14 (.w 0 (.cons (.c (.int 3)) .nil))) .nil))))) .skip) .skip) (.seq (.ifs (.cmp .Eq (.var 4) (.c (.int 3))) (.seq (.asg 5 (.bin .Mod (.call 14 (.w 0 (.cons (.c (.int 3)) .nil))) (.var 1))) (.seq (.asg 6 (.call 8 (.cons (.call 17 (.cons (.call 14 (.w 0 (.cons (.c (.int 4)) .nil))) (.u 1))) (.u 1)))) (.seq (.asg 3 (.bin .Add (.bin .Add (.sl (.var 3) .nil (.u 5)) (.sl (.var 6) (.u 5) (.cons (.bin .Add (.var 5) (.c (.int 1))) .nil))) (.sl (.var 3) (.cons (.bin .Add (.var 5) (.c (.int 1))) .nil) .nil))) .skip))) .skip) (.seq (.ret (.call 23 (.cons (.call 12 (.w 3 (.u 1))) (.cons (.call 26 (.w 3 (.u 1))) .nil)))) .skip))))))))⟩
noncomputable def Tw:Fd:=⟨1,1,(.seq (.ret (.f_ true (.cons (.fQ (.var 0) .int) (.cons (.not (.fQ (.var 0) .bool)) .nil)))) .skip)⟩
noncomputable def Tx:Fd:=⟨2,2,(.seq (.ifs (.not (.fQ (.var 0) .tuple)) (.seq (.ret (.c (.bl false))) .skip) .skip) (.seq (.ifs (.not (.prim .all (.cons (.comp [] 0 (.it (.var 0)) .nil (.call 29 (.u 0))) .nil))) (.seq (.ret (.c (.bl false))) .skip) .skip) (.seq (.ret (.cmp .Eq (.prim .sorted (.u 0)) (.gW .list (.u 1)))) .skip)))⟩
noncomputable def T:List Fd:=[d0,d1,d2,d3,d4,d5,d6,d7,d8,d9,Jp,Nv,Jq,Ti,Tj,Tn,To,Tp,Tq,Et,Jr,Tr,Tt,Rb,Tu,Tv,Kj,Js,Nw,Tw,Tx]
open jU
noncomputable abbrev kR(R:Rg (List Int)):List (List Int):=R.map λe=>[(e.1:Int)]
noncomputable abbrev vR(R:Rg (List Int)):List D:=R.map λe=>tp e.2
noncomputable def aq(R:Rg (List Int)):D:= .bz 0 (kR R) (vR R)
theorem ie:∀(R:Rg (List Int)) (k:Nat),iQ (kR R) (vR R) [(k:Int)]=(iC R k).map tp
 |[],k=>rfl
 |e::R,k=>by
  show iQ ([(e.1:Int)]::kR R) (tp e.2::vR R) [(k:Int)]=_
  rw[iQ]
  unfold iC
  rw[Y3]
  by_cases h:e.1=k
  .subst h
   rw[Xs rfl]
   simp
  .have h':¬([(e.1:Int)]=[(k:Int)]):=λz=>h (by injection z with z _;lia)
   rw[Xx h',ie R k]
   have:(e.1==k)=false:=by simp[h]
   rw[this]
   rfl
def Bo{R:Rg (List Int)}{k:Nat}:[(k:Int)]∈kR R↔iC R k≠none:=by
 constructor
 .intro h z
  refine ab (Xg.mp h) λe he hk=>?_
  have:e.1=k:=by injection hk with hk _;lia
  exact kH z (Xg.mpr ⟨e,he,this⟩)
 .intro h
  cases z:iC R k with
  |none=>exact absurd z h
  |some u=>exact Xg.mpr ⟨_,fM z,rfl⟩
section
variable {s:Nat}{F:FT}
def ng{t:List Int}(ht:t∈perms s){k:Nat}(hk:k<s):item (tp t) (.int k)=some (.int ((pg s).im t k:Nat)):=by
 rw[wC (by lia) (by rw[az ht];lia)]
 show some (D.int (t.getD (k:Int).toNat 0))=_
 rw[Yd,iK ht hk]
def wM(a b:Nat):((a:Int)==(b:Int))=decide (a=b):=by
 by_cases h:a=b
 .rw[h,decide_eq_true rfl];exact beq_self_eq_true _
 .rw[decide_eq_false h];exact beq_eq_false_iff_ne.mpr λz=>h (by lia)
theorem VL.len{Y:Pg (List Int)}:∀{l:List (Rg (List Int))}{i:Nat},VL Y l i->i+l.length=Y.n
 |[],i,h=>h
 |R::l,i,h=>by
  have:=VL.len h.2.2
  rw[Xt]
  lia
noncomputable abbrev lo1:C:=(.seq (.ifs (.vw true (.idx (.var 2) (.var 3)) 4) (.seq (.ret (.var 2)) .skip) .skip) (.seq (.asg 2 (.call 1 (.w 2 (.cons (.call 2 (.cons (.dC 4 (.idx (.var 2) (.var 3))) .nil)) .nil)))) .skip))
noncomputable abbrev LE(x0 x1:Option (Bool×D))(t:List Int)(x3 x4:Option (Bool×D)):Env:=[x0,x1,some (false,tp t),x3,x4]
def Eu(ht:∀p∈perms s,∀q∈perms s,F 1 [tp p,tp q]=some (tp (comp p q)))(hb:∀p∈perms s,F 2 [tp p]=some (tp (ip p))){x0 x1 x3 x4:Option (Bool×D)}{t:List Int}{i:Nat}{R:Rg (List Int)}(hi:i<s)(hv:V (pg s) i R)(hp:t∈perms s):
  ex F lo1 (LE x0 x1 t (some (false,.int i)) (some (false,aq R)))=match iC R ((pg s).im t i)with
   |some u=>some (.next (LE x0 x1 (comp t (ip u)) (some (false,.int i)) (some (false,aq R))))
   |none=>some (.ret (tp t)):=by
 have Ew:∀b,ev F b (.idx (.var 2) (.var 3)) (LE x0 x1 t (some (false,.int i)) (some (false,aq R)))=some (.int ((pg s).im t i:Nat)):=λb=>ng hp hi
 have Ex:ev F false (.vw true (.idx (.var 2) (.var 3)) 4) (LE x0 x1 t (some (false,.int i)) (some (false,aq R)))=some (.bl (!decide ([((pg s).im t i:Int)]∈kR R))):=by
  rw[PM,Ew]
  rfl
 cases e:iC R ((pg s).im t i)with
 |none=>
  have hn:¬[((pg s).im t i:Int)]∈kR R:=λz=>Bo.mp z e
  rw[decide_eq_false hn]at Ex
  rw[bP,ju,Ex]
  rfl
 |some u=>
  have hn:[((pg s).im t i:Int)]∈kR R:=Bo.mpr (by rw[e];simp)
  rw[decide_eq_true hn]at Ex
  have hu:u∈perms s:=(hv.st _ _ (fM e)).1
  have Bp:ev F true (.dC 4 (.idx (.var 2) (.var 3))) (LE x0 x1 t (some (false,.int i)) (some (false,aq R)))=some (tp u):=by
   rw[Lr,Ew]
   show iQ (kR R) (vR R) [((pg s).im t i:Int)]=_
   rw[ie,e]
   rfl
  have Wa:ev F true (.call 2 (.cons (.dC 4 (.idx (.var 2) (.var 3))) .nil)) (LE x0 x1 t (some (false,.int i)) (some (false,aq R)))=some (tp (ip u)):=aJ (kF Bp) (hb u hu) (aL _)
  have Rc:ev F false (.call 1 (.w 2 (.cons (.call 2 (.cons (.dC 4 (.idx (.var 2) (.var 3))) .nil)) .nil))) (LE x0 x1 t (some (false,.int i)) (some (false,aq R)))=some (tp (comp t (ip u))):=aJ (dG rfl Wa) (ht t hp _ (jR hu)) (aL _)
  rw[bP,ju,Ex]
  show(ex F (.seq (.asg 2 _) .skip) _)=_
  rw[bP,aD Rc]
  rfl
theorem wN(ht:∀p∈perms s,∀q∈perms s,F 1 [tp p,tp q]=some (tp (comp p q)))(hb:∀p∈perms s,F 2 [tp p]=some (tp (ip p))){x0 x1:Option (Bool×D)}:∀{l:List (Rg (List Int))}{i:Nat}{t:List Int}{x3 x4:Option (Bool×D)},VL (pg s) l i->t∈perms s->
  ∃o,aO (λx ρ=>(aG 2 x).bind λys=>(dq ρ [3,4] ys).bind λρ'=>ex F lo1 ρ') (bO i (l.map aq)) (LE x0 x1 t x3 x4)=some o/\(o= .ret (tp (dz (pg s) l i t))\/∃y3 y4,o= .next (LE x0 x1 (dz (pg s) l i t) y3 y4))
 |[],i,t,x3,x4,_,_=>⟨_,rfl,.inr ⟨x3,x4,rfl⟩⟩
 |R::l,i,t,x3,x4,hv,hp=>by
  have hi:i<s:=hv.2.1
  have h1:=Eu (x0:=x0) (x1:=x1) (x3:=x3) (x4:=x4) ht hb hi hv.1 hp
  show∃o,aO _ (.tup [.int i,aq R]::bO ((i:Int)+1) (l.map aq)) _=some o/\_
  rw[aO]
  show∃o,(ex F lo1 (LE x0 x1 t (some (false,.int i)) (some (false,aq R)))).bind _=some o/\_
  rw[h1]
  unfold dz
  cases e:iC R ((pg s).im t i)with
  |none=>exact⟨_,rfl,.inl rfl⟩
  |some u=>
   have hu:u∈perms s:=(hv.1.st _ _ (fM e)).1
   have:=wN ht hb (x0:=x0) (x1:=x1) (l:=l) (i:=i+1) (t:=comp t (ip u)) (x3:=some (false,.int i)) (x4:=some (false,aq R)) hv.2.2 (hZ hp (jR hu))
   rw[show(((i+1:Nat):Int))=(i:Int)+1 by lia]at this
   exact this
def Ey(ht:∀p∈perms s,∀q∈perms s,F 1 [tp p,tp q]=some (tp (comp p q)))(hb:∀p∈perms s,F 2 [tp p]=some (tp (ip p))){l:List (Rg (List Int))}{t:List Int}(hv:VL (pg s) l 0)(hp:t∈perms s):
  out (ex F d3.body (ai d3 [.lst (l.map aq),tp t]))=some (tp (dz (pg s) l 0 t)):=by
 refine ab (wN ht hb (x0:=some (false,.lst (l.map aq))) (x1:=some (false,tp t)) (x3:=none) (x4:=none) hv hp) λo h1 h2=>?_
 have hf:ex F (.for [3,4] 2 (.CH (.var 0)) lo1) (LE (some (false,.lst (l.map aq))) (some (false,tp t)) t none none)=some o:=h1
 have hx:ex F d3.body (ai d3 [.lst (l.map aq),tp t])=(ex F (.for [3,4] 2 (.CH (.var 0)) lo1) (LE (some (false,.lst (l.map aq))) (some (false,tp t)) t none none)).bind λo=>match o with
   | .next ρ'=>ex F (.seq (.ret (.var 2)) .skip) ρ'
   |o=>some o:=rfl
 rw[hx,hf]
 rcases h2 with rfl|⟨y3,y4,rfl⟩
 .rfl
 .rfl
noncomputable def oj(r:List Int)(R:Rg (List Int)):List (List Int):=R.flatMap λe=>[comp r e.2,comp e.2 r]
noncomputable def bh(r:List Int)(l:List (Rg (List Int))):List (List Int):=l.flatMap (oj r)
theorem jW(r:List Int):∀R:Rg (List Int),(oj r R).length =2*R.length
 |[]=>rfl
 |e::R=>by
  show([comp r e.2,comp e.2 r]++oj r R).length =_
  rw[Xk,jW r R,Xt]
  simp
  lia
noncomputable abbrev PE(x0:Option (Bool×D))(r:List Int)(acc:List (List Int))(x3 x4:Option (Bool×D)):Env:=[x0,some (false,tp r),some (true,.lst (acc.map tp)),x3,x4]
noncomputable abbrev Nx:C:=(.seq (.app 2 (.call 1 (.w 1 (.u 4)))) (.seq (.app 2 (.call 1 (.w 4 (.u 1)))) .skip))
noncomputable abbrev Ny:C:=(.seq (.for [4] 0 (.dv 3) Nx) .skip)
def gP(h:ev F false e ρ=some d)(hi:ρ[i]?=some (some (true,.lst xs)))(hl:xs.length<bj):ex F (.app i e) ρ=some (.next (put ρ i true (.lst (xs++[d])))):=by
 rw[Ls,h]
 show(match ρ[i]? with
  |some (some (true,.lst xs))=>if xs.length<bj then some (lB.next (put ρ i true (.lst (xs++[d])))) else none
  |_=>none)=_
 rw[hi]
 exact Xs hl
def Ez(ht:∀p∈perms s,∀q∈perms s,F 1 [tp p,tp q]=some (tp (comp p q)))(hr:r∈perms s)(hu:u∈perms s)(hl:acc.length+2<=10000):
  ex F Nx (PE x0 r acc x3 (some (false,tp u)))=some (.next (PE x0 r (acc++[comp r u,comp u r]) x3 (some (false,tp u)))):=by
 have h1:ev F false (.call 1 (.w 1 (.u 4))) (PE x0 r acc x3 (some (false,tp u)))=some (tp (comp r u)):=aJ (dG rfl rfl) (ht r hr u hu) (aL _)
 have h2:ev F false (.call 1 (.w 4 (.u 1))) (PE x0 r (acc++[comp r u]) x3 (some (false,tp u)))=some (tp (comp u r)):=aJ (dG rfl rfl) (ht u hu r hr) (aL _)
 have e1:acc.map tp++[tp (comp r u)]=(acc++[comp r u]).map tp:=by rw[XX];rfl
 have e2:(acc++[comp r u]).map tp++[tp (comp u r)]=(acc++[comp r u,comp u r]).map tp:=by rw[XX,XX];simp
 have eU:bj=16777216:=rfl
 have s1:ex F (.app 2 (.call 1 (.w 1 (.u 4)))) (PE x0 r acc x3 (some (false,tp u)))=some (.next (PE x0 r (acc++[comp r u]) x3 (some (false,tp u)))):=by
  rw[gP h1 (xs:=acc.map tp) rfl (by rw[Xb];lia),e1]
  rfl
 have s2:ex F (.app 2 (.call 1 (.w 4 (.u 1)))) (PE x0 r (acc++[comp r u]) x3 (some (false,tp u)))=some (.next (PE x0 r (acc++[comp r u,comp u r]) x3 (some (false,tp u)))):=by
  rw[gP h2 (xs:=(acc++[comp r u]).map tp) rfl (by rw[Xb,Xk,XG];lia),e2]
  rfl
 rw[bP,s1]
 show ex F (.seq (.app 2 _) .skip) _=_
 rw[bP,s2]
 rfl
theorem F6(ht:∀p∈perms s,∀q∈perms s,F 1 [tp p,tp q]=some (tp (comp p q)))(hr:r∈perms s):∀{R:Rg (List Int)}{acc:List (List Int)}{x4:Option (Bool×D)},(∀e∈R,e.2∈perms s)->acc.length+2*R.length<=10000->
  ∃y4,aO (λx ρ=>(aG 0 x).bind λys=>(dq ρ [4] ys).bind λρ'=>ex F Nx ρ') (vR R) (PE x0 r acc x3 x4)=some (.next (PE x0 r (acc++oj r R) x3 y4))
 |[],acc,x4,_,_=>⟨x4,by show some (lB.next _)=_;rw[show oj r []=[] from rfl,X7]⟩
 |e::R,acc,x4,h,hl=>by
  rw[Xt]at hl
  have hu:=h e Xd
  obtain⟨y4,ih⟩:=F6 ht (x0:=x0) (x3:=x3) hr (R:=R) (acc:=acc++[comp r e.2,comp e.2 r]) (x4:=some (false,tp e.2)) (λe' Bh=>h e' (W_ _ Bh)) (by rw[Xk];simp;lia)
  refine⟨y4,?_⟩
  show aO _ (tp e.2::vR R) _=_
  rw[aO]
  show(ex F Nx (PE x0 r acc x3 (some (false,tp e.2)))).bind _=_
  rw[Ez ht hr hu (by lia)]
  show aO _ (vR R) _=_
  rw[ih,XI]
  rfl
theorem Bq(ht:∀p∈perms s,∀q∈perms s,F 1 [tp p,tp q]=some (tp (comp p q)))(hr:r∈perms s):∀{l:List (Rg (List Int))}{acc:List (List Int)}{x3 x4:Option (Bool×D)},(∀R∈l,∀e∈R,e.2∈perms s)->acc.length+(bh r l).length <=10000->
  ∃y3 y4,aO (λx ρ=>(aG 0 x).bind λys=>(dq ρ [3] ys).bind λρ'=>ex F Ny ρ') (l.map aq) (PE x0 r acc x3 x4)=some (.next (PE x0 r (acc++bh r l) y3 y4))
 |[],acc,x3,x4,_,_=>⟨x3,x4,by show some (lB.next _)=_;rw[show bh r []=[] from rfl,X7]⟩
 |R::l,acc,x3,x4,h,hl=>by
  have e0:bh r (R::l)=oj r R++bh r l:=rfl
  rw[e0,Xk,jW]at hl
  obtain⟨z4,i1⟩:=F6 ht (x0:=x0) (x3:=some (false,aq R)) hr (R:=R) (acc:=acc) (x4:=x4) (h R Xd) (by lia)
  refine E2 (Bq ht (x0:=x0) hr (l:=l) (acc:=acc++oj r R) (x3:=some (false,aq R)) (x4:=z4) (λR' Wb=>h R' (W_ _ Wb)) (by rw[Xk,jW];lia)) λy3 y4 ih=>⟨y3,y4,?_⟩
  have hb:ex F Ny (PE x0 r acc (some (false,aq R)) x4)=some (.next (PE x0 r (acc++oj r R) (some (false,aq R)) z4)):=by
   have:ex F (.for [4] 0 (.dv 3) Nx) (PE x0 r acc (some (false,aq R)) x4)=some (.next (PE x0 r (acc++oj r R) (some (false,aq R)) z4)):=i1
   rw[bP,this]
   rfl
  rw[Xy,aO]
  show(ex F Ny (PE x0 r acc (some (false,aq R)) x4)).bind _=_
  rw[hb]
  show aO _ (l.map aq) _=_
  rw[ih,e0,XI]
def EA(ht:∀p∈perms s,∀q∈perms s,F 1 [tp p,tp q]=some (tp (comp p q)))(hr:r∈perms s)(h:∀R∈l,∀e∈R,e.2∈perms s)(hl:(bh r l).length <=10000):
  out (ex F d4.body (ai d4 [.lst (l.map aq),tp r]))=some (.lst ((bh r l).map tp)):=by
 refine E2 (Bq ht (x0:=some (false,.lst (l.map aq))) hr (l:=l) (acc:=[]) (x3:=none) (x4:=none) h (by simpa using hl)) λy3 y4 h1=>?_
 have hf:ex F (.for [3] 0 (.it (.var 0)) Ny) (PE (some (false,.lst (l.map aq))) r [] none none)=some (.next (PE (some (false,.lst (l.map aq))) r (bh r l) y3 y4)):=h1
 have hx:ex F d4.body (ai d4 [.lst (l.map aq),tp r])=(ex F (.for [3] 0 (.it (.var 0)) Ny) (PE (some (false,.lst (l.map aq))) r [] none none)).bind λo=>match o with
   | .next ρ'=>ex F (.seq (.ret (.var 2)) .skip) ρ'
   |o=>some o:=rfl
 rw[hx,hf]
 rfl
end
end bX
namespace jU
section
variable {α:Type}{Y:Pg α}
theorem lV(hM:gO Y M):∀{l:List (Rg α)}{i:Nat}{t:α},(∀u,St l u->M u)->M t->M (dz Y l i t)
 |[],_,_,_,h=>h
 |R::l,i,t,hs,h=>by
  unfold dz
  cases e:iC R (Y.im t i)with
  |none=>exact h
  |some u=>exact lV hM (λv ⟨R',hR,q⟩=>hs v ⟨R',W_ _ hR,q⟩) (hM.mul _ _ h (hM.inv _ (hs u ⟨R,Xd,_,fM e⟩)))
theorem wO:∀{l:List (Rg α)}{k:Nat}{R:Rg α},l[k]?=some R->add l k x=l.set k (R++[x])
 |[],_,_,h=>by simp at h
 |R::l,0,_,h=>by simp at h;subst h;rfl
 |R::l,k+1,R',h=>by
  show R::add l k x=R::l.set k (R'++[x])
  rw[wO (by simpa using h)]
noncomputable def cnt:List (Rg α)->Nat
 |[]=>0
 |R::l=>R.length+cnt l
theorem wQ:∀{l:List (Rg α)}{k:Nat}{R:Rg α},l[k]?=some R->cnt (add l k x)=cnt l+1
 |[],_,_,h=>by simp at h
 |R::l,0,_,h=>by
  show(R++[x]).length+cnt l=R.length+cnt l+1
  rw[Xk,XG];lia
 |R::l,k+1,R',h=>by
  show R.length+cnt (add l k x)=R.length+cnt l+1
  rw[wQ (by simpa using h)];lia
def Br{l:List Nat}{n:Nat}(nd:l.Nodup)(h:∀k∈l,k<n):l.length<=n:=by
 have:(l.map λk:Nat=>(k:Int)).length <=n:=Py.qE n _ (by
  rw[Yc,Yx]
  exact nd.imp λh e=>h (by lia)) λx hx=>by
   refine ab (Xg.mp hx) λk hk ah=>?_
   subst ah
   have:=h k hk
   lia
 rwa [Xb]at this
theorem uY(L:gN Y):∀{l:List (Rg α)}{i:Nat},VL Y l i->cnt l<=l.length*Y.n
 |[],_,_=>by simp[cnt]
 |R::l,i,⟨hv,hi,hl⟩=>by
  have h1:R.length<=Y.n:=by
   have:=Br hv.nd (n:=Y.n) λp hp=>by
    refine ab (Xg.mp hp) λe he ah=>?_
    subst ah
    refine cS (hv.st e.1 e.2 he) λs1 _ s3=>?_
    rw[<-s3]
    exact L.jV s1 hi
   rwa [Xb]at this
  have:=uY L hl
  show R.length+cnt l<=(l.length+1)*Y.n
  rw[Nat.add_mul]
  lia
end
end jU
namespace bX
open Py jU
section
variable {s:Nat}{F:FT}
theorem kI(r:List Int):∀l:List (Rg (List Int)),(bh r l).length =2*cnt l
 |[]=>rfl
 |R::l=>by
  show(oj r R++bh r l).length =2*(R.length+cnt l)
  rw[Xk,jW,kI r l];lia
def yp(h:St l u):comp u r∈bh r l/\comp r u∈bh r l:=by
 obtain⟨R,hR,p,hp⟩:=h
 have h1:∀x,x∈[comp r u,comp u r]->x∈bh r l:=λx hx=>Yu.mpr ⟨R,hR,Yu.mpr ⟨(p,u),hp,hx⟩⟩
 exact⟨h1 _ (by simp),h1 _ (by simp)⟩
def Bs(hM:gO (pg s) M)(hr:M r)(hs:∀u,St l u->M u):∀x∈bh r l,M x:=λx hx=>by
 refine ab (Yu.mp hx) λR hR hx=>ab (Yu.mp hx) λe he hx=>?_
 have hu:=hs e.2 ⟨R,hR,e.1,he⟩
 rcases Xl.mp hx with z|z
 .rw[z];exact hM.mul _ _ hr hu
 .rw[Xc.mp z];exact hM.mul _ _ hu hr
noncomputable def kJ(s:Nat)(r:List Int):List Nat:=(List.range s).filter λk=>decide ((pg s).im r k≠k)
noncomputable abbrev FE(x0:Option (Bool×D))(s:Nat)(W:List (List Int))(x4 x5 x6:Option (Bool×D)):Env:=[x0,some (false,.int s),some (true,ur),some (true,.lst (W.map tp)),x4,x5,x6]
noncomputable abbrev Ow:C:=(.cU 5 (.comp [4] 0 (.eL (.u 1)) (.cons (.cmp .NotEq (.idx (.var 1) (.var 0)) (.var 0)) .nil) (.var 0)))
def ef(n:Nat):bA 0 n=(List.range n).map λ(k:Nat)=>D.int (k:Int):=by
 rw[dg]
 unfold bu
 rw[XY]
 rfl
def F7(h6:s<=6)(hr:r∈perms s):ex F Ow (FE x0 s W (some (false,tp r)) x5 x6)=some (.next (FE x0 s W (some (false,tp r)) (some (true,.lst ((kJ s r).map λ(k:Nat)=>D.int (k:Int)))) x6)):=by
 have hc:ev F false (.comp [4] 0 (.eL (.u 1)) (.cons (.cmp .NotEq (.idx (.var 1) (.var 0)) (.var 0)) .nil) (.var 0)) (FE x0 s W (some (false,tp r)) x5 x6)=some (.lst ((kJ s r).map λ(k:Nat)=>D.int (k:Int))):=by
  have eU:bj=16777216:=rfl
  have Rf:(cc F false (.u 1) (FE x0 s W (some (false,tp r)) x5 x6)).bind dn=some (bA 0 s):=b6 (by lia)
  rw[m9 Rf (by rw[gL];lia)]
  have hw:walk (fL F [4] (.cons (.cmp .NotEq (.idx (.var 1) (.var 0)) (.var 0)) .nil) (.var 0) (FE x0 s W (some (false,tp r)) x5 x6)) (bA 0 s)=some ((bA 0 s).filter λd=>match d with
    | .int k=>decide ((pg s).im r k.toNat≠k.toNat)
    |_=>false):=by
   refine gK _ λx hx=>ab (tq hx) λk hk ah=>?_
   subst ah
   have hi:ev F true (.idx (.var 1) (.var 0)) [some (false,.int k),some (false,tp r)]=some (.int ((pg s).im r k:Nat)):=ng hr hk
   have Wc:ev F false (.cmp .NotEq (.idx (.var 1) (.var 0)) (.var 0)) [some (false,.int k),some (false,tp r)]=some (.bl (decide ((pg s).im r k≠k))):=by
    rw[nY,hi]
    show some (D.bl (!(((pg s).im r k:Nat):Int)==(k:Int)))=_
    rw[wM,<-decide_not]
   show((fm F true (.cons (.cmp .NotEq (.idx (.var 1) (.var 0)) (.var 0)) .nil) [some (false,.int k),some (false,tp r)]).bind λk'=>if k' then some (some (D.int k)) else some none)=_
   rw[fm,Wc]
   show((if decide ((pg s).im r k≠k)=true then fm F true .nil _ else some (decide ((pg s).im r k≠k))).bind _)=some (if decide ((pg s).im r (k:Int).toNat ≠(k:Int).toNat)=true then some (D.int k) else none)
   rw[Yd]
   cases decide ((pg s).im r k≠k)<;>rfl
  rw[hw,ef,List.filter_map]
  rfl
 rw[xG,hc]
 rfl
def tK(hk:k<s)(hf:i8 (pg s) r k)(hm:(pg s).im r k≠k):∃bG,kJ s r=k::bG:=by
 unfold kJ
 obtain⟨m,hs⟩:∃m,s=k+(m+1):=⟨s-k-1,by lia⟩
 have e:List.range s=List.range k++k::(List.range m).map λj=>k+(j+1):=by
  rw[hs,List.range_add,List.range_succ_eq_map,Xy,XY]
  rfl
 have e1:(List.range k).filter (λj=>decide ((pg s).im r j≠j))=[]:=by
  rw[Zh]
  intro j hj
  have:=hf j (XU.mp hj)
  simp[this]
 rw[e,List.filter_append,e1,YT,ZF,Xs (by simp[hm])]
 exact⟨_,rfl⟩
def uZ(hs:0<=s):kJ s (bu s)=[]:=by
 unfold kJ
 rw[Zh]
 intro j hj
 have:(pg s).im (bu s) j=j:=aP.bN (Y:=pg s) (XU.mp hj)
 simp[this]
end
noncomputable abbrev Rh:C:=(.asg 6 (.idx (.var 5) (.c (.int 0))))
section
variable {s:Nat}{F:FT}
noncomputable abbrev EB(F:FT):List D->Env->List D->Option (List D×Env):=js F 2 3 4 3 (ex F Ow) 5 (ex F Rh) (ev F false (.var 6)) (ev F false (.idx (.var 4) (.var 6))) (ev F false (.var 4)) 4 (ev F false (.var 4))
def EC(h:l[k]?=some R):(l.map aq).set k (.bz 0 (kR R++[[(x.1:Int)]]) (vR R++[tp x.2]))=(add l k x).map aq:=by
 rw[wO h,List.map_set]
 congr 1
 unfold aq kR vR
 rw[XX,XX]
 rfl
def yr(h6:s<=6){l:List (Rg (List Int))}(hl:F 3 [.lst (l.map aq),tp t]=some (tp (bu s))){x0 x4 x5 x6:Option (Bool×D)}{W:List (List Int)}:
  EB F (l.map aq) (FE x0 s (W++[t]) x4 x5 x6) ((W++[t]).map tp)=some (l.map aq,FE x0 s W (some (false,tp (bu s))) (some (true,.lst [])) x6):=by
 have e1:((W++[t]).map tp).getLast? =some (tp t):=by rw[XX];simp
 have e2:((W++[t]).map tp).dropLast =W.map tp:=by rw[XX];simp
 have hc:=F7 (F:=F) h6 (x0:=x0) (x5:=x5) (x6:=x6) (W:=W) (dh s)
 rw[uZ (XQ _)]at hc
 unfold EB js
 rw[e1,e2]
 show((F 3 [.lst (l.map aq),tp t]).bind _)=_
 rw[hl]
 show(if(aC (tp t)&&aC (tp (bu s)))=true then(ex F Ow (FE x0 s W (some (false,tp (bu s))) x5 x6)).bind _ else none)=_
 rw[aL,aL,abN,Xs rfl,hc]
 rfl
def yt(h6:s<=6)(hl:F 3 [.lst (l.map aq),tp t]=some (tp r))(hr:r∈perms s)(hk:k<s)(hR:l[k]?=some R)(hf:i8 (pg s) r k)(hm:(pg s).im r k≠k)(hn:(pg s).im r k∉R.map (·.1))(WX:R.length<=6)
  (hg:F 4 [.lst ((add l k ((pg s).im r k,r)).map aq),tp r]=some (.lst ((bh r (add l k ((pg s).im r k,r))).map tp))) (hW:W.length+(bh r (add l k ((pg s).im r k,r))).length <=10000):
  ∃y4 y5 y6,EB F (l.map aq) (FE x0 s (W++[t]) x4 x5 x6) ((W++[t]).map tp)=some ((add l k ((pg s).im r k,r)).map aq,FE x0 s (W++bh r (add l k ((pg s).im r k,r))) y4 y5 y6):=by
 have e1:((W++[t]).map tp).getLast? =some (tp t):=by rw[XX];simp
 have e2:((W++[t]).map tp).dropLast =W.map tp:=by rw[XX];simp
 have hc:=F7 (F:=F) h6 (x0:=x0) (x5:=x5) (x6:=x6) (W:=W) hr
 obtain⟨bG,Wd⟩:=tK hk hf hm
 rw[Wd]at hc
 have eU:bj=16777216:=rfl
 have Ox:k<l.length:=(Xu.mp hR).1
 have IS:zy (l.map aq) k [((pg s).im r k:Int)] (tp r)=some ((add l k ((pg s).im r k,r)).map aq):=by
  unfold zy
  rw[Xn,hR]
  show(if(kR R).length<bj/\[((pg s).im r k:Int)]∉kR R then some ((l.map aq).set k (.bz 0 (kR R++[[((pg s).im r k:Int)]]) (vR R++[tp r]))) else none)=_
  have We:[((pg s).im r k:Int)]∉kR R:=λz=>by
   refine ab (Xg.mp z) λe he hq=>?_
   have:e.1=(pg s).im r k:=by injection hq with hq _;lia
   exact hn (Xg.mpr ⟨e,he,this⟩)
  rw[Xs ⟨by rw[Xb];lia,We⟩]
  exact congrArg some (EC (x:=((pg s).im r k,r)) hR)
 have j5:cu (l.map aq).length (k:Int)=some k:=by
  unfold cu
  rw[Xb,Xs (by lia),Xs (by lia)]
  rfl
 have Ri:∀Tz,ev F false (.idx (.var 4) (.var 6)) (FE x0 s W (some (false,tp r)) Tz (some (false,.int k)))=some (.int ((pg s).im r k:Nat)):=λTz=>ng hr hk
 have Wf:ex F Rh (FE x0 s W (some (false,tp r)) (some (true,.lst ((k::bG).map λ(k:Nat)=>D.int (k:Int)))) x6)=some (.next (FE x0 s W (some (false,tp r)) (some (true,.lst ((k::bG).map λ(k:Nat)=>D.int (k:Int)))) (some (false,.int k)))):=by
  have hi:ev F false (.idx (.var 5) (.c (.int 0))) (FE x0 s W (some (false,tp r)) (some (true,.lst ((k::bG).map λ(k:Nat)=>D.int (k:Int)))) x6)=some (.int k):=by
   show((cu ((k::bG).map λ(k:Nat)=>D.int (k:Int)).length 0).bind λj=>((k::bG).map λ(k:Nat)=>D.int (k:Int))[j]?)=_
   unfold cu
   rw[Xs (by lia),Xs (by rw[Xb,Xt];lia)]
   rfl
  rw[aD hi]
  rfl
 refine⟨some (false,tp r),some (true,.lst ((k::bG).map λ(k:Nat)=>D.int (k:Int))),some (false,.int k),?_⟩
 unfold EB js
 rw[e1,e2]
 show((F 3 [.lst (l.map aq),tp t]).bind _)=_
 rw[hl]
 show(if(aC (tp t)&&aC (tp r))=true then(ex F Ow (FE x0 s W (some (false,tp r)) x5 x6)).bind _ else none)=_
 rw[aL,aL,abN,Xs rfl,hc]
 show((ex F Rh (FE x0 s W (some (false,tp r)) (some (true,.lst ((k::bG).map λ(k:Nat)=>D.int (k:Int)))) x6)).bind _)=_
 rw[Wf]
 show(if aC (tp r)=true then _ else none)=_
 rw[aL,Xs rfl]
 show((cu (l.map aq).length (k:Int)).bind _)=_
 rw[j5]
 show(((ev F false (.idx (.var 4) (.var 6)) (FE x0 s W (some (false,tp r)) (some (true,.lst ((k::bG).map λ(k:Nat)=>D.int (k:Int)))) (some (false,.int k)))).bind (dD 0)).bind _)=_
 rw[Ri]
 show((zy (l.map aq) k [((pg s).im r k:Int)] (tp r)).bind _)=_
 rw[IS]
 show(if aC (tp r)=true then(F 4 [.lst ((add l k ((pg s).im r k,r)).map aq),tp r]).bind _ else none)=_
 rw[aL,Xs rfl,hg]
 have nl:aR ((bh r (add l k ((pg s).im r k,r))).map tp)=true:=by
  have:∀ps:List (List Int),aR (ps.map tp)=true:=λps=>by
   induction ps with
   |nil=>rfl
   |cons p ps ih=>show(aC (tp p)&&aR (ps.map tp))=true;rw[aL,ih];rfl
  exact this _
 show(if aR ((bh r (add l k ((pg s).im r k,r))).map tp)=true then(if(W.map tp).length+((bh r (add l k ((pg s).im r k,r))).map tp).length <=bj then _ else none) else none)=_
 rw[nl,Xs rfl,Xs (by rw[Xb,Xb];lia),<-XX]
 rfl
theorem VL.at:∀{l:List (Rg (List Int))}{i k:Nat}{R:Rg (List Int)},VL Y l i->l[k]?=some R->V Y (i+k) R
 |[],_,_,_,_,h=>by simp at h
 |R::l,i,0,_,hv,h=>by simp at h;subst h;exact hv.1
 |R::l,i,k+1,R',hv,h=>by
  have:=VL.at hv.2.2 (k:=k) (R:=R') (by simpa using h)
  rwa [show i+1+k=i+(k+1) by lia]at this
def qJ(hi:i<s)(hv:V (pg s) i R):R.length<=s:=by
 have:=Br hv.nd (n:=s) λp hp=>by
  refine ab (Xg.mp hp) λe he ah=>?_
  subst ah
  refine cS (hv.st e.1 e.2 he) λs1 _ s3=>?_
  rw[<-s3]
  exact aP.jV (Y:=pg s) s1 hi
 rwa [Xb]at this
def ED(hv:VL (pg s) l i):∀R∈l,∀e∈R,e.2∈perms s:=λR hR e he=>(St.good aP hv ⟨R,hR,e.1,he⟩).1
theorem i9(h6:s<=6)(hG:∀u,G u->u∈perms s)(nh:∀l t,VL (pg s) l 0->t∈perms s->F 3 [.lst (l.map aq),tp t]=some (tp (dz (pg s) l 0 t)))
  (ni:∀l r,VL (pg s) l 0->r∈perms s->F 4 [.lst (l.map aq),tp r]=some (.lst ((bh r l).map tp))):∀(n:Nat) (l:List (Rg (List Int))) (W:List (List Int)) (x4 x5 x6:Option (Bool×D)),Fd (pg s) G l W->(36-cnt l)*100+W.length<n->(36-cnt l)*100+W.length<=5000->
  ∃l',gw (EB F) 3 n (l.map aq) (FE x0 s W x4 x5 x6)=some (l'.map aq)/\Fd (pg s) G l' []
 |0,_,_,_,_,_,_,h,_=>absurd h (Y5 _)
 |n+1,l,W,x4,x5,x6,hd,hn,hm=>by
  have hY:=tG h6 hG
  have ss:s*s<=36:=Nat.mul_le_mul h6 h6
  have cl:∀{l':List (Rg (List Int))},VL (pg s) l' 0->cnt l'<=36:=λ{l'} hv=>by
   have h1:=uY aP hv
   have h2:=VL.len hv
   have h3:l'.length=s:=by rw[Yw]at h2;exact h2
   rw[h3]at h1
   exact Xq h1 ss
  rw[gw]
  show∃l':List (Rg (List Int)),(if(W.map tp).isEmpty =true then some (l.map aq) else(EB F (l.map aq) (FE x0 s W x4 x5 x6) (W.map tp)).bind λz=>gw (EB F) 3 n z.1 z.2)=some (l'.map aq)/\_
  rcases abr W with rfl|⟨W0,t,rfl⟩
  .exact⟨l,rfl,hd⟩
  .rw[abt]at hd hn hm⊢
   have gx:((W0++[t]).map tp).isEmpty =false:=by rw[XX];simp
   rw[gx,Xx Xa]
   rw[Xk,XG]at hn hm
   have ht:Gen (pg s) G t:=hd.wg t (Xv _ (Xc.mpr rfl))
   have TB:t∈perms s:=Gen.S aP hG ht
   have hl:=nh l t hd.v TB
   rcases pC aP hd.v TB (λk hk=>absurd hk (Y5 _))with⟨e1,e2⟩|⟨k,R,a1,a2,a3,a4,a5,a6,a7,a8⟩
   .rw[e1]at hl
    rw[yr h6 hl]
    exact i9 h6 hG nh ni n l W0 _ _ _ (hd.none e2) (by lia) (by lia)
   .rw[Yw]at a2 a4 a5 a6 a7 a8
    have hk:k<s:=a2
    have hV:=VL.at hd.v a1
    rw[Yw]at hV
    have Oy:=qJ hk hV
    have hg:=ni _ _ a8 a3
    have nK:=cl a8
    have WY:=wQ (x:=((pg s).im (dz (pg s) l 0 t) k,dz (pg s) l 0 t)) a1
    have j5:=kI (dz (pg s) l 0 t) (add l k ((pg s).im (dz (pg s) l 0 t) k,dz (pg s) l 0 t))
    refine NN (yt h6 hl a3 hk a1 a4 a6 a5 (by lia) hg (x0:=x0) (x4:=x4) (x5:=x5) (x6:=x6) (W:=W0) (by lia)) λy4 y5 y6 hT=>?_
    rw[hT]
    refine i9 h6 hG nh ni n _ _ _ _ _ (hd.more aP a8 a7 (lV hY hd.g ht) (Bs hY (lV hY hd.g ht) λu hu=>?_) λu hu=>yp hu) ?_ ?_
    .rcases hu.add with z|z
     .exact hd.g u z
     .rw[z];exact lV hY hd.g ht
    .rw[Xk];lia
    .rw[Xk];lia
noncomputable def wR(s:Nat):List (Rg (List Int)):=(List.range s).map λi=>[(i,bu s)]
theorem VL.wR:∀(m i:Nat),i+m=s->VL (pg s) ((List.range' i m).map λi=>[(i,bu s)]) i
 |0,i,h=>by show i=s;lia
 |m+1,i,h=>by
  rw[aab,Xy]
  have hi:i<s:=by lia
  refine⟨⟨λp u hu=>?_,Xc.mpr rfl,by simp⟩,hi,VL.wR m (i+1) (by lia)⟩
  rw[Xc]at hu
  cases hu
  exact⟨dh s,λk hk=>aP.bN (Y:=pg s) (show k<s by lia),aP.bN (Y:=pg s) hi⟩
def Bt(k_:∀p∈ps,p∈perms s):Fd (pg s) (· ∈ps) (wR s) ps:=by
 have pL:∀u,St (wR s) u->u=bu s:=λu zz=>by
  obtain⟨R,hR,p,hp⟩:=zz
  refine ab (Xg.mp hR) λi _ ah=>?_
  subst ah
  rw[Xc]at hp
  exact(abC hp).2
 have hv:VL (pg s) (wR s) 0:=by
  have:=VL.wR (s:=s) s 0 (by lia)
  unfold bX.wR
  rw[Zx]
  exact this
 refine⟨hv,λu hu=>by rw[pL u hu];exact .one,λt ht=>Gen.of aP (k_ t ht) ht,λt ht=> .inl ht,λu v hu Ki=> .inr ?_⟩
 rw[pL u hu,pL v Ki]
 show H (pg s) (wR s) (comp (bu s) (bu s))
 rw[jQ (dh s)]
 exact H.one aP hv
def Bu(h6:s<=6){ps:List (List Int)}(k_:∀p∈ps,p∈perms s)(aX:ps.length<=720)(pL:F 0 [.int s]=some (tp (bu s)))(nh:∀l t,VL (pg s) l 0->t∈perms s->F 3 [.lst (l.map aq),tp t]=some (tp (dz (pg s) l 0 t)))
  (ni:∀l r,VL (pg s) l 0->r∈perms s->F 4 [.lst (l.map aq),tp r]=some (.lst ((bh r l).map tp))):
  ∃l,out (ex F d5.body (ai d5 [.tup (ps.map tp),.int s]))=some (.lst (l.map aq))/\Fd (pg s) (· ∈ps) l []:=by
 have eU:bj=16777216:=rfl
 obtain⟨l,h1,h2⟩:=i9 h6 k_ nh ni (x0:=some (false,.tup (ps.map tp))) iD (wR s) ps none none none (Bt k_) (by
  have:iD=1000000:=rfl
  rw[this]
  have:(36-cnt (wR s))*100<=3600:=by lia
  lia) (by
  have:(36-cnt (wR s))*100<=3600:=by lia
  lia)
 refine⟨l,?_,h2⟩
 have hr:lA F true (.eL (.u 1)) (ai d5 [.tup (ps.map tp),.int s])=some (bA 0 s):=b6 (by lia)
 have hw:walk (rC (ev F false (.var 0)) (ev F false (.call 0 (.u 1))) [1] (ai d5 [.tup (ps.map tp),.int s])) (bA 0 s)=some ((wR s).map aq):=by
  rw[ef]
  unfold wR
  rw[XY]
  refine dZ (λk:Nat=>D.int (k:Int)) _ _ _ λk hk=>?_
  have hc:ev F false (.call 0 (.u 1)) [some (false,.int k),some (false,.int s)]=some (tp (bu s)):=aJ (kF rfl) pL (aL _)
  show((ev F false (.call 0 (.u 1)) [some (false,.int k),some (false,.int s)]).bind λd=>if aC d then some (some (D.bz 0 [[(k:Int)]] [d])) else none)=_
  rw[hc]
  show(if aC (tp (bu s))=true then _ else none)=_
  rw[aL,Xs rfl]
  rfl
 have hx:ex F d5.body (ai d5 [.tup (ps.map tp),.int s])=(lA F true (.eL (.u 1)) (ai d5 [.tup (ps.map tp),.int s])).bind λxs=>if xs.length<=bj/\2≠3/\2<(ai d5 [.tup (ps.map tp),.int s]).length /\rB (ai d5 [.tup (ps.map tp),.int s])=true then
   (walk (rC (ev F false (.var 0)) (ev F false (.call 0 (.u 1))) [1] (ai d5 [.tup (ps.map tp),.int s])) xs).bind λS=>(gw (EB F) 3 iD S (FE (some (false,.tup (ps.map tp))) s ps none none none)).map λS=> .ret (.lst S) else none:=rfl
 rw[hx,hr]
 show out (if _ then _ else none)=_
 rw[Xs ⟨by rw[gL];lia,by decide,(by decide:2<7),rfl⟩,hw]
 show out ((gw (EB F) 3 iD ((wR s).map aq) (FE (some (false,.tup (ps.map tp))) s ps none none none)).map λS=> .ret (.lst S))=_
 rw[h1]
 rfl
end
end bX
namespace Py
theorem pD:∀(r:List Int) (a:Int),iw a r∈a::r/\∀x∈a::r,iw a r<=x
 |[],a=>⟨Xc.mpr rfl,λx hx=>by rw[Xc.mp hx];exact Int.le_refl _⟩
 |b::r,a=>by
  rw[iw]
  obtain⟨h1,h2⟩:=pD r (if b<a then b else a)
  have h0:=h2 _ Xd
  have zE:(if b<a then b else a)<=a/\(if b<a then b else a)<=b:=by split<;>lia
  refine⟨?_,λx hx=>?_⟩
  .rcases Xl.mp h1 with z|z
   .rw[z]
    split
    .exact W_ _ Xd
    .exact Xd
   .exact W_ _ (W_ _ z)
  .rcases Xl.mp hx with z|hx
   .rw[z];exact abO h0 zE.1
   .rcases Xl.mp hx with z|hx
    .rw[z];exact abO h0 zE.2
    .exact h2 x (W_ _ hx)
end Py
namespace bX
open Py jU
section
variable {s:Nat}{F:FT}
noncomputable abbrev Nz:C:=(.seq (.asg 5 (.prim .min (.cons (.comp [3] 0 (.dk 4) .nil (.idx (.var 1) (.var 0))) .nil))) (.seq (.asg 3 (.call 1 (.cons (.dC 4 (.fj .index (.var 3) (.u 5))) (.u 3)))) .skip))
noncomputable abbrev TE(x0 x1 x2:Option (Bool×D))(u:List Int)(x4 x5:Option (Bool×D)):Env:=[x0,x1,x2,some (false,tp u),x4,x5]
def EE(h6:s<=6)(ht:∀p∈perms s,∀q∈perms s,F 1 [tp p,tp q]=some (tp (comp p q)))(hi:i<s)(hv:V (pg s) i R)(hu:u∈perms s):
  ∃e∈R,(∀q,q∈R.map (·.1)->(pg s).im u e.1<=(pg s).im u q)/\∃y5,ex F Nz (TE x0 x1 x2 u (some (false,aq R)) x5)=some (.next (TE x0 x1 x2 (comp e.2 u) (some (false,aq R)) y5)):=by
 have eU:bj=16777216:=rfl
 have kb:∀e∈R,e.1<s:=λe he=>by
  refine cS (hv.st e.1 e.2 he) λs1 _ s3=>?_
  rw[<-s3];exact aP.jV (Y:=pg s) s1 hi
 have Oy:=qJ hi hv
 have hc:ev F true (.comp [3] 0 (.dk 4) .nil (.idx (.var 1) (.var 0))) (TE x0 x1 x2 u (some (false,aq R)) x5)=some (.lst ((R.map λe=>(((pg s).im u e.1:Nat):Int)).map .int)):=by
  have hk:lA F true (.dk 4) (TE x0 x1 x2 u (some (false,aq R)) x5)=some (R.map λe=>D.int (e.1:Int)):=by
   show some ((kR R).map λk=>D.int (k.headD 0))=_
   rw[XY]
   rfl
  have hw:walk (fL F [3] .nil (.idx (.var 1) (.var 0)) (TE x0 x1 x2 u (some (false,aq R)) x5)) (R.map λe=>D.int (e.1:Int))=some (R.map λe=>D.int (((pg s).im u e.1:Nat):Int)):=
   dZ (λe:Nat×List Int=>D.int (e.1:Int)) _ _ _ λe he=>by
    have Ri:ev F false (.idx (.var 1) (.var 0)) [some (false,.int e.1),some (false,tp u)]=some (.int ((pg s).im u e.1:Nat)):=ng hu (kb e he)
    show(ev F false (.idx (.var 1) (.var 0)) [some (false,.int e.1),some (false,tp u)]).map some=_
    rw[Ri]
    rfl
  have he:ev F true (.comp [3] 0 (.dk 4) .nil (.idx (.var 1) (.var 0))) (TE x0 x1 x2 u (some (false,aq R)) x5)=(lA F true (.dk 4) (TE x0 x1 x2 u (some (false,aq R)) x5)).bind λxs=>if xs.length<=bj then(walk (fL F [3] .nil (.idx (.var 1) (.var 0)) (TE x0 x1 x2 u (some (false,aq R)) x5)) xs).map .lst else none:=rfl
  rw[he,hk]
  show(if(R.map λe=>D.int (e.1:Int)).length <=bj then _ else none)=_
  rw[Xs (by rw[Xb];lia),hw,XY]
  rfl
 obtain⟨e0,R0,hR⟩:∃e0 R0,R=e0::R0:=by
  cases R with
  |nil=>exact absurd hv.one (by simp)
  |cons e R=>exact⟨e,R,rfl⟩
 obtain⟨m1,m2⟩:=pD (R0.map λe=>(((pg s).im u e.1:Nat):Int)) (((pg s).im u e0.1:Nat):Int)
 have NA:R.map (λe=>(((pg s).im u e.1:Nat):Int))=(((pg s).im u e0.1:Nat):Int)::R0.map λe=>(((pg s).im u e.1:Nat):Int):=by rw[hR];rfl
 generalize Wg:iw (((pg s).im u e0.1:Nat):Int) (R0.map λe=>(((pg s).im u e.1:Nat):Int))=mn at m1 m2
 rw[<-NA]at m1 m2
 refine ab (Xg.mp m1) λe he Wh=>⟨e,he,λq hq=>?_,some (false,.int mn),?_⟩
 .refine ab (Xg.mp hq) λe' Bh ah=>?_
  subst ah
  have:=m2 _ (Xg.mpr ⟨e',Bh,rfl⟩)
  lia
 .have Bf:ev F false (.prim .min (.cons (.comp [3] 0 (.dk 4) .nil (.idx (.var 1) (.var 0))) .nil)) (TE x0 x1 x2 u (some (false,aq R)) x5)=some (.int mn):=by
   rw[j8,kF hc]
   show(match aB ((R.map λe=>(((pg s).im u e.1:Nat):Int)).map .int)with
    |some ns=>match ns with|[]=>none|a::r=>some (D.int (iw a r))
    |none=>_)=_
   rw[cW,NA]
   show some (D.int (iw _ _))=_
   rw[Wg]
  have Ew:ev F false (.fj .index (.var 3) (.u 5)) (TE x0 x1 x2 u (some (false,aq R)) (some (false,.int mn)))=some (.int (e.1:Nat)):=by
   have Wi:u[e.1]?=some mn:=by
    have bJ:e.1<u.length:=by rw[az hu];exact kb e he
    rw[W9 bJ]
    have h1:=iK hu (kb e he)
    rw[Xi,W9 bJ]at h1
    have h2:u[e.1]=(((pg s).im u e.1:Nat):Int):=h1
    rw[h2,Wh]
   show(aB (u.map .int)).bind (λns=>(eA mn ns).map λ(i:Nat)=>D.int (i:Int))=_
   rw[cW]
   show(eA mn u).map (λ(i:Nat)=>D.int (i:Int))=_
   rw[qF (ax.mp hu).2.1 Wi]
   rfl
  have Bp:ev F true (.dC 4 (.fj .index (.var 3) (.u 5))) (TE x0 x1 x2 u (some (false,aq R)) (some (false,.int mn)))=some (tp e.2):=by
   rw[Lr,Ew]
   show iQ (kR R) (vR R) [(e.1:Int)]=_
   rw[ie,wH hv.nd (show(e.1,e.2)∈R from he)]
   rfl
  have Rc:ev F false (.call 1 (.cons (.dC 4 (.fj .index (.var 3) (.u 5))) (.u 3))) (TE x0 x1 x2 u (some (false,aq R)) (some (false,.int mn)))=some (tp (comp e.2 u)):=aJ (dG Bp rfl) (ht _ (hv.st _ _ (show(e.1,e.2)∈R from he)).1 u hu) (aL _)
  rw[bP,aD Bf]
  show ex F (.seq (.asg 3 _) .skip) (TE x0 x1 x2 u (some (false,aq R)) (some (false,.int mn)))=_
  rw[bP,aD Rc]
  rfl
theorem wU(h6:s<=6)(ht:∀p∈perms s,∀q∈perms s,F 1 [tp p,tp q]=some (tp (comp p q))):∀{l:List (Rg (List Int))}{i:Nat}{u:List Int}{x4 x5:Option (Bool×D)},VL (pg s) l i->u∈perms s->
  ∃x y4 y5,aO (λx ρ=>(aG 0 x).bind λys=>(dq ρ [4] ys).bind λρ'=>ex F Nz ρ') (l.map aq) (TE x0 x1 x2 u x4 x5)=some (.next (TE x0 x1 x2 x y4 y5))/\LM (pg s) l u x
 |[],_,u,x4,x5,_,_=>⟨u,x4,x5,rfl,.nil⟩
 |R::l,i,u,x4,x5,hv,hu=>by
  refine ao λnO=>?_
  obtain⟨e,he,hm,z5,h1⟩:=EE (x0:=x0) (x1:=x1) (x2:=x2) (x5:=x5) h6 ht hv.2.1 hv.1 hu
  have hs:=(hv.1.st e.1 e.2 he).1
  refine lG (wU h6 ht (x0:=x0) (x1:=x1) (x2:=x2) (l:=l) (i:=i+1) (u:=comp e.2 u) (x4:=some (false,aq R)) (x5:=z5) hv.2.2 (hZ hs hu)) λx y4 y5 h2 h3=>nO ?_
  refine⟨x,y4,y5,?_,.cons (p:=e.1) (v:=e.2) he hm h3⟩
  rw[Xy,aO]
  show(ex F Nz (TE x0 x1 x2 u (some (false,aq R)) x5)).bind _=_
  rw[h1]
  exact h2
theorem VL.drop:∀{l:List (Rg (List Int))}{i:Nat} (k:Nat),VL Y l i->k<=l.length->VL Y (l.drop k) (i+k)
 |l,i,0,h,_=>h
 |[],i,k+1,h,hk=>absurd hk (by simp)
 |R::l,i,k+1,h,hk=>by
  have:=VL.drop k h.2.2 (by simpa using hk)
  rwa [show i+1+k=i+(k+1) by lia]at this
def Bv(h6:s<=6)(ht:∀p∈perms s,∀q∈perms s,F 1 [tp p,tp q]=some (tp (comp p q)))(hv:VL (pg s) l 0)(hk:k<s)(hu:u∈perms s):
  ∃x,out (ex F d6.body (ai d6 [.lst (l.map aq),.int k,tp u]))=some (tp x)/\LM (pg s) (l.drop (k+1)) u x:=by
 have hl:l.length=s:=by have:=VL.len hv;rw[Yw]at this;exact this
 refine lG (wU h6 ht (x0:=some (false,.lst (l.map aq))) (x1:=some (false,.int k)) (x2:=some (false,tp u)) (l:=l.drop (k+1)) (u:=u) (x4:=none) (x5:=none) (VL.drop (k+1) hv (by lia)) hu) λx y4 y5 h1 h2=>⟨x,?_,h2⟩
 have N1:lA F false (.it (.sl (.var 0) (.cons (.bin .Add (.var 1) (.c (.int 1))) .nil) .nil)) (TE (some (false,.lst (l.map aq))) (some (false,.int k)) (some (false,tp u)) u none none)=some ((l.drop (k+1)).map aq):=by
  show seq (.lst (iR (l.map aq) (some ((k:Int)+1)) none))=_
  rw[show(k:Int)+1=((k+1:Nat):Int) by lia,sX _ _ (by rw[Xb];lia),<-List.map_drop]
  rfl
 have hf:ex F (.for [4] 0 (.it (.sl (.var 0) (.cons (.bin .Add (.var 1) (.c (.int 1))) .nil) .nil)) Nz) (TE (some (false,.lst (l.map aq))) (some (false,.int k)) (some (false,tp u)) u none none)=some (.next (TE (some (false,.lst (l.map aq))) (some (false,.int k)) (some (false,tp u)) x y4 y5)):=by
  show(lA F false (.it (.sl (.var 0) (.cons (.bin .Add (.var 1) (.c (.int 1))) .nil) .nil)) (TE (some (false,.lst (l.map aq))) (some (false,.int k)) (some (false,tp u)) u none none)).bind _=_
  rw[N1]
  exact h1
 have hx:ex F d6.body (ai d6 [.lst (l.map aq),.int k,tp u])=(ex F (.for [4] 0 (.it (.sl (.var 0) (.cons (.bin .Add (.var 1) (.c (.int 1))) .nil) .nil)) Nz) (TE (some (false,.lst (l.map aq))) (some (false,.int k)) (some (false,tp u)) u none none)).bind λo=>match o with
   | .next ρ'=>ex F (.seq (.ret (.var 3)) .skip) ρ'
   |o=>some o:=rfl
 rw[hx,hf]
 rfl
end
noncomputable def pairD(e:Nat×List Int):D:= .tup [.int (e.1:Int),tp e.2]
noncomputable def aU(R:Rg (List Int)):D:= .tup (R.map pairD)
noncomputable def cZ(l:List (Rg (List Int))):D:= .tup (l.map aU)
section
variable {s:Nat}{F:FT}
noncomputable def kK(R:Rg (List Int)):List Nat:=(sortI (R.map λe=>(e.1:Int))).map Int.toNat
def nj(R:Rg (List Int)):sortI (R.map λe=>(e.1:Int))=(kK R).map λ(k:Nat)=>(k:Int):=by
 unfold kK
 rw[XY]
 have:∀x∈sortI (R.map λe=>(e.1:Int)),((λ(k:Nat)=>(k:Int))∘Int.toNat) x=x:=λx hx=>by
  refine ab (Xg.mp ((sortI_perm _).mem_iff.mp hx)) λe _ ah=>?_
  subst ah
  show((e.1:Int).toNat :Int)=_
  lia
 rw[ZI this,List.map_id']
def qK:k∈kK R↔k∈R.map (·.1):=by
 unfold kK
 constructor
 .intro h
  refine ab (Xg.mp h) λx hx ah=>?_
  subst ah
  refine ab (Xg.mp ((sortI_perm _).mem_iff.mp hx)) λe he aK=>?_
  subst aK
  exact Xg.mpr ⟨e,he,by simp⟩
 .intro h
  refine ab (Xg.mp h) λe he cQ=>?_
  subst cQ
  exact Xg.mpr ⟨(e.1:Int),(sortI_perm _).mem_iff.mpr (Xg.mpr ⟨e,he,rfl⟩),by simp⟩
def Jt(nd:(R.map (·.1)).Nodup):(kK R).Pairwise (· < ·):=by
 have h1:=mM (R.map λe=>(e.1:Int))
 have h2:(sortI (R.map λe=>(e.1:Int))).Nodup :=by
  rw[(sortI_perm _).nodup_iff]
  rw[Yc,Yx]at nd⊢
  exact nd.imp λh e=>h (by lia)
 rw[nj,Yx]at h1
 rw[nj,Yc,Yx]at h2
 exact(h1.and h2).imp λh=>by lia
theorem Hm.drop:∀{l:List (Rg (List Int))}{i:Nat} (k:Nat),Hm (pg s) M l i->k<=l.length->Hm (pg s) M (l.drop k) (i+k)
 |l,i,0,h,_=>h
 |[],i,k+1,h,hk=>absurd hk (by simp)
 |R::l,i,k+1,h,hk=>by
  have:=Hm.drop k (h.tail aP) (by simpa using hk)
  rwa [show i+1+k=i+(k+1) by lia]at this
def EF(h6:s<=6)(hM:gO (pg s) M)(hl:Hm (pg s) M l 0)(hk:k<s)
  (Ju:∀u∈perms s,∃x,F 6 [.lst (l.map aq),.int k,tp u]=some (tp x)/\LM (pg s) (l.drop (k+1)) u x):
  out (ex F d7.body (ai d7 [.lst (l.map aq),.int k]))=some (aU (aT (pg s) M k)):=by
 have eU:bj=16777216:=rfl
 have aX:l.length=s:=by have:=VL.len hl.1;rw[Yw]at this;exact this
 have Ox:k<l.length:=by lia
 obtain⟨R,hR⟩:∃R,l[k]?=some R:=⟨l[k],W9 Ox⟩
 have Wj:l.drop k=R::l.drop (k+1):=by
  rw[X9 Ox]
  rw[W9 Ox]at hR
  cases hR
  rfl
 have hm:=Hm.drop k hl (by lia)
 rw[Yw,Wj]at hm
 have hV:=hm.1.1
 have Oy:=qJ hk hV
 have best:∀p u,(p,u)∈R->∃x,F 6 [.lst (l.map aq),.int k,tp u]=some (tp x)/\fN (pg s) M k p x:=λp u hu=>by
  exact ab (Ju u (hV.st p u hu).1) λx h1 h2=>⟨x,h1,hm.best aP hM hu h2⟩
 have pL:item (.lst (l.map aq)) (.int k)=some (aq R):=by
  show((cu (l.map aq).length (k:Int)).bind λj=>(l.map aq)[j]?)=_
  unfold cu
  rw[Xb,Xs (by lia),Xs (by lia)]
  show(l.map aq)[k]?=_
  rw[Xn,hR]
  rfl
 let rD:Env:=[some (false,.lst (l.map aq)),some (false,.int k),some (false,aq R)]
 have z8:ev F true (.eE 2) rD=some (.lst ((kK R).map λ(k:Nat)=>D.int (k:Int))):=by
  show(if(kR R).length<64 then some (D.lst ((sortI ((kR R).map λk=>k.headD 0)).map .int)) else none)=_
  rw[Xs (by rw[Xb];lia),XY]
  show some (D.lst ((sortI (R.map λe=>(e.1:Int))).map .int))=_
  rw[nj,XY]
  rfl
 have hw:walk (fL F [0,1,2] .nil (.tup (.w 0 (.cons (.call 6 (.w 1 (.w 2 (.cons (.dC 3 (.var 0)) .nil)))) .nil))) rD) ((kK R).map λ(k:Nat)=>D.int (k:Int))=some ((kK R).map λp=>pairD (p,cq (pg s) M k p)):=
  dZ (λk:Nat=>D.int (k:Int)) _ _ _ λp hp=>by
   refine ab (Xg.mp (qK.mp hp)) λe he Rj=>?_
   have Bh:(p,e.2)∈R:=by rw[<-Rj];exact he
   refine ab (best p e.2 Bh) λx sL B3=>?_
   let D3:Env:=[some (false,.int p),some (false,.lst (l.map aq)),some (false,.int k),some (false,aq R)]
   have Bp:ev F true (.dC 3 (.var 0)) D3=some (tp e.2):=by
    show iQ (kR R) (vR R) [(p:Int)]=_
    rw[ie,wH hV.nd Bh]
    rfl
   have hc:ev F false (.call 6 (.w 1 (.w 2 (.cons (.dC 3 (.var 0)) .nil)))) D3=some (tp x):=aJ (Eo rfl rfl Bp) sL (aL _)
   have xN:ev F false (.tup (.w 0 (.cons (.call 6 (.w 1 (.w 2 (.cons (.dC 3 (.var 0)) .nil)))) .nil))) D3=some (.tup [.int p,tp x]):=by
    have:=dG (b:=false) (F:=F) (ρ:=D3) (a:= .var 0) (x:= .int p) rfl hc
    rw[pX,this]
    rfl
   show(ev F false (.tup (.w 0 (.cons (.call 6 (.w 1 (.w 2 (.cons (.dC 3 (.var 0)) .nil)))) .nil))) D3).map some=_
   rw[xN,fO B3]
   rfl
 have Bw:ev F true (.comp [0,1,2] 0 (.it (.eE 2)) .nil (.tup (.w 0 (.cons (.call 6 (.w 1 (.w 2 (.cons (.dC 3 (.var 0)) .nil)))) .nil)))) rD=some (.lst ((kK R).map λp=>pairD (p,cq (pg s) M k p))):=by
  rw[jT z8 rfl (by
   rw[Xb]
   have:(kK R).length =R.length:=by unfold kK;rw[Xb,(sortI_perm _).length_eq,Xb]
   lia),hw]
  rfl
 have Jn:(kK R).map (λp=>(p,cq (pg s) M k p))=aT (pg s) M k:=by
  refine Bj aP hk hM.s (λp x hx=>?_) (λt ht hf=>?_) ?_
  .refine ab (Xg.mp hx) λq hq e=>?_
   rw[<-(abC e).1,<-(abC e).2]
   refine ab (Xg.mp (qK.mp hq)) λe he Rj=>ab (best q e.2 (by rw[<-Rj];exact he)) λy _ hy=>?_
   rw[fO hy]
   exact hy
  .exact a_ (hm.split aP ht hf) λu w hu _ _=>⟨_,Xg.mpr ⟨_,qK.mpr (Xg.mpr ⟨_,hu,rfl⟩),rfl⟩⟩
  .rw[XY]
   have:((λx:Nat×List Int=>x.1) ∘ λp=>(p,cq (pg s) M k p))=id:=rfl
   rw[this,abB]
   exact Jt hV.nd
 have ha:ex F (.asg 2 (.idx (.var 0) (.var 1))) (ai d7 [.lst (l.map aq),.int k])=some (.next rD):=aD (F:=F) pL
 have hx:ex F d7.body (ai d7 [.lst (l.map aq),.int k])=(ex F (.asg 2 (.idx (.var 0) (.var 1))) (ai d7 [.lst (l.map aq),.int k])).bind λo=>match o with
   | .next ρ'=>ex F (.seq (.ret (.prim .tuple (.cons (.comp [0,1,2] 0 (.it (.eE 2)) .nil (.tup (.w 0 (.cons (.call 6 (.w 1 (.w 2 (.cons (.dC 3 (.var 0)) .nil)))) .nil)))) .nil))) .skip) ρ'
   |o=>some o:=rfl
 rw[hx,ha]
 refine bM ?_
 rw[j8,kF Bw]
 show some (D.tup ((kK R).map λp=>pairD (p,cq (pg s) M k p)))=_
 rw[<-Jn]
 unfold aU
 rw[XY]
 rfl
def EG(R:Rg (List Int)):aC (aU R)=true:=by
 show aR (R.map pairD)=true
 induction R with
 |nil=>rfl
 |cons e R ih=>
  show(aC (pairD e)&&aR (R.map pairD))=true
  rw[ih]
  show((aC (.int (e.1:Int))&&(aC (tp e.2)&&true))&&true)=true
  rw[aL]
  rfl
def yu(h6:s<=6){M:List Int->Prop}{row:D}{l:List (Rg (List Int))}(hf:F 5 [row,.int s]=some (.lst (l.map aq)))(Jv:aC row=true)(hr:∀k,k<s->F 7 [.lst (l.map aq),.int k]=some (aU (aT (pg s) M k))):
  out (ex F d8.body (ai d8 [row,.int s]))=some (cZ (bE (pg s) M 0)):=by
 have eU:bj=16777216:=rfl
 let rD:Env:=[some (false,row),some (false,.int s),some (false,.lst (l.map aq))]
 have h1:ev F false (.call 5 (.w 0 (.u 1))) (ai d8 [row,.int s])=some (.lst (l.map aq)):=bB (dG rfl rfl) hf rfl
 have hw:walk (fL F [2] .nil (.call 7 (.w 1 (.u 0))) rD) (bA 0 s)=some ((List.range s).map λk=>aU (aT (pg s) M k)):=by
  rw[ef]
  refine dZ (λk:Nat=>D.int (k:Int)) _ _ _ λk hk=>?_
  have hc:ev F false (.call 7 (.w 1 (.u 0))) [some (false,.int k),some (false,.lst (l.map aq))]=some (aU (aT (pg s) M k)):=aJ (dG rfl rfl) (hr k (XU.mp hk)) (EG _)
  show(ev F false (.call 7 (.w 1 (.u 0))) [some (false,.int k),some (false,.lst (l.map aq))]).map some=_
  rw[hc]
  rfl
 have Bw:ev F true (.comp [2] 0 (.eL (.u 1)) .nil (.call 7 (.w 1 (.u 0)))) rD=some (.lst ((List.range s).map λk=>aU (aT (pg s) M k))):=by
  have Rf:(cc F false (.u 1) rD).bind dn=some (bA 0 s):=b6 (by lia)
  rw[m9 Rf (by rw[gL];lia),hw]
  rfl
 have hx:ex F d8.body (ai d8 [row,.int s])=(ex F (.asg 2 (.call 5 (.w 0 (.u 1)))) (ai d8 [row,.int s])).bind λo=>match o with
   | .next ρ'=>ex F (.seq (.ret (.prim .tuple (.cons (.comp [2] 0 (.eL (.u 1)) .nil (.call 7 (.w 1 (.u 0)))) .nil))) .skip) ρ'
   |o=>some o:=rfl
 rw[hx,aD h1]
 refine bM ?_
 show ev F true _ rD=_
 rw[j8,kF Bw]
 show some (D.tup ((List.range s).map λk=>aU (aT (pg s) M k)))=_
 unfold cZ bE
 rw[XY,Zx]
 rfl
end
def yv:(List.range 7).all (λn=>decide ((perms n).length <=720))=true:=by decide +kernel
section
variable {s:Nat}{F:FT}
def nk(h6:s<=6):(perms s).length <=720:=of_decide_eq_true (all_range yv (show s<7 by lia))
theorem lW[DecidableEq α]:∀(l m:List α),l.Nodup->(∀x∈l,x∈m)->l.length<=m.length
 |[],_,_,_=>XQ _
 |x::l,m,nd,h=>by
  rw[XR]at nd
  have hx:=h x Xd
  have:=lW l (m.erase x) nd.2 λy hy=>(List.mem_erase_of_ne (λe:y=x=>nd.1 (e▸hy))).mpr (h y (W_ _ hy))
  rw[aaM hx]at this
  have:0<m.length:=YU hx
  rw[Xt]
  lia
def tL(h:ex F b (put ρ i false x)=some (.next ρ')):aO (λx ρ=>(aG 0 x).bind λys=>(dq ρ [i] ys).bind λρ'=>ex F b ρ') (x::r) ρ=aO (λx ρ=>(aG 0 x).bind λys=>(dq ρ [i] ys).bind λρ'=>ex F b ρ') r ρ':=by
 rw[aO]
 show(ex F b (put ρ i false x)).bind _=_
 rw[h]
 rfl
theorem pE:∀{ks:List (List Int)},(∀k∈ks,k≠[])->iS (ks.map tp)=some ks
 |[],_=>rfl
 |k::ks,h=>by
  show(aB (k.map .int)).bind _=_
  rw[cW]
  show(if k=[] then none else(iS (ks.map tp)).map (k:: ·))=_
  rw[Xx (h k Xd),pE λx hx=>h x (W_ _ hx)]
  rfl
def Bx(h1:1<=s)(h:t∈perms s):t≠[]:=λz=>by
 have:=az h
 rw[z]at this
 simp at this
 lia
noncomputable abbrev mv(B:List (List Int)):List D:=B.map λ_=>D.bl true
noncomputable abbrev AE(x0 x1 x2:Option (Bool×D))(B W:List (List Int))(x5 x6 x7:Option (Bool×D)):Env:=[x0,x1,x2,some (true,.bz 1 B (mv B)),some (true,.lst (W.map tp)),x5,x6,x7]
noncomputable abbrev NB:C:=(.seq (.asg 7 (.call 18 (.w 5 (.u 6)))) (.seq (.ifs (.vw true (.var 7) 3) (.seq (.rA 3 (.var 7) (.c (.bl true))) (.seq (.app 4 (.var 7)) .skip)) .skip) .skip))
noncomputable abbrev Kk:C:=(.seq (.pop 5 4) (.seq (.for [6] 0 (.it (.var 0)) NB) .skip))
def qL(h:t≠0)(p:List Int):dD t (tp p)=some p:=by
 show(if t=0 then none else aB (p.map .int))=some p
 rw[Xx h]
 exact cW p
def EH(bJ:∀p∈perms s,∀q∈perms s,F 18 [tp p,tp q]=some (tp (comp p q)))(ht:t∈perms s)(hg:g∈perms s)(hB:B.length<=1000)(hW:W.length<=10000):
  ex F NB (AE x0 x1 x2 B W (some (false,tp t)) (some (false,tp g)) x7)=some (.next (if comp t g∈B then AE x0 x1 x2 B W (some (false,tp t)) (some (false,tp g)) (some (false,tp (comp t g))) else AE x0 x1 x2 (B++[comp t g]) (W++[comp t g]) (some (false,tp t)) (some (false,tp g)) (some (false,tp (comp t g))))):=by
 have eU:bj=16777216:=rfl
 have h1:ev F false (.call 18 (.w 5 (.u 6))) (AE x0 x1 x2 B W (some (false,tp t)) (some (false,tp g)) x7)=some (tp (comp t g)):=aJ (dG rfl rfl) (bJ t ht g hg) (aL _)
 have h2:ev F false (.vw true (.var 7) 3) (AE x0 x1 x2 B W (some (false,tp t)) (some (false,tp g)) (some (false,tp (comp t g))))=some (.bl (!decide (comp t g∈B))):=by
  show((dD 1 (tp (comp t g))).map λx=>D.bl (!decide (x∈B)))=_
  rw[qL (by decide)]
  rfl
 rw[bP,aD h1]
 show ex F (.seq (.ifs (.vw true (.var 7) 3) _ .skip) .skip) (AE x0 x1 x2 B W (some (false,tp t)) (some (false,tp g)) (some (false,tp (comp t g))))=_
 by_cases hm:comp t g∈B
 .rw[decide_eq_true hm]at h2
  rw[bP,ju,h2,Xs hm]
  rfl
 .rw[decide_eq_false hm]at h2
  have s1:ex F (.rA 3 (.var 7) (.c (.bl true))) (AE x0 x1 x2 B W (some (false,tp t)) (some (false,tp g)) (some (false,tp (comp t g))))=some (.next (AE x0 x1 x2 (B++[comp t g]) W (some (false,tp t)) (some (false,tp g)) (some (false,tp (comp t g))))):=by
   show((dD 1 (tp (comp t g))).bind λx=>if B.length<bj/\x∉B then some (lB.next (put (AE x0 x1 x2 B W (some (false,tp t)) (some (false,tp g)) (some (false,tp (comp t g)))) 3 true (.bz 1 (B++[x]) (mv B++[.bl true])))) else none)=_
   rw[qL (by decide)]
   show(if B.length<bj/\comp t g∉B then _ else none)=_
   rw[Xs ⟨by lia,hm⟩]
   have:mv B++[D.bl true]=mv (B++[comp t g]):=by unfold mv;rw[XX];rfl
   rw[this]
   rfl
  have s2:ex F (.app 4 (.var 7)) (AE x0 x1 x2 (B++[comp t g]) W (some (false,tp t)) (some (false,tp g)) (some (false,tp (comp t g))))=some (.next (AE x0 x1 x2 (B++[comp t g]) (W++[comp t g]) (some (false,tp t)) (some (false,tp g)) (some (false,tp (comp t g))))):=by
   rw[gP (d:=tp (comp t g)) (xs:=W.map tp) rfl rfl (by rw[Xb];lia)]
   have:W.map tp++[tp (comp t g)]=(W++[comp t g]).map tp:=by rw[XX];rfl
   rw[this]
   rfl
  rw[bP,ju,h2,Xx hm]
  show((ex F (.seq (.rA 3 (.var 7) (.c (.bl true))) (.seq (.app 4 (.var 7)) .skip)) (AE x0 x1 x2 B W (some (false,tp t)) (some (false,tp g)) (some (false,tp (comp t g))))).bind _)=_
  rw[bP,s1]
  show((ex F (.seq (.app 4 (.var 7)) .skip) (AE x0 x1 x2 (B++[comp t g]) W (some (false,tp t)) (some (false,tp g)) (some (false,tp (comp t g))))).bind _)=_
  rw[bP,s2]
  rfl
theorem By(h6:s<=6)(bJ:∀p∈perms s,∀q∈perms s,F 18 [tp p,tp q]=some (tp (comp p q)))(hG:∀g∈G,g∈perms s)(ht:t∈perms s):∀{gs done B W:List (List Int)}{x6 x7:Option (Bool×D)},(∀g∈gs,g∈G)->Am comp (bu s) G t done B W->W.length+gs.length<=5000->
  ∃B' W' y6 y7,aO (λx ρ=>(aG 0 x).bind λys=>(dq ρ [6] ys).bind λρ'=>ex F NB ρ') (gs.map tp) (AE x0 x1 x2 B W (some (false,tp t)) x6 x7)=some (.next (AE x0 x1 x2 B' W' (some (false,tp t)) y6 y7))/\Am comp (bu s) G t (done++gs) B' W'/\B.length<=B'.length/\B'.length+W.length=B.length+W'.length
 |[],done,B,W,x6,x7,_,h,_=>⟨B,W,x6,x7,rfl,by rw[X7];exact h,Xf _,rfl⟩
 |g::gs,done,B,W,x6,x7,Rk,h,hn=>by
  rw[Xt]at hn
  have TC:=Rk g Xd
  have hg:=hG g TC
  have hB:B.length<=720:=Xq (lW _ _ h.nd λx hx=>Bn hG (h.gen x hx)) (nk h6)
  have h1:=EH bJ (x0:=x0) (x1:=x1) (x2:=x2) (x7:=x7) (B:=B) (W:=W) ht hg (by lia) (by lia)
  have e0:done++g::gs=(done++[g])++gs:=by rw[XI];rfl
  by_cases hm:comp t g∈B
  .rw[Xs hm]at h1
   refine Kp (By h6 bJ hG (x0:=x0) (x1:=x1) (x2:=x2) ht (gs:=gs) (done:=done++[g]) (B:=B) (W:=W) (x6:=some (false,tp g)) (x7:=some (false,tp (comp t g))) (λq hq=>Rk q (W_ _ hq)) (h.old hm) (by lia)) λB' W' y6 y7 i1 i2 i3 i4=>⟨B',W',y6,y7,?_,by rw[e0];exact i2,i3,i4⟩
   rw[Xy,tL (ρ':=AE x0 x1 x2 B W (some (false,tp t)) (some (false,tp g)) (some (false,tp (comp t g)))) h1]
   exact i1
  .rw[Xx hm]at h1
   refine Kp (By h6 bJ hG (x0:=x0) (x1:=x1) (x2:=x2) ht (gs:=gs) (done:=done++[g]) (B:=B++[comp t g]) (W:=W++[comp t g]) (x6:=some (false,tp g)) (x7:=some (false,tp (comp t g))) (λq hq=>Rk q (W_ _ hq)) (h.new TC hm) (by rw[Xk,XG];lia)) λB' W' y6 y7 i1 i2 i3 i4=>?_
   rw[Xk,XG]at i3
   rw[Xk,XG,Xk,XG]at i4
   refine⟨B',W',y6,y7,?_,by rw[e0];exact i2,by lia,by lia⟩
   rw[Xy,tL (ρ':=AE x0 x1 x2 (B++[comp t g]) (W++[comp t g]) (some (false,tp t)) (some (false,tp g)) (some (false,tp (comp t g)))) h1]
   exact i1
theorem nr(n:Nat):∀W:List (List Int),gf (W.map tp) (n+1)=true
 |[]=>rfl
 |t::W=>by
  show(cG (tp t) (n+1)&&gf (W.map tp) (n+1))=true
  rw[A_,nr n W]
  rfl
def EI{x0 x1 x2 x5 x6 x7:Option (Bool×D)}{B W:List (List Int)}:ev F false (.cmp .NotEq (.var 4) (.lst .nil)) (AE x0 x1 x2 B W x5 x6 x7)=some (.bl (!W.isEmpty)):=by
 have h1:cmp .NotEq (.lst (W.map tp)) (.lst [])=some (!W.isEmpty):=by
  show(if(cG (.lst (W.map tp)) 60&&cG (.lst []) 60)=true then some (!gT (.lst (W.map tp)) (.lst [])) else none)=_
  have e1:cG (.lst (W.map tp)) 60=true:=nr 58 W
  rw[e1]
  cases W<;>rfl
 show(cmp .NotEq (.lst (W.map tp)) (.lst [])).map D.bl=_
 rw[h1]
 rfl
theorem wV(h6:s<=6)(bJ:∀p∈perms s,∀q∈perms s,F 18 [tp p,tp q]=some (tp (comp p q)))(hG:∀g∈G,g∈perms s)(Rl:G.length<=1000){r:D}(hr:r= .tup (G.map tp)\/r= .lst (G.map tp)):∀(n:Nat) {B W:List (List Int)}{x5 x6 x7:Option (Bool×D)},Al comp (bu s) G B W->2*(720-B.length)+W.length<n->2*(720-B.length)+W.length<=2000->
  ∃B' y5 y6 y7,jo (λρ=>(ev F false (.cmp .NotEq (.var 4) (.lst .nil)) ρ).bind eX) (ex F Kk) n (AE (some (false,r)) x1 x2 B W x5 x6 x7)=some (.next (AE (some (false,r)) x1 x2 B' [] y5 y6 y7))/\Al comp (bu s) G B' []
 |0,_,_,_,_,_,_,h,_=>absurd h (Y5 _)
 |n+1,B,W,x5,x6,x7,h,hn,hb=>by
  rw[jo,EI]
  rcases abr W with rfl|⟨W0,t,rfl⟩
  .exact⟨B,x5,x6,x7,rfl,h⟩
  .rw[abt]at h hn hb⊢
   rw[Xk,XG]at hn hb
   have gx:(W0++[t]).isEmpty =false:=by simp
   rw[gx]
   have Wk:t∈B:=h.wb t (Xv _ (Xc.mpr rfl))
   have ht:t∈perms s:=Bn hG (h.gen t Wk)
   refine ao λnO=>Kp (By h6 bJ hG (x0:=some (false,r)) (x1:=x1) (x2:=x2) ht (gs:=G) (done:=[]) (B:=B) (W:=W0) (x6:=x6) (x7:=x7) (λ_ z=>z) h.start (by lia)) λB' W' y6 y7 i1 i2 i3 i4=>?_
   rw[YT]at i2
   have hA:=i2.fin λg hg=>hg
   have HH:B'.length<=720:=Xq (lW _ _ hA.nd λx hx=>Bn hG (hA.gen x hx)) (nk h6)
   refine nI (wV h6 bJ hG Rl hr (x1:=x1) (x2:=x2) n (B:=B') (W:=W') (x5:=some (false,tp t)) (x6:=y6) (x7:=y7) hA (by lia) (by lia)) λB2 z5 z6 z7 j1 j2=>nO ?_
   refine⟨B2,z5,z6,z7,?_,j2⟩
   have p1:ex F (.pop 5 4) (AE (some (false,r)) x1 x2 B (W0++[t]) x5 x6 x7)=some (.next (AE (some (false,r)) x1 x2 B W0 (some (false,tp t)) x6 x7)):=by
    have e1:((W0++[t]).map tp).getLast? =some (tp t):=by rw[XX];simp
    have e2:((W0++[t]).map tp).dropLast =W0.map tp:=by rw[XX];simp
    show(((W0++[t]).map tp).getLast?.map λz=>lB.next (put (put (AE (some (false,r)) x1 x2 B (W0++[t]) x5 x6 x7) 4 true (.lst ((W0++[t]).map tp).dropLast)) 5 false z))=_
    rw[e1,e2]
    rfl
   have p2:ex F (.for [6] 0 (.it (.var 0)) NB) (AE (some (false,r)) x1 x2 B W0 (some (false,tp t)) x6 x7)=some (.next (AE (some (false,r)) x1 x2 B' W' (some (false,tp t)) y6 y7)):=by rcases hr with e|e<;>(subst e;exact i1)
   have p3:ex F Kk (AE (some (false,r)) x1 x2 B (W0++[t]) x5 x6 x7)=some (.next (AE (some (false,r)) x1 x2 B' W' (some (false,tp t)) y6 y7)):=by
    rw[bP,p1]
    show ex F (.seq (.for [6] 0 (.it (.var 0)) NB) .skip) _=_
    rw[bP,p2]
    rfl
   show((ex F Kk (AE (some (false,r)) x1 x2 B (W0++[t]) x5 x6 x7)).bind _)=_
   rw[p3]
   exact j1
def Jw(h1:1<=s)(h6:s<=6)(bJ:∀p∈perms s,∀q∈perms s,F 18 [tp p,tp q]=some (tp (comp p q)))(hG:∀g∈G,g∈perms s)(Rl:G.length<=1000){r:D}(hr:r= .tup (G.map tp)\/r= .lst (G.map tp)):
  ∃B,out (ex F Et.body (ai Et [r,.int s]))=some (.lst ((cN.fg B).map tp))/\Al comp (bu s) G B []:=by
 obtain⟨B,y5,y6,y7,i1,i2⟩:=wV h6 bJ hG Rl hr (x1:=some (false,.int s)) (x2:=some (false,tp (bu s))) iD (B:=[bu s]) (W:=[bu s]) (x5:=none) (x6:=none) (x7:=none) V' (by
  have:iD=1000000:=rfl
  rw[this,XG];lia) (by rw[XG];lia)
 refine⟨B,?_,i2⟩
 have a1:ev F false (.gW .tuple (.u 1)) (ai Et [r,.int s])=some (tp (bu s)):=by
  show(dn [.int s]).bind (ml .tuple)=_
  rw[b6 (by lia),dg]
  rfl
 have a2:ex F (.pW 3 1 (.w 2 (.cons (.c (.bl true)) .nil))) [some (false,r),some (false,.int s),some (false,tp (bu s)),none,none,none,none,none]=some (.next [some (false,r),some (false,.int s),some (false,tp (bu s)),some (true,.bz 1 [bu s] [.bl true]),none,none,none,none]):=by
  show(((dD 1 (tp (bu s))).map λx=>D.bz 1 [x] [.bl true]).map λd=>lB.next (put [some (false,r),some (false,.int s),some (false,tp (bu s)),none,none,none,none,none] 3 true d))=_
  rw[qL (by decide)]
  rfl
 have a3:ex F (.while (.cmp .NotEq (.var 4) (.lst .nil)) Kk) (AE (some (false,r)) (some (false,.int s)) (some (false,tp (bu s))) [bu s] [bu s] none none none)=some (.next (AE (some (false,r)) (some (false,.int s)) (some (false,tp (bu s))) B [] y5 y6 y7)):=i1
 have a4:ev F true (.eE 3) (AE (some (false,r)) (some (false,.int s)) (some (false,tp (bu s))) B [] y5 y6 y7)=some (.lst ((cN.fg B).map tp)):=by
  show(if []∈B then none else some (D.lst ((cN.fg B).map uq)))=_
  rw[Xx λz=>Bx h1 (Bn hG (i2.gen _ z)) rfl]
  rfl
 have hx:ex F Et.body (ai Et [r,.int s])=(ex F (.asg 2 (.gW .tuple (.u 1))) (ai Et [r,.int s])).bind λo=>match o with
   | .next ρ'=>ex F (.seq (.pW 3 1 (.w 2 (.cons (.c (.bl true)) .nil))) (.seq (.cU 4 (.lst (.u 2))) (.seq (.while (.cmp .NotEq (.var 4) (.lst .nil)) Kk) (.seq (.ret (.eE 3)) .skip)))) ρ'
   |o=>some o:=rfl
 rw[hx,aD a1]
 show out (ex F (.seq (.pW 3 1 (.w 2 (.cons (.c (.bl true)) .nil))) _) [some (false,r),some (false,.int s),some (false,tp (bu s)),none,none,none,none,none])=_
 rw[bP,a2]
 show out (ex F (.seq (.while (.cmp .NotEq (.var 4) (.lst .nil)) Kk) (.seq (.ret (.eE 3)) .skip)) (AE (some (false,r)) (some (false,.int s)) (some (false,tp (bu s))) [bu s] [bu s] none none none))=_
 rw[bP,a3]
 exact bM a4
end
section
variable {s:Nat}{F:FT}
def Bz(ht:t∈perms s)(hi:i<=s):t.take i=bu i↔i8 (pg s) t i:=by
 have hl:=az ht
 constructor
 .intro h k hk
  have h1:=iK ht (show k<s by lia)
  have e:(t.take i).getD k 0=(bu i).getD k 0:=by rw[h]
  rw[uW hk,Xi,ZR,Xs hk,<-Xi,h1]at e
  lia
 .intro h
  apply Yv
  intro k
  rw[ZR]
  by_cases hk:k<i
  .rw[Xs hk]
   have h1:=iK ht (show k<s by lia)
   have h2:=uW hk
   rw[h k hk]at h1
   have la:k<t.length:=by lia
   have lb:k<(bu i).length :=by rw[az (dh i)];exact hk
   rw[Xi,W9 la]at h1
   rw[Xi,W9 lb]at h2
   rw[W9 la,W9 lb]
   have QQ:t[k]=(k:Int):=h1
   have MW:(bu i)[k]=(k:Int):=h2
   rw[QQ,MW]
  .rw[Xx hk,Xz (by rw[az (dh i)];lia)]
noncomputable def cf(s i p:Nat)(t:List Int):Bool:=decide (t.take i=bu i)&&decide ((pg s).im t i=p)
def kL(ht:t∈perms s)(hi:i<=s):cf s i p t=true↔i8 (pg s) t i/\(pg s).im t i=p:=by
 unfold cf
 rw[W7,decide_eq_true_eq,decide_eq_true_eq,Bz ht hi]
def BA{M:List Int->Prop}(hM:gO (pg s) M){Ts:List (List Int)}(hT:∀t,t∈Ts↔M t){i p:Nat}(hi:i<s){a:List Int}{r:List (List Int)}(h:Ts.filter (cf s i p)=a::r):fN (pg s) M i p (cN.iu a r):=by
 have mem:∀x,x∈a::r↔M x/\i8 (pg s) x i/\(pg s).im x i=p:=λx=>by
  rw[<-h,YI,hT]
  constructor
  .rintro⟨h1,h2⟩
   exact⟨h1,(kL (hM.s x h1) (by lia)).mp h2⟩
  .rintro⟨h1,h2⟩
   exact⟨h1,(kL (hM.s x h1) (by lia)).mpr h2⟩
 refine cS ((mem _).mp (cN.sh r a)) λm1 m2 m3=>⟨m1,m2,m3,λt h1 h2 h3=>?_⟩
 have zE:=cN.vN r a t ((mem t).mpr ⟨h1,h2,h3⟩)
 cases e:cN.bC (cN.iu a r) t with
 |true=>exact .inr ((Es (hM.s _ m1) (hM.s t h1)).mpr e)
 |false=>exact .inl (cN.kh _ _ e zE)
def EJ{M:List Int->Prop}(hM:gO (pg s) M){Ts:List (List Int)}(hT:∀t,t∈Ts↔M t){i p:Nat}(hi:i<s)(h:Ts.filter (cf s i p)=[]):¬ ∃x,fN (pg s) M i p x:=λzz=>by
 obtain⟨x,b⟩:=zz
 have:x∈Ts.filter (cf s i p):=YI.mpr ⟨(hT x).mpr b.1,(kL (hM.s x b.1) (by lia)).mpr ⟨b.2.1,b.2.2.1⟩⟩
 rw[h]at this
 cases this
noncomputable abbrev BB:E:=(.comp [3,5] 0 (.it (.var 0)) (.cons (.f_ true (.cons (.cmp .Eq (.sl (.var 0) .nil (.u 1)) (.gW .tuple (.u 1))) (.cons (.cmp .Eq (.idx (.var 0) (.var 1)) (.var 2)) .nil))) .nil) (.var 0))
noncomputable abbrev F8:C:=(.seq (.cU 6 BB) (.seq (.ifs (.cmp .NotEq (.var 6) (.lst .nil)) (.seq (.app 4 (.tup (.w 5 (.cons (.prim .min (.u 6)) .nil)))) .skip) .skip) .skip))
noncomputable abbrev Oz:C:=(.seq (.cU 4 (.lst .nil)) (.seq (.for [5] 0 (.eL (.u 1)) F8) (.seq (.app 2 (.prim .tuple (.u 4))) .skip)))
noncomputable abbrev ZE(Ts:List (List Int))(s:Nat)(x2 x3:Option (Bool×D))(acc:List D)(x5 x6:Option (Bool×D)):Env:=[some (false,.lst (Ts.map tp)),some (false,.int s),x2,x3,some (true,.lst acc),x5,x6]
def EK(h6:s<=6){Ts:List (List Int)}(zb:∀t∈Ts,t∈perms s)(B5:Ts.length<=1000){i p:Nat}(hi:i<s){x2 x6:Option (Bool×D)}{acc:List D}:
  ev F false BB (ZE Ts s x2 (some (false,.int i)) acc (some (false,.int p)) x6)=some (.lst ((Ts.filter (cf s i p)).map tp)):=by
 have eU:bj=16777216:=rfl
 have hw:walk (fL F [3,5] (.cons (.f_ true (.cons (.cmp .Eq (.sl (.var 0) .nil (.u 1)) (.gW .tuple (.u 1))) (.cons (.cmp .Eq (.idx (.var 0) (.var 1)) (.var 2)) .nil))) .nil) (.var 0) (ZE Ts s x2 (some (false,.int i)) acc (some (false,.int p)) x6)) (Ts.map tp)=some ((Ts.filter (cf s i p)).map tp):=by
  clear B5
  induction Ts with
  |nil=>rfl
  |cons t Ts ih=>
   have ht:=zb t Xd
   have hl:=az ht
   let ρ:Env:=[some (false,tp t),some (false,.int i),some (false,.int p)]
   have c1:ev F false (.cmp .Eq (.sl (.var 0) .nil (.u 1)) (.gW .tuple (.u 1))) ρ=some (.bl (decide (t.take i=bu i))):=by
    have e1:ev F true (.sl (.var 0) .nil (.u 1)) ρ=some (tp (t.take i)):=by
     show some (D.tup (iR (t.map .int) none (some (i:Int))))=_
     rw[sW _ _ (by rw[Xb];lia),<-List.map_take]
     rfl
    have e2:ev F true (.gW .tuple (.u 1)) ρ=some (tp (bu i)):=by
     show(dn [.int i]).bind (ml .tuple)=_
     rw[b6 (by lia),dg]
     rfl
    rw[nY,e1,e2]
    show(cmp .Eq (tp (t.take i)) (tp (bu i))).map D.bl=_
    rw[Np]
    rfl
   have c2:ev F false (.cmp .Eq (.idx (.var 0) (.var 1)) (.var 2)) ρ=some (.bl (decide ((pg s).im t i=p))):=by
    have e1:ev F true (.idx (.var 0) (.var 1)) ρ=some (.int ((pg s).im t i:Nat)):=ng ht hi
    rw[nY,e1]
    show some (D.bl ((((pg s).im t i:Nat):Int)==(p:Int)))=_
    rw[wM]
   have c3:fm F true (.cons (.f_ true (.cons (.cmp .Eq (.sl (.var 0) .nil (.u 1)) (.gW .tuple (.u 1))) (.cons (.cmp .Eq (.idx (.var 0) (.var 1)) (.var 2)) .nil))) .nil) ρ=some (cf s i p t):=by
    have c4:fm F true (.cons (.cmp .Eq (.sl (.var 0) .nil (.u 1)) (.gW .tuple (.u 1))) (.cons (.cmp .Eq (.idx (.var 0) (.var 1)) (.var 2)) .nil)) ρ=some (cf s i p t):=by
     rw[fm,c1]
     show(if decide (t.take i=bu i)=true then fm F true (.cons (.cmp .Eq (.idx (.var 0) (.var 1)) (.var 2)) .nil) ρ else some (decide (t.take i=bu i)))=_
     rw[fm,c2]
     unfold cf
     cases decide (t.take i=bu i)<;>cases decide ((pg s).im t i=p)<;>rfl
    have c5:ev F false (.f_ true (.cons (.cmp .Eq (.sl (.var 0) .nil (.u 1)) (.gW .tuple (.u 1))) (.cons (.cmp .Eq (.idx (.var 0) (.var 1)) (.var 2)) .nil))) ρ=some (.bl (cf s i p t)):=by
     rw[Lp,c4]
     rfl
    rw[fm,c5]
    cases cf s i p t<;>rfl
   have Hl:=ih λx hx=>zb x (W_ _ hx)
   have Ly:fL F [3,5] (.cons (.f_ true (.cons (.cmp .Eq (.sl (.var 0) .nil (.u 1)) (.gW .tuple (.u 1))) (.cons (.cmp .Eq (.idx (.var 0) (.var 1)) (.var 2)) .nil))) .nil) (.var 0) (ZE (t::Ts) s x2 (some (false,.int i)) acc (some (false,.int p)) x6) (tp t)=some (if cf s i p t then some (tp t) else none):=by
    show((fm F true _ ρ).bind λk=>if k then some (some (tp t)) else some none)=_
    rw[c3]
    cases cf s i p t<;>rfl
   have TF:walk (fL F [3,5] (.cons (.f_ true (.cons (.cmp .Eq (.sl (.var 0) .nil (.u 1)) (.gW .tuple (.u 1))) (.cons (.cmp .Eq (.idx (.var 0) (.var 1)) (.var 2)) .nil))) .nil) (.var 0) (ZE (t::Ts) s x2 (some (false,.int i)) acc (some (false,.int p)) x6)) (Ts.map tp)=some ((Ts.filter (cf s i p)).map tp):=Hl
   rw[Xy,walk,Ly,ZF]
   cases cf s i p t with
   |true=>
    show(walk _ (Ts.map tp)).map (tp t:: ·)=_
    rw[TF]
    rfl
   |false=>exact TF
 have hv:ev F true (.var 0) (ZE Ts s x2 (some (false,.int i)) acc (some (false,.int p)) x6)=some (.lst (Ts.map tp)):=rfl
 rw[jT hv rfl (by rw[Xb];lia),hw]
 rfl
open Classical in
theorem BC(h6:s<=6)(h1:1<=s){M:List Int->Prop}(hM:gO (pg s) M){Ts:List (List Int)}(hT:∀t,t∈Ts↔M t)(B5:Ts.length<=1000){i:Nat}(hi:i<s){x2:Option (Bool×D)}:∀{qs:List Nat}{acc:List D}{x5 x6:Option (Bool×D)},acc.length+qs.length<=10000->
  ∃y5 y6,aO (λx ρ=>(aG 0 x).bind λys=>(dq ρ [5] ys).bind λρ'=>ex F F8 ρ') (qs.map λ(k:Nat)=>D.int (k:Int)) (ZE Ts s x2 (some (false,.int i)) acc x5 x6)=some (.next (ZE Ts s x2 (some (false,.int i)) (acc++((qs.filter λp=>decide (∃x,fN (pg s) M i p x)).map λp=>pairD (p,cq (pg s) M i p))) y5 y6))
 |[],acc,x5,x6,_=>⟨x5,x6,by show some (lB.next _)=_;rw[List.filter_nil,aao,X7]⟩
 |p::qs,acc,x5,x6,hn=>by
  rw[Xt]at hn
  have eU:bj=16777216:=rfl
  have zb:∀t∈Ts,t∈perms s:=λt h=>hM.s t ((hT t).mp h)
  have hg:=EK (F:=F) h6 zb B5 (p:=p) hi (x2:=x2) (x6:=x6) (acc:=acc)
  have a1:ex F (.cU 6 BB) (ZE Ts s x2 (some (false,.int i)) acc (some (false,.int p)) x6)=some (.next (ZE Ts s x2 (some (false,.int i)) acc (some (false,.int p)) (some (true,.lst ((Ts.filter (cf s i p)).map tp))))):=by
   rw[xG,hg]
   rfl
  have a2:ev F false (.cmp .NotEq (.var 6) (.lst .nil)) (ZE Ts s x2 (some (false,.int i)) acc (some (false,.int p)) (some (true,.lst ((Ts.filter (cf s i p)).map tp))))=some (.bl (!(Ts.filter (cf s i p)).isEmpty)):=by
   have h1:∀W:List (List Int),cmp .NotEq (.lst (W.map tp)) (.lst [])=some (!W.isEmpty):=λW=>by
    show(if(cG (.lst (W.map tp)) 60&&cG (.lst []) 60)=true then some (!gT (.lst (W.map tp)) (.lst [])) else none)=_
    have e1:cG (.lst (W.map tp)) 60=true:=nr 58 W
    rw[e1]
    cases W<;>rfl
   show(cmp .NotEq (.lst ((Ts.filter (cf s i p)).map tp)) (.lst [])).map D.bl=_
   rw[h1]
   rfl
  cases hf:Ts.filter (cf s i p)with
  |nil=>
   rw[hf]at a1 a2
   refine E2 (BC h6 h1 hM hT B5 hi (x2:=x2) (qs:=qs) (acc:=acc) (x5:=some (false,.int p)) (x6:=some (true,.lst [])) (by lia)) λy5 y6 ih=>⟨y5,y6,?_⟩
   have hb:ex F F8 (put (ZE Ts s x2 (some (false,.int i)) acc x5 x6) 5 false (.int p))=some (.next (ZE Ts s x2 (some (false,.int i)) acc (some (false,.int p)) (some (true,.lst [])))):=by
    show ex F F8 (ZE Ts s x2 (some (false,.int i)) acc (some (false,.int p)) x6)=_
    rw[bP,a1]
    show ex F (.seq (.ifs (.cmp .NotEq (.var 6) (.lst .nil)) (.seq (.app 4 (.tup (.w 5 (.cons (.prim .min (.u 6)) .nil)))) .skip) .skip) .skip) (ZE Ts s x2 (some (false,.int i)) acc (some (false,.int p)) (some (true,.lst [])))=_
    rw[bP,ju]
    have Rm:ev F false (.cmp .NotEq (.var 6) (.lst .nil)) (ZE Ts s x2 (some (false,.int i)) acc (some (false,.int p)) (some (true,.lst [])))=some (.bl false):=a2
    rw[Rm]
    rfl
   rw[Xy,tL hb,ih,ZF,Xx (by rw[decide_eq_true_eq];exact EJ hM hT hi hf)]
  |cons a r=>
   rw[hf]at a1 a2
   have tJ:=BA hM hT hi hf
   refine E2 (BC h6 h1 hM hT B5 hi (x2:=x2) (qs:=qs) (acc:=acc++[pairD (p,cq (pg s) M i p)]) (x5:=some (false,.int p)) (x6:=some (true,.lst ((a::r).map tp))) (by rw[Xk,XG];lia)) λy5 y6 ih=>⟨y5,y6,?_⟩
   have Bf:ev F false (.prim .min (.u 6)) (ZE Ts s x2 (some (false,.int i)) acc (some (false,.int p)) (some (true,.lst ((a::r).map tp))))=some (tp (cN.iu a r)):=by
    show((iS ((a::r).map tp)).bind λks=>match ks with|[]=>none|a::r=>some (uq (cN.iu a r)))=_
    rw[pE λt ht=>Bx h1 (zb t (YI.mp (show t∈Ts.filter (cf s i p) by rw[hf];exact ht)).1)]
    rfl
   have Rn:ev F false (.tup (.w 5 (.cons (.prim .min (.u 6)) .nil))) (ZE Ts s x2 (some (false,.int i)) acc (some (false,.int p)) (some (true,.lst ((a::r).map tp))))=some (pairD (p,cq (pg s) M i p)):=by
    have:=dG (b:=false) (F:=F) (ρ:=ZE Ts s x2 (some (false,.int i)) acc (some (false,.int p)) (some (true,.lst ((a::r).map tp)))) (a:= .var 5) (x:= .int p) rfl Bf
    rw[pX,this,fO tJ]
    rfl
   have Ro:ex F (.app 4 (.tup (.w 5 (.cons (.prim .min (.u 6)) .nil)))) (ZE Ts s x2 (some (false,.int i)) acc (some (false,.int p)) (some (true,.lst ((a::r).map tp))))=some (.next (ZE Ts s x2 (some (false,.int i)) (acc++[pairD (p,cq (pg s) M i p)]) (some (false,.int p)) (some (true,.lst ((a::r).map tp))))):=by
    rw[gP Rn (xs:=acc) rfl (by lia)]
    rfl
   have hb:ex F F8 (put (ZE Ts s x2 (some (false,.int i)) acc x5 x6) 5 false (.int p))=some (.next (ZE Ts s x2 (some (false,.int i)) (acc++[pairD (p,cq (pg s) M i p)]) (some (false,.int p)) (some (true,.lst ((a::r).map tp))))):=by
    show ex F F8 (ZE Ts s x2 (some (false,.int i)) acc (some (false,.int p)) x6)=_
    rw[bP,a1]
    show ex F (.seq (.ifs (.cmp .NotEq (.var 6) (.lst .nil)) (.seq (.app 4 (.tup (.w 5 (.cons (.prim .min (.u 6)) .nil)))) .skip) .skip) .skip) (ZE Ts s x2 (some (false,.int i)) acc (some (false,.int p)) (some (true,.lst ((a::r).map tp))))=_
    have Rm:ev F false (.cmp .NotEq (.var 6) (.lst .nil)) (ZE Ts s x2 (some (false,.int i)) acc (some (false,.int p)) (some (true,.lst ((a::r).map tp))))=some (.bl true):=a2
    rw[bP,ju,Rm]
    show((ex F (.seq (.app 4 (.tup (.w 5 (.cons (.prim .min (.u 6)) .nil)))) .skip) (ZE Ts s x2 (some (false,.int i)) acc (some (false,.int p)) (some (true,.lst ((a::r).map tp))))).bind _)=_
    rw[bP,Ro]
    rfl
   rw[Xy,tL hb,ih,ZF,Xs (by rw[decide_eq_true_eq];exact⟨_,tJ⟩),Xy,XI]
   rfl
theorem BD(h6:s<=6)(h1:1<=s){M:List Int->Prop}(hM:gO (pg s) M){Ts:List (List Int)}(hT:∀t,t∈Ts↔M t)(B5:Ts.length<=1000):∀{is:List Nat}{acc:List D}{x3 x4 x5 x6:Option (Bool×D)},(∀i∈is,i<s)->acc.length+is.length<=1000->
  ∃y3 y4 y5 y6,aO (λx ρ=>(aG 0 x).bind λys=>(dq ρ [3] ys).bind λρ'=>ex F Oz ρ') (is.map λ(k:Nat)=>D.int (k:Int)) [some (false,.lst (Ts.map tp)),some (false,.int s),some (true,.lst acc),x3,x4,x5,x6]=
   some (.next [some (false,.lst (Ts.map tp)),some (false,.int s),some (true,.lst (acc++is.map λi=>aU (aT (pg s) M i))),y3,y4,y5,y6])
 |[],acc,x3,x4,x5,x6,_,_=>⟨x3,x4,x5,x6,by show some (lB.next _)=_;rw[aao,X7]⟩
 |i::is,acc,x3,x4,x5,x6,TH,hn=>by
  rw[Xt]at hn
  have eU:bj=16777216:=rfl
  have hi:=TH i Xd
  refine E2 (BC h6 h1 hM hT B5 hi (F:=F) (x2:=some (true,.lst acc)) (qs:=List.range s) (acc:=[]) (x5:=x5) (x6:=x6) (by rw[YS,Z3];lia)) λz5 z6 i1=>?_
  have er:((List.range s).filter λp=>@decide (∃x,fN (pg s) M i p x) (Classical.propDecidable _)).map (λp=>pairD (p,cq (pg s) M i p))=(aT (pg s) M i).map pairD:=by
   unfold aT
   rw[XY]
   rfl
  rw[YT,er]at i1
  refine RZ (BD h6 h1 hM hT B5 (is:=is) (acc:=acc++[aU (aT (pg s) M i)]) (x3:=some (false,.int i)) (x4:=some (true,.lst ((aT (pg s) M i).map pairD))) (x5:=z5) (x6:=z6) (λj hj=>TH j (W_ _ hj)) (by rw[Xk,XG];lia)) λy3 y4 y5 y6 ih=>⟨y3,y4,y5,y6,?_⟩
  have a2:ex F (.for [5] 0 (.eL (.u 1)) F8) (ZE Ts s (some (true,.lst acc)) (some (false,.int i)) [] x5 x6)=some (.next (ZE Ts s (some (true,.lst acc)) (some (false,.int i)) ((aT (pg s) M i).map pairD) z5 z6)):=by
   have hr:(cc F false (.u 1) (ZE Ts s (some (true,.lst acc)) (some (false,.int i)) [] x5 x6)).bind dn=some (bA 0 s):=b6 (by lia)
   rw[wG hr,ef]
   exact i1
  have a3:ex F (.app 2 (.prim .tuple (.u 4))) (ZE Ts s (some (true,.lst acc)) (some (false,.int i)) ((aT (pg s) M i).map pairD) z5 z6)=some (.next (ZE Ts s (some (true,.lst (acc++[aU (aT (pg s) M i)]))) (some (false,.int i)) ((aT (pg s) M i).map pairD) z5 z6)):=by
   rw[gP (d:=aU (aT (pg s) M i)) (xs:=acc) rfl rfl (by lia)]
   rfl
  have hb:ex F Oz (put [some (false,.lst (Ts.map tp)),some (false,.int s),some (true,.lst acc),x3,x4,x5,x6] 3 false (.int i))=some (.next (ZE Ts s (some (true,.lst (acc++[aU (aT (pg s) M i)]))) (some (false,.int i)) ((aT (pg s) M i).map pairD) z5 z6)):=by
   show ex F (.seq (.for [5] 0 (.eL (.u 1)) F8) (.seq (.app 2 (.prim .tuple (.u 4))) .skip)) (ZE Ts s (some (true,.lst acc)) (some (false,.int i)) [] x5 x6)=_
   rw[bP,a2]
   show ex F (.seq (.app 2 (.prim .tuple (.u 4))) .skip) (ZE Ts s (some (true,.lst acc)) (some (false,.int i)) ((aT (pg s) M i).map pairD) z5 z6)=_
   rw[bP,a3]
   rfl
  rw[Xy,tL hb,Xy,show acc++aU (aT (pg s) M i)::is.map (λi=>aU (aT (pg s) M i))=(acc++[aU (aT (pg s) M i)])++is.map (λi=>aU (aT (pg s) M i)) by rw[XI];rfl]
  exact ih
def u0(h6:s<=6)(h1:1<=s){M:List Int->Prop}(hM:gO (pg s) M){Ts:List (List Int)}(hT:∀t,t∈Ts↔M t)(B5:Ts.length<=1000):
  out (ex F Jr.body (ai Jr [.lst (Ts.map tp),.int s]))=some (cZ (bE (pg s) M 0)):=by
 refine RZ (BD h6 h1 hM hT B5 (F:=F) (is:=List.range s) (acc:=[]) (x3:=none) (x4:=none) (x5:=none) (x6:=none) (λi h=>XU.mp h) (by rw[YS,Z3];lia)) λy3 y4 y5 y6 i1=>?_
 rw[YT]at i1
 have a1:ex F (.for [3] 0 (.eL (.u 1)) Oz) [some (false,.lst (Ts.map tp)),some (false,.int s),some (true,.lst []),none,none,none,none]=some (.next [some (false,.lst (Ts.map tp)),some (false,.int s),some (true,.lst ((List.range s).map λi=>aU (aT (pg s) M i))),y3,y4,y5,y6]):=by
  have hr:(cc F false (.u 1) [some (false,.lst (Ts.map tp)),some (false,.int s),some (true,.lst []),none,none,none,none]).bind dn=some (bA 0 s):=b6 (by lia)
  rw[wG hr,ef]
  exact i1
 have hx:ex F Jr.body (ai Jr [.lst (Ts.map tp),.int s])=(ex F (.for [3] 0 (.eL (.u 1)) Oz) [some (false,.lst (Ts.map tp)),some (false,.int s),some (true,.lst []),none,none,none,none]).bind λo=>match o with
   | .next ρ'=>ex F (.seq (.ret (.prim .tuple (.u 2))) .skip) ρ'
   |o=>some o:=rfl
 rw[hx,a1]
 show some (D.tup ((List.range s).map λi=>aU (aT (pg s) M i)))=_
 unfold cZ bE
 rw[XY,Zx]
 rfl
end
end bX
namespace Py
mutual
noncomputable def sz(m:Nat):D->Bool
 | .tup xs=>decide (xs.length<=m)&&EL m xs
 | .lst xs=>decide (xs.length<=m)&&EL m xs
 |_=>true
noncomputable def EL(m:Nat):List D->Bool
 |[]=>true
 |x::xs=>sz m x&&EL m xs
end
mutual
noncomputable def pt:D->Bool
 | .int i=>decide (0<=i)&&decide (i<10)
 | .tup xs=>NC xs
 |_=>false
noncomputable def NC:List D->Bool
 |[]=>true
 |x::xs=>pt x&&NC xs
end
theorem nu{n:Nat}:∀{xs:List D},gf xs n=true↔ ∀x∈xs,cG x n=true
 |[]=>by simp[gf]
 |x::xs=>by rw[gf,W7,nu (xs:=xs)];simp
theorem qM{m:Nat}:∀{xs:List D},EL m xs=true↔ ∀x∈xs,sz m x=true
 |[]=>by simp[EL]
 |x::xs=>by rw[EL,W7,qM (xs:=xs)];simp
theorem wW:∀{xs:List D},NC xs=true↔ ∀x∈xs,pt x=true
 |[]=>by simp[NC]
 |x::xs=>by rw[NC,W7,wW (xs:=xs)];simp
def wX{n:Nat}{xs:List D}:cG (.tup xs) (n+1)=true↔ ∀x∈xs,cG x n=true:=nu
def wY{n:Nat}{xs:List D}:cG (.lst xs) (n+1)=true↔ ∀x∈xs,cG x n=true:=nu
def u5{m:Nat}{xs:List D}:sz m (.tup xs)=true↔xs.length<=m/\∀x∈xs,sz m x=true:=by rw[sz,W7,decide_eq_true_eq,qM]
def Jx{m:Nat}{xs:List D}:sz m (.lst xs)=true↔xs.length<=m/\∀x∈xs,sz m x=true:=by rw[sz,W7,decide_eq_true_eq,qM]
def nv{xs:List D}:pt (.tup xs)=true↔ ∀x∈xs,pt x=true:=wW
mutual
theorem fP:∀(x:D) {n n':Nat},n<=n'->cG x n=true->cG x n'=true
 | .tup xs,n,n',h,hl=>by
  cases n with
  |zero=>cases hl
  |succ n=>
   cases n' with
   |zero=>omega
   |succ n'=>exact kM xs (by omega) hl
 | .lst xs,n,n',h,hl=>by
  cases n with
  |zero=>cases hl
  |succ n=>
   cases n' with
   |zero=>omega
   |succ n'=>exact kM xs (by omega) hl
 | .str x,_,_,_,hl=>hl
 | .bz _ _ _,_,_,_,hl=>hl
 | .dj,_,_,_,_=>rfl
 | .bl _,_,_,_,_=>rfl
 | .int _,_,_,_,_=>rfl
theorem kM:∀(xs:List D) {n n':Nat},n<=n'->gf xs n=true->gf xs n'=true
 |[],_,_,_,_=>rfl
 |x::xs,n,n',h,hl=>by
  rw[gf,W7]at hl⊢
  exact⟨fP x h hl.1,kM xs h hl.2⟩
end
mutual
theorem wZ:∀(x:D) {n n':Nat},n<=n'->sz n x=true->sz n' x=true
 | .tup xs,n,n',h,hl=>by
  rw[sz,W7,decide_eq_true_eq]at hl⊢
  exact⟨by omega,nA xs h hl.2⟩
 | .lst xs,n,n',h,hl=>by
  rw[sz,W7,decide_eq_true_eq]at hl⊢
  exact⟨by omega,nA xs h hl.2⟩
 | .str x,_,_,_,hl=>rfl
 | .bz _ _ _,_,_,_,hl=>rfl
 | .dj,_,_,_,_=>rfl
 | .bl _,_,_,_,_=>rfl
 | .int _,_,_,_,_=>rfl
theorem nA:∀(xs:List D) {n n':Nat},n<=n'->EL n xs=true->EL n' xs=true
 |[],_,_,_,_=>rfl
 |x::xs,n,n',h,hl=>by
  rw[EL,W7]at hl⊢
  exact⟨wZ x h hl.1,nA xs h hl.2⟩
end
def EM:(List.range 10).all (λn=>PK (PySem.Str.ofString (toString (n:Int))))=true:=by decide +kernel
def EN:(List.range 10).all (λn=>decide ((n:Int).natAbs.log2<1920))=true:=by decide +kernel
def w4{i:Int}(h:(decide (0<=i)&&decide (i<10))=true):i.natAbs.log2<1920/\PK (PySem.Str.ofString (toString i))=true:=by
 rw[W7,decide_eq_true_eq,decide_eq_true_eq]at h
 have hn:i.toNat<10:=(Int.toNat_lt h.1).mpr h.2
 have q:=all_range EM hn
 have l:=all_range EN hn
 rw[Int.toNat_of_nonneg h.1]at q l
 exact⟨of_decide_eq_true l,q⟩
noncomputable def gQ(go f:Nat):Fd:=⟨3,5,(.seq (.ifs (.f_ true (.cons (.cmp .Gt (.var 2) (.c (.int 0))) (.cons (.fQ (.var 0) .tuple) (.cons (.cmp .Gt (.prim .len (.cons (.var 0) .nil)) (.c (.int 0))) (.cons (.cmp .Gt (.bin .Mod (.var 1) (.c (.int 6))) (.c (.int 0))) .nil))))) (.seq (.asg 3 (.bin .Mod (.bin .FloorDiv (.var 1) (.c (.int 6))) (.prim .len (.cons (.var 0) .nil)))) (.seq (.asg 4 (.call f (.cons (.idx (.var 0) (.var 3)) (.cons (.bin .FloorDiv (.bin .FloorDiv (.var 1) (.c (.int 6))) (.prim .len (.cons (.var 0) .nil))) (.cons (.bin .Sub (.var 2) (.c (.int 1))) .nil))))) (.seq (.ret (.bin .Add (.bin .Add (.sl (.var 0) .nil (.cons (.var 3) .nil)) (.tup (.cons (.var 4) .nil))) (.sl (.var 0) (.cons (.bin .Add (.var 3) (.c (.int 1))) .nil) .nil))) .skip))) .skip)
 (.seq (.ifs (.f_ true (.cons (.fQ (.var 0) .tuple) (.cons (.cmp .Gt (.prim .len (.cons (.var 0) .nil)) (.c (.int 0))) (.cons (.cmp .Eq (.bin .Mod (.bin .FloorDiv (.var 1) (.c (.int 6))) (.c (.int 2))) (.c (.int 0))) .nil)))) (.seq (.ret (.idx (.lst (.cons (.prim .list (.cons (.var 0) .nil)) (.cons (.sl (.var 0) .nil (.cons (.neg (.c (.int 1))) .nil)) (.cons (.bin .Add (.var 0) (.sl (.var 0) (.cons (.neg (.c (.int 1))) .nil) .nil)) (.cons (.sl (.var 0) (.cons (.c (.int 1)) .nil) .nil) (.cons (.rev (.var 0)) (.cons (.bin .Mult (.var 0) (.c (.int 2))) .nil))))))) (.bin .Mod (.bin .FloorDiv (.var 1) (.c (.int 12))) (.c (.int 6))))) .skip) .skip)
 (.seq (.ifs (.f_ true (.cons (.fQ (.var 0) .int) (.cons (.cmp .Eq (.bin .Mod (.bin .FloorDiv (.var 1) (.c (.int 6))) (.c (.int 2))) (.c (.int 0))) .nil))) (.seq (.ret (.idx (.lst (.cons (.prim .str (.cons (.var 0) .nil)) (.cons (.neg (.var 0)) (.cons (.bin .Add (.var 0) (.c (.int 1))) (.cons (.cmp .Eq (.var 0) (.c (.int 1))) (.cons (.bin .Sub (.var 0) (.c (.int 1))) .nil)))))) (.bin .Mod (.bin .FloorDiv (.var 1) (.c (.int 12))) (.c (.int 5))))) .skip) .skip)
 (.seq (.ret (.call go (.cons (.bin .FloorDiv (.var 1) (.c (.int 6))) .nil))) .skip))))⟩
noncomputable def aF(k m:Nat)(x:D):Prop:=cG x k=true/\sz m x=true
def aF.mono{k m k' m':Nat}{x:D}(h:aF k m x)(hk:k<=k')(hm:m<=m'):aF k' m' x:=⟨fP x hk h.1,wZ x hm h.2⟩
def eg{k m:Nat}{xs:List D}(hl:xs.length<=m)(h:∀x∈xs,aF k m x):aF (k+1) m (.tup xs):=⟨wX.mpr λx hx=>(h x hx).1,u5.mpr ⟨hl,λx hx=>(h x hx).2⟩⟩
def BE{k m:Nat}{xs:List D}(hl:xs.length<=m)(h:∀x∈xs,aF k m x):aF (k+1) m (.lst xs):=⟨wY.mpr λx hx=>(h x hx).1,Jx.mpr ⟨hl,λx hx=>(h x hx).2⟩⟩
def aF.parts{k m:Nat}{xs:List D}(h:aF (k+1) m (.tup xs)):xs.length<=m/\∀x∈xs,aF k m x:=⟨(u5.mp h.2).1,λx hx=>⟨wX.mp h.1 x hx,(u5.mp h.2).2 x hx⟩⟩
def aF.pos{k m:Nat}{xs:List D}(h:aF k m (.tup xs)):∃k',k=k'+1:=by
 cases k with
 |zero=>cases h.1
 |succ k=>exact⟨k,rfl⟩
section
variable {F:FT}{go f:Nat}{a:Int}{d:Nat}{k m:Nat}
def tM{xs zs:List D}{i i':Int}(hx:∀x∈xs,aF k m x)(hz:∀x∈zs,aF k m x)(hl:2*xs.length+zs.length<=m):aF (k+1) m (.tup (iR xs none (some i)++zs++iR xs (some i') none)):=by
 have l1:=eK (xs:=xs) (l:=none) (h:=some i)
 have l2:=eK (xs:=xs) (l:=some i') (h:=none)
 refine eg (by rw[Xk,Xk];lia) λx h=>?_
 rcases Xr.mp h with h|h
 .exact(Xr.mp h).elim (λh=>hx x (h_ h)) (hz x)
 .exact hx x (h_ h)
def all_cons{P:D->Prop}{x:D}{l:List D}(h:P x)(h2:∀y∈l,P y):∀y∈x::l,P y:=List.forall_mem_cons.mpr ⟨h,h2⟩
def qN{P:D->Prop}:∀y∈([]:List D),P y:=λ_ h=>nomatch h
noncomputable abbrev eh(x:D)(a:Int)(d:Nat):Env:=[some (false,x),vi a,vi d,none,none]
def F9{x:D}{b:Bool}:ev F b (.cmp .Eq (.bin .Mod (.bin .FloorDiv (.var 1) (.c (.int 6))) (.c (.int 2))) (.c (.int 0))) (eh x a d)=some (.bl (a/6%2==0)):=
 cK (y:= .int 0) (cY (c:= .c (.int 2)) (eV (a:= .var 1) (c:= .c (.int 6)) rfl rfl (by decide)) rfl (by decide)) rfl rfl
def ND{x:D}:ev F false (.cmp .Gt (.var 2) (.c (.int 0))) (eh x a d)=some (.bl (decide (0<(d:Int)))):=cK (a:= .var 2) (c:= .c (.int 0)) (x:= .int d) (y:= .int 0) rfl rfl rfl
def F_(x:D)(ha:0<=a)(nB:∀b:Int,0<=b->∃o,F go [.int b]=some o/\aF 2 2 o):
  ∃o,out (ex F (.seq (.ret (.call go (.cons (.bin .FloorDiv (.var 1) (.c (.int 6))) .nil))) .skip) (eh x a d))=some o/\aF (k+2) (2*m+2) o:=by
 obtain⟨o,ho,hf⟩:=nB (a/6) (Y9 ha (by decide))
 exact⟨o,bM (bB (kF (eV (a:= .var 1) (c:= .c (.int 6)) rfl rfl (by decide))) ho rfl),hf.mono (by lia) (by lia)⟩
def nC{i:Int}(ha:0<=a)(hi:(decide (0<=i)&&decide (i<10))=true)(nB:∀b:Int,0<=b->∃o,F go [.int b]=some o/\aF 2 2 o):
  ∃y,out (ex F (gQ go f).body (ai (gQ go f) [.int i,.int a,.int d]))=some y/\aF (k+2) (2*m+2) y:=by
 obtain⟨o,eo,fo⟩:=F_ (k:=k) (m:=m) (d:=d) (.int i) ha nB
 have c1:=aY (b:=false) (i5 (q:=false) (ND (F:=F) (x:= .int i) (a:=a) (d:=d)) (r:= .cons (.fQ (.var 0) .tuple) (.cons (.cmp .Gt (.prim .len (.cons (.var 0) .nil)) (.c (.int 0))) (.cons (.cmp .Gt (.bin .Mod (.var 1) (.c (.int 6))) (.c (.int 0))) .nil))) (cy rfl))
 have c3:=aY (b:=false) (i5 (F:=F) (a:= .fQ (.var 0) .int) (p:=true) rfl (iB (F9 (x:= .int i) (a:=a) (d:=d))))
 rw[Z7]at c1
 have c2:ev F false (.f_ true (.cons (.fQ (.var 0) .tuple) (.cons (.cmp .Gt (.prim .len (.cons (.var 0) .nil)) (.c (.int 0))) (.cons (.cmp .Eq (.bin .Mod (.bin .FloorDiv (.var 1) (.c (.int 6))) (.c (.int 2))) (.c (.int 0))) .nil)))) (eh (.int i) a d)=some (.bl false):=aY (cy rfl)
 cases hb:(a/6%2==0)with
 |false=>
  rw[hb]at c3
  exact⟨o,bH (bK c1) (bH (bK c2) (bH (bK c3) eo)),fo⟩
 |true=>
  rw[hb]at c3
  have p1:ev F false (.prim .str (.cons (.var 0) .nil)) (eh (.int i) a d)=some (.str (PySem.Str.ofString (toString i))):=Xs (w4 hi).1
  have el:=Bc (b:=true) (F:=F) (d_ p1 (r:= .cons (.neg (.var 0)) (.cons (.bin .Add (.var 0) (.c (.int 1))) (.cons (.cmp .Eq (.var 0) (.c (.int 1))) (.cons (.bin .Sub (.var 0) (.c (.int 1))) .nil)))) (xs:=[.int (-i),.int (i+1),.bl (i==1),.int (i-1)]) rfl) (by show 5<=1000;decide)
  obtain⟨y,hy,_,e⟩:=ed (a:=a/12) (xs:=[.str (PySem.Str.ofString (toString i)),.int (-i),.int (i+1),.bl (i==1),.int (i-1)]) (Y9 ha (by decide)) (by show 0<5;decide)
  have ei:ev F false (.bin .Mod (.bin .FloorDiv (.var 1) (.c (.int 12))) (.c (.int 5))) (eh (.int i) a d)=some (.int (a/12%5)):=cY (c:= .c (.int 5)) (eV (a:= .var 1) (c:= .c (.int 12)) rfl rfl (by decide)) rfl (by decide)
  exact⟨y,bH (bK c1) (bH (bK c2) (uU c3 (uT (gM el ei e)))),all_cons (P:=aF (k+2) (2*m+2)) (x:= .str (PySem.Str.ofString (toString i))) ⟨(w4 hi).2,rfl⟩ (all_cons ⟨rfl,rfl⟩ (all_cons ⟨rfl,rfl⟩ (all_cons ⟨rfl,rfl⟩ (all_cons ⟨rfl,rfl⟩ qN)))) y hy⟩
def nD{xs:List D}(ha:0<=a)(hx:aF k m (.tup xs))(hm:m<=1000)(nB:∀b:Int,0<=b->∃o,F go [.int b]=some o/\aF 2 2 o)
  (Rp:0<d->∀x∈xs,∀b:Int,0<=b->∃y,F f [x,.int b,.int ((d:Int)-1)]=some y/\aF (k+1) (2*m+2) y):
  ∃y,out (ex F (gQ go f).body (ai (gQ go f) [.tup xs,.int a,.int d]))=some y/\aF (k+2) (2*m+2) y:=by
 obtain⟨k',rfl⟩:=hx.pos
 obtain⟨hl,hp⟩:=hx.parts
 have eU:bj=16777216:=rfl
 have a6:0<=a/6:=Y9 ha (by decide)
 obtain⟨o,eo,fo⟩:=F_ (k:=k'+1) (m:=m) (d:=d) (.tup xs) ha nB
 have B3:∀x∈xs,aF (k'+2) (2*m+2) x:=λx h=>(hp x h).mono (by lia) (by lia)
 have e6:∀{b},ev F b (.bin .FloorDiv (.var 1) (.c (.int 6))) (eh (.tup xs) a d)=some (.int (a/6)):=eV (a:= .var 1) (c:= .c (.int 6)) rfl rfl (by decide)
 have TJ:∀{b},ev F b (.prim .len (.cons (.var 0) .nil)) (eh (.tup xs) a d)=some (.int xs.length):=m_ (a:= .var 0) (x:= .tup xs) rfl rfl
 have eG:ev F false (.cmp .Gt (.prim .len (.cons (.var 0) .nil)) (.c (.int 0))) (eh (.tup xs) a d)=some (.bl (decide (0<(xs.length:Int)))):=cK (c:= .c (.int 0)) (y:= .int 0) TJ rfl rfl
 have eM:ev F false (.cmp .Gt (.bin .Mod (.var 1) (.c (.int 6))) (.c (.int 0))) (eh (.tup xs) a d)=some (.bl (decide (0<a%6))):=cK (c:= .c (.int 0)) (y:= .int 0) (cY (a:= .var 1) (c:= .c (.int 6)) rfl rfl (by decide)) rfl rfl
 have c1:=aY (b:=false) (i5 (ND (F:=F) (x:= .tup xs) (a:=a) (d:=d)) (i5 (a:= .fQ (.var 0) .tuple) (p:=true) rfl (i5 eG (iB eM))))
 have c2:=aY (b:=false) (i5 (F:=F) (a:= .fQ (.var 0) .tuple) (p:=true) rfl (i5 eG (iB (F9 (x:= .tup xs) (a:=a) (d:=d)))))
 have c3:ev F false (.f_ true (.cons (.fQ (.var 0) .int) (.cons (.cmp .Eq (.bin .Mod (.bin .FloorDiv (.var 1) (.c (.int 6))) (.c (.int 2))) (.c (.int 0))) .nil))) (eh (.tup xs) a d)=some (.bl false):=aY (cy rfl)
 cases h1:(decide (0<(d:Int))&&(true&&(decide (0<(xs.length:Int))&&decide (0<a%6))))with
 |true=>
  rw[h1]at c1
  simp only[W7,decide_eq_true_eq]at h1
  obtain⟨hd,_,jB,_⟩:=h1
  obtain⟨z,hz,iz,_⟩:=ed (xs:=xs) a6 (by lia)
  obtain⟨y,hy,Wl⟩:=Rp (by lia) z hz (a/6/(xs.length:Int)) (Y9 a6 (by lia))
  have s3:ev F false (.bin .Mod (.bin .FloorDiv (.var 1) (.c (.int 6))) (.prim .len (.cons (.var 0) .nil))) (eh (.tup xs) a d)=some (.int (a/6%(xs.length:Int))):=cY e6 TJ jB
  have s4:ev F false (.call f (.cons (.idx (.var 0) (.var 3)) (.cons (.bin .FloorDiv (.bin .FloorDiv (.var 1) (.c (.int 6))) (.prim .len (.cons (.var 0) .nil))) (.cons (.bin .Sub (.var 2) (.c (.int 1))) .nil)))) [some (false,.tup xs),vi a,vi d,vi (a/6%(xs.length:Int)),none]=some y:=
   bB (Eo (gM (a:= .var 0) (i:= .var 3) (x:= .tup xs) rfl rfl iz) (eV (eV (a:= .var 1) (c:= .c (.int 6)) (i:=a) rfl rfl (by decide)) (m_ (a:= .var 0) (x:= .tup xs) rfl rfl) ⟨jB,by lia⟩) (z:= .int ((d:Int)-1)) rfl) hy rfl
  have s5:=qH (F:=F) (b:=true) (ρ:=[some (false,.tup xs),vi a,vi d,vi (a/6%(xs.length:Int)),some (false,y)]) (a:= .var 0) (j:= .var 3) (m:= .tup (.cons (.var 4) .nil)) (k:= .bin .Add (.var 3) (.c (.int 1))) (xs:=xs) (zs:=[y]) rfl rfl rfl rfl (by lia) (by show 1<=1000;lia)
  exact⟨_,uU c1 ((av (aD s3)).trans ((av (aD s4)).trans (uT s5))),tM B3 (all_cons Wl qN) (by show 2*xs.length+1<=_;lia)⟩
 |false=>
  rw[h1]at c1
  cases h2:(true&&(decide (0<(xs.length:Int))&&(a/6%2==0)))with
  |false=>
   rw[h2]at c2
   exact⟨o,bH (bK c1) (bH (bK c2) (bH (bK c3) eo)),fo⟩
  |true=>
   rw[h2]at c2
   simp only[W7,decide_eq_true_eq]at h2
   obtain⟨_,jB,_⟩:=h2
   have q1:=eK (xs:=xs) (l:=none) (h:=some (-1))
   have q2:=eK (xs:=xs) (l:=some (-1)) (h:=none)
   have q3:=eK (xs:=xs) (l:=some 1) (h:=none)
   have p3:ev F false (.bin .Add (.var 0) (.sl (.var 0) (.cons (.neg (.c (.int 1))) .nil) .nil)) (eh (.tup xs) a d)=some (.tup (xs++iR xs (some (-1)) none)):=(i7 (a:= .var 0) (x:= .tup xs) (y:= .tup (iR xs (some (-1)) none)) rfl rfl).trans (Xs (by lia))
   have p6:ev F false (.bin .Mult (.var 0) (.c (.int 2))) (eh (.tup xs) a d)=some (.tup (xs++xs)):=(i7 (a:= .var 0) (c:= .c (.int 2)) (x:= .tup xs) (y:= .int 2) rfl rfl).trans (Xs ⟨rfl,by lia,by lia⟩)
   have el:=Bc (b:=true) (F:=F) (d_ (a:= .prim .list (.cons (.var 0) .nil)) (x:= .lst xs) rfl (d_ (a:= .sl (.var 0) .nil (.cons (.neg (.c (.int 1))) .nil)) (x:= .tup (iR xs none (some (-1)))) rfl (d_ p3 (d_ (a:= .sl (.var 0) (.cons (.c (.int 1)) .nil) .nil) (x:= .tup (iR xs (some 1) none)) rfl (d_ (a:= .rev (.var 0)) (x:= .tup xs.reverse) rfl (d_ p6 (r:= .nil) (xs:=[]) rfl)))))) (by show 6<=1000;decide)
   obtain⟨y,hy,_,e⟩:=ed (a:=a/12) (xs:=[.lst xs,.tup (iR xs none (some (-1))),.tup (xs++iR xs (some (-1)) none),.tup (iR xs (some 1) none),.tup xs.reverse,.tup (xs++xs)]) (Y9 ha (by decide)) (by show 0<6;decide)
   have ei:ev F false (.bin .Mod (.bin .FloorDiv (.var 1) (.c (.int 12))) (.c (.int 6))) (eh (.tup xs) a d)=some (.int (a/12%6)):=cY (c:= .c (.int 6)) (eV (a:= .var 1) (c:= .c (.int 12)) rfl rfl (by decide)) rfl (by decide)
   have f1:∀zs:List D,zs.length<=2*m+2->(∀z∈zs,z∈xs)->aF (k'+1+2) (2*m+2) (.tup zs):=λzs h h2=>eg h λz hz=>B3 z (h2 z hz)
   exact⟨y,bH (bK c1) (uU c2 (uT (gM el ei e))),all_cons (P:=aF (k'+1+2) (2*m+2)) (BE (by lia) B3) (all_cons (f1 _ (by lia) λz hz=>h_ hz) (all_cons (f1 _ (by rw[Xk];lia) λz hz=>(Xr.mp hz).elim id h_) (all_cons (f1 _ (by lia) λz hz=>h_ hz) (all_cons (f1 _ (by rw[abA];lia) λz hz=>Yl.mp hz) (all_cons (f1 _ (by rw[Xk];lia) λz hz=>(Xr.mp hz).elim id id) qN))))) y hy⟩
end
def Jy{l:List D}(h:cG (.lst l) 60=true):cmp .Eq (.lst l) (.lst [])=some l.isEmpty:=by
 show(if cG (.lst l) 60&&cG (.lst []) 60 then some (gT (.lst l) (.lst [])) else none)=_
 rw[h,show cG (.lst []) 60=true from rfl]
 cases l<;>rfl
def EO(a b:List Int):cmp .Eq (.lst (a.map .int)) (.lst (b.map .int))=some (decide (a=b)):=by
 show(if cG (.lst (a.map .int)) 60&&cG (.lst (b.map .int)) 60 then some (gT (.lst (a.map .int)) (.lst (b.map .int))) else none)=_
 rw[show cG (.lst (a.map .int)) 60=true from gU 59 a,show cG (.lst (b.map .int)) 60=true from gU 59 b]
 show some (yD (a.map .int) (b.map .int))=_
 rw[m6]
def qO{n m:Nat}:cmp .NotEq (.int n) (.int m)=some (!decide (n=m)):=by
 show some (!((n:Int)==(m:Int)))=_
 congr 2
 rw[Bool.eq_iff_iff,beq_iff_eq,decide_eq_true_eq]
 lia
noncomputable def i_:D->Bool| .int _=>true|_=>false
noncomputable def bW(lo hi:Int):D->Bool| .int i=>decide (lo<=i)&&decide (i<=hi)|_=>false
noncomputable def jX(t:Nat):D->Bool
 | .tup xs=>match aB xs with
  |some ns=>decide (sortI ns=bu t)
  |none=>false
 |_=>false
theorem kN:∀xs:List D,(∀x∈xs,i_ x=true)->∃ns,aB xs=some ns/\ns.length=xs.length
 |[],_=>⟨[],rfl,rfl⟩
 |x::r,h=>by
  obtain⟨ns,e,hl⟩:=kN r λy hy=>h y (W_ _ hy)
  cases x with
  |int i=>exact⟨i::ns,by rw[aB,e];rfl,by rw[Xt,Xt,hl]⟩
  |_=>exact absurd (h _ Xd) Xa
def f6{xs:List D}{ns:List Int}(h:aB xs=some ns):xs=ns.map .int :=iY h
def ER{xs:List D}{ns:List Int}(h:aB xs=some ns):∀x∈xs,i_ x=true:=λx hx=>by
 rw[f6 h]at hx
 obtain⟨i,_,rfl⟩:=Xg.mp hx
 rfl
noncomputable def lX:Fd:=⟨1,1,(.seq (.ret (.f_ true (.cons (.fQ (.var 0) .int) (.cons (.not (.fQ (.var 0) .bool)) .nil)))) .skip)⟩
def tN{F:FT}(x:D)(h:dm x=true):out (ex F lX.body (ai lX [x]))=some (.bl (i_ x)):=by
 cases x<;>first|rfl|cases h
def aF.nd{k m:Nat}{x:D}(h:aF k m x):dm x=true:=by
 cases x<;>first|rfl|cases h.1
noncomputable def BF:Fd:=⟨3,3,(.seq (.ret (.f_ true (.cons (.fQ (.var 0) .int) (.cons (.not (.fQ (.var 0) .bool)) (.cons (.chain .LtE .LtE (.var 1) (.var 0) (.var 2)) .nil))))) .skip)⟩
def Jz{F:FT}(x:D)(h:dm x=true)(lo hi:Int):out (ex F BF.body (ai BF [x,.int lo,.int hi]))=some (.bl (bW lo hi x)):=by
 cases x with
 |int i=>
  refine bM (aY ((cj rfl).trans ((cj rfl).trans (iB ?_))))
  show(if decide (lo<=i)=true then some (D.bl (decide (i<=hi))) else some (D.bl false))=some (.bl (decide (lo<=i)&&decide (i<=hi)))
  cases decide (lo<=i)<;>rfl
 |bz _ _ _=>cases h
 |_=>rfl
noncomputable def nE(fw:Nat):Fd:=⟨2,2,(.seq (.ifs (.not (.fQ (.var 0) .tuple)) (.seq (.ret (.c (.bl false))) .skip) .skip) (.seq (.ifs (.not (.prim .all (.cons (.comp [] 0 (.it (.var 0)) .nil (.call fw (.cons (.var 0) .nil))) .nil))) (.seq (.ret (.c (.bl false))) .skip) .skip) (.seq (.ret (.cmp .Eq (.prim .sorted (.cons (.var 0) .nil)) (.gW .list (.cons (.var 1) .nil)))) .skip)))⟩
def nF{F:FT}{b:Bool}{xs:List D}{ns:List Int}{t:Nat}{ρ:Env}(h0:ev F true (.var 0) ρ=some (.tup xs))(h1:ev F false (.var 1) ρ=some (.int t))(hn:aB xs=some ns)(hl:xs.length<64)(ht:t<=6):ev F b (.cmp .Eq (.prim .sorted (.cons (.var 0) .nil)) (.gW .list (.cons (.var 1) .nil))) ρ=some (.bl (decide (sortI ns=bu t))):=by
 have Wm:ns.length<64:=by rw[f6 hn,Xb]at hl;exact hl
 refine cK (x:= .lst ((sortI ns).map .int)) (y:= .lst ((bu t).map .int)) ?_ ?_ (EO _ _)
 .rw[j8,kF h0]
  show(aB xs).bind _=_
  rw[hn]
  exact Xs Wm
 .rw[xE,kF h1]
  show(dn [.int t]).bind _=_
  rw[b6 (by lia)]
  show some (D.lst (bA 0 t))=_
  rw[dg]
def yw{F:FT}{fw t:Nat}(ht:t<=6)(hw:∀x,dm x=true->F fw [x]=some (.bl (i_ x))){k:Nat}{x:D}(hx:aF k 63 x):out (ex F (nE fw).body (ai (nE fw) [x,.int t]))=some (.bl (jX t x)):=by
 cases x with
 |tup xs=>
  obtain⟨k',rfl⟩:=hx.pos
  obtain⟨hl,hp⟩:=hx.parts
  have c:ev F false (.prim .all (.cons (.comp [] 0 (.it (.var 0)) .nil (.call fw (.cons (.var 0) .nil))) .nil)) [some (false,.tup xs),some (false,.int t)]=some (.bl (xs.all i_)):=uV i_ (xs:=xs) rfl (by lia) λx hx=>aJ (xs:=[x]) rfl (hw x (hp x hx).nd) rfl
  refine bH (bK rfl) ?_
  cases ha:xs.all i_ with
  |false=>
   rw[ha]at c
   have:aB xs=none:=by
    cases e:aB xs with
    |none=>rfl
    |some ns=>rw[XO.mpr (ER e)]at ha;cases ha
   refine(congrArg out (cB (cX c))).trans ?_
   show _=some (D.bl (match aB xs with|some ns=>decide (sortI ns=bu t)|none=>false))
   rw[this]
   rfl
  |true=>
   rw[ha]at c
   obtain⟨ns,hn,_⟩:=kN xs (XO.mp ha)
   refine bH (bK (cX c)) (bM ?_)
   rw[nF (xs:=xs) (ns:=ns) (t:=t) rfl rfl hn (by lia) ht]
   show _=some (D.bl (match aB xs with|some ns=>decide (sortI ns=bu t)|none=>false))
   rw[hn]
 |bz _ _ _=>cases hx.1
 |_=>exact congrArg out (cB rfl)
noncomputable def kO(fn:Nat):Fd:=⟨2,2,(.seq (.ifs (.f_ false (.cons (.not (.fQ (.var 0) .tuple)) (.cons (.cmp .NotEq (.prim .len (.cons (.var 0) .nil)) (.var 1)) .nil))) (.seq (.ret (.c (.bl false))) .skip) .skip) (.seq (.ret (.f_ true (.cons (.cmp .Eq (.comp [1] 0 (.it (.var 0)) (.cons (.not (.call fn (.cons (.var 0) (.cons (.c (.int 0)) (.cons (.bin .Sub (.var 1) (.c (.int 1))) .nil))))) .nil) (.var 0)) (.lst .nil)) (.cons (.cmp .Eq (.prim .sorted (.cons (.var 0) .nil)) (.gW .list (.cons (.var 1) .nil))) .nil)))) .skip))⟩
def tP{lo hi:Int}{x:D}(h:bW lo hi x=true):i_ x=true:=by
 cases x<;>first|rfl|exact absurd h Xa
def nG{t:Nat}{xs:List D}(h:jX t (.tup xs)=true):xs.length=t/\∀x∈xs,bW 0 ((t:Int)-1) x=true:=by
 simp only[jX]at h
 split at h
 .rename_i ns e
  have hs:=of_decide_eq_true h
  have hp:(bu t).Perm ns:=hs▸sortI_perm ns
  have hx:=f6 e
  subst hx
  refine⟨by rw[Xb,<-hp.length_eq];simp[bu],λx hx=>?_⟩
  obtain⟨i,hi,rfl⟩:=Xg.mp hx
  have iP:=hp.mem_iff.mpr hi
  obtain⟨j,hj,rfl⟩:=Xg.mp iP
  have:=XU.mp hj
  show(decide (0<=Int.ofNat j)&&decide (Int.ofNat j<=(t:Int)-1))=true
  rw[W7,decide_eq_true_eq,decide_eq_true_eq]
  exact⟨ZU j,by show(j:Int)<=_;omega⟩
 .cases h
def tQ{t:Nat}{x:D}(h:jX t x=true):∃p∈perms t,x=tp p:=by
 cases x with
 |tup xs=>
  obtain⟨hl,hn⟩:=nG h
  simp only[jX]at h
  split at h
  .rename_i ns e
   have hx:=f6 e
   subst hx
   refine⟨ns,ax.mpr ⟨by rw[<-hl,Xb],?_,λi hi=>?_⟩,rfl⟩
   .have hp:=(sortI_perm ns).symm
    rw[of_decide_eq_true h]at hp
    exact hp.nodup_iff.mpr (ax.mp (dh t)).2.1
   .have:=hn (.int i) (Xg.mpr ⟨i,hi,rfl⟩)
    simp only[bW,W7,decide_eq_true_eq]at this
    omega
  .cases h
 |_=>cases h
def u6{F:FT}{fn t:Nat}(ht:t<=6)(hw:∀x,dm x=true->∀lo hi,F fn [x,.int lo,.int hi]=some (.bl (bW lo hi x))){k:Nat}(hk:k<=60){x:D}(hx:aF k 63 x):out (ex F (kO fn).body (ai (kO fn) [x,.int t]))=some (.bl (jX t x)):=by
 cases x with
 |tup xs=>
  obtain⟨k',rfl⟩:=hx.pos
  obtain⟨hl,hp⟩:=hx.parts
  have eU:bj=16777216:=rfl
  have e1:ev F false (.cmp .NotEq (.prim .len (.cons (.var 0) .nil)) (.var 1)) [some (false,.tup xs),some (false,.int t)]=some (.bl !decide (xs.length=t)):=cK (x:= .int xs.length) (y:= .int t) rfl rfl qO
  by_cases hq:xs.length=t
  .rw[decide_eq_true hq]at e1
   refine bH (bK (aY ((cj rfl).trans (iB e1)))) (bM ?_)
   have w:walk (fL F [1] (.cons (.not (.call fn (.cons (.var 0) (.cons (.c (.int 0)) (.cons (.bin .Sub (.var 1) (.c (.int 1))) .nil))))) .nil) (.var 0) [some (false,.tup xs),some (false,.int t)]) xs=some (xs.filter λx=>!bW 0 ((t:Int)-1) x):=gK xs λx hx=>by
    have cn:ev F false (.not (.call fn (.cons (.var 0) (.cons (.c (.int 0)) (.cons (.bin .Sub (.var 1) (.c (.int 1))) .nil))))) [some (false,x),some (false,.int t)]=some (.bl (!bW 0 ((t:Int)-1) x)):=cX (aJ (xs:=[x,.int 0,.int ((t:Int)-1)]) rfl (hw x (hp x hx).nd _ _) rfl)
    show(fm F true (.cons _ .nil) [some (false,x),some (false,.int t)]).bind _=_
    rw[iB cn]
    cases bW 0 ((t:Int)-1) x<;>rfl
   have c0:ev F true (.comp [1] 0 (.it (.var 0)) (.cons (.not (.call fn (.cons (.var 0) (.cons (.c (.int 0)) (.cons (.bin .Sub (.var 1) (.c (.int 1))) .nil))))) .nil) (.var 0)) [some (false,.tup xs),some (false,.int t)]=some (.lst (xs.filter λx=>!bW 0 ((t:Int)-1) x)):=by
    rw[jT (d:= .tup xs) (xs:=xs) rfl rfl (by lia),w]
    rfl
   have c1:=cK (b:=false) c0 (c:= .lst .nil) (y:= .lst []) rfl (Jy (wY.mpr λz hz=>fP z (by lia) (hp z (YI.mp hz).1).1))
   cases he:(xs.filter λx=>!bW 0 ((t:Int)-1) x).isEmpty with
   |false=>
    rw[he]at c1
    have:jX t (.tup xs)=false:=by
     cases hT:jX t (.tup xs)with
     |false=>rfl
     |true=>
      have q:=(nG hT).2
      have e:xs.filter (λx=>!bW 0 ((t:Int)-1) x)=[]:=Zh.mpr λx sj=>by rw[q x sj];decide
      rw[e]at he
      cases he
    rw[this]
    exact aY (cy c1)
   |true=>
    rw[he]at c1
    have rm:∀x∈xs,bW 0 ((t:Int)-1) x=true:=λx sj=>by
     have e:=Zh.mp (aae.mp he) x sj
     cases h:bW 0 ((t:Int)-1) x with
     |true=>rfl
     |false=>rw[h]at e;exact absurd rfl e
    obtain⟨ns,hn,_⟩:=kN xs λx sj=>tP (rm x sj)
    refine aY ((cj c1).trans (iB ?_))
    rw[nF (xs:=xs) (ns:=ns) (t:=t) rfl rfl hn (by lia) ht]
    show _=some (D.bl (match aB xs with|some ns=>decide (sortI ns=bu t)|none=>false))
    rw[hn]
  .rw[decide_eq_false hq]at e1
   have:jX t (.tup xs)=false:=by
    cases hT:jX t (.tup xs)with
    |false=>rfl
    |true=>exact absurd (nG hT).1 hq
   rw[this]
   exact congrArg out (cB (aY (k:=false) ((cj rfl).trans (iB e1))))
 |bz _ _ _=>cases hx.1
 |_=>exact congrArg out (cB rfl)
noncomputable def BG:Fd:=⟨1,2,(.seq (.cU 1 (.lst (.cons (.neg (.c (.int 1))) (.cons (.c (.int 0)) (.cons (.c (.int 1)) (.cons (.c (.int 2)) (.cons (.c (.int 5)) (.cons (.c (.int 6)) (.cons (.c (.bl true)) (.cons (.c (.bl false)) (.cons (.c .dj) (.cons (.c (.str "")) (.cons (.c (.str "0")) (.cons (.tup .nil) (.cons (.lst .nil) (.cons (.tup (.cons (.c (.int 0)) .nil)) (.cons (.tup (.cons (.c (.int 0)) (.cons (.c (.int 1)) .nil))) (.cons (.tup (.cons (.c (.int 1)) (.cons (.c (.int 0)) .nil))) (.cons (.tup (.cons (.c (.int 0)) (.cons (.c (.int 0)) .nil))) (.cons (.tup (.cons (.tup (.cons (.c (.int 0)) .nil)) .nil)) (.cons (.tup (.cons (.c (.int 0)) (.cons (.tup (.cons (.c (.int 0)) .nil)) .nil))) .nil))))))))))))))))))))) (.seq (.ret (.idx (.var 1) (.bin .Mod (.var 0) (.c (.int 19))))) .skip))⟩
noncomputable def ES:List D:=[.int (-1),.int 0,.int 1,.int 2,.int 5,.int 6,.bl true,.bl false,.dj,.str "",.str "0",.tup [],.lst [],.tup [.int 0],.tup [.int 0,.int 1],.tup [.int 1,.int 0],.tup [.int 0,.int 0],.tup [.tup [.int 0]],.tup [.int 0,.tup [.int 0]]]
def yx:ES.all (λx=>cG x 2&&sz 2 x)=true:=by decide +kernel
def BH{F:FT}{b:Int}(hb:0<=b):∃o,out (ex F BG.body (ai BG [.int b]))=some o/\aF 2 2 o:=by
 obtain⟨o,ho,_,e⟩:=ed (a:=b) (xs:=ES) hb (by show 0<19;decide)
 have:=XO.mp yx o ho
 rw[W7]at this
 refine⟨o,bH (ρ':=[vi b,some (true,.lst ES)]) rfl (bM (gM (a:= .var 1) (x:= .lst ES) rfl (cY (a:= .var 0) (c:= .c (.int 19)) (i:=b) rfl rfl (by decide)) e)),this⟩
def u7{T:List Fd}{go f:Nat}(hf:T[f]?=some (gQ go f))(ho:T[go]?=some BG):∀(d N:Nat),d+2<=N->∀(a:Int) (x:D) (k m:Nat),0<=a->aF k m x->pt x=true->m<=1000->∃y,run T N f [x,.int a,.int d]=some y/\aF (k+2) (2*m+2) y:=by
 intro d
 induction d with
 |zero=>
  intro N hN a x k m ha hx hp hm
  obtain⟨N,rfl⟩:∃N',N=N'+2:=⟨N-2,by omega⟩
  have nB:∀b:Int,0<=b->∃o,run T (N+1) go [.int b]=some o/\aF 2 2 o:=λb hb=>by
   rw[aE ho rfl];exact BH hb
  rw[aE hf rfl]
  cases x with
  |int i=>exact nC (d:=0) ha hp nB
  |tup xs=>exact nD (d:=0) ha hx hm nB λh=>absurd h (X2 0)
  |_=>cases hp
 |succ d ih=>
  intro N hN a x k m ha hx hp hm
  obtain⟨N,rfl⟩:∃N',N=N'+2:=⟨N-2,by omega⟩
  have nB:∀b:Int,0<=b->∃o,run T (N+1) go [.int b]=some o/\aF 2 2 o:=λb hb=>by
   rw[aE ho rfl];exact BH hb
  rw[aE hf rfl]
  cases x with
  |int i=>exact nC (d:=d+1) ha hp nB
  |tup xs=>
   refine nD (d:=d+1) ha hx hm nB λ_ z hz b hb=>?_
   obtain⟨k',rfl⟩:=hx.pos
   have q:=ih (N+1) (by omega) b z k' m hb (hx.parts.2 z hz) (nv.mp hp z hz) hm
   rw[show(((d+1:Nat):Int)-1)=(d:Int) by omega]
   exact q
  |_=>cases hp
end Py
namespace bX
open Py jU
section
variable {s:Nat}{F:FT}
theorem jY{α:Type}(E:List D->α->Env)(b:D->Env->Option lB)(f:D->Bool)(g:D->List D)(m:Nat)(d:D):
  ∀(ys acc:List D) (z:α),(∀y∈ys,∀acc z,acc.length+(g y).length <=m->(f y=true->∃z',b y (E acc z)=some (.next (E (acc++g y) z')))/\(f y=false->b y (E acc z)=some (.ret d)))->acc.length+(ys.flatMap g).length <=m->
   (ys.all f=true->∃z',aO b ys (E acc z)=some (.next (E (acc++ys.flatMap g) z')))/\(ys.all f=false->aO b ys (E acc z)=some (.ret d))
 |[],acc,z,_,_=>⟨λ_=>⟨z,by rw[List.flatMap_nil,X7];rfl⟩,λh=>(nomatch h)⟩
 |y::ys,acc,z,hs,hl=>by
  rw[Z4,Xk]at hl
  obtain⟨p,q⟩:=hs y Xd acc z (by lia)
  rw[Zd,aO]
  cases hy:f y with
  |false=>exact⟨λh=>(nomatch h),λ_=>by rw[q hy];rfl⟩
  |true=>
   obtain⟨z1,e⟩:=p hy
   have ih:=jY E b f g m d ys (acc++g y) z1 (λy hy=>hs y (W_ _ hy)) (by rw[Xk];lia)
   rw[e,Z4,<-XI]
   exact ih
noncomputable def its:D->List D
 | .tup ys=>ys
 |_=>[]
noncomputable def sn:D->D
 | .tup [_,t]=>t
 |_=> .dj
noncomputable abbrev F'(r:D):List D:=(its r).map sn
noncomputable abbrev mk(x:D):List D:=(its x).flatMap F'
noncomputable def tw(f g:D->Bool):D->Bool
 | .tup [a,t]=>f a&&g t
 |_=>false
noncomputable def ET(f:D->Bool):D->Bool
 | .tup ys=>ys.all f
 |_=>false
noncomputable abbrev Ga(s:Nat):D->Bool:=tw i_ (jX s)
noncomputable abbrev JA(s:Nat):D->Bool:=ET (Ga s)
noncomputable abbrev B6(s:Nat):D->Bool:=ET (JA s)
noncomputable abbrev JB(s:Nat):D->Bool:=tw (bW 0 ((s:Int)-1)) (jX s)
noncomputable abbrev qy(s:Nat):D->Bool:=ET (JB s)
noncomputable abbrev EU(s:Nat)(x:D):Bool:=decide ((its x).length =s)&&ET (qy s) x
def w6(h:tw f g y=true):∃a t,y= .tup [a,t]/\f a=true/\g t=true:=by
 match y,h with
 | .tup [a,t],h=>
  have h:(f a&&g t)=true:=h
  rw[W7]at h
  exact⟨a,t,rfl,h⟩
def jc(h:ET f y=true):∃ys,y= .tup ys/\∀z∈ys,f z=true:=by
 cases y with
 |tup ys=>exact⟨ys,rfl,XO.mp h⟩
 |_=>cases h
def tR(hf:∀z,f z=true->g z=true)(h:ET f y=true):ET g y=true:=by
 obtain⟨ys,rfl,h2⟩:=jc h
 exact XO.mpr λz hz=>hf z (h2 z hz)
def Gb(h:EU s x=true):B6 s x=true:=by
 rw[W7]at h
 refine tR (λr hr=>tR (λy hy=>?_) hr) h.2
 obtain⟨a,t,rfl,h1,h2⟩:=w6 hy
 show(i_ a&&jX s t)=true
 rw[tP h1,h2]
 rfl
def JC(h:B6 s x=true):∃ps:List (List Int),mk x=ps.map tp/\∀p∈ps,p∈perms s:=by
 obtain⟨rs,rfl,h0⟩:=jc h
 refine uS _ λy hy=>?_
 obtain⟨r,hr,hy⟩:=Yu.mp hy
 obtain⟨ys,rfl,h2⟩:=jc (h0 r hr)
 obtain⟨z,hz,rfl⟩:=Xg.mp hy
 obtain⟨a,t,rfl,_,h4⟩:=w6 (h2 z hz)
 exact tQ h4
def u9{k m:Nat}(h:aF k m x):(mk x).length <=m*m:=by
 cases x with
 |tup rs=>
  obtain⟨k',rfl⟩:=h.pos
  have key:∀l:List D,(∀r∈l,aF k' m r)->(l.flatMap F').length <=l.length*m:=λl hl=>by
   induction l with
   |nil=>exact XQ _
   |cons r l ih=>
    have h1:=ih λy hy=>hl y (W_ _ hy)
    have h2:(F' r).length <=m:=by
     have hr:=hl r Xd
     rw[Xb]
     cases r with
     |tup ys=>obtain⟨k2,rfl⟩:=hr.pos;exact hr.parts.1
     |_=>exact XQ _
    rw[Z4,Xk,Xt,Nat.add_mul]
    lia
  exact Xq (key rs h.parts.2) (Nat.mul_le_mul_right m h.parts.1)
 |_=>exact XQ _
noncomputable abbrev NG:E:= .comp [] 0 (.it (.var 2)) .nil (.idx (.var 0) (.c (.int 1)))
def yz(h:B6 s x=true)(hx:aF k 20 x):out (ex F d9.body (ai d9 [x]))=some (.tup (mk x)):=by
 have eU:bj=16777216:=rfl
 have Rq:=u9 hx
 obtain⟨rs,rfl,h0⟩:=jc h
 obtain⟨k',rfl⟩:=hx.pos
 have hp:=hx.parts
 obtain⟨z,e⟩:=(jY (λacc z=>[some (false,.tup rs),some (true,.lst acc),z]) (λx ρ=>(aG 0 x).bind λys=>(dq ρ [2] ys).bind λρ'=>ex F (.seq (.ext 1 NG) .skip) ρ') (λ_=>true) F' 1000 .dj rs [] none (λr hr acc z hl=>⟨λ_=>⟨some (false,r),by
  obtain⟨ys,rfl,h2⟩:=jc (h0 r hr)
  obtain⟨k2,rfl⟩:=(hp.2 _ hr).pos
  have hy:=(hp.2 _ hr).parts.1
  have hc:ev F false NG [some (false,.tup rs),some (true,.lst acc),some (false,.tup ys)]=some (.lst (ys.map sn)):=by
   rw[jT (d:= .tup ys) rfl rfl (by lia),kG (g:=sn) ys λy hy=>?_]
   .rfl
   .obtain⟨a,t,rfl,_,_⟩:=w6 (h2 y hy)
    rfl
  show ex F (.seq (.ext 1 NG) .skip) [some (false,.tup rs),some (true,.lst acc),some (false,.tup ys)]=_
  rw[bP,PN,hc]
  show((if acc.length+(ys.map sn).length <=bj then _ else none).bind _)=_
  rw[Xs (show acc.length+(ys.map sn).length <=bj from Xq hl (by lia))]
  rfl⟩,λh=>(nomatch h)⟩) (by rw[YS];exact Xq (Zk (Yw _)) (Xq Rq (by lia)))).1 (XO.mpr λ_ _=>rfl)
 have hf:ex F (.for [2] 0 (.it (.var 0)) (.seq (.ext 1 NG) .skip)) [some (false,.tup rs),some (true,.lst []),none]=some (.next [some (false,.tup rs),some (true,.lst (mk (.tup rs))),z]):=e
 show out (ex F (.seq (.for [2] 0 (.it (.var 0)) (.seq (.ext 1 NG) .skip)) _) [some (false,.tup rs),some (true,.lst []),none])=_
 rw[av hf]
 rfl
def JD(h:¬ys.length=2):tw f g (.tup ys)=false:=by
 match ys,h with
 |[],_=>rfl
 |[_],_=>rfl
 |[_,_],h=>exact absurd rfl h
 |_::_::_::_,_=>rfl
def EV(h:ys.length=2):∃a t,ys=[a,t]:=by
 match ys,h with
 |[a,t],_=>exact⟨a,t,rfl⟩
def BI{f g:D->Bool}{k m:Nat}(x:D)(h:aF k m x):(∃a t,x= .tup [a,t]/\aF (k-1) m a/\aF (k-1) m t)\/(∃ys,x= .tup ys/\¬ys.length=2/\tw f g x=false)\/(Fx .tuple x=some false/\tw f g x=false):=by
 cases x with
 |tup ys=>
  by_cases hl:ys.length=2
  .obtain⟨a,t,rfl⟩:=EV hl
   obtain⟨k',rfl⟩:=h.pos
   exact .inl ⟨a,t,rfl,h.parts.2 a Xd,h.parts.2 t (W_ _ Xd)⟩
  .exact .inr (.inl ⟨ys,rfl,hl,JD hl⟩)
 |bz _ _ _=>cases h.1
 |_=>exact .inr (.inr ⟨rfl,rfl⟩)
def qP{f:D->Bool}{k m:Nat}(x:D)(h:aF k m x):(∃ys,x= .tup ys/\ys.length<=m/\∀y∈ys,aF (k-1) m y)\/(Fx .tuple x=some false/\ET f x=false):=by
 cases x with
 |tup ys=>
  obtain⟨k',rfl⟩:=h.pos
  exact .inl ⟨ys,rfl,h.parts⟩
 |bz _ _ _=>cases h.1
 |_=>exact .inr ⟨rfl,rfl⟩
def EW(hw:∀x,dm x=true->F 29 [x]=some (.bl (i_ x)))(ht:∀k x,aF k 20 x->F 30 [x,.int s]=some (.bl (jX s x)))(hx:aF k 20 x):out (ex F Jp.body (ai Jp [x,.int s]))=some (.bl (Ga s x)):=by
 rcases BI (f:=i_) (g:=jX s) x hx with⟨a,t,rfl,ha,hT⟩|⟨ys,rfl,hl,e⟩|⟨e0,e⟩
 .have c1:ev F false (.call 29 (.cons (.idx (.var 0) (.c (.int 0))) .nil)) (ai Jp [.tup [a,t],.int s])=some (.bl (i_ a)):=aJ (xs:=[a]) rfl (hw a ha.nd) rfl
  have c2:ev F false (.call 30 (.cons (.idx (.var 0) (.c (.int 1))) (.u 1))) (ai Jp [.tup [a,t],.int s])=some (.bl (jX s t)):=aJ (xs:=[t,.int s]) rfl (ht _ t hT) rfl
  refine bH (bK rfl) (bM (aY ?_))
  show _=some (i_ a&&jX s t)
  cases h1:i_ a with
  |true=>rw[h1]at c1;rw[cj c1];exact iB c2
  |false=>rw[h1]at c1;exact cy c1
 .rw[show Ga s _=false from e]
  refine congrArg out (cB (aY (k:=false) ((cj rfl).trans (iB ?_))))
  rw[cK (x:= .int ys.length) (y:= .int (2:Nat)) rfl rfl qO,decide_eq_false hl]
  rfl
 .rw[show Ga s _=false from e]
  exact congrArg out (cB (aY (k:=false) (cy (cX (i6 rfl e0)))))
def BJ(hp:∀k x,aF k 20 x->F 10 [x,.int s]=some (.bl (Ga s x)))(hx:aF k 20 x):out (ex F Nv.body (ai Nv [x,.int s]))=some (.bl (JA s x)):=by
 refine bM (aY ?_)
 rcases qP (f:=Ga s) x hx with⟨ys,rfl,hl,hy⟩|⟨e0,e⟩
 .refine(cj (i6 rfl rfl)).trans (iB (uV (Ga s) (xs:=ys) rfl (by lia) λy h=>?_))
  exact aJ (xs:=[y,.int s]) rfl (hp _ y (hy y h)) rfl
 .rw[show JA s _=false from e]
  exact cy (i6 rfl e0)
def BK(hr:∀k x,aF k 20 x->F 11 [x,.int s]=some (.bl (JA s x)))(hx:aF k 20 x)(hk:k<=60)(h:B6 s x=true->F 9 [x]=some (.tup (mk x))/\F 8 [.tup (mk x),.int s]=some Y)(hY:cG Y 60=true):
  out (ex F Jq.body (ai Jq [x,.int s]))=some (.bl (B6 s x&&gT Y x)):=by
 rcases qP (f:=JA s) x hx with⟨ys,rfl,hl,hy⟩|⟨e0,e⟩
 .have c1:ev F false (.prim .all (.cons (.comp [1] 0 (.it (.var 0)) .nil (.call 11 (.w 0 (.u 1)))) .nil)) (ai Jq [.tup ys,.int s])=some (.bl (B6 s (.tup ys))):=uV (JA s) (xs:=ys) rfl (by lia) λy h=>aJ (xs:=[y,.int s]) rfl (hr _ y (hy y h)) rfl
  cases ho:B6 s (.tup ys)with
  |false=>
   rw[ho]at c1
   exact congrArg out (cB (aY (k:=false) ((cj rfl).trans (iB (cX c1)))))
  |true=>
   rw[ho]at c1
   obtain⟨h9,h8⟩:=h ho
   refine bH (bK (aY ((cj rfl).trans (iB (cX c1))))) (bM ?_)
   have c9:ev F true (.call 9 (.u 0)) (ai Jq [.tup ys,.int s])=some (.tup (mk (.tup ys))):=bB (xs:=[.tup ys]) rfl h9 rfl
   refine cK (bB (dG c9 (y:= .int s) rfl) h8 rfl) (y:= .tup ys) rfl ?_
   show(if(cG Y 60&&cG (.tup ys) 60)=true then some (gT Y (.tup ys)) else none)=_
   rw[hY,fP _ hk hx.1]
   rfl
 .rw[show B6 s _=false from e]
  exact congrArg out (cB (aY (k:=false) (cy (cX (i6 rfl e0)))))
noncomputable abbrev QE(x0:Option (Bool×D))(s:Nat)(acc:List D)(x3 x4:Option (Bool×D)):Env:=[x0,some (false,.int s),some (true,.lst acc),x3,x4]
noncomputable abbrev qA:E:=(.f_ false (.cons (.not (.fQ (.var 4) .tuple)) (.cons (.cmp .NotEq (.prim .len (.u 4)) (.c (.int 2))) (.cons (.not (.call 21 (.cons (.idx (.var 4) (.c (.int 0))) (.cons (.c (.int 0)) (.cons (.bin .Sub (.var 1) (.c (.int 1))) .nil))))) .nil))))
noncomputable abbrev qB:C:=(.seq (.ifs qA (.seq (.ret (.c (.bl false))) .skip) .skip) (.seq (.ifs (.not (.call 22 (.cons (.idx (.var 4) (.c (.int 1))) (.u 1)))) (.seq (.ret (.c (.bl false))) .skip) .skip) (.seq (.app 2 (.idx (.var 4) (.c (.int 1)))) .skip)))
noncomputable abbrev qC:C:=(.seq (.ifs (.not (.fQ (.var 3) .tuple)) (.seq (.ret (.c (.bl false))) .skip) .skip) (.seq (.for [4] 0 (.it (.var 3)) qB) .skip))
def JE(hn:∀x,dm x=true->∀lo hi,F 21 [x,.int lo,.int hi]=some (.bl (bW lo hi x)))(ht:∀x,aF 59 20 x->F 22 [x,.int s]=some (.bl (jX s x)))(hy:aF k 20 y)(hk:k<=60)(hl:acc.length<1000):
  (JB s y=true->ex F qB (QE x0 s acc x3 (some (false,y)))=some (.next (QE x0 s (acc++[sn y]) x3 (some (false,y)))))/\(JB s y=false->ex F qB (QE x0 s acc x3 (some (false,y)))=some (.ret (.bl false))):=by
 rcases BI (f:=bW 0 ((s:Int)-1)) (g:=jX s) y hy with⟨a,t,rfl,ha,hT⟩|⟨ys,rfl,hl,e⟩|⟨e0,e⟩
 .have c1:ev F false (.call 21 (.cons (.idx (.var 4) (.c (.int 0))) (.cons (.c (.int 0)) (.cons (.bin .Sub (.var 1) (.c (.int 1))) .nil)))) (QE x0 s acc x3 (some (false,.tup [a,t])))=some (.bl (bW 0 ((s:Int)-1) a)):=aJ (xs:=[a,.int 0,.int ((s:Int)-1)]) rfl (hn a ha.nd _ _) rfl
  have c2:ev F false (.call 22 (.cons (.idx (.var 4) (.c (.int 1))) (.u 1))) (QE x0 s acc x3 (some (false,.tup [a,t])))=some (.bl (jX s t)):=aJ (xs:=[t,.int s]) rfl (ht t (hT.mono (by lia) (Xf _))) rfl
  have c3:ev F false qA (QE x0 s acc x3 (some (false,.tup [a,t])))=some (.bl !bW 0 ((s:Int)-1) a):=aY ((cj rfl).trans ((cj rfl).trans (iB (cX c1))))
  show((bW 0 ((s:Int)-1) a&&jX s t)=true->_)/\((bW 0 ((s:Int)-1) a&&jX s t)=false->_)
  cases h1:bW 0 ((s:Int)-1) a with
  |false=>
   rw[h1]at c3
   exact⟨λh=>(nomatch h),λ_=>cB c3⟩
  |true=>
   rw[h1]at c3
   cases h2:jX s t with
   |false=>
    rw[h2]at c2
    exact⟨λh=>(nomatch h),λ_=>(av (bK c3)).trans (cB (cX c2))⟩
   |true=>
    rw[h2]at c2
    refine⟨λ_=>(av (bK c3)).trans ((av (bK (cX c2))).trans (av ?_)),λh=>(nomatch h)⟩
    have eU:bj=16777216:=rfl
    rw[Ls]
    exact Xs (by lia)
 .rw[show JB s _=false from e]
  refine⟨λh=>(nomatch h),λ_=>cB (aY (k:=false) ((cj rfl).trans (cy ?_)))⟩
  rw[cK (x:= .int ys.length) (y:= .int (2:Nat)) rfl rfl qO,decide_eq_false hl]
 .rw[show JB s _=false from e]
  exact⟨λh=>(nomatch h),λ_=>cB (aY (k:=false) (cy (cX (i6 rfl e0))))⟩
def JF(hn:∀x,dm x=true->∀lo hi,F 21 [x,.int lo,.int hi]=some (.bl (bW lo hi x)))(ht:∀x,aF 59 20 x->F 22 [x,.int s]=some (.bl (jX s x)))(hy:aF k 20 r)(hk:k<=60)(hl:acc.length+(F' r).length <=900):
  (qy s r=true->∃z,ex F qC (QE x0 s acc (some (false,r)) x4)=some (.next (QE x0 s (acc++F' r) (some (false,r)) z)))/\(qy s r=false->ex F qC (QE x0 s acc (some (false,r)) x4)=some (.ret (.bl false))):=by
 rcases qP (f:=JB s) r hy with⟨ys,rfl,_,hy⟩|⟨e0,e⟩
 .have q:=jY (λacc z=>QE x0 s acc (some (false,.tup ys)) z) (λx ρ=>(aG 0 x).bind λys=>(dq ρ [4] ys).bind λρ'=>ex F qB ρ') (JB s) (λy=>[sn y]) 900 (.bl false) ys acc x4 (λy h acc z hl=>by
   have:=JE (x0:=x0) (x3:=some (false,.tup ys)) hn ht (hy y h) (by lia) (acc:=acc) (by rw[XG]at hl;lia)
   exact⟨λh=>⟨some (false,y),this.1 h⟩,this.2⟩) (by rw[<-abE];exact hl)
  rw[<-abE]at q
  refine⟨λh=>?_,λh=>?_⟩
  .obtain⟨z,e⟩:=q.1 h
   have hf:ex F (.for [4] 0 (.it (.var 3)) qB) (QE x0 s acc (some (false,.tup ys)) x4)=some (.next (QE x0 s (acc++F' (.tup ys)) (some (false,.tup ys)) z)):=e
   exact⟨z,(av (bK rfl)).trans (av hf)⟩
  .have hf:ex F (.for [4] 0 (.it (.var 3)) qB) (QE x0 s acc (some (false,.tup ys)) x4)=some (.ret (.bl false)):=q.2 h
   exact(av (bK rfl)).trans (lS hf)
 .rw[show qy s _=false from e]
  exact⟨λh=>(nomatch h),λ_=>cB (cX (i6 rfl e0))⟩
def w8(hn:∀x,dm x=true->∀lo hi,F 21 [x,.int lo,.int hi]=some (.bl (bW lo hi x)))(ht:∀x,aF 59 20 x->F 22 [x,.int s]=some (.bl (jX s x)))(hx:aF k 20 x)(hk:k<=60)
  (h:EU s x=true->F 19 [.lst (mk x),.int s]=some (.lst W)/\F 20 [.lst W,.int s]=some Y) (hY:cG Y 60=true):out (ex F Kj.body (ai Kj [x,.int s]))=some (.bl (EU s x&&gT Y x)):=by
 have Rq:=u9 hx
 rcases qP (f:=qy s) x hx with⟨rs,rfl,hl,hy⟩|⟨e0,e⟩
 .have c1:ev F false (.cmp .NotEq (.prim .len (.u 0)) (.var 1)) (ai Kj [.tup rs,.int s])=some (.bl !decide (rs.length=s)):=cK (x:= .int rs.length) (y:= .int s) rfl rfl qO
  by_cases hs:rs.length=s
  .rw[decide_eq_true hs]at c1
   have q:=jY (λacc (z:Option (Bool×D)×Option (Bool×D))=>QE (some (false,.tup rs)) s acc z.1 z.2) (λx ρ=>(aG 0 x).bind λys=>(dq ρ [3] ys).bind λρ'=>ex F qC ρ') (qy s) F' 900 (.bl false) rs [] (none,none) (λr h acc z hl=>by
    have:=JF (x0:=some (false,.tup rs)) (x4:=z.2) hn ht (hy r h) (by lia) hl
    exact⟨λh=>(this.1 h).elim λz e=>⟨(_,z),e⟩,this.2⟩) (by rw[YS,Yw];exact Xq Rq (by lia))
   have eM:EU s (.tup rs)=rs.all (qy s):=by
    show(decide (rs.length=s)&&rs.all (qy s))=_
    rw[decide_eq_true hs]
    rfl
   refine bH (bK (aY ((cj rfl).trans (iB c1)))) ?_
   show out (ex F (.seq (.for [3] 0 (.it (.var 0)) qC) _) (QE (some (false,.tup rs)) s [] none none))=_
   cases ha:rs.all (qy s)with
   |false=>
    have hf:ex F (.for [3] 0 (.it (.var 0)) qC) (QE (some (false,.tup rs)) s [] none none)=some (.ret (.bl false)):=q.2 ha
    rw[lS hf,eM,ha]
    rfl
   |true=>
    obtain⟨z,e⟩:=q.1 ha
    have hf:ex F (.for [3] 0 (.it (.var 0)) qC) (QE (some (false,.tup rs)) s [] none none)=some (.next (QE (some (false,.tup rs)) s (mk (.tup rs)) z.1 z.2)):=e
    obtain⟨Wn,Wo⟩:=h (eM.trans ha)
    rw[av hf,eM,ha]
    refine bM (ρ:=[some (false,.tup rs),some (false,.int s),some (false,.lst (mk (.tup rs))),z.1,z.2]) ?_
    have Wq:ev F true (.call 19 (.w 2 (.u 1))) [some (false,.tup rs),some (false,.int s),some (false,.lst (mk (.tup rs))),z.1,z.2]=some (.lst W):=bB (dG (x:= .lst (mk (.tup rs))) (y:= .int s) rfl rfl) Wn rfl
    refine cK (bB (dG Wq (y:= .int s) rfl) Wo rfl) (y:= .tup rs) rfl ?_
    show(if(cG Y 60&&cG (.tup rs) 60)=true then some (gT Y (.tup rs)) else none)=_
    rw[hY,fP _ hk hx.1]
    rfl
  .rw[decide_eq_false hs]at c1
   have eM:EU s (.tup rs)=false:=by
    show(decide (rs.length=s)&&rs.all (qy s))=_
    rw[decide_eq_false hs]
    rfl
   rw[eM]
   exact congrArg out (cB (aY (k:=false) ((cj rfl).trans (iB c1))))
 .have eM:EU s x=false:=by
   show(_&&ET (qy s) x)=false
   rw[e,Z7]
  rw[eM]
  exact congrArg out (cB (aY (k:=false) (cy (cX (i6 rfl e0)))))
end
end bX
namespace Py
mutual
noncomputable def B7:D->Bool
 | .int _=>true
 | .tup xs=>tS xs
 |_=>false
noncomputable def tS:List D->Bool
 |[]=>true
 |x::xs=>B7 x&&tS xs
end
mutual
theorem BL:∀(a b:D),B7 a=true->B7 b=true->gT a b=true->a=b
 | .int i,b,_,hb,h=>by
  cases b with
  |int j=>exact congrArg D.int (eq_of_beq h)
  |tup _=>cases h
  |_=>cases hb
 | .tup xs,b,ha,hb,h=>by
  cases b with
  |tup ys=>exact congrArg D.tup (w_ xs ys ha hb h)
  |int _=>cases h
  |_=>cases hb
 | .dj,_,ha,_,_=>nomatch ha
 | .bl _,_,ha,_,_=>nomatch ha
 | .str _,_,ha,_,_=>nomatch ha
 | .lst _,_,ha,_,_=>nomatch ha
 | .bz _ _ _,_,ha,_,_=>nomatch ha
theorem w_:∀(xs ys:List D),tS xs=true->tS ys=true->yD xs ys=true->xs=ys
 |[],ys,_,_,h=>by
  cases ys with
  |nil=>rfl
  |cons _ _=>cases h
 |x::xs,ys,ha,hb,h=>by
  cases ys with
  |nil=>cases h
  |cons y ys=>
   have ha:(B7 x&&tS xs)=true:=ha
   have hb:(B7 y&&tS ys)=true:=hb
   have h:(gT x y&&yD xs ys)=true:=h
   rw[W7]at ha hb h
   rw[BL x y ha.1 hb.1 h.1,w_ xs ys ha.2 hb.2 h.2]
end
theorem lY:∀xs:List D,(∀x∈xs,B7 x=true)->tS xs=true
 |[],_=>rfl
 |x::xs,h=>by
  show(B7 x&&tS xs)=true
  rw[h x Xd,lY xs λy hy=>h y (W_ _ hy)]
  rfl
def JG(p:List Int):B7 (tp p)=true:=lY _ λx hx=>by
 obtain⟨i,_,rfl⟩:=Xg.mp hx
 rfl
end Py
namespace bX
open Py jU
section
variable {n s:Nat}
def JH(h:s<=6):run T (n+1) 0 [.int s]=some (tp (bu s)):=by
 rw[aE (d:=lR) rfl rfl];exact A' (by lia)
def u_(h:s<=6):∀p∈perms s,∀q∈perms s,run T (n+1) 1 [tp p,tp q]=some (tp (comp p q)):=λp hp q hq=>by
 rw[aE (d:=lQ) rfl rfl];exact sZ (by lia) hp hq
def EY(h:s<=6):∀p∈perms s,∀q∈perms s,run T (n+1) 18 [tp p,tp q]=some (tp (comp p q)):=λp hp q hq=>by
 rw[aE (d:=lQ) rfl rfl];exact sZ (by lia) hp hq
def NH(h:s<=6):∀p∈perms s,run T (n+1) 2 [tp p]=some (tp (ip p)):=λp hp=>by
 rw[aE (d:=uR) rfl rfl];exact Em (by lia) hp
def Rr(ns:List Int){k:Nat}(hk:k<1000):run T (n+2) 14 [.lst (ns.map .int),.int k]=some (.int (m5 ns k)):=by
 rw[aE (d:=wy 13) rfl rfl]
 refine Jf ns k hk ?_
 rw[aE (d:=mZ) rfl rfl]
 exact Ef ns k
def BM(a k:Int):run T (n+1) 15 [.int a,.int k]=some (.int (drawn a k)):=by
 rw[aE (d:=lO) rfl rfl]
 exact A5 a k
def NI(ha:0<=a)(h1:1<=s)(h6:s<=6):∃p∈perms s,run T (n+2) 16 [.int a,.int s]=some (tp p):=by
 rw[aE (d:=kD 15) rfl rfl]
 exact Ek ha h1 h6 λk=>⟨drawn a k,BM a k⟩
def Jv(a:Int)(h1:1<=s)(h6:s<=6):∃ps:List (List Int),run T (n+3) 17 [.int a,.int s]=some (.tup (ps.map tp))/\ps.length<=6/\∀p∈ps,p∈perms s:=by
 rw[aE (d:=gb 16 15) rfl rfl]
 refine bF (Jk (F:=run T (n+2)) (ft:=16) (fd:=15) (s:=s) (a:=a) (λk=>BM a k) λb hb=>NI hb h1 h6) λys e hl hP=>ab (uS ys hP) λps ah k_=>?_
 subst ah
 exact⟨ps,e,by rwa [Xb]at hl,k_⟩
theorem ig:∀ps:List (List Int),aC (.tup (ps.map tp))=true
 |[]=>rfl
 |p::ps=>by
  show(aC (tp p)&&aC (.tup (ps.map tp)))=true
  rw[aL,ig ps]
  rfl
def nh(h6:s<=6):∀l t,VL (pg s) l 0->t∈perms s->run T (n+2) 3 [.lst (l.map aq),tp t]=some (tp (dz (pg s) l 0 t)):=λl t hv ht=>by
 rw[aE (d:=d3) rfl rfl];exact Ey (u_ h6) (NH h6) hv ht
def ni(h6:s<=6):∀l r,VL (pg s) l 0->r∈perms s->run T (n+2) 4 [.lst (l.map aq),tp r]=some (.lst ((bh r l).map tp)):=λl r hv hr=>by
 rw[aE (d:=d4) rfl rfl]
 refine EA (u_ h6) hr (ED hv) ?_
 have h1:=uY aP hv
 have h2:=VL.len hv
 rw[Yw]at h2
 have h3:l.length*(pg s).n <=6*6:=Nat.mul_le_mul (by rw[h2];exact h6) h6
 rw[kI]
 lia
structure Kn(s:Nat)(M:List Int->Prop):Prop where
 y:gO (pg s) M
 v:VL (pg s) (bE (pg s) M 0) 0
 len:(bE (pg s) M 0).length =s
def qQ(h6:s<=6){ps:List (List Int)}(k_:∀p∈ps,p∈perms s)(hl:ps.length<=720):
  Kn s (Gen (pg s) (· ∈ps))/\∀n,run T (n+4) 8 [.tup (ps.map tp),.int s]=some (cZ (bE (pg s) (Gen (pg s) (· ∈ps)) 0)):=by
 have key:∀n,∃l,run T (n+3) 5 [.tup (ps.map tp),.int s]=some (.lst (l.map aq))/\Fd (pg s) (· ∈ps) l []:=λn=>by
  exact ab (Bu (F:=run T (n+2)) h6 k_ hl (JH h6) (nh h6) (ni h6)) λl e hd=>⟨l,by rw[aE (d:=d5) rfl rfl];exact e,hd⟩
 have hM:=tG h6 k_
 refine⟨ab (key 0) λl0 _ hd=>?_,λn=>ab (key n) λl e hd=>?_⟩
 .have v:=((Bm aP hM (hd.hm aP k_)).1.hm aP hM).1
  exact⟨hM,v,by have:=VL.len v;rw[Yw]at this;exact this⟩
 .have hm:=hd.hm aP k_
  rw[aE (d:=d8) rfl rfl]
  refine yu h6 e (ig ps) λk hk=>?_
  rw[aE (d:=d7) rfl rfl]
  exact EF h6 hM hm hk λu hu=>ab (Bv (F:=run T (n+1)) h6 (u_ h6) hm.1 hk hu) λx e1 e2=>⟨x,by rw[aE (d:=d6) rfl rfl];exact e1,e2⟩
theorem Kn.at(k:Kn s M)(h:R∈bE (pg s) M 0):∃i,i<s/\V (pg s) i R:=by
 obtain⟨i,hi⟩:=List.getElem?_of_mem h
 refine⟨i,by have:=(Xu.mp hi).1;have:=k.len;lia,?_⟩
 have:=VL.at k.v hi
 rwa [Yw]at this
def V.pt(h:V (pg s) i R)(hi:i<s)(he:e∈R):e.2∈perms s/\e.1<s:=by
 obtain⟨h1,_,h2⟩:=h.st e.1 e.2 he
 have q:=wI h1 hi
 exact⟨h1,h2▸(Int.toNat_lt q.1).mpr q.2⟩
def BN{i:Int}(h6:s<=6)(h0:0<=i)(h1:i<s):pt (.int i)=true:=by
 show(decide (0<=i)&&decide (i<10))=true
 rw[decide_eq_true h0,decide_eq_true (Int.lt_trans (Int.lt_of_lt_of_le h1 (Int.ofNat_le.mpr h6)) (by decide:((6:Nat):Int)<10))]
 rfl
def EZ:(List.range 7).all (λs=>(perms s).all λp=>decide (sortI p=bu s))=true:=by decide +kernel
def JI(h6:s<=6)(hp:p∈perms s):jX s (tp p)=true:=by
 show(match aB (p.map .int)with|some ns=>decide (sortI ns=bu s)|none=>false)=true
 rw[cW]
 exact XO.mp (all_range EZ (show s<7 by lia)) p hp
def E1(h6:s<=6)(k:Kn s M):EU s (cZ (bE (pg s) M 0))=true:=by
 rw[W7]
 refine⟨decide_eq_true ((Xb _).trans k.len),XO.mpr λr hr=>?_⟩
 obtain⟨R,hR,rfl⟩:=Xg.mp hr
 obtain⟨i,hi,v⟩:=k.at hR
 refine XO.mpr λy hy=>?_
 obtain⟨e,he,rfl⟩:=Xg.mp hy
 have q:=V.pt v hi he
 show((decide (0<=(e.1:Int))&&decide ((e.1:Int)<=(s:Int)-1))&&jX s (tp e.2))=true
 rw[JI h6 q.1,decide_eq_true (by lia),decide_eq_true (by lia)]
 rfl
def xa(h:B6 s x=true):B7 x=true:=by
 obtain⟨rs,rfl,h0⟩:=jc h
 refine lY _ λr hr=>?_
 obtain⟨ys,rfl,h2⟩:=jc (h0 r hr)
 refine lY _ λy hy=>?_
 obtain⟨a,t,rfl,h3,h4⟩:=w6 (h2 y hy)
 obtain⟨p,_,rfl⟩:=tQ h4
 cases a with
 |int i=>
  show(true&&(B7 (tp p)&&true))=true
  rw[JG]
  rfl
 |_=>cases h3
def xb(hp:p∈perms s)(h6:s<=6):aF 1 6 (tp p):=eg (by rw[Xb,az hp];exact h6) λx hx=>by
 obtain⟨i,_,rfl⟩:=Xg.mp hx
 exact⟨rfl,rfl⟩
def jZ(h6:s<=6)(k:Kn s M):aF 4 6 (cZ (bE (pg s) M 0)):=by
 refine eg (by rw[Xb,k.len];exact h6) λr hr=>?_
 obtain⟨R,hR,rfl⟩:=Xg.mp hr
 obtain⟨i,hi,v⟩:=k.at hR
 refine eg (by rw[Xb];have:=qJ hi v;lia) λy hy=>?_
 obtain⟨e,he,rfl⟩:=Xg.mp hy
 refine eg (by show 2<=6;lia) λz hz=>?_
 rcases Xl.mp hz with rfl|hz
 .exact⟨rfl,rfl⟩
 .rw[Xc.mp hz]
  exact xb (V.pt v hi he).1 h6
def JJ(h6:s<=6)(k:Kn s M):pt (cZ (bE (pg s) M 0))=true:=by
 refine nv.mpr λr hr=>?_
 obtain⟨R,hR,rfl⟩:=Xg.mp hr
 obtain⟨i,hi,v⟩:=k.at hR
 refine nv.mpr λy hy=>?_
 obtain⟨e,he,rfl⟩:=Xg.mp hy
 have q:=V.pt v hi he
 refine nv.mpr λz hz=>?_
 rcases Xl.mp hz with rfl|hz
 .exact BN h6 (ZU _) (Int.ofNat_lt.mpr q.2)
 .rw[Xc.mp hz]
  refine nv.mpr λu hu=>?_
  obtain⟨j,hj,rfl⟩:=Xg.mp hu
  have:=(ax.mp q.1).2.2 j hj
  exact BN h6 this.1 this.2
def JK:∀x,dm x=true->∀lo hi,run T (n+1) 21 [x,.int lo,.int hi]=some (.bl (bW lo hi x)):=λx h lo hi=>by
 rw[aE (d:=BF) rfl rfl];exact Jz x h lo hi
def TK(h6:s<=6)(hk:k<=60):∀x,aF k 20 x->run T (n+2) 22 [x,.int s]=some (.bl (jX s x)):=λx hx=>by
 rw[aE (d:=kO 21) rfl rfl];exact u6 h6 JK hk (hx.mono (Xf _) (by lia))
def Wr(h6:s<=6):∀k x,aF k 20 x->run T (n+2) 30 [x,.int s]=some (.bl (jX s x)):=λk x hx=>by
 rw[aE (d:=nE 29) rfl rfl]
 exact yw h6 (λx h=>by rw[aE (d:=lX) rfl rfl];exact tN x h) (hx.mono (Xf _) (by lia))
def hP(h6:s<=6):∀k x,aF k 20 x->run T (n+3) 10 [x,.int s]=some (.bl (Ga s x)):=λk x hx=>by
 rw[aE (d:=Jp) rfl rfl]
 exact EW (λx h=>by rw[aE (d:=lX) rfl rfl];exact tN x h) (Wr h6) hx
def hR(h6:s<=6):∀k x,aF k 20 x->run T (n+4) 11 [x,.int s]=some (.bl (JA s x)):=λk x hx=>by
 rw[aE (d:=Nv) rfl rfl]
 exact BJ (hP h6) hx
def rm(h1:1<=s)(h6:s<=6){ps:List (List Int)}(k_:∀p∈ps,p∈perms s)(hl:ps.length<=1000){r:D}(hr:r= .tup (ps.map tp)\/r= .lst (ps.map tp)):∃Ts:List (List Int),run T (n+2) 19 [r,.int s]=some (.lst (Ts.map tp))/\(∀t,t∈Ts↔Gen (pg s) (· ∈ps) t)/\Ts.length<=1000:=by
 rw[aE (d:=Et) rfl rfl]
 obtain⟨B,eB,hB⟩:=Jw (F:=run T (n+1)) h1 h6 (EY h6) k_ hl hr
 have WZ:B.length<=720:=Xq (lW _ _ hB.nd λx hx=>Bn k_ (hB.gen x hx)) (nk h6)
 exact⟨cN.fg B,eB,λt=>((cN.fU B).mem_iff).trans ((hB.done t).trans wL),by rw[(cN.fU B).length_eq];lia⟩
def NJ(h1:1<=s)(h6:s<=6)(hM:gO (pg s) M){Ts:List (List Int)}(hT:∀t,t∈Ts↔M t)(hl:Ts.length<=1000):run T (n+1) 20 [.lst (Ts.map tp),.int s]=some (cZ (bE (pg s) M 0)):=by
 rw[aE (d:=Jr) rfl rfl];exact u0 h6 h1 hM hT hl
def NK(h1:1<=s)(h6:s<=6)(hx:aF 60 20 x):∃b,run T (n+5) 12 [x,.int s]=some (.bl b)/\run T (n+5) 26 [x,.int s]=some (.bl b):=by
 rw[aE (d:=Jq) rfl rfl,aE (d:=Kj) rfl rfl]
 cases ho:B6 s x with
 |false=>
  have hm:EU s x=false:=by
   cases z:EU s x with
   |false=>rfl
   |true=>rw[Gb z]at ho;cases ho
  refine⟨false,?_,?_⟩
  .have:=BK (F:=run T (n+4)) (s:=s) (Y:= .dj) (hR h6) hx (Xf _) (λz=>by rw[ho]at z;cases z) rfl
   rwa [ho]at this
  .have:=w8 (F:=run T (n+4)) (s:=s) (Y:= .dj) (W:=[]) JK (TK h6 (by lia)) hx (Xf _) (λz=>by rw[hm]at z;cases z) rfl
   rwa [hm]at this
 |true=>
  obtain⟨ps,em,k_⟩:=JC ho
  have hl:ps.length<=400:=by
   have:=u9 hx
   rw[em,Xb]at this
   lia
  obtain⟨k,f⟩:=qQ h6 k_ (by lia)
  obtain⟨Ts,eT,mT,lT⟩:=rm (n:=n+2) h1 h6 k_ (by lia) (.inr rfl)
  have hY:=jZ h6 k
  have NL:=fP _ (by lia:4<=60) hY.1
  refine⟨gT (cZ (bE (pg s) (Gen (pg s) (· ∈ps)) 0)) x,?_,?_⟩
  .have:=BK (F:=run T (n+4)) (s:=s) (hR h6) hx (Xf _) (λz=>⟨by rw[aE (d:=d9) rfl rfl];exact yz ho hx,by rw[em];exact f n⟩) NL
   rwa [ho]at this
  .have:=w8 (F:=run T (n+4)) (s:=s) JK (TK h6 (by lia)) hx (Xf _) (λz=>⟨by rw[em];exact eT,NJ (n:=n+3) h1 h6 k.y mT lT⟩) NL
   rw[this]
   cases he:gT (cZ (bE (pg s) (Gen (pg s) (· ∈ps)) 0)) x with
   |false=>rw[Z7]
   |true=>
    have q:=E1 h6 k
    rw[<-BL _ _ (xa (Gb q)) (xa ho) he,q]
    rfl
end
section
variable {n s:Nat}{F:FT}
def JL{i j:Int}(h1:ev F true a ρ=some (.int i))(h2:ev F true c ρ=some (.int j)):ev F b (.bin .Add a c) ρ=some (.int (i+j)):=i7 h1 h2
def nH{xs zs:List D}{k:Nat}{i i':Int}(hx:∀x∈xs,aF k 20 x)(hz:∀x∈zs,aF k 20 x)(hl:xs.length<=6)(W2:zs.length<=6):aF (k+1) 20 (.tup (iR xs none (some i)++zs++iR xs (some i') none)):=tM hx hz (by lia)
def BO(h1:1<=s)(h6:s<=6)(k:Kn s M){Ts:List (List Int)}(hT:∀t,t∈Ts↔M t){a:Int}(ha:0<=a):∃y,out (ex F Js.body (ai Js [cZ (bE (pg s) M 0),.lst (Ts.map tp),.int a]))=some y/\aF 4 20 y:=by
 have fl:=jZ h6 k
 have Ws:0<=a/36:=Y9 ha (by decide)
 have g6:0<=a/6:=Y9 ha (by decide)
 obtain⟨r,hr,i1,_⟩:=ed (xs:=(bE (pg s) M 0).map aU) ha (by rw[Xb,k.len];exact h1)
 have pr:=fl.parts.2 r hr
 obtain⟨R,hR,rfl⟩:=Xg.mp hr
 obtain⟨i,hi,v⟩:=k.at hR
 obtain⟨y,hy,i2,_⟩:=ed (xs:=R.map pairD) g6 (by rw[Xb];exact YU v.one)
 have py:=pr.parts.2 y hy
 obtain⟨e,he,rfl⟩:=Xg.mp hy
 obtain⟨u,hu,_,i3⟩:=ed (xs:=Ts.map tp) Ws (by rw[Xb];exact YU ((hT _).mpr k.y.one))
 obtain⟨t,ht,rfl⟩:=Xg.mp hu
 have ft:=xb (k.y.s t ((hT t).mp ht)) h6
 let v0:Option (Bool×D):=some (false,cZ (bE (pg s) M 0))
 let v1:Option (Bool×D):=some (false,.lst (Ts.map tp))
 let v2:Option (Bool×D):=some (false,.int a)
 let v3:Option (Bool×D):=some (false,.int (a%(((bE (pg s) M 0).map aU).length :Int)))
 let v4:Option (Bool×D):=some (false,aU R)
 let v5:Option (Bool×D):=some (false,.int (a/6%((R.map pairD).length :Int)))
 let v6:Option (Bool×D):=some (false,.tup [.int e.1,tp t])
 have c3:ev F false (.bin .Mod (.var 2) (.prim .len (.u 0))) [v0,v1,v2,none,none,none,none]=some (.int (a%(((bE (pg s) M 0).map aU).length :Int))):=cY (a:= .var 2) rfl (m_ (a:= .var 0) (x:=cZ (bE (pg s) M 0)) rfl rfl) (by rw[Xb,k.len];lia)
 have c4:ev F false (.idx (.var 0) (.var 3)) [v0,v1,v2,v3,none,none,none]=some (aU R):=gM (a:= .var 0) (i:= .var 3) rfl rfl i1
 have c5:ev F false (.bin .Mod (.bin .FloorDiv (.var 2) (.c (.int 6))) (.prim .len (.u 4))) [v0,v1,v2,v3,v4,none,none]=some (.int (a/6%((R.map pairD).length :Int))):=cY (eV (a:= .var 2) (c:= .c (.int 6)) rfl rfl (by decide)) (m_ (a:= .var 4) (x:=aU R) rfl rfl) (by rw[Xb];have:=YU v.one;lia)
 have c6:ev F false (.tup (.cons (.idx (.idx (.var 4) (.var 5)) (.c (.int 0))) (.cons (.idx (.var 1) (.bin .Mod (.bin .FloorDiv (.var 2) (.c (.int 36))) (.prim .len (.u 1)))) .nil))) [v0,v1,v2,v3,v4,v5,none]=some (.tup [.int e.1,tp t]):=by
  refine Q9 (gM (gM (a:= .var 4) (i:= .var 5) rfl rfl i2) (i:= .c (.int 0)) rfl rfl) (gM (a:= .var 1) rfl (cY (eV (a:= .var 2) (c:= .c (.int 36)) rfl rfl (by decide)) (m_ (a:= .var 1) (x:= .lst (Ts.map tp)) rfl rfl) ?_) i3)
  rw[Xb]
  have:=YU ((hT _).mpr k.y.one)
  lia
 have HL:((bE (pg s) M 0).map aU).length <=6:=fl.parts.1
 have Oy:(R.map pairD).length <=6:=pr.parts.1
 have c7:=qH (F:=F) (b:=false) (ρ:=[v0,v1,v2,v3,v4,v5,v6]) (a:= .var 4) (j:= .var 5) (m:= .tup (.u 6)) (k:= .bin .Add (.var 5) (.c (.int 1))) (xs:=R.map pairD) (zs:=[.tup [.int e.1,tp t]]) rfl rfl rfl rfl (by lia) (by show 1<=1000;lia)
 have c8:=qH (F:=F) (b:=true) (ρ:=[v0,v1,v2,v3,v4,v5,v6]) (a:= .var 0) (j:= .var 3) (k:= .bin .Add (.var 3) (.c (.int 1))) (xs:=(bE (pg s) M 0).map aU) rfl rfl (Q8 c7) rfl (by lia) (by show 1<=1000;lia)
 have run:∀w,ev F true (.bin .Add (.bin .Add (.sl (.var 0) .nil (.u 3)) (.tup (.cons (.bin .Add (.bin .Add (.sl (.var 4) .nil (.u 5)) (.tup (.u 6))) (.sl (.var 4) (.cons (.bin .Add (.var 5) (.c (.int 1))) .nil) .nil)) .nil))) (.sl (.var 0) (.cons (.bin .Add (.var 3) (.c (.int 1))) .nil) .nil)) [v0,v1,v2,v3,v4,v5,v6]=some w->out (ex F Js.body (ai Js [cZ (bE (pg s) M 0),.lst (Ts.map tp),.int a]))=some w:=λw c8=>by
  show out (ex F (.seq (.asg 3 _) _) [v0,v1,v2,none,none,none,none])=_
  rw[av (aD c3)]
  show out (ex F (.seq (.asg 4 _) _) [v0,v1,v2,v3,none,none,none])=_
  rw[av (aD c4)]
  show out (ex F (.seq (.asg 5 _) _) [v0,v1,v2,v3,v4,none,none])=_
  rw[av (aD c5)]
  show out (ex F (.seq (.asg 6 _) _) [v0,v1,v2,v3,v4,v5,none])=_
  rw[av (aD c6)]
  exact bM c8
 refine⟨_,run _ c8,?_⟩
 refine nH (k:=3) (λx hx=>(fl.parts.2 x hx).mono (Xf _) (by lia)) (λx hx=>?_) HL (by show 1<=6;lia)
 rw[Xc.mp hx]
 refine nH (k:=2) (λx hx=>(pr.parts.2 x hx).mono (Xf _) (by lia)) (λx hx=>?_) Oy (by show 1<=6;lia)
 rw[Xc.mp hx]
 refine eg (k:=1) (by show 2<=20;lia) λz hz=>?_
 rcases Xl.mp hz with rfl|hz
 .exact⟨rfl,rfl⟩
 .rw[Xc.mp hz]
  exact ft.mono (Xf _) (by lia)
def gR{ns:List Int}{ρ:Env}(h:ρ[0]?=some (some (false,.lst (ns.map .int))))(k:Nat)(hk:k<1000):ev (run T 6) b (.call 14 (.w 0 (.cons (.c (.int k)) .nil))) ρ=some (.int (m5 ns k)):=by
 refine aJ (dG (x:= .lst (ns.map .int)) (y:= .int k) ?_ rfl) (Rr (n:=4) ns hk) rfl
 rw[jt]
 show(match ρ[0]? with|some (some (o,d))=>if o&&!(true&&dm d) then none else some d|_=>none)=_
 rw[h]
 rfl
end
def holds(ns:List Int)(hl:ns.length<=63):run T (6+1) 28 [.lst (ns.map .int)]=some (.bl true):=by
 have g0:0<=m5 ns 0%5:=Yj _ (by decide)
 have g1:m5 ns 0%5<5:=Yh _ (by decide)
 obtain⟨s,hs⟩:∃s:Nat,1+m5 ns 0%5=s:=⟨(1+m5 ns 0%5).toNat,by lia⟩
 have h1:1<=s:=by lia
 have h6:s<=6:=by lia
 have eU:bj=16777216:=rfl
 obtain⟨ps,er,j5,k_⟩:=Jv (n:=3) (m5 ns 1) h1 h6
 obtain⟨qs,eq,W4,Wt⟩:=Jv (n:=3) (m5 ns 4) h1 h6
 obtain⟨k1,f1⟩:=qQ h6 k_ (by lia)
 obtain⟨k2,f2⟩:=qQ h6 Wt (by lia)
 obtain⟨Ts,eT,mT,lT⟩:=rm (n:=4) h1 h6 k_ (by lia) (.inl rfl)
 generalize hM:Gen (pg s) (· ∈ps)=M at k1 f1 mT
 generalize hN:Gen (pg s) (· ∈qs)=N at k2 f2
 have OA:=jZ h6 k1
 have TM:=jZ h6 k2
 let F:=run T 6
 let kd:Int:=m5 ns 2%6
 have Ob:0<=kd:=Yj _ (by decide)
 have LD:kd<6:=Yh _ (by decide)
 let sc:Option (Bool×D):=some (false,.lst (ns.map .int))
 let x1:Option (Bool×D):=some (false,.int s)
 let x2:Option (Bool×D):=some (false,.tup (ps.map tp))
 let x3:Option (Bool×D):=some (false,cZ (bE (pg s) M 0))
 let E (x:D) (x5 x6:Option (Bool×D)):Env:=[sc,x1,x2,some (false,x),some (false,.int kd),x5,x6]
 have fin:∀x x5 x6,aF 60 20 x->out (ex F (.seq (.ret (.call 23 (.cons (.call 12 (.w 3 (.u 1))) (.cons (.call 26 (.w 3 (.u 1))) .nil)))) .skip) (E x x5 x6))=some (.bl true):=λx x5 x6 hx=>by
  obtain⟨b,e1,e2⟩:=NK (n:=1) h1 h6 hx
  have c1:ev F true (.call 12 (.w 3 (.u 1))) (E x x5 x6)=some (.bl b):=aJ (dG (x:=x) (y:= .int s) rfl rfl) e1 rfl
  have c2:ev F true (.call 26 (.w 3 (.u 1))) (E x x5 x6)=some (.bl b):=aJ (dG (x:=x) (y:= .int s) rfl rfl) e2 rfl
  refine bM (aJ (dG c1 c2) ?_ rfl)
  show run T (5+1) 23 _=_
  rw[aE (d:=Rb) rfl rfl]
  cases b<;>rfl
 have t1:∀x x5 x6,ev F false (.cmp .Lt (.var 4) (.c (.int 2))) (E x x5 x6)=some (.bl (decide (kd<2))):=λx x5 x6=>cK (a:= .var 4) (c:= .c (.int 2)) (x:= .int kd) (y:= .int 2) rfl rfl rfl
 have t2:∀x x5 x6 (j:Int),ev F false (.cmp .Eq (.var 4) (.c (.int j))) (E x x5 x6)=some (.bl (kd==j)):=λx x5 x6 j=>cK (a:= .var 4) (c:= .c (.int j)) (x:= .int kd) (y:= .int j) rfl rfl rfl
 have no:∀x x5 x6 (j:Int),kd≠j->ev F false (.cmp .Eq (.var 4) (.c (.int j))) (E x x5 x6)=some (.bl false):=λx x5 x6 j h=>by
  rw[t2,beq_eq_false_iff_ne.mpr h]
 have yes:∀x x5 x6 (j:Int),kd=j->ev F false (.cmp .Eq (.var 4) (.c (.int j))) (E x x5 x6)=some (.bl true):=λx x5 x6 j h=>by
  rw[t2,beq_iff_eq.mpr h]
 have s1:ev F false (.bin .Add (.c (.int 1)) (.bin .Mod (.call 14 (.w 0 (.cons (.c (.int 0)) .nil))) (.c (.int 5)))) [sc,none,none,none,none,none,none]=some (.int s):=by
  rw[<-hs]
  exact JL (a:= .c (.int 1)) rfl (cY (c:= .c (.int 5)) (gR rfl 0 (by lia)) rfl (by decide))
 have s2:ev F false (.call 17 (.cons (.call 14 (.w 0 (.cons (.c (.int 1)) .nil))) (.u 1))) [sc,x1,none,none,none,none,none]=some (.tup (ps.map tp)):=aJ (dG (gR rfl 1 (by lia)) (y:= .int s) rfl) er (ig ps)
 have s3:ev F false (.call 8 (.w 2 (.u 1))) [sc,x1,x2,none,none,none,none]=some (cZ (bE (pg s) M 0)):=bB (dG (x:= .tup (ps.map tp)) (y:= .int s) rfl rfl) (f1 2) rfl
 have s4:ev F false (.bin .Mod (.call 14 (.w 0 (.cons (.c (.int 2)) .nil))) (.c (.int 6))) [sc,x1,x2,x3,none,none,none]=some (.int kd):=cY (c:= .c (.int 6)) (gR rfl 2 (by lia)) rfl (by decide)
 rw[aE (d:=Nw) rfl rfl]
 show out (ex F (.seq (.asg 1 _) _) [sc,none,none,none,none,none,none])=_
 rw[av (aD s1)]
 show out (ex F (.seq (.asg 2 _) _) [sc,x1,none,none,none,none,none])=_
 rw[av (aD s2)]
 show out (ex F (.seq (.asg 3 _) _) [sc,x1,x2,none,none,none,none])=_
 rw[av (aD s3)]
 show out (ex F (.seq (.asg 4 _) _) [sc,x1,x2,x3,none,none,none])=_
 rw[av (aD s4)]
 show out (ex F (.seq (.ifs _ _ _) _) (E (cZ (bE (pg s) M 0)) none none))=_
 by_cases hA:kd<2
 .
  obtain⟨d,hd⟩:∃d:Nat,m5 ns 2/6%5=d:=⟨(m5 ns 2/6%5).toNat,by have:=Yj (m5 ns 2/6) (show(5:Int)≠0 by decide);lia⟩
  have W5:d<=4:=by have:=Yh (m5 ns 2/6) (show(0:Int)<5 by decide);lia
  obtain⟨y,ey,fy⟩:=u7 (T:=T) (go:=24) (f:=25) rfl rfl d 6 (by lia) (m5 ns 3) _ 4 6 (A3 ns 3) OA (JJ h6 k1) (by lia)
  have c:ev F false (.call 25 (.w 3 (.cons (.call 14 (.w 0 (.cons (.c (.int 3)) .nil))) (.cons (.bin .Mod (.bin .FloorDiv (.call 14 (.w 0 (.cons (.c (.int 2)) .nil))) (.c (.int 6))) (.c (.int 5))) .nil)))) (E (cZ (bE (pg s) M 0)) none none)=some y:=by
   refine bB (Eo (x:=cZ (bE (pg s) M 0)) rfl (gR rfl 3 (by lia)) ?_) ey rfl
   rw[<-hd]
   exact cY (c:= .c (.int 5)) (eV (c:= .c (.int 6)) (gR rfl 2 (by lia)) rfl (by decide)) rfl (by decide)
  rw[av (tD (by rw[t1,decide_eq_true hA]) ((av (aD c)).trans rfl))]
  show out (ex F (.seq (.ifs _ _ _) _) (E y none none))=_
  rw[av (bK (no _ _ _ 2 (by lia))),av (bK (no _ _ _ 3 (by lia)))]
  exact fin y _ _ (fy.mono (by lia) (by lia))
 .rw[av (bK (by rw[t1,decide_eq_false hA]))]
  by_cases hB:kd=2
  .
   obtain⟨y,ey,fy⟩:=BO (F:=run T 5) h1 h6 k1 mT (A3 ns 3)
   have c:ev F false (.call 27 (.w 3 (.cons (.call 19 (.w 2 (.u 1))) (.cons (.call 14 (.w 0 (.cons (.c (.int 3)) .nil))) .nil)))) (E (cZ (bE (pg s) M 0)) none none)=some y:=by
    refine bB (Eo (x:=cZ (bE (pg s) M 0)) rfl (bB (dG (x:= .tup (ps.map tp)) (y:= .int s) rfl rfl) eT rfl) (gR rfl 3 (by lia))) ?_ rfl
    show run T (5+1) 27 _=_
    rw[aE (d:=Js) rfl rfl]
    exact ey
   rw[av (tD (yes _ _ _ 2 hB) ((av (aD c)).trans rfl))]
   show out (ex F (.seq (.ifs _ _ _) _) (E y none none))=_
   rw[av (bK (no _ _ _ 3 (by lia)))]
   exact fin y _ _ (fy.mono (by lia) (by lia))
  .rw[av (bK (no _ _ _ 2 hB))]
   by_cases hC:kd=3
   .
    have c5:ev F false (.bin .Mod (.call 14 (.w 0 (.cons (.c (.int 3)) .nil))) (.var 1)) (E (cZ (bE (pg s) M 0)) none none)=some (.int (m5 ns 3%s)):=cY (c:= .var 1) (gR rfl 3 (by lia)) rfl (by lia)
    let x5:Option (Bool×D):=some (false,.int (m5 ns 3%s))
    let x6:Option (Bool×D):=some (false,cZ (bE (pg s) N 0))
    have c6:ev F false (.call 8 (.cons (.call 17 (.cons (.call 14 (.w 0 (.cons (.c (.int 4)) .nil))) (.u 1))) (.u 1))) (E (cZ (bE (pg s) M 0)) x5 none)=some (cZ (bE (pg s) N 0)):=bB (dG (aJ (dG (gR rfl 4 (by lia)) (y:= .int s) rfl) eq (ig qs)) (y:= .int s) rfl) (f2 2) rfl
    have l1:((bE (pg s) M 0).map aU).length <=6:=OA.parts.1
    have l2:=eK (xs:=(bE (pg s) N 0).map aU) (l:=some (m5 ns 3%s)) (h:=some (m5 ns 3%s+1))
    have l3:((bE (pg s) N 0).map aU).length <=6:=TM.parts.1
    have c3:=qH (F:=F) (b:=false) (ρ:=E (cZ (bE (pg s) M 0)) x5 x6) (a:= .var 3) (j:= .var 5) (m:= .sl (.var 6) (.u 5) (.cons (.bin .Add (.var 5) (.c (.int 1))) .nil)) (k:= .bin .Add (.var 5) (.c (.int 1))) (xs:=(bE (pg s) M 0).map aU) (zs:=iR ((bE (pg s) N 0).map aU) (some (m5 ns 3%s)) (some (m5 ns 3%s+1))) rfl rfl rfl rfl (by lia) (by lia)
    rw[av (tD (yes _ _ _ 3 hC) ((av (aD c5)).trans ((av (aD c6)).trans ((av (aD c3)).trans rfl))))]
    refine fin _ x5 x6 ((nH (k:=3) (λx hx=>(OA.parts.2 x hx).mono (Xf _) (by lia)) (λx hx=>(TM.parts.2 x (h_ hx)).mono (Xf _) (by lia)) l1 (by lia)).mono (by lia) (Xf _))
   .rw[av (bK (no _ _ _ 3 hC))]
    exact fin _ _ _ (OA.mono (by lia) (by lia))
end bX
namespace bX
open PySem L2 Py
def top(i:Nat):Stmt:=PySem.Challenge.pw_turnyard_k15_ladders_told.main.body.getD i (.Pass ⟨0,0,0,0⟩)
abbrev Row:=Str×Nat×Fd×List Str
noncomputable def tb:List Row:=[("still",3,d0,["size"]),
 ("times",4,d1,["one","other"]),
 ("back",5,d2,["turn"]),
 ("left_over",7,d3,["found","turn","rest","place","steps"]),
 ("products_with",8,d4,["found","turn","made","steps","step"]),
 ("found_steps",9,d5,["row","size","found","waiting","rest","moved","place"]),
 ("least_turn",10,d6,["found","place","turn","least","steps","part"]),
 ("rung_at",11,d7,["found","place","steps"]),
 ("ladder",12,d8,["row","size","found"]),
 ("makers",13,d9,["yard","turns","rung"]),
 ("is_pair",14,Jp,["thing","size"]),
 ("is_tuple_of_pairs",15,Nv,["thing","size"]),
 ("is_ladder",16,Jq,["thing","size"]),
 ("_law_cell_at",18,Ti,["_law_script","_law_k"]),
 ("_law_mixed",19,Tj,["_law_script","_law_k","_law_drawn_here"]),
 ("_law_drawn",20,Tn,["_law_number_here","_law_k","_law_drawn_here"]),
 ("_law_turn",21,To,["_law_number_here","_law_size","_law_found","_law_one","_law_other","_law_many","_law_shift","_law_k","_law_made","_law_at"]),
 ("_law_row",22,Tp,["_law_number_here","_law_size"]),
 ("_law_times",23,Tq,["_law_one","_law_other"]),
 ("_law_all",25,Et,["_law_row_here","_law_size","_law_start","_law_met","_law_todo","_law_turn_here","_law_other","_law_goal"]),
 ("_law_ladder",26,Jr,["_law_turns","_law_size","_law_rungs","_law_level","_law_rung","_law_point","_law_good"]),
 ("_law_number",27,Tr,["_law_thing","_law_low","_law_high"]),
 ("_law_is_turn",28,Tt,["_law_thing","_law_size"]),
 ("_law_same",29,Rb,["_law_found","_law_due"]),
 ("_law_odd",30,Tu,["_law_number_here","_law_some"]),
 ("_law_spoilt",31,Tv,["_law_thing","_law_number_here","_law_deep","_law_at","_law_part"]),
 ("_law_is_ladder",32,Kj,["_law_thing","_law_size","_law_turns","_law_rung","_law_pair"]),
 ("_law_other_turn",33,Js,["_law_yard","_law_turns","_law_number_here","_law_level","_law_rung","_law_at","_law_pair"]),
 ("law",34,Nw,["_law_script","_law_size","_law_row_here","_law_thing","_law_kind","_law_level","_law_other"]),
 ("is_whole",1,Tw,["thing"]),
 ("is_turn",2,Tx,["thing","size"])]
noncomputable def G:GT:=(tb.map λr=>r.1,[])
noncomputable def TN(r:Row):Bool:=
 decide ((ay (top r.2.1)).kind = .function)&&!(ay (top r.2.1)).isCoroutine&&!(ay (top r.2.1)).isGenerator&&decide r.2.2.2.Nodup&&decide ((r.2.2.2.take r.2.2.1.par).length =r.2.2.1.par) &&
 (r.2.2.2.take r.2.2.1.par).all (λx=>decide ((ay (top r.2.1)).names.lookup x=some .local \/(ay (top r.2.1)).names.lookup x=some .cell))&&(ay (top r.2.1)).names.all (λy=>decide (y.2≠ .free)) &&
 iA G r.2.2.1.body r.2.2.2 (ay (top r.2.1)) (bU (top r.2.1))&&decide (r.2.2.2.length=r.2.2.1.kU)
def ck:tb.all TN=true:=by decide +kernel
def Bd(r:Row):Prop:=∀(kV il pm:Value) (an:Option Addr) (eY ct:Value) (us:List Value),us.length=(r.2.2.2.take r.2.2.1.par).length ->bindArgs (PySem.W.fnOf r.1 r.1 (dB (top r.2.1)) (bU (top r.2.1)) (ay (top r.2.1)) .none kV il pm an eY ct) ⟨us,[]⟩=pure ((r.2.2.2.take r.2.2.1.par).zip us)
def JM:List Row->Prop
 |[]=>True
 |r::l=>Bd r/\JM l
section
variable {r:Row}{l:List Row}{p q o:Str}(H:JM l)
include H
def Wu(e:r.2.2.2.take r.2.2.1.par=[p])(h:∀(kV il pm:Value) (an:Option Addr) (eY ct u:Value),bindArgs (PySem.W.fnOf r.1 r.1 (dB (top r.2.1)) (bU (top r.2.1)) (ay (top r.2.1)) .none kV il pm an eY ct) ⟨[u],[]⟩=pure [(p,u)]):JM (r::l):=
 ⟨λkV il pm an eY ct us hl=>by rw[e]at hl⊢;obtain⟨u,rfl⟩:=Nl hl;exact h kV il pm an eY ct u,H⟩
def Wv(e:r.2.2.2.take r.2.2.1.par=[p,q])(h:∀(kV il pm:Value) (an:Option Addr) (eY ct u v:Value),bindArgs (PySem.W.fnOf r.1 r.1 (dB (top r.2.1)) (bU (top r.2.1)) (ay (top r.2.1)) .none kV il pm an eY ct) ⟨[u,v],[]⟩=pure [(p,u),(q,v)]):JM (r::l):=
 ⟨λkV il pm an eY ct us hl=>by rw[e]at hl⊢;obtain⟨u,v,rfl⟩:=Nm hl;exact h kV il pm an eY ct u v,H⟩
def Ww(e:r.2.2.2.take r.2.2.1.par=[p,q,o])(h:∀(kV il pm:Value) (an:Option Addr) (eY ct u v w:Value),bindArgs (PySem.W.fnOf r.1 r.1 (dB (top r.2.1)) (bU (top r.2.1)) (ay (top r.2.1)) .none kV il pm an eY ct) ⟨[u,v,w],[]⟩=pure [(p,u),(q,v),(o,w)]):JM (r::l):=
 ⟨λkV il pm an eY ct us hl=>by rw[e]at hl⊢;obtain⟨u,v,w,rfl⟩:=Q5 hl;exact h kV il pm an eY ct u v w,H⟩
end
def Wx:JM tb:=by
 repeat first
  |refine Wu ?_ rfl λ_ _ _ _ _ _ _=>rfl
  |refine Wv ?_ rfl λ_ _ _ _ _ _ _ _=>rfl
  |refine Ww ?_ rfl λ_ _ _ _ _ _ _ _ _=>rfl
 exact trivial
theorem Gd:∀{l:List Row},JM l->∀r∈l,Bd r
 |_::_,h,_,.head _=>h.1
 |_::_,h,r,.tail _ m=>Gd h.2 r m
def Dh(K:PySem.W.Frag)(r:Row):Prop:=∃(f:Addr) (fd:FuncData),Fo K r.1 r.1 (top r.2.1) f fd/\PySem.W.nsIn K mainGlobals r.1=some (some (.ref f))
def NM(K:PySem.W.Frag):List Row->Prop
 |[]=>True
 |r::l=>Dh K r/\NM K l
theorem BP{K:PySem.W.Frag}:∀{l:List Row},NM K l->∀r∈l,Dh K r
 |_::_,h,_,.head _=>h.1
 |_::_,h,r,.tail _ m=>BP h.2 r m
def Wy{K:PySem.W.Frag}{r:List Row}{x:Str}{i:Nat}{d:Fd}{N:List Str}{f:Addr}{oc:Value}{od an:Option Addr}{sl:Array (Option Value)}{kV dc pm cd ct:Value}(a:PySem.W.nsIn K mainGlobals x=some (some (.ref f)))
  (l:K.lookup f=some ⟨oc,od,.func (PySem.W.fnOf x x (dB (top i)) (bU (top i)) (ay (top i)) .none kV dc pm an cd ct),sl⟩) (c:PySem.W.codeIn K cd x=true) (k:PySem.W.keepIn K (.ref f)=true) (h:NM K r):NM K ((x,i,d,N)::r):=
 ⟨⟨f,_,Hh l c k,a⟩,h⟩
def Zs(K:PySem.W.Frag):List Str->Prop
 |[]=>True
 |x::l=>PySem.W.nsIn K mainGlobals x=some none/\Zs K l
def zs{K:PySem.W.Frag}(a:PySem.W.nsIn K mainGlobals x=some none)(h:Zs K l):Zs K (x::l):=⟨a,h⟩
theorem Ge{K:PySem.W.Frag}(X:K.In h)(GM:h.Ns mainGlobals mg):∀{l:List Str},Zs K l->∀x∈l,mg x=none
 |_::_,z,_,.head _=>PySem.W.mg_none_of X GM z.1
 |_::_,z,x,.tail _ m=>Ge X GM z.2 x m
def all_mk{l:PySem.W.OpenLaw}{w:World}{K:PySem.W.Frag}{h:Heap}{mg:Str->Option Value}{fa:Addr}(X:K.In h)(GM:h.Ns mainGlobals mg)(Wz:mg "law"=some (.ref fa))(D:NM K tb)(Z:Zs K iW):
  ∃fd:FuncData,(∀(s:Shared) (v:Value),BindsTo s fd ⟨[v],[]⟩ [("_law_script",v)])/\∀base:Heap,K.In base->base.Ns mainGlobals mg->jf l.prog w K mg base xA (6+1) fa fd ["_law_script"] (vW K 1 (run T (6+1) 28)):=by
 have hb:=Ge X GM Z
 have vj:∀(x:Str) (i:Int),(x,i)∈G.2->∃t,mg x=some (.int i t):=λx i hx=>nomatch hx
 have cr:∀r∈tb,gS r.2.2.2 (r.2.2.2.take r.2.2.1.par) (ay (top r.2.1))/\iA G r.2.2.1.body r.2.2.2 (ay (top r.2.1)) (bU (top r.2.1))=true/\(r.2.2.2.take r.2.2.1.par).length =r.2.2.1.par/\r.2.2.2.length=r.2.2.1.kU:=λr hr=>by
  have h:=XO.mp ck r hr
  unfold TN at h
  simp only[W7,decide_eq_true_eq,XO,Z2]at h
  obtain⟨⟨⟨⟨⟨⟨⟨⟨h1,h2⟩,h3⟩,h4⟩,h5⟩,h6⟩,h7⟩,h8⟩,h9⟩:=h
  exact⟨⟨h1,h2,h3,h4,by rw[h5],h6,h7⟩,h8,h5,h9⟩
 have pL:∀(base:Heap) (f:Nat) (x:Str),G.1[f]?=some x->uQ l.prog w K mg base G T f x:=λbase f x hf=>by
  obtain⟨r,hr,rfl⟩:=ZW.mp ((Xn ..).symm.trans hf)
  have hm:=Yq hr
  obtain⟨fa,fd,F,a⟩:=BP D r hm
  obtain⟨S,ok,l1,l2⟩:=cr r hm
  refine A0.step hb vj (d:=r.2.2.1) ?_ ⟨top r.2.1,fa,fd,_,_,F,S,F.binds (Gd Wx r hm),PySem.W.mg_of X GM a,ok,l1,l2⟩
  show(tb.map λr=>r.2.2.1)[f]?=_
  rw[Xn,hr];rfl
 have hl:tb[28]?=some (("law",34,Nw,["_law_script","_law_size","_law_row_here","_law_thing","_law_kind","_law_level","_law_other"]):Row):=rfl
 have hm:=Yq hl
 obtain⟨f,fd,F,a⟩:=BP D _ hm
 cases Wz.symm.trans (PySem.W.mg_of X GM a)
 obtain⟨S,ok,l1,l2⟩:=cr _ hm
 obtain⟨oc,od,kV,il,pm,an,eY,ct,Co,rfl,_⟩:=id F.ex
 exact⟨_,λs v=> .of_eq rfl,λbase _ _=>A2 (n:=6) (f:=28) (d:=Nw) (ps:=["_law_script"]) hb vj (Ee (pL base) 6) F S rfl ok l1 l2⟩
end bX
def WA:PySem.Stmt:=bX.top 0
def eQ:PySem.Stmt:=bX.top 1
def cC:PySem.Stmt:=bX.top 2
def lj:PySem.Stmt:=bX.top 3
def JV:PySem.Stmt:=bX.top 4
def xp:PySem.Stmt:=bX.top 5
def WB:PySem.Stmt:=bX.top 6
def Lj:PySem.Stmt:=bX.top 7
def WC:PySem.Stmt:=bX.top 8
def WD:PySem.Stmt:=bX.top 9
def Rt:PySem.Stmt:=bX.top 10
def Ru:PySem.Stmt:=bX.top 11
def Rv:PySem.Stmt:=bX.top 12
def Rw:PySem.Stmt:=bX.top 13
def Rx:PySem.Stmt:=bX.top 14
def Ry:PySem.Stmt:=bX.top 15
def Rz:PySem.Stmt:=bX.top 16
def RA:PySem.Stmt:=bX.top 17
def RB:PySem.Stmt:=bX.top 18
def RC:PySem.Stmt:=bX.top 19
def RD:PySem.Stmt:=bX.top 20
def RE:PySem.Stmt:=bX.top 21
def RF:PySem.Stmt:=bX.top 22
def RG:PySem.Stmt:=bX.top 23
def RH:PySem.Stmt:=bX.top 24
def RK:PySem.Stmt:=bX.top 25
def RL:PySem.Stmt:=bX.top 26
def RM:PySem.Stmt:=bX.top 27
def RN:PySem.Stmt:=bX.top 28
def RO:PySem.Stmt:=bX.top 29
def RP:PySem.Stmt:=bX.top 30
def RQ:PySem.Stmt:=bX.top 31
def RS:PySem.Stmt:=bX.top 32
def RT:PySem.Stmt:=bX.top 33
def RU:PySem.Stmt:=bX.top 34
def WE:PySem.Program:={PySem.Challenge.pw_turnyard_k15_ladders_told with main:={PySem.Challenge.pw_turnyard_k15_ladders_told.main with body:=[WA,eQ,cC,lj,JV,xp,WB,Lj,WC,WD,Rt,Ru,Rv,Rw,Rx,Ry,Rz,RA,RB,RC,RD,RE,RF,RG,RH,RK,RL,RM,RN,RO,RP,RQ,RS,RT,RU]}}
def TQ:PySem.W.OpenLaw:={PySem.Challenge.rw_turnyard_k15_ladders_told with prog:=WE}
open PySem PySem.W PyProof.Rows
set_option maxRecDepth 100000 in
set_option maxHeartbeats 0 in
def hh:TQ.Holds:=by
 w_on;o_law;k_head;(case hw=>w_witness2)
 k_fill
 refine Py.Nk (x:="_law_script") (l:=TQ) (T:=bX.T) (n:=6+1) (f:=28) rfl rfl (by decide) (λw h Y=>PySem.W.kIn_of Y) ?F bX.holds
 case F=>
  intro w mg fa h KX G La
  refine' bX.all_mk KX G La ?D ?Z
  (case D=>
   iterate 31 (apply bX.Wy;(case a=>k_is);(case l=>k_is);(case c=>k_is);(case k=>k_is))
   exact trivial)
  (case Z=>
   iterate 12 (apply bX.zs;(case a=>k_is))
   exact trivial)
theorem PySem.Challenge.cw_turnyard_k15_ladders_told_holds : PySem.Challenge.rw_turnyard_k15_ladders_told.Holds :=
 hh
